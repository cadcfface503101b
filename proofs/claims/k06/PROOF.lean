import PyProof.Rows.All
import Wide.All
import OpenK.AllK
import Wide.FinOn
import Lean
import PyProof.EqAt
import PyProof.EqKinds
import PyProof.TupleCall
import PyProof.NeKinds
import KE.KSortTup
import PySem.Challenge.RW_surecall_k06_rows_done
local macro_rules|`($x⁻¹)=>`(($x).heap.objs.size)
local macro_rules|`(↑$x)=>`(($x).length)
local macro_rules|`(tactic|exists $es,*)=>`(tactic|refine⟨$es,*, ?_⟩)
set_option maxHeartbeats 8000000
local macro_rules|`(tactic|rfl')=>`(tactic|decide +kernel)
abbrev Fq:=PySem.W.Frag
abbrev Vp:=PySem.Value->PySem.Shared->Prop
set_option Elab.async false
set_option linter.all false
set_option maxRecDepth 100000
def bD:=@List.getElem?_eq_getElem
def zz2:=@List.getElem?_eq_some_iff
def aI:=@PySem.wpAny_bind
def aX:=@List.not_mem_nil
def bS:=@PySem.Heap.get?_push_of_some
def bI:=@List.length_append
def aU:=@Nat.le_refl
def bN:=@List.getElem?_map
def wm9:=@List.mem_cons
def bO:=@List.map_append
def wn1:=@List.mem_singleton
def bK:=@PySem.Heap.lt_size
def cL:=@Nat.le_of_lt
def bE:=@PySem.wpAny_pure
def cW:=@List.mem_of_getElem?
def bU:=@Nat.ne_of_lt
def wn7:=@List.mem_map
def dD:=@PySem.Heap.get?_push_size
def cO:=@List.size_toArray
def cN:=@of_decide_eq_true
def bM:=@Nat.zero_le
def dR:=@List.length_singleton
def eA:=@PySem.F.plainAttrs_list
def wp4:=@Option.map_eq_some_iff
def wp5:=@List.mem_append
def eX:=@PySem.F.slot_list_append
def eY:=@PySem.F.type_list_append
def fQ:=@List.getD_eq_getElem?_getD
def cU:=@List.length_cons
def fS:=@List.take_of_length_le
def dO:=@PySem.PassesOwn.never
def fY:=@List.mem_append_right
def eK:=@List.length_take
def fM:=@Nat.lt_of_lt_of_le
def fK:=@Bool.false_ne_true
def aY:=@if_neg
def wq7:=@List.nodup_cons
def dJ:=@Nat.ne_of_gt
def bC:=@if_pos
def bL:=@Ne.symm
def wr1:=@List.all_eq_true
def hC:=@List.mem_cons_of_mem
def jZ:=@List.getElem?_append_right
def fI:=@decide_eq_true
def gD:=@List.take_add_one
def wr6:=@List.mem_iff_getElem?
def kG:=@List.getElem?_append_left
def fH:=@List.map_cons
def gA:=@List.append_nil
def cK:=@congrArg
def eQ:=@PySem.wpAny_field
def gM:=@decide_eq_false
def gJ:=@Option.some.inj
def oB:=@PyProof.Rows.callWith_type1
def lW:=@PySem.wpAny_callSpecial?_slot
def kR:=@PySem.F.slot_dict_get
def cY:=@or_false
def iK:=@List.getElem_mem
def gC:=@Nat.le_trans
def gE:=@Nat.lt_trans
def kN:=@List.length_reverse
def fL:=@PySem.wpAny_mono
def jO:=@PySem.wpAny_newObj_type
def tN:=@List.drop_eq_getElem_cons
def nA:=@PySem.Calls.callWith_builtin
def iC:=@Nat.lt_irrefl
def kU:=@PySem.Calls.spliced_cons
def kY:=@PySem.wpAny_setField_rec
def lN:=@List.getElem_of_mem
def nC:=@PySem.builtinLookup_eq_fast
def jR:=@PySem.wpAny_call_entry
def iJ:=@PySem.boot_len
def iG:=@PySem.wpAny_holding
def fW:=@True.intro
def pI:=@PySem.Heap.get?_update_other
def jY:=@PySem.W.kia_one
def jG:=@PySem.wpAny_seqItems
def lC:=@List.append_assoc
def pM:=@List.length_filter_le
def kW:=@List.length_nil
def wH:=@PySem.F.plainAttrs_dict
def tK:=@List.mem_append_left
def lE:=@List.length_drop
def BR:=@List.take_succ_eq_append_getElem
def vF:=@PySem.F.entry_dict_get
def ww6:=@beq_eq_false_iff_ne
def uU:=@PySem.mem_of_lookup
def mS:=@Nat.lt_of_succ_lt
def kQ:=@List.nodup_nil
def xU:=@List.mem_or_eq_of_mem_set
def uZ:=@PySem.Heap.get?_update_self
def uC:=@List.mem_cons_self
def pS:=@PySem.tupleKind_room_in1
def nJ:=@Nat.le_add_right
def wG:=@PySem.Calls.evalArgs_plain
def rX:=@PySem.wpAny_truthy_bool
def tZ:=@PySem.Calls.spliced_nil
def iY:=@Sum.inr.inj
def oR:=@List.find?_cons
def nZ:=@PySem.wpAny_specialOf
def mR:=@PySem.F.slot_zip_next
def nS:=@PySem.typeLookup_type
def wz3:=@PySem.F.slot_NoneType_hash
def CI:=@PySem.F.slot_tuple_iterator_next
def tH:=@Bool.and_eq_true
def vS:=@PySem.wpAny_Call_Name_kw
def kX:=@List.map_map
def vC:=@Int.emod_lt_of_pos
def oH:=@PySem.Heap.size_push
def DF:=@List.getElem?_zip_eq_some
def EN:=@List.mem_of_find?_eq_some
def zA:=@List.forall_mem_cons
def sN:=@PySem.wpAny_passesOwn
def tR:=@Bool.eq_iff_iff
def vb5:=@PyProof.Rows.slot_tuple_getitem
def vE:=@PySem.wpAny_Call_method
def EK:=@PySem.wpAny_comprehension_free
def wN:=@Array.size_append
def mX:=@PySem.wpAny_standAt
def zK:=@List.replicate_succ
def DP:=@List.getElem?_cons_zero
def AN:=@List.map_congr_left
def vc3:=@List.length_eq_zero_iff
def wL:=@List.getElem_inj
def wM:=@Nat.lt_succ_self
def eM:=@Or.inl
def wC:=@List.drop_length
def sG:=@List.drop_zero
def EE:=@Array.getElem?_eq_none
def vT:=@List.nil_append
def nP:=@PySem.call_meetsIn
def BW:=@PySem.F.type_dict_get
def vZ:=@List.forIn_cons
def vO:=@Int.emod_nonneg
def xN:=@Int.toNat_natCast
def yS:=@Option.isSome_map
def uP:=@PySem.wpAny_attempt
def uF:=@PySem.W.mg_of
def vd9:=@PySem.F.slot_tuple_getitem
def fG:=@not_or
def DK:=@PySem.Around.under_plainId
def vf2:=@PySem.F.slot_dict_getitem
def uY:=@PySem.isSubtype_type
def iW:=@if_false
def vf5:=@List.any_eq_true
def xS:=@List.lookup_cons
def BX:=@List.filterMap_cons
def EQ:=@Array.length_toList
def nN:=@Nat.le_succ
def DT:=@PySem.F.plain_extend_loop
def vg1:=@PySem.F.slot_list_getattribute
def vg2:=@List.mem_filter
def AV:=@List.of_mem_zip
def vD:=@List.any_cons
def IW:=@PySem.F.args_dict_get_2
def IS:=@PySem.F.args_dict_get_3
def ER:=@Bool.false_eq_true
def vP:=@List.map_take
def BY:=@PySem.wpAny_pyIter_list
def EY:=@List.reverse_cons
def BP:=@List.flatten_cons
def DV:=@PySem.F.args_zip_next_1
def CS:=@List.foldl_append
def vh4:=@List.nodup_append
def BS:=@Option.some.injEq
def BD:=@List.map_drop
def sO:=@PySem.wpAny_rule
def rR:=@PySem.call_meets
def aK{α β:Type _}{f:α->β}{l:List α}:↑(l.map f)=↑l:=by simp
section
set_option autoImplicit true
set_option relaxedAutoImplicit true
namespace L2
open PySem PySem.Spec PyProof.Rows
variable{prog:Program}{w:World}{A:Around}{E:Vp}{s:Shared}
variable{X:Cx}
abbrev aG:=Sum Int Str
def iV:aG->Value->Bool
 | .inl k,v=>Value.isInt k v
 | .inr x,v=>Value.isStrOf x v
def yW(w:World):aG->Int
 | .inl k=>hashInt k
 | .inr x=>hashStr w x
def iN:∀{k:aG}{v:Value},iV k v=true->(∃i t,k=Sum.inl i/\v=Value.int i t)\/(∃x t,k=Sum.inr x/\v=Value.str x t)
 | .inl i,v,h=>by
  obtain⟨t,e⟩:=Value.isInt_shape (k:=i) (v:=v) h;exact .inl ⟨i,t,rfl,e⟩
 | .inr x,v,h=>by
  obtain⟨t,e⟩:=Value.isStrOf_shape (x:=x) (v:=v) h;exact .inr ⟨x,t,rfl,e⟩
def ZG(i:Int)(t:Tok):iV (.inl i) (.int i t)=true:=by simp[iV,Value.isInt]
def FQ(x:Str)(t:Tok):iV (.inr x) (.str x t)=true:=by simp[iV,Value.isStrOf]
def tD(a b:Int):decide ((Sum.inl a:aG)=Sum.inl b)=(a == b):=by
 by_cases e:a=b
 .subst e;simp
 .have h:¬(Sum.inl a:aG)=Sum.inl b:=λq=>e<|Sum.inl.inj q;rw[gM h];exact(ww6.mpr e).symm
def sE(a b:Str):decide ((Sum.inr a:aG)=Sum.inr b)=decide (a=b):=by
 by_cases e:a=b
 .subst e;simp
 .have h:¬(Sum.inr a:aG)=Sum.inr b:=λq=>e<|iY q;rw[gM h,gM e]
def uO(a:Int)(b:Str):decide ((Sum.inl a:aG)=Sum.inr b)=false:=gM λq=>nomatch q
def qJ(a:Str)(b:Int):decide ((Sum.inr a:aG)=Sum.inl b)=false:=gM λq=>nomatch q
def cB(prog:Program)(w:World):PySem.KeyKind prog w aG where
 is:=iV
 hash:=yW w
 inj:=λv a b ha hb=>by
  rcases iN ha with ⟨i,t,rfl,rfl⟩ | ⟨x,t,rfl,rfl⟩
  .rcases iN hb with ⟨j,u,rfl,e⟩ | ⟨y,u,rfl,e⟩
   .injection e with e1 _;rw[e1]
   .exact nomatch e
  .rcases iN hb with ⟨j,u,rfl,e⟩ | ⟨y,u,rfl,e⟩
   .exact nomatch e
   .injection e with e1 _;rw[e1]
 byValue:=λk v h=>by
  rcases iN h with ⟨i,t,rfl,rfl⟩ | ⟨x,t,rfl,rfl⟩ <;> rfl
 pyHash:=λhv h=>by
  rcases iN hv with ⟨i,t,rfl,rfl⟩ | ⟨x,t,rfl,rfl⟩
  .exact wpAny_pyHash_int h
  .exact wpAny_pyHash_str h
 eqBool:=λhu hv h=>by
  rcases iN hu with ⟨i,t,rfl,rfl⟩ | ⟨x,t,rfl,rfl⟩
  .rcases iN hv with ⟨j,u,rfl,rfl⟩ | ⟨y,u,rfl,rfl⟩
   .rw[tD]at h;exact wpAny_eqBool_int h
   .rw[uO]at h;exact SeqAt.EqAt.int_str i t y u _ _ _ _ h
  .rcases iN hv with ⟨j,u,rfl,rfl⟩ | ⟨y,u,rfl,rfl⟩
   .rw[qJ]at h;exact SeqAt.EqAt.str_int x t j u _ _ _ _ h
   .rw[sE]at h;exact wpAny_eqBool_str h
 «strs»:=λk x t v h=>by
  rcases iN h with ⟨i,u,rfl,e⟩ | ⟨y,u,rfl,e⟩
  .exact nomatch e
  .injection e with e1 _;subst e1;cases v <;> rfl
def TM(prog:Program)(w:World)(i:Int)(t:Tok):(cB prog w).is (.inl i) (.int i t)=true:=ZG i t
def Ab(prog:Program)(w:World)(x:Str)(t:Tok):(cB prog w).is (.inr x) (.str x t)=true:=FQ x t
inductive V where
 | non | bl (b:Bool) | int (i:Int) | str (x:Str) | byt (b:Array UInt8) | flt (b:UInt64) | ref (a:Addr) | ty (n:String)
 deriving DecidableEq
def RelV:V->Value->Prop
 | .non,u=>u=Value.none
 | .bl b,u=>u=Value.bool b
 | .int i,u=>∃t,u=Value.int i t
 | .str x,u=>∃t,u=Value.str x t
 | .byt b,u=>∃t,u=Value.bytes b t
 | .flt b,u=>∃t,u=Value.float b t
 | .ref a,u=>u=Value.ref a
 | .ty n,u=>u=Value.type n
abbrev Vals:List V->List Value->Prop:=Paired RelV
theorem Vals.length{xs:List V}{us:List Value}(r:Vals xs us):↑xs=↑us:=Paired.length r
theorem Vals.get:∀{xs:List V}{us:List Value}{i:Nat}{x:V},Vals xs us->xs[i]?=some x->∃u,us[i]?=some u/\RelV x u
 | _,_,_,_,.nil,e=>by simp at e
 | _,_,0,_,.cons r _,e=>by simp at e;subst e;exact⟨_,rfl,r⟩
 | _,_,i+1,x,.cons _ t,e=>by
  obtain⟨u,h1,h2⟩:=Vals.get (i:=i) (x:=x) t (by simpa using e);exact⟨u,by simpa using h1,h2⟩
theorem Vals.set{x:V}{u:Value}(r:RelV x u):∀{xs:List V}{us:List Value}(i:Nat),Vals xs us->Vals (xs.set i x) (us.set i u)
 | _,_,_,.nil=>.nil
 | _,_,0,.cons _ t=>.cons r t
 | _,_,i+1,.cons q t=>.cons q<|Vals.set r i t
theorem Vals.append:∀{xs ys:List V}{us ws:List Value},Vals xs us->Vals ys ws->Vals (xs++ys) (us++ws)
 | _,_,_,_,.nil,s=>s
 | _,_,_,_,.cons r t,s=>.cons r<|Vals.append t s
theorem Vals.take:∀{xs:List V}{us:List Value}(n:Nat),Vals xs us->Vals (xs.take n) (us.take n)
 | _,_,0,_=>.nil
 | _,_,_+1,.nil=>.nil
 | _,_,n+1,.cons r t=>.cons r<|Vals.take n t
theorem Vals.drop:∀{xs:List V}{us:List Value}(n:Nat),Vals xs us->Vals (xs.drop n) (us.drop n)
 | _,_,0,r=>r
 | _,_,_+1,.nil=>.nil
 | _,_,n+1,.cons _ t=>Vals.drop n t
def RelO:Option V->Option Value->Prop
 | some v,some u=>RelV v u
 | none,none=>True
 | _,_=>False
def KV{κ:Type}:List (κ×V)->List (κ×Value)->Prop:=Paired λ(p:κ×V) (q:κ×Value)=>p.1=q.1/\RelV p.2 q.2
def kV:aG->V
 | .inl i=>.int i
 | .inr x=>.str x
inductive HO where
 /-- a list -/
 | lst (xs:List V)
 /-- a tuple (never changes) -/
 | tup (xs:List V)
 /-- a dict whose keys are ints and texts;one whose keys are tuples of ints and texts (the empty one is both) -/
 | dK (kvs:List (aG×V)) | dT (kvs:List (List aG×V))
 /-- a set of ints: its members,its size -/
 | set (S:Int->Bool) (n:Nat)
 /-- an instance of the class at C,its dict at dx,its attributes -/
 | ins (C dx:Addr) (fs:List (Str×V))
 /-- the dict of the instance at x -/
 | own (x:Addr)
 /-- the dict of an exception -/
 | xd (fs:List (Str×V))
 /-- a bound method,f of x -/
 | met (f x:Addr)
 /-- a range object lo,lo+1,.. below hi -/
 | rng (lo hi:Int)
 /-- a thing that is known to the object (the script;a dict while a loop walks it): read,never written while it is so -/
 | frz (o:Obj) (u:HO)
 /-- a fE object's table -/
 | tbl (ps:Array Value)
 /-- any other thing,by what is true of its one object (a def of one's own: SetO a S n:=HO.ext λh=>..) -/
 | ext (φ:Heap->Prop)
abbrev Hp:=Addr->Option HO
def upd(H:Hp)(a:Addr)(o:HO):Hp:=λb=>if b=a then some o else H b
def zb1{H:Hp}{a:Addr}{o:HO}:upd H a o a=some o:=by unfold upd;rw[bC rfl]
def aC{H:Hp}{a b:Addr}{o:HO}(h:b≠a):upd H a o b=H b:=by unfold upd;rw[aY h]
def fT{H:Hp}{a:Addr}{o u:HO}:upd (upd H a o) a u=upd H a u:=by
 funext b;unfold upd;split <;> rfl
def mZ{H:Hp}{a b:Addr}{o u:HO}(h:H a=some o)(h':H b=some u)(d:o≠u):a≠b:=by
 intro e;subst e;rw[h]at h';exact d<|gJ h'
def aP{H:Hp}{a b:Addr}{o:HO}(h:H a=some o)(h':H b=none):a≠b:=by
 intro e;subst e;rw[h]at h';cases h'
def DN(h:Heap)(a:Addr):Prop:=∃o,h.get? a=some o/\o.dict=none
section
variable(P:Program)(w:World)
def ObjOk(H:Hp)(h:Heap)(a:Addr):HO->Prop
 | .lst xs=>↑xs<=sizeLine/\∃(its:List Value)(n:Nat),Vals xs its/\h.get? a=some {cls:=.type "list",data:=.seq its.toArray n}
 | .tup xs=>(↑xs<=sizeLine/\DN h a)/\∃its:List Value,Vals xs its/\IsTup h a its.toArray
 | .dK kvs=>↑kvs<=sizeLine/\(a == sysModules)=false/\∃vs,KV kvs vs/\h.DictOf (cB P w) a vs
 | .dT kvs=>↑kvs<=sizeLine/\(a == sysModules)=false/\∃xs:List (List aG×Addr×Value),
   Paired (λ(p:List aG×V) (q:List aG×Addr×Value)=>p.1=q.1/\H q.2.1=some (.tup<|p.1.map kV)/\RelV p.2 q.2.2) kvs xs/\
   ∃o es ep,h.get? a=some o/\o.ExactDict/\o.data=.dict es ep/\es.toList=xs.map (entryOfKey<|tupleKind<|cB P w)/\(xs.map (·.1)).Nodup
 | .set S n=>h.SetOf (intKind P w) a S n
 | .ins C dx fs=>H dx=some (.own a)/\↑fs<=1000/\dx≠a/\h.get? a=some (PySem.W.instObj C dx)/\
   ∃mA,h.Ns1 dx mA/\(∀f,RelO (fs.lookup f)<|mA f)/\PySem.Within mA (fs.map (·.1))
 | .own _=>∃o,h.get? a=some o
 | .xd fs=>∃mA,h.Ns1 a mA/\∀f,RelO (fs.lookup f)<|mA f
 | .rng lo hi=>∃t u v,h.get? a=some {cls:=.type "range",data:=.fields #[.int lo t,.int hi u,.int 1 v]}
 | .frz o u=>h.get? a=some o/\ObjOk H h a u
 | .tbl ps=>h.get? a=some {cls:=.none,data:=.fields ps}
 | .met f x=>h.get? a=some (PySem.W.methodObj (.ref f)<|.ref x)
 | .ext φ=>φ h/\(∃o,h.get? a=some o)/\∀h1 h2:Heap,φ h1->(∀o,h1.get? a=some o->h2.get? a=some o)->φ h2
def HOk(H:Hp)(h:Heap):Prop:=∀a o,H a=some o->ObjOk P w H h a o
end
section
variable{P:Program}{w:World}{H H':Hp}{h h':Heap}{a:Addr}{o:HO}
theorem ObjOk.lt(x:ObjOk P w H h a o):a<h.objs.size:=by
 cases o with
 | lst xs=>obtain⟨_,_,_,_,e⟩:=x;exact bK e
 | tup xs=>obtain⟨_,_,_,p⟩:=x;exact p.lt
 | dK kvs=>obtain⟨_,_,_,_,o,_,_,e,_⟩:=x;exact bK e
 | dT kvs=>obtain⟨_,_,_,_,o,_,_,e,_⟩:=x;exact bK e
 | set S n=>obtain⟨o,_,_,_,e,_⟩:=x;exact bK e
 | ins C dx fs=>obtain⟨_,_,_,e,_⟩:=x;exact bK e
 | own y=>obtain⟨_,e⟩:=x;exact bK e
 | xd fs=>obtain⟨_,⟨_,_,_,e,_⟩,_⟩:=x;exact bK e
 | rng lo hi=>obtain⟨_,_,_,e⟩:=x;exact bK e
 | frz ob u=>obtain⟨e,_⟩:=x;exact bK e
 | tbl ps=>exact bK (show h.get? a=some _ from x)
 | met f y=>exact bK (show h.get? a=some _ from x)
 | ext φ=>obtain⟨_,⟨_,e⟩,_⟩:=x;exact bK e
theorem Paired.mapP{α β:Type}{F G:α->β->Prop}:∀{l₁:List α}{l₂:List β},Paired F l₁ l₂->(∀a b,F a b->G a b)->Paired G l₁ l₂
 | _,_,.nil,_=>.nil
 | _,_,.cons r t,f=>.cons (f _ _ r)<|Paired.mapP t f
def ObjOk.stay(x:ObjOk P w H h a o)(k:∀b u,(b=a\/H b=some (.own a))->h.get? b=some u->h'.get? b=some u)
  (l:∀b,H b=some (.own a)->H' b=some (.own a)) (A:∀b xs,H b=some (.tup xs)->H' b=some (.tup xs)):ObjOk P w H' h' a o:=by
 induction o with
 | lst xs=>obtain⟨z,its,n,r,e⟩:=x;exact⟨z,its,n,r,k _ _ (.inl rfl) e⟩
 | tup xs=>obtain⟨⟨z,od,s,j⟩,y⟩:=x;obtain⟨its,r,i,e,c⟩:=y;exact⟨⟨z,od,k _ _ (.inl rfl) s,j⟩,its,r,i,k _ _ (.inl rfl) e,c⟩
 | dK kvs=>obtain⟨z,y,vs,r,i,es,ep,e,c⟩:=x;exact⟨z,y,vs,r,i,es,ep,k _ _ (.inl rfl) e,c⟩
 | dT kvs=>
  obtain⟨z,y,xs,r,i,es,ep,e,c⟩:=x;exact⟨z,y,xs,Paired.mapP r λp q z=>⟨z.1,A _ _ z.2.1,z.2.2⟩,i,es,ep,k _ _ (.inl rfl) e,c⟩
 | set S n=>obtain⟨i,es,ep,t,e,c⟩:=x;exact⟨i,es,ep,t,k _ _ (.inl rfl) e,c⟩
 | ins C dx fs=>
  obtain⟨d,z,ne,e,mA,⟨od,es,ep,m,c⟩,r⟩:=x;exact⟨l _ d,z,ne,k _ _ (.inl rfl) e,mA,⟨od,es,ep,k _ _ (.inr d) m,c⟩,r⟩
 | own y=>obtain⟨i,e⟩:=x;exact⟨i,k _ _ (.inl rfl) e⟩
 | xd fs=>obtain⟨mA,⟨od,es,ep,e,c⟩,r⟩:=x;exact⟨mA,⟨od,es,ep,k _ _ (.inl rfl) e,c⟩,r⟩
 | rng lo hi=>obtain⟨t,u,v,e⟩:=x;exact⟨t,u,v,k _ _ (.inl rfl) e⟩
 | frz i u ih=>obtain⟨e,q⟩:=x;exact⟨k _ _ (.inl rfl) e,ih q⟩
 | tbl ps=>
  have e:h.get? a=some {cls:=.none,data:=.fields ps}:=x;show h'.get? a=some {cls:=.none,data:=.fields ps};exact k a _ (.inl rfl) e
 | met f y=>
  have e:h.get? a=some (PySem.W.methodObj (.ref f)<|.ref y):=x;show h'.get? a=some (PySem.W.methodObj (.ref f)<|.ref y);exact k a _ (.inl rfl) e
 | ext φ=>obtain⟨p,⟨o,e⟩,st⟩:=x;exact⟨st _ _ p λo q=>k _ _ (.inl rfl) q,⟨o,k _ _ (.inl rfl) e⟩,st⟩
theorem HOk.lt(x:HOk P w H h)(e:H a=some o):a<h.objs.size:=(x a o e).lt
def HOk.fresh(x:HOk P w H h)(e:h.objs.size<=a):H a=none:=by
 cases q:H a with
 | none=>rfl
 | some u=>exact absurd (fM (x.lt q) e)<|iC _
def HOk.kept(x:HOk P w H h)(k:∀b u,h.get? b=some u->h'.get? b=some u):HOk P w H h':=λa o e=>
 (x a o e).stay (λb u _ q=>k b u q) (λ_ q=>q) λ_ _ q=>q
def HOk.laid(x:HOk P w H h)(k:∀b u,h.get? b=some u->h'.get? b=some u)(hp:h.objs.size<=a)(new:ObjOk P w (upd H a o) h' a o):HOk P w (upd H a o) h':=λb u e=>by
 have f:=x.fresh hp
 by_cases d:b=a
 .subst d;rw[zb1]at e;cases e;exact new
 .rw[aC d]at e;exact(x b u e).stay (λc v _ q=>k c v q) (λc q=>by rw[aC<|aP q f];exact q) λc xs q=>by rw[aC<|aP q f];exact q
end
def Rd(H:Hp)(a:Addr)(u:HO):Prop:=H a=some u\/∃o,H a=some (.frz o u)
def Rd.ok{P:Program}{w:World}{H:Hp}{h:Heap}{a:Addr}{u:HO}(r:Rd H a u)(x:HOk P w H h):ObjOk P w H h a u:=by
 rcases r with r | ⟨o,r⟩
 .exact x a u r
 .obtain⟨_,q⟩:=x a _ r;exact q
def zO:Option HO->Prop
 | some (.lst _)=>True
 | some (.dK _)=>True
 | some (.dT _)=>True
 | some (.set _ _)=>True
 | some (.ins _ _ _)=>True
 | some (.ext _)=>True
 | _=>False
section
variable{P:Program}{w:World}{H:Hp}{h h':Heap}{x e:Addr}{o':HO}
def HOk.write(ok:HOk P w H h)(d:zO (H x))(he:e=x\/H e=some (.own x))(k:∀b u,b≠e->h.get? b=some u->h'.get? b=some u)(n:∃u,h'.get? e=some u)
  (new:ObjOk P w (upd H x o') h' x o'):HOk P w (upd H x o') h':=λb u q=>by
 have j:∀c y,H c=some (.own y)->c≠x:=λc y r z=>by subst z;rw[r]at d;exact d
 have m:∀c xs,H c=some (.tup xs)->c≠x:=λc xs r z=>by subst z;rw[r]at d;exact d
 by_cases f:b=x
 .subst f;rw[zb1]at q;cases q;exact new
 .rw[aC f]at q
  by_cases a:b=e
  .have l:H b=some (.own x):=by
    rcases he with z | z
    .exact absurd (a.trans z) f
    .rw[a];exact z
   rw[q]at l;cases l;obtain⟨v,o⟩:=n;exact⟨v,by rw[a];exact o⟩
  .refine(ok b u q).stay (λc v i r=>k c v ?_ r) (λc r=>by rw[aC<|j c b r];exact r) λc xs r=>by rw[aC<|m c xs r];exact r
   rcases i with rfl | i
   .exact a
   .rintro rfl;rcases he with z | z
    .exact j c b i z
    .rw[i]at z;cases z;exact f rfl
end
structure Un(fs ex:List Addr)(H H':Hp)(h h':Heap):Prop where
 keep:∀b o,h.get? b=some o->H b=none->b∉fs->b∉ex->h'.get? b=some o
 slot:∀b o,h.get? b=some o->H b=none->b∈fs->b∉ex->∃sl,h'.get? b=some {o with slots:=sl}
 free:∀b o,h.get? b=some o->H b=none->b∉ex->H' b=none
 there:∀b o,h.get? b=some o->b∉ex->∃o',h'.get? b=some o'
 tups:∀b xs,H b=some (.tup xs)->H' b=some (.tup xs)
 frzs:∀b o u,H b=some (.frz o u)->H' b=some (.frz o u)
 tbls:∀b ps,H b=some (.tbl ps)->∃more,H' b=some (.tbl<|ps++more)
section
variable{fs fs' ex ex':List Addr}{H H1 H2:Hp}{h h1 h2 h':Heap}{a x e:Addr}{o:HO}
def Un.any(u:Un fs ex H H1 h h1){b:Addr}{a:Obj}(q:h.get? b=some a)(n:H b=none)(e:b∉ex):∃sl,h1.get? b=some {a with slots:=sl}:=by
 by_cases d:b∈fs
 .exact u.slot b a q n d e
 .exact⟨a.slots,u.keep b a q n d e⟩
def Un.kept(k:∀b u,h.get? b=some u->h'.get? b=some u):Un fs ex H H h h':=
 ⟨λb a q _ _ _=>k b a q,λb a q _ _ _=>⟨a.slots,k b a q⟩,λ_ _ _ n _=>n,λb a q _=>⟨a,k b a q⟩,λ_ _ q=>q,λ_ _ _ q=>q,λ_ ps q=>⟨#[],by rw[q];simp⟩⟩
def Un.refl:Un fs ex H H h h:=Un.kept λ_ _ q=>q
def Un.laid(k:∀b u,h.get? b=some u->h'.get? b=some u)(hp:h.objs.size<=a)(d:H a=none):Un fs ex H (upd H a o) h h' where
 keep:=λb u q _ _ _=>k b u q
 slot:=λb u q _ _ _=>⟨u.slots,k b u q⟩
 free:=λb u q n _=>by rw[aC<|bU<|fM (bK q) hp];exact n
 there:=λb u q _=>⟨u,k b u q⟩
 tups:=λb xs q=>by rw[aC<|aP q d];exact q
 frzs:=λb u xs q=>by rw[aC<|aP q d];exact q
 tbls:=λb ps q=>⟨#[],by rw[aC<|aP q d,q];simp⟩
def Un.write(a:zO (H x))(he:e=x\/H e=some (.own x))(k:∀b u,b≠e->h.get? b=some u->h'.get? b=some u)(l:∃u,h'.get? e=some u):Un fs ex H (upd H x o) h h':=by
 have i:∀b,H b=none->b≠x:=λb n z=>by subst z;rw[n]at a;exact a
 have f:∀b,H b=none->b≠e:=λb n z=>by
  subst z;rcases he with r | r
  .exact i b n r
  .rw[n]at r;cases r
 have d:∀b u,H b=some u->¬zO (some u)->b≠x:=λb u q nm z=>by subst z;rw[q]at a;exact nm a
 refine⟨λb u q n _ _=>k b u (f b n) q,λb u q n _ _=>⟨u.slots,k b u (f b n) q⟩,λb u q n _=>by rw[aC<|i b n];exact n,λb u q _=>?_,
  λb xs q=>by rw[aC<|d b _ q λz=>z];exact q,λb u xs q=>by rw[aC<|d b _ q λz=>z];exact q,λb ps q=>⟨#[],by rw[aC<|d b _ q λz=>z,q];simp⟩⟩
 by_cases j:b=e
 .subst j;exact l
 .exact⟨u,k b u j q⟩
end
def CH(h:Heap)(H:Hp):List Addr:=(List.range h.objs.size).filter λa=>(H a).isSome
def fZ(h:Heap)(H:Hp):Heap:=PySem.W.hideAll h<|CH h H
def UH(h:Heap)(H:Hp):(fZ h H).objs.size=h.objs.size:=PySem.W.hideAll_size _ _
def VL{h:Heap}{H:Hp}{b:Addr}{o:Obj}(e:h.get? b=some o)(n:H b=none):(fZ h H).get? b=some o:=
 PySem.W.hideAll_get _ e λa=>by
  have q:(H b).isSome=true:=(vg2.mp a).2;rw[n]at q;simp at q
def UP{h:Heap}{H:Hp}{b:Addr}{o:Obj}(e:(fZ h H).get? b=some o):h.get? b=some o/\H b=none:=by
 have a:h.get? b=some o:=PySem.W.of_hideAll (CH h H) e;exists a;cases q:H b with
 | none=>rfl
 | some x=>
  have d:b∈CH h H:=vg2.mpr ⟨List.mem_range.mpr<|bK a,by simp[q]⟩;have z:(fZ h H).get? b=none:=PySem.W.hideAll_none (CH h H) d;rw[z]at e;cases e
def UX(g h:Heap)(L:Addr):List (Addr×Obj):=(List.range h.objs.size).filterMap λa=>if a=L\/(g.get? a).isSome=true then none else(h.get? a).map λo=>(a,o)
def rest(g h:Heap)(L d:Addr):List (Addr×Obj):=(UX g h L).filter λp=>decide<|p.1≠d
structure Mod(K:Fq)(mg:Str->Option Value)(base:Heap):Prop where
 kin:K.In base
 glob:base.Ns mainGlobals mg
 blt:∃mb,base.Ns builtinsNs mb/\∀x:Str,x≠"__name__"->mb x=bootBuiltins x
 nolimit:base.NoLimit
structure Cx where
 prog:Program
 w:World
 K:Fq
 mg:Str->Option Value
 base:Heap
 A:Around
 N:List Str
 s₀:Shared
 H₀:Hp
 env:Env
 outer:List Env
 stack:List Env
 ex:List Addr
 fn:Str->Bool
 calm:Bool
 pn:List (Addr×Obj)
 xe:Value->Shared->Prop
def kS(l:List Env):List Addr:=l.filterMap (·.frame)
abbrev Cx.fs(X:Cx):List Addr:=kS X.outer
def zP(sc:Scope)(x:Str):Prop:=sc.names.lookup x=some .local\/sc.names.lookup x=some .cell\/sc.names.lookup x=some .free
def vJ(sc:Scope)(x:Str):Prop:=sc.names.lookup x=some .local\/sc.names.lookup x=some .cell
def GV(env:Env)(h:Heap)(m:Str->Option Value)(x:Str)(u:Value):Prop:=
 (env.kindOf x=some .local/\m x=some u)\/((env.kindOf x=some .cell\/env.kindOf x=some .free)/\∃c,env.cells.lookup x=some c/\h.IsCell c (some u))
structure Cx.Ok(X:Cx):Prop where
 mod:Mod X.K X.mg X.base
 kind:X.env.scope.kind=.function
 glob:X.env.globals=mainGlobals
 blt:X.env.builtins=builtinsNs
 above:X.s₀⁻¹<=X.env.locals
 inj:∀x y c,X.env.cells.lookup x=some c->X.env.cells.lookup y=some c->x=y
 has:∀x,(X.env.kindOf x=some .cell\/X.env.kindOf x=some .free)->∃c,X.env.cells.lookup x=some c
 cab:∀x c,X.fn x=true->X.env.cells.lookup x=some c->X.s₀⁻¹<=c
 hd:X.calm=true->X.A.handled=none
 frames:X.A.frames=some X.stack
 stk:X.stack=X.outer\/(X.stack=X.env::X.outer/\X.env.frame=some X.env.locals)
 exf:∀b∈X.ex,b≠X.env.locals/\∀x c,X.env.cells.lookup x=some c->c≠b
 bs:∀b o,X.base.get? b=some o->X.s₀.heap.get? b=some o/\X.H₀ b=none
 bsz:X.base.objs.size<=X.s₀⁻¹
 noex:∀b o,X.base.get? b=some o->b∉X.ex
 exfs:∀b∈X.ex,b∉X.fs
 funs:X.s₀.heap.FunFrames X.base X.outer
 frf:∀b∈X.fs,X.H₀ b=none
structure Inv(X:Cx)(pins:List (Addr×Obj))(σ:List (Option V))(H:Hp)(s:Shared):Prop where
 ok:X.Ok
 os:s.os=X.s₀.os
 bare:AllBare s.gens
 base:Un X.fs X.ex X.H₀ H X.s₀.heap s.heap
 loc:∃m,s.heap.Ns X.env.locals m/\∀(i:Nat)(x:Str)(v:V),X.N[i]?=some x->σ[i]?=some (some v)->zP X.env.scope x->∃u,RelV v u/\GV X.env s.heap m x u
 cell:∀x c,X.env.cells.lookup x=some c->∃v,s.heap.IsCell c v
 free:H X.env.locals=none
 freeC:∀x c,X.env.cells.lookup x=some c->H c=none
 pin:∀p∈X.pn++pins,s.heap.get? p.1=some p.2/\H p.1=none/\p.1≠X.env.locals/\p.1∉X.fs/\∀v,p.2.data≠.cell v
 hok:HOk X.prog X.w H s.heap
 len:↑σ=X.N.length
section
variable{pins:List (Addr×Obj)}{σ:List (Option V)}{H H':Hp}{s:Shared}{h':Heap}
def Cx.Ok.nofr(ok:X.Ok){b:Addr}{o:Obj}(e:X.base.get? b=some o):b∉X.fs:=λa=>by
 have:=(ok.funs.mem a).1;rw[e]at this;cases this
theorem Inv.bs(I:Inv X pins σ H s):∀b o,X.base.get? b=some o->s.heap.get? b=some o/\H b=none:=λb o e=>
 ⟨I.base.keep b o (I.ok.bs b o e).1 (I.ok.bs b o e).2 (I.ok.nofr e)<|I.ok.noex b o e,I.base.free b o (I.ok.bs b o e).1 (I.ok.bs b o e).2<|I.ok.noex b o e⟩
def Inv.bk(I:Inv X pins σ H s):∀b o,X.base.get? b=some o->s.heap.get? b=some o:=λb o e=>(I.bs b o e).1
theorem Inv.mod(I:Inv X pins σ H s):Mod X.K X.mg X.base:=I.ok.mod
def Inv.kIn(I:Inv X pins σ H s):X.K.In s.heap:=I.ok.mod.kin.keeps I.bk
theorem Inv.lt(I:Inv X pins σ H s):X.env.locals<s⁻¹:=let ⟨_,hn,_⟩:=I.loc;hn.lt
def Inv.sz(I:Inv X pins σ H s):X.s₀⁻¹<=s⁻¹:=gC I.ok.above<|cL I.lt
def Inv.nofs(I:Inv X pins σ H s){a:Addr}(h:s⁻¹<=a):a∉X.fs:=λb=>by
 obtain⟨_,o,d,_⟩:=I.ok.funs.mem b;exact absurd (fM (bK d)<|gC I.sz h)<|iC _
def Inv.cne(I:Inv X pins σ H s):∀x c,X.env.cells.lookup x=some c->c≠X.env.locals:=λx c e z=>by
 obtain⟨v,o,a,hd⟩:=I.cell x c e;obtain⟨m,⟨o',es,ep,d,b,_⟩,_⟩:=I.loc;rw[z,d]at a;cases a;rw[b]at hd;cases hd
theorem Inv.funs(I:Inv X pins σ H s):s.heap.FunFrames X.base X.outer:=by
 have all:∀(l:List Env),(∀b∈kS l,b∈X.fs)->X.s₀.heap.FunFrames X.base l->s.heap.FunFrames X.base l:=by
  intro l
  induction l with
  | nil=>intro _ _;trivial
  | cons env r ih=>
   intro hs hl;obtain⟨j,⟨L,o,f,i,h,hd⟩,hr⟩:=hl;have d:L∈X.fs:=hs L (by unfold kS;rw[BX,f];exact uC);obtain⟨m,e⟩:=I.base.slot L o h (I.ok.frf L d) d λz=>I.ok.exfs L z d;exact⟨j,⟨L,_,f,i,e,hd⟩,ih (λb a=>hs b<|by unfold kS;rw[BX,f];exact hC _ a) hr⟩
 exact all X.outer (λ_ a=>a) I.ok.funs
theorem Inv.stack(I:Inv X pins σ H s):s.heap.FunFrames X.base X.stack:=by
 rcases I.ok.stk with e | ⟨e,hf⟩
 .rw[e];exact I.funs
 .rw[e];obtain⟨m,a,_⟩:=I.loc;refine .cons (by rw[I.ok.kind];decide) hf a ?_ I.funs;exact Heap.get?_none_of_le<|gC I.ok.bsz I.ok.above
def Inv.stkSub(I:Inv X pins σ H s):∀b∈kS X.stack,b∈X.env.locals::X.fs:=λb a=>by
 rcases I.ok.stk with e | ⟨e,hf⟩
 .rw[e]at a;exact hC _ a
 .rw[e]at a;unfold kS at a;rw[BX,hf]at a;exact a
def Inv.stkFree(I:Inv X pins σ H s):∀b∈kS X.stack,H b=none:=λb a=>by
 rcases wm9.mp (I.stkSub b a)with e | a
 .rw[e];exact I.free
 .obtain⟨_,o,d,_⟩:=I.ok.funs.mem a;exact I.base.free b o d (I.ok.frf b a) λz=>I.ok.exfs b z a
def Inv.step{g':Array GenState}{t':Nat}{d':Drawn}{ch:List Addr}(I:Inv X pins σ H s)
  (C:∀b∈ch,(b∈X.ex\/X.s₀⁻¹<=b)/\b≠X.env.locals/\(∀x c,X.env.cells.lookup x=some c->c≠b)/\∀p∈X.pn++pins,p.1≠b)
  (keep:∀b o,b≠X.env.locals->b∉X.fs->b∉ch->s.heap.get? b=some o->H b=none->h'.get? b=some o)
  (slot:∀b o,b≠X.env.locals->b∈X.fs->b∉ch->s.heap.get? b=some o->H b=none->∃J,h'.get? b=some {o with slots:=J}) (free:∀b o,b∉ch->s.heap.get? b=some o->H b=none->H' b=none)
  (there:∀b o,b∉ch->s.heap.get? b=some o->∃o',h'.get? b=some o')
  (tups:∀b xs,H b=some (.tup xs)->H' b=some (.tup xs)) (frzs:∀b o u,H b=some (.frz o u)->H' b=some (.frz o u)) (tbls:∀b ps,H b=some (.tbl ps)->∃more,H' b=some (.tbl<|ps++more))
  (Y:∀m,s.heap.Ns X.env.locals m->h'.Ns X.env.locals m) (G:HOk X.prog X.w H' h') (O:AllBare g'):
  Inv X pins σ H' {s with heap:=h',gens:=g',drawn:=d',toks:=t'}:=by
 have L:∀b o,X.s₀.heap.get? b=some o->b≠X.env.locals:=λb o e=>bU<|fM (bK e) I.ok.above;have E:∀b o,X.s₀.heap.get? b=some o->b∉X.ex->b∉ch:=λb o e a h=>by
  rcases(C b h).1 with z | z
  .exact a z
  .exact absurd (fM (bK e) z)<|iC _
 have M:∀x c,X.env.cells.lookup x=some c->∀v,s.heap.IsCell c v->h'.IsCell c v:=by
  rintro x c e v ⟨o,j,hd⟩;have B:c∉ch:=λz=>(C c z).2.2.1 x c e rfl
  by_cases N:c∈X.fs
  .obtain⟨J,q⟩:=slot c o (I.cne x c e) N B j<|I.freeC x c e;exact⟨_,q,hd⟩
  .exact⟨o,keep c o (I.cne x c e) N B j<|I.freeC x c e,hd⟩
 refine⟨I.ok,I.os,O,⟨λb o e n h a=>?_,λb o e n h a=>?_,λb o e n a=>?_,λb o e a=>?_,λb xs e=>tups b xs<|I.base.tups b xs e,λb o xs e=>frzs b o xs<|I.base.frzs b o xs e,λb ps e=>?_⟩,?_,λx c e=>?_,?_,λx c e=>?_,λp hp=>?_,G,I.len⟩
 .exact keep b o (L b o e) h (E b o e a) (I.base.keep b o e n h a)<|I.base.free b o e n a
 .obtain⟨J,f⟩:=I.base.slot b o e n h a;obtain⟨W,A⟩:=slot b _ (L b o e) h (E b o e a) f<|I.base.free b o e n a;exact⟨W,A⟩
 .obtain⟨o',f⟩:=I.base.there b o e a;exact free b o' (E b o e a) f<|I.base.free b o e n a
 .obtain⟨o',f⟩:=I.base.there b o e a;exact there b o' (E b o e a) f
 .obtain⟨T,f⟩:=I.base.tbls b ps e;obtain⟨m2,A⟩:=tbls b _ f;exact⟨T++m2,by rw[A,Array.append_assoc]⟩
 .obtain⟨m,P,hl⟩:=I.loc;refine⟨m,Y m P,λi x v f A Z=>?_⟩;obtain⟨u,r,l⟩:=hl i x v f A Z;exists u,r;rcases l with l | ⟨k,c,e,z⟩
  .exact .inl l
  .exact .inr ⟨k,c,e,M x c e _ z⟩
 .obtain⟨v,z⟩:=I.cell x c e;exact⟨v,M x c e v z⟩
 .obtain⟨m,⟨o,_,_,j,_⟩,_⟩:=I.loc;exact free _ o (λz=>(C _ z).2.1 rfl) j I.free
 .obtain⟨v,o,j,hd⟩:=I.cell x c e;exact free c o (λz=>(C c z).2.2.1 x c e rfl) j<|I.freeC x c e
 .obtain⟨e,n,ne,K,d⟩:=I.pin p hp;have B:p.1∉ch:=λz=>(C p.1 z).2.2.2 p hp rfl;exact⟨keep p.1 p.2 ne K B e n,free p.1 p.2 B e n,ne,K,d⟩
def Inv.un{t':Nat}(I:Inv X pins σ H s)(u:Un X.fs [] H H' s.heap h')(d:HOk X.prog X.w H' h'):Inv X pins σ H' {s with heap:=h',toks:=t'}:=by
 obtain⟨m,⟨o,es,ep,f,r⟩,_⟩:=id I.loc;obtain⟨x,l⟩:=u.any f I.free (by simp);exact I.step (g':=s.gens) (d':=s.drawn) (ch:=[]) (λ_ z=>nomatch z) (λb o _ a _ e n=>u.keep b o e n a<|by simp) (λb o _ a _ e n=>u.slot b o e n a<|by simp) (λb o _ e n=>u.free b o e n<|by simp) (λb o _ e=>u.there b o e<|by simp) u.tups u.frzs u.tbls (λm' q=>by
  obtain⟨o',j,i,h,r'⟩:=q;rw[f]at h;cases h;exact⟨_,j,i,l,r'⟩) d I.bare
def Inv.call{g':Array GenState}{t':Nat}{d':Drawn}{ch:List Addr}(I:Inv X pins σ H s)(u:Un (kS X.stack) ch H H' s.heap h')(f:HOk X.prog X.w H' h')(C:AllBare g')
  (h:∀b∈ch,(b∈X.ex\/X.s₀⁻¹<=b)/\b≠X.env.locals/\(∀x c,X.env.cells.lookup x=some c->c≠b)/\∀p∈X.pn++pins,p.1≠b):
  Inv X pins σ H' {s with heap:=h',gens:=g',drawn:=d',toks:=t'}:=by
 obtain⟨m,⟨o,es,ep,i,r⟩,_⟩:=id I.loc;obtain⟨E,d⟩:=u.any i I.free λz=>(h _ z).2.1 rfl;exact I.step (ch:=ch) h (λb o d q a e n=>u.keep b o e n (λz=>(wm9.mp<|I.stkSub b z).elim d q) a) (λb o _ _ a e n=>u.any e n a) (λb o a e n=>u.free b o e n a) (λb o a e=>u.there b o e a) u.tups u.frzs u.tbls (λm' B=>by
  obtain⟨o',A,l,j,r'⟩:=B;rw[i]at j;cases j;exact⟨_,A,l,d,r'⟩) f C
def Inv.turned{t':Nat}{it:Addr}(I:Inv X pins σ H s)(k:∀b o,b≠it->s.heap.get? b=some o->h'.get? b=some o)(w:H it=none)(d:it≠X.env.locals)
  (h1:it∈X.ex\/X.s₀⁻¹<=it) (h2:∀x c,X.env.cells.lookup x=some c->c≠it) (l:∀p∈X.pn++pins,p.1≠it):Inv X pins σ H {s with heap:=h',toks:=t'}:=by
 have f:∀b u,H b=some u->b≠it:=λb u e z=>by rw[z,w]at e;cases e
 refine I.step (g':=s.gens) (d':=s.drawn) (ch:=[it]) (λb h=>?_) (λb o _ _ a e _=>k b o (λz=>a<|by simp[z]) e) (λb o _ _ a e _=>⟨o.slots,k b o (λz=>a<|by simp[z]) e⟩) (λ_ _ _ _ n=>n)
  (λb o a e=>⟨o,k b o (λz=>a<|by simp[z]) e⟩) (λ_ _ e=>e) (λ_ _ _ e=>e) (λb ps e=>⟨#[],by rw[e];simp⟩) (λm j=>?_) (λb u e=>?_) I.bare
 .have e:b=it:=by simpa using h
  subst e;exact⟨h1,d,h2,l⟩
 .obtain⟨o,es,ep,i,r⟩:=j;exact⟨o,es,ep,k _ o (bL d) i,r⟩
 .refine(I.hok b u e).stay (λc v a q=>k c v ?_ q) (λ_ q=>q) λ_ _ q=>q;rcases a with z | z
  .rw[z];exact f b u e
  .exact f c _ z
def Inv.tok(I:Inv X pins σ H s)(t:Nat):Inv X pins σ H {s with toks:=t}:=I.un (h':=s.heap) (t':=t) Un.refl I.hok
theorem Inv.kept{t':Nat}(I:Inv X pins σ H s)(k:∀b u,s.heap.get? b=some u->h'.get? b=some u):Inv X pins σ H {s with heap:=h',toks:=t'}:=I.un (Un.kept k)<|I.hok.kept k
theorem Inv.laid{a:Addr}{o:HO}{t':Nat}(I:Inv X pins σ H s)(k:∀b u,s.heap.get? b=some u->h'.get? b=some u)(hp:s⁻¹<=a)(new:ObjOk X.prog X.w (upd H a o) h' a o):
  Inv X pins σ (upd H a o) {s with heap:=h',toks:=t'}:=I.un (Un.laid k hp<|I.hok.fresh hp)<|I.hok.laid k hp new
theorem Inv.write{x e:Addr}{o:HO}{t':Nat}(I:Inv X pins σ H s)(a:zO (H x))(he:e=x\/H e=some (.own x))(k:∀b u,b≠e->s.heap.get? b=some u->h'.get? b=some u)(d:∃u,h'.get? e=some u)
  (new:ObjOk X.prog X.w (upd H x o) h' x o):Inv X pins σ (upd H x o) {s with heap:=h',toks:=t'}:=I.un (Un.write a he k d)<|I.hok.write a he k d new
def Inv.pins_of{a:List (Addr×Obj)}(I:Inv X pins σ H s)(h:∀p∈a,s.heap.get? p.1=some p.2/\H p.1=none/\p.1≠X.env.locals/\p.1∉X.fs/\∀v,p.2.data≠.cell v):Inv X a σ H s:=
 ⟨I.ok,I.os,I.bare,I.base,I.loc,I.cell,I.free,I.freeC,λp hp=>(wp5.mp hp).elim (λz=>I.pin p<|tK _ z)<|h p,I.hok,I.len⟩
def OP{N:List Str}(f:N.Nodup){i j:Nat}{x:Str}(a:N[i]?=some x)(b:N[j]?=some x):i=j:=by
 obtain⟨h1,e⟩:=zz2.mp a;obtain⟨h2,d⟩:=zz2.mp b;exact(wL f).mp<|e.trans d.symm
def JE{M:Model}{A:Around}{E:Vp}{i:Nat}{x:Str}{v:V}{u:Value}{Q:Unit->Shared->Prop}(I:Inv X pins σ H s)(hN:X.N.Nodup)(hi:X.N[i]?=some x)(B:vJ X.env.scope x)(r:RelV v u)
  (h:∀s',Inv X pins (σ.set i<|some v) H s'->(∃a,Heap.SameBut a s.heap s'.heap/\(a=X.env.locals\/X.env.cells.lookup x=some a))->Q () s') (hf:X.fn x=true\/X.env.scope.names.lookup x=some .local:=by first | exact .inl rfl | exact .inr rfl | assumption):wpAny M A (storeName X.env x u) Q E s:=by
 obtain⟨m,O,hl⟩:=id I.loc;have a4:(X.env.scope.kind == .class || (X.env.scope.kind == .module && X.env.locals != X.env.globals))=false:=by rw[I.ok.kind];rfl
 have a8:i<↑σ:=by rw[I.len];exact(zz2.mp hi).1
 have cne:=I.cne;have a0:∀{a:Addr}{h':Heap},(∃o,s.heap.get? a=some o/\H a=none)->Heap.SameBut a s.heap h'->HOk X.prog X.w H h':=λ{a h'} ha hs b ob e=>by
  obtain⟨_,_,a1⟩:=ha;refine(I.hok b ob e).stay (λc K l q=>(hs.2 c ?_).trans q) (λ_ q=>q) λ_ _ q=>q;rintro rfl;rcases l with rfl | l
  .rw[a1]at e;cases e
  .rw[a1]at l;cases l
 rcases B with hk | hk
 .refine wpAny_storeName_local hk O (λh' aa hs=>?_) a4;obtain⟨oL,_,_,a9,_⟩:=id O;refine h _ ⟨I.ok,I.os,I.bare,⟨λb o e n G B=>?_,λb o e n G B=>?_,I.base.free,λb o e B=>?_,I.base.tups,I.base.frzs,I.base.tbls⟩,⟨_,aa,λj y Y f C W=>?_⟩,λy c e=>?_,I.free,I.freeC,λp hp=>?_,a0 ⟨oL,a9,I.free⟩ hs,by simpa using I.len⟩ ⟨_,hs,.inl rfl⟩
  .exact(hs.2 b<|bU<|fM (bK e) I.ok.above).trans (I.base.keep b o e n G B)
  .obtain⟨Z,f⟩:=I.base.slot b o e n G B;exact⟨Z,(hs.2 b<|bU<|fM (bK e) I.ok.above).trans f⟩
  .obtain⟨o',f⟩:=I.base.there b o e B;exact⟨o',(hs.2 b<|bU<|fM (bK e) I.ok.above).trans f⟩
  .by_cases J:j=i
   .subst J;rw[hi]at f;cases f;rw[List.getElem?_set_self a8]at C;cases C;exact⟨u,r,.inl ⟨hk,by simp⟩⟩
   .rw[List.getElem?_set_ne<|bL J]at C;obtain⟨P,r',q⟩:=hl j y Y f C W;exists P,r';rcases q with ⟨k,e⟩ | ⟨k,c,e,z⟩
    .refine .inl ⟨k,?_⟩;have:y≠x:=λe=>J<|OP hN f<|e▸hi;simp[this,e]
    .exact .inr ⟨k,c,e,z.sameBut hs<|cne y c e⟩
  .obtain⟨K,z⟩:=I.cell y c e;exact⟨K,z.sameBut hs<|cne y c e⟩
  .obtain⟨e,n,ne,L,d⟩:=I.pin p hp;exact⟨(hs.2 p.1 ne).trans e,n,ne,L,d⟩
 .have T:X.fn x=true:=by
   rcases hf with z | z
   .exact z
   .rw[z]at hk;cases hk
  obtain⟨c,l⟩:=I.ok.has x<|.inl hk;obtain⟨K,z⟩:=I.cell x c l;refine wpAny_storeName_cell I.ok.kind hk l z λh' a7 hs=>?_;obtain⟨oc,a5,a2⟩:=id z;refine h {s with heap:=h'} ⟨I.ok,I.os,I.bare,⟨λb o e n G B=>?_,λb o e n G B=>?_,I.base.free,λb o e B=>?_,I.base.tups,I.base.frzs,I.base.tbls⟩,⟨m,O.sameBut hs<|bL<|cne x c l,λj y Y f C W=>?_⟩,λy c' e=>?_,I.free,I.freeC,λp hp=>?_,a0 ⟨oc,a5,I.freeC x c l⟩ hs,by simpa using I.len⟩ ⟨c,hs,.inr l⟩
  .exact(hs.2 b<|bU<|fM (bK e)<|I.ok.cab x c T l).trans (I.base.keep b o e n G B)
  .obtain⟨Z,f⟩:=I.base.slot b o e n G B;exact⟨Z,(hs.2 b<|bU<|fM (bK e)<|I.ok.cab x c T l).trans f⟩
  .obtain⟨o',f⟩:=I.base.there b o e B;exact⟨o',(hs.2 b<|bU<|fM (bK e)<|I.ok.cab x c T l).trans f⟩
  .by_cases J:j=i
   .subst J;rw[hi]at f;cases f;rw[List.getElem?_set_self a8]at C;cases C;exact⟨u,r,.inr ⟨.inl hk,c,l,a7⟩⟩
   .rw[List.getElem?_set_ne<|bL J]at C;obtain⟨P,r',q⟩:=hl j y Y f C W;exists P,r';rcases q with q | ⟨k,c',e,z'⟩
    .exact .inl q
    .refine .inr ⟨k,c',e,z'.sameBut hs ?_⟩;rintro rfl;exact J<|OP hN f<|I.ok.inj _ _ _ e l▸hi
  .by_cases a6:c'=c
   .subst a6;exact⟨_,a7⟩
   .obtain⟨w2,z2⟩:=I.cell y c' e;exact⟨w2,z2.sameBut hs a6⟩
  .obtain⟨e,n,ne,L,d⟩:=I.pin p hp;refine⟨(hs.2 p.1 ?_).trans e,n,ne,L,d⟩;intro q;rw[q,a5]at e;have q':oc=p.2:=gJ e;exact d K (by rw[<-q'];exact a2)
def CM{M:Model}{A:Around}{E:Vp}{i:Nat}{x:Str}{v:V}{u:Value}{Q:Unit->Shared->Prop}(I:Inv X pins σ H s)(b:X.N.Nodup)(hi:X.N[i]?=some x)(e:vJ X.env.scope x)(r:RelV v u)
  (h:∀s',Inv X pins (σ.set i<|some v) H s'->Q () s') (d:X.fn x=true\/X.env.scope.names.lookup x=some .local:=by first | exact .inl rfl | exact .inr rfl | assumption):wpAny M A (storeName X.env x u) Q E s:=
 JE I b hi e r (λs' a _=>h s' a) d
end
abbrev XK:=Value->Option Addr->Hp->Prop
abbrev St:=List<|Option V
abbrev VK:=V->Hp->Prop
abbrev TE:=St->Hp->VK->Prop
abbrev TT:=St->Hp->(Bool->Hp->Prop)->Prop
abbrev TA:=St->Hp->(List V->Hp->Prop)->Prop
structure cR where
 nx:St->Hp->Prop
 rt:VK
 bk:St->Hp->Prop:=λ_ _=>False
 ct:St->Hp->Prop:=λ_ _=>False
abbrev TS:=cR->St->Hp->Prop
def EP(X:Cx)(pins:List (Addr×Obj))(σ:St)(Q:VK)(u:Value)(s':Shared):Prop:=∃v H',Inv X pins σ H' s'/\RelV v u/\Q v H'
def TP(X:Cx)(pins:List (Addr×Obj))(σ:St)(Q:Bool->Hp->Prop)(b:Bool)(s':Shared):Prop:=∃H',Inv X pins σ H' s'/\Q b H'
def AP(X:Cx)(pins:List (Addr×Obj))(σ:St)(Q:List V->Hp->Prop)(us:List Value)(s':Shared):Prop:=∃vs H',Inv X pins σ H' s'/\Vals vs us/\Q vs H'
def SP(X:Cx)(pins:List (Addr×Obj))(D:cR)(f:Flow)(s':Shared):Prop:=
 match f with
 | .next=>∃σ' H',Inv X pins σ' H' s'/\D.nx σ' H'
 | .brk=>∃σ' H',Inv X pins σ' H' s'/\D.bk σ' H'
 | .cont=>∃σ' H',Inv X pins σ' H' s'/\D.ct σ' H'
 | .ret u=>∃v σ' H',Inv X pins σ' H' s'/\RelV v u/\D.rt v H'
def PE(X:Cx)(e:Expr)(t:TE):Prop:=
 ∀(pins:List (Addr×Obj))(s:Shared)(σ:St)(H:Hp)(Q:VK),Inv X pins σ H s->t σ H Q->wpAny (model X.prog X.w) X.A (eval e X.env) (EP X pins σ Q) X.xe s
def PT(X:Cx)(e:Expr)(t:TT):Prop:=
 ∀(pins:List (Addr×Obj))(s:Shared)(σ:St)(H:Hp)(Q:Bool->Hp->Prop),Inv X pins σ H s->t σ H Q->wpAny (model X.prog X.w) X.A (isTrue e X.env<|eval e X.env) (TP X pins σ Q) X.xe s
def PW(X:Cx)(e:Expr)(t:TT):Prop:=
 ∀(whole:Sem Value)(pins:List (Addr×Obj))(s:Shared)(σ:St)(H:Hp)(Q:Bool->Hp->Prop),Inv X pins σ H s->t σ H Q->wpAny (model X.prog X.w) X.A (isTrue e X.env whole) (TP X pins σ Q) X.xe s
def PW.pt{X:Cx}{e:Expr}{t:TT}(h:PW X e t):PT X e t:=h _
def PA(X:Cx)(es:List Expr)(t:TA):Prop:=
 ∀(pos:Pos)(pins:List (Addr×Obj))(s:Shared)(σ:St)(H:Hp)(Q:List V->Hp->Prop),Inv X pins σ H s->t σ H Q->wpAny (model X.prog X.w) X.A (spliced<|backTo pos<|starEach es X.env) (AP X pins σ Q) X.xe s
def PS(X:Cx)(st:Stmt)(t:TS):Prop:=
 ∀(pins:List (Addr×Obj))(s:Shared)(σ:St)(H:Hp)(D:cR),Inv X pins σ H s->t D σ H->wpAny (model X.prog X.w) X.A (exec st X.env) (SP X pins D) X.xe s
def PSs(X:Cx)(st:List Stmt)(t:TS):Prop:=
 ∀(pins:List (Addr×Obj))(s:Shared)(σ:St)(H:Hp)(D:cR),Inv X pins σ H s->t D σ H->wpAny (model X.prog X.w) X.A (execs st X.env) (SP X pins D) X.xe s
def aQ{α:Type}{t:Sem α}{Q b:α->Shared->Prop}{M:Model}{A:Around}{E:Vp}{s:Shared}(h:wpAny M A t Q E s)(d:∀a s,Q a s->b a s):wpAny M A t b E s:=fL h d λ_ _ x=>x
section
inductive zZ(i:Nat)(σ:List (Option V))(H:Hp)(Q:VK):Prop
 | mk(v:V)(h:σ[i]?=some (some v))(q:Q v H):zZ i σ H Q
def aJ(i:Nat):TE:=λσ H Q=>zZ i σ H Q
def tC(v:V):TE:=λ_ H Q=>Q v H
def GH{i:Nat}{x:Str}{pos:Pos}(n:X.N[i]?=some x)(j:zP X.env.scope x)(hd:(x == ("__debug__":Str))=false:=by decide)(d:(x == ("__classdict__":Str))=false:=by decide):PE X (.Name x pos) (aJ i):=by
 intro b s σ H Q I h;obtain⟨v,e,h⟩:=h;obtain⟨m,f,hl⟩:=I.loc;obtain⟨u,r,l⟩:=hl i x v n e j;have a:EP X b σ Q u s:=⟨v,H,I,r,h⟩;rcases l with ⟨hk,hm⟩ | ⟨hk,c,hc,hcell⟩
 .exact wpAny_Name (wpAny_loadName_local I.ok.kind hk f hm a) hd
 .rcases hk with hk | hk
  .exact wpAny_Name (wpAny_loadName_cell I.ok.kind hk hc hcell a) hd
  .exact wpAny_Name (wpAny_loadName_free I.ok.kind hk hc hcell a d) hd
def aO{i j pos}:PE X (.Constant (.int i) j pos) (tC<|.int i):=λ_ _ _ H _ I h=>wpAny_Constant_int ⟨.int i,H,I.tok _,⟨_,rfl⟩,h⟩
def xP{b j pos}:PE X (.Constant (.bool b) j pos) (tC<|.bl b):=λ_ _ _ H _ I h=>Constant_bool ⟨.bl b,H,I,rfl,h⟩
def iH{j pos}:PE X (.Constant .none j pos) (tC .non):=λ_ _ _ H _ I h=>Constant_none ⟨.non,H,I,rfl,h⟩
def bA{x j pos}:PE X (.Constant (.str x) j pos) (tC<|.str x):=λ_ _ _ H _ I h=>Calls.Constant_str ⟨.str x,H,I.tok _,⟨_,rfl⟩,h⟩
def Gl(X:Cx)(x:Str):Prop:=X.env.kindOf x=some .globalImplicit
def FV{E:Vp}{d:List (Addr×Obj)}{s:Shared}{σ:St}{H:Hp}{x:Str}{u:Value}{pos:Pos}{Q:Vp}(I:Inv X d σ H s)(b:Gl X x)(a:X.mg x=some u)(h:Q u s)
  (hd:(x == ("__debug__":Str))=false:=by decide):wpAny (model X.prog X.w) X.A (eval (.Name x pos) X.env) Q E s:=
 Calls.Name_function_global I.ok.kind b (Calls.loadGlobal_global (by rw[I.ok.glob];exact I.mod.glob.keeps I.bk) a h) hd
def kL{E:Vp}{e:List (Addr×Obj)}{s:Shared}{σ:St}{H:Hp}{x:Str}{u:Value}{pos:Pos}{Q:Vp}(I:Inv X e σ H s)(d:Gl X x)(b:X.mg x=none)(a:bootBuiltins x=some u)(h:Q u s)
  (f:x≠"__name__":=by decide) (hd:(x == ("__debug__":Str))=false:=by decide):wpAny (model X.prog X.w) X.A (eval (.Name x pos) X.env) Q E s:=by
 obtain⟨i,h1,h2⟩:=I.mod.blt;exact Calls.Name_function_global I.ok.kind d (Calls.loadGlobal_builtin (by rw[I.ok.glob];exact I.mod.glob.keeps I.bk) b (by rw[I.ok.blt];exact h1.keeps I.bk) ((h2 x f).trans a) h) hd
def yR{x:Str}{v:V}{u:Value}{pos:Pos}(b:Gl X x)(a:X.mg x=some u)(r:RelV v u)(hd:(x == ("__debug__":Str))=false:=by decide):PE X (.Name x pos) (tC v):=
 λ_ _ _ H _ I h=>FV I b a ⟨v,H,I,r,h⟩ hd
def tP{x:Str}{v:V}{u:Value}{pos:Pos}(d:Gl X x)(b:X.mg x=none)(a:bootBuiltins x=some u)(r:RelV v u)(e:x≠"__name__":=by decide)(hd:(x == ("__debug__":Str))=false:=by decide):PE X (.Name x pos) (tC v):=
 λ_ _ _ H _ I h=>kL I d b a ⟨v,H,I,r,h⟩ e hd
variable{a b:Expr}{ta tb:TE}{pos:Pos}
def PC(X:Cx)(op:CmpOp)(a b:Expr)(t:TE):Prop:=
 ∀(pins:List (Addr×Obj))(s:Shared)(σ:St)(H:Hp)(Q:VK),Inv X pins σ H s->t σ H Q->
  wpAny (model X.prog X.w) X.A (eval a X.env) (λv s₁=>wpAny (model X.prog X.w) X.A (eval b X.env) (λu s₂=>wpAny (model X.prog X.w) X.A (compareOp op v u) (EP X pins σ Q) X.xe s₂) X.xe s₁) X.xe s
def MH(b:Expr){a:CmpOp}(h:a≠.In)(h2:a≠.NotIn):behindInMarks a b=false:=by
 have e:(a == CmpOp.In)=false:=by cases a <;> first | rfl | exact absurd rfl h
 have d:(a == CmpOp.NotIn)=false:=by cases a <;> first | rfl | exact absurd rfl h2
 cases b <;> simp[behindInMarks,e,d]
def yI(ta:TE):TE:=λσ H Q=>ta σ H λx H1=>Q (.bl<|decide<|x=.non) H1
def AI(ta:TE):TE:=λσ H Q=>ta σ H λx H1=>Q (.bl<|!decide (x=.non)) H1
def RelV.none_iff{x:V}{v:Value}(r:RelV x v):(v == Value.none)=decide (x=.non):=by
 cases x with
 | non=>cases r;rfl
 | bl _=>cases r;rfl
 | int _=>obtain⟨t,rfl⟩:=r;rfl
 | str _=>obtain⟨t,rfl⟩:=r;rfl
 | byt _=>obtain⟨t,rfl⟩:=r;rfl
 | flt _=>obtain⟨t,rfl⟩:=r;rfl
 | ref _=>cases r;rfl
 | ty _=>cases r;rfl
def nL{j pos'}(f:PE X a ta):PC X .Is a (.Constant .none j pos') (yI ta):=by
 intro e s σ H Q I h;refine aQ (f e s σ H _ I h) ?_;rintro v l ⟨x,H1,i,d,b⟩;exact Constant_none<|is_none_gen ⟨.bl _,H1,i,by rw[d.none_iff];rfl,b⟩
def rP{j pos'}(f:PE X a ta):PC X .IsNot a (.Constant .none j pos') (AI ta):=by
 intro e s σ H Q I h;refine aQ (f e s σ H _ I h) ?_;rintro v l ⟨x,H1,i,d,b⟩;exact Constant_none<|isnot_none_gen ⟨.bl _,H1,i,by rw[d.none_iff];rfl,b⟩
inductive tG(x:V)(H:Hp)(Q:Bool->Hp->Prop):Prop
 | mk(c:Bool)(h:x=.bl c)(q:Q c H):tG x H Q
def tB(t:TE):TT:=λσ H Q=>t σ H λx H1=>tG x H1 Q
def RW{d:CmpOp}{t:TE}(h:PC X d a b t)(h1:behindInMarks d b=false:=by first | exact MH _ (by decide) (by decide) | rfl):PE X (.Compare a [d] [b] pos) t:=λf s σ H Q I e=>wpAny_Compare1 (h f s σ H Q I e) h1
def hV{e:CmpOp}{t:TE}(h:PC X e a b t)(h1:behindInMarks e b=false:=by first | exact MH _ (by decide) (by decide) | rfl):PT X (.Compare a [e] [b] pos) (tB t):=by
 intro m s σ H Q I i;refine wpAny_isTrue_Compare1 (aQ (h m s σ H _ I i) λv n h1=>aQ h1 λu s2 h2=>aQ h2 λc s3 ⟨x,H1,f,l,j⟩=>?_) h1;obtain⟨d,rfl,q⟩:=j;cases l;exact rX ⟨H1,f,q⟩
def zW{e:Expr}{t:TE}(h:PE X e t)(he:∀whole,isTrue e X.env whole=(do let v <-whole;standAt e.pos;holding [v]<|truthy v):=by intro _;rfl):PT X e (tB t):=by
 intro j s σ H Q I b;refine isTrue_plain (aQ (h j s σ H _ I b) λv l ⟨x,H1,a,i,f⟩=>?_)<|he _;obtain⟨d,rfl,q⟩:=f;cases i;exact rX ⟨H1,a,q⟩
variable{tA tB':TT}{rest:List Expr}
def iT(t u:TT):TT:=λσ H Q=>t σ H λc H1=>if c=true then u σ H1 Q else Q false H1
def GO(t u:TT):TT:=λσ H Q=>t σ H λc H1=>if c=true then Q true H1 else u σ H1 Q
def HL(t:TT):TT:=λσ H Q=>t σ H λc H1=>Q (!c) H1
def lR(d:PT X a tA):PW X (.BoolOp .And [a] pos) tA:=by
 intro i b s σ H Q I h;refine isTrue_and<|aQ (d b s σ H Q I h) λc f e=>?_;cases c with
 | true=>exact isTrue_and_nil e
 | false=>exact e
def II(d:PT X a tA):PW X (.BoolOp .Or [a] pos) tA:=by
 intro i b s σ H Q I h;refine isTrue_or<|aQ (d b s σ H Q I h) λc f e=>?_;cases c with
 | false=>exact isTrue_or_nil e
 | true=>exact e
def kA(m:PT X a tA)(j:PW X (.BoolOp .And (b::rest) pos) tB'):PW X (.BoolOp .And (a::b::rest) pos) (iT tA tB'):=by
 intro l e s σ H Q I h;refine isTrue_and<|aQ (m e s σ H _ I h) ?_;rintro c i ⟨H1,f,d⟩;cases c with
 | true=>exact j l e i σ H1 Q f d
 | false=>exact⟨H1,f,d⟩
def JY(m:PT X a tA)(j:PW X (.BoolOp .Or (b::rest) pos) tB'):PW X (.BoolOp .Or (a::b::rest) pos) (GO tA tB'):=by
 intro l e s σ H Q I h;refine isTrue_or<|aQ (m e s σ H _ I h) ?_;rintro c i ⟨H1,f,d⟩;cases c with
 | true=>exact⟨H1,f,d⟩
 | false=>exact j l e i σ H1 Q f d
def qN(d:PT X a tA):PT X (.UnaryOp .Not a pos) (HL tA):=by
 intro b s σ H Q I h;exact isTrue_not<|d b s σ H (λc H1=>Q (!c) H1) I h
def yA(ta tb:TE):TE:=λσ H Q=>ta σ H λx H1=>∃c,x=.bl c/\if c=true then tb σ H1 Q else Q (.bl false) H1
def yQ(ta:TE):TE:=λσ H Q=>ta σ H λx H1=>∃c,x=.bl c/\Q (.bl<|!c) H1
def IV{op}{t:TE}(h:PE X a t):PE X (.BoolOp op [a] pos) t:=λd s σ H Q I b=>BoolOp_one<|h d s σ H Q I b
def xZ(l:PE X a ta)(j:PE X (.BoolOp .And (b::rest) pos) tb):PE X (.BoolOp .And (a::b::rest) pos) (yA ta tb):=by
 intro f s σ H Q I h;refine BoolOp_and<|aQ (l f s σ H _ I h) ?_;rintro v i ⟨x,H1,e,m,d⟩;obtain⟨c,rfl,d⟩:=d;cases m;refine rX ?_;cases c with
 | true=>exact j f i σ H1 Q e d
 | false=>exact⟨.bl false,H1,e,rfl,d⟩
def rY(f:PE X a ta):PE X (.UnaryOp .Not a pos) (yQ ta):=by
 intro e s σ H Q I h;refine UnaryOp_<|aQ (f e s σ H _ I h) ?_;rintro v j ⟨x,H1,i,d,b⟩;obtain⟨c,rfl,b⟩:=b;cases d;exact not_of<|rX ⟨.bl<|!c,H1,i,rfl,b⟩
def ZS(t:TT)(ta tb:TE):TE:=λσ H Q=>t σ H λc H1=>if c=true then ta σ H1 Q else tb σ H1 Q
def HF{c:Expr}(m:PT X c tA)(n:PE X a ta)(l:PE X b tb):PE X (.IfExp c a b pos) (ZS tA ta tb):=by
 intro e s σ H Q I h;refine wpAny_IfExp<|aQ (m e s σ H _ I h) ?_;rintro d i ⟨H1,j,f⟩;cases d with
 | true=>exact n e i σ H1 Q j f
 | false=>exact l e i σ H1 Q j f
end
def SqL(K:Fq)(H:Hp)(a:Addr)(xs:List V):Prop:=
 Rd H a (.lst xs)\/
  ∃(o:Obj)(its:Array Value)(n:Nat),K.lookup a=some o/\o.cls=.type "list"/\o.dict=none/\o.data=.seq its n/\its.size<=sizeLine/\Vals xs its.toList
def SqT(K:Fq)(H:Hp)(a:Addr)(xs:List V):Prop:=
 Rd H a (.tup xs)\/
  ∃(o:Obj)(its:Array Value)(n:Nat),K.lookup a=some o/\o.cls=.type "tuple"/\o.data=.seq its n/\its.size<=sizeLine/\Vals xs its.toList
def GK:Value->Option V
 | .none=>some .non
 | .bool b=>some<|.bl b
 | .int i _=>some<|.int i
 | .str x _=>some<|.str x
 | .bytes b _=>some<|.byt b
 | .float b _=>some<|.flt b
 | .ref a=>some<|.ref a
 | .type n=>some<|.ty n
 | _=>none
def RelV.abs{x:V}{u:Value}(r:RelV x u):GK u=some x:=by
 cases x with
 | non=>cases r;rfl
 | bl _=>cases r;rfl
 | int _=>obtain⟨t,rfl⟩:=r;rfl
 | str _=>obtain⟨t,rfl⟩:=r;rfl
 | byt _=>obtain⟨t,rfl⟩:=r;rfl
 | flt _=>obtain⟨t,rfl⟩:=r;rfl
 | ref _=>cases r;rfl
 | ty _=>cases r;rfl
def RelV.inj{x y:V}{u:Value}(r:RelV x u)(q:RelV y u):x=y:=gJ<|r.abs.symm.trans q.abs
theorem Vals.inj:∀{xs ys:List V}{us:List Value},Vals xs us->Vals ys us->xs=ys
 | _,_,_,.nil,.nil=>rfl
 | _,_,_,.cons r t,.cons r' t'=>by rw[r.inj r',Vals.inj t t']
section
variable{pins:List (Addr×Obj)}{σ:St}{H:Hp}{s:Shared}{a:Addr}{xs ys:List V}
def SqL.of{K:Fq}(h:H a=some (.lst xs)):SqL K H a xs:=.inl<|.inl h
def SqT.of{K:Fq}(h:H a=some (.tup xs)):SqT K H a xs:=.inl<|.inl h
def Inv.list(I:Inv X pins σ H s)(h:SqL X.K H a xs):∃its:List Value,Vals xs its/\PlainL s.heap a its.toArray/\↑xs<=sizeLine:=by
 rcases h with h | ⟨o,its,n,hk,hc,hd,hs,hz,r⟩
 .obtain⟨z,its,n,r,e⟩:=h.ok I.hok;exact⟨its,r,⟨_,n,e,rfl,rfl,rfl⟩,z⟩
 .exists its.toList,r,⟨o,n,I.kIn a o hk,hc,hd,by simpa using hs⟩;have e:=↑r;simp only[EQ]at e;lia
def Inv.tuple(I:Inv X pins σ H s)(h:SqT X.K H a xs):∃its:List Value,Vals xs its/\IsTup s.heap a its.toArray/\↑xs<=sizeLine:=by
 rcases h with h | ⟨o,its,n,hk,hc,hs,hz,r⟩
 .obtain⟨z,its,r,p⟩:=h.ok I.hok;exact⟨its,r,p,z.1⟩
 .exists its.toList,r,⟨o,I.kIn a o hk,hc,n,by simpa using hs⟩;have e:=↑r;simp only[EQ]at e;lia
def Inv.list_inj(I:Inv X pins σ H s)(h:SqL X.K H a xs)(h':SqL X.K H a ys):xs=ys:=by
 obtain⟨its,r,⟨o,n,e,_,_,d⟩,_⟩:=I.list h;obtain⟨its',r',⟨o',f,b,_,_,d'⟩,_⟩:=I.list h';rw[e]at b;cases b;rw[d]at d';injection d' with d1 _;have:its=its':=by simpa using cK Array.toList d1
 subst this;exact r.inj r'
def Inv.tuple_inj(I:Inv X pins σ H s)(h:SqT X.K H a xs)(h':SqT X.K H a ys):xs=ys:=by
 obtain⟨its,r,⟨o,e,_,n,d⟩,_⟩:=I.tuple h;obtain⟨its',r',⟨o',b,_,f,d'⟩,_⟩:=I.tuple h';rw[e]at b;cases b;rw[d]at d';injection d' with d1 _;have:its=its':=by simpa using cK Array.toList d1
 subst this;exact r.inj r'
end
abbrev Cx.wish(X:Cx)(E:Vp):Cx:={X with xe:=E}
abbrev Cx.nox(X:Cx):Cx:=X.wish λ_ _=>False
theorem Cx.Ok.wish{X:Cx}(ok:X.Ok)(E:Vp):(X.wish E).Ok:=
 ⟨ok.mod,ok.kind,ok.glob,ok.blt,ok.above,ok.inj,ok.has,ok.cab,ok.hd,ok.frames,ok.stk,ok.exf,ok.bs,ok.bsz,ok.noex,ok.exfs,ok.funs,ok.frf⟩
def Cx.Ok.unwish{X:Cx}{E:Vp}(ok:(X.wish E).Ok):X.Ok:=
 ⟨ok.mod,ok.kind,ok.glob,ok.blt,ok.above,ok.inj,ok.has,ok.cab,ok.hd,ok.frames,ok.stk,ok.exf,ok.bs,ok.bsz,ok.noex,ok.exfs,ok.funs,ok.frf⟩
section
variable{pins:List (Addr×Obj)}{σ:St}{H:Hp}{s:Shared}{E:Vp}
theorem Inv.wish(I:Inv X pins σ H s)(E:Vp):Inv (X.wish E) pins σ H s:=⟨I.ok.wish E,I.os,I.bare,I.base,I.loc,I.cell,I.free,I.freeC,I.pin,I.hok,I.len⟩
theorem Inv.unwish(I:Inv (X.wish E) pins σ H s):Inv X pins σ H s:=⟨I.ok.unwish,I.os,I.bare,I.base,I.loc,I.cell,I.free,I.freeC,I.pin,I.hok,I.len⟩
theorem SP.unwish{D:cR}{f:Flow}{s':Shared}(h:SP (X.wish E) pins D f s'):SP X pins D f s':=by
 cases f with
 | next=>obtain⟨σ',H',I,q⟩:=h;exact⟨σ',H',I.unwish,q⟩
 | brk=>obtain⟨σ',H',I,q⟩:=h;exact⟨σ',H',I.unwish,q⟩
 | cont=>obtain⟨σ',H',I,q⟩:=h;exact⟨σ',H',I.unwish,q⟩
 | ret u=>obtain⟨v,σ',H',I,r,q⟩:=h;exact⟨v,σ',H',I.unwish,r,q⟩
theorem PSs.nox{st:List Stmt}{t:TS}(h:PSs X.nox st t):PSs X st t:=λb s σ H D I a=>
 fL (h b s σ H D (I.wish _) a) (λ_ _ q=>q.unwish) λ_ _ z=>False.elim z
end
section
variable{st:Stmt}{rest:List Stmt}{t u:TS}{e:Expr}{te:TE}{pos:Pos}
def pR:TS:=λD σ H=>D.nx σ H
def fJ(t u:TS):TS:=λD σ H=>t {D with nx:=u D} σ H
def cZ:PSs X [] pR:=λ_ _ σ H _ I h=>wpAny_execs_nil ⟨σ,H,I,h⟩
def aL(h1:PS X st t)(h2:PSs X rest u):PSs X (st::rest) (fJ t u):=by
 intro a s σ H D I h;refine wpAny_execs_cons<|aQ (h1 a s σ H {D with nx:=u D} I h) λf b q=>?_;cases f with
 | next=>
  obtain⟨σ',H',d,q⟩:=q;exact h2 a b σ' H' D d q
 | ret v=>exact q
 | brk=>exact q
 | cont=>exact q
def aS(h1:PS X st t):PSs X [st] t:=by
 intro a s σ H D I h;refine wpAny_execs_cons<|aQ (h1 a s σ H D I h) λf b q=>?_;cases f with
 | next=>exact wpAny_execs_nil q
 | ret v=>exact q
 | brk=>exact q
 | cont=>exact q
def Inv.quiet{a:List (Addr×Obj)}{σ:St}{H:Hp}{s:Shared}(I:Inv X a σ H s):interactive X.env=false:=by simp[interactive,I.ok.kind]
def BN(te:TE):TS:=λD σ H=>te σ H λ_ H1=>D.nx σ H1
def dW(he:PE X e te)(hs:swapsWith e none pos.line X.env=pure false:=by rfl):PS X (.Expr e pos) (BN te):=by
 intro b s σ H D I h;exact wpAny_Expr_any (aQ (he b s σ H _ I h) <| by rintro v f ⟨x,H1,d,i,a⟩;exact⟨σ,H1,d,a⟩) I.quiet hs
def gO(te:TE):TS:=λD σ H=>te σ H D.rt
def bT(he:PE X e te):PS X (.Return (some e) pos) (gO te):=by
 intro d s σ H D I h;exact wpAny_Return_some (aQ (he d s σ H _ I h) <| by rintro v i ⟨x,H1,f,b,a⟩;exact⟨x,σ,H1,f,b,a⟩)
def xB:TS:=λD _ H=>D.rt .non H
def RU:PS X (.Return none pos) xB:=λ_ _ σ H _ I h=>wpAny_Return_none ⟨.non,σ,H,I,rfl,h⟩
def iA(c:TT)(t u:TS):TS:=λD σ H=>c σ H λb H1=>if b=true then t D σ H1 else u D σ H1
def cI{c:Expr}{a b:List Stmt}{tc:TT}(m:PT X c tc)(n:PSs X a t)(l:PSs X b u):PS X (.If c a b pos) (iA tc t u):=by
 intro e s σ H D I h;refine wpAny_If<|aQ (m e s σ H _ I h) ?_;rintro d i ⟨H1,j,f⟩;cases d with
 | true=>exact n e i σ H1 D j f
 | false=>exact l e i σ H1 D j f
def QV:TS:=λ_ _ _=>False
def YH:PS X st QV:=λ_ _ _ _ _ _ h=>h.elim
def ES{a:List Stmt}:PSs X a QV:=λ_ _ _ _ _ _ h=>h.elim
end
abbrev TG:=V->St->Hp->(St->Hp->Prop)->Prop
abbrev mK:=List V->St->Hp->(St->Hp->Prop)->Prop
def PG(X:Cx)(target:Expr)(t:TG):Prop:=
 ∀(pins:List (Addr×Obj))(s:Shared)(σ:St)(H:Hp)(v:V)(u:Value)(Q:St->Hp->Prop),Inv X pins σ H s->RelV v u->t v σ H Q->
  wpAny (model X.prog X.w) X.A (assign target X.env u) (λ_ s'=>∃σ' H',Inv X pins σ' H' s'/\Q σ' H') X.xe s
def CF(X:Cx)(ts:List Expr)(t:mK):Prop:=
 ∀(pins:List (Addr×Obj))(s:Shared)(σ:St)(H:Hp)(vs:List V)(us:List Value)(Q:St->Hp->Prop),Inv X pins σ H s->Vals vs us->t vs σ H Q->
  wpAny (model X.prog X.w) X.A (assignInOrder ((assignEach ts X.env).map (·.2)) us) (λ_ s'=>∃σ' H',Inv X pins σ' H' s'/\Q σ' H') X.xe s
abbrev pG:=V->V->V->Hp->(Hp->Prop)->Prop
def AK(X:Cx)(t:pG):Prop:=
 ∀(pins:List (Addr×Obj))(s:Shared)(σ:St)(H:Hp)(o i v:V)(ov iv u:Value)(Q:Hp->Prop),Inv X pins σ H s->RelV o ov->RelV i iv->RelV v u->t o i v H Q->
  wpAny (model X.prog X.w) X.A (setItem ov iv u) (λ_ s'=>∃H',Inv X pins σ H' s'/\Q H') X.xe s
section
variable{pos:Pos}
def bW(i:Nat):TG:=λv σ H Q=>Q (σ.set i<|some v) H
def vH{i:Nat}{x:Str}(b:X.N.Nodup)(hi:X.N[i]?=some x)(e:vJ X.env.scope x)(d:X.fn x=true\/X.env.scope.names.lookup x=some .local:=by first | exact .inl rfl | exact .inr rfl | assumption):PG X (.Name x pos) (bW i):=by
 intro f s σ H v u Q I r h;exact wpAny_assign_Name<|CM I b hi e r (λs' a=>⟨_,H,a,h⟩) d
inductive OA(vs:List V)(σ:List (Option V))(H:Hp)(Q:List (Option V)->Hp->Prop):Prop
 | mk(h:vs=[])(q:Q σ H):OA vs σ H Q
def dZ:mK:=λvs σ H Q=>OA vs σ H Q
inductive LO(t:TG)(u:mK)(vs:List V)(σ:List (Option V))(H:Hp)(Q:List (Option V)->Hp->Prop):Prop
 | mk(v:V)(r:List V)(h:vs=v::r)(q:t v σ H λσ2 H2=>u r σ2 H2 Q):LO t u vs σ H Q
def dQ(t:TG)(u:mK):mK:=λvs σ H Q=>LO t u vs σ H Q
def dY:CF X [] dZ:=by
 intro a s σ H vs us Q I r h;obtain⟨e,h⟩:=h;subst e;cases r;exact assignInOrder_nil ⟨σ,H,I,h⟩
def bJ{e:Expr}{es:List Expr}{t:TG}{u:mK}(h1:PG X e t)(h2:CF X es u)
  (hs:(assignEach (e::es) X.env).map (·.2)=assign e X.env::(assignEach es X.env).map (·.2):=by rfl):CF X (e::es) (dQ t u):=by
 intro a s σ H vs us Q I r h;obtain⟨v,j,i,h⟩:=h;subst i;cases r with
 | cons r rr=>
  rw[hs];refine assignInOrder_cons<|aQ (h1 a s σ H _ _ _ I r h) ?_;rintro _ b ⟨σ1,H1,d,f⟩;exact h2 a b σ1 H1 _ _ Q d rr f
inductive OQ(K:Fq)(n:Nat)(t:mK)(v:V)(σ:List (Option V))(H:Hp)(Q:List (Option V)->Hp->Prop):Prop
 | mk(a:Addr)(xs:List V)(h1:v=.ref a)(h2:SqT K H a xs)(h3:↑xs=n)(q:t xs σ H Q):OQ K n t v σ H Q
def eG(K:Fq)(n:Nat)(t:mK):TG:=λv σ H Q=>OQ K n t v σ H Q
def eC{es:List Expr}{k:Nat}{t:mK}{n:Nat}(x:X.calm=true)(h:CF X es t)
  (w:↑(assignEach es X.env)=n:=by rfl) (j:(assignEach es X.env).findIdx? (·.1)=none:=by rfl):PG X (.Tuple es k pos) (eG X.K n t):=by
 intro i s σ H v u Q I r d;obtain⟨a,xs,z,l,hl,d⟩:=d;subst z;cases r;obtain⟨its,f,A,hz⟩:=I.tuple l;refine assign_Tuple_tuple (I.ok.hd x) A (by simp[w,<-hl,f.length]) j λh' m=>?_
 have q:Inv X i σ H {s with heap:=h'}:=I.kept (t':=s.toks) λb o e=>m b o (bU<|bK e) e;exact h i _ σ H xs _ Q q (by simpa using f) d
def JZ(to ti:TE)(t:pG):TG:=λv σ H Q=>to σ H λo H1=>ti σ H1 λi H2=>t o i v H2 λH3=>Q σ H3
def uT{o i:Expr}{to e:TE}{t:pG}(l:PE X o to)(hi:PE X i e)(hs:AK X t)
  (q:∀v,assign (.Subscript o i pos) X.env v=(do
   let a <-holding [v] (eval o X.env)
   let b <-holding [v,a] (eval i X.env)
   standAt pos
   holding [v,a,b] (setItem a b v)
   release [v,a,b] []):=by intro _;rfl):PG X (.Subscript o i pos) (JZ to e t):=by
 intro d s σ H v u Q I r h;rw[q];refine aI<|iG<|aQ (l d s σ H _ I h) ?_;rintro a f ⟨x,H1,w,B,z⟩;refine aI<|iG<|aQ (hi d f σ H1 _ w z) ?_;rintro b s2 ⟨y,H2,C,m,j⟩;refine aI<|mX<|aI<|iG<|aQ (hs d s2 σ H2 x y v a b u _ C B m r j) ?_;rintro _ s3 ⟨H3,A,n⟩;exact wpAny_release ⟨σ,H3,A,n⟩
def fO(te:TE)(g:TG):TS:=λD σ H=>te σ H λx H1=>g x σ H1 D.nx
def iM{tg e:Expr}{te:TE}{g:TG}(he:PE X e te)(d:PG X tg g)(hs:swapsWithSole [tg] e pos.line X.env=pure false:=by rfl)(j:swappedStores [tg] e X.env=pure none:=by rfl)
  (h1:(assignEach [tg] X.env).map (·.2)=[assign tg X.env]:=by rfl):PS X (.Assign [tg] e pos) (fO te g):=by
 intro a s σ H D I h;refine wpAny_Assign_stores (aQ (he a s σ H _ I h) λv b ⟨x,H1,f,l,i⟩=>?_) hs j;rw[h1];exact aQ (d a b σ H1 x v _ f l i) λ_ s2 q=>q
def gZ{i:Nat}{x:Str}{e:Expr}{te:TE}{a:Pos}(m:X.N.Nodup)(hi:X.N[i]?=some x)(f:vJ X.env.scope x)(he:PE X e te)(hs:swapsWith e (some<|.Name x a) pos.line X.env=pure false:=by rfl)(d:X.fn x=true\/X.env.scope.names.lookup x=some .local:=by first | exact .inl rfl | exact .inr rfl | assumption):
  PS X (.Assign [.Name x a] e pos) (fO te<|bW i):=by
 intro b s σ H D I h;refine wpAny_Assign_Name (aQ (he b s σ H _ I h) λv q ⟨y,H1,j,n,l⟩=>?_) hs;exact CM j m hi f n (λs2 o=>⟨_,H1,o,l⟩) d
def IH(i j:Nat)(ta:TA):TS:=λD σ H=>ta σ H λvs H1=>∃v w,vs=[v,w]/\D.nx ((σ.set i<|some v).set j<|some w) H1
def sM{i j:Nat}{x y:Str}{a b:Expr}{ta:TA}{m n pt:Pos}{kt k2 pt2}(hc:X.calm=true)(E:X.N.Nodup)(hi:X.N[i]?=some x)(Y:X.N[j]?=some y)(W:i≠j)
  (B:X.env.scope.names.lookup x=some .local) (C:X.env.scope.names.lookup y=some .local) (G:PA X [a,b] ta)
  (Z:swappedStores [.Tuple [.Name x m,.Name y n] kt pt] (.Tuple [a,b] k2 pt2) X.env=pure (some [x,y]))
  (hs:swapsWithSole [.Tuple [.Name x m,.Name y n] kt pt] (.Tuple [a,b] k2 pt2) pos.line X.env=pure false:=by rfl):
  PS X (.Assign [.Tuple [.Name x m,.Name y n] kt pt] (.Tuple [a,b] k2 pt2) pos) (IH i j ta):=by
 intro z s σ H D I h;rw[exec_Assign_arm];refine aI<|mX ?_;rw[hs];refine aI<|bE ?_;rw[aY<|by decide];refine aI<|Tuple_<|aQ (G _ z s σ H _ I h) ?_;rintro us f ⟨vs,H1,K,r1,r⟩;obtain⟨v,w,L,r⟩:=r;subst L;obtain⟨l,d,rfl,J,T⟩:∃l d,us=[l,d]/\RelV v l/\RelV w d:=by
  cases r1 with
  | cons p q=>
   cases q with
   | cons p' q'=>
    cases q';exact⟨_,_,rfl,p,p'⟩
 refine jO ?_ (by show 2<=sizeLine;decide);have O:Inv X z σ H1 {f with heap:=f.heap.push {cls:=.type "tuple",data:=.seq [l,d].toArray}}:=K.kept (t':=f.toks) λb o e=>bS _ e;rw[Z];refine aI<|bE ?_;show wpAny (model X.prog X.w) X.A (do rule "assign.swapped-stores";let items <-unpackItems (.ref f⁻¹) 2 none;assignInOrder [λv=>bindName X.env y v,λv=>bindName X.env x v] items.reverse;pure Flow.next) _ _ _;refine aI<|sO<|aI<|unpackItems_tuple (items:=#[l,d]) (I.ok.hd hc) (IsTup.new f.heap _) λh' P=>?_;have M:=O.kept (h':=h') (t':=f.toks) λb o e=>P b o (bU<|bK e) e;show wpAny _ _ (assignInOrder [λv=>bindName X.env y v,λv=>bindName X.env x v] [d,l] >>= λ_=>pure Flow.next) _ _ _;refine aI<|assignInOrder_cons<|wpAny_bindName<|CM M E Y (.inl C) T (λs2 I4=>?_)<|.inr C;refine assignInOrder_cons<|wpAny_bindName<|CM I4 E hi (.inl B) J (λs3 u=>assignInOrder_nil<|bE ?_)<|.inr B;rw[List.set_comm _ _<|bL W]at u;exact⟨_,H1,u,r⟩
end
section
variable{pos:Pos}
def RG(c:TT)(tb:TS):TS:=λD σ H=>∃W:Nat->St->Hp->Prop,(∃m,W m σ H)/\∀m σ H,W m σ H->
 c σ H λb H1=>if b=true then ∃N:St->Hp->Prop,(∀σ' H',N σ' H'->∃m',m'<m/\W m' σ' H')/\tb {D with nx:=N,ct:=N,bk:=D.nx} σ H1 else D.nx σ H1
def EI{c:Expr}{body:List Stmt}{tc:TT}{tb:TS}(hp:PassesOwn (model X.prog X.w) X.A X.env X.xe)(C:PT X c tc)(q:PSs X body tb):PS X (.While c body [] pos) (RG tc tb):=by
 intro j s σ H D I h;obtain⟨W,⟨B,x⟩,turn⟩:=h;refine wpAny_While<|codeAny_whileLoop (λn s'=>∃σ' H',Inv X j σ' H' s'/\W n σ' H') ?_ B ⟨σ,H,I,x⟩;rintro n z ⟨σ1,H1,u,r⟩;refine sN hp<|aQ (C j z σ1 H1 _ u<|turn n σ1 H1 r) ?_;rintro b s2 ⟨H2,m,d⟩;cases b with
 | true=>
  obtain⟨N,o,d⟩:=d;rw[bC rfl];refine sN hp<|aQ (q j s2 σ1 H2 _ m d) λf s3 a=>?_;cases f with
  | next=>
   obtain⟨σ3,H3,i,l⟩:=a;obtain⟨m',e,w3⟩:=o σ3 H3 l;exact⟨m',e,σ3,H3,i,w3⟩
  | cont=>
   obtain⟨σ3,H3,i,l⟩:=a;obtain⟨m',e,w3⟩:=o σ3 H3 l;exact⟨m',e,σ3,H3,i,w3⟩
  | brk=>exact a
  | ret v=>exact a
 | false=>
  rw[aY fK];exact wpAny_execs_nil ⟨σ1,H2,m,d⟩
end
structure It where
 go:Nat->Hp->Prop
 yld:Nat->Hp->V->Hp->Prop
 stop:Nat->Hp->Prop
def dN(X:Cx)(pins:List (Addr×Obj))(H:Hp)(b:Addr):Prop:=
 H b=none/\b≠X.env.locals/\b∉X.fs/\(b∈X.ex\/X.s₀⁻¹<=b)/\(∀x c,X.env.cells.lookup x=some c->c≠b)/\∀p∈X.pn++pins,p.1≠b
def Inv.fpOk{X:Cx}{d:List (Addr×Obj)}{σ:St}{H H':Hp}{s:Shared}{b:Addr}(I:Inv X d σ H s)(a:s⁻¹<=b)(f:H' b=none):dN X d H' b:=by
 refine⟨f,dJ<|fM I.lt a,I.nofs a,.inr<|gC I.sz a,λx c e z=>?_,λp hp z=>?_⟩
 .obtain⟨v,q⟩:=I.cell x c e;exact absurd (fM q.lt<|by rw[z];exact a)<|iC _
 .exact absurd (fM (bK (I.pin p hp).1)<|by rw[z];exact a)<|iC _
structure eS(P:Program)(w:World)(K:Fq)(tg:Expr)(J:It)(fp:List Addr)(it:Addr)(tn:Nat->Heap->Prop):Prop where
 mem:it∈fp
 obj:∀i h,tn i h->∀b∈fp,∃o,h.get? b=some o/\∀v,o.data≠.cell v
 keep:∀i h h',tn i h->(∀b∈fp,∀o,h.get? b=some o->h'.get? b=some o)->tn i h'
 item:∀(X:Cx),X.prog=P->X.w=w->X.K=K->X.calm=true->∀(i:Nat)(pins:List (Addr×Obj))(s:Shared)(σ:St)(H:Hp)(E:Vp),Inv X pins σ H s->(∀b∈fp,dN X pins H b)->tn i s.heap->J.go i H->
  wpAny (model P w) X.A (pyNext<|.ref it) (λr s1=>∃u,r=some u/\ wpAny (model P w) X.A (letOwnedTupleGo tg (.ref it) u) (λ_ s2=>∃x H',Inv X pins σ H' s2/\RelV x u/\J.yld i H x H'/\tn (i+1) s2.heap/\∀b∈fp,H' b=none) E s1) E s
 done:∀(X:Cx),X.prog=P->X.w=w->X.K=K->X.calm=true->∀(i:Nat)(pins:List (Addr×Obj))(s:Shared)(σ:St)(H:Hp)(E:Vp),Inv X pins σ H s->(∀b∈fp,dN X pins H b)->tn i s.heap->J.stop i H->
  wpAny (model P w) X.A (pyNext<|.ref it) (λr s1=>r=none/\Inv X pins σ H s1) E s
 self:∀(A:Around)(i:Nat)(s:Shared)(Q:Vp)(E:Vp),tn i s.heap->Q (.ref it) s->wpAny (model P w) A (pyIter<|.ref it) Q E s
abbrev TI:=St->Hp->(It->Hp->Prop)->Prop
def KI(X:Cx)(pins:List (Addr×Obj))(σ:St)(tg:Expr)(R:It->Hp->Prop)(itv:Value)(s2:Shared):Prop:=
 ∃(it:Addr)(fp:List Addr)(tn:Nat->Heap->Prop)(J:It)(H':Hp),itv=.ref it/\Inv X pins σ H' s2/\eS X.prog X.w X.K tg J fp it tn/\tn 0 s2.heap/\(∀b∈fp,dN X pins H' b)/\R J H'
def PI(X:Cx)(tg iter:Expr)(wi:TI):Prop:=
 ∀(pins:List (Addr×Obj))(s:Shared)(σ:St)(H:Hp)(R:It->Hp->Prop),Inv X pins σ H s->wi σ H R->
  wpAny (model X.prog X.w) X.A (eval iter X.env) (λv s1=>wpAny (model X.prog X.w) X.A (pyIter v) (KI X pins σ tg R) X.xe s1) X.xe s
def rK{M:Model}{A:Around}{E:Vp}{s:Shared}{tg:Expr}{it:Addr}{u:Value}{o:Obj}{n:String}{vs:Array Value}{Q:Unit->Shared->Prop}(d:s.heap.get? it=some o)(b:o.cls=.type n)(hd:o.data=.fields vs)
  (e:["enumerate","zip","dict_itemiterator","dict_reverseitemiterator","odict_iterator","itertools.zip_longest","itertools.pairwise"].contains n=false) (a:Q () s):wpAny M A (letOwnedTupleGo tg (.ref it) u) Q E s:=by
 unfold letOwnedTupleGo;cases tg <;> first
  | exact bE a
  | (cases u <;> first
    | exact bE a
    | (refine aI<|wpAny_load d ?_;rw[b,hd];show wpAny M A (if (["enumerate","zip","dict_itemiterator","dict_reverseitemiterator","odict_iterator","itertools.zip_longest","itertools.pairwise"].contains n && vs[0]? == some (rawInt _))=true then _ else _) Q E s;rw[aY<|by intro h;rw[e,Bool.false_and]at h;cases h];exact bE a))
def sY(K:Fq)(a:Addr):It:=
 ⟨λi H=>∃xs x,SqL K H a xs/\xs[i]?=some x,λi H x H'=>H'=H/\∀xs,SqL K H a xs->xs[i]?=some x,λi H=>∃xs,SqL K H a xs/\↑xs<=i⟩
def kZ(K:Fq)(a:Addr):It:=
 ⟨λi H=>∃xs x,SqT K H a xs/\xs[i]?=some x,λi H x H'=>H'=H/\∀xs,SqT K H a xs->xs[i]?=some x,λi H=>∃xs,SqT K H a xs/\↑xs<=i⟩
def rD(lo:Int)(n:Nat):It:=⟨λi _=>i<n,λi H x H'=>H'=H/\x=.int (lo+i),λi _=>n<=i⟩
def Ah{P:Program}{w:World}{K:Fq}{tg:Expr}(a it:Addr):eS P w K tg (sY K a) [it] it (λi h=>h.IsListIter it a i) where
 mem:=by simp
 obj:=λi h st b f=>by
  have e:b=it:=by simpa using f
  subst e;obtain⟨o,e,c,d⟩:=st;exact⟨o,e,λv z=>by rw[d]at z;cases z⟩
 keep:=λi h h' st k=>st.at λo e=>k it (by simp) o e
 item:=by
  intro X B L m T i N s σ H E I l st n;subst B L m;obtain⟨xs,x,j,C⟩:=n;obtain⟨its,q,p,hz⟩:=I.list j;obtain⟨u,W,Y⟩:=q.get C;obtain⟨G,J,f2,M,r,A⟩:=l it (by simp);refine wpAny_pyNext_list_item st p.isList (x:=u) (by simpa using W) λh' O sb=>?_
  have Z:Inv X N σ H {s with heap:=h'}:=I.turned (t':=s.toks) (λb o f e=>(sb.2 b f).trans e) G J M r A;obtain⟨o,e,c,d⟩:=id O;exact⟨u,rfl,rK (s:={s with heap:=h'}) e c d (by decide) ⟨x,H,Z,Y,⟨rfl,λys hy=>by rw[I.list_inj hy j];exact C⟩,O,λb f=>(l b f).1⟩⟩
 done:=by
  intro X B L m T i N s σ H E I l st n;subst B L m;obtain⟨xs,j,C⟩:=n;obtain⟨its,q,p,hz⟩:=I.list j;obtain⟨G,J,f2,M,r,A⟩:=l it (by simp);have hl:=↑q;exact wpAny_pyNext_list_end (I.ok.hd T) st p.isList (by simp;lia) λh' eb=>⟨rfl,I.turned (t':=s.toks) (λb o f e=>eb b o f e) G J M r A⟩
 self:=λ_ _ _ _ _ st h=>wpAny_pyIter_listiter st h
def XC{P:Program}{w:World}{K:Fq}{tg:Expr}(a it:Addr):eS P w K tg (kZ K a) [it] it (λi h=>h.IsTupleIter it a i) where
 mem:=by simp
 obj:=λi h st b f=>by
  have e:b=it:=by simpa using f
  subst e;obtain⟨o,e,c,d⟩:=st;exact⟨o,e,λv z=>by rw[d]at z;cases z⟩
 keep:=λi h h' st k=>st.at λo e=>k it (by simp) o e
 item:=by
  intro X B L m T i N s σ H E I l st n;subst B L m;obtain⟨xs,x,j,C⟩:=n;obtain⟨its,q,p,hz⟩:=I.tuple j;obtain⟨u,W,Y⟩:=q.get C;obtain⟨G,J,f2,M,r,A⟩:=l it (by simp);refine wpAny_pyNext_tuple_item st (show s.heap.IsTuple a its.toArray from p) (x:=u) (by simpa using W) λh' O sb=>?_
  have Z:Inv X N σ H {s with heap:=h'}:=I.turned (t':=s.toks) (λb o f e=>(sb.2 b f).trans e) G J M r A;obtain⟨o,e,c,d⟩:=id O;exact⟨u,rfl,rK (s:={s with heap:=h'}) e c d (by decide) ⟨x,H,Z,Y,⟨rfl,λys hy=>by rw[I.tuple_inj hy j];exact C⟩,O,λb f=>(l b f).1⟩⟩
 done:=by
  intro X B L m T i N s σ H E I l st n;subst B L m;obtain⟨xs,j,C⟩:=n;obtain⟨its,q,p,hz⟩:=I.tuple j;obtain⟨G,J,f2,M,r,A⟩:=l it (by simp);have hl:=↑q;exact wpAny_pyNext_tuple_end (I.ok.hd T) st (show s.heap.IsTuple a its.toArray from p) (by simp;lia) λh' eb=>⟨rfl,I.turned (t':=s.toks) (λb o f e=>eb b o f e) G J M r A⟩
 self:=λ_ _ _ _ _ st h=>wpAny_pyIter_tupleiter st h
def Az{P:Program}{w:World}{K:Fq}{tg:Expr}(it:Addr)(lo:Int)(n:Nat):eS P w K tg (rD lo n) [it] it (λi h=>IsRangeIter h it (lo+(i:Nat)*1) ((n:Int)-(i:Nat)) 1) where
 mem:=by simp
 obj:=λi h st b a=>by
  have e:b=it:=by simpa using a
  subst e;exact⟨_,st,λv z=>by
   have N:Data.fields _=Data.cell v:=z;cases N⟩
 keep:=λi h h' st k=>k it (by simp) _ st
 item:=by
  intro X q x f A i C s σ H E I d st j;subst q x f;obtain⟨r,u,O,B,l,m⟩:=d it (by simp);have W:=Walks.range (prog:=X.prog) (w:=X.w) (I.ok.hd A) it lo 1 n;refine W.item i s _ _ j st λv h' tk T G L=>?_;obtain⟨t,rfl⟩:=T;have J:Inv X C σ H {s with heap:=h',toks:=tk}:=I.turned (λb o a e=>L b o (by simpa using a) e) r u B l m;refine⟨_,rfl,rK (s:={s with heap:=h',toks:=tk}) (n:="range_iterator") G rfl rfl (by decide) ⟨.int<|lo+i,H,J,⟨t,?_⟩,⟨rfl,rfl⟩,G,λb a=>(d b a).1⟩⟩;rw[Int.mul_one]
 done:=by
  intro X q x f A i C s σ H E I d st j;subst q x f;obtain⟨r,u,O,B,l,m⟩:=d it (by simp);exact wpAny_pyNext_range_end (I.ok.hd A) st (by have:n<=i:=j;lia) λh' M=>⟨rfl,I.turned (t':=s.toks) (λb o a e=>M b o a e) r u B l m⟩
 self:=λ_ _ _ _ _ st h=>wpAny_pyIter_rangeiter st h
section
variable{tg:Expr}
inductive OC(K:Fq)(x:V)(H:Hp)(R:It->Hp->Prop):Prop
 | mk(a:Addr)(h:x=.ref a)(h2:∃xs,SqL K H a xs)(q:R (sY K a) H):OC K x H R
def mV(K:Fq)(tl:TE):TI:=λσ H R=>tl σ H λx H1=>OC K x H1 R
inductive NS(K:Fq)(x:V)(H:Hp)(R:It->Hp->Prop):Prop
 | mk(a:Addr)(h:x=.ref a)(h2:∃xs,SqT K H a xs)(q:R (kZ K a) H):NS K x H R
def JO(K:Fq)(tl:TE):TI:=λσ H R=>tl σ H λx H1=>NS K x H1 R
def gU{l:Expr}{tl:TE}(hl:PE X l tl):PI X tg l (mV X.K tl):=by
 intro r s σ H R I h;refine aQ (hl r s σ H _ I h) ?_;rintro v d ⟨x,H1,f,n,m⟩;obtain⟨a,e,⟨xs,j⟩,q⟩:=m;subst e;cases n;obtain⟨its,u,p,hz⟩:=f.list j;refine BY p.isList ?_;refine⟨d⁻¹,[d⁻¹],_,_,H1,rfl,f.kept (t':=d.toks) λb o e=>bS _ e,Ah a _,⟨_,dD _ rfl,rfl,rfl⟩,λb i=>?_,q⟩;have e:b=d⁻¹:=by simpa using i
 subst e;exact f.fpOk (aU _)<|f.hok.fresh<|aU _
def fU{l:Expr}{tl:TE}(hl:PE X l tl):PI X tg l (JO X.K tl):=by
 intro r s σ H R I h;refine aQ (hl r s σ H _ I h) ?_;rintro v d ⟨x,H1,f,n,m⟩;obtain⟨a,e,⟨xs,j⟩,q⟩:=m;subst e;cases n;obtain⟨its,u,p,hz⟩:=f.tuple j;refine wpAny_pyIter_tuple (show d.heap.IsTuple a its.toArray from p) ?_;refine⟨d⁻¹,[d⁻¹],_,_,H1,rfl,f.kept (t':=d.toks) λb o e=>bS _ e,XC a _,⟨_,dD _ rfl,rfl,rfl⟩,λb i=>?_,q⟩;have e:b=d⁻¹:=by simpa using i
 subst e;exact f.fpOk (aU _)<|f.hok.fresh<|aU _
def ZQ{d:List (Addr×Obj)}{σ:St}{H:Hp}{s:Shared}{R:It->Hp->Prop}{E:Vp}{lo hi:Int}{t u v:Tok}{tk:Nat}(I:Inv X d σ H s)(h1:-(2 ^ 62)<=lo)(h2:lo<2 ^ 62)(i:-(2 ^ 62)<=hi)(h:hi<2 ^ 62)
  (q:R (rD lo (hi-lo).toNat) H):wpAny (model X.prog X.w) X.A (pyIter<|.ref s⁻¹) (KI X d σ tg R) E {s with heap:=s.heap.push {cls:=.type "range",data:=.fields #[.int lo t,.int hi u,.int 1 v]},toks:=tk}:=by
 refine wpAny_pyIter_range (IsRange.new ..) (small_one h1 h2 i h) ?_;have a:Inv X d σ H {s with heap:=s.heap.push {cls:=.type "range",data:=.fields #[.int lo t,.int hi u,.int 1 v]},toks:=tk}:=I.kept λb o e=>bS _ e;refine⟨(s.heap.push {cls:=.type "range",data:=.fields #[.int lo t,.int hi u,.int 1 v]}).objs.size,[(s.heap.push {cls:=.type "range",data:=.fields #[.int lo t,.int hi u,.int 1 v]}).objs.size],_,_,H,rfl, a.kept (t':=tk) λb o e=>bS _ e,Az _ lo (hi-lo).toNat,?_,λb f=>?_,q⟩
 .have l:lo+((0:Nat):Int)*1=lo:=by simp
  have j:(((hi-lo).toNat:Nat):Int)-((0:Nat):Int)=Builtin.Range.rangeSize lo hi 1:=by rw[rangeSize_one];split <;> lia
  show IsRangeIter _ _ (lo+((0:Nat):Int)*1) ((((hi-lo).toNat:Nat):Int)-((0:Nat):Int)) 1;rw[l,j];exact dD _ rfl
 .have e:b=(s.heap.push {cls:=.type "range",data:=.fields #[.int lo t,.int hi u,.int 1 v]}).objs.size:=by simpa using f
  subst e;exact a.fpOk (aU _)<|a.hok.fresh<|aU _
def mO(ta:TA):TI:=λσ H R=>ta σ H λvs H1=>∃j:Int,vs=[.int j]/\-(2 ^ 62)<=j/\j<2 ^ 62/\R (rD 0 j.toNat) H1
def wE{a:Expr}{ta:TA}{p pos:Pos}(i:Gl X "range")(f:X.mg "range"=none)(l:PA X [a] ta)(hs:starEach [a] X.env=[(false,eval a X.env)]:=by rfl):PI X tg (.Call (.Name "range" p) [a] [] pos) (mO ta):=by
 intro o s σ H R I h;refine Call_<|kL I i f boot_range<|oB (aQ (l pos o s σ H _ I h) λus u ⟨vs,H1,m,n,b⟩=>?_) hs rfl;obtain⟨j,e,b,d,q⟩:=b;subst e;cases n with
 | cons r rr=>
  cases rr;obtain⟨t,rfl⟩:=r;exact call_range_1 (ZQ m (by lia) (by lia) b d<|by simpa using q)
def IZ(wi:TI)(g:TG)(tb:TS):TS:=λD σ H=>wi σ H λJ H1=>∃W:Nat->Nat->St->Hp->Prop,(∃m,W 0 m σ H1)/\∀i m σ H,W i m σ H->
 (J.stop i H/\D.nx σ H)\/(J.go i H/\∃N:St->Hp->Prop,(∀σ' H',N σ' H'->∃m',m'<m/\W (i+1) m' σ' H')/\∀x H',J.yld i H x H'->g x σ H' λσ2 H2=>tb {D with nx:=N,ct:=N,bk:=D.nx} σ2 H2)
def vV(fp:List Addr)(h:Heap):List (Addr×Obj):=fp.filterMap λb=>(h.get? b).map λo=>(b,o)
def vM{fp:List Addr}{h:Heap}{b:Addr}{o:Obj}(a:b∈fp)(e:h.get? b=some o):(b,o)∈vV fp h:=List.mem_filterMap.mpr ⟨b,a,by rw[e];rfl⟩
def YT{fp:List Addr}{h:Heap}{p:Addr×Obj}(hp:p∈vV fp h):p.1∈fp/\h.get? p.1=some p.2:=by
 obtain⟨b,d,e⟩:=List.mem_filterMap.mp hp;cases q:h.get? b with
 | none=>rw[q]at e;cases e
 | some o=>
  rw[q]at e;have a:(b,o)=p:=gJ e;subst a;exact⟨d,q⟩
def Inv.pinned{a:List (Addr×Obj)}{σ:St}{H:Hp}{s:Shared}{fp:List Addr}(I:Inv X a σ H s)(j:∀b∈fp,dN X a H b)(i:∀b∈fp,∃o,s.heap.get? b=some o/\∀v,o.data≠.cell v):Inv X (a++vV fp s.heap) σ H s:=
 I.pins_of λp hp=>(wp5.mp hp).elim (λz=>I.pin p<|fY _ z) λz=>by
  obtain⟨f,e⟩:=YT z;obtain⟨l,m,n,_⟩:=j p.1 f;obtain⟨o,h,d⟩:=i p.1 f;rw[e]at h;cases h;exact⟨e,l,m,n,d⟩
def Inv.unpinned{a b:List (Addr×Obj)}{σ:St}{H:Hp}{s:Shared}(I:Inv X (a++b) σ H s):Inv X a σ H s:=I.pins_of λp hp=>I.pin p<|fY _<|tK _ hp
def dX{G:Expr}{body:List Stmt}{wi:TI}{g:TG}{tb:TS}{pos:Pos}(hp:PassesOwn (model X.prog X.w) X.A X.env X.xe)(hc:X.calm=true)(hi:PI X tg G wi)(hg:PG X tg g)(a:PSs X body tb)
  (hs:∀x,foldedSetIterable G X.env x=pure x:=by intro _;rfl):PS X (.For tg G body [] pos) (IZ wi g tb):=by
 intro z s σ H D I h;refine wpAny_For (aQ (hi z s σ H _ I h) λv s1 h1=>aQ h1 λa9 s2 h2=>?_) hs;obtain⟨it,fp,M,J,H2,e,I2,T,a7,Y,W,⟨m0,w0⟩,turn⟩:=h2;subst e;have E:∀{H':Hp},(∀b∈fp,H' b=none)->∀b∈fp,dN X z H' b:=λhn b a=>⟨hn b a,(Y b a).2⟩;refine codeAny_forLoop_any (λn s'=>∃i σ' H',Inv X z σ' H' s'/\M i s'.heap/\(∀b∈fp,H' b=none)/\W i n σ' H') ?_ m0 ⟨0,σ,H2,I2,a7,λb a=>(Y b a).1,w0⟩;rintro n s3 ⟨i,σ3,H3,P,L,Z,w3⟩;rcases turn i n σ3 H3 w3 with ⟨stop,qn⟩ | ⟨go,N,hN,step⟩
 .refine sN hp<|aQ (T.done X rfl rfl rfl hc i z s3 σ3 H3 X.xe P (E Z) L stop) ?_;rintro r s4 ⟨hr,I4⟩;subst hr;exact wpAny_execs_nil ⟨σ3,H3,I4,qn⟩
 .refine sN hp<|aQ (T.item X rfl rfl rfl hc i z s3 σ3 H3 X.xe P (E Z) L go) ?_;rintro r s4 ⟨u,hr,h4⟩;subst hr;refine sN hp<|aQ h4 ?_;rintro _ s5 ⟨x,O,I5,r5,y5,K,a8⟩;have a6:=I5.pinned (E a8)<|T.obj _ _ K;refine sN hp<|aQ (hg _ s5 σ3 O x u _ a6 r5<|step x O y5) ?_;rintro _ s6 ⟨σ6,H6,I6,q6⟩;refine sN hp<|aQ (a _ s6 σ6 H6 _ I6 q6) λf C q=>?_;have again:∀{σ7:St}{j:Hp},Inv X (z++vV fp s5.heap) σ7 j C->N σ7 j->∃m,m<n/\∃i σ' H',Inv X z σ' H' C/\M i C.heap/\(∀b∈fp,H' b=none)/\W i m σ' H':=λ{σ7 j} l B=>by
   obtain⟨m',hm,w7⟩:=hN σ7 j B;refine⟨m',hm,i+1,σ7,j,l.unpinned,T.keep _ _ _ K λb a o e=>(l.pin (b,o)<|fY _<|fY _<|vM a e).1,λb a=>?_,w7⟩;obtain⟨o,e,d⟩:=T.obj _ _ K b a;exact(l.pin (b,o)<|fY _<|fY _<|vM a e).2.1
  cases f with
  | next=>obtain⟨σ7,j,l,B⟩:=q;exact again l B
  | cont=>obtain⟨σ7,j,l,B⟩:=q;exact again l B
  | brk=>obtain⟨σ7,j,l,q⟩:=q;exact⟨σ7,j,l.unpinned,q⟩
  | ret v=>obtain⟨x7,σ7,j,l,r7,q⟩:=q;exact⟨x7,σ7,j,l.unpinned,r7,q⟩
end
def nH{K:Fq}{a:Addr}{xs:List V}{g:TG}{tb:TS}{D:cR}{σ:St}{H:Hp}(b:Nat->St->Hp->Prop)(h0:b 0 σ H)(hl:∀i σ H,i<=↑xs->b i σ H->SqL K H a xs)
  (hs:∀i x σ H,xs[i]?=some x->b i σ H->g x σ H λσ2 H2=>tb {D with nx:=b<|i+1,ct:=b<|i+1,bk:=D.nx} σ2 H2) (hd:∀σ H,b ↑xs σ H->D.nx σ H):
  ∃W:Nat->Nat->St->Hp->Prop,(∃m,W 0 m σ H)/\∀i m σ H,W i m σ H->
   ((sY K a).stop i H/\D.nx σ H)\/((sY K a).go i H/\∃N:St->Hp->Prop,(∀σ' H',N σ' H'->∃m',m'<m/\W (i+1) m' σ' H')/\∀x H',(sY K a).yld i H x H'->g x σ H' λσ2 H2=>tb {D with nx:=N,ct:=N,bk:=D.nx} σ2 H2):=by
 exists λi m σ H=>m=↑xs-i/\i<=↑xs/\b i σ H,⟨↑xs,by simp,bM _,h0⟩;rintro i m σ H ⟨rfl,hi,p⟩;have q:=hl i σ H hi p
 by_cases d:i<↑xs
 .refine .inr ⟨⟨xs,xs[i],q,by simp[d]⟩,b<|i+1,λσ' H' f=>⟨↑xs-(i+1),by lia,rfl,d,f⟩,λx H' y=>?_⟩;obtain⟨e,y⟩:=y;subst e;exact hs i x σ _ (y xs q) p
 .have e:i=↑xs:=by lia
  subst e;exact .inl ⟨⟨xs,q,aU _⟩,hd σ H p⟩
def jC{K:Fq}{a:Addr}{xs:List V}{g:TG}{tb:TS}{D:cR}{σ:St}{H:Hp}(b:Nat->St->Hp->Prop)(h0:b 0 σ H)(hl:∀i σ H,i<=↑xs->b i σ H->SqT K H a xs)
  (hs:∀i x σ H,xs[i]?=some x->b i σ H->g x σ H λσ2 H2=>tb {D with nx:=b<|i+1,ct:=b<|i+1,bk:=D.nx} σ2 H2) (hd:∀σ H,b ↑xs σ H->D.nx σ H):
  ∃W:Nat->Nat->St->Hp->Prop,(∃m,W 0 m σ H)/\∀i m σ H,W i m σ H->
   ((kZ K a).stop i H/\D.nx σ H)\/((kZ K a).go i H/\∃N:St->Hp->Prop,(∀σ' H',N σ' H'->∃m',m'<m/\W (i+1) m' σ' H')/\∀x H',(kZ K a).yld i H x H'->g x σ H' λσ2 H2=>tb {D with nx:=N,ct:=N,bk:=D.nx} σ2 H2):=by
 exists λi m σ H=>m=↑xs-i/\i<=↑xs/\b i σ H,⟨↑xs,by simp,bM _,h0⟩;rintro i m σ H ⟨rfl,hi,p⟩;have q:=hl i σ H hi p
 by_cases d:i<↑xs
 .refine .inr ⟨⟨xs,xs[i],q,by simp[d]⟩,b<|i+1,λσ' H' f=>⟨↑xs-(i+1),by lia,rfl,d,f⟩,λx H' y=>?_⟩;obtain⟨e,y⟩:=y;subst e;exact hs i x σ _ (y xs q) p
 .have e:i=↑xs:=by lia
  subst e;exact .inl ⟨⟨xs,q,aU _⟩,hd σ H p⟩
def EM{lo:Int}{n:Nat}{g:TG}{tb:TS}{D:cR}{σ:St}{H:Hp}(a:Nat->St->Hp->Prop)(h0:a 0 σ H)
  (hs:∀i σ H,i<n->a i σ H->g (.int<|lo+i) σ H λσ2 H2=>tb {D with nx:=a<|i+1,ct:=a<|i+1,bk:=D.nx} σ2 H2) (hd:∀σ H,a n σ H->D.nx σ H):
  ∃W:Nat->Nat->St->Hp->Prop,(∃m,W 0 m σ H)/\∀i m σ H,W i m σ H->
   ((rD lo n).stop i H/\D.nx σ H)\/((rD lo n).go i H/\∃N:St->Hp->Prop,(∀σ' H',N σ' H'->∃m',m'<m/\W (i+1) m' σ' H')/\∀x H',(rD lo n).yld i H x H'->g x σ H' λσ2 H2=>tb {D with nx:=N,ct:=N,bk:=D.nx} σ2 H2):=by
 exists λi m σ H=>m=n-i/\i<=n/\a i σ H,⟨n,by simp,bM _,h0⟩;rintro i m σ H ⟨rfl,hi,p⟩
 by_cases b:i<n
 .refine .inr ⟨b,a<|i+1,λσ' H' d=>⟨n-(i+1),by lia,rfl,b,d⟩,λx H' y=>?_⟩;obtain⟨e,y⟩:=y;subst e y;exact hs i σ _ b p
 .have e:i=n:=by lia
  subst e;exact .inl ⟨aU _,hd σ H p⟩
def JV{c:TT}{tb:TS}{D:cR}{σ:St}{H:Hp}(a:St->Hp->Prop)(μ:St->Hp->Nat)(h0:a σ H)
  (hs:∀σ H,a σ H->c σ H λb H1=>if b=true then tb {D with nx:=λσ' H'=>a σ' H'/\μ σ' H'<μ σ H,ct:=λσ' H'=>a σ' H'/\μ σ' H'<μ σ H,bk:=D.nx} σ H1 else D.nx σ H1)
  (mono:∀σ H Q Q',(∀b H1,Q b H1->Q' b H1)->c σ H Q->c σ H Q'):RG c tb D σ H:=by
 exists λm σ H=>m=μ σ H/\a σ H,⟨_,rfl,h0⟩;rintro m σ H ⟨rfl,p⟩;refine mono σ H _ _ (λb H1 q=>?_)<|hs σ H p;cases b with
 | true=>exact⟨_,by rintro σ' H' ⟨d,l⟩;exact⟨_,l,rfl,d⟩,q⟩
 | false=>exact q
abbrev R2:=V->V->Hp->VK->Prop
def cX(X:Cx)(f:Value->Value->Sem Value)(r:R2):Prop:=
 ∀(pins:List (Addr×Obj))(s:Shared)(σ:St)(H:Hp)(x y:V)(v u:Value)(Q:VK),Inv X pins σ H s->RelV x v->RelV y u->r x y H Q->
  wpAny (model X.prog X.w) X.A (f v u) (EP X pins σ Q) X.xe s
def EZ(X:Cx)(f:Value->Sem Value)(r:V->Hp->VK->Prop):Prop:=
 ∀(pins:List (Addr×Obj))(s:Shared)(σ:St)(H:Hp)(x:V)(v:Value)(Q:VK),Inv X pins σ H s->RelV x v->r x H Q->
  wpAny (model X.prog X.w) X.A (f v) (EP X pins σ Q) X.xe s
def CallR(X:Cx)(f:Value)(r:List V->Hp->VK->Prop):Prop:=
 ∀(pins:List (Addr×Obj))(s:Shared)(σ:St)(H:Hp)(xs:List V)(us:List Value)(Q:VK),Inv X pins σ H s->Vals xs us->r xs H Q->
  wpAny (model X.prog X.w) X.A (call f us) (EP X pins σ Q) X.xe s
def LC(X:Cx)(r:V->Hp->(Bool->Hp->Prop)->Prop):Prop:=
 ∀(pins:List (Addr×Obj))(s:Shared)(σ:St)(H:Hp)(x:V)(v:Value)(Q:Bool->Hp->Prop),Inv X pins σ H s->RelV x v->r x H Q->
  wpAny (model X.prog X.w) X.A (truthy v) (TP X pins σ Q) X.xe s
def dC(r:R2)(ta tb:TE):TE:=λσ H Q=>ta σ H λx H1=>tb σ H1 λy H2=>r x y H2 Q
def LY(r:V->Hp->VK->Prop)(ta:TE):TE:=λσ H Q=>ta σ H λx H1=>r x H1 Q
def rI(C:Int->Int->Prop)(g:Int->Int->V):R2:=λx y H Q=>∃i j,x=.int i/\y=.int j/\C i j/\Q (g i j) H
inductive MP(g:Int->Int->V)(x y:V)(H:Hp)(Q:VK):Prop
 | mk(i j:Int)(h1:x=.int i)(h2:y=.int j)(q:Q (g i j) H):MP g x y H Q
def hH(g:Int->Int->V):R2:=λx y H Q=>MP g x y H Q
def rU(g:Int->V):V->Hp->VK->Prop:=λx H Q=>∃i,x=.int i/\Q (g i) H
section
variable{a b c:Expr}{ta tb tc:TE}{pos:Pos}
def tU(n:PE X a ta)(i:PE X b tb){d:List (Addr×Obj)}{s:Shared}{σ:St}{H:Hp}{R:V->V->Hp->Prop}(I:Inv X d σ H s)
  (h:ta σ H λx H1=>tb σ H1 λy H2=>R x y H2) {Q:Vp} {f:Value->Value->Sem Value}
  (l:∀v u s2 x y H2,Inv X d σ H2 s2->RelV x v->RelV y u->R x y H2->wpAny (model X.prog X.w) X.A (f v u) Q X.xe s2):
  wpAny (model X.prog X.w) X.A (eval a X.env) (λv z=>wpAny (model X.prog X.w) X.A (eval b X.env) (λu r=>wpAny (model X.prog X.w) X.A (f v u) Q X.xe r) X.xe z) X.xe s:=by
 refine aQ (n d s σ H _ I h) ?_;rintro v e ⟨x,H1,o,B,q⟩;refine aQ (i d e σ H1 _ o q) ?_;rintro u s2 ⟨y,H2,C,m,j⟩;exact l v u s2 x y H2 C B m j
def bX{d:Operator}{r:R2}(j:cX X (binaryOp d) r)(l:PE X a ta)(e:PE X b tb):PE X (.BinOp a d b pos) (dC r ta tb):=by
 intro n s σ H Q I h;exact wpAny_BinOp<|tU l e I h λv u s2 x y H2 m f i q=>j n s2 σ H2 x y v u Q m f i q
def pA{b:UnaryOp}{r:V->Hp->VK->Prop}(i:EZ X (unaryOp b) r)(l:PE X a ta):PE X (.UnaryOp b a pos) (LY r ta):=by
 intro d s σ H Q I h;exact UnaryOp_ (aQ (l d s σ H _ I h) <| by rintro v e ⟨x,H1,m,j,f⟩;exact i d e σ H1 x v Q m j f)
def CP{f:Value->Value->Sem Value}{C:Int->Int->Prop}{g:Int->Int->Int}
  (rule:∀(i j:Int)(t u:Tok)(s:Shared)(Q:Vp)(E:Vp),C i j->Q (.int (g i j) s.toks) {s with toks:=s.toks+1}->wpAny (model X.prog X.w) X.A (f (.int i t)<|.int j u) Q E s):
  cX X f (rI C λi j=>.int<|g i j):=by
 intro e s σ H x y v u Q I a b h;obtain⟨i,j,rfl,rfl,d,q⟩:=h;obtain⟨t,rfl⟩:=a;obtain⟨t',rfl⟩:=b;exact rule i j t t' s _ _ d ⟨.int<|g i j,H,I.tok _,⟨_,rfl⟩,q⟩
def BA{f:Value->Value->Sem Value}{g:Int->Int->Int}
  (rule:∀(i j:Int)(t u:Tok)(s:Shared)(Q:Vp)(E:Vp),Q (.int (g i j) s.toks) {s with toks:=s.toks+1}->wpAny (model X.prog X.w) X.A (f (.int i t)<|.int j u) Q E s):
  cX X f (hH λi j=>.int<|g i j):=by
 intro d s σ H x y v u Q I a b h;obtain⟨i,j,rfl,rfl,q⟩:=h;obtain⟨t,rfl⟩:=a;obtain⟨t',rfl⟩:=b;exact rule i j t t' s _ _ ⟨.int<|g i j,H,I.tok _,⟨_,rfl⟩,q⟩
def lX{f:Value->Value->Sem Value}{g:Int->Int->Bool}
  (rule:∀(i j:Int)(t u:Tok)(s:Shared)(Q:Vp)(E:Vp),Q (.bool<|g i j) s->wpAny (model X.prog X.w) X.A (f (.int i t)<|.int j u) Q E s):
  cX X f (hH λi j=>.bl<|g i j):=by
 intro d s σ H x y v u Q I a b h;obtain⟨i,j,rfl,rfl,q⟩:=h;obtain⟨t,rfl⟩:=a;obtain⟨t',rfl⟩:=b;exact rule i j t t' s _ _ ⟨.bl<|g i j,H,I,rfl,q⟩
def GA(i j:Int):Prop:=0<j/\j<1073741824
def HI(i j:Int):Prop:=0<=j/\j<=1000000/\i.natAbs<2 ^ 64
def CMul(i j:Int):Prop:=(-(2 ^ 64)<i/\i<2 ^ 64)\/(-(2 ^ 64)<j/\j<2 ^ 64)
def CMul.ok{i j:Int}(h:CMul i j):IntMulOk i j:=by
 rcases h with ⟨h1,h2⟩ | ⟨h1,h2⟩
 .exact .of_left<|intBits_le_64 h1 h2
 .exact .of_right<|intBits_le_64 h1 h2
def iX:cX X (binaryOp .Add) (hH λi j=>.int<|i+j):=BA λ_ _ _ _ _ _ _ q=>add_int q
def kO:cX X (binaryOp .Sub) (hH λi j=>.int<|i-j):=BA λ_ _ _ _ _ _ _ q=>sub_int q
def rE:cX X (binaryOp .Mult) (rI CMul λi j=>.int<|i*j):=CP λ_ _ _ _ _ _ _ a q=>mul_int q a.ok
def yJ:cX X (binaryOp .FloorDiv) (rI GA λi j=>.int<|i / j):=CP λi j _ _ _ _ _ a q=>by
 have h1:(0:Int)<j:=a.1;have h2:j<1073741824:=a.2;exact floordiv_int (by lia) (by rw[Int.fdiv_eq_ediv_of_nonneg i<|by lia];exact q) (.inl<|PyProof.noPylong_small<|by lia)
def qT:cX X (binaryOp .Mod) (rI (λ_ j=>0<j) λi j=>.int<|i % j):=CP λi j _ _ _ _ _ a q=>by
 have h1:(0:Int)<j:=a;exact mod_int' (by lia) (by rw[Int.fmod_eq_emod_of_nonneg i<|by lia];exact q)
def uL:cX X (binaryOp .Pow) (rI HI λi j=>.int<|i ^ j.toNat):=CP λ_ _ _ _ _ _ _ a q=>pow_int_small a.1 a.2.1 a.2.2 q
def UZ{f:Value->Sem Value}{g:Int->Int}
  (rule:∀(i:Int)(t:Tok)(s:Shared)(Q:Vp)(E:Vp),Q (.int (g i) s.toks) {s with toks:=s.toks+1}->wpAny (model X.prog X.w) X.A (f<|.int i t) Q E s):
  EZ X f (rU λi=>.int<|g i):=by
 intro b s σ H x v Q I a h;obtain⟨i,rfl,q⟩:=h;obtain⟨t,rfl⟩:=a;exact rule i t s _ _ ⟨.int<|g i,H,I.tok _,⟨_,rfl⟩,q⟩
def nW:EZ X (unaryOp .USub) (rU λi=>.int<|-i):=UZ λ_ _ _ _ _ q=>neg_int q
end
def JX:V->V->Bool
 | .non,.non=>true | .non,.int _=>true | .int _,.non=>true | .non,.bl _=>true | .bl _,.non=>true | .non,.str _=>true | .str _,.non=>true
 | .int _,.int _=>true | .bl _,.bl _=>true | .str _,.str _=>true | .byt _,.byt _=>true
 | .int _,.str _=>true | .str _,.int _=>true | .bl _,.str _=>true | .str _,.bl _=>true
 | _,_=>false
inductive AO(x y:V)(H:Hp)(Q:VK):Prop
 | mk(h:JX x y=true)(q:Q (.bl<|decide<|x=y) H):AO x y H Q
def vQ:R2:=λx y H Q=>AO x y H Q
def SS{i j:Int}:decide (V.int i=V.int j)=(i == j):=by
 rw[tR];simp
def qR{i j:Bool}:decide (V.bl i=V.bl j)=(i == j):=by
 rw[tR];simp
def XQ{i j:Str}:decide (V.str i=V.str j)=(i == j):=by
 rw[tR];simp
def ZN{i j:Array UInt8}:decide (V.byt i=V.byt j)=(i.toList == j.toList):=by
 rw[tR];cases i;cases j;simp
section
variable{a b c:Expr}{ta tb tc:TE}{pos:Pos}
def hI{b:List (Addr×Obj)}{σ:St}{H:Hp}{s:Shared}{Q:VK}{k a:Bool}(I:Inv X b σ H s)(q:Q (.bl k) H)(e:k=a):EP X b σ Q (.bool a) s:=by
 subst e;exact⟨.bl k,H,I,rfl,q⟩
def eZ:cX X (compareOp .Eq) vQ:=by
 intro d s σ H x y v u Q I b a h;obtain⟨hs,q⟩:=h;cases x with
 | non=>
  cases b;cases y with
  | non=>cases a;exact PySem.EqNone.eq_none_none (hI I q<|by simp)
  | bl j=>cases a;exact PySem.EqNone.eq_none_bool (hI I q<|by simp)
  | int j=>obtain⟨t',rfl⟩:=a;exact PySem.EqNone.eq_none_int (hI I q<|by simp)
  | str j=>obtain⟨t',rfl⟩:=a;exact PySem.EqNone.eq_none_str (hI I q<|by simp)
  | _=>exact absurd (show false=true from hs) fK
 | bl i=>
  cases b;cases y with
  | non=>cases a;exact PySem.EqNone.eq_bool_none (hI I q<|by simp)
  | bl j=>cases a;exact eq_bool<|hI I q qR
  | str j=>obtain⟨t',rfl⟩:=a;exact PySem.EqMixed.eq_bool_str (hI I q<|by simp)
  | _=>exact absurd (show false=true from hs) fK
 | int i=>
  obtain⟨t,rfl⟩:=b;cases y with
  | non=>cases a;exact PySem.EqNone.eq_int_none (hI I q<|by simp)
  | int j=>obtain⟨t',rfl⟩:=a;exact eq_int<|hI I q SS
  | str j=>obtain⟨t',rfl⟩:=a;exact PySem.EqMixed.eq_int_str (hI I q<|by simp)
  | _=>exact absurd (show false=true from hs) fK
 | str i=>
  obtain⟨t,rfl⟩:=b;cases y with
  | non=>cases a;exact PySem.EqNone.eq_str_none (hI I q<|by simp)
  | bl j=>cases a;exact PySem.EqMixed.eq_str_bool (hI I q<|by simp)
  | int j=>obtain⟨t',rfl⟩:=a;exact PySem.EqMixed.eq_str_int (hI I q<|by simp)
  | str j=>obtain⟨t',rfl⟩:=a;exact eq_str<|hI I q XQ
  | _=>exact absurd (show false=true from hs) fK
 | byt i=>
  obtain⟨t,rfl⟩:=b;cases y with
  | byt j=>obtain⟨t',rfl⟩:=a;exact PySem.W.eq_bytes<|hI I q ZN
  | _=>exact absurd (show false=true from hs) fK
 | _=>cases y <;> exact absurd (show false=true from hs) fK
def yC:cX X (compareOp .Lt) (hH λi j=>.bl<|decide<|i<j):=lX λ_ _ _ _ _ _ _ q=>lt_int q
def zJ:cX X (compareOp .LtE) (hH λi j=>.bl<|decide<|i<=j):=lX λ_ _ _ _ _ _ _ q=>le_int q
def lU:cX X (compareOp .Gt) (hH λi j=>.bl<|decide<|j<i):=lX λ_ _ _ _ _ _ _ q=>gt_int q
def oJ:cX X (compareOp .GtE) (hH λi j=>.bl<|decide<|j<=i):=lX λ_ _ _ _ _ _ _ q=>ge_int q
def cF(b:Expr){a:CmpOp}(h:a≠.In:=by decide)(h2:a≠.NotIn:=by decide):behindInMarks a b=false:=by
 have e:(a == CmpOp.In)=false:=by cases a <;> first | rfl | exact absurd rfl h
 have d:(a == CmpOp.NotIn)=false:=by cases a <;> first | rfl | exact absurd rfl h2
 cases b <;> simp[behindInMarks,e,d]
def pP{d:CmpOp}{r:R2}(j:cX X (compareOp d) r)(m:PE X a ta)(e:PE X b tb)(l:behindInMarks d b=false):PE X (.Compare a [d] [b] pos) (dC r ta tb):=by
 intro o s σ H Q I h;exact wpAny_Compare1 (tU m e I h λv u s2 x y H2 n f i q=>j o s2 σ H2 x y v u Q n f i q) l
def hY(t:TE):TT:=λσ H Q=>t σ H λx H1=>tG x H1 Q
def cA{d:CmpOp}{r:R2}(n:cX X (compareOp d) r)(A:PE X a ta)(j:PE X b tb)(q:behindInMarks d b=false):PT X (.Compare a [d] [b] pos) (hY<|dC r ta tb):=by
 intro f s σ H Q I h;refine wpAny_isTrue_Compare1 (aQ (A f s σ H _ I h) λv i ⟨x,H1,B,G,C⟩=>aQ (j f i σ H1 _ B C) λu s2 ⟨y,H2,J,o,m⟩=>
  aQ (n f s2 σ H2 x y v u _ J G o m) λc s3 ⟨z,H3,E,l,k,e,w⟩=>?_) q
 subst e;cases l;exact rX ⟨H3,E,w⟩
def yB(K:Fq)(x:V)(H:Hp)(k:Bool):Prop:=
 match x with
 | .non=>k=false
 | .bl b=>k=b
 | .int i=>k=(i != 0)
 | .str y=>↑y<=sizeLine/\k=((↑y:Int) != 0)
 | .byt y=>y.size<=sizeLine/\k=((y.size:Int) != 0)
 | .ref p=>(∃xs,SqL K H p xs/\k=!xs.isEmpty)\/(∃xs,SqT K H p xs/\k=!xs.isEmpty)\/∃kvs,H p=some (.dK kvs)/\k=!kvs.isEmpty
 | _=>False
def YO{κ:Type}{kvs:List (κ×V)}{vs:List (κ×Value)}(r:KV kvs vs):(!vs.isEmpty)=!kvs.isEmpty:=by
 cases r <;> rfl
def NP{xs:List V}{its:List Value}(r:Vals xs its):(!its.toArray.isEmpty)=!xs.isEmpty:=by
 cases r <;> simp
def lT:(sizeLine:Nat)<2 ^ 63:=by rw[sizeLine_eq];decide
def sU:LC X (λx H Q=>∃k,yB X.K x H k/\Q k H):=by
 intro o s σ H x v Q I d h;obtain⟨k,e,q⟩:=h;have hl:=lT;have hs:sizeLine=16777216:=sizeLine_eq;cases x with
 | non=>
  cases d;have a:k=false:=e;subst a;exact truthy_none ⟨H,I,q⟩
 | bl b=>
  cases d;have a:k=b:=e;subst a;exact rX ⟨H,I,q⟩
 | int i=>
  obtain⟨t,rfl⟩:=d;have a:k=(i != 0):=e;subst a;exact PySem.P.truthy_int ⟨H,I,q⟩
 | str y=>
  obtain⟨t,rfl⟩:=d;obtain⟨l,a⟩:↑y<=sizeLine/\k=((↑y:Int) != 0):=e;subst a;exact PySem.P.truthy_str (by lia) ⟨H,I.tok _,q⟩
 | byt y=>
  obtain⟨t,rfl⟩:=d;obtain⟨l,a⟩:y.size<=sizeLine/\k=((y.size:Int) != 0):=e;subst a;exact PySem.W.truthy_bytes (by lia) ⟨H,I.tok _,q⟩
 | ref p=>
  cases d;have a:(∃xs,SqL X.K H p xs/\k=!xs.isEmpty)\/(∃xs,SqT X.K H p xs/\k=!xs.isEmpty)\/∃kvs,H p=some (.dK kvs)/\k=!kvs.isEmpty:=e;rcases a with ⟨xs,hx,a⟩ | ⟨xs,hx,a⟩ | ⟨kvs,hx,a⟩
  .subst a;obtain⟨its,r,f,hz⟩:=I.list hx;have j:=↑r;exact wpAny_truthy_list f.isList (by simp only[cO];lia) ⟨H,I.tok _,by rw[NP r];exact q⟩
  .subst a;obtain⟨its,r,f,hz⟩:=I.tuple hx;have j:=↑r;exact truthy_tuple f (by simp only[cO];lia) ⟨H,I.tok _,by rw[NP r];exact q⟩
  .subst a;obtain⟨hz,n,vs,r,m⟩:↑kvs<=sizeLine/\(p == sysModules)=false/\∃vs,KV kvs vs/\s.heap.DictOf (cB X.prog X.w) p vs:=I.hok p _ hx;have j:↑kvs=↑vs:=Paired.length r;exact wpAny_truthy_dict n m (by lia) ⟨H,I.tok _,by rw[YO r];exact q⟩
 | _=>exact(show False from e).elim
def XY(i:PE X a ta)(he:∀whole,isTrue a X.env whole=(do let v <-whole;standAt a.pos;holding [v]<|truthy v)):
  PT X a (λσ H Q=>ta σ H λx H'=>∃k,yB X.K x H' k/\Q k H'):=by
 intro b s σ H Q I h;exact isTrue_plain (aQ (i b s σ H _ I h) <| by rintro v d ⟨x,H1,j,f,e⟩;exact sU b d σ H1 x v Q j f e)<|he _
def DY:cX X (binaryOp .Add) (λx y H Q=>∃i j,x=.str i/\y=.str j/\↑i+↑j<=sizeLine/\Q (.str<|i++j) H):=by
 intro d s σ H x y v u Q I a b h;obtain⟨i,j,rfl,rfl,hz,q⟩:=h;obtain⟨t,rfl⟩:=a;obtain⟨t',rfl⟩:=b;exact add_str (λt' tk=>⟨.str<|i++j,H,I.tok _,⟨_,rfl⟩,q⟩) hz
def jA{x:V}{us:List Value}(r:Vals [x] us):∃u,us=[u]/\RelV x u:=by
 cases r with
 | cons r1 r2=>cases r2;exact⟨_,rfl,r1⟩
def nG{x y:V}{us:List Value}(r:Vals [x,y] us):∃u w',us=[u,w']/\RelV x u/\RelV y w':=by
 cases r with
 | cons r1 r2=>
  cases r2 with
  | cons r3 r4=>cases r4;exact⟨_,_,rfl,r1,r3⟩
def XT:CallR X (.builtin "abs") (λxs H Q=>∃i,xs=[.int i]/\Q (.int<|if i<0 then -i else i) H):=by
 intro a s σ H xs us Q I r h;obtain⟨i,rfl,q⟩:=h;obtain⟨u,rfl,t,rfl⟩:=jA r;exact call_abs_int λu tk=>⟨.int (if i<0 then -i else i),H,I.tok _,⟨_,rfl⟩,q⟩
def TW(b:X.calm=true):CallR X (.builtin "max") (λxs H Q=>∃i j,xs=[.int i,.int j]/\Q (.int<|if j > i then j else i) H):=by
 intro e s σ H xs us Q I r h;obtain⟨i,j,rfl,q⟩:=h;obtain⟨u,d,rfl,⟨t,rfl⟩,⟨t',rfl⟩⟩:=nG r;refine max_two_ints (I.ok.hd b) λh' tk k=>⟨_,H,I.kept k,?_,q⟩
 by_cases a:j > i
 .rw[bC a,bC a];exact⟨_,rfl⟩
 .rw[aY a,aY a];exact⟨_,rfl⟩
def XO(b:X.calm=true):CallR X (.builtin "min") (λxs H Q=>∃i j,xs=[.int i,.int j]/\Q (.int<|if j<i then j else i) H):=by
 intro e s σ H xs us Q I r h;obtain⟨i,j,rfl,q⟩:=h;obtain⟨u,d,rfl,⟨t,rfl⟩,⟨t',rfl⟩⟩:=nG r;refine min_two_ints (I.ok.hd b) λh' tk k=>⟨_,H,I.kept k,?_,q⟩
 by_cases a:j<i
 .rw[bC a,bC a];exact⟨_,rfl⟩
 .rw[aY a,aY a];exact⟨_,rfl⟩
def BZ:CallR X (.type "int") (λxs H Q=>(∃i,xs=[.int i]/\Q (.int i) H)\/∃k,xs=[.bl k]/\Q (.int<|if k then 1 else 0) H):=by
 intro b s σ H xs us Q I r h;rcases h with ⟨i,rfl,q⟩ | ⟨k,rfl,q⟩
 .obtain⟨u,rfl,t,rfl⟩:=jA r;exact call_int_int ⟨.int i,H,I,⟨_,rfl⟩,q⟩
 .obtain⟨u,rfl,a⟩:=jA r;cases a;exact call_int_bool ⟨.int (if k then 1 else 0),H,I.tok _,⟨_,rfl⟩,q⟩
end
structure ObjM(h:Heap)(x dx C:Addr)(mA:Str->Option Value):Prop where
 obj:h.get? x=some (PySem.W.instObj C dx)
 ns:h.Ns1 dx mA
 ne:dx≠x
def VE{h:Heap}{dx:Addr}{mA:Str->Option Value}(n:h.Ns1 dx mA):∃od,h.get? dx=some od/\∀name,PySem.W.lookIn name od=some (mA name):=by
 obtain⟨o,es,ep,b,hd,j,_,f⟩:=n;refine⟨o,b,λname=>?_⟩;have e:=f name;unfold nsFind findBy at e;rw[<-Array.find?_toList]at e;unfold PySem.W.lookIn;rw[hd];dsimp only
 split
 .rename_i y q
  rw[q]at e;exact cK some e
 .rename_i q
  rw[q]at e;have a:es.toList.any (·.refKey)=false:=by
   rw[List.any_eq_false];intro y d;obtain⟨z,t,l⟩:=j y<|Array.mem_toList_iff.mp d;simp[DictEntry.refKey,l]
  have i:¬es.toList.any (·.refKey)=true:=by rw[a];exact fK
  rw[aY i];exact cK some e
def ObjM.look{h:Heap}{x dx C:Addr}{mA:Str->Option Value}(I:ObjM h x dx C mA):∃od,PySem.W.InstAt h x (PySem.W.instObj C dx) C (some od)/\∀name,PySem.W.lookIn name od=some (mA name):=
 let ⟨od,ho,hl⟩:=VE I.ns
 ⟨od,⟨I.obj,rfl,rfl,ho⟩,hl⟩
section
variable{K:Fq}{x dx C f:Addr}{mA:Str->Option Value}{name:Str}{v:Value}
def WP{f:Bool}{Q:Vp}(X:K.In s.heap)(I:ObjM s.heap x dx C mA)(e:PySem.W.plainGet K C name=true)(d:PySem.W.hasDictIn K C=true)
  (i:PySem.W.findIn K (.ref C) name=some none) (b:mA name=some v) (a:PySem.W.handedIn v=true) (h:Q v {s with toks:=s.toks+1}):
  wpAny (model prog w) A (getAttr (.ref x) name f) Q E s:=by
 obtain⟨od,J,hl⟩:=I.look;exact PySem.W.get_value X J (PySem.W.plainGet_of e).1 (PySem.W.findObj_own d i rfl<|by rw[hl,b]) a h
def SZ{e:List Str}{Q:Unit->Shared->Prop}(X:K.In s.heap)(I:ObjM s.heap x dx C mA)
  (hs:PySem.W.findIn K (.ref C) "__setattr__"=some (some<|.builtin "object.__setattr__")) (hp:PySem.W.plainOver K C=true) (q:PySem.W.takerIn K C name=some none) (z:PySem.W.hasDictIn K C=true)
  (o:PySem.Within mA e) (hsz:↑e<=sizeLine)
  (h:∀h',ObjM h' x dx C (λy=>if y=name then some v else mA y)->Heap.SameBut dx s.heap h'->Q () {s with heap:=h',toks:=s.toks+2}):
  wpAny (model prog w) A (setAttr (.ref x) name v) Q E s:=by
 obtain⟨od,J,hl⟩:=I.look;refine PySem.W.set_plain X J hs<|PySem.W.osa_open (s:={s with toks:=s.toks+1}) (r:=none) X J hp q λb=>?_;obtain⟨L,u,n⟩:=PySem.W.any_some z;have m:s.heap.get? x=some ⟨.ref C,some dx,.plain,#[]⟩:=I.obj;refine aI<|bE<|aI<|aI<|wpAny_loadPart m<|aI<|PySem.W.Looks.here (s:={s with toks:=s.toks+1}) (PySem.W.looks_clsIn X u) ?_;rw[n];refine bE (a:=some dx)<|aI<|bE<|aI ?_;refine wpAny_nsSet1 (s:={s with toks:=s.toks+1}) I.ns λh' d f=>?_;obtain⟨H,G,B,i,l,j⟩:=d.count<|PySem.Within.cons name v o;refine aI<|wpAny_lookBehind i (by rw[l];exact pastItsLine_dict<|gC j<|by rw[cU];lia) ?_;exact bE<|h _ ⟨(f.2 _<|bL I.ne).trans I.obj,d,I.ne⟩ f
def XZ{R:Result->Shared->Prop}{vs:List Value}{a:List (Str×Value)}(X:K.In s.heap)(e:PySem.W.makesIn K C=true)
  (hi:PySem.W.findIn K (.ref C) "__init__"=some (some<|.ref f)) (b:PySem.W.typeIn K (.ref f)=some (.type "function"))
  (h:codeAny (model prog w) (A.under<|.builtin "type.__call__" ⟨.ref C::vs,a⟩) (.call (.ref f) ⟨.ref (s⁻¹+1)::vs,a⟩) (PySem.W.InitBack (s⁻¹+1) R)
   {s with heap:=(s.heap.push PySem.W.emptyDict).push<|PySem.W.instObj C s⁻¹}):
  codeAny (model prog w) A (.call (.ref C) ⟨vs,a⟩) R s:=by
 obtain⟨i,g,d,t,os⟩:=s;exact PySem.W.make_core (PySem.W.makes_of X e) (PySem.W.looks_findIn X hi) (λself=>PySem.W.bind_fn X self b) (.inl rfl) h
end
def cE(f:Str)(v:V):List (Str×V)->List (Str×V)
 | []=>[(f,v)]
 | (g,x)::r=>if g=f then(g,v)::r else(g,x)::cE f v r
theorem OL(f g:Str)(v:V):∀fs:List (Str×V),(cE f v fs).lookup g=if g=f then some v else fs.lookup g
 | []=>by
  show List.lookup g [(f,v)]=_
  by_cases h:g=f
  .have a:(g == f)=true:=beq_iff_eq.mpr h;simp only[List.lookup,a,bC h]
  .have a:(g == f)=false:=ww6.mpr h;simp only[List.lookup,a,aY h]
 | (k,x)::r=>by
  have d:=OL f g v r;rw[show cE f v ((k,x)::r)=(if k=f then(k,v)::r else(k,x)::cE f v r) from rfl]
  by_cases b:k=f
  .rw[bC b]
   by_cases h:g=k
   .have a:(g == k)=true:=beq_iff_eq.mpr h;simp only[List.lookup,a,bC<|h.trans b]
   .have a:(g == k)=false:=ww6.mpr h;simp only[List.lookup,a,aY (λe:g=f=>h<|e.trans b.symm)]
  .rw[aY b]
   by_cases h:g=k
   .have a:(g == k)=true:=beq_iff_eq.mpr h;simp only[List.lookup,a,aY (λe:g=f=>b<|h.symm.trans e)]
   .have a:(g == k)=false:=ww6.mpr h;simp only[List.lookup,a];exact d
theorem IJ(f:Str)(v:V):∀fs:List (Str×V),f∈(cE f v fs).map (·.1)/\∀g,g∈fs.map (·.1)->g∈(cE f v fs).map (·.1)
 | []=>⟨by simp[cE],λg h=>by simp at h⟩
 | (k,x)::r=>by
  obtain⟨d,b⟩:=IJ f v r;rw[show cE f v ((k,x)::r)=(if k=f then(k,v)::r else(k,x)::cE f v r) from rfl]
  by_cases a:k=f
  .rw[bC a];subst a;exact⟨by simp,λg h=>by simpa using h⟩
  .rw[aY a];refine⟨?_,λg h=>?_⟩
   .rw[fH];exact hC _ d
   .rw[fH]at h ⊢;rcases wm9.mp h with e | e
    .exact wm9.mpr<|.inl e
    .exact hC _<|b g e
theorem MX(f:Str)(v:V):∀fs:List (Str×V),↑(cE f v fs)<=↑fs+1
 | []=>by simp[cE]
 | (k,x)::r=>by
  have b:=MX f v r;rw[show cE f v ((k,x)::r)=(if k=f then(k,v)::r else(k,x)::cE f v r) from rfl]
  by_cases a:k=f
  .rw[bC a,cU,cU];lia
  .rw[aY a,cU,cU];lia
def RelO.some_of{v:V}{o:Option Value}(r:RelO (some v) o):∃u,o=some u/\RelV v u:=by
 cases o with
 | none=>exact(show False from r).elim
 | some u=>exact⟨u,rfl,r⟩
def TD{v:V}{u:Value}(r:RelV v u):PySem.W.handedIn u=true:=by
 cases v with
 | non=>cases (show u=Value.none from r);rfl
 | bl b=>cases (show u=Value.bool b from r);rfl
 | int i=>obtain⟨t,e⟩:=(show ∃t,u=Value.int i t from r);cases e;rfl
 | str x=>obtain⟨t,e⟩:=(show ∃t,u=Value.str x t from r);cases e;rfl
 | byt b=>obtain⟨t,e⟩:=(show ∃t,u=Value.bytes b t from r);cases e;rfl
 | flt b=>obtain⟨t,e⟩:=(show ∃t,u=Value.float b t from r);cases e;rfl
 | ref a=>cases (show u=Value.ref a from r);rfl
 | ty n=>cases (show u=Value.type n from r);rfl
section
variable{P:Program}{w:World}{H H':Hp}{h h':Heap}{a C dx:Addr}{fs fs':List (Str×V)}
def FY(b:HOk P w H h)(e:H a=some (.ins C dx fs)):∃mA,ObjM h a dx C mA/\(∀f,RelO (fs.lookup f)<|mA f)/\PySem.Within mA (fs.map (·.1))/\↑fs<=1000/\H dx=some (.own a):=by
 obtain⟨d,z,ne,i,mA,n,r,q⟩:=(show ObjOk P w H h a (.ins C dx fs) from b a _ e);exact⟨mA,⟨i,n,ne⟩,r,q,z,d⟩
end
structure Cls(K:Fq)(C:Addr):Prop where
 pg:PySem.W.plainGet K C Str.empty=true
 hd:PySem.W.hasDictIn K C=true
 po:PySem.W.plainOver K C=true
 sa:PySem.W.findIn K (.ref C) "__setattr__"=some (some<|.builtin "object.__setattr__")
def Cls.get{K:Fq}{C:Addr}(c:Cls K C)(f:Str):PySem.W.plainGet K C f=true:=c.pg
def NoAttr(K:Fq)(C:Addr)(f:Str):Prop:=PySem.W.findIn K (.ref C) f=some none
def NoAttr.taker{K:Fq}{C:Addr}{f:Str}(n:NoAttr K C f):PySem.W.takerIn K C f=some none:=by
 unfold PySem.W.takerIn;rw[show PySem.W.findIn K (.ref C) f=some none from n];rfl
section
variable{pins:List (Addr×Obj)}{σ:St}{H:Hp}{s:Shared}{a C dx:Addr}{fs:List (Str×V)}{f:Str}{v:V}{A:Around}{E:Vp}
def MA{b:Bool}{Q:Vp}(I:Inv X pins σ H s)(e:H a=some (.ins C dx fs))(c:Cls X.K C)(n:NoAttr X.K C f)(l:fs.lookup f=some v)
  (h:∀u s',Inv X pins σ H s'->RelV v u->Q u s'):wpAny (model X.prog X.w) A (getAttr (.ref a) f b) Q E s:=by
 obtain⟨mA,O,r,_,_,_⟩:=FY I.hok e;obtain⟨u,i,d⟩:=RelO.some_of (v:=v) (o:=mA f) (by rw[<-l];exact r f);exact WP I.kIn O (c.get f) c.hd n i (TD d)<|h u _ (I.tok _) d
def RB{y:V}{u:Value}{Q:Unit->Shared->Prop}(I:Inv X pins σ H s)(e:H a=some (.ins C dx fs))(c:Cls X.K C)(n:NoAttr X.K C f)(hl:↑fs<1000)(m:RelV y u)
  (h:∀s',Inv X pins σ (upd H a<|.ins C dx<|cE f y fs) s'->Q () s'):wpAny (model X.prog X.w) A (setAttr (.ref a) f u) Q E s:=by
 obtain⟨mA,O,r,j,_,i⟩:=FY I.hok e;have hz:↑(fs.map (·.1))<=sizeLine:=by rw[aK,sizeLine_eq];lia
 refine SZ I.kIn O c.sa c.po n.taker c.hd j hz λh' d G=>h _ ?_;have hd:∃o,h'.get? dx=some o:=let ⟨o,_,_,e',_⟩:=d.ns;⟨o,e'⟩
 refine I.write (x:=a) (e:=dx) (by rw[e];exact fW) (.inr i) (λb q l z=>(G.2 b l).trans z) hd ?_;refine⟨by rw[aC O.ne];exact i,?_,O.ne,d.obj,_,d.ns,λg=>?_,λg B=>?_⟩
 .have:=MX f y fs;lia
 .show RelO ((cE f y fs).lookup g) (if g=f then some u else mA g);rw[OL]
  by_cases q:g=f
  .rw[bC q,bC q];exact m
  .rw[aY q,aY q];exact r g
 .by_cases q:g=f
  .rw[q];exact(IJ f y fs).1
  .refine(IJ f y fs).2 g (j g λz=>B ?_);show(if g=f then some u else mA g)=none;rw[aY q];exact z
def Inv.made(I:Inv X pins σ H s):Inv X pins σ (upd (upd H s⁻¹<|.own<|s⁻¹+1) (s⁻¹+1)<|.ins C s⁻¹ [])
  {s with heap:=(s.heap.push PySem.W.emptyDict).push<|PySem.W.instObj C s⁻¹}:=by
 have d:(s.heap.push PySem.W.emptyDict).get? s⁻¹=some PySem.W.emptyDict:=dD s.heap rfl;have f:((s.heap.push PySem.W.emptyDict).push<|PySem.W.instObj C s⁻¹).get? (s⁻¹+1)=some (PySem.W.instObj C s⁻¹):=by
  have:=dD (s.heap.push PySem.W.emptyDict) (o:=PySem.W.instObj C s⁻¹) rfl;rwa [oH]at this
 have h:(s.heap.push PySem.W.emptyDict).Ns s⁻¹ (λ_=>none):=⟨PySem.W.emptyDict,#[],_,d,rfl,(λe he=>absurd he<|by simp),λ_=>rfl⟩;have j:=I.laid (a:=s⁻¹) (o:=.own<|s⁻¹+1) (h':=s.heap.push PySem.W.emptyDict) (t':=s.toks) (λb u q=>bS _ q) (aU _) ⟨_,d⟩;refine j.laid (a:=s⁻¹+1) (o:=.ins C s⁻¹ []) (t':=s.toks) (λb u q=>bS _ q) (Nat.le_of_eq<|oH _ _) ?_;have ne:s⁻¹≠s⁻¹+1:=bU<|wM _;refine⟨by rw[aC ne,zb1],bM _,ne,f,λ_=>none,(Heap.Ns1.of_empty h).at λo q=>bS _ q,λ_=>fW,λy i=>absurd rfl i⟩
def UV{prog:Program}{w:World}{env:Env}{e:Expr}{f:Str}{pos:Pos}{s:Shared}{Q:Vp}(a:attributeBase e f env (eval e env)=eval e env)
  (h:wpAny (model prog w) A (eval e env) (λo b=>wpAny (model prog w) A (getAttr o f true) Q E b) E s):wpAny (model prog w) A (eval (.Attribute e f pos) env) Q E s:=
 Attribute_any_ h (by rw[arm_eval_Attribute,a])
end
def xG(X:Cx)(op:Operator)(rd:V->V->Hp->VK->Prop):Prop:=
 ∀(pins:List (Addr×Obj))(s:Shared)(σ:St)(H:Hp)(x y:V)(u v:Value)(Q:VK),Inv X pins σ H s->RelV x u->RelV y v->rd x y H Q->wpAny (model X.prog X.w) X.A (inplaceOp op u v) (EP X pins σ Q) X.xe s
section
variable{o e value:Expr}{f:Str}{pos pos' tpos:Pos}{ta tv:TE}
def FB:V->V->Hp->VK->Prop:=λx y H Q=>∃i j,x=.int i/\y=.int j/\Q (.int<|i+j) H
def uI:xG X .Add FB:=by
 rintro d s σ H x y u v Q I a b ⟨i,j,rfl,rfl,q⟩;obtain⟨t,rfl⟩:=(show ∃t,u=Value.int i t from a);obtain⟨t',rfl⟩:=(show ∃t',v=Value.int j t' from b);exact PyProof.Rows.iadd_int ⟨.int<|i+j,H,I.tok _,⟨_,rfl⟩,q⟩
end
section
variable{pins:List (Addr×Obj)}{σ:St}{H:Hp}{s:Shared}{A:Around}{E:Vp}{Q:Vp}{c:Value}{b:Bool}
inductive eJ(K:Fq)(H:Hp):V->Value->Prop where
 | non:eJ K H .non (.type "NoneType")
 | bl (x:Bool):eJ K H (.bl x) (.type "bool")
 | int (i:Int):eJ K H (.int i) (.type "int")
 | str (x:Str):eJ K H (.str x) (.type "str")
 | flt (x:UInt64):eJ K H (.flt x) (.type "float")
 | lst {a:Addr} {xs:List V} (e:H a=some (.lst xs)):eJ K H (.ref a) (.type "list")
 | frz {a:Addr} {o:Obj} {xs:List V} (e:H a=some (.frz o<|.lst xs)):eJ K H (.ref a) (.type "list")
 | tup {a:Addr} {xs:List V} (e:H a=some (.tup xs)):eJ K H (.ref a) (.type "tuple")
 | dK {a:Addr} {kvs:List (aG×V)} (e:H a=some (.dK kvs)):eJ K H (.ref a) (.type "dict")
 | dT {a:Addr} {kvs:List (List aG×V)} (e:H a=some (.dT kvs)):eJ K H (.ref a) (.type "dict")
 | ins {a C dx:Addr} {fs:List (Str×V)} (e:H a=some (.ins C dx fs)) (cl:Cls K C) (ha:PySem.W.findIn K (.ref C) "__class__"=some (some<|.builtin "object.__class__"))
   (hn:PySem.W.specialIn K (.builtin "object.__class__") "__get__"=some (some<|.builtin "getset_descriptor.__get__")) (htk:PySem.W.takesIn K (.builtin "object.__class__")=some true)
   (hm:PySem.W.mroIn K C (.type "object")=some true):eJ K H (.ref a) (.ref C)
def VD{x:V}{u t:Value}(I:Inv X pins σ H s)(d:RelV x u)(ty:eJ X.K H x t)(e:PySem.W.kitOne X.K t c=some b)(h:∀tk,Q (.bool b) {s with toks:=tk}):
  wpAny (model X.prog X.w) A (call (.builtin "isinstance") [u,c]) Q E s:=by
 cases ty with
 | non=>cases (show u=Value.none from d);exact jY PySem.W.kitx_none I.kIn fW e (λz=>nomatch z) h
 | bl y=>cases (show u=Value.bool y from d);exact jY PySem.W.kitx_bool I.kIn fW e (λz=>nomatch z) h
 | int i=>obtain⟨t,q⟩:=(show ∃t,u=Value.int i t from d);cases q;exact jY PySem.W.kitx_int I.kIn fW e (λz=>nomatch z) h
 | str y=>obtain⟨t,q⟩:=(show ∃t,u=Value.str y t from d);cases q;exact jY PySem.W.kitx_str I.kIn fW e (λz=>nomatch z) h
 | flt y=>obtain⟨t,q⟩:=(show ∃t,u=Value.float y t from d);cases q;exact jY PySem.W.kitx_float I.kIn fW e (λz=>nomatch z) h
 | @lst a xs ea=>
  cases (show u=Value.ref a from d);obtain⟨_,_,n,_,h1⟩:=(show ObjOk X.prog X.w H s.heap a (.lst xs) from I.hok a _ ea);exact jY PySem.W.kitx_list I.kIn ⟨_,h1,rfl⟩ e (λz=>nomatch z) h
 | @frz a ob xs ea=>
  cases (show u=Value.ref a from d);obtain⟨_,_,_,n,_,h1⟩:=(show ObjOk X.prog X.w H s.heap a (.frz ob<|.lst xs) from I.hok a _ ea);exact jY PySem.W.kitx_list I.kIn ⟨_,h1,rfl⟩ e (λz=>nomatch z) h
 | @tup a xs ea=>
  cases (show u=Value.ref a from d);obtain⟨_,_,_,p⟩:=(show ObjOk X.prog X.w H s.heap a (.tup xs) from I.hok a _ ea);obtain⟨o,h1,h2,_⟩:=p;exact jY PySem.W.kitx_tuple I.kIn ⟨o,h1,h2⟩ e (λz=>nomatch z) h
 | @dK a kvs ea=>
  cases (show u=Value.ref a from d);obtain⟨_,_,vs,_,p⟩:=(show ObjOk X.prog X.w H s.heap a (.dK kvs) from I.hok a _ ea);obtain⟨o,es,ep,h1,h2,_⟩:=p;exact jY PySem.W.kitx_dict I.kIn ⟨o,h1,h2.1⟩ e (λz=>nomatch z) h
 | @dT a kvs ea=>
  cases (show u=Value.ref a from d);obtain⟨_,_,xs,_,o,es,ep,h1,h2,_⟩:=(show ObjOk X.prog X.w H s.heap a (.dT kvs) from I.hok a _ ea);exact jY PySem.W.kitx_dict I.kIn ⟨o,h1,h2.1⟩ e (λz=>nomatch z) h
 | @ins a C dx fs ea cl ha hn htk hm=>
  cases (show u=Value.ref a from d);obtain⟨mA,O,_⟩:=FY I.hok ea;obtain⟨od,J,_⟩:=O.look;exact jY (PySem.W.kitx_own (cl.get _) cl.hd ha hn htk hm) I.kIn J e (λz=>nomatch z) h
end
structure Room(k:Nat)(A:Around):Prop where
 hd:A.handled=none
 dp:A.depth+3*k+5<recursionLimit
 un:A.units+16*k+200<cLine
theorem Room.deeper{k:Nat}{A:Around}(r:Room (k+1) A)(env:Env):Room k (A.deeper env):=
 ⟨r.hd,by have:=r.dp;show A.depth+1+3*k+5<_;lia,by have:=r.un;show A.units+3+16*k+200<_;lia⟩
theorem Room.in1{k:Nat}{A:Around}(r:Room (k+1) A):Room k A.in1:=
 ⟨r.hd,by have:=r.dp;show A.depth+3*k+5<_;lia,by have:=r.un;show A.units+1+16*k+200<_;lia⟩
def XB{A:Around}{C:Addr}{us:List Value}{a:List (Str×Value)}:(A.under<|.builtin "type.__call__" ⟨.ref C::us,a⟩).depth=A.depth+1:=by
 first | rfl | simp[Around.under,Code.weight,Code.isCreation,Code.isGuard,Code.isCaller,Code.frames,Code.isFrame,guardIds]
def TZ{A:Around}{C:Addr}{us:List Value}{a:List (Str×Value)}:(A.under<|.builtin "type.__call__" ⟨.ref C::us,a⟩).units=A.units+1:=by
 first | rfl | simp[Around.under,Code.cUnits,Code.frames,Code.isFrame]
def Room.make{k:Nat}{A:Around}(r:Room (k+1) A)(C:Addr)(us:List Value)(a:List (Str×Value)):Room k (A.under<|.builtin "type.__call__" ⟨.ref C::us,a⟩):=
 ⟨r.hd,by have:=r.dp;rw[XB];lia,by have:=r.un;rw[TZ];lia⟩
theorem Room.depth{k:Nat}{A:Around}(r:Room k A):A.depth<recursionLimit:=by have:=r.dp;lia
theorem Room.units{k:Nat}{A:Around}(r:Room k A):A.units+64<cLine:=by have:=r.un;lia
def aW:TA:=λ_ H Q=>Q [] H
def aZ(ta:TE)(tr:TA):TA:=λσ H Q=>ta σ H λx H1=>tr σ H1 λxs H2=>Q (x::xs) H2
section
variable{e:Expr}{es:List Expr}{te:TE}{t:TA}{pos:Pos}
def aE:PA X [] aW:=λ_ _ _ _ H Q I h=>tZ ⟨[],H,I,.nil,h⟩
def aA(i:PE X e te)(hr:PA X es t)(hs:starEach (e::es) X.env=(false,eval e X.env)::starEach es X.env:=by rfl):PA X (e::es) (aZ te t):=by
 intro pos a s σ H Q I h;rw[hs];show wpAny _ _ (spliced<|(false,eval e X.env)::backTo pos (starEach es X.env)) _ _ s;refine kU<|aQ (i a s σ H _ I h) ?_;rintro u b ⟨x,H1,j,m,l⟩;exact aQ (hr pos a b σ H1 _ j l) <| by rintro us s2 ⟨xs,H2,n,f,d⟩;exact⟨x::xs,H2,n,.cons m f,d⟩
inductive QH(xs:List V)(H:Hp)(Q:VK):Prop
 | mk(h:↑xs<=sizeLine)(q:∀p,H p=none->Q (.ref p) (upd H p<|.tup xs)):QH xs H Q
def dB(t:TA):TE:=λσ H Q=>t σ H λxs H1=>QH xs H1 Q
inductive SE(xs:List V)(H:Hp)(Q:VK):Prop
 | mk(h:↑xs<=sizeLine)(q:∀p,H p=none->Q (.ref p) (upd H p<|.lst xs)):SE xs H Q
def jU(t:TA):TE:=λσ H Q=>t σ H λxs H1=>SE xs H1 Q
def bV{x1}(h:PA X es t):PE X (.Tuple es x1 pos) (dB t):=by
 intro j s σ H Q I f;refine wpAny_Tuple_spliced<|aQ (h pos j s σ H _ I f) λus a ⟨xs,H1,d,r,z,q⟩=>⟨by rw[<-↑r];exact z,?_⟩;have i:H1 a⁻¹=none:=d.hok.fresh<|aU _;refine⟨.ref a⁻¹,upd H1 a⁻¹<|.tup xs,d.laid (t':=a.toks) (λb u e=>bS _ e) (aU _) ?_,rfl,q _ i⟩;exact⟨⟨z,_,dD _ rfl,rfl⟩,us,r,⟨_,dD _ rfl,rfl,_,rfl⟩⟩
def cG(h:PA X es t):PE X (.List es pos) (jU t):=by
 intro j s σ H Q I f;refine wpAny_List_spliced<|aQ (h pos j s σ H _ I f) λus a ⟨xs,H1,d,r,z,q⟩=>⟨by rw[<-↑r];exact z,?_⟩;have i:H1 a⁻¹=none:=d.hok.fresh<|aU _;refine⟨.ref a⁻¹,upd H1 a⁻¹<|.lst xs,d.laid (t':=a.toks) (λb u e=>bS _ e) (aU _) ?_,rfl,q _ i⟩;exact⟨z,us,0,r,dD _ rfl⟩
end
abbrev Sp:=List V->Hp->VK->XK->Prop
abbrev jB:=List Env->Hp->Shared->XK->Value->Shared->Prop
structure Env0(P:Program)(w:World)(K:Fq)(mg:Str->Option Value)(base:Heap)(A:Around)(outer:List Env)(s:Shared)(H:Hp):Prop where
 frames:A.frames=some outer
 mod:Mod K mg base
 bs:∀b o,base.get? b=some o->s.heap.get? b=some o/\H b=none
 bsz:base.objs.size<=s⁻¹
 funs:s.heap.FunFrames base outer
 frf:∀b∈kS outer,H b=none
 hok:HOk P w H s.heap
 bare:AllBare s.gens
def CE(outer:List Env)(P:Program)(w:World)(H:Hp)(s:Shared)(Q:VK)(u:Value)(s':Shared):Prop:=
 ∃v H',s'.os=s.os/\AllBare s'.gens/\Un (kS outer) [] H H' s.heap s'.heap/\HOk P w H' s'.heap/\RelV v u/\Q v H'
def CR(CX:jB)(outer:List Env)(P:Program)(w:World)(H:Hp)(s:Shared)(Q:VK)(E:XK)(r:Result)(s':Shared):Prop:=
 match r with
 | .ok (.ret u)=>CE outer P w H s Q u s'
 | .ok _=>False
 | .error e=>CX outer H s E e s'
structure aR(P:Program)(w:World)(K:Fq)(mg:Str->Option Value)(base:Heap)(CX:jB)(k:Nat)(f:Addr)(fd:FuncData)(ps:List Str)(sp:Sp):Prop where
 len:∀vs H Q E,sp vs H Q E->↑vs=↑ps
 run:∀(A:Around)(outer:List Env)(s:Shared)(H:Hp)(args:Args)(us:List Value)(vs:List V)(Q:VK)(E:XK),Room k A->Env0 P w K mg base A outer s H->BindsTo s fd args (ps.zip us)->Vals vs us->sp vs H Q E->
  codeAny (model P w) A (.call (.ref f) args) (CR CX outer P w H s Q E) s
def Env0.make{P:Program}{w:World}{K:Fq}{mg:Str->Option Value}{base:Heap}{A:Around}{outer:List Env}{s:Shared}{H:Hp}(e:Env0 P w K mg base A outer s H)(C:Addr)(us:List Value)(a:List (Str×Value)):
  Env0 P w K mg base (A.under<|.builtin "type.__call__" ⟨.ref C::us,a⟩) outer s H:=⟨by first | exact e.frames | (simpa [Around.under,Code.envs,Code.isFrame,pushEnvs]using e.frames),e.mod,e.bs,e.bsz,e.funs,e.frf,e.hok,e.bare⟩
theorem Env0.in1{P:Program}{w:World}{K:Fq}{mg:Str->Option Value}{base:Heap}{A:Around}{outer:List Env}{s:Shared}{H:Hp}(e:Env0 P w K mg base A outer s H):
  Env0 P w K mg base A.in1 outer s H:=⟨e.frames,e.mod,e.bs,e.bsz,e.funs,e.frf,e.hok,e.bare⟩
section
variable{pins:List (Addr×Obj)}{σ:St}{H:Hp}{s s':Shared}
def Inv.env0(I:Inv X pins σ H s):Env0 X.prog X.w X.K X.mg X.base X.A X.stack s H:=
 ⟨I.ok.frames,I.ok.mod,I.bs,gC I.ok.bsz I.sz,I.stack,I.stkFree,I.hok,I.bare⟩
def Inv.after{Q:VK}{u:Value}(I:Inv X pins σ H s)(h:CE X.stack X.prog X.w H s Q u s'):EP X pins σ Q u s':=by
 obtain⟨v,H',os,a,un,e,r,q⟩:=h;obtain⟨f,g,d,t,i⟩:=s';obtain rfl:i=s.os:=os;exact⟨v,H',I.call (h':=f) (g':=g) (d':=d) (t':=t) (ch:=[]) un e a (λb z=>absurd z<|by simp),r,q⟩
end
def fN(sp:Sp)(dvs:List V)(E:XK)(t:TA):TE:=λσ H Q=>t σ H λvs H1=>sp (vs++dvs) H1 Q E
def Binds(K:Fq)(fd:FuncData)(ps:List Str)(ds:List Value):Prop:=
 ∀(s:Shared)(us:List Value),K.In s.heap->↑(us++ds)=↑ps->BindsTo s fd ⟨us,[]⟩ (ps.zip<|us++ds)
def Binds.all{K:Fq}{fd:FuncData}{ps:List Str}(h:∀us:List Value,↑us=↑ps->bindArgs fd ⟨us,[]⟩=pure (ps.zip us)):Binds K fd ps []:=λs us _ hl=>by
 rw[gA]at hl ⊢;exact .of_eq<|h us hl
def DI(CX:jB)(X:Cx)(E:XK):Prop:=∀(pins:List (Addr×Obj))(σ:St)(H:Hp)(s:Shared)(e:Value)(s':Shared),Inv X pins σ H s->CX X.stack H s E e s'->X.xe e s'
section
variable{CX:jB}{k:Nat}{f C:Addr}{fd:FuncData}{ps:List Str}{sp:Sp}{dvs:List V}{ds:List Value}{E:XK}{x m:Str}{p pos apos:Pos}{e o:Expr}{es:List Expr}{ta:TE}{t:TA}
def RL{b:List (Addr×Obj)}{σ:St}{H:Hp}{s:Shared}{Q:VK}{us:List Value}{vs:List V}(F:aR X.prog X.w X.K X.mg X.base CX k f fd ps sp)(hr:Room k X.A)(i:Binds X.K fd ps ds)(hd:Vals dvs ds)(j:DI CX X E)
  (I:Inv X b σ H s) (r:Vals vs us) (h:sp (vs++dvs) H Q E):wpAny (model X.prog X.w) X.A (call (.ref f) us) (EP X b σ Q) X.xe s:=by
 have d:Vals (vs++dvs) (us++ds):=r.append hd;have hl:↑(us++ds)=↑ps:=by rw[<-↑d];exact F.len _ _ _ _ h
 refine wpAny_call<|codeAny_mono (F.run X.A X.stack s H ⟨us,[]⟩ (us++ds) (vs++dvs) Q E hr I.env0 (i s us I.kIn hl) d h) λr s' a=>?_;cases r with
 | error e=>exact j b σ H s e s' I a
 | ok fl=>
  cases fl with
  | ret u=>exact I.after a
  | next=>exact False.elim a
  | brk=>exact False.elim a
  | cont=>exact False.elim a
def TV(F:aR X.prog X.w X.K X.mg X.base CX k f fd ps sp)(hr:Room k X.A)(l:Gl X x)(j:X.mg x=some (.ref f))(o:PySem.W.keepIn X.K (.ref f)=true)(i:Binds X.K fd ps ds)(hd:Vals dvs ds)(m:DI CX X E)
  (n:PA X (e::es) t) (b:(x == ("__debug__":Str))=false:=by decide) (he:starEach (e::es) X.env=(false,eval e X.env)::starEach es X.env:=by rfl) (d:(backTo pos<|starEach es X.env).any (·.1)=false:=by rfl):
  PE X (.Call (.Name x p) (e::es) [] pos) (fN sp dvs E t):=by
 intro u s σ H Q I h;refine vS<|FV I l j ?_ b;refine PySem.W.callWith_K (h₀:=X.base) I.ok.mod.kin o (aQ (n pos u s σ H _ I h) λus z ⟨vs,H1,a,r,q⟩=>⟨a.kIn,?_⟩) he d;exact RL F hr i hd m a r q
structure Mk(K:Fq)(C f:Addr):Prop where
 makes:PySem.W.makesIn K C=true
 init:PySem.W.findIn K (.ref C) "__init__"=some (some<|.ref f)
 fn:PySem.W.isFn K (.ref f)=true
 kp:PySem.W.keepIn K (.ref C)=true
def SR{d:List (Addr×Obj)}{σ:St}{H:Hp}{s:Shared}{Q:VK}{us:List Value}{vs:List V}(M:Mk X.K C f)(F:aR X.prog X.w X.K X.mg X.base CX k f fd ps sp)(hr:Room (k+1) X.A)(l:Binds X.K fd ps ds)(hd:Vals dvs ds)
  (m:DI CX X E) (I:Inv X d σ H s) (r:Vals vs us)
  (h:∀x dx,H x=none->H dx=none->dx≠x->sp (.ref x::(vs++dvs)) (upd (upd H dx<|.own x) x<|.ins C dx []) (λv H2=>v=.non/\Q (.ref x) H2) E):
  wpAny (model X.prog X.w) X.A (call (.ref C) us) (EP X d σ Q) X.xe s:=by
 have i:=h (s⁻¹+1) s⁻¹ (I.hok.fresh<|nN _) (I.hok.fresh<|aU _)<|bU<|wM _;have b:=Inv.made (C:=C) I;have j:Vals (V.ref (s⁻¹+1)::(vs++dvs)) (Value.ref (s⁻¹+1)::(us++ds)):=.cons rfl<|r.append hd;have hl:↑(Value.ref (s⁻¹+1)::us++ds)=↑ps:=by
  have e:=↑j;rw[F.len _ _ _ _ i]at e;exact e.symm
 refine wpAny_call<|XZ (f:=f) I.kIn M.makes M.init (beq_iff_eq.mp M.fn)<|codeAny_mono (F.run _ X.stack _ _ ⟨Value.ref (s⁻¹+1)::us,[]⟩ (Value.ref (s⁻¹+1)::(us++ds)) _ _ E (hr.make C us []) (b.env0.make C us []) (l _ (Value.ref (s⁻¹+1)::us) b.kIn hl) j i) λr s' a=>?_
 cases r with
 | error e=>exact m d σ _ _ e s' b a
 | ok fl=>
  cases fl with
  | ret u=>
   obtain⟨v,H',q,o,ev,n⟩:=b.after a;subst ev;exact⟨o,⟨V.ref<|s⁻¹+1,H',q,rfl,n⟩⟩
  | next=>exact False.elim a
  | brk=>exact False.elim a
  | cont=>exact False.elim a
end
section
variable{CX:jB}{k:Nat}{f C:Addr}{fd:FuncData}{ps ks:List Str}{sp:Sp}{E:XK}{x m:Str}{p pos apos kpos:Pos}{e o:Expr}{es:List Expr}{kws:List Keyword}{te ta:TE}{t tk:TA}{nm:Option Str}
variable{g:List Value->List Value->List Value}{gV:List V->List V->List V}
end
structure bY(N P:List Str)(sc:Scope):Prop where
 kind:sc.kind=.function
 co:sc.isCoroutine=false
 gen:sc.isGenerator=false
 nd:N.Nodup
 pre:N.take P.length=P
 par:∀x∈P,sc.names.lookup x=some .local\/sc.names.lookup x=some .cell
 nofree:∀y∈sc.names,y.2≠.free
theorem ML{kindOf:Str->Option NameKind}{x:Str}:∀{binds:List (Str×Value)}{m:Str->Option Value},(∀v,(x,v)∉binds)->bindL kindOf binds m x=m x
 | [],_,_=>rfl
 | (n,v)::r,m,h=>by
  unfold bindL;rw[ML λw a=>h w<|hC _ a]
  split
  .have:x≠n:=by rintro rfl;exact h v uC
   simp[this]
  .rfl
theorem QE{kindOf:Str->Option NameKind}{x:Str}:∀{binds:List (Str×Value)}{m:Str->Option Value},(∀v,(x,v)∉binds)->bindC kindOf binds m x=m x
 | [],_,_=>rfl
 | (n,v)::r,m,h=>by
  unfold bindC;rw[QE λw a=>h w<|hC _ a]
  split
  .rfl
  .have:x≠n:=by rintro rfl;exact h v uC
   simp[this]
theorem OU{kindOf:Str->Option NameKind}{x:Str}{v:Value}:∀{P:List Str}{vs:List Value}{i:Nat}{m:Str->Option Value},P.Nodup->P[i]?=some x->vs[i]?=some v->kindOf x=some .local->
  bindL kindOf (P.zip vs) m x=some v
 | [],_,_,_,_,h,_,_=>by simp at h
 | _::_,[],_,_,_,_,h,_=>by simp at h
 | p::P,w::vs,0,m,nd,h1,h2,hk=>by
  simp at h1 h2;subst h1;subst h2;show bindL kindOf ((p,w)::P.zip vs) m p=_;unfold bindL;rw[ML λv a=>(wq7.mp nd).1 (AV a).1,bC hk];simp
 | p::P,w::vs,i+1,m,nd,h1,h2,hk=>by
  show bindL kindOf ((p,w)::P.zip vs) m x=_;unfold bindL;exact OU (i:=i) (wq7.mp nd).2 (by simpa using h1) (by simpa using h2) hk
theorem LP{kindOf:Str->Option NameKind}{x:Str}{v:Value}:∀{P:List Str}{vs:List Value}{i:Nat}{m:Str->Option Value},P.Nodup->P[i]?=some x->vs[i]?=some v->kindOf x≠some .local->
  bindC kindOf (P.zip vs) m x=some v
 | [],_,_,_,_,h,_,_=>by simp at h
 | _::_,[],_,_,_,_,h,_=>by simp at h
 | p::P,w::vs,0,m,nd,h1,h2,hk=>by
  simp at h1 h2;subst h1;subst h2;show bindC kindOf ((p,w)::P.zip vs) m p=_;unfold bindC;rw[QE λv a=>(wq7.mp nd).1 (AV a).1,aY hk];simp
 | p::P,w::vs,i+1,m,nd,h1,h2,hk=>by
  show bindC kindOf ((p,w)::P.zip vs) m x=_;unfold bindC;exact LP (i:=i) (wq7.mp nd).2 (by simpa using h1) (by simpa using h2) hk
def mT(N:List Str)(vs:List V):St:=vs.map some++List.replicate (N.length-↑vs) none
def eU(CX:jB)(P:Program)(w:World)(K:Fq)(mg:Str->Option Value)(base:Heap)(N:List Str)(qual:Str)(scope:Scope)(f:Addr)(cd:Value)(A:Around)(outer:List Env)(s:Shared)(H:Hp)(E:XK):Cx where
 prog:=P
 w:=w
 K:=K
 mg:=mg
 base:=base
 A:=A.deeper<|envOfC qual scope s⁻¹ f cd
 N:=N
 s₀:=s
 H₀:=H
 env:=envOfC qual scope s⁻¹ f cd
 outer:=outer
 stack:=envOfC qual scope s⁻¹ f cd::outer
 ex:=[]
 calm:=true
 fn:=λ_=>true
 pn:=[]
 xe:=λe s'=>wpAny (model P w) (A.deeper<|envOfC qual scope s⁻¹ f cd) (leaving (envOfC qual scope s⁻¹ f cd) e) (λ_ s''=>CX outer H s E e s'') (λe' s''=>CX outer H s E e' s'') s'
def QX{a:Scope}{n:Nat}{x:Str}(h:a.names.lookup x=some .cell):∃c,(cellsFrom n a.names []).lookup x=some c:=by
 have q:=PySem.W.cellsFrom_some a.names n []<|.inl h;exact Option.isSome_iff_exists.mp q
def WM{CX:jB}{P:Program}{w:World}{K:Fq}{mg:Str->Option Value}{base:Heap}{N ps:List Str}{d:Str}{scope:Scope}{f:Addr}{m:Value}{A:Around}{outer:List Env}{s I:Shared}{H:Hp}{E:XK}{us:List Value}{vs:List V}
  (S:bY N ps scope) (hd:A.handled=none) (j:Env0 P w K mg base A outer s H) (hl:↑vs=↑ps) (r:Vals vs us)
  (x:InCallC s s⁻¹ (bindL (envOfC d scope s⁻¹ f m).kindOf (ps.zip us) λ_=>none) (cellsFrom (s⁻¹+1) scope.names []) (bindC (envOfC d scope s⁻¹ f m).kindOf (ps.zip us) λ_=>none) I):
  Inv (eU CX P w K mg base N d scope f m A outer s H E) [] (mT N vs) H I:=by
 have M:↑ps<=N.length:=by have:=cK List.length S.pre;rw[eK]at this;lia
 obtain⟨h1,tk,rfl,C⟩:=x.done;have o:∀b:Addr,b∉(eU CX P w K mg base N d scope f m A outer s H E).ex:=λb z=>absurd (show b∈([]:List Addr) from z) (by simp)
 exists ⟨j.mod,S.kind,rfl,rfl,aU _,λy z c h1 h2=>?_,λy l=>?_,λy c _ h=>?_,λ_=>hd,Around.frames_deeper j.frames,.inr ⟨rfl,rfl⟩,λb z=>absurd z<|o b,j.bs,j.bsz,λb _ _=>o b,λb z=>absurd z<|o b,j.funs,j.frf⟩,
  rfl,j.bare,Un.kept C,⟨_,x.toInCall.ns,λi y v h1 h2 O=>?_⟩,λy c h=>⟨_,x.cell y c h⟩,j.hok.fresh<|aU _,λy c h=>?_,λp hp=>absurd (show p∈([]:List (Addr×Obj)) from hp) (by simp),j.hok.kept C
 .exact name_of_addr x.apart (uU h1)<|uU h2
 .have l:scope.names.lookup y=some .cell\/scope.names.lookup y=some .free:=l;rcases l with l | l
  .exact QX l
  .exact absurd rfl<|S.nofree _<|uU l
 .exact cL<|x.above y c<|uU h
 .have hi:i<↑vs:=by
   unfold mT at h2
   by_cases hi:i<↑vs
   .exact hi
   .rw[jZ<|by simpa using hi]at h2;rw[List.getElem?_replicate]at h2
    split at h2 <;> cases h2
  have J:vs[i]?=some v:=by
   unfold mT at h2;rw[kG (by simpa using hi),bN]at h2;cases e:vs[i]? with
   | none=>rw[e]at h2;cases h2
   | some a=>rw[e]at h2;cases h2;rfl
  obtain⟨u,B,L⟩:=r.get J;have hp:ps[i]?=some y:=by
   rw[<-S.pre,List.getElem?_take_of_lt<|by lia];exact h1
  have G:ps.Nodup:=by rw[<-S.pre];exact S.nd.sublist<|List.take_sublist _ _
  exists u,L;rcases S.par y (cW hp)with k | k
  .exact .inl ⟨k,OU G hp B k⟩
  .obtain⟨c,e⟩:=QX (n:=s⁻¹+1) k;refine .inr ⟨.inl k,c,e,?_⟩;have q:=x.cell y c e;rw[LP G hp B (by show scope.names.lookup y≠_;rw[k];decide)]at q;exact q
 .exact j.hok.fresh<|cL<|x.above y c<|uU h
 .unfold mT;show _=N.length;rw[bI,aK,List.length_replicate];lia
def xW{CX:jB}{P:Program}{w:World}{K:Fq}{mg:Str->Option Value}{base:Heap}{k:Nat}{f:Addr}{name a:Str}{d:Arguments}{body:List Stmt}{scope:Scope}{L kV l G h ct oc:Value}{M od:Option Addr}
  {Y:Array (Option Value)} {N ps:List Str} {sp:Sp} (lk:K.lookup f=some ⟨oc,od,.func<|PySem.W.fnOf name a d body scope L kV l G M h ct,Y⟩) (a8:PySem.W.codeIn K h a=true) (S:bY N ps scope)
  (len:∀vs H Q E,sp vs H Q E->↑vs=↑ps)
  (Z:∀(A:Around)(outer:List Env)(s:Shared)(H:Hp)(vs:List V)(Q:VK)(E:XK),Room k (A.deeper<|envOfC a scope s⁻¹ f h)->sp vs H Q E-> ∃t,PSs (eU CX P w K mg base N a scope f h A outer s H E) body t/\t {nx:=λ_ H'=>Q .non H',rt:=Q} (mT N vs) H):
  aR P w K mg base CX (k+1) f (PySem.W.fnOf name a d body scope L kV l G M h ct) ps sp:=by
 refine⟨len,λA outer s H args us vs Q E hr i O r B=>?_⟩;have hl:=len _ _ _ _ B;have m:K.In s.heap:=i.mod.kin.keeps λb o e=>(i.bs b o e).1;have T:s.heap.NoLimit:=i.mod.nolimit.keeps λb o e=>(i.bs b o e).1;have a1:∀y∈ps.zip us,scope.names.lookup y.1=some .local\/(scope.names.lookup y.1=some .cell/\((cellsFrom (s⁻¹+1) scope.names []).lookup y.1).isSome=true):=by
  rintro⟨n,v⟩ hy;rcases S.par n (AV hy).1 with q | q
  .exact .inl q
  .exact .inr ⟨q,PySem.W.cellsFrom_some _ _ _<|.inl q⟩
 refine codeAny_call_function hr.depth (m _ _ lk) rfl S.co S.gen rfl (PySem.W.codeRec_of m a8)<|O _ _ _ _ ?_;refine wpAny_newFunctionEnv_cells S.kind a1 λenv he z x=>?_;subst he;refine⟨T.keeps x.toInCall.keep,codeAny_func ?_⟩;obtain⟨t,ht,X⟩:=Z A outer s H vs Q E (hr.deeper _) B;have I:Inv (eU CX P w K mg base N a scope f h A outer s H E) [] (mT N vs) H z:=WM S hr.hd i hl r x;refine fL (ht [] z (mT N vs) H _ I X) (λfl s' hs=>?_) λe s' hs=>hs;have C:∀{σ':St}{H':Hp}{v:V}{u:Value},Inv (eU CX P w K mg base N a scope f h A outer s H E) [] σ' H' s'->RelV v u->Q v H'->CE outer P w H s Q u s':=
  λ{σ' H' v u} J j q=>⟨v,H',J.os,J.bare,J.base,J.hok,j,q⟩
 cases fl with
 | ret u=>
  obtain⟨v,σ',H',J,j,q⟩:=hs;exact C J j q
 | next=>
  obtain⟨σ',H',J,q⟩:=hs;exact C (v:=V.non) (u:=Value.none) J rfl q
 | brk=>
  obtain⟨_,_,_,q⟩:=hs;exact False.elim q
 | cont=>
  obtain⟨_,_,_,q⟩:=hs;exact False.elim q
section
variable{x:Str}{p pos:Pos}{e:Expr}{es:List Expr}{t:TA}{id T:String}{r:List V->Hp->VK->Prop}
def kJ(r:List V->Hp->VK->Prop)(t:TA):TE:=λσ H Q=>t σ H λvs H1=>r vs H1 Q
def eP(u:CallR X (.builtin id) r)(j:Gl X x)(i:X.mg x=none)(q:bootBuiltins x=some (.builtin id))(l:PA X (e::es) t)(n:x≠"__name__":=by decide)(d:(x == ("__debug__":Str))=false:=by decide)
  (he:starEach (e::es) X.env=(false,eval e X.env)::starEach es X.env:=by rfl) (f:(backTo pos<|starEach es X.env).any (·.1)=false:=by rfl):PE X (.Call (.Name x p) (e::es) [] pos) (kJ r t):=by
 intro a s σ H Q I h;refine vS<|kL I j i q ?_ n d;exact PyProof.Rows.callWith_builtin1 (aQ (l pos a s σ H _ I h) <| by rintro us b ⟨vs,H1,m,w,o⟩;exact u a b σ H1 vs us Q m w o) he f
def dV(u:CallR X (.type T) r)(j:Gl X x)(i:X.mg x=none)(q:bootBuiltins x=some (.type T))(l:PA X (e::es) t)(n:x≠"__name__":=by decide)(d:(x == ("__debug__":Str))=false:=by decide)
  (he:starEach (e::es) X.env=(false,eval e X.env)::starEach es X.env:=by rfl) (f:(backTo pos<|starEach es X.env).any (·.1)=false:=by rfl):PE X (.Call (.Name x p) (e::es) [] pos) (kJ r t):=by
 intro a s σ H Q I h;refine vS<|kL I j i q ?_ n d;exact oB (aQ (l pos a s σ H _ I h) <| by rintro us b ⟨vs,H1,m,w,o⟩;exact u a b σ H1 vs us Q m w o) he f
end
end L2
namespace HT
open PySem PyProof.Rows
section
open PySem.SeqAt
open PySem.AutoSeq1 (wpAny_loadPart')
open PySem.MeetsSeq PySem.MeetsSeq2 PySem.MeetsSeq3
end
section
variable{prog:Program}{w:World}{A:Around}{E:Vp}{s:Shared}
def VU{t b:Addr}{vs ws:List Value}{Q:Vp}(z:IsTup s.heap t vs.toArray)(x:IsTup s.heap b ws.toArray)(q:vs≠[])
  (h1:ws=[]->Q (.ref t) s) (h2:ws≠[]->Q (.ref s⁻¹) {s with heap:=s.heap.push {cls:=.type "tuple",data:=.seq (vs++ws).toArray}})
  (hsz:↑vs+↑ws<=sizeLine):wpAny (model prog w) A (binaryOp .Add (.ref t)<|.ref b) Q E s:=by
 obtain⟨⟨cls,m,data,u⟩,a,r,n,hd⟩:=id z;obtain⟨⟨B,o,data2,h⟩,f,i,j,l⟩:=id x;simp only at r hd i l;subst r hd i l;have e:vs.toArray++ws.toArray=(vs++ws).toArray:=by simp
 by_cases d:ws=[]
 .exact concat_meets ⟨_,a,rfl⟩ ⟨_,f,rfl⟩ noFill_tuple_add seq_tuple_add PySem.F.slot_tuple_add PySem.F.entry_tuple_add (PySem.F.args_tuple_add_2 _ _)
   (tuple_addW1 t b vs.toArray ws.toArray n j m o u h (by simpa using q)<|by simp[d]) ⟨a,f,h1 d⟩
 .refine concat_meets ⟨_,a,rfl⟩ ⟨_,f,rfl⟩ noFill_tuple_add seq_tuple_add PySem.F.slot_tuple_add PySem.F.entry_tuple_add (PySem.F.args_tuple_add_2 _ _)
   (tuple_addW2 t b vs.toArray ws.toArray n j m o u h (by simpa using q) (by simpa using d)<|by rw[cO,cO];exact hsz) ⟨a,f,?_⟩
  rw[e];exact h2 d
def sIx(n d:Nat):Option Int->Nat
 | none=>d
 | some v=>if v<0 then(v+(n:Int)).toNat else min v.toNat n
def QT(n d:Nat):sIx n d none=d:=rfl
def CC(n d k:Nat):sIx n d (some (k:Int))=min k n:=by
 show(if (k:Int)<0 then((k:Int)+(n:Int)).toNat else min (k:Int).toNat n)=min k n;rw[aY (by lia),xN]
def rV(n d:Nat)(hd:d<=n)(o:Option Int):sIx n d o<=n:=by
 cases o with
 | none=>exact hd
 | some v=>
  show(if v<0 then(v+(n:Int)).toNat else min v.toNat n)<=n
  by_cases a:v<0
  .rw[bC a];lia
  .rw[aY a];exact Nat.min_le_right _ _
def NX(v:Int)(n d:Nat):(if v<0 then max (v+(n:Int)) 0 else min v (n:Int))=((sIx n d (some v):Nat):Int):=by
 show(if v<0 then max (v+(n:Int)) 0 else min v (n:Int))=(((if v<0 then(v+(n:Int)).toNat else min v.toNat n):Nat):Int)
 by_cases a:v<0
 .simp only[bC a];lia
 .simp only[aY a];lia
def ZA(lo hi:Option Int)(n:Nat):Builtin.Slice.sliceAdjust lo hi 1 (n:Int)=(((sIx n 0 lo:Nat):Int),((sIx n n hi:Nat):Int)):=by
 have h1:¬((1:Int)<0):=by lia
 unfold Builtin.Slice.sliceAdjust;simp only[h1,iW];refine Prod.ext ?_ ?_
 .cases lo with
  | none=>rfl
  | some v=>exact NX v n 0
 .cases hi with
  | none=>rfl
  | some v=>exact NX v n n
def ZC(i j:Nat):Builtin.Slice.slicePlaces (i:Int) (j:Int) 1=j-i:=by
 unfold Builtin.Slice.slicePlaces;have h1:(1:Int) > 0:=by lia
 simp only[h1,if_true,Int.ediv_one]
 split <;> lia
def PB{v:Value}{o:Option Int}{Q:Option Int->Shared->Prop}(p:IsPart v o)(h:Q o s):wpAny (model prog w) A (Builtin.Slice.slicePartIndex v) Q E s:=by
 cases p with
 | none=>exact slicePart_none h
 | int i t=>exact slicePart_int h
def WT{f:Addr}{b d:Value}{lo hi:Option Int}{n:Nat}{Q:Int×Int×Nat->Shared->Prop}(hs:s.heap.IsSliceOf f b d .none)(i:IsPart b lo)(j:IsPart d hi)
  (h:Q (((sIx n 0 lo:Nat):Int),1,sIx n n hi-sIx n 0 lo) s):wpAny (model prog w) A (Builtin.Slice.sliceApplied (.ref f)<|pure (n:Int)) Q E s:=by
 obtain⟨os,e,l,a⟩:=id hs;unfold Builtin.Slice.sliceApplied Builtin.Slice.sliceFields;refine aI<|aI<|eQ e a (x:=b) rfl<|aI<|eQ e a (x:=d) rfl<|aI<|eQ e a (x:=.none) rfl<|bE ?_;refine aI<|slicePart_none ?_;show wpAny _ _ (if ((1:Int) == 0)=true then _ else _) _ _ s;rw[aY<|by decide];refine aI<|PB i<|aI<|PB j<|aI<|bE ?_;show wpAny _ _ (match Builtin.Slice.sliceAdjust lo hi 1 (n:Int)with | (lo,hi)=>pure (lo,(1:Int),Builtin.Slice.slicePlaces lo hi 1)) _ _ s;rw[ZA lo hi n];show wpAny _ _ (pure (((sIx n 0 lo:Nat):Int),(1:Int),Builtin.Slice.slicePlaces ((sIx n 0 lo:Nat):Int) ((sIx n n hi:Nat):Int) 1)) _ _ s;rw[ZC];exact bE h
def YD(xs:Array Value)(i k:Nat):((List.range k).filterMap λ(m:Nat)=>xs[((i:Int)+(m:Int)*1).toNat]?).toArray=((xs.toList.drop i).take k).toArray:=by
 have e:(λ(m:Nat)=>xs[((i:Int)+(m:Int)*1).toNat]?)=λm=>xs[i+m]?:=by
  funext m
  have:((i:Int)+(m:Int)*1).toNat=i+m:=by lia
  rw[this]
 rw[e];have:=pick_run xs i k;rw[List.filterMap_map]at this;have a:((λx=>xs[x]?)∘λx=>i+x)=λm=>xs[i+m]?:=rfl;rw[a]at this;rw[this]
def VO{t d:Addr}{items:Array Value}{f e:Value}{lo hi:Option Int}{Q:Vp}(b:IsTup s.heap t items)(hs:s.heap.IsSliceOf d f e .none)(n:IsPart f lo)(r:IsPart e hi)
  (u:¬(sIx items.size 0 lo=0/\sIx items.size items.size hi=items.size))
  (h:Q (.ref s⁻¹) {s with heap:=s.heap.push {cls:=.type "tuple",data:=.seq ((items.toList.drop<|sIx items.size 0 lo).take<|sIx items.size items.size hi-sIx items.size 0 lo).toArray}})
  (hsz:items.size<=sizeLine):wpAny (model prog w) A (getItem (.ref t)<|.ref d) Q E s:=by
 have a:sizeOk (.seq ((items.toList.drop<|sIx items.size 0 lo).take<|sIx items.size items.size hi-sIx items.size 0 lo).toArray):=by
  show((items.toList.drop<|sIx items.size 0 lo).take<|sIx items.size items.size hi-sIx items.size 0 lo).toArray.size<=sizeLine;rw[cO,eK,lE,EQ];lia
 have z:sIx items.size items.size hi<=items.size:=rV _ _ (aU _) hi;obtain⟨os,j,i,x⟩:=id hs;have l:s.TypeIs (.ref d) "slice":=⟨os,j,i⟩;unfold getItem
 try with_reducible refine iG ?_
 first | refine aI (bE ?_) | skip
 refine aI<|wpAny_sequenceKey b.typeIs (by decide) ?_;refine aI<|lW (name:=Str.ofString "__getitem__") b.typeIs vb5<|jR vb5 b.typeIs entry_tuple_getitem ?_<|args_tuple_getitem _ _
 show wpAny _ _ (Builtin.Tuple.tupleItemsOf (.ref t) >>= _) _ _ s;refine aI<|tupleItemsOf_ b ?_;refine aI<|wpAny_typeOf l ?_;rw[bC<|by decide];refine aI<|WT hs n r ?_;have o:¬((((sIx items.size 0 lo:Nat):Int) == 0 && (1:Int) == 1 && (sIx items.size items.size hi-sIx items.size 0 lo) == items.size)=true):=by
  intro q;rw[tH,tH]at q;have C:((sIx items.size 0 lo:Nat):Int)=0:=eq_of_beq q.1.1;have B:sIx items.size items.size hi-sIx items.size 0 lo=items.size:=eq_of_beq q.2;exact u ⟨by lia,by lia⟩
 show wpAny _ _ (if (((sIx items.size 0 lo:Nat):Int) == 0 && (1:Int) == 1 && (sIx items.size items.size hi-sIx items.size 0 lo) == items.size)=true then _ else _) _ _ s;rw[aY o,YD]
 first
  | exact aI (m:=Builtin.Tuple.tupleExact _) (jO (bE ⟨_,rfl,bE h⟩) a)
  | exact aI (m:=Builtin.Tuple.tupleExact _) (jO (aI<|bE<|bE ⟨_,rfl,bE h⟩) a)
  | exact aI (aI (m:=Builtin.Tuple.tupleExact _)<|jO (bE<|bE ⟨_,rfl,bE h⟩) a)
  | exact aI (aI (m:=Builtin.Tuple.tupleExact _)<|jO (bE ⟨_,rfl,bE h⟩) a)
end
end HT
namespace L2
open PySem PySem.Spec PyProof.Rows
variable{prog:Program}{w:World}{A:Around}{E:Vp}{s:Shared}
variable{X:Cx}
abbrev TO:=St->Hp->(Option Int->Hp->Prop)->Prop
def PO(X:Cx)(e:Option Expr)(t:TO):Prop:=
 ∀(pins:List (Addr×Obj))(s:Shared)(σ:St)(H:Hp)(Q:Option Int->Hp->Prop),Inv X pins σ H s->t σ H Q->
  wpAny (model X.prog X.w) X.A (evalPart e X.env) (λu s'=>∃o H',Inv X pins σ H' s'/\IsPart u o/\Q o H') X.xe s
def MR:TO:=λ_ H Q=>Q none H
def nY(t:TE):TO:=λσ H Q=>t σ H λx H1=>∃i,x=.int i/\Q (some i) H1
section
variable{e:Expr}{te:TE}{lo hi:Option Expr}{tl th:TO}{pos p2:Pos}
def kH:PO X none MR:=by
 intro a s σ H Q I h;rw[evalPart_none];exact bE ⟨none,H,I,.none,h⟩
def jX(h:PE X e te):PO X (some e) (nY te):=by
 intro f s σ H Q I a;rw[evalPart_some];refine aQ (h f s σ H _ I a) ?_;rintro u l ⟨x,H1,j,d,b⟩;obtain⟨i,rfl,q⟩:=b;obtain⟨t,rfl⟩:=d;exact⟨some i,H1,j,.int i t,q⟩
def EH(X:Cx)(r:V->Option Int->Option Int->Hp->VK->Prop):Prop:=
 ∀(pins:List (Addr×Obj))(s:Shared)(σ:St)(H:Hp)(x:V)(v vl vu:Value)(lo hi:Option Int)(sl:Addr)(Q:VK),Inv X pins σ H s->RelV x v->s.heap.IsSliceOf sl vl vu .none->IsPart vl lo->IsPart vu hi->r x lo hi H Q->
  ∃T id,typeLookup (.type T) "__getitem__"=pure (some<|.builtin id)/\s.TypeIs v T/\wpAny (model X.prog X.w) X.A (getItem v<|.ref sl) (EP X pins σ Q) X.xe s
def PU(r:V->Option Int->Option Int->Hp->VK->Prop)(te:TE)(tl th:TO):TE:=λσ H Q=>te σ H λx H1=>tl σ H1 λl H2=>th σ H2 λu H3=>r x l u H3 Q
def kE{r:V->Option Int->Option Int->Hp->VK->Prop}(hr:EH X r)(he:PE X e te)(hl:PO X lo tl)(i:PO X hi th):PE X (.Subscript e (.Slice lo hi none p2) pos) (PU r te tl th):=by
 intro a s σ H Q I h;refine Subscript_<|aQ (he a s σ H _ I h) ?_;rintro v G ⟨x,H1,o,N,z⟩;refine wpAny_Slice<|aQ (hl a G σ H1 _ o z) λf s2 ⟨l,H2,C,K,L⟩=>aQ (i a s2 σ H2 _ C L) ?_;rintro d s3 ⟨u,H3,B,n,j⟩;rw[evalPart_none];refine bE ?_;have M:Inv X a σ H3 {s3 with heap:=s3.heap.push {cls:=.type "slice",data:=.fields #[f,d,.none]}}:=B.kept (t':=s3.toks) λb O q=>bS _ q;obtain⟨T,id,J,E,m⟩:=hr a {s3 with heap:=s3.heap.push {cls:=.type "slice",data:=.fields #[f,d,.none]}} σ H3 x v f d l u s3⁻¹ Q M N (Heap.IsSliceOf.new ..) K n j;show wpAny (model X.prog X.w) X.A (subscriptTail e (.Slice lo hi none p2) v<|.ref s3⁻¹) (EP X a σ Q) X.xe {s3 with heap:=s3.heap.push {cls:=.type "slice",data:=.fields #[f,d,.none]}};exact tail_any (ops:=[.ref s3⁻¹,v]) E J m (by with_unfolding_all rfl)
def cP(xs:List V)(lo hi:Option Int):List V:=(xs.drop<|HT.sIx ↑xs 0 lo).take<|HT.sIx ↑xs ↑xs hi-HT.sIx ↑xs 0 lo
def OZ(xs:List V)(lo hi:Option Int):↑(cP xs lo hi)<=↑xs:=by
 unfold cP;rw[eK,lE];lia
def JP(K:Fq):V->Option Int->Option Int->Hp->VK->Prop:=λx lo hi H Q=>∃a xs,x=.ref a/\SqT K H a xs/\
 ¬(HT.sIx ↑xs 0 lo=0/\HT.sIx ↑xs ↑xs hi=↑xs)/\∀p,H p=none->Q (.ref p) (upd H p<|.tup<|cP xs lo hi)
def FN:EH X (JP X.K):=by
 intro n s σ H x v z u lo hi A Q I i hs f l h;obtain⟨a,xs,rfl,j,m,q⟩:=h;cases i;obtain⟨its,r,e,hz⟩:=I.tuple j;have d:its.toArray.size=↑xs:=by rw[cO];exact r.length.symm
 exists "tuple",_,vb5.lookup,e.typeIs;refine HT.VO e hs f l (by rw[d];exact m) ?_ (by rw[d];exact hz);rw[d];refine⟨.ref s⁻¹,_,I.laid (t':=s.toks) (o:=.tup<|cP xs lo hi) (λb w q=>bS _ q) (aU _) ?_,rfl,q _<|I.hok.fresh<|aU _⟩;exact⟨⟨gC (OZ xs lo hi) hz,_,dD _ rfl,rfl⟩,_,(r.drop<|HT.sIx ↑xs 0 lo).take<|HT.sIx ↑xs ↑xs hi-HT.sIx ↑xs 0 lo,IsTup.new _ _⟩
def oY(K:Fq):R2:=λx y H Q=>∃a b xs ys,x=.ref a/\y=.ref b/\SqT K H a xs/\SqT K H b ys/\xs≠[]/\↑xs+↑ys<=sizeLine/\
 (ys=[]->Q (.ref a) H)/\(ys≠[]->∀p,H p=none->Q (.ref p) (upd H p<|.tup<|xs++ys))
def Vals.nil_iff{xs:List V}{us:List Value}(r:Vals xs us):us=[]↔xs=[]:=by
 cases r with
 | nil=>simp
 | cons _ _=>simp
def WG:cX X (binaryOp .Add) (oY X.K):=by
 intro B s σ H x y v u Q I i j h;obtain⟨a,b,xs,ys,rfl,rfl,r,f,n,hz,A,l⟩:=h;cases i;cases j;obtain⟨its,e,m,_⟩:=I.tuple r;obtain⟨C,d,p2,_⟩:=I.tuple f;refine HT.VU m p2 (λz=>n<|e.nil_iff.mp z) (λz=>⟨.ref a,H,I,rfl,A<|d.nil_iff.mp z⟩) (λz=>?_) (by rw[<-↑e,<-↑d];exact hz);refine⟨.ref s⁻¹,_,I.laid (t':=s.toks) (o:=.tup<|xs++ys) (λb E q=>bS _ q) (aU _) ?_,rfl,l (λw=>z<|d.nil_iff.mpr w) _<|I.hok.fresh<|aU _⟩;exact⟨⟨by rw[bI];exact hz,_,dD _ rfl,rfl⟩,_,e.append d,IsTup.new _ _⟩
end
def lI(n:Nat)(i:Int):Option Nat:=if 0<=i then(if i<n then some i.toNat else none) else if -(n:Int)<=i then some (i+n).toNat else none
def eE{α:Type}(xs:List α)(i:Int):Option α:=(lI ↑xs i).bind λj=>xs[j]?
def QA{n:Nat}{i:Int}{j:Nat}(h:lI n i=some j):seqIndex? i n=some j/\j<n/\-(n:Int)<=i/\i<n:=by
 unfold lI at h
 by_cases h0:0<=i
 .rw[bC h0]at h
  by_cases h1:i<n
  .rw[bC h1]at h;have e:i.toNat=j:=gJ h;exact⟨by rw[seqIndex_of h0 h1,e],by lia,by lia,h1⟩
  .rw[aY h1]at h;cases h
 .rw[aY h0]at h
  by_cases h1:-(n:Int)<=i
  .rw[bC h1]at h;have e:(i+n).toNat=j:=gJ h;exact⟨by rw[seqIndex_neg (by lia) h1,e],by lia,h1,by lia⟩
  .rw[aY h1]at h;cases h
def FA{α:Type}{xs:List α}{i:Int}{v:α}(h:eE xs i=some v):∃j,seqIndex? i ↑xs=some j/\xs[j]?=some v/\j<↑xs/\-(↑xs:Int)<=i/\i<↑xs:=by
 unfold eE at h;cases e:lI ↑xs i with
 | none=>rw[e]at h;cases h
 | some j=>
  rw[e]at h;obtain⟨h1,h2,a,b⟩:=QA e;exact⟨j,h1,h,h2,a,b⟩
def lQ{α:Type}{xs:List α}{j:Nat}{v:α}(h:xs[j]?=some v):eE xs (j:Int)=some v:=by
 have a:j<↑xs:=(zz2.mp h).1;have e:lI ↑xs (j:Int)=some j:=by
  unfold lI;rw[bC (by lia),bC<|by lia];simp
 unfold eE;rw[e];exact h
def KR(b:Expr):Prop:=∀o i,subscripted b false o i=operate [o,i] (getItem o i)
def kT(X:Cx)(r:R2):Prop:=
 ∀(value slice:Expr)(pins:List (Addr×Obj))(s:Shared)(σ:St)(H:Hp)(x y:V)(v u:Value)(Q:VK),Inv X pins σ H s->RelV x v->RelV y u->r x y H Q->
  subscripted slice false v u=operate [v,u] (getItem v u)->wpAny (model X.prog X.w) X.A (subscriptTail value slice v u) (EP X pins σ Q) X.xe s
def RT(X:Cx)(id:String)(r:V->List V->Hp->VK->Prop):Prop:=
 ∀(pins:List (Addr×Obj))(s:Shared)(σ:St)(H:Hp)(x:V)(xs:List V)(v:Value)(us:List Value)(Q:VK),Inv X pins σ H s->RelV x v->Vals xs us->r x xs H Q->
  wpAny (model X.prog X.w) X.A (call (.builtin id)<|v::us) (EP X pins σ Q) X.xe s
section
variable{a b:Expr}{ta tb:TE}{pos:Pos}
def kP{r:R2}(hr:kT X r)(i:PE X a ta)(d:PE X b tb)(hs:KR b):PE X (.Subscript a b pos) (dC r ta tb):=by
 intro l s σ H Q I h;exact Subscript_<|tU i d I h λv u s2 x y H2 j e f q=>hr a b l s2 σ H2 x y v u Q j e f q<|hs _ _
inductive AU(K:Fq)(x y:V)(H:Hp)(Q:VK):Prop
 | mk(p:Addr)(xs:List V)(i:Int)(v:V)(h1:x=.ref p)(h2:y=.int i)(h3:SqL K H p xs)(h4:eE xs i=some v)(q:Q v H):AU K x y H Q
def lK(K:Fq):R2:=λx y H Q=>AU K x y H Q
inductive zF(K:Fq)(x y:V)(H:Hp)(Q:VK):Prop
 | mk(p:Addr)(xs:List V)(i:Int)(v:V)(h1:x=.ref p)(h2:y=.int i)(h3:SqT K H p xs)(h4:eE xs i=some v)(q:Q v H):zF K x y H Q
def dI(K:Fq):R2:=λx y H Q=>zF K x y H Q
def FX:R2:=λx y H Q=>∃z i c,x=.str z/\y=.int i/\↑z<=sizeLine/\eE z.cps.toList i=some c/\Q (.str ⟨#[c]⟩) H
def XJ:kT X (lK X.K):=by
 intro value a e s σ H x y v u Q I m B h hs;obtain⟨p,xs,i,z,rfl,rfl,n,he,q⟩:=h;cases m;obtain⟨t,rfl⟩:=B;obtain⟨its,r,b,hz⟩:=I.list n;obtain⟨j,h1,h2,G,o,C⟩:=FA he;obtain⟨w,l,A⟩:=r.get h2;have hl:=↑r;have E:=lT;have f:EP X e σ Q w s:=⟨z,H,I,A,q⟩
 by_cases h0:0<=i
 .have d:i.toNat=j:=by
   rw[seqIndex_of h0 C]at h1;exact gJ h1
  exact item_listR b.isList h0 (by lia) (by rw[d];simpa using l) f hs
 .have d:(i+(its.toArray.size:Int)).toNat=j:=by
   rw[seqIndex_neg (by lia) o]at h1;rw[cO,<-hl];exact gJ h1
  exact subscriptTail_builtinR (x:=w) b.isList.typeIs slot_list_getitem.lookup
   (wpAny_getItem_list_neg (Q:=λr s'=>r=w/\EP X e σ Q r s') b.isList (by lia) (by rw[cO] <;> lia) (by lia) (by rw[d];simpa using l) ⟨rfl,f⟩) hs
def uG:kT X (dI X.K):=by
 intro value a b s σ H x y v u Q I e n h hs;obtain⟨p,xs,i,z,rfl,rfl,f,he,q⟩:=h;cases e;obtain⟨t,rfl⟩:=n;obtain⟨its,r,d,hz⟩:=I.tuple f;obtain⟨j,h1,h2,C,A,E⟩:=FA he;obtain⟨w,o,m⟩:=r.get h2;have hl:=↑r;have B:=lT;have l:EP X b σ Q w s:=⟨z,H,I,m,q⟩;exact subscriptTail_builtinR (x:=w) d.typeIs slot_tuple_getitem.lookup
  (getItem_tuple (j:=j) (Q:=λr s'=>r=w/\EP X b σ Q r s') d (by lia) (by lia) (by rw[cO,<-hl];exact h1) (by simpa using o) ⟨rfl,l⟩) hs
def NA:kT X FX:=by
 intro value a r s σ H x y v u Q I b d h hs;obtain⟨z,i,c,rfl,rfl,hz,he,q⟩:=h;obtain⟨t,rfl⟩:=b;obtain⟨t',rfl⟩:=d;obtain⟨j,h1,h2,n,e,f⟩:=FA he;have hl:↑z.cps.toList=↑z:=by simp[Str.length]
 rw[hl]at h1 e f;have o:=lT;exact tail_any (typeIs_str s z t) slot_str_getitem.lookup (getItem_str (c:=c) (by
  have m:decide (i < -(2 ^ 63:Int))=false:=gM (by lia);have l:decide (i≥2 ^ 63)=false:=gM (by lia);rw[m,l,Bool.or_false]) (by rw[h1];simpa using h2) ⟨.str ⟨#[c]⟩,H,I.tok _,⟨_,rfl⟩,q⟩) hs
def SW(its:List Value)(n j:Nat)(u:Value):Obj.mapSeq (·.setIfInBounds j u) {cls:=.type "list",data:=.seq its.toArray n}={cls:=.type "list",data:=.seq (its.set j u).toArray n}:=by
 simp[Obj.mapSeq]
theorem Inv.lst{a:List (Addr×Obj)}{σ:St}{H:Hp}{s:Shared}{p:Addr}{xs:List V}(I:Inv X a σ H s)(h:H p=some (.lst xs)):
  ∃(its:List Value)(n:Nat),Vals xs its/\s.heap.get? p=some {cls:=.type "list",data:=.seq its.toArray n}/\↑xs<=sizeLine:=by
 obtain⟨z,its,n,r,e⟩:=I.hok p _ h;exact⟨its,n,r,e,z⟩
def Inv.lstUpd{d:List (Addr×Obj)}{σ:St}{H:Hp}{s:Shared}{p:Addr}{xs ys:List V}{its its':List Value}{n a:Nat}{f:Obj->Obj}(I:Inv X d σ H s)(h:H p=some (.lst xs))
  (l:s.heap.get? p=some {cls:=.type "list",data:=.seq its.toArray n}) (i:f {cls:=.type "list",data:=.seq its.toArray n}={cls:=.type "list",data:=.seq its'.toArray a}) (r:Vals ys its') (hz:↑ys<=sizeLine) (t:Nat):
  Inv X d σ (upd H p<|.lst ys) {s with heap:=s.heap.update p f,toks:=t}:=by
 have e:(s.heap.update p f).get? p=some {cls:=.type "list",data:=.seq its'.toArray a}:=by
  rw[uZ f l (by rw[i] <;> rfl),i]
 refine I.write (x:=p) (e:=p) (by rw[h];trivial) (.inl rfl) (λb u j q=>(pI _ _<|bL j).trans q) ⟨_,e⟩ ?_;exact⟨hz,its',a,r,e⟩
def yX:V->V->V->Hp->(Hp->Prop)->Prop:=λo i v H Q=>∃p xs k j,o=.ref p/\i=.int k/\H p=some (.lst xs)/\lI ↑xs k=some j/\Q (upd H p<|.lst<|xs.set j v)
def sC:AK X yX:=by
 intro w s σ H o i v C A u Q I z l m h;obtain⟨p,xs,k,j,rfl,rfl,hp,x,q⟩:=h;cases z;obtain⟨t,rfl⟩:=l;obtain⟨its,n,r,b,hz⟩:=I.lst hp;obtain⟨h1,h2,f,d⟩:=QA x;have hl:=↑r;have B:=lT;have e:Inv X w σ (upd H p<|.lst<|xs.set j v) {s with heap:=s.heap.update p<|Obj.mapSeq (·.setIfInBounds j u)}:=
  I.lstUpd hp b (SW its n j u) (r.set m j) (by rw[List.length_set];exact hz) s.toks
 by_cases h0:0<=k
 .have a:k.toNat=j:=by
   rw[seqIndex_of h0 d]at h1;exact gJ h1
  exact PySem.W.ki_setAt b h0 (by lia) (by rw[cO,<-hl];exact d) (by rw[a];exact⟨_,e,q⟩)
 .have a:(k+(its.toArray.size:Int)).toNat=j:=by
   rw[seqIndex_neg (by lia) f]at h1;rw[cO,<-hl];exact gJ h1
  exact PySem.W.ki_setBack b (by lia) (by rw[cO,<-hl];exact f) (by lia) (by rw[a];exact⟨_,e,q⟩)
def YW(lo hi:Option Int)(n:Nat):(sliceBounds lo hi none n).1=((HT.sIx n 0 lo:Nat):Int)/\(sliceBounds lo hi none n).2.1=((HT.sIx n n hi:Nat):Int)/\(sliceBounds lo hi none n).2.2=1:=by
 refine⟨?_,?_,rfl⟩
 .cases lo with
  | none=>simp[sliceBounds,HT.sIx]
  | some i=>
   simp only[sliceBounds,HT.sIx,Option.getD_none,show(1:Int) > 0 by decide,if_true]
   by_cases h:i<0
   .simp only[h,if_true] <;> lia
   .simp only[h,iW] <;> lia
 .cases hi with
  | none=>simp[sliceBounds,HT.sIx]
  | some i=>
   simp only[sliceBounds,HT.sIx,Option.getD_none,show(1:Int) > 0 by decide,if_true]
   by_cases h:i<0
   .simp only[h,if_true] <;> lia
   .simp only[h,iW] <;> lia
def Ay(its:List Value)(lo hi:Option Int):slicePick its.toArray lo hi none=((its.drop<|HT.sIx ↑its 0 lo).take<|HT.sIx ↑its ↑its hi-HT.sIx ↑its 0 lo).toArray:=by
 obtain⟨h1,h2,a⟩:=YW lo hi its.toArray.size;unfold slicePick;rw[h1,h2,a];simp only[sliceRange_one,pick_run,cO] <;> rfl
def wS(K:Fq):V->Option Int->Option Int->Hp->VK->Prop:=λx lo hi H Q=>∃a xs,x=.ref a/\SqL K H a xs/\∀p,H p=none->Q (.ref p) (upd H p<|.lst<|cP xs lo hi)
def wD:EH X (wS X.K):=by
 intro m s σ H x v w n lo hi z Q I f hs e j h;obtain⟨a,xs,rfl,i,q⟩:=h;cases f;obtain⟨its,r,d,hz⟩:=I.list i;have l:=↑r;exists "list",_,slot_list_getitem.lookup,d.isList.typeIs;refine wpAny_getItem_list_slice d.isList hs e j .none (by simp) ?_ (by rw[cO] <;> lia);rw[Ay,<-l];refine⟨.ref s⁻¹,_,I.laid (t':=s.toks) (o:=.lst<|cP xs lo hi) (λb u q=>bS _ q) (aU _) ?_,rfl,q _<|I.hok.fresh<|aU _⟩;exact⟨gC (OZ xs lo hi) hz,_,0,(r.drop<|HT.sIx ↑xs 0 lo).take<|HT.sIx ↑xs ↑xs hi-HT.sIx ↑xs 0 lo,dD _ rfl⟩
def jP:V->Bool
 | .non=>true
 | .bl _=>true
 | .int _=>true
 | .str _=>true
 | _=>false
def kD:V->V->Bool
 | .non,.non=>true
 | .bl a,.bl b=>a == b
 | .bl a,.int b=>(if a then 1 else 0) == b
 | .int a,.bl b=>a == (if b then 1 else 0)
 | .int a,.int b=>a == b
 | .str a,.str b=>a == b
 | _,_=>false
def tL{A:Around}{s:Shared}{y x:V}{u v:Value}(f:RelV y u)(d:RelV x v)(h:jP y=true)(e:jP x=true):SeqAt.EqAt A s u v (kD y x):=by
 cases y with
 | non=>
  cases f;cases x with
  | non=>cases d;exact SeqAt.EqAt.same _
  | bl b=>cases d;exact SeqAt.EqAt.none_bool b
  | int b=>obtain⟨t,rfl⟩:=d;exact SeqAt.EqAt.none_int b t
  | str b=>obtain⟨t,rfl⟩:=d;exact SeqAt.EqAt.none_str b t
  | _=>exact absurd (show false=true from e) fK
 | bl a=>
  cases f;cases x with
  | non=>cases d;exact SeqAt.EqAt.bool_none a
  | bl b=>cases d;exact SeqAt.EqAt.bool_bool a b
  | int b=>obtain⟨t,rfl⟩:=d;exact SeqAt.EqAt.bool_int a b t
  | str b=>obtain⟨t,rfl⟩:=d;exact SeqAt.EqAt.bool_str a b t
  | _=>exact absurd (show false=true from e) fK
 | int a=>
  obtain⟨t',rfl⟩:=f;cases x with
  | non=>cases d;exact SeqAt.EqAt.int_none a t'
  | bl b=>cases d;exact SeqAt.EqAt.int_bool a t' b
  | int b=>obtain⟨t,rfl⟩:=d;exact SeqAt.EqAt.int_int a t' b t
  | str b=>obtain⟨t,rfl⟩:=d;exact SeqAt.EqAt.int_str a t' b t
  | _=>exact absurd (show false=true from e) fK
 | str a=>
  obtain⟨t',rfl⟩:=f;cases x with
  | non=>cases d;exact SeqAt.EqAt.str_none a t'
  | bl b=>cases d;exact SeqAt.EqAt.str_bool a t' b
  | int b=>obtain⟨t,rfl⟩:=d;exact SeqAt.EqAt.str_int a t' b t
  | str b=>obtain⟨t,rfl⟩:=d;exact SeqAt.EqAt.str_str a t' b t
  | _=>exact absurd (show false=true from e) fK
 | _=>exact absurd (show false=true from h) fK
def hX(x:V)(u:Value):Bool:=match u with
 | .none=>kD .non x
 | .bool b=>kD (.bl b) x
 | .int i _=>kD (.int i) x
 | .str z _=>kD (.str z) x
 | _=>false
def NE{x y:V}{u:Value}(r:RelV y u)(f:jP y=true):hX x u=kD y x:=by
 cases y with
 | non=>cases r;rfl
 | bl b=>cases r;rfl
 | int i=>obtain⟨t,rfl⟩:=r;rfl
 | str z=>obtain⟨t,rfl⟩:=r;rfl
 | _=>exact absurd (show false=true from f) fK
theorem yL{x:V}:∀{xs:List V}{us:List Value},Vals xs us->xs.all jP=true->us.any (hX x)=xs.any λy=>kD y x
 | _,_,.nil,_=>rfl
 | y::xs,u::us,.cons r t,f=>by
  rw[List.all_cons,tH]at f;rw[vD,vD,NE r f.1,yL t f.2]
theorem yH{A:Around}{s:Shared}{x:V}{v:Value}(d:RelV x v)(b:jP x=true):∀{xs:List V}{us:List Value},Vals xs us->xs.all jP=true->∀u∈us,SeqAt.EqAt A s u v<|hX x u
 | _,_,.nil,_=>λu a=>by cases a
 | y::xs,u::us,.cons r t,f=>λe a=>by
  rw[List.all_cons,tH]at f;rcases wm9.mp a with rfl | a
  .rw[NE r f.1];exact tL r d f.1 b
  .exact yH d b t f.2 e a
def iE(x:V)(xs:List V):Bool:=xs.any λy=>kD y x
inductive RS(K:Fq)(neg:Bool)(x y:V)(H:Hp)(Q:VK):Prop
 | mk(p:Addr)(xs:List V)(h1:y=.ref p)(h2:SqL K H p xs\/SqT K H p xs)(h3:jP x=true)(h4:xs.all jP=true)(q:Q (.bl<|if neg then !iE x xs else iE x xs) H):RS K neg x y H Q
def gW(K:Fq)(neg:Bool):R2:=λx y H Q=>RS K neg x y H Q
def sJ:cX X (compareOp .In) (gW X.K false):=by
 intro j s σ H x y v u Q I f i h;obtain⟨p,xs,rfl,a,e,fs,q⟩:=h;cases i;rcases a with a | a
 .obtain⟨its,r,b,hz⟩:=I.list a;refine SeqAt.in_listAt (hX x) b.isList (λw d=>yH f e r fs w<|by simpa using d) ⟨.bl _,H,I,rfl,?_⟩;rw[show its.toArray.any (hX x)=its.any (hX x) by simp,yL r fs];exact q
 .obtain⟨its,r,b,hz⟩:=I.tuple a;refine SeqAt.in_tupleAt (hX x) b (λw d=>yH f e r fs w<|by simpa using d) ⟨.bl _,H,I,rfl,?_⟩;rw[show its.toArray.any (hX x)=its.any (hX x) by simp,yL r fs];exact q
def vU:cX X (compareOp .NotIn) (gW X.K true):=by
 intro j s σ H x y v u Q I f i h;obtain⟨p,xs,rfl,a,e,fs,q⟩:=h;cases i;rcases a with a | a
 .obtain⟨its,r,b,hz⟩:=I.list a;refine SeqAt.notIn_listAt (hX x) b.isList (λw d=>yH f e r fs w<|by simpa using d) ⟨.bl _,H,I,rfl,?_⟩;rw[show its.toArray.any (hX x)=its.any (hX x) by simp,yL r fs];exact q
 .obtain⟨its,r,b,hz⟩:=I.tuple a;refine SeqAt.notIn_tupleAt (hX x) b (λw d=>yH f e r fs w<|by simpa using d) ⟨.bl _,H,I,rfl,?_⟩;rw[show its.toArray.any (hX x)=its.any (hX x) by simp,yL r fs];exact q
def jE:CallR X (.builtin "len") (λxs H Q=>∃p ys,xs=[.ref p]/\(SqL X.K H p ys\/SqT X.K H p ys)/\Q (.int ↑ys) H):=by
 intro f s σ H xs us Q I r h;obtain⟨p,ys,rfl,a,q⟩:=h;obtain⟨u,rfl,e⟩:=jA r;cases e;have i:=lT;rcases a with a | a
 .obtain⟨its,r',b,hz⟩:=I.list a;have d:=↑r';exact Calls.call_len_list b.isList (by simp only[cO] <;> lia) ⟨.int ↑ys,H,I.tok _,⟨s.toks+1,by rw[cO,d]⟩,q⟩
 .obtain⟨its,r',b,hz⟩:=I.tuple a;have d:=↑r';exact len_tuple b (by simp only[cO] <;> lia) ⟨.int ↑ys,H,I.tok _,⟨s.toks+1,by rw[cO,d]⟩,q⟩
def VX:CallR X (.builtin "len") (λxs H Q=>∃z,xs=[.str z]/\↑z<=sizeLine/\Q (.int ↑z) H):=by
 intro a s σ H xs us Q I r h;obtain⟨z,rfl,hz,q⟩:=h;obtain⟨u,rfl,t,rfl⟩:=jA r;have b:=lT;exact len_str (by lia) ⟨.int ↑z,H,I.tok _,⟨_,rfl⟩,q⟩
def YY:CallR X (.type "list") (λxs H Q=>∃p ys,xs=[.ref p]/\(SqL X.K H p ys\/SqT X.K H p ys)/\∀l,H l=none->Q (.ref l) (upd H l<|.lst ys)):=by
 intro m s σ H xs us Q I r h;obtain⟨p,ys,rfl,a,q⟩:=h;obtain⟨u,rfl,x⟩:=jA r;cases x;have j:∀(its:List Value),Vals ys its->↑ys<=sizeLine->∀(h':Heap)(c':Nat),(∀b o',s.heap.get? b=some o'->h'.get? b=some o')->
   h'.get? s⁻¹=some {cls:=.type "list",dict:=none,data:=.seq its.toArray c',slots:=#[]}->EP X m σ Q (.ref s⁻¹) {s with heap:=h'}:=λits r' hz h' c' kp e=>
  ⟨.ref s⁻¹,_,I.laid (t':=s.toks) kp (aU _) (show ObjOk X.prog X.w _ h' _ (.lst ys) from ⟨hz,its,c',r',e⟩),rfl,q _<|I.hok.fresh<|aU _⟩
 rcases a with a | a
 .obtain⟨its,r',d,hz⟩:=I.list a;have z:=↑r';obtain⟨o,f,i,n,hd⟩:=d.isList;exact call_list_seq p (.inl rfl) f i hd (λh' c' kp e=>j its r' hz h' c' kp e) (by simp only[cO] <;> lia)
 .obtain⟨its,r',d,hz⟩:=I.tuple a;have z:=↑r';obtain⟨o,f,i,n,hd⟩:=d;exact call_list_seq p (.inr rfl) f i hd (λh' c' kp e=>j its r' hz h' c' kp e) (by simp only[cO] <;> lia)
def gS:CallR X (.type "tuple") (λxs H Q=>∃p ys,xs=[.ref p]/\((SqL X.K H p ys/\∀l,H l=none->Q (.ref l) (upd H l<|.tup ys))\/(SqT X.K H p ys/\Q (.ref p) H))):=by
 intro f s σ H xs us Q I r h;obtain⟨p,ys,rfl,h⟩:=h;obtain⟨u,rfl,i⟩:=jA r;cases i;rcases h with ⟨hq,q⟩ | ⟨hq,q⟩
 .obtain⟨its,r',a,hz⟩:=I.list hq;have m:=↑r';refine call_tuple_list a.isList (λh' kp=>?_) (by simp only[cO] <;> lia);have d:Inv X f σ H {s with heap:=h'}:=I.kept (t':=s.toks) kp;have j:Inv X f σ (upd H h'.objs.size<|.tup ys) {s with heap:=h'.push {cls:=.type "tuple",data:=.seq its.toArray}}:=
   d.laid (t':=s.toks) (λb o e=>bS _ e) (aU _) (show ObjOk X.prog X.w _ _ _ (.tup ys) from ⟨⟨hz,_,dD _ rfl,rfl⟩,its,r',IsTup.new _ _⟩)
  exact⟨.ref h'.objs.size,_,j,rfl,q _<|d.hok.fresh<|aU _⟩
 .obtain⟨its,r',a,hz⟩:=I.tuple hq;exact call_tuple_same a ⟨.ref p,H,I,rfl,q⟩
def FP(K:Fq)(T:String)(x:V)(H:Hp):Prop:=match x with
 | .str _=>T="str"
 | .int _=>T="int"
 | .ref p=>(T="list"/\∃xs,SqL K H p xs)\/(T="tuple"/\∃o,K.lookup p=some o/\o.cls=.type "tuple"/\o.dict=none)\/
   (T="dict"/\((∃kvs,H p=some (.dK kvs))\/∃kvs,H p=some (.dT kvs)))\/(T="set"/\∃S n,H p=some (.set S n))
 | _=>False
def RX{f:List (Addr×Obj)}{σ:St}{H:Hp}{s:Shared}{T:String}{x:V}{v:Value}(I:Inv X f σ H s)(r:RelV x v)(ty:FP X.K T x H):
  s.TypeIs v T/\∀a,v=.ref a->∃ob,s.heap.get? a=some ob/\ob.dict=none:=by
 cases x with
 | str z=>
  obtain⟨t,rfl⟩:=r;cases (show T="str" from ty);exact⟨typeIs_str s z t,λ_ e=>nomatch e⟩
 | int i=>
  obtain⟨t,rfl⟩:=r;cases (show T="int" from ty);exact⟨typeIs_int s i t,λ_ e=>nomatch e⟩
 | ref p=>
  cases r;rcases ty with ⟨rfl,xs,hq⟩ | ⟨rfl,o,hk,hc,hd⟩ | ⟨rfl,hk⟩ | ⟨rfl,S,n,hk⟩
  .obtain⟨its,_,d,_⟩:=I.list hq;refine⟨d.isList.typeIs,λa e=>?_⟩;cases e;obtain⟨o,n,e,c,hd,_⟩:=d;exact⟨o,e,hd⟩
  .refine⟨⟨o,I.kIn p o hk,hc⟩,λa e=>?_⟩;cases e;exact⟨o,I.kIn _ o hk,hd⟩
  .have z:∃o,s.heap.get? p=some o/\o.ExactDict:=by
    rcases hk with ⟨kvs,hk⟩ | ⟨kvs,hk⟩
    .obtain⟨_,_,_,_,o,_,_,e,ex,_⟩:=I.hok p _ hk;exact⟨o,e,ex⟩
    .obtain⟨_,_,_,_,o,_,_,e,ex,_⟩:=I.hok p _ hk;exact⟨o,e,ex⟩
   obtain⟨o,e,ex⟩:=z;refine⟨⟨o,e,ex.1⟩,λa b=>?_⟩;cases b;exact⟨o,e,ex.2.1⟩
  .obtain⟨o,_,_,_,e,ex,_⟩:=I.hok p _ hk;refine⟨⟨o,e,ex.1⟩,λa b=>?_⟩;cases b;exact⟨o,e,ex.2.1⟩
 | _=>exact False.elim ty
def FJ(K:Fq)(T:String)(r:V->List V->Hp->VK->Prop)(to:TE):TE:=λσ H Q=>to σ H λx H1=>FP K T x H1/\r x [] H1 Q
inductive JB(K:Fq)(T:String)(r:V->List V->Hp->VK->Prop)(t:TA)(x:V)(σ:List (Option V))(H:Hp)(Q:VK):Prop
 | mk(h:FP K T x H)(q:t σ H λxs H2=>r x xs H2 Q):JB K T r t x σ H Q
def wK(K:Fq)(T:String)(r:V->List V->Hp->VK->Prop)(to:TE)(t:TA):TE:=λσ H Q=>to σ H λx H1=>JB K T r t x σ H1 Q
variable{o e:Expr}{es:List Expr}{to:TE}{t:TA}{name:Str}{apos cpos:Pos}{T id:String}{r:V->List V->Hp->VK->Prop}
def uN(q:PlainAttrs T)(slot:Slot T name id)(i:typeOf (.builtin id)=pure (.type "method_descriptor"))(m:RT X id r)(l:PE X o to)
  (j:attributeBase o name X.env (eval o X.env)=eval o X.env:=by rfl) (f:(apos.endLine == cpos.line)=true:=by rfl):PE X (.Call (.Attribute o name apos) [] [] cpos) (FJ X.K T r to):=by
 intro a s σ H Q I h;refine wpAny_Call_method0_late j f<|aQ (l a s σ H _ I h) ?_;rintro v e ⟨x,H1,b,d,ty,n⟩;obtain⟨h1,h2⟩:=RX b d ty;exact⟨T,id,q,slot,i,h1,h2,nA rfl<|PySem.evalArgs_none<|m a e σ H1 x [] v [] Q b d .nil n⟩
def eN(E:PlainAttrs T)(slot:Slot T name id)(l:typeOf (.builtin id)=pure (.type "method_descriptor"))(z:RT X id r)(u:PE X o to)(B:PA X (e::es) t)
  (j:attributeBase o name X.env (eval o X.env)=eval o X.env:=by rfl)
  (A:((backTo cpos<|starEach (e::es) X.env).all (λx=>!x.1) && (backToKw cpos<|keywordEach [] X.env).all (λx=>x.1.isSome) && decide (↑(e::es)+↑([]:List Keyword)+(if ([]:List Keyword).isEmpty then 0 else 1)<30))=true:=by rfl)
  (m:(apos.endLine == cpos.line)=true:=by rfl) (hs:starEach (e::es) X.env=(false,eval e X.env)::starEach es X.env:=by rfl) (n:(backTo cpos<|starEach es X.env).any (·.1)=false:=by rfl):
  PE X (.Call (.Attribute o name apos) (e::es) [] cpos) (wK X.K T r to t):=by
 intro a s σ H Q I h;refine wpAny_Call_method_late j A m rfl<|aQ (u a s σ H _ I h) ?_;rintro v i ⟨x,H1,b,d,ty,C⟩;obtain⟨h1,h2⟩:=RX b d ty;exists T,id,E,slot,l,h1,h2;have f:=B cpos a i σ H1 _ b C;rw[hs]at f ⊢;refine nA (by show(false || (backTo cpos<|starEach es X.env).any (·.1))=false;rw[n] <;> rfl)<|wG ?_;exact aQ f <| by rintro us s2 ⟨vs,H2,G,w,q⟩;exact z a s2 σ H2 x vs v us Q G d w q
end
def EF(X:Cx)(id:String)(r:V->List V->Hp->VK->Prop):Prop:=
 ∀(pins:List (Addr×Obj))(s:Shared)(σ:St)(H:Hp)(x:V)(xs:List V)(v:Value)(us:List Value)(Q:VK),Inv X pins σ H s->RelV x v->Vals xs us->r x xs H Q->
  wpAny (model X.prog X.w) X.A (call (.builtin id)<|v::us) (EP X pins σ Q) X.xe s
def Vals.one:∀{x:V}{us:List Value},Vals [x] us->∃u,us=[u]/\RelV x u
 | _,_,.cons r .nil=>⟨_,rfl,r⟩
def Vals.zero:∀{us:List Value},Vals [] us->us=[]
 | _,.nil=>rfl
theorem Vals.dropLast{xs:List V}{us:List Value}(h:Vals xs us):Vals xs.dropLast us.dropLast:=by
 induction h with
 | nil=>exact .nil
 | cons r t ih=>
  cases t with
  | nil=>exact .nil
  | cons q t'=>exact .cons r ih
theorem Vals.eraseIdx:∀{xs:List V}{us:List Value}(i:Nat),Vals xs us->Vals (xs.eraseIdx i) (us.eraseIdx i)
 | _,_,_,.nil=>.nil
 | _,_,0,.cons _ t=>t
 | _,_,i+1,.cons r t=>.cons r<|Vals.eraseIdx i t
theorem Vals.reverse{xs:List V}{us:List Value}(h:Vals xs us):Vals xs.reverse us.reverse:=by
 induction h with
 | nil=>exact .nil
 | cons r t ih=>rw[EY,EY];exact Vals.append ih<|.cons r .nil
theorem Vals.rep{xs:List V}{us:List Value}(h:Vals xs us):∀k:Nat,Vals (List.replicate k xs).flatten (List.replicate k us).flatten
 | 0=>.nil
 | k+1=>by
  rw[zK,zK,BP,BP];exact Vals.append h<|Vals.rep h k
def ZT{α:Type}(l:List α):l.eraseIdx (↑l-1)=l.dropLast:=by
 induction l with
 | nil=>rfl
 | cons a r ih=>
  cases r with
  | nil=>rfl
  | cons b r=>
   have e:↑(a::b::r)-1=(↑(b::r)-1)+1:=by
    have h1:↑(a::b::r)=↑r+2:=rfl;have h2:↑(b::r)=↑r+1:=rfl;lia
   rw[e,List.eraseIdx_cons_succ,ih]
   all_goals rfl
theorem QU{α:Type}:∀(l:List α)(i:Nat),↑(l.eraseIdx i)<=↑l
 | [],_=>aU _
 | _::_,0=>nN _
 | _::r,i+1=>Nat.succ_le_succ<|QU r i
theorem LW(its:List Value):∀(k:Nat)(a:List Value),
  List.foldl (λf b=>f++b) a.toArray (List.replicate k its.toArray)=(a++(List.replicate k its).flatten).toArray
 | 0,a=>by simp
 | k+1,a=>by
  have e:a.toArray++its.toArray=(a++its).toArray:=by simp
  have d:(a++its)++(List.replicate k its).flatten=a++(List.replicate (k+1) its).flatten:=by
   rw[zK,BP,lC]
  rw[<-d,<-LW its k (a++its),<-e,zK,List.foldl_cons]
section
variable{pins:List (Addr×Obj)}{σ:St}{H:Hp}{s:Shared}{l b:Addr}{xs ys zs:List V}
def Inv.lset{its its':List Value}{n:Nat}{f:Array Value->Array Value}{t':Nat}(I:Inv X pins σ H s)(a:H l=some (.lst xs))
  (e:s.heap.get? l=some {cls:=.type "list",data:=.seq its.toArray n}) (i:f its.toArray=its'.toArray) (d:Vals ys its') (hz:↑ys<=sizeLine):
  Inv X pins σ (upd H l<|.lst ys) {s with heap:=s.heap.update l<|Obj.mapSeq f,toks:=t'}:=by
 have q:=PySem.IsL.update e f;rw[i]at q;refine I.write (x:=l) (e:=l) (by rw[a];exact trivial) (.inl rfl) (λj u b h=>(pI s.heap (Obj.mapSeq f)<|bL b).trans h) ⟨_,q⟩ ?_;exact⟨hz,its',_,d,q⟩
def Inv.lnew{its:List Value}{t':Nat}(I:Inv X pins σ H s)(a:Vals ys its)(hz:↑ys<=sizeLine):
  Inv X pins σ (upd H s⁻¹<|.lst ys) {s with heap:=s.heap.push {cls:=.type "list",data:=.seq its.toArray},toks:=t'}:=
 I.laid (λ_ _ q=>bS _ q) (aU _) ⟨hz,its,0,a,dD _ rfl⟩
theorem Inv.fresh(I:Inv X pins σ H s):H s⁻¹=none:=I.hok.fresh<|aU _
def Inv.lstM(I:Inv X pins σ H s)(a:H l=some (.lst xs)):↑xs<=sizeLine/\∃(its:List Value)(n:Nat),Vals xs its/\↑xs=↑its/\s.heap.get? l=some {cls:=.type "list",data:=.seq its.toArray n}:=by
 obtain⟨z,its,n,r,e⟩:=I.hok l _ a;exact⟨z,its,n,r,↑r,e⟩
def QK{n:Nat}(h:n<=sizeLine):Builtin.List.listTooLong n=false:=by
 unfold Builtin.List.listTooLong;exact gM (by lia)
end
inductive zE(x:V)(vs:List V)(H:Hp)(Q:VK):Prop
 | mk(l:Addr)(xs:List V)(y:V)(h1:x=.ref l)(h2:vs=[y])(h3:H l=some (.lst xs))(h4:↑xs<sizeLine)(q:Q .non (upd H l<|.lst<|xs++[y])):zE x vs H Q
def vA:V->List V->Hp->VK->Prop:=λx vs H Q=>zE x vs H Q
def eR:EF X "list.append" vA:=by
 intro i s σ H x vs v us Q I b f h;obtain⟨l,xs,y,rfl,rfl,a,hz,q⟩:=h;cases b;obtain⟨u,rfl,d⟩:=f.one;obtain⟨z,its,n,r,hl,e⟩:=I.lstM a;refine rR F.slot_list_append ⟨_,e,rfl⟩ F.entry_list_append (F.args_list_append_2 _ _) (PySem.list_append l its.toArray n u<|by rw[cO];lia) ⟨e,?_⟩;refine⟨.non,_,I.lset (its':=its++[u]) a e (by simp) (r.append<|.cons d .nil) ?_,rfl,q⟩;rw[bI,dR];lia
def UG:V->List V->Hp->VK->Prop:=λx vs H Q=>∃l b xs zs,x=.ref l/\vs=[.ref b]/\H l=some (.lst xs)/\H b=some (.lst zs)/\↑xs+↑zs<=sizeLine/\Q .non (upd H l<|.lst<|xs++zs)
def XU:EF X "list.extend" UG:=by
 intro C s σ H x vs v us Q I m A h;obtain⟨l,b,xs,zs,rfl,rfl,d,j,hz,q⟩:=h;cases m;obtain⟨u,rfl,o⟩:=A.one;cases o;obtain⟨z,its,n,r,hl,e⟩:=I.lstM d;obtain⟨G,a,i,w,E,B⟩:=I.lstM j;have hsz:its.toArray.size+a.toArray.size<=sizeLine:=by rw[cO,cO];lia
 have f:¬(!its.toArray.isEmpty && Builtin.List.listTooLong (its.toArray.size+a.toArray.size))=true:=by
  rw[QK hsz,Bool.and_false];exact fK
 refine rR F.slot_list_extend ⟨_,e,rfl⟩ F.entry_list_extend (F.args_list_extend_2 _ _)
  (AutoSeq1.list_extend_list_list_0 l its.toArray n b a.toArray i f (by rw[cO];lia)<|by lia) ⟨e,B,?_⟩
 refine⟨.non,_,I.lset (its':=its++a) d e (by simp) (r.append w) ?_,rfl,q⟩;rw[bI];lia
def KY:V->List V->Hp->VK->Prop:=λx vs H Q=>∃l xs y,x=.ref l/\vs=[]/\H l=some (.lst xs)/\xs[↑xs-1]?=some y/\Q y (upd H l<|.lst xs.dropLast)
def tW:EF X "list.pop" KY:=by
 intro w s σ H x vs v us Q I f m h;obtain⟨l,xs,y,rfl,rfl,a,j,q⟩:=h;cases f;have b:=m.zero;subst b;obtain⟨z,its,n,r,hl,e⟩:=I.lstM a;obtain⟨u,d,i⟩:=r.get j;have o:its.toArray[its.toArray.size-1]?=some u:=by
  show its.toArray[↑its-1]?=some u;rw[<-Array.getElem?_toList,<-hl];exact d
 refine rR F.slot_list_pop ⟨_,e,rfl⟩ F.entry_list_pop (F.args_list_pop_1 _) (MeetsSeq.list_pop_last l its.toArray n u o<|by rw[cO];lia) ⟨e,?_⟩;refine⟨y,_,I.lset (its':=its.dropLast) a e ?_ r.dropLast ?_,i,q⟩
 .show its.toArray.eraseIdxIfInBounds (its.toArray.size-1)=its.dropLast.toArray;rw[cO,List.eraseIdxIfInBounds_toArray,ZT]
 .rw[List.length_dropLast];lia
def RP:V->List V->Hp->VK->Prop:=λx vs H Q=>∃l xs i k y,x=.ref l/\vs=[.int i]/\H l=some (.lst xs)/\-(2 ^ 63)<=i/\i<2 ^ 63/\seqIndex? i ↑xs=some k/\xs[k]?=some y/\Q y (upd H l<|.lst<|xs.eraseIdx k)
def Bb:EF X "list.pop" RP:=by
 intro B s σ H x vs v us Q I d m h;obtain⟨l,xs,i,k,y,rfl,rfl,a,h1,h2,A,j,q⟩:=h;cases d;obtain⟨u,rfl,f⟩:=m.one;obtain⟨t,rfl⟩:=f;obtain⟨z,its,n,r,hl,e⟩:=I.lstM a;obtain⟨w,o,b⟩:=r.get j;refine rR F.slot_list_pop ⟨_,e,rfl⟩ F.entry_list_pop (F.args_list_pop_2 _ _)
  (MeetsSeq.list_pop_at l its.toArray n i t k w (fitsIndex_both h1 h2) (by rw[cO,<-hl];exact A) (by rw[<-Array.getElem?_toList];exact o)<|by rw[cO];lia) ⟨e,?_⟩
 refine⟨y,_,I.lset (its':=its.eraseIdx k) a e ?_ (r.eraseIdx k) ?_,b,q⟩
 .show its.toArray.eraseIdxIfInBounds k=(its.eraseIdx k).toArray;rw[List.eraseIdxIfInBounds_toArray]
 .have:=QU xs k;lia
def xD:R2:=λx y H Q=>∃l b xs zs,x=.ref l/\y=.ref b/\H l=some (.lst xs)/\H b=some (.lst zs)/\↑xs+↑zs<=sizeLine/\∀p,H p=none->Q (.ref p) (upd H p<|.lst<|xs++zs)
def vN:cX X (binaryOp .Add) xD:=by
 intro A s σ H x y v u Q I j m h;obtain⟨l,b,xs,zs,rfl,rfl,d,f,hz,q⟩:=h;cases j;cases m;obtain⟨z,its,n,r,hl,e⟩:=I.lstM d;obtain⟨E,a,C,o,B,w⟩:=I.lstM f;refine PySem.P.add_list e w ?_ (by rw[cO,cO];lia);have i:its.toArray++a.toArray=(its++a).toArray:=by simp
 rw[i];exact⟨.ref _,_,I.lnew (t':=s.toks) (r.append o) (by rw[bI];lia),rfl,q _ I.fresh⟩
def GD:R2:=λx y H Q=>∃l k xs,x=.ref l/\y=.int k/\H l=some (.lst xs)/\-(2 ^ 63)<=k/\k<2 ^ 63/\↑xs*k.toNat<=sizeLine/\
 ∀p,H p=none->Q (.ref p) (upd H p<|.lst (List.replicate k.toNat xs).flatten)
def VW{α:Type}(xs:List α)(k:Nat):(List.replicate k xs).flatten.length=k*↑xs:=by
 induction k with
 | zero=>simp
 | succ k ih=>rw[zK,BP,bI,ih,Nat.succ_mul,Nat.add_comm]
def sB:cX X (binaryOp .Mult) GD:=by
 intro G s σ H x y v u Q I f C h;obtain⟨l,k,xs,rfl,rfl,o,h1,h2,hz,q⟩:=h;cases f;obtain⟨t,rfl⟩:=C;obtain⟨z,its,n,r,hl,e⟩:=I.lstM o;have B:its.toArray.size*k.toNat<=sizeLine:=by rw[cO,<-hl];exact hz
 have A:¬its.toArray.size*k.toNat > (2 ^ 63-1) / 8:=by
  have:(sizeLine:Nat)<=(2 ^ 63-1) / 8:=by decide
  lia
 have w:¬(!Builtin.List.listFitsIndex k)=true:=by
  rw[fitsIndex_both h1 h2];exact fK
 have j:¬Builtin.List.listTooLong (its.toArray.size*k.toNat)=true:=by
  rw[QK B];exact fK
 have i:List.foldl (λb d=>b++d) #[] (List.replicate (if its.toArray.isEmpty=true then 0 else k.toNat) its.toArray)=(List.replicate k.toNat its).flatten.toArray:=by
  have E:∀m:Nat,List.foldl (λb d=>b++d) #[] (List.replicate m its.toArray)=(List.replicate m its).flatten.toArray:=λm=>by
   have:=LW its m [];rw[vT]at this;exact this
  rw[E];cases its with
  | nil=>simp
  | cons a r'=>rw[aY<|by simp]
 refine wpAny_binaryOp_repeat_ref (T:="list") (U:="int") (by decide) ⟨_,e,rfl⟩ (λs'=>typeIs_int s' k t) noFill_list_mul F.fills_int_mul F.slot_int_rmul repeat_list F.slot_int_index.lookup
  (rR F.slot_int_rmul (typeIs_int s k t) F.entry_int_rmul (F.args_int_rmul_2 _ _) (int___rmul___int_list k t l its.toArray n) ⟨e,rfl,⟨_,e,rfl⟩,rR F.slot_list_mul ⟨_,e,rfl⟩ F.entry_list_mul (F.args_list_mul_2 _ _) (AutoListH.list___mul___list_int_3 l its.toArray n k t w A j) ⟨e,?_⟩⟩)
 rw[i];exact⟨.ref _,_,I.lnew (t':=s.toks) (r.rep k.toNat) (by rw[VW,Nat.mul_comm];exact hz),rfl,q _ I.fresh⟩
section
variable{κ:Type}[DecidableEq κ]
def aF(kvs:List (κ×V))(k:κ):Option V:=(kvs.find? λkv=>decide<|kv.1=k).map (·.2)
def aN(kvs:List (κ×V))(k:κ)(v:V):List (κ×V):=
 if (kvs.any λkv=>decide<|kv.1=k)=true then kvs.map (λkv=>if kv.1=k then(kv.1,v) else kv) else kvs++[(k,v)]
def jK{p:κ×V}{r:List (κ×V)}{k:κ}(e:p.1=k):aF (p::r) k=some p.2:=by simp[aF,oR,e]
def jH{p:κ×V}{r:List (κ×V)}{k:κ}(e:¬p.1=k):aF (p::r) k=aF r k:=by simp[aF,oR,e]
theorem oU(k:κ):∀kvs:List (κ×V),(kvs.any λa=>decide<|a.1=k)=(aF kvs k).isSome
 | []=>rfl
 | p::r=>by
  rw[vD]
  by_cases e:p.1=k
  .simp only[jK e,fI e,Bool.true_or,Option.isSome_some]
  .rw[jH e,gM e,Bool.false_or];exact oU k r
theorem LS(k j:κ)(y:V):∀kvs:List (κ×V),aF (kvs.map λa=>if a.1=k then(a.1,y) else a) j=(aF kvs j).map λx=>if j=k then y else x
 | []=>rfl
 | p::r=>by
  have b:=LS k j y r;rw[fH]
  by_cases h:p.1=k
  .rw[bC h]
   by_cases e:p.1=j
   .rw[jK (p:=(p.1,y)) e,jK e,Option.map_some,bC<|e.symm.trans h]
   .rw[jH (p:=(p.1,y)) e,jH e,b]
  .rw[aY h]
   by_cases e:p.1=j
   .rw[jK (p:=p) e,jK e,Option.map_some,aY λz=>h<|e.trans z]
   .rw[jH (p:=p) e,jH e,b]
theorem MZ(k j:κ)(y:V):∀kvs:List (κ×V),aF kvs k=none->aF (kvs++[(k,y)]) j=if j=k then some y else aF kvs j
 | [],_=>by
  by_cases e:k=j
  .rw[bC e.symm];exact jK (p:=(k,y)) e
  .rw[aY λz=>e z.symm];exact jH (p:=(k,y)) e
 | p::r,hn=>by
  rw[List.cons_append];have a:¬p.1=k:=λz=>by rw[jK z]at hn;cases hn
  rw[jH a]at hn;have b:=MZ k j y r hn
  by_cases e:p.1=j
  .rw[jK e,jK e,aY λz=>a<|e.trans z]
  .rw[jH e,jH e,b]
def jF(kvs:List (κ×V))(k j:κ)(y:V):aF (aN kvs k y) j=if j=k then some y else aF kvs j:=by
 unfold aN
 by_cases a:(kvs.any λd=>decide<|d.1=k)=true
 .rw[bC a,LS];rw[oU]at a
  by_cases e:j=k
  .obtain⟨x,b⟩:=Option.isSome_iff_exists.mp a;rw[bC e,e,b,Option.map_some,bC rfl]
  .rw[aY e];cases aF kvs j with
   | none=>rfl
   | some x=>rw[Option.map_some,aY e]
 .rw[aY a];refine MZ k j y kvs ?_;rw[oU]at a;cases q:aF kvs k with
  | none=>rfl
  | some x=>rw[q]at a;exact(a rfl).elim
def jV(kvs:List (κ×V))(k:κ)(v:V):↑(aN kvs k v)<=↑kvs+1:=by
 unfold aN
 split
 .rw[aK];lia
 .rw[bI,cU,kW];lia
def DB{kvs:List (κ×V)}{k:κ}(v:V)(h:aF kvs k=none):aN kvs k v=kvs++[(k,v)]:=by
 unfold aN;rw[oU,h];exact aY (by decide)
def RelO.isSome_eq{o:Option V}{u:Option Value}(r:RelO o u):o.isSome=u.isSome:=by
 cases o with
 | none=>cases u with
  | none=>rfl
  | some _=>exact(show False from r).elim
 | some _=>cases u with
  | none=>exact(show False from r).elim
  | some _=>rfl
theorem RelO.getD{o:Option V}{u:Option Value}{d:V}{d':Value}(r:RelO o u)(rd:RelV d d'):RelV (o.getD d) (u.getD d'):=by
 cases o with
 | none=>cases u with
  | none=>exact rd
  | some _=>exact(show False from r).elim
 | some _=>cases u with
  | none=>exact(show False from r).elim
  | some _=>exact r
def KV.val{kvs:List (κ×V)}{vs:List (κ×Value)}(r:KV kvs vs)(k:κ):RelO (aF kvs k) (valueAt vs k):=by
 unfold KV at r
 induction r with
 | nil=>exact fW
 | @cons p q ps qs h t ih=>
  obtain⟨h1,h2⟩:=h
  by_cases e:p.1=k
  .have a:q.1=k:=h1.symm.trans e;have b:valueAt (q::qs) k=some q.2:=by simp[valueAt,oR,a]
   rw[jK e,b];exact h2
  .have a:¬q.1=k:=λz=>e<|h1.trans z;have b:valueAt (q::qs) k=valueAt qs k:=by simp[valueAt,oR,a]
   rw[jH e,b];exact ih
theorem KV.any{kvs:List (κ×V)}{vs:List (κ×Value)}(r:KV kvs vs)(k:κ):(kvs.any λa=>decide<|a.1=k)=vs.any λa=>decide (a.1=k):=by
 unfold KV at r
 induction r with
 | nil=>rfl
 | cons h t ih=>rw[vD,vD,ih,h.1]
def KV.repl{kvs:List (κ×V)}{vs:List (κ×Value)}(r:KV kvs vs)(k:κ){y:V}{u:Value}(b:RelV y u):
  KV (kvs.map λa=>if a.1=k then(a.1,y) else a) (vs.map λa=>if a.1=k then(a.1,u) else a):=by
 unfold KV at r ⊢
 induction r with
 | nil=>exact .nil
 | @cons p q ps qs h t ih=>
  rw[fH,fH];refine .cons ?_ ih;obtain⟨h1,h2⟩:=h
  by_cases e:p.1=k
  .rw[bC e,bC<|h1.symm.trans e];exact⟨h1,b⟩
  .rw[aY e,aY λz=>e<|h1.trans z];exact⟨h1,h2⟩
def KV.put{kvs:List (κ×V)}{vs:List (κ×Value)}(r:KV kvs vs)(k:κ){y:V}{u:Value}(a:RelV y u):KV (aN kvs k y) (stored vs k u):=by
 unfold aN stored;rw[r.any k]
 by_cases e:(vs.any λb=>decide<|b.1=k)=true
 .rw[bC e,bC e];exact r.repl k a
 .rw[aY e,aY e];exact Paired.snoc r ⟨rfl,a⟩
theorem KV.length{kvs:List (κ×V)}{vs:List (κ×Value)}(r:KV kvs vs):↑kvs=↑vs:=Paired.length r
end
def iZ{P:Program}{w:World}{k:aG}{u:Value}(r:RelV (kV k) u):(cB P w).is k u=true:=by
 cases k with
 | inl i=>obtain⟨t,e⟩:=(show ∃t,u=Value.int i t from r);subst e;exact TM P w i t
 | inr x=>obtain⟨t,e⟩:=(show ∃t,u=Value.str x t from r);subst e;exact Ab P w x t
theorem HR{P:Program}{w:World}:∀{ks:List aG}{us:List Value},Vals (ks.map kV) us->ItemsAre (cB P w) ks us
 | [],_,r=>by rw[List.map_nil]at r;cases r;exact .nil
 | k::ks,_,r=>by
  rw[fH]at r;cases r with
  | cons h t=>exact .cons (iZ h)<|HR t
abbrev KT(H:Hp):List (List aG×V)->List (List aG×Addr×Value)->Prop:=Paired λp q=>p.1=q.1/\H q.2.1=some (.tup<|p.1.map kV)/\RelV p.2 q.2.2
def KT.val{H:Hp}{kvs:List (List aG×V)}{xs:List (List aG×Addr×Value)}(r:KT H kvs xs)(k:List aG):RelO (aF kvs k) ((atKey xs k).map (·.2)):=by
 induction r with
 | nil=>exact fW
 | @cons p q ps qs h t ih=>
  obtain⟨h1,_,h2⟩:=h
  by_cases e:p.1=k
  .have a:q.1=k:=h1.symm.trans e;have b:atKey (q::qs) k=some q.2:=by simp[atKey,oR,a]
   rw[jK e,b];exact h2
  .have a:¬q.1=k:=λz=>e<|h1.trans z;have b:atKey (q::qs) k=atKey qs k:=by simp[atKey,oR,a]
   rw[jH e,b];exact ih
def KT.repl{H:Hp}{kvs:List (List aG×V)}{xs:List (List aG×Addr×Value)}(r:KT H kvs xs)(k:List aG){y:V}{u:Value}(d:RelV y u):
  KT H (kvs.map λa=>if a.1=k then(a.1,y) else a) (xs.map<|putAt k u):=by
 induction r with
 | nil=>exact .nil
 | @cons p q ps qs h t ih=>
  rw[fH,fH];refine .cons ?_ ih;obtain⟨h1,h2,b⟩:=h;unfold putAt
  by_cases e:p.1=k
  .rw[bC e,bC<|h1.symm.trans e];exact⟨h1,h2,d⟩
  .rw[aY e,aY λz=>e<|h1.trans z];exact⟨h1,h2,b⟩
def KT.put{H:Hp}{kvs:List (List aG×V)}{xs:List (List aG×Addr×Value)}(r:KT H kvs xs)(k:List aG){b:Addr}{y:V}{u:Value}(d:H b=some (.tup<|k.map kV))(a:RelV y u):
  KT H (aN kvs k y) (storedH xs k b u):=by
 have e:(kvs.any λf=>decide<|f.1=k)=(atKey xs k).isSome:=by
  rw[oU,(r.val k).isSome_eq,yS]
 unfold aN storedH;rw[e]
 by_cases q:(atKey xs k).isSome=true
 .rw[bC q,bC q];exact r.repl k a
 .rw[aY q,aY q];exact Paired.snoc r ⟨rfl,d,a⟩
def KT.keeps{H H':Hp}{kvs:List (List aG×V)}{xs:List (List aG×Addr×Value)}(r:KT H kvs xs)(a:∀b ys,H b=some (.tup ys)->H' b=some (.tup ys)):KT H' kvs xs:=
 Paired.mapP r λ_ _ z=>⟨z.1,a _ _ z.2.1,z.2.2⟩
section
variable{P:Program}{w:World}{H:Hp}{h:Heap}{a:Addr}
def oF{u:HO}(ok:HOk P w H h)(e:Rd H a u):ObjOk P w H h a u:=e.ok ok
def kI{kvs:List (aG×V)}(ok:HOk P w H h)(e:Rd H a (.dK kvs)):↑kvs<=sizeLine/\(a == sysModules)=false/\∃vs,KV kvs vs/\h.DictOf (cB P w) a vs:=
 show ObjOk P w H h a (.dK kvs) from oF ok e
def vI{kvs:List (aG×V)}(ok:HOk P w H h)(e:H a=some (.dK kvs)):↑kvs<=sizeLine/\(a == sysModules)=false/\∃vs,KV kvs vs/\h.DictOf (cB P w) a vs:=kI ok<|.inl e
def mW{ks:List aG}(ok:HOk P w H h)(e:H a=some (.tup<|ks.map kV)):(tupleKind<|cB P w).is h ks a:=by
 obtain⟨_,its,r,o,h1,h2,n,b⟩:=(show ObjOk P w H h a (.tup<|ks.map kV) from ok a _ e);exact⟨o,its.toArray,n,h1,h2,b,by simpa using HR r⟩
def nT{kvs:List (List aG×V)}(ok:HOk P w H h)(e:Rd H a (.dT kvs)):↑kvs<=sizeLine/\(a == sysModules)=false/\
  ∃xs,KT H kvs xs/\h.DictOfH (tupleKind<|cB P w) a xs:=by
 obtain⟨z,y,xs,r,o,es,ep,h1,h2,f,d,i⟩:=(show ObjOk P w H h a (.dT kvs) from oF ok e);refine⟨z,y,xs,r,o,es,ep,h1,h2,f,d,λx b=>?_,i⟩;have all:∀{l:List (List aG×V)}{m:List (List aG×Addr×Value)},KT H l m->∀x∈m,(tupleKind<|cB P w).is h x.1 x.2.1:=by
  intro l m q
  induction q with
  | nil=>intro x b;exact nomatch b
  | @cons p q ps qs hq t ih=>
   intro x b;rcases wm9.mp b with e | b
   .subst e;exact mW ok (by rw[<-hq.1];exact hq.2.1)
   .exact ih x b
 exact all r x b
def nE{kvs:List (List aG×V)}(ok:HOk P w H h)(e:H a=some (.dT kvs)):↑kvs<=sizeLine/\(a == sysModules)=false/\
  ∃xs,KT H kvs xs/\h.DictOfH (tupleKind<|cB P w) a xs:=nT ok<|.inl e
end
def DGet(H:Hp)(a:Addr)(y:V)(r:Option V):Prop:=
 (∃kvs k,Rd H a (.dK kvs)/\y=kV k/\r=aF kvs k)\/∃kvs k b,Rd H a (.dT kvs)/\y=.ref b/\H b=some (.tup<|k.map kV)/\r=aF kvs k
def DPut(H:Hp)(a:Addr)(y v:V)(H':Hp):Prop:=
 (∃kvs k,H a=some (.dK kvs)/\y=kV k/\↑kvs<sizeLine/\H'=upd H a (.dK<|aN kvs k v))\/
 ∃kvs k b,H a=some (.dT kvs)/\y=.ref b/\H b=some (.tup<|k.map kV)/\↑kvs<sizeLine/\H'=upd H a (.dT<|aN kvs k v)
theorem DGet.k{H:Hp}{a:Addr}{kvs:List (aG×V)}{k:aG}(e:H a=some (.dK kvs)):DGet H a (kV k) (aF kvs k):=.inl ⟨kvs,k,.inl e,rfl,rfl⟩
def DGet.t{H:Hp}{a b:Addr}{kvs:List (List aG×V)}{k:List aG}(e:H a=some (.dT kvs))(d:H b=some (.tup<|k.map kV)):DGet H a (.ref b) (aF kvs k):=.inr ⟨kvs,k,b,.inl e,rfl,d,rfl⟩
theorem DPut.k{H:Hp}{a:Addr}{kvs:List (aG×V)}{k:aG}{v:V}(e:H a=some (.dK kvs))(hl:↑kvs<sizeLine):DPut H a (kV k) v (upd H a<|.dK<|aN kvs k v):=.inl ⟨kvs,k,e,rfl,hl,rfl⟩
def DPut.t{H:Hp}{a b:Addr}{kvs:List (List aG×V)}{k:List aG}{v:V}(e:H a=some (.dT kvs))(d:H b=some (.tup<|k.map kV))(hl:↑kvs<sizeLine):
  DPut H a (.ref b) v (upd H a<|.dT<|aN kvs k v):=.inr ⟨kvs,k,b,e,rfl,d,hl,rfl⟩
section
variable{pins:List (Addr×Obj)}{σ:St}{H:Hp}{s:Shared}{a:Addr}{y v:V}{u r:Value}{o:Option V}{A:Around}{E:Vp}
def Inv.big(I:Inv X pins σ H s):sysModules<s⁻¹:=by
 have h:mainGlobals<s⁻¹:=(I.mod.glob.keeps I.bk).lt;exact gE (by decide) h
def ZW{Q:Vp}(r:A.units+1<cLine)(I:Inv X pins σ H s)(g:DGet H a y (some v))(n:RelV y u)(h:∀d s',Inv X pins σ H s'->RelV v d->Q d s'):
  wpAny (model X.prog X.w) A (getItem (.ref a) u) Q E s:=by
 rcases g with ⟨kvs,k,e,ey,l⟩ | ⟨kvs,k,b,e,ey,eb,l⟩
 .subst ey;obtain⟨z,hd,vs,m,j⟩:=kI I.hok e;obtain⟨d,f,i⟩:=RelO.some_of (v:=v) (o:=valueAt vs k) (by rw[l];exact m.val k);exact wpAny_getItem_of (iZ n) j.mapOf f<|h d _ (I.tok _) i
 .subst ey;cases (show u=Value.ref b from n);obtain⟨z,hd,xs,m,j⟩:=nT I.hok e;obtain⟨d,f,i⟩:=RelO.some_of (v:=v) (o:=(atKey xs k).map (·.2)) (by rw[l];exact m.val k);obtain⟨p,hp,q⟩:=wp4.mp f;refine wpAny_getItem_heap (pS r) (mW I.hok eb) j hp ?_;rw[q];exact h d _ (I.tok _) i
def GJ{Q:Vp}(j:A.units+1<cLine)(I:Inv X pins σ H s)(g:DGet H a y o)(i:RelV y u)(h:∀s',Inv X pins σ H s'->Q (.bool o.isSome) s'):
  wpAny (model X.prog X.w) A (compareOp .In u<|.ref a) Q E s:=by
 rcases g with ⟨kvs,k,e,ey,l⟩ | ⟨kvs,k,b,e,ey,eb,l⟩
 .subst ey;obtain⟨z,hd,vs,f,d⟩:=kI I.hok e;refine wpAny_in_of (iZ i) hd d.mapOf ?_;rw[<-(f.val k).isSome_eq,<-l];exact h _<|I.tok _
 .subst ey;cases (show u=Value.ref b from i);obtain⟨z,hd,xs,f,d⟩:=nT I.hok e;refine wpAny_in_heap (pS j) (mW I.hok eb) hd d ?_;have q:=(f.val k).isSome_eq;rw[yS]at q;rw[<-q,<-l];exact h _<|I.tok _
def Af{Q:Vp}(j:A.units+1<cLine)(I:Inv X pins σ H s)(g:DGet H a y o)(i:RelV y u)(h:∀s',Inv X pins σ H s'->Q (.bool<|!o.isSome) s'):
  wpAny (model X.prog X.w) A (compareOp .NotIn u<|.ref a) Q E s:=by
 rcases g with ⟨kvs,k,e,ey,l⟩ | ⟨kvs,k,b,e,ey,eb,l⟩
 .subst ey;obtain⟨z,hd,vs,f,d⟩:=kI I.hok e;refine wpAny_notIn_of (iZ i) hd d.mapOf ?_;rw[<-(f.val k).isSome_eq,<-l];exact h _<|I.tok _
 .subst ey;cases (show u=Value.ref b from i);obtain⟨z,hd,xs,f,d⟩:=nT I.hok e;refine wpAny_notIn_heap (pS j) (mW I.hok eb) hd d ?_;have q:=(f.val k).isSome_eq;rw[yS]at q;rw[<-q,<-l];exact h _<|I.tok _
def pO{h':Heap}{t':Nat}{d:HO}(I:Inv X pins σ H s)(f:zO (H a))(hs:Heap.SameBut a s.heap h')(he:∃q,h'.get? a=some q)(new:ObjOk X.prog X.w (upd H a d) h' a d):
  Inv X pins σ (upd H a d) {s with heap:=h',toks:=t'}:=
 I.write (x:=a) (e:=a) f (.inl rfl) (λb q h z=>(hs.2 b h).trans z) he new
def EB{P:Program}{w:World}{H':Hp}{h':Heap}{kvs:List (aG×V)}{vs:List (aG×Value)}(z:↑kvs<=sizeLine)(hd:(a == sysModules)=false)(d:KV kvs vs)(b:h'.DictOf (cB P w) a vs):
  ObjOk P w H' h' a (.dK kvs):=⟨z,hd,vs,d,b⟩
def ZU{H':Hp}{Q:Unit->Shared->Prop}(x:A.units+1<cLine)(I:Inv X pins σ H s)(g:DPut H a y v H')(m:RelV y u)(n:RelV v r)(h:∀s',Inv X pins σ H' s'->Q () s'):
  wpAny (model X.prog X.w) A (setItem (.ref a) u r) Q E s:=by
 rcases g with ⟨kvs,k,e,ey,l,eH⟩ | ⟨kvs,k,b,e,ey,eb,l,eH⟩
 .subst ey eH;obtain⟨z,hd,vs,d,j⟩:=vI I.hok e;have hz:↑vs<=sizeLine:=by rw[<-↑d];exact z
  have hl:↑(aN kvs k v)<=sizeLine:=by have:=jV kvs k v;lia
  refine wpAny_setItem_pairs (hsz:=hz) (iZ m) j λh' f hs=>h _ ?_;have he:∃q,h'.get? a=some q:=let ⟨q,_,_,i,_⟩:=f;⟨q,i⟩
  exact pO I (by rw[e];exact fW) hs he<|EB hl hd (d.put k n) f
 .subst ey eH;cases (show u=Value.ref b from m);obtain⟨z,hd,xs,d,j⟩:=nE I.hok e;have hz:↑xs<=sizeLine:=by rw[<-Paired.length d];exact z
  have hl:↑(aN kvs k v)<=sizeLine:=by have:=jV kvs k v;lia
  refine wpAny_setItem_heap (hsz:=hz) (pS x) (mW I.hok eb) j λh' f hs=>h _ ?_;obtain⟨q,es,ep,i,h2,G,B,_,C⟩:=f;refine pO I (by rw[e];exact fW) hs ⟨q,i⟩ ⟨hl,hd,_,(d.put k eb n).keeps λc ys o=>?_,q,es,ep,i,h2,G,B,C⟩;rw[aC<|mZ o e λz=>nomatch z];exact o
end
section
variable{pins:List (Addr×Obj)}{σ:St}{H:Hp}{s:Shared}{a:Addr}{kvs:List (aG×V)}{k:aG}{u:Value}{A:Around}{E:Vp}
end
def lJ(i:Expr):Prop:=∀ov iv,subscripted i false ov iv=operate [ov,iv] (getItem ov iv)
def KW{prog:Program}{w:World}{A:Around}{E:Vp}{s:Shared}{env:Env}{value a:Expr}{pos:Pos}{T id:String}{Q:Vp}
  (hl:typeLookup (.type T) "__getitem__"=pure (some<|.builtin id)) (hs:lJ a)
  (h:wpAny (model prog w) A (eval value env) (λo l=>wpAny (model prog w) A (eval a env) (λi b=>b.TypeIs o T/\wpAny (model prog w) A (getItem o i) Q E b) E l) E s):
  wpAny (model prog w) A (eval (.Subscript value a pos) env) Q E s:=by
 refine Subscript_<|fL h (λo l m=>fL m (λi b e=>?_) λ_ _ x=>x) λ_ _ x=>x;obtain⟨f,e⟩:=e;unfold subscriptTail;refine aI ?_;rw[getitemInPython_of_ne f.not_modules];refine aI<|nZ f hl ?_;have d:wpAny (model prog w) A (subscripted a false o i) (λr j=>wpAny (model prog w) A (letTemporaryGo value o r >>= λ_=>pure r) Q E j) E b:=by
  rw[hs o i];exact wpAny_operating<|fL e (λr j n=>aI<|wpAny_letTemporaryGo<|bE n) λ_ _ x=>x
 first
  | exact bE (aI d)
  | exact aI (bE<|aI d)
  | exact aI d
def Ac{X:Cx}{f:List (Addr×Obj)}{σ:St}{H:Hp}{s:Shared}{a:Addr}{y:V}{o:Option V}(I:Inv X f σ H s)(g:DGet H a y o):s.TypeIs (.ref a) "dict":=by
 rcases g with ⟨kvs,k,e,_,_⟩ | ⟨kvs,k,b,e,_,_,_⟩
 .obtain⟨_,_,vs,_,d⟩:=kI I.hok e;exact d.typeIs
 .obtain⟨_,_,xs,_,d⟩:=nT I.hok e;exact d.typeIs
inductive OG(x y:V)(H:Hp)(Q:VK):Prop
 | mk(a:Addr)(v:V)(h1:x=.ref a)(h2:DGet H a y (some v))(q:Q v H):OG x y H Q
def wF(td ty:TE):TE:=λσ H Q=>td σ H λx H1=>ty σ H1 λy H2=>OG x y H2 Q
def JC(ty td:TE):TE:=λσ H Q=>ty σ H λy H1=>td σ H1 λx H2=>∃a o,x=.ref a/\DGet H2 a y o/\Q (.bl o.isSome) H2
def WX(ty td:TE):TE:=λσ H Q=>ty σ H λy H1=>td σ H1 λx H2=>∃a o,x=.ref a/\DGet H2 a y o/\Q (.bl<|!o.isSome) H2
def oT(td ty tv:TE):TS:=λD σ H=>tv σ H λv H1=>td σ H1 λx H2=>ty σ H2 λy H3=>∃a H4,x=.ref a/\DPut H3 a y v H4/\D.nx σ H4
section
variable{o i e value:Expr}{pos pos' tpos:Pos}{td ty tv:TE}
def bQ(j:X.A.units+1<cLine)(q:PE X o td)(hi:PE X i ty)(hs:lJ i):PE X (.Subscript o i pos) (wF td ty):=by
 intro d s σ H Q I h;refine KW vf2.lookup hs<|aQ (q d s σ H _ I h) λu e ⟨x,H1,r,m,w⟩=>aQ (hi d e σ H1 _ r w) ?_;rintro B s2 ⟨y,H2,b,n,a,v,ex,g,l⟩;subst ex;obtain rfl:u=Value.ref a:=m;exact⟨Ac b g,ZW j b g n λC s3 z f=>⟨v,H2,z,f,l⟩⟩
def pX(f:X.A.units+1<cLine)(hi:PE X i ty)(n:PE X o td):PC X .In i o (JC ty td):=by
 intro b s σ H Q I h;refine aQ (hi b s σ H _ I h) λB d ⟨y,H1,q,l,w⟩=>aQ (n b d σ H1 _ q w) ?_;rintro u s2 ⟨x,H2,e,m,a,r,ex,g,j⟩;subst ex;obtain rfl:u=Value.ref a:=m;exact GJ f e g l λs3 z=>⟨.bl r.isSome,H2,z,rfl,j⟩
def YE(f:X.A.units+1<cLine)(hi:PE X i ty)(n:PE X o td):PC X .NotIn i o (WX ty td):=by
 intro b s σ H Q I h;refine aQ (hi b s σ H _ I h) λB d ⟨y,H1,q,l,w⟩=>aQ (n b d σ H1 _ q w) ?_;rintro u s2 ⟨x,H2,e,m,a,r,ex,g,j⟩;subst ex;obtain rfl:u=Value.ref a:=m;exact Af f e g l λs3 z=>⟨.bl<|!r.isSome,H2,z,rfl,j⟩
def fF(d:X.A.units+1<cLine)(E:PE X o td)(hi:PE X i ty)(G:PE X value tv)(hs:swapsWith value (some<|.Subscript o i pos') pos.line X.env=pure false):
  PS X (.Assign [.Subscript o i pos'] value pos) (oT td ty tv):=by
 intro b s σ H D I h;refine wpAny_Assign_Subscript (aQ (G b s σ H _ I h) λr z ⟨v,H1,l,j,m⟩=>aQ (E b z σ H1 _ l m) λu s2 ⟨x,H2,w,e,B⟩=>aQ (hi b s2 σ H2 _ w B) λK s3 ⟨y,H3,q,C,a,n,ex,g,f⟩=>?_) hs;subst ex;obtain rfl:u=Value.ref a:=e;exact ZU d q g C j λs4 J=>⟨σ,n,J,f⟩
end
def FD{P:Program}{w:World}{H:Hp}(h:Heap)(a:sysModules<h.objs.size):ObjOk P w H (h.push {cls:=.type "dict",data:=.dict #[]}) h.objs.size (.dK []):=
 ⟨bM _,ww6.mpr<|bL<|bU a,[],.nil,Heap.DictOf.new h⟩
def PM{P:Program}{w:World}{H:Hp}(h:Heap)(a:sysModules<h.objs.size):ObjOk P w H (h.push {cls:=.type "dict",data:=.dict #[]}) h.objs.size (.dT []):=
 ⟨bM _,ww6.mpr<|bL<|bU a,[],.nil,_,#[],0,dD _ rfl,⟨rfl,rfl,rfl⟩,rfl,rfl,kQ⟩
def SL:TE:=λ_ H Q=>∀p,H p=none->Q (.ref p) (upd H p<|.dK [])
def rO:TE:=λ_ H Q=>∀p,H p=none->Q (.ref p) (upd H p<|.dT [])
section
variable{pos:Pos}
def mI:PE X (.Dict [] [] pos) SL:=λb s σ H Q I h=>
 wpAny_Dict_empty ⟨.ref s⁻¹,_,I.laid (a:=s⁻¹) (o:=.dK []) (t':=s.toks) (λ_ _ q=>bS _ q) (aU _)<|FD s.heap I.big,rfl,h _<|I.hok.fresh<|aU _⟩
def UO:PE X (.Dict [] [] pos) rO:=λb s σ H Q I h=>
 wpAny_Dict_empty ⟨.ref s⁻¹,_,I.laid (a:=s⁻¹) (o:=.dT []) (t':=s.toks) (λ_ _ q=>bS _ q) (aU _)<|PM s.heap I.big,rfl,h _<|I.hok.fresh<|aU _⟩
end
def JN:List (TE×TE)->St->Hp->(List (V×V)->Hp->Prop)->Prop
 | [],_,H,Q=>Q [] H
 | (tk,tv)::r,σ,H,Q=>tk σ H λx H1=>tv σ H1 λy H2=>JN r σ H2 λps H3=>Q ((x,y)::ps) H3
abbrev VV:List (V×V)->List (Value×Value)->Prop:=Paired λp q=>RelV p.1 q.1/\RelV p.2 q.2
def vY(X:Cx)(pos:Pos)(keys:List (Option Expr))(values:List Expr)(trs:List (TE×TE)):Prop:=
 ∀(pins:List (Addr×Obj))(s:Shared)(σ:St)(H:Hp)(Q:List (V×V)->Hp->Prop),Inv X pins σ H s->JN trs σ H Q->
  wpAny (model X.prog X.w) X.A (evalPairs<|pairTrees keys values X.env pos) (λvs s'=>∃ps H',Inv X pins σ H' s'/\VV ps vs/\Q ps H') X.xe s
def AQ{X:Cx}{pos:Pos}:vY X pos [] [] []:=λa s σ H Q I h=>pairTrees_nil_walk ⟨[],H,I,.nil,h⟩
def gY{X:Cx}{pos:Pos}{k v:Expr}{ks:List (Option Expr)}{vs:List Expr}{tk tv:TE}{b:List (TE×TE)}(l:PE X k tk)(w:PE X v tv)(hr:vY X pos ks vs b):
  vY X pos (some k::ks) (v::vs) ((tk,tv)::b):=λa s σ H Q I h=>
 pairTrees_cons_walk (aQ (l a s σ H _ I h) λu n ⟨x,H1,f,d,i⟩=>aQ (w a n σ H1 _ f i) λz s2 ⟨y,H2,m,r,q⟩=>
  aQ (hr a s2 σ H2 _ m q) <| by rintro ws s3 ⟨ps,H3,j,o,e⟩;exact⟨(x,y)::ps,H3,j,.cons ⟨d,r⟩ o,e⟩)
def cJ(kvs more:List (aG×V)):List (aG×V):=more.foldl (λacc kv=>aN acc kv.1 kv.2) kvs
def KV.merge:∀{more:List (aG×V)}{rs:List (aG×Value)}{kvs:List (aG×V)}{vs:List (aG×Value)},KV more rs->KV kvs vs->KV (cJ kvs more) (merged vs rs):=by
 intro more rs kvs vs r;unfold KV at r
 induction r generalizing kvs vs with
 | nil=>intro q;exact q
 | @cons p q ps qs h t ih=>
  intro a;have e:KV (aN kvs p.1 p.2) (stored vs q.1 q.2):=by
   have:=a.put p.1 h.2;rw[<-h.1];exact this
  exact ih e
theorem xA:∀(more kvs:List (aG×V)),↑(cJ kvs more)<=↑kvs+↑more
 | [],kvs=>by show ↑kvs<=↑kvs+0;lia
 | p::r,kvs=>by
  have h1:=xA r<|aN kvs p.1 p.2;have h2:=jV kvs p.1 p.2;show(cJ (aN kvs p.1 p.2) r).length<=_;rw[cU];lia
theorem NJ{P:Program}{w:World}:∀{kvs:List (aG×V)}{ws:List (Value×Value)},VV (kvs.map λd=>(kV d.1,d.2)) ws->∃rs,Carries (cB P w) ws rs/\KV kvs rs
 | [],_,r=>by rw[List.map_nil]at r;cases r;exact⟨[],fW,.nil⟩
 | p::kvs,_,r=>by
  rw[fH]at r;cases r with
  | @cons a b as bs h t=>
   obtain⟨rs,c,q⟩:=NJ (P:=P) (w:=w) t;obtain⟨f,e⟩:=b;exact⟨(p.1,e)::rs,⟨iZ h.1,rfl,c⟩,.cons ⟨rfl,h.2⟩ q⟩
def CJ(trs:List (TE×TE)):TE:=λσ H Q=>∀p,H p=none->JN trs σ (upd H p<|.dK []) λps H2=>H2 p=some (.dK [])/\∃kvs:List (aG×V),ps=kvs.map (λkv=>(kV kv.1,kv.2))/\↑kvs<=15/\Q (.ref p) (upd H2 p<|.dK<|cJ [] kvs)
def EJ{X:Cx}{pos:Pos}{b:List (Option Expr)}{d:List Expr}{f:List (TE×TE)}(h:vY X pos b d f)(x:b.all (·.isSome)=true)(hl:↑b=↑d)(h0:b≠[])
  (m:↑b<=15):PE X (.Dict b d pos) (CJ f):=by
 intro A s σ H Q I q;have n:=I.hok.fresh<|aU s⁻¹;have r:=I.laid (a:=s⁻¹) (o:=.dK []) (h':=s.heap.push {cls:=.type "dict",data:=.dict #[]}) (t':=s.toks) (λ_ _ q=>bS _ q) (aU _)<|FD s.heap I.big;refine wpAny_Dict_walk (knd:=cB X.prog X.w) x hl h0 m<|aQ (h A _ σ _ _ r<|q _ n) ?_;rintro ws s2 ⟨ps,H2,i,l,e,kvs,ep,lk,C⟩;subst ep;obtain⟨rs,c,u⟩:=NJ (P:=X.prog) (w:=X.w) l;obtain⟨z,hd,G,B,E⟩:=vI i.hok e;cases B;refine⟨rs,c,E,λh' j hs=>⟨.ref s⁻¹,_,?_,rfl,C⟩⟩;have hz:↑(cJ [] kvs)<=sizeLine:=by
  have h1:=xA kvs [];rw[kW]at h1;rw[sizeLine_eq];lia
 have he:∃q,h'.get? s⁻¹=some q:=let ⟨q,_,_,hq,_⟩:=j;⟨q,hq⟩
 exact pO i (by rw[e];exact fW) hs he<|EB hz hd (u.merge .nil) j
structure M1(X:Cx)(o:Expr)(m:Str)(apos:Pos)(e:Expr)(cpos:Pos):Prop where
 base:attributeBase o m X.env (eval o X.env)=eval o X.env
 few:((backTo cpos<|starEach [e] X.env).all (λx=>!x.1) && (backToKw cpos<|keywordEach [] X.env).all (λx=>x.1.isSome) && decide (↑([e]:List Expr)+↑([]:List Keyword)+(if ([]:List Keyword).isEmpty then 0 else 1)<30))=true
 line:(apos.endLine == cpos.line)=true
 trees:backTo cpos (starEach [e] X.env)=[(false,eval e X.env)]
structure M2(X:Cx)(o:Expr)(m:Str)(apos:Pos)(e f:Expr)(cpos:Pos):Prop where
 base:attributeBase o m X.env (eval o X.env)=eval o X.env
 few:((backTo cpos<|starEach [e,f] X.env).all (λx=>!x.1) && (backToKw cpos<|keywordEach [] X.env).all (λx=>x.1.isSome) && decide (↑([e,f]:List Expr)+↑([]:List Keyword)+(if ([]:List Keyword).isEmpty then 0 else 1)<30))=true
 line:(apos.endLine == cpos.line)=true
 trees:backTo cpos (starEach [e,f] X.env)=[(false,eval e X.env),(false,eval f X.env)]
def uX(H:Hp)(a:Addr):Prop:=(∃kvs,Rd H a<|.dK kvs)\/∃kvs,Rd H a<|.dT kvs
def vB{X:Cx}{i:List (Addr×Obj)}{σ:St}{H:Hp}{s:Shared}{a:Addr}(I:Inv X i σ H s)(d:uX H a):
  s.TypeIs (.ref a) "dict"/\(∀b,Value.ref a=.ref b->∃f,s.heap.get? b=some f/\f.dict=none)/\(a == sysModules)=false:=by
 rcases d with ⟨kvs,e⟩ | ⟨kvs,e⟩
 .obtain⟨_,hd,vs,_,h⟩:=kI I.hok e;refine⟨h.typeIs,λb q=>?_,hd⟩;cases q;obtain⟨f,_,_,h1,h2,_⟩:=h;exact⟨f,h1,h2.2.1⟩
 .obtain⟨_,hd,xs,_,h⟩:=nT I.hok e;refine⟨h.typeIs,λb q=>?_,hd⟩;cases q;obtain⟨f,_,_,h1,h2,_⟩:=h;exact⟨f,h1,h2.2.1⟩
section
variable{pins:List (Addr×Obj)}{σ:St}{H:Hp}{s:Shared}{a:Addr}{y d:V}{u r:Value}{o:Option V}{A:Around}{E:Vp}
def LZ{Q:Vp}(j:A.units+1<cLine)(I:Inv X pins σ H s)(g:DGet H a y o)(i:RelV y u)(h:∀w' s',Inv X pins σ H s'->RelV (o.getD .non) w'->Q w' s'):
  wpAny (model X.prog X.w) A (call (.builtin "dict.get") [.ref a,u]) Q E s:=by
 rcases g with ⟨kvs,k,e,ey,l⟩ | ⟨kvs,k,b,e,ey,eb,l⟩
 .subst ey;obtain⟨z,hd,vs,f,d⟩:=kI I.hok e;refine nP kR d.typeIs vF (IW _ _) (meets_dict_get (cB X.prog X.w) a (iZ i) hd) ⟨_,d.mapOf,h _ _ (I.tok _) ?_⟩;rw[l];exact(f.val k).getD rfl
 .subst ey;cases (show u=Value.ref b from i);obtain⟨z,hd,xs,f,d⟩:=nT I.hok e;refine nP kR d.typeIs vF (IW _ _) (meetsH_dict_get (tupleKind<|cB X.prog X.w) a b hd) ⟨pS j,k,xs,mW I.hok eb,d,h _ _ (I.tok _) ?_⟩;rw[l];exact(f.val k).getD rfl
def SM{Q:Vp}(m:A.units+1<cLine)(I:Inv X pins σ H s)(g:DGet H a y o)(j:RelV y u)(rd:RelV d r)(h:∀w' s',Inv X pins σ H s'->RelV (o.getD d) w'->Q w' s'):
  wpAny (model X.prog X.w) A (call (.builtin "dict.get") [.ref a,u,r]) Q E s:=by
 rcases g with ⟨kvs,k,e,ey,l⟩ | ⟨kvs,k,b,e,ey,eb,l⟩
 .subst ey;obtain⟨z,hd,vs,i,f⟩:=kI I.hok e;refine nP kR f.typeIs vF (IS _ _ _) (meets_dict_get_default (cB X.prog X.w) a (iZ j) hd r) ⟨_,f.mapOf,h _ _ (I.tok _) ?_⟩;rw[l];exact(i.val k).getD rd
 .subst ey;cases (show u=Value.ref b from j);obtain⟨z,hd,xs,i,f⟩:=nT I.hok e;refine nP kR f.typeIs vF (IS _ _ _) (meetsH_dict_get_default (tupleKind<|cB X.prog X.w) a b hd r) ⟨pS m,k,xs,mW I.hok eb,f,h _ _ (I.tok _) ?_⟩;rw[l];exact(i.val k).getD rd
end
def tV(td ty:TE):TE:=λσ H Q=>td σ H λx H1=>∃a,x=.ref a/\uX H1 a/\ty σ H1 λy H2=>∃o,DGet H2 a y o/\Q (o.getD .non) H2
def NG(td ty tx:TE):TE:=λσ H Q=>td σ H λx H1=>∃a,x=.ref a/\uX H1 a/\ty σ H1 λy H2=>tx σ H2 λz H3=>∃o,DGet H3 a y o/\Q (o.getD z) H3
section
variable{o e f:Expr}{apos cpos:Pos}{td ty tx:TE}
def iD(l:X.A.units+1<cLine)(z:PE X o td)(he:PE X e ty)(m:M1 X o "get" apos e cpos):PE X (.Call (.Attribute o "get" apos) [e] [] cpos) (tV td ty):=by
 intro f s σ H Q I h;refine vE m.base m.few m.line wH kR BW<|aQ (z f s σ H _ I h) ?_;rintro u j ⟨x,H1,b,r,a,ex,d,B⟩;subst ex;obtain rfl:u=Value.ref a:=r;obtain⟨G,w,_⟩:=vB b d;exists G,w;rw[m.trees];refine nA rfl<|wG<|kU<|aQ (he f j σ H1 _ b B) λJ s2 ⟨y,H2,E,q,K,g,n⟩=>tZ ?_;exact LZ l E g q λL s3 C i=>⟨_,H2,C,i,n⟩
def QN(j:X.A.units+1<cLine)(M:PE X o td)(he:PE X e ty)(N:PE X f tx)(m:M2 X o "get" apos e f cpos):PE X (.Call (.Attribute o "get" apos) [e,f] [] cpos) (NG td ty tx):=by
 intro b s σ H Q I h;refine vE m.base m.few m.line wH kR BW<|aQ (M b s σ H _ I h) ?_;rintro u G ⟨x,H1,i,l,a,ex,d,q⟩;subst ex;obtain rfl:u=Value.ref a:=l;obtain⟨B,L,_⟩:=vB i d;exists B,L;rw[m.trees];refine nA rfl (wG (kU (aQ (he b G σ H1 _ i q) λP s2 ⟨y,H2,w,K,J⟩=>
  kU (aQ (N b s2 σ H2 _ w J) λW s3 ⟨z,H3,r,E,T,g,n⟩=>tZ ?_))))
 exact SM j r g K E λY s4 O C=>⟨_,H3,O,C,n⟩
end
section
variable{pins:List (Addr×Obj)}{σ:St}{H:Hp}{s:Shared}{a:Addr}{kvs:List (aG×V)}{A:Around}{E:Vp}
end
section
variable{pins:List (Addr×Obj)}{σ:St}{H:Hp}{s:Shared}{a:Addr}{y:V}{u:Value}{A:Around}{E:Vp}
end
end L2
namespace Att
open PySem PySem.W PySem.Calls PyProof.Rows
def VT{P:Params}{h:Heap}:∀(d:List Int)(vs:List Value),WellAll P h vs (d.map WData.int)->IntsAre vs d:=by
 intro d
 induction d with
 | nil=>
  intro vs w;rw[List.map_nil]at w;cases w;exact .nil
 | cons n d ih=>
  intro vs w;rw[fH]at w;cases w with
  | cons a b=>
   cases a;exact .cons _ _<|ih _ b
def Aa{l:OpenLaw}{n:Nat}(x:l.most=some n){P:Params}{h:Heap}{args:List WData}{j:List Value}
  (i:l.row.toRowW.claim.pre args=true) (u:WellAll P h j args):
  ∃a vs b,j=[Value.ref a]/\args=[WData.list<|b.map WData.int]/\h.get? a=some {cls:=.type "list",data:=.seq vs.toArray}/\IntsAre vs b/\↑b<=n:=by
 have s:WShape.hasAll [] args [.list .int]=true:=(pre_splitW i).1;have m:l.pre.holds [] {args:=args}=true:=(pre_splitW i).2;obtain⟨d,r,rfl,h1,h2⟩:=hasAllW_cons s;obtain rfl:=hasAllW_nil h2;obtain⟨xs,rfl,w⟩:=hasW_list h1;obtain⟨b,rfl⟩:=items_int w;have o:↑b<=n:=by
  unfold OpenLaw.pre at m;have e:(WTm.not<|.lt (.lit<|.int (n:Int))<|.len<|.arg 0).holds [] {args:=[.list<|b.map .int]}=true:=by
   have e:=(holds_andW m).1;rw[x]at e;exact e
  have f:=condW_of e<|w_not<|w_lt w_lit<|w_len_list<|w_arg rfl;rw[aK]at f;refine Nat.le_of_not_lt λq=>?_;have z:(n:Int)<((↑b:Nat):Int):=by lia
  first
   | (rw[fI z]at f;exact absurd f<|by decide)
   | (simp at f;lia)
 cases u with
 | cons w1 w2=>
  cases w2;cases w1 with
  | list ho hall=>exact⟨_,_,b,rfl,rfl,ho,VT b _ hall,o⟩
def ZX(l:OpenLaw)(args:List WData):l.row.toRowW.claim.post args (.bool true) args=true:=
 postW_of (r:=l.row.toRowW) (X:=(true == true))
  (show WShape.has [] (.bool true) .bool=true by first | rfl | decide | simp[WShape.has,WShape.arms,WShape.armsAll])
  (show(WTm.eq .res<|.lit<|.bool true).value [] {args:=args,res:=some<|.bool true,after:=args}=some (.bool<|true == true) from w_eq_bool (w_res rfl) w_lit) rfl
def attach_call{l:OpenLaw}{n:Nat}{q:Program}{z:List Str}{A:(Str->Option Value)->Heap->Prop}{x:World->Heap->Prop}{d:DefRec}
  (K:l.most=some n) (L:d.params.defaults=[])
  (call:∀(w:World)(s₀ b:Shared)(mg j:Str->Option Value)(e:Addr)(o:Obj)(s i m:Value)(a:Addr)(vs:List Value)(h:List Int), Ground q z [] A w s₀ mg j b.heap->x w b.heap-> b.heap.get? e=some o->o.data=.func (docDef d.name d.params d.body d.scope s i m)->b.heap.CodeRec i d.name->mg d.name=some (.ref e)-> b.heap.get? a=some {cls:=.type "list",data:=.seq vs.toArray}->IntsAre vs h->↑h<=n->b.gens=#[]-> codeAny (model l.prog w) callerA (.call (.ref e) ⟨[.ref a],[]⟩) (λr s'=>r=.ok (.ret<|.bool true)/\OldK b.heap s'.heap/\s'.os=b.os/\AllBare s'.gens) b):
  WalkO q z A x l.row.toRowW d [] (λf vs=>PySem.call f vs):=by
 intro w s₀ b mg j G Y e o s i m W kV T hd B u X I args a6 as O ab ad M ac;obtain rfl:W=.none:=Dflts.none u L;obtain rfl:kV=.none:=Dflts.noKw u;obtain⟨a,vs,h,rfl,rfl,P,N,J⟩:=Aa K O M;refine enter_call<|codeAny_mono (call w s₀ b mg j e o s i m a vs h G Y T (fd_plain hd) B X P N J I) λr s' C=>?_;obtain⟨rfl,h2,Z,E⟩:=C;exact⟨.inl ⟨.bool true,.bool true,[],rfl,λ_=>rfl,.bool true,ZX l _,λ_=>⟨List.Pairwise.nil,λ_ H=>(nomatch H)⟩⟩,h2,Z,E⟩
section
variable{prog:Program}{w:World}{A:Around}{E:Vp}{s:Shared}{K:Frag}
end
end Att
namespace L2
open PySem PySem.Spec PyProof.Rows
variable{prog:Program}{w:World}{A:Around}{E:Vp}{s:Shared}
variable{X:Cx}
theorem QZ:∀{vs:List Value}{a:List Int},IntsAre vs a->Vals (a.map V.int) vs
 | _,_,.nil=>.nil
 | _,_,.cons n t h=>.cons ⟨t,rfl⟩<|QZ h
def sH(H:Hp):Prop:=∀b,H b=none\/∃o xs,H b=some (.frz o<|.lst xs)
def VQ{P:Program}{w:World}{K:Fq}{mg G:Str->Option Value}{CX:jB}{k:Nat}{I a:Addr}{fd:FuncData}{x:Str}{sp:Sp}{f:Shared}{vs:List Value}{A:List Int}
  (L:K.In f.heap) (M:f.heap.Ns mainGlobals mg) (i:f.heap.Ns builtinsNs G) (ac:∀x:Str,x≠"__name__"->G x=bootBuiltins x) (a4:f.heap.NoLimit) (hg:f.gens=#[])
  (C:f.heap.get? a=some {cls:=.type "list",data:=.seq vs.toArray}) (hi:IntsAre vs A) (hl:A.length<=sizeLine) (hr:Room k callerA)
  (F:∀base:Heap,K.In base->base.Ns mainGlobals mg->aR P w K mg base CX k I fd [x] sp) (a1:∀(s:Shared)(u:Value),BindsTo s fd ⟨[u],[]⟩ [(x,u)])
  (aa:∀H:Hp,sH H->SqL K H a (A.map V.int)->sp [.ref a] H (λv _=>v=.bl true) λ_ _ _=>False)
  (a9:∀H e s',CX [] H f (λ_ _ _=>False) e s'->False):
  codeAny (model P w) callerA (.call (.ref I) ⟨[.ref a],[]⟩) (λr s'=>r=.ok (.ret<|.bool true)/\OldK f.heap s'.heap/\s'.os=f.os/\AllBare s'.gens) f:=by
 have N:=QZ hi;have a6:=↑hi;have Y:∀H:Hp,sH H->SqL K H a (A.map V.int)->HOk P w H f.heap->(∀b,H b≠none->b=a)->(H a≠none->K.lookup a=none)->
   codeAny (model P w) callerA (.call (.ref I) ⟨[.ref a],[]⟩) (λr s'=>r=.ok (.ret<|.bool true)/\OldK f.heap s'.heap/\s'.os=f.os/\AllBare s'.gens) f:=by
  intro H Z hS j X hK;have T:∀{b:Addr}{o:Obj},f.heap.get? b=some o->H b=none->(fZ f.heap H).get? b=some o:=λe n=>VL e n;have ab:∀{b:Addr}{o:Obj}{es:Array DictEntry}{ep:Nat},f.heap.get? b=some o->o.data=.dict es ep->H b=none:=λ{b o es ep} e d=>by
   cases q:H b with
   | none=>rfl
   | some u=>
    have J:b=a:=X b (by rw[q];simp);subst J;rw[C]at e;cases e;have d':Data.seq vs.toArray _=Data.dict es ep:=d;cases d'
  have E:∀{b:Addr}{m:Str->Option Value},f.heap.Ns b m->(fZ f.heap H).Ns b m:=λ{b m} ⟨o,es,ep,e,d,r⟩=>⟨o,es,ep,T e<|ab e d,d,r⟩;have W:K.In (fZ f.heap H):=λb o e=>T (L b o e) (by
   cases q:H b with
   | none=>rfl
   | some u=>
    have J:b=a:=X b (by rw[q];simp);subst J;rw[hK<|by rw[q];simp]at e;cases e)
  have hM:Mod K mg (fZ f.heap H):=⟨W,E M,⟨G,E i,ac⟩,let ⟨mc,h1,h2⟩:=a4;⟨mc,E h1,h2⟩⟩;have e0:Env0 P w K mg (fZ f.heap H) callerA [] f H:=⟨rfl,hM,λb o e=>UP e,Nat.le_of_eq<|UH _ _,trivial,λb i=>absurd (show b∈([]:List Addr) from i) (by simp),j,.of_eq hg⟩;refine codeAny_mono ((F _ W<|E M).run callerA [] f H ⟨[.ref a],[]⟩ [.ref a] [.ref a] _ _ hr e0 (a1 f<|.ref a) (.cons rfl .nil)<|aa H Z hS) λr s' h=>?_;cases r with
  | error e=>exact(a9 H e s' h).elim
  | ok fl=>
   cases fl with
   | next=>exact False.elim h
   | brk=>exact False.elim h
   | cont=>exact False.elim h
   | ret u=>
    obtain⟨v,H',os,B,un,a5,r',q⟩:=h;have q':v=.bl true:=q;subst q';obtain rfl:u=Value.bool true:=r';refine⟨rfl,OldK.of_keep λb o e=>?_,os,B⟩;cases q:H b with
    | none=>exact un.keep b o e q (by intro z;exact absurd (show b∈([]:List Addr) from z)<|by simp) (by simp)
    | some u=>
     rcases Z b with z | ⟨ob,xs,z⟩
     .rw[q]at z;cases z
     .have z2:=un.frzs b ob _ z;obtain⟨O,_⟩:=j b _ z;obtain⟨e2,_⟩:=a5 b _ z2;rw[e]at O;cases O;exact e2
 cases hk:K.lookup a with
 | some o=>
  have e:=L a o hk;rw[C]at e;cases e;refine Y (λ_=>none) (λ_=>.inl rfl) (.inr ⟨_,vs.toArray,_,hk,rfl,rfl,rfl,by rw[cO,a6];exact hl,by simpa using N⟩) (λb u z=>by have l:(none:Option HO)=some u:=z;cases l) (λb z=>absurd rfl z) λz=>absurd rfl z
 | none=>
  refine Y (λb=>if b=a then some (.frz {cls:=.type "list",data:=.seq vs.toArray}<|.lst<|A.map V.int) else none) (λb=>?_) (.inl<|.inr ⟨{cls:=.type "list",data:=.seq vs.toArray},bC rfl⟩) (λb u z=>?_) (λb z=>?_) λ_=>hk
  .by_cases i:b=a
   .exact .inr ⟨_,_,bC i⟩
   .exact .inl<|aY i
  .by_cases i:b=a
   .have l:=(bC i).symm.trans z;cases l;subst i;exact⟨C,by rw[aK];exact hl,vs,_,N,C⟩
   .have l:=(aY i).symm.trans z;cases l
  .by_cases i:b=a
   .exact i
   .exact absurd (aY i) z
def VM{l:PySem.W.OpenLaw}{n k:Nat}{q:Program}{O:List Str}{XP:(Str->Option Value)->Heap->Prop}{r:World->Heap->Prop}{d:DefRec}{K:Params->Fq}{CX:World->jB}{sp:World->Sp}{x:Str}
  (J:l.most=some n) (E:n<=sizeLine) (P:d.params.defaults=[]) (hr:Room k callerA)
  (Z:∀(w:World)(h:Heap),r w h->(K w.params).In h)
  (F:∀(w:World)(mg:Str->Option Value)(i:Addr)(h:Heap),(K w.params).In h->h.Ns mainGlobals mg->mg d.name=some (.ref i)-> ∃fd:FuncData,(∀(s:Shared)(u:Value),BindsTo s fd ⟨[u],[]⟩ [(x,u)])/\ ∀base:Heap,(K w.params).In base->base.Ns mainGlobals mg->aR l.prog w (K w.params) mg base (CX w) k i fd [x] (sp w))
  (B:∀(w:World)(H:Hp)(a:Addr)(j:List Int),↑j<=n->sH H->SqL (K w.params) H a (j.map V.int)->sp w [.ref a] H (λv _=>v=.bl true) λ_ _ _=>False)
  (I:∀(w:World)(H:Hp)(s:Shared)(e:Value)(s':Shared),CX w [] H s (λ_ _ _=>False) e s'->False):
  PySem.W.WalkO q O XP r l.row.toRowW d [] (λf vs=>PySem.call f vs):=by
 refine Att.attach_call J P λw s₀ s₁ mg mb i o pm cd a9 a vs j G Y ho hd aa N X M z C=>?_;have m:=Z w _ Y;obtain⟨fd,A,hF⟩:=F w mg i _ m G.T.g N;exact VQ m G.T.g G.T.b G.T.builtins G.T.nolimit C X M (gC z E) hr hF A (λH hO L=>B w H a j z hO L) λH e s'=>I w H s₁ e s'
def oS(s:Stmt):Arguments:=match s with
 | .FunctionDef _ a _ _ _ _ _ _ _ _=>a
 | _=>{posonlyargs:=[],args:=[],vararg:=none,kwonlyargs:=[],kw_defaults:=[],kwarg:=none,defaults:=[]}
def dP(s:Stmt):List Stmt:=match s with
 | .FunctionDef _ _ b _ _ _ _ _ _ _=>b
 | _=>[]
def bR(s:Stmt):Scope:=match s with
 | .FunctionDef _ _ _ _ _ _ sc _ _ _=>sc
 | _=>{kind:=.function,names:=[],isGenerator:=false,isCoroutine:=false}
abbrev bP:jB:=λ_ _ _ _ _ _=>False
abbrev E0:XK:=λ_ _ _=>False
def JL{X:Cx}:DI bP X E0:=λ_ _ _ _ _ _ _ h=>h.elim
structure Fun(K:Fq)(x qual:Str)(st:Stmt)(f:Addr)(fd:FuncData):Prop where
 ex:∃(oc:Value)(od:Option Addr)(kV doc pm:Value)(an:Option Addr)(cdv ct:Value)(osl:Array (Option Value)),
  fd=PySem.W.fnOf x qual (oS st) (dP st) (bR st) .none kV doc pm an cdv ct/\K.lookup f=some ⟨oc,od,.func fd,osl⟩/\PySem.W.codeIn K cdv qual=true
 kp:PySem.W.keepIn K (.ref f)=true
section
variable{P:Program}{w:World}{K:Fq}{mg:Str->Option Value}{base:Heap}
def Fun.ok{x a:Str}{st:Stmt}{f:Addr}{fd:FuncData}{N ps:List Str}{k:Nat}{sp:Sp}(F:Fun K x a st f fd)(S:bY N ps (bR st))(len:∀vs H Q E,sp vs H Q E->↑vs=↑ps)
  (d:∀(b:Value)(A:Around)(outer:List Env)(s:Shared)(H:Hp)(vs:List V)(Q:VK)(E:XK),Room k (A.deeper<|envOfC a (bR st) s⁻¹ f b)->sp vs H Q E-> ∃t,PSs (eU bP P w K mg base N a (bR st) f b A outer s H E).nox (dP st) t/\t {nx:=λ_ H'=>Q .non H',rt:=Q} (mT N vs) H):aR P w K mg base bP (k+1) f fd ps sp:=by
 obtain⟨l,od,kV,j,m,o,b,ct,n,rfl,lk,i⟩:=F.ex;refine xW lk i S len λA outer s H vs Q E hr e=>?_;obtain⟨t,h,q⟩:=d b A outer s H vs Q E hr e;exact⟨t,h.nox,q⟩
def Fun.binds{x a:Str}{st:Stmt}{f:Addr}{fd:FuncData}{ps:List Str}(F:Fun K x a st f fd)
  (h:∀(kV i d:Value)(e:Option Addr)(b ct:Value)(us:List Value),↑us=↑ps->bindArgs (PySem.W.fnOf x a (oS st) (dP st) (bR st) .none kV i d e b ct) ⟨us,[]⟩=pure (ps.zip us)):Binds K fd ps []:=by
 obtain⟨m,od,kV,i,d,e,b,ct,l,rfl,lk,j⟩:=F.ex;exact .all<|h kV i d e b ct
def PJ{x a:Str}{st:Stmt}{f:Addr}{j:Value}{od h:Option Addr}{i:Array (Option Value)}{kV d e b ct:Value}(l:K.lookup f=some ⟨j,od,.func<|PySem.W.fnOf x a (oS st) (dP st) (bR st) .none kV d e h b ct,i⟩)
  (c:PySem.W.codeIn K b a=true) (k:PySem.W.keepIn K (.ref f)=true):Fun K x a st f (PySem.W.fnOf x a (oS st) (dP st) (bR st) .none kV d e h b ct):=⟨⟨j,od,kV,d,e,h,b,ct,i,rfl,l,c⟩,k⟩
end
def dU{A:Around}{k:Nat}(hr:Room k A):A.units+1<cLine:=Nat.lt_of_le_of_lt (Nat.add_le_add_left (by decide:1<=64) _) hr.units
def bH{n:Nat}(h:n<=1000):n<sizeLine:=Nat.lt_of_le_of_lt h (by decide)
def dM{n:Nat}(h:Nat.ble n 1000=true):n<=sizeLine:=cL<|bH<|Nat.le_of_ble_eq_true h
def pv(i:Nat){x:Str}{pos:Pos}(d:X.N[i]?=some x:=by rfl)(b:zP X.env.scope x:=by first | exact eM rfl | exact Or.inr (eM rfl) | exact Or.inr (Or.inr rfl))(hd:(x == ("__debug__":Str))=false:=by decide)
  (a:(x == ("__classdict__":Str))=false:=by decide):PE X (.Name x pos) (aJ i):=GH d b hd a
def bF{A B:Prop}(h:B):if false=true then A else B:=by
 rw[aY fK];exact h
def cT{A B:Prop}(h:A):if true=true then A else B:=by
 rw[bC rfl];exact h
def bG{c A B:Prop}[Decidable c](h1:c->A)(h2:¬c->B):if c then A else B:=by
 by_cases h:c
 .rw[bC h];exact h1 h
 .rw[aY h];exact h2 h
section
variable{κ:Type}[DecidableEq κ]
def DG{kvs:List (κ×V)}{k:κ}(h:aF kvs k=none):¬k∈kvs.map (·.1):=by
 intro m;obtain⟨p,hp,e⟩:=wn7.mp m;have q:(kvs.any λa=>decide<|a.1=k)=true:=vf5.mpr ⟨p,hp,fI e⟩;rw[oU,h]at q;exact absurd q (by simp)
def CQ{kvs:List (κ×V)}{k:κ}{v:V}(h:aF kvs k=some v):k∈kvs.map (·.1):=by
 have q:(kvs.any λa=>decide<|a.1=k)=true:=by
  rw[oU,h]
  all_goals rfl
 obtain⟨p,hp,e⟩:=vf5.mp q;exact wn7.mpr ⟨p,hp,cN e⟩
theorem KH:∀{l:List κ}{k:κ},l.Nodup->¬k∈l->(l++[k]).Nodup
 | [],k,_,_=>by simp
 | a::r,k,h,hk=>by
  obtain⟨h1,h2⟩:=wq7.mp h;show(a::(r++[k])).Nodup;refine wq7.mpr ⟨λm=>?_,KH h2 λm=>hk<|wm9.mpr<|Or.inr m⟩;rcases wp5.mp m with q | q
  .exact h1 q
  .exact hk<|wm9.mpr<|eM (wn1.mp q).symm
end
def bZ(env:Env):List (Str×NameKind)->List (Str×Addr)
 | []=>[]
 | (n,k)::r=>bZ env r++(if k=.free then [(n,(env.cells.lookup n).getD 0)] else [])
theorem FU:∀(l:List (Str×NameKind))(a:List (Str×Addr)),(∀y∈l,y.2=.free->∃c,env.cells.lookup y.1=some c)->
  (forIn l a λ(x:Str×NameKind) (r:List (Str×Addr))=>if (x.2 == .free)=true then(do let c <-cellOf env x.1;pure (ForInStep.yield<|(x.1,c)::r):Sem (ForInStep<|List<|Str×Addr)) else pure (ForInStep.yield r))=pure (bZ env l++a)
 | [],a,_=>by simp[bZ]
 | (n,k)::r,a,h=>by
  rw[vZ]
  by_cases b:k=.free
  .subst b;obtain⟨c,f⟩:=h (n,.free) (by simp) rfl;have e:cellOf env n=pure c:=by unfold cellOf;rw[f]
   simp only[beq_self_eq_true,if_true,e,pure_bind];rw[FU r ((n,c)::a) λy d=>h y<|hC _ d];simp[bZ,f]
  .have i:(k == NameKind.free)=false:=by simpa using b
   simp only[i,ER,iW,pure_bind];rw[FU r a λy d=>h y<|hC _ d];simp[bZ,b]
def CN(h:∀y∈scope.names,y.2=.free->∃c,env.cells.lookup y.1=some c):closureFor scope env=pure (bZ env scope.names):=by
 have e:=FU (env:=env) scope.names [] h;rw[gA]at e;unfold closureFor;refine Eq.trans ?_<|cK (λz=>z >>= pure) e;rfl
theorem HW:∀{l:List (Str×NameKind)},(x,c)∈bZ env l->(x,NameKind.free)∈l/\c=(env.cells.lookup x).getD 0
 | [],h=>by simp[bZ]at h
 | (n,k)::r,h=>by
  unfold bZ at h;rcases wp5.mp h with h | h
  .obtain⟨h1,h2⟩:=HW h;exact⟨hC _ h1,h2⟩
  .by_cases a:k=.free
   .rw[bC a]at h;have e:=wn1.mp h;cases e;subst a;exact⟨by simp,rfl⟩
   .rw[aY a]at h;simp at h
theorem QS:∀{l:List (Str×NameKind)},(x,NameKind.free)∈l->(x,(env.cells.lookup x).getD 0)∈bZ env l
 | [],h=>by simp at h
 | (n,k)::r,h=>by
  unfold bZ;rcases wm9.mp h with h | h
  .cases h;exact fY _ (by simp)
  .exact tK _<|QS h
theorem PF:∀{l:List (Str×Addr)},(x,v)∈l->(∀w,(x,w)∈l->w=v)->l.lookup x=some v
 | [],h,_=>by simp at h
 | (n,w)::r,h,u=>by
  rw[xS]
  by_cases e:x=n
  .subst e;simp[u w<|by simp]
  .have d:(x == n)=false:=by simpa using e
   rw[d];rcases wm9.mp h with h | h
   .cases h;exact absurd rfl e
   .exact PF h λa b=>u a<|hC _ b
def ZR(h:(x,NameKind.free)∈l):(bZ env l).lookup x=some ((env.cells.lookup x).getD 0):=
 PF (QS h) λw a=>(HW a).2
def cQ(X:Cx)(scope:Scope)(N':List Str)(s3:Shared)(H3:Hp)(C:Addr)(fp:List Addr):Cx:=
 {X with N:=N',s₀:=s3,H₀:=H3,env:=compEnvC scope (bZ X.env scope.names) C X.env,outer:=X.stack,stack:=X.stack,ex:=fp,fn:=λx=>((bZ X.env scope.names).lookup x).isNone,pn:=[],xe:=λ_ _=>False}
structure BlkN(X:Cx)(scope:Scope)(N':List Str)(src:List (Option Nat)):Prop where
 kind:scope.kind=.function
 nocell:(scope.names.all λy=>decide<|y.2≠.cell)=true
 locs:(scope.names.all λy=>decide<|y.2=.local->scope.names.lookup y.1=some .local)=true
 frees:(scope.names.all λy=>decide<|y.2=.free->X.env.kindOf y.1=some .cell\/X.env.kindOf y.1=some .free)=true
 slen:↑src=N'.length
 cap:((N'.zip src).all λp=>match p.2 with | some j=>decide (X.N[j]?=some p.1) && decide ((p.1,NameKind.free)∈scope.names) | none=>true)=true
def sub(src:List (Option Nat))(σ:St):St:=src.map λo=>o.bind λj=>(σ[j]?).join
def SF(h:(relabel scope env).names.lookup x=some k):(x,k)∈scope.names\/(k=.cell/\(x,NameKind.free)∈scope.names):=by
 have m:=uU h;obtain⟨⟨n,b⟩,a,e⟩:=wn7.mp m;dsimp only at e
 split at e
 .rename_i hc
  cases e;have:b=.free:=by
   simp only[tH,beq_iff_eq]at hc;exact hc.1.1
  subst this;exact .inr ⟨rfl,a⟩
 .cases e;exact .inl a
theorem RH{env:Env}:∀{names:List (Str×NameKind)},(x,NameKind.free)∈names->(∀k,(x,k)∈names->k≠.local/\k≠.globalExplicit/\k≠.globalImplicit/\k≠.cell)->
  let q:=(names.map λ(n,k)=>if (k == NameKind.free && env.scope.kind == .function && env.kindOf n == some .cell) then(n,NameKind.cell) else(n,k)).lookup x
  q=some .cell\/q=some .free
 | [],h,_=>by simp at h
 | (n,k)::r,h,u=>by
  intro q;show List.lookup x ((if (k == NameKind.free && env.scope.kind == .function && env.kindOf n == some .cell)=true then(n,NameKind.cell) else(n,k))::_)=_\/List.lookup x ((if (k == NameKind.free && env.scope.kind == .function && env.kindOf n == some .cell)=true then(n,NameKind.cell) else(n,k))::_)=_
  by_cases e:x=n
  .subst e;obtain⟨l,s,m,o⟩:=u k (by simp);have f:k=.free:=by cases k <;> simp_all
   subst f
   by_cases b:(NameKind.free == NameKind.free && env.scope.kind == .function && env.kindOf x == some .cell)=true
   .rw[bC b];left;simp[xS]
   .rw[aY b];right;simp[xS]
  .have a:(x == n)=false:=by simpa using e
   have d:=RH (env:=env) (names:=r) (x:=x) ((wm9.mp h).resolve_left λz=>e<|by cases z;rfl) λi j=>u i<|hC _ j
   split
   .simp only[xS,a];exact d
   .simp only[xS,a];exact d
section
variable{scope:Scope}{N':List Str}{src:List (Option Nat)}{pins:List (Addr×Obj)}{σ:St}{H3:Hp}{s3 s4:Shared}{C:Addr}{fp:List Addr}
theorem BlkN.cells(B:BlkN X scope N' src)(ok:X.Ok)(h:(x,NameKind.free)∈scope.names):∃c,X.env.cells.lookup x=some c/\(bZ X.env scope.names).lookup x=some c:=by
 have q:=cN<|wr1.mp B.frees (x,.free) h;obtain⟨c,a⟩:=ok.has x<|q rfl;exact⟨c,a,by rw[ZR h,a];rfl⟩
def BlkN.back(B:BlkN X scope N' src)(ok:X.Ok)(h:(bZ X.env scope.names).lookup x=some c):X.env.cells.lookup x=some c/\(x,NameKind.free)∈scope.names:=by
 obtain⟨h1,h2⟩:=HW<|uU h;obtain⟨c',b,a⟩:=B.cells ok h1;rw[h]at a;cases a;exact⟨b,h1⟩
def BlkN.captured(B:BlkN X scope N' src){i j:Nat}{x:Str}(h1:N'[i]?=some x)(h2:src[i]?=some (some j)):X.N[j]?=some x/\(x,NameKind.free)∈scope.names:=by
 have hz:(N'.zip src)[i]?=some (x,some j):=by
  rw[DF];exact⟨h1,h2⟩
 have q:=wr1.mp B.cap (x,some j)<|cW hz;have a:(decide (X.N[j]?=some x) && decide ((x,NameKind.free)∈scope.names))=true:=q;rw[tH]at a;exact⟨cN a.1,cN a.2⟩
def PP(B:BlkN X scope N' src)(I:Inv X pins σ H3 s3)(n:∀b∈fp,dN X pins H3 b)(M:∀b∈fp,b<s3⁻¹)(K:∀x k,(x,k)∈scope.names->k=.free->∀k',(x,k')∈scope.names->k'=.free)
  (w:C=s3⁻¹) (G:s4.heap.Ns C (λ_=>none)) (l:∀b o,s3.heap.get? b=some o->s4.heap.get? b=some o) (O:s4.os=s3.os) (A:s4.gens=s3.gens):
  Inv (cQ X scope N' s3 H3 C fp) [] (sub src σ) H3 s4:=by
 subst w;have ok:=I.ok;exists ⟨ok.mod,B.kind,ok.glob,ok.blt,aU _,λx y c h1 h2=>?_,λx h=>?_,λx c h1 h2=>?_,ok.hd,ok.frames,.inl rfl,λb a=>⟨bU<|M b a,λx c h=>?_⟩,I.bs,gC ok.bsz I.sz,λb o e a=>?_,λb a hs=>?_,I.stack,I.stkFree⟩,
  O,?_,Un.kept l,⟨_,G,λi x v h1 h2 Y=>?_⟩,λx c h=>?_,I.hok.fresh<|aU _,λx c h=>I.freeC x c (B.back ok h).1,λp hp=>absurd (show p∈([]:List (Addr×Obj)) from hp) (by simp),I.hok.kept l
 .exact ok.inj x y c (B.back ok h1).1 (B.back ok h2).1
 .have h:(relabel scope X.env).names.lookup x=some .cell\/(relabel scope X.env).names.lookup x=some .free:=h;have f:(x,NameKind.free)∈scope.names:=by
   rcases h with h | h
   .rcases SF h with q | ⟨_,q⟩
    .exact absurd rfl<|cN<|wr1.mp B.nocell _ q
    .exact q
   .rcases SF h with q | ⟨z,_⟩
    .exact q
    .cases z
  obtain⟨c,_,e⟩:=B.cells ok f;exact⟨c,e⟩
 .have h1:((bZ X.env scope.names).lookup x).isNone=true:=h1;have h2:(bZ X.env scope.names).lookup x=some c:=h2;rw[h2]at h1;simp at h1
 .exact(n b a).2.2.2.2.1 x c (B.back ok h).1
 .rcases(n b a).2.2.2.1 with z | z
  .exact ok.noex b o e z
  .exact absurd (fM (bK e)<|gC ok.bsz z)<|iC _
 .rcases wm9.mp (I.stkSub b hs)with z | z
  .exact(n b a).2.1 z
  .exact(n b a).2.2.1 z
 .rw[A];exact I.bare
 .have L:∃j,src[i]?=some (some j)/\σ[j]?=some (some v):=by
   have h2:(src.map λo=>o.bind λj=>(σ[j]?).join)[i]?=some (some v):=h2;rw[bN]at h2;cases e:src[i]? with
   | none=>rw[e]at h2;cases h2
   | some o=>
    rw[e]at h2;cases o with
    | none=>cases h2
    | some j=>
     exists j,rfl;have h2:some ((σ[j]?).join)=some (some v):=h2;cases e2:σ[j]? with
     | none=>rw[e2]at h2;cases h2
     | some z=>rw[e2]at h2;cases z with
      | none=>cases h2
      | some z=>cases h2;rfl
  obtain⟨j,N,P⟩:=L;obtain⟨W,f⟩:=B.captured h1 N;obtain⟨c,T,E⟩:=B.cells ok f;have r:=cN (wr1.mp B.frees _ f) rfl;obtain⟨m,_,hl⟩:=I.loc;have H:zP X.env.scope x:=by
   rcases r with z | z
   .exact .inr<|.inl z
   .exact .inr<|.inr z
  obtain⟨u,s,lk⟩:=hl j x v W P H;refine⟨u,s,.inr ⟨?_,c,E,?_⟩⟩
  .exact RH f λk J=>by
    have:=K x .free f rfl k J;subst this;exact⟨by decide,by decide,by decide,by decide⟩
  .rcases lk with ⟨z,_⟩ | ⟨_,c',e',⟨o,eo,ed⟩⟩
   .rcases r with y | y <;> (rw[z]at y;cases y)
   .rw[T]at e';cases e';exact⟨o,l _ _ eo,ed⟩
 .obtain⟨v,o,e,d⟩:=I.cell x c (B.back ok h).1;exact⟨v,o,l _ _ e,d⟩
 .show(sub src σ).length=N'.length;unfold sub;rw[aK];exact B.slen
end
def Bi(I:Nat->Shared->Prop) (turn:∀n s,I n s->wpAny (model prog w) A (pyNext it) (λr a=>match r with
   | none=>R (.ok .next) a
   | some v=>wpAny (model prog w) A (letOwnedTupleGo target it v) (λ_ a=>wpAny (model prog w) A (assign target env v) (λ_ f=>
     wpAny (model prog w) A (forIn ifs true λc r=>if r=true then do let ok <-isTrue c env (eval c env);pure (ForInStep.yield ok) else pure (ForInStep.yield r)) (λok d=>
      if ok=true then wpAny (model prog w) A (eval elt env) (λx i=>
       wpAny (model prog w) A (call (.builtin "list.append") [acc,x]) (λ_ j=>∃m,m<n/\I m j) (λ_ _=>False) i) (λ_ _=>False) d
      else ∃m,m<n/\I m d) (λ_ _=>False) f) (λ_ _=>False) a) (λ_ _=>False) a) (λ_ _=>False) s) (n:Nat) (h:I n s):
  codeAny (model prog w) A (.compLoop (.ListComp elt [⟨target,iter,ifs,0⟩] scope pos) 0 it acc env) R s:=by
 refine codeAny_loop rfl I (λn s l=>?_) n h;show wpAny _ A ((compTurn (.ListComp elt [⟨target,iter,ifs,0⟩] scope pos) 0 it acc env).onRaise (λx=>do noteFrame x env;theTreesLotGoes x)) _ _ s;refine wpAny_noted ?_;rw[compTurn_list];refine aI<|mX<|aI<|fL (turn n s l) (λr a b=>?_) λ_ _ h'=>h'.elim;cases r with
 | none=>exact bE b
 | some v=>
  refine aI<|fL b (λ_ a b=>?_) λ_ _ h'=>h'.elim;refine aI<|fL b (λ_ f o=>aI<|fL o (λok d e=>?_) λ_ _ h'=>h'.elim) λ_ _ h'=>h'.elim;cases ok with
  | false=>exact bE ⟨rfl,e⟩
  | true=>
   exact aI<|aI<|fL e (λx i q=>aI<|fL q (λ_ j u=>bE<|bE ⟨rfl,u⟩) λ_ _ h'=>h'.elim) λ_ _ h'=>h'.elim
def oE(X:Cx)(ifs:List Expr)(t:TT):Prop:=
 ∀(pins:List (Addr×Obj))(s:Shared)(σ:St)(H:Hp)(Q:Bool->Hp->Prop),Inv X pins σ H s->t σ H Q->
  wpAny (model X.prog X.w) X.A (forIn ifs true λc r=>if r=true then do let ok <-isTrue c X.env (eval c X.env);pure (ForInStep.yield ok) else pure (ForInStep.yield r)) (TP X pins σ Q) X.xe s
def mE:TT:=λ_ H Q=>Q true H
def gP:oE X [] mE:=λ_ _ _ H _ I h=>wpAny_tests_nil ⟨H,I,h⟩
def pN(h:PT X c t):oE X [c] t:=λa s σ H Q I q=>wpAny_tests_one<|h a s σ H Q I q
def mU(J:It)(g:TG)(tt:TT)(te:TE)(D:Addr)(σ0:St)(H0:Hp)(Q:Hp->Prop):Prop:=
 ∃W:Nat->Nat->St->Hp->Prop,(∃m,W 0 m σ0 H0)/\∀i m σ H,W i m σ H->
 (J.stop i H/\Q H)\/(J.go i H/\∃N:St->Hp->Prop,(∀σ' H',N σ' H'->∃m',m'<m/\W (i+1) m' σ' H')/\∀x H',J.yld i H x H'->g x σ H' λσ2 H2=>tt σ2 H2 λb H3=>
  if b=true then te σ2 H3 λv H4=>∃xs,H4 D=some (.lst xs)/\↑xs<sizeLine/\N σ2 (upd H4 D<|.lst<|xs++[v]) else N σ2 H3)
section
variable{scope:Scope}{N':List Str}{src:List (Option Nat)}{pins:List (Addr×Obj)}{σ:St}{H2:Hp}{s2:Shared}
def SQ{af tg a8:Expr}{aa:List Expr}{pos:Pos}{it:Addr}{fp:List Addr}{M:Nat->Heap->Prop}{J:It}{g:TG}{tt:TT}{te:TE}{Q:Addr->Hp->Prop}
  {RR:Value->Addr->Result->Shared->Prop} {E:Vp} (hc:X.calm=true)
  (B:BlkN X scope N' src) (as:∀x k,(x,k)∈scope.names->k=.free->∀k',(x,k')∈scope.names->k'=.free) (T:eS X.prog X.w X.K tg J fp it M) (I:Inv X pins σ H2 s2) (h0:M 0 s2.heap) (G:∀b∈fp,dN X pins H2 b)
  (hg:∀s3 H3 C,PG (cQ X scope N' s3 H3 C fp) tg g) (ht:∀s3 H3 C,oE (cQ X scope N' s3 H3 C fp) aa tt) (he:∀s3 H3 C,PE (cQ X scope N' s3 H3 C fp) af te)
  (hw:∀D,H2 D=none->mU J g tt te D (sub src σ) (upd H2 D<|.lst []) (Q D))
  (hQ:∀D C H' s',C≠D->(∃m,s'.heap.Ns C m)->(∀ad ,Heap.SameBut C s'.heap ad->Inv X pins σ H' {s' with heap:=ad})->Inv X pins σ H' s'->H' C=none->C≠X.env.locals->(∀x c,X.env.cells.lookup x=some c->c≠C)->X.s₀⁻¹<=C->(∀p∈X.pn++pins,p.1≠C)->Q D H'->RR (.ref D) C (.ok .next) s'):
  wpAny (model X.prog X.w) X.A (newList []) (λam N=>wpAny (model X.prog X.w) X.A (newFunctionEnv scope X.env.globals (bZ X.env scope.names) [] X.env.qual none .none<|some X.env) (λa6 s₄=>
   codeAny (model X.prog X.w) X.A (.compStart (.ListComp af [⟨tg,a8,aa,0⟩] scope pos) 0 (.ref it) am {a6 with scope:=relabel scope X.env}) (RR am a6.locals) s₄) E N) E s2:=by
 have a7:∀y∈scope.names,y.2≠.cell:=λy hy=>cN<|wr1.mp B.nocell y hy;refine jO<|wpAny_newFunctionEnv a7 (by intro y hy;simp at hy) (λY a2 a4=>?_) B.kind;dsimp only at a2 a4 ⊢;have ax:H2 s2⁻¹=none:=I.hok.fresh<|aU _;have l:Inv X pins σ (upd H2 s2⁻¹<|.lst []) {s2 with heap:=s2.heap.push {cls:=.type "list",dict:=none,data:=.seq ([]:List Value).toArray}}:=
  I.laid (t':=s2.toks) (λb o e=>bS _ e) (aU _) ⟨bM _,[],_,.nil,dD _ rfl⟩
 generalize hH3:(s2.heap.push {cls:=.type "list",dict:=none,data:=.seq ([]:List Value).toArray})=f at a2 a4 l ⊢;have ag:f.objs.size=s2⁻¹+1:=by rw[<-hH3,oH]
 have a5:∀b o,s2.heap.get? b=some o->f.get? b=some o:=λb o e=>by rw[<-hH3];exact bS _ e
 have a1:∀b o,f.get? b=some o->Y.get? b=some o:=λb o e=>a4.extBut b o (bU<|bK e)<|bS _ e;have a3:s2⁻¹<f.objs.size:=by rw[ag];exact wM _
 have ai:∀b∈fp,dN X pins (upd H2 s2⁻¹<|.lst []) b:=λb j=>by
  obtain⟨o,e,_⟩:=T.obj _ _ h0 b j;refine⟨?_,(G b j).2⟩;rw[aC<|bU<|bK e];exact(G b j).1
 have a9:∀b∈fp,b<f.objs.size:=λb j=>by
  obtain⟨o,e,_⟩:=T.obj _ _ h0 b j;exact gE (bK e) a3
 have au:=PP (fp:=fp) (C:=f.objs.size) (s4:={s2 with heap:=Y,toks:=s2.toks+↑([]:List (Str×Value))}) B l ai a9 as rfl a2 a1 rfl rfl;have aj:M 0 Y:=T.keep _ _ _ h0 λb j o e=>a1 b o<|a5 b o e;obtain⟨W,⟨m0,w0⟩,turn⟩:=hw s2⁻¹ ax;have ac:∀{H':Hp},(∀b∈fp,H' b=none)->∀b∈fp,dN (cQ X scope N' {s2 with heap:=f} (upd H2 s2⁻¹<|.lst []) f.objs.size fp) [] H' b:=λhn b j=>by
  refine⟨hn b j,bU<|a9 b j,?_,.inl j,λx c h=>(G b j).2.2.2.2.1 x c (B.back I.ok h).1,λp hp=>absurd (show p∈([]:List (Addr×Obj)) from hp)<|by simp⟩;intro z;rcases wm9.mp (l.stkSub b z)with y | y
  .exact(G b j).2.1 y
  .exact(G b j).2.2.1 y
 have b2:∀(s':Shared)(σ':St)(H':Hp),Inv (cQ X scope N' {s2 with heap:=f} (upd H2 s2⁻¹<|.lst []) f.objs.size fp) [] σ' H' s'->Q s2⁻¹ H'->RR (.ref s2⁻¹) f.objs.size (.ok .next) s':=λs' σ' H' L q=>by
  obtain⟨hh,gg,dd,ae,b5⟩:=s';have aw:b5=s2.os:=L.os;subst aw;have IX:Inv X pins σ H' {({s2 with heap:=f}:Shared)with heap:=hh,gens:=gg,drawn:=dd,toks:=ae}:=Inv.call (s:={s2 with heap:=f}) l (h':=hh) (g':=gg) (d':=dd) (t':=ae) (ch:=fp) L.base L.hok L.bare λb j=>⟨(G b j).2.2.2.1,(G b j).2.1,(G b j).2.2.2.2.1,(G b j).2.2.2.2.2⟩;have b6:s2⁻¹<=f.objs.size:=cL a3;have an:f.objs.size≠X.env.locals:=dJ l.lt;have al:∀x c,X.env.cells.lookup x=some c->c≠f.objs.size:=λx c e z=>by
   obtain⟨v,q⟩:=l.cell x c e;exact absurd (show c<f.objs.size from q.lt) (by rw[z];exact iC _)
  have ak:∀p∈X.pn++pins,p.1≠f.objs.size:=λp hp z=>by
   have:=bK (l.pin p hp).1;exact absurd (show p.1<f.objs.size from this) (by rw[z];exact iC _)
  have ah:H' f.objs.size=none:=L.free;obtain⟨m,hm,_⟩:=L.loc;refine hQ _ _ H' _ (dJ a3) ⟨m,hm⟩ (λad sb=>?_) IX ah an al (gC l.sz<|aU _) ak q;exact IX.turned (t':=ae) (λb o j e=>(sb.2 b j).trans e) ah an (.inr<|gC l.sz<|aU _) al ak
 have H:∀N:Shared,N={s2 with heap:=Y,toks:=s2.toks+↑([]:List (Str×Value))}->
   codeAny (model X.prog X.w) X.A (.compLoop (.ListComp af [⟨tg,a8,aa,0⟩] scope pos) 0 (.ref it) (.ref s2⁻¹)<|compEnvC scope (bZ X.env scope.names) f.objs.size X.env)
    (RR (.ref s2⁻¹) f.objs.size) N:=by
  rintro N rfl;refine Bi (λn s'=>∃i σ' H',Inv (cQ X scope N' {s2 with heap:=f} (upd H2 s2⁻¹<|.lst []) f.objs.size fp) [] σ' H' s'/\M i s'.heap/\(∀b∈fp,H' b=none)/\W i n σ' H') ?_ m0 ⟨0,_,_,au,aj,λb j=>(ai b j).1,w0⟩;rintro n s5 ⟨i,σ5,Z,I5,ao,ap,w5⟩;rcases turn i n σ5 Z w5 with ⟨stop,qn⟩ | ⟨go,Nx,hN,step⟩
  .refine aQ (T.done (cQ X scope N' {s2 with heap:=f} (upd H2 s2⁻¹<|.lst []) f.objs.size fp) rfl rfl rfl hc i [] s5 σ5 Z _ I5 (ac ap) ao stop) ?_;rintro r s6 ⟨hr,I6⟩;subst hr;exact b2 s6 σ5 Z I6 qn
  .refine aQ (T.item (cQ X scope N' {s2 with heap:=f} (upd H2 s2⁻¹<|.lst []) f.objs.size fp) rfl rfl rfl hc i [] s5 σ5 Z _ I5 (ac ap) ao go) ?_;rintro r s6 ⟨u,hr,h6⟩;subst hr;refine aQ h6 ?_;rintro _ s7 ⟨x,H7,I7,r7,y7,ab,aq⟩;have b4:=I7.pinned (ac aq)<|T.obj _ _ ab;refine aQ (hg _ _ _ _ s7 σ5 H7 x u _ b4 r7<|step x H7 y7) ?_;rintro _ s8 ⟨σ8,H8,I8,q8⟩;refine aQ (ht _ _ _ _ s8 σ8 H8 _ I8 q8) ?_;rintro ok s9 ⟨H9,I9,q9⟩;have again:∀{σa:St}{O:Hp}{P:Shared},Inv (cQ X scope N' {s2 with heap:=f} (upd H2 s2⁻¹<|.lst []) f.objs.size fp) ([]++vV fp s7.heap) σa O P->Nx σa O->
     ∃m,m<n/\∃i σ' H',Inv (cQ X scope N' {s2 with heap:=f} (upd H2 s2⁻¹<|.lst []) f.objs.size fp) [] σ' H' P/\M i P.heap/\(∀b∈fp,H' b=none)/\W i m σ' H':=λ{σa O P} Ia na=>by
    obtain⟨m',hm,wa⟩:=hN σa O na;refine⟨m',hm,i+1,σa,O,Ia.unpinned,T.keep _ _ _ ab λb j o e=>(Ia.pin (b,o)<|fY _<|fY _<|vM j e).1,λb j=>?_,wa⟩;obtain⟨o,e,d⟩:=T.obj _ _ ab b j;exact(Ia.pin (b,o)<|fY _<|fY _<|vM j e).2.1
   cases ok with
   | false=>exact again I9 q9
   | true=>
    refine aQ (he _ _ _ _ s9 σ8 H9 _ I9 q9) ?_;rintro y b0 ⟨v,ar,b3,ay,xs,hx,hl,av⟩;refine aQ (eR (X:=cQ X scope N' {s2 with heap:=f} (upd H2 s2⁻¹<|.lst []) f.objs.size fp) _ b0 σ8 ar (.ref s2⁻¹) [v] (.ref s2⁻¹) [y] (λ_ H'=>Nx σ8 H') b3 rfl (.cons ay .nil) ⟨_,xs,v,rfl,rfl,hx,hl,av⟩) ?_;rintro _ b8 ⟨_,b7,az,_,b1⟩;exact again az b1
 exact codeAny_compStart_list (H _ rfl)<|T.self _ 0 _ _ _ aj<|H _ rfl
def DM(wi:TI)(src:List (Option Nat))(g:TG)(tt:TT)(te:TE):TE:=λσ H Q=>wi σ H λJ H2=>∀D,H2 D=none->mU J g tt te D (sub src σ) (upd H2 D<|.lst []) λH'=>Q (.ref D) H'
def iO(Z:X.calm=true)(B:BlkN X scope N' src)(hi:PI X tg iter wi)(o:∀s3 H3 C fp,PG (cQ X scope N' s3 H3 C fp) tg g)(N:∀s3 H3 C fp,oE (cQ X scope N' s3 H3 C fp) ifs tt)(he:∀s3 H3 C fp,PE (cQ X scope N' s3 H3 C fp) elt te)(u:(scope.names.all λy=>decide (y.2=.free->∀z∈scope.names,z.1=y.1->z.2=.free))=true:=by rfl')(hs:∀x,foldedSetIterable iter X.env x=pure x:=by intro _;rfl):
  PE X (.ListComp elt [⟨tg,iter,ifs,0⟩] scope pos) (DM wi src g tt te):=by
 intro j s σ H Q I h;have P:∀x k,(x,k)∈scope.names->k=.free->∀e,(x,e)∈scope.names->e=.free:=λx k d E e l=>cN (wr1.mp u (x,k) d) E (x,e) l rfl;have M:closureFor scope X.env=pure (bZ X.env scope.names):=CN λy i f=>I.ok.has y.1<|cN (wr1.mp B.frees y i) f;have K:∀y∈scope.names,y.2=.local->scope.names.lookup y.1=some .local:=λy i=>cN<|wr1.mp B.locs y i;rw[eval_ListComp];refine EK (use:=none) rfl hs M B.kind K<|aQ (hi j s σ H _ I h) λxv s₁ n=>aQ n λad s2 h2=>?_;obtain⟨it,fp,tn,J,H2,rfl,G,T,h0,f,Y⟩:=h2;refine SQ (RR:=λO C=>compPost (model X.prog X.w) X.A X.xe none (EP X j σ Q) O C) (Q:=λD H'=>Q (.ref D) H') Z B P T G h0 f (λa b c=>o a b c fp) (λa b c=>N a b c fp) (λa b c=>he a b c fp) Y ?_;intro D C H' s' ac d L IX aa ae ab af a9 q;obtain⟨m,d⟩:=d;exact⟨m,d,λr W=>⟨.ref D,H',L r W,rfl,q⟩⟩
def oZ(hc:X.calm=true)(hN:X.N.Nodup)(Z:X.N[i]?=some y)(f:X.env.scope.names.lookup y=some .local)(B:BlkN X scope N' src)(hi:PI X tg iter wi)(hg:∀s3 H3 C fp,PG (cQ X scope N' s3 H3 C fp) tg g)(ht:∀s3 H3 C fp,oE (cQ X scope N' s3 H3 C fp) ifs tt)(he:∀s3 H3 C fp,PE (cQ X scope N' s3 H3 C fp) elt te)(ag:swapsWith (.ListComp elt [⟨tg,iter,ifs,0⟩] scope pos) (some<|.Name y py) spos.line X.env=pure true:=by rfl)(a8:(scope.names.all λy=>decide (y.2=.free->∀z∈scope.names,z.1=y.1->z.2=.free))=true:=by rfl')(hs:∀x,foldedSetIterable iter X.env x=pure x:=by intro _;rfl):
  PS X (.Assign [.Name y py] (.ListComp elt [⟨tg,iter,ifs,0⟩] scope pos) spos) (fO (DM wi src g tt te)<|bW i):=by
 intro r s σ H D I h;have O:∀x k,(x,k)∈scope.names->k=.free->∀l,(x,l)∈scope.names->l=.free:=λx k j Y l a9=>cN (wr1.mp a8 (x,k) j) Y (x,l) a9 rfl;have a2:closureFor scope X.env=pure (bZ X.env scope.names):=CN λy f n=>I.ok.has y.1<|cN (wr1.mp B.frees y f) n;have a1:∀y∈scope.names,y.2=.local->scope.names.lookup y.1=some .local:=λy f=>cN<|wr1.mp B.locs y f;rw[exec_Assign_Name_used _ _ _ _ ag];refine aI<|mX<|aI ?_;show wpAny _ X.A (do let _ <-comprehension (.ListComp elt [⟨tg,iter,ifs,0⟩] scope pos) scope X.env _ (newList []) false (eval iter X.env) (some<|assign (.Name y py) X.env)) _ _ s;have h':wi σ H λJ H2=>∀d,H2 d=none->mU J g tt te d (sub src σ) (upd H2 d<|.lst []) λH'=>D.nx (σ.set i<|some<|.ref d) H':=h;refine aI<|fL (EK (use:=some<|assign (.Name y py) X.env) (Q:=λ_ s'=>SP X r D .next s') rfl hs a2 B.kind a1<|aQ (hi r s σ H _ I h') λxv s₁ L=>aQ L λak s2 h2=>?_) (λ_ s' hq=>bE<|bE hq) λ_ _ e=>e
 obtain⟨it,fp,tn,J,H2,rfl,I2,T,h0,n,hw⟩:=h2;refine SQ (RR:=λaf C=>compPost (model X.prog X.w) X.A X.xe (some<|assign (.Name y py) X.env) (λ_ s'=>SP X r D .next s') af C) (Q:=λd H'=>D.nx (σ.set i<|some<|.ref d) H') hc B O T I2 h0 n (λa b c=>hg a b c fp) (λa b c=>ht a b c fp) (λa b c=>he a b c fp) hw ?_;intro d C H' s' aj j am G M u E aa K q;obtain⟨m,j⟩:=j;show wpAny _ X.A (assign (.Name y py) X.env<|.ref d) _ _ _;refine wpAny_assign_Name ?_;refine JE (v:=.ref d) G hN Z (.inl f) rfl (λP ad a3=>?_)<|.inr f;obtain⟨a,W,ha⟩:=a3;have ai:C≠a:=by
  rintro rfl;rcases ha with z | z
  .exact u z
  .exact E _ _ z rfl
 refine⟨m,j.sameBut W ai,λal sb=>⟨_,H',?_,q⟩⟩;exact ad.turned (t':=P.toks) (λb o hb e=>(sb.2 b hb).trans e) M u (.inr aa) E K
end
section
variable{pins:List (Addr×Obj)}{σ:St}{H:Hp}{s:Shared}{a:Addr}{o:Obj}{u:HO}
def WC(ok:HOk P w H h)(e:H a=some u)(i:∀xs,u≠.tup xs)(f:∀y,u≠.own y)(new:ObjOk P w (upd H a v) h a v):HOk P w (upd H a v) h:=λb z q=>by
 by_cases d:b=a
 .subst d;rw[zb1]at q;cases q;exact new
 .rw[aC d]at q;refine(ok b z q).stay (λc j _ r=>r) (λc r=>?_) λc xs r=>?_
  .rw[aC];exact r;rintro rfl;rw[e]at r;cases r;exact f _ rfl
  .rw[aC];exact r;rintro rfl;rw[e]at r;cases r;exact i _ rfl
def Inv.swap(I:Inv X pins σ H s)(e:H a=some u)(f:∀xs,u≠.tup xs)(l:∀y,u≠.own y)(o:∀ps,u≠.tbl ps)(hz:∀d y,X.H₀ a≠some (.frz d y))(new:ObjOk X.prog X.w (upd H a v) s.heap a v):Inv X pins σ (upd H a v) s:=by
 have ne:∀b,H b=none->b≠a:=λb n z=>by subst z;rw[e]at n;cases n
 refine⟨I.ok,I.os,I.bare,⟨I.base.keep,I.base.slot,λb d q n i=>?_,I.base.there,λb xs q=>?_,λb d y q=>?_,λb ps q=>?_⟩,I.loc,I.cell,?_,λx c h=>?_,λp hp=>?_,WC I.hok e f l new,I.len⟩
 .have:=I.base.free b d q n i;rw[aC<|ne b this];exact this
 .have:=I.base.tups b xs q;rw[aC];exact this;rintro rfl;rw[e]at this;cases this;exact f _ rfl
 .have:=I.base.frzs b d y q;rw[aC];exact this;rintro rfl;exact hz _ _ q
 .obtain⟨m,this⟩:=I.base.tbls b ps q;exists m;rw[aC];exact this;rintro rfl;rw[e]at this;cases this;exact o _ rfl
 .rw[aC<|ne _ I.free];exact I.free
 .rw[aC<|ne _<|I.freeC x c h];exact I.freeC x c h
 .obtain⟨h1,h2,j⟩:=I.pin p hp;exact⟨h1,by rw[aC<|ne _ h2];exact h2,j⟩
def Inv.unfrozen(I:Inv X pins σ H s)(e:H a=some (.dK kvs)):∀b y,X.H₀ a≠some (.frz b y):=λb y q=>by
 have:=I.base.frzs a b y q;rw[e]at this;cases this
def Inv.freeze(I:Inv X pins σ H s)(e:H a=some (.dK kvs))(b:s.heap.get? a=some o):Inv X pins σ (upd H a<|.frz o<|.dK kvs) s:=
 I.swap e (λ_ h=>nomatch h) (λ_ h=>nomatch h) (λ_ h=>nomatch h) (I.unfrozen e) ⟨b,I.hok a _ e⟩
def Inv.thaw(I:Inv X pins σ H s)(e:H a=some (.frz o<|.dK kvs))(hz:∀ob y,X.H₀ a≠some (.frz ob y)):Inv X pins σ (upd H a<|.dK kvs) s:=
 I.swap e (λ_ h=>nomatch h) (λ_ h=>nomatch h) (λ_ h=>nomatch h) hz (I.hok a _ e).2
end
def nQ(ok:Hp->Prop)(xs:List V):It:=⟨λi H=>ok H/\i<↑xs,λi H x H'=>H'=H/\xs[i]?=some x,λi H=>ok H/\↑xs<=i⟩
def EO(a:Addr)(o:Obj)(kvs:List (aG×V))(H:Hp):Prop:=H a=some (.frz o<|.dK kvs)
def KV.get(r:KV kvs vs):∀{i:Nat}{k:aG}{x:Value},vs[i]?=some (k,x)->∃v,kvs[i]?=some (k,v)/\RelV v x:=by
 unfold KV at r
 induction r with
 | nil=>intro i k x h;simp at h
 | @cons p q ps qs h t ih=>
  intro i k x a;cases i with
  | zero=>
   simp at a;subst a;obtain⟨b,p2⟩:=p;obtain⟨h1,h2⟩:=h;have h1:b=k:=h1;subst h1;exact⟨p2,by simp,h2⟩
  | succ i=>simpa using ih (by simpa using a)
def JJ{P:Program}{w:World}{h:Heap}{a:Addr}{o:Obj}{kvs:List (aG×V)}(b:h.get? a=some o)(d:∃vs,KV kvs vs/\h.DictOf (cB P w) a vs):
  ∃vs ep,KV kvs vs/\∀h':Heap,h'.get? a=some o->h'.DictAt (cB P w) a vs ep:=by
 obtain⟨vs,r,o',es,ep,e,q⟩:=d;rw[b]at e;cases e;exact⟨vs,ep,r,λh' f=>⟨o,es,f,q⟩⟩
def YI{P:Program}{w:World}{K:Fq}{tg:Expr}{o:Obj}{kvs:List (aG×V)}{vs:List (aG×Value)}{ep:Nat}(a it:Addr)(a2:a≠it)(r:KV kvs vs)(hd:∀h':Heap,h'.get? a=some o->h'.DictAt (cB P w) a vs ep):
  eS P w K tg (nQ (EO a o kvs)<|kvs.map λkv=>kV kv.1) [it] it (λi h=>h.IsKeyIter it a i ↑vs ep) where
 mem:=by simp
 obj:=λi h st b f=>by
  have e:b=it:=by simpa using f
  subst e;obtain⟨o,e,c,d⟩:=st;exact⟨o,e,λv z=>by rw[d]at z;cases z⟩
 keep:=λi h h' st k=>st.at λo e=>k it (by simp) o e
 item:=by
  intro X B L l M i O s σ H E I j st m;subst B L l;obtain⟨hz,hi⟩:=m;have C:=(I.hok a _ hz).1;obtain⟨G,J,f2,N,q,u⟩:=j it (by simp);have hl:i<↑vs:=by rw[<-↑r];simpa using hi
  have W:=Walks.dictKeys (prog:=X.prog) (w:=X.w) (knd:=cB X.prog X.w) (A:=X.A) (I.ok.hd M) it a a2 vs ep;refine W.item i s _ _ hl ⟨st,hd _ C⟩ λv h' tk hv T kk=>?_;obtain⟨k,x,hx,hk⟩:=hv;have Z:Inv X O σ H {s with heap:=h',toks:=tk}:=I.turned (λb o f e=>kk b o (by simpa using f) e) G J N q u;obtain⟨o',e',c',d'⟩:=id T.1;obtain⟨v',Y,_⟩:=r.get hx;refine⟨_,rfl,rK (s:={s with heap:=h',toks:=tk}) e' c' d' (by decide) ⟨kV k,H,Z,?_,⟨rfl,by rw[bN,Y];rfl⟩,T.1,λb f=>(j b f).1⟩⟩;rcases iN hk with ⟨n,t,rfl,rfl⟩ | ⟨n,t,rfl,rfl⟩
  .exact⟨t,rfl⟩
  .exact⟨t,rfl⟩
 done:=by
  intro X B L l M i O s σ H E I j st m;subst B L l;obtain⟨hz,hi⟩:=m;have C:=(I.hok a _ hz).1;obtain⟨G,J,f2,N,q,u⟩:=j it (by simp);have hl:↑vs<=i:=by rw[<-↑r];simpa using hi
  exact wpAny_pyNext_dict_end (I.ok.hd M) st (hd _ C) (by simpa using hl) λh' a3=>⟨rfl,I.turned (t':=s.toks) (λb o f e=>a3 b o f e) G J N q u⟩
 self:=λ_ _ _ _ _ st h=>wpAny_pyIter_keyiter st h
def TF{P:Program}{w:World}{K:Fq}{tg:Expr}{o:Obj}{kvs:List (aG×V)}{vs:List (aG×Value)}{ep:Nat}(a it:Addr)(a2:a≠it)(r:KV kvs vs)(hd:∀h':Heap,h'.get? a=some o->h'.DictAt (cB P w) a vs ep):
  eS P w K tg (nQ (EO a o kvs)<|kvs.map λkv=>kv.2) [it] it (λi h=>h.IsValIter it a i ↑vs ep) where
 mem:=by simp
 obj:=λi h st b f=>by
  have e:b=it:=by simpa using f
  subst e;obtain⟨o,e,c,d⟩:=st;exact⟨o,e,λv z=>by rw[d]at z;cases z⟩
 keep:=λi h h' st k=>st.at λo e=>k it (by simp) o e
 item:=by
  intro X u G l J i M s σ H E I j st m;subst u G l;obtain⟨hz,hi⟩:=m;have x:=(I.hok a _ hz).1;obtain⟨B,C,f2,L,n,q⟩:=j it (by simp);have hl:i<↑vs:=by rw[<-↑r];simpa using hi
  have W:=Walks.dictValues (prog:=X.prog) (w:=X.w) (knd:=cB X.prog X.w) (A:=X.A) (I.ok.hd J) it a a2 vs ep;refine W.item i s _ _ hl ⟨st,hd _ x⟩ λv h' tk hv N Z=>?_;obtain⟨k,hx⟩:=hv;have Y:Inv X M σ H {s with heap:=h',toks:=tk}:=I.turned (λb o f e=>Z b o (by simpa using f) e) B C L n q;obtain⟨o',e',c',d'⟩:=id N.1;obtain⟨v',O,T⟩:=r.get hx;exact⟨_,rfl,rK (s:={s with heap:=h',toks:=tk}) e' c' d' (by decide) ⟨v',H,Y,T,⟨rfl,by rw[bN,O];rfl⟩,N.1,λb f=>(j b f).1⟩⟩
 done:=by
  intro X u G l J i M s σ H E I j st m;subst u G l;obtain⟨hz,hi⟩:=m;have x:=(I.hok a _ hz).1;obtain⟨B,C,f2,L,n,q⟩:=j it (by simp);have hl:↑vs<=i:=by rw[<-↑r];simpa using hi
  exact wpAny_pyNext_values_end (I.ok.hd J) st (hd _ x) (by simpa using hl) λh' a3=>⟨rfl,I.turned (t':=s.toks) (λb o f e=>a3 b o f e) B C L n q⟩
 self:=λ_ _ _ _ _ st h=>wpAny_pyIter_valiter st h
section
variable{tg:Expr}
def wW(te:TE):TI:=λσ H R=>te σ H λx H1=>∃a kvs,x=.ref a/\H1 a=some (.dK kvs)/\∀o,R (nQ (EO a o kvs)<|kvs.map λkv=>kV kv.1)<|upd H1 a<|.frz o<|.dK kvs
def DU(hl:PE X l te):PI X tg l (wW te):=by
 intro u s σ H R I h;refine aQ (hl u s σ H _ I h) ?_;rintro v d ⟨x,H1,n,B,A⟩;obtain⟨a,kvs,e,m,q⟩:=A;subst e;cases B;obtain⟨hz,z,hd⟩:=vI n.hok m;obtain⟨o,f⟩:∃o,d.heap.get? a=some o:=by obtain⟨vs,_,o,_,_,e,_⟩:=hd;exact⟨o,e⟩
 obtain⟨vs,ep,r,j⟩:=JJ f hd;refine wpAny_pyIter_dict z (j _ f) ?_;have i:=n.freeze m f;refine⟨d⁻¹,[d⁻¹],_,_,_,rfl,i.kept (t':=d.toks) λb o e=>bS _ e,YI a _ (bU<|bK f) r j,⟨_,dD _ rfl,rfl,rfl⟩,λb w=>?_,q o⟩;have e:b=d⁻¹:=by simpa using w
 subst e;exact i.fpOk (aU _)<|i.hok.fresh<|aU _
def BC(te:TE):TI:=λσ H R=>te σ H λx H1=>∃a kvs,x=.ref a/\H1 a=some (.dK kvs)/\∀o,R (nQ (EO a o kvs)<|kvs.map λkv=>kv.2)<|upd H1 a<|.frz o<|.dK kvs
def XN(hl:PE X l te)(base:attributeBase l "values" X.env (eval l X.env)=eval l X.env:=by rfl)(few:((backTo cpos<|starEach [] X.env).all (λx=>!x.1) && (backToKw cpos<|keywordEach [] X.env).all (λx=>x.1.isSome) && decide (↑([]:List Expr)+↑([]:List Keyword)+(if ([]:List Keyword).isEmpty then 0 else 1)<30))=true:=by rfl)(i:(apos.endLine == cpos.line)=true:=by rfl)(f:backTo cpos (starEach [] X.env)=[]:=by rfl):PI X tg (.Call (.Attribute l "values" apos) [] [] cpos) (BC te):=by
 intro E s σ H R I h;refine vE base few i wH PySem.F.slot_dict_values PySem.F.type_dict_values<|aQ (hl E s σ H _ I h) ?_;rintro u d ⟨x,H1,m,J,a,kvs,ex,j,q⟩;subst ex;obtain rfl:u=Value.ref a:=J;obtain⟨C,M,L⟩:=vB m<|.inl ⟨kvs,.inl j⟩;exists C,M;rw[f];refine nA rfl<|PySem.evalArgs_none ?_;obtain⟨hz,_,hd⟩:=vI m.hok j;obtain⟨o,B⟩:∃o,d.heap.get? a=some o:=by obtain⟨vs,_,o,_,_,e,_⟩:=hd;exact⟨o,e⟩
 obtain⟨vs,ep,r,A⟩:=JJ B hd;refine nP PySem.F.slot_dict_values C PySem.F.entry_dict_values (PySem.F.args_dict_values_1 _) (meets_dict_values (cB X.prog X.w) a L) ⟨⟨vs,(A _ B).dictOf⟩,?_⟩;have z:(d.heap.push {cls:=.type "dict_values",data:=.fields #[.ref a]}).get? a=some o:=bS _ B;have K:Inv X E σ H1 {d with heap:=d.heap.push {cls:=.type "dict_values",data:=.fields #[.ref a]}}:=m.kept (t':=d.toks) λb o e=>bS _ e;refine wpAny_pyIter_values (s:={d with heap:=d.heap.push {cls:=.type "dict_values",data:=.fields #[.ref a]}}) ⟨_,dD _ rfl,rfl,rfl⟩ (A _ z) ?_;have n:=K.freeze j z;refine⟨_,[_],_,_,_,rfl,n.kept (t':=d.toks) λb o e=>bS _ e,TF a _ (bU<|bK z) r A,⟨_,dD _ rfl,rfl,rfl⟩,λb G=>?_,q o⟩;rw[wn1.mp G];exact n.fpOk (aU _)<|n.hok.fresh<|aU _
def xF(t:TE):TE:=λσ H Q=>∃a kvs,H a=some (.dK kvs)/\t σ H λv H'=>∃o,H' a=some (.frz o<|.dK kvs)/\Q v (upd H' a<|.dK kvs)
def QR(h:PE X e t):PE X e (xF t):=by
 intro j s σ H Q I ⟨a,kvs,b,q⟩;have hz:=I.unfrozen b;refine aQ (h j s σ H _ I q) <| by rintro u l ⟨x,H1,d,i,o,h1,f⟩;exact⟨x,_,d.thaw h1 hz,i,f⟩
def wU(D:cR)(a:Addr)(kvs:List (aG×V)):cR where
 nx:=λσ H=>∃o,H a=some (.frz o<|.dK kvs)/\D.nx σ (upd H a<|.dK kvs)
 rt:=λv H=>∃o,H a=some (.frz o<|.dK kvs)/\D.rt v (upd H a<|.dK kvs)
 bk:=λσ H=>∃o,H a=some (.frz o<|.dK kvs)/\D.bk σ (upd H a<|.dK kvs)
 ct:=λσ H=>∃o,H a=some (.frz o<|.dK kvs)/\D.ct σ (upd H a<|.dK kvs)
def xL(t:TS):TS:=λD σ H=>∃a kvs,H a=some (.dK kvs)/\t (wU D a kvs) σ H
def OW{st:Stmt}{t:TS}(h:PS X st t):PS X st (xL t):=by
 intro j s σ H D I ⟨a,kvs,i,q⟩;have hz:=I.unfrozen i;refine aQ (h j s σ H _ I q) λf l e=>?_;cases f with
 | next=>obtain⟨σ',H',b,o,h1,d⟩:=e;exact⟨σ',_,b.thaw h1 hz,d⟩
 | brk=>obtain⟨σ',H',b,o,h1,d⟩:=e;exact⟨σ',_,b.thaw h1 hz,d⟩
 | cont=>obtain⟨σ',H',b,o,h1,d⟩:=e;exact⟨σ',_,b.thaw h1 hz,d⟩
 | ret u=>obtain⟨v,σ',H',b,r,o,h1,d⟩:=e;exact⟨v,σ',_,b.thaw h1 hz,r,d⟩
end
def zM(K:Fq)(a:Addr):It:=
 ⟨λi H=>∃xs x,SqL K H a xs/\xs[i]?=some x,λi H x H'=>∃p y,H p=none/\x=.ref p/\H'=upd H p (.tup [.int i,y])/\∀xs,SqL K H a xs->xs[i]?=some y,λi H=>∃xs,SqL K H a xs/\↑xs<=i⟩
def YA{P:Program}{w:World}{K:Fq}{es:List Expr}{k:Nat}{pos:Pos}(a e it:Addr)(ad:e≠it):eS P w K (.Tuple es k pos) (zM K a) [e,it] e (λi h=>(∃old,IsEnum h e it i old)/\h.IsListIter it a i) where
 mem:=by simp
 obj:=λi h st b f=>by
  obtain⟨⟨old,he⟩,hi⟩:=st;rcases wm9.mp f with rfl | f
  .exact⟨_,he,λv z=>by
    have z':Data.fields _=Data.cell v:=z;cases z'⟩
  .have e:b=it:=by simpa using f
   subst e;obtain⟨o,e,c,d⟩:=hi;exact⟨o,e,λv z=>by rw[d]at z;cases z⟩
 keep:=λi h h' st kp=>by
  obtain⟨⟨old,he⟩,hi⟩:=st;exact⟨⟨old,kp e (by simp) _ he⟩,hi.at λo x=>kp it (by simp) o x⟩
 item:=by
  intro X hP hw Y j i a1 s σ H E I M st hg;subst hP hw Y;obtain⟨xs,x,T,B⟩:=hg;obtain⟨⟨old,he⟩,L⟩:=st;obtain⟨its,rv,p,hz⟩:=I.list T;obtain⟨u,hu,ru⟩:=rv.get B;obtain⟨f0,f1,f2,f3,f4,f5⟩:=M e (by simp);obtain⟨N,O,g2,g3,g4,Z⟩:=M it (by simp);have a7:e<s⁻¹:=bK he;have a9:it<s⁻¹:=by obtain⟨_,x,_⟩:=L;exact bK x
  refine wpAny_pyNext_enum_item he L p.isList (x:=u) (by simpa using hu) ad λh' ho aa hT hsz kk=>?_
  refine⟨_,rfl,wpAny_letOwnedTupleGo_enum (s:={s with heap:=h',toks:=s.toks+1}) ho λA a6 a2=>?_⟩;have ab:s⁻¹≠e:=dJ a7;have af:s⁻¹≠it:=dJ a9;have C:H s⁻¹=none:=I.hok.fresh<|aU _;have keep:∀b o,b≠e->b≠it->s.heap.get? b=some o->A.get? b=some o:=λb o h1 h2 e=>(a2.2 b h1).trans<|kk b o h1 h2 e;have J:∀b u,H b=some u->b≠e/\b≠it:=λb u W=>⟨λz=>(by rw[z,f0]at W;cases W),λz=>(by rw[z,N]at W;cases W)⟩
  have l:Inv X a1 σ H {s with heap:=A,toks:=s.toks+1}:=by
   refine I.step (g':=s.gens) (d':=s.drawn) (ch:=[e,it]) (λb f=>?_) (λb o _ _ j e _=>keep b o (λz=>j<|by simp[z]) (λz=>j<|by simp[z]) e) (λb o _ _ j e _=>⟨o.slots,keep b o (λz=>j<|by simp[z]) (λz=>j<|by simp[z]) e⟩)
    (λ_ _ _ _ n=>n) (λb o j e=>⟨o,keep b o (λz=>j<|by simp[z]) (λz=>j<|by simp[z]) e⟩) (λ_ _ e=>e) (λ_ _ _ e=>e) (λb ps e=>⟨#[],by rw[e];simp⟩) (λm hm=>?_) (λb u eq=>?_) I.bare
   .rcases wm9.mp f with rfl | f
    .exact⟨f3,f1,f4,f5⟩
    .have e:b=it:=by simpa using f
     subst e;exact⟨g3,O,g4,Z⟩
   .obtain⟨o,es,ep,ho,r⟩:=hm;exact⟨o,es,ep,keep _ o (bL f1) (bL O) ho,r⟩
   .refine(I.hok b u eq).stay (λc v j q=>keep c v ?_ ?_ q) (λ_ q=>q) λ_ _ q=>q
    .rcases j with z | z
     .rw[z];exact(J b u eq).1
     .exact(J c _ z).1
    .rcases j with z | z
     .rw[z];exact(J b u eq).2
     .exact(J c _ z).2
  have ac:A.get? s⁻¹=some {cls:=.type "tuple",data:=.seq #[.int i s.toks,u]}:=(a2.2 _ ab).trans hT;have I1:Inv X a1 σ (upd H s⁻¹<|.tup [.int i,x]) {s with heap:=A,toks:=s.toks+1}:=by
   have base:=l.base;have hok:HOk X.prog X.w (upd H s⁻¹<|.tup [.int i,x]) A:=by
    intro b z q
    by_cases f:b=s⁻¹
    .subst f;rw[zb1]at q;cases q;refine⟨⟨by show 2<=sizeLine;decide,_,ac,rfl⟩,[.int i s.toks,u],.cons ⟨_,rfl⟩<|.cons ru .nil,_,ac,rfl,_,rfl⟩
    .rw[aC f]at q;refine(l.hok b z q).stay (λc w' _ r=>r) (λc r=>?_) λc xs r=>?_
     .rw[aC<|aP r C];exact r
     .rw[aC<|aP r C];exact r
   have old:∀b o',X.s₀.heap.get? b=some o'->b≠s⁻¹:=λb o' e=>bU<|fM (bK e) I.sz;refine⟨l.ok,l.os,l.bare,⟨base.keep,base.slot,λb G q n B=>?_,base.there,λb ys q=>?_,λb G y q=>?_,λb ps q=>?_⟩,l.loc,l.cell,?_,λy c h=>?_,λp hp=>?_,hok,l.len⟩
   .rw[aC<|old b G q];exact base.free b G q n B
   .have:=base.tups b ys q;rw[aC<|aP this C];exact this
   .have:=base.frzs b G y q;rw[aC<|aP this C];exact this
   .obtain⟨m,this⟩:=base.tbls b ps q;exact⟨m,by rw[aC<|aP this C];exact this⟩
   .rw[aC<|bU I.lt];exact I.free
   .obtain⟨v,q⟩:=I.cell y c h;rw[aC<|bU q.lt];exact I.freeC y c h
   .obtain⟨h1,h2,h3⟩:=l.pin p hp;have:=bK (I.pin p hp).1;exact⟨h1,by rw[aC<|bU this];exact h2,h3⟩
  have a8:A.IsListIter it a (i+1):=aa.at λo y=>(a2.2 it ad.symm).trans y;have ae:IsEnum A e it ((i+1:Nat):Int) u:=by simpa using a6
  refine⟨.ref s⁻¹,_,I1,rfl,⟨_,x,C,rfl,rfl,λys hy=>by rw[I.list_inj hy T];exact B⟩,⟨⟨u,ae⟩,a8⟩,λb f=>?_⟩;rcases wm9.mp f with rfl | f
  .rw[aC<|bL ab];exact f0
  .have e:b=it:=by simpa using f
   subst e;rw[aC<|bL af];exact N
 done:=by
  intro X hP hw Y j i a1 s σ H E I M st hg;subst hP hw Y;obtain⟨xs,T,B⟩:=hg;obtain⟨⟨old,he⟩,L⟩:=st;obtain⟨its,rv,p,hz⟩:=I.list T;obtain⟨N,O,g2,g3,g4,Z⟩:=M it (by simp);have hl:=↑rv;refine wpAny_pyNext_enum_end (I.ok.hd j) he L p.isList (EE<|by simp;lia) λh' B=>⟨rfl,I.turned (t':=s.toks) (λb o f e=>B b o f e) N O g3 g4 Z⟩
 self:=λ_ _ _ _ _ st h=>by
  obtain⟨⟨old,he⟩,_⟩:=st;exact wpAny_pyIter_enum he h
def yM(K:Fq)(ta:TA):TI:=λσ H R=>ta σ H λvs H1=>∃a xs,vs=[.ref a]/\SqL K H1 a xs/\R (zM K a) H1
theorem boot_enumerate:bootBuiltins "enumerate"=some (.type "enumerate"):=by first | exact PySem.boot_enumerate | rfl
def Bc{X:Cx}{es:List Expr}{k:Nat}{B:Pos}{a:Expr}{ta:TA}{p pos:Pos}(n:Gl X "enumerate")(o:X.mg "enumerate"=none)(u:PA X [a] ta)(hs:starEach [a] X.env=[(false,eval a X.env)]:=by rfl):PI X (.Tuple es k B) (.Call (.Name "enumerate" p) [a] [] pos) (yM X.K ta):=by
 intro j s σ H R I h;refine Call_<|kL I n o boot_enumerate<|oB (aQ (u pos j s σ H _ I h) λus d ⟨vs,H1,f,E,x⟩=>?_) hs rfl;obtain⟨l,xs,e,m,q⟩:=x;subst e;cases E with
 | cons r rr=>
  cases rr;cases r;obtain⟨its,G,C,hz⟩:=f.list m;refine call_enumerate_list C.isList λh' he A hsz w=>?_;refine wpAny_pyIter_enum (s:={d with heap:=h'}) he ?_;have z:Inv X j σ H1 {d with heap:=h'}:=f.kept (t':=d.toks) w;refine⟨d⁻¹+1,[d⁻¹+1,d⁻¹],_,_,H1,rfl,z,YA l _ _<|Nat.succ_ne_self _,⟨⟨_,he⟩,A⟩,λb i=>?_,q⟩;rcases wm9.mp i with rfl | i
  .exact f.fpOk (nN _)<|f.hok.fresh<|nN _
  .have e:b=d⁻¹:=by simpa using i
   subst e;exact f.fpOk (aU _)<|f.hok.fresh<|aU _
def ZP(h:Q 0xFCA86420 {s with toks:=s.toks+1}):wpAny (model prog w) A (pyHash .none) Q E s:=by
 unfold pyHash pyHashByItsType;have a:[Value.none].any Value.onHeap=false:=rfl;refine aI ?_;rw[cRoomFor,aY<|by rw[a];exact fK];refine bE ?_;refine aI<|nZ (typeIs_none s) wz3.lookup ?_;show wpAny _ _ (if (some (Value.builtin "NoneType.__hash__") == some Value.none)=true then _ else _) Q E s;rw[aY<|by rw[beq_builtin_none];exact fK];refine aI<|nZ (typeIs_none s) wz3.lookup ?_;show wpAny _ _ (callSpecialIfBoundUnlessNone? .none "__hash__" _ >>= _) Q E s;refine aI (wpAny_callSpecialIfBoundUnlessNone?_slot (typeIs_none s) wz3 (jR wz3 (typeIs_none s) PySem.F.entry_NoneType_hash
   (show wpAny _ _ (do ret<|<-mkInt 0xFCA86420) _ _ s from wpAny_ret_mkInt ?_) (PySem.F.args_NoneType_hash_1 _)))
 show wpAny _ _ (if (decide (-(2:Int) ^ 63<=0xFCA86420) && decide ((0xFCA86420:Int)<2 ^ 63))=true then _ else _) Q E _;rw[bC<|by decide];exact bE h
def CO:Option aG->Value->Bool
 | some k,v=>iV k v
 | none,v=>match v with | .none=>true | _=>false
def lO(h:CO none v=true):v=.none:=by
 cases v <;> first | rfl | (simp[CO]at h)
def KA:iV k .none=false:=by cases k <;> rfl
def xI(w:World):Option aG->Int
 | some k=>yW w k
 | none=>0xFCA86420
def IA(prog:Program)(w:World):PySem.KeyKind prog w (Option aG) where
 is:=CO
 hash:=xI w
 inj:=λv a b ha hb=>by
  cases a with
  | none=>
   have e:=lO ha;subst e;cases b with
   | none=>rfl
   | some b=>have hb:iV b .none=true:=hb;rw[KA]at hb;cases hb
  | some a=>
   cases b with
   | none=>
    have e:=lO hb;subst e;have ha:iV a .none=true:=ha;rw[KA]at ha;cases ha
   | some b=>exact cK some<|(cB prog w).inj v a b ha hb
 byValue:=λk v h=>by
  cases k with
  | none=>rw[lO h];rfl
  | some k=>exact(cB prog w).byValue k v h
 pyHash:=λ{A E s k v Q} hv h=>by
  cases k with
  | none=>rw[lO hv];exact ZP h
  | some k=>exact(cB prog w).pyHash (k:=k) hv h
 eqBool:=λ{A E s a b u v Q} hu hv h=>by
  cases a with
  | none=>
   have e:=lO hu;subst e;cases b with
   | none=>
    have e:=lO hv;subst e;have h:Q true s:=by simpa using h
    exact SeqAt.EqAt.same _ _ _ _ _ h
   | some b=>
    have h:Q false s:=by simpa using h
    rcases iN hv with ⟨i,t,rfl,rfl⟩ | ⟨x,t,rfl,rfl⟩
    .exact SeqAt.EqAt.none_int _ _ _ _ _ _ h
    .exact SeqAt.EqAt.none_str _ _ _ _ _ _ h
  | some a=>
   cases b with
   | none=>
    have e:=lO hv;subst e;have h:Q false s:=by simpa using h
    rcases iN hu with ⟨i,t,rfl,rfl⟩ | ⟨x,t,rfl,rfl⟩
    .exact SeqAt.EqAt.int_none _ _ _ _ _ _ h
    .exact SeqAt.EqAt.str_none _ _ _ _ _ _ h
   | some b=>exact(cB prog w).eqBool (a:=a) (b:=b) hu hv (by simpa using h)
 «strs»:=λk x t v h=>by
  cases k with
  | none=>have:=lO h;cases this
  | some k=>exact(cB prog w).strs k x t v h
def QO{prog:Program}{w:World}{h:Heap}{a:Addr}{vs:List (aG×Value)}(d:h.DictOf (cB prog w) a vs):h.MapOf (IA prog w) a (λk=>k.bind<|valueAt vs):=by
 obtain⟨o,es,ep,e,c,b,i,hp,m⟩:=d;refine⟨o,es,ep,e,c,b,λx f=>?_,λk=>?_⟩
 .obtain⟨k,h1,h2⟩:=i x f;exact⟨some k,h1,h2⟩
 .cases k with
  | none=>
   show findBy CO es none=none;unfold findBy;rw[Array.find?_eq_none.mpr]
   .rfl
   .intro x f;obtain⟨k,h1,_⟩:=i x f;intro z;rw[lO z]at h1;have h1:iV k .none=true:=h1;rw[KA]at h1;cases h1
  | some k=>
   have q:=(Heap.DictOf.mapOf (knd:=cB prog w) ⟨o,es,ep,e,c,b,i,hp,m⟩);obtain⟨o',r,n,j,_,l,_,q⟩:=q;rw[e]at j;cases j;rw[b]at l;cases l;exact q k
section
variable{o e f:Expr}{apos cpos:Pos}{td ty tx:TE}
def lG(H:Hp)(a:Addr)(y:V)(r:Option V):Prop:=∃kvs,Rd H a (.dK kvs)/\((y=.non/\r=none)\/∃k,y=kV k/\r=aF kvs k)
def tE(td ty:TE):TE:=λσ H Q=>td σ H λx H1=>∃a,x=.ref a/\uX H1 a/\ty σ H1 λy H2=>∃o,lG H2 a y o/\Q (o.getD .non) H2
def sR(td ty tx:TE):TE:=λσ H Q=>td σ H λx H1=>∃a,x=.ref a/\uX H1 a/\ty σ H1 λy H2=>tx σ H2 λz H3=>∃o,lG H3 a y o/\Q (o.getD z) H3
def UN(r:X.A.units+1<cLine)(N:PE X o td)(he:PE X e ty)(m:M1 X o "get" apos e cpos):PE X (.Call (.Attribute o "get" apos) [e] [] cpos) (tE td ty):=by
 intro i s σ H Q I h;refine vE m.base m.few m.line wH kR BW<|aQ (N i s σ H _ I h) ?_;rintro u L ⟨x,H1,f,B,a,ex,d,E⟩;subst ex;obtain rfl:u=Value.ref a:=B;obtain⟨J,M,_⟩:=vB f d;exists J,M;rw[m.trees];refine nA rfl<|wG<|kU<|aQ (he i L σ H1 _ f E) λC s2 ⟨y,H2,b,l,O,g,j⟩=>tZ ?_;obtain⟨kvs,q,g⟩:=g;rcases g with ⟨rfl,rfl⟩ | ⟨k,rfl,rfl⟩
 .obtain rfl:C=Value.none:=l;obtain⟨z,hd,vs,P,n⟩:=kI b.hok q;exact nP kR n.typeIs vF (IW _ _) (meets_dict_get (IA X.prog X.w) a (k:=none) rfl hd) ⟨_,QO n,⟨.non,H2,b.tok _,rfl,j⟩⟩
 .exact LZ r b (.inl ⟨kvs,k,q,rfl,rfl⟩) l λT s3 G K=>⟨_,H2,G,K,j⟩
def ZY(C:X.A.units+1<cLine)(T:PE X o td)(he:PE X e ty)(W:PE X f tx)(m:M2 X o "get" apos e f cpos):PE X (.Call (.Attribute o "get" apos) [e,f] [] cpos) (sR td ty tx):=by
 intro i s σ H Q I h;refine vE m.base m.few m.line wH kR BW<|aQ (T i s σ H _ I h) ?_;rintro u N ⟨x,H1,l,E,a,ex,d,J⟩;subst ex;obtain rfl:u=Value.ref a:=E;obtain⟨L,P,_⟩:=vB l d;exists L,P;rw[m.trees];refine nA rfl (wG (kU (aQ (he i N σ H1 _ l J) λG s2 ⟨y,H2,K,q,O⟩=>
  kU (aQ (W i s2 σ H2 _ K O) λY s3 ⟨z,H3,b,n,ov,g,j⟩=>tZ ?_))))
 obtain⟨kvs,B,g⟩:=g;rcases g with ⟨rfl,rfl⟩ | ⟨k,rfl,rfl⟩
 .obtain rfl:G=Value.none:=q;obtain⟨_,hd,vs,a2,r⟩:=kI b.hok B;exact nP kR r.typeIs vF (IS _ _ _) (meets_dict_get_default (IA X.prog X.w) a (k:=none) rfl hd Y) ⟨_,QO r,⟨z,H3,b.tok _,n,j⟩⟩
 .exact SM C b (.inl ⟨kvs,k,B,rfl,rfl⟩) q n λw' s4 Z M=>⟨_,H3,Z,M,j⟩
def yK(td ty tx:TE):TE:=λσ H Q=>td σ H λx H1=>∃a,x=.ref a/\uX H1 a/\ty σ H1 λy H2=>tx σ H2 λz H3=>∃kvs k,H3 a=some (.dK kvs)/\y=kV k/\↑kvs<sizeLine/\
 (∀v,aF kvs k=some v->Q v H3)/\(aF kvs k=none->Q z (upd H3 a<|.dK<|aN kvs k z))
def Am(Y:PE X o td)(he:PE X e ty)(Z:PE X f tx)(m:M2 X o "setdefault" apos e f cpos):PE X (.Call (.Attribute o "setdefault" apos) [e,f] [] cpos) (yK td ty tx):=by
 intro j s σ H Q I h;refine vE m.base m.few m.line wH PySem.F.slot_dict_setdefault PySem.F.type_dict_setdefault<|aQ (Y j s σ H _ I h) ?_;rintro u N ⟨x,H1,r,J,a,ex,d,K⟩;subst ex;obtain rfl:u=Value.ref a:=J;obtain⟨M,W,_⟩:=vB r d;exists M,W;rw[m.trees];refine nA rfl (wG (kU (aQ (he j N σ H1 _ r K) λiv s2 ⟨y,H2,L,T,P⟩=>
  kU (aQ (Z j s2 σ H2 _ L P) λfv s3 ⟨z,H3,i,B,kvs,k,E,ey,hl,G,g2⟩=>tZ ?_))))
 subst ey;obtain⟨hz,hd,vs,l,C⟩:=vI i.hok E;have b:=l.val k;refine nP PySem.F.slot_dict_setdefault C.typeIs PySem.F.entry_dict_setdefault (PySem.F.args_dict_setdefault_3 _ _ _) (kt_meets_setdefault (cB X.prog X.w) a (iZ T) hd fv) ⟨vs,C,by rw[<-↑l];exact hz,λv n=>?_,λn h' A hs=>?_⟩
 .rw[n]at b;cases q:aF kvs k with
  | none=>rw[q]at b;exact False.elim b
  | some v'=>rw[q]at b;exact⟨v',H3,i.tok _,b,G v' q⟩
 .rw[n]at b;cases q:aF kvs k with
  | some v'=>rw[q]at b;exact False.elim b
  | none=>
   have he:∃q,h'.get? a=some q:=let ⟨q,_,_,hq,_⟩:=A;⟨q,hq⟩
   have O:↑(aN kvs k z)<=sizeLine:=by have:=jV kvs k z;lia
   exact⟨z,_,pO i (by rw[E];exact fW) hs he<|EB O hd (l.put k B) A,B,g2 q⟩
end
def VP:∀{us:List Value},↑xs=↑us->(∀(i:Nat) x u,xs[i]?=some x->us[i]?=some u->RelV x u)->Vals xs us:=by
 induction xs with
 | nil=>intro us hl h;cases us with
  | nil=>exact .nil
  | cons _ _=>simp at hl
 | cons x xs ih=>intro us hl h;cases us with
  | nil=>simp at hl
  | cons u us=>exact .cons (h 0 x u rfl rfl) (ih (by simpa using hl) λi x u h1 h2=>h (i+1) x u (by simpa using h1)<|by simpa using h2)
def YK(K:X.calm=true):CallR X (.type "list") (λxs H Q=>∃p kvs,xs=[.ref p]/\Rd H p (.dK kvs)/\∀l,H l=none->Q (.ref l) (upd H l<|.lst<|kvs.map λb=>kV b.1)):=by
 intro M s σ H xs us Q I r h;obtain⟨p,kvs,rfl,J,q⟩:=h;obtain⟨u,rfl,A⟩:=jA r;cases A;obtain⟨hz,C,hd⟩:=kI I.hok J;obtain⟨o,m⟩:∃o,s.heap.get? p=some o:=by obtain⟨vs,_,o,_,_,e,_⟩:=hd;exact⟨o,e⟩
 obtain⟨vs,ep,j,E⟩:=JJ m hd;have L:=↑j;refine PySem.W.kdl_call (PySem.W.kdl_dict (knd:=cB X.prog X.w) (kvs:=vs) (ep:=ep) (d:=p) C) (I.ok.hd K) (E _ m) (by lia) λh' tk a c' kp e f=>?_
 refine⟨.ref s⁻¹,_,I.laid (t':=tk) kp (aU _) (show ObjOk X.prog X.w _ h' _ (.lst<|kvs.map λb=>kV b.1) from ⟨by rw[aK];exact hz,a.toList,c',?_,by simpa using e⟩),rfl,q _<|I.hok.fresh<|aU _⟩;refine VP (by have h1:=f.1;have h2:↑a.toList=a.size:=EQ;rw[aK];lia) λi x u h1 h2=>?_
 obtain⟨k,y,G,B⟩:=f.2 i u (by rw[<-Array.getElem?_toList];exact h2);obtain⟨N,z,_⟩:=j.get G;rw[bN,z]at h1;cases h1;rcases iN B with ⟨n,t,rfl,rfl⟩ | ⟨n,t,rfl,rfl⟩
 .exact⟨t,rfl⟩
 .exact⟨t,rfl⟩
def QI{prog:Program}{w:World}{A:Around}{bs:List Bool}{its:List Value}(r:Vals (bs.map V.bl) its):TruthOf prog w A (λi v=>its.toArray[i]?=some v) (λi=>bs.getD i false):=by
 intro i v s Q E b a;have b:its[i]?=some v:=by simpa using b
 have hl:=↑r;rw[aK]at hl;obtain⟨hi,_⟩:=zz2.mp b;have d:bs[i]?=some bs[i]:=bD (by lia);obtain⟨u,f,h⟩:=r.get (i:=i) (x:=V.bl bs[i]) (by rw[bN,d];rfl);rw[b]at f;cases f;obtain rfl:v=Value.bool bs[i]:=h;have e:bs.getD i false=bs[i]:=by rw[fQ,d];rfl
 have a:Q (bs.getD i false) s:=a;rw[e]at a;exact rX a
def Ai(bs:List Bool):(List.range ↑bs).any (λi=>bs.getD i false)=bs.any id:=by
 rw[tR];simp only[vf5,List.mem_range]
 constructor
 .rintro⟨i,hi,h⟩;exists bs[i],iK hi;rw[fQ,bD hi]at h;exact h
 .rintro⟨b,a,h⟩;obtain⟨i,hi,e⟩:=lN a;exists i,hi;rw[fQ,bD hi,e];exact h
def XR(bs:List Bool):(List.range ↑bs).all (λi=>bs.getD i false)=bs.all id:=by
 rw[tR];simp only[wr1,List.mem_range]
 constructor
 .intro h b a;obtain⟨i,hi,e⟩:=lN a;have:=h i hi;rw[fQ,bD hi,e]at this;exact this
 .intro h i hi;rw[fQ,bD hi];exact h _<|iK hi
def Ak(C:X.calm=true):CallR X (.builtin "any") (λxs H Q=>∃(p:Addr)(bs:List Bool),xs=[.ref p]/\SqL X.K H p (bs.map V.bl)/\Q (.bl<|bs.any id) H):=by
 intro n s σ H xs us Q I r h;obtain⟨p,bs,rfl,j,q⟩:=h;obtain⟨u,rfl,i⟩:=jA r;cases i;obtain⟨its,d,a,hz⟩:=I.list j;have hl:=↑d;rw[aK]at hl;obtain⟨o,B,_⟩:=id a.isList;refine call_any_walk<|BY a.isList ?_;have w:p≠s⁻¹:=bU<|bK B;have l:Inv X n σ H {s with heap:=s.heap.push {cls:=.type "list_iterator",data:=.fields #[.ref p,.int 0 0]}}:=I.kept (t':=s.toks) λb o e=>bS _ e;refine⟨_,_,_,_,_,_,_,rfl,Walks.list (A:=X.A.in1) (I.ok.hd C) _ p w its.toArray,⟨⟨_,dD _ rfl,rfl,rfl⟩,a.isList.at λo e=>bS _ e⟩,QI d,λh' tk m=>?_⟩;rw[cO,<-hl,Ai];refine⟨.bl _,H,l.turned (t':=tk) (λb o f e=>m b o (by simpa using f) e) (I.hok.fresh<|aU _) (dJ I.lt) (.inr I.sz) (λx c e z=>?_) λp hp z=>?_,rfl,q⟩
 .obtain⟨v,q⟩:=I.cell x c e;exact absurd q.lt (by rw[z];exact iC _)
 .exact absurd (bK (I.pin p hp).1) (by rw[z];exact iC _)
def Av(C:X.calm=true):CallR X (.builtin "all") (λxs H Q=>∃(p:Addr)(bs:List Bool),xs=[.ref p]/\SqL X.K H p (bs.map V.bl)/\Q (.bl<|bs.all id) H):=by
 intro n s σ H xs us Q I r h;obtain⟨p,bs,rfl,j,q⟩:=h;obtain⟨u,rfl,i⟩:=jA r;cases i;obtain⟨its,d,a,hz⟩:=I.list j;have hl:=↑d;rw[aK]at hl;obtain⟨o,B,_⟩:=id a.isList;refine call_all_walk<|BY a.isList ?_;have w:p≠s⁻¹:=bU<|bK B;have l:Inv X n σ H {s with heap:=s.heap.push {cls:=.type "list_iterator",data:=.fields #[.ref p,.int 0 0]}}:=I.kept (t':=s.toks) λb o e=>bS _ e;refine⟨_,_,_,_,_,_,_,rfl,Walks.list (A:=X.A.in1) (I.ok.hd C) _ p w its.toArray,⟨⟨_,dD _ rfl,rfl,rfl⟩,a.isList.at λo e=>bS _ e⟩,QI d,λh' tk m=>?_⟩;rw[cO,<-hl,XR];refine⟨.bl _,H,l.turned (t':=tk) (λb o f e=>m b o (by simpa using f) e) (I.hok.fresh<|aU _) (dJ I.lt) (.inr I.sz) (λx c e z=>?_) λp hp z=>?_,rfl,q⟩
 .obtain⟨v,q⟩:=I.cell x c e;exact absurd q.lt (by rw[z];exact iC _)
 .exact absurd (bK (I.pin p hp).1) (by rw[z];exact iC _)
def ZV(r:Vals (ss.map V.str) its):StrsAre its ss:=by
 induction ss generalizing its with
 | nil=>cases r;exact .nil
 | cons x ss ih=>
  cases r with
  | cons h t=>obtain⟨tk,rfl⟩:=h;exact .cons _ _<|ih t
def Aw(r:StrsAre its ss):Vals (ss.map V.str) its:=by
 induction r with
 | nil=>exact .nil
 | cons _ _ _ ih=>exact .cons ⟨_,rfl⟩ ih
def YN:CallR X (.builtin "sorted") (λxs H Q=>∃(p:Addr)(ss:List Str),xs=[.ref p]/\SqL X.K H p (ss.map V.str)/\↑ss<64/\∀(l:Addr)(a:List Str),H l=none->a.Perm ss->sortedS a=true->Q (.ref l) (upd H l<|.lst<|a.map V.str)):=by
 intro x s σ H xs us Q I r h;obtain⟨p,ss,rfl,m,z,q⟩:=h;obtain⟨u,rfl,j⟩:=jA r;cases j;obtain⟨its,f,i,hz⟩:=I.list m;have hl:=↑f;rw[aK]at hl;refine sorted_strs i.isList (ZV f) (by lia) λd a h1 h2 n=>?_
 obtain⟨e,he⟩:=sortedAll_at s.heap its d;refine⟨.ref<|s⁻¹+1,_,I.laid (t':=s.toks) (λb o e=>sortedAll_old e) (nN _) (show ObjOk X.prog X.w _ _ _ (.lst<|a.map V.str) from ⟨?_,d.toList,e,Aw h1,by simpa [seqObj]using he⟩),rfl,q _ _ (I.hok.fresh<|nN _) h2 n⟩;rw[aK,h2.length_eq];rw[aK]at hz;exact hz
def IR(K:Fq):List V->Hp->VK->Prop:=λxs H Q=>∃x T t b,xs=[x,.ty T]/\eJ K H x t/\PySem.W.kitOne K t (.type T)=some b/\Q (.bl b) H
def pC:CallR X (.builtin "isinstance") (IR X.K):=by
 intro d s σ H xs us Q I r h;obtain⟨x,T,t,b,rfl,ty,a,q⟩:=h;cases r with
 | cons r1 rr=>
  cases rr with
  | cons r2 rr=>
   cases rr;cases (show _=Value.type T from r2);exact VD I r1 ty a λtk=>⟨.bl b,H,I.tok _,rfl,q⟩
def TK(I:Nat->Shared->Prop) (turn:∀n s,I n s->wpAny (model prog w) A (pyNext it) (λr a=>match r with
   | none=>R (.ok .next) a
   | some v=>wpAny (model prog w) A (letOwnedTupleGo target it v) (λ_ a=>wpAny (model prog w) A (assign target env v) (λ_ f=>
     wpAny (model prog w) A (forIn ifs true λc r=>if r=true then do let ok <-isTrue c env (eval c env);pure (ForInStep.yield ok) else pure (ForInStep.yield r)) (λok d=>
      if ok=true then wpAny (model prog w) A (eval kx env) (λo i=>wpAny (model prog w) A (eval vx env) (λl j=>
       wpAny (model prog w) A (dictSet DD o l) (λ_ q=>∃m,m<n/\I m q) (λ_ _=>False) j) (λ_ _=>False) i) (λ_ _=>False) d
      else ∃m,m<n/\I m d) (λ_ _=>False) f) (λ_ _=>False) a) (λ_ _=>False) a) (λ_ _=>False) s) (n:Nat) (h:I n s):
  codeAny (model prog w) A (.compLoop (.DictComp kx vx [⟨target,iter,ifs,0⟩] scope pos) 0 it (.ref DD) env) R s:=by
 refine codeAny_loop rfl I (λn s u=>?_) n h;show wpAny _ A ((compTurn (.DictComp kx vx [⟨target,iter,ifs,0⟩] scope pos) 0 it (.ref DD) env).onRaise (λx=>do noteFrame x env;theTreesLotGoes x)) _ _ s;refine wpAny_noted ?_;rw[compTurn_dict];refine aI<|mX<|aI<|fL (turn n s u) (λr a b=>?_) λ_ _ h'=>h'.elim;cases r with
 | none=>exact bE b
 | some v=>
  refine aI<|fL b (λ_ a b=>?_) λ_ _ h'=>h'.elim;refine aI<|fL b (λ_ f z=>aI<|fL z (λok d e=>?_) λ_ _ h'=>h'.elim) λ_ _ h'=>h'.elim;cases ok with
  | false=>exact bE ⟨rfl,e⟩
  | true=>
   exact aI<|aI<|fL e (λo i C=>aI<|iG<|fL C (λl j E=>aI<|mX<|iG<|fL E (λ_ q B=>bE ⟨rfl,B⟩) λ_ _ h'=>h'.elim) λ_ _ h'=>h'.elim) λ_ _ h'=>h'.elim
def ED(pt:Hp->Addr->V->V->(Hp->Prop)->Prop)(J:It)(g:TG)(tt:TT)(tk te:TE)(D:Addr)(σ0:St)(H0:Hp)(Q:Hp->Prop):Prop:=
 ∃W:Nat->Nat->St->Hp->Prop,(∃m,W 0 m σ0 H0)/\∀i m σ H,W i m σ H->
 (J.stop i H/\Q H)\/(J.go i H/\∃N:St->Hp->Prop,(∀σ' H',N σ' H'->∃m',m'<m/\W (i+1) m' σ' H')/\∀x H',J.yld i H x H'->g x σ H' λσ2 H2=>tt σ2 H2 λb H3=>
  if b=true then tk σ2 H3 λkx H4=>te σ2 H4 λv H5=>pt H5 D kx v λH6=>N σ2 H6 else N σ2 H3)
structure AT(X:Cx)(o0:Addr->HO)(pt:Hp->Addr->V->V->(Hp->Prop)->Prop):Prop where
 new:∀(h:Heap)(H:Hp),sysModules<h.objs.size->ObjOk X.prog X.w H (h.push {cls:=.type "dict",data:=.dict #[]}) h.objs.size (o0 h.objs.size)
 put:∀(Y:Cx),Y.prog=X.prog->Y.w=X.w->Y.K=X.K->Y.A=X.A->∀(pins:List (Addr×Obj))(s:Shared)(σ:St)(H:Hp)(D:Addr)(k:V)(u:Value)(v:V)(y:Value)(R:Hp->Prop),Inv Y pins σ H s->RelV k u->RelV v y->pt H D k v R->
  wpAny (model X.prog X.w) X.A (dictSet D u y) (λ_ s'=>∃H',Inv Y pins σ H' s'/\R H') (λ_ _=>False) s
def VZ:Hp->Addr->V->V->(Hp->Prop)->Prop:=λH D kx v R=>∃kvs k,kx=kV k/\H D=some (.dK kvs)/\↑kvs<sizeLine/\R (upd H D<|.dK<|aN kvs k v)
def MI{X:Cx}:AT X (λ_=>.dK []) VZ where
 new h H z:=FD h z
 put Y e1 e2 e3 e4 pins s σ H D kx u v y R I rk rv h:=by
  obtain⟨kvs,k,f,b,hl,q⟩:=h;subst f;rw[<-e1,<-e2];obtain⟨z,hd,vs,d,i⟩:=vI I.hok b;have hz:↑vs<=sizeLine:=by rw[<-↑d];exact z
  have e:↑(aN kvs k v)<=sizeLine:=by have:=jV kvs k v;lia
  refine wpAny_dictSet_pairs (knd:=cB Y.prog Y.w) (hsz:=hz) (iZ rk) i λh' a hs=>?_;exact⟨_,pO (t':=s.toks+1) I (by rw[b];exact fW) hs (let ⟨q,_,_,hq,_⟩:=a;⟨q,hq⟩)<|EB e hd (d.put k rv) a,q⟩
section
variable{scope:Scope}{N':List Str}{src:List (Option Nat)}{pins:List (Addr×Obj)}{σ:St}{H2:Hp}{s2:Shared}
def SO{kx vx tg a8:Expr}{aa:List Expr}{pos:Pos}{it:Addr}{fp:List Addr}{N:Nat->Heap->Prop}{J:It}{g:TG}{tt:TT}{ah te:TE}{Q:Addr->Hp->Prop}
  {RR:Value->Addr->Result->Shared->Prop} {E:Vp} {l:Addr->HO} {pt:Hp->Addr->V->V->(Hp->Prop)->Prop} (hp:AT X l pt) (hc:X.calm=true)
  (B:BlkN X scope N' src) (as:∀x k,(x,k)∈scope.names->k=.free->∀k',(x,k')∈scope.names->k'=.free) (T:eS X.prog X.w X.K tg J fp it N) (I:Inv X pins σ H2 s2) (h0:N 0 s2.heap) (H:∀b∈fp,dN X pins H2 b)
  (hg:∀s3 H3 C,PG (cQ X scope N' s3 H3 C fp) tg g) (ht:∀s3 H3 C,oE (cQ X scope N' s3 H3 C fp) aa tt) (hk:∀s3 H3 C,PE (cQ X scope N' s3 H3 C fp) kx ah) (he:∀s3 H3 C,PE (cQ X scope N' s3 H3 C fp) vx te)
  (hw:∀D,H2 D=none->ED pt J g tt ah te D (sub src σ) (upd H2 D<|l D) (Q D))
  (hQ:∀D C H' s',C≠D->(∃m,s'.heap.Ns C m)->(∀ad ,Heap.SameBut C s'.heap ad->Inv X pins σ H' {s' with heap:=ad})->Inv X pins σ H' s'->H' C=none->C≠X.env.locals->(∀x c,X.env.cells.lookup x=some c->c≠C)->X.s₀⁻¹<=C->(∀p∈X.pn++pins,p.1≠C)->Q D H'->RR (.ref D) C (.ok .next) s'):
  wpAny (model X.prog X.w) X.A (newDict) (λam O=>wpAny (model X.prog X.w) X.A (newFunctionEnv scope X.env.globals (bZ X.env scope.names) [] X.env.qual none .none<|some X.env) (λa6 s₄=>
   codeAny (model X.prog X.w) X.A (.compStart (.DictComp kx vx [⟨tg,a8,aa,0⟩] scope pos) 0 (.ref it) am {a6 with scope:=relabel scope X.env}) (RR am a6.locals) s₄) E O) E s2:=by
 have a7:∀y∈scope.names,y.2≠.cell:=λy hy=>cN<|wr1.mp B.nocell y hy;refine jO<|wpAny_newFunctionEnv a7 (by intro y hy;simp at hy) (λZ a2 a4=>?_) B.kind;dsimp only at a2 a4 ⊢;have ay:H2 s2⁻¹=none:=I.hok.fresh<|aU _;have G:Inv X pins σ (upd H2 s2⁻¹<|l s2⁻¹) {s2 with heap:=s2.heap.push {cls:=.type "dict",data:=.dict #[]}}:=
  I.laid (t':=s2.toks) (λb o e=>bS _ e) (aU _) (hp.new s2.heap _ I.big)
 generalize hH3:(s2.heap.push {cls:=.type "dict",data:=.dict #[]})=f at a2 a4 G ⊢;have af:f.objs.size=s2⁻¹+1:=by rw[<-hH3,oH]
 have a5:∀b o,s2.heap.get? b=some o->f.get? b=some o:=λb o e=>by rw[<-hH3];exact bS _ e
 have a1:∀b o,f.get? b=some o->Z.get? b=some o:=λb o e=>a4.extBut b o (bU<|bK e)<|bS _ e;have a3:s2⁻¹<f.objs.size:=by rw[af];exact wM _
 have ai:∀b∈fp,dN X pins (upd H2 s2⁻¹<|l s2⁻¹) b:=λb j=>by
  obtain⟨o,e,_⟩:=T.obj _ _ h0 b j;refine⟨?_,(H b j).2⟩;rw[aC<|bU<|bK e];exact(H b j).1
 have a9:∀b∈fp,b<f.objs.size:=λb j=>by
  obtain⟨o,e,_⟩:=T.obj _ _ h0 b j;exact gE (bK e) a3
 have au:=PP (fp:=fp) (C:=f.objs.size) (s4:={s2 with heap:=Z,toks:=s2.toks+↑([]:List (Str×Value))}) B G ai a9 as rfl a2 a1 rfl rfl;have aj:N 0 Z:=T.keep _ _ _ h0 λb j o e=>a1 b o<|a5 b o e;obtain⟨W,⟨m0,w0⟩,turn⟩:=hw s2⁻¹ ay;have ac:∀{H':Hp},(∀b∈fp,H' b=none)->∀b∈fp,dN (cQ X scope N' {s2 with heap:=f} (upd H2 s2⁻¹<|l s2⁻¹) f.objs.size fp) [] H' b:=λhn b j=>by
  refine⟨hn b j,bU<|a9 b j,?_,.inl j,λx c h=>(H b j).2.2.2.2.1 x c (B.back I.ok h).1,λp hp=>absurd (show p∈([]:List (Addr×Obj)) from hp)<|by simp⟩;intro z;rcases wm9.mp (G.stkSub b z)with y | y
  .exact(H b j).2.1 y
  .exact(H b j).2.2.1 y
 have b4:∀(s':Shared)(σ':St)(H':Hp),Inv (cQ X scope N' {s2 with heap:=f} (upd H2 s2⁻¹<|l s2⁻¹) f.objs.size fp) [] σ' H' s'->Q s2⁻¹ H'->RR (.ref s2⁻¹) f.objs.size (.ok .next) s':=λs' σ' H' M q=>by
  obtain⟨hh,gg,dd,ae,b9⟩:=s';have ax:b9=s2.os:=M.os;subst ax;have IX:Inv X pins σ H' {({s2 with heap:=f}:Shared)with heap:=hh,gens:=gg,drawn:=dd,toks:=ae}:=Inv.call (s:={s2 with heap:=f}) G (h':=hh) (g':=gg) (d':=dd) (t':=ae) (ch:=fp) M.base M.hok M.bare λb j=>⟨(H b j).2.2.2.1,(H b j).2.1,(H b j).2.2.2.2.1,(H b j).2.2.2.2.2⟩;have ba:s2⁻¹<=f.objs.size:=cL a3;have an:f.objs.size≠X.env.locals:=dJ G.lt;have al:∀x c,X.env.cells.lookup x=some c->c≠f.objs.size:=λx c e z=>by
   obtain⟨v,q⟩:=G.cell x c e;exact absurd (show c<f.objs.size from q.lt) (by rw[z];exact iC _)
  have ak:∀p∈X.pn++pins,p.1≠f.objs.size:=λp hp z=>by
   have:=bK (G.pin p hp).1;exact absurd (show p.1<f.objs.size from this) (by rw[z];exact iC _)
  have ag:H' f.objs.size=none:=M.free;obtain⟨m,hm,_⟩:=M.loc;refine hQ _ _ H' _ (dJ a3) ⟨m,hm⟩ (λad sb=>?_) IX ag an al (gC G.sz<|aU _) ak q;exact IX.turned (t':=ae) (λb o j e=>(sb.2 b j).trans e) ag an (.inr<|gC G.sz<|aU _) al ak
 have L:∀O:Shared,O={s2 with heap:=Z,toks:=s2.toks+↑([]:List (Str×Value))}->
   codeAny (model X.prog X.w) X.A (.compLoop (.DictComp kx vx [⟨tg,a8,aa,0⟩] scope pos) 0 (.ref it) (.ref s2⁻¹)<|compEnvC scope (bZ X.env scope.names) f.objs.size X.env)
    (RR (.ref s2⁻¹) f.objs.size) O:=by
  rintro O rfl;refine TK (λn s'=>∃i σ' H',Inv (cQ X scope N' {s2 with heap:=f} (upd H2 s2⁻¹<|l s2⁻¹) f.objs.size fp) [] σ' H' s'/\N i s'.heap/\(∀b∈fp,H' b=none)/\W i n σ' H') ?_ m0 ⟨0,_,_,au,aj,λb j=>(ai b j).1,w0⟩;rintro n s5 ⟨i,σ5,H5,I5,ao,ap,w5⟩;rcases turn i n σ5 H5 w5 with ⟨stop,qn⟩ | ⟨go,Nx,hN,step⟩
  .refine aQ (T.done (cQ X scope N' {s2 with heap:=f} (upd H2 s2⁻¹<|l s2⁻¹) f.objs.size fp) rfl rfl rfl hc i [] s5 σ5 H5 _ I5 (ac ap) ao stop) ?_;rintro r s6 ⟨hr,I6⟩;subst hr;exact b4 s6 σ5 H5 I6 qn
  .refine aQ (T.item (cQ X scope N' {s2 with heap:=f} (upd H2 s2⁻¹<|l s2⁻¹) f.objs.size fp) rfl rfl rfl hc i [] s5 σ5 H5 _ I5 (ac ap) ao go) ?_;rintro r s6 ⟨u,hr,h6⟩;subst hr;refine aQ h6 ?_;rintro _ s7 ⟨x,H7,I7,r7,y7,ab,aq⟩;have b6:=I7.pinned (ac aq)<|T.obj _ _ ab;refine aQ (hg _ _ _ _ s7 σ5 H7 x u _ b6 r7<|step x H7 y7) ?_;rintro _ s8 ⟨σ8,H8,I8,q8⟩;refine aQ (ht _ _ _ _ s8 σ8 H8 _ I8 q8) ?_;rintro ok s9 ⟨H9,I9,q9⟩;have again:∀{σa:St}{P:Hp}{Y:Shared},Inv (cQ X scope N' {s2 with heap:=f} (upd H2 s2⁻¹<|l s2⁻¹) f.objs.size fp) ([]++vV fp s7.heap) σa P Y->Nx σa P->
     ∃m,m<n/\∃i σ' H',Inv (cQ X scope N' {s2 with heap:=f} (upd H2 s2⁻¹<|l s2⁻¹) f.objs.size fp) [] σ' H' Y/\N i Y.heap/\(∀b∈fp,H' b=none)/\W i m σ' H':=λ{σa P Y} Ia na=>by
    obtain⟨m',hm,wa⟩:=hN σa P na;refine⟨m',hm,i+1,σa,P,Ia.unpinned,T.keep _ _ _ ab λb j o e=>(Ia.pin (b,o)<|fY _<|fY _<|vM j e).1,λb j=>?_,wa⟩;obtain⟨o,e,d⟩:=T.obj _ _ ab b j;exact(Ia.pin (b,o)<|fY _<|fY _<|vM j e).2.1
   cases ok with
   | false=>exact again I9 q9
   | true=>
    refine aQ (hk _ _ _ _ s9 σ8 H9 _ I9 q9) ?_;rintro kv av ⟨kk,b7,b2,rk,b8⟩;refine aQ (he _ _ _ _ av σ8 b7 _ b2 b8) ?_;rintro y b1 ⟨v,ar,b5,az,aw⟩;refine fL (hp.put (cQ X scope N' {s2 with heap:=f} (upd H2 s2⁻¹<|l s2⁻¹) f.objs.size fp) rfl rfl rfl rfl _ b1 σ8 ar _ kk kv v y _ b5 rk az aw) ?_ λ_ _ h=>h;rintro _ bc ⟨bb,b0,b3⟩;exact again b0 b3
 exact codeAny_compStart_dict (L _ rfl)<|T.self _ 0 _ _ _ aj<|L _ rfl
def SN(o0:Addr->HO)(pt:Hp->Addr->V->V->(Hp->Prop)->Prop)(wi:TI)(src:List (Option Nat))(g:TG)(tt:TT)(tkx te:TE):TE:=λσ H Q=>wi σ H λJ H2=>∀D,H2 D=none->ED pt J g tt tkx te D (sub src σ) (upd H2 D<|o0 D) λH'=>Q (.ref D) H'
def PX{n:Addr->HO}{pt:Hp->Addr->V->V->(Hp->Prop)->Prop}(hp:AT X n pt)(hc:X.calm=true)(B:BlkN X scope N' src)(hi:PI X tg iter wi)(u:∀s3 H3 C fp,PG (cQ X scope N' s3 H3 C fp) tg g)(O:∀s3 H3 C fp,oE (cQ X scope N' s3 H3 C fp) ifs tt)(f:∀s3 H3 C fp,PE (cQ X scope N' s3 H3 C fp) kx tkx)(he:∀s3 H3 C fp,PE (cQ X scope N' s3 H3 C fp) vx te)(G:(scope.names.all λy=>decide (y.2=.free->∀z∈scope.names,z.1=y.1->z.2=.free))=true:=by rfl')(hs:∀x,foldedSetIterable iter X.env x=pure x:=by intro _;rfl):
  PE X (.DictComp kx vx [⟨tg,iter,ifs,0⟩] scope pos) (SN n pt wi src g tt tkx te):=by
 intro l s σ H Q I h;have W:∀x k,(x,k)∈scope.names->k=.free->∀e,(x,e)∈scope.names->e=.free:=λx k d f e o=>cN (wr1.mp G (x,k) d) f (x,e) o rfl;have N:closureFor scope X.env=pure (bZ X.env scope.names):=CN λy j i=>I.ok.has y.1<|cN (wr1.mp B.frees y j) i;have L:∀y∈scope.names,y.2=.local->scope.names.lookup y.1=some .local:=λy j=>cN<|wr1.mp B.locs y j;rw[arm_eval_DictComp];refine EK (use:=none) rfl hs N B.kind L<|aQ (hi l s σ H _ I h) λxv s₁ r=>aQ r λad s2 h2=>?_;obtain⟨it,fp,tn,J,H2,rfl,K,T,h0,i,Z⟩:=h2;refine SO (RR:=λP C=>compPost (model X.prog X.w) X.A X.xe none (EP X l σ Q) P C) (Q:=λD H'=>Q (.ref D) H') hp hc B W T K h0 i (λa b c=>u a b c fp) (λa b c=>O a b c fp) (λa b c=>f a b c fp) (λa b c=>he a b c fp) Z ?_;intro D C H' s' ac d M IX aa ae ab af a9 q;obtain⟨m,d⟩:=d;exact⟨m,d,λE Y=>⟨.ref D,H',M E Y,rfl,q⟩⟩
def YM{E:Addr->HO}{pt:Hp->Addr->V->V->(Hp->Prop)->Prop}(hp:AT X E pt)(hc:X.calm=true)(hN:X.N.Nodup)(ab:X.N[i]?=some y)(f:X.env.scope.names.lookup y=some .local)(B:BlkN X scope N' src)(hi:PI X tg iter wi)(hg:∀s3 H3 C fp,PG (cQ X scope N' s3 H3 C fp) tg g)(ht:∀s3 H3 C fp,oE (cQ X scope N' s3 H3 C fp) ifs tt)(n:∀s3 H3 C fp,PE (cQ X scope N' s3 H3 C fp) kx tkx)(he:∀s3 H3 C fp,PE (cQ X scope N' s3 H3 C fp) vx te)(ag:swapsWith (.DictComp kx vx [⟨tg,iter,ifs,0⟩] scope pos) (some<|.Name y py) spos.line X.env=pure true:=by rfl)(a8:(scope.names.all λy=>decide (y.2=.free->∀z∈scope.names,z.1=y.1->z.2=.free))=true:=by rfl')(hs:∀x,foldedSetIterable iter X.env x=pure x:=by intro _;rfl):
  PS X (.Assign [.Name y py] (.DictComp kx vx [⟨tg,iter,ifs,0⟩] scope pos) spos) (fO (SN E pt wi src g tt tkx te)<|bW i):=by
 intro u s σ H D I h;have W:∀x k,(x,k)∈scope.names->k=.free->∀l,(x,l)∈scope.names->l=.free:=λx k j n l a9=>cN (wr1.mp a8 (x,k) j) n (x,l) a9 rfl;have a2:closureFor scope X.env=pure (bZ X.env scope.names):=CN λy f r=>I.ok.has y.1<|cN (wr1.mp B.frees y f) r;have a1:∀y∈scope.names,y.2=.local->scope.names.lookup y.1=some .local:=λy f=>cN<|wr1.mp B.locs y f;rw[exec_Assign_Name_used _ _ _ _ ag];refine aI<|mX<|aI ?_;show wpAny _ X.A (do let _ <-comprehension (.DictComp kx vx [⟨tg,iter,ifs,0⟩] scope pos) scope X.env _ (newDict) false (eval iter X.env) (some<|assign (.Name y py) X.env)) _ _ s;have h':wi σ H λJ H2=>∀d,H2 d=none->ED pt J g tt tkx te d (sub src σ) (upd H2 d<|E d) λH'=>D.nx (σ.set i<|some<|.ref d) H':=h;refine aI<|fL (EK (use:=some<|assign (.Name y py) X.env) (Q:=λ_ s'=>SP X u D .next s') rfl hs a2 B.kind a1<|aQ (hi u s σ H _ I h') λxv s₁ O=>aQ O λak s2 h2=>?_) (λ_ s' hq=>bE<|bE hq) λ_ _ e=>e
 obtain⟨it,fp,tn,J,H2,rfl,I2,T,h0,r,hw⟩:=h2;refine SO (RR:=λaf C=>compPost (model X.prog X.w) X.A X.xe (some<|assign (.Name y py) X.env) (λ_ s'=>SP X u D .next s') af C) (Q:=λd H'=>D.nx (σ.set i<|some<|.ref d) H') hp hc B W T I2 h0 r (λa b c=>hg a b c fp) (λa b c=>ht a b c fp) (λa b c=>n a b c fp) (λa b c=>he a b c fp) hw ?_;intro d C H' s' aj j am L P G K aa M q;obtain⟨m,j⟩:=j;show wpAny _ X.A (assign (.Name y py) X.env<|.ref d) _ _ _;refine wpAny_assign_Name ?_;refine JE (v:=.ref d) L hN ab (.inl f) rfl (λY ad a3=>?_)<|.inr f;obtain⟨a,Z,ha⟩:=a3;have ai:C≠a:=by
  rintro rfl;rcases ha with z | z
  .exact G z
  .exact K _ _ z rfl
 refine⟨m,j.sameBut Z ai,λal sb=>⟨_,H',?_,q⟩⟩;exact ad.turned (t':=Y.toks) (λb o hb e=>(sb.2 b hb).trans e) P G (.inr aa) K M
end
def AS(hi:Int)(n:Nat):It:=⟨λi _=>i<n,λi H x H'=>H'=H/\x=.int (hi-i),λi _=>n<=i⟩
def UJ{P:Program}{w:World}{K:Fq}{tg:Expr}(it:Addr)(hi:Int)(n:Nat):eS P w K tg (AS hi n) [it] it (λi h=>IsRangeIter h it (hi+(i:Nat)*-1) ((n:Int)-(i:Nat))<|-1) where
 mem:=by simp
 obj:=λi h st b a=>by
  have e:b=it:=by simpa using a
  subst e;exact⟨_,st,λv z=>by
   have N:Data.fields _=Data.cell v:=z;cases N⟩
 keep:=λi h h' st k=>k it (by simp) _ st
 item:=by
  intro X q x f A i C s σ H E I d st j;subst q x f;obtain⟨r,u,O,B,l,m⟩:=d it (by simp);have W:=Walks.range (prog:=X.prog) (w:=X.w) (I.ok.hd A) it hi (-1) n;refine W.item i s _ _ j st λv h' tk T G L=>?_;obtain⟨t,rfl⟩:=T;have J:Inv X C σ H {s with heap:=h',toks:=tk}:=I.turned (λb o a e=>L b o (by simpa using a) e) r u B l m;refine⟨_,rfl,rK (s:={s with heap:=h',toks:=tk}) (n:="range_iterator") G rfl rfl (by decide) ⟨.int<|hi-i,H,J,⟨t,?_⟩,⟨rfl,rfl⟩,G,λb a=>(d b a).1⟩⟩;have e:hi+(i:Int)*-1=hi-i:=by lia
  rw[e]
 done:=by
  intro X q x f A i C s σ H E I d st j;subst q x f;obtain⟨r,u,O,B,l,m⟩:=d it (by simp);exact wpAny_pyNext_range_end (I.ok.hd A) st (by have:n<=i:=j;lia) λh' M=>⟨rfl,I.turned (t':=s.toks) (λb o a e=>M b o a e) r u B l m⟩
 self:=λ_ _ _ _ _ st h=>wpAny_pyIter_rangeiter st h
def Bf(i:-(2 ^ 30)<=a)(d:a<2 ^ 30)(f:-(2 ^ 30)<=b)(h:b<2 ^ 30):Builtin.Range.small a b (-1)=true:=by
 unfold Builtin.Range.small;have e:Builtin.Range.rangeSize a b (-1)=if a > b then a-b else 0:=by
  unfold Builtin.Range.rangeSize;simp only[show ¬((-1:Int) > 0) by decide,iW,show -(-1:Int)=1 by decide,Int.ediv_one]
  split <;> lia
 rw[e];simp only[Builtin.Range.rangeFitsLong,tH,Bool.or_eq_true,decide_eq_true_eq,beq_iff_eq,show ¬((-1:Int) > 0) by decide,iW]
 split <;> lia
def AE(ta:TA):TI:=λσ H R=>ta σ H λvs H1=>∃i j:Int,vs=[.int i,.int j,.int<|-1]/\(-(2 ^ 30)<=i/\i<2 ^ 30/\-(2 ^ 30)<=j/\j<2 ^ 30)/\R (AS i (i-j).toNat) H1
def SU(B:Gl X "range")(C:X.mg "range"=none)(E:PA X [a,b,c] ta)(hs:starEach [a,b,c] X.env=[(false,eval a X.env),(false,eval b X.env),(false,eval c X.env)]:=by rfl)(m:starEach [b,c] X.env=[(false,eval b X.env),(false,eval c X.env)]:=by rfl):PI X tg (.Call (.Name "range" p) [a,b,c] [] pos) (AE ta):=by
 intro n s σ H R I h;refine Call_ (kL I B C boot_range<|oB (aQ (E pos n s σ H _ I h) λus d ⟨vs,H1,G,L,f⟩=>?_) (by rw[hs,m])<|by rw[m];rfl);obtain⟨i,j,e,⟨f,z,A,x⟩,q⟩:=f;subst e;cases L with
 | cons r rr=>
  cases rr with
  | cons r' rr=>
   cases rr with
   | cons r'' rr=>
    cases rr;obtain⟨t,rfl⟩:=r;obtain⟨t',rfl⟩:=r';obtain⟨u,rfl⟩:=r'';refine call_range_3 (by decide) ?_ (eM<|PyProof.noPylong_small<|by decide);refine wpAny_pyIter_range (IsRange.new ..) (Bf f z A x) ?_;have l:Inv X n σ H1 {d with heap:=d.heap.push {cls:=.type "range",data:=.fields #[.int i t,.int j t',.int (-1) u]},toks:=d.toks}:=G.kept λb o e=>bS _ e;refine⟨_,[_],_,_,H1,rfl,l.kept (t':=d.toks) λb o e=>bS _ e,UJ _ i (i-j).toNat,?_,λb w=>?_,q⟩
    .have K:i+((0:Nat):Int)*-1=i:=by lia
     have J:(((i-j).toNat:Nat):Int)-((0:Nat):Int)=Builtin.Range.rangeSize i j (-1):=by
      unfold Builtin.Range.rangeSize;simp only[show ¬((-1:Int) > 0) by decide,iW,show -(-1:Int)=1 by decide,Int.ediv_one]
      split <;> lia
     show IsRangeIter _ _ (i+((0:Nat):Int)*-1) ((((i-j).toNat:Nat):Int)-((0:Nat):Int))<|-1;rw[K,J];exact dD _ rfl
    .rw[wn1.mp w];exact l.fpOk (aU _)<|l.hok.fresh<|aU _
def Ae{hi:Int}{n:Nat}{g:TG}{tb:TS}{D:cR}{σ:St}{H:Hp}(a:Nat->St->Hp->Prop)(h0:a 0 σ H)
  (hs:∀i σ H,i<n->a i σ H->g (.int<|hi-i) σ H λσ2 H2=>tb {D with nx:=a<|i+1,ct:=a<|i+1,bk:=D.nx} σ2 H2) (hd:∀σ H,a n σ H->D.nx σ H):
  ∃W:Nat->Nat->St->Hp->Prop,(∃m,W 0 m σ H)/\∀i m σ H,W i m σ H->
   ((AS hi n).stop i H/\D.nx σ H)\/((AS hi n).go i H/\∃N:St->Hp->Prop,(∀σ' H',N σ' H'->∃m',m'<m/\W (i+1) m' σ' H')/\∀x H',(AS hi n).yld i H x H'->g x σ H' λσ2 H2=>tb {D with nx:=N,ct:=N,bk:=D.nx} σ2 H2):=by
 exists λi m σ H=>m=n-i/\i<=n/\a i σ H,⟨n,by simp,bM _,h0⟩;rintro i m σ H ⟨rfl,hi,p⟩
 by_cases b:i<n
 .refine .inr ⟨b,a<|i+1,λσ' H' d=>⟨n-(i+1),by lia,rfl,b,d⟩,λx H' y=>?_⟩;obtain⟨e,y⟩:=y;subst e y;exact hs i σ _ b p
 .have e:i=n:=by lia
  subst e;exact .inl ⟨aU _,hd σ H p⟩
def IQ:V->Option Int->Option Int->Hp->VK->Prop:=λx lo hi H Q=>∃z,x=.str z/\↑z<=sizeLine/\Q (.str<|Txt.slice z lo hi) H
def SC:EH X IQ:=by
 intro n s σ H x v C B lo hi f Q I r hs o d h;obtain⟨z,rfl,hz,q⟩:=h;obtain⟨t,rfl⟩:=r;exists "str",_,F.slot_str_getitem.lookup,typeIs_str _ _ _;have a:∀(l u:Option (Int×Tok)),s.heap.IsSlice f l u none->l.map (·.1)=lo->u.map (·.1)=hi->wpAny (model X.prog X.w) X.A (getItem (.str z t)<|.ref f) (EP X n σ Q) X.xe s:=λl u m e b=>by
  refine wpAny_getItem_str_slice (l:=l) (u:=u) (st:=none) m rfl<|post_val_or_str ⟨?_,λt' k=>?_⟩
  .have:=Txt.slice_le z lo hi;rw[<-e,<-b]at this;exact gC this hz
  .refine⟨.str<|Txt.slice z lo hi,H,I.tok _,⟨t',?_⟩,q⟩;rw[<-e,<-b];rfl
 cases o with
 | none=>cases d with
  | none=>exact a none none hs rfl rfl
  | int j tj=>exact a none (some (j,tj)) hs rfl rfl
 | int i ti=>cases d with
  | none=>exact a (some (i,ti)) none hs rfl rfl
  | int j tj=>exact a (some (i,ti)) (some (j,tj)) hs rfl rfl
def wT:R2:=λx y H Q=>∃z n,x=.str z/\y=.int n/\(n=0\/n=1)/\Q (.str<|if n=0 then Str.empty else z) H
def ZJ:cX X (binaryOp .Mult) wT:=by
 intro f s σ H x y v u Q I d e h;obtain⟨z,n,rfl,rfl,a,q⟩:=h;obtain⟨t,rfl⟩:=d;obtain⟨t',rfl⟩:=e;refine SB.mul ⟨?_,?_,?_⟩ λb k=>⟨.str<|Txt.mul z n,H,I.tok _,⟨b,rfl⟩,?_⟩
 .rcases a with rfl | rfl <;> decide
 .rcases a with rfl | rfl
  .intro h;exact absurd (by decide) h
  .intro _ h;simp at h
 .rcases a with rfl | rfl
  .intro h;exact absurd (by decide) h
  .intro _ h;simp at h
 .rcases a with rfl | rfl
  .exact q
  .exact q
def zQ(K:Fq)(neg:Bool):R2:=λx y H Q=>∃a b xs,x=.ref a/\y=.ref b/\a≠b/\SqL K H a xs/\SqL K H b []/\Q (.bl<|xs.isEmpty != neg) H
def PY(d:X.A.units<cLine):cX X (compareOp .Eq) (zQ X.K false):=by
 intro m s σ H x y v u Q I f i h;obtain⟨a,b,xs,rfl,rfl,n,h1,h2,q⟩:=h;cases f;cases i;obtain⟨its,r,p,hz⟩:=I.list h1;obtain⟨o,l,p2,_⟩:=I.list h2;cases l;show wpAny _ _ (richCompare .Eq (.ref a)<|.ref b) _ _ _;cases r with
 | nil=>exact SeqAt.RcAt.lists (e:=λ_=>true) p.isList p2.isList rfl d (λj h=>absurd h<|by simp) _ _ _ _ ⟨.bl true,H,I,by simp;rfl,q⟩
 | cons r rr=>exact SeqAt.RcAt.lists_lengths p.isList p2.isList (by simp) d _ _ _ _ ⟨.bl false,H,I,rfl,q⟩
def EC(d:X.A.units<cLine):cX X (compareOp .NotEq) (zQ X.K true):=by
 intro m s σ H x y v u Q I f i h;obtain⟨a,b,xs,rfl,rfl,n,h1,h2,q⟩:=h;cases f;cases i;obtain⟨its,r,p,hz⟩:=I.list h1;obtain⟨o,l,p2,_⟩:=I.list h2;cases l;show wpAny _ _ (richCompare .NotEq (.ref a)<|.ref b) _ _ _;cases r with
 | nil=>exact SeqAt.RcNeAt.lists (e:=λ_=>true) p.isList p2.isList rfl d (λj h=>absurd h<|by simp) _ _ _ _ ⟨.bl false,H,I,by simp;rfl,q⟩
 | cons r rr=>exact SeqAt.RcNeAt.lists_lengths p.isList p2.isList (by simp) d _ _ _ _ ⟨.bl true,H,I,rfl,q⟩
def XW(its:List Value):slicePick its.toArray none none (some<|-1)=its.reverse.toArray:=by
 unfold slicePick;have e:sliceBounds none none (some<|-1) its.toArray.size=((↑its:Int)-1,-1,-1):=by
  unfold sliceBounds;simp
 rw[e];unfold sliceRange;simp only[show ¬((-1:Int) > 0) by decide,iW,show -(-1:Int)=1 by decide,Int.ediv_one];have j:(if (↑its:Int)-1 > -1 then(↑its:Int)-1 - -1 - -1-1 else 0).toNat=↑its:=by split <;> lia
 rw[j]
 congr 1
 rw[List.filterMap_map];refine List.ext_getElem? λi=>?_;have a:∀(n:Nat),n<=↑its->(List.range n).filterMap ((λx=>its.toArray[x]?)∘λ(k:Nat)=>((↑its:Int)-1+-1*(k:Int)).toNat)=its.reverse.take n:=by
  intro n
  induction n with
  | zero=>intro _;simp
  | succ n ih=>
   intro l;rw[List.range_succ,List.filterMap_append,ih (by lia),gD]
   congr 1
   have d:((↑its:Int)-1+-1*(n:Int)).toNat=↑its-1-n:=by lia
   have b:its[↑its-1-n]?=some its[↑its-1-n]:=bD (by lia);have h:its.reverse[n]?=some its[↑its-1-n]:=by rw[List.getElem?_reverse<|by lia];exact b
   rw[h];have f:((λx=>its.toArray[x]?)∘λ(k:Nat)=>((↑its:Int)-1+-1*(k:Int)).toNat) n=some its[↑its-1-n]:=by
    show its.toArray[((↑its:Int)-1+-1*(n:Int)).toNat]?=_;rw[d];simpa using b
   rw[BX,f];rfl
 rw[a ↑its (aU _)];rw[fS<|by simp]
def yG(K:Fq)(te:TE)(ts:TE):TE:=λσ H Q=>te σ H λx H1=>ts σ H1 λy H2=>y=.int (-1)/\∃a xs,x=.ref a/\SqL K H2 a xs/\∀p,H2 p=none->Q (.ref p) (upd H2 p<|.lst xs.reverse)
def KD{e st:Expr}{te ts:TE}{p2 pos:Pos}(he:PE X e te)(B:PE X st ts):PE X (.Subscript e (.Slice none none (some st) p2) pos) (yG X.K te ts):=by
 intro d s σ H Q I h;refine Subscript_<|aQ (he d s σ H _ I h) ?_;rintro v z ⟨x,H1,m,G,n⟩;refine wpAny_Slice ?_;rw[evalPart_none];refine bE<|bE ?_;refine aQ (B d z σ H1 _ m n) ?_;rintro vs s3 ⟨y,H3,u,C,E,a,xs,ex,l,q⟩;subst E ex;obtain⟨tk,rfl⟩:=C;obtain rfl:v=Value.ref a:=G;have f:Inv X d σ H3 {s3 with heap:=s3.heap.push {cls:=.type "slice",data:=.fields #[.none,.none,.int (-1) tk]}}:=u.kept (t':=s3.toks) λb j q=>bS _ q;show wpAny (model X.prog X.w) X.A (subscriptTail e (.Slice none none (some st) p2) (.ref a)<|.ref s3⁻¹) (EP X d σ Q) X.xe {s3 with heap:=s3.heap.push {cls:=.type "slice",data:=.fields #[.none,.none,.int (-1) tk]}};obtain⟨its,r,i,hz⟩:=f.list l;have J:=↑r;refine tail_any (ops:=[.ref a,.ref s3⁻¹]) i.isList.typeIs slot_list_getitem.lookup ?_ (by with_unfolding_all rfl);refine wpAny_getItem_list_slice i.isList (Heap.IsSliceOf.new ..) .none .none (.int (-1) tk) (by simp) ?_ (by rw[cO] <;> lia);rw[XW];refine⟨.ref _,_,f.laid (t':=s3.toks) (o:=.lst xs.reverse) (λb j q=>bS _ q) (aU _) ?_,rfl,q _<|f.hok.fresh<|aU _⟩;exact⟨by rw[kN];exact hz,_,0,r.reverse,dD _ rfl⟩
def Inv.turnedNew{X:Cx}{x:List (Addr×Obj)}{σ:St}{H:Hp}{s:Shared}{h':Heap}{t':Nat}{ch:List Addr}{xs:List V}{its:List Value}(I:Inv X x σ H s)(i:∀b∈ch,dN X x H b)
  (keep:∀b o,b∉ch->s.heap.get? b=some o->h'.get? b=some o) (C:h'.get? s⁻¹=some {cls:=.type "tuple",data:=.seq its.toArray}) (r:Vals xs its) (hz:↑xs<=sizeLine):
  Inv X x σ (upd H s⁻¹<|.tup xs) {s with heap:=h',toks:=t'}:=by
 have B:∀b u,H b=some u->b∉ch:=λb u e a=>by
  have:=(i b a).1;rw[this]at e;cases e
 have d:Inv X x σ H {s with heap:=h',toks:=t'}:=by
  refine I.step (g':=s.gens) (d':=s.drawn) (ch:=ch) (λb a=>⟨(i b a).2.2.2.1,(i b a).2.1,(i b a).2.2.2.2.1,(i b a).2.2.2.2.2⟩) (λb o _ _ f e _=>keep b o f e) (λb o _ _ f e _=>⟨o.slots,keep b o f e⟩)
   (λ_ _ _ _ n=>n) (λb o f e=>⟨o,keep b o f e⟩) (λ_ _ e=>e) (λ_ _ _ e=>e) (λb ps e=>⟨#[],by rw[e];simp⟩) (λm E=>?_) (λb u eq=>?_) I.bare
  .obtain⟨o,es,ep,G,r⟩:=E;exact⟨o,es,ep,keep _ o (λz=>(i _ z).2.1 rfl) G,r⟩
  .refine(I.hok b u eq).stay (λc v f q=>keep c v ?_ q) (λ_ q=>q) λ_ _ q=>q;rcases f with z | z
   .rw[z];exact B b u eq
   .exact B c _ z
 have j:H s⁻¹=none:=I.hok.fresh<|aU _;have base:=d.base;have A:HOk X.prog X.w (upd H s⁻¹<|.tup xs) h':=by
  intro b z q
  by_cases a:b=s⁻¹
  .subst a;rw[zb1]at q;cases q;exact⟨⟨hz,_,C,rfl⟩,its,r,_,C,rfl,_,rfl⟩
  .rw[aC a]at q;refine(d.hok b z q).stay (λc L _ r=>r) (λc r=>?_) λc xs r=>?_
   .rw[aC<|aP r j];exact r
   .rw[aC<|aP r j];exact r
 have old:∀b o',X.s₀.heap.get? b=some o'->b≠s⁻¹:=λb o' e=>bU<|fM (bK e) I.sz;refine⟨d.ok,d.os,d.bare,⟨base.keep,base.slot,λb l q n J=>?_,base.there,λb ys q=>?_,λb l y q=>?_,λb ps q=>?_⟩,d.loc,d.cell,?_,λy c h=>?_,λp hp=>?_,A,d.len⟩
 .rw[aC<|old b l q];exact base.free b l q n J
 .have:=base.tups b ys q;rw[aC<|aP this j];exact this
 .have:=base.frzs b l y q;rw[aC<|aP this j];exact this
 .obtain⟨m,this⟩:=base.tbls b ps q;exact⟨m,by rw[aC<|aP this j];exact this⟩
 .rw[aC<|bU I.lt];exact I.free
 .obtain⟨v,q⟩:=I.cell y c h;rw[aC<|bU q.lt];exact I.freeC y c h
 .obtain⟨h1,h2,K⟩:=d.pin p hp;have:=bK (I.pin p hp).1;exact⟨h1,by rw[aC<|bU this];exact h2,K⟩
def Inv.turnedAll{X:Cx}{h:List (Addr×Obj)}{σ:St}{H:Hp}{s:Shared}{h':Heap}{t':Nat}{ch:List Addr}(I:Inv X h σ H s)(f:∀b∈ch,dN X h H b)
  (keep:∀b o,b∉ch->s.heap.get? b=some o->h'.get? b=some o):Inv X h σ H {s with heap:=h',toks:=t'}:=by
 have i:∀b u,H b=some u->b∉ch:=λb u e d=>by
  have:=(f b d).1;rw[this]at e;cases e
 refine I.step (g':=s.gens) (d':=s.drawn) (ch:=ch) (λb d=>⟨(f b d).2.2.2.1,(f b d).2.1,(f b d).2.2.2.2.1,(f b d).2.2.2.2.2⟩) (λb o _ _ a e _=>keep b o a e) (λb o _ _ a e _=>⟨o.slots,keep b o a e⟩)
  (λ_ _ _ _ n=>n) (λb o a e=>⟨o,keep b o a e⟩) (λ_ _ e=>e) (λ_ _ _ e=>e) (λb ps e=>⟨#[],by rw[e];simp⟩) (λm l=>?_) (λb u eq=>?_) I.bare
 .obtain⟨o,es,ep,j,r⟩:=l;exact⟨o,es,ep,keep _ o (λz=>(f _ z).2.1 rfl) j,r⟩
 .refine(I.hok b u eq).stay (λc v a q=>keep c v ?_ q) (λ_ q=>q) λ_ _ q=>q;rcases a with z | z
  .rw[z];exact i b u eq
  .exact i c _ z
def ItB(tp:Bool)(h:Heap)(it l:Addr)(k:Nat):Prop:=match tp with | true=>h.IsTupleIter it l k | false=>h.IsListIter it l k
def SeB(tp:Bool)(h:Heap)(l:Addr)(xs:Array Value):Prop:=match tp with | true=>h.IsTuple l xs | false=>h.IsList l xs
theorem ItB.at(x:ItB tp h it l k)(e:∀o,h.get? it=some o->h'.get? it=some o):ItB tp h' it l k:=by
 cases tp with
 | true=>exact Heap.IsTupleIter.at x e
 | false=>exact Heap.IsListIter.at x e
theorem SeB.at(x:SeB tp h l xs)(e:∀o,h.get? l=some o->h'.get? l=some o):SeB tp h' l xs:=by
 cases tp with
 | true=>obtain⟨o,a,r⟩:=(show h.IsTuple l xs from x);exact⟨o,e _ a,r⟩
 | false=>exact Heap.IsList.at x e
def ItB.obj(x:ItB tp h it l k):∃o,h.get? it=some o/\∀v,o.data≠.cell v:=by
 cases tp with
 | true=>obtain⟨o,e,c,d⟩:=(show h.IsTupleIter it l k from x);exact⟨o,e,λv z=>by rw[d]at z;cases z⟩
 | false=>obtain⟨o,e,c,d⟩:=(show h.IsListIter it l k from x);exact⟨o,e,λv z=>by rw[d]at z;cases z⟩
def xX(a:ItB tp s.heap it l k)(hl:SeB tp s.heap l items)(e:items[k]?=some x)(d:∀h',ItB tp h' it l (k+1)->Heap.SameBut it s.heap h'->Q x {s with heap:=h'}):wpAny (model prog w) A (Builtin.SmallTypes.nextOf<|.ref it) Q E s:=by
 cases tp with
 | false=>exact wpAny_nextOf_list_item a hl e d
 | true=>
  have a:s.heap.IsTupleIter it l k:=a;obtain⟨o,b,i,hd⟩:=id a;obtain⟨j,h,_,m,f⟩:=(show s.heap.IsTuple l items from hl);unfold Builtin.SmallTypes.nextOf;refine aI<|lW (name:=Str.ofString "__next__") a.typeIs CI<|jR CI a.typeIs F.entry_tuple_iterator_next ?_<|F.args_tuple_iterator_next_1 _;show wpAny _ _ (field (.ref it) 0 >>= _) _ _ s;refine aI<|eQ b hd (x:=.ref l) rfl ?_;show wpAny _ _ (if (Value.ref l == Value.none)=true then _ else _) _ _ s;rw[aY (show ¬((Value.ref l == Value.none)=true) from fK)];show wpAny _ _ (field (.ref it) 1 >>= _) _ _ s;refine aI<|eQ b hd (x:=.int k 0) rfl ?_;show wpAny _ _ (seqItems? (.ref l) >>= _) _ _ s;refine aI<|jG h f ?_;simp only[xN,e];refine aI<|wpAny_setField b hd (by simp)<|bE ⟨x,rfl,bE<|d _ (show Heap.IsTupleIter _ it l (k+1) from ?_)<|Heap.SameBut.update ..⟩;exact⟨_,uZ _ b<|Obj.isFreed_of_fields<|Obj.data_mapFields hd _,(Obj.cls_mapFields ..).trans i,by rw[Obj.data_mapFields hd];simp[rawInt]⟩
def KP(d:A.handled=none)(b:ItB tp s.heap it l k)(hl:SeB tp s.heap l items)(i:items[k]?=none)(h:∀h' e,Heap.ExtBut it s.heap h'->(∃o,h'.get? e=some o/\o.cls=.type "StopIteration")->E (.ref e) {s with heap:=h'}):wpAny (model prog w) A (Builtin.SmallTypes.nextOf<|.ref it) Q E s:=by
 cases tp with
 | false=>exact wpAny_nextOf_list_end d b hl i h
 | true=>
  have b:s.heap.IsTupleIter it l k:=b;obtain⟨o,f,q,hd⟩:=id b;obtain⟨r,n,_,u,j⟩:=(show s.heap.IsTuple l items from hl);unfold Builtin.SmallTypes.nextOf;refine aI<|lW (name:=Str.ofString "__next__") b.typeIs CI<|jR CI b.typeIs F.entry_tuple_iterator_next ?_<|F.args_tuple_iterator_next_1 _;show wpAny _ _ (field (.ref it) 0 >>= _) _ _ s;refine aI<|eQ f hd (x:=.ref l) rfl ?_;show wpAny _ _ (if (Value.ref l == Value.none)=true then _ else _) _ _ s;rw[aY (show ¬((Value.ref l == Value.none)=true) from fK)];show wpAny _ _ (field (.ref it) 1 >>= _) _ _ s;refine aI<|eQ f hd (x:=.int k 0) rfl ?_;show wpAny _ _ (seqItems? (.ref l) >>= _) _ _ s;refine aI<|jG n j ?_;simp only[xN,i];refine aI<|sO<|aI<|wpAny_setField f hd (by simp) ?_;show wpAny _ _ (newExc (.type "StopIteration") [] >>= _) _ _ _;refine aI ?_;simp only[newExc,newTuple];refine aI (jO ?_<|by size_fits);refine aI (m:=firstArgMember _ _)<|wpAny_of_eq (a:=Value.none) (by first | rfl | (simp only[firstArgMember];rfl)) ?_;refine jO ?_ (by size_fits);simp only[raiseNew];refine aI<|wpAny_handled ?_
  first | rw[show A.in1.handled=none from d] | rw[d]
  refine aI<|bE<|wpAny_throw ?_;exact h _ _ (((Heap.SameBut.update ..).extBut.push _).push _) ⟨_,dD _ rfl,rfl⟩
def RZ{p q:Bool}{z TI TO h f r u:Addr}{k:Nat}{xs ys:Array Value}{x y a b:Value}{Q:Option Value->Shared->Prop}(D:ZipApart z TI TO h f r u)
  (hz:IsZip s.heap z TI TO .none) (aj:IsPair s.heap TI (.ref h) (.ref f)) (ai:IsPair s.heap TO a b)
  (h1:ItB p s.heap h r k) (h2:ItB q s.heap f u k) (an:SeB p s.heap r xs) (am:SeB q s.heap u ys) (hx:xs[k]?=some x) (hy:ys[k]?=some y)
  (hQ:∀h',IsZip h' z TI TO (rawInt s⁻¹)->IsPair h' TO x y->ItB p h' h r (k+1)->ItB q h' f u (k+1)->IsPair h' s⁻¹ x y->
   (∀c o,c≠z->c≠TO->c≠h->c≠f->s.heap.get? c=some o->h'.get? c=some o)->Q (some<|.ref s⁻¹) {s with heap:=h'}):
  wpAny (model prog w) A (pyNext<|.ref z) Q E s:=by
 have Z:s.TypeIs (.ref z) "zip":=⟨_,hz,rfl⟩;unfold pyNext;refine aI<|uP<|lW (name:=Str.ofString "__next__") Z mR<|jR mR Z F.entry_zip_next ?_<|DV _;show wpAny _ _ (field (.ref z) 2 >>= _) _ _ _;refine aI<|eQ hz rfl (x:=.bool false) rfl ?_;show wpAny _ _ (field (.ref z) 3 >>= _) _ _ _;refine aI<|eQ hz rfl (x:=.ref TI) rfl<|aI<|jG aj rfl ?_;show wpAny _ _ (Builtin.SmallTypes.ownedTupleIsFree (.ref z) >>= _) _ _ _;refine aI ?_;unfold Builtin.SmallTypes.ownedTupleIsFree;refine aI<|eQ hz rfl (x:=.none) rfl<|bE ?_;simp only[if_true];refine aI<|sO<|aI<|eQ hz rfl (x:=.ref TO) rfl<|aI<|kY hz (by simp) λh₁ K i=>?_;replace K:IsZip h₁ z TI TO .ellipsis:=K;refine aI ?_;simp only[List.zipIdx_cons,List.zipIdx_nil,vZ,List.forIn_nil];refine aI<|aI<|wpAny_onRaise ?_;show wpAny _ _ (Builtin.SmallTypes.nextOf (.ref h) >>= _) _ _ _;refine aI<|xX (h1.at λo e=>i.extBut _ _ D.i1z e) (an.at λo e=>i.extBut _ _ D.l1z e) hx λh₂ ak l=>bE ?_;have P:IsPair h₂ TO a b:=l.extBut _ _ D.TOi1<|i.extBut _ _ D.TOz ai;refine aI<|jG P rfl<|aI<|wpAny_updateSeq_pair P λh₃ M m=>?_;replace M:IsPair h₃ TO x b:=M;refine aI<|wpAny_letGo<|bE ?_;refine aI<|aI<|wpAny_onRaise ?_;show wpAny _ _ (Builtin.SmallTypes.nextOf (.ref f) >>= _) _ _ _;refine aI<|xX (h2.at λo e=>m.extBut _ _ D.TOi2.symm<|l.extBut _ _ D.i12.symm<|i.extBut _ _ D.i2z e) (am.at λo e=>m.extBut _ _ D.l2TO<|l.extBut _ _ D.l2i1<|i.extBut _ _ D.l2z e) hy λh₄ al n=>bE ?_
 have Y:IsPair h₄ TO x b:=n.extBut _ _ D.TOi2 M;refine aI<|jG Y rfl<|aI<|wpAny_updateSeq_pair Y λd G B=>?_;replace G:IsPair d TO x y:=G;refine aI<|wpAny_letGo<|bE<|bE ?_;refine aI<|jG G rfl<|aI<|wpAny_newTuple ?_;have hsz:d.objs.size=s⁻¹:=by rw[B.1,n.1,m.1,l.1,i.1]
 have T:IsZip d z TI TO .ellipsis:=B.extBut _ _ D.TOz.symm<|n.extBut _ _ D.i2z.symm<|m.extBut _ _ D.TOz.symm<|l.extBut _ _ D.i1z.symm K;have ao:∀c o,c≠z->c≠TO->c≠h->c≠f->s.heap.get? c=some o->d.get? c=some o:=λc o j J O N e=>
  B.extBut _ _ J (n.extBut _ _ N<|m.extBut _ _ J<|l.extBut _ _ O<|i.extBut _ _ j e)
 have ah:ItB p d h r (k+1):=ak.at λo e=>B.extBut _ _ D.TOi1.symm<|n.extBut _ _ D.i12<|m.extBut _ _ D.TOi1.symm e;have aq:ItB q d f u (k+1):=al.at λo e=>B.extBut _ _ D.TOi2.symm e;have W:z<d.objs.size:=bK T;show wpAny _ _ (Builtin.SmallTypes.ownedTupleHandOut (.ref z) (.ref d.objs.size) >>= _) _ _ _;refine aI ?_;unfold Builtin.SmallTypes.ownedTupleHandOut;have ap:IsZip (d.push {cls:=.type "tuple",data:=.seq #[x,y]}) z TI TO .ellipsis:=bS _ T;refine aI<|kY ap (by simp) λh₇ L af=>?_;replace L:IsZip h₇ z TI TO (rawInt d.objs.size):=L;refine kY L (by simp) λC I X=>?_
 replace I:IsZip C z TI TO (rawInt d.objs.size):=I;have H:∀c o,c≠z->d.get? c=some o->C.get? c=some o:=λc o j e=>X.extBut _ _ j<|af.extBut _ _ j<|bS _ e;have ad:IsPair C d.objs.size x y:=X.extBut _ _ (dJ W)<|af.extBut _ _ (dJ W)<|dD _ rfl;rw[hsz]at I ad;refine bE ⟨_,rfl,?_⟩;show wpAny _ _ (pure<|some<|Value.ref d.objs.size) _ _ _;refine bE ?_;rw[hsz];exact hQ C I (H _ _ D.TOz G) (ah.at λo e=>H _ o D.i1z e) (aq.at λo e=>H _ o D.i2z e) ad λc o j J O N e=>H c o j<|ao c o j J O N e
def QF{p q:Bool}{z TI TO m l H I:Addr}{k:Nat}{xs ys:Array Value}{a b:Value}{Q:Option Value->Shared->Prop}(P:A.handled=none)(D:ZipApart z TI TO m l H I)
  (hz:IsZip s.heap z TI TO .none) (ag:IsPair s.heap TI (.ref m) (.ref l)) (af:IsPair s.heap TO a b)
  (h1:ItB p s.heap m H k) (h2:ItB q s.heap l I k) (aj:SeB p s.heap H xs) (ai:SeB q s.heap I ys) (a8:xs[k]?=none\/ys[k]?=none)
  (hQ:∀h',(∀c o,c≠z->c≠TO->c≠m->c≠l->s.heap.get? c=some o->h'.get? c=some o)->Q none {s with heap:=h'}):wpAny (model prog w) A (pyNext<|.ref z) Q E s:=by
 have X:s.TypeIs (.ref z) "zip":=⟨_,hz,rfl⟩;unfold pyNext;have stop:∀(h':Heap)(e:Addr),(∀c o,c≠z->c≠TO->c≠m->c≠l->s.heap.get? c=some o->h'.get? c=some o)->(∃o,h'.get? e=some o/\o.cls=.type "StopIteration")->
   wpAny (model prog w) A (do if (<-isInstance (.ref e) (.type "StopIteration"))=true then pure none else throw (.ref e)) Q E {s with heap:=h'}:=λh' e hk he=>by
  obtain⟨o,ho,hc⟩:=he;exact aI<|wpAny_isInstance (T:="StopIteration") (b:=true) ⟨o,ho,hc⟩ isSubtype_stop<|bE<|hQ _ hk
 refine aI<|uP<|lW (name:=Str.ofString "__next__") X mR<|jR mR X F.entry_zip_next ?_<|DV _;show wpAny _ _ (field (.ref z) 2 >>= _) _ _ _;refine aI<|eQ hz rfl (x:=.bool false) rfl ?_;show wpAny _ _ (field (.ref z) 3 >>= _) _ _ _;refine aI<|eQ hz rfl (x:=.ref TI) rfl<|aI<|jG ag rfl ?_;show wpAny _ _ (Builtin.SmallTypes.ownedTupleIsFree (.ref z) >>= _) _ _ _;refine aI ?_;unfold Builtin.SmallTypes.ownedTupleIsFree;refine aI<|eQ hz rfl (x:=.none) rfl<|bE ?_;simp only[if_true];refine aI<|sO<|aI<|eQ hz rfl (x:=.ref TO) rfl<|aI<|kY hz (by simp) λB u j=>?_;replace u:IsZip B z TI TO .ellipsis:=u;refine aI ?_;simp only[List.zipIdx_cons,List.zipIdx_nil,vZ,List.forIn_nil];refine aI<|aI<|wpAny_onRaise ?_;show wpAny _ _ (Builtin.SmallTypes.nextOf (.ref m) >>= _) _ _ _;have M:=h1.at (h':=B) λo e=>j.extBut _ _ D.i1z e;have O:=aj.at (h':=B) λo e=>j.extBut _ _ D.l1z e;cases hx:xs[k]? with
 | none=>
  refine aI<|KP P M O hx λG e d he=>?_;obtain⟨J,i,n⟩:=he;have W:IsZip G z TI TO .ellipsis:=d _ _ D.i1z.symm u;have C:e≠z:=λx=>by subst x;rw[W]at i;cases i;simp at n
  refine kY W (by simp) λh₃ _ f=>?_
  exact stop h₃ e (λc o r _ K _ x=>f.extBut _ _ r<|d _ _ K<|j.extBut _ _ r x) ⟨J,f.extBut _ _ C i,n⟩
 | some x=>
  have hy:ys[k]?=none:=by rcases a8 with h | h;rw[hx]at h;cases h;exact h
  refine aI<|xX M O hx λG ak d=>bE ?_;have N:IsPair G TO a b:=d.extBut _ _ D.TOi1<|j.extBut _ _ D.TOz af;refine aI<|jG N rfl<|aI<|wpAny_updateSeq_pair N λh₃ ah f=>?_;refine aI<|wpAny_letGo<|bE ?_;refine aI<|aI<|wpAny_onRaise ?_;show wpAny _ _ (Builtin.SmallTypes.nextOf (.ref l) >>= _) _ _ _;refine aI<|KP P (h2.at λo e=>f.extBut _ _ D.TOi2.symm<|d.extBut _ _ D.i12.symm<|j.extBut _ _ D.i2z e) (ai.at λo e=>f.extBut _ _ D.l2TO<|d.extBut _ _ D.l2i1<|j.extBut _ _ D.l2z e) hy λh₄ e Z he=>?_
  obtain⟨J,i,n⟩:=he;have Y:IsZip h₄ z TI TO .ellipsis:=Z _ _ D.i2z.symm<|f.extBut _ _ D.TOz.symm<|d.extBut _ _ D.i1z.symm u;have C:e≠z:=λx=>by subst x;rw[Y]at i;cases i;simp at n
  refine kY Y (by simp) λh₅ _ L=>?_
  exact stop h₅ e (λc o r c2 K c4 x=>L.extBut _ _ r<|Z _ _ c4<|f.extBut _ _ c2<|d.extBut _ _ K<|j.extBut _ _ r x) ⟨J,L.extBut _ _ C i,n⟩
def kC(K:Fq)(tp:Bool)(H:Hp)(a:Addr)(xs:List V):Prop:=match tp with | true=>SqT K H a xs | false=>SqL K H a xs
def QB(K:Fq)(p q:Bool)(a b:Addr):It:=
 ⟨λi H=>∃xs ys x y,kC K p H a xs/\kC K q H b ys/\xs[i]?=some x/\ys[i]?=some y, λi H v H'=>∃T x y,H T=none/\v=.ref T/\H'=upd H T (.tup [x,y])/\(∀xs,kC K p H a xs->xs[i]?=some x)/\∀ys,kC K q H b ys->ys[i]?=some y, λi H=>∃xs ys,kC K p H a xs/\kC K q H b ys/\(↑xs<=i\/↑ys<=i)⟩
def Inv.seqB(I:Inv X pins σ H s)(h:kC X.K tp H a xs):∃its:List Value,Vals xs its/\SeB tp s.heap a its.toArray/\↑xs<=sizeLine:=by
 cases tp with
 | true=>obtain⟨its,r,p,hz⟩:=I.tuple h;exact⟨its,r,p,hz⟩
 | false=>obtain⟨its,r,p,hz⟩:=I.list h;exact⟨its,r,p.isList,hz⟩
def Inv.seqB_inj(I:Inv X pins σ H s)(h:kC X.K tp H a xs)(h':kC X.K tp H a ys):xs=ys:=by
 cases tp with
 | true=>exact I.tuple_inj h h'
 | false=>exact I.list_inj h h'
def WQ{P:Program}{w:World}{K:Fq}{es:List Expr}{k:Nat}{pos:Pos}{p q:Bool}{z TI TO m l B J:Addr}(D:ZipApart z TI TO m l B J):
  eS P w K (.Tuple es k pos) (QB K p q B J) [z,TI,TO,m,l] z (λi h=>IsZip h z TI TO .none/\IsPair h TI (.ref m) (.ref l)/\(∃a b,IsPair h TO a b)/\ItB p h m B i/\ItB q h l J i) where
 mem:=by simp
 obj:=λi h st b d=>by
  obtain⟨hz,f,⟨a,c,j⟩,h1,h2⟩:=st;simp only[wm9,aX,cY]at d;rcases d with rfl | rfl | rfl | rfl | rfl
  .exact⟨_,hz,λv e=>by
    have r:Data.fields _=Data.cell v:=e;cases r⟩
  .exact⟨_,f,λv e=>by
    have r:Data.seq _ _=Data.cell v:=e;cases r⟩
  .exact⟨_,j,λv e=>by
    have r:Data.seq _ _=Data.cell v:=e;cases r⟩
  .exact h1.obj
  .exact h2.obj
 keep:=λi h h' st kp=>by
  obtain⟨hz,f,⟨a,c,j⟩,h1,h2⟩:=st;exact⟨kp z (by simp) _ hz,kp TI (by simp) _ f,⟨a,c,kp TO (by simp) _ j⟩,h1.at λo e=>kp m (by simp) o e,h2.at λo e=>kp l (by simp) o e⟩
 item:=by
  intro X T Y M hc i a3 s σ H E I G st hg;subst T Y M;obtain⟨xs,ys,x,y,u,C,L,hy⟩:=hg;obtain⟨hz,f,⟨a,c,j⟩,h1,h2⟩:=st;obtain⟨ac,N,p1,_⟩:=I.seqB u;obtain⟨ad,W,p2,_⟩:=I.seqB C;obtain⟨u1,am,ak⟩:=N.get L;obtain⟨u2,ag,ae⟩:=W.get hy;have lt:∀{c o},s.heap.get? c=some o->s⁻¹≠c:=λe=>dJ<|bK e;refine RZ D hz f j h1 h2 p1 p2 (x:=u1) (y:=u2) (by simpa using am) (by simpa using ag) λh' aj aa af ai hT A=>?_
  refine⟨_,rfl,wpAny_letOwnedTupleGo_zip (s:={s with heap:=h'}) aj λO a7 n=>?_⟩;have al:O.get? s⁻¹=some {cls:=.type "tuple",data:=.seq [u1,u2].toArray}:=n.extBut _ _ (lt hz) hT;have keep:∀b o,b∉[z,TI,TO,m,l]->s.heap.get? b=some o->O.get? b=some o:=λb o d e=>
   n.extBut _ _ (λx=>d<|by simp[x]) (A b o (λx=>d<|by simp[x]) (λx=>d<|by simp[x]) (λx=>d<|by simp[x]) (λx=>d<|by simp[x]) e)
  have I1:Inv X a3 σ (upd H s⁻¹<|.tup [x,y]) {s with heap:=O}:=I.turnedNew (t':=s.toks) G keep al (.cons ak<|.cons ae .nil) (by show 2<=sizeLine;decide);refine⟨.ref s⁻¹,_,I1,rfl,⟨_,x,y,I.hok.fresh<|aU _,rfl,rfl,λah Z=>by rw[I.seqB_inj Z u];exact L,λah Z=>by rw[I.seqB_inj Z C];exact hy⟩,
   ⟨a7,n.extBut _ _ D.TIz<|A _ _ D.TIz D.TITO D.TIi1 D.TIi2 f,⟨_,_,n.extBut _ _ D.TOz aa⟩,af.at λo e=>n.extBut _ _ D.i1z e,ai.at λo e=>n.extBut _ _ D.i2z e⟩,λb d=>?_⟩
  obtain⟨o,e,_⟩:∃o,s.heap.get? b=some o/\True:=by
   simp only[wm9,aX,cY]at d;rcases d with rfl | rfl | rfl | rfl | rfl
   .exact⟨_,hz,trivial⟩
   .exact⟨_,f,trivial⟩
   .exact⟨_,j,trivial⟩
   .obtain⟨o,e,_⟩:=h1.obj;exact⟨o,e,trivial⟩
   .obtain⟨o,e,_⟩:=h2.obj;exact⟨o,e,trivial⟩
  rw[aC<|bL<|lt e];exact(G b d).1
 done:=by
  intro X T Y M hc i a3 s σ H E I G st hg;subst T Y M;obtain⟨xs,ys,u,C,L⟩:=hg;obtain⟨hz,f,⟨a,c,j⟩,h1,h2⟩:=st;obtain⟨ac,N,p1,_⟩:=I.seqB u;obtain⟨ad,W,p2,_⟩:=I.seqB C;have B:=N.length;have J:=W.length;refine QF (I.ok.hd hc) D hz f j h1 h2 p1 p2 ?_ λh' A=>⟨rfl,I.turnedAll (t':=s.toks) G λb o d e=>A b o (λx=>d<|by simp[x]) (λx=>d<|by simp[x]) (λx=>d<|by simp[x]) (λx=>d<|by simp[x]) e⟩
  rcases L with h | h
  .exact .inl (EE<|by simp;lia)
  .exact .inr (EE<|by simp;lia)
 self:=λ_ _ _ _ _ st h=>wpAny_pyIter_zip st.1 h
abbrev AA(h:Heap)(l1:Addr):Heap:=h.push {cls:=.type "tuple_iterator",data:=.fields #[.ref l1,.int 0 0]}
abbrev CV(h:Heap)(l1 l2:Addr):Heap:=(AA h l1).push {cls:=.type "tuple_iterator",data:=.fields #[.ref l2,.int 0 0]}
abbrev DQ(h:Heap)(l1 l2:Addr):Heap:=(CV h l1 l2).push {cls:=.type "tuple",data:=.seq #[.ref h.objs.size,.ref (AA h l1).objs.size]}
abbrev DW(h:Heap)(l1 l2:Addr):Heap:=(DQ h l1 l2).push {cls:=.type "tuple",data:=.seq #[.none,.none]}
abbrev sV(h:Heap)(l1 l2:Addr):Heap:=(DW h l1 l2).push {cls:=.type "zip",data:=.fields #[.none,.bool false,.bool false,.ref (CV h l1 l2).objs.size,.ref (DQ h l1 l2).objs.size]}
def Aj(a b:Addr)(xs ys:Array Value):
  Meets (Builtin.«zip.__new__» ⟨[.type "zip",.ref a,.ref b],[]⟩) (λ_ R s=>s.heap.IsTuple a xs/\s.heap.IsTuple b ys/\R (.ok<|.ret<|.ref (DW s.heap a b).objs.size) {s with heap:=sV s.heap a b}):=
 .of_wp λprog w A R s h=>by
  obtain⟨hp,g,d,tk,os⟩:=s;obtain⟨l,f,h⟩:=h;have m:=sub_zip;have e:Heap.IsTuple (Shared.heap ⟨hp,g,d,tk,os⟩) a xs:=l;have i:Heap.IsTuple (Shared.heap ⟨hp.push {cls:=.type "tuple_iterator",data:=.fields #[.ref a,.int 0 0]},g,d,tk,os⟩) b ys:=by
   obtain⟨o,j,r⟩:=f;exact⟨o,bS _ j,r⟩
  wp_walk using wpAny_pyIter_tuple e,wpAny_pyIter_tuple i
  exact⟨_,rfl,h⟩
def UM(q:s.heap.IsTuple l1 xs)(u:s.heap.IsTuple l2 ys) (h:∀h',IsZip h' (s⁻¹+4) (s⁻¹+2) (s⁻¹+3) .none->IsPair h' (s⁻¹+2) (.ref s⁻¹) (.ref<|s⁻¹+1)-> IsPair h' (s⁻¹+3) .none .none->h'.IsTupleIter s⁻¹ l1 0->h'.IsTupleIter (s⁻¹+1) l2 0->
   (∀c o,s.heap.get? c=some o->h'.get? c=some o)->Q (.ref<|s⁻¹+4) {s with heap:=h'}):
  wpAny (model prog w) A (call (.type "zip") [.ref l1,.ref l2]) Q E s:=by
 refine callType_new F.called_zip (by decide) (F.typeCall_zip_2 _ _) (F.newCall_zip_2 _ _) (λobj=>F.args_object_init_3 obj _ _) F.entry_zip_new (Aj l1 l2 xs ys) ⟨q,u,?_⟩;have d:(AA s.heap l1).objs.size=s⁻¹+1:=oH ..;have b:(CV s.heap l1 l2).objs.size=s⁻¹+2:=by rw[oH,d]
 have a:(DQ s.heap l1 l2).objs.size=s⁻¹+3:=by rw[oH,b]
 have j:(DW s.heap l1 l2).objs.size=s⁻¹+4:=by rw[oH,a]
 have i:∀c o,(AA s.heap l1).get? c=some o->(sV s.heap l1 l2).get? c=some o:=λc o e=>bS _<|bS _<|bS _<|bS _ e;have f:(sV s.heap l1 l2).get? (DW s.heap l1 l2).objs.size=some _:=dD _ rfl;have m:(sV s.heap l1 l2).get? (DQ s.heap l1 l2).objs.size=some _:=bS _<|dD _ rfl;have l:(sV s.heap l1 l2).get? (CV s.heap l1 l2).objs.size=some _:=bS _<|bS _<|dD _ rfl;have n:(sV s.heap l1 l2).get? (AA s.heap l1).objs.size=some _:=bS _<|bS _<|bS _<|dD _ rfl;have r:(sV s.heap l1 l2).get? s⁻¹=some _:=i _ _<|dD _ rfl;show _/\_;rw[b,a,j]at f;rw[d,b]at l;rw[a]at m;rw[d]at n;rw[j];exact⟨⟨_,f,rfl⟩,h _ f l m ⟨_,r,rfl,rfl⟩ ⟨_,n,rfl,rfl⟩ λc o x=>i c o<|bS _ x⟩
def KZ(K:Fq)(p:Bool)(ta:TA):TI:=λσ H R=>ta σ H λvs H1=>∃a b xs ys,vs=[.ref a,.ref b]/\kC K p H1 a xs/\kC K p H1 b ys/\R (QB K p p a b) H1
theorem boot_zip:bootBuiltins "zip"=some (.type "zip"):=by first | exact PySem.boot_zip | rfl'
def sP{X:Cx}{p:Bool}{es:List Expr}{k:Nat}{G:Pos}{a b:Expr}{ta:TA}{N pos:Pos}(O:Gl X "zip")(W:X.mg "zip"=none)(P:PA X [a,b] ta)
  (hs:starEach [a,b] X.env=[(false,eval a X.env),(false,eval b X.env)]:=by rfl) (B:starEach [b] X.env=[(false,eval b X.env)]:=by rfl):
  PI X (.Tuple es k G) (.Call (.Name "zip" N) [a,b] [] pos) (KZ X.K p ta):=by
 intro L s σ H R I h;refine Call_ (kL I O W boot_zip<|oB (aQ (P pos L s σ H _ I h) λus d ⟨vs,H1,f,Z,T⟩=>?_) (by rw[hs,B])<|by rw[B];rfl);obtain⟨C,E,xs,ys,e,Y,M,q⟩:=T;subst e;cases Z with
 | cons r rr=>
  cases rr with
  | cons r' rr=>
   cases rr;cases r;cases r';obtain⟨aa,ac,n,_⟩:=f.seqB Y;obtain⟨ab,ad,p2,_⟩:=f.seqB M;have x:∀{tp:Bool}{l:Addr}{its:Array Value},SeB tp d.heap l its->l<d⁻¹:=λ{tp l its} h=>by
    cases tp with
    | true=>obtain⟨o,e,_⟩:=(show d.heap.IsTuple l its from h);exact bK e
    | false=>obtain⟨o,e,_⟩:=(show d.heap.IsList l its from h);exact bK e
   have D:ZipApart (d⁻¹+4) (d⁻¹+2) (d⁻¹+3) d⁻¹ (d⁻¹+1) C E:=zipApart_new (x n)<|x p2;have z:∀h',IsZip h' (d⁻¹+4) (d⁻¹+2) (d⁻¹+3) .none->IsPair h' (d⁻¹+2) (.ref d⁻¹) (.ref<|d⁻¹+1)->
     IsPair h' (d⁻¹+3) .none .none->ItB p h' d⁻¹ C 0->ItB p h' (d⁻¹+1) E 0->(∀c o,d.heap.get? c=some o->h'.get? c=some o)->
     wpAny (model X.prog X.w) X.A (pyIter<|.ref<|d⁻¹+4) (KI X L σ (.Tuple es k G) R) X.xe {d with heap:=h'}:=λh' hz m j h1 h2 i=>by
    refine wpAny_pyIter_zip (s:={d with heap:=h'}) hz ?_;refine⟨_,_,_,_,H1,rfl,f.kept (t':=d.toks) i,WQ D,⟨hz,m,⟨_,_,j⟩,h1,h2⟩,λb u=>?_,q⟩;have J:d⁻¹<=b:=by
     simp only[wm9,aX,cY]at u;rcases u with rfl | rfl | rfl | rfl | rfl
     .exact nJ _ _
     .exact nJ _ _
     .exact nJ _ _
     .exact aU _
     .exact nJ _ _
    exact f.fpOk J<|f.hok.fresh J
   cases p with
   | true=>exact UM n p2 λh' hz m j h1 h2 i=>z h' hz m j h1 h2 i
   | false=>exact call_zip_2 n p2 λh' hz m j h1 h2 _ i=>z h' hz m j h1 h2 i
def VI:typeLookup (.type "list") "keys"=pure none:=by rw[nS,nC];kernel_rfl
def WW(l:s.heap.get? a=some o)(m:o.cls=.type "list")(n:o.data=.seq xs k)(hd:o.dict=none)(r:A.handled=none)(h:∀h' tk,(∀b ob,s.heap.get? b=some ob->h'.get? b=some ob)->Q none {s with heap:=h',toks:=tk}):
  wpAny (model prog w) A (getAttr? (.ref a) "keys") Q E s:=by
 obtain⟨c,x,u,q⟩:=o;simp only at m n hd;subst m n hd;obtain⟨hp,g,d,tk,os⟩:=s;have j:∀f,(⟨hp,g,d,f,os⟩:Shared).TypeIs (.ref a) "list":=λ_=>⟨_,l,rfl⟩;have z:=sub_AttributeError;have B:=vg1.lookup;have C:=vg1.bind<|.ref a;have G:=am_list_getattr_none;unfold getAttr? getAttrBy? getAttrBy
 repeat (any_goals (first | assumption | exact j _ | ((with_reducible show wpAny _ _ (call (Value.builtin "list.__getattribute__") _ _) _ _ _);refine rR vg1 (j _) am_entry_list_getattribute (F.args_list_getattribute_2 _ _) (meets_getattribute_miss_list a xs k q "keys" _ VI (by decide)<|by size_fits) ⟨l,r,λh' f e i=>?_⟩) | wp_step))
 obtain⟨t',H,he⟩:=i.there;show wpAny _ _ (getattributeRaised _ _ _ _ _ _ _) _ _ _;unfold getattributeRaised
 repeat (any_goals (first | assumption | wp_step))
 exact h h' f i.of.keeps
def CB:plainId "dict.update.loop"=true:=by rfl'
def OD:entryFor table "dict.update.loop"=some Builtin.«dict.update.loop»:=entryFor_of_fast (by kernel_rfl)
def Bh(h:Heap)(its:List Value)(kvs:List (aG×V)):Prop:=↑its=↑kvs/\∀(j:Nat) p,kvs[j]?=some p->∃T kv vv,its[j]?=some (.ref T)/\h.IsTuple T #[kv,vv]/\iV p.1 kv=true/\RelV p.2 vv
def ME{kvs:List (aG×V)}{j:Nat}{p:aG×V}(h:kvs[j]?=some p):cJ [] (kvs.take<|j+1)=aN (cJ []<|kvs.take j) p.1 p.2:=by
 unfold cJ;rw[gD,h,CS];rfl
def YV{prog:Program}{w:World}{A:Around}{R:Result->Shared->Prop}{D it l:Addr}{its:List Value}{kvs:List (aG×V)}(hh:A.handled=none)(am:l≠D)(ad:l≠it)(z:D≠it)(hz:↑kvs<sizeLine):
  ∀(n j:Nat)(s:Shared)(vs:List (aG×Value)),↑kvs-j=n->j<=↑kvs->s.heap.IsListIter it l j->s.heap.IsList l its.toArray->Bh s.heap its kvs->(∀T,Value.ref T∈its->T≠D/\T≠it)->
  s.heap.DictOf (cB prog w) D vs->KV (cJ []<|kvs.take j) vs->
  (∀h' tk f,h'.DictOf (cB prog w) D f->KV (cJ [] kvs) f->(∀b o,b≠D->b≠it->s.heap.get? b=some o->h'.get? b=some o)->R (.ok<|.ret .none) {s with heap:=h',toks:=tk})->
  codeAny (model prog w) A (.builtin "dict.update.loop" ⟨[.ref D,.ref it,rawInt j,.none],[]⟩) R s:=by
 intro n
 induction n with
 | zero=>
  intro j s vs X hj h hl hp d hd a C;have e:j=↑kvs:=by lia
  subst e;refine codeAny_builtin OD ?_;rw[DK CB _];show wpAny _ A.in1 (pyNext (.ref it) >>= _) _ _ s;refine aI<|wpAny_pyNext_list_end (A:=A.in1) hh h hl (by simp[hp.1]) λh' L=>?_;show wpAny _ A.in1 (Builtin.Dict.addKeywords D [] >>= _) _ _ _;refine aI<|bE<|bE<|C h' s.toks vs ?_ ?_ λb o h1 h2 e=>L b o h2 e
  .exact hd.at λo e=>L D o z e
  .rw[fS<|aU _]at a;exact a
 | succ n ih=>
  intro j s vs X hj h hl hp d hd a C;have m:j<↑kvs:=by lia
  obtain⟨T,G,E,hi,ht,N,W⟩:=hp.2 j kvs[j]<|bD m;obtain⟨an,ag⟩:=d T<|cW hi;refine codeAny_builtin OD ?_;rw[DK CB _];show wpAny _ A.in1 (pyNext (.ref it) >>= _) _ _ s;refine aI<|wpAny_pyNext_list_item (A:=A.in1) h hl (x:=.ref T) (by simpa using hi) λh' a8 B=>?_;have i:h'.IsTuple T #[G,E]:=by obtain⟨o,e,r⟩:=ht;exact⟨o,B.extBut _ _ ag e,r⟩
  have aj:h'.DictOf (cB prog w) D vs:=hd.at λo e=>B.extBut _ _ z e;obtain⟨ot,H,ec,nt,ed⟩:=id i;have ah:↑vs<=sizeLine:=by
   have h1:=↑a;have h2:=xA (kvs.take j) [];rw[eK]at h2;simp at h2;lia
  show wpAny _ A.in1 (holding [.ref T] _ >>= _) _ _ {s with heap:=h'};refine aI<|iG<|aI<|wpAny_tryCatch ?_;unfold Builtin.Dict.pairItems;refine aI<|wpAny_typeOf (T:="tuple") ⟨ot,H,ec⟩ ?_;rw[bC<|by decide];refine aI<|jG H ed<|bE ?_;show wpAny _ A.in1 (holding [G,E]<|dictSet D G E) _ _ _;refine iG<|wpAny_dictSet_pairs (knd:=cB prog w) (k:=kvs[j].1) (hsz:=ah) N aj λh2 ae I=>?_;refine bE ⟨plainId_quiet CB _,?_⟩;have u:∀b o,b≠D->b≠it->s.heap.get? b=some o->h2.get? b=some o:=λb o h1 q e=>I.extBut _ _ h1<|B.extBut _ _ q e;refine ih (j+1) {s with heap:=h2,toks:=s.toks+1} _ (by lia) m (a8.at λo e=>I.extBut _ _ (bL z) e) (hl.at λo e=>u l o am ad e) ⟨hp.1,λj' p ai=>?_⟩ d ae ?_ λq tk f ak P Y=>?_
  .obtain⟨J,ab,af,M,i,a1,O⟩:=hp.2 j' p ai;obtain⟨Z,q2⟩:=d J<|cW M;obtain⟨o,e,r⟩:=i;exact⟨J,ab,af,M,⟨o,u _ _ Z q2 e,r⟩,a1,O⟩
  .rw[ME<|bD m];exact a.put _ W
  .exact C q tk f ak P λb o h1 K e=>Y b o h1 K<|u b o h1 K e
def rJ(K:Fq):List V->Hp->VK->Prop:=λxs H Q=>∃(p:Addr)(ts:List Addr)(kvs:List (aG×V)),xs=[.ref p]/\SqL K H p (ts.map V.ref)/\↑ts=↑kvs/\↑kvs<sizeLine/\
 (∀(j:Nat) t kv,ts[j]?=some t->kvs[j]?=some kv->SqT K H t [kV kv.1,kv.2])/\∀l,H l=none->Q (.ref l) (upd H l<|.dK<|cJ [] kvs)
def AY(N:X.calm=true):CallR X (.type "dict") (rJ X.K):=by
 intro al s σ H xs us Q I r h;obtain⟨p,ts,kvs,rfl,hq,ao,ai,a7,q⟩:=h;obtain⟨u,rfl,rx⟩:=jA r;cases rx;obtain⟨its,E,M,hz⟩:=I.list hq;obtain⟨ol,nl,G,W,a5,ap⟩:=id M;have C:p<s⁻¹:=bK G;have au:↑its=↑ts:=by have:=E.length;rw[aK]at this;exact this.symm
 have ad:∀(j:Nat) t,ts[j]?=some t->its[j]?=some (.ref t):=λj t e=>by
  obtain⟨u,hu,ru⟩:=E.get (i:=j) (x:=V.ref t) (by rw[bN,e];rfl);cases ru;exact hu
 refine callType_codes (Q₁:=λobj s₁=>obj=.ref s⁻¹/\s₁={s with heap:=s.heap.push {cls:=.type "dict",data:=.dict #[]}}) F.kt_called_dict (F.kt_typeCall_dict_1 _) F.entry_dict_init (kt_code_dict_new _ ⟨rfl,rfl⟩) ?_;rintro obj s₁ ⟨rfl,rfl⟩;have n:(s.heap.push {cls:=.type "dict",data:=.dict #[]}).DictOf (cB X.prog X.w) s⁻¹ []:=Heap.DictOf.new s.heap;exists n.typeIs,F.args_dict_init_2 _ _;unfold Builtin.«dict.__init__»;refine aI ?_;unfold Builtin.Dict.selfAndRest;refine aI<|wpAny_notOrdered_dict n.typeIs ?_;show wpAny _ _ (pure (s⁻¹,[Value.ref p])) _ _ _;refine bE ?_;show wpAny _ _ (Builtin.Dict.updateFrom "dict.__init__" s⁻¹ (.ref p) [] .none) _ _ _;unfold Builtin.Dict.updateFrom;have B:(s.heap.push {cls:=.type "dict",data:=.dict #[]}).get? p=some ol:=bS _ G;refine aI<|wpAny_typeOf (T:="list") ⟨ol,B,W⟩ ?_;rw[bC<|by decide];refine aI<|WW (A:=X.A.in1.in1) B W ap a5 (I.ok.hd N) λh2 aj L=>?_;show wpAny _ _ (rule _ >>= _) _ _ _;refine aI<|sO ?_;have Y:∀b o,s.heap.get? b=some o->h2.get? b=some o:=λb o e=>L b o<|bS _ e;have O:h2.IsList p its.toArray:=M.isList.at λo e=>Y p o e;have aa:h2.DictOf (cB X.prog X.w) s⁻¹ []:=n.at λo e=>L _ o e;have l:s⁻¹<h2.objs.size:=by obtain⟨_,_,_,e,_⟩:=aa;exact bK e
 refine aI<|BY (s:={s with heap:=h2,toks:=aj}) O<|bE ⟨plainId_quiet CB _,?_⟩;have Z:∀b o,s.heap.get? b=some o->(h2.push {cls:=.type "list_iterator",data:=.fields #[.ref p,.int 0 0]}).get? b=some o:=λb o e=>bS _<|Y b o e;have z:∀(j:Nat) t,ts[j]?=some t->t<s⁻¹/\∃m kvv vv,kvs[j]?=some m/\s.heap.IsTuple t #[kvv,vv]/\iV m.1 kvv=true/\RelV m.2 vv:=λj t e=>by
  obtain⟨f,_⟩:=zz2.mp e;have J:kvs[j]?=some kvs[j]:=bD (by lia);obtain⟨ar,rt,pt,_⟩:=I.tuple<|a7 j t _ e J;cases rt with
  | cons r1 rr=>
   cases rr with
   | cons r2 rr=>
    cases rr;obtain⟨o,eo,rest⟩:=id pt;exact⟨bK eo,_,_,_,J,pt,iZ (P:=X.prog) (w:=X.w) r1,r2⟩
 refine YV (A:=X.A.in1) (I.ok.hd N) (its:=its) (kvs:=kvs) (bU C) (bU<|gE C l) (bU l) ai ↑kvs 0 _ [] (by simp) (bM _) ⟨_,dD _ rfl,rfl,rfl⟩ (O.at λo e=>bS _ e) ⟨by lia,λj m f=>?_⟩ (λT hT=>?_)
  (aa.at λo e=>bS _ e) .nil λh' tk an ak ag kk=>?_
 .obtain⟨as,_⟩:=zz2.mp f;have d:ts[j]?=some ts[j]:=bD (by lia);obtain⟨_,aq,a,b,h1,am,h3,h4⟩:=z j _ d;rw[f]at h1;cases h1;obtain⟨o,e,r⟩:=am;exact⟨_,a,b,ad j _ d,⟨o,Z _ _ e,r⟩,h3,h4⟩
 .obtain⟨j,f,e⟩:=lN hT;have d:ts[j]?=some ts[j]:=bD (by lia);have:=ad j _ d;rw[bD f,e]at this;cases this;have:=(z j _ d).1;exact⟨bU this,bU<|gE this l⟩
 .refine⟨rfl,⟨.ref s⁻¹,_,?_,rfl,q _<|I.hok.fresh<|aU _⟩⟩;have ah:↑(cJ [] kvs)<=sizeLine:=by
   have:=xA kvs [];simp at this;lia
  have a8:(s⁻¹ == sysModules)=false:=by
   have:=I.big;simpa using dJ this
  exact I.laid (t':=tk) (o:=.dK<|cJ [] kvs) (λb o e=>kk b o (bU<|bK e) (bU<|gE (bK e) l)<|Z b o e) (aU _) ⟨ah,a8,an,ag,ak⟩
section
variable{tg:Expr}
end
def Inv.laidMany(I:Inv X pins σ H s)(keep:∀b o,s.heap.get? b=some o->h'.get? b=some o)(d:∀b,b<s⁻¹->H' b=H b)(i:HOk X.prog X.w H' h'):Inv X pins σ H' {s with heap:=h',toks:=t'}:=by
 have a:Inv X pins σ H {s with heap:=h',toks:=t'}:=I.kept (t':=t') keep;have old:∀b o',X.s₀.heap.get? b=some o'->b<s⁻¹:=λb o' e=>fM (bK e) I.sz;have lt:∀b u,H b=some u->b<s⁻¹:=λb u e=>by
  rcases Nat.lt_or_ge b s⁻¹ with h | h
  .exact h
  .rw[I.hok.fresh h]at e;cases e
 have base:=a.base;refine⟨a.ok,a.os,a.bare,⟨base.keep,base.slot,λb f q n l=>?_,base.there,λb ys q=>?_,λb f y q=>?_,λb ps q=>?_⟩,a.loc,a.cell,?_,λy c h=>?_,λp hp=>?_,i,a.len⟩
 .rw[d b<|old b f q];exact base.free b f q n l
 .have:=base.tups b ys q;rw[d b<|lt b _ this];exact this
 .have:=base.frzs b f y q;rw[d b<|lt b _ this];exact this
 .obtain⟨m,this⟩:=base.tbls b ps q;exact⟨m,by rw[d b<|lt b _ this];exact this⟩
 .rw[d _ I.lt];exact I.free
 .obtain⟨v,q⟩:=I.cell y c h;rw[d _ q.lt];exact I.freeC y c h
 .obtain⟨x,r,j⟩:=a.pin p hp;have:=bK (I.pin p hp).1;exact⟨x,by rw[d _ this];exact r,j⟩
abbrev uS(h:Heap)(z TI TO T:Addr)(f:Bool):Prop:=
 h.get? z=some {cls:=.type "zip",dict:=none,data:=.fields #[rawInt T,.bool f,.bool false,.ref TI,.ref TO],slots:=#[]}
def SH{z TI TO T:Addr}{f:Bool}{e:Obj}{Q:Bool->Shared->Prop}(hz:uS s.heap z TI TO T f)(d:s.heap.get? T=some e)
  (h:∀a,uS a z TI TO T true->Heap.SameBut z s.heap a->Q false {s with heap:=a}):wpAny (model prog w) A (Builtin.SmallTypes.ownedTupleIsFree<|.ref z) Q E s:=by
 unfold Builtin.SmallTypes.ownedTupleIsFree;refine aI<|eQ hz rfl (x:=rawInt T) rfl ?_;show wpAny _ _ (loadIfAlive ((T:Int).toNat) >>= _) _ _ _;rw[xN];refine aI<|PySem.W.kdx_alive d ?_;show wpAny _ _ (field (.ref z) 1 >>= _) _ _ s;refine aI<|eQ hz rfl (x:=.bool f) rfl ?_;cases f with
 | true=>exact bE<|h s.heap hz<|Heap.SameBut.refl _ _
 | false=>exact aI<|kY hz (by simp) λa b i=>bE<|h a b i
def WR{z TI TO b a i j T:Addr}{f:Bool}{G:Obj}{k:Nat}{xs ys:Array Value}{x y:Value}{Q:Option Value->Shared->Prop}(D:ZipApart z TI TO b a i j)
  (hz:uS s.heap z TI TO T f) (J:s.heap.get? T=some G) (K:IsPair s.heap TI (.ref b) (.ref a))
  (h1:s.heap.IsListIter b i k) (h2:s.heap.IsListIter a j k) (q:s.heap.IsList i xs) (H:s.heap.IsList j ys) (M:xs[k]?=some x) (N:ys[k]?=some y)
  (L:∀h',uS h' z TI TO T true->h'.IsListIter b i (k+1)->h'.IsListIter a j (k+1)->IsPair h' s⁻¹ x y->
   (∀c o,c≠z->c≠b->c≠a->s.heap.get? c=some o->h'.get? c=some o)->Q (some<|.ref s⁻¹) {s with heap:=h'}):
  wpAny (model prog w) A (pyNext<|.ref z) Q E s:=by
 have ty:s.TypeIs (.ref z) "zip":=⟨_,hz,rfl⟩;unfold pyNext;refine aI<|uP<|lW (name:=Str.ofString "__next__") ty mR<|jR mR ty F.entry_zip_next ?_<|DV _;show wpAny _ _ (field (.ref z) 2 >>= _) _ _ s;refine aI<|eQ hz rfl (x:=.bool false) rfl ?_;show wpAny _ _ (field (.ref z) 3 >>= _) _ _ s;refine aI<|eQ hz rfl (x:=.ref TI) rfl<|aI<|jG K rfl ?_;show wpAny _ _ (Builtin.SmallTypes.ownedTupleIsFree (.ref z) >>= _) _ _ s;refine aI<|SH hz J λX r d=>?_;simp only[ER,iW];refine aI ?_;simp only[List.forIn_toArray,vZ,List.forIn_nil];refine aI<|aI<|iG ?_;show wpAny _ _ (Builtin.SmallTypes.nextOf (.ref b) >>= _) _ _ _;refine aI<|xX (tp:=false) (h1.at λo e=>d.extBut _ _ D.i1z e) (q.at λo e=>d.extBut _ _ D.l1z e) M λC u l=>bE ?_;refine bE ?_;refine aI<|aI<|iG ?_;show wpAny _ _ (Builtin.SmallTypes.nextOf (.ref a) >>= _) _ _ _;refine aI<|xX (tp:=false) (h2.at λo e=>l.extBut _ _ D.i12.symm<|d.extBut _ _ D.i2z e) (H.at λo e=>l.extBut _ _ D.l2i1<|d.extBut _ _ D.l2z e) N λh B m=>bE ?_;refine bE<|bE ?_;have hsz:h.objs.size=s⁻¹:=by rw[m.1,l.1,d.1]
 show wpAny _ _ (newTuple [x,y] >>= _) _ _ _;refine aI<|wpAny_newTuple ?_;refine bE ⟨_,rfl,?_⟩;show wpAny _ _ (pure<|some<|Value.ref h.objs.size) _ _ _;refine bE ?_;have I:∀c o,c≠z->c≠b->c≠a->s.heap.get? c=some o->(h.push {cls:=.type "tuple",data:=.seq #[x,y]}).get? c=some o:=λc o W O P e=>bS _<|m.extBut _ _ P<|l.extBut _ _ O<|d.extBut _ _ W e;have n:IsPair (h.push {cls:=.type "tuple",data:=.seq #[x,y]}) h.objs.size x y:=dD _ rfl;rw[hsz]at n ⊢;refine L _ (bS _<|m.extBut _ _ D.i2z.symm<|l.extBut _ _ D.i1z.symm r) ?_ ?_ n I
 .exact(show Heap.IsListIter C b i (k+1) from u).at λo e=>bS _<|m.extBut _ _ D.i12 e
 .exact(show Heap.IsListIter h a j (k+1) from B).at λo e=>bS _ e
def Aq{z TI TO a i d l T:Addr}{f:Bool}{n:Obj}{k:Nat}{xs:Array Value}{Q:Option Value->Shared->Prop}(m:A.handled=none)(D:ZipApart z TI TO a i d l)
  (hz:uS s.heap z TI TO T f) (B:s.heap.get? T=some n) (G:IsPair s.heap TI (.ref a) (.ref i))
  (h1:s.heap.IsListIter a d k) (C:s.heap.IsList d xs) (I:xs[k]?=none)
  (H:∀h',(∀c o,c≠z->c≠a->s.heap.get? c=some o->h'.get? c=some o)->Q none {s with heap:=h'}):wpAny (model prog w) A (pyNext<|.ref z) Q E s:=by
 have ty:s.TypeIs (.ref z) "zip":=⟨_,hz,rfl⟩;unfold pyNext;refine aI<|uP<|lW (name:=Str.ofString "__next__") ty mR<|jR mR ty F.entry_zip_next ?_<|DV _;show wpAny _ _ (field (.ref z) 2 >>= _) _ _ s;refine aI<|eQ hz rfl (x:=.bool false) rfl ?_;show wpAny _ _ (field (.ref z) 3 >>= _) _ _ s;refine aI<|eQ hz rfl (x:=.ref TI) rfl<|aI<|jG G rfl ?_;show wpAny _ _ (Builtin.SmallTypes.ownedTupleIsFree (.ref z) >>= _) _ _ s;refine aI<|SH hz B λN M h=>?_;simp only[ER,iW];refine aI ?_;simp only[List.forIn_toArray,vZ,List.forIn_nil];refine aI<|aI<|iG ?_;show wpAny _ _ (Builtin.SmallTypes.nextOf (.ref a) >>= _) _ _ _;refine aI<|KP (tp:=false) m (h1.at λo e=>h.extBut _ _ D.i1z e) (C.at λo e=>h.extBut _ _ D.l1z e) I λO e r he=>?_;obtain⟨K,u,j⟩:=he;exact aI<|wpAny_isInstance (T:="StopIteration") (b:=true) ⟨K,u,j⟩ isSubtype_stop<|bE<|H _ λc o L J q=>r _ _ J<|h.extBut _ _ L q
structure ZipSt(h:Heap)(S z TI TO i1 i2 l1 l2:Addr)(xs ys:List Value)(i:Nat)(ts:List Addr):Prop where
 zs:(ts=[]/\IsZip h z TI TO .none)\/∃T f,T∈ts/\uS h z TI TO T f
 tI:IsPair h TI (.ref i1) (.ref i2)
 tO:∃a b,IsPair h TO a b
 a1:h.IsListIter i1 l1 i
 a2:h.IsListIter i2 l2 i
 b1:h.IsList l1 xs.toArray
 b2:h.IsList l2 ys.toArray
 len:↑ts=i
 nd:ts.Nodup
 up:∀t∈ts,S<t
 prs:∀(j:Nat) t,ts[j]?=some t->∃x y,xs[j]?=some x/\ys[j]?=some y/\IsPair h t x y
def ZipSt.move{h h':Heap}{S z TI TO l d m n:Addr}{xs ys:List Value}{i:Nat}{ts:List Addr}(q:ZipSt h S z TI TO l d m n xs ys i ts)(w:z≠S/\TI≠S/\TO≠S/\l≠S/\d≠S/\m≠S/\n≠S)
  (k:∀b o,b≠S->h.get? b=some o->h'.get? b=some o):ZipSt h' S z TI TO l d m n xs ys i ts:=by
 obtain⟨u,K,L,N,G,B,O⟩:=w;obtain⟨zs,P,⟨a,b,W⟩,I,J,E,H,len,nd,s,r⟩:=q;refine⟨?_,k _ _ K P,⟨a,b,k _ _ L W⟩,I.at λo e=>k _ o N e,J.at λo e=>k _ o G e,E.at λo e=>k _ o B e,H.at λo e=>k _ o O e,len,nd,s,λj t e=>?_⟩
 .rcases zs with ⟨e,q⟩ | ⟨T,f,hT,q⟩
  .exact .inl ⟨e,k _ _ u q⟩
  .exact .inr ⟨T,f,hT,k _ _ u q⟩
 .obtain⟨x,y,C,A,M⟩:=r j t e;exact⟨x,y,C,A,k _ _ (dJ<|s t<|cW e) M⟩
def ZipSt.turn{S z TI TO m l r B:Addr}{xs ys:List Value}{i:Nat}{ts:List Addr}{Q:Option Value->Shared->Prop}(D:ZipApart z TI TO m l r B)(q:ZipSt s.heap S z TI TO m l r B xs ys i ts)
  (hS:S<s⁻¹) (ht:∀t∈ts,t≠z/\t≠TO/\t≠m/\t≠l) (hi:i<↑xs) (hl:↑xs=↑ys)
  (hQ:∀h' t,ZipSt h' S z TI TO m l r B xs ys (i+1) (ts++[t])->s⁻¹<=t->(∀c o,c≠z->c≠TO->c≠m->c≠l->s.heap.get? c=some o->h'.get? c=some o)->Q (some<|.ref t) {s with heap:=h'}):
  wpAny (model prog w) A (pyNext<|.ref z) Q E s:=by
 obtain⟨zs,W,⟨a,b,tO⟩,X,Y,K,L,len,nd,up,n⟩:=q;have ex:xs.toArray[i]?=some xs[i]:=by simp[hi]
 have ey:ys.toArray[i]?=some (ys[i]'(by lia)):=by simp[show i<ys.length by lia]
 have a6:xs[i]?=some xs[i]:=bD hi;have a4:ys[i]?=some (ys[i]'(by lia)):=bD (by lia);have Z:∀h':Heap,((∃T f,T∈ts++[s⁻¹]/\uS h' z TI TO T f))->(∃a b,IsPair h' TO a b)->h'.IsListIter m r (i+1)->h'.IsListIter l B (i+1)->IsPair h' s⁻¹ xs[i] (ys[i]'(by lia))->
   (∀c o,c≠z->c≠TO->c≠m->c≠l->s.heap.get? c=some o->h'.get? c=some o)->ZipSt h' S z TI TO m l r B xs ys (i+1) (ts++[s⁻¹]):=by
  intro h' hz a5 G c2 hp d;refine⟨.inr hz,d _ _ D.TIz D.TITO D.TIi1 D.TIi2 W,a5,G,c2,K.at λo e=>d _ o D.l1z D.l1TO D.l1i1 D.l1i2 e,L.at λo e=>d _ o D.l2z D.l2TO D.l2i1 D.l2i2 e,by rw[bI,len];rfl,?_,λt M=>?_,λj t e=>?_⟩
  .refine vh4.mpr ⟨nd,by simp,λt M u hu=>?_⟩;obtain⟨j,C⟩:=wr6.mp M;obtain⟨_,_,_,_,e⟩:=n j t C;rw[wn1.mp hu];exact bU<|bK e
  .rcases wp5.mp M with h | h
   .exact up t h
   .rw[wn1.mp h];exact hS
  .by_cases C:j<↑ts
   .rw[kG C]at e;obtain⟨x,y,e1,e2,e3⟩:=n j t e;obtain⟨n1,n2,n3,n4⟩:=ht t<|cW e;exact⟨x,y,e1,e2,d _ _ n1 n2 n3 n4 e3⟩
   .rw[jZ<|by lia]at e;have h0:j-↑ts=0:=by
     cases hz:j-↑ts with
     | zero=>rfl
     | succ k=>rw[hz]at e;simp at e
    rw[h0]at e;simp only[DP,BS]at e;subst e;have:j=i:=by lia
    subst this;exact⟨_,_,a6,a4,hp⟩
 rcases zs with ⟨rfl,hz⟩ | ⟨T,f,hT,hz⟩
 .exact RZ (p:=false) (q:=false) D hz W tO X Y K L ex ey λh' H g2 N J I d=>hQ h' _ (Z h' ⟨_,false,fY _<|wn1.mpr rfl,H⟩ ⟨_,_,g2⟩ N J I d) (aU _) d
 .obtain⟨j,C⟩:=wr6.mp hT;obtain⟨_,_,_,_,eT⟩:=n j T C;exact WR D hz eT W X Y K L ex ey λh' H N J I d=>hQ h' _ (Z h' ⟨T,true,tK _ hT,H⟩ ⟨_,_,d _ _ D.TOz D.TOi1 D.TOi2 tO⟩ N J I λc o G _ P O e=>d c o G P O e) (aU _) λc o G _ P O e=>d c o G P O e
def ZipSt.stop{S z TI TO h d m n:Addr}{xs ys:List Value}{ts:List Addr}{Q:Option Value->Shared->Prop}(r:A.handled=none)(D:ZipApart z TI TO h d m n)(q:ZipSt s.heap S z TI TO h d m n xs ys ↑xs ts)
  (x:∀h',(∀c o,c≠z->c≠TO->c≠h->c≠d->s.heap.get? c=some o->h'.get? c=some o)->Q none {s with heap:=h'}):wpAny (model prog w) A (pyNext<|.ref z) Q E s:=by
 obtain⟨zs,B,⟨a,b,L⟩,u,H,l,G,len,nd,M,i⟩:=q;have ex:xs.toArray[↑xs]?=none:=by simp
 rcases zs with ⟨rfl,hz⟩ | ⟨T,f,hT,hz⟩
 .exact QF (p:=false) (q:=false) r D hz B L u H l G (.inl ex) x
 .obtain⟨j,I⟩:=wr6.mp hT;obtain⟨_,_,_,_,eT⟩:=i j T I;exact Aq r D hz eT B u l ex λh' C=>x h' λc o K _ J _ e=>C c o K J e
def XD:typeLookup (.type "zip") "__len__"=pure none:=by(rw[nS,nC];kernel_rfl)
def UK:typeLookup (.type "zip") "__length_hint__"=pure none:=by(rw[nS,nC];kernel_rfl)
section
variable{R:Result->Shared->Prop}
def UT(a:s.TypeIs (.ref z) "zip")(h:Q true s):wpAny (model prog w) A (Builtin.List.listLengthHint<|.ref z) Q E s:=by
 unfold Builtin.List.listLengthHint;refine aI<|nZ a XD ?_;refine wpAny_ite_split (λc=>absurd c<|by decide) λ_=>?_;refine wpAny_ite_split (λc=>absurd c<|by decide) λ_=>?_;refine aI<|nZ a UK ?_;exact bE h
abbrev vG(h:Heap)(S:Addr)(ts:List Addr)(c:Nat):Prop:=h.get? S=some {cls:=.type "list",dict:=none,data:=.seq (ts.map Value.ref).toArray c,slots:=#[]}
structure LH(h₀ h:Heap)(S z TO i1 i2:Addr)(xs ys:List Value)(ts:List Addr):Prop where
 keep:∀b o,b≠S->b≠z->b≠TO->b≠i1->b≠i2->h₀.get? b=some o->h.get? b=some o
 lst:∃c,vG h S ts c
 len:↑ts=↑xs
 nd:ts.Nodup
 up:∀t∈ts,S<t
 prs:∀(j:Nat) t,ts[j]?=some t->∃x y,xs[j]?=some x/\ys[j]?=some y/\IsPair h t x y
def ZD{S z TI TO l f L M:Addr}{xs ys:List Value}(hh:A.handled=none)(D:ZipApart z TI TO l f L M)(lo:z<S/\TI<S/\TO<S/\l<S/\f<S/\L<S/\M<S)(hl:↑xs=↑ys)(hn:↑xs<=sizeLine)(res:Value){h₀:Heap}
  (hR:∀h' tk ts,LH h₀ h' S z TO l f xs ys ts->R (.ok<|.ret res) {s with heap:=h',toks:=tk}):
  ∀(m i:Nat)(h:Heap)(tk c:Nat)(ts:List Addr),↑xs-i=m->i<=↑xs->ZipSt h S z TI TO l f L M xs ys i ts->(∀b o,b≠S->b≠z->b≠TO->b≠l->b≠f->h₀.get? b=some o->h.get? b=some o)->vG h S ts c->
   codeAny (model prog w) A (.builtin "list.extend.loop" ⟨[.ref S,.ref z,res],[]⟩) R {s with heap:=h,toks:=tk}:=by
 obtain⟨B,o2,n,r,u,T,o7⟩:=lo;intro m
 induction m with
 | zero=>
  intro i h tk c ts Y hi q K I;have e:i=↑xs:=by lia
  subst e;refine codeAny_builtin F.entry_extend_loop ?_;rw[DK DT _];show wpAny _ A.in1 (pyNext (.ref z) >>= _) _ _ _;refine aI<|ZipSt.stop (s:={s with heap:=h,toks:=tk}) (A:=A.in1) hh D q λh' d=>bE<|hR h' tk ts ⟨λb o J H C E G e=>d b o H C E G<|K b o J H C E G e,⟨c,d S _ (dJ B) (dJ n) (dJ r) (dJ u) I⟩,q.len,q.nd,q.up,λj t P=>?_⟩;obtain⟨x,y,e1,Z,e3⟩:=q.prs j t P;have a:=q.up t<|cW P;exact⟨x,y,e1,Z,d t _ (dJ<|gE B a) (dJ<|gE n a) (dJ<|gE r a) (dJ<|gE u a) e3⟩
 | succ m ih=>
  intro i h tk c ts Y hi q K I;have N:i<↑xs:=by lia
  refine codeAny_builtin F.entry_extend_loop ?_;rw[DK DT _];show wpAny _ A.in1 (pyNext (.ref z) >>= _) _ _ _;refine aI<|ZipSt.turn (s:={s with heap:=h,toks:=tk}) D q (bK I) (λt a=>⟨dJ<|gE B<|q.up t a,dJ<|gE n<|q.up t a,dJ<|gE r<|q.up t a,dJ<|gE u<|q.up t a⟩) N hl λh' t q' a3 d=>?_;have O:vG h' S ts c:=d S _ (dJ B) (dJ n) (dJ r) (dJ u) I;have sz:(ts.map Value.ref).toArray.size=i:=by rw[cO,aK,q.len]
  obtain⟨c',a2⟩:∃c',vG (h'.update S<|Obj.mapSeq (·.push (Value.ref t))) S (ts++[t]) c':=by
   have X:((ts++[t]).map Value.ref).toArray=(ts.map Value.ref).toArray.push (.ref t):=by simp
   unfold vG;rw[X];exact⟨_,uZ (Obj.mapSeq (·.push (Value.ref t))) O rfl⟩
  show wpAny _ A.in1 (updateSeq S (·.push (Value.ref t)) >>= _) _ _ _;refine aI<|wpAny_updateSeq O rfl (bE ⟨plainId_quiet DT _,ih (i+1) _ tk c' (ts++[t]) (by lia) N (q'.move ⟨bU B,bU o2,bU n,bU r,bU u,bU T,bU o7⟩ λb o W e=>(pI _ _<|bL W).trans e) ?_ ?_⟩) ?_ ?_
  .exact λb o J H C E G e=>(pI _ _<|bL J).trans<|d b o H C E G<|K b o J H C E G e
  .exact a2
  .rw[sz];lia
  .show((ts.map Value.ref).toArray.push<|Value.ref t).size<=sizeLine+1;rw[Array.size_push,sz];lia
def UD{S z TI TO i d l m:Addr}{xs ys:List Value}{a b:Value}(M:A.handled=none)(D:ZipApart z TI TO i d l m)(lo:z<S/\TI<S/\TO<S/\i<S/\d<S/\l<S/\m<S)(hl:↑xs=↑ys)(H:↑xs<=sizeLine)(res:Value)
  (hz:IsZip s.heap z TI TO .none) (O:IsPair s.heap TI (.ref i) (.ref d)) (P:IsPair s.heap TO a b) (h1:s.heap.IsListIter i l 0) (h2:s.heap.IsListIter d m 0) (C:s.heap.IsList l xs.toArray) (W:s.heap.IsList m ys.toArray) {B:Nat} (q:vG s.heap S [] B)
  (hR:∀h' tk ts,LH s.heap h' S z TO i d xs ys ts->R (.ok<|.ret res) {s with heap:=h',toks:=tk}):
  wpAny (model prog w) A.in1 (Builtin.List.listExtendWith (.ref S) (.ref z) res)
   (λN s'=>match N with | .done f=>R (.ok f) s' | .again c'=>c'.quiet=true/\codeAny (model prog w) A c' R s') (λe s'=>R (.error e) s') s:=by
 obtain⟨r,Z,E,G,J,x,o7⟩:=id lo;unfold Builtin.List.listExtendWith;refine aI<|wpAny_typeOf (T:="zip") ⟨_,hz,rfl⟩ ?_;have L:Builtin.List.listSameRef (.ref S) (.ref z)=false:=by simp[Builtin.List.listSameRef,dJ r]
 have I:(Value.type "zip" == Value.type "list")=false:=by decide
 have Y:(Value.type "zip" == Value.type "tuple")=false:=by decide
 simp only[L,I,Y,Bool.or_false,ER,iW];refine aI<|wpAny_pyIter_zip hz<|aI<|iG<|UT ⟨_,hz,rfl⟩ ?_;refine wpAny_ite_split (λ_=>?_) λc=>absurd rfl c;refine aI<|sO<|aI ?_;show wpAny _ _ (updateSeq S (·.push .none) >>= λ_=>updateSeq S (·.pop)) _ _ s;refine aI<|wpAny_updateSeq q rfl ?_;have u:=uZ (Obj.mapSeq (·.push Value.none)) q rfl;refine wpAny_updateSeq (hz:=by seq_fits) u rfl ?_;have X:=uZ (Obj.mapSeq (·.pop)) u rfl;have kp:∀b o,b≠S->s.heap.get? b=some o->((s.heap.update S<|Obj.mapSeq (·.push Value.none)).update S<|Obj.mapSeq (·.pop)).get? b=some o:=λb o n e=>(pI _ _<|bL n).trans<|(pI _ _<|bL n).trans e;refine bE ⟨plainId_quiet DT _,ZD (s:=s) M D lo hl H res hR ↑xs 0 _ _ _ [] (Nat.sub_zero _) (bM _) ⟨.inl ⟨rfl,kp _ _ (bU r) hz⟩,kp _ _ (bU Z) O,⟨a,b,kp _ _ (bU E) P⟩,h1.at λo e=>kp _ o (bU G) e,h2.at λo e=>kp _ o (bU J) e,C.at λo e=>kp _ o (bU x) e,W.at λo e=>kp _ o (bU o7) e,rfl,kQ,(λt h=>nomatch h),(λj t e=>by simp at e)⟩ (λb o K _ _ _ _ e=>kp b o K e) X⟩
def YL{z TI TO f d i j:Addr}{xs ys:List Value}{a b:Value}{Q:Vp}(K:A.handled=none)(D:ZipApart z TI TO f d i j)(hl:↑xs=↑ys)(I:↑xs<=sizeLine)
  (hz:IsZip s.heap z TI TO .none) (n:IsPair s.heap TI (.ref f) (.ref d)) (m:IsPair s.heap TO a b) (h1:s.heap.IsListIter f i 0) (h2:s.heap.IsListIter d j 0) (u:s.heap.IsList i xs.toArray) (r:s.heap.IsList j ys.toArray)
  (T:∀h' tk ts,LH s.heap h' s⁻¹ z TO f d xs ys ts->Q (.ref s⁻¹) {s with heap:=h',toks:=tk}):wpAny (model prog w) A (call (.type "list") [.ref z]) Q E s:=by
 refine callType_codes (Q₁:=λl x=>l=.ref s⁻¹/\x={s with heap:=s.heap.push {cls:=.type "list",data:=.seq #[]}}) F.called_list (F.typeCall_list_1 _) F.entry_list_init (code_list_new _ ⟨rfl,rfl⟩) λl x q=>?_;obtain⟨rfl,rfl⟩:=q;have H:z<s⁻¹:=bK hz;have L:TI<s⁻¹:=bK n;have O:TO<s⁻¹:=bK m;have C:f<s⁻¹:=by obtain⟨_,e,_⟩:=h1;exact bK e
 have N:d<s⁻¹:=by obtain⟨_,e,_⟩:=h2;exact bK e
 have B:i<s⁻¹:=by obtain⟨_,e,_⟩:=u;exact bK e
 have G:j<s⁻¹:=by obtain⟨_,e,_⟩:=r;exact bK e
 have h:(s.heap.push {cls:=.type "list",data:=.seq #[]}).get? s⁻¹=some {cls:=.type "list",data:=.seq #[]}:=dD _ rfl;exists ⟨_,h,rfl⟩,F.args_list_init_2 _ _;show wpAny _ A.in1.in1 (do let old <-Builtin.List.listItems (.ref s⁻¹);Builtin.List.listUpdate (.ref s⁻¹) λ_=>#[];letGo old.toList.reverse;Builtin.List.listExtendWith (.ref s⁻¹) (.ref z) .none) _ _ _;refine aI ?_;unfold Builtin.List.listItems;refine aI<|jG h rfl<|bE ?_;show wpAny _ _ (updateSeq s⁻¹ (λ_=>#[]) >>= λ_=>letGo (#[]:Array Value).toList.reverse >>= λ_=>Builtin.List.listExtendWith (.ref s⁻¹) (.ref z) .none) _ _ _;refine aI<|wpAny_updateSeq h rfl ?_;have W:=uZ (Obj.mapSeq λ_=>(#[]:Array Value)) h rfl;have kp:∀b o,s.heap.get? b=some o->((s.heap.push {cls:=.type "list",data:=.seq #[]}).update s⁻¹<|Obj.mapSeq λ_=>(#[]:Array Value)).get? b=some o:=
  λb o e=>(pI _ _<|dJ<|bK e).trans<|bS _ e
 refine aI<|wpAny_letGo ?_;refine UD (A:=A.in1) K D ⟨H,L,O,C,N,B,G⟩ hl I .none (kp _ _ hz) (kp _ _ n) (kp _ _ m) (h1.at λo e=>kp _ o e) (h2.at λo e=>kp _ o e) (u.at λo e=>kp _ o e) (r.at λo e=>kp _ o e) W λh' tk ts q=>⟨rfl,T h' tk ts ?_⟩;exact⟨λb o J Y M P X e=>q.keep b o J Y M P X<|kp b o e,q.lst,q.len,q.nd,q.up,q.prs⟩
end
def kF(H:Hp)(S:Addr)(ts:List Addr)(xs ys:List V):Hp:=λb=>if b=S then some (.lst<|ts.map V.ref) else if b∈ts then some (.tup [xs.getD (ts.idxOf b) .non,ys.getD (ts.idxOf b) .non]) else H b
def pT{ts:List Addr}(nd:ts.Nodup){j:Nat}{t:Addr}(e:ts[j]?=some t):ts.idxOf t=j:=by
 obtain⟨f,a⟩:=zz2.mp e;have b:t∈ts:=cW e;have d:ts.idxOf t<↑ts:=List.idxOf_lt_length_iff.mpr b;have h2:ts[ts.idxOf t]=t:=List.getElem_idxOf d;exact(wL nd).mp<|h2.trans a.symm
theorem RI:∀ts:List Addr,Vals (ts.map V.ref)<|ts.map Value.ref
 | []=>.nil
 | t::r=>.cons rfl<|RI r
def Ao(K:Fq)(ta:TA):TE:=λσ H Q=>ta σ H λvs H1=>∃(l1 l2:Addr)(xs ys:List V),vs=[.ref l1,.ref l2]/\SqL K H1 l1 xs/\SqL K H1 l2 ys/\↑xs=↑ys/\
 ∀(l:Addr)(ts:List Addr)(H':Hp),(∀b o,H1 b=some o->H' b=some o)->H1 l=none->H' l=some (.lst<|ts.map V.ref)->↑ts=↑xs->
  (∀(j:Nat) t,ts[j]?=some t->∃x y,xs[j]?=some x/\ys[j]?=some y/\H' t=some (.tup [x,y]))->Q (.ref l) H'
theorem boot_list:bootBuiltins "list"=some (.type "list"):=by first | exact PySem.boot_list | rfl'
def UF{X:Cx}{a b:Expr}{ta:TA}{p C pos z:Pos}(hc:X.calm=true)(ad:Gl X "list")(ae:X.mg "list"=none)(al:Gl X "zip")(af:X.mg "zip"=none)(ha:PA X [a,b] ta)
  (hs:starEach [a,b] X.env=[(false,eval a X.env),(false,eval b X.env)]:=by rfl) (aa:starEach [b] X.env=[(false,eval b X.env)]:=by rfl)
  (he:starEach [.Call (.Name "zip" C) [a,b] [] z] X.env=[(false,eval (.Call (.Name "zip" C) [a,b] [] z) X.env)]:=by rfl):
  PE X (.Call (.Name "list" p) [.Call (.Name "zip" C) [a,b] [] z] [] pos) (Ao X.K ta):=by
 intro a4 s σ H Q I h;refine vS<|kL I ad ae boot_list ?_;refine oB ?_ (by rw[he];rfl) rfl;rw[he];show wpAny _ _ (spliced<|(false,eval (.Call (.Name "zip" C) [a,b] [] z) X.env)::[]) _ _ s;refine kU<|aQ (Q:=λu s₂=>wpAny (model X.prog X.w) X.A (call (.type "list") [u]) (EP X a4 σ Q) X.xe s₂) ?_ λu s₂ q=>tZ q;refine Call_ (kL I al af boot_zip<|oB (aQ (ha z a4 s σ H _ I h) λus d ⟨vs,H1,m,r1,q1⟩=>?_) (by rw[hs,aa])<|by rw[aa];rfl);obtain⟨l1,l2,xs,ys,e,ak,an,hl,q⟩:=q1;subst e;cases r1 with
 | cons r rr=>
  cases rr with
  | cons r' rr=>
   cases rr;cases r;cases r';obtain⟨a7,n,ac,a9⟩:=m.list ak;obtain⟨a8,W,ab,ap⟩:=m.list an;have p1:=ac.isList;have p2:=ab.isList;have ao:l1<d⁻¹:=by obtain⟨o,e,_⟩:=p1;exact bK e
   have ag:l2<d⁻¹:=by obtain⟨o,e,_⟩:=p2;exact bK e
   have D:ZipApart (d⁻¹+4) (d⁻¹+2) (d⁻¹+3) d⁻¹ (d⁻¹+1) l1 l2:=zipApart_new ao ag;refine call_zip_2 p1 p2 λh' hz am aj h1 h2 hsz P=>?_;refine YL (s:={d with heap:=h'}) (m.ok.hd hc) D (xs:=a7) (ys:=a8) (by rw[<-↑n,<-W.length];exact hl) (by rw[<-↑n];exact a9) hz am aj h1 h2 (p1.at λo e=>P _ o e) (p2.at λo e=>P _ o e) λL tk ts i=>?_
   have E:d⁻¹<h'.objs.size:=by rw[hsz];lia
   have k2:∀b o,d.heap.get? b=some o->L.get? b=some o:=λb o e=>by
    have f:b<d⁻¹:=bK e;exact i.keep b o (bU<|gE f E) (bU<|fM f<|nJ _ _) (bU<|fM f<|nJ _ _) (bU f) (bU<|fM f<|nJ _ _)<|P b o e
   have a2:∀b,b<d⁻¹->kF H1 h'.objs.size ts xs ys b=H1 b:=λb f=>by
    unfold kF;rw[aY<|bU<|gE f E,aY λl=>iC b<|gE (gE f E)<|i.up b l]
   have lt:∀b u,H1 b=some u->b<d⁻¹:=λb u e=>by
    rcases Nat.lt_or_ge b d⁻¹ with h | h
    .exact h
    .rw[m.hok.fresh h]at e;cases e
   have a0:∀b o,H1 b=some o->kF H1 h'.objs.size ts xs ys b=some o:=λb o e=>by rw[a2 b<|lt b o e];exact e
   have B:∀(j:Nat) t,ts[j]?=some t->∃x y u v,xs[j]?=some x/\ys[j]?=some y/\RelV x u/\RelV y v/\IsPair L t u v/\kF H1 h'.objs.size ts xs ys t=some (.tup [x,y]):=λj t e=>by
    obtain⟨u,v,J,G,e3⟩:=i.prs j t e;have ai:j<↑xs:=by rw[↑n];exact(zz2.mp J).1
    have ah:j<↑ys:=by rw[W.length];exact(zz2.mp G).1
    have Z:xs[j]?=some xs[j]:=bD ai;have Y:ys[j]?=some ys[j]:=bD ah;obtain⟨u',eu,M⟩:=n.get Z;obtain⟨v',ev,O⟩:=W.get Y;rw[J]at eu;rw[G]at ev;cases eu;cases ev;have l:t∈ts:=cW e;exists _,_,u,v,Z,Y,M,O,e3;unfold kF;rw[aY<|dJ<|i.up t l,bC l,pT i.nd e,fQ,fQ,Z,Y];rfl
   have N:HOk X.prog X.w (kF H1 h'.objs.size ts xs ys) L:=by
    intro b o e
    by_cases f:b=h'.objs.size
    .subst f;have:kF H1 h'.objs.size ts xs ys h'.objs.size=some (.lst<|ts.map V.ref):=by unfold kF;rw[bC rfl]
     rw[this]at e;cases e;obtain⟨c,ec⟩:=i.lst;exact⟨by rw[aK,i.len,<-↑n];exact a9,ts.map Value.ref,c,RI ts,ec⟩
    .by_cases l:b∈ts
     .obtain⟨j,hj⟩:=wr6.mp l;obtain⟨x,y,u,v,_,_,M,O,ep,T⟩:=B j b hj;rw[T]at e;cases e;exact⟨⟨by show 2<=sizeLine;exact cL (bH<|by lia),_,ep,rfl⟩,[u,v],.cons M<|.cons O .nil,_,ep,rfl,_,rfl⟩
     .have:kF H1 h'.objs.size ts xs ys b=H1 b:=by unfold kF;rw[aY f,aY l]
      rw[this]at e;exact(m.hok b o e).stay (λc v _ r=>k2 c v r) (λc r=>a0 c _ r) λc zs r=>a0 c _ r
   exists .ref h'.objs.size,_,m.laidMany (t':=tk) k2 a2 N,rfl;refine q h'.objs.size ts _ a0 (m.hok.fresh<|cL E) (by unfold kF;rw[bC rfl]) (by rw[i.len,↑n]) λj t e=>?_
   obtain⟨x,y,u,v,J,G,_,_,_,T⟩:=B j t e;exact⟨x,y,J,G,T⟩
inductive A2{α β:Type}(R:α->β->Prop):List α->List β->Prop
 | nil:A2 R [] []
 | cons {a:α} {b:β} {as:List α} {bs:List β} (h:R a b) (t:A2 R as bs):A2 R (a::as) (b::bs)
def A2.imp{α β:Type}{R S:α->β->Prop}(f:∀a b,R a b->S a b){as:List α}{bs:List β}(h:A2 R as bs):A2 S as bs:=by
 induction h with
 | nil=>exact .nil
 | cons h _ ih=>exact .cons (f _ _ h) ih
def A2.app{α β:Type}{R:α->β->Prop}{as a:List α}{bs b:List β}(h:A2 R as bs)(g:A2 R a b):A2 R (as++a) (bs++b):=by
 induction h with
 | nil=>exact g
 | cons h _ ih=>exact .cons h ih
def A2.snoc{α β:Type}{R:α->β->Prop}{as:List α}{bs:List β}{a:α}{b:β}(h:A2 R as bs)(g:R a b):A2 R (as++[a]) (bs++[b]):=h.app<|.cons g .nil
def A2.len{α β:Type}{R:α->β->Prop}{as:List α}{bs:List β}(h:A2 R as bs):↑as=↑bs:=by
 induction h with
 | nil=>rfl
 | cons _ _ ih=>exact cK (·+1) ih
def A2.get{α β:Type}{R:α->β->Prop}{as:List α}{bs:List β}(h:A2 R as bs):∀{i:Nat}{a:α},as[i]?=some a->∃b,bs[i]?=some b/\R a b:=by
 induction h with
 | nil=>intro i a e;simp at e
 | cons h _ ih=>
  intro i a e;cases i with
  | zero=>cases e;exact⟨_,rfl,h⟩
  | succ i=>exact ih e
section
variable{pins:List (Addr×Obj)}{σ:List (Option V)}{H:Hp}{s:Shared}{A:Around}
end
open Classical in
def gX(x y:V):Prop:=(∃s:Str,x=.str s/\y=.str s)\/(∃i:Int,x=.int i/\y=.int i)\/x=.non/\y=.non
def TQ(K:Fq)(H:Hp)(a:Addr)(xs:List V):Prop:=H a=some (.tup xs)\/∀H',SqT K H' a xs
inductive LU(K:Fq)(H:Hp)(R:V->V->Prop)(x y:V):Prop
 | mk(a b:Addr)(xs ys:List V)(h1:x=.ref a)(h2:y=.ref b)(h3:TQ K H a xs)(h4:TQ K H b ys)(h5:A2 R xs ys): LU K H R x y
def Sm(K:Fq)(H:Hp):Nat->V->V->Prop
 | 0=>gX
 | n+1=>λx y=>gX x y\/LU K H (Sm K H n) x y
section
variable{pins:List (Addr×Obj)}{σ:List (Option V)}{H:Hp}{s:Shared}
end
section
variable{tg:Expr}
end
section
variable{o i e value:Expr}{pos:Pos}{td ty:TE}
end
abbrev HC(w:World):Bool:=w.params.followText "set-order"
def xM(w:World)(e:Int×Value):Prop:=∃x tk,e=(hashStr w x,.str x tk)
inductive HP(w:World)(h:Heap)(a:Addr)(ss:List Str):Prop
 | mk(es:Array (Int×Value))(ep:Nat)(t:SetTable)(h1:h.get? a=some {cls:=.type "set",data:=.set es ep t})(h2:∀e∈es.toList,xM w e)(h3:ss=es.toList.map DS)(h4:ss.Nodup)(h5:t.fits es.size=true)(h6:t.led=!HC w)(h7:ss=[]\/t.plain=false):HP w h a ss
section
variable{a I:Addr}{es:Array (Int×Value)}{ep:Nat}{t:SetTable}
end
theorem Inv.drawn{a:List (Addr×Obj)}{σ:St}{H:Hp}{s:Shared}{d:Drawn}(I:Inv X a σ H s):Inv X a σ H {s with drawn:=d}:=⟨I.ok,I.os,I.bare,I.base,I.loc,I.cell,I.free,I.freeC,I.pin,I.hok,I.len⟩
structure vR(K:Fq)(C:Addr)(fs:List Str):Prop where
 c:Cls K C
 n:∀f∈fs,NoAttr K C f
inductive UY(C:Addr)(f:Str)(x:V)(H:Hp)(Q:VK):Prop
 | mk(a dx:Addr)(fs:List (Str×V))(v:V)(h1:x=.ref a)(h2:H a=some (.ins C dx fs))(h3:fs.lookup f=some v)(q:Q v H)
def YQ(C:Addr)(f:Str)(ta:TE):TE:=λσ H Q=>ta σ H λx H1=>UY C f x H1 Q
inductive Ax(C:Addr)(f:Str)(x y:V)(H:Hp)(Q:Hp->Prop):Prop
 | mk(a dx:Addr)(fs:List (Str×V))(h1:x=.ref a)(h2:H a=some (.ins C dx fs))(h3:↑fs<1000)(q:Q (upd H a<|.ins C dx<|cE f y fs))
def XA(C:Addr)(f:Str)(ta tv:TE):TS:=λD σ H=>tv σ H λy H1=>ta σ H1 λx H2=>Ax C f x y H2<|D.nx σ
inductive ZI(C:Addr)(f:Str)(g:Int->Int->Int)(tv:TE)(σ:St)(D:cR)(x:V)(H:Hp):Prop
 | mk(a dx:Addr)(fs:List (Str×V))(i:Int)(h1:x=.ref a)(h2:H a=some (.ins C dx fs))(h3:fs.lookup f=some (.int i))(q:tv σ H λy H2=>∃j dx' fs',y=.int j/\H2 a=some (.ins C dx' fs')/\↑fs'<1000/\D.nx σ (upd H2 a<|.ins C dx'<|cE f (.int<|g i j) fs'))
def VH(C:Addr)(f:Str)(g:Int->Int->Int)(ta tv:TE):TS:=λD σ H=>ta σ H λx H1=>ZI C f g tv σ D x H1
section
variable{o e value:Expr}{f:Str}{pos pos' tpos:Pos}{ta tv:TE}{C:Addr}{fs:List Str}
def dH(Z:vR X.K C fs)(he:PE X e ta)(m:f∈fs:=by rfl')(b:attributeBase e f X.env (eval e X.env)=eval e X.env:=by rfl):PE X (.Attribute e f pos) (YQ C f ta):=by
 intro w s σ H Q I h;refine UV b<|aQ (he w s σ H _ I h) ?_;rintro u z ⟨x,H1,o,i,a,dx,fs,v,ex,j,l,q⟩;subst ex;obtain rfl:u=Value.ref a:=i;exact MA o j Z.c (Z.n f m) l λA s2 r d=>⟨v,H1,r,d,q⟩
def fV(Z:vR X.K C fs)(z:PE X o ta)(E:PE X value tv)(w:f∈fs:=by rfl')(hs:swapsWith value (some<|.Attribute o f pos') pos.line X.env=pure false:=by rfl):PS X (.Assign [.Attribute o f pos'] value pos) (XA C f ta tv):=by
 intro b s σ H D I h;refine plainObj_wpAny_Assign_Attribute (aQ (E b s σ H _ I h) ?_) hs;rintro u d ⟨y,H1,A,j,q⟩;refine aQ (z b d σ H1 _ A q) ?_;rintro B s2 ⟨x,H2,e,m,a,dx,fs,ex,r,l,i⟩;subst ex;obtain rfl:B=Value.ref a:=m;exact RB e r Z.c (Z.n f w) l j λs3 G=>⟨σ,_,G,i⟩
def xQ{d:Operator}{g:Int->Int->Int}(Z:vR X.K C fs)(E:PE X o ta)(Y:PE X value tv)(P:xG X d λx y H Q=>∃i j,x=.int i/\y=.int j/\Q (.int<|g i j) H)(e:f∈fs:=by rfl'):PS X (.AugAssign (.Attribute o f tpos) d value pos) (VH C f g ta tv):=by
 intro b s σ H D I h;refine wpAny_AugAssign_AttributeAny<|aQ (E b s σ H _ I h) ?_;rintro J s1 ⟨x,H1,G,r,a,dx,fs,i,ex,A,l,q⟩;subst ex;obtain rfl:J=Value.ref a:=r;refine MA G A Z.c (Z.n f e) l λu s2 M m=>aQ (Y b s2 σ H1 _ M q) ?_;rintro w3 s3 ⟨y,H2,L,T,j,a3,a4,W,N,l',B⟩;refine aQ (P b s3 σ H2 (.int i) y u w3 (λz H3=>z=.int (g i j)/\H3=H2) L m T ⟨i,j,rfl,W,rfl,rfl⟩) ?_;rintro w4 s4 ⟨z,H3,I4,O,rfl,rfl⟩;exact RB I4 N Z.c (Z.n f e) l' O λs5 w=>⟨σ,_,w,B⟩
end
section
variable{M:Model}{A:Around}{E:Vp}{s:Shared}{st:SortSt}{n:Nat}{act:Nat->StateT SortSt Sem (Option Bool)}
end
structure MQ(st st':SortSt):Prop where
 kd:kindOf st'=kindOf st
 ar:arrOf st'=arrOf st
 pe:pendingOf st'=pendingOf st
 fa:failedOf st'=failedOf st
section
variable{kd:SortKind}{U:Keyed->Prop}{LT:Keyed->Keyed->Bool}{st:SortSt}
end
section
variable{a b out:Array Keyed}{i j:Nat}{x:Keyed}
end
section
variable{kd:SortKind}{U:Keyed->Prop}{LT:Keyed->Keyed->Bool}{st:SortSt}
end
section
variable{a b out:Array Keyed}{i j:Nat}{x:Keyed}
def Hd(a b out:Array Keyed)(i j:Nat):Prop:=(a.toList.take i++(b.toList.take j++out.toList.reverse)).Perm<|a.toList++b.toList
end
section
variable{kd:SortKind}{U:Keyed->Prop}{LT:Keyed->Keyed->Bool}{st:SortSt}
end
structure SB(kd:SortKind)(a₀:Array Keyed)(pe:Array (Nat×Nat×Nat))(st:SortSt):Prop where
 pm:(arrOf st).Perm a₀
 kd:kindOf st=kd
 fa:failedOf st=none
 pe:pendingOf st=pe
section
variable{kd:SortKind}{LT:Keyed->Keyed->Bool}{a₀:Array Keyed}{pe:Array (Nat×Nat×Nat)}{st:SortSt}{lo:Nat}
end
section
variable{kd:SortKind}{LT:Keyed->Keyed->Bool}{a₀:Array Keyed}{st:SortSt}
inductive Rn(n mr lo:Nat)(st:SortSt):Prop
 | zero:lo=0->pendingOf st=#[]->Rn n mr lo st
 | one (p:Nat):1<=lo->lo<=n->(lo=n\/mr<=lo)->pendingOf st=#[(0,lo,p)]->Rn n mr lo st
 | two (m r p:Nat):lo=n->m+r=n->1<=m->1<=r->pendingOf st=#[(0,m,p),(m,r,0)]->Rn n mr lo st
end
section
variable{kd:SortKind}{LT:Keyed->Keyed->Bool}
end
abbrev Pr:=Str×Str
section
variable{it d:Addr}{od:Obj}{es:Array DictEntry}{i ep:Nat}
def DE(h:Heap)(d:Addr)(es:Array DictEntry)(ep:Nat):Prop:=∃od,h.get? d=some od/\od.cls=.type "dict"/\od.data=.dict es ep
end
section
variable{T:String}{r d:Addr}{n:Nat}{P:Nat->Value->Prop}{OK:Heap->Prop}
end
section
variable{scope:Scope}{N':List Str}{src:List (Option Nat)}{pins:List (Addr×Obj)}{σ:St}{H2:Hp}{s2:Shared}
end
section
variable{KK:Type}[DecidableEq KK]{knd:HeapKind prog w KK}
end
def iL(p:Pr):List aG:=[Sum.inr p.1,Sum.inr p.2]
def LQ(h:iL p=iL q):p=q:=by
 unfold iL at h;injection h with h1 h2;injection h2 with h2 _;exact Prod.ext (iY h1)<|iY h2
abbrev CD(P:Program)(w:World):=tupleKind<|cB P w
section
variable{pins:List (Addr×Obj)}{σ:St}{H:Hp}{s:Shared}
def FT(I:Inv X pins σ H s)(h:SqT X.K H b [.str n.1,.str n.2]):(CD X.prog X.w).is s.heap (iL n) b:=by
 obtain⟨its,r,⟨o,h1,h2,m,a⟩,_⟩:=I.tuple h;exact⟨o,its.toArray,m,h1,h2,a,by simpa using HR (ks:=iL n) r⟩
end
section
variable{i o:Expr}{ty td:TE}
end
open Classical in
open Classical in
open Classical in
def OR:Manifest.owners.lookup (String.ofList ['d','e','s','r','e','v','e','r'].reverse)=some Manifest.sig_reversed:=by kernel_rfl
def ZH:Slot "reversed" "__init__" "object.__init__":=.of (owner:="object") (n:="__init__") (by(rw[nS,nC];kernel_rfl)) (by rfl') (by rfl') (by rfl') (by first | exact .inl (by rfl') | exact .inr (by rfl')) (by(rw[uY];kernel_rfl))
def zr5:Slot "reversed" "__next__" "reversed.__next__":=.of (owner:="reversed") (n:="__next__") (by(rw[nS,nC];kernel_rfl)) (by rfl') (by rfl') (by rfl') (by first | exact .inl (by rfl') | exact .inr (by rfl')) (by(rw[uY];kernel_rfl))
def LN:Slot "reversed" "__iter__" "reversed.__iter__":=.of (owner:="reversed") (n:="__iter__") (by(rw[nS,nC];kernel_rfl)) (by rfl') (by rfl') (by rfl') (by first | exact .inl (by rfl') | exact .inr (by rfl')) (by(rw[uY];kernel_rfl))
def NQ:entryFor table "reversed.__next__"=some Builtin.«reversed.__next__»:=entryFor_of_tree (by kernel_rfl)
def ZZ:entryFor table "reversed.__new__"=some Builtin.«reversed.__new__»:=entryFor_of_tree (by kernel_rfl)
def XM:entryFor table "reversed.__iter__"=some Builtin.«dict_keyiterator.__iter__»:=
 entryFor_alias (id':="dict_keyiterator.__iter__") (by kernel_rfl) (by first | rfl | rfl' | (unfold String.splitOn;(simp +decide [String.splitOnAux]))) (by rfl') (by kernel_rfl)
def OM(a:Value):argsOk "reversed.__next__" ⟨[a],[]⟩:=by
 unfold argsOk;(rw[signature?_of (id:="reversed.__next__") (n:=['_','_','t','x','e','n','_','_']) (o:=['d','e','s','r','e','v','e','r']) (by kernel_rfl) OR];kernel_rfl)
def WZ(a:Value):argsOk "reversed.__iter__" ⟨[a],[]⟩:=by
 unfold argsOk;(rw[signature?_of (id:="reversed.__iter__") (n:=['_','_','r','e','t','i','_','_']) (o:=['d','e','s','r','e','v','e','r']) (by kernel_rfl) OR];kernel_rfl)
def NF:mroOf (.type "reversed")=pure [.type "reversed",.type "object"]:=by(rw[mroOf_type];kernel_rfl)
def UL:typeLookup (.type "reversed") "__new__"=pure (some<|.builtin "reversed.__new__"):=by(rw[nS,nC];kernel_rfl)
def Be:TypeCalled "reversed" "reversed.__new__" "object.__init__":=
 ⟨by rfl',by rfl',⟨_,_,NF⟩,madeBy_type NF UL (by rfl'),by rfl',by(rw[uY];kernel_rfl),ZH⟩
def zS(a:Value):checkTypeCall "reversed" ⟨[a],[]⟩=pure ():=by kernel_rfl
def xR(a:Value):checkBuiltinCall "reversed.__new__" ⟨[.type "reversed",a],[]⟩=pure ():=by kernel_rfl
def sZ:isSubtype (.type "reversed") (.type "reversed")=pure true:=by(rw[uY];kernel_rfl)
def SI:typeLookup (.type "tuple") "__reversed__"=pure none:=by(rw[nS,nC];kernel_rfl)
abbrev mG(h:Heap)(it a:Addr)(j:Int):Prop:=h.get? it=some {cls:=.type "reversed",dict:=none,data:=.fields #[.ref a,.int j 0],slots:=#[]}
def VS(a:Addr)(xs:Array Value)(m:xs.size<=sizeLine):
  Meets (Builtin.«reversed.__new__» ⟨[.type "reversed",.ref a],[]⟩) (λ_ R s=>s.heap.IsTuple a xs/\∀tk,R (.ok<|.ret<|.ref s⁻¹) {s with heap:=s.heap.push {cls:=.type "reversed",data:=.fields #[.ref a,.int ((xs.size:Int)-1) 0]},toks:=tk}):=
 .of_wp λprog w A R s h=>by
  obtain⟨b,h⟩:=h;have j:=sZ;have ty:s.TypeIs (.ref a) "tuple":=b.typeIs;obtain⟨hp,g,d,tk,os⟩:=s;have f:isSubtype (.type "tuple") (.type "dict")=pure false:=by(rw[uY];kernel_rfl)
  have l:=vd9.lookup;have n:=SI;have o:=lT;have hl:IsTup (Shared.heap ⟨hp,g,d,tk,os⟩) a xs:=b;have e:(xs.size:Int)<2 ^ 63:=by lia
  have i:∀{Q:Vp}{A:Around}{E:Vp},Q (.int xs.size<|tk+1) ⟨hp,g,d,tk+1+1,os⟩->wpAny (model prog w) A (call (.builtin "len") [.ref a]) Q E ⟨hp,g,d,tk,os⟩:=λh=>len_tuple (s:=⟨hp,g,d,tk,os⟩) hl e h
  wp_walk using nZ ty SI,wpAny_isInstance ty f,nZ ty vd9.lookup,i
  exact⟨_,rfl,h _⟩
def TJ(b:xs.size<=sizeLine)(d:s.heap.IsTuple a xs)(h:∀tk,mG (s.heap.push {cls:=.type "reversed",data:=.fields #[.ref a,.int ((xs.size:Int)-1) 0]}) s⁻¹ a ((xs.size:Int)-1)->Q (.ref s⁻¹) {s with heap:=s.heap.push {cls:=.type "reversed",data:=.fields #[.ref a,.int ((xs.size:Int)-1) 0]},toks:=tk}):
  wpAny (model prog w) A (call (.type "reversed") [.ref a]) Q E s:=by
 refine callType_new Be (by decide) (zS _) (xR _) (λobj=>F.args_object_init_2 obj _) ZZ (VS a xs b) ⟨d,λtk=>?_⟩;have g:(s.heap.push {cls:=.type "reversed",data:=.fields #[.ref a,.int ((xs.size:Int)-1) 0]}).get? s⁻¹=some _:=dD _ rfl;exact⟨⟨_,g,rfl⟩,h tk g⟩
def RF(b:mG s.heap it a j)(h:Q (.ref it) s):wpAny (model prog w) A (pyIter<|.ref it) Q E s:=by
 have ty:s.TypeIs (.ref it) "reversed":=⟨_,b,rfl⟩;refine wpAny_pyIter_slot ty LN<|jR LN ty XM ?_<|WZ _;refine bE ⟨_,rfl,"reversed",_,ty,zr5.lookup,h⟩
def WU{it a:Addr}{j:Nat}{xs:Array Value}{x:Value}{Q:Option Value->Shared->Prop}(b:mG s.heap it a (j:Int))(e:IsTup s.heap a xs)(q:a≠it)(n:xs.size<=sizeLine)(d:xs[j]?=some x)
  (m:∀h' tk,mG h' it a ((j:Int)-1)->Heap.SameBut it s.heap h'->Q (some x) {s with heap:=h',toks:=tk}):wpAny (model prog w) A (pyNext<|.ref it) Q E s:=by
 have ty:s.TypeIs (.ref it) "reversed":=⟨_,b,rfl⟩;unfold pyNext;refine aI<|uP<|lW (name:=Str.ofString "__next__") ty zr5<|jR zr5 ty NQ ?_<|OM _;show wpAny _ _ (field (.ref it) 0 >>= _) _ _ s;refine aI<|eQ b rfl (x:=.ref a) rfl ?_;show wpAny _ _ (field (.ref it) 1 >>= _) _ _ s;refine aI<|eQ b rfl (x:=.int (j:Int) 0) rfl ?_;show wpAny _ _ (if (j:Int)<0 then _ else _) _ _ s;rw[aY<|by lia];refine aI<|nZ e.typeIs vd9.lookup ?_;show wpAny _ _ (mkInt (j:Int) >>= _) _ _ s;refine aI<|wpAny_mkInt ?_;have o:j<xs.size:=by
  rcases Nat.lt_or_ge j xs.size with h | h
  .exact h
  .rw[EE h]at d;cases d
 have r:=lT;have f:IsTup (Shared.heap {s with toks:=s.toks+1}) a xs:=e;refine aI<|uP<|getItem_tuple (s:={s with toks:=s.toks+1}) (j:=j) f (by lia) (by lia) (by unfold seqIndex?;(simp only[show ¬((j:Int)<0) by lia,iW];rw[bC<|by simp;lia];simp)) d ?_;show wpAny _ _ (field (.ref it) 1 >>= _) _ _ _;refine aI<|eQ b rfl (x:=.int (j:Int) 0) rfl ?_;refine aI<|kY b (by simp) λh' i l=>?_;refine bE ⟨_,rfl,?_⟩;exact bE<|m h' _ i l
def sK(h:A.handled=none)(d:mG s.heap it a j)(q:j<0)(r:∀h' tk,Heap.ExtBut it s.heap h'->Q none {s with heap:=h',toks:=tk}):wpAny (model prog w) A (pyNext<|.ref it) Q E s:=by
 have ty:s.TypeIs (.ref it) "reversed":=⟨_,d,rfl⟩;unfold pyNext;refine aI<|uP<|lW (name:=Str.ofString "__next__") ty zr5<|jR zr5 ty NQ ?_<|OM _;show wpAny _ _ (field (.ref it) 0 >>= _) _ _ s;refine aI<|eQ d rfl (x:=.ref a) rfl ?_;show wpAny _ _ (field (.ref it) 1 >>= _) _ _ s;refine aI<|eQ d rfl (x:=.int j 0) rfl ?_;show wpAny _ _ (if j<0 then _ else _) _ _ s;rw[bC q];refine aI<|sO ?_;refine aI ?_;show wpAny _ _ (setField (.ref it) 1 (rawInt<|-1) >>= λ_=>setField (.ref it) 0 .none) _ _ s;refine aI<|kY d (by simp) λu i l=>?_;refine kY i (by simp) λB z n=>?_
 refine aI ?_;show wpAny _ _ (newExc (.type "StopIteration") [] >>= _) _ _ _;refine aI ?_;simp only[newExc,newTuple];refine aI (jO ?_<|by size_fits);refine aI (m:=firstArgMember _ _)<|wpAny_of_eq (a:=Value.none) (by first | rfl | (simp only[firstArgMember];rfl)) ?_;refine jO ?_ (by size_fits);simp only[raiseNew];refine aI<|wpAny_handled ?_;first | rw[show A.in1.handled=none from h] | rw[h]
 refine aI<|bE<|wpAny_throw ?_;refine aI<|wpAny_isInstance (T:="StopIteration") (b:=true) ⟨_,dD _ rfl,rfl⟩ isSubtype_stop<|bE<|r _ _ ?_;exact λb o f e=>bS _<|bS _<|n.extBut _ _ f<|l.extBut _ _ f e
def kB(K:Fq)(a:Addr)(n:Nat):It:=
 ⟨λi H=>∃xs x,SqT K H a xs/\↑xs=n/\xs.reverse[i]?=some x,λi H x H'=>H'=H/\∀xs,SqT K H a xs->xs.reverse[i]?=some x,λi H=>∃xs,SqT K H a xs/\↑xs=n/\n<=i⟩
def WV{P:Program}{w:World}{K:Fq}{tg:Expr}(a it:Addr)(Z:a≠it)(n:Nat):eS P w K tg (kB K a n) [it] it (λi h=>mG h it a<|(n:Int)-1-(i:Nat)) where
 mem:=by simp
 obj:=λi h st b d=>by
  have e:b=it:=by simpa using d
  subst e;exact⟨_,st,λv z=>by cases z⟩
 keep:=λi h h' st k=>k it (by simp) _ st
 item:=by
  intro X B J l T i N s σ H E I f st q;subst B J l;obtain⟨xs,x,m,hn,j⟩:=q;obtain⟨its,M,p,hz⟩:=I.tuple m;have hi:i<↑xs:=by
   have:=(zz2.mp j).1;rwa [kN]at this
  have a3:xs[↑xs-1-i]?=some x:=by rw[<-List.getElem?_reverse hi];exact j
  obtain⟨u,W,Y⟩:=M.get a3;obtain⟨C,G,f2,L,r,A⟩:=f it (by simp);have ej:((n:Int)-1-(i:Nat))=((↑xs-1-i:Nat):Int):=by lia
  have a2:mG s.heap it a ((↑xs-1-i:Nat):Int):=by rw[<-ej];exact st
  have hl:=M.length;refine WU a2 p Z (by rw[cO,<-hl];exact hz) (x:=u) (by simpa using W) λh' tk a5 sb=>?_
  have I1:Inv X N σ H {s with heap:=h',toks:=tk}:=I.turned (t':=tk) (λb o d e=>(sb.2 b d).trans e) C G L r A;have O:mG h' it a ((n:Int)-1-((i+1:Nat):Int)):=by
   have e2:((n:Int)-1-((i+1:Nat):Int))=((↑xs-1-i:Nat):Int)-1:=by lia
   rw[e2];exact a5
  exact⟨u,rfl,rK (s:={s with heap:=h',toks:=tk}) O rfl rfl (by decide) ⟨x,H,I1,Y,⟨rfl,λys hy=>by rw[I.tuple_inj hy m];exact j⟩,O,λb d=>(f b d).1⟩⟩
 done:=by
  intro X B J l T i N s σ H E I f st q;subst B J l;obtain⟨xs,m,hn,j⟩:=q;obtain⟨C,G,f2,L,r,A⟩:=f it (by simp);exact sK (I.ok.hd T) st (by lia) λh' tk eb=>⟨rfl,I.turned (t':=tk) (λb o d e=>eb b o d e) C G L r A⟩
 self:=λ_ _ _ _ _ st h=>RF st h
section
variable{tg:Expr}
def GM(K:Fq)(ta:TA):TI:=λσ H R=>ta σ H λvs H1=>∃a xs,vs=[.ref a]/\SqT K H1 a xs/\R (kB K a ↑xs) H1
def TU:bootBuiltins "reversed"=some (.type "reversed"):=by rfl'
def uR(x:Gl X "reversed")(w:X.mg "reversed"=none)(z:PA X [a] ta)(hs:starEach [a] X.env=[(false,eval a X.env)]:=by rfl):PI X tg (.Call (.Name "reversed" p) [a] [] pos) (GM X.K ta):=by
 intro n s σ H R I h;refine Call_<|kL I x w TU<|oB (aQ (z pos n s σ H _ I h) λus d ⟨vs,H1,f,C,B⟩=>?_) (by rw[hs];rfl) rfl;obtain⟨l,xs,e,u,q⟩:=B;subst e;cases C with
 | cons r rr=>
  cases rr;cases r;obtain⟨its,A,i,hz⟩:=f.tuple u;have hl:=A.length;have j:l<d⁻¹:=by obtain⟨o,e,_⟩:=i;exact bK e
  refine TJ (xs:=its.toArray) (by rw[cO,<-hl];exact hz) i λtk hr=>?_
  refine RF (s:={d with heap:=_,toks:=tk}) hr ?_;refine⟨d⁻¹,[d⁻¹],_,_,H1,rfl,f.kept (t':=tk) λb o e=>bS _ e,WV l _ (bU j) ↑xs,?_,λb m=>?_,q⟩
  .have E:(((↑xs:Nat):Int)-1-((0:Nat):Int))=((its.toArray.size:Nat):Int)-1:=by rw[cO,hl];lia
   show mG _ _ _ _;rw[E];exact hr
  .have e:b=d⁻¹:=by simpa using m
   subst e;exact f.fpOk (aU _)<|f.hok.fresh<|aU _
end
section
variable{o e:Expr}{apos cpos:Pos}{td ty:TE}
end
def mC(q:Pr×Addr×Addr):List aG×Addr×Value:=(iL q.1,q.2.1,.ref q.2.2)
def PH(P:Program)(w:World)(a:Addr)(qs:List (Pr×Addr×Addr))(h:Heap):Prop:=↑qs<=sizeLine/\(a == sysModules)=false/\
 ∃o es ep,h.get? a=some o/\o.ExactDict/\o.data=.dict es ep/\es.toList=(qs.map mC).map (entryOfKey<|CD P w)/\((qs.map mC).map (·.1)).Nodup
def gF(P:Program)(w:World)(a:Addr)(qs:List (Pr×Addr×Addr)):HO:=.ext<|PH P w a qs
def OT(x:PH P w a qs h):ObjOk P w H h a (gF P w a qs):=by
 refine⟨x,?_,λh1 h2 y k=>?_⟩
 .obtain⟨_,_,o,_,_,e,_⟩:=x;exact⟨o,e⟩
 .obtain⟨z,hd,b,es,ep,e,c⟩:=y;exact⟨z,hd,b,es,ep,k _ e,c⟩
def PvOk(K:Fq)(H:Hp)(qs:List (Pr×Addr×Addr)):Prop:=∀q∈qs,SqT K H q.2.1 [.str q.1.1,.str q.1.2]
def gH(qs:List (Pr×Addr×Addr))(n:Pr)(b l:Addr):List (Pr×Addr×Addr):=
 if n∈qs.map (·.1) then qs.map λq=>if q.1=n then(q.1,q.2.1,l) else q else qs++[(n,b,l)]
def oV{qs:List (Pr×Addr×Addr)}{n:Pr}:atKey (qs.map mC) (iL n)=(qs.find? λq=>decide<|q.1=n).map λq=>(q.2.1,Value.ref q.2.2):=by
 unfold atKey;rw[List.find?_map];have:((λx:List aG×Addr×Value=>decide<|x.1=iL n)∘mC)=λq=>decide (q.1=n):=by
  funext q
  exact decide_eq_decide.mpr ⟨λh=>LQ h,λh=>by show iL q.1=_;rw[h]⟩
 rw[this,Option.map_map];rfl
def US{qs:List (Pr×Addr×Addr)}{n:Pr}{b l:Addr}:storedH (qs.map mC) (iL n) b (.ref l)=(gH qs n b l).map mC:=by
 unfold storedH gH;rw[oV,yS]
 by_cases h:n∈qs.map (·.1)
 .obtain⟨q,a,e⟩:=wn7.mp h;rw[bC h,bC<|List.find?_isSome.mpr ⟨q,a,fI e⟩,kX,kX];refine AN λz _=>?_;show(if iL z.1=iL n then(iL z.1,z.2.1,Value.ref l) else mC z)=mC (if z.1=n then(z.1,z.2.1,l) else z)
  by_cases c:z.1=n
  .rw[bC (by rw[c]),bC c];rfl
  .rw[aY λh=>c<|LQ h,aY c]
 .rw[aY h,aY (λz=>let ⟨q,a,e⟩:=List.find?_isSome.mp z;h<|wn7.mpr ⟨q,a,cN e⟩),bO];rfl
def PvOk.put{K:Fq}{n:Pr}(h:PvOk K H qs)(d:SqT K H b [.str n.1,.str n.2]):PvOk K H (gH qs n b l):=by
 intro q a;unfold gH at a
 split at a
 .obtain⟨z,hz,rfl⟩:=wn7.mp a
  split
  .exact h z hz
  .exact h z hz
 .rcases wp5.mp a with a | a
  .exact h q a
  .rw[wn1.mp a];exact d
def RN:↑(gH qs n b l)<=↑qs+1:=by
 unfold gH
 split
 .rw[aK];exact nN _
 .rw[bI];exact aU _
def YG(P:Program)(w:World)(K:Fq):Hp->Addr->V->V->(Hp->Prop)->Prop:=λH D kx v R=>∃qs b n l,kx=.ref b/\v=.ref l/\H D=some (gF P w D qs)/\PvOk K H qs/\SqT K H b [.str n.1,.str n.2]/\↑qs<sizeLine/\R (upd H D<|gF P w D<|gH qs n b l)
section
variable{pins:List (Addr×Obj)}{σ:St}{H:Hp}{s:Shared}
def MF(I:Inv X pins σ H s)(b:H a=some (gF X.prog X.w a qs))(ok:PvOk X.K H qs):↑qs<=sizeLine/\(a == sysModules)=false/\s.heap.DictOfH (CD X.prog X.w) a (qs.map mC):=by
 obtain⟨z,hd,o,es,ep,h1,h2,h,d,i⟩:=(I.hok a _ b).1;refine⟨z,hd,o,es,ep,h1,h2,h,d,λx f=>?_,i⟩;obtain⟨q,e,rfl⟩:=wn7.mp f;exact FT I<|ok q e
def VN(j:X.A.units<cLine):AT X (λa=>gF X.prog X.w a []) (YG X.prog X.w X.K) where
 new h H z:=OT ⟨bM _,ww6.mpr<|bL<|bU z,_,_,_,dD _ rfl,⟨rfl,rfl,rfl⟩,rfl,rfl,kQ⟩
 put Y e1 e2 e3 e4 pins s σ H D kx u v y R I rk rv h:=by
  obtain⟨qs,b,n,l,rfl,rfl,d,ok,f,hl,q⟩:=h;cases rk;cases rv;rw[<-e1,<-e2]at d q ⊢;rw[<-e3]at ok f;obtain⟨z,hd,r⟩:=MF I d ok;refine wpAny_dictSet_heap (knd:=CD Y.prog Y.w) j (FT I f) r (λh' i hs=>?_) (by rw[aK];exact z);rw[US]at i;obtain⟨o,es,ep,e,B,m,x,E,C⟩:=i;refine⟨_,pO I (by rw[d];exact fW) hs ⟨o,e⟩<|OT ⟨?_,hd,o,es,ep,e,B,m,x,C⟩,q⟩;have:=RN (qs:=qs) (n:=n) (b:=b) (l:=l);lia
inductive SX(P:Program)(w:World)(K:Fq)(x y:V)(H:Hp)(Q:VK):Prop
 | mk(a b:Addr)(qs:List (Pr×Addr×Addr))(n:Pr)(z:Pr×Addr×Addr)(h1:x=.ref a)(h2:y=.ref b)(h3:H a=some (gF P w a qs))(h4:PvOk K H qs)(h5:SqT K H b [.str n.1,.str n.2])(h6:qs.find? (λq=>decide<|q.1=n)=some z)(q:Q (.ref z.2.2) H)
def Bk(P:Program)(w:World)(K:Fq)(td ty:TE):TE:=λσ H Q=>td σ H λx H1=>ty σ H1 λy H2=>SX P w K x y H2 Q
def xY{o i:Expr}{td ty:TE}{pos:Pos}(m:X.A.units+1<cLine)(M:PE X o td)(hi:PE X i ty)(hs:lJ i):PE X (.Subscript o i pos) (Bk X.prog X.w X.K td ty):=by
 intro e s σ H Q I h;refine KW vf2.lookup hs<|aQ (M e s σ H _ I h) λu E ⟨x,H1,B,q,C⟩=>aQ (hi e E σ H1 _ B C) ?_;rintro r s2 ⟨y,H2,d,J,a,b,qs,n,z,ex,N,g,ok,l,L,G⟩;subst ex N;obtain rfl:u=Value.ref a:=q;obtain rfl:r=Value.ref b:=J;obtain⟨_,hd,f⟩:=MF d g ok;obtain⟨o,es,ep,j,O,_⟩:=id f;refine⟨⟨o,j,O.1⟩,wpAny_getItem_heap (pS m) (FT d l) f (p:=(z.2.1,Value.ref z.2.2)) (by rw[oV,L];rfl) ?_⟩;exact⟨.ref z.2.2,H2,d.tok _,rfl,G⟩
end
def HH(tk tv:TE):TE:=λσ H Q=>∀p,H p=none->tk σ (upd H p<|.dT []) λx H1=>tv σ H1 λy H2=>∃b k,x=.ref b/\H2 p=some (.dT [])/\H2 b=some (.tup<|k.map kV)/\Q (.ref p) (upd H2 p<|.dT [(k,y)])
def VG{X:Cx}{k v:Expr}{tk tv:TE}{pos:Pos}(j:X.A.units<cLine)(G:PE X k tk)(Y:PE X v tv):PE X (.Dict [some k] [v] pos) (HH tk tv):=by
 intro K s σ H Q I q;have B:=I.hok.fresh<|aU s⁻¹;have u:=I.laid (a:=s⁻¹) (o:=.dT []) (h':=s.heap.push {cls:=.type "dict",data:=.dict #[]}) (t':=s.toks) (λ_ _ q=>bS _ q) (aU _)<|PM s.heap I.big;have hp:vY X pos [some k] [v] [(tk,tv)]:=gY G Y AQ;rw[arm_eval_Dict,zip_pairTrees [some k] [v] X.env pos rfl rfl,dictDisplay_pairs _ (by intro z;cases z) (by show 1<17;decide)];refine aI<|mX<|aI ?_;unfold subDict;refine aI<|wpAny_alloc<|aI<|iG ?_;rw[bC (by show 1<=15;decide)];refine aI<|aQ (hp K _ σ _ (λps H2=>match ps with | [(x,y)]=>∃b k,x=.ref b/\H2 s⁻¹=some (.dT [])/\H2 b=some (.tup<|k.map kV)/\Q (.ref s⁻¹) (upd H2 s⁻¹<|.dT [(k,y)]) | _=>False) u<|q _ B) ?_;rintro ws s2 ⟨ps,H2,h,M,d⟩;rcases ps with _ | ⟨⟨x,y⟩,_ | ⟨_,_⟩⟩
 .exact d.elim
 rotate_left
 .exact d.elim
 obtain⟨b,n,rfl,e,f,d⟩:=d;cases M with
 | @cons p c ps bs hr ht=>
  cases ht;obtain⟨E,J⟩:=c;obtain⟨Z,l⟩:=hr;have C:E=Value.ref b:=Z;subst C;refine iG<|aI ?_;obtain⟨z,hd,xs,r,P⟩:=nE h.hok e;cases r;show wpAny _ _ (forIn [(Value.ref b,J)] PUnit.unit _) _ _ _;rw[vZ];refine aI<|aI<|wpAny_dictSet_heap (knd:=tupleKind<|cB X.prog X.w) j (mW h.hok f) P (λh' L N=>bE ?_)<|bM _;refine bE<|bE<|bE<|bE ⟨.ref s⁻¹,_,?_,rfl,d⟩;obtain⟨o,es,ep,i,T,O,m,g5,W⟩:=L;refine pO h (by rw[e];exact fW) N ⟨o,i⟩ ⟨by show 1<=sizeLine;exact cL (bH<|by lia),hd,_,.cons ⟨rfl,?_,l⟩ .nil,o,es,ep,i,T,O,m,W⟩;rw[aC<|mZ f e λz=>nomatch z];exact f
def cC{N P:List Str}{a:Scope}(h1:a.kind=.function:=by rfl)(h2:a.isCoroutine=false:=by rfl)(f:a.isGenerator=false:=by rfl)(e:N.Nodup:=by rfl')(h:N.take P.length=P:=by rfl)(b:∀x∈P,a.names.lookup x=some .local\/a.names.lookup x=some .cell:=by rfl')(d:∀y∈a.names,y.2≠.free:=by rfl'):bY N P a:=⟨h1,h2,f,e,h,b,d⟩
section
variable{x:Str}{pos pos':Pos}{e:Expr}{te:TE}{scope:Scope}{N':List Str}{src:List (Option Nat)}
def eW(h1:scope.kind=.function:=by rfl)(h2:(scope.names.all λy=>decide<|y.2≠.cell)=true:=by rfl')(a:(scope.names.all λy=>decide<|y.2=.local->scope.names.lookup y.1=some .local)=true:=by rfl')(e:(scope.names.all λy=>decide<|y.2=.free->X.env.kindOf y.1=some .cell\/X.env.kindOf y.1=some .free)=true:=by rfl)(d:↑src=N'.length:=by rfl)
  (b:((N'.zip src).all λp=>match p.2 with | some j=>decide (X.N[j]?=some p.1) && decide ((p.1,NameKind.free)∈scope.names) | none=>true)=true:=by rfl):BlkN X scope N' src:=⟨h1,h2,a,e,d,b⟩
def sL(i:Nat)(b:X.N.Nodup)(he:PE X e te)(hi:X.N[i]?=some x:=by rfl)(a:vJ X.env.scope x:=by exact .inl rfl)(hs:swapsWith e (some<|.Name x pos') pos.line X.env=pure false:=by rfl)(d:X.fn x=true\/X.env.scope.names.lookup x=some .local:=by first | exact .inl rfl | exact .inr rfl):PS X (.Assign [.Name x pos'] e pos) (fO te<|bW i):=gZ b hi a he hs d
def gL(i:Nat)(d:X.N.Nodup)(hi:X.N[i]?=some x:=by rfl)(a:vJ X.env.scope x:=by exact .inl rfl)(b:X.fn x=true\/X.env.scope.names.lookup x=some .local:=by first | exact .inl rfl | exact .inr rfl):PG X (.Name x pos) (bW i):=vH d hi a b
end
end L2
local macro_rules | `(tactic| trivial)=>`(tactic| first | exact aX | exact .head _ | exact .tail _ (.head _) | exact .tail _ (.tail _ (.head _)) | exact λ_ h=>absurd h aX | simp)
local macro_rules|`(tactic|ac_rfl)=>`(tactic|first|dsimp only[L2.eU,L2.Cx.nox]|skip)
namespace Gn
open PySem L2
variable{P:Program}{w:World}{K:Fq}{mg:Str->Option Value}{base:Heap}{f:Addr}{fd:FuncData}
abbrev qH:Str:="_law_hand_here"
abbrev qW:Str:="_law_world_here"
abbrev qA:List Str:=[qH,qW,"_law_env"]
abbrev qB:List Str:=[qH,"_law_many"]
abbrev qC:List Str:=[qH,"_law_some"]
abbrev qD:List Str:=[qH,qW,"_law_env","_law_above","_law_deed_here"]
abbrev qE:List Str:=[qW,"_law_kind","_law_deed_here"]
abbrev qF:List Str:=[qH,qW,"_law_env","_law_level"]
abbrev qG:List Str:=[qW,"_law_kind"]
abbrev qK:List Str:=["program"]
def top(i:Nat):Stmt:=PySem.Challenge.pw_surecall_k06_rows_done.main.body.getD i<|.Pass ⟨0,0,0,0⟩
abbrev GQ:Stmt:=top 49
abbrev HQ:Stmt:=top 50
abbrev DS:Stmt:=top 51
structure nM(d m t:Int):Prop where
 d0:0<=d
 m0:0<=m
 m1:m<4611686018427387904
 t0:0<=t
def Hand(H:Hp)(a:Addr)(d m t r:Int):Prop:=H a=some (.lst [.int d,.int m,.int t,.int r])/\nM d m t
abbrev hl(d m t r:Int):HO:=.lst [.int d,.int m,.int t,.int r]
inductive OB(vs:List V)(H:Hp)(Q:VK):Prop
 | mk(a:Addr)(d m t r n:Int)(h1:vs=[.ref a,.int n])(h2:Hand H a d m t r)(h3:t<1000000)(h4:0<n)(h5:n<1000000)(h6:∀(x d' m' t':Int),0<=x->x<n->nM d' m' t'->t'<=t+1->Q (.int x) (upd H a<|hl d' m' t' r)):OB  vs H Q
def gG:Sp:=λvs H Q _=>OB  vs H Q
def eI(d:PE X a ta)(e:PE X b tb)(hs:KR b:=by exact λ_ _=>rfl):PE X (.Subscript a b pos) (dC (lK X.K) ta tb):=kP XJ d e hs
def yt4:bY [qH,"_law_many","_law_digit","_law_turn","_law_mixed"] qB (bR HQ):=cC
def BQ:eE [a,b,c,d] 0=some a:=rfl
def OS:eE [a,b,c,d] 1=some b:=rfl
def FM:eE [a,b,c,d] 2=some c:=rfl
def BB:eE [a,b,c,d] 3=some d:=rfl
def UR(F:Fun K "_law_take" "_law_take" HQ f fd):aR P w K mg base bP (k+1) f fd qB gG:=by
 refine F.ok yt4 (λvs H Q E h=>?_) λl A outer s H vs Q E hr h=>?_
 .obtain⟨a,d,m,t,r,n,rfl,_⟩:=h;rfl
 obtain⟨a,d,m,t,r,n,rfl,⟨b,ok⟩,j,e,o,q⟩:=h;exists _,aL (cI (cA lU (eI (pv 0) aO) aO<|cF _) (aL (sL 2 yt4.nd<|bX qT (eI (pv 0) aO)<|pv 1)<|aL (iM (bX yJ (eI (pv 0) aO)<|pv 1)<|uT (pv 0) aO sC)<|aS<|bT<|pv 2) cZ)
  (aL (iM (bX iX (eI (pv 0) aO) aO)<|uT (pv 0) aO sC)<|aL (sL 3 yt4.nd<|eI (pv 0) aO)<|aL (sL 4 yt4.nd<|bX qT (bX rE (bX iX (eI (pv 0) aO)<|bX rE aO<|pv 3)<|bX iX aO<|bX rE (pv 3)<|pv 3) aO)<|aL (iM (bX qT (bX rE (pv 4)<|bX iX (bX qT (pv 4) aO) aO) aO)<|uT (pv 0) aO sC)<|aS<|bT<|bX qT (bX yJ (eI (pv 0) aO) aO)<|pv 1)
 exists _,rfl,a,_,_,_,rfl,rfl,SqL.of b,BQ,_,_,rfl,rfl,_,rfl;refine bG (λc=>?_) λc=>?_
 .have c':d > 0:=cN c;exists _,rfl,a,_,_,_,rfl,rfl,SqL.of b,BQ,_,rfl,_,_,rfl,rfl,e;exists _,rfl,a,_,_,_,rfl,rfl,SqL.of b,BQ,_,rfl,_,_,rfl,rfl,⟨e,by lia⟩;exists _,rfl,a,_,0,0,rfl,rfl,b,rfl;exists _,rfl;exact q (d % n) (d / n) m t (vO _<|by lia) (vC _ e) ⟨Int.ediv_nonneg ok.d0 (by lia),ok.m0,ok.m1,ok.t0⟩ (by lia)
 .exists _,rfl,a,_,_,_,rfl,rfl,SqL.of b,FM,_,_,rfl,rfl;exists _,rfl,a,_,2,2,rfl,rfl,b,rfl;have H1:upd H a (.lst<|[V.int d,.int m,.int t,.int r].set 2<|.int<|t+1) a=some (.lst [.int d,.int m,.int<|t+1,.int r]):=zb1;exists _,rfl,a,_,_,_,rfl,rfl,SqL.of H1,FM;exists _,rfl,a,_,_,_,rfl,rfl,SqL.of H1,OS,_,rfl,_,_,rfl,rfl,.inl (by constructor <;> decide),_,_,rfl,rfl;exists _,rfl,_,rfl,_,_,rfl,rfl,.inl ⟨by have:=ok.t0;lia,by lia⟩,_,_,rfl,rfl,_,_,rfl,rfl,.inr ?_,_,_,rfl,rfl,?_
  .have h1:0<=(t+1)*(t+1):=Int.mul_nonneg (by have:=ok.t0;lia) (by have:=ok.t0;lia);have h2:(t+1)*(t+1)<=1000000*1000000:=Int.mul_le_mul (by lia) (by lia) (by have:=ok.t0;lia) (by lia)
   constructor <;> lia
  .show(0:Int)<2305843009213693921
   decide
  have u:0<=(m+39373*(t+1))*(48271+(t+1)*(t+1)) % 2305843009213693921:=vO _ (by decide);have i:(m+39373*(t+1))*(48271+(t+1)*(t+1)) % 2305843009213693921<2305843009213693921:=vC _ (by decide);exists _,rfl,_,rfl,_,_,rfl,rfl,?_,_,_,rfl,rfl,_,_,rfl,rfl,.inl ⟨by lia,by lia⟩,_,_,rfl,rfl,?_
  .show(0:Int)<1000003
   decide
  .show(0:Int)<2305843009213693907
   decide
  exists _,rfl,a,_,1,1,rfl,rfl,H1,rfl;exists _,rfl,a,_,_,_,rfl,rfl,SqL.of zb1,rfl,_,_,rfl,rfl,⟨by decide,by decide⟩,_,rfl,_,_,rfl,rfl,e;rw[fT];exact q _ d _ (t+1) (vO _<|by lia) (vC _ e) ⟨ok.d0,vO _ (by decide),Int.lt_trans (vC _<|by decide) (by decide),by have:=ok.t0;lia⟩ (by lia)
def FrS(S:List Addr)(H H':Hp):Prop:=∀b o,b∉S->H b=some o->H' b=some o
def FrS.refl:FrS S H H:=λ_ _ _ h=>h
def FrS.trans(a:FrS S H H1)(b:FrS S H1 H2):FrS S H H2:=λc o n h=>b c o n<|a c o n h
def FrS.mono(a:FrS S H H1)(h:∀b∈S,b∈T):FrS T H H1:=λc o n q=>a c o (λz=>n<|h c z) q
def FrS.chg(h:a∈S):FrS S H (upd H a o):=λb u n q=>by
 rw[aC λz=>n<|by rw[z];exact h];exact q
def FrS.new(h:H a=none):FrS S H (upd H a o):=λb u n q=>by
 rw[aC<|aP q h];exact q
def FrS.seq(e:FrS S H H')(n:a∉S)(h:SqL K H a xs):SqL K H' a xs:=by
 rcases h with (h | ⟨o,h⟩) | h
 .exact .inl<|.inl<|e _ _ n h
 .exact .inl<|.inr ⟨o,e _ _ n h⟩
 .exact .inr h
def Hand.at(h:nM d m t):Hand (upd H a<|hl d m t r) a d m t r:=⟨zb1,h⟩
def Hand.new(h:Hand H a d m t r)(n:H b=none):Hand (upd H b o) a d m t r:=⟨by rw[aC<|aP h.1 n];exact h.1,h.2⟩
inductive wQ(K:Fq)(vs:List V)(H:Hp)(Q:VK):Prop
 | mk(a p:Addr)(d m t r:Int)(xs:List V)(h1:vs=[.ref a,.ref p])(h2:Hand H a d m t r)(h3:t<1000000)(h4:p≠a)(h5:SqL K H p xs)(h6:xs≠[])(h7:↑xs<1000)(h8:∀(x:V)(d' m' t':Int),x∈xs->nM d' m' t'->t'<=t+1->Q x (upd H a<|hl d' m' t' r)):wQ K vs H Q
def cS(K:Fq):Sp:=λvs H Q _=>wQ K vs H Q
section
variable{P:Program}{w:World}{K:Fq}{mg:Str->Option Value}{base:Heap}{f g:Addr}{fd gd:FuncData}
def HD:bY qC qC (bR DS):=cC
structure aT(P:Program)(w:World)(K:Fq)(mg:Str->Option Value)(base:Heap)(k:Nat)(x:Str)(ps:List Str)(sp:Sp):Prop where
 ex:∃g gd,aR P w K mg base bP k g gd ps sp/\Binds K gd ps []/\PySem.W.keepIn K (.ref g)=true/\mg x=some (.ref g)
def bB(C:aT X.prog X.w X.K X.mg X.base k x ps sp)(hr:Room k X.A)(d:Gl X x)(i:PA X (e::es) t)(f:(x == ("__debug__":Str))=false:=by decide)(he:starEach (e::es) X.env=(false,eval e X.env)::starEach es X.env:=by rfl)(a:(backTo pos<|starEach es X.env).any (·.1)=false:=by rfl):
  PE X (.Call (.Name x p) (e::es) [] pos) (fN sp [] E0 t):=by
 obtain⟨g,gd,G,b,h,m⟩:=C.ex;exact TV G hr d m h b .nil JL i f he a
def OO(h0:0<=i)(h1:i<(↑xs:Int)):∃v,eE xs i=some v/\v∈xs:=by
 have a:i.toNat<↑xs:=by lia
 have b:i=((i.toNat:Nat):Int):=by lia
 refine⟨xs[i.toNat],?_,iK a⟩;have:=lQ (xs:=xs) (j:=i.toNat)<|bD a;rw[<-b]at this;exact this
def yU(F:Fun K "_law_of" "_law_of" DS f fd)(T:aT P w K mg base k "_law_take" qB gG)(u:mg "len"=none):
  aR P w K mg base bP (k+1) f fd qC (cS K):=by
 refine F.ok HD (λvs H Q E h=>?_) λI A outer s H vs Q E hr h=>?_
 .obtain⟨a,p,d,m,t,r,xs,rfl,_⟩:=h;rfl
 obtain⟨a,p,d,m,t,r,xs,rfl,i,l,j,b,z,G,q⟩:=h;exists _,aS<|bT<|eI (pv 1)<|bB T hr rfl<|aA (pv 0)<|aA (eP jE rfl u iJ<|aA (pv 1) aE) aE;have C:0<↑xs:=List.length_pos_iff.mpr z;refine⟨_,rfl,_,rfl,_,rfl,p,_,rfl,.inl b,a,d,m,t,r,_,rfl,i,l,by lia,by lia,λx d' m' t' h0 h1 n o=>?_⟩;obtain⟨v,B,e⟩:=OO h0 h1;have fr:FrS [a] H (upd H a<|hl d' m' t' r):=FrS.chg (by simp);exact⟨p,_,_,v,rfl,rfl,fr.seq (by simpa using j) b,B,q v d' m' t' e n o⟩
end
abbrev mF:Stmt:=top 52
abbrev lets:Str:="abcdefghijklmnopqrstuvwxyz"
def gI(pre suf:Str)(c:Nat):Str:=pre++⟨#[c]⟩++suf
def tX(pre suf:Str)(c:Nat):Str:=gI pre suf c++(if gI pre suf c=("own":Str) then("q":Str) else Str.empty)
def CY(x y:Str):(x++y).cps=x.cps++y.cps:=rfl
def OE(h:gI pre suf c=gI pre suf c'):c=c':=by
 have e:(pre.cps++#[c])++suf.cps=(pre.cps++#[c'])++suf.cps:=cK Str.cps h;have a:=cK Array.toList e;simp at a;exact a
def Ap:(gI pre suf c).cps.size=(gI pre suf c').cps.size:=by
 unfold gI;simp[CY]
def ZO(h:tX pre suf c=tX pre suf c'):c=c':=by
 have hs:=cK (λz:Str=>z.cps.size) h;have hl:=Ap (pre:=pre) (suf:=suf) (c:=c) (c':=c');have d:("q":Str).cps.size=1:=by decide
 have i:Str.empty.cps.size=0:=by decide
 unfold tX at h hs
 by_cases h1:gI pre suf c=("own":Str)
 .by_cases h2:gI pre suf c'=("own":Str)
  .exact OE<|h1.trans h2.symm
  .rw[bC h1,aY h2]at hs;simp only[CY,wN,d,i]at hs;lia
 .by_cases h2:gI pre suf c'=("own":Str)
  .rw[aY h1,bC h2]at hs;simp only[CY,wN,d,i]at hs;lia
  .rw[aY h1,aY h2]at h;have e:=cK (λz:Str=>z.cps.toList) h;simp only[CY,Array.toList_append]at e;have f:(gI pre suf c).cps.toList=(gI pre suf c').cps.toList:=List.append_cancel_right e;refine OE (pre:=pre) (suf:=suf) ?_;cases hx:gI pre suf c with
   | mk a=>cases hy:gI pre suf c' with
    | mk b=>
     rw[hx,hy]at f;have:a=b:=Array.toList_inj.mp f;rw[this]
def fE(first stride:Int)(k:Nat):Nat:=(97+(first+stride*(k:Int)) % 26).toNat
def mL(pre suf:Str)(first stride:Int)(n:Nat):List Str:=(List.range n).map λk=>tX pre suf<|fE first stride k
def UU(hs:stride∈([1,3,5,7,9,11]:List Int))(h0:0<=first)(b:j<=12)(a:k<=12)(h:fE first stride j=fE first stride k):j=k:=by
 unfold fE at h;simp only[wm9,aX,cY]at hs;rcases hs with rfl | rfl | rfl | rfl | rfl | rfl <;> lia
def Au(hs:stride∈([1,3,5,7,9,11]:List Int))(h0:0<=first)(h:n<=12):(mL pre suf first stride n).Nodup:=by
 unfold mL;refine List.Pairwise.map _ (R:=λj k=>j≠k/\j<n/\k<n) (λj k ⟨h1,h2,i⟩ e=>h1 ?_) ?_
 .exact UU hs h0 (by lia) (by lia)<|ZO e
 .have:(List.range n).Pairwise (λj k=>j<k):=List.pairwise_lt_range;refine List.Pairwise.imp_of_mem (λ{a b} f d l=>?_) this;rw[List.mem_range]at f d;exact⟨by lia,f,d⟩
def WE:mL pre suf first stride (n+1)=mL pre suf first stride n++[tX pre suf<|fE first stride n]:=by
 unfold mL;rw[List.range_succ,bO];rfl
def MJ(h0:0<=i)(h1:i<26):eE lets.cps.toList i=some (97+i).toNat:=by
 have a:∀j:Fin 26,lets.cps.toList[j.val]?=some (97+j.val):=by rfl'
 have e:i=((i.toNat:Nat):Int):=by lia
 have:=lQ (xs:=lets.cps.toList) (j:=i.toNat)<|a ⟨i.toNat,by lia⟩;rw[<-e]at this;rw[this]
 congr 1
 simp only;lia
def odd:List Str:=["end","or","main","gives","kind","under","late","deed","call","say","make","take","put"]
def YZ:odd.Nodup:=by rfl'
inductive SD(vs:List V)(H:Hp)(Q:VK):Prop
 | mk(a:Addr)(d m t r:Int)(n:Nat)(h1:vs=[.ref a,.int (n:Int)])(h2:Hand H a d m t r)(h3:t+10<1000000)(h4:n<=12)(h5:∀(p:Addr)(ws:List Str)(d' m' t':Int)(H':Hp),FrS [a] H H'->Hand H' a d' m' t' r->t'<=t+10->H p=none->H' p=some (.lst<|ws.map V.str)->↑ws=n->ws.Nodup->Q (.ref p) H'):SD  vs H Q
def EA:Sp:=λvs H Q _=>SD  vs H Q
def NL{c:Const}{j}{pos:Pos}{es:List Expr}{env:Env}:starEach (.Constant c j pos::es) env=(false,eval (.Constant c j pos) env)::starEach es env:=by
 first | rfl | (rw[starEach])
def kK{X:Cx}{x:Str}{j}{pos:Pos}{es:List Expr}{t:TA}(h:PA X es t):PA X (.Constant (.str x) j pos::es) (aZ (tC<|.str x) t):=aA bA h NL
def dE{X:Cx}{x:Int}{j}{pos:Pos}{es:List Expr}{t:TA}(h:PA X es t):PA X (.Constant (.int x) j pos::es) (aZ (tC<|.int x) t):=aA aO h NL
def zY:List Expr->Option (List Str)
 | []=>some []
 | .Constant (.str x) _ _::r=>(zY r).map (x::·)
 | _=>none
theorem RJ{X:Cx}:∀(es:List Expr)(ss:List Str),zY es=some ss->PA X es (λ_ H Q=>Q (ss.map V.str) H)
 | [],ss,h=>by
  cases h;exact aE
 | e::r,ss,h=>by
  cases e with
  | Constant c j pos=>
   cases c with
   | str x=>
    have h:(zY r).map (x::·)=some ss:=h;cases hr:zY r with
    | none=>rw[hr]at h;cases h
    | some rs=>
     rw[hr]at h;cases h;exact kK<|RJ r rs hr
   | _=>cases h
  | _=>cases h
def RK(e:Expr):Option (List Str):=match e with
 | .List es _=>zY es
 | _=>none
def Ba{X:Cx}{e:Expr}{ss:List Str}(h:RK e=some ss):PE X e (λ_ H Q=>↑ss<=sizeLine/\∀p,H p=none->Q (.ref p) (upd H p<|.lst<|ss.map V.str)):=by
 cases e with
 | List es pos=>
  have q:=cG (pos:=pos)<|RJ (X:=X) es ss h;intro b s σ H Q I a;exact q b s σ H Q I ⟨by rw[aK];exact a.1,a.2⟩
 | _=>cases h
def lY(l:List Stmt):Expr:=match l with
 | .Assign _ v _::_=>v
 | _=>.Constant .none 0 ⟨0,0,0,0⟩
def JI(l:List Stmt)(v:Expr):List Stmt:=match l with
 | .Assign t _ p::r=>.Assign t v p::r
 | l=>l
def body{X:Cx}{l a:List Stmt}{t:TS}(e:l=a)(h:PSs X a t):PSs X l t:=by subst e;exact h
def JD(xs:List V){n:Nat}(h:n<=↑xs):cP xs none (some (n:Int))=xs.take n:=by
 unfold cP;rw[HT.QT,HT.CC,Nat.min_eq_left h];simp
def NZ(xs:List V){n:Nat}(h:n<=↑xs):cP xs (some (n:Int)) none=xs.drop n:=by
 unfold cP;rw[HT.QT,HT.CC,Nat.min_eq_left h];exact fS (by rw[lE];lia)
def nD{a p:Addr}{H H':Hp}{d m t r:Int}(f:FrS [a] H H')(h:Hand H' a d m t r)(hp:H' p=none):H p=none:=by
 cases hz:H p with
 | none=>rfl
 | some o=>
  have b:p≠a:=λe=>by rw[e,h.1]at hp;cases hp
  have:=f p o (by simpa using b) hz;rw[hp]at this;cases this
section
variable{P:Program}{w:World}{K:Fq}{mg:Str->Option Value}{base:Heap}{f g:Addr}{fd gd:FuncData}
abbrev uQ:List Str:=["_law_hand_here","_law_many","_law_odd","_law_first","_law_letters","_law_stem","_law_k","_law_at","_law_stride","_law_words_here","_law_word"]
def zj8:bY uQ ["_law_hand_here","_law_many"] (bR mF):=⟨rfl,rfl,rfl,by rfl',rfl,by rfl',by rfl'⟩
def UQ{k:Nat}(F:Fun K "_law_words" "_law_words" mF f fd)(T:aT P w K mg base k "_law_take" ["_law_hand_here","_law_many"] gG)(ml:mg "len"=none)(mr:mg "range"=none)(mi:mg "int"=none):
  aR P w K mg base bP (k+1) f fd ["_law_hand_here","_law_many"] EA:=by
 refine F.ok zj8 (λvs H Q E h=>?_) λbs A outer s H vs Q E hr h=>?_
 .obtain⟨a,d,m,t,r,n,rfl,_⟩:=h;rfl
 obtain⟨a,d,m,t,r,n,rfl,hh,ht,hn,q⟩:=h;have M:∀{n:Nat},n<=1000->n<=sizeLine:=λh=>cL<|bH h;have eB:dP mF=JI (dP mF) (lY<|dP mF):=rfl;have hO:RK (lY<|dP mF)=some odd:=by rfl'
 have ay:∀(x:Str)(p:Pos)(n:Nat)(env:Env),swapsWith (lY<|dP mF) (some<|.Name x p) n env=pure false:=λ_ _ _ _=>rfl;rw[eB];generalize lY (dP mF)=L at hO ay;exists _,aL (gZ (i:=2) zj8.nd rfl (eM rfl) (Ba hO)<|ay _ _ _ _)
  (aL (cI (cA eZ (bB T hr rfl<|aA (pv 0)<|aA aO aE) aO<|cF _) (aL (gZ (i:=3) zj8.nd rfl (eM rfl)<|bB T hr rfl<|aA (pv 0)<|aA aO aE)<|aS<|bT<|kE wD (bX vN (kE wD (pv 2) (jX<|pv 3) kH)<|kE wD (pv 2) kH<|jX<|pv 3) kH<|jX<|pv 1) cZ) (aL (gZ (i:=4) zj8.nd rfl (eM rfl) bA) (aL (gZ (i:=5) zj8.nd rfl (eM rfl) bA) (aL (dX dO rfl (wE rfl mr<|aA (bB T hr rfl<|aA (pv 0)<|aA aO aE) aE) (vH (i:=6) zj8.nd rfl<|eM rfl)<|aS<|gZ (i:=5) zj8.nd rfl (eM rfl)<|bX DY (pv 5)<|kP NA (pv 4) (bB T hr rfl<|aA (pv 0)<|aA aO aE) λ_ _=>rfl) (aL (gZ (i:=7) zj8.nd rfl (eM rfl)<|bB T hr rfl<|aA (pv 0)<|aA (bX iX (eP VX rfl ml iJ<|aA (pv 5) aE) aO) aE) (aL (gZ (i:=3) zj8.nd rfl (eM rfl)<|bB T hr rfl<|aA (pv 0)<|aA aO aE) (aL (gZ (i:=8) zj8.nd rfl (eM rfl)<|eI (cG<|dE<|dE<|dE<|dE<|dE<|dE aE)<|bB T hr rfl<|aA (pv 0)<|aA aO aE) (aL (gZ (i:=9) zj8.nd rfl (eM rfl)<|cG aE) (aL (dX dO rfl (wE rfl mr<|aA (pv 1) aE) (vH (i:=6) zj8.nd rfl<|eM rfl)<|aL (gZ (i:=10) zj8.nd rfl (eM rfl)<|bX DY (bX DY (kE SC (pv 5) kH<|jX<|pv 7)<|kP NA (pv 4) (bX qT (bX iX (pv 3)<|bX rE (pv 8)<|pv 6) aO) λ_ _=>rfl)<|kE SC (pv 5) (jX<|pv 7) kH)<|aS<|dW<|eN eA eX eY eR (pv 9)<|aA (bX DY (pv 10)<|bX ZJ bA<|dV BZ rfl mi (by rfl')<|aA (pP eZ (pv 10) bA<|cF _) aE) aE)
  (aS<|bT<|pv 9))))))))))
 refine⟨M (by show 13<=1000;decide),λI a8=>?_⟩;have b5:Hand (upd H I<|.lst<|odd.map V.str) a d m t r:=hh.new a8;have bc:FrS [a] H (upd H I<|.lst<|odd.map V.str):=FrS.new a8;have ar:I≠a:=λe=>by rw[e,hh.1]at a8;cases a8
 refine⟨_,rfl,a,d,m,t,r,8,rfl,b5,by lia,by decide,by decide,λx d1 m1 t1 x0 x1 b1 bp=>?_⟩;have as:FrS [a] H _:=bc.trans (FrS.chg (a:=a) (o:=hl d1 m1 t1 r)<|by simp);have aj:upd (upd H I<|.lst<|odd.map V.str) a (hl d1 m1 t1 r) I=some (.lst<|odd.map V.str):=by rw[aC ar,zb1]
 have av:Hand (upd (upd H I<|.lst<|odd.map V.str) a<|hl d1 m1 t1 r) a d1 m1 t1 r:=Hand.at b1;generalize upd (upd H I<|.lst<|odd.map V.str) a (hl d1 m1 t1 r)=H2 at *;exists rfl,_,rfl;refine bG (λc=>?_) λc=>?_
 .refine⟨_,rfl,a,d1,m1,t1,r,13,rfl,av,by lia,by decide,by decide,λy J N C y0 y1 an b8=>?_⟩;have ad:FrS [a] H _:=as.trans (FrS.chg (a:=a) (o:=hl J N C r)<|by simp);have a3:upd H2 a (hl J N C r) I=some (.lst<|odd.map V.str):=by rw[aC ar];exact aj
  have a9:Hand (upd H2 a<|hl J N C r) a J N C r:=Hand.at an;generalize upd H2 a (hl J N C r)=H3 at *;obtain⟨j,rfl⟩:∃j:Nat,y=(j:Int):=⟨y.toNat,by lia⟩;have hj:j<=↑(odd.map V.str):=by show j<=13;lia
  refine⟨_,rfl,_,rfl,_,rfl,I,_,rfl,SqL.of a3,λp1 ab=>?_⟩;have e1:∀o,upd H3 p1 o I=some (.lst<|odd.map V.str):=λo=>by rw[aC<|aP a3 ab];exact a3
  refine⟨_,rfl,_,rfl,_,rfl,I,_,rfl,SqL.of<|e1 _,λp2 a4=>?_⟩;have e2:p1≠p2:=λz=>by rw[<-z,zb1]at a4;cases a4
  rw[NZ _ hj,JD _ hj]at *;have bb:↑((odd.map V.str).drop j)+↑((odd.map V.str).take j)<=sizeLine:=by
   rw[lE,eK];exact M (by show(odd.map V.str).length-j+min j ↑(odd.map V.str)<=1000;have:↑(odd.map V.str)=13:=rfl;lia)
  refine⟨p1,p2,_,_,rfl,rfl,by rw[aC e2];exact zb1,zb1,bb,λp3 af=>?_⟩;refine⟨_,rfl,_,rfl,p3,_,rfl,SqL.of zb1,λp4 ac=>?_⟩;have ai:(odd.map V.str).drop j++(odd.map V.str).take j=((odd.drop j++odd.take j)).map V.str:=by rw[bO,BD,vP]
  have aw:↑(odd.drop j++odd.take j)=13:=by
   rw[bI,lE,eK];have:↑odd=13:=rfl;lia
  have bd:(odd.drop j++odd.take j).Nodup:=by
   have hp:(odd.drop j++odd.take j).Perm odd:=List.perm_append_comm.trans (by rw[List.take_append_drop]);exact hp.nodup_iff.mpr YZ
  rw[ai]at ac ⊢;rw[JD _<|by rw[aK,aw];lia];have f1:FrS [a] H3 (upd H3 p1<|.lst<|(odd.map V.str).drop j):=FrS.new ab;refine q p4 ((odd.drop j++odd.take j).take n) J N C _ (ad.trans<|(f1.trans<|FrS.new a4).trans<|(FrS.new af).trans<|FrS.new ac) (((((a9.new ab).new a4).new af).new ac)) (by lia) ?_ (by rw[zb1,vP]) (by rw[eK,aw];lia)<|bd.sublist<|List.take_sublist _ _;exact nD (H':=upd (upd (upd H3 p1 _) p2 _) p3 _) (ad.trans<|(f1.trans<|FrS.new a4).trans<|FrS.new af) (((a9.new ab).new a4).new af) ac
 .-- the loop that makes the l
  refine⟨_,rfl,a,d1,m1,t1,r,5,rfl,av,by lia,by decide,by decide,λy J N C y0 y1 an b8=>?_⟩;have ad:FrS [a] H _:=as.trans (FrS.chg (a:=a) (o:=hl J N C r)<|by simp);have a9:Hand (upd H2 a<|hl J N C r) a J N C r:=Hand.at an;generalize upd H2 a (hl J N C r)=H3 at *;refine⟨_,rfl,by lia,by lia,EM (lo:=0) (n:=y.toNat) (λi σ G=>∃(l:Str)(O:Option V)(dx mx tx:Int),σ=[some<|.ref a,some<|.int n,some<|.ref I,none,some<|.str lets,some<|.str l,O,none,none,none,none]/\
   ↑l<=i/\FrS [a] H G/\Hand G a dx mx tx r/\tx<=C+i) ⟨Str.empty,none,J,N,C,rfl,aU _,ad,a9,by lia⟩ (λi σ G hi ⟨l,O,dx,mx,tx,Z,bk,al,ah,b0⟩=>?_) (λσ G ⟨l,O,dx,mx,tx,Z,bk,al,ah,b0⟩=>?_)⟩
  .subst Z;refine⟨_,rfl,_,rfl,_,rfl,a,dx,mx,tx,r,26,rfl,ah,by lia,by decide,by decide,λz d3 m3 t3 z0 z1 bi bm=>?_⟩;exists lets,z,_,rfl,rfl,M (by decide),MJ z0 z1;exists l,_,rfl,rfl,?_
   .show ↑l+1<=sizeLine;exact M (by lia)
   .refine⟨_,_,d3,m3,t3,rfl,?_,al.trans (FrS.chg<|by simp),Hand.at bi,by lia⟩;show(l.cps++#[_]).size<=i+1;rw[wN];show ↑l+1<=i+1;lia
  .subst Z;have bo:(y.toNat:Int)<=4:=by lia
   refine⟨_,rfl,_,rfl,_,rfl,M (by lia),_,_,rfl,rfl,a,dx,mx,tx,r,_,rfl,ah,by lia,by lia,by lia,λu d4 m4 t4 u0 u1 b4 bq=>?_⟩;have bj:FrS [a] H _:=al.trans (FrS.chg (a:=a) (o:=hl d4 m4 t4 r)<|by simp);have b2:Hand (upd G a<|hl d4 m4 t4 r) a d4 m4 t4 r:=Hand.at b4;generalize upd G a (hl d4 m4 t4 r)=H4 at *;refine⟨_,rfl,a,d4,m4,t4,r,26,rfl,b2,by lia,by decide,by decide,λv d5 m5 t5 v0 v1 b9 br=>?_⟩;have bl:FrS [a] H _:=bj.trans (FrS.chg (a:=a) (o:=hl d5 m5 t5 r)<|by simp);have au:Hand (upd H4 a<|hl d5 m5 t5 r) a d5 m5 t5 r:=Hand.at b9;generalize upd H4 a (hl d5 m5 t5 r)=H5 at *;refine⟨M (by show 6<=1000;decide),λps aa=>?_⟩;have bg:=au.new (o:=.lst [.int 1,.int 3,.int 5,.int 7,.int 9,.int 11]) aa;have ap:ps≠a:=λe=>by rw[e,au.1]at aa;cases aa
   refine⟨_,rfl,a,d5,m5,t5,r,6,rfl,bg,by lia,by decide,by decide,λz X Y t6 z0 z1 be bu=>?_⟩;obtain⟨sv,bh,ax⟩:=OO (xs:=[V.int 1,.int 3,.int 5,.int 7,.int 9,.int 11]) z0 z1;exists ps,_,_,sv,rfl,rfl,SqL.of (by rw[aC ap,zb1]),bh;have aq:FrS [a] H _:=(bl.trans<|FrS.new (o:=.lst [.int 1,.int 3,.int 5,.int 7,.int 9,.int 11]) aa).trans (FrS.chg (a:=a) (o:=hl X Y t6 r)<|by simp);have am:Hand (upd (upd H5 ps<|.lst [.int 1,.int 3,.int 5,.int 7,.int 9,.int 11]) a<|hl X Y t6 r) a X Y t6 r:=Hand.at be;obtain⟨B,rfl,a5⟩:∃st:Int,sv=.int st/\st∈([1,3,5,7,9,11]:List Int):=by
    simp only[wm9,aX,cY]at ax;rcases ax with rfl | rfl | rfl | rfl | rfl | rfl
    all_goals exact⟨_,rfl,by simp⟩
   have b3:0<=B/\B<=11:=by
    simp only[wm9,aX,cY]at a5;lia
   refine⟨M (by decide),λW a7=>?_⟩;have a2:=nD aq am a7;have bf:FrS [a] H _:=aq.trans<|FrS.new (o:=.lst []) a7;have b7:=am.new (o:=.lst []) a7;have ag:upd (upd (upd H5 ps<|.lst [.int 1,.int 3,.int 5,.int 7,.int 9,.int 11]) a<|hl X Y t6 r) W (.lst []) W=some (.lst []):=zb1;have ao:W≠a:=λe=>by rw[e,am.1]at a7;cases a7
   generalize upd (upd (upd H5 ps<|.lst [.int 1,.int 3,.int 5,.int 7,.int 9,.int 11]) a<|hl X Y t6 r) W (.lst [])=H8 at *;refine⟨_,rfl,n,rfl,by lia,by lia,EM (lo:=0) (n:=(n:Int).toNat) (λi σ G=>∃(O wx:Option V),σ=[some<|.ref a,some<|.int n,some<|.ref I,some<|.int v,some<|.str lets,some<|.str l,O,some<|.int u,some<|.int B,some<|.ref W,wx]/\
    FrS [a] H G/\Hand G a X Y t6 r/\G W=some (.lst<|(mL (Txt.slice l none<|some u) (Txt.slice l (some u) none) v B i).map V.str)) ⟨O,none,rfl,bf,b7,ag⟩ (λi σ G hi ⟨O,wx,Z,ak,ae,a6⟩=>?_) (λσ G ⟨O,wx,Z,ak,ae,a6⟩=>?_)⟩
   .subst Z;have bt:i<n:=by lia
    have az:↑l<=sizeLine:=M (by lia);have pl:=Txt.slice_le l none<|some u;have sl:=Txt.slice_le l (some u) none;have ba:0<=(v+B*(0+(i:Int))) % 26:=vO _ (by decide);have b6:(v+B*(0+(i:Int))) % 26<26:=vC _ (by decide);exists _,rfl,_,rfl,u,rfl,l,rfl,az,_,rfl,_,rfl,_,rfl,_,rfl,_,_,rfl,rfl,.inl ⟨by lia,by lia⟩,_,_,rfl,rfl,_,_,rfl,rfl,by show(0:Int)<26;decide,lets,_,_,rfl,rfl,M (by decide),MJ ba b6,
     _,_,rfl,rfl,?_,_,rfl,_,rfl,u,rfl,l,rfl,az,_,_,rfl,rfl,?_
    .show(Txt.slice l none<|some u).length+1<=sizeLine;exact M (by lia)
    .have e:↑(Txt.slice l none (some u)++(⟨#[(97+(v+B*(0+(i:Int))) % 26).toNat]⟩:Str))=↑(Txt.slice l none<|some u)+1:=by
      show(_++#[_]).size=_;rw[wN];rfl
     show(Txt.slice l none (some u)++(⟨#[(97+(v+B*(0+(i:Int))) % 26).toNat]⟩:Str)).length+↑(Txt.slice l (some u) none)<=sizeLine;rw[e];exact M (by lia)
    have ew:Txt.slice l none (some u)++(⟨#[(97+(v+B*(0+(i:Int))) % 26).toNat]⟩:Str)++Txt.slice l (some u) none=gI (Txt.slice l none<|some u) (Txt.slice l (some u) none) (fE v B i):=by
     unfold gI fE;rw[Int.zero_add]
    have bn:↑(gI (Txt.slice l none<|some u) (Txt.slice l (some u) none)<|fE v B i)<=20:=by
     show((_++#[_])++_).size<=20;rw[wN,wN];show(Txt.slice l none<|some u).length+1+↑(Txt.slice l (some u) none)<=20;lia
    rw[ew];generalize hw:gI (Txt.slice l none<|some u) (Txt.slice l (some u) none) (fE v B i)=wd at *;refine⟨_,rfl,.inl ⟨rfl,_,SqL.of a6⟩,_,rfl,_,rfl,rfl,.inr ⟨_,rfl,_,_,rfl,rfl,?_,_,_,rfl,rfl,?_,W,_,_,rfl,rfl,a6,?_,?_⟩⟩
    .cases decide (V.str wd=V.str ("own":Str)) <;> simp
    .have h1:∀c:Prop,[Decidable c]->↑(if c then Str.empty else("q":Str))<=1:=λc _=>by
      by_cases h:c
      .rw[bC h];decide
      .rw[aY h];decide
     have h2:=h1<|(if decide (V.str wd=V.str ("own":Str))=true then(1:Int) else 0)=0;exact M (by lia)
    .have:↑((mL (Txt.slice l none<|some u) (Txt.slice l (some u) none) v B i).map V.str)=i:=by
      unfold mL;rw[aK,aK,List.length_range]
     rw[this];exact bH (by lia)
    .exists _,_,rfl,?_,?_
     .intro b o hb hx;rw[aC λe=>by rw[e,a2]at hx;cases hx];exact ak b o hb hx
     .exact⟨by rw[aC<|bL ao];exact ae.1,ae.2⟩
     .rw[zb1,WE,bO];have e1:tX (Txt.slice l none<|some u) (Txt.slice l (some u) none) (fE v B i)=wd++(if (if decide (V.str wd=V.str ("own":Str))=true then(1:Int) else 0)=0 then Str.empty else("q":Str)):=by
       unfold tX;rw[hw]
       by_cases h:wd=("own":Str)
       .rw[bC h,bC (fI<|by rw[h]),aY<|by decide]
       .have h':¬(V.str wd=V.str ("own":Str)):=λz=>h<|V.str.inj z;rw[aY h,gM h'];rfl
      rw[e1];rfl
   .subst Z;exists _,rfl;rw[xN]at a6;refine q W _ X Y t6 G ak ae (by lia) a2 a6 (by unfold mL;rw[aK,List.length_range])<|Au a5 v0 hn
end
inductive ND(K:Fq)(vs:List V)(H:Hp)(Q:VK):Prop
 | mk(p:Addr)(ns:List Int)(k:Nat)(h1:vs=[.ref p,.int (k:Int)])(h2:SqL K H p (ns.map V.int))(h3:↑ns<=63)(h4:k<=63)(h5:∀(a:Addr)(d m:Int),H a=none->nM d m 0->Q (.ref a) (upd H a<|hl d m 0 0)):ND K vs H Q
def GN(K:Fq):Sp:=λvs H Q _=>ND K vs H Q
def xj3:bY ["_law_script","_law_k","_law_cell"] ["_law_script","_law_k"] (bR GQ):=cC
def MU(h0:0<=c)(d:0<=k)(a:k<=63)(b:Bool):nM (c*(if b then 1 else 0)) (c % 2305843009213693951+7919*k+11) 0:=by
 have h1:0<=c % 2305843009213693951:=vO _ (by decide);have h2:c % 2305843009213693951<2305843009213693951:=vC _ (by decide);refine⟨?_,by lia,by lia,Int.le_refl 0⟩;cases b
 .show 0<=c*0;lia
 .show 0<=c*1;lia
def YX(F:Fun K "_law_hand" "_law_hand" GQ f fd)(l:mg "len"=none)(r:mg "abs"=none)(u:mg "int"=none):aR P w K mg base bP (k+1) f fd ["_law_script","_law_k"] (GN K):=by
 refine F.ok xj3 (λvs H Q E h=>?_) λz A outer s H vs Q E hr h=>?_
 .obtain⟨p,b,k,rfl,_⟩:=h;rfl
 obtain⟨p,b,j,rfl,i,B,C,q⟩:=h;exists _,aL (sL 2 xj3.nd aO)
  (aL (cI (cA yC (pv 1) (eP jE rfl l iJ<|aA (pv 0) aE)<|cF _) (aS<|sL 2 xj3.nd<|eP XT rfl r (by rfl')<|aA (eI (pv 0)<|pv 1) aE) cZ)
  (aS (bT (cG (aA (bX rE (pv 2)<|dV BZ rfl u (by rfl')<|aA (pP oJ (pv 2) (bX uL aO aO)<|cF _) aE)
   (aA (bX iX (bX iX (bX qT (pv 2) aO)<|bX rE aO<|pv 1) aO)<|aA aO<|aA aO aE))))))
 have e:∀{n:Nat},n<=1000->n<=sizeLine:=λh=>cL<|bH h;have hl:↑(b.map V.int)=↑b:=List.length_map _;exists _,rfl,_,rfl,p,_,rfl,.inl i,_,_,rfl,rfl,_,rfl;refine bG (λc=>?_) λc=>?_
 .have c':(j:Int)<((↑(b.map V.int):Nat):Int):=cN c;rw[hl]at c';have m:j<↑b:=by lia
  have x:eE (b.map V.int) (j:Int)=some (.int b[j]):=lQ (by rw[bN,bD m];rfl);exists _,rfl,_,rfl,p,_,_,_,rfl,rfl,i,x,_,rfl;have o:0<=(if b[j]<0 then -b[j] else b[j]):=by split <;> lia
  refine⟨_,rfl,_,rfl,_,_,rfl,rfl,⟨by decide,by decide,by decide⟩,_,_,rfl,rfl,.inr ⟨_,rfl,_,_,rfl,rfl,.inr ?_,_,rfl,_,_,rfl,rfl,by show(0:Int)<2305843009213693951;decide,_,rfl,_,_,rfl,rfl,.inl (by constructor <;> decide),_,_,rfl,rfl,_,_,rfl,rfl,e (by show 4<=1000;decide),λa d=>?_⟩⟩
  .cases decide ((if b[j]<0 then -b[j] else b[j])≥10 ^ (18:Int).toNat) <;> (constructor <;> decide)
  .exact q a _ _ d<|MU o (by lia) (by lia) _
 .refine⟨_,rfl,_,rfl,_,_,rfl,rfl,⟨by decide,by decide,by decide⟩,_,_,rfl,rfl,.inr ⟨_,rfl,_,_,rfl,rfl,.inr ?_,_,rfl,_,_,rfl,rfl,by show(0:Int)<2305843009213693951;decide,_,rfl,_,_,rfl,rfl,.inl (by constructor <;> decide),_,_,rfl,rfl,_,_,rfl,rfl,e (by show 4<=1000;decide),λa d=>?_⟩⟩
  .cases decide ((0:Int)≥10 ^ (18:Int).toNat) <;> (constructor <;> decide)
  .exact q a _ _ d<|MU (Int.le_refl 0) (by lia) (by lia) _
abbrev Tr:=List<|Str×Option Str
structure TrOk(tr:Tr):Prop where
 nd:(tr.map (·.1)).Nodup
 up:∀(i:Nat) n e,tr[i]?=some (n,some e)->∃j,j<i/\∃g,tr[j]?=some (e,g)
def TrOk.nil:TrOk []:=⟨kQ,λi n e h=>by simp at h⟩
def TrOk.snoc(h:TrOk tr)(l:n∉tr.map (·.1))(he:∀x,e=some x->x∈tr.map (·.1)):TrOk (tr++[(n,e)]):=by
 refine⟨?_,λi q b hi=>?_⟩
 .rw[bO];exact KH h.nd l
 .by_cases d:i<↑tr
  .rw[kG d]at hi;obtain⟨j,a,g,f⟩:=h.up i q b hi;exact⟨j,a,g,by rw[kG<|by lia];exact f⟩
  .rw[jZ<|by lia]at hi;have h0:i-↑tr=0:=by
    cases hz:i-↑tr with
    | zero=>rfl
    | succ k=>rw[hz]at hi;simp at hi
   rw[h0]at hi;simp only[DP,BS,Prod.mk.injEq]at hi;obtain⟨_,r⟩:=hi;obtain⟨p,hp,o⟩:=wn7.mp<|he b r;obtain⟨j,a,m⟩:=lN hp;exact⟨j,by lia,p.2,by rw[kG a,bD a,m,<-o]⟩
def TrOk.one{tr:Tr}(h:TrOk tr){i j:Nat}{n:Str}{a b:Option Str}(hi:tr[i]?=some (n,a))(f:tr[j]?=some (n,b)):i=j:=by
 have e:(tr.map (·.1))[i]?=some n:=by rw[bN,hi];rfl
 have d:(tr.map (·.1))[j]?=some n:=by rw[bN,f];rfl
 obtain⟨h1,e⟩:=zz2.mp e;obtain⟨h2,d⟩:=zz2.mp d;exact(wL h.nd).mp<|e.trans d.symm
inductive Up(tr:Tr):Str->List Str->Prop
 | root {i:Nat} {n:Str}:tr[i]?=some (n,none)->Up tr n [n]
 | step {i:Nat} {n e:Str} {l:List Str}:tr[i]?=some (n,some e)->Up tr e l->Up tr n (n::l)
def Up.exists(h:TrOk tr):∀(i:Nat) n g,tr[i]?=some (n,g)->∃l,Up tr n l:=by
 intro i
 induction i using Nat.strongRecOn with
 | ind i ih=>
  intro n g hi;cases g with
  | none=>exact⟨_,.root hi⟩
  | some e=>
   obtain⟨j,a,g',b⟩:=h.up i n e hi;obtain⟨l,hl⟩:=ih j a e g' b;exact⟨_,.step hi hl⟩
def Up.mem(a:Up tr n l):∀x∈l,x∈tr.map (·.1):=by
 induction a with
 | root hi=>
  intro x b;rw[wn1]at b;subst b;exact wn7.mpr ⟨_,cW hi,rfl⟩
 | step hi _ ih=>
  intro x b;rcases wm9.mp b with rfl | b
  .exact wn7.mpr ⟨_,cW hi,rfl⟩
  .exact ih x b
def Up.len{tr:Tr}(h:TrOk tr):∀(i:Nat) n g l,tr[i]?=some (n,g)->Up tr n l->↑l<=i+1:=by
 intro i
 induction i using Nat.strongRecOn with
 | ind i ih=>
  intro n g l hi hl;cases hl with
  | root _=>show 1<=i+1;lia
  | @step i' _ e l' hj hb=>
   have:=h.one hi hj;subst this;obtain⟨j,b,g',a⟩:=h.up i n e hj;have:=ih j b e g' l' a hb;show ↑l'+1<=i+1;lia
def aV:Option Str->V
 | none=>.non
 | some e=>.str e
abbrev GZ:Stmt:=top 1
def KindsAt(H:Hp)(p:Addr)(tr:Tr):Prop:=∃(kt:Addr)(ts:List Addr)(x y:V),H p=some (.tup [.ref kt,x,y])/\H kt=some (.tup<|ts.map V.ref)/\↑ts=↑tr/\
 ∀(j:Nat) t z,ts[j]?=some t->tr[j]?=some z->∃v,H t=some (.tup [.str z.1,aV z.2,v])
def yf2:bY ["program","kind","elder_of","line"] ["program","kind"] (bR GZ):=cC
def eT(d:PE X a ta)(e:PE X b tb)(hs:KR b:=by exact λ_ _=>rfl):PE X (.Subscript a b pos) (dC (dI X.K) ta tb):=kP uG d e hs
def cH(tr:Tr):List (aG×V):=tr.map λz=>((Sum.inr z.1:aG),aV z.2)
def Bj(h:n∉tr.map (·.1)):aF (cH tr) (Sum.inr n)=none:=by
 cases e:aF (cH tr) (Sum.inr n)with
 | none=>rfl
 | some v=>
  have:=CQ e;unfold cH at this;rw[kX]at this;obtain⟨z,hz,a⟩:=wn7.mp this;exact absurd (wn7.mpr ⟨z,hz,iY a⟩) h
def OX(ok:TrOk tr)(h:tr[i]?=some (n,e)):cH (tr.take<|i+1)=aN (cH<|tr.take i) (Sum.inr n) (aV e):=by
 have m:n∉(tr.take i).map (·.1):=λf=>by
  obtain⟨z,hz,a⟩:=wn7.mp f;obtain⟨j,d,l⟩:=lN hz;rw[eK]at d;have b:tr[j]?=some (n,z.2):=by
   rw[bD (by lia),<-a,<-l,List.getElem_take]
  have:=ok.one h b;lia
 rw[DB _<|Bj m];unfold cH;rw[gD,h,bO];rfl
def uD{tr:Tr}(ok:TrOk tr){i:Nat}{n:Str}{e:Option Str}(h:tr[i]?=some (n,e)):aF (cH tr) (Sum.inr n)=some (aV e):=by
 obtain⟨hi,_⟩:=zz2.mp h;have b:∀(tr:Tr)(i:Nat),TrOk tr->tr[i]?=some (n,e)->(cH tr).find? (λd=>decide<|d.1=(Sum.inr n:aG))=some ((Sum.inr n:aG),aV e):=by
  intro tr i ok h;cases q:(cH tr).find? (λd=>decide<|d.1=(Sum.inr n:aG))with
  | none=>
   have:=List.find?_eq_none.mp q ((Sum.inr n:aG),aV e)<|wn7.mpr ⟨(n,e),cW h,rfl⟩;simp at this
  | some r=>
   have h1:=List.find?_some q;have h2:=EN q;obtain⟨z,hz,f⟩:=wn7.mp h2;obtain⟨j,o,s⟩:=lN hz;have m:r.1=(Sum.inr n:aG):=cN h1;rw[<-f]at m;have l:z.1=n:=iY m;have a:tr[j]?=some (n,z.2):=by rw[bD o,s,<-l]
   have:=ok.one h a;subst this;rw[h]at a;have u:z.2=e:=by cases a;rfl
   rw[<-f,l,u]
 unfold aF;rw[b tr i ok h];rfl
def uH(f:FrS [] H H')(hp:H' p=none):H p=none:=by
 cases hz:H p with
 | none=>rfl
 | some o=>have:=f p o (by simp) hz;rw[hp]at this;cases this
def Up.at(h:Up tr n l):∃(i:Nat)(g:Option Str),tr[i]?=some (n,g):=by
 cases h with
 | root h=>exact⟨_,_,h⟩
 | step h _=>exact⟨_,_,h⟩
def JH(dn:List Str)(x:Str):eE ((dn++[x]).map V.str) (-1)=some (.str x):=by
 rw[bO];unfold eE lI;have a:↑(dn.map V.str++[x].map V.str)=↑dn+1:=by simp
 rw[a,aY (by decide),bC<|by lia];have e:(-1+((↑dn+1:Nat):Int)).toNat=↑dn:=by lia
 show(dn.map V.str++[x].map V.str)[(-1+((↑dn+1:Nat):Int)).toNat]?=_;rw[e,jZ<|by simp];simp
inductive NN(vs:List V)(H:Hp)(Q:VK):Prop
 | mk(p:Addr)(n:Str)(tr:Tr)(l:List Str)(h1:vs=[.ref p,.str n])(h2:KindsAt H p tr)(h3:TrOk tr)(h4:↑tr<=12)(h5:Up tr n l)(h6:∀(a:Addr)(H':Hp),FrS [] H H'->H a=none->H' a=some (.tup<|l.reverse.map V.str)->Q (.ref a) H'):NN  vs H Q
def FW:Sp:=λvs H Q _=>NN  vs H Q
def TC{k:Nat}(F:Fun K "elders" "elders" GZ f fd)(mt:mg "tuple"=none):aR P w K mg base bP (k+1) f fd ["program","kind"] FW:=by
 refine F.ok yf2 (λvs H Q E h=>?_) λao A outer s H vs Q E hr h=>?_
 .obtain⟨p,n,tr,l,rfl,_⟩:=h;rfl
 obtain⟨p,n,tr,l,rfl,⟨L,ts,x,y,hp,J,O,af⟩,ok,an,G,q⟩:=h;have hu:=dU hr;have ag:↑l<=12:=by
  obtain⟨i,g,hi⟩:=G.at;have:=Up.len ok i n g l hi G;obtain⟨h1,_⟩:=zz2.mp hi;lia
 have C:(["name","elder","deeds"]:List Str).Nodup:=by rfl'
 exists _,aL (YM (hp:=MI) (i:=2) (N':=["name","elder","deeds"]) (src:=[none,none,none]) rfl yf2.nd rfl rfl eW (fU<|eT (pv 0) aO) (g:=eG K 3<|dQ (bW 0)<|dQ (bW 1)<|dQ (bW 2) dZ) (λ_ _ _ _=>eC (n:=3) rfl<|bJ (gL 0 C)<|bJ (gL 1 C)<|bJ (gL 2 C) dY) (λ_ _ _ _=>gP) (λ_ _ _ _=>pv 0) λ_ _ _ _=>pv 1)
  (aL (sL 3 yf2.nd<|cG<|aA (pv 1) aE)<|aL (EI dO (hV<|rP<|bQ hu (pv 2) (eI (pv 3)<|pA nW aO) λ_ _=>rfl)<|aS<|dW<|eN eA eX eY eR (pv 3)<|aA (bQ hu (pv 2) (eI (pv 3)<|pA nW aO) λ_ _=>rfl) aE)<|aS<|bT<|dV gS rfl mt (by rfl')<|aA (KD (pv 3)<|pA nW aO) aE)
 ac_rfl
 refine⟨_,rfl,p,_,_,_,rfl,rfl,SqT.of hp,rfl,L,rfl,⟨_,SqT.of J⟩,λD u=>?_⟩;have ak:p≠D:=aP hp u;have aj:L≠D:=aP J u;exists λi m σ j=>m=↑ts-i/\i<=↑ts/\(∃a b c,σ=[a,b,c])/\j=upd H D (.dK<|cH<|tr.take i),⟨_,rfl,bM _,⟨_,_,_,rfl⟩,rfl⟩;rintro i m σ j ⟨rfl,hi,⟨a0,b0,c0,rfl⟩,rfl⟩;have M:∀o,upd H D o L=some (.tup<|ts.map V.ref):=λo=>by rw[aC aj];exact J
 by_cases B:i<↑ts
 .refine .inr ⟨⟨_,_,SqT.of<|M _,by rw[bN,bD B];rfl⟩,λσ' H'=>(∃a b c,σ'=[a,b,c])/\H'=upd H D (.dK<|cH<|tr.take<|i+1),by rintro σ' H' ⟨h1,h2⟩;exact⟨_,by lia,rfl,B,h1,h2⟩,λv H' T=>?_⟩;obtain⟨rfl,T⟩:=T;have Z:=T _<|SqT.of<|M _;rw[bN,bD B]at Z;cases Z;have a9:tr[i]?=some tr[i]:=bD (by lia);obtain⟨N,ad⟩:=af i _ _ (bD B) a9;have ai:∀o,upd H D o ts[i]=some (.tup [.str tr[i].1,aV tr[i].2,N]):=λo=>by rw[aC<|aP ad u];exact ad
  exists ts[i],_,rfl,SqT.of<|ai _,rfl,_,_,rfl,_,_,rfl,_,_,rfl,rfl;exists _,rfl,_,rfl,_,Sum.inr tr[i].1,rfl,zb1,?_,⟨_,_,_,rfl⟩
  .unfold cH;rw[aK,eK];exact bH (by lia)
  .rw[fT,OX ok a9];rfl
 .refine .inl ⟨⟨_,SqT.of<|M _,by rw[aK];lia⟩,?_⟩;have e:i=↑tr:=by lia
  rw[e,fS<|aU _];refine⟨_,rfl,by show 1<=sizeLine;decide,λd r=>?_⟩;have Y:D≠d:=λz=>by rw[<-z,zb1]at r;cases r
  have am:H d=none:=by rw[aC<|bL Y]at r;exact r
  refine JV (λσ j=>∃(dn rs:List Str)(x:Str),σ=[some<|.ref p,some<|.str n,some<|.ref D,some<|.ref d]/\j=upd (upd H D<|.dK<|cH tr) d (.lst<|(dn++[x]).map V.str)/\Up tr x rs/\dn++rs=l/\↑dn<=12)
   (λσ j=>match j d with | some (.lst xs)=>100-↑xs | _=>0) ⟨[],l,n,rfl,rfl,G,rfl,by decide⟩ ?_ ?_
  .rintro σ j ⟨dn,rs,x,rfl,rfl,hx,hl,hd⟩;have I:∀o,upd (upd H D<|.dK<|cH tr) d o D=some (.dK<|cH tr):=λo=>by rw[aC Y];exact zb1
   have al:∀o,upd (upd H D<|.dK<|cH tr) d o d=some o:=λo=>zb1;have O:∀y:Str,↑((dn++[y]).map V.str)=↑dn+1:=λy=>by simp
   cases hx with
   | @root i _ hi=>
    exists _,rfl,_,rfl,_,rfl,d,_,_,_,rfl,rfl,SqL.of zb1,JH dn x,D,V.non,rfl,?_,_,rfl
    .have:=DGet.k (k:=(Sum.inr x:aG))<|I<|.lst<|(dn++[x]).map V.str;rw[uD ok hi]at this;exact this
    .show if (!decide (V.non=V.non))=true then _ else _
     rw[aY<|by simp];refine⟨_,rfl,_,rfl,rfl,d,_,rfl,SqL.of zb1,λp2 X=>?_⟩;have W:FrS [] H (upd (upd H D<|.dK<|cH tr) d<|.lst<|(dn++[x]).map V.str):=(FrS.new u).trans<|FrS.new r;refine⟨p2,_,rfl,.inl ⟨SqL.of zb1,λp3 aa=>?_⟩⟩;refine q p3 _ ((W.trans<|FrS.new X).trans<|FrS.new aa) ?_ ?_
     .exact uH (W.trans<|FrS.new X) aa
     .rw[zb1,<-hl,List.map_reverse]
   | @step i _ e l' hi hb=>
    exists _,rfl,_,rfl,_,rfl,d,_,_,_,rfl,rfl,SqL.of zb1,JH dn x,D,V.str e,rfl,?_,_,rfl
    .have:=DGet.k (k:=(Sum.inr x:aG))<|I<|.lst<|(dn++[x]).map V.str;rw[uD ok hi]at this;exact this
    .show if (!decide (V.str e=V.non))=true then _ else _
     rw[bC<|by simp];exists _,rfl,.inl ⟨rfl,_,SqL.of zb1⟩,_,rfl,_,rfl,_,rfl,d,_,_,_,rfl,rfl,SqL.of zb1,JH dn x,D,V.str e,rfl,?_,d,_,_,rfl,rfl,zb1,?_,⟨dn++[x],l',e,rfl,?_,hb,by rw[<-hl];simp,?_⟩
     .have:=DGet.k (k:=(Sum.inr x:aG))<|I<|.lst<|(dn++[x]).map V.str;rw[uD ok hi]at this;exact this
     .rw[O];exact bH (by lia)
     .rw[fT,bO (l₁:=dn++[x])];rfl
     .have:=cK List.length hl;rw[bI,cU]at this;rw[bI,dR];lia
     .show(match upd _ d _ d with | some (HO.lst xs)=>100-↑xs | _=>0)<(match upd _ d _ d with | some (HO.lst xs)=>100-↑xs | _=>0);rw[zb1,zb1];show 100-↑(((dn++[x]).map V.str)++[V.str e])<100-↑((dn++[x]).map V.str);rw[bI,O,dR];lia
  .intro σ j R R' hR hc;obtain⟨v1,h1,v2,h2,N,h3,p',xs,i',v',h4,h5,h6,h7,a',v8,h8,h9,c,ae,ah⟩:=hc;exact⟨v1,h1,v2,h2,N,h3,p',xs,i',v',h4,h5,h6,h7,a',v8,h8,h9,c,ae,hR _ _ ah⟩
def jT(n:Str)(l:List Str):iE (.str n) (l.map V.str)=decide (n∈l):=by
 unfold iE
 induction l with
 | nil=>rfl
 | cons x r ih=>
  rw[fH,vD,ih];have e:kD (.str x) (.str n)=decide (x=n):=by
   first | rfl | simp[kD] | (unfold kD;by_cases h:x=n <;> simp[h])
  rw[e]
  by_cases h:x=n
  .subst h;simp
  .have h':¬n=x:=λz=>h z.symm;simp[h,h']
def iS(l:List Str):(l.map V.str).all jP=true:=by
 rw[List.all_map,wr1];intro x _;rfl
def FrS.put(f:FrS S H H')(h:H a=none):FrS S H (upd H' a o):=λb u n q=>by
 rw[aC<|aP q h];exact f b u n q
def FrS.put'(f:FrS S H H')(h:a∈S):FrS S H (upd H' a o):=f.trans<|FrS.chg h
def FrS.old(f:FrS S H H')(hs:∀b∈S,∃o,H' b=some o)(hp:H' p=none):H p=none:=by
 cases hz:H p with
 | none=>rfl
 | some o=>
  by_cases a:p∈S
  .obtain⟨u,d⟩:=hs p a;rw[hp]at d;cases d
  .have:=f p o a hz;rw[hp]at this;cases this
def wI(d:Nat->St->Hp->Prop)(h0:d 0 σ0 H0)(hl:∀i σ H,i<=↑xs->d i σ H->SqL K H a xs)(hs:∀i x σ H,xs[i]?=some x->d i σ H->g x σ H λσ2 H2=>tt σ2 H2 λb H3=>if b=true then te σ2 H3 λv f=>∃ys,f D=some (.lst ys)/\↑ys<sizeLine/\d (i+1) σ2 (upd f D<|.lst<|ys++[v]) else d (i+1) σ2 H3)(hd:∀σ H,d ↑xs σ H->Q H):mU (sY K a) g tt te D σ0 H0 Q:=by
 exists λi m σ H=>m=↑xs-i/\i<=↑xs/\d i σ H,⟨↑xs,by simp,bM _,h0⟩;rintro i m σ H ⟨rfl,hi,p⟩;have q:=hl i σ H hi p
 by_cases h:i<↑xs
 .refine .inr ⟨⟨xs,xs[i],q,by simp[h]⟩,d<|i+1,λσ' H' j=>⟨↑xs-(i+1),by lia,rfl,h,j⟩,λx H' y=>?_⟩;obtain⟨e,y⟩:=y;subst e;exact hs i x σ _ (y xs q) p
 .have e:i=↑xs:=by lia
  subst e;exact .inl ⟨⟨xs,q,aU _⟩,hd σ H p⟩
def DJ(a:Nat->St->Hp->Prop)(h0:a 0 σ0 H0)(hl:∀i σ H,i<=↑xs->a i σ H->ok H)(hs:∀i x σ H,xs[i]?=some x->a i σ H->g x σ H λσ2 H2=>tt σ2 H2 λb H3=>if b=true then te σ2 H3 λv d=>∃ys,d D=some (.lst ys)/\↑ys<sizeLine/\a (i+1) σ2 (upd d D<|.lst<|ys++[v]) else a (i+1) σ2 H3)(hd:∀σ H,a ↑xs σ H->Q H):mU (nQ ok xs) g tt te D σ0 H0 Q:=by
 exists λi m σ H=>m=↑xs-i/\i<=↑xs/\a i σ H,⟨↑xs,by simp,bM _,h0⟩;rintro i m σ H ⟨rfl,hi,p⟩;have q:=hl i σ H hi p
 by_cases f:i<↑xs
 .refine .inr ⟨⟨q,f⟩,a<|i+1,λσ' H' h=>⟨↑xs-(i+1),by lia,rfl,f,h⟩,λx H' y=>?_⟩;obtain⟨e,y⟩:=y;subst e;exact hs i x σ _ y p
 .have e:i=↑xs:=by lia
  subst e;exact .inl ⟨⟨q,aU _⟩,hd σ H p⟩
def LK(a:Nat->St->Hp->Prop)(h0:a 0 σ0 H0)(hs:∀i σ H,i<n->a i σ H->g (.int<|lo+i) σ H λσ2 H2=>tt σ2 H2 λb H3=>if b=true then te σ2 H3 λv f=>∃ys,f D=some (.lst ys)/\↑ys<sizeLine/\a (i+1) σ2 (upd f D<|.lst<|ys++[v]) else a (i+1) σ2 H3)(hd:∀σ H,a n σ H->Q H):mU (rD lo n) g tt te D σ0 H0 Q:=by
 exists λi m σ H=>m=n-i/\i<=n/\a i σ H,⟨n,by simp,bM _,h0⟩;rintro i m σ H ⟨rfl,hi,p⟩
 by_cases d:i<n
 .refine .inr ⟨d,a<|i+1,λσ' H' h=>⟨n-(i+1),by lia,rfl,d,h⟩,λx H' y=>?_⟩;obtain⟨e,y⟩:=y;subst e y;exact hs i σ _ d p
 .have e:i=n:=by lia
  subst e;exact .inl ⟨aU _,hd σ H p⟩
def yZ{ok:Hp->Prop}{xs:List V}{g:TG}{tb:TS}{D:cR}{σ:St}{H:Hp}(a:Nat->St->Hp->Prop)(h0:a 0 σ H)(hl:∀i σ H,i<=↑xs->a i σ H->ok H)
  (hs:∀i x σ H,xs[i]?=some x->a i σ H->g x σ H λσ2 H2=>tb {D with nx:=a<|i+1,ct:=a<|i+1,bk:=D.nx} σ2 H2) (hd:∀σ H,a ↑xs σ H->D.nx σ H):
  ∃W:Nat->Nat->St->Hp->Prop,(∃m,W 0 m σ H)/\∀i m σ H,W i m σ H->
   ((nQ ok xs).stop i H/\D.nx σ H)\/((nQ ok xs).go i H/\∃N:St->Hp->Prop,(∀σ' H',N σ' H'->∃m',m'<m/\W (i+1) m' σ' H')/\∀x H',(nQ ok xs).yld i H x H'->g x σ H' λσ2 H2=>tb {D with nx:=N,ct:=N,bk:=D.nx} σ2 H2):=by
 exists λi m σ H=>m=↑xs-i/\i<=↑xs/\a i σ H,⟨↑xs,by simp,bM _,h0⟩;rintro i m σ H ⟨rfl,hi,p⟩;have q:=hl i σ H hi p
 by_cases b:i<↑xs
 .refine .inr ⟨⟨q,b⟩,a<|i+1,λσ' H' d=>⟨↑xs-(i+1),by lia,rfl,b,d⟩,λx H' y=>?_⟩;obtain⟨e,y⟩:=y;subst e;exact hs i x σ _ y p
 .have e:i=↑xs:=by lia
  subst e;exact .inl ⟨⟨q,aU _⟩,hd σ H p⟩
theorem RD{α:Type}[DecidableEq α]:∀(l U:List α),l.Nodup->(∀x∈l,x∈U)->↑l<=U.length
 | [],U,_,_=>bM _
 | x::l,U,h,hs=>by
  have a:x∈U:=hs x<|uC ..;have d:=wq7.mp h;have f:=RD l (U.erase x) d.2 λy b=>(List.mem_erase_of_ne λe=>d.1<|by rw[<-e];exact b).mpr<|hs y<|hC _ b
  rw[List.length_erase_of_mem a]at f;have:=List.length_pos_of_mem a;show ↑l+1<=U.length;lia
def KJ{κ:Type}[DecidableEq κ](kvs:List (κ×V))(k:κ)(v:V):((aN kvs k v).map (·.1)=kvs.map (·.1)/\k∈kvs.map (·.1))\/((aN kvs k v).map (·.1)=kvs.map (·.1)++[k]/\k∉kvs.map (·.1)):=by
 cases h:aF kvs k with
 | none=>exact .inr ⟨by rw[DB v h,bO];rfl,DG h⟩
 | some u=>
  refine .inl ⟨?_,CQ h⟩;unfold aN;rw[oU,h];show(List.map _<|List.map _ kvs)=_;rw[kX];refine AN λx _=>?_;show(if x.1=k then(x.1,v) else x).1=x.1
  split <;> rfl
structure DOk(U N:List Str)(kvs:List (aG×V)):Prop where
 nd:(kvs.map (·.1)).Nodup
 ks:∀k∈kvs.map (·.1),∃x∈U,k=Sum.inr x
 vs:∀k v,aF kvs k=some v->v=.non\/∃n∈N,v=.str n
def DOk.nil:DOk U N []:=⟨kQ,(λ_ h=>nomatch h),(λ_ _ h=>nomatch h)⟩
def DOk.put(h:DOk U N kvs)(d:x∈U)(f:v=.non\/∃n∈N,v=.str n):DOk U N (aN kvs (Sum.inr x) v):=by
 refine⟨?_,λk a=>?_,λk u b=>?_⟩
 .rcases KJ kvs (Sum.inr x) v with ⟨e,_⟩ | ⟨e,hn⟩
  .rw[e];exact h.nd
  .rw[e];exact KH h.nd hn
 .rcases KJ kvs (Sum.inr x) v with ⟨e,_⟩ | ⟨e,hn⟩
  .rw[e]at a;exact h.ks k a
  .rw[e]at a;rcases wp5.mp a with a | a
   .exact h.ks k a
   .exact⟨x,d,wn1.mp a⟩
 .rw[jF]at b
  by_cases e:k=Sum.inr x
  .rw[bC e]at b;cases b;exact f
  .rw[aY e]at b;exact h.vs k u b
def DOk.len(h:DOk U N kvs):↑kvs<=U.length:=by
 have:=RD (kvs.map (·.1)) (U.map λx=>(Sum.inr x:aG)) h.nd λk a=>by
  obtain⟨x,b,e⟩:=h.ks k a;exact wn7.mpr ⟨x,b,e.symm⟩
 rwa [aK,aK]at this
def DOk.get(h:DOk U N kvs)(k:aG):(aF kvs k).getD .non=.non\/∃n∈N,(aF kvs k).getD .non=.str n:=by
 cases e:aF kvs k with
 | none=>exact .inl rfl
 | some v=>exact h.vs k v e
structure WA where
 (tree late deeds wants owners vars params fields told held roots:Addr)
structure WD where
 tr:Tr
 (late deeds vars params fields:List Str)
 wants:List (List aG×V)
 (owners roots:List (aG×V))
 own:Str->List Str
def WD.names(D:WD):List Str:=D.tr.map (·.1)
def WD.U(D:WD):List Str:="own"::(D.vars++D.params)
def Stt(M:List Addr)(H:Hp)(a:Addr)(o:HO):Prop:=a∉M/\H a=some o
def Stt.keep(h:Stt M H a o)(f:FrS M H H'):Stt M H' a o:=⟨h.1,f a o h.1 h.2⟩
def Stt.sub(h:Stt M H a o)(hs:∀b∈M',b∈M):Stt M' H a o:=⟨λz=>h.1<|hs a z,h.2⟩
def TrOk.elder(h:TrOk tr)(a:x∈tr)(e:x.2=some y):y∈tr.map (·.1):=by
 obtain⟨n,g⟩:=x;have e:g=some y:=e;subst e;obtain⟨i,hi⟩:=wr6.mp a;obtain⟨j,_,g,b⟩:=h.up i n y hi;exact wn7.mpr ⟨(y,g),cW b,rfl⟩
def yF(tr:Tr)(late:List Str):Prop:=∀x∈tr,∀e,x.2=some e->e∈late->x.1∈late
structure xO(D:WD):Prop where
 ok:TrOk D.tr
 lnm:∀x∈D.late,x∈D.names
 l1:D.tr≠[]
 l12:D.tr.length<=12
 lateIn:yF D.tr D.late
 lateLen:D.late.length<=12
 soon:∃x∈D.names,x∉D.late
 d1:D.deeds≠[]
 d6:D.deeds.length<=6
 v4:D.vars.length=4
 p4:D.params.length=4
 f3:D.fields.length=3
structure Wld(M:List Addr)(H:Hp)(wd:Addr)(A:WA)(D:WD):Prop where
 k:∃kvs,Stt M H wd (.dK kvs)/\aF kvs (Sum.inr "tree")=some (.ref A.tree)/\aF kvs (Sum.inr "late")=some (.ref A.late)/\aF kvs (Sum.inr "deeds")=some (.ref A.deeds)/\aF kvs (Sum.inr "wants")=some (.ref A.wants)/\
  aF kvs (Sum.inr "owners")=some (.ref A.owners)/\aF kvs (Sum.inr "vars")=some (.ref A.vars)/\aF kvs (Sum.inr "params")=some (.ref A.params)/\aF kvs (Sum.inr "fields")=some (.ref A.fields)/\
  aF kvs (Sum.inr "told")=some (.ref A.told)/\aF kvs (Sum.inr "held")=some (.ref A.held)/\aF kvs (Sum.inr "roots")=some (.ref A.roots)
 tree:∃ts:List Addr,Stt M H A.tree (.lst<|ts.map V.ref)/\↑ts=D.tr.length/\∀(j:Nat) t x,ts[j]?=some t->D.tr[j]?=some x->Stt M H t (.tup [.str x.1,aV x.2])
 late:Stt M H A.late (.lst<|D.late.map V.str)
 deeds:Stt M H A.deeds (.lst<|D.deeds.map V.str)
 vars:Stt M H A.vars (.lst<|D.vars.map V.str)
 params:Stt M H A.params (.lst<|D.params.map V.str)
 fields:Stt M H A.fields (.lst<|D.fields.map V.str)
 wants:Stt M H A.wants (.dT D.wants)
 owners:Stt M H A.owners (.dK D.owners)
 roots:Stt M H A.roots (.dK D.roots)
 wl:∀n∈D.names,∀d∈D.deeds,∃(r:Str)(p:Addr)(ws:List Str),aF D.roots (Sum.inr n)=some (.str r)/\aF D.wants [Sum.inr r,Sum.inr d]=some (.ref p)/\Stt M H p (.lst<|ws.map V.str)/\↑ws<=4/\∀x∈ws,x∈D.names
 ol:∀d∈D.deeds,∃p:Addr,aF D.owners (Sum.inr d)=some (.ref p)/\Stt M H p (.lst<|(D.own d).map V.str)/\(∀x∈D.own d,x∈D.names)/\↑(D.own d)<=13
def Wld.map{A:WA}(h:Wld M H wd A D)(f:∀a o,Stt M H a o->Stt M' H' a o):Wld M' H' wd A D:=by
 obtain⟨⟨kvs,E,u⟩,⟨ts,I,l,z⟩,h1,h2,w,m,s,i,G,q,C,J⟩:=h;refine⟨⟨kvs,f _ _ E,u⟩,⟨ts,f _ _ I,l,λj t x a b=>f _ _<|z j t x a b⟩,f _ _ h1,f _ _ h2,f _ _ w,f _ _ m,f _ _ s,f _ _ i,f _ _ G,f _ _ q,λn B d hd=>?_,λd hd=>?_⟩
 .obtain⟨r,p,ws,a,b,c,e⟩:=C n B d hd;exact⟨r,p,ws,a,b,f _ _ c,e⟩
 .obtain⟨p,a,b,c⟩:=J d hd;exact⟨p,a,f _ _ b,c⟩
theorem Wld.keep{A:WA}(h:Wld M H wd A D)(f:FrS M H H'):Wld M H' wd A D:=h.map λ_ _ x=>x.keep f
theorem Wld.g{A:WA}(h:Wld M H wd A D):DGet H wd (.str "tree") (some<|.ref A.tree)/\DGet H wd (.str "late") (some<|.ref A.late)/\DGet H wd (.str "deeds") (some<|.ref A.deeds)/\DGet H wd (.str "wants") (some<|.ref A.wants)/\
  DGet H wd (.str "owners") (some<|.ref A.owners)/\DGet H wd (.str "vars") (some<|.ref A.vars)/\DGet H wd (.str "params") (some<|.ref A.params)/\DGet H wd (.str "fields") (some<|.ref A.fields)/\DGet H wd (.str "told") (some<|.ref A.told)/\DGet H wd (.str "held") (some<|.ref A.held)/\DGet H wd (.str "roots") (some<|.ref A.roots):=by
 obtain⟨kvs,⟨_,e⟩,d,b,j,l,n,k6,f,i,o,a,m⟩:=h.k;have g:∀(x:Str)(v:V),aF kvs (Sum.inr x)=some v->DGet H wd (.str x) (some v):=λx v q=>.inl ⟨kvs,Sum.inr x,.inl e,rfl,q.symm⟩;exact⟨g _ _ d,g _ _ b,g _ _ j,g _ _ l,g _ _ n,g _ _ k6,g _ _ f,g _ _ i,g _ _ o,g _ _ a,g _ _ m⟩
abbrev KQ:Stmt:=top 55
abbrev tF:Stmt:=top 56
def NT(ok:TrOk tr):cJ [] (cH tr)=cH tr:=by
 have a:∀i,i<=↑tr->cJ [] ((cH tr).take i)=cH (tr.take i):=by
  intro i
  induction i with
  | zero=>intro _;rfl
  | succ i ih=>
   intro hi;have b:tr[i]?=some tr[i]:=bD (by lia);have d:(cH tr)[i]?=some (Sum.inr tr[i].1,aV tr[i].2):=by unfold cH;rw[bN,b];rfl
   rw[ME d,ih (by lia),OX ok (e:=tr[i].2) (n:=tr[i].1) b]
 have hl:↑(cH tr)=↑tr:=by unfold cH;rw[aK]
 have:=a ↑tr (aU _);rwa [fS (by lia),fS<|aU _]at this
inductive NV(vs:List V)(H:Hp)(Q:VK):Prop
 | mk(wd:Addr)(M:List Addr)(A:WA)(D:WD)(n:Str)(l:List Str)(h1:vs=[.ref wd,.str n])(h2:Wld M H wd A D)(h3:xO D)(h4:Up D.tr n l)(h5:∀(a:Addr)(H':Hp),FrS [] H H'->H a=none->H' a=some (.lst<|l.map V.str)->Q (.ref a) H'):NV  vs H Q
def AX:Sp:=λvs H Q _=>NV  vs H Q
def yw0:bY [qW,"_law_kind","_law_up","_law_line_here"] qG (bR KQ):=cC
def YC(F:Fun K "_law_line" "_law_line" KQ f fd)(a9:mg "dict"=none):aR P w K mg base bP (k+1) f fd qG AX:=by
 refine F.ok yw0 (λvs H Q E h=>?_) λad A outer s H vs Q E hr h=>?_
 .obtain⟨wd,M,A,D,n,l,rfl,_⟩:=h;rfl
 obtain⟨wd,M,WA,D,n,l,rfl,N,m,G,q⟩:=h;have J:=dU hr;exists _,aL (sL 2 yw0.nd<|dV (AY rfl) rfl a9 (by rfl')<|aA (bQ J (pv 0) bA λ_ _=>rfl) aE)
  (aL (sL 3 yw0.nd<|cG aE)<|aL (EI dO (hV<|rP<|pv 1)<|aL (dW<|eN eA eX eY eR (pv 3)<|aA (pv 1) aE)<|aS<|sL 1 yw0.nd<|bQ J (pv 2) (pv 1) λ_ _=>rfl)<|aS<|bT<|pv 3)
 ac_rfl
 obtain⟨ts,t1,t2,t3⟩:=N.tree;have T:↑(cH D.tr)=D.tr.length:=by unfold cH;rw[aK]
 have ac:=m.l12;refine⟨_,rfl,wd,_,rfl,N.g.1,WA.tree,ts,cH D.tr,rfl,SqL.of t1.2,by rw[T];exact t2,by rw[T];exact bH (by lia),λj t r ht C=>?_,λb aa=>?_⟩
 .unfold cH at C;rw[bN]at C;obtain⟨x,B,rfl⟩:=wp4.mp C;exact SqT.of (t3 j t x ht B).2
 rw[NT m.ok];refine⟨bM _,λa u=>?_⟩;have Z:b≠a:=λz=>by rw[<-z,zb1]at u;cases u
 have Y:H a=none:=by rw[aC<|bL Z]at u;exact u
 refine JV (λσ d=>∃(dn:List Str)(r:V),σ=[some<|.ref wd,some r,some<|.ref b,some<|.ref a]/\d=upd (upd H b<|.dK<|cH D.tr) a (.lst<|dn.map V.str)/\↑dn<=12/\((r=.non/\dn=l)\/∃x rs,r=.str x/\Up D.tr x rs/\dn++rs=l))
  (λσ d=>match d a with | some (.lst xs)=>100-↑xs | _=>0) ⟨[],.str n,rfl,rfl,by decide,.inr ⟨n,l,rfl,G,rfl⟩⟩ ?_ ?_
 .rintro σ d ⟨dn,r,rfl,rfl,hd,I⟩;have L:∀o,upd (upd H b<|.dK<|cH D.tr) a o b=some (.dK<|cH D.tr):=λo=>by rw[aC Z];exact zb1
  rcases I with ⟨rfl,rfl⟩ | ⟨x,rs,rfl,B,hl⟩
  .exists _,rfl,_,rfl;show if (!decide (V.non=V.non))=true then _ else _
   rw[aY<|by trivial];exact⟨_,rfl,q a _ (((FrS.refl).put aa).put Y) Y zb1⟩
  .exists _,rfl,_,rfl;show if (!decide (V.str x=V.non))=true then _ else _
   rw[bC<|by trivial];have W:↑dn+1<=12:=by
    obtain⟨i,g,hi⟩:=G.at;have h1:=Up.len m.ok i n g l hi G;obtain⟨h2,_⟩:=zz2.mp hi;have h3:=cK List.length hl;rw[bI]at h3;have h4:1<=↑rs:=by cases B <;> simp
    lia
   exists _,rfl,.inl ⟨rfl,_,SqL.of zb1⟩,_,rfl,a,_,_,rfl,rfl,zb1,by rw[aK];exact bH (by lia),_,rfl,_,rfl;rw[fT];have O:(match upd (upd H b<|.dK<|cH D.tr) a (.lst<|dn.map V.str++[V.str x]) a with | some (HO.lst xs)=>100-↑xs | _=>0)<(match upd (upd H b<|.dK<|cH D.tr) a (.lst<|dn.map V.str) a with | some (HO.lst xs)=>100-↑xs | _=>0):=by
    rw[zb1,zb1];show 100-↑(dn.map V.str++[V.str x])<100-↑(dn.map V.str);rw[bI,aK,dR];lia
   have X:dn.map V.str++[V.str x]=(dn++[x]).map V.str:=by rw[bO];rfl
   cases B with
   | @root i _ hi=>
    refine⟨b,.non,rfl,?_,⟨dn++[x],.non,rfl,by rw[X],by rw[bI,dR];exact W,.inl ⟨rfl,hl⟩⟩,O⟩;have:=DGet.k (k:=(Sum.inr x:aG))<|L<|.lst<|dn.map V.str++[V.str x];rw[uD m.ok hi]at this;exact this
   | @step i _ e l' hi hb=>
    refine⟨b,.str e,rfl,?_,⟨dn++[x],.str e,rfl,by rw[X],by rw[bI,dR];exact W,.inr ⟨e,l',rfl,hb,by rw[<-hl];simp⟩⟩,O⟩;have:=DGet.k (k:=(Sum.inr x:aG))<|L<|.lst<|dn.map V.str++[V.str x];rw[uD m.ok hi]at this;exact this
 .intro σ d R R' hR I;obtain⟨v1,h1,c,a8,ab⟩:=I;exact⟨v1,h1,c,a8,hR _ _ ab⟩
def IK(D:WD)(k d:Str):Prop:=k∈D.names/\d∈D.deeds/\∃n l,Up D.tr k l/\n∈l/\n∈D.own d
def eO(D:WD)(k:Str):Option Str->Prop
 | some d=>IK D k d
 | none=>k∈D.names
inductive oQ(vs:List V)(H:Hp)(Q:VK):Prop
 | mk(wd:Addr)(M:List Addr)(A:WA)(D:WD)(n d:Str)(h1:vs=[.ref wd,.str n,.str d])(h2:Wld M H wd A D)(h3:xO D)(h4:n∈D.names)(h5:d∈D.deeds)(h6:∀(b:Bool)(H':Hp),FrS [] H H'->(b=true->IK D n d)->Q (.bl b) H'):oQ  vs H Q
def IY:Sp:=λvs H Q _=>oQ  vs H Q
def wZ:bY qE qE (bR tF):=cC
def FF(a:xO D)(f:n∈D.names):∃l,Up D.tr n l/\↑l<=12/\∀x∈l,x∈D.names:=by
 obtain⟨z,hz,e⟩:=wn7.mp f;obtain⟨i,hi,d⟩:=lN hz;have b:D.tr[i]?=some (n,z.2):=by rw[bD hi,d,<-e]
 obtain⟨l,hl⟩:=Up.exists a.ok i n z.2 b;have:=Up.len a.ok i n z.2 l b hl;have:=a.l12;exact⟨l,hl,by lia,hl.mem⟩
def rT(F:Fun K "_law_has" "_law_has" tF f fd)(T:aT P w K mg base k "_law_line" qG AX)(ma:mg "any"=none):aR P w K mg base bP (k+1) f fd qE IY:=by
 refine F.ok wZ (λvs H Q E h=>?_) λac A outer s H vs Q E hr h=>?_
 .obtain⟨wd,M,A,D,n,d,rfl,_⟩:=h;rfl
 obtain⟨wd,M,WA,D,n,d,rfl,o,N,C,hd,q⟩:=h;have u:=dU hr;have O:(["_law_one",qW,"_law_deed_here"]:List Str).Nodup:=by rfl'
 exists _,aS (bT (eP (Ak rfl) rfl ma (by rfl') (aA (iO (N':=["_law_one",qW,"_law_deed_here"]) (src:=[none,some 0,some 2]) rfl eW
   (gU<|bB T hr rfl<|aA (pv 0)<|aA (pv 1) aE)
   (g:=bW 0) (λ_ _ _ _=>gL 0 O) (λ_ _ _ _=>gP)
   (λ_ _ _ _=>pP (show cX _ _ (gW K false) from sJ) (pv 0) (bQ u (bQ u (pv 1) bA λ_ _=>rfl) (pv 2) λ_ _=>rfl) rfl)) aE)))
 ac_rfl
 obtain⟨l,hl,a9,ab⟩:=FF N C;obtain⟨X,o1,o2,o3,o4⟩:=o.ol d hd;refine⟨_,rfl,_,rfl,wd,M,WA,D,n,l,rfl,o,N,hl,λW H1 L ad I=>⟨W,rfl,⟨_,SqL.of I⟩,λG B=>?_⟩⟩;refine wI (xs:=l.map V.str) (λi σ a=>(∃x,σ=[x,some<|.ref wd,some<|.str d])/\FrS [] H1 a/\∃bs:List Bool,bs=(l.take i).map (λx=>iE (.str x)<|(D.own d).map V.str)/\a G=some (.lst<|bs.map V.bl)) ⟨⟨_,rfl⟩,(FrS.refl).put B,[],rfl,zb1⟩ ?_ ?_ ?_
 .rintro i σ a hi ⟨_,fr,_⟩;exact SqL.of<|fr _ _ (by trivial) I
 .rintro i x σ a j ⟨⟨x0,rfl⟩,fr,bs,e,r⟩;obtain⟨hi,_⟩:=zz2.mp j;rw[aK]at hi;rw[bN,bD hi]at j;cases j;have z:FrS M H a:=(L.trans fr).mono (by trivial);have J:=o.keep z;have aa:=o2.keep z;exists _,rfl,_,rfl,wd,_,rfl,J.g.2.2.2.2.1,_,rfl,WA.owners,_,rfl,.inl ⟨_,Sum.inr d,.inl J.owners.2,rfl,o1.symm⟩,X,_,rfl,.inl<|SqL.of aa.2,rfl,iS _,_,r,?_,⟨_,rfl⟩,fr.put B,bs++[iE (.str l[i])<|(D.own d).map V.str],?_
  .rw[aK,e,aK,eK];exact bH (by lia)
  .rw[e,gD,bD hi,bO];rfl
  .rw[zb1,bO];rfl
 .rintro σ a ⟨_,fr,bs,e,r⟩;refine⟨G,bs,rfl,SqL.of r,q _ a (L.trans fr) λZ=>⟨C,hd,?_⟩⟩;rw[aK,fS<|aU _]at e;subst e;obtain⟨b,Y,m⟩:=vf5.mp Z;obtain⟨x,j,rfl⟩:=wn7.mp Y;exists x,l,hl,j;have m:iE (.str x) ((D.own d).map V.str)=true:=m;rw[jT]at m;simpa using m
abbrev Ms(hd en:Addr)(A:WA):List Addr:=[hd,en,A.told,A.held]
structure Sit(H:Hp)(hd en wd:Addr)(A:WA)(D:WD)(t r:Int):Prop where
 hand:∃d m,Hand H hd d m t r
 env:∃kv,H en=some (.dK kv)/\DOk D.U D.names kv
 told:∃kv,H A.told=some (.dK kv)/\DOk D.deeds D.names kv
 held:∃kv,H A.held=some (.dK kv)/\DOk D.fields D.names kv
 w:Wld (Ms hd en A) H wd A D
 nd:(Ms hd en A).Nodup
 ok:xO D
section
variable{H H':Hp}{hd en wd:Addr}{A:WA}{D:WD}{t r:Int}
def Sit.fr0(S:Sit H hd en wd A D t r)(f:FrS [] H H'):Sit H' hd en wd A D t r:=by
 obtain⟨⟨d,m,h1,a⟩,⟨j,o,e⟩,⟨i,l,b⟩,⟨n,h,q⟩,w,nd,ok⟩:=S;exact⟨⟨d,m,f _ _ (by trivial) h1,a⟩,⟨j,f _ _ (by trivial) o,e⟩,⟨i,f _ _ (by trivial) l,b⟩,⟨n,f _ _ (by trivial) h,q⟩,w.keep (f.mono<|by trivial),nd,ok⟩
def Sit.ne(S:Sit H hd en wd A D t r):hd≠en/\hd≠A.told/\hd≠A.held/\en≠A.told/\en≠A.held/\A.told≠A.held:=by
 have:=S.nd;simp only[Ms,wq7,wm9,aX,cY,fG]at this;exact⟨this.1.1,this.1.2.1,this.1.2.2,this.2.1.1,this.2.1.2,this.2.2.1⟩
def Sit.setHand(S:Sit H hd en wd A D t r)(ok:nM d' m' t'):Sit (upd H hd<|hl d' m' t' r') hd en wd A D t' r':=by
 obtain⟨o,e,h,z,B,x⟩:=S.ne;obtain⟨⟨d,m,h1⟩,⟨l,s,f⟩,⟨j,n,a⟩,⟨q,i,u⟩,w,nd,b⟩:=S;exact⟨⟨d',m',Hand.at ok⟩,⟨l,by rw[aC o.symm];exact s,f⟩,⟨j,by rw[aC e.symm];exact n,a⟩,⟨q,by rw[aC h.symm];exact i,u⟩,w.keep (FrS.chg<|by trivial),nd,b⟩
def Sit.setEnv(S:Sit H hd en wd A D t r)(h:DOk D.U D.names kv):Sit (upd H en<|.dK kv) hd en wd A D t r:=by
 obtain⟨n,u,x,l,q,C⟩:=S.ne;obtain⟨⟨d,m,h1,e⟩,⟨z,E,B⟩,⟨i,j,a⟩,⟨o,f,s⟩,w,nd,b⟩:=S;exact⟨⟨d,m,by rw[aC n];exact h1,e⟩,⟨kv,zb1,h⟩,⟨i,by rw[aC l.symm];exact j,a⟩,⟨o,by rw[aC q.symm];exact f,s⟩,w.keep (FrS.chg<|by trivial),nd,b⟩
def Sit.setTold(S:Sit H hd en wd A D t r)(h:DOk D.deeds D.names kv):Sit (upd H A.told<|.dK kv) hd en wd A D t r:=by
 obtain⟨C,e,u,n,E,l⟩:=S.ne;obtain⟨⟨d,m,h1,a⟩,⟨j,q,f⟩,⟨x,B,z⟩,⟨o,i,s⟩,w,nd,b⟩:=S;exact⟨⟨d,m,by rw[aC e];exact h1,a⟩,⟨j,by rw[aC n];exact q,f⟩,⟨kv,zb1,h⟩,⟨o,by rw[aC l.symm];exact i,s⟩,w.keep (FrS.chg<|by trivial),nd,b⟩
def Sit.setHeld(S:Sit H hd en wd A D t r)(h:DOk D.fields D.names kv):Sit (upd H A.held<|.dK kv) hd en wd A D t r:=by
 obtain⟨C,u,f,B,q,n⟩:=S.ne;obtain⟨⟨d,m,h1,a⟩,⟨j,o,e⟩,⟨i,l,b⟩,⟨E,x,z⟩,w,nd,s⟩:=S;exact⟨⟨d,m,by rw[aC f];exact h1,a⟩,⟨j,by rw[aC q];exact o,e⟩,⟨i,by rw[aC n];exact l,b⟩,⟨kv,zb1,h⟩,w.keep (FrS.chg<|by trivial),nd,s⟩
def Sit.have_(S:Sit H hd en wd A D t r):∀b∈Ms hd en A,∃o,H b=some o:=by
 obtain⟨⟨d,m,h1,l⟩,⟨q,h,s⟩,⟨n,f,i⟩,⟨u,e,x⟩,w,nd,j⟩:=S;intro b a;simp only[Ms,wm9,aX,cY]at a;rcases a with rfl | rfl | rfl | rfl
 .exact⟨_,h1⟩
 .exact⟨_,h⟩
 .exact⟨_,f⟩
 .exact⟨_,e⟩
def Sit.notin(S:Sit H hd en wd A D t r)(hp:H p=none):p∉Ms hd en A:=λz=>by
 obtain⟨o,a⟩:=S.have_ p z;rw[hp]at a;cases a
def iB{p a:Addr}{ss:List Str}{d m t r:Int}(h:H p=some (.lst<|ss.map V.str))(b:Hand H a d m t r):p≠a:=λe=>by
 subst e;rw[b.1]at h;cases ss with
 | nil=>cases h
 | cons x l=>cases h
def FrS.thaw(d:H a=Option.some u)(f:FrS [] (upd H a<|.frz o u) Hx):FrS [] H (upd Hx a u):=λb v n q=>by
 by_cases e:b=a
 .subst e;rw[zb1];rw[d]at q;exact q
 .rw[aC e];exact f b v n (by rw[aC e];exact q)
def DOk.strs(h:DOk U N kvs):∃ss:List Str,kvs.map (λf=>kV f.1)=ss.map V.str/\↑ss=↑kvs/\∀x∈ss,x∈U:=by
 have b:∀l:List (aG×V),(∀k∈l.map (·.1),∃x∈U,k=Sum.inr x)->∃ss:List Str,l.map (λf=>kV f.1)=ss.map V.str/\↑ss=↑l/\∀x∈ss,x∈U:=by
  intro l
  induction l with
  | nil=>intro _;exact⟨[],rfl,rfl,by simp⟩
  | cons a l ih=>
   intro i;obtain⟨ss,e,j,m⟩:=ih λk o=>i k<|hC _ o;obtain⟨x,n,ex⟩:=i a.1 (by trivial);exists x::ss,?_,by simp[j]
   .rw[fH,fH,e,ex];rfl
   .intro y d;rcases wm9.mp d with rfl | d
    .exact n
    .exact m y d
 exact b kvs h.ks
end
abbrev uW:Stmt:=top 57
abbrev rZ:Stmt:=top 58
abbrev JU:Stmt:=top 59
inductive oG(vs:List V)(H:Hp)(Q:VK):Prop
 | mk(hd en wd:Addr)(A:WA)(D:WD)(t r:Int)(h1:vs=[.ref hd,.ref wd,.ref en])(h2:Sit H hd en wd A D t r)(h3:t+2<1000000)(h4:∀(x:Str)(H':Hp)(t':Int),Sit H' hd en wd A D t' r->FrS (Ms hd en A) H H'->t'<=t+2->FrS [hd] H H'->Q (.str x) H'):oG  vs H Q
def nX:Sp:=λvs H Q _=>oG  vs H Q
def scVar:bY [qH,qW,"_law_env","_law_some"] qA (bR uW):=cC
def uE{k:Nat}(F:Fun K "_law_variable" "_law_variable" uW f fd)(T:aT P w K mg base k "_law_take" qB gG)(O:aT P w K mg base k "_law_of" qC (cS K))(al:mg "list"=none):
  aR P w K mg base bP (k+1) f fd qA nX:=by
 refine F.ok scVar (λvs H Q E h=>?_) λan A outer s H vs Q E hr h=>?_
 .obtain⟨hd,en,wd,A,D,t,r,rfl,_⟩:=h;rfl
 obtain⟨hd,en,wd,WA,D,t,r,rfl,S,ht,q⟩:=h;have hu:=dU hr;have ah:(["_law_x","_law_env"]:List Str).Nodup:=by rfl'
 exists _,aL (OW<|oZ (i:=3) (N':=["_law_x","_law_env"]) (src:=[none,some 2]) rfl scVar.nd rfl rfl eW (DU<|pv 2) (g:=bW 0) (λ_ _ _ _=>gL 0 ah) (λ_ _ _ _=>pN<|hV<|rP<|bQ hu (pv 1) (pv 0) λ_ _=>rfl) λ_ _ _ _=>pv 0)
  (aL (cI (PW.pt<|kA (cA (EC<|mS hu) (pv 3) (cG aE)<|cF _)<|lR<|cA lU (bB T hr rfl<|aA (pv 0)<|aA aO aE) aO<|cF _) (aS<|bT<|bB O hr rfl<|aA (pv 0)<|aA (pv 3) aE) cZ)<|aS<|bT<|bB O hr rfl<|aA (pv 0)<|aA (bX vN (bQ hu (pv 1) bA λ_ _=>rfl)<|dV (YK rfl) rfl al (by rfl')<|aA (pv 2) aE) aE)
 ac_rfl
 obtain⟨b,a8,hk⟩:=S.env;have hU:D.U.length=9:=by unfold WD.U;rw[cU,bI,S.ok.v4,S.ok.p4]
 have ao:=hk.len;obtain⟨us,eu,ap,_⟩:=hk.strs;exists en,b,a8;refine⟨_,rfl,en,b,rfl,a8,λo j I=>?_⟩;have ac:j≠en:=λz=>by rw[z,zb1]at I;cases I
 have am:H j=none:=by rw[aC ac]at I;exact I
 refine DJ (xs:=b.map λp=>kV p.1) (λi σ u=>(∃x,σ=[x,some<|.ref en])/\FrS [] (upd H en<|.frz o<|.dK b) u/\∃ss:List Str,↑ss<=i/\u j=some (.lst<|ss.map V.str)) ⟨⟨_,rfl⟩,(FrS.refl).put I,[],by simp,zb1⟩ ?_ ?_ ?_
 .rintro i σ u hi ⟨_,fr,_⟩;exact fr _ _ (by trivial) zb1
 .rintro i x σ u n ⟨⟨x0,rfl⟩,fr,ss,hs,L⟩;have ab:=n;rw[eu]at n;obtain⟨hi,_⟩:=zz2.mp n;rw[aK]at hi;rw[bN,bD hi]at n;cases n;have ai:(Sum.inr us[i]:aG)∈b.map (·.1):=by
   rw[bN]at ab;obtain⟨p,hp,e⟩:=wp4.mp ab;have:p.1=Sum.inr us[i]:=by
    obtain⟨y,_,ey⟩:=hk.ks p.1<|wn7.mpr ⟨p,cW hp,rfl⟩;rw[ey]at e ⊢;cases e;rfl
   exact wn7.mpr ⟨p,cW hp,this⟩
  obtain⟨v,hv⟩:∃v,aF b (Sum.inr us[i])=some v:=by
   cases z:aF b (Sum.inr us[i])with
   | some v=>exact⟨v,rfl⟩
   | none=>exact absurd ai<|DG z
  exists _,rfl,_,rfl,en,v,rfl,.inl ⟨b,Sum.inr us[i],.inr ⟨o,fr _ _ (by trivial) zb1⟩,rfl,hv.symm⟩,_,rfl;refine bG (λc=>?_) λc=>?_
  .exists _,rfl,_,L,by rw[aK];exact bH (by lia),⟨_,rfl⟩,fr.put I,ss++[us[i]],?_
   .rw[bI,dR];lia
   .rw[zb1,bO];rfl
  .exact⟨⟨_,rfl⟩,fr,ss,by lia,L⟩
 .rintro σ u ⟨_,fr,ss,hs,L⟩;rw[aK]at hs;exists o,fr _ _ (by trivial) zb1;have f1:FrS [] H (upd u en<|.dK b):=FrS.thaw a8 fr;have S1:=S.fr0 f1;have J:upd u en (.dK b) j=some (.lst<|ss.map V.str):=by rw[aC ac];exact L
  generalize upd u en (.dK b)=H1 at f1 S1 J;have a2:∀(H2:Hp)(X:Int),Sit H2 hd en wd WA D X r->FrS (Ms hd en WA) H H2->FrS [hd] H H2->X<=t+1->
    gO (fN (cS K) [] E<|aZ (aJ 0)<|aZ (dC xD (wF (aJ 1)<|tC<|.str "vars")<|kJ (λxs H Q=>∃p kvs,xs=[.ref p]/\Rd H p (.dK kvs)/\∀l,H l=none->Q (.ref l) (upd H l<|.lst<|kvs.map λb=>kV b.1))<|aZ (aJ 2) aW) aW) ⟨λ_ H=>Q .non H,Q,λ_ _=>False,λ_ _=>False⟩ [some<|.ref hd,some<|.ref wd,some<|.ref en,some<|.ref j] H2:=by
   intro H2 X C N W aq;obtain⟨a9,a7,ae⟩:=C.env;obtain⟨aj,aa,ak,_⟩:=ae.strs;have ag:=ae.len;refine⟨_,rfl,_,rfl,wd,_,rfl,C.w.g.2.2.2.2.2.1,_,rfl,en,a9,rfl,.inl a7,λl hl=>?_⟩;have G:=C.fr0<|FrS.new (S:=[]) (o:=.lst<|a9.map λb=>kV b.1) hl;refine⟨WA.vars,l,_,_,rfl,rfl,G.w.vars.2,zb1,?_,λp hp=>?_⟩
   .rw[aK,aK,S.ok.v4];exact cL (bH<|by lia)
   .have S4:=G.fr0<|FrS.new (S:=[]) (o:=.lst<|D.vars.map V.str++a9.map λb=>kV b.1) hp;rw[aa,<-bO]at S4 ⊢;rw[aa]at hp;obtain⟨d,m,B⟩:=S4.hand;refine⟨hd,p,d,m,X,r,_,rfl,B,by lia,iB (ss:=D.vars++aj) zb1 B,SqL.of zb1,?_,?_,λx d' m' t' n c e=>?_⟩
    .intro z;have:=cK List.length z;rw[aK,bI,S.ok.v4,kW]at this;lia
    .rw[aK,bI,S.ok.v4];lia
    obtain⟨y,hy,rfl⟩:=wn7.mp n;refine q y _ t' (S4.setHand c) ?_ (by lia) ?_
    .exact(N.trans<|(FrS.new hl).trans<|FrS.new hp).put' (by trivial)
    .exact(W.trans<|(FrS.new hl).trans<|FrS.new hp).put' (by trivial)
  refine⟨_,rfl,bM _,λpe M=>?_⟩;have C:=S1.fr0<|FrS.new (S:=[]) (o:=.lst []) M;have Z:j≠pe:=aP J M;exists j,pe,_,rfl,rfl,Z,SqL.of (by rw[aC Z];exact J),SqL.of zb1,_,rfl;have N:FrS (Ms hd en WA) H (upd H1 pe<|.lst []):=(f1.trans<|FrS.new M).mono (by trivial);have W:FrS [hd] H (upd H1 pe<|.lst []):=(f1.trans<|FrS.new M).mono (by trivial);cases ss with
  | nil=>exact a2 _ t C N W (by lia)
  | cons y ys=>
   obtain⟨d,m,B⟩:=C.hand;refine⟨_,rfl,hd,d,m,t,r,4,rfl,B,by lia,by decide,by decide,λx d' m' Y x0 x1 c e=>⟨_,_,rfl,rfl,_,rfl,?_⟩⟩;have G:=C.setHand (r':=r) c;have f3:=N.put' (a:=hd) (o:=hl d' m' Y r) (by trivial);have af:=W.put' (a:=hd) (o:=hl d' m' Y r) (by trivial);have ad:j≠hd:=iB (ss:=y::ys) (by rw[aC Z];exact J) B;refine bG (λc=>?_) λc=>?_
   .obtain⟨d,m,B⟩:=G.hand;refine⟨_,rfl,_,rfl,hd,j,d,m,Y,r,_,rfl,B,by lia,ad,SqL.of (by rw[aC ad,aC Z];exact J),by simp,by rw[aK];lia,λx d' m' t' n c e=>?_⟩;obtain⟨y,hy,rfl⟩:=wn7.mp n;exact q y _ t' (G.setHand c) (f3.put'<|by trivial) (by lia) (af.put'<|by trivial)
   .exact a2 _ Y G f3 af e
def Tup(H H':Hp):Prop:=∀b xs,H b=some (.tup xs)->H' b=some (.tup xs)
def Tup.trans{A B C:Hp}(f:Tup A B)(g:Tup B C):Tup A C:=λb xs h=>g b xs<|f b xs h
def Tup.of0(f:FrS [] H H'):Tup H H':=λb _ h=>f b _ aX h
def Tup.new(hp:H p=none):Tup H (upd H p o):=λb xs h=>by
 rw[aC<|aP h hp];exact h
theorem Tup.lst(hp:H p=some (.lst ys)):Tup H (upd H p o):=λb xs h=>by
 rw[aC λz=>by rw[z,hp]at h;cases h];exact h
theorem FrS.tup(f:FrS M H H')(a:∀b∈M,∀xs,H b≠some (.tup xs)):Tup H H':=λb xs h=>f b _ (λz=>a b z xs h) h
def Sit.notup{A:WA}(S:Sit H hd en wd A D t r):∀b∈Ms hd en A,∀xs,H b≠some (.tup xs):=by
 obtain⟨⟨d,m,h1,q⟩,⟨o,h,l⟩,⟨n,f,i⟩,⟨s,e,u⟩,w,nd,j⟩:=S;intro b a xs;simp only[Ms,wm9,aX,cY]at a;rcases a with rfl | rfl | rfl | rfl
 .rw[h1];intro z;cases z
 .rw[h];intro z;cases z
 .rw[f];intro z;cases z
 .rw[e];intro z;cases z
theorem Sit.tup{A:WA}(S:Sit H hd en wd A D t r)(f:FrS (Ms hd en A) H H'):Tup H H':=FrS.tup f S.notup
inductive Rw | make (x k:Str) | copy (x y:Str) | put (x f y:Str) | take (x y f:Str) | say (w:Str) | bring (k:Str)
def Rw.vs:Rw->List V
 | .make x k=>[.str "make",.str x,.str k]
 | .copy x y=>[.str "copy",.str x,.str y]
 | .put x f y=>[.str "put",.str x,.str f,.str y]
 | .take x y f=>[.str "take",.str x,.str y,.str f]
 | .say w=>[.str "say",.str w]
 | .bring k=>[.str "bring",.str k]
inductive PlainR(Z:Str->Option Str->Prop)(H:Hp)(a:Addr):Prop
 | mk(r:Rw)(h:H a=some (.tup r.vs))(b:∀k,r=.bring k->Z k none):PlainR Z H a
inductive CallR(Z:Str->Option Str->Prop)(H:Hp)(a:Addr):Prop
 | mk(x y k d:Str)(g:Addr)(ss:List Str)(h:H a=some (.tup [.str "call",.str x,.str y,.str k,.str d,.ref g]))(hg:H g=some (.tup<|ss.map V.str))(hl:↑ss<=1000)(hz:Z k (some d)):CallR Z H a
def PlainR.keep(h:PlainR Z H a)(f:Tup H H'):PlainR Z H' a:=by
 obtain⟨r,h,b⟩:=h;exact⟨r,f _ _ h,b⟩
def CallR.keep(h:CallR Z H a)(f:Tup H H'):CallR Z H' a:=by
 obtain⟨x,y,k,d,g,ss,h,b,hl,hz⟩:=h;exact⟨x,y,k,d,g,ss,f _ _ h,f _ _ b,hl,hz⟩
inductive DpG(H:Hp)(pv gv:V):Prop
 | mk(pt:Addr)(ps:List Str)(g:Option Str)(h1:pv=.ref pt)(h2:H pt=some (.tup<|ps.map V.str))(h3:gv=aV g)(h4:↑ps<=1000):DpG H pv gv
def DpG.keep{u v:V}(h:DpG H u v)(f:Tup H H'):DpG H' u v:=by
 obtain⟨pt,ps,g,h1,h2,b,a⟩:=h;exact⟨pt,ps,g,h1,f _ _ h2,b,a⟩
def AL(Z:Str->Option Str->Prop)(H:Hp)(a:Addr):Prop:=PlainR Z H a\/CallR Z H a
inductive Fl(Z:Str->Option Str->Prop)(H:Hp):Nat->List Addr->List Addr->Prop
 | nil {n:Nat}:Fl Z H n [] []
 | one {n:Nat} {a:Addr} {rs fs:List Addr} (h:AL Z H a) (t:Fl Z H n rs fs):Fl Z H n (a::rs) (a::fs)
 | again {n:Nat} {a l:Addr} {rs1 fs1 rs fs:List Addr} (h:H a=some (.tup [.str "again",.ref l])) (hl:H l=some (.tup<|rs1.map V.ref)) (s:Fl Z H n rs1 fs1) (t:Fl Z H (n+1) rs fs):Fl Z H (n+1) (a::rs) (a::(fs1++fs))
 | either {n:Nat} {a l1 l2:Addr} {rs1 fs1 rs2 fs2 rs fs:List Addr} (h:H a=some (.tup [.str "either",.ref l1,.ref l2])) (h1:H l1=some (.tup<|rs1.map V.ref)) (h2:H l2=some (.tup<|rs2.map V.ref)) (s1:Fl Z H n rs1 fs1) (s2:Fl Z H n rs2 fs2) (t:Fl Z H (n+1) rs fs):Fl Z H (n+1) (a::rs) (a::(fs1++(fs2++fs)))
theorem Fl.keep(h:Fl Z H n rs fs)(f:Tup H H'):Fl Z H' n rs fs:=by
 induction h with
 | nil=>exact .nil
 | one h _ ih=>exact .one (h.imp (·.keep f) (·.keep f)) ih
 | again h hl _ _ i1 i2=>exact .again (f _ _ h) (f _ _ hl) i1 i2
 | either h h1 h2 _ _ _ i1 i2 i3=>exact .either (f _ _ h) (f _ _ h1) (f _ _ h2) i1 i2 i3
def Fl.app(h:Fl Z H n rs fs)(g:Fl Z H n rs' fs'):Fl Z H n (rs++rs') (fs++fs'):=by
 induction h with
 | nil=>exact g
 | one h _ ih=>exact .one h<|ih g
 | again h hl s _ i1 i2=>
  have:=Fl.again h hl s<|i2 g;rw[<-lC]at this;exact this
 | either h h1 h2 s1 s2 _ i1 i2 i3=>
  have:=Fl.either h h1 h2 s1 s2<|i3 g;simpa [lC]using this
def Fl.len(h:Fl Z H n rs fs):↑rs<=↑fs:=by
 induction h with
 | nil=>exact aU _
 | one h _ ih=>exact Nat.succ_le_succ ih
 | again h hl s _ i1 i2=>rw[cU,cU,bI];lia
 | either h h1 h2 s1 s2 _ i1 i2 i3=>rw[cU,cU,bI,bI];lia
inductive Lots(Z:Str->Option Str->Prop)(H:Hp)(n:Nat):List Addr->List Addr->Prop
 | nil:Lots Z H n [] []
 | snoc {ls fs:List Addr} {l:Addr} {rs f1:List Addr} (h:Lots Z H n ls fs) (hl:H l=some (.tup<|rs.map V.ref)) (s:Fl Z H n rs f1):Lots Z H n (ls++[l]) (fs++f1)
theorem Lots.keep(h:Lots Z H n ls fs)(f:Tup H H'):Lots Z H' n ls fs:=by
 induction h with
 | nil=>exact .nil
 | snoc _ hl s ih=>exact ih.snoc (f _ _ hl)<|s.keep f
def Lots.zero(h:Lots Z H n ls fs)(e:↑ls=0):ls=[]/\fs=[]:=by
 cases h with
 | nil=>exact⟨rfl,rfl⟩
 | snoc h hl s=>rw[bI,dR]at e;lia
def Lots.one(h:Lots Z H n ls fs)(e:↑ls=1):∃l rs,ls=[l]/\H l=some (.tup<|rs.map V.ref)/\Fl Z H n rs fs:=by
 cases h with
 | nil=>cases e
 | snoc h hl s=>
  rw[bI,dR]at e;obtain⟨rfl,rfl⟩:=h.zero (by lia);exact⟨_,_,rfl,hl,s⟩
def Lots.two(h:Lots Z H n ls fs)(e:↑ls=2):∃f d f1 l2 rs2 f2,ls=[f,l2]/\fs=f1++f2/\H f=some (.tup<|d.map V.ref)/\Fl Z H n d f1/\H l2=some (.tup<|rs2.map V.ref)/\Fl Z H n rs2 f2:=by
 cases h with
 | nil=>cases e
 | snoc h hl s=>
  rw[bI,dR]at e;obtain⟨f,d,rfl,a,b⟩:=h.one (by lia);exact⟨f,d,_,_,_,_,rfl,rfl,a,b,hl,s⟩
def Lots.row{w:Str}(h:Lots Z H n ls fs)(d:H a=some (.tup<|.str w::ls.map V.ref))(e:↑ls=1/\w="again"\/↑ls=2/\w="either"):Fl Z H (n+1) [a] (a::fs):=by
 rcases e with ⟨e,rfl⟩ | ⟨e,rfl⟩
 .obtain⟨l,rs,rfl,b,s⟩:=h.one e;have:=Fl.again (rs:=[]) (fs:=[]) d b s .nil;rwa [gA]at this
 .obtain⟨r,m,q,u,o,x,rfl,rfl,i,f,j,s2⟩:=h.two e;have:=Fl.either (rs:=[]) (fs:=[]) d i j f s2 .nil;rwa [gA]at this
inductive oC(vs:List V)(H:Hp)(Q:VK):Prop
 | mk(hd en wd:Addr)(A:WA)(D:WD)(t r:Int)(h1:vs=[.ref hd,.ref wd,.ref en])(h2:Sit H hd en wd A D t r)(h3:t+1<1000000)(h4:∀(x:Str)(H':Hp)(t':Int),x∈D.U->Sit H' hd en wd A D t' r->FrS (Ms hd en A) H H'->t'<=t+1->FrS [hd] H H'->Q (.str x) H'):oC  vs H Q
def qZ:Sp:=λvs H Q _=>oC  vs H Q
def BH:bY qA qA (bR rZ):=cC
def pQ(F:Fun K "_law_target" "_law_target" rZ f fd)(O:aT P w K mg base k "_law_of" qC (cS K)):
  aR P w K mg base bP (k+1) f fd qA qZ:=by
 refine F.ok BH (λvs H Q E h=>?_) λaa A outer s H vs Q E hr h=>?_
 .obtain⟨hd,en,wd,A,D,t,r,rfl,_⟩:=h;rfl
 obtain⟨hd,en,wd,WA,D,t,r,rfl,S,ht,q⟩:=h;have T:=dU hr;have a6:(["_law_x",qW]:List Str).Nodup:=by rfl'
 exists _,aS<|bT<|bB O hr rfl<|aA (pv 0)<|aA (bX vN (bQ T (pv 1) bA λ_ _=>rfl)<|QR<|iO (N':=["_law_x",qW]) (src:=[none,some 1]) rfl eW (DU<|pv 2) (g:=bW 0) (λ_ _ _ _=>gL 0 a6) (λ_ _ _ _=>pN<|cA (show cX _ _ (gW K false) from sJ) (pv 0) (bQ T (pv 1) bA λ_ _=>rfl) rfl) λ_ _ _ _=>pv 0) aE
 ac_rfl
 obtain⟨B,M,Y⟩:=S.env;have hU:D.U.length=9:=by unfold WD.U;rw[cU,bI,S.ok.v4,S.ok.p4]
 have ab:=Y.len;obtain⟨us,eu,ad,a8⟩:=Y.strs;exists _,rfl,_,rfl,wd,_,rfl,S.w.g.2.2.2.2.2.1,en,B,M;refine⟨_,rfl,en,B,rfl,M,λo C l=>?_⟩;have W:C≠en:=λz=>by rw[z,zb1]at l;cases l
 have a9:H C=none:=by rw[aC W]at l;exact l
 have ac:wd≠en:=λz=>by obtain⟨kvs,⟨hn,_⟩,_⟩:=S.w.k;exact hn (by rw[z];simp)
 refine DJ (xs:=B.map λp=>kV p.1) (λi σ j=>(∃x,σ=[x,some<|.ref wd])/\FrS [] (upd H en<|.frz o<|.dK B) j/\∃ss:List Str,↑ss<=i/\(∀x∈ss,x∈D.U)/\j C=some (.lst<|ss.map V.str)) ⟨⟨_,rfl⟩,(FrS.refl).put l,[],by simp,by simp,zb1⟩ ?_ ?_ ?_
 .rintro i σ j hi ⟨_,fr,_⟩;exact fr _ _ (by trivial) zb1
 .rintro i x σ j a ⟨⟨x0,rfl⟩,fr,ss,hs,I,J⟩;rw[eu]at a;obtain⟨hi,_⟩:=zz2.mp a;rw[aK]at hi;rw[bN,bD hi]at a;cases a;have a7:FrS (Ms hd en WA) H j:=λb u n e=>fr b u (by trivial) (by rw[aC λz=>n<|by rw[z];simp];exact e)
  have Z:=S.w.keep a7;exists _,rfl,_,rfl,wd,_,rfl,Z.g.2.2.2.2.2.2.1,WA.params,_,rfl,.inl<|SqL.of Z.params.2,rfl,iS _,_,rfl;refine bG (λc=>?_) λc=>?_
  .exists _,rfl,_,J,by rw[aK];exact bH (by lia),⟨_,rfl⟩,fr.put l,ss++[us[i]],?_,?_
   .rw[bI,dR];lia
   .intro x a;rcases wp5.mp a with a | a
    .exact I x a
    .rw[wn1.mp a];exact a8 _<|iK hi
   .rw[zb1,bO];rfl
  .exact⟨⟨_,rfl⟩,fr,ss,by lia,I,J⟩
 .rintro σ j ⟨_,fr,ss,hs,I,J⟩;rw[aK]at hs;exists o,fr _ _ (by trivial) zb1;have N:FrS [] H (upd j en<|.dK B):=FrS.thaw M fr;have S1:=S.fr0 N;have a5:upd j en (.dK B) C=some (.lst<|ss.map V.str):=by rw[aC W];exact J
  refine⟨WA.vars,C,_,_,rfl,rfl,S1.w.vars.2,a5,?_,λp hp=>?_⟩
  .rw[aK,aK,S.ok.v4];exact cL (bH<|by lia)
  .have L:=S1.fr0<|FrS.new (S:=[]) (o:=.lst<|D.vars.map V.str++ss.map V.str) hp;rw[<-bO]at L ⊢;obtain⟨d,m,X⟩:=L.hand;refine⟨hd,p,d,m,t,r,_,rfl,X,by lia,iB (ss:=D.vars++ss) zb1 X,SqL.of zb1,?_,?_,λx d' m' t' a c e=>?_⟩
   .intro z;have:=cK List.length z;rw[aK,bI,S.ok.v4,kW]at this;lia
   .rw[aK,bI,S.ok.v4];lia
   obtain⟨y,G,rfl⟩:=wn7.mp a;refine q y _ t' ?_ (L.setHand c) ?_ (by lia) ?_
   .rcases wp5.mp G with G | G
    .unfold WD.U;simp[G]
    .exact I y G
   .exact((N.trans<|FrS.new hp).mono<|by trivial).put' (by trivial)
   .exact((N.trans<|FrS.new hp).mono<|by trivial).put' (by trivial)
def JF{H1:Hp}{tp:Addr}{ts:List Addr}{tr:Tr}{b:Addr}(o:H1 tp=some (.lst<|ts.map V.ref))(hl:↑ts=↑tr)(n:∀(j:Nat) t x,ts[j]?=some t->tr[j]?=some x->H1 t=some (.tup [.str x.1,aV x.2]))(m:H1 b=none)(s:↑tr<=1000)
  {Q:Hp->Prop} (q:∀H',FrS [] H1 H'->H' b=some (.lst<|(tr.map (·.1)).map V.str)->Q H'):mU (sY K tp) (eG K 2<|dQ (bW 0)<|dQ (bW 1) dZ) mE (aJ 0) b [none,none] (upd H1 b<|.lst []) Q:=by
 refine wI (xs:=ts.map V.ref) (λi σ a=>(∃x y,σ=[x,y])/\FrS [] H1 a/\a b=some (.lst<|((tr.take i).map (·.1)).map V.str)) ⟨⟨_,_,rfl⟩,(FrS.refl).put m,zb1⟩ ?_ ?_ ?_
 .rintro i σ a hi ⟨_,fr,_⟩;exact SqL.of<|fr _ _ (by trivial) o
 .rintro i x σ a l ⟨⟨u,r,rfl⟩,fr,d⟩;rw[bN]at l;obtain⟨t,h,rfl⟩:=wp4.mp l;obtain⟨hi,_⟩:=zz2.mp h;have f:tr[i]?=some tr[i]:=bD (by lia);have e:=n i t _ h f;exists t,_,rfl,SqT.of<|fr _ _ (by trivial) e,rfl,_,_,rfl,_,_,rfl,rfl;exists _,rfl,_,d,?_,⟨_,_,rfl⟩,fr.put m
  .rw[aK,aK,eK];exact bH (by lia)
  .rw[zb1,gD,f,bO,bO];rfl
 .rintro σ a ⟨_,fr,d⟩;rw[fS<|by rw[aK];lia]at d;exact q a fr d
inductive NR(vs:List V)(H:Hp)(Q:VK):Prop
 | mk(hd en wd:Addr)(A:WA)(D:WD)(t r:Int)(h1:vs=[.ref hd,.ref wd,.ref en])(h2:Sit H hd en wd A D t r)(h3:t+3<1000000)(h4:∀(x:Addr)(H':Hp)(t':Int),PlainR (eO D) H' x->Sit H' hd en wd A D t' r->FrS (Ms hd en A) H H'->t'<=t+3->Q (.ref x) H'):NR  vs H Q
def DC:Sp:=λvs H Q _=>NR  vs H Q
abbrev BJ:List Str:=[qH,qW,"_law_env","_law_names","_law_soon","_law_kind","_law_x"]
def yk5:bY BJ qA (bR JU):=cC
def XL{k:Nat}(F:Fun K "_law_make" "_law_make" JU f fd)(T:aT P w K mg base k "_law_take" qB gG)(O:aT P w K mg base k "_law_of" qC (cS K))(G:aT P w K mg base k "_law_target" qA qZ):
  aR P w K mg base bP (k+1) f fd qA DC:=by
 refine F.ok yk5 (λvs H Q E h=>?_) λb0 A outer s H vs Q E hr h=>?_
 .obtain⟨hd,en,wd,A,D,t,r,rfl,_⟩:=h;rfl
 obtain⟨hd,en,wd,WA,D,t,r,rfl,S,ht,q⟩:=h;have hu:=dU hr;have ai:(["_law_name","_law_elder"]:List Str).Nodup:=by rfl'
 have aw:(["_law_name",qW]:List Str).Nodup:=by rfl'
 exists _,aL (oZ (i:=3) (N':=["_law_name","_law_elder"]) (src:=[none,none]) rfl yk5.nd rfl rfl eW (gU<|bQ hu (pv 1) bA λ_ _=>rfl) (g:=eG K 2<|dQ (bW 0)<|dQ (bW 1) dZ) (λ_ _ _ _=>eC (n:=2) rfl<|bJ (gL 0 ai)<|bJ (gL 1 ai) dY) (λ_ _ _ _=>gP) λ_ _ _ _=>pv 0)
  (aL (oZ (i:=4) (N':=["_law_name",qW]) (src:=[none,some 1]) rfl yk5.nd rfl rfl eW (gU<|pv 3) (g:=bW 0) (λ_ _ _ _=>gL 0 aw) (λ_ _ _ _=>pN<|cA (show cX _ _ (gW K true) from vU) (pv 0) (bQ hu (pv 1) bA λ_ _=>rfl) rfl) λ_ _ _ _=>pv 0)<|aL (sL 5 yk5.nd<|bB O hr rfl<|aA (pv 0)<|aA (eI (cG<|aA (pv 4)<|aA (pv 4)<|aA (pv 3) aE)<|bB T hr rfl<|aA (pv 0)<|aA aO aE) aE)<|aL (sL 6 yk5.nd<|bB G hr rfl<|aA (pv 0)<|aA (pv 1)<|aA (pv 2) aE)<|aL (fF hu (pv 2) (pv 6) (pv 5) rfl)<|aS<|bT<|bV<|aA bA<|aA (pv 6)<|aA (pv 5) aE)
  
 ac_rfl
 have hU:D.U.length=9:=by unfold WD.U;rw[cU,bI,S.ok.v4,S.ok.p4]
 have az:=S.ok.l12;obtain⟨ts,t1,t2,t3⟩:=S.w.tree;refine⟨_,rfl,wd,_,rfl,S.w.g.1,WA.tree,rfl,⟨_,SqL.of t1.2⟩,λu as=>?_⟩;refine JF (tr:=D.tr) t1.2 t2 (λj t x a b=>(t3 j t x a b).2) as (by lia) λH1 f1 X=>?_
 have S1:=S.fr0 f1;refine⟨_,rfl,u,rfl,⟨_,SqL.of X⟩,λl ad=>?_⟩;have b2:u≠l:=aP X ad;refine wI (xs:=(D.tr.map (·.1)).map V.str) (λi σ Y=>(∃x,σ=[x,some<|.ref wd])/\FrS [] H1 Y/\Y l=some (.lst<|(((D.tr.map (·.1)).take i).filter λx=>decide<|x∉D.late).map V.str)) ⟨⟨_,rfl⟩,(FrS.refl).put ad,zb1⟩ ?_ ?_ ?_
 .rintro i σ Y hi ⟨_,fr,_⟩;exact SqL.of<|fr _ _ (by trivial) X
 .rintro i x σ Y I ⟨⟨x0,rfl⟩,fr,ak⟩;obtain⟨hi,_⟩:=zz2.mp I;rw[aK]at hi;rw[bN,bD hi]at I;cases I;have Z:=S1.fr0 fr;have av:=hi;rw[aK]at av;have N:↑(((D.tr.map (·.1)).take i).filter λx=>decide<|x∉D.late)<=12:=by
   have:=pM (λx=>decide<|x∉D.late)<|(D.tr.map (·.1)).take i;rw[eK,aK]at this;lia
  exists _,rfl,_,rfl,wd,_,rfl,Z.w.g.2.1,WA.late,_,rfl,.inl<|SqL.of Z.w.late.2,rfl,iS _,_,rfl;have ef:((D.tr.map (·.1)).take<|i+1).filter (λx=>decide<|x∉D.late)=((D.tr.map (·.1)).take i).filter (λx=>decide<|x∉D.late)++[(D.tr.map (·.1))[i]].filter (λx=>decide<|x∉D.late):=by
   rw[gD,bD hi,List.filter_append];rfl
  rw[jT];refine bG (λc0=>?_) λc0=>?_
  rotate_left
  .have c:(D.tr.map (·.1))[i]∈D.late:=by simpa using c0
   exists ⟨_,rfl⟩,fr;rw[ef,List.filter_cons_of_neg (by simpa using c),List.filter_nil,gA];exact ak
  .have c:(D.tr.map (·.1))[i]∉D.late:=by simpa using c0
   exists _,rfl,_,ak,by rw[aK];exact bH (by lia),⟨_,rfl⟩,fr.put ad;rw[zb1,ef,List.filter_cons_of_pos (by simpa using c),List.filter_nil,bO];rfl
 rintro σ H2 ⟨_,f2,J⟩;rw[aK,fS<|aU _]at J;have Z:=S1.fr0 f2;have a7:=f2 _ _ (by trivial) X;obtain⟨x1,af,a9⟩:=S.ok.soon;have a0:((D.tr.map (·.1)).filter λx=>decide<|x∉D.late)≠[]:=λz=>by
  have:x1∈((D.tr.map (·.1)).filter λx=>decide<|x∉D.late):=vg2.mpr ⟨af,by simp[a9]⟩;rw[z]at this;cases this
 have ab:D.tr.map (·.1)≠[]:=λz=>by
  have:x1∈D.tr.map (·.1):=af;rw[z]at this;cases this
 have N:↑((D.tr.map (·.1)).filter λx=>decide<|x∉D.late)<=12:=by
  have:=pM (λx=>decide<|x∉D.late)<|D.tr.map (·.1);rw[aK]at this;lia
 generalize hss:((D.tr.map (·.1)).filter λx=>decide<|x∉D.late)=ss at J a0 N;have al:∀x∈ss,x∈D.names:=λx I=>by rw[<-hss]at I;exact(vg2.mp I).1
 have ac:FrS (Ms hd en WA) H H2:=(f1.trans f2).mono (by trivial);refine⟨_,rfl,_,rfl,_,rfl,_,rfl,dM rfl,λC W=>?_⟩;have S3:=Z.fr0<|FrS.new (S:=[]) (o:=.lst [.ref l,.ref l,.ref u]) W;obtain⟨d,m,B⟩:=S3.hand;refine⟨_,rfl,hd,d,m,t,r,3,rfl,B,by lia,by decide,by decide,λx d' m' t4 x0 x1 c e=>?_⟩;have S4:=S3.setHand (r':=r) c;have M:C≠hd:=λz=>by have:=B.1;rw[z]at *;rw[zb1]at this;cases this
 have ah:l≠hd:=λz=>by have L:=B.1;rw[aC<|bL M]at L;exact iB J ⟨L,B.2⟩ z
 have ap:u≠hd:=λz=>by have L:=B.1;rw[aC<|bL M]at L;exact iB a7 ⟨L,B.2⟩ z
 have ag:l≠C:=aP J W;have aq:u≠C:=aP a7 W;have ae:=(ac.trans<|FrS.new (o:=.lst [.ref l,.ref l,.ref u]) W).put' (a:=hd) (o:=hl d' m' t4 r) (by trivial);have go:∀(pz:Addr)(zs:List Str),pz≠hd->pz≠C->H2 pz=some (.lst<|zs.map V.str)->zs≠[]->↑zs<=12->(∀x∈zs,x∈D.names)->
   cS K [.ref hd,.ref pz] (upd (upd H2 C<|.lst [.ref l,.ref l,.ref u]) hd<|hl d' m' t4 r) (λv Hv=>fJ (fO (fN qZ [] E0<|aZ (aJ 0)<|aZ (aJ 1)<|aZ (aJ 2) aW)<|bW 6) (fJ (oT (aJ 2) (aJ 6)<|aJ 5)<|gO<|dB<|aZ (tC<|.str "make")<|aZ (aJ 6)<|aZ (aJ 5) aW) ⟨λ_ H=>Q .non H,Q,λ_ _=>False,λ_ _=>False⟩ [some<|.ref hd,some<|.ref wd,some<|.ref en,some<|.ref u,some<|.ref l,some v,none] Hv) E0:=by
  intro pz zs h1 h2 hz au am ao;obtain⟨d,m,B⟩:=S4.hand;refine⟨hd,pz,d,m,t4,r,_,rfl,B,by lia,h1,SqL.of (by rw[aC h1,aC h2];exact hz),by simpa using au,by rw[aK];lia,λy d5 m5 t5 hy c5 e5=>?_⟩;obtain⟨z,ax,rfl⟩:=wn7.mp hy;have S5:=S4.setHand (r':=r) c5;have aa:=ae.put' (a:=hd) (o:=hl d5 m5 t5 r) (by trivial);refine⟨_,rfl,_,rfl,_,rfl,hd,en,wd,WA,D,t5,r,rfl,S5,by lia,λx6 H6 t6 ay S6 f6 b1 _=>?_⟩;obtain⟨kv,ar,hk⟩:=S6.env;exists _,rfl,_,rfl,_,rfl,en,_,rfl,DPut.k (k:=(Sum.inr x6:aG)) ar<|bH (by have:=hk.len;lia);have S7:=S6.setEnv<|hk.put ay<|.inr ⟨z,ao z ax,rfl⟩;have a8:=(aa.trans f6).put' (a:=en) (o:=.dK<|aN kv (Sum.inr x6)<|V.str z) (by trivial);refine⟨_,rfl,_,rfl,dM rfl,λpr aj=>?_⟩;exact q pr _ t6 ⟨.make _ _,zb1,λ_ e=>nomatch e⟩ (S7.fr0<|FrS.new aj) (a8.trans<|FrS.new aj) (by lia)
 have an:x=0\/x=1\/x=2:=by lia
 rcases an with rfl | rfl | rfl
 .exact⟨C,_,_,.ref l,rfl,rfl,SqL.of (by rw[aC M];exact zb1),rfl,go l ss ah ag J a0 N al⟩
 .exact⟨C,_,_,.ref l,rfl,rfl,SqL.of (by rw[aC M];exact zb1),rfl,go l ss ah ag J a0 N al⟩
 .exact⟨C,_,_,.ref u,rfl,rfl,SqL.of (by rw[aC M];exact zb1),rfl,go u D.names ap aq a7 ab (by unfold WD.names;rw[aK];lia) λx I=>I⟩
abbrev HJ:Stmt:=top 60
abbrev HB:Stmt:=top 62
inductive NY(vs:List V)(H:Hp)(Q:VK):Prop
 | mk(hd en wd:Addr)(A:WA)(D:WD)(t r:Int)(ab dd:Str)(h1:vs=[.ref hd,.ref wd,.ref en,.str ab,.str dd])(h2:Sit H hd en wd A D t r)(h3:t+12<1000000)(h4:ab∈D.names)(h5:dd∈D.deeds)(h6:∀(x:Addr)(ss:List Str)(H':Hp)(t':Int),H' x=some (.tup<|ss.map V.str)->↑ss<=1000->Sit H' hd en wd A D t' r->FrS (Ms hd en A) H H'->t'<=t+12->Q (.ref x) H'):NY  vs H Q
def HU:Sp:=λvs H Q _=>NY  vs H Q
inductive OV(vs:List V)(H:Hp)(Q:VK):Prop
 | mk(hd en wd:Addr)(A:WA)(D:WD)(t r:Int)(h1:vs=[.ref hd,.ref wd,.ref en])(h2:Sit H hd en wd A D t r)(h3:t+7<1000000)(h4:∀(x:Addr)(H':Hp)(t':Int),PlainR (eO D) H' x->Sit H' hd en wd A D t' r->FrS (Ms hd en A) H H'->t'<=t+7->Q (.ref x) H'):OV  vs H Q
def IG:Sp:=λvs H Q _=>OV  vs H Q
def Sit.own{A:WA}(S:Sit H hd en wd A D t r)(x:Sit H6 hd en wd A D t6 r6)(f:FrS (Ms hd en A) H H6)(a:H pa=none):Sit (upd H6 pa o) hd en wd A D t6 r6/\FrS (Ms hd en A) H (upd H6 pa o):=by
 have G:pa∉Ms hd en A:=S.notin a;have u:∀b∈Ms hd en A,upd H6 pa o b=H6 b:=λb h=>aC (λz=>G<|by rw[<-z];exact h)
 have fr:FrS (Ms hd en A) H (upd H6 pa o):=f.put a;obtain⟨⟨d,m,h1,i⟩,⟨q,E,s⟩,⟨n,B,j⟩,⟨C,l,e⟩,w,nd,ok⟩:=x;exact⟨⟨⟨d,m,(u _<|by trivial).trans h1,i⟩,⟨q,(u _<|by trivial).trans E,s⟩,⟨n,(u _<|by trivial).trans B,j⟩,⟨C,(u _<|by trivial).trans l,e⟩,S.w.keep fr,nd,ok⟩,fr⟩
abbrev yN:List Str:=[qH,qW,"_law_env","_law_above","_law_deed_here","_law_args_here","_law_kind","_law_some"]
def ys9:bY yN qD (bR HJ):=cC
def UA(F:Fun K "_law_args" "_law_args" HJ f fd)(T:aT P w K mg base k "_law_take" qB gG)(O:aT P w K mg base k "_law_of" qC (cS K))(V':aT P w K mg base k "_law_variable" qA nX)(L:aT P w K mg base k "_law_line" qG AX)(aw:mg "tuple"=none):
  aR P w K mg base bP (k+1) f fd qD HU:=by
 refine F.ok ys9 (λvs H Q E h=>?_) λb6 A outer s H vs Q E hr h=>?_
 .obtain⟨hd,en,wd,A,D,t,r,ab,G,rfl,_⟩:=h;rfl
 obtain⟨hd,en,wd,WA,D,t,r,ab,G,rfl,S,ht,b1,b2,q⟩:=h;have Z:=dU hr;have au:(["_law_x","_law_env","_law_kind",qW]:List Str).Nodup:=by rfl'
 exists _,aL (sL 5 ys9.nd<|cG aE)
  (aL (dX dO rfl (gU<|bQ Z (bQ Z (pv 1) bA λ_ _=>rfl) (bV<|aA (bQ Z (bQ Z (pv 1) bA λ_ _=>rfl) (pv 3) λ_ _=>rfl)<|aA (pv 4) aE) λ_ _=>rfl) (vH (i:=6) ys9.nd rfl<|Or.inr rfl)<|aL (OW<|oZ (i:=7) (N':=["_law_x","_law_env","_law_kind",qW]) (src:=[none,some 2,some 6,some 1]) rfl ys9.nd rfl rfl eW (DU<|pv 2) (g:=bW 0) (λ_ _ _ _=>gL 0 au) (λ_ _ _ _=>pN<|PW.pt<|kA (hV<|rP<|bQ Z (pv 1) (pv 0) λ_ _=>rfl)<|lR<|cA (show cX _ _ (gW K false) from sJ) (pv 2) (bB L hr rfl<|aA (pv 3)<|aA (bQ Z (pv 1) (pv 0) λ_ _=>rfl) aE) rfl) λ_ _ _ _=>pv 0)<|aS<|cI (PW.pt<|kA (cA (EC<|mS Z) (pv 7) (cG aE)<|cF _)<|lR<|cA lU (bB T hr rfl<|aA (pv 0)<|aA aO aE) aO<|cF _) (aS<|dW<|eN eA eX eY eR (pv 5)<|aA (bB O hr rfl<|aA (pv 0)<|aA (pv 7) aE) aE)<|aS<|dW<|eN eA eX eY eR (pv 5)<|aA (bB V' hr rfl<|aA (pv 0)<|aA (pv 1)<|aA (pv 2) aE) aE)<|aS<|bT<|dV gS rfl aw (by rfl')<|aA (pv 5) aE)
 ac_rfl
 have hU:D.U.length=9:=by unfold WD.U;rw[cU,bI,S.ok.v4,S.ok.p4]
 refine⟨bM _,λj a3=>?_⟩;have Y:=S.fr0<|FrS.new (S:=[]) (o:=.lst []) a3;obtain⟨rt,wp,ws,e1,e2,e3,e4,e5⟩:=S.w.wl ab b1 G b2;refine⟨_,rfl,wd,_,rfl,Y.w.g.2.2.2.1,_,rfl,wd,_,rfl,Y.w.g.2.2.2.2.2.2.2.2.2.2,_,rfl,WA.roots,_,rfl,.inl ⟨_,Sum.inr ab,.inl Y.w.roots.2,rfl,e1.symm⟩,_,rfl,dM rfl,λpk a9=>?_⟩;have S2:=Y.fr0<|FrS.new (S:=[]) (o:=.tup [V.str rt,V.str G]) a9;have an:=e3.keep<|(FrS.new (o:=.lst []) a3).trans<|FrS.new (o:=.tup [V.str rt,V.str G]) a9;have a6:upd (upd H j<|.lst []) pk (.tup [V.str rt,V.str G]) j=some (.lst []):=by rw[aC<|aP (o:=.lst []) zb1 a9];exact zb1
 exists WA.wants,.ref wp,rfl,.inr ⟨_,[Sum.inr rt,Sum.inr G],pk,.inl S2.w.wants.2,rfl,zb1,e2.symm⟩,wp,rfl,⟨_,SqL.of an.2⟩;have as:FrS (Ms hd en WA) H (upd (upd H j<|.lst []) pk<|.tup [V.str rt,V.str G]):=(FrS.new a3).trans<|FrS.new a9;generalize upd (upd H j<|.lst []) pk (.tup [V.str rt,V.str G])=H2 at S2 an a6 as;have a5:j∉Ms hd en WA:=S.notin a3;refine nH (xs:=ws.map V.str) (λi σ B=>∃(kx sx:Option V)(tx:Int)(xs:List Str),σ=[some<|.ref hd,some<|.ref wd,some<|.ref en,some<|.str ab,some<|.str G,some<|.ref j,kx,sx]/\Sit B hd en wd WA D tx r/\FrS (Ms hd en WA) H B/\tx<=t+3*i/\B j=some (.lst<|xs.map V.str)/\↑xs<=i) ⟨_,_,t,[],rfl,S2,as,by lia,a6,by simp⟩ ?_ ?_ ?_
 .rintro i σ B hi ⟨_,_,_,_,_,_,fr,_⟩;exact SqL.of (e3.keep fr).2
 .rintro i x σ B J ⟨kx,sx,tx,xs,rfl,Sx,fr,am,ag,ar⟩;obtain⟨hi,_⟩:=zz2.mp J;rw[aK]at hi;rw[bN,bD hi]at J;cases J;obtain⟨C,ae,hk⟩:=Sx.env;have b7:=hk.len;obtain⟨us,eu,b8,_⟩:=hk.strs;exists en,C,ae;refine⟨_,rfl,en,C,rfl,ae,λo I a2=>?_⟩;have al:I≠en:=λz=>by rw[z,zb1]at a2;cases a2
  have b5:B I=none:=by rw[aC al]at a2;exact a2
  refine DJ (xs:=C.map λp=>kV p.1) (λM σ N=>(∃x,σ=[x,some<|.ref en,some<|.str ws[i],some<|.ref wd])/\FrS [] (upd B en<|.frz o<|.dK C) N/\∃ss:List Str,↑ss<=M/\N I=some (.lst<|ss.map V.str)) ⟨⟨_,rfl⟩,(FrS.refl).put a2,[],by simp,zb1⟩ ?_ ?_ ?_
  .rintro M σ N hi ⟨_,fr,_⟩;exact fr _ _ (by trivial) zb1
  .rintro M x σ N J ⟨⟨x0,rfl⟩,W,ss,hs,a7⟩;have ai:=J;rw[eu]at J;obtain⟨hi,_⟩:=zz2.mp J;rw[aK]at hi;rw[bN,bD hi]at J;cases J;have av:(Sum.inr us[M]:aG)∈C.map (·.1):=by
    rw[bN]at ai;obtain⟨p,hp,e⟩:=wp4.mp ai;have:p.1=Sum.inr us[M]:=by
     obtain⟨y,_,ey⟩:=hk.ks p.1<|wn7.mpr ⟨p,cW hp,rfl⟩;rw[ey]at e ⊢;cases e;rfl
    exact wn7.mpr ⟨p,cW hp,this⟩
   obtain⟨v,hv⟩:∃v,aF C (Sum.inr us[M])=some v:=by
    cases z:aF C (Sum.inr us[M])with
    | some v=>exact⟨v,rfl⟩
    | none=>exact absurd av<|DG z
   have ah:∀Hz,FrS [] (upd B en<|.frz o<|.dK C) Hz->DGet Hz en (.str us[M]) (some v):=λHz fz=>.inl ⟨C,Sum.inr us[M],.inr ⟨o,fz _ _ (by trivial) zb1⟩,rfl,hv.symm⟩
   exists _,rfl,_,rfl,en,v,rfl,ah _ W,_,rfl;rcases hk.vs _ _ hv with rfl | ⟨n,hn,rfl⟩
   .show if (!decide (V.non=V.non))=true then _ else _
    rw[aY<|by trivial];exact⟨⟨_,rfl⟩,W,ss,by lia,a7⟩
   .show if (!decide (V.str n=V.non))=true then _ else _
    rw[bC<|by trivial];obtain⟨l,hl,ay,_⟩:=FF S.ok hn;have az:FrS (Ms hd en WA) B N:=λb u n e=>W b u (by trivial) (by rw[aC λz=>n<|by rw[z];simp];exact e)
    refine⟨_,rfl,_,rfl,_,rfl,_,rfl,en,V.str n,rfl,ah _ W,wd,_,WA,D,n,l,rfl,Sx.w.keep az,S.ok,hl,λla Hz fz b0 b3=>?_⟩;have ax:I≠la:=aP a7 b0;have aq:=fz _ _ (by trivial) a7;exists la,_,rfl,.inl<|SqL.of b3,rfl,iS _,_,rfl;refine bG (λc=>?_) λc=>?_
    .exists _,rfl,_,aq,by rw[aK];exact bH (by lia),⟨_,rfl⟩,(W.trans fz).put a2,ss++[us[M]],?_
     .rw[bI,dR];lia
     .rw[zb1,bO];rfl
    .exact⟨⟨_,rfl⟩,W.trans fz,ss,by lia,aq⟩
  .rintro σ N ⟨_,W,ss,hs,a7⟩;rw[aK]at hs;exists o,W _ _ (by trivial) zb1;have f1:FrS [] B (upd N en<|.dK C):=FrS.thaw ae W;have Y:=Sx.fr0 f1;have ad:upd N en (.dK C) I=some (.lst<|ss.map V.str):=by rw[aC al];exact a7
   generalize upd N en (.dK C)=H3 at f1 Y ad;have a4:=f1 _ _ (by trivial) ag;refine⟨_,rfl,bM _,λpe aa=>?_⟩;have S4:=Y.fr0<|FrS.new (S:=[]) (o:=.lst []) aa;have aj:I≠pe:=aP ad aa;have a8:upd H3 pe (.lst []) j=some (.lst<|xs.map V.str):=by rw[aC<|aP a4 aa];exact a4
   have f4:FrS (Ms hd en WA) H (upd H3 pe<|.lst []):=fr.trans ((f1.trans<|FrS.new aa).mono<|by trivial);have ac:upd H3 pe (.lst []) I=some (.lst<|ss.map V.str):=by rw[aC aj];exact ad
   exists I,pe,_,rfl,rfl,aj,SqL.of ac,SqL.of zb1,_,rfl;have ak:∀(H5:Hp)(X:Int),Sit H5 hd en wd WA D X r->FrS (Ms hd en WA) H H5->X<=tx+1->H5 j=some (.lst<|xs.map V.str)->BN (wK K "list" vA (aJ 5)<|aZ (fN nX [] E0<|aZ (aJ 0)<|aZ (aJ 1)<|aZ (aJ 2) aW) aW)
     ⟨λσ B=>∃(kx sx:Option V)(tx:Int)(xs:List Str),σ=[some<|.ref hd,some<|.ref wd,some<|.ref en,some<|.str ab,some<|.str G,some<|.ref j,kx,sx]/\Sit B hd en wd WA D tx r/\FrS (Ms hd en WA) H B/\tx<=t+3*((i+1:Nat):Int)/\B j=some (.lst<|xs.map V.str)/\↑xs<=i+1,λ_ _=>False,λ_ _=>False,λ_ _=>False⟩ [some<|.ref hd,some<|.ref wd,some<|.ref en,some<|.str ab,some<|.str G,some<|.ref j,some<|.str ws[i],some<|.ref I] H5:=by
    intro H5 X S5 f5 b4 a0;refine⟨_,rfl,.inl ⟨rfl,_,SqL.of a0⟩,_,rfl,_,rfl,_,rfl,hd,en,wd,WA,D,X,r,rfl,S5,by lia,λx H6 t6 S6 f6 b9 _=>?_⟩;have af:=f6 _ _ a5 a0;have S7:=Sit.own (o:=.lst<|xs.map V.str++[V.str x]) S S6 (f5.trans f6) a3;exact⟨j,_,_,rfl,rfl,af,bH (by rw[aK];lia),_,_,t6,xs++[x],rfl,S7.1,S7.2,by lia,by rw[zb1,bO];rfl,by rw[bI,dR];lia⟩
   cases ss with
   | nil=>exact ak _ tx S4 f4 (by lia) a8
   | cons y ys=>
    obtain⟨d,m,hh⟩:=S4.hand;refine⟨_,rfl,hd,d,m,tx,r,4,rfl,hh,by lia,by decide,by decide,λx d' m' X x0 x1 c e=>⟨_,_,rfl,rfl,_,rfl,?_⟩⟩;have S5:=S4.setHand (r':=r) c;have f5:=f4.put' (a:=hd) (o:=hl d' m' X r) (by trivial);have ao:I≠hd:=iB (ss:=y::ys) ac hh;have ap:j≠hd:=λz=>a5 (by rw[z];simp)
    have a0:upd (upd H3 pe<|.lst []) hd (hl d' m' X r) j=some (.lst<|xs.map V.str):=by rw[aC ap];exact a8
    refine bG (λc=>?_) λc=>?_
    .obtain⟨d,m,hh⟩:=S5.hand;refine⟨_,rfl,.inl ⟨rfl,_,SqL.of a0⟩,_,rfl,_,rfl,hd,I,d,m,X,r,_,rfl,hh,by lia,ao,SqL.of (by rw[aC ao];exact ac),by simp,by rw[aK];lia,λx d' m' t' J c e=>?_⟩;obtain⟨x,_,rfl⟩:=wn7.mp J;have S7:=Sit.own (o:=.lst<|xs.map V.str++[V.str x]) S (S5.setHand (r':=r) c) (f5.put' (a:=hd) (o:=hl d' m' t' r)<|by trivial) a3;exact⟨j,_,_,rfl,rfl,by rw[aC ap];exact a0,bH (by rw[aK];lia),_,_,t',xs++[x],rfl,S7.1,S7.2,by lia,by rw[zb1,bO];rfl,by rw[bI,dR];lia⟩
    .exact ak _ X S5 f5 e a0
 .rintro σ B ⟨kx,sx,tx,xs,rfl,Sx,fr,am,ag,ar⟩;rw[aK]at am ar;refine⟨_,rfl,j,_,rfl,.inl ⟨SqL.of ag,λl hl=>?_⟩⟩;exact q l xs _ tx zb1 (by lia) (Sx.fr0<|FrS.new hl) (fr.trans<|FrS.new hl) (by lia)
abbrev qX:List Str:=[qH,qW,"_law_env","_law_x","_law_y","_law_field_here","_law_z"]
def yf6:bY qX qA (bR HB):=cC
def As(F:Fun K "_law_field" "_law_field" HB f fd)(T:aT P w K mg base k "_law_take" qB gG)(O:aT P w K mg base k "_law_of" qC (cS K))(V':aT P w K mg base k "_law_variable" qA nX)(G:aT P w K mg base k "_law_target" qA qZ):
  aR P w K mg base bP (k+1) f fd qA IG:=by
 refine F.ok yf6 (λvs H Q E h=>?_) λac A outer s H vs Q E hr h=>?_
 .obtain⟨hd,en,wd,A,D,t,r,rfl,_⟩:=h;rfl
 obtain⟨hd,en,wd,WA,D,t,r,rfl,S,ht,q⟩:=h;have b:=dU hr;exists _,aL (sM (i:=3) (j:=4) rfl yf6.nd rfl rfl (by decide) rfl rfl (aA (bB V' hr rfl<|aA (pv 0)<|aA (pv 1)<|aA (pv 2) aE)<|aA (bB V' hr rfl<|aA (pv 0)<|aA (pv 1)<|aA (pv 2) aE) aE) rfl)
  (aL (sL 5 yf6.nd<|bB O hr rfl<|aA (pv 0)<|aA (bQ b (pv 1) bA λ_ _=>rfl) aE)<|aL (cI (cA eZ (bB T hr rfl<|aA (pv 0)<|aA aO aE) aO<|cF _) (aL (fF b (bQ b (pv 1) bA λ_ _=>rfl) (pv 5) (iD b (pv 2) (pv 4) ⟨rfl,rfl,rfl,rfl⟩) rfl)<|aS<|bT<|bV<|aA bA<|aA (pv 3)<|aA (pv 5)<|aA (pv 4) aE) cZ)<|aL (sL 6 yf6.nd<|bB G hr rfl<|aA (pv 0)<|aA (pv 1)<|aA (pv 2) aE)<|aL (fF b (pv 2) (pv 6) (iD b (bQ b (pv 1) bA λ_ _=>rfl) (pv 5) ⟨rfl,rfl,rfl,rfl⟩) rfl)<|aS<|bT<|bV<|aA bA<|aA (pv 6)<|aA (pv 4)<|aA (pv 5) aE)
 ac_rfl
 have hU:D.U.length=9:=by unfold WD.U;rw[cU,bI,S.ok.v4,S.ok.p4]
 have aa:=S.ok.f3;refine⟨_,rfl,_,rfl,_,rfl,hd,en,wd,WA,D,t,r,rfl,S,by lia,λx1 H1 t1 S1 f1 ad _=>?_⟩;refine⟨_,rfl,_,rfl,_,rfl,hd,en,wd,WA,D,t1,r,rfl,S1,by lia,λY H2 t2 B f2 ae _=>⟨_,_,rfl,?_⟩⟩;obtain⟨d,m,I⟩:=B.hand;refine⟨_,rfl,_,rfl,wd,_,rfl,B.w.g.2.2.2.2.2.2.2.1,hd,WA.fields,d,m,t2,r,_,rfl,I,by lia,iB B.w.fields.2 I,SqL.of B.w.fields.2,?_,by rw[aK];lia,λx d3 m3 t3 hx c3 e3=>?_⟩
 .intro z;have:=cK List.length z;rw[aK,kW]at this;lia
 obtain⟨u,a7,rfl⟩:=wn7.mp hx;have S3:=B.setHand (r':=r) c3;have a6:=(f1.trans f2).put' (a:=hd) (o:=hl d3 m3 t3 r) (by trivial);obtain⟨d,m,I⟩:=S3.hand;refine⟨_,rfl,hd,d,m,t3,r,2,rfl,I,by lia,by decide,by decide,λx d4 m4 X x0 x1 c4 e4=>⟨rfl,_,rfl,?_⟩⟩;have n:=S3.setHand (r':=r) c4;have a4:=a6.put' (a:=hd) (o:=hl d4 m4 X r) (by trivial);obtain⟨kv,L,J⟩:=n.env;obtain⟨Z,M,N⟩:=n.held;refine bG (λc=>?_) λc=>?_
 .exists _,rfl,en,rfl,.inl ⟨_,.inl L⟩,_,rfl,_,DGet.k (k:=(Sum.inr Y:aG)) L,_,rfl,wd,_,rfl,n.w.g.2.2.2.2.2.2.2.2.2.1,_,rfl,WA.held,_,rfl,DPut.k (k:=(Sum.inr u:aG)) M<|bH (by have:=N.len;lia);have l:=n.setHeld<|N.put a7<|J.get<|Sum.inr Y;have a9:=a4.put' (a:=WA.held) (o:=.dK<|aN Z (Sum.inr u)<|(aF kv<|Sum.inr Y).getD .non) (by trivial);refine⟨_,rfl,_,rfl,_,rfl,dM rfl,λW C=>?_⟩;exact q W _ X ⟨.put _ _ _,zb1,λ_ e=>nomatch e⟩ (l.fr0<|FrS.new C) (a9.trans<|FrS.new C) (by lia)
 .refine⟨_,rfl,_,rfl,_,rfl,hd,en,wd,WA,D,X,r,rfl,n,by lia,λx5 H5 t5 a8 l f5 ab _=>?_⟩;obtain⟨kv,L,J⟩:=l.env;obtain⟨Z,M,N⟩:=l.held;exists _,rfl,wd,_,rfl,l.w.g.2.2.2.2.2.2.2.2.2.1,WA.held,rfl,.inl ⟨_,.inl M⟩,_,rfl,_,DGet.k (k:=(Sum.inr u:aG)) M,_,rfl,_,rfl,en,_,rfl,DPut.k (k:=(Sum.inr x5:aG)) L<|bH (by have:=J.len;lia);have S6:=l.setEnv<|J.put a8<|N.get<|Sum.inr u;have a5:=(a4.trans f5).put' (a:=en) (o:=.dK<|aN kv (Sum.inr x5)<|(aF Z<|Sum.inr u).getD .non) (by trivial);refine⟨_,rfl,_,rfl,_,rfl,dM rfl,λW C=>?_⟩;exact q W _ t5 ⟨.take _ _ _,zb1,λ_ e=>nomatch e⟩ (S6.fr0<|FrS.new C) (a5.trans<|FrS.new C) (by lia)
abbrev KO:Stmt:=top 61
inductive QD(vs:List V)(H:Hp)(Q:VK):Prop
 | mk(hd en wd:Addr)(A:WA)(D:WD)(t r lv:Int)(h1:vs=[.ref hd,.ref wd,.ref en,.int lv])(h2:Sit H hd en wd A D t r)(h3:t+18<1000000)(h4:∀(x:Addr)(H':Hp)(t':Int),AL (eO D) H' x->Sit H' hd en wd A D t' r->FrS (Ms hd en A) H H'->t'<=t+18->Q (.ref x) H'):QD  vs H Q
def yE:Sp:=λvs H Q _=>QD  vs H Q
def Ws(D:WD)(H:Hp)(as:List Addr):Prop:=∀a∈as,∃o d,H a=some (.tup [.str o,.str d])/\o∈D.names/\d∈D.deeds/\IK D o d
def Ws.mono(h:Ws D H as)(f:∀b xs,H b=some (.tup xs)->H' b=some (.tup xs)):Ws D H' as:=λa i=>by
 obtain⟨o,d,e,r⟩:=h a i;exact⟨o,d,f _ _ e,r⟩
def Ws.app(h:Ws D H as)(h':Ws D H bs):Ws D H (as++bs):=λa b=>(wp5.mp b).elim (h a)<|h' a
def EU(hp:H p=some (.lst ys)):∀b xs,H b=some (.tup xs)->upd H p o b=some (.tup xs):=λb xs h=>by
 rw[aC λz=>by rw[z,hp]at h;cases h];exact h
def NI(ds:List Str)(lo hi:Option Int):∃ds':List Str,cP (ds.map V.str) lo hi=ds'.map V.str/\↑ds'<=↑ds/\∀x∈ds',x∈ds:=by
 unfold cP;rw[<-BD,<-vP];refine⟨_,rfl,?_,λx a=>List.mem_of_mem_drop<|List.mem_of_mem_take a⟩;rw[eK,lE];lia
abbrev zI:List Str:=[qH,qW,"_law_env","_law_level","_law_y","_law_kind","_law_some","_law_ways","_law_deed_here","_law_above","_law_args_here","_law_x"]
def zp1:bY zI qF (bR KO):=cC
def VB(F:Fun K "_law_call" "_law_call" KO f fd)(T:aT P w K mg base k "_law_take" qB gG)(O:aT P w K mg base k "_law_of" qC (cS K))(V':aT P w K mg base k "_law_variable" qA nX)(L:aT P w K mg base k "_law_line" qG AX)(G:aT P w K mg base k "_law_target" qA qZ)(HS:aT P w K mg base k "_law_has" qE IY)(MK:aT P w K mg base k "_law_make" qA DC)(AR:aT P w K mg base k "_law_args" qD HU):
  aR P w K mg base bP (k+1) f fd qF yE:=by
 refine F.ok zp1 (λvs H Q E h=>?_) λc0 A outer s H vs Q E hr h=>?_
 .obtain⟨hd,en,wd,A,D,t,r,N,rfl,_⟩:=h;rfl
 obtain⟨hd,en,wd,WA,D,t,r,N,rfl,S,ht,q⟩:=h;have M:=dU hr;have ax:(["_law_name","_law_elder"]:List Str).Nodup:=by rfl'
 have ba:(["_law_one","_law_deed_here",qW]:List Str).Nodup:=by rfl'
 exists _,aL (sL 4 zp1.nd<|bB V' hr rfl<|aA (pv 0)<|aA (pv 1)<|aA (pv 2) aE)
  (aL (sL 5 zp1.nd<|iD M (pv 2) (pv 4) ⟨rfl,rfl,rfl,rfl⟩)<|aL (cI (hV<|nL<|pv 5) (aS<|sL 5 zp1.nd<|bB O hr rfl<|aA (pv 0)<|aA (iO (N':=["_law_name","_law_elder"]) (src:=[none,none]) rfl eW (gU<|bQ M (pv 1) bA λ_ _=>rfl) (g:=eG K 2<|dQ (bW 0)<|dQ (bW 1) dZ) (λ_ _ _ _=>eC (n:=2) rfl<|bJ (gL 0 ax)<|bJ (gL 1 ax) dY) (λ_ _ _ _=>gP) λ_ _ _ _=>pv 0) aE) cZ)<|aL (sL 6 zp1.nd<|kE wD (bQ M (pv 1) bA λ_ _=>rfl) (jX<|bX iX (pv 3) aO) kH)<|aL (cI (cA eZ (bB T hr rfl<|aA (pv 0)<|aA aO aE) aO<|cF _) (aS<|sL 6 zp1.nd<|bQ M (pv 1) bA λ_ _=>rfl) cZ)<|aL (sL 7 zp1.nd<|cG aE)<|aL (dX dO rfl (gU<|pv 6) (vH (i:=8) zp1.nd rfl<|Or.inr rfl)<|aS<|dW<|eN eA PySem.F.slot_list_extend PySem.F.type_list_extend XU (pv 7)<|aA (iO (N':=["_law_one","_law_deed_here",qW]) (src:=[none,some 8,some 1]) rfl eW (gU<|bB L hr rfl<|aA (pv 1)<|aA (pv 5) aE) (g:=bW 0) (λ_ _ _ _=>gL 0 ba) (λ_ _ _ _=>pN<|zW<|bB HS hr rfl<|aA (pv 2)<|aA (pv 0)<|aA (pv 1) aE) λ_ _ _ _=>bV<|aA (pv 0)<|aA (pv 1) aE) aE)<|aL (cI (cA (PY<|mS M) (pv 7) (cG aE)<|cF _) (aS<|bT<|bB MK hr rfl<|aA (pv 0)<|aA (pv 1)<|aA (pv 2) aE) cZ)<|aL (iM (bB O hr rfl<|aA (pv 0)<|aA (pv 7) aE)<|eC (n:=2) rfl<|bJ (gL 9 zp1.nd)<|bJ (vH (i:=8) zp1.nd rfl<|Or.inr rfl) dY)<|aL (sL 10 zp1.nd<|bB AR hr rfl<|aA (pv 0)<|aA (pv 1)<|aA (pv 2)<|aA (pv 9)<|aA (pv 8) aE)<|aL (sL 11 zp1.nd<|bB G hr rfl<|aA (pv 0)<|aA (pv 1)<|aA (pv 2) aE)<|aL (fF M (pv 2) (pv 11) (iD M (bQ M (pv 1) bA λ_ _=>rfl) (pv 8) ⟨rfl,rfl,rfl,rfl⟩) rfl)<|aS<|bT<|bV<|aA bA<|aA (pv 11)<|aA (pv 4)<|aA (pv 9)<|aA (pv 8)<|aA (pv 10) aE)
 ac_rfl
 have hU:D.U.length=9:=by unfold WD.U;rw[cU,bI,S.ok.v4,S.ok.p4]
 have br:=S.ok.l12;have h6:=S.ok.d6;refine⟨_,rfl,_,rfl,_,rfl,hd,en,wd,WA,D,t,r,rfl,S,by lia,λC H1 t1 S1 f1 bu _=>?_⟩;obtain⟨kv,a6,hk⟩:=S1.env;exists _,rfl,en,rfl,.inl ⟨_,.inl a6⟩,_,rfl,_,DGet.k (k:=(Sum.inr C:aG)) a6;have ay:=hk.get<|Sum.inr C;generalize (aF kv<|Sum.inr C).getD .non=vk at ay;have be:∀(nx:St->Hp->Prop),(∀(n:Str)(H2:Hp)(t2:Int),n∈D.names->Sit H2 hd en wd WA D t2 r->FrS (Ms hd en WA) H H2->t2<=t+3->nx [some<|.ref hd,some<|.ref wd,some<|.ref en,some<|.int N,some<|.str C,some<|.str n,none,none,none,none,none,none] H2)->
   iA (tB<|yI<|aJ 5) (fO (fN (cS K) [] E0<|aZ (aJ 0)<|aZ (DM (mV K<|wF (aJ 1)<|tC<|.str "tree") [none,none] (eG K 2<|dQ (bW 0)<|dQ (bW 1) dZ) mE<|aJ 0) aW)<|bW 5) pR ⟨nx,Q,λ_ _=>False,λ_ _=>False⟩ [some<|.ref hd,some<|.ref wd,some<|.ref en,some<|.int N,some<|.str C,some vk,none,none,none,none,none,none] H1:=by
  intro nx a2;exists _,rfl,_,rfl;rcases ay with rfl | ⟨n,hn,rfl⟩
  .show if (decide<|V.non=V.non)=true then _ else _
   rw[bC<|by trivial];obtain⟨ts,an,bf,bk⟩:=S1.w.tree;refine⟨_,rfl,_,rfl,wd,_,rfl,S1.w.g.1,WA.tree,rfl,⟨_,SqL.of an.2⟩,λDn b8=>?_⟩;refine JF (tr:=D.tr) an.2 bf (λj t x a b=>(bk j t x a b).2) b8 (by lia) λH2 f2 aw=>?_
   have Z:=S1.fr0 f2;obtain⟨d,m,W⟩:=Z.hand;refine⟨hd,Dn,d,m,t1,r,_,rfl,W,by lia,iB aw W,SqL.of aw,?_,by rw[aK,aK];lia,λx d3 m3 t3 e c3 e3=>?_⟩
   .intro z;have:=cK List.length z;rw[aK,aK,kW]at this;exact S.ok.l1<|vc3.mp this
   .obtain⟨n,hn,rfl⟩:=wn7.mp e;exact a2 n _ t3 hn (Z.setHand c3) ((f1.trans<|f2.mono<|by trivial).put'<|by trivial) (by lia)
  .show if (decide<|V.str n=V.non)=true then _ else _
   rw[aY<|by trivial];exact a2 n H1 t1 hn S1 f1 (by lia)
 refine be _ λn H2 t2 hn Z f2 bw=>?_;refine⟨_,rfl,wd,_,rfl,Z.w.g.2.2.1,_,rfl,N,1,rfl,rfl,_,rfl,WA.deeds,_,rfl,SqL.of Z.w.deeds.2,λps a9=>?_⟩;obtain⟨ds,ed,bz,b7⟩:=NI D.deeds (some<|N+1) none;rw[ed];have S3:=Z.fr0<|FrS.new (S:=[]) (o:=.lst<|ds.map V.str) a9;have f3:FrS (Ms hd en WA) H (upd H2 ps<|.lst<|ds.map V.str):=f2.trans<|FrS.new a9;have a3:Stt (Ms hd en WA) (upd H2 ps<|.lst<|ds.map V.str) ps (.lst<|ds.map V.str):=⟨Z.notin a9,zb1⟩;generalize upd H2 ps (.lst<|ds.map V.str)=H3 at S3 f3 a3;have bp:∀(nx:St->Hp->Prop),(∀(pz:Addr)(zs:List Str)(H4:Hp)(B:Int),Stt (Ms hd en WA) H4 pz (.lst<|zs.map V.str)->↑zs<=6->(∀x∈zs,x∈D.deeds)->Sit H4 hd en wd WA D B r->FrS (Ms hd en WA) H H4->B<=t+4->nx [some<|.ref hd,some<|.ref wd,some<|.ref en,some<|.int N,some<|.str C,some<|.str n,some<|.ref pz,none,none,none,none,none] H4)->
   iA (hY<|dC vQ (fN gG [] E0<|aZ (aJ 0)<|aZ (tC<|.int 8) aW)<|tC<|.int 0) (fO (wF (aJ 1)<|tC<|.str "deeds")<|bW 6) pR ⟨nx,Q,λ_ _=>False,λ_ _=>False⟩ [some<|.ref hd,some<|.ref wd,some<|.ref en,some<|.int N,some<|.str C,some<|.str n,some<|.ref ps,none,none,none,none,none] H3:=by
  intro nx a2;obtain⟨d,m,W⟩:=S3.hand;refine⟨_,rfl,hd,d,m,t2,r,8,rfl,W,by lia,by decide,by decide,λx d4 m4 B x0 x1 c4 e4=>⟨rfl,_,rfl,?_⟩⟩;have J:=S3.setHand (r':=r) c4;have f4:=f3.put' (a:=hd) (o:=hl d4 m4 B r) (by trivial);refine bG (λc=>?_) λc=>?_
  .exact⟨_,rfl,wd,_,rfl,J.w.g.2.2.1,a2 WA.deeds D.deeds _ B J.w.deeds h6 (λx e=>e) J f4<|by lia⟩
  .exact a2 ps ds _ B (a3.keep<|FrS.chg<|by trivial) (by lia) b7 J f4 (by lia)
 refine bp _ λpz zs H4 B hz c1 b6 J f4 bv=>?_;refine⟨bM _,λI a5=>?_⟩;have S5:=J.fr0<|FrS.new (S:=[]) (o:=.lst []) a5;have ac:I∉Ms hd en WA:=J.notin a5;have a8:pz≠I:=aP hz.2 a5;obtain⟨l,bb,bq,bo⟩:=FF S.ok hn;exists _,rfl,pz,rfl,⟨_,SqL.of<|by rw[aC a8];exact hz.2⟩;refine nH (xs:=zs.map V.str) (λi σ Hx=>∃(dx:Option V)(as:List Addr),σ=[some<|.ref hd,some<|.ref wd,some<|.ref en,some<|.int N,some<|.str C,some<|.str n,some<|.ref pz,some<|.ref I,dx,none,none,none]/\Sit Hx hd en wd WA D B r/\FrS (Ms hd en WA) H4 Hx/\Hx I=some (.lst<|as.map V.ref)/\Ws D Hx as/\↑as<=12*i) ⟨_,[],rfl,S5,FrS.new a5,zb1,(λa ha=>nomatch ha),by simp⟩ ?_ ?_ ?_
 .rintro i σ Hx hi ⟨_,_,_,_,fr,_⟩;exact SqL.of (hz.keep fr).2
 .rintro i x σ Hx e ⟨dx,as,rfl,Sx,fr,aq,b3,a4⟩;obtain⟨hi,_⟩:=zz2.mp e;rw[aK]at hi;rw[bN,bD hi]at e;cases e;have ap:zs[i]∈D.deeds:=b6 _<|iK hi;refine⟨_,rfl,.inl ⟨rfl,_,SqL.of aq⟩,_,rfl,_,rfl,wd,_,WA,D,n,l,rfl,Sx.w,S.ok,bb,λla Hy fy bt ar=>⟨la,rfl,⟨_,SqL.of ar⟩,λDl ak=>?_⟩⟩;have Sy:=Sx.fr0 fy;have bn:=fy _ _ (by trivial) aq;have aa:Ws D Hy as:=b3.mono λb xs h=>fy _ _ (by trivial) h
  refine wI (xs:=l.map V.str) (λX σ Hz=>(∃x,σ=[x,some<|.str zs[i],some<|.ref wd])/\FrS [] Hy Hz/\∃bs:List Addr,↑bs<=X/\Hz Dl=some (.lst<|bs.map V.ref)/\Ws D Hz bs) ⟨⟨_,rfl⟩,(FrS.refl).put ak,[],by simp,zb1,λa ha=>nomatch ha⟩ ?_ ?_ ?_
  .rintro X σ Hz hi ⟨_,u,_⟩;exact SqL.of<|u _ _ (by trivial) ar
  .rintro X x σ Hz e ⟨⟨x0,rfl⟩,u,bs,b1,aj,af⟩;obtain⟨ah,_⟩:=zz2.mp e;rw[aK]at ah;rw[bN,bD ah]at e;cases e;have av:l[X]∈D.names:=bo _<|iK ah;refine⟨_,rfl,_,rfl,_,rfl,wd,_,WA,D,l[X],zs[i],rfl,(Sy.fr0 u).w,S.ok,av,ap,λb Hv fv bc=>⟨_,rfl,?_⟩⟩;have ab:=fv _ _ (by trivial) aj;have az:Ws D Hv bs:=af.mono λb xs h=>fv _ _ (by trivial) h
   refine bG (λc=>?_) λc=>?_
   .refine⟨_,rfl,_,rfl,dM rfl,λtp a1=>?_⟩;have b9:Dl≠tp:=aP ab a1;have b0:upd Hv tp (.tup [V.str l[X],V.str zs[i]]) Dl=some (.lst<|bs.map V.ref):=by rw[aC b9];exact ab
    exists _,b0,by rw[aK];exact bH (by lia),⟨_,rfl⟩,((u.trans fv).trans<|FrS.new a1).put ak,bs++[tp],?_,?_
    .rw[bI,dR];lia
    .rw[zb1,bO];rfl
    .refine Ws.mono (H:=upd Hv tp<|.tup [V.str l[X],V.str zs[i]]) (Ws.app (az.mono λb xs h=>?_) λa ha=>?_)<|EU b0
     .rw[aC<|aP h a1];exact h
     .rw[wn1.mp ha];exact⟨_,_,zb1,av,ap,bc c⟩
   .exact⟨⟨_,rfl⟩,u.trans fv,bs,by lia,ab,az⟩
  .rintro σ Hz ⟨_,u,bs,b1,aj,af⟩;rw[aK]at b1;have al:=u _ _ (by trivial) bn;have Sz:=Sy.fr0 u;have ad:Ws D Hz as:=aa.mono λb xs h=>u _ _ (by trivial) h
   have Y:=Sit.own (o:=.lst<|as.map V.ref++bs.map V.ref) J Sz (fr.trans<|(fy.trans u).mono<|by trivial) a5;refine⟨I,Dl,_,_,rfl,rfl,al,aj,by rw[aK,aK];exact cL (bH<|by lia),_,as++bs,rfl,Y.1,Y.2,by rw[zb1,bO],(Ws.app ad af).mono<|EU al,by rw[bI];lia⟩
 rintro σ H6 ⟨dx,as,rfl,S6,f6,am,b5,a4⟩;rw[aK]at a4;have bi:=f4.trans f6;refine⟨_,rfl,bM _,λpe a7=>?_⟩;have Y:=S6.fr0<|FrS.new (S:=[]) (o:=.lst []) a7;have ao:I≠pe:=aP am a7;have ae:FrS (Ms hd en WA) H (upd H6 pe<|.lst []):=bi.trans<|FrS.new a7;have ai:upd H6 pe (.lst []) I=some (.lst<|as.map V.ref):=by rw[aC ao];exact am
 have b2:Ws D (upd H6 pe<|.lst []) as:=b5.mono λb xs h=>by rw[aC<|aP h a7];exact h
 exists I,pe,_,rfl,rfl,ao,SqL.of ai,SqL.of zb1,_,rfl;generalize upd H6 pe (.lst [])=H7 at Y ae ai b2;cases as with
 | nil=>
  refine⟨_,rfl,_,rfl,_,rfl,hd,en,wd,WA,D,B,r,rfl,Y,by lia,λx H8 t8 p8 S8 f8 c5=>q x H8 t8 (.inl p8) S8 (ae.trans f8)<|by lia⟩
 | cons a0 as'=>
  obtain⟨d,m,W⟩:=Y.hand;refine⟨_,rfl,_,rfl,hd,I,d,m,B,r,_,rfl,W,by lia,λz=>ac (by rw[z];simp),SqL.of ai,by simp,by rw[aK];lia,λx d8 m8 t8 e c8 e8=>?_⟩;obtain⟨tp,a1,rfl⟩:=wn7.mp e;obtain⟨on,dn,e1,e2,e3,e4⟩:=b2 tp a1;have S8:=Y.setHand (r':=r) c8;have f8:=ae.put' (a:=hd) (o:=hl d8 m8 t8 r) (by trivial);have bh:tp≠hd:=λz=>by have:=W.1;rw[<-z,e1]at this;cases this
  exists tp,_,rfl,SqT.of (by rw[aC bh];exact e1),rfl,_,_,rfl,_,_,rfl,rfl;refine⟨_,rfl,_,rfl,_,rfl,_,rfl,_,rfl,hd,en,wd,WA,D,t8,r,on,dn,rfl,S8,by lia,e2,e3,λx9 bl H9 t9 b4 bg S9 f9 c2=>?_⟩;refine⟨_,rfl,_,rfl,_,rfl,hd,en,wd,WA,D,t9,r,rfl,S9,by lia,λxa Ha ta bm Sa fa bx _=>?_⟩;obtain⟨kv,a6,hk⟩:=Sa.env;obtain⟨kt,au,bd⟩:=Sa.told;exists _,rfl,wd,_,rfl,Sa.w.g.2.2.2.2.2.2.2.2.1,WA.told,rfl,.inl ⟨_,.inl au⟩,_,rfl,_,DGet.k (k:=(Sum.inr dn:aG)) au,_,rfl,_,rfl,en,_,rfl,DPut.k (k:=(Sum.inr xa:aG)) a6<|bH (by have:=hk.len;lia);have Sb:=Sa.setEnv<|hk.put bm<|bd.get<|Sum.inr dn;have fb:=((f8.trans f9).trans fa).put' (a:=en) (o:=.dK<|aN kv (Sum.inr xa)<|(aF kt<|Sum.inr dn).getD .non) (by trivial);refine⟨_,rfl,_,rfl,_,rfl,_,rfl,_,rfl,dM rfl,λpr ag=>?_⟩;have bj:Tup H9 (upd (upd Ha en<|.dK<|aN kv (Sum.inr xa)<|(aF kt<|Sum.inr dn).getD .non) pr<|.tup [V.str "call",V.str xa,V.str C,V.str on,V.str dn,V.ref x9]):=((S9.tup fa).trans<|Sa.tup<|FrS.chg<|.tail _<|.head _).trans<|Tup.new ag;exact q pr _ ta (.inr ⟨xa,C,on,dn,x9,bl,zb1,bj _ _ b4,bg,e4⟩) (Sb.fr0<|FrS.new ag) (fb.trans<|FrS.new ag) (by lia)
abbrev uM:Stmt:=top 63
abbrev DX:Stmt:=top 64
abbrev jQ:List Str:=[qH,qW,"_law_env","_law_level","_law_deep"]
abbrev jL:List Str:=[qH,qW,"_law_env","_law_level","_law_deep","_law_most"]
inductive nO(n:Nat)(vs:List V)(H:Hp)(Q:VK):Prop
 | mk(hd en wd:Addr)(A:WA)(D:WD)(t r lv:Int)(dp:Nat)(h1:vs=[.ref hd,.ref wd,.ref en,.int lv,.int (dp:Int)])(h2:dp<=n)(h3:Sit H hd en wd A D t r)(h4:0<=r)(h5:t+25*r+24<1000000)(h6:∀(x:Addr)(fs:List Addr)(H':Hp)(t' r':Int),Fl (eO D) H' n [x] fs->(↑fs:Int)+r'<=r+1->Sit H' hd en wd A D t' r'->FrS (Ms hd en A) H H'->0<=r'->r'<=r->t'+25*r'<=t+25*r+24->Q (.ref x) H'):nO n vs H Q
def KL(n:Nat):Sp:=λvs H Q _=>nO n vs H Q
inductive MY(n:Nat)(vs:List V)(H:Hp)(Q:VK):Prop
 | mk(hd en wd:Addr)(A:WA)(D:WD)(t r lv mo:Int)(dp:Nat)(h1:vs=[.ref hd,.ref wd,.ref en,.int lv,.int (dp:Int),.int mo])(h2:dp<=n)(h3:0<=mo)(h4:mo<=100)(h5:Sit H hd en wd A D t r)(h6:0<=r)(h7:t+25*r+1<1000000)(h8:∀(x:Addr)(rs fs:List Addr)(H':Hp)(t' r':Int),H' x=some (.tup<|rs.map V.ref)->Fl (eO D) H' n rs fs->(↑fs:Int)+r'<=r->Sit H' hd en wd A D t' r'->FrS (Ms hd en A) H H'->0<=r'->r'<=r->t'+25*r'<=t+25*r+1->Q (.ref x) H'):MY n vs H Q
def tS(n:Nat):Sp:=λvs H Q _=>MY n vs H Q
def wO:Nat->Sp
 | 0=>λ_ _ _ _=>False
 | n+1=>tS n
abbrev GB:List Str:=[qH,qW,"_law_env","_law_level","_law_deep","_law_way","_law_y","_law_x","_law_lots"]
def xj8:bY GB jQ (bR uM):=cC
def pF(F:Fun K "_law_row" "_law_row" uM f fd)(T:aT P w K mg base k "_law_take" qB gG)(O:aT P w K mg base k "_law_of" qC (cS K))(V':aT P w K mg base k "_law_variable" qA nX)(G:aT P w K mg base k "_law_target" qA qZ)(MK:aT P w K mg base k "_law_make" qA DC)(FI:aT P w K mg base k "_law_field" qA IG)(CA:aT P w K mg base k "_law_call" qF yE)(R:aT P w K mg base k "_law_rows" jL (wO n))(mr:mg "range"=none)(ml:mg "len"=none)(b0:mg "tuple"=none):
  aR P w K mg base bP (k+1) f fd jQ (KL n):=by
 refine F.ok xj8 (λvs H Q E h=>?_) λbc A outer s H vs Q E hr h=>?_
 .obtain⟨hd,en,wd,A,D,t,r,Z,C,rfl,_⟩:=h;rfl
 obtain⟨hd,en,wd,WA,D,t,r,Z,C,rfl,b9,S,hr0,ht,q⟩:=h;have hu:=dU hr;have av:(["_law_k",qH,qW,"_law_env","_law_level","_law_deep"]:List Str).Nodup:=by rfl'
 exists _,aL (sL 5 xj8.nd<|bB T hr rfl<|aA (pv 0)<|aA aO aE)
  (aL (cI (cA yC (pv 5) aO<|cF _) (aS<|bT<|bB MK hr rfl<|aA (pv 0)<|aA (pv 1)<|aA (pv 2) aE) cZ) (aL (cI (cA eZ (pv 5) aO<|cF _) (aL (sL 6 xj8.nd<|bB V' hr rfl<|aA (pv 0)<|aA (pv 1)<|aA (pv 2) aE)<|aL (sL 7 xj8.nd<|bB G hr rfl<|aA (pv 0)<|aA (pv 1)<|aA (pv 2) aE)<|aL (fF hu (pv 2) (pv 7) (iD hu (pv 2) (pv 6) ⟨rfl,rfl,rfl,rfl⟩) rfl)<|aS<|bT<|bV<|aA bA<|aA (pv 7)<|aA (pv 6) aE) cZ) (aL (cI (cA yC (pv 5) aO<|cF _) (aS<|bT<|bB FI hr rfl<|aA (pv 0)<|aA (pv 1)<|aA (pv 2) aE) cZ) (aL (cI (PW.pt<|kA (cA eZ (pv 5) aO<|cF _)<|lR<|cA (EC<|mS hu) (bQ hu (pv 1) bA λ_ _=>rfl) (cG aE)<|cF _) (aS<|bT<|bV<|aA bA<|aA (bB O hr rfl<|aA (pv 0)<|aA (bQ hu (pv 1) bA λ_ _=>rfl) aE) aE) cZ) (aL (cI (PW.pt<|JY (cA eZ (pv 5) aO<|cF _)<|II<|cA eZ (pv 5) aO<|cF _) (aS<|bT<|bV<|aA bA<|aA (bB O hr rfl<|aA (pv 0)<|aA (bQ hu (pv 1) bA λ_ _=>rfl) aE) aE) cZ) (aL (cI (PW.pt<|kA (cA yC (pv 5) aO<|cF _)<|kA (cA lU (pv 4) aO<|cF _)<|lR<|cA lU (eI (pv 0) aO) aO<|cF _) (aL (oZ (i:=8) (N':=["_law_k",qH,qW,"_law_env","_law_level","_law_deep"]) (src:=[none,some 0,some 1,some 2,some 3,some 4]) rfl xj8.nd rfl rfl eW (wE rfl mr<|aA (bX kO aO<|pv 5) aE) (g:=bW 0) (λ_ _ _ _=>gL 0 av) (λ_ _ _ _=>gP) λ_ _ _ _=>bB R hr rfl<|aA (pv 1)<|aA (pv 2)<|aA (pv 3)<|aA (pv 4)<|aA (bX kO (pv 5) aO)<|aA aO aE)<|aS<|bT<|bX WG (bV<|aA (eI (cG<|aA bA<|aA bA aE)<|bX kO (eP jE rfl ml iJ<|aA (pv 8) aE) aO) aE)<|dV gS rfl b0 (by rfl')<|aA (pv 8) aE) cZ)
  (aS<|bT<|bB CA hr rfl<|aA (pv 0)<|aA (pv 1)<|aA (pv 2)<|aA (pv 3) aE)))))))
 ac_rfl
 have hU:D.U.length=9:=by unfold WD.U;rw[cU,bI,S.ok.v4,S.ok.p4]
 have bb:=S.ok.f3;have am:=S.ok.lateLen;obtain⟨d,m,X⟩:=S.hand;refine⟨_,rfl,hd,d,m,t,r,14,rfl,X,by lia,by decide,by decide,λx d1 m1 u x0 x1 c1 e1=>?_⟩;have L:=S.setHand (r':=r) c1;have f1:FrS (Ms hd en WA) H (upd H hd<|hl d1 m1 u r):=FrS.chg (by trivial);have a6:upd H hd (hl d1 m1 u r) hd=some (hl d1 m1 u r):=zb1;generalize upd H hd (hl d1 m1 u r)=H1 at L f1 a6;exists _,rfl,_,_,rfl,rfl,_,rfl;refine bG (λc=>?_) λc=>?_
 .exact⟨_,rfl,_,rfl,_,rfl,hd,en,wd,WA,D,u,r,rfl,L,by lia,λx H2 t2 p2 b B ai=>q x [x] H2 t2 r (.one (.inl p2) .nil) (by show(1:Int)+_<=_;lia) b (f1.trans B) hr0 (by lia)<|by lia⟩
 have n3:¬x<3:=λz=>c<|fI z;exists _,rfl,rfl,_,rfl;refine bG (λc=>?_) λc=>?_
 .refine⟨_,rfl,_,rfl,_,rfl,hd,en,wd,WA,D,u,r,rfl,L,by lia,λy2 H2 t2 b B ai _=>?_⟩;refine⟨_,rfl,_,rfl,_,rfl,hd,en,wd,WA,D,t2,r,rfl,b,by lia,λx3 H3 Y ao S3 f3 aq _=>?_⟩;obtain⟨kv,a8,hk⟩:=S3.env;exists _,rfl,en,rfl,.inl ⟨_,.inl a8⟩,_,rfl,_,DGet.k (k:=(Sum.inr y2:aG)) a8,_,rfl,_,rfl,en,_,rfl,DPut.k (k:=(Sum.inr x3:aG)) a8<|bH (by have:=hk.len;lia);have S4:=S3.setEnv<|hk.put ao<|hk.get<|Sum.inr y2;have f4:=((f1.trans B).trans f3).put' (a:=en) (o:=.dK<|aN kv (Sum.inr x3)<|(aF kv<|Sum.inr y2).getD .non) (by trivial);refine⟨_,rfl,_,rfl,dM rfl,λJ W=>?_⟩;exact q J [J] _ Y r (.one (.inl ⟨.copy _ _,zb1,λ_ e=>nomatch e⟩) .nil) (by show(1:Int)+_<=_;lia) (S4.fr0<|FrS.new W) (f4.trans<|FrS.new W) hr0 (by lia) (by lia)
 have n4:x≠3:=λz=>c (fI<|by rw[z])
 exists _,rfl,_,_,rfl,rfl,_,rfl;refine bG (λc=>?_) λc=>?_
 .exact⟨_,rfl,_,rfl,_,rfl,hd,en,wd,WA,D,u,r,rfl,L,by lia,λx H2 t2 p2 b B ai=>q x [x] H2 t2 r (.one (.inl p2) .nil) (by show(1:Int)+_<=_;lia) b (f1.trans B) hr0 (by lia)<|by lia⟩
 have n6:¬x<6:=λz=>c<|fI z;have rest:∀(H2:Hp),Sit H2 hd en wd WA D u r->FrS (Ms hd en WA) H H2->H2 hd=some (hl d1 m1 u r)->
   fJ (iA (GO (hY<|dC vQ (aJ 5)<|tC<|.int 6)<|hY<|dC vQ (aJ 5)<|tC<|.int 7) (gO<|dB<|aZ (tC<|.str "say")<|aZ (fN (cS K) [] E0<|aZ (aJ 0)<|aZ (wF (aJ 1)<|tC<|.str "fields") aW) aW) pR)
   (fJ (iA (iT (hY<|dC (hH λi j=>.bl<|decide<|i<j) (aJ 5)<|tC<|.int 10)<|iT (hY<|dC (hH λi j=>.bl<|decide<|j<i) (aJ 4)<|tC<|.int 0)<|hY<|dC (hH λi j=>.bl<|decide<|j<i) (dC (lK K) (aJ 0)<|tC<|.int 3)<|tC<|.int 2) (fJ (fO (DM (mO<|aZ (dC (hH λi j=>.int<|i-j) (tC<|.int 10)<|aJ 5) aW) [none,some 0,some 1,some 2,some 3,some 4] (bW 0) mE<|fN (wO n) [] E0<|aZ (aJ 1)<|aZ (aJ 2)<|aZ (aJ 3)<|aZ (aJ 4)<|aZ (dC (hH λi j=>.int<|i-j) (aJ 5)<|tC<|.int 1)<|aZ (tC<|.int 3) aW)<|bW 8)<|gO<|dC (oY K) (dB<|aZ (dC (lK K) (jU<|aZ (tC<|.str "again")<|aZ (tC<|.str "either") aW)<|dC (hH λi j=>.int<|i-j) (kJ (λxs H Q=>∃p ys,xs=[.ref p]/\(SqL K H p ys\/SqT K H p ys)/\Q (.int ↑ys) H)<|aZ (aJ 8) aW)<|tC<|.int 1) aW)<|kJ (λxs H Q=>∃p ys,xs=[.ref p]/\((SqL K H p ys/\∀l,H l=none->Q (.ref l) (upd H l<|.tup ys))\/(SqT K H p ys/\Q (.ref p) H)))<|aZ (aJ 8) aW) pR)<|gO<|fN yE [] E0<|aZ (aJ 0)<|aZ (aJ 1)<|aZ (aJ 2)<|aZ (aJ 3) aW)
   ⟨λ_ H=>Q .non H,Q,λ_ _=>False,λ_ _=>False⟩ [some<|.ref hd,some<|.ref wd,some<|.ref en,some<|.int Z,some<|.int (C:Int),some<|.int x,none,none,none] H2:=by
  intro H2 b B a7;have say:gO (dB<|aZ (tC<|.str "say")<|aZ (fN (cS K) [] E0<|aZ (aJ 0)<|aZ (wF (aJ 1)<|tC<|.str "fields") aW) aW) ⟨λ_ H=>Q .non H,Q,λ_ _=>False,λ_ _=>False⟩ [some<|.ref hd,some<|.ref wd,some<|.ref en,some<|.int Z,some<|.int (C:Int),some<|.int x,none,none,none] H2:=by
   obtain⟨d,m,X⟩:=b.hand;refine⟨_,rfl,_,rfl,wd,_,rfl,b.w.g.2.2.2.2.2.2.2.1,hd,WA.fields,d,m,u,r,_,rfl,X,by lia,iB b.w.fields.2 X,SqL.of b.w.fields.2,?_,by rw[aK];lia,λx d3 m3 Y hx c3 e3=>?_⟩
   .intro z;have:=cK List.length z;rw[aK,kW]at this;lia
   obtain⟨x,a4,rfl⟩:=wn7.mp hx;refine⟨dM rfl,λJ W=>?_⟩;exact q J [J] _ Y r (.one (.inl ⟨.say _,zb1,λ_ e=>nomatch e⟩) .nil) (by show(1:Int)+_<=_;lia) ((b.setHand c3).fr0<|FrS.new W) ((B.put'<|by trivial).trans<|FrS.new W) hr0 (by lia) (by lia)
  have ac:gO (fN yE [] E0<|aZ (aJ 0)<|aZ (aJ 1)<|aZ (aJ 2)<|aZ (aJ 3) aW) ⟨λ_ H=>Q .non H,Q,λ_ _=>False,λ_ _=>False⟩ [some<|.ref hd,some<|.ref wd,some<|.ref en,some<|.int Z,some<|.int (C:Int),some<|.int x,none,none,none] H2:=
   ⟨_,rfl,_,rfl,_,rfl,_,rfl,hd,en,wd,WA,D,u,r,Z,rfl,b,by lia,λx H3 Y p3 S3 f3 aq=>q x [x] H3 Y r (.one p3 .nil) (by show(1:Int)+_<=_;lia) S3 (B.trans f3) hr0 (by lia)<|by lia⟩
  exists _,rfl,rfl,_,rfl;refine bG (λc=>?_) λc=>?_
  .exact say
  have b6:x≠6:=λz=>c (fI<|by rw[z])
  exists _,rfl,rfl,_,rfl;refine bG (λc=>?_) λc=>?_
  .exact say
  have ba:x≠7:=λz=>c (fI<|by rw[z])
  exists _,rfl,_,_,rfl,rfl,_,rfl;refine bG (λc=>?_) λc=>ac;have be:x<10:=cN c;exists _,rfl,_,_,rfl,rfl,_,rfl;refine bG (λc=>?_) λc=>ac;have b7:(0:Int)<(C:Int):=cN c;exists _,rfl,hd,_,_,_,rfl,rfl,SqL.of a7,BB,_,_,rfl,rfl,_,rfl;refine bG (λc=>?_) λc=>ac;have nr:(2:Int)<r:=cN c;obtain⟨n',rfl⟩:∃n',n=n'+1:=⟨n-1,by lia⟩;refine⟨_,rfl,_,_,rfl,rfl,_,rfl,by lia,by lia,λN a3=>?_⟩;have b2:N∉Ms hd en WA:=b.notin a3;refine LK (lo:=0) (n:=(10-x).toNat) (λi σ M=>∃(kx:Option V)(tx I:Int)(ls fs:List Addr),σ=[kx,some<|.ref hd,some<|.ref wd,some<|.ref en,some<|.int Z,some<|.int (C:Int)]/\Sit M hd en wd WA D tx I/\FrS (Ms hd en WA) H2 M/\0<=I/\I<=r/\tx+25*I<=u+25*r+i/\M N=some (.lst<|ls.map V.ref)/\↑ls=i/\Lots (eO D) M n' ls fs/\(↑fs:Int)+I<=r)
   ⟨_,u,r,[],[],rfl,b.fr0<|FrS.new a3,FrS.new a3,hr0,by lia,by lia,zb1,rfl,.nil,by show(0:Int)+r<=r;lia⟩ ?_ ?_
  .rintro i σ M hi ⟨kx,tx,I,ls,fs,rfl,Sx,fx,ab,aj,a4,a2,au,af,ap⟩;refine⟨_,rfl,_,rfl,_,rfl,_,rfl,_,rfl,_,_,rfl,rfl,hd,en,wd,WA,D,tx,I,Z,3,C-1,?_,by lia,by decide,by decide,Sx,ab,by lia,λv bd aw Hy ty ry b1 ar bf Sy fy b4 b5 b8=>?_⟩
   .have:((C-1:Nat):Int)=(C:Int)-1:=by lia
    rw[this];rfl
   .have al:=fy _ _ b2 a2;have S7:=Sit.own (o:=.lst<|ls.map V.ref++[V.ref v]) b Sy (fx.trans fy) a3;have a9:Tup Hy (upd Hy N<|.lst<|ls.map V.ref++[V.ref v]):=Tup.lst al;exact⟨_,al,bH (by rw[aK];lia),_,ty,ry,ls++[v],fs++aw,rfl,S7.1,S7.2,b4,by lia,by lia,by rw[zb1,bO];rfl,by rw[bI,dR];lia,(af.keep<|(Sx.tup fy).trans a9).snoc (a9 _ _ b1)<|ar.keep a9,by rw[bI];lia⟩
  .rintro σ M ⟨kx,tx,I,ls,fs,rfl,Sx,fx,ab,aj,a4,a2,au,af,ap⟩;have hj:↑ls=1\/↑ls=2:=by lia
   refine⟨dM rfl,λpl ah=>?_⟩;have ak:N≠pl:=aP a2 ah;have b3:∃v:Str,eE [V.str "again",V.str "either"] (((↑(ls.map V.ref):Nat):Int)-1)=some (.str v)/\(↑ls=1/\v="again"\/↑ls=2/\v="either"):=by
    rw[aK];rcases hj with h | h
    .exact⟨"again",by rw[h];rfl,.inl ⟨h,rfl⟩⟩
    .exact⟨"either",by rw[h];rfl,.inr ⟨h,rfl⟩⟩
   obtain⟨v,hv,ay⟩:=b3;refine⟨_,rfl,N,_,rfl,.inl (SqL.of<|by rw[aC ak];exact a2),_,_,rfl,rfl,pl,_,_,_,rfl,rfl,SqL.of zb1,hv,dM rfl,λpt ag=>?_⟩;have a1:upd M pl (.lst [V.str "again",V.str "either"]) N=some (.lst<|ls.map V.ref):=by rw[aC ak];exact a2
   have as:N≠pt:=aP a1 ag;refine⟨_,rfl,N,_,rfl,.inl ⟨SqL.of (by rw[aC as];exact a1),λpu aa=>?_⟩⟩;have ax:pt≠pu:=λz=>by rw[<-z,zb1]at aa;cases aa
   refine⟨pt,pu,[.str v],ls.map V.ref,rfl,rfl,SqT.of (by rw[aC ax];exact zb1),SqT.of zb1,by simp,by rw[aK];show 1+↑ls<=sizeLine;exact cL (bH<|by lia),λz=>?_,λ_ pz an=>?_⟩
   .have:=cK List.length z;rw[aK,kW]at this;lia
   .have ff:FrS [] M _:=(((FrS.new (S:=[]) ah).trans<|FrS.new ag).trans<|FrS.new aa).trans<|FrS.new (o:=.tup<|[V.str v]++ls.map V.ref) an;exact q pz (pz::fs) _ tx I ((af.keep<|Tup.of0 ff).row zb1 ay) (by rw[cU];lia) (Sx.fr0 ff) (B.trans<|fx.trans<|ff.mono<|by trivial) ab aj (by lia)
 exists _,rfl,rfl,_,rfl;refine bG (λc=>?_) λc=>rest H1 L f1 a6;refine⟨_,rfl,wd,_,rfl,L.w.g.2.1,bM _,λpe a5=>?_⟩;have b:=L.fr0<|FrS.new (S:=[]) (o:=.lst []) a5;have az:WA.late≠pe:=aP L.w.late.2 a5;exists WA.late,pe,_,rfl,rfl,az,SqL.of b.w.late.2,SqL.of zb1,_,rfl;have B:FrS (Ms hd en WA) H (upd H1 pe<|.lst []):=f1.trans<|FrS.new a5;have a7:upd H1 pe (.lst []) hd=some (hl d1 m1 u r):=by rw[aC<|aP a6 a5];exact a6
 generalize upd H1 pe (.lst [])=H2 at b B a7;cases hla:D.late with
 | nil=>exact rest H2 b B a7
 | cons y ys=>
  have ae:=b.w.late.2;rw[hla]at ae;have ad:=am;rw[hla]at ad;obtain⟨d,m,X⟩:=b.hand;refine⟨_,rfl,_,rfl,wd,_,rfl,b.w.g.2.1,hd,WA.late,d,m,u,r,_,rfl,X,by lia,iB ae X,SqL.of ae,by simp,by rw[aK];lia,λx d3 m3 Y hx c3 e3=>?_⟩;obtain⟨x,a4,rfl⟩:=wn7.mp hx;refine⟨dM rfl,λJ W=>?_⟩;exact q J [J] _ Y r (.one (.inl ⟨.bring _,zb1,λ_ e=>by cases e;exact S.ok.lnm _<|by rw[hla];exact a4⟩) .nil) (by show(1:Int)+_<=_;lia) ((b.setHand c3).fr0<|FrS.new W) ((B.put'<|by trivial).trans<|FrS.new W) hr0 (by lia) (by lia)
abbrev yV:List Str:=[qH,qW,"_law_env","_law_level","_law_deep","_law_most","_law_rows_here","_law_k"]
def yt8:bY yV jL (bR DX):=cC
def MW(F:Fun K "_law_rows" "_law_rows" DX f fd)(T:aT P w K mg base k "_law_take" qB gG)(R:aT P w K mg base k "_law_row" jQ (KL n))(mr:mg "range"=none)(ad:mg "tuple"=none):
  aR P w K mg base bP (k+1) f fd jL (tS n):=by
 refine F.ok yt8 (λvs H Q E h=>?_) λai A outer s H vs Q E hr h=>?_
 .obtain⟨hd,en,wd,A,D,t,r,Y,mo,W,rfl,_⟩:=h;rfl
 obtain⟨hd,en,wd,WA,D,t,r,Y,mo,W,rfl,ac,aj,ah,S,hr0,ht,q⟩:=h;have hu:=dU hr;exists _,aL (sL 6 yt8.nd<|cG aE)
  (aL (dX dO rfl (wE rfl mr<|aA (bB T hr rfl<|aA (pv 0)<|aA (bX iX (pv 5) aO) aE) aE) (gL 7 yt8.nd)<|aS<|cI (cA lU (eI (pv 0) aO) aO<|cF _) (aL (iM (bX kO (eI (pv 0) aO) aO)<|uT (pv 0) aO sC)<|aS<|dW<|eN eA eX eY eR (pv 6)<|aA (bB R hr rfl<|aA (pv 0)<|aA (pv 1)<|aA (pv 2)<|aA (pv 3)<|aA (pv 4) aE) aE) cZ)<|aS<|bT<|dV gS rfl ad (by rfl')<|aA (pv 6) aE)
 ac_rfl
 refine⟨bM _,λe C=>?_⟩;have S1:=S.fr0<|FrS.new (S:=[]) (o:=.lst []) C;have aa:e∉Ms hd en WA:=S.notin C;obtain⟨d,m,hh⟩:=S1.hand;refine⟨_,rfl,_,rfl,_,_,rfl,rfl,hd,d,m,t,r,_,rfl,hh,by lia,by lia,by lia,λx d1 m1 t1 x0 x1 c1 e1=>?_⟩;have S2:=S1.setHand (r':=r) c1;have ab:e≠hd:=λz=>aa (by rw[z];simp)
 refine⟨_,rfl,by lia,by lia,?_⟩;refine EM (lo:=0) (n:=x.toNat) (λi σ j=>∃(O:Option V)(tx b:Int)(rs fs:List Addr),σ=[some<|.ref hd,some<|.ref wd,some<|.ref en,some<|.int Y,some<|.int (W:Int),some<|.int mo,some<|.ref e,O]/\Sit j hd en wd WA D tx b/\FrS (Ms hd en WA) H j/\0<=b/\b<=r/\tx+25*b<=t+25*r+1/\j e=some (.lst<|rs.map V.ref)/\↑rs<=i/\Fl (eO D) j n rs fs/\(↑fs:Int)+b<=r)
  ⟨_,t1,r,[],[],rfl,S2,((FrS.new C).put'<|by trivial),hr0,by lia,by lia,by rw[aC ab];exact zb1,by simp,.nil,by show(0:Int)+r<=r;lia⟩ ?_ ?_
 .rintro i σ j hi ⟨O,tx,b,rs,fs,rfl,u,B,J,a3,L,G,af,I,N⟩;obtain⟨d,m,Z,ok⟩:=u.hand;exists _,rfl,hd,_,_,_,rfl,rfl,SqL.of Z,BB,_,_,rfl,rfl,_,rfl;refine bG (λc=>?_) λc=>?_
  .have c':0<b:=cN c;exists _,rfl,hd,_,_,_,rfl,rfl,SqL.of Z,BB,_,_,rfl,rfl;exists _,rfl,hd,_,3,3,rfl,rfl,Z,rfl;have S3:=u.setHand (r':=b-1) ok;have f3:=B.put' (a:=hd) (o:=hl d m tx<|b-1) (by trivial);have a8:upd j hd (hl d m tx<|b-1) e=some (.lst<|rs.map V.ref):=by rw[aC ab];exact G
   refine⟨_,rfl,.inl ⟨rfl,_,SqL.of a8⟩,_,rfl,_,rfl,_,rfl,_,rfl,_,rfl,hd,en,wd,WA,D,tx,b-1,Y,W,rfl,ac,S3,by lia,by lia,λv fv M t4 r4 ae ak S4 X h0 h1 h2=>?_⟩;have a9:=X _ _ aa a8;have S7:=Sit.own (o:=.lst<|rs.map V.ref++[V.ref v]) S S4 (f3.trans X) C;have a7:Tup M (upd M e<|.lst<|rs.map V.ref++[V.ref v]):=Tup.lst a9;have ag:Tup j M:=(u.tup<|FrS.chg<|.head _).trans<|S3.tup X;exact⟨e,_,_,rfl,rfl,a9,bH (by rw[aK];lia),_,t4,r4,rs++[v],fs++fv,rfl,S7.1,S7.2,h0,by lia,by lia,by rw[zb1,bO];rfl,by rw[bI,dR];lia,(I.keep<|ag.trans a7).app<|ae.keep a7,by rw[bI];lia⟩
  .exact⟨_,tx,b,rs,fs,rfl,u,B,J,a3,L,G,by lia,I,N⟩
 .rintro σ j ⟨O,tx,b,rs,fs,rfl,u,B,J,a3,L,G,af,I,N⟩;refine⟨_,rfl,e,_,rfl,.inl ⟨SqL.of G,λl hl=>?_⟩⟩;exact q l rs fs _ tx b zb1 (I.keep<|Tup.new hl) N (u.fr0<|FrS.new hl) (B.trans<|FrS.new hl) J a3 L
abbrev M0(hd:Addr)(A:WA):List Addr:=[hd,A.told,A.held]
structure Sit0(H:Hp)(hd wd:Addr)(A:WA)(D:WD)(t r:Int):Prop where
 hand:∃d m,Hand H hd d m t r
 told:∃kv,H A.told=some (.dK kv)/\DOk D.deeds D.names kv
 held:∃kv,H A.held=some (.dK kv)/\DOk D.fields D.names kv
 w:Wld (M0 hd A) H wd A D
 nd:(M0 hd A).Nodup
 ok:xO D
section
variable{H H':Hp}{hd en wd:Addr}{A:WA}{D:WD}{t r t' r':Int}
def Sit0.have_(S:Sit0 H hd wd A D t r):∀b∈M0 hd A,∃o,H b=some o:=by
 obtain⟨⟨d,m,h1,j⟩,⟨n,e,h⟩,⟨l,f,q⟩,w,nd,i⟩:=S;intro b a;simp only[M0,wm9,aX,cY]at a;rcases a with rfl | rfl | rfl
 .exact⟨_,h1⟩
 .exact⟨_,e⟩
 .exact⟨_,f⟩
def Sit0.notin(S:Sit0 H hd wd A D t r)(hp:H p=none):p∉M0 hd A:=λz=>by
 obtain⟨o,a⟩:=S.have_ p z;rw[hp]at a;cases a
def Sit0.ne(S:Sit0 H hd wd A D t r):hd≠A.told/\hd≠A.held/\A.told≠A.held:=by
 have:=S.nd;simp only[M0,wq7,wm9,aX,cY,fG]at this;exact⟨this.1.1,this.1.2,this.2.1⟩
def Sit0.fr0(S:Sit0 H hd wd A D t r)(f:FrS [] H H'):Sit0 H' hd wd A D t r:=by
 obtain⟨⟨d,m,h1,a⟩,⟨j,b,e⟩,⟨h,i,l⟩,w,nd,ok⟩:=S;exact⟨⟨d,m,f _ _ (by trivial) h1,a⟩,⟨j,f _ _ (by trivial) b,e⟩,⟨h,f _ _ (by trivial) i,l⟩,w.keep (f.mono<|by trivial),nd,ok⟩
def Sit0.setHand(S:Sit0 H hd wd A D t r)(ok:nM d' m' t'):Sit0 (upd H hd<|hl d' m' t' r') hd wd A D t' r':=by
 obtain⟨f,i,o⟩:=S.ne;obtain⟨⟨d,m,h1⟩,⟨l,b,a⟩,⟨h,j,n⟩,w,nd,e⟩:=S;exact⟨⟨d',m',Hand.at ok⟩,⟨l,by rw[aC f.symm];exact b,a⟩,⟨h,by rw[aC i.symm];exact j,n⟩,w.keep (FrS.chg<|by trivial),nd,e⟩
def Sit0.own(S:Sit0 H hd wd A D t r)(q:Sit0 H6 hd wd A D t6 r6)(f:FrS (M0 hd A) H H6)(a:H pa=none):Sit0 (upd H6 pa o) hd wd A D t6 r6/\FrS (M0 hd A) H (upd H6 pa o):=by
 have B:pa∉M0 hd A:=S.notin a;have u:∀b∈M0 hd A,upd H6 pa o b=H6 b:=λb h=>aC (λz=>B<|by rw[<-z];exact h)
 have fr:FrS (M0 hd A) H (upd H6 pa o):=f.put a;obtain⟨⟨d,m,h1,n⟩,⟨l,s,i⟩,⟨x,j,e⟩,w,nd,ok⟩:=q;exact⟨⟨⟨d,m,(u _<|by trivial).trans h1,n⟩,⟨l,(u _<|by trivial).trans s,i⟩,⟨x,(u _<|by trivial).trans j,e⟩,S.w.keep fr,nd,ok⟩,fr⟩
def Sit0.open(S:Sit0 H hd wd A D t r)(he:H en=none)(j:DOk D.U D.names kv):Sit (upd H en<|.dK kv) hd en wd A D t r:=by
 have b:=S.notin he;obtain⟨e,i,f⟩:=S.ne;have fr:FrS [] H (upd H en<|.dK kv):=FrS.new he;have d:=S.fr0 fr;refine⟨d.hand,⟨kv,zb1,j⟩,d.told,d.held,S.w.map λa o h=>⟨λz=>?_,fr _ _ (by trivial) h.2⟩,?_,S.ok⟩
 .simp only[Ms,wm9,aX,cY]at z;rcases z with z | z | z | z
  .exact h.1 (by rw[z];simp)
  .exact aP h.2 he z
  .exact h.1 (by rw[z];simp)
  .exact h.1 (by rw[z];simp)
 .simp only[M0,wm9,aX,cY,fG]at b;simp only[Ms,wq7,wm9,aX,cY,fG];exact⟨⟨bL b.1,e,i⟩,⟨b.2.1,b.2.2⟩,f,not_false,kQ⟩
def Sit.close(S:Sit H hd en wd A D t r):Sit0 H hd wd A D t r:=by
 obtain⟨i,b,e,f,j,d⟩:=S.ne;refine⟨S.hand,S.told,S.held,S.w.map λa o h=>h.sub (by simp +contextual),?_,S.ok⟩;simp only[M0,wq7,wm9,aX,cY,fG];exact⟨⟨b,e⟩,d,not_false,kQ⟩
def FrS.close(he:H en=none)(f:FrS (Ms hd en A) (upd H en o) H1):FrS (M0 hd A) H H1:=λb u n e=>by
 have a:b≠en:=aP e he;refine f b u (λz=>?_) (by rw[aC a];exact e);simp only[Ms,wm9,aX,cY]at z;rcases z with z | z | z | z
 .exact n (by rw[z];simp)
 .exact a z
 .exact n (by rw[z];simp)
 .exact n (by rw[z];simp)
theorem DOk.merge:∀(more:List (aG×V)){kvs:List (aG×V)},DOk U N kvs->(∀b∈more,∃x∈U,b.1=Sum.inr x/\(b.2=.non\/∃n∈N,b.2=.str n))->DOk U N (cJ kvs more)
 | [],kvs,h,_=>h
 | a::l,kvs,h,hm=>by
  obtain⟨x,f,e,i⟩:=hm a<|uC ..;show DOk U N<|cJ (aN kvs a.1 a.2) l;refine DOk.merge l ?_ λb d=>hm b<|hC _ d;rw[e];exact h.put f i
end
theorem Sit0.tup{A:WA}(S:Sit0 H hd wd A D t r)(f:FrS (M0 hd A) H H'):Tup H H':=by
 obtain⟨⟨d,m,h1,l⟩,⟨n,h,i⟩,⟨o,e,q⟩,w,nd,j⟩:=S;refine FrS.tup f λb a xs=>?_;simp only[M0,wm9,aX,cY]at a;rcases a with rfl | rfl | rfl
 .rw[h1];intro z;cases z
 .rw[h];intro z;cases z
 .rw[e];intro z;cases z
abbrev HG:Stmt:=top 65
inductive QJ(vs:List V)(H:Hp)(Q:VK):Prop
 | mk(hd wd:Addr)(A:WA)(D:WD)(t r:Int)(kd:Str)(lv:Nat)(h1:vs=[.ref hd,.ref wd,.str kd,.int (lv:Int)])(h2:kd∈D.names)(h3:lv<D.deeds.length)(h4:Sit0 H hd wd A D t r)(h5:0<=r)(h6:t+25*r+20<1000000)(h7:∀(x:Addr)(dn:Str)(pv gv:V)(l:Addr)(rs fs:List Addr)(H':Hp)(t' r':Int),D.deeds[lv]?=some dn->H' x=some (.tup [.str dn,pv,.ref l,gv])->DpG H' pv gv->H' l=some (.tup<|rs.map V.ref)->Fl (eO D) H' 4 rs fs->(↑fs:Int)+r'<=r->Sit0 H' hd wd A D t' r'->FrS (M0 hd A) H H'->0<=r'->r'<=r->t'+25*r'<=t+25*r+15->Q (.ref x) H'):QJ  vs H Q
def CK:Sp:=λvs H Q _=>QJ  vs H Q
abbrev zR:List Str:=[qH,qW,"_law_kind","_law_level","_law_deed_here","_law_pool","_law_wanted","_law_params","_law_env","_law_rows_here","_law_gives"]
abbrev CT:List Str:=[qH,qW,"_law_kind","_law_level"]
def zt7:bY zR CT (bR HG):=cC
def UW(F:Fun K "_law_deed" "_law_deed" HG f fd)(T:aT P w K mg base k "_law_take" qB gG)(O:aT P w K mg base k "_law_of" qC (cS K))(V':aT P w K mg base k "_law_variable" qA nX)(R:aT P w K mg base k "_law_rows" jL (tS 4))(ml:mg "len"=none)(bu:mg "list"=none)(mz:mg "zip"=none)(bg:mg "dict"=none)(c0:mg "tuple"=none):
  aR P w K mg base bP (k+1) f fd CT CK:=by
 refine F.ok zt7 (λvs H Q E h=>?_) λcn A outer s H vs Q E hr h=>?_
 .obtain⟨hd,wd,A,D,t,r,kd,N,rfl,_⟩:=h;rfl
 obtain⟨hd,wd,WA,D,t,r,kd,N,rfl,b9,ae,S,hr0,ht,q⟩:=h;have B:=dU hr;have bq:(["_law_want","_law_pool",qH]:List Str).Nodup:=by rfl'
 exists _,aL (sL 4 zt7.nd<|eI (bQ B (pv 1) bA λ_ _=>rfl)<|pv 3)
  (aL (gZ (i:=5) zt7.nd rfl (Or.inr rfl)<|bX vN (bQ B (pv 1) bA λ_ _=>rfl)<|kE wD (bQ B (pv 1) bA λ_ _=>rfl) kH<|jX aO) (aL (sL 6 zt7.nd<|bQ B (bQ B (pv 1) bA λ_ _=>rfl) (bV<|aA (bQ B (bQ B (pv 1) bA λ_ _=>rfl) (pv 2) λ_ _=>rfl)<|aA (pv 4) aE) λ_ _=>rfl) (aL (oZ (i:=7) (N':=["_law_want","_law_pool",qH]) (src:=[none,some 5,some 0]) rfl zt7.nd rfl rfl eW (gU<|pv 6) (g:=bW 0) (λ_ _ _ _=>gL 0 bq) (λ_ _ _ _=>gP) (te:=wK K "list" RP (aJ 1)<|aZ (fN gG [] E0<|aZ (aJ 2)<|aZ (kJ (λxs H Q=>∃p ys,xs=[.ref p]/\(SqL K H p ys\/SqT K H p ys)/\Q (.int ↑ys) H)<|aZ (aJ 1) aW) aW) aW) λ_ _ _ _=>eN eA PySem.F.slot_list_pop PySem.F.type_list_pop Bb (pv 1)<|aA (bB T hr rfl<|aA (pv 2)<|aA (eP jE rfl ml iJ<|aA (pv 1) aE) aE) aE) (aL (sL 8 zt7.nd<|dV (AY rfl) rfl bg (by rfl')<|aA (bX vN (cG<|aA (bV<|aA bA<|aA (pv 2) aE) aE)<|UF rfl rfl bu rfl mz<|aA (pv 7)<|aA (pv 6) aE) aE)
  (aL (sL 9 zt7.nd<|bB R hr rfl<|aA (pv 0)<|aA (pv 1)<|aA (pv 8)<|aA (pv 3)<|aA (bB T hr rfl<|aA (pv 0)<|aA aO aE)<|aA (bB O hr rfl<|aA (pv 0)<|aA (cG<|aA aO<|aA aO<|aA aO<|aA aO<|aA aO aE) aE) aE)<|aL (sL 10 zt7.nd<|bB O hr rfl<|aA (pv 0)<|aA (cG<|aA iH<|aA (bB V' hr rfl<|aA (pv 0)<|aA (pv 1)<|aA (pv 8) aE)<|aA (bB V' hr rfl<|aA (pv 0)<|aA (pv 1)<|aA (pv 8) aE) aE) aE)<|aL (fF B (bQ B (pv 1) bA λ_ _=>rfl) (pv 4) (UN B (pv 8) (pv 10) ⟨rfl,rfl,rfl,rfl⟩) rfl)<|aS<|bT<|bV<|aA (pv 4)<|aA (dV gS rfl c0 (by rfl')<|aA (pv 7) aE)<|aA (pv 9)<|aA (pv 10) aE)))))
 ac_rfl
 have h6:=S.ok.d6;have hU:D.U.length=9:=by unfold WD.U;rw[cU,bI,S.ok.v4,S.ok.p4]
 have am:D.deeds[N]∈D.deeds:=iK ae;have ch:eE (D.deeds.map V.str) (N:Int)=some (.str D.deeds[N]):=lQ (by rw[bN,bD ae];rfl);exists _,rfl,wd,_,rfl,S.w.g.2.2.1,_,rfl,WA.deeds,_,_,_,rfl,rfl,SqL.of S.w.deeds.2,ch;have b5:D.deeds[N]?=some D.deeds[N]:=bD ae;generalize D.deeds[N]=dn at am b5;refine⟨_,rfl,wd,_,rfl,S.w.g.2.2.2.2.2.2.1,_,rfl,wd,_,rfl,S.w.g.2.2.2.2.2.1,_,rfl,WA.vars,_,rfl,SqL.of S.w.vars.2,λaj b2=>?_⟩;obtain⟨ds,ed,bv,bl⟩:=NI D.vars none<|some 2;rw[ed];rw[S.ok.v4]at bv;have S1:=S.fr0<|FrS.new (S:=[]) (o:=.lst<|ds.map V.str) b2;have f1:FrS (M0 hd WA) H (upd H aj<|.lst<|ds.map V.str):=FrS.new b2;refine⟨WA.params,aj,_,_,rfl,rfl,S1.w.params.2,zb1,by rw[aK,aK,S.ok.p4];exact cL (bH<|by lia),λu ac=>?_⟩;generalize upd H aj (.lst<|ds.map V.str)=H1 at S1 f1 ac;rw[<-bO];have S2:=S1.fr0<|FrS.new (S:=[]) (o:=.lst<|(D.params++ds).map V.str) ac;have f2:FrS (M0 hd WA) H1 (upd H1 u<|.lst<|(D.params++ds).map V.str):=FrS.new ac;have a4:upd H1 u (.lst<|(D.params++ds).map V.str) u=some (.lst<|(D.params++ds).map V.str):=zb1;generalize upd H1 u (.lst<|(D.params++ds).map V.str)=H2 at S2 f2 a4;have ao:↑(D.params++ds)=4+↑ds:=by rw[bI,S.ok.p4]
 have ab:∀x∈D.params++ds,x∈D.U:=λx X=>by
  unfold WD.U;rcases wp5.mp X with h | h
  .simp[h]
  .simp[bl x h]
 generalize D.params++ds=ps at a4 ao ab;obtain⟨rt,wp,ws,e1,e2,e3,e4,e5⟩:=S.w.wl kd b9 dn am;refine⟨_,rfl,wd,_,rfl,S2.w.g.2.2.2.1,_,rfl,wd,_,rfl,S2.w.g.2.2.2.2.2.2.2.2.2.2,_,rfl,WA.roots,_,rfl,.inl ⟨_,Sum.inr kd,.inl S2.w.roots.2,rfl,e1.symm⟩,_,rfl,dM rfl,λpk av=>?_⟩;have S3:=S2.fr0<|FrS.new (S:=[]) (o:=.tup [V.str rt,V.str dn]) av;have f3:FrS (M0 hd WA) H1 (upd H2 pk<|.tup [V.str rt,V.str dn]):=f2.trans<|FrS.new av;have a5:upd H2 pk (.tup [V.str rt,V.str dn]) u=some (.lst<|ps.map V.str):=by rw[aC<|aP a4 av];exact a4
 exists WA.wants,.ref wp,rfl,.inr ⟨_,[Sum.inr rt,Sum.inr dn],pk,.inl S3.w.wants.2,rfl,zb1,e2.symm⟩;generalize upd H2 pk (.tup [V.str rt,V.str dn])=H3 at S3 f3 a5;have w3:=e3.keep<|f1.trans f3;have ax:u∉M0 hd WA:=S1.notin ac;refine⟨_,rfl,wp,rfl,⟨_,SqL.of w3.2⟩,λC a9=>?_⟩;have ad:C∉M0 hd WA:=S3.notin a9;have bh:H1 C=none:=f3.old S3.have_ a9;have ap:u≠C:=aP a5 a9;refine wI (xs:=ws.map V.str) (λi σ G=>∃(kx:Option V)(tx:Int)(l qs:List Str),σ=[kx,some<|.ref u,some<|.ref hd]/\Sit0 G hd wd WA D tx r/\FrS (M0 hd WA) H1 G/\tx<=t+i/\G u=some (.lst<|l.map V.str)/\↑l+i=↑ps/\(∀x∈l,x∈D.U)/\G C=some (.lst<|qs.map V.str)/\↑qs=i/\∀x∈qs,x∈D.U)
  ⟨_,t,ps,[],rfl,S3.fr0<|FrS.new a9,f3.trans<|FrS.new a9,by lia,by rw[aC ap];exact a5,by lia,ab,zb1,rfl,by simp⟩ ?_ ?_ ?_
 .rintro i σ G hi ⟨_,_,_,_,_,_,fx,_⟩;exact SqL.of (e3.keep<|f1.trans fx).2
 .rintro i x σ G X ⟨kx,tx,l,qs,rfl,Sx,fx,cj,an,bi,bc,c8,ag,as⟩;obtain⟨hi,_⟩:=zz2.mp X;rw[aK]at hi;obtain⟨d,m,W⟩:=Sx.hand;have bw:u≠hd:=λz=>ax (by rw[z];simp)
  refine⟨_,rfl,.inl ⟨rfl,_,SqL.of an⟩,_,rfl,_,rfl,u,_,rfl,.inl<|SqL.of an,hd,d,m,tx,r,_,rfl,W,by lia,by rw[aK];lia,by rw[aK];lia,λy d' m' ty y0 y1 c e=>?_⟩;rw[aK]at y1;have Sy:=Sx.setHand (r':=r) c;have fy:=fx.put' (a:=hd) (o:=hl d' m' ty r) (by trivial);have bf:upd G hd (hl d' m' ty r) u=some (.lst<|l.map V.str):=by rw[aC bw];exact an
  have bd:upd G hd (hl d' m' ty r) C=some (.lst<|qs.map V.str):=by rw[aC λz=>ad<|by rw[z];simp];exact c8
  generalize upd G hd (hl d' m' ty r)=Hy at Sy fy bf bd;have aw:y.toNat<↑l:=by lia
  have ce:seqIndex? y ↑(l.map V.str)=some y.toNat:=by
   unfold seqIndex?;rw[aK];have g1:¬y<0:=by lia
   simp only[g1,iW];rw[bC<|by simp;lia]
  refine⟨u,_,y,y.toNat,.str l[y.toNat],rfl,rfl,bf,by lia,by lia,ce,by rw[bN,bD aw];rfl,?_⟩;have bz:(l.map V.str).eraseIdx y.toNat=(l.eraseIdx y.toNat).map V.str:=by rw[List.eraseIdx_eq_take_drop_succ,List.eraseIdx_eq_take_drop_succ,bO,vP,BD]
  rw[bz];have S7:=Sit0.own (o:=.lst<|(l.eraseIdx y.toNat).map V.str) S1 Sy fy ac;have c2:upd Hy u (.lst<|(l.eraseIdx y.toNat).map V.str) C=some (.lst<|qs.map V.str):=by rw[aC ap.symm];exact bd
  have S8:=Sit0.own (o:=.lst<|qs.map V.str++[V.str l[y.toNat]]) S1 S7.1 S7.2 bh;refine⟨_,c2,by rw[aK];exact bH (by lia),_,ty,l.eraseIdx y.toNat,qs++[l[y.toNat]],rfl,S8.1,S8.2,by lia,by rw[aC ap];exact zb1,?_,λx X=>bc x<|List.mem_of_mem_eraseIdx X,by rw[zb1,bO];rfl,by rw[bI,ag];rfl,λx X=>?_⟩
  .rw[List.length_eraseIdx_of_lt aw];lia
  .rcases wp5.mp X with h | h
   .exact as x h
   .rw[wn1.mp h];exact bc _<|iK aw
 rintro σ L ⟨kx,t4,l,qs,rfl,S4,f4,bp,ck,_,_,ar,ag,as⟩;rw[aK]at bp ag;have b3:FrS (M0 hd WA) H L:=f1.trans f4;have w4:=e3.keep b3;refine⟨_,rfl,dM rfl,λpt bo=>⟨dM rfl,λpo b1=>?_⟩⟩;have f5:FrS [] L (upd (upd L pt<|.tup [V.str "own",V.str kd]) po<|.lst [V.ref pt]):=(FrS.new bo).trans<|FrS.new b1;have aa:upd (upd L pt<|.tup [V.str "own",V.str kd]) po (.lst [V.ref pt]) po=some (.lst [V.ref pt]):=zb1;have a6:upd (upd L pt<|.tup [V.str "own",V.str kd]) po (.lst [V.ref pt]) pt=some (.tup [V.str "own",V.str kd]):=by rw[aC<|aP (o:=.tup [V.str "own",V.str kd]) zb1 b1];exact zb1
 generalize upd (upd L pt<|.tup [V.str "own",V.str kd]) po (.lst [V.ref pt])=H5 at f5 aa a6;refine⟨_,rfl,_,rfl,C,wp,qs.map V.str,ws.map V.str,rfl,SqL.of<|f5 _ _ (by trivial) ar,SqL.of<|f5 _ _ (by trivial) w4.2,by rw[aK,aK];exact ag,λzl ts H6 fz co cf bj ci=>?_⟩;have f6:FrS [] L H6:=f5.trans λb o _ e=>fz b o e;rw[aK]at bj;refine⟨po,zl,_,_,rfl,rfl,fz _ _ aa,cf,by rw[aK];show 1+↑ts<=sizeLine;exact cL (bH<|by lia),λpc au=>?_⟩;have f7:FrS [] L (upd H6 pc<|.lst<|[V.ref pt]++ts.map V.ref):=f6.trans<|FrS.new au;have S7:=S4.fr0 f7;refine⟨pc,pt::ts,(Sum.inr "own",.str kd)::(qs.zip ws).map (λp=>((Sum.inr p.1:aG),V.str p.2)),rfl,SqL.of zb1,?_,?_,λj t' kv b8 a8=>?_,λen ak=>?_⟩
 .rw[cU,cU,aK,List.length_zip];lia
 .rw[cU,aK,List.length_zip];exact bH (by lia)
 .cases j with
  | zero=>
   have a1:pt=t':=by simpa using b8
   have a2:((Sum.inr "own":aG),V.str kd)=kv:=by simpa using a8
   subst a1 a2;exact SqT.of (by rw[aC<|aP (fz _ _ a6) au];exact fz _ _ a6)
  | succ j=>
   have a1:ts[j]?=some t':=by simpa using b8
   have a2:((qs.zip ws).map λp=>((Sum.inr p.1:aG),V.str p.2))[j]?=some kv:=by simpa using a8
   obtain⟨x,y,g1,g2,g3⟩:=ci j t' a1;rw[bN]at g1 g2 a2;obtain⟨x',bx,rfl⟩:=wp4.mp g1;obtain⟨y',ca,rfl⟩:=wp4.mp g2;obtain⟨p,hp,rfl⟩:=wp4.mp a2;rw[DF]at hp;obtain⟨z1,z2⟩:=hp;rw[bx]at z1;rw[ca]at z2;cases z1;cases z2;exact SqT.of (by rw[aC<|aP g3 au];exact g3)
 have bb:C≠en:=aP (f7 _ _ (by trivial) ar) ak;have a8:DOk D.U D.names (cJ []<|(Sum.inr "own",.str kd)::(qs.zip ws).map (λp=>((Sum.inr p.1:aG),V.str p.2))):=by
  refine DOk.merge _ DOk.nil λkv a8=>?_;rcases wm9.mp a8 with rfl | h
  .exact⟨"own",by unfold WD.U;simp,rfl,.inr ⟨kd,b9,rfl⟩⟩
  .obtain⟨p,hp,rfl⟩:=wn7.mp h;have:=AV hp;exact⟨p.1,as _ this.1,rfl,.inr ⟨p.2,e5 _ this.2,rfl⟩⟩
 have S8:=S7.open ak a8;have be:Stt (Ms hd en WA) (upd (upd H6 pc<|.lst<|[V.ref pt]++ts.map V.ref) en<|.dK<|cJ []<|(Sum.inr "own",.str kd)::(qs.zip ws).map (λp=>((Sum.inr p.1:aG),V.str p.2))) C (.lst<|qs.map V.str):=by
  refine⟨λz=>?_,by rw[aC bb];exact f7 _ _ (by trivial) ar⟩;simp only[Ms,wm9,aX,cY]at z;simp only[M0,wm9,aX,cY,fG]at ad;rcases z with z | z | z | z
  .exact ad.1 z
  .exact bb z
  .exact ad.2.1 z
  .exact ad.2.2 z
 have b7:∀Hf:Hp,FrS (Ms hd en WA) (upd (upd H6 pc<|.lst<|[V.ref pt]++ts.map V.ref) en<|.dK<|cJ []<|(Sum.inr "own",.str kd)::(qs.zip ws).map (λp=>((Sum.inr p.1:aG),V.str p.2))) Hf->FrS (M0 hd WA) H Hf:=λHf ff=>(b3.trans<|f7.mono<|by trivial).trans<|FrS.close ak ff
 generalize upd (upd H6 pc<|.lst<|[V.ref pt]++ts.map V.ref) en (.dK<|cJ []<|(Sum.inr "own",.str kd)::(qs.zip ws).map (λp=>((Sum.inr p.1:aG),V.str p.2)))=H8 at S8 be b7;obtain⟨d,m,W⟩:=S8.hand;refine⟨_,rfl,_,rfl,_,rfl,_,rfl,_,rfl,hd,d,m,t4,r,3,rfl,W,by lia,by decide,by decide,λx d9 m9 t9 x0 M c9 e9=>?_⟩;obtain⟨dp,rfl⟩:∃dp:Nat,x=(dp:Int):=⟨x.toNat,by lia⟩;have S9:=S8.setHand (r':=r) c9;have f9:FrS (Ms hd en WA) H8 (upd H8 hd<|hl d9 m9 t9 r):=FrS.chg (by trivial);refine⟨_,rfl,dM rfl,λpi az=>?_⟩;have Sa:=S9.fr0<|FrS.new (S:=[]) (o:=.lst [V.int 1,V.int 2,V.int 3,V.int 4,V.int 6]) az;have fa:=f9.trans<|FrS.new (o:=.lst [V.int 1,V.int 2,V.int 3,V.int 4,V.int 6]) az;have aq:pi≠hd:=λz=>S9.notin az (by rw[z];simp)
 obtain⟨d,m,W⟩:=Sa.hand;refine⟨hd,pi,d,m,t9,r,_,rfl,W,by lia,aq,SqL.of zb1,by simp,by show 5<1000;decide,λy db mb tb hy cb eb=>?_⟩;obtain⟨mo,rfl,c4,br⟩:∃mo:Int,y=.int mo/\0<=mo/\mo<=100:=by
  simp only[wm9,aX,cY]at hy;rcases hy with rfl | rfl | rfl | rfl | rfl
  .exact⟨1,rfl,by decide,by decide⟩
  .exact⟨2,rfl,by decide,by decide⟩
  .exact⟨3,rfl,by decide,by decide⟩
  .exact⟨4,rfl,by decide,by decide⟩
  .exact⟨6,rfl,by decide,by decide⟩
 have Sb:=Sa.setHand (r':=r) cb;have fb:=fa.put' (a:=hd) (o:=hl db mb tb r) (by trivial);refine⟨hd,en,wd,WA,D,tb,r,(N:Int),mo,dp,rfl,by lia,c4,br,Sb,hr0,by lia,λrv c7 bs Hc tc I bn bm ae Sc fc c5 c3 cp=>?_⟩;have c6:=fb.trans fc;refine⟨_,rfl,_,rfl,_,rfl,_,rfl,hd,en,wd,WA,D,tc,I,rfl,Sc,by lia,λM Hd td Sd ba cm _=>?_⟩;refine⟨_,rfl,_,rfl,_,rfl,hd,en,wd,WA,D,td,I,rfl,Sd,by lia,λZ He te Se fe cl _=>?_⟩;have c1:=(c6.trans ba).trans fe;refine⟨dM rfl,λpg ah=>?_⟩;have Sf:=Se.fr0<|FrS.new (S:=[]) (o:=.lst [V.non,V.str M,V.str Z]) ah;have ff:=c1.trans<|FrS.new (o:=.lst [V.non,V.str M,V.str Z]) ah;have al:pg≠hd:=λz=>Se.notin ah (by rw[z];simp)
 obtain⟨d,m,W⟩:=Sf.hand;refine⟨hd,pg,d,m,te,I,_,rfl,W,by lia,al,SqL.of zb1,by simp,by show 3<1000;decide,λgv dg af tg ai cg eg=>?_⟩;have Sg:=Sf.setHand (r':=I) cg;have fg:=ff.put' (a:=hd) (o:=hl dg af tg I) (by trivial);obtain⟨kv,a3,hk⟩:=Sg.env;obtain⟨kt,bt,b6⟩:=Sg.told;obtain⟨J,b0,bk⟩:∃J:Option V,lG (upd (upd He pg<|.lst [V.non,V.str M,V.str Z]) hd<|hl dg af tg I) en gv J/\(J.getD .non=.non\/∃n∈D.names,J.getD .non=.str n):=by
  simp only[wm9,aX,cY]at ai;rcases ai with rfl | rfl | rfl
  .exact⟨none,⟨kv,.inl a3,.inl ⟨rfl,rfl⟩⟩,.inl rfl⟩
  .exact⟨_,⟨kv,.inl a3,.inr ⟨Sum.inr M,rfl,rfl⟩⟩,hk.get _⟩
  .exact⟨_,⟨kv,.inl a3,.inr ⟨Sum.inr Z,rfl,rfl⟩⟩,hk.get _⟩
 exists _,rfl,en,rfl,.inl ⟨_,.inl a3⟩,_,rfl,J,b0,_,rfl,wd,_,rfl,Sg.w.g.2.2.2.2.2.2.2.2.1,_,rfl,WA.told,_,rfl,DPut.k (k:=(Sum.inr dn:aG)) bt<|bH (by have:=b6.len;lia);have Sh:=Sg.setTold<|b6.put am bk;have fh:=fg.put' (a:=WA.told) (o:=.dK<|aN kt (Sum.inr dn)<|J.getD .non) (by trivial);have cc:=be.keep fh;refine⟨_,rfl,_,rfl,C,_,rfl,.inl ⟨SqL.of cc.2,λY ay=>?_⟩⟩;refine⟨_,rfl,_,rfl,dM rfl,λpr a7=>?_⟩;have fk:FrS (Ms hd en WA) Hc (upd (upd (upd He pg<|.lst [V.non,V.str M,V.str Z]) hd<|hl dg af tg I) WA.told<|.dK<|aN kt (Sum.inr dn)<|J.getD .non):=(((ba.trans fe).trans<|FrS.new ah).put'<|.head _).put'<|.tail _<|.tail _<|.head _;have b4:=(Sc.tup fk).trans<|(Tup.new ay).trans<|Tup.new (o:=.tup [V.str dn,V.ref Y,V.ref rv,gv]) a7;have cd:DpG (upd (upd (upd (upd (upd He pg<|.lst [V.non,V.str M,V.str Z]) hd<|hl dg af tg I) WA.told<|.dK<|aN kt (Sum.inr dn)<|J.getD .non) Y<|.tup<|qs.map V.str) pr<|.tup [V.str dn,V.ref Y,V.ref rv,gv]) (.ref Y) gv:=by
  simp only[wm9,aX,cY]at ai;rcases ai with rfl | rfl | rfl
  .exact⟨Y,_,none,rfl,(Tup.new a7) _ _ zb1,rfl,by lia⟩
  .exact⟨Y,_,some M,rfl,(Tup.new a7) _ _ zb1,rfl,by lia⟩
  .exact⟨Y,_,some Z,rfl,(Tup.new a7) _ _ zb1,rfl,by lia⟩
 exact q pr dn _ gv rv c7 bs _ tg I b5 zb1 cd (b4 _ _ bn) (bm.keep b4) ae ((Sh.fr0<|FrS.new ay).fr0<|FrS.new a7).close (b7 _<|(fh.trans<|FrS.new ay).trans<|FrS.new a7) c5 c3 (by lia)
def WF{K:Fq}{a:Addr}{xs:List V}{g:TG}{tb:TS}{D:cR}{σ:St}{H:Hp}(b:Nat->St->Hp->Prop)(h0:b 0 σ H)(hl:∀i σ H,i<=↑xs->b i σ H->SqL K H a xs)
  (hs:∀i x p σ H,xs[i]?=some x->b i σ H->H p=none->g (.ref p) σ (upd H p<|.tup [.int (i:Nat),x]) λσ2 H2=>tb {D with nx:=b<|i+1,ct:=b<|i+1,bk:=D.nx} σ2 H2) (hd:∀σ H,b ↑xs σ H->D.nx σ H):
  ∃W:Nat->Nat->St->Hp->Prop,(∃m,W 0 m σ H)/\∀i m σ H,W i m σ H->
   ((zM K a).stop i H/\D.nx σ H)\/((zM K a).go i H/\∃N:St->Hp->Prop,(∀σ' H',N σ' H'->∃m',m'<m/\W (i+1) m' σ' H')/\∀x H',(zM K a).yld i H x H'->g x σ H' λσ2 H2=>tb {D with nx:=N,ct:=N,bk:=D.nx} σ2 H2):=by
 exists λi m σ H=>m=↑xs-i/\i<=↑xs/\b i σ H,⟨↑xs,by simp,bM _,h0⟩;rintro i m σ H ⟨rfl,hi,p⟩;have q:=hl i σ H hi p
 by_cases d:i<↑xs
 .refine .inr ⟨⟨xs,xs[i],q,by simp[d]⟩,b<|i+1,λσ' H' l=>⟨↑xs-(i+1),by lia,rfl,d,l⟩,λx H' y=>?_⟩;obtain⟨p2,j,f,rfl,rfl,h⟩:=y;exact hs i j p2 σ _ (h xs q) p f
 .have e:i=↑xs:=by lia
  subst e;exact .inl ⟨⟨xs,q,aU _⟩,hd σ H p⟩
inductive vW(H:Hp)(hd pn pt pl:Addr)(n:Nat)(way t r:Int)(ws:List Str)(i:Nat)(σ:St)(Hx:Hp):Prop
 | mk(kx nx ex:Option V)(dx mx tx:Int)(tr:Tr)(ts:List Addr)(late:List Str)(h1:σ=[some<|.ref hd,some<|.int (n:Int),some<|.ref pn,some<|.int way,some<|.ref pt,some<|.ref pl,kx,nx,ex])
   (h2:FrS [hd] H Hx) (h3:Hand Hx hd dx mx tx r) (h4:tx<=t+12+3*(i:Int)) (h5:Hx pn=some (.lst<|ws.map V.str)) (h6:Hx pt=some (.lst<|ts.map V.ref)) (h7:Hx pl=some (.lst<|late.map V.str)) (h8:↑ts=i) (h9:tr.map (·.1)=ws.take i) (h10:TrOk tr)
   (h11:∀(j:Nat) t x,ts[j]?=some t->tr[j]?=some x->Hx t=some (.tup [.str x.1,aV x.2])) (h12:↑late<=i) (h13:∀x∈late,∃j,1<=j/\j<i/\ws[j]?=some x) (h14:yF tr late):vW H hd pn pt pl n way t r ws i σ Hx
abbrev GI:Stmt:=top 53
inductive LV(vs:List V)(H:Hp)(Q:VK):Prop
 | mk(hd:Addr)(d m t r:Int)(h1:vs=[.ref hd])(h2:Hand H hd d m t r)(h3:t+100<1000000)(h4:∀(a tp lp:Addr)(ts:List Addr)(tr:Tr)(late:List Str)(d' m' t':Int)(H':Hp),FrS [hd] H H'->Hand H' hd d' m' t' r->t'<=t+60->H' a=some (.tup [.ref tp,.ref lp])->H tp=none->H lp=none->H' tp=some (.lst<|ts.map V.ref)->↑ts=↑tr->(∀(j:Nat) t x,ts[j]?=some t->tr[j]?=some x->H' t=some (.tup [.str x.1,aV x.2]))->TrOk tr->tr≠[]->↑tr<=12->H' lp=some (.lst<|late.map V.str)->yF tr late->↑late<=12->(∃x∈tr.map (·.1),x∉late)->(∀x∈late,x∈tr.map (·.1))->Q (.ref a) H'):LV  vs H Q
def GR:Sp:=λvs H Q _=>LV  vs H Q
abbrev AW:List Str:=[qH,"_law_many","_law_names","_law_way","_law_tree_here","_law_late","_law_k","_law_name","_law_elder"]
def zp4:bY AW [qH] (bR GI):=cC
def ZK(F:Fun K "_law_tree" "_law_tree" GI f fd)(T:aT P w K mg base k "_law_take" qB gG)(O:aT P w K mg base k "_law_of" qC (cS K))(W:aT P w K mg base k "_law_words" qB EA)(ml:mg "len"=none)(me:mg "enumerate"=none):aR P w K mg base bP (k+1) f fd [qH] GR:=by
 refine F.ok zp4 (λvs H Q E h=>?_) λd4 A outer s H vs Q E hr h=>?_
 .obtain⟨hd,d,m,t,r,rfl,_⟩:=h;rfl
 obtain⟨hd,d,m,t,r,rfl,hh,ht,q⟩:=h;have hu:=dU hr;exists _,aL (sL 1 zp4.nd<|bB O hr rfl<|aA (pv 0)<|aA (cG<|dE<|dE<|dE<|dE<|dE<|dE<|dE<|dE aE) aE)
  (aL (sL 2 zp4.nd<|bB W hr rfl<|aA (pv 0)<|aA (pv 1) aE)<|aL (sL 3 zp4.nd<|bB T hr rfl<|aA (pv 0)<|aA aO aE)<|aL (sL 4 zp4.nd<|cG aE)<|aL (sL 5 zp4.nd<|cG aE)<|aL (dX dO rfl (Bc rfl me<|aA (pv 2) aE) (eC (n:=2) rfl<|bJ (gL 6 zp4.nd)<|bJ (gL 7 zp4.nd) dY)<|aL (sL 8 zp4.nd iH)<|aL (cI (PW.pt<|kA (cA lU (pv 6) aO<|cF _)<|lR<|cA lU (bB T hr rfl<|aA (pv 0)<|aA aO aE) aO<|cF _) (aS<|sL 8 zp4.nd<|eI (pv 2)<|eI (cG<|aA (bX kO (pv 6) aO)<|aA aO<|aA (bX yJ (bX kO (pv 6) aO) aO)<|aA (bB T hr rfl<|aA (pv 0)<|aA (pv 6) aE) aE)<|pv 3) cZ)<|aL (cI (PW.pt<|kA (cA sJ (pv 8) (pv 5) rfl)<|lR<|cA eZ (eP jE rfl ml iJ<|aA (pv 5) aE) aO<|cF _) (aS<|sL 8 zp4.nd iH) cZ)<|aL (cI (PW.pt<|JY (cA sJ (pv 8) (pv 5) rfl)<|II<|PW.pt<|kA (cA yC (eP jE rfl ml iJ<|aA (pv 5) aE) aO<|cF _)<|kA (cA lU (pv 6) aO<|cF _)<|lR<|cA eZ (bB T hr rfl<|aA (pv 0)<|aA aO aE) aO<|cF _) (aS<|dW<|eN eA eX eY eR (pv 5)<|aA (pv 7) aE) cZ)<|aS<|dW<|eN eA eX eY eR (pv 4)<|aA (bV<|aA (pv 7)<|aA (pv 8) aE) aE)<|aS<|bT<|bV<|aA (pv 4)<|aA (pv 5) aE)
 ac_rfl
 refine⟨_,rfl,dM rfl,λp0 bh=>?_⟩;have cp:p0≠hd:=λz=>by rw[z,hh.1]at bh;cases bh
 have ci:Hand (upd H p0<|.lst [V.int 1,V.int 2,V.int 3,V.int 4,V.int 5,V.int 6,V.int 8,V.int 12]) hd d m t r:=hh.new bh;have f0:FrS [hd] H (upd H p0<|.lst [V.int 1,V.int 2,V.int 3,V.int 4,V.int 5,V.int 6,V.int 8,V.int 12]):=FrS.new bh;have ca:upd H p0 (.lst [V.int 1,V.int 2,V.int 3,V.int 4,V.int 5,V.int 6,V.int 8,V.int 12]) p0=some (.lst [V.int 1,V.int 2,V.int 3,V.int 4,V.int 5,V.int 6,V.int 8,V.int 12]):=zb1;generalize upd H p0 (.lst [V.int 1,V.int 2,V.int 3,V.int 4,V.int 5,V.int 6,V.int 8,V.int 12])=H0 at ci f0 ca;refine⟨hd,p0,d,m,t,r,_,rfl,ci,by lia,cp,SqL.of ca,by simp,by show 8<1000;decide,λx d1 m1 t1 u c1 e1=>?_⟩;obtain⟨n,rfl,n1,cn⟩:∃n:Nat,x=.int (n:Int)/\1<=n/\n<=12:=by
  simp only[wm9,aX,cY]at u;rcases u with rfl | rfl | rfl | rfl | rfl | rfl | rfl | rfl
  .exact⟨1,rfl,by decide,by decide⟩
  .exact⟨2,rfl,by decide,by decide⟩
  .exact⟨3,rfl,by decide,by decide⟩
  .exact⟨4,rfl,by decide,by decide⟩
  .exact⟨5,rfl,by decide,by decide⟩
  .exact⟨6,rfl,by decide,by decide⟩
  .exact⟨8,rfl,by decide,by decide⟩
  .exact⟨12,rfl,by decide,by decide⟩
 have f1:FrS [hd] H (upd H0 hd<|hl d1 m1 t1 r):=f0.put' (by trivial);have cf:Hand (upd H0 hd<|hl d1 m1 t1 r) hd d1 m1 t1 r:=Hand.at c1;generalize upd H0 hd (hl d1 m1 t1 r)=H1 at f1 cf;refine⟨_,rfl,_,rfl,hd,d1,m1,t1,r,n,rfl,cf,by lia,cn,λpn ws d2 m2 t2 H2 f2 cg cz cy ba cx cd=>?_⟩;have ct:=f1.trans f2;refine⟨_,rfl,hd,d2,m2,t2,r,4,rfl,cg,by lia,by decide,by decide,λN d3 m3 t3 w0 w1 c3 e3=>?_⟩;have c8:FrS [hd] H (upd H2 hd<|hl d3 m3 t3 r):=ct.put' (by trivial);have br:Hand (upd H2 hd<|hl d3 m3 t3 r) hd d3 m3 t3 r:=Hand.at c3;have ap:upd H2 hd (hl d3 m3 t3 r) pn=some (.lst<|ws.map V.str):=by rw[aC<|iB ba cg];exact ba
 generalize upd H2 hd (hl d3 m3 t3 r)=H3 at c8 br ap;refine⟨bM _,λpt b7=>?_⟩;have bu:=br.new (o:=.lst []) b7;have bq:FrS [hd] H (upd H3 pt<|.lst []):=c8.trans<|FrS.new b7;have af:upd H3 pt (.lst []) pn=some (.lst<|ws.map V.str):=by rw[aC<|aP ap b7];exact ap
 have ar:upd H3 pt (.lst []) pt=some (.lst []):=zb1;have am:H pt=none:=nD c8 br b7;have bs:pn≠pt:=aP ap b7;generalize upd H3 pt (.lst [])=H4 at bu bq af ar;refine⟨bM _,λC ax=>?_⟩;have bv:=bu.new (o:=.lst []) ax;have ce:FrS [hd] H (upd H4 C<|.lst []):=bq.trans<|FrS.new ax;have ag:upd H4 C (.lst []) pn=some (.lst<|ws.map V.str):=by rw[aC<|aP af ax];exact af
 have b8:upd H4 C (.lst []) pt=some (.lst []):=by rw[aC<|aP ar ax];exact ar
 have b9:upd H4 C (.lst []) C=some (.lst []):=zb1;have ak:H C=none:=nD bq bu ax;have bt:pn≠C:=aP af ax;have bd:pt≠C:=aP ar ax;generalize upd H4 C (.lst [])=H5 at bv ce ag b8 b9;have ay:pn≠hd:=iB ag bv;have aj:pt≠hd:=λz=>by rw[z,hh.1]at am;cases am
 have an:C≠hd:=λz=>by rw[z,hh.1]at ak;cases ak
 exists _,rfl,pn,_,rfl,SqL.of ag;refine WF (xs:=ws.map V.str) (vW H hd pn pt C n N t r ws)
  ⟨_,_,_,d3,m3,t3,[],[],[],rfl,ce,bv,by lia,ag,b8,b9,rfl,rfl,TrOk.nil,(λj t x h=>by simp at h),by simp,by simp,λ_ h=>nomatch h⟩ ?_ ?_ ?_
 .rintro i σ Hx hi ⟨_,_,_,_,_,_,_,_,_,_,_,_,_,ao,_⟩;exact SqL.of ao
 .rintro i x p σ Hx u ⟨kx,nx,ex,dx,mx,tx,tr,ts,l,rfl,fx,bn,cc,ao,az,b1,bo,ad,hok,c5,cb,b4,bi⟩ hp;obtain⟨hi,_⟩:=zz2.mp u;rw[aK]at hi;rw[bN,bD hi]at u;cases u;have ck:ws[i]?=some ws[i]:=bD hi;exists p,_,rfl,SqT.of zb1,rfl,_,_,rfl,_,_,rfl,rfl;have keep:∀b o,Hx b=some o->upd Hx p (.tup [V.int (i:Nat),V.str ws[i]]) b=some o:=λb o e=>by rw[aC<|aP e hp];exact e
  have bg:FrS [hd] H (upd Hx p<|.tup [V.int (i:Nat),V.str ws[i]]):=fx.trans<|FrS.new hp;have ac:Hand (upd Hx p<|.tup [V.int (i:Nat),V.str ws[i]]) hd dx mx tx r:=bn.new hp;have as:∀(j:Nat) t x,ts[j]?=some t->tr[j]?=some x->upd Hx p (.tup [V.int (i:Nat),V.str ws[i]]) t=some (.tup [.str x.1,aV x.2]):=λj t x a b=>keep _ _<|c5 j t x a b;have al:=keep _ _ ao;have aq:=keep _ _ az;have ah:=keep _ _ b1;generalize upd Hx p (.tup [V.int (i:Nat),V.str ws[i]])=Hy at bg ac as al aq ah;have b5:ws[i]∉tr.map (·.1):=by
   rw[ad];intro hm;obtain⟨j,hj,ej⟩:=lN hm;rw[eK]at hj;rw[List.getElem_take]at ej;have:=(wL cd).mp ej;lia
  have ch:∀(e:Option Str)(a6:List Str)(B:Hp)(Y Z M:Int),(∀x,e=some x->x∈ws.take i)->FrS [hd] H B->Hand B hd Y Z M r->M<=t+12+3*((i+1:Nat):Int)->B pn=some (.lst<|ws.map V.str)->B pt=some (.lst<|ts.map V.ref)->B C=some (.lst<|a6.map V.str)->
    (∀(j:Nat) t x,ts[j]?=some t->tr[j]?=some x->B t=some (.tup [.str x.1,aV x.2]))->↑a6<=i+1->(∀x∈a6,∃j,1<=j/\j<i+1/\ws[j]?=some x)->yF (tr++[(ws[i],e)]) a6->
    BN (wK K "list" vA (aJ 4)<|aZ (dB<|aZ (aJ 7)<|aZ (aJ 8) aW) aW)
    ⟨vW H hd pn pt C n N t r ws<|i+1,λ_ _=>False,λ_ _=>False,λ_ _=>False⟩
    [some<|.ref hd,some<|.int (n:Int),some<|.ref pn,some<|.int N,some<|.ref pt,some<|.ref C,some<|.int (i:Nat),some<|.str ws[i],some<|aV e] B:=by
   intro e a6 B Y Z M he fz ae bx a7 a5 X a8 cq c7 bk;refine⟨_,rfl,.inl ⟨rfl,_,SqL.of a5⟩,_,rfl,_,rfl,dM rfl,λpp au=>?_⟩;have be:upd B pp (.tup [V.str ws[i],aV e]) pt=some (.lst<|ts.map V.ref):=by rw[aC<|aP a5 au];exact a5
   have c9:pp≠pt:=λz=>by rw[z,a5]at au;cases au
   refine⟨pt,_,_,rfl,rfl,be,by rw[aK];exact bH (by lia),_,_,_,Y,Z,M,tr++[(ws[i],e)],ts++[pp],a6,rfl,(fz.trans<|FrS.new au).put am,?_,bx,?_,?_,?_,?_,?_,?_,?_,cq,c7,bk⟩
   .exact⟨by rw[aC aj.symm,aC<|aP ae.1 au];exact ae.1,ae.2⟩
   .rw[aC bs,aC<|aP a7 au];exact a7
   .rw[zb1,bO];rfl
   .rw[aC bd.symm,aC<|aP X au];exact X
   .rw[bI,bo];rfl
   .rw[bO,ad,gD,ck];rfl
   .exact hok.snoc b5 λx u=>by rw[ad];exact he x u
   .intro j t' x av u;have c0:↑tr=↑ts:=by
     have:=cK List.length ad;rw[aK,eK]at this;lia
    by_cases hj:j<↑ts
    .rw[kG hj]at av;rw[kG<|by lia]at u;have L:=a8 j t' x av u;have h4:upd B pp (.tup [V.str ws[i],aV e]) t'=some (.tup [.str x.1,aV x.2]):=by rw[aC<|aP L au];exact L
     rw[aC λz=>by rw[z,be]at h4;cases h4];exact h4
    .rw[jZ<|by lia]at av;rw[jZ (by lia),c0]at u;have h0:j-↑ts=0:=by
      cases hz:j-↑ts with
      | zero=>rfl
      | succ k=>rw[hz]at av;simp at av
     rw[h0]at av u;simp only[DP,BS]at av u;subst av u;rw[aC c9];exact zb1
  have bw:∀(e:Option Str)(B:Hp)(Y Z M:Int),(∀x,e=some x->x∈ws.take i)->(i=0->e=none)->FrS [hd] H B->Hand B hd Y Z M r->M<=t+14+3*(i:Int)->B pn=some (.lst<|ws.map V.str)->B pt=some (.lst<|ts.map V.ref)->B C=some (.lst<|l.map V.str)->
    (∀(j:Nat) t x,ts[j]?=some t->tr[j]?=some x->B t=some (.tup [.str x.1,aV x.2]))->
    fJ (iA (GO (hY<|dC (gW K false) (aJ 8)<|aJ 5)<|iT (hY<|dC (hH λi j=>.bl<|decide<|i<j) (kJ (λxs H Q=>∃p ys,xs=[.ref p]/\(SqL K H p ys\/SqT K H p ys)/\Q (.int ↑ys) H)<|aZ (aJ 5) aW)<|tC<|.int 6)<|iT (hY<|dC (hH λi j=>.bl<|decide<|j<i) (aJ 6)<|tC<|.int 0)<|hY<|dC vQ (fN gG [] E0<|aZ (aJ 0)<|aZ (tC<|.int 4) aW)<|tC<|.int 0) (BN<|wK K "list" vA (aJ 5)<|aZ (aJ 7) aW) pR)
    (BN<|wK K "list" vA (aJ 4)<|aZ (dB<|aZ (aJ 7)<|aZ (aJ 8) aW) aW)
    ⟨vW H hd pn pt C n N t r ws<|i+1,λ_ _=>False,λ_ _=>False,λ_ _=>False⟩
    [some<|.ref hd,some<|.int (n:Int),some<|.ref pn,some<|.int N,some<|.ref pt,some<|.ref C,some<|.int (i:Nat),some<|.str ws[i],some<|aV e] B:=by
   intro e B Y Z M he bf fz ae bx a7 a5 X a8;have fl:jP (aV e)=true:=by cases e <;> rfl
   have app:1<=i->∀(I:Hp)(J G tv:Int),FrS [hd] H I->Hand I hd J G tv r->tv<=t+15+3*(i:Int)->I pn=some (.lst<|ws.map V.str)->I pt=some (.lst<|ts.map V.ref)->I C=some (.lst<|l.map V.str)->
     (∀(j:Nat) t x,ts[j]?=some t->tr[j]?=some x->I t=some (.tup [.str x.1,aV x.2]))->_:=λh1 I J G tv fv aa cr a3 a2 a1 a4=>
    ch e (l++[ws[i]]) (upd I C<|.lst<|l.map V.str++[V.str ws[i]]) J G tv he (fv.put ak) ⟨by rw[aC an.symm];exact aa.1,aa.2⟩ (by lia) (by rw[aC bt];exact a3) (by rw[aC bd];exact a2) (by rw[zb1,bO];rfl)
     (λj t x a b=>by have L:=a4 j t x a b;rw[aC λz=>by rw[z,a1]at L;cases L];exact L) (by rw[bI,dR];lia)
     (λx u=>by
      rcases wp5.mp u with h | h
      .obtain⟨j,j1,j2,j3⟩:=b4 x h;exact⟨j,j1,by lia,j3⟩
      .rw[wn1.mp h];exact⟨i,h1,by lia,ck⟩)
     (λx u e0 e1 e2=>by
      rcases wp5.mp u with u | u
      .rcases wp5.mp e2 with e2 | e2
       .exact tK _<|bi x u e0 e1 e2
       .exact absurd (hok.elder u e1) (by rw[wn1.mp e2];exact b5)
      .rw[wn1.mp u];exact fY _<|.head _)
   have c6:(∀e0,e=some e0->e0∉l)->∀(I:Hp)(J G tv:Int),FrS [hd] H I->Hand I hd J G tv r->tv<=t+15+3*(i:Int)->I pn=some (.lst<|ws.map V.str)->I pt=some (.lst<|ts.map V.ref)->I C=some (.lst<|l.map V.str)->
     (∀(j:Nat) t x,ts[j]?=some t->tr[j]?=some x->I t=some (.tup [.str x.1,aV x.2]))->_:=λbb I J G tv fv aa cr a3 a2 a1 a4=>
    ch e l I J G tv he fv aa (by lia) a3 a2 a1 a4 (by lia) (λx u=>by
      obtain⟨j,j1,j2,j3⟩:=b4 x u;exact⟨j,j1,by lia,j3⟩) (λx u e0 e1 e2=>by
      rcases wp5.mp u with u | u
      .exact bi x u e0 e1 e2
      .rw[wn1.mp u]at e1;exact absurd e2<|bb e0 e1)
   exists _,rfl,_,rfl,C,_,rfl,.inl<|SqL.of X,fl,iS _,_,rfl;refine bG (λc=>?_) λc=>?_
   .have h1:1<=i:=by
     rcases Nat.eq_zero_or_pos i with h | h
     .exfalso;rw[bf h]at c;have:l=[]:=vc3.mp (by lia);rw[this]at c;cases c
     .exact h
    exact⟨_,rfl,.inl ⟨rfl,_,SqL.of X⟩,_,rfl,C,_,_,rfl,rfl,X,by rw[aK];exact bH (by lia),app h1 B Y Z M fz ae (by lia) a7 a5 X a8⟩
   .have bb:∀e0,e=some e0->e0∉l:=λe0 z hm=>c (by
     rw[z];show iE (.str e0) (l.map V.str)=true;rw[jT];exact fI hm)
    exists _,rfl,C,_,rfl,.inl<|SqL.of X,_,_,rfl,rfl,_,rfl;refine bG (λc2=>?_) λc2=>c6 bb B Y Z M fz ae (by lia) a7 a5 X a8;exists _,rfl,_,_,rfl,rfl,_,rfl;refine bG (λc3=>?_) λc3=>c6 bb B Y Z M fz ae (by lia) a7 a5 X a8;have h1:(0:Int)<(i:Int):=cN c3;refine⟨_,rfl,hd,Y,Z,M,r,4,rfl,ae,by lia,by decide,by decide,λy J G tv y0 y1 cv ev=>⟨rfl,_,rfl,?_⟩⟩;have aa:Hand (upd B hd<|hl J G tv r) hd J G tv r:=Hand.at cv;have fv:FrS [hd] H (upd B hd<|hl J G tv r):=fz.put' (by trivial);have a3:upd B hd (hl J G tv r) pn=some (.lst<|ws.map V.str):=by rw[aC ay];exact a7
    have a2:upd B hd (hl J G tv r) pt=some (.lst<|ts.map V.ref):=by rw[aC aj];exact a5
    have a1:upd B hd (hl J G tv r) C=some (.lst<|l.map V.str):=by rw[aC an];exact X
    have a4:∀(j:Nat) t x,ts[j]?=some t->tr[j]?=some x->upd B hd (hl J G tv r) t=some (.tup [.str x.1,aV x.2]):=λj t x a b=>by
     have L:=a8 j t x a b;rw[aC λz=>by rw[z,ae.1]at L;cases L];exact L
    refine bG (λc4=>?_) λc4=>c6 bb _ J G tv fv aa (by lia) a3 a2 a1 a4;exact⟨_,rfl,.inl ⟨rfl,_,SqL.of a1⟩,_,rfl,C,_,_,rfl,rfl,a1,by rw[aK];exact bH (by lia),app (by lia) _ J G tv fv aa (by lia) a3 a2 a1 a4⟩
  have aw:∀(e:Option Str)(B:Hp)(Y Z M:Int),(∀x,e=some x->x∈ws.take i)->(i=0->e=none)->FrS [hd] H B->Hand B hd Y Z M r->M<=t+14+3*(i:Int)->B pn=some (.lst<|ws.map V.str)->B pt=some (.lst<|ts.map V.ref)->B C=some (.lst<|l.map V.str)->
    (∀(j:Nat) t x,ts[j]?=some t->tr[j]?=some x->B t=some (.tup [.str x.1,aV x.2]))->∀R:TS,(∀e':Option Str,(∀x,e'=some x->x∈ws.take i)->(i=0->e'=none)->R ⟨vW H hd pn pt C n N t r ws<|i+1,λ_ _=>False,λ_ _=>False,λ_ _=>False⟩ [some<|.ref hd,some<|.int (n:Int),some<|.ref pn,some<|.int N,some<|.ref pt,some<|.ref C,some<|.int (i:Nat),some<|.str ws[i],some<|aV e'] B)->
    fJ (iA (iT (hY<|dC (gW K false) (aJ 8)<|aJ 5)<|hY<|dC vQ (kJ (λxs H Q=>∃p ys,xs=[.ref p]/\(SqL K H p ys\/SqT K H p ys)/\Q (.int ↑ys) H)<|aZ (aJ 5) aW)<|tC<|.int 6) (fO (tC .non)<|bW 8) pR) R
    ⟨vW H hd pn pt C n N t r ws<|i+1,λ_ _=>False,λ_ _=>False,λ_ _=>False⟩
    [some<|.ref hd,some<|.int (n:Int),some<|.ref pn,some<|.int N,some<|.ref pt,some<|.ref C,some<|.int (i:Nat),some<|.str ws[i],some<|aV e] B:=by
   intro e B Y Z M he bf fz ae bx a7 a5 X a8 R hR;have fl:jP (aV e)=true:=by cases e <;> rfl
   exists _,rfl,_,rfl,C,_,rfl,.inl<|SqL.of X,fl,iS _,_,rfl;refine bG (λc=>?_) λc=>hR e he bf;exists _,rfl,C,_,rfl,.inl<|SqL.of X,rfl,_,rfl;refine bG (λc=>?_) λc=>hR e he bf;exact hR none (λx u=>nomatch u) λ_=>rfl
  exists _,rfl,_,_,rfl,rfl,_,rfl;refine bG (λc=>?_) λc=>?_
  rotate_left
  .exact aw none Hy dx mx tx (λx u=>nomatch u) (λ_=>rfl) bg ac (by lia) al aq ah as _ λe' b6 ab=>bw e' Hy dx mx tx b6 ab bg ac (by lia) al aq ah as
  have d0:(0:Int)<(i:Int):=cN c;refine⟨_,rfl,hd,dx,mx,tx,r,6,rfl,ac,by lia,by decide,by decide,λy J G tv y0 y1 cv ev=>⟨_,_,rfl,rfl,_,rfl,?_⟩⟩;have aa:Hand (upd Hy hd<|hl J G tv r) hd J G tv r:=Hand.at cv;have fv:FrS [hd] H (upd Hy hd<|hl J G tv r):=bg.put' (by trivial);have a3:upd Hy hd (hl J G tv r) pn=some (.lst<|ws.map V.str):=by rw[aC ay];exact al
  have a2:upd Hy hd (hl J G tv r) pt=some (.lst<|ts.map V.ref):=by rw[aC aj];exact aq
  have a1:upd Hy hd (hl J G tv r) C=some (.lst<|l.map V.str):=by rw[aC an];exact ah
  have a4:∀(j:Nat) t x,ts[j]?=some t->tr[j]?=some x->upd Hy hd (hl J G tv r) t=some (.tup [.str x.1,aV x.2]):=λj t x a b=>by
   have L:=as j t x a b;rw[aC λz=>by rw[z,ac.1]at L;cases L];exact L
  generalize upd Hy hd (hl J G tv r)=I at aa fv a3 a2 a1 a4;refine bG (λc=>?_) λc=>?_
  rotate_left
  .exact aw none I J G tv (λx u=>nomatch u) (λ_=>rfl) fv aa (by lia) a3 a2 a1 a4 _ λe' b6 ab=>bw e' I J G tv b6 ab fv aa (by lia) a3 a2 a1 a4
  refine⟨_,rfl,_,rfl,_,_,rfl,rfl,_,rfl,_,_,rfl,rfl,_,_,rfl,rfl,⟨by decide,by decide⟩,_,rfl,_,rfl,hd,J,G,tv,r,_,rfl,aa,by lia,by lia,by lia,λz du mu tu z0 z1 cu eu=>⟨dM rfl,λp4 bz=>?_⟩⟩;have bp:Hand (upd I hd<|hl du mu tu r) hd du mu tu r:=Hand.at cu;have cw:FrS [hd] H (upd I hd<|hl du mu tu r):=fv.put' (by trivial);have kp:∀b o,b≠hd->I b=some o->upd (upd I hd<|hl du mu tu r) p4 (.lst [V.int<|(i:Int)-1,V.int 0,V.int<|((i:Int)-1) / 2,V.int z]) b=some o:=λb o n e=>by
   have h1:upd I hd (hl du mu tu r) b=some o:=by rw[aC n];exact e
   rw[aC<|aP h1 bz];exact h1
  have bm:=bp.new (o:=.lst [V.int<|(i:Int)-1,V.int 0,V.int<|((i:Int)-1) / 2,V.int z]) bz;have fu:FrS [hd] H (upd (upd I hd<|hl du mu tu r) p4<|.lst [V.int<|(i:Int)-1,V.int 0,V.int<|((i:Int)-1) / 2,V.int z]):=cw.trans<|FrS.new bz;have cj:upd (upd I hd<|hl du mu tu r) p4 (.lst [V.int<|(i:Int)-1,V.int 0,V.int<|((i:Int)-1) / 2,V.int z]) p4=some (.lst [V.int<|(i:Int)-1,V.int 0,V.int<|((i:Int)-1) / 2,V.int z]):=zb1;have ai:=kp _ _ ay a3;have b2:=kp _ _ aj a2;have b3:=kp _ _ an a1;have b0:∀(j:Nat) t x,ts[j]?=some t->tr[j]?=some x->upd (upd I hd<|hl du mu tu r) p4 (.lst [V.int<|(i:Int)-1,V.int 0,V.int<|((i:Int)-1) / 2,V.int z]) t=some (.tup [.str x.1,aV x.2]):=λj t x a b=>by
   have L:=a4 j t x a b;exact kp _ _ (λw=>by rw[w,aa.1]at L;cases L) L
  generalize upd (upd I hd<|hl du mu tu r) p4 (.lst [V.int<|(i:Int)-1,V.int 0,V.int<|((i:Int)-1) / 2,V.int z])=Hu at bm fu cj ai b2 b3 b0;obtain⟨ix,cm,d5,cl⟩:∃ix:Nat,eE [V.int<|(i:Int)-1,V.int 0,V.int<|((i:Int)-1) / 2,V.int z] N=some (.int (ix:Int))/\0<=ix/\ix<i:=by
   have hc:N=0\/N=1\/N=2\/N=3:=by lia
   rcases hc with rfl | rfl | rfl | rfl
   .exact⟨i-1,by rw[BQ];congr 2;lia,by lia,by lia⟩
   .exact⟨0,by rw[OS];rfl,by lia,by lia⟩
   .exact⟨(((i:Int)-1) / 2).toNat,by rw[FM];congr 2;lia,by lia,by lia⟩
   .exact⟨z.toNat,by rw[BB];congr 2;lia,by lia,by lia⟩
  have co:eE (ws.map V.str) (ix:Int)=some (.str<|ws[ix]'(by lia)):=lQ (by rw[bN,bD<|by lia];rfl);exists _,rfl,p4,_,_,_,rfl,rfl,SqL.of cj,cm,pn,_,_,_,rfl,rfl,SqL.of ai,co;have cs:∀x,some (ws[ix]'(by lia))=some x->x∈ws.take i:=λx u=>by
   cases u;have:(ws.take i)[ix]?=some (ws[ix]'(by lia)):=by rw[List.getElem?_take_of_lt cl];exact bD (by lia)
   exact cW this
  exact aw (some<|ws[ix]'(by lia)) Hu du mu tu cs (λh=>by lia) fu bm (by lia) ai b2 b3 b0 _ λe' b6 ab=>bw e' Hu du mu tu b6 ab fu bm (by lia) ai b2 b3 b0
 .rintro σ Hx ⟨kx,nx,ex,dx,mx,tx,tr,ts,l,rfl,fx,bn,cc,ao,az,b1,bo,ad,hok,c5,cb,b4,bi⟩;rw[aK]at cc bo ad cb b4;rw[fS<|aU _]at ad;have bc:↑tr=↑ws:=by rw[<-ad,aK]
  refine⟨_,rfl,_,rfl,dM rfl,λpa bj=>?_⟩;have kp:∀b o,Hx b=some o->upd Hx pa (.tup [V.ref pt,V.ref C]) b=some o:=λb o e=>by rw[aC<|aP e bj];exact e
  refine q pa pt C ts tr l dx mx tx _ (fx.trans<|FrS.new bj) (bn.new bj) (by lia) zb1 am ak (kp _ _ az) (by lia) (λj t x a b=>kp _ _<|c5 j t x a b) hok ?_ (by lia) (kp _ _ b1) ?_ (by lia) ?_ λx u=>by obtain⟨j,_,_,e⟩:=b4 x u;rw[ad];exact cW e
  .intro z;rw[z]at bc;simp at bc;lia
  .exact bi
  .have h0:0<↑ws:=by lia
   refine⟨ws[0],by rw[ad];exact iK h0,λhm=>?_⟩;obtain⟨j,j1,j2,j3⟩:=b4 _ hm;obtain⟨j4,j5⟩:=zz2.mp j3;have:=(wL cd).mp j5;lia
inductive VF where
 | var (x:Str)
 | cut (x:Str) (lo hi:Option Int)
 | dict0
deriving DecidableEq
def rB:Option Expr->Option (Option Int)
 | none=>some none
 | some (.Constant (.int i) _ _)=>some<|some i
 | _=>none
def CZ:Expr->Option VF
 | .Name x _=>some<|.var x
 | .Subscript (.Name x _) (.Slice lo hi none _) _=>match rB lo,rB hi with
  | some a,some b=>some<|.cut x a b
  | _,_=>none
 | .Dict [] [] _=>some .dict0
 | _=>none
def xH:List (Option Expr)->List Expr->Option (List<|Str×VF)
 | [],[]=>some []
 | some (.Constant (.str x) _ _)::ks,v::vs=>match CZ v,xH ks vs with
  | some f,some r=>some<|(x,f)::r
  | _,_=>none
 | _,_=>none
def MS:Expr->Option (List<|Str×VF)
 | .Dict ks vs _=>xH ks vs
 | _=>none
def nK:List Stmt->Expr
 | [.Return (some v) _]=>v
 | _::r=>nK r
 | []=>.Constant .none 0 ⟨0,0,0,0⟩
def FG:List Stmt->Expr->List Stmt
 | [.Return (some _) p],v=>[.Return (some v) p]
 | a::r,v=>a::FG r v
 | [],_=>[]
section
variable{X:Cx}
structure nF(X:Cx)(i:Nat)(x:Str):Prop where
 n:X.N[i]?=some x
 v:zP X.env.scope x
 d:(x == ("__debug__":Str))=false
 c:(x == ("__classdict__":Str))=false
def sI:Option Int->TO
 | none=>MR
 | some i=>nY<|tC<|.int i
def LM(h:rB e=some o):PO X e (sI o):=by
 cases e with
 | none=>cases h;exact kH
 | some e=>
  cases e with
  | Constant c j pos=>
   cases c with
   | int i=>cases h;exact jX aO
   | _=>cases h
  | _=>cases h
inductive wY(X:Cx):VF->TE->Prop
 | var {i:Nat} {x:Str} (h:nF X i x):wY X (.var x) (aJ i)
 | cut {i:Nat} {x:Str} {lo hi:Option Int} (h:nF X i x):wY X (.cut x lo hi) (PU (wS X.K) (aJ i) (sI lo)<|sI hi)
 | dict0:wY X .dict0 SL
def At{f:VF}(h:CZ e=some f)(i:wY X f t):PE X e t:=by
 cases e with
 | Name x p=>
  cases h;cases i with
  | var h=>exact GH h.n h.v h.d h.c
 | Subscript a b pos=>
  cases a with
  | Name x p=>
   cases b with
   | Slice lo hi st p2=>
    cases st with
    | some z=>cases h
    | none=>
     have h:(match rB lo,rB hi with | some a,some b=>some (VF.cut x a b) | _,_=>none)=some f:=h;cases h1:rB lo with
     | none=>rw[h1]at h;cases h
     | some a=>
      cases h2:rB hi with
      | none=>rw[h1,h2]at h;cases h
      | some b=>
       rw[h1,h2]at h;cases h;cases i with
       | cut q=>exact kE wD (GH q.n q.v q.d q.c) (LM h1)<|LM h2
   | _=>cases h
  | _=>cases h
 | Dict ks vs pos=>
  cases ks with
  | nil=>
   cases vs with
   | nil=>
    cases h;cases i;exact mI
   | cons _ _=>cases h
  | cons _ _=>cases h
 | _=>cases h
inductive wV(X:Cx):List (Str×VF)->List (TE×TE)->Prop
 | nil:wV X [] []
 | cons {x:Str} {f:VF} {t:TE} {fs:List (Str×VF)} {ts:List (TE×TE)} (h:wY X f t) (r:wV X fs ts):wV X ((x,f)::fs) ((tC<|.str x,t)::ts)
theorem PZ:∀(ks:List (Option Expr))(vs:List Expr)(fs:List (Str×VF))(ts:List (TE×TE)),xH ks vs=some fs->wV X fs ts->vY X pos ks vs ts/\ks.all (·.isSome)=true/\↑ks=↑vs/\↑ks=↑fs
 | [],[],fs,ts,h,q=>by
  cases h;cases q;exact⟨AQ,rfl,rfl,rfl⟩
 | [],_::_,fs,ts,h,q=>by cases h
 | none::_,_,fs,ts,h,q=>by
  cases h
 | some k::ks,[],fs,ts,h,q=>by
  cases k with
  | Constant c j p=>cases c <;> cases h
  | _=>cases h
 | some k::ks,v::vs,fs,ts,h,q=>by
  cases k with
  | Constant c j p=>
   cases c with
   | str x=>
    have h:(match CZ v,xH ks vs with | some f,some r=>some ((x,f)::r) | _,_=>none)=some fs:=h;cases h1:CZ v with
    | none=>rw[h1]at h;cases h
    | some f=>
     cases h2:xH ks vs with
     | none=>rw[h1,h2]at h;cases h
     | some r=>
      rw[h1,h2]at h;cases h;cases q with
      | cons ht hr=>
       obtain⟨a,b,c,d⟩:=PZ ks vs r _ h2 hr;exact⟨gY bA (At h1 ht) a,by rw[List.all_cons,b];rfl,by rw[cU,cU,c],by rw[cU,cU,d]⟩
   | _=>cases h
  | _=>cases h
def ST(h:MS e=some fs)(q:wV X fs ts)(h0:fs≠[])(f:↑fs<=15):PE X e (CJ ts):=by
 cases e with
 | Dict ks vs pos=>
  obtain⟨a,b,c,d⟩:=PZ (pos:=pos) ks vs fs ts h q;refine EJ a b c (λz=>h0 ?_) (by lia);rw[z]at d;exact vc3.mp d.symm
 | _=>cases h
end
def Bg{κ:Type}[DecidableEq κ]{kvs:List (κ×V)}{k:κ}{v:V}(h:aF kvs k=some v):(k,v)∈kvs:=by
 unfold aF at h;obtain⟨p,hp,e⟩:=wp4.mp h;have h1:=EN hp;have a:=List.find?_some hp;have h2:p.1=k:=cN a;rw[<-h2,<-e];exact h1
theorem SK{κ:Type}[DecidableEq κ]:∀{kvs:List (κ×V)}{i:Nat}{k:κ}{v:V},(kvs.map (·.1)).Nodup->kvs[i]?=some (k,v)->aF kvs k=some v
 | [],i,k,v,_,h=>by simp at h
 | a::l,0,k,v,_,h=>by
  have:a=(k,v):=by simpa using h
  rw[this];exact jK rfl
 | a::l,i+1,k,v,nd,h=>by
  have h':l[i]?=some (k,v):=by simpa using h
  rw[fH,wq7]at nd;rw[jH λe=>nd.1<|by rw[e];exact wn7.mpr ⟨_,cW h',rfl⟩];exact SK nd.2 h'
theorem GG:∀(more kvs:List (aG×V)),((kvs++more).map (·.1)).Nodup->cJ kvs more=kvs++more
 | [],kvs,_=>by rw[gA];rfl
 | a::l,kvs,nd=>by
  have b:aF kvs a.1=none:=by
   cases e:aF kvs a.1 with
   | none=>rfl
   | some v=>
    have h1:=CQ e;rw[bO,fH]at nd;have:=(vh4.mp nd).2.2 a.1 h1 a.1<|uC ..;exact absurd rfl this
  show cJ (aN kvs a.1 a.2) l=_;rw[DB _ b,GG l (kvs++[(a.1,a.2)]) (by rw[lC];exact nd),lC];rfl
theorem RY:∀(more kvs:List (aG×V)),(∀k,k∈(cJ kvs more).map (·.1)↔k∈kvs.map (·.1)\/k∈more.map (·.1))
 | [],kvs,k=>by simp[cJ]
 | a::l,kvs,k=>by
  show k∈(cJ (aN kvs a.1 a.2) l).map (·.1)↔_;rw[RY l (aN kvs a.1 a.2) k,fH,wm9];rcases KJ kvs a.1 a.2 with ⟨e,h⟩ | ⟨e,h⟩
  .rw[e]
   constructor
   .rintro(h1 | h1)
    .exact .inl h1
    .exact .inr<|.inr h1
   .rintro(h1 | h1 | h1)
    .exact .inl h1
    .rw[h1];exact .inl h
    .exact .inr h1
  .rw[e,wp5,wn1]
   constructor
   .rintro((h1 | h1) | h1)
    .exact .inl h1
    .exact .inr<|.inl h1
    .exact .inr<|.inr h1
   .rintro(h1 | h1 | h1)
    .exact .inl<|.inl h1
    .exact .inl<|.inr h1
    .exact .inr h1
def VJ(rs:List Str)(v:V):∃qs:List Str,(cJ []<|rs.map λr=>((Sum.inr r:aG),v)).map (λj=>kV j.1)=qs.map V.str/\↑qs<=↑rs/\∀r∈rs,r∈qs:=by
 have d:=RY (rs.map λr=>((Sum.inr r:aG),v)) [];have i:∀l:List (aG×V),(∀k∈l.map (·.1),∃x,k=Sum.inr x)->∃qs:List Str,l.map (λj=>kV j.1)=qs.map V.str/\↑qs=↑l/\∀x,(Sum.inr x:aG)∈l.map (·.1)->x∈qs:=by
  intro l
  induction l with
  | nil=>intro _;exact⟨[],rfl,rfl,by simp⟩
  | cons a l ih=>
   intro h;obtain⟨qs,e,m,f⟩:=ih λk d=>h k<|hC _ d;obtain⟨x,ex⟩:=h a.1 (by simp);refine⟨x::qs,by rw[fH,fH,e,ex];rfl,by simp[m],λy b=>?_⟩;rw[fH,wm9]at b;rcases b with b | b
   .rw[ex]at b;rw[iY b];exact uC ..
   .exact hC _<|f y b
 obtain⟨qs,e,m,f⟩:=i (cJ []<|rs.map λr=>((Sum.inr r:aG),v)) λk h=>by
  rcases(d k).mp h with h | h
  .simp at h
  .rw[kX]at h;obtain⟨x,_,ex⟩:=wn7.mp h;exact⟨x,ex.symm⟩
 refine⟨qs,e,?_,λr hr=>f r<|(d _).mpr<|.inr ?_⟩
 .have:=xA (rs.map λr=>((Sum.inr r:aG),v)) [];rw[aK,kW]at this;lia
 .rw[kX];exact wn7.mpr ⟨r,hr,rfl⟩
def WantsOk(M:List Addr)(H:Hp)(N:List Str)(wk:List (List aG×V))(dn:Str->Str->Prop):Prop:=∀r d,dn r d->∃(p:Addr)(ws:List Str),aF wk [Sum.inr r,Sum.inr d]=some (.ref p)/\Stt M H p (.lst<|ws.map V.str)/\↑ws<=4/\∀x∈ws,x∈N
theorem WantsOk.keep(h:WantsOk M H N wk dn)(f:FrS M H H'):WantsOk M H' N wk dn:=λr d q=>by
 obtain⟨p,ws,a,b,c⟩:=h r d q;exact⟨p,ws,a,b.keep f,c⟩
def WantsOk.put{M:List Addr}{H:Hp}{N:List Str}{f:List (List aG×V)}{dn:Str->Str->Prop}{r d:Str}{p:Addr}{ws:List Str}(h:WantsOk M H N f dn)(hp:Stt M H p (.lst<|ws.map V.str))(hl:↑ws<=4)(j:∀x∈ws,x∈N):
  WantsOk M H N (aN f [Sum.inr r,Sum.inr d]<|.ref p) (λa b=>dn a b\/(a=r/\b=d)):=λa b q=>by
 by_cases e:([Sum.inr a,Sum.inr b]:List aG)=[Sum.inr r,Sum.inr d]
 .exact⟨p,ws,by rw[jF,bC e],hp,hl,j⟩
 .rcases q with q | ⟨rfl,rfl⟩
  .obtain⟨o,n,i,l,m⟩:=h a b q;exact⟨o,n,by rw[jF,aY e];exact i,l,m⟩
  .exact absurd rfl e
def WantsOk.mono(h:WantsOk M H N wk dn)(f:∀r d,dn' r d->dn r d):WantsOk M H N wk dn':=λr d q=>h r d<|f r d q
def OwnOk(M:List Addr)(H:Hp)(N:List Str)(ok:List (aG×V))(dn:Str->Prop):Prop:=∀d,dn d->∃(p:Addr)(os:List Str),aF ok (Sum.inr d)=some (.ref p)/\Stt M H p (.lst<|os.map V.str)/\(∀x∈os,x∈N)/\↑os<=13
theorem OwnOk.keep(h:OwnOk M H N ok dn)(f:FrS M H H'):OwnOk M H' N ok dn:=λd q=>by
 obtain⟨p,os,a,b,c⟩:=h d q;exact⟨p,os,a,b.keep f,c⟩
def OwnOk.put{M:List Addr}{H:Hp}{N:List Str}{ok:List (aG×V)}{dn:Str->Prop}{d:Str}{p:Addr}{os:List Str}(h:OwnOk M H N ok dn)(hp:Stt M H p (.lst<|os.map V.str))(f:∀x∈os,x∈N)(hl:↑os<=13):
  OwnOk M H N (aN ok (Sum.inr d)<|.ref p) (λa=>dn a\/a=d):=λa q=>by
 by_cases e:(Sum.inr a:aG)=Sum.inr d
 .exact⟨p,os,by rw[jF,bC e],hp,f,hl⟩
 .rcases q with q | rfl
  .obtain⟨m,l,b,i,j⟩:=h a q;exact⟨m,l,by rw[jF,aY e];exact b,i,j⟩
  .exact absurd rfl e
def OwnOk.mono'(h:OwnOk M H N ok dn)(f:∀d,dn' d->dn d):OwnOk M H N ok dn':=λd q=>h d<|f d q
def RootsOk(tr:Tr)(i:Nat)(rk:List (aG×V)):Prop:=rk.map (·.1)=(tr.take i).map (λz=>(Sum.inr z.1:aG))/\∃rs:List Str,rk.map (·.2)=rs.map V.str
def RootsOk.step(ok:TrOk tr)(h:RootsOk tr i rk)(hi:tr[i]?=some (n,e)):RootsOk tr (i+1) (aN rk (Sum.inr n)<|.str r)/\↑(aN rk (Sum.inr n)<|.str r)=i+1\/i > ↑tr:=by
 left
 have s:n∉(tr.take i).map (·.1):=λl=>by
  obtain⟨z,hz,a⟩:=wn7.mp l;obtain⟨j,f,o⟩:=lN hz;rw[eK]at f;have d:tr[j]?=some (n,z.2):=by rw[bD (by lia),<-a,<-o,List.getElem_take]
  have:=ok.one hi d;lia
 have b:aF rk (Sum.inr n)=none:=by
  cases q:aF rk (Sum.inr n)with
  | none=>rfl
  | some v=>
   have:=CQ q;rw[h.1]at this;obtain⟨z,hz,a⟩:=wn7.mp this;exact absurd (wn7.mpr ⟨z,hz,iY a⟩) s
 obtain⟨rs,m⟩:=h.2;have u:i<↑tr:=(zz2.mp hi).1;rw[DB _ b];exists ⟨?_,rs++[r],?_⟩
 .rw[bO,h.1,gD,hi,bO];rfl
 .rw[bO,m,bO];rfl
 .have:=cK List.length h.1;rw[aK,aK,eK]at this;rw[bI,dR];lia
def RootsOk.val{tr:Tr}{i:Nat}{a:List (aG×V)}(h:RootsOk tr i a){k:aG}{v:V}(d:aF a k=some v):∃r,v=.str r/\V.str r∈a.map (·.2):=by
 have f:=Bg d;obtain⟨rs,e⟩:=h.2;have:v∈a.map (·.2):=wn7.mpr ⟨_,f,rfl⟩;have h2:=this;rw[e]at this;obtain⟨r,_,b⟩:=wn7.mp this;exact⟨r,b.symm,by rw[b];exact h2⟩
def YR(xs:List V)(h:b<=↑xs)(d:a<=b):cP xs (some (a:Int)) (some (b:Int))=(xs.drop a).take (b-a):=by
 unfold cP;rw[HT.CC,HT.CC,Nat.min_eq_left h,Nat.min_eq_left<|by lia]
inductive AC(Hb:Hp)(hd tp lp pn pd px pw po pr:Addr)(r t6:Int)(rk:List (aG×V))(rs ds:List Str)(tr:Tr)(i:Nat)(σ:St)(Hx:Hp):Prop
 | mk(nx ex dx sx:Option V)(da ma ta:Int)(wk:List (List aG×V))(ok:List (aG×V))(h1:σ=[some<|.ref hd,some<|.ref tp,some<|.ref lp,some<|.ref pn,some<|.ref pd,some<|.ref px,some<|.ref pw,some<|.ref po,some<|.ref pr,nx,ex,dx,sx])
   (h2:FrS [hd,pw,po,pr] Hb Hx) (h3:Hand Hx hd da ma ta r) (h4:ta<=t6+80*(i:Int)) (h5:Hx pr=some (.dK rk)) (h6:Hx pw=some (.dT wk)) (h7:↑wk<=12*i) (h8:WantsOk [hd,pw,po,pr] Hx (tr.map (·.1)) wk (λa b=>a∈rs/\b∈ds.take i)) (h9:Hx po=some (.dK ok)) (h10:↑ok<=i) (h11:OwnOk [hd,pw,po,pr] Hx (tr.map (·.1)) ok (λb=>b∈ds.take i)):AC Hb hd tp lp pn pd px pw po pr r t6 rk rs ds tr i σ Hx
inductive yY(H9:Hp)(hd tp lp pn pd px pw po pr:Addr)(r ta:Int)(rk ok:List (aG×V))(rs qs:List Str)(tr:Tr)(dsi:List Str)(di:Str)(ex sx:Option V)(i j:Nat)(σ:St)(Hz:Hp):Prop
 | mk(nx:Option V)(dz mz tz:Int)(wz:List (List aG×V))(h1:σ=[some<|.ref hd,some<|.ref tp,some<|.ref lp,some<|.ref pn,some<|.ref pd,some<|.ref px,some<|.ref pw,some<|.ref po,some<|.ref pr,nx,ex,some<|.str di,sx])
   (h2:FrS [hd,pw,po,pr] H9 Hz) (h3:Hand Hz hd dz mz tz r) (h4:tz<=ta+5*(j:Int)) (h5:Hz pr=some (.dK rk)) (h6:Hz pw=some (.dT wz)) (h7:↑wz<=12*i+j) (h8:WantsOk [hd,pw,po,pr] Hz (tr.map (·.1)) wz (λa b=>(a∈rs/\b∈dsi)\/(a∈qs.take j/\b=di))) (h9:Hz po=some (.dK ok)):yY H9 hd tp lp pn pd px pw po pr r ta rk ok rs qs tr dsi di ex sx i j σ Hz
inductive zL(H10:Hp)(hd tp lp pn pd px pw po pr ps:Addr)(r tA:Int)(tr:Tr)(di:Str)(j:Nat)(σ:St)(Hz:Hp):Prop
 | mk(nz ez:Option V)(dz mz tz:Int)(ss:List Str)(h1:σ=[some<|.ref hd,some<|.ref tp,some<|.ref lp,some<|.ref pn,some<|.ref pd,some<|.ref px,some<|.ref pw,some<|.ref po,some<|.ref pr,nz,ez,some<|.str di,some<|.ref ps])(h2:FrS [hd] H10 Hz)(h3:Hand Hz hd dz mz tz r)(h4:tz<=tA+(j:Int))(h5:Hz ps=some (.lst<|ss.map V.str))(h6:↑ss<=j)(h7:∀x∈ss,x∈tr.map (·.1)):zL H10 hd tp lp pn pd px pw po pr ps r tA tr di j σ Hz
abbrev oW:Stmt:=top 54
def LG:dP oW=FG (dP oW) (nK<|dP oW):=rfl
def QC:List (Str×VF):=[("tree",.var "_law_tree_here"),("late",.var "_law_late"),("deeds",.var "_law_deeds"),("wants",.var "_law_wants"),("owners",.var "_law_owners"),("vars",.cut "_law_words_here" none<|some 4),("params",.cut "_law_words_here" (some 4)<|some 8),("fields",.cut "_law_words_here" (some 6) none),("told",.dict0),("held",.dict0),("roots",.var "_law_roots")]
def zV:MS (nK<|dP oW)=some QC:=by rfl'
inductive NM(vs:List V)(H:Hp)(Q:VK):Prop
 | mk(hd:Addr)(d m t r:Int)(h1:vs=[.ref hd])(h2:Hand H hd d m t r)(h3:t+1000<1000000)(h4:∀(wd:Addr)(A:WA)(D:WD)(H':Hp)(t':Int),Sit0 H' hd wd A D t' r->FrS [hd] H H'->H A.told=none->H A.held=none->t'<=t+900->Q (.ref wd) H'):NM  vs H Q
def GE:Sp:=λvs H Q _=>NM  vs H Q
def jI(h:N σ H):({nx:=N,rt:=r,bk:=b,ct:=c}:cR).nx σ H:=h
def gN(h:Q (σ.set i<|some v) H):bW i v σ H Q:=h
def eV(h:∀N:St->Hp->Prop,u D=N->t {D with nx:=N} σ H):fJ t u D σ H:=h _ rfl
abbrev tQ:List Str:=[qH,"_law_tree_here","_law_late","_law_names","_law_deeds","_law_words_here","_law_wants","_law_owners","_law_roots","_law_name","_law_elder","_law_deed_here","_law_some"]
def zh1:bY tQ [qH] (bR oW):=cC
def TY(F:Fun K "_law_world" "_law_world" oW f fd)(T:aT P w K mg base k "_law_take" qB gG)(O:aT P w K mg base k "_law_of" qC (cS K))(W:aT P w K mg base k "_law_words" qB EA)(TR:aT P w K mg base k "_law_tree" [qH] GR)(hm:mg "dict"=none)(mr:mg "range"=none)(mi:mg "int"=none):aR P w K mg base bP (k+1) f fd [qH] GE:=by
 refine F.ok zh1 (λvs H Q E h=>?_) λj4 A outer s H vs Q E hr h=>?_
 .obtain⟨hd,d,m,t,r,rfl,_⟩:=h;rfl
 obtain⟨hd,d,m,t,r,rfl,hh,ht,q⟩:=h;have hu:=dU hr;have gc:(["_law_name","_law_elder"]:List Str).Nodup:=by rfl'
 have ig:(["_law_root"]:List Str).Nodup:=by rfl'
 have gr:(["_law_k",qH,"_law_names"]:List Str).Nodup:=by rfl'
 have hO:=zV;rw[LG];generalize nK (dP oW)=L at hO;exists _,aL (iM (bB TR hr rfl<|aA (pv 0) aE)<|eC (n:=2) rfl<|bJ (gL 1 zh1.nd)<|bJ (gL 2 zh1.nd) dY)
  (aL (gZ (i:=3) zh1.nd rfl (Or.inr rfl)<|iO (N':=["_law_name","_law_elder"]) (src:=[none,none]) rfl eW (gU<|pv 1) (g:=eG K 2<|dQ (bW 0)<|dQ (bW 1) dZ) (λ_ _ _ _=>eC (n:=2) rfl<|bJ (gL 0 gc)<|bJ (gL 1 gc) dY) (λ_ _ _ _=>gP) λ_ _ _ _=>pv 0) (aL (sL 4 zh1.nd<|bB W hr rfl<|aA (pv 0)<|aA (bB O hr rfl<|aA (pv 0)<|aA (cG<|dE<|dE<|dE<|dE<|dE<|dE<|dE<|dE aE) aE) aE) (aL (sL 5 zh1.nd<|bB W hr rfl<|aA (pv 0)<|aA aO aE) (aL (sL 6 zh1.nd UO) (aL (sL 7 zh1.nd mI) (aL (sL 8 zh1.nd mI) (aL (dX dO rfl (gU<|pv 1) (eC (n:=2) rfl<|bJ (gL 9 zh1.nd)<|bJ (gL 10 zh1.nd) dY)<|aS<|fF hu (pv 8) (pv 9) (ZY hu (pv 8) (pv 10) (pv 9) ⟨rfl,rfl,rfl,rfl⟩) rfl) (aL (dX dO rfl (gU<|pv 4) (gL 11 zh1.nd) (aL (dX dO rfl (DU (dV (AY rfl) rfl hm (by rfl') (aA (QR (iO (N':=["_law_root"]) (src:=[none]) rfl eW
     (XN<|pv 8) (g:=bW 0) (λ_ _ _ _=>gL 0 ig) (λ_ _ _ _=>gP) (λ_ _ _ _=>bV<|aA (pv 0)<|aA xP aE))) aE))) (gL 9 zh1.nd)
    (aS<|fF hu (pv 6) (bV<|aA (pv 9)<|aA (pv 11) aE) (iO (N':=["_law_k",qH,"_law_names"]) (src:=[none,some 0,some 3]) rfl eW (wE rfl mr<|aA (bB O hr rfl<|aA (pv 0)<|aA (cG<|dE<|dE<|dE<|dE<|dE aE) aE) aE) (g:=bW 0) (λ_ _ _ _=>gL 0 gr) (λ_ _ _ _=>gP) λ_ _ _ _=>bB O hr rfl<|aA (pv 1)<|aA (pv 2) aE) rfl))
   (aL (sL 12 zh1.nd<|cG aE) (aL (dX dO rfl (gU<|pv 1) (eC (n:=2) rfl<|bJ (gL 9 zh1.nd)<|bJ (gL 10 zh1.nd) dY) (aS (cI (cA eZ (bB T hr rfl<|aA (pv 0)<|aA (eI (cG<|dE<|dE aE)<|dV BZ rfl mi (by rfl')<|aA (RW<|nL<|pv 10) aE) aE) aO<|cF _)
     (aS<|dW<|eN eA eX eY eR (pv 12)<|aA (pv 9) aE) cZ)))
   (aS<|fF hu (pv 7) (pv 11) (bX vN (pv 12)<|bX sB (cG<|aA (eI (pv 3) aO) aE)<|dV BZ rfl mi (by rfl')<|aA (pP (PY<|mS hu) (pv 12) (cG aE)<|cF _) aE) rfl)))))
  (aS (bT (ST hO (.cons (.var (i:=1) ⟨rfl,eM rfl,by decide,by decide⟩) (.cons (.var (i:=2) ⟨rfl,eM rfl,by decide,by decide⟩) (.cons (.var (i:=4) ⟨rfl,eM rfl,by decide,by decide⟩) (.cons (.var (i:=6) ⟨rfl,eM rfl,by decide,by decide⟩) (.cons (.var (i:=7) ⟨rfl,eM rfl,by decide,by decide⟩)
   (.cons (.cut (i:=5) ⟨rfl,eM rfl,by decide,by decide⟩)<|.cons (.cut (i:=5) ⟨rfl,eM rfl,by decide,by decide⟩)<|.cons (.cut (i:=5) ⟨rfl,eM rfl,by decide,by decide⟩)<|.cons .dict0<|.cons .dict0<|.cons (.var (i:=8) ⟨rfl,eM rfl,by decide,by decide⟩) .nil)))))) (by simp[QC]) (by decide))))))))))))
 ac_rfl
 refine eV λN X=>?_;refine⟨_,rfl,hd,d,m,t,r,rfl,hh,by lia,λa tp lp ts tr late d1 m1 t1 H1 f1 fe im ha br c0 az fm gg hok fh fr cs ij gm hk ie=>?_⟩;exists a,_,rfl,SqT.of ha,rfl,_,_,rfl,_,_,rfl,rfl;subst X
 first | refine jI ?_ | skip
 refine eV λN X=>?_;refine⟨_,rfl,tp,rfl,⟨_,SqL.of az⟩,λpn i3=>?_⟩;refine JF (tr:=tr) az fm gg i3 (by lia) λH2 f2 c3=>?_
 subst X
 first | refine jI ?_ | skip
 refine eV λN X=>?_;have cp:Hand H2 hd d1 m1 t1 r:=⟨f2 _ _ (by trivial) fe.1,fe.2⟩;have ik:FrS [hd] H H2:=f1.trans (f2.mono<|by trivial);have dt:=f2 _ _ (by trivial) az;have es:=f2 _ _ (by trivial) cs;have bo:∀(j:Nat) t x,ts[j]?=some t->tr[j]?=some x->H2 t=some (.tup [.str x.1,aV x.2]):=λj t x a b=>f2 _ _ (by trivial)<|gg j t x a b
 have aq:tp≠hd:=λz=>by rw[z,hh.1]at br;cases br
 have b3:lp≠hd:=λz=>by rw[z,hh.1]at c0;cases c0
 refine⟨_,rfl,_,rfl,dM rfl,λp0 co=>?_⟩;have gu:p0≠hd:=λz=>by rw[z,cp.1]at co;cases co
 have fp:=cp.new (o:=.lst [V.int 1,V.int 2,V.int 2,V.int 3,V.int 3,V.int 4,V.int 4,V.int 6]) co;have f3:FrS [] H2 (upd H2 p0<|.lst [V.int 1,V.int 2,V.int 2,V.int 3,V.int 3,V.int 4,V.int 4,V.int 6]):=FrS.new co;have ew:upd H2 p0 (.lst [V.int 1,V.int 2,V.int 2,V.int 3,V.int 3,V.int 4,V.int 4,V.int 6]) p0=some (.lst [V.int 1,V.int 2,V.int 2,V.int 3,V.int 3,V.int 4,V.int 4,V.int 6]):=zb1;generalize upd H2 p0 (.lst [V.int 1,V.int 2,V.int 2,V.int 3,V.int 3,V.int 4,V.int 4,V.int 6])=H3 at fp f3 ew;refine⟨hd,p0,d1,m1,t1,r,_,rfl,fp,by lia,gu,SqL.of ew,by simp,by show 8<1000;decide,λx d4 m4 t4 I c4 e4=>?_⟩;obtain⟨n,rfl,n1,n6⟩:∃n:Nat,x=.int (n:Int)/\1<=n/\n<=6:=by
  simp only[wm9,aX,cY]at I;rcases I with rfl | rfl | rfl | rfl | rfl | rfl | rfl | rfl
  .exact⟨1,rfl,by decide,by decide⟩
  .exact⟨2,rfl,by decide,by decide⟩
  .exact⟨2,rfl,by decide,by decide⟩
  .exact⟨3,rfl,by decide,by decide⟩
  .exact⟨3,rfl,by decide,by decide⟩
  .exact⟨4,rfl,by decide,by decide⟩
  .exact⟨4,rfl,by decide,by decide⟩
  .exact⟨6,rfl,by decide,by decide⟩
 have f4:FrS [hd] H2 (upd H3 hd<|hl d4 m4 t4 r):=(f3.mono<|by trivial).put' (by trivial);have fs:Hand (upd H3 hd<|hl d4 m4 t4 r) hd d4 m4 t4 r:=Hand.at c4;generalize upd H3 hd (hl d4 m4 t4 r)=H4 at f4 fs;refine⟨hd,d4,m4,t4,r,n,rfl,fs,by lia,by lia,λpd ds d5 m5 t5 H5 f5 fw ir j2 bx g8 iz=>?_⟩;subst X
 first | refine jI ?_ | skip
 refine eV λN X=>?_;refine⟨_,rfl,hd,d5,m5,t5,r,9,rfl,fw,by lia,by decide,λpx xs d6 m6 t6 H6 f6 ai j6 j0 c6 ip il=>?_⟩;subst X
 first | refine jI ?_ | skip
 refine eV λN X=>?_;have c7:FrS [hd] H2 H6:=(f4.trans f5).trans f6;have cj:FrS [hd] H H6:=ik.trans c7;have ax:pd≠hd:=iB bx fw;have e7:px≠hd:=iB c6 ai;have a9:pn≠hd:=iB c3 cp;have e6:∀(j:Nat) t x,ts[j]?=some t->tr[j]?=some x->t≠hd:=λj t x a b z=>by have h3:=bo j t x a b;rw[z,cp.1]at h3;cases h3
 have ec:=c7 _ _ (by simpa using aq) dt;have ea:=c7 _ _ (by simpa using b3) es;have e8:=c7 _ _ (by simpa using a9) c3;have dk:=f6 _ _ (by simpa using ax) bx;have df:∀(j:Nat) t x,ts[j]?=some t->tr[j]?=some x->H6 t=some (.tup [.str x.1,aV x.2]):=λj t x a b=>c7 _ _ (by simpa using e6 j t x a b)<|bo j t x a b
 intro G cl;subst X
 first | refine jI ?_ | skip
 refine eV λN X=>?_;intro C b7;subst X
 first | refine jI ?_ | skip
 refine eV λN X=>?_;intro u ap;subst X
 first | refine jI ?_ | skip
 refine eV λN X=>?_;have ay:H6 C=none:=by rw[<-aC (H:=H6) (a:=G) (b:=C) (o:=.dT []) (λz=>by rw[z,zb1]at b7;cases b7)];exact b7
 have aj:C≠G:=λz=>by rw[z,zb1]at b7;cases b7
 have ad:u≠G:=λz=>by rw[z,aC aj.symm,zb1]at ap;cases ap
 have ah:u≠C:=λz=>by rw[z,zb1]at ap;cases ap
 have am:H6 u=none:=by rw[aC ah,aC ad]at ap;exact ap
 have g0:upd (upd (upd H6 G<|.dT []) C<|.dK []) u (.dK []) G=some (.dT []):=by rw[aC ad.symm,aC aj.symm];exact zb1
 have f0:upd (upd (upd H6 G<|.dT []) C<|.dK []) u (.dK []) C=some (.dK []):=by rw[aC ah.symm];exact zb1
 have fj:upd (upd (upd H6 G<|.dT []) C<|.dK []) u (.dK []) u=some (.dK []):=zb1;have fb:FrS [] H6 (upd (upd (upd H6 G<|.dT []) C<|.dK []) u<|.dK []):=((FrS.new cl).trans<|FrS.new b7).trans<|FrS.new ap;generalize upd (upd (upd H6 G<|.dT []) C<|.dK []) u (.dK [])=Hb at g0 f0 fj fb;have fl:Hand Hb hd d6 m6 t6 r:=⟨fb _ _ (by trivial) ai.1,ai.2⟩;have cb:hd≠G:=aP ai.1 cl;have cc:hd≠C:=aP ai.1 ay;have cr:hd≠u:=aP ai.1 am;have a6:∀b o,b≠hd->H6 b=some o->Stt [hd,G,C,u] Hb b o:=λb o n e=>⟨by simp only[wm9,aX,cY,fG];exact⟨n,aP e cl,aP e ay,aP e am⟩,fb _ _ (by trivial) e⟩
 have bd:=a6 _ _ aq ec;have h6:=a6 _ _ b3 ea;have gq:=a6 _ _ a9 e8;have di:=a6 _ _ ax dk;have gl:=a6 _ _ e7 c6;have b2:∀(j:Nat) t x,ts[j]?=some t->tr[j]?=some x->Stt [hd,G,C,u] Hb t (.tup [.str x.1,aV x.2]):=λj t x a b=>a6 _ _ (e6 j t x a b)<|df j t x a b;have i2:FrS [hd] H Hb:=cj.trans (fb.mono<|by trivial);have dl:H G=none:=nD cj ai cl;have d0:H C=none:=nD cj ai ay;have cz:H u=none:=nD cj ai am;have d2:∀B:Hp,FrS [hd,G,C,u] Hb B->FrS [hd] H B:=λB M b o n e=>M b o (by
  simp only[wm9,aX,cY,fG]at n ⊢;exact⟨n,aP e dl,aP e d0,aP e cz⟩) (i2 b o n e)
 have ci:∀B:Hp,(∃o,B hd=some o)->(∃o,B G=some o)->(∃o,B C=some o)->(∃o,B u=some o)->∀p,B p=none->p∉[hd,G,C,u]:=λB a b c e p hp z=>by
  simp only[wm9,aX,cY]at z;rcases z with z | z | z | z
  .obtain⟨o,ho⟩:=a;rw[<-z,hp]at ho;cases ho
  .obtain⟨o,ho⟩:=b;rw[<-z,hp]at ho;cases ho
  .obtain⟨o,ho⟩:=c;rw[<-z,hp]at ho;cases ho
  .obtain⟨o,ho⟩:=e;rw[<-z,hp]at ho;cases ho
 exists _,rfl,tp,rfl,⟨_,SqL.of bd.2⟩;refine nH (xs:=ts.map V.ref) (λi σ B=>∃(nx ex:Option V)(J:List (aG×V)),σ=[some<|.ref hd,some<|.ref tp,some<|.ref lp,some<|.ref pn,some<|.ref pd,some<|.ref px,some<|.ref G,some<|.ref C,some<|.ref u,nx,ex,none,none]/\FrS [u] Hb B/\B u=some (.dK J)/\RootsOk tr i J) ⟨_,_,[],rfl,FrS.refl,fj,rfl,[],rfl⟩ ?_ ?_ ?_
 .rintro i σ B hi ⟨_,_,_,_,M,_⟩;exact SqL.of (bd.keep<|M.mono<|by trivial).2
 .rintro i x σ B I ⟨nx,ex,J,rfl,M,a7,b1⟩;rw[bN]at I;obtain⟨tt,a8,rfl⟩:=wp4.mp I;obtain⟨hi,_⟩:=zz2.mp a8;have bh:tr[i]?=some tr[i]:=bD (by lia);have e3:=(b2 i tt _ a8 bh).keep (M.mono<|by trivial);exists tt,_,rfl,SqT.of e3.2,rfl,_,_,rfl,_,_,rfl,rfl;have it:J.length<=12:=by
   have:=cK List.length b1.1;rw[aK,aK,eK]at this;lia
  obtain⟨ov,et,r',h7⟩:∃ov:Option V,lG B u (aV tr[i].2) ov/\∃r',ov.getD (.str tr[i].1)=.str r':=by
   cases he:tr[i].2 with
   | none=>exact⟨none,⟨J,.inl a7,.inl ⟨rfl,rfl⟩⟩,_,rfl⟩
   | some e=>
    exists _,⟨J,.inl a7,.inr ⟨Sum.inr e,rfl,rfl⟩⟩;cases hv:aF J (Sum.inr e)with
    | none=>exact⟨_,rfl⟩
    | some v=>
     obtain⟨r',rfl,_⟩:=b1.val hv;exact⟨r',rfl⟩
  exists _,rfl,u,rfl,.inl ⟨_,.inl a7⟩,_,rfl,_,rfl,ov,et,_,rfl,_,rfl,u,_,rfl,DPut.k (k:=(Sum.inr tr[i].1:aG)) a7 (bH<|by lia),_,_,_,rfl,M.put' (by trivial),zb1;rw[h7];rcases RootsOk.step (r:=r') (n:=tr[i].1) (e:=tr[i].2) hok b1 bh with h | h
  .exact h.1
  .lia
 rintro σ H7 ⟨iv,iy,J,rfl,f7,gk,b1⟩;subst X
 first | refine jI ?_ | skip
 refine eV λN X=>?_;rw[aK]at b1;have aa:=b1;unfold RootsOk at aa;rw[fS<|by lia]at aa;obtain⟨rs,ch⟩:=aa.2;have h9:↑rs=↑tr:=by
  have h1:=cK List.length aa.1;have h2:=cK List.length ch;rw[aK,aK]at h1 h2;lia
 have gf:FrS [hd,G,C,u] Hb H7:=f7.mono (by trivial);have h4:Hand H7 hd d6 m6 t6 r:=⟨f7 _ _ (by simpa using cr) fl.1,fl.2⟩;have hg:=f7 _ _ (by simpa using ad.symm) g0;have gp:=f7 _ _ (by simpa using ah.symm) f0;exists _,rfl,pd,rfl,⟨_,SqL.of (di.keep gf).2⟩;refine nH (xs:=ds.map V.str) (AC Hb hd tp lp pn pd px G C u r t6 J rs ds tr)
  ⟨_,_,_,_,d6,m6,t6,[],[],rfl,gf,h4,by lia,gk,hg,by simp,(λr d h=>by simp at h),gp,by simp,(λd h=>by simp at h)⟩ ?_ ?_ ?_
 .rintro i σ B hi ⟨_,_,_,_,_,_,_,_,_,_,M,_⟩;exact SqL.of (di.keep M).2
 .rintro i x σ B I ⟨nx,ex,dx,sx,da,ma,ta,wk,ok,rfl,M,av,g7,a7,ce,i1,c1,cm,i7,a0⟩;obtain⟨hi,_⟩:=zz2.mp I;rw[aK]at hi;rw[bN,bD hi]at I;cases I;have a5:∀Y:Hp,FrS [hd,G,C,u] Hb Y->Y pn=some (.lst<|(tr.map (·.1)).map V.str):=λY fy=>(gq.keep fy).2;have bi:(tr.map (·.1))≠[]:=by simpa using fh
  have ib:↑(tr.map (·.1))<=12:=by rw[aK];exact fr
  refine gN ?_;refine eV λN2 bu=>?_;exists u,J,a7;refine⟨_,rfl,u,J,rfl,a7,λo Dl b6=>?_⟩;have fg:Dl≠u:=λz=>by rw[z,zb1]at b6;cases b6
  have iw:B Dl=none:=by rw[aC fg]at b6;exact b6
  refine DJ (xs:=J.map λkv=>kv.2) (λi' σ Y=>(∃x,σ=[x])/\FrS [] (upd B u<|.frz o<|.dK J) Y/\∃as:List Addr,↑as=i'/\Y Dl=some (.lst<|as.map V.ref)/\∀(j:Nat) a,as[j]?=some a->∃rt,rs[j]?=some rt/\Y a=some (.tup [.str rt,.bl true])) ⟨⟨_,rfl⟩,(FrS.refl).put b6,[],rfl,zb1,(λj a h=>by simp at h)⟩ ?_ ?_ ?_
  .rintro i' σ Y hi ⟨_,fy,_⟩;exact fy _ _ (by trivial) zb1
  .rintro i' x σ Y I ⟨⟨x0,rfl⟩,fy,as,dw,ck,has⟩;rw[ch]at I;obtain⟨el,_⟩:=zz2.mp I;rw[aK]at el;rw[bN,bD el]at I;cases I;refine⟨_,rfl,dM rfl,λtq ep=>?_⟩;have i4:Dl≠tq:=aP ck ep;have eg:upd Y tq (.tup [V.str rs[i'],V.bl true]) Dl=some (.lst<|as.map V.ref):=by rw[aC i4];exact ck
   refine⟨_,eg,by rw[aK];exact bH (by lia),⟨_,rfl⟩,(fy.trans<|FrS.new ep).put b6,as++[tq],by rw[bI,dw];rfl,by rw[zb1,bO];rfl,λj a' e=>?_⟩
   by_cases hj:j<↑as
   .rw[kG hj]at e;obtain⟨rt,e1,e2⟩:=has j a' e;have e3:upd Y tq (.tup [V.str rs[i'],V.bl true]) a'=some (.tup [.str rt,.bl true]):=by rw[aC<|aP e2 ep];exact e2
    exact⟨rt,e1,EU eg _ _ e3⟩
   .rw[jZ<|by lia]at e;have h0:j-↑as=0:=by
     cases hz:j-↑as with
     | zero=>rfl
     | succ k=>rw[hz]at e;simp at e
    rw[h0]at e;simp only[DP,BS]at e;subst e;have:j=i':=by lia
    subst this;exact⟨_,bD el,EU eg _ _ zb1⟩
  rintro σ Y ⟨_,fy,as,dw,ck,has⟩;rw[aK]at dw;have i9:J.length=↑rs:=by
   have h2:=cK List.length ch;rw[aK,aK]at h2;exact h2
  exists o,fy _ _ (by trivial) zb1;have f8:FrS [] B (upd Y u<|.dK J):=FrS.thaw a7 fy;have ge:upd Y u (.dK J) Dl=some (.lst<|as.map V.ref):=by rw[aC fg];exact ck
  have bs:∀(j:Nat) a,as[j]?=some a->∃rt,rs[j]?=some rt/\upd Y u (.dK J) a=some (.tup [.str rt,.bl true]):=λj a e=>by
   obtain⟨rt,e1,e2⟩:=has j a e;exact⟨rt,e1,by rw[aC λz=>by rw[z,fy _ _ (by trivial) zb1]at e2;cases e2];exact e2⟩
  generalize upd Y u (.dK J)=H8 at f8 ge bs;refine⟨Dl,as,rs.map λr=>((Sum.inr r:aG),V.bl true),rfl,SqL.of ge,by rw[aK];lia,by rw[aK];exact bH (by lia),λj t' kv ic fi=>?_,λl fo=>?_⟩
  .obtain⟨rt,e1,e2⟩:=bs j t' ic;rw[bN,e1]at fi;cases fi;exact SqT.of e2
  refine⟨l,_,rfl,zb1,λo2=>?_⟩;obtain⟨qs,eq,j3,ia⟩:=VJ rs<|.bl true;generalize cJ [] (rs.map λr=>((Sum.inr r:aG),V.bl true))=ba at eq;rw[fT];have ac:FrS [] B (upd H8 l<|.frz o2<|.dK ba):=f8.trans<|FrS.new fo;have gb:upd H8 l (.frz o2<|.dK ba) l=some (.frz o2<|.dK ba):=zb1;generalize upd H8 l (.frz o2<|.dK ba)=H9 at ac gb;have h8:B l=none:=f8.old (by trivial) fo;have hf:l∉[hd,G,C,u]:=ci B ⟨_,av.1⟩ ⟨_,ce⟩ ⟨_,cm⟩ ⟨_,a7⟩ l h8;refine yZ (xs:=ba.map λkv=>kV kv.1) (yY H9 hd tp lp pn pd px G C u r ta J ok rs qs tr (ds.take i) ds[i] ex sx i)
   ⟨_,da,ma,ta,wk,rfl,FrS.refl,⟨ac _ _ (by trivial) av.1,av.2⟩,by lia,ac _ _ (by trivial) a7,ac _ _ (by trivial) ce,by lia,(c1.keep<|ac.mono<|by trivial).mono (λa b h=>by rcases h with h | h;exact h;simp at h),ac _ _ (by trivial) cm⟩ ?_ ?_ ?_
  .rintro j σ Z hj ⟨_,_,_,_,_,_,fz,_⟩;exact fz _ _ hf gb
  .rintro j x σ Z I ⟨io,dz,mz,tz,wz,rfl,fz,af,d8,fk,ga,hc,d3,g6⟩;rw[eq]at I;obtain⟨hj,_⟩:=zz2.mp I;rw[aK]at hj;rw[bN,bD hj]at I;cases I;have go:FrS [hd,G,C,u] Hb Z:=(M.trans<|ac.mono<|by trivial).trans fz;refine⟨_,rfl,dM rfl,λp5 bc=>?_⟩;have id:p5≠hd:=λz=>by rw[z,af.1]at bc;cases bc
   refine⟨hd,p5,dz,mz,tz,r,_,rfl,af.new bc,by lia,id,SqL.of zb1,by simp,by show 5<1000;decide,λy dq mq tq hy cq j5=>?_⟩;obtain⟨jn,rfl,iu⟩:∃jn:Nat,y=.int (jn:Int)/\jn<=4:=by
    simp only[wm9,aX,cY]at hy;rcases hy with rfl | rfl | rfl | rfl | rfl
    .exact⟨0,rfl,by decide⟩
    .exact⟨1,rfl,by decide⟩
    .exact⟨1,rfl,by decide⟩
    .exact⟨2,rfl,by decide⟩
    .exact⟨4,rfl,by decide⟩
   have fq:FrS [hd] Z (upd (upd Z p5<|.lst [V.int 0,V.int 1,V.int 1,V.int 2,V.int 4]) hd<|hl dq mq tq r):=(FrS.new bc).put' (by trivial);have cn:Hand (upd (upd Z p5<|.lst [V.int 0,V.int 1,V.int 1,V.int 2,V.int 4]) hd<|hl dq mq tq r) hd dq mq tq r:=Hand.at cq;generalize upd (upd Z p5<|.lst [V.int 0,V.int 1,V.int 1,V.int 2,V.int 4]) hd (hl dq mq tq r)=Hq at fq cn;refine⟨(jn:Int),rfl,by lia,by lia,λDw b9=>?_⟩;have bj:Dw≠hd:=λz=>by rw[z,cn.1]at b9;cases b9
   have ee:Z Dw=none:=nD fq cn b9;have bg:Dw∉[hd,G,C,u]:=ci Z ⟨_,af.1⟩ ⟨_,ga⟩ ⟨_,g6⟩ ⟨_,fk⟩ Dw ee;refine LK (lo:=0) (n:=(jn:Int).toNat) (λdc σ Hu=>(∃kx,σ=[kx,some<|.ref hd,some<|.ref pn])/\FrS [hd] Hq Hu/\∃(du mu tu:Int)(ws:List Str),Hand Hu hd du mu tu r/\tu<=tq+dc/\Hu Dw=some (.lst<|ws.map V.str)/\↑ws=dc/\∀x∈ws,x∈tr.map (·.1))
    ⟨⟨_,rfl⟩,FrS.new b9,dq,mq,tq,[],cn.new b9,by lia,zb1,rfl,by simp⟩ ?_ ?_
   .rintro dc σ Hu gx ⟨⟨kx,rfl⟩,fu,du,mu,tu,ws,cu,gy,cg,c8,b0⟩;have dm:Hu pn=some (.lst<|(tr.map (·.1)).map V.str):=fu _ _ (by simpa using a9)<|fq _ _ (by simpa using a9)<|a5 Z go;refine⟨_,rfl,_,rfl,hd,pn,du,mu,tu,r,_,rfl,cu,by lia,a9,SqL.of dm,by simpa using bi,by rw[aK];lia,λv dv mv tv hv cv ev=>?_⟩;obtain⟨nm,gv,rfl⟩:=wn7.mp hv;refine⟨_,by rw[aC bj];exact cg,by rw[aK];exact bH (by lia),⟨_,rfl⟩,(fu.put'<|by trivial).put b9,dv,mv,tv,ws++[nm],⟨by rw[aC bj.symm];exact zb1,cv⟩,by lia,by rw[zb1,bO];rfl,by rw[bI,c8];rfl,λx I=>?_⟩;rcases wp5.mp I with h | h
    .exact b0 x h
    .rw[wn1.mp h];exact gv
   rintro σ Hu ⟨_,fu,du,mu,tu,ws,cu,gy,cg,c8,b0⟩;have gn:FrS [hd] Z Hu:=fq.trans fu;refine⟨_,rfl,_,rfl,_,rfl,dM rfl,λpk dg=>?_⟩;have bf:FrS [hd] Z (upd Hu pk<|.tup [V.str qs[j],V.str ds[i]]):=gn.trans<|FrS.new dg;have fc:upd Hu pk (.tup [V.str qs[j],V.str ds[i]]) Dw=some (.lst<|ws.map V.str):=by rw[aC<|aP cg dg];exact cg
   have de:=cu.new (o:=.tup [V.str qs[j],V.str ds[i]]) dg;have b5:upd Hu pk (.tup [V.str qs[j],V.str ds[i]]) pk=some (.tup [V.str qs[j],V.str ds[i]]):=zb1;generalize upd Hu pk (.tup [V.str qs[j],V.str ds[i]])=Hk at bf fc de b5;have eo:=bf _ _ (by simpa using cb.symm) ga;have er:Dw≠G:=λz=>bg (by rw[z];simp)
   refine⟨G,_,rfl,DPut.t (k:=[Sum.inr qs[j],Sum.inr ds[i]]) eo b5 (bH<|by lia),_,du,mu,tu,_,rfl,fz.trans ((bf.mono<|by trivial).put'<|by trivial),⟨by rw[aC cb];exact de.1,de.2⟩,by lia,by rw[aC ad];exact bf _ _ (by simpa using cr.symm) fk,zb1,?_,?_,by rw[aC aj];exact bf _ _ (by simpa using cc.symm) g6⟩
   .have:=jV wz [Sum.inr qs[j],Sum.inr ds[i]]<|V.ref Dw;lia
   .have W1:=d3.keep ((bf.mono (T:=[hd,G,C,u])<|by trivial).put' (a:=G) (o:=.dT<|aN wz [Sum.inr qs[j],Sum.inr ds[i]]<|.ref Dw)<|by trivial);refine(W1.put (r:=qs[j]) (d:=ds[i]) (p:=Dw) (ws:=ws) ⟨bg,by rw[aC er];exact fc⟩ (by lia) b0).mono λa b h=>?_
    rcases h with h | ⟨h1,h2⟩
    .exact .inl<|.inl h
    .rw[gD,bD hj]at h1;rcases wp5.mp h1 with h1 | h1
     .exact .inl<|.inr ⟨h1,h2⟩
     .have:a=qs[j]:=by simpa using h1
      exact .inr ⟨this,h2⟩
  rintro σ ak ⟨iq,dA,mA,tA,wA,rfl,fA,gh,gz,ff,f9,eu,au,gi⟩;subst bu
  first | refine jI ?_ | skip
  refine eV λN2 bu=>?_;have h5:↑(ba.map λkv=>kV kv.1)=↑qs:=by rw[eq,aK]
  rw[h5]at gz eu au;rw[fS<|aU _]at au;have aw:FrS [hd,G,C,u] Hb ak:=(M.trans<|ac.mono<|by trivial).trans fA;have d9:OwnOk [hd,G,C,u] ak (tr.map (·.1)) ok (λb=>b∈ds.take i):=a0.keep<|(ac.mono<|by trivial).trans fA;refine⟨bM _,λps al=>?_⟩;subst bu
  first | refine jI ?_ | skip
  refine eV λN2 bu=>?_;have dj:ps∉[hd,G,C,u]:=ci ak ⟨_,gh.1⟩ ⟨_,f9⟩ ⟨_,gi⟩ ⟨_,ff⟩ ps al;have ca:ps≠hd:=λz=>dj (by rw[z];simp)
  have ih:ps≠pn:=λz=>by rw[z,a5 ak aw]at al;cases al
  exists _,rfl,tp,rfl,⟨_,SqL.of<|by rw[aC<|aP (bd.keep aw).2 al];exact(bd.keep aw).2⟩;refine nH (xs:=ts.map V.ref) (zL ak hd tp lp pn pd px G C u ps r tA tr ds[i])
   ⟨_,_,dA,mA,tA,[],rfl,FrS.new al,gh.new al,by lia,zb1,by simp,by simp⟩ ?_ ?_ ?_
  .rintro j σ Z hj ⟨_,_,_,_,_,_,_,fz,_⟩;exact SqL.of ((bd.keep aw).keep<|fz.mono<|by trivial).2
  .rintro j x σ Z I ⟨nz,ez,dz,mz,tz,ss,rfl,fz,af,d8,bv,bt,ag⟩;rw[bN]at I;obtain⟨tt,a8,rfl⟩:=wp4.mp I;obtain⟨hj,_⟩:=zz2.mp a8;have bh:tr[j]?=some tr[j]:=bD (by lia);have e3:=((b2 j tt _ a8 bh).keep aw).keep (fz.mono<|by trivial);exists tt,_,rfl,SqT.of e3.2,rfl,_,_,rfl,_,_,rfl,rfl;refine⟨_,rfl,dM rfl,λp2 an=>?_⟩;obtain⟨kk,b5,gw,j1⟩:∃kk:Int,eE [V.int 3,V.int 2] (if decide (aV tr[j].2=V.non)=true then 1 else 0)=some (.int kk)/\0<kk/\kk<10:=by
    cases tr[j].2 with
    | none=>exact⟨2,rfl,by decide,by decide⟩
    | some e=>exact⟨3,rfl,by decide,by decide⟩
   refine⟨_,rfl,.inr ⟨_,rfl,p2,_,_,V.int kk,rfl,rfl,SqL.of zb1,b5,hd,dz,mz,tz,r,kk,rfl,af.new an,by lia,gw,by lia,λy dv mv tv y0 y1 cv ev=>⟨rfl,_,rfl,?_⟩⟩⟩;have cx:upd (upd Z p2<|.lst [V.int 3,V.int 2]) hd (hl dv mv tv r) ps=some (.lst<|ss.map V.str):=by rw[aC ca,aC<|aP bv an];exact bv
   have fv:FrS [hd] ak (upd (upd Z p2<|.lst [V.int 3,V.int 2]) hd<|hl dv mv tv r):=(fz.trans<|FrS.new an).put' (by trivial);have e5:Hand (upd (upd Z p2<|.lst [V.int 3,V.int 2]) hd<|hl dv mv tv r) hd dv mv tv r:=Hand.at cv;refine bG (λc=>?_) λc=>?_
   .refine⟨_,rfl,.inl ⟨rfl,_,SqL.of cx⟩,_,rfl,ps,_,_,rfl,rfl,cx,by rw[aK];exact bH (by lia),_,_,dv,mv,tv,ss++[tr[j].1],rfl,fv.put al,⟨by rw[aC ca.symm];exact e5.1,e5.2⟩,by lia,by rw[zb1,bO];rfl,by rw[bI,dR];lia,λx I=>?_⟩;rcases wp5.mp I with h | h
    .exact ag x h
    .rw[wn1.mp h];exact wn7.mpr ⟨_,cW bh,rfl⟩
   .exact⟨_,_,dv,mv,tv,ss,rfl,fv,e5,by lia,cx,by lia,ag⟩
  rintro σ ab ⟨nz,ez,dz,mz,tz,ss,rfl,fz,af,d8,bv,bt,ag⟩;subst bu
  first | refine jI ?_ | skip
  rw[aK]at d8 bt;have fn:FrS [hd,G,C,u] ak ab:=fz.mono (by trivial);have c5:=a5 ab<|aw.trans fn;have h0:0<↑(tr.map (·.1)):=List.length_pos_iff.mpr bi;have em:eE ((tr.map (·.1)).map V.str) 0=some (.str (tr.map (·.1))[0]):=by
   have:=lQ (xs:=(tr.map (·.1)).map V.str) (j:=0) (v:=.str (tr.map (·.1))[0]) (by rw[bN,bD h0];rfl);exact this
  refine⟨_,rfl,_,rfl,pn,_,_,_,rfl,rfl,SqL.of c5,em,dM rfl,λp1 e9=>?_⟩;refine⟨_,rfl,bM _,λpe bw=>?_⟩;have b4:upd ab p1 (.lst [V.str (tr.map (·.1))[0]]) ps=some (.lst<|ss.map V.str):=by rw[aC<|aP bv e9];exact bv
  have ao:ps≠pe:=aP b4 bw;have dy:p1≠pe:=λz=>by rw[<-z,zb1]at bw;cases bw
  refine⟨ps,pe,_,rfl,rfl,ao,SqL.of (by rw[aC ao];exact b4),SqL.of zb1,.inr ⟨_,rfl,?_⟩⟩;obtain⟨kk,b5,zs,i6,ix,hs⟩:∃kk:Int,(if ((ss.map V.str).isEmpty != false)=true then(1:Int) else 0)=kk/\∃zs:List Str,(List.replicate kk.toNat [V.str (tr.map (·.1))[0]]).flatten=zs.map V.str/\↑zs<=1/\∀x∈zs,x∈tr.map (·.1):=by
   cases ss with
   | nil=>exact⟨1,rfl,[(tr.map (·.1))[0]],rfl,by simp,λx I=>by rw[wn1.mp I];exact iK h0⟩
   | cons y ys=>exact⟨0,rfl,[],rfl,by simp,by simp⟩
  have hw:kk=0\/kk=1:=by
   rw[<-b5]
   split
   .exact .inr rfl
   .exact .inl rfl
  rw[b5];refine⟨p1,kk,_,rfl,rfl,by rw[aC dy];exact zb1,by lia,by lia,?_,λp2 an=>?_⟩
  .rcases hw with rfl | rfl
   .show 1*0<=sizeLine;lia
   .show 1*1<=sizeLine;exact cL (bH<|by lia)
  rw[i6];have bz:upd (upd ab p1<|.lst [V.str (tr.map (·.1))[0]]) pe (.lst []) ps=some (.lst<|ss.map V.str):=by rw[aC ao];exact b4
  refine⟨ps,p2,_,_,rfl,rfl,by rw[aC<|aP bz an];exact bz,zb1,by rw[aK,aK];exact cL (bH<|by lia),λp3 gd=>?_⟩;rw[<-bO];have bb:FrS [] ab (upd (upd (upd (upd ab p1<|.lst [V.str (tr.map (·.1))[0]]) pe<|.lst []) p2<|.lst<|zs.map V.str) p3<|.lst<|(ss++zs).map V.str):=by
   refine(((FrS.new e9).trans<|FrS.new bw).trans<|FrS.new an).trans (FrS.new ?_);exact gd
  have c2:upd (upd (upd (upd ab p1<|.lst [V.str (tr.map (·.1))[0]]) pe<|.lst []) p2<|.lst<|zs.map V.str) p3 (.lst<|(ss++zs).map V.str) p3=some (.lst<|(ss++zs).map V.str):=zb1;have ei:ab p3=none:=FrS.old (S:=[]) (((FrS.new e9).trans<|FrS.new bw).trans<|FrS.new an) (by trivial) gd;generalize upd (upd (upd (upd ab p1<|.lst [V.str (tr.map (·.1))[0]]) pe<|.lst []) p2<|.lst<|zs.map V.str) p3 (.lst<|(ss++zs).map V.str)=gs at bb c2;have bk:=fz _ _ (by simpa using cc.symm) gi;have bp:=fz _ _ (by simpa using cb.symm) f9;have bq:=fz _ _ (by simpa using cr.symm) ff;have bn:p3∉[hd,G,C,u]:=ci ab ⟨_,af.1⟩ ⟨_,bp⟩ ⟨_,bk⟩ ⟨_,bq⟩ p3 ei;have ef:p3≠C:=λz=>bn (by rw[z];simp)
  exists _,rfl,_,rfl,C,_,rfl,DPut.k (k:=(Sum.inr ds[i]:aG)) (bb _ _ (by trivial) bk) (bH<|by lia);have d7:FrS [hd,G,C,u] ak (upd gs C<|.dK<|aN ok (Sum.inr ds[i])<|.ref p3):=(fn.trans<|bb.mono<|by trivial).put' (by trivial);exists _,_,_,_,dz,mz,tz,wA,aN ok (Sum.inr ds[i])<|.ref p3,rfl,aw.trans d7,⟨by rw[aC cc];exact bb _ _ (by trivial) af.1,af.2⟩,by lia,by rw[aC ah];exact bb _ _ (by trivial) bq,by rw[aC aj.symm];exact bb _ _ (by trivial) bp,by lia,?_,zb1,?_
  .refine(au.keep d7).mono λa b h=>?_;rw[gD,bD hi]at h;rcases wp5.mp h.2 with h2 | h2
   .exact .inl ⟨h.1,h2⟩
   .exact .inr ⟨ia a h.1,by simpa using h2⟩
  .have:=jV ok (Sum.inr ds[i])<|V.ref p3;lia
  .refine((d9.keep d7).put (d:=ds[i]) (p:=p3) (os:=ss++zs) ⟨bn,by rw[aC ef];exact c2⟩ (λx I=>?_)<|by rw[bI];lia).mono' λa h=>?_
   .rcases wp5.mp I with h | h
    .exact ag x h
    .exact hs x h
   .rw[gD,bD hi]at h;rcases wp5.mp h with h2 | h2
    .exact .inl h2
    .exact .inr (by simpa using h2)
 rintro σ B ⟨nx,ex,dx,sx,da,ma,ta,wk,ok,rfl,M,av,g7,a7,ce,i1,c1,cm,i7,a0⟩;subst X
 first | refine jI ?_ | skip
 rw[aK]at g7 c1 a0;rw[fS<|aU _]at c1 a0;intro p hp;have ae:=(gl.keep M).2;refine⟨_,rfl,_,rfl,_,rfl,_,rfl,_,rfl,_,rfl,_,rfl,px,_,rfl,SqL.of (by rw[aC<|aP ae hp];exact ae),λq1 dh=>?_⟩;have e1:cP (xs.map V.str) none (some 4)=(xs.take 4).map V.str:=by rw[vP];exact JD (xs.map V.str) (n:=4) (by rw[aK];lia)
 rw[e1];have g1:FrS [] B (upd (upd B p<|.dK []) q1<|.lst<|(xs.take 4).map V.str):=(FrS.new hp).trans<|FrS.new dh;have p1:upd (upd B p<|.dK []) q1 (.lst<|(xs.take 4).map V.str) p=some (.dK []):=by rw[aC<|aP (o:=.dK []) zb1 dh];exact zb1
 have v1:upd (upd B p<|.dK []) q1 (.lst<|(xs.take 4).map V.str) q1=some (.lst<|(xs.take 4).map V.str):=zb1;have ii:B q1=none:=(FrS.new (S:=[]) (o:=.dK []) hp).old (by trivial) dh;generalize upd (upd B p<|.dK []) q1 (.lst<|(xs.take 4).map V.str)=K1 at g1 p1 v1;refine⟨_,rfl,_,rfl,_,rfl,px,_,rfl,SqL.of<|g1 _ _ (by trivial) ae,λq2 db=>?_⟩;have e2:cP (xs.map V.str) (some 4) (some 8)=((xs.drop 4).take 4).map V.str:=by rw[vP,BD];exact YR (xs.map V.str) (a:=4) (b:=8) (by rw[aK];lia) (by lia)
 rw[e2];have g2:FrS [] K1 (upd K1 q2<|.lst<|((xs.drop 4).take 4).map V.str):=FrS.new db;have v2:upd K1 q2 (.lst<|((xs.drop 4).take 4).map V.str) q2=some (.lst<|((xs.drop 4).take 4).map V.str):=zb1;have i8:B q2=none:=g1.old (by trivial) db;have ar:=db;generalize upd K1 q2 (.lst<|((xs.drop 4).take 4).map V.str)=K2 at g2 v2;refine⟨_,rfl,_,rfl,px,_,rfl,SqL.of<|g2 _ _ (by trivial)<|g1 _ _ (by trivial) ae,λq3 cd=>?_⟩;have e3:cP (xs.map V.str) (some 6) none=(xs.drop 6).map V.str:=by rw[BD];exact NZ (xs.map V.str) (n:=6) (by rw[aK];lia)
 rw[e3];have g3:FrS [] K2 (upd K2 q3<|.lst<|(xs.drop 6).map V.str):=FrS.new cd;have v3:upd K2 q3 (.lst<|(xs.drop 6).map V.str) q3=some (.lst<|(xs.drop 6).map V.str):=zb1;generalize upd K2 q3 (.lst<|(xs.drop 6).map V.str)=K3 at g3 v3;intro pt cf;have g4:FrS [] K3 (upd K3 pt<|.dK []):=FrS.new cf;have v4:upd K3 pt (.dK []) pt=some (.dK []):=zb1;generalize upd K3 pt (.dK [])=K4 at g4 v4;intro ph c9;have g5:FrS [] K4 (upd K4 ph<|.dK []):=FrS.new c9;have v5:upd K4 ph (.dK []) ph=some (.dK []):=zb1;generalize upd K4 ph (.dK [])=K5 at g5 v5;have dr:FrS [] K1 K5:=((g2.trans g3).trans g4).trans g5;have i0:FrS [] B K5:=g1.trans dr;have g9:FrS [] B K3:=(g1.trans g2).trans g3;have gj:FrS [] B K4:=g9.trans g4;have ct:B pt=none:=g9.old (by trivial) cf;have cy:B ph=none:=gj.old (by trivial) c9;have bc:=dr _ _ (by trivial) p1;have dd:pt≠ph:=aP v4 c9;have ft:p≠pt:=λz=>by rw[<-z,(g2.trans g3) _ _ (by trivial) p1]at cf;cases cf
 have bm:p≠ph:=λz=>by rw[<-z,((g2.trans g3).trans g4) _ _ (by trivial) p1]at c9;cases c9
 refine⟨_,rfl,bc,[(Sum.inr "tree",.ref tp),(Sum.inr "late",.ref lp),(Sum.inr "deeds",.ref pd),(Sum.inr "wants",.ref G),(Sum.inr "owners",.ref C),(Sum.inr "vars",.ref q1),(Sum.inr "params",.ref q2),(Sum.inr "fields",.ref q3),(Sum.inr "told",.ref pt),(Sum.inr "held",.ref ph),(Sum.inr "roots",.ref u)],rfl,by show 11<=15;decide,?_⟩;have cw:(([(Sum.inr "tree",.ref tp),(Sum.inr "late",.ref lp),(Sum.inr "deeds",.ref pd),(Sum.inr "wants",.ref G),(Sum.inr "owners",.ref C),(Sum.inr "vars",.ref q1),(Sum.inr "params",.ref q2),(Sum.inr "fields",.ref q3),(Sum.inr "told",.ref pt),(Sum.inr "held",.ref ph),(Sum.inr "roots",.ref u)]:List (aG×V)).map (·.1)).Nodup:=by
  show([Sum.inr "tree",Sum.inr "late",Sum.inr "deeds",Sum.inr "wants",Sum.inr "owners",Sum.inr "vars",Sum.inr "params",Sum.inr "fields",Sum.inr "told",Sum.inr "held",Sum.inr "roots"]:List aG).Nodup
  rfl'
 rw[GG _ [] (by rw[vT];exact cw),vT];generalize hkvs:([(Sum.inr "tree",.ref tp),(Sum.inr "late",.ref lp),(Sum.inr "deeds",.ref pd),(Sum.inr "wants",.ref G),(Sum.inr "owners",.ref C),(Sum.inr "vars",.ref q1),(Sum.inr "params",.ref q2),(Sum.inr "fields",.ref q3),(Sum.inr "told",.ref pt),(Sum.inr "held",.ref ph),(Sum.inr "roots",.ref u)]:List (aG×V))=kvs at cw;have gt:∀(j:Nat)(k:aG)(v:V),kvs[j]?=some (k,v)->aF kvs k=some v:=λj k v h=>SK cw h;have kp:∀b o,K5 b=some o->b≠p->upd K5 p (.dK kvs) b=some o:=λb o e n=>by rw[aC n];exact e
 have kx:∀b o,B b=some o->upd K5 p (.dK kvs) b=some o:=λb o e=>kp b o (i0 _ _ (by trivial) e)<|aP e hp
 have be:=av.1;have st:∀b o,b≠hd->B b=some o->Stt [hd,pt,ph] (upd K5 p<|.dK kvs) b o:=λb o n e=>⟨by simp only[wm9,aX,cY,fG];exact⟨n,aP e ct,aP e cy⟩,kx b o e⟩
 have ek:q1≠p:=λz=>by rw[z,p1]at v1;cases v1
 have eb:q2≠p:=λz=>by rw[z]at ar;rw[p1]at ar;cases ar
 have dp:q3≠p:=λz=>by rw[z,g2 _ _ (by trivial) p1]at cd;cases cd
 have hq:B q3=none:=(g1.trans g2).old (by trivial) cd;have w1:=dr _ _ (by trivial) v1;have w2:=((g3.trans g4).trans g5) _ _ (by trivial) v2;have w3:=(g4.trans g5) _ _ (by trivial) v3;have w4:=g5 _ _ (by trivial) v4;have sl:∀(b:Addr)(zs:List Str),K5 b=some (.lst<|zs.map V.str)->b≠p->B b=none->Stt [hd,pt,ph] (upd K5 p<|.dK kvs) b (.lst<|zs.map V.str):=λb zs e n e0=>⟨by
  simp only[wm9,aX,cY,fG];exact⟨(λz=>by rw[z,be]at e0;cases e0),(λz=>by rw[z,w4]at e;cases e),(λz=>by rw[z,v5]at e;cases e)⟩,kp b _ e n⟩
 have dn:=cr.symm;have ej:=cb.symm;have en:=cc.symm;obtain⟨own,eh⟩:∃own:Str->List Str,∀d' (b8:d'∈ds),own d'=(a0 d' b8).choose_spec.choose:=by
  classical
  exact⟨λd'=>if h:d'∈ds then(a0 d' h).choose_spec.choose else [],λd' h=>dif_pos h⟩
 refine q p ⟨tp,lp,pd,G,C,q1,q2,q3,pt,ph,u⟩ ⟨tr,late,ds,xs.take 4,(xs.drop 4).take 4,xs.drop 6,wk,ok,J,own⟩ _ ta ⟨⟨da,ma,kx _ _ av.1,av.2⟩,⟨[],kp _ _ w4 ft.symm,DOk.nil⟩,⟨[],kp _ _ v5 bm.symm,DOk.nil⟩,⟨⟨kvs,⟨?_,zb1⟩,?_⟩,⟨ts,st _ _ aq (bd.keep M).2,fm,λj t' x a b=>st _ _ (e6 j t' x a b) ((b2 j t' x a b).keep M).2⟩,st _ _ b3 (h6.keep M).2,st _ _ ax (di.keep M).2,sl _ _ w1 ek ii,sl _ _ w2 eb i8,sl _ _ w3 dp hq,st _ _ ej ce,st _ _ en cm,st _ _ dn a7,?_,?_⟩,?_,?_⟩ ?_ ?_ ?_ ?_
 .simp only[wm9,aX,cY,fG];exact⟨(λz=>by rw[z,be]at hp;cases hp),ft,bm⟩
 .rw[<-hkvs]at gt ⊢;exact⟨gt 0 _ _ rfl,gt 1 _ _ rfl,gt 2 _ _ rfl,gt 3 _ _ rfl,gt 4 _ _ rfl,gt 5 _ _ rfl,gt 6 _ _ rfl,gt 7 _ _ rfl,gt 8 _ _ rfl,gt 9 _ _ rfl,gt 10 _ _ rfl⟩
 .intro n' i5 d' b8;have hn:(Sum.inr n':aG)∈J.map (·.1):=by
   rw[aa.1];obtain⟨z,hz,ez⟩:=wn7.mp i5;exact wn7.mpr ⟨z,hz,by rw[<-ez]⟩
  obtain⟨v,hv⟩:∃v,aF J (Sum.inr n')=some v:=by
   cases hv:aF J (Sum.inr n')with
   | some v=>exact⟨v,rfl⟩
   | none=>exact absurd hn<|DG hv
  obtain⟨rt,rfl,fa⟩:=b1.val hv;have ed:rt∈rs:=by
   rw[ch]at fa;obtain⟨y,hy,ey⟩:=wn7.mp fa;cases ey;exact hy
  obtain⟨pp,ws,a1,a2,a3,a4⟩:=c1 rt d' ⟨ed,b8⟩;exact⟨rt,pp,ws,hv,a1,st _ _ (λz=>a2.1<|by rw[z];simp) a2.2,a3,a4⟩
 .intro d' b8;have e0:=eh d' b8;obtain⟨a1,a2,a3,a4⟩:=(a0 d' b8).choose_spec.choose_spec;rw[<-e0]at a2 a3 a4;exact⟨_,a1,st _ _ (λz=>a2.1<|by rw[z];simp) a2.2,a3,a4⟩
 .show([hd,pt,ph]:List Addr).Nodup;simp only[wq7,wm9,aX,cY,fG];exact⟨⟨aP be ct,aP be cy⟩,dd,not_false,kQ⟩
 .exact⟨hok,ie,fh,fr,ij,gm,hk,(by show ds≠[];intro z;rw[z]at g8;simp at g8;lia),by show ↑ds<=6;lia,by show(xs.take 4).length=4;rw[eK];lia,by show((xs.drop 4).take 4).length=4;rw[eK,lE];lia,by show(xs.drop 6).length=3;rw[lE];lia⟩
 .exact(d2 B M).trans λb o n e=>kx b o e
 .show H pt=none;exact(d2 B M).old (λb hb=>by rw[wn1.mp hb];exact⟨_,be⟩) ct
 .show H ph=none;exact(d2 B M).old (λb hb=>by rw[wn1.mp hb];exact⟨_,be⟩) cy
 .lia
abbrev FZ:Stmt:=top 66
abbrev Dz:=Str×Addr×List Addr×List Addr
inductive RowsIs(Z:Str->Option Str->Prop)(H:Hp)(z:Dz):Prop
 | mk(h2:H z.2.1=some (.tup<|z.2.2.1.map V.ref))(h3:Fl Z H 4 z.2.2.1 z.2.2.2)(h4:↑z.2.2.2<=80):RowsIs Z H z
theorem RowsIs.keep(h:RowsIs Z H z)(f:Tup H H'):RowsIs Z H' z:=by
 obtain⟨h2,a,b⟩:=h;exact⟨f _ _ h2,a.keep f,b⟩
inductive DeedIs(Z:Str->Option Str->Prop)(H:Hp)(f:Addr)(z:Dz):Prop
 | mk(pv gv:V)(h1:H f=some (.tup [.str z.1,pv,.ref z.2.1,gv]))(h3:DpG H pv gv)(h2:RowsIs Z H z):DeedIs Z H f z
theorem DeedIs.keep(h:DeedIs Z H a z)(f:Tup H H'):DeedIs Z H' a z:=by
 obtain⟨pv,gv,h1,b,h2⟩:=h;exact⟨pv,gv,f _ _ h1,b.keep f,h2.keep f⟩
inductive KindIs(Z:Str->Option Str->Prop)(H:Hp)(u:Addr)(y:Str×List Dz):Prop
 | mk(e:V)(dt:Addr)(fs:List Addr)(h1:H u=some (.tup [.str y.1,e,.ref dt]))(h2:H dt=some (.tup<|fs.map V.ref))(h3:↑fs=↑y.2)(h4:∀(j:Nat) f z,fs[j]?=some f->y.2[j]?=some z->DeedIs Z H f z)(h5:↑fs<=80):KindIs Z H u y
theorem KindIs.keep(h:KindIs Z H a z)(f:Tup H H'):KindIs Z H' a z:=by
 obtain⟨e,i,fs,h1,h2,l,d,m⟩:=h;exact⟨e,i,fs,f _ _ h1,f _ _ h2,l,λj g z a b=>(d j g z a b).keep f,m⟩
inductive ProgIs(Z:Str->Option Str->Prop)(H:Hp)(p:Addr)(ks:List (Str×List Dz))(m0:Dz):Prop
 | mk(kt:Addr)(us:List Addr)(lt:V)(h1:H p=some (.tup [.ref kt,lt,.ref m0.2.1]))(h2:H kt=some (.tup<|us.map V.ref))(h3:↑us=↑ks)(h4:∀(j:Nat) u y,us[j]?=some u->ks[j]?=some y->KindIs Z H u y)(h5:RowsIs Z H m0)(h6:↑ks<=12):ProgIs Z H p ks m0
theorem ProgIs.keep(h:ProgIs Z H p ks m0)(f:Tup H H'):ProgIs Z H' p ks m0:=by
 obtain⟨i,us,lt,h1,h2,l,e,m,d⟩:=h;exact⟨i,us,lt,f _ _ h1,f _ _ h2,l,λj g z a b=>(e j g z a b).keep f,m.keep f,d⟩
def Tup.dk(hp:H p=some (.dK kv)):Tup H (upd H p o):=λb xs h=>by
 rw[aC λz=>by rw[z,hp]at h;cases h];exact h
inductive LateAt(H:Hp)(p:Addr)(tr:Tr)(late:List Str):Prop
 | mk(kt lt:Addr)(m:V)(h1:H p=some (.tup [.ref kt,.ref lt,m]))(h2:H lt=some (.tup<|late.map V.str))(h3:↑late<=64)(h4:yF tr late)(h5:∃x∈tr,x.1∉late):LateAt H p tr late
def LateAt.keep(h:LateAt H p tr late)(f:Tup H H'):LateAt H' p tr late:=by
 obtain⟨b,lt,m,h1,h2,d,a,e⟩:=h;exact⟨b,lt,m,f _ _ h1,f _ _ h2,d,a,e⟩
def KindsAt.keepT(h:KindsAt H p tr)(f:Tup H H'):KindsAt H' p tr:=by
 obtain⟨i,ts,x,y,h1,h2,l,e⟩:=h;refine⟨i,ts,x,y,f _ _ h1,f _ _ h2,l,λj t z a b=>?_⟩;obtain⟨v,d⟩:=e j t z a b;exact⟨v,f _ _ d⟩
structure CW(Z:Str->Option Str->Prop)(ks:List (Str×List Dz))(tr:Tr):Prop where
 nm:ks.map (·.1)=tr.map (·.1)
 nb:∀k,Z k none->k∈tr.map (·.1)
 hz:∀k d,Z k (some d)->k∈tr.map (·.1)/\∃n l,Up tr k l/\n∈l/\∃y∈ks,y.1=n/\∃z∈y.2,z.1=d
 dl:∃ds:List Str,↑ds<=6/\∀k d,Z k (some d)->d∈ds
inductive PV(vs:List V)(H:Hp)(Q:VK):Prop
 | mk(hd:Addr)(mo d m t r:Int)(h1:vs=[.ref hd,.int mo])(h0:0<=mo/\mo<=80)(h2:Hand H hd d m t r)(h3:t<=1000)
  (h4:∀(p:Addr)(ks:List (Str×List Dz))(m0:Dz)(tr:Tr)(late:List Str)(Z:Str->Option Str->Prop)(H':Hp)(d' m' t' r':Int),FrS [hd] H H'->ProgIs Z H' p ks m0->KindsAt H' p tr->TrOk tr->↑tr<=12->LateAt H' p tr late->CW Z ks tr->Hand H' hd d' m' t' r'->t'<=10000->Q (.ref p) H'):PV vs H Q
def GX:Sp:=λvs H Q _=>PV  vs H Q
def Heads(Z:Str->Option Str->Prop)(H:Hp)(fs:List Addr):Prop:=∀f∈fs,∃z,DeedIs Z H f z
theorem Heads.keep(h:Heads Z H fs)(g:Tup H H'):Heads Z H' fs:=λf b=>by
 obtain⟨z,a⟩:=h f b;exact⟨z,a.keep g⟩
inductive RM(Z:Str->Option Str->Prop)(Hb H:Hp)(c:Nat)(v:V):Prop
 | mk(p:Addr)(fs:List Addr)(h1:v=.ref p)(h2:H p=some (.lst<|fs.map V.ref))(h3:↑fs<=c)(h4:Hb p=none)(h5:Heads Z H fs):RM Z Hb H c v
def BK(Z:Str->Option Str->Prop)(Hb H:Hp)(kvs:List (aG×V))(c:Nat):Prop:=↑kvs<=c/\∀k v,aF kvs k=some v->RM Z Hb H c v
theorem BK.keep(h:BK Z Hb H kvs c)(f:FrS M H H')(i:∀p,Hb p=none->p∉M)(tp:Tup H H'):BK Z Hb H' kvs c:=⟨h.1,λk v e=>by
 obtain⟨p,xs,a,b,c',d,g⟩:=h.2 k v e;exact⟨p,xs,a,f _ _ (i p d) b,c',d,g.keep tp⟩⟩
def BK.put(h:BK Z Hb H kvs c)(hp:H p=some (.lst<|fs.map V.ref))(hl:↑fs<=c+1)(i:Hb p=none)(j:Heads Z H fs):BK Z Hb H (aN kvs k<|.ref p) (c+1):=by
 refine⟨by have:=jV kvs k<|V.ref p;have:=h.1;lia,λf v e=>?_⟩;rw[jF]at e
 by_cases z:f=k
 .rw[bC z]at e;cases e;exact⟨p,fs,rfl,hp,hl,i,j⟩
 .rw[aY z]at e;obtain⟨m,l,a,b,c',d,g⟩:=h.2 f v e;exact⟨m,l,a,b,by lia,d,g⟩
def BK.app(h:BK Z Hb H kvs c)(hp:H p=some (.lst xs))(hl:↑gs<=c)(i:Heads Z H gs):BK Z Hb (upd H p<|.lst<|gs.map V.ref) kvs c:=by
 have kp:Tup H (upd H p<|.lst<|gs.map V.ref):=Tup.lst hp;refine⟨h.1,λk v e=>?_⟩;obtain⟨f,j,a,b,c',d,g⟩:=h.2 k v e
 by_cases z:f=p
 .subst z;exact⟨f,gs,a,zb1,hl,d,i.keep kp⟩
 .exact⟨f,j,a,by rw[aC z];exact b,c',d,g.keep kp⟩
def BK.more(h:BK Z Hb H kvs c)(l:c<=c'):BK Z Hb H kvs c':=⟨by have:=h.1;lia,λk v e=>by
 obtain⟨i,f,a,b,j,d,g⟩:=h.2 k v e;exact⟨i,f,a,b,by lia,d,g⟩⟩
theorem nV:∀fs:List Addr,Heads Z H fs->∃zs:List Dz,↑fs=↑zs/\∀(i:Nat) f z,fs[i]?=some f->zs[i]?=some z->DeedIs Z H f z
 | [],_=>⟨[],rfl,λi f d h=>by simp at h⟩
 | f::fs,h=>by
  obtain⟨d,e⟩:=h f<|.head _;obtain⟨ds,h1,h2⟩:=nV fs λg a=>h g<|.tail _ a;refine⟨d::ds,cK (·+1) h1,λi g d' a hd=>?_⟩;cases i with
  | zero=>cases a;cases hd;exact e
  | succ i=>exact h2 i g d' a hd
inductive KAt(Z:Str->Option Str->Prop)(Wn:Str->Str->Prop)(H:Hp)(u:Addr)(z:Str×Option Str):Prop
 | mk(dt:Addr)(fs:List Addr)(h1:H u=some (.tup [.str z.1,aV z.2,.ref dt]))(h2:H dt=some (.tup<|fs.map V.ref))(h3:↑fs<=80)(h4:Heads Z H fs)(h5:∀d,Wn z.1 d->∃f∈fs,∃y,DeedIs Z H f y/\y.1=d):KAt Z Wn H u z
theorem KAt.keep(h:KAt Z Wn H u z)(g:Tup H H'):KAt Z Wn H' u z:=by
 obtain⟨j,fs,h1,h2,l,a,m⟩:=h;exact⟨j,fs,g _ _ h1,g _ _ h2,l,a.keep g,λd hd=>by
  obtain⟨f,b,y,i,e⟩:=m d hd;exact⟨f,b,y,i.keep g,e⟩⟩
theorem oA:∀(us:List Addr)(tr:Tr),A2 (KAt Z Wn H) us tr->∃ks:List (Str×List Dz),↑us=↑ks/\(∀(j:Nat) u y,us[j]?=some u->ks[j]?=some y->KindIs Z H u y)/\ks.map (·.1)=tr.map (·.1)/\∀y∈ks,∀d,Wn y.1 d->∃z∈y.2,z.1=d
 | [],_,.nil=>⟨[],rfl,(λi f d h=>by simp at h),rfl,λ_ h=>nomatch h⟩
 | u::us,_,.cons (b:=z) g gt=>by
  obtain⟨G,fs,E,C,x,A,I⟩:=g;obtain⟨zs,m,n⟩:=nV fs A;obtain⟨ks,h1,h2,B,s⟩:=oA us _ gt;refine⟨(z.1,zs)::ks,cK (·+1) h1,λi g d' o hd=>?_,cK (z.1::·) B,λy l d hd=>?_⟩
  .cases i with
   | zero=>cases o;cases hd;exact⟨_,G,fs,E,C,m,n,x⟩
   | succ i=>exact h2 i g d' o hd
  .rcases wm9.mp l with rfl | l
   .obtain⟨f,w,y,l,e⟩:=I d hd;obtain⟨i,hi⟩:=wr6.mp w;have q:i<↑zs:=by rw[<-m];exact(zz2.mp hi).1
    obtain⟨_,_,r,_⟩:=n i f zs[i] hi<|bD q;obtain⟨_,_,a,_⟩:=l;rw[r]at a;exists zs[i],iK q;injection a with a;injection a with a;injection a with a _;exact(V.str.inj a).trans e
   .exact s y l d hd
def Got(Z:Str->Option Str->Prop)(H:Hp)(kvs:List (aG×V))(x d:Str):Prop:=∃(p:Addr)(fs:List Addr),aF kvs (Sum.inr x)=some (.ref p)/\H p=some (.lst<|fs.map V.ref)/\∃f∈fs,∃y,DeedIs Z H f y/\y.1=d
theorem Got.keep(h:Got Z H kvs x d)(i:BK Z Hb H kvs c)(f:FrS M H H')(n:∀p,Hb p=none->p∉M)(tp:Tup H H'):Got Z H' kvs x d:=by
 obtain⟨p,fs,e,hp,g,l,y,j,m⟩:=h;obtain⟨o,_,b,_,_,a,_⟩:=i.2 _ _ e;cases b;exact⟨p,fs,e,f _ _ (n p a) hp,g,l,y,j.keep tp,m⟩
theorem wB:∀{l a:List Addr},l.map V.ref=a.map V.ref->l=a
 | [],[],_=>rfl
 | [],_::_,h=>by cases h
 | _::_,[],h=>by cases h
 | x::l,y::a,h=>by
  rw[fH,fH]at h;injection h with h1 h2;rw[V.ref.inj h1,wB h2]
def Got.app(h:Got Z H kvs x d)(hp:H pl=some (.lst<|gs.map V.ref)):Got Z (upd H pl<|.lst<|(gs++[g0]).map V.ref) kvs x d:=by
 obtain⟨p,fs,e,a,g,f,y,b,i⟩:=h;have tp:Tup H (upd H pl<|.lst<|(gs++[g0]).map V.ref):=Tup.lst hp
 by_cases c:p=pl
 .subst c;rw[hp]at a;injection a with a;injection a with a;have:=wB a;subst this;exact⟨p,gs++[g0],e,zb1,g,tK _ f,y,b.keep tp,i⟩
 .exact⟨p,fs,e,by rw[aC c];exact a,g,f,y,b.keep tp,i⟩
def Got.put(h:Got Z H kvs x d)(a:aF kvs (Sum.inr x')=none):Got Z H (aN kvs (Sum.inr x') v) x d:=by
 obtain⟨p,fs,e,r⟩:=h;refine⟨p,fs,?_,r⟩;rw[jF,aY]
 .exact e
 .intro z;rw[z,a]at e;cases e
theorem Got.dk(h:Got Z H kvs x d)(f:H b=some (.dK kv)):Got Z (upd H b<|.dK kv') kvs x d:=by
 obtain⟨p,fs,e,a,g,j,y,i,l⟩:=h;exact⟨p,fs,e,by rw[aC λz=>by rw[z,f]at a;cases a];exact a,g,j,y,i.keep<|Tup.dk f,l⟩
def DL(D:WD)(x d:Str):Prop:=d∈D.deeds/\x∈D.own d
def iP(D:WD)(i:Nat)(H:Hp)(kvs:List (aG×V)):Prop:=∀j,j<i->∀dn,D.deeds[D.deeds.length-1-j]?=some dn->∀x∈D.own dn,Got (eO D) H kvs x dn
def KN(D:WD)(i j:Nat)(H:Hp)(kvs:List (aG×V)):Prop:=∀dn,D.deeds[D.deeds.length-1-i]?=some dn->∀jj,jj<j->∀x,(D.own dn)[jj]?=some x->Got (eO D) H kvs x dn
inductive BL(mo:Int)(H1:Hp)(hd wd bk:Addr)(WA:WA)(D:WD)(t1:Int)(i:Nat)(σ:St)(Hx:Hp):Prop
 | mk(lx kx:Option V)(tx rx:Int)(kvs:List (aG×V))(h1:σ=[some<|.ref hd,some<|.int mo,some<|.ref wd,some<|.ref bk,lx,kx,none,none])(h2:Sit0 Hx hd wd WA D tx rx)(h3:FrS (M0 hd WA) H1 Hx)(h4:0<=rx)(h5:rx<=54)(h6:tx+25*rx<=t1+1350+195*(i:Int))(h7:Hx bk=some (.dK kvs))(h8:BK (eO D) H1 Hx kvs (13*i))(h9:iP D i Hx kvs):BL mo H1 hd wd bk WA D t1 i σ Hx
inductive uK(mo:Int)(H1:Hp)(hd wd bk:Addr)(WA:WA)(D:WD)(t1 lv:Int)(i j:Nat)(σ:St)(Hy:Hp):Prop
 | mk(ky:Option V)(ty ry:Int)(kvs:List (aG×V))(h1:σ=[some<|.ref hd,some<|.int mo,some<|.ref wd,some<|.ref bk,some<|.int lv,ky,none,none])(h2:Sit0 Hy hd wd WA D ty ry)(h3:FrS (M0 hd WA) H1 Hy)(h4:0<=ry)(h5:ry<=54)(h6:ty+25*ry<=t1+1350+195*(i:Int)+15*(j:Int))(h7:Hy bk=some (.dK kvs))(h8:BK (eO D) H1 Hy kvs (13*i+j))(h9:iP D i Hy kvs)(h10:KN D i j Hy kvs):uK mo H1 hd wd bk WA D t1 lv i j σ Hy
abbrev AF:List Str:=[qH,"_law_most",qW,"_law_by_kind","_law_level","_law_kind","_law_main","_law_kinds"]
def zw5:bY AF [qH,"_law_most"] (bR FZ):=cC
def TN(F:Fun K "_law_program" "_law_program" FZ f fd)(T:aT P w K mg base k "_law_take" qB gG)(O:aT P w K mg base k "_law_of" qC (cS K))(W:aT P w K mg base k "_law_world" [qH] GE)(DE:aT P w K mg base k "_law_deed" CT CK)(R:aT P w K mg base k "_law_rows" jL (tS 4))(ml:mg "len"=none)(mr:mg "range"=none)(bz:mg "tuple"=none)(ex:mg "sorted"=none):
  aR P w K mg base bP (k+1) f fd [qH,"_law_most"] GX:=by
 refine F.ok zw5 (λvs H Q E h=>?_) λg1 A outer s H vs Q E hr h=>?_
 .obtain⟨hd,B,d,m,t,r,rfl,_⟩:=h;rfl
 obtain⟨hd,B,d,m,t,r,rfl,fr,hh,ht,q⟩:=h;have hr0:0<=B-B / 3/\B-B / 3<=54:=by lia
 have fp:0<=B / 3/\B / 3<=26:=by lia
 have hu:=dU hr;have ca:(["_law_name","_law_elder","_law_by_kind"]:List Str).Nodup:=by rfl'
 exists _,aL (sL 2 zw5.nd<|bB W hr rfl<|aA (pv 0) aE)
  (aL (gZ (i:=3) zw5.nd rfl (Or.inr rfl) mI) (aL (iM (bX kO (pv 1)<|bX yJ (pv 1) aO)<|uT (pv 0) aO sC) (aL (dX dO rfl (SU rfl mr<|aA (bX kO (eP jE rfl ml iJ<|aA (bQ hu (pv 2) bA λ_ _=>rfl) aE) aO)<|aA (pA nW aO)<|aA (pA nW aO) aE) (gL 4 zw5.nd)<|aS<|dX dO rfl (gU<|bQ hu (bQ hu (pv 2) bA λ_ _=>rfl) (eI (bQ hu (pv 2) bA λ_ _=>rfl)<|pv 4) λ_ _=>rfl) (gL 5 zw5.nd)<|aS<|dW<|eN eA eX eY eR (Am (pv 3) (pv 5) (cG aE) ⟨rfl,rfl,rfl,rfl⟩)<|aA (bB DE hr rfl<|aA (pv 0)<|aA (pv 2)<|aA (pv 5)<|aA (pv 4) aE) aE) (aL (iM (bX iX (eI (pv 0) aO)<|bX yJ (pv 1) aO)<|uT (pv 0) aO sC) (aL (sL 6 zw5.nd<|bB R hr rfl<|aA (pv 0)<|aA (pv 2)<|aA mI<|aA (pA nW aO)<|aA (bB T hr rfl<|aA (pv 0)<|aA aO aE)<|aA (bB O hr rfl<|aA (pv 0)<|aA (cG<|dE<|dE<|dE<|dE aE) aE) aE) (aL (oZ (i:=7) (N':=["_law_name","_law_elder","_law_by_kind"]) (src:=[none,none,some 3]) rfl zw5.nd rfl rfl eW (gU<|bQ hu (pv 2) bA λ_ _=>rfl) (g:=eG K 2<|dQ (bW 0)<|dQ (bW 1) dZ) (λ_ _ _ _=>eC (n:=2) rfl<|bJ (gL 0 ca)<|bJ (gL 1 ca) dY) (λ_ _ _ _=>gP) (te:=dB<|aZ (aJ 0)<|aZ (aJ 1)<|aZ (kJ (λxs H Q=>∃p ys,xs=[.ref p]/\((SqL K H p ys/\∀l,H l=none->Q (.ref l) (upd H l<|.tup ys))\/(SqT K H p ys/\Q (.ref p) H)))<|aZ (yG K (NG (aJ 2) (aJ 0)<|jU aW)<|LY (rU λi=>.int<|-i)<|tC<|.int 1) aW) aW) λ_ _ _ _=>bV<|aA (pv 0)<|aA (pv 1)<|aA (dV gS rfl bz (by rfl')<|aA (KD (QN hu (pv 2) (pv 0) (cG aE) ⟨rfl,rfl,rfl,rfl⟩)<|pA nW aO) aE) aE)
  (aS<|bT<|bV<|aA (dV gS rfl bz (by rfl')<|aA (pv 7) aE)<|aA (dV gS rfl bz (by rfl')<|aA (eP YN rfl ex (by rfl')<|aA (bQ hu (pv 2) bA λ_ _=>rfl) aE) aE)<|aA (pv 6) aE)))))))
 ac_rfl
 refine⟨_,rfl,hd,d,m,t,r,rfl,hh,by lia,λwd WA D H1 t1 S1 f1 b6 ax fe=>?_⟩;have h6:=S1.ok.d6;have e8:=S1.ok.l12;intro bk ba;have S2:=S1.fr0<|FrS.new (S:=[]) (o:=.dK []) ba;have af:bk∉M0 hd WA:=S1.notin ba;obtain⟨d2,m2,e6,es⟩:=S2.hand;exists _,rfl,_,rfl,_,_,rfl,rfl,⟨by lia,by decide⟩,_,_,rfl,rfl,_,rfl,hd,_,3,3,rfl,rfl,e6,rfl;have am:bk≠hd:=λz=>af (by rw[z];simp)
 have S3:Sit0 (upd (upd H1 bk<|.dK []) hd<|hl d2 m2 t1<|B-B / 3) hd wd WA D t1 (B-B / 3):=S2.setHand es;have f3:FrS (M0 hd WA) H1 (upd (upd H1 bk<|.dK []) hd<|hl d2 m2 t1<|B-B / 3):=(FrS.new ba).put' (by trivial);have bs:upd (upd H1 bk<|.dK []) hd (hl d2 m2 t1<|B-B / 3) bk=some (.dK []):=by rw[aC am];exact zb1
 have hM:∀p,H1 p=none->p∉M0 hd WA:=λp hp=>S1.notin hp;exists _,rfl,wd,_,rfl,S3.w.g.2.2.1,WA.deeds,_,rfl,.inl<|SqL.of S3.w.deeds.2,_,_,rfl,rfl,_,rfl,_,rfl,_,_,rfl,?_
 .rw[aK];exact⟨by lia,by lia,by decide,by decide⟩
 have de:1<=D.deeds.length:=List.length_pos_iff.mpr S1.ok.d1;have en:((↑(D.deeds.map V.str):Int)-1-(-1)).toNat=D.deeds.length:=by rw[aK];lia
 rw[en];refine Ae (hi:=((↑(D.deeds.map V.str):Nat):Int)-1) (n:=D.deeds.length) (BL B H1 hd wd bk WA D t1)
  ⟨_,_,t1,B-B / 3,[],rfl,S3,f3,hr0.1,hr0.2,by lia,bs,⟨by simp,(λk v e=>nomatch e)⟩,λj Z=>absurd Z<|Nat.not_lt_zero _⟩ ?_ ?_
 .rintro i σ Hx hi ⟨lx,kx,tx,rx,kvs,rfl,Sx,fx,eh,ei,fo,bc,e0,hG⟩;have b9:D.deeds.length-1-i<D.deeds.length:=by lia
  have cg:((↑(D.deeds.map V.str):Nat):Int)-1-(i:Int)=((D.deeds.length-1-i:Nat):Int):=by rw[aK];lia
  have ez:eE (D.deeds.map V.str) (((↑(D.deeds.map V.str):Nat):Int)-1-(i:Int))=some (.str D.deeds[D.deeds.length-1-i]):=by
   rw[cg];exact lQ (by rw[bN,bD b9];rfl)
  have ee:D.deeds[D.deeds.length-1-i]∈D.deeds:=iK b9;obtain⟨op,o1,o2,o3,o4⟩:=S1.w.ol _ ee;have br:D.deeds[D.deeds.length-1-i]?=some D.deeds[D.deeds.length-1-i]:=bD b9;generalize hos:D.own D.deeds[D.deeds.length-1-i]=os at o2 o3 o4;have el:=o2.keep fx;exists _,rfl,wd,_,rfl,Sx.w.g.2.2.2.2.1,_,rfl,wd,_,rfl,Sx.w.g.2.2.1,_,rfl,WA.deeds,_,_,_,rfl,rfl,SqL.of Sx.w.deeds.2,ez,WA.owners,_,rfl,.inl ⟨_,Sum.inr _,.inl Sx.w.owners.2,rfl,o1.symm⟩,op,rfl,⟨_,SqL.of el.2⟩;refine nH (xs:=os.map V.str) (uK B H1 hd wd bk WA D t1 (((↑(D.deeds.map V.str):Nat):Int)-1-(i:Int)) i)
   ⟨_,tx,rx,kvs,rfl,Sx,fx,eh,ei,by lia,bc,e0,hG,λ_ _ jj Z=>absurd Z<|Nat.not_lt_zero _⟩ ?_ ?_ ?_
  .rintro j σ Hy Z ⟨_,_,_,_,_,_,fy,_⟩;exact SqL.of (o2.keep fy).2
  .rintro j x σ Hy C ⟨ky,ty,ry,kvs,rfl,Sy,fy,bm,c4,cr,au,a9,bj,b8⟩;obtain⟨Z,_⟩:=zz2.mp C;rw[aK]at Z;rw[bN,bD Z]at C;cases C;have ek:os[j]∈D.names:=o3 _<|iK Z;refine⟨_,rfl,bk,rfl,.inl ⟨_,.inl au⟩,_,rfl,bM _,λpe ac=>?_⟩;have Sz:=Sy.fr0<|FrS.new (S:=[]) (o:=.lst []) ac;have fz:FrS (M0 hd WA) H1 (upd Hy pe<|.lst []):=fy.trans<|FrS.new ac;have ae:upd Hy pe (.lst []) bk=some (.dK kvs):=by rw[aC<|aP au ac];exact au
   have aa:BK (eO D) H1 (upd Hy pe<|.lst []) kvs (13*i+j):=a9.keep (FrS.new ac) hM<|Tup.new ac;have bq:iP D i (upd Hy pe<|.lst []) kvs:=λX N dn hd x C=>(bj X N dn hd x C).keep a9 (FrS.new ac) hM<|Tup.new ac;have bv:KN D i j (upd Hy pe<|.lst []) kvs:=λdn hd jj N x C=>(b8 dn hd jj N x C).keep a9 (FrS.new ac) hM<|Tup.new ac;have av:H1 pe=none:=fy.old Sy.have_ ac;have ab:upd Hy pe (.lst []) pe=some (.lst []):=zb1;generalize upd Hy pe (.lst [])=Hz at Sz fz ae aa ab bq bv;have go:∀(pl:Addr)(fs:List Addr)(ak:List (aG×V))(Hv:Hp),Sit0 Hv hd wd WA D ty ry->FrS (M0 hd WA) H1 Hv->Hv bk=some (.dK ak)->BK (eO D) H1 Hv ak (13*i+j+1)->Hv pl=some (.lst<|fs.map V.ref)->↑fs<=13*i+j->H1 pl=none->Heads (eO D) Hv fs->iP D i Hv ak->KN D i j Hv ak->aF ak (Sum.inr os[j])=some (.ref pl)->
     JB K "list" vA (aZ (fN CK [] E0<|aZ (aJ 0)<|aZ (aJ 2)<|aZ (aJ 5)<|aZ (aJ 4) aW) aW) (.ref pl) [some<|.ref hd,some<|.int B,some<|.ref wd,some<|.ref bk,some<|.int<|((↑(D.deeds.map V.str):Nat):Int)-1-(i:Int),some<|.str os[j],none,none] Hv λ_ eq=>
      uK B H1 hd wd bk WA D t1 (((↑(D.deeds.map V.str):Nat):Int)-1-(i:Int)) i (j+1) [some<|V.ref hd,some<|.int B,some<|.ref wd,some<|.ref bk,some<|.int<|((↑(D.deeds.map V.str):Nat):Int)-1-(i:Int),some<|.str os[j],none,none] eq:=by
    intro pl fs ak Hv Sv fv d5 aj aq fg an em et dm dw;refine⟨.inl ⟨rfl,_,SqL.of aq⟩,_,rfl,_,rfl,_,rfl,_,rfl,hd,wd,WA,D,ty,ry,os[j],D.deeds.length-1-i,by rw[cg];rfl,ek,b9,Sv,bm,by lia,λxn dn pv gv ln bl az Hw tw di c2 cn as cw c3 fn Sw fw dq fh fk=>?_⟩;have a5:=fw _ _ (hM pl an) aq;have bu:=fw _ _ af d5;have bb:Tup Hv Hw:=Sv.tup fw;have dz:Heads (eO D) Hw (fs++[xn]):=λf hf=>by
     rcases wp5.mp hf with hf | hf
     .exact(em.keep bb) f hf
     .have e:f=xn:=by simpa using hf
      rw[e];exact⟨(dn,ln,bl,az),pv,gv,cn,as,cw,c3,by show ↑az<=80;lia⟩
    have So:=Sit0.own (o:=.lst<|(fs++[xn]).map V.ref) S1 Sw (fv.trans fw) an;have ea:fs.map V.ref++[V.ref xn]=(fs++[xn]).map V.ref:=by rw[bO];rfl
    exists pl,_,_,rfl,rfl,a5,bH (by rw[aK];lia);rw[ea];have da:=aj.keep fw hM bb;refine⟨_,tw,di,ak,rfl,So.1,So.2,dq,by lia,by lia,?_,?_,λX N Y I x C=>((et X N Y I x C).keep aj fw hM bb).app a5,λY I jj N x C=>?_⟩
    .rw[aC λz=>by rw[z,a5]at bu;cases bu];exact bu
    .exact da.app a5 (by rw[bI,dR];lia) dz
    .rcases Nat.lt_or_ge jj j with b7 | b7
     .exact((dm Y I jj b7 x C).keep aj fw hM bb).app a5
     .have dc:jj=j:=by lia
      rw[br]at I c2;cases I;cases c2;rw[hos,dc,bD Z]at C;cases C;exact⟨pl,fs++[xn],dw,zb1,xn,fY _<|wn1.mpr rfl,(_,ln,bl,az),⟨pv,gv,(Tup.lst a5) _ _ cn,as.keep<|Tup.lst a5,(⟨cw,c3,by show ↑az<=80;lia⟩:RowsIs (eO D) Hw (_,ln,bl,az)).keep<|Tup.lst a5⟩,rfl⟩
   refine⟨kvs,Sum.inr os[j],ae,rfl,bH (by have:=aa.1;lia),λv hv=>?_,λhv=>?_⟩
   .obtain⟨pl,xs,rfl,a1,a2,a3,a4⟩:=aa.2 _ _ hv;exact go pl xs kvs Hz Sz fz ae (aa.more<|by lia) a1 a2 a3 a4 bq bv hv
   .have So:=Sit0.own (o:=.dK<|aN kvs (Sum.inr os[j])<|.ref pe) S1 Sz fz ba;have dg:pe≠bk:=λz=>by rw[z,ae]at ab;cases ab
    refine go pe [] (aN kvs (Sum.inr os[j])<|.ref pe) _ So.1 So.2 zb1 ?_ (by rw[aC dg];exact ab) (bM _) av (λ_ h=>by cases h) (λX N Y I x C=>((bq X N Y I x C).put hv).dk ae) (λY I jj N x C=>((bv Y I jj N x C).put hv).dk ae) (by rw[jF,bC rfl]);have h1:=aa.put (fs:=[]) (k:=(Sum.inr os[j]:aG)) ab (bM _) av (λ_ h=>by cases h);refine⟨h1.1,λk v e=>?_⟩;obtain⟨p',bg,b1,b2,b3,b4,b5⟩:=h1.2 k v e;exact⟨p',bg,b1,by rw[aC λz=>by rw[z,ae]at b2;cases b2];exact b2,b3,b4,b5.keep<|Tup.dk ae⟩
  .rintro σ Hy ⟨ky,ty,ry,kvs,rfl,Sy,fy,bm,c4,cr,au,a9,bj,b8⟩;rw[aK]at cr a9 b8;refine⟨_,_,ty,ry,kvs,rfl,Sy,fy,bm,c4,by lia,au,a9.more (by lia),λX N Y I x C=>?_⟩;rcases Nat.lt_or_ge X i with c | c
   .exact bj X c Y I x C
   .have ej:X=i:=by lia
    subst ej;rw[br]at I;cases I;rw[hos]at C;obtain⟨jj,b7⟩:=wr6.mp C;exact b8 _ br jj (zz2.mp b7).1 x (by rw[hos];exact b7)
 rintro σ H4 ⟨lx,kx,t4,J,kvs,rfl,S4,f4,g3,fq,g2,du,b0,cz⟩;obtain⟨d4,m4,cd,d9⟩:=S4.hand;exists _,rfl,hd,_,_,_,rfl,rfl,SqL.of cd,BB,_,rfl,_,_,rfl,rfl,⟨by lia,by decide⟩,_,_,rfl,rfl,_,rfl,hd,_,3,3,rfl,rfl,cd,rfl;have S5:Sit0 (upd H4 hd<|hl d4 m4 t4<|J+B / 3) hd wd WA D t4 (J+B / 3):=S4.setHand d9;have f5:FrS (M0 hd WA) H1 (upd H4 hd<|hl d4 m4 t4<|J+B / 3):=f4.put' (by trivial);have cs:upd H4 hd (hl d4 m4 t4<|J+B / 3) bk=some (.dK kvs):=by rw[aC am];exact du
 have ai:BK (eO D) H1 (upd H4 hd<|hl d4 m4 t4<|J+B / 3) kvs (13*D.deeds.length):=b0.keep (M:=M0 hd WA) (FrS.chg<|.head _) hM<|S4.tup<|FrS.chg<|.head _;have c9:iP D D.deeds.length (upd H4 hd<|hl d4 m4 t4<|J+B / 3) kvs:=λX N Y I x C=>(cz X N Y I x C).keep b0 (M:=M0 hd WA) (FrS.chg<|.head _) hM<|S4.tup<|FrS.chg<|.head _;have cy:∀{G:Hp->Prop},G (upd H4 hd<|hl d4 m4 t4<|J+B / 3)->G (upd H4 hd<|.lst<|[V.int d4,V.int m4,V.int t4,V.int J].set 3<|V.int<|J+B / 3):=λh=>h;refine cy ?_;generalize upd H4 hd (hl d4 m4 t4<|J+B / 3)=H5 at S5 f5 cs ai c9;refine⟨_,rfl,_,rfl,λad bp=>?_⟩;have e5:H1 ad=none:=f5.old S5.have_ bp;have Se:Sit (upd H5 ad<|.dK []) hd ad wd WA D t4 (J+B / 3):=S5.open bp DOk.nil;have cq:∀Hf:Hp,FrS (Ms hd ad WA) (upd H5 ad<|.dK []) Hf->FrS (M0 hd WA) H5 Hf:=λHf ff=>FrS.close bp ff;generalize upd H5 ad (.dK [])=H6 at Se cq;obtain⟨d,m,eu⟩:=Se.hand;refine⟨_,rfl,_,rfl,hd,d,m,t4,J+B / 3,5,rfl,eu,by lia,by decide,by decide,λx d7 m7 t7 x0 x1 c7 e7=>?_⟩;obtain⟨dp,rfl⟩:∃dp:Nat,x=(dp:Int):=⟨x.toNat,by lia⟩;have S7:=Se.setHand (r':=J+B / 3) c7;have f7:FrS (Ms hd ad WA) H6 (upd H6 hd<|hl d7 m7 t7<|J+B / 3):=FrS.chg (by trivial);refine⟨_,rfl,dM rfl,λpi bn=>?_⟩;have Sa:=S7.fr0<|FrS.new (S:=[]) (o:=.lst [V.int 4,V.int 8,V.int 12,V.int 20]) bn;have fa:=f7.trans<|FrS.new (o:=.lst [V.int 4,V.int 8,V.int 12,V.int 20]) bn;have bx:pi≠hd:=λz=>S7.notin bn (by rw[z];simp)
 obtain⟨d,m,df⟩:=Sa.hand;refine⟨hd,pi,d,m,t7,J+B / 3,_,rfl,df,by lia,bx,SqL.of zb1,by simp,by show 4<1000;decide,λy db mb tb hy cb eb=>?_⟩;obtain⟨mq,rfl,dl,d8⟩:∃mq:Int,y=.int mq/\0<=mq/\mq<=100:=by
  simp only[wm9,aX,cY]at hy;rcases hy with rfl | rfl | rfl | rfl
  .exact⟨4,rfl,by decide,by decide⟩
  .exact⟨8,rfl,by decide,by decide⟩
  .exact⟨12,rfl,by decide,by decide⟩
  .exact⟨20,rfl,by decide,by decide⟩
 have Sb:=Sa.setHand (r':=J+B / 3) cb;have fb:=fa.put' (a:=hd) (o:=hl db mb tb<|J+B / 3) (by trivial);refine⟨hd,ad,wd,WA,D,tb,J+B / 3,-1,mq,dp,rfl,by lia,dl,d8,Sb,by lia,by lia,λmv cp be Hc tc rc e9 dd ce Sc fc fj ft fm=>?_⟩;have f8:=cq _<|fb.trans fc;have S8:=Sc.close;have cm:=f8 _ _ af cs;have ap:=ai.keep f8 hM<|S5.tup f8;have ck:iP D D.deeds.length Hc kvs:=λX N Y I x C=>(c9 X N Y I x C).keep ai f8 hM<|S5.tup f8;have c8:RowsIs (eO D) Hc ("",mv,cp,be):=⟨e9,dd,by show ↑be<=80;lia⟩;have co:=f5.trans f8;generalize Hc=H8 at f8 S8 cm ap co c8 ck;obtain⟨ts,c5,fi,dr⟩:=S8.w.tree;refine⟨_,rfl,wd,_,rfl,S8.w.g.1,WA.tree,rfl,⟨_,SqL.of c5.2⟩,λDl c1=>?_⟩;refine wI (xs:=ts.map V.ref) (λi σ Hx=>(∃x y,σ=[x,y,some<|.ref bk])/\FrS [] H8 Hx/\∃us:List Addr,↑us=i/\Hx Dl=some (.lst<|us.map V.ref)/\A2 (KAt (eO D) (DL D) Hx) us (D.tr.take i)) ⟨⟨_,_,rfl⟩,(FrS.refl).put c1,[],rfl,zb1,.nil⟩ ?_ ?_ ?_
 .rintro i σ Hx hi ⟨_,fx,_⟩;exact SqL.of<|fx _ _ (by trivial) c5.2
 .rintro i x σ Hx C ⟨⟨fl,g0,rfl⟩,fx,us,c0,dx,ag⟩;rw[bN]at C;obtain⟨tt,ay,rfl⟩:=wp4.mp C;obtain⟨hi,_⟩:=zz2.mp ay;have c6:D.tr[i]?=some D.tr[i]:=bD (by lia);have e3:=dr i tt _ ay c6;have bc:=fx _ _ (by trivial) cm;exists tt,_,rfl,SqT.of<|fx _ _ (by trivial) e3.2,rfl,_,_,rfl,_,_,rfl,rfl;refine⟨_,rfl,_,rfl,_,rfl,bk,rfl,.inl ⟨_,.inl bc⟩,_,rfl,bM _,λpd ep=>?_⟩;have f9:FrS [] Hx (upd Hx pd<|.lst []):=FrS.new ep;have cu:=f9 _ _ (by trivial) bc;have bd:=f9 _ _ (by trivial) dx;have cf:upd Hx pd (.lst []) pd=some (.lst []):=zb1;generalize upd Hx pd (.lst [])=L at f9 cu bd cf;have bo:FrS [] H8 L:=fx.trans f9;obtain⟨pz,zs,e4,er,dy,d3,eo⟩:∃(pz:Addr)(zs:List Addr),(aF kvs<|Sum.inr D.tr[i].1).getD (.ref pd)=.ref pz/\L pz=some (.lst<|zs.map V.ref)/\↑zs<=80/\Heads (eO D) L zs/\∀d,DL D D.tr[i].1 d->∃f∈zs,∃y,DeedIs (eO D) L f y/\y.1=d:=by
   have ar:∀d,DL D D.tr[i].1 d->Got (eO D) H8 kvs D.tr[i].1 d:=λd hd=>by
    obtain⟨j,Z⟩:=wr6.mp hd.1;have f6:=(zz2.mp Z).1;refine ck (D.deeds.length-1-j) (by lia) d ?_ _ hd.2;rw[show D.deeds.length-1-(D.deeds.length-1-j)=j by lia];exact Z
   cases hv:aF kvs (Sum.inr D.tr[i].1)with
   | none=>
    refine⟨pd,[],rfl,cf,bM _,(λ_ h=>by cases h),λd hd=>?_⟩;obtain⟨p',ef,e,_⟩:=ar d hd;rw[hv]at e;cases e
   | some v=>
    obtain⟨p',bg,b1,b2,b3,_,b5⟩:=ap.2 _ _ hv;refine⟨p',bg,b1,bo _ _ aX b2,by lia,b5.keep<|Tup.of0 bo,λd hd=>?_⟩;obtain⟨p2,ef,e,e2,g,hg,y,hy,ey⟩:=ar d hd;rw[hv,b1]at e;cases e;rw[b2]at e2;injection e2 with e2;injection e2 with e2;rw[<-wB e2]at hg;exact⟨g,hg,y,hy.keep<|Tup.of0 bo,ey⟩
  refine⟨_,DGet.k (k:=(Sum.inr D.tr[i].1:aG)) cu,_,rfl,rfl,pz,_,e4,SqL.of er,λal d0=>?_⟩;rw[<-List.map_reverse];refine⟨al,_,rfl,.inl ⟨SqL.of zb1,λpu ed=>?_⟩⟩;refine⟨dM rfl,λpt ao=>?_⟩;have fA:FrS [] L (upd (upd L al<|.lst<|zs.reverse.map V.ref) pu<|.tup<|zs.reverse.map V.ref):=(FrS.new d0).trans<|FrS.new ed;have aw:upd (upd L al<|.lst<|zs.reverse.map V.ref) pu (.tup<|zs.reverse.map V.ref) pu=some (.tup<|zs.reverse.map V.ref):=zb1;have bt:=fA _ _ (by trivial) bd;have cl:Heads (eO D) (upd (upd L al<|.lst<|zs.reverse.map V.ref) pu<|.tup<|zs.reverse.map V.ref) zs.reverse:=λf hf=>let ⟨z,e⟩:=d3 f<|List.mem_reverse.mp hf;⟨z,e.keep<|Tup.of0 fA⟩
  have ct:∀d,DL D D.tr[i].1 d->∃f∈zs.reverse,∃y,DeedIs (eO D) (upd (upd L al<|.lst<|zs.reverse.map V.ref) pu<|.tup<|zs.reverse.map V.ref) f y/\y.1=d:=λd hd=>by
   obtain⟨f,hf,y,hy,ey⟩:=eo d hd;exact⟨f,List.mem_reverse.mpr hf,y,hy.keep<|Tup.of0 fA,ey⟩
  generalize upd (upd L al<|.lst<|zs.reverse.map V.ref) pu (.tup<|zs.reverse.map V.ref)=HA at fA bt ao aw cl ct;have ec:Dl≠pt:=aP bt ao;have cj:upd HA pt (.tup [V.str D.tr[i].1,aV D.tr[i].2,V.ref pu]) Dl=some (.lst<|us.map V.ref):=by rw[aC ec];exact bt
  refine⟨_,cj,by rw[aK];exact bH (by lia),⟨_,_,rfl⟩,(((fx.trans f9).trans fA).trans<|FrS.new ao).put c1,us++[pt],by rw[bI,c0];rfl,by rw[zb1,bO];rfl,?_⟩;have tl:Tup (upd HA pt<|.tup [V.str D.tr[i].1,aV D.tr[i].2,V.ref pu]) (upd (upd HA pt<|.tup [V.str D.tr[i].1,aV D.tr[i].2,V.ref pu]) Dl<|.lst<|us.map V.ref++[V.ref pt]):=Tup.lst cj;have tn:=(Tup.new (o:=.tup [V.str D.tr[i].1,aV D.tr[i].2,V.ref pu]) ao).trans tl;rw[gD,c6];exact(ag.imp λu z h=>h.keep<|((Tup.of0<|f9.trans fA).trans<|Tup.new ao).trans tl).snoc ⟨pu,zs.reverse,tl _ _ zb1,tn _ _ aw,by rw[kN];exact dy,cl.keep tn,λd hd=>by
   obtain⟨f,hf,y,hy,ey⟩:=ct d hd;exact⟨f,hf,y,hy.keep tn,ey⟩⟩
 rintro σ L ⟨_,f9,us,c0,bd,ag⟩;rw[aK]at c0 ag;rw[fS<|by lia]at ag;refine⟨_,rfl,Dl,_,rfl,.inl ⟨SqL.of bd,λkt eg=>?_⟩⟩;have fA:FrS [] L (upd L kt<|.tup<|us.map V.ref):=FrS.new eg;have ah:upd L kt (.tup<|us.map V.ref) kt=some (.tup<|us.map V.ref):=zb1;generalize upd L kt (.tup<|us.map V.ref)=HA at fA ah;have SA:=(S8.fr0 f9).fr0 fA;refine⟨_,rfl,wd,_,rfl,SA.w.g.2.1,WA.late,D.late,rfl,SqL.of SA.w.late.2,by have:=SA.ok.lateLen;lia,λls bh dv a7 _=>?_⟩;refine⟨ls,_,rfl,.inl ⟨SqL.of zb1,λlt dj=>?_⟩⟩;refine⟨_,rfl,dM rfl,λpr ch=>?_⟩;have fB:FrS [] HA (upd (upd (upd HA ls<|.lst<|bh.map V.str) lt<|.tup<|bh.map V.str) pr<|.tup [V.ref kt,V.ref lt,V.ref mv]):=((FrS.new dv).trans<|FrS.new dj).trans<|FrS.new ch;have bw:FrS [] H8 _:=(f9.trans fA).trans fB;obtain⟨ks,f0,ds,cv,ew⟩:=oA (H:=L) us _ ag;have bi:=Tup.of0<|fA.trans fB;have f2:=(Tup.of0 f9).trans bi;have SB:=SA.fr0 fB;obtain⟨dh,mh,ev⟩:=SB.hand;refine q pr ks ("",mv,cp,be) D.tr bh (eO D) _ dh mh tc rc ?_ ⟨kt,us,V.ref lt,zb1,fB _ _ aX ah,f0,λj u z bf hz=>(ds j u z bf hz).keep bi,c8.keep f2,by lia⟩ ⟨kt,us,V.ref lt,V.ref mv,zb1,fB _ _ aX ah,ag.len,λj u z bf hz=>?_⟩ S1.ok.ok e8 ⟨kt,lt,_,zb1,?_,by rw[a7.length_eq];have:=SA.ok.lateLen;lia,λx C e e1 e2=>a7.mem_iff.mpr<|SA.ok.lateIn x C e e1<|a7.mem_iff.mp e2,by
  obtain⟨x,C,hn⟩:=SA.ok.soon;obtain⟨z,hz,rfl⟩:=wn7.mp C;exact⟨z,hz,λh=>hn<|a7.mem_iff.mp h⟩⟩ ⟨cv,λk h=>h,λk d ci=>⟨ci.1,?_⟩,D.deeds,S1.ok.d6,λk d h=>h.2.1⟩ ev (by lia)
 .intro b o n e;refine bw _ _ (by trivial)<|co b o (λz=>?_)<|f1 b o n e;simp only[M0,wm9,aX,cY]at z;rcases z with z | z | z
  .exact n (by rw[z];simp)
  .exact aP e b6 z
  .exact aP e ax z
 .obtain⟨z',cx,dt,fs,e1,_⟩:=ag.get bf;rw[hz]at cx;cases cx;exact⟨_,bi _ _ e1⟩
 .exact(Tup.new ch) _ _ zb1
 .obtain⟨_,I,n,l,cc,hn,ho⟩:=ci;have ce:n∈ks.map (·.1):=by
   rw[cv];exact cc.mem n hn
  obtain⟨y,hy,ey⟩:=wn7.mp ce;exact⟨n,l,cc,hn,y,hy,ey,ew y hy d ⟨I,by rw[ey];exact ho⟩⟩
abbrev HM:Stmt:=top 14
abbrev LJ:Stmt:=top 15
abbrev qP:Stmt:=top 16
def fX(x:V)(xs:List V):eE (x::xs) 0=some x:=by
 unfold eE lI;simp
def jC{K:Fq}{a:Addr}{xs:List V}{g:TG}{tb:TS}{D:cR}{σ:St}{H:Hp}(b:Nat->St->Hp->Prop)(h0:b 0 σ H)(hl:∀i σ H,i<=↑xs->b i σ H->SqT K H a xs)
  (hs:∀i x σ H,xs[i]?=some x->b i σ H->g x σ H λσ2 H2=>tb {D with nx:=b<|i+1,ct:=b<|i+1,bk:=D.nx} σ2 H2) (hd:∀σ H,b ↑xs σ H->D.nx σ H):
  ∃W:Nat->Nat->St->Hp->Prop,(∃m,W 0 m σ H)/\∀i m σ H,W i m σ H->
   ((kZ K a).stop i H/\D.nx σ H)\/((kZ K a).go i H/\∃N:St->Hp->Prop,(∀σ' H',N σ' H'->∃m',m'<m/\W (i+1) m' σ' H')/\∀x H',(kZ K a).yld i H x H'->g x σ H' λσ2 H2=>tb {D with nx:=N,ct:=N,bk:=D.nx} σ2 H2):=by
 exists λi m σ H=>m=↑xs-i/\i<=↑xs/\b i σ H,⟨↑xs,by simp,bM _,h0⟩;rintro i m σ H ⟨rfl,hi,p⟩;have q:=hl i σ H hi p
 by_cases d:i<↑xs
 .refine .inr ⟨⟨xs,xs[i],q,bD d⟩,b<|i+1,λσ' H' f=>⟨↑xs-(i+1),by lia,rfl,d,f⟩,λx H' y=>?_⟩;obtain⟨e,y⟩:=y;subst e;exact hs i x σ _ (y xs q) p
 .have e:i=↑xs:=by lia
  subst e;exact .inl ⟨⟨xs,q,aU _⟩,hd σ H p⟩
def vK(d:Nat->St->Hp->Prop)(h0:d 0 σ0 H0)(hl:∀i σ H,i<=↑xs->d i σ H->SqT K H a xs)(hs:∀i x σ H,xs[i]?=some x->d i σ H->g x σ H λσ2 H2=>tt σ2 H2 λb H3=>if b=true then te σ2 H3 λv f=>∃ys,f D=some (.lst ys)/\↑ys<sizeLine/\d (i+1) σ2 (upd f D<|.lst<|ys++[v]) else d (i+1) σ2 H3)(hd:∀σ H,d ↑xs σ H->Q H):mU (kZ K a) g tt te D σ0 H0 Q:=by
 exists λi m σ H=>m=↑xs-i/\i<=↑xs/\d i σ H,⟨↑xs,by simp,bM _,h0⟩;rintro i m σ H ⟨rfl,hi,p⟩;have q:=hl i σ H hi p
 by_cases h:i<↑xs
 .refine .inr ⟨⟨xs,xs[i],q,by simp[h]⟩,d<|i+1,λσ' H' j=>⟨↑xs-(i+1),by lia,rfl,h,j⟩,λx H' y=>?_⟩;obtain⟨e,y⟩:=y;subst e;exact hs i x σ _ (y xs q) p
 .have e:i=↑xs:=by lia
  subst e;exact .inl ⟨⟨xs,q,aU _⟩,hd σ H p⟩
def EG(h:n<=1000000):n<sizeLine:=Nat.lt_of_le_of_lt h (by decide)
def sS(x:V)(rest:List V):cP (x::rest) (some 1) none=rest:=by
 unfold cP HT.sIx;simp
def CL(w:Str)(rest:List V):List V:=if w="either"\/w="again" then rest else []
inductive QL(vs:List V)(H:Hp)(Q:VK):Prop
 | mk(a:Addr)(w:Str)(rest:List V)(h1:vs=[.ref a])(h2:H a=some (.tup<|.str w::rest))(h3:∀p,H p=none->Q (.ref p) (upd H p<|.tup<|CL w rest)):QL vs H Q
def GL:Sp:=λvs H Q _=>QL vs H Q
def VY:bY ["row"] ["row"] (bR LJ):=cC
def SV(F:Fun K "rows_within" "rows_within" LJ f fd)(i:mg "HOLDERS"=some (.ref ah))(e:∀H,SqT K H ah [.str "either",.str "again"]):aR P w K mg base bP (k+1) f fd ["row"] GL:=by
 refine F.ok VY (λvs H Q E h=>?_) λj A outer s H vs Q E hr h=>?_
 .obtain⟨a,w,rest,rfl,_⟩:=h;rfl
 obtain⟨a,w,rest,rfl,b,q⟩:=h;exists _,aL (cI (cA sJ (eT (pv 0) aO) (yR (v:=.ref ah) rfl i rfl) rfl) (aS<|bT<|kE FN (pv 0) (jX aO) kH) cZ)
  (aS<|bT<|bV aE)
 ac_rfl
 have d:iE (.str w) [.str "either",.str "again"]=decide (w="either"\/w="again"):=by
  have:=jT w ["either","again"];simpa using this
 exists _,rfl,a,_,_,.str w,rfl,rfl,SqT.of b,fX _ _,ah,_,rfl,.inr<|e _,rfl,rfl,_,rfl;show if iE (.str w) [.str "either",.str "again"]=true then _ else _
 rw[d];refine bG (λc=>?_) λc=>?_
 .have c':=cN c;refine⟨_,rfl,_,rfl,a,_,rfl,SqT.of b,?_,λp hp=>?_⟩
  .intro z;have:=z.1;unfold HT.sIx at this;simp at this
  .have:=q p hp;unfold CL at this;rw[bC c']at this;rw[sS];exact this
 .have c':¬(w="either"\/w="again"):=λz=>c<|fI z;refine⟨bM _,λp hp=>?_⟩;have:=q p hp;unfold CL at this;rw[aY c']at this;exact this
abbrev Bz:=(Str×Str)×Dz
def gQ(y:Str×List Dz):List Bz:=y.2.map λz=>((y.1,z.1),z)
def dG(ks:List (Str×List Dz))(m0:Dz):List Bz:=(("",""),m0)::ks.flatMap gQ
def BT(K:Fq)(H:Hp)(bd:Addr)(n:Str×Str):Prop:=H bd=some (.tup [.str n.1,.str n.2])\/∀H',SqT K H' bd [.str n.1,.str n.2]
def BT.keep(h:BT K H bd n)(f:Tup H H'):BT K H' bd n:=h.imp (f _ _) id
def BT.sq(h:BT K H bd n):SqT K H bd [.str n.1,.str n.2]:=h.elim SqT.of λg=>g H
inductive BodyIs(K:Fq)(H:Hp)(q:Addr)(z:Bz):Prop
 | mk(bd:Addr)(h1:H q=some (.tup [.ref bd,.ref z.2.2.1]))(h2:BT K H bd z.1):BodyIs K H q z
theorem BodyIs.keep(h:BodyIs K H q z)(f:Tup H H'):BodyIs K H' q z:=by
 obtain⟨bd,h1,h2⟩:=h;exact⟨bd,f _ _ h1,h2.keep f⟩
def _root_.L2.A2.bkeep(h:A2 (BodyIs K H) qs L)(f:Tup H H'):A2 (BodyIs K H') qs L:=h.imp λ_ _ g=>g.keep f
inductive MT(K:Fq)(vs:List V)(H:Hp)(Q:VK):Prop
 | mk(p:Addr)(ks:List (Str×List Dz))(m0:Dz)(h1:vs=[.ref p])(h2:ProgIs Z H p ks m0)(h3:∀(b:Addr)(qs:List Addr)(H':Hp),FrS [] H H'->H' b=some (.tup<|qs.map V.ref)->A2 (BodyIs K H') qs (dG ks m0)->↑qs<=1000->Q (.ref b) H'):MT K vs H Q
def GS(K:Fq):Sp:=λvs H Q _=>MT K vs H Q
inductive NK(K:Fq)(H1:Hp)(p fd:Addr)(L:List Bz)(c:Nat)(σ:St)(Hx:Hp):Prop
 | mk(a b d e g h i:Option V)(qs:List Addr)(hσ:σ=[some<|.ref p,some<|.ref fd,a,b,d,e,g,h,i])(fr:FrS [] H1 Hx)(hf:Hx fd=some (.lst<|qs.map V.ref))(ha:A2 (BodyIs K Hx) qs L)(hc:↑qs<=c):NK K H1 p fd L c σ Hx
inductive QP(K:Fq)(H1:Hp)(p fd:Addr)(n:Str)(e:V)(dt:Addr)(L:List Bz)(c:Nat)(σ:St)(Hx:Hp):Prop
 | mk(a b d f:Option V)(qs:List Addr)(hσ:σ=[some<|.ref p,some<|.ref fd,some<|.str n,some e,some<|.ref dt,a,b,d,f])(fr:FrS [] H1 Hx)(hf:Hx fd=some (.lst<|qs.map V.ref))(ha:A2 (BodyIs K Hx) qs L)(hc:↑qs<=c):QP K H1 p fd n e dt L c σ Hx
def zk5:bY ["program","found","name","elder","deeds","deed","params","rows","gives"] qK (bR HM):=cC
def YS(F:Fun K "bodies" "bodies" HM f fd)(mM:mg "MAIN"=some (.ref am))(hM:∀H,SqT K H am [.str "",.str ""])(a9:mg "tuple"=none):aR P w K mg base bP (k+1) f fd qK (GS K):=by
 refine F.ok zk5 (λvs H Q E h=>?_) λad A outer s H vs Q E hr h=>?_
 .obtain⟨p,ks,r,rfl,_⟩:=h;rfl
 obtain⟨p,ks,r,rfl,⟨kt,us,lt,hp,W,a0,aa,hm,ac⟩,q⟩:=h;exists _,aL (sL 1 zk5.nd<|cG<|aA (bV<|aA (yR (v:=.ref am) rfl mM rfl)<|aA (eT (pv 0) aO) aE) aE)
  (aL (dX dO rfl (fU<|eT (pv 0) aO) (eC (n:=3) rfl<|bJ (gL 2 zk5.nd)<|bJ (gL 3 zk5.nd)<|bJ (gL 4 zk5.nd) dY)<|aS<|dX dO rfl (fU<|pv 4) (eC (n:=4) rfl<|bJ (gL 5 zk5.nd)<|bJ (gL 6 zk5.nd)<|bJ (gL 7 zk5.nd)<|bJ (gL 8 zk5.nd) dY)<|aS<|dW<|eN eA eX eY eR (pv 1)<|aA (bV<|aA (bV<|aA (pv 2)<|aA (pv 5) aE)<|aA (pv 7) aE) aE)<|aS<|bT<|dV gS rfl a9 (by rfl')<|aA (pv 1) aE)
 ac_rfl
 have s2:2<=sizeLine:=cL (bH<|by decide);have s0:1<=sizeLine:=cL (bH<|by decide);refine⟨_,rfl,p,_,_,_,rfl,rfl,SqT.of hp,rfl,s2,λpt Y=>⟨s0,λfl M=>?_⟩⟩;have N:FrS [] H (upd (upd H pt<|.tup [.ref am,.ref r.2.1]) fl<|.lst<|[pt].map V.ref):=(FrS.new Y).trans<|FrS.new M;have a2:H fl=none:=uH (FrS.new Y) M;exists _,rfl,p,_,_,_,rfl,rfl,SqT.of<|N _ _ aX hp,rfl,kt,rfl,⟨_,SqT.of<|N _ _ aX W⟩;refine jC (xs:=us.map V.ref) (λi=>NK K H p fl (dG (ks.take i) r)<|1+80*i) ⟨_,_,_,_,_,_,_,[pt],rfl,N,zb1,.cons ⟨am,(Tup.new M) _ _ zb1,.inr hM⟩ .nil,aU _⟩ ?_ ?_ ?_
 .rintro i σ Hx hi ⟨_,_,_,_,_,_,_,_,_,fr,_⟩;exact SqT.of<|fr _ _ aX W
 .rintro i x σ Hx G ⟨_,_,_,_,_,_,_,qs,rfl,fr,J,a,m⟩;rw[bN,wp4]at G;obtain⟨u,hu,rfl⟩:=G;have hi:i<↑ks:=by rw[<-a0];exact(zz2.mp hu).1
  have hy:ks[i]?=some ks[i]:=bD hi;obtain⟨e,dt,ds,d1,d2,d3,Z,d5⟩:=aa i u _ hu hy;have eL:dG (ks.take<|i+1) r=dG (ks.take i) r++gQ ks[i]:=by
   unfold dG;rw[gD,hy,List.flatMap_append,List.cons_append];simp
  rw[eL];generalize ks[i]=y at d1 d3 Z;exists u,_,rfl,SqT.of<|fr _ _ aX d1,rfl,_,_,rfl,_,_,rfl,_,_,rfl,rfl;exists _,rfl,dt,rfl,⟨_,SqT.of<|fr _ _ aX d2⟩;refine jC (xs:=ds.map V.ref) (λj=>QP K H p fl y.1 e dt (dG (ks.take i) r++(gQ y).take j)<|1+80*i+j) ⟨_,_,_,_,qs,rfl,fr,J,by rw[List.take_zero,gA];exact a,m⟩ ?_ ?_ ?_
  .rintro j σ C hj ⟨_,_,_,_,_,_,l,_⟩;exact SqT.of<|l _ _ aX d2
  .rintro j x σ C G ⟨_,_,_,_,qs,rfl,l,I,a,m⟩;rw[bN,wp4]at G;obtain⟨g,hg,rfl⟩:=G;have hj:j<↑y.2:=by rw[<-d3];exact(zz2.mp hg).1
   have hz:y.2[j]?=some y.2[j]:=bD hj;obtain⟨ab,ae,g1,_,g2⟩:=Z j g _ hg hz;have eD:(gQ y).take (j+1)=(gQ y).take j++[((y.1,y.2[j].1),y.2[j])]:=by
    have:(gQ y)[j]?=some ((y.1,y.2[j].1),y.2[j]):=by unfold gQ;rw[bN,hz];rfl
    rw[gD,this];rfl
   rw[eD,<-lC];generalize y.2[j]=z at g1 g2;exists g,_,rfl,SqT.of<|l _ _ aX g1,rfl,_,_,rfl,_,_,rfl,_,_,rfl,_,_,rfl,rfl;refine⟨_,rfl,.inl ⟨rfl,_,SqL.of I⟩,_,rfl,_,rfl,s2,λd O=>⟨_,rfl,s2,λB L=>?_⟩⟩;have tn:=(Tup.new (o:=.tup [V.str y.1,V.str z.1]) O).trans<|Tup.new (o:=.tup [.ref d,.ref z.2.1]) L;have X:FrS [] C (upd (upd C d<|.tup [V.str y.1,V.str z.1]) B<|.tup [.ref d,.ref z.2.1]):=(FrS.new O).trans<|FrS.new L;have T:=X _ _ aX I;have tl:Tup _ (upd (upd (upd C d<|.tup [V.str y.1,V.str z.1]) B<|.tup [.ref d,.ref z.2.1]) fl<|.lst<|(qs++[B]).map V.ref):=Tup.lst T;exists fl,_,_,rfl,rfl,T,bH (by rw[aK];lia);rw[show qs.map V.ref++[V.ref B]=(qs++[B]).map V.ref by rw[bO];rfl];exact⟨_,_,_,_,qs++[B],rfl,(l.trans X).put a2,zb1,(a.bkeep<|tn.trans tl).snoc ⟨d,tl _ _ zb1,.inl<|((Tup.new L).trans tl) _ _ zb1⟩,by rw[bI,dR];lia⟩
  .rintro σ C ⟨_,_,_,_,qs,rfl,l,I,a,m⟩;have el:(gQ y).take ↑(ds.map V.ref)=gQ y:=fS (by unfold gQ;rw[aK,aK];lia);rw[el]at a;rw[aK]at m;exact⟨_,_,_,_,_,_,_,qs,rfl,l,I,a,by lia⟩
 .rintro σ Hx ⟨_,_,_,_,_,_,_,qs,rfl,fr,J,a,m⟩;rw[aK,a0]at a m;rw[fS<|aU _]at a;refine⟨_,rfl,fl,_,rfl,.inl ⟨SqL.of J,λb hb=>?_⟩⟩;exact q b qs _ (fr.trans<|FrS.new hb) zb1 (a.bkeep<|Tup.new hb) (by lia)
end Gn
end
section
local macro_rules|`(tactic|ac_rfl)=>`(tactic|first|dsimp only[L2.eU,L2.Cx.nox]|skip)
namespace Gn
open PySem PySem.Spec L2
def pY(P:Program)(w:World)(K:Fq)(mg:Str->Option Value)(base:Heap)(k:Nat)(ps:List Str)(g:Addr)(sp:Sp):Prop:=∃gd,aR P w K mg base bP k g gd ps sp/\Binds K gd ps []/\PySem.W.keepIn K (.ref g)=true
inductive TH(P:Program)(w:World)(K:Fq)(mg:Str->Option Value)(base:Heap)(k:Nat)(ps:List Str)(t:TA)(v:V)(σ:St)(H:Hp)(Q:VK):Prop
 | mk(g:Addr)(sp:Sp)(h1:v=.ref g)(h2:pY P w K mg base k ps g sp)(q:t σ H λvs H2=>sp vs H2 Q E0)
def Ad(P:Program)(w:World)(K:Fq)(mg:Str->Option Value)(base:Heap)(k:Nat)(ps:List Str)(tx:TE)(t:TA):TE:=λσ H Q=>tx σ H λv H1=>TH P w K mg base k ps t v σ H1 Q
def wR{X:Cx}{x:Str}{p pos:Pos}{e:Expr}{es:List Expr}{tx:TE}{t:TA}{k:Nat}{ps:List Str}(hr:Room k X.A)(z:PE X (.Name x p) tx)(f:PA X (e::es) t)(he:starEach (e::es) X.env=(false,eval e X.env)::starEach es X.env:=by rfl)(n:(backTo pos<|starEach es X.env).any (·.1)=false:=by rfl):
  PE X (.Call (.Name x p) (e::es) [] pos) (Ad X.prog X.w X.K X.mg X.base k ps tx t):=by
 intro d s σ H Q I h;refine vS<|aQ (z d s σ H _ I h) ?_;rintro u m ⟨v,H1,j,i,g,sp,rfl,⟨gd,G,b,l⟩,q⟩;obtain rfl:u=Value.ref g:=i;refine PySem.W.callWith_K (h₀:=X.base) I.ok.mod.kin l (aQ (f pos d m σ H1 _ j q) ?_) he n;rintro us s2 ⟨vs,H2,a,r,o⟩;exact⟨a.kIn,RL (dvs:=[]) G hr b .nil JL a r<|by rw[gA];exact o⟩
def GF(P:Program)(w:World)(K:Fq)(a:Addr)(kvs:List (aG×Value)):Prop:=∃o,K.lookup a=some o/\∀h:Heap,h.get? a=some o->h.DictOf (cB P w) a kvs
inductive YJ(P:Program)(w:World)(K:Fq)(x y:V)(H:Hp)(Q:VK):Prop
 | mk(a g:Addr)(kvs:List (aG×Value))(k:aG)(h1:x=.ref a)(h2:y=kV k)(h3:GF P w K a kvs)(h4:valueAt kvs k=some (.ref g))(q:Q (.ref g) H)
def XI(P:Program)(w:World)(K:Fq)(td ty:TE):TE:=λσ H Q=>td σ H λx H1=>ty σ H1 λy H2=>YJ P w K x y H2 Q
def xC{X:Cx}{o i:Expr}{td ty:TE}{pos:Pos}(z:PE X o td)(hi:PE X i ty)(hs:lJ i:=by exact λ_ _=>rfl):PE X (.Subscript o i pos) (XI X.prog X.w X.K td ty):=by
 intro d s σ H Q I h;refine KW vf2.lookup hs<|aQ (z d s σ H _ I h) λu n ⟨x,H1,j,f,l⟩=>aQ (hi d n σ H1 _ j l) ?_;rintro E s2 ⟨y,H2,b,r,a,g,kvs,k,ex,A,⟨C,m,hd⟩,B,q⟩;subst ex A;obtain rfl:u=Value.ref a:=f;have e:=hd s2.heap<|b.kIn _ _ m;exact⟨e.typeIs,wpAny_getItem_of (iZ r) e.mapOf B ⟨.ref g,H2,b.tok _,rfl,q⟩⟩
inductive LL
 | nil
 | op (n:Nat) (a:Addr) (r:Rw) (t:LL)
inductive Du
 | op (n:Nat) (a:Addr) (r:Rw) (m:Nat)
def LL.dues(m:Nat):LL->List Du
 | .nil=>[]
 | .op n a r t=>.op n a r m::t.dues m
structure Pg where
 nm:List Str
 hs:Str->Str->Prop
 ln:Str->List Str
 bo:Str->Str->LL
 ch:List Int
structure Rs where
 ds:List (List<|aG×V)
 ts:List (Str×Nat)
 td:List Du
 lg:List (List V)
 lk:Int
 rd:Nat
 uw:Int
 hr:List Str
def Rs.get(S:Rs)(m:Nat)(x:Str):V:=(aF (S.ds.getD m [])<|Sum.inr x).getD .non
def Rs.put(S:Rs)(m:Nat)(x:Str)(v:V):Rs:={S with ds:=S.ds.set m<|aN (S.ds.getD m []) (Sum.inr x) v}
def Rs.say(S:Rs)(r:List V):Rs:={S with lg:=S.lg++[r]}
def Rs.push(S:Rs)(l:LL)(m:Nat):Rs:={S with td:=l.dues m++S.td}
def Rs.come(S:Rs)(k:Str):Rs:=if k∈S.hr then S else {S with hr:=S.hr++[k],lg:=S.lg++[[.str "came",.str k]]}
def Rs.make(S:Rs)(k:Str):Rs:={S with ts:=S.ts++[(k,S.ds.length)],ds:=S.ds++[[]]}
def Rs.kind(S:Rs)(j:Int):Str:=(S.ts.getD j.toNat ("",0)).1
def Rs.dict(S:Rs)(j:Int):Nat:=(S.ts.getD j.toNat ("",0)).2
def Rs.thing(S:Rs)(v:V)(f:Int->Rs×Option Str):Rs×Option Str:=match v with
 | .int j=>f j
 | _=>(S,some "nothing")
def jD(P:Pg)(S:Rs)(n m:Nat):Rw->Rs×Option Str
 | .make x k=>if k∈S.hr then(((S.make k).put m x<|.int S.ts.length),none) else(S,some "absent")
 | .copy x y=>(S.put m x<|S.get m y,none)
 | .put x f y=>S.thing (S.get m x) λj=>(S.put (S.dict j) f<|S.get m y,none)
 | .take x y f=>S.thing (S.get m y) λj=>(S.put m x<|S.get (S.dict j) f,none)
 | .say w=>(S.say [.str "say",.int n,.str w],none)
 | .bring k=>((P.ln k).reverse.foldl Rs.come S,none)
def doR(P:Pg)(S:Rs):Du->Rs×Option Str
 | .op n _ r m=>jD P S n m r
def Du.num:Du->Nat
 | .op n _ _ _=>n
inductive Rn(P:Pg)(mo:Nat):Nat->Rs->Rs->Str->V->Prop
 | done {dn:Nat} {S:Rs} (h:S.td=[]):Rn P mo dn S S "done" .non
 | long {dn:Nat} {S:Rs} {d:Du} {r:List Du} (h:S.td=d::r) (hm:mo<=dn):Rn P mo dn S {S with td:=r} "long" (.int d.num)
 | stop {dn:Nat} {S S':Rs} {d:Du} {r:List Du} {e:Str} (h:S.td=d::r) (hm:dn<mo) (he:doR P {S with td:=r} d=(S',some e)):Rn P mo dn S S' e (.int d.num)
 | go {dn:Nat} {S S1 S':Rs} {d:Du} {r:List Du} {e:Str} {v:V} (h:S.td=d::r) (hm:dn<mo) (he:doR P {S with td:=r} d=(S1,none)) (t:Rn P mo (dn+1) S1 S' e v):Rn P mo dn S S' e v
theorem zH:∀(l:List Str)(S:Rs),(l.foldl Rs.come S).lg.length<=S.lg.length+↑l/\(l.foldl Rs.come S).hr.length<=S.hr.length+↑l/\(∀k∈(l.foldl Rs.come S).hr,k∈S.hr\/k∈l)/\(l.foldl Rs.come S).ds=S.ds/\(l.foldl Rs.come S).ts=S.ts/\(l.foldl Rs.come S).uw=S.uw/\(l.foldl Rs.come S).td=S.td
 | [],S=>⟨aU _,aU _,λk h=>.inl h,rfl,rfl,rfl,rfl⟩
 | x::l,S=>by
  obtain⟨h1,h2,f,d,i,a,b⟩:=zH l<|S.come x;rw[List.foldl_cons]
  by_cases c:x∈S.hr
  .rw[show S.come x=S from bC c]at h1 h2 f d i a b ⊢;rw[cU];exact⟨by lia,by lia,λk h=>(f k h).imp id<|.tail _,d,i,a,b⟩
  .have e:S.come x={S with hr:=S.hr++[x],lg:=S.lg++[[.str "came",.str x]]}:=aY c;rw[e]at h1 h2 f d i a b ⊢;rw[bI,dR]at h1 h2;rw[cU];refine⟨by lia,by lia,λk h=>?_,d,i,a,b⟩;rcases f k h with h | h
   .rcases wp5.mp h with h | h
    .exact .inl h
    .exact .inr<|wn1.mp h▸.head _
   .exact .inr<|.tail _ h
def Rn.all(P:Pg)(b:Nat):∀(c dn:Nat)(S:Rs),b-dn<=c->∃a e v,Rn P b dn S a e v:=by
 intro c
 induction c with
 | zero=>
  intro dn S h;cases e:S.td with
  | nil=>exact⟨_,_,_,.done e⟩
  | cons d r=>exact⟨_,_,_,.long e<|by lia⟩
 | succ c ih=>
  intro dn S h;cases e:S.td with
  | nil=>exact⟨_,_,_,.done e⟩
  | cons d r=>
   by_cases f:b<=dn
   .exact⟨_,_,_,.long e f⟩
   .cases z:doR P {S with td:=r} d with
    | mk S1 o=>
     cases o with
     | some en=>exact⟨_,_,_,.stop e (by lia) z⟩
     | none=>
      obtain⟨a,en,v,t⟩:=ih (dn+1) S1 (by lia);exact⟨a,en,v,.go e (by lia) z t⟩
def LL.size:LL->Nat
 | .nil=>0
 | .op _ _ _ t=>1+t.size
theorem JW(m:Nat):∀l:LL,↑(l.dues m)<=l.size
 | .nil=>aU _
 | .op _ _ _ t=>by have:=JW m t;simp only[LL.dues,LL.size,cU];lia
structure Cz where
 (th du rn:Addr)
abbrev MO:List Str:=["program","made","forms","bodies","choices","many_read","many_done","under_way","here","todo","log","looks"]
abbrev QW:List Str:=["number","row","inners","names"]
abbrev OJ:List Str:=["kind","fields"]
structure dS(K:Fq)(C:Cz):Prop where
 t:vR K C.th OJ
 d:vR K C.du QW
 r:vR K C.rn MO
 nd:C.du≠C.rn
 nt:C.th≠C.rn
def Fx(C:Cz):HO->Prop
 | .tup _=>True
 | .ins c _ _=>c≠C.rn
 | .ext _=>True
 | .frz _ (.tup _)=>True
 | _=>False
def Im(C:Cz)(H H':Hp):Prop:=∀b o,H b=some o->Fx C o->H' b=some o
def Im.refl:Im C H H:=λ_ _ h _=>h
def Im.trans(f:Im C H H1)(g:Im C H1 H2):Im C H H2:=λb o h x=>g b o (f b o h x) x
def Im.tup(f:Im C H H'):Tup H H':=λb xs h=>f b _ h fW
def Im.new(h:H p=none):Im C H (upd H p o):=λb u e _=>by rw[aC<|aP e h];exact e
theorem Im.upd(h:H p=some u)(n:¬Fx C u):Im C H (upd H p o):=λb v e x=>by
 rw[aC λz=>by rw[z,h]at e;cases e;exact n x];exact e
def cV(θ:List Addr):V->V
 | .int j=>.ref<|θ.getD j.toNat 0
 | v=>v
def cD(θ:List Addr)(d:List (aG×V)):List (aG×V):=d.map λz=>(z.1,cV θ z.2)
def YP:aF (cD θ d) k=(aF d k).map (cV θ):=by
 unfold aF cD
 induction d with
 | nil=>rfl
 | cons z d ih=>
  rw[fH,oR,oR]
  split <;> simp_all
def wX:(aF (cD θ d) k).getD .non=cV θ ((aF d k).getD .non):=by
 rw[YP];cases aF d k <;> rfl
def YF:aN (cD θ d) k (cV θ v)=cD θ (aN d k v):=by
 have e:(d.map λz=>(z.1,cV θ z.2)).any (λa=>decide<|a.1=k)=d.any λa=>decide (a.1=k):=by rw[List.any_map];rfl
 unfold aN cD;rw[e]
 split
 .rw[kX,kX];refine AN λz _=>?_;simp only[Function.comp]
  split <;> rfl
 .rw[bO];rfl
def VOk(n:Nat)(v:V):Prop:=v=.non\/∃j:Nat,v=.int j/\j<n
def VOk.mono(h:VOk n v)(l:n<=m):VOk m v:=h.imp id λ⟨j,e,z⟩=>⟨j,e,fM z l⟩
def qV(h:VOk θ.length v):cV (θ++l) v=cV θ v:=by
 rcases h with rfl | ⟨j,rfl,h⟩
 .rfl
 .show V.ref ((θ++l).getD j 0)=.ref (θ.getD j 0);rw[fQ,fQ,kG h]
def uB(h:∀z∈d,VOk θ.length z.2):cD (θ++l) d=cD θ d:=by
 unfold cD;exact AN λz hz=>by rw[qV<|h z hz]
def MD{d:List (aG×V)}(h:∀z∈d,VOk n z.2)(k:aG):VOk n ((aF d k).getD .non):=by
 unfold aF;cases e:d.find? (λa=>decide<|a.1=k)with
 | none=>exact .inl rfl
 | some z=>exact h z<|EN e
def MN{d:List (aG×V)}(h:∀z∈d,VOk n z.2)(a:VOk n v):∀z∈aN d k v,VOk n z.2:=by
 intro z hz;unfold aN at hz
 split at hz
 .obtain⟨y,b,rfl⟩:=wn7.mp hz
  split
  .exact a
  .exact h y b
 .rcases wp5.mp hz with hz | hz
  .exact h z hz
  .rw[wn1.mp hz];exact a
inductive Ens(Z:Str->Option Str->Prop)(H:Hp):LL->List Addr->Prop
 | nil:Ens Z H .nil []
 | op {n:Nat} {a e p:Addr} {r:Rw} {t:LL} {es:List Addr} (h:H e=some (.tup [.int n,.ref a,.ref p])) (hr:H a=some (.tup r.vs)) (hb:∀k,r=.bring k->Z k none) (s:Ens Z H t es):Ens Z H (.op n a r t) (e::es)
def Ens.keep(h:Ens Z H l es)(f:Tup H H'):Ens Z H' l es:=by
 induction h with
 | nil=>exact .nil
 | op h hr hb _ ih=>exact .op (f _ _ h) (f _ _ hr) hb ih
abbrev dF(v:V)(a p n:Addr):List (Str×V):=[("number",v),("row",.ref a),("inners",.ref p),("names",.ref n)]
inductive DuAt(C:Cz)(Z:Str->Option Str->Prop)(δ:List Addr)(H:Hp):Du->Addr->Prop
 | op {n m:Nat} {a u p dx na:Addr} {r:Rw} (h:H u=some (.ins C.du dx<|dF (.int n) a p na)) (hm:δ[m]?=some na) (hr:H a=some (.tup r.vs)) (hb:∀k,r=.bring k->Z k none):DuAt C Z δ H (.op n a r m) u
def xV{α:Type}{l r:List α}{i:Nat}{x:α}(h:l[i]?=some x):(l++r)[i]?=some x:=by
 rw[kG (zz2.mp h).1];exact h
def DuAt.keep(h:DuAt C Z δ H d u)(a:C.du≠C.rn)(f:Im C H H'):DuAt C Z (δ++l) H' d u:=by
 have t:=f.tup;cases h with
 | op h hm hr hb=>exact .op (f _ _ h a) (xV hm) (t _ _ hr) hb
structure Ra where
 (dx md fo bo ch he to lo:Addr)
 (us ls δ θ:List Addr)
def Ra.say(A:Ra)(t:Addr):Ra:={A with ls:=A.ls++[t]}
def Ra.due(A:Ra)(u:Addr):Ra:={A with us:=u::A.us}
def Ra.pop(A:Ra)(us:List Addr):Ra:={A with us:=us}
def Ra.dic(A:Ra)(a:Addr):Ra:={A with δ:=A.δ++[a]}
def Ra.thg(A:Ra)(t:Addr):Ra:={A with θ:=A.θ++[t]}
def Rs.num(S:Rs)(rd:Nat)(uw lk:Int):Rs:={S with rd:=rd,uw:=uw,lk:=lk}
def Rs.due(S:Rs)(d:Du):Rs:={S with td:=d::S.td}
def Rs.pop(S:Rs)(r:List Du):Rs:={S with td:=r}
def Rs.dic(S:Rs)(d:List (aG×V)):Rs:={S with ds:=S.ds++[d]}
def Rs.thg(S:Rs)(z:Str×Nat):Rs:={S with ts:=S.ts++[z]}
def Rs.her(S:Rs)(k:Str):Rs:={S with hr:=S.hr++[k]}
abbrev rF(pg:Addr)(A:Ra)(rd dn:Nat)(uw lk:Int):List (Str×V):=[("program",.ref pg),("made",.ref A.md),("forms",.ref A.fo),("bodies",.ref A.bo),("choices",.ref A.ch),("many_read",.int rd),("many_done",.int dn),("under_way",.int uw),("here",.ref A.he),("todo",.ref A.to),("log",.ref A.lo),("looks",.int lk)]
structure Ry where
 C:Cz
 pr:Program
 w:World
 K:Fq
 nd:C.du≠C.rn
 nt:C.th≠C.rn
structure Rx(Y:Ry) where
 Z:Str->Option Str->Prop
 H0:Hp
 pg:Addr
 G:Pg
structure BoAt{Y:Ry}(R:Rx Y)(H:Hp)(bo:Addr)(qs:List (Pr×Addr×Addr)):Prop where
 d:H bo=some (gF Y.pr Y.w bo qs)
 ok:PvOk Y.K H qs
 k:∀n d,R.G.hs n d->(n,d)∈qs.map (·.1)
 e:∀q∈qs,∃es:List Addr,H q.2.2=some (.tup<|es.map V.ref)/\Ens R.Z H (R.G.bo q.1.1 q.1.2) es
theorem BoAt.keep{Y:Ry}{R:Rx Y}(h:BoAt R H bo qs)(f:Im Y.C H H'):BoAt R H' bo qs where
 d:=f _ _ h.d fW
 ok q hq:=by
  rcases h.ok q hq with (z | ⟨o,z⟩) | z
  .exact .inl<|.inl<|f.tup _ _ z
  .exact .inl<|.inr ⟨o,f _ _ z fW⟩
  .exact .inr z
 k:=h.k
 e q hq:=by
  obtain⟨es,h1,h2⟩:=h.e q hq;exact⟨es,f.tup _ _ h1,h2.keep f.tup⟩
def JG{Y:Ry}(R:Rx Y)(H:Hp)(δ:List Addr)(z:Str×Nat)(t:Addr):Prop:=∃dx a,δ[z.2]?=some a/\H t=some (.ins Y.C.th dx [("kind",.str z.1),("fields",.ref a)])
structure RunI{Y:Ry}(R:Rx Y)(H:Hp)(A:Ra)(S:Rs):Prop where
 md:H A.md=some (.tup [])
 ch:H A.ch=some (.tup<|R.G.ch.map V.int)
 ud:A2 (DuAt Y.C R.Z A.δ H) S.td A.us
 lg:A2 (λr a=>H a=some (.tup r)) S.lg A.ls
 th:A2 (JG R H A.δ) S.ts A.θ
 bo:∃qs,BoAt R H A.bo qs
theorem RunI.keep{Y:Ry}{R:Rx Y}(h:RunI R H A S)(f:Im Y.C H H'):RunI R H' A S where
 md:=f.tup _ _ h.md
 ch:=f.tup _ _ h.ch
 ud:=h.ud.imp λ_ _ g=>by have:=g.keep (l:=[]) Y.nd f;rwa [gA]at this
 lg:=h.lg.imp λ_ _ g=>f.tup _ _ g
 th:=h.th.imp λ_ _ ⟨dx,a,e,g⟩=>⟨dx,a,e,f _ _ g Y.nt⟩
 bo:=let ⟨qs,g⟩:=h.bo;⟨qs,g.keep f⟩
structure RunAt{Y:Ry}(R:Rx Y)(H:Hp)(rn:Addr)(A:Ra)(S:Rs)(dn:Nat):Prop where
 im:RunI R H A S
 run:H rn=some (.ins Y.C.rn A.dx<|rF R.pg A S.rd dn S.uw S.lk)
 fo:H A.fo=some (.dK [])
 he:H A.he=some (.lst<|S.hr.map V.str)
 to:H A.to=some (.lst<|A.us.reverse.map V.ref)
 lo:H A.lo=some (.lst<|A.ls.map V.ref)
 dc:A2 (λd a=>H a=some (.dK<|cD A.θ d)) S.ds A.δ
 dk:∀d∈S.ds,∀z∈d,VOk S.ts.length z.2
 nd:(rn::A.fo::A.he::A.to::A.lo::A.δ).Nodup
 kp:∀b o,R.H0 b=some o->H b=some o
 fr:∀b∈rn::A.fo::A.he::A.to::A.lo::A.δ,R.H0 b=none
def RunAt.keep0{Y:Ry}{R:Rx Y}(h:RunAt R H rn A S dn)(f:FrS [] H H'):RunAt R H' rn A S dn where
 im:=h.im.keep λb o e _=>f b o aX e
 run:=f _ _ aX h.run
 fo:=f _ _ aX h.fo
 he:=f _ _ aX h.he
 to:=f _ _ aX h.to
 lo:=f _ _ aX h.lo
 dc:=h.dc.imp λ_ _ g=>f _ _ aX g
 dk:=h.dk
 nd:=h.nd
 kp b o e:=f _ _ aX<|h.kp b o e
 fr:=h.fr
def mQ{H0 H:Hp}(h:∀b o,H0 b=some o->H b=some o)(d:H0 a=none):∀b u,H0 b=some u->upd H a o b=some u:=λb u e=>by
 rw[aC<|aP e d];exact h b u e
def qM{θ:List Addr}(h:A2 (λd a=>H a=some (.dK<|cD θ d)) ds δ)(n:a∉δ):A2 (λd b=>upd H a o b=some (.dK<|cD θ d)) ds δ:=by
 induction h with
 | nil=>exact .nil
 | cons g _ ih=>
  rw[wm9,fG]at n;exact .cons (by rw[aC<|bL n.1];exact g)<|ih n.2
section
variable{Y:Ry}{R:Rx Y}{H:Hp}{rn:Addr}{A:Ra}{S:Rs}{dn:Nat}
theorem RunAt.num(h:RunAt R H rn A S dn)(rd a:Nat)(uw lk:Int):RunAt R (upd H rn<|.ins Y.C.rn A.dx<|rF R.pg A rd a uw lk) rn A (S.num rd uw lk) a/\Im Y.C H (upd H rn<|.ins Y.C.rn A.dx<|rF R.pg A rd a uw lk):=by
 have f:Im Y.C H (upd H rn<|.ins Y.C.rn A.dx<|rF R.pg A rd a uw lk):=.upd h.run λz=>z rfl;have nd:=h.nd;simp only[wq7,wm9,fG]at nd;obtain⟨⟨d,b,j,l,e⟩,_⟩:=nd;have i:=h.im.keep f;exact⟨{im:=⟨i.md,i.ch,i.ud,i.lg,i.th,i.bo⟩,run:=zb1,fo:=(aC<|bL d).trans h.fo,he:=(aC<|bL b).trans h.he,to:=(aC<|bL j).trans h.to,lo:=(aC<|bL l).trans h.lo,dc:=qM h.dc e,dk:=h.dk,nd:=h.nd,kp:=mQ h.kp<|h.fr _<|.head _,fr:=h.fr},f⟩
theorem RunAt.say(h:RunAt R H rn A S dn)(l:H t=some (.tup r)):RunAt R (upd H A.lo<|.lst<|A.ls.map V.ref++[.ref t]) rn (A.say t) (S.say r) dn/\Im Y.C H (upd H A.lo<|.lst<|A.ls.map V.ref++[.ref t]):=by
 have f:Im Y.C H (upd H A.lo<|.lst<|A.ls.map V.ref++[.ref t]):=.upd h.lo λz=>z;have nd:=h.nd;simp only[wq7,wm9,fG]at nd;obtain⟨⟨n,m,q,a,o⟩,⟨x,B,j,s⟩,⟨E,b,w⟩,⟨d,u⟩,e,_⟩:=nd;have i:=h.im.keep f;exact⟨{im:=⟨i.md,i.ch,i.ud,i.lg.snoc<|f.tup _ _ l,i.th,i.bo⟩,run:=(aC a).trans h.run,fo:=(aC j).trans h.fo,he:=(aC b).trans h.he,to:=(aC d).trans h.to,lo:=zb1.trans (by show _=some (HO.lst<|(A.ls++[t]).map V.ref);rw[bO];rfl),dc:=qM h.dc e,dk:=h.dk,nd:=h.nd,kp:=mQ h.kp<|h.fr _<|.tail _<|.tail _<|.tail _<|.tail _<|.head _,fr:=h.fr},f⟩
theorem RunAt.due(h:RunAt R H rn A S dn)(e:DuAt Y.C R.Z A.δ H d u):RunAt R (upd H A.to<|.lst<|A.us.reverse.map V.ref++[.ref u]) rn (A.due u) (S.due d) dn/\Im Y.C H (upd H A.to<|.lst<|A.us.reverse.map V.ref++[.ref u]):=by
 have f:Im Y.C H (upd H A.to<|.lst<|A.us.reverse.map V.ref++[.ref u]):=.upd h.to λz=>z;have nd:=h.nd;simp only[wq7,wm9,fG]at nd;obtain⟨⟨r,q,b,x,s⟩,⟨I,n,J,w⟩,⟨o,B,E⟩,⟨m,j⟩,G,_⟩:=nd;have i:=h.im.keep f;have a:=e.keep (l:=[]) Y.nd f;rw[gA]at a;exact⟨{im:=⟨i.md,i.ch,.cons a i.ud,i.lg,i.th,i.bo⟩,run:=(aC b).trans h.run,fo:=(aC n).trans h.fo,he:=(aC o).trans h.he,to:=zb1.trans (by show _=some (HO.lst<|(u::A.us).reverse.map V.ref);rw[EY,bO];rfl),lo:=(aC<|bL m).trans h.lo,dc:=qM h.dc j,dk:=h.dk,nd:=h.nd,kp:=mQ h.kp<|h.fr _<|.tail _<|.tail _<|.tail _<|.head _,fr:=h.fr},f⟩
theorem RunAt.pop(h:RunAt R H rn A S dn)(l:S.td=d::r)(e:A.us=u::us):RunAt R (upd H A.to<|.lst<|us.reverse.map V.ref) rn (A.pop us) (S.pop r) dn/\Im Y.C H (upd H A.to<|.lst<|us.reverse.map V.ref)/\DuAt Y.C R.Z A.δ (upd H A.to<|.lst<|us.reverse.map V.ref) d u:=by
 have f:Im Y.C H (upd H A.to<|.lst<|us.reverse.map V.ref):=.upd h.to λz=>z;have nd:=h.nd;simp only[wq7,wm9,fG]at nd;obtain⟨⟨q,o,a,x,s⟩,⟨G,m,I,w⟩,⟨n,B,E⟩,⟨j,b⟩,_,_⟩:=nd;have i:=h.im.keep f;have ud:=i.ud;rw[l,e]at ud;cases ud with
 | cons g t=>
  exact⟨{im:=⟨i.md,i.ch,t,i.lg,i.th,i.bo⟩,run:=(aC a).trans h.run,fo:=(aC m).trans h.fo,he:=(aC n).trans h.he,to:=zb1,lo:=(aC<|bL j).trans h.lo,dc:=qM h.dc b,dk:=h.dk,nd:=h.nd,kp:=mQ h.kp<|h.fr _<|.tail _<|.tail _<|.tail _<|.head _,fr:=h.fr},f,g⟩
end
def _root_.L2.A2.imp'{α β:Type}{R S:α->β->Prop}{as:List α}{bs:List β}(h:A2 R as bs):(∀a b,b∈bs->R a b->S a b)->A2 S as bs:=by
 induction h with
 | nil=>intro _;exact .nil
 | cons r t ih=>intro f;exact .cons (f _ _ (.head _) r)<|ih λa b d=>f a b<|.tail _ d
def A2.imp2{α β:Type}{R S:α->β->Prop}{as:List α}{bs:List β}(h:A2 R as bs):(∀a b,a∈as->R a b->S a b)->A2 S as bs:=by
 induction h with
 | nil=>intro _;exact .nil
 | cons r t ih=>intro f;exact .cons (f _ _ (.head _) r)<|ih λa b d=>f a b<|.tail _ d
def A2.back{α β:Type}{R:α->β->Prop}{as:List α}{bs:List β}(h:A2 R as bs){i:Nat}{b:β}(e:bs[i]?=some b):∃a,as[i]?=some a/\R a b:=by
 obtain⟨hi,_⟩:=zz2.mp e;obtain⟨f,d,r⟩:=h.get (bD<|by rw[h.len];exact hi);rw[e]at d;cases d;exact⟨_,bD _,r⟩
def A2.chg{α β:Type}{R f:α->β->Prop}{as:List α}{bs:List β}(h:A2 R as bs):∀{m:Nat}{b:β}{d:α},bs.Nodup->bs[m]?=some b->f d b->(∀a b',b'≠b->R a b'->f a b')->A2 f (as.set m d) bs:=by
 induction h with
 | nil=>intro m b d _ e;cases e
 | @cons a b0 as bs r t ih=>
  intro m b d nd e j i;rw[wq7]at nd;cases m with
  | zero=>
   cases e;exact .cons j<|t.imp' λx y l z=>i x y (λw=>nd.1<|by rw[<-w];exact l) z
  | succ m=>exact .cons (i _ _ (λw=>nd.1<|by rw[w];exact cW e) r)<|ih nd.2 e j i
section
variable{Y:Ry}{R:Rx Y}{H:Hp}{rn:Addr}{A:Ra}{S:Rs}{dn:Nat}
def RunAt.dict(h:RunAt R H rn A S dn)(b:A.δ[m]?=some a):H a=some (.dK<|cD A.θ<|S.ds.getD m [])/\(∀z∈S.ds.getD m [],VOk S.ts.length z.2)/\R.H0 a=none:=by
 obtain⟨d,e,g⟩:=A2.back h.dc b;rw[fQ,e];exact⟨g,h.dk d<|cW e,h.fr a<|.tail _<|.tail _<|.tail _<|.tail _<|.tail _<|cW b⟩
def RunAt.got(h:RunAt R H rn A S dn)(b:A.δ[m]?=some a)(x:Str):VOk S.ts.length (S.get m x):=MD (h.dict b).2.1 _
theorem RunAt.put(h:RunAt R H rn A S dn)(e:A.δ[m]?=some a)(u:VOk S.ts.length v)(x:Str):RunAt R (upd H a<|.dK<|aN (cD A.θ<|S.ds.getD m []) (Sum.inr x)<|cV A.θ v) rn A (S.put m x v) dn/\Im Y.C H (upd H a<|.dK<|aN (cD A.θ<|S.ds.getD m []) (Sum.inr x)<|cV A.θ v):=by
 obtain⟨o,ok,h0⟩:=h.dict e;have f:Im Y.C H (upd H a<|.dK<|aN (cD A.θ<|S.ds.getD m []) (Sum.inr x)<|cV A.θ v):=.upd o λz=>z;have w:=cW e;have nd:=h.nd;simp only[wq7,wm9,fG]at nd;obtain⟨⟨G,E,I,J,j⟩,⟨M,O,N,l⟩,⟨P,K,r⟩,⟨L,n⟩,s,q⟩:=nd;have i:=h.im.keep f;have ne:∀{b:Addr},b∉A.δ->b≠a:=λh z=>h (by rw[z];exact w)
 refine⟨{im:=⟨i.md,i.ch,i.ud,i.lg,i.th,i.bo⟩,run:=(aC<|ne j).trans h.run,fo:=(aC<|ne l).trans h.fo,he:=(aC<|ne r).trans h.he,to:=(aC<|ne n).trans h.to,lo:=(aC<|ne s).trans h.lo,dc:=?_,dk:=?_,nd:=h.nd,kp:=mQ h.kp h0,fr:=h.fr},f⟩
 .exact A2.chg h.dc q e (by rw[zb1,YF]) λd b B g=>by rw[aC B];exact g
 .intro d hd;rcases xU hd with hd | rfl
  .exact h.dk d hd
  .exact MN ok u
def RunAt.dic2(h:RunAt R H rn A S dn)(j:H a=none)(f:FrS [] H H')(e:H' a=some (.dK<|cD A.θ d))(hd:∀z∈d,VOk S.ts.length z.2):RunAt R H' rn (A.dic a) (S.dic d) dn:=by
 have g:Im Y.C H H':=λb o e _=>f b o aX e;have k:=h.keep0 f;have h0:R.H0 a=none:=by
  cases e:R.H0 a with
  | none=>rfl
  | some o=>rw[h.kp a o e]at j;cases j
 have r:a∉rn::A.fo::A.he::A.to::A.lo::A.δ:=by
  intro z;simp only[wm9]at z;rcases z with rfl | rfl | rfl | rfl | rfl | z
  .rw[h.run]at j;cases j
  .rw[h.fo]at j;cases j
  .rw[h.he]at j;cases j
  .rw[h.to]at j;cases j
  .rw[h.lo]at j;cases j
  .obtain⟨i,hi⟩:=wr6.mp z;rw[(h.dict hi).1]at j;cases j
 refine {im:=⟨k.im.md,k.im.ch,h.im.ud.imp λ_ _ z=>z.keep Y.nd g,k.im.lg,k.im.th.imp λ_ _ ⟨dx,b,e,z⟩=>⟨dx,b,xV e,z⟩,k.im.bo⟩,run:=k.run,fo:=k.fo,he:=k.he,to:=k.to,lo:=k.lo,dc:=k.dc.snoc e,dk:=λd' m=>?_,nd:=?_,kp:=k.kp,fr:=λb l=>?_}
 .rcases wp5.mp m with m | m
  .exact h.dk d' m
  .rw[wn1.mp m];exact hd
 .show((rn::A.fo::A.he::A.to::A.lo::A.δ)++[a]).Nodup;exact vh4.mpr ⟨h.nd,wq7.mpr ⟨aX,kQ⟩,λx n y q=>by rw[wn1.mp q];exact λz=>r<|by rw[<-z];exact n⟩
 .rcases wp5.mp (show b∈(rn::A.fo::A.he::A.to::A.lo::A.δ)++[a] from l)with l | l
  .exact h.fr b l
  .rw[wn1.mp l];exact h0
theorem RunAt.dic(h:RunAt R H rn A S dn)(b:H a=none)(hd:∀z∈d,VOk S.ts.length z.2):RunAt R (upd H a<|.dK<|cD A.θ d) rn (A.dic a) (S.dic d) dn/\Im Y.C H (upd H a<|.dK<|cD A.θ d):=⟨h.dic2 b (FrS.new b) zb1 hd,.new b⟩
theorem RunAt.thg(h:RunAt R H rn A S dn)(f:H t=some (.ins Y.C.th dx [("kind",.str k),("fields",.ref a)]))(e:A.δ[m]?=some a):RunAt R H rn (A.thg t) (S.thg (k,m)) dn where
 im:=⟨h.im.md,h.im.ch,h.im.ud,h.im.lg,h.im.th.snoc ⟨dx,a,e,f⟩,h.im.bo⟩
 run:=h.run
 fo:=h.fo
 he:=h.he
 to:=h.to
 lo:=h.lo
 dc:=A2.imp2 h.dc λd b hd g=>by show H b=some (.dK<|cD (A.θ++[t]) d);rw[uB<|by rw[<-h.im.th.len];exact h.dk d hd];exact g
 dk d hd z hz:=(h.dk d hd z hz).mono (by show _<=↑(S.ts++[_]);rw[bI];exact nJ _ _)
 nd:=h.nd
 kp:=h.kp
 fr:=h.fr
theorem RunAt.her(h:RunAt R H rn A S dn)(k:Str):RunAt R (upd H A.he<|.lst<|S.hr.map V.str++[.str k]) rn A (S.her k) dn/\Im Y.C H (upd H A.he<|.lst<|S.hr.map V.str++[.str k]):=by
 have f:Im Y.C H (upd H A.he<|.lst<|S.hr.map V.str++[.str k]):=.upd h.he λz=>z;have nd:=h.nd;simp only[wq7,wm9,fG]at nd;obtain⟨⟨l,a,n,r,m⟩,⟨e,x,w,o⟩,⟨j,b,d⟩,⟨s,q⟩,u,_⟩:=nd;have i:=h.im.keep f;exact⟨{im:=⟨i.md,i.ch,i.ud,i.lg,i.th,i.bo⟩,run:=(aC a).trans h.run,fo:=(aC e).trans h.fo,he:=zb1.trans (by show _=some (HO.lst<|(S.hr++[k]).map V.str);rw[bO];rfl),to:=(aC<|bL j).trans h.to,lo:=(aC<|bL b).trans h.lo,dc:=qM h.dc d,dk:=h.dk,nd:=h.nd,kp:=mQ h.kp<|h.fr _<|.tail _<|.tail _<|.head _,fr:=h.fr},f⟩
end
abbrev rH:Stmt:=top 35
abbrev KU:Stmt:=top 32
structure Bd(G:Pg)(S:Rs):Prop where
 td:S.td.length<=200000
 lg:S.lg.length<=100000
 hr:S.hr.length<=100000
 ds:∀d∈S.ds,↑d<=100000
 hn:∀k∈S.hr,k∈G.nm
 ts:∀z∈S.ts,z.1∈G.nm
structure IN{Y:Ry}(R:Rx Y)(tr:Tr):Prop where
 kn:KindsAt R.H0 R.pg tr
 ok:TrOk tr
 l12:↑tr<=12
 nm:tr.map (·.1)=R.G.nm
 ln:∀k∈R.G.nm,Up tr k<|R.G.ln k
 z0:∀k,R.Z k none->k∈R.G.nm
def mN{Y:Ry}(R:Rx Y):Prop:=∃tr,IN R tr
inductive IT(Y:Ry)(ok:Du->Prop)(vs:List V)(H:Hp)(Q:VK):Prop
 | mk(R:Rx Y)(rn u:Addr)(A:Ra)(S:Rs)(dn:Nat)(d:Du)(h1:vs=[.ref rn,.ref u])(h2:RunAt R H rn A S dn)(h3:DuAt Y.C R.Z A.δ H d u)(h4:ok d)(h5:Bd R.G S)(h6:mN R)(h7:∀A' H',RunAt R H' rn A' (doR R.G S d).1 dn->Im Y.C H H'->Q (aV (doR R.G S d).2) H')
def hZ(Y:Ry)(ok:Du->Prop):Sp:=λvs H Q _=>IT Y ok vs H Q
abbrev fP:List Str:=["run","due"]
def jW{n:Nat}(h:n<=1000000):n<sizeLine:=by rw[sizeLine_eq];lia
section
variable{Y:Ry}{mg:Str->Option Value}{base:Heap}{f:Addr}{fd:FuncData}
def zB:bY fP fP (bR rH):=cC
def qL(F:Fun Y.K "do_say" "do_say" rH f fd)(Z:dS Y.K Y.C):aR Y.pr Y.w Y.K mg base bP (k+1) f fd fP (hZ Y λd=>∃n a w m,d=.op n a (.say w) m):=by
 refine F.ok zB (λvs H Q E h=>?_) λi A outer s H vs Q E hr h=>?_
 .obtain⟨R,rn,u,A,S,dn,d,rfl,_⟩:=h;rfl
 obtain⟨R,rn,u,A,S,dn,d,rfl,h,hd,⟨n,a,w,m,rfl⟩,e,hp,q⟩:=h;exists _,aL (dW<|eN eA eX eY eR (dH Z.r<|pv 0)<|aA (bV<|aA bA<|aA (dH Z.d<|pv 1)<|aA (eT (dH Z.d<|pv 1) aO) aE) aE)
  (aS<|bT iH)
 ac_rfl
 cases hd with
 | @op _ _ _ _ p dx na _ hu hm hr' hb'=>
  refine⟨_,rfl,rn,_,_,_,rfl,h.run,rfl,.inl ⟨rfl,_,SqL.of h.lo⟩,_,rfl,u,_,_,_,rfl,hu,rfl,_,rfl,u,_,_,_,rfl,hu,rfl,a,_,_,_,rfl,rfl,SqT.of hr',rfl,cL<|bH (by show 3<=_;decide),λt b=>?_⟩;have h1:=h.keep0<|FrS.new (o:=.tup [.str "say",.int n,.str w]) b;have h2:=h1.say zb1;exact⟨_,_,_,rfl,rfl,h1.lo,jW (by rw[aK,<-h.im.lg.len];have:=e.lg;lia),q _ _ h2.1<|(Im.new b).trans h2.2⟩
end
def IL(i:Nat):Stmt:=match top i with
 | .ClassDef _ _ _ b _ _ _ _ _ _ _=>b.getD 0<|.Pass ⟨0,0,0,0⟩
 | s=>s
abbrev pW:Stmt:=IL 26
abbrev pJ:Stmt:=IL 27
def RE{H:Hp}{a b:Addr}{o u:HO}(h:a≠b):upd (upd H a o) b u=upd (upd H b u) a o:=by
 funext c
 unfold upd
 by_cases e:c=b
 .rw[bC e,aY λz=>h<|z.symm.trans e,bC e]
 .rw[aY e,aY e]
inductive yP(C:Addr)(vs:List V)(H:Hp)(Q:VK):Prop
 | mk(x dx:Addr)(k:Str)(h1:vs=[.ref x,.str k])(h2:H x=some (.ins C dx []))(h3:∀a,H a=none->Q .non (upd (upd H a<|.dK []) x<|.ins C dx [("kind",.str k),("fields",.ref a)]))
def DA(C:Addr):Sp:=λvs H Q _=>yP C vs H Q
inductive xK(C:Addr)(vs:List V)(H:Hp)(Q:VK):Prop
 | mk(x dx a p n:Addr)(v:V)(h1:vs=[.ref x,v,.ref a,.ref p,.ref n])(h2:H x=some (.ins C dx []))(h3:Q .non (upd H x<|.ins C dx<|dF v a p n))
def BU(C:Addr):Sp:=λvs H Q _=>xK C vs H Q
abbrev iI:List Str:=["self","kind"]
abbrev iU:List Str:=["self","number","row","inners","names"]
section
variable{Y:Ry}{mg:Str->Option Value}{base:Heap}{f:Addr}{fd:FuncData}
def BI:bY iI iI (bR pW):=cC
def uV(F:Fun Y.K "__init__" "Thing.__init__" pW f fd)(Z:dS Y.K Y.C):aR Y.pr Y.w Y.K mg base bP (k+1) f fd iI (DA Y.C.th):=by
 refine F.ok BI (λvs H Q E h=>?_) λd A outer s H vs Q E hr h=>?_
 .obtain⟨x,dx,k,rfl,_⟩:=h;rfl
 obtain⟨x,dx,k,rfl,h,q⟩:=h;exists _,aL (fV Z.t (pv 0)<|pv 1)<|aS<|fV Z.t (pv 0) mI
 ac_rfl
 refine⟨_,rfl,_,rfl,x,dx,_,rfl,h,by decide,λa b=>⟨_,rfl,x,dx,[("kind",.str k)],rfl,?_,by show 1<1000;decide,?_⟩⟩
 .rw[aC λz=>by rw[<-z,zb1]at b;cases b];exact zb1
 .have n:x≠a:=λz=>by rw[<-z,zb1]at b;cases b
  have:=q a (by rw[aC<|bL n]at b;exact b);rw[RE n,fT];exact this
def zC:bY iU iU (bR pJ):=cC
def rC(F:Fun Y.K "__init__" "Due.__init__" pJ f fd)(Z:dS Y.K Y.C):aR Y.pr Y.w Y.K mg base bP (k+1) f fd iU (BU Y.C.du):=by
 refine F.ok zC (λvs H Q E h=>?_) λb A outer s H vs Q E hr h=>?_
 .obtain⟨x,dx,a,p,n,v,rfl,_⟩:=h;rfl
 obtain⟨x,dx,a,p,n,v,rfl,h,q⟩:=h;exists _,aL (fV Z.d (pv 0)<|pv 1)<|aL (fV Z.d (pv 0)<|pv 2)<|aL (fV Z.d (pv 0)<|pv 3)<|aS<|fV Z.d (pv 0)<|pv 4
 ac_rfl
 refine⟨_,rfl,_,rfl,x,dx,_,rfl,h,by decide,_,rfl,_,rfl,x,dx,_,rfl,zb1,by show 1<1000;decide,_,rfl,_,rfl,x,dx,_,rfl,zb1,by show 2<1000;decide,_,rfl,_,rfl,x,dx,_,rfl,zb1,by show 3<1000;decide,?_⟩;rw[fT,fT,fT];exact q
structure gT(Y:Ry)(mg:Str->Option Value)(base:Heap)(k:Nat)(x:Str)(C:Addr)(ps:List Str)(sp:Sp):Prop where
 ex:∃g gd,aR Y.pr Y.w Y.K mg base bP k g gd ps sp/\Binds Y.K gd ps []/\Mk Y.K C g/\mg x=some (.ref C)
end
inductive WN(C:Addr)(vs:List V)(H:Hp)(Q:VK):Prop
 | mk(k:Str)(h:vs=[.str k])(q:∀x dx a,H x=none->H dx=none->H a=none->dx≠x->a≠x->a≠dx->Q (.ref x) (upd (upd (upd H dx<|.own x) a<|.dK []) x<|.ins C dx [("kind",.str k),("fields",.ref a)]))
inductive TL(C:Addr)(vs:List V)(H:Hp)(Q:VK):Prop
 | mk(a p n:Addr)(v:V)(h:vs=[v,.ref a,.ref p,.ref n])(q:∀x dx,H x=none->H dx=none->dx≠x->Q (.ref x) (upd (upd H dx<|.own x) x<|.ins C dx<|dF v a p n))
def GW(B:List V->Hp->VK->Prop)(t:TA):TE:=λσ H Q=>t σ H λvs H1=>B vs H1 Q
section
variable{X:Cx}{Y:Ry}{k:Nat}{p pos:Pos}{e:Expr}{es:List Expr}{t:TA}{x:Str}{C:Addr}{ps:List Str}{sp:Sp}{B:List V->Hp->VK->Prop}
def KG(M:gT Y X.mg X.base k x C ps sp)(E:∀vs H Q,B vs H Q->∀x dx,H x=none->H dx=none->dx≠x->sp (.ref x::vs) (upd (upd H dx<|.own x) x<|.ins C dx []) (λv H2=>v=.non/\Q (.ref x) H2) E0)(hr:Room (k+1) X.A)(i:Gl X x)(j:PA X (e::es) t)
  (n:X.prog=Y.pr:=by rfl) (l:X.w=Y.w:=by rfl) (d:X.K=Y.K:=by rfl) (u:(x == ("__debug__":Str))=false:=by decide) (he:starEach (e::es) X.env=(false,eval e X.env)::starEach es X.env:=by rfl) (z:(backTo pos<|starEach es X.env).any (·.1)=false:=by rfl):PE X (.Call (.Name x p) (e::es) [] pos) (GW B t):=by
 obtain⟨g,gd,G,b,m,f⟩:=M.ex;rw[<-n,<-l,<-d]at G;rw[<-d]at b m;intro o s σ H Q I h;refine vS<|FV I i f ?_ u;refine PySem.W.callWith_K (h₀:=X.base) I.ok.mod.kin m.kp (aQ (j pos o s σ H _ I h) ?_) he z;rintro us L ⟨vs,H1,a,r,q⟩;exact⟨a.kIn,SR m G hr b .nil JL a r λx dx h1 h2 J=>by rw[gA];exact E vs H1 Q q x dx h1 h2 J⟩
end
def WY(vs:List V)(H:Hp)(Q:VK)(h:WN C vs H Q)(x dx:Addr)(h1:H x=none)(h2:H dx=none)(f:dx≠x):DA C (.ref x::vs) (upd (upd H dx<|.own x) x<|.ins C dx []) (λv H2=>v=.non/\Q (.ref x) H2) E0:=by
 obtain⟨k,rfl,q⟩:=h;refine⟨x,dx,k,rfl,zb1,λa b=>⟨rfl,?_⟩⟩;have d:a≠x:=λz=>by rw[z,zb1]at b;cases b
 rw[aC d]at b;have e:a≠dx:=λz=>by rw[z,zb1]at b;cases b
 rw[aC e]at b;rw[RE<|bL d,fT];exact q x dx a h1 h2 b f d e
def UI(vs:List V)(H:Hp)(Q:VK)(h:TL C vs H Q)(x dx:Addr)(h1:H x=none)(h2:H dx=none)(b:dx≠x):BU C (.ref x::vs) (upd (upd H dx<|.own x) x<|.ins C dx []) (λv H2=>v=.non/\Q (.ref x) H2) E0:=by
 obtain⟨a,p,n,v,rfl,q⟩:=h;exists x,dx,a,p,n,v,rfl,zb1,rfl;rw[fT];exact q x dx h1 h2 b
abbrev FS:Stmt:=top 31
abbrev rN:Stmt:=top 33
abbrev JA:Stmt:=top 34
def RunAt.few{Y:Ry}{R:Rx Y}(h:RunAt R H rn A S dn)(b:Bd G S)(f:A.δ[m]?=some a):↑(cD A.θ<|S.ds.getD m [])<sizeLine:=by
 obtain⟨d,e,_⟩:=A2.back h.dc f;rw[fQ,e];unfold cD;rw[aK];have:=b.ds d<|cW e;exact jW (by show ↑d<=_;lia)
def RunAt.thing{Y:Ry}{R:Rx Y}(h:RunAt R H rn A S dn){j:Nat}(d:j<S.ts.length):∃t dx a,cV A.θ (.int j)=.ref t/\H t=some (.ins Y.C.th dx [("kind",.str<|S.kind j),("fields",.ref a)])/\A.δ[S.dict j]?=some a:=by
 obtain⟨t,e,dx,a,h1,h2⟩:=h.im.th.get<|bD d;have b:S.ts.getD (j:Int).toNat ("",0)=S.ts[j]:=by show S.ts.getD j _=_;rw[fQ,bD d];rfl
 refine⟨t,dx,a,?_,by unfold Rs.kind;rw[b];exact h2,by unfold Rs.dict;rw[b];exact h1⟩;show V.ref (A.θ.getD j 0)=_;rw[fQ,e];rfl
section
variable{Y:Ry}{mg:Str->Option Value}{base:Heap}{f:Addr}{fd:FuncData}
def yv7:bY ["run","due","word","x","y"] fP (bR KU):=cC
def XV(F:Fun Y.K "do_copy" "do_copy" KU f fd)(Z:dS Y.K Y.C):aR Y.pr Y.w Y.K mg base bP (k+1) f fd fP (hZ Y λd=>∃n a x y m,d=.op n a (.copy x y) m):=by
 refine F.ok yv7 (λvs H Q E h=>?_) λj A outer s H vs Q E hr h=>?_
 .obtain⟨R,rn,u,A,S,dn,d,rfl,_⟩:=h;rfl
 obtain⟨R,rn,u,A,S,dn,d,rfl,h,hd,⟨n,a,x,y,m,rfl⟩,i,hp,q⟩:=h;have e:=dU hr;exists _,aL (iM (dH Z.d<|pv 1)<|eC (n:=3) rfl<|bJ (gL 2 yv7.nd)<|bJ (gL 3 yv7.nd)<|bJ (gL 4 yv7.nd) dY)
  (aL (fF e (dH Z.d<|pv 1) (pv 3) (iD e (dH Z.d<|pv 1) (pv 4) ⟨rfl,rfl,rfl,rfl⟩) rfl)<|aS<|bT iH)
 ac_rfl
 cases hd with
 | @op _ _ _ _ p dx na _ hu' hm hr' hb'=>
  obtain⟨b,_,_⟩:=h.dict hm;exists _,rfl,u,_,_,_,rfl,hu',rfl,a,_,rfl,SqT.of hr',rfl,_,_,rfl,_,_,rfl,_,_,rfl,rfl;exists _,rfl,u,_,_,_,rfl,hu',rfl,na,rfl,.inl ⟨_,.inl b⟩,_,rfl,_,DGet.k (k:=(Sum.inr y:aG)) b,_,rfl,u,_,_,_,rfl,hu',rfl,_,rfl,na,_,rfl,DPut.k (k:=(Sum.inr x:aG)) b<|h.few i hm;rw[wX];have:=h.put hm (h.got hm y) x;exact q _ _ this.1 this.2
def yz0:bY ["run","due","word","x","field","y","thing"] fP (bR rN):=cC
def tM(F:Fun Y.K "do_put" "do_put" rN f fd)(Z:dS Y.K Y.C):aR Y.pr Y.w Y.K mg base bP (k+1) f fd fP (hZ Y λd=>∃n a x g y m,d=.op n a (.put x g y) m):=by
 refine F.ok yz0 (λvs H Q E h=>?_) λJ A outer s H vs Q E hr h=>?_
 .obtain⟨R,rn,u,A,S,dn,d,rfl,_⟩:=h;rfl
 obtain⟨R,rn,u,A,S,dn,d,rfl,h,hd,⟨n,a,x,g,y,m,rfl⟩,z,hp,q⟩:=h;have o:=dU hr;exists _,aL (iM (dH Z.d<|pv 1)<|eC (n:=4) rfl<|bJ (gL 2 yz0.nd)<|bJ (gL 3 yz0.nd)<|bJ (gL 4 yz0.nd)<|bJ (gL 5 yz0.nd) dY)
  (aL (sL 6 yz0.nd<|iD o (dH Z.d<|pv 1) (pv 3) ⟨rfl,rfl,rfl,rfl⟩)<|aL (cI (hV<|nL<|pv 6) (aS<|bT bA) cZ)<|aL (fF o (dH Z.t<|pv 6) (pv 4) (iD o (dH Z.d<|pv 1) (pv 5) ⟨rfl,rfl,rfl,rfl⟩) rfl)<|aS<|bT iH)
 ac_rfl
 cases hd with
 | @op _ _ _ _ p dx na _ hu' hm hr' hb'=>
  obtain⟨i,_,_⟩:=h.dict hm;exists _,rfl,u,_,_,_,rfl,hu',rfl,a,_,rfl,SqT.of hr',rfl,_,_,rfl,_,_,rfl,_,_,rfl,_,_,rfl,rfl;exists _,rfl,u,_,_,_,rfl,hu',rfl,na,rfl,.inl ⟨_,.inl i⟩,_,rfl,_,DGet.k (k:=(Sum.inr x:aG)) i;rw[wX];have l:∀A' H',RunAt R H' rn A' (S.thing (S.get m x) λj=>(S.put (S.dict j) g<|S.get m y,none)).1 dn->Im Y.C H H'->Q (aV (S.thing (S.get m x) λj=>(S.put (S.dict j) g<|S.get m y,none)).2) H':=q;show fJ _ _ _ (List.set _ _<|some<|cV A.θ<|S.get m x) _;rcases h.got hm x with e | ⟨j,e,hj⟩
  .rw[e]at l ⊢;exact⟨_,rfl,_,rfl,bG (λ_=>l A H h Im.refl) λc=>absurd rfl c⟩
  .rw[e]at l ⊢;obtain⟨t,L,b,B,G,r⟩:=h.thing hj;rw[B];obtain⟨I,_,_⟩:=h.dict r;refine⟨_,rfl,_,rfl,bF ?_⟩;exists _,rfl,u,_,_,_,rfl,hu',rfl,na,rfl,.inl ⟨_,.inl i⟩,_,rfl,_,DGet.k (k:=(Sum.inr y:aG)) i,_,rfl,t,_,_,_,rfl,G,rfl,_,rfl,b,_,rfl,DPut.k (k:=(Sum.inr g:aG)) I<|h.few z r;rw[wX];have:=h.put r (h.got hm y) g;exact l _ _ this.1 this.2
def scTk:bY ["run","due","word","x","y","field","thing"] fP (bR JA):=cC
def AH(F:Fun Y.K "do_take" "do_take" JA f fd)(Z:dS Y.K Y.C):aR Y.pr Y.w Y.K mg base bP (k+1) f fd fP (hZ Y λd=>∃n a x y g m,d=.op n a (.take x y g) m):=by
 refine F.ok scTk (λvs H Q E h=>?_) λJ A outer s H vs Q E hr h=>?_
 .obtain⟨R,rn,u,A,S,dn,d,rfl,_⟩:=h;rfl
 obtain⟨R,rn,u,A,S,dn,d,rfl,h,hd,⟨n,a,x,y,g,m,rfl⟩,B,hp,q⟩:=h;have l:=dU hr;exists _,aL (iM (dH Z.d<|pv 1)<|eC (n:=4) rfl<|bJ (gL 2 scTk.nd)<|bJ (gL 3 scTk.nd)<|bJ (gL 4 scTk.nd)<|bJ (gL 5 scTk.nd) dY)
  (aL (sL 6 scTk.nd<|iD l (dH Z.d<|pv 1) (pv 4) ⟨rfl,rfl,rfl,rfl⟩)<|aL (cI (hV<|nL<|pv 6) (aS<|bT bA) cZ)<|aL (fF l (dH Z.d<|pv 1) (pv 3) (iD l (dH Z.t<|pv 6) (pv 5) ⟨rfl,rfl,rfl,rfl⟩) rfl)<|aS<|bT iH)
 ac_rfl
 cases hd with
 | @op _ _ _ _ p dx na _ hu' hm hr' hb'=>
  obtain⟨o,_,_⟩:=h.dict hm;exists _,rfl,u,_,_,_,rfl,hu',rfl,a,_,rfl,SqT.of hr',rfl,_,_,rfl,_,_,rfl,_,_,rfl,_,_,rfl,rfl;exists _,rfl,u,_,_,_,rfl,hu',rfl,na,rfl,.inl ⟨_,.inl o⟩,_,rfl,_,DGet.k (k:=(Sum.inr y:aG)) o;rw[wX];have i:∀A' H',RunAt R H' rn A' (S.thing (S.get m y) λj=>(S.put m x<|S.get (S.dict j) g,none)).1 dn->Im Y.C H H'->Q (aV (S.thing (S.get m y) λj=>(S.put m x<|S.get (S.dict j) g,none)).2) H':=q;show fJ _ _ _ (List.set _ _<|some<|cV A.θ<|S.get m y) _;rcases h.got hm y with e | ⟨j,e,hj⟩
  .rw[e]at i ⊢;exact⟨_,rfl,_,rfl,bG (λ_=>i A H h Im.refl) λc=>absurd rfl c⟩
  .rw[e]at i ⊢;obtain⟨t,L,b,G,I,z⟩:=h.thing hj;rw[G];obtain⟨r,_,_⟩:=h.dict z;refine⟨_,rfl,_,rfl,bF ?_⟩;exists _,rfl,t,_,_,_,rfl,I,rfl,b,rfl,.inl ⟨_,.inl r⟩,_,rfl,_,DGet.k (k:=(Sum.inr g:aG)) r,_,rfl,u,_,_,_,rfl,hu',rfl,_,rfl,na,_,rfl,DPut.k (k:=(Sum.inr x:aG)) o<|h.few B hm;rw[wX];have:=h.put hm (h.got z g) x;exact i _ _ this.1 this.2
def scMk:bY ["run","due","word","x","kind"] fP (bR FS):=cC
def AB(F:Fun Y.K "do_make" "do_make" FS f fd)(Z:dS Y.K Y.C)(M:gT Y mg base k "Thing" Y.C.th iI (DA Y.C.th)):aR Y.pr Y.w Y.K mg base bP (k+2) f fd fP (hZ Y λd=>∃n a x y m,d=.op n a (.make x y) m):=by
 refine F.ok scMk (λvs H Q E h=>?_) λa6 A outer s H vs Q E hr h=>?_
 .obtain⟨R,rn,u,A,S,dn,d,rfl,_⟩:=h;rfl
 obtain⟨R,rn,u,A,S,dn,d,rfl,h,hd,⟨n,a,x,y,m,rfl⟩,j,hp,q⟩:=h;have X:=dU hr;exists _,aL (iM (dH Z.d<|pv 1)<|eC (n:=3) rfl<|bJ (gL 2 scMk.nd)<|bJ (gL 3 scMk.nd)<|bJ (gL 4 scMk.nd) dY)
  (aL (cI (cA (show cX _ _ (gW Y.K true) from vU) (pv 4) (dH Z.r<|pv 0) rfl) (aS<|bT bA) cZ)<|aL (fF X (dH Z.d<|pv 1) (pv 3) (KG M WY hr rfl<|aA (pv 4) aE) rfl)<|aS<|bT iH)
 ac_rfl
 cases hd with
 | @op _ _ _ _ p dx na _ hu' hm hr' hb'=>
  exists _,rfl,u,_,_,_,rfl,hu',rfl,a,_,rfl,SqT.of hr',rfl,_,_,rfl,_,_,rfl,_,_,rfl,rfl;exists _,rfl,_,rfl,rn,_,_,_,rfl,h.run,rfl,A.he,_,rfl,.inl<|SqL.of h.he,rfl,iS _,_,rfl;show if (!iE (.str y) (S.hr.map V.str))=true then _ else _
  rw[jT];have l:∀A' H',RunAt R H' rn A' (if y∈S.hr then(((S.make y).put m x<|.int S.ts.length),none) else(S,some "absent"):Rs×Option Str).1 dn->Im Y.C H H'->Q (aV (if y∈S.hr then(((S.make y).put m x<|.int S.ts.length),none) else(S,some "absent"):Rs×Option Str).2) H':=q
  by_cases c:y∈S.hr
  .rw[bC c]at l;rw[fI c];refine bF ⟨_,rfl,y,rfl,λt i b ht O a5 n1 n2 n3=>?_⟩;have W:=h.keep0<|FrS.new (o:=.own t) O;have a4:upd H i (.own t) b=none:=by rw[aC n3];exact a5
   have T:RunAt R (upd (upd H i<|.own t) b<|.dK []) rn (A.dic b) (S.dic []) dn/\Im Y.C (upd H i<|.own t) (upd (upd H i<|.own t) b<|.dK []):=W.dic (d:=[]) a4 λz hz=>nomatch hz;have N:upd (upd H i<|.own t) b (.dK []) t=none:=by rw[aC<|bL n2,aC<|bL n1];exact ht
   have B:RunAt R (upd (upd (upd H i<|.own t) b<|.dK []) t<|.ins Y.C.th i [("kind",.str y),("fields",.ref b)]) rn ((A.dic b).thg t) (S.make y) dn:=(T.1.keep0<|FrS.new (o:=.ins Y.C.th i [("kind",.str y),("fields",.ref b)]) N).thg (k:=y) (m:=S.ds.length) zb1 (by
    show(A.δ++[b])[S.ds.length]?=some b;rw[h.dc.len,jZ<|aU _,Nat.sub_self];rfl)
   have J:Im Y.C H (upd (upd (upd H i<|.own t) b<|.dK []) t<|.ins Y.C.th i [("kind",.str y),("fields",.ref b)]):=((Im.new O).trans T.2).trans<|Im.new N;have P:=J _ _ hu' Y.nd;have L:((A.dic b).thg t).δ[m]?=some na:=xV hm;generalize upd (upd (upd H i<|.own t) b<|.dK []) t (.ins Y.C.th i [("kind",.str y),("fields",.ref b)])=H3 at B J P;have hv:VOk (S.make y).ts.length (.int S.ts.length):=.inr ⟨_,rfl,by show _<↑(S.ts++[_]);rw[bI];exact wM _⟩;have e:cV ((A.dic b).thg t).θ (.int S.ts.length)=.ref t:=by
    show V.ref ((A.θ++[t]).getD S.ts.length 0)=_;rw[h.im.th.len,fQ,jZ<|aU _,Nat.sub_self];rfl
   obtain⟨ha,_,_⟩:=B.dict L;have I:=B.put L hv x;rw[e]at I;refine⟨_,rfl,u,_,_,_,rfl,P,rfl,_,rfl,na,_,rfl,DPut.k (k:=(Sum.inr x:aG)) ha ?_,l _ _ I.1<|J.trans I.2⟩;have b3:Bd R.G (S.make y):=⟨j.td,j.lg,j.hr,λd hd=>by
    rcases wp5.mp hd with hd | hd
    .exact j.ds d hd
    .rw[wn1.mp hd];exact bM _,j.hn,λz hz=>by
    rcases wp5.mp hz with hz | hz
    .exact j.ts z hz
    .rw[wn1.mp hz];exact j.hn y c⟩
   exact B.few b3 L
  .rw[aY c]at l;rw[gM c];exact bG (λ_=>l A H h Im.refl) λc=>absurd rfl c
end
abbrev sD:Stmt:=top 29
def YU{K:Fq}{a:Addr}{xs:List V}{g:TG}{tb:TS}{D:cR}{σ:St}{H:Hp}(b:Nat->St->Hp->Prop)(h0:b 0 σ H)(hl:∀i σ H,i<=↑xs->b i σ H->SqT K H a xs)
  (hs:∀i x σ H,xs.reverse[i]?=some x->b i σ H->g x σ H λσ2 H2=>tb {D with nx:=b<|i+1,ct:=b<|i+1,bk:=D.nx} σ2 H2) (hd:∀σ H,b ↑xs σ H->D.nx σ H):
  ∃W:Nat->Nat->St->Hp->Prop,(∃m,W 0 m σ H)/\∀i m σ H,W i m σ H->
   ((kB K a ↑xs).stop i H/\D.nx σ H)\/((kB K a ↑xs).go i H/\∃N:St->Hp->Prop,(∀σ' H',N σ' H'->∃m',m'<m/\W (i+1) m' σ' H')/\∀x H',(kB K a ↑xs).yld i H x H'->g x σ H' λσ2 H2=>tb {D with nx:=N,ct:=N,bk:=D.nx} σ2 H2):=by
 exists λi m σ H=>m=↑xs-i/\i<=↑xs/\b i σ H,⟨↑xs,by simp,bM _,h0⟩;rintro i m σ H ⟨rfl,hi,p⟩;have q:=hl i σ H hi p
 by_cases d:i<↑xs
 .refine .inr ⟨⟨xs,xs.reverse[i]'(by rw[kN];exact d),q,rfl,bD _⟩,b<|i+1,λσ' H' f=>⟨↑xs-(i+1),by(clear hi;lia),rfl,d,f⟩,λx H' y=>?_⟩;obtain⟨e,y⟩:=y;subst e;exact hs i x σ _ (y xs q) p
 .have e:i=↑xs:=by lia
  subst e;exact .inl ⟨⟨xs,q,rfl,aU _⟩,hd σ H p⟩
def FL(Y:Ry)(R:Rx Y)(δ:List Addr)(m:Nat)(H:Hp)(d:Du)(e:Addr):Prop:=∃(n:Nat)(a p:Addr),H e=some (.tup [.int n,.ref a,.ref p])/\∀(na u dx:Addr)(H':Hp),δ[m]?=some na->Tup H H'->H' u=some (.ins Y.C.du dx<|dF (.int n) a p na)->DuAt Y.C R.Z δ H' d u
def Ens.at{Y:Ry}{R:Rx Y}(h:Ens R.Z H l es):A2 (FL Y R δ m H) (l.dues m) es:=by
 induction h with
 | nil=>exact .nil
 | op h hr hb _ ih=>exact .cons ⟨_,_,_,h,λd u dx H' b f a=>.op a b (f _ _ hr) hb⟩ ih
inductive wP(Y:Ry)(vs:List V)(H:Hp)(Q:VK):Prop
 | mk(R:Rx Y)(rn l na:Addr)(A:Ra)(S:Rs)(dn m:Nat)(L:LL)(es:List Addr)(h1:vs=[.ref rn,.ref l,.ref na])(h2:RunAt R H rn A S dn)(h3:H l=some (.tup<|es.map V.ref))(h4:Ens R.Z H L es)(h5:A.δ[m]?=some na)(h6:S.td.length+L.size<=900000)(h7:∀us H',RunAt R H' rn (A.pop us) (S.push L m) dn->Im Y.C H H'->Q .non H')
def KF(Y:Ry):Sp:=λvs H Q _=>wP Y vs H Q
inductive GU{Y:Ry}(R:Rx Y)(H:Hp)(rn l na:Addr)(A:Ra)(S:Rs)(dn:Nat)(ds:List Du)(i:Nat)(σ:St)(Hx:Hp):Prop
 | mk(x y z:Option V)(us:List Addr)(h1:σ=[some<|.ref rn,some<|.ref l,some<|.ref na,x,y,z])(h2:RunAt R Hx rn (A.pop us) (S.pop<|ds.drop (↑ds-i)++S.td) dn)(h3:Im Y.C H Hx)
abbrev lP:List Str:=["run","rows","names"]
section
variable{Y:Ry}{mg:Str->Option Value}{base:Heap}{f:Addr}{fd:FuncData}
def xq9:bY ["run","rows","names","number","row","inners"] lP (bR sD):=cC
def qU(F:Fun Y.K "add_due" "add_due" sD f fd)(Z:dS Y.K Y.C)(M:gT Y mg base k "Due" Y.C.du iU (BU Y.C.du))(mr:mg "reversed"=none):aR Y.pr Y.w Y.K mg base bP (k+2) f fd lP (KF Y):=by
 refine F.ok xq9 (λvs H Q E h=>?_) λa4 A outer s H vs Q E hr h=>?_
 .obtain⟨R,rn,l,b,A,S,dn,m,L,es,rfl,_⟩:=h;rfl
 obtain⟨R,rn,l,b,A,S,dn,m,L,es,rfl,h,hl,X,hm,hz,q⟩:=h;exists _,aS<|dX dO rfl (uR rfl mr<|aA (pv 1) aE) (eC (n:=3) rfl<|bJ (gL 3 xq9.nd)<|bJ (gL 4 xq9.nd)<|bJ (gL 5 xq9.nd) dY)<|aS<|dW<|eN eA eX eY eR (dH Z.r<|pv 0)<|aA (KG M UI hr rfl<|aA (pv 3)<|aA (pv 4)<|aA (pv 5)<|aA (pv 2) aE) aE
 ac_rfl
 have J:=X.at (Y:=Y) (δ:=A.δ) (m:=m);have a0:=J.len;have a3:=JW m L;exists _,rfl,l,_,rfl,SqT.of hl;refine YU (xs:=es.map V.ref) (GU R H rn l b A S dn<|L.dues m) ⟨_,_,_,A.us,rfl,?_,Im.refl⟩ ?_ ?_ ?_
 .rw[Nat.sub_zero,wC];exact h
 .rintro i σ z hi ⟨_,_,_,_,_,_,f⟩;exact SqT.of<|f.tup _ _ hl
 .rintro i x σ z P ⟨_,_,_,us,rfl,g,f⟩;rw[<-List.map_reverse,bN,wp4]at P;obtain⟨e,he,rfl⟩:=P;have hi:i<↑es:=by rw[<-kN];exact(zz2.mp he).1
  rw[List.getElem?_reverse hi]at he;obtain⟨d,hd,n,a,p,h1,h2⟩:=A2.back J he;have t:=f.tup;exists e,_,rfl,SqT.of<|t _ _ h1,rfl,_,_,rfl,_,_,rfl,_,_,rfl,rfl;refine⟨_,rfl,rn,_,_,_,rfl,g.run,rfl,.inl ⟨rfl,_,SqL.of g.to⟩,_,rfl,_,rfl,_,rfl,_,rfl,a,p,b,_,rfl,λu j G N I=>?_⟩;have B:=g.keep0 ((FrS.new (o:=.own u) N).trans<|FrS.new (o:=.ins Y.C.du j<|dF (.int n) a p b)<|by rw[aC<|bL I];exact G);have T:Im Y.C z (upd (upd z j<|.own u) u<|.ins Y.C.du j<|dF (.int n) a p b):=(Im.new N).trans (Im.new<|by rw[aC<|bL I];exact G);have a2:=h2 b u j _ hm (t.trans T.tup)<|zb1 (H:=upd z j<|.own u) (o:=.ins Y.C.du j<|dF (.int n) a p b);have W:=B.due a2;have ed:(L.dues m).drop (↑(L.dues m)-(i+1))=d::(L.dues m).drop (↑(L.dues m)-i):=by
   have O:↑(L.dues m)-(i+1)<↑(L.dues m):=by lia
   rw[tN O,show(L.dues m).length-(i+1)+1=↑(L.dues m)-i by lia]
   congr 1
   have:↑es-1-i=↑(L.dues m)-(i+1):=by lia
   rw[this,bD O]at hd;exact gJ hd
  refine⟨_,_,_,rfl,rfl,B.to,jW ?_,_,_,_,u::us,rfl,?_,(f.trans T).trans W.2⟩
  .rw[aK,kN,<-g.im.ud.len];show((L.dues m).drop _++S.td).length<=_;rw[bI,lE];lia
  .rw[ed];exact W.1
 .rintro σ z ⟨_,_,_,us,rfl,g,f⟩;rw[aK,<-a0,Nat.sub_self,sG]at g;exact q us z g f
end
abbrev sQ:Stmt:=top 20
abbrev JR:Stmt:=top 21
abbrev LF:Stmt:=top 38
def RC{K:Fq}{pt:Hp->Addr->V->V->(Hp->Prop)->Prop}{a D:Addr}{xs:List V}{g:TG}{tt:TT}{tk te:TE}{σ0:St}{H0:Hp}{Q:Hp->Prop}(d:Nat->St->Hp->Prop)(h0:d 0 σ0 H0)(hl:∀i σ H,i<=↑xs->d i σ H->SqT K H a xs)
  (hs:∀i x σ H,xs[i]?=some x->d i σ H->g x σ H λσ2 H2=>tt σ2 H2 λb H3=>if b=true then tk σ2 H3 λj n=>te σ2 n λv l=>pt l D j v λh=>d (i+1) σ2 h else d (i+1) σ2 H3) (hd:∀σ H,d ↑xs σ H->Q H):ED pt (kZ K a) g tt tk te D σ0 H0 Q:=by
 exists λi m σ H=>m=↑xs-i/\i<=↑xs/\d i σ H,⟨↑xs,by simp,bM _,h0⟩;rintro i m σ H ⟨rfl,hi,p⟩;have q:=hl i σ H hi p
 by_cases f:i<↑xs
 .refine .inr ⟨⟨xs,xs[i],q,bD f⟩,d<|i+1,λσ' H' o=>⟨↑xs-(i+1),by(clear hi;lia),rfl,f,o⟩,λx H' y=>?_⟩;obtain⟨e,y⟩:=y;subst e;exact hs i x σ _ (y xs q) p
 .have e:i=↑xs:=by lia
  subst e;exact .inl ⟨⟨xs,q,aU _⟩,hd σ H p⟩
inductive BF(vs:List V)(H:Hp)(Q:VK):Prop
 | mk(md:Addr)(h1:vs=[.ref md])(h2:H md=some (.tup []))(h3:∀a,H a=none->Q (.ref a) (upd H a<|.dK []))
def EX:Sp:=λvs H Q _=>BF vs H Q
inductive FH(vs:List V)(H:Hp)(Q:VK):Prop
 | mk(md:Addr)(v:V)(h1:vs=[.ref md,v])(h2:H md=some (.tup []))(h3:∀a H',FrS [] H H'->H' a=some (.tup [])->Q (.ref a) H')
def rM:Sp:=λvs H Q _=>FH vs H Q
def AZ:bY ["made"] ["made"] (bR sQ):=cC
def qI(F:Fun K "forms_of" "forms_of" sQ f fd):aR P w K mg base bP (k+1) f fd ["made"] EX:=by
 refine F.ok AZ (λvs H Q E h=>?_) λl A outer s H vs Q E hr h=>?_
 .obtain⟨md,rfl,_⟩:=h;rfl
 obtain⟨md,rfl,h,q⟩:=h;have b:(["number","form","names"]:List Str).Nodup:=by rfl'
 exists _,aS<|bT<|PX (hp:=MI) (N':=["number","form","names"]) (src:=[none,none,none]) rfl eW (fU<|pv 0) (g:=eG K 3<|dQ (bW 0)<|dQ (bW 1)<|dQ (bW 2) dZ) (λ_ _ _ _=>eC (n:=3) rfl<|bJ (gL 0 b)<|bJ (gL 1 b)<|bJ (gL 2 b) dY) (λ_ _ _ _=>gP) (λ_ _ _ _=>pv 0) λ_ _ _ _=>pv 1
 ac_rfl
 refine⟨_,rfl,md,rfl,⟨_,SqT.of h⟩,λD d=>?_⟩;exact RC (xs:=[]) (λ_ _ a=>a=upd H D (.dK [])) rfl (λi σ a _ e=>by rw[e];exact SqT.of<|(Tup.new d) _ _ h) (λi x σ a j=>nomatch j) λσ a e=>by rw[e];exact q D d
def scTb:bY ["made","came","found","number","form","names"] ["made","came"] (bR JR):=cC
def zN(F:Fun K "turned_back" "turned_back" JR f fd)(d:mg "tuple"=none):aR P w K mg base bP (k+1) f fd ["made","came"] rM:=by
 refine F.ok scTb (λvs H Q E h=>?_) λo A outer s H vs Q E hr h=>?_
 .obtain⟨md,v,rfl,_⟩:=h;rfl
 obtain⟨md,v,rfl,h,q⟩:=h;exists _,aL (sL 2 scTb.nd<|cG aE)
  (aL (dX dO rfl (fU<|pv 0) (eC (n:=3) rfl<|bJ (gL 3 scTb.nd)<|bJ (gL 4 scTb.nd)<|bJ (gL 5 scTb.nd) dY)<|aS YH)<|aS<|bT<|dV gS rfl d (by rfl')<|aA (pv 2) aE)
 ac_rfl
 refine⟨bM _,λl hl=>⟨_,rfl,md,rfl,⟨_,SqT.of<|(Tup.new hl) _ _ h⟩,?_⟩⟩;refine jC (xs:=[]) (λ_ σ b=>σ=[some<|.ref md,some v,some<|.ref l,none,none,none]/\b=upd H l (.lst [])) ⟨rfl,rfl⟩ (λi σ b _ e=>by rw[e.2];exact SqT.of<|(Tup.new hl) _ _ h) (λi x σ b j=>nomatch j) ?_;rintro σ b ⟨rfl,rfl⟩;exact⟨_,rfl,l,_,rfl,.inl ⟨SqL.of zb1,λa m=>q a _ ((FrS.new hl).trans<|FrS.new m) zb1⟩⟩
def Ra.mad(A:Ra)(a:Addr):Ra:={A with md:=a}
def Ra.frm(A:Ra)(a:Addr):Ra:={A with fo:=a}
section
variable{Y:Ry}{R:Rx Y}{H:Hp}{rn:Addr}{A:Ra}{S:Rs}{dn:Nat}
theorem RunAt.mad(h:RunAt R H rn A S dn)(m:H a=some (.tup [])):RunAt R (upd H rn<|.ins Y.C.rn A.dx<|rF R.pg (A.mad a) S.rd dn S.uw S.lk) rn (A.mad a) S dn/\Im Y.C H (upd H rn<|.ins Y.C.rn A.dx<|rF R.pg (A.mad a) S.rd dn S.uw S.lk):=by
 have f:Im Y.C H (upd H rn<|.ins Y.C.rn A.dx<|rF R.pg (A.mad a) S.rd dn S.uw S.lk):=.upd h.run λz=>z rfl;have nd:=h.nd;simp only[wq7,wm9,fG]at nd;obtain⟨⟨d,b,j,l,e⟩,_⟩:=nd;have i:=h.im.keep f;exact⟨{im:=⟨f.tup _ _ m,i.ch,i.ud,i.lg,i.th,i.bo⟩,run:=zb1,fo:=(aC<|bL d).trans h.fo,he:=(aC<|bL b).trans h.he,to:=(aC<|bL j).trans h.to,lo:=(aC<|bL l).trans h.lo,dc:=qM h.dc e,dk:=h.dk,nd:=h.nd,kp:=mQ h.kp<|h.fr _<|.head _,fr:=h.fr},f⟩
theorem RunAt.frm(h:RunAt R H rn A S dn)(d:H a=none):RunAt R (upd (upd H a<|.dK []) rn<|.ins Y.C.rn A.dx<|rF R.pg (A.frm a) S.rd dn S.uw S.lk) rn (A.frm a) S dn/\Im Y.C H (upd (upd H a<|.dK []) rn<|.ins Y.C.rn A.dx<|rF R.pg (A.frm a) S.rd dn S.uw S.lk):=by
 have g:=h.keep0<|FrS.new (o:=.dK []) d;have f:Im Y.C (upd H a<|.dK []) (upd (upd H a<|.dK []) rn<|.ins Y.C.rn A.dx<|rF R.pg (A.frm a) S.rd dn S.uw S.lk):=.upd g.run λz=>z rfl;have h0:R.H0 a=none:=by
  cases e:R.H0 a with
  | none=>rfl
  | some o=>rw[h.kp a o e]at d;cases d
 have r:rn≠a:=aP h.run d;have s:A.he≠a:=aP h.he d;have u:A.to≠a:=aP h.to d;have w:A.lo≠a:=aP h.lo d;have x:a∉A.δ:=λz=>by
  obtain⟨i,hi⟩:=wr6.mp z;rw[(h.dict hi).1]at d;cases d
 have nd:=h.nd;simp only[wq7,wm9,fG]at nd;obtain⟨⟨B,l,n,q,m⟩,⟨G,J,I,E⟩,nd⟩:=nd;have i:=g.im.keep f;refine⟨{im:=⟨i.md,i.ch,i.ud,i.lg,i.th,i.bo⟩,run:=zb1,fo:=(aC<|bL r).trans zb1,he:=(aC<|bL l).trans g.he,to:=(aC<|bL n).trans g.to,lo:=(aC<|bL q).trans g.lo,dc:=qM g.dc m,dk:=h.dk,nd:=?_,kp:=mQ g.kp<|h.fr _<|.head _,fr:=λb j=>?_},(Im.new d).trans f⟩
 .show(rn::a::A.he::A.to::A.lo::A.δ).Nodup;simp only[wq7,wm9,fG];exact⟨⟨r,l,n,q,m⟩,⟨bL s,bL u,bL w,x⟩,nd⟩
 .rcases wm9.mp j with j | j
  .rw[j];exact h.fr _<|.head _
  .rcases wm9.mp j with j | j
   .rw[j];exact h0
   .exact h.fr _<|.tail _<|.tail _ j
end
inductive WK{Y:Ry}(R:Rx Y)(H:Hp)(rn u la:Addr)(S:Rs)(dn:Nat)(l:List Str)(i:Nat)(σ:St)(Hx:Hp):Prop
 | mk(x:Option V)(A:Ra)(h1:σ=[some<|.ref rn,some<|.ref u,some<|.ref la,x])(h2:RunAt R Hx rn A ((l.take i).foldl Rs.come S) dn)(h3:Im Y.C H Hx)
section
variable{Y:Ry}{mg:Str->Option Value}{base:Heap}{f:Addr}{fd:FuncData}
def scBr:bY ["run","due","line","name"] fP (bR LF):=cC
def yO{k:Nat}(F:Fun Y.K "do_bring" "do_bring" LF f fd)(Z:dS Y.K Y.C)(EL:aT Y.pr Y.w Y.K mg base k "elders" ["program","kind"] FW)(TB:aT Y.pr Y.w Y.K mg base k "turned_back" ["made","came"] rM)(FO:aT Y.pr Y.w Y.K mg base k "forms_of" ["made"] EX):aR Y.pr Y.w Y.K mg base bP (k+1) f fd fP (hZ Y λd=>∃n a x m,d=.op n a (.bring x) m):=by
 refine F.ok scBr (λvs H Q E h=>?_) λa9 A outer s H vs Q E hr h=>?_
 .obtain⟨R,rn,u,A,S,dn,d,rfl,_⟩:=h;rfl
 obtain⟨R,rn,u,A,S,dn,d,rfl,h,hd,⟨n,a,x,m,rfl⟩,hb,hp,q⟩:=h;exists _,aL (sL 2 scBr.nd<|bB EL hr rfl<|aA (dH Z.r<|pv 0)<|aA (eT (dH Z.d<|pv 1) aO) aE)
  (aL (dX dO rfl (fU<|pv 2) (gL 3 scBr.nd)<|aS<|cI (cA (show cX _ _ (gW Y.K true) from vU) (pv 3) (dH Z.r<|pv 0) rfl) (aL (dW<|eN eA eX eY eR (dH Z.r<|pv 0)<|aA (pv 3) aE)<|aL (dW<|eN eA eX eY eR (dH Z.r<|pv 0)<|aA (bV<|aA bA<|aA (pv 3) aE) aE)<|aS<|fV Z.r (pv 0)<|bB TB hr rfl<|aA (dH Z.r<|pv 0)<|aA (bV<|aA (pv 3) aE) aE) cZ)<|aL (fV Z.r (pv 0)<|bB FO hr rfl<|aA (dH Z.r<|pv 0) aE)<|aS<|bT iH)
 ac_rfl
 cases hd with
 | @op _ _ _ _ p dx na _ hu hm hr' hb'=>
  obtain⟨tr,hp⟩:=hp;have J:=hp.ln x<|hp.z0 x<|hb' x rfl;have ok:=hp.ok;have a8:=hp.l12;have k0:FrS [] R.H0 H:=λb o _ e=>h.kp b o e;have a7:↑(R.G.ln x)<=12:=by
   obtain⟨i,g,hi⟩:=J.at;have:=Up.len ok i x g _ hi J;have:=(zz2.mp hi).1;lia
  refine⟨_,rfl,rn,_,_,_,rfl,h.run,rfl,_,rfl,u,_,_,_,rfl,hu,rfl,a,_,_,_,rfl,rfl,SqT.of hr',rfl,R.pg,x,tr,_,rfl,hp.kn.keepT<|Tup.of0 k0,ok,a8,J,λN H1 f1 _ a1=>?_⟩;have B:=h.keep0 f1;have i1:Im Y.C H H1:=λb o e _=>f1 b o aX e;exists _,rfl,N,rfl,⟨_,SqT.of a1⟩;refine jC (xs:=(R.G.ln x).reverse.map V.str) (WK R H1 rn u N S dn (R.G.ln x).reverse) ⟨_,A,rfl,B,Im.refl⟩ ?_ ?_ ?_
  .rintro i σ T hi ⟨_,_,_,_,f⟩;exact SqT.of<|f.tup _ _ a1
  .rintro i v σ T hv ⟨_,l,rfl,g,f⟩;rw[bN,wp4]at hv;obtain⟨y,hy,rfl⟩:=hv;have hi:i<↑(R.G.ln x):=by rw[<-kN];exact(zz2.mp hy).1
   have e:((R.G.ln x).reverse.take<|i+1).foldl Rs.come S=(((R.G.ln x).reverse.take i).foldl Rs.come S).come y:=by
    rw[gD,hy,CS];rfl
   obtain⟨a3,P,_⟩:=zH ((R.G.ln x).reverse.take i) S;rw[eK]at a3 P;have I:=hb.hr;have aa:=hb.lg;generalize ((R.G.ln x).reverse.take i).foldl Rs.come S=W at g e a3 P;exists _,rfl,_,rfl,rn,_,_,_,rfl,g.run,rfl,l.he,_,rfl,.inl<|SqL.of g.he,rfl,iS _,_,rfl;show if (!iE (.str y) (W.hr.map V.str))=true then _ else _
   rw[jT]
   by_cases c:y∈W.hr
   .rw[fI c];refine bF ⟨_,l,rfl,?_,f⟩;rw[e];unfold Rs.come;rw[bC c];exact g
   .rw[gM c];refine cT ?_;have j:=g.her y;exists _,rfl,rn,_,_,_,rfl,g.run,rfl,.inl ⟨rfl,_,SqL.of g.he⟩,_,rfl,_,_,_,rfl,rfl,g.he,jW (by rw[aK];lia);refine⟨_,rfl,rn,_,_,_,rfl,j.1.run,rfl,.inl ⟨rfl,_,SqL.of j.1.lo⟩,_,rfl,cL<|bH (by show 2<=_;decide),λt ht=>?_⟩;have g3:=j.1.keep0<|FrS.new (o:=.tup [.str "came",.str y]) ht;have z:=g3.say zb1;exists _,_,_,rfl,rfl,g3.lo,jW (by rw[aK,<-g.im.lg.len];lia);refine⟨_,rfl,rn,_,_,_,rfl,z.1.run,rfl,_,rfl,cL<|bH (by show 1<=_;decide),λt2 M=>?_⟩;have L:=z.1.keep0<|FrS.new (o:=.tup [.str y]) M;refine⟨_,_,rfl,L.im.md,λa2 H5 O a6=>?_⟩;have g6:=L.keep0 O;have X:=g6.mad a6;refine⟨_,rfl,rn,_,_,rfl,g6.run,by show 12<1000;decide,_,(l.say t).mad a2,rfl,?_,((((f.trans j.2).trans<|Im.new ht).trans z.2).trans<|Im.new M).trans<|Im.trans (λb o e _=>O b o aX e) X.2⟩;rw[e];unfold Rs.come;rw[aY c];exact X.1
  .rintro σ T ⟨_,l,rfl,g,f⟩;rw[aK,fS<|aU _]at g;refine⟨_,rfl,rn,_,_,_,rfl,g.run,rfl,l.md,rfl,g.im.md,λb I=>?_⟩;have B:=g.keep0<|FrS.new (o:=.dK []) I;have j:=g.frm I;exact⟨_,rfl,rn,_,_,rfl,B.run,by show 12<1000;decide,q _ _ j.1<|i1.trans<|f.trans j.2⟩
end
abbrev KC:Stmt:=top 43
abbrev HV:Stmt:=top 44
def Rw.wd:Rw->Str
 | .make _ _=>"make"
 | .copy _ _=>"copy"
 | .put _ _ _=>"put"
 | .take _ _ _=>"take"
 | .say _=>"say"
 | .bring _=>"bring"
def Du.wd:Du->Str
 | .op _ _ r _=>r.wd
def Rw.hd(r:Rw):∃rest,r.vs=.str r.wd::rest:=by cases r <;> exact⟨_,rfl⟩
theorem DuAt.hd(h:DuAt C Z δ H d u):∃dx a p na rest,H u=some (.ins C.du dx<|dF (.int d.num) a p na)/\H a=some (.tup<|.str d.wd::rest):=by
 cases h with
 | op h hm hr hb=>
  obtain⟨rest,e⟩:=Rw.hd ‹_›;rw[e]at hr;exact⟨_,_,_,_,_,h,hr⟩
def IE{Y:Ry}{R:Rx Y}{Q:St->Hp->Prop}{σ:St}{H H':Hp}(g:RunAt R H' rn A S dn)(h:Q σ H')(e:H=H':=by rfl):Q σ H:=by rw[e];exact h
def nU(Y:Ry)(mg:Str->Option Value)(base:Heap)(k:Nat):Prop:=∃ad kvs,mg "DOERS"=some (.ref ad)/\GF Y.pr Y.w Y.K ad kvs/\∀d:Du,∃g ok,valueAt kvs (Sum.inr d.wd)=some (.ref g)/\pY Y.pr Y.w Y.K mg base k fP g (hZ Y ok)/\ok d
inductive sT(Y:Ry)(vs:List V)(H:Hp)(Q:VK):Prop
 | mk(R:Rx Y)(rn u:Addr)(A:Ra)(S:Rs)(dn mo:Nat)(d:Du)(h1:vs=[.ref rn,.ref u,.int mo])(h2:RunAt R H rn A S dn)(h3:DuAt Y.C R.Z A.δ H d u)(h6:Bd R.G S)(h7:mN R)(h8:mo<=dn->Q (.str "long") H)(h9:dn<mo->∀A' H',RunAt R H' rn A' (doR R.G S d).1 (dn+1)->Im Y.C H H'->Q (aV (doR R.G S d).2) H')
def FR(Y:Ry):Sp:=λvs H Q _=>sT Y vs H Q
section
variable{Y:Ry}{mg:Str->Option Value}{base:Heap}{f:Addr}{fd:FuncData}
def xg8:bY ["run","due","most","doer"] ["run","due","most"] (bR KC):=cC
def XH{k:Nat}(F:Fun Y.K "do_row" "do_row" KC f fd)(Z:dS Y.K Y.C)(D:nU Y mg base k):aR Y.pr Y.w Y.K mg base bP (k+1) f fd ["run","due","most"] (FR Y):=by
 refine F.ok xg8 (λvs H Q E h=>?_) λa4 A outer s H vs Q E hr h=>?_
 .obtain⟨R,rn,u,A,S,dn,b,d,rfl,_⟩:=h;rfl
 obtain⟨R,rn,u,A,S,dn,b,d,rfl,h,hd,o,hp,B,N⟩:=h;obtain⟨n,kvs,P,J,G⟩:=D;exists _,aL (cI (cA oJ (dH Z.r<|pv 0) (pv 2)<|cF _) (aS<|bT bA) cZ)
  (aL (xQ (g:=λi j=>i+j) Z.r (pv 0) aO uI)<|aL (sL 3 xg8.nd<|xC (yR (v:=.ref n) rfl P rfl)<|eT (dH Z.d<|pv 1) aO)<|aS<|bT<|wR (ps:=fP) hr (pv 3)<|aA (pv 0)<|aA (pv 1) aE)
 ac_rfl
 exists _,rfl,rn,_,_,_,rfl,h.run,rfl,_,rfl,_,_,rfl,rfl,_,rfl;refine bG (λc=>?_) λc=>?_
 .have c:(b:Int)<=dn:=cN c;exact B (by lia)
 .have c:¬(b:Int)<=dn:=λz=>c<|fI z;have g:=h.num S.rd (dn+1) S.uw S.lk;obtain⟨dx,a,p,na,rest,q,x⟩:=hd.hd;have I:=g.2 _ _ q Y.nd;have L:=g.2.tup _ _ x;obtain⟨m,ok,W,X,O⟩:=G d;have e:=hd.keep (l:=[]) Y.nd g.2;rw[gA]at e;refine⟨_,rfl,rn,_,_,_,rfl,h.run,rfl,_,_,_,rfl,h.run,by show 12<1000;decide,?_⟩;refine IE g.1 ?_;exists _,rfl,u,_,_,_,rfl,I,rfl,a,_,_,_,rfl,rfl,SqT.of L,fX _ _,n,m,kvs,Sum.inr d.wd,rfl,rfl,J,W;exact⟨_,rfl,m,_,rfl,X,_,rfl,_,rfl,R,rn,u,A,S,dn+1,d,rfl,g.1,e,O,o,hp,λT H' g' M=>N (by lia) T H' g'<|g.2.trans M⟩
end
structure Pz(G:Pg):Prop where
 bo:∀f d,(G.bo f d).size<=80
 ln:∀k,↑(G.ln k)<=12
 nm:∀k,∀x∈G.ln k,x∈G.nm
structure Wf(G:Pg)(S:Rs)(dn:Nat):Prop where
 td:S.td.length<=80
 lg:S.lg.length<=12*dn
 hl:S.hr.length<=12+12*dn
 hn:∀k∈S.hr,k∈G.nm
 ts:∀z∈S.ts,z.1∈G.nm
 ds:∀d∈S.ds,↑d<=dn
def Wf.bd(h:Wf G S dn)(hd:dn<=2000):Bd G S:=⟨by have:=h.td;lia,by have:=h.lg;lia,by have:=h.hl;lia,λd a=>by have:=h.ds d a;lia,h.hn,h.ts⟩
def Wf.pop(h:Wf G S dn)(e:S.td=d::r):Wf G {S with td:=r} dn:=⟨by have:=h.td;rw[e,cU]at this;show ↑r<=_;lia,h.lg,h.hl,h.hn,h.ts,h.ds⟩
def Wf.more(h:Wf G S dn):Wf G S (dn+1):=⟨h.td,by have:=h.lg;lia,by have:=h.hl;lia,h.hn,h.ts,λd hd=>by have:=h.ds d hd;lia⟩
theorem Wf.put(h:Wf G S dn)(m:Nat)(x:Str)(v:V):Wf G (S.put m x v) (dn+1):=by
 refine⟨h.td,by have:=h.lg;show S.lg.length<=_;lia,by have:=h.hl;show S.hr.length<=_;lia,h.hn,h.ts,λd hd=>?_⟩;rcases xU hd with hd | rfl
 .have:=h.ds d hd;lia
 .have hl:=jV (S.ds.getD m []) (Sum.inr x) v;rw[fQ]at hl ⊢;cases e:S.ds[m]? with
  | none=>
   rw[e]at hl;simp only[Option.getD_none,kW]at hl ⊢;lia
  | some d'=>
   rw[e]at hl;have:=h.ds d'<|cW e;simp only[Option.getD_some]at hl ⊢;lia
theorem Wf.thing(h:Wf G S dn)(a:∀j,Wf G (f j).1<|dn+1):Wf G (S.thing v f).1 (dn+1):=by
 cases v with
 | int j=>exact a j
 | _=>exact h.more
theorem Wf.doR(q:Pz G)(h:Wf G S dn):Wf G (doR G S d).1 (dn+1):=by
 cases d with
 | op n a r m=>
  cases r with
  | make x k=>
   show Wf G (if k∈S.hr then(((S.make k).put m x<|.int S.ts.length),none) else(S,some "absent"):Rs×Option Str).1 _
   by_cases c:k∈S.hr
   .rw[bC c];refine Wf.put (S:=S.make k) ⟨h.td,h.lg,h.hl,h.hn,λz hz=>?_,λd hd=>?_⟩ m x _
    .rcases wp5.mp hz with hz | hz
     .exact h.ts z hz
     .rw[wn1.mp hz];exact h.hn k c
    .rcases wp5.mp hd with hd | hd
     .exact h.ds d hd
     .rw[wn1.mp hd];exact bM _
   .rw[aY c];exact h.more
  | copy x y=>exact h.put m x _
  | put x f y=>exact h.thing λj=>h.put _ f _
  | take x y f=>exact h.thing λj=>h.put m x _
  | say w=>
   obtain⟨b,s,o,l,e,i⟩:=h.more;exact⟨b,by have:=h.lg;show(S.lg++[_]).length<=_;rw[bI,dR];lia,o,l,e,i⟩
  | bring k=>
   obtain⟨H,I,u,C,E,_,B⟩:=zH (G.ln k).reverse S;have J:=q.ln k;rw[kN]at H I;obtain⟨b,s,o,l,e,i⟩:=h;show Wf G ((G.ln k).reverse.foldl Rs.come S) _;refine⟨by rw[B];exact b,by lia,by lia,λx A=>?_,by rw[E];exact e,λd hd=>?_⟩
   .rcases u x A with h' | h'
    .exact l x h'
    .exact q.nm k x<|List.mem_reverse.mp h'
   .rw[C]at hd;have:=i d hd;lia
inductive KB(Y:Ry)(vs:List V)(H:Hp)(Q:VK):Prop
 | mk(R:Rx Y)(rn:Addr)(A:Ra)(S S':Rs)(dn mo:Nat)(e:Str)(v:V)(h1:vs=[.ref rn,.int mo])(h2:RunAt R H rn A S dn)(h3:Wf R.G S dn)(h4:mN R)(h5:Pz R.G)(h6:dn<=mo)(h7:mo<=2000)(t:Rn R.G mo dn S S' e v)(q:∀A' H' l dn',RunAt R H' rn A' S' dn'->Im Y.C H H'->H' l=some (.tup [.str e,v])->Q (.ref l) H')
def tY(Y:Ry):Sp:=λvs H Q _=>KB Y vs H Q
inductive IP{Y:Ry}(R:Rx Y)(H:Hp)(rn:Addr)(mo:Nat)(S':Rs)(e:Str)(v:V)(c:Nat)(σ:St)(Hx:Hp):Prop
 | mk(x y:Option V)(A:Ra)(S:Rs)(dn:Nat)(h1:σ=[some<|.ref rn,some<|.int mo,x,y])(h2:RunAt R Hx rn A S dn)(h3:Im Y.C H Hx)(h4:Wf R.G S dn)(h5:dn<=mo)(h6:Rn R.G mo dn S S' e v)(h7:mo-dn=c):IP R H rn mo S' e v c σ Hx
section
variable{Y:Ry}{mg:Str->Option Value}{base:Heap}{f:Addr}{fd:FuncData}
def yp6:bY ["run","most","due","ending"] ["run","most"] (bR HV):=cC
def ZM{k:Nat}(F:Fun Y.K "run_on" "run_on" HV f fd)(Z:dS Y.K Y.C)(DR:aT Y.pr Y.w Y.K mg base k "do_row" ["run","due","most"] (FR Y))(J:∃tk,mg "BACK"=some (.str "back" tk)):aR Y.pr Y.w Y.K mg base bP (k+1) f fd ["run","most"] (tY Y):=by
 refine F.ok yp6 (λvs H Q E h=>?_) λac A outer s H vs Q E hr h=>?_
 .obtain⟨R,rn,A,S,M,dn,j,e,v,rfl,_⟩:=h;rfl
 obtain⟨R,rn,A,S,M,dn,j,e,v,rfl,h,I,hp,hz,P,hm,t,q⟩:=h;obtain⟨tB,J⟩:=J;exists _,aL (EI dO (XY (dH Z.r<|pv 0) λ_=>rfl)<|aL (sL 2 yp6.nd<|uN eA PySem.F.slot_list_pop PySem.F.type_list_pop tW<|dH Z.r<|pv 0)<|aS<|cI (cA eZ (eT (dH Z.d<|pv 2) aO) (yR (v:=.str "back") rfl J ⟨_,rfl⟩)<|cF _) ES<|aL (sL 3 yp6.nd<|bB DR hr rfl<|aA (pv 0)<|aA (pv 2)<|aA (pv 1) aE)<|aS<|cI (hV<|rP<|pv 3) (aS<|bT<|bV<|aA (pv 3)<|aA (dH Z.d<|pv 2) aE) cZ)
  (aS<|bT<|bV<|aA bA<|aA iH aE)
 ac_rfl
 have s2:2<=sizeLine:=cL (bH<|by decide);exists IP R H rn j M e v,⟨_,_,_,A,S,dn,rfl,h,Im.refl,I,P,t,rfl⟩;rintro c σ W ⟨_,_,A,S,dn,rfl,h,f,I,P,t,rfl⟩;exists _,rfl,rn,_,_,_,rfl,h.run,rfl,_,.inl ⟨_,SqL.of h.to,rfl⟩;have i:=h.im.ud;cases hus:A.us with
 | nil=>
  have b:S.td=[]:=by
   rw[hus]at i;cases hud':S.td with
   | nil=>rfl
   | cons d r=>rw[hud']at i;cases i
  refine bF ⟨s2,λl hl=>?_⟩;cases t with
  | done _=>exact q A _ l dn (h.keep0<|FrS.new hl) (f.trans<|Im.new hl) zb1
  | long h' _=>rw[b]at h';cases h'
  | stop h' _ _=>rw[b]at h';cases h'
  | go h' _ _ _=>rw[b]at h';cases h'
 | cons u us=>
  obtain⟨d,r,b⟩:∃d r,S.td=d::r:=by
   rw[hus]at i;cases hud':S.td with
   | nil=>rw[hud']at i;cases i
   | cons d r=>exact⟨d,r,rfl⟩
  have g:=h.pop b hus;have hb:(!((u::us).reverse.map V.ref).isEmpty)=true:=by simp
  rw[hb];refine cT ⟨λσ' H'=>∃c',c'<j-dn/\IP R H rn j M e v c' σ' H',λσ' H' z=>z,?_⟩;have O:W A.to=some (.lst<|us.reverse.map V.ref++[V.ref u]):=by
   have:=h.to;rw[hus,EY,bO]at this;exact this
  have a2:(us.reverse.map V.ref++[V.ref u])[↑(us.reverse.map V.ref++[V.ref u])-1]?=some (V.ref u):=by
   rw[bI,dR,Nat.add_sub_cancel,jZ<|aU _,Nat.sub_self];rfl
  exists _,rfl,rn,_,_,_,rfl,h.run,rfl,.inl ⟨rfl,_,SqL.of O⟩,A.to,_,.ref u,rfl,rfl,O,a2;rw[List.dropLast_concat];obtain⟨g,X,hd⟩:=g;generalize upd W A.to (.lst<|us.reverse.map V.ref)=H1 at g X hd;have B:=f.trans X;obtain⟨dx,a,p,na,rest,x,ha⟩:=hd.hd;exists _,rfl,u,_,_,_,rfl,x,rfl,a,_,_,_,rfl,rfl,SqT.of ha,fX _ _,rfl,_,rfl;have T:=I.pop b;have aa:=T.bd (by lia);have a8:d.wd≠"back":=by
   cases d with
   | op n a r m=>cases r <;> (simp only[Du.wd,Rw.wd];rfl')
  refine bG (λc=>absurd (V.str.inj<|cN c) a8) λ_=>?_;refine⟨_,rfl,_,rfl,_,rfl,R,rn,u,A.pop us,S.pop r,dn,j,d,rfl,g,hd,aa,hp,λa5=>?_,λab A' H2 o L=>?_⟩
  .refine⟨_,rfl,_,rfl,bG (λ_=>⟨_,rfl,_,rfl,u,_,_,_,rfl,x,rfl,s2,λl hl=>?_⟩) λc=>absurd rfl c⟩;cases t with
   | done h'=>rw[b]at h';cases h'
   | long h' _=>
    rw[b]at h';cases h';exact q _ _ l dn (g.keep0<|FrS.new hl) (B.trans<|Im.new hl) zb1
   | stop h' hl' z=>lia
   | go h' hl' z t'=>lia
  .have a9:=L _ _ x Y.nd;cases t with
   | done h'=>rw[b]at h';cases h'
   | long h' hl'=>lia
   | stop h' hl' z=>
    rw[b]at h';cases h';rw[show doR R.G (S.pop r) d=_ from z]at o ⊢;refine⟨_,rfl,_,rfl,cT ⟨_,rfl,_,rfl,u,_,_,_,rfl,a9,rfl,s2,λl hl=>?_⟩⟩;exact q _ _ l (dn+1) (o.keep0<|FrS.new hl) ((B.trans L).trans<|Im.new hl) zb1
   | @go _ _ S1 _ _ _ _ _ h' hl' z t'=>
    rw[b]at h';cases h';have N:=T.doR (d:=d) hz;rw[show doR R.G (S.pop r) d=_ from z]at o ⊢;rw[z]at N;exact⟨_,rfl,_,rfl,bF ⟨j-(dn+1),by lia,_,_,A',S1,dn+1,rfl,o,B.trans L,N,hl',t',rfl⟩⟩
end
inductive Ly(Z:Str->Option Str->Prop)(H:Hp):Nat->List Addr->LL->Nat->Prop
 | nil {k:Nat}:Ly Z H k [] .nil k
 | op {k k':Nat} {a:Addr} {r:Rw} {rs:List Addr} {L:LL} (h:H a=some (.tup r.vs)) (hb:∀x,r=.bring x->Z x none) (t:Ly Z H (k+1) rs L k'):Ly Z H k (a::rs) (.op k a r L) k'
def Ly.keep(h:Ly Z H k rs L k')(f:Tup H H'):Ly Z H' k rs L k':=by
 induction h with
 | nil=>exact .nil
 | op h hb _ ih=>exact .op (f _ _ h) hb ih
def Ly.len(h:Ly Z H k rs L k'):k'=k+L.size/\↑rs=L.size:=by
 induction h with
 | nil=>exact⟨rfl,rfl⟩
 | op h hb _ ih=>simp only[LL.size,cU];lia
theorem Ly.mk:∀(rs:List Addr),(∀a∈rs,PlainR Z H a)->∀k,∃L d,Ly Z H k rs L d
 | [],_,k=>⟨_,_,.nil⟩
 | a::rs,h,k=>by
  obtain⟨r,h1,h2⟩:=h a<|.head _;obtain⟨L,d,t⟩:=Ly.mk rs (λb e=>h b<|.tail _ e)<|k+1;exact⟨_,_,.op h1 h2 t⟩
def LL.app:LL->LL->LL
 | .nil,M=>M
 | .op n a r t,M=>.op n a r<|t.app M
theorem Ens.app(h:Ens Z H L es)(g:Ens Z H M fs):Ens Z H (L.app M) (es++fs):=by
 induction h with
 | nil=>exact g
 | op h hr hb _ ih=>exact .op h hr hb ih
def MB(L:LL):L.app .nil=L:=by
 induction L with
 | nil=>rfl
 | op n a r t ih=>exact cK (LL.op n a r) ih
def QG(M N:LL)(L:LL):(L.app M).app N=L.app (M.app N):=by
 induction L with
 | nil=>rfl
 | op n a r t ih=>exact cK (LL.op n a r) ih
def Rw.noh(r:Rw):¬(r.wd="either"\/r.wd="again"):=by cases r <;> (simp only[Rw.wd];rfl')
inductive HX(vs:List V)(H:Hp)(Q:VK):Prop
 | mk(Z:Str->Option Str->Prop)(bd l fd:Addr)(rs es:List Addr)(L:LL)(k':Nat)(h1:vs=[.ref bd,.ref l,.ref fd])(h2:H l=some (.tup<|rs.map V.ref))(h3:Ly Z H ↑es rs L k')(h4:H fd=some (.lst<|es.map V.ref))(h5:k'<=1000000)
  (h6:∀(x:Addr)(xs ns:List Addr)(H':Hp),FrS [fd] H H'->H' fd=some (.lst<|(es++ns).map V.ref)->↑(es++ns)=k'->H' x=some (.tup<|xs.map V.ref)->Ens Z H' L xs->Q (.ref x) H')
def lZ:Sp:=λvs H Q _=>HX vs H Q
inductive WS(Z:Str->Option Str->Prop)(H:Hp)(bd l fd tl:Addr)(rs es:List Addr)(L:LL)(k' i:Nat)(σ:St)(Hx:Hp):Prop
 | mk(a b:Option V)(ts ns:List Addr)(L1 L2:LL)(hσ:σ=[some<|.ref bd,some<|.ref l,some<|.ref fd,some<|.ref tl,a,b])(fr:FrS [fd] H Hx)(hf:Hx fd=some (.lst<|(es++ns).map V.ref))(ht:Hx tl=some (.lst<|ts.map V.ref))(hn:↑ts<=i)(he:L=L1.app L2)(hl:Ly Z Hx ↑(es++ns) (rs.drop i) L2 k')(hE:Ens Z Hx L1 ts)
def FrS.tup1(f:FrS [a] H H')(h:H a=some (.lst ys)):Tup H H':=FrS.tup f λb d xs e=>by
 have:b=a:=by simpa using d
 subst this;rw[h]at e;cases e
abbrev AJ:List Str:=["body","rows","found"]
def scLy:bY ["body","rows","found","told","row","number"] AJ (bR qP):=cC
def xT{k:Nat}(F:Fun K "lay" "lay" qP f fd)(WI:aT P w K mg base k "rows_within" ["row"] GL)(LA:aT P w K mg base k "lay" AJ (λ_ _ _ _=>False))(ml:mg "len"=none)(ai:mg "tuple"=none):aR P w K mg base bP (k+1) f fd AJ lZ:=by
 refine F.ok scLy (λvs H Q E h=>?_) λav A outer s H vs Q E hr h=>?_
 .obtain⟨Z,bd,l,fl,rs,es,L,k',rfl,_⟩:=h;rfl
 obtain⟨Z,bd,l,fl,rs,es,L,k',rfl,hl,hF,aa,hb,q⟩:=h;have ap:(["inner","body","found"]:List Str).Nodup:=by rfl'
 exists _,aL (sL 3 scLy.nd<|cG aE)
  (aL (dX dO rfl (fU<|pv 1) (gL 4 scLy.nd) (aL (sL 5 scLy.nd<|eP jE rfl ml iJ<|aA (pv 2) aE) (aL (dW<|eN eA eX eY eR (pv 2)<|aA (bV<|aA (pv 5)<|aA (pv 0)<|aA (pv 4) aE) aE) (aS (dW (eN eA eX eY eR (pv 3) (aA (bV (aA (pv 5) (aA (pv 4) (aA (dV gS rfl ai (by rfl') (aA (iO (N':=["inner","body","found"]) (src:=[none,some 0,some 2]) rfl eW (fU<|bB WI hr rfl<|aA (pv 4) aE)
     (g:=bW 0) (λ_ _ _ _=>gL 0 ap) (λ_ _ _ _=>gP)
     (te:=fN (λ_ _ _ _=>False) [] E0<|aZ (aJ 1)<|aZ (aJ 0)<|aZ (aJ 2) aW)
     (λ_ _ _ _=>bB LA hr rfl<|aA (pv 1)<|aA (pv 0)<|aA (pv 2) aE)) aE)) aE)))) aE)))))))
  (aS<|bT<|dV gS rfl ai (by rfl')<|aA (pv 3) aE))
 ac_rfl
 have s3:3<=sizeLine:=cL (bH<|by decide);refine⟨bM _,λtl J=>?_⟩;have am:Tup H (upd H tl<|.lst []):=Tup.new J;have Y:fl≠tl:=aP aa J;exists _,rfl,l,rfl,⟨_,SqT.of<|am _ _ hl⟩;refine jC (xs:=rs.map V.ref) (WS Z H bd l fl tl rs es L k') ⟨_,_,[],[],.nil,L,rfl,FrS.new J,by rw[aC Y,gA];exact aa,zb1,aU _,rfl,by rw[gA];exact hF.keep am,.nil⟩ ?_ ?_ ?_
 .rintro i σ j hi ⟨_,_,_,_,_,_,_,fr,_⟩;exact SqT.of<|fr.tup1 aa _ _ hl
 .rintro i x σ j m ⟨a0,b0,ts,b,L1,L2,rfl,fr,C,I,an,rfl,u,hE⟩;rw[bN,wp4]at m;obtain⟨a,ha,rfl⟩:=m;obtain⟨hi,rfl⟩:=zz2.mp ha;rw[tN hi]at u;generalize rs[i]=a at u;have as:=hF.len;cases u with
  | @op _ _ _ r _ Lr h1 hbr h9=>
  have au:=h9.len;obtain⟨rest,er⟩:=r.hd;rw[er]at h1;exists _,rfl,fl,_,rfl,.inl<|SqL.of C;refine⟨_,rfl,.inl ⟨rfl,_,SqL.of C⟩,_,rfl,_,rfl,_,rfl,s3,λd M=>?_⟩;have O:=(FrS.new (S:=[]) (o:=.tup [.int (↑((es++b).map V.ref):Nat),.ref bd,.ref a]) M) _ _ aX C;exists fl,_,_,rfl,rfl,O,EG (by rw[aK];lia);have a9:(↑((es++b).map V.ref):Nat)=↑(es++b):=List.length_map _;rw[a9]at O ⊢;have af:(es++b).map V.ref++[V.ref d]=((es++(b++[d])).map V.ref):=by rw[<-lC,bO (l₂:=[d])];rfl
  rw[af];have ag:Tup j (upd (upd j d<|.tup [.int (↑(es++b):Nat),.ref bd,.ref a]) fl<|.lst<|(es++(b++[d])).map V.ref):=(Tup.new M).trans<|Tup.lst O;have ah:FrS [fl] H (upd (upd j d<|.tup [.int (↑(es++b):Nat),.ref bd,.ref a]) fl<|.lst<|(es++(b++[d])).map V.ref):=(fr.trans<|FrS.new M).put'<|.head _;have W:upd (upd j d<|.tup [.int (↑(es++b):Nat),.ref bd,.ref a]) fl (.lst<|(es++(b++[d])).map V.ref) tl=some (.lst<|ts.map V.ref):=by rw[aC<|bL Y,aC<|aP I M];exact I
  have al:upd (upd j d<|.tup [.int (↑(es++b):Nat),.ref bd,.ref a]) fl (.lst<|(es++(b++[d])).map V.ref) fl=some (.lst<|(es++(b++[d])).map V.ref):=zb1;generalize upd (upd j d<|.tup [.int (↑(es++b):Nat),.ref bd,.ref a]) fl (.lst<|(es++(b++[d])).map V.ref)=H1 at ah W al ag;have ew:CL r.wd rest=[]:=aY r.noh;refine⟨_,rfl,.inl ⟨rfl,_,SqL.of W⟩,_,rfl,_,rfl,_,rfl,a,r.wd,rest,rfl,ag _ _ h1,λz ar=>⟨z,rfl,⟨_,SqT.of zb1⟩,λn T=>?_⟩⟩;rw[ew]at T ⊢;have ak:upd (upd H1 z<|.tup []) n (.lst []) z=some (.tup []):=(Tup.new T) _ _ zb1;have aj:upd (upd H1 z<|.tup []) n (.lst []) n=some (.lst []):=zb1;have f2:FrS [] H1 (upd (upd H1 z<|.tup []) n<|.lst []):=(FrS.new ar).trans<|FrS.new T;generalize upd (upd H1 z<|.tup []) n (.lst [])=H2 at f2 ak aj;refine vK (xs:=[]) (λ_ _ N=>N=H2) rfl (λi σ N _ e=>by rw[e];exact SqT.of ak) (λi x σ N m=>nomatch m) ?_;intro σ N e;obtain rfl:=e.symm;refine⟨n,_,rfl,.inl ⟨SqL.of aj,λpt ao=>⟨s3,λB aq=>?_⟩⟩⟩;have G:=(f2.trans<|FrS.new (o:=.tup []) ao).trans<|FrS.new (o:=.tup [.int (↑(es++b):Nat),.ref a,.ref pt]) aq;have a2:upd (upd H2 pt<|.tup []) B (.tup [.int (↑(es++b):Nat),.ref a,.ref pt]) B=some (.tup [.int (↑(es++b):Nat),.ref a,.ref pt]):=zb1;generalize upd (upd H2 pt<|.tup []) B (.tup [.int (↑(es++b):Nat),.ref a,.ref pt])=H3 at G a2;have X:=G _ _ aX W;have ad:Tup j (upd H3 tl<|.lst<|ts.map V.ref++[.ref B]):=(ag.trans<|Tup.of0 G).trans<|Tup.lst X;exists tl,_,_,rfl,rfl,X,EG (by rw[aK];lia);refine⟨_,_,ts++[B],b++[d],L1.app<|.op _ a r .nil,Lr,rfl,(ah.trans<|G.mono λ_ h=>absurd h aX).put J,by rw[aC Y];exact G _ _ aX al,by rw[zb1,bO];rfl,by rw[bI,dR];lia,(QG (.op ↑(es++b) a r .nil) Lr L1).symm,?_,(hE.keep ad).app<|.op ((Tup.lst X) _ _ a2) (by rw[er];exact ad _ _ h1) hbr .nil⟩;rw[<-lC,bI (bs:=[d])];exact h9.keep ad
 .rintro σ j ⟨a0,b0,ts,b,L1,L2,rfl,fr,C,I,an,rfl,u,hE⟩;rw[aK,wC]at u;cases u;rw[MB]at q;refine⟨_,rfl,tl,_,rfl,.inl ⟨SqL.of I,λx m=>?_⟩⟩;exact q x ts b _ (fr.trans<|FrS.new m) ((FrS.new (S:=[]) m) _ _ aX C) rfl zb1<|hE.keep<|Tup.new m
abbrev GP:Stmt:=top 17
inductive LyB(Z:Str->Option Str->Prop)(H:Hp):Nat->List Bz->List LL->Nat->Prop
 | nil {k:Nat}:LyB Z H k [] [] k
 | cons {k k1 k':Nat} {z:Bz} {zs:List Bz} {L:LL} {Ls:List LL} (h:H z.2.2.1=some (.tup<|z.2.2.2.1.map V.ref)) (s:Ly Z H k z.2.2.2.1 L k1) (hz:L.size<=80) (t:LyB Z H k1 zs Ls k'):LyB Z H k (z::zs) (L::Ls) k'
theorem LyB.keep(h:LyB Z H k zs Ls k')(f:Tup H H'):LyB Z H' k zs Ls k':=by
 induction h with
 | nil=>exact .nil
 | cons h s hz _ ih=>exact .cons (f _ _ h) (s.keep f) hz ih
theorem LyB.mk:∀(zs:List Bz),(∀z∈zs,RowsIs Z H z.2/\∀a∈z.2.2.2.1,PlainR Z H a)->∀k,∃d b,LyB Z H k zs d b/\b<=k+80*↑zs
 | [],_,k=>⟨[],k,.nil,aU _⟩
 | z::zs,h,k=>by
  obtain⟨⟨h2,i,l⟩,j⟩:=h z<|.head _;obtain⟨L,f,s⟩:=Ly.mk _ j k;obtain⟨d,b,t,m⟩:=LyB.mk zs (λy e=>h y<|.tail _ e) f;have:=s.len;have:=i.len;exact⟨L::d,b,.cons h2 s (by lia) t,by rw[cU];lia⟩
def LyB.le(h:LyB Z H k zs Ls k'):k<=k':=by
 induction h with
 | nil=>exact aU _
 | cons h s hz _ ih=>have:=s.len;lia
def lB(l:List (Pr×LL))(n:Pr):LL:=l.foldl (λa z=>if z.1=n then z.2 else a) .nil
def ZB(l:List (Pr×LL))(z:Pr×LL)(n:Pr):lB (l++[z]) n=if z.1=n then z.2 else lB l n:=by
 unfold lB;rw[CS];rfl
theorem QQ:∀(l:List (Pr×LL))(a:LL),a.size<=80->(∀z∈l,z.2.size<=80)->(l.foldl (λa z=>if z.1=n then z.2 else a) a).size<=80
 | [],a,ha,_=>ha
 | z::l,a,ha,h=>QQ l _ (by show(if z.1=n then z.2 else a).size<=80;split;exact h z<|.head _;exact ha) λy b=>h y<|.tail _ b
def sX{K:Fq}{H H':Hp}{a b:Addr}{xs ys:List V}(f:FrS [a] H H')(d:H a=some (.lst ys))(h:SqT K H b xs):SqT K H' b xs:=by
 have ne:∀{o:HO},H b=some o->(∀z,o≠.lst z)->b∉[a]:=λe n z=>by
  rw[wn1.mp z,d]at e;cases e;exact n _ rfl
 rcases h with (h | ⟨o,h⟩) | h
 .exact .inl<|.inl<|f _ _ (ne h λz e=>nomatch e) h
 .exact .inl<|.inr ⟨o,f _ _ (ne h λz e=>nomatch e) h⟩
 .exact .inr h
inductive qS(P:Program)(w:World)(K:Fq)(vs:List V)(H:Hp)(Q:VK):Prop
 | mk(Z:Str->Option Str->Prop)(p:Addr)(ks:List (Str×List Dz))(m0:Dz)(Ls:List LL)(k':Nat)(h1:vs=[.ref p])(h2:ProgIs Z H p ks m0)(h3:LyB Z H 0 (dG ks m0) Ls k')(h4:k'<=1000000)
  (h5:∀(bo:Addr)(qs:List (Pr×Addr×Addr))(H':Hp),FrS [] H H'->H' bo=some (gF P w bo qs)->PvOk K H' qs->(∀z∈dG ks m0,z.1∈qs.map (·.1))->(∀q∈qs,∃es:List Addr,H' q.2.2=some (.tup<|es.map V.ref)/\Ens Z H' (lB (((dG ks m0).map (·.1)).zip Ls) q.1) es)->Q (.ref bo) H')
def FC(P:Program)(w:World)(K:Fq):Sp:=λvs H Q _=>qS P w K vs H Q
inductive ZF(Z:Str->Option Str->Prop)(P:Program)(w:World)(K:Fq)(H H1:Hp)(fd D:Addr)(zs:List Bz)(Ls:List LL)(k' i:Nat)(σ:St)(Hx:Hp):Prop
 | mk(x y:Option V)(ns:List Addr)(qs:List (Pr×Addr×Addr))(h1:σ=[x,y,some<|.ref fd])(h2:FrS [] H Hx)(h3:Tup H1 Hx)(h4:Hx fd=some (.lst<|ns.map V.ref))(h5:Hx D=some (gF P w D qs))(h6:PvOk K Hx qs)(h7:∀z∈zs.take i,z.1∈qs.map (·.1))(h8:∀q∈qs,∃es:List Addr,Hx q.2.2=some (.tup<|es.map V.ref)/\Ens Z Hx (lB ((zs.map (·.1)).zip Ls |>.take i) q.1) es)(h9:LyB Z Hx ↑ns (zs.drop i) (Ls.drop i) k')(h10:↑qs<=i)
def xw5:bY ["program","found"] ["program"] (bR GP):=cC
def An{k:Nat}(F:Fun K "laid" "laid" GP f fd)(BO:aT P w K mg base k "bodies" qK (GS K))(LA:aT P w K mg base k "lay" AJ lZ):aR P w K mg base bP (k+1) f fd ["program"] (FC P w K):=by
 refine F.ok xw5 (λvs H Q E h=>?_) λas A outer s H vs Q E hr h=>?_
 .obtain⟨Z,p,ks,r,j,k',rfl,_⟩:=h;rfl
 obtain⟨Z,p,ks,r,j,k',rfl,hP,hL,hk,q⟩:=h;have hu:=dU hr;have ac:(["body","rows","found"]:List Str).Nodup:=by rfl'
 exists _,aL (gZ (i:=1) xw5.nd rfl (Or.inr rfl)<|cG aE)
  (aS<|bT<|PX (hp:=VN<|mS hu) (N':=["body","rows","found"]) (src:=[none,none,some 1]) rfl eW (fU<|bB BO hr rfl<|aA (pv 0) aE) (g:=eG K 2<|dQ (bW 0)<|dQ (bW 1) dZ) (λ_ _ _ _=>eC (n:=2) rfl<|bJ (gL 0 ac)<|bJ (gL 1 ac) dY) (λ_ _ _ _=>gP) (λ_ _ _ _=>pv 0) (te:=fN lZ [] E0<|aZ (aJ 0)<|aZ (aJ 1)<|aZ (aJ 2) aW) λ_ _ _ _=>bB LA hr rfl<|aA (pv 0)<|aA (pv 1)<|aA (pv 2) aE)
 ac_rfl
 refine⟨bM _,λfl aa=>?_⟩;have f0:FrS [] H (upd H fl<|.lst []):=FrS.new aa;refine⟨_,rfl,p,ks,r,rfl,hP.keep<|Tup.of0 f0,λb qs H1 f1 hb hA ar=>?_⟩;have ab:=f1 _ _ aX<|zb1 (H:=H) (a:=fl) (o:=.lst []);refine⟨b,rfl,⟨_,SqT.of hb⟩,λD C=>?_⟩;have X:D≠fl:=λz=>by rw[z,ab]at C;cases C
 have t1:Tup H1 (upd H1 D<|gF P w D []):=Tup.new C;have fD:FrS [] H (upd H1 D<|gF P w D []):=(f0.trans f1).trans<|FrS.new C;have ag:H D=none:=uH (f0.trans f1) C;refine RC (xs:=qs.map V.ref) (ZF Z P w K H H1 fl D (dG ks r) j k') ⟨_,_,[],[],rfl,fD,t1,by rw[aC<|bL X];exact ab,zb1,(λq d=>nomatch d),(λz hz=>nomatch hz),(λq d=>nomatch d),hL.keep<|Tup.of0 fD,aU _⟩ ?_ ?_ ?_
 .rintro i σ Hx hi ⟨_,_,_,_,_,_,tx,_⟩;exact SqT.of<|tx _ _ hb
 .rintro i x σ Hx hx ⟨x0,y0,ns,ps,rfl,fx,tx,N,Y,ok,I,O,T,an⟩;rw[bN,wp4]at hx;obtain⟨u,a9,rfl⟩:=hx;obtain⟨z,hz,bd,d,ai⟩:=hA.get a9;have hi:=(zz2.mp hz).1;have aj:=tN hi;have ap:=(zz2.mp hz).2;rw[aj,ap]at T;generalize hLd:j.drop i=Ld at T;cases T with
  | @cons _ k1 _ _ _ L Lr h1 s1 hs tl=>
   have ak:j[i]?=some L:=by
    have:=cK (λl=>l[0]?) hLd;simpa using this
   exists u,_,rfl,SqT.of<|tx _ _ d,rfl,_,_,rfl,_,_,rfl,rfl;refine⟨_,rfl,_,rfl,_,rfl,_,rfl,Z,bd,z.2.2.1,fl,z.2.2.2.1,ns,L,k1,rfl,h1,s1,N,gC tl.le hk,λl xs nx H3 W ah a8 aq al=>?_⟩;have G:=W.tup1 N;have a4:=W _ _ (by simpa using X) Y;have af:=(ai.keep<|tx.trans G).sq;have ad:PvOk K H3 ps:=λq d=>sX W N<|ok q d;have B:Tup H3 (upd H3 D<|gF P w D<|gH ps z.1 bd l):=λc xs e=>by rw[aC λy=>by rw[y,a4]at e;cases e];exact e
   have k4:∀{c:Addr}{xs:List V},SqT K H3 c xs->SqT K (upd H3 D<|gF P w D<|gH ps z.1 bd l) c xs:=λh=>by
    have ne:∀{c:Addr}{o:HO},H3 c=some o->(∀φ,o≠.ext φ)->c≠D:=λe n y=>by
     rw[y,a4]at e;cases e;exact n _ rfl
    rcases h with (h | ⟨o,h⟩) | h
    .exact .inl (.inl<|by rw[aC<|ne h λ_ e=>nomatch e];exact h)
    .exact .inl<|.inr ⟨o,by rw[aC<|ne h λ_ e=>nomatch e];exact h⟩
    .exact .inr h
   have a5:((((dG ks r).map (·.1)).zip j).take<|i+1)=(((dG ks r).map (·.1)).zip j).take i++[(z.1,L)]:=by
    have:(((dG ks r).map (·.1)).zip j)[i]?=some (z.1,L):=by rw[DF];exact⟨by rw[bN,hz];rfl,ak⟩
    rw[gD,this];rfl
   have ae:i<1000:=by
    have:=(zz2.mp a9).1;lia
   refine⟨ps,bd,z.1,l,rfl,rfl,a4,ad,af,bH (by lia),_,_,ns++nx,gH ps z.1 bd l,rfl,?_,(tx.trans G).trans B,by rw[aC<|bL X];exact ah,zb1,λq d=>k4<|(ad.put af) q d,λy m=>?_,λq d=>?_,?_,by have:=RN (qs:=ps) (n:=z.1) (b:=bd) (l:=l);lia⟩
   .intro c o _ e;have hc:c≠D:=aP e ag;rw[aC hc];exact W _ _ (by simpa using (aP e aa))<|fx _ _ aX e
   .have J:z.1∈(gH ps z.1 bd l).map (·.1)/\∀n∈ps.map (·.1),n∈(gH ps z.1 bd l).map (·.1):=by
     unfold gH
     split
     .have e:(ps.map λq=>if q.1=z.1 then(q.1,q.2.1,l) else q).map (·.1)=ps.map (·.1):=by
       rw[kX];refine AN λq _=>?_;show(if q.1=z.1 then(q.1,q.2.1,l) else q).1=q.1
       split <;> rfl
      rw[e];exact⟨‹_›,λ_ h=>h⟩
     .rw[bO];exact⟨fY _<|.head _,λ_ h=>tK _ h⟩
    rw[gD,hz]at m;rcases wp5.mp m with m | m
    .exact J.2 _<|I y m
    .have:y=z:=by simpa using m
     rw[this];exact J.1
   .rw[a5,ZB];have old:∀q∈ps,q.1≠z.1->∃es:List Addr,upd H3 D (gF P w D<|gH ps z.1 bd l) q.2.2=some (.tup<|es.map V.ref)/\Ens Z (upd H3 D<|gF P w D<|gH ps z.1 bd l) (if z.1=q.1 then L else lB ((((dG ks r).map (·.1)).zip j).take i) q.1) es:=λq d am=>by
     obtain⟨es,e1,M⟩:=O q d;rw[aY<|bL am];exact⟨es,(G.trans B) _ _ e1,M.keep<|G.trans B⟩
    have new:∃es:List Addr,upd H3 D (gF P w D<|gH ps z.1 bd l) l=some (.tup<|es.map V.ref)/\Ens Z (upd H3 D<|gF P w D<|gH ps z.1 bd l) L es:=⟨xs,B _ _ aq,al.keep B⟩;unfold gH at d
    split at d
    .obtain⟨y,m,rfl⟩:=wn7.mp d
     by_cases c:y.1=z.1
     .rw[bC c];show ∃es:List Addr,_/\Ens Z _ (if z.1=y.1 then L else _) es;rw[bC c.symm];exact new
     .rw[aY c];exact old y m c
    .rcases wp5.mp d with d | d
     .exact old q d λc=>absurd (wn7.mpr ⟨q,d,c⟩) ‹_›
     .rw[wn1.mp d];show ∃es:List Addr,_/\Ens Z _ (if z.1=z.1 then L else _) es;rw[bC rfl];exact new
   .have ao:j.drop (i+1)=Lr:=by
     have:=cK (List.drop 1) hLd;rw[List.drop_drop]at this;exact this
    rw[ao,a8];exact tl.keep<|G.trans B
 .rintro σ Hx ⟨x0,y0,ns,ps,rfl,fx,tx,N,Y,ok,I,O,T,an⟩;have ae:↑(dG ks r)=↑qs:=hA.len.symm;rw[aK,<-ae]at I O;rw[fS<|aU _]at I;refine q D ps Hx fx Y ok I λq d=>?_;obtain⟨es,e1,M⟩:=O q d;rw[fS<|by rw[List.length_zip,aK];exact Nat.min_le_left _ _]at M;exact⟨es,e1,M⟩
abbrev JM:Stmt:=IL 28
def hr0(tr:Tr)(late:List Str):List Str:=(tr.map (·.1)).filter λx=>decide<|x∉late
inductive qO(Y:Ry)(vs:List V)(H:Hp)(Q:VK):Prop
 | mk(Z:Str->Option Str->Prop)(x dx p md ch:Addr)(ks:List (Str×List Dz))(m0:Dz)(tr:Tr)(late:List Str)(Ls:List LL)(k':Nat)(h1:vs=[.ref x,.ref p,.ref md,.ref ch])(h2:H x=some (.ins Y.C.rn dx []))(h3:H md=some (.tup []))(h4:ProgIs Z H p ks m0)(h5:KindsAt H p tr)(h6:LateAt H p tr late)(h7:↑tr<=12)(h8:LyB Z H 0 (dG ks m0) Ls k')(h9:k'<=1000000)
  (q:∀(fo bo he to lo:Addr)(qs:List (Pr×Addr×Addr))(H':Hp),FrS [x] H H'->H' x=some (.ins Y.C.rn dx<|rF p ⟨dx,md,fo,bo,ch,he,to,lo,[],[],[],[]⟩ 0 0 0 0)->H' fo=some (.dK [])->H' he=some (.lst<|(hr0 tr late).map V.str)->H' to=some (.lst [])->H' lo=some (.lst [])->(∀b∈[fo,he,to,lo],H b=none)->[fo,he,to,lo].Nodup-> H' bo=some (gF Y.pr Y.w bo qs)->PvOk Y.K H' qs->(∀z∈dG ks m0,z.1∈qs.map (·.1))->(∀q∈qs,∃es:List Addr,H' q.2.2=some (.tup<|es.map V.ref)/\Ens Z H' (lB (((dG ks m0).map (·.1)).zip Ls) q.1) es)->Q .non H')
def CU(Y:Ry):Sp:=λvs H Q _=>qO Y vs H Q
abbrev wJ:List Str:=["self","program","made","choices"]
def AM{Q:St->Hp->Prop}{σ:St}{H H':Hp}(h:Q σ H')(e:H=H':=by rfl):Q σ H:=by rw[e];exact h
def zD{t:TE}{σ:St}{Q:VK}{H H':Hp}(h:t σ H' Q)(e:H=H':=by rfl):t σ H Q:=by rw[e];exact h
inductive UC(H1:Hp)(Dl p:Addr)(ns late:List Str)(i:Nat)(σ:St)(Hx:Hp):Prop
 | mk(x y z:Option V)(hσ:σ=[x,y,z,some<|.ref p])(fr:FrS [] H1 Hx)(hD:Hx Dl=some (.lst<|((ns.take i).filter λx=>decide<|x∉late).map V.str))
section
variable{Y:Ry}{mg:Str->Option Value}{base:Heap}{f:Addr}{fd:FuncData}
def tJ:bY wJ wJ (bR JM):=cC
def WJ{k:Nat}(F:Fun Y.K "__init__" "Run.__init__" JM f fd)(Z:dS Y.K Y.C)(FO:aT Y.pr Y.w Y.K mg base k "forms_of" ["made"] EX)(LD:aT Y.pr Y.w Y.K mg base k "laid" ["program"] (FC Y.pr Y.w Y.K)):aR Y.pr Y.w Y.K mg base bP (k+1) f fd wJ (CU Y):=by
 refine F.ok tJ (λvs H Q E h=>?_) λb7 A outer s H vs Q E hr h=>?_
 .obtain⟨Z,x,dx,p,md,ch,ks,m0,tr,a,Ls,k',rfl,_⟩:=h;rfl
 obtain⟨Z',x,dx,p,md,ch,ks,m0,tr,a,Ls,k',rfl,hx,az,hP,hK,ay,aw,hL,hk,q⟩:=h;have af:(["name","elder","deeds","program"]:List Str).Nodup:=by rfl'
 exists _,aL (fV Z.r (pv 0)<|pv 1)<|aL (fV Z.r (pv 0)<|pv 2)<|aL (fV Z.r (pv 0)<|bB FO hr rfl<|aA (pv 2) aE)<|aL (fV Z.r (pv 0)<|bB LD hr rfl<|aA (pv 1) aE)<|aL (fV Z.r (pv 0)<|pv 3)<|aL (fV Z.r (pv 0) aO)<|aL (fV Z.r (pv 0) aO)<|aL (fV Z.r (pv 0) aO)<|aL (fV Z.r (pv 0)<|iO (N':=["name","elder","deeds","program"]) (src:=[none,none,none,some 1]) rfl eW (fU<|eT (pv 1) aO) (g:=eG Y.K 3<|dQ (bW 0)<|dQ (bW 1)<|dQ (bW 2) dZ) (λ_ _ _ _=>eC (n:=3) rfl<|bJ (gL 0 af)<|bJ (gL 1 af)<|bJ (gL 2 af) dY) (tt:=hY<|dC (gW Y.K true) (aJ 0)<|dC (dI Y.K) (aJ 3)<|tC<|.int 1) (λ_ _ _ _=>pN<|cA (show cX _ _ (gW Y.K true) from vU) (pv 0) (kP (show kT _ (dI Y.K) from uG) (pv 3) aO λ_ _=>rfl) rfl) λ_ _ _ _=>pv 0)<|aL (fV Z.r (pv 0)<|cG aE)<|aL (fV Z.r (pv 0)<|cG aE)<|aS<|fV Z.r (pv 0) aO
 ac_rfl
 refine⟨_,rfl,_,rfl,x,dx,_,rfl,hx,by decide,_,rfl,_,rfl,x,dx,_,rfl,zb1,by show 1<1000;decide,?_⟩;rw[fT];have nx:∀{b:Addr},H b=none->b∉[x]:=λh z=>by rw[wn1.mp z,hx]at h;cases h
 have L:∀{G M:Hp}(o:HO),FrS [] G M->FrS [x] G (upd M x o):=λo f=>(f.mono λ_ h=>absurd h aX).put'<|.head _;have tx:∀{G M:Hp}{fs:List (Str×V)},G x=some (.ins Y.C.rn dx fs)->FrS [x] G M->Tup G M:=λe f b xs h=>f b _ (λz=>by rw[wn1.mp z,e]at h;cases h) h
 have c1:FrS [x] H (upd H x<|.ins Y.C.rn dx<|cE "made" (.ref md)<|cE "program" (.ref p) []):=FrS.chg<|.head _;have x1:upd H x (.ins Y.C.rn dx<|cE "made" (.ref md)<|cE "program" (.ref p) []) x=some (.ins Y.C.rn dx [("program",.ref p),("made",.ref md)]):=zb1;generalize upd H x (.ins Y.C.rn dx<|cE "made" (.ref md)<|cE "program" (.ref p) [])=G1 at c1 x1;have t1:=tx hx c1;refine⟨_,rfl,md,rfl,t1 _ _ az,λfo B=>⟨_,rfl,x,dx,_,rfl,(FrS.new (S:=[]) B) _ _ aX x1,by show 2<1000;decide,?_⟩⟩;have I:H fo=none:=by
  cases e:H fo with
  | none=>rfl
  | some o=>
   by_cases z:fo=x
   .rw[z,x1]at B;cases B
   .rw[c1 _ _ (by simpa using z) e]at B;cases B
 have c2:=L (.ins Y.C.rn dx [("program",.ref p),("made",.ref md),("forms",.ref fo)])<|FrS.new (S:=[]) (o:=.dK []) B;have x2:upd (upd G1 fo<|.dK []) x (.ins Y.C.rn dx [("program",.ref p),("made",.ref md),("forms",.ref fo)]) x=some (.ins Y.C.rn dx [("program",.ref p),("made",.ref md),("forms",.ref fo)]):=zb1;have o2:upd (upd G1 fo<|.dK []) x (.ins Y.C.rn dx [("program",.ref p),("made",.ref md),("forms",.ref fo)]) fo=some (.dK []):=(aC<|by simpa using nx I).trans zb1;refine AM (H':=upd (upd G1 fo<|.dK []) x<|.ins Y.C.rn dx [("program",.ref p),("made",.ref md),("forms",.ref fo)]) ?_;generalize upd (upd G1 fo<|.dK []) x (.ins Y.C.rn dx [("program",.ref p),("made",.ref md),("forms",.ref fo)])=G2 at c2 x2 o2 ⊢;have t2:=t1.trans<|tx x1 c2;refine⟨_,rfl,Z',p,ks,m0,Ls,k',rfl,hP.keep t2,hL.keep t2,hk,λbo qs m f3 al hok b1 b3=>⟨_,rfl,x,dx,_,rfl,f3 _ _ aX x2,by show 3<1000;decide,?_⟩⟩;refine⟨_,rfl,_,rfl,x,dx,_,rfl,zb1,by show 4<1000;decide,_,rfl,x,dx,_,rfl,zb1,by show 5<1000;decide,_,rfl,x,dx,_,rfl,zb1,by show 6<1000;decide,_,rfl,x,dx,_,rfl,zb1,by show 7<1000;decide,?_⟩;rw[fT,fT,fT,fT];have T:=L (.ins Y.C.rn dx [("program",.ref p),("made",.ref md),("forms",.ref fo),("bodies",.ref bo),("choices",.ref ch),("many_read",.int 0),("many_done",.int 0),("under_way",.int 0)]) f3;have d3:FrS [x] m (upd m x<|.ins Y.C.rn dx [("program",.ref p),("made",.ref md),("forms",.ref fo),("bodies",.ref bo),("choices",.ref ch),("many_read",.int 0),("many_done",.int 0),("under_way",.int 0)]):=FrS.chg<|.head _;have x3:upd m x (.ins Y.C.rn dx [("program",.ref p),("made",.ref md),("forms",.ref fo),("bodies",.ref bo),("choices",.ref ch),("many_read",.int 0),("many_done",.int 0),("under_way",.int 0)]) x=some (.ins Y.C.rn dx [("program",.ref p),("made",.ref md),("forms",.ref fo),("bodies",.ref bo),("choices",.ref ch),("many_read",.int 0),("many_done",.int 0),("under_way",.int 0)]):=zb1;refine AM (H':=upd m x<|.ins Y.C.rn dx [("program",.ref p),("made",.ref md),("forms",.ref fo),("bodies",.ref bo),("choices",.ref ch),("many_read",.int 0),("many_done",.int 0),("under_way",.int 0)]) ?_;generalize upd m x (.ins Y.C.rn dx [("program",.ref p),("made",.ref md),("forms",.ref fo),("bodies",.ref bo),("choices",.ref ch),("many_read",.int 0),("many_done",.int 0),("under_way",.int 0)])=G4 at T d3 x3 ⊢;have t4:=t2.trans<|tx x2 T;have an:=(c1.trans c2).trans T;obtain⟨kt,ts,v1,v2,hp,ao,ab,b0⟩:=hK.keepT t4;obtain⟨b8,lt,v3,ax,b2,b4,_,_⟩:=ay.keep t4;refine⟨_,rfl,p,_,_,_,rfl,rfl,SqT.of hp,rfl,kt,rfl,⟨_,SqT.of ao⟩,λhe ae=>?_⟩;have b6:↑(tr.map (·.1))<=12:=by rw[aK];exact aw
 refine vK (xs:=ts.map V.ref) (UC G4 he p (tr.map (·.1)) a) ⟨_,_,_,rfl,(FrS.refl).put ae,zb1⟩ ?_ ?_ ?_
 .rintro j σ Hy hj ⟨_,_,_,_,fr,_⟩;exact SqT.of<|fr _ _ aX ao
 .rintro j x' σ Hy aq ⟨_,_,_,rfl,fr,au⟩;rw[bN,wp4]at aq;obtain⟨u,hu,rfl⟩:=aq;have hj:j<↑tr:=by rw[<-ab];exact(zz2.mp hu).1
  have hz:tr[j]?=some tr[j]:=bD hj;obtain⟨v,hv⟩:=b0 j u _ hu hz;generalize tr[j]=zj at hz hv;have eF:((tr.map (·.1)).take<|j+1).filter (λx=>decide<|x∉a)=((tr.map (·.1)).take j).filter (λx=>decide<|x∉a)++[zj.1].filter (λx=>decide<|x∉a):=by
   rw[gD,bN,hz,List.filter_append];rfl
  have b5:↑(((tr.map (·.1)).take j).filter λx=>decide<|x∉a)<=12:=by
   have h2:=pM (λx=>decide<|x∉a)<|(tr.map (·.1)).take j;rw[eK]at h2;lia
  exists u,_,rfl,SqT.of<|fr _ _ aX hv,rfl,_,_,rfl,_,_,rfl,_,_,rfl,rfl;exists _,rfl,_,rfl,p,_,_,_,rfl,rfl,SqT.of<|fr _ _ aX ax,rfl,lt,_,rfl,.inr<|SqT.of<|fr _ _ aX b2,rfl,iS _,_,rfl;show if (!iE (.str zj.1) (a.map V.str))=true then _ else _
  rw[jT];refine bG (λc=>?_) λc=>?_
  .have c:zj.1∉a:=by simpa using c
   exists _,rfl,_,au,bH (by rw[aK];lia),_,_,_,rfl,fr.put ae;rw[zb1,eF,List.filter_cons_of_pos (by simpa using c),List.filter_nil,bO];rfl
  .have c:zj.1∈a:=by simpa using c
   exists _,_,_,rfl,fr;rw[eF,List.filter_cons_of_neg (by simpa using c),List.filter_nil,gA];exact au
 rintro σ P ⟨_,_,_,rfl,f5,ak⟩;rw[aK,ab,<-List.length_map (as:=tr) (f:=(·.1)),fS<|aU _]at ak;have back:∀{G:Hp}{fs:List (Str×V)}{b:Addr},FrS [x] H G->G x=some (.ins Y.C.rn dx fs)->G b=none->H b=none:=λ{G fs b} c e h=>by
  cases z:H b with
  | none=>rfl
  | some o=>
   have n:b≠x:=λy=>by rw[y,e]at h;cases h
   rw[c _ _ (by simpa using n) z]at h;cases h
 have W:=back an x3 ae;have x5:=f5 _ _ aX x3;have ad:G4 fo=some (.dK []):=T _ _ (nx I) o2;have n1:fo≠he:=aP ad ae;refine⟨_,rfl,x,dx,_,rfl,x5,by show 8<1000;decide,bM _,λto l=>?_⟩;have X:=L (.ins Y.C.rn dx [("program",.ref p),("made",.ref md),("forms",.ref fo),("bodies",.ref bo),("choices",.ref ch),("many_read",.int 0),("many_done",.int 0),("under_way",.int 0),("here",.ref he)]) f5;have x6:upd P x (.ins Y.C.rn dx [("program",.ref p),("made",.ref md),("forms",.ref fo),("bodies",.ref bo),("choices",.ref ch),("many_read",.int 0),("many_done",.int 0),("under_way",.int 0),("here",.ref he)]) x=some (.ins Y.C.rn dx [("program",.ref p),("made",.ref md),("forms",.ref fo),("bodies",.ref bo),("choices",.ref ch),("many_read",.int 0),("many_done",.int 0),("under_way",.int 0),("here",.ref he)]):=zb1;have a4:upd P x (.ins Y.C.rn dx [("program",.ref p),("made",.ref md),("forms",.ref fo),("bodies",.ref bo),("choices",.ref ch),("many_read",.int 0),("many_done",.int 0),("under_way",.int 0),("here",.ref he)]) he=some (.lst<|(hr0 tr a).map V.str):=(aC<|by simpa using nx W).trans ak;have l:upd P x (.ins Y.C.rn dx [("program",.ref p),("made",.ref md),("forms",.ref fo),("bodies",.ref bo),("choices",.ref ch),("many_read",.int 0),("many_done",.int 0),("under_way",.int 0),("here",.ref he)]) to=none:=l;refine zD (H':=upd (upd P x<|.ins Y.C.rn dx [("program",.ref p),("made",.ref md),("forms",.ref fo),("bodies",.ref bo),("choices",.ref ch),("many_read",.int 0),("many_done",.int 0),("under_way",.int 0),("here",.ref he)]) to<|.lst []) ?_;generalize upd P x (.ins Y.C.rn dx [("program",.ref p),("made",.ref md),("forms",.ref fo),("bodies",.ref bo),("choices",.ref ch),("many_read",.int 0),("many_done",.int 0),("under_way",.int 0),("here",.ref he)])=J at X x6 a4 l ⊢;have ar:=an.trans X;have a5:=back ar x6 l;have aa:=X _ _ (nx I) ad;refine⟨_,rfl,x,dx,_,rfl,(FrS.new (S:=[]) l) _ _ aX x6,by show 9<1000;decide,bM _,λlo i=>?_⟩;have O:=L (.ins Y.C.rn dx [("program",.ref p),("made",.ref md),("forms",.ref fo),("bodies",.ref bo),("choices",.ref ch),("many_read",.int 0),("many_done",.int 0),("under_way",.int 0),("here",.ref he),("todo",.ref to)])<|FrS.new (S:=[]) (o:=.lst []) l;have x7:upd (upd J to<|.lst []) x (.ins Y.C.rn dx [("program",.ref p),("made",.ref md),("forms",.ref fo),("bodies",.ref bo),("choices",.ref ch),("many_read",.int 0),("many_done",.int 0),("under_way",.int 0),("here",.ref he),("todo",.ref to)]) x=some (.ins Y.C.rn dx [("program",.ref p),("made",.ref md),("forms",.ref fo),("bodies",.ref bo),("choices",.ref ch),("many_read",.int 0),("many_done",.int 0),("under_way",.int 0),("here",.ref he),("todo",.ref to)]):=zb1;have a6:upd (upd J to<|.lst []) x (.ins Y.C.rn dx [("program",.ref p),("made",.ref md),("forms",.ref fo),("bodies",.ref bo),("choices",.ref ch),("many_read",.int 0),("many_done",.int 0),("under_way",.int 0),("here",.ref he),("todo",.ref to)]) to=some (.lst []):=(aC<|by simpa using nx a5).trans zb1;have i:upd (upd J to<|.lst []) x (.ins Y.C.rn dx [("program",.ref p),("made",.ref md),("forms",.ref fo),("bodies",.ref bo),("choices",.ref ch),("many_read",.int 0),("many_done",.int 0),("under_way",.int 0),("here",.ref he),("todo",.ref to)]) lo=none:=i;refine zD (H':=upd (upd (upd J to<|.lst []) x<|.ins Y.C.rn dx [("program",.ref p),("made",.ref md),("forms",.ref fo),("bodies",.ref bo),("choices",.ref ch),("many_read",.int 0),("many_done",.int 0),("under_way",.int 0),("here",.ref he),("todo",.ref to)]) lo<|.lst []) ?_;generalize upd (upd J to<|.lst []) x (.ins Y.C.rn dx [("program",.ref p),("made",.ref md),("forms",.ref fo),("bodies",.ref bo),("choices",.ref ch),("many_read",.int 0),("many_done",.int 0),("under_way",.int 0),("here",.ref he),("todo",.ref to)])=G7 at O x7 a6 i ⊢;have av:=ar.trans O;have a8:=back av x7 i;have ac:=O _ _ (nx I) aa;have a9:=O _ _ (nx W) a4;have x8:=(FrS.new (S:=[]) (o:=.lst []) i) _ _ aX x7;have N:=L (.ins Y.C.rn dx<|rF p ⟨dx,md,fo,bo,ch,he,to,lo,[],[],[],[]⟩ 0 0 0 0)<|FrS.new (S:=[]) (o:=.lst []) i;refine⟨_,rfl,x,dx,_,rfl,x8,by show 10<1000;decide,_,rfl,x,dx,_,rfl,zb1,by show 11<1000;decide,?_⟩;rw[fT];have ai:FrS [x] m (upd (upd G7 lo<|.lst []) x<|.ins Y.C.rn dx<|rF p ⟨dx,md,fo,bo,ch,he,to,lo,[],[],[],[]⟩ 0 0 0 0):=((d3.trans X).trans O).trans N;have ap:=f3 _ _ aX x2;have aj:=tx ap ai;have am:∀{b:Addr}{o:HO},m b=some o->(∀d fs,o≠.ins Y.C.rn d fs)->b∉[x]:=λe n z=>by
  rw[wn1.mp z,ap]at e;cases e;exact n _ _ rfl
 have ag:upd (upd G7 lo<|.lst []) x (.ins Y.C.rn dx<|rF p ⟨dx,md,fo,bo,ch,he,to,lo,[],[],[],[]⟩ 0 0 0 0) lo=some (.lst []):=(aC<|by simpa using nx a8).trans zb1;refine q fo bo he to lo qs _ (av.trans N) zb1 (N _ _ (nx I) ac) (N _ _ (nx W) a9) (N _ _ (nx a5) a6) ag ?_ ?_ (ai _ _ (am al λ_ _ e=>nomatch e) al) ?_ b1 ?_
 .intro b hb;simp only[wm9,aX,cY]at hb;rcases hb with rfl | rfl | rfl | rfl
  .exact I
  .exact W
  .exact a5
  .exact a8
 .simp only[wq7,wm9,aX,cY,fG,not_false_eq_true,kQ,and_true];exact⟨⟨n1,aP aa l,aP ac i⟩,⟨aP a4 l,aP a9 i⟩,aP a6 i⟩
 .intro q' ah;rcases hok q' ah with (h | ⟨o,h⟩) | h
  .exact .inl<|.inl<|aj _ _ h
  .exact .inl<|.inr ⟨o,ai _ _ (am h λ_ _ e=>nomatch e) h⟩
  .exact .inr h
 .intro q' ah;obtain⟨es,e1,e2⟩:=b3 q' ah;exact⟨es,aj _ _ e1,e2.keep aj⟩
end
abbrev KS:Stmt:=top 45
abbrev GY:Stmt:=top 47
structure DH{Y:Ry}(R:Rx Y)(H:Hp)(ks:List (Str×List Dz))(m0:Dz)(tr:Tr)(late:List Str)(Ls:List LL)(k':Nat):Prop where
 p:ProgIs R.Z H R.pg ks m0
 k:KindsAt H R.pg tr
 l:LateAt H R.pg tr late
 t12:↑tr<=12
 b:LyB R.Z H 0 (dG ks m0) Ls k'
 k6:k'<=1000000
 hs:∀n d,R.G.hs n d->(n,d)∈(dG ks m0).map (·.1)
 h0:R.G.hs "" ""
 bo:∀n d,R.G.bo n d=lB (((dG ks m0).map (·.1)).zip Ls) (n,d)
 pg:mN R
 pz:Pz R.G
 nm:∀x∈hr0 tr late,x∈R.G.nm
inductive XS(Y:Ry)(vs:List V)(H:Hp)(Q:VK):Prop
 | mk(R:Rx Y)(md ch:Addr)(ks:List (Str×List Dz))(m0:Dz)(tr:Tr)(late:List Str)(Ls:List LL)(k':Nat)(h1:vs=[.ref R.pg,.ref md,.ref ch])(h2:H md=some (.tup []))(h3:DH R H ks m0 tr late Ls k')(h4:H ch=some (.tup<|R.G.ch.map V.int))(h5:R.H0=H)
  (q:∀(x:Addr)(A:Ra)(H':Hp),RunAt R H' x A ⟨[],[],[],[],0,0,0,hr0 tr late⟩ 0->Q (.ref x) H')
def XG{Y:Ry}(vs:List V)(H:Hp)(Q:VK)(h:XS Y vs H Q)(x dx:Addr)(h1:H x=none)(h2:H dx=none)(h3:dx≠x):CU Y (.ref x::vs) (upd (upd H dx<|.own x) x<|.ins Y.C.rn dx []) (λv H2=>v=.non/\Q (.ref x) H2) E0:=by
 obtain⟨R,md,ch,ks,O,tr,i,N,w,rfl,m,g,K,rfl,q⟩:=h;have f:FrS [] R.H0 (upd (upd R.H0 dx<|.own x) x<|.ins Y.C.rn dx []):=(FrS.new h2).trans (FrS.new<|by rw[aC<|bL h3];exact h1);have t:=Tup.of0 f;refine⟨R.Z,x,dx,R.pg,md,ch,ks,O,tr,i,N,w,rfl,zb1,t _ _ m,g.p.keep t,g.k.keepT t,g.l.keep t,g.t12,g.b.keep t,g.k6,λfo bo he to lo qs H' fr W L T s M E B u j P A=>⟨rfl,q x ⟨dx,md,fo,bo,ch,he,to,lo,[],[],[],[]⟩ H' ?_⟩⟩;have r:∀b∈[fo,he,to,lo],R.H0 b=none/\b≠x:=λb a=>by
  have:=E b a;refine⟨?_,λz=>by rw[z,zb1]at this;cases this⟩;cases e:R.H0 b with
  | none=>rfl
  | some o=>rw[f _ _ aX e]at this;cases this
 have kp:∀b o,R.H0 b=some o->H' b=some o:=λb o e=>fr _ _ (by simpa using (aP e h1))<|f _ _ aX e
 refine {im:=⟨kp _ _ m,kp _ _ K,.nil,.nil,.nil,qs,⟨u,j,λn d h=>?_,λJ X=>?_⟩⟩,run:=W,fo:=L,he:=T,to:=s,lo:=M,dc:=.nil,dk:=(λd hd=>nomatch hd),nd:=?_,kp:=kp,fr:=?_}
 .obtain⟨z,hz,e⟩:=wn7.mp<|g.hs n d h;rw[<-e];exact P z hz
 .obtain⟨es,I,G⟩:=A J X;exact⟨es,I,by rw[g.bo];exact G⟩
 .exact wq7.mpr ⟨λz=>(r x z).2 rfl,B⟩
 .intro b a;rcases wm9.mp a with rfl | a
  .exact h1
  .exact(r b a).1
def oI(G:Pg)(hr:List Str):Rs:=(Rs.dic ⟨[],[],[],[],0,0,0,hr⟩ []).push (G.bo "" "") 0
inductive JT(Y:Ry)(vs:List V)(H:Hp)(Q:VK):Prop
 | mk(R:Rx Y)(md ch:Addr)(ks:List (Str×List Dz))(m0:Dz)(tr:Tr)(late:List Str)(Ls:List LL)(k' mo:Nat)(S':Rs)(e:Str)(v:V)(h1:vs=[.ref R.pg,.ref md,.ref ch,.int mo])(h2:H md=some (.tup []))(h3:DH R H ks m0 tr late Ls k')(h4:H ch=some (.tup<|R.G.ch.map V.int))(h5:R.H0=H)(h7:mo<=2000)(t:Rn R.G mo 0 (oI R.G<|hr0 tr late) S' e v)
  (q:∀(l tl el:Addr)(ls:List Addr)(H':Hp),FrS [] H H'->H' l=some (.tup [.ref tl,.int S'.lk,.ref el])->H' tl=some (.tup<|ls.map V.ref)->A2 (λr a=>H' a=some (.tup r)) S'.lg ls->H' el=some (.tup [.str e,v])->Q (.ref l) H')
def qQ(Y:Ry):Sp:=λvs H Q _=>JT Y vs H Q
def pK(hz:Pz G)(h1:↑hr<=12)(h2:∀x∈hr,x∈G.nm):Wf G (oI G hr) 0:=by
 have a:=hz.bo "" "";have hl:=JW 0<|G.bo "" "";refine⟨?_,aU _,by show ↑hr<=_;lia,h2,(λz hz=>nomatch hz),λd hd=>?_⟩
 .show((G.bo "" "").dues 0++[]).length<=_;rw[gA];lia
 .have:d=[]:=by simpa [oI,Rs.push,Rs.dic]using hd
  rw[this];exact aU _
abbrev ET:List Str:=["program","made","choices","most"]
section
variable{Y:Ry}{mg:Str->Option Value}{base:Heap}{f:Addr}{fd:FuncData}
def yp4:bY ["program","made","choices","most","run","end"] ET (bR KS):=cC
def UB{k:Nat}(F:Fun Y.K "whole_run" "whole_run" KS f fd)(Z:dS Y.K Y.C)(M:gT Y mg base k "Run" Y.C.rn wJ (CU Y))(AD:aT Y.pr Y.w Y.K mg base (k+1) "add_due" lP (KF Y))(RO:aT Y.pr Y.w Y.K mg base (k+1) "run_on" ["run","most"] (tY Y))(mM:mg "MAIN"=some (.ref am))(hM:∀H,SqT Y.K H am [.str "",.str ""])(X:mg "tuple"=none):aR Y.pr Y.w Y.K mg base bP (k+2) f fd ET (qQ Y):=by
 refine F.ok yp4 (λvs H Q E h=>?_) λaf A outer s H vs Q E hr h=>?_
 .obtain⟨R,md,ch,ks,P,tr,a,O,I,B,n,e,v,rfl,_⟩:=h;rfl
 obtain⟨R,md,ch,ks,P,tr,a,O,I,B,n,e,v,rfl,a4,g,ad,rfl,hm,t,q⟩:=h;have hu:=dU hr;exists _,aL (sL 4 yp4.nd<|KG M XG hr rfl<|aA (pv 0)<|aA (pv 1)<|aA (pv 2) aE)
  (aL (dW<|bB AD hr rfl<|aA (pv 4)<|aA (xY hu (dH Z.r<|pv 4) (yR (v:=.ref am) rfl mM rfl) λ_ _=>rfl)<|aA mI aE)<|aL (sL 5 yp4.nd<|bB RO hr rfl<|aA (pv 4)<|aA (pv 3) aE)<|aS<|bT<|bV<|aA (dV gS rfl X (by rfl')<|aA (dH Z.r<|pv 4) aE)<|aA (dH Z.r<|pv 4)<|aA (pv 5) aE)
 ac_rfl
 refine⟨_,rfl,_,rfl,_,rfl,R,md,ch,ks,P,tr,a,O,I,rfl,a4,g,ad,rfl,λrn A H1 h1=>?_⟩;obtain⟨qs,j⟩:=h1.im.bo;obtain⟨z,a5,aa⟩:=wn7.mp<|j.k "" "" g.h0;cases hfd:qs.find? (λq=>decide<|q.1=((("":Str),("":Str)):Pr))with
 | none=>exact absurd aa (by simpa using List.find?_eq_none.mp hfd z a5)
 | some z2=>
  have ac:z2.1=(("":Str),("":Str)):=by simpa using List.find?_some hfd
  obtain⟨es,ab,T⟩:=j.e z2<|EN hfd;rw[ac]at T;refine⟨_,rfl,_,rfl,rn,_,_,_,rfl,h1.run,rfl,A.bo,am,qs,(("":Str),("":Str)),z2,rfl,rfl,j.d,j.ok,hM _,hfd,λi a9=>?_⟩;have h2:RunAt R (upd H1 i<|.dK []) rn (A.dic i) (Rs.dic ⟨[],[],[],[],0,0,0,hr0 tr a⟩ []) 0/\Im Y.C H1 (upd H1 i<|.dK []):=h1.dic (d:=[]) a9 λz hz=>nomatch hz;have a8:=g.pz.bo "" "";have ae:(A.dic i).δ[0]?=some i:=by
   have:=h1.dc.len;have e:A.δ=[]:=vc3.mp this.symm;show(A.δ++[i])[0]?=some i;rw[e];rfl
  refine⟨R,rn,z2.2.2,i,A.dic i,_,0,0,R.G.bo "" "",es,rfl,h2.1,h2.2.tup _ _ ab,T.keep h2.2.tup,ae,by show 0+_<=_;lia,λus H3 h3 f3=>?_⟩;have a1:↑(hr0 tr a)<=12:=by
   have:=pM (λx=>decide<|x∉a)<|tr.map (·.1);rw[aK]at this;unfold hr0;have:=g.t12;lia
  refine⟨_,rfl,_,rfl,R,rn,_,_,n,0,B,e,v,rfl,h3,pK g.pz a1 g.nm,g.pg,g.pz,bM _,hm,t,λm H4 J ag u f4 a7=>?_⟩;refine⟨_,rfl,rn,_,_,_,rfl,u.run,rfl,m.lo,_,rfl,.inl ⟨SqL.of u.lo,λtl N=>?_⟩⟩;have W:=u.keep0<|FrS.new (o:=.tup<|m.ls.map V.ref) N;refine⟨_,rfl,rn,_,_,_,rfl,W.run,rfl,_,rfl,cL<|bH (by show 3<=_;decide),λl hl=>?_⟩;have L:=W.keep0<|FrS.new (o:=.tup [.ref tl,.int n.lk,.ref J]) hl;exact q l tl J m.ls _ (λb o _ e=>L.kp b o e) zb1 ((Tup.new hl) _ _ zb1) L.im.lg<|((Tup.new N).trans<|Tup.new hl) _ _ a7
def ZE:bY ["program","choices","most"] ["program","choices","most"] (bR GY):=cC
inductive KM(Y:Ry)(vs:List V)(H:Hp)(Q:VK):Prop
 | mk(R:Rx Y)(ch:Addr)(ks:List (Str×List Dz))(m0:Dz)(tr:Tr)(late:List Str)(Ls:List LL)(k' mo:Nat)(S':Rs)(e:Str)(v:V)(h1:vs=[.ref R.pg,.ref ch,.int mo])(h3:∀H',FrS [] H H'->DH ({R with H0:=H'}:Rx Y) H' ks m0 tr late Ls k')(h4:H ch=some (.tup<|R.G.ch.map V.int))(h7:mo<=2000)(t:Rn R.G mo 0 (oI R.G<|hr0 tr late) S' e v)
  (q:∀(l tl el:Addr)(ls:List Addr)(H':Hp),FrS [] H H'->H' l=some (.tup [.ref tl,.int S'.lk,.ref el])->H' tl=some (.tup<|ls.map V.ref)->A2 (λr a=>H' a=some (.tup r)) S'.lg ls->H' el=some (.tup [.str e,v])->Q (.ref l) H')
def HY(Y:Ry):Sp:=λvs H Q _=>KM Y vs H Q
def Bl{k:Nat}(F:Fun Y.K "plain_run" "plain_run" GY f fd)(B:aT Y.pr Y.w Y.K mg base k "whole_run" ET (qQ Y)):aR Y.pr Y.w Y.K mg base bP (k+1) f fd ["program","choices","most"] (HY Y):=by
 refine F.ok ZE (λvs H Q E h=>?_) λC A outer s H vs Q E hr h=>?_
 .obtain⟨R,ch,ks,j,tr,a,i,d,m,n,e,v,rfl,_⟩:=h;rfl
 obtain⟨R,ch,ks,j,tr,a,i,d,m,n,e,v,rfl,g,x,o,t,q⟩:=h;exists _,aS<|bT<|bB B hr rfl<|aA (pv 0)<|aA (bV aE)<|aA (pv 1)<|aA (pv 2) aE
 ac_rfl
 refine⟨_,rfl,bM _,λmd u=>?_⟩;have b:FrS [] H (upd H md<|.tup []):=FrS.new u;exact⟨_,rfl,_,rfl,{R with H0:=upd H md<|.tup []},md,ch,ks,j,tr,a,i,d,m,n,e,v,rfl,zb1,g _ b,b _ _ aX x,rfl,o,t,λl tl r ls H' z=>q l tl r ls H'<|b.trans z⟩
end
def VR(q:ProgIs Z H p ks m0):(∀z∈dG ks m0,RowsIs Z H z.2)/\↑(dG ks m0)<=961:=by
 obtain⟨C,us,lt,h1,h2,w,n,A,E⟩:=q;have a:∀y∈ks,∃u,KindIs Z H u y:=λy d=>by
  obtain⟨j,b⟩:=wr6.mp d;have hl:j<↑us:=by rw[w];exact(zz2.mp b).1
  exact⟨_,n j _ y (bD hl) b⟩
 constructor
 .intro z hz;rcases wm9.mp hz with rfl | hz
  .exact A
  .obtain⟨y,d,hz⟩:=List.mem_flatMap.mp hz;obtain⟨e,he,rfl⟩:=wn7.mp hz;obtain⟨u,ev,x,fs,o,s,i,m,B⟩:=a y d;obtain⟨j,b⟩:=wr6.mp he;have hl:j<↑fs:=by rw[i];exact(zz2.mp b).1
   obtain⟨_,_,_,_,r⟩:=m j _ e (bD hl) b;exact r
 .have f:∀l:List (Str×List Dz),(∀y∈l,↑y.2<=80)->↑(l.flatMap gQ)<=80*↑l:=by
   intro l
   induction l with
   | nil=>intro _;exact aU _
   | cons y l ih=>
    intro h;have h1:=h y<|.head _;have h2:=ih λz hz=>h z<|.tail _ hz;rw[List.flatMap_cons,bI,cU];have:↑(gQ y)=↑y.2:=List.length_map _;lia
  have:=f ks λy d=>by obtain⟨u,ev,x,fs,o,s,i,m,B⟩:=a y d;lia
  unfold dG;rw[cU];lia
def HZ{Y:Ry}(u:ProgIs Z H p ks m0)(r:KindsAt H p tr)(ok:TrOk tr)(w:↑tr<=12)(E:LateAt H p tr late)(N:CW Z ks tr)(K:∀z∈dG ks m0,∀a∈z.2.2.2.1,PlainR Z H a):
  ∃(G:Pg)(o:List LL)(q:Nat),G.ch=[]/\∀H',FrS [] H H'->DH (⟨Z,H',p,G⟩:Rx Y) H' ks m0 tr late o q:=by
 obtain⟨M,O⟩:=VR u;obtain⟨o,q,A,P⟩:=LyB.mk (dG ks m0) (λz hz=>⟨M z hz,K z hz⟩) 0;obtain⟨e,m⟩:∃e:Str->List Str,∀k,(k∈tr.map (·.1)->Up tr k (e k))/\(k∉tr.map (·.1)->e k=[]):=by
  have:∀k,∃l,(k∈tr.map (·.1)->Up tr k l)/\(k∉tr.map (·.1)->l=[]):=λk=>by
   by_cases c:k∈tr.map (·.1)
   .obtain⟨z,hz,rfl⟩:=wn7.mp c;obtain⟨i,hi⟩:=wr6.mp hz;obtain⟨l,hl⟩:=Up.exists ok i _ _ hi;exact⟨l,λ_=>hl,λh=>absurd c h⟩
   .exact⟨[],λh=>absurd h c,λ_=>rfl⟩
  exact⟨λk=>(this k).choose,λk=>(this k).choose_spec⟩
 have J:∀(L:List LL)(zs:List Bz)(k B:Nat),LyB Z H k zs L B->∀l∈L,l.size<=80:=λL zs k B h=>by
  induction h with
  | nil=>intro l hl;cases hl
  | cons _ _ hz _ ih=>
   intro l hl;rcases wm9.mp hl with rfl | hl
   .exact hz
   .exact ih l hl
 refine⟨⟨tr.map (·.1),λn d=>(n,d)∈(dG ks m0).map (·.1),e,λn d=>lB (((dG ks m0).map (·.1)).zip o) (n,d),[]⟩,o,q,rfl,λH' f=>?_⟩;have t:=Tup.of0 f;refine {p:=u.keep t,k:=r.keepT t,l:=E.keep t,t12:=w,b:=A.keep t,k6:=by lia,hs:=λn d h=>h,h0:=by show _∈(dG ks m0).map (·.1);exact .head _,bo:=λ_ _=>rfl,pg:=⟨tr,r.keepT t,ok,w,rfl,λk I=>(m k).1 I,N.nb⟩,pz:=⟨λn d=>QQ _ _ (bM _) λz hz=>J o _ _ _ A _ (AV hz).2,λk=>?_,λk x j=>?_⟩,nm:=λx j=>(vg2.mp j).1}
 .by_cases c:k∈tr.map (·.1)
  .have s:=(m k).1 c;obtain⟨i,C,hi⟩:=s.at;have:=Up.len ok i k C _ hi s;have:=(zz2.mp hi).1;show(e k).length<=12;lia
  .show(e k).length<=12;rw[(m k).2 c];exact bM _
 .by_cases c:k∈tr.map (·.1)
  .exact((m k).1 c).mem x j
  .have j:x∈e k:=j;rw[(m k).2 c]at j;cases j
structure Ts where
 dn:Nat
 S:Rs
 e:Option (Str×Nat)
def Ts.row(mo n:Nat)(f:Ts->Ts)(T:Ts):Ts:=match T.e with
 | some _=>T
 | none=>if mo<=T.dn then {T with e:=some ("long",n)} else f {T with dn:=T.dn+1}
def Ts.ends(T:Ts)(s:Str)(n:Nat):Ts:={T with e:=some (s,n)}
def Ts.plain(P:Pg)(n m:Nat)(r:Rw)(T:Ts):Ts:={T with S:=(jD P T.S n m r).1,e:=(jD P T.S n m r).2.map (·,n)}
def iF(P:Pg)(mo m:Nat):LL->Ts->Ts
 | .nil,T=>T
 | .op n _ r t,T=>iF P mo m t<|T.row mo n<|Ts.plain P n m r
def Rs.at(S:Rs)(r:List Du):Rs:={S with td:=r}
def MG{T:Ts}(h:T.e=some z):T.row mo n f=T:=by unfold Ts.row;rw[h]
theorem zX{P:Pg}:∀(l:LL)(T:Ts),T.e=some z->iF P mo m l T=T
 | .nil,T,h=>rfl
 | .op n a r t,T,h=>by unfold iF;rw[MG h];exact zX t T h
theorem MM(r:List Du):∀(l:List Str)(S:Rs),l.foldl Rs.come (S.at r)=(l.foldl Rs.come S).at r
 | [],S=>rfl
 | k::l,S=>by
  have e:Rs.come (S.at r) k=(S.come k).at r:=by
   unfold Rs.come
   by_cases c:k∈S.hr
   .rw[bC c,bC (show k∈(S.at r).hr from c)]
   .rw[aY c,aY (show k∉(S.at r).hr from c)];rfl
  rw[List.foldl_cons,List.foldl_cons,e];exact MM r l _
def NO{S:Rs}{v:V}{f g:Int->Rs×Option Str}(r:List Du)(h:∀j,g j=((f j).1.at r,(f j).2)):(S.at r).thing v g=((S.thing v f).1.at r,(S.thing v f).2):=by
 cases v with
 | int j=>exact h j
 | _=>rfl
def VA(P:Pg)(S:Rs)(r:List Du)(n m:Nat)(w:Rw):jD P (S.at r) n m w=((jD P S n m w).1.at r,(jD P S n m w).2):=by
 cases w with
 | make x k=>
  unfold jD
  by_cases c:k∈S.hr
  .simp only[bC c,bC (show k∈(S.at r).hr from c)];rfl
  .simp only[aY c,aY (show k∉(S.at r).hr from c)]
 | copy x y=>rfl
 | put x f y=>exact NO r λj=>rfl
 | take x y f=>exact NO r λj=>rfl
 | say w=>rfl
 | bring k=>exact cK (·,none)<|MM r (P.ln k).reverse S
theorem MV(P:Pg)(b m:Nat):∀(l:LL)(T:Ts),T.e=none->∃F e v,Rn P b T.dn (T.S.at<|l.dues m) F e v/\F.lg=(iF P b m l T).S.lg/\F.lk=(iF P b m l T).S.lk/\(((iF P b m l T).e=none/\e="done"/\v=.non)\/∃n:Nat,(iF P b m l T).e=some (e,n)/\v=.int n)
 | .nil,T,h=>⟨_,_,_,.done rfl,rfl,rfl,.inl ⟨h,rfl,rfl⟩⟩
 | .op n a r t,T,h=>by
  have d:=VA P T.S (t.dues m) n m r;show ∃F e v,Rn P b T.dn (T.S.at<|.op n a r m::t.dues m) F e v/\F.lg=(iF P b m t<|T.row b n<|Ts.plain P n m r).S.lg/\F.lk=(iF P b m t<|T.row b n<|Ts.plain P n m r).S.lk/\(((iF P b m t<|T.row b n<|Ts.plain P n m r).e=none/\e="done"/\v=.non)\/∃n':Nat,(iF P b m t<|T.row b n<|Ts.plain P n m r).e=some (e,n')/\v=.int n');unfold Ts.row;rw[h];dsimp only
  by_cases c:b<=T.dn
  .rw[bC c,zX (z:=("long",n)) _ _ rfl];exact⟨_,_,_,.long rfl c,rfl,rfl,.inr ⟨n,rfl,rfl⟩⟩
  .rw[aY c];have f:=Nat.not_le.mp c;cases ho:(jD P T.S n m r).2 with
   | none=>
    have:Ts.plain P n m r ⟨T.dn+1,T.S,none⟩=⟨T.dn+1,(jD P T.S n m r).1,none⟩:=by unfold Ts.plain;rw[ho];rfl
    rw[this];obtain⟨F,e,v,i,j⟩:=MV P b m t ⟨T.dn+1,(jD P T.S n m r).1,none⟩ rfl;exact⟨F,e,v,.go rfl f (d.trans<|by rw[ho]) i,j⟩
   | some z=>
    have:Ts.plain P n m r ⟨T.dn+1,T.S,none⟩=⟨T.dn+1,(jD P T.S n m r).1,some (z,n)⟩:=by unfold Ts.plain;rw[ho];rfl
    rw[this,zX (z:=(z,n)) _ _ rfl];exact⟨(jD P T.S n m r).1.at<|t.dues m,_,_,.stop rfl f (d.trans<|by rw[ho]),rfl,rfl,.inr ⟨n,rfl,rfl⟩⟩
structure MAt(H0:Hp)(M:List (Addr×HO))(H:Hp):Prop where
 at':∀p∈M,H p.1=some p.2
 nd:(M.map (·.1)).Nodup
 fr:∀p∈M,H0 p.1=none
 kp:∀b o,H0 b=some o->H b=some o
theorem MAt.set{a:Addr}{o o':HO}(h:MAt H0 M H)(hi:M[i]?=some (a,o)):MAt H0 (M.set i (a,o')) (upd H a o'):=by
 have r:=cW hi;have e:(M.set i (a,o')).map (·.1)=M.map (·.1):=by
  rw[List.map_set];have h':(M.map (·.1))[i]?=some a:=by rw[bN,hi];rfl
  obtain⟨l,e⟩:=zz2.mp h';show(M.map (·.1)).set i a=_;rw[<-e];exact List.set_getElem_self l
 refine⟨λp hp=>?_,by rw[e];exact h.nd,λp hp=>?_,λb u d=>?_⟩
 .rcases xU hp with hp' | rfl
  .by_cases c:p.1=a
   .obtain⟨j,f⟩:=wr6.mp hp;have w:j=i:=by
     have h1:(M.map (·.1))[j]?=some a:=by rw[<-e,bN,f,<-c];rfl
     have h2:(M.map (·.1))[i]?=some a:=by rw[bN,hi];rfl
     obtain⟨x,s⟩:=zz2.mp h1;obtain⟨A,m⟩:=zz2.mp h2;exact(wL h.nd).mp<|s.trans m.symm
    subst w;rw[List.getElem?_set_self (zz2.mp hi).1]at f;cases f;exact zb1
   .rw[aC c];exact h.at' p hp'
  .exact zb1
 .have:p.1∈M.map (·.1):=by rw[<-e];exact wn7.mpr ⟨p,hp,rfl⟩
  obtain⟨q,n,m⟩:=wn7.mp this;rw[<-m];exact h.fr q n
 .rw[aC λz=>by rw[z,h.fr _ r]at d;cases d];exact h.kp b u d
def MAt.no0(h:MAt H0 M H)(hp:H p=none):H0 p=none:=by
 cases e:H0 p with
 | none=>rfl
 | some o=>rw[h.kp _ _ e]at hp;cases hp
def MAt.new(h:MAt H0 M H)(hp:H p=none):MAt H0 M (upd H p o):=⟨λq a=>by rw[aC<|aP (h.at' q a) hp];exact h.at' q a,h.nd,h.fr,λb u e=>by rw[aC<|aP (h.kp b u e) hp];exact h.kp b u e⟩
def MAt.add(h:MAt H0 M H)(hp:H p=none):MAt H0 (M++[(p,o)]) (upd H p o):=by
 have n:=h.new (o:=o) hp;refine⟨λq d=>?_,?_,λq d=>?_,n.kp⟩
 .rcases wp5.mp d with d | d
  .exact n.at' q d
  .rw[wn1.mp d];exact zb1
 .rw[bO,List.map_singleton];refine vh4.mpr ⟨h.nd,List.pairwise_singleton _ _,λa f b e=>?_⟩;rw[wn1.mp e];obtain⟨q,d,rfl⟩:=wn7.mp f;exact aP (h.at' q d) hp
 .rcases wp5.mp d with d | d
  .exact h.fr q d
  .rw[wn1.mp d];exact h.no0 hp
theorem A2.set{α β:Type}{R:α->β->Prop}{as:List α}{bs:List β}{a:α}{b:β}(h:A2 R as bs)(g:R a b):∀{i:Nat},A2 R (as.set i a) (bs.set i b):=by
 induction h with
 | nil=>exact .nil
 | cons h _ ih=>
  intro i;cases i with
  | zero=>exact .cons g ‹_›
  | succ i=>exact .cons h ih
def Tup.chg(h:H a=some o)(n:∀xs,o≠.tup xs):Tup H (upd H a o'):=λb xs e=>by
 rw[aC λz=>by rw[z,h]at e;cases e;exact n _ rfl];exact e
structure La where
 (ar ch lo th:Addr)
 (ls δ θ:List Addr)
 ds:List (List<|aG×V)
structure Lw where
 H0:Hp
 G:Pg
 (tx up:Addr)
 mo:Nat
abbrev lF(W:Lw)(A:La)(T:Ts)(ev:V):List (aG×V):=[(Sum.inr "texts",.ref W.tx),(Sum.inr "up",.ref W.up),(Sum.inr "around",.ref A.ar),(Sum.inr "choices",.ref A.ch),(Sum.inr "left",.int<|(W.mo:Int)-T.dn),(Sum.inr "log",.ref A.lo),(Sum.inr "looks",.int T.S.lk),(Sum.inr "end",ev),(Sum.inr "things",.ref A.th),(Sum.inr "calls",.int T.S.uw)]
def fC(hr:List Str):List (aG×V):=hr.map λk=>(Sum.inr k,.bl true)
def lD(A:La):List (Addr×HO):=(A.δ.zip A.ds).map λz=>(z.1,.dK z.2)
abbrev lM(W:Lw)(rn:Addr)(A:La)(T:Ts)(ev:V):List (Addr×HO):=(rn,.dK<|lF W A T ev)::(A.ar,.dK<|fC T.S.hr)::(A.ch,.lst<|(W.G.ch.drop T.S.rd).map V.int)::(A.lo,.lst<|A.ls.map V.ref)::(A.th,.lst<|A.θ.map V.ref)::lD A
inductive EvAt(H:Hp):Option (Str×Nat)->V->Prop
 | no:EvAt H none .non
 | end {s:Str} {n:Nat} {a:Addr} (h:H a=some (.tup [.str s,.int n])):EvAt H (some (s,n)) (.ref a)
def EvAt.keep(h:EvAt H e ev)(f:Tup H H'):EvAt H' e ev:=by
 cases h with
 | no=>exact .no
 | «end» h=>exact .end<|f _ _ h
structure LI(H:Hp)(A:La)(T:Ts):Prop where
 lg:A2 (λr a=>H a=some (.tup r)) T.S.lg A.ls
 th:A2 (λ(z:Str×Nat) t=>∃a,A.δ[z.2]?=some a/\H t=some (.tup [.str z.1,.ref a])) T.S.ts A.θ
 dq:A2 (λd d'=>∀k:aG,aF d' k=aF d k) T.S.ds A.ds
 dl:A.δ.length=A.ds.length
def LI.keep(h:LI H A T)(f:Tup H H'):LI H' A T:={h with lg:=h.lg.imp λ_ _ g=>f _ _ g,th:=h.th.imp λ_ _ ⟨a,e,g⟩=>⟨a,e,f _ _ g⟩}
structure LB(W:Lw)(A:La)(T:Ts)(s:Nat):Prop where
 dk:∀d∈T.S.ds,∀z∈d,VOk T.S.ts.length z.2
 b1:T.S.lg.length+12*s<=12*T.dn
 b2:∀d∈A.ds,↑d+s<=T.dn
 b3:T.S.ts.length+s<=T.dn
 b4:T.S.hr.length+12*s<=12+12*T.dn
 hn:∀k∈T.S.hr,k∈W.G.nm
 tn:∀z∈T.S.ts,z.1∈W.G.nm
structure LAt(W:Lw)(H:Hp)(rn:Addr)(A:La)(T:Ts)(ev:V):Prop where
 li:LI H A T
 le:EvAt H T.e ev
 lm:MAt W.H0 (lM W rn A T ev) H
section
variable{W:Lw}{H:Hp}{rn:Addr}{A:La}{T:Ts}{ev:V}
def LAt.run(h:LAt W H rn A T ev):H rn=some (.dK<|lF W A T ev):=h.lm.at' _<|.head _
theorem LAt.ar(h:LAt W H rn A T ev):H A.ar=some (.dK<|fC T.S.hr):=h.lm.at' _<|.tail _<|.head _
theorem LAt.lo(h:LAt W H rn A T ev):H A.lo=some (.lst<|A.ls.map V.ref):=h.lm.at' _<|.tail _<|.tail _<|.tail _<|.head _
theorem LAt.th(h:LAt W H rn A T ev):H A.th=some (.lst<|A.θ.map V.ref):=h.lm.at' _<|.tail _<|.tail _<|.tail _<|.tail _<|.head _
theorem LAt.new(h:LAt W H rn A T ev)(hp:H p=none):LAt W (upd H p o) rn A T ev:=⟨h.li.keep<|Tup.new hp,h.le.keep<|Tup.new hp,h.lm.new hp⟩
def LAt.dict{m:Nat}(h:LAt W H rn A T ev)(f:A.δ[m]?=some a):∃d d',T.S.ds[m]?=some d/\A.ds[m]?=some d'/\H a=some (.dK d')/\(∀k,aF d' k=aF d k)/\(lD A)[m]?=some (a,HO.dK d'):=by
 have hl:m<A.ds.length:=by rw[<-h.li.dl];exact(zz2.mp f).1
 have b:=bD hl;obtain⟨d,i,hd⟩:=A2.back h.li.dq b;have e:(lD A)[m]?=some (a,HO.dK A.ds[m]):=by
  unfold lD;rw[bN,DF (z:=(a,A.ds[m])) |>.mpr ⟨f,b⟩];rfl
 exact⟨d,_,i,b,h.lm.at' _<|.tail _<|.tail _<|.tail _<|.tail _<|.tail _<|cW e,hd,e⟩
def NC(e:S.ds[m]?=some d):Rs.get S m x=(aF d<|Sum.inr x).getD .non:=by unfold Rs.get;rw[fQ,e];rfl
def LAt.got{m:Nat}(h:LAt W H rn A T ev)(b:LB W A T s)(i:A.δ[m]?=some a)(x:Str):∃d',H a=some (.dK d')/\(aF d'<|Sum.inr x).getD .non=T.S.get m x/\VOk T.S.ts.length (T.S.get m x):=by
 obtain⟨d,d',e,l,f,j,_⟩:=h.dict i;exact⟨d',f,by rw[NC e,j],by rw[NC e];exact MD (b.dk d<|cW e) _⟩
def jS(h:MAt H0 M H)(hi:M[i]?=some (a,o))(n:∀xs,o≠.tup xs):MAt H0 (M.set i (a,o')) (upd H a o')/\Tup H (upd H a o'):=⟨h.set hi,Tup.chg (h.at' _<|cW hi) n⟩
def LAt.num(h:LAt W H rn A T ev)(b:Ts)(h1:b.S={T.S with lk:=b.S.lk,uw:=b.S.uw})(he:EvAt H b.e ev'):LAt W (upd H rn<|.dK<|lF W A b ev') rn A b ev'/\Tup H (upd H rn<|.dK<|lF W A b ev'):=by
 obtain⟨dn,d,e⟩:=b;dsimp only at h1 he;rw[h1];obtain⟨m,t⟩:=jS (o':=.dK<|lF W A ⟨dn,{T.S with lk:=d.lk,uw:=d.uw},e⟩ ev') h.lm (i:=0) rfl λxs z=>nomatch z;exact⟨⟨⟨h.li.lg.imp λ_ _ g=>t _ _ g,h.li.th.imp λ_ _ ⟨a,e,g⟩=>⟨a,e,t _ _ g⟩,h.li.dq,h.li.dl⟩,he.keep t,m⟩,t⟩
theorem LAt.say(h:LAt W H rn A T ev)(b:H t=some (.tup r)):LAt W (upd H A.lo<|.lst<|A.ls.map V.ref++[.ref t]) rn {A with ls:=A.ls++[t]} {T with S:=T.S.say r} ev/\Tup H (upd H A.lo<|.lst<|A.ls.map V.ref++[.ref t]):=by
 obtain⟨m,f⟩:=jS (o':=.lst<|A.ls.map V.ref++[.ref t]) h.lm (i:=3) rfl λxs z=>nomatch z;have e:A.ls.map V.ref++[V.ref t]=(A.ls++[t]).map V.ref:=by rw[bO];rfl
 refine⟨⟨⟨(h.li.lg.imp λ_ _ g=>f _ _ g).snoc<|f _ _ b,h.li.th.imp λ_ _ ⟨a,e,g⟩=>⟨a,e,f _ _ g⟩,h.li.dq,h.li.dl⟩,h.le.keep f,?_⟩,f⟩;rw[e]at m ⊢;exact m
theorem SJ{d:List (aG×V)}:∀{δ:List Addr}{ds:List (List<|aG×V)}{m:Nat},δ[m]?=some a->(δ.zip<|ds.set m d).map (λz=>(z.1,HO.dK z.2))=((δ.zip ds).map λz=>(z.1,HO.dK z.2)).set m (a,.dK d)
 | [],_,_,h=>nomatch h
 | _::_,[],_,_=>rfl
 | x::δ,y::ds,0,h=>by cases h;rfl
 | x::δ,y::ds,m+1,h=>cK ((x,HO.dK y)::·)<|SJ (δ:=δ) (ds:=ds) h
theorem LAt.put{m:Nat}(h:LAt W H rn A T ev)(j:A.δ[m]?=some a)(n:H a=some (.dK d'))(x:Str)(v:V):LAt W (upd H a<|.dK<|aN d' (Sum.inr x) v) rn {A with ds:=A.ds.set m<|aN d' (Sum.inr x) v} {T with S:=T.S.put m x v} ev/\Tup H (upd H a<|.dK<|aN d' (Sum.inr x) v):=by
 obtain⟨d,u,o,s,b,l,q⟩:=h.dict j;rw[n]at b;cases b;obtain⟨m',f⟩:=jS (o':=.dK<|aN d' (Sum.inr x) v) h.lm (i:=m+5) q λxs z=>nomatch z;have r:T.S.ds.getD m []=d:=by rw[fQ,o];rfl
 refine⟨⟨⟨h.li.lg.imp λ_ _ g=>f _ _ g,h.li.th.imp λ_ _ ⟨a,e,g⟩=>⟨a,e,f _ _ g⟩,?_,by rw[List.length_set];exact h.li.dl⟩,h.le.keep f,?_⟩,f⟩
 .show A2 _ (T.S.ds.set m<|aN (T.S.ds.getD m []) (Sum.inr x) v) _;rw[r];exact A2.set h.li.dq λk=>by rw[jF,jF,l]
 .have:lD {A with ds:=A.ds.set m<|aN d' (Sum.inr x) v}=(lD A).set m (a,.dK<|aN d' (Sum.inr x) v):=SJ j;show MAt W.H0 (_::_::_::_::_::lD {A with ds:=A.ds.set m<|aN d' (Sum.inr x) v}) _;rw[this];exact m'
theorem LAt.dic(h:LAt W H rn A T ev)(hp:H b=none)(hd:∀k:aG,aF d' k=aF d k):LAt W (upd H b<|.dK d') rn {A with δ:=A.δ++[b],ds:=A.ds++[d']} {T with S:=T.S.dic d} ev:=by
 have f:Tup H (upd H b<|.dK d'):=Tup.new hp;have m:=h.lm.add (o:=.dK d') hp;exists ⟨h.li.lg.imp λ_ _ g=>f _ _ g,h.li.th.imp λ_ _ ⟨a,e,g⟩=>⟨a,xV e,f _ _ g⟩,h.li.dq.snoc hd,by rw[bI,bI,h.li.dl];rfl⟩,h.le.keep f;have:lD {A with δ:=A.δ++[b],ds:=A.ds++[d']}=lD A++[(b,.dK d')]:=by
  unfold lD;rw[List.zip_append h.li.dl,bO];rfl
 show MAt W.H0 (_::_::_::_::_::lD {A with δ:=A.δ++[b],ds:=A.ds++[d']}) _;rw[this];exact m
theorem LAt.thg(h:LAt W H rn A T ev)(b:H t=some (.tup [.str z.1,.ref a]))(hz:A.δ[z.2]?=some a):LAt W (upd H A.th<|.lst<|A.θ.map V.ref++[.ref t]) rn {A with θ:=A.θ++[t]} {T with S:=T.S.thg z} ev/\Tup H (upd H A.th<|.lst<|A.θ.map V.ref++[.ref t]):=by
 obtain⟨m,f⟩:=jS (o':=.lst<|A.θ.map V.ref++[.ref t]) h.lm (i:=4) rfl λxs z=>nomatch z;have e:A.θ.map V.ref++[V.ref t]=(A.θ++[t]).map V.ref:=by rw[bO];rfl
 refine⟨⟨⟨h.li.lg.imp λ_ _ g=>f _ _ g,(h.li.th.imp λ_ _ ⟨a,e,g⟩=>⟨a,e,f _ _ g⟩).snoc ⟨a,hz,f _ _ b⟩,h.li.dq,h.li.dl⟩,h.le.keep f,?_⟩,f⟩;rw[e]at m ⊢;exact m
def pH(h:k∉hr):aN (fC hr) (Sum.inr k) (.bl true)=fC (hr++[k]):=by
 unfold aN fC;rw[aY,bO];rfl;intro z;obtain⟨p,hp,e⟩:=vf5.mp z;obtain⟨y,a,rfl⟩:=wn7.mp hp;exact h<|iY (cN e)▸a
def oN:(aF (fC hr)<|Sum.inr k).isSome=decide (k∈hr):=by
 unfold aF fC;rw[yS,tR,decide_eq_true_iff,List.find?_isSome]
 constructor
 .rintro⟨p,hp,e⟩;obtain⟨y,a,rfl⟩:=wn7.mp hp;exact iY (cN e)▸a
 .exact λh=>⟨_,wn7.mpr ⟨k,h,rfl⟩,fI rfl⟩
theorem LAt.her(h:LAt W H rn A T ev)(b:k∉T.S.hr):LAt W (upd H A.ar<|.dK<|aN (fC T.S.hr) (Sum.inr k)<|.bl true) rn A {T with S:=T.S.her k} ev/\Tup H (upd H A.ar<|.dK<|aN (fC T.S.hr) (Sum.inr k)<|.bl true):=by
 obtain⟨m,f⟩:=jS (o':=.dK<|aN (fC T.S.hr) (Sum.inr k)<|.bl true) h.lm (i:=1) rfl λxs z=>nomatch z;refine⟨⟨⟨h.li.lg.imp λ_ _ g=>f _ _ g,h.li.th.imp λ_ _ ⟨a,e,g⟩=>⟨a,e,f _ _ g⟩,h.li.dq,h.li.dl⟩,h.le.keep f,?_⟩,f⟩;rw[pH b]at m ⊢;exact m
end
section
variable{W:Lw}{H:Hp}{rn:Addr}{A:La}{T:Ts}{ev:V}
def LB.less(b:LB W A T (s+1)):LB W A T s:=⟨b.dk,by have:=b.b1;lia,λd hd=>by have:=b.b2 d hd;lia,by have:=b.b3;lia,by have:=b.b4;lia,b.hn,b.tn⟩
def LB.row(b:LB W A T 0):LB W A {T with dn:=T.dn+1} 1:=⟨b.dk,by have:=b.b1;show T.S.lg.length+_<=12*(T.dn+1);lia,λd hd=>by have:=b.b2 d hd;show ↑d+_<=T.dn+1;lia,by have:=b.b3;show T.S.ts.length+_<=T.dn+1;lia,by have:=b.b4;show T.S.hr.length+_<=12+12*(T.dn+1);lia,b.hn,b.tn⟩
theorem LB.ends(b:LB W A T s)(x:Str)(n:Nat):LB W A (T.ends x n) s:=⟨b.dk,b.b1,b.b2,b.b3,b.b4,b.hn,b.tn⟩
theorem LB.say(b:LB W A T 1)(l:List Addr)(r:List V):LB W {A with ls:=l} {T with S:=T.S.say r} 0:=⟨b.dk,by have:=b.b1;show(T.S.lg++[r]).length+_<=12*T.dn;rw[bI,dR];lia,λd hd=>by have:=b.b2 d hd;show ↑d+_<=T.dn;lia,by have:=b.b3;show T.S.ts.length+_<=T.dn;lia,by have:=b.b4;show T.S.hr.length+_<=12+12*T.dn;lia,b.hn,b.tn⟩
def PQ{d':List (aG×V)}{e:Nat}(b:∀d∈A.ds,↑d+1<=e)(hd:A.ds[m]?=some d'):∀d∈A.ds.set m (aN d' (Sum.inr x) v),↑d<=e:=λd h=>by
 rcases xU h with h | rfl
 .have:=b d h;lia
 .have:=jV d' (Sum.inr x) v;have:=b d'<|cW hd;lia
def NB{S:Rs}(b:∀d∈S.ds,∀z∈d,VOk n z.2)(a:VOk n v):∀d∈(S.put m x v).ds,∀z∈d,VOk n z.2:=λd h=>by
 rcases xU h with h | rfl
 .exact b d h
 .refine MN (λz hz=>?_) a;rw[fQ]at hz;cases e:S.ds[m]? with
  | none=>rw[e]at hz;cases hz
  | some d=>rw[e]at hz;exact b d (cW e) z hz
theorem LB.put{d':List (aG×V)}{m:Nat}{x:Str}{v:V}(b:LB W A T 1)(hd:A.ds[m]?=some d')(a:VOk T.S.ts.length v):LB W {A with ds:=A.ds.set m<|aN d' (Sum.inr x) v} {T with S:=T.S.put m x v} 0:=
 ⟨NB b.dk a,by have:=b.b1;show T.S.lg.length+_<=12*T.dn;lia,PQ b.b2 hd,by have:=b.b3;show T.S.ts.length+_<=T.dn;lia,by have:=b.b4;show T.S.hr.length+_<=12+12*T.dn;lia,b.hn,b.tn⟩
def SY{S:Rs}(a:m<S.ds.length):Rs.thg (Rs.dic (S.put m x v) []) (k,S.ds.length)=(S.make k).put m x v:=by
 unfold Rs.thg Rs.dic Rs.put Rs.make;dsimp only;rw[List.set_append_left _ _ a,fQ,fQ,kG a]
theorem LB.make{d':List (aG×V)}{m:Nat}{x k:Str}{δ θ:List Addr}(b:LB W A T 1)(f:m<T.S.ds.length)(hd:A.ds[m]?=some d')(a:k∈T.S.hr):LB W {A with ds:=A.ds.set m (aN d' (Sum.inr x)<|.int T.S.ts.length)++[[]],δ:=δ,θ:=θ} {T with S:=(T.S.make k).put m x<|.int T.S.ts.length} 0:=by
 refine⟨?_,by have:=b.b1;show T.S.lg.length+_<=12*T.dn;lia,λd h=>?_,?_,by have:=b.b4;show T.S.hr.length+_<=12+12*T.dn;lia,b.hn,λz hz=>?_⟩
 .have e:↑(T.S.ts++[(k,T.S.ds.length)])=T.S.ts.length+1:=by rw[bI];rfl
  show ∀d∈((T.S.make k).put m x _).ds,∀z∈d,VOk ↑(T.S.ts++[(k,T.S.ds.length)]) z.2;rw[e];refine NB (λd h z hz=>?_)<|.inr ⟨_,rfl,wM _⟩;rcases wp5.mp h with h | h
  .exact(b.dk d h z hz).mono (nN _)
  .rw[wn1.mp h]at hz;cases hz
 .rcases wp5.mp h with h | h
  .exact PQ b.b2 hd d h
  .rw[wn1.mp h];exact bM _
 .have:=b.b3;show(T.S.ts++[(k,T.S.ds.length)]).length+0<=T.dn;rw[bI,dR];lia
 .have hz:z∈T.S.ts++[(k,T.S.ds.length)]:=hz;rcases wp5.mp hz with hz | hz
  .exact b.tn z hz
  .rw[wn1.mp hz];exact b.hn k a
theorem LB.come{l:List Str}(b:LB W A T 1)(hl:↑l<=12)(i:∀x∈l,x∈W.G.nm)(ls:List Addr):LB W {A with ls:=ls} {T with S:=l.foldl Rs.come T.S} 0:=by
 obtain⟨h1,h2,h,e,a,j,_⟩:=zH l T.S;have:=b.b1;have:=b.b4;have:=b.b3;exact⟨by show ∀d∈(l.foldl Rs.come T.S).ds,_;rw[e];show ∀d∈T.S.ds,∀z∈d,VOk (l.foldl Rs.come T.S).ts.length z.2;rw[a];exact b.dk,by show(l.foldl Rs.come T.S).lg.length+_<=12*T.dn;lia,λd hd=>by have:=b.b2 d hd;show ↑d+_<=T.dn;lia,by show(l.foldl Rs.come T.S).ts.length+_<=T.dn;rw[a];lia,by show(l.foldl Rs.come T.S).hr.length+_<=12+12*T.dn;lia,λk f=>(h k f).elim (b.hn k)<|i k,by show ∀z∈(l.foldl Rs.come T.S).ts,_;rw[a];exact b.tn⟩
def LAt.endw(h:LAt W H rn A T ev)(a:H t=none)(s:Str)(n:Nat):LAt W (upd (upd H t<|.tup [.str s,.int n]) rn<|.dK<|aN (lF W A T ev) (Sum.inr "end")<|.ref t) rn A (T.ends s n) (.ref t)/\Tup H (upd (upd H t<|.tup [.str s,.int n]) rn<|.dK<|aN (lF W A T ev) (Sum.inr "end")<|.ref t):=by
 have:=(h.new (o:=.tup [.str s,.int n]) a).num (ev':=.ref t) (T.ends s n) rfl<|.end zb1;exact⟨this.1,(Tup.new a).trans this.2⟩
def LAt.thing(h:LAt W H rn A T ev){j:Nat}(d:j<T.S.ts.length):∃t a,A.θ[j]?=some t/\H t=some (.tup [.str<|T.S.kind j,.ref a])/\A.δ[T.S.dict j]?=some a:=by
 obtain⟨t,e,a,h1,h2⟩:=h.li.th.get<|bD d;have b:T.S.ts.getD (j:Int).toNat ("",0)=T.S.ts[j]:=by show T.S.ts.getD j _=_;rw[fQ,bD d];rfl
 exact⟨t,a,e,by unfold Rs.kind;rw[b];exact h2,by unfold Rs.dict;rw[b];exact h1⟩
end
inductive EnT(nm:List Str)(H:Hp):LL->List Addr->Prop
 | nil:EnT nm H .nil []
 | op {n:Nat} {a e p:Addr} {r:Rw} {t:LL} {es:List Addr} (h:H e=some (.tup [.int n,.ref a,.ref p])) (hr:H a=some (.tup r.vs)) (hb:∀k,r=.bring k->k∈nm) (s:EnT nm H t es):EnT nm H (.op n a r t) (e::es)
def EnT.keep(h:EnT nm H l es)(t:Tup H H'):EnT nm H' l es:=by
 induction h with
 | nil=>exact .nil
 | op h hr hb _ ih=>exact .op (t _ _ h) (t _ _ hr) hb ih
theorem EnT.app(h:EnT nm H L es)(g:EnT nm H M fs):EnT nm H (L.app M) (es++fs):=by
 induction h with
 | nil=>exact g
 | op h hr hb _ ih=>exact .op h hr hb ih
abbrev pU:Stmt:=top 72
abbrev lL:List Str:=["_law_run","_law_kind"]
inductive oM(vs:List V)(H:Hp)(Q:VK):Prop
 | mk(rn up:Addr)(kvs:List (aG×V))(tr:Tr)(n:Str)(l:List Str)(h1:vs=[.ref rn,.str n])(h2:H rn=some (.dK kvs))(h3:aF kvs (Sum.inr "up")=some (.ref up))(h4:H up=some (.dK<|cH tr))(h5:TrOk tr)(h6:↑tr<=12)(h7:Up tr n l)(q:∀a,H a=none->Q (.ref a) (upd H a<|.lst<|l.map V.str)):oM vs H Q
def IB:Sp:=λvs H Q _=>oM vs H Q
inductive PN(H:Hp)(rn pl:Addr)(tr:Tr)(l:List Str)(σ:St)(Hx:Hp):Prop
 | mk(dn:List Str)(kv:V)(h1:σ=[some<|.ref rn,some kv,some<|.ref pl])(h2:Hx=upd H pl (.lst<|dn.map V.str))(h3:↑dn<=12)(h4:(kv=.non/\dn=l)\/∃x rs,kv=.str x/\Up tr x rs/\dn++rs=l):PN H rn pl tr l σ Hx
def wh8:bY ["_law_run","_law_kind","_law_found"] lL (bR pU):=cC
def rA(F:Fun K "_law_ups" "_law_ups" pU f fd):aR P w K mg base bP (k+1) f fd lL IB:=by
 refine F.ok wh8 (λvs H Q E h=>?_) λa9 A outer s H vs Q E hr h=>?_
 .obtain⟨rn,d,kvs,tr,n,l,rfl,_⟩:=h;rfl
 obtain⟨rn,d,kvs,tr,n,l,rfl,X,O,T,ok,a8,j,q⟩:=h;have r:=dU hr;exists _,aL (sL 2 wh8.nd<|cG aE)
  (aL (EI dO (hV<|rP<|pv 1)<|aL (dW<|eN eA eX eY eR (pv 2)<|aA (pv 1) aE)<|aS<|sL 1 wh8.nd<|bQ r (bQ r (pv 0) bA λ_ _=>rfl) (pv 1) λ_ _=>rfl)<|aS<|bT<|pv 2)
 ac_rfl
 refine⟨bM _,λa B=>?_⟩;refine JV (PN H rn a tr l) (λσ m=>match m a with | some (.lst xs)=>100-↑xs | _=>0) ⟨[],.str n,rfl,rfl,by decide,.inr ⟨n,l,rfl,j,rfl⟩⟩ ?_ ?_
 .rintro σ m ⟨dn,kv,rfl,rfl,hd,Z⟩;have kp:∀{b:Addr}{u o:HO},H b=some u->upd H a o b=some u:=λe=>by rw[aC<|aP e B];exact e
  rcases Z with ⟨rfl,rfl⟩ | ⟨x,rs,rfl,hx,hl⟩
  .exact⟨_,rfl,_,rfl,bF ⟨_,rfl,q a B⟩⟩
  .exists _,rfl,_,rfl;show if (!decide (V.str x=V.non))=true then _ else _
   rw[bC<|by simp];have J:↑dn+1<=12:=by
    obtain⟨i,g,hi⟩:=j.at;have h1:=Up.len ok i n g l hi j;obtain⟨h2,_⟩:=zz2.mp hi;have Y:=cK List.length hl;rw[bI]at Y;have h4:1<=↑rs:=by cases hx <;> simp
    lia
   refine⟨_,rfl,.inl ⟨rfl,_,SqL.of zb1⟩,_,rfl,a,_,_,rfl,rfl,zb1,by rw[aK];exact bH (by lia),?_⟩;rw[fT];have N:dn.map V.str++[V.str x]=(dn++[x]).map V.str:=by rw[bO];rfl
   have z:(match upd H a (.lst<|(dn++[x]).map V.str) a with | some (HO.lst xs)=>100-↑xs | _=>0)<(match upd H a (.lst<|dn.map V.str) a with | some (HO.lst xs)=>100-↑xs | _=>0):=by
    rw[zb1,zb1];show 100-↑((dn++[x]).map V.str)<100-↑(dn.map V.str);rw[aK,aK,bI,dR];lia
   have C:↑(dn++[x])<=12:=by rw[bI,dR];exact J
   rw[N];have I:DGet (upd H a<|.lst<|(dn++[x]).map V.str) rn (.str "up") (some<|.ref d):=by rw[<-O];exact DGet.k (k:=(Sum.inr "up":aG))<|kp X
   have G:∀v,aF (cH tr) (Sum.inr x)=some v->DGet (upd H a<|.lst<|(dn++[x]).map V.str) d (.str x) (some v):=λv e=>by rw[<-e];exact DGet.k (k:=(Sum.inr x:aG))<|kp T
   exists _,rfl,rn,_,rfl,I,_,rfl;cases hx with
   | @root i _ hi=>exact⟨d,.non,rfl,G _<|uD ok hi,⟨dn++[x],.non,rfl,rfl,C,.inl ⟨rfl,hl⟩⟩,z⟩
   | @step i _ e l' hi hu'=>exact⟨d,.str e,rfl,G _<|uD ok hi,⟨dn++[x],.str e,rfl,rfl,C,.inr ⟨e,l',rfl,hu',by rw[lC];exact hl⟩⟩,z⟩
 .rintro σ m Q1 Q2 hR ⟨W,h1,c,M,L⟩;exact⟨W,h1,c,M,hR _ _ L⟩
abbrev sW:Stmt:=top 74
abbrev lS:List Str:=["_law_run","_law_number","_law_row_here","_law_env"]
structure zT(W:Lw)(tr:Tr):Prop where
 up:W.H0 W.up=some (.dK<|cH tr)
 ok:TrOk tr
 l12:↑tr<=12
 ln:∀k∈W.G.nm,Up tr k<|W.G.ln k
 nm:∀k,∀x∈W.G.ln k,x∈W.G.nm
 l2:∀k,↑(W.G.ln k)<=12
def Sub(A A':La):Prop:=∀{i:Nat}{a:Addr},A.δ[i]?=some a->A'.δ[i]?=some a
inductive oO(vs:List V)(H:Hp)(Q:VK):Prop
 | mk(W:Lw)(tr:Tr)(rn ra na:Addr)(A:La)(T:Ts)(n m:Nat)(r:Rw)(h1:vs=[.ref rn,.int n,.ref ra,.ref na])(h2:LAt W H rn A T .non)(h3:zT W tr)(h4:H ra=some (.tup r.vs))(h5:A.δ[m]?=some na)(h6:LB W A T 1)(h7:T.dn<=10000)(h8:∀k,r=.bring k->k∈W.G.nm)
  (q:∀A' ev' H',LAt W H' rn A' (T.plain W.G n m r) ev'->LB W A' (T.plain W.G n m r) 0->Tup H H'->Sub A A'->Q .non H'):oO vs H Q
def JS:Sp:=λvs H Q _=>oO vs H Q
inductive zU(W:Lw)(H:Hp)(rn lb:Addr)(A:La)(T:Ts)(σ0:St)(l:List Str)(i:Nat)(σ:St)(Hx:Hp):Prop
 | mk(y:Option V)(ls:List Addr)(h1:σ=σ0++[y])(h2:LAt W Hx rn {A with ls:=ls} {T with S:=(l.take i).foldl Rs.come T.S} .non)(h3:Tup H Hx)(h4:Hx lb=some (.lst<|l.map V.str)):zU W H rn lb A T σ0 l i σ Hx
def xz8:bY ["_law_run","_law_number","_law_row_here","_law_env","_law_word","_law_kind"] lS (bR sW):=cC
def rL(F:Fun K "_law_do_plain" "_law_do_plain" sW f fd)(U:aT P w K mg base k "_law_ups" lL IB)(ml:mg "len"=none):aR P w K mg base bP (k+1) f fd lS JS:=by
 refine F.ok xz8 (λvs H Q E h=>?_) λaf A outer s H vs Q E hr h=>?_
 .obtain⟨W,tr,rn,l,N,A,T,n,m,r,rfl,_⟩:=h;rfl
 obtain⟨W,tr,rn,l,N,A,⟨dn,S,e⟩,n,m,r,rfl,h,hW,L,hm,J,ah,ae,q⟩:=h;obtain rfl:e=none:=by cases h.le;rfl
 have u:=dU hr;exists _,aL (sL 4 xz8.nd<|eT (pv 2) aO)
  (aS (cI (PW.pt<|kA (cA eZ (pv 4) bA<|cF _)<|lR<|hV<|pX u (eT (pv 2) aO)<|bQ u (pv 0) bA λ_ _=>rfl) (aL (fF u (pv 3) (eT (pv 2) aO) (eP jE rfl ml iJ<|aA (bQ u (pv 0) bA λ_ _=>rfl) aE) rfl)<|aS<|dW<|eN eA eX eY eR (bQ u (pv 0) bA λ_ _=>rfl)<|aA (bV<|aA (eT (pv 2) aO)<|aA mI aE) aE) (aS (cI (cA eZ (pv 4) bA<|cF _) (aS<|fF u (pv 0) bA (bV<|aA bA<|aA (pv 1) aE) rfl) (aS (cI (cA eZ (pv 4) bA<|cF _) (aS<|fF u (pv 3) (eT (pv 2) aO) (iD u (pv 3) (eT (pv 2) aO) ⟨rfl,rfl,rfl,rfl⟩) rfl) (aS (cI (cA eZ (pv 4) bA<|cF _) (aS<|dW<|eN eA eX eY eR (bQ u (pv 0) bA λ_ _=>rfl)<|aA (bV<|aA bA<|aA (pv 1)<|aA (eT (pv 2) aO) aE) aE) (aS (cI (cA eZ (pv 4) bA<|cF _) (aS<|dX dO rfl (gU<|KD (bB U hr rfl<|aA (pv 0)<|aA (eT (pv 2) aO) aE)<|pA nW aO) (gL 5 xz8.nd)<|aS<|cI (hV<|YE u (pv 5)<|bQ u (pv 0) bA λ_ _=>rfl) (aL (fF u (bQ u (pv 0) bA λ_ _=>rfl) (pv 5) xP rfl)<|aS<|dW<|eN eA eX eY eR (bQ u (pv 0) bA λ_ _=>rfl)<|aA (bV<|aA bA<|aA (pv 5) aE) aE) cZ) (aS (cI (hV<|nL<|iD u (pv 3) (bQ u (EJ (gY bA (eT (pv 2) aO)<|gY bA (eT (pv 2) aO) AQ) rfl rfl (by intro z;cases z)<|by decide) (pv 4) λ_ _=>rfl) ⟨rfl,rfl,rfl,rfl⟩)
    (aS<|fF u (pv 0) bA (bV<|aA bA<|aA (pv 1) aE) rfl)
   (aS<|cI (cA eZ (pv 4) bA<|cF _) (aS<|fF u (eT (eI (bQ u (pv 0) bA λ_ _=>rfl)<|bQ u (pv 3) (eT (pv 2) aO) λ_ _=>rfl) aO) (eT (pv 2) aO) (iD u (pv 3) (eT (pv 2) aO) ⟨rfl,rfl,rfl,rfl⟩) rfl)<|aS<|fF u (pv 3) (eT (pv 2) aO) (iD u (eT (eI (bQ u (pv 0) bA λ_ _=>rfl)<|bQ u (pv 3) (eT (pv 2) aO) λ_ _=>rfl) aO) (eT (pv 2) aO) ⟨rfl,rfl,rfl,rfl⟩) rfl)))))))))))))
 ac_rfl
 have s2:2<=sizeLine:=cL (bH<|by decide);have s3:3<=sizeLine:=cL (bH<|by decide);have gK:∀{H':Hp}{M:La}{T':Ts}{ev' v:V}(key:aG),LAt W H' rn M T' ev'->aF (lF W M T' ev') key=some v->DGet H' rn (kV key) (some v):=λkey g e=>by rw[<-e];exact DGet.k g.run
 have few:∀{j:Nat}{d':List (aG×V)},A.ds[j]?=some d'->↑d'<sizeLine:=λe=>by
  have:=J.b2 _<|cW e;exact jW (by lia)
 have a9:∀{M:La}{T':Ts}{ev':V},↑(lF W M T' ev')<sizeLine:=λ{_ _ _}=>bH (by show 10<=1000;decide)
 cases r with
 | make x k=>
  exists _,rfl,l,_,_,_,rfl,rfl,SqT.of L,fX _ _;refine⟨_,rfl,rfl,_,rfl,cT ⟨_,rfl,l,_,_,_,rfl,rfl,SqT.of L,rfl,_,rfl,rn,_,rfl,gK (Sum.inr "around") h rfl,A.ar,_,rfl,DGet.k (k:=(Sum.inr k:aG)) h.ar,?_⟩⟩;exists _,rfl;rw[oN];have O:∀M ev' H',LAt W H' rn M ⟨dn,(if k∈S.hr then(((S.make k).put m x<|.int S.ts.length),none) else(S,some "absent"):Rs×Option Str).1,(if k∈S.hr then(((S.make k).put m x<|.int S.ts.length),none) else(S,some "absent"):Rs×Option Str).2.map (·,n)⟩ ev'->LB W M ⟨dn,(if k∈S.hr then(((S.make k).put m x<|.int S.ts.length),none) else(S,some "absent"):Rs×Option Str).1,(if k∈S.hr then(((S.make k).put m x<|.int S.ts.length),none) else(S,some "absent"):Rs×Option Str).2.map (·,n)⟩ 0->Tup H H'->Sub A M->Q .non H':=q
  by_cases c:k∈S.hr
  .rw[fI c];simp only[bC c]at O;obtain⟨d,d',e1,Z,B,e4,e5⟩:=h.dict hm;refine cT ⟨_,rfl,rn,_,rfl,gK (Sum.inr "things") h rfl,_,_,rfl,.inl<|SqL.of h.th,_,rfl,_,rfl,l,_,_,_,rfl,rfl,SqT.of L,rfl,N,_,rfl,DPut.k (k:=(Sum.inr x:aG)) B<|few Z,?_⟩;have ab:m<S.ds.length:=(zz2.mp e1).1;obtain⟨C,Y⟩:=h.put hm B x<|.int S.ts.length;have a0:=Y _ _ L;have el:↑(A.θ.map V.ref)=S.ts.length:=by rw[aK,<-h.li.th.len]
   rw[el];refine⟨_,rfl,rn,_,rfl,gK (Sum.inr "things") C rfl,.inl ⟨rfl,_,SqL.of C.th⟩,_,rfl,l,_,_,_,rfl,rfl,SqT.of a0,rfl,λb aa=>⟨s2,λt I=>?_⟩⟩;have g2:=C.dic (d:=[]) (d':=[]) aa λ_=>rfl;have g3:=(g2.new (o:=.tup [.str k,.ref b]) I).thg (z:=(k,S.ds.length)) zb1 (by
    show(A.δ++[b])[S.ds.length]?=some b;rw[h.li.dq.len,<-h.li.dl,jZ<|aU _,Nat.sub_self];rfl)
   have e6:(⟨dn,Rs.thg (Rs.dic (S.put m x<|.int S.ts.length) []) (k,S.ds.length),none⟩:Ts)=⟨dn,(S.make k).put m x<|.int S.ts.length,none⟩:=by rw[SY ab]
   have g4:LAt W _ rn _ ⟨dn,(S.make k).put m x<|.int S.ts.length,none⟩ _:=e6▸g3.1;have q1:=O _ _ _ g4;refine⟨_,_,_,rfl,rfl,(g2.new I).th,jW (by rw[el];have:=J.b3;lia),q1 (J.make ab Z c) (Y.trans<|(Tup.new aa).trans<|(Tup.new I).trans g3.2) λe=>xV e⟩
  .rw[gM c];simp only[aY c]at O;refine bF ⟨_,rfl,rfl,_,rfl,cT ⟨_,rfl,s2,λt I=>?_⟩⟩;have g:=h.endw I "absent" n;exact⟨_,rfl,rn,_,rfl,DPut.k (k:=(Sum.inr "end":aG)) (h.new I).run a9,O _ _ _ g.1 (J.less.ends _ _) g.2 λe=>e⟩
 | copy x y=>
  exists _,rfl,l,_,_,_,rfl,rfl,SqT.of L,fX _ _;obtain⟨d,d',e1,Z,B,e4,e5⟩:=h.dict hm;obtain⟨_,f1,X,f3⟩:=h.got J hm y;cases f1.symm.trans B;refine⟨_,rfl,rfl,_,rfl,bF<|bF ⟨_,rfl,rfl,_,rfl,bF ⟨_,rfl,rfl,_,rfl,cT ⟨_,rfl,N,rfl,.inl ⟨_,.inl B⟩,_,rfl,l,_,_,_,rfl,rfl,SqT.of L,rfl,_,DGet.k (k:=(Sum.inr y:aG)) B,_,rfl,_,rfl,l,_,_,_,rfl,rfl,SqT.of L,rfl,N,_,rfl,DPut.k (k:=(Sum.inr x:aG)) B<|few Z,?_⟩⟩⟩⟩;rw[X];have g:=h.put hm B x<|S.get m y;have q1:=q _ _ _ g.1;exact q1 (J.put Z f3) g.2 λe=>e
 | put x g y=>
  exists _,rfl,l,_,_,_,rfl,rfl,SqT.of L,fX _ _;obtain⟨d,d',e1,Z,B,e4,e5⟩:=h.dict hm;obtain⟨_,f1,X,f3⟩:=h.got J hm x;cases f1.symm.trans B;refine⟨_,rfl,rfl,_,rfl,bF<|bF ⟨_,rfl,rfl,_,rfl,bF ⟨_,rfl,rfl,_,rfl,bF ⟨_,rfl,rfl,_,rfl,bF ⟨_,rfl,rfl,_,rfl,bF ⟨_,rfl,N,rfl,.inl ⟨_,.inl B⟩,λp hp=>⟨_,rfl,l,_,_,_,rfl,rfl,SqT.of<|(Tup.new hp) _ _ L,rfl,_,rfl,l,_,_,_,rfl,rfl,SqT.of<|(Tup.new hp) _ _ L,rfl,zb1,[(Sum.inr "put",.str x),(Sum.inr "take",.str g)],rfl,(by show 2<=15;decide),_,rfl,p,_,rfl,DGet.k (k:=(Sum.inr "put":aG)) zb1,?_⟩⟩⟩⟩⟩⟩⟩;rw[fT];have h1:=h.new (o:=.dK<|cJ [] [(Sum.inr "put",.str x),(Sum.inr "take",.str g)]) hp;have a0:=(Tup.new (o:=.dK<|cJ [] [(Sum.inr "put",.str x),(Sum.inr "take",.str g)]) hp) _ _ L;have a2:upd H p (.dK<|cJ [] [(Sum.inr "put",.str x),(Sum.inr "take",.str g)]) N=some (.dK d'):=by rw[aC<|aP B hp];exact B
  have Y:Tup H (upd H p<|.dK<|cJ [] [(Sum.inr "put",.str x),(Sum.inr "take",.str g)]):=Tup.new hp;generalize upd H p (.dK<|cJ [] [(Sum.inr "put",.str x),(Sum.inr "take",.str g)])=H1 at h1 a0 a2 Y;exists _,DGet.k (k:=(Sum.inr x:aG)) a2;rw[X];have O:∀M ev' H',LAt W H' rn M ⟨dn,(S.thing (S.get m x) λj=>(S.put (S.dict j) g<|S.get m y,none)).1,(S.thing (S.get m x) λj=>(S.put (S.dict j) g<|S.get m y,none)).2.map (·,n)⟩ ev'->LB W M ⟨dn,(S.thing (S.get m x) λj=>(S.put (S.dict j) g<|S.get m y,none)).1,(S.thing (S.get m x) λj=>(S.put (S.dict j) g<|S.get m y,none)).2.map (·,n)⟩ 0->Tup H H'->Sub A M->Q .non H':=q;rcases f3 with e | ⟨j,e,hj⟩
  .rw[e]at O ⊢;refine⟨_,rfl,cT ⟨_,rfl,s2,λt I=>?_⟩⟩;have C:=h1.endw I "nothing" n;exact⟨_,rfl,rn,_,rfl,DPut.k (k:=(Sum.inr "end":aG)) (h1.new I).run a9,O _ _ _ C.1 (J.less.ends _ _) (Y.trans C.2) λe=>e⟩
  .have ev:aF d' (Sum.inr x)=some (.int j):=by
    cases z:aF d' (Sum.inr x)with
    | none=>rw[z]at X;rw[<-X]at e;cases e
    | some v=>rw[z]at X;rw[<-X]at e;exact cK some e
   rw[e]at O ⊢;obtain⟨t,a,e6,e7,e8⟩:=h1.thing hj;obtain⟨b,b',c1,c2,c3,c4,c5⟩:=h1.dict e8;have a4:eE (A.θ.map V.ref) (j:Int)=some (.ref t):=lQ (by rw[bN,e6];rfl);have a8:DGet H1 N (.str x) (some<|.int j):=by rw[<-ev];exact DGet.k (k:=(Sum.inr x:aG)) a2
   obtain⟨_,y1,y2,y3⟩:=h1.got J hm y;cases y1.symm.trans a2;refine⟨_,rfl,bF ⟨_,rfl,rfl,_,rfl,cT ⟨_,rfl,N,rfl,.inl ⟨_,.inl a2⟩,_,rfl,l,_,_,_,rfl,rfl,SqT.of a0,rfl,_,DGet.k (k:=(Sum.inr y:aG)) a2,_,rfl,rn,_,rfl,gK (Sum.inr "things") h1 rfl,_,rfl,_,rfl,l,_,_,_,rfl,rfl,SqT.of a0,rfl,N,_,rfl,a8,A.th,_,_,_,rfl,rfl,SqL.of h1.th,a4,t,_,_,_,rfl,rfl,SqT.of e7,rfl,_,rfl,l,_,_,_,rfl,rfl,SqT.of a0,rfl,a,_,rfl,DPut.k (k:=(Sum.inr g:aG)) c3<|few c2,?_⟩⟩⟩;rw[y2];have C:=h1.put e8 c3 g<|S.get m y;have q1:=O _ _ _ C.1;exact q1 (J.put c2 y3) (Y.trans C.2) λe=>e
 | take x y g=>
  exists _,rfl,l,_,_,_,rfl,rfl,SqT.of L,fX _ _;obtain⟨d,d',e1,Z,B,e4,e5⟩:=h.dict hm;obtain⟨_,f1,X,f3⟩:=h.got J hm y;cases f1.symm.trans B;refine⟨_,rfl,rfl,_,rfl,bF<|bF ⟨_,rfl,rfl,_,rfl,bF ⟨_,rfl,rfl,_,rfl,bF ⟨_,rfl,rfl,_,rfl,bF ⟨_,rfl,rfl,_,rfl,bF ⟨_,rfl,N,rfl,.inl ⟨_,.inl B⟩,λp hp=>⟨_,rfl,l,_,_,_,rfl,rfl,SqT.of<|(Tup.new hp) _ _ L,rfl,_,rfl,l,_,_,_,rfl,rfl,SqT.of<|(Tup.new hp) _ _ L,rfl,zb1,[(Sum.inr "put",.str x),(Sum.inr "take",.str y)],rfl,(by show 2<=15;decide),_,rfl,p,_,rfl,DGet.k (k:=(Sum.inr "take":aG)) zb1,?_⟩⟩⟩⟩⟩⟩⟩;rw[fT];have h1:=h.new (o:=.dK<|cJ [] [(Sum.inr "put",.str x),(Sum.inr "take",.str y)]) hp;have a0:=(Tup.new (o:=.dK<|cJ [] [(Sum.inr "put",.str x),(Sum.inr "take",.str y)]) hp) _ _ L;have a2:upd H p (.dK<|cJ [] [(Sum.inr "put",.str x),(Sum.inr "take",.str y)]) N=some (.dK d'):=by rw[aC<|aP B hp];exact B
  have Y:Tup H (upd H p<|.dK<|cJ [] [(Sum.inr "put",.str x),(Sum.inr "take",.str y)]):=Tup.new hp;generalize upd H p (.dK<|cJ [] [(Sum.inr "put",.str x),(Sum.inr "take",.str y)])=H1 at h1 a0 a2 Y;exists _,DGet.k (k:=(Sum.inr y:aG)) a2;rw[X];have O:∀M ev' H',LAt W H' rn M ⟨dn,(S.thing (S.get m y) λj=>(S.put m x<|S.get (S.dict j) g,none)).1,(S.thing (S.get m y) λj=>(S.put m x<|S.get (S.dict j) g,none)).2.map (·,n)⟩ ev'->LB W M ⟨dn,(S.thing (S.get m y) λj=>(S.put m x<|S.get (S.dict j) g,none)).1,(S.thing (S.get m y) λj=>(S.put m x<|S.get (S.dict j) g,none)).2.map (·,n)⟩ 0->Tup H H'->Sub A M->Q .non H':=q;rcases f3 with e | ⟨j,e,hj⟩
  .rw[e]at O ⊢;refine⟨_,rfl,cT ⟨_,rfl,s2,λt I=>?_⟩⟩;have C:=h1.endw I "nothing" n;exact⟨_,rfl,rn,_,rfl,DPut.k (k:=(Sum.inr "end":aG)) (h1.new I).run a9,O _ _ _ C.1 (J.less.ends _ _) (Y.trans C.2) λe=>e⟩
  .have ev:aF d' (Sum.inr y)=some (.int j):=by
    cases z:aF d' (Sum.inr y)with
    | none=>rw[z]at X;rw[<-X]at e;cases e
    | some v=>rw[z]at X;rw[<-X]at e;exact cK some e
   rw[e]at O ⊢;obtain⟨t,a,e6,e7,e8⟩:=h1.thing hj;obtain⟨b,b',c1,c2,c3,c4,c5⟩:=h1.dict e8;have a4:eE (A.θ.map V.ref) (j:Int)=some (.ref t):=lQ (by rw[bN,e6];rfl);have a8:DGet H1 N (.str y) (some<|.int j):=by rw[<-ev];exact DGet.k (k:=(Sum.inr y:aG)) a2
   obtain⟨_,y1,y2,y3⟩:=h1.got J e8 g;cases y1.symm.trans c3;refine⟨_,rfl,bF ⟨_,rfl,rfl,_,rfl,bF ⟨_,rfl,rn,_,rfl,gK (Sum.inr "things") h1 rfl,_,rfl,_,rfl,l,_,_,_,rfl,rfl,SqT.of a0,rfl,N,_,rfl,a8,A.th,_,_,_,rfl,rfl,SqL.of h1.th,a4,t,_,_,_,rfl,rfl,SqT.of e7,rfl,a,rfl,.inl ⟨_,.inl c3⟩,_,rfl,l,_,_,_,rfl,rfl,SqT.of a0,rfl,_,DGet.k (k:=(Sum.inr g:aG)) c3,_,rfl,_,rfl,l,_,_,_,rfl,rfl,SqT.of a0,rfl,N,_,rfl,DPut.k (k:=(Sum.inr x:aG)) a2<|few Z,?_⟩⟩⟩;rw[y2];have C:=h1.put hm a2 x<|S.get (S.dict j) g;have q1:=O _ _ _ C.1;exact q1 (J.put Z y3) (Y.trans C.2) λe=>e
 | say v=>
  exists _,rfl,l,_,_,_,rfl,rfl,SqT.of L,fX _ _;refine⟨_,rfl,rfl,_,rfl,bF<|bF ⟨_,rfl,rfl,_,rfl,bF ⟨_,rfl,rfl,_,rfl,bF ⟨_,rfl,rfl,_,rfl,cT ⟨_,rfl,rn,_,rfl,gK (Sum.inr "log") h rfl,.inl ⟨rfl,_,SqL.of h.lo⟩,_,rfl,_,rfl,l,_,_,_,rfl,rfl,SqT.of L,rfl,s3,λt I=>?_⟩⟩⟩⟩⟩;have h1:=h.new (o:=.tup [.str "say",.int n,.str v]) I;have g:=h1.say zb1;have q1:=q _ _ _ g.1;exact⟨_,_,_,rfl,rfl,h1.lo,jW (by rw[aK,<-h.li.lg.len];have:=J.b1;lia),q1 (J.say _ _) ((Tup.new I).trans g.2) λe=>e⟩
 | bring k=>
  exists _,rfl,l,_,_,_,rfl,rfl,SqT.of L,fX _ _;have hk:=ae k rfl;refine⟨_,rfl,rfl,_,rfl,bF<|bF ⟨_,rfl,rfl,_,rfl,bF ⟨_,rfl,rfl,_,rfl,bF ⟨_,rfl,rfl,_,rfl,bF ⟨_,rfl,rfl,_,rfl,cT ⟨_,rfl,_,rfl,l,_,_,_,rfl,rfl,SqT.of L,rfl,rn,W.up,_,tr,k,W.G.ln k,rfl,h.run,rfl,h.lm.kp _ _ hW.up,hW.ok,hW.l12,hW.ln k hk,λla a7=>⟨_,rfl,rfl,la,_,rfl,SqL.of zb1,λlb a5=>?_⟩⟩⟩⟩⟩⟩⟩;rw[<-List.map_reverse];have nl:A.lo≠lb:=aP (h.new a7).lo a5;have h1:=(h.new (o:=.lst<|(W.G.ln k).map V.str) a7).new (o:=.lst<|(W.G.ln k).reverse.map V.str) a5;have a6:upd (upd H la<|.lst<|(W.G.ln k).map V.str) lb (.lst<|(W.G.ln k).reverse.map V.str) lb=some (.lst<|(W.G.ln k).reverse.map V.str):=zb1;have Y:Tup H (upd (upd H la<|.lst<|(W.G.ln k).map V.str) lb<|.lst<|(W.G.ln k).reverse.map V.str):=(Tup.new a7).trans<|Tup.new a5;generalize upd (upd H la<|.lst<|(W.G.ln k).map V.str) lb (.lst<|(W.G.ln k).reverse.map V.str)=H1 at h1 a6 Y;exists lb,rfl,⟨_,SqL.of a6⟩;refine nH (xs:=(W.G.ln k).reverse.map V.str) (zU W H1 rn lb A ⟨dn,S,none⟩ [some<|.ref rn,some<|.int n,some<|.ref l,some<|.ref N,some<|.str "bring"] (W.G.ln k).reverse) ⟨_,A.ls,rfl,h1,λ_ _ h=>h,a6⟩ ?_ ?_ ?_
  .rintro i σ Hx hi ⟨_,_,_,_,_,hx⟩;exact SqL.of hx
  .rintro i x σ Hx hx ⟨y,ls,rfl,gx,tx,a3⟩;obtain⟨hi,_⟩:=zz2.mp hx;rw[aK]at hi;rw[bN,bD hi]at hx;cases hx;have Z:(W.G.ln k).reverse.take (i+1)=(W.G.ln k).reverse.take i++[(W.G.ln k).reverse[i]]:=BR hi;have ac:↑((W.G.ln k).reverse.take i)<=12:=by
    have:=hW.l2 k;rw[eK,kN];lia
   obtain⟨c1,c2,_,_,_,_⟩:=zH ((W.G.ln k).reverse.take i) S;have aa:=J.b1;have ag:=J.b4;generalize (W.G.ln k).reverse[i]=x at Z;exists _,rfl,_,rfl,rn,_,rfl,gK (Sum.inr "around") gx rfl,A.ar,_,rfl,DGet.k (k:=(Sum.inr x:aG)) gx.ar,_,rfl;show if (!(aF (fC (((W.G.ln k).reverse.take i).foldl Rs.come S).hr)<|Sum.inr x).isSome)=true then _ else _
   rw[oN];have B:((W.G.ln k).reverse.take<|i+1).foldl Rs.come S=(((W.G.ln k).reverse.take i).foldl Rs.come S).come x:=by rw[Z,CS];rfl
   generalize ((W.G.ln k).reverse.take i).foldl Rs.come S=Si at gx B c1 c2
   by_cases c:x∈Si.hr
   .rw[fI c];refine bF ⟨_,ls,rfl,?_,tx,a3⟩;rw[B,show Si.come x=Si from bC c];exact gx
   .rw[gM c];obtain⟨C,t2⟩:=gx.her c;refine cT ⟨_,rfl,rn,_,rfl,gK (Sum.inr "around") gx rfl,_,rfl,A.ar,_,rfl,DPut.k (k:=(Sum.inr x:aG)) gx.ar<|jW (by unfold fC;rw[aK];show Si.hr.length<=_;lia),?_⟩;refine⟨_,rfl,rn,_,rfl,gK (Sum.inr "log") C rfl,.inl ⟨rfl,_,SqL.of C.lo⟩,_,rfl,s2,λt I=>?_⟩;have g2:=(C.new (o:=.tup [.str "came",.str x]) I).say zb1;have ad:lb≠A.ar:=λz=>by rw[z,gx.ar]at a3;cases a3
    exists _,_,_,rfl,rfl,(C.new I).lo,jW (by show(ls.map V.ref).length<=_;rw[aK,<-gx.li.lg.len];show Si.lg.length<=_;lia),_,ls++[t],rfl,?_,tx.trans<|t2.trans<|(Tup.new I).trans g2.2
    .rw[B,show Si.come x=(Si.her x).say [.str "came",.str x] from aY c];exact g2.1
    .have k1:∀o,upd Hx A.ar o lb=some (.lst<|(W.G.ln k).reverse.map V.str):=λo=>by rw[aC ad];exact a3
     rw[aC<|bL nl,aC<|aP (k1 _) I];exact k1 _
  .rintro σ Hx ⟨y,ls,rfl,gx,tx,a3⟩;rw[aK,List.take_length]at gx;have q1:=q _ _ _ gx;exact q1 (J.come (by rw[kN];exact hW.l2 k) (λx hx=>hW.nm k x<|List.mem_reverse.mp hx) _) (Y.trans tx) λe=>e
abbrev qY:Stmt:=top 75
abbrev lA:List Str:=["_law_run","_law_rows_here","_law_env"]
structure LR(W:Lw)(H:Hp)(rn:Addr)(A A':La)(T:Ts)(ev:V)(H':Hp):Prop where
 a:LAt W H' rn A' T ev
 b:LB W A' T 0
 d:T.dn<=W.mo
 t:Tup H H'
 s:Sub A A'
abbrev dL(W:Lw)(m:Nat)(l:LL)(T:Ts):Ts:=iF W.G W.mo m l T
inductive mY(vs:List V)(H:Hp)(Q:VK):Prop
 | mk(W:Lw)(tr:Tr)(rn rl na:Addr)(A:La)(T:Ts)(m:Nat)(l:LL)(es:List Addr)(ev:V)(h1:vs=[.ref rn,.ref rl,.ref na])(h2:LR W H rn A A T ev H)(h3:zT W tr)(h4:W.H0 rl=some (.lst<|es.map V.ref))(h5:EnT W.G.nm W.H0 l es)(h7:A.δ[m]?=some na)(h8:W.mo<=2000)
  (q:∀A' ev' H',LR W H rn A A' (dL W m l T) ev' H'->Q .non H'):mY vs H Q
def JQ:Sp:=λvs H Q _=>mY vs H Q
inductive BE(W:Lw)(H:Hp)(rn rl na:Addr)(A:La)(m:Nat)(es:List Addr)(Tf:Ts)(i:Nat)(σ:St)(Hx:Hp):Prop
 | mk(A':La)(T:Ts)(ev:V)(l:LL)(y1 y2 y3 y4 y5:Option V)(h1:σ=[some<|.ref rn,some<|.ref rl,some<|.ref na,y1,y2,y3,y4,y5])(h2:LR W H rn A A' T ev Hx)(h3:EnT W.G.nm W.H0 l (es.drop i))(h5:dL W m l T=Tf):BE W H rn rl na A m es Tf i σ Hx
def rG{T:Ts}(h:T.e=none)(c:¬mo<=T.dn):T.row mo n f=f {T with dn:=T.dn+1}:=by unfold Ts.row;rw[h];exact aY c
def ZL{T:Ts}(h:T.e=none)(c:mo<=T.dn):T.row mo n f=T.ends "long" n:=by unfold Ts.row;rw[h];exact bC c
def xn4:bY ["_law_run","_law_rows_here","_law_env","_law_number","_law_row_here","_law_lots","_law_chosen","_law_turn"] lA (bR qY):=cC
def sA{k:Nat}(F:Fun K "_law_do" "_law_do" qY f fd)(PL:aT P w K mg base k "_law_do_plain" lS JS):aR P w K mg base bP (k+1) f fd lA JQ:=by
 refine F.ok xn4 (λvs H Q E h=>?_) λab A outer s H vs Q E hr h=>?_
 .obtain⟨W,tr,rn,rl,na,A,T,m,l,es,ev,rfl,_⟩:=h;rfl
 obtain⟨W,tr,rn,rl,na,A,T,m,l,es,ev,rfl,h,hW,a2,a5,hm,aa,q⟩:=h;have J:=dU hr;exists _,aS<|dX dO rfl (gU<|pv 1) (eC (n:=3) rfl<|bJ (gL 3 xn4.nd)<|bJ (gL 4 xn4.nd)<|bJ (gL 5 xn4.nd) dY)<|aL (cI (hV<|rP<|bQ J (pv 0) bA λ_ _=>rfl) (aS RU) cZ)<|aL (cI (cA zJ (bQ J (pv 0) bA λ_ _=>rfl) aO<|cF _) (aL (fF J (pv 0) bA (bV<|aA bA<|aA (pv 3) aE) rfl)<|aS RU) cZ)<|aL (fF J (pv 0) bA (bX kO (bQ J (pv 0) bA λ_ _=>rfl) aO) rfl)<|aS<|cI (cA eZ (eT (pv 4) aO) bA<|cF _) ES<|aS<|cI (PW.pt<|JY (cA eZ (eT (pv 4) aO) bA<|cF _)<|II<|cA eZ (eT (pv 4) aO) bA<|cF _) ES<|aS<|dW<|bB PL hr rfl<|aA (pv 0)<|aA (pv 3)<|aA (pv 4)<|aA (pv 2) aE
 ac_rfl
 have s2:2<=sizeLine:=cL (bH<|by decide);have N:∀{H':Hp}{B:La}{O:Ts}{ev' v:V}(u:aG),LAt W H' rn B O ev'->aF (lF W B O ev') u=some v->DGet H' rn (kV u) (some v):=λu g e=>by rw[<-e];exact DGet.k g.run
 have a3:∀{B:La}{O:Ts}{ev':V},↑(lF W B O ev')<sizeLine:=λ{_ _ _}=>bH (by show 10<=1000;decide)
 exists _,rfl,rl,rfl,⟨_,SqL.of<|h.a.lm.kp _ _ a2⟩;refine nH (xs:=es.map V.ref) (BE W H rn rl na A m es<|dL W m l T) ⟨A,T,ev,l,_,_,_,_,_,rfl,h,by rw[sG];exact a5,rfl⟩ ?_ ?_ ?_
 .rintro i σ Hx hi ⟨_,_,_,_,_,_,_,_,_,_,hx,_⟩;exact SqL.of<|hx.a.lm.kp _ _ a2
 .rintro i x σ Hx hx ⟨C,j,a6,l1,y1,y2,y3,y4,y5,rfl,h1,I,o⟩;rw[bN]at hx;obtain⟨e,he,rfl⟩:=wp4.mp hx;obtain⟨hi,he⟩:=zz2.mp he;rw[tN hi,he]at I;have kp:=h1.a.lm.kp;cases I with
  | @op nu a _ p r t _ g1 g2 hbr hs'=>
  have a4:=g2;obtain⟨rest,er⟩:=r.hd;rw[er]at g2;exists e,_,rfl,SqT.of<|kp _ _ g1,rfl,_,_,rfl,_,_,rfl,_,_,rfl,rfl;have a8:=o;rw[show dL W m (.op nu a r t) j=iF W.G W.mo m t (j.row W.mo nu<|Ts.plain W.G nu m r) from rfl]at o;have Z:=h1.a.le;cases hTe:j.e with
  | some z=>
   rw[MG hTe,zX _ _ hTe]at o;rw[hTe]at Z;cases Z with
   | «end» _=>
    refine⟨_,rfl,rn,_,rfl,N (Sum.inr "end") h1.a rfl,_,rfl,cT ?_⟩;exact q _ _ _<|o▸h1
  | none=>
   rw[hTe]at Z;cases Z;refine⟨_,rfl,rn,_,rfl,N (Sum.inr "end") h1.a rfl,_,rfl,bF ?_⟩;exists _,rfl,rn,_,rfl,N (Sum.inr "left") h1.a rfl,_,_,rfl,rfl,_,rfl;refine bG (λc=>?_) λc=>?_
   .have c:W.mo<=j.dn:=by have:=cN c;lia
    refine⟨_,rfl,s2,λt' Y=>⟨_,rfl,rn,_,rfl,DPut.k (k:=(Sum.inr "end":aG)) (h1.a.new Y).run a3,?_⟩⟩;obtain⟨L,M⟩:=h1.a.endw Y "long" nu;rw[ZL hTe c,zX (z:=("long",nu)) _ _ rfl]at o;exact q C _ _ (by rw[<-o];exact⟨L,h1.b.ends _ _,h1.d,h1.t.trans M,h1.s⟩)
   .have c:¬W.mo<=j.dn:=λz=>c (fI<|by lia)
    exists _,rfl,rn,_,rfl,N (Sum.inr "left") h1.a rfl,_,_,rfl,rfl,_,rfl,rn,_,rfl,DPut.k (k:=(Sum.inr "left":aG)) h1.a.run a3;have e1:aN (lF W C j .non) (Sum.inr "left") (.int<|(W.mo:Int)-(j.dn:Int)-1)=lF W C {j with dn:=j.dn+1} .non:=by
     rw[show(W.mo:Int)-(j.dn:Int)-1=(W.mo:Int)-((j.dn+1:Nat):Int) by lia];rfl
    rw[e1];obtain⟨L,M⟩:=h1.a.num (ev':=.non) {j with dn:=j.dn+1} rfl h1.a.le;have a7:=h1.b.row;generalize upd Hx rn (.dK<|lF W C {j with dn:=j.dn+1} .non)=H2 at L M;have X:=L.lm.kp;have hw:r.wd≠"call"/\r.wd≠"either"/\r.wd≠"again":=by cases r <;> (simp only[Rw.wd];rfl')
    refine⟨_,rfl,a,_,_,_,rfl,rfl,SqT.of<|X _ _ g2,fX _ _,rfl,_,rfl,bG (λz=>absurd (V.str.inj<|cN z) hw.1) λ_=>?_⟩;refine⟨_,rfl,a,_,_,_,rfl,rfl,SqT.of<|X _ _ g2,fX _ _,rfl,_,rfl,bG (λz=>absurd (V.str.inj<|cN z) hw.2.1) λ_=>⟨_,rfl,a,_,_,_,rfl,rfl,SqT.of<|X _ _ g2,fX _ _,rfl,_,rfl,bG (λz=>absurd (V.str.inj<|cN z) hw.2.2) λ_=>?_⟩⟩;refine⟨_,rfl,_,rfl,_,rfl,_,rfl,W,tr,rn,a,na,C,_,nu,m,r,rfl,L,hW,X _ _ a4,h1.s hm,a7,by show j.dn+1<=10000;lia,hbr,λB ev' H' ha a9 Y hs=>?_⟩;exists B,_,ev',t,_,_,_,_,_,rfl,⟨ha,a9,by show j.dn+1<=W.mo;lia,(h1.t.trans M).trans Y,λe=>hs<|h1.s e⟩,hs';rw[<-a8];exact cK _ (rG hTe c).symm
 .rintro σ Hx ⟨C,j,a6,l1,y1,y2,y3,y4,y5,rfl,h1,I,o⟩;rw[aK,wC]at I;cases I;have o:j=dL W m l T:=o;exact q _ _ _<|o▸h1
abbrev uA:Stmt:=top 70
abbrev iR:List Str:=["_law_rows_here","_law_count"]
inductive oP(vs:List V)(H:Hp)(Q:VK):Prop
 | mk(Z:Str->Option Str->Prop)(nm:List Str)(rl ct:Addr)(k k':Nat)(rs:List Addr)(L:LL)(h1:vs=[.ref rl,.ref ct])(h2:H rl=some (.tup<|rs.map V.ref))(h3:Ly Z H k rs L k')(h4:H ct=some (.lst [.int k]))(h6:∀k,Z k none->k∈nm)(h7:k'<=1000000)
  (q:∀(l:Addr)(es:List Addr)(H':Hp),FrS [ct] H H'->H' ct=some (.lst [.int k'])->H l=none->H' l=some (.lst<|es.map V.ref)->EnT nm H' L es->Q (.ref l) H'):oP vs H Q
def vX:Sp:=λvs H Q _=>oP vs H Q
inductive OY(Z:Str->Option Str->Prop)(nm:List Str)(H:Hp)(rl ct fo:Addr)(rs:List Addr)(L:LL)(k' i:Nat)(σ:St)(Hx:Hp):Prop
 | mk(y1 y2 y3:Option V)(k:Nat)(es:List Addr)(L1 L2:LL)(h1:σ=[some<|.ref rl,some<|.ref ct,some<|.ref fo,y1,y2,y3])(h2:FrS [ct] H Hx)(h3:Hx ct=some (.lst [.int k]))(h4:Hx fo=some (.lst<|es.map V.ref))(h5:↑es=i)(h6:L=L1.app L2)(h7:Ly Z Hx k (rs.drop i) L2 k')(h8:EnT nm Hx L1 es):OY Z nm H rl ct fo rs L k' i σ Hx
def xc7:bY ["_law_rows_here","_law_count","_law_found","_law_row_here","_law_number","_law_lots"] iR (bR uA):=cC
def rW{k:Nat}(F:Fun K "_law_marked" "_law_marked" uA f fd)(MK:aT P w K mg base k "_law_marked" iR (λ_ _ _ _=>False)):aR P w K mg base bP (k+1) f fd iR vX:=by
 refine F.ok xc7 (λvs H Q E h=>?_) λay A outer s H vs Q E hr h=>?_
 .obtain⟨Z,nm,rl,ct,k,k',rs,L,rfl,_⟩:=h;rfl
 obtain⟨Z,nm,rl,ct,k0,k',rs,L,rfl,ak,hL,a5,hn,ax,q⟩:=h;have hu:=dU hr;have ar:(["_law_lot","_law_count"]:List Str).Nodup:=by rfl'
 exists _,aL (sL 2 xc7.nd<|cG aE)
  (aL (dX dO rfl (fU<|pv 0) (gL 3 xc7.nd) (aL (sL 4 xc7.nd<|eI (pv 1) aO) (aL (iM (bX iX (eI (pv 1) aO) aO)<|uT (pv 1) aO sC) (aL (sL 5 xc7.nd<|QN hu (EJ (gY bA (kE FN (pv 3) (jX aO) kH)<|gY bA (kE FN (pv 3) (jX aO) kH) AQ) rfl rfl (by intro z;cases z)<|by decide) (eT (pv 3) aO) (bV aE) ⟨rfl,rfl,rfl,rfl⟩)
   (aS<|dW<|eN eA eX eY eR (pv 2)<|aA (bV<|aA (pv 4)<|aA (pv 3)<|aA (iO (N':=["_law_lot","_law_count"]) (src:=[none,some 1]) rfl eW (fU<|pv 5) (g:=bW 0) (λ_ _ _ _=>gL 0 ar) (λ_ _ _ _=>gP) (te:=fN (λ_ _ _ _=>False) [] E0<|aZ (aJ 0)<|aZ (aJ 1) aW) λ_ _ _ _=>bB MK hr rfl<|aA (pv 0)<|aA (pv 1) aE) aE) aE)))))
  (aS<|bT<|pv 2))
 ac_rfl
 have s3:3<=sizeLine:=cL (bH<|by decide);refine⟨bM _,λfo C=>?_⟩;have ad:ct≠fo:=aP a5 C;have am:Tup H (upd H fo<|.lst []):=Tup.new C;exists _,rfl,rl,rfl,⟨_,SqT.of<|am _ _ ak⟩;refine jC (xs:=rs.map V.ref) (OY Z nm H rl ct fo rs L k') ⟨_,_,_,k0,[],.nil,L,rfl,FrS.new C,by rw[aC ad];exact a5,zb1,rfl,rfl,by rw[sG];exact hL.keep am,.nil⟩ ?_ ?_ ?_
 .rintro i σ b hi ⟨_,_,_,_,_,_,_,_,fr,_⟩;exact SqT.of<|fr.tup1 a5 _ _ ak
 .rintro i x σ b N ⟨y1,y2,y3,k,es,L1,L2,rfl,fr,u,a9,X,rfl,l,a8⟩;rw[bN,wp4]at N;obtain⟨a,ha,rfl⟩:=N;obtain⟨hi,rfl⟩:=zz2.mp ha;rw[tN hi]at l;generalize rs[i]=a at l;have av:=hL.len;cases l with
  | @op _ _ _ r _ Lr h1 hbr h9=>
  obtain⟨rest,er⟩:=r.hd;have as:=h1;rw[er]at h1;exists _,rfl,ct,_,_,_,rfl,rfl,SqL.of u,rfl;exists _,rfl,ct,_,_,_,rfl,rfl,SqL.of u,rfl,_,_,rfl,rfl,_,rfl,ct,_,0,0,rfl,rfl,u,rfl;have ae:FrS [ct] H (upd b ct<|.lst [.int ((k+1:Nat):Int)]):=fr.put'<|.head _;have aj:upd b ct (.lst [.int ((k+1:Nat):Int)]) ct=some (.lst [.int ((k+1:Nat):Int)]):=zb1;have T:Tup b (upd b ct<|.lst [.int ((k+1:Nat):Int)]):=Tup.lst u;have W:upd b ct (.lst [.int ((k+1:Nat):Int)]) fo=some (.lst<|es.map V.ref):=by rw[aC<|bL ad];exact a9
  have ag:∀{G:Hp->Prop},G (upd b ct<|.lst [.int ((k+1:Nat):Int)])->G (upd b ct<|.lst<|[V.int k].set 0<|V.int<|(k:Int)+1):=λh=>h;refine ag ?_;clear ag;generalize upd b ct (.lst [.int ((k+1:Nat):Int)])=n at ae aj T W;have ap:=T _ _ h1;intro p hp;have cond:¬(HT.sIx ↑(V.str r.wd::rest) 0 (some 1)=0/\HT.sIx ↑(V.str r.wd::rest) ↑(V.str r.wd::rest) none=↑(V.str r.wd::rest)):=by
   intro z;have:=z.1;unfold HT.sIx at this;simp at this
  have ah:=(Tup.new (o:=.dK []) hp) _ _ ap;refine⟨_,rfl,_,rfl,a,_,rfl,SqT.of ah,cond,λj M=>?_⟩;rw[sS];have au:=(Tup.new (o:=.tup rest) M) _ _ ah;refine⟨_,rfl,_,rfl,a,_,rfl,SqT.of au,cond,λd ao=>?_⟩;rw[sS];have aw:upd (upd (upd n p<|.dK []) j<|.tup rest) d (.tup rest) p=some (.dK []):=by rw[aC<|aP (by rw[aC<|aP zb1 M];exact zb1) ao,aC<|aP zb1 M];exact zb1
  refine⟨aw,[(Sum.inr "either",.ref j),(Sum.inr "again",.ref d)],rfl,by show 2<=15;decide,?_⟩;have f5:FrS [] n (upd (upd (upd (upd n p<|.dK []) j<|.tup rest) d<|.tup rest) p<|.dK<|cJ [] [(Sum.inr "either",.ref j),(Sum.inr "again",.ref d)]):=(((FrS.new hp).trans<|FrS.new M).trans<|FrS.new ao).put hp;have ab:upd (upd (upd (upd n p<|.dK []) j<|.tup rest) d<|.tup rest) p (.dK<|cJ [] [(Sum.inr "either",.ref j),(Sum.inr "again",.ref d)]) p=some (.dK [(Sum.inr "either",.ref j),(Sum.inr "again",.ref d)]):=zb1;generalize upd (upd (upd (upd n p<|.dK []) j<|.tup rest) d<|.tup rest) p (.dK<|cJ [] [(Sum.inr "either",.ref j),(Sum.inr "again",.ref d)])=Y at f5 ab;refine⟨p,rfl,.inl ⟨_,.inl ab⟩,_,rfl,a,_,_,_,rfl,rfl,SqT.of<|f5 _ _ aX ap,fX _ _,bM _,λm ai=>⟨_,DGet.k (k:=(Sum.inr r.wd:aG))<|(FrS.new (S:=[]) ai) _ _ aX ab,?_⟩⟩;have f6:FrS [] n (upd Y m<|.tup []):=f5.trans<|FrS.new ai;have aq:(aF [((Sum.inr "either":aG),V.ref j),(Sum.inr "again",.ref d)]<|Sum.inr r.wd).getD (.ref m)=.ref m:=by
   unfold aF;rw[List.find?_cons_of_neg (by simpa using λz=>r.noh<|.inl z.symm),List.find?_cons_of_neg<|by simpa using λz=>r.noh<|.inr z.symm];rfl
  rw[aq];have O:upd Y m (.tup []) m=some (.tup []):=zb1;generalize upd Y m (.tup [])=H6 at f6 O;refine⟨_,rfl,.inl ⟨rfl,_,SqL.of<|f6 _ _ aX W⟩,_,rfl,_,rfl,_,rfl,m,rfl,⟨_,SqT.of O⟩,λB af=>?_⟩;have f7:=f6.trans<|FrS.new (o:=.lst []) af;have al:=(Tup.new (o:=.lst []) af) _ _ O;generalize upd H6 B (.lst [])=H7 at f7 al;refine vK (xs:=[]) (λ_ _ J=>J=H7) rfl (λi σ J _ e=>by rw[e];exact SqT.of al) (λi x σ J N=>nomatch N) ?_;intro σ J e;obtain rfl:=e.symm;refine⟨s3,λe he=>?_⟩;have I:=f7.trans<|FrS.new (o:=.tup [.int k,.ref a,.ref B]) he;have h8:upd H7 e (.tup [.int k,.ref a,.ref B]) e=some (.tup [.int k,.ref a,.ref B]):=zb1;generalize upd H7 e (.tup [.int k,.ref a,.ref B])=H8 at I h8;have an:=I _ _ aX W;have tl:Tup H8 (upd H8 fo<|.lst<|es.map V.ref++[.ref e]):=Tup.lst an;have aa:=(T.trans<|Tup.of0 I).trans tl;exists fo,_,_,rfl,rfl,an,EG (by rw[aK];lia);exact⟨_,_,_,k+1,es++[e],L1.app<|.op k a r .nil,Lr,rfl,(ae.trans<|I.mono λ_ h=>absurd h aX).put C,by rw[aC ad];exact I _ _ aX aj,by rw[zb1,bO];rfl,by rw[bI,X];rfl,(QG (.op k a r .nil) Lr L1).symm,h9.keep aa,(a8.keep aa).app<|.op (tl _ _ h8) (aa _ _ as) (λx e=>hn x<|hbr x e) .nil⟩
 .rintro σ b ⟨y1,y2,y3,k,es,L1,L2,rfl,fr,u,a9,X,rfl,l,a8⟩;rw[aK]at X l;rw[wC]at l;cases l;rw[MB]at q;exact⟨_,rfl,q fo es b fr u C a9 a8⟩
abbrev cM:Stmt:=top 71
abbrev kM:List aG:=[Sum.inr "",Sum.inr ""]
inductive TxAt(nm:List Str)(H Hx:Hp)(tx ct:Addr)(L0:LL)(c:Nat):Prop
 | mk(kvs:List (List aG×V))(e rl:Addr)(v1 v2:V)(es:List Addr)(h1:Hx tx=some (.dT kvs))(h2:aF kvs kM=some (.ref e))(h3:Hx e=some (.tup [v1,.ref rl,v2]))(h4:Hx rl=some (.lst<|es.map V.ref))(h5:H rl=none/\rl≠ct/\rl≠tx)(h6:EnT nm Hx L0 es)(h7:↑kvs<=c):TxAt nm H Hx tx ct L0 c
theorem TxAt.keep(h:TxAt nm H Hx tx ct L0 c)(t:Tup Hx Hy)(f:FrS [ct] Hx Hy)(l:tx≠ct):TxAt nm H Hy tx ct L0 c:=by
 obtain⟨kvs,e,j,d,o,es,h1,h2,m,n,a,b,i⟩:=h;exact⟨kvs,e,j,d,o,es,f _ _ (by simpa using l) h1,h2,t _ _ m,f _ _ (by simpa using a.2.1) n,a,b.keep t,i⟩
def TxAt.step{n d:Str}{pv gv:V}{kvs:List (List aG×V)}(h:TxAt nm H Hx tx ct L0 c)(A:FrS [] H Hx)(h0:H ct=none)(K:H tx=none)(w:Hx ct=some (.lst [.int k]))(f:Hx tx=some (.dT kvs))(q:FrS [ct] Hx H1)(J:H1 ct=some (.lst [.int k1]))(hl:Hx l=none)(I:H1 l=some (.lst<|es.map V.ref))(E:EnT nm H1 L es)
  (he:H1 e=none) (a:upd H1 e (.tup [pv,.ref l,gv]) b=none):
  TxAt nm H (upd (upd (upd H1 e<|.tup [pv,.ref l,gv]) b<|.tup [.str n,.str d]) tx<|.dT<|aN kvs [Sum.inr n,Sum.inr d]<|.ref e) tx ct (if ((n,d):Pr)=(("":Str),("":Str)) then L else L0) (c+1)/\FrS [] H (upd (upd (upd H1 e<|.tup [pv,.ref l,gv]) b<|.tup [.str n,.str d]) tx<|.dT<|aN kvs [Sum.inr n,Sum.inr d]<|.ref e)/\upd (upd (upd H1 e<|.tup [pv,.ref l,gv]) b<|.tup [.str n,.str d]) tx (.dT<|aN kvs [Sum.inr n,Sum.inr d]<|.ref e) ct=some (.lst [.int k1])/\Tup Hx (upd (upd (upd H1 e<|.tup [pv,.ref l,gv]) b<|.tup [.str n,.str d]) tx<|.dT<|aN kvs [Sum.inr n,Sum.inr d]<|.ref e):=by
 have C:tx≠ct:=λz=>by rw[z,w]at f;cases f
 have m:=q _ _ (by simpa using C) f;have B:upd (upd H1 e<|.tup [pv,.ref l,gv]) b (.tup [.str n,.str d]) tx=some (.dT kvs):=by rw[aC<|aP (by rw[aC<|aP m he];exact m) a,aC<|aP m he];exact m
 have s:Tup Hx H1:=q.tup1 w;have j:Tup H1 (upd (upd (upd H1 e<|.tup [pv,.ref l,gv]) b<|.tup [.str n,.str d]) tx<|.dT<|aN kvs [Sum.inr n,Sum.inr d]<|.ref e):=((Tup.new he).trans<|Tup.new a).trans<|Tup.chg B λxs z=>nomatch z;have i:FrS [tx] H1 (upd (upd (upd H1 e<|.tup [pv,.ref l,gv]) b<|.tup [.str n,.str d]) tx<|.dT<|aN kvs [Sum.inr n,Sum.inr d]<|.ref e):=((FrS.new he).trans<|FrS.new a).trans<|FrS.chg<|.head _;have x:upd (upd (upd H1 e<|.tup [pv,.ref l,gv]) b<|.tup [.str n,.str d]) tx (.dT<|aN kvs [Sum.inr n,Sum.inr d]<|.ref e) e=some (.tup [pv,.ref l,gv]):=(Tup.chg B λxs z=>nomatch z) _ _<|(Tup.new a) _ _ zb1;have u:upd (upd (upd H1 e<|.tup [pv,.ref l,gv]) b<|.tup [.str n,.str d]) tx (.dT<|aN kvs [Sum.inr n,Sum.inr d]<|.ref e) tx=some (.dT<|aN kvs [Sum.inr n,Sum.inr d]<|.ref e):=zb1;generalize upd (upd (upd H1 e<|.tup [pv,.ref l,gv]) b<|.tup [.str n,.str d]) tx (.dT<|aN kvs [Sum.inr n,Sum.inr d]<|.ref e)=H4 at j i x u;obtain⟨a5,Y,X,O,Z,N,G,T,P,M,r,W,g7⟩:=h;cases G.symm.trans f;have old:∀b,Hx b=none->(H b=none/\b≠ct/\b≠tx)/\b∉[tx]:=λb a=>⟨⟨uH A a,bL<|aP w a,bL<|aP f a⟩,by simpa using bL (aP f a)⟩
 refine⟨?_,λb o _ e=>i _ _ (by simpa using aP e K)<|q _ _ (by simpa using aP e h0)<|A _ _ aX e,i _ _ (by simpa using bL C) J,s.trans j⟩;have a6:=jV kvs [Sum.inr n,Sum.inr d]<|V.ref e
 by_cases c:((n,d):Pr)=(("":Str),("":Str))
 .rw[bC c];injection c with c1 c2;subst c1 c2;exact⟨_,e,l,pv,gv,es,u,by rw[jF,bC rfl],x,i _ _ (old l hl).2 I,(old l hl).1,E.keep j,by lia⟩
 .rw[aY c];refine⟨_,Y,X,O,Z,N,u,?_,j _ _<|s _ _ P,i _ _ (by simpa using r.2.2)<|q _ _ (by simpa using r.2.1) M,r,(W.keep s).keep j,by lia⟩
  .rw[jF,aY]
   .exact T
   .intro z;injection z with z1 z2;injection z2 with z2 _;exact c (by rw[<-iY z1,<-iY z2])
def XF(q:Pr)(a:LL)(z:Pr×LL):LL:=if z.1=q then z.2 else a
def BM(L0:LL)(zs:List Bz)(Ls:List LL):LL:=((zs.map (·.1)).zip Ls).foldl (XF (("":Str),("":Str))) L0
inductive nR(vs:List V)(H:Hp)(Q:VK):Prop
 | mk(Z:Str->Option Str->Prop)(p ch:Addr)(ks:List (Str×List Dz))(m0:Dz)(tr:Tr)(late:List Str)(Ls:List LL)(k' mo:Nat)(G:Pg)(h1:vs=[.ref p,.ref ch,.int mo])(h2:ProgIs Z H p ks m0)(h3:KindsAt H p tr)(h4:LateAt H p tr late)(h5:TrOk tr)(h6:↑tr<=12)(h7:LyB Z H 0 (dG ks m0) Ls k')(h8:k'<=1000000)(h9:H ch=some (.tup<|G.ch.map V.int))(h11:∀k,Z k none->k∈G.nm)(h12:G.bo "" ""=BM .nil (dG ks m0) Ls)
  (q:∀(rn rl e:Addr)(W:Lw)(A:La)(kvs:List (List aG×V))(v1 v2:V)(es:List Addr)(H':Hp),FrS [] H H'->FrS [] H W.H0->W.G=G->W.mo=mo->A.δ=[]->A.ds=[]->LAt W H' rn A ⟨0,⟨[],[],[],[],0,0,0,hr0 tr late⟩,none⟩ .non->W.H0 W.up=some (.dK<|cH tr)->W.H0 W.tx=some (.dT kvs)->aF kvs kM=some (.ref e)->W.H0 e=some (.tup [v1,.ref rl,v2])->W.H0 rl=some (.lst<|es.map V.ref)->EnT G.nm W.H0 (G.bo "" "") es->Q (.ref rn) H'):nR vs H Q
def ID:Sp:=λvs H Q _=>nR vs H Q
abbrev gR:List Str:=["_law_program_here","_law_choices","_law_most"]
abbrev jM:List Str:=["_law_program_here","_law_choices","_law_most","_law_count","_law_texts","_law_name","_law_elder","_law_deeds","_law_deed_here","_law_params","_law_rows_here","_law_gives","_law_around","_law_up"]
def zv3:bY jM gR (bR cM):=cC
def jN:List Stmt->Expr
 | _::.Assign _ v _::_=>v
 | _=>.Constant .none 0 ⟨0,0,0,0⟩
def Ag(x:Str)(p:Pos)(n:Nat)(env:Env):swapsWith (jN<|dP cM) (some<|.Name x p) n env=pure false:=rfl
structure DZ(X:Cx)(e:Expr)(t:TE):Prop where
 of:PE X e t
def IM:List Stmt->Expr->List Stmt
 | s::.Assign a _ p::r,v=>s::.Assign a v p::r
 | l,_=>l
def FK:dP cM=FG (IM (dP cM)<|jN<|dP cM) (nK<|dP cM):=rfl
abbrev oD(K:Fq):List (TE×TE):=[(tC<|.str "texts",aJ 4),(tC<|.str "up",aJ 13),(tC<|.str "around",aJ 12),(tC<|.str "choices",kJ (λxs H Q=>∃p ys,xs=[.ref p]/\(SqL K H p ys\/SqT K H p ys)/\∀l,H l=none->Q (.ref l) (upd H l<|.lst ys))<|aZ (aJ 1) aW),(tC<|.str "left",aJ 2),(tC<|.str "log",jU aW),(tC<|.str "looks",tC<|.int 0),(tC<|.str "end",tC .non),(tC<|.str "things",jU aW),(tC<|.str "calls",tC<|.int 0)]
def XX{b:Value}{A:Around}{outer:List Env}{s:Shared}{H:Hp}{E:XK}(a:mg "list"=none):DZ (eU bP P w K mg base jM "_law_new_run" (bR cM) f b A outer s H E).nox (nK<|dP cM) (CJ<|oD K):=by
 constructor
 refine EJ (gY bA (pv 4) ?_) rfl rfl (by intro z;cases z) (by decide);refine gY bA (pv 13) ?_;refine gY bA (pv 12) ?_;refine gY bA (dV YY rfl a (by rfl')<|aA (pv 1) aE) ?_;refine gY bA (pv 2) ?_;refine gY bA (cG aE) ?_;refine gY bA aO ?_;refine gY bA iH ?_;refine gY bA (cG aE) ?_;exact gY bA aO AQ
def pE{k:Nat}{a:Value}{A:Around}{outer:List Env}{s:Shared}{H:Hp}{E:XK}(d:aT P w K mg base k "_law_marked" iR vX)(hr:Room k (A.deeper<|PyProof.Rows.envOfC "_law_new_run" (bR cM) s⁻¹ f a))(b:(A.deeper<|PyProof.Rows.envOfC "_law_new_run" (bR cM) s⁻¹ f a).units+1<cLine):DZ (eU bP P w K mg base jM "_law_new_run" (bR cM) f a A outer s H E).nox (jN<|dP cM) (HH (dB<|aZ (tC<|.str "")<|aZ (tC<|.str "") aW)<|dB<|aZ (dB aW)<|aZ (fN vX [] E0<|aZ (dC (dI K) (aJ 0)<|tC<|.int 2)<|aZ (aJ 3) aW)<|aZ (tC .non) aW):=by
 constructor
 refine VG (mS b) ?_ ?_
 .exact bV<|kK<|kK aE
 .refine bV<|aA (bV aE) ?_;refine aA (bB d hr rfl<|aA (eT (pv 0) aO)<|aA (pv 3) aE) ?_;exact aA iH aE
inductive PD(Z:Str->Option Str->Prop)(nm:List Str)(H:Hp)(p ch:Addr)(mo:Nat)(ct tx:Addr)(ks:List (Str×List Dz))(k':Nat)(Lf:LL)(i:Nat)(σ:St)(Hx:Hp):Prop
 | mk(y1 y2 y3 y4 y5 y6 y7:Option V)(k:Nat)(L0:LL)(Lr:List LL)(h1:σ=[some<|.ref p,some<|.ref ch,some<|.int mo,some<|.ref ct,some<|.ref tx,y1,y2,y3,y4,y5,y6,y7,none,none])(h2:FrS [] H Hx)(h3:Hx ct=some (.lst [.int k]))(h4:TxAt nm H Hx tx ct L0 (1+80*i))(h5:LyB Z Hx k ((ks.drop i).flatMap gQ) Lr k')(h6:BM L0 ((ks.drop i).flatMap gQ) Lr=Lf):PD Z nm H p ch mo ct tx ks k' Lf i σ Hx
inductive OH(Z:Str->Option Str->Prop)(nm:List Str)(H:Hp)(p ch:Addr)(mo:Nat)(ct tx dt:Addr)(v:V)(y:Str×List Dz)(zs:List Bz)(k' c:Nat)(Lf:LL)(j:Nat)(σ:St)(Hx:Hp):Prop
 | mk(y4 y5 y6 y7:Option V)(k:Nat)(L0:LL)(Lr:List LL)(h1:σ=[some<|.ref p,some<|.ref ch,some<|.int mo,some<|.ref ct,some<|.ref tx,some<|.str y.1,some v,some<|.ref dt,y4,y5,y6,y7,none,none])(h2:FrS [] H Hx)(h3:Hx ct=some (.lst [.int k]))(h4:TxAt nm H Hx tx ct L0 (c+j))(h5:LyB Z Hx k (((y.2.drop j).map λz=>((y.1,z.1),z))++zs) Lr k')(h6:BM L0 (((y.2.drop j).map λz=>((y.1,z.1),z))++zs) Lr=Lf):OH Z nm H p ch mo ct tx dt v y zs k' c Lf j σ Hx
inductive RQ(Hx:Hp)(p Dl:Addr)(tr:Tr)(late:List Str)(i:Nat)(σ:St)(Hy:Hp):Prop
 | mk(y:Option V)(ts:List Addr)(h1:σ=[y,some<|.ref p])(h2:FrS [] Hx Hy)(h3:Hy Dl=some (.lst<|ts.map V.ref))(h4:A2 (λt k=>Hy t=some (.tup [.str k,.bl true])) ts (hr0 (tr.take i) late)):RQ Hx p Dl tr late i σ Hy
inductive QM(Hx:Hp)(Dl:Addr)(tr:Tr)(i:Nat)(σ:St)(Hy:Hp):Prop
 | mk(y:Option V)(ts:List Addr)(h1:σ=[y])(h2:FrS [] Hx Hy)(h3:Hy Dl=some (.lst<|ts.map V.ref))(h4:A2 (λt (z:Str×Option Str)=>Hy t=some (.tup [.str z.1,aV z.2])) ts (tr.take i)):QM Hx Dl tr i σ Hy
def uJ{k:Nat}(F:Fun K "_law_new_run" "_law_new_run" cM f fd)(MK:aT P w K mg base k "_law_marked" iR vX)(bj:mg "dict"=none)(ca:mg "list"=none):aR P w K mg base bP (k+1) f fd gR ID:=by
 refine F.ok zv3 (λvs H Q E h=>?_) λc3 A outer s H vs Q E hr h=>?_
 .obtain⟨Z,p,ch,ks,m0,tr,m,Ls,k',mo,G,rfl,_⟩:=h;rfl
 obtain⟨Z,p,ch,ks,m0,tr,m,Ls,k',mo,G,rfl,hP,hK,c9,ok,cp,hB,co,c8,hn,c5,q⟩:=h;have hu:=dU hr;have cc:(["_law_row_here","_law_program_here"]:List Str).Nodup:=by rfl'
 have cd:(["_law_row_here"]:List Str).Nodup:=by rfl'
 have hO:DZ (eU bP P w K mg base jM "_law_new_run" (bR cM) f c3 A outer s H E).nox (nK<|dP cM) (CJ<|oD K):=XX ca;have hT:DZ (eU bP P w K mg base jM "_law_new_run" (bR cM) f c3 A outer s H E).nox (jN<|dP cM) (HH (dB<|aZ (tC<|.str "")<|aZ (tC<|.str "") aW)<|dB<|aZ (dB aW)<|aZ (fN vX [] E0<|aZ (dC (dI K) (aJ 0)<|tC<|.int 2)<|aZ (aJ 3) aW)<|aZ (tC .non) aW):=pE MK hr hu;have bz:=Ag;rw[FK];generalize nK (dP cM)=Lx at hO;generalize jN (dP cM)=Lt at hT bz;exists _,aL (sL 3 zv3.nd<|cG<|dE aE)
  (aL (gZ (i:=4) zv3.nd rfl (eM rfl) hT.of<|bz _ _ _ _) (aL (dX dO rfl (fU<|eT (pv 0) aO) (eC (n:=3) rfl<|bJ (gL 5 zv3.nd)<|bJ (gL 6 zv3.nd)<|bJ (gL 7 zv3.nd) dY)<|aS<|dX dO rfl (fU<|pv 7) (eC (n:=4) rfl<|bJ (gL 8 zv3.nd)<|bJ (gL 9 zv3.nd)<|bJ (gL 10 zv3.nd)<|bJ (gL 11 zv3.nd) dY)<|aS<|fF hu (pv 4) (bV<|aA (pv 5)<|aA (pv 8) aE) (bV<|aA (pv 9)<|aA (bB MK hr rfl<|aA (pv 10)<|aA (pv 3) aE)<|aA (pv 11) aE) rfl) (aL (sL 12 zv3.nd (dV (AY rfl) rfl bj (by rfl') (aA (iO (N':=["_law_row_here","_law_program_here"]) (src:=[none,some 0]) rfl eW (fU<|eT (pv 0) aO) (g:=bW 0) (λ_ _ _ _=>gL 0 cc)
   (tt:=hY<|dC (gW K true) (dC (dI K) (aJ 0)<|tC<|.int 0)<|dC (dI K) (aJ 1)<|tC<|.int 1) (λ_ _ _ _=>pN<|cA (show cX _ _ (gW K true) from vU) (kP (show kT _ (dI K) from uG) (pv 0) aO λ_ _=>rfl) (kP (show kT _ (dI K) from uG) (pv 1) aO λ_ _=>rfl) rfl)
   (te:=dB<|aZ (dC (dI K) (aJ 0)<|tC<|.int 0)<|aZ (tC<|.bl true) aW) (λ_ _ _ _=>bV<|aA (kP (show kT _ (dI K) from uG) (pv 0) aO λ_ _=>rfl)<|aA xP aE)) aE)))
  (aL (sL 13 zv3.nd (dV (AY rfl) rfl bj (by rfl') (aA (iO (N':=["_law_row_here"]) (src:=[none]) rfl eW (fU<|eT (pv 0) aO) (g:=bW 0) (λ_ _ _ _=>gL 0 cd) (λ_ _ _ _=>gP)
   (te:=dB<|aZ (dC (dI K) (aJ 0)<|tC<|.int 0)<|aZ (dC (dI K) (aJ 0)<|tC<|.int 1) aW) (λ_ _ _ _=>bV<|aA (kP (show kT _ (dI K) from uG) (pv 0) aO λ_ _=>rfl)<|aA (kP (show kT _ (dI K) from uG) (pv 0) aO λ_ _=>rfl) aE)) aE)))
  (aS<|bT hO.of)))))
 ac_rfl
 have s1:1<=sizeLine:=cL (bH<|by decide);have s2:2<=sizeLine:=cL (bH<|by decide);have s3:3<=sizeLine:=cL (bH<|by decide);obtain⟨kt,us,lt,p1,p2,p3,p4,p5,p6⟩:=id hP;refine⟨s1,λct ap=>?_⟩;have f0:FrS [] H (upd H ct<|.lst [.int 0]):=FrS.new ap;have c0:upd H ct (.lst [.int 0]) ct=some (.lst [.int ((0:Nat):Int)]):=zb1;generalize upd H ct (.lst [.int 0])=H0 at f0 c0;intro tx ba;have aj:H tx=none:=uH f0 ba;refine⟨s2,λb hb=>⟨bM _,λI au=>?_⟩⟩;have f1:FrS [] H (upd (upd (upd H0 tx<|.dT []) b<|.tup [.str "",.str ""]) I<|.tup []):=((f0.trans<|FrS.new ba).trans<|FrS.new hb).trans<|FrS.new au;have ak:upd (upd (upd H0 tx<|.dT []) b<|.tup [.str "",.str ""]) I (.tup []) tx=some (.dT []):=by rw[aC<|aP (by rw[aC<|aP zb1 hb];exact zb1) au,aC<|aP zb1 hb];exact zb1
 have br:upd (upd (upd H0 tx<|.dT []) b<|.tup [.str "",.str ""]) I (.tup []) b=some (.tup [.str "",.str ""]):=(Tup.new au) _ _ zb1;have am:upd (upd (upd H0 tx<|.dT []) b<|.tup [.str "",.str ""]) I (.tup []) ct=some (.lst [.int ((0:Nat):Int)]):=(((FrS.new (S:=[]) ba).trans<|FrS.new hb).trans<|FrS.new au) _ _ aX c0;have az:Tup H (upd (upd (upd H0 tx<|.dT []) b<|.tup [.str "",.str ""]) I<|.tup []):=Tup.of0 f1;generalize upd (upd (upd H0 tx<|.dT []) b<|.tup [.str "",.str ""]) I (.tup [])=H1 at f1 ak br am az;have ao:tx≠ct:=λz=>by rw[z,am]at ak;cases ak
 cases hB with
 | @cons _ k1 _ _ _ L Lr hm sm zm tm=>
  have cs:=tm.le;refine⟨_,rfl,p,_,_,_,rfl,rfl,SqT.of<|az _ _ p1,rfl,_,rfl,Z,G.nm,m0.2.1,ct,0,k1,m0.2.2.1,L,rfl,az _ _ hm,sm.keep az,am,hn,by lia,λl es H2 f2 cm hl bd hE=>⟨s3,λe he=>?_⟩⟩;have aq:=f2 _ _ (by simpa using ao) ak;have t12:=f2.tup1 am;exists b,kM,rfl,by rw[aC<|aP aq he];exact aq,(Tup.new he) _ _<|t12 _ _ br;have bk:upd H2 e (.tup [.ref I,.ref l,.non]) tx=some (.dT []):=by rw[aC<|aP aq he];exact aq
  have f3:FrS [] H (upd (upd H2 e<|.tup [.ref I,.ref l,.non]) tx<|.dT [(kM,.ref e)]):=λb o _ z=>by
   rw[aC<|aP z aj,aC<|aP (f2 _ _ (by simpa using aP z ap)<|f1 _ _ aX z) he];exact f2 _ _ (by simpa using aP z ap)<|f1 _ _ aX z
  have nB:∀b,H1 b=none->H b=none/\b≠ct/\b≠tx:=λb hb=>⟨uH f1 hb,bL<|aP am hb,bL<|aP ak hb⟩;have bh:FrS [tx] H2 (upd (upd H2 e<|.tup [.ref I,.ref l,.non]) tx<|.dT [(kM,.ref e)]):=(FrS.new he).trans<|FrS.chg<|.head _;have bx:Tup H2 (upd (upd H2 e<|.tup [.ref I,.ref l,.non]) tx<|.dT [(kM,.ref e)]):=(Tup.new he).trans<|Tup.chg bk λxs z=>nomatch z;have TX:TxAt G.nm H (upd (upd H2 e<|.tup [.ref I,.ref l,.non]) tx<|.dT [(kM,.ref e)]) tx ct L 1:=⟨_,e,l,_,_,es,zb1,rfl,(Tup.chg bk λxs z=>nomatch z) _ _ zb1,bh _ _ (by simpa using (nB l hl).2.2) bd,nB l hl,hE.keep bx,aU _⟩;have bp:=bh _ _ (by simpa using bL ao) cm;have b4:=Tup.of0 f3;generalize upd (upd H2 e<|.tup [.ref I,.ref l,.non]) tx (.dT [(kM,.ref e)])=H3 at f3 bh bx TX bp b4;have be:BM L (ks.flatMap gQ) Lr=G.bo "" "":=c5.symm;exists _,rfl,p,_,_,_,rfl,rfl,SqT.of<|b4 _ _ p1,rfl,kt,rfl,⟨_,SqT.of<|b4 _ _ p2⟩;refine jC (xs:=us.map V.ref) (PD Z G.nm H p ch mo ct tx ks k'<|G.bo "" "") ⟨_,_,_,_,_,_,_,k1,L,Lr,rfl,f3,bp,TX,by rw[sG];exact tm.keep b4,by rw[sG];exact be⟩ ?_ ?_ ?_
  .rintro i σ Hx hi ⟨_,_,_,_,_,_,_,_,_,_,_,fr,_⟩;exact SqT.of<|(Tup.of0 fr) _ _ p2
  .rintro i x σ Hx M ⟨y1,y2,y3,y4,y5,y6,y7,kx,L0,bv,rfl,fr,bt,av,ag,a6⟩;rw[bN,wp4]at M;obtain⟨u,a7,rfl⟩:=M;have hi:i<↑ks:=by rw[<-p3];exact(zz2.mp a7).1
   obtain⟨ev,dt,fs,q1,q2,q3,q4,q5⟩:=p4 i u ks[i] a7<|bD hi;have ai:=Tup.of0 fr;rw[tN hi,List.flatMap_cons]at ag a6;generalize ks[i]=y at q1 q3 q4 ag a6;exists u,_,rfl,SqT.of<|ai _ _ q1,rfl,_,_,rfl,_,_,rfl,_,_,rfl,rfl;exists _,rfl,dt,rfl,⟨_,SqT.of<|ai _ _ q2⟩;refine jC (xs:=fs.map V.ref) (OH Z G.nm H p ch mo ct tx dt ev y ((ks.drop<|i+1).flatMap gQ) k' (1+80*i)<|G.bo "" "") ⟨_,_,_,_,kx,L0,bv,rfl,fr,bt,av,by rw[sG];exact ag,by rw[sG];exact a6⟩ ?_ ?_ ?_
   .rintro j σ X J ⟨_,_,_,_,_,_,_,_,B,_⟩;exact SqT.of<|(Tup.of0 B) _ _ q2
   .rintro j x σ X M ⟨z4,z5,z6,z7,ky,M0,Mr,rfl,B,as,al,ad,ab⟩;rw[bN,wp4]at M;obtain⟨g,hg,rfl⟩:=M;have J:j<↑y.2:=by rw[<-q3];exact(zz2.mp hg).1
    obtain⟨pv,gv,g1,g2,g3⟩:=q4 j g y.2[j] hg<|bD J;rw[tN J,fH,List.cons_append]at ad ab;generalize y.2[j]=z at g1 g2 g3 ad ab;cases ad with
    | @cons _ k2 _ _ _ L2' Lr2 hm2 sm2 zm2 tm2=>
     have af:=Tup.of0 B;have cr:=tm2.le;obtain⟨kv,ee,rl,v1,v2,bu,x1,x2,x3,x4,x5,x6,x7⟩:=id al;exists g,_,rfl,SqT.of<|af _ _ g1,rfl,_,_,rfl,_,_,rfl,_,_,rfl,_,_,rfl,rfl;refine⟨_,rfl,_,rfl,_,rfl,Z,G.nm,z.2.1,ct,ky,k2,z.2.2.1,L2',rfl,hm2,sm2,as,hn,by lia,λl2 cq Hz Y cn bd bc c7=>⟨_,rfl,s3,λe2 bf=>⟨_,rfl,_,rfl,_,rfl,s2,λb2 c4=>?_⟩⟩⟩;obtain⟨r1,r2,r3,r4⟩:=al.step (n:=y.1) (d:=z.1) (pv:=pv) (gv:=gv) B ap aj as x1 Y cn bd bc c7 bf c4;have bb:tx≠ct:=ao;have ax:=Y _ _ (by simpa using bb) x1;have b7:upd (upd Hz e2<|.tup [pv,.ref l2,gv]) b2 (.tup [.str y.1,.str z.1]) tx=some (.dT kv):=by rw[aC<|aP (by rw[aC<|aP ax bf];exact ax) c4,aC<|aP ax bf];exact ax
     exists tx,_,rfl,DPut.t (k:=[Sum.inr y.1,Sum.inr z.1]) b7 zb1 (jW<|by lia);exact⟨_,_,_,_,k2,_,Lr2,rfl,r2,r3,r1,tm2.keep r4,ab⟩
   .rintro σ X ⟨z4,z5,z6,z7,ky,M0,Mr,rfl,B,as,al,ad,ab⟩;rw[aK]at al ad ab;rw[q3,wC,List.map_nil,vT]at ad ab;obtain⟨kv,ee,rl,v1,v2,bu,x1,x2,x3,x4,x5,x6,x7⟩:=al;exact⟨_,_,_,_,_,_,_,ky,M0,Mr,rfl,B,as,⟨kv,ee,rl,v1,v2,bu,x1,x2,x3,x4,x5,x6,by lia⟩,ad,ab⟩
  .rintro σ Hx ⟨y1,y2,y3,y4,y5,y6,y7,kx,L0,bv,rfl,fr,bt,av,ag,a6⟩;rw[aK,p3,wC]at ag a6;rw[aK]at av;cases ag;have a6:L0=G.bo "" "":=a6;subst a6;obtain⟨cv,ts,vx,vy,d1,d2,d3,d4⟩:=id hK;rw[p1]at d1;cases d1;rw[p2]at d2;have ck:us=ts:=wB<|HO.tup.inj<|gJ d2;subst ck;obtain⟨cu,c6,vm,l1,l2,l3,l4,l5⟩:=id c9;rw[p1]at l1;cases l1;have ai:=Tup.of0 fr;refine⟨_,rfl,p,_,_,_,rfl,rfl,SqT.of<|ai _ _ p1,rfl,kt,rfl,⟨_,SqT.of<|ai _ _ p2⟩,λDl bi=>?_⟩;refine vK (xs:=us.map V.ref) (RQ Hx p Dl tr m) ⟨_,[],rfl,FrS.new bi,zb1,.nil⟩ ?_ ?_ ?_
   .rintro j σ X J ⟨_,_,_,B,_⟩;exact SqT.of<|(Tup.of0<|fr.trans B) _ _ p2
   .rintro j x σ X M ⟨y,tz,rfl,B,an,a8⟩;rw[bN,wp4]at M;obtain⟨u,a7,rfl⟩:=M;have J:j<↑tr:=by rw[<-d3];exact(zz2.mp a7).1
    obtain⟨vz,hz⟩:=d4 j u tr[j] a7<|bD J;have af:=Tup.of0<|fr.trans B;have et:hr0 (tr.take<|j+1) m=hr0 (tr.take j) m++(if tr[j].1∈m then [] else [tr[j].1]):=by
     unfold hr0;rw[BR J,bO,List.filter_append]
     congr 1
     by_cases c:tr[j].1∈m
     .rw[bC c];simp[c]
     .rw[aY c];simp[c]
    exists _,rfl,u,_,_,_,rfl,rfl,SqT.of<|af _ _ hz,fX _ _,_,rfl,p,_,_,_,rfl,rfl,SqT.of<|af _ _ p1,rfl,c6,_,rfl,.inr<|SqT.of<|af _ _ l2,rfl,iS _,_,rfl;show if (!iE (.str tr[j].1) (m.map V.str))=true then _ else _
    rw[jT]
    by_cases c:tr[j].1∈m
    .rw[fI c];exact bF ⟨_,tz,rfl,B,an,by rw[et,bC c,gA];exact a8⟩
    .rw[gM c];refine cT ⟨_,rfl,u,_,_,_,rfl,rfl,SqT.of<|af _ _ hz,fX _ _,s2,λt W=>?_⟩;have aa:upd X t (.tup [.str tr[j].1,.bl true]) Dl=some (.lst<|tz.map V.ref):=by rw[aC<|aP an W];exact an
     have bc:↑tz<=12:=by
      rw[a8.len];unfold hr0;have:=pM (λx=>decide<|x∉m)<|(tr.take j).map (·.1);rw[aK,eK]at this;lia
     refine⟨_,aa,bH (by rw[aK];lia),_,tz++[t],rfl,(B.trans<|FrS.new W).put bi,by rw[zb1,bO];rfl,?_⟩;rw[et,aY c];exact(a8.imp λa b h=>(Tup.lst aa) _ _<|(Tup.new W) _ _ h).snoc<|(Tup.lst aa) _ _ zb1
   .rintro σ X ⟨y,tz,rfl,B,an,a8⟩;rw[aK,d3,List.take_length]at a8;have bc:↑tz<=12:=by
     rw[a8.len];unfold hr0;have:=pM (λx=>decide<|x∉m)<|tr.map (·.1);rw[aK]at this;lia
    have bm:↑(fC<|hr0 tr m)=↑tz:=by unfold fC;rw[aK,a8.len]
    refine⟨Dl,tz,fC<|hr0 tr m,rfl,SqL.of an,bm.symm,by rw[bm];exact bH (by lia),λj t kv W ac=>?_,λar ay=>?_⟩
    .obtain⟨k0,e1,e2⟩:=a8.get W;unfold fC at ac;rw[bN,e1]at ac;cases ac;exact SqT.of e2
    have b9:cJ [] (fC<|hr0 tr m)=fC (hr0 tr m):=by
     rw[GG _ [] (by
      rw[vT];unfold fC;rw[kX];exact List.pairwise_map.mpr<|(ok.nd.filter _).imp λcj z=>cj<|iY z),vT]
    rw[b9];have fa:FrS [] H (upd X ar<|.dK<|fC<|hr0 tr m):=(fr.trans B).trans<|FrS.new ay;have bg:upd X ar (.dK<|fC<|hr0 tr m) ar=some (.dK<|fC<|hr0 tr m):=zb1;have b6:H ar=none:=uH (fr.trans B) ay;have bq:TxAt G.nm H (upd X ar<|.dK<|fC<|hr0 tr m) tx ct (G.bo "" "") (1+80*↑us):=av.keep ((Tup.of0 B).trans<|Tup.new ay) ((B.trans<|FrS.new ay).mono λ_ h=>absurd h aX) ao;generalize upd X ar (.dK<|fC<|hr0 tr m)=Ha at fa bg bq;have ta:=Tup.of0 fa;refine⟨_,rfl,p,_,_,_,rfl,rfl,SqT.of<|ta _ _ p1,rfl,kt,rfl,⟨_,SqT.of<|ta _ _ p2⟩,λDu bs=>?_⟩;refine vK (xs:=us.map V.ref) (QM Ha Du tr) ⟨_,[],rfl,FrS.new bs,zb1,.nil⟩ ?_ ?_ ?_
    .rintro j σ Hz J ⟨_,_,_,Y,_⟩;exact SqT.of<|(Tup.of0<|fa.trans Y) _ _ p2
    .rintro j x σ Hz M ⟨y',tw,rfl,Y,b3,a9⟩;rw[bN,wp4]at M;obtain⟨u,a7,rfl⟩:=M;have J:j<↑tr:=by rw[<-d3];exact(zz2.mp a7).1
     obtain⟨vz,hz⟩:=d4 j u tr[j] a7<|bD J;have bw:=Tup.of0<|fa.trans Y;refine⟨_,rfl,u,_,_,_,rfl,rfl,SqT.of<|bw _ _ hz,fX _ _,_,rfl,u,_,_,_,rfl,rfl,SqT.of<|bw _ _ hz,rfl,s2,λt W=>?_⟩;have aa:upd Hz t (.tup [.str tr[j].1,aV tr[j].2]) Du=some (.lst<|tw.map V.ref):=by rw[aC<|aP b3 W];exact b3
     refine⟨_,aa,bH (by rw[aK,a9.len,eK];lia),_,tw++[t],rfl,(Y.trans<|FrS.new W).put bs,by rw[zb1,bO];rfl,?_⟩;rw[BR J];exact(a9.imp λa b h=>(Tup.lst aa) _ _<|(Tup.new W) _ _ h).snoc<|(Tup.lst aa) _ _ zb1
    .rintro σ Hz ⟨y',tw,rfl,Y,b3,a9⟩;rw[aK,d3,List.take_length]at a9;have ah:↑(cH tr)=↑tw:=by unfold cH;rw[aK,a9.len]
     refine⟨Du,tw,cH tr,rfl,SqL.of b3,ah.symm,by rw[ah,a9.len];exact bH (by lia),λj t kv W ac=>?_,λup bn=>?_⟩
     .obtain⟨k0,e1,e2⟩:=a9.get W;unfold cH at ac;rw[bN,e1]at ac;cases ac;exact SqT.of e2
     rw[NT ok];have fu:FrS [] Ha (upd Hz up<|.dK<|cH tr):=Y.trans<|FrS.new bn;have c1:upd Hz up (.dK<|cH tr) up=some (.dK<|cH tr):=zb1;generalize upd Hz up (.dK<|cH tr)=r at fu c1;have cb:=bq.keep (Tup.of0 fu) (fu.mono λ_ h=>absurd h aX) ao;have a0:=fu _ _ aX bg;have tu:=Tup.of0<|fa.trans fu;intro rn b5;have k1:∀{b:Addr}{o:HO},r b=some o->upd r rn (.dK []) b=some o:=λe=>by rw[aC<|aP e b5];exact e
     refine⟨_,rfl,_,rfl,_,rfl,_,rfl,ch,_,rfl,.inr<|SqT.of<|k1<|tu _ _ c8,λC a5=>⟨_,rfl,bM _,λlo T=>⟨bM _,λth b8=>?_⟩⟩⟩;have k2:∀{b:Addr}{o:HO},r b=some o->upd (upd r rn<|.dK []) C (.lst<|G.ch.map V.int) b=some o:=λe=>by rw[aC<|aP (k1 e) a5];exact k1 e
     have k3:∀{b:Addr}{o:HO},r b=some o->upd (upd (upd r rn<|.dK []) C<|.lst<|G.ch.map V.int) lo (.lst []) b=some o:=λe=>by rw[aC<|aP (k2 e) T];exact k2 e
     have r1:upd (upd r rn<|.dK []) C (.lst<|G.ch.map V.int) rn=some (.dK []):=by rw[aC<|aP zb1 a5];exact zb1
     have r2:upd (upd (upd r rn<|.dK []) C<|.lst<|G.ch.map V.int) lo (.lst []) rn=some (.dK []):=by rw[aC<|aP r1 T];exact r1
     have c2:upd (upd (upd r rn<|.dK []) C<|.lst<|G.ch.map V.int) lo (.lst []) C=some (.lst<|G.ch.map V.int):=by rw[aC<|aP zb1 T];exact zb1
     have aw:upd (upd (upd r rn<|.dK []) C<|.lst<|G.ch.map V.int) lo (.lst []) lo=some (.lst []):=zb1;have cf:lo≠C:=λz=>by rw[z,zb1]at T;cases T
     generalize upd (upd (upd r rn<|.dK []) C<|.lst<|G.ch.map V.int) lo (.lst [])=H5 at b8 k3 r2 c2 aw;have n1:∀{b:Addr}{o:HO},H5 b=some o->b≠th:=λe=>aP e b8;have n2:∀{b:Addr}{o:HO},r b=some o->b≠rn:=λe=>aP e b5;refine⟨by rw[aC<|n1 r2];exact r2,[(Sum.inr "texts",.ref tx),(Sum.inr "up",.ref up),(Sum.inr "around",.ref ar),(Sum.inr "choices",.ref C),(Sum.inr "left",.int mo),(Sum.inr "log",.ref lo),(Sum.inr "looks",.int 0),(Sum.inr "end",.non),(Sum.inr "things",.ref th),(Sum.inr "calls",.int 0)],rfl,by show 10<=15;decide,?_⟩;obtain⟨kv,e',ci,v1,v2,cg,x1,x2,x3,x4,x5,x6,x7⟩:=cb;have nz:∀{b:Addr}{o:HO},r b=some o->b≠ar->(if b=ar then none else r b)=some o:=λe n=>by rw[aY n];exact e
     have b0:∀{b:Addr}{o:HO},r b=some o->(∀kv,o≠.dK kv)->b≠ar:=λe n z=>by rw[z,a0]at e;cases e;exact n _ rfl
     have ce:up≠ar:=λz=>by have:=Y _ _ aX bg;rw[<-z,bn]at this;cases this
     have F:∀{b:Addr}{o o1 o2:HO},r b=some o->upd (upd H5 th o1) rn o2 b=some o:=λe=>by rw[aC<|n2 e,aC<|n1<|k3 e];exact k3 e
     refine q rn ci e' ⟨λb=>if b=ar then none else r b,G,tx,up,mo⟩ ⟨ar,C,lo,th,[],[],[],[]⟩ kv v1 v2 cg _ (λb o _ e=>F<|(fa.trans fu) _ _ aX e) (λb o _ e=>nz ((fa.trans fu) _ _ aX e)<|aP e b6) rfl rfl rfl rfl ⟨⟨.nil,.nil,.nil,rfl⟩,.no,⟨?_,?_,?_,?_⟩⟩ (nz c1 ce) (nz x1<|b0 x1 λ_ z=>nomatch z) x2 (nz x3<|b0 x3 λ_ z=>nomatch z) (nz x4<|b0 x4 λ_ z=>nomatch z)<|x6.keep λb xs e=>nz e<|b0 e λ_ z=>nomatch z
     .intro z hz;rcases wm9.mp hz with rfl | hz
      .have I:((mo:Int)-((0:Nat):Int))=mo:=by simp
       show upd _ rn _ rn=some (HO.dK [(Sum.inr "texts",.ref tx),(Sum.inr "up",.ref up),(Sum.inr "around",.ref ar),(Sum.inr "choices",.ref C),(Sum.inr "left",.int<|(mo:Int)-((0:Nat):Int)),(Sum.inr "log",.ref lo),(Sum.inr "looks",.int 0),(Sum.inr "end",.non),(Sum.inr "things",.ref th),(Sum.inr "calls",.int 0)]);rw[I];exact zb1
      rcases wm9.mp hz with rfl | hz
      .exact F a0
      rcases wm9.mp hz with rfl | hz
      .show upd _ rn _ C=some (HO.lst<|G.ch.map V.int);rw[aC (λz=>by rw[z,zb1]at a5;cases a5),aC<|n1 c2];exact c2
      rcases wm9.mp hz with rfl | hz
      .show upd _ rn _ lo=some (HO.lst []);rw[aC (λz=>by rw[z,r1]at T;cases T),aC<|n1 aw];exact aw
      rcases wm9.mp hz with rfl | hz
      .show upd _ rn _ th=some (HO.lst []);rw[aC<|bL<|n1 r2];exact zb1
      .cases hz
     .show([rn,ar,C,lo,th]:List Addr).Nodup;have a1:rn≠ar:=bL<|n2 a0;have a2:rn≠C:=λz=>by rw[<-z,zb1]at a5;cases a5
      have a3:rn≠lo:=λz=>by rw[<-z,r1]at T;cases T
      have b1:ar≠C:=aP (k1 a0) a5;have b2:ar≠lo:=aP (k2 a0) T;simp[a1,a2,a3,n1 r2,b1,b2,n1<|k3 a0,bL cf,n1 c2,n1 aw]
     .have N:∀{b:Addr},r b=none->(if b=ar then none else r b)=none:=λe=>by
       split
       .rfl
       .exact e
      have O:∀{G H:Hp}{b:Addr},(∀{o:HO},G b=some o->H b=some o)->H b=none->G b=none:=λ{G H b} k e=>by
       cases z:G b with
       | none=>rfl
       | some o=>rw[k z]at e;cases e
      intro z hz;rcases wm9.mp hz with rfl | hz
      .exact N b5
      rcases wm9.mp hz with rfl | hz
      .exact bC rfl
      rcases wm9.mp hz with rfl | hz
      .exact N<|O k1 a5
      rcases wm9.mp hz with rfl | hz
      .exact N<|O k2 T
      rcases wm9.mp hz with rfl | hz
      .exact N<|O k3 b8
      .cases hz
     .intro b o ae;have ae:(if b=ar then none else r b)=some o:=ae
      by_cases c:b=ar
      .rw[bC c]at ae;cases ae
      .rw[aY c]at ae;exact F ae
def ResAt(H:Hp)(r:Rs×Str×V)(l:Addr):Prop:=∃(tl el:Addr)(ls:List Addr),H l=some (.tup [.ref tl,.int r.1.lk,.ref el])/\H tl=some (.tup<|ls.map V.ref)/\A2 (λx a=>H a=some (.tup x)) r.1.lg ls/\H el=some (.tup [.str r.2.1,r.2.2])
def ResAt.keep(h:ResAt H r l)(f:Tup H H'):ResAt H' r l:=by
 obtain⟨tl,a,ls,h1,h2,d,b⟩:=h;exact⟨tl,a,ls,f _ _ h1,f _ _ h2,d.imp λ_ _ e=>f _ _ e,f _ _ b⟩
def Fl1(l:List (List V)):Prop:=∀r∈l,↑r<=4/\∀x∈r,gX x x
def Fl1.app(h:Fl1 l)(g:↑r<=4/\∀x∈r,gX x x):Fl1 (l++[r]):=λr' hr=>(wp5.mp hr).elim (h r') λhr=>by rw[wn1.mp hr];exact g
def xE{s:Str}:gX (.str s) (.str s):=.inl ⟨s,rfl,rfl⟩
def BV{i:Int}:gX (.int i) (.int i):=.inr<|.inl ⟨i,rfl,rfl⟩
def BG(h:gX x x)(g:∀y∈l,gX y y):∀y∈x::l,gX y y:=λy a=>(wm9.mp a).elim (λe=>by rw[e];exact h)<|g y
def oX:∀y∈([]:List V),gX y y:=λy a=>nomatch a
theorem MC:∀(l:List Str)(S:Rs),Fl1 S.lg->Fl1 (l.foldl Rs.come S).lg
 | [],S,h=>h
 | k::l,S,h=>by
  refine MC l (S.come k) ?_;unfold Rs.come
  split
  .exact h
  .exact h.app ⟨show 2<=4 by decide,BG xE<|BG xE oX⟩
def NU{S:Rs}{v:V}{f:Int->Rs×Option Str}(h:Fl1 S.lg)(g:∀j,Fl1 (f j).1.lg):Fl1 (S.thing v f).1.lg:=by
 cases v with
 | int j=>exact g j
 | _=>exact h
def NH{P:Pg}(S:Rs)(d:Du)(h:Fl1 S.lg):Fl1 (doR P S d).1.lg:=by
 have ite:∀{c:Prop} [Decidable c] {a b:Rs×Option Str},Fl1 a.1.lg->Fl1 b.1.lg->Fl1 (if c then a else b).1.lg:=λh1 h2=>by split <;> assumption
 cases d with
 | op m' a r m=>
  cases r with
  | make x k=>exact ite h h
  | copy x y=>exact h
  | put x f y=>exact NU h λj=>h
  | take x y f=>exact NU h λj=>h
  | say w=>exact h.app ⟨show 3<=4 by decide,BG xE<|BG BV<|BG xE oX⟩
  | bring k=>exact MC _ S h
def Rn.fl{P:Pg}(t:Rn P mo dn S S' e v)(h:Fl1 S.lg):Fl1 S'.lg/\gX v v:=by
 induction t with
 | done _=>exact⟨h,.inr<|.inr ⟨rfl,rfl⟩⟩
 | long _ _=>exact⟨h,BV⟩
 | @stop dn S S' d r e _ hm he=>
  have:=NH (P:=P) {S with td:=r} d h;rw[he]at this;exact⟨this,BV⟩
 | @go dn S S1 S' d r e v _ hm he _ ih=>
  have:=NH (P:=P) {S with td:=r} d h;rw[he]at this;exact ih this
def Al(H:Hp):Nat->V->V->Prop
 | 0=>gX
 | n+1=>λx y=>gX x y\/∃a b xs ys,x=.ref a/\y=.ref b/\H a=some (.tup xs)/\H b=some (.tup ys)/\↑xs<=100000/\A2 (Al H n) xs ys
theorem Al.keep(f:Tup H H'):∀{n:Nat}{x y:V},Al H n x y->Al H' n x y
 | 0,_,_,h=>h
 | n+1,x,y,h=>by
  rcases h with h | ⟨a,b,xs,ys,h1,h2,h3,h4,h6,h5⟩
  .exact .inl h
  .exact .inr ⟨a,b,xs,ys,h1,h2,f _ _ h3,f _ _ h4,h6,h5.imp λ_ _ g=>Al.keep f g⟩
theorem Al.row{H:Hp}:∀r:List V,(∀x∈r,gX x x)->A2 (Al H 0) r r
 | [],_=>.nil
 | x::r,h=>.cons (h x<|.head _)<|Al.row r λy a=>h y<|.tail _ a
def YB(hl:Fl1 l)(h:A2 (λx a=>H a=some (.tup x)) l ls)(g:A2 (λx a=>H a=some (.tup x)) l ls'):A2 (Al H 1) (ls.map V.ref) (ls'.map V.ref):=by
 induction h generalizing ls' with
 | nil=>cases g;exact .nil
 | @cons r a l ls e t ih=>
  cases g with
  | cons e' t'=>exact .cons (.inr ⟨a,_,r,r,rfl,rfl,e,e',by have:=(hl r<|.head _).1;lia,Al.row r (hl r<|.head _).2⟩)<|ih (λr hr=>hl r<|.tail _ hr) t'
def rS{r:Rs×Str×V}(n:↑r.1.lg<=100000)(hl:Fl1 r.1.lg)(q:gX r.2.2 r.2.2)(h:ResAt H r a)(g:ResAt H r b):Al H 3 (.ref a) (.ref b):=by
 obtain⟨tl,o,ls,h1,h2,d,j⟩:=h;obtain⟨s,e,u,f,m,i,l⟩:=g;exact .inr ⟨a,b,_,_,rfl,rfl,h1,f,show 3<=100000 by decide,.cons (.inr ⟨tl,s,_,_,rfl,rfl,h2,m,by rw[aK,<-d.len];exact n,YB hl d i⟩)<|.cons (.inl BV)<|.cons (.inr ⟨o,e,_,_,rfl,rfl,j,l,show 2<=100000 by decide,.cons (.inl xE)<|.cons (.inl q) .nil⟩) .nil⟩
def Rn.uniq{P:Pg}(a:Rn P mo dn S S1 e1 v1)(b:Rn P mo dn S S2 e2 v2):S1=S2/\e1=e2/\v1=v2:=by
 induction a with
 | done h=>
  cases b with
  | done _=>exact⟨rfl,rfl,rfl⟩
  | long h' _=>rw[h]at h';cases h'
  | stop h' _ _=>rw[h]at h';cases h'
  | go h' _ _ _=>rw[h]at h';cases h'
 | long h m=>
  cases b with
  | done h'=>rw[h]at h';cases h'
  | long h' _=>rw[h]at h';cases h';exact⟨rfl,rfl,rfl⟩
  | stop h' m' _=>exact absurd m<|Nat.not_le.mpr m'
  | go h' m' _ _=>exact absurd m<|Nat.not_le.mpr m'
 | stop h m r=>
  cases b with
  | done h'=>rw[h]at h';cases h'
  | long h' m'=>exact absurd m'<|Nat.not_le.mpr m
  | stop h' _ r'=>rw[h]at h';cases h';rw[r]at r';cases r';exact⟨rfl,rfl,rfl⟩
  | go h' _ r' _=>rw[h]at h';cases h';rw[r]at r';cases r'
 | go h m r _ ih=>
  cases b with
  | done h'=>rw[h]at h';cases h'
  | long h' m'=>exact absurd m'<|Nat.not_le.mpr m
  | stop h' _ r'=>rw[h]at h';cases h';rw[r]at r';cases r'
  | go h' _ r' t=>rw[h]at h';cases h';rw[r]at r';cases r';exact ih t
abbrev GC:Stmt:=top 69
abbrev pD:List Str:=["_law_found","_law_due"]
inductive yD(n:Nat)(vs:List V)(H:Hp)(Q:VK):Prop
 | mk(x y:V)(h1:vs=[x,y])(h2:Al H n x y)(h3:∀H',FrS [] H H'->Q (.bl true) H'):yD n vs H Q
def lV(n:Nat):Sp:=λvs H Q _=>yD n vs H Q
def pB:Nat->Sp
 | 0=>λ_ _ _ _=>False
 | n+1=>lV n
inductive FE(H:Hp)(D:Addr)(i:Nat)(σ:St)(Hx:Hp):Prop
 | mk(x y:Option V)(hσ:σ=[x,y])(fr:FrS [] H Hx)(hD:Hx D=some (.lst<|(List.replicate i true).map V.bl)):FE H D i σ Hx
def tT:bY pD pD (bR GC):=cC
def ON{k n:Nat}(F:Fun K "_law_same" "_law_same" GC f fd)(T:aT P w K mg base k "_law_same" pD (pB n))(d:mg "isinstance"=none)(O:mg "tuple"=none)(M:mg "bool"=none)(J:mg "str"=none)(mn:mg "int"=none)(ml:mg "len"=none)(a3:mg "all"=none)(mz:mg "zip"=none):aR P w K mg base bP (k+1) f fd pD (lV n):=by
 refine F.ok tT (λvs H Q E h=>?_) λab A outer s H vs Q E hr h=>?_
 .obtain⟨x,y,rfl,_⟩:=h;rfl
 obtain⟨x,y,rfl,h,q⟩:=h;have L:(["_law_one","_law_other"]:List Str).Nodup:=by rfl'
 exists _,aL (cI (zW<|eP pC rfl d (by rfl')<|aA (pv 1)<|aA (tP (v:=.ty "tuple") rfl O (by rfl') rfl) aE)
   (aS (bT (xZ (eP pC rfl d (by rfl')<|aA (pv 0)<|aA (tP (v:=.ty "tuple") rfl O (by rfl') rfl) aE)
    (xZ (pP eZ (eP jE rfl ml iJ<|aA (pv 0) aE) (eP jE rfl ml iJ<|aA (pv 1) aE)<|cF _) (IV (eP (Av rfl) rfl a3 (by rfl') (aA (iO (N':=["_law_one","_law_other"]) (src:=[none,none]) rfl eW (sP (p:=true) rfl mz<|aA (pv 0)<|aA (pv 1) aE)
     (g:=eG K 2<|dQ (bW 0)<|dQ (bW 1) dZ) (λ_ _ _ _=>eC (n:=2) rfl<|bJ (gL 0 L)<|bJ (gL 1 L) dY)
     (λ_ _ _ _=>gP) (te:=fN (pB n) [] E0<|aZ (aJ 0)<|aZ (aJ 1) aW) (λ_ _ _ _=>bB T hr rfl<|aA (pv 0)<|aA (pv 1) aE)) aE))))))) cZ)
  (aL (cI (hV<|nL<|pv 1) (aS<|bT<|RW<|nL<|pv 0) cZ) (aL (cI (zW<|eP pC rfl d (by rfl')<|aA (pv 1)<|aA (tP (v:=.ty "bool") rfl M (by rfl') rfl) aE) ES cZ)
  (aL (cI (zW<|eP pC rfl d (by rfl')<|aA (pv 1)<|aA (tP (v:=.ty "str") rfl J (by rfl') rfl) aE)
   (aS<|bT<|xZ (eP pC rfl d (by rfl')<|aA (pv 0)<|aA (tP (v:=.ty "str") rfl J (by rfl') rfl) aE)<|IV<|pP eZ (pv 0) (pv 1)<|cF _) cZ)
  (aS (bT (xZ (eP pC rfl d (by rfl')<|aA (pv 0)<|aA (tP (v:=.ty "int") rfl mn (by rfl') rfl) aE)
   (xZ (rY<|eP pC rfl d (by rfl')<|aA (pv 0)<|aA (tP (v:=.ty "bool") rfl M (by rfl') rfl) aE)<|IV<|pP eZ (pv 0) (pv 1)<|cF _)))))))
 ac_rfl
 have B:=q H FrS.refl;have e:gX x y\/∃m,n=m+1/\∃a b xs ys,x=.ref a/\y=.ref b/\H a=some (.tup xs)/\H b=some (.tup ys)/\↑xs<=100000/\A2 (Al H m) xs ys:=by
  cases n with
  | zero=>exact .inl h
  | succ n=>exact h.imp id λh=>⟨n,rfl,h⟩
 rcases e with (⟨z,rfl,rfl⟩ | ⟨z,rfl,rfl⟩ | ⟨rfl,rfl⟩) | ⟨m,rfl,a,b,xs,ys,rfl,rfl,ha,hb,hxl,hA⟩
 .exists _,rfl,_,_,_,false,rfl,.str z,by first | rfl | rfl',_,rfl;exists _,rfl,_,rfl;exists _,rfl,_,_,_,false,rfl,.str z,by first | rfl | rfl',_,rfl;exists _,rfl,_,_,_,true,rfl,.str z,rfl,_,rfl;exists _,rfl,_,_,_,true,rfl,.str z,rfl,_,rfl;exists _,rfl,_,rfl,rfl;show Q (.bl<|decide<|V.str z=V.str z) H;rw[fI rfl];exact B
 .exists _,rfl,_,_,_,false,rfl,.int z,by first | rfl | rfl',_,rfl;exists _,rfl,_,rfl;exists _,rfl,_,_,_,false,rfl,.int z,by first | rfl | rfl',_,rfl;exists _,rfl,_,_,_,false,rfl,.int z,by first | rfl | rfl',_,rfl;exists _,rfl,_,_,_,true,rfl,.int z,rfl,_,rfl;exists _,rfl,_,_,_,false,rfl,.int z,by first | rfl | rfl',_,rfl,_,rfl;exists _,rfl,_,rfl,rfl;show Q (.bl<|decide<|V.int z=V.int z) H;rw[fI rfl];exact B
 .exists _,rfl,_,_,_,false,rfl,.non,by first | rfl | rfl',_,rfl;refine⟨_,rfl,_,rfl,cT ⟨_,rfl,?_⟩⟩;exact B
 .have a2:=hA.len;exists _,rfl,_,_,_,true,rfl,.tup hb,by first | rfl | rfl',_,rfl;exists _,rfl,_,_,_,true,rfl,.tup ha,by first | rfl | rfl',_,rfl;exists _,rfl,a,_,rfl,.inr<|SqT.of ha,_,rfl,b,_,rfl,.inr<|SqT.of hb,rfl,_,rfl;show if (decide<|V.int (↑xs:Nat)=V.int (↑ys:Nat))=true then _ else _
  rw[bC<|by rw[a2];simp];refine⟨_,rfl,_,rfl,a,b,_,_,rfl,SqT.of ha,SqT.of hb,λD W=>?_⟩;exists λi m' σ j=>m'=↑xs-i/\i<=↑xs/\FE H D i σ j,⟨_,rfl,bM _,_,_,rfl,(FrS.refl).put W,zb1⟩;rintro i m' σ j ⟨rfl,hi,⟨x0,y0,rfl,fr,u⟩⟩;have r:SqT K j a xs:=SqT.of<|Tup.of0 fr _ _ ha;have o:SqT K j b ys:=SqT.of<|Tup.of0 fr _ _ hb
  by_cases N:i<↑xs
  .have C:xs[i]?=some xs[i]:=bD N;obtain⟨Z,a5,X⟩:=hA.get C;refine .inr ⟨⟨_,_,_,_,r,o,C,a5⟩,FE H D<|i+1,λσ' H' h=>⟨_,by lia,rfl,N,h⟩,λv H' yl=>?_⟩;obtain⟨I,x,y,e,rfl,rfl,y1,y2⟩:=yl;have Y:=y1 _ r;rw[C]at Y;have l:=y2 _ o;rw[a5]at l;have aa:xs[i]=x:=gJ Y;have a8:Z=y:=gJ l;subst a8;rw[aa]at X;have a9:D≠I:=aP u e;exists I,_,rfl,SqT.of zb1,rfl,_,_,rfl,_,_,rfl,rfl;refine⟨_,rfl,_,rfl,x,Z,rfl,X.keep<|(Tup.of0 fr).trans<|Tup.new e,λHz G=>⟨_,G _ _ aX (by rw[aC a9];exact u),?_,⟨_,_,rfl,((fr.trans<|FrS.new e).trans G).put W,?_⟩⟩⟩
   .rw[aK,List.length_replicate];exact EG (by lia)
   .rw[zb1,List.replicate_succ',bO];rfl
  .refine .inl ⟨⟨_,_,r,o,.inl<|by lia⟩,D,List.replicate i true,rfl,SqL.of u,?_⟩;have l:(List.replicate i true).all id=true:=by rw[wr1];intro x hx;exact(List.mem_replicate.mp hx).2
   rw[l];exact q j fr
abbrev IF:Stmt:=top 67
abbrev EV:List Str:=["_law_rows_here","_law_words_here"]
def iQ(Z:Str->Option Str->Prop):Str->Option Str->Prop:=λk o=>o=none/\Z k o
abbrev w3:List Str:=["call","either","again"]
def Fl.each(h:Fl Z H n rs fs):∀a∈rs,PlainR (iQ Z) H a/\(∃w rest,H a=some (.tup<|.str w::rest)/\w∉w3)\/∃w rest,H a=some (.tup<|.str w::rest)/\w∈w3:=by
 induction h with
 | nil=>intro a i;cases i
 | @one n a rs fs h _ ih=>
  intro b f;rcases wm9.mp f with rfl | f
  .rcases h with ⟨r,h,f⟩ | ⟨x,y,k,d,g,ss,h,_⟩
   .refine .inl ⟨⟨r,h,λk e=>⟨rfl,f k e⟩⟩,?_⟩;obtain⟨rest,e⟩:=r.hd;exact⟨r.wd,rest,by rw[h,e],by cases r <;> (simp only[Rw.wd];rfl')⟩
   .exact .inr ⟨_,_,h,.head _⟩
  .exact ih b f
 | again h hl _ _ _ ih=>
  intro b f;rcases wm9.mp f with rfl | f
  .exact .inr ⟨_,_,h,.tail _<|.tail _<|.head _⟩
  .exact ih b f
 | either h h1 h2 _ _ _ _ _ ih=>
  intro b f;rcases wm9.mp f with rfl | f
  .exact .inr ⟨_,_,h,.tail _<|.head _⟩
  .exact ih b f
theorem Fl.plain:∀(rs:List Addr),(∀a∈rs,PlainR Z H a)->Fl Z H n rs rs
 | [],_=>.nil
 | a::rs,h=>.one (.inl<|h a<|.head _)<|Fl.plain rs λb d=>h b<|.tail _ d
inductive xJ(vs:List V)(H:Hp)(Q:VK):Prop
 | mk(Z:Str->Option Str->Prop)(wt:Addr)(z:Dz)(h1:vs=[.ref z.2.1,.ref wt])(h2:RowsIs Z H z)(h3:H wt=some (.tup<|w3.map V.str))
  (q:∀(rt:Addr)(rs:List Addr)(H':Hp),FrS [] H H'->(∀a∈rs,PlainR (iQ Z) H' a)->H' rt=some (.tup<|rs.map V.ref)->↑rs<=80->Q (.ref rt) H'):xJ vs H Q
def mJ:Sp:=λvs H Q _=>xJ vs H Q
inductive OF(Z:Str->Option Str->Prop)(H:Hp)(rt wt fo:Addr)(i:Nat)(σ:St)(Hx:Hp):Prop
 | mk(y1 y2:Option V)(rs:List Addr)(h1:σ=[some<|.ref rt,some<|.ref wt,some<|.ref fo,y1,y2])(h2:FrS [] H Hx)(h3:Hx fo=some (.lst<|rs.map V.ref))(h4:∀a∈rs,PlainR (iQ Z) Hx a)(h5:↑rs<=i):OF Z H rt wt fo i σ Hx
def OI{X:Cx}{e:Expr}:PE X e (λ_ _ _=>False):=λ_ _ _ _ _ _ h=>h.elim
def scWo:bY ["_law_rows_here","_law_words_here","_law_found","_law_row_here","_law_lots"] EV (bR IF):=cC
def zG{k:Nat}(F:Fun K "_law_without" "_law_without" IF f fd)(Y:mg "tuple"=none):aR P w K mg base bP (k+1) f fd EV mJ:=by
 refine F.ok scWo (λvs H Q E h=>?_) λah A outer s H vs Q E hr h=>?_
 .obtain⟨Z,m,z,rfl,_⟩:=h;rfl
 obtain⟨Z,m,z,rfl,⟨hz,I,af⟩,W,q⟩:=h;have X:=dU hr;exists _,aL (sL 2 scWo.nd<|cG aE)
  (aL (dX dO rfl (fU<|pv 0) (gL 3 scWo.nd)<|aS<|cI (cA (show cX _ _ (gW K true) from vU) (eT (pv 3) aO) (pv 1) rfl) (aL (sL 4 scWo.nd<|HF (cA (show cX _ _ (gW K false) from sJ) (eT (pv 3) aO) (bV<|kK<|kK aE) rfl) OI<|cG aE)<|aS<|dW<|eN eA eX eY eR (pv 2)<|aA (HF (cA (EC<|mS X) (pv 4) (cG aE)<|cF _) OI<|pv 3) aE) cZ)<|aS<|bT<|dV gS rfl Y (by rfl')<|aA (pv 2) aE)
 ac_rfl
 have ag:=I.len;have s2:2<=sizeLine:=cL (bH<|by decide);refine⟨bM _,λfo u=>?_⟩;exists _,rfl,z.2.1,rfl,⟨_,SqT.of<|by rw[aC<|aP hz u];exact hz⟩;refine jC (xs:=z.2.2.1.map V.ref) (OF Z H z.2.1 m fo) ⟨_,_,[],rfl,FrS.new u,zb1,(λa h=>nomatch h),aU _⟩ ?_ ?_ ?_
 .rintro i σ d hi ⟨_,_,_,_,fr,_⟩;exact SqT.of<|(Tup.of0 fr) _ _ hz
 .rintro i x σ d T ⟨y1,y2,rs,rfl,fr,l,n,B⟩;rw[bN,wp4]at T;obtain⟨a,L,rfl⟩:=T;have hi:i<↑z.2.2.1:=(zz2.mp L).1;have tx:=Tup.of0 fr;have N:=tx _ _ W;rcases I.each a (cW L)with ⟨hP,v,rest,e,hw⟩ | ⟨v,rest,e,hw⟩
  .exists _,rfl,a,_,_,_,rfl,rfl,SqT.of<|tx _ _ e,fX _ _,_,rfl,m,_,rfl,.inr<|SqT.of N,rfl,iS _,_,rfl;rw[jT,gM hw];have ad:v∉(["either","again"]:List Str):=λh=>hw<|.tail _ h;refine cT ⟨_,rfl,a,_,_,_,rfl,rfl,SqT.of<|tx _ _ e,fX _ _,s2,λtt ab=>?_⟩;have h1:upd d tt (.tup<|(["either","again"]:List Str).map V.str) tt=some (.tup<|(["either","again"]:List Str).map V.str):=zb1;have f1:FrS [] d (upd d tt<|.tup<|(["either","again"]:List Str).map V.str):=FrS.new ab;exists tt,_,rfl,.inr<|SqT.of h1,rfl,iS _,_,rfl;rw[jT,gM ad];refine bF ⟨bM _,λlo aa=>?_⟩;have M:=f1.trans<|FrS.new (o:=.lst []) aa;have h2:upd (upd d tt<|.tup<|(["either","again"]:List Str).map V.str) lo (.lst []) lo=some (.lst []):=zb1;have ae:=M _ _ aX l;refine⟨_,rfl,.inl ⟨rfl,_,SqL.of ae⟩,_,rfl,bM _,λpe r=>?_⟩;have C:=M.trans<|FrS.new (o:=.lst []) r;have J:=Tup.of0 C;have O:=C _ _ aX l;refine⟨lo,pe,_,rfl,rfl,aP h2 r,SqL.of<|(aC<|aP h2 r).trans h2,SqL.of zb1,_,rfl,bF ⟨_,rfl,fo,_,_,rfl,rfl,O,bH (by rw[aK];lia),?_⟩⟩;refine⟨_,_,rs++[a],rfl,(fr.trans C).put u,by rw[zb1,bO];rfl,λb j=>?_,by rw[bI];exact Nat.succ_le_succ B⟩;have tl:=Tup.lst O (o:=.lst<|rs.map V.ref++[.ref a]);rcases wp5.mp j with j | j
   .exact((n b j).keep J).keep tl
   .rw[wn1.mp j];exact((hP.keep tx).keep J).keep tl
  .exists _,rfl,a,_,_,_,rfl,rfl,SqT.of<|tx _ _ e,fX _ _,_,rfl,m,_,rfl,.inr<|SqT.of N,rfl,iS _,_,rfl;rw[jT,fI hw];exact bF ⟨_,_,rs,rfl,fr,l,n,by lia⟩
 .rintro σ d ⟨y1,y2,rs,rfl,fr,l,n,B⟩;rw[aK]at B;refine⟨_,rfl,fo,_,rfl,.inl ⟨SqL.of l,λkt G=>?_⟩⟩;exact q kt rs _ (fr.trans<|FrS.new G) (λa h=>(n a h).keep<|Tup.new G) zb1 (by lia)
abbrev IC:Stmt:=top 68
abbrev EW:List Str:=["_law_program_here","_law_words_here"]
def PDz(Z:Str->Option Str->Prop)(H:Hp)(f:Addr):Prop:=∃e:Dz,DeedIs (iQ Z) H f e/\∀a∈e.2.2.1,PlainR (iQ Z) H a
theorem PDz.keep(h:PDz Z H f)(t:Tup H H'):PDz Z H' f:=by
 obtain⟨e,h1,h2⟩:=h;exact⟨e,h1.keep t,λa b=>(h2 a b).keep t⟩
inductive LkO(Z:Str->Option Str->Prop)(H:Hp)(u:Addr)(z:Str×Option Str):Prop
 | mk(dt:Addr)(fs:List Addr)(h1:H u=some (.tup [.str z.1,aV z.2,.ref dt]))(h2:H dt=some (.tup<|fs.map V.ref))(h3:∀f∈fs,PDz Z H f)(h4:↑fs<=80):LkO Z H u z
theorem LkO.keep(h:LkO Z H u z)(t:Tup H H'):LkO Z H' u z:=by
 obtain⟨d,fs,h1,h2,e,b⟩:=h;exact⟨d,fs,t _ _ h1,t _ _ h2,λf a=>(e f a).keep t,b⟩
def PK(Z:Str->Option Str->Prop)(H:Hp)(zs:List Bz):Prop:=∀z∈zs,∀a∈z.2.2.2.1,PlainR (iQ Z) H a
theorem PDz.all:∀fs:List Addr,(∀f∈fs,PDz Z H f)->∃ds:List Dz,↑fs=↑ds/\(∀(j:Nat) f z,fs[j]?=some f->ds[j]?=some z->DeedIs (iQ Z) H f z)/\∀e∈ds,∀a∈e.2.2.1,PlainR (iQ Z) H a
 | [],_=>⟨[],rfl,(λj f z a=>nomatch a),λe h=>nomatch h⟩
 | f::fs,h=>by
  obtain⟨e,h1,h2⟩:=h f<|.head _;obtain⟨ds,d,m,l⟩:=PDz.all fs λf n=>h f<|.tail _ n;refine⟨e::ds,cK (·+1) d,λj i z a b=>?_,λo he=>?_⟩
  .cases j with
   | zero=>cases a;cases b;exact h1
   | succ j=>exact m j i z a b
  .rcases wm9.mp he with rfl | he
   .exact h2
   .exact l o he
theorem LkO.all(h:A2 (LkO Z H) us tr):∃ks:List (Str×List Dz),↑us=↑ks/\(∀(j:Nat) u y,us[j]?=some u->ks[j]?=some y->KindIs (iQ Z) H u y)/\ks.map (·.1)=tr.map (·.1)/\PK Z H (ks.flatMap gQ):=by
 induction h with
 | nil=>exact⟨[],rfl,(λj u y a=>nomatch a),rfl,λz h=>nomatch h⟩
 | @cons u z us tr h _ ih=>
  obtain⟨w,fs,h1,h2,o,i⟩:=h;obtain⟨ks,n,m,r,s⟩:=ih;obtain⟨ds,q,l,f⟩:=PDz.all fs o;refine⟨(z.1,ds)::ks,cK (·+1) n,λj x y a b=>?_,cK (z.1::·) r,λb d=>?_⟩
  .cases j with
   | zero=>cases a;cases b;exact⟨_,w,fs,h1,h2,q,l,i⟩
   | succ j=>exact m j x y a b
  .rw[List.flatMap_cons]at d;rcases wp5.mp d with d | d
   .obtain⟨e,he,rfl⟩:=wn7.mp d;exact f e he
   .exact s b d
inductive SG(vs:List V)(H:Hp)(Q:VK):Prop
 | mk(Z:Str->Option Str->Prop)(p wt:Addr)(ks:List (Str×List Dz))(m0:Dz)(tr:Tr)(late:List Str)(h1:vs=[.ref p,.ref wt])(h2:ProgIs Z H p ks m0)(h3:KindsAt H p tr)(h4:LateAt H p tr late)(h5:↑tr<=12)(h6:CW Z ks tr)(h7:H wt=some (.tup<|w3.map V.str))
  (q:∀(p':Addr)(ks':List (Str×List Dz))(m':Dz)(H':Hp),FrS [] H H'->ProgIs (iQ Z) H' p' ks' m'->KindsAt H' p' tr->LateAt H' p' tr late->CW (iQ Z) ks' tr->PK Z H' (dG ks' m')->Q (.ref p') H'):SG vs H Q
def IU:Sp:=λvs H Q _=>SG vs H Q
inductive LX(Z:Str->Option Str->Prop)(H:Hp)(p wt kl:Addr)(tr:Tr)(i:Nat)(σ:St)(Hx:Hp):Prop
 | mk(y1 y2 y3 y4:Option V)(us:List Addr)(h1:σ=[some<|.ref p,some<|.ref wt,some<|.ref kl,y1,y2,y3,y4])(h2:FrS [] H Hx)(h3:Hx kl=some (.lst<|us.map V.ref))(h4:A2 (LkO Z Hx) us (tr.take i)):LX Z H p wt kl tr i σ Hx
inductive RV(Z:Str->Option Str->Prop)(H:Hp)(wt Dl:Addr)(i:Nat)(σ:St)(Hx:Hp):Prop
 | mk(y1 y2 y3 y4:Option V)(fs:List Addr)(h1:σ=[y1,y2,y3,y4,some<|.ref wt])(h2:FrS [] H Hx)(h3:Hx Dl=some (.lst<|fs.map V.ref))(h4:∀f∈fs,PDz Z Hx f)(h5:↑fs=i):RV Z H wt Dl i σ Hx
def yc3:bY ["_law_program_here","_law_words_here","_law_kinds","_law_name","_law_elder","_law_deeds","_law_some"] EW (bR IC):=cC
def WL{k:Nat}(F:Fun K "_law_lean" "_law_lean" IC f fd)(WO:aT P w K mg base k "_law_without" EV mJ)(al:mg "tuple"=none):aR P w K mg base bP (k+1) f fd EW IU:=by
 refine F.ok yc3 (λvs H Q E h=>?_) λay A outer s H vs Q E hr h=>?_
 .obtain⟨Z,p,wt,ks,m0,tr,late,rfl,_⟩:=h;rfl
 obtain⟨Z,p,wt,ks,m0,tr,late,rfl,hP,hK,aq,av,hN,aj,q⟩:=h;have a2:(["_law_deed_here","_law_params","_law_rows_here","_law_gives","_law_words_here"]:List Str).Nodup:=by rfl'
 exists _,aL (sL 2 yc3.nd<|cG aE)
  (aL (dX dO rfl (fU<|eT (pv 0) aO) (eC (n:=3) rfl<|bJ (gL 3 yc3.nd)<|bJ (gL 4 yc3.nd)<|bJ (gL 5 yc3.nd) dY)<|aL (oZ (i:=6) (N':=["_law_deed_here","_law_params","_law_rows_here","_law_gives","_law_words_here"]) (src:=[none,none,none,none,some 1]) rfl yc3.nd rfl rfl eW (fU<|pv 5) (g:=eG K 4<|dQ (bW 0)<|dQ (bW 1)<|dQ (bW 2)<|dQ (bW 3) dZ) (λ_ _ _ _=>eC (n:=4) rfl<|bJ (gL 0 a2)<|bJ (gL 1 a2)<|bJ (gL 2 a2)<|bJ (gL 3 a2) dY) (λ_ _ _ _=>gP) (te:=dB<|aZ (aJ 0)<|aZ (aJ 1)<|aZ (fN mJ [] E0<|aZ (aJ 2)<|aZ (aJ 4) aW)<|aZ (aJ 3) aW) λ_ _ _ _=>bV<|aA (pv 0)<|aA (pv 1)<|aA (bB WO hr rfl<|aA (pv 2)<|aA (pv 4) aE)<|aA (pv 3) aE)<|aS<|dW<|eN eA eX eY eR (pv 2)<|aA (bV<|aA (pv 3)<|aA (pv 4)<|aA (dV gS rfl al (by rfl')<|aA (pv 6) aE) aE) aE)
  (aS<|bT<|bV<|aA (dV gS rfl al (by rfl')<|aA (pv 2) aE)<|aA (eT (pv 0) aO)<|aA (bB WO hr rfl<|aA (eT (pv 0) aO)<|aA (pv 1) aE) aE))
 ac_rfl
 have s3:3<=sizeLine:=cL (bH<|by decide);have s4:4<=sizeLine:=cL (bH<|by decide);obtain⟨kt,us,lt,p1,p2,p3,p4,p5,p6⟩:=id hP;obtain⟨b0,ts,vx,vy,d1,d2,d3,d4⟩:=id hK;rw[p1]at d1;cases d1;rw[p2]at d2;have au:us=ts:=wB<|HO.tup.inj<|gJ d2;subst au;obtain⟨az,G,vm,l1,l2,l3,l4,l5⟩:=id aq;rw[p1]at l1;cases l1;refine⟨bM _,λT af=>?_⟩;have f0:FrS [] H (upd H T<|.lst []):=FrS.new af;have t0:=Tup.of0 f0;exists _,rfl,p,_,_,_,rfl,rfl,SqT.of<|t0 _ _ p1,rfl,kt,rfl,⟨_,SqT.of<|t0 _ _ p2⟩;refine jC (xs:=us.map V.ref) (LX Z H p wt T tr) ⟨_,_,_,_,[],rfl,f0,zb1,.nil⟩ ?_ ?_ ?_
 .rintro i σ C hi ⟨_,_,_,_,_,_,fr,_⟩;exact SqT.of<|(Tup.of0 fr) _ _ p2
 .rintro i x σ C hx ⟨y1,y2,y3,y4,vs,rfl,fr,a1,X⟩;rw[bN,wp4]at hx;obtain⟨u,aa,rfl⟩:=hx;have ah:i<↑us:=(zz2.mp aa).1;have hi:i<↑tr:=by rw[<-d3];exact ah
  have ap:i<↑ks:=by rw[<-p3];exact ah
  obtain⟨ev,dt,fs,q1,q2,q3,q4,q5⟩:=p4 i u ks[i] aa<|bD ap;obtain⟨vz,hz⟩:=d4 i u tr[i] aa<|bD hi;have W:[V.str ks[i].1,ev,V.ref dt]=[V.str tr[i].1,aV tr[i].2,vz]:=HO.tup.inj<|gJ<|q1.symm.trans hz;rw[W]at q1;obtain rfl:V.ref dt=vz:=by injection W with _ W;injection W with _ W;injection W
  have tx:=Tup.of0 fr;exists u,_,rfl,SqT.of<|tx _ _ q1,rfl,_,_,rfl,_,_,rfl,_,_,rfl,rfl;refine⟨_,rfl,dt,rfl,⟨_,SqT.of<|tx _ _ q2⟩,λDl a5=>?_⟩;have ax:T≠Dl:=aP a1 a5;refine vK (xs:=fs.map V.ref) (RV Z C wt Dl) ⟨_,_,_,_,[],rfl,FrS.new a5,zb1,(λa h=>nomatch h),rfl⟩ ?_ ?_ ?_
  .rintro j σ N hj ⟨_,_,_,_,_,_,L,_⟩;exact SqT.of<|(Tup.of0<|fr.trans L) _ _ q2
  .rintro j x σ N hx ⟨z1,z2,z3,z4,r,rfl,L,a3,a9,a6⟩;rw[bN,wp4]at hx;obtain⟨g,hg,rfl⟩:=hx;have hj:j<ks[i].2.length:=by rw[<-q3];exact(zz2.mp hg).1
   have aw:j<↑fs:=(zz2.mp hg).1;obtain⟨a4,gv,g1,g2,g3⟩:=q4 j g ks[i].2[j] hg<|bD hj;have ty:=Tup.of0<|fr.trans L;exists g,_,rfl,SqT.of<|ty _ _ g1,rfl,_,_,rfl,_,_,rfl,_,_,rfl,_,_,rfl,rfl;refine⟨_,rfl,_,rfl,_,rfl,_,rfl,Z,wt,ks[i].2[j],rfl,g3.keep ty,ty _ _ aj,λrt rs H1 B ag a7 ab=>⟨_,rfl,s4,λt ht=>?_⟩⟩;have J:=Tup.of0 B;have a8:upd H1 t (.tup [.str ks[i].2[j].1,a4,.ref rt,gv]) Dl=some (.lst<|r.map V.ref):=by rw[aC<|aP (B _ _ aX a3) ht];exact B _ _ aX a3
   have Y:Tup H1 (upd (upd H1 t<|.tup [.str ks[i].2[j].1,a4,.ref rt,gv]) Dl<|.lst<|r.map V.ref++[.ref t]):=(Tup.new ht).trans<|Tup.lst a8;refine⟨_,a8,bH (by rw[aK];lia),_,_,_,_,r++[t],rfl,((L.trans B).trans<|FrS.new ht).put a5,by rw[zb1,bO];rfl,λb hb=>?_,by rw[bI,a6];rfl⟩;rcases wp5.mp hb with hb | hb
   .exact(a9 b hb).keep (J.trans Y)
   .rw[wn1.mp hb];exact⟨(ks[i].2[j].1,rt,rs,rs),⟨a4,gv,(Tup.lst a8) _ _ zb1,g2.keep<|ty.trans<|J.trans Y,Y _ _ a7,Fl.plain rs λa M=>(ag a M).keep Y,ab⟩,λa M=>(ag a M).keep Y⟩
  .rintro σ N ⟨z1,z2,z3,z4,r,rfl,L,a3,a9,a6⟩;rw[aK]at a6;refine⟨_,rfl,.inl ⟨rfl,_,SqL.of<|L _ _ aX a1⟩,_,rfl,_,rfl,_,rfl,Dl,_,rfl,.inl ⟨SqL.of a3,λm ai=>⟨s3,λI ad=>?_⟩⟩⟩;have fu:FrS [] C (upd (upd N m<|.tup<|r.map V.ref) I<|.tup [.str tr[i].1,aV tr[i].2,.ref m]):=(L.trans<|FrS.new ai).trans<|FrS.new ad;have tu:=(Tup.new (o:=.tup<|r.map V.ref) ai).trans<|Tup.new (o:=.tup [.str tr[i].1,aV tr[i].2,.ref m]) ad;have e1:upd (upd N m<|.tup<|r.map V.ref) I (.tup [.str tr[i].1,aV tr[i].2,.ref m]) m=some (.tup<|r.map V.ref):=(Tup.new ad) _ _ zb1;have e2:upd (upd N m<|.tup<|r.map V.ref) I (.tup [.str tr[i].1,aV tr[i].2,.ref m]) I=some (.tup [.str tr[i].1,aV tr[i].2,.ref m]):=zb1;generalize upd (upd N m<|.tup<|r.map V.ref) I (.tup [.str tr[i].1,aV tr[i].2,.ref m])=Hu at fu tu e1 e2;have an:=fu _ _ aX a1;have tl:Tup Hu (upd Hu T<|.lst<|vs.map V.ref++[.ref I]):=Tup.lst an;refine⟨T,_,_,rfl,rfl,an,bH (by rw[aK,X.len,eK];lia),_,_,_,_,vs++[I],rfl,(fr.trans fu).put af,by rw[zb1,bO];rfl,?_⟩;rw[BR hi];exact(X.imp λa b h=>(h.keep<|Tup.of0 fu).keep tl).snoc ⟨m,r,tl _ _ e2,tl _ _ e1,λf hf=>((a9 f hf).keep tu).keep tl,by lia⟩
 .rintro σ C ⟨y1,y2,y3,y4,vs,rfl,fr,a1,X⟩;rw[aK,d3,List.take_length]at X;have tx:=Tup.of0 fr;refine⟨_,rfl,T,_,rfl,.inl ⟨SqL.of a1,λl ao=>?_⟩⟩;have B:FrS [] H (upd C l<|.tup<|vs.map V.ref):=fr.trans<|FrS.new ao;have h1:upd C l (.tup<|vs.map V.ref) l=some (.tup<|vs.map V.ref):=zb1;have ae:A2 (LkO Z<|upd C l<|.tup<|vs.map V.ref) vs tr:=X.imp λ_ _ h=>h.keep<|Tup.new ao;generalize upd C l (.tup<|vs.map V.ref)=H1 at B h1 ae;have J:=Tup.of0 B;refine⟨_,rfl,p,_,_,_,rfl,rfl,SqT.of<|J _ _ p1,rfl,_,rfl,p,_,_,_,rfl,rfl,SqT.of<|J _ _ p1,rfl,_,rfl,Z,wt,m0,rfl,p5.keep J,J _ _ aj,λrt rs H2 f2 ak a7 ab=>⟨s3,λO am=>?_⟩⟩;have f3:FrS [] H1 (upd H2 O<|.tup [.ref l,.ref G,.ref rt]):=f2.trans<|FrS.new am;have t2:Tup H2 (upd H2 O<|.tup [.ref l,.ref G,.ref rt]):=Tup.new am;have e3:upd H2 O (.tup [.ref l,.ref G,.ref rt]) O=some (.tup [.ref l,.ref G,.ref rt]):=zb1;generalize upd H2 O (.tup [.ref l,.ref G,.ref rt])=H3 at f3 t2 e3;have t3:=Tup.of0 f3;have ac:A2 (LkO Z H3) vs tr:=ae.imp λ_ _ h=>h.keep t3;obtain⟨ar,k1,k2,k3,k4⟩:=LkO.all ac;have hl:=ac.len;have as:=Tup.of0<|B.trans f3;refine q O ar ("",rt,rs,rs) H3 (B.trans f3) ⟨l,vs,.ref G,e3,t3 _ _ h1,k1,k2,⟨t2 _ _ a7,Fl.plain rs λa M=>(ak a M).keep t2,ab⟩,by lia⟩ ⟨l,vs,.ref G,.ref rt,e3,t3 _ _ h1,hl,λj t z a b=>?_⟩ ⟨l,G,.ref rt,e3,as _ _ l2,l3,l4,l5⟩ ⟨k3,λk h=>hN.nb k h.2,(λk d h=>absurd h.1 nofun),⟨[],bM _,λk d h=>absurd h.1 nofun⟩⟩ λz hz=>?_
  .obtain⟨z',e,dt,fs,g,_⟩:=ac.get a;rw[b]at e;cases e;exact⟨_,g⟩
  .rcases wm9.mp hz with rfl | hz
   .exact λa M=>(ak a M).keep t2
   .exact k4 z hz
abbrev pV:Stmt:=top 76
abbrev nI(hr:List Str):Rs:=Rs.dic ⟨[],[],[],[],0,0,0,hr⟩ []
inductive oK(vs:List V)(H:Hp)(Q:VK):Prop
 | mk(Z:Str->Option Str->Prop)(p ch:Addr)(ks:List (Str×List Dz))(m0:Dz)(tr:Tr)(late:List Str)(Ls:List LL)(k' mo:Nat)(G:Pg)(h1:vs=[.ref p,.ref ch,.int mo])(h2:ProgIs Z H p ks m0)(h3:KindsAt H p tr)(h4:LateAt H p tr late)(h5:TrOk tr)(h6:↑tr<=12)(h7:LyB Z H 0 (dG ks m0) Ls k')(h8:k'<=1000000)(h9:H ch=some (.tup<|G.ch.map V.int))(h11:∀k,Z k none->k∈G.nm)(h12:G.bo "" ""=BM .nil (dG ks m0) Ls)
  (hmo:mo<=2000) (hln:∀k∈G.nm,Up tr k<|G.ln k) (hnm:∀k,∀x∈G.ln k,x∈G.nm) (hl2:∀k,↑(G.ln k)<=12) (hhr:∀k∈hr0 tr late,k∈G.nm)
  (q:∀(pr l:Addr)(d:V)(S':Rs)(e:Str)(v:V)(H':Hp),FrS [] H H'->H' pr=some (.tup [.ref l,d])->Rn G mo 0 (oI G<|hr0 tr late) S' e v->ResAt H' (S',e,v) l->S'.lg.length<=24000->Q (.ref pr) H'):oK vs H Q
def JK:Sp:=λvs H Q _=>oK vs H Q
def wf9:bY ["_law_program_here","_law_choices","_law_most","_law_run","_law_end"] gR (bR pV):=cC
def pZ{k:Nat}(F:Fun K "_law_ran" "_law_ran" pV f fd)(NW:aT P w K mg base k "_law_new_run" gR ID)(DO:aT P w K mg base k "_law_do" lA JQ)(al:mg "tuple"=none):aR P w K mg base bP (k+1) f fd gR JK:=by
 refine F.ok wf9 (λvs H Q E h=>?_) λaz A outer s H vs Q E hr h=>?_
 .obtain⟨Z,p,ch,ks,m0,tr,i,Ls,k',mo,G,rfl,_⟩:=h;rfl
 obtain⟨Z,p,ch,ks,m0,tr,i,Ls,k',mo,G,rfl,hP,hK,ax,ok,a9,hB,ah,av,hn,am,ai,aj,ay,aw,ao,q⟩:=h;have J:=dU hr;exists _,aL (sL 3 wf9.nd<|bB NW hr rfl<|aA (pv 0)<|aA (pv 1)<|aA (pv 2) aE)
  (aL (dW<|bB DO hr rfl<|aA (pv 3)<|aA (eT (bQ J (bQ J (pv 3) bA λ_ _=>rfl) (bV<|kK<|kK aE) λ_ _=>rfl) aO)<|aA mI aE)<|aL (sL 4 wf9.nd<|HF (hV<|nL<|bQ J (pv 3) bA λ_ _=>rfl) (bV<|aA bA<|aA iH aE)<|bQ J (pv 3) bA λ_ _=>rfl)<|aS<|bT<|bV<|aA (bV<|aA (dV gS rfl al (by rfl')<|aA (bQ J (pv 3) bA λ_ _=>rfl) aE)<|aA (bQ J (pv 3) bA λ_ _=>rfl)<|aA (pv 4) aE)<|aA (bX kO (pv 2)<|bQ J (pv 3) bA λ_ _=>rfl) aE)
 ac_rfl
 have s2:2<=sizeLine:=cL (bH<|by decide);have s3:3<=sizeLine:=cL (bH<|by decide);refine⟨_,rfl,_,rfl,_,rfl,Z,p,ch,ks,m0,tr,i,Ls,k',mo,G,rfl,hP,hK,ax,ok,a9,hB,ah,av,hn,am,λrn rl e W I kvs v1 v2 es H1 f1 ak ag ae hδ au hL ar an as he ap af=>?_⟩;subst ag ae;have ab:↑(hr0 tr i)<=12:=by
  unfold hr0;have:=pM (λx=>decide<|x∉i)<|tr.map (·.1);rw[aK]at this;lia
 have r:∀{H':Hp}{j:La}{u:Ts}{ev' v:V}(N:aG),LAt W H' rn j u ev'->aF (lF W j u ev') N=some v->DGet H' rn (kV N) (some v):=λN g e=>by rw[<-e];exact DGet.k g.run
 have kp:=hL.lm.kp;refine⟨_,rfl,_,rfl,rn,_,rfl,r (Sum.inr "texts") hL rfl,s2,λkt ac=>?_⟩;have a5:=hL.new (o:=.tup [.str "",.str ""]) ac;have k1:upd H1 kt (.tup [.str "",.str ""]) kt=some (.tup [.str "",.str ""]):=zb1;have f2:FrS [] H (upd H1 kt<|.tup [.str "",.str ""]):=f1.trans<|FrS.new ac;generalize upd H1 kt (.tup [.str "",.str ""])=H2 at a5 k1 f2;have aa:=a5.lm.kp;refine⟨W.tx,_,rfl,by rw[<-as];exact DGet.t (k:=kM) (aa _ _ an) k1,e,_,_,_,rfl,rfl,SqT.of<|aa _ _ he,rfl,λO aq=>?_⟩;have ad:=a5.dic (b:=O) (d:=[]) (d':=[]) aq λ_=>rfl;generalize upd H2 O (.dK [])=H3 at ad;have hb:LB W {I with δ:=I.δ++[O],ds:=I.ds++[[]]} ⟨0,nI<|hr0 tr i,none⟩ 0:=by
  have d0:∀d∈I.ds++[([]:List (aG×V))],d=[]:=λd hd=>by
   rw[au]at hd;exact wn1.mp hd
  refine⟨λd hd=>?_,aU _,λd hd=>by rw[d0 d hd];exact aU _,aU _,by show(hr0 tr i).length+12*0<=12+12*0;lia,ao,(λz hz=>nomatch hz)⟩;have:d=[]:=wn1.mp hd;rw[this];exact λz hz=>nomatch hz
 refine⟨W,tr,rn,rl,O,{I with δ:=I.δ++[O],ds:=I.ds++[[]]},⟨0,nI<|hr0 tr i,none⟩,0,W.G.bo "" "",es,.non,rfl,⟨ad,hb,bM _,λ_ _ e=>e,λe=>e⟩,⟨ar,ok,a9,aj,ay,aw⟩,ap,af,by show(I.δ++[O])[0]?=_;rw[hδ];rfl,ai,λj ev' H4 g=>?_⟩;obtain⟨F',e',v',t,g1,g2,g3⟩:=MV W.G W.mo 0 (W.G.bo "" "") ⟨0,nI<|hr0 tr i,none⟩ rfl;replace t:Rn W.G W.mo 0 (oI W.G<|hr0 tr i) F' e' v':=by
  have e:oI W.G (hr0 tr i)=(nI<|hr0 tr i).at ((W.G.bo "" "").dues 0):=by
   show Rs.at _ ((W.G.bo "" "").dues 0++[])=_;rw[gA]
  rw[e];exact t
 have f4:FrS [] H H4:=λb o n e=>g.a.lm.kp b o<|ak b o n e;obtain⟨gL,gB,gd,_,_⟩:=g;have a7:F'.lg.length<=24000:=by
  have:=gB.b1;rw[g1];show(dL W 0 (W.G.bo "" "") ⟨0,nI<|hr0 tr i,none⟩).S.lg.length<=_;lia
 have T:=gL.le;rw[<-show dL W 0 (W.G.bo "" "") ⟨0,nI<|hr0 tr i,none⟩=iF W.G W.mo 0 (W.G.bo "" "") ⟨0,nI<|hr0 tr i,none⟩ from rfl]at g1 g2 g3;generalize dL W 0 (W.G.bo "" "") ⟨0,nI<|hr0 tr i,none⟩=u at gL gB gd T g1 g2 g3;exists _,rfl,rn,_,rfl,r (Sum.inr "end") gL rfl,_,rfl;rcases g3 with ⟨z1,z2,z3⟩ | ⟨n,z1,z2⟩
 .rw[z1]at T;cases T;refine cT ⟨s2,λm a8=>?_⟩;have B:=gL.new (o:=.tup [.str "done",.non]) a8;have f5:=f4.trans<|FrS.new (o:=.tup [.str "done",.non]) a8;have e5:upd H4 m (.tup [.str "done",.non]) m=some (.tup [.str "done",.non]):=zb1;generalize upd H4 m (.tup [.str "done",.non])=X at B f5 e5;subst z2 z3;refine⟨_,rfl,rn,_,rfl,r (Sum.inr "log") B rfl,j.lo,_,rfl,.inl ⟨SqL.of B.lo,λtl L=>?_⟩⟩;have C:=B.new (o:=.tup<|j.ls.map V.ref) L;have f6:=f5.trans<|FrS.new (o:=.tup<|j.ls.map V.ref) L;have e6:upd X tl (.tup<|j.ls.map V.ref) tl=some (.tup<|j.ls.map V.ref):=zb1;have Y:=(Tup.new (o:=.tup<|j.ls.map V.ref) L) _ _ e5;generalize upd X tl (.tup<|j.ls.map V.ref)=H6 at C f6 e6 Y;refine⟨_,rfl,rn,_,rfl,r (Sum.inr "looks") C rfl,_,rfl,s3,λl hl=>?_⟩;have a6:=C.new (o:=.tup [.ref tl,.int u.S.lk,.ref m]) hl;refine⟨_,rfl,_,rfl,rn,_,rfl,r (Sum.inr "left") a6 rfl,_,_,rfl,rfl,s2,λpr M=>?_⟩;have tt:=(Tup.new (o:=.tup [.ref tl,.int u.S.lk,.ref m]) hl).trans<|Tup.new (o:=.tup [.ref l,.int<|(W.mo:Int)-((W.mo:Int)-u.dn)]) M;refine q pr l _ F' _ _ _ ((f6.trans<|FrS.new hl).trans<|FrS.new M) zb1 t ⟨tl,m,j.ls,?_,tt _ _ e6,?_,tt _ _ Y⟩ a7
  .rw[g2];exact(Tup.new M) _ _ zb1
  .rw[g1];exact(C.li.lg.imp λ_ _ h=>tt _ _ h)
 .rw[z1]at T;cases T with
  | @«end» _ _ m e5=>
  have B:=gL;have f5:=f4;refine bF ⟨_,rfl,rn,_,rfl,r (Sum.inr "end") gL rfl,?_⟩;subst z2;generalize H4=X at B f5 e5;refine⟨_,rfl,rn,_,rfl,r (Sum.inr "log") B rfl,j.lo,_,rfl,.inl ⟨SqL.of B.lo,λtl L=>?_⟩⟩;have C:=B.new (o:=.tup<|j.ls.map V.ref) L;have f6:=f5.trans<|FrS.new (o:=.tup<|j.ls.map V.ref) L;have e6:upd X tl (.tup<|j.ls.map V.ref) tl=some (.tup<|j.ls.map V.ref):=zb1;have Y:=(Tup.new (o:=.tup<|j.ls.map V.ref) L) _ _ e5;generalize upd X tl (.tup<|j.ls.map V.ref)=H6 at C f6 e6 Y;refine⟨_,rfl,rn,_,rfl,r (Sum.inr "looks") C rfl,_,rfl,s3,λl hl=>?_⟩;have a6:=C.new (o:=.tup [.ref tl,.int u.S.lk,.ref m]) hl;refine⟨_,rfl,_,rfl,rn,_,rfl,r (Sum.inr "left") a6 rfl,_,_,rfl,rfl,s2,λpr M=>?_⟩;have tt:=(Tup.new (o:=.tup [.ref tl,.int u.S.lk,.ref m]) hl).trans<|Tup.new (o:=.tup [.ref l,.int<|(W.mo:Int)-((W.mo:Int)-u.dn)]) M;refine q pr l _ F' _ _ _ ((f6.trans<|FrS.new hl).trans<|FrS.new M) zb1 t ⟨tl,m,j.ls,?_,tt _ _ e6,?_,tt _ _ Y⟩ a7
  .rw[g2];exact(Tup.new M) _ _ zb1
  .rw[g1];exact(C.li.lg.imp λ_ _ h=>tt _ _ h)
abbrev hJ:Stmt:=top 77
def KindsAt.uq(a:KindsAt H p tr)(b:KindsAt H p tr'):tr=tr':=by
 obtain⟨E,us,x,y,m,n,f,s⟩:=a;obtain⟨A,G,I,C,j,l,u,q⟩:=b;rw[m]at j;cases j;rw[n]at l;have:=wB<|HO.tup.inj<|gJ l;subst this;refine List.ext_getElem (f.symm.trans u) λi h1 h2=>?_;have h:i<↑us:=by rw[f];exact h1
 obtain⟨v,e⟩:=s i _ _ (bD h)<|bD h1;obtain⟨B,d⟩:=q i _ _ (bD h)<|bD h2;rw[e]at d;injection d with d;injection d with d;injection d with e1 e2;injection e2 with e2 _;generalize tr[i]=z at e1 e2;generalize tr'[i]=w at e1 e2;obtain⟨k,o⟩:=z;obtain⟨r,o'⟩:=w;obtain rfl:k=r:=V.str.inj e1;cases o <;> cases o' <;> first | rfl | cases e2;rfl | cases e2
inductive mP(K:Fq)(vs:List V)(H:Hp)(Q:VK):Prop
 | mk(a:Addr)(ns:List Int)(h1:vs=[.ref a])(h2:SqL K H a (ns.map V.int))(h3:↑ns<=63)(h4:∀H',Q (.bl true) H'):mP K vs H Q
def CG(K:Fq):Sp:=λvs H Q _=>mP K vs H Q
inductive AG(K:Fq)(a:Addr)(ns:List Int)(i:Nat)(σ:St)(Hx:Hp):Prop
 | mk(x1 x2 x3:Option V)(h1:σ=[some<|.ref a,x1,x2,x3])(h2:SqL K Hx a (ns.map V.int)):AG K a ns i σ Hx
inductive QY(H1:Hp)(xs:List (Option V))(i:Nat)(σ:St)(Hx:Hp):Prop
 | mk(x:Option V)(hσ:σ=xs++[x])(fr:FrS [] H1 Hx):QY H1 xs i σ Hx
def VC(h:SqL K H a xs)(f:∀b o,H b=some o->H' b=some o):SqL K H' a xs:=by
 rcases h with (h | ⟨o,h⟩) | h
 .exact .inl<|.inl<|f _ _ h
 .exact .inl<|.inr ⟨o,f _ _ h⟩
 .exact .inr h
section
variable{Y:Ry}{mg:Str->Option Value}{base:Heap}{f:Addr}{fd:FuncData}
def xn8:bY ["_law_script","_law_k","_law_program_here","_law_most"] ["_law_script"] (bR hJ):=cC
def sF{k:Nat}(F:Fun Y.K "law" "law" hJ f fd)(HN:aT Y.pr Y.w Y.K mg base k "_law_hand" ["_law_script","_law_k"] (GN Y.K))(PR:aT Y.pr Y.w Y.K mg base k "_law_program" [qH,"_law_most"] GX)(LE:aT Y.pr Y.w Y.K mg base k "_law_lean" EW IU)(SA:aT Y.pr Y.w Y.K mg base k "_law_same" pD (lV 3))(PL:aT Y.pr Y.w Y.K mg base k "plain_run" ["program","choices","most"] (HY Y))(RA:aT Y.pr Y.w Y.K mg base k "_law_ran" gR JK)
  (ml:mg "len"=none) (mr:mg "range"=none) (mx:mg "max"=none) (mn:mg "min"=none):aR Y.pr Y.w Y.K mg base bP (k+1) f fd ["_law_script"] (CG Y.K):=by
 refine F.ok xn8 (λvs H Q E h=>?_) λaw A outer s H vs Q E hr h=>?_
 .obtain⟨a,C,rfl,_⟩:=h;rfl
 obtain⟨a,C,rfl,hS,ai,q⟩:=h;exists _,aL (dX dO rfl (wE rfl mr<|aA (eP (TW rfl) rfl mx (by rfl')<|aA aO<|aA (eP (XO rfl) rfl mn (by rfl')<|aA (eP jE rfl ml iJ<|aA (pv 0) aE)<|aA aO aE) aE) aE) (gL 1 xn8.nd)
   (aL (sL 2 xn8.nd<|bB LE hr rfl<|aA (bB PR hr rfl<|aA (bB HN hr rfl<|aA (pv 0)<|aA (pv 1) aE)<|aA aO aE)<|aA (bV<|kK<|kK<|kK aE) aE)<|aS<|dX dO rfl (fU<|bV<|aA aO<|aA aO aE) (gL 3 xn8.nd)<|aS<|cI (qN<|zW<|bB SA hr rfl<|aA (bB PL hr rfl<|aA (pv 2)<|aA (bV aE)<|aA (pv 3) aE)<|aA (eT (bB RA hr rfl<|aA (pv 2)<|aA (bV aE)<|aA (pv 3) aE) aO) aE) (aS<|bT xP) cZ))
  (aS<|bT xP)
 ac_rfl
 have s2:2<=sizeLine:=cL (bH<|by decide);have s3:3<=sizeLine:=cL (bH<|by decide);exists _,rfl,a,_,rfl,.inl hS,_,_,rfl,_,_,rfl;obtain⟨I,am,ax⟩:∃I:Int,(if (if (9:Int)<((↑(C.map V.int):Nat):Int) then(9:Int) else((↑(C.map V.int):Nat):Int)) > 1 then(if (9:Int)<((↑(C.map V.int):Nat):Int) then(9:Int) else((↑(C.map V.int):Nat):Int)) else 1)=I/\I<=9/\1<=I:=by
  exists _,rfl,?_
  .split <;> (try split) <;> lia
  .split <;> (try split) <;> lia
 rw[am];refine⟨I,rfl,by lia,by lia,?_⟩;refine EM (lo:=0) (n:=I.toNat) (AG Y.K a C) ⟨_,_,_,rfl,hS⟩ ?_ λσ N _=>q N;rintro i σ N hi ⟨x1,x2,x3,rfl,ac⟩;refine⟨_,rfl,_,rfl,a,C,i,by rw[Int.zero_add];rfl,ac,ai,by lia,λhd d m af hok=>?_⟩;generalize V.int (0+(i:Nat))=ak;have as:Hand (upd N hd<|hl d m 0 0) hd d m 0 0:=Hand.at hok;refine⟨hd,60,d,m,0,0,rfl,by decide,as,by decide,λp ks m0 tr u Z H1 d1 m1 W r1 f1 hP hK aa a7 ap hN hh ht=>?_⟩;refine⟨s3,λwt ab=>?_⟩;have k1:∀b o,N b=some o->H1 b=some o:=λb o e=>f1 b o (by simpa using aP e af) (by rw[aC<|aP e af];exact e)
 have W:Tup H1 (upd H1 wt<|.tup<|w3.map V.str):=Tup.new ab;have f2:FrS [] H1 (upd H1 wt<|.tup<|w3.map V.str):=FrS.new ab;refine⟨Z,p,wt,ks,m0,tr,u,rfl,hP.keep W,hK.keepT W,ap.keep W,a7,hN,zb1,λp' ag m' H3 f3 au ah a6 ao an=>?_⟩;obtain⟨G,Ls,k',hG,a5⟩:=HZ (Y:=Y) au ah aa a7 a6 ao an;have k3:∀b o,N b=some o->H3 b=some o:=λb o e=>f3 b o aX<|f2 b o aX<|k1 b o e;have g0:=a5 H3 FrS.refl;obtain⟨aj,a9⟩:=g0.pg;obtain rfl:tr=aj:=ah.uq a9.kn;refine⟨s2,λT hT=>⟨T,rfl,⟨_,SqT.of zb1⟩,?_⟩⟩;have f4:FrS [] H3 (upd H3 T<|.tup [.int 100,.int 1000]):=FrS.new hT;have h4:upd H3 T (.tup [.int 100,.int 1000]) T=some (.tup [.int 100,.int 1000]):=zb1;generalize upd H3 T (.tup [.int 100,.int 1000])=H4 at f4 h4;refine jC (xs:=[.int 100,.int 1000]) (QY H4 [some<|.ref a,some ak,some<|.ref p']) ⟨_,rfl,FrS.refl⟩ ?_ ?_ ?_
 .rintro j σ B hj ⟨_,_,L⟩;exact SqT.of<|L _ _ aX h4
 .rintro j x σ B hx ⟨y,rfl,L⟩;obtain⟨J,rfl,a0⟩:∃J:Nat,x=.int J/\J<=2000:=by
   have:=cW hx;rcases wm9.mp this with rfl | this
   .exact⟨100,rfl,by decide⟩
   .rw[wn1.mp this];exact⟨1000,rfl,by decide⟩
  obtain⟨S',e,v,t⟩:=Rn.all G J _ 0 (oI G<|hr0 tr u)<|aU _;obtain⟨al,hv⟩:=t.fl λr hr=>nomatch hr;refine⟨_,rfl,bM _,λM ad=>?_⟩;have f5:FrS [] H3 (upd B M<|.tup []):=(f4.trans L).trans<|FrS.new ad;have ae:FrS [] B (upd B M<|.tup []):=FrS.new ad;have h5:upd B M (.tup []) M=some (.tup<|G.ch.map V.int):=by rw[hG];exact zb1
  generalize upd B M (.tup [])=H5 at f5 ae h5;refine⟨_,rfl,⟨iQ Z,H5,p',G⟩,M,ag,m',tr,u,Ls,k',J,S',e,v,rfl,λH' f=>a5 H'<|f5.trans f,h5,a0,t,λl tl el ls X f6 a1 a2 a3 a4=>?_⟩;refine⟨_,rfl,bM _,λO av=>?_⟩;have P:FrS [] X (upd X O<|.tup []):=FrS.new av;have h7:upd X O (.tup []) O=some (.tup<|G.ch.map V.int):=by rw[hG];exact zb1
  generalize upd X O (.tup [])=H7 at P h7;have z:=a5 H7<|(f5.trans f6).trans P;refine⟨_,rfl,iQ Z,p',O,ag,m',tr,u,Ls,k',J,G,rfl,z.p,z.k,z.l,aa,a7,z.b,z.k6,h7,a9.z0,z.bo "" "",a0,a9.ln,z.pz.nm,z.pz.ln,z.nm,λpr l2 d2 S2 e2 v2 H8 f8 ar t2 a8 aq=>?_⟩;obtain⟨rfl,rfl,rfl⟩:=t.uniq t2;have t8:=Tup.of0<|P.trans f8;refine⟨pr,_,_,_,rfl,rfl,SqT.of ar,rfl,_,_,rfl,rS (gC aq<|by decide) al hv (ResAt.keep (r:=(S',e,v)) ⟨tl,el,ls,a1,a2,a3,a4⟩ t8) a8,λH9 f9=>?_⟩;exact⟨_,rfl,bF ⟨_,rfl,((((L.trans ae).trans f6).trans P).trans f8).trans f9⟩⟩
 .rintro σ B ⟨y,rfl,L⟩;exact⟨_,_,_,rfl,VC ac λb o e=>L b o aX<|f4 b o aX<|k3 b o e⟩
end
section
variable{k:Nat}{nm qn:Str}{st:Stmt}{ps:List Str}{sp:Sp}
inductive Fh(K:Fq)(nm qn:Str)(st:Stmt)(f:Addr):Prop
 | mk {od an:Option Addr} {sl:Array (Option Value)} {oc kV dc pm cd ct:Value} (l:K.lookup f=some ⟨oc,od,.func<|PySem.W.fnOf nm qn (oS st) (dP st) (bR st) .none kV dc pm an cd ct,sl⟩) (c:PySem.W.codeIn K cd qn=true) (k:PySem.W.keepIn K (.ref f)=true):Fh K nm qn st f
inductive Fg(K:Fq)(nm:Str)(st:Stmt):Prop
 | mk {f:Addr} (a:PySem.W.nsIn K mainGlobals nm=some (some<|.ref f)) (h:Fh K nm nm st f):Fg K nm st
structure Fy(K:Fq)(mg:Str->Option Value)(nm qn:Str)(st:Stmt)(ps:List Str)(f:Addr)(fd:FuncData):Prop where
 F:Fun K nm qn st f fd
 b:Binds K fd ps []
 k:PySem.W.keepIn K (.ref f)=true
def Fh.y(p:Fh K nm qn st f)(d:∀(kV a b:Value)(e:Option Addr)(h ct:Value)(us:List Value),↑us=↑ps->bindArgs (PySem.W.fnOf nm qn (oS st) (dP st) (bR st) .none kV a b e h ct) ⟨us,[]⟩=pure (ps.zip us)):∃fd,Fy K mg nm qn st ps f fd:=by
 obtain⟨l,c,k⟩:=p;have F:=PJ (st:=st) l c k;exact⟨_,F,F.binds d,k⟩
theorem Fg.y{h:Heap}(p:Fg K nm st)(X:K.In h)(G:h.Ns mainGlobals mg)(e:∀(kV b d:Value)(i:Option Addr)(j ct:Value)(us:List Value),↑us=↑ps->bindArgs (PySem.W.fnOf nm nm (oS st) (dP st) (bR st) .none kV b d i j ct) ⟨us,[]⟩=pure (ps.zip us)):∃f fd,Fy K mg nm nm st ps f fd/\mg nm=some (.ref f):=by
 obtain⟨a,p⟩:=p;obtain⟨fd,y⟩:=p.y e;exact⟨_,fd,y,uF X G a⟩
def Fy.c(y:Fy K mg nm nm st ps f fd/\mg nm=some (.ref f))(h:aR P w K mg base bP k f fd ps sp):aT P w K mg base k nm ps sp:=⟨f,fd,h,y.1.b,y.1.k,y.2⟩
def Fy.v(y:Fy K mg nm qn st ps f fd)(h:aR P w K mg base bP k f fd ps sp):pY P w K mg base k ps f sp:=⟨fd,h,y.b,y.k⟩
structure Ck(K:Fq)(x qn:Str)(st:Stmt)(fs:List Str)(C g:Addr):Prop where
 a:PySem.W.nsIn K mainGlobals x=some (some<|.ref C)
 c:Cls K C
 n:∀f∈fs,PySem.W.findIn K (.ref C) f=some none
 m:Mk K C g
 h:Fh K "__init__" qn st g
def vL{P:List Value->Prop}(h:∀a,P [a])(us:List Value)(hl:↑us=1):P us:=match us,hl with | [a],_=>h a
def fR{P:List Value->Prop}(h:∀a b,P [a,b])(us:List Value)(hl:↑us=2):P us:=match us,hl with | [a,b],_=>h a b
def jJ{P:List Value->Prop}(h:∀a b c,P [a,b,c])(us:List Value)(hl:↑us=3):P us:=match us,hl with | [a,b,c],_=>h a b c
def yT{P:List Value->Prop}(h:∀a b c d,P [a,b,c,d])(us:List Value)(hl:↑us=4):P us:=match us,hl with | [a,b,c,d],_=>h a b c d
def HE{P:List Value->Prop}(h:∀a b c d e,P [a,b,c,d,e])(us:List Value)(hl:↑us=5):P us:=match us,hl with | [a,b,c,d,e],_=>h a b c d e
def UE{P:List Value->Prop}(h:∀a b c d e f,P [a,b,c,d,e,f])(us:List Value)(hl:↑us=6):P us:=match us,hl with | [a,b,c,d,e,f],_=>h a b c d e f
def WB(F:Fun K "_law_rows" "_law_rows" DX f fd):aR P w K mg base bP (k+1) f fd jL (wO 0):=F.ok yt8 (λ_ _ _ _ h=>h.elim) λ_ _ _ _ _ _ _ _ _ h=>h.elim
def HK{CX:jB}:aR P w K mg base CX k f fd ps (λ_ _ _ _=>False):=⟨λ_ _ _ _ h=>h.elim,λ_ _ _ _ _ _ _ _ _ _ _ _ _ h=>h.elim⟩
inductive DEn(w:World):List DictEntry->List (aG×Value)->Prop
 | nil:DEn w [] []
 | cons {x:Str} {t:Tok} {v:Value} {es:List DictEntry} {kvs:List (aG×Value)} (h:DEn w es kvs):DEn w (⟨PyData.keyHash w.params x,.str x t,v⟩::es) ((Sum.inr x,v)::kvs)
def DEn.p(h:DEn w es kvs):Pairs (cB P w) es kvs/\∀e∈es,∃k,(cB P w).is k e.key=true/\e.hash=(cB P w).hash k:=by
 induction h with
 | nil=>exact⟨.nil,λe h=>nomatch h⟩
 | @cons x t v es kvs _ ih=>
  refine⟨.cons (FQ x t) rfl ih.1,λe he=>?_⟩;rcases wm9.mp he with rfl | he
  .exact⟨Sum.inr x,FQ x t,rfl⟩
  .exact ih.2 e he
def XE{a:Addr}{es:List DictEntry}{n:Nat}{kvs:List (aG×Value)}(l:K.lookup a=some ⟨.type "dict",none,.dict es.toArray n,#[]⟩)(h:DEn w es kvs)(nd:(kvs.map (·.1)).Nodup):GF P w K a kvs:=
 ⟨_,l,λhp e=>⟨_,es.toArray,_,e,⟨rfl,rfl,rfl⟩,rfl,λe he=>h.p.2 e (by simpa using he),h.p.1,nd⟩⟩
end
def GT{K:Fq}{a:Addr}{od:Option Addr}{x y:Str}{e d n:Nat}{b:Array (Option Value)}(l:K.lookup a=some ⟨.type "tuple",od,.seq #[.str x e,.str y d] n,b⟩)(H:Hp):SqT K H a [.str x,.str y]:=
 .inr ⟨_,_,_,l,rfl,rfl,dM rfl,.cons ⟨_,rfl⟩<|.cons ⟨_,rfl⟩ .nil⟩
def Ck.m'{Y:Ry}{mg:Str->Option Value}{base:Heap}{k:Nat}{x qn:Str}{st:Stmt}{fs ps:List Str}{C g:Addr}{gd:FuncData}{sp:Sp}{h:Heap}(c:Ck Y.K x qn st fs C g)(X:Y.K.In h)(G:h.Ns mainGlobals mg)(y:Fy Y.K mg "__init__" qn st ps g gd)(o:aR Y.pr Y.w Y.K mg base bP k g gd ps sp):gT Y mg base k x C ps sp:=⟨g,gd,o,y.b,c.m,uF X G c.a⟩
def rQ{l:PySem.W.OpenLaw}{w:World}{K:Fq}{h:Heap}{mg:Str->Option Value}{fa:Addr}(X:K.In h)(G:h.Ns mainGlobals mg)(bv:mg "law"=some (.ref fa))
  {am ah ad:Addr} {bo cb:Option Addr} {cc c5:Array (Option Value)} {bw bb nm c7 bf nh nd tb:Nat} {e1 e2 e3 e4 e5 e6 e7 e8 e9:Nat} {g1 g2 g3 g4 O g6 g7 g8 g9 c1 c2 H i1 i2 i3:Addr}
  (p1:Fg K "elders" GZ)
  (p2:Fg K "bodies" HM)
  (p3:Fg K "rows_within" LJ)
  (p4:Fg K "lay" qP)
  (p5:Fg K "laid" GP)
  (p6:Fg K "forms_of" sQ)
  (p7:Fg K "turned_back" JR)
  (p8:Fg K "add_due" sD)
  (p9:Fg K "do_row" KC)
  (ce:Fg K "run_on" HV)
  (bt:Fg K "whole_run" KS)
  (bu:Fg K "plain_run" GY)
  (c6:Fg K "_law_hand" GQ)
  (ba:Fg K "_law_take" HQ)
  (bh:Fg K "_law_of" DS)
  (b9:Fg K "_law_words" mF)
  (bk:Fg K "_law_tree" GI)
  (bi:Fg K "_law_world" oW)
  (bx:Fg K "_law_line" KQ)
  (bc:Fg K "_law_has" tF)
  (bz:Fg K "_law_variable" uW)
  (bq:Fg K "_law_target" rZ)
  (bp:Fg K "_law_make" JU)
  (cf:Fg K "_law_args" HJ)
  (be:Fg K "_law_call" KO)
  (br:Fg K "_law_field" HB)
  (bg:Fg K "_law_row" uM)
  (bd:Fg K "_law_rows" DX)
  (bs:Fg K "_law_deed" HG)
  (c8:Fg K "_law_program" FZ)
  (c4:Fg K "_law_without" IF)
  (ch:Fg K "_law_lean" IC)
  (ca:Fg K "_law_same" GC)
  (b7:Fg K "_law_marked" uA)
  (bj:Fg K "_law_new_run" cM)
  (cg:Fg K "_law_ups" pU)
  (b6:Fg K "_law_do_plain" sW)
  (b8:Fg K "_law_do" qY)
  (c0:Fg K "_law_ran" pV)
  (pL:Fg K "law" hJ)
  (q1:Fh K "do_make" "do_make" FS g1)
  (q2:Fh K "do_copy" "do_copy" KU g2)
  (q3:Fh K "do_put" "do_put" rN g3)
  (q4:Fh K "do_take" "do_take" JA g4)
  (q5:Fh K "do_say" "do_say" rH O)
  (q8:Fh K "do_bring" "do_bring" LF g8)
  (N:Ck K "Thing" "Thing.__init__" pW OJ c1 i1)
  (M:Ck K "Due" "Due.__init__" pJ QW c2 i2)
  (J:Ck K "Run" "Run.__init__" JM MO H i3)
  (aq:c2≠H) (ao:c1≠H)
  (aM:PySem.W.nsIn K mainGlobals "MAIN"=some (some<|.ref am)) (lM:K.lookup am=some ⟨.type "tuple",bo,.seq #[.str "" bw,.str "" bb] nm,cc⟩)
  (aH:PySem.W.nsIn K mainGlobals "HOLDERS"=some (some<|.ref ah)) (lH:K.lookup ah=some ⟨.type "tuple",cb,.seq #[.str "either" c7,.str "again" bf] nh,c5⟩)
  (aB:PySem.W.nsIn K mainGlobals "BACK"=some (some<|.str "back" tb))
  (aD:PySem.W.nsIn K mainGlobals "DOERS"=some (some<|.ref ad)) (lD:K.lookup ad=some ⟨.type "dict",none,.dict #[⟨PyData.keyHash w.params "make",.str "make" e1,.ref g1⟩,⟨PyData.keyHash w.params "copy",.str "copy" e2,.ref g2⟩,⟨PyData.keyHash w.params "put",.str "put" e3,.ref g3⟩,⟨PyData.keyHash w.params "take",.str "take" e4,.ref g4⟩,⟨PyData.keyHash w.params "say",.str "say" e5,.ref O⟩,⟨PyData.keyHash w.params "either",.str "either" e6,.ref g6⟩,⟨PyData.keyHash w.params "again",.str "again" e7,.ref g7⟩,⟨PyData.keyHash w.params "bring",.str "bring" e8,.ref g8⟩,⟨PyData.keyHash w.params "call",.str "call" e9,.ref g9⟩] nd,#[]⟩)
  (z:∀x∈(["len","abs","int","range","tuple","dict","list","any","zip","enumerate","sorted","max","min","reversed","all","isinstance","bool","str"]:List Str),PySem.W.nsIn K mainGlobals x=some none):
  ∃fd:FuncData,(∀(s:Shared)(v:Value),BindsTo s fd ⟨[v],[]⟩ [("_law_script",v)])/\∀base:Heap,K.In base->base.Ns mainGlobals mg->aR l.prog w K mg base bP 65 fa fd ["_law_script"] (CG K):=by
 have mM:=uF X G aM;have mH:=uF X G aH;have mB:∃tk,mg "BACK"=some (.str "back" tk):=⟨_,uF X G aB⟩;have mD:=uF X G aD;obtain⟨_,_,y1⟩:=p1.y (ps:=["program","kind"]) X G λ_ _ _ _ _ _=>fR λ_ _=>rfl;obtain⟨_,_,y2⟩:=p2.y (ps:=qK) X G λ_ _ _ _ _ _=>vL λ_=>rfl;obtain⟨_,_,y3⟩:=p3.y (ps:=["row"]) X G λ_ _ _ _ _ _=>vL λ_=>rfl;obtain⟨_,_,y4⟩:=p4.y (ps:=AJ) X G λ_ _ _ _ _ _=>jJ λ_ _ _=>rfl;obtain⟨_,_,y5⟩:=p5.y (ps:=["program"]) X G λ_ _ _ _ _ _=>vL λ_=>rfl;obtain⟨_,_,y6⟩:=p6.y (ps:=["made"]) X G λ_ _ _ _ _ _=>vL λ_=>rfl;obtain⟨_,_,y7⟩:=p7.y (ps:=["made","came"]) X G λ_ _ _ _ _ _=>fR λ_ _=>rfl;obtain⟨_,_,y8⟩:=p8.y (ps:=lP) X G λ_ _ _ _ _ _=>jJ λ_ _ _=>rfl;obtain⟨_,_,y9⟩:=p9.y (ps:=["run","due","most"]) X G λ_ _ _ _ _ _=>jJ λ_ _ _=>rfl;obtain⟨_,_,b1⟩:=ce.y (ps:=["run","most"]) X G λ_ _ _ _ _ _=>fR λ_ _=>rfl;obtain⟨_,_,as⟩:=bt.y (ps:=ET) X G λ_ _ _ _ _ _=>yT λ_ _ _ _=>rfl;obtain⟨_,_,b4⟩:=bu.y (ps:=["program","choices","most"]) X G λ_ _ _ _ _ _=>jJ λ_ _ _=>rfl;obtain⟨_,_,af⟩:=c6.y (ps:=["_law_script","_law_k"]) X G λ_ _ _ _ _ _=>fR λ_ _=>rfl;obtain⟨_,_,a3⟩:=ba.y (ps:=qB) X G λ_ _ _ _ _ _=>fR λ_ _=>rfl;obtain⟨_,_,b3⟩:=bh.y (ps:=qC) X G λ_ _ _ _ _ _=>fR λ_ _=>rfl;obtain⟨_,_,ar⟩:=b9.y (ps:=qB) X G λ_ _ _ _ _ _=>fR λ_ _=>rfl;obtain⟨_,_,ac⟩:=bk.y (ps:=[qH]) X G λ_ _ _ _ _ _=>vL λ_=>rfl;obtain⟨_,_,au⟩:=bi.y (ps:=[qH]) X G λ_ _ _ _ _ _=>vL λ_=>rfl;obtain⟨_,_,aj⟩:=bx.y (ps:=qG) X G λ_ _ _ _ _ _=>fR λ_ _=>rfl;obtain⟨_,_,ag⟩:=bc.y (ps:=qE) X G λ_ _ _ _ _ _=>jJ λ_ _ _=>rfl;obtain⟨_,_,b0⟩:=bz.y (ps:=qA) X G λ_ _ _ _ _ _=>jJ λ_ _ _=>rfl;obtain⟨_,_,a6⟩:=bq.y (ps:=qA) X G λ_ _ _ _ _ _=>jJ λ_ _ _=>rfl;obtain⟨_,_,ay⟩:=bp.y (ps:=qA) X G λ_ _ _ _ _ _=>jJ λ_ _ _=>rfl;obtain⟨_,_,aa⟩:=cf.y (ps:=qD) X G λ_ _ _ _ _ _=>HE λ_ _ _ _ _=>rfl;obtain⟨_,_,b2⟩:=be.y (ps:=qF) X G λ_ _ _ _ _ _=>yT λ_ _ _ _=>rfl;obtain⟨_,_,a7⟩:=br.y (ps:=qA) X G λ_ _ _ _ _ _=>jJ λ_ _ _=>rfl;obtain⟨_,_,az⟩:=bg.y (ps:=jQ) X G λ_ _ _ _ _ _=>HE λ_ _ _ _ _=>rfl;obtain⟨_,_,q⟩:=bd.y (ps:=jL) X G λ_ _ _ _ _ _=>UE λ_ _ _ _ _ _=>rfl;obtain⟨_,_,aw⟩:=bs.y (ps:=CT) X G λ_ _ _ _ _ _=>yT λ_ _ _ _=>rfl;obtain⟨_,_,ab⟩:=c8.y (ps:=[qH,"_law_most"]) X G λ_ _ _ _ _ _=>fR λ_ _=>rfl;obtain⟨_,_,a9⟩:=c4.y (ps:=EV) X G λ_ _ _ _ _ _=>fR λ_ _=>rfl;obtain⟨_,_,a5⟩:=ch.y (ps:=EW) X G λ_ _ _ _ _ _=>fR λ_ _=>rfl;obtain⟨_,_,A⟩:=ca.y (ps:=pD) X G λ_ _ _ _ _ _=>fR λ_ _=>rfl;obtain⟨_,_,T⟩:=b7.y (ps:=iR) X G λ_ _ _ _ _ _=>fR λ_ _=>rfl;obtain⟨_,_,ap⟩:=bj.y (ps:=gR) X G λ_ _ _ _ _ _=>jJ λ_ _ _=>rfl;obtain⟨_,_,ak⟩:=cg.y (ps:=lL) X G λ_ _ _ _ _ _=>fR λ_ _=>rfl;obtain⟨_,_,ax⟩:=b6.y (ps:=lS) X G λ_ _ _ _ _ _=>yT λ_ _ _ _=>rfl;obtain⟨_,_,ae⟩:=b8.y (ps:=lA) X G λ_ _ _ _ _ _=>jJ λ_ _ _=>rfl;obtain⟨_,_,a4⟩:=c0.y (ps:=gR) X G λ_ _ _ _ _ _=>jJ λ_ _ _=>rfl;obtain⟨_,w1⟩:=q1.y (mg:=mg) (ps:=fP) λ_ _ _ _ _ _=>fR λ_ _=>rfl;obtain⟨_,w2⟩:=q2.y (mg:=mg) (ps:=fP) λ_ _ _ _ _ _=>fR λ_ _=>rfl;obtain⟨_,w3⟩:=q3.y (mg:=mg) (ps:=fP) λ_ _ _ _ _ _=>fR λ_ _=>rfl;obtain⟨_,w4⟩:=q4.y (mg:=mg) (ps:=fP) λ_ _ _ _ _ _=>fR λ_ _=>rfl;obtain⟨_,w5⟩:=q5.y (mg:=mg) (ps:=fP) λ_ _ _ _ _ _=>fR λ_ _=>rfl;obtain⟨_,w8⟩:=q8.y (mg:=mg) (ps:=fP) λ_ _ _ _ _ _=>fR λ_ _=>rfl;obtain⟨_,v1⟩:=N.h.y (mg:=mg) (ps:=iI) λ_ _ _ _ _ _=>fR λ_ _=>rfl;obtain⟨_,v2⟩:=M.h.y (mg:=mg) (ps:=iU) λ_ _ _ _ _ _=>HE λ_ _ _ _ _=>rfl;obtain⟨_,v3⟩:=J.h.y (mg:=mg) (ps:=wJ) λ_ _ _ _ _ _=>yT λ_ _ _ _=>rfl;have zz:∀x∈(["len","abs","int","range","tuple","dict","list","any","zip","enumerate","sorted","max","min","reversed","all","isinstance","bool","str"]:List Str),mg x=none:=λx hx=>PySem.W.mg_none_of X G<|z x hx;simp only[zA]at zz;obtain⟨i,z2,B,o,b,I,z7,z8,z9,bl,bn,ci,bm,b5,al,ai,av,a8,_⟩:=zz;obtain⟨a,@⟨_,an,_,_,kV,dc,pm,cd,ct,ll,c,kk⟩⟩:=pL;cases bv.symm.trans (uF X G a);refine⟨PySem.W.fnOf "law" "law" (oS hJ) (dP hJ) (bR hJ) .none kV dc pm an cd ct,λs v=>.of_eq rfl,λbase _ _=>?_⟩
 let Y:Ry:=⟨⟨c1,c2,H⟩,l.prog,w,K,aq,ao⟩
 have Z:dS Y.K Y.C:=⟨⟨N.c,N.n⟩,⟨M.c,M.n⟩,⟨J.c,J.n⟩,aq,ao⟩;have e:∀k:Nat,aT l.prog w K mg base (k+1) _ _ gG:=λk=>Fy.c a3<|UR a3.1.F;have j:∀k:Nat,aT l.prog w K mg base (k+2) _ _ (cS K):=λk=>Fy.c b3<|yU b3.1.F (e k) i;have Wd:∀k:Nat,aT l.prog w K mg base (k+2) _ _ EA:=λk=>Fy.c ar<|UQ ar.1.F (e k) i o B;have Tr:∀k:Nat,aT l.prog w K mg base (k+3) _ _ GR:=λk=>Fy.c ac<|ZK ac.1.F (e<|k+1) (j k) (Wd k) i bl;have Wo:∀k:Nat,aT l.prog w K mg base (k+4) _ _ GE:=λk=>Fy.c au<|TY au.1.F (e<|k+2) (j<|k+1) (Wd<|k+1) (Tr k) I o B;have P:∀k:Nat,aT l.prog w K mg base (k+1) _ _ AX:=λk=>Fy.c aj<|YC aj.1.F I;have Ha:∀k:Nat,aT l.prog w K mg base (k+2) _ _ IY:=λk=>Fy.c ag<|rT ag.1.F (P k) z8;have E:∀k:Nat,aT l.prog w K mg base (k+3) _ _ nX:=λk=>Fy.c b0<|uE b0.1.F (e<|k+1) (j k) z7;have L:∀k:Nat,aT l.prog w K mg base (k+3) _ _ qZ:=λk=>Fy.c a6<|pQ a6.1.F<|j k;have Ma:∀k:Nat,aT l.prog w K mg base (k+4) _ _ DC:=λk=>Fy.c ay<|XL ay.1.F (e<|k+2) (j<|k+1)<|L k;have Ar:∀k:Nat,aT l.prog w K mg base (k+4) _ _ HU:=λk=>Fy.c aa<|UA aa.1.F (e<|k+2) (j<|k+1) (E k) (P<|k+2) b;have Ca:∀k:Nat,aT l.prog w K mg base (k+5) _ _ yE:=λk=>Fy.c b2<|VB b2.1.F (e<|k+3) (j<|k+2) (E<|k+1) (P<|k+3) (L<|k+1) (Ha<|k+2) (Ma k)<|Ar k;have Fi:∀k:Nat,aT l.prog w K mg base (k+4) _ _ IG:=λk=>Fy.c a7<|As a7.1.F (e<|k+2) (j<|k+1) (E k)<|L k;have Rz:∀k:Nat,aT l.prog w K mg base (k+1) _ _ (wO 0):=λk=>Fy.c q<|WB q.1.F;have Row:∀(n k:Nat),aT l.prog w K mg base (k+5) "_law_rows" jL (wO n)->aT l.prog w K mg base (k+6) "_law_row" jQ (KL n):=λn k R=>Fy.c az<|pF az.1.F (e<|k+4) (j<|k+3) (E<|k+2) (L<|k+2) (Ma<|k+1) (Fi<|k+1) (Ca k) R o i b;have u:∀(n k:Nat),aT l.prog w K mg base (k+7+2*n) "_law_rows" jL (tS n):=by
  intro n
  induction n with
  | zero=>intro k;exact Fy.c q<|MW q.1.F (e<|k+5) (Row 0 k<|Rz<|k+4) o b
  | succ n ih=>
   intro k;have R1:=Row (n+1) (k+2+2*n) (by have:=ih k;rwa [show k+2+2*n+5=k+7+2*n by lia]);have R2:aT l.prog w K mg base (k+2+2*n+6+1) "_law_rows" jL (tS<|n+1):=Fy.c q<|MW q.1.F (by have:=e<|k+2+2*n+5;exact this) R1 o b;rwa [show k+7+2*(n+1)=k+2+2*n+6+1 by lia]
 have R4:∀k:Nat,aT l.prog w K mg base (k+15) "_law_rows" jL (tS 4):=λk=>u 4 k;have De:∀k:Nat,aT l.prog w K mg base (k+16) _ _ CK:=λk=>Fy.c aw<|UW aw.1.F (e<|k+14) (j<|k+13) (E<|k+12) (R4 k) i z7 z9 I b;have Pr:∀k:Nat,aT l.prog w K mg base (k+17) _ _ GX:=λk=>Fy.c ab<|TN ab.1.F (e<|k+15) (j<|k+14) (Wo<|k+12) (De k) (R4<|k+1) i o b bn;have Hn:∀k:Nat,aT l.prog w K mg base (k+1) _ _ (GN K):=λk=>Fy.c af<|YX af.1.F i z2 B;have Bo:∀k:Nat,aT l.prog w K mg base (k+1) _ _ (GS K):=λk=>Fy.c y2<|YS y2.1.F mM (GT lM) b;have Wi:∀k:Nat,aT l.prog w K mg base (k+1) _ _ GL:=λk=>Fy.c y3<|SV y3.1.F mH<|GT lH;have Ly:∀k:Nat,aT l.prog w K mg base (k+2) _ _ lZ:=λk=>Fy.c y4<|xT y4.1.F (Wi k) (Fy.c y4 HK) i b;have Ld:∀k:Nat,aT l.prog w K mg base (k+3) _ _ (FC l.prog w K):=λk=>Fy.c y5<|An y5.1.F (Bo<|k+1)<|Ly k;have El:∀k:Nat,aT l.prog w K mg base (k+1) _ _ FW:=λk=>Fy.c y1<|TC y1.1.F b;have Fm:∀k:Nat,aT l.prog w K mg base (k+1) _ _ EX:=λk=>Fy.c y6<|qI y6.1.F;have Tb:∀k:Nat,aT l.prog w K mg base (k+1) _ _ rM:=λk=>Fy.c y7<|zN y7.1.F b;have Mt:∀k:Nat,gT Y mg base (k+1) "Thing" Y.C.th iI (DA Y.C.th):=λk=>Ck.m' (Y:=Y) N X G v1<|uV (Y:=Y) v1.F Z;have Md:∀k:Nat,gT Y mg base (k+1) "Due" Y.C.du iU (BU Y.C.du):=λk=>Ck.m' (Y:=Y) M X G v2<|rC (Y:=Y) v2.F Z;have AD:∀k:Nat,aT l.prog w K mg base (k+3) _ _ (KF Y):=λk=>Fy.c y8<|qU (Y:=Y) y8.1.F Z (Md k) b5;have Ds:∀k:Nat,nU Y mg base (k+3):=λk=>by
  refine⟨ad,_,mD,XE (K:=K) lD (.cons<|.cons<|.cons<|.cons<|.cons<|.cons<|.cons<|.cons<|.cons<|.nil) (by show([Sum.inr "make",Sum.inr "copy",Sum.inr "put",Sum.inr "take",Sum.inr "say",Sum.inr "either",Sum.inr "again",Sum.inr "bring",Sum.inr "call"]:List aG).Nodup;rfl'),λd=>?_⟩;cases d with
  | op n a r m=>
   cases r with
   | make x y=>exact⟨g1,_,rfl,w1.v<|AB (Y:=Y) w1.F Z<|Mt k,⟨_,_,_,_,_,rfl⟩⟩
   | copy x y=>exact⟨g2,_,rfl,w2.v<|XV (Y:=Y) w2.F Z,⟨_,_,_,_,_,rfl⟩⟩
   | put x f y=>exact⟨g3,_,rfl,w3.v<|tM (Y:=Y) w3.F Z,⟨_,_,_,_,_,_,rfl⟩⟩
   | take x y f=>exact⟨g4,_,rfl,w4.v<|AH (Y:=Y) w4.F Z,⟨_,_,_,_,_,_,rfl⟩⟩
   | say x=>exact⟨O,_,rfl,w5.v<|qL (Y:=Y) w5.F Z,⟨_,_,_,_,rfl⟩⟩
   | bring x=>exact⟨g8,_,rfl,w8.v<|yO (Y:=Y) w8.F Z (El<|k+1) (Tb<|k+1)<|Fm<|k+1,⟨_,_,_,_,rfl⟩⟩
 have DR:∀k:Nat,aT l.prog w K mg base (k+4) _ _ (FR Y):=λk=>Fy.c y9<|XH (Y:=Y) y9.1.F Z<|Ds k;have RO:∀k:Nat,aT l.prog w K mg base (k+5) _ _ (tY Y):=λk=>Fy.c b1<|ZM (Y:=Y) b1.1.F Z (DR k) mB;have Mr:∀k:Nat,gT Y mg base (k+4) "Run" Y.C.rn wJ (CU Y):=λk=>Ck.m' (Y:=Y) J X G v3<|WJ (Y:=Y) v3.F Z (Fm<|k+2)<|Ld k;have WH:∀k:Nat,aT l.prog w K mg base (k+6) _ _ (qQ Y):=λk=>Fy.c as<|UB (Y:=Y) as.1.F Z (Mr k) (AD<|k+2) (RO k) mM (GT lM) b;have PL:∀k:Nat,aT l.prog w K mg base (k+7) _ _ (HY Y):=λk=>Fy.c b4<|Bl (Y:=Y) b4.1.F<|WH k;have Sm:∀(n k:Nat),aT l.prog w K mg base (k+1+n) "_law_same" pD (lV n):=by
  intro n
  induction n with
  | zero=>intro k;exact Fy.c A<|ON A.1.F (Fy.c A HK) ai b av a8 B i al z9
  | succ n ih=>intro k;exact Fy.c A<|ON A.1.F (ih k) ai b av a8 B i al z9
 have Up:∀k:Nat,aT l.prog w K mg base (k+1) _ _ IB:=λk=>Fy.c ak<|rA ak.1.F;have Lp:∀k:Nat,aT l.prog w K mg base (k+2) _ _ JS:=λk=>Fy.c ax<|rL ax.1.F (Up k) i;have c9:∀k:Nat,aT l.prog w K mg base (k+3) _ _ JQ:=λk=>Fy.c ae<|sA ae.1.F<|Lp k;have Mk:∀k:Nat,aT l.prog w K mg base (k+1) _ _ vX:=λk=>Fy.c T<|rW T.1.F<|Fy.c T HK;have Nw:∀k:Nat,aT l.prog w K mg base (k+2) _ _ ID:=λk=>Fy.c ap<|uJ ap.1.F (Mk k) I z7;have Ra:∀k:Nat,aT l.prog w K mg base (k+4) _ _ JK:=λk=>Fy.c a4<|pZ a4.1.F (Nw<|k+1) (c9 k) b;have Wt:∀k:Nat,aT l.prog w K mg base (k+1) _ _ mJ:=λk=>Fy.c a9<|zG a9.1.F b;have Le:∀k:Nat,aT l.prog w K mg base (k+2) _ _ IU:=λk=>Fy.c a5<|WL a5.1.F (Wt k) b;exact sF (Y:=Y) (PJ (st:=hJ) ll c kk) (Hn 63) (Pr 47) (Le 62) (Sm 3 60) (PL 57) (Ra 60) i o ci bm
def IO{l:PySem.W.OpenLaw}{q:Program}{B:List Str}{A:(Str->Option Value)->Heap->Prop}{b:World->Heap->Prop}{d:DefRec}{K:Params->Fq}(o:l.most=some 63)(i:d.params.defaults=[])
  (m:∀(w:World)(h:Heap),b w h->(K w.params).In h)
  (F:∀(w:World)(mg:Str->Option Value)(e:Addr)(h:Heap),(K w.params).In h->h.Ns mainGlobals mg->mg d.name=some (.ref e)-> ∃fd:FuncData,(∀(s:Shared)(u:Value),BindsTo s fd ⟨[u],[]⟩ [("_law_script",u)])/\∀base:Heap,(K w.params).In base->base.Ns mainGlobals mg->aR l.prog w (K w.params) mg base bP 65 e fd ["_law_script"] (CG<|K w.params)):
  PySem.W.WalkO q B A b l.row.toRowW d [] (λf vs=>PySem.call f vs):=
 L2.VM (n:=63) (k:=65) (x:="_law_script") (CX:=λ_=>bP) (sp:=λw=>CG<|K w.params) o (by decide) i ⟨rfl,by decide,by decide⟩ m F (λ_ _ a j hl _ r=>⟨a,j,rfl,r,hl,λ_=>rfl⟩) λ_ _ _ _ _ z=>z
end Gn
namespace PySem.W.Fast
def tw5099674918946666991:=0
def tw12302332061109852425:=0
def tw2553881862971314026:=0
def tw2386207631596640677:=0
def tw15927055750405497643:=0
def tw9177717266682689494:=0
def tw12893069011013694664:=0
def tw6109264987611386219:=0
def tw11069090366691701998:=0
def tw4030847486461591013:=0
def tw7790029696546456672:=0
def tw2761242440513296777:=0
def tw1569990466989936155:=0
def tw7528583263954585240:=0
def tw12917996614608097198:=0
def tw6681188671418273326:=0
def tw18176956316264260001:=0
def tw14806697796262356430:=0
def tw2817985772171510275:=0
def tw17684245580496404357:=0
def tw6136106927475519145:=0
def tw1449217843437084283:=0
def tw14267619775023856707:=0
def tw16425948088545008316:=0
def tw3088987921216825205:=0
def tw4089641938621469146:=0
def tw17114573167049257416:=0
def tw8870509470975489456:=0
def tw1438165909860320251:=0
def tw99648849039985882:=0
def tw15564708735068587674:=0
def tw12834433926876986895:=0
def tw10625046050635566027:=0
def tw16218432153168713268:=0
def tw17341441226891640621:=0
def tw4369652726944621043:=0
def tw7176179806391549476:=0
def tw13569868491078403642:=0
def tw8948175503671380042:=0
def tw17861430238894505109:=0
def tw5579264183522410757:=0
def tw928381462671074934:=0
def tw13434668717190733078:=0
def tw918168455115217199:=0
def tw17370475552101055130:=0
def tw12193480746869542287:=0
def tw1792605624265945097:=0
def tw15991670317110562690:=0
def tw17627848226399279655:=0
def tw3319933859367542322:=0
def tw599611394742890829:=0
def tw8912251626040280445:=0
def tw11195246522169905591:=0
def tw3395786573512558922:=0
def tw2162816073747117642:=0
def tw3022695742920302097:=0
def tw15156297876519738567:=0
def tw5491787075118487150:=0
def tw6648114724339006282:=0
def tw4301566886432410708:=0
def tw14764196063023011669:=0
def tw13706564312083149020:=0
def tw336460761347850381:=0
def tw18436026723804992362:=0
def tw6996144575574087988:=0
def tw1172079255485954963:=0
def tw8800979568457940658:=0
def tw11706489977874527568:=0
def tw17840994636473959220:=0
def tw3287235181366359730:=0
def tw13305488912045727570:=0
def tw15496411767249502835:=0
def tw10250701392612022864:=0
def tw9361590554738196855:=0
def tw17261127737959890371:=0
def tw1636070051991374646:=0
def tw7382081585871778552:=0
def tw11008016512524943072:=0
def tw6475056360700366465:=0
def tw722914079815890193:=0
def tw16347234392785250781:=0
def tw15318686199712593873:=0
def tw7475113588529486733:=0
def tw13601690745976238787:=0
def tw12039123680472079313:=0
def tw1417256115212373100:=0
def tw10690683868750785019:=0
def tw17547637980234971770:=0
def tw5858604155304896859:=0
def tw16135727245931744156:=0
def tw12228409344831557785:=0
def tw9310474534211082961:=0
def tw11198283519603675366:=0
def tw5503584495315938903:=0
def tw6841932345090466683:=0
def tw11570370068103946362:=0
def tw16197687461183523279:=0
def tw15198519848939997752:=0
def tw3649341948680141146:=0
def tw4129609615999749595:=0
def tw17203752178973139791:=0
def tw1202980479943305575:=0
def tw17233652442769069417:=0
def tw9481908522681799395:=0
def tw17629303364409012256:=0
def tw11284764678595806150:=0
def tw9229083946581876124:=0
def tw13230972182931500733:=0
def tw940855018564741430:=0
def tw6533547427046343333:=0
def tw8157217924408894307:=0
def tw9232004675301875253:=0
def tw17409569870968358064:=0
def tw2576015240765724920:=0
def tw7233673022221892987:=0
def tw6448569911454226526:=0
def tw2754873421973762518:=0
def tw16776907061929552945:=0
def tw12356715699220352225:=0
def tw10673577817362668433:=0
end PySem.W.Fast
open PySem PySem.W PyProof.Rows
set_option maxRecDepth 100000 in
set_option maxHeartbeats 0 in
theorem PySem.Challenge.cw_surecall_k06_rows_done_holds : PySem.Challenge.rw_surecall_k06_rows_done.Holds := by
 w_on;o_law;k_head;(case hw=>w_witness2)
 k_fill
 refine Gn.IO (l:=PySem.Challenge.rw_surecall_k06_rows_done) rfl rfl (fun w h Y=>PySem.W.kIn_of Y) ?F
 case F=>
  intro w mg fa h KX G a0;refine' Gn.rQ KX G a0 ⟨?a1,?l1,?c1,?k1⟩ ⟨?a2,?l2,?c2,?k2⟩ ⟨?a3,?l3,?c3,?k3⟩ ⟨?a4,?l4,?c4,?k4⟩ ⟨?a5,?l5,?c5,?k5⟩ ⟨?a6,?l6,?c6,?k6⟩ ⟨?a7,?l7,?c7,?k7⟩ ⟨?a8,?l8,?c8,?k8⟩ ⟨?a9,?l9,?c9,?k9⟩ ⟨?a10,?l10,?c10,?k10⟩ ⟨?a11,?l11,?c11,?k11⟩ ⟨?a12,?l12,?c12,?k12⟩ ⟨?a13,?l13,?c13,?k13⟩ ⟨?a14,?l14,?c14,?k14⟩ ⟨?a15,?l15,?c15,?k15⟩ ⟨?a16,?l16,?c16,?k16⟩ ⟨?a17,?l17,?c17,?k17⟩ ⟨?a18,?l18,?c18,?k18⟩ ⟨?a19,?l19,?c19,?k19⟩ ⟨?a20,?l20,?c20,?k20⟩ ⟨?a21,?l21,?c21,?k21⟩ ⟨?a22,?l22,?c22,?k22⟩ ⟨?a23,?l23,?c23,?k23⟩ ⟨?a24,?l24,?c24,?k24⟩ ⟨?a25,?l25,?c25,?k25⟩ ⟨?a26,?l26,?c26,?k26⟩ ⟨?a27,?l27,?c27,?k27⟩ ⟨?a28,?l28,?c28,?k28⟩ ⟨?a29,?l29,?c29,?k29⟩ ⟨?a30,?l30,?c30,?k30⟩ ⟨?a31,?l31,?c31,?k31⟩ ⟨?a32,?l32,?c32,?k32⟩ ⟨?a33,?l33,?c33,?k33⟩ ⟨?a34,?l34,?c34,?k34⟩ ⟨?a35,?l35,?c35,?k35⟩ ⟨?a36,?l36,?c36,?k36⟩ ⟨?a37,?l37,?c37,?k37⟩ ⟨?a38,?l38,?c38,?k38⟩ ⟨?a39,?l39,?c39,?k39⟩ ⟨?a40,?l40,?c40,?k40⟩ ⟨?lq1,?cq1,?kq1⟩ ⟨?lq2,?cq2,?kq2⟩ ⟨?lq3,?cq3,?kq3⟩ ⟨?lq4,?cq4,?kq4⟩ ⟨?lq5,?cq5,?kq5⟩ ⟨?lq8,?cq8,?kq8⟩ ⟨?ca1,⟨?cb1,?cc1,?cd1,?ce1⟩,?cf1,⟨?cg1,?ch1,?ci1,?cj1⟩,?ck1,?cl1,?cm1⟩ ⟨?ca2,⟨?cb2,?cc2,?cd2,?ce2⟩,?cf2,⟨?cg2,?ch2,?ci2,?cj2⟩,?ck2,?cl2,?cm2⟩ ⟨?ca3,⟨?cb3,?cc3,?cd3,?ce3⟩,?cf3,⟨?cg3,?ch3,?ci3,?cj3⟩,?ck3,?cl3,?cm3⟩ ?nd1 ?nd2 ?aM ?lM ?aH ?lH ?aB ?aD ?lD ?z
  (case a1 | l1 | c1 | k1=>k_is)
  (case a2 | l2 | c2 | k2=>k_is)
  (case a3 | l3 | c3 | k3=>k_is)
  (case a4 | l4 | c4 | k4=>k_is)
  (case a5 | l5 | c5 | k5=>k_is)
  (case a6 | l6 | c6 | k6=>k_is)
  (case a7 | l7 | c7 | k7=>k_is)
  (case a8 | l8 | c8 | k8=>k_is)
  (case a9 | l9 | c9 | k9=>k_is)
  (case a10 | l10 | c10 | k10=>k_is)
  (case a11 | l11 | c11 | k11=>k_is)
  (case a12 | l12 | c12 | k12=>k_is)
  (case a13 | l13 | c13 | k13=>k_is)
  (case a14 | l14 | c14 | k14=>k_is)
  (case a15 | l15 | c15 | k15=>k_is)
  (case a16 | l16 | c16 | k16=>k_is)
  (case a17 | l17 | c17 | k17=>k_is)
  (case a18 | l18 | c18 | k18=>k_is)
  (case a19 | l19 | c19 | k19=>k_is)
  (case a20 | l20 | c20 | k20=>k_is)
  (case a21 | l21 | c21 | k21=>k_is)
  (case a22 | l22 | c22 | k22=>k_is)
  (case a23 | l23 | c23 | k23=>k_is)
  (case a24 | l24 | c24 | k24=>k_is)
  (case a25 | l25 | c25 | k25=>k_is)
  (case a26 | l26 | c26 | k26=>k_is)
  (case a27 | l27 | c27 | k27=>k_is)
  (case a28 | l28 | c28 | k28=>k_is)
  (case a29 | l29 | c29 | k29=>k_is)
  (case a30 | l30 | c30 | k30=>k_is)
  (case a31 | l31 | c31 | k31=>k_is)
  (case a32 | l32 | c32 | k32=>k_is)
  (case a33 | l33 | c33 | k33=>k_is)
  (case a34 | l34 | c34 | k34=>k_is)
  (case a35 | l35 | c35 | k35=>k_is)
  (case a36 | l36 | c36 | k36=>k_is)
  (case a37 | l37 | c37 | k37=>k_is)
  (case a38 | l38 | c38 | k38=>k_is)
  (case a39 | l39 | c39 | k39=>k_is)
  (case a40 | l40 | c40 | k40=>k_is)
  (case aD=>k_is);(case lD=>k_is)
  (case lq1=>k_is);(case cq1=>k_is);(case kq1=>k_is)
  (case lq2=>k_is);(case cq2=>k_is);(case kq2=>k_is)
  (case lq3=>k_is);(case cq3=>k_is);(case kq3=>k_is)
  (case lq4=>k_is);(case cq4=>k_is);(case kq4=>k_is)
  (case lq5=>k_is);(case cq5=>k_is);(case kq5=>k_is)
  (case lq8=>k_is);(case cq8=>k_is);(case kq8=>k_is)
  (case ca1=>k_is);(case cb1=>k_is);(case cc1=>k_is);(case cd1=>k_is);(case ce1=>k_is);(case ch1=>k_is);(case cg1=>k_is);(case ci1=>k_is);(case cj1=>k_is);(case ck1=>k_is);(case cl1=>k_is);(case cm1=>k_is)
  (case cf1=>simp only[zA];refine⟨?_,?_,fun _ h=>nomatch h⟩ <;> k_is)
  (case ca2=>k_is);(case cb2=>k_is);(case cc2=>k_is);(case cd2=>k_is);(case ce2=>k_is);(case ch2=>k_is);(case cg2=>k_is);(case ci2=>k_is);(case cj2=>k_is);(case ck2=>k_is);(case cl2=>k_is);(case cm2=>k_is)
  (case cf2=>simp only[zA];refine⟨?_,?_,?_,?_,fun _ h=>nomatch h⟩ <;> k_is)
  (case ca3=>k_is);(case cb3=>k_is);(case cc3=>k_is);(case cd3=>k_is);(case ce3=>k_is);(case ch3=>k_is);(case cg3=>k_is);(case ci3=>k_is);(case cj3=>k_is);(case ck3=>k_is);(case cl3=>k_is);(case cm3=>k_is)
  (case cf3=>simp only[zA];refine⟨?_,?_,?_,?_,?_,?_,?_,?_,?_,?_,?_,?_,fun _ h=>nomatch h⟩ <;> k_is)
  (case aM | lM | aH | lH=>k_is);(case aB=>k_is)
  (case nd1=>decide);(case nd2=>decide)
  (case z=>simp only[zA];refine⟨?_,?_,?_,?_,?_,?_,?_,?_,?_,?_,?_,?_,?_,?_,?_,?_,?_,?_,fun _ h=>nomatch h⟩ <;> k_is)
#print axioms PySem.Challenge.cw_surecall_k06_rows_done_holds
end
