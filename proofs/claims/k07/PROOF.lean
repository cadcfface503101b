import PyProof.Rows.All
import Wide.All
import OpenK.AllK
import Wide.FinOn
import Lean
import PyProof.EqAt
import PyProof.EqKinds
import PyProof.TupleCall
import PyProof.NeKinds
import KE.KSortTup
import PySem.Challenge.RW_surecall_k07_choices
local macro_rules|`($x⁻¹)=>`(($x).heap.objs.size)
local macro_rules|`(↑$x)=>`(($x).length)
local macro_rules|`(tactic|exists $es,*)=>`(tactic|refine⟨$es,*, ?_⟩)
set_option maxHeartbeats 8000000
local macro_rules|`(tactic|rfl')=>`(tactic|decide +kernel)
abbrev Fq:=PySem.W.Frag
abbrev Vp:=PySem.Value->PySem.Shared->Prop
set_option Elab.async false
set_option linter.all false
set_option maxRecDepth 100000
def bF:=@List.getElem?_eq_getElem
def zz2:=@List.getElem?_eq_some_iff
def aV:=@List.not_mem_nil
def aJ:=@PySem.wpAny_bind
def bH:=@List.length_append
def bU:=@PySem.Heap.get?_push_of_some
def bO:=@List.getElem?_map
def aW:=@Nat.le_refl
def wp9:=@List.mem_cons
def bN:=@List.map_append
def wq1:=@List.mem_singleton
def cN:=@Nat.le_of_lt
def cU:=@List.mem_of_getElem?
def bP:=@PySem.Heap.lt_size
def cJ:=@List.length_cons
def bJ:=@PySem.wpAny_pure
def eX:=@List.getD_eq_getElem?_getD
def wq8:=@Option.map_eq_some_iff
def cQ:=@of_decide_eq_true
def bM:=@Nat.zero_le
def bV:=@Nat.ne_of_lt
def wr2:=@List.mem_map
def dG:=@PySem.Heap.get?_push_size
def cT:=@List.size_toArray
def eE:=@PySem.F.plainAttrs_list
def dU:=@List.length_singleton
def wr7:=@List.mem_append
def fI:=@PySem.F.slot_list_append
def fJ:=@PySem.F.type_list_append
def eJ:=@Bool.false_ne_true
def gA:=@List.take_of_length_le
def dJ:=@PySem.PassesOwn.never
def eM:=@List.length_take
def aZ:=@if_neg
def gM:=@List.mem_append_right
def fU:=@Nat.lt_of_lt_of_le
def bC:=@if_pos
def bK:=@Ne.symm
def ws9:=@List.nodup_cons
def dM:=@Nat.ne_of_gt
def fW:=@List.take_add_one
def eW:=@decide_eq_true
def wt3:=@List.all_eq_true
def iB:=@List.mem_cons_of_mem
def wt5:=@List.mem_iff_getElem?
def cF:=@congrArg
def kN:=@List.getElem?_append_right
def fY:=@List.append_nil
def gU:=@List.append_assoc
def kE:=@List.getElem?_append_left
def fS:=@List.map_cons
def gR:=@decide_eq_false
def eU:=@PySem.wpAny_field
def gX:=@Option.some.inj
def oO:=@PyProof.Rows.callWith_type1
def cY:=@or_false
def fX:=@Nat.le_trans
def iT:=@List.getElem_mem
def mS:=@PySem.wpAny_callSpecial?_slot
def lK:=@PySem.F.slot_dict_get
def nT:=@List.drop_eq_getElem_cons
def gQ:=@Nat.lt_trans
def lA:=@List.length_reverse
def jB:=@List.length_nil
def fV:=@PySem.wpAny_mono
def jY:=@PySem.wpAny_newObj_type
def iR:=@PySem.boot_len
def pX:=@PySem.Calls.callWith_builtin
def iD:=@Nat.lt_irrefl
def lE:=@PySem.Calls.spliced_cons
def kZ:=@PySem.wpAny_setField_rec
def mW:=@List.getElem_of_mem
def pN:=@PySem.builtinLookup_eq_fast
def kG:=@PySem.wpAny_call_entry
def iO:=@PySem.wpAny_holding
def gD:=@True.intro
def qL:=@PySem.Heap.get?_update_other
def kP:=@PySem.W.kia_one
def jV:=@PySem.wpAny_seqItems
def mF:=@Nat.lt_of_succ_lt
def uV:=@List.length_filter_le
def wG:=@PySem.F.plainAttrs_dict
def sN:=@List.mem_append_left
def mP:=@List.length_drop
def mQ:=@Nat.le_add_right
def DG:=@List.take_succ_eq_append_getElem
def xS:=@PySem.F.entry_dict_get
def wz8:=@beq_eq_false_iff_ne
def uO:=@PySem.mem_of_lookup
def lB:=@List.nodup_nil
def CN:=@List.mem_or_eq_of_mem_set
def wU:=@PySem.Heap.get?_update_self
def sI:=@List.mem_cons_self
def qO:=@PySem.tupleKind_room_in1
def wW:=@PySem.Calls.evalArgs_plain
def uF:=@PySem.wpAny_truthy_bool
def sT:=@PySem.Calls.spliced_nil
def jU:=@Sum.inr.inj
def nN:=@List.find?_cons
def nP:=@PySem.wpAny_specialOf
def nL:=@PySem.F.slot_zip_next
def oS:=@PySem.typeLookup_type
def vc3:=@PySem.F.slot_NoneType_hash
def DU:=@PySem.F.slot_tuple_iterator_next
def qY:=@Bool.and_eq_true
def xQ:=@PySem.wpAny_Call_Name_kw
def kX:=@List.map_map
def wL:=@Int.emod_lt_of_pos
def nU:=@PySem.Heap.size_push
def EM:=@List.getElem?_zip_eq_some
def DM:=@List.mem_of_find?_eq_some
def oY:=@List.drop_zero
def BY:=@List.forall_mem_cons
def vR:=@PySem.wpAny_passesOwn
def sC:=@Bool.eq_iff_iff
def vd6:=@PyProof.Rows.slot_tuple_getitem
def vZ:=@PySem.wpAny_Call_method
def DP:=@PySem.wpAny_comprehension_free
def xP:=@Array.size_append
def nM:=@PySem.wpAny_standAt
def BM:=@List.replicate_succ
def DZ:=@List.getElem?_cons_zero
def AS:=@List.map_congr_left
def vf4:=@List.length_eq_zero_iff
def nW:=@PySem.W.mg_of
def wX:=@List.getElem_inj
def wO:=@Nat.lt_succ_self
def eY:=@Or.inl
def xF:=@List.drop_length
def xB:=@List.take_length
def FH:=@Array.getElem?_eq_none
def xI:=@List.of_mem_zip
def wJ:=@List.nil_append
def oP:=@PySem.call_meetsIn
def DQ:=@PySem.F.type_dict_get
def wC:=@List.forIn_cons
def wR:=@Int.emod_nonneg
def zL:=@Int.toNat_natCast
def yN:=@Option.isSome_map
def tV:=@PySem.wpAny_attempt
def vh1:=@PySem.F.slot_tuple_getitem
def fQ:=@not_or
def ED:=@PySem.Around.under_plainId
def vh4:=@PySem.F.slot_dict_getitem
def xC:=@PySem.isSubtype_type
def HL:=@List.getLast?_eq_getElem?
def jD:=@if_false
def vh8:=@List.any_eq_true
def AL:=@List.lookup_cons
def FU:=@List.filterMap_cons
def FD:=@Array.length_toList
def nC:=@Nat.le_succ
def EH:=@PySem.F.plain_extend_loop
def vj4:=@PySem.F.slot_list_getattribute
def vj5:=@List.mem_filter
def wT:=@List.any_cons
def JW:=@PySem.F.args_dict_get_2
def JR:=@PySem.F.args_dict_get_3
def EQ:=@Bool.false_eq_true
def xR:=@List.map_take
def FC:=@Nat.add_sub_cancel
def DL:=@PySem.wpAny_pyIter_list
def DF:=@List.reverse_cons
def FP:=@List.flatten_cons
def DC:=@PySem.F.args_zip_next_1
def GD:=@List.foldl_append
def vk7:=@List.nodup_append
def ET:=@Option.some.injEq
def vk9:=@Nat.not_le
def xD:=@Nat.sub_self
def yK:=@List.map_drop
def tR:=@PySem.wpAny_rule
def vY:=@PySem.call_meets
def aK{α β:Type _}{f:α->β}{l:List α}:↑(l.map f)=↑l:=by simp
section
set_option autoImplicit true
set_option relaxedAutoImplicit true
namespace L2
open PySem PySem.Spec PyProof.Rows
variable{prog:Program}{w:World}{A:Around}{E:Vp}{s:Shared}
variable{X:Cx}
abbrev aF:=Sum Int Str
def iU:aF->Value->Bool
 | .inl k,v=>Value.isInt k v
 | .inr x,v=>Value.isStrOf x v
def zY(w:World):aF->Int
 | .inl k=>hashInt k
 | .inr x=>hashStr w x
def jA:∀{k:aF}{v:Value},iU k v=true->(∃i t,k=Sum.inl i/\v=Value.int i t)\/(∃x t,k=Sum.inr x/\v=Value.str x t)
 | .inl i,v,h=>by
  obtain⟨t,e⟩:=Value.isInt_shape (k:=i) (v:=v) h;exact .inl ⟨i,t,rfl,e⟩
 | .inr x,v,h=>by
  obtain⟨t,e⟩:=Value.isStrOf_shape (x:=x) (v:=v) h;exact .inr ⟨x,t,rfl,e⟩
def Dg(i:Int)(t:Tok):iU (.inl i) (.int i t)=true:=by simp[iU,Value.isInt]
def KL(x:Str)(t:Tok):iU (.inr x) (.str x t)=true:=by simp[iU,Value.isStrOf]
def vD(a b:Int):decide ((Sum.inl a:aF)=Sum.inl b)=(a == b):=by
 by_cases e:a=b
 .subst e;simp
 .have h:¬(Sum.inl a:aF)=Sum.inl b:=λq=>e<|Sum.inl.inj q;rw[gR h];exact(wz8.mpr e).symm
def rK(a b:Str):decide ((Sum.inr a:aF)=Sum.inr b)=decide (a=b):=by
 by_cases e:a=b
 .subst e;simp
 .have h:¬(Sum.inr a:aF)=Sum.inr b:=λq=>e<|jU q;rw[gR h,gR e]
def rR(a:Int)(b:Str):decide ((Sum.inl a:aF)=Sum.inr b)=false:=gR λq=>nomatch q
def tD(a:Str)(b:Int):decide ((Sum.inr a:aF)=Sum.inl b)=false:=gR λq=>nomatch q
def cI(prog:Program)(w:World):PySem.KeyKind prog w aF where
 is:=iU
 hash:=zY w
 inj:=λv a b ha hb=>by
  rcases jA ha with ⟨i,t,rfl,rfl⟩ | ⟨x,t,rfl,rfl⟩
  .rcases jA hb with ⟨j,u,rfl,e⟩ | ⟨y,u,rfl,e⟩
   .injection e with e1 _;rw[e1]
   .exact nomatch e
  .rcases jA hb with ⟨j,u,rfl,e⟩ | ⟨y,u,rfl,e⟩
   .exact nomatch e
   .injection e with e1 _;rw[e1]
 byValue:=λk v h=>by
  rcases jA h with ⟨i,t,rfl,rfl⟩ | ⟨x,t,rfl,rfl⟩ <;> rfl
 pyHash:=λhv h=>by
  rcases jA hv with ⟨i,t,rfl,rfl⟩ | ⟨x,t,rfl,rfl⟩
  .exact wpAny_pyHash_int h
  .exact wpAny_pyHash_str h
 eqBool:=λhu hv h=>by
  rcases jA hu with ⟨i,t,rfl,rfl⟩ | ⟨x,t,rfl,rfl⟩
  .rcases jA hv with ⟨j,u,rfl,rfl⟩ | ⟨y,u,rfl,rfl⟩
   .rw[vD]at h;exact wpAny_eqBool_int h
   .rw[rR]at h;exact SeqAt.EqAt.int_str i t y u _ _ _ _ h
  .rcases jA hv with ⟨j,u,rfl,rfl⟩ | ⟨y,u,rfl,rfl⟩
   .rw[tD]at h;exact SeqAt.EqAt.str_int x t j u _ _ _ _ h
   .rw[rK]at h;exact wpAny_eqBool_str h
 «strs»:=λk x t v h=>by
  rcases jA h with ⟨i,u,rfl,e⟩ | ⟨y,u,rfl,e⟩
  .exact nomatch e
  .injection e with e1 _;subst e1;cases v <;> rfl
def VZ(prog:Program)(w:World)(i:Int)(t:Tok):(cI prog w).is (.inl i) (.int i t)=true:=Dg i t
def Ah(prog:Program)(w:World)(x:Str)(t:Tok):(cI prog w).is (.inr x) (.str x t)=true:=KL x t
inductive V where
 | non | bl (b:Bool) | int (i:Int) | str (x:Str) | byt (b:Array UInt8) | flt (b:UInt64) | ref (a:Addr) | ty (n:String)
 deriving DecidableEq
def RelV:V->Value->Prop
 | .non,u=>u=Value.none
 | .bl b,u=>u=Value.bool b
 | .int i,u=>∃t,u=Value.int i t
 | .str x,u=>∃t,u=Value.str x t
 | .byt b,u=>∃t,u=Value.bytes b t
 | .flt b,u=>∃t,u=Value.float b t
 | .ref a,u=>u=Value.ref a
 | .ty n,u=>u=Value.type n
abbrev Vals:List V->List Value->Prop:=Paired RelV
theorem Vals.length{xs:List V}{us:List Value}(r:Vals xs us):↑xs=↑us:=Paired.length r
theorem Vals.get:∀{xs:List V}{us:List Value}{i:Nat}{x:V},Vals xs us->xs[i]?=some x->∃u,us[i]?=some u/\RelV x u
 | _,_,_,_,.nil,e=>by simp at e
 | _,_,0,_,.cons r _,e=>by simp at e;subst e;exact⟨_,rfl,r⟩
 | _,_,i+1,x,.cons _ t,e=>by
  obtain⟨u,h1,h2⟩:=Vals.get (i:=i) (x:=x) t (by simpa using e);exact⟨u,by simpa using h1,h2⟩
theorem Vals.set{x:V}{u:Value}(r:RelV x u):∀{xs:List V}{us:List Value}(i:Nat),Vals xs us->Vals (xs.set i x) (us.set i u)
 | _,_,_,.nil=>.nil
 | _,_,0,.cons _ t=>.cons r t
 | _,_,i+1,.cons q t=>.cons q<|Vals.set r i t
theorem Vals.append:∀{xs ys:List V}{us ws:List Value},Vals xs us->Vals ys ws->Vals (xs++ys) (us++ws)
 | _,_,_,_,.nil,s=>s
 | _,_,_,_,.cons r t,s=>.cons r<|Vals.append t s
theorem Vals.take:∀{xs:List V}{us:List Value}(n:Nat),Vals xs us->Vals (xs.take n) (us.take n)
 | _,_,0,_=>.nil
 | _,_,_+1,.nil=>.nil
 | _,_,n+1,.cons r t=>.cons r<|Vals.take n t
theorem Vals.drop:∀{xs:List V}{us:List Value}(n:Nat),Vals xs us->Vals (xs.drop n) (us.drop n)
 | _,_,0,r=>r
 | _,_,_+1,.nil=>.nil
 | _,_,n+1,.cons _ t=>Vals.drop n t
def RelO:Option V->Option Value->Prop
 | some v,some u=>RelV v u
 | none,none=>True
 | _,_=>False
def KV{κ:Type}:List (κ×V)->List (κ×Value)->Prop:=Paired λ(p:κ×V) (q:κ×Value)=>p.1=q.1/\RelV p.2 q.2
def kV:aF->V
 | .inl i=>.int i
 | .inr x=>.str x
inductive HO where
 /-- a list -/
 | lst (xs:List V)
 /-- a tuple (never changes) -/
 | tup (xs:List V)
 /-- a dict whose keys are ints and texts;one whose keys are tuples of ints and texts (the empty one is both) -/
 | dK (kvs:List (aF×V)) | dT (kvs:List (List aF×V))
 /-- a set of ints: its members,its size -/
 | set (S:Int->Bool) (n:Nat)
 /-- an instance of the class at C,its dict at dx,its attributes -/
 | ins (C dx:Addr) (fs:List (Str×V))
 /-- the dict of the instance at x -/
 | own (x:Addr)
 /-- the dict of an exception -/
 | xd (fs:List (Str×V))
 /-- a bound method,f of x -/
 | met (f x:Addr)
 /-- a range object lo,lo+1,.. below hi -/
 | rng (lo hi:Int)
 /-- a thing that is known to the object (the script;a dict while a loop walks it): read,never written while it is so -/
 | frz (o:Obj) (u:HO)
 /-- a fP object's table -/
 | tbl (ps:Array Value)
 /-- any other thing,by what is true of its one object (a def of one's own: SetO a S n:=HO.ext λh=>..) -/
 | ext (φ:Heap->Prop)
abbrev Hp:=Addr->Option HO
def upd(H:Hp)(a:Addr)(o:HO):Hp:=λb=>if b=a then some o else H b
def zb1{H:Hp}{a:Addr}{o:HO}:upd H a o a=some o:=by unfold upd;rw[bC rfl]
def aC{H:Hp}{a b:Addr}{o:HO}(h:b≠a):upd H a o b=H b:=by unfold upd;rw[aZ h]
def gF{H:Hp}{a:Addr}{o u:HO}:upd (upd H a o) a u=upd H a u:=by
 funext b;unfold upd;split <;> rfl
def pQ{H:Hp}{a b:Addr}{o u:HO}(h:H a=some o)(h':H b=some u)(d:o≠u):a≠b:=by
 intro e;subst e;rw[h]at h';exact d<|gX h'
def aP{H:Hp}{a b:Addr}{o:HO}(h:H a=some o)(h':H b=none):a≠b:=by
 intro e;subst e;rw[h]at h';cases h'
def DN(h:Heap)(a:Addr):Prop:=∃o,h.get? a=some o/\o.dict=none
section
variable(P:Program)(w:World)
def ObjOk(H:Hp)(h:Heap)(a:Addr):HO->Prop
 | .lst xs=>↑xs<=sizeLine/\∃(its:List Value)(n:Nat),Vals xs its/\h.get? a=some {cls:=.type "list",data:=.seq its.toArray n}
 | .tup xs=>(↑xs<=sizeLine/\DN h a)/\∃its:List Value,Vals xs its/\IsTup h a its.toArray
 | .dK kvs=>↑kvs<=sizeLine/\(a == sysModules)=false/\∃vs,KV kvs vs/\h.DictOf (cI P w) a vs
 | .dT kvs=>↑kvs<=sizeLine/\(a == sysModules)=false/\∃xs:List (List aF×Addr×Value),
   Paired (λ(p:List aF×V) (q:List aF×Addr×Value)=>p.1=q.1/\H q.2.1=some (.tup<|p.1.map kV)/\RelV p.2 q.2.2) kvs xs/\
   ∃o es ep,h.get? a=some o/\o.ExactDict/\o.data=.dict es ep/\es.toList=xs.map (entryOfKey<|tupleKind<|cI P w)/\(xs.map (·.1)).Nodup
 | .set S n=>h.SetOf (intKind P w) a S n
 | .ins C dx fs=>H dx=some (.own a)/\↑fs<=1000/\dx≠a/\h.get? a=some (PySem.W.instObj C dx)/\
   ∃mA,h.Ns1 dx mA/\(∀f,RelO (fs.lookup f)<|mA f)/\PySem.Within mA (fs.map (·.1))
 | .own _=>∃o,h.get? a=some o
 | .xd fs=>∃mA,h.Ns1 a mA/\∀f,RelO (fs.lookup f)<|mA f
 | .rng lo hi=>∃t u v,h.get? a=some {cls:=.type "range",data:=.fields #[.int lo t,.int hi u,.int 1 v]}
 | .frz o u=>h.get? a=some o/\ObjOk H h a u
 | .tbl ps=>h.get? a=some {cls:=.none,data:=.fields ps}
 | .met f x=>h.get? a=some (PySem.W.methodObj (.ref f)<|.ref x)
 | .ext φ=>φ h/\(∃o,h.get? a=some o)/\∀h1 h2:Heap,φ h1->(∀o,h1.get? a=some o->h2.get? a=some o)->φ h2
def HOk(H:Hp)(h:Heap):Prop:=∀a o,H a=some o->ObjOk P w H h a o
end
section
variable{P:Program}{w:World}{H H':Hp}{h h':Heap}{a:Addr}{o:HO}
theorem ObjOk.lt(x:ObjOk P w H h a o):a<h.objs.size:=by
 cases o with
 | lst xs=>obtain⟨_,_,_,_,e⟩:=x;exact bP e
 | tup xs=>obtain⟨_,_,_,p⟩:=x;exact p.lt
 | dK kvs=>obtain⟨_,_,_,_,o,_,_,e,_⟩:=x;exact bP e
 | dT kvs=>obtain⟨_,_,_,_,o,_,_,e,_⟩:=x;exact bP e
 | set S n=>obtain⟨o,_,_,_,e,_⟩:=x;exact bP e
 | ins C dx fs=>obtain⟨_,_,_,e,_⟩:=x;exact bP e
 | own y=>obtain⟨_,e⟩:=x;exact bP e
 | xd fs=>obtain⟨_,⟨_,_,_,e,_⟩,_⟩:=x;exact bP e
 | rng lo hi=>obtain⟨_,_,_,e⟩:=x;exact bP e
 | frz ob u=>obtain⟨e,_⟩:=x;exact bP e
 | tbl ps=>exact bP (show h.get? a=some _ from x)
 | met f y=>exact bP (show h.get? a=some _ from x)
 | ext φ=>obtain⟨_,⟨_,e⟩,_⟩:=x;exact bP e
theorem Paired.mapP{α β:Type}{F G:α->β->Prop}:∀{l₁:List α}{l₂:List β},Paired F l₁ l₂->(∀a b,F a b->G a b)->Paired G l₁ l₂
 | _,_,.nil,_=>.nil
 | _,_,.cons r t,f=>.cons (f _ _ r)<|Paired.mapP t f
def ObjOk.stay(x:ObjOk P w H h a o)(k:∀b u,(b=a\/H b=some (.own a))->h.get? b=some u->h'.get? b=some u)
  (j:∀b,H b=some (.own a)->H' b=some (.own a)) (A:∀b xs,H b=some (.tup xs)->H' b=some (.tup xs)):ObjOk P w H' h' a o:=by
 induction o with
 | lst xs=>obtain⟨z,its,n,r,e⟩:=x;exact⟨z,its,n,r,k _ _ (.inl rfl) e⟩
 | tup xs=>obtain⟨⟨z,od,m,l⟩,y⟩:=x;obtain⟨its,r,i,e,c⟩:=y;exact⟨⟨z,od,k _ _ (.inl rfl) m,l⟩,its,r,i,k _ _ (.inl rfl) e,c⟩
 | dK kvs=>obtain⟨z,y,vs,r,i,es,ep,e,c⟩:=x;exact⟨z,y,vs,r,i,es,ep,k _ _ (.inl rfl) e,c⟩
 | dT kvs=>
  obtain⟨z,y,xs,r,i,es,ep,e,c⟩:=x;exact⟨z,y,xs,Paired.mapP r λp q z=>⟨z.1,A _ _ z.2.1,z.2.2⟩,i,es,ep,k _ _ (.inl rfl) e,c⟩
 | set S n=>obtain⟨i,es,ep,t,e,c⟩:=x;exact⟨i,es,ep,t,k _ _ (.inl rfl) e,c⟩
 | ins C dx fs=>
  obtain⟨d,z,ne,e,mA,⟨od,es,ep,s,c⟩,r⟩:=x;exact⟨j _ d,z,ne,k _ _ (.inl rfl) e,mA,⟨od,es,ep,k _ _ (.inr d) s,c⟩,r⟩
 | own y=>obtain⟨i,e⟩:=x;exact⟨i,k _ _ (.inl rfl) e⟩
 | xd fs=>obtain⟨mA,⟨od,es,ep,e,c⟩,r⟩:=x;exact⟨mA,⟨od,es,ep,k _ _ (.inl rfl) e,c⟩,r⟩
 | rng lo hi=>obtain⟨t,u,v,e⟩:=x;exact⟨t,u,v,k _ _ (.inl rfl) e⟩
 | frz i u ih=>obtain⟨e,q⟩:=x;exact⟨k _ _ (.inl rfl) e,ih q⟩
 | tbl ps=>
  have e:h.get? a=some {cls:=.none,data:=.fields ps}:=x;show h'.get? a=some {cls:=.none,data:=.fields ps};exact k a _ (.inl rfl) e
 | met f y=>
  have e:h.get? a=some (PySem.W.methodObj (.ref f)<|.ref y):=x;show h'.get? a=some (PySem.W.methodObj (.ref f)<|.ref y);exact k a _ (.inl rfl) e
 | ext φ=>obtain⟨p,⟨o,e⟩,st⟩:=x;exact⟨st _ _ p λo q=>k _ _ (.inl rfl) q,⟨o,k _ _ (.inl rfl) e⟩,st⟩
theorem HOk.lt(x:HOk P w H h)(e:H a=some o):a<h.objs.size:=(x a o e).lt
def HOk.fresh(x:HOk P w H h)(e:h.objs.size<=a):H a=none:=by
 cases q:H a with
 | none=>rfl
 | some u=>exact absurd (fU (x.lt q) e)<|iD _
def HOk.kept(x:HOk P w H h)(k:∀b u,h.get? b=some u->h'.get? b=some u):HOk P w H h':=λa o e=>
 (x a o e).stay (λb u _ q=>k b u q) (λ_ q=>q) λ_ _ q=>q
def HOk.laid(x:HOk P w H h)(k:∀b u,h.get? b=some u->h'.get? b=some u)(hp:h.objs.size<=a)(new:ObjOk P w (upd H a o) h' a o):HOk P w (upd H a o) h':=λb u e=>by
 have f:=x.fresh hp
 by_cases d:b=a
 .subst d;rw[zb1]at e;cases e;exact new
 .rw[aC d]at e;exact(x b u e).stay (λc v _ q=>k c v q) (λc q=>by rw[aC<|aP q f];exact q) λc xs q=>by rw[aC<|aP q f];exact q
end
def Rd(H:Hp)(a:Addr)(u:HO):Prop:=H a=some u\/∃o,H a=some (.frz o u)
def Rd.ok{P:Program}{w:World}{H:Hp}{h:Heap}{a:Addr}{u:HO}(r:Rd H a u)(x:HOk P w H h):ObjOk P w H h a u:=by
 rcases r with r | ⟨o,r⟩
 .exact x a u r
 .obtain⟨_,q⟩:=x a _ r;exact q
def BV:Option HO->Prop
 | some (.lst _)=>True
 | some (.dK _)=>True
 | some (.dT _)=>True
 | some (.set _ _)=>True
 | some (.ins _ _ _)=>True
 | some (.ext _)=>True
 | _=>False
section
variable{P:Program}{w:World}{H:Hp}{h h':Heap}{x e:Addr}{o':HO}
def HOk.write(ok:HOk P w H h)(a:BV (H x))(he:e=x\/H e=some (.own x))(k:∀b u,b≠e->h.get? b=some u->h'.get? b=some u)(o:∃u,h'.get? e=some u)
  (new:ObjOk P w (upd H x o') h' x o'):HOk P w (upd H x o') h':=λb u q=>by
 have l:∀c y,H c=some (.own y)->c≠x:=λc y r z=>by subst z;rw[r]at a;exact a
 have m:∀c xs,H c=some (.tup xs)->c≠x:=λc xs r z=>by subst z;rw[r]at a;exact a
 by_cases i:b=x
 .subst i;rw[zb1]at q;cases q;exact new
 .rw[aC i]at q
  by_cases f:b=e
  .have j:H b=some (.own x):=by
    rcases he with z | z
    .exact absurd (f.trans z) i
    .rw[f];exact z
   rw[q]at j;cases j;obtain⟨v,n⟩:=o;exact⟨v,by rw[f];exact n⟩
  .refine(ok b u q).stay (λc v d r=>k c v ?_ r) (λc r=>by rw[aC<|l c b r];exact r) λc xs r=>by rw[aC<|m c xs r];exact r
   rcases d with rfl | d
   .exact f
   .rintro rfl;rcases he with z | z
    .exact l c b d z
    .rw[d]at z;cases z;exact i rfl
end
structure Un(fs ex:List Addr)(H H':Hp)(h h':Heap):Prop where
 keep:∀b o,h.get? b=some o->H b=none->b∉fs->b∉ex->h'.get? b=some o
 slot:∀b o,h.get? b=some o->H b=none->b∈fs->b∉ex->∃sl,h'.get? b=some {o with slots:=sl}
 free:∀b o,h.get? b=some o->H b=none->b∉ex->H' b=none
 there:∀b o,h.get? b=some o->b∉ex->∃o',h'.get? b=some o'
 tups:∀b xs,H b=some (.tup xs)->H' b=some (.tup xs)
 frzs:∀b o u,H b=some (.frz o u)->H' b=some (.frz o u)
 tbls:∀b ps,H b=some (.tbl ps)->∃more,H' b=some (.tbl<|ps++more)
section
variable{fs fs' ex ex':List Addr}{H H1 H2:Hp}{h h1 h2 h':Heap}{a x e:Addr}{o:HO}
def Un.any(u:Un fs ex H H1 h h1){b:Addr}{a:Obj}(q:h.get? b=some a)(n:H b=none)(d:b∉ex):∃sl,h1.get? b=some {a with slots:=sl}:=by
 by_cases e:b∈fs
 .exact u.slot b a q n e d
 .exact⟨a.slots,u.keep b a q n e d⟩
def Un.kept(k:∀b u,h.get? b=some u->h'.get? b=some u):Un fs ex H H h h':=
 ⟨λb a q _ _ _=>k b a q,λb a q _ _ _=>⟨a.slots,k b a q⟩,λ_ _ _ n _=>n,λb a q _=>⟨a,k b a q⟩,λ_ _ q=>q,λ_ _ _ q=>q,λ_ ps q=>⟨#[],by rw[q];simp⟩⟩
def Un.refl:Un fs ex H H h h:=Un.kept λ_ _ q=>q
def Un.laid(k:∀b u,h.get? b=some u->h'.get? b=some u)(hp:h.objs.size<=a)(d:H a=none):Un fs ex H (upd H a o) h h' where
 keep:=λb u q _ _ _=>k b u q
 slot:=λb u q _ _ _=>⟨u.slots,k b u q⟩
 free:=λb u q n _=>by rw[aC<|bV<|fU (bP q) hp];exact n
 there:=λb u q _=>⟨u,k b u q⟩
 tups:=λb xs q=>by rw[aC<|aP q d];exact q
 frzs:=λb u xs q=>by rw[aC<|aP q d];exact q
 tbls:=λb ps q=>⟨#[],by rw[aC<|aP q d,q];simp⟩
def Un.write(a:BV (H x))(he:e=x\/H e=some (.own x))(k:∀b u,b≠e->h.get? b=some u->h'.get? b=some u)(l:∃u,h'.get? e=some u):Un fs ex H (upd H x o) h h':=by
 have f:∀b,H b=none->b≠x:=λb n z=>by subst z;rw[n]at a;exact a
 have i:∀b,H b=none->b≠e:=λb n z=>by
  subst z;rcases he with r | r
  .exact f b n r
  .rw[n]at r;cases r
 have d:∀b u,H b=some u->¬BV (some u)->b≠x:=λb u q nm z=>by subst z;rw[q]at a;exact nm a
 refine⟨λb u q n _ _=>k b u (i b n) q,λb u q n _ _=>⟨u.slots,k b u (i b n) q⟩,λb u q n _=>by rw[aC<|f b n];exact n,λb u q _=>?_,
  λb xs q=>by rw[aC<|d b _ q λz=>z];exact q,λb u xs q=>by rw[aC<|d b _ q λz=>z];exact q,λb ps q=>⟨#[],by rw[aC<|d b _ q λz=>z,q];simp⟩⟩
 by_cases j:b=e
 .subst j;exact l
 .exact⟨u,k b u j q⟩
end
def GA(h:Heap)(H:Hp):List Addr:=(List.range h.objs.size).filter λa=>(H a).isSome
def gP(h:Heap)(H:Hp):Heap:=PySem.W.hideAll h<|GA h H
def Ag(h:Heap)(H:Hp):(gP h H).objs.size=h.objs.size:=PySem.W.hideAll_size _ _
def XU{h:Heap}{H:Hp}{b:Addr}{o:Obj}(e:h.get? b=some o)(n:H b=none):(gP h H).get? b=some o:=
 PySem.W.hideAll_get _ e λa=>by
  have q:(H b).isSome=true:=(vj5.mp a).2;rw[n]at q;simp at q
def Ao{h:Heap}{H:Hp}{b:Addr}{o:Obj}(e:(gP h H).get? b=some o):h.get? b=some o/\H b=none:=by
 have a:h.get? b=some o:=PySem.W.of_hideAll (GA h H) e;exists a;cases q:H b with
 | none=>rfl
 | some x=>
  have d:b∈GA h H:=vj5.mpr ⟨List.mem_range.mpr<|bP a,by simp[q]⟩;have z:(gP h H).get? b=none:=PySem.W.hideAll_none (GA h H) d;rw[z]at e;cases e
def Cn(g h:Heap)(L:Addr):List (Addr×Obj):=(List.range h.objs.size).filterMap λa=>if a=L\/(g.get? a).isSome=true then none else(h.get? a).map λo=>(a,o)
def rest(g h:Heap)(L d:Addr):List (Addr×Obj):=(Cn g h L).filter λp=>decide<|p.1≠d
structure Mod(K:Fq)(mg:Str->Option Value)(base:Heap):Prop where
 kin:K.In base
 glob:base.Ns mainGlobals mg
 blt:∃mb,base.Ns builtinsNs mb/\∀x:Str,x≠"__name__"->mb x=bootBuiltins x
 nolimit:base.NoLimit
structure Cx where
 prog:Program
 w:World
 K:Fq
 mg:Str->Option Value
 base:Heap
 A:Around
 N:List Str
 s₀:Shared
 H₀:Hp
 env:Env
 outer:List Env
 stack:List Env
 ex:List Addr
 fn:Str->Bool
 calm:Bool
 pn:List (Addr×Obj)
 xe:Value->Shared->Prop
def lI(l:List Env):List Addr:=l.filterMap (·.frame)
abbrev Cx.fs(X:Cx):List Addr:=lI X.outer
def CM(sc:Scope)(x:Str):Prop:=sc.names.lookup x=some .local\/sc.names.lookup x=some .cell\/sc.names.lookup x=some .free
def xK(sc:Scope)(x:Str):Prop:=sc.names.lookup x=some .local\/sc.names.lookup x=some .cell
def JN(env:Env)(h:Heap)(m:Str->Option Value)(x:Str)(u:Value):Prop:=
 (env.kindOf x=some .local/\m x=some u)\/((env.kindOf x=some .cell\/env.kindOf x=some .free)/\∃c,env.cells.lookup x=some c/\h.IsCell c (some u))
structure Cx.Ok(X:Cx):Prop where
 mod:Mod X.K X.mg X.base
 kind:X.env.scope.kind=.function
 glob:X.env.globals=mainGlobals
 blt:X.env.builtins=builtinsNs
 above:X.s₀⁻¹<=X.env.locals
 inj:∀x y c,X.env.cells.lookup x=some c->X.env.cells.lookup y=some c->x=y
 has:∀x,(X.env.kindOf x=some .cell\/X.env.kindOf x=some .free)->∃c,X.env.cells.lookup x=some c
 cab:∀x c,X.fn x=true->X.env.cells.lookup x=some c->X.s₀⁻¹<=c
 hd:X.calm=true->X.A.handled=none
 frames:X.A.frames=some X.stack
 stk:X.stack=X.outer\/(X.stack=X.env::X.outer/\X.env.frame=some X.env.locals)
 exf:∀b∈X.ex,b≠X.env.locals/\∀x c,X.env.cells.lookup x=some c->c≠b
 bs:∀b o,X.base.get? b=some o->X.s₀.heap.get? b=some o/\X.H₀ b=none
 bsz:X.base.objs.size<=X.s₀⁻¹
 noex:∀b o,X.base.get? b=some o->b∉X.ex
 exfs:∀b∈X.ex,b∉X.fs
 funs:X.s₀.heap.FunFrames X.base X.outer
 frf:∀b∈X.fs,X.H₀ b=none
structure Inv(X:Cx)(pins:List (Addr×Obj))(σ:List (Option V))(H:Hp)(s:Shared):Prop where
 ok:X.Ok
 os:s.os=X.s₀.os
 bare:AllBare s.gens
 base:Un X.fs X.ex X.H₀ H X.s₀.heap s.heap
 loc:∃m,s.heap.Ns X.env.locals m/\∀(i:Nat)(x:Str)(v:V),X.N[i]?=some x->σ[i]?=some (some v)->CM X.env.scope x->∃u,RelV v u/\JN X.env s.heap m x u
 cell:∀x c,X.env.cells.lookup x=some c->∃v,s.heap.IsCell c v
 free:H X.env.locals=none
 freeC:∀x c,X.env.cells.lookup x=some c->H c=none
 pin:∀p∈X.pn++pins,s.heap.get? p.1=some p.2/\H p.1=none/\p.1≠X.env.locals/\p.1∉X.fs/\∀v,p.2.data≠.cell v
 hok:HOk X.prog X.w H s.heap
 len:↑σ=X.N.length
section
variable{pins:List (Addr×Obj)}{σ:List (Option V)}{H H':Hp}{s:Shared}{h':Heap}
def Cx.Ok.nofr(ok:X.Ok){b:Addr}{o:Obj}(e:X.base.get? b=some o):b∉X.fs:=λa=>by
 have:=(ok.funs.mem a).1;rw[e]at this;cases this
theorem Inv.bs(I:Inv X pins σ H s):∀b o,X.base.get? b=some o->s.heap.get? b=some o/\H b=none:=λb o e=>
 ⟨I.base.keep b o (I.ok.bs b o e).1 (I.ok.bs b o e).2 (I.ok.nofr e)<|I.ok.noex b o e,I.base.free b o (I.ok.bs b o e).1 (I.ok.bs b o e).2<|I.ok.noex b o e⟩
def Inv.bk(I:Inv X pins σ H s):∀b o,X.base.get? b=some o->s.heap.get? b=some o:=λb o e=>(I.bs b o e).1
theorem Inv.mod(I:Inv X pins σ H s):Mod X.K X.mg X.base:=I.ok.mod
def Inv.kIn(I:Inv X pins σ H s):X.K.In s.heap:=I.ok.mod.kin.keeps I.bk
theorem Inv.lt(I:Inv X pins σ H s):X.env.locals<s⁻¹:=let ⟨_,hn,_⟩:=I.loc;hn.lt
def Inv.sz(I:Inv X pins σ H s):X.s₀⁻¹<=s⁻¹:=fX I.ok.above<|cN I.lt
def Inv.nofs(I:Inv X pins σ H s){a:Addr}(h:s⁻¹<=a):a∉X.fs:=λd=>by
 obtain⟨_,o,b,_⟩:=I.ok.funs.mem d;exact absurd (fU (bP b)<|fX I.sz h)<|iD _
def Inv.cne(I:Inv X pins σ H s):∀x c,X.env.cells.lookup x=some c->c≠X.env.locals:=λx c e z=>by
 obtain⟨v,o,a,hd⟩:=I.cell x c e;obtain⟨m,⟨o',es,ep,d,b,_⟩,_⟩:=I.loc;rw[z,d]at a;cases a;rw[b]at hd;cases hd
theorem Inv.funs(I:Inv X pins σ H s):s.heap.FunFrames X.base X.outer:=by
 have all:∀(l:List Env),(∀b∈lI l,b∈X.fs)->X.s₀.heap.FunFrames X.base l->s.heap.FunFrames X.base l:=by
  intro l
  induction l with
  | nil=>intro _ _;trivial
  | cons env r ih=>
   intro hs hl;obtain⟨j,⟨L,o,f,i,h,hd⟩,hr⟩:=hl;have a:L∈X.fs:=hs L (by unfold lI;rw[FU,f];exact sI);obtain⟨m,e⟩:=I.base.slot L o h (I.ok.frf L a) a λz=>I.ok.exfs L z a;exact⟨j,⟨L,_,f,i,e,hd⟩,ih (λb d=>hs b<|by unfold lI;rw[FU,f];exact iB _ d) hr⟩
 exact all X.outer (λ_ d=>d) I.ok.funs
theorem Inv.stack(I:Inv X pins σ H s):s.heap.FunFrames X.base X.stack:=by
 rcases I.ok.stk with e | ⟨e,hf⟩
 .rw[e];exact I.funs
 .rw[e];obtain⟨m,a,_⟩:=I.loc;refine .cons (by rw[I.ok.kind];decide) hf a ?_ I.funs;exact Heap.get?_none_of_le<|fX I.ok.bsz I.ok.above
def Inv.stkSub(I:Inv X pins σ H s):∀b∈lI X.stack,b∈X.env.locals::X.fs:=λb a=>by
 rcases I.ok.stk with e | ⟨e,hf⟩
 .rw[e]at a;exact iB _ a
 .rw[e]at a;unfold lI at a;rw[FU,hf]at a;exact a
def Inv.stkFree(I:Inv X pins σ H s):∀b∈lI X.stack,H b=none:=λb a=>by
 rcases wp9.mp (I.stkSub b a)with e | a
 .rw[e];exact I.free
 .obtain⟨_,o,d,_⟩:=I.ok.funs.mem a;exact I.base.free b o d (I.ok.frf b a) λz=>I.ok.exfs b z a
def Inv.step{g':Array GenState}{t':Nat}{d':Drawn}{ch:List Addr}(I:Inv X pins σ H s)
  (A:∀b∈ch,(b∈X.ex\/X.s₀⁻¹<=b)/\b≠X.env.locals/\(∀x c,X.env.cells.lookup x=some c->c≠b)/\∀p∈X.pn++pins,p.1≠b)
  (keep:∀b o,b≠X.env.locals->b∉X.fs->b∉ch->s.heap.get? b=some o->H b=none->h'.get? b=some o)
  (slot:∀b o,b≠X.env.locals->b∈X.fs->b∉ch->s.heap.get? b=some o->H b=none->∃J,h'.get? b=some {o with slots:=J}) (free:∀b o,b∉ch->s.heap.get? b=some o->H b=none->H' b=none)
  (there:∀b o,b∉ch->s.heap.get? b=some o->∃o',h'.get? b=some o')
  (tups:∀b xs,H b=some (.tup xs)->H' b=some (.tup xs)) (frzs:∀b o u,H b=some (.frz o u)->H' b=some (.frz o u)) (tbls:∀b ps,H b=some (.tbl ps)->∃more,H' b=some (.tbl<|ps++more))
  (Y:∀m,s.heap.Ns X.env.locals m->h'.Ns X.env.locals m) (G:HOk X.prog X.w H' h') (Z:AllBare g'):
  Inv X pins σ H' {s with heap:=h',gens:=g',drawn:=d',toks:=t'}:=by
 have N:∀b o,X.s₀.heap.get? b=some o->b≠X.env.locals:=λb o e=>bV<|fU (bP e) I.ok.above;have E:∀b o,X.s₀.heap.get? b=some o->b∉X.ex->b∉ch:=λb o e a h=>by
  rcases(A b h).1 with z | z
  .exact a z
  .exact absurd (fU (bP e) z)<|iD _
 have M:∀x c,X.env.cells.lookup x=some c->∀v,s.heap.IsCell c v->h'.IsCell c v:=by
  rintro x c e v ⟨o,j,hd⟩;have C:c∉ch:=λz=>(A c z).2.2.1 x c e rfl
  by_cases K:c∈X.fs
  .obtain⟨J,q⟩:=slot c o (I.cne x c e) K C j<|I.freeC x c e;exact⟨_,q,hd⟩
  .exact⟨o,keep c o (I.cne x c e) K C j<|I.freeC x c e,hd⟩
 refine⟨I.ok,I.os,Z,⟨λb o e n h a=>?_,λb o e n h a=>?_,λb o e n a=>?_,λb o e a=>?_,λb xs e=>tups b xs<|I.base.tups b xs e,λb o xs e=>frzs b o xs<|I.base.frzs b o xs e,λb ps e=>?_⟩,?_,λx c e=>?_,?_,λx c e=>?_,λp hp=>?_,G,I.len⟩
 .exact keep b o (N b o e) h (E b o e a) (I.base.keep b o e n h a)<|I.base.free b o e n a
 .obtain⟨J,f⟩:=I.base.slot b o e n h a;obtain⟨P,B⟩:=slot b _ (N b o e) h (E b o e a) f<|I.base.free b o e n a;exact⟨P,B⟩
 .obtain⟨o',f⟩:=I.base.there b o e a;exact free b o' (E b o e a) f<|I.base.free b o e n a
 .obtain⟨o',f⟩:=I.base.there b o e a;exact there b o' (E b o e a) f
 .obtain⟨W,f⟩:=I.base.tbls b ps e;obtain⟨m2,B⟩:=tbls b _ f;exact⟨W++m2,by rw[B,Array.append_assoc]⟩
 .obtain⟨m,O,hl⟩:=I.loc;refine⟨m,Y m O,λi x v f B T=>?_⟩;obtain⟨u,r,l⟩:=hl i x v f B T;exists u,r;rcases l with l | ⟨k,c,e,z⟩
  .exact .inl l
  .exact .inr ⟨k,c,e,M x c e _ z⟩
 .obtain⟨v,z⟩:=I.cell x c e;exact⟨v,M x c e v z⟩
 .obtain⟨m,⟨o,_,_,j,_⟩,_⟩:=I.loc;exact free _ o (λz=>(A _ z).2.1 rfl) j I.free
 .obtain⟨v,o,j,hd⟩:=I.cell x c e;exact free c o (λz=>(A c z).2.2.1 x c e rfl) j<|I.freeC x c e
 .obtain⟨e,n,ne,L,d⟩:=I.pin p hp;have C:p.1∉ch:=λz=>(A p.1 z).2.2.2 p hp rfl;exact⟨keep p.1 p.2 ne L C e n,free p.1 p.2 C e n,ne,L,d⟩
def Inv.un{t':Nat}(I:Inv X pins σ H s)(u:Un X.fs [] H H' s.heap h')(a:HOk X.prog X.w H' h'):Inv X pins σ H' {s with heap:=h',toks:=t'}:=by
 obtain⟨m,⟨o,es,ep,f,r⟩,_⟩:=id I.loc;obtain⟨x,j⟩:=u.any f I.free (by simp);exact I.step (g':=s.gens) (d':=s.drawn) (ch:=[]) (λ_ z=>nomatch z) (λb o _ d _ e n=>u.keep b o e n d<|by simp) (λb o _ d _ e n=>u.slot b o e n d<|by simp) (λb o _ e n=>u.free b o e n<|by simp) (λb o _ e=>u.there b o e<|by simp) u.tups u.frzs u.tbls (λm' q=>by
  obtain⟨o',l,i,h,r'⟩:=q;rw[f]at h;cases h;exact⟨_,l,i,j,r'⟩) a I.bare
def Inv.call{g':Array GenState}{t':Nat}{d':Drawn}{ch:List Addr}(I:Inv X pins σ H s)(u:Un (lI X.stack) ch H H' s.heap h')(d:HOk X.prog X.w H' h')(q:AllBare g')
  (j:∀b∈ch,(b∈X.ex\/X.s₀⁻¹<=b)/\b≠X.env.locals/\(∀x c,X.env.cells.lookup x=some c->c≠b)/\∀p∈X.pn++pins,p.1≠b):
  Inv X pins σ H' {s with heap:=h',gens:=g',drawn:=d',toks:=t'}:=by
 obtain⟨m,⟨o,es,ep,h,r⟩,_⟩:=id I.loc;obtain⟨E,f⟩:=u.any h I.free λz=>(j _ z).2.1 rfl;exact I.step (ch:=ch) j (λb o f B a e n=>u.keep b o e n (λz=>(wp9.mp<|I.stkSub b z).elim f B) a) (λb o _ _ a e n=>u.any e n a) (λb o a e n=>u.free b o e n a) (λb o a e=>u.there b o e a) u.tups u.frzs u.tbls (λm' A=>by
  obtain⟨o',l,C,i,r'⟩:=A;rw[h]at i;cases i;exact⟨_,l,C,f,r'⟩) d q
def Inv.turned{t':Nat}{it:Addr}(I:Inv X pins σ H s)(k:∀b o,b≠it->s.heap.get? b=some o->h'.get? b=some o)(i:H it=none)(d:it≠X.env.locals)
  (h1:it∈X.ex\/X.s₀⁻¹<=it) (h2:∀x c,X.env.cells.lookup x=some c->c≠it) (w:∀p∈X.pn++pins,p.1≠it):Inv X pins σ H {s with heap:=h',toks:=t'}:=by
 have f:∀b u,H b=some u->b≠it:=λb u e z=>by rw[z,i]at e;cases e
 refine I.step (g':=s.gens) (d':=s.drawn) (ch:=[it]) (λb l=>?_) (λb o _ _ a e _=>k b o (λz=>a<|by simp[z]) e) (λb o _ _ a e _=>⟨o.slots,k b o (λz=>a<|by simp[z]) e⟩) (λ_ _ _ _ n=>n)
  (λb o a e=>⟨o,k b o (λz=>a<|by simp[z]) e⟩) (λ_ _ e=>e) (λ_ _ _ e=>e) (λb ps e=>⟨#[],by rw[e];simp⟩) (λm j=>?_) (λb u e=>?_) I.bare
 .have e:b=it:=by simpa using l
  subst e;exact⟨h1,d,h2,w⟩
 .obtain⟨o,es,ep,h,r⟩:=j;exact⟨o,es,ep,k _ o (bK d) h,r⟩
 .refine(I.hok b u e).stay (λc v a q=>k c v ?_ q) (λ_ q=>q) λ_ _ q=>q;rcases a with z | z
  .rw[z];exact f b u e
  .exact f c _ z
def Inv.tok(I:Inv X pins σ H s)(t:Nat):Inv X pins σ H {s with toks:=t}:=I.un (h':=s.heap) (t':=t) Un.refl I.hok
theorem Inv.kept{t':Nat}(I:Inv X pins σ H s)(k:∀b u,s.heap.get? b=some u->h'.get? b=some u):Inv X pins σ H {s with heap:=h',toks:=t'}:=I.un (Un.kept k)<|I.hok.kept k
theorem Inv.laid{a:Addr}{o:HO}{t':Nat}(I:Inv X pins σ H s)(k:∀b u,s.heap.get? b=some u->h'.get? b=some u)(hp:s⁻¹<=a)(new:ObjOk X.prog X.w (upd H a o) h' a o):
  Inv X pins σ (upd H a o) {s with heap:=h',toks:=t'}:=I.un (Un.laid k hp<|I.hok.fresh hp)<|I.hok.laid k hp new
theorem Inv.write{x e:Addr}{o:HO}{t':Nat}(I:Inv X pins σ H s)(a:BV (H x))(he:e=x\/H e=some (.own x))(k:∀b u,b≠e->s.heap.get? b=some u->h'.get? b=some u)(d:∃u,h'.get? e=some u)
  (new:ObjOk X.prog X.w (upd H x o) h' x o):Inv X pins σ (upd H x o) {s with heap:=h',toks:=t'}:=I.un (Un.write a he k d)<|I.hok.write a he k d new
def Inv.pins_of{a:List (Addr×Obj)}(I:Inv X pins σ H s)(h:∀p∈a,s.heap.get? p.1=some p.2/\H p.1=none/\p.1≠X.env.locals/\p.1∉X.fs/\∀v,p.2.data≠.cell v):Inv X a σ H s:=
 ⟨I.ok,I.os,I.bare,I.base,I.loc,I.cell,I.free,I.freeC,λp hp=>(wr7.mp hp).elim (λz=>I.pin p<|sN _ z)<|h p,I.hok,I.len⟩
def NA{N:List Str}(e:N.Nodup){i j:Nat}{x:Str}(a:N[i]?=some x)(b:N[j]?=some x):i=j:=by
 obtain⟨h1,d⟩:=zz2.mp a;obtain⟨h2,f⟩:=zz2.mp b;exact(wX e).mp<|d.trans f.symm
def MG{M:Model}{A:Around}{E:Vp}{i:Nat}{x:Str}{v:V}{u:Value}{Q:Unit->Shared->Prop}(I:Inv X pins σ H s)(hN:X.N.Nodup)(hi:X.N[i]?=some x)(B:xK X.env.scope x)(r:RelV v u)
  (h:∀s',Inv X pins (σ.set i<|some v) H s'->(∃a,Heap.SameBut a s.heap s'.heap/\(a=X.env.locals\/X.env.cells.lookup x=some a))->Q () s') (hf:X.fn x=true\/X.env.scope.names.lookup x=some .local:=by first | exact .inl rfl | exact .inr rfl | assumption):wpAny M A (storeName X.env x u) Q E s:=by
 obtain⟨m,O,hl⟩:=id I.loc;have a4:(X.env.scope.kind == .class || (X.env.scope.kind == .module && X.env.locals != X.env.globals))=false:=by rw[I.ok.kind];rfl
 have a7:i<↑σ:=by rw[I.len];exact(zz2.mp hi).1
 have cne:=I.cne;have a0:∀{a:Addr}{h':Heap},(∃o,s.heap.get? a=some o/\H a=none)->Heap.SameBut a s.heap h'->HOk X.prog X.w H h':=λ{a h'} ha hs b ob e=>by
  obtain⟨_,_,a1⟩:=ha;refine(I.hok b ob e).stay (λc K l q=>(hs.2 c ?_).trans q) (λ_ q=>q) λ_ _ q=>q;rintro rfl;rcases l with rfl | l
  .rw[a1]at e;cases e
  .rw[a1]at l;cases l
 rcases B with hk | hk
 .refine wpAny_storeName_local hk O (λh' a9 hs=>?_) a4;obtain⟨oL,_,_,aa,_⟩:=id O;refine h _ ⟨I.ok,I.os,I.bare,⟨λb o e n J B=>?_,λb o e n J B=>?_,I.base.free,λb o e B=>?_,I.base.tups,I.base.frzs,I.base.tbls⟩,⟨_,a9,λj y Z f C T=>?_⟩,λy c e=>?_,I.free,I.freeC,λp hp=>?_,a0 ⟨oL,aa,I.free⟩ hs,by simpa using I.len⟩ ⟨_,hs,.inl rfl⟩
  .exact(hs.2 b<|bV<|fU (bP e) I.ok.above).trans (I.base.keep b o e n J B)
  .obtain⟨Y,f⟩:=I.base.slot b o e n J B;exact⟨Y,(hs.2 b<|bV<|fU (bP e) I.ok.above).trans f⟩
  .obtain⟨o',f⟩:=I.base.there b o e B;exact⟨o',(hs.2 b<|bV<|fU (bP e) I.ok.above).trans f⟩
  .by_cases G:j=i
   .subst G;rw[hi]at f;cases f;rw[List.getElem?_set_self a7]at C;cases C;exact⟨u,r,.inl ⟨hk,by simp⟩⟩
   .rw[List.getElem?_set_ne<|bK G]at C;obtain⟨W,r',q⟩:=hl j y Z f C T;exists W,r';rcases q with ⟨k,e⟩ | ⟨k,c,e,z⟩
    .refine .inl ⟨k,?_⟩;have:y≠x:=λe=>G<|NA hN f<|e▸hi;simp[this,e]
    .exact .inr ⟨k,c,e,z.sameBut hs<|cne y c e⟩
  .obtain⟨K,z⟩:=I.cell y c e;exact⟨K,z.sameBut hs<|cne y c e⟩
  .obtain⟨e,n,ne,P,d⟩:=I.pin p hp;exact⟨(hs.2 p.1 ne).trans e,n,ne,P,d⟩
 .have L:X.fn x=true:=by
   rcases hf with z | z
   .exact z
   .rw[z]at hk;cases hk
  obtain⟨c,l⟩:=I.ok.has x<|.inl hk;obtain⟨K,z⟩:=I.cell x c l;refine wpAny_storeName_cell I.ok.kind hk l z λh' a8 hs=>?_;obtain⟨oc,a6,a3⟩:=id z;refine h {s with heap:=h'} ⟨I.ok,I.os,I.bare,⟨λb o e n J B=>?_,λb o e n J B=>?_,I.base.free,λb o e B=>?_,I.base.tups,I.base.frzs,I.base.tbls⟩,⟨m,O.sameBut hs<|bK<|cne x c l,λj y Z f C T=>?_⟩,λy c' e=>?_,I.free,I.freeC,λp hp=>?_,a0 ⟨oc,a6,I.freeC x c l⟩ hs,by simpa using I.len⟩ ⟨c,hs,.inr l⟩
  .exact(hs.2 b<|bV<|fU (bP e)<|I.ok.cab x c L l).trans (I.base.keep b o e n J B)
  .obtain⟨Y,f⟩:=I.base.slot b o e n J B;exact⟨Y,(hs.2 b<|bV<|fU (bP e)<|I.ok.cab x c L l).trans f⟩
  .obtain⟨o',f⟩:=I.base.there b o e B;exact⟨o',(hs.2 b<|bV<|fU (bP e)<|I.ok.cab x c L l).trans f⟩
  .by_cases G:j=i
   .subst G;rw[hi]at f;cases f;rw[List.getElem?_set_self a7]at C;cases C;exact⟨u,r,.inr ⟨.inl hk,c,l,a8⟩⟩
   .rw[List.getElem?_set_ne<|bK G]at C;obtain⟨W,r',q⟩:=hl j y Z f C T;exists W,r';rcases q with q | ⟨k,c',e,z'⟩
    .exact .inl q
    .refine .inr ⟨k,c',e,z'.sameBut hs ?_⟩;rintro rfl;exact G<|NA hN f<|I.ok.inj _ _ _ e l▸hi
  .by_cases a5:c'=c
   .subst a5;exact⟨_,a8⟩
   .obtain⟨w2,z2⟩:=I.cell y c' e;exact⟨w2,z2.sameBut hs a5⟩
  .obtain⟨e,n,ne,P,d⟩:=I.pin p hp;refine⟨(hs.2 p.1 ?_).trans e,n,ne,P,d⟩;intro q;rw[q,a6]at e;have q':oc=p.2:=gX e;exact d K (by rw[<-q'];exact a3)
def DS{M:Model}{A:Around}{E:Vp}{i:Nat}{x:Str}{v:V}{u:Value}{Q:Unit->Shared->Prop}(I:Inv X pins σ H s)(a:X.N.Nodup)(hi:X.N[i]?=some x)(b:xK X.env.scope x)(r:RelV v u)
  (h:∀s',Inv X pins (σ.set i<|some v) H s'->Q () s') (d:X.fn x=true\/X.env.scope.names.lookup x=some .local:=by first | exact .inl rfl | exact .inr rfl | assumption):wpAny M A (storeName X.env x u) Q E s:=
 MG I a hi b r (λs' e _=>h s' e) d
end
abbrev XK:=Value->Option Addr->Hp->Prop
abbrev St:=List<|Option V
abbrev VK:=V->Hp->Prop
abbrev TE:=St->Hp->VK->Prop
abbrev TT:=St->Hp->(Bool->Hp->Prop)->Prop
abbrev TA:=St->Hp->(List V->Hp->Prop)->Prop
structure dB where
 nx:St->Hp->Prop
 rt:VK
 bk:St->Hp->Prop:=λ_ _=>False
 ct:St->Hp->Prop:=λ_ _=>False
abbrev TS:=dB->St->Hp->Prop
def EP(X:Cx)(pins:List (Addr×Obj))(σ:St)(Q:VK)(u:Value)(s':Shared):Prop:=∃v H',Inv X pins σ H' s'/\RelV v u/\Q v H'
def TP(X:Cx)(pins:List (Addr×Obj))(σ:St)(Q:Bool->Hp->Prop)(b:Bool)(s':Shared):Prop:=∃H',Inv X pins σ H' s'/\Q b H'
def AP(X:Cx)(pins:List (Addr×Obj))(σ:St)(Q:List V->Hp->Prop)(us:List Value)(s':Shared):Prop:=∃vs H',Inv X pins σ H' s'/\Vals vs us/\Q vs H'
def SP(X:Cx)(pins:List (Addr×Obj))(D:dB)(f:Flow)(s':Shared):Prop:=
 match f with
 | .next=>∃σ' H',Inv X pins σ' H' s'/\D.nx σ' H'
 | .brk=>∃σ' H',Inv X pins σ' H' s'/\D.bk σ' H'
 | .cont=>∃σ' H',Inv X pins σ' H' s'/\D.ct σ' H'
 | .ret u=>∃v σ' H',Inv X pins σ' H' s'/\RelV v u/\D.rt v H'
def PE(X:Cx)(e:Expr)(t:TE):Prop:=
 ∀(pins:List (Addr×Obj))(s:Shared)(σ:St)(H:Hp)(Q:VK),Inv X pins σ H s->t σ H Q->wpAny (model X.prog X.w) X.A (eval e X.env) (EP X pins σ Q) X.xe s
def PT(X:Cx)(e:Expr)(t:TT):Prop:=
 ∀(pins:List (Addr×Obj))(s:Shared)(σ:St)(H:Hp)(Q:Bool->Hp->Prop),Inv X pins σ H s->t σ H Q->wpAny (model X.prog X.w) X.A (isTrue e X.env<|eval e X.env) (TP X pins σ Q) X.xe s
def PW(X:Cx)(e:Expr)(t:TT):Prop:=
 ∀(whole:Sem Value)(pins:List (Addr×Obj))(s:Shared)(σ:St)(H:Hp)(Q:Bool->Hp->Prop),Inv X pins σ H s->t σ H Q->wpAny (model X.prog X.w) X.A (isTrue e X.env whole) (TP X pins σ Q) X.xe s
def PW.pt{X:Cx}{e:Expr}{t:TT}(h:PW X e t):PT X e t:=h _
def PA(X:Cx)(es:List Expr)(t:TA):Prop:=
 ∀(pos:Pos)(pins:List (Addr×Obj))(s:Shared)(σ:St)(H:Hp)(Q:List V->Hp->Prop),Inv X pins σ H s->t σ H Q->wpAny (model X.prog X.w) X.A (spliced<|backTo pos<|starEach es X.env) (AP X pins σ Q) X.xe s
def PS(X:Cx)(st:Stmt)(t:TS):Prop:=
 ∀(pins:List (Addr×Obj))(s:Shared)(σ:St)(H:Hp)(D:dB),Inv X pins σ H s->t D σ H->wpAny (model X.prog X.w) X.A (exec st X.env) (SP X pins D) X.xe s
def PSs(X:Cx)(st:List Stmt)(t:TS):Prop:=
 ∀(pins:List (Addr×Obj))(s:Shared)(σ:St)(H:Hp)(D:dB),Inv X pins σ H s->t D σ H->wpAny (model X.prog X.w) X.A (execs st X.env) (SP X pins D) X.xe s
def aU{α:Type}{t:Sem α}{Q b:α->Shared->Prop}{M:Model}{A:Around}{E:Vp}{s:Shared}(h:wpAny M A t Q E s)(d:∀a s,Q a s->b a s):wpAny M A t b E s:=fV h d λ_ _ x=>x
section
inductive zV(i:Nat)(σ:List (Option V))(H:Hp)(Q:VK):Prop
 | mk(v:V)(h:σ[i]?=some (some v))(q:Q v H):zV i σ H Q
def aI(i:Nat):TE:=λσ H Q=>zV i σ H Q
def tC(v:V):TE:=λ_ H Q=>Q v H
def IP{i:Nat}{x:Str}{pos:Pos}(d:X.N[i]?=some x)(j:CM X.env.scope x)(hd:(x == ("__debug__":Str))=false:=by decide)(b:(x == ("__classdict__":Str))=false:=by decide):PE X (.Name x pos) (aI i):=by
 intro n s σ H Q I h;obtain⟨v,e,h⟩:=h;obtain⟨m,f,hl⟩:=I.loc;obtain⟨u,r,l⟩:=hl i x v d e j;have a:EP X n σ Q u s:=⟨v,H,I,r,h⟩;rcases l with ⟨hk,hm⟩ | ⟨hk,c,hc,hcell⟩
 .exact wpAny_Name (wpAny_loadName_local I.ok.kind hk f hm a) hd
 .rcases hk with hk | hk
  .exact wpAny_Name (wpAny_loadName_cell I.ok.kind hk hc hcell a) hd
  .exact wpAny_Name (wpAny_loadName_free I.ok.kind hk hc hcell a b) hd
def aN{i j pos}:PE X (.Constant (.int i) j pos) (tC<|.int i):=λ_ _ _ H _ I h=>wpAny_Constant_int ⟨.int i,H,I.tok _,⟨_,rfl⟩,h⟩
def zG{b j pos}:PE X (.Constant (.bool b) j pos) (tC<|.bl b):=λ_ _ _ H _ I h=>Constant_bool ⟨.bl b,H,I,rfl,h⟩
def iJ{j pos}:PE X (.Constant .none j pos) (tC .non):=λ_ _ _ H _ I h=>Constant_none ⟨.non,H,I,rfl,h⟩
def bD{x j pos}:PE X (.Constant (.str x) j pos) (tC<|.str x):=λ_ _ _ H _ I h=>Calls.Constant_str ⟨.str x,H,I.tok _,⟨_,rfl⟩,h⟩
def Gl(X:Cx)(x:Str):Prop:=X.env.kindOf x=some .globalImplicit
def LO{E:Vp}{d:List (Addr×Obj)}{s:Shared}{σ:St}{H:Hp}{x:Str}{u:Value}{pos:Pos}{Q:Vp}(I:Inv X d σ H s)(a:Gl X x)(b:X.mg x=some u)(h:Q u s)
  (hd:(x == ("__debug__":Str))=false:=by decide):wpAny (model X.prog X.w) X.A (eval (.Name x pos) X.env) Q E s:=
 Calls.Name_function_global I.ok.kind a (Calls.loadGlobal_global (by rw[I.ok.glob];exact I.mod.glob.keeps I.bk) b h) hd
def lG{E:Vp}{e:List (Addr×Obj)}{s:Shared}{σ:St}{H:Hp}{x:Str}{u:Value}{pos:Pos}{Q:Vp}(I:Inv X e σ H s)(a:Gl X x)(b:X.mg x=none)(d:bootBuiltins x=some u)(h:Q u s)
  (f:x≠"__name__":=by decide) (hd:(x == ("__debug__":Str))=false:=by decide):wpAny (model X.prog X.w) X.A (eval (.Name x pos) X.env) Q E s:=by
 obtain⟨i,h1,h2⟩:=I.mod.blt;exact Calls.Name_function_global I.ok.kind a (Calls.loadGlobal_builtin (by rw[I.ok.glob];exact I.mod.glob.keeps I.bk) b (by rw[I.ok.blt];exact h1.keeps I.bk) ((h2 x f).trans d) h) hd
def xE{x:Str}{v:V}{u:Value}{pos:Pos}(a:Gl X x)(b:X.mg x=some u)(r:RelV v u)(hd:(x == ("__debug__":Str))=false:=by decide):PE X (.Name x pos) (tC v):=
 λ_ _ _ H _ I h=>LO I a b ⟨v,H,I,r,h⟩ hd
def qS{x:Str}{v:V}{u:Value}{pos:Pos}(a:Gl X x)(b:X.mg x=none)(d:bootBuiltins x=some u)(r:RelV v u)(e:x≠"__name__":=by decide)(hd:(x == ("__debug__":Str))=false:=by decide):PE X (.Name x pos) (tC v):=
 λ_ _ _ H _ I h=>lG I a b d ⟨v,H,I,r,h⟩ e hd
variable{a b:Expr}{ta tb:TE}{pos:Pos}
def PC(X:Cx)(op:CmpOp)(a b:Expr)(t:TE):Prop:=
 ∀(pins:List (Addr×Obj))(s:Shared)(σ:St)(H:Hp)(Q:VK),Inv X pins σ H s->t σ H Q->
  wpAny (model X.prog X.w) X.A (eval a X.env) (λv s₁=>wpAny (model X.prog X.w) X.A (eval b X.env) (λu s₂=>wpAny (model X.prog X.w) X.A (compareOp op v u) (EP X pins σ Q) X.xe s₂) X.xe s₁) X.xe s
def NH(b:Expr){a:CmpOp}(h:a≠.In)(h2:a≠.NotIn):behindInMarks a b=false:=by
 have e:(a == CmpOp.In)=false:=by cases a <;> first | rfl | exact absurd rfl h
 have d:(a == CmpOp.NotIn)=false:=by cases a <;> first | rfl | exact absurd rfl h2
 cases b <;> simp[behindInMarks,e,d]
def AG(ta:TE):TE:=λσ H Q=>ta σ H λx H1=>Q (.bl<|decide<|x=.non) H1
def zN(ta:TE):TE:=λσ H Q=>ta σ H λx H1=>Q (.bl<|!decide (x=.non)) H1
def RelV.none_iff{x:V}{v:Value}(r:RelV x v):(v == Value.none)=decide (x=.non):=by
 cases x with
 | non=>cases r;rfl
 | bl _=>cases r;rfl
 | int _=>obtain⟨t,rfl⟩:=r;rfl
 | str _=>obtain⟨t,rfl⟩:=r;rfl
 | byt _=>obtain⟨t,rfl⟩:=r;rfl
 | flt _=>obtain⟨t,rfl⟩:=r;rfl
 | ref _=>cases r;rfl
 | ty _=>cases r;rfl
def oR{j pos'}(f:PE X a ta):PC X .Is a (.Constant .none j pos') (AG ta):=by
 intro d s σ H Q I h;refine aU (f d s σ H _ I h) ?_;rintro v l ⟨x,H1,i,b,e⟩;exact Constant_none<|is_none_gen ⟨.bl _,H1,i,by rw[b.none_iff];rfl,e⟩
def tH{j pos'}(f:PE X a ta):PC X .IsNot a (.Constant .none j pos') (zN ta):=by
 intro d s σ H Q I h;refine aU (f d s σ H _ I h) ?_;rintro v l ⟨x,H1,i,b,e⟩;exact Constant_none<|isnot_none_gen ⟨.bl _,H1,i,by rw[b.none_iff];rfl,e⟩
inductive rN(x:V)(H:Hp)(Q:Bool->Hp->Prop):Prop
 | mk(c:Bool)(h:x=.bl c)(q:Q c H):rN x H Q
def tB(t:TE):TT:=λσ H Q=>t σ H λx H1=>rN x H1 Q
def OG{d:CmpOp}{t:TE}(h:PC X d a b t)(h1:behindInMarks d b=false:=by first | exact NH _ (by decide) (by decide) | rfl):PE X (.Compare a [d] [b] pos) t:=λf s σ H Q I e=>wpAny_Compare1 (h f s σ H Q I e) h1
def iL{e:CmpOp}{t:TE}(h:PC X e a b t)(h1:behindInMarks e b=false:=by first | exact NH _ (by decide) (by decide) | rfl):PT X (.Compare a [e] [b] pos) (tB t):=by
 intro l s σ H Q I f;refine wpAny_isTrue_Compare1 (aU (h l s σ H _ I f) λv n h1=>aU h1 λu s2 h2=>aU h2 λc s3 ⟨x,H1,m,j,i⟩=>?_) h1;obtain⟨d,rfl,q⟩:=i;cases j;exact uF ⟨H1,m,q⟩
def yX{e:Expr}{t:TE}(h:PE X e t)(he:∀whole,isTrue e X.env whole=(do let v <-whole;standAt e.pos;holding [v]<|truthy v):=by intro _;rfl):PT X e (tB t):=by
 intro i s σ H Q I a;refine isTrue_plain (aU (h i s σ H _ I a) λv l ⟨x,H1,j,f,b⟩=>?_)<|he _;obtain⟨d,rfl,q⟩:=b;cases f;exact uF ⟨H1,j,q⟩
variable{tA tB':TT}{rest:List Expr}
def jE(t u:TT):TT:=λσ H Q=>t σ H λc H1=>if c=true then u σ H1 Q else Q false H1
def KY(t u:TT):TT:=λσ H Q=>t σ H λc H1=>if c=true then Q true H1 else u σ H1 Q
def JS(t:TT):TT:=λσ H Q=>t σ H λc H1=>Q (!c) H1
def mU(d:PT X a tA):PW X (.BoolOp .And [a] pos) tA:=by
 intro f b s σ H Q I h;refine isTrue_and<|aU (d b s σ H Q I h) λc i e=>?_;cases c with
 | true=>exact isTrue_and_nil e
 | false=>exact e
def KA(d:PT X a tA):PW X (.BoolOp .Or [a] pos) tA:=by
 intro f b s σ H Q I h;refine isTrue_or<|aU (d b s σ H Q I h) λc i e=>?_;cases c with
 | false=>exact isTrue_or_nil e
 | true=>exact e
def kJ(m:PT X a tA)(j:PW X (.BoolOp .And (b::rest) pos) tB'):PW X (.BoolOp .And (a::b::rest) pos) (jE tA tB'):=by
 intro i d s σ H Q I h;refine isTrue_and<|aU (m d s σ H _ I h) ?_;rintro c l ⟨H1,f,e⟩;cases c with
 | true=>exact j i d l σ H1 Q f e
 | false=>exact⟨H1,f,e⟩
def IJ(m:PT X a tA)(j:PW X (.BoolOp .Or (b::rest) pos) tB'):PW X (.BoolOp .Or (a::b::rest) pos) (KY tA tB'):=by
 intro i d s σ H Q I h;refine isTrue_or<|aU (m d s σ H _ I h) ?_;rintro c l ⟨H1,f,e⟩;cases c with
 | true=>exact⟨H1,f,e⟩
 | false=>exact j i d l σ H1 Q f e
def uA(d:PT X a tA):PT X (.UnaryOp .Not a pos) (JS tA):=by
 intro b s σ H Q I h;exact isTrue_not<|d b s σ H (λc H1=>Q (!c) H1) I h
def BI(ta tb:TE):TE:=λσ H Q=>ta σ H λx H1=>∃c,x=.bl c/\if c=true then tb σ H1 Q else Q (.bl false) H1
def BW(ta:TE):TE:=λσ H Q=>ta σ H λx H1=>∃c,x=.bl c/\Q (.bl<|!c) H1
def HX{op}{t:TE}(h:PE X a t):PE X (.BoolOp op [a] pos) t:=λb s σ H Q I d=>BoolOp_one<|h b s σ H Q I d
def xT(m:PE X a ta)(l:PE X (.BoolOp .And (b::rest) pos) tb):PE X (.BoolOp .And (a::b::rest) pos) (BI ta tb):=by
 intro e s σ H Q I h;refine BoolOp_and<|aU (m e s σ H _ I h) ?_;rintro v i ⟨x,H1,f,j,d⟩;obtain⟨c,rfl,d⟩:=d;cases j;refine uF ?_;cases c with
 | true=>exact l e i σ H1 Q f d
 | false=>exact⟨.bl false,H1,f,rfl,d⟩
def rQ(f:PE X a ta):PE X (.UnaryOp .Not a pos) (BW ta):=by
 intro e s σ H Q I h;refine UnaryOp_<|aU (f e s σ H _ I h) ?_;rintro v j ⟨x,H1,i,d,b⟩;obtain⟨c,rfl,b⟩:=b;cases d;exact not_of<|uF ⟨.bl<|!c,H1,i,rfl,b⟩
def NV(t:TT)(ta tb:TE):TE:=λσ H Q=>t σ H λc H1=>if c=true then ta σ H1 Q else tb σ H1 Q
def wV{c:Expr}(n:PT X c tA)(m:PE X a ta)(l:PE X b tb):PE X (.IfExp c a b pos) (NV tA ta tb):=by
 intro e s σ H Q I h;refine wpAny_IfExp<|aU (n e s σ H _ I h) ?_;rintro d i ⟨H1,j,f⟩;cases d with
 | true=>exact m e i σ H1 Q j f
 | false=>exact l e i σ H1 Q j f
end
def SqL(K:Fq)(H:Hp)(a:Addr)(xs:List V):Prop:=
 Rd H a (.lst xs)\/
  ∃(o:Obj)(its:Array Value)(n:Nat),K.lookup a=some o/\o.cls=.type "list"/\o.dict=none/\o.data=.seq its n/\its.size<=sizeLine/\Vals xs its.toList
def SqT(K:Fq)(H:Hp)(a:Addr)(xs:List V):Prop:=
 Rd H a (.tup xs)\/
  ∃(o:Obj)(its:Array Value)(n:Nat),K.lookup a=some o/\o.cls=.type "tuple"/\o.data=.seq its n/\its.size<=sizeLine/\Vals xs its.toList
def MS:Value->Option V
 | .none=>some .non
 | .bool b=>some<|.bl b
 | .int i _=>some<|.int i
 | .str x _=>some<|.str x
 | .bytes b _=>some<|.byt b
 | .float b _=>some<|.flt b
 | .ref a=>some<|.ref a
 | .type n=>some<|.ty n
 | _=>none
def RelV.abs{x:V}{u:Value}(r:RelV x u):MS u=some x:=by
 cases x with
 | non=>cases r;rfl
 | bl _=>cases r;rfl
 | int _=>obtain⟨t,rfl⟩:=r;rfl
 | str _=>obtain⟨t,rfl⟩:=r;rfl
 | byt _=>obtain⟨t,rfl⟩:=r;rfl
 | flt _=>obtain⟨t,rfl⟩:=r;rfl
 | ref _=>cases r;rfl
 | ty _=>cases r;rfl
def RelV.inj{x y:V}{u:Value}(r:RelV x u)(q:RelV y u):x=y:=gX<|r.abs.symm.trans q.abs
theorem Vals.inj:∀{xs ys:List V}{us:List Value},Vals xs us->Vals ys us->xs=ys
 | _,_,_,.nil,.nil=>rfl
 | _,_,_,.cons r t,.cons r' t'=>by rw[r.inj r',Vals.inj t t']
section
variable{pins:List (Addr×Obj)}{σ:St}{H:Hp}{s:Shared}{a:Addr}{xs ys:List V}
def SqL.of{K:Fq}(h:H a=some (.lst xs)):SqL K H a xs:=.inl<|.inl h
def SqT.of{K:Fq}(h:H a=some (.tup xs)):SqT K H a xs:=.inl<|.inl h
def Inv.list(I:Inv X pins σ H s)(h:SqL X.K H a xs):∃its:List Value,Vals xs its/\PlainL s.heap a its.toArray/\↑xs<=sizeLine:=by
 rcases h with h | ⟨o,its,n,hk,hc,hd,hs,hz,r⟩
 .obtain⟨z,its,n,r,e⟩:=h.ok I.hok;exact⟨its,r,⟨_,n,e,rfl,rfl,rfl⟩,z⟩
 .exists its.toList,r,⟨o,n,I.kIn a o hk,hc,hd,by simpa using hs⟩;have e:=↑r;simp only[FD]at e;lia
def Inv.tuple(I:Inv X pins σ H s)(h:SqT X.K H a xs):∃its:List Value,Vals xs its/\IsTup s.heap a its.toArray/\↑xs<=sizeLine:=by
 rcases h with h | ⟨o,its,n,hk,hc,hs,hz,r⟩
 .obtain⟨z,its,r,p⟩:=h.ok I.hok;exact⟨its,r,p,z.1⟩
 .exists its.toList,r,⟨o,I.kIn a o hk,hc,n,by simpa using hs⟩;have e:=↑r;simp only[FD]at e;lia
def Inv.list_inj(I:Inv X pins σ H s)(h:SqL X.K H a xs)(h':SqL X.K H a ys):xs=ys:=by
 obtain⟨its,r,⟨o,n,e,_,_,d⟩,_⟩:=I.list h;obtain⟨its',r',⟨o',f,b,_,_,d'⟩,_⟩:=I.list h';rw[e]at b;cases b;rw[d]at d';injection d' with d1 _;have:its=its':=by simpa using cF Array.toList d1
 subst this;exact r.inj r'
def Inv.tuple_inj(I:Inv X pins σ H s)(h:SqT X.K H a xs)(h':SqT X.K H a ys):xs=ys:=by
 obtain⟨its,r,⟨o,e,_,n,d⟩,_⟩:=I.tuple h;obtain⟨its',r',⟨o',b,_,f,d'⟩,_⟩:=I.tuple h';rw[e]at b;cases b;rw[d]at d';injection d' with d1 _;have:its=its':=by simpa using cF Array.toList d1
 subst this;exact r.inj r'
end
abbrev Cx.wish(X:Cx)(E:Vp):Cx:={X with xe:=E}
abbrev Cx.nox(X:Cx):Cx:=X.wish λ_ _=>False
theorem Cx.Ok.wish{X:Cx}(ok:X.Ok)(E:Vp):(X.wish E).Ok:=
 ⟨ok.mod,ok.kind,ok.glob,ok.blt,ok.above,ok.inj,ok.has,ok.cab,ok.hd,ok.frames,ok.stk,ok.exf,ok.bs,ok.bsz,ok.noex,ok.exfs,ok.funs,ok.frf⟩
def Cx.Ok.unwish{X:Cx}{E:Vp}(ok:(X.wish E).Ok):X.Ok:=
 ⟨ok.mod,ok.kind,ok.glob,ok.blt,ok.above,ok.inj,ok.has,ok.cab,ok.hd,ok.frames,ok.stk,ok.exf,ok.bs,ok.bsz,ok.noex,ok.exfs,ok.funs,ok.frf⟩
section
variable{pins:List (Addr×Obj)}{σ:St}{H:Hp}{s:Shared}{E:Vp}
theorem Inv.wish(I:Inv X pins σ H s)(E:Vp):Inv (X.wish E) pins σ H s:=⟨I.ok.wish E,I.os,I.bare,I.base,I.loc,I.cell,I.free,I.freeC,I.pin,I.hok,I.len⟩
theorem Inv.unwish(I:Inv (X.wish E) pins σ H s):Inv X pins σ H s:=⟨I.ok.unwish,I.os,I.bare,I.base,I.loc,I.cell,I.free,I.freeC,I.pin,I.hok,I.len⟩
theorem SP.unwish{D:dB}{f:Flow}{s':Shared}(h:SP (X.wish E) pins D f s'):SP X pins D f s':=by
 cases f with
 | next=>obtain⟨σ',H',I,q⟩:=h;exact⟨σ',H',I.unwish,q⟩
 | brk=>obtain⟨σ',H',I,q⟩:=h;exact⟨σ',H',I.unwish,q⟩
 | cont=>obtain⟨σ',H',I,q⟩:=h;exact⟨σ',H',I.unwish,q⟩
 | ret u=>obtain⟨v,σ',H',I,r,q⟩:=h;exact⟨v,σ',H',I.unwish,r,q⟩
theorem PSs.nox{st:List Stmt}{t:TS}(h:PSs X.nox st t):PSs X st t:=λb s σ H D I a=>
 fV (h b s σ H D (I.wish _) a) (λ_ _ q=>q.unwish) λ_ _ z=>False.elim z
end
section
variable{st:Stmt}{rest:List Stmt}{t u:TS}{e:Expr}{te:TE}{pos:Pos}
def qX:TS:=λD σ H=>D.nx σ H
def fT(t u:TS):TS:=λD σ H=>t {D with nx:=u D} σ H
def dD:PSs X [] qX:=λ_ _ σ H _ I h=>wpAny_execs_nil ⟨σ,H,I,h⟩
def aL(h1:PS X st t)(h2:PSs X rest u):PSs X (st::rest) (fT t u):=by
 intro a s σ H D I h;refine wpAny_execs_cons<|aU (h1 a s σ H {D with nx:=u D} I h) λf b q=>?_;cases f with
 | next=>
  obtain⟨σ',H',d,q⟩:=q;exact h2 a b σ' H' D d q
 | ret v=>exact q
 | brk=>exact q
 | cont=>exact q
def aQ(h1:PS X st t):PSs X [st] t:=by
 intro a s σ H D I h;refine wpAny_execs_cons<|aU (h1 a s σ H D I h) λf b q=>?_;cases f with
 | next=>exact wpAny_execs_nil q
 | ret v=>exact q
 | brk=>exact q
 | cont=>exact q
def Inv.quiet{a:List (Addr×Obj)}{σ:St}{H:Hp}{s:Shared}(I:Inv X a σ H s):interactive X.env=false:=by simp[interactive,I.ok.kind]
def BA(te:TE):TS:=λD σ H=>te σ H λ_ H1=>D.nx σ H1
def dQ(he:PE X e te)(hs:swapsWith e none pos.line X.env=pure false:=by rfl):PS X (.Expr e pos) (BA te):=by
 intro a s σ H D I h;exact wpAny_Expr_any (aU (he a s σ H _ I h) <| by rintro v i ⟨x,H1,d,f,b⟩;exact⟨σ,H1,d,b⟩) I.quiet hs
def hC(te:TE):TS:=λD σ H=>te σ H D.rt
def bS(he:PE X e te):PS X (.Return (some e) pos) (hC te):=by
 intro b s σ H D I h;exact wpAny_Return_some (aU (he b s σ H _ I h) <| by rintro v i ⟨x,H1,f,a,d⟩;exact⟨x,σ,H1,f,a,d⟩)
def xU:TS:=λD _ H=>D.rt .non H
def SG:PS X (.Return none pos) xU:=λ_ _ σ H _ I h=>wpAny_Return_none ⟨.non,σ,H,I,rfl,h⟩
def iM(c:TT)(t u:TS):TS:=λD σ H=>c σ H λb H1=>if b=true then t D σ H1 else u D σ H1
def cL{c:Expr}{a b:List Stmt}{tc:TT}(n:PT X c tc)(m:PSs X a t)(l:PSs X b u):PS X (.If c a b pos) (iM tc t u):=by
 intro e s σ H D I h;refine wpAny_If<|aU (n e s σ H _ I h) ?_;rintro d i ⟨H1,j,f⟩;cases d with
 | true=>exact m e i σ H1 D j f
 | false=>exact l e i σ H1 D j f
def OL:TS:=λ_ _ _=>False
def Am:PS X st OL:=λ_ _ _ _ _ _ h=>h.elim
def MA{a:List Stmt}:PSs X a OL:=λ_ _ _ _ _ _ h=>h.elim
end
abbrev TG:=V->St->Hp->(St->Hp->Prop)->Prop
abbrev mO:=List V->St->Hp->(St->Hp->Prop)->Prop
def PG(X:Cx)(target:Expr)(t:TG):Prop:=
 ∀(pins:List (Addr×Obj))(s:Shared)(σ:St)(H:Hp)(v:V)(u:Value)(Q:St->Hp->Prop),Inv X pins σ H s->RelV v u->t v σ H Q->
  wpAny (model X.prog X.w) X.A (assign target X.env u) (λ_ s'=>∃σ' H',Inv X pins σ' H' s'/\Q σ' H') X.xe s
def DY(X:Cx)(ts:List Expr)(t:mO):Prop:=
 ∀(pins:List (Addr×Obj))(s:Shared)(σ:St)(H:Hp)(vs:List V)(us:List Value)(Q:St->Hp->Prop),Inv X pins σ H s->Vals vs us->t vs σ H Q->
  wpAny (model X.prog X.w) X.A (assignInOrder ((assignEach ts X.env).map (·.2)) us) (λ_ s'=>∃σ' H',Inv X pins σ' H' s'/\Q σ' H') X.xe s
abbrev uR:=V->V->V->Hp->(Hp->Prop)->Prop
def BB(X:Cx)(t:uR):Prop:=
 ∀(pins:List (Addr×Obj))(s:Shared)(σ:St)(H:Hp)(o i v:V)(ov iv u:Value)(Q:Hp->Prop),Inv X pins σ H s->RelV o ov->RelV i iv->RelV v u->t o i v H Q->
  wpAny (model X.prog X.w) X.A (setItem ov iv u) (λ_ s'=>∃H',Inv X pins σ H' s'/\Q H') X.xe s
section
variable{pos:Pos}
def bW(i:Nat):TG:=λv σ H Q=>Q (σ.set i<|some v) H
def wZ{i:Nat}{x:Str}(a:X.N.Nodup)(hi:X.N[i]?=some x)(b:xK X.env.scope x)(d:X.fn x=true\/X.env.scope.names.lookup x=some .local:=by first | exact .inl rfl | exact .inr rfl | assumption):PG X (.Name x pos) (bW i):=by
 intro f s σ H v u Q I r h;exact wpAny_assign_Name<|DS I a hi b r (λs' e=>⟨_,H,e,h⟩) d
inductive UZ(vs:List V)(σ:List (Option V))(H:Hp)(Q:List (Option V)->Hp->Prop):Prop
 | mk(h:vs=[])(q:Q σ H):UZ vs σ H Q
def eO:mO:=λvs σ H Q=>UZ vs σ H Q
inductive SX(t:TG)(u:mO)(vs:List V)(σ:List (Option V))(H:Hp)(Q:List (Option V)->Hp->Prop):Prop
 | mk(v:V)(r:List V)(h:vs=v::r)(q:t v σ H λσ2 H2=>u r σ2 H2 Q):SX t u vs σ H Q
def dW(t:TG)(u:mO):mO:=λvs σ H Q=>SX t u vs σ H Q
def eK:DY X [] eO:=by
 intro a s σ H vs us Q I r h;obtain⟨e,h⟩:=h;subst e;cases r;exact assignInOrder_nil ⟨σ,H,I,h⟩
def bL{e:Expr}{es:List Expr}{t:TG}{u:mO}(h1:PG X e t)(h2:DY X es u)
  (hs:(assignEach (e::es) X.env).map (·.2)=assign e X.env::(assignEach es X.env).map (·.2):=by rfl):DY X (e::es) (dW t u):=by
 intro a s σ H vs us Q I r h;obtain⟨v,j,b,h⟩:=h;subst b;cases r with
 | cons r rr=>
  rw[hs];refine assignInOrder_cons<|aU (h1 a s σ H _ _ _ I r h) ?_;rintro _ f ⟨σ1,H1,i,d⟩;exact h2 a f σ1 H1 _ _ Q i rr d
inductive SV(K:Fq)(n:Nat)(t:mO)(v:V)(σ:List (Option V))(H:Hp)(Q:List (Option V)->Hp->Prop):Prop
 | mk(a:Addr)(xs:List V)(h1:v=.ref a)(h2:SqT K H a xs)(h3:↑xs=n)(q:t xs σ H Q):SV K n t v σ H Q
def eN(K:Fq)(n:Nat)(t:mO):TG:=λv σ H Q=>SV K n t v σ H Q
def eG{es:List Expr}{k:Nat}{t:mO}{n:Nat}(m:X.calm=true)(h:DY X es t)
  (q:↑(assignEach es X.env)=n:=by rfl) (w:(assignEach es X.env).findIdx? (·.1)=none:=by rfl):PG X (.Tuple es k pos) (eN X.K n t):=by
 intro i s σ H v u Q I r d;obtain⟨a,xs,l,x,hl,d⟩:=d;subst l;cases r;obtain⟨its,f,z,hz⟩:=I.tuple x;refine assign_Tuple_tuple (I.ok.hd m) z (by simp[q,<-hl,f.length]) w λh' j=>?_
 have A:Inv X i σ H {s with heap:=h'}:=I.kept (t':=s.toks) λb o e=>j b o (bV<|bP e) e;exact h i _ σ H xs _ Q A (by simpa using f) d
def KN(to ti:TE)(t:uR):TG:=λv σ H Q=>to σ H λo H1=>ti σ H1 λi H2=>t o i v H2 λH3=>Q σ H3
def sW{o i:Expr}{to e:TE}{t:uR}(m:PE X o to)(hi:PE X i e)(hs:BB X t)
  (B:∀v,assign (.Subscript o i pos) X.env v=(do
   let a <-holding [v] (eval o X.env)
   let b <-holding [v,a] (eval i X.env)
   standAt pos
   holding [v,a,b] (setItem a b v)
   release [v,a,b] []):=by intro _;rfl):PG X (.Subscript o i pos) (KN to e t):=by
 intro d s σ H v u Q I r h;rw[B];refine aJ<|iO<|aU (m d s σ H _ I h) ?_;rintro a j ⟨x,H1,C,w,f⟩;refine aJ<|iO<|aU (hi d j σ H1 _ C f) ?_;rintro b s2 ⟨y,H2,q,l,n⟩;refine aJ<|nM<|aJ<|iO<|aU (hs d s2 σ H2 x y v a b u _ q w l r n) ?_;rintro _ s3 ⟨H3,z,A⟩;exact wpAny_release ⟨σ,H3,z,A⟩
def fZ(te:TE)(g:TG):TS:=λD σ H=>te σ H λx H1=>g x σ H1 D.nx
def iQ{tg e:Expr}{te:TE}{g:TG}(he:PE X e te)(i:PG X tg g)(hs:swapsWithSole [tg] e pos.line X.env=pure false:=by rfl)(b:swappedStores [tg] e X.env=pure none:=by rfl)
  (h1:(assignEach [tg] X.env).map (·.2)=[assign tg X.env]:=by rfl):PS X (.Assign [tg] e pos) (fZ te g):=by
 intro a s σ H D I h;refine wpAny_Assign_stores (aU (he a s σ H _ I h) λv d ⟨x,H1,l,j,f⟩=>?_) hs b;rw[h1];exact aU (i a d σ H1 x v _ l j f) λ_ s2 q=>q
def hI{i:Nat}{x:Str}{e:Expr}{te:TE}{a:Pos}(f:X.N.Nodup)(hi:X.N[i]?=some x)(b:xK X.env.scope x)(he:PE X e te)(hs:swapsWith e (some<|.Name x a) pos.line X.env=pure false:=by rfl)(n:X.fn x=true\/X.env.scope.names.lookup x=some .local:=by first | exact .inl rfl | exact .inr rfl | assumption):
  PS X (.Assign [.Name x a] e pos) (fZ te<|bW i):=by
 intro j s σ H D I h;refine wpAny_Assign_Name (aU (he j s σ H _ I h) λv q ⟨y,H1,o,m,d⟩=>?_) hs;exact DS o f hi b m (λs2 l=>⟨_,H1,l,d⟩) n
def LY(i j:Nat)(ta:TA):TS:=λD σ H=>ta σ H λvs H1=>∃v w,vs=[v,w]/\D.nx ((σ.set i<|some v).set j<|some w) H1
def qN{i j:Nat}{x y:Str}{a b:Expr}{ta:TA}{n r pt:Pos}{kt k2 pt2}(K:X.calm=true)(C:X.N.Nodup)(hi:X.N[i]?=some x)(L:X.N[j]?=some y)(G:i≠j)
  (u:X.env.scope.names.lookup x=some .local) (E:X.env.scope.names.lookup y=some .local) (ha:PA X [a,b] ta)
  (Y:swappedStores [.Tuple [.Name x n,.Name y r] kt pt] (.Tuple [a,b] k2 pt2) X.env=pure (some [x,y]))
  (hs:swapsWithSole [.Tuple [.Name x n,.Name y r] kt pt] (.Tuple [a,b] k2 pt2) pos.line X.env=pure false:=by rfl):
  PS X (.Assign [.Tuple [.Name x n,.Name y r] kt pt] (.Tuple [a,b] k2 pt2) pos) (LY i j ta):=by
 intro z s σ H D I h;rw[exec_Assign_arm];refine aJ<|nM ?_;rw[hs];refine aJ<|bJ ?_;rw[aZ<|by decide];refine aJ<|Tuple_<|aU (ha _ z s σ H _ I h) ?_;rintro us d ⟨vs,H1,W,T,m⟩;obtain⟨v,w,Z,m⟩:=m;subst Z;obtain⟨l,f,rfl,O,P⟩:∃l f,us=[l,f]/\RelV v l/\RelV w f:=by
  cases T with
  | cons p q=>
   cases q with
   | cons p' q'=>
    cases q';exact⟨_,_,rfl,p,p'⟩
 refine jY ?_ (by show 2<=sizeLine;decide);have M:Inv X z σ H1 {d with heap:=d.heap.push {cls:=.type "tuple",data:=.seq [l,f].toArray}}:=W.kept (t':=d.toks) λb o e=>bU _ e;rw[Y];refine aJ<|bJ ?_;show wpAny (model X.prog X.w) X.A (do rule "assign.swapped-stores";let items <-unpackItems (.ref d⁻¹) 2 none;assignInOrder [λv=>bindName X.env y v,λv=>bindName X.env x v] items.reverse;pure Flow.next) _ _ _;refine aJ<|tR<|aJ<|unpackItems_tuple (items:=#[l,f]) (I.ok.hd K) (IsTup.new d.heap _) λh' a1=>?_;have I3:=M.kept (h':=h') (t':=d.toks) λb o e=>a1 b o (bV<|bP e) e;show wpAny _ _ (assignInOrder [λv=>bindName X.env y v,λv=>bindName X.env x v] [f,l] >>= λ_=>pure Flow.next) _ _ _;refine aJ<|assignInOrder_cons<|wpAny_bindName<|DS I3 C L (.inl E) P (λs2 J=>?_)<|.inr E;refine assignInOrder_cons<|wpAny_bindName<|DS J C hi (.inl u) O (λs3 B=>assignInOrder_nil<|bJ ?_)<|.inr u;rw[List.set_comm _ _<|bK G]at B;exact⟨_,H1,B,m⟩
end
section
variable{pos:Pos}
def RD(c:TT)(tb:TS):TS:=λD σ H=>∃W:Nat->St->Hp->Prop,(∃m,W m σ H)/\∀m σ H,W m σ H->
 c σ H λb H1=>if b=true then ∃N:St->Hp->Prop,(∀σ' H',N σ' H'->∃m',m'<m/\W m' σ' H')/\tb {D with nx:=N,ct:=N,bk:=D.nx} σ H1 else D.nx σ H1
def EN{c:Expr}{body:List Stmt}{tc:TT}{tb:TS}(hp:PassesOwn (model X.prog X.w) X.A X.env X.xe)(z:PT X c tc)(B:PSs X body tb):PS X (.While c body [] pos) (RD tc tb):=by
 intro j s σ H D I h;obtain⟨W,⟨r,u⟩,turn⟩:=h;refine wpAny_While<|codeAny_whileLoop (λn s'=>∃σ' H',Inv X j σ' H' s'/\W n σ' H') ?_ r ⟨σ,H,I,u⟩;rintro n x ⟨σ1,H1,C,E⟩;refine vR hp<|aU (z j x σ1 H1 _ C<|turn n σ1 H1 E) ?_;rintro b s2 ⟨H2,o,d⟩;cases b with
 | true=>
  obtain⟨N,q,d⟩:=d;rw[bC rfl];refine vR hp<|aU (B j s2 σ1 H2 _ o d) λf s3 a=>?_;cases f with
  | next=>
   obtain⟨σ3,H3,m,l⟩:=a;obtain⟨m',e,i⟩:=q σ3 H3 l;exact⟨m',e,σ3,H3,m,i⟩
  | cont=>
   obtain⟨σ3,H3,m,l⟩:=a;obtain⟨m',e,i⟩:=q σ3 H3 l;exact⟨m',e,σ3,H3,m,i⟩
  | brk=>exact a
  | ret v=>exact a
 | false=>
  rw[aZ eJ];exact wpAny_execs_nil ⟨σ1,H2,o,d⟩
end
structure It where
 go:Nat->Hp->Prop
 yld:Nat->Hp->V->Hp->Prop
 stop:Nat->Hp->Prop
def dR(X:Cx)(pins:List (Addr×Obj))(H:Hp)(b:Addr):Prop:=
 H b=none/\b≠X.env.locals/\b∉X.fs/\(b∈X.ex\/X.s₀⁻¹<=b)/\(∀x c,X.env.cells.lookup x=some c->c≠b)/\∀p∈X.pn++pins,p.1≠b
def Inv.fpOk{X:Cx}{d:List (Addr×Obj)}{σ:St}{H H':Hp}{s:Shared}{b:Addr}(I:Inv X d σ H s)(a:s⁻¹<=b)(f:H' b=none):dR X d H' b:=by
 refine⟨f,dM<|fU I.lt a,I.nofs a,.inr<|fX I.sz a,λx c e z=>?_,λp hp z=>?_⟩
 .obtain⟨v,q⟩:=I.cell x c e;exact absurd (fU q.lt<|by rw[z];exact a)<|iD _
 .exact absurd (fU (bP (I.pin p hp).1)<|by rw[z];exact a)<|iD _
structure fC(P:Program)(w:World)(K:Fq)(tg:Expr)(J:It)(fp:List Addr)(it:Addr)(tn:Nat->Heap->Prop):Prop where
 mem:it∈fp
 obj:∀i h,tn i h->∀b∈fp,∃o,h.get? b=some o/\∀v,o.data≠.cell v
 keep:∀i h h',tn i h->(∀b∈fp,∀o,h.get? b=some o->h'.get? b=some o)->tn i h'
 item:∀(X:Cx),X.prog=P->X.w=w->X.K=K->X.calm=true->∀(i:Nat)(pins:List (Addr×Obj))(s:Shared)(σ:St)(H:Hp)(E:Vp),Inv X pins σ H s->(∀b∈fp,dR X pins H b)->tn i s.heap->J.go i H->
  wpAny (model P w) X.A (pyNext<|.ref it) (λr s1=>∃u,r=some u/\ wpAny (model P w) X.A (letOwnedTupleGo tg (.ref it) u) (λ_ s2=>∃x H',Inv X pins σ H' s2/\RelV x u/\J.yld i H x H'/\tn (i+1) s2.heap/\∀b∈fp,H' b=none) E s1) E s
 done:∀(X:Cx),X.prog=P->X.w=w->X.K=K->X.calm=true->∀(i:Nat)(pins:List (Addr×Obj))(s:Shared)(σ:St)(H:Hp)(E:Vp),Inv X pins σ H s->(∀b∈fp,dR X pins H b)->tn i s.heap->J.stop i H->
  wpAny (model P w) X.A (pyNext<|.ref it) (λr s1=>r=none/\Inv X pins σ H s1) E s
 self:∀(A:Around)(i:Nat)(s:Shared)(Q:Vp)(E:Vp),tn i s.heap->Q (.ref it) s->wpAny (model P w) A (pyIter<|.ref it) Q E s
abbrev TI:=St->Hp->(It->Hp->Prop)->Prop
def KP(X:Cx)(pins:List (Addr×Obj))(σ:St)(tg:Expr)(R:It->Hp->Prop)(itv:Value)(s2:Shared):Prop:=
 ∃(it:Addr)(fp:List Addr)(tn:Nat->Heap->Prop)(J:It)(H':Hp),itv=.ref it/\Inv X pins σ H' s2/\fC X.prog X.w X.K tg J fp it tn/\tn 0 s2.heap/\(∀b∈fp,dR X pins H' b)/\R J H'
def PI(X:Cx)(tg iter:Expr)(wi:TI):Prop:=
 ∀(pins:List (Addr×Obj))(s:Shared)(σ:St)(H:Hp)(R:It->Hp->Prop),Inv X pins σ H s->wi σ H R->
  wpAny (model X.prog X.w) X.A (eval iter X.env) (λv s1=>wpAny (model X.prog X.w) X.A (pyIter v) (KP X pins σ tg R) X.xe s1) X.xe s
def uN{M:Model}{A:Around}{E:Vp}{s:Shared}{tg:Expr}{it:Addr}{u:Value}{o:Obj}{n:String}{vs:Array Value}{Q:Unit->Shared->Prop}(b:s.heap.get? it=some o)(d:o.cls=.type n)(hd:o.data=.fields vs)
  (e:["enumerate","zip","dict_itemiterator","dict_reverseitemiterator","odict_iterator","itertools.zip_longest","itertools.pairwise"].contains n=false) (a:Q () s):wpAny M A (letOwnedTupleGo tg (.ref it) u) Q E s:=by
 unfold letOwnedTupleGo;cases tg <;> first
  | exact bJ a
  | (cases u <;> first
    | exact bJ a
    | (refine aJ<|wpAny_load b ?_;rw[d,hd];show wpAny M A (if (["enumerate","zip","dict_itemiterator","dict_reverseitemiterator","odict_iterator","itertools.zip_longest","itertools.pairwise"].contains n && vs[0]? == some (rawInt _))=true then _ else _) Q E s;rw[aZ<|by intro h;rw[e,Bool.false_and]at h;cases h];exact bJ a))
def qR(K:Fq)(a:Addr):It:=
 ⟨λi H=>∃xs x,SqL K H a xs/\xs[i]?=some x,λi H x H'=>H'=H/\∀xs,SqL K H a xs->xs[i]?=some x,λi H=>∃xs,SqL K H a xs/\↑xs<=i⟩
def kW(K:Fq)(a:Addr):It:=
 ⟨λi H=>∃xs x,SqT K H a xs/\xs[i]?=some x,λi H x H'=>H'=H/\∀xs,SqT K H a xs->xs[i]?=some x,λi H=>∃xs,SqT K H a xs/\↑xs<=i⟩
def vS(lo:Int)(n:Nat):It:=⟨λi _=>i<n,λi H x H'=>H'=H/\x=.int (lo+i),λi _=>n<=i⟩
def Ay{P:Program}{w:World}{K:Fq}{tg:Expr}(a it:Addr):fC P w K tg (qR K a) [it] it (λi h=>h.IsListIter it a i) where
 mem:=by simp
 obj:=λi h st b f=>by
  have e:b=it:=by simpa using f
  subst e;obtain⟨o,e,c,d⟩:=st;exact⟨o,e,λv z=>by rw[d]at z;cases z⟩
 keep:=λi h h' st k=>st.at λo e=>k it (by simp) o e
 item:=by
  intro X J C B N i O s σ H E I l st M;subst J C B;obtain⟨xs,x,j,n⟩:=M;obtain⟨its,A,p,hz⟩:=I.list j;obtain⟨u,hu,ru⟩:=A.get n;obtain⟨L,q,W,r,G,m⟩:=l it (by simp);refine wpAny_pyNext_list_item st p.isList (x:=u) (by simpa using hu) λh' T Y=>?_
  have Z:Inv X O σ H {s with heap:=h'}:=I.turned (t':=s.toks) (λb o f e=>(Y.2 b f).trans e) L q r G m;obtain⟨o,e,c,d⟩:=id T;exact⟨u,rfl,uN (s:={s with heap:=h'}) e c d (by decide) ⟨x,H,Z,ru,⟨rfl,λys hy=>by rw[I.list_inj hy j];exact n⟩,T,λb f=>(l b f).1⟩⟩
 done:=by
  intro X J C B N i O s σ H E I l st M;subst J C B;obtain⟨xs,j,n⟩:=M;obtain⟨its,A,p,hz⟩:=I.list j;obtain⟨L,q,W,r,G,m⟩:=l it (by simp);have hl:=A.length;exact wpAny_pyNext_list_end (I.ok.hd N) st p.isList (by simp;lia) λh' eb=>⟨rfl,I.turned (t':=s.toks) (λb o f e=>eb b o f e) L q r G m⟩
 self:=λ_ _ _ _ _ st h=>wpAny_pyIter_listiter st h
def WB{P:Program}{w:World}{K:Fq}{tg:Expr}(a it:Addr):fC P w K tg (kW K a) [it] it (λi h=>h.IsTupleIter it a i) where
 mem:=by simp
 obj:=λi h st b f=>by
  have e:b=it:=by simpa using f
  subst e;obtain⟨o,e,c,d⟩:=st;exact⟨o,e,λv z=>by rw[d]at z;cases z⟩
 keep:=λi h h' st k=>st.at λo e=>k it (by simp) o e
 item:=by
  intro X J C B N i O s σ H E I l st M;subst J C B;obtain⟨xs,x,j,n⟩:=M;obtain⟨its,A,p,hz⟩:=I.tuple j;obtain⟨u,hu,ru⟩:=A.get n;obtain⟨L,q,W,r,G,m⟩:=l it (by simp);refine wpAny_pyNext_tuple_item st (show s.heap.IsTuple a its.toArray from p) (x:=u) (by simpa using hu) λh' T Y=>?_
  have Z:Inv X O σ H {s with heap:=h'}:=I.turned (t':=s.toks) (λb o f e=>(Y.2 b f).trans e) L q r G m;obtain⟨o,e,c,d⟩:=id T;exact⟨u,rfl,uN (s:={s with heap:=h'}) e c d (by decide) ⟨x,H,Z,ru,⟨rfl,λys hy=>by rw[I.tuple_inj hy j];exact n⟩,T,λb f=>(l b f).1⟩⟩
 done:=by
  intro X J C B N i O s σ H E I l st M;subst J C B;obtain⟨xs,j,n⟩:=M;obtain⟨its,A,p,hz⟩:=I.tuple j;obtain⟨L,q,W,r,G,m⟩:=l it (by simp);have hl:=A.length;exact wpAny_pyNext_tuple_end (I.ok.hd N) st (show s.heap.IsTuple a its.toArray from p) (by simp;lia) λh' eb=>⟨rfl,I.turned (t':=s.toks) (λb o f e=>eb b o f e) L q r G m⟩
 self:=λ_ _ _ _ _ st h=>wpAny_pyIter_tupleiter st h
def VR{P:Program}{w:World}{K:Fq}{tg:Expr}(it:Addr)(lo:Int)(n:Nat):fC P w K tg (vS lo n) [it] it (λi h=>IsRangeIter h it (lo+(i:Nat)*1) ((n:Int)-(i:Nat)) 1) where
 mem:=by simp
 obj:=λi h st b a=>by
  have e:b=it:=by simpa using a
  subst e;exact⟨_,st,λv z=>by
   have J:Data.fields _=Data.cell v:=z;cases J⟩
 keep:=λi h h' st k=>k it (by simp) _ st
 item:=by
  intro X x r q m i C s σ H E I d st B;subst x r q;obtain⟨A,j,L,l,u,f⟩:=d it (by simp);have W:=Walks.range (prog:=X.prog) (w:=X.w) (I.ok.hd m) it lo 1 n;refine W.item i s _ _ B st λv h' tk N G M=>?_;obtain⟨t,rfl⟩:=N;have O:Inv X C σ H {s with heap:=h',toks:=tk}:=I.turned (λb o a e=>M b o (by simpa using a) e) A j l u f;refine⟨_,rfl,uN (s:={s with heap:=h',toks:=tk}) (n:="range_iterator") G rfl rfl (by decide) ⟨.int<|lo+i,H,O,⟨t,?_⟩,⟨rfl,rfl⟩,G,λb a=>(d b a).1⟩⟩;rw[Int.mul_one]
 done:=by
  intro X x r q m i C s σ H E I d st B;subst x r q;obtain⟨A,j,L,l,u,f⟩:=d it (by simp);exact wpAny_pyNext_range_end (I.ok.hd m) st (by have:n<=i:=B;lia) λh' T=>⟨rfl,I.turned (t':=s.toks) (λb o a e=>T b o a e) A j l u f⟩
 self:=λ_ _ _ _ _ st h=>wpAny_pyIter_rangeiter st h
section
variable{tg:Expr}
inductive RK(K:Fq)(x:V)(H:Hp)(R:It->Hp->Prop):Prop
 | mk(a:Addr)(h:x=.ref a)(h2:∃xs,SqL K H a xs)(q:R (qR K a) H):RK K x H R
def nI(K:Fq)(tl:TE):TI:=λσ H R=>tl σ H λx H1=>RK K x H1 R
inductive QM(K:Fq)(x:V)(H:Hp)(R:It->Hp->Prop):Prop
 | mk(a:Addr)(h:x=.ref a)(h2:∃xs,SqT K H a xs)(q:R (kW K a) H):QM K x H R
def JQ(K:Fq)(tl:TE):TI:=λσ H R=>tl σ H λx H1=>QM K x H1 R
def hZ{l:Expr}{tl:TE}(hl:PE X l tl):PI X tg l (nI X.K tl):=by
 intro r s σ H R I h;refine aU (hl r s σ H _ I h) ?_;rintro v d ⟨x,H1,f,m,i⟩;obtain⟨a,e,⟨xs,n⟩,q⟩:=i;subst e;cases m;obtain⟨its,u,p,hz⟩:=f.list n;refine DL p.isList ?_;refine⟨d⁻¹,[d⁻¹],_,_,H1,rfl,f.kept (t':=d.toks) λb o e=>bU _ e,Ay a _,⟨_,dG _ rfl,rfl,rfl⟩,λb j=>?_,q⟩;have e:b=d⁻¹:=by simpa using j
 subst e;exact f.fpOk (aW _)<|f.hok.fresh<|aW _
def gC{l:Expr}{tl:TE}(hl:PE X l tl):PI X tg l (JQ X.K tl):=by
 intro r s σ H R I h;refine aU (hl r s σ H _ I h) ?_;rintro v d ⟨x,H1,f,m,i⟩;obtain⟨a,e,⟨xs,n⟩,q⟩:=i;subst e;cases m;obtain⟨its,u,p,hz⟩:=f.tuple n;refine wpAny_pyIter_tuple (show d.heap.IsTuple a its.toArray from p) ?_;refine⟨d⁻¹,[d⁻¹],_,_,H1,rfl,f.kept (t':=d.toks) λb o e=>bU _ e,WB a _,⟨_,dG _ rfl,rfl,rfl⟩,λb j=>?_,q⟩;have e:b=d⁻¹:=by simpa using j
 subst e;exact f.fpOk (aW _)<|f.hok.fresh<|aW _
def ZF{a:List (Addr×Obj)}{σ:St}{H:Hp}{s:Shared}{R:It->Hp->Prop}{E:Vp}{lo hi:Int}{t u v:Tok}{tk:Nat}(I:Inv X a σ H s)(h1:-(2 ^ 62)<=lo)(h2:lo<2 ^ 62)(i:-(2 ^ 62)<=hi)(l:hi<2 ^ 62)
  (q:R (vS lo (hi-lo).toNat) H):wpAny (model X.prog X.w) X.A (pyIter<|.ref s⁻¹) (KP X a σ tg R) E {s with heap:=s.heap.push {cls:=.type "range",data:=.fields #[.int lo t,.int hi u,.int 1 v]},toks:=tk}:=by
 refine wpAny_pyIter_range (IsRange.new ..) (small_one h1 h2 i l) ?_;have d:Inv X a σ H {s with heap:=s.heap.push {cls:=.type "range",data:=.fields #[.int lo t,.int hi u,.int 1 v]},toks:=tk}:=I.kept λb o e=>bU _ e;refine⟨(s.heap.push {cls:=.type "range",data:=.fields #[.int lo t,.int hi u,.int 1 v]}).objs.size,[(s.heap.push {cls:=.type "range",data:=.fields #[.int lo t,.int hi u,.int 1 v]}).objs.size],_,_,H,rfl, d.kept (t':=tk) λb o e=>bU _ e,VR _ lo (hi-lo).toNat,?_,λb h=>?_,q⟩
 .have f:lo+((0:Nat):Int)*1=lo:=by simp
  have j:(((hi-lo).toNat:Nat):Int)-((0:Nat):Int)=Builtin.Range.rangeSize lo hi 1:=by rw[rangeSize_one];split <;> lia
  show IsRangeIter _ _ (lo+((0:Nat):Int)*1) ((((hi-lo).toNat:Nat):Int)-((0:Nat):Int)) 1;rw[f,j];exact dG _ rfl
 .have e:b=(s.heap.push {cls:=.type "range",data:=.fields #[.int lo t,.int hi u,.int 1 v]}).objs.size:=by simpa using h
  subst e;exact d.fpOk (aW _)<|d.hok.fresh<|aW _
def oE(ta:TA):TI:=λσ H R=>ta σ H λvs H1=>∃j:Int,vs=[.int j]/\-(2 ^ 62)<=j/\j<2 ^ 62/\R (vS 0 j.toNat) H1
def lC{a:Expr}{ta:TA}{p pos:Pos}(f:Gl X "range")(i:X.mg "range"=none)(n:PA X [a] ta)(hs:starEach [a] X.env=[(false,eval a X.env)]:=by rfl):PI X tg (.Call (.Name "range" p) [a] [] pos) (oE ta):=by
 intro m s σ H R I h;refine Call_<|lG I f i boot_range<|oO (aU (n pos m s σ H _ I h) λus u ⟨vs,H1,o,l,b⟩=>?_) hs rfl;obtain⟨j,e,b,d,q⟩:=b;subst e;cases l with
 | cons r rr=>
  cases rr;obtain⟨t,rfl⟩:=r;exact call_range_1 (ZF o (by lia) (by lia) b d<|by simpa using q)
def LC(wi:TI)(g:TG)(tb:TS):TS:=λD σ H=>wi σ H λJ H1=>∃W:Nat->Nat->St->Hp->Prop,(∃m,W 0 m σ H1)/\∀i m σ H,W i m σ H->
 (J.stop i H/\D.nx σ H)\/(J.go i H/\∃N:St->Hp->Prop,(∀σ' H',N σ' H'->∃m',m'<m/\W (i+1) m' σ' H')/\∀x H',J.yld i H x H'->g x σ H' λσ2 H2=>tb {D with nx:=N,ct:=N,bk:=D.nx} σ2 H2)
def wP(fp:List Addr)(h:Heap):List (Addr×Obj):=fp.filterMap λb=>(h.get? b).map λo=>(b,o)
def wK{fp:List Addr}{h:Heap}{b:Addr}{o:Obj}(a:b∈fp)(e:h.get? b=some o):(b,o)∈wP fp h:=List.mem_filterMap.mpr ⟨b,a,by rw[e];rfl⟩
def YU{fp:List Addr}{h:Heap}{p:Addr×Obj}(hp:p∈wP fp h):p.1∈fp/\h.get? p.1=some p.2:=by
 obtain⟨b,a,e⟩:=List.mem_filterMap.mp hp;cases q:h.get? b with
 | none=>rw[q]at e;cases e
 | some o=>
  rw[q]at e;have d:(b,o)=p:=gX e;subst d;exact⟨a,q⟩
def Inv.pinned{a:List (Addr×Obj)}{σ:St}{H:Hp}{s:Shared}{fp:List Addr}(I:Inv X a σ H s)(n:∀b∈fp,dR X a H b)(j:∀b∈fp,∃o,s.heap.get? b=some o/\∀v,o.data≠.cell v):Inv X (a++wP fp s.heap) σ H s:=
 I.pins_of λp hp=>(wr7.mp hp).elim (λz=>I.pin p<|gM _ z) λz=>by
  obtain⟨h,e⟩:=YU z;obtain⟨m,i,l,_⟩:=n p.1 h;obtain⟨o,f,d⟩:=j p.1 h;rw[e]at f;cases f;exact⟨e,m,i,l,d⟩
def Inv.unpinned{a b:List (Addr×Obj)}{σ:St}{H:Hp}{s:Shared}(I:Inv X (a++b) σ H s):Inv X a σ H s:=I.pins_of λp hp=>I.pin p<|gM _<|sN _ hp
def dZ{iter:Expr}{body:List Stmt}{Z:TI}{g:TG}{tb:TS}{pos:Pos}(hp:PassesOwn (model X.prog X.w) X.A X.env X.xe)(L:X.calm=true)(hi:PI X tg iter Z)(hg:PG X tg g)(j:PSs X body tb)
  (hs:∀x,foldedSetIterable iter X.env x=pure x:=by intro _;rfl):PS X (.For tg iter body [] pos) (LC Z g tb):=by
 intro z s σ H D I h;refine wpAny_For (aU (hi z s σ H _ I h) λv s1 h1=>aU h1 λa8 s2 h2=>?_) hs;obtain⟨it,fp,O,J,H2,e,I2,T,a7,Y,W,⟨m0,w0⟩,turn⟩:=h2;subst e;have G:∀{H':Hp},(∀b∈fp,H' b=none)->∀b∈fp,dR X z H' b:=λhn b j=>⟨hn b j,(Y b j).2⟩;refine codeAny_forLoop_any (λn s'=>∃i σ' H',Inv X z σ' H' s'/\O i s'.heap/\(∀b∈fp,H' b=none)/\W i n σ' H') ?_ m0 ⟨0,σ,H2,I2,a7,λb j=>(Y b j).1,w0⟩;rintro n s3 ⟨i,σ3,H3,I3,a4,M,w3⟩;rcases turn i n σ3 H3 w3 with ⟨stop,qn⟩ | ⟨go,N,hN,step⟩
 .refine vR hp<|aU (T.done X rfl rfl rfl L i z s3 σ3 H3 X.xe I3 (G M) a4 stop) ?_;rintro r s4 ⟨hr,I4⟩;subst hr;exact wpAny_execs_nil ⟨σ3,H3,I4,qn⟩
 .refine vR hp<|aU (T.item X rfl rfl rfl L i z s3 σ3 H3 X.xe I3 (G M) a4 go) ?_;rintro r s4 ⟨u,hr,h4⟩;subst hr;refine vR hp<|aU h4 ?_;rintro _ P ⟨x,K,I5,r5,y5,C,a6⟩;have a5:=I5.pinned (G a6)<|T.obj _ _ C;refine vR hp<|aU (hg _ P σ3 K x u _ a5 r5<|step x K y5) ?_;rintro _ s6 ⟨σ6,H6,I6,q6⟩;refine vR hp<|aU (j _ s6 σ6 H6 _ I6 q6) λf E q=>?_;have again:∀{σ7:St}{a:Hp},Inv X (z++wP fp P.heap) σ7 a E->N σ7 a->∃m,m<n/\∃i σ' H',Inv X z σ' H' E/\O i E.heap/\(∀b∈fp,H' b=none)/\W i m σ' H':=λ{σ7 a} l B=>by
   obtain⟨m',hm,w7⟩:=hN σ7 a B;refine⟨m',hm,i+1,σ7,a,l.unpinned,T.keep _ _ _ C λb j o e=>(l.pin (b,o)<|gM _<|gM _<|wK j e).1,λb j=>?_,w7⟩;obtain⟨o,e,d⟩:=T.obj _ _ C b j;exact(l.pin (b,o)<|gM _<|gM _<|wK j e).2.1
  cases f with
  | next=>obtain⟨σ7,a,l,B⟩:=q;exact again l B
  | cont=>obtain⟨σ7,a,l,B⟩:=q;exact again l B
  | brk=>obtain⟨σ7,a,l,q⟩:=q;exact⟨σ7,a,l.unpinned,q⟩
  | ret v=>obtain⟨x7,σ7,a,l,r7,q⟩:=q;exact⟨x7,σ7,a,l.unpinned,r7,q⟩
end
def pO{K:Fq}{a:Addr}{xs:List V}{g:TG}{tb:TS}{D:dB}{σ:St}{H:Hp}(b:Nat->St->Hp->Prop)(h0:b 0 σ H)(hl:∀i σ H,i<=↑xs->b i σ H->SqL K H a xs)
  (hs:∀i x σ H,xs[i]?=some x->b i σ H->g x σ H λσ2 H2=>tb {D with nx:=b<|i+1,ct:=b<|i+1,bk:=D.nx} σ2 H2) (hd:∀σ H,b ↑xs σ H->D.nx σ H):
  ∃W:Nat->Nat->St->Hp->Prop,(∃m,W 0 m σ H)/\∀i m σ H,W i m σ H->
   ((qR K a).stop i H/\D.nx σ H)\/((qR K a).go i H/\∃N:St->Hp->Prop,(∀σ' H',N σ' H'->∃m',m'<m/\W (i+1) m' σ' H')/\∀x H',(qR K a).yld i H x H'->g x σ H' λσ2 H2=>tb {D with nx:=N,ct:=N,bk:=D.nx} σ2 H2):=by
 exists λi m σ H=>m=↑xs-i/\i<=↑xs/\b i σ H,⟨↑xs,by simp,bM _,h0⟩;rintro i m σ H ⟨rfl,hi,p⟩;have q:=hl i σ H hi p
 by_cases d:i<↑xs
 .refine .inr ⟨⟨xs,xs[i],q,by simp[d]⟩,b<|i+1,λσ' H' f=>⟨↑xs-(i+1),by lia,rfl,d,f⟩,λx H' y=>?_⟩;obtain⟨e,y⟩:=y;subst e;exact hs i x σ _ (y xs q) p
 .have e:i=↑xs:=by lia
  subst e;exact .inl ⟨⟨xs,q,aW _⟩,hd σ H p⟩
def kH{K:Fq}{a:Addr}{xs:List V}{g:TG}{tb:TS}{D:dB}{σ:St}{H:Hp}(b:Nat->St->Hp->Prop)(h0:b 0 σ H)(hl:∀i σ H,i<=↑xs->b i σ H->SqT K H a xs)
  (hs:∀i x σ H,xs[i]?=some x->b i σ H->g x σ H λσ2 H2=>tb {D with nx:=b<|i+1,ct:=b<|i+1,bk:=D.nx} σ2 H2) (hd:∀σ H,b ↑xs σ H->D.nx σ H):
  ∃W:Nat->Nat->St->Hp->Prop,(∃m,W 0 m σ H)/\∀i m σ H,W i m σ H->
   ((kW K a).stop i H/\D.nx σ H)\/((kW K a).go i H/\∃N:St->Hp->Prop,(∀σ' H',N σ' H'->∃m',m'<m/\W (i+1) m' σ' H')/\∀x H',(kW K a).yld i H x H'->g x σ H' λσ2 H2=>tb {D with nx:=N,ct:=N,bk:=D.nx} σ2 H2):=by
 exists λi m σ H=>m=↑xs-i/\i<=↑xs/\b i σ H,⟨↑xs,by simp,bM _,h0⟩;rintro i m σ H ⟨rfl,hi,p⟩;have q:=hl i σ H hi p
 by_cases d:i<↑xs
 .refine .inr ⟨⟨xs,xs[i],q,by simp[d]⟩,b<|i+1,λσ' H' f=>⟨↑xs-(i+1),by lia,rfl,d,f⟩,λx H' y=>?_⟩;obtain⟨e,y⟩:=y;subst e;exact hs i x σ _ (y xs q) p
 .have e:i=↑xs:=by lia
  subst e;exact .inl ⟨⟨xs,q,aW _⟩,hd σ H p⟩
def vV{lo:Int}{n:Nat}{g:TG}{tb:TS}{D:dB}{σ:St}{H:Hp}(a:Nat->St->Hp->Prop)(h0:a 0 σ H)
  (hs:∀i σ H,i<n->a i σ H->g (.int<|lo+i) σ H λσ2 H2=>tb {D with nx:=a<|i+1,ct:=a<|i+1,bk:=D.nx} σ2 H2) (hd:∀σ H,a n σ H->D.nx σ H):
  ∃W:Nat->Nat->St->Hp->Prop,(∃m,W 0 m σ H)/\∀i m σ H,W i m σ H->
   ((vS lo n).stop i H/\D.nx σ H)\/((vS lo n).go i H/\∃N:St->Hp->Prop,(∀σ' H',N σ' H'->∃m',m'<m/\W (i+1) m' σ' H')/\∀x H',(vS lo n).yld i H x H'->g x σ H' λσ2 H2=>tb {D with nx:=N,ct:=N,bk:=D.nx} σ2 H2):=by
 exists λi m σ H=>m=n-i/\i<=n/\a i σ H,⟨n,by simp,bM _,h0⟩;rintro i m σ H ⟨rfl,hi,p⟩
 by_cases b:i<n
 .refine .inr ⟨b,a<|i+1,λσ' H' d=>⟨n-(i+1),by lia,rfl,b,d⟩,λx H' y=>?_⟩;obtain⟨e,y⟩:=y;subst e y;exact hs i σ _ b p
 .have e:i=n:=by lia
  subst e;exact .inl ⟨aW _,hd σ H p⟩
def LZ{c:TT}{tb:TS}{D:dB}{σ:St}{H:Hp}(a:St->Hp->Prop)(μ:St->Hp->Nat)(h0:a σ H)
  (hs:∀σ H,a σ H->c σ H λb H1=>if b=true then tb {D with nx:=λσ' H'=>a σ' H'/\μ σ' H'<μ σ H,ct:=λσ' H'=>a σ' H'/\μ σ' H'<μ σ H,bk:=D.nx} σ H1 else D.nx σ H1)
  (mono:∀σ H Q Q',(∀b H1,Q b H1->Q' b H1)->c σ H Q->c σ H Q'):RD c tb D σ H:=by
 exists λm σ H=>m=μ σ H/\a σ H,⟨_,rfl,h0⟩;rintro m σ H ⟨rfl,p⟩;refine mono σ H _ _ (λb H1 q=>?_)<|hs σ H p;cases b with
 | true=>exact⟨_,by rintro σ' H' ⟨d,l⟩;exact⟨_,l,rfl,d⟩,q⟩
 | false=>exact q
abbrev R2:=V->V->Hp->VK->Prop
def cZ(X:Cx)(f:Value->Value->Sem Value)(r:R2):Prop:=
 ∀(pins:List (Addr×Obj))(s:Shared)(σ:St)(H:Hp)(x y:V)(v u:Value)(Q:VK),Inv X pins σ H s->RelV x v->RelV y u->r x y H Q->
  wpAny (model X.prog X.w) X.A (f v u) (EP X pins σ Q) X.xe s
def MU(X:Cx)(f:Value->Sem Value)(r:V->Hp->VK->Prop):Prop:=
 ∀(pins:List (Addr×Obj))(s:Shared)(σ:St)(H:Hp)(x:V)(v:Value)(Q:VK),Inv X pins σ H s->RelV x v->r x H Q->
  wpAny (model X.prog X.w) X.A (f v) (EP X pins σ Q) X.xe s
def CallR(X:Cx)(f:Value)(r:List V->Hp->VK->Prop):Prop:=
 ∀(pins:List (Addr×Obj))(s:Shared)(σ:St)(H:Hp)(xs:List V)(us:List Value)(Q:VK),Inv X pins σ H s->Vals xs us->r xs H Q->
  wpAny (model X.prog X.w) X.A (call f us) (EP X pins σ Q) X.xe s
def KF(X:Cx)(r:V->Hp->(Bool->Hp->Prop)->Prop):Prop:=
 ∀(pins:List (Addr×Obj))(s:Shared)(σ:St)(H:Hp)(x:V)(v:Value)(Q:Bool->Hp->Prop),Inv X pins σ H s->RelV x v->r x H Q->
  wpAny (model X.prog X.w) X.A (truthy v) (TP X pins σ Q) X.xe s
def dC(r:R2)(ta tb:TE):TE:=λσ H Q=>ta σ H λx H1=>tb σ H1 λy H2=>r x y H2 Q
def MP(r:V->Hp->VK->Prop)(ta:TE):TE:=λσ H Q=>ta σ H λx H1=>r x H1 Q
def rI(C:Int->Int->Prop)(g:Int->Int->V):R2:=λx y H Q=>∃i j,x=.int i/\y=.int j/\C i j/\Q (g i j) H
inductive OM(g:Int->Int->V)(x y:V)(H:Hp)(Q:VK):Prop
 | mk(i j:Int)(h1:x=.int i)(h2:y=.int j)(q:Q (g i j) H):OM g x y H Q
def hY(g:Int->Int->V):R2:=λx y H Q=>OM g x y H Q
def rU(g:Int->V):V->Hp->VK->Prop:=λx H Q=>∃i,x=.int i/\Q (g i) H
section
variable{a b c:Expr}{ta tb tc:TE}{pos:Pos}
def tT(z:PE X a ta)(r:PE X b tb){d:List (Addr×Obj)}{s:Shared}{σ:St}{H:Hp}{R:V->V->Hp->Prop}(I:Inv X d σ H s)
  (h:ta σ H λx H1=>tb σ H1 λy H2=>R x y H2) {Q:Vp} {f:Value->Value->Sem Value}
  (B:∀v u s2 x y H2,Inv X d σ H2 s2->RelV x v->RelV y u->R x y H2->wpAny (model X.prog X.w) X.A (f v u) Q X.xe s2):
  wpAny (model X.prog X.w) X.A (eval a X.env) (λv n=>wpAny (model X.prog X.w) X.A (eval b X.env) (λu j=>wpAny (model X.prog X.w) X.A (f v u) Q X.xe j) X.xe n) X.xe s:=by
 refine aU (z d s σ H _ I h) ?_;rintro v e ⟨x,H1,C,q,i⟩;refine aU (r d e σ H1 _ C i) ?_;rintro u s2 ⟨y,H2,o,l,m⟩;exact B v u s2 x y H2 o q l m
def cA{d:Operator}{r:R2}(f:cZ X (binaryOp d) r)(n:PE X a ta)(l:PE X b tb):PE X (.BinOp a d b pos) (dC r ta tb):=by
 intro m s σ H Q I h;exact wpAny_BinOp<|tT n l I h λv u s2 x y H2 j i e q=>f m s2 σ H2 x y v u Q j i e q
def kY{d:UnaryOp}{r:V->Hp->VK->Prop}(j:MU X (unaryOp d) r)(l:PE X a ta):PE X (.UnaryOp d a pos) (MP r ta):=by
 intro b s σ H Q I h;exact UnaryOp_ (aU (l b s σ H _ I h) <| by rintro v f ⟨x,H1,m,e,i⟩;exact j b f σ H1 x v Q m e i)
def FV{f:Value->Value->Sem Value}{C:Int->Int->Prop}{g:Int->Int->Int}
  (rule:∀(i j:Int)(t u:Tok)(s:Shared)(Q:Vp)(E:Vp),C i j->Q (.int (g i j) s.toks) {s with toks:=s.toks+1}->wpAny (model X.prog X.w) X.A (f (.int i t)<|.int j u) Q E s):
  cZ X f (rI C λi j=>.int<|g i j):=by
 intro e s σ H x y v u Q I b a h;obtain⟨i,j,rfl,rfl,d,q⟩:=h;obtain⟨t,rfl⟩:=b;obtain⟨t',rfl⟩:=a;exact rule i j t t' s _ _ d ⟨.int<|g i j,H,I.tok _,⟨_,rfl⟩,q⟩
def CC{f:Value->Value->Sem Value}{g:Int->Int->Int}
  (rule:∀(i j:Int)(t u:Tok)(s:Shared)(Q:Vp)(E:Vp),Q (.int (g i j) s.toks) {s with toks:=s.toks+1}->wpAny (model X.prog X.w) X.A (f (.int i t)<|.int j u) Q E s):
  cZ X f (hY λi j=>.int<|g i j):=by
 intro d s σ H x y v u Q I b a h;obtain⟨i,j,rfl,rfl,q⟩:=h;obtain⟨t,rfl⟩:=b;obtain⟨t',rfl⟩:=a;exact rule i j t t' s _ _ ⟨.int<|g i j,H,I.tok _,⟨_,rfl⟩,q⟩
def lW{f:Value->Value->Sem Value}{g:Int->Int->Bool}
  (rule:∀(i j:Int)(t u:Tok)(s:Shared)(Q:Vp)(E:Vp),Q (.bool<|g i j) s->wpAny (model X.prog X.w) X.A (f (.int i t)<|.int j u) Q E s):
  cZ X f (hY λi j=>.bl<|g i j):=by
 intro d s σ H x y v u Q I b a h;obtain⟨i,j,rfl,rfl,q⟩:=h;obtain⟨t,rfl⟩:=b;obtain⟨t',rfl⟩:=a;exact rule i j t t' s _ _ ⟨.bl<|g i j,H,I,rfl,q⟩
def GW(i j:Int):Prop:=0<j/\j<1073741824
def IQ(i j:Int):Prop:=0<=j/\j<=1000000/\i.natAbs<2 ^ 64
def CMul(i j:Int):Prop:=(-(2 ^ 64)<i/\i<2 ^ 64)\/(-(2 ^ 64)<j/\j<2 ^ 64)
def CMul.ok{i j:Int}(h:CMul i j):IntMulOk i j:=by
 rcases h with ⟨h1,h2⟩ | ⟨h1,h2⟩
 .exact .of_left<|intBits_le_64 h1 h2
 .exact .of_right<|intBits_le_64 h1 h2
def jJ:cZ X (binaryOp .Add) (hY λi j=>.int<|i+j):=CC λ_ _ _ _ _ _ _ q=>add_int q
def lO:cZ X (binaryOp .Sub) (hY λi j=>.int<|i-j):=CC λ_ _ _ _ _ _ _ q=>sub_int q
def vM:cZ X (binaryOp .Mult) (rI CMul λi j=>.int<|i*j):=FV λ_ _ _ _ _ _ _ a q=>mul_int q a.ok
def zJ:cZ X (binaryOp .FloorDiv) (rI GW λi j=>.int<|i / j):=FV λi j _ _ _ _ _ a q=>by
 have h1:(0:Int)<j:=a.1;have h2:j<1073741824:=a.2;exact floordiv_int (by lia) (by rw[Int.fdiv_eq_ediv_of_nonneg i<|by lia];exact q) (.inl<|PyProof.noPylong_small<|by lia)
def rJ:cZ X (binaryOp .Mod) (rI (λ_ j=>0<j) λi j=>.int<|i % j):=FV λi j _ _ _ _ _ a q=>by
 have h1:(0:Int)<j:=a;exact mod_int' (by lia) (by rw[Int.fmod_eq_emod_of_nonneg i<|by lia];exact q)
def vG:cZ X (binaryOp .Pow) (rI IQ λi j=>.int<|i ^ j.toNat):=FV λ_ _ _ _ _ _ _ a q=>pow_int_small a.1 a.2.1 a.2.2 q
def YE{f:Value->Sem Value}{g:Int->Int}
  (rule:∀(i:Int)(t:Tok)(s:Shared)(Q:Vp)(E:Vp),Q (.int (g i) s.toks) {s with toks:=s.toks+1}->wpAny (model X.prog X.w) X.A (f<|.int i t) Q E s):
  MU X f (rU λi=>.int<|g i):=by
 intro b s σ H x v Q I a h;obtain⟨i,rfl,q⟩:=h;obtain⟨t,rfl⟩:=a;exact rule i t s _ _ ⟨.int<|g i,H,I.tok _,⟨_,rfl⟩,q⟩
def lR:MU X (unaryOp .USub) (rU λi=>.int<|-i):=YE λ_ _ _ _ _ q=>neg_int q
end
def zI:V->V->Bool
 | .non,.non=>true | .non,.int _=>true | .int _,.non=>true | .non,.bl _=>true | .bl _,.non=>true | .non,.str _=>true | .str _,.non=>true
 | .int _,.int _=>true | .bl _,.bl _=>true | .str _,.str _=>true | .byt _,.byt _=>true
 | .int _,.str _=>true | .str _,.int _=>true | .bl _,.str _=>true | .str _,.bl _=>true
 | _,_=>false
inductive xX(x y:V)(H:Hp)(Q:VK):Prop
 | mk(h:zI x y=true)(q:Q (.bl<|decide<|x=y) H):xX x y H Q
def wH:R2:=λx y H Q=>xX x y H Q
inductive yT(x y:V)(H:Hp)(Q:VK):Prop
 | mk(h:zI x y=true)(q:Q (.bl<|!decide (x=y)) H):yT x y H Q
def Dy:R2:=λx y H Q=>yT x y H Q
def SZ{i j:Int}:decide (V.int i=V.int j)=(i == j):=by
 rw[sC];simp
def PK{i j:Bool}:decide (V.bl i=V.bl j)=(i == j):=by
 rw[sC];simp
def PQ{i j:Str}:decide (V.str i=V.str j)=(i == j):=by
 rw[sC];simp
def OX{i j:Array UInt8}:decide (V.byt i=V.byt j)=(i.toList == j.toList):=by
 rw[sC];cases i;cases j;simp
section
variable{a b c:Expr}{ta tb tc:TE}{pos:Pos}
def dX{a:List (Addr×Obj)}{σ:St}{H:Hp}{s:Shared}{Q:VK}{k b:Bool}(I:Inv X a σ H s)(q:Q (.bl k) H)(e:k=b):EP X a σ Q (.bool b) s:=by
 subst e;exact⟨.bl k,H,I,rfl,q⟩
def eZ:cZ X (compareOp .Eq) wH:=by
 intro d s σ H x y v u Q I b a h;obtain⟨hs,q⟩:=h;cases x with
 | non=>
  cases b;cases y with
  | non=>cases a;exact PySem.EqNone.eq_none_none (dX I q<|by simp)
  | bl j=>cases a;exact PySem.EqNone.eq_none_bool (dX I q<|by simp)
  | int j=>obtain⟨t',rfl⟩:=a;exact PySem.EqNone.eq_none_int (dX I q<|by simp)
  | str j=>obtain⟨t',rfl⟩:=a;exact PySem.EqNone.eq_none_str (dX I q<|by simp)
  | _=>exact absurd (show false=true from hs) eJ
 | bl i=>
  cases b;cases y with
  | non=>cases a;exact PySem.EqNone.eq_bool_none (dX I q<|by simp)
  | bl j=>cases a;exact eq_bool<|dX I q PK
  | str j=>obtain⟨t',rfl⟩:=a;exact PySem.EqMixed.eq_bool_str (dX I q<|by simp)
  | _=>exact absurd (show false=true from hs) eJ
 | int i=>
  obtain⟨t,rfl⟩:=b;cases y with
  | non=>cases a;exact PySem.EqNone.eq_int_none (dX I q<|by simp)
  | int j=>obtain⟨t',rfl⟩:=a;exact eq_int<|dX I q SZ
  | str j=>obtain⟨t',rfl⟩:=a;exact PySem.EqMixed.eq_int_str (dX I q<|by simp)
  | _=>exact absurd (show false=true from hs) eJ
 | str i=>
  obtain⟨t,rfl⟩:=b;cases y with
  | non=>cases a;exact PySem.EqNone.eq_str_none (dX I q<|by simp)
  | bl j=>cases a;exact PySem.EqMixed.eq_str_bool (dX I q<|by simp)
  | int j=>obtain⟨t',rfl⟩:=a;exact PySem.EqMixed.eq_str_int (dX I q<|by simp)
  | str j=>obtain⟨t',rfl⟩:=a;exact eq_str<|dX I q PQ
  | _=>exact absurd (show false=true from hs) eJ
 | byt i=>
  obtain⟨t,rfl⟩:=b;cases y with
  | byt j=>obtain⟨t',rfl⟩:=a;exact PySem.W.eq_bytes<|dX I q OX
  | _=>exact absurd (show false=true from hs) eJ
 | _=>cases y <;> exact absurd (show false=true from hs) eJ
def yL:cZ X (compareOp .NotEq) Dy:=by
 intro d s σ H x y v u Q I b a h;obtain⟨hs,q⟩:=h;cases x with
 | non=>
  cases b;cases y with
  | non=>cases a;exact PySem.EqNone.ne_none_none (dX I q<|by simp)
  | bl j=>cases a;exact PySem.EqNone.ne_none_bool (dX I q<|by simp)
  | int j=>obtain⟨t',rfl⟩:=a;exact PySem.EqNone.ne_none_int (dX I q<|by simp)
  | str j=>obtain⟨t',rfl⟩:=a;exact PySem.EqNone.ne_none_str (dX I q<|by simp)
  | _=>exact absurd (show false=true from hs) eJ
 | bl i=>
  cases b;cases y with
  | non=>cases a;exact PySem.EqNone.ne_bool_none (dX I q<|by simp)
  | bl j=>cases a;exact ne_bool<|dX I q<|cF not PK
  | str j=>obtain⟨t',rfl⟩:=a;exact PySem.EqMixed.ne_bool_str (dX I q<|by simp)
  | _=>exact absurd (show false=true from hs) eJ
 | int i=>
  obtain⟨t,rfl⟩:=b;cases y with
  | non=>cases a;exact PySem.EqNone.ne_int_none (dX I q<|by simp)
  | int j=>obtain⟨t',rfl⟩:=a;exact ne_int<|dX I q<|cF not SZ
  | str j=>obtain⟨t',rfl⟩:=a;exact PySem.EqMixed.ne_int_str (dX I q<|by simp)
  | _=>exact absurd (show false=true from hs) eJ
 | str i=>
  obtain⟨t,rfl⟩:=b;cases y with
  | non=>cases a;exact PySem.EqNone.ne_str_none (dX I q<|by simp)
  | bl j=>cases a;exact PySem.EqMixed.ne_str_bool (dX I q<|by simp)
  | int j=>obtain⟨t',rfl⟩:=a;exact PySem.EqMixed.ne_str_int (dX I q<|by simp)
  | str j=>obtain⟨t',rfl⟩:=a;exact ne_str<|dX I q<|cF not PQ
  | _=>exact absurd (show false=true from hs) eJ
 | byt i=>
  obtain⟨t,rfl⟩:=b;cases y with
  | byt j=>obtain⟨t',rfl⟩:=a;exact PySem.W.ne_bytes<|dX I q<|cF not OX
  | _=>exact absurd (show false=true from hs) eJ
 | _=>cases y <;> exact absurd (show false=true from hs) eJ
def xA:cZ X (compareOp .Lt) (hY λi j=>.bl<|decide<|i<j):=lW λ_ _ _ _ _ _ _ q=>lt_int q
def yO:cZ X (compareOp .LtE) (hY λi j=>.bl<|decide<|i<=j):=lW λ_ _ _ _ _ _ _ q=>le_int q
def lS:cZ X (compareOp .Gt) (hY λi j=>.bl<|decide<|j<i):=lW λ_ _ _ _ _ _ _ q=>gt_int q
def pK:cZ X (compareOp .GtE) (hY λi j=>.bl<|decide<|j<=i):=lW λ_ _ _ _ _ _ _ q=>ge_int q
def cE(b:Expr){a:CmpOp}(h:a≠.In:=by decide)(h2:a≠.NotIn:=by decide):behindInMarks a b=false:=by
 have e:(a == CmpOp.In)=false:=by cases a <;> first | rfl | exact absurd rfl h
 have d:(a == CmpOp.NotIn)=false:=by cases a <;> first | rfl | exact absurd rfl h2
 cases b <;> simp[behindInMarks,e,d]
def pS{d:CmpOp}{r:R2}(f:cZ X (compareOp d) r)(o:PE X a ta)(m:PE X b tb)(j:behindInMarks d b=false):PE X (.Compare a [d] [b] pos) (dC r ta tb):=by
 intro n s σ H Q I h;exact wpAny_Compare1 (tT o m I h λv u s2 x y H2 l i e q=>f n s2 σ H2 x y v u Q l i e q) j
def iC(t:TE):TT:=λσ H Q=>t σ H λx H1=>rN x H1 Q
def bY{f:CmpOp}{r:R2}(m:cZ X (compareOp f) r)(G:PE X a ta)(A:PE X b tb)(o:behindInMarks f b=false):PT X (.Compare a [f] [b] pos) (iC<|dC r ta tb):=by
 intro d s σ H Q I h;refine wpAny_isTrue_Compare1 (aU (G d s σ H _ I h) λv i ⟨x,H1,J,w,j⟩=>aU (A d i σ H1 _ J j) λu s2 ⟨y,H2,q,l,n⟩=>
  aU (m d s2 σ H2 x y v u _ q w l n) λc s3 ⟨z,H3,C,B,k,e,E⟩=>?_) o
 subst e;cases B;exact uF ⟨H3,C,E⟩
def CW(K:Fq)(x:V)(H:Hp)(k:Bool):Prop:=
 match x with
 | .non=>k=false
 | .bl b=>k=b
 | .int i=>k=(i != 0)
 | .str y=>↑y<=sizeLine/\k=((↑y:Int) != 0)
 | .byt y=>y.size<=sizeLine/\k=((y.size:Int) != 0)
 | .ref p=>(∃xs,SqL K H p xs/\k=!xs.isEmpty)\/(∃xs,SqT K H p xs/\k=!xs.isEmpty)\/∃kvs,H p=some (.dK kvs)/\k=!kvs.isEmpty
 | _=>False
def VH{κ:Type}{kvs:List (κ×V)}{vs:List (κ×Value)}(r:KV kvs vs):(!vs.isEmpty)=!kvs.isEmpty:=by
 cases r <;> rfl
def NN{xs:List V}{its:List Value}(r:Vals xs its):(!its.toArray.isEmpty)=!xs.isEmpty:=by
 cases r <;> simp
def mG:(sizeLine:Nat)<2 ^ 63:=by rw[sizeLine_eq];decide
def rM:KF X (λx H Q=>∃k,CW X.K x H k/\Q k H):=by
 intro o s σ H x v Q I d h;obtain⟨k,e,q⟩:=h;have hl:=mG;have hs:sizeLine=16777216:=sizeLine_eq;cases x with
 | non=>
  cases d;have a:k=false:=e;subst a;exact truthy_none ⟨H,I,q⟩
 | bl b=>
  cases d;have a:k=b:=e;subst a;exact uF ⟨H,I,q⟩
 | int i=>
  obtain⟨t,rfl⟩:=d;have a:k=(i != 0):=e;subst a;exact PySem.P.truthy_int ⟨H,I,q⟩
 | str y=>
  obtain⟨t,rfl⟩:=d;obtain⟨n,a⟩:↑y<=sizeLine/\k=((↑y:Int) != 0):=e;subst a;exact PySem.P.truthy_str (by lia) ⟨H,I.tok _,q⟩
 | byt y=>
  obtain⟨t,rfl⟩:=d;obtain⟨n,a⟩:y.size<=sizeLine/\k=((y.size:Int) != 0):=e;subst a;exact PySem.W.truthy_bytes (by lia) ⟨H,I.tok _,q⟩
 | ref p=>
  cases d;have a:(∃xs,SqL X.K H p xs/\k=!xs.isEmpty)\/(∃xs,SqT X.K H p xs/\k=!xs.isEmpty)\/∃kvs,H p=some (.dK kvs)/\k=!kvs.isEmpty:=e;rcases a with ⟨xs,hx,a⟩ | ⟨xs,hx,a⟩ | ⟨kvs,hx,a⟩
  .subst a;obtain⟨its,r,f,hz⟩:=I.list hx;have j:=↑r;exact wpAny_truthy_list f.isList (by simp only[cT];lia) ⟨H,I.tok _,by rw[NN r];exact q⟩
  .subst a;obtain⟨its,r,f,hz⟩:=I.tuple hx;have j:=↑r;exact truthy_tuple f (by simp only[cT];lia) ⟨H,I.tok _,by rw[NN r];exact q⟩
  .subst a;obtain⟨hz,l,vs,r,m⟩:↑kvs<=sizeLine/\(p == sysModules)=false/\∃vs,KV kvs vs/\s.heap.DictOf (cI X.prog X.w) p vs:=I.hok p _ hx;have j:↑kvs=↑vs:=Paired.length r;exact wpAny_truthy_dict l m (by lia) ⟨H,I.tok _,by rw[VH r];exact q⟩
 | _=>exact(show False from e).elim
def Cg(i:PE X a ta)(he:∀whole,isTrue a X.env whole=(do let v <-whole;standAt a.pos;holding [v]<|truthy v)):
  PT X a (λσ H Q=>ta σ H λx H'=>∃k,CW X.K x H' k/\Q k H'):=by
 intro b s σ H Q I h;exact isTrue_plain (aU (i b s σ H _ I h) <| by rintro v e ⟨x,H1,j,d,f⟩;exact rM b e σ H1 x v Q j d f)<|he _
def DT:cZ X (binaryOp .Add) (λx y H Q=>∃i j,x=.str i/\y=.str j/\↑i+↑j<=sizeLine/\Q (.str<|i++j) H):=by
 intro d s σ H x y v u Q I b a h;obtain⟨i,j,rfl,rfl,hz,q⟩:=h;obtain⟨t,rfl⟩:=b;obtain⟨t',rfl⟩:=a;exact add_str (λt' tk=>⟨.str<|i++j,H,I.tok _,⟨_,rfl⟩,q⟩) hz
def jO{x:V}{us:List Value}(r:Vals [x] us):∃u,us=[u]/\RelV x u:=by
 cases r with
 | cons r1 r2=>cases r2;exact⟨_,rfl,r1⟩
def oX{x y:V}{us:List Value}(r:Vals [x,y] us):∃u w',us=[u,w']/\RelV x u/\RelV y w':=by
 cases r with
 | cons r1 r2=>
  cases r2 with
  | cons r3 r4=>cases r4;exact⟨_,_,rfl,r1,r3⟩
def VI:CallR X (.builtin "abs") (λxs H Q=>∃i,xs=[.int i]/\Q (.int<|if i<0 then -i else i) H):=by
 intro a s σ H xs us Q I r h;obtain⟨i,rfl,q⟩:=h;obtain⟨u,rfl,t,rfl⟩:=jO r;exact call_abs_int λu tk=>⟨.int (if i<0 then -i else i),H,I.tok _,⟨_,rfl⟩,q⟩
def Cb(b:X.calm=true):CallR X (.builtin "max") (λxs H Q=>∃i j,xs=[.int i,.int j]/\Q (.int<|if j > i then j else i) H):=by
 intro d s σ H xs us Q I r h;obtain⟨i,j,rfl,q⟩:=h;obtain⟨u,e,rfl,⟨t,rfl⟩,⟨t',rfl⟩⟩:=oX r;refine max_two_ints (I.ok.hd b) λh' tk k=>⟨_,H,I.kept k,?_,q⟩
 by_cases a:j > i
 .rw[bC a,bC a];exact⟨_,rfl⟩
 .rw[aZ a,aZ a];exact⟨_,rfl⟩
def HP(b:X.calm=true):CallR X (.builtin "min") (λxs H Q=>∃i j,xs=[.int i,.int j]/\Q (.int<|if j<i then j else i) H):=by
 intro d s σ H xs us Q I r h;obtain⟨i,j,rfl,q⟩:=h;obtain⟨u,e,rfl,⟨t,rfl⟩,⟨t',rfl⟩⟩:=oX r;refine min_two_ints (I.ok.hd b) λh' tk k=>⟨_,H,I.kept k,?_,q⟩
 by_cases a:j<i
 .rw[bC a,bC a];exact⟨_,rfl⟩
 .rw[aZ a,aZ a];exact⟨_,rfl⟩
def zM:CallR X (.type "int") (λxs H Q=>(∃i,xs=[.int i]/\Q (.int i) H)\/∃k,xs=[.bl k]/\Q (.int<|if k then 1 else 0) H):=by
 intro b s σ H xs us Q I r h;rcases h with ⟨i,rfl,q⟩ | ⟨k,rfl,q⟩
 .obtain⟨u,rfl,t,rfl⟩:=jO r;exact call_int_int ⟨.int i,H,I,⟨_,rfl⟩,q⟩
 .obtain⟨u,rfl,a⟩:=jO r;cases a;exact call_int_bool ⟨.int (if k then 1 else 0),H,I.tok _,⟨_,rfl⟩,q⟩
end
structure ObjM(h:Heap)(x dx C:Addr)(mA:Str->Option Value):Prop where
 obj:h.get? x=some (PySem.W.instObj C dx)
 ns:h.Ns1 dx mA
 ne:dx≠x
def VT{h:Heap}{dx:Addr}{mA:Str->Option Value}(n:h.Ns1 dx mA):∃od,h.get? dx=some od/\∀name,PySem.W.lookIn name od=some (mA name):=by
 obtain⟨o,es,ep,b,hd,i,_,d⟩:=n;refine⟨o,b,λname=>?_⟩;have e:=d name;unfold nsFind findBy at e;rw[<-Array.find?_toList]at e;unfold PySem.W.lookIn;rw[hd];dsimp only
 split
 .rename_i y q
  rw[q]at e;exact cF some e
 .rename_i q
  rw[q]at e;have a:es.toList.any (·.refKey)=false:=by
   rw[List.any_eq_false];intro y l;obtain⟨z,t,j⟩:=i y<|Array.mem_toList_iff.mp l;simp[DictEntry.refKey,j]
  have f:¬es.toList.any (·.refKey)=true:=by rw[a];exact eJ
  rw[aZ f];exact cF some e
def ObjM.look{h:Heap}{x dx C:Addr}{mA:Str->Option Value}(I:ObjM h x dx C mA):∃od,PySem.W.InstAt h x (PySem.W.instObj C dx) C (some od)/\∀name,PySem.W.lookIn name od=some (mA name):=
 let ⟨od,ho,hl⟩:=VT I.ns
 ⟨od,⟨I.obj,rfl,rfl,ho⟩,hl⟩
section
variable{K:Fq}{x dx C f:Addr}{mA:Str->Option Value}{name:Str}{v:Value}
def Ax{e:Bool}{Q:Vp}(X:K.In s.heap)(I:ObjM s.heap x dx C mA)(b:PySem.W.plainGet K C name=true)(a:PySem.W.hasDictIn K C=true)
  (f:PySem.W.findIn K (.ref C) name=some none) (d:mA name=some v) (i:PySem.W.handedIn v=true) (h:Q v {s with toks:=s.toks+1}):
  wpAny (model prog w) A (getAttr (.ref x) name e) Q E s:=by
 obtain⟨od,J,hl⟩:=I.look;exact PySem.W.get_value X J (PySem.W.plainGet_of b).1 (PySem.W.findObj_own a f rfl<|by rw[hl,d]) i h
def Ba{f:List Str}{Q:Unit->Shared->Prop}(X:K.In s.heap)(I:ObjM s.heap x dx C mA)
  (hs:PySem.W.findIn K (.ref C) "__setattr__"=some (some<|.builtin "object.__setattr__")) (hp:PySem.W.plainOver K C=true) (q:PySem.W.takerIn K C name=some none) (u:PySem.W.hasDictIn K C=true)
  (l:PySem.Within mA f) (hsz:↑f<=sizeLine)
  (h:∀h',ObjM h' x dx C (λy=>if y=name then some v else mA y)->Heap.SameBut dx s.heap h'->Q () {s with heap:=h',toks:=s.toks+2}):
  wpAny (model prog w) A (setAttr (.ref x) name v) Q E s:=by
 obtain⟨od,J,hl⟩:=I.look;refine PySem.W.set_plain X J hs<|PySem.W.osa_open (s:={s with toks:=s.toks+1}) (r:=none) X J hp q λb=>?_;obtain⟨B,m,n⟩:=PySem.W.any_some u;have j:s.heap.get? x=some ⟨.ref C,some dx,.plain,#[]⟩:=I.obj;refine aJ<|bJ<|aJ<|aJ<|wpAny_loadPart j<|aJ<|PySem.W.Looks.here (s:={s with toks:=s.toks+1}) (PySem.W.looks_clsIn X m) ?_;rw[n];refine bJ (a:=some dx)<|aJ<|bJ<|aJ ?_;refine wpAny_nsSet1 (s:={s with toks:=s.toks+1}) I.ns λh' d e=>?_;obtain⟨H,G,L,i,z,o⟩:=d.count<|PySem.Within.cons name v l;refine aJ<|wpAny_lookBehind i (by rw[z];exact pastItsLine_dict<|fX o<|by rw[cJ];lia) ?_;exact bJ<|h _ ⟨(e.2 _<|bK I.ne).trans I.obj,d,I.ne⟩ e
def YG{R:Result->Shared->Prop}{vs:List Value}{a:List (Str×Value)}(X:K.In s.heap)(b:PySem.W.makesIn K C=true)
  (hi:PySem.W.findIn K (.ref C) "__init__"=some (some<|.ref f)) (e:PySem.W.typeIn K (.ref f)=some (.type "function"))
  (h:codeAny (model prog w) (A.under<|.builtin "type.__call__" ⟨.ref C::vs,a⟩) (.call (.ref f) ⟨.ref (s⁻¹+1)::vs,a⟩) (PySem.W.InitBack (s⁻¹+1) R)
   {s with heap:=(s.heap.push PySem.W.emptyDict).push<|PySem.W.instObj C s⁻¹}):
  codeAny (model prog w) A (.call (.ref C) ⟨vs,a⟩) R s:=by
 obtain⟨i,g,d,t,os⟩:=s;exact PySem.W.make_core (PySem.W.makes_of X b) (PySem.W.looks_findIn X hi) (λself=>PySem.W.bind_fn X self e) (.inl rfl) h
end
def cK(f:Str)(v:V):List (Str×V)->List (Str×V)
 | []=>[(f,v)]
 | (g,x)::r=>if g=f then(g,v)::r else(g,x)::cK f v r
theorem OR(f g:Str)(v:V):∀fs:List (Str×V),(cK f v fs).lookup g=if g=f then some v else fs.lookup g
 | []=>by
  show List.lookup g [(f,v)]=_
  by_cases h:g=f
  .have a:(g == f)=true:=beq_iff_eq.mpr h;simp only[List.lookup,a,bC h]
  .have a:(g == f)=false:=wz8.mpr h;simp only[List.lookup,a,aZ h]
 | (k,x)::r=>by
  have d:=OR f g v r;rw[show cK f v ((k,x)::r)=(if k=f then(k,v)::r else(k,x)::cK f v r) from rfl]
  by_cases b:k=f
  .rw[bC b]
   by_cases h:g=k
   .have a:(g == k)=true:=beq_iff_eq.mpr h;simp only[List.lookup,a,bC<|h.trans b]
   .have a:(g == k)=false:=wz8.mpr h;simp only[List.lookup,a,aZ (λe:g=f=>h<|e.trans b.symm)]
  .rw[aZ b]
   by_cases h:g=k
   .have a:(g == k)=true:=beq_iff_eq.mpr h;simp only[List.lookup,a,aZ (λe:g=f=>b<|h.symm.trans e)]
   .have a:(g == k)=false:=wz8.mpr h;simp only[List.lookup,a];exact d
theorem HM(f:Str)(v:V):∀fs:List (Str×V),f∈(cK f v fs).map (·.1)/\∀g,g∈fs.map (·.1)->g∈(cK f v fs).map (·.1)
 | []=>⟨by simp[cK],λg h=>by simp at h⟩
 | (k,x)::r=>by
  obtain⟨d,b⟩:=HM f v r;rw[show cK f v ((k,x)::r)=(if k=f then(k,v)::r else(k,x)::cK f v r) from rfl]
  by_cases a:k=f
  .rw[bC a];subst a;exact⟨by simp,λg h=>by simpa using h⟩
  .rw[aZ a];refine⟨?_,λg h=>?_⟩
   .rw[fS];exact iB _ d
   .rw[fS]at h ⊢;rcases wp9.mp h with e | e
    .exact wp9.mpr<|.inl e
    .exact iB _<|b g e
theorem QZ(f:Str)(v:V):∀fs:List (Str×V),↑(cK f v fs)<=↑fs+1
 | []=>by simp[cK]
 | (k,x)::r=>by
  have b:=QZ f v r;rw[show cK f v ((k,x)::r)=(if k=f then(k,v)::r else(k,x)::cK f v r) from rfl]
  by_cases a:k=f
  .rw[bC a,cJ,cJ];lia
  .rw[aZ a,cJ,cJ];lia
def RelO.some_of{v:V}{o:Option Value}(r:RelO (some v) o):∃u,o=some u/\RelV v u:=by
 cases o with
 | none=>exact(show False from r).elim
 | some u=>exact⟨u,rfl,r⟩
def YF{v:V}{u:Value}(r:RelV v u):PySem.W.handedIn u=true:=by
 cases v with
 | non=>cases (show u=Value.none from r);rfl
 | bl b=>cases (show u=Value.bool b from r);rfl
 | int i=>obtain⟨t,e⟩:=(show ∃t,u=Value.int i t from r);cases e;rfl
 | str x=>obtain⟨t,e⟩:=(show ∃t,u=Value.str x t from r);cases e;rfl
 | byt b=>obtain⟨t,e⟩:=(show ∃t,u=Value.bytes b t from r);cases e;rfl
 | flt b=>obtain⟨t,e⟩:=(show ∃t,u=Value.float b t from r);cases e;rfl
 | ref a=>cases (show u=Value.ref a from r);rfl
 | ty n=>cases (show u=Value.type n from r);rfl
section
variable{P:Program}{w:World}{H H':Hp}{h h':Heap}{a C dx:Addr}{fs fs':List (Str×V)}
def KC(b:HOk P w H h)(e:H a=some (.ins C dx fs)):∃mA,ObjM h a dx C mA/\(∀f,RelO (fs.lookup f)<|mA f)/\PySem.Within mA (fs.map (·.1))/\↑fs<=1000/\H dx=some (.own a):=by
 obtain⟨d,z,ne,i,mA,n,r,q⟩:=(show ObjOk P w H h a (.ins C dx fs) from b a _ e);exact⟨mA,⟨i,n,ne⟩,r,q,z,d⟩
end
structure Cls(K:Fq)(C:Addr):Prop where
 pg:PySem.W.plainGet K C Str.empty=true
 hd:PySem.W.hasDictIn K C=true
 po:PySem.W.plainOver K C=true
 sa:PySem.W.findIn K (.ref C) "__setattr__"=some (some<|.builtin "object.__setattr__")
def Cls.get{K:Fq}{C:Addr}(c:Cls K C)(f:Str):PySem.W.plainGet K C f=true:=c.pg
def NoAttr(K:Fq)(C:Addr)(f:Str):Prop:=PySem.W.findIn K (.ref C) f=some none
def NoAttr.taker{K:Fq}{C:Addr}{f:Str}(n:NoAttr K C f):PySem.W.takerIn K C f=some none:=by
 unfold PySem.W.takerIn;rw[show PySem.W.findIn K (.ref C) f=some none from n];rfl
section
variable{pins:List (Addr×Obj)}{σ:St}{H:Hp}{s:Shared}{a C dx:Addr}{fs:List (Str×V)}{f:Str}{v:V}{A:Around}{E:Vp}
def SW{b:Bool}{Q:Vp}(I:Inv X pins σ H s)(e:H a=some (.ins C dx fs))(c:Cls X.K C)(n:NoAttr X.K C f)(l:fs.lookup f=some v)
  (h:∀u s',Inv X pins σ H s'->RelV v u->Q u s'):wpAny (model X.prog X.w) A (getAttr (.ref a) f b) Q E s:=by
 obtain⟨mA,O,r,_,_,_⟩:=KC I.hok e;obtain⟨u,i,d⟩:=RelO.some_of (v:=v) (o:=mA f) (by rw[<-l];exact r f);exact Ax I.kIn O (c.get f) c.hd n i (YF d)<|h u _ (I.tok _) d
def UY{y:V}{u:Value}{Q:Unit->Shared->Prop}(I:Inv X pins σ H s)(e:H a=some (.ins C dx fs))(c:Cls X.K C)(n:NoAttr X.K C f)(hl:↑fs<1000)(l:RelV y u)
  (h:∀s',Inv X pins σ (upd H a<|.ins C dx<|cK f y fs) s'->Q () s'):wpAny (model X.prog X.w) A (setAttr (.ref a) f u) Q E s:=by
 obtain⟨mA,O,r,j,_,i⟩:=KC I.hok e;have hz:↑(fs.map (·.1))<=sizeLine:=by rw[aK,sizeLine_eq];lia
 refine Ba I.kIn O c.sa c.po n.taker c.hd j hz λh' d B=>h _ ?_;have hd:∃o,h'.get? dx=some o:=let ⟨o,_,_,e',_⟩:=d.ns;⟨o,e'⟩
 refine I.write (x:=a) (e:=dx) (by rw[e];exact gD) (.inr i) (λb q G z=>(B.2 b G).trans z) hd ?_;refine⟨by rw[aC O.ne];exact i,?_,O.ne,d.obj,_,d.ns,λg=>?_,λg m=>?_⟩
 .have:=QZ f y fs;lia
 .show RelO ((cK f y fs).lookup g) (if g=f then some u else mA g);rw[OR]
  by_cases q:g=f
  .rw[bC q,bC q];exact l
  .rw[aZ q,aZ q];exact r g
 .by_cases q:g=f
  .rw[q];exact(HM f y fs).1
  .refine(HM f y fs).2 g (j g λz=>m ?_);show(if g=f then some u else mA g)=none;rw[aZ q];exact z
def Inv.made(I:Inv X pins σ H s):Inv X pins σ (upd (upd H s⁻¹<|.own<|s⁻¹+1) (s⁻¹+1)<|.ins C s⁻¹ [])
  {s with heap:=(s.heap.push PySem.W.emptyDict).push<|PySem.W.instObj C s⁻¹}:=by
 have d:(s.heap.push PySem.W.emptyDict).get? s⁻¹=some PySem.W.emptyDict:=dG s.heap rfl;have h:((s.heap.push PySem.W.emptyDict).push<|PySem.W.instObj C s⁻¹).get? (s⁻¹+1)=some (PySem.W.instObj C s⁻¹):=by
  have:=dG (s.heap.push PySem.W.emptyDict) (o:=PySem.W.instObj C s⁻¹) rfl;rwa [nU]at this
 have f:(s.heap.push PySem.W.emptyDict).Ns s⁻¹ (λ_=>none):=⟨PySem.W.emptyDict,#[],_,d,rfl,(λe he=>absurd he<|by simp),λ_=>rfl⟩;have j:=I.laid (a:=s⁻¹) (o:=.own<|s⁻¹+1) (h':=s.heap.push PySem.W.emptyDict) (t':=s.toks) (λb u q=>bU _ q) (aW _) ⟨_,d⟩;refine j.laid (a:=s⁻¹+1) (o:=.ins C s⁻¹ []) (t':=s.toks) (λb u q=>bU _ q) (Nat.le_of_eq<|nU _ _) ?_;have ne:s⁻¹≠s⁻¹+1:=bV<|wO _;refine⟨by rw[aC ne,zb1],bM _,ne,h,λ_=>none,(Heap.Ns1.of_empty f).at λo q=>bU _ q,λ_=>gD,λy i=>absurd rfl i⟩
def Au{prog:Program}{w:World}{env:Env}{e:Expr}{f:Str}{pos:Pos}{s:Shared}{Q:Vp}(a:attributeBase e f env (eval e env)=eval e env)
  (h:wpAny (model prog w) A (eval e env) (λo b=>wpAny (model prog w) A (getAttr o f true) Q E b) E s):wpAny (model prog w) A (eval (.Attribute e f pos) env) Q E s:=
 Attribute_any_ h (by rw[arm_eval_Attribute,a])
end
def xY(X:Cx)(op:Operator)(rd:V->V->Hp->VK->Prop):Prop:=
 ∀(pins:List (Addr×Obj))(s:Shared)(σ:St)(H:Hp)(x y:V)(u v:Value)(Q:VK),Inv X pins σ H s->RelV x u->RelV y v->rd x y H Q->wpAny (model X.prog X.w) X.A (inplaceOp op u v) (EP X pins σ Q) X.xe s
section
variable{o e value:Expr}{f:Str}{pos pos' tpos:Pos}{ta tv:TE}
def HK:V->V->Hp->VK->Prop:=λx y H Q=>∃i j,x=.int i/\y=.int j/\Q (.int<|i+j) H
def OW:xY X .Add HK:=by
 rintro d s σ H x y u v Q I b a ⟨i,j,rfl,rfl,q⟩;obtain⟨t,rfl⟩:=(show ∃t,u=Value.int i t from b);obtain⟨t',rfl⟩:=(show ∃t',v=Value.int j t' from a);exact PyProof.Rows.iadd_int ⟨.int<|i+j,H,I.tok _,⟨_,rfl⟩,q⟩
end
section
variable{pins:List (Addr×Obj)}{σ:St}{H:Hp}{s:Shared}{A:Around}{E:Vp}{Q:Vp}{c:Value}{b:Bool}
inductive eR(K:Fq)(H:Hp):V->Value->Prop where
 | non:eR K H .non (.type "NoneType")
 | bl (x:Bool):eR K H (.bl x) (.type "bool")
 | int (i:Int):eR K H (.int i) (.type "int")
 | str (x:Str):eR K H (.str x) (.type "str")
 | flt (x:UInt64):eR K H (.flt x) (.type "float")
 | lst {a:Addr} {xs:List V} (e:H a=some (.lst xs)):eR K H (.ref a) (.type "list")
 | frz {a:Addr} {o:Obj} {xs:List V} (e:H a=some (.frz o<|.lst xs)):eR K H (.ref a) (.type "list")
 | tup {a:Addr} {xs:List V} (e:H a=some (.tup xs)):eR K H (.ref a) (.type "tuple")
 | dK {a:Addr} {kvs:List (aF×V)} (e:H a=some (.dK kvs)):eR K H (.ref a) (.type "dict")
 | dT {a:Addr} {kvs:List (List aF×V)} (e:H a=some (.dT kvs)):eR K H (.ref a) (.type "dict")
 | ins {a C dx:Addr} {fs:List (Str×V)} (e:H a=some (.ins C dx fs)) (cl:Cls K C) (ha:PySem.W.findIn K (.ref C) "__class__"=some (some<|.builtin "object.__class__"))
   (hn:PySem.W.specialIn K (.builtin "object.__class__") "__get__"=some (some<|.builtin "getset_descriptor.__get__")) (htk:PySem.W.takesIn K (.builtin "object.__class__")=some true)
   (hm:PySem.W.mroIn K C (.type "object")=some true):eR K H (.ref a) (.ref C)
def Da{x:V}{u t:Value}(I:Inv X pins σ H s)(d:RelV x u)(ty:eR X.K H x t)(e:PySem.W.kitOne X.K t c=some b)(h:∀tk,Q (.bool b) {s with toks:=tk}):
  wpAny (model X.prog X.w) A (call (.builtin "isinstance") [u,c]) Q E s:=by
 cases ty with
 | non=>cases (show u=Value.none from d);exact kP PySem.W.kitx_none I.kIn gD e (λz=>nomatch z) h
 | bl y=>cases (show u=Value.bool y from d);exact kP PySem.W.kitx_bool I.kIn gD e (λz=>nomatch z) h
 | int i=>obtain⟨t,q⟩:=(show ∃t,u=Value.int i t from d);cases q;exact kP PySem.W.kitx_int I.kIn gD e (λz=>nomatch z) h
 | str y=>obtain⟨t,q⟩:=(show ∃t,u=Value.str y t from d);cases q;exact kP PySem.W.kitx_str I.kIn gD e (λz=>nomatch z) h
 | flt y=>obtain⟨t,q⟩:=(show ∃t,u=Value.float y t from d);cases q;exact kP PySem.W.kitx_float I.kIn gD e (λz=>nomatch z) h
 | @lst a xs ea=>
  cases (show u=Value.ref a from d);obtain⟨_,_,n,_,h1⟩:=(show ObjOk X.prog X.w H s.heap a (.lst xs) from I.hok a _ ea);exact kP PySem.W.kitx_list I.kIn ⟨_,h1,rfl⟩ e (λz=>nomatch z) h
 | @frz a ob xs ea=>
  cases (show u=Value.ref a from d);obtain⟨_,_,_,n,_,h1⟩:=(show ObjOk X.prog X.w H s.heap a (.frz ob<|.lst xs) from I.hok a _ ea);exact kP PySem.W.kitx_list I.kIn ⟨_,h1,rfl⟩ e (λz=>nomatch z) h
 | @tup a xs ea=>
  cases (show u=Value.ref a from d);obtain⟨_,_,_,p⟩:=(show ObjOk X.prog X.w H s.heap a (.tup xs) from I.hok a _ ea);obtain⟨o,h1,h2,_⟩:=p;exact kP PySem.W.kitx_tuple I.kIn ⟨o,h1,h2⟩ e (λz=>nomatch z) h
 | @dK a kvs ea=>
  cases (show u=Value.ref a from d);obtain⟨_,_,vs,_,p⟩:=(show ObjOk X.prog X.w H s.heap a (.dK kvs) from I.hok a _ ea);obtain⟨o,es,ep,h1,h2,_⟩:=p;exact kP PySem.W.kitx_dict I.kIn ⟨o,h1,h2.1⟩ e (λz=>nomatch z) h
 | @dT a kvs ea=>
  cases (show u=Value.ref a from d);obtain⟨_,_,xs,_,o,es,ep,h1,h2,_⟩:=(show ObjOk X.prog X.w H s.heap a (.dT kvs) from I.hok a _ ea);exact kP PySem.W.kitx_dict I.kIn ⟨o,h1,h2.1⟩ e (λz=>nomatch z) h
 | @ins a C dx fs ea cl ha hn htk hm=>
  cases (show u=Value.ref a from d);obtain⟨mA,O,_⟩:=KC I.hok ea;obtain⟨od,J,_⟩:=O.look;exact kP (PySem.W.kitx_own (cl.get _) cl.hd ha hn htk hm) I.kIn J e (λz=>nomatch z) h
end
structure Room(k:Nat)(A:Around):Prop where
 hd:A.handled=none
 dp:A.depth+3*k+5<recursionLimit
 un:A.units+16*k+200<cLine
theorem Room.deeper{k:Nat}{A:Around}(r:Room (k+1) A)(env:Env):Room k (A.deeper env):=
 ⟨r.hd,by have:=r.dp;show A.depth+1+3*k+5<_;lia,by have:=r.un;show A.units+3+16*k+200<_;lia⟩
theorem Room.in1{k:Nat}{A:Around}(r:Room (k+1) A):Room k A.in1:=
 ⟨r.hd,by have:=r.dp;show A.depth+3*k+5<_;lia,by have:=r.un;show A.units+1+16*k+200<_;lia⟩
def ZW{A:Around}{C:Addr}{us:List Value}{a:List (Str×Value)}:(A.under<|.builtin "type.__call__" ⟨.ref C::us,a⟩).depth=A.depth+1:=by
 first | rfl | simp[Around.under,Code.weight,Code.isCreation,Code.isGuard,Code.isCaller,Code.frames,Code.isFrame,guardIds]
def ZO{A:Around}{C:Addr}{us:List Value}{a:List (Str×Value)}:(A.under<|.builtin "type.__call__" ⟨.ref C::us,a⟩).units=A.units+1:=by
 first | rfl | simp[Around.under,Code.cUnits,Code.frames,Code.isFrame]
def Room.make{k:Nat}{A:Around}(r:Room (k+1) A)(C:Addr)(us:List Value)(a:List (Str×Value)):Room k (A.under<|.builtin "type.__call__" ⟨.ref C::us,a⟩):=
 ⟨r.hd,by have:=r.dp;rw[ZW];lia,by have:=r.un;rw[ZO];lia⟩
theorem Room.depth{k:Nat}{A:Around}(r:Room k A):A.depth<recursionLimit:=by have:=r.dp;lia
theorem Room.units{k:Nat}{A:Around}(r:Room k A):A.units+64<cLine:=by have:=r.un;lia
def aX:TA:=λ_ H Q=>Q [] H
def aY(ta:TE)(tr:TA):TA:=λσ H Q=>ta σ H λx H1=>tr σ H1 λxs H2=>Q (x::xs) H2
section
variable{e:Expr}{es:List Expr}{te:TE}{t:TA}{pos:Pos}
def aE:PA X [] aX:=λ_ _ _ _ H Q I h=>sT ⟨[],H,I,.nil,h⟩
def aA(m:PE X e te)(hr:PA X es t)(hs:starEach (e::es) X.env=(false,eval e X.env)::starEach es X.env:=by rfl):PA X (e::es) (aY te t):=by
 intro pos a s σ H Q I h;rw[hs];show wpAny _ _ (spliced<|(false,eval e X.env)::backTo pos (starEach es X.env)) _ _ s;refine lE<|aU (m a s σ H _ I h) ?_;rintro u d ⟨x,H1,n,l,b⟩;exact aU (hr pos a d σ H1 _ n b) <| by rintro us s2 ⟨xs,H2,j,f,i⟩;exact⟨x::xs,H2,j,.cons l f,i⟩
inductive RC(xs:List V)(H:Hp)(Q:VK):Prop
 | mk(h:↑xs<=sizeLine)(q:∀p,H p=none->Q (.ref p) (upd H p<|.tup xs)):RC xs H Q
def dE(t:TA):TE:=λσ H Q=>t σ H λxs H1=>RC xs H1 Q
inductive PD(xs:List V)(H:Hp)(Q:VK):Prop
 | mk(h:↑xs<=sizeLine)(q:∀p,H p=none->Q (.ref p) (upd H p<|.lst xs)):PD xs H Q
def iG(t:TA):TE:=λσ H Q=>t σ H λxs H1=>PD xs H1 Q
def bX{x1}(h:PA X es t):PE X (.Tuple es x1 pos) (dE t):=by
 intro i s σ H Q I f;refine wpAny_Tuple_spliced<|aU (h pos i s σ H _ I f) λus a ⟨xs,H1,d,r,z,q⟩=>⟨by rw[<-↑r];exact z,?_⟩;have j:H1 a⁻¹=none:=d.hok.fresh<|aW _;refine⟨.ref a⁻¹,upd H1 a⁻¹<|.tup xs,d.laid (t':=a.toks) (λb u e=>bU _ e) (aW _) ?_,rfl,q _ j⟩;exact⟨⟨z,_,dG _ rfl,rfl⟩,us,r,⟨_,dG _ rfl,rfl,_,rfl⟩⟩
def cG(h:PA X es t):PE X (.List es pos) (iG t):=by
 intro i s σ H Q I f;refine wpAny_List_spliced<|aU (h pos i s σ H _ I f) λus a ⟨xs,H1,d,r,z,q⟩=>⟨by rw[<-↑r];exact z,?_⟩;have j:H1 a⁻¹=none:=d.hok.fresh<|aW _;refine⟨.ref a⁻¹,upd H1 a⁻¹<|.lst xs,d.laid (t':=a.toks) (λb u e=>bU _ e) (aW _) ?_,rfl,q _ j⟩;exact⟨z,us,0,r,dG _ rfl⟩
end
abbrev Sp:=List V->Hp->VK->XK->Prop
abbrev jW:=List Env->Hp->Shared->XK->Value->Shared->Prop
structure Env0(P:Program)(w:World)(K:Fq)(mg:Str->Option Value)(base:Heap)(A:Around)(outer:List Env)(s:Shared)(H:Hp):Prop where
 frames:A.frames=some outer
 mod:Mod K mg base
 bs:∀b o,base.get? b=some o->s.heap.get? b=some o/\H b=none
 bsz:base.objs.size<=s⁻¹
 funs:s.heap.FunFrames base outer
 frf:∀b∈lI outer,H b=none
 hok:HOk P w H s.heap
 bare:AllBare s.gens
def CE(outer:List Env)(P:Program)(w:World)(H:Hp)(s:Shared)(Q:VK)(u:Value)(s':Shared):Prop:=
 ∃v H',s'.os=s.os/\AllBare s'.gens/\Un (lI outer) [] H H' s.heap s'.heap/\HOk P w H' s'.heap/\RelV v u/\Q v H'
def CR(CX:jW)(outer:List Env)(P:Program)(w:World)(H:Hp)(s:Shared)(Q:VK)(E:XK)(r:Result)(s':Shared):Prop:=
 match r with
 | .ok (.ret u)=>CE outer P w H s Q u s'
 | .ok _=>False
 | .error e=>CX outer H s E e s'
structure aR(P:Program)(w:World)(K:Fq)(mg:Str->Option Value)(base:Heap)(CX:jW)(k:Nat)(f:Addr)(fd:FuncData)(ps:List Str)(sp:Sp):Prop where
 len:∀vs H Q E,sp vs H Q E->↑vs=↑ps
 run:∀(A:Around)(outer:List Env)(s:Shared)(H:Hp)(args:Args)(us:List Value)(vs:List V)(Q:VK)(E:XK),Room k A->Env0 P w K mg base A outer s H->BindsTo s fd args (ps.zip us)->Vals vs us->sp vs H Q E->
  codeAny (model P w) A (.call (.ref f) args) (CR CX outer P w H s Q E) s
def Env0.make{P:Program}{w:World}{K:Fq}{mg:Str->Option Value}{base:Heap}{A:Around}{outer:List Env}{s:Shared}{H:Hp}(e:Env0 P w K mg base A outer s H)(C:Addr)(us:List Value)(a:List (Str×Value)):
  Env0 P w K mg base (A.under<|.builtin "type.__call__" ⟨.ref C::us,a⟩) outer s H:=⟨by first | exact e.frames | (simpa [Around.under,Code.envs,Code.isFrame,pushEnvs]using e.frames),e.mod,e.bs,e.bsz,e.funs,e.frf,e.hok,e.bare⟩
theorem Env0.in1{P:Program}{w:World}{K:Fq}{mg:Str->Option Value}{base:Heap}{A:Around}{outer:List Env}{s:Shared}{H:Hp}(e:Env0 P w K mg base A outer s H):
  Env0 P w K mg base A.in1 outer s H:=⟨e.frames,e.mod,e.bs,e.bsz,e.funs,e.frf,e.hok,e.bare⟩
section
variable{pins:List (Addr×Obj)}{σ:St}{H:Hp}{s s':Shared}
def Inv.env0(I:Inv X pins σ H s):Env0 X.prog X.w X.K X.mg X.base X.A X.stack s H:=
 ⟨I.ok.frames,I.ok.mod,I.bs,fX I.ok.bsz I.sz,I.stack,I.stkFree,I.hok,I.bare⟩
def Inv.after{Q:VK}{u:Value}(I:Inv X pins σ H s)(h:CE X.stack X.prog X.w H s Q u s'):EP X pins σ Q u s':=by
 obtain⟨v,H',os,a,un,e,r,q⟩:=h;obtain⟨i,g,d,t,f⟩:=s';obtain rfl:f=s.os:=os;exact⟨v,H',I.call (h':=i) (g':=g) (d':=d) (t':=t) (ch:=[]) un e a (λb z=>absurd z<|by simp),r,q⟩
end
def fL(sp:Sp)(dvs:List V)(E:XK)(t:TA):TE:=λσ H Q=>t σ H λvs H1=>sp (vs++dvs) H1 Q E
def Binds(K:Fq)(fd:FuncData)(ps:List Str)(ds:List Value):Prop:=
 ∀(s:Shared)(us:List Value),K.In s.heap->↑(us++ds)=↑ps->BindsTo s fd ⟨us,[]⟩ (ps.zip<|us++ds)
def Binds.all{K:Fq}{fd:FuncData}{ps:List Str}(h:∀us:List Value,↑us=↑ps->bindArgs fd ⟨us,[]⟩=pure (ps.zip us)):Binds K fd ps []:=λs us _ hl=>by
 rw[fY]at hl ⊢;exact .of_eq<|h us hl
def FJ(CX:jW)(X:Cx)(E:XK):Prop:=∀(pins:List (Addr×Obj))(σ:St)(H:Hp)(s:Shared)(e:Value)(s':Shared),Inv X pins σ H s->CX X.stack H s E e s'->X.xe e s'
section
variable{CX:jW}{k:Nat}{f C:Addr}{fd:FuncData}{ps:List Str}{sp:Sp}{dvs:List V}{ds:List Value}{E:XK}{x m:Str}{p pos apos:Pos}{e o:Expr}{es:List Expr}{ta:TE}{t:TA}
def SR{b:List (Addr×Obj)}{σ:St}{H:Hp}{s:Shared}{Q:VK}{us:List Value}{vs:List V}(F:aR X.prog X.w X.K X.mg X.base CX k f fd ps sp)(hr:Room k X.A)(j:Binds X.K fd ps ds)(hd:Vals dvs ds)(i:FJ CX X E)
  (I:Inv X b σ H s) (r:Vals vs us) (h:sp (vs++dvs) H Q E):wpAny (model X.prog X.w) X.A (call (.ref f) us) (EP X b σ Q) X.xe s:=by
 have d:Vals (vs++dvs) (us++ds):=r.append hd;have hl:↑(us++ds)=↑ps:=by rw[<-↑d];exact F.len _ _ _ _ h
 refine wpAny_call<|codeAny_mono (F.run X.A X.stack s H ⟨us,[]⟩ (us++ds) (vs++dvs) Q E hr I.env0 (j s us I.kIn hl) d h) λr s' a=>?_;cases r with
 | error e=>exact i b σ H s e s' I a
 | ok fl=>
  cases fl with
  | ret u=>exact I.after a
  | next=>exact False.elim a
  | brk=>exact False.elim a
  | cont=>exact False.elim a
def VN(F:aR X.prog X.w X.K X.mg X.base CX k f fd ps sp)(hr:Room k X.A)(j:Gl X x)(l:X.mg x=some (.ref f))(n:PySem.W.keepIn X.K (.ref f)=true)(m:Binds X.K fd ps ds)(hd:Vals dvs ds)(d:FJ CX X E)
  (u:PA X (e::es) t) (b:(x == ("__debug__":Str))=false:=by decide) (he:starEach (e::es) X.env=(false,eval e X.env)::starEach es X.env:=by rfl) (i:(backTo pos<|starEach es X.env).any (·.1)=false:=by rfl):
  PE X (.Call (.Name x p) (e::es) [] pos) (fL sp dvs E t):=by
 intro o s σ H Q I h;refine xQ<|LO I j l ?_ b;refine PySem.W.callWith_K (h₀:=X.base) I.ok.mod.kin n (aU (u pos o s σ H _ I h) λus z ⟨vs,H1,a,r,q⟩=>⟨a.kIn,?_⟩) he i;exact SR F hr m hd d a r q
structure Mk(K:Fq)(C f:Addr):Prop where
 makes:PySem.W.makesIn K C=true
 init:PySem.W.findIn K (.ref C) "__init__"=some (some<|.ref f)
 fn:PySem.W.isFn K (.ref f)=true
 kp:PySem.W.keepIn K (.ref C)=true
def WG{d:List (Addr×Obj)}{σ:St}{H:Hp}{s:Shared}{Q:VK}{us:List Value}{vs:List V}(M:Mk X.K C f)(F:aR X.prog X.w X.K X.mg X.base CX k f fd ps sp)(hr:Room (k+1) X.A)(n:Binds X.K fd ps ds)(hd:Vals dvs ds)
  (l:FJ CX X E) (I:Inv X d σ H s) (r:Vals vs us)
  (h:∀x dx,H x=none->H dx=none->dx≠x->sp (.ref x::(vs++dvs)) (upd (upd H dx<|.own x) x<|.ins C dx []) (λv H2=>v=.non/\Q (.ref x) H2) E):
  wpAny (model X.prog X.w) X.A (call (.ref C) us) (EP X d σ Q) X.xe s:=by
 have j:=h (s⁻¹+1) s⁻¹ (I.hok.fresh<|nC _) (I.hok.fresh<|aW _)<|bV<|wO _;have b:=Inv.made (C:=C) I;have i:Vals (V.ref (s⁻¹+1)::(vs++dvs)) (Value.ref (s⁻¹+1)::(us++ds)):=.cons rfl<|r.append hd;have hl:↑(Value.ref (s⁻¹+1)::us++ds)=↑ps:=by
  have e:=↑i;rw[F.len _ _ _ _ j]at e;exact e.symm
 refine wpAny_call<|YG (f:=f) I.kIn M.makes M.init (beq_iff_eq.mp M.fn)<|codeAny_mono (F.run _ X.stack _ _ ⟨Value.ref (s⁻¹+1)::us,[]⟩ (Value.ref (s⁻¹+1)::(us++ds)) _ _ E (hr.make C us []) (b.env0.make C us []) (n _ (Value.ref (s⁻¹+1)::us) b.kIn hl) i j) λr s' a=>?_
 cases r with
 | error e=>exact l d σ _ _ e s' b a
 | ok fl=>
  cases fl with
  | ret u=>
   obtain⟨v,H',o,m,ev,q⟩:=b.after a;subst ev;exact⟨m,⟨V.ref<|s⁻¹+1,H',o,rfl,q⟩⟩
  | next=>exact False.elim a
  | brk=>exact False.elim a
  | cont=>exact False.elim a
end
section
variable{CX:jW}{k:Nat}{f C:Addr}{fd:FuncData}{ps ks:List Str}{sp:Sp}{E:XK}{x m:Str}{p pos apos kpos:Pos}{e o:Expr}{es:List Expr}{kws:List Keyword}{te ta:TE}{t tk:TA}{nm:Option Str}
variable{g:List Value->List Value->List Value}{gV:List V->List V->List V}
end
structure bZ(N P:List Str)(sc:Scope):Prop where
 kind:sc.kind=.function
 co:sc.isCoroutine=false
 gen:sc.isGenerator=false
 nd:N.Nodup
 pre:N.take P.length=P
 par:∀x∈P,sc.names.lookup x=some .local\/sc.names.lookup x=some .cell
 nofree:∀y∈sc.names,y.2≠.free
theorem SJ{kindOf:Str->Option NameKind}{x:Str}:∀{binds:List (Str×Value)}{m:Str->Option Value},(∀v,(x,v)∉binds)->bindL kindOf binds m x=m x
 | [],_,_=>rfl
 | (n,v)::r,m,h=>by
  unfold bindL;rw[SJ λw a=>h w<|iB _ a]
  split
  .have:x≠n:=by rintro rfl;exact h v sI
   simp[this]
  .rfl
theorem PZ{kindOf:Str->Option NameKind}{x:Str}:∀{binds:List (Str×Value)}{m:Str->Option Value},(∀v,(x,v)∉binds)->bindC kindOf binds m x=m x
 | [],_,_=>rfl
 | (n,v)::r,m,h=>by
  unfold bindC;rw[PZ λw a=>h w<|iB _ a]
  split
  .rfl
  .have:x≠n:=by rintro rfl;exact h v sI
   simp[this]
theorem OY{kindOf:Str->Option NameKind}{x:Str}{v:Value}:∀{P:List Str}{vs:List Value}{i:Nat}{m:Str->Option Value},P.Nodup->P[i]?=some x->vs[i]?=some v->kindOf x=some .local->
  bindL kindOf (P.zip vs) m x=some v
 | [],_,_,_,_,h,_,_=>by simp at h
 | _::_,[],_,_,_,_,h,_=>by simp at h
 | p::P,w::vs,0,m,nd,h1,h2,hk=>by
  simp at h1 h2;subst h1;subst h2;show bindL kindOf ((p,w)::P.zip vs) m p=_;unfold bindL;rw[SJ λv a=>(ws9.mp nd).1 (xI a).1,bC hk];simp
 | p::P,w::vs,i+1,m,nd,h1,h2,hk=>by
  show bindL kindOf ((p,w)::P.zip vs) m x=_;unfold bindL;exact OY (i:=i) (ws9.mp nd).2 (by simpa using h1) (by simpa using h2) hk
theorem VD{kindOf:Str->Option NameKind}{x:Str}{v:Value}:∀{P:List Str}{vs:List Value}{i:Nat}{m:Str->Option Value},P.Nodup->P[i]?=some x->vs[i]?=some v->kindOf x≠some .local->
  bindC kindOf (P.zip vs) m x=some v
 | [],_,_,_,_,h,_,_=>by simp at h
 | _::_,[],_,_,_,_,h,_=>by simp at h
 | p::P,w::vs,0,m,nd,h1,h2,hk=>by
  simp at h1 h2;subst h1;subst h2;show bindC kindOf ((p,w)::P.zip vs) m p=_;unfold bindC;rw[PZ λv a=>(ws9.mp nd).1 (xI a).1,aZ hk];simp
 | p::P,w::vs,i+1,m,nd,h1,h2,hk=>by
  show bindC kindOf ((p,w)::P.zip vs) m x=_;unfold bindC;exact VD (i:=i) (ws9.mp nd).2 (by simpa using h1) (by simpa using h2) hk
def oI(N:List Str)(vs:List V):St:=vs.map some++List.replicate (N.length-↑vs) none
def fE(CX:jW)(P:Program)(w:World)(K:Fq)(mg:Str->Option Value)(base:Heap)(N:List Str)(qual:Str)(scope:Scope)(f:Addr)(cd:Value)(A:Around)(outer:List Env)(s:Shared)(H:Hp)(E:XK):Cx where
 prog:=P
 w:=w
 K:=K
 mg:=mg
 base:=base
 A:=A.deeper<|envOfC qual scope s⁻¹ f cd
 N:=N
 s₀:=s
 H₀:=H
 env:=envOfC qual scope s⁻¹ f cd
 outer:=outer
 stack:=envOfC qual scope s⁻¹ f cd::outer
 ex:=[]
 calm:=true
 fn:=λ_=>true
 pn:=[]
 xe:=λe s'=>wpAny (model P w) (A.deeper<|envOfC qual scope s⁻¹ f cd) (leaving (envOfC qual scope s⁻¹ f cd) e) (λ_ s''=>CX outer H s E e s'') (λe' s''=>CX outer H s E e' s'') s'
def UD{a:Scope}{n:Nat}{x:Str}(h:a.names.lookup x=some .cell):∃c,(cellsFrom n a.names []).lookup x=some c:=by
 have q:=PySem.W.cellsFrom_some a.names n []<|.inl h;exact Option.isSome_iff_exists.mp q
def XA{CX:jW}{P:Program}{w:World}{K:Fq}{mg:Str->Option Value}{base:Heap}{N ps:List Str}{d:Str}{scope:Scope}{f:Addr}{m:Value}{A:Around}{outer:List Env}{s B:Shared}{H:Hp}{E:XK}{us:List Value}{vs:List V}
  (S:bZ N ps scope) (hd:A.handled=none) (j:Env0 P w K mg base A outer s H) (hl:↑vs=↑ps) (r:Vals vs us)
  (x:InCallC s s⁻¹ (bindL (envOfC d scope s⁻¹ f m).kindOf (ps.zip us) λ_=>none) (cellsFrom (s⁻¹+1) scope.names []) (bindC (envOfC d scope s⁻¹ f m).kindOf (ps.zip us) λ_=>none) B):
  Inv (fE CX P w K mg base N d scope f m A outer s H E) [] (oI N vs) H B:=by
 have O:↑ps<=N.length:=by have:=cF List.length S.pre;rw[eM]at this;lia
 obtain⟨h1,tk,rfl,C⟩:=x.done;have o:∀b:Addr,b∉(fE CX P w K mg base N d scope f m A outer s H E).ex:=λb z=>absurd (show b∈([]:List Addr) from z) (by simp)
 exists ⟨j.mod,S.kind,rfl,rfl,aW _,λy z c h1 h2=>?_,λy l=>?_,λy c _ h=>?_,λ_=>hd,Around.frames_deeper j.frames,.inr ⟨rfl,rfl⟩,λb z=>absurd z<|o b,j.bs,j.bsz,λb _ _=>o b,λb z=>absurd z<|o b,j.funs,j.frf⟩,
  rfl,j.bare,Un.kept C,⟨_,x.toInCall.ns,λi y v h1 h2 M=>?_⟩,λy c h=>⟨_,x.cell y c h⟩,j.hok.fresh<|aW _,λy c h=>?_,λp hp=>absurd (show p∈([]:List (Addr×Obj)) from hp) (by simp),j.hok.kept C
 .exact name_of_addr x.apart (uO h1)<|uO h2
 .have l:scope.names.lookup y=some .cell\/scope.names.lookup y=some .free:=l;rcases l with l | l
  .exact UD l
  .exact absurd rfl<|S.nofree _<|uO l
 .exact cN<|x.above y c<|uO h
 .have hi:i<↑vs:=by
   unfold oI at h2
   by_cases hi:i<↑vs
   .exact hi
   .rw[kN<|by simpa using hi]at h2;rw[List.getElem?_replicate]at h2
    split at h2 <;> cases h2
  have L:vs[i]?=some v:=by
   unfold oI at h2;rw[kE (by simpa using hi),bO]at h2;cases e:vs[i]? with
   | none=>rw[e]at h2;cases h2
   | some a=>rw[e]at h2;cases h2;rfl
  obtain⟨u,G,J⟩:=r.get L;have hp:ps[i]?=some y:=by
   rw[<-S.pre,List.getElem?_take_of_lt<|by lia];exact h1
  have I:ps.Nodup:=by rw[<-S.pre];exact S.nd.sublist<|List.take_sublist _ _
  exists u,J;rcases S.par y (cU hp)with k | k
  .exact .inl ⟨k,OY I hp G k⟩
  .obtain⟨c,e⟩:=UD (n:=s⁻¹+1) k;refine .inr ⟨.inl k,c,e,?_⟩;have q:=x.cell y c e;rw[VD I hp G (by show scope.names.lookup y≠_;rw[k];decide)]at q;exact q
 .exact j.hok.fresh<|cN<|x.above y c<|uO h
 .unfold oI;show _=N.length;rw[bH,aK,List.length_replicate];lia
def AM{CX:jW}{P:Program}{w:World}{K:Fq}{mg:Str->Option Value}{base:Heap}{k:Nat}{f:Addr}{name a:Str}{d:Arguments}{body:List Stmt}{scope:Scope}{l kV G C h ct oc:Value}{M od:Option Addr}
  {a6:Array (Option Value)} {N ps:List Str} {sp:Sp} (lk:K.lookup f=some ⟨oc,od,.func<|PySem.W.fnOf name a d body scope l kV G C M h ct,a6⟩) (Y:PySem.W.codeIn K h a=true) (S:bZ N ps scope)
  (len:∀vs H Q E,sp vs H Q E->↑vs=↑ps)
  (O:∀(A:Around)(outer:List Env)(s:Shared)(H:Hp)(vs:List V)(Q:VK)(E:XK),Room k (A.deeper<|envOfC a scope s⁻¹ f h)->sp vs H Q E-> ∃t,PSs (fE CX P w K mg base N a scope f h A outer s H E) body t/\t {nx:=λ_ H'=>Q .non H',rt:=Q} (oI N vs) H):
  aR P w K mg base CX (k+1) f (PySem.W.fnOf name a d body scope l kV G C M h ct) ps sp:=by
 refine⟨len,λA outer s H args us vs Q E hr i T r B=>?_⟩;have hl:=len _ _ _ _ B;have L:K.In s.heap:=i.mod.kin.keeps λb o e=>(i.bs b o e).1;have a7:s.heap.NoLimit:=i.mod.nolimit.keeps λb o e=>(i.bs b o e).1;have Z:∀y∈ps.zip us,scope.names.lookup y.1=some .local\/(scope.names.lookup y.1=some .cell/\((cellsFrom (s⁻¹+1) scope.names []).lookup y.1).isSome=true):=by
  rintro⟨n,v⟩ hy;rcases S.par n (xI hy).1 with q | q
  .exact .inl q
  .exact .inr ⟨q,PySem.W.cellsFrom_some _ _ _<|.inl q⟩
 refine codeAny_call_function hr.depth (L _ _ lk) rfl S.co S.gen rfl (PySem.W.codeRec_of L Y)<|T _ _ _ _ ?_;refine wpAny_newFunctionEnv_cells S.kind Z λenv he m x=>?_;subst he;refine⟨a7.keeps x.toInCall.keep,codeAny_func ?_⟩;obtain⟨t,X,hq⟩:=O A outer s H vs Q E (hr.deeper _) B;have I:Inv (fE CX P w K mg base N a scope f h A outer s H E) [] (oI N vs) H m:=XA S hr.hd i hl r x;refine fV (X [] m (oI N vs) H _ I hq) (λfl s' hs=>?_) λe s' hs=>hs;have z:∀{σ':St}{H':Hp}{v:V}{u:Value},Inv (fE CX P w K mg base N a scope f h A outer s H E) [] σ' H' s'->RelV v u->Q v H'->CE outer P w H s Q u s':=
  λ{σ' H' v u} J j q=>⟨v,H',J.os,J.bare,J.base,J.hok,j,q⟩
 cases fl with
 | ret u=>
  obtain⟨v,σ',H',J,j,q⟩:=hs;exact z J j q
 | next=>
  obtain⟨σ',H',J,q⟩:=hs;exact z (v:=V.non) (u:=Value.none) J rfl q
 | brk=>
  obtain⟨_,_,_,q⟩:=hs;exact False.elim q
 | cont=>
  obtain⟨_,_,_,q⟩:=hs;exact False.elim q
section
variable{x:Str}{p pos:Pos}{e:Expr}{es:List Expr}{t:TA}{id T:String}{r:List V->Hp->VK->Prop}
def lN(r:List V->Hp->VK->Prop)(t:TA):TE:=λσ H Q=>t σ H λvs H1=>r vs H1 Q
def eA(i:CallR X (.builtin id) r)(m:Gl X x)(n:X.mg x=none)(o:bootBuiltins x=some (.builtin id))(u:PA X (e::es) t)(j:x≠"__name__":=by decide)(b:(x == ("__debug__":Str))=false:=by decide)
  (he:starEach (e::es) X.env=(false,eval e X.env)::starEach es X.env:=by rfl) (l:(backTo pos<|starEach es X.env).any (·.1)=false:=by rfl):PE X (.Call (.Name x p) (e::es) [] pos) (lN r t):=by
 intro a s σ H Q I h;refine xQ<|lG I m n o ?_ j b;exact PyProof.Rows.callWith_builtin1 (aU (u pos a s σ H _ I h) <| by rintro us f ⟨vs,H1,w,q,d⟩;exact i a f σ H1 vs us Q w q d) he l
def dS(i:CallR X (.type T) r)(m:Gl X x)(n:X.mg x=none)(o:bootBuiltins x=some (.type T))(u:PA X (e::es) t)(j:x≠"__name__":=by decide)(b:(x == ("__debug__":Str))=false:=by decide)
  (he:starEach (e::es) X.env=(false,eval e X.env)::starEach es X.env:=by rfl) (l:(backTo pos<|starEach es X.env).any (·.1)=false:=by rfl):PE X (.Call (.Name x p) (e::es) [] pos) (lN r t):=by
 intro a s σ H Q I h;refine xQ<|lG I m n o ?_ j b;exact oO (aU (u pos a s σ H _ I h) <| by rintro us f ⟨vs,H1,w,q,d⟩;exact i a f σ H1 vs us Q w q d) he l
end
end L2
namespace HT
open PySem PyProof.Rows
section
open PySem.SeqAt
open PySem.AutoSeq1 (wpAny_loadPart')
open PySem.MeetsSeq PySem.MeetsSeq2 PySem.MeetsSeq3
end
section
variable{prog:Program}{w:World}{A:Around}{E:Vp}{s:Shared}
def YJ{t b:Addr}{vs ws:List Value}{Q:Vp}(x:IsTup s.heap t vs.toArray)(z:IsTup s.heap b ws.toArray)(m:vs≠[])
  (h1:ws=[]->Q (.ref t) s) (h2:ws≠[]->Q (.ref s⁻¹) {s with heap:=s.heap.push {cls:=.type "tuple",data:=.seq (vs++ws).toArray}})
  (hsz:↑vs+↑ws<=sizeLine):wpAny (model prog w) A (binaryOp .Add (.ref t)<|.ref b) Q E s:=by
 obtain⟨⟨cls,q,data,i⟩,d,j,n,hd⟩:=id x;obtain⟨⟨B,h,data2,o⟩,f,l,u,r⟩:=id z;simp only at j hd l r;subst j hd l r;have e:vs.toArray++ws.toArray=(vs++ws).toArray:=by simp
 by_cases a:ws=[]
 .exact concat_meets ⟨_,d,rfl⟩ ⟨_,f,rfl⟩ noFill_tuple_add seq_tuple_add PySem.F.slot_tuple_add PySem.F.entry_tuple_add (PySem.F.args_tuple_add_2 _ _)
   (tuple_addW1 t b vs.toArray ws.toArray n u q h i o (by simpa using m)<|by simp[a]) ⟨d,f,h1 a⟩
 .refine concat_meets ⟨_,d,rfl⟩ ⟨_,f,rfl⟩ noFill_tuple_add seq_tuple_add PySem.F.slot_tuple_add PySem.F.entry_tuple_add (PySem.F.args_tuple_add_2 _ _)
   (tuple_addW2 t b vs.toArray ws.toArray n u q h i o (by simpa using m) (by simpa using a)<|by rw[cT,cT];exact hsz) ⟨d,f,?_⟩
  rw[e];exact h2 a
def sIx(n d:Nat):Option Int->Nat
 | none=>d
 | some v=>if v<0 then(v+(n:Int)).toNat else min v.toNat n
def QB(n d:Nat):sIx n d none=d:=rfl
def DH(n d k:Nat):sIx n d (some (k:Int))=min k n:=by
 show(if (k:Int)<0 then((k:Int)+(n:Int)).toNat else min (k:Int).toNat n)=min k n;rw[aZ (by lia),zL]
def rV(n d:Nat)(hd:d<=n)(o:Option Int):sIx n d o<=n:=by
 cases o with
 | none=>exact hd
 | some v=>
  show(if v<0 then(v+(n:Int)).toNat else min v.toNat n)<=n
  by_cases a:v<0
  .rw[bC a];lia
  .rw[aZ a];exact Nat.min_le_right _ _
def TK(v:Int)(n d:Nat):(if v<0 then max (v+(n:Int)) 0 else min v (n:Int))=((sIx n d (some v):Nat):Int):=by
 show(if v<0 then max (v+(n:Int)) 0 else min v (n:Int))=(((if v<0 then(v+(n:Int)).toNat else min v.toNat n):Nat):Int)
 by_cases a:v<0
 .simp only[bC a];lia
 .simp only[aZ a];lia
def ZV(lo hi:Option Int)(n:Nat):Builtin.Slice.sliceAdjust lo hi 1 (n:Int)=(((sIx n 0 lo:Nat):Int),((sIx n n hi:Nat):Int)):=by
 have h1:¬((1:Int)<0):=by lia
 unfold Builtin.Slice.sliceAdjust;simp only[h1,jD];refine Prod.ext ?_ ?_
 .cases lo with
  | none=>rfl
  | some v=>exact TK v n 0
 .cases hi with
  | none=>rfl
  | some v=>exact TK v n n
def WV(i j:Nat):Builtin.Slice.slicePlaces (i:Int) (j:Int) 1=j-i:=by
 unfold Builtin.Slice.slicePlaces;have h1:(1:Int) > 0:=by lia
 simp only[h1,if_true,Int.ediv_one]
 split <;> lia
def QG{v:Value}{o:Option Int}{Q:Option Int->Shared->Prop}(p:IsPart v o)(h:Q o s):wpAny (model prog w) A (Builtin.Slice.slicePartIndex v) Q E s:=by
 cases p with
 | none=>exact slicePart_none h
 | int i t=>exact slicePart_int h
def YW{f:Addr}{b a:Value}{lo hi:Option Int}{n:Nat}{Q:Int×Int×Nat->Shared->Prop}(hs:s.heap.IsSliceOf f b a .none)(i:IsPart b lo)(j:IsPart a hi)
  (h:Q (((sIx n 0 lo:Nat):Int),1,sIx n n hi-sIx n 0 lo) s):wpAny (model prog w) A (Builtin.Slice.sliceApplied (.ref f)<|pure (n:Int)) Q E s:=by
 obtain⟨os,e,l,d⟩:=id hs;unfold Builtin.Slice.sliceApplied Builtin.Slice.sliceFields;refine aJ<|aJ<|eU e d (x:=b) rfl<|aJ<|eU e d (x:=a) rfl<|aJ<|eU e d (x:=.none) rfl<|bJ ?_;refine aJ<|slicePart_none ?_;show wpAny _ _ (if ((1:Int) == 0)=true then _ else _) _ _ s;rw[aZ<|by decide];refine aJ<|QG i<|aJ<|QG j<|aJ<|bJ ?_;show wpAny _ _ (match Builtin.Slice.sliceAdjust lo hi 1 (n:Int)with | (lo,hi)=>pure (lo,(1:Int),Builtin.Slice.slicePlaces lo hi 1)) _ _ s;rw[ZV lo hi n];show wpAny _ _ (pure (((sIx n 0 lo:Nat):Int),(1:Int),Builtin.Slice.slicePlaces ((sIx n 0 lo:Nat):Int) ((sIx n n hi:Nat):Int) 1)) _ _ s;rw[WV];exact bJ h
def Aa(xs:Array Value)(i k:Nat):((List.range k).filterMap λ(m:Nat)=>xs[((i:Int)+(m:Int)*1).toNat]?).toArray=((xs.toList.drop i).take k).toArray:=by
 have e:(λ(m:Nat)=>xs[((i:Int)+(m:Int)*1).toNat]?)=λm=>xs[i+m]?:=by
  funext m
  have:((i:Int)+(m:Int)*1).toNat=i+m:=by lia
  rw[this]
 rw[e];have:=pick_run xs i k;rw[List.filterMap_map]at this;have a:((λx=>xs[x]?)∘λx=>i+x)=λm=>xs[i+m]?:=rfl;rw[a]at this;rw[this]
def By{t d:Addr}{items:Array Value}{f e:Value}{lo hi:Option Int}{Q:Vp}(b:IsTup s.heap t items)(hs:s.heap.IsSliceOf d f e .none)(j:IsPart f lo)(r:IsPart e hi)
  (l:¬(sIx items.size 0 lo=0/\sIx items.size items.size hi=items.size))
  (h:Q (.ref s⁻¹) {s with heap:=s.heap.push {cls:=.type "tuple",data:=.seq ((items.toList.drop<|sIx items.size 0 lo).take<|sIx items.size items.size hi-sIx items.size 0 lo).toArray}})
  (hsz:items.size<=sizeLine):wpAny (model prog w) A (getItem (.ref t)<|.ref d) Q E s:=by
 have a:sizeOk (.seq ((items.toList.drop<|sIx items.size 0 lo).take<|sIx items.size items.size hi-sIx items.size 0 lo).toArray):=by
  show((items.toList.drop<|sIx items.size 0 lo).take<|sIx items.size items.size hi-sIx items.size 0 lo).toArray.size<=sizeLine;rw[cT,eM,mP,FD];lia
 have B:sIx items.size items.size hi<=items.size:=rV _ _ (aW _) hi;obtain⟨os,n,i,C⟩:=id hs;have u:s.TypeIs (.ref d) "slice":=⟨os,n,i⟩;unfold getItem
 try with_reducible refine iO ?_
 first | refine aJ (bJ ?_) | skip
 refine aJ<|wpAny_sequenceKey b.typeIs (by decide) ?_;refine aJ<|mS (name:=Str.ofString "__getitem__") b.typeIs vd6<|kG vd6 b.typeIs entry_tuple_getitem ?_<|args_tuple_getitem _ _
 show wpAny _ _ (Builtin.Tuple.tupleItemsOf (.ref t) >>= _) _ _ s;refine aJ<|tupleItemsOf_ b ?_;refine aJ<|wpAny_typeOf u ?_;rw[bC<|by decide];refine aJ<|YW hs j r ?_;have o:¬((((sIx items.size 0 lo:Nat):Int) == 0 && (1:Int) == 1 && (sIx items.size items.size hi-sIx items.size 0 lo) == items.size)=true):=by
  intro q;rw[qY,qY]at q;have x:((sIx items.size 0 lo:Nat):Int)=0:=eq_of_beq q.1.1;have z:sIx items.size items.size hi-sIx items.size 0 lo=items.size:=eq_of_beq q.2;exact l ⟨by lia,by lia⟩
 show wpAny _ _ (if (((sIx items.size 0 lo:Nat):Int) == 0 && (1:Int) == 1 && (sIx items.size items.size hi-sIx items.size 0 lo) == items.size)=true then _ else _) _ _ s;rw[aZ o,Aa]
 first
  | exact aJ (m:=Builtin.Tuple.tupleExact _) (jY (bJ ⟨_,rfl,bJ h⟩) a)
  | exact aJ (m:=Builtin.Tuple.tupleExact _) (jY (aJ<|bJ<|bJ ⟨_,rfl,bJ h⟩) a)
  | exact aJ (aJ (m:=Builtin.Tuple.tupleExact _)<|jY (bJ<|bJ ⟨_,rfl,bJ h⟩) a)
  | exact aJ (aJ (m:=Builtin.Tuple.tupleExact _)<|jY (bJ ⟨_,rfl,bJ h⟩) a)
end
end HT
namespace L2
open PySem PySem.Spec PyProof.Rows
variable{prog:Program}{w:World}{A:Around}{E:Vp}{s:Shared}
variable{X:Cx}
abbrev TO:=St->Hp->(Option Int->Hp->Prop)->Prop
def PO(X:Cx)(e:Option Expr)(t:TO):Prop:=
 ∀(pins:List (Addr×Obj))(s:Shared)(σ:St)(H:Hp)(Q:Option Int->Hp->Prop),Inv X pins σ H s->t σ H Q->
  wpAny (model X.prog X.w) X.A (evalPart e X.env) (λu s'=>∃o H',Inv X pins σ H' s'/\IsPart u o/\Q o H') X.xe s
def OZ:TO:=λ_ H Q=>Q none H
def pI(t:TE):TO:=λσ H Q=>t σ H λx H1=>∃i,x=.int i/\Q (some i) H1
section
variable{e:Expr}{te:TE}{lo hi:Option Expr}{tl th:TO}{pos p2:Pos}
def jL:PO X none OZ:=by
 intro a s σ H Q I h;rw[evalPart_none];exact bJ ⟨none,H,I,.none,h⟩
def jK(h:PE X e te):PO X (some e) (pI te):=by
 intro d s σ H Q I a;rw[evalPart_some];refine aU (h d s σ H _ I a) ?_;rintro u l ⟨x,H1,j,b,f⟩;obtain⟨i,rfl,q⟩:=f;obtain⟨t,rfl⟩:=b;exact⟨some i,H1,j,.int i t,q⟩
def GB(X:Cx)(r:V->Option Int->Option Int->Hp->VK->Prop):Prop:=
 ∀(pins:List (Addr×Obj))(s:Shared)(σ:St)(H:Hp)(x:V)(v vl vu:Value)(lo hi:Option Int)(sl:Addr)(Q:VK),Inv X pins σ H s->RelV x v->s.heap.IsSliceOf sl vl vu .none->IsPart vl lo->IsPart vu hi->r x lo hi H Q->
  ∃T id,typeLookup (.type T) "__getitem__"=pure (some<|.builtin id)/\s.TypeIs v T/\wpAny (model X.prog X.w) X.A (getItem v<|.ref sl) (EP X pins σ Q) X.xe s
def NF(r:V->Option Int->Option Int->Hp->VK->Prop)(te:TE)(tl th:TO):TE:=λσ H Q=>te σ H λx H1=>tl σ H1 λl H2=>th σ H2 λu H3=>r x l u H3 Q
def jR{r:V->Option Int->Option Int->Hp->VK->Prop}(hr:GB X r)(he:PE X e te)(hl:PO X lo tl)(J:PO X hi th):PE X (.Subscript e (.Slice lo hi none p2) pos) (NF r te tl th):=by
 intro a s σ H Q I h;refine Subscript_<|aU (he a s σ H _ I h) ?_;rintro v j ⟨x,H1,E,z,i⟩;refine wpAny_Slice<|aU (hl a j σ H1 _ E i) λd s2 ⟨l,H2,o,G,N⟩=>aU (J a s2 σ H2 _ o N) ?_;rintro f s3 ⟨u,H3,L,B,M⟩;rw[evalPart_none];refine bJ ?_;have m:Inv X a σ H3 {s3 with heap:=s3.heap.push {cls:=.type "slice",data:=.fields #[d,f,.none]}}:=L.kept (t':=s3.toks) λb O q=>bU _ q;obtain⟨T,id,n,C,K⟩:=hr a {s3 with heap:=s3.heap.push {cls:=.type "slice",data:=.fields #[d,f,.none]}} σ H3 x v d f l u s3⁻¹ Q m z (Heap.IsSliceOf.new ..) G B M;show wpAny (model X.prog X.w) X.A (subscriptTail e (.Slice lo hi none p2) v<|.ref s3⁻¹) (EP X a σ Q) X.xe {s3 with heap:=s3.heap.push {cls:=.type "slice",data:=.fields #[d,f,.none]}};exact tail_any (ops:=[.ref s3⁻¹,v]) C n K (by with_unfolding_all rfl)
def cW(xs:List V)(lo hi:Option Int):List V:=(xs.drop<|HT.sIx ↑xs 0 lo).take<|HT.sIx ↑xs ↑xs hi-HT.sIx ↑xs 0 lo
def RP(xs:List V)(lo hi:Option Int):↑(cW xs lo hi)<=↑xs:=by
 unfold cW;rw[eM,mP];lia
def MX(K:Fq):V->Option Int->Option Int->Hp->VK->Prop:=λx lo hi H Q=>∃a xs,x=.ref a/\SqT K H a xs/\
 ¬(HT.sIx ↑xs 0 lo=0/\HT.sIx ↑xs ↑xs hi=↑xs)/\∀p,H p=none->Q (.ref p) (upd H p<|.tup<|cW xs lo hi)
def EI:GB X (MX X.K):=by
 intro w s σ H x v z n lo hi u Q I l hs f m h;obtain⟨a,xs,rfl,i,j,q⟩:=h;cases l;obtain⟨its,r,e,hz⟩:=I.tuple i;have d:its.toArray.size=↑xs:=by rw[cT];exact r.length.symm
 exists "tuple",_,vd6.lookup,e.typeIs;refine HT.By e hs f m (by rw[d];exact j) ?_ (by rw[d];exact hz);rw[d];refine⟨.ref s⁻¹,_,I.laid (t':=s.toks) (o:=.tup<|cW xs lo hi) (λb A q=>bU _ q) (aW _) ?_,rfl,q _<|I.hok.fresh<|aW _⟩;exact⟨⟨fX (RP xs lo hi) hz,_,dG _ rfl,rfl⟩,_,(r.drop<|HT.sIx ↑xs 0 lo).take<|HT.sIx ↑xs ↑xs hi-HT.sIx ↑xs 0 lo,IsTup.new _ _⟩
def nF(K:Fq):R2:=λx y H Q=>∃a b xs ys,x=.ref a/\y=.ref b/\SqT K H a xs/\SqT K H b ys/\xs≠[]/\↑xs+↑ys<=sizeLine/\
 (ys=[]->Q (.ref a) H)/\(ys≠[]->∀p,H p=none->Q (.ref p) (upd H p<|.tup<|xs++ys))
def Vals.nil_iff{xs:List V}{us:List Value}(r:Vals xs us):us=[]↔xs=[]:=by
 cases r with
 | nil=>simp
 | cons _ _=>simp
def OD:cZ X (binaryOp .Add) (nF X.K):=by
 intro B s σ H x y v u Q I l i h;obtain⟨a,b,xs,ys,rfl,rfl,r,n,f,hz,j,m⟩:=h;cases l;cases i;obtain⟨its,e,A,_⟩:=I.tuple r;obtain⟨C,d,p2,_⟩:=I.tuple n;refine HT.YJ A p2 (λz=>f<|e.nil_iff.mp z) (λz=>⟨.ref a,H,I,rfl,j<|d.nil_iff.mp z⟩) (λz=>?_) (by rw[<-↑e,<-↑d];exact hz);refine⟨.ref s⁻¹,_,I.laid (t':=s.toks) (o:=.tup<|xs++ys) (λb E q=>bU _ q) (aW _) ?_,rfl,m (λw=>z<|d.nil_iff.mpr w) _<|I.hok.fresh<|aW _⟩;exact⟨⟨by rw[bH];exact hz,_,dG _ rfl,rfl⟩,_,e.append d,IsTup.new _ _⟩
end
def mK(n:Nat)(i:Int):Option Nat:=if 0<=i then(if i<n then some i.toNat else none) else if -(n:Int)<=i then some (i+n).toNat else none
def dY{α:Type}(xs:List α)(i:Int):Option α:=(mK ↑xs i).bind λj=>xs[j]?
def SY{n:Nat}{i:Int}{j:Nat}(h:mK n i=some j):seqIndex? i n=some j/\j<n/\-(n:Int)<=i/\i<n:=by
 unfold mK at h
 by_cases h0:0<=i
 .rw[bC h0]at h
  by_cases h1:i<n
  .rw[bC h1]at h;have e:i.toNat=j:=gX h;exact⟨by rw[seqIndex_of h0 h1,e],by lia,by lia,h1⟩
  .rw[aZ h1]at h;cases h
 .rw[aZ h0]at h
  by_cases h1:-(n:Int)<=i
  .rw[bC h1]at h;have e:(i+n).toNat=j:=gX h;exact⟨by rw[seqIndex_neg (by lia) h1,e],by lia,h1,by lia⟩
  .rw[aZ h1]at h;cases h
def HQ{α:Type}{xs:List α}{i:Int}{v:α}(h:dY xs i=some v):∃j,seqIndex? i ↑xs=some j/\xs[j]?=some v/\j<↑xs/\-(↑xs:Int)<=i/\i<↑xs:=by
 unfold dY at h;cases e:mK ↑xs i with
 | none=>rw[e]at h;cases h
 | some j=>
  rw[e]at h;obtain⟨h1,h2,a,b⟩:=SY e;exact⟨j,h1,h,h2,a,b⟩
def lL{α:Type}{xs:List α}{j:Nat}{v:α}(h:xs[j]?=some v):dY xs (j:Int)=some v:=by
 have a:j<↑xs:=(zz2.mp h).1;have e:mK ↑xs (j:Int)=some j:=by
  unfold mK;rw[bC (by lia),bC<|by lia];simp
 unfold dY;rw[e];exact h
def IH(b:Expr):Prop:=∀o i,subscripted b false o i=operate [o,i] (getItem o i)
def lP(X:Cx)(r:R2):Prop:=
 ∀(value slice:Expr)(pins:List (Addr×Obj))(s:Shared)(σ:St)(H:Hp)(x y:V)(v u:Value)(Q:VK),Inv X pins σ H s->RelV x v->RelV y u->r x y H Q->
  subscripted slice false v u=operate [v,u] (getItem v u)->wpAny (model X.prog X.w) X.A (subscriptTail value slice v u) (EP X pins σ Q) X.xe s
def SC(X:Cx)(id:String)(r:V->List V->Hp->VK->Prop):Prop:=
 ∀(pins:List (Addr×Obj))(s:Shared)(σ:St)(H:Hp)(x:V)(xs:List V)(v:Value)(us:List Value)(Q:VK),Inv X pins σ H s->RelV x v->Vals xs us->r x xs H Q->
  wpAny (model X.prog X.w) X.A (call (.builtin id)<|v::us) (EP X pins σ Q) X.xe s
section
variable{a b:Expr}{ta tb:TE}{pos:Pos}
def lQ{r:R2}(hr:lP X r)(l:PE X a ta)(i:PE X b tb)(hs:IH b):PE X (.Subscript a b pos) (dC r ta tb):=by
 intro j s σ H Q I h;exact Subscript_<|tT l i I h λv u s2 x y H2 f e d q=>hr a b j s2 σ H2 x y v u Q f e d q<|hs _ _
inductive yA(K:Fq)(x y:V)(H:Hp)(Q:VK):Prop
 | mk(p:Addr)(xs:List V)(i:Int)(v:V)(h1:x=.ref p)(h2:y=.int i)(h3:SqL K H p xs)(h4:dY xs i=some v)(q:Q v H):yA K x y H Q
def lY(K:Fq):R2:=λx y H Q=>yA K x y H Q
inductive zT(K:Fq)(x y:V)(H:Hp)(Q:VK):Prop
 | mk(p:Addr)(xs:List V)(i:Int)(v:V)(h1:x=.ref p)(h2:y=.int i)(h3:SqT K H p xs)(h4:dY xs i=some v)(q:Q v H):zT K x y H Q
def dN(K:Fq):R2:=λx y H Q=>zT K x y H Q
def MW:R2:=λx y H Q=>∃z i c,x=.str z/\y=.int i/\↑z<=sizeLine/\dY z.cps.toList i=some c/\Q (.str ⟨#[c]⟩) H
def WL:lP X (lY X.K):=by
 intro value a e s σ H x y v u Q I o n h hs;obtain⟨p,xs,i,z,rfl,rfl,B,he,q⟩:=h;cases o;obtain⟨t,rfl⟩:=n;obtain⟨its,r,d,hz⟩:=I.list B;obtain⟨j,h1,h2,G,C,A⟩:=HQ he;obtain⟨w,l,m⟩:=r.get h2;have hl:=↑r;have E:=mG;have f:EP X e σ Q w s:=⟨z,H,I,m,q⟩
 by_cases h0:0<=i
 .have b:i.toNat=j:=by
   rw[seqIndex_of h0 A]at h1;exact gX h1
  exact item_listR d.isList h0 (by lia) (by rw[b];simpa using l) f hs
 .have b:(i+(its.toArray.size:Int)).toNat=j:=by
   rw[seqIndex_neg (by lia) C]at h1;rw[cT,<-hl];exact gX h1
  exact subscriptTail_builtinR (x:=w) d.isList.typeIs slot_list_getitem.lookup
   (wpAny_getItem_list_neg (Q:=λr s'=>r=w/\EP X e σ Q r s') d.isList (by lia) (by rw[cT] <;> lia) (by lia) (by rw[b];simpa using l) ⟨rfl,f⟩) hs
def rP:lP X (dN X.K):=by
 intro value a b s σ H x y v u Q I l f h hs;obtain⟨p,xs,i,z,rfl,rfl,n,he,q⟩:=h;cases l;obtain⟨t,rfl⟩:=f;obtain⟨its,r,d,hz⟩:=I.tuple n;obtain⟨j,h1,h2,C,E,B⟩:=HQ he;obtain⟨w,o,m⟩:=r.get h2;have hl:=↑r;have A:=mG;have e:EP X b σ Q w s:=⟨z,H,I,m,q⟩;exact subscriptTail_builtinR (x:=w) d.typeIs slot_tuple_getitem.lookup
  (getItem_tuple (j:=j) (Q:=λr s'=>r=w/\EP X b σ Q r s') d (by lia) (by lia) (by rw[cT,<-hl];exact h1) (by simpa using o) ⟨rfl,e⟩) hs
def RM:lP X MW:=by
 intro value a r s σ H x y v u Q I f d h hs;obtain⟨z,i,c,rfl,rfl,hz,he,q⟩:=h;obtain⟨t,rfl⟩:=f;obtain⟨t',rfl⟩:=d;obtain⟨j,h1,h2,n,l,b⟩:=HQ he;have hl:↑z.cps.toList=↑z:=by simp[Str.length]
 rw[hl]at h1 l b;have o:=mG;exact tail_any (typeIs_str s z t) slot_str_getitem.lookup (getItem_str (c:=c) (by
  have e:decide (i < -(2 ^ 63:Int))=false:=gR (by lia);have m:decide (i≥2 ^ 63)=false:=gR (by lia);rw[e,m,Bool.or_false]) (by rw[h1];simpa using h2) ⟨.str ⟨#[c]⟩,H,I.tok _,⟨_,rfl⟩,q⟩) hs
def XC(its:List Value)(n j:Nat)(u:Value):Obj.mapSeq (·.setIfInBounds j u) {cls:=.type "list",data:=.seq its.toArray n}={cls:=.type "list",data:=.seq (its.set j u).toArray n}:=by
 simp[Obj.mapSeq]
theorem Inv.lst{a:List (Addr×Obj)}{σ:St}{H:Hp}{s:Shared}{p:Addr}{xs:List V}(I:Inv X a σ H s)(h:H p=some (.lst xs)):
  ∃(its:List Value)(n:Nat),Vals xs its/\s.heap.get? p=some {cls:=.type "list",data:=.seq its.toArray n}/\↑xs<=sizeLine:=by
 obtain⟨z,its,n,r,e⟩:=I.hok p _ h;exact⟨its,n,r,e,z⟩
def Inv.lstUpd{d:List (Addr×Obj)}{σ:St}{H:Hp}{s:Shared}{p:Addr}{xs ys:List V}{its its':List Value}{n a:Nat}{f:Obj->Obj}(I:Inv X d σ H s)(h:H p=some (.lst xs))
  (j:s.heap.get? p=some {cls:=.type "list",data:=.seq its.toArray n}) (i:f {cls:=.type "list",data:=.seq its.toArray n}={cls:=.type "list",data:=.seq its'.toArray a}) (r:Vals ys its') (hz:↑ys<=sizeLine) (t:Nat):
  Inv X d σ (upd H p<|.lst ys) {s with heap:=s.heap.update p f,toks:=t}:=by
 have e:(s.heap.update p f).get? p=some {cls:=.type "list",data:=.seq its'.toArray a}:=by
  rw[wU f j (by rw[i] <;> rfl),i]
 refine I.write (x:=p) (e:=p) (by rw[h];trivial) (.inl rfl) (λb u l q=>(qL _ _<|bK l).trans q) ⟨_,e⟩ ?_;exact⟨hz,its',a,r,e⟩
def yG:V->V->V->Hp->(Hp->Prop)->Prop:=λo i v H Q=>∃p xs k j,o=.ref p/\i=.int k/\H p=some (.lst xs)/\mK ↑xs k=some j/\Q (upd H p<|.lst<|xs.set j v)
def tM:BB X yG:=by
 intro w s σ H o i v B C u Q I x z m h;obtain⟨p,xs,k,j,rfl,rfl,hp,l,q⟩:=h;cases x;obtain⟨t,rfl⟩:=z;obtain⟨its,n,r,a,hz⟩:=I.lst hp;obtain⟨h1,h2,e,f⟩:=SY l;have hl:=↑r;have A:=mG;have d:Inv X w σ (upd H p<|.lst<|xs.set j v) {s with heap:=s.heap.update p<|Obj.mapSeq (·.setIfInBounds j u)}:=
  I.lstUpd hp a (XC its n j u) (r.set m j) (by rw[List.length_set];exact hz) s.toks
 by_cases h0:0<=k
 .have b:k.toNat=j:=by
   rw[seqIndex_of h0 f]at h1;exact gX h1
  exact PySem.W.ki_setAt a h0 (by lia) (by rw[cT,<-hl];exact f) (by rw[b];exact⟨_,d,q⟩)
 .have b:(k+(its.toArray.size:Int)).toNat=j:=by
   rw[seqIndex_neg (by lia) e]at h1;rw[cT,<-hl];exact gX h1
  exact PySem.W.ki_setBack a (by lia) (by rw[cT,<-hl];exact e) (by lia) (by rw[b];exact⟨_,d,q⟩)
def Ap(lo hi:Option Int)(n:Nat):(sliceBounds lo hi none n).1=((HT.sIx n 0 lo:Nat):Int)/\(sliceBounds lo hi none n).2.1=((HT.sIx n n hi:Nat):Int)/\(sliceBounds lo hi none n).2.2=1:=by
 refine⟨?_,?_,rfl⟩
 .cases lo with
  | none=>simp[sliceBounds,HT.sIx]
  | some i=>
   simp only[sliceBounds,HT.sIx,Option.getD_none,show(1:Int) > 0 by decide,if_true]
   by_cases h:i<0
   .simp only[h,if_true] <;> lia
   .simp only[h,jD] <;> lia
 .cases hi with
  | none=>simp[sliceBounds,HT.sIx]
  | some i=>
   simp only[sliceBounds,HT.sIx,Option.getD_none,show(1:Int) > 0 by decide,if_true]
   by_cases h:i<0
   .simp only[h,if_true] <;> lia
   .simp only[h,jD] <;> lia
def As(its:List Value)(lo hi:Option Int):slicePick its.toArray lo hi none=((its.drop<|HT.sIx ↑its 0 lo).take<|HT.sIx ↑its ↑its hi-HT.sIx ↑its 0 lo).toArray:=by
 obtain⟨h1,h2,a⟩:=Ap lo hi its.toArray.size;unfold slicePick;rw[h1,h2,a];simp only[sliceRange_one,pick_run,cT] <;> rfl
def zW(K:Fq):V->Option Int->Option Int->Hp->VK->Prop:=λx lo hi H Q=>∃a xs,x=.ref a/\SqL K H a xs/\∀p,H p=none->Q (.ref p) (upd H p<|.lst<|cW xs lo hi)
def xH:GB X (zW X.K):=by
 intro u s σ H x v w m lo hi n Q I i hs e l h;obtain⟨a,xs,rfl,f,q⟩:=h;cases i;obtain⟨its,r,d,hz⟩:=I.list f;have j:=↑r;exists "list",_,slot_list_getitem.lookup,d.isList.typeIs;refine wpAny_getItem_list_slice d.isList hs e l .none (by simp) ?_ (by rw[cT] <;> lia);rw[As,<-j];refine⟨.ref s⁻¹,_,I.laid (t':=s.toks) (o:=.lst<|cW xs lo hi) (λb z q=>bU _ q) (aW _) ?_,rfl,q _<|I.hok.fresh<|aW _⟩;exact⟨fX (RP xs lo hi) hz,_,0,(r.drop<|HT.sIx ↑xs 0 lo).take<|HT.sIx ↑xs ↑xs hi-HT.sIx ↑xs 0 lo,dG _ rfl⟩
def kO:V->Bool
 | .non=>true
 | .bl _=>true
 | .int _=>true
 | .str _=>true
 | _=>false
def kT:V->V->Bool
 | .non,.non=>true
 | .bl a,.bl b=>a == b
 | .bl a,.int b=>(if a then 1 else 0) == b
 | .int a,.bl b=>a == (if b then 1 else 0)
 | .int a,.int b=>a == b
 | .str a,.str b=>a == b
 | _,_=>false
def uT{A:Around}{s:Shared}{y x:V}{u v:Value}(e:RelV y u)(d:RelV x v)(h:kO y=true)(f:kO x=true):SeqAt.EqAt A s u v (kT y x):=by
 cases y with
 | non=>
  cases e;cases x with
  | non=>cases d;exact SeqAt.EqAt.same _
  | bl b=>cases d;exact SeqAt.EqAt.none_bool b
  | int b=>obtain⟨t,rfl⟩:=d;exact SeqAt.EqAt.none_int b t
  | str b=>obtain⟨t,rfl⟩:=d;exact SeqAt.EqAt.none_str b t
  | _=>exact absurd (show false=true from f) eJ
 | bl a=>
  cases e;cases x with
  | non=>cases d;exact SeqAt.EqAt.bool_none a
  | bl b=>cases d;exact SeqAt.EqAt.bool_bool a b
  | int b=>obtain⟨t,rfl⟩:=d;exact SeqAt.EqAt.bool_int a b t
  | str b=>obtain⟨t,rfl⟩:=d;exact SeqAt.EqAt.bool_str a b t
  | _=>exact absurd (show false=true from f) eJ
 | int a=>
  obtain⟨t',rfl⟩:=e;cases x with
  | non=>cases d;exact SeqAt.EqAt.int_none a t'
  | bl b=>cases d;exact SeqAt.EqAt.int_bool a t' b
  | int b=>obtain⟨t,rfl⟩:=d;exact SeqAt.EqAt.int_int a t' b t
  | str b=>obtain⟨t,rfl⟩:=d;exact SeqAt.EqAt.int_str a t' b t
  | _=>exact absurd (show false=true from f) eJ
 | str a=>
  obtain⟨t',rfl⟩:=e;cases x with
  | non=>cases d;exact SeqAt.EqAt.str_none a t'
  | bl b=>cases d;exact SeqAt.EqAt.str_bool a t' b
  | int b=>obtain⟨t,rfl⟩:=d;exact SeqAt.EqAt.str_int a t' b t
  | str b=>obtain⟨t,rfl⟩:=d;exact SeqAt.EqAt.str_str a t' b t
  | _=>exact absurd (show false=true from f) eJ
 | _=>exact absurd (show false=true from h) eJ
def iK(x:V)(u:Value):Bool:=match u with
 | .none=>kT .non x
 | .bool b=>kT (.bl b) x
 | .int i _=>kT (.int i) x
 | .str z _=>kT (.str z) x
 | _=>false
def NE{x y:V}{u:Value}(r:RelV y u)(f:kO y=true):iK x u=kT y x:=by
 cases y with
 | non=>cases r;rfl
 | bl b=>cases r;rfl
 | int i=>obtain⟨t,rfl⟩:=r;rfl
 | str z=>obtain⟨t,rfl⟩:=r;rfl
 | _=>exact absurd (show false=true from f) eJ
theorem xW{x:V}:∀{xs:List V}{us:List Value},Vals xs us->xs.all kO=true->us.any (iK x)=xs.any λy=>kT y x
 | _,_,.nil,_=>rfl
 | y::xs,u::us,.cons r t,f=>by
  rw[List.all_cons,qY]at f;rw[wT,wT,NE r f.1,xW t f.2]
theorem BH{A:Around}{s:Shared}{x:V}{v:Value}(d:RelV x v)(b:kO x=true):∀{xs:List V}{us:List Value},Vals xs us->xs.all kO=true->∀u∈us,SeqAt.EqAt A s u v<|iK x u
 | _,_,.nil,_=>λu a=>by cases a
 | y::xs,u::us,.cons r t,f=>λe a=>by
  rw[List.all_cons,qY]at f;rcases wp9.mp a with rfl | a
  .rw[NE r f.1];exact uT r d f.1 b
  .exact BH d b t f.2 e a
def iN(x:V)(xs:List V):Bool:=xs.any λy=>kT y x
inductive UX(K:Fq)(neg:Bool)(x y:V)(H:Hp)(Q:VK):Prop
 | mk(p:Addr)(xs:List V)(h1:y=.ref p)(h2:SqL K H p xs\/SqT K H p xs)(h3:kO x=true)(h4:xs.all kO=true)(q:Q (.bl<|if neg then !iN x xs else iN x xs) H):UX K neg x y H Q
def hV(K:Fq)(neg:Bool):R2:=λx y H Q=>UX K neg x y H Q
def uE:cZ X (compareOp .In) (hV X.K false):=by
 intro j s σ H x y v u Q I f i h;obtain⟨p,xs,rfl,a,e,fs,q⟩:=h;cases i;rcases a with a | a
 .obtain⟨its,r,b,hz⟩:=I.list a;refine SeqAt.in_listAt (iK x) b.isList (λw d=>BH f e r fs w<|by simpa using d) ⟨.bl _,H,I,rfl,?_⟩;rw[show its.toArray.any (iK x)=its.any (iK x) by simp,xW r fs];exact q
 .obtain⟨its,r,b,hz⟩:=I.tuple a;refine SeqAt.in_tupleAt (iK x) b (λw d=>BH f e r fs w<|by simpa using d) ⟨.bl _,H,I,rfl,?_⟩;rw[show its.toArray.any (iK x)=its.any (iK x) by simp,xW r fs];exact q
def wF:cZ X (compareOp .NotIn) (hV X.K true):=by
 intro j s σ H x y v u Q I f i h;obtain⟨p,xs,rfl,a,e,fs,q⟩:=h;cases i;rcases a with a | a
 .obtain⟨its,r,b,hz⟩:=I.list a;refine SeqAt.notIn_listAt (iK x) b.isList (λw d=>BH f e r fs w<|by simpa using d) ⟨.bl _,H,I,rfl,?_⟩;rw[show its.toArray.any (iK x)=its.any (iK x) by simp,xW r fs];exact q
 .obtain⟨its,r,b,hz⟩:=I.tuple a;refine SeqAt.notIn_tupleAt (iK x) b (λw d=>BH f e r fs w<|by simpa using d) ⟨.bl _,H,I,rfl,?_⟩;rw[show its.toArray.any (iK x)=its.any (iK x) by simp,xW r fs];exact q
def iW:CallR X (.builtin "len") (λxs H Q=>∃p ys,xs=[.ref p]/\(SqL X.K H p ys\/SqT X.K H p ys)/\Q (.int ↑ys) H):=by
 intro i s σ H xs us Q I r h;obtain⟨p,ys,rfl,a,q⟩:=h;obtain⟨u,rfl,e⟩:=jO r;cases e;have f:=mG;rcases a with a | a
 .obtain⟨its,r',b,hz⟩:=I.list a;have d:=↑r';exact Calls.call_len_list b.isList (by simp only[cT] <;> lia) ⟨.int ↑ys,H,I.tok _,⟨s.toks+1,by rw[cT,d]⟩,q⟩
 .obtain⟨its,r',b,hz⟩:=I.tuple a;have d:=↑r';exact len_tuple b (by simp only[cT] <;> lia) ⟨.int ↑ys,H,I.tok _,⟨s.toks+1,by rw[cT,d]⟩,q⟩
def WU:CallR X (.builtin "len") (λxs H Q=>∃z,xs=[.str z]/\↑z<=sizeLine/\Q (.int ↑z) H):=by
 intro a s σ H xs us Q I r h;obtain⟨z,rfl,hz,q⟩:=h;obtain⟨u,rfl,t,rfl⟩:=jO r;have b:=mG;exact len_str (by lia) ⟨.int ↑z,H,I.tok _,⟨_,rfl⟩,q⟩
def ZY:CallR X (.type "list") (λxs H Q=>∃p ys,xs=[.ref p]/\(SqL X.K H p ys\/SqT X.K H p ys)/\∀l,H l=none->Q (.ref l) (upd H l<|.lst ys)):=by
 intro z s σ H xs us Q I r h;obtain⟨p,ys,rfl,a,q⟩:=h;obtain⟨u,rfl,m⟩:=jO r;cases m;have j:∀(its:List Value),Vals ys its->↑ys<=sizeLine->∀(h':Heap)(c':Nat),(∀b o',s.heap.get? b=some o'->h'.get? b=some o')->
   h'.get? s⁻¹=some {cls:=.type "list",dict:=none,data:=.seq its.toArray c',slots:=#[]}->EP X z σ Q (.ref s⁻¹) {s with heap:=h'}:=λits r' hz h' c' kp e=>
  ⟨.ref s⁻¹,_,I.laid (t':=s.toks) kp (aW _) (show ObjOk X.prog X.w _ h' _ (.lst ys) from ⟨hz,its,c',r',e⟩),rfl,q _<|I.hok.fresh<|aW _⟩
 rcases a with a | a
 .obtain⟨its,r',d,hz⟩:=I.list a;have x:=↑r';obtain⟨o,f,i,n,hd⟩:=d.isList;exact call_list_seq p (.inl rfl) f i hd (λh' c' kp e=>j its r' hz h' c' kp e) (by simp only[cT] <;> lia)
 .obtain⟨its,r',d,hz⟩:=I.tuple a;have x:=↑r';obtain⟨o,f,i,n,hd⟩:=d;exact call_list_seq p (.inr rfl) f i hd (λh' c' kp e=>j its r' hz h' c' kp e) (by simp only[cT] <;> lia)
def gH:CallR X (.type "tuple") (λxs H Q=>∃p ys,xs=[.ref p]/\((SqL X.K H p ys/\∀l,H l=none->Q (.ref l) (upd H l<|.tup ys))\/(SqT X.K H p ys/\Q (.ref p) H))):=by
 intro d s σ H xs us Q I r h;obtain⟨p,ys,rfl,h⟩:=h;obtain⟨u,rfl,i⟩:=jO r;cases i;rcases h with ⟨hq,q⟩ | ⟨hq,q⟩
 .obtain⟨its,r',a,hz⟩:=I.list hq;have m:=↑r';refine call_tuple_list a.isList (λh' kp=>?_) (by simp only[cT] <;> lia);have f:Inv X d σ H {s with heap:=h'}:=I.kept (t':=s.toks) kp;have j:Inv X d σ (upd H h'.objs.size<|.tup ys) {s with heap:=h'.push {cls:=.type "tuple",data:=.seq its.toArray}}:=
   f.laid (t':=s.toks) (λb o e=>bU _ e) (aW _) (show ObjOk X.prog X.w _ _ _ (.tup ys) from ⟨⟨hz,_,dG _ rfl,rfl⟩,its,r',IsTup.new _ _⟩)
  exact⟨.ref h'.objs.size,_,j,rfl,q _<|f.hok.fresh<|aW _⟩
 .obtain⟨its,r',a,hz⟩:=I.tuple hq;exact call_tuple_same a ⟨.ref p,H,I,rfl,q⟩
def MF(K:Fq)(T:String)(x:V)(H:Hp):Prop:=match x with
 | .str _=>T="str"
 | .int _=>T="int"
 | .ref p=>(T="list"/\∃xs,SqL K H p xs)\/(T="tuple"/\∃o,K.lookup p=some o/\o.cls=.type "tuple"/\o.dict=none)\/
   (T="dict"/\((∃kvs,H p=some (.dK kvs))\/∃kvs,H p=some (.dT kvs)))\/(T="set"/\∃S n,H p=some (.set S n))
 | _=>False
def TD{f:List (Addr×Obj)}{σ:St}{H:Hp}{s:Shared}{T:String}{x:V}{v:Value}(I:Inv X f σ H s)(r:RelV x v)(ty:MF X.K T x H):
  s.TypeIs v T/\∀a,v=.ref a->∃ob,s.heap.get? a=some ob/\ob.dict=none:=by
 cases x with
 | str z=>
  obtain⟨t,rfl⟩:=r;cases (show T="str" from ty);exact⟨typeIs_str s z t,λ_ e=>nomatch e⟩
 | int i=>
  obtain⟨t,rfl⟩:=r;cases (show T="int" from ty);exact⟨typeIs_int s i t,λ_ e=>nomatch e⟩
 | ref p=>
  cases r;rcases ty with ⟨rfl,xs,hq⟩ | ⟨rfl,o,hk,hc,hd⟩ | ⟨rfl,hk⟩ | ⟨rfl,S,n,hk⟩
  .obtain⟨its,_,d,_⟩:=I.list hq;refine⟨d.isList.typeIs,λa e=>?_⟩;cases e;obtain⟨o,n,e,c,hd,_⟩:=d;exact⟨o,e,hd⟩
  .refine⟨⟨o,I.kIn p o hk,hc⟩,λa e=>?_⟩;cases e;exact⟨o,I.kIn _ o hk,hd⟩
  .have z:∃o,s.heap.get? p=some o/\o.ExactDict:=by
    rcases hk with ⟨kvs,hk⟩ | ⟨kvs,hk⟩
    .obtain⟨_,_,_,_,o,_,_,e,ex,_⟩:=I.hok p _ hk;exact⟨o,e,ex⟩
    .obtain⟨_,_,_,_,o,_,_,e,ex,_⟩:=I.hok p _ hk;exact⟨o,e,ex⟩
   obtain⟨o,e,ex⟩:=z;refine⟨⟨o,e,ex.1⟩,λa b=>?_⟩;cases b;exact⟨o,e,ex.2.1⟩
  .obtain⟨o,_,_,_,e,ex,_⟩:=I.hok p _ hk;refine⟨⟨o,e,ex.1⟩,λa b=>?_⟩;cases b;exact⟨o,e,ex.2.1⟩
 | _=>exact False.elim ty
def KO(K:Fq)(T:String)(r:V->List V->Hp->VK->Prop)(to:TE):TE:=λσ H Q=>to σ H λx H1=>MF K T x H1/\r x [] H1 Q
inductive IL(K:Fq)(T:String)(r:V->List V->Hp->VK->Prop)(t:TA)(x:V)(σ:List (Option V))(H:Hp)(Q:VK):Prop
 | mk(h:MF K T x H)(q:t σ H λxs H2=>r x xs H2 Q):IL K T r t x σ H Q
def tE(K:Fq)(T:String)(r:V->List V->Hp->VK->Prop)(to:TE)(t:TA):TE:=λσ H Q=>to σ H λx H1=>IL K T r t x σ H1 Q
variable{o e:Expr}{es:List Expr}{to:TE}{t:TA}{name:Str}{apos cpos:Pos}{T id:String}{r:V->List V->Hp->VK->Prop}
def rB(f:PlainAttrs T)(slot:Slot T name id)(n:typeOf (.builtin id)=pure (.type "method_descriptor"))(m:SC X id r)(l:PE X o to)
  (e:attributeBase o name X.env (eval o X.env)=eval o X.env:=by rfl) (q:(apos.endLine == cpos.line)=true:=by rfl):PE X (.Call (.Attribute o name apos) [] [] cpos) (KO X.K T r to):=by
 intro a s σ H Q I h;refine wpAny_Call_method0_late e q<|aU (l a s σ H _ I h) ?_;rintro v i ⟨x,H1,d,b,ty,j⟩;obtain⟨h1,h2⟩:=TD d b ty;exact⟨T,id,f,slot,n,h1,h2,pX rfl<|PySem.evalArgs_none<|m a i σ H1 x [] v [] Q d b .nil j⟩
def eP(j:PlainAttrs T)(slot:Slot T name id)(A:typeOf (.builtin id)=pure (.type "method_descriptor"))(w:SC X id r)(q:PE X o to)(C:PA X (e::es) t)
  (B:attributeBase o name X.env (eval o X.env)=eval o X.env:=by rfl)
  (G:((backTo cpos<|starEach (e::es) X.env).all (λx=>!x.1) && (backToKw cpos<|keywordEach [] X.env).all (λx=>x.1.isSome) && decide (↑(e::es)+↑([]:List Keyword)+(if ([]:List Keyword).isEmpty then 0 else 1)<30))=true:=by rfl)
  (i:(apos.endLine == cpos.line)=true:=by rfl) (hs:starEach (e::es) X.env=(false,eval e X.env)::starEach es X.env:=by rfl) (u:(backTo cpos<|starEach es X.env).any (·.1)=false:=by rfl):
  PE X (.Call (.Attribute o name apos) (e::es) [] cpos) (tE X.K T r to t):=by
 intro a s σ H Q I h;refine wpAny_Call_method_late B G i rfl<|aU (q a s σ H _ I h) ?_;rintro v l ⟨x,H1,f,b,ty,m⟩;obtain⟨h1,h2⟩:=TD f b ty;exists T,id,j,slot,A,h1,h2;have d:=C cpos a l σ H1 _ f m;rw[hs]at d ⊢;refine pX (by show(false || (backTo cpos<|starEach es X.env).any (·.1))=false;rw[u] <;> rfl)<|wW ?_;exact aU d <| by rintro us s2 ⟨vs,H2,z,n,E⟩;exact w a s2 σ H2 x vs v us Q z b n E
end
def EK(X:Cx)(id:String)(r:V->List V->Hp->VK->Prop):Prop:=
 ∀(pins:List (Addr×Obj))(s:Shared)(σ:St)(H:Hp)(x:V)(xs:List V)(v:Value)(us:List Value)(Q:VK),Inv X pins σ H s->RelV x v->Vals xs us->r x xs H Q->
  wpAny (model X.prog X.w) X.A (call (.builtin id)<|v::us) (EP X pins σ Q) X.xe s
def Vals.one:∀{x:V}{us:List Value},Vals [x] us->∃u,us=[u]/\RelV x u
 | _,_,.cons r .nil=>⟨_,rfl,r⟩
def Vals.zero:∀{us:List Value},Vals [] us->us=[]
 | _,.nil=>rfl
theorem Vals.dropLast{xs:List V}{us:List Value}(h:Vals xs us):Vals xs.dropLast us.dropLast:=by
 induction h with
 | nil=>exact .nil
 | cons r t ih=>
  cases t with
  | nil=>exact .nil
  | cons q t'=>exact .cons r ih
theorem Vals.eraseIdx:∀{xs:List V}{us:List Value}(i:Nat),Vals xs us->Vals (xs.eraseIdx i) (us.eraseIdx i)
 | _,_,_,.nil=>.nil
 | _,_,0,.cons _ t=>t
 | _,_,i+1,.cons r t=>.cons r<|Vals.eraseIdx i t
theorem Vals.reverse{xs:List V}{us:List Value}(h:Vals xs us):Vals xs.reverse us.reverse:=by
 induction h with
 | nil=>exact .nil
 | cons r t ih=>rw[DF,DF];exact Vals.append ih<|.cons r .nil
theorem Vals.rep{xs:List V}{us:List Value}(h:Vals xs us):∀k:Nat,Vals (List.replicate k xs).flatten (List.replicate k us).flatten
 | 0=>.nil
 | k+1=>by
  rw[BM,BM,FP,FP];exact Vals.append h<|Vals.rep h k
def Ct{α:Type}(l:List α):l.eraseIdx (↑l-1)=l.dropLast:=by
 induction l with
 | nil=>rfl
 | cons a r ih=>
  cases r with
  | nil=>rfl
  | cons b r=>
   have e:↑(a::b::r)-1=(↑(b::r)-1)+1:=by
    have h1:↑(a::b::r)=↑r+2:=rfl;have h2:↑(b::r)=↑r+1:=rfl;lia
   rw[e,List.eraseIdx_cons_succ,ih]
   all_goals rfl
theorem PY{α:Type}:∀(l:List α)(i:Nat),↑(l.eraseIdx i)<=↑l
 | [],_=>aW _
 | _::_,0=>nC _
 | _::r,i+1=>Nat.succ_le_succ<|PY r i
theorem SN(its:List Value):∀(k:Nat)(a:List Value),
  List.foldl (λb f=>b++f) a.toArray (List.replicate k its.toArray)=(a++(List.replicate k its).flatten).toArray
 | 0,a=>by simp
 | k+1,a=>by
  have e:a.toArray++its.toArray=(a++its).toArray:=by simp
  have d:(a++its)++(List.replicate k its).flatten=a++(List.replicate (k+1) its).flatten:=by
   rw[BM,FP,gU]
  rw[<-d,<-SN its k (a++its),<-e,BM,List.foldl_cons]
section
variable{pins:List (Addr×Obj)}{σ:St}{H:Hp}{s:Shared}{l b:Addr}{xs ys zs:List V}
def Inv.lset{its its':List Value}{n:Nat}{f:Array Value->Array Value}{t':Nat}(I:Inv X pins σ H s)(i:H l=some (.lst xs))
  (e:s.heap.get? l=some {cls:=.type "list",data:=.seq its.toArray n}) (d:f its.toArray=its'.toArray) (a:Vals ys its') (hz:↑ys<=sizeLine):
  Inv X pins σ (upd H l<|.lst ys) {s with heap:=s.heap.update l<|Obj.mapSeq f,toks:=t'}:=by
 have q:=PySem.IsL.update e f;rw[d]at q;refine I.write (x:=l) (e:=l) (by rw[i];exact trivial) (.inl rfl) (λj u b h=>(qL s.heap (Obj.mapSeq f)<|bK b).trans h) ⟨_,q⟩ ?_;exact⟨hz,its',_,a,q⟩
def Inv.lnew{its:List Value}{t':Nat}(I:Inv X pins σ H s)(a:Vals ys its)(hz:↑ys<=sizeLine):
  Inv X pins σ (upd H s⁻¹<|.lst ys) {s with heap:=s.heap.push {cls:=.type "list",data:=.seq its.toArray},toks:=t'}:=
 I.laid (λ_ _ q=>bU _ q) (aW _) ⟨hz,its,0,a,dG _ rfl⟩
theorem Inv.fresh(I:Inv X pins σ H s):H s⁻¹=none:=I.hok.fresh<|aW _
def Inv.lstM(I:Inv X pins σ H s)(a:H l=some (.lst xs)):↑xs<=sizeLine/\∃(its:List Value)(n:Nat),Vals xs its/\↑xs=↑its/\s.heap.get? l=some {cls:=.type "list",data:=.seq its.toArray n}:=by
 obtain⟨z,its,n,r,e⟩:=I.hok l _ a;exact⟨z,its,n,r,↑r,e⟩
def UJ{n:Nat}(h:n<=sizeLine):Builtin.List.listTooLong n=false:=by
 unfold Builtin.List.listTooLong;exact gR (by lia)
end
inductive zP(x:V)(vs:List V)(H:Hp)(Q:VK):Prop
 | mk(l:Addr)(xs:List V)(y:V)(h1:x=.ref l)(h2:vs=[y])(h3:H l=some (.lst xs))(h4:↑xs<sizeLine)(q:Q .non (upd H l<|.lst<|xs++[y])):zP x vs H Q
def wY:V->List V->Hp->VK->Prop:=λx vs H Q=>zP x vs H Q
def fG:EK X "list.append" wY:=by
 intro i s σ H x vs v us Q I b d h;obtain⟨l,xs,y,rfl,rfl,a,hz,q⟩:=h;cases b;obtain⟨u,rfl,f⟩:=d.one;obtain⟨z,its,n,r,hl,e⟩:=I.lstM a;refine vY F.slot_list_append ⟨_,e,rfl⟩ F.entry_list_append (F.args_list_append_2 _ _) (PySem.list_append l its.toArray n u<|by rw[cT];lia) ⟨e,?_⟩;refine⟨.non,_,I.lset (its':=its++[u]) a e (by simp) (r.append<|.cons f .nil) ?_,rfl,q⟩;rw[bH,dU];lia
def WP:V->List V->Hp->VK->Prop:=λx vs H Q=>∃l b xs zs,x=.ref l/\vs=[.ref b]/\H l=some (.lst xs)/\H b=some (.lst zs)/\↑xs+↑zs<=sizeLine/\Q .non (upd H l<|.lst<|xs++zs)
def Bq:EK X "list.extend" WP:=by
 intro C s σ H x vs v us Q I j o h;obtain⟨l,b,xs,zs,rfl,rfl,d,f,hz,q⟩:=h;cases j;obtain⟨u,rfl,B⟩:=o.one;cases B;obtain⟨z,its,n,r,hl,e⟩:=I.lstM d;obtain⟨G,a,A,i,E,w⟩:=I.lstM f;have hsz:its.toArray.size+a.toArray.size<=sizeLine:=by rw[cT,cT];lia
 have m:¬(!its.toArray.isEmpty && Builtin.List.listTooLong (its.toArray.size+a.toArray.size))=true:=by
  rw[UJ hsz,Bool.and_false];exact eJ
 refine vY F.slot_list_extend ⟨_,e,rfl⟩ F.entry_list_extend (F.args_list_extend_2 _ _)
  (AutoSeq1.list_extend_list_list_0 l its.toArray n b a.toArray A m (by rw[cT];lia)<|by lia) ⟨e,w,?_⟩
 refine⟨.non,_,I.lset (its':=its++a) d e (by simp) (r.append i) ?_,rfl,q⟩;rw[bH];lia
def GM:V->List V->Hp->VK->Prop:=λx vs H Q=>∃l xs y,x=.ref l/\vs=[]/\H l=some (.lst xs)/\xs[↑xs-1]?=some y/\Q y (upd H l<|.lst xs.dropLast)
def rX:EK X "list.pop" GM:=by
 intro w s σ H x vs v us Q I d j h;obtain⟨l,xs,y,rfl,rfl,a,m,q⟩:=h;cases d;have b:=j.zero;subst b;obtain⟨z,its,n,r,hl,e⟩:=I.lstM a;obtain⟨u,f,o⟩:=r.get m;have i:its.toArray[its.toArray.size-1]?=some u:=by
  show its.toArray[↑its-1]?=some u;rw[<-Array.getElem?_toList,<-hl];exact f
 refine vY F.slot_list_pop ⟨_,e,rfl⟩ F.entry_list_pop (F.args_list_pop_1 _) (MeetsSeq.list_pop_last l its.toArray n u i<|by rw[cT];lia) ⟨e,?_⟩;refine⟨y,_,I.lset (its':=its.dropLast) a e ?_ r.dropLast ?_,o,q⟩
 .show its.toArray.eraseIdxIfInBounds (its.toArray.size-1)=its.dropLast.toArray;rw[cT,List.eraseIdxIfInBounds_toArray,Ct]
 .rw[List.length_dropLast];lia
def JG:V->List V->Hp->VK->Prop:=λx vs H Q=>∃l xs i k y,x=.ref l/\vs=[.int i]/\H l=some (.lst xs)/\-(2 ^ 63)<=i/\i<2 ^ 63/\seqIndex? i ↑xs=some k/\xs[k]?=some y/\Q y (upd H l<|.lst<|xs.eraseIdx k)
def OF:EK X "list.pop" JG:=by
 intro B s σ H x vs v us Q I d f h;obtain⟨l,xs,i,k,y,rfl,rfl,a,h1,h2,j,o,q⟩:=h;cases d;obtain⟨u,rfl,A⟩:=f.one;obtain⟨t,rfl⟩:=A;obtain⟨z,its,n,r,hl,e⟩:=I.lstM a;obtain⟨w,b,m⟩:=r.get o;refine vY F.slot_list_pop ⟨_,e,rfl⟩ F.entry_list_pop (F.args_list_pop_2 _ _)
  (MeetsSeq.list_pop_at l its.toArray n i t k w (fitsIndex_both h1 h2) (by rw[cT,<-hl];exact j) (by rw[<-Array.getElem?_toList];exact b)<|by rw[cT];lia) ⟨e,?_⟩
 refine⟨y,_,I.lset (its':=its.eraseIdx k) a e ?_ (r.eraseIdx k) ?_,m,q⟩
 .show its.toArray.eraseIdxIfInBounds k=(its.eraseIdx k).toArray;rw[List.eraseIdxIfInBounds_toArray]
 .have:=PY xs k;lia
def yI:R2:=λx y H Q=>∃l b xs zs,x=.ref l/\y=.ref b/\H l=some (.lst xs)/\H b=some (.lst zs)/\↑xs+↑zs<=sizeLine/\∀p,H p=none->Q (.ref p) (upd H p<|.lst<|xs++zs)
def wE:cZ X (binaryOp .Add) yI:=by
 intro B s σ H x y v u Q I m d h;obtain⟨l,b,xs,zs,rfl,rfl,j,f,hz,q⟩:=h;cases m;cases d;obtain⟨z,its,n,r,hl,e⟩:=I.lstM j;obtain⟨C,a,E,i,A,w⟩:=I.lstM f;refine PySem.P.add_list e w ?_ (by rw[cT,cT];lia);have o:its.toArray++a.toArray=(its++a).toArray:=by simp
 rw[o];exact⟨.ref _,_,I.lnew (t':=s.toks) (r.append i) (by rw[bH];lia),rfl,q _ I.fresh⟩
def IY:R2:=λx y H Q=>∃l k xs,x=.ref l/\y=.int k/\H l=some (.lst xs)/\-(2 ^ 63)<=k/\k<2 ^ 63/\↑xs*k.toNat<=sizeLine/\
 ∀p,H p=none->Q (.ref p) (upd H p<|.lst (List.replicate k.toNat xs).flatten)
def YZ{α:Type}(xs:List α)(k:Nat):(List.replicate k xs).flatten.length=k*↑xs:=by
 induction k with
 | zero=>simp
 | succ k ih=>rw[BM,FP,bH,ih,Nat.succ_mul,Nat.add_comm]
def uX:cZ X (binaryOp .Mult) IY:=by
 intro G s σ H x y v u Q I j i h;obtain⟨l,k,xs,rfl,rfl,B,h1,h2,hz,q⟩:=h;cases j;obtain⟨t,rfl⟩:=i;obtain⟨z,its,n,r,hl,e⟩:=I.lstM B;have f:its.toArray.size*k.toNat<=sizeLine:=by rw[cT,<-hl];exact hz
 have E:¬its.toArray.size*k.toNat > (2 ^ 63-1) / 8:=by
  have:(sizeLine:Nat)<=(2 ^ 63-1) / 8:=by decide
  lia
 have A:¬(!Builtin.List.listFitsIndex k)=true:=by
  rw[fitsIndex_both h1 h2];exact eJ
 have w:¬Builtin.List.listTooLong (its.toArray.size*k.toNat)=true:=by
  rw[UJ f];exact eJ
 have o:List.foldl (λd b=>d++b) #[] (List.replicate (if its.toArray.isEmpty=true then 0 else k.toNat) its.toArray)=(List.replicate k.toNat its).flatten.toArray:=by
  have C:∀m:Nat,List.foldl (λd b=>d++b) #[] (List.replicate m its.toArray)=(List.replicate m its).flatten.toArray:=λm=>by
   have:=SN its m [];rw[wJ]at this;exact this
  rw[C];cases its with
  | nil=>simp
  | cons a r'=>rw[aZ<|by simp]
 refine wpAny_binaryOp_repeat_ref (T:="list") (U:="int") (by decide) ⟨_,e,rfl⟩ (λs'=>typeIs_int s' k t) noFill_list_mul F.fills_int_mul F.slot_int_rmul repeat_list F.slot_int_index.lookup
  (vY F.slot_int_rmul (typeIs_int s k t) F.entry_int_rmul (F.args_int_rmul_2 _ _) (int___rmul___int_list k t l its.toArray n) ⟨e,rfl,⟨_,e,rfl⟩,vY F.slot_list_mul ⟨_,e,rfl⟩ F.entry_list_mul (F.args_list_mul_2 _ _) (AutoListH.list___mul___list_int_3 l its.toArray n k t A E w) ⟨e,?_⟩⟩)
 rw[o];exact⟨.ref _,_,I.lnew (t':=s.toks) (r.rep k.toNat) (by rw[YZ,Nat.mul_comm];exact hz),rfl,q _ I.fresh⟩
section
variable{κ:Type}[DecidableEq κ]
def aG(kvs:List (κ×V))(k:κ):Option V:=(kvs.find? λkv=>decide<|kv.1=k).map (·.2)
def aO(kvs:List (κ×V))(k:κ)(v:V):List (κ×V):=
 if (kvs.any λkv=>decide<|kv.1=k)=true then kvs.map (λkv=>if kv.1=k then(kv.1,v) else kv) else kvs++[(k,v)]
def jT{p:κ×V}{r:List (κ×V)}{k:κ}(e:p.1=k):aG (p::r) k=some p.2:=by simp[aG,nN,e]
def jX{p:κ×V}{r:List (κ×V)}{k:κ}(e:¬p.1=k):aG (p::r) k=aG r k:=by simp[aG,nN,e]
theorem oU(k:κ):∀kvs:List (κ×V),(kvs.any λa=>decide<|a.1=k)=(aG kvs k).isSome
 | []=>rfl
 | p::r=>by
  rw[wT]
  by_cases e:p.1=k
  .simp only[jT e,eW e,Bool.true_or,Option.isSome_some]
  .rw[jX e,gR e,Bool.false_or];exact oU k r
theorem VE(k j:κ)(y:V):∀kvs:List (κ×V),aG (kvs.map λa=>if a.1=k then(a.1,y) else a) j=(aG kvs j).map λx=>if j=k then y else x
 | []=>rfl
 | p::r=>by
  have b:=VE k j y r;rw[fS]
  by_cases h:p.1=k
  .rw[bC h]
   by_cases e:p.1=j
   .rw[jT (p:=(p.1,y)) e,jT e,Option.map_some,bC<|e.symm.trans h]
   .rw[jX (p:=(p.1,y)) e,jX e,b]
  .rw[aZ h]
   by_cases e:p.1=j
   .rw[jT (p:=p) e,jT e,Option.map_some,aZ λz=>h<|e.trans z]
   .rw[jX (p:=p) e,jX e,b]
theorem OQ(k j:κ)(y:V):∀kvs:List (κ×V),aG kvs k=none->aG (kvs++[(k,y)]) j=if j=k then some y else aG kvs j
 | [],_=>by
  by_cases e:k=j
  .rw[bC e.symm];exact jT (p:=(k,y)) e
  .rw[aZ λz=>e z.symm];exact jX (p:=(k,y)) e
 | p::r,hn=>by
  rw[List.cons_append];have a:¬p.1=k:=λz=>by rw[jT z]at hn;cases hn
  rw[jX a]at hn;have b:=OQ k j y r hn
  by_cases e:p.1=j
  .rw[jT e,jT e,aZ λz=>a<|e.trans z]
  .rw[jX e,jX e,b]
def jI(kvs:List (κ×V))(k j:κ)(y:V):aG (aO kvs k y) j=if j=k then some y else aG kvs j:=by
 unfold aO
 by_cases a:(kvs.any λd=>decide<|d.1=k)=true
 .rw[bC a,VE];rw[oU]at a
  by_cases e:j=k
  .obtain⟨x,b⟩:=Option.isSome_iff_exists.mp a;rw[bC e,e,b,Option.map_some,bC rfl]
  .rw[aZ e];cases aG kvs j with
   | none=>rfl
   | some x=>rw[Option.map_some,aZ e]
 .rw[aZ a];refine OQ k j y kvs ?_;rw[oU]at a;cases q:aG kvs k with
  | none=>rfl
  | some x=>rw[q]at a;exact(a rfl).elim
def kD(kvs:List (κ×V))(k:κ)(v:V):↑(aO kvs k v)<=↑kvs+1:=by
 unfold aO
 split
 .rw[aK];lia
 .rw[bH,cJ,jB];lia
def FS{kvs:List (κ×V)}{k:κ}(v:V)(h:aG kvs k=none):aO kvs k v=kvs++[(k,v)]:=by
 unfold aO;rw[oU,h];exact aZ (by decide)
def RelO.isSome_eq{o:Option V}{u:Option Value}(r:RelO o u):o.isSome=u.isSome:=by
 cases o with
 | none=>cases u with
  | none=>rfl
  | some _=>exact(show False from r).elim
 | some _=>cases u with
  | none=>exact(show False from r).elim
  | some _=>rfl
theorem RelO.getD{o:Option V}{u:Option Value}{d:V}{d':Value}(r:RelO o u)(rd:RelV d d'):RelV (o.getD d) (u.getD d'):=by
 cases o with
 | none=>cases u with
  | none=>exact rd
  | some _=>exact(show False from r).elim
 | some _=>cases u with
  | none=>exact(show False from r).elim
  | some _=>exact r
def KV.val{kvs:List (κ×V)}{vs:List (κ×Value)}(r:KV kvs vs)(k:κ):RelO (aG kvs k) (valueAt vs k):=by
 unfold KV at r
 induction r with
 | nil=>exact gD
 | @cons p q ps qs h t ih=>
  obtain⟨h1,h2⟩:=h
  by_cases e:p.1=k
  .have a:q.1=k:=h1.symm.trans e;have b:valueAt (q::qs) k=some q.2:=by simp[valueAt,nN,a]
   rw[jT e,b];exact h2
  .have a:¬q.1=k:=λz=>e<|h1.trans z;have b:valueAt (q::qs) k=valueAt qs k:=by simp[valueAt,nN,a]
   rw[jX e,b];exact ih
theorem KV.any{kvs:List (κ×V)}{vs:List (κ×Value)}(r:KV kvs vs)(k:κ):(kvs.any λa=>decide<|a.1=k)=vs.any λa=>decide (a.1=k):=by
 unfold KV at r
 induction r with
 | nil=>rfl
 | cons h t ih=>rw[wT,wT,ih,h.1]
def KV.repl{kvs:List (κ×V)}{vs:List (κ×Value)}(r:KV kvs vs)(k:κ){y:V}{u:Value}(b:RelV y u):
  KV (kvs.map λa=>if a.1=k then(a.1,y) else a) (vs.map λa=>if a.1=k then(a.1,u) else a):=by
 unfold KV at r ⊢
 induction r with
 | nil=>exact .nil
 | @cons p q ps qs h t ih=>
  rw[fS,fS];refine .cons ?_ ih;obtain⟨h1,h2⟩:=h
  by_cases e:p.1=k
  .rw[bC e,bC<|h1.symm.trans e];exact⟨h1,b⟩
  .rw[aZ e,aZ λz=>e<|h1.trans z];exact⟨h1,h2⟩
def KV.put{kvs:List (κ×V)}{vs:List (κ×Value)}(r:KV kvs vs)(k:κ){y:V}{u:Value}(a:RelV y u):KV (aO kvs k y) (stored vs k u):=by
 unfold aO stored;rw[r.any k]
 by_cases e:(vs.any λb=>decide<|b.1=k)=true
 .rw[bC e,bC e];exact r.repl k a
 .rw[aZ e,aZ e];exact Paired.snoc r ⟨rfl,a⟩
theorem KV.length{kvs:List (κ×V)}{vs:List (κ×Value)}(r:KV kvs vs):↑kvs=↑vs:=Paired.length r
end
def jS{P:Program}{w:World}{k:aF}{u:Value}(r:RelV (kV k) u):(cI P w).is k u=true:=by
 cases k with
 | inl i=>obtain⟨t,e⟩:=(show ∃t,u=Value.int i t from r);subst e;exact VZ P w i t
 | inr x=>obtain⟨t,e⟩:=(show ∃t,u=Value.str x t from r);subst e;exact Ah P w x t
theorem LM{P:Program}{w:World}:∀{ks:List aF}{us:List Value},Vals (ks.map kV) us->ItemsAre (cI P w) ks us
 | [],_,r=>by rw[List.map_nil]at r;cases r;exact .nil
 | k::ks,_,r=>by
  rw[fS]at r;cases r with
  | cons h t=>exact .cons (jS h)<|LM t
abbrev KT(H:Hp):List (List aF×V)->List (List aF×Addr×Value)->Prop:=Paired λp q=>p.1=q.1/\H q.2.1=some (.tup<|p.1.map kV)/\RelV p.2 q.2.2
def KT.val{H:Hp}{kvs:List (List aF×V)}{xs:List (List aF×Addr×Value)}(r:KT H kvs xs)(k:List aF):RelO (aG kvs k) ((atKey xs k).map (·.2)):=by
 induction r with
 | nil=>exact gD
 | @cons p q ps qs h t ih=>
  obtain⟨h1,_,h2⟩:=h
  by_cases e:p.1=k
  .have a:q.1=k:=h1.symm.trans e;have b:atKey (q::qs) k=some q.2:=by simp[atKey,nN,a]
   rw[jT e,b];exact h2
  .have a:¬q.1=k:=λz=>e<|h1.trans z;have b:atKey (q::qs) k=atKey qs k:=by simp[atKey,nN,a]
   rw[jX e,b];exact ih
def KT.repl{H:Hp}{kvs:List (List aF×V)}{xs:List (List aF×Addr×Value)}(r:KT H kvs xs)(k:List aF){y:V}{u:Value}(b:RelV y u):
  KT H (kvs.map λa=>if a.1=k then(a.1,y) else a) (xs.map<|putAt k u):=by
 induction r with
 | nil=>exact .nil
 | @cons p q ps qs h t ih=>
  rw[fS,fS];refine .cons ?_ ih;obtain⟨h1,h2,d⟩:=h;unfold putAt
  by_cases e:p.1=k
  .rw[bC e,bC<|h1.symm.trans e];exact⟨h1,h2,b⟩
  .rw[aZ e,aZ λz=>e<|h1.trans z];exact⟨h1,h2,d⟩
def KT.put{H:Hp}{kvs:List (List aF×V)}{xs:List (List aF×Addr×Value)}(r:KT H kvs xs)(k:List aF){b:Addr}{y:V}{u:Value}(d:H b=some (.tup<|k.map kV))(a:RelV y u):
  KT H (aO kvs k y) (storedH xs k b u):=by
 have e:(kvs.any λf=>decide<|f.1=k)=(atKey xs k).isSome:=by
  rw[oU,(r.val k).isSome_eq,yN]
 unfold aO storedH;rw[e]
 by_cases q:(atKey xs k).isSome=true
 .rw[bC q,bC q];exact r.repl k a
 .rw[aZ q,aZ q];exact Paired.snoc r ⟨rfl,d,a⟩
def KT.keeps{H H':Hp}{kvs:List (List aF×V)}{xs:List (List aF×Addr×Value)}(r:KT H kvs xs)(a:∀b ys,H b=some (.tup ys)->H' b=some (.tup ys)):KT H' kvs xs:=
 Paired.mapP r λ_ _ z=>⟨z.1,a _ _ z.2.1,z.2.2⟩
section
variable{P:Program}{w:World}{H:Hp}{h:Heap}{a:Addr}
def nD{u:HO}(ok:HOk P w H h)(e:Rd H a u):ObjOk P w H h a u:=e.ok ok
def kR{kvs:List (aF×V)}(ok:HOk P w H h)(e:Rd H a (.dK kvs)):↑kvs<=sizeLine/\(a == sysModules)=false/\∃vs,KV kvs vs/\h.DictOf (cI P w) a vs:=
 show ObjOk P w H h a (.dK kvs) from nD ok e
def xL{kvs:List (aF×V)}(ok:HOk P w H h)(e:H a=some (.dK kvs)):↑kvs<=sizeLine/\(a == sysModules)=false/\∃vs,KV kvs vs/\h.DictOf (cI P w) a vs:=kR ok<|.inl e
def oN{ks:List aF}(ok:HOk P w H h)(e:H a=some (.tup<|ks.map kV)):(tupleKind<|cI P w).is h ks a:=by
 obtain⟨_,its,r,o,h1,h2,n,b⟩:=(show ObjOk P w H h a (.tup<|ks.map kV) from ok a _ e);exact⟨o,its.toArray,n,h1,h2,b,by simpa using LM r⟩
def pH{kvs:List (List aF×V)}(ok:HOk P w H h)(e:Rd H a (.dT kvs)):↑kvs<=sizeLine/\(a == sysModules)=false/\
  ∃xs,KT H kvs xs/\h.DictOfH (tupleKind<|cI P w) a xs:=by
 obtain⟨z,y,xs,r,o,es,ep,h1,h2,f,i,d⟩:=(show ObjOk P w H h a (.dT kvs) from nD ok e);refine⟨z,y,xs,r,o,es,ep,h1,h2,f,i,λx b=>?_,d⟩;have all:∀{l:List (List aF×V)}{m:List (List aF×Addr×Value)},KT H l m->∀x∈m,(tupleKind<|cI P w).is h x.1 x.2.1:=by
  intro l m q
  induction q with
  | nil=>intro x b;exact nomatch b
  | @cons p q ps qs hq t ih=>
   intro x b;rcases wp9.mp b with e | b
   .subst e;exact oN ok (by rw[<-hq.1];exact hq.2.1)
   .exact ih x b
 exact all r x b
def nA{kvs:List (List aF×V)}(ok:HOk P w H h)(e:H a=some (.dT kvs)):↑kvs<=sizeLine/\(a == sysModules)=false/\
  ∃xs,KT H kvs xs/\h.DictOfH (tupleKind<|cI P w) a xs:=pH ok<|.inl e
end
def DGet(H:Hp)(a:Addr)(y:V)(r:Option V):Prop:=
 (∃kvs k,Rd H a (.dK kvs)/\y=kV k/\r=aG kvs k)\/∃kvs k b,Rd H a (.dT kvs)/\y=.ref b/\H b=some (.tup<|k.map kV)/\r=aG kvs k
def DPut(H:Hp)(a:Addr)(y v:V)(H':Hp):Prop:=
 (∃kvs k,H a=some (.dK kvs)/\y=kV k/\↑kvs<sizeLine/\H'=upd H a (.dK<|aO kvs k v))\/
 ∃kvs k b,H a=some (.dT kvs)/\y=.ref b/\H b=some (.tup<|k.map kV)/\↑kvs<sizeLine/\H'=upd H a (.dT<|aO kvs k v)
theorem DGet.k{H:Hp}{a:Addr}{kvs:List (aF×V)}{k:aF}(e:H a=some (.dK kvs)):DGet H a (kV k) (aG kvs k):=.inl ⟨kvs,k,.inl e,rfl,rfl⟩
def DGet.t{H:Hp}{a b:Addr}{kvs:List (List aF×V)}{k:List aF}(e:H a=some (.dT kvs))(d:H b=some (.tup<|k.map kV)):DGet H a (.ref b) (aG kvs k):=.inr ⟨kvs,k,b,.inl e,rfl,d,rfl⟩
theorem DPut.k{H:Hp}{a:Addr}{kvs:List (aF×V)}{k:aF}{v:V}(e:H a=some (.dK kvs))(hl:↑kvs<sizeLine):DPut H a (kV k) v (upd H a<|.dK<|aO kvs k v):=.inl ⟨kvs,k,e,rfl,hl,rfl⟩
def DPut.t{H:Hp}{a b:Addr}{kvs:List (List aF×V)}{k:List aF}{v:V}(e:H a=some (.dT kvs))(d:H b=some (.tup<|k.map kV))(hl:↑kvs<sizeLine):
  DPut H a (.ref b) v (upd H a<|.dT<|aO kvs k v):=.inr ⟨kvs,k,b,e,rfl,d,hl,rfl⟩
section
variable{pins:List (Addr×Obj)}{σ:St}{H:Hp}{s:Shared}{a:Addr}{y v:V}{u r:Value}{o:Option V}{A:Around}{E:Vp}
def Inv.big(I:Inv X pins σ H s):sysModules<s⁻¹:=by
 have h:mainGlobals<s⁻¹:=(I.mod.glob.keeps I.bk).lt;exact gQ (by decide) h
def Cl{Q:Vp}(r:A.units+1<cLine)(I:Inv X pins σ H s)(g:DGet H a y (some v))(n:RelV y u)(h:∀d s',Inv X pins σ H s'->RelV v d->Q d s'):
  wpAny (model X.prog X.w) A (getItem (.ref a) u) Q E s:=by
 rcases g with ⟨kvs,k,e,ey,l⟩ | ⟨kvs,k,b,e,ey,eb,l⟩
 .subst ey;obtain⟨z,hd,vs,j,i⟩:=kR I.hok e;obtain⟨d,f,m⟩:=RelO.some_of (v:=v) (o:=valueAt vs k) (by rw[l];exact j.val k);exact wpAny_getItem_of (jS n) i.mapOf f<|h d _ (I.tok _) m
 .subst ey;cases (show u=Value.ref b from n);obtain⟨z,hd,xs,j,i⟩:=pH I.hok e;obtain⟨d,f,m⟩:=RelO.some_of (v:=v) (o:=(atKey xs k).map (·.2)) (by rw[l];exact j.val k);obtain⟨p,hp,q⟩:=wq8.mp f;refine wpAny_getItem_heap (qO r) (oN I.hok eb) i hp ?_;rw[q];exact h d _ (I.tok _) m
def KR{Q:Vp}(j:A.units+1<cLine)(I:Inv X pins σ H s)(g:DGet H a y o)(i:RelV y u)(h:∀s',Inv X pins σ H s'->Q (.bool o.isSome) s'):
  wpAny (model X.prog X.w) A (compareOp .In u<|.ref a) Q E s:=by
 rcases g with ⟨kvs,k,e,ey,l⟩ | ⟨kvs,k,b,e,ey,eb,l⟩
 .subst ey;obtain⟨z,hd,vs,f,d⟩:=kR I.hok e;refine wpAny_in_of (jS i) hd d.mapOf ?_;rw[<-(f.val k).isSome_eq,<-l];exact h _<|I.tok _
 .subst ey;cases (show u=Value.ref b from i);obtain⟨z,hd,xs,f,d⟩:=pH I.hok e;refine wpAny_in_heap (qO j) (oN I.hok eb) hd d ?_;have q:=(f.val k).isSome_eq;rw[yN]at q;rw[<-q,<-l];exact h _<|I.tok _
def WK{Q:Vp}(j:A.units+1<cLine)(I:Inv X pins σ H s)(g:DGet H a y o)(i:RelV y u)(h:∀s',Inv X pins σ H s'->Q (.bool<|!o.isSome) s'):
  wpAny (model X.prog X.w) A (compareOp .NotIn u<|.ref a) Q E s:=by
 rcases g with ⟨kvs,k,e,ey,l⟩ | ⟨kvs,k,b,e,ey,eb,l⟩
 .subst ey;obtain⟨z,hd,vs,f,d⟩:=kR I.hok e;refine wpAny_notIn_of (jS i) hd d.mapOf ?_;rw[<-(f.val k).isSome_eq,<-l];exact h _<|I.tok _
 .subst ey;cases (show u=Value.ref b from i);obtain⟨z,hd,xs,f,d⟩:=pH I.hok e;refine wpAny_notIn_heap (qO j) (oN I.hok eb) hd d ?_;have q:=(f.val k).isSome_eq;rw[yN]at q;rw[<-q,<-l];exact h _<|I.tok _
def tQ{h':Heap}{t':Nat}{d:HO}(I:Inv X pins σ H s)(f:BV (H a))(hs:Heap.SameBut a s.heap h')(he:∃q,h'.get? a=some q)(new:ObjOk X.prog X.w (upd H a d) h' a d):
  Inv X pins σ (upd H a d) {s with heap:=h',toks:=t'}:=
 I.write (x:=a) (e:=a) f (.inl rfl) (λb q h z=>(hs.2 b h).trans z) he new
def EO{P:Program}{w:World}{H':Hp}{h':Heap}{kvs:List (aF×V)}{vs:List (aF×Value)}(z:↑kvs<=sizeLine)(hd:(a == sysModules)=false)(d:KV kvs vs)(b:h'.DictOf (cI P w) a vs):
  ObjOk P w H' h' a (.dK kvs):=⟨z,hd,vs,d,b⟩
def Cc{H':Hp}{Q:Unit->Shared->Prop}(B:A.units+1<cLine)(I:Inv X pins σ H s)(g:DPut H a y v H')(m:RelV y u)(o:RelV v r)(h:∀s',Inv X pins σ H' s'->Q () s'):
  wpAny (model X.prog X.w) A (setItem (.ref a) u r) Q E s:=by
 rcases g with ⟨kvs,k,e,ey,l,eH⟩ | ⟨kvs,k,b,e,ey,eb,l,eH⟩
 .subst ey eH;obtain⟨z,hd,vs,d,j⟩:=xL I.hok e;have hz:↑vs<=sizeLine:=by rw[<-↑d];exact z
  have hl:↑(aO kvs k v)<=sizeLine:=by have:=kD kvs k v;lia
  refine wpAny_setItem_pairs (hsz:=hz) (jS m) j λh' f hs=>h _ ?_;have he:∃q,h'.get? a=some q:=let ⟨q,_,_,i,_⟩:=f;⟨q,i⟩
  exact tQ I (by rw[e];exact gD) hs he<|EO hl hd (d.put k o) f
 .subst ey eH;cases (show u=Value.ref b from m);obtain⟨z,hd,xs,d,j⟩:=nA I.hok e;have hz:↑xs<=sizeLine:=by rw[<-Paired.length d];exact z
  have hl:↑(aO kvs k v)<=sizeLine:=by have:=kD kvs k v;lia
  refine wpAny_setItem_heap (hsz:=hz) (qO B) (oN I.hok eb) j λh' f hs=>h _ ?_;obtain⟨q,es,ep,i,h2,G,C,_,x⟩:=f;refine tQ I (by rw[e];exact gD) hs ⟨q,i⟩ ⟨hl,hd,_,(d.put k eb o).keeps λc ys n=>?_,q,es,ep,i,h2,G,C,x⟩;rw[aC<|pQ n e λz=>nomatch z];exact n
end
section
variable{pins:List (Addr×Obj)}{σ:St}{H:Hp}{s:Shared}{a:Addr}{kvs:List (aF×V)}{k:aF}{u:Value}{A:Around}{E:Vp}
end
def lZ(i:Expr):Prop:=∀ov iv,subscripted i false ov iv=operate [ov,iv] (getItem ov iv)
def KD{prog:Program}{w:World}{A:Around}{E:Vp}{s:Shared}{env:Env}{value a:Expr}{pos:Pos}{T id:String}{Q:Vp}
  (hl:typeLookup (.type T) "__getitem__"=pure (some<|.builtin id)) (hs:lZ a)
  (h:wpAny (model prog w) A (eval value env) (λo j=>wpAny (model prog w) A (eval a env) (λi b=>b.TypeIs o T/\wpAny (model prog w) A (getItem o i) Q E b) E j) E s):
  wpAny (model prog w) A (eval (.Subscript value a pos) env) Q E s:=by
 refine Subscript_<|fV h (λo j m=>fV m (λi b e=>?_) λ_ _ x=>x) λ_ _ x=>x;obtain⟨l,e⟩:=e;unfold subscriptTail;refine aJ ?_;rw[getitemInPython_of_ne l.not_modules];refine aJ<|nP l hl ?_;have d:wpAny (model prog w) A (subscripted a false o i) (λr f=>wpAny (model prog w) A (letTemporaryGo value o r >>= λ_=>pure r) Q E f) E b:=by
  rw[hs o i];exact wpAny_operating<|fV e (λr f n=>aJ<|wpAny_letTemporaryGo<|bJ n) λ_ _ x=>x
 first
  | exact bJ (aJ d)
  | exact aJ (bJ<|aJ d)
  | exact aJ d
def Co{X:Cx}{f:List (Addr×Obj)}{σ:St}{H:Hp}{s:Shared}{a:Addr}{y:V}{o:Option V}(I:Inv X f σ H s)(g:DGet H a y o):s.TypeIs (.ref a) "dict":=by
 rcases g with ⟨kvs,k,e,_,_⟩ | ⟨kvs,k,b,e,_,_,_⟩
 .obtain⟨_,_,vs,_,d⟩:=kR I.hok e;exact d.typeIs
 .obtain⟨_,_,xs,_,d⟩:=pH I.hok e;exact d.typeIs
inductive QP(x y:V)(H:Hp)(Q:VK):Prop
 | mk(a:Addr)(v:V)(h1:x=.ref a)(h2:DGet H a y (some v))(q:Q v H):QP x y H Q
def nS(td ty:TE):TE:=λσ H Q=>td σ H λx H1=>ty σ H1 λy H2=>QP x y H2 Q
def MC(ty td:TE):TE:=λσ H Q=>ty σ H λy H1=>td σ H1 λx H2=>∃a o,x=.ref a/\DGet H2 a y o/\Q (.bl o.isSome) H2
def XF(ty td:TE):TE:=λσ H Q=>ty σ H λy H1=>td σ H1 λx H2=>∃a o,x=.ref a/\DGet H2 a y o/\Q (.bl<|!o.isSome) H2
def pR(td ty tv:TE):TS:=λD σ H=>tv σ H λv H1=>td σ H1 λx H2=>ty σ H2 λy H3=>∃a H4,x=.ref a/\DPut H3 a y v H4/\D.nx σ H4
section
variable{o i e value:Expr}{pos pos' tpos:Pos}{td ty tv:TE}
def bT(m:X.A.units+1<cLine)(r:PE X o td)(hi:PE X i ty)(hs:lZ i):PE X (.Subscript o i pos) (nS td ty):=by
 intro d s σ H Q I h;refine KD vh4.lookup hs<|aU (r d s σ H _ I h) λu j ⟨x,H1,l,n,f⟩=>aU (hi d j σ H1 _ l f) ?_;rintro B s2 ⟨y,H2,b,e,a,v,ex,g,q⟩;subst ex;obtain rfl:u=Value.ref a:=n;exact⟨Co b g,Cl m b g e λC s3 z w=>⟨v,H2,z,w,q⟩⟩
def rL(m:X.A.units+1<cLine)(hi:PE X i ty)(l:PE X o td):PC X .In i o (MC ty td):=by
 intro b s σ H Q I h;refine aU (hi b s σ H _ I h) λB f ⟨y,H1,j,d,e⟩=>aU (l b f σ H1 _ j e) ?_;rintro u s2 ⟨x,H2,r,n,a,z,ex,g,q⟩;subst ex;obtain rfl:u=Value.ref a:=n;exact KR m r g d λs3 w=>⟨.bl z.isSome,H2,w,rfl,q⟩
def Bk(m:X.A.units+1<cLine)(hi:PE X i ty)(l:PE X o td):PC X .NotIn i o (XF ty td):=by
 intro b s σ H Q I h;refine aU (hi b s σ H _ I h) λB f ⟨y,H1,j,d,e⟩=>aU (l b f σ H1 _ j e) ?_;rintro u s2 ⟨x,H2,r,n,a,z,ex,g,q⟩;subst ex;obtain rfl:u=Value.ref a:=n;exact WK m r g d λs3 w=>⟨.bl<|!z.isSome,H2,w,rfl,q⟩
def fO(C:X.A.units+1<cLine)(l:PE X o td)(hi:PE X i ty)(q:PE X value tv)(hs:swapsWith value (some<|.Subscript o i pos') pos.line X.env=pure false):
  PS X (.Assign [.Subscript o i pos'] value pos) (pR td ty tv):=by
 intro b s σ H D I h;refine wpAny_Assign_Subscript (aU (q b s σ H _ I h) λr f ⟨v,H1,z,w,e⟩=>aU (l b f σ H1 _ z e) λu s2 ⟨x,H2,n,m,J⟩=>aU (hi b s2 σ H2 _ n J) λK s3 ⟨y,H3,E,d,a,B,ex,g,G⟩=>?_) hs;subst ex;obtain rfl:u=Value.ref a:=m;exact Cc C E g d w λs4 j=>⟨σ,B,j,G⟩
end
def MH{P:Program}{w:World}{H:Hp}(h:Heap)(a:sysModules<h.objs.size):ObjOk P w H (h.push {cls:=.type "dict",data:=.dict #[]}) h.objs.size (.dK []):=
 ⟨bM _,wz8.mpr<|bK<|bV a,[],.nil,Heap.DictOf.new h⟩
def NZ{P:Program}{w:World}{H:Hp}(h:Heap)(a:sysModules<h.objs.size):ObjOk P w H (h.push {cls:=.type "dict",data:=.dict #[]}) h.objs.size (.dT []):=
 ⟨bM _,wz8.mpr<|bK<|bV a,[],.nil,_,#[],0,dG _ rfl,⟨rfl,rfl,rfl⟩,rfl,rfl,lB⟩
def NB:TE:=λ_ H Q=>∀p,H p=none->Q (.ref p) (upd H p<|.dK [])
def sQ:TE:=λ_ H Q=>∀p,H p=none->Q (.ref p) (upd H p<|.dT [])
section
variable{pos:Pos}
def mC:PE X (.Dict [] [] pos) NB:=λb s σ H Q I h=>
 wpAny_Dict_empty ⟨.ref s⁻¹,_,I.laid (a:=s⁻¹) (o:=.dK []) (t':=s.toks) (λ_ _ q=>bU _ q) (aW _)<|MH s.heap I.big,rfl,h _<|I.hok.fresh<|aW _⟩
def WX:PE X (.Dict [] [] pos) sQ:=λb s σ H Q I h=>
 wpAny_Dict_empty ⟨.ref s⁻¹,_,I.laid (a:=s⁻¹) (o:=.dT []) (t':=s.toks) (λ_ _ q=>bU _ q) (aW _)<|NZ s.heap I.big,rfl,h _<|I.hok.fresh<|aW _⟩
end
def JB:List (TE×TE)->St->Hp->(List (V×V)->Hp->Prop)->Prop
 | [],_,H,Q=>Q [] H
 | (tk,tv)::r,σ,H,Q=>tk σ H λx H1=>tv σ H1 λy H2=>JB r σ H2 λps H3=>Q ((x,y)::ps) H3
abbrev VV:List (V×V)->List (Value×Value)->Prop:=Paired λp q=>RelV p.1 q.1/\RelV p.2 q.2
def xO(X:Cx)(pos:Pos)(keys:List (Option Expr))(values:List Expr)(trs:List (TE×TE)):Prop:=
 ∀(pins:List (Addr×Obj))(s:Shared)(σ:St)(H:Hp)(Q:List (V×V)->Hp->Prop),Inv X pins σ H s->JB trs σ H Q->
  wpAny (model X.prog X.w) X.A (evalPairs<|pairTrees keys values X.env pos) (λvs s'=>∃ps H',Inv X pins σ H' s'/\VV ps vs/\Q ps H') X.xe s
def AC{X:Cx}{pos:Pos}:xO X pos [] [] []:=λa s σ H Q I h=>pairTrees_nil_walk ⟨[],H,I,.nil,h⟩
def iA{X:Cx}{pos:Pos}{k v:Expr}{ks:List (Option Expr)}{vs:List Expr}{tk tv:TE}{b:List (TE×TE)}(n:PE X k tk)(m:PE X v tv)(hr:xO X pos ks vs b):
  xO X pos (some k::ks) (v::vs) ((tk,tv)::b):=λa s σ H Q I h=>
 pairTrees_cons_walk (aU (n a s σ H _ I h) λu i ⟨x,H1,o,j,f⟩=>aU (m a i σ H1 _ o f) λz s2 ⟨y,H2,l,e,w⟩=>
  aU (hr a s2 σ H2 _ l w) <| by rintro ws s3 ⟨ps,H3,q,d,r⟩;exact⟨(x,y)::ps,H3,q,.cons ⟨j,e⟩ d,r⟩)
def cO(kvs more:List (aF×V)):List (aF×V):=more.foldl (λacc kv=>aO acc kv.1 kv.2) kvs
def KV.merge:∀{more:List (aF×V)}{rs:List (aF×Value)}{kvs:List (aF×V)}{vs:List (aF×Value)},KV more rs->KV kvs vs->KV (cO kvs more) (merged vs rs):=by
 intro more rs kvs vs r;unfold KV at r
 induction r generalizing kvs vs with
 | nil=>intro q;exact q
 | @cons p q ps qs h t ih=>
  intro a;have e:KV (aO kvs p.1 p.2) (stored vs q.1 q.2):=by
   have:=a.put p.1 h.2;rw[<-h.1];exact this
  exact ih e
theorem xZ:∀(more kvs:List (aF×V)),↑(cO kvs more)<=↑kvs+↑more
 | [],kvs=>by show ↑kvs<=↑kvs+0;lia
 | p::r,kvs=>by
  have h1:=xZ r<|aO kvs p.1 p.2;have h2:=kD kvs p.1 p.2;show(cO (aO kvs p.1 p.2) r).length<=_;rw[cJ];lia
theorem RY{P:Program}{w:World}:∀{kvs:List (aF×V)}{ws:List (Value×Value)},VV (kvs.map λd=>(kV d.1,d.2)) ws->∃rs,Carries (cI P w) ws rs/\KV kvs rs
 | [],_,r=>by rw[List.map_nil]at r;cases r;exact⟨[],gD,.nil⟩
 | p::kvs,_,r=>by
  rw[fS]at r;cases r with
  | @cons a b as bs h t=>
   obtain⟨rs,c,q⟩:=RY (P:=P) (w:=w) t;obtain⟨f,e⟩:=b;exact⟨(p.1,e)::rs,⟨jS h.1,rfl,c⟩,.cons ⟨rfl,h.2⟩ q⟩
def EA(trs:List (TE×TE)):TE:=λσ H Q=>∀p,H p=none->JB trs σ (upd H p<|.dK []) λps H2=>H2 p=some (.dK [])/\∃kvs:List (aF×V),ps=kvs.map (λkv=>(kV kv.1,kv.2))/\↑kvs<=15/\Q (.ref p) (upd H2 p<|.dK<|cO [] kvs)
def GF{X:Cx}{pos:Pos}{b:List (Option Expr)}{d:List Expr}{j:List (TE×TE)}(h:xO X pos b d j)(r:b.all (·.isSome)=true)(hl:↑b=↑d)(h0:b≠[])
  (B:↑b<=15):PE X (.Dict b d pos) (EA j):=by
 intro l s σ H Q I q;have m:=I.hok.fresh<|aW s⁻¹;have x:=I.laid (a:=s⁻¹) (o:=.dK []) (h':=s.heap.push {cls:=.type "dict",data:=.dict #[]}) (t':=s.toks) (λ_ _ q=>bU _ q) (aW _)<|MH s.heap I.big;refine wpAny_Dict_walk (knd:=cI X.prog X.w) r hl h0 B<|aU (h l _ σ _ _ x<|q _ m) ?_;rintro ws s2 ⟨ps,H2,f,A,e,kvs,ep,lk,E⟩;subst ep;obtain⟨rs,c,n⟩:=RY (P:=X.prog) (w:=X.w) A;obtain⟨z,hd,G,u,C⟩:=xL f.hok e;cases u;refine⟨rs,c,C,λh' i hs=>⟨.ref s⁻¹,_,?_,rfl,E⟩⟩;have hz:↑(cO [] kvs)<=sizeLine:=by
  have h1:=xZ kvs [];rw[jB]at h1;rw[sizeLine_eq];lia
 have he:∃q,h'.get? s⁻¹=some q:=let ⟨q,_,_,hq,_⟩:=i;⟨q,hq⟩
 exact tQ f (by rw[e];exact gD) hs he<|EO hz hd (n.merge .nil) i
structure M1(X:Cx)(o:Expr)(m:Str)(apos:Pos)(e:Expr)(cpos:Pos):Prop where
 base:attributeBase o m X.env (eval o X.env)=eval o X.env
 few:((backTo cpos<|starEach [e] X.env).all (λx=>!x.1) && (backToKw cpos<|keywordEach [] X.env).all (λx=>x.1.isSome) && decide (↑([e]:List Expr)+↑([]:List Keyword)+(if ([]:List Keyword).isEmpty then 0 else 1)<30))=true
 line:(apos.endLine == cpos.line)=true
 trees:backTo cpos (starEach [e] X.env)=[(false,eval e X.env)]
structure M2(X:Cx)(o:Expr)(m:Str)(apos:Pos)(e f:Expr)(cpos:Pos):Prop where
 base:attributeBase o m X.env (eval o X.env)=eval o X.env
 few:((backTo cpos<|starEach [e,f] X.env).all (λx=>!x.1) && (backToKw cpos<|keywordEach [] X.env).all (λx=>x.1.isSome) && decide (↑([e,f]:List Expr)+↑([]:List Keyword)+(if ([]:List Keyword).isEmpty then 0 else 1)<30))=true
 line:(apos.endLine == cpos.line)=true
 trees:backTo cpos (starEach [e,f] X.env)=[(false,eval e X.env),(false,eval f X.env)]
def wQ(H:Hp)(a:Addr):Prop:=(∃kvs,Rd H a<|.dK kvs)\/∃kvs,Rd H a<|.dT kvs
def wI{X:Cx}{i:List (Addr×Obj)}{σ:St}{H:Hp}{s:Shared}{a:Addr}(I:Inv X i σ H s)(d:wQ H a):
  s.TypeIs (.ref a) "dict"/\(∀b,Value.ref a=.ref b->∃f,s.heap.get? b=some f/\f.dict=none)/\(a == sysModules)=false:=by
 rcases d with ⟨kvs,e⟩ | ⟨kvs,e⟩
 .obtain⟨_,hd,vs,_,h⟩:=kR I.hok e;refine⟨h.typeIs,λb q=>?_,hd⟩;cases q;obtain⟨f,_,_,h1,h2,_⟩:=h;exact⟨f,h1,h2.2.1⟩
 .obtain⟨_,hd,xs,_,h⟩:=pH I.hok e;refine⟨h.typeIs,λb q=>?_,hd⟩;cases q;obtain⟨f,_,_,h1,h2,_⟩:=h;exact⟨f,h1,h2.2.1⟩
section
variable{pins:List (Addr×Obj)}{σ:St}{H:Hp}{s:Shared}{a:Addr}{y d:V}{u r:Value}{o:Option V}{A:Around}{E:Vp}
def PX{Q:Vp}(j:A.units+1<cLine)(I:Inv X pins σ H s)(g:DGet H a y o)(i:RelV y u)(h:∀w' s',Inv X pins σ H s'->RelV (o.getD .non) w'->Q w' s'):
  wpAny (model X.prog X.w) A (call (.builtin "dict.get") [.ref a,u]) Q E s:=by
 rcases g with ⟨kvs,k,e,ey,l⟩ | ⟨kvs,k,b,e,ey,eb,l⟩
 .subst ey;obtain⟨z,hd,vs,f,d⟩:=kR I.hok e;refine oP lK d.typeIs xS (JW _ _) (meets_dict_get (cI X.prog X.w) a (jS i) hd) ⟨_,d.mapOf,h _ _ (I.tok _) ?_⟩;rw[l];exact(f.val k).getD rfl
 .subst ey;cases (show u=Value.ref b from i);obtain⟨z,hd,xs,f,d⟩:=pH I.hok e;refine oP lK d.typeIs xS (JW _ _) (meetsH_dict_get (tupleKind<|cI X.prog X.w) a b hd) ⟨qO j,k,xs,oN I.hok eb,d,h _ _ (I.tok _) ?_⟩;rw[l];exact(f.val k).getD rfl
def UC{Q:Vp}(m:A.units+1<cLine)(I:Inv X pins σ H s)(g:DGet H a y o)(j:RelV y u)(rd:RelV d r)(h:∀w' s',Inv X pins σ H s'->RelV (o.getD d) w'->Q w' s'):
  wpAny (model X.prog X.w) A (call (.builtin "dict.get") [.ref a,u,r]) Q E s:=by
 rcases g with ⟨kvs,k,e,ey,l⟩ | ⟨kvs,k,b,e,ey,eb,l⟩
 .subst ey;obtain⟨z,hd,vs,i,f⟩:=kR I.hok e;refine oP lK f.typeIs xS (JR _ _ _) (meets_dict_get_default (cI X.prog X.w) a (jS j) hd r) ⟨_,f.mapOf,h _ _ (I.tok _) ?_⟩;rw[l];exact(i.val k).getD rd
 .subst ey;cases (show u=Value.ref b from j);obtain⟨z,hd,xs,i,f⟩:=pH I.hok e;refine oP lK f.typeIs xS (JR _ _ _) (meetsH_dict_get_default (tupleKind<|cI X.prog X.w) a b hd r) ⟨qO m,k,xs,oN I.hok eb,f,h _ _ (I.tok _) ?_⟩;rw[l];exact(i.val k).getD rd
end
def qI(td ty:TE):TE:=λσ H Q=>td σ H λx H1=>∃a,x=.ref a/\wQ H1 a/\ty σ H1 λy H2=>∃o,DGet H2 a y o/\Q (o.getD .non) H2
def UN(td ty tx:TE):TE:=λσ H Q=>td σ H λx H1=>∃a,x=.ref a/\wQ H1 a/\ty σ H1 λy H2=>tx σ H2 λz H3=>∃o,DGet H3 a y o/\Q (o.getD z) H3
section
variable{o e f:Expr}{apos cpos:Pos}{td ty tx:TE}
def iS(q:X.A.units+1<cLine)(n:PE X o td)(he:PE X e ty)(m:M1 X o "get" apos e cpos):PE X (.Call (.Attribute o "get" apos) [e] [] cpos) (qI td ty):=by
 intro f s σ H Q I h;refine vZ m.base m.few m.line wG lK DQ<|aU (n f s σ H _ I h) ?_;rintro u l ⟨x,H1,b,r,a,ex,d,j⟩;subst ex;obtain rfl:u=Value.ref a:=r;obtain⟨E,w,_⟩:=wI b d;exists E,w;rw[m.trees];refine pX rfl<|wW<|lE<|aU (he f l σ H1 _ b j) λJ s2 ⟨y,H2,B,i,K,g,G⟩=>sT ?_;exact PX q B g i λL s3 C z=>⟨_,H2,C,z,G⟩
def QN(E:X.A.units+1<cLine)(r:PE X o td)(he:PE X e ty)(N:PE X f tx)(m:M2 X o "get" apos e f cpos):PE X (.Call (.Attribute o "get" apos) [e,f] [] cpos) (UN td ty tx):=by
 intro b s σ H Q I h;refine vZ m.base m.few m.line wG lK DQ<|aU (r b s σ H _ I h) ?_;rintro u n ⟨x,H1,i,w,a,ex,d,l⟩;subst ex;obtain rfl:u=Value.ref a:=w;obtain⟨M,B,_⟩:=wI i d;exists M,B;rw[m.trees];refine pX rfl (wW (lE (aU (he b n σ H1 _ i l) λT s2 ⟨y,H2,C,j,O⟩=>
  lE (aU (N b s2 σ H2 _ C O) λW s3 ⟨z,H3,K,J,P,g,L⟩=>sT ?_))))
 exact UC E K g j J λY s4 q G=>⟨_,H3,q,G,L⟩
end
section
variable{pins:List (Addr×Obj)}{σ:St}{H:Hp}{s:Shared}{a:Addr}{kvs:List (aF×V)}{A:Around}{E:Vp}
end
section
variable{pins:List (Addr×Obj)}{σ:St}{H:Hp}{s:Shared}{a:Addr}{y:V}{u:Value}{A:Around}{E:Vp}
end
end L2
namespace Att
open PySem PySem.W PySem.Calls PyProof.Rows
def Ci{P:Params}{h:Heap}:∀(d:List Int)(vs:List Value),WellAll P h vs (d.map WData.int)->IntsAre vs d:=by
 intro d
 induction d with
 | nil=>
  intro vs w;rw[List.map_nil]at w;cases w;exact .nil
 | cons n d ih=>
  intro vs w;rw[fS]at w;cases w with
  | cons a b=>
   cases a;exact .cons _ _<|ih _ b
def Do{l:OpenLaw}{n:Nat}(u:l.most=some n){P:Params}{h:Heap}{args:List WData}{m:List Value}
  (j:l.row.toRowW.claim.pre args=true) (w:WellAll P h m args):
  ∃a vs b,m=[Value.ref a]/\args=[WData.list<|b.map WData.int]/\h.get? a=some {cls:=.type "list",data:=.seq vs.toArray}/\IntsAre vs b/\↑b<=n:=by
 have z:WShape.hasAll [] args [.list .int]=true:=(pre_splitW j).1;have i:l.pre.holds [] {args:=args}=true:=(pre_splitW j).2;obtain⟨d,r,rfl,h1,h2⟩:=hasAllW_cons z;obtain rfl:=hasAllW_nil h2;obtain⟨xs,rfl,x⟩:=hasW_list h1;obtain⟨b,rfl⟩:=items_int x;have o:↑b<=n:=by
  unfold OpenLaw.pre at i;have f:(WTm.not<|.lt (.lit<|.int (n:Int))<|.len<|.arg 0).holds [] {args:=[.list<|b.map .int]}=true:=by
   have f:=(holds_andW i).1;rw[u]at f;exact f
  have e:=condW_of f<|w_not<|w_lt w_lit<|w_len_list<|w_arg rfl;rw[aK]at e;refine Nat.le_of_not_lt λq=>?_;have s:(n:Int)<((↑b:Nat):Int):=by lia
  first
   | (rw[eW s]at e;exact absurd e<|by decide)
   | (simp at e;lia)
 cases w with
 | cons w1 w2=>
  cases w2;cases w1 with
  | list ho hall=>exact⟨_,_,b,rfl,rfl,ho,Ci b _ hall,o⟩
def VO(l:OpenLaw)(args:List WData):l.row.toRowW.claim.post args (.bool true) args=true:=
 postW_of (r:=l.row.toRowW) (X:=(true == true))
  (show WShape.has [] (.bool true) .bool=true by first | rfl | decide | simp[WShape.has,WShape.arms,WShape.armsAll])
  (show(WTm.eq .res<|.lit<|.bool true).value [] {args:=args,res:=some<|.bool true,after:=args}=some (.bool<|true == true) from w_eq_bool (w_res rfl) w_lit) rfl
def attach_call{l:OpenLaw}{n:Nat}{q:Program}{x:List Str}{A:(Str->Option Value)->Heap->Prop}{z:World->Heap->Prop}{d:DefRec}
  (H:l.most=some n) (M:d.params.defaults=[])
  (call:∀(w:World)(s₀ b:Shared)(mg s:Str->Option Value)(e:Addr)(o:Obj)(j h m:Value)(a:Addr)(vs:List Value)(i:List Int), Ground q x [] A w s₀ mg s b.heap->z w b.heap-> b.heap.get? e=some o->o.data=.func (docDef d.name d.params d.body d.scope j h m)->b.heap.CodeRec h d.name->mg d.name=some (.ref e)-> b.heap.get? a=some {cls:=.type "list",data:=.seq vs.toArray}->IntsAre vs i->↑i<=n->b.gens=#[]-> codeAny (model l.prog w) callerA (.call (.ref e) ⟨[.ref a],[]⟩) (λr s'=>r=.ok (.ret<|.bool true)/\OldK b.heap s'.heap/\s'.os=b.os/\AllBare s'.gens) b):
  WalkO q x A z l.row.toRowW d [] (λf vs=>PySem.call f vs):=by
 intro w s₀ b mg s G Y e o j h m W kV E hd X u O P args a9 as J a7 ac L ad;obtain rfl:W=.none:=Dflts.none u M;obtain rfl:kV=.none:=Dflts.noKw u;obtain⟨a,vs,i,rfl,rfl,K,N,B⟩:=Do H J L;refine enter_call<|codeAny_mono (call w s₀ b mg s e o j h m a vs i G Y E (fd_plain hd) X O K N B P) λr s' T=>?_;obtain⟨rfl,h2,C,Z⟩:=T;exact⟨.inl ⟨.bool true,.bool true,[],rfl,λ_=>rfl,.bool true,VO l _,λ_=>⟨List.Pairwise.nil,λ_ I=>(nomatch I)⟩⟩,h2,C,Z⟩
section
variable{prog:Program}{w:World}{A:Around}{E:Vp}{s:Shared}{K:Frag}
end
end Att
namespace L2
open PySem PySem.Spec PyProof.Rows
variable{prog:Program}{w:World}{A:Around}{E:Vp}{s:Shared}
variable{X:Cx}
theorem NM:∀{vs:List Value}{a:List Int},IntsAre vs a->Vals (a.map V.int) vs
 | _,_,.nil=>.nil
 | _,_,.cons n t h=>.cons ⟨t,rfl⟩<|NM h
def sB(H:Hp):Prop:=∀b,H b=none\/∃o xs,H b=some (.frz o<|.lst xs)
def Be{P:Program}{w:World}{K:Fq}{mg G:Str->Option Value}{CX:jW}{k:Nat}{J a:Addr}{fd:FuncData}{x:Str}{sp:Sp}{f:Shared}{vs:List Value}{A:List Int}
  (T:K.In f.heap) (Y:f.heap.Ns mainGlobals mg) (i:f.heap.Ns builtinsNs G) (ac:∀x:Str,x≠"__name__"->G x=bootBuiltins x) (a6:f.heap.NoLimit) (hg:f.gens=#[])
  (E:f.heap.get? a=some {cls:=.type "list",data:=.seq vs.toArray}) (hi:IntsAre vs A) (hl:A.length<=sizeLine) (hr:Room k callerA)
  (F:∀base:Heap,K.In base->base.Ns mainGlobals mg->aR P w K mg base CX k J fd [x] sp) (a2:∀(s:Shared)(u:Value),BindsTo s fd ⟨[u],[]⟩ [(x,u)])
  (ab:∀H:Hp,sB H->SqL K H a (A.map V.int)->sp [.ref a] H (λv _=>v=.bl true) λ_ _ _=>False)
  (aa:∀H e s',CX [] H f (λ_ _ _=>False) e s'->False):
  codeAny (model P w) callerA (.call (.ref J) ⟨[.ref a],[]⟩) (λr s'=>r=.ok (.ret<|.bool true)/\OldK f.heap s'.heap/\s'.os=f.os/\AllBare s'.gens) f:=by
 have L:=NM hi;have a4:=↑hi;have X:∀H:Hp,sB H->SqL K H a (A.map V.int)->HOk P w H f.heap->(∀b,H b≠none->b=a)->(H a≠none->K.lookup a=none)->
   codeAny (model P w) callerA (.call (.ref J) ⟨[.ref a],[]⟩) (λr s'=>r=.ok (.ret<|.bool true)/\OldK f.heap s'.heap/\s'.os=f.os/\AllBare s'.gens) f:=by
  intro H W hS j Z hK;have M:∀{b:Addr}{o:Obj},f.heap.get? b=some o->H b=none->(gP f.heap H).get? b=some o:=λe n=>XU e n;have a9:∀{b:Addr}{o:Obj}{es:Array DictEntry}{ep:Nat},f.heap.get? b=some o->o.data=.dict es ep->H b=none:=λ{b o es ep} e d=>by
   cases q:H b with
   | none=>rfl
   | some u=>
    have I:b=a:=Z b (by rw[q];simp);subst I;rw[E]at e;cases e;have d':Data.seq vs.toArray _=Data.dict es ep:=d;cases d'
  have C:∀{b:Addr}{m:Str->Option Value},f.heap.Ns b m->(gP f.heap H).Ns b m:=λ{b m} ⟨o,es,ep,e,d,r⟩=>⟨o,es,ep,M e<|a9 e d,d,r⟩;have N:K.In (gP f.heap H):=λb o e=>M (T b o e) (by
   cases q:H b with
   | none=>rfl
   | some u=>
    have I:b=a:=Z b (by rw[q];simp);subst I;rw[hK<|by rw[q];simp]at e;cases e)
  have hM:Mod K mg (gP f.heap H):=⟨N,C Y,⟨G,C i,ac⟩,let ⟨mc,h1,h2⟩:=a6;⟨mc,C h1,h2⟩⟩;have e0:Env0 P w K mg (gP f.heap H) callerA [] f H:=⟨rfl,hM,λb o e=>Ao e,Nat.le_of_eq<|Ag _ _,trivial,λb i=>absurd (show b∈([]:List Addr) from i) (by simp),j,.of_eq hg⟩;refine codeAny_mono ((F _ N<|C Y).run callerA [] f H ⟨[.ref a],[]⟩ [.ref a] [.ref a] _ _ hr e0 (a2 f<|.ref a) (.cons rfl .nil)<|ab H W hS) λr s' h=>?_;cases r with
  | error e=>exact(aa H e s' h).elim
  | ok fl=>
   cases fl with
   | next=>exact False.elim h
   | brk=>exact False.elim h
   | cont=>exact False.elim h
   | ret u=>
    obtain⟨v,H',os,B,un,a5,r',q⟩:=h;have q':v=.bl true:=q;subst q';obtain rfl:u=Value.bool true:=r';refine⟨rfl,OldK.of_keep λb o e=>?_,os,B⟩;cases q:H b with
    | none=>exact un.keep b o e q (by intro z;exact absurd (show b∈([]:List Addr) from z)<|by simp) (by simp)
    | some u=>
     rcases W b with z | ⟨ob,xs,z⟩
     .rw[q]at z;cases z
     .have z2:=un.frzs b ob _ z;obtain⟨O,_⟩:=j b _ z;obtain⟨e2,_⟩:=a5 b _ z2;rw[e]at O;cases O;exact e2
 cases hk:K.lookup a with
 | some o=>
  have e:=T a o hk;rw[E]at e;cases e;refine X (λ_=>none) (λ_=>.inl rfl) (.inr ⟨_,vs.toArray,_,hk,rfl,rfl,rfl,by rw[cT,a4];exact hl,by simpa using L⟩) (λb u z=>by have l:(none:Option HO)=some u:=z;cases l) (λb z=>absurd rfl z) λz=>absurd rfl z
 | none=>
  refine X (λb=>if b=a then some (.frz {cls:=.type "list",data:=.seq vs.toArray}<|.lst<|A.map V.int) else none) (λb=>?_) (.inl<|.inr ⟨{cls:=.type "list",data:=.seq vs.toArray},bC rfl⟩) (λb u z=>?_) (λb z=>?_) λ_=>hk
  .by_cases i:b=a
   .exact .inr ⟨_,_,bC i⟩
   .exact .inl<|aZ i
  .by_cases i:b=a
   .have l:=(bC i).symm.trans z;cases l;subst i;exact⟨E,by rw[aK];exact hl,vs,_,L,E⟩
   .have l:=(aZ i).symm.trans z;cases l
  .by_cases i:b=a
   .exact i
   .exact absurd (aZ i) z
def YL{l:PySem.W.OpenLaw}{n k:Nat}{q:Program}{N:List Str}{XP:(Str->Option Value)->Heap->Prop}{z:World->Heap->Prop}{d:DefRec}{K:Params->Fq}{CX:World->jW}{sp:World->Sp}{x:Str}
  (E:l.most=some n) (P:n<=sizeLine) (a7:d.params.defaults=[]) (hr:Room k callerA)
  (B:∀(w:World)(h:Heap),z w h->(K w.params).In h)
  (F:∀(w:World)(mg:Str->Option Value)(j:Addr)(h:Heap),(K w.params).In h->h.Ns mainGlobals mg->mg d.name=some (.ref j)-> ∃fd:FuncData,(∀(s:Shared)(u:Value),BindsTo s fd ⟨[u],[]⟩ [(x,u)])/\ ∀base:Heap,(K w.params).In base->base.Ns mainGlobals mg->aR l.prog w (K w.params) mg base (CX w) k j fd [x] (sp w))
  (a6:∀(w:World)(H:Hp)(a:Addr)(i:List Int),↑i<=n->sB H->SqL (K w.params) H a (i.map V.int)->sp w [.ref a] H (λv _=>v=.bl true) λ_ _ _=>False)
  (J:∀(w:World)(H:Hp)(s:Shared)(e:Value)(s':Shared),CX w [] H s (λ_ _ _=>False) e s'->False):
  PySem.W.WalkO q N XP z l.row.toRowW d [] (λf vs=>PySem.call f vs):=by
 refine Att.attach_call E a7 λw s₀ C mg mb j o pm cd a9 a vs i G Y ho hd aa O L Z m hg=>?_;have r:=B w _ Y;obtain⟨fd,M,I⟩:=F w mg j _ r G.T.g O;exact Be r G.T.g G.T.b G.T.builtins G.T.nolimit hg L Z (fX m P) hr I M (λH X A=>a6 w H a i m X A) λH e s'=>J w H C e s'
def oJ(s:Stmt):Arguments:=match s with
 | .FunctionDef _ a _ _ _ _ _ _ _ _=>a
 | _=>{posonlyargs:=[],args:=[],vararg:=none,kwonlyargs:=[],kw_defaults:=[],kwarg:=none,defaults:=[]}
def dV(s:Stmt):List Stmt:=match s with
 | .FunctionDef _ _ b _ _ _ _ _ _ _=>b
 | _=>[]
def bR(s:Stmt):Scope:=match s with
 | .FunctionDef _ _ _ _ _ _ sc _ _ _=>sc
 | _=>{kind:=.function,names:=[],isGenerator:=false,isCoroutine:=false}
abbrev bQ:jW:=λ_ _ _ _ _ _=>False
abbrev E0:XK:=λ_ _ _=>False
def HU{X:Cx}:FJ bQ X E0:=λ_ _ _ _ _ _ _ h=>h.elim
structure Fun(K:Fq)(x qual:Str)(st:Stmt)(f:Addr)(fd:FuncData):Prop where
 ex:∃(oc:Value)(od:Option Addr)(kV doc pm:Value)(an:Option Addr)(cdv ct:Value)(osl:Array (Option Value)),
  fd=PySem.W.fnOf x qual (oJ st) (dV st) (bR st) .none kV doc pm an cdv ct/\K.lookup f=some ⟨oc,od,.func fd,osl⟩/\PySem.W.codeIn K cdv qual=true
 kp:PySem.W.keepIn K (.ref f)=true
section
variable{P:Program}{w:World}{K:Fq}{mg:Str->Option Value}{base:Heap}
def Fun.ok{x a:Str}{st:Stmt}{f:Addr}{fd:FuncData}{N ps:List Str}{k:Nat}{sp:Sp}(F:Fun K x a st f fd)(S:bZ N ps (bR st))(len:∀vs H Q E,sp vs H Q E->↑vs=↑ps)
  (i:∀(b:Value)(A:Around)(outer:List Env)(s:Shared)(H:Hp)(vs:List V)(Q:VK)(E:XK),Room k (A.deeper<|envOfC a (bR st) s⁻¹ f b)->sp vs H Q E-> ∃t,PSs (fE bQ P w K mg base N a (bR st) f b A outer s H E).nox (dV st) t/\t {nx:=λ_ H'=>Q .non H',rt:=Q} (oI N vs) H):aR P w K mg base bQ (k+1) f fd ps sp:=by
 obtain⟨n,od,kV,j,l,o,b,ct,m,rfl,lk,e⟩:=F.ex;refine AM lk e S len λA outer s H vs Q E hr d=>?_;obtain⟨t,h,q⟩:=i b A outer s H vs Q E hr d;exact⟨t,h.nox,q⟩
def Fun.binds{x a:Str}{st:Stmt}{f:Addr}{fd:FuncData}{ps:List Str}(F:Fun K x a st f fd)
  (h:∀(kV b d:Value)(i:Option Addr)(e ct:Value)(us:List Value),↑us=↑ps->bindArgs (PySem.W.fnOf x a (oJ st) (dV st) (bR st) .none kV b d i e ct) ⟨us,[]⟩=pure (ps.zip us)):Binds K fd ps []:=by
 obtain⟨l,od,kV,b,d,i,e,ct,j,rfl,lk,m⟩:=F.ex;exact .all<|h kV b d i e ct
def PN{x a:Str}{st:Stmt}{f:Addr}{j:Value}{od e:Option Addr}{i:Array (Option Value)}{kV h d b ct:Value}(l:K.lookup f=some ⟨j,od,.func<|PySem.W.fnOf x a (oJ st) (dV st) (bR st) .none kV h d e b ct,i⟩)
  (c:PySem.W.codeIn K b a=true) (k:PySem.W.keepIn K (.ref f)=true):Fun K x a st f (PySem.W.fnOf x a (oJ st) (dV st) (bR st) .none kV h d e b ct):=⟨⟨j,od,kV,h,d,e,b,ct,i,rfl,l,c⟩,k⟩
end
def eC{A:Around}{k:Nat}(hr:Room k A):A.units+1<cLine:=Nat.lt_of_le_of_lt (Nat.add_le_add_left (by decide:1<=64) _) hr.units
def bG{n:Nat}(h:n<=1000):n<sizeLine:=Nat.lt_of_le_of_lt h (by decide)
def dO{n:Nat}(h:Nat.ble n 1000=true):n<=sizeLine:=cN<|bG<|Nat.le_of_ble_eq_true h
def pv(i:Nat){x:Str}{pos:Pos}(b:X.N[i]?=some x:=by rfl)(d:CM X.env.scope x:=by first | exact eY rfl | exact Or.inr (eY rfl) | exact Or.inr (Or.inr rfl))(hd:(x == ("__debug__":Str))=false:=by decide)
  (a:(x == ("__classdict__":Str))=false:=by decide):PE X (.Name x pos) (aI i):=IP b d hd a
def bE{A B:Prop}(h:B):if false=true then A else B:=by
 rw[aZ eJ];exact h
def cH{A B:Prop}(h:A):if true=true then A else B:=by
 rw[bC rfl];exact h
def bI{c A B:Prop}[Decidable c](h1:c->A)(h2:¬c->B):if c then A else B:=by
 by_cases h:c
 .rw[bC h];exact h1 h
 .rw[aZ h];exact h2 h
section
variable{κ:Type}[DecidableEq κ]
def ES{kvs:List (κ×V)}{k:κ}(h:aG kvs k=none):¬k∈kvs.map (·.1):=by
 intro m;obtain⟨p,hp,e⟩:=wr2.mp m;have q:(kvs.any λa=>decide<|a.1=k)=true:=vh8.mpr ⟨p,hp,eW e⟩;rw[oU,h]at q;exact absurd q (by simp)
def EF{kvs:List (κ×V)}{k:κ}{v:V}(h:aG kvs k=some v):k∈kvs.map (·.1):=by
 have q:(kvs.any λa=>decide<|a.1=k)=true:=by
  rw[oU,h]
  all_goals rfl
 obtain⟨p,hp,e⟩:=vh8.mp q;exact wr2.mpr ⟨p,hp,cQ e⟩
theorem JT:∀{l:List κ}{k:κ},l.Nodup->¬k∈l->(l++[k]).Nodup
 | [],k,_,_=>by simp
 | a::r,k,h,hk=>by
  obtain⟨h1,h2⟩:=ws9.mp h;show(a::(r++[k])).Nodup;refine ws9.mpr ⟨λm=>?_,JT h2 λm=>hk<|wp9.mpr<|Or.inr m⟩;rcases wr7.mp m with q | q
  .exact h1 q
  .exact hk<|wp9.mpr<|eY (wq1.mp q).symm
end
def cB(env:Env):List (Str×NameKind)->List (Str×Addr)
 | []=>[]
 | (n,k)::r=>cB env r++(if k=.free then [(n,(env.cells.lookup n).getD 0)] else [])
theorem GQ:∀(l:List (Str×NameKind))(a:List (Str×Addr)),(∀y∈l,y.2=.free->∃c,env.cells.lookup y.1=some c)->
  (forIn l a λ(x:Str×NameKind) (r:List (Str×Addr))=>if (x.2 == .free)=true then(do let c <-cellOf env x.1;pure (ForInStep.yield<|(x.1,c)::r):Sem (ForInStep<|List<|Str×Addr)) else pure (ForInStep.yield r))=pure (cB env l++a)
 | [],a,_=>by simp[cB]
 | (n,k)::r,a,h=>by
  rw[wC]
  by_cases b:k=.free
  .subst b;obtain⟨c,f⟩:=h (n,.free) (by simp) rfl;have e:cellOf env n=pure c:=by unfold cellOf;rw[f]
   simp only[beq_self_eq_true,if_true,e,pure_bind];rw[GQ r ((n,c)::a) λy d=>h y<|iB _ d];simp[cB,f]
  .have i:(k == NameKind.free)=false:=by simpa using b
   simp only[i,EQ,jD,pure_bind];rw[GQ r a λy d=>h y<|iB _ d];simp[cB,b]
def FX(h:∀y∈scope.names,y.2=.free->∃c,env.cells.lookup y.1=some c):closureFor scope env=pure (cB env scope.names):=by
 have e:=GQ (env:=env) scope.names [] h;rw[fY]at e;unfold closureFor;refine Eq.trans ?_<|cF (λz=>z >>= pure) e;rfl
theorem IZ:∀{l:List (Str×NameKind)},(x,c)∈cB env l->(x,NameKind.free)∈l/\c=(env.cells.lookup x).getD 0
 | [],h=>by simp[cB]at h
 | (n,k)::r,h=>by
  unfold cB at h;rcases wr7.mp h with h | h
  .obtain⟨h1,h2⟩:=IZ h;exact⟨iB _ h1,h2⟩
  .by_cases a:k=.free
   .rw[bC a]at h;have e:=wq1.mp h;cases e;subst a;exact⟨by simp,rfl⟩
   .rw[aZ a]at h;simp at h
theorem NK:∀{l:List (Str×NameKind)},(x,NameKind.free)∈l->(x,(env.cells.lookup x).getD 0)∈cB env l
 | [],h=>by simp at h
 | (n,k)::r,h=>by
  unfold cB;rcases wp9.mp h with h | h
  .cases h;exact gM _ (by simp)
  .exact sN _<|NK h
theorem RH:∀{l:List (Str×Addr)},(x,v)∈l->(∀w,(x,w)∈l->w=v)->l.lookup x=some v
 | [],h,_=>by simp at h
 | (n,w)::r,h,u=>by
  rw[AL]
  by_cases e:x=n
  .subst e;simp[u w<|by simp]
  .have b:(x == n)=false:=by simpa using e
   rw[b];rcases wp9.mp h with h | h
   .cases h;exact absurd rfl e
   .exact RH h λd a=>u d<|iB _ a
def Bh(h:(x,NameKind.free)∈l):(cB env l).lookup x=some ((env.cells.lookup x).getD 0):=
 RH (NK h) λw a=>(IZ a).2
def cX(X:Cx)(scope:Scope)(N':List Str)(s3:Shared)(H3:Hp)(C:Addr)(fp:List Addr):Cx:=
 {X with N:=N',s₀:=s3,H₀:=H3,env:=compEnvC scope (cB X.env scope.names) C X.env,outer:=X.stack,stack:=X.stack,ex:=fp,fn:=λx=>((cB X.env scope.names).lookup x).isNone,pn:=[],xe:=λ_ _=>False}
structure BlkN(X:Cx)(scope:Scope)(N':List Str)(src:List (Option Nat)):Prop where
 kind:scope.kind=.function
 nocell:(scope.names.all λy=>decide<|y.2≠.cell)=true
 locs:(scope.names.all λy=>decide<|y.2=.local->scope.names.lookup y.1=some .local)=true
 frees:(scope.names.all λy=>decide<|y.2=.free->X.env.kindOf y.1=some .cell\/X.env.kindOf y.1=some .free)=true
 slen:↑src=N'.length
 cap:((N'.zip src).all λp=>match p.2 with | some j=>decide (X.N[j]?=some p.1) && decide ((p.1,NameKind.free)∈scope.names) | none=>true)=true
def sub(src:List (Option Nat))(σ:St):St:=src.map λo=>o.bind λj=>(σ[j]?).join
def NC(h:(relabel scope env).names.lookup x=some k):(x,k)∈scope.names\/(k=.cell/\(x,NameKind.free)∈scope.names):=by
 have m:=uO h;obtain⟨⟨n,b⟩,a,e⟩:=wr2.mp m;dsimp only at e
 split at e
 .rename_i hc
  cases e;have:b=.free:=by
   simp only[qY,beq_iff_eq]at hc;exact hc.1.1
  subst this;exact .inr ⟨rfl,a⟩
 .cases e;exact .inl a
theorem UQ{env:Env}:∀{names:List (Str×NameKind)},(x,NameKind.free)∈names->(∀k,(x,k)∈names->k≠.local/\k≠.globalExplicit/\k≠.globalImplicit/\k≠.cell)->
  let q:=(names.map λ(n,k)=>if (k == NameKind.free && env.scope.kind == .function && env.kindOf n == some .cell) then(n,NameKind.cell) else(n,k)).lookup x
  q=some .cell\/q=some .free
 | [],h,_=>by simp at h
 | (n,k)::r,h,u=>by
  intro q;show List.lookup x ((if (k == NameKind.free && env.scope.kind == .function && env.kindOf n == some .cell)=true then(n,NameKind.cell) else(n,k))::_)=_\/List.lookup x ((if (k == NameKind.free && env.scope.kind == .function && env.kindOf n == some .cell)=true then(n,NameKind.cell) else(n,k))::_)=_
  by_cases e:x=n
  .subst e;obtain⟨o,l,m,s⟩:=u k (by simp);have f:k=.free:=by cases k <;> simp_all
   subst f
   by_cases b:(NameKind.free == NameKind.free && env.scope.kind == .function && env.kindOf x == some .cell)=true
   .rw[bC b];left;simp[AL]
   .rw[aZ b];right;simp[AL]
  .have a:(x == n)=false:=by simpa using e
   have d:=UQ (env:=env) (names:=r) (x:=x) ((wp9.mp h).resolve_left λz=>e<|by cases z;rfl) λj i=>u j<|iB _ i
   split
   .simp only[AL,a];exact d
   .simp only[AL,a];exact d
section
variable{scope:Scope}{N':List Str}{src:List (Option Nat)}{pins:List (Addr×Obj)}{σ:St}{H3:Hp}{s3 s4:Shared}{C:Addr}{fp:List Addr}
theorem BlkN.cells(B:BlkN X scope N' src)(ok:X.Ok)(h:(x,NameKind.free)∈scope.names):∃c,X.env.cells.lookup x=some c/\(cB X.env scope.names).lookup x=some c:=by
 have q:=cQ<|wt3.mp B.frees (x,.free) h;obtain⟨c,a⟩:=ok.has x<|q rfl;exact⟨c,a,by rw[Bh h,a];rfl⟩
def BlkN.back(B:BlkN X scope N' src)(ok:X.Ok)(h:(cB X.env scope.names).lookup x=some c):X.env.cells.lookup x=some c/\(x,NameKind.free)∈scope.names:=by
 obtain⟨h1,h2⟩:=IZ<|uO h;obtain⟨c',b,a⟩:=B.cells ok h1;rw[h]at a;cases a;exact⟨b,h1⟩
def BlkN.captured(B:BlkN X scope N' src){i j:Nat}{x:Str}(h1:N'[i]?=some x)(h2:src[i]?=some (some j)):X.N[j]?=some x/\(x,NameKind.free)∈scope.names:=by
 have hz:(N'.zip src)[i]?=some (x,some j):=by
  rw[EM];exact⟨h1,h2⟩
 have q:=wt3.mp B.cap (x,some j)<|cU hz;have a:(decide (X.N[j]?=some x) && decide ((x,NameKind.free)∈scope.names))=true:=q;rw[qY]at a;exact⟨cQ a.1,cQ a.2⟩
def PP(B:BlkN X scope N' src)(I:Inv X pins σ H3 s3)(n:∀b∈fp,dR X pins H3 b)(K:∀b∈fp,b<s3⁻¹)(J:∀x k,(x,k)∈scope.names->k=.free->∀k',(x,k')∈scope.names->k'=.free)
  (W:C=s3⁻¹) (G:s4.heap.Ns C (λ_=>none)) (l:∀b o,s3.heap.get? b=some o->s4.heap.get? b=some o) (w:s4.os=s3.os) (T:s4.gens=s3.gens):
  Inv (cX X scope N' s3 H3 C fp) [] (sub src σ) H3 s4:=by
 subst W;have ok:=I.ok;exists ⟨ok.mod,B.kind,ok.glob,ok.blt,aW _,λx y c h1 h2=>?_,λx h=>?_,λx c h1 h2=>?_,ok.hd,ok.frames,.inl rfl,λb a=>⟨bV<|K b a,λx c h=>?_⟩,I.bs,fX ok.bsz I.sz,λb o e a=>?_,λb a hs=>?_,I.stack,I.stkFree⟩,
  w,?_,Un.kept l,⟨_,G,λi x v h1 h2 Y=>?_⟩,λx c h=>?_,I.hok.fresh<|aW _,λx c h=>I.freeC x c (B.back ok h).1,λp hp=>absurd (show p∈([]:List (Addr×Obj)) from hp) (by simp),I.hok.kept l
 .exact ok.inj x y c (B.back ok h1).1 (B.back ok h2).1
 .have h:(relabel scope X.env).names.lookup x=some .cell\/(relabel scope X.env).names.lookup x=some .free:=h;have f:(x,NameKind.free)∈scope.names:=by
   rcases h with h | h
   .rcases NC h with q | ⟨_,q⟩
    .exact absurd rfl<|cQ<|wt3.mp B.nocell _ q
    .exact q
   .rcases NC h with q | ⟨z,_⟩
    .exact q
    .cases z
  obtain⟨c,_,e⟩:=B.cells ok f;exact⟨c,e⟩
 .have h1:((cB X.env scope.names).lookup x).isNone=true:=h1;have h2:(cB X.env scope.names).lookup x=some c:=h2;rw[h2]at h1;simp at h1
 .exact(n b a).2.2.2.2.1 x c (B.back ok h).1
 .rcases(n b a).2.2.2.1 with z | z
  .exact ok.noex b o e z
  .exact absurd (fU (bP e)<|fX ok.bsz z)<|iD _
 .rcases wp9.mp (I.stkSub b hs)with z | z
  .exact(n b a).2.1 z
  .exact(n b a).2.2.1 z
 .rw[T];exact I.bare
 .have s:∃j,src[i]?=some (some j)/\σ[j]?=some (some v):=by
   have h2:(src.map λo=>o.bind λj=>(σ[j]?).join)[i]?=some (some v):=h2;rw[bO]at h2;cases e:src[i]? with
   | none=>rw[e]at h2;cases h2
   | some o=>
    rw[e]at h2;cases o with
    | none=>cases h2
    | some j=>
     exists j,rfl;have h2:some ((σ[j]?).join)=some (some v):=h2;cases e2:σ[j]? with
     | none=>rw[e2]at h2;cases h2
     | some z=>rw[e2]at h2;cases z with
      | none=>cases h2
      | some z=>cases h2;rfl
  obtain⟨j,A,H⟩:=s;obtain⟨O,f⟩:=B.captured h1 A;obtain⟨c,E,P⟩:=B.cells ok f;have r:=cQ (wt3.mp B.frees _ f) rfl;obtain⟨m,_,hl⟩:=I.loc;have L:CM X.env.scope x:=by
   rcases r with z | z
   .exact .inr<|.inl z
   .exact .inr<|.inr z
  obtain⟨u,N,lk⟩:=hl j x v O H L;refine⟨u,N,.inr ⟨?_,c,P,?_⟩⟩
  .exact UQ f λk M=>by
    have:=J x .free f rfl k M;subst this;exact⟨by decide,by decide,by decide,by decide⟩
  .rcases lk with ⟨z,_⟩ | ⟨_,c',e',⟨o,eo,ed⟩⟩
   .rcases r with y | y <;> (rw[z]at y;cases y)
   .rw[E]at e';cases e';exact⟨o,l _ _ eo,ed⟩
 .obtain⟨v,o,e,d⟩:=I.cell x c (B.back ok h).1;exact⟨v,o,l _ _ e,d⟩
 .show(sub src σ).length=N'.length;unfold sub;rw[aK];exact B.slen
end
def Ae(I:Nat->Shared->Prop) (turn:∀n s,I n s->wpAny (model prog w) A (pyNext it) (λr a=>match r with
   | none=>R (.ok .next) a
   | some v=>wpAny (model prog w) A (letOwnedTupleGo target it v) (λ_ a=>wpAny (model prog w) A (assign target env v) (λ_ f=>
     wpAny (model prog w) A (forIn ifs true λc r=>if r=true then do let ok <-isTrue c env (eval c env);pure (ForInStep.yield ok) else pure (ForInStep.yield r)) (λok d=>
      if ok=true then wpAny (model prog w) A (eval elt env) (λx e=>
       wpAny (model prog w) A (call (.builtin "list.append") [acc,x]) (λ_ j=>∃m,m<n/\I m j) (λ_ _=>False) e) (λ_ _=>False) d
      else ∃m,m<n/\I m d) (λ_ _=>False) f) (λ_ _=>False) a) (λ_ _=>False) a) (λ_ _=>False) s) (n:Nat) (h:I n s):
  codeAny (model prog w) A (.compLoop (.ListComp elt [⟨target,iter,ifs,0⟩] scope pos) 0 it acc env) R s:=by
 refine codeAny_loop rfl I (λn s q=>?_) n h;show wpAny _ A ((compTurn (.ListComp elt [⟨target,iter,ifs,0⟩] scope pos) 0 it acc env).onRaise (λx=>do noteFrame x env;theTreesLotGoes x)) _ _ s;refine wpAny_noted ?_;rw[compTurn_list];refine aJ<|nM<|aJ<|fV (turn n s q) (λr a b=>?_) λ_ _ h'=>h'.elim;cases r with
 | none=>exact bJ b
 | some v=>
  refine aJ<|fV b (λ_ a b=>?_) λ_ _ h'=>h'.elim;refine aJ<|fV b (λ_ f u=>aJ<|fV u (λok d i=>?_) λ_ _ h'=>h'.elim) λ_ _ h'=>h'.elim;cases ok with
  | false=>exact bJ ⟨rfl,i⟩
  | true=>
   exact aJ<|aJ<|fV i (λx e l=>aJ<|fV l (λ_ j o=>bJ<|bJ ⟨rfl,o⟩) λ_ _ h'=>h'.elim) λ_ _ h'=>h'.elim
def oC(X:Cx)(ifs:List Expr)(t:TT):Prop:=
 ∀(pins:List (Addr×Obj))(s:Shared)(σ:St)(H:Hp)(Q:Bool->Hp->Prop),Inv X pins σ H s->t σ H Q->
  wpAny (model X.prog X.w) X.A (forIn ifs true λc r=>if r=true then do let ok <-isTrue c X.env (eval c X.env);pure (ForInStep.yield ok) else pure (ForInStep.yield r)) (TP X pins σ Q) X.xe s
def lU:TT:=λ_ H Q=>Q true H
def gO:oC X [] lU:=λ_ _ _ H _ I h=>wpAny_tests_nil ⟨H,I,h⟩
def sR(h:PT X c t):oC X [c] t:=λa s σ H Q I q=>wpAny_tests_one<|h a s σ H Q I q
def oT(J:It)(g:TG)(tt:TT)(te:TE)(D:Addr)(σ0:St)(H0:Hp)(Q:Hp->Prop):Prop:=
 ∃W:Nat->Nat->St->Hp->Prop,(∃m,W 0 m σ0 H0)/\∀i m σ H,W i m σ H->
 (J.stop i H/\Q H)\/(J.go i H/\∃N:St->Hp->Prop,(∀σ' H',N σ' H'->∃m',m'<m/\W (i+1) m' σ' H')/\∀x H',J.yld i H x H'->g x σ H' λσ2 H2=>tt σ2 H2 λb H3=>
  if b=true then te σ2 H3 λv H4=>∃xs,H4 D=some (.lst xs)/\↑xs<sizeLine/\N σ2 (upd H4 D<|.lst<|xs++[v]) else N σ2 H3)
section
variable{scope:Scope}{N':List Str}{src:List (Option Nat)}{pins:List (Addr×Obj)}{σ:St}{H2:Hp}{s2:Shared}
def RV{ab tg iter:Expr}{aa:List Expr}{pos:Pos}{it:Addr}{fp:List Addr}{M:Nat->Heap->Prop}{J:It}{g:TG}{tt:TT}{te:TE}{Q:Addr->Hp->Prop}
  {RR:Value->Addr->Result->Shared->Prop} {E:Vp} (hc:X.calm=true)
  (B:BlkN X scope N' src) (as:∀x k,(x,k)∈scope.names->k=.free->∀k',(x,k')∈scope.names->k'=.free) (T:fC X.prog X.w X.K tg J fp it M) (I:Inv X pins σ H2 s2) (h0:M 0 s2.heap) (l:∀b∈fp,dR X pins H2 b)
  (hg:∀s3 H3 C,PG (cX X scope N' s3 H3 C fp) tg g) (ht:∀s3 H3 C,oC (cX X scope N' s3 H3 C fp) aa tt) (he:∀s3 H3 C,PE (cX X scope N' s3 H3 C fp) ab te)
  (hw:∀D,H2 D=none->oT J g tt te D (sub src σ) (upd H2 D<|.lst []) (Q D))
  (hQ:∀D C H' s',C≠D->(∃m,s'.heap.Ns C m)->(∀af ,Heap.SameBut C s'.heap af->Inv X pins σ H' {s' with heap:=af})->Inv X pins σ H' s'->H' C=none->C≠X.env.locals->(∀x c,X.env.cells.lookup x=some c->c≠C)->X.s₀⁻¹<=C->(∀p∈X.pn++pins,p.1≠C)->Q D H'->RR (.ref D) C (.ok .next) s'):
  wpAny (model X.prog X.w) X.A (newList []) (λak N=>wpAny (model X.prog X.w) X.A (newFunctionEnv scope X.env.globals (cB X.env scope.names) [] X.env.qual none .none<|some X.env) (λa6 s₄=>
   codeAny (model X.prog X.w) X.A (.compStart (.ListComp ab [⟨tg,iter,aa,0⟩] scope pos) 0 (.ref it) ak {a6 with scope:=relabel scope X.env}) (RR ak a6.locals) s₄) E N) E s2:=by
 have a7:∀y∈scope.names,y.2≠.cell:=λy hy=>cQ<|wt3.mp B.nocell y hy;refine jY<|wpAny_newFunctionEnv a7 (by intro y hy;simp at hy) (λY a4 a5=>?_) B.kind;dsimp only at a4 a5 ⊢;have b2:H2 s2⁻¹=none:=I.hok.fresh<|aW _;have G:Inv X pins σ (upd H2 s2⁻¹<|.lst []) {s2 with heap:=s2.heap.push {cls:=.type "list",dict:=none,data:=.seq ([]:List Value).toArray}}:=
  I.laid (t':=s2.toks) (λb o e=>bU _ e) (aW _) ⟨bM _,[],_,.nil,dG _ rfl⟩
 generalize hH3:(s2.heap.push {cls:=.type "list",dict:=none,data:=.seq ([]:List Value).toArray})=f at a4 a5 G ⊢;have ad:f.objs.size=s2⁻¹+1:=by rw[<-hH3,nU]
 have a3:∀b o,s2.heap.get? b=some o->f.get? b=some o:=λb o e=>by rw[<-hH3];exact bU _ e
 have a1:∀b o,f.get? b=some o->Y.get? b=some o:=λb o e=>a5.extBut b o (bV<|bP e)<|bU _ e;have a2:s2⁻¹<f.objs.size:=by rw[ad];exact wO _
 have am:∀b∈fp,dR X pins (upd H2 s2⁻¹<|.lst []) b:=λb j=>by
  obtain⟨o,e,_⟩:=T.obj _ _ h0 b j;refine⟨?_,(l b j).2⟩;rw[aC<|bV<|bP e];exact(l b j).1
 have a8:∀b∈fp,b<f.objs.size:=λb j=>by
  obtain⟨o,e,_⟩:=T.obj _ _ h0 b j;exact gQ (bP e) a2
 have ay:=PP (fp:=fp) (C:=f.objs.size) (s4:={s2 with heap:=Y,toks:=s2.toks+↑([]:List (Str×Value))}) B G am a8 as rfl a4 a1 rfl rfl;have ag:M 0 Y:=T.keep _ _ _ h0 λb j o e=>a1 b o<|a3 b o e;obtain⟨W,⟨m0,w0⟩,turn⟩:=hw s2⁻¹ b2;have ae:∀{H':Hp},(∀b∈fp,H' b=none)->∀b∈fp,dR (cX X scope N' {s2 with heap:=f} (upd H2 s2⁻¹<|.lst []) f.objs.size fp) [] H' b:=λhn b j=>by
  refine⟨hn b j,bV<|a8 b j,?_,.inl j,λx c h=>(l b j).2.2.2.2.1 x c (B.back I.ok h).1,λp hp=>absurd (show p∈([]:List (Addr×Obj)) from hp)<|by simp⟩;intro z;rcases wp9.mp (G.stkSub b z)with y | y
  .exact(l b j).2.1 y
  .exact(l b j).2.2.1 y
 have b4:∀(s':Shared)(σ':St)(H':Hp),Inv (cX X scope N' {s2 with heap:=f} (upd H2 s2⁻¹<|.lst []) f.objs.size fp) [] σ' H' s'->Q s2⁻¹ H'->RR (.ref s2⁻¹) f.objs.size (.ok .next) s':=λs' σ' H' L q=>by
  obtain⟨hh,gg,dd,a9,au⟩:=s';have av:au=s2.os:=L.os;subst av;have IX:Inv X pins σ H' {({s2 with heap:=f}:Shared)with heap:=hh,gens:=gg,drawn:=dd,toks:=a9}:=Inv.call (s:={s2 with heap:=f}) G (h':=hh) (g':=gg) (d':=dd) (t':=a9) (ch:=fp) L.base L.hok L.bare λb j=>⟨(l b j).2.2.2.1,(l b j).2.1,(l b j).2.2.2.2.1,(l b j).2.2.2.2.2⟩;have b5:s2⁻¹<=f.objs.size:=cN a2;have an:f.objs.size≠X.env.locals:=dM G.lt;have ao:∀x c,X.env.cells.lookup x=some c->c≠f.objs.size:=λx c e z=>by
   obtain⟨v,q⟩:=G.cell x c e;exact absurd (show c<f.objs.size from q.lt) (by rw[z];exact iD _)
  have aj:∀p∈X.pn++pins,p.1≠f.objs.size:=λp hp z=>by
   have:=bP (G.pin p hp).1;exact absurd (show p.1<f.objs.size from this) (by rw[z];exact iD _)
  have ah:H' f.objs.size=none:=L.free;obtain⟨m,hm,_⟩:=L.loc;refine hQ _ _ H' _ (dM a2) ⟨m,hm⟩ (λaf sb=>?_) IX ah an ao (fX G.sz<|aW _) aj q;exact IX.turned (t':=a9) (λb o j e=>(sb.2 b j).trans e) ah an (.inr<|fX G.sz<|aW _) ao aj
 have H:∀N:Shared,N={s2 with heap:=Y,toks:=s2.toks+↑([]:List (Str×Value))}->
   codeAny (model X.prog X.w) X.A (.compLoop (.ListComp ab [⟨tg,iter,aa,0⟩] scope pos) 0 (.ref it) (.ref s2⁻¹)<|compEnvC scope (cB X.env scope.names) f.objs.size X.env)
    (RR (.ref s2⁻¹) f.objs.size) N:=by
  rintro N rfl;refine Ae (λn s'=>∃i σ' H',Inv (cX X scope N' {s2 with heap:=f} (upd H2 s2⁻¹<|.lst []) f.objs.size fp) [] σ' H' s'/\M i s'.heap/\(∀b∈fp,H' b=none)/\W i n σ' H') ?_ m0 ⟨0,_,_,ay,ag,λb j=>(am b j).1,w0⟩;rintro n s5 ⟨i,σ5,P,I5,al,ai,w5⟩;rcases turn i n σ5 P w5 with ⟨stop,qn⟩ | ⟨go,Nx,hN,step⟩
  .refine aU (T.done (cX X scope N' {s2 with heap:=f} (upd H2 s2⁻¹<|.lst []) f.objs.size fp) rfl rfl rfl hc i [] s5 σ5 P _ I5 (ae ai) al stop) ?_;rintro r s6 ⟨hr,I6⟩;subst hr;exact b4 s6 σ5 P I6 qn
  .refine aU (T.item (cX X scope N' {s2 with heap:=f} (upd H2 s2⁻¹<|.lst []) f.objs.size fp) rfl rfl rfl hc i [] s5 σ5 P _ I5 (ae ai) al go) ?_;rintro r s6 ⟨u,hr,h6⟩;subst hr;refine aU h6 ?_;rintro _ s7 ⟨x,H7,I7,r7,y7,ac,ap⟩;have aw:=I7.pinned (ae ap)<|T.obj _ _ ac;refine aU (hg _ _ _ _ s7 σ5 H7 x u _ aw r7<|step x H7 y7) ?_;rintro _ s8 ⟨σ8,H8,I8,q8⟩;refine aU (ht _ _ _ _ s8 σ8 H8 _ I8 q8) ?_;rintro ok s9 ⟨H9,I9,q9⟩;have again:∀{σa:St}{O:Hp}{Z:Shared},Inv (cX X scope N' {s2 with heap:=f} (upd H2 s2⁻¹<|.lst []) f.objs.size fp) ([]++wP fp s7.heap) σa O Z->Nx σa O->
     ∃m,m<n/\∃i σ' H',Inv (cX X scope N' {s2 with heap:=f} (upd H2 s2⁻¹<|.lst []) f.objs.size fp) [] σ' H' Z/\M i Z.heap/\(∀b∈fp,H' b=none)/\W i m σ' H':=λ{σa O Z} Ia na=>by
    obtain⟨m',hm,wa⟩:=hN σa O na;refine⟨m',hm,i+1,σa,O,Ia.unpinned,T.keep _ _ _ ac λb j o e=>(Ia.pin (b,o)<|gM _<|gM _<|wK j e).1,λb j=>?_,wa⟩;obtain⟨o,e,d⟩:=T.obj _ _ ac b j;exact(Ia.pin (b,o)<|gM _<|gM _<|wK j e).2.1
   cases ok with
   | false=>exact again I9 q9
   | true=>
    refine aU (he _ _ _ _ s9 σ8 H9 _ I9 q9) ?_;rintro y ar ⟨v,az,b1,ax,xs,hx,hl,b0⟩;refine aU (fG (X:=cX X scope N' {s2 with heap:=f} (upd H2 s2⁻¹<|.lst []) f.objs.size fp) _ ar σ8 az (.ref s2⁻¹) [v] (.ref s2⁻¹) [y] (λ_ H'=>Nx σ8 H') b1 rfl (.cons ax .nil) ⟨_,xs,v,rfl,rfl,hx,hl,b0⟩) ?_;rintro _ b6 ⟨_,b7,aq,_,b3⟩;exact again aq b3
 exact codeAny_compStart_list (H _ rfl)<|T.self _ 0 _ _ _ ag<|H _ rfl
def ER(wi:TI)(src:List (Option Nat))(g:TG)(tt:TT)(te:TE):TE:=λσ H Q=>wi σ H λJ H2=>∀D,H2 D=none->oT J g tt te D (sub src σ) (upd H2 D<|.lst []) λH'=>Q (.ref D) H'
def iE(o:X.calm=true)(B:BlkN X scope N' src)(hi:PI X tg iter wi)(Y:∀s3 H3 C fp,PG (cX X scope N' s3 H3 C fp) tg g)(O:∀s3 H3 C fp,oC (cX X scope N' s3 H3 C fp) ifs tt)(he:∀s3 H3 C fp,PE (cX X scope N' s3 H3 C fp) elt te)(W:(scope.names.all λy=>decide (y.2=.free->∀z∈scope.names,z.1=y.1->z.2=.free))=true:=by rfl')(hs:∀x,foldedSetIterable iter X.env x=pure x:=by intro _;rfl):
  PE X (.ListComp elt [⟨tg,iter,ifs,0⟩] scope pos) (ER wi src g tt te):=by
 intro j s σ H Q I h;have E:∀x k,(x,k)∈scope.names->k=.free->∀e,(x,e)∈scope.names->e=.free:=λx k d K e Z=>cQ (wt3.mp W (x,k) d) K (x,e) Z rfl;have l:closureFor scope X.env=pure (cB X.env scope.names):=FX λy i f=>I.ok.has y.1<|cQ (wt3.mp B.frees y i) f;have L:∀y∈scope.names,y.2=.local->scope.names.lookup y.1=some .local:=λy i=>cQ<|wt3.mp B.locs y i;rw[eval_ListComp];refine DP (use:=none) rfl hs l B.kind L<|aU (hi j s σ H _ I h) λxv s₁ n=>aU n λaa s2 h2=>?_;obtain⟨it,fp,tn,J,H2,rfl,u,T,h0,f,P⟩:=h2;refine RV (RR:=λr C=>compPost (model X.prog X.w) X.A X.xe none (EP X j σ Q) r C) (Q:=λD H'=>Q (.ref D) H') o B E T u h0 f (λa b c=>Y a b c fp) (λa b c=>O a b c fp) (λa b c=>he a b c fp) P ?_;intro D C H' s' af d N IX a9 ab ad ac ae q;obtain⟨m,d⟩:=d;exact⟨m,d,λM G=>⟨.ref D,H',N M G,rfl,q⟩⟩
def pY(O:X.calm=true)(hN:X.N.Nodup)(ac:X.N[i]?=some y)(f:X.env.scope.names.lookup y=some .local)(B:BlkN X scope N' src)(hi:PI X tg iter wi)(hg:∀s3 H3 C fp,PG (cX X scope N' s3 H3 C fp) tg g)(ht:∀s3 H3 C fp,oC (cX X scope N' s3 H3 C fp) ifs tt)(he:∀s3 H3 C fp,PE (cX X scope N' s3 H3 C fp) elt te)(aa:swapsWith (.ListComp elt [⟨tg,iter,ifs,0⟩] scope pos) (some<|.Name y py) spos.line X.env=pure true:=by rfl)(af:(scope.names.all λy=>decide (y.2=.free->∀z∈scope.names,z.1=y.1->z.2=.free))=true:=by rfl')(hs:∀x,foldedSetIterable iter X.env x=pure x:=by intro _;rfl):
  PS X (.Assign [.Name y py] (.ListComp elt [⟨tg,iter,ifs,0⟩] scope pos) spos) (fZ (ER wi src g tt te)<|bW i):=by
 intro n s σ H D I h;have a4:∀x k,(x,k)∈scope.names->k=.free->∀l,(x,l)∈scope.names->l=.free:=λx k j hk l P=>cQ (wt3.mp af (x,k) j) hk (x,l) P rfl;have Z:closureFor scope X.env=pure (cB X.env scope.names):=FX λy f r=>I.ok.has y.1<|cQ (wt3.mp B.frees y f) r;have a1:∀y∈scope.names,y.2=.local->scope.names.lookup y.1=some .local:=λy f=>cQ<|wt3.mp B.locs y f;rw[exec_Assign_Name_used _ _ _ _ aa];refine aJ<|nM<|aJ ?_;show wpAny _ X.A (do let _ <-comprehension (.ListComp elt [⟨tg,iter,ifs,0⟩] scope pos) scope X.env _ (newList []) false (eval iter X.env) (some<|assign (.Name y py) X.env)) _ _ s;have h':wi σ H λJ H2=>∀d,H2 d=none->oT J g tt te d (sub src σ) (upd H2 d<|.lst []) λH'=>D.nx (σ.set i<|some<|.ref d) H':=h;refine aJ<|fV (DP (use:=some<|assign (.Name y py) X.env) (Q:=λ_ s'=>SP X n D .next s') rfl hs Z B.kind a1<|aU (hi n s σ H _ I h') λxv s₁ L=>aU L λak s2 h2=>?_) (λ_ s' hq=>bJ<|bJ hq) λ_ _ e=>e
 obtain⟨it,fp,tn,J,H2,rfl,Y,T,h0,r,hw⟩:=h2;refine RV (RR:=λK C=>compPost (model X.prog X.w) X.A X.xe (some<|assign (.Name y py) X.env) (λ_ s'=>SP X n D .next s') K C) (Q:=λd H'=>D.nx (σ.set i<|some<|.ref d) H') O B a4 T Y h0 r (λa b c=>hg a b c fp) (λa b c=>ht a b c fp) (λa b c=>he a b c fp) hw ?_;intro d C H' s' am j aj IX a7 E u a8 ab q;obtain⟨m,j⟩:=j;show wpAny _ X.A (assign (.Name y py) X.env<|.ref d) _ _ _;refine wpAny_assign_Name ?_;refine MG (v:=.ref d) IX hN ac (.inl f) rfl (λM W G=>?_)<|.inr f;obtain⟨a,ai,ha⟩:=G;have ah:C≠a:=by
  rintro rfl;rcases ha with z | z
  .exact E z
  .exact u _ _ z rfl
 refine⟨m,j.sameBut ai ah,λal sb=>⟨_,H',?_,q⟩⟩;exact W.turned (t':=M.toks) (λb o hb e=>(sb.2 b hb).trans e) a7 E (.inr a8) u ab
end
section
variable{pins:List (Addr×Obj)}{σ:St}{H:Hp}{s:Shared}{a:Addr}{o:Obj}{u:HO}
def Bn(ok:HOk P w H h)(e:H a=some u)(f:∀xs,u≠.tup xs)(i:∀y,u≠.own y)(new:ObjOk P w (upd H a v) h a v):HOk P w (upd H a v) h:=λb z q=>by
 by_cases d:b=a
 .subst d;rw[zb1]at q;cases q;exact new
 .rw[aC d]at q;refine(ok b z q).stay (λc j _ r=>r) (λc r=>?_) λc xs r=>?_
  .rw[aC];exact r;rintro rfl;rw[e]at r;cases r;exact i _ rfl
  .rw[aC];exact r;rintro rfl;rw[e]at r;cases r;exact f _ rfl
def Inv.swap(I:Inv X pins σ H s)(e:H a=some u)(f:∀xs,u≠.tup xs)(l:∀y,u≠.own y)(j:∀ps,u≠.tbl ps)(hz:∀d y,X.H₀ a≠some (.frz d y))(new:ObjOk X.prog X.w (upd H a v) s.heap a v):Inv X pins σ (upd H a v) s:=by
 have ne:∀b,H b=none->b≠a:=λb n z=>by subst z;rw[e]at n;cases n
 refine⟨I.ok,I.os,I.bare,⟨I.base.keep,I.base.slot,λb d q n i=>?_,I.base.there,λb xs q=>?_,λb d y q=>?_,λb ps q=>?_⟩,I.loc,I.cell,?_,λx c h=>?_,λp hp=>?_,Bn I.hok e f l new,I.len⟩
 .have:=I.base.free b d q n i;rw[aC<|ne b this];exact this
 .have:=I.base.tups b xs q;rw[aC];exact this;rintro rfl;rw[e]at this;cases this;exact f _ rfl
 .have:=I.base.frzs b d y q;rw[aC];exact this;rintro rfl;exact hz _ _ q
 .obtain⟨m,this⟩:=I.base.tbls b ps q;exists m;rw[aC];exact this;rintro rfl;rw[e]at this;cases this;exact j _ rfl
 .rw[aC<|ne _ I.free];exact I.free
 .rw[aC<|ne _<|I.freeC x c h];exact I.freeC x c h
 .obtain⟨h1,h2,o⟩:=I.pin p hp;exact⟨h1,by rw[aC<|ne _ h2];exact h2,o⟩
def Inv.unfrozen(I:Inv X pins σ H s)(e:H a=some (.dK kvs)):∀b y,X.H₀ a≠some (.frz b y):=λb y q=>by
 have:=I.base.frzs a b y q;rw[e]at this;cases this
def Inv.freeze(I:Inv X pins σ H s)(e:H a=some (.dK kvs))(b:s.heap.get? a=some o):Inv X pins σ (upd H a<|.frz o<|.dK kvs) s:=
 I.swap e (λ_ h=>nomatch h) (λ_ h=>nomatch h) (λ_ h=>nomatch h) (I.unfrozen e) ⟨b,I.hok a _ e⟩
def Inv.thaw(I:Inv X pins σ H s)(e:H a=some (.frz o<|.dK kvs))(hz:∀ob y,X.H₀ a≠some (.frz ob y)):Inv X pins σ (upd H a<|.dK kvs) s:=
 I.swap e (λ_ h=>nomatch h) (λ_ h=>nomatch h) (λ_ h=>nomatch h) hz (I.hok a _ e).2
end
def oG(ok:Hp->Prop)(xs:List V):It:=⟨λi H=>ok H/\i<↑xs,λi H x H'=>H'=H/\xs[i]?=some x,λi H=>ok H/\↑xs<=i⟩
def EJ(a:Addr)(o:Obj)(kvs:List (aF×V))(H:Hp):Prop:=H a=some (.frz o<|.dK kvs)
def KV.get(r:KV kvs vs):∀{i:Nat}{k:aF}{x:Value},vs[i]?=some (k,x)->∃v,kvs[i]?=some (k,v)/\RelV v x:=by
 unfold KV at r
 induction r with
 | nil=>intro i k x h;simp at h
 | @cons p q ps qs h t ih=>
  intro i k x a;cases i with
  | zero=>
   simp at a;subst a;obtain⟨b,p2⟩:=p;obtain⟨h1,h2⟩:=h;have h1:b=k:=h1;subst h1;exact⟨p2,by simp,h2⟩
  | succ i=>simpa using ih (by simpa using a)
def MJ{P:Program}{w:World}{h:Heap}{a:Addr}{o:Obj}{kvs:List (aF×V)}(f:h.get? a=some o)(d:∃vs,KV kvs vs/\h.DictOf (cI P w) a vs):
  ∃vs ep,KV kvs vs/\∀h':Heap,h'.get? a=some o->h'.DictAt (cI P w) a vs ep:=by
 obtain⟨vs,r,o',es,ep,e,q⟩:=d;rw[f]at e;cases e;exact⟨vs,ep,r,λh' b=>⟨o,es,b,q⟩⟩
def WY{P:Program}{w:World}{K:Fq}{tg:Expr}{o:Obj}{kvs:List (aF×V)}{vs:List (aF×Value)}{ep:Nat}(a it:Addr)(Y:a≠it)(r:KV kvs vs)(hd:∀h':Heap,h'.get? a=some o->h'.DictAt (cI P w) a vs ep):
  fC P w K tg (oG (EJ a o kvs)<|kvs.map λkv=>kV kv.1) [it] it (λi h=>h.IsKeyIter it a i ↑vs ep) where
 mem:=by simp
 obj:=λi h st b f=>by
  have e:b=it:=by simpa using f
  subst e;obtain⟨o,e,c,d⟩:=st;exact⟨o,e,λv z=>by rw[d]at z;cases z⟩
 keep:=λi h h' st k=>st.at λo e=>k it (by simp) o e
 item:=by
  intro X L G C B i O s σ H E I j st N;subst L G C;obtain⟨hz,hi⟩:=N;have q:=(I.hok a _ hz).1;obtain⟨M,m,f2,u,J,l⟩:=j it (by simp);have hl:i<↑vs:=by rw[<-↑r];simpa using hi
  have W:=Walks.dictKeys (prog:=X.prog) (w:=X.w) (knd:=cI X.prog X.w) (A:=X.A) (I.ok.hd B) it a Y vs ep;refine W.item i s _ _ hl ⟨st,hd _ q⟩ λv h' tk hv T kk=>?_;obtain⟨k,x,Z,hk⟩:=hv;have I1:Inv X O σ H {s with heap:=h',toks:=tk}:=I.turned (λb o f e=>kk b o (by simpa using f) e) M m u J l;obtain⟨o',e',c',d'⟩:=id T.1;obtain⟨v',a3,_⟩:=r.get Z;refine⟨_,rfl,uN (s:={s with heap:=h',toks:=tk}) e' c' d' (by decide) ⟨kV k,H,I1,?_,⟨rfl,by rw[bO,a3];rfl⟩,T.1,λb f=>(j b f).1⟩⟩;rcases jA hk with ⟨n,t,rfl,rfl⟩ | ⟨n,t,rfl,rfl⟩
  .exact⟨t,rfl⟩
  .exact⟨t,rfl⟩
 done:=by
  intro X L G C B i O s σ H E I j st N;subst L G C;obtain⟨hz,hi⟩:=N;have q:=(I.hok a _ hz).1;obtain⟨M,m,f2,u,J,l⟩:=j it (by simp);have hl:↑vs<=i:=by rw[<-↑r];simpa using hi
  exact wpAny_pyNext_dict_end (I.ok.hd B) st (hd _ q) (by simpa using hl) λh' a4=>⟨rfl,I.turned (t':=s.toks) (λb o f e=>a4 b o f e) M m u J l⟩
 self:=λ_ _ _ _ _ st h=>wpAny_pyIter_keyiter st h
def Bb{P:Program}{w:World}{K:Fq}{tg:Expr}{o:Obj}{kvs:List (aF×V)}{vs:List (aF×Value)}{ep:Nat}(a it:Addr)(O:a≠it)(r:KV kvs vs)(hd:∀h':Heap,h'.get? a=some o->h'.DictAt (cI P w) a vs ep):
  fC P w K tg (oG (EJ a o kvs)<|kvs.map λkv=>kv.2) [it] it (λi h=>h.IsValIter it a i ↑vs ep) where
 mem:=by simp
 obj:=λi h st b f=>by
  have e:b=it:=by simpa using f
  subst e;obtain⟨o,e,c,d⟩:=st;exact⟨o,e,λv z=>by rw[d]at z;cases z⟩
 keep:=λi h h' st k=>st.at λo e=>k it (by simp) o e
 item:=by
  intro X G B x u i M s σ H E I j st L;subst G B x;obtain⟨hz,hi⟩:=L;have n:=(I.hok a _ hz).1;obtain⟨J,m,Y,q,C,l⟩:=j it (by simp);have hl:i<↑vs:=by rw[<-↑r];simpa using hi
  have W:=Walks.dictValues (prog:=X.prog) (w:=X.w) (knd:=cI X.prog X.w) (A:=X.A) (I.ok.hd u) it a O vs ep;refine W.item i s _ _ hl ⟨st,hd _ n⟩ λv h' tk hv N Z=>?_;obtain⟨k,T⟩:=hv;have I1:Inv X M σ H {s with heap:=h',toks:=tk}:=I.turned (λb o f e=>Z b o (by simpa using f) e) J m q C l;obtain⟨o',e',c',d'⟩:=id N.1;obtain⟨v',a3,rv⟩:=r.get T;exact⟨_,rfl,uN (s:={s with heap:=h',toks:=tk}) e' c' d' (by decide) ⟨v',H,I1,rv,⟨rfl,by rw[bO,a3];rfl⟩,N.1,λb f=>(j b f).1⟩⟩
 done:=by
  intro X G B x u i M s σ H E I j st L;subst G B x;obtain⟨hz,hi⟩:=L;have n:=(I.hok a _ hz).1;obtain⟨J,m,Y,q,C,l⟩:=j it (by simp);have hl:↑vs<=i:=by rw[<-↑r];simpa using hi
  exact wpAny_pyNext_values_end (I.ok.hd u) st (hd _ n) (by simpa using hl) λh' a4=>⟨rfl,I.turned (t':=s.toks) (λb o f e=>a4 b o f e) J m q C l⟩
 self:=λ_ _ _ _ _ st h=>wpAny_pyIter_valiter st h
section
variable{tg:Expr}
def zU(te:TE):TI:=λσ H R=>te σ H λx H1=>∃a kvs,x=.ref a/\H1 a=some (.dK kvs)/\∀o,R (oG (EJ a o kvs)<|kvs.map λkv=>kV kv.1)<|upd H1 a<|.frz o<|.dK kvs
def FL(hl:PE X l te):PI X tg l (zU te):=by
 intro B s σ H R I h;refine aU (hl B s σ H _ I h) ?_;rintro v d ⟨x,H1,n,A,u⟩;obtain⟨a,kvs,e,m,q⟩:=u;subst e;cases A;obtain⟨hz,w,hd⟩:=xL n.hok m;obtain⟨o,f⟩:∃o,d.heap.get? a=some o:=by obtain⟨vs,_,o,_,_,e,_⟩:=hd;exact⟨o,e⟩
 obtain⟨vs,ep,r,j⟩:=MJ f hd;refine wpAny_pyIter_dict w (j _ f) ?_;have i:=n.freeze m f;refine⟨d⁻¹,[d⁻¹],_,_,_,rfl,i.kept (t':=d.toks) λb o e=>bU _ e,WY a _ (bV<|bP f) r j,⟨_,dG _ rfl,rfl,rfl⟩,λb z=>?_,q o⟩;have e:b=d⁻¹:=by simpa using z
 subst e;exact i.fpOk (aW _)<|i.hok.fresh<|aW _
def zO(te:TE):TI:=λσ H R=>te σ H λx H1=>∃a kvs,x=.ref a/\H1 a=some (.dK kvs)/\∀o,R (oG (EJ a o kvs)<|kvs.map λkv=>kv.2)<|upd H1 a<|.frz o<|.dK kvs
def XB(hl:PE X l te)(base:attributeBase l "values" X.env (eval l X.env)=eval l X.env:=by rfl)(few:((backTo cpos<|starEach [] X.env).all (λx=>!x.1) && (backToKw cpos<|keywordEach [] X.env).all (λx=>x.1.isSome) && decide (↑([]:List Expr)+↑([]:List Keyword)+(if ([]:List Keyword).isEmpty then 0 else 1)<30))=true:=by rfl)(i:(apos.endLine == cpos.line)=true:=by rfl)(f:backTo cpos (starEach [] X.env)=[]:=by rfl):PI X tg (.Call (.Attribute l "values" apos) [] [] cpos) (zO te):=by
 intro C s σ H R I h;refine vZ base few i wG PySem.F.slot_dict_values PySem.F.type_dict_values<|aU (hl C s σ H _ I h) ?_;rintro u d ⟨x,H1,n,J,a,kvs,ex,A,q⟩;subst ex;obtain rfl:u=Value.ref a:=J;obtain⟨E,K,G⟩:=wI n<|.inl ⟨kvs,.inl A⟩;exists E,K;rw[f];refine pX rfl<|PySem.evalArgs_none ?_;obtain⟨hz,_,hd⟩:=xL n.hok A;obtain⟨o,j⟩:∃o,d.heap.get? a=some o:=by obtain⟨vs,_,o,_,_,e,_⟩:=hd;exact⟨o,e⟩
 obtain⟨vs,ep,r,z⟩:=MJ j hd;refine oP PySem.F.slot_dict_values E PySem.F.entry_dict_values (PySem.F.args_dict_values_1 _) (meets_dict_values (cI X.prog X.w) a G) ⟨⟨vs,(z _ j).dictOf⟩,?_⟩;have m:(d.heap.push {cls:=.type "dict_values",data:=.fields #[.ref a]}).get? a=some o:=bU _ j;have L:Inv X C σ H1 {d with heap:=d.heap.push {cls:=.type "dict_values",data:=.fields #[.ref a]}}:=n.kept (t':=d.toks) λb o e=>bU _ e;refine wpAny_pyIter_values (s:={d with heap:=d.heap.push {cls:=.type "dict_values",data:=.fields #[.ref a]}}) ⟨_,dG _ rfl,rfl,rfl⟩ (z _ m) ?_;have B:=L.freeze A m;refine⟨_,[_],_,_,_,rfl,B.kept (t':=d.toks) λb o e=>bU _ e,Bb a _ (bV<|bP m) r z,⟨_,dG _ rfl,rfl,rfl⟩,λb M=>?_,q o⟩;rw[wq1.mp M];exact B.fpOk (aW _)<|B.hok.fresh<|aW _
def zZ(t:TE):TE:=λσ H Q=>∃a kvs,H a=some (.dK kvs)/\t σ H λv H'=>∃o,H' a=some (.frz o<|.dK kvs)/\Q v (upd H' a<|.dK kvs)
def RF(h:PE X e t):PE X e (zZ t):=by
 intro f s σ H Q I ⟨a,kvs,i,q⟩;have hz:=I.unfrozen i;refine aU (h f s σ H _ I q) <| by rintro u l ⟨x,H1,j,d,o,h1,b⟩;exact⟨x,_,j.thaw h1 hz,d,b⟩
def zE(D:dB)(a:Addr)(kvs:List (aF×V)):dB where
 nx:=λσ H=>∃o,H a=some (.frz o<|.dK kvs)/\D.nx σ (upd H a<|.dK kvs)
 rt:=λv H=>∃o,H a=some (.frz o<|.dK kvs)/\D.rt v (upd H a<|.dK kvs)
 bk:=λσ H=>∃o,H a=some (.frz o<|.dK kvs)/\D.bk σ (upd H a<|.dK kvs)
 ct:=λσ H=>∃o,H a=some (.frz o<|.dK kvs)/\D.ct σ (upd H a<|.dK kvs)
def BP(t:TS):TS:=λD σ H=>∃a kvs,H a=some (.dK kvs)/\t (zE D a kvs) σ H
def PU{st:Stmt}{t:TS}(h:PS X st t):PS X st (BP t):=by
 intro i s σ H D I ⟨a,kvs,j,q⟩;have hz:=I.unfrozen j;refine aU (h i s σ H _ I q) λf l e=>?_;cases f with
 | next=>obtain⟨σ',H',d,o,h1,b⟩:=e;exact⟨σ',_,d.thaw h1 hz,b⟩
 | brk=>obtain⟨σ',H',d,o,h1,b⟩:=e;exact⟨σ',_,d.thaw h1 hz,b⟩
 | cont=>obtain⟨σ',H',d,o,h1,b⟩:=e;exact⟨σ',_,d.thaw h1 hz,b⟩
 | ret u=>obtain⟨v,σ',H',d,r,o,h1,b⟩:=e;exact⟨v,σ',_,d.thaw h1 hz,r,b⟩
end
def BN(K:Fq)(a:Addr):It:=
 ⟨λi H=>∃xs x,SqL K H a xs/\xs[i]?=some x,λi H x H'=>∃p y,H p=none/\x=.ref p/\H'=upd H p (.tup [.int i,y])/\∀xs,SqL K H a xs->xs[i]?=some y,λi H=>∃xs,SqL K H a xs/\↑xs<=i⟩
def YQ{P:Program}{w:World}{K:Fq}{es:List Expr}{k:Nat}{pos:Pos}(a e it:Addr)(ac:e≠it):fC P w K (.Tuple es k pos) (BN K a) [e,it] e (λi h=>(∃old,IsEnum h e it i old)/\h.IsListIter it a i) where
 mem:=by simp
 obj:=λi h st b f=>by
  obtain⟨⟨old,he⟩,hi⟩:=st;rcases wp9.mp f with rfl | f
  .exact⟨_,he,λv z=>by
    have z':Data.fields _=Data.cell v:=z;cases z'⟩
  .have e:b=it:=by simpa using f
   subst e;obtain⟨o,e,c,d⟩:=hi;exact⟨o,e,λv z=>by rw[d]at z;cases z⟩
 keep:=λi h h' st kp=>by
  obtain⟨⟨old,he⟩,hi⟩:=st;exact⟨⟨old,kp e (by simp) _ he⟩,hi.at λo x=>kp it (by simp) o x⟩
 item:=by
  intro X hP hw hK j i Y s σ H E I M st hg;subst hP hw hK;obtain⟨xs,x,L,A⟩:=hg;obtain⟨⟨old,he⟩,W⟩:=st;obtain⟨its,rv,p,hz⟩:=I.list L;obtain⟨u,hu,ru⟩:=rv.get A;obtain⟨f0,f1,f2,f3,f4,f5⟩:=M e (by simp);obtain⟨N,G,g2,g3,g4,g5⟩:=M it (by simp);have a7:e<s⁻¹:=bP he;have a9:it<s⁻¹:=by obtain⟨_,x,_⟩:=W;exact bP x
  refine wpAny_pyNext_enum_item he W p.isList (x:=u) (by simpa using hu) ac λh' ho aa hT hsz kk=>?_
  refine⟨_,rfl,wpAny_letOwnedTupleGo_enum (s:={s with heap:=h',toks:=s.toks+1}) ho λB a8 a1=>?_⟩;have ab:s⁻¹≠e:=dM a7;have af:s⁻¹≠it:=dM a9;have C:H s⁻¹=none:=I.hok.fresh<|aW _;have keep:∀b o,b≠e->b≠it->s.heap.get? b=some o->B.get? b=some o:=λb o h1 h2 e=>(a1.2 b h1).trans<|kk b o h1 h2 e;have O:∀b u,H b=some u->b≠e/\b≠it:=λb u J=>⟨λz=>(by rw[z,f0]at J;cases J),λz=>(by rw[z,N]at J;cases J)⟩
  have l:Inv X Y σ H {s with heap:=B,toks:=s.toks+1}:=by
   refine I.step (g':=s.gens) (d':=s.drawn) (ch:=[e,it]) (λb f=>?_) (λb o _ _ j e _=>keep b o (λz=>j<|by simp[z]) (λz=>j<|by simp[z]) e) (λb o _ _ j e _=>⟨o.slots,keep b o (λz=>j<|by simp[z]) (λz=>j<|by simp[z]) e⟩)
    (λ_ _ _ _ n=>n) (λb o j e=>⟨o,keep b o (λz=>j<|by simp[z]) (λz=>j<|by simp[z]) e⟩) (λ_ _ e=>e) (λ_ _ _ e=>e) (λb ps e=>⟨#[],by rw[e];simp⟩) (λm hm=>?_) (λb u eq=>?_) I.bare
   .rcases wp9.mp f with rfl | f
    .exact⟨f3,f1,f4,f5⟩
    .have e:b=it:=by simpa using f
     subst e;exact⟨g3,G,g4,g5⟩
   .obtain⟨o,es,ep,ho,r⟩:=hm;exact⟨o,es,ep,keep _ o (bK f1) (bK G) ho,r⟩
   .refine(I.hok b u eq).stay (λc v j q=>keep c v ?_ ?_ q) (λ_ q=>q) λ_ _ q=>q
    .rcases j with z | z
     .rw[z];exact(O b u eq).1
     .exact(O c _ z).1
    .rcases j with z | z
     .rw[z];exact(O b u eq).2
     .exact(O c _ z).2
  have ad:B.get? s⁻¹=some {cls:=.type "tuple",data:=.seq #[.int i s.toks,u]}:=(a1.2 _ ab).trans hT;have I1:Inv X Y σ (upd H s⁻¹<|.tup [.int i,x]) {s with heap:=B,toks:=s.toks+1}:=by
   have base:=l.base;have Z:HOk X.prog X.w (upd H s⁻¹<|.tup [.int i,x]) B:=by
    intro b z q
    by_cases f:b=s⁻¹
    .subst f;rw[zb1]at q;cases q;refine⟨⟨by show 2<=sizeLine;decide,_,ad,rfl⟩,[.int i s.toks,u],.cons ⟨_,rfl⟩<|.cons ru .nil,_,ad,rfl,_,rfl⟩
    .rw[aC f]at q;refine(l.hok b z q).stay (λc w' _ r=>r) (λc r=>?_) λc xs r=>?_
     .rw[aC<|aP r C];exact r
     .rw[aC<|aP r C];exact r
   have old:∀b o',X.s₀.heap.get? b=some o'->b≠s⁻¹:=λb o' e=>bV<|fU (bP e) I.sz;refine⟨l.ok,l.os,l.bare,⟨base.keep,base.slot,λb T q n A=>?_,base.there,λb ys q=>?_,λb T y q=>?_,λb ps q=>?_⟩,l.loc,l.cell,?_,λy c h=>?_,λp hp=>?_,Z,l.len⟩
   .rw[aC<|old b T q];exact base.free b T q n A
   .have:=base.tups b ys q;rw[aC<|aP this C];exact this
   .have:=base.frzs b T y q;rw[aC<|aP this C];exact this
   .obtain⟨m,this⟩:=base.tbls b ps q;exact⟨m,by rw[aC<|aP this C];exact this⟩
   .rw[aC<|bV I.lt];exact I.free
   .obtain⟨v,q⟩:=I.cell y c h;rw[aC<|bV q.lt];exact I.freeC y c h
   .obtain⟨h1,h2,h3⟩:=l.pin p hp;have:=bP (I.pin p hp).1;exact⟨h1,by rw[aC<|bV this];exact h2,h3⟩
  have a6:B.IsListIter it a (i+1):=aa.at λo y=>(a1.2 it ac.symm).trans y;have ae:IsEnum B e it ((i+1:Nat):Int) u:=by simpa using a8
  refine⟨.ref s⁻¹,_,I1,rfl,⟨_,x,C,rfl,rfl,λys hy=>by rw[I.list_inj hy L];exact A⟩,⟨⟨u,ae⟩,a6⟩,λb f=>?_⟩;rcases wp9.mp f with rfl | f
  .rw[aC<|bK ab];exact f0
  .have e:b=it:=by simpa using f
   subst e;rw[aC<|bK af];exact N
 done:=by
  intro X hP hw hK j i Y s σ H E I M st hg;subst hP hw hK;obtain⟨xs,L,A⟩:=hg;obtain⟨⟨old,he⟩,W⟩:=st;obtain⟨its,rv,p,hz⟩:=I.list L;obtain⟨N,G,g2,g3,g4,g5⟩:=M it (by simp);have hl:=↑rv;refine wpAny_pyNext_enum_end (I.ok.hd j) he W p.isList (FH<|by simp;lia) λh' A=>⟨rfl,I.turned (t':=s.toks) (λb o f e=>A b o f e) N G g3 g4 g5⟩
 self:=λ_ _ _ _ _ st h=>by
  obtain⟨⟨old,he⟩,_⟩:=st;exact wpAny_pyIter_enum he h
def AV(K:Fq)(ta:TA):TI:=λσ H R=>ta σ H λvs H1=>∃a xs,vs=[.ref a]/\SqL K H1 a xs/\R (BN K a) H1
theorem boot_enumerate:bootBuiltins "enumerate"=some (.type "enumerate"):=by first | exact PySem.boot_enumerate | rfl
def WN{X:Cx}{es:List Expr}{k:Nat}{A:Pos}{a:Expr}{ta:TA}{p pos:Pos}(B:Gl X "enumerate")(w:X.mg "enumerate"=none)(E:PA X [a] ta)(hs:starEach [a] X.env=[(false,eval a X.env)]:=by rfl):PI X (.Tuple es k A) (.Call (.Name "enumerate" p) [a] [] pos) (AV X.K ta):=by
 intro j s σ H R I h;refine Call_<|lG I B w boot_enumerate<|oO (aU (E pos j s σ H _ I h) λus d ⟨vs,H1,f,x,n⟩=>?_) hs rfl;obtain⟨l,xs,e,C,q⟩:=n;subst e;cases x with
 | cons r rr=>
  cases rr;cases r;obtain⟨its,G,z,hz⟩:=f.list C;refine call_enumerate_list z.isList λh' he m hsz o=>?_;refine wpAny_pyIter_enum (s:={d with heap:=h'}) he ?_;have u:Inv X j σ H1 {d with heap:=h'}:=f.kept (t':=d.toks) o;refine⟨d⁻¹+1,[d⁻¹+1,d⁻¹],_,_,H1,rfl,u,YQ l _ _<|Nat.succ_ne_self _,⟨⟨_,he⟩,m⟩,λb i=>?_,q⟩;rcases wp9.mp i with rfl | i
  .exact f.fpOk (nC _)<|f.hok.fresh<|nC _
  .have e:b=d⁻¹:=by simpa using i
   subst e;exact f.fpOk (aW _)<|f.hok.fresh<|aW _
def Az(h:Q 0xFCA86420 {s with toks:=s.toks+1}):wpAny (model prog w) A (pyHash .none) Q E s:=by
 unfold pyHash pyHashByItsType;have a:[Value.none].any Value.onHeap=false:=rfl;refine aJ ?_;rw[cRoomFor,aZ<|by rw[a];exact eJ];refine bJ ?_;refine aJ<|nP (typeIs_none s) vc3.lookup ?_;show wpAny _ _ (if (some (Value.builtin "NoneType.__hash__") == some Value.none)=true then _ else _) Q E s;rw[aZ<|by rw[beq_builtin_none];exact eJ];refine aJ<|nP (typeIs_none s) vc3.lookup ?_;show wpAny _ _ (callSpecialIfBoundUnlessNone? .none "__hash__" _ >>= _) Q E s;refine aJ (wpAny_callSpecialIfBoundUnlessNone?_slot (typeIs_none s) vc3 (kG vc3 (typeIs_none s) PySem.F.entry_NoneType_hash
   (show wpAny _ _ (do ret<|<-mkInt 0xFCA86420) _ _ s from wpAny_ret_mkInt ?_) (PySem.F.args_NoneType_hash_1 _)))
 show wpAny _ _ (if (decide (-(2:Int) ^ 63<=0xFCA86420) && decide ((0xFCA86420:Int)<2 ^ 63))=true then _ else _) Q E _;rw[bC<|by decide];exact bJ h
def FR:Option aF->Value->Bool
 | some k,v=>iU k v
 | none,v=>match v with | .none=>true | _=>false
def lX(h:FR none v=true):v=.none:=by
 cases v <;> first | rfl | (simp[FR]at h)
def IG:iU k .none=false:=by cases k <;> rfl
def AQ(w:World):Option aF->Int
 | some k=>zY w k
 | none=>0xFCA86420
def KM(prog:Program)(w:World):PySem.KeyKind prog w (Option aF) where
 is:=FR
 hash:=AQ w
 inj:=λv a b ha hb=>by
  cases a with
  | none=>
   have e:=lX ha;subst e;cases b with
   | none=>rfl
   | some b=>have hb:iU b .none=true:=hb;rw[IG]at hb;cases hb
  | some a=>
   cases b with
   | none=>
    have e:=lX hb;subst e;have ha:iU a .none=true:=ha;rw[IG]at ha;cases ha
   | some b=>exact cF some<|(cI prog w).inj v a b ha hb
 byValue:=λk v h=>by
  cases k with
  | none=>rw[lX h];rfl
  | some k=>exact(cI prog w).byValue k v h
 pyHash:=λ{A E s k v Q} hv h=>by
  cases k with
  | none=>rw[lX hv];exact Az h
  | some k=>exact(cI prog w).pyHash (k:=k) hv h
 eqBool:=λ{A E s a b u v Q} hu hv h=>by
  cases a with
  | none=>
   have e:=lX hu;subst e;cases b with
   | none=>
    have e:=lX hv;subst e;have h:Q true s:=by simpa using h
    exact SeqAt.EqAt.same _ _ _ _ _ h
   | some b=>
    have h:Q false s:=by simpa using h
    rcases jA hv with ⟨i,t,rfl,rfl⟩ | ⟨x,t,rfl,rfl⟩
    .exact SeqAt.EqAt.none_int _ _ _ _ _ _ h
    .exact SeqAt.EqAt.none_str _ _ _ _ _ _ h
  | some a=>
   cases b with
   | none=>
    have e:=lX hv;subst e;have h:Q false s:=by simpa using h
    rcases jA hu with ⟨i,t,rfl,rfl⟩ | ⟨x,t,rfl,rfl⟩
    .exact SeqAt.EqAt.int_none _ _ _ _ _ _ h
    .exact SeqAt.EqAt.str_none _ _ _ _ _ _ h
   | some b=>exact(cI prog w).eqBool (a:=a) (b:=b) hu hv (by simpa using h)
 «strs»:=λk x t v h=>by
  cases k with
  | none=>have:=lX h;cases this
  | some k=>exact(cI prog w).strs k x t v h
def VB{prog:Program}{w:World}{h:Heap}{a:Addr}{vs:List (aF×Value)}(d:h.DictOf (cI prog w) a vs):h.MapOf (KM prog w) a (λk=>k.bind<|valueAt vs):=by
 obtain⟨o,es,ep,e,c,f,i,hp,m⟩:=d;refine⟨o,es,ep,e,c,f,λx b=>?_,λk=>?_⟩
 .obtain⟨k,h1,h2⟩:=i x b;exact⟨some k,h1,h2⟩
 .cases k with
  | none=>
   show findBy FR es none=none;unfold findBy;rw[Array.find?_eq_none.mpr]
   .rfl
   .intro x b;obtain⟨k,h1,_⟩:=i x b;intro z;rw[lX z]at h1;have h1:iU k .none=true:=h1;rw[IG]at h1;cases h1
  | some k=>
   have q:=(Heap.DictOf.mapOf (knd:=cI prog w) ⟨o,es,ep,e,c,f,i,hp,m⟩);obtain⟨o',r,n,j,_,l,_,q⟩:=q;rw[e]at j;cases j;rw[f]at l;cases l;exact q k
section
variable{o e f:Expr}{apos cpos:Pos}{td ty tx:TE}
def mJ(H:Hp)(a:Addr)(y:V)(r:Option V):Prop:=∃kvs,Rd H a (.dK kvs)/\((y=.non/\r=none)\/∃k,y=kV k/\r=aG kvs k)
def vF(td ty:TE):TE:=λσ H Q=>td σ H λx H1=>∃a,x=.ref a/\wQ H1 a/\ty σ H1 λy H2=>∃o,mJ H2 a y o/\Q (o.getD .non) H2
def tN(td ty tx:TE):TE:=λσ H Q=>td σ H λx H1=>∃a,x=.ref a/\wQ H1 a/\ty σ H1 λy H2=>tx σ H2 λz H3=>∃o,mJ H3 a y o/\Q (o.getD z) H3
def YA(K:X.A.units+1<cLine)(C:PE X o td)(he:PE X e ty)(m:M1 X o "get" apos e cpos):PE X (.Call (.Attribute o "get" apos) [e] [] cpos) (vF td ty):=by
 intro j s σ H Q I h;refine vZ m.base m.few m.line wG lK DQ<|aU (C j s σ H _ I h) ?_;rintro u B ⟨x,H1,l,E,a,ex,d,r⟩;subst ex;obtain rfl:u=Value.ref a:=E;obtain⟨N,G,_⟩:=wI l d;exists N,G;rw[m.trees];refine pX rfl<|wW<|lE<|aU (he j B σ H1 _ l r) λJ s2 ⟨y,H2,b,f,P,g,q⟩=>sT ?_;obtain⟨kvs,i,g⟩:=g;rcases g with ⟨rfl,rfl⟩ | ⟨k,rfl,rfl⟩
 .obtain rfl:J=Value.none:=f;obtain⟨z,hd,vs,O,n⟩:=kR b.hok i;exact oP lK n.typeIs xS (JW _ _) (meets_dict_get (KM X.prog X.w) a (k:=none) rfl hd) ⟨_,VB n,⟨.non,H2,b.tok _,rfl,q⟩⟩
 .exact PX K b (.inl ⟨kvs,k,i,rfl,rfl⟩) f λT s3 M L=>⟨_,H2,M,L,q⟩
def WC(O:X.A.units+1<cLine)(K:PE X o td)(he:PE X e ty)(Y:PE X f tx)(m:M2 X o "get" apos e f cpos):PE X (.Call (.Attribute o "get" apos) [e,f] [] cpos) (tN td ty tx):=by
 intro b s σ H Q I h;refine vZ m.base m.few m.line wG lK DQ<|aU (K b s σ H _ I h) ?_;rintro u E ⟨x,H1,n,J,a,ex,d,C⟩;subst ex;obtain rfl:u=Value.ref a:=J;obtain⟨W,L,_⟩:=wI n d;exists W,L;rw[m.trees];refine pX rfl (wW (lE (aU (he b E σ H1 _ n C) λN s2 ⟨y,H2,M,j,Z⟩=>
  lE (aU (Y b s2 σ H2 _ M Z) λT s3 ⟨z,H3,i,q,ov,g,B⟩=>sT ?_))))
 obtain⟨kvs,l,g⟩:=g;rcases g with ⟨rfl,rfl⟩ | ⟨k,rfl,rfl⟩
 .obtain rfl:N=Value.none:=j;obtain⟨_,hd,vs,a2,r⟩:=kR i.hok l;exact oP lK r.typeIs xS (JR _ _ _) (meets_dict_get_default (KM X.prog X.w) a (k:=none) rfl hd T) ⟨_,VB r,⟨z,H3,i.tok _,q,B⟩⟩
 .exact UC O i (.inl ⟨kvs,k,l,rfl,rfl⟩) j q λw' s4 G P=>⟨_,H3,G,P,B⟩
def BX(td ty tx:TE):TE:=λσ H Q=>td σ H λx H1=>∃a,x=.ref a/\wQ H1 a/\ty σ H1 λy H2=>tx σ H2 λz H3=>∃kvs k,H3 a=some (.dK kvs)/\y=kV k/\↑kvs<sizeLine/\
 (∀v,aG kvs k=some v->Q v H3)/\(aG kvs k=none->Q z (upd H3 a<|.dK<|aO kvs k z))
def YS(L:PE X o td)(he:PE X e ty)(hf:PE X f tx)(m:M2 X o "setdefault" apos e f cpos):PE X (.Call (.Attribute o "setdefault" apos) [e,f] [] cpos) (BX td ty tx):=by
 intro j s σ H Q I h;refine vZ m.base m.few m.line wG PySem.F.slot_dict_setdefault PySem.F.type_dict_setdefault<|aU (L j s σ H _ I h) ?_;rintro u K ⟨x,H1,B,M,a,ex,d,J⟩;subst ex;obtain rfl:u=Value.ref a:=M;obtain⟨t1,N,_⟩:=wI B d;exists t1,N;rw[m.trees];refine pX rfl (wW (lE (aU (he j K σ H1 _ B J) λiv s2 ⟨y,H2,O,G,q2⟩=>
  lE (aU (hf j s2 σ H2 _ O q2) λZ s3 ⟨z,H3,n,C,kvs,k,A,Y,hl,T,W⟩=>sT ?_))))
 subst Y;obtain⟨hz,hd,vs,l,E⟩:=xL n.hok A;have b:=l.val k;refine oP PySem.F.slot_dict_setdefault E.typeIs PySem.F.entry_dict_setdefault (PySem.F.args_dict_setdefault_3 _ _ _) (kt_meets_setdefault (cI X.prog X.w) a (jS G) hd Z) ⟨vs,E,by rw[<-↑l];exact hz,λv i=>?_,λi h' r hs=>?_⟩
 .rw[i]at b;cases q:aG kvs k with
  | none=>rw[q]at b;exact False.elim b
  | some v'=>rw[q]at b;exact⟨v',H3,n.tok _,b,T v' q⟩
 .rw[i]at b;cases q:aG kvs k with
  | some v'=>rw[q]at b;exact False.elim b
  | none=>
   have he:∃q,h'.get? a=some q:=let ⟨q,_,_,hq,_⟩:=r;⟨q,hq⟩
   have P:↑(aO kvs k z)<=sizeLine:=by have:=kD kvs k z;lia
   exact⟨z,_,tQ n (by rw[A];exact gD) hs he<|EO P hd (l.put k C) r,C,W q⟩
end
def XG:∀{us:List Value},↑xs=↑us->(∀(i:Nat) x u,xs[i]?=some x->us[i]?=some u->RelV x u)->Vals xs us:=by
 induction xs with
 | nil=>intro us hl h;cases us with
  | nil=>exact .nil
  | cons _ _=>simp at hl
 | cons x xs ih=>intro us hl h;cases us with
  | nil=>simp at hl
  | cons u us=>exact .cons (h 0 x u rfl rfl) (ih (by simpa using hl) λi x u h1 h2=>h (i+1) x u (by simpa using h1)<|by simpa using h2)
def ZI(C:X.calm=true):CallR X (.type "list") (λxs H Q=>∃p kvs,xs=[.ref p]/\Rd H p (.dK kvs)/\∀l,H l=none->Q (.ref l) (upd H l<|.lst<|kvs.map λa=>kV a.1)):=by
 intro M s σ H xs us Q I r h;obtain⟨p,kvs,rfl,A,q⟩:=h;obtain⟨u,rfl,B⟩:=jO r;cases B;obtain⟨hz,z,hd⟩:=kR I.hok A;obtain⟨o,f⟩:∃o,s.heap.get? p=some o:=by obtain⟨vs,_,o,_,_,e,_⟩:=hd;exact⟨o,e⟩
 obtain⟨vs,ep,j,J⟩:=MJ f hd;have L:=↑j;refine PySem.W.kdl_call (PySem.W.kdl_dict (knd:=cI X.prog X.w) (kvs:=vs) (ep:=ep) (d:=p) z) (I.ok.hd C) (J _ f) (by lia) λh' tk b c' kp e m=>?_
 refine⟨.ref s⁻¹,_,I.laid (t':=tk) kp (aW _) (show ObjOk X.prog X.w _ h' _ (.lst<|kvs.map λa=>kV a.1) from ⟨by rw[aK];exact hz,b.toList,c',?_,by simpa using e⟩),rfl,q _<|I.hok.fresh<|aW _⟩;refine XG (by have h1:=m.1;have h2:↑b.toList=b.size:=FD;rw[aK];lia) λi x u h1 h2=>?_
 obtain⟨k,y,K,E⟩:=m.2 i u (by rw[<-Array.getElem?_toList];exact h2);obtain⟨N,G,_⟩:=j.get K;rw[bO,G]at h1;cases h1;rcases jA E with ⟨n,t,rfl,rfl⟩ | ⟨n,t,rfl,rfl⟩
 .exact⟨t,rfl⟩
 .exact⟨t,rfl⟩
def QC{prog:Program}{w:World}{A:Around}{bs:List Bool}{its:List Value}(r:Vals (bs.map V.bl) its):TruthOf prog w A (λi v=>its.toArray[i]?=some v) (λi=>bs.getD i false):=by
 intro i v s Q E a b;have a:its[i]?=some v:=by simpa using a
 have hl:=↑r;rw[aK]at hl;obtain⟨hi,_⟩:=zz2.mp a;have f:bs[i]?=some bs[i]:=bF (by lia);obtain⟨u,d,h⟩:=r.get (i:=i) (x:=V.bl bs[i]) (by rw[bO,f];rfl);rw[a]at d;cases d;obtain rfl:v=Value.bool bs[i]:=h;have e:bs.getD i false=bs[i]:=by rw[eX,f];rfl
 have b:Q (bs.getD i false) s:=b;rw[e]at b;exact uF b
def VU(bs:List Bool):(List.range ↑bs).any (λi=>bs.getD i false)=bs.any id:=by
 rw[sC];simp only[vh8,List.mem_range]
 constructor
 .rintro⟨i,hi,h⟩;exists bs[i],iT hi;rw[eX,bF hi]at h;exact h
 .rintro⟨b,a,h⟩;obtain⟨i,hi,e⟩:=mW a;exists i,hi;rw[eX,bF hi,e];exact h
def An(bs:List Bool):(List.range ↑bs).all (λi=>bs.getD i false)=bs.all id:=by
 rw[sC];simp only[wt3,List.mem_range]
 constructor
 .intro h b a;obtain⟨i,hi,e⟩:=mW a;have:=h i hi;rw[eX,bF hi,e]at this;exact this
 .intro h i hi;rw[eX,bF hi];exact h _<|iT hi
def ZK(j:X.calm=true):CallR X (.builtin "any") (λxs H Q=>∃(p:Addr)(bs:List Bool),xs=[.ref p]/\SqL X.K H p (bs.map V.bl)/\Q (.bl<|bs.any id) H):=by
 intro n s σ H xs us Q I r h;obtain⟨p,bs,rfl,C,q⟩:=h;obtain⟨u,rfl,i⟩:=jO r;cases i;obtain⟨its,d,a,hz⟩:=I.list C;have hl:=↑d;rw[aK]at hl;obtain⟨o,f,_⟩:=id a.isList;refine call_any_walk<|DL a.isList ?_;have B:p≠s⁻¹:=bV<|bP f;have w:Inv X n σ H {s with heap:=s.heap.push {cls:=.type "list_iterator",data:=.fields #[.ref p,.int 0 0]}}:=I.kept (t':=s.toks) λb o e=>bU _ e;refine⟨_,_,_,_,_,_,_,rfl,Walks.list (A:=X.A.in1) (I.ok.hd j) _ p B its.toArray,⟨⟨_,dG _ rfl,rfl,rfl⟩,a.isList.at λo e=>bU _ e⟩,QC d,λh' tk l=>?_⟩;rw[cT,<-hl,VU];refine⟨.bl _,H,w.turned (t':=tk) (λb o m e=>l b o (by simpa using m) e) (I.hok.fresh<|aW _) (dM I.lt) (.inr I.sz) (λx c e z=>?_) λp hp z=>?_,rfl,q⟩
 .obtain⟨v,q⟩:=I.cell x c e;exact absurd q.lt (by rw[z];exact iD _)
 .exact absurd (bP (I.pin p hp).1) (by rw[z];exact iD _)
def Dc(j:X.calm=true):CallR X (.builtin "all") (λxs H Q=>∃(p:Addr)(bs:List Bool),xs=[.ref p]/\SqL X.K H p (bs.map V.bl)/\Q (.bl<|bs.all id) H):=by
 intro n s σ H xs us Q I r h;obtain⟨p,bs,rfl,C,q⟩:=h;obtain⟨u,rfl,i⟩:=jO r;cases i;obtain⟨its,d,a,hz⟩:=I.list C;have hl:=↑d;rw[aK]at hl;obtain⟨o,f,_⟩:=id a.isList;refine call_all_walk<|DL a.isList ?_;have B:p≠s⁻¹:=bV<|bP f;have w:Inv X n σ H {s with heap:=s.heap.push {cls:=.type "list_iterator",data:=.fields #[.ref p,.int 0 0]}}:=I.kept (t':=s.toks) λb o e=>bU _ e;refine⟨_,_,_,_,_,_,_,rfl,Walks.list (A:=X.A.in1) (I.ok.hd j) _ p B its.toArray,⟨⟨_,dG _ rfl,rfl,rfl⟩,a.isList.at λo e=>bU _ e⟩,QC d,λh' tk l=>?_⟩;rw[cT,<-hl,An];refine⟨.bl _,H,w.turned (t':=tk) (λb o m e=>l b o (by simpa using m) e) (I.hok.fresh<|aW _) (dM I.lt) (.inr I.sz) (λx c e z=>?_) λp hp z=>?_,rfl,q⟩
 .obtain⟨v,q⟩:=I.cell x c e;exact absurd q.lt (by rw[z];exact iD _)
 .exact absurd (bP (I.pin p hp).1) (by rw[z];exact iD _)
def XJ(r:Vals (ss.map V.str) its):StrsAre its ss:=by
 induction ss generalizing its with
 | nil=>cases r;exact .nil
 | cons x ss ih=>
  cases r with
  | cons h t=>obtain⟨tk,rfl⟩:=h;exact .cons _ _<|ih t
def Aj(r:StrsAre its ss):Vals (ss.map V.str) its:=by
 induction r with
 | nil=>exact .nil
 | cons _ _ _ ih=>exact .cons ⟨_,rfl⟩ ih
def YC:CallR X (.builtin "sorted") (λxs H Q=>∃(p:Addr)(ss:List Str),xs=[.ref p]/\SqL X.K H p (ss.map V.str)/\↑ss<64/\∀(l:Addr)(a:List Str),H l=none->a.Perm ss->sortedS a=true->Q (.ref l) (upd H l<|.lst<|a.map V.str)):=by
 intro x s σ H xs us Q I r h;obtain⟨p,ss,rfl,m,z,q⟩:=h;obtain⟨u,rfl,j⟩:=jO r;cases j;obtain⟨its,f,i,hz⟩:=I.list m;have hl:=↑f;rw[aK]at hl;refine sorted_strs i.isList (XJ f) (by lia) λd a h1 h2 n=>?_
 obtain⟨e,he⟩:=sortedAll_at s.heap its d;refine⟨.ref<|s⁻¹+1,_,I.laid (t':=s.toks) (λb o e=>sortedAll_old e) (nC _) (show ObjOk X.prog X.w _ _ _ (.lst<|a.map V.str) from ⟨?_,d.toList,e,Aj h1,by simpa [seqObj]using he⟩),rfl,q _ _ (I.hok.fresh<|nC _) h2 n⟩;rw[aK,h2.length_eq];rw[aK]at hz;exact hz
def LU(K:Fq):List V->Hp->VK->Prop:=λxs H Q=>∃x T t b,xs=[x,.ty T]/\eR K H x t/\PySem.W.kitOne K t (.type T)=some b/\Q (.bl b) H
def tX:CallR X (.builtin "isinstance") (LU X.K):=by
 intro d s σ H xs us Q I r h;obtain⟨x,T,t,b,rfl,ty,a,q⟩:=h;cases r with
 | cons r1 rr=>
  cases rr with
  | cons r2 rr=>
   cases rr;cases (show _=Value.type T from r2);exact Da I r1 ty a λtk=>⟨.bl b,H,I.tok _,rfl,q⟩
def XD(I:Nat->Shared->Prop) (turn:∀n s,I n s->wpAny (model prog w) A (pyNext it) (λr a=>match r with
   | none=>R (.ok .next) a
   | some v=>wpAny (model prog w) A (letOwnedTupleGo target it v) (λ_ a=>wpAny (model prog w) A (assign target env v) (λ_ i=>
     wpAny (model prog w) A (forIn ifs true λc r=>if r=true then do let ok <-isTrue c env (eval c env);pure (ForInStep.yield ok) else pure (ForInStep.yield r)) (λok d=>
      if ok=true then wpAny (model prog w) A (eval kx env) (λo f=>wpAny (model prog w) A (eval vx env) (λq l=>
       wpAny (model prog w) A (dictSet DD o q) (λ_ e=>∃m,m<n/\I m e) (λ_ _=>False) l) (λ_ _=>False) f) (λ_ _=>False) d
      else ∃m,m<n/\I m d) (λ_ _=>False) i) (λ_ _=>False) a) (λ_ _=>False) a) (λ_ _=>False) s) (n:Nat) (h:I n s):
  codeAny (model prog w) A (.compLoop (.DictComp kx vx [⟨target,iter,ifs,0⟩] scope pos) 0 it (.ref DD) env) R s:=by
 refine codeAny_loop rfl I (λn s B=>?_) n h;show wpAny _ A ((compTurn (.DictComp kx vx [⟨target,iter,ifs,0⟩] scope pos) 0 it (.ref DD) env).onRaise (λx=>do noteFrame x env;theTreesLotGoes x)) _ _ s;refine wpAny_noted ?_;rw[compTurn_dict];refine aJ<|nM<|aJ<|fV (turn n s B) (λr a b=>?_) λ_ _ h'=>h'.elim;cases r with
 | none=>exact bJ b
 | some v=>
  refine aJ<|fV b (λ_ a b=>?_) λ_ _ h'=>h'.elim;refine aJ<|fV b (λ_ i E=>aJ<|fV E (λok d j=>?_) λ_ _ h'=>h'.elim) λ_ _ h'=>h'.elim;cases ok with
  | false=>exact bJ ⟨rfl,j⟩
  | true=>
   exact aJ<|aJ<|fV j (λo f u=>aJ<|iO<|fV u (λq l z=>aJ<|nM<|iO<|fV z (λ_ e C=>bJ ⟨rfl,C⟩) λ_ _ h'=>h'.elim) λ_ _ h'=>h'.elim) λ_ _ h'=>h'.elim
def EE(pt:Hp->Addr->V->V->(Hp->Prop)->Prop)(J:It)(g:TG)(tt:TT)(tk te:TE)(D:Addr)(σ0:St)(H0:Hp)(Q:Hp->Prop):Prop:=
 ∃W:Nat->Nat->St->Hp->Prop,(∃m,W 0 m σ0 H0)/\∀i m σ H,W i m σ H->
 (J.stop i H/\Q H)\/(J.go i H/\∃N:St->Hp->Prop,(∀σ' H',N σ' H'->∃m',m'<m/\W (i+1) m' σ' H')/\∀x H',J.yld i H x H'->g x σ H' λσ2 H2=>tt σ2 H2 λb H3=>
  if b=true then tk σ2 H3 λkx H4=>te σ2 H4 λv H5=>pt H5 D kx v λH6=>N σ2 H6 else N σ2 H3)
structure AF(X:Cx)(o0:Addr->HO)(pt:Hp->Addr->V->V->(Hp->Prop)->Prop):Prop where
 new:∀(h:Heap)(H:Hp),sysModules<h.objs.size->ObjOk X.prog X.w H (h.push {cls:=.type "dict",data:=.dict #[]}) h.objs.size (o0 h.objs.size)
 put:∀(Y:Cx),Y.prog=X.prog->Y.w=X.w->Y.K=X.K->Y.A=X.A->∀(pins:List (Addr×Obj))(s:Shared)(σ:St)(H:Hp)(D:Addr)(k:V)(u:Value)(v:V)(y:Value)(R:Hp->Prop),Inv Y pins σ H s->RelV k u->RelV v y->pt H D k v R->
  wpAny (model X.prog X.w) X.A (dictSet D u y) (λ_ s'=>∃H',Inv Y pins σ H' s'/\R H') (λ_ _=>False) s
def Df:Hp->Addr->V->V->(Hp->Prop)->Prop:=λH D kx v R=>∃kvs k,kx=kV k/\H D=some (.dK kvs)/\↑kvs<sizeLine/\R (upd H D<|.dK<|aO kvs k v)
def NO{X:Cx}:AF X (λ_=>.dK []) Df where
 new h H z:=MH h z
 put Y e1 e2 e3 e4 pins s σ H D kx u v y R I rk rv h:=by
  obtain⟨kvs,k,i,a,hl,q⟩:=h;subst i;rw[<-e1,<-e2];obtain⟨z,hd,vs,d,f⟩:=xL I.hok a;have hz:↑vs<=sizeLine:=by rw[<-↑d];exact z
  have e:↑(aO kvs k v)<=sizeLine:=by have:=kD kvs k v;lia
  refine wpAny_dictSet_pairs (knd:=cI Y.prog Y.w) (hsz:=hz) (jS rk) f λh' b hs=>?_;exact⟨_,tQ (t':=s.toks+1) I (by rw[a];exact gD) hs (let ⟨q,_,_,hq,_⟩:=b;⟨q,hq⟩)<|EO e hd (d.put k rv) b,q⟩
section
variable{scope:Scope}{N':List Str}{src:List (Option Nat)}{pins:List (Addr×Obj)}{σ:St}{H2:Hp}{s2:Shared}
def QI{kx vx tg iter:Expr}{aa:List Expr}{pos:Pos}{it:Addr}{fp:List Addr}{N:Nat->Heap->Prop}{J:It}{g:TG}{tt:TT}{ao te:TE}{Q:Addr->Hp->Prop}
  {RR:Value->Addr->Result->Shared->Prop} {E:Vp} {l:Addr->HO} {pt:Hp->Addr->V->V->(Hp->Prop)->Prop} (hp:AF X l pt) (hc:X.calm=true)
  (B:BlkN X scope N' src) (b1:∀x k,(x,k)∈scope.names->k=.free->∀k',(x,k')∈scope.names->k'=.free) (T:fC X.prog X.w X.K tg J fp it N) (I:Inv X pins σ H2 s2) (h0:N 0 s2.heap) (G:∀b∈fp,dR X pins H2 b)
  (hg:∀s3 H3 C,PG (cX X scope N' s3 H3 C fp) tg g) (ht:∀s3 H3 C,oC (cX X scope N' s3 H3 C fp) aa tt) (hk:∀s3 H3 C,PE (cX X scope N' s3 H3 C fp) kx ao) (he:∀s3 H3 C,PE (cX X scope N' s3 H3 C fp) vx te)
  (hw:∀D,H2 D=none->EE pt J g tt ao te D (sub src σ) (upd H2 D<|l D) (Q D))
  (hQ:∀D C H' s',C≠D->(∃m,s'.heap.Ns C m)->(∀ae ,Heap.SameBut C s'.heap ae->Inv X pins σ H' {s' with heap:=ae})->Inv X pins σ H' s'->H' C=none->C≠X.env.locals->(∀x c,X.env.cells.lookup x=some c->c≠C)->X.s₀⁻¹<=C->(∀p∈X.pn++pins,p.1≠C)->Q D H'->RR (.ref D) C (.ok .next) s'):
  wpAny (model X.prog X.w) X.A (newDict) (λaj O=>wpAny (model X.prog X.w) X.A (newFunctionEnv scope X.env.globals (cB X.env scope.names) [] X.env.qual none .none<|some X.env) (λa6 s₄=>
   codeAny (model X.prog X.w) X.A (.compStart (.DictComp kx vx [⟨tg,iter,aa,0⟩] scope pos) 0 (.ref it) aj {a6 with scope:=relabel scope X.env}) (RR aj a6.locals) s₄) E O) E s2:=by
 have a7:∀y∈scope.names,y.2≠.cell:=λy hy=>cQ<|wt3.mp B.nocell y hy;refine jY<|wpAny_newFunctionEnv a7 (by intro y hy;simp at hy) (λZ a4 a5=>?_) B.kind;dsimp only at a4 a5 ⊢;have b6:H2 s2⁻¹=none:=I.hok.fresh<|aW _;have H:Inv X pins σ (upd H2 s2⁻¹<|l s2⁻¹) {s2 with heap:=s2.heap.push {cls:=.type "dict",data:=.dict #[]}}:=
  I.laid (t':=s2.toks) (λb o e=>bU _ e) (aW _) (hp.new s2.heap _ I.big)
 generalize hH3:(s2.heap.push {cls:=.type "dict",data:=.dict #[]})=f at a4 a5 H ⊢;have ac:f.objs.size=s2⁻¹+1:=by rw[<-hH3,nU]
 have a3:∀b o,s2.heap.get? b=some o->f.get? b=some o:=λb o e=>by rw[<-hH3];exact bU _ e
 have a1:∀b o,f.get? b=some o->Z.get? b=some o:=λb o e=>a5.extBut b o (bV<|bP e)<|bU _ e;have a2:s2⁻¹<f.objs.size:=by rw[ac];exact wO _
 have al:∀b∈fp,dR X pins (upd H2 s2⁻¹<|l s2⁻¹) b:=λb j=>by
  obtain⟨o,e,_⟩:=T.obj _ _ h0 b j;refine⟨?_,(G b j).2⟩;rw[aC<|bV<|bP e];exact(G b j).1
 have a8:∀b∈fp,b<f.objs.size:=λb j=>by
  obtain⟨o,e,_⟩:=T.obj _ _ h0 b j;exact gQ (bP e) a2
 have az:=PP (fp:=fp) (C:=f.objs.size) (s4:={s2 with heap:=Z,toks:=s2.toks+↑([]:List (Str×Value))}) B H al a8 b1 rfl a4 a1 rfl rfl;have af:N 0 Z:=T.keep _ _ _ h0 λb j o e=>a1 b o<|a3 b o e;obtain⟨W,⟨m0,w0⟩,turn⟩:=hw s2⁻¹ b6;have ad:∀{H':Hp},(∀b∈fp,H' b=none)->∀b∈fp,dR (cX X scope N' {s2 with heap:=f} (upd H2 s2⁻¹<|l s2⁻¹) f.objs.size fp) [] H' b:=λhn b j=>by
  refine⟨hn b j,bV<|a8 b j,?_,.inl j,λx c h=>(G b j).2.2.2.2.1 x c (B.back I.ok h).1,λp hp=>absurd (show p∈([]:List (Addr×Obj)) from hp)<|by simp⟩;intro z;rcases wp9.mp (H.stkSub b z)with y | y
  .exact(G b j).2.1 y
  .exact(G b j).2.2.1 y
 have b8:∀(s':Shared)(σ':St)(H':Hp),Inv (cX X scope N' {s2 with heap:=f} (upd H2 s2⁻¹<|l s2⁻¹) f.objs.size fp) [] σ' H' s'->Q s2⁻¹ H'->RR (.ref s2⁻¹) f.objs.size (.ok .next) s':=λs' σ' H' M q=>by
  obtain⟨hh,gg,dd,a9,au⟩:=s';have av:au=s2.os:=M.os;subst av;have IX:Inv X pins σ H' {({s2 with heap:=f}:Shared)with heap:=hh,gens:=gg,drawn:=dd,toks:=a9}:=Inv.call (s:={s2 with heap:=f}) H (h':=hh) (g':=gg) (d':=dd) (t':=a9) (ch:=fp) M.base M.hok M.bare λb j=>⟨(G b j).2.2.2.1,(G b j).2.1,(G b j).2.2.2.2.1,(G b j).2.2.2.2.2⟩;have b9:s2⁻¹<=f.objs.size:=cN a2;have am:f.objs.size≠X.env.locals:=dM H.lt;have an:∀x c,X.env.cells.lookup x=some c->c≠f.objs.size:=λx c e z=>by
   obtain⟨v,q⟩:=H.cell x c e;exact absurd (show c<f.objs.size from q.lt) (by rw[z];exact iD _)
  have ai:∀p∈X.pn++pins,p.1≠f.objs.size:=λp hp z=>by
   have:=bP (H.pin p hp).1;exact absurd (show p.1<f.objs.size from this) (by rw[z];exact iD _)
  have ag:H' f.objs.size=none:=M.free;obtain⟨m,hm,_⟩:=M.loc;refine hQ _ _ H' _ (dM a2) ⟨m,hm⟩ (λae sb=>?_) IX ag am an (fX H.sz<|aW _) ai q;exact IX.turned (t':=a9) (λb o j e=>(sb.2 b j).trans e) ag am (.inr<|fX H.sz<|aW _) an ai
 have L:∀O:Shared,O={s2 with heap:=Z,toks:=s2.toks+↑([]:List (Str×Value))}->
   codeAny (model X.prog X.w) X.A (.compLoop (.DictComp kx vx [⟨tg,iter,aa,0⟩] scope pos) 0 (.ref it) (.ref s2⁻¹)<|compEnvC scope (cB X.env scope.names) f.objs.size X.env)
    (RR (.ref s2⁻¹) f.objs.size) O:=by
  rintro O rfl;refine XD (λn s'=>∃i σ' H',Inv (cX X scope N' {s2 with heap:=f} (upd H2 s2⁻¹<|l s2⁻¹) f.objs.size fp) [] σ' H' s'/\N i s'.heap/\(∀b∈fp,H' b=none)/\W i n σ' H') ?_ m0 ⟨0,_,_,az,af,λb j=>(al b j).1,w0⟩;rintro n s5 ⟨i,σ5,Y,I5,ak,ah,w5⟩;rcases turn i n σ5 Y w5 with ⟨stop,qn⟩ | ⟨go,Nx,hN,step⟩
  .refine aU (T.done (cX X scope N' {s2 with heap:=f} (upd H2 s2⁻¹<|l s2⁻¹) f.objs.size fp) rfl rfl rfl hc i [] s5 σ5 Y _ I5 (ad ah) ak stop) ?_;rintro r s6 ⟨hr,I6⟩;subst hr;exact b8 s6 σ5 Y I6 qn
  .refine aU (T.item (cX X scope N' {s2 with heap:=f} (upd H2 s2⁻¹<|l s2⁻¹) f.objs.size fp) rfl rfl rfl hc i [] s5 σ5 Y _ I5 (ad ah) ak go) ?_;rintro r s6 ⟨u,hr,h6⟩;subst hr;refine aU h6 ?_;rintro _ s7 ⟨x,H7,I7,r7,y7,ab,aq⟩;have aw:=I7.pinned (ad aq)<|T.obj _ _ ab;refine aU (hg _ _ _ _ s7 σ5 H7 x u _ aw r7<|step x H7 y7) ?_;rintro _ s8 ⟨σ8,H8,I8,q8⟩;refine aU (ht _ _ _ _ s8 σ8 H8 _ I8 q8) ?_;rintro ok s9 ⟨H9,I9,q9⟩;have again:∀{σa:St}{P:Hp}{sa:Shared},Inv (cX X scope N' {s2 with heap:=f} (upd H2 s2⁻¹<|l s2⁻¹) f.objs.size fp) ([]++wP fp s7.heap) σa P sa->Nx σa P->
     ∃m,m<n/\∃i σ' H',Inv (cX X scope N' {s2 with heap:=f} (upd H2 s2⁻¹<|l s2⁻¹) f.objs.size fp) [] σ' H' sa/\N i sa.heap/\(∀b∈fp,H' b=none)/\W i m σ' H':=λ{σa P sa} Ia na=>by
    obtain⟨m',hm,wa⟩:=hN σa P na;refine⟨m',hm,i+1,σa,P,Ia.unpinned,T.keep _ _ _ ab λb j o e=>(Ia.pin (b,o)<|gM _<|gM _<|wK j e).1,λb j=>?_,wa⟩;obtain⟨o,e,d⟩:=T.obj _ _ ab b j;exact(Ia.pin (b,o)<|gM _<|gM _<|wK j e).2.1
   cases ok with
   | false=>exact again I9 q9
   | true=>
    refine aU (hk _ _ _ _ s9 σ8 H9 _ I9 q9) ?_;rintro kv ap ⟨kk,ay,b4,rk,b0⟩;refine aU (he _ _ _ _ ap σ8 ay _ b4 b0) ?_;rintro y as ⟨v,b2,b5,ax,b3⟩;refine fV (hp.put (cX X scope N' {s2 with heap:=f} (upd H2 s2⁻¹<|l s2⁻¹) f.objs.size fp) rfl rfl rfl rfl _ as σ8 b2 _ kk kv v y _ b5 rk ax b3) ?_ λ_ _ h=>h;rintro _ ba ⟨bb,ar,b7⟩;exact again ar b7
 exact codeAny_compStart_dict (L _ rfl)<|T.self _ 0 _ _ _ af<|L _ rfl
def TN(o0:Addr->HO)(pt:Hp->Addr->V->V->(Hp->Prop)->Prop)(wi:TI)(src:List (Option Nat))(g:TG)(tt:TT)(tkx te:TE):TE:=λσ H Q=>wi σ H λJ H2=>∀D,H2 D=none->EE pt J g tt tkx te D (sub src σ) (upd H2 D<|o0 D) λH'=>Q (.ref D) H'
def VC{l:Addr->HO}{pt:Hp->Addr->V->V->(Hp->Prop)->Prop}(hp:AF X l pt)(u:X.calm=true)(B:BlkN X scope N' src)(hi:PI X tg iter wi)(Z:∀s3 H3 C fp,PG (cX X scope N' s3 H3 C fp) tg g)(P:∀s3 H3 C fp,oC (cX X scope N' s3 H3 C fp) ifs tt)(f:∀s3 H3 C fp,PE (cX X scope N' s3 H3 C fp) kx tkx)(he:∀s3 H3 C fp,PE (cX X scope N' s3 H3 C fp) vx te)(Y:(scope.names.all λy=>decide (y.2=.free->∀z∈scope.names,z.1=y.1->z.2=.free))=true:=by rfl')(hs:∀x,foldedSetIterable iter X.env x=pure x:=by intro _;rfl):
  PE X (.DictComp kx vx [⟨tg,iter,ifs,0⟩] scope pos) (TN l pt wi src g tt tkx te):=by
 intro n s σ H Q I h;have K:∀x k,(x,k)∈scope.names->k=.free->∀e,(x,e)∈scope.names->e=.free:=λx k d f e a7=>cQ (wt3.mp Y (x,k) d) f (x,e) a7 rfl;have o:closureFor scope X.env=pure (cB X.env scope.names):=FX λy j i=>I.ok.has y.1<|cQ (wt3.mp B.frees y j) i;have M:∀y∈scope.names,y.2=.local->scope.names.lookup y.1=some .local:=λy j=>cQ<|wt3.mp B.locs y j;rw[arm_eval_DictComp];refine DP (use:=none) rfl hs o B.kind M<|aU (hi n s σ H _ I h) λxv s₁ r=>aU r λaa s2 h2=>?_;obtain⟨it,fp,tn,J,H2,rfl,G,T,h0,i,W⟩:=h2;refine QI (RR:=λE C=>compPost (model X.prog X.w) X.A X.xe none (EP X n σ Q) E C) (Q:=λD H'=>Q (.ref D) H') hp u B K T G h0 i (λa b c=>Z a b c fp) (λa b c=>P a b c fp) (λa b c=>f a b c fp) (λa b c=>he a b c fp) W ?_;intro D C H' s' af d O IX a9 ab ad ac ae q;obtain⟨m,d⟩:=d;exact⟨m,d,λN L=>⟨.ref D,H',O N L,rfl,q⟩⟩
def Cy{E:Addr->HO}{pt:Hp->Addr->V->V->(Hp->Prop)->Prop}(hp:AF X E pt)(W:X.calm=true)(hN:X.N.Nodup)(ac:X.N[i]?=some y)(f:X.env.scope.names.lookup y=some .local)(B:BlkN X scope N' src)(hi:PI X tg iter wi)(hg:∀s3 H3 C fp,PG (cX X scope N' s3 H3 C fp) tg g)(ht:∀s3 H3 C fp,oC (cX X scope N' s3 H3 C fp) ifs tt)(n:∀s3 H3 C fp,PE (cX X scope N' s3 H3 C fp) kx tkx)(he:∀s3 H3 C fp,PE (cX X scope N' s3 H3 C fp) vx te)(aa:swapsWith (.DictComp kx vx [⟨tg,iter,ifs,0⟩] scope pos) (some<|.Name y py) spos.line X.env=pure true:=by rfl)(af:(scope.names.all λy=>decide (y.2=.free->∀z∈scope.names,z.1=y.1->z.2=.free))=true:=by rfl')(hs:∀x,foldedSetIterable iter X.env x=pure x:=by intro _;rfl):
  PS X (.Assign [.Name y py] (.DictComp kx vx [⟨tg,iter,ifs,0⟩] scope pos) spos) (fZ (TN E pt wi src g tt tkx te)<|bW i):=by
 intro r s σ H D I h;have a4:∀x k,(x,k)∈scope.names->k=.free->∀l,(x,l)∈scope.names->l=.free:=λx k j n l Y=>cQ (wt3.mp af (x,k) j) n (x,l) Y rfl;have a3:closureFor scope X.env=pure (cB X.env scope.names):=FX λy f u=>I.ok.has y.1<|cQ (wt3.mp B.frees y f) u;have a1:∀y∈scope.names,y.2=.local->scope.names.lookup y.1=some .local:=λy f=>cQ<|wt3.mp B.locs y f;rw[exec_Assign_Name_used _ _ _ _ aa];refine aJ<|nM<|aJ ?_;show wpAny _ X.A (do let _ <-comprehension (.DictComp kx vx [⟨tg,iter,ifs,0⟩] scope pos) scope X.env _ (newDict) false (eval iter X.env) (some<|assign (.Name y py) X.env)) _ _ s;have h':wi σ H λJ H2=>∀d,H2 d=none->EE pt J g tt tkx te d (sub src σ) (upd H2 d<|E d) λH'=>D.nx (σ.set i<|some<|.ref d) H':=h;refine aJ<|fV (DP (use:=some<|assign (.Name y py) X.env) (Q:=λ_ s'=>SP X r D .next s') rfl hs a3 B.kind a1<|aU (hi r s σ H _ I h') λxv s₁ O=>aU O λak s2 h2=>?_) (λ_ s' hq=>bJ<|bJ hq) λ_ _ e=>e
 obtain⟨it,fp,tn,J,H2,rfl,I2,T,h0,u,hw⟩:=h2;refine QI (RR:=λM C=>compPost (model X.prog X.w) X.A X.xe (some<|assign (.Name y py) X.env) (λ_ s'=>SP X r D .next s') M C) (Q:=λd H'=>D.nx (σ.set i<|some<|.ref d) H') hp W B a4 T I2 h0 u (λa b c=>hg a b c fp) (λa b c=>ht a b c fp) (λa b c=>n a b c fp) (λa b c=>he a b c fp) hw ?_;intro d C H' s' am j aj IX a7 K G a8 ab q;obtain⟨m,j⟩:=j;show wpAny _ X.A (assign (.Name y py) X.env<|.ref d) _ _ _;refine wpAny_assign_Name ?_;refine MG (v:=.ref d) IX hN ac (.inl f) rfl (λP Z L=>?_)<|.inr f;obtain⟨a,ai,ha⟩:=L;have ah:C≠a:=by
  rintro rfl;rcases ha with z | z
  .exact K z
  .exact G _ _ z rfl
 refine⟨m,j.sameBut ai ah,λal sb=>⟨_,H',?_,q⟩⟩;exact Z.turned (t':=P.toks) (λb o hb e=>(sb.2 b hb).trans e) a7 K (.inr a8) G ab
end
def yM(hi:Int)(n:Nat):It:=⟨λi _=>i<n,λi H x H'=>H'=H/\x=.int (hi-i),λi _=>n<=i⟩
def Br{P:Program}{w:World}{K:Fq}{tg:Expr}(it:Addr)(hi:Int)(n:Nat):fC P w K tg (yM hi n) [it] it (λi h=>IsRangeIter h it (hi+(i:Nat)*-1) ((n:Int)-(i:Nat))<|-1) where
 mem:=by simp
 obj:=λi h st b a=>by
  have e:b=it:=by simpa using a
  subst e;exact⟨_,st,λv z=>by
   have J:Data.fields _=Data.cell v:=z;cases J⟩
 keep:=λi h h' st k=>k it (by simp) _ st
 item:=by
  intro X x r q m i C s σ H E I d st B;subst x r q;obtain⟨A,j,L,l,u,f⟩:=d it (by simp);have W:=Walks.range (prog:=X.prog) (w:=X.w) (I.ok.hd m) it hi (-1) n;refine W.item i s _ _ B st λv h' tk N G M=>?_;obtain⟨t,rfl⟩:=N;have O:Inv X C σ H {s with heap:=h',toks:=tk}:=I.turned (λb o a e=>M b o (by simpa using a) e) A j l u f;refine⟨_,rfl,uN (s:={s with heap:=h',toks:=tk}) (n:="range_iterator") G rfl rfl (by decide) ⟨.int<|hi-i,H,O,⟨t,?_⟩,⟨rfl,rfl⟩,G,λb a=>(d b a).1⟩⟩;have e:hi+(i:Int)*-1=hi-i:=by lia
  rw[e]
 done:=by
  intro X x r q m i C s σ H E I d st B;subst x r q;obtain⟨A,j,L,l,u,f⟩:=d it (by simp);exact wpAny_pyNext_range_end (I.ok.hd m) st (by have:n<=i:=B;lia) λh' T=>⟨rfl,I.turned (t':=s.toks) (λb o a e=>T b o a e) A j l u f⟩
 self:=λ_ _ _ _ _ st h=>wpAny_pyIter_rangeiter st h
def WM(f:-(2 ^ 30)<=a)(d:a<2 ^ 30)(h:-(2 ^ 30)<=b)(i:b<2 ^ 30):Builtin.Range.small a b (-1)=true:=by
 unfold Builtin.Range.small;have e:Builtin.Range.rangeSize a b (-1)=if a > b then a-b else 0:=by
  unfold Builtin.Range.rangeSize;simp only[show ¬((-1:Int) > 0) by decide,jD,show -(-1:Int)=1 by decide,Int.ediv_one]
  split <;> lia
 rw[e];simp only[Builtin.Range.rangeFitsLong,qY,Bool.or_eq_true,decide_eq_true_eq,beq_iff_eq,show ¬((-1:Int) > 0) by decide,jD]
 split <;> lia
def BU(ta:TA):TI:=λσ H R=>ta σ H λvs H1=>∃i j:Int,vs=[.int i,.int j,.int<|-1]/\(-(2 ^ 30)<=i/\i<2 ^ 30/\-(2 ^ 30)<=j/\j<2 ^ 30)/\R (yM i (i-j).toNat) H1
def At(A:Gl X "range")(B:X.mg "range"=none)(J:PA X [a,b,c] ta)(hs:starEach [a,b,c] X.env=[(false,eval a X.env),(false,eval b X.env),(false,eval c X.env)]:=by rfl)(m:starEach [b,c] X.env=[(false,eval b X.env),(false,eval c X.env)]:=by rfl):PI X tg (.Call (.Name "range" p) [a,b,c] [] pos) (BU ta):=by
 intro n s σ H R I h;refine Call_ (lG I A B boot_range<|oO (aU (J pos n s σ H _ I h) λus d ⟨vs,H1,L,C,f⟩=>?_) (by rw[hs,m])<|by rw[m];rfl);obtain⟨i,j,e,⟨f,z,G,x⟩,q⟩:=f;subst e;cases C with
 | cons r rr=>
  cases rr with
  | cons r' rr=>
   cases rr with
   | cons r'' rr=>
    cases rr;obtain⟨t,rfl⟩:=r;obtain⟨t',rfl⟩:=r';obtain⟨u,rfl⟩:=r'';refine call_range_3 (by decide) ?_ (eY<|PyProof.noPylong_small<|by decide);refine wpAny_pyIter_range (IsRange.new ..) (WM f z G x) ?_;have l:Inv X n σ H1 {d with heap:=d.heap.push {cls:=.type "range",data:=.fields #[.int i t,.int j t',.int (-1) u]},toks:=d.toks}:=L.kept λb o e=>bU _ e;refine⟨_,[_],_,_,H1,rfl,l.kept (t':=d.toks) λb o e=>bU _ e,Br _ i (i-j).toNat,?_,λb E=>?_,q⟩
    .have w:i+((0:Nat):Int)*-1=i:=by lia
     have K:(((i-j).toNat:Nat):Int)-((0:Nat):Int)=Builtin.Range.rangeSize i j (-1):=by
      unfold Builtin.Range.rangeSize;simp only[show ¬((-1:Int) > 0) by decide,jD,show -(-1:Int)=1 by decide,Int.ediv_one]
      split <;> lia
     show IsRangeIter _ _ (i+((0:Nat):Int)*-1) ((((i-j).toNat:Nat):Int)-((0:Nat):Int))<|-1;rw[w,K];exact dG _ rfl
    .rw[wq1.mp E];exact l.fpOk (aW _)<|l.hok.fresh<|aW _
def Dm{hi:Int}{n:Nat}{g:TG}{tb:TS}{D:dB}{σ:St}{H:Hp}(a:Nat->St->Hp->Prop)(h0:a 0 σ H)
  (hs:∀i σ H,i<n->a i σ H->g (.int<|hi-i) σ H λσ2 H2=>tb {D with nx:=a<|i+1,ct:=a<|i+1,bk:=D.nx} σ2 H2) (hd:∀σ H,a n σ H->D.nx σ H):
  ∃W:Nat->Nat->St->Hp->Prop,(∃m,W 0 m σ H)/\∀i m σ H,W i m σ H->
   ((yM hi n).stop i H/\D.nx σ H)\/((yM hi n).go i H/\∃N:St->Hp->Prop,(∀σ' H',N σ' H'->∃m',m'<m/\W (i+1) m' σ' H')/\∀x H',(yM hi n).yld i H x H'->g x σ H' λσ2 H2=>tb {D with nx:=N,ct:=N,bk:=D.nx} σ2 H2):=by
 exists λi m σ H=>m=n-i/\i<=n/\a i σ H,⟨n,by simp,bM _,h0⟩;rintro i m σ H ⟨rfl,hi,p⟩
 by_cases b:i<n
 .refine .inr ⟨b,a<|i+1,λσ' H' d=>⟨n-(i+1),by lia,rfl,b,d⟩,λx H' y=>?_⟩;obtain⟨e,y⟩:=y;subst e y;exact hs i σ _ b p
 .have e:i=n:=by lia
  subst e;exact .inl ⟨aW _,hd σ H p⟩
def HB:V->Option Int->Option Int->Hp->VK->Prop:=λx lo hi H Q=>∃z,x=.str z/\↑z<=sizeLine/\Q (.str<|Txt.slice z lo hi) H
def UM:GB X HB:=by
 intro r s σ H x v C B lo hi b Q I o hs n e h;obtain⟨z,rfl,hz,q⟩:=h;obtain⟨t,rfl⟩:=o;exists "str",_,F.slot_str_getitem.lookup,typeIs_str _ _ _;have a:∀(l u:Option (Int×Tok)),s.heap.IsSlice b l u none->l.map (·.1)=lo->u.map (·.1)=hi->wpAny (model X.prog X.w) X.A (getItem (.str z t)<|.ref b) (EP X r σ Q) X.xe s:=λl u m d f=>by
  refine wpAny_getItem_str_slice (l:=l) (u:=u) (st:=none) m rfl<|post_val_or_str ⟨?_,λt' k=>?_⟩
  .have:=Txt.slice_le z lo hi;rw[<-d,<-f]at this;exact fX this hz
  .refine⟨.str<|Txt.slice z lo hi,H,I.tok _,⟨t',?_⟩,q⟩;rw[<-d,<-f];rfl
 cases n with
 | none=>cases e with
  | none=>exact a none none hs rfl rfl
  | int j tj=>exact a none (some (j,tj)) hs rfl rfl
 | int i ti=>cases e with
  | none=>exact a (some (i,ti)) none hs rfl rfl
  | int j tj=>exact a (some (i,ti)) (some (j,tj)) hs rfl rfl
def CI:R2:=λx y H Q=>∃z n,x=.str z/\y=.int n/\(n=0\/n=1)/\Q (.str<|if n=0 then Str.empty else z) H
def XZ:cZ X (binaryOp .Mult) CI:=by
 intro f s σ H x y v u Q I d b h;obtain⟨z,n,rfl,rfl,a,q⟩:=h;obtain⟨t,rfl⟩:=d;obtain⟨t',rfl⟩:=b;refine SB.mul ⟨?_,?_,?_⟩ λe k=>⟨.str<|Txt.mul z n,H,I.tok _,⟨e,rfl⟩,?_⟩
 .rcases a with rfl | rfl <;> decide
 .rcases a with rfl | rfl
  .intro h;exact absurd (by decide) h
  .intro _ h;simp at h
 .rcases a with rfl | rfl
  .intro h;exact absurd (by decide) h
  .intro _ h;simp at h
 .rcases a with rfl | rfl
  .exact q
  .exact q
def vP(K:Fq)(neg:Bool):R2:=λx y H Q=>∃a b xs,x=.ref a/\y=.ref b/\a≠b/\SqL K H a xs/\SqL K H b []/\Q (.bl<|xs.isEmpty != neg) H
def QS(d:X.A.units<cLine):cZ X (compareOp .Eq) (vP X.K false):=by
 intro n s σ H x y v u Q I l f h;obtain⟨a,b,xs,rfl,rfl,m,h1,h2,q⟩:=h;cases l;cases f;obtain⟨its,r,p,hz⟩:=I.list h1;obtain⟨o,i,p2,_⟩:=I.list h2;cases i;show wpAny _ _ (richCompare .Eq (.ref a)<|.ref b) _ _ _;cases r with
 | nil=>exact SeqAt.RcAt.lists (e:=λ_=>true) p.isList p2.isList rfl d (λj h=>absurd h<|by simp) _ _ _ _ ⟨.bl true,H,I,by simp;rfl,q⟩
 | cons r rr=>exact SeqAt.RcAt.lists_lengths p.isList p2.isList (by simp) d _ _ _ _ ⟨.bl false,H,I,rfl,q⟩
def AB(d:X.A.units<cLine):cZ X (compareOp .NotEq) (vP X.K true):=by
 intro n s σ H x y v u Q I l f h;obtain⟨a,b,xs,rfl,rfl,m,h1,h2,q⟩:=h;cases l;cases f;obtain⟨its,r,p,hz⟩:=I.list h1;obtain⟨o,i,p2,_⟩:=I.list h2;cases i;show wpAny _ _ (richCompare .NotEq (.ref a)<|.ref b) _ _ _;cases r with
 | nil=>exact SeqAt.RcNeAt.lists (e:=λ_=>true) p.isList p2.isList rfl d (λj h=>absurd h<|by simp) _ _ _ _ ⟨.bl false,H,I,by simp;rfl,q⟩
 | cons r rr=>exact SeqAt.RcNeAt.lists_lengths p.isList p2.isList (by simp) d _ _ _ _ ⟨.bl true,H,I,rfl,q⟩
def XM(its:List Value):slicePick its.toArray none none (some<|-1)=its.reverse.toArray:=by
 unfold slicePick;have e:sliceBounds none none (some<|-1) its.toArray.size=((↑its:Int)-1,-1,-1):=by
  unfold sliceBounds;simp
 rw[e];unfold sliceRange;simp only[show ¬((-1:Int) > 0) by decide,jD,show -(-1:Int)=1 by decide,Int.ediv_one];have j:(if (↑its:Int)-1 > -1 then(↑its:Int)-1 - -1 - -1-1 else 0).toNat=↑its:=by split <;> lia
 rw[j]
 congr 1
 rw[List.filterMap_map];refine List.ext_getElem? λi=>?_;have a:∀(n:Nat),n<=↑its->(List.range n).filterMap ((λx=>its.toArray[x]?)∘λ(k:Nat)=>((↑its:Int)-1+-1*(k:Int)).toNat)=its.reverse.take n:=by
  intro n
  induction n with
  | zero=>intro _;simp
  | succ n ih=>
   intro l;rw[List.range_succ,List.filterMap_append,ih (by lia),fW]
   congr 1
   have h:((↑its:Int)-1+-1*(n:Int)).toNat=↑its-1-n:=by lia
   have b:its[↑its-1-n]?=some its[↑its-1-n]:=bF (by lia);have f:its.reverse[n]?=some its[↑its-1-n]:=by rw[List.getElem?_reverse<|by lia];exact b
   rw[f];have d:((λx=>its.toArray[x]?)∘λ(k:Nat)=>((↑its:Int)-1+-1*(k:Int)).toNat) n=some its[↑its-1-n]:=by
    show its.toArray[((↑its:Int)-1+-1*(n:Int)).toNat]?=_;rw[h];simpa using b
   rw[FU,d];rfl
 rw[a ↑its (aW _)];rw[gA<|by simp]
def CV(K:Fq)(te:TE)(ts:TE):TE:=λσ H Q=>te σ H λx H1=>ts σ H1 λy H2=>y=.int (-1)/\∃a xs,x=.ref a/\SqL K H2 a xs/\∀p,H2 p=none->Q (.ref p) (upd H2 p<|.lst xs.reverse)
def HF{e st:Expr}{te ts:TE}{p2 pos:Pos}(he:PE X e te)(j:PE X st ts):PE X (.Subscript e (.Slice none none (some st) p2) pos) (CV X.K te ts):=by
 intro d s σ H Q I h;refine Subscript_<|aU (he d s σ H _ I h) ?_;rintro v n ⟨x,H1,B,u,m⟩;refine wpAny_Slice ?_;rw[evalPart_none];refine bJ<|bJ ?_;refine aU (j d n σ H1 _ B m) ?_;rintro vs s3 ⟨y,H3,G,l,C,a,xs,ex,E,q⟩;subst C ex;obtain⟨tk,rfl⟩:=l;obtain rfl:v=Value.ref a:=u;have f:Inv X d σ H3 {s3 with heap:=s3.heap.push {cls:=.type "slice",data:=.fields #[.none,.none,.int (-1) tk]}}:=G.kept (t':=s3.toks) λb z q=>bU _ q;show wpAny (model X.prog X.w) X.A (subscriptTail e (.Slice none none (some st) p2) (.ref a)<|.ref s3⁻¹) (EP X d σ Q) X.xe {s3 with heap:=s3.heap.push {cls:=.type "slice",data:=.fields #[.none,.none,.int (-1) tk]}};obtain⟨its,r,i,hz⟩:=f.list E;have J:=↑r;refine tail_any (ops:=[.ref a,.ref s3⁻¹]) i.isList.typeIs slot_list_getitem.lookup ?_ (by with_unfolding_all rfl);refine wpAny_getItem_list_slice i.isList (Heap.IsSliceOf.new ..) .none .none (.int (-1) tk) (by simp) ?_ (by rw[cT] <;> lia);rw[XM];refine⟨.ref _,_,f.laid (t':=s3.toks) (o:=.lst xs.reverse) (λb z q=>bU _ q) (aW _) ?_,rfl,q _<|f.hok.fresh<|aW _⟩;exact⟨by rw[lA];exact hz,_,0,r.reverse,dG _ rfl⟩
def Inv.turnedNew{X:Cx}{x:List (Addr×Obj)}{σ:St}{H:Hp}{s:Shared}{h':Heap}{t':Nat}{ch:List Addr}{xs:List V}{its:List Value}(I:Inv X x σ H s)(i:∀b∈ch,dR X x H b)
  (keep:∀b o,b∉ch->s.heap.get? b=some o->h'.get? b=some o) (C:h'.get? s⁻¹=some {cls:=.type "tuple",data:=.seq its.toArray}) (r:Vals xs its) (hz:↑xs<=sizeLine):
  Inv X x σ (upd H s⁻¹<|.tup xs) {s with heap:=h',toks:=t'}:=by
 have B:∀b u,H b=some u->b∉ch:=λb u e a=>by
  have:=(i b a).1;rw[this]at e;cases e
 have d:Inv X x σ H {s with heap:=h',toks:=t'}:=by
  refine I.step (g':=s.gens) (d':=s.drawn) (ch:=ch) (λb a=>⟨(i b a).2.2.2.1,(i b a).2.1,(i b a).2.2.2.2.1,(i b a).2.2.2.2.2⟩) (λb o _ _ f e _=>keep b o f e) (λb o _ _ f e _=>⟨o.slots,keep b o f e⟩)
   (λ_ _ _ _ n=>n) (λb o f e=>⟨o,keep b o f e⟩) (λ_ _ e=>e) (λ_ _ _ e=>e) (λb ps e=>⟨#[],by rw[e];simp⟩) (λm J=>?_) (λb u eq=>?_) I.bare
  .obtain⟨o,es,ep,G,r⟩:=J;exact⟨o,es,ep,keep _ o (λz=>(i _ z).2.1 rfl) G,r⟩
  .refine(I.hok b u eq).stay (λc v f q=>keep c v ?_ q) (λ_ q=>q) λ_ _ q=>q;rcases f with z | z
   .rw[z];exact B b u eq
   .exact B c _ z
 have j:H s⁻¹=none:=I.hok.fresh<|aW _;have base:=d.base;have A:HOk X.prog X.w (upd H s⁻¹<|.tup xs) h':=by
  intro b z q
  by_cases a:b=s⁻¹
  .subst a;rw[zb1]at q;cases q;exact⟨⟨hz,_,C,rfl⟩,its,r,_,C,rfl,_,rfl⟩
  .rw[aC a]at q;refine(d.hok b z q).stay (λc L _ r=>r) (λc r=>?_) λc xs r=>?_
   .rw[aC<|aP r j];exact r
   .rw[aC<|aP r j];exact r
 have old:∀b o',X.s₀.heap.get? b=some o'->b≠s⁻¹:=λb o' e=>bV<|fU (bP e) I.sz;refine⟨d.ok,d.os,d.bare,⟨base.keep,base.slot,λb l q n E=>?_,base.there,λb ys q=>?_,λb l y q=>?_,λb ps q=>?_⟩,d.loc,d.cell,?_,λy c h=>?_,λp hp=>?_,A,d.len⟩
 .rw[aC<|old b l q];exact base.free b l q n E
 .have:=base.tups b ys q;rw[aC<|aP this j];exact this
 .have:=base.frzs b l y q;rw[aC<|aP this j];exact this
 .obtain⟨m,this⟩:=base.tbls b ps q;exact⟨m,by rw[aC<|aP this j];exact this⟩
 .rw[aC<|bV I.lt];exact I.free
 .obtain⟨v,q⟩:=I.cell y c h;rw[aC<|bV q.lt];exact I.freeC y c h
 .obtain⟨h1,h2,K⟩:=d.pin p hp;have:=bP (I.pin p hp).1;exact⟨h1,by rw[aC<|bV this];exact h2,K⟩
def Inv.turnedAll{X:Cx}{h:List (Addr×Obj)}{σ:St}{H:Hp}{s:Shared}{h':Heap}{t':Nat}{ch:List Addr}(I:Inv X h σ H s)(f:∀b∈ch,dR X h H b)
  (keep:∀b o,b∉ch->s.heap.get? b=some o->h'.get? b=some o):Inv X h σ H {s with heap:=h',toks:=t'}:=by
 have i:∀b u,H b=some u->b∉ch:=λb u e d=>by
  have:=(f b d).1;rw[this]at e;cases e
 refine I.step (g':=s.gens) (d':=s.drawn) (ch:=ch) (λb d=>⟨(f b d).2.2.2.1,(f b d).2.1,(f b d).2.2.2.2.1,(f b d).2.2.2.2.2⟩) (λb o _ _ a e _=>keep b o a e) (λb o _ _ a e _=>⟨o.slots,keep b o a e⟩)
  (λ_ _ _ _ n=>n) (λb o a e=>⟨o,keep b o a e⟩) (λ_ _ e=>e) (λ_ _ _ e=>e) (λb ps e=>⟨#[],by rw[e];simp⟩) (λm l=>?_) (λb u eq=>?_) I.bare
 .obtain⟨o,es,ep,j,r⟩:=l;exact⟨o,es,ep,keep _ o (λz=>(f _ z).2.1 rfl) j,r⟩
 .refine(I.hok b u eq).stay (λc v a q=>keep c v ?_ q) (λ_ q=>q) λ_ _ q=>q;rcases a with z | z
  .rw[z];exact i b u eq
  .exact i c _ z
def ItB(tp:Bool)(h:Heap)(it l:Addr)(k:Nat):Prop:=match tp with | true=>h.IsTupleIter it l k | false=>h.IsListIter it l k
def SeB(tp:Bool)(h:Heap)(l:Addr)(xs:Array Value):Prop:=match tp with | true=>h.IsTuple l xs | false=>h.IsList l xs
theorem ItB.at(x:ItB tp h it l k)(e:∀o,h.get? it=some o->h'.get? it=some o):ItB tp h' it l k:=by
 cases tp with
 | true=>exact Heap.IsTupleIter.at x e
 | false=>exact Heap.IsListIter.at x e
theorem SeB.at(x:SeB tp h l xs)(e:∀o,h.get? l=some o->h'.get? l=some o):SeB tp h' l xs:=by
 cases tp with
 | true=>obtain⟨o,a,r⟩:=(show h.IsTuple l xs from x);exact⟨o,e _ a,r⟩
 | false=>exact Heap.IsList.at x e
def ItB.obj(x:ItB tp h it l k):∃o,h.get? it=some o/\∀v,o.data≠.cell v:=by
 cases tp with
 | true=>obtain⟨o,e,c,d⟩:=(show h.IsTupleIter it l k from x);exact⟨o,e,λv z=>by rw[d]at z;cases z⟩
 | false=>obtain⟨o,e,c,d⟩:=(show h.IsListIter it l k from x);exact⟨o,e,λv z=>by rw[d]at z;cases z⟩
def CY(a:ItB tp s.heap it l k)(hl:SeB tp s.heap l items)(e:items[k]?=some x)(d:∀h',ItB tp h' it l (k+1)->Heap.SameBut it s.heap h'->Q x {s with heap:=h'}):wpAny (model prog w) A (Builtin.SmallTypes.nextOf<|.ref it) Q E s:=by
 cases tp with
 | false=>exact wpAny_nextOf_list_item a hl e d
 | true=>
  have a:s.heap.IsTupleIter it l k:=a;obtain⟨o,b,h,hd⟩:=id a;obtain⟨j,i,_,m,f⟩:=(show s.heap.IsTuple l items from hl);unfold Builtin.SmallTypes.nextOf;refine aJ<|mS (name:=Str.ofString "__next__") a.typeIs DU<|kG DU a.typeIs F.entry_tuple_iterator_next ?_<|F.args_tuple_iterator_next_1 _;show wpAny _ _ (field (.ref it) 0 >>= _) _ _ s;refine aJ<|eU b hd (x:=.ref l) rfl ?_;show wpAny _ _ (if (Value.ref l == Value.none)=true then _ else _) _ _ s;rw[aZ (show ¬((Value.ref l == Value.none)=true) from eJ)];show wpAny _ _ (field (.ref it) 1 >>= _) _ _ s;refine aJ<|eU b hd (x:=.int k 0) rfl ?_;show wpAny _ _ (seqItems? (.ref l) >>= _) _ _ s;refine aJ<|jV i f ?_;simp only[zL,e];refine aJ<|wpAny_setField b hd (by simp)<|bJ ⟨x,rfl,bJ<|d _ (show Heap.IsTupleIter _ it l (k+1) from ?_)<|Heap.SameBut.update ..⟩;exact⟨_,wU _ b<|Obj.isFreed_of_fields<|Obj.data_mapFields hd _,(Obj.cls_mapFields ..).trans h,by rw[Obj.data_mapFields hd];simp[rawInt]⟩
def JH(d:A.handled=none)(b:ItB tp s.heap it l k)(hl:SeB tp s.heap l items)(i:items[k]?=none)(h:∀h' e,Heap.ExtBut it s.heap h'->(∃o,h'.get? e=some o/\o.cls=.type "StopIteration")->E (.ref e) {s with heap:=h'}):wpAny (model prog w) A (Builtin.SmallTypes.nextOf<|.ref it) Q E s:=by
 cases tp with
 | false=>exact wpAny_nextOf_list_end d b hl i h
 | true=>
  have b:s.heap.IsTupleIter it l k:=b;obtain⟨o,f,u,hd⟩:=id b;obtain⟨q,n,_,r,j⟩:=(show s.heap.IsTuple l items from hl);unfold Builtin.SmallTypes.nextOf;refine aJ<|mS (name:=Str.ofString "__next__") b.typeIs DU<|kG DU b.typeIs F.entry_tuple_iterator_next ?_<|F.args_tuple_iterator_next_1 _;show wpAny _ _ (field (.ref it) 0 >>= _) _ _ s;refine aJ<|eU f hd (x:=.ref l) rfl ?_;show wpAny _ _ (if (Value.ref l == Value.none)=true then _ else _) _ _ s;rw[aZ (show ¬((Value.ref l == Value.none)=true) from eJ)];show wpAny _ _ (field (.ref it) 1 >>= _) _ _ s;refine aJ<|eU f hd (x:=.int k 0) rfl ?_;show wpAny _ _ (seqItems? (.ref l) >>= _) _ _ s;refine aJ<|jV n j ?_;simp only[zL,i];refine aJ<|tR<|aJ<|wpAny_setField f hd (by simp) ?_;show wpAny _ _ (newExc (.type "StopIteration") [] >>= _) _ _ _;refine aJ ?_;simp only[newExc,newTuple];refine aJ (jY ?_<|by size_fits);refine aJ (m:=firstArgMember _ _)<|wpAny_of_eq (a:=Value.none) (by first | rfl | (simp only[firstArgMember];rfl)) ?_;refine jY ?_ (by size_fits);simp only[raiseNew];refine aJ<|wpAny_handled ?_
  first | rw[show A.in1.handled=none from d] | rw[d]
  refine aJ<|bJ<|wpAny_throw ?_;exact h _ _ (((Heap.SameBut.update ..).extBut.push _).push _) ⟨_,dG _ rfl,rfl⟩
def PV{p q:Bool}{z TI TO h f n u:Addr}{k:Nat}{xs ys:Array Value}{x y a b:Value}{Q:Option Value->Shared->Prop}(D:ZipApart z TI TO h f n u)
  (hz:IsZip s.heap z TI TO .none) (ak:IsPair s.heap TI (.ref h) (.ref f)) (ah:IsPair s.heap TO a b)
  (h1:ItB p s.heap h n k) (h2:ItB q s.heap f u k) (aq:SeB p s.heap n xs) (an:SeB q s.heap u ys) (hx:xs[k]?=some x) (hy:ys[k]?=some y)
  (hQ:∀h',IsZip h' z TI TO (rawInt s⁻¹)->IsPair h' TO x y->ItB p h' h n (k+1)->ItB q h' f u (k+1)->IsPair h' s⁻¹ x y->
   (∀c o,c≠z->c≠TO->c≠h->c≠f->s.heap.get? c=some o->h'.get? c=some o)->Q (some<|.ref s⁻¹) {s with heap:=h'}):
  wpAny (model prog w) A (pyNext<|.ref z) Q E s:=by
 have Y:s.TypeIs (.ref z) "zip":=⟨_,hz,rfl⟩;unfold pyNext;refine aJ<|tV<|mS (name:=Str.ofString "__next__") Y nL<|kG nL Y F.entry_zip_next ?_<|DC _;show wpAny _ _ (field (.ref z) 2 >>= _) _ _ _;refine aJ<|eU hz rfl (x:=.bool false) rfl ?_;show wpAny _ _ (field (.ref z) 3 >>= _) _ _ _;refine aJ<|eU hz rfl (x:=.ref TI) rfl<|aJ<|jV ak rfl ?_;show wpAny _ _ (Builtin.SmallTypes.ownedTupleIsFree (.ref z) >>= _) _ _ _;refine aJ ?_;unfold Builtin.SmallTypes.ownedTupleIsFree;refine aJ<|eU hz rfl (x:=.none) rfl<|bJ ?_;simp only[if_true];refine aJ<|tR<|aJ<|eU hz rfl (x:=.ref TO) rfl<|aJ<|kZ hz (by simp) λh₁ O i=>?_;replace O:IsZip h₁ z TI TO .ellipsis:=O;refine aJ ?_;simp only[List.zipIdx_cons,List.zipIdx_nil,wC,List.forIn_nil];refine aJ<|aJ<|wpAny_onRaise ?_;show wpAny _ _ (Builtin.SmallTypes.nextOf (.ref h) >>= _) _ _ _;refine aJ<|CY (h1.at λo e=>i.extBut _ _ D.i1z e) (aq.at λo e=>i.extBut _ _ D.l1z e) hx λh₂ aj m=>bJ ?_;have T:IsPair h₂ TO a b:=m.extBut _ _ D.TOi1<|i.extBut _ _ D.TOz ah;refine aJ<|jV T rfl<|aJ<|wpAny_updateSeq_pair T λh₃ N l=>?_;replace N:IsPair h₃ TO x b:=N;refine aJ<|wpAny_letGo<|bJ ?_;refine aJ<|aJ<|wpAny_onRaise ?_;show wpAny _ _ (Builtin.SmallTypes.nextOf (.ref f) >>= _) _ _ _;refine aJ<|CY (h2.at λo e=>l.extBut _ _ D.TOi2.symm<|m.extBut _ _ D.i12.symm<|i.extBut _ _ D.i2z e) (an.at λo e=>l.extBut _ _ D.l2TO<|m.extBut _ _ D.l2i1<|i.extBut _ _ D.l2z e) hy λh₄ am B=>bJ ?_
 have a7:IsPair h₄ TO x b:=B.extBut _ _ D.TOi2 N;refine aJ<|jV a7 rfl<|aJ<|wpAny_updateSeq_pair a7 λd G r=>?_;replace G:IsPair d TO x y:=G;refine aJ<|wpAny_letGo<|bJ<|bJ ?_;refine aJ<|jV G rfl<|aJ<|wpAny_newTuple ?_;have hsz:d.objs.size=s⁻¹:=by rw[r.1,B.1,l.1,m.1,i.1]
 have af:IsZip d z TI TO .ellipsis:=r.extBut _ _ D.TOz.symm<|B.extBut _ _ D.i2z.symm<|l.extBut _ _ D.TOz.symm<|m.extBut _ _ D.i1z.symm O;have ap:∀c o,c≠z->c≠TO->c≠h->c≠f->s.heap.get? c=some o->d.get? c=some o:=λc o j C K L e=>
  r.extBut _ _ C (B.extBut _ _ L<|l.extBut _ _ C<|m.extBut _ _ K<|i.extBut _ _ j e)
 have ai:ItB p d h n (k+1):=aj.at λo e=>r.extBut _ _ D.TOi1.symm<|B.extBut _ _ D.i12<|l.extBut _ _ D.TOi1.symm e;have al:ItB q d f u (k+1):=am.at λo e=>r.extBut _ _ D.TOi2.symm e;have Z:z<d.objs.size:=bP af;show wpAny _ _ (Builtin.SmallTypes.ownedTupleHandOut (.ref z) (.ref d.objs.size) >>= _) _ _ _;refine aJ ?_;unfold Builtin.SmallTypes.ownedTupleHandOut;have ao:IsZip (d.push {cls:=.type "tuple",data:=.seq #[x,y]}) z TI TO .ellipsis:=bU _ af;refine aJ<|kZ ao (by simp) λh₇ M W=>?_;replace M:IsZip h₇ z TI TO (rawInt d.objs.size):=M;refine kZ M (by simp) λJ H X=>?_
 replace H:IsZip J z TI TO (rawInt d.objs.size):=H;have I:∀c o,c≠z->d.get? c=some o->J.get? c=some o:=λc o j e=>X.extBut _ _ j<|W.extBut _ _ j<|bU _ e;have P:IsPair J d.objs.size x y:=X.extBut _ _ (dM Z)<|W.extBut _ _ (dM Z)<|dG _ rfl;rw[hsz]at H P;refine bJ ⟨_,rfl,?_⟩;show wpAny _ _ (pure<|some<|Value.ref d.objs.size) _ _ _;refine bJ ?_;rw[hsz];exact hQ J H (I _ _ D.TOz G) (ai.at λo e=>I _ o D.i1z e) (al.at λo e=>I _ o D.i2z e) P λc o j C K L e=>I c o j<|ap c o j C K L e
def SF{p q:Bool}{z TI TO m l B J:Addr}{k:Nat}{xs ys:Array Value}{a b:Value}{Q:Option Value->Shared->Prop}(X:A.handled=none)(D:ZipApart z TI TO m l B J)
  (hz:IsZip s.heap z TI TO .none) (ah:IsPair s.heap TI (.ref m) (.ref l)) (af:IsPair s.heap TO a b)
  (h1:ItB p s.heap m B k) (h2:ItB q s.heap l J k) (aj:SeB p s.heap B xs) (ai:SeB q s.heap J ys) (a8:xs[k]?=none\/ys[k]?=none)
  (hQ:∀h',(∀c o,c≠z->c≠TO->c≠m->c≠l->s.heap.get? c=some o->h'.get? c=some o)->Q none {s with heap:=h'}):wpAny (model prog w) A (pyNext<|.ref z) Q E s:=by
 have O:s.TypeIs (.ref z) "zip":=⟨_,hz,rfl⟩;unfold pyNext;have stop:∀(h':Heap)(e:Addr),(∀c o,c≠z->c≠TO->c≠m->c≠l->s.heap.get? c=some o->h'.get? c=some o)->(∃o,h'.get? e=some o/\o.cls=.type "StopIteration")->
   wpAny (model prog w) A (do if (<-isInstance (.ref e) (.type "StopIteration"))=true then pure none else throw (.ref e)) Q E {s with heap:=h'}:=λh' e hk he=>by
  obtain⟨o,ho,hc⟩:=he;exact aJ<|wpAny_isInstance (T:="StopIteration") (b:=true) ⟨o,ho,hc⟩ isSubtype_stop<|bJ<|hQ _ hk
 refine aJ<|tV<|mS (name:=Str.ofString "__next__") O nL<|kG nL O F.entry_zip_next ?_<|DC _;show wpAny _ _ (field (.ref z) 2 >>= _) _ _ _;refine aJ<|eU hz rfl (x:=.bool false) rfl ?_;show wpAny _ _ (field (.ref z) 3 >>= _) _ _ _;refine aJ<|eU hz rfl (x:=.ref TI) rfl<|aJ<|jV ah rfl ?_;show wpAny _ _ (Builtin.SmallTypes.ownedTupleIsFree (.ref z) >>= _) _ _ _;refine aJ ?_;unfold Builtin.SmallTypes.ownedTupleIsFree;refine aJ<|eU hz rfl (x:=.none) rfl<|bJ ?_;simp only[if_true];refine aJ<|tR<|aJ<|eU hz rfl (x:=.ref TO) rfl<|aJ<|kZ hz (by simp) λC u f=>?_;replace u:IsZip C z TI TO .ellipsis:=u;refine aJ ?_;simp only[List.zipIdx_cons,List.zipIdx_nil,wC,List.forIn_nil];refine aJ<|aJ<|wpAny_onRaise ?_;show wpAny _ _ (Builtin.SmallTypes.nextOf (.ref m) >>= _) _ _ _;have Y:=h1.at (h':=C) λo e=>f.extBut _ _ D.i1z e;have aa:=aj.at (h':=C) λo e=>f.extBut _ _ D.l1z e;cases hx:xs[k]? with
 | none=>
  refine aJ<|JH X Y aa hx λH e d he=>?_;obtain⟨I,i,n⟩:=he;have N:IsZip H z TI TO .ellipsis:=d _ _ D.i1z.symm u;have K:e≠z:=λx=>by subst x;rw[N]at i;cases i;simp at n
  refine kZ N (by simp) λZ _ j=>?_
  exact stop Z e (λc o r _ G _ x=>j.extBut _ _ r<|d _ _ G<|f.extBut _ _ r x) ⟨I,j.extBut _ _ K i,n⟩
 | some x=>
  have hy:ys[k]?=none:=by rcases a8 with h | h;rw[hx]at h;cases h;exact h
  refine aJ<|CY Y aa hx λH ak d=>bJ ?_;have P:IsPair H TO a b:=d.extBut _ _ D.TOi1<|f.extBut _ _ D.TOz af;refine aJ<|jV P rfl<|aJ<|wpAny_updateSeq_pair P λZ ag j=>?_;refine aJ<|wpAny_letGo<|bJ ?_;refine aJ<|aJ<|wpAny_onRaise ?_;show wpAny _ _ (Builtin.SmallTypes.nextOf (.ref l) >>= _) _ _ _;refine aJ<|JH X (h2.at λo e=>j.extBut _ _ D.TOi2.symm<|d.extBut _ _ D.i12.symm<|f.extBut _ _ D.i2z e) (ai.at λo e=>j.extBut _ _ D.l2TO<|d.extBut _ _ D.l2i1<|f.extBut _ _ D.l2z e) hy λh₄ e L he=>?_
  obtain⟨I,i,n⟩:=he;have W:IsZip h₄ z TI TO .ellipsis:=L _ _ D.i2z.symm<|j.extBut _ _ D.TOz.symm<|d.extBut _ _ D.i1z.symm u;have K:e≠z:=λx=>by subst x;rw[W]at i;cases i;simp at n
  refine kZ W (by simp) λh₅ _ M=>?_
  exact stop h₅ e (λc o r c2 G c4 x=>M.extBut _ _ r<|L _ _ c4<|j.extBut _ _ c2<|d.extBut _ _ G<|f.extBut _ _ r x) ⟨I,M.extBut _ _ K i,n⟩
def kI(K:Fq)(tp:Bool)(H:Hp)(a:Addr)(xs:List V):Prop:=match tp with | true=>SqT K H a xs | false=>SqL K H a xs
def NJ(K:Fq)(p q:Bool)(a b:Addr):It:=
 ⟨λi H=>∃xs ys x y,kI K p H a xs/\kI K q H b ys/\xs[i]?=some x/\ys[i]?=some y, λi H v H'=>∃T x y,H T=none/\v=.ref T/\H'=upd H T (.tup [x,y])/\(∀xs,kI K p H a xs->xs[i]?=some x)/\∀ys,kI K q H b ys->ys[i]?=some y, λi H=>∃xs ys,kI K p H a xs/\kI K q H b ys/\(↑xs<=i\/↑ys<=i)⟩
def Inv.seqB(I:Inv X pins σ H s)(h:kI X.K tp H a xs):∃its:List Value,Vals xs its/\SeB tp s.heap a its.toArray/\↑xs<=sizeLine:=by
 cases tp with
 | true=>obtain⟨its,r,p,hz⟩:=I.tuple h;exact⟨its,r,p,hz⟩
 | false=>obtain⟨its,r,p,hz⟩:=I.list h;exact⟨its,r,p.isList,hz⟩
def Inv.seqB_inj(I:Inv X pins σ H s)(h:kI X.K tp H a xs)(h':kI X.K tp H a ys):xs=ys:=by
 cases tp with
 | true=>exact I.tuple_inj h h'
 | false=>exact I.list_inj h h'
def Ad{P:Program}{w:World}{K:Fq}{es:List Expr}{k:Nat}{pos:Pos}{p q:Bool}{z TI TO n m A L:Addr}(D:ZipApart z TI TO n m A L):
  fC P w K (.Tuple es k pos) (NJ K p q A L) [z,TI,TO,n,m] z (λi h=>IsZip h z TI TO .none/\IsPair h TI (.ref n) (.ref m)/\(∃a b,IsPair h TO a b)/\ItB p h n A i/\ItB q h m L i) where
 mem:=by simp
 obj:=λi h st b d=>by
  obtain⟨hz,f,⟨a,c,j⟩,h1,h2⟩:=st;simp only[wp9,aV,cY]at d;rcases d with rfl | rfl | rfl | rfl | rfl
  .exact⟨_,hz,λv e=>by
    have r:Data.fields _=Data.cell v:=e;cases r⟩
  .exact⟨_,f,λv e=>by
    have r:Data.seq _ _=Data.cell v:=e;cases r⟩
  .exact⟨_,j,λv e=>by
    have r:Data.seq _ _=Data.cell v:=e;cases r⟩
  .exact h1.obj
  .exact h2.obj
 keep:=λi h h' st kp=>by
  obtain⟨hz,f,⟨a,c,j⟩,h1,h2⟩:=st;exact⟨kp z (by simp) _ hz,kp TI (by simp) _ f,⟨a,c,kp TO (by simp) _ j⟩,h1.at λo e=>kp n (by simp) o e,h2.at λo e=>kp m (by simp) o e⟩
 item:=by
  intro X O N Z hc i a3 s σ H E I B st hg;subst O N Z;obtain⟨xs,ys,x,y,J,G,u,hy⟩:=hg;obtain⟨hz,f,⟨a,c,j⟩,h1,h2⟩:=st;obtain⟨a7,T,W,_⟩:=I.seqB J;obtain⟨aa,a8,p2,_⟩:=I.seqB G;obtain⟨u1,ah,af⟩:=T.get u;obtain⟨u2,ak,ag⟩:=a8.get hy;have lt:∀{c o},s.heap.get? c=some o->s⁻¹≠c:=λe=>dM<|bP e;refine PV D hz f j h1 h2 W p2 (x:=u1) (y:=u2) (by simpa using ah) (by simpa using ak) λh' al a9 aj ai hT C=>?_
  refine⟨_,rfl,wpAny_letOwnedTupleGo_zip (s:={s with heap:=h'}) al λY a6 l=>?_⟩;have am:Y.get? s⁻¹=some {cls:=.type "tuple",data:=.seq [u1,u2].toArray}:=l.extBut _ _ (lt hz) hT;have keep:∀b o,b∉[z,TI,TO,n,m]->s.heap.get? b=some o->Y.get? b=some o:=λb o d e=>
   l.extBut _ _ (λx=>d<|by simp[x]) (C b o (λx=>d<|by simp[x]) (λx=>d<|by simp[x]) (λx=>d<|by simp[x]) (λx=>d<|by simp[x]) e)
  have I1:Inv X a3 σ (upd H s⁻¹<|.tup [x,y]) {s with heap:=Y}:=I.turnedNew (t':=s.toks) B keep am (.cons af<|.cons ag .nil) (by show 2<=sizeLine;decide);refine⟨.ref s⁻¹,_,I1,rfl,⟨_,x,y,I.hok.fresh<|aW _,rfl,rfl,λae M=>by rw[I.seqB_inj M J];exact u,λae M=>by rw[I.seqB_inj M G];exact hy⟩,
   ⟨a6,l.extBut _ _ D.TIz<|C _ _ D.TIz D.TITO D.TIi1 D.TIi2 f,⟨_,_,l.extBut _ _ D.TOz a9⟩,aj.at λo e=>l.extBut _ _ D.i1z e,ai.at λo e=>l.extBut _ _ D.i2z e⟩,λb d=>?_⟩
  obtain⟨o,e,_⟩:∃o,s.heap.get? b=some o/\True:=by
   simp only[wp9,aV,cY]at d;rcases d with rfl | rfl | rfl | rfl | rfl
   .exact⟨_,hz,trivial⟩
   .exact⟨_,f,trivial⟩
   .exact⟨_,j,trivial⟩
   .obtain⟨o,e,_⟩:=h1.obj;exact⟨o,e,trivial⟩
   .obtain⟨o,e,_⟩:=h2.obj;exact⟨o,e,trivial⟩
  rw[aC<|bK<|lt e];exact(B b d).1
 done:=by
  intro X O N Z hc i a3 s σ H E I B st hg;subst O N Z;obtain⟨xs,ys,J,G,u⟩:=hg;obtain⟨hz,f,⟨a,c,j⟩,h1,h2⟩:=st;obtain⟨a7,T,W,_⟩:=I.seqB J;obtain⟨aa,a8,p2,_⟩:=I.seqB G;have A:=T.length;have L:=↑a8;refine SF (I.ok.hd hc) D hz f j h1 h2 W p2 ?_ λh' C=>⟨rfl,I.turnedAll (t':=s.toks) B λb o d e=>C b o (λx=>d<|by simp[x]) (λx=>d<|by simp[x]) (λx=>d<|by simp[x]) (λx=>d<|by simp[x]) e⟩
  rcases u with h | h
  .exact .inl (FH<|by simp;lia)
  .exact .inr (FH<|by simp;lia)
 self:=λ_ _ _ _ _ st h=>wpAny_pyIter_zip st.1 h
abbrev CJ(h:Heap)(l1:Addr):Heap:=h.push {cls:=.type "tuple_iterator",data:=.fields #[.ref l1,.int 0 0]}
abbrev DX(h:Heap)(l1 l2:Addr):Heap:=(CJ h l1).push {cls:=.type "tuple_iterator",data:=.fields #[.ref l2,.int 0 0]}
abbrev DJ(h:Heap)(l1 l2:Addr):Heap:=(DX h l1 l2).push {cls:=.type "tuple",data:=.seq #[.ref h.objs.size,.ref (CJ h l1).objs.size]}
abbrev FZ(h:Heap)(l1 l2:Addr):Heap:=(DJ h l1 l2).push {cls:=.type "tuple",data:=.seq #[.none,.none]}
abbrev uZ(h:Heap)(l1 l2:Addr):Heap:=(FZ h l1 l2).push {cls:=.type "zip",data:=.fields #[.none,.bool false,.bool false,.ref (DX h l1 l2).objs.size,.ref (DJ h l1 l2).objs.size]}
def XS(a b:Addr)(xs ys:Array Value):
  Meets (Builtin.«zip.__new__» ⟨[.type "zip",.ref a,.ref b],[]⟩) (λ_ R s=>s.heap.IsTuple a xs/\s.heap.IsTuple b ys/\R (.ok<|.ret<|.ref (FZ s.heap a b).objs.size) {s with heap:=uZ s.heap a b}):=
 .of_wp λprog w A R s h=>by
  obtain⟨hp,g,d,tk,os⟩:=s;obtain⟨j,l,h⟩:=h;have m:=sub_zip;have e:Heap.IsTuple (Shared.heap ⟨hp,g,d,tk,os⟩) a xs:=j;have i:Heap.IsTuple (Shared.heap ⟨hp.push {cls:=.type "tuple_iterator",data:=.fields #[.ref a,.int 0 0]},g,d,tk,os⟩) b ys:=by
   obtain⟨o,f,r⟩:=l;exact⟨o,bU _ f,r⟩
  wp_walk using wpAny_pyIter_tuple e,wpAny_pyIter_tuple i
  exact⟨_,rfl,h⟩
def Aq(r:s.heap.IsTuple l1 xs)(u:s.heap.IsTuple l2 ys) (h:∀h',IsZip h' (s⁻¹+4) (s⁻¹+2) (s⁻¹+3) .none->IsPair h' (s⁻¹+2) (.ref s⁻¹) (.ref<|s⁻¹+1)-> IsPair h' (s⁻¹+3) .none .none->h'.IsTupleIter s⁻¹ l1 0->h'.IsTupleIter (s⁻¹+1) l2 0->
   (∀c o,s.heap.get? c=some o->h'.get? c=some o)->Q (.ref<|s⁻¹+4) {s with heap:=h'}):
  wpAny (model prog w) A (call (.type "zip") [.ref l1,.ref l2]) Q E s:=by
 refine callType_new F.called_zip (by decide) (F.typeCall_zip_2 _ _) (F.newCall_zip_2 _ _) (λobj=>F.args_object_init_3 obj _ _) F.entry_zip_new (XS l1 l2 xs ys) ⟨r,u,?_⟩;have b:(CJ s.heap l1).objs.size=s⁻¹+1:=nU ..;have d:(DX s.heap l1 l2).objs.size=s⁻¹+2:=by rw[nU,b]
 have a:(DJ s.heap l1 l2).objs.size=s⁻¹+3:=by rw[nU,d]
 have j:(FZ s.heap l1 l2).objs.size=s⁻¹+4:=by rw[nU,a]
 have l:∀c o,(CJ s.heap l1).get? c=some o->(uZ s.heap l1 l2).get? c=some o:=λc o e=>bU _<|bU _<|bU _<|bU _ e;have f:(uZ s.heap l1 l2).get? (FZ s.heap l1 l2).objs.size=some _:=dG _ rfl;have m:(uZ s.heap l1 l2).get? (DJ s.heap l1 l2).objs.size=some _:=bU _<|dG _ rfl;have i:(uZ s.heap l1 l2).get? (DX s.heap l1 l2).objs.size=some _:=bU _<|bU _<|dG _ rfl;have n:(uZ s.heap l1 l2).get? (CJ s.heap l1).objs.size=some _:=bU _<|bU _<|bU _<|dG _ rfl;have q:(uZ s.heap l1 l2).get? s⁻¹=some _:=l _ _<|dG _ rfl;show _/\_;rw[d,a,j]at f;rw[b,d]at i;rw[a]at m;rw[b]at n;rw[j];exact⟨⟨_,f,rfl⟩,h _ f i m ⟨_,q,rfl,rfl⟩ ⟨_,n,rfl,rfl⟩ λc o x=>l c o<|bU _ x⟩
def LX(K:Fq)(p:Bool)(ta:TA):TI:=λσ H R=>ta σ H λvs H1=>∃a b xs ys,vs=[.ref a,.ref b]/\kI K p H1 a xs/\kI K p H1 b ys/\R (NJ K p p a b) H1
theorem boot_zip:bootBuiltins "zip"=some (.type "zip"):=by first | exact PySem.boot_zip | rfl'
def tW{X:Cx}{p:Bool}{es:List Expr}{k:Nat}{B:Pos}{a b:Expr}{ta:TA}{W pos:Pos}(T:Gl X "zip")(N:X.mg "zip"=none)(Y:PA X [a,b] ta)
  (hs:starEach [a,b] X.env=[(false,eval a X.env),(false,eval b X.env)]:=by rfl) (E:starEach [b] X.env=[(false,eval b X.env)]:=by rfl):
  PI X (.Tuple es k B) (.Call (.Name "zip" W) [a,b] [] pos) (LX X.K p ta):=by
 intro u s σ H R I h;refine Call_ (lG I T N boot_zip<|oO (aU (Y pos u s σ H _ I h) λus d ⟨vs,H1,j,O,M⟩=>?_) (by rw[hs,E])<|by rw[E];rfl);obtain⟨x,G,xs,ys,e,P,Z,q⟩:=M;subst e;cases O with
 | cons r rr=>
  cases rr with
  | cons r' rr=>
   cases rr;cases r;cases r';obtain⟨a9,ad,n,_⟩:=j.seqB P;obtain⟨ab,ac,p2,_⟩:=j.seqB Z;have z:∀{tp:Bool}{l:Addr}{its:Array Value},SeB tp d.heap l its->l<d⁻¹:=λ{tp l its} h=>by
    cases tp with
    | true=>obtain⟨o,e,_⟩:=(show d.heap.IsTuple l its from h);exact bP e
    | false=>obtain⟨o,e,_⟩:=(show d.heap.IsList l its from h);exact bP e
   have D:ZipApart (d⁻¹+4) (d⁻¹+2) (d⁻¹+3) d⁻¹ (d⁻¹+1) x G:=zipApart_new (z n)<|z p2;have L:∀h',IsZip h' (d⁻¹+4) (d⁻¹+2) (d⁻¹+3) .none->IsPair h' (d⁻¹+2) (.ref d⁻¹) (.ref<|d⁻¹+1)->
     IsPair h' (d⁻¹+3) .none .none->ItB p h' d⁻¹ x 0->ItB p h' (d⁻¹+1) G 0->(∀c o,d.heap.get? c=some o->h'.get? c=some o)->
     wpAny (model X.prog X.w) X.A (pyIter<|.ref<|d⁻¹+4) (KP X u σ (.Tuple es k B) R) X.xe {d with heap:=h'}:=λh' hz m i h1 h2 f=>by
    refine wpAny_pyIter_zip (s:={d with heap:=h'}) hz ?_;refine⟨_,_,_,_,H1,rfl,j.kept (t':=d.toks) f,Ad D,⟨hz,m,⟨_,_,i⟩,h1,h2⟩,λb C=>?_,q⟩;have J:d⁻¹<=b:=by
     simp only[wp9,aV,cY]at C;rcases C with rfl | rfl | rfl | rfl | rfl
     .exact mQ _ _
     .exact mQ _ _
     .exact mQ _ _
     .exact aW _
     .exact mQ _ _
    exact j.fpOk J<|j.hok.fresh J
   cases p with
   | true=>exact Aq n p2 λh' hz m i h1 h2 f=>L h' hz m i h1 h2 f
   | false=>exact call_zip_2 n p2 λh' hz m i h1 h2 _ f=>L h' hz m i h1 h2 f
def ZB:typeLookup (.type "list") "keys"=pure none:=by rw[oS,pN];kernel_rfl
def VS(j:s.heap.get? a=some o)(l:o.cls=.type "list")(n:o.data=.seq xs k)(hd:o.dict=none)(r:A.handled=none)(h:∀h' tk,(∀b ob,s.heap.get? b=some ob->h'.get? b=some ob)->Q none {s with heap:=h',toks:=tk}):
  wpAny (model prog w) A (getAttr? (.ref a) "keys") Q E s:=by
 obtain⟨c,H,G,q⟩:=o;simp only at l n hd;subst l n hd;obtain⟨hp,g,d,tk,os⟩:=s;have m:∀f,(⟨hp,g,d,f,os⟩:Shared).TypeIs (.ref a) "list":=λ_=>⟨_,j,rfl⟩;have z:=sub_AttributeError;have C:=vj4.lookup;have B:=vj4.bind<|.ref a;have x:=am_list_getattr_none;unfold getAttr? getAttrBy? getAttrBy
 repeat (any_goals (first | assumption | exact m _ | ((with_reducible show wpAny _ _ (call (Value.builtin "list.__getattribute__") _ _) _ _ _);refine vY vj4 (m _) am_entry_list_getattribute (F.args_list_getattribute_2 _ _) (meets_getattribute_miss_list a xs k q "keys" _ ZB (by decide)<|by size_fits) ⟨j,r,λh' f e i=>?_⟩) | wp_step))
 obtain⟨t',u,he⟩:=i.there;show wpAny _ _ (getattributeRaised _ _ _ _ _ _ _) _ _ _;unfold getattributeRaised
 repeat (any_goals (first | assumption | wp_step))
 exact h h' f i.of.keeps
def DI:plainId "dict.update.loop"=true:=by rfl'
def NI:entryFor table "dict.update.loop"=some Builtin.«dict.update.loop»:=entryFor_of_fast (by kernel_rfl)
def Cf(h:Heap)(its:List Value)(kvs:List (aF×V)):Prop:=↑its=↑kvs/\∀(j:Nat) p,kvs[j]?=some p->∃T kv vv,its[j]?=some (.ref T)/\h.IsTuple T #[kv,vv]/\iU p.1 kv=true/\RelV p.2 vv
def UA{kvs:List (aF×V)}{j:Nat}{p:aF×V}(h:kvs[j]?=some p):cO [] (kvs.take<|j+1)=aO (cO []<|kvs.take j) p.1 p.2:=by
 unfold cO;rw[fW,h,GD];rfl
def ZZ{prog:Program}{w:World}{A:Around}{R:Result->Shared->Prop}{D it l:Addr}{its:List Value}{kvs:List (aF×V)}(Y:A.handled=none)(am:l≠D)(af:l≠it)(B:D≠it)(hz:↑kvs<sizeLine):
  ∀(n j:Nat)(s:Shared)(vs:List (aF×Value)),↑kvs-j=n->j<=↑kvs->s.heap.IsListIter it l j->s.heap.IsList l its.toArray->Cf s.heap its kvs->(∀T,Value.ref T∈its->T≠D/\T≠it)->
  s.heap.DictOf (cI prog w) D vs->KV (cO []<|kvs.take j) vs->
  (∀h' tk d,h'.DictOf (cI prog w) D d->KV (cO [] kvs) d->(∀b o,b≠D->b≠it->s.heap.get? b=some o->h'.get? b=some o)->R (.ok<|.ret .none) {s with heap:=h',toks:=tk})->
  codeAny (model prog w) A (.builtin "dict.update.loop" ⟨[.ref D,.ref it,rawInt j,.none],[]⟩) R s:=by
 intro n
 induction n with
 | zero=>
  intro j s vs hn hj h hl hp f hd a E;have e:j=↑kvs:=by lia
  subst e;refine codeAny_builtin NI ?_;rw[ED DI _];show wpAny _ A.in1 (pyNext (.ref it) >>= _) _ _ s;refine aJ<|wpAny_pyNext_list_end (A:=A.in1) Y h hl (by simp[hp.1]) λh' M=>?_;show wpAny _ A.in1 (Builtin.Dict.addKeywords D [] >>= _) _ _ _;refine aJ<|bJ<|bJ<|E h' s.toks vs ?_ ?_ λb o h1 h2 e=>M b o h2 e
  .exact hd.at λo e=>M D o B e
  .rw[gA<|aW _]at a;exact a
 | succ n ih=>
  intro j s vs hn hj h hl hp f hd a E;have m:j<↑kvs:=by lia
  obtain⟨T,z,G,hi,ht,a5,X⟩:=hp.2 j kvs[j]<|bF m;obtain⟨an,al⟩:=f T<|cU hi;refine codeAny_builtin NI ?_;rw[ED DI _];show wpAny _ A.in1 (pyNext (.ref it) >>= _) _ _ s;refine aJ<|wpAny_pyNext_list_item (A:=A.in1) h hl (x:=.ref T) (by simpa using hi) λh' a7 u=>?_;have C:h'.IsTuple T #[z,G]:=by obtain⟨o,e,r⟩:=ht;exact⟨o,u.extBut _ _ al e,r⟩
  have ac:h'.DictOf (cI prog w) D vs:=hd.at λo e=>u.extBut _ _ B e;obtain⟨ot,L,ec,nt,ed⟩:=id C;have N:↑vs<=sizeLine:=by
   have h1:=↑a;have h2:=xZ (kvs.take j) [];rw[eM]at h2;simp at h2;lia
  show wpAny _ A.in1 (holding [.ref T] _ >>= _) _ _ {s with heap:=h'};refine aJ<|iO<|aJ<|wpAny_tryCatch ?_;unfold Builtin.Dict.pairItems;refine aJ<|wpAny_typeOf (T:="tuple") ⟨ot,L,ec⟩ ?_;rw[bC<|by decide];refine aJ<|jV L ed<|bJ ?_;show wpAny _ A.in1 (holding [z,G]<|dictSet D z G) _ _ _;refine iO<|wpAny_dictSet_pairs (knd:=cI prog w) (k:=kvs[j].1) (hsz:=N) a5 ac λh2 aj H=>?_;refine bJ ⟨plainId_quiet DI _,?_⟩;have i:∀b o,b≠D->b≠it->s.heap.get? b=some o->h2.get? b=some o:=λb o h1 q e=>H.extBut _ _ h1<|u.extBut _ _ q e;refine ih (j+1) {s with heap:=h2,toks:=s.toks+1} _ (by lia) m (a7.at λo e=>H.extBut _ _ (bK B) e) (hl.at λo e=>i l o am af e) ⟨hp.1,λj' p Z=>?_⟩ f aj ?_ λq tk d ai ab kk=>?_
  .obtain⟨K,W,P,I,C,a1,O⟩:=hp.2 j' p Z;obtain⟨q1,q2⟩:=f K<|cU I;obtain⟨o,e,r⟩:=C;exact⟨K,W,P,I,⟨o,i _ _ q1 q2 e,r⟩,a1,O⟩
  .rw[UA<|bF m];exact a.put _ X
  .exact E q tk d ai ab λb o h1 J e=>kk b o h1 J<|i b o h1 J e
def vA(K:Fq):List V->Hp->VK->Prop:=λxs H Q=>∃(p:Addr)(ts:List Addr)(kvs:List (aF×V)),xs=[.ref p]/\SqL K H p (ts.map V.ref)/\↑ts=↑kvs/\↑kvs<sizeLine/\
 (∀(j:Nat) t kv,ts[j]?=some t->kvs[j]?=some kv->SqT K H t [kV kv.1,kv.2])/\∀l,H l=none->Q (.ref l) (upd H l<|.dK<|cO [] kvs)
def BS(E:X.calm=true):CallR X (.type "dict") (vA X.K):=by
 intro an s σ H xs us Q I r h;obtain⟨p,ts,kvs,rfl,hq,ag,ao,a4,q⟩:=h;obtain⟨u,rfl,rx⟩:=jO r;cases rx;obtain⟨its,J,M,hz⟩:=I.list hq;obtain⟨Z,nl,B,ac,a7,al⟩:=id M;have a5:p<s⁻¹:=bP B;have au:↑its=↑ts:=by have:=J.length;rw[aK]at this;exact this.symm
 have W:∀(j:Nat) t,ts[j]?=some t->its[j]?=some (.ref t):=λj t e=>by
  obtain⟨u,hu,ru⟩:=J.get (i:=j) (x:=V.ref t) (by rw[bO,e];rfl);cases ru;exact hu
 refine callType_codes (Q₁:=λobj s₁=>obj=.ref s⁻¹/\s₁={s with heap:=s.heap.push {cls:=.type "dict",data:=.dict #[]}}) F.kt_called_dict (F.kt_typeCall_dict_1 _) F.entry_dict_init (kt_code_dict_new _ ⟨rfl,rfl⟩) ?_;rintro obj s₁ ⟨rfl,rfl⟩;have n:(s.heap.push {cls:=.type "dict",data:=.dict #[]}).DictOf (cI X.prog X.w) s⁻¹ []:=Heap.DictOf.new s.heap;exists n.typeIs,F.args_dict_init_2 _ _;unfold Builtin.«dict.__init__»;refine aJ ?_;unfold Builtin.Dict.selfAndRest;refine aJ<|wpAny_notOrdered_dict n.typeIs ?_;show wpAny _ _ (pure (s⁻¹,[Value.ref p])) _ _ _;refine bJ ?_;show wpAny _ _ (Builtin.Dict.updateFrom "dict.__init__" s⁻¹ (.ref p) [] .none) _ _ _;unfold Builtin.Dict.updateFrom;have Y:(s.heap.push {cls:=.type "dict",data:=.dict #[]}).get? p=some Z:=bU _ B;refine aJ<|wpAny_typeOf (T:="list") ⟨Z,Y,ac⟩ ?_;rw[bC<|by decide];refine aJ<|VS (A:=X.A.in1.in1) Y ac al a7 (I.ok.hd E) λh2 am G=>?_;show wpAny _ _ (rule _ >>= _) _ _ _;refine aJ<|tR ?_;have a1:∀b o,s.heap.get? b=some o->h2.get? b=some o:=λb o e=>G b o<|bU _ e;have O:h2.IsList p its.toArray:=M.isList.at λo e=>a1 p o e;have C:h2.DictOf (cI X.prog X.w) s⁻¹ []:=n.at λo e=>G _ o e;have l:s⁻¹<h2.objs.size:=by obtain⟨_,_,_,e,_⟩:=C;exact bP e
 refine aJ<|DL (s:={s with heap:=h2,toks:=am}) O<|bJ ⟨plainId_quiet DI _,?_⟩;have z:∀b o,s.heap.get? b=some o->(h2.push {cls:=.type "list_iterator",data:=.fields #[.ref p,.int 0 0]}).get? b=some o:=λb o e=>bU _<|a1 b o e;have N:∀(j:Nat) t,ts[j]?=some t->t<s⁻¹/\∃m kvv vv,kvs[j]?=some m/\s.heap.IsTuple t #[kvv,vv]/\iU m.1 kvv=true/\RelV m.2 vv:=λj t e=>by
  obtain⟨d,_⟩:=zz2.mp e;have L:kvs[j]?=some kvs[j]:=bF (by lia);obtain⟨ar,rt,pt,_⟩:=I.tuple<|a4 j t _ e L;cases rt with
  | cons r1 rr=>
   cases rr with
   | cons r2 rr=>
    cases rr;obtain⟨o,eo,rest⟩:=id pt;exact⟨bP eo,_,_,_,L,pt,jS (P:=X.prog) (w:=X.w) r1,r2⟩
 refine ZZ (A:=X.A.in1) (I.ok.hd E) (its:=its) (kvs:=kvs) (bV a5) (bV<|gQ a5 l) (bV l) ao ↑kvs 0 _ [] (by simp) (bM _) ⟨_,dG _ rfl,rfl,rfl⟩ (O.at λo e=>bU _ e) ⟨by lia,λj m d=>?_⟩ (λT hT=>?_)
  (C.at λo e=>bU _ e) .nil λh' tk ap ah aj kk=>?_
 .obtain⟨aq,_⟩:=zz2.mp d;have f:ts[j]?=some ts[j]:=bF (by lia);obtain⟨_,as,a,b,h1,ak,h3,h4⟩:=N j _ f;rw[d]at h1;cases h1;obtain⟨o,e,r⟩:=ak;exact⟨_,a,b,W j _ f,⟨o,z _ _ e,r⟩,h3,h4⟩
 .obtain⟨j,d,e⟩:=mW hT;have f:ts[j]?=some ts[j]:=bF (by lia);have:=W j _ f;rw[bF d,e]at this;cases this;have:=(N j _ f).1;exact⟨bV this,bV<|gQ this l⟩
 .refine⟨rfl,⟨.ref s⁻¹,_,?_,rfl,q _<|I.hok.fresh<|aW _⟩⟩;have ai:↑(cO [] kvs)<=sizeLine:=by
   have:=xZ kvs [];simp at this;lia
  have a8:(s⁻¹ == sysModules)=false:=by
   have:=I.big;simpa using dM this
  exact I.laid (t':=tk) (o:=.dK<|cO [] kvs) (λb o e=>kk b o (bV<|bP e) (bV<|gQ (bP e) l)<|z b o e) (aW _) ⟨ai,a8,ap,aj,ah⟩
section
variable{tg:Expr}
end
def Inv.laidMany(I:Inv X pins σ H s)(keep:∀b o,s.heap.get? b=some o->h'.get? b=some o)(d:∀b,b<s⁻¹->H' b=H b)(i:HOk X.prog X.w H' h'):Inv X pins σ H' {s with heap:=h',toks:=t'}:=by
 have a:Inv X pins σ H {s with heap:=h',toks:=t'}:=I.kept (t':=t') keep;have old:∀b o',X.s₀.heap.get? b=some o'->b<s⁻¹:=λb o' e=>fU (bP e) I.sz;have lt:∀b u,H b=some u->b<s⁻¹:=λb u e=>by
  rcases Nat.lt_or_ge b s⁻¹ with h | h
  .exact h
  .rw[I.hok.fresh h]at e;cases e
 have base:=a.base;refine⟨a.ok,a.os,a.bare,⟨base.keep,base.slot,λb f q n j=>?_,base.there,λb ys q=>?_,λb f y q=>?_,λb ps q=>?_⟩,a.loc,a.cell,?_,λy c h=>?_,λp hp=>?_,i,a.len⟩
 .rw[d b<|old b f q];exact base.free b f q n j
 .have:=base.tups b ys q;rw[d b<|lt b _ this];exact this
 .have:=base.frzs b f y q;rw[d b<|lt b _ this];exact this
 .obtain⟨m,this⟩:=base.tbls b ps q;exact⟨m,by rw[d b<|lt b _ this];exact this⟩
 .rw[d _ I.lt];exact I.free
 .obtain⟨v,q⟩:=I.cell y c h;rw[d _ q.lt];exact I.freeC y c h
 .obtain⟨l,r,x⟩:=a.pin p hp;have:=bP (I.pin p hp).1;exact⟨l,by rw[d _ this];exact r,x⟩
abbrev rE(h:Heap)(z TI TO T:Addr)(f:Bool):Prop:=
 h.get? z=some {cls:=.type "zip",dict:=none,data:=.fields #[rawInt T,.bool f,.bool false,.ref TI,.ref TO],slots:=#[]}
def UL{z TI TO T:Addr}{f:Bool}{b:Obj}{Q:Bool->Shared->Prop}(hz:rE s.heap z TI TO T f)(d:s.heap.get? T=some b)
  (h:∀a,rE a z TI TO T true->Heap.SameBut z s.heap a->Q false {s with heap:=a}):wpAny (model prog w) A (Builtin.SmallTypes.ownedTupleIsFree<|.ref z) Q E s:=by
 unfold Builtin.SmallTypes.ownedTupleIsFree;refine aJ<|eU hz rfl (x:=rawInt T) rfl ?_;show wpAny _ _ (loadIfAlive ((T:Int).toNat) >>= _) _ _ _;rw[zL];refine aJ<|PySem.W.kdx_alive d ?_;show wpAny _ _ (field (.ref z) 1 >>= _) _ _ s;refine aJ<|eU hz rfl (x:=.bool f) rfl ?_;cases f with
 | true=>exact bJ<|h s.heap hz<|Heap.SameBut.refl _ _
 | false=>exact aJ<|kZ hz (by simp) λa e i=>bJ<|h a e i
def Cq{z TI TO b a i j T:Addr}{f:Bool}{q:Obj}{k:Nat}{xs ys:Array Value}{x y:Value}{Q:Option Value->Shared->Prop}(D:ZipApart z TI TO b a i j)
  (hz:rE s.heap z TI TO T f) (C:s.heap.get? T=some q) (N:IsPair s.heap TI (.ref b) (.ref a))
  (h1:s.heap.IsListIter b i k) (h2:s.heap.IsListIter a j k) (B:s.heap.IsList i xs) (K:s.heap.IsList j ys) (r:xs[k]?=some x) (W:ys[k]?=some y)
  (L:∀h',rE h' z TI TO T true->h'.IsListIter b i (k+1)->h'.IsListIter a j (k+1)->IsPair h' s⁻¹ x y->
   (∀c o,c≠z->c≠b->c≠a->s.heap.get? c=some o->h'.get? c=some o)->Q (some<|.ref s⁻¹) {s with heap:=h'}):
  wpAny (model prog w) A (pyNext<|.ref z) Q E s:=by
 have ty:s.TypeIs (.ref z) "zip":=⟨_,hz,rfl⟩;unfold pyNext;refine aJ<|tV<|mS (name:=Str.ofString "__next__") ty nL<|kG nL ty F.entry_zip_next ?_<|DC _;show wpAny _ _ (field (.ref z) 2 >>= _) _ _ s;refine aJ<|eU hz rfl (x:=.bool false) rfl ?_;show wpAny _ _ (field (.ref z) 3 >>= _) _ _ s;refine aJ<|eU hz rfl (x:=.ref TI) rfl<|aJ<|jV N rfl ?_;show wpAny _ _ (Builtin.SmallTypes.ownedTupleIsFree (.ref z) >>= _) _ _ s;refine aJ<|UL hz C λX H d=>?_;simp only[EQ,jD];refine aJ ?_;simp only[List.forIn_toArray,wC,List.forIn_nil];refine aJ<|aJ<|iO ?_;show wpAny _ _ (Builtin.SmallTypes.nextOf (.ref b) >>= _) _ _ _;refine aJ<|CY (tp:=false) (h1.at λo e=>d.extBut _ _ D.i1z e) (B.at λo e=>d.extBut _ _ D.l1z e) r λI J l=>bJ ?_;refine bJ ?_;refine aJ<|aJ<|iO ?_;show wpAny _ _ (Builtin.SmallTypes.nextOf (.ref a) >>= _) _ _ _;refine aJ<|CY (tp:=false) (h2.at λo e=>l.extBut _ _ D.i12.symm<|d.extBut _ _ D.i2z e) (K.at λo e=>l.extBut _ _ D.l2i1<|d.extBut _ _ D.l2z e) W λh O m=>bJ ?_;refine bJ<|bJ ?_;have hsz:h.objs.size=s⁻¹:=by rw[m.1,l.1,d.1]
 show wpAny _ _ (newTuple [x,y] >>= _) _ _ _;refine aJ<|wpAny_newTuple ?_;refine bJ ⟨_,rfl,?_⟩;show wpAny _ _ (pure<|some<|Value.ref h.objs.size) _ _ _;refine bJ ?_;have P:∀c o,c≠z->c≠b->c≠a->s.heap.get? c=some o->(h.push {cls:=.type "tuple",data:=.seq #[x,y]}).get? c=some o:=λc o M G u e=>bU _<|m.extBut _ _ u<|l.extBut _ _ G<|d.extBut _ _ M e;have n:IsPair (h.push {cls:=.type "tuple",data:=.seq #[x,y]}) h.objs.size x y:=dG _ rfl;rw[hsz]at n ⊢;refine L _ (bU _<|m.extBut _ _ D.i2z.symm<|l.extBut _ _ D.i1z.symm H) ?_ ?_ n P
 .exact(show Heap.IsListIter I b i (k+1) from J).at λo e=>bU _<|m.extBut _ _ D.i12 e
 .exact(show Heap.IsListIter h a j (k+1) from O).at λo e=>bU _ e
def VM{z TI TO a i d K T:Addr}{f:Bool}{l:Obj}{k:Nat}{xs:Array Value}{Q:Option Value->Shared->Prop}(C:A.handled=none)(D:ZipApart z TI TO a i d K)
  (hz:rE s.heap z TI TO T f) (n:s.heap.get? T=some l) (L:IsPair s.heap TI (.ref a) (.ref i))
  (h1:s.heap.IsListIter a d k) (G:s.heap.IsList d xs) (m:xs[k]?=none)
  (H:∀h',(∀c o,c≠z->c≠a->s.heap.get? c=some o->h'.get? c=some o)->Q none {s with heap:=h'}):wpAny (model prog w) A (pyNext<|.ref z) Q E s:=by
 have ty:s.TypeIs (.ref z) "zip":=⟨_,hz,rfl⟩;unfold pyNext;refine aJ<|tV<|mS (name:=Str.ofString "__next__") ty nL<|kG nL ty F.entry_zip_next ?_<|DC _;show wpAny _ _ (field (.ref z) 2 >>= _) _ _ s;refine aJ<|eU hz rfl (x:=.bool false) rfl ?_;show wpAny _ _ (field (.ref z) 3 >>= _) _ _ s;refine aJ<|eU hz rfl (x:=.ref TI) rfl<|aJ<|jV L rfl ?_;show wpAny _ _ (Builtin.SmallTypes.ownedTupleIsFree (.ref z) >>= _) _ _ s;refine aJ<|UL hz n λM O h=>?_;simp only[EQ,jD];refine aJ ?_;simp only[List.forIn_toArray,wC,List.forIn_nil];refine aJ<|aJ<|iO ?_;show wpAny _ _ (Builtin.SmallTypes.nextOf (.ref a) >>= _) _ _ _;refine aJ<|JH (tp:=false) C (h1.at λo e=>h.extBut _ _ D.i1z e) (G.at λo e=>h.extBut _ _ D.l1z e) m λN e B he=>?_;obtain⟨J,u,j⟩:=he;exact aJ<|wpAny_isInstance (T:="StopIteration") (b:=true) ⟨J,u,j⟩ isSubtype_stop<|bJ<|H _ λc o I r q=>B _ _ r<|h.extBut _ _ I q
structure ZipSt(h:Heap)(S z TI TO i1 i2 l1 l2:Addr)(xs ys:List Value)(i:Nat)(ts:List Addr):Prop where
 zs:(ts=[]/\IsZip h z TI TO .none)\/∃T f,T∈ts/\rE h z TI TO T f
 tI:IsPair h TI (.ref i1) (.ref i2)
 tO:∃a b,IsPair h TO a b
 a1:h.IsListIter i1 l1 i
 a2:h.IsListIter i2 l2 i
 b1:h.IsList l1 xs.toArray
 b2:h.IsList l2 ys.toArray
 len:↑ts=i
 nd:ts.Nodup
 up:∀t∈ts,S<t
 prs:∀(j:Nat) t,ts[j]?=some t->∃x y,xs[j]?=some x/\ys[j]?=some y/\IsPair h t x y
def ZipSt.move{h h':Heap}{S z TI TO r l d n:Addr}{xs ys:List Value}{i:Nat}{ts:List Addr}(q:ZipSt h S z TI TO r l d n xs ys i ts)(C:z≠S/\TI≠S/\TO≠S/\r≠S/\l≠S/\d≠S/\n≠S)
  (k:∀b o,b≠S->h.get? b=some o->h'.get? b=some o):ZipSt h' S z TI TO r l d n xs ys i ts:=by
 obtain⟨s,J,P,K,I,H,O⟩:=C;obtain⟨zs,A,⟨a,b,B⟩,N,w,E,M,len,nd,u,m⟩:=q;refine⟨?_,k _ _ J A,⟨a,b,k _ _ P B⟩,N.at λo e=>k _ o K e,w.at λo e=>k _ o I e,E.at λo e=>k _ o H e,M.at λo e=>k _ o O e,len,nd,u,λj t e=>?_⟩
 .rcases zs with ⟨e,q⟩ | ⟨T,f,hT,q⟩
  .exact .inl ⟨e,k _ _ s q⟩
  .exact .inr ⟨T,f,hT,k _ _ s q⟩
 .obtain⟨x,y,L,W,G⟩:=m j t e;exact⟨x,y,L,W,k _ _ (dM<|u t<|cU e) G⟩
def ZipSt.turn{S z TI TO m l r G:Addr}{xs ys:List Value}{i:Nat}{ts:List Addr}{Q:Option Value->Shared->Prop}(D:ZipApart z TI TO m l r G)(q:ZipSt s.heap S z TI TO m l r G xs ys i ts)
  (hS:S<s⁻¹) (ht:∀t∈ts,t≠z/\t≠TO/\t≠m/\t≠l) (hi:i<↑xs) (hl:↑xs=↑ys)
  (hQ:∀h' t,ZipSt h' S z TI TO m l r G xs ys (i+1) (ts++[t])->s⁻¹<=t->(∀c o,c≠z->c≠TO->c≠m->c≠l->s.heap.get? c=some o->h'.get? c=some o)->Q (some<|.ref t) {s with heap:=h'}):
  wpAny (model prog w) A (pyNext<|.ref z) Q E s:=by
 obtain⟨zs,I,⟨a,b,Y⟩,a1,X,K,O,len,nd,up,n⟩:=q;have ex:xs.toArray[i]?=some xs[i]:=by simp[hi]
 have ey:ys.toArray[i]?=some (ys[i]'(by lia)):=by simp[show i<ys.length by lia]
 have a5:xs[i]?=some xs[i]:=bF hi;have a6:ys[i]?=some (ys[i]'(by lia)):=bF (by lia);have Z:∀h':Heap,((∃T f,T∈ts++[s⁻¹]/\rE h' z TI TO T f))->(∃a b,IsPair h' TO a b)->h'.IsListIter m r (i+1)->h'.IsListIter l G (i+1)->IsPair h' s⁻¹ xs[i] (ys[i]'(by lia))->
   (∀c o,c≠z->c≠TO->c≠m->c≠l->s.heap.get? c=some o->h'.get? c=some o)->ZipSt h' S z TI TO m l r G xs ys (i+1) (ts++[s⁻¹]):=by
  intro h' hz a4 C c2 hp d;refine⟨.inr hz,d _ _ D.TIz D.TITO D.TIi1 D.TIi2 I,a4,C,c2,K.at λo e=>d _ o D.l1z D.l1TO D.l1i1 D.l1i2 e,O.at λo e=>d _ o D.l2z D.l2TO D.l2i1 D.l2i2 e,by rw[bH,len];rfl,?_,λt M=>?_,λj t e=>?_⟩
  .refine vk7.mpr ⟨nd,by simp,λt M u hu=>?_⟩;obtain⟨j,B⟩:=wt5.mp M;obtain⟨_,_,_,_,e⟩:=n j t B;rw[wq1.mp hu];exact bV<|bP e
  .rcases wr7.mp M with h | h
   .exact up t h
   .rw[wq1.mp h];exact hS
  .by_cases B:j<↑ts
   .rw[kE B]at e;obtain⟨x,y,e1,e2,e3⟩:=n j t e;obtain⟨n1,n2,n3,n4⟩:=ht t<|cU e;exact⟨x,y,e1,e2,d _ _ n1 n2 n3 n4 e3⟩
   .rw[kN<|by lia]at e;have h0:j-↑ts=0:=by
     cases hz:j-↑ts with
     | zero=>rfl
     | succ k=>rw[hz]at e;simp at e
    rw[h0]at e;simp only[DZ,ET]at e;subst e;have:j=i:=by lia
    subst this;exact⟨_,_,a5,a6,hp⟩
 rcases zs with ⟨rfl,hz⟩ | ⟨T,f,hT,hz⟩
 .exact PV (p:=false) (q:=false) D hz I Y a1 X K O ex ey λh' L g2 H P W d=>hQ h' _ (Z h' ⟨_,false,gM _<|wq1.mpr rfl,L⟩ ⟨_,_,g2⟩ H P W d) (aW _) d
 .obtain⟨j,B⟩:=wt5.mp hT;obtain⟨_,_,_,_,eT⟩:=n j T B;exact Cq D hz eT I a1 X K O ex ey λh' L H P W d=>hQ h' _ (Z h' ⟨T,true,sN _ hT,L⟩ ⟨_,_,d _ _ D.TOz D.TOi1 D.TOi2 Y⟩ H P W λc o C _ J N e=>d c o C J N e) (aW _) λc o C _ J N e=>d c o C J N e
def ZipSt.stop{S z TI TO i d l x:Addr}{xs ys:List Value}{ts:List Addr}{Q:Option Value->Shared->Prop}(r:A.handled=none)(D:ZipApart z TI TO i d l x)(q:ZipSt s.heap S z TI TO i d l x xs ys ↑xs ts)
  (u:∀h',(∀c o,c≠z->c≠TO->c≠i->c≠d->s.heap.get? c=some o->h'.get? c=some o)->Q none {s with heap:=h'}):wpAny (model prog w) A (pyNext<|.ref z) Q E s:=by
 obtain⟨zs,m,⟨a,b,H⟩,B,C,n,L,len,nd,M,h⟩:=q;have ex:xs.toArray[↑xs]?=none:=by simp
 rcases zs with ⟨rfl,hz⟩ | ⟨T,f,hT,hz⟩
 .exact SF (p:=false) (q:=false) r D hz m H B C n L (.inl ex) u
 .obtain⟨j,I⟩:=wt5.mp hT;obtain⟨_,_,_,_,eT⟩:=h j T I;exact VM r D hz eT m B n ex λh' J=>u h' λc o K _ G _ e=>J c o K G e
def WS:typeLookup (.type "zip") "__len__"=pure none:=by(rw[oS,pN];kernel_rfl)
def XE:typeLookup (.type "zip") "__length_hint__"=pure none:=by(rw[oS,pN];kernel_rfl)
section
variable{R:Result->Shared->Prop}
def XI(a:s.TypeIs (.ref z) "zip")(h:Q true s):wpAny (model prog w) A (Builtin.List.listLengthHint<|.ref z) Q E s:=by
 unfold Builtin.List.listLengthHint;refine aJ<|nP a WS ?_;refine wpAny_ite_split (λc=>absurd c<|by decide) λ_=>?_;refine wpAny_ite_split (λc=>absurd c<|by decide) λ_=>?_;refine aJ<|nP a XE ?_;exact bJ h
abbrev wB(h:Heap)(S:Addr)(ts:List Addr)(c:Nat):Prop:=h.get? S=some {cls:=.type "list",dict:=none,data:=.seq (ts.map Value.ref).toArray c,slots:=#[]}
structure HH(h₀ h:Heap)(S z TO i1 i2:Addr)(xs ys:List Value)(ts:List Addr):Prop where
 keep:∀b o,b≠S->b≠z->b≠TO->b≠i1->b≠i2->h₀.get? b=some o->h.get? b=some o
 lst:∃c,wB h S ts c
 len:↑ts=↑xs
 nd:ts.Nodup
 up:∀t∈ts,S<t
 prs:∀(j:Nat) t,ts[j]?=some t->∃x y,xs[j]?=some x/\ys[j]?=some y/\IsPair h t x y
def Cj{S z TI TO G l J L:Addr}{xs ys:List Value}(Z:A.handled=none)(D:ZipApart z TI TO G l J L)(lo:z<S/\TI<S/\TO<S/\G<S/\l<S/\J<S/\L<S)(hl:↑xs=↑ys)(hn:↑xs<=sizeLine)(res:Value){h₀:Heap}
  (hR:∀h' tk ts,HH h₀ h' S z TO G l xs ys ts->R (.ok<|.ret res) {s with heap:=h',toks:=tk}):
  ∀(m i:Nat)(h:Heap)(tk c:Nat)(ts:List Addr),↑xs-i=m->i<=↑xs->ZipSt h S z TI TO G l J L xs ys i ts->(∀b o,b≠S->b≠z->b≠TO->b≠G->b≠l->h₀.get? b=some o->h.get? b=some o)->wB h S ts c->
   codeAny (model prog w) A (.builtin "list.extend.loop" ⟨[.ref S,.ref z,res],[]⟩) R {s with heap:=h,toks:=tk}:=by
 obtain⟨o1,o2,f,r,u,o6,T⟩:=lo;intro m
 induction m with
 | zero=>
  intro i h tk c ts W hi q K H;have e:i=↑xs:=by lia
  subst e;refine codeAny_builtin F.entry_extend_loop ?_;rw[ED EH _];show wpAny _ A.in1 (pyNext (.ref z) >>= _) _ _ _;refine aJ<|ZipSt.stop (s:={s with heap:=h,toks:=tk}) (A:=A.in1) Z D q λh' d=>bJ<|hR h' tk ts ⟨λb o I C n E B e=>d b o C n E B<|K b o I C n E B e,⟨c,d S _ (dM o1) (dM f) (dM r) (dM u) H⟩,q.len,q.nd,q.up,λj t O=>?_⟩;obtain⟨x,y,e1,e2,Y⟩:=q.prs j t O;have a:=q.up t<|cU O;exact⟨x,y,e1,e2,d t _ (dM<|gQ o1 a) (dM<|gQ f a) (dM<|gQ r a) (dM<|gQ u a) Y⟩
 | succ m ih=>
  intro i h tk c ts W hi q K H;have M:i<↑xs:=by lia
  refine codeAny_builtin F.entry_extend_loop ?_;rw[ED EH _];show wpAny _ A.in1 (pyNext (.ref z) >>= _) _ _ _;refine aJ<|ZipSt.turn (s:={s with heap:=h,toks:=tk}) D q (bP H) (λt a=>⟨dM<|gQ o1<|q.up t a,dM<|gQ f<|q.up t a,dM<|gQ r<|q.up t a,dM<|gQ u<|q.up t a⟩) M hl λh' t q' a3 d=>?_;have N:wB h' S ts c:=d S _ (dM o1) (dM f) (dM r) (dM u) H;have sz:(ts.map Value.ref).toArray.size=i:=by rw[cT,aK,q.len]
  obtain⟨c',P⟩:∃c',wB (h'.update S<|Obj.mapSeq (·.push (Value.ref t))) S (ts++[t]) c':=by
   have ea:((ts++[t]).map Value.ref).toArray=(ts.map Value.ref).toArray.push (.ref t):=by simp
   unfold wB;rw[ea];exact⟨_,wU (Obj.mapSeq (·.push (Value.ref t))) N rfl⟩
  show wpAny _ A.in1 (updateSeq S (·.push (Value.ref t)) >>= _) _ _ _;refine aJ<|wpAny_updateSeq N rfl (bJ ⟨plainId_quiet EH _,ih (i+1) _ tk c' (ts++[t]) (by lia) M (q'.move ⟨bV o1,bV o2,bV f,bV r,bV u,bV o6,bV T⟩ λb o X e=>(qL _ _<|bK X).trans e) ?_ ?_⟩) ?_ ?_
  .exact λb o I C n E B e=>(qL _ _<|bK I).trans<|d b o C n E B<|K b o I C n E B e
  .exact P
  .rw[sz];lia
  .show((ts.map Value.ref).toArray.push<|Value.ref t).size<=sizeLine+1;rw[Array.size_push,sz];lia
def ZE{S z TI TO i d l m:Addr}{xs ys:List Value}{a b:Value}(M:A.handled=none)(D:ZipApart z TI TO i d l m)(lo:z<S/\TI<S/\TO<S/\i<S/\d<S/\l<S/\m<S)(hl:↑xs=↑ys)(I:↑xs<=sizeLine)(res:Value)
  (hz:IsZip s.heap z TI TO .none) (Y:IsPair s.heap TI (.ref i) (.ref d)) (L:IsPair s.heap TO a b) (h1:s.heap.IsListIter i l 0) (h2:s.heap.IsListIter d m 0) (J:s.heap.IsList l xs.toArray) (u:s.heap.IsList m ys.toArray) {G:Nat} (q:wB s.heap S [] G)
  (Z:∀h' tk ts,HH s.heap h' S z TO i d xs ys ts->R (.ok<|.ret res) {s with heap:=h',toks:=tk}):
  wpAny (model prog w) A.in1 (Builtin.List.listExtendWith (.ref S) (.ref z) res)
   (λN s'=>match N with | .done f=>R (.ok f) s' | .again c'=>c'.quiet=true/\codeAny (model prog w) A c' R s') (λe s'=>R (.error e) s') s:=by
 obtain⟨o1,o2,E,O,W,P,C⟩:=id lo;unfold Builtin.List.listExtendWith;refine aJ<|wpAny_typeOf (T:="zip") ⟨_,hz,rfl⟩ ?_;have X:Builtin.List.listSameRef (.ref S) (.ref z)=false:=by simp[Builtin.List.listSameRef,dM o1]
 have B:(Value.type "zip" == Value.type "list")=false:=by decide
 have K:(Value.type "zip" == Value.type "tuple")=false:=by decide
 simp only[X,B,K,Bool.or_false,EQ,jD];refine aJ<|wpAny_pyIter_zip hz<|aJ<|iO<|XI ⟨_,hz,rfl⟩ ?_;refine wpAny_ite_split (λ_=>?_) λc=>absurd rfl c;refine aJ<|tR<|aJ ?_;show wpAny _ _ (updateSeq S (·.push .none) >>= λ_=>updateSeq S (·.pop)) _ _ s;refine aJ<|wpAny_updateSeq q rfl ?_;have r:=wU (Obj.mapSeq (·.push Value.none)) q rfl;refine wpAny_updateSeq (hz:=by seq_fits) r rfl ?_;have x:=wU (Obj.mapSeq (·.pop)) r rfl;have kp:∀b o,b≠S->s.heap.get? b=some o->((s.heap.update S<|Obj.mapSeq (·.push Value.none)).update S<|Obj.mapSeq (·.pop)).get? b=some o:=λb o n e=>(qL _ _<|bK n).trans<|(qL _ _<|bK n).trans e;refine bJ ⟨plainId_quiet EH _,Cj (s:=s) M D lo hl I res Z ↑xs 0 _ _ _ [] (Nat.sub_zero _) (bM _) ⟨.inl ⟨rfl,kp _ _ (bV o1) hz⟩,kp _ _ (bV o2) Y,⟨a,b,kp _ _ (bV E) L⟩,h1.at λo e=>kp _ o (bV O) e,h2.at λo e=>kp _ o (bV W) e,J.at λo e=>kp _ o (bV P) e,u.at λo e=>kp _ o (bV C) e,rfl,lB,(λt h=>nomatch h),(λj t e=>by simp at e)⟩ (λb o H _ _ _ _ e=>kp b o H e) x⟩
def Bf{z TI TO f d h j:Addr}{xs ys:List Value}{a b:Value}{Q:Vp}(I:A.handled=none)(D:ZipApart z TI TO f d h j)(hl:↑xs=↑ys)(G:↑xs<=sizeLine)
  (hz:IsZip s.heap z TI TO .none) (x:IsPair s.heap TI (.ref f) (.ref d)) (r:IsPair s.heap TO a b) (h1:s.heap.IsListIter f h 0) (h2:s.heap.IsListIter d j 0) (n:s.heap.IsList h xs.toArray) (l:s.heap.IsList j ys.toArray)
  (L:∀h' tk ts,HH s.heap h' s⁻¹ z TO f d xs ys ts->Q (.ref s⁻¹) {s with heap:=h',toks:=tk}):wpAny (model prog w) A (call (.type "list") [.ref z]) Q E s:=by
 refine callType_codes (Q₁:=λu m=>u=.ref s⁻¹/\m={s with heap:=s.heap.push {cls:=.type "list",data:=.seq #[]}}) F.called_list (F.typeCall_list_1 _) F.entry_list_init (code_list_new _ ⟨rfl,rfl⟩) λu m q=>?_;obtain⟨rfl,rfl⟩:=q;have M:z<s⁻¹:=bP hz;have B:TI<s⁻¹:=bP x;have Y:TO<s⁻¹:=bP r;have J:f<s⁻¹:=by obtain⟨_,e,_⟩:=h1;exact bP e
 have P:d<s⁻¹:=by obtain⟨_,e,_⟩:=h2;exact bP e
 have H:h<s⁻¹:=by obtain⟨_,e,_⟩:=n;exact bP e
 have T:j<s⁻¹:=by obtain⟨_,e,_⟩:=l;exact bP e
 have i:(s.heap.push {cls:=.type "list",data:=.seq #[]}).get? s⁻¹=some {cls:=.type "list",data:=.seq #[]}:=dG _ rfl;exists ⟨_,i,rfl⟩,F.args_list_init_2 _ _;show wpAny _ A.in1.in1 (do let old <-Builtin.List.listItems (.ref s⁻¹);Builtin.List.listUpdate (.ref s⁻¹) λ_=>#[];letGo old.toList.reverse;Builtin.List.listExtendWith (.ref s⁻¹) (.ref z) .none) _ _ _;refine aJ ?_;unfold Builtin.List.listItems;refine aJ<|jV i rfl<|bJ ?_;show wpAny _ _ (updateSeq s⁻¹ (λ_=>#[]) >>= λ_=>letGo (#[]:Array Value).toList.reverse >>= λ_=>Builtin.List.listExtendWith (.ref s⁻¹) (.ref z) .none) _ _ _;refine aJ<|wpAny_updateSeq i rfl ?_;have N:=wU (Obj.mapSeq λ_=>(#[]:Array Value)) i rfl;have kp:∀b o,s.heap.get? b=some o->((s.heap.push {cls:=.type "list",data:=.seq #[]}).update s⁻¹<|Obj.mapSeq λ_=>(#[]:Array Value)).get? b=some o:=
  λb o e=>(qL _ _<|dM<|bP e).trans<|bU _ e
 refine aJ<|wpAny_letGo ?_;refine ZE (A:=A.in1) I D ⟨M,B,Y,J,P,H,T⟩ hl G .none (kp _ _ hz) (kp _ _ x) (kp _ _ r) (h1.at λo e=>kp _ o e) (h2.at λo e=>kp _ o e) (n.at λo e=>kp _ o e) (l.at λo e=>kp _ o e) N λh' tk ts q=>⟨rfl,L h' tk ts ?_⟩;exact⟨λb o C W K X O e=>q.keep b o C W K X O<|kp b o e,q.lst,q.len,q.nd,q.up,q.prs⟩
end
def kU(H:Hp)(S:Addr)(ts:List Addr)(xs ys:List V):Hp:=λb=>if b=S then some (.lst<|ts.map V.ref) else if b∈ts then some (.tup [xs.getD (ts.idxOf b) .non,ys.getD (ts.idxOf b) .non]) else H b
def vB{ts:List Addr}(nd:ts.Nodup){j:Nat}{t:Addr}(e:ts[j]?=some t):ts.idxOf t=j:=by
 obtain⟨f,b⟩:=zz2.mp e;have a:t∈ts:=cU e;have d:ts.idxOf t<↑ts:=List.idxOf_lt_length_iff.mpr a;have h2:ts[ts.idxOf t]=t:=List.getElem_idxOf d;exact(wX nd).mp<|h2.trans b.symm
theorem SU:∀ts:List Addr,Vals (ts.map V.ref)<|ts.map Value.ref
 | []=>.nil
 | t::r=>.cons rfl<|SU r
def ZS(K:Fq)(ta:TA):TE:=λσ H Q=>ta σ H λvs H1=>∃(l1 l2:Addr)(xs ys:List V),vs=[.ref l1,.ref l2]/\SqL K H1 l1 xs/\SqL K H1 l2 ys/\↑xs=↑ys/\
 ∀(l:Addr)(ts:List Addr)(H':Hp),(∀b o,H1 b=some o->H' b=some o)->H1 l=none->H' l=some (.lst<|ts.map V.ref)->↑ts=↑xs->
  (∀(j:Nat) t,ts[j]?=some t->∃x y,xs[j]?=some x/\ys[j]?=some y/\H' t=some (.tup [x,y]))->Q (.ref l) H'
theorem boot_list:bootBuiltins "list"=some (.type "list"):=by first | exact PySem.boot_list | rfl'
def Bj{X:Cx}{a b:Expr}{ta:TA}{p J pos z:Pos}(hc:X.calm=true)(ah:Gl X "list")(ae:X.mg "list"=none)(an:Gl X "zip")(al:X.mg "zip"=none)(ha:PA X [a,b] ta)
  (hs:starEach [a,b] X.env=[(false,eval a X.env),(false,eval b X.env)]:=by rfl) (a9:starEach [b] X.env=[(false,eval b X.env)]:=by rfl)
  (he:starEach [.Call (.Name "zip" J) [a,b] [] z] X.env=[(false,eval (.Call (.Name "zip" J) [a,b] [] z) X.env)]:=by rfl):
  PE X (.Call (.Name "list" p) [.Call (.Name "zip" J) [a,b] [] z] [] pos) (ZS X.K ta):=by
 intro a4 s σ H Q I h;refine xQ<|lG I ah ae boot_list ?_;refine oO ?_ (by rw[he];rfl) rfl;rw[he];show wpAny _ _ (spliced<|(false,eval (.Call (.Name "zip" J) [a,b] [] z) X.env)::[]) _ _ s;refine lE<|aU (Q:=λu s₂=>wpAny (model X.prog X.w) X.A (call (.type "list") [u]) (EP X a4 σ Q) X.xe s₂) ?_ λu s₂ q=>sT q;refine Call_ (lG I an al boot_zip<|oO (aU (ha z a4 s σ H _ I h) λus d ⟨vs,H1,m,r1,q1⟩=>?_) (by rw[hs,a9])<|by rw[a9];rfl);obtain⟨l1,l2,xs,ys,e,ac,ak,hl,q⟩:=q1;subst e;cases r1 with
 | cons r rr=>
  cases rr with
  | cons r' rr=>
   cases rr;cases r;cases r';obtain⟨a5,n,ad,aa⟩:=m.list ac;obtain⟨a7,P,aj,ap⟩:=m.list ak;have T:=ad.isList;have p2:=aj.isList;have af:l1<d⁻¹:=by obtain⟨o,e,_⟩:=T;exact bP e
   have ag:l2<d⁻¹:=by obtain⟨o,e,_⟩:=p2;exact bP e
   have D:ZipApart (d⁻¹+4) (d⁻¹+2) (d⁻¹+3) d⁻¹ (d⁻¹+1) l1 l2:=zipApart_new af ag;refine call_zip_2 T p2 λh' hz ai ab h1 h2 hsz Y=>?_;refine Bf (s:={d with heap:=h'}) (m.ok.hd hc) D (xs:=a5) (ys:=a7) (by rw[<-↑n,<-P.length];exact hl) (by rw[<-↑n];exact aa) hz ai ab h1 h2 (T.at λo e=>Y _ o e) (p2.at λo e=>Y _ o e) λa8 tk ts i=>?_
   have E:d⁻¹<h'.objs.size:=by rw[hsz];lia
   have k2:∀b o,d.heap.get? b=some o->a8.get? b=some o:=λb o e=>by
    have f:b<d⁻¹:=bP e;exact i.keep b o (bV<|gQ f E) (bV<|fU f<|mQ _ _) (bV<|fU f<|mQ _ _) (bV f) (bV<|fU f<|mQ _ _)<|Y b o e
   have a2:∀b,b<d⁻¹->kU H1 h'.objs.size ts xs ys b=H1 b:=λb f=>by
    unfold kU;rw[aZ<|bV<|gQ f E,aZ λl=>iD b<|gQ (gQ f E)<|i.up b l]
   have lt:∀b u,H1 b=some u->b<d⁻¹:=λb u e=>by
    rcases Nat.lt_or_ge b d⁻¹ with h | h
    .exact h
    .rw[m.hok.fresh h]at e;cases e
   have a1:∀b o,H1 b=some o->kU H1 h'.objs.size ts xs ys b=some o:=λb o e=>by rw[a2 b<|lt b o e];exact e
   have B:∀(j:Nat) t,ts[j]?=some t->∃x y u v,xs[j]?=some x/\ys[j]?=some y/\RelV x u/\RelV y v/\IsPair a8 t u v/\kU H1 h'.objs.size ts xs ys t=some (.tup [x,y]):=λj t e=>by
    obtain⟨u,v,G,C,e3⟩:=i.prs j t e;have ao:j<↑xs:=by rw[↑n];exact(zz2.mp G).1
    have am:j<↑ys:=by rw[P.length];exact(zz2.mp C).1
    have N:xs[j]?=some xs[j]:=bF ao;have O:ys[j]?=some ys[j]:=bF am;obtain⟨u',eu,Z⟩:=n.get N;obtain⟨v',ev,M⟩:=P.get O;rw[G]at eu;rw[C]at ev;cases eu;cases ev;have l:t∈ts:=cU e;exists _,_,u,v,N,O,Z,M,e3;unfold kU;rw[aZ<|dM<|i.up t l,bC l,vB i.nd e,eX,eX,N,O];rfl
   have L:HOk X.prog X.w (kU H1 h'.objs.size ts xs ys) a8:=by
    intro b o e
    by_cases f:b=h'.objs.size
    .subst f;have:kU H1 h'.objs.size ts xs ys h'.objs.size=some (.lst<|ts.map V.ref):=by unfold kU;rw[bC rfl]
     rw[this]at e;cases e;obtain⟨c,ec⟩:=i.lst;exact⟨by rw[aK,i.len,<-↑n];exact aa,ts.map Value.ref,c,SU ts,ec⟩
    .by_cases l:b∈ts
     .obtain⟨j,hj⟩:=wt5.mp l;obtain⟨x,y,u,v,_,_,Z,M,ep,W⟩:=B j b hj;rw[W]at e;cases e;exact⟨⟨by show 2<=sizeLine;exact cN (bG<|by lia),_,ep,rfl⟩,[u,v],.cons Z<|.cons M .nil,_,ep,rfl,_,rfl⟩
     .have:kU H1 h'.objs.size ts xs ys b=H1 b:=by unfold kU;rw[aZ f,aZ l]
      rw[this]at e;exact(m.hok b o e).stay (λc v _ r=>k2 c v r) (λc r=>a1 c _ r) λc zs r=>a1 c _ r
   exists .ref h'.objs.size,_,m.laidMany (t':=tk) k2 a2 L,rfl;refine q h'.objs.size ts _ a1 (m.hok.fresh<|cN E) (by unfold kU;rw[bC rfl]) (by rw[i.len,↑n]) λj t e=>?_
   obtain⟨x,y,u,v,G,C,_,_,_,W⟩:=B j t e;exact⟨x,y,G,C,W⟩
inductive A2{α β:Type}(R:α->β->Prop):List α->List β->Prop
 | nil:A2 R [] []
 | cons {a:α} {b:β} {as:List α} {bs:List β} (h:R a b) (t:A2 R as bs):A2 R (a::as) (b::bs)
def A2.imp{α β:Type}{R S:α->β->Prop}(f:∀a b,R a b->S a b){as:List α}{bs:List β}(h:A2 R as bs):A2 S as bs:=by
 induction h with
 | nil=>exact .nil
 | cons h _ ih=>exact .cons (f _ _ h) ih
def A2.app{α β:Type}{R:α->β->Prop}{as b:List α}{bs a:List β}(h:A2 R as bs)(g:A2 R b a):A2 R (as++b) (bs++a):=by
 induction h with
 | nil=>exact g
 | cons h _ ih=>exact .cons h ih
def A2.snoc{α β:Type}{R:α->β->Prop}{as:List α}{bs:List β}{a:α}{b:β}(h:A2 R as bs)(g:R a b):A2 R (as++[a]) (bs++[b]):=h.app<|.cons g .nil
def A2.len{α β:Type}{R:α->β->Prop}{as:List α}{bs:List β}(h:A2 R as bs):↑as=↑bs:=by
 induction h with
 | nil=>rfl
 | cons _ _ ih=>exact cF (·+1) ih
def A2.get{α β:Type}{R:α->β->Prop}{as:List α}{bs:List β}(h:A2 R as bs):∀{i:Nat}{a:α},as[i]?=some a->∃b,bs[i]?=some b/\R a b:=by
 induction h with
 | nil=>intro i a e;simp at e
 | cons h _ ih=>
  intro i a e;cases i with
  | zero=>cases e;exact⟨_,rfl,h⟩
  | succ i=>exact ih e
section
variable{pins:List (Addr×Obj)}{σ:List (Option V)}{H:Hp}{s:Shared}{A:Around}
end
open Classical in
def hJ(x y:V):Prop:=(∃s:Str,x=.str s/\y=.str s)\/(∃i:Int,x=.int i/\y=.int i)\/x=.non/\y=.non
def TQ(K:Fq)(H:Hp)(a:Addr)(xs:List V):Prop:=H a=some (.tup xs)\/∀H',SqT K H' a xs
inductive QK(K:Fq)(H:Hp)(R:V->V->Prop)(x y:V):Prop
 | mk(a b:Addr)(xs ys:List V)(h1:x=.ref a)(h2:y=.ref b)(h3:TQ K H a xs)(h4:TQ K H b ys)(h5:A2 R xs ys): QK K H R x y
def Sm(K:Fq)(H:Hp):Nat->V->V->Prop
 | 0=>hJ
 | n+1=>λx y=>hJ x y\/QK K H (Sm K H n) x y
section
variable{pins:List (Addr×Obj)}{σ:List (Option V)}{H:Hp}{s:Shared}
end
section
variable{tg:Expr}
end
section
variable{o i e value:Expr}{pos:Pos}{td ty:TE}
end
abbrev KG(w:World):Bool:=w.params.followText "set-order"
def zR(w:World)(e:Int×Value):Prop:=∃x tk,e=(hashStr w x,.str x tk)
inductive KI(w:World)(h:Heap)(a:Addr)(ss:List Str):Prop
 | mk(es:Array (Int×Value))(ep:Nat)(t:SetTable)(h1:h.get? a=some {cls:=.type "set",data:=.set es ep t})(h2:∀e∈es.toList,zR w e)(h3:ss=es.toList.map EV)(h4:ss.Nodup)(h5:t.fits es.size=true)(h6:t.led=!KG w)(h7:ss=[]\/t.plain=false):KI w h a ss
section
variable{a I:Addr}{es:Array (Int×Value)}{ep:Nat}{t:SetTable}
end
theorem Inv.drawn{a:List (Addr×Obj)}{σ:St}{H:Hp}{s:Shared}{d:Drawn}(I:Inv X a σ H s):Inv X a σ H {s with drawn:=d}:=⟨I.ok,I.os,I.bare,I.base,I.loc,I.cell,I.free,I.freeC,I.pin,I.hok,I.len⟩
structure wS(K:Fq)(C:Addr)(fs:List Str):Prop where
 c:Cls K C
 n:∀f∈fs,NoAttr K C f
inductive YR(C:Addr)(f:Str)(x:V)(H:Hp)(Q:VK):Prop
 | mk(a dx:Addr)(fs:List (Str×V))(v:V)(h1:x=.ref a)(h2:H a=some (.ins C dx fs))(h3:fs.lookup f=some v)(q:Q v H)
def YI(C:Addr)(f:Str)(ta:TE):TE:=λσ H Q=>ta σ H λx H1=>YR C f x H1 Q
inductive YX(C:Addr)(f:Str)(x y:V)(H:Hp)(Q:Hp->Prop):Prop
 | mk(a dx:Addr)(fs:List (Str×V))(h1:x=.ref a)(h2:H a=some (.ins C dx fs))(h3:↑fs<1000)(q:Q (upd H a<|.ins C dx<|cK f y fs))
def XX(C:Addr)(f:Str)(ta tv:TE):TS:=λD σ H=>tv σ H λy H1=>ta σ H1 λx H2=>YX C f x y H2<|D.nx σ
inductive Bx(C:Addr)(f:Str)(g:Int->Int->Int)(tv:TE)(σ:St)(D:dB)(x:V)(H:Hp):Prop
 | mk(a dx:Addr)(fs:List (Str×V))(i:Int)(h1:x=.ref a)(h2:H a=some (.ins C dx fs))(h3:fs.lookup f=some (.int i))(q:tv σ H λy H2=>∃j dx' fs',y=.int j/\H2 a=some (.ins C dx' fs')/\↑fs'<1000/\D.nx σ (upd H2 a<|.ins C dx'<|cK f (.int<|g i j) fs'))
def Ab(C:Addr)(f:Str)(g:Int->Int->Int)(ta tv:TE):TS:=λD σ H=>ta σ H λx H1=>Bx C f g tv σ D x H1
section
variable{o e value:Expr}{f:Str}{pos pos' tpos:Pos}{ta tv:TE}{C:Addr}{fs:List Str}
def cS(Z:wS X.K C fs)(he:PE X e ta)(r:f∈fs:=by rfl')(m:attributeBase e f X.env (eval e X.env)=eval e X.env:=by rfl):PE X (.Attribute e f pos) (YI C f ta):=by
 intro o s σ H Q I h;refine Au m<|aU (he o s σ H _ I h) ?_;rintro u A ⟨x,H1,b,d,a,dx,fs,v,ex,j,l,q⟩;subst ex;obtain rfl:u=Value.ref a:=d;exact SW b j Z.c (Z.n f r) l λz s2 i w=>⟨v,H1,i,w,q⟩
def gE(Z:wS X.K C fs)(A:PE X o ta)(w:PE X value tv)(B:f∈fs:=by rfl')(hs:swapsWith value (some<|.Attribute o f pos') pos.line X.env=pure false:=by rfl):PS X (.Assign [.Attribute o f pos'] value pos) (XX C f ta tv):=by
 intro b s σ H D I h;refine plainObj_wpAny_Assign_Attribute (aU (w b s σ H _ I h) ?_) hs;rintro u e ⟨y,H1,G,d,q⟩;refine aU (A b e σ H1 _ G q) ?_;rintro E s2 ⟨x,H2,m,i,a,dx,fs,ex,r,l,j⟩;subst ex;obtain rfl:E=Value.ref a:=i;exact UY m r Z.c (Z.n f B) l d λs3 z=>⟨σ,_,z,j⟩
def pF{d:Operator}{g:Int->Int->Int}(Z:wS X.K C fs)(ha:PE X o ta)(E:PE X value tv)(P:xY X d λx y H Q=>∃i j,x=.int i/\y=.int j/\Q (.int<|g i j) H)(e:f∈fs:=by rfl'):PS X (.AugAssign (.Attribute o f tpos) d value pos) (Ab C f g ta tv):=by
 intro b s σ H D I h;refine wpAny_AugAssign_AttributeAny<|aU (ha b s σ H _ I h) ?_;rintro L s1 ⟨x,H1,M,A,a,dx,fs,i,ex,Y,l,q⟩;subst ex;obtain rfl:L=Value.ref a:=A;refine SW M Y Z.c (Z.n f e) l λu s2 B N=>aU (E b s2 σ H1 _ B q) ?_;rintro J s3 ⟨y,H2,I3,r,j,a3,a4,T,m,G,q3⟩;refine aU (P b s3 σ H2 (.int i) y u J (λz H3=>z=.int (g i j)/\H3=H2) I3 N r ⟨i,j,rfl,T,rfl,rfl⟩) ?_;rintro w4 s4 ⟨z,H3,w,W,rfl,rfl⟩;exact UY w m Z.c (Z.n f e) G W λs5 O=>⟨σ,_,O,q3⟩
end
section
variable{M:Model}{A:Around}{E:Vp}{s:Shared}{st:SortSt}{n:Nat}{act:Nat->StateT SortSt Sem (Option Bool)}
end
structure SI(st st':SortSt):Prop where
 kd:kindOf st'=kindOf st
 ar:arrOf st'=arrOf st
 pe:pendingOf st'=pendingOf st
 fa:failedOf st'=failedOf st
section
variable{kd:SortKind}{U:Keyed->Prop}{LT:Keyed->Keyed->Bool}{st:SortSt}
end
section
variable{a b out:Array Keyed}{i j:Nat}{x:Keyed}
end
section
variable{kd:SortKind}{U:Keyed->Prop}{LT:Keyed->Keyed->Bool}{st:SortSt}
end
section
variable{a b out:Array Keyed}{i j:Nat}{x:Keyed}
def Hd(a b out:Array Keyed)(i j:Nat):Prop:=(a.toList.take i++(b.toList.take j++out.toList.reverse)).Perm<|a.toList++b.toList
end
section
variable{kd:SortKind}{U:Keyed->Prop}{LT:Keyed->Keyed->Bool}{st:SortSt}
end
structure SB(kd:SortKind)(a₀:Array Keyed)(pe:Array (Nat×Nat×Nat))(st:SortSt):Prop where
 pm:(arrOf st).Perm a₀
 kd:kindOf st=kd
 fa:failedOf st=none
 pe:pendingOf st=pe
section
variable{kd:SortKind}{LT:Keyed->Keyed->Bool}{a₀:Array Keyed}{pe:Array (Nat×Nat×Nat)}{st:SortSt}{lo:Nat}
end
section
variable{kd:SortKind}{LT:Keyed->Keyed->Bool}{a₀:Array Keyed}{st:SortSt}
inductive Rn(n mr lo:Nat)(st:SortSt):Prop
 | zero:lo=0->pendingOf st=#[]->Rn n mr lo st
 | one (p:Nat):1<=lo->lo<=n->(lo=n\/mr<=lo)->pendingOf st=#[(0,lo,p)]->Rn n mr lo st
 | two (m r p:Nat):lo=n->m+r=n->1<=m->1<=r->pendingOf st=#[(0,m,p),(m,r,0)]->Rn n mr lo st
end
section
variable{kd:SortKind}{LT:Keyed->Keyed->Bool}
end
abbrev Pr:=Str×Str
section
variable{it d:Addr}{od:Obj}{es:Array DictEntry}{i ep:Nat}
def DE(h:Heap)(d:Addr)(es:Array DictEntry)(ep:Nat):Prop:=∃od,h.get? d=some od/\od.cls=.type "dict"/\od.data=.dict es ep
end
section
variable{T:String}{r d:Addr}{n:Nat}{P:Nat->Value->Prop}{OK:Heap->Prop}
end
section
variable{scope:Scope}{N':List Str}{src:List (Option Nat)}{pins:List (Addr×Obj)}{σ:St}{H2:Hp}{s2:Shared}
end
section
variable{KK:Type}[DecidableEq KK]{knd:HeapKind prog w KK}
end
def iY(p:Pr):List aF:=[Sum.inr p.1,Sum.inr p.2]
def UT(h:iY p=iY q):p=q:=by
 unfold iY at h;injection h with h1 h2;injection h2 with h2 _;exact Prod.ext (jU h1)<|jU h2
abbrev FN(P:Program)(w:World):=tupleKind<|cI P w
section
variable{pins:List (Addr×Obj)}{σ:St}{H:Hp}{s:Shared}
def GV(I:Inv X pins σ H s)(h:SqT X.K H b [.str n.1,.str n.2]):(FN X.prog X.w).is s.heap (iY n) b:=by
 obtain⟨its,r,⟨o,h1,h2,m,a⟩,_⟩:=I.tuple h;exact⟨o,its.toArray,m,h1,h2,a,by simpa using LM (ks:=iY n) r⟩
end
section
variable{i o:Expr}{ty td:TE}
end
open Classical in
open Classical in
open Classical in
def RT:Manifest.owners.lookup (String.ofList ['d','e','s','r','e','v','e','r'].reverse)=some Manifest.sig_reversed:=by kernel_rfl
def XH:Slot "reversed" "__init__" "object.__init__":=.of (owner:="object") (n:="__init__") (by(rw[oS,pN];kernel_rfl)) (by rfl') (by rfl') (by rfl') (by first | exact .inl (by rfl') | exact .inr (by rfl')) (by(rw[xC];kernel_rfl))
def zr8:Slot "reversed" "__next__" "reversed.__next__":=.of (owner:="reversed") (n:="__next__") (by(rw[oS,pN];kernel_rfl)) (by rfl') (by rfl') (by rfl') (by first | exact .inl (by rfl') | exact .inr (by rfl')) (by(rw[xC];kernel_rfl))
def OI:Slot "reversed" "__iter__" "reversed.__iter__":=.of (owner:="reversed") (n:="__iter__") (by(rw[oS,pN];kernel_rfl)) (by rfl') (by rfl') (by rfl') (by first | exact .inl (by rfl') | exact .inr (by rfl')) (by(rw[xC];kernel_rfl))
def NS:entryFor table "reversed.__next__"=some Builtin.«reversed.__next__»:=entryFor_of_tree (by kernel_rfl)
def YD:entryFor table "reversed.__new__"=some Builtin.«reversed.__new__»:=entryFor_of_tree (by kernel_rfl)
def WW:entryFor table "reversed.__iter__"=some Builtin.«dict_keyiterator.__iter__»:=
 entryFor_alias (id':="dict_keyiterator.__iter__") (by kernel_rfl) (by first | rfl | rfl' | (unfold String.splitOn;(simp +decide [String.splitOnAux]))) (by rfl') (by kernel_rfl)
def UG(a:Value):argsOk "reversed.__next__" ⟨[a],[]⟩:=by
 unfold argsOk;(rw[signature?_of (id:="reversed.__next__") (n:=['_','_','t','x','e','n','_','_']) (o:=['d','e','s','r','e','v','e','r']) (by kernel_rfl) RT];kernel_rfl)
def ZG(a:Value):argsOk "reversed.__iter__" ⟨[a],[]⟩:=by
 unfold argsOk;(rw[signature?_of (id:="reversed.__iter__") (n:=['_','_','r','e','t','i','_','_']) (o:=['d','e','s','r','e','v','e','r']) (by kernel_rfl) RT];kernel_rfl)
def RU:mroOf (.type "reversed")=pure [.type "reversed",.type "object"]:=by(rw[mroOf_type];kernel_rfl)
def YK:typeLookup (.type "reversed") "__new__"=pure (some<|.builtin "reversed.__new__"):=by(rw[oS,pN];kernel_rfl)
def WJ:TypeCalled "reversed" "reversed.__new__" "object.__init__":=
 ⟨by rfl',by rfl',⟨_,_,RU⟩,madeBy_type RU YK (by rfl'),by rfl',by(rw[xC];kernel_rfl),XH⟩
def DA(a:Value):checkTypeCall "reversed" ⟨[a],[]⟩=pure ():=by kernel_rfl
def DB(a:Value):checkBuiltinCall "reversed.__new__" ⟨[.type "reversed",a],[]⟩=pure ():=by kernel_rfl
def tU:isSubtype (.type "reversed") (.type "reversed")=pure true:=by(rw[xC];kernel_rfl)
def VA:typeLookup (.type "tuple") "__reversed__"=pure none:=by(rw[oS,pN];kernel_rfl)
abbrev lV(h:Heap)(it a:Addr)(j:Int):Prop:=h.get? it=some {cls:=.type "reversed",dict:=none,data:=.fields #[.ref a,.int j 0],slots:=#[]}
def Bl(a:Addr)(xs:Array Value)(n:xs.size<=sizeLine):
  Meets (Builtin.«reversed.__new__» ⟨[.type "reversed",.ref a],[]⟩) (λ_ R s=>s.heap.IsTuple a xs/\∀tk,R (.ok<|.ret<|.ref s⁻¹) {s with heap:=s.heap.push {cls:=.type "reversed",data:=.fields #[.ref a,.int ((xs.size:Int)-1) 0]},toks:=tk}):=
 .of_wp λprog w A R s h=>by
  obtain⟨b,h⟩:=h;have m:=tU;have ty:s.TypeIs (.ref a) "tuple":=b.typeIs;obtain⟨hp,g,d,tk,os⟩:=s;have e:isSubtype (.type "tuple") (.type "dict")=pure false:=by(rw[xC];kernel_rfl)
  have o:=vh1.lookup;have j:=VA;have l:=mG;have hl:IsTup (Shared.heap ⟨hp,g,d,tk,os⟩) a xs:=b;have i:(xs.size:Int)<2 ^ 63:=by lia
  have f:∀{Q:Vp}{A:Around}{E:Vp},Q (.int xs.size<|tk+1) ⟨hp,g,d,tk+1+1,os⟩->wpAny (model prog w) A (call (.builtin "len") [.ref a]) Q E ⟨hp,g,d,tk,os⟩:=λh=>len_tuple (s:=⟨hp,g,d,tk,os⟩) hl i h
  wp_walk using nP ty VA,wpAny_isInstance ty e,nP ty vh1.lookup,f
  exact⟨_,rfl,h _⟩
def ZR(b:xs.size<=sizeLine)(d:s.heap.IsTuple a xs)(h:∀tk,lV (s.heap.push {cls:=.type "reversed",data:=.fields #[.ref a,.int ((xs.size:Int)-1) 0]}) s⁻¹ a ((xs.size:Int)-1)->Q (.ref s⁻¹) {s with heap:=s.heap.push {cls:=.type "reversed",data:=.fields #[.ref a,.int ((xs.size:Int)-1) 0]},toks:=tk}):
  wpAny (model prog w) A (call (.type "reversed") [.ref a]) Q E s:=by
 refine callType_new WJ (by decide) (DA _) (DB _) (λobj=>F.args_object_init_2 obj _) YD (Bl a xs b) ⟨d,λtk=>?_⟩;have g:(s.heap.push {cls:=.type "reversed",data:=.fields #[.ref a,.int ((xs.size:Int)-1) 0]}).get? s⁻¹=some _:=dG _ rfl;exact⟨⟨_,g,rfl⟩,h tk g⟩
def ON(b:lV s.heap it a j)(h:Q (.ref it) s):wpAny (model prog w) A (pyIter<|.ref it) Q E s:=by
 have ty:s.TypeIs (.ref it) "reversed":=⟨_,b,rfl⟩;refine wpAny_pyIter_slot ty OI<|kG OI ty WW ?_<|ZG _;refine bJ ⟨_,rfl,"reversed",_,ty,zr8.lookup,h⟩
def Cm{it a:Addr}{j:Nat}{xs:Array Value}{x:Value}{Q:Option Value->Shared->Prop}(b:lV s.heap it a (j:Int))(e:IsTup s.heap a xs)(r:a≠it)(q:xs.size<=sizeLine)(d:xs[j]?=some x)
  (f:∀h' tk,lV h' it a ((j:Int)-1)->Heap.SameBut it s.heap h'->Q (some x) {s with heap:=h',toks:=tk}):wpAny (model prog w) A (pyNext<|.ref it) Q E s:=by
 have ty:s.TypeIs (.ref it) "reversed":=⟨_,b,rfl⟩;unfold pyNext;refine aJ<|tV<|mS (name:=Str.ofString "__next__") ty zr8<|kG zr8 ty NS ?_<|UG _;show wpAny _ _ (field (.ref it) 0 >>= _) _ _ s;refine aJ<|eU b rfl (x:=.ref a) rfl ?_;show wpAny _ _ (field (.ref it) 1 >>= _) _ _ s;refine aJ<|eU b rfl (x:=.int (j:Int) 0) rfl ?_;show wpAny _ _ (if (j:Int)<0 then _ else _) _ _ s;rw[aZ<|by lia];refine aJ<|nP e.typeIs vh1.lookup ?_;show wpAny _ _ (mkInt (j:Int) >>= _) _ _ s;refine aJ<|wpAny_mkInt ?_;have n:j<xs.size:=by
  rcases Nat.lt_or_ge j xs.size with h | h
  .exact h
  .rw[FH h]at d;cases d
 have o:=mG;have m:IsTup (Shared.heap {s with toks:=s.toks+1}) a xs:=e;refine aJ<|tV<|getItem_tuple (s:={s with toks:=s.toks+1}) (j:=j) m (by lia) (by lia) (by unfold seqIndex?;(simp only[show ¬((j:Int)<0) by lia,jD];rw[bC<|by simp;lia];simp)) d ?_;show wpAny _ _ (field (.ref it) 1 >>= _) _ _ _;refine aJ<|eU b rfl (x:=.int (j:Int) 0) rfl ?_;refine aJ<|kZ b (by simp) λh' i l=>?_;refine bJ ⟨_,rfl,?_⟩;exact bJ<|f h' _ i l
def vX(f:A.handled=none)(d:lV s.heap it a j)(q:j<0)(i:∀h' tk,Heap.ExtBut it s.heap h'->Q none {s with heap:=h',toks:=tk}):wpAny (model prog w) A (pyNext<|.ref it) Q E s:=by
 have ty:s.TypeIs (.ref it) "reversed":=⟨_,d,rfl⟩;unfold pyNext;refine aJ<|tV<|mS (name:=Str.ofString "__next__") ty zr8<|kG zr8 ty NS ?_<|UG _;show wpAny _ _ (field (.ref it) 0 >>= _) _ _ s;refine aJ<|eU d rfl (x:=.ref a) rfl ?_;show wpAny _ _ (field (.ref it) 1 >>= _) _ _ s;refine aJ<|eU d rfl (x:=.int j 0) rfl ?_;show wpAny _ _ (if j<0 then _ else _) _ _ s;rw[bC q];refine aJ<|tR ?_;refine aJ ?_;show wpAny _ _ (setField (.ref it) 1 (rawInt<|-1) >>= λ_=>setField (.ref it) 0 .none) _ _ s;refine aJ<|kZ d (by simp) λu l r=>?_;refine kZ l (by simp) λz B n=>?_
 refine aJ ?_;show wpAny _ _ (newExc (.type "StopIteration") [] >>= _) _ _ _;refine aJ ?_;simp only[newExc,newTuple];refine aJ (jY ?_<|by size_fits);refine aJ (m:=firstArgMember _ _)<|wpAny_of_eq (a:=Value.none) (by first | rfl | (simp only[firstArgMember];rfl)) ?_;refine jY ?_ (by size_fits);simp only[raiseNew];refine aJ<|wpAny_handled ?_;first | rw[show A.in1.handled=none from f] | rw[f]
 refine aJ<|bJ<|wpAny_throw ?_;refine aJ<|wpAny_isInstance (T:="StopIteration") (b:=true) ⟨_,dG _ rfl,rfl⟩ isSubtype_stop<|bJ<|i _ _ ?_;exact λb o h e=>bU _<|bU _<|n.extBut _ _ h<|r.extBut _ _ h e
def kK(K:Fq)(a:Addr)(n:Nat):It:=
 ⟨λi H=>∃xs x,SqT K H a xs/\↑xs=n/\xs.reverse[i]?=some x,λi H x H'=>H'=H/\∀xs,SqT K H a xs->xs.reverse[i]?=some x,λi H=>∃xs,SqT K H a xs/\↑xs=n/\n<=i⟩
def YT{P:Program}{w:World}{K:Fq}{tg:Expr}(a it:Addr)(a4:a≠it)(n:Nat):fC P w K tg (kK K a n) [it] it (λi h=>lV h it a<|(n:Int)-1-(i:Nat)) where
 mem:=by simp
 obj:=λi h st b d=>by
  have e:b=it:=by simpa using d
  subst e;exact⟨_,st,λv z=>by cases z⟩
 keep:=λi h h' st k=>k it (by simp) _ st
 item:=by
  intro X C A r M i O s σ H E I j st J;subst C A r;obtain⟨xs,x,L,hn,f⟩:=J;obtain⟨its,N,p,hz⟩:=I.tuple L;have hi:i<↑xs:=by
   have:=(zz2.mp f).1;rwa [lA]at this
  have W:xs[↑xs-1-i]?=some x:=by rw[<-List.getElem?_reverse hi];exact f
  obtain⟨u,hu,ru⟩:=N.get W;obtain⟨G,m,Z,q,B,l⟩:=j it (by simp);have ej:((n:Int)-1-(i:Nat))=((↑xs-1-i:Nat):Int):=by lia
  have a3:lV s.heap it a ((↑xs-1-i:Nat):Int):=by rw[<-ej];exact st
  have hl:=N.length;refine Cm a3 p a4 (by rw[cT,<-hl];exact hz) (x:=u) (by simpa using hu) λh' tk a5 sb=>?_
  have I1:Inv X O σ H {s with heap:=h',toks:=tk}:=I.turned (t':=tk) (λb o d e=>(sb.2 b d).trans e) G m q B l;have T:lV h' it a ((n:Int)-1-((i+1:Nat):Int)):=by
   have Y:((n:Int)-1-((i+1:Nat):Int))=((↑xs-1-i:Nat):Int)-1:=by lia
   rw[Y];exact a5
  exact⟨u,rfl,uN (s:={s with heap:=h',toks:=tk}) T rfl rfl (by decide) ⟨x,H,I1,ru,⟨rfl,λys hy=>by rw[I.tuple_inj hy L];exact f⟩,T,λb d=>(j b d).1⟩⟩
 done:=by
  intro X C A r M i O s σ H E I j st J;subst C A r;obtain⟨xs,L,hn,f⟩:=J;obtain⟨G,m,Z,q,B,l⟩:=j it (by simp);exact vX (I.ok.hd M) st (by lia) λh' tk eb=>⟨rfl,I.turned (t':=tk) (λb o d e=>eb b o d e) G m q B l⟩
 self:=λ_ _ _ _ _ st h=>ON st h
section
variable{tg:Expr}
def GJ(K:Fq)(ta:TA):TI:=λσ H R=>ta σ H λvs H1=>∃a xs,vs=[.ref a]/\SqT K H1 a xs/\R (kK K a ↑xs) H1
def VX:bootBuiltins "reversed"=some (.type "reversed"):=by rfl'
def uW(u:Gl X "reversed")(j:X.mg "reversed"=none)(C:PA X [a] ta)(hs:starEach [a] X.env=[(false,eval a X.env)]:=by rfl):PI X tg (.Call (.Name "reversed" p) [a] [] pos) (GJ X.K ta):=by
 intro B s σ H R I h;refine Call_<|lG I u j VX<|oO (aU (C pos B s σ H _ I h) λus d ⟨vs,H1,f,x,m⟩=>?_) (by rw[hs];rfl) rfl;obtain⟨l,xs,e,A,q⟩:=m;subst e;cases x with
 | cons r rr=>
  cases rr;cases r;obtain⟨its,w,i,hz⟩:=f.tuple A;have hl:=↑w;have n:l<d⁻¹:=by obtain⟨o,e,_⟩:=i;exact bP e
  refine ZR (xs:=its.toArray) (by rw[cT,<-hl];exact hz) i λtk hr=>?_
  refine ON (s:={d with heap:=_,toks:=tk}) hr ?_;refine⟨d⁻¹,[d⁻¹],_,_,H1,rfl,f.kept (t':=tk) λb o e=>bU _ e,YT l _ (bV n) ↑xs,?_,λb z=>?_,q⟩
  .have E:(((↑xs:Nat):Int)-1-((0:Nat):Int))=((its.toArray.size:Nat):Int)-1:=by rw[cT,hl];lia
   show lV _ _ _ _;rw[E];exact hr
  .have e:b=d⁻¹:=by simpa using z
   subst e;exact f.fpOk (aW _)<|f.hok.fresh<|aW _
end
section
variable{o e:Expr}{apos cpos:Pos}{td ty:TE}
end
def mE(q:Pr×Addr×Addr):List aF×Addr×Value:=(iY q.1,q.2.1,.ref q.2.2)
def UE(P:Program)(w:World)(a:Addr)(qs:List (Pr×Addr×Addr))(h:Heap):Prop:=↑qs<=sizeLine/\(a == sysModules)=false/\
 ∃o es ep,h.get? a=some o/\o.ExactDict/\o.data=.dict es ep/\es.toList=(qs.map mE).map (entryOfKey<|FN P w)/\((qs.map mE).map (·.1)).Nodup
def gS(P:Program)(w:World)(a:Addr)(qs:List (Pr×Addr×Addr)):HO:=.ext<|UE P w a qs
def QO(x:UE P w a qs h):ObjOk P w H h a (gS P w a qs):=by
 refine⟨x,?_,λh1 h2 y k=>?_⟩
 .obtain⟨_,_,o,_,_,e,_⟩:=x;exact⟨o,e⟩
 .obtain⟨z,hd,b,es,ep,e,c⟩:=y;exact⟨z,hd,b,es,ep,k _ e,c⟩
def PvOk(K:Fq)(H:Hp)(qs:List (Pr×Addr×Addr)):Prop:=∀q∈qs,SqT K H q.2.1 [.str q.1.1,.str q.1.2]
def gT(qs:List (Pr×Addr×Addr))(n:Pr)(b l:Addr):List (Pr×Addr×Addr):=
 if n∈qs.map (·.1) then qs.map λq=>if q.1=n then(q.1,q.2.1,l) else q else qs++[(n,b,l)]
def oZ{qs:List (Pr×Addr×Addr)}{n:Pr}:atKey (qs.map mE) (iY n)=(qs.find? λq=>decide<|q.1=n).map λq=>(q.2.1,Value.ref q.2.2):=by
 unfold atKey;rw[List.find?_map];have:((λx:List aF×Addr×Value=>decide<|x.1=iY n)∘mE)=λq=>decide (q.1=n):=by
  funext q
  exact decide_eq_decide.mpr ⟨λh=>UT h,λh=>by show iY q.1=_;rw[h]⟩
 rw[this,Option.map_map];rfl
def YM{qs:List (Pr×Addr×Addr)}{n:Pr}{b l:Addr}:storedH (qs.map mE) (iY n) b (.ref l)=(gT qs n b l).map mE:=by
 unfold storedH gT;rw[oZ,yN]
 by_cases h:n∈qs.map (·.1)
 .obtain⟨q,a,e⟩:=wr2.mp h;rw[bC h,bC<|List.find?_isSome.mpr ⟨q,a,eW e⟩,kX,kX];refine AS λz _=>?_;show(if iY z.1=iY n then(iY z.1,z.2.1,Value.ref l) else mE z)=mE (if z.1=n then(z.1,z.2.1,l) else z)
  by_cases c:z.1=n
  .rw[bC (by rw[c]),bC c];rfl
  .rw[aZ λh=>c<|UT h,aZ c]
 .rw[aZ h,aZ (λz=>let ⟨q,a,e⟩:=List.find?_isSome.mp z;h<|wr2.mpr ⟨q,a,cQ e⟩),bN];rfl
def PvOk.put{K:Fq}{n:Pr}(h:PvOk K H qs)(d:SqT K H b [.str n.1,.str n.2]):PvOk K H (gT qs n b l):=by
 intro q a;unfold gT at a
 split at a
 .obtain⟨z,hz,rfl⟩:=wr2.mp a
  split
  .exact h z hz
  .exact h z hz
 .rcases wr7.mp a with a | a
  .exact h q a
  .rw[wq1.mp a];exact d
def QV:↑(gT qs n b l)<=↑qs+1:=by
 unfold gT
 split
 .rw[aK];exact nC _
 .rw[bH];exact aW _
def WZ(P:Program)(w:World)(K:Fq):Hp->Addr->V->V->(Hp->Prop)->Prop:=λH D kx v R=>∃qs b n l,kx=.ref b/\v=.ref l/\H D=some (gS P w D qs)/\PvOk K H qs/\SqT K H b [.str n.1,.str n.2]/\↑qs<sizeLine/\R (upd H D<|gS P w D<|gT qs n b l)
section
variable{pins:List (Addr×Obj)}{σ:St}{H:Hp}{s:Shared}
def RI(I:Inv X pins σ H s)(e:H a=some (gS X.prog X.w a qs))(ok:PvOk X.K H qs):↑qs<=sizeLine/\(a == sysModules)=false/\s.heap.DictOfH (FN X.prog X.w) a (qs.map mE):=by
 obtain⟨z,hd,o,es,ep,h1,h2,h,i,b⟩:=(I.hok a _ e).1;refine⟨z,hd,o,es,ep,h1,h2,h,i,λx d=>?_,b⟩;obtain⟨q,f,rfl⟩:=wr2.mp d;exact GV I<|ok q f
def Dd(x:X.A.units<cLine):AF X (λa=>gS X.prog X.w a []) (WZ X.prog X.w X.K) where
 new h H z:=QO ⟨bM _,wz8.mpr<|bK<|bV z,_,_,_,dG _ rfl,⟨rfl,rfl,rfl⟩,rfl,rfl,lB⟩
 put Y e1 e2 e3 e4 pins s σ H D kx u v y R I rk rv h:=by
  obtain⟨qs,b,n,l,rfl,rfl,d,ok,e,hl,q⟩:=h;cases rk;cases rv;rw[<-e1,<-e2]at d q ⊢;rw[<-e3]at ok e;obtain⟨z,hd,B⟩:=RI I d ok;refine wpAny_dictSet_heap (knd:=FN Y.prog Y.w) x (GV I e) B (λh' f hs=>?_) (by rw[aK];exact z);rw[YM]at f;obtain⟨o,es,ep,i,r,j,C,E,m⟩:=f;refine⟨_,tQ I (by rw[d];exact gD) hs ⟨o,i⟩<|QO ⟨?_,hd,o,es,ep,i,r,j,C,m⟩,q⟩;have:=QV (qs:=qs) (n:=n) (b:=b) (l:=l);lia
inductive Ai(P:Program)(w:World)(K:Fq)(x y:V)(H:Hp)(Q:VK):Prop
 | mk(a b:Addr)(qs:List (Pr×Addr×Addr))(n:Pr)(z:Pr×Addr×Addr)(h1:x=.ref a)(h2:y=.ref b)(h3:H a=some (gS P w a qs))(h4:PvOk K H qs)(h5:SqT K H b [.str n.1,.str n.2])(h6:qs.find? (λq=>decide<|q.1=n)=some z)(q:Q (.ref z.2.2) H)
def YO(P:Program)(w:World)(K:Fq)(td ty:TE):TE:=λσ H Q=>td σ H λx H1=>ty σ H1 λy H2=>Ai P w K x y H2 Q
def zA{o i:Expr}{td ty:TE}{pos:Pos}(L:X.A.units+1<cLine)(q:PE X o td)(hi:PE X i ty)(hs:lZ i):PE X (.Subscript o i pos) (YO X.prog X.w X.K td ty):=by
 intro e s σ H Q I h;refine KD vh4.lookup hs<|aU (q e s σ H _ I h) λu m ⟨x,H1,E,r,l⟩=>aU (hi e m σ H1 _ E l) ?_;rintro J s2 ⟨y,H2,d,j,a,b,qs,n,z,ex,M,g,ok,B,N,O⟩;subst ex M;obtain rfl:u=Value.ref a:=r;obtain rfl:J=Value.ref b:=j;obtain⟨_,hd,f⟩:=RI d g ok;obtain⟨o,es,ep,C,G,_⟩:=id f;refine⟨⟨o,C,G.1⟩,wpAny_getItem_heap (qO L) (GV d B) f (p:=(z.2.1,Value.ref z.2.2)) (by rw[oZ,N];rfl) ?_⟩;exact⟨.ref z.2.2,H2,d.tok _,rfl,O⟩
end
def HJ(tk tv:TE):TE:=λσ H Q=>∀p,H p=none->tk σ (upd H p<|.dT []) λx H1=>tv σ H1 λy H2=>∃b k,x=.ref b/\H2 p=some (.dT [])/\H2 b=some (.tup<|k.map kV)/\Q (.ref p) (upd H2 p<|.dT [(k,y)])
def XQ{X:Cx}{k v:Expr}{tk tv:TE}{pos:Pos}(P:X.A.units<cLine)(K:PE X k tk)(Z:PE X v tv):PE X (.Dict [some k] [v] pos) (HJ tk tv):=by
 intro J s σ H Q I q;have C:=I.hok.fresh<|aW s⁻¹;have L:=I.laid (a:=s⁻¹) (o:=.dT []) (h':=s.heap.push {cls:=.type "dict",data:=.dict #[]}) (t':=s.toks) (λ_ _ q=>bU _ q) (aW _)<|NZ s.heap I.big;have hp:xO X pos [some k] [v] [(tk,tv)]:=iA K Z AC;rw[arm_eval_Dict,zip_pairTrees [some k] [v] X.env pos rfl rfl,dictDisplay_pairs _ (by intro z;cases z) (by show 1<17;decide)];refine aJ<|nM<|aJ ?_;unfold subDict;refine aJ<|wpAny_alloc<|aJ<|iO ?_;rw[bC (by show 1<=15;decide)];refine aJ<|aU (hp J _ σ _ (λps H2=>match ps with | [(x,y)]=>∃b k,x=.ref b/\H2 s⁻¹=some (.dT [])/\H2 b=some (.tup<|k.map kV)/\Q (.ref s⁻¹) (upd H2 s⁻¹<|.dT [(k,y)]) | _=>False) L<|q _ C) ?_;rintro ws s2 ⟨ps,H2,f,T,d⟩;rcases ps with _ | ⟨⟨x,y⟩,_ | ⟨_,_⟩⟩
 .exact d.elim
 rotate_left
 .exact d.elim
 obtain⟨b,n,rfl,e,h,d⟩:=d;cases T with
 | @cons p c ps bs hr ht=>
  cases ht;obtain⟨B,O⟩:=c;obtain⟨G,u⟩:=hr;have M:B=Value.ref b:=G;subst M;refine iO<|aJ ?_;obtain⟨z,hd,xs,r,Y⟩:=nA f.hok e;cases r;show wpAny _ _ (forIn [(Value.ref b,O)] PUnit.unit _) _ _ _;rw[wC];refine aJ<|aJ<|wpAny_dictSet_heap (knd:=tupleKind<|cI X.prog X.w) P (oN f.hok h) Y (λh' j E=>bJ ?_)<|bM _;refine bJ<|bJ<|bJ<|bJ ⟨.ref s⁻¹,_,?_,rfl,d⟩;obtain⟨o,es,ep,i,N,l,W,g5,m⟩:=j;refine tQ f (by rw[e];exact gD) E ⟨o,i⟩ ⟨by show 1<=sizeLine;exact cN (bG<|by lia),hd,_,.cons ⟨rfl,?_,u⟩ .nil,o,es,ep,i,N,l,W,m⟩;rw[aC<|pQ h e λz=>nomatch z];exact h
def cC{N P:List Str}{a:Scope}(h1:a.kind=.function:=by rfl)(h2:a.isCoroutine=false:=by rfl)(f:a.isGenerator=false:=by rfl)(h:N.Nodup:=by rfl')(d:N.take P.length=P:=by rfl)(b:∀x∈P,a.names.lookup x=some .local\/a.names.lookup x=some .cell:=by rfl')(e:∀y∈a.names,y.2≠.free:=by rfl'):bZ N P a:=⟨h1,h2,f,h,d,b,e⟩
section
variable{x:Str}{pos pos':Pos}{e:Expr}{te:TE}{scope:Scope}{N':List Str}{src:List (Option Nat)}
def eS(h1:scope.kind=.function:=by rfl)(h2:(scope.names.all λy=>decide<|y.2≠.cell)=true:=by rfl')(d:(scope.names.all λy=>decide<|y.2=.local->scope.names.lookup y.1=some .local)=true:=by rfl')(e:(scope.names.all λy=>decide<|y.2=.free->X.env.kindOf y.1=some .cell\/X.env.kindOf y.1=some .free)=true:=by rfl)(b:↑src=N'.length:=by rfl)
  (a:((N'.zip src).all λp=>match p.2 with | some j=>decide (X.N[j]?=some p.1) && decide ((p.1,NameKind.free)∈scope.names) | none=>true)=true:=by rfl):BlkN X scope N' src:=⟨h1,h2,d,e,b,a⟩
def sL(i:Nat)(a:X.N.Nodup)(he:PE X e te)(hi:X.N[i]?=some x:=by rfl)(b:xK X.env.scope x:=by exact .inl rfl)(hs:swapsWith e (some<|.Name x pos') pos.line X.env=pure false:=by rfl)(d:X.fn x=true\/X.env.scope.names.lookup x=some .local:=by first | exact .inl rfl | exact .inr rfl):PS X (.Assign [.Name x pos'] e pos) (fZ te<|bW i):=hI a hi b he hs d
def gL(i:Nat)(a:X.N.Nodup)(hi:X.N[i]?=some x:=by rfl)(b:xK X.env.scope x:=by exact .inl rfl)(d:X.fn x=true\/X.env.scope.names.lookup x=some .local:=by first | exact .inl rfl | exact .inr rfl):PG X (.Name x pos) (bW i):=wZ a hi b d
end
end L2
local macro_rules | `(tactic| trivial)=>`(tactic| first | exact aV | exact .head _ | exact .tail _ (.head _) | exact .tail _ (.tail _ (.head _)) | exact λ_ h=>absurd h aV | simp)
local macro_rules|`(tactic|ac_rfl)=>`(tactic|first|dsimp only[L2.fE,L2.Cx.nox]|skip)
namespace Gn
open PySem L2
variable{P:Program}{w:World}{K:Fq}{mg:Str->Option Value}{base:Heap}{f:Addr}{fd:FuncData}
abbrev qH:Str:="_law_hand_here"
abbrev qW:Str:="_law_world_here"
abbrev qA:List Str:=[qH,qW,"_law_env"]
abbrev qB:List Str:=[qH,"_law_many"]
abbrev qC:List Str:=[qH,"_law_some"]
abbrev qD:List Str:=[qH,qW,"_law_env","_law_above","_law_deed_here"]
abbrev qE:List Str:=[qW,"_law_kind","_law_deed_here"]
abbrev qF:List Str:=[qH,qW,"_law_env","_law_level"]
abbrev qG:List Str:=[qW,"_law_kind"]
abbrev qK:List Str:=["program"]
def top(i:Nat):Stmt:=PySem.Challenge.pw_surecall_k07_choices.main.body.getD i<|.Pass ⟨0,0,0,0⟩
abbrev HD:Stmt:=top 49
abbrev JP:Stmt:=top 50
abbrev EV:Stmt:=top 51
structure oV(d m t:Int):Prop where
 d0:0<=d
 m0:0<=m
 m1:m<4611686018427387904
 t0:0<=t
def Hand(H:Hp)(a:Addr)(d m t r:Int):Prop:=H a=some (.lst [.int d,.int m,.int t,.int r])/\oV d m t
abbrev hl(d m t r:Int):HO:=.lst [.int d,.int m,.int t,.int r]
inductive NT(vs:List V)(H:Hp)(Q:VK):Prop
 | mk(a:Addr)(d m t r n:Int)(h1:vs=[.ref a,.int n])(h2:Hand H a d m t r)(h3:t<1000000)(h4:0<n)(h5:n<1000000)(h6:∀(x d' m' t':Int),0<=x->x<n->oV d' m' t'->t'<=t+1->Q (.int x) (upd H a<|hl d' m' t' r)):NT  vs H Q
def gG:Sp:=λvs H Q _=>NT  vs H Q
def eI(d:PE X a ta)(e:PE X b tb)(hs:IH b:=by exact λ_ _=>rfl):PE X (.Subscript a b pos) (dC (lY X.K) ta tb):=lQ WL d e hs
def yt8:bZ [qH,"_law_many","_law_digit","_law_turn","_law_mixed"] qB (bR JP):=cC
def FG:dY [a,b,c,d] 0=some a:=rfl
def SH:dY [a,b,c,d] 1=some b:=rfl
def LH:dY [a,b,c,d] 2=some c:=rfl
def AN:dY [a,b,c,d] 3=some d:=rfl
def Dp(F:Fun K "_law_take" "_law_take" JP f fd):aR P w K mg base bQ (k+1) f fd qB gG:=by
 refine F.ok yt8 (λvs H Q E h=>?_) λu A outer s H vs Q E hr h=>?_
 .obtain⟨a,d,m,t,r,n,rfl,_⟩:=h;rfl
 obtain⟨a,d,m,t,r,n,rfl,⟨b,ok⟩,o,e,i,q⟩:=h;exists _,aL (cL (bY lS (eI (pv 0) aN) aN<|cE _) (aL (sL 2 yt8.nd<|cA rJ (eI (pv 0) aN)<|pv 1)<|aL (iQ (cA zJ (eI (pv 0) aN)<|pv 1)<|sW (pv 0) aN tM)<|aQ<|bS<|pv 2) dD)
  (aL (iQ (cA jJ (eI (pv 0) aN) aN)<|sW (pv 0) aN tM)<|aL (sL 3 yt8.nd<|eI (pv 0) aN)<|aL (sL 4 yt8.nd<|cA rJ (cA vM (cA jJ (eI (pv 0) aN)<|cA vM aN<|pv 3)<|cA jJ aN<|cA vM (pv 3)<|pv 3) aN)<|aL (iQ (cA rJ (cA vM (pv 4)<|cA jJ (cA rJ (pv 4) aN) aN) aN)<|sW (pv 0) aN tM)<|aQ<|bS<|cA rJ (cA zJ (eI (pv 0) aN) aN)<|pv 1)
 exists _,rfl,a,_,_,_,rfl,rfl,SqL.of b,FG,_,_,rfl,rfl,_,rfl;refine bI (λc=>?_) λc=>?_
 .have c':d > 0:=cQ c;exists _,rfl,a,_,_,_,rfl,rfl,SqL.of b,FG,_,rfl,_,_,rfl,rfl,e;exists _,rfl,a,_,_,_,rfl,rfl,SqL.of b,FG,_,rfl,_,_,rfl,rfl,⟨e,by lia⟩;exists _,rfl,a,_,0,0,rfl,rfl,b,rfl;exists _,rfl;exact q (d % n) (d / n) m t (wR _<|by lia) (wL _ e) ⟨Int.ediv_nonneg ok.d0 (by lia),ok.m0,ok.m1,ok.t0⟩ (by lia)
 .exists _,rfl,a,_,_,_,rfl,rfl,SqL.of b,LH,_,_,rfl,rfl;exists _,rfl,a,_,2,2,rfl,rfl,b,rfl;have H1:upd H a (.lst<|[V.int d,.int m,.int t,.int r].set 2<|.int<|t+1) a=some (.lst [.int d,.int m,.int<|t+1,.int r]):=zb1;exists _,rfl,a,_,_,_,rfl,rfl,SqL.of H1,LH;exists _,rfl,a,_,_,_,rfl,rfl,SqL.of H1,SH,_,rfl,_,_,rfl,rfl,.inl (by constructor <;> decide),_,_,rfl,rfl;exists _,rfl,_,rfl,_,_,rfl,rfl,.inl ⟨by have:=ok.t0;lia,by lia⟩,_,_,rfl,rfl,_,_,rfl,rfl,.inr ?_,_,_,rfl,rfl,?_
  .have h1:0<=(t+1)*(t+1):=Int.mul_nonneg (by have:=ok.t0;lia) (by have:=ok.t0;lia);have h2:(t+1)*(t+1)<=1000000*1000000:=Int.mul_le_mul (by lia) (by lia) (by have:=ok.t0;lia) (by lia)
   constructor <;> lia
  .show(0:Int)<2305843009213693921
   decide
  have j:0<=(m+39373*(t+1))*(48271+(t+1)*(t+1)) % 2305843009213693921:=wR _ (by decide);have l:(m+39373*(t+1))*(48271+(t+1)*(t+1)) % 2305843009213693921<2305843009213693921:=wL _ (by decide);exists _,rfl,_,rfl,_,_,rfl,rfl,?_,_,_,rfl,rfl,_,_,rfl,rfl,.inl ⟨by lia,by lia⟩,_,_,rfl,rfl,?_
  .show(0:Int)<1000003
   decide
  .show(0:Int)<2305843009213693907
   decide
  exists _,rfl,a,_,1,1,rfl,rfl,H1,rfl;exists _,rfl,a,_,_,_,rfl,rfl,SqL.of zb1,rfl,_,_,rfl,rfl,⟨by decide,by decide⟩,_,rfl,_,_,rfl,rfl,e;rw[gF];exact q _ d _ (t+1) (wR _<|by lia) (wL _ e) ⟨ok.d0,wR _ (by decide),Int.lt_trans (wL _<|by decide) (by decide),by have:=ok.t0;lia⟩ (by lia)
def FrS(S:List Addr)(H H':Hp):Prop:=∀b o,b∉S->H b=some o->H' b=some o
def FrS.refl:FrS S H H:=λ_ _ _ h=>h
def FrS.trans(a:FrS S H H1)(b:FrS S H1 H2):FrS S H H2:=λc o n h=>b c o n<|a c o n h
def FrS.mono(a:FrS S H H1)(h:∀b∈S,b∈T):FrS T H H1:=λc o n q=>a c o (λz=>n<|h c z) q
def FrS.chg(h:a∈S):FrS S H (upd H a o):=λb u n q=>by
 rw[aC λz=>n<|by rw[z];exact h];exact q
def FrS.new(h:H a=none):FrS S H (upd H a o):=λb u n q=>by
 rw[aC<|aP q h];exact q
def FrS.seq(e:FrS S H H')(n:a∉S)(h:SqL K H a xs):SqL K H' a xs:=by
 rcases h with (h | ⟨o,h⟩) | h
 .exact .inl<|.inl<|e _ _ n h
 .exact .inl<|.inr ⟨o,e _ _ n h⟩
 .exact .inr h
def Hand.at(h:oV d m t):Hand (upd H a<|hl d m t r) a d m t r:=⟨zb1,h⟩
def Hand.new(h:Hand H a d m t r)(n:H b=none):Hand (upd H b o) a d m t r:=⟨by rw[aC<|aP h.1 n];exact h.1,h.2⟩
inductive zK(K:Fq)(vs:List V)(H:Hp)(Q:VK):Prop
 | mk(a p:Addr)(d m t r:Int)(xs:List V)(h1:vs=[.ref a,.ref p])(h2:Hand H a d m t r)(h3:t<1000000)(h4:p≠a)(h5:SqL K H p xs)(h6:xs≠[])(h7:↑xs<1000)(h8:∀(x:V)(d' m' t':Int),x∈xs->oV d' m' t'->t'<=t+1->Q x (upd H a<|hl d' m' t' r)):zK K vs H Q
def cP(K:Fq):Sp:=λvs H Q _=>zK K vs H Q
section
variable{P:Program}{w:World}{K:Fq}{mg:Str->Option Value}{base:Heap}{f g:Addr}{fd gd:FuncData}
def JO:bZ qC qC (bR EV):=cC
structure aS(P:Program)(w:World)(K:Fq)(mg:Str->Option Value)(base:Heap)(k:Nat)(x:Str)(ps:List Str)(sp:Sp):Prop where
 ex:∃g gd,aR P w K mg base bQ k g gd ps sp/\Binds K gd ps []/\PySem.W.keepIn K (.ref g)=true/\mg x=some (.ref g)
def bB(C:aS X.prog X.w X.K X.mg X.base k x ps sp)(hr:Room k X.A)(a:Gl X x)(i:PA X (e::es) t)(d:(x == ("__debug__":Str))=false:=by decide)(he:starEach (e::es) X.env=(false,eval e X.env)::starEach es X.env:=by rfl)(f:(backTo pos<|starEach es X.env).any (·.1)=false:=by rfl):
  PE X (.Call (.Name x p) (e::es) [] pos) (fL sp [] E0 t):=by
 obtain⟨g,gd,G,b,h,m⟩:=C.ex;exact VN G hr a m h b .nil HU i d he f
def PF(h0:0<=i)(h1:i<(↑xs:Int)):∃v,dY xs i=some v/\v∈xs:=by
 have a:i.toNat<↑xs:=by lia
 have b:i=((i.toNat:Nat):Int):=by lia
 refine⟨xs[i.toNat],?_,iT a⟩;have:=lL (xs:=xs) (j:=i.toNat)<|bF a;rw[<-b]at this;exact this
def AY(F:Fun K "_law_of" "_law_of" EV f fd)(T:aS P w K mg base k "_law_take" qB gG)(z:mg "len"=none):
  aR P w K mg base bQ (k+1) f fd qC (cP K):=by
 refine F.ok JO (λvs H Q E h=>?_) λG A outer s H vs Q E hr h=>?_
 .obtain⟨a,p,d,m,t,r,xs,rfl,_⟩:=h;rfl
 obtain⟨a,p,d,m,t,r,xs,rfl,n,u,l,b,B,C,q⟩:=h;exists _,aQ<|bS<|eI (pv 1)<|bB T hr rfl<|aA (pv 0)<|aA (eA iW rfl z iR<|aA (pv 1) aE) aE;have I:0<↑xs:=List.length_pos_iff.mpr B;refine⟨_,rfl,_,rfl,_,rfl,p,_,rfl,.inl b,a,d,m,t,r,_,rfl,n,u,by lia,by lia,λx d' m' t' h0 h1 j o=>?_⟩;obtain⟨v,i,e⟩:=PF h0 h1;have fr:FrS [a] H (upd H a<|hl d' m' t' r):=FrS.chg (by simp);exact⟨p,_,_,v,rfl,rfl,fr.seq (by simpa using l) b,i,q v d' m' t' e j o⟩
end
abbrev lT:Stmt:=top 52
abbrev lets:Str:="abcdefghijklmnopqrstuvwxyz"
def gW(pre suf:Str)(c:Nat):Str:=pre++⟨#[c]⟩++suf
def sA(pre suf:Str)(c:Nat):Str:=gW pre suf c++(if gW pre suf c=("own":Str) then("q":Str) else Str.empty)
def DV(x y:Str):(x++y).cps=x.cps++y.cps:=rfl
def UV(h:gW pre suf c=gW pre suf c'):c=c':=by
 have e:(pre.cps++#[c])++suf.cps=(pre.cps++#[c'])++suf.cps:=cF Str.cps h;have a:=cF Array.toList e;simp at a;exact a
def Cs:(gW pre suf c).cps.size=(gW pre suf c').cps.size:=by
 unfold gW;simp[DV]
def XL(h:sA pre suf c=sA pre suf c'):c=c':=by
 have hs:=cF (λz:Str=>z.cps.size) h;have hl:=Cs (pre:=pre) (suf:=suf) (c:=c) (c':=c');have f:("q":Str).cps.size=1:=by decide
 have d:Str.empty.cps.size=0:=by decide
 unfold sA at h hs
 by_cases h1:gW pre suf c=("own":Str)
 .by_cases h2:gW pre suf c'=("own":Str)
  .exact UV<|h1.trans h2.symm
  .rw[bC h1,aZ h2]at hs;simp only[DV,xP,f,d]at hs;lia
 .by_cases h2:gW pre suf c'=("own":Str)
  .rw[aZ h1,bC h2]at hs;simp only[DV,xP,f,d]at hs;lia
  .rw[aZ h1,aZ h2]at h;have e:=cF (λz:Str=>z.cps.toList) h;simp only[DV,Array.toList_append]at e;have i:(gW pre suf c).cps.toList=(gW pre suf c').cps.toList:=List.append_cancel_right e;refine UV (pre:=pre) (suf:=suf) ?_;cases hx:gW pre suf c with
   | mk a=>cases hy:gW pre suf c' with
    | mk b=>
     rw[hx,hy]at i;have:a=b:=Array.toList_inj.mp i;rw[this]
def fP(first stride:Int)(k:Nat):Nat:=(97+(first+stride*(k:Int)) % 26).toNat
def mZ(pre suf:Str)(first stride:Int)(n:Nat):List Str:=(List.range n).map λk=>sA pre suf<|fP first stride k
def Bg(hs:stride∈([1,3,5,7,9,11]:List Int))(h0:0<=first)(a:j<=12)(b:k<=12)(h:fP first stride j=fP first stride k):j=k:=by
 unfold fP at h;simp only[wp9,aV,cY]at hs;rcases hs with rfl | rfl | rfl | rfl | rfl | rfl <;> lia
def Bc(hs:stride∈([1,3,5,7,9,11]:List Int))(h0:0<=first)(l:n<=12):(mZ pre suf first stride n).Nodup:=by
 unfold mZ;refine List.Pairwise.map _ (R:=λj k=>j≠k/\j<n/\k<n) (λj k ⟨h1,h2,i⟩ e=>h1 ?_) ?_
 .exact Bg hs h0 (by lia) (by lia)<|XL e
 .have:(List.range n).Pairwise (λj k=>j<k):=List.pairwise_lt_range;refine List.Pairwise.imp_of_mem (λ{a b} f d h=>?_) this;rw[List.mem_range]at f d;exact⟨by lia,f,d⟩
def Dk:mZ pre suf first stride (n+1)=mZ pre suf first stride n++[sA pre suf<|fP first stride n]:=by
 unfold mZ;rw[List.range_succ,bN];rfl
def RG(h0:0<=i)(h1:i<26):dY lets.cps.toList i=some (97+i).toNat:=by
 have a:∀j:Fin 26,lets.cps.toList[j.val]?=some (97+j.val):=by rfl'
 have e:i=((i.toNat:Nat):Int):=by lia
 have:=lL (xs:=lets.cps.toList) (j:=i.toNat)<|a ⟨i.toNat,by lia⟩;rw[<-e]at this;rw[this]
 congr 1
 simp only;lia
def odd:List Str:=["end","or","main","gives","kind","under","late","deed","call","say","make","take","put"]
def XN:odd.Nodup:=by rfl'
inductive TU(vs:List V)(H:Hp)(Q:VK):Prop
 | mk(a:Addr)(d m t r:Int)(n:Nat)(h1:vs=[.ref a,.int (n:Int)])(h2:Hand H a d m t r)(h3:t+10<1000000)(h4:n<=12)(h5:∀(p:Addr)(ws:List Str)(d' m' t':Int)(H':Hp),FrS [a] H H'->Hand H' a d' m' t' r->t'<=t+10->H p=none->H' p=some (.lst<|ws.map V.str)->↑ws=n->ws.Nodup->Q (.ref p) H'):TU  vs H Q
def FB:Sp:=λvs H Q _=>TU  vs H Q
def UH{c:Const}{j}{pos:Pos}{es:List Expr}{env:Env}:starEach (.Constant c j pos::es) env=(false,eval (.Constant c j pos) env)::starEach es env:=by
 first | rfl | (rw[starEach])
def kQ{X:Cx}{x:Str}{j}{pos:Pos}{es:List Expr}{t:TA}(h:PA X es t):PA X (.Constant (.str x) j pos::es) (aY (tC<|.str x) t):=aA bD h UH
def dI{X:Cx}{x:Int}{j}{pos:Pos}{es:List Expr}{t:TA}(h:PA X es t):PA X (.Constant (.int x) j pos::es) (aY (tC<|.int x) t):=aA aN h UH
def xV:List Expr->Option (List Str)
 | []=>some []
 | .Constant (.str x) _ _::r=>(xV r).map (x::·)
 | _=>none
theorem UR{X:Cx}:∀(es:List Expr)(ss:List Str),xV es=some ss->PA X es (λ_ H Q=>Q (ss.map V.str) H)
 | [],ss,h=>by
  cases h;exact aE
 | e::r,ss,h=>by
  cases e with
  | Constant c j pos=>
   cases c with
   | str x=>
    have h:(xV r).map (x::·)=some ss:=h;cases hr:xV r with
    | none=>rw[hr]at h;cases h
    | some rs=>
     rw[hr]at h;cases h;exact kQ<|UR r rs hr
   | _=>cases h
  | _=>cases h
def QJ(e:Expr):Option (List Str):=match e with
 | .List es _=>xV es
 | _=>none
def Bp{X:Cx}{e:Expr}{ss:List Str}(h:QJ e=some ss):PE X e (λ_ H Q=>↑ss<=sizeLine/\∀p,H p=none->Q (.ref p) (upd H p<|.lst<|ss.map V.str)):=by
 cases e with
 | List es pos=>
  have q:=cG (pos:=pos)<|UR (X:=X) es ss h;intro b s σ H Q I a;exact q b s σ H Q I ⟨by rw[aK];exact a.1,a.2⟩
 | _=>cases h
def mV(l:List Stmt):Expr:=match l with
 | .Assign _ v _::_=>v
 | _=>.Constant .none 0 ⟨0,0,0,0⟩
def HZ(l:List Stmt)(v:Expr):List Stmt:=match l with
 | .Assign t _ p::r=>.Assign t v p::r
 | l=>l
def body{X:Cx}{l a:List Stmt}{t:TS}(e:l=a)(h:PSs X a t):PSs X l t:=by subst e;exact h
def LP(xs:List V){n:Nat}(h:n<=↑xs):cW xs none (some (n:Int))=xs.take n:=by
 unfold cW;rw[HT.QB,HT.DH,Nat.min_eq_left h];simp
def RE(xs:List V){n:Nat}(h:n<=↑xs):cW xs (some (n:Int)) none=xs.drop n:=by
 unfold cW;rw[HT.QB,HT.DH,Nat.min_eq_left h];exact gA (by rw[mP];lia)
def nE{a p:Addr}{H H':Hp}{d m t r:Int}(f:FrS [a] H H')(h:Hand H' a d m t r)(hp:H' p=none):H p=none:=by
 cases hz:H p with
 | none=>rfl
 | some o=>
  have b:p≠a:=λe=>by rw[e,h.1]at hp;cases hp
  have:=f p o (by simpa using b) hz;rw[hp]at this;cases this
section
variable{P:Program}{w:World}{K:Fq}{mg:Str->Option Value}{base:Heap}{f g:Addr}{fd gd:FuncData}
abbrev vT:List Str:=["_law_hand_here","_law_many","_law_odd","_law_first","_law_letters","_law_stem","_law_k","_law_at","_law_stride","_law_words_here","_law_word"]
def zk0:bZ vT ["_law_hand_here","_law_many"] (bR lT):=⟨rfl,rfl,rfl,by rfl',rfl,by rfl',by rfl'⟩
def Cd{k:Nat}(F:Fun K "_law_words" "_law_words" lT f fd)(T:aS P w K mg base k "_law_take" ["_law_hand_here","_law_many"] gG)(ml:mg "len"=none)(mr:mg "range"=none)(mi:mg "int"=none):
  aR P w K mg base bQ (k+1) f fd ["_law_hand_here","_law_many"] FB:=by
 refine F.ok zk0 (λvs H Q E h=>?_) λbq A outer s H vs Q E hr h=>?_
 .obtain⟨a,d,m,t,r,n,rfl,_⟩:=h;rfl
 obtain⟨a,d,m,t,r,n,rfl,hh,ht,hn,q⟩:=h;have M:∀{n:Nat},n<=1000->n<=sizeLine:=λh=>cN<|bG h;have eB:dV lT=HZ (dV lT) (mV<|dV lT):=rfl;have hO:QJ (mV<|dV lT)=some odd:=by rfl'
 have ax:∀(x:Str)(p:Pos)(n:Nat)(env:Env),swapsWith (mV<|dV lT) (some<|.Name x p) n env=pure false:=λ_ _ _ _=>rfl;rw[eB];generalize mV (dV lT)=L at hO ax;exists _,aL (hI (i:=2) zk0.nd rfl (eY rfl) (Bp hO)<|ax _ _ _ _)
  (aL (cL (bY eZ (bB T hr rfl<|aA (pv 0)<|aA aN aE) aN<|cE _) (aL (hI (i:=3) zk0.nd rfl (eY rfl)<|bB T hr rfl<|aA (pv 0)<|aA aN aE)<|aQ<|bS<|jR xH (cA wE (jR xH (pv 2) (jK<|pv 3) jL)<|jR xH (pv 2) jL<|jK<|pv 3) jL<|jK<|pv 1) dD) (aL (hI (i:=4) zk0.nd rfl (eY rfl) bD) (aL (hI (i:=5) zk0.nd rfl (eY rfl) bD) (aL (dZ dJ rfl (lC rfl mr<|aA (bB T hr rfl<|aA (pv 0)<|aA aN aE) aE) (wZ (i:=6) zk0.nd rfl<|eY rfl)<|aQ<|hI (i:=5) zk0.nd rfl (eY rfl)<|cA DT (pv 5)<|lQ RM (pv 4) (bB T hr rfl<|aA (pv 0)<|aA aN aE) λ_ _=>rfl) (aL (hI (i:=7) zk0.nd rfl (eY rfl)<|bB T hr rfl<|aA (pv 0)<|aA (cA jJ (eA WU rfl ml iR<|aA (pv 5) aE) aN) aE) (aL (hI (i:=3) zk0.nd rfl (eY rfl)<|bB T hr rfl<|aA (pv 0)<|aA aN aE) (aL (hI (i:=8) zk0.nd rfl (eY rfl)<|eI (cG<|dI<|dI<|dI<|dI<|dI<|dI aE)<|bB T hr rfl<|aA (pv 0)<|aA aN aE) (aL (hI (i:=9) zk0.nd rfl (eY rfl)<|cG aE) (aL (dZ dJ rfl (lC rfl mr<|aA (pv 1) aE) (wZ (i:=6) zk0.nd rfl<|eY rfl)<|aL (hI (i:=10) zk0.nd rfl (eY rfl)<|cA DT (cA DT (jR UM (pv 5) jL<|jK<|pv 7)<|lQ RM (pv 4) (cA rJ (cA jJ (pv 3)<|cA vM (pv 8)<|pv 6) aN) λ_ _=>rfl)<|jR UM (pv 5) (jK<|pv 7) jL)<|aQ<|dQ<|eP eE fI fJ fG (pv 9)<|aA (cA DT (pv 10)<|cA XZ bD<|dS zM rfl mi (by rfl')<|aA (pS eZ (pv 10) bD<|cE _) aE) aE)
  (aQ<|bS<|pv 9))))))))))
 refine⟨M (by show 13<=1000;decide),λI af=>?_⟩;have b7:Hand (upd H I<|.lst<|odd.map V.str) a d m t r:=hh.new af;have b8:FrS [a] H (upd H I<|.lst<|odd.map V.str):=FrS.new af;have ar:I≠a:=λe=>by rw[e,hh.1]at af;cases af
 refine⟨_,rfl,a,d,m,t,r,8,rfl,b7,by lia,by decide,by decide,λx d1 m1 Z x0 x1 b0 bo=>?_⟩;have au:FrS [a] H _:=b8.trans (FrS.chg (a:=a) (o:=hl d1 m1 Z r)<|by simp);have al:upd (upd H I<|.lst<|odd.map V.str) a (hl d1 m1 Z r) I=some (.lst<|odd.map V.str):=by rw[aC ar,zb1]
 have aw:Hand (upd (upd H I<|.lst<|odd.map V.str) a<|hl d1 m1 Z r) a d1 m1 Z r:=Hand.at b0;generalize upd (upd H I<|.lst<|odd.map V.str) a (hl d1 m1 Z r)=H2 at *;exists rfl,_,rfl;refine bI (λc=>?_) λc=>?_
 .refine⟨_,rfl,a,d1,m1,Z,r,13,rfl,aw,by lia,by decide,by decide,λy J N G y0 y1 aj b1=>?_⟩;have ad:FrS [a] H _:=au.trans (FrS.chg (a:=a) (o:=hl J N G r)<|by simp);have a3:upd H2 a (hl J N G r) I=some (.lst<|odd.map V.str):=by rw[aC ar];exact al
  have ab:Hand (upd H2 a<|hl J N G r) a J N G r:=Hand.at aj;generalize upd H2 a (hl J N G r)=H3 at *;obtain⟨j,rfl⟩:∃j:Nat,y=(j:Int):=⟨y.toNat,by lia⟩;have hj:j<=↑(odd.map V.str):=by show j<=13;lia
  refine⟨_,rfl,_,rfl,_,rfl,I,_,rfl,SqL.of a3,λp1 aa=>?_⟩;have e1:∀o,upd H3 p1 o I=some (.lst<|odd.map V.str):=λo=>by rw[aC<|aP a3 aa];exact a3
  refine⟨_,rfl,_,rfl,_,rfl,I,_,rfl,SqL.of<|e1 _,λp2 a4=>?_⟩;have e2:p1≠p2:=λz=>by rw[<-z,zb1]at a4;cases a4
  rw[RE _ hj,LP _ hj]at *;have bg:↑((odd.map V.str).drop j)+↑((odd.map V.str).take j)<=sizeLine:=by
   rw[mP,eM];exact M (by show(odd.map V.str).length-j+min j ↑(odd.map V.str)<=1000;have:↑(odd.map V.str)=13:=rfl;lia)
  refine⟨p1,p2,_,_,rfl,rfl,by rw[aC e2];exact zb1,zb1,bg,λp3 ae=>?_⟩;refine⟨_,rfl,_,rfl,p3,_,rfl,SqL.of zb1,λp4 a9=>?_⟩;have ai:(odd.map V.str).drop j++(odd.map V.str).take j=((odd.drop j++odd.take j)).map V.str:=by rw[bN,yK,xR]
  have ay:↑(odd.drop j++odd.take j)=13:=by
   rw[bH,mP,eM];have:↑odd=13:=rfl;lia
  have bl:(odd.drop j++odd.take j).Nodup:=by
   have hp:(odd.drop j++odd.take j).Perm odd:=List.perm_append_comm.trans (by rw[List.take_append_drop]);exact hp.nodup_iff.mpr XN
  rw[ai]at a9 ⊢;rw[LP _<|by rw[aK,ay];lia];have f1:FrS [a] H3 (upd H3 p1<|.lst<|(odd.map V.str).drop j):=FrS.new aa;refine q p4 ((odd.drop j++odd.take j).take n) J N G _ (ad.trans<|(f1.trans<|FrS.new a4).trans<|(FrS.new ae).trans<|FrS.new a9) (((((ab.new aa).new a4).new ae).new a9)) (by lia) ?_ (by rw[zb1,xR]) (by rw[eM,ay];lia)<|bl.sublist<|List.take_sublist _ _;exact nE (H':=upd (upd (upd H3 p1 _) p2 _) p3 _) (ad.trans<|(f1.trans<|FrS.new a4).trans<|FrS.new ae) (((ab.new aa).new a4).new ae) a9
 .-- the loop that makes the l
  refine⟨_,rfl,a,d1,m1,Z,r,5,rfl,aw,by lia,by decide,by decide,λy J N G y0 y1 aj b1=>?_⟩;have ad:FrS [a] H _:=au.trans (FrS.chg (a:=a) (o:=hl J N G r)<|by simp);have ab:Hand (upd H2 a<|hl J N G r) a J N G r:=Hand.at aj;generalize upd H2 a (hl J N G r)=H3 at *;refine⟨_,rfl,by lia,by lia,vV (lo:=0) (n:=y.toNat) (λi σ C=>∃(l:Str)(O:Option V)(dx mx tx:Int),σ=[some<|.ref a,some<|.int n,some<|.ref I,none,some<|.str lets,some<|.str l,O,none,none,none,none]/\
   ↑l<=i/\FrS [a] H C/\Hand C a dx mx tx r/\tx<=G+i) ⟨Str.empty,none,J,N,G,rfl,aW _,ad,ab,by lia⟩ (λi σ C hi ⟨l,O,dx,mx,tx,hσ,bd,ag,am,bb⟩=>?_) (λσ C ⟨l,O,dx,mx,tx,hσ,bd,ag,am,bb⟩=>?_)⟩
  .subst hσ;refine⟨_,rfl,_,rfl,_,rfl,a,dx,mx,tx,r,26,rfl,am,by lia,by decide,by decide,λz d3 m3 t3 z0 z1 be bp=>?_⟩;exists lets,z,_,rfl,rfl,M (by decide),RG z0 z1;exists l,_,rfl,rfl,?_
   .show ↑l+1<=sizeLine;exact M (by lia)
   .refine⟨_,_,d3,m3,t3,rfl,?_,ag.trans (FrS.chg<|by simp),Hand.at be,by lia⟩;show(l.cps++#[_]).size<=i+1;rw[xP];show ↑l+1<=i+1;lia
  .subst hσ;have bt:(y.toNat:Int)<=4:=by lia
   refine⟨_,rfl,_,rfl,_,rfl,M (by lia),_,_,rfl,rfl,a,dx,mx,tx,r,_,rfl,am,by lia,by lia,by lia,λu d4 m4 t4 u0 u1 b6 bm=>?_⟩;have bj:FrS [a] H _:=ag.trans (FrS.chg (a:=a) (o:=hl d4 m4 t4 r)<|by simp);have b5:Hand (upd C a<|hl d4 m4 t4 r) a d4 m4 t4 r:=Hand.at b6;generalize upd C a (hl d4 m4 t4 r)=H4 at *;refine⟨_,rfl,a,d4,m4,t4,r,26,rfl,b5,by lia,by decide,by decide,λv d5 m5 t5 v0 v1 bf bs=>?_⟩;have b3:FrS [a] H _:=bj.trans (FrS.chg (a:=a) (o:=hl d5 m5 t5 r)<|by simp);have az:Hand (upd H4 a<|hl d5 m5 t5 r) a d5 m5 t5 r:=Hand.at bf;generalize upd H4 a (hl d5 m5 t5 r)=H5 at *;refine⟨M (by show 6<=1000;decide),λps ac=>?_⟩;have b9:=az.new (o:=.lst [.int 1,.int 3,.int 5,.int 7,.int 9,.int 11]) ac;have ao:ps≠a:=λe=>by rw[e,az.1]at ac;cases ac
   refine⟨_,rfl,a,d5,m5,t5,r,6,rfl,b9,by lia,by decide,by decide,λz X Y t6 z0 z1 bh bu=>?_⟩;obtain⟨sv,bi,aq⟩:=PF (xs:=[V.int 1,.int 3,.int 5,.int 7,.int 9,.int 11]) z0 z1;exists ps,_,_,sv,rfl,rfl,SqL.of (by rw[aC ao,zb1]),bi;have as:FrS [a] H _:=(b3.trans<|FrS.new (o:=.lst [.int 1,.int 3,.int 5,.int 7,.int 9,.int 11]) ac).trans (FrS.chg (a:=a) (o:=hl X Y t6 r)<|by simp);have ah:Hand (upd (upd H5 ps<|.lst [.int 1,.int 3,.int 5,.int 7,.int 9,.int 11]) a<|hl X Y t6 r) a X Y t6 r:=Hand.at bh;obtain⟨B,rfl,a6⟩:∃st:Int,sv=.int st/\st∈([1,3,5,7,9,11]:List Int):=by
    simp only[wp9,aV,cY]at aq;rcases aq with rfl | rfl | rfl | rfl | rfl | rfl
    all_goals exact⟨_,rfl,by simp⟩
   have ba:0<=B/\B<=11:=by
    simp only[wp9,aV,cY]at a6;lia
   refine⟨M (by decide),λW a5=>?_⟩;have a2:=nE as ah a5;have bk:FrS [a] H _:=as.trans<|FrS.new (o:=.lst []) a5;have b4:=ah.new (o:=.lst []) a5;have an:upd (upd (upd H5 ps<|.lst [.int 1,.int 3,.int 5,.int 7,.int 9,.int 11]) a<|hl X Y t6 r) W (.lst []) W=some (.lst []):=zb1;have ak:W≠a:=λe=>by rw[e,ah.1]at a5;cases a5
   generalize upd (upd (upd H5 ps<|.lst [.int 1,.int 3,.int 5,.int 7,.int 9,.int 11]) a<|hl X Y t6 r) W (.lst [])=H8 at *;refine⟨_,rfl,n,rfl,by lia,by lia,vV (lo:=0) (n:=(n:Int).toNat) (λi σ C=>∃(O wx:Option V),σ=[some<|.ref a,some<|.int n,some<|.ref I,some<|.int v,some<|.str lets,some<|.str l,O,some<|.int u,some<|.int B,some<|.ref W,wx]/\
    FrS [a] H C/\Hand C a X Y t6 r/\C W=some (.lst<|(mZ (Txt.slice l none<|some u) (Txt.slice l (some u) none) v B i).map V.str)) ⟨O,none,rfl,bk,b4,an⟩ (λi σ C hi ⟨O,wx,hσ,ap,a8,a7⟩=>?_) (λσ C ⟨O,wx,hσ,ap,a8,a7⟩=>?_)⟩
   .subst hσ;have bn:i<n:=by lia
    have av:↑l<=sizeLine:=M (by lia);have pl:=Txt.slice_le l none<|some u;have sl:=Txt.slice_le l (some u) none;have bc:0<=(v+B*(0+(i:Int))) % 26:=wR _ (by decide);have b2:(v+B*(0+(i:Int))) % 26<26:=wL _ (by decide);exists _,rfl,_,rfl,u,rfl,l,rfl,av,_,rfl,_,rfl,_,rfl,_,rfl,_,_,rfl,rfl,.inl ⟨by lia,by lia⟩,_,_,rfl,rfl,_,_,rfl,rfl,by show(0:Int)<26;decide,lets,_,_,rfl,rfl,M (by decide),RG bc b2,
     _,_,rfl,rfl,?_,_,rfl,_,rfl,u,rfl,l,rfl,av,_,_,rfl,rfl,?_
    .show(Txt.slice l none<|some u).length+1<=sizeLine;exact M (by lia)
    .have e:↑(Txt.slice l none (some u)++(⟨#[(97+(v+B*(0+(i:Int))) % 26).toNat]⟩:Str))=↑(Txt.slice l none<|some u)+1:=by
      show(_++#[_]).size=_;rw[xP];rfl
     show(Txt.slice l none (some u)++(⟨#[(97+(v+B*(0+(i:Int))) % 26).toNat]⟩:Str)).length+↑(Txt.slice l (some u) none)<=sizeLine;rw[e];exact M (by lia)
    have ew:Txt.slice l none (some u)++(⟨#[(97+(v+B*(0+(i:Int))) % 26).toNat]⟩:Str)++Txt.slice l (some u) none=gW (Txt.slice l none<|some u) (Txt.slice l (some u) none) (fP v B i):=by
     unfold gW fP;rw[Int.zero_add]
    have br:↑(gW (Txt.slice l none<|some u) (Txt.slice l (some u) none)<|fP v B i)<=20:=by
     show((_++#[_])++_).size<=20;rw[xP,xP];show(Txt.slice l none<|some u).length+1+↑(Txt.slice l (some u) none)<=20;lia
    rw[ew];generalize hw:gW (Txt.slice l none<|some u) (Txt.slice l (some u) none) (fP v B i)=wd at *;refine⟨_,rfl,.inl ⟨rfl,_,SqL.of a7⟩,_,rfl,_,rfl,rfl,.inr ⟨_,rfl,_,_,rfl,rfl,?_,_,_,rfl,rfl,?_,W,_,_,rfl,rfl,a7,?_,?_⟩⟩
    .cases decide (V.str wd=V.str ("own":Str)) <;> simp
    .have h1:∀c:Prop,[Decidable c]->↑(if c then Str.empty else("q":Str))<=1:=λc _=>by
      by_cases h:c
      .rw[bC h];decide
      .rw[aZ h];decide
     have h2:=h1<|(if decide (V.str wd=V.str ("own":Str))=true then(1:Int) else 0)=0;exact M (by lia)
    .have:↑((mZ (Txt.slice l none<|some u) (Txt.slice l (some u) none) v B i).map V.str)=i:=by
      unfold mZ;rw[aK,aK,List.length_range]
     rw[this];exact bG (by lia)
    .exists _,_,rfl,?_,?_
     .intro b o hb hx;rw[aC λe=>by rw[e,a2]at hx;cases hx];exact ap b o hb hx
     .exact⟨by rw[aC<|bK ak];exact a8.1,a8.2⟩
     .rw[zb1,Dk,bN];have e1:sA (Txt.slice l none<|some u) (Txt.slice l (some u) none) (fP v B i)=wd++(if (if decide (V.str wd=V.str ("own":Str))=true then(1:Int) else 0)=0 then Str.empty else("q":Str)):=by
       unfold sA;rw[hw]
       by_cases h:wd=("own":Str)
       .rw[bC h,bC (eW<|by rw[h]),aZ<|by decide]
       .have h':¬(V.str wd=V.str ("own":Str)):=λz=>h<|V.str.inj z;rw[aZ h,gR h'];rfl
      rw[e1];rfl
   .subst hσ;exists _,rfl;rw[zL]at a7;refine q W _ X Y t6 C ap a8 (by lia) a2 a7 (by unfold mZ;rw[aK,List.length_range])<|Bc a6 v0 hn
end
inductive OE(K:Fq)(vs:List V)(H:Hp)(Q:VK):Prop
 | mk(p:Addr)(ns:List Int)(k:Nat)(h1:vs=[.ref p,.int (k:Int)])(h2:SqL K H p (ns.map V.int))(h3:↑ns<=63)(h4:k<=63)(h5:∀(a:Addr)(d m:Int),H a=none->oV d m 0->Q (.ref a) (upd H a<|hl d m 0 0)):OE K vs H Q
def JC(K:Fq):Sp:=λvs H Q _=>OE K vs H Q
def xb6:bZ ["_law_script","_law_k","_law_cell"] ["_law_script","_law_k"] (bR HD):=cC
def SE(h0:0<=c)(d:0<=k)(a:k<=63)(b:Bool):oV (c*(if b then 1 else 0)) (c % 2305843009213693951+7919*k+11) 0:=by
 have h1:0<=c % 2305843009213693951:=wR _ (by decide);have h2:c % 2305843009213693951<2305843009213693951:=wL _ (by decide);refine⟨?_,by lia,by lia,Int.le_refl 0⟩;cases b
 .show 0<=c*0;lia
 .show 0<=c*1;lia
def YN(F:Fun K "_law_hand" "_law_hand" HD f fd)(x:mg "len"=none)(u:mg "abs"=none)(l:mg "int"=none):aR P w K mg base bQ (k+1) f fd ["_law_script","_law_k"] (JC K):=by
 refine F.ok xb6 (λvs H Q E h=>?_) λz A outer s H vs Q E hr h=>?_
 .obtain⟨p,b,k,rfl,_⟩:=h;rfl
 obtain⟨p,b,j,rfl,i,C,B,q⟩:=h;exists _,aL (sL 2 xb6.nd aN)
  (aL (cL (bY xA (pv 1) (eA iW rfl x iR<|aA (pv 0) aE)<|cE _) (aQ<|sL 2 xb6.nd<|eA VI rfl u (by rfl')<|aA (eI (pv 0)<|pv 1) aE) dD)
  (aQ (bS (cG (aA (cA vM (pv 2)<|dS zM rfl l (by rfl')<|aA (pS pK (pv 2) (cA vG aN aN)<|cE _) aE)
   (aA (cA jJ (cA jJ (cA rJ (pv 2) aN)<|cA vM aN<|pv 1) aN)<|aA aN<|aA aN aE))))))
 have e:∀{n:Nat},n<=1000->n<=sizeLine:=λh=>cN<|bG h;have hl:↑(b.map V.int)=↑b:=List.length_map _;exists _,rfl,_,rfl,p,_,rfl,.inl i,_,_,rfl,rfl,_,rfl;refine bI (λc=>?_) λc=>?_
 .have c':(j:Int)<((↑(b.map V.int):Nat):Int):=cQ c;rw[hl]at c';have o:j<↑b:=by lia
  have r:dY (b.map V.int) (j:Int)=some (.int b[j]):=lL (by rw[bO,bF o];rfl);exists _,rfl,_,rfl,p,_,_,_,rfl,rfl,i,r,_,rfl;have m:0<=(if b[j]<0 then -b[j] else b[j]):=by split <;> lia
  refine⟨_,rfl,_,rfl,_,_,rfl,rfl,⟨by decide,by decide,by decide⟩,_,_,rfl,rfl,.inr ⟨_,rfl,_,_,rfl,rfl,.inr ?_,_,rfl,_,_,rfl,rfl,by show(0:Int)<2305843009213693951;decide,_,rfl,_,_,rfl,rfl,.inl (by constructor <;> decide),_,_,rfl,rfl,_,_,rfl,rfl,e (by show 4<=1000;decide),λa d=>?_⟩⟩
  .cases decide ((if b[j]<0 then -b[j] else b[j])≥10 ^ (18:Int).toNat) <;> (constructor <;> decide)
  .exact q a _ _ d<|SE m (by lia) (by lia) _
 .refine⟨_,rfl,_,rfl,_,_,rfl,rfl,⟨by decide,by decide,by decide⟩,_,_,rfl,rfl,.inr ⟨_,rfl,_,_,rfl,rfl,.inr ?_,_,rfl,_,_,rfl,rfl,by show(0:Int)<2305843009213693951;decide,_,rfl,_,_,rfl,rfl,.inl (by constructor <;> decide),_,_,rfl,rfl,_,_,rfl,rfl,e (by show 4<=1000;decide),λa d=>?_⟩⟩
  .cases decide ((0:Int)≥10 ^ (18:Int).toNat) <;> (constructor <;> decide)
  .exact q a _ _ d<|SE (Int.le_refl 0) (by lia) (by lia) _
abbrev Tr:=List<|Str×Option Str
structure TrOk(tr:Tr):Prop where
 nd:(tr.map (·.1)).Nodup
 up:∀(i:Nat) n e,tr[i]?=some (n,some e)->∃j,j<i/\∃g,tr[j]?=some (e,g)
def TrOk.nil:TrOk []:=⟨lB,λi n e h=>by simp at h⟩
def TrOk.snoc(h:TrOk tr)(f:n∉tr.map (·.1))(he:∀x,e=some x->x∈tr.map (·.1)):TrOk (tr++[(n,e)]):=by
 refine⟨?_,λi r b hi=>?_⟩
 .rw[bN];exact JT h.nd f
 .by_cases l:i<↑tr
  .rw[kE l]at hi;obtain⟨j,a,g,m⟩:=h.up i r b hi;exact⟨j,a,g,by rw[kE<|by lia];exact m⟩
  .rw[kN<|by lia]at hi;have h0:i-↑tr=0:=by
    cases hz:i-↑tr with
    | zero=>rfl
    | succ k=>rw[hz]at hi;simp at hi
   rw[h0]at hi;simp only[DZ,ET,Prod.mk.injEq]at hi;obtain⟨_,o⟩:=hi;obtain⟨p,hp,d⟩:=wr2.mp<|he b o;obtain⟨j,a,q⟩:=mW hp;exact⟨j,by lia,p.2,by rw[kE a,bF a,q,<-d]⟩
def TrOk.one{tr:Tr}(h:TrOk tr){i j:Nat}{n:Str}{a b:Option Str}(hi:tr[i]?=some (n,a))(f:tr[j]?=some (n,b)):i=j:=by
 have d:(tr.map (·.1))[i]?=some n:=by rw[bO,hi];rfl
 have e:(tr.map (·.1))[j]?=some n:=by rw[bO,f];rfl
 obtain⟨h1,d⟩:=zz2.mp d;obtain⟨h2,e⟩:=zz2.mp e;exact(wX h.nd).mp<|d.trans e.symm
inductive Up(tr:Tr):Str->List Str->Prop
 | root {i:Nat} {n:Str}:tr[i]?=some (n,none)->Up tr n [n]
 | step {i:Nat} {n e:Str} {l:List Str}:tr[i]?=some (n,some e)->Up tr e l->Up tr n (n::l)
def Up.exists(h:TrOk tr):∀(i:Nat) n g,tr[i]?=some (n,g)->∃l,Up tr n l:=by
 intro i
 induction i using Nat.strongRecOn with
 | ind i ih=>
  intro n g hi;cases g with
  | none=>exact⟨_,.root hi⟩
  | some e=>
   obtain⟨j,b,g',a⟩:=h.up i n e hi;obtain⟨l,hl⟩:=ih j b e g' a;exact⟨_,.step hi hl⟩
def Up.mem(a:Up tr n l):∀x∈l,x∈tr.map (·.1):=by
 induction a with
 | root hi=>
  intro x b;rw[wq1]at b;subst b;exact wr2.mpr ⟨_,cU hi,rfl⟩
 | step hi _ ih=>
  intro x b;rcases wp9.mp b with rfl | b
  .exact wr2.mpr ⟨_,cU hi,rfl⟩
  .exact ih x b
def Up.len{tr:Tr}(h:TrOk tr):∀(i:Nat) n g l,tr[i]?=some (n,g)->Up tr n l->↑l<=i+1:=by
 intro i
 induction i using Nat.strongRecOn with
 | ind i ih=>
  intro n g l hi hl;cases hl with
  | root _=>show 1<=i+1;lia
  | @step i' _ e l' hj hb=>
   have:=h.one hi hj;subst this;obtain⟨j,b,g',a⟩:=h.up i n e hj;have:=ih j b e g' l' a hb;show ↑l'+1<=i+1;lia
def bA:Option Str->V
 | none=>.non
 | some e=>.str e
abbrev JV:Stmt:=top 1
def KindsAt(H:Hp)(p:Addr)(tr:Tr):Prop:=∃(kt:Addr)(ts:List Addr)(x y:V),H p=some (.tup [.ref kt,x,y])/\H kt=some (.tup<|ts.map V.ref)/\↑ts=↑tr/\
 ∀(j:Nat) t z,ts[j]?=some t->tr[j]?=some z->∃v,H t=some (.tup [.str z.1,bA z.2,v])
def yf5:bZ ["program","kind","elder_of","line"] ["program","kind"] (bR JV):=cC
def eT(d:PE X a ta)(e:PE X b tb)(hs:IH b:=by exact λ_ _=>rfl):PE X (.Subscript a b pos) (dC (dN X.K) ta tb):=lQ rP d e hs
def cM(tr:Tr):List (aF×V):=tr.map λz=>((Sum.inr z.1:aF),bA z.2)
def VP(h:n∉tr.map (·.1)):aG (cM tr) (Sum.inr n)=none:=by
 cases e:aG (cM tr) (Sum.inr n)with
 | none=>rfl
 | some v=>
  have:=EF e;unfold cM at this;rw[kX]at this;obtain⟨z,hz,a⟩:=wr2.mp this;exact absurd (wr2.mpr ⟨z,hz,jU a⟩) h
def OP(ok:TrOk tr)(h:tr[i]?=some (n,e)):cM (tr.take<|i+1)=aO (cM<|tr.take i) (Sum.inr n) (bA e):=by
 have m:n∉(tr.take i).map (·.1):=λa=>by
  obtain⟨z,hz,d⟩:=wr2.mp a;obtain⟨j,l,f⟩:=mW hz;rw[eM]at l;have b:tr[j]?=some (n,z.2):=by
   rw[bF (by lia),<-d,<-f,List.getElem_take]
  have:=ok.one h b;lia
 rw[FS _<|VP m];unfold cM;rw[fW,h,bN];rfl
def uI{tr:Tr}(ok:TrOk tr){i:Nat}{n:Str}{e:Option Str}(h:tr[i]?=some (n,e)):aG (cM tr) (Sum.inr n)=some (bA e):=by
 obtain⟨hi,_⟩:=zz2.mp h;have d:∀(tr:Tr)(i:Nat),TrOk tr->tr[i]?=some (n,e)->(cM tr).find? (λb=>decide<|b.1=(Sum.inr n:aF))=some ((Sum.inr n:aF),bA e):=by
  intro tr i ok h;cases q:(cM tr).find? (λb=>decide<|b.1=(Sum.inr n:aF))with
  | none=>
   have:=List.find?_eq_none.mp q ((Sum.inr n:aF),bA e)<|wr2.mpr ⟨(n,e),cU h,rfl⟩;simp at this
  | some r=>
   have h1:=List.find?_some q;have h2:=DM q;obtain⟨z,hz,l⟩:=wr2.mp h2;obtain⟨j,o,s⟩:=mW hz;have f:r.1=(Sum.inr n:aF):=cQ h1;rw[<-l]at f;have m:z.1=n:=jU f;have a:tr[j]?=some (n,z.2):=by rw[bF o,s,<-m]
   have:=ok.one h a;subst this;rw[h]at a;have u:z.2=e:=by cases a;rfl
   rw[<-l,m,u]
 unfold aG;rw[d tr i ok h];rfl
def nX(f:FrS [] H H')(hp:H' p=none):H p=none:=by
 cases hz:H p with
 | none=>rfl
 | some o=>have:=f p o (by simp) hz;rw[hp]at this;cases this
def Up.at(h:Up tr n l):∃(i:Nat)(g:Option Str),tr[i]?=some (n,g):=by
 cases h with
 | root h=>exact⟨_,_,h⟩
 | step h _=>exact⟨_,_,h⟩
def JM(dn:List Str)(x:Str):dY ((dn++[x]).map V.str) (-1)=some (.str x):=by
 rw[bN];unfold dY mK;have a:↑(dn.map V.str++[x].map V.str)=↑dn+1:=by simp
 rw[a,aZ (by decide),bC<|by lia];have e:(-1+((↑dn+1:Nat):Int)).toNat=↑dn:=by lia
 show(dn.map V.str++[x].map V.str)[(-1+((↑dn+1:Nat):Int)).toNat]?=_;rw[e,kN<|by simp];simp
inductive NY(vs:List V)(H:Hp)(Q:VK):Prop
 | mk(p:Addr)(n:Str)(tr:Tr)(l:List Str)(h1:vs=[.ref p,.str n])(h2:KindsAt H p tr)(h3:TrOk tr)(h4:↑tr<=12)(h5:Up tr n l)(h6:∀(a:Addr)(H':Hp),FrS [] H H'->H a=none->H' a=some (.tup<|l.reverse.map V.str)->Q (.ref a) H'):NY  vs H Q
def HC:Sp:=λvs H Q _=>NY  vs H Q
def WE{k:Nat}(F:Fun K "elders" "elders" JV f fd)(mt:mg "tuple"=none):aR P w K mg base bQ (k+1) f fd ["program","kind"] HC:=by
 refine F.ok yf5 (λvs H Q E h=>?_) λak A outer s H vs Q E hr h=>?_
 .obtain⟨p,n,tr,l,rfl,_⟩:=h;rfl
 obtain⟨p,n,tr,l,rfl,⟨I,ts,x,y,hp,C,O,aj⟩,ok,am,N,q⟩:=h;have Z:=eC hr;have af:↑l<=12:=by
  obtain⟨i,g,hi⟩:=N.at;have:=Up.len ok i n g l hi N;obtain⟨h1,_⟩:=zz2.mp hi;lia
 have M:(["name","elder","deeds"]:List Str).Nodup:=by rfl'
 exists _,aL (Cy (hp:=NO) (i:=2) (N':=["name","elder","deeds"]) (src:=[none,none,none]) rfl yf5.nd rfl rfl eS (gC<|eT (pv 0) aN) (g:=eN K 3<|dW (bW 0)<|dW (bW 1)<|dW (bW 2) eO) (λ_ _ _ _=>eG (n:=3) rfl<|bL (gL 0 M)<|bL (gL 1 M)<|bL (gL 2 M) eK) (λ_ _ _ _=>gO) (λ_ _ _ _=>pv 0) λ_ _ _ _=>pv 1)
  (aL (sL 3 yf5.nd<|cG<|aA (pv 1) aE)<|aL (EN dJ (iL<|tH<|bT Z (pv 2) (eI (pv 3)<|kY lR aN) λ_ _=>rfl)<|aQ<|dQ<|eP eE fI fJ fG (pv 3)<|aA (bT Z (pv 2) (eI (pv 3)<|kY lR aN) λ_ _=>rfl) aE)<|aQ<|bS<|dS gH rfl mt (by rfl')<|aA (HF (pv 3)<|kY lR aN) aE)
 ac_rfl
 refine⟨_,rfl,p,_,_,_,rfl,rfl,SqT.of hp,rfl,I,rfl,⟨_,SqT.of C⟩,λD u=>?_⟩;have al:p≠D:=aP hp u;have ag:I≠D:=aP C u;exists λi m σ j=>m=↑ts-i/\i<=↑ts/\(∃a b c,σ=[a,b,c])/\j=upd H D (.dK<|cM<|tr.take i),⟨_,rfl,bM _,⟨_,_,_,rfl⟩,rfl⟩;rintro i m σ j ⟨rfl,hi,⟨a0,b0,c0,rfl⟩,rfl⟩;have L:∀o,upd H D o I=some (.tup<|ts.map V.ref):=λo=>by rw[aC ag];exact C
 by_cases B:i<↑ts
 .refine .inr ⟨⟨_,_,SqT.of<|L _,by rw[bO,bF B];rfl⟩,λσ' H'=>(∃a b c,σ'=[a,b,c])/\H'=upd H D (.dK<|cM<|tr.take<|i+1),by rintro σ' H' ⟨h1,h2⟩;exact⟨_,by lia,rfl,B,h1,h2⟩,λv H' G=>?_⟩;obtain⟨rfl,G⟩:=G;have Y:=G _<|SqT.of<|L _;rw[bO,bF B]at Y;cases Y;have ab:tr[i]?=some tr[i]:=bF (by lia);obtain⟨T,a8⟩:=aj i _ _ (bF B) ab;have ai:∀o,upd H D o ts[i]=some (.tup [.str tr[i].1,bA tr[i].2,T]):=λo=>by rw[aC<|aP a8 u];exact a8
  exists ts[i],_,rfl,SqT.of<|ai _,rfl,_,_,rfl,_,_,rfl,_,_,rfl,rfl;exists _,rfl,_,rfl,_,Sum.inr tr[i].1,rfl,zb1,?_,⟨_,_,_,rfl⟩
  .unfold cM;rw[aK,eM];exact bG (by lia)
  .rw[gF,OP ok ab];rfl
 .refine .inl ⟨⟨_,SqT.of<|L _,by rw[aK];lia⟩,?_⟩;have e:i=↑tr:=by lia
  rw[e,gA<|aW _];refine⟨_,rfl,by show 1<=sizeLine;decide,λd r=>?_⟩;have X:D≠d:=λz=>by rw[<-z,zb1]at r;cases r
  have ao:H d=none:=by rw[aC<|bK X]at r;exact r
  refine LZ (λσ j=>∃(dn rs:List Str)(x:Str),σ=[some<|.ref p,some<|.str n,some<|.ref D,some<|.ref d]/\j=upd (upd H D<|.dK<|cM tr) d (.lst<|(dn++[x]).map V.str)/\Up tr x rs/\dn++rs=l/\↑dn<=12)
   (λσ j=>match j d with | some (.lst xs)=>100-↑xs | _=>0) ⟨[],l,n,rfl,rfl,N,rfl,by decide⟩ ?_ ?_
  .rintro σ j ⟨dn,rs,x,rfl,rfl,hx,hl,hd⟩;have J:∀o,upd (upd H D<|.dK<|cM tr) d o D=some (.dK<|cM tr):=λo=>by rw[aC X];exact zb1
   have an:∀o,upd (upd H D<|.dK<|cM tr) d o d=some o:=λo=>zb1;have O:∀y:Str,↑((dn++[y]).map V.str)=↑dn+1:=λy=>by simp
   cases hx with
   | @root i _ hi=>
    exists _,rfl,_,rfl,_,rfl,d,_,_,_,rfl,rfl,SqL.of zb1,JM dn x,D,V.non,rfl,?_,_,rfl
    .have:=DGet.k (k:=(Sum.inr x:aF))<|J<|.lst<|(dn++[x]).map V.str;rw[uI ok hi]at this;exact this
    .show if (!decide (V.non=V.non))=true then _ else _
     rw[aZ<|by simp];refine⟨_,rfl,_,rfl,rfl,d,_,rfl,SqL.of zb1,λp2 ac=>?_⟩;have W:FrS [] H (upd (upd H D<|.dK<|cM tr) d<|.lst<|(dn++[x]).map V.str):=(FrS.new u).trans<|FrS.new r;refine⟨p2,_,rfl,.inl ⟨SqL.of zb1,λp3 aa=>?_⟩⟩;refine q p3 _ ((W.trans<|FrS.new ac).trans<|FrS.new aa) ?_ ?_
     .exact nX (W.trans<|FrS.new ac) aa
     .rw[zb1,<-hl,List.map_reverse]
   | @step i _ e l' hi hb=>
    exists _,rfl,_,rfl,_,rfl,d,_,_,_,rfl,rfl,SqL.of zb1,JM dn x,D,V.str e,rfl,?_,_,rfl
    .have:=DGet.k (k:=(Sum.inr x:aF))<|J<|.lst<|(dn++[x]).map V.str;rw[uI ok hi]at this;exact this
    .show if (!decide (V.str e=V.non))=true then _ else _
     rw[bC<|by simp];exists _,rfl,.inl ⟨rfl,_,SqL.of zb1⟩,_,rfl,_,rfl,_,rfl,d,_,_,_,rfl,rfl,SqL.of zb1,JM dn x,D,V.str e,rfl,?_,d,_,_,rfl,rfl,zb1,?_,⟨dn++[x],l',e,rfl,?_,hb,by rw[<-hl];simp,?_⟩
     .have:=DGet.k (k:=(Sum.inr x:aF))<|J<|.lst<|(dn++[x]).map V.str;rw[uI ok hi]at this;exact this
     .rw[O];exact bG (by lia)
     .rw[gF,bN (l₁:=dn++[x])];rfl
     .have:=cF List.length hl;rw[bH,cJ]at this;rw[bH,dU];lia
     .show(match upd _ d _ d with | some (HO.lst xs)=>100-↑xs | _=>0)<(match upd _ d _ d with | some (HO.lst xs)=>100-↑xs | _=>0);rw[zb1,zb1];show 100-↑(((dn++[x]).map V.str)++[V.str e])<100-↑((dn++[x]).map V.str);rw[bH,O,dU];lia
  .intro σ j R R' hR hc;obtain⟨v1,h1,v2,h2,T,h3,p',xs,i',v',h4,h5,h6,h7,a',v8,h8,h9,c,ah,ae⟩:=hc;exact⟨v1,h1,v2,h2,T,h3,p',xs,i',v',h4,h5,h6,h7,a',v8,h8,h9,c,ah,hR _ _ ae⟩
def lJ(n:Str)(l:List Str):iN (.str n) (l.map V.str)=decide (n∈l):=by
 unfold iN
 induction l with
 | nil=>rfl
 | cons x r ih=>
  rw[fS,wT,ih];have e:kT (.str x) (.str n)=decide (x=n):=by
   first | rfl | simp[kT] | (unfold kT;by_cases h:x=n <;> simp[h])
  rw[e]
  by_cases h:x=n
  .subst h;simp
  .have h':¬n=x:=λz=>h z.symm;simp[h,h']
def jM(l:List Str):(l.map V.str).all kO=true:=by
 rw[List.all_map,wt3];intro x _;rfl
def FrS.put(f:FrS S H H')(h:H a=none):FrS S H (upd H' a o):=λb u n q=>by
 rw[aC<|aP q h];exact f b u n q
def FrS.put'(f:FrS S H H')(h:a∈S):FrS S H (upd H' a o):=f.trans<|FrS.chg h
def FrS.old(f:FrS S H H')(hs:∀b∈S,∃o,H' b=some o)(hp:H' p=none):H p=none:=by
 cases hz:H p with
 | none=>rfl
 | some o=>
  by_cases d:p∈S
  .obtain⟨u,a⟩:=hs p d;rw[hp]at a;cases a
  .have:=f p o d hz;rw[hp]at this;cases this
def xM(d:Nat->St->Hp->Prop)(h0:d 0 σ0 H0)(hl:∀i σ H,i<=↑xs->d i σ H->SqL K H a xs)(hs:∀i x σ H,xs[i]?=some x->d i σ H->g x σ H λσ2 H2=>tt σ2 H2 λb H3=>if b=true then te σ2 H3 λv f=>∃ys,f D=some (.lst ys)/\↑ys<sizeLine/\d (i+1) σ2 (upd f D<|.lst<|ys++[v]) else d (i+1) σ2 H3)(hd:∀σ H,d ↑xs σ H->Q H):oT (qR K a) g tt te D σ0 H0 Q:=by
 exists λi m σ H=>m=↑xs-i/\i<=↑xs/\d i σ H,⟨↑xs,by simp,bM _,h0⟩;rintro i m σ H ⟨rfl,hi,p⟩;have q:=hl i σ H hi p
 by_cases h:i<↑xs
 .refine .inr ⟨⟨xs,xs[i],q,by simp[h]⟩,d<|i+1,λσ' H' j=>⟨↑xs-(i+1),by lia,rfl,h,j⟩,λx H' y=>?_⟩;obtain⟨e,y⟩:=y;subst e;exact hs i x σ _ (y xs q) p
 .have e:i=↑xs:=by lia
  subst e;exact .inl ⟨⟨xs,q,aW _⟩,hd σ H p⟩
def FQ(a:Nat->St->Hp->Prop)(h0:a 0 σ0 H0)(hl:∀i σ H,i<=↑xs->a i σ H->ok H)(hs:∀i x σ H,xs[i]?=some x->a i σ H->g x σ H λσ2 H2=>tt σ2 H2 λb H3=>if b=true then te σ2 H3 λv d=>∃ys,d D=some (.lst ys)/\↑ys<sizeLine/\a (i+1) σ2 (upd d D<|.lst<|ys++[v]) else a (i+1) σ2 H3)(hd:∀σ H,a ↑xs σ H->Q H):oT (oG ok xs) g tt te D σ0 H0 Q:=by
 exists λi m σ H=>m=↑xs-i/\i<=↑xs/\a i σ H,⟨↑xs,by simp,bM _,h0⟩;rintro i m σ H ⟨rfl,hi,p⟩;have q:=hl i σ H hi p
 by_cases f:i<↑xs
 .refine .inr ⟨⟨q,f⟩,a<|i+1,λσ' H' h=>⟨↑xs-(i+1),by lia,rfl,f,h⟩,λx H' y=>?_⟩;obtain⟨e,y⟩:=y;subst e;exact hs i x σ _ y p
 .have e:i=↑xs:=by lia
  subst e;exact .inl ⟨⟨q,aW _⟩,hd σ H p⟩
def HY(a:Nat->St->Hp->Prop)(h0:a 0 σ0 H0)(hs:∀i σ H,i<n->a i σ H->g (.int<|lo+i) σ H λσ2 H2=>tt σ2 H2 λb H3=>if b=true then te σ2 H3 λv f=>∃ys,f D=some (.lst ys)/\↑ys<sizeLine/\a (i+1) σ2 (upd f D<|.lst<|ys++[v]) else a (i+1) σ2 H3)(hd:∀σ H,a n σ H->Q H):oT (vS lo n) g tt te D σ0 H0 Q:=by
 exists λi m σ H=>m=n-i/\i<=n/\a i σ H,⟨n,by simp,bM _,h0⟩;rintro i m σ H ⟨rfl,hi,p⟩
 by_cases d:i<n
 .refine .inr ⟨d,a<|i+1,λσ' H' h=>⟨n-(i+1),by lia,rfl,d,h⟩,λx H' y=>?_⟩;obtain⟨e,y⟩:=y;subst e y;exact hs i σ _ d p
 .have e:i=n:=by lia
  subst e;exact .inl ⟨aW _,hd σ H p⟩
def yQ{ok:Hp->Prop}{xs:List V}{g:TG}{tb:TS}{D:dB}{σ:St}{H:Hp}(a:Nat->St->Hp->Prop)(h0:a 0 σ H)(hl:∀i σ H,i<=↑xs->a i σ H->ok H)
  (hs:∀i x σ H,xs[i]?=some x->a i σ H->g x σ H λσ2 H2=>tb {D with nx:=a<|i+1,ct:=a<|i+1,bk:=D.nx} σ2 H2) (hd:∀σ H,a ↑xs σ H->D.nx σ H):
  ∃W:Nat->Nat->St->Hp->Prop,(∃m,W 0 m σ H)/\∀i m σ H,W i m σ H->
   ((oG ok xs).stop i H/\D.nx σ H)\/((oG ok xs).go i H/\∃N:St->Hp->Prop,(∀σ' H',N σ' H'->∃m',m'<m/\W (i+1) m' σ' H')/\∀x H',(oG ok xs).yld i H x H'->g x σ H' λσ2 H2=>tb {D with nx:=N,ct:=N,bk:=D.nx} σ2 H2):=by
 exists λi m σ H=>m=↑xs-i/\i<=↑xs/\a i σ H,⟨↑xs,by simp,bM _,h0⟩;rintro i m σ H ⟨rfl,hi,p⟩;have q:=hl i σ H hi p
 by_cases b:i<↑xs
 .refine .inr ⟨⟨q,b⟩,a<|i+1,λσ' H' d=>⟨↑xs-(i+1),by lia,rfl,b,d⟩,λx H' y=>?_⟩;obtain⟨e,y⟩:=y;subst e;exact hs i x σ _ y p
 .have e:i=↑xs:=by lia
  subst e;exact .inl ⟨⟨q,aW _⟩,hd σ H p⟩
theorem US{α:Type}[DecidableEq α]:∀(l U:List α),l.Nodup->(∀x∈l,x∈U)->↑l<=U.length
 | [],U,_,_=>bM _
 | x::l,U,h,hs=>by
  have a:x∈U:=hs x<|sI ..;have d:=ws9.mp h;have f:=US l (U.erase x) d.2 λy b=>(List.mem_erase_of_ne λe=>d.1<|by rw[<-e];exact b).mpr<|hs y<|iB _ b
  rw[List.length_erase_of_mem a]at f;have:=List.length_pos_of_mem a;show ↑l+1<=U.length;lia
def GY{κ:Type}[DecidableEq κ](kvs:List (κ×V))(k:κ)(v:V):((aO kvs k v).map (·.1)=kvs.map (·.1)/\k∈kvs.map (·.1))\/((aO kvs k v).map (·.1)=kvs.map (·.1)++[k]/\k∉kvs.map (·.1)):=by
 cases h:aG kvs k with
 | none=>exact .inr ⟨by rw[FS v h,bN];rfl,ES h⟩
 | some u=>
  refine .inl ⟨?_,EF h⟩;unfold aO;rw[oU,h];show(List.map _<|List.map _ kvs)=_;rw[kX];refine AS λx _=>?_;show(if x.1=k then(x.1,v) else x).1=x.1
  split <;> rfl
structure DOk(U N:List Str)(kvs:List (aF×V)):Prop where
 nd:(kvs.map (·.1)).Nodup
 ks:∀k∈kvs.map (·.1),∃x∈U,k=Sum.inr x
 vs:∀k v,aG kvs k=some v->v=.non\/∃n∈N,v=.str n
def DOk.nil:DOk U N []:=⟨lB,(λ_ h=>nomatch h),(λ_ _ h=>nomatch h)⟩
def DOk.put(h:DOk U N kvs)(d:x∈U)(f:v=.non\/∃n∈N,v=.str n):DOk U N (aO kvs (Sum.inr x) v):=by
 refine⟨?_,λk a=>?_,λk u b=>?_⟩
 .rcases GY kvs (Sum.inr x) v with ⟨e,_⟩ | ⟨e,hn⟩
  .rw[e];exact h.nd
  .rw[e];exact JT h.nd hn
 .rcases GY kvs (Sum.inr x) v with ⟨e,_⟩ | ⟨e,hn⟩
  .rw[e]at a;exact h.ks k a
  .rw[e]at a;rcases wr7.mp a with a | a
   .exact h.ks k a
   .exact⟨x,d,wq1.mp a⟩
 .rw[jI]at b
  by_cases e:k=Sum.inr x
  .rw[bC e]at b;cases b;exact f
  .rw[aZ e]at b;exact h.vs k u b
def DOk.len(h:DOk U N kvs):↑kvs<=U.length:=by
 have:=US (kvs.map (·.1)) (U.map λx=>(Sum.inr x:aF)) h.nd λk b=>by
  obtain⟨x,a,e⟩:=h.ks k b;exact wr2.mpr ⟨x,a,e.symm⟩
 rwa [aK,aK]at this
def DOk.get(h:DOk U N kvs)(k:aF):(aG kvs k).getD .non=.non\/∃n∈N,(aG kvs k).getD .non=.str n:=by
 cases e:aG kvs k with
 | none=>exact .inl rfl
 | some v=>exact h.vs k v e
structure WA where
 (tree late deeds wants owners vars params fields told held roots:Addr)
structure WD where
 tr:Tr
 (late deeds vars params fields:List Str)
 wants:List (List aF×V)
 (owners roots:List (aF×V))
 own:Str->List Str
def WD.names(D:WD):List Str:=D.tr.map (·.1)
def WD.U(D:WD):List Str:="own"::(D.vars++D.params)
def Stt(M:List Addr)(H:Hp)(a:Addr)(o:HO):Prop:=a∉M/\H a=some o
def Stt.keep(h:Stt M H a o)(f:FrS M H H'):Stt M H' a o:=⟨h.1,f a o h.1 h.2⟩
def Stt.sub(h:Stt M H a o)(hs:∀b∈M',b∈M):Stt M' H a o:=⟨λz=>h.1<|hs a z,h.2⟩
def TrOk.elder(h:TrOk tr)(b:x∈tr)(e:x.2=some y):y∈tr.map (·.1):=by
 obtain⟨n,g⟩:=x;have e:g=some y:=e;subst e;obtain⟨i,hi⟩:=wt5.mp b;obtain⟨j,_,g,a⟩:=h.up i n y hi;exact wr2.mpr ⟨(y,g),cU a,rfl⟩
def yS(tr:Tr)(late:List Str):Prop:=∀x∈tr,∀e,x.2=some e->e∈late->x.1∈late
structure AX(D:WD):Prop where
 ok:TrOk D.tr
 lnm:∀x∈D.late,x∈D.names
 l1:D.tr≠[]
 l12:D.tr.length<=12
 lateIn:yS D.tr D.late
 lateLen:D.late.length<=12
 soon:∃x∈D.names,x∉D.late
 d1:D.deeds≠[]
 d6:D.deeds.length<=6
 v4:D.vars.length=4
 p4:D.params.length=4
 f3:D.fields.length=3
structure Wld(M:List Addr)(H:Hp)(wd:Addr)(A:WA)(D:WD):Prop where
 k:∃kvs,Stt M H wd (.dK kvs)/\aG kvs (Sum.inr "tree")=some (.ref A.tree)/\aG kvs (Sum.inr "late")=some (.ref A.late)/\aG kvs (Sum.inr "deeds")=some (.ref A.deeds)/\aG kvs (Sum.inr "wants")=some (.ref A.wants)/\
  aG kvs (Sum.inr "owners")=some (.ref A.owners)/\aG kvs (Sum.inr "vars")=some (.ref A.vars)/\aG kvs (Sum.inr "params")=some (.ref A.params)/\aG kvs (Sum.inr "fields")=some (.ref A.fields)/\
  aG kvs (Sum.inr "told")=some (.ref A.told)/\aG kvs (Sum.inr "held")=some (.ref A.held)/\aG kvs (Sum.inr "roots")=some (.ref A.roots)
 tree:∃ts:List Addr,Stt M H A.tree (.lst<|ts.map V.ref)/\↑ts=D.tr.length/\∀(j:Nat) t x,ts[j]?=some t->D.tr[j]?=some x->Stt M H t (.tup [.str x.1,bA x.2])
 late:Stt M H A.late (.lst<|D.late.map V.str)
 deeds:Stt M H A.deeds (.lst<|D.deeds.map V.str)
 vars:Stt M H A.vars (.lst<|D.vars.map V.str)
 params:Stt M H A.params (.lst<|D.params.map V.str)
 fields:Stt M H A.fields (.lst<|D.fields.map V.str)
 wants:Stt M H A.wants (.dT D.wants)
 owners:Stt M H A.owners (.dK D.owners)
 roots:Stt M H A.roots (.dK D.roots)
 wl:∀n∈D.names,∀d∈D.deeds,∃(r:Str)(p:Addr)(ws:List Str),aG D.roots (Sum.inr n)=some (.str r)/\aG D.wants [Sum.inr r,Sum.inr d]=some (.ref p)/\Stt M H p (.lst<|ws.map V.str)/\↑ws<=4/\∀x∈ws,x∈D.names
 ol:∀d∈D.deeds,∃p:Addr,aG D.owners (Sum.inr d)=some (.ref p)/\Stt M H p (.lst<|(D.own d).map V.str)/\(∀x∈D.own d,x∈D.names)/\↑(D.own d)<=13
def Wld.map{A:WA}(h:Wld M H wd A D)(f:∀a o,Stt M H a o->Stt M' H' a o):Wld M' H' wd A D:=by
 obtain⟨⟨kvs,m,C⟩,⟨ts,E,w,B⟩,h1,h2,I,J,l,i,s,q,u,G⟩:=h;refine⟨⟨kvs,f _ _ m,C⟩,⟨ts,f _ _ E,w,λj t x a b=>f _ _<|B j t x a b⟩,f _ _ h1,f _ _ h2,f _ _ I,f _ _ J,f _ _ l,f _ _ i,f _ _ s,f _ _ q,λn z d hd=>?_,λd hd=>?_⟩
 .obtain⟨r,p,ws,a,b,c,e⟩:=u n z d hd;exact⟨r,p,ws,a,b,f _ _ c,e⟩
 .obtain⟨p,a,b,c⟩:=G d hd;exact⟨p,a,f _ _ b,c⟩
theorem Wld.keep{A:WA}(h:Wld M H wd A D)(f:FrS M H H'):Wld M H' wd A D:=h.map λ_ _ x=>x.keep f
theorem Wld.g{A:WA}(h:Wld M H wd A D):DGet H wd (.str "tree") (some<|.ref A.tree)/\DGet H wd (.str "late") (some<|.ref A.late)/\DGet H wd (.str "deeds") (some<|.ref A.deeds)/\DGet H wd (.str "wants") (some<|.ref A.wants)/\
  DGet H wd (.str "owners") (some<|.ref A.owners)/\DGet H wd (.str "vars") (some<|.ref A.vars)/\DGet H wd (.str "params") (some<|.ref A.params)/\DGet H wd (.str "fields") (some<|.ref A.fields)/\DGet H wd (.str "told") (some<|.ref A.told)/\DGet H wd (.str "held") (some<|.ref A.held)/\DGet H wd (.str "roots") (some<|.ref A.roots):=by
 obtain⟨kvs,⟨_,e⟩,l,i,b,o,a,k6,d,j,n,f,m⟩:=h.k;have g:∀(x:Str)(v:V),aG kvs (Sum.inr x)=some v->DGet H wd (.str x) (some v):=λx v q=>.inl ⟨kvs,Sum.inr x,.inl e,rfl,q.symm⟩;exact⟨g _ _ l,g _ _ i,g _ _ b,g _ _ o,g _ _ a,g _ _ k6,g _ _ d,g _ _ j,g _ _ n,g _ _ f,g _ _ m⟩
abbrev GL:Stmt:=top 55
abbrev rC:Stmt:=top 56
def NL(ok:TrOk tr):cO [] (cM tr)=cM tr:=by
 have a:∀i,i<=↑tr->cO [] ((cM tr).take i)=cM (tr.take i):=by
  intro i
  induction i with
  | zero=>intro _;rfl
  | succ i ih=>
   intro hi;have b:tr[i]?=some tr[i]:=bF (by lia);have d:(cM tr)[i]?=some (Sum.inr tr[i].1,bA tr[i].2):=by unfold cM;rw[bO,b];rfl
   rw[UA d,ih (by lia),OP ok (e:=tr[i].2) (n:=tr[i].1) b]
 have hl:↑(cM tr)=↑tr:=by unfold cM;rw[aK]
 have:=a ↑tr (aW _);rwa [gA (by lia),gA<|aW _]at this
inductive QU(vs:List V)(H:Hp)(Q:VK):Prop
 | mk(wd:Addr)(M:List Addr)(A:WA)(D:WD)(n:Str)(l:List Str)(h1:vs=[.ref wd,.str n])(h2:Wld M H wd A D)(h3:AX D)(h4:Up D.tr n l)(h5:∀(a:Addr)(H':Hp),FrS [] H H'->H a=none->H' a=some (.lst<|l.map V.str)->Q (.ref a) H'):QU  vs H Q
def BE:Sp:=λvs H Q _=>QU  vs H Q
def yt2:bZ [qW,"_law_kind","_law_up","_law_line_here"] qG (bR GL):=cC
def WF(F:Fun K "_law_line" "_law_line" GL f fd)(a9:mg "dict"=none):aR P w K mg base bQ (k+1) f fd qG BE:=by
 refine F.ok yt2 (λvs H Q E h=>?_) λad A outer s H vs Q E hr h=>?_
 .obtain⟨wd,M,A,D,n,l,rfl,_⟩:=h;rfl
 obtain⟨wd,M,WA,D,n,l,rfl,N,m,C,q⟩:=h;have T:=eC hr;exists _,aL (sL 2 yt2.nd<|dS (BS rfl) rfl a9 (by rfl')<|aA (bT T (pv 0) bD λ_ _=>rfl) aE)
  (aL (sL 3 yt2.nd<|cG aE)<|aL (EN dJ (iL<|tH<|pv 1)<|aL (dQ<|eP eE fI fJ fG (pv 3)<|aA (pv 1) aE)<|aQ<|sL 1 yt2.nd<|bT T (pv 2) (pv 1) λ_ _=>rfl)<|aQ<|bS<|pv 3)
 ac_rfl
 obtain⟨ts,t1,t2,t3⟩:=N.tree;have L:↑(cM D.tr)=D.tr.length:=by unfold cM;rw[aK]
 have ac:=m.l12;refine⟨_,rfl,wd,_,rfl,N.g.1,WA.tree,ts,cM D.tr,rfl,SqL.of t1.2,by rw[L];exact t2,by rw[L];exact bG (by lia),λj t d ht I=>?_,λb ab=>?_⟩
 .unfold cM at I;rw[bO]at I;obtain⟨x,u,rfl⟩:=wq8.mp I;exact SqT.of (t3 j t x ht u).2
 rw[NL m.ok];refine⟨bM _,λa B=>?_⟩;have X:b≠a:=λz=>by rw[<-z,zb1]at B;cases B
 have O:H a=none:=by rw[aC<|bK X]at B;exact B
 refine LZ (λσ r=>∃(dn:List Str)(d:V),σ=[some<|.ref wd,some d,some<|.ref b,some<|.ref a]/\r=upd (upd H b<|.dK<|cM D.tr) a (.lst<|dn.map V.str)/\↑dn<=12/\((d=.non/\dn=l)\/∃x rs,d=.str x/\Up D.tr x rs/\dn++rs=l))
  (λσ r=>match r a with | some (.lst xs)=>100-↑xs | _=>0) ⟨[],.str n,rfl,rfl,by decide,.inr ⟨n,l,rfl,C,rfl⟩⟩ ?_ ?_
 .rintro σ r ⟨dn,d,rfl,rfl,hd,G⟩;have Y:∀o,upd (upd H b<|.dK<|cM D.tr) a o b=some (.dK<|cM D.tr):=λo=>by rw[aC X];exact zb1
  rcases G with ⟨rfl,rfl⟩ | ⟨x,rs,rfl,u,hl⟩
  .exists _,rfl,_,rfl;show if (!decide (V.non=V.non))=true then _ else _
   rw[aZ<|by trivial];exact⟨_,rfl,q a _ (((FrS.refl).put ab).put O) O zb1⟩
  .exists _,rfl,_,rfl;show if (!decide (V.str x=V.non))=true then _ else _
   rw[bC<|by trivial];have J:↑dn+1<=12:=by
    obtain⟨i,g,hi⟩:=C.at;have h1:=Up.len m.ok i n g l hi C;obtain⟨h2,_⟩:=zz2.mp hi;have h3:=cF List.length hl;rw[bH]at h3;have h4:1<=↑rs:=by cases u <;> simp
    lia
   exists _,rfl,.inl ⟨rfl,_,SqL.of zb1⟩,_,rfl,a,_,_,rfl,rfl,zb1,by rw[aK];exact bG (by lia),_,rfl,_,rfl;rw[gF];have W:(match upd (upd H b<|.dK<|cM D.tr) a (.lst<|dn.map V.str++[V.str x]) a with | some (HO.lst xs)=>100-↑xs | _=>0)<(match upd (upd H b<|.dK<|cM D.tr) a (.lst<|dn.map V.str) a with | some (HO.lst xs)=>100-↑xs | _=>0):=by
    rw[zb1,zb1];show 100-↑(dn.map V.str++[V.str x])<100-↑(dn.map V.str);rw[bH,aK,dU];lia
   have Z:dn.map V.str++[V.str x]=(dn++[x]).map V.str:=by rw[bN];rfl
   cases u with
   | @root i _ hi=>
    refine⟨b,.non,rfl,?_,⟨dn++[x],.non,rfl,by rw[Z],by rw[bH,dU];exact J,.inl ⟨rfl,hl⟩⟩,W⟩;have:=DGet.k (k:=(Sum.inr x:aF))<|Y<|.lst<|dn.map V.str++[V.str x];rw[uI m.ok hi]at this;exact this
   | @step i _ e l' hi hb=>
    refine⟨b,.str e,rfl,?_,⟨dn++[x],.str e,rfl,by rw[Z],by rw[bH,dU];exact J,.inr ⟨e,l',rfl,hb,by rw[<-hl];simp⟩⟩,W⟩;have:=DGet.k (k:=(Sum.inr x:aF))<|Y<|.lst<|dn.map V.str++[V.str x];rw[uI m.ok hi]at this;exact this
 .intro σ r R R' hR G;obtain⟨v1,h1,c,aa,a8⟩:=G;exact⟨v1,h1,c,aa,hR _ _ a8⟩
def MN(D:WD)(k d:Str):Prop:=k∈D.names/\d∈D.deeds/\∃n l,Up D.tr k l/\n∈l/\n∈D.own d
def eV(D:WD)(k:Str):Option Str->Prop
 | some d=>MN D k d
 | none=>k∈D.names
inductive pD(vs:List V)(H:Hp)(Q:VK):Prop
 | mk(wd:Addr)(M:List Addr)(A:WA)(D:WD)(n d:Str)(h1:vs=[.ref wd,.str n,.str d])(h2:Wld M H wd A D)(h3:AX D)(h4:n∈D.names)(h5:d∈D.deeds)(h6:∀(b:Bool)(H':Hp),FrS [] H H'->(b=true->MN D n d)->Q (.bl b) H'):pD  vs H Q
def IF:Sp:=λvs H Q _=>pD  vs H Q
def BC:bZ qE qE (bR rC):=cC
def HW(a:AX D)(f:n∈D.names):∃l,Up D.tr n l/\↑l<=12/\∀x∈l,x∈D.names:=by
 obtain⟨z,hz,e⟩:=wr2.mp f;obtain⟨i,hi,d⟩:=mW hz;have b:D.tr[i]?=some (n,z.2):=by rw[bF hi,d,<-e]
 obtain⟨l,hl⟩:=Up.exists a.ok i n z.2 b;have:=Up.len a.ok i n z.2 l b hl;have:=a.l12;exact⟨l,hl,by lia,hl.mem⟩
def pZ(F:Fun K "_law_has" "_law_has" rC f fd)(T:aS P w K mg base k "_law_line" qG BE)(ma:mg "any"=none):aR P w K mg base bQ (k+1) f fd qE IF:=by
 refine F.ok BC (λvs H Q E h=>?_) λab A outer s H vs Q E hr h=>?_
 .obtain⟨wd,M,A,D,n,d,rfl,_⟩:=h;rfl
 obtain⟨wd,M,WA,D,n,d,rfl,o,J,z,hd,q⟩:=h;have L:=eC hr;have W:(["_law_one",qW,"_law_deed_here"]:List Str).Nodup:=by rfl'
 exists _,aQ (bS (eA (ZK rfl) rfl ma (by rfl') (aA (iE (N':=["_law_one",qW,"_law_deed_here"]) (src:=[none,some 0,some 2]) rfl eS
   (hZ<|bB T hr rfl<|aA (pv 0)<|aA (pv 1) aE)
   (g:=bW 0) (λ_ _ _ _=>gL 0 W) (λ_ _ _ _=>gO)
   (λ_ _ _ _=>pS (show cZ _ _ (hV K false) from uE) (pv 0) (bT L (bT L (pv 1) bD λ_ _=>rfl) (pv 2) λ_ _=>rfl) rfl)) aE)))
 ac_rfl
 obtain⟨l,hl,a7,ac⟩:=HW J z;obtain⟨X,o1,o2,o3,o4⟩:=o.ol d hd;refine⟨_,rfl,_,rfl,wd,M,WA,D,n,l,rfl,o,J,hl,λla H1 u ad C=>⟨la,rfl,⟨_,SqL.of C⟩,λI N=>?_⟩⟩;refine xM (xs:=l.map V.str) (λi σ a=>(∃x,σ=[x,some<|.ref wd,some<|.str d])/\FrS [] H1 a/\∃bs:List Bool,bs=(l.take i).map (λx=>iN (.str x)<|(D.own d).map V.str)/\a I=some (.lst<|bs.map V.bl)) ⟨⟨_,rfl⟩,(FrS.refl).put N,[],rfl,zb1⟩ ?_ ?_ ?_
 .rintro i σ a hi ⟨_,fr,_⟩;exact SqL.of<|fr _ _ (by trivial) C
 .rintro i x σ a e ⟨⟨x0,rfl⟩,fr,bs,j,r⟩;obtain⟨hi,_⟩:=zz2.mp e;rw[aK]at hi;rw[bO,bF hi]at e;cases e;have B:FrS M H a:=(u.trans fr).mono (by trivial);have G:=o.keep B;have Z:=o2.keep B;exists _,rfl,_,rfl,wd,_,rfl,G.g.2.2.2.2.1,_,rfl,WA.owners,_,rfl,.inl ⟨_,Sum.inr d,.inl G.owners.2,rfl,o1.symm⟩,X,_,rfl,.inl<|SqL.of Z.2,rfl,jM _,_,r,?_,⟨_,rfl⟩,fr.put N,bs++[iN (.str l[i])<|(D.own d).map V.str],?_
  .rw[aK,j,aK,eM];exact bG (by lia)
  .rw[j,fW,bF hi,bN];rfl
  .rw[zb1,bN];rfl
 .rintro σ a ⟨_,fr,bs,j,r⟩;refine⟨I,bs,rfl,SqL.of r,q _ a (u.trans fr) λO=>⟨z,hd,?_⟩⟩;rw[aK,gA<|aW _]at j;subst j;obtain⟨b,Y,m⟩:=vh8.mp O;obtain⟨x,e,rfl⟩:=wr2.mp Y;exists x,l,hl,e;have m:iN (.str x) ((D.own d).map V.str)=true:=m;rw[lJ]at m;simpa using m
abbrev Ms(hd en:Addr)(A:WA):List Addr:=[hd,en,A.told,A.held]
structure Sit(H:Hp)(hd en wd:Addr)(A:WA)(D:WD)(t r:Int):Prop where
 hand:∃d m,Hand H hd d m t r
 env:∃kv,H en=some (.dK kv)/\DOk D.U D.names kv
 told:∃kv,H A.told=some (.dK kv)/\DOk D.deeds D.names kv
 held:∃kv,H A.held=some (.dK kv)/\DOk D.fields D.names kv
 w:Wld (Ms hd en A) H wd A D
 nd:(Ms hd en A).Nodup
 ok:AX D
section
variable{H H':Hp}{hd en wd:Addr}{A:WA}{D:WD}{t r:Int}
def Sit.fr0(S:Sit H hd en wd A D t r)(f:FrS [] H H'):Sit H' hd en wd A D t r:=by
 obtain⟨⟨d,m,h1,a⟩,⟨l,b,j⟩,⟨i,q,n⟩,⟨e,o,h⟩,w,nd,ok⟩:=S;exact⟨⟨d,m,f _ _ (by trivial) h1,a⟩,⟨l,f _ _ (by trivial) b,j⟩,⟨i,f _ _ (by trivial) q,n⟩,⟨e,f _ _ (by trivial) o,h⟩,w.keep (f.mono<|by trivial),nd,ok⟩
def Sit.ne(S:Sit H hd en wd A D t r):hd≠en/\hd≠A.told/\hd≠A.held/\en≠A.told/\en≠A.held/\A.told≠A.held:=by
 have:=S.nd;simp only[Ms,ws9,wp9,aV,cY,fQ]at this;exact⟨this.1.1,this.1.2.1,this.1.2.2,this.2.1.1,this.2.1.2,this.2.2.1⟩
def Sit.setHand(S:Sit H hd en wd A D t r)(ok:oV d' m' t'):Sit (upd H hd<|hl d' m' t' r') hd en wd A D t' r':=by
 obtain⟨h,u,l,x,B,z⟩:=S.ne;obtain⟨⟨d,m,h1⟩,⟨n,b,j⟩,⟨i,s,o⟩,⟨e,q,a⟩,w,nd,f⟩:=S;exact⟨⟨d',m',Hand.at ok⟩,⟨n,by rw[aC h.symm];exact b,j⟩,⟨i,by rw[aC u.symm];exact s,o⟩,⟨e,by rw[aC l.symm];exact q,a⟩,w.keep (FrS.chg<|by trivial),nd,f⟩
def Sit.setEnv(S:Sit H hd en wd A D t r)(h:DOk D.U D.names kv):Sit (upd H en<|.dK kv) hd en wd A D t r:=by
 obtain⟨i,E,x,b,s,B⟩:=S.ne;obtain⟨⟨d,m,h1,l⟩,⟨z,u,C⟩,⟨j,q,n⟩,⟨e,o,a⟩,w,nd,f⟩:=S;exact⟨⟨d,m,by rw[aC i];exact h1,l⟩,⟨kv,zb1,h⟩,⟨j,by rw[aC b.symm];exact q,n⟩,⟨e,by rw[aC s.symm];exact o,a⟩,w.keep (FrS.chg<|by trivial),nd,f⟩
def Sit.setTold(S:Sit H hd en wd A D t r)(h:DOk D.deeds D.names kv):Sit (upd H A.told<|.dK kv) hd en wd A D t r:=by
 obtain⟨u,s,z,b,C,q⟩:=S.ne;obtain⟨⟨d,m,h1,a⟩,⟨l,e,j⟩,⟨x,B,E⟩,⟨f,n,i⟩,w,nd,o⟩:=S;exact⟨⟨d,m,by rw[aC s];exact h1,a⟩,⟨l,by rw[aC b];exact e,j⟩,⟨kv,zb1,h⟩,⟨f,by rw[aC q.symm];exact n,i⟩,w.keep (FrS.chg<|by trivial),nd,o⟩
def Sit.setHeld(S:Sit H hd en wd A D t r)(h:DOk D.fields D.names kv):Sit (upd H A.held<|.dK kv) hd en wd A D t r:=by
 obtain⟨z,E,j,u,s,o⟩:=S.ne;obtain⟨⟨d,m,h1,a⟩,⟨l,b,i⟩,⟨f,q,n⟩,⟨x,B,C⟩,w,nd,e⟩:=S;exact⟨⟨d,m,by rw[aC j];exact h1,a⟩,⟨l,by rw[aC s];exact b,i⟩,⟨f,by rw[aC o];exact q,n⟩,⟨kv,zb1,h⟩,w.keep (FrS.chg<|by trivial),nd,e⟩
def Sit.have_(S:Sit H hd en wd A D t r):∀b∈Ms hd en A,∃o,H b=some o:=by
 obtain⟨⟨d,m,h1,q⟩,⟨s,e,x⟩,⟨n,h,u⟩,⟨j,f,i⟩,w,nd,l⟩:=S;intro b a;simp only[Ms,wp9,aV,cY]at a;rcases a with rfl | rfl | rfl | rfl
 .exact⟨_,h1⟩
 .exact⟨_,e⟩
 .exact⟨_,h⟩
 .exact⟨_,f⟩
def Sit.notin(S:Sit H hd en wd A D t r)(hp:H p=none):p∉Ms hd en A:=λz=>by
 obtain⟨o,a⟩:=S.have_ p z;rw[hp]at a;cases a
def iH{p a:Addr}{ss:List Str}{d m t r:Int}(h:H p=some (.lst<|ss.map V.str))(b:Hand H a d m t r):p≠a:=λe=>by
 subst e;rw[b.1]at h;cases ss with
 | nil=>cases h
 | cons x l=>cases h
def FrS.thaw(d:H a=Option.some u)(f:FrS [] (upd H a<|.frz o u) Hx):FrS [] H (upd Hx a u):=λb v n q=>by
 by_cases e:b=a
 .subst e;rw[zb1];rw[d]at q;exact q
 .rw[aC e];exact f b v n (by rw[aC e];exact q)
def DOk.strs(h:DOk U N kvs):∃ss:List Str,kvs.map (λb=>kV b.1)=ss.map V.str/\↑ss=↑kvs/\∀x∈ss,x∈U:=by
 have d:∀l:List (aF×V),(∀k∈l.map (·.1),∃x∈U,k=Sum.inr x)->∃ss:List Str,l.map (λb=>kV b.1)=ss.map V.str/\↑ss=↑l/\∀x∈ss,x∈U:=by
  intro l
  induction l with
  | nil=>intro _;exact⟨[],rfl,rfl,by simp⟩
  | cons a l ih=>
   intro i;obtain⟨ss,e,j,m⟩:=ih λk o=>i k<|iB _ o;obtain⟨x,n,ex⟩:=i a.1 (by trivial);exists x::ss,?_,by simp[j]
   .rw[fS,fS,e,ex];rfl
   .intro y f;rcases wp9.mp f with rfl | f
    .exact n
    .exact m y f
 exact d kvs h.ks
end
abbrev tY:Stmt:=top 57
abbrev sS:Stmt:=top 58
abbrev HV:Stmt:=top 59
inductive pJ(vs:List V)(H:Hp)(Q:VK):Prop
 | mk(hd en wd:Addr)(A:WA)(D:WD)(t r:Int)(h1:vs=[.ref hd,.ref wd,.ref en])(h2:Sit H hd en wd A D t r)(h3:t+2<1000000)(h4:∀(x:Str)(H':Hp)(t':Int),Sit H' hd en wd A D t' r->FrS (Ms hd en A) H H'->t'<=t+2->FrS [hd] H H'->Q (.str x) H'):pJ  vs H Q
def nR:Sp:=λvs H Q _=>pJ  vs H Q
def scVar:bZ [qH,qW,"_law_env","_law_some"] qA (bR tY):=cC
def rS{k:Nat}(F:Fun K "_law_variable" "_law_variable" tY f fd)(T:aS P w K mg base k "_law_take" qB gG)(O:aS P w K mg base k "_law_of" qC (cP K))(ai:mg "list"=none):
  aR P w K mg base bQ (k+1) f fd qA nR:=by
 refine F.ok scVar (λvs H Q E h=>?_) λan A outer s H vs Q E hr h=>?_
 .obtain⟨hd,en,wd,A,D,t,r,rfl,_⟩:=h;rfl
 obtain⟨hd,en,wd,WA,D,t,r,rfl,S,ht,q⟩:=h;have hu:=eC hr;have ak:(["_law_x","_law_env"]:List Str).Nodup:=by rfl'
 exists _,aL (PU<|pY (i:=3) (N':=["_law_x","_law_env"]) (src:=[none,some 2]) rfl scVar.nd rfl rfl eS (FL<|pv 2) (g:=bW 0) (λ_ _ _ _=>gL 0 ak) (λ_ _ _ _=>sR<|iL<|tH<|bT hu (pv 1) (pv 0) λ_ _=>rfl) λ_ _ _ _=>pv 0)
  (aL (cL (PW.pt<|kJ (bY (AB<|mF hu) (pv 3) (cG aE)<|cE _)<|mU<|bY lS (bB T hr rfl<|aA (pv 0)<|aA aN aE) aN<|cE _) (aQ<|bS<|bB O hr rfl<|aA (pv 0)<|aA (pv 3) aE) dD)<|aQ<|bS<|bB O hr rfl<|aA (pv 0)<|aA (cA wE (bT hu (pv 1) bD λ_ _=>rfl)<|dS (ZI rfl) rfl ai (by rfl')<|aA (pv 2) aE) aE)
 ac_rfl
 obtain⟨b,a7,hk⟩:=S.env;have hU:D.U.length=9:=by unfold WD.U;rw[cJ,bH,S.ok.v4,S.ok.p4]
 have ao:=hk.len;obtain⟨us,eu,ap,_⟩:=hk.strs;exists en,b,a7;refine⟨_,rfl,en,b,rfl,a7,λo n I=>?_⟩;have af:n≠en:=λz=>by rw[z,zb1]at I;cases I
 have aq:H n=none:=by rw[aC af]at I;exact I
 refine FQ (xs:=b.map λp=>kV p.1) (λi σ u=>(∃x,σ=[x,some<|.ref en])/\FrS [] (upd H en<|.frz o<|.dK b) u/\∃ss:List Str,↑ss<=i/\u n=some (.lst<|ss.map V.str)) ⟨⟨_,rfl⟩,(FrS.refl).put I,[],by simp,zb1⟩ ?_ ?_ ?_
 .rintro i σ u hi ⟨_,fr,_⟩;exact fr _ _ (by trivial) zb1
 .rintro i x σ u j ⟨⟨x0,rfl⟩,fr,ss,hs,W⟩;have aa:=j;rw[eu]at j;obtain⟨hi,_⟩:=zz2.mp j;rw[aK]at hi;rw[bO,bF hi]at j;cases j;have ag:(Sum.inr us[i]:aF)∈b.map (·.1):=by
   rw[bO]at aa;obtain⟨p,hp,e⟩:=wq8.mp aa;have:p.1=Sum.inr us[i]:=by
    obtain⟨y,_,ey⟩:=hk.ks p.1<|wr2.mpr ⟨p,cU hp,rfl⟩;rw[ey]at e ⊢;cases e;rfl
   exact wr2.mpr ⟨p,cU hp,this⟩
  obtain⟨v,hv⟩:∃v,aG b (Sum.inr us[i])=some v:=by
   cases z:aG b (Sum.inr us[i])with
   | some v=>exact⟨v,rfl⟩
   | none=>exact absurd ag<|ES z
  exists _,rfl,_,rfl,en,v,rfl,.inl ⟨b,Sum.inr us[i],.inr ⟨o,fr _ _ (by trivial) zb1⟩,rfl,hv.symm⟩,_,rfl;refine bI (λc=>?_) λc=>?_
  .exists _,rfl,_,W,by rw[aK];exact bG (by lia),⟨_,rfl⟩,fr.put I,ss++[us[i]],?_
   .rw[bH,dU];lia
   .rw[zb1,bN];rfl
  .exact⟨⟨_,rfl⟩,fr,ss,by lia,W⟩
 .rintro σ u ⟨_,fr,ss,hs,W⟩;rw[aK]at hs;exists o,fr _ _ (by trivial) zb1;have L:FrS [] H (upd u en<|.dK b):=FrS.thaw a7 fr;have S1:=S.fr0 L;have J:upd u en (.dK b) n=some (.lst<|ss.map V.str):=by rw[aC af];exact W
  generalize upd u en (.dK b)=H1 at L S1 J;have a1:∀(H2:Hp)(Y:Int),Sit H2 hd en wd WA D Y r->FrS (Ms hd en WA) H H2->FrS [hd] H H2->Y<=t+1->
    hC (fL (cP K) [] E<|aY (aI 0)<|aY (dC yI (nS (aI 1)<|tC<|.str "vars")<|lN (λxs H Q=>∃p kvs,xs=[.ref p]/\Rd H p (.dK kvs)/\∀l,H l=none->Q (.ref l) (upd H l<|.lst<|kvs.map λb=>kV b.1))<|aY (aI 2) aX) aX) ⟨λ_ H=>Q .non H,Q,λ_ _=>False,λ_ _=>False⟩ [some<|.ref hd,some<|.ref wd,some<|.ref en,some<|.ref n] H2:=by
   intro H2 Y B X M am;obtain⟨a8,a9,ad⟩:=B.env;obtain⟨aj,ae,ah,_⟩:=ad.strs;have al:=ad.len;refine⟨_,rfl,_,rfl,wd,_,rfl,B.w.g.2.2.2.2.2.1,_,rfl,en,a8,rfl,.inl a9,λl hl=>?_⟩;have G:=B.fr0<|FrS.new (S:=[]) (o:=.lst<|a8.map λb=>kV b.1) hl;refine⟨WA.vars,l,_,_,rfl,rfl,G.w.vars.2,zb1,?_,λp hp=>?_⟩
   .rw[aK,aK,S.ok.v4];exact cN (bG<|by lia)
   .have S4:=G.fr0<|FrS.new (S:=[]) (o:=.lst<|D.vars.map V.str++a8.map λb=>kV b.1) hp;rw[ae,<-bN]at S4 ⊢;rw[ae]at hp;obtain⟨d,m,C⟩:=S4.hand;refine⟨hd,p,d,m,Y,r,_,rfl,C,by lia,iH (ss:=D.vars++aj) zb1 C,SqL.of zb1,?_,?_,λx d' m' t' j c e=>?_⟩
    .intro z;have:=cF List.length z;rw[aK,bH,S.ok.v4,jB]at this;lia
    .rw[aK,bH,S.ok.v4];lia
    obtain⟨y,hy,rfl⟩:=wr2.mp j;refine q y _ t' (S4.setHand c) ?_ (by lia) ?_
    .exact(X.trans<|(FrS.new hl).trans<|FrS.new hp).put' (by trivial)
    .exact(M.trans<|(FrS.new hl).trans<|FrS.new hp).put' (by trivial)
  refine⟨_,rfl,bM _,λpe Z=>?_⟩;have B:=S1.fr0<|FrS.new (S:=[]) (o:=.lst []) Z;have a4:n≠pe:=aP J Z;exists n,pe,_,rfl,rfl,a4,SqL.of (by rw[aC a4];exact J),SqL.of zb1,_,rfl;have X:FrS (Ms hd en WA) H (upd H1 pe<|.lst []):=(L.trans<|FrS.new Z).mono (by trivial);have M:FrS [hd] H (upd H1 pe<|.lst []):=(L.trans<|FrS.new Z).mono (by trivial);cases ss with
  | nil=>exact a1 _ t B X M (by lia)
  | cons y ys=>
   obtain⟨d,m,C⟩:=B.hand;refine⟨_,rfl,hd,d,m,t,r,4,rfl,C,by lia,by decide,by decide,λx d' m' N x0 x1 c e=>⟨_,_,rfl,rfl,_,rfl,?_⟩⟩;have G:=B.setHand (r':=r) c;have f3:=X.put' (a:=hd) (o:=hl d' m' N r) (by trivial);have ac:=M.put' (a:=hd) (o:=hl d' m' N r) (by trivial);have ab:n≠hd:=iH (ss:=y::ys) (by rw[aC a4];exact J) C;refine bI (λc=>?_) λc=>?_
   .obtain⟨d,m,C⟩:=G.hand;refine⟨_,rfl,_,rfl,hd,n,d,m,N,r,_,rfl,C,by lia,ab,SqL.of (by rw[aC ab,aC a4];exact J),by simp,by rw[aK];lia,λx d' m' t' j c e=>?_⟩;obtain⟨y,hy,rfl⟩:=wr2.mp j;exact q y _ t' (G.setHand c) (f3.put'<|by trivial) (by lia) (ac.put'<|by trivial)
   .exact a1 _ N G f3 ac e
def Tup(H H':Hp):Prop:=∀b xs,H b=some (.tup xs)->H' b=some (.tup xs)
def Tup.trans{A B C:Hp}(f:Tup A B)(g:Tup B C):Tup A C:=λb xs h=>g b xs<|f b xs h
def Tup.of0(f:FrS [] H H'):Tup H H':=λb _ h=>f b _ aV h
def Tup.new(hp:H p=none):Tup H (upd H p o):=λb xs h=>by
 rw[aC<|aP h hp];exact h
theorem Tup.lst(hp:H p=some (.lst ys)):Tup H (upd H p o):=λb xs h=>by
 rw[aC λz=>by rw[z,hp]at h;cases h];exact h
theorem FrS.tup(f:FrS M H H')(a:∀b∈M,∀xs,H b≠some (.tup xs)):Tup H H':=λb xs h=>f b _ (λz=>a b z xs h) h
def Sit.notup{A:WA}(S:Sit H hd en wd A D t r):∀b∈Ms hd en A,∀xs,H b≠some (.tup xs):=by
 obtain⟨⟨d,m,h1,o⟩,⟨q,e,u⟩,⟨n,h,s⟩,⟨j,f,i⟩,w,nd,l⟩:=S;intro b a xs;simp only[Ms,wp9,aV,cY]at a;rcases a with rfl | rfl | rfl | rfl
 .rw[h1];intro z;cases z
 .rw[e];intro z;cases z
 .rw[h];intro z;cases z
 .rw[f];intro z;cases z
theorem Sit.tup{A:WA}(S:Sit H hd en wd A D t r)(f:FrS (Ms hd en A) H H'):Tup H H':=FrS.tup f S.notup
inductive Rw | make (x k:Str) | copy (x y:Str) | put (x f y:Str) | take (x y f:Str) | say (w:Str) | bring (k:Str)
def Rw.vs:Rw->List V
 | .make x k=>[.str "make",.str x,.str k]
 | .copy x y=>[.str "copy",.str x,.str y]
 | .put x f y=>[.str "put",.str x,.str f,.str y]
 | .take x y f=>[.str "take",.str x,.str y,.str f]
 | .say w=>[.str "say",.str w]
 | .bring k=>[.str "bring",.str k]
inductive PlainR(Z:Str->Option Str->Prop)(H:Hp)(a:Addr):Prop
 | mk(r:Rw)(h:H a=some (.tup r.vs))(b:∀k,r=.bring k->Z k none):PlainR Z H a
inductive CallR(Z:Str->Option Str->Prop)(H:Hp)(a:Addr):Prop
 | mk(x y k d:Str)(g:Addr)(ss:List Str)(h:H a=some (.tup [.str "call",.str x,.str y,.str k,.str d,.ref g]))(hg:H g=some (.tup<|ss.map V.str))(hl:↑ss<=1000)(hz:Z k (some d)):CallR Z H a
def PlainR.keep(h:PlainR Z H a)(f:Tup H H'):PlainR Z H' a:=by
 obtain⟨r,h,b⟩:=h;exact⟨r,f _ _ h,b⟩
def CallR.keep(h:CallR Z H a)(f:Tup H H'):CallR Z H' a:=by
 obtain⟨x,y,k,d,g,ss,h,b,hl,hz⟩:=h;exact⟨x,y,k,d,g,ss,f _ _ h,f _ _ b,hl,hz⟩
inductive DpG(H:Hp)(pv gv:V):Prop
 | mk(pt:Addr)(ps:List Str)(g:Option Str)(h1:pv=.ref pt)(h2:H pt=some (.tup<|ps.map V.str))(h3:gv=bA g)(h4:↑ps<=1000):DpG H pv gv
def DpG.keep{u v:V}(h:DpG H u v)(f:Tup H H'):DpG H' u v:=by
 obtain⟨pt,ps,g,h1,h2,a,b⟩:=h;exact⟨pt,ps,g,h1,f _ _ h2,a,b⟩
def BF(Z:Str->Option Str->Prop)(H:Hp)(a:Addr):Prop:=PlainR Z H a\/CallR Z H a
inductive Fl(Z:Str->Option Str->Prop)(H:Hp):Nat->List Addr->List Addr->Prop
 | nil {n:Nat}:Fl Z H n [] []
 | one {n:Nat} {a:Addr} {rs fs:List Addr} (h:BF Z H a) (t:Fl Z H n rs fs):Fl Z H n (a::rs) (a::fs)
 | again {n:Nat} {a l:Addr} {rs1 fs1 rs fs:List Addr} (h:H a=some (.tup [.str "again",.ref l])) (hl:H l=some (.tup<|rs1.map V.ref)) (s:Fl Z H n rs1 fs1) (t:Fl Z H (n+1) rs fs):Fl Z H (n+1) (a::rs) (a::(fs1++fs))
 | either {n:Nat} {a l1 l2:Addr} {rs1 fs1 rs2 fs2 rs fs:List Addr} (h:H a=some (.tup [.str "either",.ref l1,.ref l2])) (h1:H l1=some (.tup<|rs1.map V.ref)) (h2:H l2=some (.tup<|rs2.map V.ref)) (s1:Fl Z H n rs1 fs1) (s2:Fl Z H n rs2 fs2) (t:Fl Z H (n+1) rs fs):Fl Z H (n+1) (a::rs) (a::(fs1++(fs2++fs)))
theorem Fl.keep(h:Fl Z H n rs fs)(f:Tup H H'):Fl Z H' n rs fs:=by
 induction h with
 | nil=>exact .nil
 | one h _ ih=>exact .one (h.imp (·.keep f) (·.keep f)) ih
 | again h hl _ _ i1 i2=>exact .again (f _ _ h) (f _ _ hl) i1 i2
 | either h h1 h2 _ _ _ i1 i2 i3=>exact .either (f _ _ h) (f _ _ h1) (f _ _ h2) i1 i2 i3
def Fl.app(h:Fl Z H n rs fs)(g:Fl Z H n rs' fs'):Fl Z H n (rs++rs') (fs++fs'):=by
 induction h with
 | nil=>exact g
 | one h _ ih=>exact .one h<|ih g
 | again h hl s _ i1 i2=>
  have:=Fl.again h hl s<|i2 g;rw[<-gU]at this;exact this
 | either h h1 h2 s1 s2 _ i1 i2 i3=>
  have:=Fl.either h h1 h2 s1 s2<|i3 g;simpa [gU]using this
def Fl.len(h:Fl Z H n rs fs):↑rs<=↑fs:=by
 induction h with
 | nil=>exact aW _
 | one h _ ih=>exact Nat.succ_le_succ ih
 | again h hl s _ i1 i2=>rw[cJ,cJ,bH];lia
 | either h h1 h2 s1 s2 _ i1 i2 i3=>rw[cJ,cJ,bH,bH];lia
inductive Lots(Z:Str->Option Str->Prop)(H:Hp)(n:Nat):List Addr->List Addr->Prop
 | nil:Lots Z H n [] []
 | snoc {ls fs:List Addr} {l:Addr} {rs f1:List Addr} (h:Lots Z H n ls fs) (hl:H l=some (.tup<|rs.map V.ref)) (s:Fl Z H n rs f1):Lots Z H n (ls++[l]) (fs++f1)
theorem Lots.keep(h:Lots Z H n ls fs)(f:Tup H H'):Lots Z H' n ls fs:=by
 induction h with
 | nil=>exact .nil
 | snoc _ hl s ih=>exact ih.snoc (f _ _ hl)<|s.keep f
def Lots.zero(h:Lots Z H n ls fs)(e:↑ls=0):ls=[]/\fs=[]:=by
 cases h with
 | nil=>exact⟨rfl,rfl⟩
 | snoc h hl s=>rw[bH,dU]at e;lia
def Lots.one(h:Lots Z H n ls fs)(e:↑ls=1):∃l rs,ls=[l]/\H l=some (.tup<|rs.map V.ref)/\Fl Z H n rs fs:=by
 cases h with
 | nil=>cases e
 | snoc h hl s=>
  rw[bH,dU]at e;obtain⟨rfl,rfl⟩:=h.zero (by lia);exact⟨_,_,rfl,hl,s⟩
def Lots.two(h:Lots Z H n ls fs)(e:↑ls=2):∃f d f1 l2 rs2 f2,ls=[f,l2]/\fs=f1++f2/\H f=some (.tup<|d.map V.ref)/\Fl Z H n d f1/\H l2=some (.tup<|rs2.map V.ref)/\Fl Z H n rs2 f2:=by
 cases h with
 | nil=>cases e
 | snoc h hl s=>
  rw[bH,dU]at e;obtain⟨f,d,rfl,a,b⟩:=h.one (by lia);exact⟨f,d,_,_,_,_,rfl,rfl,a,b,hl,s⟩
def Lots.row{w:Str}(h:Lots Z H n ls fs)(d:H a=some (.tup<|.str w::ls.map V.ref))(e:↑ls=1/\w="again"\/↑ls=2/\w="either"):Fl Z H (n+1) [a] (a::fs):=by
 rcases e with ⟨e,rfl⟩ | ⟨e,rfl⟩
 .obtain⟨l,rs,rfl,b,s⟩:=h.one e;have:=Fl.again (rs:=[]) (fs:=[]) d b s .nil;rwa [fY]at this
 .obtain⟨m,u,o,q,x,r,rfl,rfl,j,f,i,s2⟩:=h.two e;have:=Fl.either (rs:=[]) (fs:=[]) d j i f s2 .nil;rwa [fY]at this
inductive pT(vs:List V)(H:Hp)(Q:VK):Prop
 | mk(hd en wd:Addr)(A:WA)(D:WD)(t r:Int)(h1:vs=[.ref hd,.ref wd,.ref en])(h2:Sit H hd en wd A D t r)(h3:t+1<1000000)(h4:∀(x:Str)(H':Hp)(t':Int),x∈D.U->Sit H' hd en wd A D t' r->FrS (Ms hd en A) H H'->t'<=t+1->FrS [hd] H H'->Q (.str x) H'):pT  vs H Q
def uK:Sp:=λvs H Q _=>pT  vs H Q
def AI:bZ qA qA (bR sS):=cC
def qP(F:Fun K "_law_target" "_law_target" sS f fd)(O:aS P w K mg base k "_law_of" qC (cP K)):
  aR P w K mg base bQ (k+1) f fd qA uK:=by
 refine F.ok AI (λvs H Q E h=>?_) λaa A outer s H vs Q E hr h=>?_
 .obtain⟨hd,en,wd,A,D,t,r,rfl,_⟩:=h;rfl
 obtain⟨hd,en,wd,WA,D,t,r,rfl,S,ht,q⟩:=h;have Z:=eC hr;have a6:(["_law_x",qW]:List Str).Nodup:=by rfl'
 exists _,aQ<|bS<|bB O hr rfl<|aA (pv 0)<|aA (cA wE (bT Z (pv 1) bD λ_ _=>rfl)<|RF<|iE (N':=["_law_x",qW]) (src:=[none,some 1]) rfl eS (FL<|pv 2) (g:=bW 0) (λ_ _ _ _=>gL 0 a6) (λ_ _ _ _=>sR<|bY (show cZ _ _ (hV K false) from uE) (pv 0) (bT Z (pv 1) bD λ_ _=>rfl) rfl) λ_ _ _ _=>pv 0) aE
 ac_rfl
 obtain⟨B,M,W⟩:=S.env;have hU:D.U.length=9:=by unfold WD.U;rw[cJ,bH,S.ok.v4,S.ok.p4]
 have ab:=W.len;obtain⟨us,eu,ac,a5⟩:=W.strs;exists _,rfl,_,rfl,wd,_,rfl,S.w.g.2.2.2.2.2.1,en,B,M;refine⟨_,rfl,en,B,rfl,M,λo C l=>?_⟩;have Y:C≠en:=λz=>by rw[z,zb1]at l;cases l
 have ad:H C=none:=by rw[aC Y]at l;exact l
 have a9:wd≠en:=λz=>by obtain⟨kvs,⟨hn,_⟩,_⟩:=S.w.k;exact hn (by rw[z];simp)
 refine FQ (xs:=B.map λp=>kV p.1) (λi σ j=>(∃x,σ=[x,some<|.ref wd])/\FrS [] (upd H en<|.frz o<|.dK B) j/\∃ss:List Str,↑ss<=i/\(∀x∈ss,x∈D.U)/\j C=some (.lst<|ss.map V.str)) ⟨⟨_,rfl⟩,(FrS.refl).put l,[],by simp,by simp,zb1⟩ ?_ ?_ ?_
 .rintro i σ j hi ⟨_,fr,_⟩;exact fr _ _ (by trivial) zb1
 .rintro i x σ j a ⟨⟨x0,rfl⟩,fr,ss,hs,J,I⟩;rw[eu]at a;obtain⟨hi,_⟩:=zz2.mp a;rw[aK]at hi;rw[bO,bF hi]at a;cases a;have a8:FrS (Ms hd en WA) H j:=λb u n e=>fr b u (by trivial) (by rw[aC λz=>n<|by rw[z];simp];exact e)
  have W2:=S.w.keep a8;exists _,rfl,_,rfl,wd,_,rfl,W2.g.2.2.2.2.2.2.1,WA.params,_,rfl,.inl<|SqL.of W2.params.2,rfl,jM _,_,rfl;refine bI (λc=>?_) λc=>?_
  .exists _,rfl,_,I,by rw[aK];exact bG (by lia),⟨_,rfl⟩,fr.put l,ss++[us[i]],?_,?_
   .rw[bH,dU];lia
   .intro x a;rcases wr7.mp a with a | a
    .exact J x a
    .rw[wq1.mp a];exact a5 _<|iT hi
   .rw[zb1,bN];rfl
  .exact⟨⟨_,rfl⟩,fr,ss,by lia,J,I⟩
 .rintro σ j ⟨_,fr,ss,hs,J,I⟩;rw[aK]at hs;exists o,fr _ _ (by trivial) zb1;have L:FrS [] H (upd j en<|.dK B):=FrS.thaw M fr;have T:=S.fr0 L;have a7:upd j en (.dK B) C=some (.lst<|ss.map V.str):=by rw[aC Y];exact I
  refine⟨WA.vars,C,_,_,rfl,rfl,T.w.vars.2,a7,?_,λp hp=>?_⟩
  .rw[aK,aK,S.ok.v4];exact cN (bG<|by lia)
  .have N:=T.fr0<|FrS.new (S:=[]) (o:=.lst<|D.vars.map V.str++ss.map V.str) hp;rw[<-bN]at N ⊢;obtain⟨d,m,X⟩:=N.hand;refine⟨hd,p,d,m,t,r,_,rfl,X,by lia,iH (ss:=D.vars++ss) zb1 X,SqL.of zb1,?_,?_,λx d' m' t' a c e=>?_⟩
   .intro z;have:=cF List.length z;rw[aK,bH,S.ok.v4,jB]at this;lia
   .rw[aK,bH,S.ok.v4];lia
   obtain⟨y,G,rfl⟩:=wr2.mp a;refine q y _ t' ?_ (N.setHand c) ?_ (by lia) ?_
   .rcases wr7.mp G with G | G
    .unfold WD.U;simp[G]
    .exact J y G
   .exact((L.trans<|FrS.new hp).mono<|by trivial).put' (by trivial)
   .exact((L.trans<|FrS.new hp).mono<|by trivial).put' (by trivial)
def IA{H1:Hp}{tp:Addr}{ts:List Addr}{tr:Tr}{b:Addr}(o:H1 tp=some (.lst<|ts.map V.ref))(hl:↑ts=↑tr)(n:∀(j:Nat) t x,ts[j]?=some t->tr[j]?=some x->H1 t=some (.tup [.str x.1,bA x.2]))(l:H1 b=none)(u:↑tr<=1000)
  {Q:Hp->Prop} (q:∀H',FrS [] H1 H'->H' b=some (.lst<|(tr.map (·.1)).map V.str)->Q H'):oT (qR K tp) (eN K 2<|dW (bW 0)<|dW (bW 1) eO) lU (aI 0) b [none,none] (upd H1 b<|.lst []) Q:=by
 refine xM (xs:=ts.map V.ref) (λi σ a=>(∃x y,σ=[x,y])/\FrS [] H1 a/\a b=some (.lst<|((tr.take i).map (·.1)).map V.str)) ⟨⟨_,_,rfl⟩,(FrS.refl).put l,zb1⟩ ?_ ?_ ?_
 .rintro i σ a hi ⟨_,fr,_⟩;exact SqL.of<|fr _ _ (by trivial) o
 .rintro i x σ a h ⟨⟨s,r,rfl⟩,fr,d⟩;rw[bO]at h;obtain⟨t,m,rfl⟩:=wq8.mp h;obtain⟨hi,_⟩:=zz2.mp m;have f:tr[i]?=some tr[i]:=bF (by lia);have e:=n i t _ m f;exists t,_,rfl,SqT.of<|fr _ _ (by trivial) e,rfl,_,_,rfl,_,_,rfl,rfl;exists _,rfl,_,d,?_,⟨_,_,rfl⟩,fr.put l
  .rw[aK,aK,eM];exact bG (by lia)
  .rw[zb1,fW,f,bN,bN];rfl
 .rintro σ a ⟨_,fr,d⟩;rw[gA<|by rw[aK];lia]at d;exact q a fr d
inductive RQ(vs:List V)(H:Hp)(Q:VK):Prop
 | mk(hd en wd:Addr)(A:WA)(D:WD)(t r:Int)(h1:vs=[.ref hd,.ref wd,.ref en])(h2:Sit H hd en wd A D t r)(h3:t+3<1000000)(h4:∀(x:Addr)(H':Hp)(t':Int),PlainR (eV D) H' x->Sit H' hd en wd A D t' r->FrS (Ms hd en A) H H'->t'<=t+3->Q (.ref x) H'):RQ  vs H Q
def GE:Sp:=λvs H Q _=>RQ  vs H Q
abbrev AK:List Str:=[qH,qW,"_law_env","_law_names","_law_soon","_law_kind","_law_x"]
def ym0:bZ AK qA (bR HV):=cC
def Ac{k:Nat}(F:Fun K "_law_make" "_law_make" HV f fd)(T:aS P w K mg base k "_law_take" qB gG)(O:aS P w K mg base k "_law_of" qC (cP K))(G:aS P w K mg base k "_law_target" qA uK):
  aR P w K mg base bQ (k+1) f fd qA GE:=by
 refine F.ok ym0 (λvs H Q E h=>?_) λaz A outer s H vs Q E hr h=>?_
 .obtain⟨hd,en,wd,A,D,t,r,rfl,_⟩:=h;rfl
 obtain⟨hd,en,wd,WA,D,t,r,rfl,S,ht,q⟩:=h;have hu:=eC hr;have aj:(["_law_name","_law_elder"]:List Str).Nodup:=by rfl'
 have ar:(["_law_name",qW]:List Str).Nodup:=by rfl'
 exists _,aL (pY (i:=3) (N':=["_law_name","_law_elder"]) (src:=[none,none]) rfl ym0.nd rfl rfl eS (hZ<|bT hu (pv 1) bD λ_ _=>rfl) (g:=eN K 2<|dW (bW 0)<|dW (bW 1) eO) (λ_ _ _ _=>eG (n:=2) rfl<|bL (gL 0 aj)<|bL (gL 1 aj) eK) (λ_ _ _ _=>gO) λ_ _ _ _=>pv 0)
  (aL (pY (i:=4) (N':=["_law_name",qW]) (src:=[none,some 1]) rfl ym0.nd rfl rfl eS (hZ<|pv 3) (g:=bW 0) (λ_ _ _ _=>gL 0 ar) (λ_ _ _ _=>sR<|bY (show cZ _ _ (hV K true) from wF) (pv 0) (bT hu (pv 1) bD λ_ _=>rfl) rfl) λ_ _ _ _=>pv 0)<|aL (sL 5 ym0.nd<|bB O hr rfl<|aA (pv 0)<|aA (eI (cG<|aA (pv 4)<|aA (pv 4)<|aA (pv 3) aE)<|bB T hr rfl<|aA (pv 0)<|aA aN aE) aE)<|aL (sL 6 ym0.nd<|bB G hr rfl<|aA (pv 0)<|aA (pv 1)<|aA (pv 2) aE)<|aL (fO hu (pv 2) (pv 6) (pv 5) rfl)<|aQ<|bS<|bX<|aA bD<|aA (pv 6)<|aA (pv 5) aE)
  
 ac_rfl
 have hU:D.U.length=9:=by unfold WD.U;rw[cJ,bH,S.ok.v4,S.ok.p4]
 have b1:=S.ok.l12;obtain⟨ts,t1,t2,t3⟩:=S.w.tree;refine⟨_,rfl,wd,_,rfl,S.w.g.1,WA.tree,rfl,⟨_,SqL.of t1.2⟩,λu ax=>?_⟩;refine IA (tr:=D.tr) t1.2 t2 (λj t x a b=>(t3 j t x a b).2) ax (by lia) λH1 f1 Z=>?_
 have S1:=S.fr0 f1;refine⟨_,rfl,u,rfl,⟨_,SqL.of Z⟩,λl a8=>?_⟩;have b2:u≠l:=aP Z a8;refine xM (xs:=(D.tr.map (·.1)).map V.str) (λi σ X=>(∃x,σ=[x,some<|.ref wd])/\FrS [] H1 X/\X l=some (.lst<|(((D.tr.map (·.1)).take i).filter λx=>decide<|x∉D.late).map V.str)) ⟨⟨_,rfl⟩,(FrS.refl).put a8,zb1⟩ ?_ ?_ ?_
 .rintro i σ X hi ⟨_,fr,_⟩;exact SqL.of<|fr _ _ (by trivial) Z
 .rintro i x σ X B ⟨⟨x0,rfl⟩,fr,ah⟩;obtain⟨hi,_⟩:=zz2.mp B;rw[aK]at hi;rw[bO,bF hi]at B;cases B;have N:=S1.fr0 fr;have ao:=hi;rw[aK]at ao;have W:↑(((D.tr.map (·.1)).take i).filter λx=>decide<|x∉D.late)<=12:=by
   have:=uV (λx=>decide<|x∉D.late)<|(D.tr.map (·.1)).take i;rw[eM,aK]at this;lia
  exists _,rfl,_,rfl,wd,_,rfl,N.w.g.2.1,WA.late,_,rfl,.inl<|SqL.of N.w.late.2,rfl,jM _,_,rfl;have ef:((D.tr.map (·.1)).take<|i+1).filter (λx=>decide<|x∉D.late)=((D.tr.map (·.1)).take i).filter (λx=>decide<|x∉D.late)++[(D.tr.map (·.1))[i]].filter (λx=>decide<|x∉D.late):=by
   rw[fW,bF hi,List.filter_append];rfl
  rw[lJ];refine bI (λc0=>?_) λc0=>?_
  rotate_left
  .have c:(D.tr.map (·.1))[i]∈D.late:=by simpa using c0
   exists ⟨_,rfl⟩,fr;rw[ef,List.filter_cons_of_neg (by simpa using c),List.filter_nil,fY];exact ah
  .have c:(D.tr.map (·.1))[i]∉D.late:=by simpa using c0
   exists _,rfl,_,ah,by rw[aK];exact bG (by lia),⟨_,rfl⟩,fr.put a8;rw[zb1,ef,List.filter_cons_of_pos (by simpa using c),List.filter_nil,bN];rfl
 rintro σ H2 ⟨_,f2,J⟩;rw[aK,gA<|aW _]at J;have N:=S1.fr0 f2;have aa:=f2 _ _ (by trivial) Z;obtain⟨x1,al,a9⟩:=S.ok.soon;have a0:((D.tr.map (·.1)).filter λx=>decide<|x∉D.late)≠[]:=λz=>by
  have:x1∈((D.tr.map (·.1)).filter λx=>decide<|x∉D.late):=vj5.mpr ⟨al,by simp[a9]⟩;rw[z]at this;cases this
 have ae:D.tr.map (·.1)≠[]:=λz=>by
  have:x1∈D.tr.map (·.1):=al;rw[z]at this;cases this
 have W:↑((D.tr.map (·.1)).filter λx=>decide<|x∉D.late)<=12:=by
  have:=uV (λx=>decide<|x∉D.late)<|D.tr.map (·.1);rw[aK]at this;lia
 generalize hss:((D.tr.map (·.1)).filter λx=>decide<|x∉D.late)=ss at J a0 W;have af:∀x∈ss,x∈D.names:=λx B=>by rw[<-hss]at B;exact(vj5.mp B).1
 have a7:FrS (Ms hd en WA) H H2:=(f1.trans f2).mono (by trivial);refine⟨_,rfl,_,rfl,_,rfl,_,rfl,dO rfl,λI Y=>?_⟩;have S3:=N.fr0<|FrS.new (S:=[]) (o:=.lst [.ref l,.ref l,.ref u]) Y;obtain⟨d,m,C⟩:=S3.hand;refine⟨_,rfl,hd,d,m,t,r,3,rfl,C,by lia,by decide,by decide,λx d' m' t4 x0 x1 c e=>?_⟩;have S4:=S3.setHand (r':=r) c;have M:I≠hd:=λz=>by have:=C.1;rw[z]at *;rw[zb1]at this;cases this
 have ai:l≠hd:=λz=>by have L:=C.1;rw[aC<|bK M]at L;exact iH J ⟨L,C.2⟩ z
 have aw:u≠hd:=λz=>by have L:=C.1;rw[aC<|bK M]at L;exact iH aa ⟨L,C.2⟩ z
 have ag:l≠I:=aP J Y;have aq:u≠I:=aP aa Y;have ad:=(a7.trans<|FrS.new (o:=.lst [.ref l,.ref l,.ref u]) Y).put' (a:=hd) (o:=hl d' m' t4 r) (by trivial);have go:∀(pz:Addr)(zs:List Str),pz≠hd->pz≠I->H2 pz=some (.lst<|zs.map V.str)->zs≠[]->↑zs<=12->(∀x∈zs,x∈D.names)->
   cP K [.ref hd,.ref pz] (upd (upd H2 I<|.lst [.ref l,.ref l,.ref u]) hd<|hl d' m' t4 r) (λv Hv=>fT (fZ (fL uK [] E0<|aY (aI 0)<|aY (aI 1)<|aY (aI 2) aX)<|bW 6) (fT (pR (aI 2) (aI 6)<|aI 5)<|hC<|dE<|aY (tC<|.str "make")<|aY (aI 6)<|aY (aI 5) aX) ⟨λ_ H=>Q .non H,Q,λ_ _=>False,λ_ _=>False⟩ [some<|.ref hd,some<|.ref wd,some<|.ref en,some<|.ref u,some<|.ref l,some v,none] Hv) E0:=by
  intro pz zs h1 h2 hz av as an;obtain⟨d,m,C⟩:=S4.hand;refine⟨hd,pz,d,m,t4,r,_,rfl,C,by lia,h1,SqL.of (by rw[aC h1,aC h2];exact hz),by simpa using av,by rw[aK];lia,λy d5 m5 t5 hy c5 e5=>?_⟩;obtain⟨z,au,rfl⟩:=wr2.mp hy;have S5:=S4.setHand (r':=r) c5;have ac:=ad.put' (a:=hd) (o:=hl d5 m5 t5 r) (by trivial);refine⟨_,rfl,_,rfl,_,rfl,hd,en,wd,WA,D,t5,r,rfl,S5,by lia,λx6 H6 t6 ay S6 f6 b0 _=>?_⟩;obtain⟨kv,am,hk⟩:=S6.env;exists _,rfl,_,rfl,_,rfl,en,_,rfl,DPut.k (k:=(Sum.inr x6:aF)) am<|bG (by have:=hk.len;lia);have S7:=S6.setEnv<|hk.put ay<|.inr ⟨z,an z au,rfl⟩;have ab:=(ac.trans f6).put' (a:=en) (o:=.dK<|aO kv (Sum.inr x6)<|V.str z) (by trivial);refine⟨_,rfl,_,rfl,dO rfl,λpr ak=>?_⟩;exact q pr _ t6 ⟨.make _ _,zb1,λ_ e=>nomatch e⟩ (S7.fr0<|FrS.new ak) (ab.trans<|FrS.new ak) (by lia)
 have ap:x=0\/x=1\/x=2:=by lia
 rcases ap with rfl | rfl | rfl
 .exact⟨I,_,_,.ref l,rfl,rfl,SqL.of (by rw[aC M];exact zb1),rfl,go l ss ai ag J a0 W af⟩
 .exact⟨I,_,_,.ref l,rfl,rfl,SqL.of (by rw[aC M];exact zb1),rfl,go l ss ai ag J a0 W af⟩
 .exact⟨I,_,_,.ref u,rfl,rfl,SqL.of (by rw[aC M];exact zb1),rfl,go u D.names aw aq aa ae (by unfold WD.names;rw[aK];lia) λx B=>B⟩
abbrev IO:Stmt:=top 60
abbrev MO:Stmt:=top 62
inductive PH(vs:List V)(H:Hp)(Q:VK):Prop
 | mk(hd en wd:Addr)(A:WA)(D:WD)(t r:Int)(ab dd:Str)(h1:vs=[.ref hd,.ref wd,.ref en,.str ab,.str dd])(h2:Sit H hd en wd A D t r)(h3:t+12<1000000)(h4:ab∈D.names)(h5:dd∈D.deeds)(h6:∀(x:Addr)(ss:List Str)(H':Hp)(t':Int),H' x=some (.tup<|ss.map V.str)->↑ss<=1000->Sit H' hd en wd A D t' r->FrS (Ms hd en A) H H'->t'<=t+12->Q (.ref x) H'):PH  vs H Q
def ME:Sp:=λvs H Q _=>PH  vs H Q
inductive QY(vs:List V)(H:Hp)(Q:VK):Prop
 | mk(hd en wd:Addr)(A:WA)(D:WD)(t r:Int)(h1:vs=[.ref hd,.ref wd,.ref en])(h2:Sit H hd en wd A D t r)(h3:t+7<1000000)(h4:∀(x:Addr)(H':Hp)(t':Int),PlainR (eV D) H' x->Sit H' hd en wd A D t' r->FrS (Ms hd en A) H H'->t'<=t+7->Q (.ref x) H'):QY  vs H Q
def HR:Sp:=λvs H Q _=>QY  vs H Q
def Sit.own{A:WA}(S:Sit H hd en wd A D t r)(n:Sit H6 hd en wd A D t6 r6)(f:FrS (Ms hd en A) H H6)(a:H pa=none):Sit (upd H6 pa o) hd en wd A D t6 r6/\FrS (Ms hd en A) H (upd H6 pa o):=by
 have x:pa∉Ms hd en A:=S.notin a;have u:∀b∈Ms hd en A,upd H6 pa o b=H6 b:=λb s=>aC (λz=>x<|by rw[<-z];exact s)
 have fr:FrS (Ms hd en A) H (upd H6 pa o):=f.put a;obtain⟨⟨d,m,h1,G⟩,⟨B,h,l⟩,⟨j,E,e⟩,⟨i,C,q⟩,w,nd,ok⟩:=n;exact⟨⟨⟨d,m,(u _<|by trivial).trans h1,G⟩,⟨B,(u _<|by trivial).trans h,l⟩,⟨j,(u _<|by trivial).trans E,e⟩,⟨i,(u _<|by trivial).trans C,q⟩,S.w.keep fr,nd,ok⟩,fr⟩
abbrev zD:List Str:=[qH,qW,"_law_env","_law_above","_law_deed_here","_law_args_here","_law_kind","_law_some"]
def ys4:bZ zD qD (bR IO):=cC
def Dr(F:Fun K "_law_args" "_law_args" IO f fd)(T:aS P w K mg base k "_law_take" qB gG)(O:aS P w K mg base k "_law_of" qC (cP K))(V':aS P w K mg base k "_law_variable" qA nR)(L:aS P w K mg base k "_law_line" qG BE)(ay:mg "tuple"=none):
  aR P w K mg base bQ (k+1) f fd qD ME:=by
 refine F.ok ys4 (λvs H Q E h=>?_) λb4 A outer s H vs Q E hr h=>?_
 .obtain⟨hd,en,wd,A,D,t,r,ab,J,rfl,_⟩:=h;rfl
 obtain⟨hd,en,wd,WA,D,t,r,ab,J,rfl,S,ht,ax,b0,q⟩:=h;have Y:=eC hr;have b1:(["_law_x","_law_env","_law_kind",qW]:List Str).Nodup:=by rfl'
 exists _,aL (sL 5 ys4.nd<|cG aE)
  (aL (dZ dJ rfl (hZ<|bT Y (bT Y (pv 1) bD λ_ _=>rfl) (bX<|aA (bT Y (bT Y (pv 1) bD λ_ _=>rfl) (pv 3) λ_ _=>rfl)<|aA (pv 4) aE) λ_ _=>rfl) (wZ (i:=6) ys4.nd rfl<|Or.inr rfl)<|aL (PU<|pY (i:=7) (N':=["_law_x","_law_env","_law_kind",qW]) (src:=[none,some 2,some 6,some 1]) rfl ys4.nd rfl rfl eS (FL<|pv 2) (g:=bW 0) (λ_ _ _ _=>gL 0 b1) (λ_ _ _ _=>sR<|PW.pt<|kJ (iL<|tH<|bT Y (pv 1) (pv 0) λ_ _=>rfl)<|mU<|bY (show cZ _ _ (hV K false) from uE) (pv 2) (bB L hr rfl<|aA (pv 3)<|aA (bT Y (pv 1) (pv 0) λ_ _=>rfl) aE) rfl) λ_ _ _ _=>pv 0)<|aQ<|cL (PW.pt<|kJ (bY (AB<|mF Y) (pv 7) (cG aE)<|cE _)<|mU<|bY lS (bB T hr rfl<|aA (pv 0)<|aA aN aE) aN<|cE _) (aQ<|dQ<|eP eE fI fJ fG (pv 5)<|aA (bB O hr rfl<|aA (pv 0)<|aA (pv 7) aE) aE)<|aQ<|dQ<|eP eE fI fJ fG (pv 5)<|aA (bB V' hr rfl<|aA (pv 0)<|aA (pv 1)<|aA (pv 2) aE) aE)<|aQ<|bS<|dS gH rfl ay (by rfl')<|aA (pv 5) aE)
 ac_rfl
 have hU:D.U.length=9:=by unfold WD.U;rw[cJ,bH,S.ok.v4,S.ok.p4]
 refine⟨bM _,λj a2=>?_⟩;have Z:=S.fr0<|FrS.new (S:=[]) (o:=.lst []) a2;obtain⟨rt,wp,ws,e1,e2,e3,e4,e5⟩:=S.w.wl ab ax J b0;refine⟨_,rfl,wd,_,rfl,Z.w.g.2.2.2.1,_,rfl,wd,_,rfl,Z.w.g.2.2.2.2.2.2.2.2.2.2,_,rfl,WA.roots,_,rfl,.inl ⟨_,Sum.inr ab,.inl Z.w.roots.2,rfl,e1.symm⟩,_,rfl,dO rfl,λpk a9=>?_⟩;have S2:=Z.fr0<|FrS.new (S:=[]) (o:=.tup [V.str rt,V.str J]) a9;have ap:=e3.keep<|(FrS.new (o:=.lst []) a2).trans<|FrS.new (o:=.tup [V.str rt,V.str J]) a9;have a5:upd (upd H j<|.lst []) pk (.tup [V.str rt,V.str J]) j=some (.lst []):=by rw[aC<|aP (o:=.lst []) zb1 a9];exact zb1
 exists WA.wants,.ref wp,rfl,.inr ⟨_,[Sum.inr rt,Sum.inr J],pk,.inl S2.w.wants.2,rfl,zb1,e2.symm⟩,wp,rfl,⟨_,SqL.of ap.2⟩;have aq:FrS (Ms hd en WA) H (upd (upd H j<|.lst []) pk<|.tup [V.str rt,V.str J]):=(FrS.new a2).trans<|FrS.new a9;generalize upd (upd H j<|.lst []) pk (.tup [V.str rt,V.str J])=H2 at S2 ap a5 aq;have a4:j∉Ms hd en WA:=S.notin a2;refine pO (xs:=ws.map V.str) (λi σ B=>∃(kx sx:Option V)(tx:Int)(xs:List Str),σ=[some<|.ref hd,some<|.ref wd,some<|.ref en,some<|.str ab,some<|.str J,some<|.ref j,kx,sx]/\Sit B hd en wd WA D tx r/\FrS (Ms hd en WA) H B/\tx<=t+3*i/\B j=some (.lst<|xs.map V.str)/\↑xs<=i) ⟨_,_,t,[],rfl,S2,aq,by lia,a5,by simp⟩ ?_ ?_ ?_
 .rintro i σ B hi ⟨_,_,_,_,_,_,fr,_⟩;exact SqL.of (e3.keep fr).2
 .rintro i x σ B G ⟨kx,sx,tx,xs,rfl,Sx,fr,ar,af,ao⟩;obtain⟨hi,_⟩:=zz2.mp G;rw[aK]at hi;rw[bO,bF hi]at G;cases G;obtain⟨C,ad,hk⟩:=Sx.env;have b6:=hk.len;obtain⟨us,eu,b7,_⟩:=hk.strs;exists en,C,ad;refine⟨_,rfl,en,C,rfl,ad,λo I a3=>?_⟩;have as:I≠en:=λz=>by rw[z,zb1]at a3;cases a3
  have b9:B I=none:=by rw[aC as]at a3;exact a3
  refine FQ (xs:=C.map λp=>kV p.1) (λM σ W=>(∃x,σ=[x,some<|.ref en,some<|.str ws[i],some<|.ref wd])/\FrS [] (upd B en<|.frz o<|.dK C) W/\∃ss:List Str,↑ss<=M/\W I=some (.lst<|ss.map V.str)) ⟨⟨_,rfl⟩,(FrS.refl).put a3,[],by simp,zb1⟩ ?_ ?_ ?_
  .rintro M σ W hi ⟨_,fr,_⟩;exact fr _ _ (by trivial) zb1
  .rintro M x σ W G ⟨⟨x0,rfl⟩,X,ss,hs,a8⟩;have ai:=G;rw[eu]at G;obtain⟨hi,_⟩:=zz2.mp G;rw[aK]at hi;rw[bO,bF hi]at G;cases G;have au:(Sum.inr us[M]:aF)∈C.map (·.1):=by
    rw[bO]at ai;obtain⟨p,hp,e⟩:=wq8.mp ai;have:p.1=Sum.inr us[M]:=by
     obtain⟨y,_,ey⟩:=hk.ks p.1<|wr2.mpr ⟨p,cU hp,rfl⟩;rw[ey]at e ⊢;cases e;rfl
    exact wr2.mpr ⟨p,cU hp,this⟩
   obtain⟨v,hv⟩:∃v,aG C (Sum.inr us[M])=some v:=by
    cases z:aG C (Sum.inr us[M])with
    | some v=>exact⟨v,rfl⟩
    | none=>exact absurd au<|ES z
   have ak:∀Hz,FrS [] (upd B en<|.frz o<|.dK C) Hz->DGet Hz en (.str us[M]) (some v):=λHz fz=>.inl ⟨C,Sum.inr us[M],.inr ⟨o,fz _ _ (by trivial) zb1⟩,rfl,hv.symm⟩
   exists _,rfl,_,rfl,en,v,rfl,ak _ X,_,rfl;rcases hk.vs _ _ hv with rfl | ⟨n,hn,rfl⟩
   .show if (!decide (V.non=V.non))=true then _ else _
    rw[aZ<|by trivial];exact⟨⟨_,rfl⟩,X,ss,by lia,a8⟩
   .show if (!decide (V.str n=V.non))=true then _ else _
    rw[bC<|by trivial];obtain⟨l,hl,av,_⟩:=HW S.ok hn;have b2:FrS (Ms hd en WA) B W:=λb u n e=>X b u (by trivial) (by rw[aC λz=>n<|by rw[z];simp];exact e)
    refine⟨_,rfl,_,rfl,_,rfl,_,rfl,en,V.str n,rfl,ak _ X,wd,_,WA,D,n,l,rfl,Sx.w.keep b2,S.ok,hl,λla Hz fz b3 aw=>?_⟩;have az:I≠la:=aP a8 b3;have aj:=fz _ _ (by trivial) a8;exists la,_,rfl,.inl<|SqL.of aw,rfl,jM _,_,rfl;refine bI (λc=>?_) λc=>?_
    .exists _,rfl,_,aj,by rw[aK];exact bG (by lia),⟨_,rfl⟩,(X.trans fz).put a3,ss++[us[M]],?_
     .rw[bH,dU];lia
     .rw[zb1,bN];rfl
    .exact⟨⟨_,rfl⟩,X.trans fz,ss,by lia,aj⟩
  .rintro σ W ⟨_,X,ss,hs,a8⟩;rw[aK]at hs;exists o,X _ _ (by trivial) zb1;have f1:FrS [] B (upd W en<|.dK C):=FrS.thaw ad X;have Z:=Sx.fr0 f1;have ag:upd W en (.dK C) I=some (.lst<|ss.map V.str):=by rw[aC as];exact a8
   generalize upd W en (.dK C)=H3 at f1 Z ag;have a7:=f1 _ _ (by trivial) af;refine⟨_,rfl,bM _,λpe aa=>?_⟩;have S4:=Z.fr0<|FrS.new (S:=[]) (o:=.lst []) aa;have al:I≠pe:=aP ag aa;have a6:upd H3 pe (.lst []) j=some (.lst<|xs.map V.str):=by rw[aC<|aP a7 aa];exact a7
   have f4:FrS (Ms hd en WA) H (upd H3 pe<|.lst []):=fr.trans ((f1.trans<|FrS.new aa).mono<|by trivial);have ac:upd H3 pe (.lst []) I=some (.lst<|ss.map V.str):=by rw[aC al];exact ag
   exists I,pe,_,rfl,rfl,al,SqL.of ac,SqL.of zb1,_,rfl;have ah:∀(H5:Hp)(N:Int),Sit H5 hd en wd WA D N r->FrS (Ms hd en WA) H H5->N<=tx+1->H5 j=some (.lst<|xs.map V.str)->BA (tE K "list" wY (aI 5)<|aY (fL nR [] E0<|aY (aI 0)<|aY (aI 1)<|aY (aI 2) aX) aX)
     ⟨λσ B=>∃(kx sx:Option V)(tx:Int)(xs:List Str),σ=[some<|.ref hd,some<|.ref wd,some<|.ref en,some<|.str ab,some<|.str J,some<|.ref j,kx,sx]/\Sit B hd en wd WA D tx r/\FrS (Ms hd en WA) H B/\tx<=t+3*((i+1:Nat):Int)/\B j=some (.lst<|xs.map V.str)/\↑xs<=i+1,λ_ _=>False,λ_ _=>False,λ_ _=>False⟩ [some<|.ref hd,some<|.ref wd,some<|.ref en,some<|.str ab,some<|.str J,some<|.ref j,some<|.str ws[i],some<|.ref I] H5:=by
    intro H5 N S5 f5 b5 a0;refine⟨_,rfl,.inl ⟨rfl,_,SqL.of a0⟩,_,rfl,_,rfl,_,rfl,hd,en,wd,WA,D,N,r,rfl,S5,by lia,λx H6 t6 S6 f6 b8 _=>?_⟩;have ae:=f6 _ _ a4 a0;have S7:=Sit.own (o:=.lst<|xs.map V.str++[V.str x]) S S6 (f5.trans f6) a2;exact⟨j,_,_,rfl,rfl,ae,bG (by rw[aK];lia),_,_,t6,xs++[x],rfl,S7.1,S7.2,by lia,by rw[zb1,bN];rfl,by rw[bH,dU];lia⟩
   cases ss with
   | nil=>exact ah _ tx S4 f4 (by lia) a6
   | cons y ys=>
    obtain⟨d,m,hh⟩:=S4.hand;refine⟨_,rfl,hd,d,m,tx,r,4,rfl,hh,by lia,by decide,by decide,λx d' m' N x0 x1 c e=>⟨_,_,rfl,rfl,_,rfl,?_⟩⟩;have S5:=S4.setHand (r':=r) c;have f5:=f4.put' (a:=hd) (o:=hl d' m' N r) (by trivial);have an:I≠hd:=iH (ss:=y::ys) ac hh;have am:j≠hd:=λz=>a4 (by rw[z];simp)
    have a0:upd (upd H3 pe<|.lst []) hd (hl d' m' N r) j=some (.lst<|xs.map V.str):=by rw[aC am];exact a6
    refine bI (λc=>?_) λc=>?_
    .obtain⟨d,m,hh⟩:=S5.hand;refine⟨_,rfl,.inl ⟨rfl,_,SqL.of a0⟩,_,rfl,_,rfl,hd,I,d,m,N,r,_,rfl,hh,by lia,an,SqL.of (by rw[aC an];exact ac),by simp,by rw[aK];lia,λx d' m' t' G c e=>?_⟩;obtain⟨x,_,rfl⟩:=wr2.mp G;have S7:=Sit.own (o:=.lst<|xs.map V.str++[V.str x]) S (S5.setHand (r':=r) c) (f5.put' (a:=hd) (o:=hl d' m' t' r)<|by trivial) a2;exact⟨j,_,_,rfl,rfl,by rw[aC am];exact a0,bG (by rw[aK];lia),_,_,t',xs++[x],rfl,S7.1,S7.2,by lia,by rw[zb1,bN];rfl,by rw[bH,dU];lia⟩
    .exact ah _ N S5 f5 e a0
 .rintro σ B ⟨kx,sx,tx,xs,rfl,Sx,fr,ar,af,ao⟩;rw[aK]at ar ao;refine⟨_,rfl,j,_,rfl,.inl ⟨SqL.of af,λl hl=>?_⟩⟩;exact q l xs _ tx zb1 (by lia) (Sx.fr0<|FrS.new hl) (fr.trans<|FrS.new hl) (by lia)
abbrev sX:List Str:=[qH,qW,"_law_env","_law_x","_law_y","_law_field_here","_law_z"]
def yh2:bZ sX qA (bR MO):=cC
def YP(F:Fun K "_law_field" "_law_field" MO f fd)(T:aS P w K mg base k "_law_take" qB gG)(O:aS P w K mg base k "_law_of" qC (cP K))(V':aS P w K mg base k "_law_variable" qA nR)(G:aS P w K mg base k "_law_target" qA uK):
  aR P w K mg base bQ (k+1) f fd qA HR:=by
 refine F.ok yh2 (λvs H Q E h=>?_) λab A outer s H vs Q E hr h=>?_
 .obtain⟨hd,en,wd,A,D,t,r,rfl,_⟩:=h;rfl
 obtain⟨hd,en,wd,WA,D,t,r,rfl,S,ht,q⟩:=h;have b:=eC hr;exists _,aL (qN (i:=3) (j:=4) rfl yh2.nd rfl rfl (by decide) rfl rfl (aA (bB V' hr rfl<|aA (pv 0)<|aA (pv 1)<|aA (pv 2) aE)<|aA (bB V' hr rfl<|aA (pv 0)<|aA (pv 1)<|aA (pv 2) aE) aE) rfl)
  (aL (sL 5 yh2.nd<|bB O hr rfl<|aA (pv 0)<|aA (bT b (pv 1) bD λ_ _=>rfl) aE)<|aL (cL (bY eZ (bB T hr rfl<|aA (pv 0)<|aA aN aE) aN<|cE _) (aL (fO b (bT b (pv 1) bD λ_ _=>rfl) (pv 5) (iS b (pv 2) (pv 4) ⟨rfl,rfl,rfl,rfl⟩) rfl)<|aQ<|bS<|bX<|aA bD<|aA (pv 3)<|aA (pv 5)<|aA (pv 4) aE) dD)<|aL (sL 6 yh2.nd<|bB G hr rfl<|aA (pv 0)<|aA (pv 1)<|aA (pv 2) aE)<|aL (fO b (pv 2) (pv 6) (iS b (bT b (pv 1) bD λ_ _=>rfl) (pv 5) ⟨rfl,rfl,rfl,rfl⟩) rfl)<|aQ<|bS<|bX<|aA bD<|aA (pv 6)<|aA (pv 4)<|aA (pv 5) aE)
 ac_rfl
 have hU:D.U.length=9:=by unfold WD.U;rw[cJ,bH,S.ok.v4,S.ok.p4]
 have ad:=S.ok.f3;refine⟨_,rfl,_,rfl,_,rfl,hd,en,wd,WA,D,t,r,rfl,S,by lia,λx1 H1 t1 S1 f1 ae _=>?_⟩;refine⟨_,rfl,_,rfl,_,rfl,hd,en,wd,WA,D,t1,r,rfl,S1,by lia,λY H2 t2 n f2 aa _=>⟨_,_,rfl,?_⟩⟩;obtain⟨d,m,M⟩:=n.hand;refine⟨_,rfl,_,rfl,wd,_,rfl,n.w.g.2.2.2.2.2.2.2.1,hd,WA.fields,d,m,t2,r,_,rfl,M,by lia,iH n.w.fields.2 M,SqL.of n.w.fields.2,?_,by rw[aK];lia,λx d3 m3 t3 hx c3 e3=>?_⟩
 .intro z;have:=cF List.length z;rw[aK,jB]at this;lia
 obtain⟨B,a8,rfl⟩:=wr2.mp hx;have S3:=n.setHand (r':=r) c3;have a9:=(f1.trans f2).put' (a:=hd) (o:=hl d3 m3 t3 r) (by trivial);obtain⟨d,m,M⟩:=S3.hand;refine⟨_,rfl,hd,d,m,t3,r,2,rfl,M,by lia,by decide,by decide,λx d4 m4 X x0 x1 c4 e4=>⟨rfl,_,rfl,?_⟩⟩;have C:=S3.setHand (r':=r) c4;have a4:=a9.put' (a:=hd) (o:=hl d4 m4 X r) (by trivial);obtain⟨kv,J,L⟩:=C.env;obtain⟨W,N,I⟩:=C.held;refine bI (λc=>?_) λc=>?_
 .exists _,rfl,en,rfl,.inl ⟨_,.inl J⟩,_,rfl,_,DGet.k (k:=(Sum.inr Y:aF)) J,_,rfl,wd,_,rfl,C.w.g.2.2.2.2.2.2.2.2.2.1,_,rfl,WA.held,_,rfl,DPut.k (k:=(Sum.inr B:aF)) N<|bG (by have:=I.len;lia);have l:=C.setHeld<|I.put a8<|L.get<|Sum.inr Y;have a6:=a4.put' (a:=WA.held) (o:=.dK<|aO W (Sum.inr B)<|(aG kv<|Sum.inr Y).getD .non) (by trivial);refine⟨_,rfl,_,rfl,_,rfl,dO rfl,λZ u=>?_⟩;exact q Z _ X ⟨.put _ _ _,zb1,λ_ e=>nomatch e⟩ (l.fr0<|FrS.new u) (a6.trans<|FrS.new u) (by lia)
 .refine⟨_,rfl,_,rfl,_,rfl,hd,en,wd,WA,D,X,r,rfl,C,by lia,λx5 H5 t5 a5 l f5 ac _=>?_⟩;obtain⟨kv,J,L⟩:=l.env;obtain⟨W,N,I⟩:=l.held;exists _,rfl,wd,_,rfl,l.w.g.2.2.2.2.2.2.2.2.2.1,WA.held,rfl,.inl ⟨_,.inl N⟩,_,rfl,_,DGet.k (k:=(Sum.inr B:aF)) N,_,rfl,_,rfl,en,_,rfl,DPut.k (k:=(Sum.inr x5:aF)) J<|bG (by have:=L.len;lia);have S6:=l.setEnv<|L.put a5<|I.get<|Sum.inr B;have a7:=(a4.trans f5).put' (a:=en) (o:=.dK<|aO kv (Sum.inr x5)<|(aG W<|Sum.inr B).getD .non) (by trivial);refine⟨_,rfl,_,rfl,_,rfl,dO rfl,λZ u=>?_⟩;exact q Z _ t5 ⟨.take _ _ _,zb1,λ_ e=>nomatch e⟩ (S6.fr0<|FrS.new u) (a7.trans<|FrS.new u) (by lia)
abbrev MT:Stmt:=top 61
inductive TV(vs:List V)(H:Hp)(Q:VK):Prop
 | mk(hd en wd:Addr)(A:WA)(D:WD)(t r lv:Int)(h1:vs=[.ref hd,.ref wd,.ref en,.int lv])(h2:Sit H hd en wd A D t r)(h3:t+18<1000000)(h4:∀(x:Addr)(H':Hp)(t':Int),BF (eV D) H' x->Sit H' hd en wd A D t' r->FrS (Ms hd en A) H H'->t'<=t+18->Q (.ref x) H'):TV  vs H Q
def BJ:Sp:=λvs H Q _=>TV  vs H Q
def Ws(D:WD)(H:Hp)(as:List Addr):Prop:=∀a∈as,∃o d,H a=some (.tup [.str o,.str d])/\o∈D.names/\d∈D.deeds/\MN D o d
def Ws.mono(h:Ws D H as)(f:∀b xs,H b=some (.tup xs)->H' b=some (.tup xs)):Ws D H' as:=λa i=>by
 obtain⟨o,d,e,r⟩:=h a i;exact⟨o,d,f _ _ e,r⟩
def Ws.app(h:Ws D H as)(h':Ws D H bs):Ws D H (as++bs):=λa b=>(wr7.mp b).elim (h a)<|h' a
def EX(hp:H p=some (.lst ys)):∀b xs,H b=some (.tup xs)->upd H p o b=some (.tup xs):=λb xs h=>by
 rw[aC λz=>by rw[z,hp]at h;cases h];exact h
def SD(ds:List Str)(lo hi:Option Int):∃ds':List Str,cW (ds.map V.str) lo hi=ds'.map V.str/\↑ds'<=↑ds/\∀x∈ds',x∈ds:=by
 unfold cW;rw[<-yK,<-xR];refine⟨_,rfl,?_,λx a=>List.mem_of_mem_drop<|List.mem_of_mem_take a⟩;rw[eM,mP];lia
abbrev zH:List Str:=[qH,qW,"_law_env","_law_level","_law_y","_law_kind","_law_some","_law_ways","_law_deed_here","_law_above","_law_args_here","_law_x"]
def zp4:bZ zH qF (bR MT):=cC
def Cr(F:Fun K "_law_call" "_law_call" MT f fd)(T:aS P w K mg base k "_law_take" qB gG)(O:aS P w K mg base k "_law_of" qC (cP K))(V':aS P w K mg base k "_law_variable" qA nR)(L:aS P w K mg base k "_law_line" qG BE)(G:aS P w K mg base k "_law_target" qA uK)(HS:aS P w K mg base k "_law_has" qE IF)(MK:aS P w K mg base k "_law_make" qA GE)(AR:aS P w K mg base k "_law_args" qD ME):
  aR P w K mg base bQ (k+1) f fd qF BJ:=by
 refine F.ok zp4 (λvs H Q E h=>?_) λc0 A outer s H vs Q E hr h=>?_
 .obtain⟨hd,en,wd,A,D,t,r,J,rfl,_⟩:=h;rfl
 obtain⟨hd,en,wd,WA,D,t,r,J,rfl,S,ht,q⟩:=h;have M:=eC hr;have ar:(["_law_name","_law_elder"]:List Str).Nodup:=by rfl'
 have b8:(["_law_one","_law_deed_here",qW]:List Str).Nodup:=by rfl'
 exists _,aL (sL 4 zp4.nd<|bB V' hr rfl<|aA (pv 0)<|aA (pv 1)<|aA (pv 2) aE)
  (aL (sL 5 zp4.nd<|iS M (pv 2) (pv 4) ⟨rfl,rfl,rfl,rfl⟩)<|aL (cL (iL<|oR<|pv 5) (aQ<|sL 5 zp4.nd<|bB O hr rfl<|aA (pv 0)<|aA (iE (N':=["_law_name","_law_elder"]) (src:=[none,none]) rfl eS (hZ<|bT M (pv 1) bD λ_ _=>rfl) (g:=eN K 2<|dW (bW 0)<|dW (bW 1) eO) (λ_ _ _ _=>eG (n:=2) rfl<|bL (gL 0 ar)<|bL (gL 1 ar) eK) (λ_ _ _ _=>gO) λ_ _ _ _=>pv 0) aE) dD)<|aL (sL 6 zp4.nd<|jR xH (bT M (pv 1) bD λ_ _=>rfl) (jK<|cA jJ (pv 3) aN) jL)<|aL (cL (bY eZ (bB T hr rfl<|aA (pv 0)<|aA aN aE) aN<|cE _) (aQ<|sL 6 zp4.nd<|bT M (pv 1) bD λ_ _=>rfl) dD)<|aL (sL 7 zp4.nd<|cG aE)<|aL (dZ dJ rfl (hZ<|pv 6) (wZ (i:=8) zp4.nd rfl<|Or.inr rfl)<|aQ<|dQ<|eP eE PySem.F.slot_list_extend PySem.F.type_list_extend Bq (pv 7)<|aA (iE (N':=["_law_one","_law_deed_here",qW]) (src:=[none,some 8,some 1]) rfl eS (hZ<|bB L hr rfl<|aA (pv 1)<|aA (pv 5) aE) (g:=bW 0) (λ_ _ _ _=>gL 0 b8) (λ_ _ _ _=>sR<|yX<|bB HS hr rfl<|aA (pv 2)<|aA (pv 0)<|aA (pv 1) aE) λ_ _ _ _=>bX<|aA (pv 0)<|aA (pv 1) aE) aE)<|aL (cL (bY (QS<|mF M) (pv 7) (cG aE)<|cE _) (aQ<|bS<|bB MK hr rfl<|aA (pv 0)<|aA (pv 1)<|aA (pv 2) aE) dD)<|aL (iQ (bB O hr rfl<|aA (pv 0)<|aA (pv 7) aE)<|eG (n:=2) rfl<|bL (gL 9 zp4.nd)<|bL (wZ (i:=8) zp4.nd rfl<|Or.inr rfl) eK)<|aL (sL 10 zp4.nd<|bB AR hr rfl<|aA (pv 0)<|aA (pv 1)<|aA (pv 2)<|aA (pv 9)<|aA (pv 8) aE)<|aL (sL 11 zp4.nd<|bB G hr rfl<|aA (pv 0)<|aA (pv 1)<|aA (pv 2) aE)<|aL (fO M (pv 2) (pv 11) (iS M (bT M (pv 1) bD λ_ _=>rfl) (pv 8) ⟨rfl,rfl,rfl,rfl⟩) rfl)<|aQ<|bS<|bX<|aA bD<|aA (pv 11)<|aA (pv 4)<|aA (pv 9)<|aA (pv 8)<|aA (pv 10) aE)
 ac_rfl
 have hU:D.U.length=9:=by unfold WD.U;rw[cJ,bH,S.ok.v4,S.ok.p4]
 have c2:=S.ok.l12;have h6:=S.ok.d6;refine⟨_,rfl,_,rfl,_,rfl,hd,en,wd,WA,D,t,r,rfl,S,by lia,λB H1 t1 S1 f1 bw _=>?_⟩;obtain⟨kv,a6,hk⟩:=S1.env;exists _,rfl,en,rfl,.inl ⟨_,.inl a6⟩,_,rfl,_,DGet.k (k:=(Sum.inr B:aF)) a6;have au:=hk.get<|Sum.inr B;generalize (aG kv<|Sum.inr B).getD .non=vk at au;have bp:∀(nx:St->Hp->Prop),(∀(n:Str)(H2:Hp)(t2:Int),n∈D.names->Sit H2 hd en wd WA D t2 r->FrS (Ms hd en WA) H H2->t2<=t+3->nx [some<|.ref hd,some<|.ref wd,some<|.ref en,some<|.int J,some<|.str B,some<|.str n,none,none,none,none,none,none] H2)->
   iM (tB<|AG<|aI 5) (fZ (fL (cP K) [] E0<|aY (aI 0)<|aY (ER (nI K<|nS (aI 1)<|tC<|.str "tree") [none,none] (eN K 2<|dW (bW 0)<|dW (bW 1) eO) lU<|aI 0) aX)<|bW 5) qX ⟨nx,Q,λ_ _=>False,λ_ _=>False⟩ [some<|.ref hd,some<|.ref wd,some<|.ref en,some<|.int J,some<|.str B,some vk,none,none,none,none,none,none] H1:=by
  intro nx a4;exists _,rfl,_,rfl;rcases au with rfl | ⟨n,hn,rfl⟩
  .show if (decide<|V.non=V.non)=true then _ else _
   rw[bC<|by trivial];obtain⟨ts,b1,b6,be⟩:=S1.w.tree;refine⟨_,rfl,_,rfl,wd,_,rfl,S1.w.g.1,WA.tree,rfl,⟨_,SqL.of b1.2⟩,λDn bb=>?_⟩;refine IA (tr:=D.tr) b1.2 b6 (λj t x a b=>(be j t x a b).2) bb (by lia) λH2 f2 ap=>?_
   have W:=S1.fr0 f2;obtain⟨d,m,Z⟩:=W.hand;refine⟨hd,Dn,d,m,t1,r,_,rfl,Z,by lia,iH ap Z,SqL.of ap,?_,by rw[aK,aK];lia,λx d3 m3 t3 e c3 e3=>?_⟩
   .intro z;have:=cF List.length z;rw[aK,aK,jB]at this;exact S.ok.l1<|vf4.mp this
   .obtain⟨n,hn,rfl⟩:=wr2.mp e;exact a4 n _ t3 hn (W.setHand c3) ((f1.trans<|f2.mono<|by trivial).put'<|by trivial) (by lia)
  .show if (decide<|V.str n=V.non)=true then _ else _
   rw[aZ<|by trivial];exact a4 n H1 t1 hn S1 f1 (by lia)
 refine bp _ λn H2 t2 hn W f2 bt=>?_;refine⟨_,rfl,wd,_,rfl,W.w.g.2.2.1,_,rfl,J,1,rfl,rfl,_,rfl,WA.deeds,_,rfl,SqL.of W.w.deeds.2,λps aa=>?_⟩;obtain⟨ds,ed,c1,bi⟩:=SD D.deeds (some<|J+1) none;rw[ed];have S3:=W.fr0<|FrS.new (S:=[]) (o:=.lst<|ds.map V.str) aa;have f3:FrS (Ms hd en WA) H (upd H2 ps<|.lst<|ds.map V.str):=f2.trans<|FrS.new aa;have a1:Stt (Ms hd en WA) (upd H2 ps<|.lst<|ds.map V.str) ps (.lst<|ds.map V.str):=⟨W.notin aa,zb1⟩;generalize upd H2 ps (.lst<|ds.map V.str)=H3 at S3 f3 a1;have b4:∀(nx:St->Hp->Prop),(∀(pz:Addr)(zs:List Str)(H4:Hp)(u:Int),Stt (Ms hd en WA) H4 pz (.lst<|zs.map V.str)->↑zs<=6->(∀x∈zs,x∈D.deeds)->Sit H4 hd en wd WA D u r->FrS (Ms hd en WA) H H4->u<=t+4->nx [some<|.ref hd,some<|.ref wd,some<|.ref en,some<|.int J,some<|.str B,some<|.str n,some<|.ref pz,none,none,none,none,none] H4)->
   iM (iC<|dC wH (fL gG [] E0<|aY (aI 0)<|aY (tC<|.int 8) aX)<|tC<|.int 0) (fZ (nS (aI 1)<|tC<|.str "deeds")<|bW 6) qX ⟨nx,Q,λ_ _=>False,λ_ _=>False⟩ [some<|.ref hd,some<|.ref wd,some<|.ref en,some<|.int J,some<|.str B,some<|.str n,some<|.ref ps,none,none,none,none,none] H3:=by
  intro nx a4;obtain⟨d,m,Z⟩:=S3.hand;refine⟨_,rfl,hd,d,m,t2,r,8,rfl,Z,by lia,by decide,by decide,λx d4 m4 u x0 x1 c4 e4=>⟨rfl,_,rfl,?_⟩⟩;have N:=S3.setHand (r':=r) c4;have f4:=f3.put' (a:=hd) (o:=hl d4 m4 u r) (by trivial);refine bI (λc=>?_) λc=>?_
  .exact⟨_,rfl,wd,_,rfl,N.w.g.2.2.1,a4 WA.deeds D.deeds _ u N.w.deeds h6 (λx e=>e) N f4<|by lia⟩
  .exact a4 ps ds _ u (a1.keep<|FrS.chg<|by trivial) (by lia) bi N f4 (by lia)
 refine b4 _ λpz zs H4 u hz bv bf N f4 bu=>?_;refine⟨bM _,λI a2=>?_⟩;have S5:=N.fr0<|FrS.new (S:=[]) (o:=.lst []) a2;have ab:I∉Ms hd en WA:=N.notin a2;have ai:pz≠I:=aP hz.2 a2;obtain⟨l,b7,bd,bg⟩:=HW S.ok hn;exists _,rfl,pz,rfl,⟨_,SqL.of<|by rw[aC ai];exact hz.2⟩;refine pO (xs:=zs.map V.str) (λi σ Hx=>∃(dx:Option V)(as:List Addr),σ=[some<|.ref hd,some<|.ref wd,some<|.ref en,some<|.int J,some<|.str B,some<|.str n,some<|.ref pz,some<|.ref I,dx,none,none,none]/\Sit Hx hd en wd WA D u r/\FrS (Ms hd en WA) H4 Hx/\Hx I=some (.lst<|as.map V.ref)/\Ws D Hx as/\↑as<=12*i) ⟨_,[],rfl,S5,FrS.new a2,zb1,(λa ha=>nomatch ha),by simp⟩ ?_ ?_ ?_
 .rintro i σ Hx hi ⟨_,_,_,_,fr,_⟩;exact SqL.of (hz.keep fr).2
 .rintro i x σ Hx e ⟨dx,as,rfl,Sx,fr,ay,bm,a5⟩;obtain⟨hi,_⟩:=zz2.mp e;rw[aK]at hi;rw[bO,bF hi]at e;cases e;have az:zs[i]∈D.deeds:=bf _<|iT hi;refine⟨_,rfl,.inl ⟨rfl,_,SqL.of ay⟩,_,rfl,_,rfl,wd,_,WA,D,n,l,rfl,Sx.w,S.ok,b7,λla Hy fy bx ao=>⟨la,rfl,⟨_,SqL.of ao⟩,λDl aq=>?_⟩⟩;have Sy:=Sx.fr0 fy;have bl:=fy _ _ (by trivial) ay;have ae:Ws D Hy as:=bm.mono λb xs h=>fy _ _ (by trivial) h
  refine xM (xs:=l.map V.str) (λY σ Hz=>(∃x,σ=[x,some<|.str zs[i],some<|.ref wd])/\FrS [] Hy Hz/\∃bs:List Addr,↑bs<=Y/\Hz Dl=some (.lst<|bs.map V.ref)/\Ws D Hz bs) ⟨⟨_,rfl⟩,(FrS.refl).put aq,[],by simp,zb1,λa ha=>nomatch ha⟩ ?_ ?_ ?_
  .rintro Y σ Hz hi ⟨_,C,_⟩;exact SqL.of<|C _ _ (by trivial) ao
  .rintro Y x σ Hz e ⟨⟨x0,rfl⟩,C,bs,an,ad,ac⟩;obtain⟨a8,_⟩:=zz2.mp e;rw[aK]at a8;rw[bO,bF a8]at e;cases e;have av:l[Y]∈D.names:=bg _<|iT a8;refine⟨_,rfl,_,rfl,_,rfl,wd,_,WA,D,l[Y],zs[i],rfl,(Sy.fr0 C).w,S.ok,av,az,λb Hv fv bo=>⟨_,rfl,?_⟩⟩;have a9:=fv _ _ (by trivial) ad;have b2:Ws D Hv bs:=ac.mono λb xs h=>fv _ _ (by trivial) h
   refine bI (λc=>?_) λc=>?_
   .refine⟨_,rfl,_,rfl,dO rfl,λtp a3=>?_⟩;have b9:Dl≠tp:=aP a9 a3;have ax:upd Hv tp (.tup [V.str l[Y],V.str zs[i]]) Dl=some (.lst<|bs.map V.ref):=by rw[aC b9];exact a9
    exists _,ax,by rw[aK];exact bG (by lia),⟨_,rfl⟩,((C.trans fv).trans<|FrS.new a3).put aq,bs++[tp],?_,?_
    .rw[bH,dU];lia
    .rw[zb1,bN];rfl
    .refine Ws.mono (H:=upd Hv tp<|.tup [V.str l[Y],V.str zs[i]]) (Ws.app (b2.mono λb xs h=>?_) λa ha=>?_)<|EX ax
     .rw[aC<|aP h a3];exact h
     .rw[wq1.mp ha];exact⟨_,_,zb1,av,az,bo c⟩
   .exact⟨⟨_,rfl⟩,C.trans fv,bs,by lia,a9,b2⟩
  .rintro σ Hz ⟨_,C,bs,an,ad,ac⟩;rw[aK]at an;have al:=C _ _ (by trivial) bl;have Sz:=Sy.fr0 C;have aj:Ws D Hz as:=ae.mono λb xs h=>C _ _ (by trivial) h
   have X:=Sit.own (o:=.lst<|as.map V.ref++bs.map V.ref) N Sz (fr.trans<|(fy.trans C).mono<|by trivial) a2;refine⟨I,Dl,_,_,rfl,rfl,al,ad,by rw[aK,aK];exact cN (bG<|by lia),_,as++bs,rfl,X.1,X.2,by rw[zb1,bN],(Ws.app aj ac).mono<|EX al,by rw[bH];lia⟩
 rintro σ H6 ⟨dx,as,rfl,S6,f6,am,bc,a5⟩;rw[aK]at a5;have b5:=f4.trans f6;refine⟨_,rfl,bM _,λpe a7=>?_⟩;have X:=S6.fr0<|FrS.new (S:=[]) (o:=.lst []) a7;have b0:I≠pe:=aP am a7;have ag:FrS (Ms hd en WA) H (upd H6 pe<|.lst []):=b5.trans<|FrS.new a7;have af:upd H6 pe (.lst []) I=some (.lst<|as.map V.ref):=by rw[aC b0];exact am
 have aw:Ws D (upd H6 pe<|.lst []) as:=bc.mono λb xs h=>by rw[aC<|aP h a7];exact h
 exists I,pe,_,rfl,rfl,b0,SqL.of af,SqL.of zb1,_,rfl;generalize upd H6 pe (.lst [])=H7 at X ag af aw;cases as with
 | nil=>
  refine⟨_,rfl,_,rfl,_,rfl,hd,en,wd,WA,D,u,r,rfl,X,by lia,λx H8 t8 p8 S8 f8 c5=>q x H8 t8 (.inl p8) S8 (ag.trans f8)<|by lia⟩
 | cons a0 as'=>
  obtain⟨d,m,Z⟩:=X.hand;refine⟨_,rfl,_,rfl,hd,I,d,m,u,r,_,rfl,Z,by lia,λz=>ab (by rw[z];simp),SqL.of af,by simp,by rw[aK];lia,λx d8 m8 t8 e c8 e8=>?_⟩;obtain⟨tp,a3,rfl⟩:=wr2.mp e;obtain⟨on,dn,e1,e2,e3,e4⟩:=aw tp a3;have S8:=X.setHand (r':=r) c8;have f8:=ag.put' (a:=hd) (o:=hl d8 m8 t8 r) (by trivial);have bq:tp≠hd:=λz=>by have:=Z.1;rw[<-z,e1]at this;cases this
  exists tp,_,rfl,SqT.of (by rw[aC bq];exact e1),rfl,_,_,rfl,_,_,rfl,rfl;refine⟨_,rfl,_,rfl,_,rfl,_,rfl,_,rfl,hd,en,wd,WA,D,t8,r,on,dn,rfl,S8,by lia,e2,e3,λx9 bk H9 t9 b3 bj S9 f9 bz=>?_⟩;refine⟨_,rfl,_,rfl,_,rfl,hd,en,wd,WA,D,t9,r,rfl,S9,by lia,λxa Ha ta bn Sa fa br _=>?_⟩;obtain⟨kv,a6,hk⟩:=Sa.env;obtain⟨kt,ak,bh⟩:=Sa.told;exists _,rfl,wd,_,rfl,Sa.w.g.2.2.2.2.2.2.2.2.1,WA.told,rfl,.inl ⟨_,.inl ak⟩,_,rfl,_,DGet.k (k:=(Sum.inr dn:aF)) ak,_,rfl,_,rfl,en,_,rfl,DPut.k (k:=(Sum.inr xa:aF)) a6<|bG (by have:=hk.len;lia);have Sb:=Sa.setEnv<|hk.put bn<|bh.get<|Sum.inr dn;have fb:=((f8.trans f9).trans fa).put' (a:=en) (o:=.dK<|aO kv (Sum.inr xa)<|(aG kt<|Sum.inr dn).getD .non) (by trivial);refine⟨_,rfl,_,rfl,_,rfl,_,rfl,_,rfl,dO rfl,λpr ah=>?_⟩;have ba:Tup H9 (upd (upd Ha en<|.dK<|aO kv (Sum.inr xa)<|(aG kt<|Sum.inr dn).getD .non) pr<|.tup [V.str "call",V.str xa,V.str B,V.str on,V.str dn,V.ref x9]):=((S9.tup fa).trans<|Sa.tup<|FrS.chg<|.tail _<|.head _).trans<|Tup.new ah;exact q pr _ ta (.inr ⟨xa,B,on,dn,x9,bk,zb1,ba _ _ b3,bj,e4⟩) (Sb.fr0<|FrS.new ah) (fb.trans<|FrS.new ah) (by lia)
abbrev qZ:Stmt:=top 63
abbrev EC:Stmt:=top 64
abbrev jZ:List Str:=[qH,qW,"_law_env","_law_level","_law_deep"]
abbrev kC:List Str:=[qH,qW,"_law_env","_law_level","_law_deep","_law_most"]
inductive nV(n:Nat)(vs:List V)(H:Hp)(Q:VK):Prop
 | mk(hd en wd:Addr)(A:WA)(D:WD)(t r lv:Int)(dp:Nat)(h1:vs=[.ref hd,.ref wd,.ref en,.int lv,.int (dp:Int)])(h2:dp<=n)(h3:Sit H hd en wd A D t r)(h4:0<=r)(h5:t+25*r+24<1000000)(h6:∀(x:Addr)(fs:List Addr)(H':Hp)(t' r':Int),Fl (eV D) H' n [x] fs->(↑fs:Int)+r'<=r+1->Sit H' hd en wd A D t' r'->FrS (Ms hd en A) H H'->0<=r'->r'<=r->t'+25*r'<=t+25*r+24->Q (.ref x) H'):nV n vs H Q
def LG(n:Nat):Sp:=λvs H Q _=>nV n vs H Q
inductive NX(n:Nat)(vs:List V)(H:Hp)(Q:VK):Prop
 | mk(hd en wd:Addr)(A:WA)(D:WD)(t r lv mo:Int)(dp:Nat)(h1:vs=[.ref hd,.ref wd,.ref en,.int lv,.int (dp:Int),.int mo])(h2:dp<=n)(h3:0<=mo)(h4:mo<=100)(h5:Sit H hd en wd A D t r)(h6:0<=r)(h7:t+25*r+1<1000000)(h8:∀(x:Addr)(rs fs:List Addr)(H':Hp)(t' r':Int),H' x=some (.tup<|rs.map V.ref)->Fl (eV D) H' n rs fs->(↑fs:Int)+r'<=r->Sit H' hd en wd A D t' r'->FrS (Ms hd en A) H H'->0<=r'->r'<=r->t'+25*r'<=t+25*r+1->Q (.ref x) H'):NX n vs H Q
def sJ(n:Nat):Sp:=λvs H Q _=>NX n vs H Q
def AH:Nat->Sp
 | 0=>λ_ _ _ _=>False
 | n+1=>sJ n
abbrev JF:List Str:=[qH,qW,"_law_env","_law_level","_law_deep","_law_way","_law_y","_law_x","_law_lots"]
def xg5:bZ JF jZ (bR qZ):=cC
def vK(F:Fun K "_law_row" "_law_row" qZ f fd)(T:aS P w K mg base k "_law_take" qB gG)(O:aS P w K mg base k "_law_of" qC (cP K))(V':aS P w K mg base k "_law_variable" qA nR)(G:aS P w K mg base k "_law_target" qA uK)(MK:aS P w K mg base k "_law_make" qA GE)(FI:aS P w K mg base k "_law_field" qA HR)(CA:aS P w K mg base k "_law_call" qF BJ)(R:aS P w K mg base k "_law_rows" kC (AH n))(mr:mg "range"=none)(ml:mg "len"=none)(ap:mg "tuple"=none):
  aR P w K mg base bQ (k+1) f fd jZ (LG n):=by
 refine F.ok xg5 (λvs H Q E h=>?_) λba A outer s H vs Q E hr h=>?_
 .obtain⟨hd,en,wd,A,D,t,r,X,C,rfl,_⟩:=h;rfl
 obtain⟨hd,en,wd,WA,D,t,r,X,C,rfl,bd,S,hr0,ht,q⟩:=h;have hu:=eC hr;have b2:(["_law_k",qH,qW,"_law_env","_law_level","_law_deep"]:List Str).Nodup:=by rfl'
 exists _,aL (sL 5 xg5.nd<|bB T hr rfl<|aA (pv 0)<|aA aN aE)
  (aL (cL (bY xA (pv 5) aN<|cE _) (aQ<|bS<|bB MK hr rfl<|aA (pv 0)<|aA (pv 1)<|aA (pv 2) aE) dD) (aL (cL (bY eZ (pv 5) aN<|cE _) (aL (sL 6 xg5.nd<|bB V' hr rfl<|aA (pv 0)<|aA (pv 1)<|aA (pv 2) aE)<|aL (sL 7 xg5.nd<|bB G hr rfl<|aA (pv 0)<|aA (pv 1)<|aA (pv 2) aE)<|aL (fO hu (pv 2) (pv 7) (iS hu (pv 2) (pv 6) ⟨rfl,rfl,rfl,rfl⟩) rfl)<|aQ<|bS<|bX<|aA bD<|aA (pv 7)<|aA (pv 6) aE) dD) (aL (cL (bY xA (pv 5) aN<|cE _) (aQ<|bS<|bB FI hr rfl<|aA (pv 0)<|aA (pv 1)<|aA (pv 2) aE) dD) (aL (cL (PW.pt<|kJ (bY eZ (pv 5) aN<|cE _)<|mU<|bY (AB<|mF hu) (bT hu (pv 1) bD λ_ _=>rfl) (cG aE)<|cE _) (aQ<|bS<|bX<|aA bD<|aA (bB O hr rfl<|aA (pv 0)<|aA (bT hu (pv 1) bD λ_ _=>rfl) aE) aE) dD) (aL (cL (PW.pt<|IJ (bY eZ (pv 5) aN<|cE _)<|KA<|bY eZ (pv 5) aN<|cE _) (aQ<|bS<|bX<|aA bD<|aA (bB O hr rfl<|aA (pv 0)<|aA (bT hu (pv 1) bD λ_ _=>rfl) aE) aE) dD) (aL (cL (PW.pt<|kJ (bY xA (pv 5) aN<|cE _)<|kJ (bY lS (pv 4) aN<|cE _)<|mU<|bY lS (eI (pv 0) aN) aN<|cE _) (aL (pY (i:=8) (N':=["_law_k",qH,qW,"_law_env","_law_level","_law_deep"]) (src:=[none,some 0,some 1,some 2,some 3,some 4]) rfl xg5.nd rfl rfl eS (lC rfl mr<|aA (cA lO aN<|pv 5) aE) (g:=bW 0) (λ_ _ _ _=>gL 0 b2) (λ_ _ _ _=>gO) λ_ _ _ _=>bB R hr rfl<|aA (pv 1)<|aA (pv 2)<|aA (pv 3)<|aA (pv 4)<|aA (cA lO (pv 5) aN)<|aA aN aE)<|aQ<|bS<|cA OD (bX<|aA (eI (cG<|aA bD<|aA bD aE)<|cA lO (eA iW rfl ml iR<|aA (pv 8) aE) aN) aE)<|dS gH rfl ap (by rfl')<|aA (pv 8) aE) dD)
  (aQ<|bS<|bB CA hr rfl<|aA (pv 0)<|aA (pv 1)<|aA (pv 2)<|aA (pv 3) aE)))))))
 ac_rfl
 have hU:D.U.length=9:=by unfold WD.U;rw[cJ,bH,S.ok.v4,S.ok.p4]
 have b6:=S.ok.f3;have ar:=S.ok.lateLen;obtain⟨d,m,Z⟩:=S.hand;refine⟨_,rfl,hd,d,m,t,r,14,rfl,Z,by lia,by decide,by decide,λx d1 m1 u x0 x1 c1 e1=>?_⟩;have N:=S.setHand (r':=r) c1;have f1:FrS (Ms hd en WA) H (upd H hd<|hl d1 m1 u r):=FrS.chg (by trivial);have a6:upd H hd (hl d1 m1 u r) hd=some (hl d1 m1 u r):=zb1;generalize upd H hd (hl d1 m1 u r)=H1 at N f1 a6;exists _,rfl,_,_,rfl,rfl,_,rfl;refine bI (λc=>?_) λc=>?_
 .exact⟨_,rfl,_,rfl,_,rfl,hd,en,wd,WA,D,u,r,rfl,N,by lia,λx H2 t2 p2 b B ah=>q x [x] H2 t2 r (.one (.inl p2) .nil) (by show(1:Int)+_<=_;lia) b (f1.trans B) hr0 (by lia)<|by lia⟩
 have n3:¬x<3:=λz=>c<|eW z;exists _,rfl,rfl,_,rfl;refine bI (λc=>?_) λc=>?_
 .refine⟨_,rfl,_,rfl,_,rfl,hd,en,wd,WA,D,u,r,rfl,N,by lia,λy2 H2 t2 b B ah _=>?_⟩;refine⟨_,rfl,_,rfl,_,rfl,hd,en,wd,WA,D,t2,r,rfl,b,by lia,λx3 H3 Y b3 S3 f3 av _=>?_⟩;obtain⟨kv,a8,hk⟩:=S3.env;exists _,rfl,en,rfl,.inl ⟨_,.inl a8⟩,_,rfl,_,DGet.k (k:=(Sum.inr y2:aF)) a8,_,rfl,_,rfl,en,_,rfl,DPut.k (k:=(Sum.inr x3:aF)) a8<|bG (by have:=hk.len;lia);have S4:=S3.setEnv<|hk.put b3<|hk.get<|Sum.inr y2;have f4:=((f1.trans B).trans f3).put' (a:=en) (o:=.dK<|aO kv (Sum.inr x3)<|(aG kv<|Sum.inr y2).getD .non) (by trivial);refine⟨_,rfl,_,rfl,dO rfl,λW J=>?_⟩;exact q W [W] _ Y r (.one (.inl ⟨.copy _ _,zb1,λ_ e=>nomatch e⟩) .nil) (by show(1:Int)+_<=_;lia) (S4.fr0<|FrS.new J) (f4.trans<|FrS.new J) hr0 (by lia) (by lia)
 have n4:x≠3:=λz=>c (eW<|by rw[z])
 exists _,rfl,_,_,rfl,rfl,_,rfl;refine bI (λc=>?_) λc=>?_
 .exact⟨_,rfl,_,rfl,_,rfl,hd,en,wd,WA,D,u,r,rfl,N,by lia,λx H2 t2 p2 b B ah=>q x [x] H2 t2 r (.one (.inl p2) .nil) (by show(1:Int)+_<=_;lia) b (f1.trans B) hr0 (by lia)<|by lia⟩
 have n6:¬x<6:=λz=>c<|eW z;have rest:∀(H2:Hp),Sit H2 hd en wd WA D u r->FrS (Ms hd en WA) H H2->H2 hd=some (hl d1 m1 u r)->
   fT (iM (KY (iC<|dC wH (aI 5)<|tC<|.int 6)<|iC<|dC wH (aI 5)<|tC<|.int 7) (hC<|dE<|aY (tC<|.str "say")<|aY (fL (cP K) [] E0<|aY (aI 0)<|aY (nS (aI 1)<|tC<|.str "fields") aX) aX) qX)
   (fT (iM (jE (iC<|dC (hY λi j=>.bl<|decide<|i<j) (aI 5)<|tC<|.int 10)<|jE (iC<|dC (hY λi j=>.bl<|decide<|j<i) (aI 4)<|tC<|.int 0)<|iC<|dC (hY λi j=>.bl<|decide<|j<i) (dC (lY K) (aI 0)<|tC<|.int 3)<|tC<|.int 2) (fT (fZ (ER (oE<|aY (dC (hY λi j=>.int<|i-j) (tC<|.int 10)<|aI 5) aX) [none,some 0,some 1,some 2,some 3,some 4] (bW 0) lU<|fL (AH n) [] E0<|aY (aI 1)<|aY (aI 2)<|aY (aI 3)<|aY (aI 4)<|aY (dC (hY λi j=>.int<|i-j) (aI 5)<|tC<|.int 1)<|aY (tC<|.int 3) aX)<|bW 8)<|hC<|dC (nF K) (dE<|aY (dC (lY K) (iG<|aY (tC<|.str "again")<|aY (tC<|.str "either") aX)<|dC (hY λi j=>.int<|i-j) (lN (λxs H Q=>∃p ys,xs=[.ref p]/\(SqL K H p ys\/SqT K H p ys)/\Q (.int ↑ys) H)<|aY (aI 8) aX)<|tC<|.int 1) aX)<|lN (λxs H Q=>∃p ys,xs=[.ref p]/\((SqL K H p ys/\∀l,H l=none->Q (.ref l) (upd H l<|.tup ys))\/(SqT K H p ys/\Q (.ref p) H)))<|aY (aI 8) aX) qX)<|hC<|fL BJ [] E0<|aY (aI 0)<|aY (aI 1)<|aY (aI 2)<|aY (aI 3) aX)
   ⟨λ_ H=>Q .non H,Q,λ_ _=>False,λ_ _=>False⟩ [some<|.ref hd,some<|.ref wd,some<|.ref en,some<|.int X,some<|.int (C:Int),some<|.int x,none,none,none] H2:=by
  intro H2 b B a7;have say:hC (dE<|aY (tC<|.str "say")<|aY (fL (cP K) [] E0<|aY (aI 0)<|aY (nS (aI 1)<|tC<|.str "fields") aX) aX) ⟨λ_ H=>Q .non H,Q,λ_ _=>False,λ_ _=>False⟩ [some<|.ref hd,some<|.ref wd,some<|.ref en,some<|.int X,some<|.int (C:Int),some<|.int x,none,none,none] H2:=by
   obtain⟨d,m,Z⟩:=b.hand;refine⟨_,rfl,_,rfl,wd,_,rfl,b.w.g.2.2.2.2.2.2.2.1,hd,WA.fields,d,m,u,r,_,rfl,Z,by lia,iH b.w.fields.2 Z,SqL.of b.w.fields.2,?_,by rw[aK];lia,λx d3 m3 Y hx c3 e3=>?_⟩
   .intro z;have:=cF List.length z;rw[aK,jB]at this;lia
   obtain⟨x,a3,rfl⟩:=wr2.mp hx;refine⟨dO rfl,λW J=>?_⟩;exact q W [W] _ Y r (.one (.inl ⟨.say _,zb1,λ_ e=>nomatch e⟩) .nil) (by show(1:Int)+_<=_;lia) ((b.setHand c3).fr0<|FrS.new J) ((B.put'<|by trivial).trans<|FrS.new J) hr0 (by lia) (by lia)
  have ae:hC (fL BJ [] E0<|aY (aI 0)<|aY (aI 1)<|aY (aI 2)<|aY (aI 3) aX) ⟨λ_ H=>Q .non H,Q,λ_ _=>False,λ_ _=>False⟩ [some<|.ref hd,some<|.ref wd,some<|.ref en,some<|.int X,some<|.int (C:Int),some<|.int x,none,none,none] H2:=
   ⟨_,rfl,_,rfl,_,rfl,_,rfl,hd,en,wd,WA,D,u,r,X,rfl,b,by lia,λx H3 Y p3 S3 f3 av=>q x [x] H3 Y r (.one p3 .nil) (by show(1:Int)+_<=_;lia) S3 (B.trans f3) hr0 (by lia)<|by lia⟩
  exists _,rfl,rfl,_,rfl;refine bI (λc=>?_) λc=>?_
  .exact say
  have b9:x≠6:=λz=>c (eW<|by rw[z])
  exists _,rfl,rfl,_,rfl;refine bI (λc=>?_) λc=>?_
  .exact say
  have bb:x≠7:=λz=>c (eW<|by rw[z])
  exists _,rfl,_,_,rfl,rfl,_,rfl;refine bI (λc=>?_) λc=>ae;have bf:x<10:=cQ c;exists _,rfl,_,_,rfl,rfl,_,rfl;refine bI (λc=>?_) λc=>ae;have b7:(0:Int)<(C:Int):=cQ c;exists _,rfl,hd,_,_,_,rfl,rfl,SqL.of a7,AN,_,_,rfl,rfl,_,rfl;refine bI (λc=>?_) λc=>ae;have nr:(2:Int)<r:=cQ c;obtain⟨n',rfl⟩:∃n',n=n'+1:=⟨n-1,by lia⟩;refine⟨_,rfl,_,_,rfl,rfl,_,rfl,by lia,by lia,λL a5=>?_⟩;have ay:L∉Ms hd en WA:=b.notin a5;refine HY (lo:=0) (n:=(10-x).toNat) (λi σ M=>∃(kx:Option V)(tx I:Int)(ls fs:List Addr),σ=[kx,some<|.ref hd,some<|.ref wd,some<|.ref en,some<|.int X,some<|.int (C:Int)]/\Sit M hd en wd WA D tx I/\FrS (Ms hd en WA) H2 M/\0<=I/\I<=r/\tx+25*I<=u+25*r+i/\M L=some (.lst<|ls.map V.ref)/\↑ls=i/\Lots (eV D) M n' ls fs/\(↑fs:Int)+I<=r)
   ⟨_,u,r,[],[],rfl,b.fr0<|FrS.new a5,FrS.new a5,hr0,by lia,by lia,zb1,rfl,.nil,by show(0:Int)+r<=r;lia⟩ ?_ ?_
  .rintro i σ M hi ⟨kx,tx,I,ls,fs,rfl,Sx,fx,a9,al,a3,a1,aq,ac,b0⟩;refine⟨_,rfl,_,rfl,_,rfl,_,rfl,_,rfl,_,_,rfl,rfl,hd,en,wd,WA,D,tx,I,X,3,C-1,?_,by lia,by decide,by decide,Sx,a9,by lia,λv b5 an Hy ty ry aw b1 bc Sy fy b4 b8 be=>?_⟩
   .have:((C-1:Nat):Int)=(C:Int)-1:=by lia
    rw[this];rfl
   .have ak:=fy _ _ ay a1;have S7:=Sit.own (o:=.lst<|ls.map V.ref++[V.ref v]) b Sy (fx.trans fy) a5;have af:Tup Hy (upd Hy L<|.lst<|ls.map V.ref++[V.ref v]):=Tup.lst ak;exact⟨_,ak,bG (by rw[aK];lia),_,ty,ry,ls++[v],fs++an,rfl,S7.1,S7.2,b4,by lia,by lia,by rw[zb1,bN];rfl,by rw[bH,dU];lia,(ac.keep<|(Sx.tup fy).trans af).snoc (af _ _ aw)<|b1.keep af,by rw[bH];lia⟩
  .rintro σ M ⟨kx,tx,I,ls,fs,rfl,Sx,fx,a9,al,a3,a1,aq,ac,b0⟩;have hj:↑ls=1\/↑ls=2:=by lia
   refine⟨dO rfl,λpl ag=>?_⟩;have ai:L≠pl:=aP a1 ag;have az:∃v:Str,dY [V.str "again",V.str "either"] (((↑(ls.map V.ref):Nat):Int)-1)=some (.str v)/\(↑ls=1/\v="again"\/↑ls=2/\v="either"):=by
    rw[aK];rcases hj with h | h
    .exact⟨"again",by rw[h];rfl,.inl ⟨h,rfl⟩⟩
    .exact⟨"either",by rw[h];rfl,.inr ⟨h,rfl⟩⟩
   obtain⟨v,hv,as⟩:=az;refine⟨_,rfl,L,_,rfl,.inl (SqL.of<|by rw[aC ai];exact a1),_,_,rfl,rfl,pl,_,_,_,rfl,rfl,SqL.of zb1,hv,dO rfl,λpt aj=>?_⟩;have a2:upd M pl (.lst [V.str "again",V.str "either"]) L=some (.lst<|ls.map V.ref):=by rw[aC ai];exact a1
   have au:L≠pt:=aP a2 aj;refine⟨_,rfl,L,_,rfl,.inl ⟨SqL.of (by rw[aC au];exact a2),λpu ab=>?_⟩⟩;have ao:pt≠pu:=λz=>by rw[<-z,zb1]at ab;cases ab
   refine⟨pt,pu,[.str v],ls.map V.ref,rfl,rfl,SqT.of (by rw[aC ao];exact zb1),SqT.of zb1,by simp,by rw[aK];show 1+↑ls<=sizeLine;exact cN (bG<|by lia),λz=>?_,λ_ pz am=>?_⟩
   .have:=cF List.length z;rw[aK,jB]at this;lia
   .have ff:FrS [] M _:=(((FrS.new (S:=[]) ag).trans<|FrS.new aj).trans<|FrS.new ab).trans<|FrS.new (o:=.tup<|[V.str v]++ls.map V.ref) am;exact q pz (pz::fs) _ tx I ((ac.keep<|Tup.of0 ff).row zb1 as) (by rw[cJ];lia) (Sx.fr0 ff) (B.trans<|fx.trans<|ff.mono<|by trivial) a9 al (by lia)
 exists _,rfl,rfl,_,rfl;refine bI (λc=>?_) λc=>rest H1 N f1 a6;refine⟨_,rfl,wd,_,rfl,N.w.g.2.1,bM _,λpe a4=>?_⟩;have b:=N.fr0<|FrS.new (S:=[]) (o:=.lst []) a4;have ax:WA.late≠pe:=aP N.w.late.2 a4;exists WA.late,pe,_,rfl,rfl,ax,SqL.of b.w.late.2,SqL.of zb1,_,rfl;have B:FrS (Ms hd en WA) H (upd H1 pe<|.lst []):=f1.trans<|FrS.new a4;have a7:upd H1 pe (.lst []) hd=some (hl d1 m1 u r):=by rw[aC<|aP a6 a4];exact a6
 generalize upd H1 pe (.lst [])=H2 at b B a7;cases hla:D.late with
 | nil=>exact rest H2 b B a7
 | cons y ys=>
  have ad:=b.w.late.2;rw[hla]at ad;have aa:=ar;rw[hla]at aa;obtain⟨d,m,Z⟩:=b.hand;refine⟨_,rfl,_,rfl,wd,_,rfl,b.w.g.2.1,hd,WA.late,d,m,u,r,_,rfl,Z,by lia,iH ad Z,SqL.of ad,by simp,by rw[aK];lia,λx d3 m3 Y hx c3 e3=>?_⟩;obtain⟨x,a3,rfl⟩:=wr2.mp hx;refine⟨dO rfl,λW J=>?_⟩;exact q W [W] _ Y r (.one (.inl ⟨.bring _,zb1,λ_ e=>by cases e;exact S.ok.lnm _<|by rw[hla];exact a3⟩) .nil) (by show(1:Int)+_<=_;lia) ((b.setHand c3).fr0<|FrS.new J) ((B.put'<|by trivial).trans<|FrS.new J) hr0 (by lia) (by lia)
abbrev yP:List Str:=[qH,qW,"_law_env","_law_level","_law_deep","_law_most","_law_rows_here","_law_k"]
def yw7:bZ yP kC (bR EC):=cC
def SK(F:Fun K "_law_rows" "_law_rows" EC f fd)(T:aS P w K mg base k "_law_take" qB gG)(R:aS P w K mg base k "_law_row" jZ (LG n))(mr:mg "range"=none)(ae:mg "tuple"=none):
  aR P w K mg base bQ (k+1) f fd kC (sJ n):=by
 refine F.ok yw7 (λvs H Q E h=>?_) λah A outer s H vs Q E hr h=>?_
 .obtain⟨hd,en,wd,A,D,t,r,J,mo,N,rfl,_⟩:=h;rfl
 obtain⟨hd,en,wd,WA,D,t,r,J,mo,N,rfl,ac,aj,ak,S,hr0,ht,q⟩:=h;have hu:=eC hr;exists _,aL (sL 6 yw7.nd<|cG aE)
  (aL (dZ dJ rfl (lC rfl mr<|aA (bB T hr rfl<|aA (pv 0)<|aA (cA jJ (pv 5) aN) aE) aE) (gL 7 yw7.nd)<|aQ<|cL (bY lS (eI (pv 0) aN) aN<|cE _) (aL (iQ (cA lO (eI (pv 0) aN) aN)<|sW (pv 0) aN tM)<|aQ<|dQ<|eP eE fI fJ fG (pv 6)<|aA (bB R hr rfl<|aA (pv 0)<|aA (pv 1)<|aA (pv 2)<|aA (pv 3)<|aA (pv 4) aE) aE) dD)<|aQ<|bS<|dS gH rfl ae (by rfl')<|aA (pv 6) aE)
 ac_rfl
 refine⟨bM _,λj B=>?_⟩;have S1:=S.fr0<|FrS.new (S:=[]) (o:=.lst []) B;have aa:j∉Ms hd en WA:=S.notin B;obtain⟨d,m,hh⟩:=S1.hand;refine⟨_,rfl,_,rfl,_,_,rfl,rfl,hd,d,m,t,r,_,rfl,hh,by lia,by lia,by lia,λx d1 m1 t1 x0 x1 c1 e1=>?_⟩;have S2:=S1.setHand (r':=r) c1;have a7:j≠hd:=λz=>aa (by rw[z];simp)
 refine⟨_,rfl,by lia,by lia,?_⟩;refine vV (lo:=0) (n:=x.toNat) (λi σ e=>∃(L:Option V)(tx b:Int)(rs fs:List Addr),σ=[some<|.ref hd,some<|.ref wd,some<|.ref en,some<|.int J,some<|.int (N:Int),some<|.int mo,some<|.ref j,L]/\Sit e hd en wd WA D tx b/\FrS (Ms hd en WA) H e/\0<=b/\b<=r/\tx+25*b<=t+25*r+1/\e j=some (.lst<|rs.map V.ref)/\↑rs<=i/\Fl (eV D) e n rs fs/\(↑fs:Int)+b<=r)
  ⟨_,t1,r,[],[],rfl,S2,((FrS.new B).put'<|by trivial),hr0,by lia,by lia,by rw[aC a7];exact zb1,by simp,.nil,by show(0:Int)+r<=r;lia⟩ ?_ ?_
 .rintro i σ e hi ⟨L,tx,b,rs,fs,rfl,u,G,W,O,X,I,ag,C,M⟩;obtain⟨d,m,hH,ok⟩:=u.hand;exists _,rfl,hd,_,_,_,rfl,rfl,SqL.of hH,AN,_,_,rfl,rfl,_,rfl;refine bI (λc=>?_) λc=>?_
  .have c':0<b:=cQ c;exists _,rfl,hd,_,_,_,rfl,rfl,SqL.of hH,AN,_,_,rfl,rfl;exists _,rfl,hd,_,3,3,rfl,rfl,hH,rfl;have S3:=u.setHand (r':=b-1) ok;have f3:=G.put' (a:=hd) (o:=hl d m tx<|b-1) (by trivial);have a9:upd e hd (hl d m tx<|b-1) j=some (.lst<|rs.map V.ref):=by rw[aC a7];exact I
   refine⟨_,rfl,.inl ⟨rfl,_,SqL.of a9⟩,_,rfl,_,rfl,_,rfl,_,rfl,_,rfl,hd,en,wd,WA,D,tx,b-1,J,N,rfl,ac,S3,by lia,by lia,λv fv Y t4 r4 ad ai S4 Z h0 h1 h2=>?_⟩;have a8:=Z _ _ aa a9;have S7:=Sit.own (o:=.lst<|rs.map V.ref++[V.ref v]) S S4 (f3.trans Z) B;have ab:Tup Y (upd Y j<|.lst<|rs.map V.ref++[V.ref v]):=Tup.lst a8;have af:Tup e Y:=(u.tup<|FrS.chg<|.head _).trans<|S3.tup Z;exact⟨j,_,_,rfl,rfl,a8,bG (by rw[aK];lia),_,t4,r4,rs++[v],fs++fv,rfl,S7.1,S7.2,h0,by lia,by lia,by rw[zb1,bN];rfl,by rw[bH,dU];lia,(C.keep<|af.trans ab).app<|ad.keep ab,by rw[bH];lia⟩
  .exact⟨_,tx,b,rs,fs,rfl,u,G,W,O,X,I,by lia,C,M⟩
 .rintro σ e ⟨L,tx,b,rs,fs,rfl,u,G,W,O,X,I,ag,C,M⟩;refine⟨_,rfl,j,_,rfl,.inl ⟨SqL.of I,λl hl=>?_⟩⟩;exact q l rs fs _ tx b zb1 (C.keep<|Tup.new hl) M (u.fr0<|FrS.new hl) (G.trans<|FrS.new hl) W O X
abbrev M0(hd:Addr)(A:WA):List Addr:=[hd,A.told,A.held]
structure Sit0(H:Hp)(hd wd:Addr)(A:WA)(D:WD)(t r:Int):Prop where
 hand:∃d m,Hand H hd d m t r
 told:∃kv,H A.told=some (.dK kv)/\DOk D.deeds D.names kv
 held:∃kv,H A.held=some (.dK kv)/\DOk D.fields D.names kv
 w:Wld (M0 hd A) H wd A D
 nd:(M0 hd A).Nodup
 ok:AX D
section
variable{H H':Hp}{hd en wd:Addr}{A:WA}{D:WD}{t r t' r':Int}
def Sit0.have_(S:Sit0 H hd wd A D t r):∀b∈M0 hd A,∃o,H b=some o:=by
 obtain⟨⟨d,m,h1,q⟩,⟨i,f,h⟩,⟨n,e,j⟩,w,nd,l⟩:=S;intro b a;simp only[M0,wp9,aV,cY]at a;rcases a with rfl | rfl | rfl
 .exact⟨_,h1⟩
 .exact⟨_,f⟩
 .exact⟨_,e⟩
def Sit0.notin(S:Sit0 H hd wd A D t r)(hp:H p=none):p∉M0 hd A:=λz=>by
 obtain⟨o,a⟩:=S.have_ p z;rw[hp]at a;cases a
def Sit0.ne(S:Sit0 H hd wd A D t r):hd≠A.told/\hd≠A.held/\A.told≠A.held:=by
 have:=S.nd;simp only[M0,ws9,wp9,aV,cY,fQ]at this;exact⟨this.1.1,this.1.2,this.2.1⟩
def Sit0.fr0(S:Sit0 H hd wd A D t r)(f:FrS [] H H'):Sit0 H' hd wd A D t r:=by
 obtain⟨⟨d,m,h1,l⟩,⟨b,j,h⟩,⟨e,i,a⟩,w,nd,ok⟩:=S;exact⟨⟨d,m,f _ _ (by trivial) h1,l⟩,⟨b,f _ _ (by trivial) j,h⟩,⟨e,f _ _ (by trivial) i,a⟩,w.keep (f.mono<|by trivial),nd,ok⟩
def Sit0.setHand(S:Sit0 H hd wd A D t r)(ok:oV d' m' t'):Sit0 (upd H hd<|hl d' m' t' r') hd wd A D t' r':=by
 obtain⟨n,h,o⟩:=S.ne;obtain⟨⟨d,m,h1⟩,⟨b,l,e⟩,⟨f,i,j⟩,w,nd,a⟩:=S;exact⟨⟨d',m',Hand.at ok⟩,⟨b,by rw[aC n.symm];exact l,e⟩,⟨f,by rw[aC h.symm];exact i,j⟩,w.keep (FrS.chg<|by trivial),nd,a⟩
def Sit0.own(S:Sit0 H hd wd A D t r)(j:Sit0 H6 hd wd A D t6 r6)(f:FrS (M0 hd A) H H6)(a:H pa=none):Sit0 (upd H6 pa o) hd wd A D t6 r6/\FrS (M0 hd A) H (upd H6 pa o):=by
 have q:pa∉M0 hd A:=S.notin a;have u:∀b∈M0 hd A,upd H6 pa o b=H6 b:=λb n=>aC (λz=>q<|by rw[<-z];exact n)
 have fr:FrS (M0 hd A) H (upd H6 pa o):=f.put a;obtain⟨⟨d,m,h1,B⟩,⟨i,x,e⟩,⟨h,s,l⟩,w,nd,ok⟩:=j;exact⟨⟨⟨d,m,(u _<|by trivial).trans h1,B⟩,⟨i,(u _<|by trivial).trans x,e⟩,⟨h,(u _<|by trivial).trans s,l⟩,S.w.keep fr,nd,ok⟩,fr⟩
def Sit0.open(S:Sit0 H hd wd A D t r)(he:H en=none)(i:DOk D.U D.names kv):Sit (upd H en<|.dK kv) hd en wd A D t r:=by
 have b:=S.notin he;obtain⟨j,f,e⟩:=S.ne;have fr:FrS [] H (upd H en<|.dK kv):=FrS.new he;have d:=S.fr0 fr;refine⟨d.hand,⟨kv,zb1,i⟩,d.told,d.held,S.w.map λa o h=>⟨λz=>?_,fr _ _ (by trivial) h.2⟩,?_,S.ok⟩
 .simp only[Ms,wp9,aV,cY]at z;rcases z with z | z | z | z
  .exact h.1 (by rw[z];simp)
  .exact aP h.2 he z
  .exact h.1 (by rw[z];simp)
  .exact h.1 (by rw[z];simp)
 .simp only[M0,wp9,aV,cY,fQ]at b;simp only[Ms,ws9,wp9,aV,cY,fQ];exact⟨⟨bK b.1,j,f⟩,⟨b.2.1,b.2.2⟩,e,not_false,lB⟩
def Sit.close(S:Sit H hd en wd A D t r):Sit0 H hd wd A D t r:=by
 obtain⟨f,d,b,i,j,e⟩:=S.ne;refine⟨S.hand,S.told,S.held,S.w.map λa o h=>h.sub (by simp +contextual),?_,S.ok⟩;simp only[M0,ws9,wp9,aV,cY,fQ];exact⟨⟨d,b⟩,e,not_false,lB⟩
def FrS.close(he:H en=none)(f:FrS (Ms hd en A) (upd H en o) H1):FrS (M0 hd A) H H1:=λb u n e=>by
 have a:b≠en:=aP e he;refine f b u (λz=>?_) (by rw[aC a];exact e);simp only[Ms,wp9,aV,cY]at z;rcases z with z | z | z | z
 .exact n (by rw[z];simp)
 .exact a z
 .exact n (by rw[z];simp)
 .exact n (by rw[z];simp)
theorem DOk.merge:∀(more:List (aF×V)){kvs:List (aF×V)},DOk U N kvs->(∀b∈more,∃x∈U,b.1=Sum.inr x/\(b.2=.non\/∃n∈N,b.2=.str n))->DOk U N (cO kvs more)
 | [],kvs,h,_=>h
 | a::l,kvs,h,hm=>by
  obtain⟨x,d,e,f⟩:=hm a<|sI ..;show DOk U N<|cO (aO kvs a.1 a.2) l;refine DOk.merge l ?_ λb i=>hm b<|iB _ i;rw[e];exact h.put d f
end
theorem Sit0.tup{A:WA}(S:Sit0 H hd wd A D t r)(f:FrS (M0 hd A) H H'):Tup H H':=by
 obtain⟨⟨d,m,h1,o⟩,⟨n,h,q⟩,⟨j,e,i⟩,w,nd,l⟩:=S;refine FrS.tup f λb a xs=>?_;simp only[M0,wp9,aV,cY]at a;rcases a with rfl | rfl | rfl
 .rw[h1];intro z;cases z
 .rw[h];intro z;cases z
 .rw[e];intro z;cases z
abbrev LW:Stmt:=top 65
inductive SL(vs:List V)(H:Hp)(Q:VK):Prop
 | mk(hd wd:Addr)(A:WA)(D:WD)(t r:Int)(kd:Str)(lv:Nat)(h1:vs=[.ref hd,.ref wd,.str kd,.int (lv:Int)])(h2:kd∈D.names)(h3:lv<D.deeds.length)(h4:Sit0 H hd wd A D t r)(h5:0<=r)(h6:t+25*r+20<1000000)(h7:∀(x:Addr)(dn:Str)(pv gv:V)(l:Addr)(rs fs:List Addr)(H':Hp)(t' r':Int),D.deeds[lv]?=some dn->H' x=some (.tup [.str dn,pv,.ref l,gv])->DpG H' pv gv->H' l=some (.tup<|rs.map V.ref)->Fl (eV D) H' 4 rs fs->(↑fs:Int)+r'<=r->Sit0 H' hd wd A D t' r'->FrS (M0 hd A) H H'->0<=r'->r'<=r->t'+25*r'<=t+25*r+15->Q (.ref x) H'):SL  vs H Q
def FM:Sp:=λvs H Q _=>SL  vs H Q
abbrev CD:List Str:=[qH,qW,"_law_kind","_law_level","_law_deed_here","_law_pool","_law_wanted","_law_params","_law_env","_law_rows_here","_law_gives"]
abbrev FW:List Str:=[qH,qW,"_law_kind","_law_level"]
def zv2:bZ CD FW (bR LW):=cC
def ZT(F:Fun K "_law_deed" "_law_deed" LW f fd)(T:aS P w K mg base k "_law_take" qB gG)(O:aS P w K mg base k "_law_of" qC (cP K))(V':aS P w K mg base k "_law_variable" qA nR)(R:aS P w K mg base k "_law_rows" kC (sJ 4))(ml:mg "len"=none)(c2:mg "list"=none)(mz:mg "zip"=none)(bu:mg "dict"=none)(bq:mg "tuple"=none):
  aR P w K mg base bQ (k+1) f fd FW FM:=by
 refine F.ok zv2 (λvs H Q E h=>?_) λco A outer s H vs Q E hr h=>?_
 .obtain⟨hd,wd,A,D,t,r,kd,J,rfl,_⟩:=h;rfl
 obtain⟨hd,wd,WA,D,t,r,kd,J,rfl,b4,ae,S,hr0,ht,q⟩:=h;have C:=eC hr;have bs:(["_law_want","_law_pool",qH]:List Str).Nodup:=by rfl'
 exists _,aL (sL 4 zv2.nd<|eI (bT C (pv 1) bD λ_ _=>rfl)<|pv 3)
  (aL (hI (i:=5) zv2.nd rfl (Or.inr rfl)<|cA wE (bT C (pv 1) bD λ_ _=>rfl)<|jR xH (bT C (pv 1) bD λ_ _=>rfl) jL<|jK aN) (aL (sL 6 zv2.nd<|bT C (bT C (pv 1) bD λ_ _=>rfl) (bX<|aA (bT C (bT C (pv 1) bD λ_ _=>rfl) (pv 2) λ_ _=>rfl)<|aA (pv 4) aE) λ_ _=>rfl) (aL (pY (i:=7) (N':=["_law_want","_law_pool",qH]) (src:=[none,some 5,some 0]) rfl zv2.nd rfl rfl eS (hZ<|pv 6) (g:=bW 0) (λ_ _ _ _=>gL 0 bs) (λ_ _ _ _=>gO) (te:=tE K "list" JG (aI 1)<|aY (fL gG [] E0<|aY (aI 2)<|aY (lN (λxs H Q=>∃p ys,xs=[.ref p]/\(SqL K H p ys\/SqT K H p ys)/\Q (.int ↑ys) H)<|aY (aI 1) aX) aX) aX) λ_ _ _ _=>eP eE PySem.F.slot_list_pop PySem.F.type_list_pop OF (pv 1)<|aA (bB T hr rfl<|aA (pv 2)<|aA (eA iW rfl ml iR<|aA (pv 1) aE) aE) aE) (aL (sL 8 zv2.nd<|dS (BS rfl) rfl bu (by rfl')<|aA (cA wE (cG<|aA (bX<|aA bD<|aA (pv 2) aE) aE)<|Bj rfl rfl c2 rfl mz<|aA (pv 7)<|aA (pv 6) aE) aE)
  (aL (sL 9 zv2.nd<|bB R hr rfl<|aA (pv 0)<|aA (pv 1)<|aA (pv 8)<|aA (pv 3)<|aA (bB T hr rfl<|aA (pv 0)<|aA aN aE)<|aA (bB O hr rfl<|aA (pv 0)<|aA (cG<|aA aN<|aA aN<|aA aN<|aA aN<|aA aN aE) aE) aE)<|aL (sL 10 zv2.nd<|bB O hr rfl<|aA (pv 0)<|aA (cG<|aA iJ<|aA (bB V' hr rfl<|aA (pv 0)<|aA (pv 1)<|aA (pv 8) aE)<|aA (bB V' hr rfl<|aA (pv 0)<|aA (pv 1)<|aA (pv 8) aE) aE) aE)<|aL (fO C (bT C (pv 1) bD λ_ _=>rfl) (pv 4) (YA C (pv 8) (pv 10) ⟨rfl,rfl,rfl,rfl⟩) rfl)<|aQ<|bS<|bX<|aA (pv 4)<|aA (dS gH rfl bq (by rfl')<|aA (pv 7) aE)<|aA (pv 9)<|aA (pv 10) aE)))))
 ac_rfl
 have h6:=S.ok.d6;have hU:D.U.length=9:=by unfold WD.U;rw[cJ,bH,S.ok.v4,S.ok.p4]
 have av:D.deeds[J]∈D.deeds:=iT ae;have c3:dY (D.deeds.map V.str) (J:Int)=some (.str D.deeds[J]):=lL (by rw[bO,bF ae];rfl);exists _,rfl,wd,_,rfl,S.w.g.2.2.1,_,rfl,WA.deeds,_,_,_,rfl,rfl,SqL.of S.w.deeds.2,c3;have b2:D.deeds[J]?=some D.deeds[J]:=bF ae;generalize D.deeds[J]=dn at av b2;refine⟨_,rfl,wd,_,rfl,S.w.g.2.2.2.2.2.2.1,_,rfl,wd,_,rfl,S.w.g.2.2.2.2.2.1,_,rfl,WA.vars,_,rfl,SqL.of S.w.vars.2,λam b8=>?_⟩;obtain⟨ds,ed,c0,c5⟩:=SD D.vars none<|some 2;rw[ed];rw[S.ok.v4]at c0;have S1:=S.fr0<|FrS.new (S:=[]) (o:=.lst<|ds.map V.str) b8;have f1:FrS (M0 hd WA) H (upd H am<|.lst<|ds.map V.str):=FrS.new b8;refine⟨WA.params,am,_,_,rfl,rfl,S1.w.params.2,zb1,by rw[aK,aK,S.ok.p4];exact cN (bG<|by lia),λu a9=>?_⟩;generalize upd H am (.lst<|ds.map V.str)=H1 at S1 f1 a9;rw[<-bN];have S2:=S1.fr0<|FrS.new (S:=[]) (o:=.lst<|(D.params++ds).map V.str) a9;have f2:FrS (M0 hd WA) H1 (upd H1 u<|.lst<|(D.params++ds).map V.str):=FrS.new a9;have a3:upd H1 u (.lst<|(D.params++ds).map V.str) u=some (.lst<|(D.params++ds).map V.str):=zb1;generalize upd H1 u (.lst<|(D.params++ds).map V.str)=H2 at S2 f2 a3;have b0:↑(D.params++ds)=4+↑ds:=by rw[bH,S.ok.p4]
 have aa:∀x∈D.params++ds,x∈D.U:=λx W=>by
  unfold WD.U;rcases wr7.mp W with h | h
  .simp[h]
  .simp[c5 x h]
 generalize D.params++ds=ps at a3 b0 aa;obtain⟨rt,wp,ws,e1,e2,e3,e4,e5⟩:=S.w.wl kd b4 dn av;refine⟨_,rfl,wd,_,rfl,S2.w.g.2.2.2.1,_,rfl,wd,_,rfl,S2.w.g.2.2.2.2.2.2.2.2.2.2,_,rfl,WA.roots,_,rfl,.inl ⟨_,Sum.inr kd,.inl S2.w.roots.2,rfl,e1.symm⟩,_,rfl,dO rfl,λpk al=>?_⟩;have S3:=S2.fr0<|FrS.new (S:=[]) (o:=.tup [V.str rt,V.str dn]) al;have f3:FrS (M0 hd WA) H1 (upd H2 pk<|.tup [V.str rt,V.str dn]):=f2.trans<|FrS.new al;have a5:upd H2 pk (.tup [V.str rt,V.str dn]) u=some (.lst<|ps.map V.str):=by rw[aC<|aP a3 al];exact a3
 exists WA.wants,.ref wp,rfl,.inr ⟨_,[Sum.inr rt,Sum.inr dn],pk,.inl S3.w.wants.2,rfl,zb1,e2.symm⟩;generalize upd H2 pk (.tup [V.str rt,V.str dn])=H3 at S3 f3 a5;have w3:=e3.keep<|f1.trans f3;have au:u∉M0 hd WA:=S1.notin a9;refine⟨_,rfl,wp,rfl,⟨_,SqL.of w3.2⟩,λB ab=>?_⟩;have ad:B∉M0 hd WA:=S3.notin ab;have bw:H1 B=none:=f3.old S3.have_ ab;have aw:u≠B:=aP a5 ab;refine xM (xs:=ws.map V.str) (λi σ I=>∃(kx:Option V)(tx:Int)(l qs:List Str),σ=[kx,some<|.ref u,some<|.ref hd]/\Sit0 I hd wd WA D tx r/\FrS (M0 hd WA) H1 I/\tx<=t+i/\I u=some (.lst<|l.map V.str)/\↑l+i=↑ps/\(∀x∈l,x∈D.U)/\I B=some (.lst<|qs.map V.str)/\↑qs=i/\∀x∈qs,x∈D.U)
  ⟨_,t,ps,[],rfl,S3.fr0<|FrS.new ab,f3.trans<|FrS.new ab,by lia,by rw[aC aw];exact a5,by lia,aa,zb1,rfl,by simp⟩ ?_ ?_ ?_
 .rintro i σ I hi ⟨_,_,_,_,_,_,fx,_⟩;exact SqL.of (e3.keep<|f1.trans fx).2
 .rintro i x σ I W ⟨kx,tx,l,qs,rfl,Sx,fx,cn,ay,c1,b1,c7,ag,as⟩;obtain⟨hi,_⟩:=zz2.mp W;rw[aK]at hi;obtain⟨d,m,hh⟩:=Sx.hand;have c4:u≠hd:=λz=>au (by rw[z];simp)
  refine⟨_,rfl,.inl ⟨rfl,_,SqL.of ay⟩,_,rfl,_,rfl,u,_,rfl,.inl<|SqL.of ay,hd,d,m,tx,r,_,rfl,hh,by lia,by rw[aK];lia,by rw[aK];lia,λy d' m' ty y0 y1 c e=>?_⟩;rw[aK]at y1;have Sy:=Sx.setHand (r':=r) c;have fy:=fx.put' (a:=hd) (o:=hl d' m' ty r) (by trivial);have bc:upd I hd (hl d' m' ty r) u=some (.lst<|l.map V.str):=by rw[aC c4];exact ay
  have be:upd I hd (hl d' m' ty r) B=some (.lst<|qs.map V.str):=by rw[aC λz=>ad<|by rw[z];simp];exact c7
  generalize upd I hd (hl d' m' ty r)=Hy at Sy fy bc be;have ar:y.toNat<↑l:=by lia
  have cf:seqIndex? y ↑(l.map V.str)=some y.toNat:=by
   unfold seqIndex?;rw[aK];have g1:¬y<0:=by lia
   simp only[g1,jD];rw[bC<|by simp;lia]
  refine⟨u,_,y,y.toNat,.str l[y.toNat],rfl,rfl,bc,by lia,by lia,cf,by rw[bO,bF ar];rfl,?_⟩;have ch:(l.map V.str).eraseIdx y.toNat=(l.eraseIdx y.toNat).map V.str:=by rw[List.eraseIdx_eq_take_drop_succ,List.eraseIdx_eq_take_drop_succ,bN,xR,yK]
  rw[ch];have S7:=Sit0.own (o:=.lst<|(l.eraseIdx y.toNat).map V.str) S1 Sy fy a9;have bz:upd Hy u (.lst<|(l.eraseIdx y.toNat).map V.str) B=some (.lst<|qs.map V.str):=by rw[aC aw.symm];exact be
  have S8:=Sit0.own (o:=.lst<|qs.map V.str++[V.str l[y.toNat]]) S1 S7.1 S7.2 bw;refine⟨_,bz,by rw[aK];exact bG (by lia),_,ty,l.eraseIdx y.toNat,qs++[l[y.toNat]],rfl,S8.1,S8.2,by lia,by rw[aC aw];exact zb1,?_,λx W=>b1 x<|List.mem_of_mem_eraseIdx W,by rw[zb1,bN];rfl,by rw[bH,ag];rfl,λx W=>?_⟩
  .rw[List.length_eraseIdx_of_lt ar];lia
  .rcases wr7.mp W with h | h
   .exact as x h
   .rw[wq1.mp h];exact b1 _<|iT ar
 rintro σ M ⟨kx,t4,l,qs,rfl,S4,f4,bm,cl,_,_,aj,ag,as⟩;rw[aK]at bm ag;have b9:FrS (M0 hd WA) H M:=f1.trans f4;have w4:=e3.keep b9;refine⟨_,rfl,dO rfl,λpt c8=>⟨dO rfl,λpo bf=>?_⟩⟩;have f5:FrS [] M (upd (upd M pt<|.tup [V.str "own",V.str kd]) po<|.lst [V.ref pt]):=(FrS.new c8).trans<|FrS.new bf;have ac:upd (upd M pt<|.tup [V.str "own",V.str kd]) po (.lst [V.ref pt]) po=some (.lst [V.ref pt]):=zb1;have a6:upd (upd M pt<|.tup [V.str "own",V.str kd]) po (.lst [V.ref pt]) pt=some (.tup [V.str "own",V.str kd]):=by rw[aC<|aP (o:=.tup [V.str "own",V.str kd]) zb1 bf];exact zb1
 generalize upd (upd M pt<|.tup [V.str "own",V.str kd]) po (.lst [V.ref pt])=H5 at f5 ac a6;refine⟨_,rfl,_,rfl,B,wp,qs.map V.str,ws.map V.str,rfl,SqL.of<|f5 _ _ (by trivial) aj,SqL.of<|f5 _ _ (by trivial) w4.2,by rw[aK,aK];exact ag,λzl ts H6 fz cm br ca bx=>?_⟩;have f6:FrS [] M H6:=f5.trans λb o _ e=>fz b o e;rw[aK]at ca;refine⟨po,zl,_,_,rfl,rfl,fz _ _ ac,br,by rw[aK];show 1+↑ts<=sizeLine;exact cN (bG<|by lia),λpc ax=>?_⟩;have f7:FrS [] M (upd H6 pc<|.lst<|[V.ref pt]++ts.map V.ref):=f6.trans<|FrS.new ax;have S7:=S4.fr0 f7;refine⟨pc,pt::ts,(Sum.inr "own",.str kd)::(qs.zip ws).map (λp=>((Sum.inr p.1:aF),V.str p.2)),rfl,SqL.of zb1,?_,?_,λj t' Z b6 a7=>?_,λen an=>?_⟩
 .rw[cJ,cJ,aK,List.length_zip];lia
 .rw[cJ,aK,List.length_zip];exact bG (by lia)
 .cases j with
  | zero=>
   have a1:pt=t':=by simpa using b6
   have a2:((Sum.inr "own":aF),V.str kd)=Z:=by simpa using a7
   subst a1 a2;exact SqT.of (by rw[aC<|aP (fz _ _ a6) ax];exact fz _ _ a6)
  | succ j=>
   have a1:ts[j]?=some t':=by simpa using b6
   have a2:((qs.zip ws).map λp=>((Sum.inr p.1:aF),V.str p.2))[j]?=some Z:=by simpa using a7
   obtain⟨x,y,g1,g2,g3⟩:=bx j t' a1;rw[bO]at g1 g2 a2;obtain⟨x',bk,rfl⟩:=wq8.mp g1;obtain⟨y',ci,rfl⟩:=wq8.mp g2;obtain⟨p,hp,rfl⟩:=wq8.mp a2;rw[EM]at hp;obtain⟨z1,z2⟩:=hp;rw[bk]at z1;rw[ci]at z2;cases z1;cases z2;exact SqT.of (by rw[aC<|aP g3 ax];exact g3)
 have b5:B≠en:=aP (f7 _ _ (by trivial) aj) an;have a7:DOk D.U D.names (cO []<|(Sum.inr "own",.str kd)::(qs.zip ws).map (λp=>((Sum.inr p.1:aF),V.str p.2))):=by
  refine DOk.merge _ DOk.nil λZ a7=>?_;rcases wp9.mp a7 with rfl | h
  .exact⟨"own",by unfold WD.U;simp,rfl,.inr ⟨kd,b4,rfl⟩⟩
  .obtain⟨p,hp,rfl⟩:=wr2.mp h;have:=xI hp;exact⟨p.1,as _ this.1,rfl,.inr ⟨p.2,e5 _ this.2,rfl⟩⟩
 have S8:=S7.open an a7;have b7:Stt (Ms hd en WA) (upd (upd H6 pc<|.lst<|[V.ref pt]++ts.map V.ref) en<|.dK<|cO []<|(Sum.inr "own",.str kd)::(qs.zip ws).map (λp=>((Sum.inr p.1:aF),V.str p.2))) B (.lst<|qs.map V.str):=by
  refine⟨λz=>?_,by rw[aC b5];exact f7 _ _ (by trivial) aj⟩;simp only[Ms,wp9,aV,cY]at z;simp only[M0,wp9,aV,cY,fQ]at ad;rcases z with z | z | z | z
  .exact ad.1 z
  .exact b5 z
  .exact ad.2.1 z
  .exact ad.2.2 z
 have b3:∀Hf:Hp,FrS (Ms hd en WA) (upd (upd H6 pc<|.lst<|[V.ref pt]++ts.map V.ref) en<|.dK<|cO []<|(Sum.inr "own",.str kd)::(qs.zip ws).map (λp=>((Sum.inr p.1:aF),V.str p.2))) Hf->FrS (M0 hd WA) H Hf:=λHf ff=>(b9.trans<|f7.mono<|by trivial).trans<|FrS.close an ff
 generalize upd (upd H6 pc<|.lst<|[V.ref pt]++ts.map V.ref) en (.dK<|cO []<|(Sum.inr "own",.str kd)::(qs.zip ws).map (λp=>((Sum.inr p.1:aF),V.str p.2)))=H8 at S8 b7 b3;obtain⟨d,m,hh⟩:=S8.hand;refine⟨_,rfl,_,rfl,_,rfl,_,rfl,_,rfl,hd,d,m,t4,r,3,rfl,hh,by lia,by decide,by decide,λx d9 m9 t9 x0 N c9 e9=>?_⟩;obtain⟨dp,rfl⟩:∃dp:Nat,x=(dp:Int):=⟨x.toNat,by lia⟩;have S9:=S8.setHand (r':=r) c9;have f9:FrS (Ms hd en WA) H8 (upd H8 hd<|hl d9 m9 t9 r):=FrS.chg (by trivial);refine⟨_,rfl,dO rfl,λpi ak=>?_⟩;have Sa:=S9.fr0<|FrS.new (S:=[]) (o:=.lst [V.int 1,V.int 2,V.int 3,V.int 4,V.int 6]) ak;have fa:=f9.trans<|FrS.new (o:=.lst [V.int 1,V.int 2,V.int 3,V.int 4,V.int 6]) ak;have ap:pi≠hd:=λz=>S9.notin ak (by rw[z];simp)
 obtain⟨d,m,hh⟩:=Sa.hand;refine⟨hd,pi,d,m,t9,r,_,rfl,hh,by lia,ap,SqL.of zb1,by simp,by show 5<1000;decide,λy db mb tb hy cb eb=>?_⟩;obtain⟨mo,rfl,cd,ce⟩:∃mo:Int,y=.int mo/\0<=mo/\mo<=100:=by
  simp only[wp9,aV,cY]at hy;rcases hy with rfl | rfl | rfl | rfl | rfl
  .exact⟨1,rfl,by decide,by decide⟩
  .exact⟨2,rfl,by decide,by decide⟩
  .exact⟨3,rfl,by decide,by decide⟩
  .exact⟨4,rfl,by decide,by decide⟩
  .exact⟨6,rfl,by decide,by decide⟩
 have Sb:=Sa.setHand (r':=r) cb;have fb:=fa.put' (a:=hd) (o:=hl db mb tb r) (by trivial);refine⟨hd,en,wd,WA,D,tb,r,(J:Int),mo,dp,rfl,by lia,cd,ce,Sb,hr0,by lia,λrv bp bj Hc tc G bn c6 ae Sc fc bl cc ck=>?_⟩;have bv:=fb.trans fc;refine⟨_,rfl,_,rfl,_,rfl,_,rfl,hd,en,wd,WA,D,tc,G,rfl,Sc,by lia,λN Hd td Sd bd cp _=>?_⟩;refine⟨_,rfl,_,rfl,_,rfl,hd,en,wd,WA,D,td,G,rfl,Sd,by lia,λY He te Se fe cj _=>?_⟩;have bi:=(bv.trans bd).trans fe;refine⟨dO rfl,λpg ah=>?_⟩;have Sf:=Se.fr0<|FrS.new (S:=[]) (o:=.lst [V.non,V.str N,V.str Y]) ah;have ff:=bi.trans<|FrS.new (o:=.lst [V.non,V.str N,V.str Y]) ah;have az:pg≠hd:=λz=>Se.notin ah (by rw[z];simp)
 obtain⟨d,m,hh⟩:=Sf.hand;refine⟨hd,pg,d,m,te,G,_,rfl,hh,by lia,az,SqL.of zb1,by simp,by show 3<1000;decide,λgv dg af tg ai cg eg=>?_⟩;have Sg:=Sf.setHand (r':=G) cg;have fg:=ff.put' (a:=hd) (o:=hl dg af tg G) (by trivial);obtain⟨Z,a4,hk⟩:=Sg.env;obtain⟨kt,bg,ba⟩:=Sg.told;obtain⟨L,ao,bo⟩:∃L:Option V,mJ (upd (upd He pg<|.lst [V.non,V.str N,V.str Y]) hd<|hl dg af tg G) en gv L/\(L.getD .non=.non\/∃n∈D.names,L.getD .non=.str n):=by
  simp only[wp9,aV,cY]at ai;rcases ai with rfl | rfl | rfl
  .exact⟨none,⟨Z,.inl a4,.inl ⟨rfl,rfl⟩⟩,.inl rfl⟩
  .exact⟨_,⟨Z,.inl a4,.inr ⟨Sum.inr N,rfl,rfl⟩⟩,hk.get _⟩
  .exact⟨_,⟨Z,.inl a4,.inr ⟨Sum.inr Y,rfl,rfl⟩⟩,hk.get _⟩
 exists _,rfl,en,rfl,.inl ⟨_,.inl a4⟩,_,rfl,L,ao,_,rfl,wd,_,rfl,Sg.w.g.2.2.2.2.2.2.2.2.1,_,rfl,WA.told,_,rfl,DPut.k (k:=(Sum.inr dn:aF)) bg<|bG (by have:=ba.len;lia);have Sh:=Sg.setTold<|ba.put av bo;have fh:=fg.put' (a:=WA.told) (o:=.dK<|aO kt (Sum.inr dn)<|L.getD .non) (by trivial);have bt:=b7.keep fh;refine⟨_,rfl,_,rfl,B,_,rfl,.inl ⟨SqL.of bt.2,λX aq=>?_⟩⟩;refine⟨_,rfl,_,rfl,dO rfl,λpr a8=>?_⟩;have fk:FrS (Ms hd en WA) Hc (upd (upd (upd He pg<|.lst [V.non,V.str N,V.str Y]) hd<|hl dg af tg G) WA.told<|.dK<|aO kt (Sum.inr dn)<|L.getD .non):=(((bd.trans fe).trans<|FrS.new ah).put'<|.head _).put'<|.tail _<|.tail _<|.head _;have bb:=(Sc.tup fk).trans<|(Tup.new aq).trans<|Tup.new (o:=.tup [V.str dn,V.ref X,V.ref rv,gv]) a8;have bh:DpG (upd (upd (upd (upd (upd He pg<|.lst [V.non,V.str N,V.str Y]) hd<|hl dg af tg G) WA.told<|.dK<|aO kt (Sum.inr dn)<|L.getD .non) X<|.tup<|qs.map V.str) pr<|.tup [V.str dn,V.ref X,V.ref rv,gv]) (.ref X) gv:=by
  simp only[wp9,aV,cY]at ai;rcases ai with rfl | rfl | rfl
  .exact⟨X,_,none,rfl,(Tup.new a8) _ _ zb1,rfl,by lia⟩
  .exact⟨X,_,some N,rfl,(Tup.new a8) _ _ zb1,rfl,by lia⟩
  .exact⟨X,_,some Y,rfl,(Tup.new a8) _ _ zb1,rfl,by lia⟩
 exact q pr dn _ gv rv bp bj _ tg G b2 zb1 bh (bb _ _ bn) (c6.keep bb) ae ((Sh.fr0<|FrS.new aq).fr0<|FrS.new a8).close (b3 _<|(fh.trans<|FrS.new aq).trans<|FrS.new a8) bl cc (by lia)
def XY{K:Fq}{a:Addr}{xs:List V}{g:TG}{tb:TS}{D:dB}{σ:St}{H:Hp}(b:Nat->St->Hp->Prop)(h0:b 0 σ H)(hl:∀i σ H,i<=↑xs->b i σ H->SqL K H a xs)
  (hs:∀i x p σ H,xs[i]?=some x->b i σ H->H p=none->g (.ref p) σ (upd H p<|.tup [.int (i:Nat),x]) λσ2 H2=>tb {D with nx:=b<|i+1,ct:=b<|i+1,bk:=D.nx} σ2 H2) (hd:∀σ H,b ↑xs σ H->D.nx σ H):
  ∃W:Nat->Nat->St->Hp->Prop,(∃m,W 0 m σ H)/\∀i m σ H,W i m σ H->
   ((BN K a).stop i H/\D.nx σ H)\/((BN K a).go i H/\∃N:St->Hp->Prop,(∀σ' H',N σ' H'->∃m',m'<m/\W (i+1) m' σ' H')/\∀x H',(BN K a).yld i H x H'->g x σ H' λσ2 H2=>tb {D with nx:=N,ct:=N,bk:=D.nx} σ2 H2):=by
 exists λi m σ H=>m=↑xs-i/\i<=↑xs/\b i σ H,⟨↑xs,by simp,bM _,h0⟩;rintro i m σ H ⟨rfl,hi,p⟩;have q:=hl i σ H hi p
 by_cases d:i<↑xs
 .refine .inr ⟨⟨xs,xs[i],q,by simp[d]⟩,b<|i+1,λσ' H' h=>⟨↑xs-(i+1),by lia,rfl,d,h⟩,λx H' y=>?_⟩;obtain⟨p2,f,j,rfl,rfl,l⟩:=y;exact hs i f p2 σ _ (l xs q) p j
 .have e:i=↑xs:=by lia
  subst e;exact .inl ⟨⟨xs,q,aW _⟩,hd σ H p⟩
inductive wD(H:Hp)(hd pn pt pl:Addr)(n:Nat)(way t r:Int)(ws:List Str)(i:Nat)(σ:St)(Hx:Hp):Prop
 | mk(kx nx ex:Option V)(dx mx tx:Int)(tr:Tr)(ts:List Addr)(late:List Str)(h1:σ=[some<|.ref hd,some<|.int (n:Int),some<|.ref pn,some<|.int way,some<|.ref pt,some<|.ref pl,kx,nx,ex])
   (h2:FrS [hd] H Hx) (h3:Hand Hx hd dx mx tx r) (h4:tx<=t+12+3*(i:Int)) (h5:Hx pn=some (.lst<|ws.map V.str)) (h6:Hx pt=some (.lst<|ts.map V.ref)) (h7:Hx pl=some (.lst<|late.map V.str)) (h8:↑ts=i) (h9:tr.map (·.1)=ws.take i) (h10:TrOk tr)
   (h11:∀(j:Nat) t x,ts[j]?=some t->tr[j]?=some x->Hx t=some (.tup [.str x.1,bA x.2])) (h12:↑late<=i) (h13:∀x∈late,∃j,1<=j/\j<i/\ws[j]?=some x) (h14:yS tr late):wD H hd pn pt pl n way t r ws i σ Hx
abbrev II:Stmt:=top 53
inductive PB(vs:List V)(H:Hp)(Q:VK):Prop
 | mk(hd:Addr)(d m t r:Int)(h1:vs=[.ref hd])(h2:Hand H hd d m t r)(h3:t+100<1000000)(h4:∀(a tp lp:Addr)(ts:List Addr)(tr:Tr)(late:List Str)(d' m' t':Int)(H':Hp),FrS [hd] H H'->Hand H' hd d' m' t' r->t'<=t+60->H' a=some (.tup [.ref tp,.ref lp])->H tp=none->H lp=none->H' tp=some (.lst<|ts.map V.ref)->↑ts=↑tr->(∀(j:Nat) t x,ts[j]?=some t->tr[j]?=some x->H' t=some (.tup [.str x.1,bA x.2]))->TrOk tr->tr≠[]->↑tr<=12->H' lp=some (.lst<|late.map V.str)->yS tr late->↑late<=12->(∃x∈tr.map (·.1),x∉late)->(∀x∈late,x∈tr.map (·.1))->Q (.ref a) H'):PB  vs H Q
def HI:Sp:=λvs H Q _=>PB  vs H Q
abbrev yJ:List Str:=[qH,"_law_many","_law_names","_law_way","_law_tree_here","_law_late","_law_k","_law_name","_law_elder"]
def zq4:bZ yJ [qH] (bR II):=cC
def YV(F:Fun K "_law_tree" "_law_tree" II f fd)(T:aS P w K mg base k "_law_take" qB gG)(O:aS P w K mg base k "_law_of" qC (cP K))(W:aS P w K mg base k "_law_words" qB FB)(ml:mg "len"=none)(me:mg "enumerate"=none):aR P w K mg base bQ (k+1) f fd [qH] HI:=by
 refine F.ok zq4 (λvs H Q E h=>?_) λd4 A outer s H vs Q E hr h=>?_
 .obtain⟨hd,d,m,t,r,rfl,_⟩:=h;rfl
 obtain⟨hd,d,m,t,r,rfl,hh,ht,q⟩:=h;have hu:=eC hr;exists _,aL (sL 1 zq4.nd<|bB O hr rfl<|aA (pv 0)<|aA (cG<|dI<|dI<|dI<|dI<|dI<|dI<|dI<|dI aE) aE)
  (aL (sL 2 zq4.nd<|bB W hr rfl<|aA (pv 0)<|aA (pv 1) aE)<|aL (sL 3 zq4.nd<|bB T hr rfl<|aA (pv 0)<|aA aN aE)<|aL (sL 4 zq4.nd<|cG aE)<|aL (sL 5 zq4.nd<|cG aE)<|aL (dZ dJ rfl (WN rfl me<|aA (pv 2) aE) (eG (n:=2) rfl<|bL (gL 6 zq4.nd)<|bL (gL 7 zq4.nd) eK)<|aL (sL 8 zq4.nd iJ)<|aL (cL (PW.pt<|kJ (bY lS (pv 6) aN<|cE _)<|mU<|bY lS (bB T hr rfl<|aA (pv 0)<|aA aN aE) aN<|cE _) (aQ<|sL 8 zq4.nd<|eI (pv 2)<|eI (cG<|aA (cA lO (pv 6) aN)<|aA aN<|aA (cA zJ (cA lO (pv 6) aN) aN)<|aA (bB T hr rfl<|aA (pv 0)<|aA (pv 6) aE) aE)<|pv 3) dD)<|aL (cL (PW.pt<|kJ (bY uE (pv 8) (pv 5) rfl)<|mU<|bY eZ (eA iW rfl ml iR<|aA (pv 5) aE) aN<|cE _) (aQ<|sL 8 zq4.nd iJ) dD)<|aL (cL (PW.pt<|IJ (bY uE (pv 8) (pv 5) rfl)<|KA<|PW.pt<|kJ (bY xA (eA iW rfl ml iR<|aA (pv 5) aE) aN<|cE _)<|kJ (bY lS (pv 6) aN<|cE _)<|mU<|bY eZ (bB T hr rfl<|aA (pv 0)<|aA aN aE) aN<|cE _) (aQ<|dQ<|eP eE fI fJ fG (pv 5)<|aA (pv 7) aE) dD)<|aQ<|dQ<|eP eE fI fJ fG (pv 4)<|aA (bX<|aA (pv 7)<|aA (pv 8) aE) aE)<|aQ<|bS<|bX<|aA (pv 4)<|aA (pv 5) aE)
 ac_rfl
 refine⟨_,rfl,dO rfl,λp0 bg=>?_⟩;have ct:p0≠hd:=λz=>by rw[z,hh.1]at bg;cases bg
 have cg:Hand (upd H p0<|.lst [V.int 1,V.int 2,V.int 3,V.int 4,V.int 5,V.int 6,V.int 8,V.int 12]) hd d m t r:=hh.new bg;have f0:FrS [hd] H (upd H p0<|.lst [V.int 1,V.int 2,V.int 3,V.int 4,V.int 5,V.int 6,V.int 8,V.int 12]):=FrS.new bg;have ck:upd H p0 (.lst [V.int 1,V.int 2,V.int 3,V.int 4,V.int 5,V.int 6,V.int 8,V.int 12]) p0=some (.lst [V.int 1,V.int 2,V.int 3,V.int 4,V.int 5,V.int 6,V.int 8,V.int 12]):=zb1;generalize upd H p0 (.lst [V.int 1,V.int 2,V.int 3,V.int 4,V.int 5,V.int 6,V.int 8,V.int 12])=H0 at cg f0 ck;refine⟨hd,p0,d,m,t,r,_,rfl,cg,by lia,ct,SqL.of ck,by simp,by show 8<1000;decide,λx d1 m1 t1 u c1 e1=>?_⟩;obtain⟨n,rfl,n1,cp⟩:∃n:Nat,x=.int (n:Int)/\1<=n/\n<=12:=by
  simp only[wp9,aV,cY]at u;rcases u with rfl | rfl | rfl | rfl | rfl | rfl | rfl | rfl
  .exact⟨1,rfl,by decide,by decide⟩
  .exact⟨2,rfl,by decide,by decide⟩
  .exact⟨3,rfl,by decide,by decide⟩
  .exact⟨4,rfl,by decide,by decide⟩
  .exact⟨5,rfl,by decide,by decide⟩
  .exact⟨6,rfl,by decide,by decide⟩
  .exact⟨8,rfl,by decide,by decide⟩
  .exact⟨12,rfl,by decide,by decide⟩
 have f1:FrS [hd] H (upd H0 hd<|hl d1 m1 t1 r):=f0.put' (by trivial);have cd:Hand (upd H0 hd<|hl d1 m1 t1 r) hd d1 m1 t1 r:=Hand.at c1;generalize upd H0 hd (hl d1 m1 t1 r)=H1 at f1 cd;refine⟨_,rfl,_,rfl,hd,d1,m1,t1,r,n,rfl,cd,by lia,cp,λpn ws d2 m2 t2 H2 f2 ch cx cy b8 d5 ci=>?_⟩;have cs:=f1.trans f2;refine⟨_,rfl,hd,d2,m2,t2,r,4,rfl,ch,by lia,by decide,by decide,λN d3 m3 t3 w0 w1 c3 e3=>?_⟩;have c9:FrS [hd] H (upd H2 hd<|hl d3 m3 t3 r):=cs.put' (by trivial);have bq:Hand (upd H2 hd<|hl d3 m3 t3 r) hd d3 m3 t3 r:=Hand.at c3;have aj:upd H2 hd (hl d3 m3 t3 r) pn=some (.lst<|ws.map V.str):=by rw[aC<|iH b8 ch];exact b8
 generalize upd H2 hd (hl d3 m3 t3 r)=H3 at c9 bq aj;refine⟨bM _,λpt bc=>?_⟩;have br:=bq.new (o:=.lst []) bc;have bz:FrS [hd] H (upd H3 pt<|.lst []):=c9.trans<|FrS.new bc;have ap:upd H3 pt (.lst []) pn=some (.lst<|ws.map V.str):=by rw[aC<|aP aj bc];exact aj
 have as:upd H3 pt (.lst []) pt=some (.lst []):=zb1;have ak:H pt=none:=nE c9 bq bc;have c7:pn≠pt:=aP aj bc;generalize upd H3 pt (.lst [])=H4 at br bz ap as;refine⟨bM _,λC aw=>?_⟩;have c8:=br.new (o:=.lst []) aw;have cj:FrS [hd] H (upd H4 C<|.lst []):=bz.trans<|FrS.new aw;have al:upd H4 C (.lst []) pn=some (.lst<|ws.map V.str):=by rw[aC<|aP ap aw];exact ap
 have b9:upd H4 C (.lst []) pt=some (.lst []):=by rw[aC<|aP as aw];exact as
 have b6:upd H4 C (.lst []) C=some (.lst []):=zb1;have ar:H C=none:=nE bz br aw;have bv:pn≠C:=aP ap aw;have b7:pt≠C:=aP as aw;generalize upd H4 C (.lst [])=H5 at c8 cj al b9 b6;have ay:pn≠hd:=iH al c8;have am:pt≠hd:=λz=>by rw[z,hh.1]at ak;cases ak
 have ao:C≠hd:=λz=>by rw[z,hh.1]at ar;cases ar
 exists _,rfl,pn,_,rfl,SqL.of al;refine XY (xs:=ws.map V.str) (wD H hd pn pt C n N t r ws)
  ⟨_,_,_,d3,m3,t3,[],[],[],rfl,cj,c8,by lia,al,b9,b6,rfl,rfl,TrOk.nil,(λj t x h=>by simp at h),by simp,by simp,λ_ h=>nomatch h⟩ ?_ ?_ ?_
 .rintro i σ Hx hi ⟨_,_,_,_,_,_,_,_,_,_,_,_,_,ai,_⟩;exact SqL.of ai
 .rintro i x p σ Hx u ⟨kx,nx,ex,dx,mx,tx,tr,ts,l,rfl,fx,bx,ce,ai,b2,b0,c5,ae,hok,bw,cc,b4,bi⟩ hp;obtain⟨hi,_⟩:=zz2.mp u;rw[aK]at hi;rw[bO,bF hi]at u;cases u;have cb:ws[i]?=some ws[i]:=bF hi;exists p,_,rfl,SqT.of zb1,rfl,_,_,rfl,_,_,rfl,rfl;have keep:∀b o,Hx b=some o->upd Hx p (.tup [V.int (i:Nat),V.str ws[i]]) b=some o:=λb o e=>by rw[aC<|aP e hp];exact e
  have bh:FrS [hd] H (upd Hx p<|.tup [V.int (i:Nat),V.str ws[i]]):=fx.trans<|FrS.new hp;have ac:Hand (upd Hx p<|.tup [V.int (i:Nat),V.str ws[i]]) hd dx mx tx r:=bx.new hp;have an:∀(j:Nat) t x,ts[j]?=some t->tr[j]?=some x->upd Hx p (.tup [V.int (i:Nat),V.str ws[i]]) t=some (.tup [.str x.1,bA x.2]):=λj t x a b=>keep _ _<|bw j t x a b;have ah:=keep _ _ ai;have aq:=keep _ _ b2;have ag:=keep _ _ b0;generalize upd Hx p (.tup [V.int (i:Nat),V.str ws[i]])=Hy at bh ac an ah aq ag;have ba:ws[i]∉tr.map (·.1):=by
   rw[ae];intro hm;obtain⟨j,hj,ej⟩:=mW hm;rw[eM]at hj;rw[List.getElem_take]at ej;have:=(wX ci).mp ej;lia
  have cf:∀(e:Option Str)(a6:List Str)(B:Hp)(Z mz M:Int),(∀x,e=some x->x∈ws.take i)->FrS [hd] H B->Hand B hd Z mz M r->M<=t+12+3*((i+1:Nat):Int)->B pn=some (.lst<|ws.map V.str)->B pt=some (.lst<|ts.map V.ref)->B C=some (.lst<|a6.map V.str)->
    (∀(j:Nat) t x,ts[j]?=some t->tr[j]?=some x->B t=some (.tup [.str x.1,bA x.2]))->↑a6<=i+1->(∀x∈a6,∃j,1<=j/\j<i+1/\ws[j]?=some x)->yS (tr++[(ws[i],e)]) a6->
    BA (tE K "list" wY (aI 4)<|aY (dE<|aY (aI 7)<|aY (aI 8) aX) aX)
    ⟨wD H hd pn pt C n N t r ws<|i+1,λ_ _=>False,λ_ _=>False,λ_ _=>False⟩
    [some<|.ref hd,some<|.int (n:Int),some<|.ref pn,some<|.int N,some<|.ref pt,some<|.ref C,some<|.int (i:Nat),some<|.str ws[i],some<|bA e] B:=by
   intro e a6 B Z mz M he fz ad bu a7 a5 X a8 co bk c0;refine⟨_,rfl,.inl ⟨rfl,_,SqL.of a5⟩,_,rfl,_,rfl,dO rfl,λpp av=>?_⟩;have bb:upd B pp (.tup [V.str ws[i],bA e]) pt=some (.lst<|ts.map V.ref):=by rw[aC<|aP a5 av];exact a5
   have c6:pp≠pt:=λz=>by rw[z,a5]at av;cases av
   refine⟨pt,_,_,rfl,rfl,bb,by rw[aK];exact bG (by lia),_,_,_,Z,mz,M,tr++[(ws[i],e)],ts++[pp],a6,rfl,(fz.trans<|FrS.new av).put ak,?_,bu,?_,?_,?_,?_,?_,?_,?_,co,bk,c0⟩
   .exact⟨by rw[aC am.symm,aC<|aP ad.1 av];exact ad.1,ad.2⟩
   .rw[aC c7,aC<|aP a7 av];exact a7
   .rw[zb1,bN];rfl
   .rw[aC b7.symm,aC<|aP X av];exact X
   .rw[bH,c5];rfl
   .rw[bN,ae,fW,cb];rfl
   .exact hok.snoc ba λx u=>by rw[ae];exact he x u
   .intro j t' x au u;have bp:↑tr=↑ts:=by
     have:=cF List.length ae;rw[aK,eM]at this;lia
    by_cases hj:j<↑ts
    .rw[kE hj]at au;rw[kE<|by lia]at u;have L:=a8 j t' x au u;have h4:upd B pp (.tup [V.str ws[i],bA e]) t'=some (.tup [.str x.1,bA x.2]):=by rw[aC<|aP L av];exact L
     rw[aC λz=>by rw[z,bb]at h4;cases h4];exact h4
    .rw[kN<|by lia]at au;rw[kN (by lia),bp]at u;have h0:j-↑ts=0:=by
      cases hz:j-↑ts with
      | zero=>rfl
      | succ k=>rw[hz]at au;simp at au
     rw[h0]at au u;simp only[DZ,ET]at au u;subst au u;rw[aC c6];exact zb1
  have bs:∀(e:Option Str)(B:Hp)(Z mz M:Int),(∀x,e=some x->x∈ws.take i)->(i=0->e=none)->FrS [hd] H B->Hand B hd Z mz M r->M<=t+14+3*(i:Int)->B pn=some (.lst<|ws.map V.str)->B pt=some (.lst<|ts.map V.ref)->B C=some (.lst<|l.map V.str)->
    (∀(j:Nat) t x,ts[j]?=some t->tr[j]?=some x->B t=some (.tup [.str x.1,bA x.2]))->
    fT (iM (KY (iC<|dC (hV K false) (aI 8)<|aI 5)<|jE (iC<|dC (hY λi j=>.bl<|decide<|i<j) (lN (λxs H Q=>∃p ys,xs=[.ref p]/\(SqL K H p ys\/SqT K H p ys)/\Q (.int ↑ys) H)<|aY (aI 5) aX)<|tC<|.int 6)<|jE (iC<|dC (hY λi j=>.bl<|decide<|j<i) (aI 6)<|tC<|.int 0)<|iC<|dC wH (fL gG [] E0<|aY (aI 0)<|aY (tC<|.int 4) aX)<|tC<|.int 0) (BA<|tE K "list" wY (aI 5)<|aY (aI 7) aX) qX)
    (BA<|tE K "list" wY (aI 4)<|aY (dE<|aY (aI 7)<|aY (aI 8) aX) aX)
    ⟨wD H hd pn pt C n N t r ws<|i+1,λ_ _=>False,λ_ _=>False,λ_ _=>False⟩
    [some<|.ref hd,some<|.int (n:Int),some<|.ref pn,some<|.int N,some<|.ref pt,some<|.ref C,some<|.int (i:Nat),some<|.str ws[i],some<|bA e] B:=by
   intro e B Z mz M he bf fz ad bu a7 a5 X a8;have fl:kO (bA e)=true:=by cases e <;> rfl
   have app:1<=i->∀(G:Hp)(J I tv:Int),FrS [hd] H G->Hand G hd J I tv r->tv<=t+15+3*(i:Int)->G pn=some (.lst<|ws.map V.str)->G pt=some (.lst<|ts.map V.ref)->G C=some (.lst<|l.map V.str)->
     (∀(j:Nat) t x,ts[j]?=some t->tr[j]?=some x->G t=some (.tup [.str x.1,bA x.2]))->_:=λh1 G J I tv fv Y cl a2 a3 a1 a4=>
    cf e (l++[ws[i]]) (upd G C<|.lst<|l.map V.str++[V.str ws[i]]) J I tv he (fv.put ar) ⟨by rw[aC ao.symm];exact Y.1,Y.2⟩ (by lia) (by rw[aC bv];exact a2) (by rw[aC b7];exact a3) (by rw[zb1,bN];rfl)
     (λj t x a b=>by have L:=a4 j t x a b;rw[aC λz=>by rw[z,a1]at L;cases L];exact L) (by rw[bH,dU];lia)
     (λx u=>by
      rcases wr7.mp u with h | h
      .obtain⟨j,j1,j2,j3⟩:=b4 x h;exact⟨j,j1,by lia,j3⟩
      .rw[wq1.mp h];exact⟨i,h1,by lia,cb⟩)
     (λx u e0 e1 e2=>by
      rcases wr7.mp u with u | u
      .rcases wr7.mp e2 with e2 | e2
       .exact sN _<|bi x u e0 e1 e2
       .exact absurd (hok.elder u e1) (by rw[wq1.mp e2];exact ba)
      .rw[wq1.mp u];exact gM _<|.head _)
   have bm:(∀e0,e=some e0->e0∉l)->∀(G:Hp)(J I tv:Int),FrS [hd] H G->Hand G hd J I tv r->tv<=t+15+3*(i:Int)->G pn=some (.lst<|ws.map V.str)->G pt=some (.lst<|ts.map V.ref)->G C=some (.lst<|l.map V.str)->
     (∀(j:Nat) t x,ts[j]?=some t->tr[j]?=some x->G t=some (.tup [.str x.1,bA x.2]))->_:=λbd G J I tv fv Y cl a2 a3 a1 a4=>
    cf e l G J I tv he fv Y (by lia) a2 a3 a1 a4 (by lia) (λx u=>by
      obtain⟨j,j1,j2,j3⟩:=b4 x u;exact⟨j,j1,by lia,j3⟩) (λx u e0 e1 e2=>by
      rcases wr7.mp u with u | u
      .exact bi x u e0 e1 e2
      .rw[wq1.mp u]at e1;exact absurd e2<|bd e0 e1)
   exists _,rfl,_,rfl,C,_,rfl,.inl<|SqL.of X,fl,jM _,_,rfl;refine bI (λc=>?_) λc=>?_
   .have h1:1<=i:=by
     rcases Nat.eq_zero_or_pos i with h | h
     .exfalso;rw[bf h]at c;have:l=[]:=vf4.mp (by lia);rw[this]at c;cases c
     .exact h
    exact⟨_,rfl,.inl ⟨rfl,_,SqL.of X⟩,_,rfl,C,_,_,rfl,rfl,X,by rw[aK];exact bG (by lia),app h1 B Z mz M fz ad (by lia) a7 a5 X a8⟩
   .have bd:∀e0,e=some e0->e0∉l:=λe0 z hm=>c (by
     rw[z];show iN (.str e0) (l.map V.str)=true;rw[lJ];exact eW hm)
    exists _,rfl,C,_,rfl,.inl<|SqL.of X,_,_,rfl,rfl,_,rfl;refine bI (λc2=>?_) λc2=>bm bd B Z mz M fz ad (by lia) a7 a5 X a8;exists _,rfl,_,_,rfl,rfl,_,rfl;refine bI (λc3=>?_) λc3=>bm bd B Z mz M fz ad (by lia) a7 a5 X a8;have h1:(0:Int)<(i:Int):=cQ c3;refine⟨_,rfl,hd,Z,mz,M,r,4,rfl,ad,by lia,by decide,by decide,λy J I tv y0 y1 cv ev=>⟨rfl,_,rfl,?_⟩⟩;have Y:Hand (upd B hd<|hl J I tv r) hd J I tv r:=Hand.at cv;have fv:FrS [hd] H (upd B hd<|hl J I tv r):=fz.put' (by trivial);have a2:upd B hd (hl J I tv r) pn=some (.lst<|ws.map V.str):=by rw[aC ay];exact a7
    have a3:upd B hd (hl J I tv r) pt=some (.lst<|ts.map V.ref):=by rw[aC am];exact a5
    have a1:upd B hd (hl J I tv r) C=some (.lst<|l.map V.str):=by rw[aC ao];exact X
    have a4:∀(j:Nat) t x,ts[j]?=some t->tr[j]?=some x->upd B hd (hl J I tv r) t=some (.tup [.str x.1,bA x.2]):=λj t x a b=>by
     have L:=a8 j t x a b;rw[aC λz=>by rw[z,ad.1]at L;cases L];exact L
    refine bI (λc4=>?_) λc4=>bm bd _ J I tv fv Y (by lia) a2 a3 a1 a4;exact⟨_,rfl,.inl ⟨rfl,_,SqL.of a1⟩,_,rfl,C,_,_,rfl,rfl,a1,by rw[aK];exact bG (by lia),app (by lia) _ J I tv fv Y (by lia) a2 a3 a1 a4⟩
  have b1:∀(e:Option Str)(B:Hp)(Z mz M:Int),(∀x,e=some x->x∈ws.take i)->(i=0->e=none)->FrS [hd] H B->Hand B hd Z mz M r->M<=t+14+3*(i:Int)->B pn=some (.lst<|ws.map V.str)->B pt=some (.lst<|ts.map V.ref)->B C=some (.lst<|l.map V.str)->
    (∀(j:Nat) t x,ts[j]?=some t->tr[j]?=some x->B t=some (.tup [.str x.1,bA x.2]))->∀R:TS,(∀e':Option Str,(∀x,e'=some x->x∈ws.take i)->(i=0->e'=none)->R ⟨wD H hd pn pt C n N t r ws<|i+1,λ_ _=>False,λ_ _=>False,λ_ _=>False⟩ [some<|.ref hd,some<|.int (n:Int),some<|.ref pn,some<|.int N,some<|.ref pt,some<|.ref C,some<|.int (i:Nat),some<|.str ws[i],some<|bA e'] B)->
    fT (iM (jE (iC<|dC (hV K false) (aI 8)<|aI 5)<|iC<|dC wH (lN (λxs H Q=>∃p ys,xs=[.ref p]/\(SqL K H p ys\/SqT K H p ys)/\Q (.int ↑ys) H)<|aY (aI 5) aX)<|tC<|.int 6) (fZ (tC .non)<|bW 8) qX) R
    ⟨wD H hd pn pt C n N t r ws<|i+1,λ_ _=>False,λ_ _=>False,λ_ _=>False⟩
    [some<|.ref hd,some<|.int (n:Int),some<|.ref pn,some<|.int N,some<|.ref pt,some<|.ref C,some<|.int (i:Nat),some<|.str ws[i],some<|bA e] B:=by
   intro e B Z mz M he bf fz ad bu a7 a5 X a8 R hR;have fl:kO (bA e)=true:=by cases e <;> rfl
   exists _,rfl,_,rfl,C,_,rfl,.inl<|SqL.of X,fl,jM _,_,rfl;refine bI (λc=>?_) λc=>hR e he bf;exists _,rfl,C,_,rfl,.inl<|SqL.of X,rfl,_,rfl;refine bI (λc=>?_) λc=>hR e he bf;exact hR none (λx u=>nomatch u) λ_=>rfl
  exists _,rfl,_,_,rfl,rfl,_,rfl;refine bI (λc=>?_) λc=>?_
  rotate_left
  .exact b1 none Hy dx mx tx (λx u=>nomatch u) (λ_=>rfl) bh ac (by lia) ah aq ag an _ λe' be ab=>bs e' Hy dx mx tx be ab bh ac (by lia) ah aq ag an
  have d0:(0:Int)<(i:Int):=cQ c;refine⟨_,rfl,hd,dx,mx,tx,r,6,rfl,ac,by lia,by decide,by decide,λy J I tv y0 y1 cv ev=>⟨_,_,rfl,rfl,_,rfl,?_⟩⟩;have Y:Hand (upd Hy hd<|hl J I tv r) hd J I tv r:=Hand.at cv;have fv:FrS [hd] H (upd Hy hd<|hl J I tv r):=bh.put' (by trivial);have a2:upd Hy hd (hl J I tv r) pn=some (.lst<|ws.map V.str):=by rw[aC ay];exact ah
  have a3:upd Hy hd (hl J I tv r) pt=some (.lst<|ts.map V.ref):=by rw[aC am];exact aq
  have a1:upd Hy hd (hl J I tv r) C=some (.lst<|l.map V.str):=by rw[aC ao];exact ag
  have a4:∀(j:Nat) t x,ts[j]?=some t->tr[j]?=some x->upd Hy hd (hl J I tv r) t=some (.tup [.str x.1,bA x.2]):=λj t x a b=>by
   have L:=an j t x a b;rw[aC λz=>by rw[z,ac.1]at L;cases L];exact L
  generalize upd Hy hd (hl J I tv r)=G at Y fv a2 a3 a1 a4;refine bI (λc=>?_) λc=>?_
  rotate_left
  .exact b1 none G J I tv (λx u=>nomatch u) (λ_=>rfl) fv Y (by lia) a2 a3 a1 a4 _ λe' be ab=>bs e' G J I tv be ab fv Y (by lia) a2 a3 a1 a4
  refine⟨_,rfl,_,rfl,_,_,rfl,rfl,_,rfl,_,_,rfl,rfl,_,_,rfl,rfl,⟨by decide,by decide⟩,_,rfl,_,rfl,hd,J,I,tv,r,_,rfl,Y,by lia,by lia,by lia,λz du mu tu z0 z1 cu eu=>⟨dO rfl,λp4 bn=>?_⟩⟩;have bo:Hand (upd G hd<|hl du mu tu r) hd du mu tu r:=Hand.at cu;have cr:FrS [hd] H (upd G hd<|hl du mu tu r):=fv.put' (by trivial);have kp:∀b o,b≠hd->G b=some o->upd (upd G hd<|hl du mu tu r) p4 (.lst [V.int<|(i:Int)-1,V.int 0,V.int<|((i:Int)-1) / 2,V.int z]) b=some o:=λb o n e=>by
   have h1:upd G hd (hl du mu tu r) b=some o:=by rw[aC n];exact e
   rw[aC<|aP h1 bn];exact h1
  have bt:=bo.new (o:=.lst [V.int<|(i:Int)-1,V.int 0,V.int<|((i:Int)-1) / 2,V.int z]) bn;have fu:FrS [hd] H (upd (upd G hd<|hl du mu tu r) p4<|.lst [V.int<|(i:Int)-1,V.int 0,V.int<|((i:Int)-1) / 2,V.int z]):=cr.trans<|FrS.new bn;have ca:upd (upd G hd<|hl du mu tu r) p4 (.lst [V.int<|(i:Int)-1,V.int 0,V.int<|((i:Int)-1) / 2,V.int z]) p4=some (.lst [V.int<|(i:Int)-1,V.int 0,V.int<|((i:Int)-1) / 2,V.int z]):=zb1;have af:=kp _ _ ay a2;have az:=kp _ _ am a3;have ax:=kp _ _ ao a1;have b3:∀(j:Nat) t x,ts[j]?=some t->tr[j]?=some x->upd (upd G hd<|hl du mu tu r) p4 (.lst [V.int<|(i:Int)-1,V.int 0,V.int<|((i:Int)-1) / 2,V.int z]) t=some (.tup [.str x.1,bA x.2]):=λj t x a b=>by
   have L:=a4 j t x a b;exact kp _ _ (λw=>by rw[w,Y.1]at L;cases L) L
  generalize upd (upd G hd<|hl du mu tu r) p4 (.lst [V.int<|(i:Int)-1,V.int 0,V.int<|((i:Int)-1) / 2,V.int z])=Hu at bt fu ca af az ax b3;obtain⟨ix,cn,cz,cw⟩:∃ix:Nat,dY [V.int<|(i:Int)-1,V.int 0,V.int<|((i:Int)-1) / 2,V.int z] N=some (.int (ix:Int))/\0<=ix/\ix<i:=by
   have hc:N=0\/N=1\/N=2\/N=3:=by lia
   rcases hc with rfl | rfl | rfl | rfl
   .exact⟨i-1,by rw[FG];congr 2;lia,by lia,by lia⟩
   .exact⟨0,by rw[SH];rfl,by lia,by lia⟩
   .exact⟨(((i:Int)-1) / 2).toNat,by rw[LH];congr 2;lia,by lia,by lia⟩
   .exact⟨z.toNat,by rw[AN];congr 2;lia,by lia,by lia⟩
  have cq:dY (ws.map V.str) (ix:Int)=some (.str<|ws[ix]'(by lia)):=lL (by rw[bO,bF<|by lia];rfl);exists _,rfl,p4,_,_,_,rfl,rfl,SqL.of ca,cn,pn,_,_,_,rfl,rfl,SqL.of af,cq;have cm:∀x,some (ws[ix]'(by lia))=some x->x∈ws.take i:=λx u=>by
   cases u;have:(ws.take i)[ix]?=some (ws[ix]'(by lia)):=by rw[List.getElem?_take_of_lt cw];exact bF (by lia)
   exact cU this
  exact b1 (some<|ws[ix]'(by lia)) Hu du mu tu cm (λh=>by lia) fu bt (by lia) af az ax b3 _ λe' be ab=>bs e' Hu du mu tu be ab fu bt (by lia) af az ax b3
 .rintro σ Hx ⟨kx,nx,ex,dx,mx,tx,tr,ts,l,rfl,fx,bx,ce,ai,b2,b0,c5,ae,hok,bw,cc,b4,bi⟩;rw[aK]at ce c5 ae cc b4;rw[gA<|aW _]at ae;have b5:↑tr=↑ws:=by rw[<-ae,aK]
  refine⟨_,rfl,_,rfl,dO rfl,λpa bj=>?_⟩;have kp:∀b o,Hx b=some o->upd Hx pa (.tup [V.ref pt,V.ref C]) b=some o:=λb o e=>by rw[aC<|aP e bj];exact e
  refine q pa pt C ts tr l dx mx tx _ (fx.trans<|FrS.new bj) (bx.new bj) (by lia) zb1 ak ar (kp _ _ b2) (by lia) (λj t x a b=>kp _ _<|bw j t x a b) hok ?_ (by lia) (kp _ _ b0) ?_ (by lia) ?_ λx u=>by obtain⟨j,_,_,e⟩:=b4 x u;rw[ae];exact cU e
  .intro z;rw[z]at b5;simp at b5;lia
  .exact bi
  .have h0:0<↑ws:=by lia
   refine⟨ws[0],by rw[ae];exact iT h0,λhm=>?_⟩;obtain⟨j,j1,j2,j3⟩:=b4 _ hm;obtain⟨j4,j5⟩:=zz2.mp j3;have:=(wX ci).mp j5;lia
inductive VF where
 | var (x:Str)
 | cut (x:Str) (lo hi:Option Int)
 | dict0
deriving DecidableEq
def rT:Option Expr->Option (Option Int)
 | none=>some none
 | some (.Constant (.int i) _ _)=>some<|some i
 | _=>none
def GH:Expr->Option VF
 | .Name x _=>some<|.var x
 | .Subscript (.Name x _) (.Slice lo hi none _) _=>match rT lo,rT hi with
  | some a,some b=>some<|.cut x a b
  | _,_=>none
 | .Dict [] [] _=>some .dict0
 | _=>none
def CK:List (Option Expr)->List Expr->Option (List<|Str×VF)
 | [],[]=>some []
 | some (.Constant (.str x) _ _)::ks,v::vs=>match GH v,CK ks vs with
  | some f,some r=>some<|(x,f)::r
  | _,_=>none
 | _,_=>none
def OB:Expr->Option (List<|Str×VF)
 | .Dict ks vs _=>CK ks vs
 | _=>none
def oW:List Stmt->Expr
 | [.Return (some v) _]=>v
 | _::r=>oW r
 | []=>.Constant .none 0 ⟨0,0,0,0⟩
def KB:List Stmt->Expr->List Stmt
 | [.Return (some _) p],v=>[.Return (some v) p]
 | a::r,v=>a::KB r v
 | [],_=>[]
section
variable{X:Cx}
structure pP(X:Cx)(i:Nat)(x:Str):Prop where
 n:X.N[i]?=some x
 v:CM X.env.scope x
 d:(x == ("__debug__":Str))=false
 c:(x == ("__classdict__":Str))=false
def sP:Option Int->TO
 | none=>OZ
 | some i=>pI<|tC<|.int i
def ST(h:rT e=some o):PO X e (sP o):=by
 cases e with
 | none=>cases h;exact jL
 | some e=>
  cases e with
  | Constant c j pos=>
   cases c with
   | int i=>cases h;exact jK aN
   | _=>cases h
  | _=>cases h
inductive AT(X:Cx):VF->TE->Prop
 | var {i:Nat} {x:Str} (h:pP X i x):AT X (.var x) (aI i)
 | cut {i:Nat} {x:Str} {lo hi:Option Int} (h:pP X i x):AT X (.cut x lo hi) (NF (zW X.K) (aI i) (sP lo)<|sP hi)
 | dict0:AT X .dict0 NB
def XT{f:VF}(h:GH e=some f)(i:AT X f t):PE X e t:=by
 cases e with
 | Name x p=>
  cases h;cases i with
  | var h=>exact IP h.n h.v h.d h.c
 | Subscript a b pos=>
  cases a with
  | Name x p=>
   cases b with
   | Slice lo hi st p2=>
    cases st with
    | some z=>cases h
    | none=>
     have h:(match rT lo,rT hi with | some a,some b=>some (VF.cut x a b) | _,_=>none)=some f:=h;cases h1:rT lo with
     | none=>rw[h1]at h;cases h
     | some a=>
      cases h2:rT hi with
      | none=>rw[h1,h2]at h;cases h
      | some b=>
       rw[h1,h2]at h;cases h;cases i with
       | cut q=>exact jR xH (IP q.n q.v q.d q.c) (ST h1)<|ST h2
   | _=>cases h
  | _=>cases h
 | Dict ks vs pos=>
  cases ks with
  | nil=>
   cases vs with
   | nil=>
    cases h;cases i;exact mC
   | cons _ _=>cases h
  | cons _ _=>cases h
 | _=>cases h
inductive yF(X:Cx):List (Str×VF)->List (TE×TE)->Prop
 | nil:yF X [] []
 | cons {x:Str} {f:VF} {t:TE} {fs:List (Str×VF)} {ts:List (TE×TE)} (h:AT X f t) (r:yF X fs ts):yF X ((x,f)::fs) ((tC<|.str x,t)::ts)
theorem RJ:∀(ks:List (Option Expr))(vs:List Expr)(fs:List (Str×VF))(ts:List (TE×TE)),CK ks vs=some fs->yF X fs ts->xO X pos ks vs ts/\ks.all (·.isSome)=true/\↑ks=↑vs/\↑ks=↑fs
 | [],[],fs,ts,h,q=>by
  cases h;cases q;exact⟨AC,rfl,rfl,rfl⟩
 | [],_::_,fs,ts,h,q=>by cases h
 | none::_,_,fs,ts,h,q=>by
  cases h
 | some k::ks,[],fs,ts,h,q=>by
  cases k with
  | Constant c j p=>cases c <;> cases h
  | _=>cases h
 | some k::ks,v::vs,fs,ts,h,q=>by
  cases k with
  | Constant c j p=>
   cases c with
   | str x=>
    have h:(match GH v,CK ks vs with | some f,some r=>some ((x,f)::r) | _,_=>none)=some fs:=h;cases h1:GH v with
    | none=>rw[h1]at h;cases h
    | some f=>
     cases h2:CK ks vs with
     | none=>rw[h1,h2]at h;cases h
     | some r=>
      rw[h1,h2]at h;cases h;cases q with
      | cons ht hr=>
       obtain⟨a,b,c,d⟩:=RJ ks vs r _ h2 hr;exact⟨iA bD (XT h1 ht) a,by rw[List.all_cons,b];rfl,by rw[cJ,cJ,c],by rw[cJ,cJ,d]⟩
   | _=>cases h
  | _=>cases h
def ZX(h:OB e=some fs)(q:yF X fs ts)(h0:fs≠[])(f:↑fs<=15):PE X e (EA ts):=by
 cases e with
 | Dict ks vs pos=>
  obtain⟨a,b,c,d⟩:=RJ (pos:=pos) ks vs fs ts h q;refine GF a b c (λz=>h0 ?_) (by lia);rw[z]at d;exact vf4.mp d.symm
 | _=>cases h
end
def VY{κ:Type}[DecidableEq κ]{kvs:List (κ×V)}{k:κ}{v:V}(h:aG kvs k=some v):(k,v)∈kvs:=by
 unfold aG at h;obtain⟨p,hp,e⟩:=wq8.mp h;have h1:=DM hp;have a:=List.find?_some hp;have h2:p.1=k:=cQ a;rw[<-h2,<-e];exact h1
theorem QD{κ:Type}[DecidableEq κ]:∀{kvs:List (κ×V)}{i:Nat}{k:κ}{v:V},(kvs.map (·.1)).Nodup->kvs[i]?=some (k,v)->aG kvs k=some v
 | [],i,k,v,_,h=>by simp at h
 | a::l,0,k,v,_,h=>by
  have:a=(k,v):=by simpa using h
  rw[this];exact jT rfl
 | a::l,i+1,k,v,nd,h=>by
  have h':l[i]?=some (k,v):=by simpa using h
  rw[fS,ws9]at nd;rw[jX λe=>nd.1<|by rw[e];exact wr2.mpr ⟨_,cU h',rfl⟩];exact QD nd.2 h'
theorem MI:∀(more kvs:List (aF×V)),((kvs++more).map (·.1)).Nodup->cO kvs more=kvs++more
 | [],kvs,_=>by rw[fY];rfl
 | a::l,kvs,nd=>by
  have b:aG kvs a.1=none:=by
   cases e:aG kvs a.1 with
   | none=>rfl
   | some v=>
    have h1:=EF e;rw[bN,fS]at nd;have:=(vk7.mp nd).2.2 a.1 h1 a.1<|sI ..;exact absurd rfl this
  show cO (aO kvs a.1 a.2) l=_;rw[FS _ b,MI l (kvs++[(a.1,a.2)]) (by rw[gU];exact nd),gU];rfl
theorem NR:∀(more kvs:List (aF×V)),(∀k,k∈(cO kvs more).map (·.1)↔k∈kvs.map (·.1)\/k∈more.map (·.1))
 | [],kvs,k=>by simp[cO]
 | a::l,kvs,k=>by
  show k∈(cO (aO kvs a.1 a.2) l).map (·.1)↔_;rw[NR l (aO kvs a.1 a.2) k,fS,wp9];rcases GY kvs a.1 a.2 with ⟨e,h⟩ | ⟨e,h⟩
  .rw[e]
   constructor
   .rintro(h1 | h1)
    .exact .inl h1
    .exact .inr<|.inr h1
   .rintro(h1 | h1 | h1)
    .exact .inl h1
    .rw[h1];exact .inl h
    .exact .inr h1
  .rw[e,wr7,wq1]
   constructor
   .rintro((h1 | h1) | h1)
    .exact .inl h1
    .exact .inr<|.inl h1
    .exact .inr<|.inr h1
   .rintro(h1 | h1 | h1)
    .exact .inl<|.inl h1
    .exact .inl<|.inr h1
    .exact .inr h1
def ZH(rs:List Str)(v:V):∃qs:List Str,(cO []<|rs.map λr=>((Sum.inr r:aF),v)).map (λi=>kV i.1)=qs.map V.str/\↑qs<=↑rs/\∀r∈rs,r∈qs:=by
 have d:=NR (rs.map λr=>((Sum.inr r:aF),v)) [];have j:∀l:List (aF×V),(∀k∈l.map (·.1),∃x,k=Sum.inr x)->∃qs:List Str,l.map (λi=>kV i.1)=qs.map V.str/\↑qs=↑l/\∀x,(Sum.inr x:aF)∈l.map (·.1)->x∈qs:=by
  intro l
  induction l with
  | nil=>intro _;exact⟨[],rfl,rfl,by simp⟩
  | cons a l ih=>
   intro h;obtain⟨qs,e,m,f⟩:=ih λk d=>h k<|iB _ d;obtain⟨x,ex⟩:=h a.1 (by simp);refine⟨x::qs,by rw[fS,fS,e,ex];rfl,by simp[m],λy b=>?_⟩;rw[fS,wp9]at b;rcases b with b | b
   .rw[ex]at b;rw[jU b];exact sI ..
   .exact iB _<|f y b
 obtain⟨qs,e,m,f⟩:=j (cO []<|rs.map λr=>((Sum.inr r:aF),v)) λk h=>by
  rcases(d k).mp h with h | h
  .simp at h
  .rw[kX]at h;obtain⟨x,_,ex⟩:=wr2.mp h;exact⟨x,ex.symm⟩
 refine⟨qs,e,?_,λr hr=>f r<|(d _).mpr<|.inr ?_⟩
 .have:=xZ (rs.map λr=>((Sum.inr r:aF),v)) [];rw[aK,jB]at this;lia
 .rw[kX];exact wr2.mpr ⟨r,hr,rfl⟩
def WantsOk(M:List Addr)(H:Hp)(N:List Str)(wk:List (List aF×V))(dn:Str->Str->Prop):Prop:=∀r d,dn r d->∃(p:Addr)(ws:List Str),aG wk [Sum.inr r,Sum.inr d]=some (.ref p)/\Stt M H p (.lst<|ws.map V.str)/\↑ws<=4/\∀x∈ws,x∈N
theorem WantsOk.keep(h:WantsOk M H N wk dn)(f:FrS M H H'):WantsOk M H' N wk dn:=λr d q=>by
 obtain⟨p,ws,a,b,c⟩:=h r d q;exact⟨p,ws,a,b.keep f,c⟩
def WantsOk.put{M:List Addr}{H:Hp}{N:List Str}{f:List (List aF×V)}{dn:Str->Str->Prop}{r d:Str}{p:Addr}{ws:List Str}(h:WantsOk M H N f dn)(hp:Stt M H p (.lst<|ws.map V.str))(hl:↑ws<=4)(n:∀x∈ws,x∈N):
  WantsOk M H N (aO f [Sum.inr r,Sum.inr d]<|.ref p) (λa b=>dn a b\/(a=r/\b=d)):=λa b q=>by
 by_cases e:([Sum.inr a,Sum.inr b]:List aF)=[Sum.inr r,Sum.inr d]
 .exact⟨p,ws,by rw[jI,bC e],hp,hl,n⟩
 .rcases q with q | ⟨rfl,rfl⟩
  .obtain⟨j,o,m,l,i⟩:=h a b q;exact⟨j,o,by rw[jI,aZ e];exact m,l,i⟩
  .exact absurd rfl e
def WantsOk.mono(h:WantsOk M H N wk dn)(f:∀r d,dn' r d->dn r d):WantsOk M H N wk dn':=λr d q=>h r d<|f r d q
def OwnOk(M:List Addr)(H:Hp)(N:List Str)(ok:List (aF×V))(dn:Str->Prop):Prop:=∀d,dn d->∃(p:Addr)(os:List Str),aG ok (Sum.inr d)=some (.ref p)/\Stt M H p (.lst<|os.map V.str)/\(∀x∈os,x∈N)/\↑os<=13
theorem OwnOk.keep(h:OwnOk M H N ok dn)(f:FrS M H H'):OwnOk M H' N ok dn:=λd q=>by
 obtain⟨p,os,a,b,c⟩:=h d q;exact⟨p,os,a,b.keep f,c⟩
def OwnOk.put{M:List Addr}{H:Hp}{N:List Str}{ok:List (aF×V)}{dn:Str->Prop}{d:Str}{p:Addr}{os:List Str}(h:OwnOk M H N ok dn)(hp:Stt M H p (.lst<|os.map V.str))(l:∀x∈os,x∈N)(hl:↑os<=13):
  OwnOk M H N (aO ok (Sum.inr d)<|.ref p) (λa=>dn a\/a=d):=λa q=>by
 by_cases e:(Sum.inr a:aF)=Sum.inr d
 .exact⟨p,os,by rw[jI,bC e],hp,l,hl⟩
 .rcases q with q | rfl
  .obtain⟨f,m,j,i,b⟩:=h a q;exact⟨f,m,by rw[jI,aZ e];exact j,i,b⟩
  .exact absurd rfl e
def OwnOk.mono'(h:OwnOk M H N ok dn)(f:∀d,dn' d->dn d):OwnOk M H N ok dn':=λd q=>h d<|f d q
def RootsOk(tr:Tr)(i:Nat)(rk:List (aF×V)):Prop:=rk.map (·.1)=(tr.take i).map (λz=>(Sum.inr z.1:aF))/\∃rs:List Str,rk.map (·.2)=rs.map V.str
def RootsOk.step(ok:TrOk tr)(h:RootsOk tr i rk)(hi:tr[i]?=some (n,e)):RootsOk tr (i+1) (aO rk (Sum.inr n)<|.str r)/\↑(aO rk (Sum.inr n)<|.str r)=i+1\/i > ↑tr:=by
 left
 have s:n∉(tr.take i).map (·.1):=λb=>by
  obtain⟨z,hz,a⟩:=wr2.mp b;obtain⟨j,o,m⟩:=mW hz;rw[eM]at o;have f:tr[j]?=some (n,z.2):=by rw[bF (by lia),<-a,<-m,List.getElem_take]
  have:=ok.one hi f;lia
 have d:aG rk (Sum.inr n)=none:=by
  cases q:aG rk (Sum.inr n)with
  | none=>rfl
  | some v=>
   have:=EF q;rw[h.1]at this;obtain⟨z,hz,a⟩:=wr2.mp this;exact absurd (wr2.mpr ⟨z,hz,jU a⟩) s
 obtain⟨rs,l⟩:=h.2;have u:i<↑tr:=(zz2.mp hi).1;rw[FS _ d];exists ⟨?_,rs++[r],?_⟩
 .rw[bN,h.1,fW,hi,bN];rfl
 .rw[bN,l,bN];rfl
 .have:=cF List.length h.1;rw[aK,aK,eM]at this;rw[bH,dU];lia
def RootsOk.val{tr:Tr}{i:Nat}{a:List (aF×V)}(h:RootsOk tr i a){k:aF}{v:V}(f:aG a k=some v):∃r,v=.str r/\V.str r∈a.map (·.2):=by
 have d:=VY f;obtain⟨rs,e⟩:=h.2;have:v∈a.map (·.2):=wr2.mpr ⟨_,d,rfl⟩;have h2:=this;rw[e]at this;obtain⟨r,_,b⟩:=wr2.mp this;exact⟨r,b.symm,by rw[b];exact h2⟩
def VJ(xs:List V)(h:b<=↑xs)(d:a<=b):cW xs (some (a:Int)) (some (b:Int))=(xs.drop a).take (b-a):=by
 unfold cW;rw[HT.DH,HT.DH,Nat.min_eq_left h,Nat.min_eq_left<|by lia]
inductive AJ(Hb:Hp)(hd tp lp pn pd px pw po pr:Addr)(r t6:Int)(rk:List (aF×V))(rs ds:List Str)(tr:Tr)(i:Nat)(σ:St)(Hx:Hp):Prop
 | mk(nx ex dx sx:Option V)(da ma ta:Int)(wk:List (List aF×V))(ok:List (aF×V))(h1:σ=[some<|.ref hd,some<|.ref tp,some<|.ref lp,some<|.ref pn,some<|.ref pd,some<|.ref px,some<|.ref pw,some<|.ref po,some<|.ref pr,nx,ex,dx,sx])
   (h2:FrS [hd,pw,po,pr] Hb Hx) (h3:Hand Hx hd da ma ta r) (h4:ta<=t6+80*(i:Int)) (h5:Hx pr=some (.dK rk)) (h6:Hx pw=some (.dT wk)) (h7:↑wk<=12*i) (h8:WantsOk [hd,pw,po,pr] Hx (tr.map (·.1)) wk (λa b=>a∈rs/\b∈ds.take i)) (h9:Hx po=some (.dK ok)) (h10:↑ok<=i) (h11:OwnOk [hd,pw,po,pr] Hx (tr.map (·.1)) ok (λb=>b∈ds.take i)):AJ Hb hd tp lp pn pd px pw po pr r t6 rk rs ds tr i σ Hx
inductive CO(H9:Hp)(hd tp lp pn pd px pw po pr:Addr)(r ta:Int)(rk ok:List (aF×V))(rs qs:List Str)(tr:Tr)(dsi:List Str)(di:Str)(ex sx:Option V)(i j:Nat)(σ:St)(Hz:Hp):Prop
 | mk(nx:Option V)(dz mz tz:Int)(wz:List (List aF×V))(h1:σ=[some<|.ref hd,some<|.ref tp,some<|.ref lp,some<|.ref pn,some<|.ref pd,some<|.ref px,some<|.ref pw,some<|.ref po,some<|.ref pr,nx,ex,some<|.str di,sx])
   (h2:FrS [hd,pw,po,pr] H9 Hz) (h3:Hand Hz hd dz mz tz r) (h4:tz<=ta+5*(j:Int)) (h5:Hz pr=some (.dK rk)) (h6:Hz pw=some (.dT wz)) (h7:↑wz<=12*i+j) (h8:WantsOk [hd,pw,po,pr] Hz (tr.map (·.1)) wz (λa b=>(a∈rs/\b∈dsi)\/(a∈qs.take j/\b=di))) (h9:Hz po=some (.dK ok)):CO H9 hd tp lp pn pd px pw po pr r ta rk ok rs qs tr dsi di ex sx i j σ Hz
inductive CZ(H10:Hp)(hd tp lp pn pd px pw po pr ps:Addr)(r tA:Int)(tr:Tr)(di:Str)(j:Nat)(σ:St)(Hz:Hp):Prop
 | mk(nz ez:Option V)(dz mz tz:Int)(ss:List Str)(h1:σ=[some<|.ref hd,some<|.ref tp,some<|.ref lp,some<|.ref pn,some<|.ref pd,some<|.ref px,some<|.ref pw,some<|.ref po,some<|.ref pr,nz,ez,some<|.str di,some<|.ref ps])(h2:FrS [hd] H10 Hz)(h3:Hand Hz hd dz mz tz r)(h4:tz<=tA+(j:Int))(h5:Hz ps=some (.lst<|ss.map V.str))(h6:↑ss<=j)(h7:∀x∈ss,x∈tr.map (·.1)):CZ H10 hd tp lp pn pd px pw po pr ps r tA tr di j σ Hz
abbrev oM:Stmt:=top 54
def GZ:dV oM=KB (dV oM) (oW<|dV oM):=rfl
def OS:List (Str×VF):=[("tree",.var "_law_tree_here"),("late",.var "_law_late"),("deeds",.var "_law_deeds"),("wants",.var "_law_wants"),("owners",.var "_law_owners"),("vars",.cut "_law_words_here" none<|some 4),("params",.cut "_law_words_here" (some 4)<|some 8),("fields",.cut "_law_words_here" (some 6) none),("told",.dict0),("held",.dict0),("roots",.var "_law_roots")]
def yV:OB (oW<|dV oM)=some OS:=by rfl'
inductive RX(vs:List V)(H:Hp)(Q:VK):Prop
 | mk(hd:Addr)(d m t r:Int)(h1:vs=[.ref hd])(h2:Hand H hd d m t r)(h3:t+1000<1000000)(h4:∀(wd:Addr)(A:WA)(D:WD)(H':Hp)(t':Int),Sit0 H' hd wd A D t' r->FrS [hd] H H'->H A.told=none->H A.held=none->t'<=t+900->Q (.ref wd) H'):RX  vs H Q
def MM:Sp:=λvs H Q _=>RX  vs H Q
def jP(h:N σ H):({nx:=N,rt:=r,bk:=b,ct:=c}:dB).nx σ H:=h
def gN(h:Q (σ.set i<|some v) H):bW i v σ H Q:=h
def fF(h:∀N:St->Hp->Prop,u D=N->t {D with nx:=N} σ H):fT t u D σ H:=h _ rfl
abbrev tJ:List Str:=[qH,"_law_tree_here","_law_late","_law_names","_law_deeds","_law_words_here","_law_wants","_law_owners","_law_roots","_law_name","_law_elder","_law_deed_here","_law_some"]
def zh1:bZ tJ [qH] (bR oM):=cC
def VW(F:Fun K "_law_world" "_law_world" oM f fd)(T:aS P w K mg base k "_law_take" qB gG)(O:aS P w K mg base k "_law_of" qC (cP K))(W:aS P w K mg base k "_law_words" qB FB)(TR:aS P w K mg base k "_law_tree" [qH] HI)(i8:mg "dict"=none)(mr:mg "range"=none)(mi:mg "int"=none):aR P w K mg base bQ (k+1) f fd [qH] MM:=by
 refine F.ok zh1 (λvs H Q E h=>?_) λj0 A outer s H vs Q E hr h=>?_
 .obtain⟨hd,d,m,t,r,rfl,_⟩:=h;rfl
 obtain⟨hd,d,m,t,r,rfl,hh,ht,q⟩:=h;have hu:=eC hr;have fs:(["_law_name","_law_elder"]:List Str).Nodup:=by rfl'
 have h6:(["_law_root"]:List Str).Nodup:=by rfl'
 have gm:(["_law_k",qH,"_law_names"]:List Str).Nodup:=by rfl'
 have hO:=yV;rw[GZ];generalize oW (dV oM)=L at hO;exists _,aL (iQ (bB TR hr rfl<|aA (pv 0) aE)<|eG (n:=2) rfl<|bL (gL 1 zh1.nd)<|bL (gL 2 zh1.nd) eK)
  (aL (hI (i:=3) zh1.nd rfl (Or.inr rfl)<|iE (N':=["_law_name","_law_elder"]) (src:=[none,none]) rfl eS (hZ<|pv 1) (g:=eN K 2<|dW (bW 0)<|dW (bW 1) eO) (λ_ _ _ _=>eG (n:=2) rfl<|bL (gL 0 fs)<|bL (gL 1 fs) eK) (λ_ _ _ _=>gO) λ_ _ _ _=>pv 0) (aL (sL 4 zh1.nd<|bB W hr rfl<|aA (pv 0)<|aA (bB O hr rfl<|aA (pv 0)<|aA (cG<|dI<|dI<|dI<|dI<|dI<|dI<|dI<|dI aE) aE) aE) (aL (sL 5 zh1.nd<|bB W hr rfl<|aA (pv 0)<|aA aN aE) (aL (sL 6 zh1.nd WX) (aL (sL 7 zh1.nd mC) (aL (sL 8 zh1.nd mC) (aL (dZ dJ rfl (hZ<|pv 1) (eG (n:=2) rfl<|bL (gL 9 zh1.nd)<|bL (gL 10 zh1.nd) eK)<|aQ<|fO hu (pv 8) (pv 9) (WC hu (pv 8) (pv 10) (pv 9) ⟨rfl,rfl,rfl,rfl⟩) rfl) (aL (dZ dJ rfl (hZ<|pv 4) (gL 11 zh1.nd) (aL (dZ dJ rfl (FL (dS (BS rfl) rfl i8 (by rfl') (aA (RF (iE (N':=["_law_root"]) (src:=[none]) rfl eS
     (XB<|pv 8) (g:=bW 0) (λ_ _ _ _=>gL 0 h6) (λ_ _ _ _=>gO) (λ_ _ _ _=>bX<|aA (pv 0)<|aA zG aE))) aE))) (gL 9 zh1.nd)
    (aQ<|fO hu (pv 6) (bX<|aA (pv 9)<|aA (pv 11) aE) (iE (N':=["_law_k",qH,"_law_names"]) (src:=[none,some 0,some 3]) rfl eS (lC rfl mr<|aA (bB O hr rfl<|aA (pv 0)<|aA (cG<|dI<|dI<|dI<|dI<|dI aE) aE) aE) (g:=bW 0) (λ_ _ _ _=>gL 0 gm) (λ_ _ _ _=>gO) λ_ _ _ _=>bB O hr rfl<|aA (pv 1)<|aA (pv 2) aE) rfl))
   (aL (sL 12 zh1.nd<|cG aE) (aL (dZ dJ rfl (hZ<|pv 1) (eG (n:=2) rfl<|bL (gL 9 zh1.nd)<|bL (gL 10 zh1.nd) eK) (aQ (cL (bY eZ (bB T hr rfl<|aA (pv 0)<|aA (eI (cG<|dI<|dI aE)<|dS zM rfl mi (by rfl')<|aA (OG<|oR<|pv 10) aE) aE) aN<|cE _)
     (aQ<|dQ<|eP eE fI fJ fG (pv 12)<|aA (pv 9) aE) dD)))
   (aQ<|fO hu (pv 7) (pv 11) (cA wE (pv 12)<|cA uX (cG<|aA (eI (pv 3) aN) aE)<|dS zM rfl mi (by rfl')<|aA (pS (QS<|mF hu) (pv 12) (cG aE)<|cE _) aE) rfl)))))
  (aQ (bS (ZX hO (.cons (.var (i:=1) ⟨rfl,eY rfl,by decide,by decide⟩) (.cons (.var (i:=2) ⟨rfl,eY rfl,by decide,by decide⟩) (.cons (.var (i:=4) ⟨rfl,eY rfl,by decide,by decide⟩) (.cons (.var (i:=6) ⟨rfl,eY rfl,by decide,by decide⟩) (.cons (.var (i:=7) ⟨rfl,eY rfl,by decide,by decide⟩)
   (.cons (.cut (i:=5) ⟨rfl,eY rfl,by decide,by decide⟩)<|.cons (.cut (i:=5) ⟨rfl,eY rfl,by decide,by decide⟩)<|.cons (.cut (i:=5) ⟨rfl,eY rfl,by decide,by decide⟩)<|.cons .dict0<|.cons .dict0<|.cons (.var (i:=8) ⟨rfl,eY rfl,by decide,by decide⟩) .nil)))))) (by simp[OS]) (by decide))))))))))))
 ac_rfl
 refine fF λN X=>?_;refine⟨_,rfl,hd,d,m,t,r,rfl,hh,by lia,λa tp lp ts tr late d1 m1 t1 H1 f1 fw ix ha bp c3 an gg g8 hok gh fk es ie i6 ia h7=>?_⟩;exists a,_,rfl,SqT.of ha,rfl,_,_,rfl,_,_,rfl,rfl;subst X
 first | refine jP ?_ | skip
 refine fF λN X=>?_;refine⟨_,rfl,tp,rfl,⟨_,SqL.of an⟩,λpn hs=>?_⟩;refine IA (tr:=tr) an gg g8 hs (by lia) λH2 f2 c0=>?_
 subst X
 first | refine jP ?_ | skip
 refine fF λN X=>?_;have ck:Hand H2 hd d1 m1 t1 r:=⟨f2 _ _ (by trivial) fw.1,fw.2⟩;have ij:FrS [hd] H H2:=f1.trans (f2.mono<|by trivial);have dc:=f2 _ _ (by trivial) an;have e7:=f2 _ _ (by trivial) es;have bg:∀(j:Nat) t x,ts[j]?=some t->tr[j]?=some x->H2 t=some (.tup [.str x.1,bA x.2]):=λj t x a b=>f2 _ _ (by trivial)<|g8 j t x a b
 have b3:tp≠hd:=λz=>by rw[z,hh.1]at bp;cases bp
 have ay:lp≠hd:=λz=>by rw[z,hh.1]at c3;cases c3
 refine⟨_,rfl,_,rfl,dO rfl,λp0 cc=>?_⟩;have hm:p0≠hd:=λz=>by rw[z,ck.1]at cc;cases cc
 have f9:=ck.new (o:=.lst [V.int 1,V.int 2,V.int 2,V.int 3,V.int 3,V.int 4,V.int 4,V.int 6]) cc;have f3:FrS [] H2 (upd H2 p0<|.lst [V.int 1,V.int 2,V.int 2,V.int 3,V.int 3,V.int 4,V.int 4,V.int 6]):=FrS.new cc;have fl:upd H2 p0 (.lst [V.int 1,V.int 2,V.int 2,V.int 3,V.int 3,V.int 4,V.int 4,V.int 6]) p0=some (.lst [V.int 1,V.int 2,V.int 2,V.int 3,V.int 3,V.int 4,V.int 4,V.int 6]):=zb1;generalize upd H2 p0 (.lst [V.int 1,V.int 2,V.int 2,V.int 3,V.int 3,V.int 4,V.int 4,V.int 6])=H3 at f9 f3 fl;refine⟨hd,p0,d1,m1,t1,r,_,rfl,f9,by lia,hm,SqL.of fl,by simp,by show 8<1000;decide,λx d4 m4 t4 I c4 e4=>?_⟩;obtain⟨n,rfl,n1,n6⟩:∃n:Nat,x=.int (n:Int)/\1<=n/\n<=6:=by
  simp only[wp9,aV,cY]at I;rcases I with rfl | rfl | rfl | rfl | rfl | rfl | rfl | rfl
  .exact⟨1,rfl,by decide,by decide⟩
  .exact⟨2,rfl,by decide,by decide⟩
  .exact⟨2,rfl,by decide,by decide⟩
  .exact⟨3,rfl,by decide,by decide⟩
  .exact⟨3,rfl,by decide,by decide⟩
  .exact⟨4,rfl,by decide,by decide⟩
  .exact⟨4,rfl,by decide,by decide⟩
  .exact⟨6,rfl,by decide,by decide⟩
 have f4:FrS [hd] H2 (upd H3 hd<|hl d4 m4 t4 r):=(f3.mono<|by trivial).put' (by trivial);have fa:Hand (upd H3 hd<|hl d4 m4 t4 r) hd d4 m4 t4 r:=Hand.at c4;generalize upd H3 hd (hl d4 m4 t4 r)=H4 at f4 fa;refine⟨hd,d4,m4,t4,r,n,rfl,fa,by lia,by lia,λpd ds d5 m5 t5 H5 f5 fn j3 j2 bx fi iy=>?_⟩;subst X
 first | refine jP ?_ | skip
 refine fF λN X=>?_;refine⟨_,rfl,hd,d5,m5,t5,r,9,rfl,fn,by lia,by decide,λpx xs d6 m6 t6 H6 f6 ah j5 iq bq iw j1=>?_⟩;subst X
 first | refine jP ?_ | skip
 refine fF λN X=>?_;have c7:FrS [hd] H2 H6:=(f4.trans f5).trans f6;have ci:FrS [hd] H H6:=ij.trans c7;have aw:pd≠hd:=iH bx fn;have e9:px≠hd:=iH bq ah;have a9:pn≠hd:=iH c0 ck;have d7:∀(j:Nat) t x,ts[j]?=some t->tr[j]?=some x->t≠hd:=λj t x a b z=>by have h3:=bg j t x a b;rw[z,ck.1]at h3;cases h3
 have ea:=c7 _ _ (by simpa using b3) dc;have d0:=c7 _ _ (by simpa using ay) e7;have dr:=c7 _ _ (by simpa using a9) c0;have dp:=f6 _ _ (by simpa using aw) bx;have dh:∀(j:Nat) t x,ts[j]?=some t->tr[j]?=some x->H6 t=some (.tup [.str x.1,bA x.2]):=λj t x a b=>c7 _ _ (by simpa using d7 j t x a b)<|bg j t x a b
 intro G cj;subst X
 first | refine jP ?_ | skip
 refine fF λN X=>?_;intro C bf;subst X
 first | refine jP ?_ | skip
 refine fF λN X=>?_;intro u b4;subst X
 first | refine jP ?_ | skip
 refine fF λN X=>?_;have al:H6 C=none:=by rw[<-aC (H:=H6) (a:=G) (b:=C) (o:=.dT []) (λz=>by rw[z,zb1]at bf;cases bf)];exact bf
 have ac:C≠G:=λz=>by rw[z,zb1]at bf;cases bf
 have aj:u≠G:=λz=>by rw[z,aC ac.symm,zb1]at b4;cases b4
 have ad:u≠C:=λz=>by rw[z,zb1]at b4;cases b4
 have au:H6 u=none:=by rw[aC ad,aC aj]at b4;exact b4
 have ge:upd (upd (upd H6 G<|.dT []) C<|.dK []) u (.dK []) G=some (.dT []):=by rw[aC aj.symm,aC ac.symm];exact zb1
 have ft:upd (upd (upd H6 G<|.dT []) C<|.dK []) u (.dK []) C=some (.dK []):=by rw[aC ad.symm];exact zb1
 have fh:upd (upd (upd H6 G<|.dT []) C<|.dK []) u (.dK []) u=some (.dK []):=zb1;have fb:FrS [] H6 (upd (upd (upd H6 G<|.dT []) C<|.dK []) u<|.dK []):=((FrS.new cj).trans<|FrS.new bf).trans<|FrS.new b4;generalize upd (upd (upd H6 G<|.dT []) C<|.dK []) u (.dK [])=Hb at ge ft fh fb;have fo:Hand Hb hd d6 m6 t6 r:=⟨fb _ _ (by trivial) ah.1,ah.2⟩;have cl:hd≠G:=aP ah.1 cj;have ce:hd≠C:=aP ah.1 al;have cf:hd≠u:=aP ah.1 au;have a6:∀b o,b≠hd->H6 b=some o->Stt [hd,G,C,u] Hb b o:=λb o n e=>⟨by simp only[wp9,aV,cY,fQ];exact⟨n,aP e cj,aP e al,aP e au⟩,fb _ _ (by trivial) e⟩
 have ba:=a6 _ _ b3 ea;have gk:=a6 _ _ ay d0;have i4:=a6 _ _ a9 dr;have d8:=a6 _ _ aw dp;have gr:=a6 _ _ e9 bq;have av:∀(j:Nat) t x,ts[j]?=some t->tr[j]?=some x->Stt [hd,G,C,u] Hb t (.tup [.str x.1,bA x.2]):=λj t x a b=>a6 _ _ (d7 j t x a b)<|dh j t x a b;have hf:FrS [hd] H Hb:=ci.trans (fb.mono<|by trivial);have dy:H G=none:=nE ci ah cj;have cx:H C=none:=nE ci ah al;have cw:H u=none:=nE ci ah au;have dw:∀B:Hp,FrS [hd,G,C,u] Hb B->FrS [hd] H B:=λB M b o n e=>M b o (by
  simp only[wp9,aV,cY,fQ]at n ⊢;exact⟨n,aP e dy,aP e cx,aP e cw⟩) (hf b o n e)
 have cg:∀B:Hp,(∃o,B hd=some o)->(∃o,B G=some o)->(∃o,B C=some o)->(∃o,B u=some o)->∀p,B p=none->p∉[hd,G,C,u]:=λB a b c e p hp z=>by
  simp only[wp9,aV,cY]at z;rcases z with z | z | z | z
  .obtain⟨o,ho⟩:=a;rw[<-z,hp]at ho;cases ho
  .obtain⟨o,ho⟩:=b;rw[<-z,hp]at ho;cases ho
  .obtain⟨o,ho⟩:=c;rw[<-z,hp]at ho;cases ho
  .obtain⟨o,ho⟩:=e;rw[<-z,hp]at ho;cases ho
 exists _,rfl,tp,rfl,⟨_,SqL.of ba.2⟩;refine pO (xs:=ts.map V.ref) (λi σ B=>∃(nx ex:Option V)(J:List (aF×V)),σ=[some<|.ref hd,some<|.ref tp,some<|.ref lp,some<|.ref pn,some<|.ref pd,some<|.ref px,some<|.ref G,some<|.ref C,some<|.ref u,nx,ex,none,none]/\FrS [u] Hb B/\B u=some (.dK J)/\RootsOk tr i J) ⟨_,_,[],rfl,FrS.refl,fh,rfl,[],rfl⟩ ?_ ?_ ?_
 .rintro i σ B hi ⟨_,_,_,_,M,_⟩;exact SqL.of (ba.keep<|M.mono<|by trivial).2
 .rintro i x σ B I ⟨nx,ex,J,rfl,M,a7,ax⟩;rw[bO]at I;obtain⟨tt,a8,rfl⟩:=wq8.mp I;obtain⟨hi,_⟩:=zz2.mp a8;have bn:tr[i]?=some tr[i]:=bF (by lia);have e3:=(av i tt _ a8 bn).keep (M.mono<|by trivial);exists tt,_,rfl,SqT.of e3.2,rfl,_,_,rfl,_,_,rfl,rfl;have ip:J.length<=12:=by
   have:=cF List.length ax.1;rw[aK,aK,eM]at this;lia
  obtain⟨ov,eb,r',gw⟩:∃ov:Option V,mJ B u (bA tr[i].2) ov/\∃r',ov.getD (.str tr[i].1)=.str r':=by
   cases he:tr[i].2 with
   | none=>exact⟨none,⟨J,.inl a7,.inl ⟨rfl,rfl⟩⟩,_,rfl⟩
   | some e=>
    exists _,⟨J,.inl a7,.inr ⟨Sum.inr e,rfl,rfl⟩⟩;cases hv:aG J (Sum.inr e)with
    | none=>exact⟨_,rfl⟩
    | some v=>
     obtain⟨r',rfl,_⟩:=ax.val hv;exact⟨r',rfl⟩
  exists _,rfl,u,rfl,.inl ⟨_,.inl a7⟩,_,rfl,_,rfl,ov,eb,_,rfl,_,rfl,u,_,rfl,DPut.k (k:=(Sum.inr tr[i].1:aF)) a7 (bG<|by lia),_,_,_,rfl,M.put' (by trivial),zb1;rw[gw];rcases RootsOk.step (r:=r') (n:=tr[i].1) (e:=tr[i].2) hok ax bn with h | h
  .exact h.1
  .lia
 rintro σ H7 ⟨io,j6,J,rfl,f7,gj,ax⟩;subst X
 first | refine jP ?_ | skip
 refine fF λN X=>?_;rw[aK]at ax;have aa:=ax;unfold RootsOk at aa;rw[gA<|by lia]at aa;obtain⟨rs,cp⟩:=aa.2;have i0:↑rs=↑tr:=by
  have h1:=cF List.length aa.1;have h2:=cF List.length cp;rw[aK,aK]at h1 h2;lia
 have ff:FrS [hd,G,C,u] Hb H7:=f7.mono (by trivial);have gl:Hand H7 hd d6 m6 t6 r:=⟨f7 _ _ (by simpa using cf) fo.1,fo.2⟩;have gx:=f7 _ _ (by simpa using aj.symm) ge;have gn:=f7 _ _ (by simpa using ad.symm) ft;exists _,rfl,pd,rfl,⟨_,SqL.of (d8.keep ff).2⟩;refine pO (xs:=ds.map V.str) (AJ Hb hd tp lp pn pd px G C u r t6 J rs ds tr)
  ⟨_,_,_,_,d6,m6,t6,[],[],rfl,ff,gl,by lia,gj,gx,by simp,(λr d h=>by simp at h),gn,by simp,(λd h=>by simp at h)⟩ ?_ ?_ ?_
 .rintro i σ B hi ⟨_,_,_,_,_,_,_,_,_,_,M,_⟩;exact SqL.of (d8.keep M).2
 .rintro i x σ B I ⟨nx,ex,dx,sx,da,ma,ta,wk,ok,rfl,M,b1,ew,a7,cm,id,bo,cr,gu,a5⟩;obtain⟨hi,_⟩:=zz2.mp I;rw[aK]at hi;rw[bO,bF hi]at I;cases I;have a0:∀Y:Hp,FrS [hd,G,C,u] Hb Y->Y pn=some (.lst<|(tr.map (·.1)).map V.str):=λY fy=>(i4.keep fy).2;have bs:(tr.map (·.1))≠[]:=by simpa using gh
  have go:↑(tr.map (·.1))<=12:=by rw[aK];exact fk
  refine gN ?_;refine fF λN2 c5=>?_;exists u,J,a7;refine⟨_,rfl,u,J,rfl,a7,λo Dl b7=>?_⟩;have fr:Dl≠u:=λz=>by rw[z,zb1]at b7;cases b7
  have j4:B Dl=none:=by rw[aC fr]at b7;exact b7
  refine FQ (xs:=J.map λkv=>kv.2) (λi' σ Y=>(∃x,σ=[x])/\FrS [] (upd B u<|.frz o<|.dK J) Y/\∃as:List Addr,↑as=i'/\Y Dl=some (.lst<|as.map V.ref)/\∀(j:Nat) a,as[j]?=some a->∃rt,rs[j]?=some rt/\Y a=some (.tup [.str rt,.bl true])) ⟨⟨_,rfl⟩,(FrS.refl).put b7,[],rfl,zb1,(λj a h=>by simp at h)⟩ ?_ ?_ ?_
  .rintro i' σ Y hi ⟨_,fy,_⟩;exact fy _ _ (by trivial) zb1
  .rintro i' x σ Y I ⟨⟨x0,rfl⟩,fy,as,et,co,has⟩;rw[cp]at I;obtain⟨cy,_⟩:=zz2.mp I;rw[aK]at cy;rw[bO,bF cy]at I;cases I;refine⟨_,rfl,dO rfl,λtq dt=>?_⟩;have i7:Dl≠tq:=aP co dt;have di:upd Y tq (.tup [V.str rs[i'],V.bl true]) Dl=some (.lst<|as.map V.ref):=by rw[aC i7];exact co
   refine⟨_,di,by rw[aK];exact bG (by lia),⟨_,rfl⟩,(fy.trans<|FrS.new dt).put b7,as++[tq],by rw[bH,et];rfl,by rw[zb1,bN];rfl,λj a' e=>?_⟩
   by_cases hj:j<↑as
   .rw[kE hj]at e;obtain⟨rt,e1,e2⟩:=has j a' e;have e3:upd Y tq (.tup [V.str rs[i'],V.bl true]) a'=some (.tup [.str rt,.bl true]):=by rw[aC<|aP e2 dt];exact e2
    exact⟨rt,e1,EX di _ _ e3⟩
   .rw[kN<|by lia]at e;have h0:j-↑as=0:=by
     cases hz:j-↑as with
     | zero=>rfl
     | succ k=>rw[hz]at e;simp at e
    rw[h0]at e;simp only[DZ,ET]at e;subst e;have:j=i':=by lia
    subst this;exact⟨_,bF cy,EX di _ _ zb1⟩
  rintro σ Y ⟨_,fy,as,et,co,has⟩;rw[aK]at et;have h4:J.length=↑rs:=by
   have h2:=cF List.length cp;rw[aK,aK]at h2;exact h2
  exists o,fy _ _ (by trivial) zb1;have f8:FrS [] B (upd Y u<|.dK J):=FrS.thaw a7 fy;have g7:upd Y u (.dK J) Dl=some (.lst<|as.map V.ref):=by rw[aC fr];exact co
  have c8:∀(j:Nat) a,as[j]?=some a->∃rt,rs[j]?=some rt/\upd Y u (.dK J) a=some (.tup [.str rt,.bl true]):=λj a e=>by
   obtain⟨rt,e1,e2⟩:=has j a e;exact⟨rt,e1,by rw[aC λz=>by rw[z,fy _ _ (by trivial) zb1]at e2;cases e2];exact e2⟩
  generalize upd Y u (.dK J)=H8 at f8 g7 c8;refine⟨Dl,as,rs.map λr=>((Sum.inr r:aF),V.bl true),rfl,SqL.of g7,by rw[aK];lia,by rw[aK];exact bG (by lia),λj t' kv i9 fe=>?_,λl g0=>?_⟩
  .obtain⟨rt,e1,e2⟩:=c8 j t' i9;rw[bO,e1]at fe;cases fe;exact SqT.of e2
  refine⟨l,_,rfl,zb1,λo2=>?_⟩;obtain⟨qs,eq,im,gq⟩:=ZH rs<|.bl true;generalize cO [] (rs.map λr=>((Sum.inr r:aF),V.bl true))=b9 at eq;rw[gF];have ai:FrS [] B (upd H8 l<|.frz o2<|.dK b9):=f8.trans<|FrS.new g0;have gc:upd H8 l (.frz o2<|.dK b9) l=some (.frz o2<|.dK b9):=zb1;generalize upd H8 l (.frz o2<|.dK b9)=H9 at ai gc;have hk:B l=none:=f8.old (by trivial) g0;have ib:l∉[hd,G,C,u]:=cg B ⟨_,b1.1⟩ ⟨_,cm⟩ ⟨_,cr⟩ ⟨_,a7⟩ l hk;refine yQ (xs:=b9.map λkv=>kV kv.1) (CO H9 hd tp lp pn pd px G C u r ta J ok rs qs tr (ds.take i) ds[i] ex sx i)
   ⟨_,da,ma,ta,wk,rfl,FrS.refl,⟨ai _ _ (by trivial) b1.1,b1.2⟩,by lia,ai _ _ (by trivial) a7,ai _ _ (by trivial) cm,by lia,(bo.keep<|ai.mono<|by trivial).mono (λa b h=>by rcases h with h | h;exact h;simp at h),ai _ _ (by trivial) cr⟩ ?_ ?_ ?_
  .rintro j σ Z hj ⟨_,_,_,_,_,_,fz,_⟩;exact fz _ _ ib gc
  .rintro j x σ Z I ⟨ir,dz,mz,tz,wz,rfl,fz,af,en,gi,ga,hw,dn,g9⟩;rw[eq]at I;obtain⟨hj,_⟩:=zz2.mp I;rw[aK]at hj;rw[bO,bF hj]at I;cases I;have gs:FrS [hd,G,C,u] Hb Z:=(M.trans<|ai.mono<|by trivial).trans fz;refine⟨_,rfl,dO rfl,λp5 b6=>?_⟩;have h9:p5≠hd:=λz=>by rw[z,af.1]at b6;cases b6
   refine⟨hd,p5,dz,mz,tz,r,_,rfl,af.new b6,by lia,h9,SqL.of zb1,by simp,by show 5<1000;decide,λy dq mq tq hy cq iz=>?_⟩;obtain⟨jn,rfl,iu⟩:∃jn:Nat,y=.int (jn:Int)/\jn<=4:=by
    simp only[wp9,aV,cY]at hy;rcases hy with rfl | rfl | rfl | rfl | rfl
    .exact⟨0,rfl,by decide⟩
    .exact⟨1,rfl,by decide⟩
    .exact⟨1,rfl,by decide⟩
    .exact⟨2,rfl,by decide⟩
    .exact⟨4,rfl,by decide⟩
   have fq:FrS [hd] Z (upd (upd Z p5<|.lst [V.int 0,V.int 1,V.int 1,V.int 2,V.int 4]) hd<|hl dq mq tq r):=(FrS.new b6).put' (by trivial);have cd:Hand (upd (upd Z p5<|.lst [V.int 0,V.int 1,V.int 1,V.int 2,V.int 4]) hd<|hl dq mq tq r) hd dq mq tq r:=Hand.at cq;generalize upd (upd Z p5<|.lst [V.int 0,V.int 1,V.int 1,V.int 2,V.int 4]) hd (hl dq mq tq r)=Hq at fq cd;refine⟨(jn:Int),rfl,by lia,by lia,λDw be=>?_⟩;have bk:Dw≠hd:=λz=>by rw[z,cd.1]at be;cases be
   have dk:Z Dw=none:=nE fq cd be;have bw:Dw∉[hd,G,C,u]:=cg Z ⟨_,af.1⟩ ⟨_,ga⟩ ⟨_,g9⟩ ⟨_,gi⟩ Dw dk;refine HY (lo:=0) (n:=(jn:Int).toNat) (λel σ Hu=>(∃kx,σ=[kx,some<|.ref hd,some<|.ref pn])/\FrS [hd] Hq Hu/\∃(du mu tu:Int)(ws:List Str),Hand Hu hd du mu tu r/\tu<=tq+el/\Hu Dw=some (.lst<|ws.map V.str)/\↑ws=el/\∀x∈ws,x∈tr.map (·.1))
    ⟨⟨_,rfl⟩,FrS.new be,dq,mq,tq,[],cd.new be,by lia,zb1,rfl,by simp⟩ ?_ ?_
   .rintro el σ Hu ig ⟨⟨kx,rfl⟩,fu,du,mu,tu,ws,ei,i2,ch,c9,aq⟩;have ec:Hu pn=some (.lst<|(tr.map (·.1)).map V.str):=fu _ _ (by simpa using a9)<|fq _ _ (by simpa using a9)<|a0 Z gs;refine⟨_,rfl,_,rfl,hd,pn,du,mu,tu,r,_,rfl,ei,by lia,a9,SqL.of ec,by simpa using bs,by rw[aK];lia,λv dv mv tv hv cv ev=>?_⟩;obtain⟨nm,hq,rfl⟩:=wr2.mp hv;refine⟨_,by rw[aC bk];exact ch,by rw[aK];exact bG (by lia),⟨_,rfl⟩,(fu.put'<|by trivial).put be,dv,mv,tv,ws++[nm],⟨by rw[aC bk.symm];exact zb1,cv⟩,by lia,by rw[zb1,bN];rfl,by rw[bH,c9];rfl,λx I=>?_⟩;rcases wr7.mp I with h | h
    .exact aq x h
    .rw[wq1.mp h];exact hq
   rintro σ Hu ⟨_,fu,du,mu,tu,ws,ei,i2,ch,c9,aq⟩;have ih:FrS [hd] Z Hu:=fq.trans fu;refine⟨_,rfl,_,rfl,_,rfl,dO rfl,λpk ct=>?_⟩;have b8:FrS [hd] Z (upd Hu pk<|.tup [V.str qs[j],V.str ds[i]]):=ih.trans<|FrS.new ct;have gb:upd Hu pk (.tup [V.str qs[j],V.str ds[i]]) Dw=some (.lst<|ws.map V.str):=by rw[aC<|aP ch ct];exact ch
   have e8:=ei.new (o:=.tup [V.str qs[j],V.str ds[i]]) ct;have b5:upd Hu pk (.tup [V.str qs[j],V.str ds[i]]) pk=some (.tup [V.str qs[j],V.str ds[i]]):=zb1;generalize upd Hu pk (.tup [V.str qs[j],V.str ds[i]])=Hk at b8 gb e8 b5;have cu:=b8 _ _ (by simpa using cl.symm) ga;have er:Dw≠G:=λz=>bw (by rw[z];simp)
   refine⟨G,_,rfl,DPut.t (k:=[Sum.inr qs[j],Sum.inr ds[i]]) cu b5 (bG<|by lia),_,du,mu,tu,_,rfl,fz.trans ((b8.mono<|by trivial).put'<|by trivial),⟨by rw[aC cl];exact e8.1,e8.2⟩,by lia,by rw[aC aj];exact b8 _ _ (by simpa using cf.symm) gi,zb1,?_,?_,by rw[aC ac];exact b8 _ _ (by simpa using ce.symm) g9⟩
   .have:=kD wz [Sum.inr qs[j],Sum.inr ds[i]]<|V.ref Dw;lia
   .have W1:=dn.keep ((b8.mono (T:=[hd,G,C,u])<|by trivial).put' (a:=G) (o:=.dT<|aO wz [Sum.inr qs[j],Sum.inr ds[i]]<|.ref Dw)<|by trivial);refine(W1.put (r:=qs[j]) (d:=ds[i]) (p:=Dw) (ws:=ws) ⟨bw,by rw[aC er];exact gb⟩ (by lia) aq).mono λa b h=>?_
    rcases h with h | ⟨h1,h2⟩
    .exact .inl<|.inl h
    .rw[fW,bF hj]at h1;rcases wr7.mp h1 with h1 | h1
     .exact .inl<|.inr ⟨h1,h2⟩
     .have:a=qs[j]:=by simpa using h1
      exact .inr ⟨this,h2⟩
  rintro σ ak ⟨il,dA,mA,tA,wA,rfl,fA,gf,ii,f0,fc,e5,b2,fp⟩;subst c5
  first | refine jP ?_ | skip
  refine fF λN2 c5=>?_;have i3:↑(b9.map λkv=>kV kv.1)=↑qs:=by rw[eq,aK]
  rw[i3]at ii e5 b2;rw[gA<|aW _]at b2;have ap:FrS [hd,G,C,u] Hb ak:=(M.trans<|ai.mono<|by trivial).trans fA;have cz:OwnOk [hd,G,C,u] ak (tr.map (·.1)) ok (λb=>b∈ds.take i):=a5.keep<|(ai.mono<|by trivial).trans fA;refine⟨bM _,λps b0=>?_⟩;subst c5
  first | refine jP ?_ | skip
  refine fF λN2 c5=>?_;have db:ps∉[hd,G,C,u]:=cg ak ⟨_,gf.1⟩ ⟨_,fc⟩ ⟨_,fp⟩ ⟨_,f0⟩ ps b0;have bi:ps≠hd:=λz=>db (by rw[z];simp)
  have gy:ps≠pn:=λz=>by rw[z,a0 ak ap]at b0;cases b0
  exists _,rfl,tp,rfl,⟨_,SqL.of<|by rw[aC<|aP (ba.keep ap).2 b0];exact(ba.keep ap).2⟩;refine pO (xs:=ts.map V.ref) (CZ ak hd tp lp pn pd px G C u ps r tA tr ds[i])
   ⟨_,_,dA,mA,tA,[],rfl,FrS.new b0,gf.new b0,by lia,zb1,by simp,by simp⟩ ?_ ?_ ?_
  .rintro j σ Z hj ⟨_,_,_,_,_,_,_,fz,_⟩;exact SqL.of ((ba.keep ap).keep<|fz.mono<|by trivial).2
  .rintro j x σ Z I ⟨nz,ez,dz,mz,tz,ss,rfl,fz,af,en,br,bh,ag⟩;rw[bO]at I;obtain⟨tt,a8,rfl⟩:=wq8.mp I;obtain⟨hj,_⟩:=zz2.mp a8;have bn:tr[j]?=some tr[j]:=bF (by lia);have e3:=((av j tt _ a8 bn).keep ap).keep (fz.mono<|by trivial);exists tt,_,rfl,SqT.of e3.2,rfl,_,_,rfl,_,_,rfl,rfl;refine⟨_,rfl,dO rfl,λp2 az=>?_⟩;obtain⟨kk,b5,ic,it⟩:∃kk:Int,dY [V.int 3,V.int 2] (if decide (bA tr[j].2=V.non)=true then 1 else 0)=some (.int kk)/\0<kk/\kk<10:=by
    cases tr[j].2 with
    | none=>exact⟨2,rfl,by decide,by decide⟩
    | some e=>exact⟨3,rfl,by decide,by decide⟩
   refine⟨_,rfl,.inr ⟨_,rfl,p2,_,_,V.int kk,rfl,rfl,SqL.of zb1,b5,hd,dz,mz,tz,r,kk,rfl,af.new az,by lia,ic,by lia,λy dv mv tv y0 y1 cv ev=>⟨rfl,_,rfl,?_⟩⟩⟩;have em:upd (upd Z p2<|.lst [V.int 3,V.int 2]) hd (hl dv mv tv r) ps=some (.lst<|ss.map V.str):=by rw[aC bi,aC<|aP br az];exact br
   have fv:FrS [hd] ak (upd (upd Z p2<|.lst [V.int 3,V.int 2]) hd<|hl dv mv tv r):=(fz.trans<|FrS.new az).put' (by trivial);have dl:Hand (upd (upd Z p2<|.lst [V.int 3,V.int 2]) hd<|hl dv mv tv r) hd dv mv tv r:=Hand.at cv;refine bI (λc=>?_) λc=>?_
   .refine⟨_,rfl,.inl ⟨rfl,_,SqL.of em⟩,_,rfl,ps,_,_,rfl,rfl,em,by rw[aK];exact bG (by lia),_,_,dv,mv,tv,ss++[tr[j].1],rfl,fv.put b0,⟨by rw[aC bi.symm];exact dl.1,dl.2⟩,by lia,by rw[zb1,bN];rfl,by rw[bH,dU];lia,λx I=>?_⟩;rcases wr7.mp I with h | h
    .exact ag x h
    .rw[wq1.mp h];exact wr2.mpr ⟨_,cU bn,rfl⟩
   .exact⟨_,_,dv,mv,tv,ss,rfl,fv,dl,by lia,em,by lia,ag⟩
  rintro σ ab ⟨nz,ez,dz,mz,tz,ss,rfl,fz,af,en,br,bh,ag⟩;subst c5
  first | refine jP ?_ | skip
  rw[aK]at en bh;have fg:FrS [hd,G,C,u] ak ab:=fz.mono (by trivial);have c2:=a0 ab<|ap.trans fg;have h0:0<↑(tr.map (·.1)):=List.length_pos_iff.mpr bs;have d3:dY ((tr.map (·.1)).map V.str) 0=some (.str (tr.map (·.1))[0]):=by
   have:=lL (xs:=(tr.map (·.1)).map V.str) (j:=0) (v:=.str (tr.map (·.1))[0]) (by rw[bO,bF h0];rfl);exact this
  refine⟨_,rfl,_,rfl,pn,_,_,_,rfl,rfl,SqL.of c2,d3,dO rfl,λp1 d2=>?_⟩;refine⟨_,rfl,bM _,λpe bt=>?_⟩;have ar:upd ab p1 (.lst [V.str (tr.map (·.1))[0]]) ps=some (.lst<|ss.map V.str):=by rw[aC<|aP br d2];exact br
  have ao:ps≠pe:=aP ar bt;have ep:p1≠pe:=λz=>by rw[<-z,zb1]at bt;cases bt
  refine⟨ps,pe,_,rfl,rfl,ao,SqL.of (by rw[aC ao];exact ar),SqL.of zb1,.inr ⟨_,rfl,?_⟩⟩;obtain⟨kk,b5,zs,hg,iv,gz⟩:∃kk:Int,(if ((ss.map V.str).isEmpty != false)=true then(1:Int) else 0)=kk/\∃zs:List Str,(List.replicate kk.toNat [V.str (tr.map (·.1))[0]]).flatten=zs.map V.str/\↑zs<=1/\∀x∈zs,x∈tr.map (·.1):=by
   cases ss with
   | nil=>exact⟨1,rfl,[(tr.map (·.1))[0]],rfl,by simp,λx I=>by rw[wq1.mp I];exact iT h0⟩
   | cons y ys=>exact⟨0,rfl,[],rfl,by simp,by simp⟩
  have hc:kk=0\/kk=1:=by
   rw[<-b5]
   split
   .exact .inr rfl
   .exact .inl rfl
  rw[b5];refine⟨p1,kk,_,rfl,rfl,by rw[aC ep];exact zb1,by lia,by lia,?_,λp2 az=>?_⟩
  .rcases hc with rfl | rfl
   .show 1*0<=sizeLine;lia
   .show 1*1<=sizeLine;exact cN (bG<|by lia)
  rw[hg];have bz:upd (upd ab p1<|.lst [V.str (tr.map (·.1))[0]]) pe (.lst []) ps=some (.lst<|ss.map V.str):=by rw[aC ao];exact ar
  refine⟨ps,p2,_,_,rfl,rfl,by rw[aC<|aP bz az];exact bz,zb1,by rw[aK,aK];exact cN (bG<|by lia),λp3 fj=>?_⟩;rw[<-bN];have bc:FrS [] ab (upd (upd (upd (upd ab p1<|.lst [V.str (tr.map (·.1))[0]]) pe<|.lst []) p2<|.lst<|zs.map V.str) p3<|.lst<|(ss++zs).map V.str):=by
   refine(((FrS.new d2).trans<|FrS.new bt).trans<|FrS.new az).trans (FrS.new ?_);exact fj
  have bm:upd (upd (upd (upd ab p1<|.lst [V.str (tr.map (·.1))[0]]) pe<|.lst []) p2<|.lst<|zs.map V.str) p3 (.lst<|(ss++zs).map V.str) p3=some (.lst<|(ss++zs).map V.str):=zb1;have ee:ab p3=none:=FrS.old (S:=[]) (((FrS.new d2).trans<|FrS.new bt).trans<|FrS.new az) (by trivial) fj;generalize upd (upd (upd (upd ab p1<|.lst [V.str (tr.map (·.1))[0]]) pe<|.lst []) p2<|.lst<|zs.map V.str) p3 (.lst<|(ss++zs).map V.str)=i1 at bc bm;have c1:=fz _ _ (by simpa using ce.symm) fp;have bj:=fz _ _ (by simpa using cl.symm) fc;have ca:=fz _ _ (by simpa using cf.symm) f0;have c6:p3∉[hd,G,C,u]:=cg ab ⟨_,af.1⟩ ⟨_,bj⟩ ⟨_,c1⟩ ⟨_,ca⟩ p3 ee;have d9:p3≠C:=λz=>c6 (by rw[z];simp)
  exists _,rfl,_,rfl,C,_,rfl,DPut.k (k:=(Sum.inr ds[i]:aF)) (bc _ _ (by trivial) c1) (bG<|by lia);have eo:FrS [hd,G,C,u] ak (upd i1 C<|.dK<|aO ok (Sum.inr ds[i])<|.ref p3):=(fg.trans<|bc.mono<|by trivial).put' (by trivial);exists _,_,_,_,dz,mz,tz,wA,aO ok (Sum.inr ds[i])<|.ref p3,rfl,ap.trans eo,⟨by rw[aC ce];exact bc _ _ (by trivial) af.1,af.2⟩,by lia,by rw[aC ad];exact bc _ _ (by trivial) ca,by rw[aC ac.symm];exact bc _ _ (by trivial) bj,by lia,?_,zb1,?_
  .refine(b2.keep eo).mono λa b h=>?_;rw[fW,bF hi]at h;rcases wr7.mp h.2 with h2 | h2
   .exact .inl ⟨h.1,h2⟩
   .exact .inr ⟨gq a h.1,by simpa using h2⟩
  .have:=kD ok (Sum.inr ds[i])<|V.ref p3;lia
  .refine((cz.keep eo).put (d:=ds[i]) (p:=p3) (os:=ss++zs) ⟨c6,by rw[aC d9];exact bm⟩ (λx I=>?_)<|by rw[bH];lia).mono' λa h=>?_
   .rcases wr7.mp I with h | h
    .exact ag x h
    .exact gz x h
   .rw[fW,bF hi]at h;rcases wr7.mp h with h2 | h2
    .exact .inl h2
    .exact .inr (by simpa using h2)
 rintro σ B ⟨nx,ex,dx,sx,da,ma,ta,wk,ok,rfl,M,b1,ew,a7,cm,id,bo,cr,gu,a5⟩;subst X
 first | refine jP ?_ | skip
 rw[aK]at ew bo a5;rw[gA<|aW _]at bo a5;intro p hp;have ae:=(gr.keep M).2;refine⟨_,rfl,_,rfl,_,rfl,_,rfl,_,rfl,_,rfl,_,rfl,px,_,rfl,SqL.of (by rw[aC<|aP ae hp];exact ae),λq1 df=>?_⟩;have e1:cW (xs.map V.str) none (some 4)=(xs.take 4).map V.str:=by rw[xR];exact LP (xs.map V.str) (n:=4) (by rw[aK];lia)
 rw[e1];have g1:FrS [] B (upd (upd B p<|.dK []) q1<|.lst<|(xs.take 4).map V.str):=(FrS.new hp).trans<|FrS.new df;have p1:upd (upd B p<|.dK []) q1 (.lst<|(xs.take 4).map V.str) p=some (.dK []):=by rw[aC<|aP (o:=.dK []) zb1 df];exact zb1
 have v1:upd (upd B p<|.dK []) q1 (.lst<|(xs.take 4).map V.str) q1=some (.lst<|(xs.take 4).map V.str):=zb1;have gv:B q1=none:=(FrS.new (S:=[]) (o:=.dK []) hp).old (by trivial) df;generalize upd (upd B p<|.dK []) q1 (.lst<|(xs.take 4).map V.str)=K1 at g1 p1 v1;refine⟨_,rfl,_,rfl,_,rfl,px,_,rfl,SqL.of<|g1 _ _ (by trivial) ae,λq2 eh=>?_⟩;have e2:cW (xs.map V.str) (some 4) (some 8)=((xs.drop 4).take 4).map V.str:=by rw[xR,yK];exact VJ (xs.map V.str) (a:=4) (b:=8) (by rw[aK];lia) (by lia)
 rw[e2];have g2:FrS [] K1 (upd K1 q2<|.lst<|((xs.drop 4).take 4).map V.str):=FrS.new eh;have v2:upd K1 q2 (.lst<|((xs.drop 4).take 4).map V.str) q2=some (.lst<|((xs.drop 4).take 4).map V.str):=zb1;have hn:B q2=none:=g1.old (by trivial) eh;have am:=eh;generalize upd K1 q2 (.lst<|((xs.drop 4).take 4).map V.str)=K2 at g2 v2;refine⟨_,rfl,_,rfl,px,_,rfl,SqL.of<|g2 _ _ (by trivial)<|g1 _ _ (by trivial) ae,λq3 cb=>?_⟩;have e3:cW (xs.map V.str) (some 6) none=(xs.drop 6).map V.str:=by rw[yK];exact RE (xs.map V.str) (n:=6) (by rw[aK];lia)
 rw[e3];have g3:FrS [] K2 (upd K2 q3<|.lst<|(xs.drop 6).map V.str):=FrS.new cb;have v3:upd K2 q3 (.lst<|(xs.drop 6).map V.str) q3=some (.lst<|(xs.drop 6).map V.str):=zb1;generalize upd K2 q3 (.lst<|(xs.drop 6).map V.str)=K3 at g3 v3;intro pt cn;have g4:FrS [] K3 (upd K3 pt<|.dK []):=FrS.new cn;have v4:upd K3 pt (.dK []) pt=some (.dK []):=zb1;generalize upd K3 pt (.dK [])=K4 at g4 v4;intro ph bv;have g5:FrS [] K4 (upd K4 ph<|.dK []):=FrS.new bv;have v5:upd K4 ph (.dK []) ph=some (.dK []):=zb1;generalize upd K4 ph (.dK [])=K5 at g5 v5;have eg:FrS [] K1 K5:=((g2.trans g3).trans g4).trans g5;have i5:FrS [] B K5:=g1.trans eg;have g6:FrS [] B K3:=(g1.trans g2).trans g3;have ik:FrS [] B K4:=g6.trans g4;have ef:B pt=none:=g6.old (by trivial) cn;have eu:B ph=none:=ik.old (by trivial) bv;have b6:=eg _ _ (by trivial) p1;have ek:pt≠ph:=aP v4 bv;have fm:p≠pt:=λz=>by rw[<-z,(g2.trans g3) _ _ (by trivial) p1]at cn;cases cn
 have bu:p≠ph:=λz=>by rw[<-z,((g2.trans g3).trans g4) _ _ (by trivial) p1]at bv;cases bv
 refine⟨_,rfl,b6,[(Sum.inr "tree",.ref tp),(Sum.inr "late",.ref lp),(Sum.inr "deeds",.ref pd),(Sum.inr "wants",.ref G),(Sum.inr "owners",.ref C),(Sum.inr "vars",.ref q1),(Sum.inr "params",.ref q2),(Sum.inr "fields",.ref q3),(Sum.inr "told",.ref pt),(Sum.inr "held",.ref ph),(Sum.inr "roots",.ref u)],rfl,by show 11<=15;decide,?_⟩;have ej:(([(Sum.inr "tree",.ref tp),(Sum.inr "late",.ref lp),(Sum.inr "deeds",.ref pd),(Sum.inr "wants",.ref G),(Sum.inr "owners",.ref C),(Sum.inr "vars",.ref q1),(Sum.inr "params",.ref q2),(Sum.inr "fields",.ref q3),(Sum.inr "told",.ref pt),(Sum.inr "held",.ref ph),(Sum.inr "roots",.ref u)]:List (aF×V)).map (·.1)).Nodup:=by
  show([Sum.inr "tree",Sum.inr "late",Sum.inr "deeds",Sum.inr "wants",Sum.inr "owners",Sum.inr "vars",Sum.inr "params",Sum.inr "fields",Sum.inr "told",Sum.inr "held",Sum.inr "roots"]:List aF).Nodup
  rfl'
 rw[MI _ [] (by rw[wJ];exact ej),wJ];generalize hkvs:([(Sum.inr "tree",.ref tp),(Sum.inr "late",.ref lp),(Sum.inr "deeds",.ref pd),(Sum.inr "wants",.ref G),(Sum.inr "owners",.ref C),(Sum.inr "vars",.ref q1),(Sum.inr "params",.ref q2),(Sum.inr "fields",.ref q3),(Sum.inr "told",.ref pt),(Sum.inr "held",.ref ph),(Sum.inr "roots",.ref u)]:List (aF×V))=kvs at ej;have gt:∀(j:Nat)(k:aF)(v:V),kvs[j]?=some (k,v)->aG kvs k=some v:=λj k v h=>QD ej h;have kp:∀b o,K5 b=some o->b≠p->upd K5 p (.dK kvs) b=some o:=λb o e n=>by rw[aC n];exact e
 have kx:∀b o,B b=some o->upd K5 p (.dK kvs) b=some o:=λb o e=>kp b o (i5 _ _ (by trivial) e)<|aP e hp
 have bd:=b1.1;have st:∀b o,b≠hd->B b=some o->Stt [hd,pt,ph] (upd K5 p<|.dK kvs) b o:=λb o n e=>⟨by simp only[wp9,aV,cY,fQ];exact⟨n,aP e ef,aP e eu⟩,kx b o e⟩
 have dd:q1≠p:=λz=>by rw[z,p1]at v1;cases v1
 have dj:q2≠p:=λz=>by rw[z]at am;rw[p1]at am;cases am
 have cs:q3≠p:=λz=>by rw[z,g2 _ _ (by trivial) p1]at cb;cases cb
 have gp:B q3=none:=(g1.trans g2).old (by trivial) cb;have w1:=eg _ _ (by trivial) v1;have w2:=((g3.trans g4).trans g5) _ _ (by trivial) v2;have w3:=(g4.trans g5) _ _ (by trivial) v3;have w4:=g5 _ _ (by trivial) v4;have sl:∀(b:Addr)(zs:List Str),K5 b=some (.lst<|zs.map V.str)->b≠p->B b=none->Stt [hd,pt,ph] (upd K5 p<|.dK kvs) b (.lst<|zs.map V.str):=λb zs e n e0=>⟨by
  simp only[wp9,aV,cY,fQ];exact⟨(λz=>by rw[z,bd]at e0;cases e0),(λz=>by rw[z,w4]at e;cases e),(λz=>by rw[z,v5]at e;cases e)⟩,kp b _ e n⟩
 have dm:=cf.symm;have e6:=cl.symm;have ed:=ce.symm;obtain⟨own,de⟩:∃own:Str->List Str,∀d' (bb:d'∈ds),own d'=(a5 d' bb).choose_spec.choose:=by
  classical
  exact⟨λd'=>if h:d'∈ds then(a5 d' h).choose_spec.choose else [],λd' h=>dif_pos h⟩
 refine q p ⟨tp,lp,pd,G,C,q1,q2,q3,pt,ph,u⟩ ⟨tr,late,ds,xs.take 4,(xs.drop 4).take 4,xs.drop 6,wk,ok,J,own⟩ _ ta ⟨⟨da,ma,kx _ _ b1.1,b1.2⟩,⟨[],kp _ _ w4 fm.symm,DOk.nil⟩,⟨[],kp _ _ v5 bu.symm,DOk.nil⟩,⟨⟨kvs,⟨?_,zb1⟩,?_⟩,⟨ts,st _ _ b3 (ba.keep M).2,gg,λj t' x a b=>st _ _ (d7 j t' x a b) ((av j t' x a b).keep M).2⟩,st _ _ ay (gk.keep M).2,st _ _ aw (d8.keep M).2,sl _ _ w1 dd gv,sl _ _ w2 dj hn,sl _ _ w3 cs gp,st _ _ e6 cm,st _ _ ed cr,st _ _ dm a7,?_,?_⟩,?_,?_⟩ ?_ ?_ ?_ ?_
 .simp only[wp9,aV,cY,fQ];exact⟨(λz=>by rw[z,bd]at hp;cases hp),fm,bu⟩
 .rw[<-hkvs]at gt ⊢;exact⟨gt 0 _ _ rfl,gt 1 _ _ rfl,gt 2 _ _ rfl,gt 3 _ _ rfl,gt 4 _ _ rfl,gt 5 _ _ rfl,gt 6 _ _ rfl,gt 7 _ _ rfl,gt 8 _ _ rfl,gt 9 _ _ rfl,gt 10 _ _ rfl⟩
 .intro n' h8 d' bb;have h5:(Sum.inr n':aF)∈J.map (·.1):=by
   rw[aa.1];obtain⟨z,hz,ez⟩:=wr2.mp h8;exact wr2.mpr ⟨z,hz,by rw[<-ez]⟩
  obtain⟨v,hv⟩:∃v,aG J (Sum.inr n')=some v:=by
   cases hv:aG J (Sum.inr n')with
   | some v=>exact⟨v,rfl⟩
   | none=>exact absurd h5<|ES hv
  obtain⟨rt,rfl,gd⟩:=ax.val hv;have dg:rt∈rs:=by
   rw[cp]at gd;obtain⟨y,hy,ey⟩:=wr2.mp gd;cases ey;exact hy
  obtain⟨pp,ws,a1,a2,a3,a4⟩:=bo rt d' ⟨dg,bb⟩;exact⟨rt,pp,ws,hv,a1,st _ _ (λz=>a2.1<|by rw[z];simp) a2.2,a3,a4⟩
 .intro d' bb;have e0:=de d' bb;obtain⟨a1,a2,a3,a4⟩:=(a5 d' bb).choose_spec.choose_spec;rw[<-e0]at a2 a3 a4;exact⟨_,a1,st _ _ (λz=>a2.1<|by rw[z];simp) a2.2,a3,a4⟩
 .show([hd,pt,ph]:List Addr).Nodup;simp only[ws9,wp9,aV,cY,fQ];exact⟨⟨aP bd ef,aP bd eu⟩,ek,not_false,lB⟩
 .exact⟨hok,h7,gh,fk,ie,i6,ia,(by show ds≠[];intro z;rw[z]at fi;simp at fi;lia),by show ↑ds<=6;lia,by show(xs.take 4).length=4;rw[eM];lia,by show((xs.drop 4).take 4).length=4;rw[eM,mP];lia,by show(xs.drop 6).length=3;rw[mP];lia⟩
 .exact(dw B M).trans λb o n e=>kx b o e
 .show H pt=none;exact(dw B M).old (λb hb=>by rw[wq1.mp hb];exact⟨_,bd⟩) ef
 .show H ph=none;exact(dw B M).old (λb hb=>by rw[wq1.mp hb];exact⟨_,bd⟩) eu
 .lia
abbrev MQ:Stmt:=top 66
abbrev Dz:=Str×Addr×List Addr×List Addr
inductive RowsIs(Z:Str->Option Str->Prop)(H:Hp)(z:Dz):Prop
 | mk(h2:H z.2.1=some (.tup<|z.2.2.1.map V.ref))(h3:Fl Z H 4 z.2.2.1 z.2.2.2)(h4:↑z.2.2.2<=80):RowsIs Z H z
theorem RowsIs.keep(h:RowsIs Z H z)(f:Tup H H'):RowsIs Z H' z:=by
 obtain⟨h2,a,b⟩:=h;exact⟨f _ _ h2,a.keep f,b⟩
inductive DeedIs(Z:Str->Option Str->Prop)(H:Hp)(f:Addr)(z:Dz):Prop
 | mk(pv gv:V)(h1:H f=some (.tup [.str z.1,pv,.ref z.2.1,gv]))(h3:DpG H pv gv)(h2:RowsIs Z H z):DeedIs Z H f z
theorem DeedIs.keep(h:DeedIs Z H a z)(f:Tup H H'):DeedIs Z H' a z:=by
 obtain⟨pv,gv,h1,b,h2⟩:=h;exact⟨pv,gv,f _ _ h1,b.keep f,h2.keep f⟩
inductive KindIs(Z:Str->Option Str->Prop)(H:Hp)(u:Addr)(y:Str×List Dz):Prop
 | mk(e:V)(dt:Addr)(fs:List Addr)(h1:H u=some (.tup [.str y.1,e,.ref dt]))(h2:H dt=some (.tup<|fs.map V.ref))(h3:↑fs=↑y.2)(h4:∀(j:Nat) f z,fs[j]?=some f->y.2[j]?=some z->DeedIs Z H f z)(h5:↑fs<=80):KindIs Z H u y
theorem KindIs.keep(h:KindIs Z H a z)(f:Tup H H'):KindIs Z H' a z:=by
 obtain⟨e,i,fs,h1,h2,l,m,d⟩:=h;exact⟨e,i,fs,f _ _ h1,f _ _ h2,l,λj g z a b=>(m j g z a b).keep f,d⟩
inductive ProgIs(Z:Str->Option Str->Prop)(H:Hp)(p:Addr)(ks:List (Str×List Dz))(m0:Dz):Prop
 | mk(kt:Addr)(us:List Addr)(lt:V)(h1:H p=some (.tup [.ref kt,lt,.ref m0.2.1]))(h2:H kt=some (.tup<|us.map V.ref))(h3:↑us=↑ks)(h4:∀(j:Nat) u y,us[j]?=some u->ks[j]?=some y->KindIs Z H u y)(h5:RowsIs Z H m0)(h6:↑ks<=12):ProgIs Z H p ks m0
theorem ProgIs.keep(h:ProgIs Z H p ks m0)(f:Tup H H'):ProgIs Z H' p ks m0:=by
 obtain⟨e,us,lt,h1,h2,l,m,i,d⟩:=h;exact⟨e,us,lt,f _ _ h1,f _ _ h2,l,λj g z a b=>(m j g z a b).keep f,i.keep f,d⟩
def Tup.dk(hp:H p=some (.dK kv)):Tup H (upd H p o):=λb xs h=>by
 rw[aC λz=>by rw[z,hp]at h;cases h];exact h
inductive LateAt(H:Hp)(p:Addr)(tr:Tr)(late:List Str):Prop
 | mk(kt lt:Addr)(m:V)(h1:H p=some (.tup [.ref kt,.ref lt,m]))(h2:H lt=some (.tup<|late.map V.str))(h3:↑late<=64)(h4:yS tr late)(h5:∃x∈tr,x.1∉late):LateAt H p tr late
def LateAt.keep(h:LateAt H p tr late)(f:Tup H H'):LateAt H' p tr late:=by
 obtain⟨a,lt,m,h1,h2,d,e,b⟩:=h;exact⟨a,lt,m,f _ _ h1,f _ _ h2,d,e,b⟩
def KindsAt.keepT(h:KindsAt H p tr)(f:Tup H H'):KindsAt H' p tr:=by
 obtain⟨d,ts,x,y,h1,h2,i,l⟩:=h;refine⟨d,ts,x,y,f _ _ h1,f _ _ h2,i,λj t z a b=>?_⟩;obtain⟨v,e⟩:=l j t z a b;exact⟨v,f _ _ e⟩
structure FY(Z:Str->Option Str->Prop)(ks:List (Str×List Dz))(tr:Tr):Prop where
 nm:ks.map (·.1)=tr.map (·.1)
 nb:∀k,Z k none->k∈tr.map (·.1)
 hz:∀k d,Z k (some d)->k∈tr.map (·.1)/\∃n l,Up tr k l/\n∈l/\∃y∈ks,y.1=n/\∃z∈y.2,z.1=d
 dl:∃ds:List Str,↑ds<=6/\∀k d,Z k (some d)->d∈ds
inductive OC(vs:List V)(H:Hp)(Q:VK):Prop
 | mk(hd:Addr)(mo d m t r:Int)(h1:vs=[.ref hd,.int mo])(h0:0<=mo/\mo<=80)(h2:Hand H hd d m t r)(h3:t<=1000)
  (h4:∀(p:Addr)(ks:List (Str×List Dz))(m0:Dz)(tr:Tr)(late:List Str)(Z:Str->Option Str->Prop)(H':Hp)(d' m' t' r':Int),FrS [hd] H H'->ProgIs Z H' p ks m0->KindsAt H' p tr->TrOk tr->↑tr<=12->LateAt H' p tr late->FY Z ks tr->Hand H' hd d' m' t' r'->t'<=10000->Q (.ref p) H'):OC vs H Q
def IR:Sp:=λvs H Q _=>OC  vs H Q
def Heads(Z:Str->Option Str->Prop)(H:Hp)(fs:List Addr):Prop:=∀f∈fs,∃z,DeedIs Z H f z
theorem Heads.keep(h:Heads Z H fs)(g:Tup H H'):Heads Z H' fs:=λf b=>by
 obtain⟨z,a⟩:=h f b;exact⟨z,a.keep g⟩
inductive UB(Z:Str->Option Str->Prop)(Hb H:Hp)(c:Nat)(v:V):Prop
 | mk(p:Addr)(fs:List Addr)(h1:v=.ref p)(h2:H p=some (.lst<|fs.map V.ref))(h3:↑fs<=c)(h4:Hb p=none)(h5:Heads Z H fs):UB Z Hb H c v
def BK(Z:Str->Option Str->Prop)(Hb H:Hp)(kvs:List (aF×V))(c:Nat):Prop:=↑kvs<=c/\∀k v,aG kvs k=some v->UB Z Hb H c v
theorem BK.keep(h:BK Z Hb H kvs c)(f:FrS M H H')(i:∀p,Hb p=none->p∉M)(tp:Tup H H'):BK Z Hb H' kvs c:=⟨h.1,λk v e=>by
 obtain⟨p,xs,a,b,c',d,g⟩:=h.2 k v e;exact⟨p,xs,a,f _ _ (i p d) b,c',d,g.keep tp⟩⟩
def BK.put(h:BK Z Hb H kvs c)(hp:H p=some (.lst<|fs.map V.ref))(hl:↑fs<=c+1)(l:Hb p=none)(i:Heads Z H fs):BK Z Hb H (aO kvs k<|.ref p) (c+1):=by
 refine⟨by have:=kD kvs k<|V.ref p;have:=h.1;lia,λf v e=>?_⟩;rw[jI]at e
 by_cases z:f=k
 .rw[bC z]at e;cases e;exact⟨p,fs,rfl,hp,hl,l,i⟩
 .rw[aZ z]at e;obtain⟨j,m,a,b,c',d,g⟩:=h.2 f v e;exact⟨j,m,a,b,by lia,d,g⟩
def BK.app(h:BK Z Hb H kvs c)(hp:H p=some (.lst xs))(hl:↑gs<=c)(i:Heads Z H gs):BK Z Hb (upd H p<|.lst<|gs.map V.ref) kvs c:=by
 have kp:Tup H (upd H p<|.lst<|gs.map V.ref):=Tup.lst hp;refine⟨h.1,λk v e=>?_⟩;obtain⟨f,j,a,b,c',d,g⟩:=h.2 k v e
 by_cases z:f=p
 .subst z;exact⟨f,gs,a,zb1,hl,d,i.keep kp⟩
 .exact⟨f,j,a,by rw[aC z];exact b,c',d,g.keep kp⟩
def BK.more(h:BK Z Hb H kvs c)(j:c<=c'):BK Z Hb H kvs c':=⟨by have:=h.1;lia,λk v e=>by
 obtain⟨f,i,a,b,l,d,g⟩:=h.2 k v e;exact⟨f,i,a,b,by lia,d,g⟩⟩
theorem oA:∀fs:List Addr,Heads Z H fs->∃zs:List Dz,↑fs=↑zs/\∀(i:Nat) f z,fs[i]?=some f->zs[i]?=some z->DeedIs Z H f z
 | [],_=>⟨[],rfl,λi f d h=>by simp at h⟩
 | f::fs,h=>by
  obtain⟨d,e⟩:=h f<|.head _;obtain⟨ds,h1,h2⟩:=oA fs λg a=>h g<|.tail _ a;refine⟨d::ds,cF (·+1) h1,λi g d' a hd=>?_⟩;cases i with
  | zero=>cases a;cases hd;exact e
  | succ i=>exact h2 i g d' a hd
inductive KAt(Z:Str->Option Str->Prop)(Wn:Str->Str->Prop)(H:Hp)(u:Addr)(z:Str×Option Str):Prop
 | mk(dt:Addr)(fs:List Addr)(h1:H u=some (.tup [.str z.1,bA z.2,.ref dt]))(h2:H dt=some (.tup<|fs.map V.ref))(h3:↑fs<=80)(h4:Heads Z H fs)(h5:∀d,Wn z.1 d->∃f∈fs,∃y,DeedIs Z H f y/\y.1=d):KAt Z Wn H u z
theorem KAt.keep(h:KAt Z Wn H u z)(g:Tup H H'):KAt Z Wn H' u z:=by
 obtain⟨i,fs,h1,h2,j,l,a⟩:=h;exact⟨i,fs,g _ _ h1,g _ _ h2,j,l.keep g,λd hd=>by
  obtain⟨f,b,y,m,e⟩:=a d hd;exact⟨f,b,y,m.keep g,e⟩⟩
theorem oQ:∀(us:List Addr)(tr:Tr),A2 (KAt Z Wn H) us tr->∃ks:List (Str×List Dz),↑us=↑ks/\(∀(j:Nat) u y,us[j]?=some u->ks[j]?=some y->KindIs Z H u y)/\ks.map (·.1)=tr.map (·.1)/\∀y∈ks,∀d,Wn y.1 d->∃z∈y.2,z.1=d
 | [],_,.nil=>⟨[],rfl,(λi f d h=>by simp at h),rfl,λ_ h=>nomatch h⟩
 | u::us,_,.cons (b:=z) g gt=>by
  obtain⟨w,fs,s,I,E,x,B⟩:=g;obtain⟨zs,m,q⟩:=oA fs x;obtain⟨ks,h1,h2,r,A⟩:=oQ us _ gt;refine⟨(z.1,zs)::ks,cF (·+1) h1,λi g d' n hd=>?_,cF (z.1::·) r,λy l d hd=>?_⟩
  .cases i with
   | zero=>cases n;cases hd;exact⟨_,w,fs,s,I,m,q,E⟩
   | succ i=>exact h2 i g d' n hd
  .rcases wp9.mp l with rfl | l
   .obtain⟨f,G,y,l,e⟩:=B d hd;obtain⟨i,hi⟩:=wt5.mp G;have o:i<↑zs:=by rw[<-m];exact(zz2.mp hi).1
    obtain⟨_,_,C,_⟩:=q i f zs[i] hi<|bF o;obtain⟨_,_,a,_⟩:=l;rw[C]at a;exists zs[i],iT o;injection a with a;injection a with a;injection a with a _;exact(V.str.inj a).trans e
   .exact A y l d hd
def Got(Z:Str->Option Str->Prop)(H:Hp)(kvs:List (aF×V))(x d:Str):Prop:=∃(p:Addr)(fs:List Addr),aG kvs (Sum.inr x)=some (.ref p)/\H p=some (.lst<|fs.map V.ref)/\∃f∈fs,∃y,DeedIs Z H f y/\y.1=d
theorem Got.keep(h:Got Z H kvs x d)(l:BK Z Hb H kvs c)(f:FrS M H H')(i:∀p,Hb p=none->p∉M)(tp:Tup H H'):Got Z H' kvs x d:=by
 obtain⟨p,fs,e,hp,g,b,y,n,a⟩:=h;obtain⟨o,_,j,_,_,m,_⟩:=l.2 _ _ e;cases j;exact⟨p,fs,e,f _ _ (i p m) hp,g,b,y,n.keep tp,a⟩
theorem wM:∀{l a:List Addr},l.map V.ref=a.map V.ref->l=a
 | [],[],_=>rfl
 | [],_::_,h=>by cases h
 | _::_,[],h=>by cases h
 | x::l,y::a,h=>by
  rw[fS,fS]at h;injection h with h1 h2;rw[V.ref.inj h1,wM h2]
def Got.app(h:Got Z H kvs x d)(hp:H pl=some (.lst<|gs.map V.ref)):Got Z (upd H pl<|.lst<|(gs++[g0]).map V.ref) kvs x d:=by
 obtain⟨p,fs,e,a,g,f,y,i,b⟩:=h;have tp:Tup H (upd H pl<|.lst<|(gs++[g0]).map V.ref):=Tup.lst hp
 by_cases c:p=pl
 .subst c;rw[hp]at a;injection a with a;injection a with a;have:=wM a;subst this;exact⟨p,gs++[g0],e,zb1,g,sN _ f,y,i.keep tp,b⟩
 .exact⟨p,fs,e,by rw[aC c];exact a,g,f,y,i.keep tp,b⟩
def Got.put(h:Got Z H kvs x d)(a:aG kvs (Sum.inr x')=none):Got Z H (aO kvs (Sum.inr x') v) x d:=by
 obtain⟨p,fs,e,r⟩:=h;refine⟨p,fs,?_,r⟩;rw[jI,aZ]
 .exact e
 .intro z;rw[z,a]at e;cases e
theorem Got.dk(h:Got Z H kvs x d)(f:H b=some (.dK kv)):Got Z (upd H b<|.dK kv') kvs x d:=by
 obtain⟨p,fs,e,a,g,j,y,l,i⟩:=h;exact⟨p,fs,e,by rw[aC λz=>by rw[z,f]at a;cases a];exact a,g,j,y,l.keep<|Tup.dk f,i⟩
def FE(D:WD)(x d:Str):Prop:=d∈D.deeds/\x∈D.own d
def jF(D:WD)(i:Nat)(H:Hp)(kvs:List (aF×V)):Prop:=∀j,j<i->∀dn,D.deeds[D.deeds.length-1-j]?=some dn->∀x∈D.own dn,Got (eV D) H kvs x dn
def GU(D:WD)(i j:Nat)(H:Hp)(kvs:List (aF×V)):Prop:=∀dn,D.deeds[D.deeds.length-1-i]?=some dn->∀jj,jj<j->∀x,(D.own dn)[jj]?=some x->Got (eV D) H kvs x dn
inductive yZ(mo:Int)(H1:Hp)(hd wd bk:Addr)(WA:WA)(D:WD)(t1:Int)(i:Nat)(σ:St)(Hx:Hp):Prop
 | mk(lx kx:Option V)(tx rx:Int)(kvs:List (aF×V))(h1:σ=[some<|.ref hd,some<|.int mo,some<|.ref wd,some<|.ref bk,lx,kx,none,none])(h2:Sit0 Hx hd wd WA D tx rx)(h3:FrS (M0 hd WA) H1 Hx)(h4:0<=rx)(h5:rx<=54)(h6:tx+25*rx<=t1+1350+195*(i:Int))(h7:Hx bk=some (.dK kvs))(h8:BK (eV D) H1 Hx kvs (13*i))(h9:jF D i Hx kvs):yZ mo H1 hd wd bk WA D t1 i σ Hx
inductive vO(mo:Int)(H1:Hp)(hd wd bk:Addr)(WA:WA)(D:WD)(t1 lv:Int)(i j:Nat)(σ:St)(Hy:Hp):Prop
 | mk(ky:Option V)(ty ry:Int)(kvs:List (aF×V))(h1:σ=[some<|.ref hd,some<|.int mo,some<|.ref wd,some<|.ref bk,some<|.int lv,ky,none,none])(h2:Sit0 Hy hd wd WA D ty ry)(h3:FrS (M0 hd WA) H1 Hy)(h4:0<=ry)(h5:ry<=54)(h6:ty+25*ry<=t1+1350+195*(i:Int)+15*(j:Int))(h7:Hy bk=some (.dK kvs))(h8:BK (eV D) H1 Hy kvs (13*i+j))(h9:jF D i Hy kvs)(h10:GU D i j Hy kvs):vO mo H1 hd wd bk WA D t1 lv i j σ Hy
abbrev BD:List Str:=[qH,"_law_most",qW,"_law_by_kind","_law_level","_law_kind","_law_main","_law_kinds"]
def zz7:bZ BD [qH,"_law_most"] (bR MQ):=cC
def Bt(F:Fun K "_law_program" "_law_program" MQ f fd)(T:aS P w K mg base k "_law_take" qB gG)(O:aS P w K mg base k "_law_of" qC (cP K))(W:aS P w K mg base k "_law_world" [qH] MM)(DE:aS P w K mg base k "_law_deed" FW FM)(R:aS P w K mg base k "_law_rows" kC (sJ 4))(ml:mg "len"=none)(mr:mg "range"=none)(bt:mg "tuple"=none)(ev:mg "sorted"=none):
  aR P w K mg base bQ (k+1) f fd [qH,"_law_most"] IR:=by
 refine F.ok zz7 (λvs H Q E h=>?_) λft A outer s H vs Q E hr h=>?_
 .obtain⟨hd,mo,d,m,t,r,rfl,_⟩:=h;rfl
 obtain⟨hd,mo,d,m,t,r,rfl,g2,hh,ht,q⟩:=h;have hr0:0<=mo-mo / 3/\mo-mo / 3<=54:=by lia
 have g0:0<=mo / 3/\mo / 3<=26:=by lia
 have hu:=eC hr;have c3:(["_law_name","_law_elder","_law_by_kind"]:List Str).Nodup:=by rfl'
 exists _,aL (sL 2 zz7.nd<|bB W hr rfl<|aA (pv 0) aE)
  (aL (hI (i:=3) zz7.nd rfl (Or.inr rfl) mC) (aL (iQ (cA lO (pv 1)<|cA zJ (pv 1) aN)<|sW (pv 0) aN tM) (aL (dZ dJ rfl (At rfl mr<|aA (cA lO (eA iW rfl ml iR<|aA (bT hu (pv 2) bD λ_ _=>rfl) aE) aN)<|aA (kY lR aN)<|aA (kY lR aN) aE) (gL 4 zz7.nd)<|aQ<|dZ dJ rfl (hZ<|bT hu (bT hu (pv 2) bD λ_ _=>rfl) (eI (bT hu (pv 2) bD λ_ _=>rfl)<|pv 4) λ_ _=>rfl) (gL 5 zz7.nd)<|aQ<|dQ<|eP eE fI fJ fG (YS (pv 3) (pv 5) (cG aE) ⟨rfl,rfl,rfl,rfl⟩)<|aA (bB DE hr rfl<|aA (pv 0)<|aA (pv 2)<|aA (pv 5)<|aA (pv 4) aE) aE) (aL (iQ (cA jJ (eI (pv 0) aN)<|cA zJ (pv 1) aN)<|sW (pv 0) aN tM) (aL (sL 6 zz7.nd<|bB R hr rfl<|aA (pv 0)<|aA (pv 2)<|aA mC<|aA (kY lR aN)<|aA (bB T hr rfl<|aA (pv 0)<|aA aN aE)<|aA (bB O hr rfl<|aA (pv 0)<|aA (cG<|dI<|dI<|dI<|dI aE) aE) aE) (aL (pY (i:=7) (N':=["_law_name","_law_elder","_law_by_kind"]) (src:=[none,none,some 3]) rfl zz7.nd rfl rfl eS (hZ<|bT hu (pv 2) bD λ_ _=>rfl) (g:=eN K 2<|dW (bW 0)<|dW (bW 1) eO) (λ_ _ _ _=>eG (n:=2) rfl<|bL (gL 0 c3)<|bL (gL 1 c3) eK) (λ_ _ _ _=>gO) (te:=dE<|aY (aI 0)<|aY (aI 1)<|aY (lN (λxs H Q=>∃p ys,xs=[.ref p]/\((SqL K H p ys/\∀l,H l=none->Q (.ref l) (upd H l<|.tup ys))\/(SqT K H p ys/\Q (.ref p) H)))<|aY (CV K (UN (aI 2) (aI 0)<|iG aX)<|MP (rU λi=>.int<|-i)<|tC<|.int 1) aX) aX) λ_ _ _ _=>bX<|aA (pv 0)<|aA (pv 1)<|aA (dS gH rfl bt (by rfl')<|aA (HF (QN hu (pv 2) (pv 0) (cG aE) ⟨rfl,rfl,rfl,rfl⟩)<|kY lR aN) aE) aE)
  (aQ<|bS<|bX<|aA (dS gH rfl bt (by rfl')<|aA (pv 7) aE)<|aA (dS gH rfl bt (by rfl')<|aA (eA YC rfl ev (by rfl')<|aA (bT hu (pv 2) bD λ_ _=>rfl) aE) aE)<|aA (pv 6) aE)))))))
 ac_rfl
 refine⟨_,rfl,hd,d,m,t,r,rfl,hh,by lia,λwd WA D H1 t1 S1 f1 ao b0 fp=>?_⟩;have h6:=S1.ok.d6;have dj:=S1.ok.l12;intro bk bc;have S2:=S1.fr0<|FrS.new (S:=[]) (o:=.dK []) bc;have ah:bk∉M0 hd WA:=S1.notin bc;obtain⟨d2,m2,dw,e4⟩:=S2.hand;exists _,rfl,_,rfl,_,_,rfl,rfl,⟨by lia,by decide⟩,_,_,rfl,rfl,_,rfl,hd,_,3,3,rfl,rfl,dw,rfl;have ar:bk≠hd:=λz=>ah (by rw[z];simp)
 have S3:Sit0 (upd (upd H1 bk<|.dK []) hd<|hl d2 m2 t1<|mo-mo / 3) hd wd WA D t1 (mo-mo / 3):=S2.setHand e4;have f3:FrS (M0 hd WA) H1 (upd (upd H1 bk<|.dK []) hd<|hl d2 m2 t1<|mo-mo / 3):=(FrS.new bc).put' (by trivial);have bq:upd (upd H1 bk<|.dK []) hd (hl d2 m2 t1<|mo-mo / 3) bk=some (.dK []):=by rw[aC ar];exact zb1
 have Z:∀p,H1 p=none->p∉M0 hd WA:=λp hp=>S1.notin hp;exists _,rfl,wd,_,rfl,S3.w.g.2.2.1,WA.deeds,_,rfl,.inl<|SqL.of S3.w.deeds.2,_,_,rfl,rfl,_,rfl,_,rfl,_,_,rfl,?_
 .rw[aK];exact⟨by lia,by lia,by decide,by decide⟩
 have d3:1<=D.deeds.length:=List.length_pos_iff.mpr S1.ok.d1;have en:((↑(D.deeds.map V.str):Int)-1-(-1)).toNat=D.deeds.length:=by rw[aK];lia
 rw[en];refine Dm (hi:=((↑(D.deeds.map V.str):Nat):Int)-1) (n:=D.deeds.length) (yZ mo H1 hd wd bk WA D t1)
  ⟨_,_,t1,mo-mo / 3,[],rfl,S3,f3,hr0.1,hr0.2,by lia,bq,⟨by simp,(λk v e=>nomatch e)⟩,λj Y=>absurd Y<|Nat.not_lt_zero _⟩ ?_ ?_
 .rintro i σ Hx hi ⟨lx,kx,tx,rx,kvs,rfl,Sx,fx,e0,ez,f6,b9,eg,hG⟩;have ba:D.deeds.length-1-i<D.deeds.length:=by lia
  have cq:((↑(D.deeds.map V.str):Nat):Int)-1-(i:Int)=((D.deeds.length-1-i:Nat):Int):=by rw[aK];lia
  have eq:dY (D.deeds.map V.str) (((↑(D.deeds.map V.str):Nat):Int)-1-(i:Int))=some (.str D.deeds[D.deeds.length-1-i]):=by
   rw[cq];exact lL (by rw[bO,bF ba];rfl)
  have ei:D.deeds[D.deeds.length-1-i]∈D.deeds:=iT ba;obtain⟨op,o1,o2,o3,o4⟩:=S1.w.ol _ ei;have br:D.deeds[D.deeds.length-1-i]?=some D.deeds[D.deeds.length-1-i]:=bF ba;generalize hos:D.own D.deeds[D.deeds.length-1-i]=os at o2 o3 o4;have e9:=o2.keep fx;exists _,rfl,wd,_,rfl,Sx.w.g.2.2.2.2.1,_,rfl,wd,_,rfl,Sx.w.g.2.2.1,_,rfl,WA.deeds,_,_,_,rfl,rfl,SqL.of Sx.w.deeds.2,eq,WA.owners,_,rfl,.inl ⟨_,Sum.inr _,.inl Sx.w.owners.2,rfl,o1.symm⟩,op,rfl,⟨_,SqL.of e9.2⟩;refine pO (xs:=os.map V.str) (vO mo H1 hd wd bk WA D t1 (((↑(D.deeds.map V.str):Nat):Int)-1-(i:Int)) i)
   ⟨_,tx,rx,kvs,rfl,Sx,fx,e0,ez,by lia,b9,eg,hG,λ_ _ jj Y=>absurd Y<|Nat.not_lt_zero _⟩ ?_ ?_ ?_
  .rintro j σ Hy Y ⟨_,_,_,_,_,_,fy,_⟩;exact SqL.of (o2.keep fy).2
  .rintro j x σ Hy B ⟨ky,ty,ry,kvs,rfl,Sy,fy,bz,c9,cd,as,a8,bw,bd⟩;obtain⟨Y,_⟩:=zz2.mp B;rw[aK]at Y;rw[bO,bF Y]at B;cases B;have ek:os[j]∈D.names:=o3 _<|iT Y;refine⟨_,rfl,bk,rfl,.inl ⟨_,.inl as⟩,_,rfl,bM _,λpe ac=>?_⟩;have Sz:=Sy.fr0<|FrS.new (S:=[]) (o:=.lst []) ac;have fz:FrS (M0 hd WA) H1 (upd Hy pe<|.lst []):=fy.trans<|FrS.new ac;have ad:upd Hy pe (.lst []) bk=some (.dK kvs):=by rw[aC<|aP as ac];exact as
   have aa:BK (eV D) H1 (upd Hy pe<|.lst []) kvs (13*i+j):=a8.keep (FrS.new ac) Z<|Tup.new ac;have bi:jF D i (upd Hy pe<|.lst []) kvs:=λX L dn hd x B=>(bw X L dn hd x B).keep a8 (FrS.new ac) Z<|Tup.new ac;have bp:GU D i j (upd Hy pe<|.lst []) kvs:=λdn hd jj L x B=>(bd dn hd jj L x B).keep a8 (FrS.new ac) Z<|Tup.new ac;have ax:H1 pe=none:=fy.old Sy.have_ ac;have ab:upd Hy pe (.lst []) pe=some (.lst []):=zb1;generalize upd Hy pe (.lst [])=Hz at Sz fz ad aa ab bi bp;have go:∀(pl:Addr)(fs:List Addr)(af:List (aF×V))(Hv:Hp),Sit0 Hv hd wd WA D ty ry->FrS (M0 hd WA) H1 Hv->Hv bk=some (.dK af)->BK (eV D) H1 Hv af (13*i+j+1)->Hv pl=some (.lst<|fs.map V.ref)->↑fs<=13*i+j->H1 pl=none->Heads (eV D) Hv fs->jF D i Hv af->GU D i j Hv af->aG af (Sum.inr os[j])=some (.ref pl)->
     IL K "list" wY (aY (fL FM [] E0<|aY (aI 0)<|aY (aI 2)<|aY (aI 5)<|aY (aI 4) aX) aX) (.ref pl) [some<|.ref hd,some<|.int mo,some<|.ref wd,some<|.ref bk,some<|.int<|((↑(D.deeds.map V.str):Nat):Int)-1-(i:Int),some<|.str os[j],none,none] Hv λ_ df=>
      vO mo H1 hd wd bk WA D t1 (((↑(D.deeds.map V.str):Nat):Int)-1-(i:Int)) i (j+1) [some<|V.ref hd,some<|.int mo,some<|.ref wd,some<|.ref bk,some<|.int<|((↑(D.deeds.map V.str):Nat):Int)-1-(i:Int),some<|.str os[j],none,none] df:=by
    intro pl fs af Hv Sv fv dx ag ay fo av dq eu el d8;refine⟨.inl ⟨rfl,_,SqL.of ay⟩,_,rfl,_,rfl,_,rfl,_,rfl,hd,wd,WA,D,ty,ry,os[j],D.deeds.length-1-i,by rw[cq];rfl,ek,ba,Sv,bz,by lia,λxn dn pv gv ln bv b7 Hw tw es ct c6 az cf cw fr Sw fw e5 g3 fi=>?_⟩;have a5:=fw _ _ (Z pl av) ay;have bx:=fw _ _ ah dx;have bb:Tup Hv Hw:=Sv.tup fw;have ec:Heads (eV D) Hw (fs++[xn]):=λf hf=>by
     rcases wr7.mp hf with hf | hf
     .exact(dq.keep bb) f hf
     .have e:f=xn:=by simpa using hf
      rw[e];exact⟨(dn,ln,bv,b7),pv,gv,c6,az,cf,cw,by show ↑b7<=80;lia⟩
    have So:=Sit0.own (o:=.lst<|(fs++[xn]).map V.ref) S1 Sw (fv.trans fw) av;have ea:fs.map V.ref++[V.ref xn]=(fs++[xn]).map V.ref:=by rw[bN];rfl
    exists pl,_,_,rfl,rfl,a5,bG (by rw[aK];lia);rw[ea];have dv:=ag.keep fw Z bb;refine⟨_,tw,es,af,rfl,So.1,So.2,e5,by lia,by lia,?_,?_,λX L N C x B=>((eu X L N C x B).keep ag fw Z bb).app a5,λN C jj L x B=>?_⟩
    .rw[aC λz=>by rw[z,a5]at bx;cases bx];exact bx
    .exact dv.app a5 (by rw[bH,dU];lia) ec
    .rcases Nat.lt_or_ge jj j with aw | aw
     .exact((el N C jj aw x B).keep ag fw Z bb).app a5
     .have d9:jj=j:=by lia
      rw[br]at C ct;cases C;cases ct;rw[hos,d9,bF Y]at B;cases B;exact⟨pl,fs++[xn],d8,zb1,xn,gM _<|wq1.mpr rfl,(_,ln,bv,b7),⟨pv,gv,(Tup.lst a5) _ _ c6,az.keep<|Tup.lst a5,(⟨cf,cw,by show ↑b7<=80;lia⟩:RowsIs (eV D) Hw (_,ln,bv,b7)).keep<|Tup.lst a5⟩,rfl⟩
   refine⟨kvs,Sum.inr os[j],ad,rfl,bG (by have:=aa.1;lia),λv hv=>?_,λhv=>?_⟩
   .obtain⟨pl,xs,rfl,a1,a2,a3,a4⟩:=aa.2 _ _ hv;exact go pl xs kvs Hz Sz fz ad (aa.more<|by lia) a1 a2 a3 a4 bi bp hv
   .have So:=Sit0.own (o:=.dK<|aO kvs (Sum.inr os[j])<|.ref pe) S1 Sz fz bc;have ds:pe≠bk:=λz=>by rw[z,ad]at ab;cases ab
    refine go pe [] (aO kvs (Sum.inr os[j])<|.ref pe) _ So.1 So.2 zb1 ?_ (by rw[aC ds];exact ab) (bM _) ax (λ_ h=>by cases h) (λX L N C x B=>((bi X L N C x B).put hv).dk ad) (λN C jj L x B=>((bp N C jj L x B).put hv).dk ad) (by rw[jI,bC rfl]);have h1:=aa.put (fs:=[]) (k:=(Sum.inr os[j]:aF)) ab (bM _) ax (λ_ h=>by cases h);refine⟨h1.1,λk v e=>?_⟩;obtain⟨p',bg,b1,b2,b3,b4,b5⟩:=h1.2 k v e;exact⟨p',bg,b1,by rw[aC λz=>by rw[z,ad]at b2;cases b2];exact b2,b3,b4,b5.keep<|Tup.dk ad⟩
  .rintro σ Hy ⟨ky,ty,ry,kvs,rfl,Sy,fy,bz,c9,cd,as,a8,bw,bd⟩;rw[aK]at cd a8 bd;refine⟨_,_,ty,ry,kvs,rfl,Sy,fy,bz,c9,by lia,as,a8.more (by lia),λX L N C x B=>?_⟩;rcases Nat.lt_or_ge X i with c | c
   .exact bw X c N C x B
   .have ej:X=i:=by lia
    subst ej;rw[br]at C;cases C;rw[hos]at B;obtain⟨jj,aw⟩:=wt5.mp B;exact bd _ br jj (zz2.mp aw).1 x (by rw[hos];exact aw)
 rintro σ H4 ⟨lx,kx,t4,I,kvs,rfl,S4,f4,fl,fh,fm,dy,ap,f0⟩;obtain⟨d4,m4,cm,d0⟩:=S4.hand;exists _,rfl,hd,_,_,_,rfl,rfl,SqL.of cm,AN,_,rfl,_,_,rfl,rfl,⟨by lia,by decide⟩,_,_,rfl,rfl,_,rfl,hd,_,3,3,rfl,rfl,cm,rfl;have S5:Sit0 (upd H4 hd<|hl d4 m4 t4<|I+mo / 3) hd wd WA D t4 (I+mo / 3):=S4.setHand d0;have f5:FrS (M0 hd WA) H1 (upd H4 hd<|hl d4 m4 t4<|I+mo / 3):=f4.put' (by trivial);have ck:upd H4 hd (hl d4 m4 t4<|I+mo / 3) bk=some (.dK kvs):=by rw[aC ar];exact dy
 have aj:BK (eV D) H1 (upd H4 hd<|hl d4 m4 t4<|I+mo / 3) kvs (13*D.deeds.length):=ap.keep (M:=M0 hd WA) (FrS.chg<|.head _) Z<|S4.tup<|FrS.chg<|.head _;have cl:jF D D.deeds.length (upd H4 hd<|hl d4 m4 t4<|I+mo / 3) kvs:=λX L N C x B=>(f0 X L N C x B).keep ap (M:=M0 hd WA) (FrS.chg<|.head _) Z<|S4.tup<|FrS.chg<|.head _;have e8:∀{G:Hp->Prop},G (upd H4 hd<|hl d4 m4 t4<|I+mo / 3)->G (upd H4 hd<|.lst<|[V.int d4,V.int m4,V.int t4,V.int I].set 3<|V.int<|I+mo / 3):=λh=>h;refine e8 ?_;generalize upd H4 hd (hl d4 m4 t4<|I+mo / 3)=H5 at S5 f5 ck aj cl;refine⟨_,rfl,_,rfl,λae be=>?_⟩;have ew:H1 ae=none:=f5.old S5.have_ be;have Se:Sit (upd H5 ae<|.dK []) hd ae wd WA D t4 (I+mo / 3):=S5.open be DOk.nil;have c5:∀Hf:Hp,FrS (Ms hd ae WA) (upd H5 ae<|.dK []) Hf->FrS (M0 hd WA) H5 Hf:=λHf ff=>FrS.close be ff;generalize upd H5 ae (.dK [])=H6 at Se c5;obtain⟨d,m,ef⟩:=Se.hand;refine⟨_,rfl,_,rfl,hd,d,m,t4,I+mo / 3,5,rfl,ef,by lia,by decide,by decide,λx d7 m7 t7 x0 x1 c7 e7=>?_⟩;obtain⟨dp,rfl⟩:∃dp:Nat,x=(dp:Int):=⟨x.toNat,by lia⟩;have S7:=Se.setHand (r':=I+mo / 3) c7;have f7:FrS (Ms hd ae WA) H6 (upd H6 hd<|hl d7 m7 t7<|I+mo / 3):=FrS.chg (by trivial);refine⟨_,rfl,dO rfl,λpi bs=>?_⟩;have Sa:=S7.fr0<|FrS.new (S:=[]) (o:=.lst [V.int 4,V.int 8,V.int 12,V.int 20]) bs;have fa:=f7.trans<|FrS.new (o:=.lst [V.int 4,V.int 8,V.int 12,V.int 20]) bs;have bf:pi≠hd:=λz=>S7.notin bs (by rw[z];simp)
 obtain⟨d,m,cz⟩:=Sa.hand;refine⟨hd,pi,d,m,t7,I+mo / 3,_,rfl,cz,by lia,bf,SqL.of zb1,by simp,by show 4<1000;decide,λy db mb tb hy cb eb=>?_⟩;obtain⟨mq,rfl,f2,ex⟩:∃mq:Int,y=.int mq/\0<=mq/\mq<=100:=by
  simp only[wp9,aV,cY]at hy;rcases hy with rfl | rfl | rfl | rfl
  .exact⟨4,rfl,by decide,by decide⟩
  .exact⟨8,rfl,by decide,by decide⟩
  .exact⟨12,rfl,by decide,by decide⟩
  .exact⟨20,rfl,by decide,by decide⟩
 have Sb:=Sa.setHand (r':=I+mo / 3) cb;have fb:=fa.put' (a:=hd) (o:=hl db mb tb<|I+mo / 3) (by trivial);refine⟨hd,ae,wd,WA,D,tb,I+mo / 3,-1,mq,dp,rfl,by lia,f2,ex,Sb,by lia,by lia,λmv cx bm Hc tc rc dr dd cj Sc fc fj g1 fg=>?_⟩;have f8:=c5 _<|fb.trans fc;have S8:=Sc.close;have cp:=f8 _ _ ah ck;have an:=aj.keep f8 Z<|S5.tup f8;have co:jF D D.deeds.length Hc kvs:=λX L N C x B=>(cl X L N C x B).keep aj f8 Z<|S5.tup f8;have c8:RowsIs (eV D) Hc ("",mv,cx,bm):=⟨dr,dd,by show ↑bm<=80;lia⟩;have cr:=f5.trans f8;generalize Hc=H8 at f8 S8 cp an cr c8 co;obtain⟨ts,ci,fn,da⟩:=S8.w.tree;refine⟨_,rfl,wd,_,rfl,S8.w.g.1,WA.tree,rfl,⟨_,SqL.of ci.2⟩,λDl c4=>?_⟩;refine xM (xs:=ts.map V.ref) (λi σ Hx=>(∃x y,σ=[x,y,some<|.ref bk])/\FrS [] H8 Hx/\∃us:List Addr,↑us=i/\Hx Dl=some (.lst<|us.map V.ref)/\A2 (KAt (eV D) (FE D) Hx) us (D.tr.take i)) ⟨⟨_,_,rfl⟩,(FrS.refl).put c4,[],rfl,zb1,.nil⟩ ?_ ?_ ?_
 .rintro i σ Hx hi ⟨_,fx,_⟩;exact SqL.of<|fx _ _ (by trivial) ci.2
 .rintro i x σ Hx B ⟨⟨fq,fe,rfl⟩,fx,us,bh,et,ai⟩;rw[bO]at B;obtain⟨tt,am,rfl⟩:=wq8.mp B;obtain⟨hi,_⟩:=zz2.mp am;have ce:D.tr[i]?=some D.tr[i]:=bF (by lia);have e3:=da i tt _ am ce;have b9:=fx _ _ (by trivial) cp;exists tt,_,rfl,SqT.of<|fx _ _ (by trivial) e3.2,rfl,_,_,rfl,_,_,rfl,rfl;refine⟨_,rfl,_,rfl,_,rfl,bk,rfl,.inl ⟨_,.inl b9⟩,_,rfl,bM _,λpd er=>?_⟩;have f9:FrS [] Hx (upd Hx pd<|.lst []):=FrS.new er;have cg:=f9 _ _ (by trivial) b9;have b8:=f9 _ _ (by trivial) et;have ch:upd Hx pd (.lst []) pd=some (.lst []):=zb1;generalize upd Hx pd (.lst [])=J at f9 cg b8 ch;have bl:FrS [] H8 J:=fx.trans f9;obtain⟨pz,zs,du,ed,e6,cy,de⟩:∃(pz:Addr)(zs:List Addr),(aG kvs<|Sum.inr D.tr[i].1).getD (.ref pd)=.ref pz/\J pz=some (.lst<|zs.map V.ref)/\↑zs<=80/\Heads (eV D) J zs/\∀d,FE D D.tr[i].1 d->∃f∈zs,∃y,DeedIs (eV D) J f y/\y.1=d:=by
   have au:∀d,FE D D.tr[i].1 d->Got (eV D) H8 kvs D.tr[i].1 d:=λd hd=>by
    obtain⟨j,Y⟩:=wt5.mp hd.1;have fk:=(zz2.mp Y).1;refine co (D.deeds.length-1-j) (by lia) d ?_ _ hd.2;rw[show D.deeds.length-1-(D.deeds.length-1-j)=j by lia];exact Y
   cases hv:aG kvs (Sum.inr D.tr[i].1)with
   | none=>
    refine⟨pd,[],rfl,ch,bM _,(λ_ h=>by cases h),λd hd=>?_⟩;obtain⟨p',d5,e,_⟩:=au d hd;rw[hv]at e;cases e
   | some v=>
    obtain⟨p',bg,b1,b2,b3,_,b5⟩:=an.2 _ _ hv;refine⟨p',bg,b1,bl _ _ aV b2,by lia,b5.keep<|Tup.of0 bl,λd hd=>?_⟩;obtain⟨p2,d5,e,e2,g,hg,y,hy,ey⟩:=au d hd;rw[hv,b1]at e;cases e;rw[b2]at e2;injection e2 with e2;injection e2 with e2;rw[<-wM e2]at hg;exact⟨g,hg,y,hy.keep<|Tup.of0 bl,ey⟩
  refine⟨_,DGet.k (k:=(Sum.inr D.tr[i].1:aF)) cg,_,rfl,rfl,pz,_,du,SqL.of ed,λal em=>?_⟩;rw[<-List.map_reverse];refine⟨al,_,rfl,.inl ⟨SqL.of zb1,λpu di=>?_⟩⟩;refine⟨dO rfl,λpt b6=>?_⟩;have fA:FrS [] J (upd (upd J al<|.lst<|zs.reverse.map V.ref) pu<|.tup<|zs.reverse.map V.ref):=(FrS.new em).trans<|FrS.new di;have aq:upd (upd J al<|.lst<|zs.reverse.map V.ref) pu (.tup<|zs.reverse.map V.ref) pu=some (.tup<|zs.reverse.map V.ref):=zb1;have bj:=fA _ _ (by trivial) b8;have cc:Heads (eV D) (upd (upd J al<|.lst<|zs.reverse.map V.ref) pu<|.tup<|zs.reverse.map V.ref) zs.reverse:=λf hf=>let ⟨z,e⟩:=cy f<|List.mem_reverse.mp hf;⟨z,e.keep<|Tup.of0 fA⟩
  have ca:∀d,FE D D.tr[i].1 d->∃f∈zs.reverse,∃y,DeedIs (eV D) (upd (upd J al<|.lst<|zs.reverse.map V.ref) pu<|.tup<|zs.reverse.map V.ref) f y/\y.1=d:=λd hd=>by
   obtain⟨f,hf,y,hy,ey⟩:=de d hd;exact⟨f,List.mem_reverse.mpr hf,y,hy.keep<|Tup.of0 fA,ey⟩
  generalize upd (upd J al<|.lst<|zs.reverse.map V.ref) pu (.tup<|zs.reverse.map V.ref)=HA at fA bj b6 aq cc ca;have ee:Dl≠pt:=aP bj b6;have cs:upd HA pt (.tup [V.str D.tr[i].1,bA D.tr[i].2,V.ref pu]) Dl=some (.lst<|us.map V.ref):=by rw[aC ee];exact bj
  refine⟨_,cs,by rw[aK];exact bG (by lia),⟨_,_,rfl⟩,(((fx.trans f9).trans fA).trans<|FrS.new b6).put c4,us++[pt],by rw[bH,bh];rfl,by rw[zb1,bN];rfl,?_⟩;have tl:Tup (upd HA pt<|.tup [V.str D.tr[i].1,bA D.tr[i].2,V.ref pu]) (upd (upd HA pt<|.tup [V.str D.tr[i].1,bA D.tr[i].2,V.ref pu]) Dl<|.lst<|us.map V.ref++[V.ref pt]):=Tup.lst cs;have tn:=(Tup.new (o:=.tup [V.str D.tr[i].1,bA D.tr[i].2,V.ref pu]) b6).trans tl;rw[fW,ce];exact(ai.imp λu z h=>h.keep<|((Tup.of0<|f9.trans fA).trans<|Tup.new b6).trans tl).snoc ⟨pu,zs.reverse,tl _ _ zb1,tn _ _ aq,by rw[lA];exact e6,cc.keep tn,λd hd=>by
   obtain⟨f,hf,y,hy,ey⟩:=ca d hd;exact⟨f,hf,y,hy.keep tn,ey⟩⟩
 rintro σ J ⟨_,f9,us,bh,b8,ai⟩;rw[aK]at bh ai;rw[gA<|by lia]at ai;refine⟨_,rfl,Dl,_,rfl,.inl ⟨SqL.of b8,λkt dc=>?_⟩⟩;have fA:FrS [] J (upd J kt<|.tup<|us.map V.ref):=FrS.new dc;have ak:upd J kt (.tup<|us.map V.ref) kt=some (.tup<|us.map V.ref):=zb1;generalize upd J kt (.tup<|us.map V.ref)=HA at fA ak;have SA:=(S8.fr0 f9).fr0 fA;refine⟨_,rfl,wd,_,rfl,SA.w.g.2.1,WA.late,D.late,rfl,SqL.of SA.w.late.2,by have:=SA.ok.lateLen;lia,λls bo eo a7 _=>?_⟩;refine⟨ls,_,rfl,.inl ⟨SqL.of zb1,λlt dm=>?_⟩⟩;refine⟨_,rfl,dO rfl,λpr cu=>?_⟩;have fB:FrS [] HA (upd (upd (upd HA ls<|.lst<|bo.map V.str) lt<|.tup<|bo.map V.str) pr<|.tup [V.ref kt,V.ref lt,V.ref mv]):=((FrS.new eo).trans<|FrS.new dm).trans<|FrS.new cu;have bn:FrS [] H8 _:=(f9.trans fA).trans fB;obtain⟨ks,dg,dz,c1,dl⟩:=oQ (H:=J) us _ ai;have bu:=Tup.of0<|fA.trans fB;have ep:=(Tup.of0 f9).trans bu;have SB:=SA.fr0 fB;obtain⟨dh,mh,eh⟩:=SB.hand;refine q pr ks ("",mv,cx,bm) D.tr bo (eV D) _ dh mh tc rc ?_ ⟨kt,us,V.ref lt,zb1,fB _ _ aV ak,dg,λj u z c0 hz=>(dz j u z c0 hz).keep bu,c8.keep ep,by lia⟩ ⟨kt,us,V.ref lt,V.ref mv,zb1,fB _ _ aV ak,ai.len,λj u z c0 hz=>?_⟩ S1.ok.ok dj ⟨kt,lt,_,zb1,?_,by rw[a7.length_eq];have:=SA.ok.lateLen;lia,λx B e e1 e2=>a7.mem_iff.mpr<|SA.ok.lateIn x B e e1<|a7.mem_iff.mp e2,by
  obtain⟨x,B,hn⟩:=SA.ok.soon;obtain⟨z,hz,rfl⟩:=wr2.mp B;exact⟨z,hz,λh=>hn<|a7.mem_iff.mp h⟩⟩ ⟨c1,λk h=>h,λk d cn=>⟨cn.1,?_⟩,D.deeds,S1.ok.d6,λk d h=>h.2.1⟩ eh (by lia)
 .intro b o n e;refine bn _ _ (by trivial)<|cr b o (λz=>?_)<|f1 b o n e;simp only[M0,wp9,aV,cY]at z;rcases z with z | z | z
  .exact n (by rw[z];simp)
  .exact aP e ao z
  .exact aP e b0 z
 .obtain⟨z',cv,dt,fs,e1,_⟩:=ai.get c0;rw[hz]at cv;cases cv;exact⟨_,bu _ _ e1⟩
 .exact(Tup.new cu) _ _ zb1
 .obtain⟨_,C,n,l,c2,hn,ho⟩:=cn;have cj:n∈ks.map (·.1):=by
   rw[c1];exact c2.mem n hn
  obtain⟨y,hy,ey⟩:=wr2.mp cj;exact⟨n,l,c2,hn,y,hy,ey,dl y hy d ⟨C,by rw[ey];exact ho⟩⟩
abbrev LQ:Stmt:=top 14
abbrev GP:Stmt:=top 15
abbrev vU:Stmt:=top 16
def fK(x:V)(xs:List V):dY (x::xs) 0=some x:=by
 unfold dY mK;simp
def kH{K:Fq}{a:Addr}{xs:List V}{g:TG}{tb:TS}{D:dB}{σ:St}{H:Hp}(b:Nat->St->Hp->Prop)(h0:b 0 σ H)(hl:∀i σ H,i<=↑xs->b i σ H->SqT K H a xs)
  (hs:∀i x σ H,xs[i]?=some x->b i σ H->g x σ H λσ2 H2=>tb {D with nx:=b<|i+1,ct:=b<|i+1,bk:=D.nx} σ2 H2) (hd:∀σ H,b ↑xs σ H->D.nx σ H):
  ∃W:Nat->Nat->St->Hp->Prop,(∃m,W 0 m σ H)/\∀i m σ H,W i m σ H->
   ((kW K a).stop i H/\D.nx σ H)\/((kW K a).go i H/\∃N:St->Hp->Prop,(∀σ' H',N σ' H'->∃m',m'<m/\W (i+1) m' σ' H')/\∀x H',(kW K a).yld i H x H'->g x σ H' λσ2 H2=>tb {D with nx:=N,ct:=N,bk:=D.nx} σ2 H2):=by
 exists λi m σ H=>m=↑xs-i/\i<=↑xs/\b i σ H,⟨↑xs,by simp,bM _,h0⟩;rintro i m σ H ⟨rfl,hi,p⟩;have q:=hl i σ H hi p
 by_cases d:i<↑xs
 .refine .inr ⟨⟨xs,xs[i],q,bF d⟩,b<|i+1,λσ' H' f=>⟨↑xs-(i+1),by lia,rfl,d,f⟩,λx H' y=>?_⟩;obtain⟨e,y⟩:=y;subst e;exact hs i x σ _ (y xs q) p
 .have e:i=↑xs:=by lia
  subst e;exact .inl ⟨⟨xs,q,aW _⟩,hd σ H p⟩
def uQ(d:Nat->St->Hp->Prop)(h0:d 0 σ0 H0)(hl:∀i σ H,i<=↑xs->d i σ H->SqT K H a xs)(hs:∀i x σ H,xs[i]?=some x->d i σ H->g x σ H λσ2 H2=>tt σ2 H2 λb H3=>if b=true then te σ2 H3 λv f=>∃ys,f D=some (.lst ys)/\↑ys<sizeLine/\d (i+1) σ2 (upd f D<|.lst<|ys++[v]) else d (i+1) σ2 H3)(hd:∀σ H,d ↑xs σ H->Q H):oT (kW K a) g tt te D σ0 H0 Q:=by
 exists λi m σ H=>m=↑xs-i/\i<=↑xs/\d i σ H,⟨↑xs,by simp,bM _,h0⟩;rintro i m σ H ⟨rfl,hi,p⟩;have q:=hl i σ H hi p
 by_cases h:i<↑xs
 .refine .inr ⟨⟨xs,xs[i],q,by simp[h]⟩,d<|i+1,λσ' H' j=>⟨↑xs-(i+1),by lia,rfl,h,j⟩,λx H' y=>?_⟩;obtain⟨e,y⟩:=y;subst e;exact hs i x σ _ (y xs q) p
 .have e:i=↑xs:=by lia
  subst e;exact .inl ⟨⟨xs,q,aW _⟩,hd σ H p⟩
def FK(h:n<=1000000):n<sizeLine:=Nat.lt_of_le_of_lt h (by decide)
def mR(x:V)(rest:List V):cW (x::rest) (some 1) none=rest:=by
 unfold cW HT.sIx;simp
def iP(w:Str)(rest:List V):List V:=if w="either"\/w="again" then rest else []
inductive TH(vs:List V)(H:Hp)(Q:VK):Prop
 | mk(a:Addr)(w:Str)(rest:List V)(h1:vs=[.ref a])(h2:H a=some (.tup<|.str w::rest))(h3:∀p,H p=none->Q (.ref p) (upd H p<|.tup<|iP w rest)):TH vs H Q
def GI:Sp:=λvs H Q _=>TH vs H Q
def ZQ:bZ ["row"] ["row"] (bR GP):=cC
def ZN(F:Fun K "rows_within" "rows_within" GP f fd)(i:mg "HOLDERS"=some (.ref ah))(e:∀H,SqT K H ah [.str "either",.str "again"]):aR P w K mg base bQ (k+1) f fd ["row"] GI:=by
 refine F.ok ZQ (λvs H Q E h=>?_) λj A outer s H vs Q E hr h=>?_
 .obtain⟨a,w,rest,rfl,_⟩:=h;rfl
 obtain⟨a,w,rest,rfl,b,q⟩:=h;exists _,aL (cL (bY uE (eT (pv 0) aN) (xE (v:=.ref ah) rfl i rfl) rfl) (aQ<|bS<|jR EI (pv 0) (jK aN) jL) dD)
  (aQ<|bS<|bX aE)
 ac_rfl
 have d:iN (.str w) [.str "either",.str "again"]=decide (w="either"\/w="again"):=by
  have:=lJ w ["either","again"];simpa using this
 exists _,rfl,a,_,_,.str w,rfl,rfl,SqT.of b,fK _ _,ah,_,rfl,.inr<|e _,rfl,rfl,_,rfl;show if iN (.str w) [.str "either",.str "again"]=true then _ else _
 rw[d];refine bI (λc=>?_) λc=>?_
 .have c':=cQ c;refine⟨_,rfl,_,rfl,a,_,rfl,SqT.of b,?_,λp hp=>?_⟩
  .intro z;have:=z.1;unfold HT.sIx at this;simp at this
  .have:=q p hp;unfold iP at this;rw[bC c']at this;rw[mR];exact this
 .have c':¬(w="either"\/w="again"):=λz=>c<|eW z;refine⟨bM _,λp hp=>?_⟩;have:=q p hp;unfold iP at this;rw[aZ c']at this;exact this
abbrev Bz:=(Str×Str)×Dz
def hX(y:Str×List Dz):List Bz:=y.2.map λz=>((y.1,z.1),z)
def dP(ks:List (Str×List Dz))(m0:Dz):List Bz:=(("",""),m0)::ks.flatMap hX
def BT(K:Fq)(H:Hp)(bd:Addr)(n:Str×Str):Prop:=H bd=some (.tup [.str n.1,.str n.2])\/∀H',SqT K H' bd [.str n.1,.str n.2]
def BT.keep(h:BT K H bd n)(f:Tup H H'):BT K H' bd n:=h.imp (f _ _) id
def BT.sq(h:BT K H bd n):SqT K H bd [.str n.1,.str n.2]:=h.elim SqT.of λg=>g H
inductive BodyIs(K:Fq)(H:Hp)(q:Addr)(z:Bz):Prop
 | mk(bd:Addr)(h1:H q=some (.tup [.ref bd,.ref z.2.2.1]))(h2:BT K H bd z.1):BodyIs K H q z
theorem BodyIs.keep(h:BodyIs K H q z)(f:Tup H H'):BodyIs K H' q z:=by
 obtain⟨bd,h1,h2⟩:=h;exact⟨bd,f _ _ h1,h2.keep f⟩
def _root_.L2.A2.bkeep(h:A2 (BodyIs K H) qs L)(f:Tup H H'):A2 (BodyIs K H') qs L:=h.imp λ_ _ g=>g.keep f
inductive RS(K:Fq)(vs:List V)(H:Hp)(Q:VK):Prop
 | mk(p:Addr)(ks:List (Str×List Dz))(m0:Dz)(h1:vs=[.ref p])(h2:ProgIs Z H p ks m0)(h3:∀(b:Addr)(qs:List Addr)(H':Hp),FrS [] H H'->H' b=some (.tup<|qs.map V.ref)->A2 (BodyIs K H') qs (dP ks m0)->↑qs<=1000->Q (.ref b) H'):RS K vs H Q
def JZ(K:Fq):Sp:=λvs H Q _=>RS K vs H Q
inductive QT(K:Fq)(H1:Hp)(p fd:Addr)(L:List Bz)(c:Nat)(σ:St)(Hx:Hp):Prop
 | mk(a b d e g h i:Option V)(qs:List Addr)(hσ:σ=[some<|.ref p,some<|.ref fd,a,b,d,e,g,h,i])(fr:FrS [] H1 Hx)(hf:Hx fd=some (.lst<|qs.map V.ref))(ha:A2 (BodyIs K Hx) qs L)(hc:↑qs<=c):QT K H1 p fd L c σ Hx
inductive TW(K:Fq)(H1:Hp)(p fd:Addr)(n:Str)(e:V)(dt:Addr)(L:List Bz)(c:Nat)(σ:St)(Hx:Hp):Prop
 | mk(a b d f:Option V)(qs:List Addr)(hσ:σ=[some<|.ref p,some<|.ref fd,some<|.str n,some e,some<|.ref dt,a,b,d,f])(fr:FrS [] H1 Hx)(hf:Hx fd=some (.lst<|qs.map V.ref))(ha:A2 (BodyIs K Hx) qs L)(hc:↑qs<=c):TW K H1 p fd n e dt L c σ Hx
def zk9:bZ ["program","found","name","elder","deeds","deed","params","rows","gives"] qK (bR LQ):=cC
def Bs(F:Fun K "bodies" "bodies" LQ f fd)(mM:mg "MAIN"=some (.ref am))(hM:∀H,SqT K H am [.str "",.str ""])(a9:mg "tuple"=none):aR P w K mg base bQ (k+1) f fd qK (JZ K):=by
 refine F.ok zk9 (λvs H Q E h=>?_) λab A outer s H vs Q E hr h=>?_
 .obtain⟨p,ks,d,rfl,_⟩:=h;rfl
 obtain⟨p,ks,d,rfl,⟨kt,us,lt,hp,T,W,aa,hm,ad⟩,q⟩:=h;exists _,aL (sL 1 zk9.nd<|cG<|aA (bX<|aA (xE (v:=.ref am) rfl mM rfl)<|aA (eT (pv 0) aN) aE) aE)
  (aL (dZ dJ rfl (gC<|eT (pv 0) aN) (eG (n:=3) rfl<|bL (gL 2 zk9.nd)<|bL (gL 3 zk9.nd)<|bL (gL 4 zk9.nd) eK)<|aQ<|dZ dJ rfl (gC<|pv 4) (eG (n:=4) rfl<|bL (gL 5 zk9.nd)<|bL (gL 6 zk9.nd)<|bL (gL 7 zk9.nd)<|bL (gL 8 zk9.nd) eK)<|aQ<|dQ<|eP eE fI fJ fG (pv 1)<|aA (bX<|aA (bX<|aA (pv 2)<|aA (pv 5) aE)<|aA (pv 7) aE) aE)<|aQ<|bS<|dS gH rfl a9 (by rfl')<|aA (pv 1) aE)
 ac_rfl
 have s2:2<=sizeLine:=cN (bG<|by decide);have s0:1<=sizeLine:=cN (bG<|by decide);refine⟨_,rfl,p,_,_,_,rfl,rfl,SqT.of hp,rfl,s2,λpt a8=>⟨s0,λfl J=>?_⟩⟩;have N:FrS [] H (upd (upd H pt<|.tup [.ref am,.ref d.2.1]) fl<|.lst<|[pt].map V.ref):=(FrS.new a8).trans<|FrS.new J;have a5:H fl=none:=nX (FrS.new a8) J;exists _,rfl,p,_,_,_,rfl,rfl,SqT.of<|N _ _ aV hp,rfl,kt,rfl,⟨_,SqT.of<|N _ _ aV T⟩;refine kH (xs:=us.map V.ref) (λi=>QT K H p fl (dP (ks.take i) d)<|1+80*i) ⟨_,_,_,_,_,_,_,[pt],rfl,N,zb1,.cons ⟨am,(Tup.new J) _ _ zb1,.inr hM⟩ .nil,aW _⟩ ?_ ?_ ?_
 .rintro i σ Hx hi ⟨_,_,_,_,_,_,_,_,_,fr,_⟩;exact SqT.of<|fr _ _ aV T
 .rintro i x σ Hx C ⟨_,_,_,_,_,_,_,qs,rfl,fr,L,a,m⟩;rw[bO,wq8]at C;obtain⟨u,hu,rfl⟩:=C;have hi:i<↑ks:=by rw[<-W];exact(zz2.mp hu).1
  have hy:ks[i]?=some ks[i]:=bF hi;obtain⟨e,dt,ds,Z,Y,O,d4,d5⟩:=aa i u _ hu hy;have eL:dP (ks.take<|i+1) d=dP (ks.take i) d++hX ks[i]:=by
   unfold dP;rw[fW,hy,List.flatMap_append,List.cons_append];simp
  rw[eL];generalize ks[i]=y at Z O d4;exists u,_,rfl,SqT.of<|fr _ _ aV Z,rfl,_,_,rfl,_,_,rfl,_,_,rfl,rfl;exists _,rfl,dt,rfl,⟨_,SqT.of<|fr _ _ aV Y⟩;refine kH (xs:=ds.map V.ref) (λj=>TW K H p fl y.1 e dt (dP (ks.take i) d++(hX y).take j)<|1+80*i+j) ⟨_,_,_,_,qs,rfl,fr,L,by rw[List.take_zero,fY];exact a,m⟩ ?_ ?_ ?_
  .rintro j σ G hj ⟨_,_,_,_,_,_,l,_⟩;exact SqT.of<|l _ _ aV Y
  .rintro j x σ G C ⟨_,_,_,_,qs,rfl,l,I,a,m⟩;rw[bO,wq8]at C;obtain⟨g,hg,rfl⟩:=C;have hj:j<↑y.2:=by rw[<-O];exact(zz2.mp hg).1
   have hz:y.2[j]?=some y.2[j]:=bF hj;obtain⟨ac,ae,X,_,g2⟩:=d4 j g _ hg hz;have eD:(hX y).take (j+1)=(hX y).take j++[((y.1,y.2[j].1),y.2[j])]:=by
    have:(hX y)[j]?=some ((y.1,y.2[j].1),y.2[j]):=by unfold hX;rw[bO,hz];rfl
    rw[fW,this];rfl
   rw[eD,<-gU];generalize y.2[j]=z at X g2;exists g,_,rfl,SqT.of<|l _ _ aV X,rfl,_,_,rfl,_,_,rfl,_,_,rfl,_,_,rfl,rfl;refine⟨_,rfl,.inl ⟨rfl,_,SqL.of I⟩,_,rfl,_,rfl,s2,λB a6=>⟨_,rfl,s2,λr M=>?_⟩⟩;have tn:=(Tup.new (o:=.tup [V.str y.1,V.str z.1]) a6).trans<|Tup.new (o:=.tup [.ref B,.ref z.2.1]) M;have f2:FrS [] G (upd (upd G B<|.tup [V.str y.1,V.str z.1]) r<|.tup [.ref B,.ref z.2.1]):=(FrS.new a6).trans<|FrS.new M;have a7:=f2 _ _ aV I;have tl:Tup _ (upd (upd (upd G B<|.tup [V.str y.1,V.str z.1]) r<|.tup [.ref B,.ref z.2.1]) fl<|.lst<|(qs++[r]).map V.ref):=Tup.lst a7;exists fl,_,_,rfl,rfl,a7,bG (by rw[aK];lia);rw[show qs.map V.ref++[V.ref r]=(qs++[r]).map V.ref by rw[bN];rfl];exact⟨_,_,_,_,qs++[r],rfl,(l.trans f2).put a5,zb1,(a.bkeep<|tn.trans tl).snoc ⟨B,tl _ _ zb1,.inl<|((Tup.new M).trans tl) _ _ zb1⟩,by rw[bH,dU];lia⟩
  .rintro σ G ⟨_,_,_,_,qs,rfl,l,I,a,m⟩;have el:(hX y).take ↑(ds.map V.ref)=hX y:=gA (by unfold hX;rw[aK,aK];lia);rw[el]at a;rw[aK]at m;exact⟨_,_,_,_,_,_,_,qs,rfl,l,I,a,by lia⟩
 .rintro σ Hx ⟨_,_,_,_,_,_,_,qs,rfl,fr,L,a,m⟩;rw[aK,W]at a m;rw[gA<|aW _]at a;refine⟨_,rfl,fl,_,rfl,.inl ⟨SqL.of L,λb hb=>?_⟩⟩;exact q b qs _ (fr.trans<|FrS.new hb) zb1 (a.bkeep<|Tup.new hb) (by lia)
end Gn
end
section
local macro_rules|`(tactic|ac_rfl)=>`(tactic|first|dsimp only[L2.fE,L2.Cx.nox]|skip)
namespace Gn
open PySem PySem.Spec L2
def vQ(P:Program)(w:World)(K:Fq)(mg:Str->Option Value)(base:Heap)(k:Nat)(ps:List Str)(g:Addr)(sp:Sp):Prop:=∃gd,aR P w K mg base bQ k g gd ps sp/\Binds K gd ps []/\PySem.W.keepIn K (.ref g)=true
inductive YH(P:Program)(w:World)(K:Fq)(mg:Str->Option Value)(base:Heap)(k:Nat)(ps:List Str)(t:TA)(v:V)(σ:St)(H:Hp)(Q:VK):Prop
 | mk(g:Addr)(sp:Sp)(h1:v=.ref g)(h2:vQ P w K mg base k ps g sp)(q:t σ H λvs H2=>sp vs H2 Q E0)
def XO(P:Program)(w:World)(K:Fq)(mg:Str->Option Value)(base:Heap)(k:Nat)(ps:List Str)(tx:TE)(t:TA):TE:=λσ H Q=>tx σ H λv H1=>YH P w K mg base k ps t v σ H1 Q
def yR{X:Cx}{x:Str}{p pos:Pos}{e:Expr}{es:List Expr}{tx:TE}{t:TA}{k:Nat}{ps:List Str}(hr:Room k X.A)(f:PE X (.Name x p) tx)(o:PA X (e::es) t)(he:starEach (e::es) X.env=(false,eval e X.env)::starEach es X.env:=by rfl)(n:(backTo pos<|starEach es X.env).any (·.1)=false:=by rfl):
  PE X (.Call (.Name x p) (e::es) [] pos) (XO X.prog X.w X.K X.mg X.base k ps tx t):=by
 intro d s σ H Q I h;refine xQ<|aU (f d s σ H _ I h) ?_;rintro u i ⟨v,H1,m,j,g,sp,rfl,⟨gd,G,b,l⟩,q⟩;obtain rfl:u=Value.ref g:=j;refine PySem.W.callWith_K (h₀:=X.base) I.ok.mod.kin l (aU (o pos d i σ H1 _ m q) ?_) he n;rintro us s2 ⟨vs,H2,a,r,z⟩;exact⟨a.kIn,SR (dvs:=[]) G hr b .nil HU a r<|by rw[fY];exact z⟩
def IV(P:Program)(w:World)(K:Fq)(a:Addr)(kvs:List (aF×Value)):Prop:=∃o,K.lookup a=some o/\∀h:Heap,h.get? a=some o->h.DictOf (cI P w) a kvs
inductive ZP(P:Program)(w:World)(K:Fq)(x y:V)(H:Hp)(Q:VK):Prop
 | mk(a g:Addr)(kvs:List (aF×Value))(k:aF)(h1:x=.ref a)(h2:y=kV k)(h3:IV P w K a kvs)(h4:valueAt kvs k=some (.ref g))(q:Q (.ref g) H)
def Dx(P:Program)(w:World)(K:Fq)(td ty:TE):TE:=λσ H Q=>td σ H λx H1=>ty σ H1 λy H2=>ZP P w K x y H2 Q
def yC{X:Cx}{o i:Expr}{td ty:TE}{pos:Pos}(m:PE X o td)(hi:PE X i ty)(hs:lZ i:=by exact λ_ _=>rfl):PE X (.Subscript o i pos) (Dx X.prog X.w X.K td ty):=by
 intro d s σ H Q I h;refine KD vh4.lookup hs<|aU (m d s σ H _ I h) λu l ⟨x,H1,z,n,j⟩=>aU (hi d l σ H1 _ z j) ?_;rintro E s2 ⟨y,H2,b,f,a,g,kvs,k,ex,A,⟨C,r,hd⟩,q,B⟩;subst ex A;obtain rfl:u=Value.ref a:=n;have e:=hd s2.heap<|b.kIn _ _ r;exact⟨e.typeIs,wpAny_getItem_of (jS f) e.mapOf q ⟨.ref g,H2,b.tok _,rfl,B⟩⟩
inductive LL
 | nil
 | op (n:Nat) (a:Addr) (r:Rw) (t:LL)
 | either (n:Nat) (a:Addr) (p q t:LL)
 | again (n:Nat) (a:Addr) (p t:LL)
inductive Du
 | op (n:Nat) (a:Addr) (r:Rw) (m:Nat)
 | either (n:Nat) (a:Addr) (p q:LL) (m:Nat)
 | again (n:Nat) (a:Addr) (p:LL) (m:Nat)
def LL.dues(m:Nat):LL->List Du
 | .nil=>[]
 | .op n a r t=>.op n a r m::t.dues m
 | .either n a p q t=>.either n a p q m::t.dues m
 | .again n a p t=>.again n a p m::t.dues m
structure Pg where
 nm:List Str
 hs:Str->Str->Prop
 ln:Str->List Str
 bo:Str->Str->LL
 ch:List Int
structure Rs where
 ds:List (List<|aF×V)
 ts:List (Str×Nat)
 td:List Du
 lg:List (List V)
 lk:Int
 rd:Nat
 uw:Int
 hr:List Str
def Rs.get(S:Rs)(m:Nat)(x:Str):V:=(aG (S.ds.getD m [])<|Sum.inr x).getD .non
def Rs.put(S:Rs)(m:Nat)(x:Str)(v:V):Rs:={S with ds:=S.ds.set m<|aO (S.ds.getD m []) (Sum.inr x) v}
def Rs.say(S:Rs)(r:List V):Rs:={S with lg:=S.lg++[r]}
def Rs.push(S:Rs)(l:LL)(m:Nat):Rs:={S with td:=l.dues m++S.td}
def pushN(l:LL)(m:Nat):Nat->Rs->Rs
 | 0,S=>S
 | n+1,S=>pushN l m n<|S.push l m
def Rs.come(S:Rs)(k:Str):Rs:=if k∈S.hr then S else {S with hr:=S.hr++[k],lg:=S.lg++[[.str "came",.str k]]}
def Rs.make(S:Rs)(k:Str):Rs:={S with ts:=S.ts++[(k,S.ds.length)],ds:=S.ds++[[]]}
def Rs.kind(S:Rs)(j:Int):Str:=(S.ts.getD j.toNat ("",0)).1
def Rs.dict(S:Rs)(j:Int):Nat:=(S.ts.getD j.toNat ("",0)).2
def Rs.thing(S:Rs)(v:V)(f:Int->Rs×Option Str):Rs×Option Str:=match v with
 | .int j=>f j
 | _=>(S,some "nothing")
def jN(P:Pg)(S:Rs)(n m:Nat):Rw->Rs×Option Str
 | .make x k=>if k∈S.hr then(((S.make k).put m x<|.int S.ts.length),none) else(S,some "absent")
 | .copy x y=>(S.put m x<|S.get m y,none)
 | .put x f y=>S.thing (S.get m x) λj=>(S.put (S.dict j) f<|S.get m y,none)
 | .take x y f=>S.thing (S.get m y) λj=>(S.put m x<|S.get (S.dict j) f,none)
 | .say w=>(S.say [.str "say",.int n,.str w],none)
 | .bring k=>((P.ln k).reverse.foldl Rs.come S,none)
def Rs.pick(P:Pg)(S:Rs):Int:=P.ch.getD S.rd 0
def doR(P:Pg)(S:Rs):Du->Rs×Option Str
 | .op n _ r m=>jN P S n m r
 | .either _ _ p q m=>({S with rd:=S.rd+1}.push (if S.pick P=0 then p else q) m,none)
 | .again _ _ p m=>(pushN p m (min (S.pick P) 9).toNat {S with rd:=S.rd+1},none)
def Du.num:Du->Nat
 | .op n _ _ _=>n
 | .either n _ _ _ _=>n
 | .again n _ _ _=>n
inductive Rn(P:Pg)(mo:Nat):Nat->Rs->Rs->Str->V->Prop
 | done {dn:Nat} {S:Rs} (h:S.td=[]):Rn P mo dn S S "done" .non
 | long {dn:Nat} {S:Rs} {d:Du} {r:List Du} (h:S.td=d::r) (hm:mo<=dn):Rn P mo dn S {S with td:=r} "long" (.int d.num)
 | stop {dn:Nat} {S S':Rs} {d:Du} {r:List Du} {e:Str} (h:S.td=d::r) (hm:dn<mo) (he:doR P {S with td:=r} d=(S',some e)):Rn P mo dn S S' e (.int d.num)
 | go {dn:Nat} {S S1 S':Rs} {d:Du} {r:List Du} {e:Str} {v:V} (h:S.td=d::r) (hm:dn<mo) (he:doR P {S with td:=r} d=(S1,none)) (t:Rn P mo (dn+1) S1 S' e v):Rn P mo dn S S' e v
theorem yE:∀(l:List Str)(S:Rs),(l.foldl Rs.come S).lg.length<=S.lg.length+↑l/\(l.foldl Rs.come S).hr.length<=S.hr.length+↑l/\(∀k∈(l.foldl Rs.come S).hr,k∈S.hr\/k∈l)/\(l.foldl Rs.come S).ds=S.ds/\(l.foldl Rs.come S).ts=S.ts/\(l.foldl Rs.come S).uw=S.uw/\(l.foldl Rs.come S).td=S.td
 | [],S=>⟨aW _,aW _,λk h=>.inl h,rfl,rfl,rfl,rfl⟩
 | x::l,S=>by
  obtain⟨h1,h2,f,i,b,a,d⟩:=yE l<|S.come x;rw[List.foldl_cons]
  by_cases c:x∈S.hr
  .rw[show S.come x=S from bC c]at h1 h2 f i b a d ⊢;rw[cJ];exact⟨by lia,by lia,λk h=>(f k h).imp id<|.tail _,i,b,a,d⟩
  .have e:S.come x={S with hr:=S.hr++[x],lg:=S.lg++[[.str "came",.str x]]}:=aZ c;rw[e]at h1 h2 f i b a d ⊢;rw[bH,dU]at h1 h2;rw[cJ];refine⟨by lia,by lia,λk h=>?_,i,b,a,d⟩;rcases f k h with h | h
   .rcases wr7.mp h with h | h
    .exact .inl h
    .exact .inr<|wq1.mp h▸.head _
   .exact .inr<|.tail _ h
def Rn.all(P:Pg)(mo:Nat):∀(c dn:Nat)(S:Rs),mo-dn<=c->∃a e v,Rn P mo dn S a e v:=by
 intro c
 induction c with
 | zero=>
  intro dn S h;cases e:S.td with
  | nil=>exact⟨_,_,_,.done e⟩
  | cons d r=>exact⟨_,_,_,.long e<|by lia⟩
 | succ c ih=>
  intro dn S h;cases e:S.td with
  | nil=>exact⟨_,_,_,.done e⟩
  | cons d r=>
   by_cases b:mo<=dn
   .exact⟨_,_,_,.long e b⟩
   .cases z:doR P {S with td:=r} d with
    | mk S1 o=>
     cases o with
     | some en=>exact⟨_,_,_,.stop e (by lia) z⟩
     | none=>
      obtain⟨a,en,v,t⟩:=ih (dn+1) S1 (by lia);exact⟨a,en,v,.go e (by lia) z t⟩
def LL.size:LL->Nat
 | .nil=>0
 | .op _ _ _ t=>1+t.size
 | .either _ _ p q t=>1+p.size+q.size+t.size
 | .again _ _ p t=>1+p.size+t.size
theorem nK(m:Nat):∀l:LL,↑(l.dues m)<=l.size
 | .nil=>aW _
 | .op _ _ _ t=>by have:=nK m t;simp only[LL.dues,LL.size,cJ];lia
 | .either _ _ _ _ t=>by have:=nK m t;simp only[LL.dues,LL.size,cJ];lia
 | .again _ _ _ t=>by have:=nK m t;simp only[LL.dues,LL.size,cJ];lia
structure Cz where
 (th du rn:Addr)
abbrev UW:List Str:=["program","made","forms","bodies","choices","many_read","many_done","under_way","here","todo","log","looks"]
abbrev TY:List Str:=["number","row","inners","names"]
abbrev OO:List Str:=["kind","fields"]
structure dH(K:Fq)(C:Cz):Prop where
 t:wS K C.th OO
 d:wS K C.du TY
 r:wS K C.rn UW
 nd:C.du≠C.rn
 nt:C.th≠C.rn
def Fx(C:Cz):HO->Prop
 | .tup _=>True
 | .ins c _ _=>c≠C.rn
 | .ext _=>True
 | .frz _ (.tup _)=>True
 | _=>False
def Im(C:Cz)(H H':Hp):Prop:=∀b o,H b=some o->Fx C o->H' b=some o
def Im.refl:Im C H H:=λ_ _ h _=>h
def Im.trans(f:Im C H H1)(g:Im C H1 H2):Im C H H2:=λb o h x=>g b o (f b o h x) x
def Im.tup(f:Im C H H'):Tup H H':=λb xs h=>f b _ h gD
def Im.new(h:H p=none):Im C H (upd H p o):=λb u e _=>by rw[aC<|aP e h];exact e
theorem Im.upd(h:H p=some u)(n:¬Fx C u):Im C H (upd H p o):=λb v e x=>by
 rw[aC λz=>by rw[z,h]at e;cases e;exact n x];exact e
def cV(θ:List Addr):V->V
 | .int j=>.ref<|θ.getD j.toNat 0
 | v=>v
def cD(θ:List Addr)(d:List (aF×V)):List (aF×V):=d.map λz=>(z.1,cV θ z.2)
def Dh:aG (cD θ d) k=(aG d k).map (cV θ):=by
 unfold aG cD
 induction d with
 | nil=>rfl
 | cons z d ih=>
  rw[fS,nN,nN]
  split <;> simp_all
def yW:(aG (cD θ d) k).getD .non=cV θ ((aG d k).getD .non):=by
 rw[Dh];cases aG d k <;> rfl
def Dv:aO (cD θ d) k (cV θ v)=cD θ (aO d k v):=by
 have e:(d.map λz=>(z.1,cV θ z.2)).any (λa=>decide<|a.1=k)=d.any λa=>decide (a.1=k):=by rw[List.any_map];rfl
 unfold aO cD;rw[e]
 split
 .rw[kX,kX];refine AS λz _=>?_;simp only[Function.comp]
  split <;> rfl
 .rw[bN];rfl
def VOk(n:Nat)(v:V):Prop:=v=.non\/∃j:Nat,v=.int j/\j<n
def VOk.mono(h:VOk n v)(l:n<=m):VOk m v:=h.imp id λ⟨j,e,z⟩=>⟨j,e,fU z l⟩
def uM(h:VOk θ.length v):cV (θ++l) v=cV θ v:=by
 rcases h with rfl | ⟨j,rfl,h⟩
 .rfl
 .show V.ref ((θ++l).getD j 0)=.ref (θ.getD j 0);rw[eX,eX,kE h]
def qU(h:∀z∈d,VOk θ.length z.2):cD (θ++l) d=cD θ d:=by
 unfold cD;exact AS λz hz=>by rw[uM<|h z hz]
def OV{d:List (aF×V)}(h:∀z∈d,VOk n z.2)(k:aF):VOk n ((aG d k).getD .non):=by
 unfold aG;cases e:d.find? (λa=>decide<|a.1=k)with
 | none=>exact .inl rfl
 | some z=>exact h z<|DM e
def UP{d:List (aF×V)}(h:∀z∈d,VOk n z.2)(a:VOk n v):∀z∈aO d k v,VOk n z.2:=by
 intro z hz;unfold aO at hz
 split at hz
 .obtain⟨y,b,rfl⟩:=wr2.mp hz
  split
  .exact a
  .exact h y b
 .rcases wr7.mp hz with hz | hz
  .exact h z hz
  .rw[wq1.mp hz];exact a
inductive Ens(Z:Str->Option Str->Prop)(H:Hp):LL->List Addr->Prop
 | nil:Ens Z H .nil []
 | op {n:Nat} {a e p:Addr} {r:Rw} {t:LL} {es:List Addr} (h:H e=some (.tup [.int n,.ref a,.ref p])) (hr:H a=some (.tup r.vs)) (hb:∀k,r=.bring k->Z k none) (s:Ens Z H t es):Ens Z H (.op n a r t) (e::es)
 | either {n:Nat} {a e p l1 l2:Addr} {v:List V} {q1 q2 t:LL} {e1 e2 es:List Addr} (h:H e=some (.tup [.int n,.ref a,.ref p])) (hp:H p=some (.tup [.ref l1,.ref l2])) (hr:H a=some (.tup<|.str "either"::v)) (h1:H l1=some (.tup<|e1.map V.ref)) (h2:H l2=some (.tup<|e2.map V.ref)) (s1:Ens Z H q1 e1) (s2:Ens Z H q2 e2) (s:Ens Z H t es):Ens Z H (.either n a q1 q2 t) (e::es)
 | again {n:Nat} {a e p l1:Addr} {v:List V} {q1 t:LL} {e1 es:List Addr} (h:H e=some (.tup [.int n,.ref a,.ref p])) (hp:H p=some (.tup [.ref l1])) (hr:H a=some (.tup<|.str "again"::v)) (h1:H l1=some (.tup<|e1.map V.ref)) (s1:Ens Z H q1 e1) (s:Ens Z H t es):Ens Z H (.again n a q1 t) (e::es)
def Ens.keep(h:Ens Z H l es)(f:Tup H H'):Ens Z H' l es:=by
 induction h with
 | nil=>exact .nil
 | op h hr hb _ ih=>exact .op (f _ _ h) (f _ _ hr) hb ih
 | either h hp hr h1 h2 _ _ _ i1 i2 ih=>exact .either (f _ _ h) (f _ _ hp) (f _ _ hr) (f _ _ h1) (f _ _ h2) i1 i2 ih
 | again h hp hr h1 _ _ i1 ih=>exact .again (f _ _ h) (f _ _ hp) (f _ _ hr) (f _ _ h1) i1 ih
abbrev dF(v:V)(a p n:Addr):List (Str×V):=[("number",v),("row",.ref a),("inners",.ref p),("names",.ref n)]
inductive DuAt(C:Cz)(Z:Str->Option Str->Prop)(δ:List Addr)(H:Hp):Du->Addr->Prop
 | op {n m:Nat} {a u p dx na:Addr} {r:Rw} (h:H u=some (.ins C.du dx<|dF (.int n) a p na)) (hm:δ[m]?=some na) (hr:H a=some (.tup r.vs)) (hb:∀k,r=.bring k->Z k none):DuAt C Z δ H (.op n a r m) u
 | either {n m:Nat} {a u p dx na l1 l2:Addr} {v:List V} {q1 q2:LL} {e1 e2:List Addr} (h:H u=some (.ins C.du dx<|dF (.int n) a p na)) (hm:δ[m]?=some na) (hr:H a=some (.tup<|.str "either"::v)) (hp:H p=some (.tup [.ref l1,.ref l2])) (h1:H l1=some (.tup<|e1.map V.ref)) (h2:H l2=some (.tup<|e2.map V.ref)) (s1:Ens Z H q1 e1) (s2:Ens Z H q2 e2):DuAt C Z δ H (.either n a q1 q2 m) u
 | again {n m:Nat} {a u p dx na l1:Addr} {v:List V} {q1:LL} {e1:List Addr} (h:H u=some (.ins C.du dx<|dF (.int n) a p na)) (hm:δ[m]?=some na) (hr:H a=some (.tup<|.str "again"::v)) (hp:H p=some (.tup [.ref l1])) (h1:H l1=some (.tup<|e1.map V.ref)) (s1:Ens Z H q1 e1):DuAt C Z δ H (.again n a q1 m) u
def sZ{α:Type}{l r:List α}{i:Nat}{x:α}(h:l[i]?=some x):(l++r)[i]?=some x:=by
 rw[kE (zz2.mp h).1];exact h
theorem DuAt.keep(h:DuAt C Z δ H d u)(a:C.du≠C.rn)(f:Im C H H'):DuAt C Z (δ++l) H' d u:=by
 have t:=f.tup;cases h with
 | op h hm hr hb=>exact .op (f _ _ h a) (sZ hm) (t _ _ hr) hb
 | either h hm hr hp h1 h2 s1 s2=>exact .either (f _ _ h a) (sZ hm) (t _ _ hr) (t _ _ hp) (t _ _ h1) (t _ _ h2) (s1.keep t)<|s2.keep t
 | again h hm hr hp h1 s1=>exact .again (f _ _ h a) (sZ hm) (t _ _ hr) (t _ _ hp) (t _ _ h1)<|s1.keep t
structure Ra where
 (dx md fo bo ch he to lo:Addr)
 (us ls δ θ:List Addr)
def Ra.say(A:Ra)(t:Addr):Ra:={A with ls:=A.ls++[t]}
def Ra.due(A:Ra)(u:Addr):Ra:={A with us:=u::A.us}
def Ra.pop(A:Ra)(us:List Addr):Ra:={A with us:=us}
def Ra.dic(A:Ra)(a:Addr):Ra:={A with δ:=A.δ++[a]}
def Ra.thg(A:Ra)(t:Addr):Ra:={A with θ:=A.θ++[t]}
def Rs.num(S:Rs)(rd:Nat)(uw lk:Int):Rs:={S with rd:=rd,uw:=uw,lk:=lk}
def Rs.due(S:Rs)(d:Du):Rs:={S with td:=d::S.td}
def Rs.pop(S:Rs)(r:List Du):Rs:={S with td:=r}
def Rs.dic(S:Rs)(d:List (aF×V)):Rs:={S with ds:=S.ds++[d]}
def Rs.thg(S:Rs)(z:Str×Nat):Rs:={S with ts:=S.ts++[z]}
def Rs.her(S:Rs)(k:Str):Rs:={S with hr:=S.hr++[k]}
abbrev rF(pg:Addr)(A:Ra)(rd dn:Nat)(uw lk:Int):List (Str×V):=[("program",.ref pg),("made",.ref A.md),("forms",.ref A.fo),("bodies",.ref A.bo),("choices",.ref A.ch),("many_read",.int rd),("many_done",.int dn),("under_way",.int uw),("here",.ref A.he),("todo",.ref A.to),("log",.ref A.lo),("looks",.int lk)]
structure Ry where
 C:Cz
 pr:Program
 w:World
 K:Fq
 nd:C.du≠C.rn
 nt:C.th≠C.rn
structure Rx(Y:Ry) where
 Z:Str->Option Str->Prop
 H0:Hp
 pg:Addr
 G:Pg
structure BoAt{Y:Ry}(R:Rx Y)(H:Hp)(bo:Addr)(qs:List (Pr×Addr×Addr)):Prop where
 d:H bo=some (gS Y.pr Y.w bo qs)
 ok:PvOk Y.K H qs
 k:∀n d,R.G.hs n d->(n,d)∈qs.map (·.1)
 e:∀q∈qs,∃es:List Addr,H q.2.2=some (.tup<|es.map V.ref)/\Ens R.Z H (R.G.bo q.1.1 q.1.2) es
theorem BoAt.keep{Y:Ry}{R:Rx Y}(h:BoAt R H bo qs)(f:Im Y.C H H'):BoAt R H' bo qs where
 d:=f _ _ h.d gD
 ok q hq:=by
  rcases h.ok q hq with (z | ⟨o,z⟩) | z
  .exact .inl<|.inl<|f.tup _ _ z
  .exact .inl<|.inr ⟨o,f _ _ z gD⟩
  .exact .inr z
 k:=h.k
 e q hq:=by
  obtain⟨es,h1,h2⟩:=h.e q hq;exact⟨es,f.tup _ _ h1,h2.keep f.tup⟩
def IN{Y:Ry}(R:Rx Y)(H:Hp)(δ:List Addr)(z:Str×Nat)(t:Addr):Prop:=∃dx a,δ[z.2]?=some a/\H t=some (.ins Y.C.th dx [("kind",.str z.1),("fields",.ref a)])
structure RunI{Y:Ry}(R:Rx Y)(H:Hp)(A:Ra)(S:Rs):Prop where
 md:H A.md=some (.tup [])
 ch:H A.ch=some (.tup<|R.G.ch.map V.int)
 ud:A2 (DuAt Y.C R.Z A.δ H) S.td A.us
 lg:A2 (λr a=>H a=some (.tup r)) S.lg A.ls
 th:A2 (IN R H A.δ) S.ts A.θ
 bo:∃qs,BoAt R H A.bo qs
theorem RunI.keep{Y:Ry}{R:Rx Y}(h:RunI R H A S)(f:Im Y.C H H'):RunI R H' A S where
 md:=f.tup _ _ h.md
 ch:=f.tup _ _ h.ch
 ud:=h.ud.imp λ_ _ g=>by have:=g.keep (l:=[]) Y.nd f;rwa [fY]at this
 lg:=h.lg.imp λ_ _ g=>f.tup _ _ g
 th:=h.th.imp λ_ _ ⟨dx,a,e,g⟩=>⟨dx,a,e,f _ _ g Y.nt⟩
 bo:=let ⟨qs,g⟩:=h.bo;⟨qs,g.keep f⟩
structure RunAt{Y:Ry}(R:Rx Y)(H:Hp)(rn:Addr)(A:Ra)(S:Rs)(dn:Nat):Prop where
 im:RunI R H A S
 run:H rn=some (.ins Y.C.rn A.dx<|rF R.pg A S.rd dn S.uw S.lk)
 fo:H A.fo=some (.dK [])
 he:H A.he=some (.lst<|S.hr.map V.str)
 to:H A.to=some (.lst<|A.us.reverse.map V.ref)
 lo:H A.lo=some (.lst<|A.ls.map V.ref)
 dc:A2 (λd a=>H a=some (.dK<|cD A.θ d)) S.ds A.δ
 dk:∀d∈S.ds,∀z∈d,VOk S.ts.length z.2
 nd:(rn::A.fo::A.he::A.to::A.lo::A.δ).Nodup
 kp:∀b o,R.H0 b=some o->H b=some o
 fr:∀b∈rn::A.fo::A.he::A.to::A.lo::A.δ,R.H0 b=none
def RunAt.keep0{Y:Ry}{R:Rx Y}(h:RunAt R H rn A S dn)(f:FrS [] H H'):RunAt R H' rn A S dn where
 im:=h.im.keep λb o e _=>f b o aV e
 run:=f _ _ aV h.run
 fo:=f _ _ aV h.fo
 he:=f _ _ aV h.he
 to:=f _ _ aV h.to
 lo:=f _ _ aV h.lo
 dc:=h.dc.imp λ_ _ g=>f _ _ aV g
 dk:=h.dk
 nd:=h.nd
 kp b o e:=f _ _ aV<|h.kp b o e
 fr:=h.fr
def oH{H0 H:Hp}(h:∀b o,H0 b=some o->H b=some o)(d:H0 a=none):∀b u,H0 b=some u->upd H a o b=some u:=λb u e=>by
 rw[aC<|aP e d];exact h b u e
def sO{θ:List Addr}(h:A2 (λd a=>H a=some (.dK<|cD θ d)) ds δ)(n:a∉δ):A2 (λd b=>upd H a o b=some (.dK<|cD θ d)) ds δ:=by
 induction h with
 | nil=>exact .nil
 | cons g _ ih=>
  rw[wp9,fQ]at n;exact .cons (by rw[aC<|bK n.1];exact g)<|ih n.2
section
variable{Y:Ry}{R:Rx Y}{H:Hp}{rn:Addr}{A:Ra}{S:Rs}{dn:Nat}
theorem RunAt.num(h:RunAt R H rn A S dn)(rd a:Nat)(uw lk:Int):RunAt R (upd H rn<|.ins Y.C.rn A.dx<|rF R.pg A rd a uw lk) rn A (S.num rd uw lk) a/\Im Y.C H (upd H rn<|.ins Y.C.rn A.dx<|rF R.pg A rd a uw lk):=by
 have f:Im Y.C H (upd H rn<|.ins Y.C.rn A.dx<|rF R.pg A rd a uw lk):=.upd h.run λz=>z rfl;have nd:=h.nd;simp only[ws9,wp9,fQ]at nd;obtain⟨⟨e,b,j,l,d⟩,_⟩:=nd;have i:=h.im.keep f;exact⟨{im:=⟨i.md,i.ch,i.ud,i.lg,i.th,i.bo⟩,run:=zb1,fo:=(aC<|bK e).trans h.fo,he:=(aC<|bK b).trans h.he,to:=(aC<|bK j).trans h.to,lo:=(aC<|bK l).trans h.lo,dc:=sO h.dc d,dk:=h.dk,nd:=h.nd,kp:=oH h.kp<|h.fr _<|.head _,fr:=h.fr},f⟩
theorem RunAt.say(h:RunAt R H rn A S dn)(l:H t=some (.tup r)):RunAt R (upd H A.lo<|.lst<|A.ls.map V.ref++[.ref t]) rn (A.say t) (S.say r) dn/\Im Y.C H (upd H A.lo<|.lst<|A.ls.map V.ref++[.ref t]):=by
 have f:Im Y.C H (upd H A.lo<|.lst<|A.ls.map V.ref++[.ref t]):=.upd h.lo λz=>z;have nd:=h.nd;simp only[ws9,wp9,fQ]at nd;obtain⟨⟨u,m,B,e,x⟩,⟨s,o,a,w⟩,⟨n,j,q⟩,⟨b,E⟩,d,_⟩:=nd;have i:=h.im.keep f;exact⟨{im:=⟨i.md,i.ch,i.ud,i.lg.snoc<|f.tup _ _ l,i.th,i.bo⟩,run:=(aC e).trans h.run,fo:=(aC a).trans h.fo,he:=(aC j).trans h.he,to:=(aC b).trans h.to,lo:=zb1.trans (by show _=some (HO.lst<|(A.ls++[t]).map V.ref);rw[bN];rfl),dc:=sO h.dc d,dk:=h.dk,nd:=h.nd,kp:=oH h.kp<|h.fr _<|.tail _<|.tail _<|.tail _<|.tail _<|.head _,fr:=h.fr},f⟩
theorem RunAt.due(h:RunAt R H rn A S dn)(m:DuAt Y.C R.Z A.δ H d u):RunAt R (upd H A.to<|.lst<|A.us.reverse.map V.ref++[.ref u]) rn (A.due u) (S.due d) dn/\Im Y.C H (upd H A.to<|.lst<|A.us.reverse.map V.ref++[.ref u]):=by
 have f:Im Y.C H (upd H A.to<|.lst<|A.us.reverse.map V.ref++[.ref u]):=.upd h.to λz=>z;have nd:=h.nd;simp only[ws9,wp9,fQ]at nd;obtain⟨⟨E,r,n,x,J⟩,⟨B,j,q,G⟩,⟨b,I,w⟩,⟨e,o⟩,s,_⟩:=nd;have i:=h.im.keep f;have a:=m.keep (l:=[]) Y.nd f;rw[fY]at a;exact⟨{im:=⟨i.md,i.ch,.cons a i.ud,i.lg,i.th,i.bo⟩,run:=(aC n).trans h.run,fo:=(aC j).trans h.fo,he:=(aC b).trans h.he,to:=zb1.trans (by show _=some (HO.lst<|(u::A.us).reverse.map V.ref);rw[DF,bN];rfl),lo:=(aC<|bK e).trans h.lo,dc:=sO h.dc o,dk:=h.dk,nd:=h.nd,kp:=oH h.kp<|h.fr _<|.tail _<|.tail _<|.tail _<|.head _,fr:=h.fr},f⟩
theorem RunAt.pop(h:RunAt R H rn A S dn)(e:S.td=d::r)(m:A.us=u::us):RunAt R (upd H A.to<|.lst<|us.reverse.map V.ref) rn (A.pop us) (S.pop r) dn/\Im Y.C H (upd H A.to<|.lst<|us.reverse.map V.ref)/\DuAt Y.C R.Z A.δ (upd H A.to<|.lst<|us.reverse.map V.ref) d u:=by
 have f:Im Y.C H (upd H A.to<|.lst<|us.reverse.map V.ref):=.upd h.to λz=>z;have nd:=h.nd;simp only[ws9,wp9,fQ]at nd;obtain⟨⟨B,q,l,w,I⟩,⟨x,j,o,E⟩,⟨a,G,s⟩,⟨b,n⟩,_,_⟩:=nd;have i:=h.im.keep f;have ud:=i.ud;rw[e,m]at ud;cases ud with
 | cons g t=>
  exact⟨{im:=⟨i.md,i.ch,t,i.lg,i.th,i.bo⟩,run:=(aC l).trans h.run,fo:=(aC j).trans h.fo,he:=(aC a).trans h.he,to:=zb1,lo:=(aC<|bK b).trans h.lo,dc:=sO h.dc n,dk:=h.dk,nd:=h.nd,kp:=oH h.kp<|h.fr _<|.tail _<|.tail _<|.tail _<|.head _,fr:=h.fr},f,g⟩
end
def _root_.L2.A2.imp'{α β:Type}{R S:α->β->Prop}{as:List α}{bs:List β}(h:A2 R as bs):(∀a b,b∈bs->R a b->S a b)->A2 S as bs:=by
 induction h with
 | nil=>intro _;exact .nil
 | cons r t ih=>intro f;exact .cons (f _ _ (.head _) r)<|ih λa b d=>f a b<|.tail _ d
def A2.imp2{α β:Type}{R S:α->β->Prop}{as:List α}{bs:List β}(h:A2 R as bs):(∀a b,a∈as->R a b->S a b)->A2 S as bs:=by
 induction h with
 | nil=>intro _;exact .nil
 | cons r t ih=>intro f;exact .cons (f _ _ (.head _) r)<|ih λa b d=>f a b<|.tail _ d
def A2.back{α β:Type}{R:α->β->Prop}{as:List α}{bs:List β}(h:A2 R as bs){i:Nat}{b:β}(e:bs[i]?=some b):∃a,as[i]?=some a/\R a b:=by
 obtain⟨hi,_⟩:=zz2.mp e;obtain⟨f,d,r⟩:=h.get (bF<|by rw[h.len];exact hi);rw[e]at d;cases d;exact⟨_,bF _,r⟩
def A2.chg{α β:Type}{R f:α->β->Prop}{as:List α}{bs:List β}(h:A2 R as bs):∀{m:Nat}{b:β}{d:α},bs.Nodup->bs[m]?=some b->f d b->(∀a b',b'≠b->R a b'->f a b')->A2 f (as.set m d) bs:=by
 induction h with
 | nil=>intro m b d _ e;cases e
 | @cons a b0 as bs r t ih=>
  intro m b d nd e j i;rw[ws9]at nd;cases m with
  | zero=>
   cases e;exact .cons j<|t.imp' λx y l z=>i x y (λw=>nd.1<|by rw[<-w];exact l) z
  | succ m=>exact .cons (i _ _ (λw=>nd.1<|by rw[w];exact cU e) r)<|ih nd.2 e j i
section
variable{Y:Ry}{R:Rx Y}{H:Hp}{rn:Addr}{A:Ra}{S:Rs}{dn:Nat}
def RunAt.dict(h:RunAt R H rn A S dn)(b:A.δ[m]?=some a):H a=some (.dK<|cD A.θ<|S.ds.getD m [])/\(∀z∈S.ds.getD m [],VOk S.ts.length z.2)/\R.H0 a=none:=by
 obtain⟨d,e,g⟩:=A2.back h.dc b;rw[eX,e];exact⟨g,h.dk d<|cU e,h.fr a<|.tail _<|.tail _<|.tail _<|.tail _<|.tail _<|cU b⟩
def RunAt.got(h:RunAt R H rn A S dn)(b:A.δ[m]?=some a)(x:Str):VOk S.ts.length (S.get m x):=OV (h.dict b).2.1 _
theorem RunAt.put(h:RunAt R H rn A S dn)(e:A.δ[m]?=some a)(s:VOk S.ts.length v)(x:Str):RunAt R (upd H a<|.dK<|aO (cD A.θ<|S.ds.getD m []) (Sum.inr x)<|cV A.θ v) rn A (S.put m x v) dn/\Im Y.C H (upd H a<|.dK<|aO (cD A.θ<|S.ds.getD m []) (Sum.inr x)<|cV A.θ v):=by
 obtain⟨u,ok,h0⟩:=h.dict e;have f:Im Y.C H (upd H a<|.dK<|aO (cD A.θ<|S.ds.getD m []) (Sum.inr x)<|cV A.θ v):=.upd u λz=>z;have j:=cU e;have nd:=h.nd;simp only[ws9,wp9,fQ]at nd;obtain⟨⟨N,G,P,L,r⟩,⟨M,K,E,q⟩,⟨I,O,o⟩,⟨J,B⟩,n,w⟩:=nd;have i:=h.im.keep f;have ne:∀{b:Addr},b∉A.δ->b≠a:=λh z=>h (by rw[z];exact j)
 refine⟨{im:=⟨i.md,i.ch,i.ud,i.lg,i.th,i.bo⟩,run:=(aC<|ne r).trans h.run,fo:=(aC<|ne q).trans h.fo,he:=(aC<|ne o).trans h.he,to:=(aC<|ne B).trans h.to,lo:=(aC<|ne n).trans h.lo,dc:=?_,dk:=?_,nd:=h.nd,kp:=oH h.kp h0,fr:=h.fr},f⟩
 .exact A2.chg h.dc w e (by rw[zb1,Dv]) λd b l g=>by rw[aC l];exact g
 .intro d hd;rcases CN hd with hd | rfl
  .exact h.dk d hd
  .exact UP ok s
def RunAt.dic2(h:RunAt R H rn A S dn)(j:H a=none)(f:FrS [] H H')(e:H' a=some (.dK<|cD A.θ d))(hd:∀z∈d,VOk S.ts.length z.2):RunAt R H' rn (A.dic a) (S.dic d) dn:=by
 have g:Im Y.C H H':=λb o e _=>f b o aV e;have k:=h.keep0 f;have h0:R.H0 a=none:=by
  cases e:R.H0 a with
  | none=>rfl
  | some o=>rw[h.kp a o e]at j;cases j
 have q:a∉rn::A.fo::A.he::A.to::A.lo::A.δ:=by
  intro z;simp only[wp9]at z;rcases z with rfl | rfl | rfl | rfl | rfl | z
  .rw[h.run]at j;cases j
  .rw[h.fo]at j;cases j
  .rw[h.he]at j;cases j
  .rw[h.to]at j;cases j
  .rw[h.lo]at j;cases j
  .obtain⟨i,hi⟩:=wt5.mp z;rw[(h.dict hi).1]at j;cases j
 refine {im:=⟨k.im.md,k.im.ch,h.im.ud.imp λ_ _ z=>z.keep Y.nd g,k.im.lg,k.im.th.imp λ_ _ ⟨dx,b,e,z⟩=>⟨dx,b,sZ e,z⟩,k.im.bo⟩,run:=k.run,fo:=k.fo,he:=k.he,to:=k.to,lo:=k.lo,dc:=k.dc.snoc e,dk:=λd' m=>?_,nd:=?_,kp:=k.kp,fr:=λb l=>?_}
 .rcases wr7.mp m with m | m
  .exact h.dk d' m
  .rw[wq1.mp m];exact hd
 .show((rn::A.fo::A.he::A.to::A.lo::A.δ)++[a]).Nodup;exact vk7.mpr ⟨h.nd,ws9.mpr ⟨aV,lB⟩,λx n y r=>by rw[wq1.mp r];exact λz=>q<|by rw[<-z];exact n⟩
 .rcases wr7.mp (show b∈(rn::A.fo::A.he::A.to::A.lo::A.δ)++[a] from l)with l | l
  .exact h.fr b l
  .rw[wq1.mp l];exact h0
theorem RunAt.dic(h:RunAt R H rn A S dn)(b:H a=none)(hd:∀z∈d,VOk S.ts.length z.2):RunAt R (upd H a<|.dK<|cD A.θ d) rn (A.dic a) (S.dic d) dn/\Im Y.C H (upd H a<|.dK<|cD A.θ d):=⟨h.dic2 b (FrS.new b) zb1 hd,.new b⟩
theorem RunAt.thg(h:RunAt R H rn A S dn)(f:H t=some (.ins Y.C.th dx [("kind",.str k),("fields",.ref a)]))(e:A.δ[m]?=some a):RunAt R H rn (A.thg t) (S.thg (k,m)) dn where
 im:=⟨h.im.md,h.im.ch,h.im.ud,h.im.lg,h.im.th.snoc ⟨dx,a,e,f⟩,h.im.bo⟩
 run:=h.run
 fo:=h.fo
 he:=h.he
 to:=h.to
 lo:=h.lo
 dc:=A2.imp2 h.dc λd b hd g=>by show H b=some (.dK<|cD (A.θ++[t]) d);rw[qU<|by rw[<-h.im.th.len];exact h.dk d hd];exact g
 dk d hd z hz:=(h.dk d hd z hz).mono (by show _<=↑(S.ts++[_]);rw[bH];exact mQ _ _)
 nd:=h.nd
 kp:=h.kp
 fr:=h.fr
theorem RunAt.her(h:RunAt R H rn A S dn)(k:Str):RunAt R (upd H A.he<|.lst<|S.hr.map V.str++[.str k]) rn A (S.her k) dn/\Im Y.C H (upd H A.he<|.lst<|S.hr.map V.str++[.str k]):=by
 have f:Im Y.C H (upd H A.he<|.lst<|S.hr.map V.str++[.str k]):=.upd h.he λz=>z;have nd:=h.nd;simp only[ws9,wp9,fQ]at nd;obtain⟨⟨r,a,w,q,u⟩,⟨e,o,l,s⟩,⟨b,j,d⟩,⟨m,x⟩,n,_⟩:=nd;have i:=h.im.keep f;exact⟨{im:=⟨i.md,i.ch,i.ud,i.lg,i.th,i.bo⟩,run:=(aC a).trans h.run,fo:=(aC e).trans h.fo,he:=zb1.trans (by show _=some (HO.lst<|(S.hr++[k]).map V.str);rw[bN];rfl),to:=(aC<|bK b).trans h.to,lo:=(aC<|bK j).trans h.lo,dc:=sO h.dc d,dk:=h.dk,nd:=h.nd,kp:=oH h.kp<|h.fr _<|.tail _<|.tail _<|.head _,fr:=h.fr},f⟩
end
abbrev vC:Stmt:=top 35
abbrev KW:Stmt:=top 32
structure Bd(G:Pg)(S:Rs):Prop where
 td:S.td.length<=1700000
 lg:S.lg.length<=100000
 hr:S.hr.length<=100000
 ds:∀d∈S.ds,↑d<=100000
 hn:∀k∈S.hr,k∈G.nm
 ts:∀z∈S.ts,z.1∈G.nm
structure JA{Y:Ry}(R:Rx Y)(tr:Tr):Prop where
 kn:KindsAt R.H0 R.pg tr
 ok:TrOk tr
 l12:↑tr<=12
 nm:tr.map (·.1)=R.G.nm
 ln:∀k∈R.G.nm,Up tr k<|R.G.ln k
 z0:∀k,R.Z k none->k∈R.G.nm
 ch:∀c∈R.G.ch,-100<=c
def mX{Y:Ry}(R:Rx Y):Prop:=∃tr,JA R tr
inductive GS(Y:Ry)(ok:Du->Prop)(vs:List V)(H:Hp)(Q:VK):Prop
 | mk(R:Rx Y)(rn u:Addr)(A:Ra)(S:Rs)(dn:Nat)(d:Du)(h1:vs=[.ref rn,.ref u])(h2:RunAt R H rn A S dn)(h3:DuAt Y.C R.Z A.δ H d u)(h4:ok d)(h5:Bd R.G S)(h6:mX R)(h7:∀A' H',RunAt R H' rn A' (doR R.G S d).1 dn->Im Y.C H H'->Q (bA (doR R.G S d).2) H')
def gI(Y:Ry)(ok:Du->Prop):Sp:=λvs H Q _=>GS Y ok vs H Q
abbrev eQ:List Str:=["run","due"]
def kF{n:Nat}(h:n<=4000000):n<sizeLine:=by rw[sizeLine_eq];lia
section
variable{Y:Ry}{mg:Str->Option Value}{base:Heap}{f:Addr}{fd:FuncData}
def CL:bZ eQ eQ (bR vC):=cC
def rO(F:Fun Y.K "do_say" "do_say" vC f fd)(Z:dH Y.K Y.C):aR Y.pr Y.w Y.K mg base bQ (k+1) f fd eQ (gI Y λd=>∃n a w m,d=.op n a (.say w) m):=by
 refine F.ok CL (λvs H Q E h=>?_) λi A outer s H vs Q E hr h=>?_
 .obtain⟨R,rn,u,A,S,dn,d,rfl,_⟩:=h;rfl
 obtain⟨R,rn,u,A,S,dn,d,rfl,h,hd,⟨n,a,w,m,rfl⟩,e,hp,q⟩:=h;exists _,aL (dQ<|eP eE fI fJ fG (cS Z.r<|pv 0)<|aA (bX<|aA bD<|aA (cS Z.d<|pv 1)<|aA (eT (cS Z.d<|pv 1) aN) aE) aE)
  (aQ<|bS iJ)
 ac_rfl
 cases hd with
 | @op _ _ _ _ p dx na _ hu hm hr' hb'=>
  refine⟨_,rfl,rn,_,_,_,rfl,h.run,rfl,.inl ⟨rfl,_,SqL.of h.lo⟩,_,rfl,u,_,_,_,rfl,hu,rfl,_,rfl,u,_,_,_,rfl,hu,rfl,a,_,_,_,rfl,rfl,SqT.of hr',rfl,cN<|bG (by show 3<=_;decide),λt b=>?_⟩;have h1:=h.keep0<|FrS.new (o:=.tup [.str "say",.int n,.str w]) b;have h2:=h1.say zb1;exact⟨_,_,_,rfl,rfl,h1.lo,kF (by rw[aK,<-h.im.lg.len];have:=e.lg;lia),q _ _ h2.1<|(Im.new b).trans h2.2⟩
end
def GT(i:Nat):Stmt:=match top i with
 | .ClassDef _ _ _ b _ _ _ _ _ _ _=>b.getD 0<|.Pass ⟨0,0,0,0⟩
 | s=>s
abbrev vW:Stmt:=GT 26
abbrev uC:Stmt:=GT 27
def NQ{H:Hp}{a b:Addr}{o u:HO}(h:a≠b):upd (upd H a o) b u=upd (upd H b u) a o:=by
 funext c
 unfold upd
 by_cases e:c=b
 .rw[bC e,aZ λz=>h<|z.symm.trans e,bC e]
 .rw[aZ e,aZ e]
inductive CP(C:Addr)(vs:List V)(H:Hp)(Q:VK):Prop
 | mk(x dx:Addr)(k:Str)(h1:vs=[.ref x,.str k])(h2:H x=some (.ins C dx []))(h3:∀a,H a=none->Q .non (upd (upd H a<|.dK []) x<|.ins C dx [("kind",.str k),("fields",.ref a)]))
def FF(C:Addr):Sp:=λvs H Q _=>CP C vs H Q
inductive zB(C:Addr)(vs:List V)(H:Hp)(Q:VK):Prop
 | mk(x dx a p n:Addr)(v:V)(h1:vs=[.ref x,v,.ref a,.ref p,.ref n])(h2:H x=some (.ins C dx []))(h3:Q .non (upd H x<|.ins C dx<|dF v a p n))
def EB(C:Addr):Sp:=λvs H Q _=>zB C vs H Q
abbrev iZ:List Str:=["self","kind"]
abbrev iV:List Str:=["self","number","row","inners","names"]
section
variable{Y:Ry}{mg:Str->Option Value}{base:Heap}{f:Addr}{fd:FuncData}
def yU:bZ iZ iZ (bR vW):=cC
def sD(F:Fun Y.K "__init__" "Thing.__init__" vW f fd)(Z:dH Y.K Y.C):aR Y.pr Y.w Y.K mg base bQ (k+1) f fd iZ (FF Y.C.th):=by
 refine F.ok yU (λvs H Q E h=>?_) λd A outer s H vs Q E hr h=>?_
 .obtain⟨x,dx,k,rfl,_⟩:=h;rfl
 obtain⟨x,dx,k,rfl,h,q⟩:=h;exists _,aL (gE Z.t (pv 0)<|pv 1)<|aQ<|gE Z.t (pv 0) mC
 ac_rfl
 refine⟨_,rfl,_,rfl,x,dx,_,rfl,h,by decide,λa b=>⟨_,rfl,x,dx,[("kind",.str k)],rfl,?_,by show 1<1000;decide,?_⟩⟩
 .rw[aC λz=>by rw[<-z,zb1]at b;cases b];exact zb1
 .have n:x≠a:=λz=>by rw[<-z,zb1]at b;cases b
  have:=q a (by rw[aC<|bK n]at b;exact b);rw[NQ n,gF];exact this
def AW:bZ iV iV (bR uC):=cC
def rY(F:Fun Y.K "__init__" "Due.__init__" uC f fd)(Z:dH Y.K Y.C):aR Y.pr Y.w Y.K mg base bQ (k+1) f fd iV (EB Y.C.du):=by
 refine F.ok AW (λvs H Q E h=>?_) λb A outer s H vs Q E hr h=>?_
 .obtain⟨x,dx,a,p,n,v,rfl,_⟩:=h;rfl
 obtain⟨x,dx,a,p,n,v,rfl,h,q⟩:=h;exists _,aL (gE Z.d (pv 0)<|pv 1)<|aL (gE Z.d (pv 0)<|pv 2)<|aL (gE Z.d (pv 0)<|pv 3)<|aQ<|gE Z.d (pv 0)<|pv 4
 ac_rfl
 refine⟨_,rfl,_,rfl,x,dx,_,rfl,h,by decide,_,rfl,_,rfl,x,dx,_,rfl,zb1,by show 1<1000;decide,_,rfl,_,rfl,x,dx,_,rfl,zb1,by show 2<1000;decide,_,rfl,_,rfl,x,dx,_,rfl,zb1,by show 3<1000;decide,?_⟩;rw[gF,gF,gF];exact q
structure gZ(Y:Ry)(mg:Str->Option Value)(base:Heap)(k:Nat)(x:Str)(C:Addr)(ps:List Str)(sp:Sp):Prop where
 ex:∃g gd,aR Y.pr Y.w Y.K mg base bQ k g gd ps sp/\Binds Y.K gd ps []/\Mk Y.K C g/\mg x=some (.ref C)
end
inductive Ak(C:Addr)(vs:List V)(H:Hp)(Q:VK):Prop
 | mk(k:Str)(h:vs=[.str k])(q:∀x dx a,H x=none->H dx=none->H a=none->dx≠x->a≠x->a≠dx->Q (.ref x) (upd (upd (upd H dx<|.own x) a<|.dK []) x<|.ins C dx [("kind",.str k),("fields",.ref a)]))
inductive Cu(C:Addr)(vs:List V)(H:Hp)(Q:VK):Prop
 | mk(a p n:Addr)(v:V)(h:vs=[v,.ref a,.ref p,.ref n])(q:∀x dx,H x=none->H dx=none->dx≠x->Q (.ref x) (upd (upd H dx<|.own x) x<|.ins C dx<|dF v a p n))
def GR(B:List V->Hp->VK->Prop)(t:TA):TE:=λσ H Q=>t σ H λvs H1=>B vs H1 Q
section
variable{X:Cx}{Y:Ry}{k:Nat}{p pos:Pos}{e:Expr}{es:List Expr}{t:TA}{x:Str}{C:Addr}{ps:List Str}{sp:Sp}{B:List V->Hp->VK->Prop}
def ID(M:gZ Y X.mg X.base k x C ps sp)(z:∀vs H Q,B vs H Q->∀x dx,H x=none->H dx=none->dx≠x->sp (.ref x::vs) (upd (upd H dx<|.own x) x<|.ins C dx []) (λv H2=>v=.non/\Q (.ref x) H2) E0)(hr:Room (k+1) X.A)(o:Gl X x)(u:PA X (e::es) t)
  (l:X.prog=Y.pr:=by rfl) (J:X.w=Y.w:=by rfl) (a:X.K=Y.K:=by rfl) (f:(x == ("__debug__":Str))=false:=by decide) (he:starEach (e::es) X.env=(false,eval e X.env)::starEach es X.env:=by rfl) (n:(backTo pos<|starEach es X.env).any (·.1)=false:=by rfl):PE X (.Call (.Name x p) (e::es) [] pos) (GR B t):=by
 obtain⟨g,gd,G,b,m,i⟩:=M.ex;rw[<-l,<-J,<-a]at G;rw[<-a]at b m;intro j s σ H Q I h;refine xQ<|LO I o i ?_ f;refine PySem.W.callWith_K (h₀:=X.base) I.ok.mod.kin m.kp (aU (u pos j s σ H _ I h) ?_) he n;rintro us L ⟨vs,H1,d,r,q⟩;exact⟨d.kIn,WG m G hr b .nil HU d r λx dx h1 h2 E=>by rw[fY];exact z vs H1 Q q x dx h1 h2 E⟩
end
def Cw(vs:List V)(H:Hp)(Q:VK)(h:Ak C vs H Q)(x dx:Addr)(h1:H x=none)(h2:H dx=none)(f:dx≠x):FF C (.ref x::vs) (upd (upd H dx<|.own x) x<|.ins C dx []) (λv H2=>v=.non/\Q (.ref x) H2) E0:=by
 obtain⟨k,rfl,q⟩:=h;refine⟨x,dx,k,rfl,zb1,λa b=>⟨rfl,?_⟩⟩;have d:a≠x:=λz=>by rw[z,zb1]at b;cases b
 rw[aC d]at b;have e:a≠dx:=λz=>by rw[z,zb1]at b;cases b
 rw[aC e]at b;rw[NQ<|bK d,gF];exact q x dx a h1 h2 b f d e
def Dq(vs:List V)(H:Hp)(Q:VK)(h:Cu C vs H Q)(x dx:Addr)(h1:H x=none)(h2:H dx=none)(b:dx≠x):EB C (.ref x::vs) (upd (upd H dx<|.own x) x<|.ins C dx []) (λv H2=>v=.non/\Q (.ref x) H2) E0:=by
 obtain⟨a,p,n,v,rfl,q⟩:=h;exists x,dx,a,p,n,v,rfl,zb1,rfl;rw[gF];exact q x dx h1 h2 b
abbrev JX:Stmt:=top 31
abbrev qT:Stmt:=top 33
abbrev GK:Stmt:=top 34
def RunAt.few{Y:Ry}{R:Rx Y}(h:RunAt R H rn A S dn)(b:Bd G S)(f:A.δ[m]?=some a):↑(cD A.θ<|S.ds.getD m [])<sizeLine:=by
 obtain⟨d,e,_⟩:=A2.back h.dc f;rw[eX,e];unfold cD;rw[aK];have:=b.ds d<|cU e;exact kF (by show ↑d<=_;lia)
def RunAt.thing{Y:Ry}{R:Rx Y}(h:RunAt R H rn A S dn){j:Nat}(d:j<S.ts.length):∃t dx a,cV A.θ (.int j)=.ref t/\H t=some (.ins Y.C.th dx [("kind",.str<|S.kind j),("fields",.ref a)])/\A.δ[S.dict j]?=some a:=by
 obtain⟨t,e,dx,a,h1,h2⟩:=h.im.th.get<|bF d;have b:S.ts.getD (j:Int).toNat ("",0)=S.ts[j]:=by show S.ts.getD j _=_;rw[eX,bF d];rfl
 refine⟨t,dx,a,?_,by unfold Rs.kind;rw[b];exact h2,by unfold Rs.dict;rw[b];exact h1⟩;show V.ref (A.θ.getD j 0)=_;rw[eX,e];rfl
section
variable{Y:Ry}{mg:Str->Option Value}{base:Heap}{f:Addr}{fd:FuncData}
def yw9:bZ ["run","due","word","x","y"] eQ (bR KW):=cC
def YY(F:Fun Y.K "do_copy" "do_copy" KW f fd)(Z:dH Y.K Y.C):aR Y.pr Y.w Y.K mg base bQ (k+1) f fd eQ (gI Y λd=>∃n a x y m,d=.op n a (.copy x y) m):=by
 refine F.ok yw9 (λvs H Q E h=>?_) λj A outer s H vs Q E hr h=>?_
 .obtain⟨R,rn,u,A,S,dn,d,rfl,_⟩:=h;rfl
 obtain⟨R,rn,u,A,S,dn,d,rfl,h,hd,⟨n,a,x,y,m,rfl⟩,i,hp,q⟩:=h;have e:=eC hr;exists _,aL (iQ (cS Z.d<|pv 1)<|eG (n:=3) rfl<|bL (gL 2 yw9.nd)<|bL (gL 3 yw9.nd)<|bL (gL 4 yw9.nd) eK)
  (aL (fO e (cS Z.d<|pv 1) (pv 3) (iS e (cS Z.d<|pv 1) (pv 4) ⟨rfl,rfl,rfl,rfl⟩) rfl)<|aQ<|bS iJ)
 ac_rfl
 cases hd with
 | @op _ _ _ _ p dx na _ hu' hm hr' hb'=>
  obtain⟨b,_,_⟩:=h.dict hm;exists _,rfl,u,_,_,_,rfl,hu',rfl,a,_,rfl,SqT.of hr',rfl,_,_,rfl,_,_,rfl,_,_,rfl,rfl;exists _,rfl,u,_,_,_,rfl,hu',rfl,na,rfl,.inl ⟨_,.inl b⟩,_,rfl,_,DGet.k (k:=(Sum.inr y:aF)) b,_,rfl,u,_,_,_,rfl,hu',rfl,_,rfl,na,_,rfl,DPut.k (k:=(Sum.inr x:aF)) b<|h.few i hm;rw[yW];have:=h.put hm (h.got hm y) x;exact q _ _ this.1 this.2
def yz3:bZ ["run","due","word","x","field","y","thing"] eQ (bR qT):=cC
def rH(F:Fun Y.K "do_put" "do_put" qT f fd)(Z:dH Y.K Y.C):aR Y.pr Y.w Y.K mg base bQ (k+1) f fd eQ (gI Y λd=>∃n a x g y m,d=.op n a (.put x g y) m):=by
 refine F.ok yz3 (λvs H Q E h=>?_) λJ A outer s H vs Q E hr h=>?_
 .obtain⟨R,rn,u,A,S,dn,d,rfl,_⟩:=h;rfl
 obtain⟨R,rn,u,A,S,dn,d,rfl,h,hd,⟨n,a,x,g,y,m,rfl⟩,z,hp,q⟩:=h;have r:=eC hr;exists _,aL (iQ (cS Z.d<|pv 1)<|eG (n:=4) rfl<|bL (gL 2 yz3.nd)<|bL (gL 3 yz3.nd)<|bL (gL 4 yz3.nd)<|bL (gL 5 yz3.nd) eK)
  (aL (sL 6 yz3.nd<|iS r (cS Z.d<|pv 1) (pv 3) ⟨rfl,rfl,rfl,rfl⟩)<|aL (cL (iL<|oR<|pv 6) (aQ<|bS bD) dD)<|aL (fO r (cS Z.t<|pv 6) (pv 4) (iS r (cS Z.d<|pv 1) (pv 5) ⟨rfl,rfl,rfl,rfl⟩) rfl)<|aQ<|bS iJ)
 ac_rfl
 cases hd with
 | @op _ _ _ _ p dx na _ hu' hm hr' hb'=>
  obtain⟨l,_,_⟩:=h.dict hm;exists _,rfl,u,_,_,_,rfl,hu',rfl,a,_,rfl,SqT.of hr',rfl,_,_,rfl,_,_,rfl,_,_,rfl,_,_,rfl,rfl;exists _,rfl,u,_,_,_,rfl,hu',rfl,na,rfl,.inl ⟨_,.inl l⟩,_,rfl,_,DGet.k (k:=(Sum.inr x:aF)) l;rw[yW];have i:∀A' H',RunAt R H' rn A' (S.thing (S.get m x) λj=>(S.put (S.dict j) g<|S.get m y,none)).1 dn->Im Y.C H H'->Q (bA (S.thing (S.get m x) λj=>(S.put (S.dict j) g<|S.get m y,none)).2) H':=q;show fT _ _ _ (List.set _ _<|some<|cV A.θ<|S.get m x) _;rcases h.got hm x with e | ⟨j,e,hj⟩
  .rw[e]at i ⊢;exact⟨_,rfl,_,rfl,bI (λ_=>i A H h Im.refl) λc=>absurd rfl c⟩
  .rw[e]at i ⊢;obtain⟨t,L,b,G,B,o⟩:=h.thing hj;rw[G];obtain⟨I,_,_⟩:=h.dict o;refine⟨_,rfl,_,rfl,bE ?_⟩;exists _,rfl,u,_,_,_,rfl,hu',rfl,na,rfl,.inl ⟨_,.inl l⟩,_,rfl,_,DGet.k (k:=(Sum.inr y:aF)) l,_,rfl,t,_,_,_,rfl,B,rfl,_,rfl,b,_,rfl,DPut.k (k:=(Sum.inr g:aF)) I<|h.few z o;rw[yW];have:=h.put o (h.got hm y) g;exact i _ _ this.1 this.2
def scTk:bZ ["run","due","word","x","y","field","thing"] eQ (bR GK):=cC
def yY(F:Fun Y.K "do_take" "do_take" GK f fd)(Z:dH Y.K Y.C):aR Y.pr Y.w Y.K mg base bQ (k+1) f fd eQ (gI Y λd=>∃n a x y g m,d=.op n a (.take x y g) m):=by
 refine F.ok scTk (λvs H Q E h=>?_) λJ A outer s H vs Q E hr h=>?_
 .obtain⟨R,rn,u,A,S,dn,d,rfl,_⟩:=h;rfl
 obtain⟨R,rn,u,A,S,dn,d,rfl,h,hd,⟨n,a,x,y,g,m,rfl⟩,B,hp,q⟩:=h;have l:=eC hr;exists _,aL (iQ (cS Z.d<|pv 1)<|eG (n:=4) rfl<|bL (gL 2 scTk.nd)<|bL (gL 3 scTk.nd)<|bL (gL 4 scTk.nd)<|bL (gL 5 scTk.nd) eK)
  (aL (sL 6 scTk.nd<|iS l (cS Z.d<|pv 1) (pv 4) ⟨rfl,rfl,rfl,rfl⟩)<|aL (cL (iL<|oR<|pv 6) (aQ<|bS bD) dD)<|aL (fO l (cS Z.d<|pv 1) (pv 3) (iS l (cS Z.t<|pv 6) (pv 5) ⟨rfl,rfl,rfl,rfl⟩) rfl)<|aQ<|bS iJ)
 ac_rfl
 cases hd with
 | @op _ _ _ _ p dx na _ hu' hm hr' hb'=>
  obtain⟨o,_,_⟩:=h.dict hm;exists _,rfl,u,_,_,_,rfl,hu',rfl,a,_,rfl,SqT.of hr',rfl,_,_,rfl,_,_,rfl,_,_,rfl,_,_,rfl,rfl;exists _,rfl,u,_,_,_,rfl,hu',rfl,na,rfl,.inl ⟨_,.inl o⟩,_,rfl,_,DGet.k (k:=(Sum.inr y:aF)) o;rw[yW];have i:∀A' H',RunAt R H' rn A' (S.thing (S.get m y) λj=>(S.put m x<|S.get (S.dict j) g,none)).1 dn->Im Y.C H H'->Q (bA (S.thing (S.get m y) λj=>(S.put m x<|S.get (S.dict j) g,none)).2) H':=q;show fT _ _ _ (List.set _ _<|some<|cV A.θ<|S.get m y) _;rcases h.got hm y with e | ⟨j,e,hj⟩
  .rw[e]at i ⊢;exact⟨_,rfl,_,rfl,bI (λ_=>i A H h Im.refl) λc=>absurd rfl c⟩
  .rw[e]at i ⊢;obtain⟨t,L,b,I,G,r⟩:=h.thing hj;rw[I];obtain⟨z,_,_⟩:=h.dict r;refine⟨_,rfl,_,rfl,bE ?_⟩;exists _,rfl,t,_,_,_,rfl,G,rfl,b,rfl,.inl ⟨_,.inl z⟩,_,rfl,_,DGet.k (k:=(Sum.inr g:aF)) z,_,rfl,u,_,_,_,rfl,hu',rfl,_,rfl,na,_,rfl,DPut.k (k:=(Sum.inr x:aF)) o<|h.few B hm;rw[yW];have:=h.put hm (h.got r g) x;exact i _ _ this.1 this.2
def scMk:bZ ["run","due","word","x","kind"] eQ (bR JX):=cC
def zX(F:Fun Y.K "do_make" "do_make" JX f fd)(Z:dH Y.K Y.C)(M:gZ Y mg base k "Thing" Y.C.th iZ (FF Y.C.th)):aR Y.pr Y.w Y.K mg base bQ (k+2) f fd eQ (gI Y λd=>∃n a x y m,d=.op n a (.make x y) m):=by
 refine F.ok scMk (λvs H Q E h=>?_) λa6 A outer s H vs Q E hr h=>?_
 .obtain⟨R,rn,u,A,S,dn,d,rfl,_⟩:=h;rfl
 obtain⟨R,rn,u,A,S,dn,d,rfl,h,hd,⟨n,a,x,y,m,rfl⟩,j,hp,q⟩:=h;have hu:=eC hr;exists _,aL (iQ (cS Z.d<|pv 1)<|eG (n:=3) rfl<|bL (gL 2 scMk.nd)<|bL (gL 3 scMk.nd)<|bL (gL 4 scMk.nd) eK)
  (aL (cL (bY (show cZ _ _ (hV Y.K true) from wF) (pv 4) (cS Z.r<|pv 0) rfl) (aQ<|bS bD) dD)<|aL (fO hu (cS Z.d<|pv 1) (pv 3) (ID M Cw hr rfl<|aA (pv 4) aE) rfl)<|aQ<|bS iJ)
 ac_rfl
 cases hd with
 | @op _ _ _ _ p dx na _ hu' hm hr' hb'=>
  exists _,rfl,u,_,_,_,rfl,hu',rfl,a,_,rfl,SqT.of hr',rfl,_,_,rfl,_,_,rfl,_,_,rfl,rfl;exists _,rfl,_,rfl,rn,_,_,_,rfl,h.run,rfl,A.he,_,rfl,.inl<|SqL.of h.he,rfl,jM _,_,rfl;show if (!iN (.str y) (S.hr.map V.str))=true then _ else _
  rw[lJ];have B:∀A' H',RunAt R H' rn A' (if y∈S.hr then(((S.make y).put m x<|.int S.ts.length),none) else(S,some "absent"):Rs×Option Str).1 dn->Im Y.C H H'->Q (bA (if y∈S.hr then(((S.make y).put m x<|.int S.ts.length),none) else(S,some "absent"):Rs×Option Str).2) H':=q
  by_cases c:y∈S.hr
  .rw[bC c]at B;rw[eW c];refine bE ⟨_,rfl,y,rfl,λt i b ht O a4 n1 n2 n3=>?_⟩;have g1:=h.keep0<|FrS.new (o:=.own t) O;have X:upd H i (.own t) b=none:=by rw[aC n3];exact a4
   have P:RunAt R (upd (upd H i<|.own t) b<|.dK []) rn (A.dic b) (S.dic []) dn/\Im Y.C (upd H i<|.own t) (upd (upd H i<|.own t) b<|.dK []):=g1.dic (d:=[]) X λz hz=>nomatch hz;have N:upd (upd H i<|.own t) b (.dK []) t=none:=by rw[aC<|bK n2,aC<|bK n1];exact ht
   have l:RunAt R (upd (upd (upd H i<|.own t) b<|.dK []) t<|.ins Y.C.th i [("kind",.str y),("fields",.ref b)]) rn ((A.dic b).thg t) (S.make y) dn:=(P.1.keep0<|FrS.new (o:=.ins Y.C.th i [("kind",.str y),("fields",.ref b)]) N).thg (k:=y) (m:=S.ds.length) zb1 (by
    show(A.δ++[b])[S.ds.length]?=some b;rw[h.dc.len,kN<|aW _,xD];rfl)
   have I:Im Y.C H (upd (upd (upd H i<|.own t) b<|.dK []) t<|.ins Y.C.th i [("kind",.str y),("fields",.ref b)]):=((Im.new O).trans P.2).trans<|Im.new N;have T:=I _ _ hu' Y.nd;have J:((A.dic b).thg t).δ[m]?=some na:=sZ hm;generalize upd (upd (upd H i<|.own t) b<|.dK []) t (.ins Y.C.th i [("kind",.str y),("fields",.ref b)])=H3 at l I T;have W:VOk (S.make y).ts.length (.int S.ts.length):=.inr ⟨_,rfl,by show _<↑(S.ts++[_]);rw[bH];exact wO _⟩;have e:cV ((A.dic b).thg t).θ (.int S.ts.length)=.ref t:=by
    show V.ref ((A.θ++[t]).getD S.ts.length 0)=_;rw[h.im.th.len,eX,kN<|aW _,xD];rfl
   obtain⟨ha,_,_⟩:=l.dict J;have L:=l.put J W x;rw[e]at L;refine⟨_,rfl,u,_,_,_,rfl,T,rfl,_,rfl,na,_,rfl,DPut.k (k:=(Sum.inr x:aF)) ha ?_,B _ _ L.1<|I.trans L.2⟩;have b3:Bd R.G (S.make y):=⟨j.td,j.lg,j.hr,λd hd=>by
    rcases wr7.mp hd with hd | hd
    .exact j.ds d hd
    .rw[wq1.mp hd];exact bM _,j.hn,λz hz=>by
    rcases wr7.mp hz with hz | hz
    .exact j.ts z hz
    .rw[wq1.mp hz];exact j.hn y c⟩
   exact l.few b3 J
  .rw[aZ c]at B;rw[gR c];exact bI (λ_=>B A H h Im.refl) λc=>absurd rfl c
end
abbrev uD:Stmt:=top 30
abbrev vH:Stmt:=top 29
inductive CG(Y:Ry)(vs:List V)(H:Hp)(Q:VK):Prop
 | mk(R:Rx Y)(rn:Addr)(A:Ra)(S:Rs)(dn:Nat)(h1:vs=[.ref rn])(h2:RunAt R H rn A S dn)(h3:∀H',RunAt R H' rn A (S.num (S.rd+1) S.uw S.lk) dn->Im Y.C H H'->Q (.int<|S.pick R.G) H')
def FA(Y:Ry):Sp:=λvs H Q _=>CG Y vs H Q
section
variable{Y:Ry}{mg:Str->Option Value}{base:Heap}{f:Addr}{fd:FuncData}
def scNxt:bZ ["run","at"] ["run"] (bR uD):=cC
def tP(F:Fun Y.K "next_choice" "next_choice" uD f fd)(Z:dH Y.K Y.C)(b:mg "len"=none):aR Y.pr Y.w Y.K mg base bQ (k+1) f fd ["run"] (FA Y):=by
 refine F.ok scNxt (λvs H Q E h=>?_) λd A outer s H vs Q E hr h=>?_
 .obtain⟨R,rn,A,S,dn,rfl,_⟩:=h;rfl
 obtain⟨R,rn,A,S,dn,rfl,h,q⟩:=h;exists _,aL (sL 1 scNxt.nd<|cS Z.r<|pv 0)
  (aL (pF (g:=λi j=>i+j) Z.r (pv 0) aN OW)<|aQ<|bS<|wV (bY xA (pv 1) (eA iW rfl b iR<|aA (cS Z.r<|pv 0) aE)<|cE _) (eT (cS Z.r<|pv 0)<|pv 1) aN)
 ac_rfl
 have g:=h.num (S.rd+1) dn S.uw S.lk;refine⟨_,rfl,rn,_,_,_,rfl,h.run,rfl,_,rfl,rn,_,_,_,rfl,h.run,rfl,_,_,_,rfl,h.run,by show 12<1000;decide,?_⟩;exists _,rfl,_,rfl,rn,_,_,_,rfl,g.1.run,rfl,A.ch,_,rfl,.inr<|SqT.of g.1.im.ch,_,_,rfl,rfl,_,rfl;have a:=q _ g.1 g.2;unfold Rs.pick at a;rw[aK,eX]at *;refine bI (λc=>?_) λc=>?_
 .have c:S.rd<R.G.ch.length:=by have:=cQ c;lia
  rw[bF c]at a;exact⟨_,rfl,rn,_,_,_,rfl,g.1.run,rfl,_,rfl,A.ch,_,_,_,rfl,rfl,SqT.of g.1.im.ch,lL (by rw[bO,bF c];rfl),a⟩
 .have c:R.G.ch.length<=S.rd:=Nat.le_of_not_lt λz=>c (eW<|by lia)
  rw[List.getElem?_eq_none c]at a;exact a
end
def Bu{K:Fq}{a:Addr}{xs:List V}{g:TG}{tb:TS}{D:dB}{σ:St}{H:Hp}(b:Nat->St->Hp->Prop)(h0:b 0 σ H)(hl:∀i σ H,i<=↑xs->b i σ H->SqT K H a xs)
  (hs:∀i x σ H,xs.reverse[i]?=some x->b i σ H->g x σ H λσ2 H2=>tb {D with nx:=b<|i+1,ct:=b<|i+1,bk:=D.nx} σ2 H2) (hd:∀σ H,b ↑xs σ H->D.nx σ H):
  ∃W:Nat->Nat->St->Hp->Prop,(∃m,W 0 m σ H)/\∀i m σ H,W i m σ H->
   ((kK K a ↑xs).stop i H/\D.nx σ H)\/((kK K a ↑xs).go i H/\∃N:St->Hp->Prop,(∀σ' H',N σ' H'->∃m',m'<m/\W (i+1) m' σ' H')/\∀x H',(kK K a ↑xs).yld i H x H'->g x σ H' λσ2 H2=>tb {D with nx:=N,ct:=N,bk:=D.nx} σ2 H2):=by
 exists λi m σ H=>m=↑xs-i/\i<=↑xs/\b i σ H,⟨↑xs,by simp,bM _,h0⟩;rintro i m σ H ⟨rfl,hi,p⟩;have q:=hl i σ H hi p
 by_cases d:i<↑xs
 .refine .inr ⟨⟨xs,xs.reverse[i]'(by rw[lA];exact d),q,rfl,bF _⟩,b<|i+1,λσ' H' f=>⟨↑xs-(i+1),by(clear hi;lia),rfl,d,f⟩,λx H' y=>?_⟩;obtain⟨e,y⟩:=y;subst e;exact hs i x σ _ (y xs q) p
 .have e:i=↑xs:=by lia
  subst e;exact .inl ⟨⟨xs,q,rfl,aW _⟩,hd σ H p⟩
def ML(Y:Ry)(R:Rx Y)(δ:List Addr)(m:Nat)(H:Hp)(d:Du)(e:Addr):Prop:=∃(n:Nat)(a p:Addr),H e=some (.tup [.int n,.ref a,.ref p])/\∀(na u dx:Addr)(H':Hp),δ[m]?=some na->Tup H H'->H' u=some (.ins Y.C.du dx<|dF (.int n) a p na)->DuAt Y.C R.Z δ H' d u
def Ens.at{Y:Ry}{R:Rx Y}(h:Ens R.Z H l es):A2 (ML Y R δ m H) (l.dues m) es:=by
 induction h with
 | nil=>exact .nil
 | op h hr hb _ ih=>exact .cons ⟨_,_,_,h,λd u dx H' a f b=>.op b a (f _ _ hr) hb⟩ ih
 | either h hp hr h1 h2 s1 s2 _ _ _ ih=>exact .cons ⟨_,_,_,h,λd u dx H' a f b=>.either b a (f _ _ hr) (f _ _ hp) (f _ _ h1) (f _ _ h2) (s1.keep f)<|s2.keep f⟩ ih
 | again h hp hr h1 s1 _ _ ih=>exact .cons ⟨_,_,_,h,λd u dx H' a f b=>.again b a (f _ _ hr) (f _ _ hp) (f _ _ h1)<|s1.keep f⟩ ih
inductive CS(Y:Ry)(vs:List V)(H:Hp)(Q:VK):Prop
 | mk(R:Rx Y)(rn l na:Addr)(A:Ra)(S:Rs)(dn m:Nat)(L:LL)(es:List Addr)(h1:vs=[.ref rn,.ref l,.ref na])(h2:RunAt R H rn A S dn)(h3:H l=some (.tup<|es.map V.ref))(h4:Ens R.Z H L es)(h5:A.δ[m]?=some na)(h6:S.td.length+L.size<=2000000)(h7:∀us H',RunAt R H' rn (A.pop us) (S.push L m) dn->Im Y.C H H'->Q .non H')
def AE(Y:Ry):Sp:=λvs H Q _=>CS Y vs H Q
inductive IB{Y:Ry}(R:Rx Y)(H:Hp)(rn l na:Addr)(A:Ra)(S:Rs)(dn:Nat)(ds:List Du)(i:Nat)(σ:St)(Hx:Hp):Prop
 | mk(x y z:Option V)(us:List Addr)(h1:σ=[some<|.ref rn,some<|.ref l,some<|.ref na,x,y,z])(h2:RunAt R Hx rn (A.pop us) (S.pop<|ds.drop (↑ds-i)++S.td) dn)(h3:Im Y.C H Hx)
abbrev jC:List Str:=["run","rows","names"]
section
variable{Y:Ry}{mg:Str->Option Value}{base:Heap}{f:Addr}{fd:FuncData}
def xw6:bZ ["run","rows","names","number","row","inners"] jC (bR vH):=cC
def sY(F:Fun Y.K "add_due" "add_due" vH f fd)(Z:dH Y.K Y.C)(M:gZ Y mg base k "Due" Y.C.du iV (EB Y.C.du))(mr:mg "reversed"=none):aR Y.pr Y.w Y.K mg base bQ (k+2) f fd jC (AE Y):=by
 refine F.ok xw6 (λvs H Q E h=>?_) λa3 A outer s H vs Q E hr h=>?_
 .obtain⟨R,rn,l,b,A,S,dn,m,L,es,rfl,_⟩:=h;rfl
 obtain⟨R,rn,l,b,A,S,dn,m,L,es,rfl,h,hl,hE,hm,hz,q⟩:=h;exists _,aQ<|dZ dJ rfl (uW rfl mr<|aA (pv 1) aE) (eG (n:=3) rfl<|bL (gL 3 xw6.nd)<|bL (gL 4 xw6.nd)<|bL (gL 5 xw6.nd) eK)<|aQ<|dQ<|eP eE fI fJ fG (cS Z.r<|pv 0)<|aA (ID M Dq hr rfl<|aA (pv 3)<|aA (pv 4)<|aA (pv 5)<|aA (pv 2) aE) aE
 ac_rfl
 have W:=hE.at (Y:=Y) (δ:=A.δ) (m:=m);have a0:=W.len;have a4:=nK m L;exists _,rfl,l,_,rfl,SqT.of hl;refine Bu (xs:=es.map V.ref) (IB R H rn l b A S dn<|L.dues m) ⟨_,_,_,A.us,rfl,?_,Im.refl⟩ ?_ ?_ ?_
 .rw[Nat.sub_zero,xF];exact h
 .rintro i σ z hi ⟨_,_,_,_,_,_,f⟩;exact SqT.of<|f.tup _ _ hl
 .rintro i x σ z B ⟨_,_,_,us,rfl,g,f⟩;rw[<-List.map_reverse,bO,wq8]at B;obtain⟨e,he,rfl⟩:=B;have hi:i<↑es:=by rw[<-lA];exact(zz2.mp he).1
  rw[List.getElem?_reverse hi]at he;obtain⟨d,hd,n,a,p,h1,h2⟩:=A2.back W he;have t:=f.tup;exists e,_,rfl,SqT.of<|t _ _ h1,rfl,_,_,rfl,_,_,rfl,_,_,rfl,rfl;refine⟨_,rfl,rn,_,_,_,rfl,g.run,rfl,.inl ⟨rfl,_,SqL.of g.to⟩,_,rfl,_,rfl,_,rfl,_,rfl,a,p,b,_,rfl,λu j O P T=>?_⟩;have J:=g.keep0 ((FrS.new (o:=.own u) P).trans<|FrS.new (o:=.ins Y.C.du j<|dF (.int n) a p b)<|by rw[aC<|bK T];exact O);have G:Im Y.C z (upd (upd z j<|.own u) u<|.ins Y.C.du j<|dF (.int n) a p b):=(Im.new P).trans (Im.new<|by rw[aC<|bK T];exact O);have X:=h2 b u j _ hm (t.trans G.tup)<|zb1 (H:=upd z j<|.own u) (o:=.ins Y.C.du j<|dF (.int n) a p b);have N:=J.due X;have ed:(L.dues m).drop (↑(L.dues m)-(i+1))=d::(L.dues m).drop (↑(L.dues m)-i):=by
   have I:↑(L.dues m)-(i+1)<↑(L.dues m):=by lia
   rw[nT I,show(L.dues m).length-(i+1)+1=↑(L.dues m)-i by lia]
   congr 1
   have:↑es-1-i=↑(L.dues m)-(i+1):=by lia
   rw[this,bF I]at hd;exact gX hd
  refine⟨_,_,_,rfl,rfl,J.to,kF ?_,_,_,_,u::us,rfl,?_,(f.trans G).trans N.2⟩
  .rw[aK,lA,<-g.im.ud.len];show((L.dues m).drop _++S.td).length<=_;rw[bH,mP];lia
  .rw[ed];exact N.1
 .rintro σ z ⟨_,_,_,us,rfl,g,f⟩;rw[aK,<-a0,xD,oY]at g;exact q us z g f
end
abbrev IT:Stmt:=top 36
abbrev JI:Stmt:=top 37
def Du.size:Du->Nat
 | .either _ _ p q _=>p.size+q.size
 | .again _ _ p _=>p.size
 | _=>0
inductive Av{Y:Ry}(R:Rx Y)(H:Hp)(rn u:Addr)(tv:V)(A:Ra)(S:Rs)(dn:Nat)(p:LL)(m i:Nat)(σ:St)(Hx:Hp):Prop
 | mk(x:Option V)(us:List Addr)(h1:σ=[some<|.ref rn,some<|.ref u,some tv,x])(h2:RunAt R Hx rn (A.pop us) (pushN p m i S) dn)(h3:Im Y.C H Hx)
theorem QH:∀(i:Nat)(S:Rs),(pushN p m i S).td.length<=S.td.length+i*p.size
 | 0,S=>by rw[Nat.zero_mul];exact aW _
 | i+1,S=>by
  have h1:=QH (p:=p) (m:=m) i<|S.push p m;have h2:=nK m p;have a:(S.push p m).td.length=↑(p.dues m)+S.td.length:=bH;show(pushN p m i<|S.push p m).td.length<=_;rw[Nat.succ_mul];lia
theorem QQ:∀(i:Nat)(S:Rs),pushN p m (i+1) S=(pushN p m i S).push p m
 | 0,S=>rfl
 | i+1,S=>QQ i<|S.push p m
section
variable{Y:Ry}{mg:Str->Option Value}{base:Heap}{f:Addr}{fd:FuncData}
def scEi:bZ ["run","due","rows","others"] eQ (bR IT):=cC
def BR{k:Nat}(F:Fun Y.K "do_either" "do_either" IT f fd)(Z:dH Y.K Y.C)(r:aS Y.pr Y.w Y.K mg base k "next_choice" ["run"] (FA Y))(x:aS Y.pr Y.w Y.K mg base k "add_due" jC (AE Y)):aR Y.pr Y.w Y.K mg base bQ (k+1) f fd eQ (gI Y λd=>∃n a p q m,d=.either n a p q m/\p.size+q.size<=80):=by
 refine F.ok scEi (λvs H Q E h=>?_) λI A outer s H vs Q E hr h=>?_
 .obtain⟨R,rn,u,A,S,dn,d,rfl,_⟩:=h;rfl
 obtain⟨R,rn,u,A,S,dn,d,rfl,h,hd,⟨n,a,l,p2,m,rfl,hz⟩,o,hp,q⟩:=h;exists _,aL (iQ (cS Z.d<|pv 1)<|eG (n:=2) rfl<|bL (gL 2 scEi.nd)<|bL (gL 3 scEi.nd) eK)
  (aL (dQ<|bB x hr rfl<|aA (pv 0)<|aA (wV (bY eZ (bB r hr rfl<|aA (pv 0) aE) aN<|cE _) (pv 2)<|pv 3)<|aA (cS Z.d<|pv 1) aE)<|aQ<|bS iJ)
 ac_rfl
 cases hd with
 | @either _ _ _ _ pp dx na l1 l2 v _ _ e1 e2 hu hm hr' hp' h1 h2 s1 s2=>
  exists _,rfl,u,_,_,_,rfl,hu,rfl,pp,_,rfl,SqT.of hp',rfl,_,_,rfl,_,_,rfl,rfl;refine⟨_,rfl,_,rfl,R,rn,A,S,dn,rfl,h,λH1 g b=>⟨rfl,_,rfl,?_⟩⟩;have t:=b.tup;have j:=b _ _ hu Y.nd;have e:∀A' H',RunAt R H' rn A' ((S.num (S.rd+1) S.uw S.lk).push (if S.pick R.G=0 then l else p2) m) dn->Im Y.C H H'->Q .non H':=q;have B:=o.td;refine bI (λc=>?_) λc=>?_
  .have c:S.pick R.G=0:=V.int.inj<|cQ c;rw[bC c]at e;exact⟨_,rfl,_,rfl,u,_,_,_,rfl,j,rfl,R,rn,l1,na,A,_,dn,m,l,e1,rfl,g,t _ _ h1,s1.keep t,hm,by show S.td.length+_<=_;lia,λus H' g' i=>e _ H' g'<|b.trans i⟩
  .have c:S.pick R.G≠0:=λz=>c (eW<|by rw[z])
   rw[aZ c]at e;exact⟨_,rfl,_,rfl,u,_,_,_,rfl,j,rfl,R,rn,l2,na,A,_,dn,m,p2,e2,rfl,g,t _ _ h2,s2.keep t,hm,by show S.td.length+_<=_;lia,λus H' g' i=>e _ H' g'<|b.trans i⟩
def scAg:bZ ["run","due","times","turn"] eQ (bR JI):=cC
def AO{k:Nat}(F:Fun Y.K "do_again" "do_again" JI f fd)(Z:dH Y.K Y.C)(L:aS Y.pr Y.w Y.K mg base k "next_choice" ["run"] (FA Y))(M:aS Y.pr Y.w Y.K mg base k "add_due" jC (AE Y))(J:mg "min"=none)(I:mg "range"=none)(b:∃tk,mg "MOST_TIMES"=some (.int 9 tk)):aR Y.pr Y.w Y.K mg base bQ (k+1) f fd eQ (gI Y λd=>∃n a p m,d=.again n a p m/\p.size<=80):=by
 refine F.ok scAg (λvs H Q E h=>?_) λT A outer s H vs Q E hr h=>?_
 .obtain⟨R,rn,u,A,S,dn,d,rfl,_⟩:=h;rfl
 obtain⟨R,rn,u,A,S,dn,d,rfl,h,hd,⟨n,a,p,m,rfl,hz⟩,B,hp,q⟩:=h;obtain⟨tk,b⟩:=b;exists _,aL (sL 2 scAg.nd<|eA (HP rfl) rfl J (by rfl')<|aA (bB L hr rfl<|aA (pv 0) aE)<|aA (xE (v:=.int 9) rfl b ⟨_,rfl⟩) aE)
  (aL (dZ dJ rfl (lC rfl I<|aA (pv 2) aE) (gL 3 scAg.nd)<|aQ<|dQ<|bB M hr rfl<|aA (pv 0)<|aA (eT (cS Z.d<|pv 1) aN)<|aA (cS Z.d<|pv 1) aE)<|aQ<|bS iJ)
 ac_rfl
 cases hd with
 | @again _ _ _ _ pp dx na l1 v _ e1 hu hm hr' hp' h1 s1=>
  refine⟨_,rfl,R,rn,A,S,dn,rfl,h,λH1 g z=>?_⟩;have P:-100<=S.pick R.G:=by
   unfold Rs.pick;rw[eX];cases e:R.G.ch[S.rd]? with
   | none=>show(-100:Int)<=0;decide
   | some c=>exact hp.choose_spec.ch c<|cU e
  exists _,_,rfl;have l:∀A' H',RunAt R H' rn A' (pushN p m (min (S.pick R.G) 9).toNat<|S.num (S.rd+1) S.uw S.lk) dn->Im Y.C H H'->Q .non H':=q;have e:(if 9<S.pick R.G then 9 else S.pick R.G)=min (S.pick R.G) 9:=by split <;> lia
  rw[e];have N:min (S.pick R.G) 9<=9/\-100<=min (S.pick R.G) 9:=by lia
  generalize min (S.pick R.G) 9=tv at l N;have W:=B.td;refine⟨_,rfl,tv,rfl,by lia,by lia,?_⟩;refine vV (lo:=0) (n:=tv.toNat) (Av R H rn u (.int tv) A (S.num (S.rd+1) S.uw S.lk) dn p m) ⟨_,A.us,rfl,g,z⟩ ?_ ?_
  .rintro i σ o hi ⟨_,us,rfl,g,f⟩;have t:=f.tup;have j:=f _ _ hu Y.nd;have hl:=QH (p:=p) (m:=m) i<|S.num (S.rd+1) S.uw S.lk;have O:i*p.size<=9*80:=Nat.mul_le_mul (by lia) hz;refine⟨_,rfl,_,rfl,u,_,_,_,rfl,j,rfl,pp,_,_,_,rfl,rfl,SqT.of<|t _ _ hp',rfl,_,rfl,u,_,_,_,rfl,j,rfl,R,rn,l1,na,_,_,dn,m,p,e1,rfl,g,t _ _ h1,s1.keep t,hm,?_,λx H' g' r=>?_⟩
   .have:(S.num (S.rd+1) S.uw S.lk).td.length=S.td.length:=rfl;lia
   .exact⟨_,x,rfl,by rw[QQ];exact g',f.trans r⟩
  .rintro σ o ⟨_,us,rfl,g,f⟩;exact l _ o g f
end
abbrev vL:Stmt:=top 20
abbrev HE:Stmt:=top 21
abbrev KS:Stmt:=top 38
def QW{K:Fq}{pt:Hp->Addr->V->V->(Hp->Prop)->Prop}{a D:Addr}{xs:List V}{g:TG}{tt:TT}{tk te:TE}{σ0:St}{H0:Hp}{Q:Hp->Prop}(d:Nat->St->Hp->Prop)(h0:d 0 σ0 H0)(hl:∀i σ H,i<=↑xs->d i σ H->SqT K H a xs)
  (hs:∀i x σ H,xs[i]?=some x->d i σ H->g x σ H λσ2 H2=>tt σ2 H2 λb H3=>if b=true then tk σ2 H3 λo l=>te σ2 l λv j=>pt j D o v λh=>d (i+1) σ2 h else d (i+1) σ2 H3) (hd:∀σ H,d ↑xs σ H->Q H):EE pt (kW K a) g tt tk te D σ0 H0 Q:=by
 exists λi m σ H=>m=↑xs-i/\i<=↑xs/\d i σ H,⟨↑xs,by simp,bM _,h0⟩;rintro i m σ H ⟨rfl,hi,p⟩;have q:=hl i σ H hi p
 by_cases f:i<↑xs
 .refine .inr ⟨⟨xs,xs[i],q,bF f⟩,d<|i+1,λσ' H' n=>⟨↑xs-(i+1),by(clear hi;lia),rfl,f,n⟩,λx H' y=>?_⟩;obtain⟨e,y⟩:=y;subst e;exact hs i x σ _ (y xs q) p
 .have e:i=↑xs:=by lia
  subst e;exact .inl ⟨⟨xs,q,aW _⟩,hd σ H p⟩
inductive BG(vs:List V)(H:Hp)(Q:VK):Prop
 | mk(md:Addr)(h1:vs=[.ref md])(h2:H md=some (.tup []))(h3:∀a,H a=none->Q (.ref a) (upd H a<|.dK []))
def EZ:Sp:=λvs H Q _=>BG vs H Q
inductive JK(vs:List V)(H:Hp)(Q:VK):Prop
 | mk(md:Addr)(v:V)(h1:vs=[.ref md,v])(h2:H md=some (.tup []))(h3:∀a H',FrS [] H H'->H' a=some (.tup [])->Q (.ref a) H')
def vE:Sp:=λvs H Q _=>JK vs H Q
def AA:bZ ["made"] ["made"] (bR vL):=cC
def sU(F:Fun K "forms_of" "forms_of" vL f fd):aR P w K mg base bQ (k+1) f fd ["made"] EZ:=by
 refine F.ok AA (λvs H Q E h=>?_) λl A outer s H vs Q E hr h=>?_
 .obtain⟨md,rfl,_⟩:=h;rfl
 obtain⟨md,rfl,h,q⟩:=h;have b:(["number","form","names"]:List Str).Nodup:=by rfl'
 exists _,aQ<|bS<|VC (hp:=NO) (N':=["number","form","names"]) (src:=[none,none,none]) rfl eS (gC<|pv 0) (g:=eN K 3<|dW (bW 0)<|dW (bW 1)<|dW (bW 2) eO) (λ_ _ _ _=>eG (n:=3) rfl<|bL (gL 0 b)<|bL (gL 1 b)<|bL (gL 2 b) eK) (λ_ _ _ _=>gO) (λ_ _ _ _=>pv 0) λ_ _ _ _=>pv 1
 ac_rfl
 refine⟨_,rfl,md,rfl,⟨_,SqT.of h⟩,λD d=>?_⟩;exact QW (xs:=[]) (λ_ _ a=>a=upd H D (.dK [])) rfl (λi σ a _ e=>by rw[e];exact SqT.of<|(Tup.new d) _ _ h) (λi x σ a j=>nomatch j) λσ a e=>by rw[e];exact q D d
def scTb:bZ ["made","came","found","number","form","names"] ["made","came"] (bR HE):=cC
def AU(F:Fun K "turned_back" "turned_back" HE f fd)(j:mg "tuple"=none):aR P w K mg base bQ (k+1) f fd ["made","came"] vE:=by
 refine F.ok scTb (λvs H Q E h=>?_) λo A outer s H vs Q E hr h=>?_
 .obtain⟨md,v,rfl,_⟩:=h;rfl
 obtain⟨md,v,rfl,h,q⟩:=h;exists _,aL (sL 2 scTb.nd<|cG aE)
  (aL (dZ dJ rfl (gC<|pv 0) (eG (n:=3) rfl<|bL (gL 3 scTb.nd)<|bL (gL 4 scTb.nd)<|bL (gL 5 scTb.nd) eK)<|aQ Am)<|aQ<|bS<|dS gH rfl j (by rfl')<|aA (pv 2) aE)
 ac_rfl
 refine⟨bM _,λl hl=>⟨_,rfl,md,rfl,⟨_,SqT.of<|(Tup.new hl) _ _ h⟩,?_⟩⟩;refine kH (xs:=[]) (λ_ σ b=>σ=[some<|.ref md,some v,some<|.ref l,none,none,none]/\b=upd H l (.lst [])) ⟨rfl,rfl⟩ (λi σ b _ e=>by rw[e.2];exact SqT.of<|(Tup.new hl) _ _ h) (λi x σ b d=>nomatch d) ?_;rintro σ b ⟨rfl,rfl⟩;exact⟨_,rfl,l,_,rfl,.inl ⟨SqL.of zb1,λa m=>q a _ ((FrS.new hl).trans<|FrS.new m) zb1⟩⟩
def Ra.mad(A:Ra)(a:Addr):Ra:={A with md:=a}
def Ra.frm(A:Ra)(a:Addr):Ra:={A with fo:=a}
section
variable{Y:Ry}{R:Rx Y}{H:Hp}{rn:Addr}{A:Ra}{S:Rs}{dn:Nat}
theorem RunAt.mad(h:RunAt R H rn A S dn)(l:H a=some (.tup [])):RunAt R (upd H rn<|.ins Y.C.rn A.dx<|rF R.pg (A.mad a) S.rd dn S.uw S.lk) rn (A.mad a) S dn/\Im Y.C H (upd H rn<|.ins Y.C.rn A.dx<|rF R.pg (A.mad a) S.rd dn S.uw S.lk):=by
 have f:Im Y.C H (upd H rn<|.ins Y.C.rn A.dx<|rF R.pg (A.mad a) S.rd dn S.uw S.lk):=.upd h.run λz=>z rfl;have nd:=h.nd;simp only[ws9,wp9,fQ]at nd;obtain⟨⟨e,b,j,m,d⟩,_⟩:=nd;have i:=h.im.keep f;exact⟨{im:=⟨f.tup _ _ l,i.ch,i.ud,i.lg,i.th,i.bo⟩,run:=zb1,fo:=(aC<|bK e).trans h.fo,he:=(aC<|bK b).trans h.he,to:=(aC<|bK j).trans h.to,lo:=(aC<|bK m).trans h.lo,dc:=sO h.dc d,dk:=h.dk,nd:=h.nd,kp:=oH h.kp<|h.fr _<|.head _,fr:=h.fr},f⟩
theorem RunAt.frm(h:RunAt R H rn A S dn)(d:H a=none):RunAt R (upd (upd H a<|.dK []) rn<|.ins Y.C.rn A.dx<|rF R.pg (A.frm a) S.rd dn S.uw S.lk) rn (A.frm a) S dn/\Im Y.C H (upd (upd H a<|.dK []) rn<|.ins Y.C.rn A.dx<|rF R.pg (A.frm a) S.rd dn S.uw S.lk):=by
 have g:=h.keep0<|FrS.new (o:=.dK []) d;have f:Im Y.C (upd H a<|.dK []) (upd (upd H a<|.dK []) rn<|.ins Y.C.rn A.dx<|rF R.pg (A.frm a) S.rd dn S.uw S.lk):=.upd g.run λz=>z rfl;have h0:R.H0 a=none:=by
  cases e:R.H0 a with
  | none=>rfl
  | some o=>rw[h.kp a o e]at d;cases d
 have m:rn≠a:=aP h.run d;have x:A.he≠a:=aP h.he d;have u:A.to≠a:=aP h.to d;have s:A.lo≠a:=aP h.lo d;have w:a∉A.δ:=λz=>by
  obtain⟨i,hi⟩:=wt5.mp z;rw[(h.dict hi).1]at d;cases d
 have nd:=h.nd;simp only[ws9,wp9,fQ]at nd;obtain⟨⟨I,l,q,r,n⟩,⟨G,E,B,J⟩,nd⟩:=nd;have i:=g.im.keep f;refine⟨{im:=⟨i.md,i.ch,i.ud,i.lg,i.th,i.bo⟩,run:=zb1,fo:=(aC<|bK m).trans zb1,he:=(aC<|bK l).trans g.he,to:=(aC<|bK q).trans g.to,lo:=(aC<|bK r).trans g.lo,dc:=sO g.dc n,dk:=h.dk,nd:=?_,kp:=oH g.kp<|h.fr _<|.head _,fr:=λb j=>?_},(Im.new d).trans f⟩
 .show(rn::a::A.he::A.to::A.lo::A.δ).Nodup;simp only[ws9,wp9,fQ];exact⟨⟨m,l,q,r,n⟩,⟨bK x,bK u,bK s,w⟩,nd⟩
 .rcases wp9.mp j with j | j
  .rw[j];exact h.fr _<|.head _
  .rcases wp9.mp j with j | j
   .rw[j];exact h0
   .exact h.fr _<|.tail _<|.tail _ j
end
inductive Bw{Y:Ry}(R:Rx Y)(H:Hp)(rn u la:Addr)(S:Rs)(dn:Nat)(l:List Str)(i:Nat)(σ:St)(Hx:Hp):Prop
 | mk(x:Option V)(A:Ra)(h1:σ=[some<|.ref rn,some<|.ref u,some<|.ref la,x])(h2:RunAt R Hx rn A ((l.take i).foldl Rs.come S) dn)(h3:Im Y.C H Hx)
section
variable{Y:Ry}{mg:Str->Option Value}{base:Heap}{f:Addr}{fd:FuncData}
def scBr:bZ ["run","due","line","name"] eQ (bR KS):=cC
def zQ{k:Nat}(F:Fun Y.K "do_bring" "do_bring" KS f fd)(Z:dH Y.K Y.C)(EL:aS Y.pr Y.w Y.K mg base k "elders" ["program","kind"] HC)(TB:aS Y.pr Y.w Y.K mg base k "turned_back" ["made","came"] vE)(FO:aS Y.pr Y.w Y.K mg base k "forms_of" ["made"] EZ):aR Y.pr Y.w Y.K mg base bQ (k+1) f fd eQ (gI Y λd=>∃n a x m,d=.op n a (.bring x) m):=by
 refine F.ok scBr (λvs H Q E h=>?_) λa9 A outer s H vs Q E hr h=>?_
 .obtain⟨R,rn,u,A,S,dn,d,rfl,_⟩:=h;rfl
 obtain⟨R,rn,u,A,S,dn,d,rfl,h,hd,⟨n,a,x,m,rfl⟩,hb,hp,q⟩:=h;exists _,aL (sL 2 scBr.nd<|bB EL hr rfl<|aA (cS Z.r<|pv 0)<|aA (eT (cS Z.d<|pv 1) aN) aE)
  (aL (dZ dJ rfl (gC<|pv 2) (gL 3 scBr.nd)<|aQ<|cL (bY (show cZ _ _ (hV Y.K true) from wF) (pv 3) (cS Z.r<|pv 0) rfl) (aL (dQ<|eP eE fI fJ fG (cS Z.r<|pv 0)<|aA (pv 3) aE)<|aL (dQ<|eP eE fI fJ fG (cS Z.r<|pv 0)<|aA (bX<|aA bD<|aA (pv 3) aE) aE)<|aQ<|gE Z.r (pv 0)<|bB TB hr rfl<|aA (cS Z.r<|pv 0)<|aA (bX<|aA (pv 3) aE) aE) dD)<|aL (gE Z.r (pv 0)<|bB FO hr rfl<|aA (cS Z.r<|pv 0) aE)<|aQ<|bS iJ)
 ac_rfl
 cases hd with
 | @op _ _ _ _ p dx na _ hu hm hr' hb'=>
  obtain⟨tr,hp⟩:=hp;have z:=hp.ln x<|hp.z0 x<|hb' x rfl;have ok:=hp.ok;have a8:=hp.l12;have k0:FrS [] R.H0 H:=λb o _ e=>h.kp b o e;have a6:↑(R.G.ln x)<=12:=by
   obtain⟨i,g,hi⟩:=z.at;have:=Up.len ok i x g _ hi z;have:=(zz2.mp hi).1;lia
  refine⟨_,rfl,rn,_,_,_,rfl,h.run,rfl,_,rfl,u,_,_,_,rfl,hu,rfl,a,_,_,_,rfl,rfl,SqT.of hr',rfl,R.pg,x,tr,_,rfl,hp.kn.keepT<|Tup.of0 k0,ok,a8,z,λla H1 N _ a5=>?_⟩;have B:=h.keep0 N;have i1:Im Y.C H H1:=λb o e _=>N b o aV e;exists _,rfl,la,rfl,⟨_,SqT.of a5⟩;refine kH (xs:=(R.G.ln x).reverse.map V.str) (Bw R H1 rn u la S dn (R.G.ln x).reverse) ⟨_,A,rfl,B,Im.refl⟩ ?_ ?_ ?_
  .rintro i σ T hi ⟨_,_,_,_,f⟩;exact SqT.of<|f.tup _ _ a5
  .rintro i v σ T O ⟨_,l,rfl,g,f⟩;rw[bO,wq8]at O;obtain⟨y,W,rfl⟩:=O;have hi:i<↑(R.G.ln x):=by rw[<-lA];exact(zz2.mp W).1
   have e:((R.G.ln x).reverse.take<|i+1).foldl Rs.come S=(((R.G.ln x).reverse.take i).foldl Rs.come S).come y:=by
    rw[fW,W,GD];rfl
   obtain⟨a4,P,_⟩:=yE ((R.G.ln x).reverse.take i) S;rw[eM]at a4 P;have I:=hb.hr;have aa:=hb.lg;generalize ((R.G.ln x).reverse.take i).foldl Rs.come S=S1 at g e a4 P;exists _,rfl,_,rfl,rn,_,_,_,rfl,g.run,rfl,l.he,_,rfl,.inl<|SqL.of g.he,rfl,jM _,_,rfl;show if (!iN (.str y) (S1.hr.map V.str))=true then _ else _
   rw[lJ]
   by_cases c:y∈S1.hr
   .rw[eW c];refine bE ⟨_,l,rfl,?_,f⟩;rw[e];unfold Rs.come;rw[bC c];exact g
   .rw[gR c];refine cH ?_;have j:=g.her y;exists _,rfl,rn,_,_,_,rfl,g.run,rfl,.inl ⟨rfl,_,SqL.of g.he⟩,_,rfl,_,_,_,rfl,rfl,g.he,kF (by rw[aK];lia);refine⟨_,rfl,rn,_,_,_,rfl,j.1.run,rfl,.inl ⟨rfl,_,SqL.of j.1.lo⟩,_,rfl,cN<|bG (by show 2<=_;decide),λt ht=>?_⟩;have M:=j.1.keep0<|FrS.new (o:=.tup [.str "came",.str y]) ht;have J:=M.say zb1;exists _,_,_,rfl,rfl,M.lo,kF (by rw[aK,<-g.im.lg.len];lia);refine⟨_,rfl,rn,_,_,_,rfl,J.1.run,rfl,_,rfl,cN<|bG (by show 1<=_;decide),λt2 a1=>?_⟩;have g5:=J.1.keep0<|FrS.new (o:=.tup [.str y]) a1;refine⟨_,_,rfl,g5.im.md,λa2 H5 L a7=>?_⟩;have X:=g5.keep0 L;have g7:=X.mad a7;refine⟨_,rfl,rn,_,_,rfl,X.run,by show 12<1000;decide,_,(l.say t).mad a2,rfl,?_,((((f.trans j.2).trans<|Im.new ht).trans J.2).trans<|Im.new a1).trans<|Im.trans (λb o e _=>L b o aV e) g7.2⟩;rw[e];unfold Rs.come;rw[aZ c];exact g7.1
  .rintro σ T ⟨_,l,rfl,g,f⟩;rw[aK,gA<|aW _]at g;refine⟨_,rfl,rn,_,_,_,rfl,g.run,rfl,l.md,rfl,g.im.md,λb I=>?_⟩;have B:=g.keep0<|FrS.new (o:=.dK []) I;have j:=g.frm I;exact⟨_,rfl,rn,_,_,rfl,B.run,by show 12<1000;decide,q _ _ j.1<|i1.trans<|f.trans j.2⟩
end
abbrev IU:Stmt:=top 43
abbrev MV:Stmt:=top 44
def Rw.wd:Rw->Str
 | .make _ _=>"make"
 | .copy _ _=>"copy"
 | .put _ _ _=>"put"
 | .take _ _ _=>"take"
 | .say _=>"say"
 | .bring _=>"bring"
def Du.wd:Du->Str
 | .op _ _ r _=>r.wd
 | .either _ _ _ _ _=>"either"
 | .again _ _ _ _=>"again"
def Rw.hd(r:Rw):∃rest,r.vs=.str r.wd::rest:=by cases r <;> exact⟨_,rfl⟩
theorem DuAt.hd(h:DuAt C Z δ H d u):∃dx a p na rest,H u=some (.ins C.du dx<|dF (.int d.num) a p na)/\H a=some (.tup<|.str d.wd::rest):=by
 cases h with
 | op h hm hr hb=>
  obtain⟨rest,e⟩:=Rw.hd ‹_›;rw[e]at hr;exact⟨_,_,_,_,_,h,hr⟩
 | either h hm hr=>exact⟨_,_,_,_,_,h,hr⟩
 | again h hm hr=>exact⟨_,_,_,_,_,h,hr⟩
def KJ{Y:Ry}{R:Rx Y}{Q:St->Hp->Prop}{σ:St}{H H':Hp}(g:RunAt R H' rn A S dn)(h:Q σ H')(e:H=H':=by rfl):Q σ H:=by rw[e];exact h
def nO(Y:Ry)(mg:Str->Option Value)(base:Heap)(k:Nat):Prop:=∃ad kvs,mg "DOERS"=some (.ref ad)/\IV Y.pr Y.w Y.K ad kvs/\∀d:Du,d.size<=80->∃g ok,valueAt kvs (Sum.inr d.wd)=some (.ref g)/\vQ Y.pr Y.w Y.K mg base k eQ g (gI Y ok)/\ok d
inductive qM(Y:Ry)(vs:List V)(H:Hp)(Q:VK):Prop
 | mk(R:Rx Y)(rn u:Addr)(A:Ra)(S:Rs)(dn:Nat)(mo:Int)(d:Du)(h1:vs=[.ref rn,.ref u,.int mo])(h2:RunAt R H rn A S dn)(h3:DuAt Y.C R.Z A.δ H d u)(h5:d.size<=80)(h6:Bd R.G S)(h7:mX R)(h8:mo<=dn->Q (.str "long") H)(h9:(dn:Int)<mo->∀A' H',RunAt R H' rn A' (doR R.G S d).1 (dn+1)->Im Y.C H H'->Q (bA (doR R.G S d).2) H')
def KQ(Y:Ry):Sp:=λvs H Q _=>qM Y vs H Q
section
variable{Y:Ry}{mg:Str->Option Value}{base:Heap}{f:Addr}{fd:FuncData}
def xm8:bZ ["run","due","most","doer"] ["run","due","most"] (bR IU):=cC
def XV{k:Nat}(F:Fun Y.K "do_row" "do_row" IU f fd)(Z:dH Y.K Y.C)(D:nO Y mg base k):aR Y.pr Y.w Y.K mg base bQ (k+1) f fd ["run","due","most"] (KQ Y):=by
 refine F.ok xm8 (λvs H Q E h=>?_) λX A outer s H vs Q E hr h=>?_
 .obtain⟨R,rn,u,A,S,dn,mo,d,rfl,_⟩:=h;rfl
 obtain⟨R,rn,u,A,S,dn,mo,d,rfl,h,hd,hz,L,hp,x,W⟩:=h;obtain⟨b,kvs,N,P,q⟩:=D;exists _,aL (cL (bY pK (cS Z.r<|pv 0) (pv 2)<|cE _) (aQ<|bS bD) dD)
  (aL (pF (g:=λi j=>i+j) Z.r (pv 0) aN OW)<|aL (sL 3 xm8.nd<|yC (xE (v:=.ref b) rfl N rfl)<|eT (cS Z.d<|pv 1) aN)<|aQ<|bS<|yR (ps:=eQ) hr (pv 3)<|aA (pv 0)<|aA (pv 1) aE)
 ac_rfl
 exists _,rfl,rn,_,_,_,rfl,h.run,rfl,_,rfl,_,_,rfl,rfl,_,rfl;refine bI (λc=>?_) λc=>?_
 .exact x<|cQ c
 .have c:¬mo<=dn:=λz=>c<|eW z;have g:=h.num S.rd (dn+1) S.uw S.lk;obtain⟨dx,a,p,na,rest,O,T⟩:=hd.hd;have o:=g.2 _ _ O Y.nd;have J:=g.2.tup _ _ T;obtain⟨e,ok,I,G,B⟩:=q d hz;have m:=hd.keep (l:=[]) Y.nd g.2;rw[fY]at m;refine⟨_,rfl,rn,_,_,_,rfl,h.run,rfl,_,_,_,rfl,h.run,by show 12<1000;decide,?_⟩;refine KJ g.1 ?_;exists _,rfl,u,_,_,_,rfl,o,rfl,a,_,_,_,rfl,rfl,SqT.of J,fK _ _,b,e,kvs,Sum.inr d.wd,rfl,rfl,P,I;exact⟨_,rfl,e,_,rfl,G,_,rfl,_,rfl,R,rn,u,A,S,dn+1,d,rfl,g.1,m,B,L,hp,λM H' g' n=>W (by lia) M H' g'<|g.2.trans n⟩
end
structure Pz(G:Pg):Prop where
 bo:∀f d,(G.bo f d).size<=80
 ln:∀k,↑(G.ln k)<=12
 nm:∀k,∀x∈G.ln k,x∈G.nm
structure Wf(G:Pg)(S:Rs)(dn:Nat):Prop where
 td:S.td.length<=800*(dn+1)
 sz:∀d∈S.td,d.size<=80
 lg:S.lg.length<=12*dn
 hl:S.hr.length<=12+12*dn
 hn:∀k∈S.hr,k∈G.nm
 ts:∀z∈S.ts,z.1∈G.nm
 ds:∀d∈S.ds,↑d<=dn
def Wf.bd(h:Wf G S dn)(hd:dn<=2000):Bd G S:=⟨by have:=h.td;lia,by have:=h.lg;lia,by have:=h.hl;lia,λd a=>by have:=h.ds d a;lia,h.hn,h.ts⟩
theorem CB(m:Nat):∀l:LL,l.size<=80->∀d∈l.dues m,d.size<=80
 | .nil,_=>λd h=>nomatch h
 | .op n a r t,h=>λd hd=>by
  simp only[LL.size]at h;rcases wp9.mp hd with rfl | hd
  .exact bM _
  .exact CB m t (by lia) d hd
 | .either n a p q t,h=>λd hd=>by
  simp only[LL.size]at h;rcases wp9.mp hd with rfl | hd
  .show p.size+q.size<=80;lia
  .exact CB m t (by lia) d hd
 | .again n a p t,h=>λd hd=>by
  simp only[LL.size]at h;rcases wp9.mp hd with rfl | hd
  .show p.size<=80;lia
  .exact CB m t (by lia) d hd
def Wf.pop(h:Wf G S dn)(e:S.td=d::r):Wf G {S with td:=r} dn:=⟨by have:=h.td;rw[e,cJ]at this;show ↑r<=_;lia,λd' a=>h.sz d' (by rw[e];exact .tail _ a),h.lg,h.hl,h.hn,h.ts,h.ds⟩
def Wf.more(h:Wf G S dn):Wf G S (dn+1):=⟨by have:=h.td;lia,h.sz,by have:=h.lg;lia,by have:=h.hl;lia,h.hn,h.ts,λd hd=>by have:=h.ds d hd;lia⟩
theorem Wf.put(h:Wf G S dn)(m:Nat)(x:Str)(v:V):Wf G (S.put m x v) (dn+1):=by
 refine⟨by have:=h.td;show S.td.length<=_;lia,h.sz,by have:=h.lg;show S.lg.length<=_;lia,by have:=h.hl;show S.hr.length<=_;lia,h.hn,h.ts,λd hd=>?_⟩;rcases CN hd with hd | rfl
 .have:=h.ds d hd;lia
 .have hl:=kD (S.ds.getD m []) (Sum.inr x) v;rw[eX]at hl ⊢;cases e:S.ds[m]? with
  | none=>
   rw[e]at hl;simp only[Option.getD_none,jB]at hl ⊢;lia
  | some d'=>
   rw[e]at hl;have:=h.ds d'<|cU e;simp only[Option.getD_some]at hl ⊢;lia
theorem Wf.push(h:Wf G S dn)(hl:l.size<=80)(m:Nat)(hd:S.td.length+80<=800*(dn+1)):Wf G (S.push l m) dn:=by
 refine⟨?_,λd hd=>?_,h.lg,h.hl,h.hn,h.ts,h.ds⟩
 .show(l.dues m++S.td).length<=_;have:=nK m l;rw[bH];lia
 .rcases wr7.mp hd with hd | hd
  .exact CB m l hl d hd
  .exact h.sz d hd
theorem Wf.pushN(hl:l.size<=80)(m:Nat):∀(i:Nat)(S:Rs),Wf G S dn->S.td.length+80*i<=800*(dn+1)->Wf G (pushN l m i S) dn
 | 0,S,h,_=>h
 | i+1,S,h,hd=>by
  refine Wf.pushN hl m i _ (h.push hl m<|by lia) ?_;show(l.dues m++S.td).length+_<=_;have:=nK m l;rw[bH];lia
theorem Wf.thing(h:Wf G S dn)(a:∀j,Wf G (f j).1<|dn+1):Wf G (S.thing v f).1 (dn+1):=by
 cases v with
 | int j=>exact a j
 | _=>exact h.more
theorem Wf.doR(s:Pz G)(h:Wf G S dn)(hz:d.size<=80):Wf G (doR G S d).1 (dn+1):=by
 cases d with
 | op n a r m=>
  cases r with
  | make x k=>
   show Wf G (if k∈S.hr then(((S.make k).put m x<|.int S.ts.length),none) else(S,some "absent"):Rs×Option Str).1 _
   by_cases c:k∈S.hr
   .rw[bC c];refine Wf.put (S:=S.make k) ⟨h.td,h.sz,h.lg,h.hl,h.hn,λz hz=>?_,λd hd=>?_⟩ m x _
    .rcases wr7.mp hz with hz | hz
     .exact h.ts z hz
     .rw[wq1.mp hz];exact h.hn k c
    .rcases wr7.mp hd with hd | hd
     .exact h.ds d hd
     .rw[wq1.mp hd];exact bM _
   .rw[aZ c];exact h.more
  | copy x y=>exact h.put m x _
  | put x f y=>exact h.thing λj=>h.put _ f _
  | take x y f=>exact h.thing λj=>h.put m x _
  | say w=>
   obtain⟨o,i,B,u,l,e,b⟩:=h.more;exact⟨o,i,by have:=h.lg;show(S.lg++[_]).length<=_;rw[bH,dU];lia,u,l,e,b⟩
  | bring k=>
   obtain⟨E,I,J,K,H,_,A⟩:=yE (G.ln k).reverse S;have M:=s.ln k;rw[lA]at E I;obtain⟨o,i,B,u,l,e,b⟩:=h;show Wf G ((G.ln k).reverse.foldl Rs.come S) _;refine⟨by rw[A];lia,by rw[A];exact i,by lia,by lia,λx C=>?_,by rw[H];exact e,λd hd=>?_⟩
   .rcases J x C with h' | h'
    .exact l x h'
    .exact s.nm k x<|List.mem_reverse.mp h'
   .rw[K]at hd;have:=b d hd;lia
 | either n a p q m=>
  have hz:p.size+q.size<=80:=hz;have h':Wf G {S with rd:=S.rd+1} (dn+1):=Wf.more ⟨h.td,h.sz,h.lg,h.hl,h.hn,h.ts,h.ds⟩;show Wf G (Rs.push {S with rd:=S.rd+1} (if S.pick G=0 then p else q) m) _;refine h'.push (by split <;> lia) m ?_;have:=h.td;show S.td.length+80<=_;lia
 | again n a p m=>
  have h':Wf G {S with rd:=S.rd+1} (dn+1):=Wf.more ⟨h.td,h.sz,h.lg,h.hl,h.hn,h.ts,h.ds⟩;refine Wf.pushN hz m _ _ h' ?_;have L:(min (S.pick G) 9).toNat<=9:=by lia
  have:=h.td;show S.td.length+_<=_;lia
inductive KU(Y:Ry)(vs:List V)(H:Hp)(Q:VK):Prop
 | mk(R:Rx Y)(rn:Addr)(A:Ra)(S S':Rs)(dn:Nat)(mo:Int)(e:Str)(v:V)(h1:vs=[.ref rn,.int mo])(h2:RunAt R H rn A S dn)(h3:Wf R.G S dn)(h4:mX R)(h5:Pz R.G)(h6:dn<=mo.toNat)(h7:mo<=2000)(t:Rn R.G mo.toNat dn S S' e v)(q:∀A' H' l dn',RunAt R H' rn A' S' dn'->Im Y.C H H'->H' l=some (.tup [.str e,v])->Q (.ref l) H')
def rD(Y:Ry):Sp:=λvs H Q _=>KU Y vs H Q
inductive IK{Y:Ry}(R:Rx Y)(H:Hp)(rn:Addr)(mo:Int)(S':Rs)(e:Str)(v:V)(c:Nat)(σ:St)(Hx:Hp):Prop
 | mk(x y:Option V)(A:Ra)(S:Rs)(dn:Nat)(h1:σ=[some<|.ref rn,some<|.int mo,x,y])(h2:RunAt R Hx rn A S dn)(h3:Im Y.C H Hx)(h4:Wf R.G S dn)(h5:dn<=mo.toNat)(h6:Rn R.G mo.toNat dn S S' e v)(h7:mo.toNat-dn=c):IK R H rn mo S' e v c σ Hx
section
variable{Y:Ry}{mg:Str->Option Value}{base:Heap}{f:Addr}{fd:FuncData}
def yq6:bZ ["run","most","due","ending"] ["run","most"] (bR MV):=cC
def VQ{k:Nat}(F:Fun Y.K "run_on" "run_on" MV f fd)(Z:dH Y.K Y.C)(DR:aS Y.pr Y.w Y.K mg base k "do_row" ["run","due","most"] (KQ Y))(I:∃tk,mg "BACK"=some (.str "back" tk)):aR Y.pr Y.w Y.K mg base bQ (k+1) f fd ["run","most"] (rD Y):=by
 refine F.ok yq6 (λvs H Q E h=>?_) λab A outer s H vs Q E hr h=>?_
 .obtain⟨R,rn,A,S,L,dn,mo,e,v,rfl,_⟩:=h;rfl
 obtain⟨R,rn,A,S,L,dn,mo,e,v,rfl,h,j,hp,hz,N,hm,t,q⟩:=h;obtain⟨tB,I⟩:=I;exists _,aL (EN dJ (Cg (cS Z.r<|pv 0) λ_=>rfl)<|aL (sL 2 yq6.nd<|rB eE PySem.F.slot_list_pop PySem.F.type_list_pop rX<|cS Z.r<|pv 0)<|aQ<|cL (bY eZ (eT (cS Z.d<|pv 2) aN) (xE (v:=.str "back") rfl I ⟨_,rfl⟩)<|cE _) MA<|aL (sL 3 yq6.nd<|bB DR hr rfl<|aA (pv 0)<|aA (pv 2)<|aA (pv 1) aE)<|aQ<|cL (iL<|tH<|pv 3) (aQ<|bS<|bX<|aA (pv 3)<|aA (cS Z.d<|pv 2) aE) dD)
  (aQ<|bS<|bX<|aA bD<|aA iJ aE)
 ac_rfl
 have s2:2<=sizeLine:=cN (bG<|by decide);exists IK R H rn mo L e v,⟨_,_,_,A,S,dn,rfl,h,Im.refl,j,N,t,rfl⟩;rintro c σ W ⟨_,_,A,S,dn,rfl,h,f,j,N,t,rfl⟩;exists _,rfl,rn,_,_,_,rfl,h.run,rfl,_,.inl ⟨_,SqL.of h.to,rfl⟩;have i:=h.im.ud;cases hus:A.us with
 | nil=>
  have b:S.td=[]:=by
   rw[hus]at i;cases hud':S.td with
   | nil=>rfl
   | cons d r=>rw[hud']at i;cases i
  refine bE ⟨s2,λl hl=>?_⟩;cases t with
  | done _=>exact q A _ l dn (h.keep0<|FrS.new hl) (f.trans<|Im.new hl) zb1
  | long h' _=>rw[b]at h';cases h'
  | stop h' _ _=>rw[b]at h';cases h'
  | go h' _ _ _=>rw[b]at h';cases h'
 | cons u us=>
  obtain⟨d,r,b⟩:∃d r,S.td=d::r:=by
   rw[hus]at i;cases hud':S.td with
   | nil=>rw[hud']at i;cases i
   | cons d r=>exact⟨d,r,rfl⟩
  have g:=h.pop b hus;have hb:(!((u::us).reverse.map V.ref).isEmpty)=true:=by simp
  rw[hb];refine cH ⟨λσ' H'=>∃c',c'<mo.toNat-dn/\IK R H rn mo L e v c' σ' H',λσ' H' z=>z,?_⟩;have P:W A.to=some (.lst<|us.reverse.map V.ref++[V.ref u]):=by
   have:=h.to;rw[hus,DF,bN]at this;exact this
  have X:(us.reverse.map V.ref++[V.ref u])[↑(us.reverse.map V.ref++[V.ref u])-1]?=some (V.ref u):=by
   rw[bH,dU,FC,kN<|aW _,xD];rfl
  exists _,rfl,rn,_,_,_,rfl,h.run,rfl,.inl ⟨rfl,_,SqL.of P⟩,A.to,_,.ref u,rfl,rfl,P,X;rw[List.dropLast_concat];obtain⟨g,M,hd⟩:=g;generalize upd W A.to (.lst<|us.reverse.map V.ref)=H1 at g M hd;have x:=f.trans M;obtain⟨dx,a,p,na,rest,J,ha⟩:=hd.hd;exists _,rfl,u,_,_,_,rfl,J,rfl,a,_,_,_,rfl,rfl,SqT.of ha,fK _ _,rfl,_,rfl;have O:=j.pop b;have a8:=O.bd (by lia);have a9:d.wd≠"back":=by
   cases d with
   | op n a r m=>cases r <;> (simp only[Du.wd,Rw.wd];rfl')
   | either n a p q m=>simp only[Du.wd];rfl'
   | again n a p m=>simp only[Du.wd];rfl'
  refine bI (λc=>absurd (V.str.inj<|cQ c) a9) λ_=>?_;have hsz:=j.sz d (by rw[b];exact .head _);refine⟨_,rfl,_,rfl,_,rfl,R,rn,u,A.pop us,S.pop r,dn,mo,d,rfl,g,hd,hsz,a8,hp,λa7=>?_,λac A' H2 o B=>?_⟩
  .refine⟨_,rfl,_,rfl,bI (λ_=>⟨_,rfl,_,rfl,u,_,_,_,rfl,J,rfl,s2,λl hl=>?_⟩) λc=>absurd rfl c⟩;cases t with
   | done h'=>rw[b]at h';cases h'
   | long h' _=>
    rw[b]at h';cases h';exact q _ _ l dn (g.keep0<|FrS.new hl) (x.trans<|Im.new hl) zb1
   | stop h' hl' z=>lia
   | go h' hl' z t'=>lia
  .have aa:=B _ _ J Y.nd;cases t with
   | done h'=>rw[b]at h';cases h'
   | long h' hl'=>lia
   | stop h' hl' z=>
    rw[b]at h';cases h';rw[show doR R.G (S.pop r) d=_ from z]at o ⊢;refine⟨_,rfl,_,rfl,cH ⟨_,rfl,_,rfl,u,_,_,_,rfl,aa,rfl,s2,λl hl=>?_⟩⟩;exact q _ _ l (dn+1) (o.keep0<|FrS.new hl) ((x.trans B).trans<|Im.new hl) zb1
   | @go _ _ S1 _ _ _ _ _ h' hl' z t'=>
    rw[b]at h';cases h';have T:=O.doR (d:=d) hz hsz;rw[show doR R.G (S.pop r) d=_ from z]at o ⊢;rw[z]at T;exact⟨_,rfl,_,rfl,bE ⟨mo.toNat-(dn+1),by lia,_,_,A',S1,dn+1,rfl,o,x.trans B,T,hl',t',rfl⟩⟩
end
inductive Ly(Z:Str->Option Str->Prop)(H:Hp):Nat->Nat->List Addr->LL->Nat->Prop
 | nil {n k:Nat}:Ly Z H n k [] .nil k
 | op {n k k':Nat} {a:Addr} {r:Rw} {rs:List Addr} {L:LL} (h:H a=some (.tup r.vs)) (hb:∀x,r=.bring x->Z x none) (t:Ly Z H n (k+1) rs L k'):Ly Z H n k (a::rs) (.op k a r L) k'
 | again {n k k1 k':Nat} {a l:Addr} {rs1 rs:List Addr} {L1 L:LL} (h:H a=some (.tup [.str "again",.ref l])) (hl:H l=some (.tup<|rs1.map V.ref)) (s:Ly Z H n (k+1) rs1 L1 k1) (t:Ly Z H (n+1) k1 rs L k'):Ly Z H (n+1) k (a::rs) (.again k a L1 L) k'
 | either {n k k1 k2 k':Nat} {a l1 l2:Addr} {rs1 rs2 rs:List Addr} {L1 L2 L:LL} (h:H a=some (.tup [.str "either",.ref l1,.ref l2])) (h1:H l1=some (.tup<|rs1.map V.ref)) (h2:H l2=some (.tup<|rs2.map V.ref)) (s1:Ly Z H n (k+1) rs1 L1 k1) (s2:Ly Z H n k1 rs2 L2 k2) (t:Ly Z H (n+1) k2 rs L k'):Ly Z H (n+1) k (a::rs) (.either k a L1 L2 L) k'
def Ly.keep(h:Ly Z H n k rs L k')(f:Tup H H'):Ly Z H' n k rs L k':=by
 induction h with
 | nil=>exact .nil
 | op h hb _ ih=>exact .op (f _ _ h) hb ih
 | again h hl _ _ i1 i2=>exact .again (f _ _ h) (f _ _ hl) i1 i2
 | either h h1 h2 _ _ _ i1 i2 i3=>exact .either (f _ _ h) (f _ _ h1) (f _ _ h2) i1 i2 i3
def Ly.len(h:Ly Z H n k rs L k'):k'=k+L.size:=by
 induction h with
 | nil=>rfl
 | op h hb _ ih=>simp only[LL.size];lia
 | again h hl _ _ i1 i2=>simp only[LL.size];lia
 | either h h1 h2 _ _ _ i1 i2 i3=>simp only[LL.size];lia
def Ly.rl(h:Ly Z H n k rs L k'):k+↑rs<=k':=by
 induction h with
 | nil=>exact aW _
 | op h hb _ ih=>rw[cJ];lia
 | again h hl _ _ i1 i2=>rw[cJ];lia
 | either h h1 h2 _ _ _ i1 i2 i3=>rw[cJ];lia
def Fl.ly(e:∀k d,¬Z k (some d))(h:Fl Z H n rs fs):∀k,∃L,Ly Z H n k rs L (k+↑fs):=by
 induction h with
 | nil=>exact λk=>⟨_,.nil⟩
 | @one n a rs fs h _ ih=>
  intro k;obtain⟨L,t⟩:=ih<|k+1;rw[cJ,show k+(↑fs+1)=k+1+↑fs by lia];rcases h with ⟨r,h,hb⟩ | ⟨x,y,q,d,g,as,h,hg,hl,hz⟩
  .exact⟨_,.op h hb t⟩
  .exact absurd hz<|e _ _
 | @again n a l rs1 fs1 rs fs h hl _ _ i1 i2=>
  intro k;obtain⟨i,b⟩:=i1<|k+1;obtain⟨L,t⟩:=i2<|k+1+↑fs1;rw[cJ,bH,show k+(↑fs1+↑fs+1)=k+1+↑fs1+↑fs by lia];exact⟨_,.again h hl b t⟩
 | @either n a l1 l2 rs1 fs1 rs2 fs2 rs fs h h1 h2 _ _ _ i1 i2 i3=>
  intro k;obtain⟨i,b⟩:=i1<|k+1;obtain⟨j,f⟩:=i2<|k+1+↑fs1;obtain⟨L,t⟩:=i3<|k+1+↑fs1+↑fs2;rw[cJ,bH,bH,show k+(↑fs1+(↑fs2+↑fs)+1)=k+1+↑fs1+↑fs2+↑fs by lia];exact⟨_,.either h h1 h2 b f t⟩
def LL.app:LL->LL->LL
 | .nil,M=>M
 | .op n a r t,M=>.op n a r<|t.app M
 | .either n a p q t,M=>.either n a p q<|t.app M
 | .again n a p t,M=>.again n a p<|t.app M
theorem Ens.app(h:Ens Z H L es)(g:Ens Z H M fs):Ens Z H (L.app M) (es++fs):=by
 induction h with
 | nil=>exact g
 | op h hr hb _ ih=>exact .op h hr hb ih
 | either h hp hr h1 h2 s1 s2 _ _ _ ih=>exact .either h hp hr h1 h2 s1 s2 ih
 | again h hp hr h1 s1 _ _ ih=>exact .again h hp hr h1 s1 ih
def OA(L:LL):L.app .nil=L:=by
 induction L with
 | nil=>rfl
 | op n a r t ih=>exact cF (LL.op n a r) ih
 | either n a p q t _ _ ih=>exact cF (LL.either n a p q) ih
 | again n a p t _ ih=>exact cF (LL.again n a p) ih
def NP(M N:LL)(L:LL):(L.app M).app N=L.app (M.app N):=by
 induction L with
 | nil=>rfl
 | op n a r t ih=>exact cF (LL.op n a r) ih
 | either n a p q t _ _ ih=>exact cF (LL.either n a p q) ih
 | again n a p t _ ih=>exact cF (LL.again n a p) ih
inductive Af(Z:Str->Option Str->Prop)(H:Hp)(n k:Nat)(a:Addr)(rs:List Addr)(L:LL)(k':Nat):Prop
 | mk(w:Str)(rest:List V)(ls:List (Addr×List Addr×LL×Nat×Nat))(k1:Nat)(Lr:LL)(M:LL)(h1:H a=some (.tup<|.str w::rest))(h2:iP w rest=ls.map λz=>V.ref z.1)
  (h3:∀z∈ls,H z.1=some (.tup<|z.2.1.map V.ref)/\∃n',n=n'+1/\Ly Z H n' z.2.2.2.1 z.2.1 z.2.2.1 z.2.2.2.2) (h4:∀(i:Nat) z,ls[i]?=some z->z.2.2.2.1=(if i=0 then k+1 else((ls[i-1]?).map λy=>y.2.2.2.2).getD 0)) (h5:k1=((ls.getLast?).map λy=>y.2.2.2.2).getD (k+1)) (h6:↑ls<=2)
  (h7:L=M.app Lr) (h8:∀(e p:Addr)(ts:List Addr)(H':Hp),Tup H H'->H' e=some (.tup [.int k,.ref a,.ref p])->H' p=some (.tup<|ts.map V.ref)->A2 (λz t=>∃es:List Addr,H' t=some (.tup<|es.map V.ref)/\Ens Z H' z.2.2.1 es) ls ts->Ens Z H' M [e]) (h9:Ly Z H n k1 rs Lr k')
theorem Ly.hd(h:Ly Z H n k (a::rs) L k'):Af Z H n k a rs L k':=by
 cases h with
 | @op _ _ _ _ r _ L h hb t=>
  obtain⟨rest,e⟩:=r.hd;have q:¬(r.wd="either"\/r.wd="again"):=by cases r <;> (simp only[Rw.wd];rfl')
  refine⟨r.wd,rest,[],k+1,L,.op k a r .nil,by rw[h,e],by unfold iP;rw[aZ q];rfl,(λz hz=>nomatch hz),(λi z hz=>nomatch hz),rfl,bM _,rfl,λm p ts H' f he hp b=>?_,t⟩;cases b;exact .op he (f _ _ h) hb .nil
 | @again n _ k1 _ _ l rs1 _ L1 L h hl s t=>
  refine⟨"again",_,[(l,rs1,L1,k+1,k1)],k1,L,.again k a L1 .nil,h,by unfold iP;rw[bC<|.inr rfl];rfl,λz hz=>?_,λi z hz=>?_,rfl,by first | (show 1<=2;decide) | (show 2<=2;decide),rfl,λm p ts H' f he hp b=>?_,t⟩
  .rw[wq1.mp hz];exact⟨hl,n,rfl,s⟩
  .cases i with
   | zero=>cases hz;rfl
   | succ i=>cases hz
  .cases b with
   | cons r tl=>
    cases tl;obtain⟨es,j,d⟩:=r;exact .again he hp (f _ _ h) j d .nil
 | @either n _ k1 k2 _ _ l1 l2 rs1 rs2 _ L1 L2 L h h1 h2 s1 s2 t=>
  refine⟨"either",_,[(l1,rs1,L1,k+1,k1),(l2,rs2,L2,k1,k2)],k2,L,.either k a L1 L2 .nil,h,by unfold iP;rw[bC<|.inl rfl];rfl,λz hz=>?_,λi z hz=>?_,rfl,by first | (show 1<=2;decide) | (show 2<=2;decide),rfl,λm p ts H' f he hp b=>?_,t⟩
  .rcases wp9.mp hz with rfl | hz
   .exact⟨h1,n,rfl,s1⟩
   .rw[wq1.mp hz];exact⟨h2,n,rfl,s2⟩
  .match i,hz with
   | 0,hz=>cases hz;rfl
   | 1,hz=>cases hz;rfl
  .cases b with
   | cons r tl=>
    cases tl with
    | cons r2 tl=>
     cases tl;obtain⟨es,j,d⟩:=r;obtain⟨w,o,u⟩:=r2;exact .either he hp (f _ _ h) j o d u .nil
abbrev Lt:=Addr×List Addr×LL×Nat×Nat
inductive JE(n:Nat)(vs:List V)(H:Hp)(Q:VK):Prop
 | mk(Z:Str->Option Str->Prop)(bd l fd:Addr)(rs es:List Addr)(L:LL)(k':Nat)(h1:vs=[.ref bd,.ref l,.ref fd])(h2:H l=some (.tup<|rs.map V.ref))(h3:Ly Z H n ↑es rs L k')(h4:H fd=some (.lst<|es.map V.ref))(h5:k'<=1000000)
  (h6:∀(x:Addr)(xs ns:List Addr)(H':Hp),FrS [fd] H H'->H' fd=some (.lst<|(es++ns).map V.ref)->↑(es++ns)=k'->H' x=some (.tup<|xs.map V.ref)->Ens Z H' L xs->Q (.ref x) H')
def kS(n:Nat):Sp:=λvs H Q _=>JE n vs H Q
def nQ:Nat->Sp
 | 0=>λ_ _ _ _=>False
 | n+1=>kS n
inductive WQ(Z:Str->Option Str->Prop)(n:Nat)(H:Hp)(bd l fd tl:Addr)(rs es:List Addr)(L:LL)(k' i:Nat)(σ:St)(Hx:Hp):Prop
 | mk(a b:Option V)(ts ns:List Addr)(L1 L2:LL)(hσ:σ=[some<|.ref bd,some<|.ref l,some<|.ref fd,some<|.ref tl,a,b])(fr:FrS [fd] H Hx)(hf:Hx fd=some (.lst<|(es++ns).map V.ref))(ht:Hx tl=some (.lst<|ts.map V.ref))(hn:↑ts<=i)(he:L=L1.app L2)(hl:Ly Z Hx n ↑(es++ns) (rs.drop i) L2 k')(hE:Ens Z Hx L1 ts)
def tL(k:Nat)(ls:List Lt)(j:Nat):Nat:=if j=0 then k+1 else((ls[j-1]?).map λy=>y.2.2.2.2).getD 0
inductive Db(Z:Str->Option Str->Prop)(k:Nat)(H1 H2:Hp)(bd fd Dl:Addr)(es:List Addr)(ls:List Lt)(j:Nat)(σ:St)(Hx:Hp):Prop
 | mk(a:Option V)(zs ns:List Addr)(hσ:σ=[a,some<|.ref bd,some<|.ref fd])(fr:FrS [fd] H1 Hx)(tp:Tup H2 Hx)(hf:Hx fd=some (.lst<|(es++ns).map V.ref))(hc:↑(es++ns)=tL k ls j)(hD:Hx Dl=some (.lst<|zs.map V.ref))(hE:A2 (λ(z:Lt) t=>∃es:List Addr,Hx t=some (.tup<|es.map V.ref)/\Ens Z Hx z.2.2.1 es) (ls.take j) zs)
def FrS.tup1(f:FrS [a] H H')(h:H a=some (.lst ys)):Tup H H':=FrS.tup f λb d xs e=>by
 have:b=a:=by simpa using d
 subst this;rw[h]at e;cases e
abbrev xG:List Str:=["body","rows","found"]
def scLy:bZ ["body","rows","found","told","row","number"] xG (bR vU):=cC
def pM{n k:Nat}(F:Fun K "lay" "lay" vU f fd)(WI:aS P w K mg base k "rows_within" ["row"] GI)(LA:aS P w K mg base k "lay" xG (nQ n))(ml:mg "len"=none)(b3:mg "tuple"=none):aR P w K mg base bQ (k+1) f fd xG (kS n):=by
 refine F.ok scLy (λvs H Q E h=>?_) λbw A outer s H vs Q E hr h=>?_
 .obtain⟨Z,bd,l,fl,rs,es,L,k',rfl,_⟩:=h;rfl
 obtain⟨Z,bd,l,fl,rs,es,L,k',rfl,hl,hF,aw,hb,q⟩:=h;have bk:(["inner","body","found"]:List Str).Nodup:=by rfl'
 exists _,aL (sL 3 scLy.nd<|cG aE)
  (aL (dZ dJ rfl (gC<|pv 1) (gL 4 scLy.nd) (aL (sL 5 scLy.nd<|eA iW rfl ml iR<|aA (pv 2) aE) (aL (dQ<|eP eE fI fJ fG (pv 2)<|aA (bX<|aA (pv 5)<|aA (pv 0)<|aA (pv 4) aE) aE) (aQ (dQ (eP eE fI fJ fG (pv 3) (aA (bX (aA (pv 5) (aA (pv 4) (aA (dS gH rfl b3 (by rfl') (aA (iE (N':=["inner","body","found"]) (src:=[none,some 0,some 2]) rfl eS (gC<|bB WI hr rfl<|aA (pv 4) aE)
     (g:=bW 0) (λ_ _ _ _=>gL 0 bk) (λ_ _ _ _=>gO)
     (te:=fL (nQ n) [] E0<|aY (aI 1)<|aY (aI 0)<|aY (aI 2) aX)
     (λ_ _ _ _=>bB LA hr rfl<|aA (pv 1)<|aA (pv 0)<|aA (pv 2) aE)) aE)) aE)))) aE)))))))
  (aQ<|bS<|dS gH rfl b3 (by rfl')<|aA (pv 3) aE))
 ac_rfl
 have s3:3<=sizeLine:=cN (bG<|by decide);refine⟨bM _,λtl aj=>?_⟩;have b7:Tup H (upd H tl<|.lst []):=Tup.new aj;have ai:fl≠tl:=aP aw aj;exists _,rfl,l,rfl,⟨_,SqT.of<|b7 _ _ hl⟩;refine kH (xs:=rs.map V.ref) (WQ Z n H bd l fl tl rs es L k') ⟨_,_,[],[],.nil,L,rfl,FrS.new aj,by rw[aC ai,fY];exact aw,zb1,aW _,rfl,by rw[fY];exact hF.keep b7,.nil⟩ ?_ ?_ ?_
 .rintro i σ C hi ⟨_,_,_,_,_,_,_,fr,_⟩;exact SqT.of<|fr.tup1 aw _ _ hl
 .rintro i x σ C r ⟨a0,b0,ts,b,L1,L2,rfl,fr,a8,ah,bt,rfl,I,hE⟩;rw[bO,wq8]at r;obtain⟨a,ha,rfl⟩:=r;obtain⟨hi,rfl⟩:=zz2.mp ha;rw[nT hi]at I;have al:=I.len;have bx:↑(es++b)+1<=k':=by
   cases I <;> simp only[LL.size]at al <;> lia
  obtain⟨w,rest,ls,k1,Lr,M,h1,h2,h3,h4,h5,h6,rfl,h8,h9⟩:=I.hd;generalize rs[i]=a at h1 h8;exists _,rfl,fl,_,rfl,.inl<|SqL.of a8;refine⟨_,rfl,.inl ⟨rfl,_,SqL.of a8⟩,_,rfl,_,rfl,_,rfl,s3,λd ad=>?_⟩;have ay:=(FrS.new (S:=[]) (o:=.tup [.int (↑((es++b).map V.ref):Nat),.ref bd,.ref a]) ad) _ _ aV a8;exists fl,_,_,rfl,rfl,ay,FK (by rw[aK];lia);have am:(↑((es++b).map V.ref):Nat)=↑(es++b):=List.length_map _;rw[am]at ay ⊢;have ar:(es++b).map V.ref++[V.ref d]=((es++(b++[d])).map V.ref):=by rw[<-gU,bN (l₂:=[d])];rfl
  rw[ar];have ab:Tup C (upd (upd C d<|.tup [.int (↑(es++b):Nat),.ref bd,.ref a]) fl<|.lst<|(es++(b++[d])).map V.ref):=(Tup.new ad).trans<|Tup.lst ay;have b6:FrS [fl] H (upd (upd C d<|.tup [.int (↑(es++b):Nat),.ref bd,.ref a]) fl<|.lst<|(es++(b++[d])).map V.ref):=(fr.trans<|FrS.new ad).put'<|.head _;have af:upd (upd C d<|.tup [.int (↑(es++b):Nat),.ref bd,.ref a]) fl (.lst<|(es++(b++[d])).map V.ref) tl=some (.lst<|ts.map V.ref):=by rw[aC<|bK ai,aC<|aP ah ad];exact ah
  have ak:upd (upd C d<|.tup [.int (↑(es++b):Nat),.ref bd,.ref a]) fl (.lst<|(es++(b++[d])).map V.ref) fl=some (.lst<|(es++(b++[d])).map V.ref):=zb1;generalize upd (upd C d<|.tup [.int (↑(es++b):Nat),.ref bd,.ref a]) fl (.lst<|(es++(b++[d])).map V.ref)=H1 at b6 af ak ab;have bl:=ab _ _ h1;refine⟨_,rfl,.inl ⟨rfl,_,SqL.of af⟩,_,rfl,_,rfl,_,rfl,a,w,rest,rfl,bl,λW b8=>⟨W,rfl,⟨_,SqT.of zb1⟩,λm Y=>?_⟩⟩;rw[h2];have N:FrS [] H1 (upd (upd H1 W<|.tup<|iP w rest) m<|.lst []):=(FrS.new b8).trans<|FrS.new Y;have aa:H1 m=none:=nX (FrS.new b8) Y;rw[h2]at N Y;have bc:fl≠m:=aP ak aa;have b4:upd (upd H1 W<|.tup<|ls.map λz=>V.ref z.1) m (.lst []) W=some (.tup<|ls.map λz=>V.ref z.1):=by rw[aC λz=>by rw[<-z,zb1]at Y;cases Y];exact zb1
  have b5:=N _ _ aV ak;have bf:=N _ _ aV af;have av:=Tup.of0 N;have b9:upd (upd H1 W<|.tup<|ls.map λz=>V.ref z.1) m (.lst []) m=some (.lst []):=zb1;generalize upd (upd H1 W<|.tup<|ls.map λz=>V.ref z.1) m (.lst [])=H2 at N b4 b5 bf av b9;have bm:∀z∈ls,H1 z.1=some (.tup<|z.2.1.map V.ref)/\∃J,n=J+1/\Ly Z H1 J z.2.2.2.1 z.2.1 z.2.2.1 z.2.2.2.2:=λz hz=>let ⟨x1,J,x2,x3⟩:=h3 z hz;⟨ab _ _ x1,J,x2,x3.keep ab⟩
  have as:∀z∈ls,z.2.2.2.2<=k':=λz hz=>by
   obtain⟨j,hj⟩:=wt5.mp hz;have bz:=h9.len;have c0:=(zz2.mp hj).1;have a5:∀(u:Lt),ls[↑ls-1]?=some u->u.2.2.2.2<=k':=λu hu=>by
    rw[HL,hu]at h5;have:k1=u.2.2.2.2:=h5;lia
   by_cases e:j=↑ls-1
   .exact a5 z (by rw[<-e];exact hj)
   .have bu:j+1=↑ls-1:=by lia
    have hu:ls[j+1]?=some ls[j+1]:=bF (by lia);have e4:=h4 (j+1) _ hu;rw[aZ (by lia),FC,hj]at e4;have e4:ls[j+1].2.2.2.1=z.2.2.2.2:=e4;obtain⟨_,J,_,bi⟩:=h3 _<|iT (by lia:j+1<↑ls);have:=bi.len;have:=a5 _ (by rw[<-bu];exact hu);lia
  refine uQ (xs:=ls.map λz=>V.ref z.1) (Db Z ↑(es++b) H1 H2 bd fl m (es++(b++[d])) ls) ⟨_,[],[],rfl,N.mono λ_ h=>absurd h aV,(λ_ _ h=>h),by rw[fY];exact b5,?_,b9,.nil⟩ ?_ ?_ ?_
  .show(es++(b++[d])++[]).length=↑(es++b)+1;rw[fY,<-gU,bH (bs:=[d])];rfl
  .rintro j σ G hj ⟨_,_,_,_,_,ty,_⟩;exact SqT.of<|ty _ _ b4
  .rintro j x σ G r ⟨x0,zs,O,rfl,fy,ty,ag,ae,az,T⟩;rw[bO,wq8]at r;obtain⟨z,hz,rfl⟩:=r;have b1:Tup H1 G:=av.trans ty;have ba:=cU hz;obtain⟨z1,J,rfl,z2⟩:=bm z ba;have bo:=h4 j z hz;have bj:↑(es++(b++[d])++O)=z.2.2.2.1:=ae.trans bo.symm;refine⟨_,rfl,_,rfl,_,rfl,Z,bd,z.1,fl,z.2.1,es++(b++[d])++O,z.2.2.1,z.2.2.2.2,rfl,b1 _ _ z1,by rw[bj];exact z2.keep b1,ag,by have:=as z ba;lia,λx xs nx Hz fz bg ap bq bh=>?_⟩;have bb:=fz _ _ (by simpa using bK bc) az;have au:=fz.tup1 ag;have X:Tup Hz (upd Hz m<|.lst<|zs.map V.ref++[.ref x]):=Tup.lst bb;have bv:↑zs<=2:=by rw[<-T.len,eM];lia
   exists _,bb,bG (by rw[aK];lia),_,zs++[x],O++nx,rfl,(fy.trans fz).put aa,(ty.trans au).trans X,by rw[aC bc,<-gU];exact bg,?_,by rw[zb1,bN];rfl
   .rw[<-gU,ap];show _=tL _ ls (j+1);unfold tL;rw[aZ (by lia),FC,hz];rfl
   .rw[fW,hz];exact(T.imp λ_ _ ⟨e,a1,a2⟩=>⟨e,(au.trans X) _ _ a1,a2.keep<|au.trans X⟩).snoc ⟨xs,X _ _ bq,bh.keep X⟩
  .rintro σ G ⟨x0,zs,O,rfl,fy,ty,ag,ae,az,T⟩;rw[aK]at ae T;rw[gA<|aW _]at T;refine⟨m,_,rfl,.inl ⟨SqL.of az,λpt bp=>⟨s3,λB be=>?_⟩⟩⟩;have bn:=fy _ _ (by simpa using bK ai) af;have fn:FrS [] G (upd (upd G pt<|.tup<|zs.map V.ref) B<|.tup [.int (↑(es++b):Nat),.ref a,.ref pt]):=(FrS.new bp).trans<|FrS.new be;have ao:=fn _ _ aV bn;have b2:=fn _ _ aV ag;have a6:upd (upd G pt<|.tup<|zs.map V.ref) B (.tup [.int (↑(es++b):Nat),.ref a,.ref pt]) B=some (.tup [.int (↑(es++b):Nat),.ref a,.ref pt]):=zb1;have a9:upd (upd G pt<|.tup<|zs.map V.ref) B (.tup [.int (↑(es++b):Nat),.ref a,.ref pt]) pt=some (.tup<|zs.map V.ref):=(Tup.new be) _ _ zb1;generalize upd (upd G pt<|.tup<|zs.map V.ref) B (.tup [.int (↑(es++b):Nat),.ref a,.ref pt])=H3 at fn ao b2 a6 a9;have ax:Tup H3 (upd H3 tl<|.lst<|ts.map V.ref++[.ref B]):=Tup.lst ao;have an:=(Tup.of0 fn).trans ax;have aq:Tup C (upd H3 tl<|.lst<|ts.map V.ref++[.ref B]):=ab.trans<|(av.trans ty).trans an;exists tl,_,_,rfl,rfl,ao,FK (by rw[aK];have:=hF.rl;lia);refine⟨_,_,ts++[B],b++[d]++O,L1.app M,Lr,rfl,((b6.trans fy).trans<|fn.mono λ_ h=>absurd h aV).put aj,by rw[aC ai,<-gU];exact b2,by rw[zb1,bN];rfl,by rw[bH,dU];lia,(NP _ _ _).symm,?_,(hE.keep aq).app<|h8 B pt zs _ aq (ax _ _ a6) (ax _ _ a9)<|T.imp λ_ _ ⟨e,a1,a2⟩=>⟨e,an _ _ a1,a2.keep an⟩⟩;have:↑(es++(b++[d]++O))=k1:=by
    rw[<-gU,ae,h5];unfold tL;rw[HL]
    split
    .rw[List.getElem?_eq_none<|by lia];rfl
    .have br:↑ls-1<↑ls:=by lia
     rw[bF br];rfl
   rw[this];exact h9.keep aq
 .rintro σ C ⟨a0,b0,ts,b,L1,L2,rfl,fr,a8,ah,bt,rfl,I,hE⟩;rw[aK,xF]at I;cases I;rw[OA]at q;refine⟨_,rfl,tl,_,rfl,.inl ⟨SqL.of ah,λx r=>?_⟩⟩;exact q x ts b _ (fr.trans<|FrS.new r) ((FrS.new (S:=[]) r) _ _ aV a8) rfl zb1<|hE.keep<|Tup.new r
abbrev JD:Stmt:=top 17
inductive LyB(Z:Str->Option Str->Prop)(H:Hp):Nat->List Bz->List LL->Nat->Prop
 | nil {k:Nat}:LyB Z H k [] [] k
 | cons {k k1 k':Nat} {z:Bz} {zs:List Bz} {L:LL} {Ls:List LL} (h:H z.2.2.1=some (.tup<|z.2.2.2.1.map V.ref)) (s:Ly Z H 4 k z.2.2.2.1 L k1) (hz:L.size<=80) (t:LyB Z H k1 zs Ls k'):LyB Z H k (z::zs) (L::Ls) k'
theorem LyB.keep(h:LyB Z H k zs Ls k')(f:Tup H H'):LyB Z H' k zs Ls k':=by
 induction h with
 | nil=>exact .nil
 | cons h s hz _ ih=>exact .cons (f _ _ h) (s.keep f) hz ih
theorem LyB.mk(e:∀k d,¬Z k (some d)):∀(zs:List Bz),(∀z∈zs,RowsIs Z H z.2)->∀k,∃b a,LyB Z H k zs b a/\a<=k+80*↑zs
 | [],_,k=>⟨[],k,.nil,aW _⟩
 | z::zs,h,k=>by
  obtain⟨h2,f,l⟩:=h z<|.head _;obtain⟨L,s⟩:=f.ly e k;obtain⟨b,a,t,j⟩:=LyB.mk e zs (λy i=>h y<|.tail _ i)<|k+↑z.2.2.2.2;have:=s.len;exact⟨L::b,a,.cons h2 s (by lia) t,by rw[cJ];lia⟩
def LyB.le(h:LyB Z H k zs Ls k'):k<=k':=by
 induction h with
 | nil=>exact aW _
 | cons h s hz _ ih=>have:=s.len;lia
def mY(l:List (Pr×LL))(n:Pr):LL:=l.foldl (λa z=>if z.1=n then z.2 else a) .nil
def Ce(l:List (Pr×LL))(z:Pr×LL)(n:Pr):mY (l++[z]) n=if z.1=n then z.2 else mY l n:=by
 unfold mY;rw[GD];rfl
theorem QX:∀(l:List (Pr×LL))(a:LL),a.size<=80->(∀z∈l,z.2.size<=80)->(l.foldl (λa z=>if z.1=n then z.2 else a) a).size<=80
 | [],a,ha,_=>ha
 | z::l,a,ha,h=>QX l _ (by show(if z.1=n then z.2 else a).size<=80;split;exact h z<|.head _;exact ha) λy b=>h y<|.tail _ b
def sE{K:Fq}{H H':Hp}{a b:Addr}{xs ys:List V}(f:FrS [a] H H')(d:H a=some (.lst ys))(h:SqT K H b xs):SqT K H' b xs:=by
 have ne:∀{o:HO},H b=some o->(∀z,o≠.lst z)->b∉[a]:=λe n z=>by
  rw[wq1.mp z,d]at e;cases e;exact n _ rfl
 rcases h with (h | ⟨o,h⟩) | h
 .exact .inl<|.inl<|f _ _ (ne h λz e=>nomatch e) h
 .exact .inl<|.inr ⟨o,f _ _ (ne h λz e=>nomatch e) h⟩
 .exact .inr h
inductive sK(P:Program)(w:World)(K:Fq)(vs:List V)(H:Hp)(Q:VK):Prop
 | mk(Z:Str->Option Str->Prop)(p:Addr)(ks:List (Str×List Dz))(m0:Dz)(Ls:List LL)(k':Nat)(h1:vs=[.ref p])(h2:ProgIs Z H p ks m0)(h3:LyB Z H 0 (dP ks m0) Ls k')(h4:k'<=1000000)
  (h5:∀(bo:Addr)(qs:List (Pr×Addr×Addr))(H':Hp),FrS [] H H'->H' bo=some (gS P w bo qs)->PvOk K H' qs->(∀z∈dP ks m0,z.1∈qs.map (·.1))->(∀q∈qs,∃es:List Addr,H' q.2.2=some (.tup<|es.map V.ref)/\Ens Z H' (mY (((dP ks m0).map (·.1)).zip Ls) q.1) es)->Q (.ref bo) H')
def KZ(P:Program)(w:World)(K:Fq):Sp:=λvs H Q _=>sK P w K vs H Q
inductive WR(Z:Str->Option Str->Prop)(P:Program)(w:World)(K:Fq)(H H1:Hp)(fd D:Addr)(zs:List Bz)(Ls:List LL)(k' i:Nat)(σ:St)(Hx:Hp):Prop
 | mk(x y:Option V)(ns:List Addr)(qs:List (Pr×Addr×Addr))(h1:σ=[x,y,some<|.ref fd])(h2:FrS [] H Hx)(h3:Tup H1 Hx)(h4:Hx fd=some (.lst<|ns.map V.ref))(h5:Hx D=some (gS P w D qs))(h6:PvOk K Hx qs)(h7:∀z∈zs.take i,z.1∈qs.map (·.1))(h8:∀q∈qs,∃es:List Addr,Hx q.2.2=some (.tup<|es.map V.ref)/\Ens Z Hx (mY ((zs.map (·.1)).zip Ls |>.take i) q.1) es)(h9:LyB Z Hx ↑ns (zs.drop i) (Ls.drop i) k')(h10:↑qs<=i)
def xz4:bZ ["program","found"] ["program"] (bR JD):=cC
def ZD{k:Nat}(F:Fun K "laid" "laid" JD f fd)(BO:aS P w K mg base k "bodies" qK (JZ K))(LA:aS P w K mg base k "lay" xG (kS 4)):aR P w K mg base bQ (k+1) f fd ["program"] (KZ P w K):=by
 refine F.ok xz4 (λvs H Q E h=>?_) λar A outer s H vs Q E hr h=>?_
 .obtain⟨Z,p,ks,m,j,k',rfl,_⟩:=h;rfl
 obtain⟨Z,p,ks,m,j,k',rfl,hP,hL,hk,q⟩:=h;have hu:=eC hr;have ac:(["body","rows","found"]:List Str).Nodup:=by rfl'
 exists _,aL (hI (i:=1) xz4.nd rfl (Or.inr rfl)<|cG aE)
  (aQ<|bS<|VC (hp:=Dd<|mF hu) (N':=["body","rows","found"]) (src:=[none,none,some 1]) rfl eS (gC<|bB BO hr rfl<|aA (pv 0) aE) (g:=eN K 2<|dW (bW 0)<|dW (bW 1) eO) (λ_ _ _ _=>eG (n:=2) rfl<|bL (gL 0 ac)<|bL (gL 1 ac) eK) (λ_ _ _ _=>gO) (λ_ _ _ _=>pv 0) (te:=fL (kS 4) [] E0<|aY (aI 0)<|aY (aI 1)<|aY (aI 2) aX) λ_ _ _ _=>bB LA hr rfl<|aA (pv 0)<|aA (pv 1)<|aA (pv 2) aE)
 ac_rfl
 refine⟨bM _,λfl a9=>?_⟩;have f0:FrS [] H (upd H fl<|.lst []):=FrS.new a9;refine⟨_,rfl,p,ks,m,rfl,hP.keep<|Tup.of0 f0,λb qs H1 X hb hA as=>?_⟩;have ae:=X _ _ aV<|zb1 (H:=H) (a:=fl) (o:=.lst []);refine⟨b,rfl,⟨_,SqT.of hb⟩,λD C=>?_⟩;have a7:D≠fl:=λz=>by rw[z,ae]at C;cases C
 have t1:Tup H1 (upd H1 D<|gS P w D []):=Tup.new C;have fD:FrS [] H (upd H1 D<|gS P w D []):=(f0.trans X).trans<|FrS.new C;have al:H D=none:=nX (f0.trans X) C;refine QW (xs:=qs.map V.ref) (WR Z P w K H H1 fl D (dP ks m) j k') ⟨_,_,[],[],rfl,fD,t1,by rw[aC<|bK a7];exact ae,zb1,(λq d=>nomatch d),(λz hz=>nomatch hz),(λq d=>nomatch d),hL.keep<|Tup.of0 fD,aW _⟩ ?_ ?_ ?_
 .rintro i σ Hx hi ⟨_,_,_,_,_,_,tx,_⟩;exact SqT.of<|tx _ _ hb
 .rintro i x σ Hx hx ⟨x0,y0,Y,ps,rfl,fx,tx,N,a6,ok,G,W,M,ag⟩;rw[bO,wq8]at hx;obtain⟨u,af,rfl⟩:=hx;obtain⟨z,hz,bd,d,am⟩:=hA.get af;have hi:=(zz2.mp hz).1;have aq:=nT hi;have ai:=(zz2.mp hz).2;rw[aq,ai]at M;generalize hLd:j.drop i=Ld at M;cases M with
  | @cons _ k1 _ _ _ L Lr h1 s1 hs tl=>
   have ap:j[i]?=some L:=by
    have:=cF (λl=>l[0]?) hLd;simpa using this
   exists u,_,rfl,SqT.of<|tx _ _ d,rfl,_,_,rfl,_,_,rfl,rfl;refine⟨_,rfl,_,rfl,_,rfl,_,rfl,Z,bd,z.2.2.1,fl,z.2.2.2.1,Y,L,k1,rfl,h1,s1,N,fX tl.le hk,λl xs nx H3 T ak a4 ao ah=>?_⟩;have I:=T.tup1 N;have a5:=T _ _ (by simpa using a7) a6;have ad:=(am.keep<|tx.trans I).sq;have ab:PvOk K H3 ps:=λq d=>sE T N<|ok q d;have B:Tup H3 (upd H3 D<|gS P w D<|gT ps z.1 bd l):=λc xs e=>by rw[aC λy=>by rw[y,a5]at e;cases e];exact e
   have k4:∀{c:Addr}{xs:List V},SqT K H3 c xs->SqT K (upd H3 D<|gS P w D<|gT ps z.1 bd l) c xs:=λh=>by
    have ne:∀{c:Addr}{o:HO},H3 c=some o->(∀φ,o≠.ext φ)->c≠D:=λe n y=>by
     rw[y,a5]at e;cases e;exact n _ rfl
    rcases h with (h | ⟨o,h⟩) | h
    .exact .inl (.inl<|by rw[aC<|ne h λ_ e=>nomatch e];exact h)
    .exact .inl<|.inr ⟨o,by rw[aC<|ne h λ_ e=>nomatch e];exact h⟩
    .exact .inr h
   have a8:((((dP ks m).map (·.1)).zip j).take<|i+1)=(((dP ks m).map (·.1)).zip j).take i++[(z.1,L)]:=by
    have:(((dP ks m).map (·.1)).zip j)[i]?=some (z.1,L):=by rw[EM];exact⟨by rw[bO,hz];rfl,ap⟩
    rw[fW,this];rfl
   have aa:i<1000:=by
    have:=(zz2.mp af).1;lia
   refine⟨ps,bd,z.1,l,rfl,rfl,a5,ab,ad,bG (by lia),_,_,Y++nx,gT ps z.1 bd l,rfl,?_,(tx.trans I).trans B,by rw[aC<|bK a7];exact ak,zb1,λq d=>k4<|(ab.put ad) q d,λy r=>?_,λq d=>?_,?_,by have:=QV (qs:=ps) (n:=z.1) (b:=bd) (l:=l);lia⟩
   .intro c o _ e;have hc:c≠D:=aP e al;rw[aC hc];exact T _ _ (by simpa using (aP e a9))<|fx _ _ aV e
   .have J:z.1∈(gT ps z.1 bd l).map (·.1)/\∀n∈ps.map (·.1),n∈(gT ps z.1 bd l).map (·.1):=by
     unfold gT
     split
     .have e:(ps.map λq=>if q.1=z.1 then(q.1,q.2.1,l) else q).map (·.1)=ps.map (·.1):=by
       rw[kX];refine AS λq _=>?_;show(if q.1=z.1 then(q.1,q.2.1,l) else q).1=q.1
       split <;> rfl
      rw[e];exact⟨‹_›,λ_ h=>h⟩
     .rw[bN];exact⟨gM _<|.head _,λ_ h=>sN _ h⟩
    rw[fW,hz]at r;rcases wr7.mp r with r | r
    .exact J.2 _<|G y r
    .have:y=z:=by simpa using r
     rw[this];exact J.1
   .rw[a8,Ce];have old:∀q∈ps,q.1≠z.1->∃es:List Addr,upd H3 D (gS P w D<|gT ps z.1 bd l) q.2.2=some (.tup<|es.map V.ref)/\Ens Z (upd H3 D<|gS P w D<|gT ps z.1 bd l) (if z.1=q.1 then L else mY ((((dP ks m).map (·.1)).zip j).take i) q.1) es:=λq d an=>by
     obtain⟨es,e1,O⟩:=W q d;rw[aZ<|bK an];exact⟨es,(I.trans B) _ _ e1,O.keep<|I.trans B⟩
    have new:∃es:List Addr,upd H3 D (gS P w D<|gT ps z.1 bd l) l=some (.tup<|es.map V.ref)/\Ens Z (upd H3 D<|gS P w D<|gT ps z.1 bd l) L es:=⟨xs,B _ _ ao,ah.keep B⟩;unfold gT at d
    split at d
    .obtain⟨y,r,rfl⟩:=wr2.mp d
     by_cases c:y.1=z.1
     .rw[bC c];show ∃es:List Addr,_/\Ens Z _ (if z.1=y.1 then L else _) es;rw[bC c.symm];exact new
     .rw[aZ c];exact old y r c
    .rcases wr7.mp d with d | d
     .exact old q d λc=>absurd (wr2.mpr ⟨q,d,c⟩) ‹_›
     .rw[wq1.mp d];show ∃es:List Addr,_/\Ens Z _ (if z.1=z.1 then L else _) es;rw[bC rfl];exact new
   .have aj:j.drop (i+1)=Lr:=by
     have:=cF (List.drop 1) hLd;rw[List.drop_drop]at this;exact this
    rw[aj,a4];exact tl.keep<|I.trans B
 .rintro σ Hx ⟨x0,y0,Y,ps,rfl,fx,tx,N,a6,ok,G,W,M,ag⟩;have aa:↑(dP ks m)=↑qs:=hA.len.symm;rw[aK,<-aa]at G W;rw[gA<|aW _]at G;refine q D ps Hx fx a6 ok G λq d=>?_;obtain⟨es,e1,O⟩:=W q d;rw[gA<|by rw[List.length_zip,aK];exact Nat.min_le_left _ _]at O;exact⟨es,e1,O⟩
abbrev MB:Stmt:=GT 28
def hr0(tr:Tr)(late:List Str):List Str:=(tr.map (·.1)).filter λx=>decide<|x∉late
inductive sG(Y:Ry)(vs:List V)(H:Hp)(Q:VK):Prop
 | mk(Z:Str->Option Str->Prop)(x dx p md ch:Addr)(ks:List (Str×List Dz))(m0:Dz)(tr:Tr)(late:List Str)(Ls:List LL)(k':Nat)(h1:vs=[.ref x,.ref p,.ref md,.ref ch])(h2:H x=some (.ins Y.C.rn dx []))(h3:H md=some (.tup []))(h4:ProgIs Z H p ks m0)(h5:KindsAt H p tr)(h6:LateAt H p tr late)(h7:↑tr<=12)(h8:LyB Z H 0 (dP ks m0) Ls k')(h9:k'<=1000000)
  (q:∀(fo bo he to lo:Addr)(qs:List (Pr×Addr×Addr))(H':Hp),FrS [x] H H'->H' x=some (.ins Y.C.rn dx<|rF p ⟨dx,md,fo,bo,ch,he,to,lo,[],[],[],[]⟩ 0 0 0 0)->H' fo=some (.dK [])->H' he=some (.lst<|(hr0 tr late).map V.str)->H' to=some (.lst [])->H' lo=some (.lst [])->(∀b∈[fo,he,to,lo],H b=none)->[fo,he,to,lo].Nodup-> H' bo=some (gS Y.pr Y.w bo qs)->PvOk Y.K H' qs->(∀z∈dP ks m0,z.1∈qs.map (·.1))->(∀q∈qs,∃es:List Addr,H' q.2.2=some (.tup<|es.map V.ref)/\Ens Z H' (mY (((dP ks m0).map (·.1)).zip Ls) q.1) es)->Q .non H')
def GC(Y:Ry):Sp:=λvs H Q _=>sG Y vs H Q
abbrev wN:List Str:=["self","program","made","choices"]
def CQ{Q:St->Hp->Prop}{σ:St}{H H':Hp}(h:Q σ H')(e:H=H':=by rfl):Q σ H:=by rw[e];exact h
def zS{t:TE}{σ:St}{Q:VK}{H H':Hp}(h:t σ H' Q)(e:H=H':=by rfl):t σ H Q:=by rw[e];exact h
inductive Dt(H1:Hp)(Dl p:Addr)(ns late:List Str)(i:Nat)(σ:St)(Hx:Hp):Prop
 | mk(x y z:Option V)(hσ:σ=[x,y,z,some<|.ref p])(fr:FrS [] H1 Hx)(hD:Hx Dl=some (.lst<|((ns.take i).filter λx=>decide<|x∉late).map V.str))
section
variable{Y:Ry}{mg:Str->Option Value}{base:Heap}{f:Addr}{fd:FuncData}
def tS:bZ wN wN (bR MB):=cC
def ZL{k:Nat}(F:Fun Y.K "__init__" "Run.__init__" MB f fd)(Z:dH Y.K Y.C)(FO:aS Y.pr Y.w Y.K mg base k "forms_of" ["made"] EZ)(LD:aS Y.pr Y.w Y.K mg base k "laid" ["program"] (KZ Y.pr Y.w Y.K)):aR Y.pr Y.w Y.K mg base bQ (k+1) f fd wN (GC Y):=by
 refine F.ok tS (λvs H Q E h=>?_) λb5 A outer s H vs Q E hr h=>?_
 .obtain⟨Z,x,dx,p,md,ch,ks,m0,tr,a,Ls,k',rfl,_⟩:=h;rfl
 obtain⟨Z',x,dx,p,md,ch,ks,m0,tr,a,Ls,k',rfl,hx,b0,hP,hK,az,b1,hL,hk,q⟩:=h;have ah:(["name","elder","deeds","program"]:List Str).Nodup:=by rfl'
 exists _,aL (gE Z.r (pv 0)<|pv 1)<|aL (gE Z.r (pv 0)<|pv 2)<|aL (gE Z.r (pv 0)<|bB FO hr rfl<|aA (pv 2) aE)<|aL (gE Z.r (pv 0)<|bB LD hr rfl<|aA (pv 1) aE)<|aL (gE Z.r (pv 0)<|pv 3)<|aL (gE Z.r (pv 0) aN)<|aL (gE Z.r (pv 0) aN)<|aL (gE Z.r (pv 0) aN)<|aL (gE Z.r (pv 0)<|iE (N':=["name","elder","deeds","program"]) (src:=[none,none,none,some 1]) rfl eS (gC<|eT (pv 1) aN) (g:=eN Y.K 3<|dW (bW 0)<|dW (bW 1)<|dW (bW 2) eO) (λ_ _ _ _=>eG (n:=3) rfl<|bL (gL 0 ah)<|bL (gL 1 ah)<|bL (gL 2 ah) eK) (tt:=iC<|dC (hV Y.K true) (aI 0)<|dC (dN Y.K) (aI 3)<|tC<|.int 1) (λ_ _ _ _=>sR<|bY (show cZ _ _ (hV Y.K true) from wF) (pv 0) (lQ (show lP _ (dN Y.K) from rP) (pv 3) aN λ_ _=>rfl) rfl) λ_ _ _ _=>pv 0)<|aL (gE Z.r (pv 0)<|cG aE)<|aL (gE Z.r (pv 0)<|cG aE)<|aQ<|gE Z.r (pv 0) aN
 ac_rfl
 refine⟨_,rfl,_,rfl,x,dx,_,rfl,hx,by decide,_,rfl,_,rfl,x,dx,_,rfl,zb1,by show 1<1000;decide,?_⟩;rw[gF];have nx:∀{b:Addr},H b=none->b∉[x]:=λh z=>by rw[wq1.mp z,hx]at h;cases h
 have O:∀{G N:Hp}(o:HO),FrS [] G N->FrS [x] G (upd N x o):=λo f=>(f.mono λ_ h=>absurd h aV).put'<|.head _;have tx:∀{G N:Hp}{fs:List (Str×V)},G x=some (.ins Y.C.rn dx fs)->FrS [x] G N->Tup G N:=λe f b xs h=>f b _ (λz=>by rw[wq1.mp z,e]at h;cases h) h
 have c1:FrS [x] H (upd H x<|.ins Y.C.rn dx<|cK "made" (.ref md)<|cK "program" (.ref p) []):=FrS.chg<|.head _;have x1:upd H x (.ins Y.C.rn dx<|cK "made" (.ref md)<|cK "program" (.ref p) []) x=some (.ins Y.C.rn dx [("program",.ref p),("made",.ref md)]):=zb1;generalize upd H x (.ins Y.C.rn dx<|cK "made" (.ref md)<|cK "program" (.ref p) [])=X at c1 x1;have t1:=tx hx c1;refine⟨_,rfl,md,rfl,t1 _ _ b0,λfo I=>⟨_,rfl,x,dx,_,rfl,(FrS.new (S:=[]) I) _ _ aV x1,by show 2<1000;decide,?_⟩⟩;have B:H fo=none:=by
  cases e:H fo with
  | none=>rfl
  | some o=>
   by_cases z:fo=x
   .rw[z,x1]at I;cases I
   .rw[c1 _ _ (by simpa using z) e]at I;cases I
 have c2:=O (.ins Y.C.rn dx [("program",.ref p),("made",.ref md),("forms",.ref fo)])<|FrS.new (S:=[]) (o:=.dK []) I;have x2:upd (upd X fo<|.dK []) x (.ins Y.C.rn dx [("program",.ref p),("made",.ref md),("forms",.ref fo)]) x=some (.ins Y.C.rn dx [("program",.ref p),("made",.ref md),("forms",.ref fo)]):=zb1;have o2:upd (upd X fo<|.dK []) x (.ins Y.C.rn dx [("program",.ref p),("made",.ref md),("forms",.ref fo)]) fo=some (.dK []):=(aC<|by simpa using nx B).trans zb1;refine CQ (H':=upd (upd X fo<|.dK []) x<|.ins Y.C.rn dx [("program",.ref p),("made",.ref md),("forms",.ref fo)]) ?_;generalize upd (upd X fo<|.dK []) x (.ins Y.C.rn dx [("program",.ref p),("made",.ref md),("forms",.ref fo)])=G2 at c2 x2 o2 ⊢;have t2:=t1.trans<|tx x1 c2;refine⟨_,rfl,Z',p,ks,m0,Ls,k',rfl,hP.keep t2,hL.keep t2,hk,λbo qs m f3 al hok aw ax=>⟨_,rfl,x,dx,_,rfl,f3 _ _ aV x2,by show 3<1000;decide,?_⟩⟩;refine⟨_,rfl,_,rfl,x,dx,_,rfl,zb1,by show 4<1000;decide,_,rfl,x,dx,_,rfl,zb1,by show 5<1000;decide,_,rfl,x,dx,_,rfl,zb1,by show 6<1000;decide,_,rfl,x,dx,_,rfl,zb1,by show 7<1000;decide,?_⟩;rw[gF,gF,gF,gF];have T:=O (.ins Y.C.rn dx [("program",.ref p),("made",.ref md),("forms",.ref fo),("bodies",.ref bo),("choices",.ref ch),("many_read",.int 0),("many_done",.int 0),("under_way",.int 0)]) f3;have d3:FrS [x] m (upd m x<|.ins Y.C.rn dx [("program",.ref p),("made",.ref md),("forms",.ref fo),("bodies",.ref bo),("choices",.ref ch),("many_read",.int 0),("many_done",.int 0),("under_way",.int 0)]):=FrS.chg<|.head _;have x3:upd m x (.ins Y.C.rn dx [("program",.ref p),("made",.ref md),("forms",.ref fo),("bodies",.ref bo),("choices",.ref ch),("many_read",.int 0),("many_done",.int 0),("under_way",.int 0)]) x=some (.ins Y.C.rn dx [("program",.ref p),("made",.ref md),("forms",.ref fo),("bodies",.ref bo),("choices",.ref ch),("many_read",.int 0),("many_done",.int 0),("under_way",.int 0)]):=zb1;refine CQ (H':=upd m x<|.ins Y.C.rn dx [("program",.ref p),("made",.ref md),("forms",.ref fo),("bodies",.ref bo),("choices",.ref ch),("many_read",.int 0),("many_done",.int 0),("under_way",.int 0)]) ?_;generalize upd m x (.ins Y.C.rn dx [("program",.ref p),("made",.ref md),("forms",.ref fo),("bodies",.ref bo),("choices",.ref ch),("many_read",.int 0),("many_done",.int 0),("under_way",.int 0)])=G4 at T d3 x3 ⊢;have t4:=t2.trans<|tx x2 T;have aq:=(c1.trans c2).trans T;obtain⟨kt,ts,v1,v2,hp,am,a8,b3⟩:=hK.keepT t4;obtain⟨b8,lt,v3,ay,b2,b4,_,_⟩:=az.keep t4;refine⟨_,rfl,p,_,_,_,rfl,rfl,SqT.of hp,rfl,kt,rfl,⟨_,SqT.of am⟩,λhe ae=>?_⟩;have b7:↑(tr.map (·.1))<=12:=by rw[aK];exact b1
 refine uQ (xs:=ts.map V.ref) (Dt G4 he p (tr.map (·.1)) a) ⟨_,_,_,rfl,(FrS.refl).put ae,zb1⟩ ?_ ?_ ?_
 .rintro j σ Hy hj ⟨_,_,_,_,fr,_⟩;exact SqT.of<|fr _ _ aV am
 .rintro j x' σ Hy ak ⟨_,_,_,rfl,fr,au⟩;rw[bO,wq8]at ak;obtain⟨u,hu,rfl⟩:=ak;have hj:j<↑tr:=by rw[<-a8];exact(zz2.mp hu).1
  have hz:tr[j]?=some tr[j]:=bF hj;obtain⟨v,hv⟩:=b3 j u _ hu hz;generalize tr[j]=W at hz hv;have eF:((tr.map (·.1)).take<|j+1).filter (λx=>decide<|x∉a)=((tr.map (·.1)).take j).filter (λx=>decide<|x∉a)++[W.1].filter (λx=>decide<|x∉a):=by
   rw[fW,bO,hz,List.filter_append];rfl
  have b6:↑(((tr.map (·.1)).take j).filter λx=>decide<|x∉a)<=12:=by
   have h2:=uV (λx=>decide<|x∉a)<|(tr.map (·.1)).take j;rw[eM]at h2;lia
  exists u,_,rfl,SqT.of<|fr _ _ aV hv,rfl,_,_,rfl,_,_,rfl,_,_,rfl,rfl;exists _,rfl,_,rfl,p,_,_,_,rfl,rfl,SqT.of<|fr _ _ aV ay,rfl,lt,_,rfl,.inr<|SqT.of<|fr _ _ aV b2,rfl,jM _,_,rfl;show if (!iN (.str W.1) (a.map V.str))=true then _ else _
  rw[lJ];refine bI (λc=>?_) λc=>?_
  .have c:W.1∉a:=by simpa using c
   exists _,rfl,_,au,bG (by rw[aK];lia),_,_,_,rfl,fr.put ae;rw[zb1,eF,List.filter_cons_of_pos (by simpa using c),List.filter_nil,bN];rfl
  .have c:W.1∈a:=by simpa using c
   exists _,_,_,rfl,fr;rw[eF,List.filter_cons_of_neg (by simpa using c),List.filter_nil,fY];exact au
 rintro σ L ⟨_,_,_,rfl,f5,av⟩;rw[aK,a8,<-List.length_map (as:=tr) (f:=(·.1)),gA<|aW _]at av;have back:∀{G:Hp}{fs:List (Str×V)}{b:Addr},FrS [x] H G->G x=some (.ins Y.C.rn dx fs)->G b=none->H b=none:=λ{G fs b} c e h=>by
  cases z:H b with
  | none=>rfl
  | some o=>
   have n:b≠x:=λy=>by rw[y,e]at h;cases h
   rw[c _ _ (by simpa using n) z]at h;cases h
 have a1:=back aq x3 ae;have x5:=f5 _ _ aV x3;have ab:G4 fo=some (.dK []):=T _ _ (nx B) o2;have n1:fo≠he:=aP ab ae;refine⟨_,rfl,x,dx,_,rfl,x5,by show 8<1000;decide,bM _,λto l=>?_⟩;have c5:=O (.ins Y.C.rn dx [("program",.ref p),("made",.ref md),("forms",.ref fo),("bodies",.ref bo),("choices",.ref ch),("many_read",.int 0),("many_done",.int 0),("under_way",.int 0),("here",.ref he)]) f5;have x6:upd L x (.ins Y.C.rn dx [("program",.ref p),("made",.ref md),("forms",.ref fo),("bodies",.ref bo),("choices",.ref ch),("many_read",.int 0),("many_done",.int 0),("under_way",.int 0),("here",.ref he)]) x=some (.ins Y.C.rn dx [("program",.ref p),("made",.ref md),("forms",.ref fo),("bodies",.ref bo),("choices",.ref ch),("many_read",.int 0),("many_done",.int 0),("under_way",.int 0),("here",.ref he)]):=zb1;have a5:upd L x (.ins Y.C.rn dx [("program",.ref p),("made",.ref md),("forms",.ref fo),("bodies",.ref bo),("choices",.ref ch),("many_read",.int 0),("many_done",.int 0),("under_way",.int 0),("here",.ref he)]) he=some (.lst<|(hr0 tr a).map V.str):=(aC<|by simpa using nx a1).trans av;have l:upd L x (.ins Y.C.rn dx [("program",.ref p),("made",.ref md),("forms",.ref fo),("bodies",.ref bo),("choices",.ref ch),("many_read",.int 0),("many_done",.int 0),("under_way",.int 0),("here",.ref he)]) to=none:=l;refine zS (H':=upd (upd L x<|.ins Y.C.rn dx [("program",.ref p),("made",.ref md),("forms",.ref fo),("bodies",.ref bo),("choices",.ref ch),("many_read",.int 0),("many_done",.int 0),("under_way",.int 0),("here",.ref he)]) to<|.lst []) ?_;generalize upd L x (.ins Y.C.rn dx [("program",.ref p),("made",.ref md),("forms",.ref fo),("bodies",.ref bo),("choices",.ref ch),("many_read",.int 0),("many_done",.int 0),("under_way",.int 0),("here",.ref he)])=M at c5 x6 a5 l ⊢;have ar:=aq.trans c5;have a6:=back ar x6 l;have a9:=c5 _ _ (nx B) ab;refine⟨_,rfl,x,dx,_,rfl,(FrS.new (S:=[]) l) _ _ aV x6,by show 9<1000;decide,bM _,λlo i=>?_⟩;have P:=O (.ins Y.C.rn dx [("program",.ref p),("made",.ref md),("forms",.ref fo),("bodies",.ref bo),("choices",.ref ch),("many_read",.int 0),("many_done",.int 0),("under_way",.int 0),("here",.ref he),("todo",.ref to)])<|FrS.new (S:=[]) (o:=.lst []) l;have x7:upd (upd M to<|.lst []) x (.ins Y.C.rn dx [("program",.ref p),("made",.ref md),("forms",.ref fo),("bodies",.ref bo),("choices",.ref ch),("many_read",.int 0),("many_done",.int 0),("under_way",.int 0),("here",.ref he),("todo",.ref to)]) x=some (.ins Y.C.rn dx [("program",.ref p),("made",.ref md),("forms",.ref fo),("bodies",.ref bo),("choices",.ref ch),("many_read",.int 0),("many_done",.int 0),("under_way",.int 0),("here",.ref he),("todo",.ref to)]):=zb1;have a4:upd (upd M to<|.lst []) x (.ins Y.C.rn dx [("program",.ref p),("made",.ref md),("forms",.ref fo),("bodies",.ref bo),("choices",.ref ch),("many_read",.int 0),("many_done",.int 0),("under_way",.int 0),("here",.ref he),("todo",.ref to)]) to=some (.lst []):=(aC<|by simpa using nx a6).trans zb1;have i:upd (upd M to<|.lst []) x (.ins Y.C.rn dx [("program",.ref p),("made",.ref md),("forms",.ref fo),("bodies",.ref bo),("choices",.ref ch),("many_read",.int 0),("many_done",.int 0),("under_way",.int 0),("here",.ref he),("todo",.ref to)]) lo=none:=i;refine zS (H':=upd (upd (upd M to<|.lst []) x<|.ins Y.C.rn dx [("program",.ref p),("made",.ref md),("forms",.ref fo),("bodies",.ref bo),("choices",.ref ch),("many_read",.int 0),("many_done",.int 0),("under_way",.int 0),("here",.ref he),("todo",.ref to)]) lo<|.lst []) ?_;generalize upd (upd M to<|.lst []) x (.ins Y.C.rn dx [("program",.ref p),("made",.ref md),("forms",.ref fo),("bodies",.ref bo),("choices",.ref ch),("many_read",.int 0),("many_done",.int 0),("under_way",.int 0),("here",.ref he),("todo",.ref to)])=G7 at P x7 a4 i ⊢;have ao:=ar.trans P;have aa:=back ao x7 i;have ac:=P _ _ (nx B) a9;have ad:=P _ _ (nx a1) a5;have x8:=(FrS.new (S:=[]) (o:=.lst []) i) _ _ aV x7;have J:=O (.ins Y.C.rn dx<|rF p ⟨dx,md,fo,bo,ch,he,to,lo,[],[],[],[]⟩ 0 0 0 0)<|FrS.new (S:=[]) (o:=.lst []) i;refine⟨_,rfl,x,dx,_,rfl,x8,by show 10<1000;decide,_,rfl,x,dx,_,rfl,zb1,by show 11<1000;decide,?_⟩;rw[gF];have ag:FrS [x] m (upd (upd G7 lo<|.lst []) x<|.ins Y.C.rn dx<|rF p ⟨dx,md,fo,bo,ch,he,to,lo,[],[],[],[]⟩ 0 0 0 0):=((d3.trans c5).trans P).trans J;have ap:=f3 _ _ aV x2;have aj:=tx ap ag;have an:∀{b:Addr}{o:HO},m b=some o->(∀d fs,o≠.ins Y.C.rn d fs)->b∉[x]:=λe n z=>by
  rw[wq1.mp z,ap]at e;cases e;exact n _ _ rfl
 have af:upd (upd G7 lo<|.lst []) x (.ins Y.C.rn dx<|rF p ⟨dx,md,fo,bo,ch,he,to,lo,[],[],[],[]⟩ 0 0 0 0) lo=some (.lst []):=(aC<|by simpa using nx aa).trans zb1;refine q fo bo he to lo qs _ (ao.trans J) zb1 (J _ _ (nx B) ac) (J _ _ (nx a1) ad) (J _ _ (nx a6) a4) af ?_ ?_ (ag _ _ (an al λ_ _ e=>nomatch e) al) ?_ aw ?_
 .intro b hb;simp only[wp9,aV,cY]at hb;rcases hb with rfl | rfl | rfl | rfl
  .exact B
  .exact a1
  .exact a6
  .exact aa
 .simp only[ws9,wp9,aV,cY,fQ,not_false_eq_true,lB,and_true];exact⟨⟨n1,aP a9 l,aP ac i⟩,⟨aP a5 l,aP ad i⟩,aP a4 i⟩
 .intro q' ai;rcases hok q' ai with (h | ⟨o,h⟩) | h
  .exact .inl<|.inl<|aj _ _ h
  .exact .inl<|.inr ⟨o,ag _ _ (an h λ_ _ e=>nomatch e) h⟩
  .exact .inr h
 .intro q' ai;obtain⟨es,e1,e2⟩:=ax q' ai;exact⟨es,aj _ _ e1,e2.keep aj⟩
end
abbrev IS:Stmt:=top 45
abbrev MY:Stmt:=top 47
structure EY{Y:Ry}(R:Rx Y)(H:Hp)(ks:List (Str×List Dz))(m0:Dz)(tr:Tr)(late:List Str)(Ls:List LL)(k':Nat):Prop where
 p:ProgIs R.Z H R.pg ks m0
 k:KindsAt H R.pg tr
 l:LateAt H R.pg tr late
 t12:↑tr<=12
 b:LyB R.Z H 0 (dP ks m0) Ls k'
 k6:k'<=1000000
 hs:∀n d,R.G.hs n d->(n,d)∈(dP ks m0).map (·.1)
 h0:R.G.hs "" ""
 bo:∀n d,R.G.bo n d=mY (((dP ks m0).map (·.1)).zip Ls) (n,d)
 pg:mX R
 pz:Pz R.G
 nm:∀x∈hr0 tr late,x∈R.G.nm
inductive ZA(Y:Ry)(vs:List V)(H:Hp)(Q:VK):Prop
 | mk(R:Rx Y)(md ch:Addr)(ks:List (Str×List Dz))(m0:Dz)(tr:Tr)(late:List Str)(Ls:List LL)(k':Nat)(h1:vs=[.ref R.pg,.ref md,.ref ch])(h2:H md=some (.tup []))(h3:EY R H ks m0 tr late Ls k')(h4:H ch=some (.tup<|R.G.ch.map V.int))(h5:R.H0=H)
  (q:∀(x:Addr)(A:Ra)(H':Hp),RunAt R H' x A ⟨[],[],[],[],0,0,0,hr0 tr late⟩ 0->Q (.ref x) H')
def ZC{Y:Ry}(vs:List V)(H:Hp)(Q:VK)(h:ZA Y vs H Q)(x dx:Addr)(h1:H x=none)(h2:H dx=none)(s:dx≠x):GC Y (.ref x::vs) (upd (upd H dx<|.own x) x<|.ins Y.C.rn dx []) (λv H2=>v=.non/\Q (.ref x) H2) E0:=by
 obtain⟨R,md,ch,ks,B,tr,a,A,P,rfl,m,g,E,rfl,q⟩:=h;have f:FrS [] R.H0 (upd (upd R.H0 dx<|.own x) x<|.ins Y.C.rn dx []):=(FrS.new h2).trans (FrS.new<|by rw[aC<|bK s];exact h1);have t:=Tup.of0 f;refine⟨R.Z,x,dx,R.pg,md,ch,ks,B,tr,a,A,P,rfl,zb1,t _ _ m,g.p.keep t,g.k.keepT t,g.l.keep t,g.t12,g.b.keep t,g.k6,λfo bo he to lo qs H' fr w I O u T G L J j K W=>⟨rfl,q x ⟨dx,md,fo,bo,ch,he,to,lo,[],[],[],[]⟩ H' ?_⟩⟩;have r:∀b∈[fo,he,to,lo],R.H0 b=none/\b≠x:=λb i=>by
  have:=G b i;refine⟨?_,λz=>by rw[z,zb1]at this;cases this⟩;cases e:R.H0 b with
  | none=>rfl
  | some o=>rw[f _ _ aV e]at this;cases this
 have kp:∀b o,R.H0 b=some o->H' b=some o:=λb o e=>fr _ _ (by simpa using (aP e h1))<|f _ _ aV e
 refine {im:=⟨kp _ _ m,kp _ _ E,.nil,.nil,.nil,qs,⟨J,j,λn d h=>?_,λM aa=>?_⟩⟩,run:=w,fo:=I,he:=O,to:=u,lo:=T,dc:=.nil,dk:=(λd hd=>nomatch hd),nd:=?_,kp:=kp,fr:=?_}
 .obtain⟨z,hz,e⟩:=wr2.mp<|g.hs n d h;rw[<-e];exact K z hz
 .obtain⟨es,N,X⟩:=W M aa;exact⟨es,N,by rw[g.bo];exact X⟩
 .exact ws9.mpr ⟨λz=>(r x z).2 rfl,L⟩
 .intro b i;rcases wp9.mp i with rfl | i
  .exact h1
  .exact(r b i).1
def pW(G:Pg)(hr:List Str):Rs:=(Rs.dic ⟨[],[],[],[],0,0,0,hr⟩ []).push (G.bo "" "") 0
inductive IC(Y:Ry)(vs:List V)(H:Hp)(Q:VK):Prop
 | mk(R:Rx Y)(md ch:Addr)(ks:List (Str×List Dz))(m0:Dz)(tr:Tr)(late:List Str)(Ls:List LL)(k':Nat)(mo:Int)(S':Rs)(e:Str)(v:V)(h1:vs=[.ref R.pg,.ref md,.ref ch,.int mo])(h2:H md=some (.tup []))(h3:EY R H ks m0 tr late Ls k')(h4:H ch=some (.tup<|R.G.ch.map V.int))(h5:R.H0=H)(h7:mo<=2000)(t:Rn R.G mo.toNat 0 (pW R.G<|hr0 tr late) S' e v)
  (q:∀(l tl el:Addr)(ls:List Addr)(H':Hp),FrS [] H H'->H' l=some (.tup [.ref tl,.int S'.lk,.ref el])->H' tl=some (.tup<|ls.map V.ref)->A2 (λr a=>H' a=some (.tup r)) S'.lg ls->H' el=some (.tup [.str e,v])->Q (.ref l) H')
def sH(Y:Ry):Sp:=λvs H Q _=>IC Y vs H Q
def rW(hz:Pz G)(h1:↑hr<=12)(h2:∀x∈hr,x∈G.nm):Wf G (pW G hr) 0:=by
 have a:=hz.bo "" "";have hl:=nK 0<|G.bo "" "";refine⟨?_,λd hd=>?_,aW _,by show ↑hr<=_;lia,h2,(λz hz=>nomatch hz),λd hd=>?_⟩
 .show((G.bo "" "").dues 0++[]).length<=_;rw[fY];lia
 .rcases wr7.mp hd with hd | hd
  .exact CB 0 _ a d hd
  .cases hd
 .have:d=[]:=by simpa [pW,Rs.push,Rs.dic]using hd
  rw[this];exact aW _
abbrev GG:List Str:=["program","made","choices","most"]
section
variable{Y:Ry}{mg:Str->Option Value}{base:Heap}{f:Addr}{fd:FuncData}
def yp1:bZ ["program","made","choices","most","run","end"] GG (bR IS):=cC
def ZU{k:Nat}(F:Fun Y.K "whole_run" "whole_run" IS f fd)(Z:dH Y.K Y.C)(M:gZ Y mg base k "Run" Y.C.rn wN (GC Y))(AD:aS Y.pr Y.w Y.K mg base (k+1) "add_due" jC (AE Y))(RO:aS Y.pr Y.w Y.K mg base (k+1) "run_on" ["run","most"] (rD Y))(mM:mg "MAIN"=some (.ref am))(W:∀H,SqT Y.K H am [.str "",.str ""])(X:mg "tuple"=none):aR Y.pr Y.w Y.K mg base bQ (k+2) f fd GG (sH Y):=by
 refine F.ok yp1 (λvs H Q E h=>?_) λaf A outer s H vs Q E hr h=>?_
 .obtain⟨R,md,ch,ks,I,tr,a,N,T,mo,u,e,v,rfl,_⟩:=h;rfl
 obtain⟨R,md,ch,ks,I,tr,a,N,T,mo,u,e,v,rfl,a6,g,a8,rfl,hm,t,q⟩:=h;have hu:=eC hr;exists _,aL (sL 4 yp1.nd<|ID M ZC hr rfl<|aA (pv 0)<|aA (pv 1)<|aA (pv 2) aE)
  (aL (dQ<|bB AD hr rfl<|aA (pv 4)<|aA (zA hu (cS Z.r<|pv 4) (xE (v:=.ref am) rfl mM rfl) λ_ _=>rfl)<|aA mC aE)<|aL (sL 5 yp1.nd<|bB RO hr rfl<|aA (pv 4)<|aA (pv 3) aE)<|aQ<|bS<|bX<|aA (dS gH rfl X (by rfl')<|aA (cS Z.r<|pv 4) aE)<|aA (cS Z.r<|pv 4)<|aA (pv 5) aE)
 ac_rfl
 refine⟨_,rfl,_,rfl,_,rfl,R,md,ch,ks,I,tr,a,N,T,rfl,a6,g,a8,rfl,λrn A H1 h1=>?_⟩;obtain⟨qs,j⟩:=h1.im.bo;obtain⟨z,aa,ae⟩:=wr2.mp<|j.k "" "" g.h0;cases hfd:qs.find? (λq=>decide<|q.1=((("":Str),("":Str)):Pr))with
 | none=>exact absurd ae (by simpa using List.find?_eq_none.mp hfd z aa)
 | some z2=>
  have ab:z2.1=(("":Str),("":Str)):=by simpa using List.find?_some hfd
  obtain⟨es,a4,B⟩:=j.e z2<|DM hfd;rw[ab]at B;refine⟨_,rfl,_,rfl,rn,_,_,_,rfl,h1.run,rfl,A.bo,am,qs,(("":Str),("":Str)),z2,rfl,rfl,j.d,j.ok,W _,hfd,λi a7=>?_⟩;have h2:RunAt R (upd H1 i<|.dK []) rn (A.dic i) (Rs.dic ⟨[],[],[],[],0,0,0,hr0 tr a⟩ []) 0/\Im Y.C H1 (upd H1 i<|.dK []):=h1.dic (d:=[]) a7 λz hz=>nomatch hz;have ad:=g.pz.bo "" "";have ac:(A.dic i).δ[0]?=some i:=by
   have:=h1.dc.len;have e:A.δ=[]:=vf4.mp this.symm;show(A.δ++[i])[0]?=some i;rw[e];rfl
  refine⟨R,rn,z2.2.2,i,A.dic i,_,0,0,R.G.bo "" "",es,rfl,h2.1,h2.2.tup _ _ a4,B.keep h2.2.tup,ac,by show 0+_<=_;lia,λus H3 h3 f3=>?_⟩;have a1:↑(hr0 tr a)<=12:=by
   have:=uV (λx=>decide<|x∉a)<|tr.map (·.1);rw[aK]at this;unfold hr0;have:=g.t12;lia
  refine⟨_,rfl,_,rfl,R,rn,_,_,u,0,mo,e,v,rfl,h3,rW g.pz a1 g.nm,g.pg,g.pz,bM _,hm,t,λm H4 O ag n f4 a5=>?_⟩;refine⟨_,rfl,rn,_,_,_,rfl,n.run,rfl,m.lo,_,rfl,.inl ⟨SqL.of n.lo,λtl J=>?_⟩⟩;have P:=n.keep0<|FrS.new (o:=.tup<|m.ls.map V.ref) J;refine⟨_,rfl,rn,_,_,_,rfl,P.run,rfl,_,rfl,cN<|bG (by show 3<=_;decide),λl hl=>?_⟩;have L:=P.keep0<|FrS.new (o:=.tup [.ref tl,.int u.lk,.ref O]) hl;exact q l tl O m.ls _ (λb o _ e=>L.kp b o e) zb1 ((Tup.new hl) _ _ zb1) L.im.lg<|((Tup.new J).trans<|Tup.new hl) _ _ a5
def Cv:bZ ["program","choices","most"] ["program","choices","most"] (bR MY):=cC
inductive MR(Y:Ry)(vs:List V)(H:Hp)(Q:VK):Prop
 | mk(R:Rx Y)(ch:Addr)(ks:List (Str×List Dz))(m0:Dz)(tr:Tr)(late:List Str)(Ls:List LL)(k':Nat)(mo:Int)(S':Rs)(e:Str)(v:V)(h1:vs=[.ref R.pg,.ref ch,.int mo])(h3:∀H',FrS [] H H'->EY ({R with H0:=H'}:Rx Y) H' ks m0 tr late Ls k')(h4:H ch=some (.tup<|R.G.ch.map V.int))(h7:mo<=2000)(t:Rn R.G mo.toNat 0 (pW R.G<|hr0 tr late) S' e v)
  (q:∀(l tl el:Addr)(ls:List Addr)(H':Hp),FrS [] H H'->H' l=some (.tup [.ref tl,.int S'.lk,.ref el])->H' tl=some (.tup<|ls.map V.ref)->A2 (λr a=>H' a=some (.tup r)) S'.lg ls->H' el=some (.tup [.str e,v])->Q (.ref l) H')
def GN(Y:Ry):Sp:=λvs H Q _=>MR Y vs H Q
def VL{k:Nat}(F:Fun Y.K "plain_run" "plain_run" MY f fd)(x:aS Y.pr Y.w Y.K mg base k "whole_run" GG (sH Y)):aR Y.pr Y.w Y.K mg base bQ (k+1) f fd ["program","choices","most"] (GN Y):=by
 refine F.ok Cv (λvs H Q E h=>?_) λB A outer s H vs Q E hr h=>?_
 .obtain⟨R,ch,ks,i,tr,a,d,j,mo,m,e,v,rfl,_⟩:=h;rfl
 obtain⟨R,ch,ks,i,tr,a,d,j,mo,m,e,v,rfl,g,z,r,t,q⟩:=h;exists _,aQ<|bS<|bB x hr rfl<|aA (pv 0)<|aA (bX aE)<|aA (pv 1)<|aA (pv 2) aE
 ac_rfl
 refine⟨_,rfl,bM _,λmd u=>?_⟩;have b:FrS [] H (upd H md<|.tup []):=FrS.new u;exact⟨_,rfl,_,rfl,{R with H0:=upd H md<|.tup []},md,ch,ks,i,tr,a,d,j,mo,m,e,v,rfl,zb1,g _ b,b _ _ aV z,rfl,r,t,λl tl o ls H' n=>q l tl o ls H'<|b.trans n⟩
end
def WT(w:ProgIs Z H p ks m0):(∀z∈dP ks m0,RowsIs Z H z.2)/\↑(dP ks m0)<=961:=by
 obtain⟨E,us,lt,h1,h2,A,B,s,C⟩:=w;have b:∀y∈ks,∃u,KindIs Z H u y:=λy d=>by
  obtain⟨j,a⟩:=wt5.mp d;have hl:j<↑us:=by rw[A];exact(zz2.mp a).1
  exact⟨_,B j _ y (bF hl) a⟩
 constructor
 .intro z hz;rcases wp9.mp hz with rfl | hz
  .exact s
  .obtain⟨y,d,hz⟩:=List.mem_flatMap.mp hz;obtain⟨e,he,rfl⟩:=wr2.mp hz;obtain⟨u,ev,o,fs,x,q,i,m,n⟩:=b y d;obtain⟨j,a⟩:=wt5.mp he;have hl:j<↑fs:=by rw[i];exact(zz2.mp a).1
   obtain⟨_,_,_,_,r⟩:=m j _ e (bF hl) a;exact r
 .have f:∀l:List (Str×List Dz),(∀y∈l,↑y.2<=80)->↑(l.flatMap hX)<=80*↑l:=by
   intro l
   induction l with
   | nil=>intro _;exact aW _
   | cons y l ih=>
    intro h;have h1:=h y<|.head _;have h2:=ih λz hz=>h z<|.tail _ hz;rw[List.flatMap_cons,bH,cJ];have:↑(hX y)=↑y.2:=List.length_map _;lia
  have:=f ks λy d=>by obtain⟨u,ev,o,fs,x,q,i,m,n⟩:=b y d;lia
  unfold dP;rw[cJ];lia
def IE{Y:Ry}(w:ProgIs Z H p ks m0)(s:KindsAt H p tr)(ok:TrOk tr)(A:↑tr<=12)(J:LateAt H p tr late)(N:FY Z ks tr)(E:∀k d,¬Z k (some d))(o:List Int)(I:∀c∈o,-100<=c):
  ∃(G:Pg)(j:List LL)(q:Nat),G.ch=o/\∀H',FrS [] H H'->EY (⟨Z,H',p,G⟩:Rx Y) H' ks m0 tr late j q:=by
 obtain⟨O,T⟩:=WT w;obtain⟨j,q,B,P⟩:=LyB.mk E (dP ks m0) O 0;obtain⟨e,m⟩:∃e:Str->List Str,∀k,(k∈tr.map (·.1)->Up tr k (e k))/\(k∉tr.map (·.1)->e k=[]):=by
  have:∀k,∃l,(k∈tr.map (·.1)->Up tr k l)/\(k∉tr.map (·.1)->l=[]):=λk=>by
   by_cases c:k∈tr.map (·.1)
   .obtain⟨z,hz,rfl⟩:=wr2.mp c;obtain⟨i,hi⟩:=wt5.mp hz;obtain⟨l,hl⟩:=Up.exists ok i _ _ hi;exact⟨l,λ_=>hl,λh=>absurd c h⟩
   .exact⟨[],λh=>absurd h c,λ_=>rfl⟩
  exact⟨λk=>(this k).choose,λk=>(this k).choose_spec⟩
 have C:∀(L:List LL)(zs:List Bz)(k r:Nat),LyB Z H k zs L r->∀l∈L,l.size<=80:=λL zs k r h=>by
  induction h with
  | nil=>intro l hl;cases hl
  | cons _ _ hz _ ih=>
   intro l hl;rcases wp9.mp hl with rfl | hl
   .exact hz
   .exact ih l hl
 refine⟨⟨tr.map (·.1),λn d=>(n,d)∈(dP ks m0).map (·.1),e,λn d=>mY (((dP ks m0).map (·.1)).zip j) (n,d),o⟩,j,q,rfl,λH' f=>?_⟩;have t:=Tup.of0 f;refine {p:=w.keep t,k:=s.keepT t,l:=J.keep t,t12:=A,b:=B.keep t,k6:=by lia,hs:=λn d h=>h,h0:=by show _∈(dP ks m0).map (·.1);exact .head _,bo:=λ_ _=>rfl,pg:=⟨tr,s.keepT t,ok,A,rfl,λk K=>(m k).1 K,N.nb,I⟩,pz:=⟨λn d=>QX _ _ (bM _) λz hz=>C j _ _ _ B _ (xI hz).2,λk=>?_,λk x a=>?_⟩,nm:=λx a=>(vj5.mp a).1}
 .by_cases c:k∈tr.map (·.1)
  .have u:=(m k).1 c;obtain⟨i,M,hi⟩:=u.at;have:=Up.len ok i k M _ hi u;have:=(zz2.mp hi).1;show(e k).length<=12;lia
  .show(e k).length<=12;rw[(m k).2 c];exact bM _
 .by_cases c:k∈tr.map (·.1)
  .exact((m k).1 c).mem x a
  .have a:x∈e k:=a;rw[(m k).2 c]at a;cases a
structure Ts where
 dn:Nat
 S:Rs
 e:Option (Str×Nat)
def Ts.row(mo n:Nat)(f:Ts->Ts)(T:Ts):Ts:=match T.e with
 | some _=>T
 | none=>if mo<=T.dn then {T with e:=some ("long",n)} else f {T with dn:=T.dn+1}
def Ts.ends(T:Ts)(s:Str)(n:Nat):Ts:={T with e:=some (s,n)}
def Ts.plain(P:Pg)(n m:Nat)(r:Rw)(T:Ts):Ts:={T with S:=(jN P T.S n m r).1,e:=(jN P T.S n m r).2.map (·,n)}
def Ts.rd(T:Ts):Ts:={T with S:={T.S with rd:=T.S.rd+1}}
def vJ(f:Ts->Ts):Nat->Ts->Ts
 | 0,T=>T
 | n+1,T=>vJ f n<|f T
def fM(P:Pg)(mo m:Nat):LL->Ts->Ts
 | .nil,T=>T
 | .op n _ r t,T=>fM P mo m t<|T.row mo n<|Ts.plain P n m r
 | .either n _ p q t,T=>fM P mo m t (T.row mo n λT=>if T.S.pick P=0 then fM P mo m p T.rd else fM P mo m q T.rd)
 | .again n _ p t,T=>fM P mo m t<|T.row mo n λT=>vJ (fM P mo m p) (min (T.S.pick P) 9).toNat T.rd
def Rs.at(S:Rs)(r:List Du):Rs:={S with td:=r}
def EU{T:Ts}(h:T.e=some z):T.row mo n f=T:=by unfold Ts.row;rw[h]
theorem uJ{P:Pg}:∀(l:LL)(T:Ts),T.e=some z->fM P mo m l T=T
 | .nil,T,h=>rfl
 | .op n a r t,T,h=>by unfold fM;rw[EU h];exact uJ t T h
 | .either n a p q t,T,h=>by unfold fM;rw[EU h];exact uJ t T h
 | .again n a p t,T,h=>by unfold fM;rw[EU h];exact uJ t T h
theorem RB(r:List Du):∀(l:List Str)(S:Rs),l.foldl Rs.come (S.at r)=(l.foldl Rs.come S).at r
 | [],S=>rfl
 | k::l,S=>by
  have e:Rs.come (S.at r) k=(S.come k).at r:=by
   unfold Rs.come
   by_cases c:k∈S.hr
   .rw[bC c,bC (show k∈(S.at r).hr from c)]
   .rw[aZ c,aZ (show k∉(S.at r).hr from c)];rfl
  rw[List.foldl_cons,List.foldl_cons,e];exact RB r l _
def PM{S:Rs}{v:V}{f g:Int->Rs×Option Str}(r:List Du)(h:∀j,g j=((f j).1.at r,(f j).2)):(S.at r).thing v g=((S.thing v f).1.at r,(S.thing v f).2):=by
 cases v with
 | int j=>exact h j
 | _=>rfl
def YB(P:Pg)(S:Rs)(r:List Du)(n m:Nat)(w:Rw):jN P (S.at r) n m w=((jN P S n m w).1.at r,(jN P S n m w).2):=by
 cases w with
 | make x k=>
  unfold jN
  by_cases c:k∈S.hr
  .simp only[bC c,bC (show k∈(S.at r).hr from c)];rfl
  .simp only[aZ c,aZ (show k∉(S.at r).hr from c)]
 | copy x y=>rfl
 | put x f y=>exact PM r λj=>rfl
 | take x y f=>exact PM r λj=>rfl
 | say w=>rfl
 | bring k=>exact cF (·,none)<|RB r (P.ln k).reverse S
structure Sim(P:Pg)(mo:Nat)(D:List Du)(T T':Ts):Prop where
 go:T'.e=none->∀r F e v,Rn P mo T'.dn (T'.S.at r) F e v->Rn P mo T.dn (T.S.at<|D++r) F e v
 st:∀e n,T'.e=some (e,n)->∀r,∃F:Rs,F.lg=T'.S.lg/\F.lk=T'.S.lk/\Rn P mo T.dn (T.S.at<|D++r) F e (.int n)
def Sim.nil{P:Pg}(h:T.e=none):Sim P mo [] T T:=⟨λ_ _ _ _ _ t=>t,λe n z=>by rw[h]at z;cases z⟩
def Sim.app{P:Pg}(a:Sim P mo D T T1)(b:T1.e=none->Sim P mo D' T1 T2)(h':∀z,T1.e=some z->T2=T1):Sim P mo (D++D') T T2:=by
 cases h:T1.e with
 | none=>
  have g:=a.go h;have b:=b h;refine⟨λz r F e v t=>by rw[gU];exact g _ _ _ _<|b.go z _ _ _ _ t,λe n z r=>?_⟩;obtain⟨F,d,f,i⟩:=b.st e n z r;exact⟨F,d,f,by rw[gU];exact g _ _ _ _ i⟩
 | some z=>
  rw[h' z h];refine⟨(λy=>by rw[h]at y;cases y),λe n y r=>?_⟩;obtain⟨F,d,f,i⟩:=a.st e n y<|D'++r;exact⟨F,d,f,by rw[gU];exact i⟩
theorem Sim.row{P:Pg}{d:Du}{f:Ts->Ts}(he:T.e=none) (h:T.dn<mo->
  (∃e,(f {T with dn:=T.dn+1}).e=some (e,d.num)/\∀r,∃F:Rs,F.lg=(f {T with dn:=T.dn+1}).S.lg/\F.lk=(f {T with dn:=T.dn+1}).S.lk/\doR P (T.S.at r) d=(F,some e))\/
  ∃(a:Rs)(D:List Du),(∀r,doR P (T.S.at r) d=(a.at<|D++r,none))/\Sim P mo D ⟨T.dn+1,a,none⟩ (f {T with dn:=T.dn+1})):Sim P mo [d] T (T.row mo d.num f):=by
 unfold Ts.row;rw[he];dsimp only
 by_cases c:mo<=T.dn
 .rw[bC c];refine⟨(λz=>nomatch z),λe l z r=>?_⟩;cases z;exact⟨T.S.at r,rfl,rfl,.long rfl c⟩
 .rw[aZ c];rcases h (vk9.mp c)with ⟨e,h1,h2⟩ | ⟨a,D,h1,h3⟩
  .refine⟨λz=>(by rw[<-he]at z;rw[h1,he]at z;cases z),λm l z r=>?_⟩;obtain⟨F,b,i,j⟩:=h2 r;rw[he]at h1;rw[h1]at z;cases z;exact⟨F,by rw[b,he],by rw[i,he],.stop rfl (vk9.mp c) j⟩
  .rw[he]at h3;refine⟨λz r F e v t=>.go rfl (vk9.mp c) (h1 r)<|h3.go z r F e v t,λm l z r=>?_⟩;obtain⟨F,b,i,j⟩:=h3.st m l z r;exact⟨F,b,i,.go rfl (vk9.mp c) (h1 r) j⟩
def gJ(D:List Du):Nat->List Du
 | 0=>[]
 | n+1=>D++gJ D n
theorem RL(D:List Du):∀n,gJ D n++D=D++gJ D n
 | 0=>by simp[gJ]
 | n+1=>by rw[gJ,gU,RL D n]
theorem PJ:∀(c:Nat)(S:Rs)(r:List Du),pushN l m c (S.at r)=S.at (gJ (l.dues m) c++r)
 | 0,S,r=>rfl
 | n+1,S,r=>by
  show pushN l m n (S.at<|l.dues m++r)=_;rw[PJ n S,gJ,<-gU,RL]
theorem TL{f:Ts->Ts}(h:∀T z,T.e=some z->f T=T):∀(c:Nat)(T:Ts),T.e=some z->vJ f c T=T
 | 0,T,_=>rfl
 | n+1,T,e=>by unfold vJ;rw[h T _ e];exact TL h n T e
theorem Sim.iter{P:Pg}{f:Ts->Ts}(a:∀T,T.e=none->Sim P mo D T (f T))(hs:∀T z,T.e=some z->f T=T):∀(c:Nat)(T:Ts),T.e=none->Sim P mo (gJ D c) T (vJ f c T)
 | 0,T,h=>.nil h
 | n+1,T,h=>Sim.app (a T h) (λz=>Sim.iter a hs n _ z) λz y=>TL hs n _ y
def Sim.rows{P:Pg}{f:Ts->Ts}{d:Du}(a:Sim P mo [d] T (T.row mo d.num f))(b:∀T,T.e=none->Sim P mo (t.dues m) T (fM P mo m t T)):Sim P mo (d::t.dues m) T (fM P mo m t<|T.row mo d.num f):=
 Sim.app a (λz=>b _ z) λz y=>uJ t _ y
theorem uY(P:Pg)(mo m:Nat):∀(l:LL)(T:Ts),T.e=none->Sim P mo (l.dues m) T (fM P mo m l T)
 | .nil,T,h=>.nil h
 | .op n a r t,T,h=>by
  refine Sim.rows (d:=.op n a r m) (.row h λb=>?_)<|uY P mo m t;have e:∀r',doR P (T.S.at r') (.op n a r m)=_:=λr'=>YB P T.S r' n m r;cases ho:(jN P T.S n m r).2 with
  | none=>
   refine .inr ⟨(jN P T.S n m r).1,[],λr'=>by rw[e,ho];rfl,?_⟩;have:Ts.plain P n m r {T with dn:=T.dn+1}=⟨T.dn+1,(jN P T.S n m r).1,none⟩:=by unfold Ts.plain;rw[ho];rfl
   show Sim _ _ _ _<|Ts.plain P n m r _;rw[this];exact .nil rfl
  | some z=>exact .inl ⟨z,by show Option.map _ (jN P T.S n m r).2=_;rw[ho];rfl,λr'=>⟨(jN P T.S n m r).1.at r',rfl,rfl,by rw[e,ho]⟩⟩
 | .either n a p q t,T,h=>by
  refine Sim.rows (d:=.either n a p q m) (.row h λb=>.inr ⟨{T.S with rd:=T.S.rd+1},(if T.S.pick P=0 then p else q).dues m,λr=>rfl,?_⟩)<|uY P mo m t;show Sim _ _ _ _ (if T.S.pick P=0 then fM P mo m p _ else fM P mo m q _)
  by_cases c:T.S.pick P=0
  .rw[bC c,bC c,Ts.rd,<-h];exact uY P mo m p _ h
  .rw[aZ c,aZ c,Ts.rd,<-h];exact uY P mo m q _ h
 | .again n a p t,T,h=>by
  refine Sim.rows (d:=.again n a p m) (.row h λb=>.inr ⟨{T.S with rd:=T.S.rd+1},gJ (p.dues m) (min (T.S.pick P) 9).toNat,λr=>?_,?_⟩)<|uY P mo m t
  .exact cF (·,none)<|PJ (l:=p) (m:=m) (min (T.S.pick P) 9).toNat {T.S with rd:=T.S.rd+1} r
  .have:=Sim.iter (mo:=mo) (uY P mo m p) (λT z y=>uJ p T y) (min (T.S.pick P) 9).toNat {T with dn:=T.dn+1,S:={T.S with rd:=T.S.rd+1}} h;rw[Ts.rd,<-h];exact this
def Aw(P:Pg)(mo m:Nat)(l:LL)(T:Ts)(h:T.e=none):∃F e v,Rn P mo T.dn (T.S.at<|l.dues m) F e v/\F.lg=(fM P mo m l T).S.lg/\F.lk=(fM P mo m l T).S.lk/\(((fM P mo m l T).e=none/\e="done"/\v=.non)\/∃n:Nat,(fM P mo m l T).e=some (e,n)/\v=.int n):=by
 have s:=uY P mo m l T h;rw[<-fY (l.dues m)];generalize fM P mo m l T=a at s ⊢;cases h:a.e with
 | none=>exact⟨a.S.at [],"done",.non,s.go h [] _ _ _<|.done rfl,rfl,rfl,.inl ⟨rfl,rfl,rfl⟩⟩
 | some z=>
  obtain⟨e,n⟩:=z;obtain⟨F,b,d,f⟩:=s.st e n h [];exact⟨F,e,.int n,f,b,d,.inr ⟨n,rfl,rfl⟩⟩
structure MAt(H0:Hp)(M:List (Addr×HO))(H:Hp):Prop where
 at':∀p∈M,H p.1=some p.2
 nd:(M.map (·.1)).Nodup
 fr:∀p∈M,H0 p.1=none
 kp:∀b o,H0 b=some o->H b=some o
theorem MAt.set{a:Addr}{o o':HO}(h:MAt H0 M H)(hi:M[i]?=some (a,o)):MAt H0 (M.set i (a,o')) (upd H a o'):=by
 have r:=cU hi;have e:(M.set i (a,o')).map (·.1)=M.map (·.1):=by
  rw[List.map_set];have h':(M.map (·.1))[i]?=some a:=by rw[bO,hi];rfl
  obtain⟨l,e⟩:=zz2.mp h';show(M.map (·.1)).set i a=_;rw[<-e];exact List.set_getElem_self l
 refine⟨λp hp=>?_,by rw[e];exact h.nd,λp hp=>?_,λb u f=>?_⟩
 .rcases CN hp with hp' | rfl
  .by_cases c:p.1=a
   .obtain⟨j,d⟩:=wt5.mp hp;have w:j=i:=by
     have h1:(M.map (·.1))[j]?=some a:=by rw[<-e,bO,d,<-c];rfl
     have h2:(M.map (·.1))[i]?=some a:=by rw[bO,hi];rfl
     obtain⟨x,n⟩:=zz2.mp h1;obtain⟨A,m⟩:=zz2.mp h2;exact(wX h.nd).mp<|n.trans m.symm
    subst w;rw[List.getElem?_set_self (zz2.mp hi).1]at d;cases d;exact zb1
   .rw[aC c];exact h.at' p hp'
  .exact zb1
 .have:p.1∈M.map (·.1):=by rw[<-e];exact wr2.mpr ⟨p,hp,rfl⟩
  obtain⟨q,s,m⟩:=wr2.mp this;rw[<-m];exact h.fr q s
 .rw[aC λz=>by rw[z,h.fr _ r]at f;cases f];exact h.kp b u f
def MAt.no0(h:MAt H0 M H)(hp:H p=none):H0 p=none:=by
 cases e:H0 p with
 | none=>rfl
 | some o=>rw[h.kp _ _ e]at hp;cases hp
def MAt.new(h:MAt H0 M H)(hp:H p=none):MAt H0 M (upd H p o):=⟨λq a=>by rw[aC<|aP (h.at' q a) hp];exact h.at' q a,h.nd,h.fr,λb u e=>by rw[aC<|aP (h.kp b u e) hp];exact h.kp b u e⟩
def MAt.add(h:MAt H0 M H)(hp:H p=none):MAt H0 (M++[(p,o)]) (upd H p o):=by
 have n:=h.new (o:=o) hp;refine⟨λq d=>?_,?_,λq d=>?_,n.kp⟩
 .rcases wr7.mp d with d | d
  .exact n.at' q d
  .rw[wq1.mp d];exact zb1
 .rw[bN,List.map_singleton];refine vk7.mpr ⟨h.nd,List.pairwise_singleton _ _,λa f b e=>?_⟩;rw[wq1.mp e];obtain⟨q,d,rfl⟩:=wr2.mp f;exact aP (h.at' q d) hp
 .rcases wr7.mp d with d | d
  .exact h.fr q d
  .rw[wq1.mp d];exact h.no0 hp
theorem A2.set{α β:Type}{R:α->β->Prop}{as:List α}{bs:List β}{a:α}{b:β}(h:A2 R as bs)(g:R a b):∀{i:Nat},A2 R (as.set i a) (bs.set i b):=by
 induction h with
 | nil=>exact .nil
 | cons h _ ih=>
  intro i;cases i with
  | zero=>exact .cons g ‹_›
  | succ i=>exact .cons h ih
def Tup.chg(h:H a=some o)(n:∀xs,o≠.tup xs):Tup H (upd H a o'):=λb xs e=>by
 rw[aC λz=>by rw[z,h]at e;cases e;exact n _ rfl];exact e
structure La where
 (ar ch lo th:Addr)
 (ls δ θ:List Addr)
 ds:List (List<|aF×V)
structure Lw where
 H0:Hp
 G:Pg
 (tx up:Addr)
 mo:Int
abbrev lF(W:Lw)(A:La)(T:Ts)(ev:V):List (aF×V):=[(Sum.inr "texts",.ref W.tx),(Sum.inr "up",.ref W.up),(Sum.inr "around",.ref A.ar),(Sum.inr "choices",.ref A.ch),(Sum.inr "left",.int<|W.mo-T.dn),(Sum.inr "log",.ref A.lo),(Sum.inr "looks",.int T.S.lk),(Sum.inr "end",ev),(Sum.inr "things",.ref A.th),(Sum.inr "calls",.int T.S.uw)]
def fN(hr:List Str):List (aF×V):=hr.map λk=>(Sum.inr k,.bl true)
def lD(A:La):List (Addr×HO):=(A.δ.zip A.ds).map λz=>(z.1,.dK z.2)
abbrev lM(W:Lw)(rn:Addr)(A:La)(T:Ts)(ev:V):List (Addr×HO):=(rn,.dK<|lF W A T ev)::(A.ar,.dK<|fN T.S.hr)::(A.ch,.lst<|(W.G.ch.drop T.S.rd).map V.int)::(A.lo,.lst<|A.ls.map V.ref)::(A.th,.lst<|A.θ.map V.ref)::lD A
inductive EvAt(H:Hp):Option (Str×Nat)->V->Prop
 | no:EvAt H none .non
 | end {s:Str} {n:Nat} {a:Addr} (h:H a=some (.tup [.str s,.int n])):EvAt H (some (s,n)) (.ref a)
def EvAt.keep(h:EvAt H e ev)(f:Tup H H'):EvAt H' e ev:=by
 cases h with
 | no=>exact .no
 | «end» h=>exact .end<|f _ _ h
structure LI(H:Hp)(A:La)(T:Ts):Prop where
 lg:A2 (λr a=>H a=some (.tup r)) T.S.lg A.ls
 th:A2 (λ(z:Str×Nat) t=>∃a,A.δ[z.2]?=some a/\H t=some (.tup [.str z.1,.ref a])) T.S.ts A.θ
 dq:A2 (λd d'=>∀k:aF,aG d' k=aG d k) T.S.ds A.ds
 dl:A.δ.length=A.ds.length
def LI.keep(h:LI H A T)(f:Tup H H'):LI H' A T:={h with lg:=h.lg.imp λ_ _ g=>f _ _ g,th:=h.th.imp λ_ _ ⟨a,e,g⟩=>⟨a,e,f _ _ g⟩}
structure LB(W:Lw)(A:La)(T:Ts)(s:Nat):Prop where
 dk:∀d∈T.S.ds,∀z∈d,VOk T.S.ts.length z.2
 b1:T.S.lg.length+12*s<=12*T.dn
 b2:∀d∈A.ds,↑d+s<=T.dn
 b3:T.S.ts.length+s<=T.dn
 b4:T.S.hr.length+12*s<=12+12*T.dn
 hn:∀k∈T.S.hr,k∈W.G.nm
 tn:∀z∈T.S.ts,z.1∈W.G.nm
structure LAt(W:Lw)(H:Hp)(rn:Addr)(A:La)(T:Ts)(ev:V):Prop where
 li:LI H A T
 le:EvAt H T.e ev
 lm:MAt W.H0 (lM W rn A T ev) H
section
variable{W:Lw}{H:Hp}{rn:Addr}{A:La}{T:Ts}{ev:V}
def LAt.run(h:LAt W H rn A T ev):H rn=some (.dK<|lF W A T ev):=h.lm.at' _<|.head _
theorem LAt.ar(h:LAt W H rn A T ev):H A.ar=some (.dK<|fN T.S.hr):=h.lm.at' _<|.tail _<|.head _
theorem LAt.ch(h:LAt W H rn A T ev):H A.ch=some (.lst<|(W.G.ch.drop T.S.rd).map V.int):=h.lm.at' _<|.tail _<|.tail _<|.head _
theorem LAt.lo(h:LAt W H rn A T ev):H A.lo=some (.lst<|A.ls.map V.ref):=h.lm.at' _<|.tail _<|.tail _<|.tail _<|.head _
theorem LAt.th(h:LAt W H rn A T ev):H A.th=some (.lst<|A.θ.map V.ref):=h.lm.at' _<|.tail _<|.tail _<|.tail _<|.tail _<|.head _
theorem LAt.new(h:LAt W H rn A T ev)(hp:H p=none):LAt W (upd H p o) rn A T ev:=⟨h.li.keep<|Tup.new hp,h.le.keep<|Tup.new hp,h.lm.new hp⟩
def LAt.dict{m:Nat}(h:LAt W H rn A T ev)(e:A.δ[m]?=some a):∃d d',T.S.ds[m]?=some d/\A.ds[m]?=some d'/\H a=some (.dK d')/\(∀k,aG d' k=aG d k)/\(lD A)[m]?=some (a,HO.dK d'):=by
 have hl:m<A.ds.length:=by rw[<-h.li.dl];exact(zz2.mp e).1
 have b:=bF hl;obtain⟨d,i,hd⟩:=A2.back h.li.dq b;have f:(lD A)[m]?=some (a,HO.dK A.ds[m]):=by
  unfold lD;rw[bO,EM (z:=(a,A.ds[m])) |>.mpr ⟨e,b⟩];rfl
 exact⟨d,_,i,b,h.lm.at' _<|.tail _<|.tail _<|.tail _<|.tail _<|.tail _<|cU f,hd,f⟩
def QR(e:S.ds[m]?=some d):Rs.get S m x=(aG d<|Sum.inr x).getD .non:=by unfold Rs.get;rw[eX,e];rfl
def LAt.got{m:Nat}(h:LAt W H rn A T ev)(b:LB W A T s)(f:A.δ[m]?=some a)(x:Str):∃d',H a=some (.dK d')/\(aG d'<|Sum.inr x).getD .non=T.S.get m x/\VOk T.S.ts.length (T.S.get m x):=by
 obtain⟨d,d',e,l,i,j,_⟩:=h.dict f;exact⟨d',i,by rw[QR e,j],by rw[QR e];exact OV (b.dk d<|cU e) _⟩
def jH(h:MAt H0 M H)(hi:M[i]?=some (a,o))(n:∀xs,o≠.tup xs):MAt H0 (M.set i (a,o')) (upd H a o')/\Tup H (upd H a o'):=⟨h.set hi,Tup.chg (h.at' _<|cU hi) n⟩
def LAt.num(h:LAt W H rn A T ev)(b:Ts)(h1:b.S={T.S with lk:=b.S.lk,uw:=b.S.uw})(he:EvAt H b.e ev'):LAt W (upd H rn<|.dK<|lF W A b ev') rn A b ev'/\Tup H (upd H rn<|.dK<|lF W A b ev'):=by
 obtain⟨dn,d,e⟩:=b;dsimp only at h1 he;rw[h1];obtain⟨m,t⟩:=jH (o':=.dK<|lF W A ⟨dn,{T.S with lk:=d.lk,uw:=d.uw},e⟩ ev') h.lm (i:=0) rfl λxs z=>nomatch z;exact⟨⟨⟨h.li.lg.imp λ_ _ g=>t _ _ g,h.li.th.imp λ_ _ ⟨a,e,g⟩=>⟨a,e,t _ _ g⟩,h.li.dq,h.li.dl⟩,he.keep t,m⟩,t⟩
theorem LAt.say(h:LAt W H rn A T ev)(b:H t=some (.tup r)):LAt W (upd H A.lo<|.lst<|A.ls.map V.ref++[.ref t]) rn {A with ls:=A.ls++[t]} {T with S:=T.S.say r} ev/\Tup H (upd H A.lo<|.lst<|A.ls.map V.ref++[.ref t]):=by
 obtain⟨m,f⟩:=jH (o':=.lst<|A.ls.map V.ref++[.ref t]) h.lm (i:=3) rfl λxs z=>nomatch z;have e:A.ls.map V.ref++[V.ref t]=(A.ls++[t]).map V.ref:=by rw[bN];rfl
 refine⟨⟨⟨(h.li.lg.imp λ_ _ g=>f _ _ g).snoc<|f _ _ b,h.li.th.imp λ_ _ ⟨a,e,g⟩=>⟨a,e,f _ _ g⟩,h.li.dq,h.li.dl⟩,h.le.keep f,?_⟩,f⟩;rw[e]at m ⊢;exact m
theorem OJ{d:List (aF×V)}:∀{δ:List Addr}{ds:List (List<|aF×V)}{m:Nat},δ[m]?=some a->(δ.zip<|ds.set m d).map (λz=>(z.1,HO.dK z.2))=((δ.zip ds).map λz=>(z.1,HO.dK z.2)).set m (a,.dK d)
 | [],_,_,h=>nomatch h
 | _::_,[],_,_=>rfl
 | x::δ,y::ds,0,h=>by cases h;rfl
 | x::δ,y::ds,m+1,h=>cF ((x,HO.dK y)::·)<|OJ (δ:=δ) (ds:=ds) h
theorem LAt.put{m:Nat}(h:LAt W H rn A T ev)(b:A.δ[m]?=some a)(q:H a=some (.dK d'))(x:Str)(v:V):LAt W (upd H a<|.dK<|aO d' (Sum.inr x) v) rn {A with ds:=A.ds.set m<|aO d' (Sum.inr x) v} {T with S:=T.S.put m x v} ev/\Tup H (upd H a<|.dK<|aO d' (Sum.inr x) v):=by
 obtain⟨d,s,l,u,j,r,o⟩:=h.dict b;rw[q]at j;cases j;obtain⟨m',f⟩:=jH (o':=.dK<|aO d' (Sum.inr x) v) h.lm (i:=m+5) o λxs z=>nomatch z;have n:T.S.ds.getD m []=d:=by rw[eX,l];rfl
 refine⟨⟨⟨h.li.lg.imp λ_ _ g=>f _ _ g,h.li.th.imp λ_ _ ⟨a,e,g⟩=>⟨a,e,f _ _ g⟩,?_,by rw[List.length_set];exact h.li.dl⟩,h.le.keep f,?_⟩,f⟩
 .show A2 _ (T.S.ds.set m<|aO (T.S.ds.getD m []) (Sum.inr x) v) _;rw[n];exact A2.set h.li.dq λk=>by rw[jI,jI,r]
 .have:lD {A with ds:=A.ds.set m<|aO d' (Sum.inr x) v}=(lD A).set m (a,.dK<|aO d' (Sum.inr x) v):=OJ b;show MAt W.H0 (_::_::_::_::_::lD {A with ds:=A.ds.set m<|aO d' (Sum.inr x) v}) _;rw[this];exact m'
theorem LAt.dic(h:LAt W H rn A T ev)(hp:H b=none)(hd:∀k:aF,aG d' k=aG d k):LAt W (upd H b<|.dK d') rn {A with δ:=A.δ++[b],ds:=A.ds++[d']} {T with S:=T.S.dic d} ev:=by
 have f:Tup H (upd H b<|.dK d'):=Tup.new hp;have m:=h.lm.add (o:=.dK d') hp;exists ⟨h.li.lg.imp λ_ _ g=>f _ _ g,h.li.th.imp λ_ _ ⟨a,e,g⟩=>⟨a,sZ e,f _ _ g⟩,h.li.dq.snoc hd,by rw[bH,bH,h.li.dl];rfl⟩,h.le.keep f;have:lD {A with δ:=A.δ++[b],ds:=A.ds++[d']}=lD A++[(b,.dK d')]:=by
  unfold lD;rw[List.zip_append h.li.dl,bN];rfl
 show MAt W.H0 (_::_::_::_::_::lD {A with δ:=A.δ++[b],ds:=A.ds++[d']}) _;rw[this];exact m
theorem LAt.thg(h:LAt W H rn A T ev)(b:H t=some (.tup [.str z.1,.ref a]))(hz:A.δ[z.2]?=some a):LAt W (upd H A.th<|.lst<|A.θ.map V.ref++[.ref t]) rn {A with θ:=A.θ++[t]} {T with S:=T.S.thg z} ev/\Tup H (upd H A.th<|.lst<|A.θ.map V.ref++[.ref t]):=by
 obtain⟨m,f⟩:=jH (o':=.lst<|A.θ.map V.ref++[.ref t]) h.lm (i:=4) rfl λxs z=>nomatch z;have e:A.θ.map V.ref++[V.ref t]=(A.θ++[t]).map V.ref:=by rw[bN];rfl
 refine⟨⟨⟨h.li.lg.imp λ_ _ g=>f _ _ g,(h.li.th.imp λ_ _ ⟨a,e,g⟩=>⟨a,e,f _ _ g⟩).snoc ⟨a,hz,f _ _ b⟩,h.li.dq,h.li.dl⟩,h.le.keep f,?_⟩,f⟩;rw[e]at m ⊢;exact m
def uP(h:k∉hr):aO (fN hr) (Sum.inr k) (.bl true)=fN (hr++[k]):=by
 unfold aO fN;rw[aZ,bN];rfl;intro z;obtain⟨p,hp,e⟩:=vh8.mp z;obtain⟨y,a,rfl⟩:=wr2.mp hp;exact h<|jU (cQ e)▸a
def pA:(aG (fN hr)<|Sum.inr k).isSome=decide (k∈hr):=by
 unfold aG fN;rw[yN,sC,decide_eq_true_iff,List.find?_isSome]
 constructor
 .rintro⟨p,hp,e⟩;obtain⟨y,a,rfl⟩:=wr2.mp hp;exact jU (cQ e)▸a
 .exact λh=>⟨_,wr2.mpr ⟨k,h,rfl⟩,eW rfl⟩
theorem LAt.her(h:LAt W H rn A T ev)(b:k∉T.S.hr):LAt W (upd H A.ar<|.dK<|aO (fN T.S.hr) (Sum.inr k)<|.bl true) rn A {T with S:=T.S.her k} ev/\Tup H (upd H A.ar<|.dK<|aO (fN T.S.hr) (Sum.inr k)<|.bl true):=by
 obtain⟨m,f⟩:=jH (o':=.dK<|aO (fN T.S.hr) (Sum.inr k)<|.bl true) h.lm (i:=1) rfl λxs z=>nomatch z;refine⟨⟨⟨h.li.lg.imp λ_ _ g=>f _ _ g,h.li.th.imp λ_ _ ⟨a,e,g⟩=>⟨a,e,f _ _ g⟩,h.li.dq,h.li.dl⟩,h.le.keep f,?_⟩,f⟩;rw[uP b]at m ⊢;exact m
end
section
variable{W:Lw}{H:Hp}{rn:Addr}{A:La}{T:Ts}{ev:V}
def LB.less(b:LB W A T (s+1)):LB W A T s:=⟨b.dk,by have:=b.b1;lia,λd hd=>by have:=b.b2 d hd;lia,by have:=b.b3;lia,by have:=b.b4;lia,b.hn,b.tn⟩
def LB.row(b:LB W A T 0):LB W A {T with dn:=T.dn+1} 1:=⟨b.dk,by have:=b.b1;show T.S.lg.length+_<=12*(T.dn+1);lia,λd hd=>by have:=b.b2 d hd;show ↑d+_<=T.dn+1;lia,by have:=b.b3;show T.S.ts.length+_<=T.dn+1;lia,by have:=b.b4;show T.S.hr.length+_<=12+12*(T.dn+1);lia,b.hn,b.tn⟩
theorem LB.ends(b:LB W A T s)(x:Str)(n:Nat):LB W A (T.ends x n) s:=⟨b.dk,b.b1,b.b2,b.b3,b.b4,b.hn,b.tn⟩
theorem LB.say(b:LB W A T 1)(l:List Addr)(r:List V):LB W {A with ls:=l} {T with S:=T.S.say r} 0:=⟨b.dk,by have:=b.b1;show(T.S.lg++[r]).length+_<=12*T.dn;rw[bH,dU];lia,λd hd=>by have:=b.b2 d hd;show ↑d+_<=T.dn;lia,by have:=b.b3;show T.S.ts.length+_<=T.dn;lia,by have:=b.b4;show T.S.hr.length+_<=12+12*T.dn;lia,b.hn,b.tn⟩
def UF{d':List (aF×V)}{e:Nat}(b:∀d∈A.ds,↑d+1<=e)(hd:A.ds[m]?=some d'):∀d∈A.ds.set m (aO d' (Sum.inr x) v),↑d<=e:=λd h=>by
 rcases CN h with h | rfl
 .have:=b d h;lia
 .have:=kD d' (Sum.inr x) v;have:=b d'<|cU hd;lia
def RN{S:Rs}(b:∀d∈S.ds,∀z∈d,VOk n z.2)(a:VOk n v):∀d∈(S.put m x v).ds,∀z∈d,VOk n z.2:=λd h=>by
 rcases CN h with h | rfl
 .exact b d h
 .refine UP (λz hz=>?_) a;rw[eX]at hz;cases e:S.ds[m]? with
  | none=>rw[e]at hz;cases hz
  | some d=>rw[e]at hz;exact b d (cU e) z hz
theorem LB.put{d':List (aF×V)}{m:Nat}{x:Str}{v:V}(b:LB W A T 1)(hd:A.ds[m]?=some d')(a:VOk T.S.ts.length v):LB W {A with ds:=A.ds.set m<|aO d' (Sum.inr x) v} {T with S:=T.S.put m x v} 0:=
 ⟨RN b.dk a,by have:=b.b1;show T.S.lg.length+_<=12*T.dn;lia,UF b.b2 hd,by have:=b.b3;show T.S.ts.length+_<=T.dn;lia,by have:=b.b4;show T.S.hr.length+_<=12+12*T.dn;lia,b.hn,b.tn⟩
def Bi{S:Rs}(a:m<S.ds.length):Rs.thg (Rs.dic (S.put m x v) []) (k,S.ds.length)=(S.make k).put m x v:=by
 unfold Rs.thg Rs.dic Rs.put Rs.make;dsimp only;rw[List.set_append_left _ _ a,eX,eX,kE a]
theorem LB.make{d':List (aF×V)}{m:Nat}{x k:Str}{δ θ:List Addr}(b:LB W A T 1)(f:m<T.S.ds.length)(hd:A.ds[m]?=some d')(a:k∈T.S.hr):LB W {A with ds:=A.ds.set m (aO d' (Sum.inr x)<|.int T.S.ts.length)++[[]],δ:=δ,θ:=θ} {T with S:=(T.S.make k).put m x<|.int T.S.ts.length} 0:=by
 refine⟨?_,by have:=b.b1;show T.S.lg.length+_<=12*T.dn;lia,λd h=>?_,?_,by have:=b.b4;show T.S.hr.length+_<=12+12*T.dn;lia,b.hn,λz hz=>?_⟩
 .have e:↑(T.S.ts++[(k,T.S.ds.length)])=T.S.ts.length+1:=by rw[bH];rfl
  show ∀d∈((T.S.make k).put m x _).ds,∀z∈d,VOk ↑(T.S.ts++[(k,T.S.ds.length)]) z.2;rw[e];refine RN (λd h z hz=>?_)<|.inr ⟨_,rfl,wO _⟩;rcases wr7.mp h with h | h
  .exact(b.dk d h z hz).mono (nC _)
  .rw[wq1.mp h]at hz;cases hz
 .rcases wr7.mp h with h | h
  .exact UF b.b2 hd d h
  .rw[wq1.mp h];exact bM _
 .have:=b.b3;show(T.S.ts++[(k,T.S.ds.length)]).length+0<=T.dn;rw[bH,dU];lia
 .have hz:z∈T.S.ts++[(k,T.S.ds.length)]:=hz;rcases wr7.mp hz with hz | hz
  .exact b.tn z hz
  .rw[wq1.mp hz];exact b.hn k a
theorem LB.come{l:List Str}(b:LB W A T 1)(hl:↑l<=12)(i:∀x∈l,x∈W.G.nm)(ls:List Addr):LB W {A with ls:=ls} {T with S:=l.foldl Rs.come T.S} 0:=by
 obtain⟨h1,h2,f,h,a,j,_⟩:=yE l T.S;have:=b.b1;have:=b.b4;have:=b.b3;exact⟨by show ∀d∈(l.foldl Rs.come T.S).ds,_;rw[h];show ∀d∈T.S.ds,∀z∈d,VOk (l.foldl Rs.come T.S).ts.length z.2;rw[a];exact b.dk,by show(l.foldl Rs.come T.S).lg.length+_<=12*T.dn;lia,λd hd=>by have:=b.b2 d hd;show ↑d+_<=T.dn;lia,by show(l.foldl Rs.come T.S).ts.length+_<=T.dn;rw[a];lia,by show(l.foldl Rs.come T.S).hr.length+_<=12+12*T.dn;lia,λk e=>(f k e).elim (b.hn k)<|i k,by show ∀z∈(l.foldl Rs.come T.S).ts,_;rw[a];exact b.tn⟩
def LAt.endw(h:LAt W H rn A T ev)(a:H t=none)(s:Str)(n:Nat):LAt W (upd (upd H t<|.tup [.str s,.int n]) rn<|.dK<|aO (lF W A T ev) (Sum.inr "end")<|.ref t) rn A (T.ends s n) (.ref t)/\Tup H (upd (upd H t<|.tup [.str s,.int n]) rn<|.dK<|aO (lF W A T ev) (Sum.inr "end")<|.ref t):=by
 have:=(h.new (o:=.tup [.str s,.int n]) a).num (ev':=.ref t) (T.ends s n) rfl<|.end zb1;exact⟨this.1,(Tup.new a).trans this.2⟩
def LAt.thing(h:LAt W H rn A T ev){j:Nat}(d:j<T.S.ts.length):∃t a,A.θ[j]?=some t/\H t=some (.tup [.str<|T.S.kind j,.ref a])/\A.δ[T.S.dict j]?=some a:=by
 obtain⟨t,e,a,h1,h2⟩:=h.li.th.get<|bF d;have b:T.S.ts.getD (j:Int).toNat ("",0)=T.S.ts[j]:=by show T.S.ts.getD j _=_;rw[eX,bF d];rfl
 exact⟨t,a,e,by unfold Rs.kind;rw[b];exact h2,by unfold Rs.dict;rw[b];exact h1⟩
end
inductive Enm(B:Addr->Prop)(nm:List Str)(H:Hp):LL->List Addr->Prop
 | nil:Enm B nm H .nil []
 | op {n:Nat} {a e p:Addr} {r:Rw} {t:LL} {es:List Addr} (h:H e=some (.tup [.int n,.ref a,.ref p])) (hr:H a=some (.tup r.vs)) (hb:∀k,r=.bring k->k∈nm) (s:Enm B nm H t es):Enm B nm H (.op n a r t) (e::es)
 | either {n:Nat} {a e p l1 l2:Addr} {v:List V} {q1 q2 t:LL} {e1 e2 es:List Addr} (h:H e=some (.tup [.int n,.ref a,.ref p])) (hp:H p=some (.lst [.ref l1,.ref l2])) (hr:H a=some (.tup<|.str "either"::v)) (h1:H l1=some (.lst<|e1.map V.ref)) (h2:H l2=some (.lst<|e2.map V.ref)) (hB:B p/\B l1/\B l2) (s1:Enm B nm H q1 e1) (s2:Enm B nm H q2 e2) (s:Enm B nm H t es):Enm B nm H (.either n a q1 q2 t) (e::es)
 | again {n:Nat} {a e p l1:Addr} {v:List V} {q1 t:LL} {e1 es:List Addr} (h:H e=some (.tup [.int n,.ref a,.ref p])) (hp:H p=some (.lst [.ref l1])) (hr:H a=some (.tup<|.str "again"::v)) (h1:H l1=some (.lst<|e1.map V.ref)) (hB:B p/\B l1) (s1:Enm B nm H q1 e1) (s:Enm B nm H t es):Enm B nm H (.again n a q1 t) (e::es)
def Enm.keep{B C:Addr->Prop}(h:Enm B nm H l es)(t:Tup H H')(f:FrS M H H')(a:∀b,B b->b∉M/\C b):Enm C nm H' l es:=by
 induction h with
 | nil=>exact .nil
 | op h hr hb _ ih=>exact .op (t _ _ h) (t _ _ hr) hb ih
 | either h hp hr h1 h2 b _ _ _ i1 i2 ih=>exact .either (t _ _ h) (f _ _ (a _ b.1).1 hp) (t _ _ hr) (f _ _ (a _ b.2.1).1 h1) (f _ _ (a _ b.2.2).1 h2) ⟨(a _ b.1).2,(a _ b.2.1).2,(a _ b.2.2).2⟩ i1 i2 ih
 | again h hp hr h1 b _ _ i1 ih=>exact .again (t _ _ h) (f _ _ (a _ b.1).1 hp) (t _ _ hr) (f _ _ (a _ b.2).1 h1) ⟨(a _ b.1).2,(a _ b.2).2⟩ i1 ih
theorem Enm.app{B:Addr->Prop}(h:Enm B nm H L es)(g:Enm B nm H M fs):Enm B nm H (L.app M) (es++fs):=by
 induction h with
 | nil=>exact g
 | op h hr hb _ ih=>exact .op h hr hb ih
 | either h hp hr h1 h2 b s1 s2 _ _ _ ih=>exact .either h hp hr h1 h2 b s1 s2 ih
 | again h hp hr h1 b s1 _ _ ih=>exact .again h hp hr h1 b s1 ih
inductive QA(Z:Str->Option Str->Prop)(nm:List Str)(H:Hp)(n k:Nat)(a:Addr)(rs:List Addr)(L:LL)(k':Nat):Prop
 | mk(w:Str)(rest:List V)(ls:List (Addr×List Addr×LL×Nat×Nat))(k1:Nat)(Lr:LL)(M:LL)(h1:H a=some (.tup<|.str w::rest))(h2:iP w rest=ls.map λz=>V.ref z.1)
  (h3:∀z∈ls,H z.1=some (.tup<|z.2.1.map V.ref)/\∃n',n=n'+1/\Ly Z H n' z.2.2.2.1 z.2.1 z.2.2.1 z.2.2.2.2) (h4:∀(i:Nat) z,ls[i]?=some z->z.2.2.2.1=(if i=0 then k+1 else((ls[i-1]?).map λy=>y.2.2.2.2).getD 0)) (h5:k1=((ls.getLast?).map λy=>y.2.2.2.2).getD (k+1)) (h6:↑ls<=2)
  (h7:L=M.app Lr) (h8:∀(B:Addr->Prop)(e p:Addr)(ts:List Addr)(H':Hp),Tup H H'->H' e=some (.tup [.int k,.ref a,.ref p])->H' p=some (.lst<|ts.map V.ref)->B p->A2 (λz t=>∃es:List Addr,H' t=some (.lst<|es.map V.ref)/\B t/\Enm B nm H' z.2.2.1 es) ls ts->Enm B nm H' M [e]) (h9:Ly Z H n k1 rs Lr k') (h10:∀z∈ls,z.2.2.2.2<=k'):QA Z nm H n k a rs L k'
def Ly.mhd(h:Ly Z H n k (a::rs) L k')(x:∀k,Z k none->k∈nm):QA Z nm H n k a rs L k':=by
 cases h with
 | @op _ _ _ _ r _ L h hb t=>
  obtain⟨rest,e⟩:=r.hd;have w:¬(r.wd="either"\/r.wd="again"):=by cases r <;> (simp only[Rw.wd];rfl')
  exact⟨r.wd,rest,[],k+1,L,.op k a r .nil,by rw[h,e],by unfold iP;rw[aZ w];rfl,(λz hz=>nomatch hz),(λi z hz=>nomatch hz),rfl,bM _,rfl,λB q p ts H' f he hp _ b=>.op he (f _ _ h) (λk e=>x k<|hb k e) .nil,t,λz hz=>nomatch hz⟩
 | @again n _ k1 _ _ l rs1 _ L1 L h hl s t=>
  refine⟨"again",_,[(l,rs1,L1,k+1,k1)],k1,L,.again k a L1 .nil,h,by unfold iP;rw[bC<|.inr rfl];rfl,λz hz=>?_,λi z hz=>?_,rfl,by show 1<=2;decide,rfl,λB q p ts H' f he hp m b=>?_,t,λz hz=>by rw[wq1.mp hz];have:=t.rl;show k1<=k';lia⟩
  .rw[wq1.mp hz];exact⟨hl,n,rfl,s⟩
  .cases i with
   | zero=>cases hz;rfl
   | succ i=>cases hz
  .cases b with
   | cons r tl=>
    cases tl;obtain⟨es,o,j,d⟩:=r;exact .again he hp (f _ _ h) o ⟨m,j⟩ d .nil
 | @either n _ k1 k2 _ _ l1 l2 rs1 rs2 _ L1 L2 L h h1 h2 s1 s2 t=>
  refine⟨"either",_,[(l1,rs1,L1,k+1,k1),(l2,rs2,L2,k1,k2)],k2,L,.either k a L1 L2 .nil,h,by unfold iP;rw[bC<|.inl rfl];rfl,λz hz=>?_,λi z hz=>?_,rfl,by show 2<=2;decide,rfl,λB q p ts H' f he hp m b=>?_,t,λz hz=>by
   have:=t.rl;have:=s2.rl;rcases wp9.mp hz with rfl | hz
   .show k1<=k';lia
   .rw[wq1.mp hz];show k2<=k';lia⟩
  .rcases wp9.mp hz with rfl | hz
   .exact⟨h1,n,rfl,s1⟩
   .rw[wq1.mp hz];exact⟨h2,n,rfl,s2⟩
  .match i,hz with
   | 0,hz=>cases hz;rfl
   | 1,hz=>cases hz;rfl
  .cases b with
   | cons r tl=>
    cases tl with
    | cons r2 tl=>
     cases tl;obtain⟨es,o,j,d⟩:=r;obtain⟨E,A,C,u⟩:=r2;exact .either he hp (f _ _ h) o A ⟨m,j,C⟩ d u .nil
abbrev sM:Stmt:=top 73
abbrev mI:List Str:=["_law_run","_law_kind"]
inductive nH(vs:List V)(H:Hp)(Q:VK):Prop
 | mk(rn up:Addr)(kvs:List (aF×V))(tr:Tr)(n:Str)(l:List Str)(h1:vs=[.ref rn,.str n])(h2:H rn=some (.dK kvs))(h3:aG kvs (Sum.inr "up")=some (.ref up))(h4:H up=some (.dK<|cM tr))(h5:TrOk tr)(h6:↑tr<=12)(h7:Up tr n l)(q:∀a,H a=none->Q (.ref a) (upd H a<|.lst<|l.map V.str)):nH vs H Q
def LS:Sp:=λvs H Q _=>nH vs H Q
inductive NG(H:Hp)(rn pl:Addr)(tr:Tr)(l:List Str)(σ:St)(Hx:Hp):Prop
 | mk(dn:List Str)(kv:V)(h1:σ=[some<|.ref rn,some kv,some<|.ref pl])(h2:Hx=upd H pl (.lst<|dn.map V.str))(h3:↑dn<=12)(h4:(kv=.non/\dn=l)\/∃x rs,kv=.str x/\Up tr x rs/\dn++rs=l):NG H rn pl tr l σ Hx
def wj0:bZ ["_law_run","_law_kind","_law_found"] mI (bR sM):=cC
def uL(F:Fun K "_law_ups" "_law_ups" sM f fd):aR P w K mg base bQ (k+1) f fd mI LS:=by
 refine F.ok wj0 (λvs H Q E h=>?_) λa9 A outer s H vs Q E hr h=>?_
 .obtain⟨rn,d,kvs,tr,n,l,rfl,_⟩:=h;rfl
 obtain⟨rn,d,kvs,tr,n,l,rfl,Y,N,O,ok,a8,j,q⟩:=h;have C:=eC hr;exists _,aL (sL 2 wj0.nd<|cG aE)
  (aL (EN dJ (iL<|tH<|pv 1)<|aL (dQ<|eP eE fI fJ fG (pv 2)<|aA (pv 1) aE)<|aQ<|sL 1 wj0.nd<|bT C (bT C (pv 0) bD λ_ _=>rfl) (pv 1) λ_ _=>rfl)<|aQ<|bS<|pv 2)
 ac_rfl
 refine⟨bM _,λa r=>?_⟩;refine LZ (NG H rn a tr l) (λσ m=>match m a with | some (.lst xs)=>100-↑xs | _=>0) ⟨[],.str n,rfl,rfl,by decide,.inr ⟨n,l,rfl,j,rfl⟩⟩ ?_ ?_
 .rintro σ m ⟨dn,kv,rfl,rfl,hd,J⟩;have kp:∀{b:Addr}{u o:HO},H b=some u->upd H a o b=some u:=λe=>by rw[aC<|aP e r];exact e
  rcases J with ⟨rfl,rfl⟩ | ⟨x,rs,rfl,hx,hl⟩
  .exact⟨_,rfl,_,rfl,bE ⟨_,rfl,q a r⟩⟩
  .exists _,rfl,_,rfl;show if (!decide (V.str x=V.non))=true then _ else _
   rw[bC<|by simp];have Z:↑dn+1<=12:=by
    obtain⟨i,g,hi⟩:=j.at;have h1:=Up.len ok i n g l hi j;obtain⟨h2,_⟩:=zz2.mp hi;have I:=cF List.length hl;rw[bH]at I;have h4:1<=↑rs:=by cases hx <;> simp
    lia
   refine⟨_,rfl,.inl ⟨rfl,_,SqL.of zb1⟩,_,rfl,a,_,_,rfl,rfl,zb1,by rw[aK];exact bG (by lia),?_⟩;rw[gF];have ee:dn.map V.str++[V.str x]=(dn++[x]).map V.str:=by rw[bN];rfl
   have G:(match upd H a (.lst<|(dn++[x]).map V.str) a with | some (HO.lst xs)=>100-↑xs | _=>0)<(match upd H a (.lst<|dn.map V.str) a with | some (HO.lst xs)=>100-↑xs | _=>0):=by
    rw[zb1,zb1];show 100-↑((dn++[x]).map V.str)<100-↑(dn.map V.str);rw[aK,aK,bH,dU];lia
   have z:↑(dn++[x])<=12:=by rw[bH,dU];exact Z
   rw[ee];have M:DGet (upd H a<|.lst<|(dn++[x]).map V.str) rn (.str "up") (some<|.ref d):=by rw[<-N];exact DGet.k (k:=(Sum.inr "up":aF))<|kp Y
   have B:∀v,aG (cM tr) (Sum.inr x)=some v->DGet (upd H a<|.lst<|(dn++[x]).map V.str) d (.str x) (some v):=λv e=>by rw[<-e];exact DGet.k (k:=(Sum.inr x:aF))<|kp O
   exists _,rfl,rn,_,rfl,M,_,rfl;cases hx with
   | @root i _ hi=>exact⟨d,.non,rfl,B _<|uI ok hi,⟨dn++[x],.non,rfl,rfl,z,.inl ⟨rfl,hl⟩⟩,G⟩
   | @step i _ e l' hi hu'=>exact⟨d,.str e,rfl,B _<|uI ok hi,⟨dn++[x],.str e,rfl,rfl,z,.inr ⟨e,l',rfl,hu',by rw[gU];exact hl⟩⟩,G⟩
 .rintro σ m Q1 Q2 X ⟨W,h1,c,L,T⟩;exact⟨W,h1,c,L,X _ _ T⟩
abbrev uU:Stmt:=top 75
abbrev mN:List Str:=["_law_run","_law_number","_law_row_here","_law_env"]
structure yH(W:Lw)(tr:Tr):Prop where
 up:W.H0 W.up=some (.dK<|cM tr)
 ok:TrOk tr
 l12:↑tr<=12
 ln:∀k∈W.G.nm,Up tr k<|W.G.ln k
 nm:∀k,∀x∈W.G.ln k,x∈W.G.nm
 l2:∀k,↑(W.G.ln k)<=12
 ch:∀c∈W.G.ch,-100<=c
def Sub(A A':La):Prop:=∀{i:Nat}{a:Addr},A.δ[i]?=some a->A'.δ[i]?=some a
inductive nZ(vs:List V)(H:Hp)(Q:VK):Prop
 | mk(W:Lw)(tr:Tr)(rn ra na:Addr)(A:La)(T:Ts)(n m:Nat)(r:Rw)(h1:vs=[.ref rn,.int n,.ref ra,.ref na])(h2:LAt W H rn A T .non)(h3:yH W tr)(h4:H ra=some (.tup r.vs))(h5:A.δ[m]?=some na)(h6:LB W A T 1)(h7:T.dn<=10000)(h8:∀k,r=.bring k->k∈W.G.nm)
  (q:∀A' ev' H',LAt W H' rn A' (T.plain W.G n m r) ev'->LB W A' (T.plain W.G n m r) 0->Tup H H'->Sub A A'->Q .non H'):nZ vs H Q
def IM:Sp:=λvs H Q _=>nZ vs H Q
inductive CT(W:Lw)(H:Hp)(rn lb:Addr)(A:La)(T:Ts)(σ0:St)(l:List Str)(i:Nat)(σ:St)(Hx:Hp):Prop
 | mk(y:Option V)(ls:List Addr)(h1:σ=σ0++[y])(h2:LAt W Hx rn {A with ls:=ls} {T with S:=(l.take i).foldl Rs.come T.S} .non)(h3:Tup H Hx)(h4:Hx lb=some (.lst<|l.map V.str)):CT W H rn lb A T σ0 l i σ Hx
def wn3:bZ ["_law_run","_law_number","_law_row_here","_law_env","_law_word","_law_kind"] mN (bR uU):=cC
def rZ(F:Fun K "_law_do_plain" "_law_do_plain" uU f fd)(U:aS P w K mg base k "_law_ups" mI LS)(ml:mg "len"=none):aR P w K mg base bQ (k+1) f fd mN IM:=by
 refine F.ok wn3 (λvs H Q E h=>?_) λaf A outer s H vs Q E hr h=>?_
 .obtain⟨W,tr,rn,u,N,A,T,n,m,r,rfl,_⟩:=h;rfl
 obtain⟨W,tr,rn,u,N,A,⟨dn,S,e⟩,n,m,r,rfl,h,hW,L,hm,J,ah,ad,q⟩:=h;obtain rfl:e=none:=by cases h.le;rfl
 have l:=eC hr;exists _,aL (sL 4 wn3.nd<|eT (pv 2) aN)
  (aQ (cL (PW.pt<|kJ (bY eZ (pv 4) bD<|cE _)<|mU<|iL<|rL l (eT (pv 2) aN)<|bT l (pv 0) bD λ_ _=>rfl) (aL (fO l (pv 3) (eT (pv 2) aN) (eA iW rfl ml iR<|aA (bT l (pv 0) bD λ_ _=>rfl) aE) rfl)<|aQ<|dQ<|eP eE fI fJ fG (bT l (pv 0) bD λ_ _=>rfl)<|aA (bX<|aA (eT (pv 2) aN)<|aA mC aE) aE) (aQ (cL (bY eZ (pv 4) bD<|cE _) (aQ<|fO l (pv 0) bD (bX<|aA bD<|aA (pv 1) aE) rfl) (aQ (cL (bY eZ (pv 4) bD<|cE _) (aQ<|fO l (pv 3) (eT (pv 2) aN) (iS l (pv 3) (eT (pv 2) aN) ⟨rfl,rfl,rfl,rfl⟩) rfl) (aQ (cL (bY eZ (pv 4) bD<|cE _) (aQ<|dQ<|eP eE fI fJ fG (bT l (pv 0) bD λ_ _=>rfl)<|aA (bX<|aA bD<|aA (pv 1)<|aA (eT (pv 2) aN) aE) aE) (aQ (cL (bY eZ (pv 4) bD<|cE _) (aQ<|dZ dJ rfl (hZ<|HF (bB U hr rfl<|aA (pv 0)<|aA (eT (pv 2) aN) aE)<|kY lR aN) (gL 5 wn3.nd)<|aQ<|cL (iL<|Bk l (pv 5)<|bT l (pv 0) bD λ_ _=>rfl) (aL (fO l (bT l (pv 0) bD λ_ _=>rfl) (pv 5) zG rfl)<|aQ<|dQ<|eP eE fI fJ fG (bT l (pv 0) bD λ_ _=>rfl)<|aA (bX<|aA bD<|aA (pv 5) aE) aE) dD) (aQ (cL (iL<|oR<|iS l (pv 3) (bT l (GF (iA bD (eT (pv 2) aN)<|iA bD (eT (pv 2) aN) AC) rfl rfl (by intro z;cases z)<|by decide) (pv 4) λ_ _=>rfl) ⟨rfl,rfl,rfl,rfl⟩)
    (aQ<|fO l (pv 0) bD (bX<|aA bD<|aA (pv 1) aE) rfl)
   (aQ<|cL (bY eZ (pv 4) bD<|cE _) (aQ<|fO l (eT (eI (bT l (pv 0) bD λ_ _=>rfl)<|bT l (pv 3) (eT (pv 2) aN) λ_ _=>rfl) aN) (eT (pv 2) aN) (iS l (pv 3) (eT (pv 2) aN) ⟨rfl,rfl,rfl,rfl⟩) rfl)<|aQ<|fO l (pv 3) (eT (pv 2) aN) (iS l (eT (eI (bT l (pv 0) bD λ_ _=>rfl)<|bT l (pv 3) (eT (pv 2) aN) λ_ _=>rfl) aN) (eT (pv 2) aN) ⟨rfl,rfl,rfl,rfl⟩) rfl)))))))))))))
 ac_rfl
 have s2:2<=sizeLine:=cN (bG<|by decide);have s3:3<=sizeLine:=cN (bG<|by decide);have gK:∀{H':Hp}{M:La}{T':Ts}{ev' v:V}(key:aF),LAt W H' rn M T' ev'->aG (lF W M T' ev') key=some v->DGet H' rn (kV key) (some v):=λkey g e=>by rw[<-e];exact DGet.k g.run
 have few:∀{j:Nat}{d':List (aF×V)},A.ds[j]?=some d'->↑d'<sizeLine:=λe=>by
  have:=J.b2 _<|cU e;exact kF (by lia)
 have a6:∀{M:La}{T':Ts}{ev':V},↑(lF W M T' ev')<sizeLine:=λ{_ _ _}=>bG (by show 10<=1000;decide)
 cases r with
 | make x k=>
  exists _,rfl,u,_,_,_,rfl,rfl,SqT.of L,fK _ _;refine⟨_,rfl,rfl,_,rfl,cH ⟨_,rfl,u,_,_,_,rfl,rfl,SqT.of L,rfl,_,rfl,rn,_,rfl,gK (Sum.inr "around") h rfl,A.ar,_,rfl,DGet.k (k:=(Sum.inr k:aF)) h.ar,?_⟩⟩;exists _,rfl;rw[pA];have O:∀M ev' H',LAt W H' rn M ⟨dn,(if k∈S.hr then(((S.make k).put m x<|.int S.ts.length),none) else(S,some "absent"):Rs×Option Str).1,(if k∈S.hr then(((S.make k).put m x<|.int S.ts.length),none) else(S,some "absent"):Rs×Option Str).2.map (·,n)⟩ ev'->LB W M ⟨dn,(if k∈S.hr then(((S.make k).put m x<|.int S.ts.length),none) else(S,some "absent"):Rs×Option Str).1,(if k∈S.hr then(((S.make k).put m x<|.int S.ts.length),none) else(S,some "absent"):Rs×Option Str).2.map (·,n)⟩ 0->Tup H H'->Sub A M->Q .non H':=q
  by_cases c:k∈S.hr
  .rw[eW c];simp only[bC c]at O;obtain⟨d,d',e1,e2,B,e4,e5⟩:=h.dict hm;refine cH ⟨_,rfl,rn,_,rfl,gK (Sum.inr "things") h rfl,_,_,rfl,.inl<|SqL.of h.th,_,rfl,_,rfl,u,_,_,_,rfl,rfl,SqT.of L,rfl,N,_,rfl,DPut.k (k:=(Sum.inr x:aF)) B<|few e2,?_⟩;have ab:m<S.ds.length:=(zz2.mp e1).1;obtain⟨C,Y⟩:=h.put hm B x<|.int S.ts.length;have a0:=Y _ _ L;have el:↑(A.θ.map V.ref)=S.ts.length:=by rw[aK,<-h.li.th.len]
   rw[el];refine⟨_,rfl,rn,_,rfl,gK (Sum.inr "things") C rfl,.inl ⟨rfl,_,SqL.of C.th⟩,_,rfl,u,_,_,_,rfl,rfl,SqT.of a0,rfl,λb a5=>⟨s2,λt I=>?_⟩⟩;have g2:=C.dic (d:=[]) (d':=[]) a5 λ_=>rfl;have g3:=(g2.new (o:=.tup [.str k,.ref b]) I).thg (z:=(k,S.ds.length)) zb1 (by
    show(A.δ++[b])[S.ds.length]?=some b;rw[h.li.dq.len,<-h.li.dl,kN<|aW _,xD];rfl)
   have e6:(⟨dn,Rs.thg (Rs.dic (S.put m x<|.int S.ts.length) []) (k,S.ds.length),none⟩:Ts)=⟨dn,(S.make k).put m x<|.int S.ts.length,none⟩:=by rw[Bi ab]
   have g4:LAt W _ rn _ ⟨dn,(S.make k).put m x<|.int S.ts.length,none⟩ _:=e6▸g3.1;have q1:=O _ _ _ g4;refine⟨_,_,_,rfl,rfl,(g2.new I).th,kF (by rw[el];have:=J.b3;lia),q1 (J.make ab e2 c) (Y.trans<|(Tup.new a5).trans<|(Tup.new I).trans g3.2) λe=>sZ e⟩
  .rw[gR c];simp only[aZ c]at O;refine bE ⟨_,rfl,rfl,_,rfl,cH ⟨_,rfl,s2,λt I=>?_⟩⟩;have g:=h.endw I "absent" n;exact⟨_,rfl,rn,_,rfl,DPut.k (k:=(Sum.inr "end":aF)) (h.new I).run a6,O _ _ _ g.1 (J.less.ends _ _) g.2 λe=>e⟩
 | copy x y=>
  exists _,rfl,u,_,_,_,rfl,rfl,SqT.of L,fK _ _;obtain⟨d,d',e1,e2,B,e4,e5⟩:=h.dict hm;obtain⟨_,f1,X,f3⟩:=h.got J hm y;cases f1.symm.trans B;refine⟨_,rfl,rfl,_,rfl,bE<|bE ⟨_,rfl,rfl,_,rfl,bE ⟨_,rfl,rfl,_,rfl,cH ⟨_,rfl,N,rfl,.inl ⟨_,.inl B⟩,_,rfl,u,_,_,_,rfl,rfl,SqT.of L,rfl,_,DGet.k (k:=(Sum.inr y:aF)) B,_,rfl,_,rfl,u,_,_,_,rfl,rfl,SqT.of L,rfl,N,_,rfl,DPut.k (k:=(Sum.inr x:aF)) B<|few e2,?_⟩⟩⟩⟩;rw[X];have g:=h.put hm B x<|S.get m y;have q1:=q _ _ _ g.1;exact q1 (J.put e2 f3) g.2 λe=>e
 | put x g y=>
  exists _,rfl,u,_,_,_,rfl,rfl,SqT.of L,fK _ _;obtain⟨d,d',e1,e2,B,e4,e5⟩:=h.dict hm;obtain⟨_,f1,X,f3⟩:=h.got J hm x;cases f1.symm.trans B;refine⟨_,rfl,rfl,_,rfl,bE<|bE ⟨_,rfl,rfl,_,rfl,bE ⟨_,rfl,rfl,_,rfl,bE ⟨_,rfl,rfl,_,rfl,bE ⟨_,rfl,rfl,_,rfl,bE ⟨_,rfl,N,rfl,.inl ⟨_,.inl B⟩,λp hp=>⟨_,rfl,u,_,_,_,rfl,rfl,SqT.of<|(Tup.new hp) _ _ L,rfl,_,rfl,u,_,_,_,rfl,rfl,SqT.of<|(Tup.new hp) _ _ L,rfl,zb1,[(Sum.inr "put",.str x),(Sum.inr "take",.str g)],rfl,(by show 2<=15;decide),_,rfl,p,_,rfl,DGet.k (k:=(Sum.inr "put":aF)) zb1,?_⟩⟩⟩⟩⟩⟩⟩;rw[gF];have h1:=h.new (o:=.dK<|cO [] [(Sum.inr "put",.str x),(Sum.inr "take",.str g)]) hp;have a0:=(Tup.new (o:=.dK<|cO [] [(Sum.inr "put",.str x),(Sum.inr "take",.str g)]) hp) _ _ L;have Z:upd H p (.dK<|cO [] [(Sum.inr "put",.str x),(Sum.inr "take",.str g)]) N=some (.dK d'):=by rw[aC<|aP B hp];exact B
  have Y:Tup H (upd H p<|.dK<|cO [] [(Sum.inr "put",.str x),(Sum.inr "take",.str g)]):=Tup.new hp;generalize upd H p (.dK<|cO [] [(Sum.inr "put",.str x),(Sum.inr "take",.str g)])=H1 at h1 a0 Z Y;exists _,DGet.k (k:=(Sum.inr x:aF)) Z;rw[X];have O:∀M ev' H',LAt W H' rn M ⟨dn,(S.thing (S.get m x) λj=>(S.put (S.dict j) g<|S.get m y,none)).1,(S.thing (S.get m x) λj=>(S.put (S.dict j) g<|S.get m y,none)).2.map (·,n)⟩ ev'->LB W M ⟨dn,(S.thing (S.get m x) λj=>(S.put (S.dict j) g<|S.get m y,none)).1,(S.thing (S.get m x) λj=>(S.put (S.dict j) g<|S.get m y,none)).2.map (·,n)⟩ 0->Tup H H'->Sub A M->Q .non H':=q;rcases f3 with e | ⟨j,e,hj⟩
  .rw[e]at O ⊢;refine⟨_,rfl,cH ⟨_,rfl,s2,λt I=>?_⟩⟩;have C:=h1.endw I "nothing" n;exact⟨_,rfl,rn,_,rfl,DPut.k (k:=(Sum.inr "end":aF)) (h1.new I).run a6,O _ _ _ C.1 (J.less.ends _ _) (Y.trans C.2) λe=>e⟩
  .have ev:aG d' (Sum.inr x)=some (.int j):=by
    cases z:aG d' (Sum.inr x)with
    | none=>rw[z]at X;rw[<-X]at e;cases e
    | some v=>rw[z]at X;rw[<-X]at e;exact cF some e
   rw[e]at O ⊢;obtain⟨t,a,e6,e7,e8⟩:=h1.thing hj;obtain⟨b,b',c1,c2,c3,c4,c5⟩:=h1.dict e8;have aa:dY (A.θ.map V.ref) (j:Int)=some (.ref t):=lL (by rw[bO,e6];rfl);have a8:DGet H1 N (.str x) (some<|.int j):=by rw[<-ev];exact DGet.k (k:=(Sum.inr x:aF)) Z
   obtain⟨_,y1,y2,y3⟩:=h1.got J hm y;cases y1.symm.trans Z;refine⟨_,rfl,bE ⟨_,rfl,rfl,_,rfl,cH ⟨_,rfl,N,rfl,.inl ⟨_,.inl Z⟩,_,rfl,u,_,_,_,rfl,rfl,SqT.of a0,rfl,_,DGet.k (k:=(Sum.inr y:aF)) Z,_,rfl,rn,_,rfl,gK (Sum.inr "things") h1 rfl,_,rfl,_,rfl,u,_,_,_,rfl,rfl,SqT.of a0,rfl,N,_,rfl,a8,A.th,_,_,_,rfl,rfl,SqL.of h1.th,aa,t,_,_,_,rfl,rfl,SqT.of e7,rfl,_,rfl,u,_,_,_,rfl,rfl,SqT.of a0,rfl,a,_,rfl,DPut.k (k:=(Sum.inr g:aF)) c3<|few c2,?_⟩⟩⟩;rw[y2];have C:=h1.put e8 c3 g<|S.get m y;have q1:=O _ _ _ C.1;exact q1 (J.put c2 y3) (Y.trans C.2) λe=>e
 | take x y g=>
  exists _,rfl,u,_,_,_,rfl,rfl,SqT.of L,fK _ _;obtain⟨d,d',e1,e2,B,e4,e5⟩:=h.dict hm;obtain⟨_,f1,X,f3⟩:=h.got J hm y;cases f1.symm.trans B;refine⟨_,rfl,rfl,_,rfl,bE<|bE ⟨_,rfl,rfl,_,rfl,bE ⟨_,rfl,rfl,_,rfl,bE ⟨_,rfl,rfl,_,rfl,bE ⟨_,rfl,rfl,_,rfl,bE ⟨_,rfl,N,rfl,.inl ⟨_,.inl B⟩,λp hp=>⟨_,rfl,u,_,_,_,rfl,rfl,SqT.of<|(Tup.new hp) _ _ L,rfl,_,rfl,u,_,_,_,rfl,rfl,SqT.of<|(Tup.new hp) _ _ L,rfl,zb1,[(Sum.inr "put",.str x),(Sum.inr "take",.str y)],rfl,(by show 2<=15;decide),_,rfl,p,_,rfl,DGet.k (k:=(Sum.inr "take":aF)) zb1,?_⟩⟩⟩⟩⟩⟩⟩;rw[gF];have h1:=h.new (o:=.dK<|cO [] [(Sum.inr "put",.str x),(Sum.inr "take",.str y)]) hp;have a0:=(Tup.new (o:=.dK<|cO [] [(Sum.inr "put",.str x),(Sum.inr "take",.str y)]) hp) _ _ L;have Z:upd H p (.dK<|cO [] [(Sum.inr "put",.str x),(Sum.inr "take",.str y)]) N=some (.dK d'):=by rw[aC<|aP B hp];exact B
  have Y:Tup H (upd H p<|.dK<|cO [] [(Sum.inr "put",.str x),(Sum.inr "take",.str y)]):=Tup.new hp;generalize upd H p (.dK<|cO [] [(Sum.inr "put",.str x),(Sum.inr "take",.str y)])=H1 at h1 a0 Z Y;exists _,DGet.k (k:=(Sum.inr y:aF)) Z;rw[X];have O:∀M ev' H',LAt W H' rn M ⟨dn,(S.thing (S.get m y) λj=>(S.put m x<|S.get (S.dict j) g,none)).1,(S.thing (S.get m y) λj=>(S.put m x<|S.get (S.dict j) g,none)).2.map (·,n)⟩ ev'->LB W M ⟨dn,(S.thing (S.get m y) λj=>(S.put m x<|S.get (S.dict j) g,none)).1,(S.thing (S.get m y) λj=>(S.put m x<|S.get (S.dict j) g,none)).2.map (·,n)⟩ 0->Tup H H'->Sub A M->Q .non H':=q;rcases f3 with e | ⟨j,e,hj⟩
  .rw[e]at O ⊢;refine⟨_,rfl,cH ⟨_,rfl,s2,λt I=>?_⟩⟩;have C:=h1.endw I "nothing" n;exact⟨_,rfl,rn,_,rfl,DPut.k (k:=(Sum.inr "end":aF)) (h1.new I).run a6,O _ _ _ C.1 (J.less.ends _ _) (Y.trans C.2) λe=>e⟩
  .have ev:aG d' (Sum.inr y)=some (.int j):=by
    cases z:aG d' (Sum.inr y)with
    | none=>rw[z]at X;rw[<-X]at e;cases e
    | some v=>rw[z]at X;rw[<-X]at e;exact cF some e
   rw[e]at O ⊢;obtain⟨t,a,e6,e7,e8⟩:=h1.thing hj;obtain⟨b,b',c1,c2,c3,c4,c5⟩:=h1.dict e8;have aa:dY (A.θ.map V.ref) (j:Int)=some (.ref t):=lL (by rw[bO,e6];rfl);have a8:DGet H1 N (.str y) (some<|.int j):=by rw[<-ev];exact DGet.k (k:=(Sum.inr y:aF)) Z
   obtain⟨_,y1,y2,y3⟩:=h1.got J e8 g;cases y1.symm.trans c3;refine⟨_,rfl,bE ⟨_,rfl,rfl,_,rfl,bE ⟨_,rfl,rn,_,rfl,gK (Sum.inr "things") h1 rfl,_,rfl,_,rfl,u,_,_,_,rfl,rfl,SqT.of a0,rfl,N,_,rfl,a8,A.th,_,_,_,rfl,rfl,SqL.of h1.th,aa,t,_,_,_,rfl,rfl,SqT.of e7,rfl,a,rfl,.inl ⟨_,.inl c3⟩,_,rfl,u,_,_,_,rfl,rfl,SqT.of a0,rfl,_,DGet.k (k:=(Sum.inr g:aF)) c3,_,rfl,_,rfl,u,_,_,_,rfl,rfl,SqT.of a0,rfl,N,_,rfl,DPut.k (k:=(Sum.inr x:aF)) Z<|few e2,?_⟩⟩⟩;rw[y2];have C:=h1.put hm Z x<|S.get (S.dict j) g;have q1:=O _ _ _ C.1;exact q1 (J.put e2 y3) (Y.trans C.2) λe=>e
 | say v=>
  exists _,rfl,u,_,_,_,rfl,rfl,SqT.of L,fK _ _;refine⟨_,rfl,rfl,_,rfl,bE<|bE ⟨_,rfl,rfl,_,rfl,bE ⟨_,rfl,rfl,_,rfl,bE ⟨_,rfl,rfl,_,rfl,cH ⟨_,rfl,rn,_,rfl,gK (Sum.inr "log") h rfl,.inl ⟨rfl,_,SqL.of h.lo⟩,_,rfl,_,rfl,u,_,_,_,rfl,rfl,SqT.of L,rfl,s3,λt I=>?_⟩⟩⟩⟩⟩;have h1:=h.new (o:=.tup [.str "say",.int n,.str v]) I;have g:=h1.say zb1;have q1:=q _ _ _ g.1;exact⟨_,_,_,rfl,rfl,h1.lo,kF (by rw[aK,<-h.li.lg.len];have:=J.b1;lia),q1 (J.say _ _) ((Tup.new I).trans g.2) λe=>e⟩
 | bring k=>
  exists _,rfl,u,_,_,_,rfl,rfl,SqT.of L,fK _ _;have hk:=ad k rfl;refine⟨_,rfl,rfl,_,rfl,bE<|bE ⟨_,rfl,rfl,_,rfl,bE ⟨_,rfl,rfl,_,rfl,bE ⟨_,rfl,rfl,_,rfl,bE ⟨_,rfl,rfl,_,rfl,cH ⟨_,rfl,_,rfl,u,_,_,_,rfl,rfl,SqT.of L,rfl,rn,W.up,_,tr,k,W.G.ln k,rfl,h.run,rfl,h.lm.kp _ _ hW.up,hW.ok,hW.l12,hW.ln k hk,λla a9=>⟨_,rfl,rfl,la,_,rfl,SqL.of zb1,λlb a4=>?_⟩⟩⟩⟩⟩⟩⟩;rw[<-List.map_reverse];have nl:A.lo≠lb:=aP (h.new a9).lo a4;have h1:=(h.new (o:=.lst<|(W.G.ln k).map V.str) a9).new (o:=.lst<|(W.G.ln k).reverse.map V.str) a4;have a7:upd (upd H la<|.lst<|(W.G.ln k).map V.str) lb (.lst<|(W.G.ln k).reverse.map V.str) lb=some (.lst<|(W.G.ln k).reverse.map V.str):=zb1;have Y:Tup H (upd (upd H la<|.lst<|(W.G.ln k).map V.str) lb<|.lst<|(W.G.ln k).reverse.map V.str):=(Tup.new a9).trans<|Tup.new a4;generalize upd (upd H la<|.lst<|(W.G.ln k).map V.str) lb (.lst<|(W.G.ln k).reverse.map V.str)=H1 at h1 a7 Y;exists lb,rfl,⟨_,SqL.of a7⟩;refine pO (xs:=(W.G.ln k).reverse.map V.str) (CT W H1 rn lb A ⟨dn,S,none⟩ [some<|.ref rn,some<|.int n,some<|.ref u,some<|.ref N,some<|.str "bring"] (W.G.ln k).reverse) ⟨_,A.ls,rfl,h1,λ_ _ h=>h,a7⟩ ?_ ?_ ?_
  .rintro i σ Hx hi ⟨_,_,_,_,_,hx⟩;exact SqL.of hx
  .rintro i x σ Hx hx ⟨y,ls,rfl,gx,tx,a3⟩;obtain⟨hi,_⟩:=zz2.mp hx;rw[aK]at hi;rw[bO,bF hi]at hx;cases hx;have e2:(W.G.ln k).reverse.take (i+1)=(W.G.ln k).reverse.take i++[(W.G.ln k).reverse[i]]:=DG hi;have ac:↑((W.G.ln k).reverse.take i)<=12:=by
    have:=hW.l2 k;rw[eM,lA];lia
   obtain⟨c1,c2,_,_,_,_⟩:=yE ((W.G.ln k).reverse.take i) S;have a5:=J.b1;have ag:=J.b4;generalize (W.G.ln k).reverse[i]=x at e2;exists _,rfl,_,rfl,rn,_,rfl,gK (Sum.inr "around") gx rfl,A.ar,_,rfl,DGet.k (k:=(Sum.inr x:aF)) gx.ar,_,rfl;show if (!(aG (fN (((W.G.ln k).reverse.take i).foldl Rs.come S).hr)<|Sum.inr x).isSome)=true then _ else _
   rw[pA];have B:((W.G.ln k).reverse.take<|i+1).foldl Rs.come S=(((W.G.ln k).reverse.take i).foldl Rs.come S).come x:=by rw[e2,GD];rfl
   generalize ((W.G.ln k).reverse.take i).foldl Rs.come S=Si at gx B c1 c2
   by_cases c:x∈Si.hr
   .rw[eW c];refine bE ⟨_,ls,rfl,?_,tx,a3⟩;rw[B,show Si.come x=Si from bC c];exact gx
   .rw[gR c];obtain⟨C,t2⟩:=gx.her c;refine cH ⟨_,rfl,rn,_,rfl,gK (Sum.inr "around") gx rfl,_,rfl,A.ar,_,rfl,DPut.k (k:=(Sum.inr x:aF)) gx.ar<|kF (by unfold fN;rw[aK];show Si.hr.length<=_;lia),?_⟩;refine⟨_,rfl,rn,_,rfl,gK (Sum.inr "log") C rfl,.inl ⟨rfl,_,SqL.of C.lo⟩,_,rfl,s2,λt I=>?_⟩;have g2:=(C.new (o:=.tup [.str "came",.str x]) I).say zb1;have ae:lb≠A.ar:=λz=>by rw[z,gx.ar]at a3;cases a3
    exists _,_,_,rfl,rfl,(C.new I).lo,kF (by show(ls.map V.ref).length<=_;rw[aK,<-gx.li.lg.len];show Si.lg.length<=_;lia),_,ls++[t],rfl,?_,tx.trans<|t2.trans<|(Tup.new I).trans g2.2
    .rw[B,show Si.come x=(Si.her x).say [.str "came",.str x] from aZ c];exact g2.1
    .have k1:∀o,upd Hx A.ar o lb=some (.lst<|(W.G.ln k).reverse.map V.str):=λo=>by rw[aC ae];exact a3
     rw[aC<|bK nl,aC<|aP (k1 _) I];exact k1 _
  .rintro σ Hx ⟨y,ls,rfl,gx,tx,a3⟩;rw[aK,xB]at gx;have q1:=q _ _ _ gx;exact q1 (J.come (by rw[lA];exact hW.l2 k) (λx hx=>hW.nm k x<|List.mem_reverse.mp hx) _) (Y.trans tx) λe=>e
abbrev vI:Stmt:=top 76
abbrev jG:List Str:=["_law_run","_law_rows_here","_law_env"]
abbrev xJ:=Enm λ_=>True
def LL.deL:LL->Nat
 | .nil=>0
 | .op _ _ _ t=>t.deL
 | .either _ _ p q t=>max (max p.deL q.deL+1) t.deL
 | .again _ _ p t=>max (p.deL+1) t.deL
structure LR(W:Lw)(H:Hp)(rn:Addr)(A A':La)(T:Ts)(ev:V)(H':Hp):Prop where
 a:LAt W H' rn A' T ev
 b:LB W A' T 0
 d:T.dn<=W.mo.toNat
 t:Tup H H'
 s:Sub A A'
abbrev dL(W:Lw)(m:Nat)(l:LL)(T:Ts):Ts:=fM W.G W.mo.toNat m l T
inductive JU(n:Nat)(vs:List V)(H:Hp)(Q:VK):Prop
 | mk(W:Lw)(tr:Tr)(rn rl na:Addr)(A:La)(T:Ts)(m:Nat)(l:LL)(es:List Addr)(ev:V)(h1:vs=[.ref rn,.ref rl,.ref na])(h2:LR W H rn A A T ev H)(h3:yH W tr)(h4:W.H0 rl=some (.lst<|es.map V.ref))(h5:xJ W.G.nm W.H0 l es)(h6:l.deL<=n)(h7:A.δ[m]?=some na)(h8:W.mo<=2000)
  (q:∀A' ev' H',LR W H rn A A' (dL W m l T) ev' H'->Q .non H'):JU n vs H Q
def DW(n:Nat):Sp:=λvs H Q _=>JU n vs H Q
def sF:Nat->Sp
 | 0=>λ_ _ _ _=>False
 | n+1=>DW n
inductive tG(W:Lw)(n:Nat)(H:Hp)(rn rl na:Addr)(A:La)(m:Nat)(es:List Addr)(Tf:Ts)(i:Nat)(σ:St)(Hx:Hp):Prop
 | mk(A':La)(T:Ts)(ev:V)(l:LL)(y1 y2 y3 y4 y5:Option V)(h1:σ=[some<|.ref rn,some<|.ref rl,some<|.ref na,y1,y2,y3,y4,y5])(h2:LR W H rn A A' T ev Hx)(h3:xJ W.G.nm W.H0 l (es.drop i))(h4:l.deL<=n)(h5:dL W m l T=Tf):tG W n H rn rl na A m es Tf i σ Hx
inductive zC(W:Lw)(H:Hp)(rn rl na:Addr)(A:La)(m:Nat)(vs:List (Option V))(f:Ts->Ts)(c:Nat)(Tf:Ts)(i:Nat)(σ:St)(Hx:Hp):Prop
 | mk(A':La)(T:Ts)(ev:V)(y:Option V)(h1:σ=[some<|.ref rn,some<|.ref rl,some<|.ref na]++vs++[y])(h2:LR W H rn A A' T ev Hx)(h3:vJ f (c-i) T=Tf):zC W H rn rl na A m vs f c Tf i σ Hx
def GO{T:Ts}(h:T.e=none)(c:¬mo<=T.dn):T.row mo n f=f {T with dn:=T.dn+1}:=by unfold Ts.row;rw[h];exact aZ c
def Bv{T:Ts}(h:T.e=none)(c:mo<=T.dn):T.row mo n f=T.ends "long" n:=by unfold Ts.row;rw[h];exact bC c
def LR.step{W:Lw}{A f i:La}(h:LR W H rn A f T ev H1)(g:LR W H1 rn f i T' ev' H2):LR W H rn A i T' ev' H2:=⟨g.a,g.b,g.d,h.t.trans g.t,λe=>g.s<|h.s e⟩
theorem Enm.hd(h:xJ nm H l (e::es))(G:Pg)(mo m:Nat):∃(n:Nat)(a p:Addr)(w:Str)(rest:List V)(t:LL)(f:Ts->Ts),H e=some (.tup [.int n,.ref a,.ref p])/\H a=some (.tup<|.str w::rest)/\∀T,fM G mo m l T=fM G mo m t (T.row mo n f):=by
 cases h with
 | op h hr hb s=>exact⟨_,_,_,_,_,_,_,h,(Rw.hd ‹_›).choose_spec▸hr,λT=>rfl⟩
 | either h hp hr h1 h2 _ s1 s2 s=>exact⟨_,_,_,_,_,_,_,h,hr,λT=>rfl⟩
 | again h hp hr h1 _ s1 s=>exact⟨_,_,_,_,_,_,_,h,hr,λT=>rfl⟩
theorem LB.rd{W:Lw}(b:LB W A T s):LB W A T.rd s:=⟨b.dk,b.b1,b.b2,b.b3,b.b4,b.hn,b.tn⟩
def LAt.pop{W:Lw}(h:LAt W H rn A T ev):LAt W (upd H A.ch<|.lst<|(W.G.ch.drop<|T.S.rd+1).map V.int) rn A T.rd ev/\Tup H (upd H A.ch<|.lst<|(W.G.ch.drop<|T.S.rd+1).map V.int):=by
 obtain⟨m,f⟩:=jH (o':=.lst<|(W.G.ch.drop<|T.S.rd+1).map V.int) h.lm (i:=2) rfl λxs z=>nomatch z;exact⟨⟨⟨h.li.lg.imp λ_ _ g=>f _ _ g,h.li.th.imp λ_ _ ⟨a,e,g⟩=>⟨a,e,f _ _ g⟩,h.li.dq,h.li.dl⟩,h.le.keep f,m⟩,f⟩
def OH{W:Lw}{K:Fq}{σ:St}{Q:VK}(h:LAt W H rn A T ev)(h0:σ[0]?=some (some<|.ref rn))(q:∀H',LAt W H' rn A T.rd ev->Tup H H'->Q (.int<|T.S.pick W.G) H'):
  NV (iC<|dC (vP K true) (nS (aI 0)<|tC<|.str "choices")<|iG aX) (tE K "list" JG (nS (aI 0)<|tC<|.str "choices")<|aY (tC<|.int 0) aX) (tC<|.int 0) σ H Q:=by
 have i:∀{H':Hp},LAt W H' rn A T ev->DGet H' rn (.str "choices") (some<|.ref A.ch):=λg=>DGet.k (k:=(Sum.inr "choices":aF)) g.run;refine⟨_,h0,rn,_,rfl,i h,bM _,λpe b=>?_⟩;have h1:=h.new (o:=.lst []) b;exists A.ch,pe,_,rfl,rfl,aP h.ch b,SqL.of h1.ch,SqL.of zb1,_,rfl;have j:Tup H (upd H pe<|.lst []):=Tup.new b;cases e:W.G.ch.drop T.S.rd with
 | nil=>
  refine bE ?_;have d:W.G.ch.drop (T.S.rd+1)=[]:=by rw[<-List.drop_drop,e];rfl
  have a:T.S.pick W.G=0:=by unfold Rs.pick;rw[eX,List.getElem?_eq_none<|List.drop_eq_nil_iff.mp e];rfl
  have g:LAt W (upd H pe<|.lst []) rn A T.rd ev:=⟨⟨h1.li.lg,h1.li.th,h1.li.dq,h1.li.dl⟩,h1.le,by
   have m:=h1.lm;show MAt W.H0 ((rn,_)::(A.ar,_)::(A.ch,.lst<|(W.G.ch.drop<|T.S.rd+1).map V.int)::_) _;unfold lM at m;rw[e]at m;rw[d];exact m⟩
  have:=q _ g j;rw[a]at this;exact this
 | cons c cs=>
  refine cH ?_;have d:W.G.ch.drop (T.S.rd+1)=cs:=by rw[<-List.drop_drop,e];rfl
  have a:T.S.pick W.G=c:=by
   unfold Rs.pick;have:(W.G.ch.drop T.S.rd)[0]?=some c:=by rw[e];rfl
   rw[List.getElem?_drop,Nat.add_zero]at this;rw[eX,this];rfl
  have f:=h1.ch;obtain⟨g,l⟩:=h1.pop;rw[d]at g l;rw[e]at f;have:=q _ g<|j.trans l;rw[a]at this;exact⟨_,h0,rn,_,rfl,i h1,.inl ⟨rfl,_,SqL.of f⟩,A.ch,_,0,0,_,rfl,rfl,f,by decide,by decide,by unfold seqIndex?;simp,rfl,this⟩
def xb4:bZ ["_law_run","_law_rows_here","_law_env","_law_number","_law_row_here","_law_lots","_law_chosen","_law_turn"] jG (bR vI):=cC
def RW{n k:Nat}(F:Fun K "_law_do" "_law_do" vI f fd)(PL:aS P w K mg base k "_law_do_plain" mN IM)(DO:aS P w K mg base k "_law_do" jG (sF n))(mi:mg "int"=none)(mr:mg "range"=none)(mn:mg "min"=none):aR P w K mg base bQ (k+1) f fd jG (DW n):=by
 refine F.ok xb4 (λvs H Q E h=>?_) λah A outer s H vs Q E hr h=>?_
 .obtain⟨W,tr,rn,rl,J,A,T,m,l,es,ev,rfl,_⟩:=h;rfl
 obtain⟨W,tr,rn,rl,J,A,T,m,l,es,ev,rfl,h,hW,aa,ae,ac,hm,a7,q⟩:=h;have M:=eC hr;exists _,aQ (dZ dJ rfl (hZ<|pv 1) (eG (n:=3) rfl<|bL (gL 3 xb4.nd)<|bL (gL 4 xb4.nd)<|bL (gL 5 xb4.nd) eK) (aL (cL (iL<|tH<|bT M (pv 0) bD λ_ _=>rfl) (aQ SG) dD) (aL (cL (bY yO (bT M (pv 0) bD λ_ _=>rfl) aN<|cE _) (aL (fO M (pv 0) bD (bX<|aA bD<|aA (pv 3) aE) rfl)<|aQ SG) dD) (aL (fO M (pv 0) bD (cA lO (bT M (pv 0) bD λ_ _=>rfl) aN) rfl) (aQ (cL (bY eZ (eT (pv 4) aN) bD<|cE _) MA (aQ (cL (PW.pt<|IJ (bY eZ (eT (pv 4) aN) bD<|cE _)<|KA<|bY eZ (eT (pv 4) aN) bD<|cE _) (aL (sL 6 xb4.nd<|wV (bY (AB<|mF M) (bT M (pv 0) bD λ_ _=>rfl) (cG aE)<|cE _) (eP eE PySem.F.slot_list_pop PySem.F.type_list_pop OF (bT M (pv 0) bD λ_ _=>rfl)<|aA aN aE) aN) (aQ (cL (bY eZ (eT (pv 4) aN) bD<|cE _) (aQ<|dQ<|bB DO hr rfl<|aA (pv 0)<|aA (eI (pv 5)<|dS zM rfl mi (by rfl')<|aA (pS yL (pv 6) aN<|cE _) aE)<|aA (pv 2) aE)
     (aQ (dZ dJ rfl (lC rfl mr<|aA (eA (HP rfl) rfl mn (by rfl')<|aA aN<|aA (pv 6) aE) aE) (gL 7 xb4.nd)
      (aQ<|dQ<|bB DO hr rfl<|aA (pv 0)<|aA (eI (pv 5) aN)<|aA (pv 2) aE))))))
    (aQ<|dQ<|bB PL hr rfl<|aA (pv 0)<|aA (pv 3)<|aA (pv 4)<|aA (pv 2) aE)))))))))
 ac_rfl
 have s2:2<=sizeLine:=cN (bG<|by decide);have gK:∀{H':Hp}{I:La}{T':Ts}{ev' v:V}(u:aF),LAt W H' rn I T' ev'->aG (lF W I T' ev') u=some v->DGet H' rn (kV u) (some v):=λu g e=>by rw[<-e];exact DGet.k g.run
 have a6:∀{I:La}{T':Ts}{ev':V},↑(lF W I T' ev')<sizeLine:=λ{_ _ _}=>bG (by show 10<=1000;decide)
 exists _,rfl,rl,rfl,⟨_,SqL.of<|h.a.lm.kp _ _ aa⟩;refine pO (xs:=es.map V.ref) (tG W n H rn rl J A m es<|dL W m l T) ⟨A,T,ev,l,_,_,_,_,_,rfl,h,by rw[oY];exact ae,ac,rfl⟩ ?_ ?_ ?_
 .rintro i σ Hx hi ⟨_,_,_,_,_,_,_,_,_,_,hx,_⟩;exact SqL.of<|hx.a.lm.kp _ _ aa
 .rintro i x σ Hx hx ⟨B,o,ag,l1,y1,y2,y3,y4,y5,rfl,h1,hE,a1,N⟩;rw[bO]at hx;obtain⟨e,he,rfl⟩:=wq8.mp hx;obtain⟨hi,he⟩:=zz2.mp he;rw[nT hi,he]at hE;obtain⟨Z,a,p,wd,rest,t,fr,g1,C,g3⟩:=Enm.hd hE W.G W.mo.toNat m;have kp:=h1.a.lm.kp;exists e,_,rfl,SqT.of<|kp _ _ g1,rfl,_,_,rfl,_,_,rfl,_,_,rfl,rfl;have a4:=N;rw[show dL W m l1 o=_ from g3 o]at N;have a2:=h1.a.le;cases hTe:o.e with
  | some z=>
   rw[EU hTe,uJ _ _ hTe]at N;rw[hTe]at a2;cases a2 with
   | «end» _=>
    refine⟨_,rfl,rn,_,rfl,gK (Sum.inr "end") h1.a rfl,_,rfl,cH ?_⟩;exact q _ _ _<|N▸h1
  | none=>
   rw[hTe]at a2;cases a2;refine⟨_,rfl,rn,_,rfl,gK (Sum.inr "end") h1.a rfl,_,rfl,bE ?_⟩;exists _,rfl,rn,_,rfl,gK (Sum.inr "left") h1.a rfl,_,_,rfl,rfl,_,rfl;refine bI (λc=>?_) λc=>?_
   .have c:W.mo.toNat<=o.dn:=by have:=cQ c;lia
    refine⟨_,rfl,s2,λt' ht=>⟨_,rfl,rn,_,rfl,DPut.k (k:=(Sum.inr "end":aF)) (h1.a.new ht).run a6,?_⟩⟩;obtain⟨X,k2⟩:=h1.a.endw ht "long" Z;rw[Bv hTe c,uJ (z:=("long",Z)) _ _ rfl]at N;exact q B _ _ (by rw[<-N];exact⟨X,h1.b.ends _ _,h1.d,h1.t.trans k2,h1.s⟩)
   .have c:¬W.mo.toNat<=o.dn:=λz=>c (eW<|by lia)
    exists _,rfl,rn,_,rfl,gK (Sum.inr "left") h1.a rfl,_,_,rfl,rfl,_,rfl,rn,_,rfl,DPut.k (k:=(Sum.inr "left":aF)) h1.a.run a6;have e1:aO (lF W B o .non) (Sum.inr "left") (.int<|W.mo-(o.dn:Int)-1)=lF W B {o with dn:=o.dn+1} .non:=by
     rw[show W.mo-(o.dn:Int)-1=W.mo-((o.dn+1:Nat):Int) by lia];rfl
    rw[e1];obtain⟨X,k2⟩:=h1.a.num (ev':=.non) {o with dn:=o.dn+1} rfl h1.a.le;have a8:=h1.b.row;generalize upd Hx rn (.dK<|lF W B {o with dn:=o.dn+1} .non)=H2 at X k2;have Y:=X.lm.kp;exists _,rfl,a,_,_,_,rfl,rfl,SqT.of<|Y _ _ C,fK _ _,rfl,_,rfl;have h2:LR W H rn A B {o with dn:=o.dn+1} .non H2:=⟨X,a8.less,by show o.dn+1<=W.mo.toNat;lia,h1.t.trans k2,h1.s⟩;cases hE with
    | @op n' a' _ p' r t' _ hh hr' hb' hs'=>
     cases g1.symm.trans hh;have hr0:=hr';obtain⟨a9,er⟩:=r.hd;rw[er]at hr';cases C.symm.trans hr';have hw:r.wd≠"call"/\r.wd≠"either"/\r.wd≠"again":=by cases r <;> (simp only[Rw.wd];rfl')
     refine bI (λz=>absurd (V.str.inj<|cQ z) hw.1) λ_=>?_;refine⟨_,rfl,a,_,_,_,rfl,rfl,SqT.of<|Y _ _ C,fK _ _,rfl,_,rfl,bI (λz=>absurd (V.str.inj<|cQ z) hw.2.1) λ_=>⟨_,rfl,a,_,_,_,rfl,rfl,SqT.of<|Y _ _ C,fK _ _,rfl,_,rfl,bI (λz=>absurd (V.str.inj<|cQ z) hw.2.2) λ_=>?_⟩⟩;refine⟨_,rfl,_,rfl,_,rfl,_,rfl,W,tr,rn,a,J,B,_,Z,m,r,rfl,X,hW,Y _ _ hr0,h1.s hm,a8,by show o.dn+1<=10000;lia,hb',λI ev' H' ha ab ht hs=>?_⟩;exists I,_,ev',t',_,_,_,_,_,rfl,⟨ha,ab,by show o.dn+1<=W.mo.toNat;lia,h2.t.trans ht,λe=>hs<|h1.s e⟩,hs',a1;rw[<-a4];exact cF _ (GO hTe c).symm
    | @either n' a' _ p' l1' l2' v q1 q2 t' e1' e2' _ hh hp hr' hl1 hl2 _ s1 s2' hs'=>
     cases g1.symm.trans hh;cases C.symm.trans hr';refine bE ⟨_,rfl,a,_,_,_,rfl,rfl,SqT.of<|Y _ _ C,fK _ _,rfl,_,rfl,cH<|cH ?_⟩;refine OH X rfl λH3 k3 t3=>?_;have a3:=k3.lm.kp;have h3:LR W H rn A B (Ts.rd {o with dn:=o.dn+1}) .non H3:=⟨k3,h2.b.rd,h2.d,h2.t.trans t3,h1.s⟩;refine⟨_,rfl,a,_,_,_,rfl,rfl,SqT.of<|a3 _ _ C,fK _ _,rfl,_,rfl,cH ?_⟩;have ad:max (max q1.deL q2.deL+1) t'.deL<=n:=a1;cases n with
     | zero=>lia
     | succ n=>
      have sq:=SqL.of (K:=K)<|a3 _ _ hp;have u:∀(lx:Addr)(L:LL)(ex:List Addr),W.H0 lx=some (.lst<|ex.map V.ref)->xJ W.G.nm W.H0 L ex->L.deL<=n->dL W m L (Ts.rd {o with dn:=o.dn+1})=(if o.S.pick W.G=0 then dL W m q1 (Ts.rd {o with dn:=o.dn+1}) else dL W m q2 (Ts.rd {o with dn:=o.dn+1}))->JU n [.ref rn,.ref lx,.ref J] H3 λ_ H'=>tG W (n+1) H rn rl J A m es (dL W m l T) (i+1) [some<|.ref rn,some<|.ref rl,some<|.ref J,some<|.int Z,some<|.ref a,some<|.ref p,some<|.int<|o.S.pick W.G,y5] H':=λlx L ex g4 g5 g6 g7=>by
       refine⟨W,tr,rn,lx,J,B,_,m,L,ex,.non,rfl,⟨k3,h3.b,h3.d,λ_ _ e=>e,λe=>e⟩,hW,g4,g5,g6,h1.s hm,a7,λI ev' H' g=>?_⟩;refine⟨I,_,ev',t',_,_,_,_,_,rfl,h3.step g,hs',by lia,?_⟩;rw[<-a4,g7];show dL W m t' _=dL W m t' (o.row W.mo.toNat Z _);rw[GO hTe c]
      by_cases c0:o.S.pick W.G=0
      .refine⟨_,rfl,_,rfl,_,rfl,rfl,.inr ⟨_,rfl,p,_,_,.ref l1',rfl,rfl,sq,?_,_,rfl,u l1' q1 e1' hl1 s1 (by lia)<|by rw[bC c0]⟩⟩;show dY _ (if (!decide (V.int (o.S.pick W.G)=V.int 0))=true then 1 else 0)=_;rw[c0];rfl
      .refine⟨_,rfl,_,rfl,_,rfl,rfl,.inr ⟨_,rfl,p,_,_,.ref l2',rfl,rfl,sq,?_,_,rfl,u l2' q2 e2' hl2 s2' (by lia)<|by rw[aZ c0]⟩⟩;show dY _ (if (!decide (V.int (o.S.pick W.G)=V.int 0))=true then 1 else 0)=_;rw[gR λz=>c0<|V.int.inj z];rfl
    | @again n' a' _ p' l1' v q1 t' e1' _ hh hp hr' hl1 _ s1 hs'=>
     cases g1.symm.trans hh;cases C.symm.trans hr';refine bE ⟨_,rfl,a,_,_,_,rfl,rfl,SqT.of<|Y _ _ C,fK _ _,rfl,_,rfl,bE ⟨_,rfl,a,_,_,_,rfl,rfl,SqT.of<|Y _ _ C,fK _ _,rfl,_,rfl,cH ?_⟩⟩;refine OH X rfl λH3 k3 t3=>?_;have a3:=k3.lm.kp;have h3:LR W H rn A B (Ts.rd {o with dn:=o.dn+1}) .non H3:=⟨k3,h2.b.rd,h2.d,h2.t.trans t3,h1.s⟩;refine⟨_,rfl,a,_,_,_,rfl,rfl,SqT.of<|a3 _ _ C,fK _ _,rfl,_,rfl,bE ?_⟩;have ad:max (q1.deL+1) t'.deL<=n:=a1;cases n with
     | zero=>lia
     | succ n=>
      have ai:-100<=o.S.pick W.G:=by
       unfold Rs.pick;rw[eX];cases z:W.G.ch[o.S.rd]? with
       | none=>decide
       | some c=>exact hW.ch c<|cU z
      have e9:(if o.S.pick W.G<9 then o.S.pick W.G else 9)=min (o.S.pick W.G) 9:=by rw[Int.min_def];split <;> split <;> lia
      exists _,rfl,_,_,rfl,_,rfl,?_,?_
      .rw[e9];lia
      .rw[e9];lia
      rw[e9];refine vV (lo:=0) (n:=(min (o.S.pick W.G) 9).toNat) (zC W H rn rl J A m [some<|.int Z,some<|.ref a,some<|.ref p,some<|.int<|o.S.pick W.G] (dL W m q1) (min (o.S.pick W.G) 9).toNat<|vJ (dL W m q1) (min (o.S.pick W.G) 9).toNat<|Ts.rd {o with dn:=o.dn+1}) ⟨B,_,.non,_,rfl,h3,rfl⟩ ?_ ?_
      .rintro j σ Hy hj ⟨A4,T4,a5,y,rfl,O,h5⟩;have af:=O.a.lm.kp;refine⟨_,rfl,_,rfl,p,_,_,.ref l1',rfl,rfl,SqL.of<|af _ _ hp,rfl,_,rfl,W,tr,rn,l1',J,A4,T4,m,q1,e1',a5,rfl,⟨O.a,O.b,O.d,λ_ _ e=>e,λe=>e⟩,hW,hl1,s1,by lia,O.s hm,a7,λI ev' H' g=>?_⟩;exists I,_,ev',_,rfl,O.step g;rw[<-h5,show(min (o.S.pick W.G) 9).toNat-j=(min (o.S.pick W.G) 9).toNat-(j+1)+1 by lia];rfl
      .rintro σ Hy ⟨A4,T4,a5,y,rfl,O,h5⟩;rw[xD]at h5;refine⟨A4,T4,a5,t',_,_,_,_,_,rfl,O,hs',by lia,?_⟩;rw[<-a4,show T4=_ from h5];show dL W m t' _=dL W m t' (o.row W.mo.toNat Z _);rw[GO hTe c]
 .rintro σ Hx ⟨B,o,ag,l1,y1,y2,y3,y4,y5,rfl,h1,hE,a1,N⟩;rw[aK,xF]at hE;cases hE;exact q B _ _ (by rw[<-N];exact h1)
abbrev rA:Stmt:=top 71
abbrev iF:List Str:=["_law_rows_here","_law_count"]
def Nw(H:Hp)(b:Addr):Prop:=H b=none
inductive pC(n:Nat)(vs:List V)(H:Hp)(Q:VK):Prop
 | mk(Z:Str->Option Str->Prop)(nm:List Str)(rl ct:Addr)(k k':Nat)(rs:List Addr)(L:LL)(h1:vs=[.ref rl,.ref ct])(h2:H rl=some (.tup<|rs.map V.ref))(h3:Ly Z H n k rs L k')(h4:H ct=some (.lst [.int k]))(h6:∀k,Z k none->k∈nm)(h7:k'<=1000000)
  (q:∀(l:Addr)(es:List Addr)(H':Hp),FrS [ct] H H'->H' ct=some (.lst [.int k'])->H l=none->H' l=some (.lst<|es.map V.ref)->Enm (Nw H) nm H' L es->↑es=↑rs->Q (.ref l) H'):pC n vs H Q
def uS(n:Nat):Sp:=λvs H Q _=>pC n vs H Q
def TJ:Nat->Sp
 | 0=>λ_ _ _ _=>False
 | n+1=>uS n
inductive TZ(Z:Str->Option Str->Prop)(nm:List Str)(n:Nat)(H:Hp)(rl ct fo:Addr)(rs:List Addr)(L:LL)(k' i:Nat)(σ:St)(Hx:Hp):Prop
 | mk(y1 y2 y3:Option V)(k:Nat)(es:List Addr)(L1 L2:LL)(h1:σ=[some<|.ref rl,some<|.ref ct,some<|.ref fo,y1,y2,y3])(h2:FrS [ct] H Hx)(h3:Hx ct=some (.lst [.int k]))(h4:Hx fo=some (.lst<|es.map V.ref))(h5:↑es=i)(h6:L=L1.app L2)(h7:Ly Z Hx n k (rs.drop i) L2 k')(h8:Enm (λb=>H b=none/\b≠fo) nm Hx L1 es):TZ Z nm n H rl ct fo rs L k' i σ Hx
inductive UI(nm:List Str)(k:Nat)(H1 H2:Hp)(ct Dl:Addr)(ls:List Lt)(j:Nat)(σ:St)(Hx:Hp):Prop
 | mk(y:Option V)(zs:List Addr)(kj:Nat)(h1:σ=[y,some<|.ref ct])(h2:FrS [ct] H1 Hx)(h3:Tup H2 Hx)(h4:Hx ct=some (.lst [.int kj]))(h5:kj=tL k ls j)(h6:Hx Dl=some (.lst<|zs.map V.ref))(h7:A2 (λ(z:Lt) t=>∃es:List Addr,Hx t=some (.lst<|es.map V.ref)/\(H1 t=none/\t≠Dl)/\Enm (λb=>H1 b=none/\b≠Dl) nm Hx z.2.2.1 es) (ls.take j) zs):UI nm k H1 H2 ct Dl ls j σ Hx
def FrS.o1(f:FrS [a] H H')(h:H' a=some o)(hp:H' p=none):H p=none:=f.old (λb d=>by
 have:b=a:=by simpa using d
 subst this;exact⟨_,h⟩) hp
def xj6:bZ ["_law_rows_here","_law_count","_law_found","_law_row_here","_law_number","_law_lots"] iF (bR rA):=cC
def ND{n k:Nat}(F:Fun K "_law_marked" "_law_marked" rA f fd)(MK:aS P w K mg base k "_law_marked" iF (TJ n)):aR P w K mg base bQ (k+1) f fd iF (uS n):=by
 refine F.ok xj6 (λvs H Q E h=>?_) λbt A outer s H vs Q E hr h=>?_
 .obtain⟨Z,nm,rl,ct,k,k',rs,L,rfl,_⟩:=h;rfl
 obtain⟨Z,nm,rl,ct,k0,k',rs,L,rfl,az,hL,ae,hn,bu,q⟩:=h;have hu:=eC hr;have bj:(["_law_lot","_law_count"]:List Str).Nodup:=by rfl'
 exists _,aL (sL 2 xj6.nd<|cG aE)
  (aL (dZ dJ rfl (gC<|pv 0) (gL 3 xj6.nd) (aL (sL 4 xj6.nd<|eI (pv 1) aN) (aL (iQ (cA jJ (eI (pv 1) aN) aN)<|sW (pv 1) aN tM) (aL (sL 5 xj6.nd<|QN hu (GF (iA bD (jR EI (pv 3) (jK aN) jL)<|iA bD (jR EI (pv 3) (jK aN) jL) AC) rfl rfl (by intro z;cases z)<|by decide) (eT (pv 3) aN) (bX aE) ⟨rfl,rfl,rfl,rfl⟩)
   (aQ<|dQ<|eP eE fI fJ fG (pv 2)<|aA (bX<|aA (pv 4)<|aA (pv 3)<|aA (iE (N':=["_law_lot","_law_count"]) (src:=[none,some 1]) rfl eS (gC<|pv 5) (g:=bW 0) (λ_ _ _ _=>gL 0 bj) (λ_ _ _ _=>gO) (te:=fL (TJ n) [] E0<|aY (aI 0)<|aY (aI 1) aX) λ_ _ _ _=>bB MK hr rfl<|aA (pv 0)<|aA (pv 1) aE) aE) aE)))))
  (aQ<|bS<|pv 2))
 ac_rfl
 have s3:3<=sizeLine:=cN (bG<|by decide);refine⟨bM _,λfo a8=>?_⟩;have af:ct≠fo:=aP ae a8;have b4:Tup H (upd H fo<|.lst []):=Tup.new a8;exists _,rfl,rl,rfl,⟨_,SqT.of<|b4 _ _ az⟩;refine kH (xs:=rs.map V.ref) (TZ Z nm n H rl ct fo rs L k') ⟨_,_,_,k0,[],.nil,L,rfl,FrS.new a8,by rw[aC af];exact ae,zb1,rfl,rfl,by rw[oY];exact hL.keep b4,.nil⟩ ?_ ?_ ?_
 .rintro i σ C hi ⟨_,_,_,_,_,_,_,_,fr,_⟩;exact SqT.of<|fr.tup1 ae _ _ az
 .rintro i x σ C hx ⟨y1,y2,y3,k,es,L1,L2,rfl,fr,Y,ap,ah,rfl,a3,aq⟩;rw[bO,wq8]at hx;obtain⟨a,ha,rfl⟩:=hx;obtain⟨hi,rfl⟩:=zz2.mp ha;rw[nT hi]at a3;obtain⟨w,rest,ls,k1,Lr,M,h1,h2,h3,h4,h5,h6,rfl,h8,h9,bo⟩:=a3.mhd hn;generalize rs[i]=a at h1 h8;exists _,rfl,ct,_,_,_,rfl,rfl,SqL.of Y,rfl;exists _,rfl,ct,_,_,_,rfl,rfl,SqL.of Y,rfl,_,_,rfl,rfl,_,rfl,ct,_,0,0,rfl,rfl,Y,rfl;have ay:FrS [ct] H (upd C ct<|.lst [.int ((k+1:Nat):Int)]):=fr.put'<|.head _;have ba:upd C ct (.lst [.int ((k+1:Nat):Int)]) ct=some (.lst [.int ((k+1:Nat):Int)]):=zb1;have ar:Tup C (upd C ct<|.lst [.int ((k+1:Nat):Int)]):=Tup.lst Y;have bb:upd C ct (.lst [.int ((k+1:Nat):Int)]) fo=some (.lst<|es.map V.ref):=by rw[aC<|bK af];exact ap
  have b0:FrS [ct] C (upd C ct<|.lst [.int ((k+1:Nat):Int)]):=FrS.chg<|.head _;have ax:∀{G:Hp->Prop},G (upd C ct<|.lst [.int ((k+1:Nat):Int)])->G (upd C ct<|.lst<|[V.int k].set 0<|V.int<|(k:Int)+1):=λh=>h;refine ax ?_;clear ax;generalize upd C ct (.lst [.int ((k+1:Nat):Int)])=T at ay ba ar bb b0;have b8:=ar _ _ h1;intro p hp;have cond:¬(HT.sIx ↑(V.str w::rest) 0 (some 1)=0/\HT.sIx ↑(V.str w::rest) ↑(V.str w::rest) none=↑(V.str w::rest)):=by
   intro z;have:=z.1;unfold HT.sIx at this;simp at this
  have b9:=(Tup.new (o:=.dK []) hp) _ _ b8;refine⟨_,rfl,_,rfl,a,_,rfl,SqT.of b9,cond,λB ad=>?_⟩;rw[mR];have av:=(Tup.new (o:=.tup rest) ad) _ _ b9;refine⟨_,rfl,_,rfl,a,_,rfl,SqT.of av,cond,λI aa=>?_⟩;rw[mR];have bv:=(Tup.new (o:=.tup rest) aa) _ _ av;have ak:upd (upd (upd T p<|.dK []) B<|.tup rest) I (.tup rest) p=some (.dK []):=by rw[aC<|aP (by rw[aC<|aP zb1 ad];exact zb1) aa,aC<|aP zb1 ad];exact zb1
  refine⟨ak,[(Sum.inr "either",.ref B),(Sum.inr "again",.ref I)],rfl,by show 2<=15;decide,?_⟩;have f5:FrS [] T (upd (upd (upd (upd T p<|.dK []) B<|.tup rest) I<|.tup rest) p<|.dK<|cO [] [(Sum.inr "either",.ref B),(Sum.inr "again",.ref I)]):=(((FrS.new hp).trans<|FrS.new ad).trans<|FrS.new aa).put hp;have aj:upd (upd (upd (upd T p<|.dK []) B<|.tup rest) I<|.tup rest) p (.dK<|cO [] [(Sum.inr "either",.ref B),(Sum.inr "again",.ref I)]) p=some (.dK [(Sum.inr "either",.ref B),(Sum.inr "again",.ref I)]):=zb1;have g1:upd (upd (upd (upd T p<|.dK []) B<|.tup rest) I<|.tup rest) p (.dK<|cO [] [(Sum.inr "either",.ref B),(Sum.inr "again",.ref I)]) B=some (.tup rest):=(Tup.dk ak) _ _<|(Tup.new aa) _ _ zb1;have g2:upd (upd (upd (upd T p<|.dK []) B<|.tup rest) I<|.tup rest) p (.dK<|cO [] [(Sum.inr "either",.ref B),(Sum.inr "again",.ref I)]) I=some (.tup rest):=(Tup.dk ak) _ _ zb1;generalize upd (upd (upd (upd T p<|.dK []) B<|.tup rest) I<|.tup rest) p (.dK<|cO [] [(Sum.inr "either",.ref B),(Sum.inr "again",.ref I)])=H5 at f5 aj g1 g2;refine⟨p,rfl,.inl ⟨_,.inl aj⟩,_,rfl,a,_,_,_,rfl,rfl,SqT.of<|f5 _ _ aV b8,fK _ _,bM _,λe0 ab=>⟨_,DGet.k (k:=(Sum.inr w:aF))<|(FrS.new (S:=[]) ab) _ _ aV aj,?_⟩⟩;have f6:FrS [] T (upd H5 e0<|.tup []):=f5.trans<|FrS.new ab;obtain⟨tl,bi,ag⟩:∃tl,(aG [((Sum.inr "either":aF),V.ref B),(Sum.inr "again",.ref I)]<|Sum.inr w).getD (.ref e0)=.ref tl/\upd H5 e0 (.tup []) tl=some (.tup<|iP w rest):=by
   unfold iP
   by_cases c1:w="either"
   .subst c1;exact⟨B,rfl,by rw[bC<|.inl rfl];exact(Tup.new ab) _ _ g1⟩
   .by_cases c2:w="again"
    .subst c2;exact⟨I,rfl,by rw[bC<|.inr rfl];exact(Tup.new ab) _ _ g2⟩
    .refine⟨e0,?_,by rw[aZ λz=>z.elim c1 c2];exact zb1⟩;unfold aG;rw[List.find?_cons_of_neg (by simpa using λz=>c1 z.symm),List.find?_cons_of_neg<|by simpa using λz=>c2 z.symm];rfl
  rw[bi];generalize upd H5 e0 (.tup [])=O at f6 ag;rw[h2]at ag;have ac:=f6 _ _ aV ba;have a7:=f6 _ _ aV bb;have bl:=ar.trans<|Tup.of0 f6;refine⟨_,rfl,.inl ⟨rfl,_,SqL.of a7⟩,_,rfl,_,rfl,_,rfl,tl,rfl,⟨_,SqT.of ag⟩,λd W=>?_⟩;have ao:ct≠d:=aP ac W;have b3:fo≠d:=aP a7 W;have a5:FrS [ct] H O:=ay.trans<|f6.mono λ_ h=>absurd h aV;have bc:Tup C (upd O d<|.lst []):=bl.trans<|Tup.new W;have bk:=(Tup.new (o:=.lst []) W) _ _ ag;refine uQ (xs:=ls.map λz=>V.ref z.1) (UI nm k O (upd O d<|.lst []) ct d ls) ⟨_,[],k+1,rfl,FrS.new W,λ_ _ h=>h,by rw[aC ao];exact ac,rfl,zb1,.nil⟩ ?_ ?_ ?_
  .rintro j σ J hj ⟨_,_,_,_,_,ty,_⟩;exact SqT.of<|ty _ _ bk
  .rintro j x σ J hx ⟨y,zs,kj,rfl,fy,ty,X,ai,a9,a4⟩;rw[bO,wq8]at hx;obtain⟨z,hz,rfl⟩:=hx;have b5:=cU hz;obtain⟨z1,n',rfl,z2⟩:=h3 z b5;have au:=bc.trans ty;have bn:kj=z.2.2.2.1:=ai.trans (h4 j z hz).symm;have bx:=bo z b5;refine⟨_,rfl,_,rfl,Z,nm,z.1,ct,kj,z.2.2.2.2,z.2.1,z.2.2.1,rfl,au _ _ z1,by rw[bn];exact z2.keep au,X,hn,by lia,λl b1 Hz fz bh b7 bm be _=>?_⟩;have b6:=fz _ _ (by simpa using bK ao) a9;have b2:=fz.tup1 X;have as:Tup Hz (upd Hz d<|.lst<|zs.map V.ref++[.ref l]):=Tup.lst b6;have bs:↑zs<=2:=by rw[<-a4.len,eM];lia
   have fl:FrS [ct,d] J (upd Hz d<|.lst<|zs.map V.ref++[.ref l]):=(fz.mono λb h=>by rw[wq1.mp h];exact .head _).trans<|FrS.chg<|.tail _<|.head _;have N:∀b,J b=none->b∉[ct,d]/\O b=none/\b≠d:=λb m=>by
    have h1:b≠ct:=bK<|aP X m;have h2:b≠d:=bK<|aP a9 m;exact⟨by simp[h1,h2],fy.o1 X m,h2⟩
   have oB:∀b,O b=none/\b≠d->b∉[ct,d]/\O b=none/\b≠d:=λb m=>by
    have h1:b≠ct:=bK<|aP ac m.1;exact⟨by simp[h1,m.2],m⟩
   have bp:upd Hz d (.lst<|zs.map V.ref++[.ref l]) l=some (.lst<|b1.map V.ref):=by rw[aC (N l b7).2.2];exact bm
   exists _,b6,bG (by rw[aK];lia),_,zs++[l],z.2.2.2.2,rfl,(fy.trans fz).put W,(ty.trans b2).trans as,by rw[aC ao];exact bh,?_,by rw[zb1,bN];rfl
   .unfold tL;rw[aZ (by lia),FC,hz];rfl
   .rw[fW,hz];refine A2.snoc (a4.imp λu t h=>?_) ⟨b1,bp,(N l b7).2,be.keep as (FrS.chg (S:=[d])<|.head _) λb m=>⟨by simpa using (N b m).2.2,(N b m).2⟩⟩;obtain⟨e1,x1,x2,x3⟩:=h;exact⟨e1,fl _ _ (oB _ x2).1 x1,x2,x3.keep (b2.trans as) fl oB⟩
  .rintro σ J ⟨y,zs,kj,rfl,fy,ty,X,ai,a9,a4⟩;rw[aK]at ai a4;rw[xB]at a4;have bd:kj=k1:=by
    rw[ai,h5];unfold tL;cases hls:ls with
    | nil=>rfl
    | cons u v=>
     rw[aZ (by rw[cJ];exact Nat.succ_ne_zero _),HL];cases z:(u::v)[↑(u::v)-1]? with
     | none=>rw[List.getElem?_eq_none_iff,cJ]at z;lia
     | some r=>rfl
   refine⟨s3,λe he=>?_⟩;have br:upd O d (.lst []) fo=some (.lst<|es.map V.ref):=by rw[aC b3];exact a7
   have a6:=fy _ _ (by simpa using bK af) a7;have al:upd J e (.tup [.int k,.ref a,.ref d]) fo=some (.lst<|es.map V.ref):=by rw[aC<|aP a6 he];exact a6
   have bw:i<=↑rs:=cN hi;have bg:=hL.rl;exists fo,_,_,rfl,rfl,al,FK (by rw[aK];lia);have fH:FrS [ct] H (upd (upd J e<|.tup [.int k,.ref a,.ref d]) fo<|.lst<|es.map V.ref++[.ref e]):=((a5.trans fy).trans<|FrS.new he).put a8;have an:Tup C (upd (upd J e<|.tup [.int k,.ref a,.ref d]) fo<|.lst<|es.map V.ref++[.ref e]):=((bc.trans ty).trans<|Tup.new he).trans<|Tup.lst al;have bf:FrS [ct,fo] C (upd (upd J e<|.tup [.int k,.ref a,.ref d]) fo<|.lst<|es.map V.ref++[.ref e]):=((((b0.trans<|f6.mono λ_ h=>absurd h aV).trans fy).trans<|FrS.new he).mono λb h=>by rw[wq1.mp h];exact .head _).trans<|FrS.chg<|.tail _<|.head _;have aw:FrS [fo] J (upd (upd J e<|.tup [.int k,.ref a,.ref d]) fo<|.lst<|es.map V.ref++[.ref e]):=(FrS.new he).trans<|FrS.chg<|.head _;have bq:e≠fo:=λz=>by rw[<-z]at a6;rw[he]at a6;cases a6
   have N:∀b,O b=none->H b=none/\b≠fo:=λb m=>⟨a5.o1 ac m,bK<|aP a7 m⟩;have am:=N d W;exists _,_,_,k1,es++[e],L1.app M,Lr,rfl,fH,?_,by rw[zb1,bN];rfl,by rw[bH,ah];rfl,(NP _ _ _).symm,h9.keep an
   .rw[aC af,aC<|aP X he,<-bd];exact X
   .refine Enm.app (aq.keep an bf λb m=>⟨?_,m⟩)<|h8 _ e d zs _ an ?_ ?_ am<|a4.imp λu t h=>?_
    .have:=aP ae m.1;simp[bK this,m.2]
    .rw[aC bq];exact zb1
    .rw[aC<|bK b3,aC<|aP a9 he];exact a9
    .obtain⟨e1,x1,x2,x3⟩:=h;exact⟨e1,aw _ _ (by simpa using (N _ x2.1).2) x1,N _ x2.1,x3.keep ((Tup.new he).trans<|Tup.lst al) aw λb m=>⟨by simpa using (N _ m.1).2,N _ m.1⟩⟩
 .rintro σ C ⟨y1,y2,y3,k,es,L1,L2,rfl,fr,Y,ap,ah,rfl,a3,aq⟩;rw[aK]at ah a3;rw[xF]at a3;cases a3;rw[OA]at q;exact⟨_,rfl,q fo es C fr Y a8 ap (aq.keep (λ_ _ e=>e) (FrS.refl (S:=[])) λb m=>⟨aV,m.1⟩) ah⟩
abbrev cR:Stmt:=top 72
abbrev kM:List aF:=[Sum.inr "",Sum.inr ""]
inductive TxAt(nm:List Str)(H Hx:Hp)(tx ct:Addr)(L0:LL)(c:Nat):Prop
 | mk(kvs:List (List aF×V))(e rl:Addr)(v1 v2:V)(es:List Addr)(h1:Hx tx=some (.dT kvs))(h2:aG kvs kM=some (.ref e))(h3:Hx e=some (.tup [v1,.ref rl,v2]))(h4:Hx rl=some (.lst<|es.map V.ref))(h5:H rl=none/\rl≠ct/\rl≠tx)(h6:Enm (λb=>H b=none/\b≠ct/\b≠tx) nm Hx L0 es)(h7:↑kvs<=c):TxAt nm H Hx tx ct L0 c
theorem TxAt.keep(h:TxAt nm H Hx tx ct L0 c)(t:Tup Hx Hy)(f:FrS [ct] Hx Hy)(m:tx≠ct):TxAt nm H Hy tx ct L0 c:=by
 obtain⟨kvs,e,rl,l,n,es,h1,h2,o,q,a,i,j⟩:=h;exact⟨kvs,e,rl,l,n,es,f _ _ (by simpa using m) h1,h2,t _ _ o,f _ _ (by simpa using a.2.1) q,a,i.keep t f λb d=>⟨by simpa using d.2.1,d⟩,j⟩
def TxAt.step{n d:Str}{pv gv:V}{kvs:List (List aF×V)}(h:TxAt nm H Hx tx ct L0 c)(B:FrS [] H Hx)(h0:H ct=none)(W:H tx=none)(r:Hx ct=some (.lst [.int k]))(i:Hx tx=some (.dT kvs))(j:FrS [ct] Hx H1)(J:H1 ct=some (.lst [.int k1]))(hl:Hx l=none)(I:H1 l=some (.lst<|es.map V.ref))(N:Enm (Nw Hx) nm H1 L es)
  (he:H1 e=none) (a:upd H1 e (.tup [pv,.ref l,gv]) b=none):
  TxAt nm H (upd (upd (upd H1 e<|.tup [pv,.ref l,gv]) b<|.tup [.str n,.str d]) tx<|.dT<|aO kvs [Sum.inr n,Sum.inr d]<|.ref e) tx ct (if ((n,d):Pr)=(("":Str),("":Str)) then L else L0) (c+1)/\FrS [] H (upd (upd (upd H1 e<|.tup [pv,.ref l,gv]) b<|.tup [.str n,.str d]) tx<|.dT<|aO kvs [Sum.inr n,Sum.inr d]<|.ref e)/\upd (upd (upd H1 e<|.tup [pv,.ref l,gv]) b<|.tup [.str n,.str d]) tx (.dT<|aO kvs [Sum.inr n,Sum.inr d]<|.ref e) ct=some (.lst [.int k1])/\Tup Hx (upd (upd (upd H1 e<|.tup [pv,.ref l,gv]) b<|.tup [.str n,.str d]) tx<|.dT<|aO kvs [Sum.inr n,Sum.inr d]<|.ref e):=by
 have A:tx≠ct:=λz=>by rw[z,r]at i;cases i
 have q:=j _ _ (by simpa using A) i;have x:upd (upd H1 e<|.tup [pv,.ref l,gv]) b (.tup [.str n,.str d]) tx=some (.dT kvs):=by rw[aC<|aP (by rw[aC<|aP q he];exact q) a,aC<|aP q he];exact q
 have u:Tup Hx H1:=j.tup1 r;have m:Tup H1 (upd (upd (upd H1 e<|.tup [pv,.ref l,gv]) b<|.tup [.str n,.str d]) tx<|.dT<|aO kvs [Sum.inr n,Sum.inr d]<|.ref e):=((Tup.new he).trans<|Tup.new a).trans<|Tup.chg x λxs z=>nomatch z;have f:FrS [tx] H1 (upd (upd (upd H1 e<|.tup [pv,.ref l,gv]) b<|.tup [.str n,.str d]) tx<|.dT<|aO kvs [Sum.inr n,Sum.inr d]<|.ref e):=((FrS.new he).trans<|FrS.new a).trans<|FrS.chg<|.head _;have C:upd (upd (upd H1 e<|.tup [pv,.ref l,gv]) b<|.tup [.str n,.str d]) tx (.dT<|aO kvs [Sum.inr n,Sum.inr d]<|.ref e) e=some (.tup [pv,.ref l,gv]):=(Tup.chg x λxs z=>nomatch z) _ _<|(Tup.new a) _ _ zb1;have s:upd (upd (upd H1 e<|.tup [pv,.ref l,gv]) b<|.tup [.str n,.str d]) tx (.dT<|aO kvs [Sum.inr n,Sum.inr d]<|.ref e) tx=some (.dT<|aO kvs [Sum.inr n,Sum.inr d]<|.ref e):=zb1;generalize upd (upd (upd H1 e<|.tup [pv,.ref l,gv]) b<|.tup [.str n,.str d]) tx (.dT<|aO kvs [Sum.inr n,Sum.inr d]<|.ref e)=H4 at m f C s;obtain⟨Z,T,rl,P,X,M,K,O,E,Y,w,G,g7⟩:=h;cases K.symm.trans i;have old:∀b,Hx b=none->(H b=none/\b≠ct/\b≠tx)/\b∉[tx]:=λb a=>⟨⟨nX B a,bK<|aP r a,bK<|aP i a⟩,by simpa using bK (aP i a)⟩
 refine⟨?_,λb o _ e=>f _ _ (by simpa using aP e W)<|j _ _ (by simpa using aP e h0)<|B _ _ aV e,f _ _ (by simpa using bK A) J,u.trans m⟩;have a6:=kD kvs [Sum.inr n,Sum.inr d]<|V.ref e
 by_cases c:((n,d):Pr)=(("":Str),("":Str))
 .rw[bC c];injection c with c1 c2;subst c1 c2;exact⟨_,e,l,pv,gv,es,s,by rw[jI,bC rfl],C,f _ _ (old l hl).2 I,(old l hl).1,N.keep m f λb a=>⟨(old b a).2,(old b a).1⟩,by lia⟩
 .rw[aZ c];refine⟨_,T,rl,P,X,M,s,?_,m _ _<|u _ _ E,f _ _ (by simpa using w.2.2)<|j _ _ (by simpa using w.2.1) Y,w,(G.keep u j λb a=>⟨by simpa using a.2.1,a⟩).keep m f λb a=>⟨by simpa using a.2.2,a⟩,by lia⟩
  .rw[jI,aZ]
   .exact O
   .intro z;injection z with z1 z2;injection z2 with z2 _;exact c (by rw[<-jU z1,<-jU z2])
def Dj(q:Pr)(a:LL)(z:Pr×LL):LL:=if z.1=q then z.2 else a
def CU(L0:LL)(zs:List Bz)(Ls:List LL):LL:=((zs.map (·.1)).zip Ls).foldl (Dj (("":Str),("":Str))) L0
inductive pV(vs:List V)(H:Hp)(Q:VK):Prop
 | mk(Z:Str->Option Str->Prop)(p ch:Addr)(ks:List (Str×List Dz))(m0:Dz)(tr:Tr)(late:List Str)(Ls:List LL)(k':Nat)(mo:Int)(G:Pg)(h1:vs=[.ref p,.ref ch,.int mo])(h2:ProgIs Z H p ks m0)(h3:KindsAt H p tr)(h4:LateAt H p tr late)(h5:TrOk tr)(h6:↑tr<=12)(h7:LyB Z H 0 (dP ks m0) Ls k')(h8:k'<=1000000)(h9:H ch=some (.tup<|G.ch.map V.int))(h11:∀k,Z k none->k∈G.nm)(h12:G.bo "" ""=CU .nil (dP ks m0) Ls)
  (q:∀(rn rl e:Addr)(W:Lw)(A:La)(kvs:List (List aF×V))(v1 v2:V)(es:List Addr)(H':Hp),FrS [] H H'->FrS [] H W.H0->W.G=G->W.mo=mo->A.δ=[]->A.ds=[]->LAt W H' rn A ⟨0,⟨[],[],[],[],0,0,0,hr0 tr late⟩,none⟩ .non->W.H0 W.up=some (.dK<|cM tr)->W.H0 W.tx=some (.dT kvs)->aG kvs kM=some (.ref e)->W.H0 e=some (.tup [v1,.ref rl,v2])->W.H0 rl=some (.lst<|es.map V.ref)->xJ G.nm W.H0 (G.bo "" "") es->Q (.ref rn) H'):pV vs H Q
def LF:Sp:=λvs H Q _=>pV vs H Q
abbrev gY:List Str:=["_law_program_here","_law_choices_here","_law_most"]
abbrev kB:List Str:=["_law_program_here","_law_choices_here","_law_most","_law_count","_law_texts","_law_name","_law_elder","_law_deeds","_law_deed_here","_law_params","_law_rows_here","_law_gives","_law_around","_law_up"]
def zw3:bZ kB gY (bR cR):=cC
def kL:List Stmt->Expr
 | _::.Assign _ v _::_=>v
 | _=>.Constant .none 0 ⟨0,0,0,0⟩
def Bm(x:Str)(p:Pos)(n:Nat)(env:Env):swapsWith (kL<|dV cR) (some<|.Name x p) n env=pure false:=rfl
structure DK(X:Cx)(e:Expr)(t:TE):Prop where
 of:PE X e t
def IW:List Stmt->Expr->List Stmt
 | s::.Assign a _ p::r,v=>s::.Assign a v p::r
 | l,_=>l
def LV:dV cR=KB (IW (dV cR)<|kL<|dV cR) (oW<|dV cR):=rfl
abbrev nY(K:Fq):List (TE×TE):=[(tC<|.str "texts",aI 4),(tC<|.str "up",aI 13),(tC<|.str "around",aI 12),(tC<|.str "choices",lN (λxs H Q=>∃p ys,xs=[.ref p]/\(SqL K H p ys\/SqT K H p ys)/\∀l,H l=none->Q (.ref l) (upd H l<|.lst ys))<|aY (aI 1) aX),(tC<|.str "left",aI 2),(tC<|.str "log",iG aX),(tC<|.str "looks",tC<|.int 0),(tC<|.str "end",tC .non),(tC<|.str "things",iG aX),(tC<|.str "calls",tC<|.int 0)]
def Di{a:Value}{A:Around}{outer:List Env}{s:Shared}{H:Hp}{E:XK}(b:mg "list"=none):DK (fE bQ P w K mg base kB "_law_new_run" (bR cR) f a A outer s H E).nox (oW<|dV cR) (EA<|nY K):=by
 constructor
 refine GF (iA bD (pv 4) ?_) rfl rfl (by intro z;cases z) (by decide);refine iA bD (pv 13) ?_;refine iA bD (pv 12) ?_;refine iA bD (dS ZY rfl b (by rfl')<|aA (pv 1) aE) ?_;refine iA bD (pv 2) ?_;refine iA bD (cG aE) ?_;refine iA bD aN ?_;refine iA bD iJ ?_;refine iA bD (cG aE) ?_;exact iA bD aN AC
def sV{k:Nat}{a:Value}{A:Around}{outer:List Env}{s:Shared}{H:Hp}{E:XK}(b:aS P w K mg base k "_law_marked" iF (uS 4))(hr:Room k (A.deeper<|PyProof.Rows.envOfC "_law_new_run" (bR cR) s⁻¹ f a))(d:(A.deeper<|PyProof.Rows.envOfC "_law_new_run" (bR cR) s⁻¹ f a).units+1<cLine):DK (fE bQ P w K mg base kB "_law_new_run" (bR cR) f a A outer s H E).nox (kL<|dV cR) (HJ (dE<|aY (tC<|.str "")<|aY (tC<|.str "") aX)<|dE<|aY (dE aX)<|aY (fL (uS 4) [] E0<|aY (dC (dN K) (aI 0)<|tC<|.int 2)<|aY (aI 3) aX)<|aY (tC .non) aX):=by
 constructor
 refine XQ (mF d) ?_ ?_
 .exact bX<|kQ<|kQ aE
 .refine bX<|aA (bX aE) ?_;refine aA (bB b hr rfl<|aA (eT (pv 0) aN)<|aA (pv 3) aE) ?_;exact aA iJ aE
def Enm.shp{B:Addr->Prop}(h:Enm B nm H l es)(t:Tup H H')(f:∀b xs,H b=some (.lst xs)->H' b=some (.lst xs)):xJ nm H' l es:=by
 induction h with
 | nil=>exact .nil
 | op h hr hb _ ih=>exact .op (t _ _ h) (t _ _ hr) hb ih
 | either h hp hr h1 h2 b _ _ _ i1 i2 ih=>exact .either (t _ _ h) (f _ _ hp) (t _ _ hr) (f _ _ h1) (f _ _ h2) ⟨trivial,trivial,trivial⟩ i1 i2 ih
 | again h hp hr h1 b _ _ i1 ih=>exact .again (t _ _ h) (f _ _ hp) (t _ _ hr) (f _ _ h1) ⟨trivial,trivial⟩ i1 ih
inductive SS(Z:Str->Option Str->Prop)(nm:List Str)(H:Hp)(p ch:Addr)(mo:Int)(ct tx:Addr)(ks:List (Str×List Dz))(k':Nat)(Lf:LL)(i:Nat)(σ:St)(Hx:Hp):Prop
 | mk(y1 y2 y3 y4 y5 y6 y7:Option V)(k:Nat)(L0:LL)(Lr:List LL)(h1:σ=[some<|.ref p,some<|.ref ch,some<|.int mo,some<|.ref ct,some<|.ref tx,y1,y2,y3,y4,y5,y6,y7,none,none])(h2:FrS [] H Hx)(h3:Hx ct=some (.lst [.int k]))(h4:TxAt nm H Hx tx ct L0 (1+80*i))(h5:LyB Z Hx k ((ks.drop i).flatMap hX) Lr k')(h6:CU L0 ((ks.drop i).flatMap hX) Lr=Lf):SS Z nm H p ch mo ct tx ks k' Lf i σ Hx
inductive TF(Z:Str->Option Str->Prop)(nm:List Str)(H:Hp)(p ch:Addr)(mo:Int)(ct tx dt:Addr)(v:V)(y:Str×List Dz)(zs:List Bz)(k' c:Nat)(Lf:LL)(j:Nat)(σ:St)(Hx:Hp):Prop
 | mk(y4 y5 y6 y7:Option V)(k:Nat)(L0:LL)(Lr:List LL)(h1:σ=[some<|.ref p,some<|.ref ch,some<|.int mo,some<|.ref ct,some<|.ref tx,some<|.str y.1,some v,some<|.ref dt,y4,y5,y6,y7,none,none])(h2:FrS [] H Hx)(h3:Hx ct=some (.lst [.int k]))(h4:TxAt nm H Hx tx ct L0 (c+j))(h5:LyB Z Hx k (((y.2.drop j).map λz=>((y.1,z.1),z))++zs) Lr k')(h6:CU L0 (((y.2.drop j).map λz=>((y.1,z.1),z))++zs) Lr=Lf):TF Z nm H p ch mo ct tx dt v y zs k' c Lf j σ Hx
inductive SO(Hx:Hp)(p Dl:Addr)(tr:Tr)(late:List Str)(i:Nat)(σ:St)(Hy:Hp):Prop
 | mk(y:Option V)(ts:List Addr)(h1:σ=[y,some<|.ref p])(h2:FrS [] Hx Hy)(h3:Hy Dl=some (.lst<|ts.map V.ref))(h4:A2 (λt k=>Hy t=some (.tup [.str k,.bl true])) ts (hr0 (tr.take i) late)):SO Hx p Dl tr late i σ Hy
inductive SQ(Hx:Hp)(Dl:Addr)(tr:Tr)(i:Nat)(σ:St)(Hy:Hp):Prop
 | mk(y:Option V)(ts:List Addr)(h1:σ=[y])(h2:FrS [] Hx Hy)(h3:Hy Dl=some (.lst<|ts.map V.ref))(h4:A2 (λt (z:Str×Option Str)=>Hy t=some (.tup [.str z.1,bA z.2])) ts (tr.take i)):SQ Hx Dl tr i σ Hy
def tZ{k:Nat}(F:Fun K "_law_new_run" "_law_new_run" cR f fd)(MK:aS P w K mg base k "_law_marked" iF (uS 4))(bt:mg "dict"=none)(cg:mg "list"=none):aR P w K mg base bQ (k+1) f fd gY LF:=by
 refine F.ok zw3 (λvs H Q E h=>?_) λbv A outer s H vs Q E hr h=>?_
 .obtain⟨Z,p,ch,ks,m0,tr,m,Ls,k',mo,G,rfl,_⟩:=h;rfl
 obtain⟨Z,p,ch,ks,m0,tr,m,Ls,k',mo,G,rfl,hP,hK,ce,ok,cv,hB,cu,cj,hn,cc,q⟩:=h;have hu:=eC hr;have cb:(["_law_row_here","_law_program_here"]:List Str).Nodup:=by rfl'
 have ci:(["_law_row_here"]:List Str).Nodup:=by rfl'
 have hO:DK (fE bQ P w K mg base kB "_law_new_run" (bR cR) f bv A outer s H E).nox (oW<|dV cR) (EA<|nY K):=Di cg;have hT:DK (fE bQ P w K mg base kB "_law_new_run" (bR cR) f bv A outer s H E).nox (kL<|dV cR) (HJ (dE<|aY (tC<|.str "")<|aY (tC<|.str "") aX)<|dE<|aY (dE aX)<|aY (fL (uS 4) [] E0<|aY (dC (dN K) (aI 0)<|tC<|.int 2)<|aY (aI 3) aX)<|aY (tC .non) aX):=sV MK hr hu;have bu:=Bm;rw[LV];generalize oW (dV cR)=Lx at hO;generalize kL (dV cR)=Lt at hT bu;exists _,aL (sL 3 zw3.nd<|cG<|dI aE)
  (aL (hI (i:=4) zw3.nd rfl (eY rfl) hT.of<|bu _ _ _ _) (aL (dZ dJ rfl (gC<|eT (pv 0) aN) (eG (n:=3) rfl<|bL (gL 5 zw3.nd)<|bL (gL 6 zw3.nd)<|bL (gL 7 zw3.nd) eK)<|aQ<|dZ dJ rfl (gC<|pv 7) (eG (n:=4) rfl<|bL (gL 8 zw3.nd)<|bL (gL 9 zw3.nd)<|bL (gL 10 zw3.nd)<|bL (gL 11 zw3.nd) eK)<|aQ<|fO hu (pv 4) (bX<|aA (pv 5)<|aA (pv 8) aE) (bX<|aA (pv 9)<|aA (bB MK hr rfl<|aA (pv 10)<|aA (pv 3) aE)<|aA (pv 11) aE) rfl) (aL (sL 12 zw3.nd (dS (BS rfl) rfl bt (by rfl') (aA (iE (N':=["_law_row_here","_law_program_here"]) (src:=[none,some 0]) rfl eS (gC<|eT (pv 0) aN) (g:=bW 0) (λ_ _ _ _=>gL 0 cb)
   (tt:=iC<|dC (hV K true) (dC (dN K) (aI 0)<|tC<|.int 0)<|dC (dN K) (aI 1)<|tC<|.int 1) (λ_ _ _ _=>sR<|bY (show cZ _ _ (hV K true) from wF) (lQ (show lP _ (dN K) from rP) (pv 0) aN λ_ _=>rfl) (lQ (show lP _ (dN K) from rP) (pv 1) aN λ_ _=>rfl) rfl)
   (te:=dE<|aY (dC (dN K) (aI 0)<|tC<|.int 0)<|aY (tC<|.bl true) aX) (λ_ _ _ _=>bX<|aA (lQ (show lP _ (dN K) from rP) (pv 0) aN λ_ _=>rfl)<|aA zG aE)) aE)))
  (aL (sL 13 zw3.nd (dS (BS rfl) rfl bt (by rfl') (aA (iE (N':=["_law_row_here"]) (src:=[none]) rfl eS (gC<|eT (pv 0) aN) (g:=bW 0) (λ_ _ _ _=>gL 0 ci) (λ_ _ _ _=>gO)
   (te:=dE<|aY (dC (dN K) (aI 0)<|tC<|.int 0)<|aY (dC (dN K) (aI 0)<|tC<|.int 1) aX) (λ_ _ _ _=>bX<|aA (lQ (show lP _ (dN K) from rP) (pv 0) aN λ_ _=>rfl)<|aA (lQ (show lP _ (dN K) from rP) (pv 0) aN λ_ _=>rfl) aE)) aE)))
  (aQ<|bS hO.of)))))
 ac_rfl
 have s1:1<=sizeLine:=cN (bG<|by decide);have s2:2<=sizeLine:=cN (bG<|by decide);have s3:3<=sizeLine:=cN (bG<|by decide);obtain⟨kt,us,lt,p1,p2,p3,p4,p5,p6⟩:=id hP;refine⟨s1,λct aw=>?_⟩;have f0:FrS [] H (upd H ct<|.lst [.int 0]):=FrS.new aw;have c4:upd H ct (.lst [.int 0]) ct=some (.lst [.int ((0:Nat):Int)]):=zb1;generalize upd H ct (.lst [.int 0])=H0 at f0 c4;intro tx bb;have aj:H tx=none:=nX f0 bb;refine⟨s2,λb T=>⟨bM _,λI au=>?_⟩⟩;have f1:FrS [] H (upd (upd (upd H0 tx<|.dT []) b<|.tup [.str "",.str ""]) I<|.tup []):=((f0.trans<|FrS.new bb).trans<|FrS.new T).trans<|FrS.new au;have ap:upd (upd (upd H0 tx<|.dT []) b<|.tup [.str "",.str ""]) I (.tup []) tx=some (.dT []):=by rw[aC<|aP (by rw[aC<|aP zb1 T];exact zb1) au,aC<|aP zb1 T];exact zb1
 have bj:upd (upd (upd H0 tx<|.dT []) b<|.tup [.str "",.str ""]) I (.tup []) b=some (.tup [.str "",.str ""]):=(Tup.new au) _ _ zb1;have ak:upd (upd (upd H0 tx<|.dT []) b<|.tup [.str "",.str ""]) I (.tup []) ct=some (.lst [.int ((0:Nat):Int)]):=(((FrS.new (S:=[]) bb).trans<|FrS.new T).trans<|FrS.new au) _ _ aV c4;have as:Tup H (upd (upd (upd H0 tx<|.dT []) b<|.tup [.str "",.str ""]) I<|.tup []):=Tup.of0 f1;generalize upd (upd (upd H0 tx<|.dT []) b<|.tup [.str "",.str ""]) I (.tup [])=H1 at f1 ap bj ak as;have ai:tx≠ct:=λz=>by rw[z,ak]at ap;cases ap
 cases hB with
 | @cons _ k1 _ _ _ L Lr hm sm zm tm=>
  have co:=tm.le;refine⟨_,rfl,p,_,_,_,rfl,rfl,SqT.of<|as _ _ p1,rfl,_,rfl,Z,G.nm,m0.2.1,ct,0,k1,m0.2.2.1,L,rfl,as _ _ hm,sm.keep as,ak,hn,by lia,λl es H2 f2 c7 hl b8 hE cs=>⟨s3,λe he=>?_⟩⟩;have aq:=f2 _ _ (by simpa using ai) ap;have t12:=f2.tup1 ak;exists b,kM,rfl,by rw[aC<|aP aq he];exact aq,(Tup.new he) _ _<|t12 _ _ bj;have c3:upd H2 e (.tup [.ref I,.ref l,.non]) tx=some (.dT []):=by rw[aC<|aP aq he];exact aq
  have f3:FrS [] H (upd (upd H2 e<|.tup [.ref I,.ref l,.non]) tx<|.dT [(kM,.ref e)]):=λb o _ z=>by
   rw[aC<|aP z aj,aC<|aP (f2 _ _ (by simpa using aP z aw)<|f1 _ _ aV z) he];exact f2 _ _ (by simpa using aP z aw)<|f1 _ _ aV z
  have nB:∀b,H1 b=none->H b=none/\b≠ct/\b≠tx:=λb T=>⟨nX f1 T,bK<|aP ak T,bK<|aP ap T⟩;have az:FrS [tx] H2 (upd (upd H2 e<|.tup [.ref I,.ref l,.non]) tx<|.dT [(kM,.ref e)]):=(FrS.new he).trans<|FrS.chg<|.head _;have bk:Tup H2 (upd (upd H2 e<|.tup [.ref I,.ref l,.non]) tx<|.dT [(kM,.ref e)]):=(Tup.new he).trans<|Tup.chg c3 λxs z=>nomatch z;have TX:TxAt G.nm H (upd (upd H2 e<|.tup [.ref I,.ref l,.non]) tx<|.dT [(kM,.ref e)]) tx ct L 1:=⟨_,e,l,_,_,es,zb1,rfl,(Tup.chg c3 λxs z=>nomatch z) _ _ zb1,az _ _ (by simpa using (nB l hl).2.2) b8,nB l hl,hE.keep bk az λb T=>⟨by simpa using (nB b T).2.2,nB b T⟩,aW _⟩;have bx:=az _ _ (by simpa using bK ai) c7;have b5:=Tup.of0 f3;generalize upd (upd H2 e<|.tup [.ref I,.ref l,.non]) tx (.dT [(kM,.ref e)])=H3 at f3 az bk TX bx b5;have b7:CU L (ks.flatMap hX) Lr=G.bo "" "":=cc.symm;exists _,rfl,p,_,_,_,rfl,rfl,SqT.of<|b5 _ _ p1,rfl,kt,rfl,⟨_,SqT.of<|b5 _ _ p2⟩;refine kH (xs:=us.map V.ref) (SS Z G.nm H p ch mo ct tx ks k'<|G.bo "" "") ⟨_,_,_,_,_,_,_,k1,L,Lr,rfl,f3,bx,TX,by rw[oY];exact tm.keep b5,by rw[oY];exact b7⟩ ?_ ?_ ?_
  .rintro i σ Hx hi ⟨_,_,_,_,_,_,_,_,_,_,_,fr,_⟩;exact SqT.of<|(Tup.of0 fr) _ _ p2
  .rintro i x σ Hx J ⟨y1,y2,y3,y4,y5,y6,y7,kx,L0,c0,rfl,fr,bm,ax,ag,a7⟩;rw[bO,wq8]at J;obtain⟨u,a8,rfl⟩:=J;have hi:i<↑ks:=by rw[<-p3];exact(zz2.mp a8).1
   obtain⟨ev,dt,fs,q1,q2,q3,q4,q5⟩:=p4 i u ks[i] a8<|bF hi;have ah:=Tup.of0 fr;rw[nT hi,List.flatMap_cons]at ag a7;generalize ks[i]=y at q1 q3 q4 ag a7;exists u,_,rfl,SqT.of<|ah _ _ q1,rfl,_,_,rfl,_,_,rfl,_,_,rfl,rfl;exists _,rfl,dt,rfl,⟨_,SqT.of<|ah _ _ q2⟩;refine kH (xs:=fs.map V.ref) (TF Z G.nm H p ch mo ct tx dt ev y ((ks.drop<|i+1).flatMap hX) k' (1+80*i)<|G.bo "" "") ⟨_,_,_,_,kx,L0,c0,rfl,fr,bm,ax,by rw[oY];exact ag,by rw[oY];exact a7⟩ ?_ ?_ ?_
   .rintro j σ Y M ⟨_,_,_,_,_,_,_,_,B,_⟩;exact SqT.of<|(Tup.of0 B) _ _ q2
   .rintro j x σ Y J ⟨z4,z5,z6,z7,ky,M0,Mr,rfl,B,av,ao,ad,ac⟩;rw[bO,wq8]at J;obtain⟨g,hg,rfl⟩:=J;have M:j<↑y.2:=by rw[<-q3];exact(zz2.mp hg).1
    obtain⟨pv,gv,g1,g2,g3⟩:=q4 j g y.2[j] hg<|bF M;rw[nT M,fS,List.cons_append]at ad ac;generalize y.2[j]=z at g1 g2 g3 ad ac;cases ad with
    | @cons _ k2 _ _ _ L2' Lr2 hm2 sm2 zm2 tm2=>
     have af:=Tup.of0 B;have cq:=tm2.le;obtain⟨kv,ee,rl,v1,v2,bw,x1,x2,x3,x4,x5,x6,x7⟩:=id ao;exists g,_,rfl,SqT.of<|af _ _ g1,rfl,_,_,rfl,_,_,rfl,_,_,rfl,_,_,rfl,rfl;refine⟨_,rfl,_,rfl,_,rfl,Z,G.nm,z.2.1,ct,ky,k2,z.2.2.1,L2',rfl,hm2,sm2,av,hn,by lia,λl2 cr Hz fz c8 b8 be c5 _=>⟨_,rfl,s3,λe2 b6=>⟨_,rfl,_,rfl,_,rfl,s2,λb2 c1=>?_⟩⟩⟩;obtain⟨r1,r2,r3,r4⟩:=ao.step (n:=y.1) (d:=z.1) (pv:=pv) (gv:=gv) B aw aj av x1 fz c8 b8 be c5 b6 c1;have bg:tx≠ct:=ai;have b3:=fz _ _ (by simpa using bg) x1;have bf:upd (upd Hz e2<|.tup [pv,.ref l2,gv]) b2 (.tup [.str y.1,.str z.1]) tx=some (.dT kv):=by rw[aC<|aP (by rw[aC<|aP b3 b6];exact b3) c1,aC<|aP b3 b6];exact b3
     exists tx,_,rfl,DPut.t (k:=[Sum.inr y.1,Sum.inr z.1]) bf zb1 (kF<|by lia);exact⟨_,_,_,_,k2,_,Lr2,rfl,r2,r3,r1,tm2.keep r4,ac⟩
   .rintro σ Y ⟨z4,z5,z6,z7,ky,M0,Mr,rfl,B,av,ao,ad,ac⟩;rw[aK]at ao ad ac;rw[q3,xF,List.map_nil,wJ]at ad ac;obtain⟨kv,ee,rl,v1,v2,bw,x1,x2,x3,x4,x5,x6,x7⟩:=ao;exact⟨_,_,_,_,_,_,_,ky,M0,Mr,rfl,B,av,⟨kv,ee,rl,v1,v2,bw,x1,x2,x3,x4,x5,x6,by lia⟩,ad,ac⟩
  .rintro σ Hx ⟨y1,y2,y3,y4,y5,y6,y7,kx,L0,c0,rfl,fr,bm,ax,ag,a7⟩;rw[aK,p3,xF]at ag a7;rw[aK]at ax;cases ag;have a7:L0=G.bo "" "":=a7;subst a7;obtain⟨cp,ts,vx,vy,d1,d2,d3,d4⟩:=id hK;rw[p1]at d1;cases d1;rw[p2]at d2;have cf:us=ts:=wM<|HO.tup.inj<|gX d2;subst cf;obtain⟨cw,ca,vm,l1,l2,l3,l4,l5⟩:=id ce;rw[p1]at l1;cases l1;have ah:=Tup.of0 fr;refine⟨_,rfl,p,_,_,_,rfl,rfl,SqT.of<|ah _ _ p1,rfl,kt,rfl,⟨_,SqT.of<|ah _ _ p2⟩,λDl br=>?_⟩;refine uQ (xs:=us.map V.ref) (SO Hx p Dl tr m) ⟨_,[],rfl,FrS.new br,zb1,.nil⟩ ?_ ?_ ?_
   .rintro j σ Y M ⟨_,_,_,B,_⟩;exact SqT.of<|(Tup.of0<|fr.trans B) _ _ p2
   .rintro j x σ Y J ⟨y,tz,rfl,B,am,a6⟩;rw[bO,wq8]at J;obtain⟨u,a8,rfl⟩:=J;have M:j<↑tr:=by rw[<-d3];exact(zz2.mp a8).1
    obtain⟨vz,hz⟩:=d4 j u tr[j] a8<|bF M;have af:=Tup.of0<|fr.trans B;have et:hr0 (tr.take<|j+1) m=hr0 (tr.take j) m++(if tr[j].1∈m then [] else [tr[j].1]):=by
     unfold hr0;rw[DG M,bN,List.filter_append]
     congr 1
     by_cases c:tr[j].1∈m
     .rw[bC c];simp[c]
     .rw[aZ c];simp[c]
    exists _,rfl,u,_,_,_,rfl,rfl,SqT.of<|af _ _ hz,fK _ _,_,rfl,p,_,_,_,rfl,rfl,SqT.of<|af _ _ p1,rfl,ca,_,rfl,.inr<|SqT.of<|af _ _ l2,rfl,jM _,_,rfl;show if (!iN (.str tr[j].1) (m.map V.str))=true then _ else _
    rw[lJ]
    by_cases c:tr[j].1∈m
    .rw[eW c];exact bE ⟨_,tz,rfl,B,am,by rw[et,bC c,fY];exact a6⟩
    .rw[gR c];refine cH ⟨_,rfl,u,_,_,_,rfl,rfl,SqT.of<|af _ _ hz,fK _ _,s2,λt W=>?_⟩;have ab:upd Y t (.tup [.str tr[j].1,.bl true]) Dl=some (.lst<|tz.map V.ref):=by rw[aC<|aP am W];exact am
     have be:↑tz<=12:=by
      rw[a6.len];unfold hr0;have:=uV (λx=>decide<|x∉m)<|(tr.take j).map (·.1);rw[aK,eM]at this;lia
     refine⟨_,ab,bG (by rw[aK];lia),_,tz++[t],rfl,(B.trans<|FrS.new W).put br,by rw[zb1,bN];rfl,?_⟩;rw[et,aZ c];exact(a6.imp λa b h=>(Tup.lst ab) _ _<|(Tup.new W) _ _ h).snoc<|(Tup.lst ab) _ _ zb1
   .rintro σ Y ⟨y,tz,rfl,B,am,a6⟩;rw[aK,d3,xB]at a6;have be:↑tz<=12:=by
     rw[a6.len];unfold hr0;have:=uV (λx=>decide<|x∉m)<|tr.map (·.1);rw[aK]at this;lia
    have bn:↑(fN<|hr0 tr m)=↑tz:=by unfold fN;rw[aK,a6.len]
    refine⟨Dl,tz,fN<|hr0 tr m,rfl,SqL.of am,bn.symm,by rw[bn];exact bG (by lia),λj t kv W aa=>?_,λar b4=>?_⟩
    .obtain⟨k0,e1,e2⟩:=a6.get W;unfold fN at aa;rw[bO,e1]at aa;cases aa;exact SqT.of e2
    have bc:cO [] (fN<|hr0 tr m)=fN (hr0 tr m):=by
     rw[MI _ [] (by
      rw[wJ];unfold fN;rw[kX];exact List.pairwise_map.mpr<|(ok.nd.filter _).imp λck z=>ck<|jU z),wJ]
    rw[bc];have fa:FrS [] H (upd Y ar<|.dK<|fN<|hr0 tr m):=(fr.trans B).trans<|FrS.new b4;have bh:upd Y ar (.dK<|fN<|hr0 tr m) ar=some (.dK<|fN<|hr0 tr m):=zb1;have b9:H ar=none:=nX (fr.trans B) b4;have bz:TxAt G.nm H (upd Y ar<|.dK<|fN<|hr0 tr m) tx ct (G.bo "" "") (1+80*↑us):=ax.keep ((Tup.of0 B).trans<|Tup.new b4) ((B.trans<|FrS.new b4).mono λ_ h=>absurd h aV) ai;generalize upd Y ar (.dK<|fN<|hr0 tr m)=Ha at fa bh bz;have ta:=Tup.of0 fa;refine⟨_,rfl,p,_,_,_,rfl,rfl,SqT.of<|ta _ _ p1,rfl,kt,rfl,⟨_,SqT.of<|ta _ _ p2⟩,λDu bi=>?_⟩;refine uQ (xs:=us.map V.ref) (SQ Ha Du tr) ⟨_,[],rfl,FrS.new bi,zb1,.nil⟩ ?_ ?_ ?_
    .rintro j σ Hz M ⟨_,_,_,fz,_⟩;exact SqT.of<|(Tup.of0<|fa.trans fz) _ _ p2
    .rintro j x σ Hz J ⟨y',tw,rfl,fz,ay,a9⟩;rw[bO,wq8]at J;obtain⟨u,a8,rfl⟩:=J;have M:j<↑tr:=by rw[<-d3];exact(zz2.mp a8).1
     obtain⟨vz,hz⟩:=d4 j u tr[j] a8<|bF M;have bs:=Tup.of0<|fa.trans fz;refine⟨_,rfl,u,_,_,_,rfl,rfl,SqT.of<|bs _ _ hz,fK _ _,_,rfl,u,_,_,_,rfl,rfl,SqT.of<|bs _ _ hz,rfl,s2,λt W=>?_⟩;have ab:upd Hz t (.tup [.str tr[j].1,bA tr[j].2]) Du=some (.lst<|tw.map V.ref):=by rw[aC<|aP ay W];exact ay
     refine⟨_,ab,bG (by rw[aK,a9.len,eM];lia),_,tw++[t],rfl,(fz.trans<|FrS.new W).put bi,by rw[zb1,bN];rfl,?_⟩;rw[DG M];exact(a9.imp λa b h=>(Tup.lst ab) _ _<|(Tup.new W) _ _ h).snoc<|(Tup.lst ab) _ _ zb1
    .rintro σ Hz ⟨y',tw,rfl,fz,ay,a9⟩;rw[aK,d3,xB]at a9;have an:↑(cM tr)=↑tw:=by unfold cM;rw[aK,a9.len]
     refine⟨Du,tw,cM tr,rfl,SqL.of ay,an.symm,by rw[an,a9.len];exact bG (by lia),λj t kv W aa=>?_,λup bq=>?_⟩
     .obtain⟨k0,e1,e2⟩:=a9.get W;unfold cM at aa;rw[bO,e1]at aa;cases aa;exact SqT.of e2
     rw[NL ok];have fu:FrS [] Ha (upd Hz up<|.dK<|cM tr):=fz.trans<|FrS.new bq;have bp:upd Hz up (.dK<|cM tr) up=some (.dK<|cM tr):=zb1;generalize upd Hz up (.dK<|cM tr)=r at fu bp;have cd:=bz.keep (Tup.of0 fu) (fu.mono λ_ h=>absurd h aV) ai;have a0:=fu _ _ aV bh;have tu:=Tup.of0<|fa.trans fu;intro rn ba;have k1:∀{b:Addr}{o:HO},r b=some o->upd r rn (.dK []) b=some o:=λe=>by rw[aC<|aP e ba];exact e
     refine⟨_,rfl,_,rfl,_,rfl,_,rfl,ch,_,rfl,.inr<|SqT.of<|k1<|tu _ _ cj,λC a5=>⟨_,rfl,bM _,λlo X=>⟨bM _,λth bd=>?_⟩⟩⟩;have k2:∀{b:Addr}{o:HO},r b=some o->upd (upd r rn<|.dK []) C (.lst<|G.ch.map V.int) b=some o:=λe=>by rw[aC<|aP (k1 e) a5];exact k1 e
     have k3:∀{b:Addr}{o:HO},r b=some o->upd (upd (upd r rn<|.dK []) C<|.lst<|G.ch.map V.int) lo (.lst []) b=some o:=λe=>by rw[aC<|aP (k2 e) X];exact k2 e
     have r1:upd (upd r rn<|.dK []) C (.lst<|G.ch.map V.int) rn=some (.dK []):=by rw[aC<|aP zb1 a5];exact zb1
     have r2:upd (upd (upd r rn<|.dK []) C<|.lst<|G.ch.map V.int) lo (.lst []) rn=some (.dK []):=by rw[aC<|aP r1 X];exact r1
     have c2:upd (upd (upd r rn<|.dK []) C<|.lst<|G.ch.map V.int) lo (.lst []) C=some (.lst<|G.ch.map V.int):=by rw[aC<|aP zb1 X];exact zb1
     have b0:upd (upd (upd r rn<|.dK []) C<|.lst<|G.ch.map V.int) lo (.lst []) lo=some (.lst []):=zb1;have cm:lo≠C:=λz=>by rw[z,zb1]at X;cases X
     generalize upd (upd (upd r rn<|.dK []) C<|.lst<|G.ch.map V.int) lo (.lst [])=H5 at bd k3 r2 c2 b0;have n1:∀{b:Addr}{o:HO},H5 b=some o->b≠th:=λe=>aP e bd;have n2:∀{b:Addr}{o:HO},r b=some o->b≠rn:=λe=>aP e ba;refine⟨by rw[aC<|n1 r2];exact r2,[(Sum.inr "texts",.ref tx),(Sum.inr "up",.ref up),(Sum.inr "around",.ref ar),(Sum.inr "choices",.ref C),(Sum.inr "left",.int mo),(Sum.inr "log",.ref lo),(Sum.inr "looks",.int 0),(Sum.inr "end",.non),(Sum.inr "things",.ref th),(Sum.inr "calls",.int 0)],rfl,by show 10<=15;decide,?_⟩;obtain⟨kv,e',cn,v1,v2,c6,x1,x2,x3,x4,x5,x6,x7⟩:=cd;have nz:∀{b:Addr}{o:HO},r b=some o->b≠ar->(if b=ar then none else r b)=some o:=λe n=>by rw[aZ n];exact e
     have al:∀{b:Addr}{o:HO},r b=some o->(∀kv,o≠.dK kv)->b≠ar:=λe n z=>by rw[z,a0]at e;cases e;exact n _ rfl
     have c9:up≠ar:=λz=>by have:=fz _ _ aV bh;rw[<-z,bq]at this;cases this
     have F:∀{b:Addr}{o o1 o2:HO},r b=some o->upd (upd H5 th o1) rn o2 b=some o:=λe=>by rw[aC<|n2 e,aC<|n1<|k3 e];exact k3 e
     refine q rn cn e' ⟨λb=>if b=ar then none else r b,G,tx,up,mo⟩ ⟨ar,C,lo,th,[],[],[],[]⟩ kv v1 v2 c6 _ (λb o _ e=>F<|(fa.trans fu) _ _ aV e) (λb o _ e=>nz ((fa.trans fu) _ _ aV e)<|aP e b9) rfl rfl rfl rfl ⟨⟨.nil,.nil,.nil,rfl⟩,.no,⟨?_,?_,?_,?_⟩⟩ (nz bp c9) (nz x1<|al x1 λ_ z=>nomatch z) x2 (nz x3<|al x3 λ_ z=>nomatch z) (nz x4<|al x4 λ_ z=>nomatch z)<|x6.shp (λb xs e=>nz e<|al e λ_ z=>nomatch z) λb xs e=>nz e<|al e λ_ z=>nomatch z
     .intro z hz;rcases wp9.mp hz with rfl | hz
      .have I:(mo-((0:Nat):Int))=mo:=by simp
       show upd _ rn _ rn=some (HO.dK [(Sum.inr "texts",.ref tx),(Sum.inr "up",.ref up),(Sum.inr "around",.ref ar),(Sum.inr "choices",.ref C),(Sum.inr "left",.int<|mo-((0:Nat):Int)),(Sum.inr "log",.ref lo),(Sum.inr "looks",.int 0),(Sum.inr "end",.non),(Sum.inr "things",.ref th),(Sum.inr "calls",.int 0)]);rw[I];exact zb1
      rcases wp9.mp hz with rfl | hz
      .exact F a0
      rcases wp9.mp hz with rfl | hz
      .show upd _ rn _ C=some (HO.lst<|G.ch.map V.int);rw[aC (λz=>by rw[z,zb1]at a5;cases a5),aC<|n1 c2];exact c2
      rcases wp9.mp hz with rfl | hz
      .show upd _ rn _ lo=some (HO.lst []);rw[aC (λz=>by rw[z,r1]at X;cases X),aC<|n1 b0];exact b0
      rcases wp9.mp hz with rfl | hz
      .show upd _ rn _ th=some (HO.lst []);rw[aC<|bK<|n1 r2];exact zb1
      .cases hz
     .show([rn,ar,C,lo,th]:List Addr).Nodup;have a1:rn≠ar:=bK<|n2 a0;have a2:rn≠C:=λz=>by rw[<-z,zb1]at a5;cases a5
      have a3:rn≠lo:=λz=>by rw[<-z,r1]at X;cases X
      have b1:ar≠C:=aP (k1 a0) a5;have b2:ar≠lo:=aP (k2 a0) X;simp[a1,a2,a3,n1 r2,b1,b2,n1<|k3 a0,bK cm,n1 c2,n1 b0]
     .have N:∀{b:Addr},r b=none->(if b=ar then none else r b)=none:=λe=>by
       split
       .rfl
       .exact e
      have O:∀{G H:Hp}{b:Addr},(∀{o:HO},G b=some o->H b=some o)->H b=none->G b=none:=λ{G H b} k e=>by
       cases z:G b with
       | none=>rfl
       | some o=>rw[k z]at e;cases e
      intro z hz;rcases wp9.mp hz with rfl | hz
      .exact N ba
      rcases wp9.mp hz with rfl | hz
      .exact bC rfl
      rcases wp9.mp hz with rfl | hz
      .exact N<|O k1 a5
      rcases wp9.mp hz with rfl | hz
      .exact N<|O k2 X
      rcases wp9.mp hz with rfl | hz
      .exact N<|O k3 bd
      .cases hz
     .intro b o ae;have ae:(if b=ar then none else r b)=some o:=ae
      by_cases c:b=ar
      .rw[bC c]at ae;cases ae
      .rw[aZ c]at ae;exact F ae
def ResAt(H:Hp)(r:Rs×Str×V)(l:Addr):Prop:=∃(tl el:Addr)(ls:List Addr),H l=some (.tup [.ref tl,.int r.1.lk,.ref el])/\H tl=some (.tup<|ls.map V.ref)/\A2 (λx a=>H a=some (.tup x)) r.1.lg ls/\H el=some (.tup [.str r.2.1,r.2.2])
def ResAt.keep(h:ResAt H r l)(f:Tup H H'):ResAt H' r l:=by
 obtain⟨tl,a,ls,h1,h2,b,d⟩:=h;exact⟨tl,a,ls,f _ _ h1,f _ _ h2,b.imp λ_ _ e=>f _ _ e,f _ _ d⟩
def Fl1(l:List (List V)):Prop:=∀r∈l,↑r<=4/\∀x∈r,hJ x x
def Fl1.app(h:Fl1 l)(g:↑r<=4/\∀x∈r,hJ x x):Fl1 (l++[r]):=λr' hr=>(wr7.mp hr).elim (h r') λhr=>by rw[wq1.mp hr];exact g
def zF{s:Str}:hJ (.str s) (.str s):=.inl ⟨s,rfl,rfl⟩
def EG{i:Int}:hJ (.int i) (.int i):=.inr<|.inl ⟨i,rfl,rfl⟩
def yB(h:hJ x x)(g:∀y∈l,hJ y y):∀y∈x::l,hJ y y:=λy a=>(wp9.mp a).elim (λe=>by rw[e];exact h)<|g y
def nJ:∀y∈([]:List V),hJ y y:=λy a=>nomatch a
theorem OU:∀(l:List Str)(S:Rs),Fl1 S.lg->Fl1 (l.foldl Rs.come S).lg
 | [],S,h=>h
 | k::l,S,h=>by
  refine OU l (S.come k) ?_;unfold Rs.come
  split
  .exact h
  .exact h.app ⟨show 2<=4 by decide,yB zF<|yB zF nJ⟩
def QL{S:Rs}{v:V}{f:Int->Rs×Option Str}(h:Fl1 S.lg)(g:∀j,Fl1 (f j).1.lg):Fl1 (S.thing v f).1.lg:=by
 cases v with
 | int j=>exact g j
 | _=>exact h
theorem TM:∀(n:Nat)(S:Rs),(pushN l m n S).lg=S.lg
 | 0,_=>rfl
 | n+1,S=>TM n<|S.push l m
def UU{P:Pg}(S:Rs)(d:Du)(h:Fl1 S.lg):Fl1 (doR P S d).1.lg:=by
 have ite:∀{c:Prop} [Decidable c] {a b:Rs×Option Str},Fl1 a.1.lg->Fl1 b.1.lg->Fl1 (if c then a else b).1.lg:=λh1 h2=>by split <;> assumption
 cases d with
 | op m' a r m=>
  cases r with
  | make x k=>exact ite h h
  | copy x y=>exact h
  | put x f y=>exact QL h λj=>h
  | take x y f=>exact QL h λj=>h
  | say w=>exact h.app ⟨show 3<=4 by decide,yB zF<|yB EG<|yB zF nJ⟩
  | bring k=>exact OU _ S h
 | either m' a p q m=>exact h
 | again m' a p m=>
  show Fl1 (pushN _ _ _ _).lg;rw[TM];exact h
def Rn.fl{P:Pg}(t:Rn P mo dn S S' e v)(h:Fl1 S.lg):Fl1 S'.lg/\hJ v v:=by
 induction t with
 | done _=>exact⟨h,.inr<|.inr ⟨rfl,rfl⟩⟩
 | long _ _=>exact⟨h,EG⟩
 | @stop dn S S' d r e _ hm he=>
  have:=UU (P:=P) {S with td:=r} d h;rw[he]at this;exact⟨this,EG⟩
 | @go dn S S1 S' d r e v _ hm he _ ih=>
  have:=UU (P:=P) {S with td:=r} d h;rw[he]at this;exact ih this
def Al(H:Hp):Nat->V->V->Prop
 | 0=>hJ
 | n+1=>λx y=>hJ x y\/∃a b xs ys,x=.ref a/\y=.ref b/\H a=some (.tup xs)/\H b=some (.tup ys)/\↑xs<=100000/\A2 (Al H n) xs ys
theorem Al.keep(f:Tup H H'):∀{n:Nat}{x y:V},Al H n x y->Al H' n x y
 | 0,_,_,h=>h
 | n+1,x,y,h=>by
  rcases h with h | ⟨a,b,xs,ys,h1,h2,h3,h4,h6,h5⟩
  .exact .inl h
  .exact .inr ⟨a,b,xs,ys,h1,h2,f _ _ h3,f _ _ h4,h6,h5.imp λ_ _ g=>Al.keep f g⟩
theorem Al.row{H:Hp}:∀r:List V,(∀x∈r,hJ x x)->A2 (Al H 0) r r
 | [],_=>.nil
 | x::r,h=>.cons (h x<|.head _)<|Al.row r λy a=>h y<|.tail _ a
def ZJ(hl:Fl1 l)(h:A2 (λx a=>H a=some (.tup x)) l ls)(g:A2 (λx a=>H a=some (.tup x)) l ls'):A2 (Al H 1) (ls.map V.ref) (ls'.map V.ref):=by
 induction h generalizing ls' with
 | nil=>cases g;exact .nil
 | @cons r a l ls e t ih=>
  cases g with
  | cons e' t'=>exact .cons (.inr ⟨a,_,r,r,rfl,rfl,e,e',by have:=(hl r<|.head _).1;lia,Al.row r (hl r<|.head _).2⟩)<|ih (λr hr=>hl r<|.tail _ hr) t'
def tF{r:Rs×Str×V}(i:↑r.1.lg<=100000)(hl:Fl1 r.1.lg)(m:hJ r.2.2 r.2.2)(h:ResAt H r a)(g:ResAt H r b):Al H 3 (.ref a) (.ref b):=by
 obtain⟨tl,l,ls,h1,h2,d,s⟩:=h;obtain⟨q,j,u,o,f,e,n⟩:=g;exact .inr ⟨a,b,_,_,rfl,rfl,h1,o,show 3<=100000 by decide,.cons (.inr ⟨tl,q,_,_,rfl,rfl,h2,f,by rw[aK,<-d.len];exact i,ZJ hl d e⟩)<|.cons (.inl EG)<|.cons (.inr ⟨l,j,_,_,rfl,rfl,s,n,show 2<=100000 by decide,.cons (.inl zF)<|.cons (.inl m) .nil⟩) .nil⟩
def Rn.uniq{P:Pg}(a:Rn P mo dn S S1 e1 v1)(b:Rn P mo dn S S2 e2 v2):S1=S2/\e1=e2/\v1=v2:=by
 induction a with
 | done h=>
  cases b with
  | done _=>exact⟨rfl,rfl,rfl⟩
  | long h' _=>rw[h]at h';cases h'
  | stop h' _ _=>rw[h]at h';cases h'
  | go h' _ _ _=>rw[h]at h';cases h'
 | long h m=>
  cases b with
  | done h'=>rw[h]at h';cases h'
  | long h' _=>rw[h]at h';cases h';exact⟨rfl,rfl,rfl⟩
  | stop h' m' _=>exact absurd m<|vk9.mpr m'
  | go h' m' _ _=>exact absurd m<|vk9.mpr m'
 | stop h m r=>
  cases b with
  | done h'=>rw[h]at h';cases h'
  | long h' m'=>exact absurd m'<|vk9.mpr m
  | stop h' _ r'=>rw[h]at h';cases h';rw[r]at r';cases r';exact⟨rfl,rfl,rfl⟩
  | go h' _ r' _=>rw[h]at h';cases h';rw[r]at r';cases r'
 | go h m r _ ih=>
  cases b with
  | done h'=>rw[h]at h';cases h'
  | long h' m'=>exact absurd m'<|vk9.mpr m
  | stop h' _ r'=>rw[h]at h';cases h';rw[r]at r';cases r'
  | go h' _ r' t=>rw[h]at h';cases h';rw[r]at r';cases r';exact ih t
abbrev GX:Stmt:=top 70
abbrev rG:List Str:=["_law_found","_law_due"]
inductive AZ(n:Nat)(vs:List V)(H:Hp)(Q:VK):Prop
 | mk(x y:V)(h1:vs=[x,y])(h2:Al H n x y)(h3:∀H',FrS [] H H'->Q (.bl true) H'):AZ n vs H Q
def mL(n:Nat):Sp:=λvs H Q _=>AZ n vs H Q
def oK:Nat->Sp
 | 0=>λ_ _ _ _=>False
 | n+1=>mL n
inductive MZ(H:Hp)(D:Addr)(i:Nat)(σ:St)(Hx:Hp):Prop
 | mk(x y:Option V)(hσ:σ=[x,y])(fr:FrS [] H Hx)(hD:Hx D=some (.lst<|(List.replicate i true).map V.bl)):MZ H D i σ Hx
def tK:bZ rG rG (bR GX):=cC
def QE{k n:Nat}(F:Fun K "_law_same" "_law_same" GX f fd)(T:aS P w K mg base k "_law_same" rG (oK n))(d:mg "isinstance"=none)(J:mg "tuple"=none)(X:mg "bool"=none)(N:mg "str"=none)(mn:mg "int"=none)(W:mg "len"=none)(a2:mg "all"=none)(mz:mg "zip"=none):aR P w K mg base bQ (k+1) f fd rG (mL n):=by
 refine F.ok tK (λvs H Q E h=>?_) λab A outer s H vs Q E hr h=>?_
 .obtain⟨x,y,rfl,_⟩:=h;rfl
 obtain⟨x,y,rfl,h,q⟩:=h;have M:(["_law_one","_law_other"]:List Str).Nodup:=by rfl'
 exists _,aL (cL (yX<|eA tX rfl d (by rfl')<|aA (pv 1)<|aA (qS (v:=.ty "tuple") rfl J (by rfl') rfl) aE)
   (aQ (bS (xT (eA tX rfl d (by rfl')<|aA (pv 0)<|aA (qS (v:=.ty "tuple") rfl J (by rfl') rfl) aE)
    (xT (pS eZ (eA iW rfl W iR<|aA (pv 0) aE) (eA iW rfl W iR<|aA (pv 1) aE)<|cE _) (HX (eA (Dc rfl) rfl a2 (by rfl') (aA (iE (N':=["_law_one","_law_other"]) (src:=[none,none]) rfl eS (tW (p:=true) rfl mz<|aA (pv 0)<|aA (pv 1) aE)
     (g:=eN K 2<|dW (bW 0)<|dW (bW 1) eO) (λ_ _ _ _=>eG (n:=2) rfl<|bL (gL 0 M)<|bL (gL 1 M) eK)
     (λ_ _ _ _=>gO) (te:=fL (oK n) [] E0<|aY (aI 0)<|aY (aI 1) aX) (λ_ _ _ _=>bB T hr rfl<|aA (pv 0)<|aA (pv 1) aE)) aE))))))) dD)
  (aL (cL (iL<|oR<|pv 1) (aQ<|bS<|OG<|oR<|pv 0) dD) (aL (cL (yX<|eA tX rfl d (by rfl')<|aA (pv 1)<|aA (qS (v:=.ty "bool") rfl X (by rfl') rfl) aE) MA dD)
  (aL (cL (yX<|eA tX rfl d (by rfl')<|aA (pv 1)<|aA (qS (v:=.ty "str") rfl N (by rfl') rfl) aE)
   (aQ<|bS<|xT (eA tX rfl d (by rfl')<|aA (pv 0)<|aA (qS (v:=.ty "str") rfl N (by rfl') rfl) aE)<|HX<|pS eZ (pv 0) (pv 1)<|cE _) dD)
  (aQ (bS (xT (eA tX rfl d (by rfl')<|aA (pv 0)<|aA (qS (v:=.ty "int") rfl mn (by rfl') rfl) aE)
   (xT (rQ<|eA tX rfl d (by rfl')<|aA (pv 0)<|aA (qS (v:=.ty "bool") rfl X (by rfl') rfl) aE)<|HX<|pS eZ (pv 0) (pv 1)<|cE _)))))))
 ac_rfl
 have C:=q H FrS.refl;have e:hJ x y\/∃m,n=m+1/\∃a b xs ys,x=.ref a/\y=.ref b/\H a=some (.tup xs)/\H b=some (.tup ys)/\↑xs<=100000/\A2 (Al H m) xs ys:=by
  cases n with
  | zero=>exact .inl h
  | succ n=>exact h.imp id λh=>⟨n,rfl,h⟩
 rcases e with (⟨z,rfl,rfl⟩ | ⟨z,rfl,rfl⟩ | ⟨rfl,rfl⟩) | ⟨m,rfl,a,b,xs,ys,rfl,rfl,ha,hb,hxl,hA⟩
 .exists _,rfl,_,_,_,false,rfl,.str z,by first | rfl | rfl',_,rfl;exists _,rfl,_,rfl;exists _,rfl,_,_,_,false,rfl,.str z,by first | rfl | rfl',_,rfl;exists _,rfl,_,_,_,true,rfl,.str z,rfl,_,rfl;exists _,rfl,_,_,_,true,rfl,.str z,rfl,_,rfl;exists _,rfl,_,rfl,rfl;show Q (.bl<|decide<|V.str z=V.str z) H;rw[eW rfl];exact C
 .exists _,rfl,_,_,_,false,rfl,.int z,by first | rfl | rfl',_,rfl;exists _,rfl,_,rfl;exists _,rfl,_,_,_,false,rfl,.int z,by first | rfl | rfl',_,rfl;exists _,rfl,_,_,_,false,rfl,.int z,by first | rfl | rfl',_,rfl;exists _,rfl,_,_,_,true,rfl,.int z,rfl,_,rfl;exists _,rfl,_,_,_,false,rfl,.int z,by first | rfl | rfl',_,rfl,_,rfl;exists _,rfl,_,rfl,rfl;show Q (.bl<|decide<|V.int z=V.int z) H;rw[eW rfl];exact C
 .exists _,rfl,_,_,_,false,rfl,.non,by first | rfl | rfl',_,rfl;refine⟨_,rfl,_,rfl,cH ⟨_,rfl,?_⟩⟩;exact C
 .have a1:=hA.len;exists _,rfl,_,_,_,true,rfl,.tup hb,by first | rfl | rfl',_,rfl;exists _,rfl,_,_,_,true,rfl,.tup ha,by first | rfl | rfl',_,rfl;exists _,rfl,a,_,rfl,.inr<|SqT.of ha,_,rfl,b,_,rfl,.inr<|SqT.of hb,rfl,_,rfl;show if (decide<|V.int (↑xs:Nat)=V.int (↑ys:Nat))=true then _ else _
  rw[bC<|by rw[a1];simp];refine⟨_,rfl,_,rfl,a,b,_,_,rfl,SqT.of ha,SqT.of hb,λD G=>?_⟩;exists λi m' σ j=>m'=↑xs-i/\i<=↑xs/\MZ H D i σ j,⟨_,rfl,bM _,_,_,rfl,(FrS.refl).put G,zb1⟩;rintro i m' σ j ⟨rfl,hi,⟨x0,y0,rfl,fr,B⟩⟩;have u:SqT K j a xs:=SqT.of<|Tup.of0 fr _ _ ha;have r:SqT K j b ys:=SqT.of<|Tup.of0 fr _ _ hb
  by_cases a6:i<↑xs
  .have o:xs[i]?=some xs[i]:=bF a6;obtain⟨O,a7,L⟩:=hA.get o;refine .inr ⟨⟨_,_,_,_,u,r,o,a7⟩,MZ H D<|i+1,λσ' H' h=>⟨_,by lia,rfl,a6,h⟩,λv H' yl=>?_⟩;obtain⟨I,x,y,e,rfl,rfl,y1,y2⟩:=yl;have Y:=y1 _ u;rw[o]at Y;have l:=y2 _ r;rw[a7]at l;have a9:xs[i]=x:=gX Y;have a8:O=y:=gX l;subst a8;rw[a9]at L;have aa:D≠I:=aP B e;exists I,_,rfl,SqT.of zb1,rfl,_,_,rfl,_,_,rfl,rfl;refine⟨_,rfl,_,rfl,x,O,rfl,L.keep<|(Tup.of0 fr).trans<|Tup.new e,λHz Z=>⟨_,Z _ _ aV (by rw[aC aa];exact B),?_,⟨_,_,rfl,((fr.trans<|FrS.new e).trans Z).put G,?_⟩⟩⟩
   .rw[aK,List.length_replicate];exact FK (by lia)
   .rw[zb1,List.replicate_succ',bN];rfl
  .refine .inl ⟨⟨_,_,u,r,.inl<|by lia⟩,D,List.replicate i true,rfl,SqL.of B,?_⟩;have l:(List.replicate i true).all id=true:=by rw[wt3];intro x hx;exact(List.mem_replicate.mp hx).2
   rw[l];exact q j fr
abbrev JJ:Stmt:=top 67
abbrev xN:List Str:=["_law_rows_here","_law_words_here"]
def iX(Z:Str->Option Str->Prop):Str->Option Str->Prop:=λk o=>o=none/\Z k o
abbrev w4:List Str:=["call","make","put","take"]
abbrev Lz:=List Addr×List Addr
inductive qQ(Z:Str->Option Str->Prop)(H:Hp):Nat->Addr->List Addr->Prop
 | mk {n:Nat} (w:Str) (ls:List Addr) (zs:List Lz) {fsa:List Addr} (h1:H a=some (.tup<|.str w::ls.map V.ref)) (h2:↑ls=1/\w="again"\/↑ls=2/\w="either") (h3:A2 (λl (z:Lz)=>H l=some (.tup<|z.1.map V.ref)/\Fl Z H n z.1 z.2) ls zs) (h4:(zs.map (·.2.length)).sum<=↑fsa):qQ Z H (n+1) a fsa
def Fl.hd(h:Fl Z H n (a::rs) fs):∃fsa fs',↑fs=1+↑fsa+↑fs'/\Fl Z H n rs fs'/\(PlainR (iX Z) H a\/CallR Z H a\/qQ Z H n a fsa):=by
 cases h with
 | @one _ _ _ fs h t=>
  exists [],fs,by rw[cJ,jB];lia,t;rcases h with ⟨r,h,hb⟩ | h
  .exact .inl ⟨r,h,λk e=>⟨rfl,hb k e⟩⟩
  .exact .inr<|.inl h
 | @again n _ l rs1 fs1 _ fs h hl s t=>exact⟨fs1,fs,by rw[cJ,bH];lia,t,.inr<|.inr<|.mk "again" [l] [(rs1,fs1)] h (.inl ⟨rfl,rfl⟩) (.cons ⟨hl,s⟩ .nil)<|by simp⟩
 | @either n _ l1 l2 rs1 fs1 rs2 fs2 _ fs h h1 h2 s1 s2 t=>exact⟨fs1++fs2,fs,by rw[cJ,bH,bH,bH];lia,t,.inr<|.inr<|.mk "either" [l1,l2] [(rs1,fs1),(rs2,fs2)] h (.inr ⟨rfl,rfl⟩) (.cons ⟨h1,s1⟩<|.cons ⟨h2,s2⟩ .nil)<|by simp⟩
theorem UK:∀{l:List Nat}{x:Nat},x∈l->x<=l.sum
 | y::l,x,h=>by
  rw[List.sum_cons];rcases wp9.mp h with rfl | h
  .exact mQ _ _
  .exact fX (UK h)<|Nat.le_add_left _ _
inductive CF(n:Nat)(vs:List V)(H:Hp)(Q:VK):Prop
 | mk(Z:Str->Option Str->Prop)(rt wt:Addr)(rs fs:List Addr)(h1:vs=[.ref rt,.ref wt])(h2:H rt=some (.tup<|rs.map V.ref))(h3:Fl Z H n rs fs)(h4:↑fs<=80)(h5:H wt=some (.tup<|w4.map V.str))
  (q:∀(rt':Addr)(rs' fs':List Addr)(H':Hp),FrS [] H H'->H' rt'=some (.tup<|rs'.map V.ref)->Fl (iX Z) H' n rs' fs'->↑fs'<=↑fs->Q (.ref rt') H'):CF n vs H Q
def kA(n:Nat):Sp:=λvs H Q _=>CF n vs H Q
def pU:Nat->Sp
 | 0=>λ_ _ _ _=>False
 | n+1=>kA n
inductive JL(Z:Str->Option Str->Prop)(n:Nat)(H:Hp)(rt wt fo:Addr)(rs fs:List Addr)(i:Nat)(σ:St)(Hx:Hp):Prop
 | mk(y1 y2:Option V)(rs' fs' fr:List Addr)(h1:σ=[some<|.ref rt,some<|.ref wt,some<|.ref fo,y1,y2])(h2:FrS [] H Hx)(h3:Hx fo=some (.lst<|rs'.map V.ref))(h4:Fl (iX Z) Hx n rs' fs')(h5:Fl Z H n (rs.drop i) fr)(h6:↑fs'+↑fr<=↑fs):JL Z n H rt wt fo rs fs i σ Hx
inductive SM(Z:Str->Option Str->Prop)(n:Nat)(H:Hp)(wt Dl:Addr)(zs:List Lz)(j:Nat)(σ:St)(Hx:Hp):Prop
 | mk(y:Option V)(ts fs:List Addr)(h1:σ=[y,some<|.ref wt])(h2:FrS [] H Hx)(h3:Hx Dl=some (.lst<|ts.map V.ref))(h4:Lots (iX Z) Hx n ts fs)(h5:↑fs<=((zs.take j).map (·.2.length)).sum)(h6:↑ts=j):SM Z n H wt Dl zs j σ Hx
def scWo:bZ ["_law_rows_here","_law_words_here","_law_found","_law_row_here","_law_lots"] xN (bR JJ):=cC
def pE{k n:Nat}(F:Fun K "_law_without" "_law_without" JJ f fd)(WO:aS P w K mg base k "_law_without" xN (pU n))(aj:mg "tuple"=none):aR P w K mg base bQ (k+1) f fd xN (kA n):=by
 refine F.ok scWo (λvs H Q E h=>?_) λbj A outer s H vs Q E hr h=>?_
 .obtain⟨Z,rt,G,rs,fs,rfl,_⟩:=h;rfl
 obtain⟨Z,rt,G,rs,fs,rfl,hz,ap,bg,ao,q⟩:=h;have hu:=eC hr;have ay:(["_law_lot","_law_words_here"]:List Str).Nodup:=by rfl'
 exists _,aL (sL 2 scWo.nd<|cG aE)
  (aL (dZ dJ rfl (gC<|pv 0) (gL 3 scWo.nd)<|aQ<|cL (bY (show cZ _ _ (hV K true) from wF) (eT (pv 3) aN) (pv 1) rfl) (aL (sL 4 scWo.nd<|wV (bY (show cZ _ _ (hV K false) from uE) (eT (pv 3) aN) (bX<|kQ<|kQ aE) rfl) (iE (N':=["_law_lot","_law_words_here"]) (src:=[none,some 1]) rfl eS (gC<|jR EI (pv 3) (jK aN) jL) (g:=bW 0) (λ_ _ _ _=>gL 0 ay) (λ_ _ _ _=>gO) (te:=fL (pU n) [] E0<|aY (aI 0)<|aY (aI 1) aX) λ_ _ _ _=>bB WO hr rfl<|aA (pv 0)<|aA (pv 1) aE)<|cG aE)<|aQ<|dQ<|eP eE fI fJ fG (pv 2)<|aA (wV (bY (AB<|mF hu) (pv 4) (cG aE)<|cE _) (cA OD (bX<|aA (eT (pv 3) aN) aE)<|dS gH rfl aj (by rfl')<|aA (pv 4) aE)<|pv 3) aE) dD)
  (aQ<|bS<|dS gH rfl aj (by rfl')<|aA (pv 2) aE))
 ac_rfl
 have bh:=ap.len;have s1:1<=sizeLine:=cN (bG<|by decide);have s2:2<=sizeLine:=cN (bG<|by decide);refine⟨bM _,λfo Y=>?_⟩;exists _,rfl,rt,rfl,⟨_,SqT.of<|by rw[aC<|aP hz Y];exact hz⟩;refine kH (xs:=rs.map V.ref) (JL Z n H rt G fo rs fs) ⟨_,_,[],[],fs,rfl,FrS.new Y,zb1,.nil,by rw[oY];exact ap,by rw[jB];lia⟩ ?_ ?_ ?_
 .rintro i σ M hi ⟨_,_,_,_,_,_,fr,_⟩;exact SqT.of<|(Tup.of0 fr) _ _ hz
 .rintro i x σ M O ⟨y1,y2,B,X,ba,rfl,fr,b,L,W,b3⟩;rw[bO,wq8]at O;obtain⟨a,ha,rfl⟩:=O;obtain⟨hi,rfl⟩:=zz2.mp ha;rw[nT hi]at W;have tx:=Tup.of0 fr;have b5:=tx _ _ ao;have ax:=L.len;generalize rs[i]=a at W;obtain⟨av,fst,bi,ae,ag⟩:=W.hd;have skip:∀{w:Str}{rest:List V},H a=some (.tup<|.str w::rest)->w∈w4->JL Z n H rt G fo rs fs (i+1) [some<|.ref rt,some<|.ref G,some<|.ref fo,some<|.ref a,y2] M:=λ_ _=>⟨_,_,B,X,fst,rfl,fr,b,L,ae,by lia⟩
  have hd:∃w rest,H a=some (.tup<|.str w::rest)/\(w∈w4\/w∉w4/\w∉(["either","again"]:List Str)/\PlainR (iX Z) H a\/w∉w4/\w∈(["either","again"]:List Str)/\qQ Z H n a av):=by
   rcases ag with h | ⟨x,y,k,d,g,ss,h,_⟩ | h
   .obtain⟨r,h1,_⟩:=id h;obtain⟨rest,e⟩:=r.hd;exists r.wd,rest,by rw[h1,e]
    by_cases c:r.wd∈w4
    .exact .inl c
    .exact .inr<|.inl ⟨c,by cases r <;> (simp only[Rw.wd];rfl'),h⟩
   .exact⟨_,_,h,.inl<|.head _⟩
   .obtain⟨w,ls,zs,h1,h2,_⟩:=id h;refine⟨w,_,h1,.inr<|.inr ⟨?_,?_,h⟩⟩
    .rcases h2 with ⟨_,rfl⟩ | ⟨_,rfl⟩ <;> rfl'
    .rcases h2 with ⟨_,rfl⟩ | ⟨_,rfl⟩ <;> rfl'
  obtain⟨v,rest,e,C⟩:=hd;exists _,rfl,a,_,_,_,rfl,rfl,SqT.of<|tx _ _ e,fK _ _,_,rfl,G,_,rfl,.inr<|SqT.of b5,rfl,jM _,_,rfl;rw[lJ]
  by_cases c:v∈w4
  .rw[eW c];exact bE<|skip e c
  rw[gR c];refine cH ⟨_,rfl,a,_,_,_,rfl,rfl,SqT.of<|tx _ _ e,fK _ _,s2,λtt b1=>?_⟩;have T:FrS [] M (upd M tt<|.tup [.str "either",.str "again"]):=FrS.new b1;exists tt,((["either","again"]:List Str).map V.str),rfl,.inr<|SqT.of zb1,rfl,jM _,_,rfl;rw[lJ];show if (decide<|v∈(["either","again"]:List Str))=true then _ else _
  generalize upd M tt (.tup [.str "either",.str "again"])=H1 at T;have bf:=T _ _ aV b;have t1:=Tup.of0 T;rcases C with C | ⟨_,C,hP⟩ | ⟨_,C,hR⟩
  .exact absurd C c
  .rw[gR C];refine bE ⟨bM _,λlo bb=>?_⟩;have J:=T.trans<|FrS.new (o:=.lst []) bb;have h2:upd H1 lo (.lst []) lo=some (.lst []):=zb1;refine⟨_,rfl,.inl ⟨rfl,_,SqL.of<|J _ _ aV b⟩,_,rfl,bM _,λpe u=>?_⟩;have N:=J.trans<|FrS.new (o:=.lst []) u;have t3:=Tup.of0 N;have am:=N _ _ aV b;refine⟨lo,pe,_,rfl,rfl,aP h2 u,SqL.of<|(aC<|aP h2 u).trans h2,SqL.of zb1,_,rfl,bE ⟨_,rfl,fo,_,_,rfl,rfl,am,bG (by rw[aK];lia),?_⟩⟩;have tl:=Tup.lst am (o:=.lst<|B.map V.ref++[.ref a]);have F2:Fl (iX Z) _ n (B++[a]) (X++[a]):=((L.keep t3).keep tl).app<|.one (.inl<|((hP.keep tx).keep t3).keep tl) .nil;exact⟨_,_,B++[a],X++[a],fst,rfl,(fr.trans N).put Y,by rw[zb1,bN];rfl,F2,ae,by rw[bH,dU];lia⟩
  .rw[eW C];cases hR with
   | @mk _ m w ls zs _ g1 g2 g3 g4=>
   have b8:=g3.len;have bl:↑ls<=2:=by rcases g2 with ⟨h,_⟩ | ⟨h,_⟩ <;> lia
   have cond:¬(HT.sIx ↑(V.str w::ls.map V.ref) 0 (some 1)=0/\HT.sIx ↑(V.str w::ls.map V.ref) ↑(V.str w::ls.map V.ref) none=↑(V.str w::ls.map V.ref)):=by
    intro z;have:=z.1;unfold HT.sIx at this;simp at this
   have b7:=tx.trans t1;refine cH ⟨_,rfl,_,rfl,a,_,rfl,SqT.of<|b7 _ _ g1,cond,λsl b2=>?_⟩;rw[mR];have ad:upd H1 sl (.tup<|ls.map V.ref) sl=some (.tup<|ls.map V.ref):=zb1;have J:=T.trans<|FrS.new (o:=.tup<|ls.map V.ref) b2;generalize upd H1 sl (.tup<|ls.map V.ref)=H2 at ad J;have t2:=Tup.of0 J;refine⟨sl,rfl,⟨_,SqT.of ad⟩,λDl ak=>?_⟩;have az:↑av<=80:=by have:=W.len;lia
   have ah:∀{j:Nat}{z:Lz},zs[j]?=some z->↑z.2<=80:=λ{j z} h=>by
    have:=UK (wr2.mpr ⟨z,cU h,rfl⟩:↑z.2∈zs.map (·.2.length));lia
   refine uQ (xs:=ls.map V.ref) (SM Z m H2 G Dl zs) ⟨_,[],[],rfl,FrS.new ak,zb1,.nil,bM _,rfl⟩ ?_ ?_ ?_
   .rintro j σ Hy hj ⟨_,_,_,_,I,_⟩;exact SqT.of<|(Tup.of0 I) _ _ ad
   .rintro j x σ Hy O ⟨y,ts,al,rfl,I,aa,hL,af,a8⟩;rw[bO,wq8]at O;obtain⟨l,hl,rfl⟩:=O;obtain⟨z,as,z1,z2⟩:=g3.get hl;have be:j<↑ls:=(zz2.mp hl).1;have ty:=(tx.trans t2).trans<|Tup.of0 I;refine⟨_,rfl,_,rfl,Z,l,G,z.1,z.2,rfl,ty _ _ z1,z2.keep ty,ah as,ty _ _ ao,λau bm b4 H' f' h1 bc bk=>?_⟩;have ai:=f' _ _ aV aa;have tl:Tup H' (upd H' Dl<|.lst<|ts.map V.ref++[.ref au]):=Tup.lst ai;refine⟨_,ai,bG (by rw[aK];lia),_,ts++[au],al++b4,rfl,(I.trans f').put ak,by rw[zb1,bN];rfl,.snoc (hL.keep<|(Tup.of0 f').trans tl) (tl _ _ h1)<|bc.keep tl,?_,by rw[bH,a8];rfl⟩;rw[fW,as,bN,List.sum_append,bH];show _<=_+(↑z.2+0);lia
   .rintro σ Hy ⟨y,ts,al,rfl,I,aa,hL,af,a8⟩;rw[aK]at af a8;rw[b8,xB]at af;have N:=J.trans I;refine⟨_,rfl,.inl ⟨rfl,_,SqL.of<|N _ _ aV b⟩,_,rfl,bM _,λpe u=>?_⟩;have f4:=N.trans<|FrS.new (o:=.lst []) u;have ab:=(FrS.new (S:=[]) (o:=.lst []) u) _ _ aV aa;have b9:=aP aa u;have aw:=hL.keep<|Tup.new (o:=.lst []) u;exists Dl,pe,_,rfl,rfl,b9,SqL.of ab,SqL.of zb1,_,rfl;generalize upd Hy pe (.lst [])=H4 at f4 ab aw;have a4:ts.map V.ref≠[]:=λz=>by
     have:=cF List.length z;rw[aK,jB]at this;rcases g2 with ⟨h,_⟩ | ⟨h,_⟩ <;> lia
    have he:((ts.map V.ref).isEmpty != true)=true:=by
     cases hts:ts.map V.ref with
     | nil=>exact absurd hts a4
     | cons _ _=>rfl
    rw[bC he];have t4:=tx.trans<|Tup.of0 f4;refine⟨_,rfl,a,_,_,_,rfl,rfl,SqT.of<|t4 _ _ g1,fK _ _,s1,λp1 ac=>?_⟩;have f5:=f4.trans<|FrS.new (o:=.tup [.str w]) ac;have bd:=(FrS.new (S:=[]) (o:=.tup [.str w]) ac) _ _ aV ab;refine⟨_,rfl,Dl,_,rfl,.inl ⟨SqL.of bd,λp2 a7=>?_⟩⟩;have f6:=f5.trans<|FrS.new (o:=.tup<|ts.map V.ref) a7;have b6:p1≠p2:=λz=>by rw[<-z,zb1]at a7;cases a7
    refine⟨p1,p2,[.str w],ts.map V.ref,rfl,rfl,SqT.of (by rw[aC b6];exact zb1),SqT.of zb1,by simp,by rw[aK];show 1+↑ts<=sizeLine;exact cN (bG<|by lia),λz=>absurd z a4,λ_ p3 ar=>?_⟩;have f7:=f6.trans<|FrS.new (o:=.tup<|.str w::ts.map V.ref) ar;have t7:=Tup.of0 f7;have b0:=aw.keep<|((Tup.new (o:=.tup [.str w]) ac).trans<|Tup.new (o:=.tup<|ts.map V.ref) a7).trans<|Tup.new (o:=.tup<|.str w::ts.map V.ref) ar;have h7:upd (upd (upd H4 p1<|.tup [.str w]) p2<|.tup<|ts.map V.ref) p3 (.tup<|.str w::ts.map V.ref) p3=some (.tup<|.str w::ts.map V.ref):=zb1;have an:=f7 _ _ aV b;exists fo,_,_,rfl,rfl,an,bG (by rw[aK];lia);have tl:=Tup.lst an (o:=.lst<|B.map V.ref++[.ref p3]);have F2:=((L.keep t7).keep tl).app ((b0.keep tl).row (tl _ _ h7)<|by rw[a8];exact g2);exact⟨_,_,B++[p3],_,fst,rfl,(fr.trans f7).put Y,by rw[zb1,bN];rfl,F2,ae,by rw[bH,cJ];lia⟩
 .rintro σ M ⟨y1,y2,B,X,ba,rfl,fr,b,L,W,b3⟩;refine⟨_,rfl,fo,_,rfl,.inl ⟨SqL.of b,λkt aq=>?_⟩⟩;exact q kt B X _ (fr.trans<|FrS.new aq) zb1 (L.keep<|Tup.new aq) (by lia)
abbrev MD:Stmt:=top 68
abbrev EW:List Str:=["_law_program_here","_law_words_here"]
def PDz(Z:Str->Option Str->Prop)(H:Hp)(f:Addr):Prop:=∃e:Dz,DeedIs (iX Z) H f e
theorem PDz.keep(h:PDz Z H f)(t:Tup H H'):PDz Z H' f:=by
 obtain⟨e,h1⟩:=h;exact⟨e,h1.keep t⟩
inductive LkO(Z:Str->Option Str->Prop)(H:Hp)(u:Addr)(z:Str×Option Str):Prop
 | mk(dt:Addr)(fs:List Addr)(h1:H u=some (.tup [.str z.1,bA z.2,.ref dt]))(h2:H dt=some (.tup<|fs.map V.ref))(h3:∀f∈fs,PDz Z H f)(h4:↑fs<=80):LkO Z H u z
theorem LkO.keep(h:LkO Z H u z)(t:Tup H H'):LkO Z H' u z:=by
 obtain⟨b,fs,h1,h2,d,e⟩:=h;exact⟨b,fs,t _ _ h1,t _ _ h2,λf a=>(d f a).keep t,e⟩
theorem PDz.all:∀fs:List Addr,(∀f∈fs,PDz Z H f)->∃ds:List Dz,↑fs=↑ds/\∀(j:Nat) f z,fs[j]?=some f->ds[j]?=some z->DeedIs (iX Z) H f z
 | [],_=>⟨[],rfl,λj f z a=>nomatch a⟩
 | f::fs,h=>by
  obtain⟨e,h1⟩:=h f<|.head _;obtain⟨ds,l,i⟩:=PDz.all fs λf m=>h f<|.tail _ m;refine⟨e::ds,cF (·+1) l,λj d z a b=>?_⟩;cases j with
  | zero=>cases a;cases b;exact h1
  | succ j=>exact i j d z a b
theorem LkO.all(h:A2 (LkO Z H) us tr):∃ks:List (Str×List Dz),↑us=↑ks/\(∀(j:Nat) u y,us[j]?=some u->ks[j]?=some y->KindIs (iX Z) H u y)/\ks.map (·.1)=tr.map (·.1):=by
 induction h with
 | nil=>exact⟨[],rfl,(λj u y a=>nomatch a),rfl⟩
 | @cons u z us tr h _ ih=>
  obtain⟨i,fs,h1,h2,o,q⟩:=h;obtain⟨ks,n,l,f⟩:=ih;obtain⟨ds,e,m⟩:=PDz.all fs o;refine⟨(z.1,ds)::ks,cF (·+1) n,λj d y a b=>?_,cF (z.1::·) f⟩;cases j with
  | zero=>cases a;cases b;exact⟨_,i,fs,h1,h2,e,m,q⟩
  | succ j=>exact l j d y a b
inductive QF(vs:List V)(H:Hp)(Q:VK):Prop
 | mk(Z:Str->Option Str->Prop)(p wt:Addr)(ks:List (Str×List Dz))(m0:Dz)(tr:Tr)(late:List Str)(h1:vs=[.ref p,.ref wt])(h2:ProgIs Z H p ks m0)(h3:KindsAt H p tr)(h4:LateAt H p tr late)(h5:↑tr<=12)(h6:FY Z ks tr)(h7:H wt=some (.tup<|w4.map V.str))
  (q:∀(p':Addr)(ks':List (Str×List Dz))(m':Dz)(H':Hp),FrS [] H H'->ProgIs (iX Z) H' p' ks' m'->KindsAt H' p' tr->LateAt H' p' tr late->FY (iX Z) ks' tr->Q (.ref p') H'):QF vs H Q
def HG:Sp:=λvs H Q _=>QF vs H Q
inductive UO(Z:Str->Option Str->Prop)(H:Hp)(p wt kl:Addr)(tr:Tr)(i:Nat)(σ:St)(Hx:Hp):Prop
 | mk(y1 y2 y3 y4:Option V)(us:List Addr)(h1:σ=[some<|.ref p,some<|.ref wt,some<|.ref kl,y1,y2,y3,y4])(h2:FrS [] H Hx)(h3:Hx kl=some (.lst<|us.map V.ref))(h4:A2 (LkO Z Hx) us (tr.take i)):UO Z H p wt kl tr i σ Hx
inductive OT(Z:Str->Option Str->Prop)(H:Hp)(wt Dl:Addr)(i:Nat)(σ:St)(Hx:Hp):Prop
 | mk(y1 y2 y3 y4:Option V)(fs:List Addr)(h1:σ=[y1,y2,y3,y4,some<|.ref wt])(h2:FrS [] H Hx)(h3:Hx Dl=some (.lst<|fs.map V.ref))(h4:∀f∈fs,PDz Z Hx f)(h5:↑fs=i):OT Z H wt Dl i σ Hx
def yd2:bZ ["_law_program_here","_law_words_here","_law_kinds","_law_name","_law_elder","_law_deeds","_law_some"] EW (bR MD):=cC
def XW{k:Nat}(F:Fun K "_law_lean" "_law_lean" MD f fd)(WO:aS P w K mg base k "_law_without" xN (kA 4))(ag:mg "tuple"=none):aR P w K mg base bQ (k+1) f fd EW HG:=by
 refine F.ok yd2 (λvs H Q E h=>?_) λay A outer s H vs Q E hr h=>?_
 .obtain⟨Z,p,wt,ks,m0,tr,X,rfl,_⟩:=h;rfl
 obtain⟨Z,p,wt,ks,m0,tr,X,rfl,hP,hK,ao,az,hN,ah,q⟩:=h;have a2:(["_law_deed_here","_law_params","_law_rows_here","_law_gives","_law_words_here"]:List Str).Nodup:=by rfl'
 exists _,aL (sL 2 yd2.nd<|cG aE)
  (aL (dZ dJ rfl (gC<|eT (pv 0) aN) (eG (n:=3) rfl<|bL (gL 3 yd2.nd)<|bL (gL 4 yd2.nd)<|bL (gL 5 yd2.nd) eK)<|aL (pY (i:=6) (N':=["_law_deed_here","_law_params","_law_rows_here","_law_gives","_law_words_here"]) (src:=[none,none,none,none,some 1]) rfl yd2.nd rfl rfl eS (gC<|pv 5) (g:=eN K 4<|dW (bW 0)<|dW (bW 1)<|dW (bW 2)<|dW (bW 3) eO) (λ_ _ _ _=>eG (n:=4) rfl<|bL (gL 0 a2)<|bL (gL 1 a2)<|bL (gL 2 a2)<|bL (gL 3 a2) eK) (λ_ _ _ _=>gO) (te:=dE<|aY (aI 0)<|aY (aI 1)<|aY (fL (kA 4) [] E0<|aY (aI 2)<|aY (aI 4) aX)<|aY (aI 3) aX) λ_ _ _ _=>bX<|aA (pv 0)<|aA (pv 1)<|aA (bB WO hr rfl<|aA (pv 2)<|aA (pv 4) aE)<|aA (pv 3) aE)<|aQ<|dQ<|eP eE fI fJ fG (pv 2)<|aA (bX<|aA (pv 3)<|aA (pv 4)<|aA (dS gH rfl ag (by rfl')<|aA (pv 6) aE) aE) aE)
  (aQ<|bS<|bX<|aA (dS gH rfl ag (by rfl')<|aA (pv 2) aE)<|aA (eT (pv 0) aN)<|aA (bB WO hr rfl<|aA (eT (pv 0) aN)<|aA (pv 1) aE) aE))
 ac_rfl
 have s3:3<=sizeLine:=cN (bG<|by decide);have s4:4<=sizeLine:=cN (bG<|by decide);obtain⟨kt,us,lt,p1,p2,p3,p4,p5,p6⟩:=id hP;obtain⟨aw,ts,vx,vy,d1,d2,d3,d4⟩:=id hK;rw[p1]at d1;cases d1;rw[p2]at d2;have aq:us=ts:=wM<|HO.tup.inj<|gX d2;subst aq;obtain⟨b1,C,vm,l1,l2,l3,l4,l5⟩:=id ao;rw[p1]at l1;cases l1;refine⟨bM _,λM af=>?_⟩;have f0:FrS [] H (upd H M<|.lst []):=FrS.new af;have t0:=Tup.of0 f0;exists _,rfl,p,_,_,_,rfl,rfl,SqT.of<|t0 _ _ p1,rfl,kt,rfl,⟨_,SqT.of<|t0 _ _ p2⟩;refine kH (xs:=us.map V.ref) (UO Z H p wt M tr) ⟨_,_,_,_,[],rfl,f0,zb1,.nil⟩ ?_ ?_ ?_
 .rintro i σ I hi ⟨_,_,_,_,_,_,fr,_⟩;exact SqT.of<|(Tup.of0 fr) _ _ p2
 .rintro i x σ I W ⟨y1,y2,y3,y4,vs,rfl,fr,a1,hA⟩;rw[bO,wq8]at W;obtain⟨u,ae,rfl⟩:=W;have al:i<↑us:=(zz2.mp ae).1;have hi:i<↑tr:=by rw[<-d3];exact al
  have ap:i<↑ks:=by rw[<-p3];exact al
  obtain⟨ev,dt,fs,q1,q2,q3,q4,q5⟩:=p4 i u ks[i] ae<|bF ap;obtain⟨vz,hz⟩:=d4 i u tr[i] ae<|bF hi;have N:[V.str ks[i].1,ev,V.ref dt]=[V.str tr[i].1,bA tr[i].2,vz]:=HO.tup.inj<|gX<|q1.symm.trans hz;rw[N]at q1;obtain rfl:V.ref dt=vz:=by injection N with _ N;injection N with _ N;injection N
  have tx:=Tup.of0 fr;exists u,_,rfl,SqT.of<|tx _ _ q1,rfl,_,_,rfl,_,_,rfl,_,_,rfl,rfl;refine⟨_,rfl,dt,rfl,⟨_,SqT.of<|tx _ _ q2⟩,λY a6=>?_⟩;have b0:M≠Y:=aP a1 a6;refine uQ (xs:=fs.map V.ref) (OT Z I wt Y) ⟨_,_,_,_,[],rfl,FrS.new a6,zb1,(λa h=>nomatch h),rfl⟩ ?_ ?_ ?_
  .rintro j σ O hj ⟨_,_,_,_,_,_,J,_⟩;exact SqT.of<|(Tup.of0<|fr.trans J) _ _ q2
  .rintro j x σ O W ⟨z1,z2,z3,z4,r,rfl,J,a3,ad,ac⟩;rw[bO,wq8]at W;obtain⟨g,hg,rfl⟩:=W;have hj:j<ks[i].2.length:=by rw[<-q3];exact(zz2.mp hg).1
   have ax:j<↑fs:=(zz2.mp hg).1;obtain⟨a5,gv,g1,g2,⟨g3,g4,g5⟩⟩:=q4 j g ks[i].2[j] hg<|bF hj;have ty:=Tup.of0<|fr.trans J;exists g,_,rfl,SqT.of<|ty _ _ g1,rfl,_,_,rfl,_,_,rfl,_,_,rfl,_,_,rfl,rfl;refine⟨_,rfl,_,rfl,_,rfl,_,rfl,Z,_,wt,_,_,rfl,ty _ _ g3,g4.keep ty,g5,ty _ _ ah,λrt rs aa H1 B a9 ar a8=>⟨_,rfl,s4,λt ht=>?_⟩⟩;have G:=Tup.of0 B;have a7:upd H1 t (.tup [.str ks[i].2[j].1,a5,.ref rt,gv]) Y=some (.lst<|r.map V.ref):=by rw[aC<|aP (B _ _ aV a3) ht];exact B _ _ aV a3
   have tf:Tup H1 (upd (upd H1 t<|.tup [.str ks[i].2[j].1,a5,.ref rt,gv]) Y<|.lst<|r.map V.ref++[.ref t]):=(Tup.new ht).trans<|Tup.lst a7;refine⟨_,a7,bG (by rw[aK];lia),_,_,_,_,r++[t],rfl,((J.trans B).trans<|FrS.new ht).put a6,by rw[zb1,bN];rfl,λb hb=>?_,by rw[bH,ac];rfl⟩;rcases wr7.mp hb with hb | hb
   .exact(ad b hb).keep (G.trans tf)
   .rw[wq1.mp hb];exact⟨(ks[i].2[j].1,rt,rs,aa),a5,gv,(Tup.lst a7) _ _ zb1,g2.keep<|ty.trans<|G.trans tf,tf _ _ a9,ar.keep tf,fX a8 g5⟩
  .rintro σ O ⟨z1,z2,z3,z4,r,rfl,J,a3,ad,ac⟩;rw[aK]at ac;refine⟨_,rfl,.inl ⟨rfl,_,SqL.of<|J _ _ aV a1⟩,_,rfl,_,rfl,_,rfl,Y,_,rfl,.inl ⟨SqL.of a3,λm an=>⟨s3,λL ab=>?_⟩⟩⟩;have fu:FrS [] I (upd (upd O m<|.tup<|r.map V.ref) L<|.tup [.str tr[i].1,bA tr[i].2,.ref m]):=(J.trans<|FrS.new an).trans<|FrS.new ab;have tu:=(Tup.new (o:=.tup<|r.map V.ref) an).trans<|Tup.new (o:=.tup [.str tr[i].1,bA tr[i].2,.ref m]) ab;have e1:upd (upd O m<|.tup<|r.map V.ref) L (.tup [.str tr[i].1,bA tr[i].2,.ref m]) m=some (.tup<|r.map V.ref):=(Tup.new ab) _ _ zb1;have e2:upd (upd O m<|.tup<|r.map V.ref) L (.tup [.str tr[i].1,bA tr[i].2,.ref m]) L=some (.tup [.str tr[i].1,bA tr[i].2,.ref m]):=zb1;generalize upd (upd O m<|.tup<|r.map V.ref) L (.tup [.str tr[i].1,bA tr[i].2,.ref m])=Hu at fu tu e1 e2;have ai:=fu _ _ aV a1;have tl:Tup Hu (upd Hu M<|.lst<|vs.map V.ref++[.ref L]):=Tup.lst ai;refine⟨M,_,_,rfl,rfl,ai,bG (by rw[aK,hA.len,eM];lia),_,_,_,_,vs++[L],rfl,(fr.trans fu).put af,by rw[zb1,bN];rfl,?_⟩;rw[DG hi];exact(hA.imp λa b h=>(h.keep<|Tup.of0 fu).keep tl).snoc ⟨m,r,tl _ _ e2,tl _ _ e1,λf hf=>((ad f hf).keep tu).keep tl,by lia⟩
 .rintro σ I ⟨y1,y2,y3,y4,vs,rfl,fr,a1,hA⟩;rw[aK,d3,xB]at hA;have tx:=Tup.of0 fr;refine⟨_,rfl,M,_,rfl,.inl ⟨SqL.of a1,λl aj=>?_⟩⟩;have B:FrS [] H (upd I l<|.tup<|vs.map V.ref):=fr.trans<|FrS.new aj;have h1:upd I l (.tup<|vs.map V.ref) l=some (.tup<|vs.map V.ref):=zb1;have am:A2 (LkO Z<|upd I l<|.tup<|vs.map V.ref) vs tr:=hA.imp λ_ _ h=>h.keep<|Tup.new aj;generalize upd I l (.tup<|vs.map V.ref)=H1 at B h1 am;have G:=Tup.of0 B;obtain⟨m1,m2,m3⟩:=p5;refine⟨_,rfl,p,_,_,_,rfl,rfl,SqT.of<|G _ _ p1,rfl,_,rfl,p,_,_,_,rfl,rfl,SqT.of<|G _ _ p1,rfl,_,rfl,Z,_,wt,_,_,rfl,G _ _ m1,m2.keep G,m3,G _ _ ah,λrt rs aa H2 f2 a9 au a8=>⟨s3,λT ak=>?_⟩⟩;have f3:FrS [] H1 (upd H2 T<|.tup [.ref l,.ref C,.ref rt]):=f2.trans<|FrS.new ak;have t2:Tup H2 (upd H2 T<|.tup [.ref l,.ref C,.ref rt]):=Tup.new ak;have e3:upd H2 T (.tup [.ref l,.ref C,.ref rt]) T=some (.tup [.ref l,.ref C,.ref rt]):=zb1;generalize upd H2 T (.tup [.ref l,.ref C,.ref rt])=H3 at f3 t2 e3;have t3:=Tup.of0 f3;have a4:A2 (LkO Z H3) vs tr:=am.imp λ_ _ h=>h.keep t3;obtain⟨av,k1,k2,k3⟩:=LkO.all a4;have hl:=a4.len;have as:=Tup.of0<|B.trans f3;refine q T av ("",rt,rs,aa) H3 (B.trans f3) ⟨l,vs,.ref C,e3,t3 _ _ h1,k1,k2,⟨t2 _ _ a9,au.keep t2,fX a8 m3⟩,by lia⟩ ⟨l,vs,.ref C,.ref rt,e3,t3 _ _ h1,hl,λj t z a b=>?_⟩ ⟨l,C,.ref rt,e3,as _ _ l2,l3,l4,l5⟩ ⟨k3,λk h=>hN.nb k h.2,(λk d h=>absurd h.1 nofun),⟨[],bM _,λk d h=>absurd h.1 nofun⟩⟩;obtain⟨z',e,dt,fs,g,_⟩:=a4.get a;rw[b]at e;cases e;exact⟨_,g⟩
abbrev uH:Stmt:=top 77
abbrev pB(hr:List Str):Rs:=Rs.dic ⟨[],[],[],[],0,0,0,hr⟩ []
inductive oD(vs:List V)(H:Hp)(Q:VK):Prop
 | mk(Z:Str->Option Str->Prop)(p ch:Addr)(ks:List (Str×List Dz))(m0:Dz)(tr:Tr)(late:List Str)(Ls:List LL)(k':Nat)(mo:Int)(G:Pg)(h1:vs=[.ref p,.ref ch,.int mo])(h2:ProgIs Z H p ks m0)(h3:KindsAt H p tr)(h4:LateAt H p tr late)(h5:TrOk tr)(h6:↑tr<=12)(h7:LyB Z H 0 (dP ks m0) Ls k')(h8:k'<=1000000)(h9:H ch=some (.tup<|G.ch.map V.int))(h11:∀k,Z k none->k∈G.nm)(h12:G.bo "" ""=CU .nil (dP ks m0) Ls)
  (hmo:mo<=2000) (hd:(G.bo "" "").deL<=4) (hc:∀c∈G.ch,-100<=c) (hln:∀k∈G.nm,Up tr k<|G.ln k) (hnm:∀k,∀x∈G.ln k,x∈G.nm) (hl2:∀k,↑(G.ln k)<=12) (hhr:∀k∈hr0 tr late,k∈G.nm)
  (q:∀(pr l:Addr)(d:V)(S':Rs)(e:Str)(v:V)(H':Hp),FrS [] H H'->H' pr=some (.tup [.ref l,d])->Rn G mo.toNat 0 (pW G<|hr0 tr late) S' e v->ResAt H' (S',e,v) l->S'.lg.length<=30000->Q (.ref pr) H'):oD vs H Q
def JY:Sp:=λvs H Q _=>oD vs H Q
def wk3:bZ ["_law_program_here","_law_choices_here","_law_most","_law_run","_law_end"] gY (bR uH):=cC
def qV{k:Nat}(F:Fun K "_law_ran" "_law_ran" uH f fd)(NW:aS P w K mg base k "_law_new_run" gY LF)(DO:aS P w K mg base k "_law_do" jG (DW 4))(al:mg "tuple"=none):aR P w K mg base bQ (k+1) f fd gY JY:=by
 refine F.ok wk3 (λvs H Q E h=>?_) λaz A outer s H vs Q E hr h=>?_
 .obtain⟨Z,p,ch,ks,m0,tr,i,Ls,k',mo,G,rfl,_⟩:=h;rfl
 obtain⟨Z,p,ch,ks,m0,tr,i,Ls,k',mo,G,rfl,hP,hK,as,ok,ab,hB,ah,aj,hn,an,ap,hd,hc,ai,ay,ae,ax,q⟩:=h;have M:=eC hr;exists _,aL (sL 3 wk3.nd<|bB NW hr rfl<|aA (pv 0)<|aA (pv 1)<|aA (pv 2) aE)
  (aL (dQ<|bB DO hr rfl<|aA (pv 3)<|aA (eT (bT M (bT M (pv 3) bD λ_ _=>rfl) (bX<|kQ<|kQ aE) λ_ _=>rfl) aN)<|aA mC aE)<|aL (sL 4 wk3.nd<|wV (iL<|oR<|bT M (pv 3) bD λ_ _=>rfl) (bX<|aA bD<|aA iJ aE)<|bT M (pv 3) bD λ_ _=>rfl)<|aQ<|bS<|bX<|aA (bX<|aA (dS gH rfl al (by rfl')<|aA (bT M (pv 3) bD λ_ _=>rfl) aE)<|aA (bT M (pv 3) bD λ_ _=>rfl)<|aA (pv 4) aE)<|aA (cA lO (pv 2)<|bT M (pv 3) bD λ_ _=>rfl) aE)
 ac_rfl
 have s2:2<=sizeLine:=cN (bG<|by decide);have s3:3<=sizeLine:=cN (bG<|by decide);refine⟨_,rfl,_,rfl,_,rfl,Z,p,ch,ks,m0,tr,i,Ls,k',mo,G,rfl,hP,hK,as,ok,ab,hB,ah,aj,hn,an,λrn rl e W I kvs v1 v2 es H1 f1 ag ar am hδ aw hL ak av aq he au ao=>?_⟩;subst ar am;have ac:↑(hr0 tr i)<=12:=by
  unfold hr0;have:=uV (λx=>decide<|x∉i)<|tr.map (·.1);rw[aK]at this;lia
 have u:∀{H':Hp}{j:La}{B:Ts}{ev' v:V}(N:aF),LAt W H' rn j B ev'->aG (lF W j B ev') N=some v->DGet H' rn (kV N) (some v):=λN g e=>by rw[<-e];exact DGet.k g.run
 have kp:=hL.lm.kp;refine⟨_,rfl,_,rfl,rn,_,rfl,u (Sum.inr "texts") hL rfl,s2,λkt a8=>?_⟩;have a6:=hL.new (o:=.tup [.str "",.str ""]) a8;have k1:upd H1 kt (.tup [.str "",.str ""]) kt=some (.tup [.str "",.str ""]):=zb1;have f2:FrS [] H (upd H1 kt<|.tup [.str "",.str ""]):=f1.trans<|FrS.new a8;generalize upd H1 kt (.tup [.str "",.str ""])=H2 at a6 k1 f2;have ad:=a6.lm.kp;refine⟨W.tx,_,rfl,by rw[<-aq];exact DGet.t (k:=kM) (ad _ _ av) k1,e,_,_,_,rfl,rfl,SqT.of<|ad _ _ he,rfl,λO af=>?_⟩;have a9:=a6.dic (b:=O) (d:=[]) (d':=[]) af λ_=>rfl;generalize upd H2 O (.dK [])=H3 at a9;have hb:LB W {I with δ:=I.δ++[O],ds:=I.ds++[[]]} ⟨0,pB<|hr0 tr i,none⟩ 0:=by
  have d0:∀d∈I.ds++[([]:List (aF×V))],d=[]:=λd hd=>by
   rw[aw]at hd;exact wq1.mp hd
  refine⟨λd hd=>?_,aW _,λd hd=>by rw[d0 d hd];exact aW _,aW _,by show(hr0 tr i).length+12*0<=12+12*0;lia,ax,(λz hz=>nomatch hz)⟩;have:d=[]:=wq1.mp hd;rw[this];exact λz hz=>nomatch hz
 refine⟨W,tr,rn,rl,O,{I with δ:=I.δ++[O],ds:=I.ds++[[]]},⟨0,pB<|hr0 tr i,none⟩,0,W.G.bo "" "",es,.non,rfl,⟨a9,hb,bM _,λ_ _ e=>e,λe=>e⟩,⟨ak,ok,ab,ai,ay,ae,hc⟩,au,ao,hd,by show(I.δ++[O])[0]?=_;rw[hδ];rfl,ap,λj ev' H4 g=>?_⟩;obtain⟨F',e',v',t,g1,g2,g3⟩:=Aw W.G W.mo.toNat 0 (W.G.bo "" "") ⟨0,pB<|hr0 tr i,none⟩ rfl;replace t:Rn W.G W.mo.toNat 0 (pW W.G<|hr0 tr i) F' e' v':=by
  have e:pW W.G (hr0 tr i)=(pB<|hr0 tr i).at ((W.G.bo "" "").dues 0):=by
   show Rs.at _ ((W.G.bo "" "").dues 0++[])=_;rw[fY]
  rw[e];exact t
 have f4:FrS [] H H4:=λb o n e=>g.a.lm.kp b o<|ag b o n e;obtain⟨gL,gB,gd,_,_⟩:=g;have aa:F'.lg.length<=30000:=by
  have:=gB.b1;rw[g1];show(dL W 0 (W.G.bo "" "") ⟨0,pB<|hr0 tr i,none⟩).S.lg.length<=_;lia
 have a4:=gL.le;rw[<-show dL W 0 (W.G.bo "" "") ⟨0,pB<|hr0 tr i,none⟩=fM W.G W.mo.toNat 0 (W.G.bo "" "") ⟨0,pB<|hr0 tr i,none⟩ from rfl]at g1 g2 g3;generalize dL W 0 (W.G.bo "" "") ⟨0,pB<|hr0 tr i,none⟩=B at gL gB gd a4 g1 g2 g3;exists _,rfl,rn,_,rfl,u (Sum.inr "end") gL rfl,_,rfl;rcases g3 with ⟨z1,z2,z3⟩ | ⟨n,z1,z2⟩
 .rw[z1]at a4;cases a4;refine cH ⟨s2,λm a7=>?_⟩;have r:=gL.new (o:=.tup [.str "done",.non]) a7;have T:=f4.trans<|FrS.new (o:=.tup [.str "done",.non]) a7;have Y:upd H4 m (.tup [.str "done",.non]) m=some (.tup [.str "done",.non]):=zb1;generalize upd H4 m (.tup [.str "done",.non])=X at r T Y;subst z2 z3;refine⟨_,rfl,rn,_,rfl,u (Sum.inr "log") r rfl,j.lo,_,rfl,.inl ⟨SqL.of r.lo,λtl J=>?_⟩⟩;have C:=r.new (o:=.tup<|j.ls.map V.ref) J;have f6:=T.trans<|FrS.new (o:=.tup<|j.ls.map V.ref) J;have e6:upd X tl (.tup<|j.ls.map V.ref) tl=some (.tup<|j.ls.map V.ref):=zb1;have e7:=(Tup.new (o:=.tup<|j.ls.map V.ref) J) _ _ Y;generalize upd X tl (.tup<|j.ls.map V.ref)=H6 at C f6 e6 e7;refine⟨_,rfl,rn,_,rfl,u (Sum.inr "looks") C rfl,_,rfl,s3,λl hl=>?_⟩;have a5:=C.new (o:=.tup [.ref tl,.int B.S.lk,.ref m]) hl;refine⟨_,rfl,_,rfl,rn,_,rfl,u (Sum.inr "left") a5 rfl,_,_,rfl,rfl,s2,λpr L=>?_⟩;have tt:=(Tup.new (o:=.tup [.ref tl,.int B.S.lk,.ref m]) hl).trans<|Tup.new (o:=.tup [.ref l,.int<|W.mo-(W.mo-B.dn)]) L;refine q pr l _ F' _ _ _ ((f6.trans<|FrS.new hl).trans<|FrS.new L) zb1 t ⟨tl,m,j.ls,?_,tt _ _ e6,?_,tt _ _ e7⟩ aa
  .rw[g2];exact(Tup.new L) _ _ zb1
  .rw[g1];exact(C.li.lg.imp λ_ _ h=>tt _ _ h)
 .rw[z1]at a4;cases a4 with
  | @«end» _ _ m Y=>
  have r:=gL;have T:=f4;refine bE ⟨_,rfl,rn,_,rfl,u (Sum.inr "end") gL rfl,?_⟩;subst z2;generalize H4=X at r T Y;refine⟨_,rfl,rn,_,rfl,u (Sum.inr "log") r rfl,j.lo,_,rfl,.inl ⟨SqL.of r.lo,λtl J=>?_⟩⟩;have C:=r.new (o:=.tup<|j.ls.map V.ref) J;have f6:=T.trans<|FrS.new (o:=.tup<|j.ls.map V.ref) J;have e6:upd X tl (.tup<|j.ls.map V.ref) tl=some (.tup<|j.ls.map V.ref):=zb1;have e7:=(Tup.new (o:=.tup<|j.ls.map V.ref) J) _ _ Y;generalize upd X tl (.tup<|j.ls.map V.ref)=H6 at C f6 e6 e7;refine⟨_,rfl,rn,_,rfl,u (Sum.inr "looks") C rfl,_,rfl,s3,λl hl=>?_⟩;have a5:=C.new (o:=.tup [.ref tl,.int B.S.lk,.ref m]) hl;refine⟨_,rfl,_,rfl,rn,_,rfl,u (Sum.inr "left") a5 rfl,_,_,rfl,rfl,s2,λpr L=>?_⟩;have tt:=(Tup.new (o:=.tup [.ref tl,.int B.S.lk,.ref m]) hl).trans<|Tup.new (o:=.tup [.ref l,.int<|W.mo-(W.mo-B.dn)]) L;refine q pr l _ F' _ _ _ ((f6.trans<|FrS.new hl).trans<|FrS.new L) zb1 t ⟨tl,m,j.ls,?_,tt _ _ e6,?_,tt _ _ e7⟩ aa
  .rw[g2];exact(Tup.new L) _ _ zb1
  .rw[g1];exact(C.li.lg.imp λ_ _ h=>tt _ _ h)
abbrev qJ:Stmt:=top 69
def FrS.old1(f:FrS [a] H H')(h:H' a=some o)(hp:H' p=none):H p=none:=f.old (λb d=>by
 have:b=a:=by simpa using d
 subst this;exact⟨_,h⟩) hp
inductive oF(vs:List V)(H:Hp)(Q:VK):Prop
 | mk(hd:Addr)(d m t r:Int)(h1:vs=[.ref hd])(h2:Hand H hd d m t r)(h3:t<=20000)(h4:∀(ch:Addr)(cs:List Int)(H':Hp)(d' m' t':Int),FrS [hd] H H'->H' ch=some (.tup<|cs.map V.int)->(∀c∈cs,-100<=c)->Hand H' hd d' m' t' r->t'<=t+12->Q (.ref ch) H'):oF vs H Q
def LN:Sp:=λvs H Q _=>oF vs H Q
inductive TC(H:Hp)(hd Dl:Addr)(t r:Int)(i:Nat)(σ:St)(Hx:Hp):Prop
 | mk(x:Option V)(cs:List Int)(dx mx tx:Int)(h1:σ=[x,some<|.ref hd])(h2:FrS [hd] H Hx)(h3:Hand Hx hd dx mx tx r)(h4:tx<=t+1+i)(h5:Hx Dl=some (.lst<|cs.map V.int))(h6:↑cs=i)(h7:∀c∈cs,-100<=c)
def BL:bZ [qH] [qH] (bR qJ):=cC
def vN{k:Nat}(F:Fun K "_law_choices" "_law_choices" qJ f fd)(T:aS P w K mg base k "_law_take" qB gG)(O:aS P w K mg base k "_law_of" qC (cP K))(mr:mg "range"=none)(ae:mg "tuple"=none):aR P w K mg base bQ (k+1) f fd [qH] LN:=by
 refine F.ok BL (λvs H Q E h=>?_) λah A outer s H vs Q E hr h=>?_
 .obtain⟨hd,d,m,t,r,rfl,_⟩:=h;rfl
 obtain⟨hd,d,m,t,r,rfl,hh,ht,q⟩:=h;have af:(["_law_k",qH]:List Str).Nodup:=by rfl'
 exists _,aQ (bS (dS gH rfl ae (by rfl') (aA (iE (N':=["_law_k",qH]) (src:=[none,some 0]) rfl eS (lC rfl mr<|aA (bB T hr rfl<|aA (pv 0)<|aA aN aE) aE) (g:=bW 0) (λ_ _ _ _=>gL 0 af) (λ_ _ _ _=>gO)
  (te:=fL (cP K) [] E0<|aY (aI 1)<|aY (iG<|aY (tC<|.int 0)<|aY (tC<|.int 1)<|aY (tC<|.int 1)<|aY (tC<|.int 2)<|aY (tC<|.int 3)<|aY (tC<|.int 12)<|aY (MP (rU λi=>.int<|-i)<|tC<|.int 1)<|aY (tC<|.int 0) aX) aX)
  (λ_ _ _ _=>bB O hr rfl<|aA (pv 1)<|aA (cG<|aA aN<|aA aN<|aA aN<|aA aN<|aA aN<|aA aN<|aA (kY lR aN)<|aA aN aE) aE)) aE)))
 ac_rfl
 refine⟨_,rfl,hd,d,m,t,r,9,rfl,hh,by lia,by decide,by decide,λx B u I x0 x1 c1 e1=>?_⟩;have f1:FrS [hd] H (upd H hd<|hl B u I r):=FrS.chg<|.head _;have M:Hand (upd H hd<|hl B u I r) hd B u I r:=Hand.at c1;generalize upd H hd (hl B u I r)=H1 at f1 M;refine⟨x,rfl,by lia,by lia,λa X=>?_⟩;have aa:a≠hd:=λz=>by rw[z,M.1]at X;cases X
 have a9:H a=none:=FrS.old1 f1 M.1 X;refine HY (lo:=0) (n:=x.toNat) (TC H hd a t r) ⟨_,[],B,u,I,rfl,f1.put a9,M.new X,by lia,zb1,rfl,λc hc=>nomatch hc⟩ ?_ ?_
 .rintro i σ N hi ⟨_,C,dx,mx,tx,rfl,fx,J,ag,Y,ab,a7⟩;refine⟨_,rfl,_,rfl,cN<|bG (by show 8<=_;decide),λG l=>?_⟩;have ad:G≠hd:=λz=>by rw[z,J.1]at l;cases l
  have ac:=J.new (o:=.lst [.int 0,.int 1,.int 1,.int 2,.int 3,.int 12,.int<|-1,.int 0]) l;refine⟨hd,G,dx,mx,tx,r,_,rfl,ac,by lia,ad,SqL.of zb1,by simp,by show 8<1000;decide,λy b j e hy c2 e2=>?_⟩;obtain⟨c,rfl,hc⟩:∃c:Int,y=.int c/\-100<=c:=by
   simp only[wp9,aV,cY]at hy;rcases hy with rfl | rfl | rfl | rfl | rfl | rfl | rfl | rfl <;> exact⟨_,rfl,by decide⟩
  have W:FrS [hd] H (upd (upd N G<|.lst [.int 0,.int 1,.int 1,.int 2,.int 3,.int 12,.int<|-1,.int 0]) hd<|hl b j e r):=(fx.trans<|FrS.new l).put'<|.head _;have L:Hand (upd (upd N G<|.lst [.int 0,.int 1,.int 1,.int 2,.int 3,.int 12,.int<|-1,.int 0]) hd<|hl b j e r) hd b j e r:=Hand.at c2;have Z:upd (upd N G<|.lst [.int 0,.int 1,.int 1,.int 2,.int 3,.int 12,.int<|-1,.int 0]) hd (hl b j e r) a=some (.lst<|C.map V.int):=by rw[aC aa,aC<|aP Y l];exact Y
  refine(λ(key:∀H2:Hp,FrS [hd] H H2->Hand H2 hd b j e r->H2 a=some (.lst<|C.map V.int)->∃ys,H2 a=some (.lst ys)/\↑ys<sizeLine/\TC H hd a t r (i+1) [some<|V.int<|0+i,some<|.ref hd] (upd H2 a<|.lst<|ys++[V.int c]))=>key _ W L Z) ?_;clear W L Z;intro H2 W L Z;refine⟨_,Z,bG (by rw[aK];lia),_,C++[c],b,j,e,rfl,W.put a9,⟨(aC<|bK aa).trans L.1,c2⟩,by lia,by rw[zb1,bN];rfl,by rw[bH,ab];rfl,λz hz=>?_⟩;rcases wr7.mp hz with hz | hz
  .exact a7 z hz
  .rw[wq1.mp hz];exact hc
 .rintro σ N ⟨_,C,dx,mx,tx,rfl,fx,J,ag,Y,ab,a7⟩;refine⟨a,_,rfl,.inl ⟨SqL.of Y,λch a8=>?_⟩⟩;exact q ch C _ dx mx tx (fx.trans<|FrS.new a8) zb1 a7 (J.new a8) (by lia)
abbrev iI:Stmt:=top 78
theorem Ly.deL(h:Ly Z H n k rs L k'):L.deL<=n:=by
 induction h with
 | nil=>exact bM _
 | op h hb _ ih=>exact ih
 | again h hl _ _ i1 i2=>show max _ _<=_;lia
 | either h h1 h2 _ _ _ i1 i2 i3=>show max (max _ _+1) _<=_;lia
theorem RZ(n:Pr):∀(l:List (Pr×LL))(a:LL),a.deL<=4->(∀z∈l,z.2.deL<=4)->(l.foldl (λa z=>if z.1=n then z.2 else a) a).deL<=4
 | [],a,h,_=>h
 | z::l,a,h,g=>by
  refine RZ n l _ ?_ λy b=>g y<|.tail _ b;show(if z.1=n then z.2 else a).deL<=4
  split
  .exact g z<|.head _
  .exact h
theorem LyB.deL(h:LyB Z H k zs Ls k'):∀L∈Ls,L.deL<=4:=by
 induction h with
 | nil=>intro L a;cases a
 | cons h s hz _ ih=>
  intro L a;rcases wp9.mp a with rfl | a
  .exact s.deL
  .exact ih L a
def KindsAt.uq(a:KindsAt H p tr)(b:KindsAt H p tr'):tr=tr':=by
 obtain⟨A,us,x,y,r,n,l,w⟩:=a;obtain⟨C,E,I,G,j,f,m,u⟩:=b;rw[r]at j;cases j;rw[n]at f;have:=wM<|HO.tup.inj<|gX f;subst this;refine List.ext_getElem (l.symm.trans m) λi h1 h2=>?_;have h:i<↑us:=by rw[l];exact h1
 obtain⟨v,e⟩:=w i _ _ (bF h)<|bF h1;obtain⟨B,d⟩:=u i _ _ (bF h)<|bF h2;rw[e]at d;injection d with d;injection d with d;injection d with e1 e2;injection e2 with e2 _;generalize tr[i]=z at e1 e2;generalize tr'[i]=q at e1 e2;obtain⟨k,o⟩:=z;obtain⟨s,o'⟩:=q;obtain rfl:k=s:=V.str.inj e1;cases o <;> cases o' <;> first | rfl | cases e2;rfl | cases e2
inductive pG(K:Fq)(vs:List V)(H:Hp)(Q:VK):Prop
 | mk(a:Addr)(ns:List Int)(h1:vs=[.ref a])(h2:SqL K H a (ns.map V.int))(h3:↑ns<=63)(h4:∀H',Q (.bl true) H'):pG K vs H Q
def FT(K:Fq):Sp:=λvs H Q _=>pG K vs H Q
inductive BQ(K:Fq)(a:Addr)(ns:List Int)(i:Nat)(σ:St)(Hx:Hp):Prop
 | mk(x1 x2 x3 x4 x5 x6:Option V)(h1:σ=[some<|.ref a,x1,x2,x3,x4,x5,x6])(h2:SqL K Hx a (ns.map V.int)):BQ K a ns i σ Hx
inductive NU(H1:Hp)(hd:Addr)(xs:List (Option V))(i:Nat)(σ:St)(Hx:Hp):Prop
 | mk(x y z:Option V)(d m t r:Int)(hσ:σ=xs++[x,y,z])(fr:FrS [hd] H1 Hx)(hh:Hand Hx hd d m t r)(ht:t<=10000+20*i):NU H1 hd xs i σ Hx
def XR(h:SqL K H a xs)(f:∀b o,H b=some o->H' b=some o):SqL K H' a xs:=by
 rcases h with (h | ⟨o,h⟩) | h
 .exact .inl<|.inl<|f _ _ h
 .exact .inl<|.inr ⟨o,f _ _ h⟩
 .exact .inr h
section
variable{Y:Ry}{mg:Str->Option Value}{base:Heap}{f:Addr}{fd:FuncData}
def yq9:bZ ["_law_script","_law_k",qH,"_law_program_here","_law_turn","_law_choices_here","_law_most"] ["_law_script"] (bR iI):=cC
def uG{k:Nat}(F:Fun Y.K "law" "law" iI f fd)(HN:aS Y.pr Y.w Y.K mg base k "_law_hand" ["_law_script","_law_k"] (JC Y.K))(PR:aS Y.pr Y.w Y.K mg base k "_law_program" [qH,"_law_most"] IR)(LE:aS Y.pr Y.w Y.K mg base k "_law_lean" EW HG)(CH:aS Y.pr Y.w Y.K mg base k "_law_choices" [qH] LN)(O:aS Y.pr Y.w Y.K mg base k "_law_of" qC (cP Y.K))(SA:aS Y.pr Y.w Y.K mg base k "_law_same" rG (mL 3))(PL:aS Y.pr Y.w Y.K mg base k "plain_run" ["program","choices","most"] (GN Y))(RA:aS Y.pr Y.w Y.K mg base k "_law_ran" gY JY)
  (ml:mg "len"=none) (mr:mg "range"=none) (mx:mg "max"=none) (mn:mg "min"=none):aR Y.pr Y.w Y.K mg base bQ (k+1) f fd ["_law_script"] (FT Y.K):=by
 refine F.ok yq9 (λvs H Q E h=>?_) λb9 A outer s H vs Q E hr h=>?_
 .obtain⟨a,C,rfl,_⟩:=h;rfl
 obtain⟨a,C,rfl,hS,b5,q⟩:=h;exists _,aL (dZ dJ rfl (lC rfl mr<|aA (eA (Cb rfl) rfl mx (by rfl')<|aA aN<|aA (eA (HP rfl) rfl mn (by rfl')<|aA (eA iW rfl ml iR<|aA (pv 0) aE)<|aA aN aE) aE) aE) (gL 1 yq9.nd)
   (aL (sL 2 yq9.nd<|bB HN hr rfl<|aA (pv 0)<|aA (pv 1) aE)<|aL (sL 3 yq9.nd<|bB LE hr rfl<|aA (bB PR hr rfl<|aA (pv 2)<|aA aN aE)<|aA (bX<|kQ<|kQ<|kQ<|kQ aE) aE)<|aQ<|dZ dJ rfl (lC rfl mr<|aA aN aE) (gL 4 yq9.nd)<|aL (sL 5 yq9.nd<|bB CH hr rfl<|aA (pv 2) aE)<|aL (sL 6 yq9.nd<|bB O hr rfl<|aA (pv 2)<|aA (cG<|aA aN<|aA aN<|aA aN<|aA aN<|aA aN<|aA aN<|aA (kY lR aN) aE) aE)<|aQ<|cL (uA<|yX<|bB SA hr rfl<|aA (bB PL hr rfl<|aA (pv 3)<|aA (pv 5)<|aA (pv 6) aE)<|aA (eT (bB RA hr rfl<|aA (pv 3)<|aA (pv 5)<|aA (pv 6) aE) aN) aE) (aQ<|bS zG) dD))
  (aQ<|bS zG)
 ac_rfl
 have s4:4<=sizeLine:=cN (bG<|by decide);exists _,rfl,a,_,rfl,.inl hS,_,_,rfl,_,_,rfl;obtain⟨L,av,ba⟩:∃L:Int,(if (if (9:Int)<((↑(C.map V.int):Nat):Int) then(9:Int) else((↑(C.map V.int):Nat):Int)) > 1 then(if (9:Int)<((↑(C.map V.int):Nat):Int) then(9:Int) else((↑(C.map V.int):Nat):Int)) else 1)=L/\L<=9/\1<=L:=by
  exists _,rfl,?_
  .split <;> (try split) <;> lia
  .split <;> (try split) <;> lia
 rw[av];refine⟨L,rfl,by lia,by lia,?_⟩;refine vV (lo:=0) (n:=L.toNat) (BQ Y.K a C) ⟨_,_,_,_,_,_,rfl,hS⟩ ?_ λσ T _=>q T;rintro i σ T hi ⟨x1,x2,x3,x4,x5,x6,rfl,ag⟩;refine⟨_,rfl,_,rfl,a,C,i,by rw[Int.zero_add];rfl,ag,b5,by lia,λhd d m ac hok=>?_⟩;generalize V.int (0+(i:Nat))=b7;have az:Hand (upd T hd<|hl d m 0 0) hd d m 0 0:=Hand.at hok;refine⟨_,rfl,hd,80,d,m,0,0,rfl,by decide,az,by decide,λp ks m0 tr u Z H1 d1 m1 t1 r1 f1 hP hK ap ab ax hN hh ht=>?_⟩;refine⟨s4,λwt al=>?_⟩;have k1:∀b o,T b=some o->H1 b=some o:=λb o e=>f1 b o (by simpa using aP e ac) (by rw[aC<|aP e ac];exact e)
 have tw:Tup H1 (upd H1 wt<|.tup<|w4.map V.str):=Tup.new al;have f2:FrS [] H1 (upd H1 wt<|.tup<|w4.map V.str):=FrS.new al;refine⟨Z,p,wt,ks,m0,tr,u,rfl,hP.keep tw,hK.keepT tw,ax.keep tw,ab,hN,zb1,λp' ar m' H3 f3 as ao ad b0=>?_⟩;have k3:∀b o,T b=some o->H3 b=some o:=λb o e=>f3 b o aV<|f2 b o aV<|k1 b o e;have aj:Hand H3 hd d1 m1 t1 r1:=⟨f3 _ _ aV<|f2 _ _ aV hh.1,hh.2⟩;refine⟨4,rfl,by decide,by decide,?_⟩;refine vV (lo:=0) (n:=4) (NU H3 hd [some<|.ref a,some b7,some<|.ref hd,some<|.ref p']) ⟨_,_,_,d1,m1,t1,r1,rfl,FrS.refl,aj,by lia⟩ ?_ ?_
 .rintro j σ Hy hj ⟨y1,y2,y3,dx,am,tx,x,rfl,fy,af,ay⟩;refine⟨_,rfl,hd,dx,am,tx,x,rfl,af,by lia,λch cs W d4 m4 t4 f4 b3 ai ak b8=>?_⟩;refine⟨_,rfl,_,rfl,cN<|bG (by show 7<=_;decide),λM P=>?_⟩;have b1:M≠hd:=λz=>by rw[z,ak.1]at P;cases P
  have ah:=ak.new (o:=.lst [.int 2000,.int 100,.int 20,.int 5,.int 1,.int 0,.int<|-1]) P;refine⟨hd,M,d4,m4,t4,x,_,rfl,ah,by lia,b1,SqL.of zb1,by simp,by show 7<1000;decide,λy J N I hy c5 e5=>?_⟩;obtain⟨mo,rfl,aq⟩:∃mo:Int,y=.int mo/\mo<=2000:=by
   simp only[wp9,aV,cY]at hy;rcases hy with rfl | rfl | rfl | rfl | rfl | rfl | rfl <;> exact⟨_,rfl,by decide⟩
  have f5:FrS [hd] H3 (upd (upd W M<|.lst [.int 2000,.int 100,.int 20,.int 5,.int 1,.int 0,.int<|-1]) hd<|hl J N I x):=((fy.trans f4).trans<|FrS.new P).put'<|.head _;have ae:Hand (upd (upd W M<|.lst [.int 2000,.int 100,.int 20,.int 5,.int 1,.int 0,.int<|-1]) hd<|hl J N I x) hd J N I x:=Hand.at c5;have a6:upd (upd W M<|.lst [.int 2000,.int 100,.int 20,.int 5,.int 1,.int 0,.int<|-1]) hd (hl J N I x) ch=some (.tup<|cs.map V.int):=(Tup.lst ah.1) _ _<|(Tup.new P) _ _ b3;generalize upd (upd W M<|.lst [.int 2000,.int 100,.int 20,.int 5,.int 1,.int 0,.int<|-1]) hd (hl J N I x)=H5 at f5 ae a6;have X:=f5.tup1 aj.1;obtain⟨G,Ls,k',hG,a8⟩:=IE (Y:=Y) (as.keep X) (ao.keepT X) ap ab (ad.keep X) b0 (λk d h=>absurd h.1 nofun) cs ai;have g0:=a8 H5 FrS.refl;have b4:(G.bo "" "").deL<=4:=by
   rw[g0.bo];exact RZ _ _ _ (by decide) λz hz=>g0.b.deL _ (xI hz).2
  obtain⟨au,a9⟩:=g0.pg;obtain rfl:tr=au:=(ao.keepT X).uq a9.kn;obtain⟨S',e,v,t⟩:=Rn.all G mo.toNat _ 0 (pW G<|hr0 tr u)<|aW _;obtain⟨b2,hv⟩:=t.fl λr hr=>nomatch hr;have a5:H5 ch=some (.tup<|G.ch.map V.int):=by rw[hG];exact a6
  refine⟨_,rfl,_,rfl,_,rfl,⟨iX Z,H5,p',G⟩,ch,ar,m',tr,u,Ls,k',mo,S',e,v,rfl,a8,a5,aq,t,λl tl el ls H6 f6 a1 a2 a3 a4=>?_⟩;have B:=a8 H6 f6;refine⟨_,rfl,_,rfl,_,rfl,iX Z,p',ch,ar,m',tr,u,Ls,k',mo,G,rfl,B.p,B.k,B.l,ap,ab,B.b,B.k6,(Tup.of0 f6) _ _ a5,a9.z0,B.bo "" "",aq,b4,(by rw[hG];exact ai),a9.ln,B.pz.nm,B.pz.ln,B.nm,λpr l2 d2 S2 e2 v2 H8 f8 b6 t2 aa aw=>?_⟩;obtain⟨rfl,rfl,rfl⟩:=t.uniq t2;have t8:=Tup.of0 f8;refine⟨pr,_,_,_,rfl,rfl,SqT.of b6,rfl,_,_,rfl,tF (fX aw<|by decide) b2 hv (ResAt.keep (r:=(S',e,v)) ⟨tl,el,ls,a1,a2,a3,a4⟩ t8) aa,λH9 f9=>?_⟩;have an:=(f6.trans f8).trans f9;exact⟨_,rfl,bE ⟨_,_,_,J,N,I,x,rfl,λb o n e=>an b o aV<|f5 b o n e,⟨an _ _ aV ae.1,ae.2⟩,by lia⟩⟩
 .rintro σ Hy ⟨y1,y2,y3,dx,am,tx,x,rfl,fy,af,ay⟩;exact⟨_,_,_,_,_,_,rfl,XR ag λb o e=>fy b o (by simpa using aP e ac)<|k3 b o e⟩
end
section
variable{k:Nat}{nm qn:Str}{st:Stmt}{ps:List Str}{sp:Sp}
inductive Fh(K:Fq)(nm qn:Str)(st:Stmt)(f:Addr):Prop
 | mk {od an:Option Addr} {sl:Array (Option Value)} {oc kV dc pm cd ct:Value} (l:K.lookup f=some ⟨oc,od,.func<|PySem.W.fnOf nm qn (oJ st) (dV st) (bR st) .none kV dc pm an cd ct,sl⟩) (c:PySem.W.codeIn K cd qn=true) (k:PySem.W.keepIn K (.ref f)=true):Fh K nm qn st f
inductive Fg(K:Fq)(nm:Str)(st:Stmt):Prop
 | mk {f:Addr} (a:PySem.W.nsIn K mainGlobals nm=some (some<|.ref f)) (h:Fh K nm nm st f):Fg K nm st
structure Fy(K:Fq)(mg:Str->Option Value)(nm qn:Str)(st:Stmt)(ps:List Str)(f:Addr)(fd:FuncData):Prop where
 F:Fun K nm qn st f fd
 b:Binds K fd ps []
 k:PySem.W.keepIn K (.ref f)=true
def Fh.y(p:Fh K nm qn st f)(a:∀(kV h b:Value)(e:Option Addr)(d ct:Value)(us:List Value),↑us=↑ps->bindArgs (PySem.W.fnOf nm qn (oJ st) (dV st) (bR st) .none kV h b e d ct) ⟨us,[]⟩=pure (ps.zip us)):∃fd,Fy K mg nm qn st ps f fd:=by
 obtain⟨l,c,k⟩:=p;have F:=PN (st:=st) l c k;exact⟨_,F,F.binds a,k⟩
theorem Fg.y{h:Heap}(p:Fg K nm st)(X:K.In h)(G:h.Ns mainGlobals mg)(d:∀(kV b e:Value)(j:Option Addr)(i ct:Value)(us:List Value),↑us=↑ps->bindArgs (PySem.W.fnOf nm nm (oJ st) (dV st) (bR st) .none kV b e j i ct) ⟨us,[]⟩=pure (ps.zip us)):∃f fd,Fy K mg nm nm st ps f fd/\mg nm=some (.ref f):=by
 obtain⟨a,p⟩:=p;obtain⟨fd,y⟩:=p.y d;exact⟨_,fd,y,nW X G a⟩
def Fy.c(y:Fy K mg nm nm st ps f fd/\mg nm=some (.ref f))(h:aR P w K mg base bQ k f fd ps sp):aS P w K mg base k nm ps sp:=⟨f,fd,h,y.1.b,y.1.k,y.2⟩
def Fy.v(y:Fy K mg nm qn st ps f fd)(h:aR P w K mg base bQ k f fd ps sp):vQ P w K mg base k ps f sp:=⟨fd,h,y.b,y.k⟩
structure Ck(K:Fq)(x qn:Str)(st:Stmt)(fs:List Str)(C g:Addr):Prop where
 a:PySem.W.nsIn K mainGlobals x=some (some<|.ref C)
 c:Cls K C
 n:∀f∈fs,PySem.W.findIn K (.ref C) f=some none
 m:Mk K C g
 h:Fh K "__init__" qn st g
def nG{P:List Value->Prop}(h:∀a,P [a])(us:List Value)(hl:↑us=1):P us:=match us,hl with | [a],_=>h a
def fR{P:List Value->Prop}(h:∀a b,P [a,b])(us:List Value)(hl:↑us=2):P us:=match us,hl with | [a,b],_=>h a b
def jQ{P:List Value->Prop}(h:∀a b c,P [a,b,c])(us:List Value)(hl:↑us=3):P us:=match us,hl with | [a,b,c],_=>h a b c
def yD{P:List Value->Prop}(h:∀a b c d,P [a,b,c,d])(us:List Value)(hl:↑us=4):P us:=match us,hl with | [a,b,c,d],_=>h a b c d
def LK{P:List Value->Prop}(h:∀a b c d e,P [a,b,c,d,e])(us:List Value)(hl:↑us=5):P us:=match us,hl with | [a,b,c,d,e],_=>h a b c d e
def VG{P:List Value->Prop}(h:∀a b c d e f,P [a,b,c,d,e,f])(us:List Value)(hl:↑us=6):P us:=match us,hl with | [a,b,c,d,e,f],_=>h a b c d e f
def Cp(F:Fun K "_law_rows" "_law_rows" EC f fd):aR P w K mg base bQ (k+1) f fd kC (AH 0):=F.ok yw7 (λ_ _ _ _ h=>h.elim) λ_ _ _ _ _ _ _ _ _ h=>h.elim
def BZ{CX:jW}:aR P w K mg base CX k f fd ps (λ_ _ _ _=>False):=⟨λ_ _ _ _ h=>h.elim,λ_ _ _ _ _ _ _ _ _ _ _ _ _ h=>h.elim⟩
inductive DEn(w:World):List DictEntry->List (aF×Value)->Prop
 | nil:DEn w [] []
 | cons {x:Str} {t:Tok} {v:Value} {es:List DictEntry} {kvs:List (aF×Value)} (h:DEn w es kvs):DEn w (⟨PyData.keyHash w.params x,.str x t,v⟩::es) ((Sum.inr x,v)::kvs)
def DEn.p(h:DEn w es kvs):Pairs (cI P w) es kvs/\∀e∈es,∃k,(cI P w).is k e.key=true/\e.hash=(cI P w).hash k:=by
 induction h with
 | nil=>exact⟨.nil,λe h=>nomatch h⟩
 | @cons x t v es kvs _ ih=>
  refine⟨.cons (KL x t) rfl ih.1,λe he=>?_⟩;rcases wp9.mp he with rfl | he
  .exact⟨Sum.inr x,KL x t,rfl⟩
  .exact ih.2 e he
def ZM{a:Addr}{es:List DictEntry}{n:Nat}{kvs:List (aF×Value)}(l:K.lookup a=some ⟨.type "dict",none,.dict es.toArray n,#[]⟩)(h:DEn w es kvs)(nd:(kvs.map (·.1)).Nodup):IV P w K a kvs:=
 ⟨_,l,λhp e=>⟨_,es.toArray,_,e,⟨rfl,rfl,rfl⟩,rfl,λe he=>h.p.2 e (by simpa using he),h.p.1,nd⟩⟩
end
def KH{K:Fq}{a:Addr}{od:Option Addr}{x y:Str}{d e n:Nat}{b:Array (Option Value)}(l:K.lookup a=some ⟨.type "tuple",od,.seq #[.str x d,.str y e] n,b⟩)(H:Hp):SqT K H a [.str x,.str y]:=
 .inr ⟨_,_,_,l,rfl,rfl,dO rfl,.cons ⟨_,rfl⟩<|.cons ⟨_,rfl⟩ .nil⟩
def Ck.m'{Y:Ry}{mg:Str->Option Value}{base:Heap}{k:Nat}{x qn:Str}{st:Stmt}{fs ps:List Str}{C g:Addr}{gd:FuncData}{sp:Sp}{h:Heap}(c:Ck Y.K x qn st fs C g)(X:Y.K.In h)(G:h.Ns mainGlobals mg)(y:Fy Y.K mg "__init__" qn st ps g gd)(o:aR Y.pr Y.w Y.K mg base bQ k g gd ps sp):gZ Y mg base k x C ps sp:=⟨g,gd,o,y.b,c.m,nW X G c.a⟩
def uB{l:PySem.W.OpenLaw}{w:World}{K:Fq}{h:Heap}{mg:Str->Option Value}{fa:Addr}(X:K.In h)(G:h.Ns mainGlobals mg)(c9:mg "law"=some (.ref fa))
  {am ah ad:Addr} {bp bj:Option Addr} {ca cg:Array (Option Value)} {bz bx nm b8 bi nh nd tb tt:Nat} {e1 e2 e3 e4 e5 e6 e7 e8 e9:Nat} {g1 g2 g3 g4 g5 g6 g7 g8 g9 c1 c2 N i1 i2 i3:Addr}
  (p1:Fg K "elders" JV)
  (p2:Fg K "bodies" LQ)
  (p3:Fg K "rows_within" GP)
  (p4:Fg K "lay" vU)
  (p5:Fg K "laid" JD)
  (p6:Fg K "forms_of" vL)
  (p7:Fg K "turned_back" HE)
  (p8:Fg K "next_choice" uD)
  (p9:Fg K "add_due" vH)
  (bs:Fg K "do_row" IU)
  (bu:Fg K "run_on" MV)
  (bv:Fg K "whole_run" IS)
  (c8:Fg K "plain_run" MY)
  (bh:Fg K "_law_hand" HD)
  (ch:Fg K "_law_take" JP)
  (c4:Fg K "_law_of" EV)
  (cj:Fg K "_law_words" lT)
  (bb:Fg K "_law_tree" II)
  (bl:Fg K "_law_world" oM)
  (br:Fg K "_law_line" GL)
  (c0:Fg K "_law_has" rC)
  (cb:Fg K "_law_variable" tY)
  (cc:Fg K "_law_target" sS)
  (c6:Fg K "_law_make" HV)
  (b9:Fg K "_law_args" IO)
  (cl:Fg K "_law_call" MT)
  (c7:Fg K "_law_field" MO)
  (bn:Fg K "_law_row" qZ)
  (bc:Fg K "_law_rows" EC)
  (cf:Fg K "_law_deed" LW)
  (bg:Fg K "_law_program" MQ)
  (ci:Fg K "_law_without" JJ)
  (bt:Fg K "_law_lean" MD)
  (ck:Fg K "_law_choices" qJ)
  (bf:Fg K "_law_same" GX)
  (bd:Fg K "_law_marked" rA)
  (bw:Fg K "_law_new_run" cR)
  (bm:Fg K "_law_ups" sM)
  (ce:Fg K "_law_do_plain" uU)
  (c5:Fg K "_law_do" vI)
  (be:Fg K "_law_ran" uH)
  (pL:Fg K "law" iI)
  (q1:Fh K "do_make" "do_make" JX g1)
  (q2:Fh K "do_copy" "do_copy" KW g2)
  (q3:Fh K "do_put" "do_put" qT g3)
  (q4:Fh K "do_take" "do_take" GK g4)
  (q5:Fh K "do_say" "do_say" vC g5)
  (q6:Fh K "do_either" "do_either" IT g6)
  (q7:Fh K "do_again" "do_again" JI g7)
  (q8:Fh K "do_bring" "do_bring" KS g8)
  (P:Ck K "Thing" "Thing.__init__" vW OO c1 i1)
  (k2:Ck K "Due" "Due.__init__" uC TY c2 i2)
  (k3:Ck K "Run" "Run.__init__" MB UW N i3)
  (aw:c2≠N) (ac:c1≠N)
  (aM:PySem.W.nsIn K mainGlobals "MAIN"=some (some<|.ref am)) (lM:K.lookup am=some ⟨.type "tuple",bp,.seq #[.str "" bz,.str "" bx] nm,ca⟩)
  (aH:PySem.W.nsIn K mainGlobals "HOLDERS"=some (some<|.ref ah)) (lH:K.lookup ah=some ⟨.type "tuple",bj,.seq #[.str "either" b8,.str "again" bi] nh,cg⟩)
  (aB:PySem.W.nsIn K mainGlobals "BACK"=some (some<|.str "back" tb))
  (aT:PySem.W.nsIn K mainGlobals "MOST_TIMES"=some (some<|.int 9 tt))
  (aD:PySem.W.nsIn K mainGlobals "DOERS"=some (some<|.ref ad)) (lD:K.lookup ad=some ⟨.type "dict",none,.dict #[⟨PyData.keyHash w.params "make",.str "make" e1,.ref g1⟩,⟨PyData.keyHash w.params "copy",.str "copy" e2,.ref g2⟩,⟨PyData.keyHash w.params "put",.str "put" e3,.ref g3⟩,⟨PyData.keyHash w.params "take",.str "take" e4,.ref g4⟩,⟨PyData.keyHash w.params "say",.str "say" e5,.ref g5⟩,⟨PyData.keyHash w.params "either",.str "either" e6,.ref g6⟩,⟨PyData.keyHash w.params "again",.str "again" e7,.ref g7⟩,⟨PyData.keyHash w.params "bring",.str "bring" e8,.ref g8⟩,⟨PyData.keyHash w.params "call",.str "call" e9,.ref g9⟩] nd,#[]⟩)
  (z:∀x∈(["len","abs","int","range","tuple","dict","list","any","zip","enumerate","sorted","max","min","reversed","all","isinstance","bool","str"]:List Str),PySem.W.nsIn K mainGlobals x=some none):
  ∃fd:FuncData,(∀(s:Shared)(v:Value),BindsTo s fd ⟨[v],[]⟩ [("_law_script",v)])/\∀base:Heap,K.In base->base.Ns mainGlobals mg->aR l.prog w K mg base bQ 65 fa fd ["_law_script"] (FT K):=by
 have mM:=nW X G aM;have mH:=nW X G aH;have mB:∃tk,mg "BACK"=some (.str "back" tk):=⟨_,nW X G aB⟩;have mT:∃tk,mg "MOST_TIMES"=some (.int 9 tk):=⟨_,nW X G aT⟩;have mD:=nW X G aD;obtain⟨_,_,y1⟩:=p1.y (ps:=["program","kind"]) X G λ_ _ _ _ _ _=>fR λ_ _=>rfl;obtain⟨_,_,y2⟩:=p2.y (ps:=qK) X G λ_ _ _ _ _ _=>nG λ_=>rfl;obtain⟨_,_,y3⟩:=p3.y (ps:=["row"]) X G λ_ _ _ _ _ _=>nG λ_=>rfl;obtain⟨_,_,H⟩:=p4.y (ps:=xG) X G λ_ _ _ _ _ _=>jQ λ_ _ _=>rfl;obtain⟨_,_,y5⟩:=p5.y (ps:=["program"]) X G λ_ _ _ _ _ _=>nG λ_=>rfl;obtain⟨_,_,y6⟩:=p6.y (ps:=["made"]) X G λ_ _ _ _ _ _=>nG λ_=>rfl;obtain⟨_,_,y7⟩:=p7.y (ps:=["made","came"]) X G λ_ _ _ _ _ _=>fR λ_ _=>rfl;obtain⟨_,_,y8⟩:=p8.y (ps:=["run"]) X G λ_ _ _ _ _ _=>nG λ_=>rfl;obtain⟨_,_,y9⟩:=p9.y (ps:=jC) X G λ_ _ _ _ _ _=>jQ λ_ _ _=>rfl;obtain⟨_,_,b1⟩:=bs.y (ps:=["run","due","most"]) X G λ_ _ _ _ _ _=>jQ λ_ _ _=>rfl;obtain⟨_,_,au⟩:=bu.y (ps:=["run","most"]) X G λ_ _ _ _ _ _=>fR λ_ _=>rfl;obtain⟨_,_,ao⟩:=bv.y (ps:=GG) X G λ_ _ _ _ _ _=>yD λ_ _ _ _=>rfl;obtain⟨_,_,ab⟩:=c8.y (ps:=["program","choices","most"]) X G λ_ _ _ _ _ _=>jQ λ_ _ _=>rfl;obtain⟨_,_,az⟩:=bh.y (ps:=["_law_script","_law_k"]) X G λ_ _ _ _ _ _=>fR λ_ _=>rfl;obtain⟨_,_,av⟩:=ch.y (ps:=qB) X G λ_ _ _ _ _ _=>fR λ_ _=>rfl;obtain⟨_,_,ai⟩:=c4.y (ps:=qC) X G λ_ _ _ _ _ _=>fR λ_ _=>rfl;obtain⟨_,_,b5⟩:=cj.y (ps:=qB) X G λ_ _ _ _ _ _=>fR λ_ _=>rfl;obtain⟨_,_,ax⟩:=bb.y (ps:=[qH]) X G λ_ _ _ _ _ _=>nG λ_=>rfl;obtain⟨_,_,ak⟩:=bl.y (ps:=[qH]) X G λ_ _ _ _ _ _=>nG λ_=>rfl;obtain⟨_,_,ag⟩:=br.y (ps:=qG) X G λ_ _ _ _ _ _=>fR λ_ _=>rfl;obtain⟨_,_,ae⟩:=c0.y (ps:=qE) X G λ_ _ _ _ _ _=>jQ λ_ _ _=>rfl;obtain⟨_,_,af⟩:=cb.y (ps:=qA) X G λ_ _ _ _ _ _=>jQ λ_ _ _=>rfl;obtain⟨_,_,a7⟩:=cc.y (ps:=qA) X G λ_ _ _ _ _ _=>jQ λ_ _ _=>rfl;obtain⟨_,_,b6⟩:=c6.y (ps:=qA) X G λ_ _ _ _ _ _=>jQ λ_ _ _=>rfl;obtain⟨_,_,b2⟩:=b9.y (ps:=qD) X G λ_ _ _ _ _ _=>LK λ_ _ _ _ _=>rfl;obtain⟨_,_,al⟩:=cl.y (ps:=qF) X G λ_ _ _ _ _ _=>yD λ_ _ _ _=>rfl;obtain⟨_,_,b3⟩:=c7.y (ps:=qA) X G λ_ _ _ _ _ _=>jQ λ_ _ _=>rfl;obtain⟨_,_,aa⟩:=bn.y (ps:=jZ) X G λ_ _ _ _ _ _=>LK λ_ _ _ _ _=>rfl;obtain⟨_,_,A⟩:=bc.y (ps:=kC) X G λ_ _ _ _ _ _=>VG λ_ _ _ _ _ _=>rfl;obtain⟨_,_,a8⟩:=cf.y (ps:=FW) X G λ_ _ _ _ _ _=>yD λ_ _ _ _=>rfl;obtain⟨_,_,b0⟩:=bg.y (ps:=[qH,"_law_most"]) X G λ_ _ _ _ _ _=>fR λ_ _=>rfl;obtain⟨_,_,B⟩:=ci.y (ps:=xN) X G λ_ _ _ _ _ _=>fR λ_ _=>rfl;obtain⟨_,_,aq⟩:=bt.y (ps:=EW) X G λ_ _ _ _ _ _=>fR λ_ _=>rfl;obtain⟨_,_,as⟩:=ck.y (ps:=[qH]) X G λ_ _ _ _ _ _=>nG λ_=>rfl;obtain⟨_,_,L⟩:=bf.y (ps:=rG) X G λ_ _ _ _ _ _=>fR λ_ _=>rfl;obtain⟨_,_,M⟩:=bd.y (ps:=iF) X G λ_ _ _ _ _ _=>fR λ_ _=>rfl;obtain⟨_,_,a9⟩:=bw.y (ps:=gY) X G λ_ _ _ _ _ _=>jQ λ_ _ _=>rfl;obtain⟨_,_,ay⟩:=bm.y (ps:=mI) X G λ_ _ _ _ _ _=>fR λ_ _=>rfl;obtain⟨_,_,ap⟩:=ce.y (ps:=mN) X G λ_ _ _ _ _ _=>yD λ_ _ _ _=>rfl;obtain⟨_,_,I⟩:=c5.y (ps:=jG) X G λ_ _ _ _ _ _=>jQ λ_ _ _=>rfl;obtain⟨_,_,a6⟩:=be.y (ps:=gY) X G λ_ _ _ _ _ _=>jQ λ_ _ _=>rfl;obtain⟨_,w1⟩:=q1.y (mg:=mg) (ps:=eQ) λ_ _ _ _ _ _=>fR λ_ _=>rfl;obtain⟨_,w2⟩:=q2.y (mg:=mg) (ps:=eQ) λ_ _ _ _ _ _=>fR λ_ _=>rfl;obtain⟨_,w3⟩:=q3.y (mg:=mg) (ps:=eQ) λ_ _ _ _ _ _=>fR λ_ _=>rfl;obtain⟨_,w4⟩:=q4.y (mg:=mg) (ps:=eQ) λ_ _ _ _ _ _=>fR λ_ _=>rfl;obtain⟨_,w5⟩:=q5.y (mg:=mg) (ps:=eQ) λ_ _ _ _ _ _=>fR λ_ _=>rfl;obtain⟨_,w6⟩:=q6.y (mg:=mg) (ps:=eQ) λ_ _ _ _ _ _=>fR λ_ _=>rfl;obtain⟨_,w7⟩:=q7.y (mg:=mg) (ps:=eQ) λ_ _ _ _ _ _=>fR λ_ _=>rfl;obtain⟨_,w8⟩:=q8.y (mg:=mg) (ps:=eQ) λ_ _ _ _ _ _=>fR λ_ _=>rfl;obtain⟨_,v1⟩:=P.h.y (mg:=mg) (ps:=iZ) λ_ _ _ _ _ _=>fR λ_ _=>rfl;obtain⟨_,v2⟩:=k2.h.y (mg:=mg) (ps:=iV) λ_ _ _ _ _ _=>LK λ_ _ _ _ _=>rfl;obtain⟨_,v3⟩:=k3.h.y (mg:=mg) (ps:=wN) λ_ _ _ _ _ _=>yD λ_ _ _ _=>rfl;have zz:∀x∈(["len","abs","int","range","tuple","dict","list","any","zip","enumerate","sorted","max","min","reversed","all","isinstance","bool","str"]:List Str),mg x=none:=λx hx=>PySem.W.mg_none_of X G<|z x hx;simp only[BY]at zz;obtain⟨i,z2,u,o,b,T,z7,z8,z9,bq,ba,bk,a5,bo,b4,aj,b7,ar,_⟩:=zz;obtain⟨a,@⟨_,an,_,_,kV,dc,pm,cd,ct,ll,c,kk⟩⟩:=pL;cases c9.symm.trans (nW X G a);refine⟨PySem.W.fnOf "law" "law" (oJ iI) (dV iI) (bR iI) .none kV dc pm an cd ct,λs v=>.of_eq rfl,λbase _ _=>?_⟩
 let Y:Ry:=⟨⟨c1,c2,N⟩,l.prog,w,K,aw,ac⟩
 have Z:dH Y.K Y.C:=⟨⟨P.c,P.n⟩,⟨k2.c,k2.n⟩,⟨k3.c,k3.n⟩,aw,ac⟩;have e:∀k:Nat,aS l.prog w K mg base (k+1) _ _ gG:=λk=>Fy.c av<|Dp av.1.F;have j:∀k:Nat,aS l.prog w K mg base (k+2) _ _ (cP K):=λk=>Fy.c ai<|AY ai.1.F (e k) i;have Wd:∀k:Nat,aS l.prog w K mg base (k+2) _ _ FB:=λk=>Fy.c b5<|Cd b5.1.F (e k) i o u;have Tr:∀k:Nat,aS l.prog w K mg base (k+3) _ _ HI:=λk=>Fy.c ax<|YV ax.1.F (e<|k+1) (j k) (Wd k) i bq;have Wo:∀k:Nat,aS l.prog w K mg base (k+4) _ _ MM:=λk=>Fy.c ak<|VW ak.1.F (e<|k+2) (j<|k+1) (Wd<|k+1) (Tr k) T o u;have Li:∀k:Nat,aS l.prog w K mg base (k+1) _ _ BE:=λk=>Fy.c ag<|WF ag.1.F T;have Ha:∀k:Nat,aS l.prog w K mg base (k+2) _ _ IF:=λk=>Fy.c ae<|pZ ae.1.F (Li k) z8;have J:∀k:Nat,aS l.prog w K mg base (k+3) _ _ nR:=λk=>Fy.c af<|rS af.1.F (e<|k+1) (j k) z7;have O:∀k:Nat,aS l.prog w K mg base (k+3) _ _ uK:=λk=>Fy.c a7<|qP a7.1.F<|j k;have Ma:∀k:Nat,aS l.prog w K mg base (k+4) _ _ GE:=λk=>Fy.c b6<|Ac b6.1.F (e<|k+2) (j<|k+1)<|O k;have Ar:∀k:Nat,aS l.prog w K mg base (k+4) _ _ ME:=λk=>Fy.c b2<|Dr b2.1.F (e<|k+2) (j<|k+1) (J k) (Li<|k+2) b;have Ca:∀k:Nat,aS l.prog w K mg base (k+5) _ _ BJ:=λk=>Fy.c al<|Cr al.1.F (e<|k+3) (j<|k+2) (J<|k+1) (Li<|k+3) (O<|k+1) (Ha<|k+2) (Ma k)<|Ar k;have Fi:∀k:Nat,aS l.prog w K mg base (k+4) _ _ HR:=λk=>Fy.c b3<|YP b3.1.F (e<|k+2) (j<|k+1) (J k)<|O k;have Rz:∀k:Nat,aS l.prog w K mg base (k+1) _ _ (AH 0):=λk=>Fy.c A<|Cp A.1.F;have Row:∀(n k:Nat),aS l.prog w K mg base (k+5) "_law_rows" kC (AH n)->aS l.prog w K mg base (k+6) "_law_row" jZ (LG n):=λn k R=>Fy.c aa<|vK aa.1.F (e<|k+4) (j<|k+3) (J<|k+2) (O<|k+2) (Ma<|k+1) (Fi<|k+1) (Ca k) R o i b;have E:∀(n k:Nat),aS l.prog w K mg base (k+7+2*n) "_law_rows" kC (sJ n):=by
  intro n
  induction n with
  | zero=>intro k;exact Fy.c A<|SK A.1.F (e<|k+5) (Row 0 k<|Rz<|k+4) o b
  | succ n ih=>
   intro k;have R1:=Row (n+1) (k+2+2*n) (by have:=ih k;rwa [show k+2+2*n+5=k+7+2*n by lia]);have R2:aS l.prog w K mg base (k+2+2*n+6+1) "_law_rows" kC (sJ<|n+1):=Fy.c A<|SK A.1.F (by have:=e<|k+2+2*n+5;exact this) R1 o b;rwa [show k+7+2*(n+1)=k+2+2*n+6+1 by lia]
 have R4:∀k:Nat,aS l.prog w K mg base (k+15) "_law_rows" kC (sJ 4):=λk=>E 4 k;have De:∀k:Nat,aS l.prog w K mg base (k+16) _ _ FM:=λk=>Fy.c a8<|ZT a8.1.F (e<|k+14) (j<|k+13) (J<|k+12) (R4 k) i z7 z9 T b;have Pr:∀k:Nat,aS l.prog w K mg base (k+17) _ _ IR:=λk=>Fy.c b0<|Bt b0.1.F (e<|k+15) (j<|k+14) (Wo<|k+12) (De k) (R4<|k+1) i o b ba;have Hn:∀k:Nat,aS l.prog w K mg base (k+1) _ _ (JC K):=λk=>Fy.c az<|YN az.1.F i z2 u;have Bo:∀k:Nat,aS l.prog w K mg base (k+1) _ _ (JZ K):=λk=>Fy.c y2<|Bs y2.1.F mM (KH lM) b;have Wi:∀k:Nat,aS l.prog w K mg base (k+1) _ _ GI:=λk=>Fy.c y3<|ZN y3.1.F mH<|KH lH;have Ly:∀(n k:Nat),aS l.prog w K mg base (k+2+n) "lay" xG (kS n):=by
  intro n
  induction n with
  | zero=>intro k;exact Fy.c H<|pM H.1.F (Wi k) (Fy.c H BZ) i b
  | succ n ih=>intro k;exact Fy.c H<|pM H.1.F (by have:=Wi<|k+1+n;rwa [show k+1+n+1=k+2+n by lia]at this) (ih k) i b
 have Ld:∀k:Nat,aS l.prog w K mg base (k+7) _ _ (KZ l.prog w K):=λk=>Fy.c y5<|ZD y5.1.F (Bo<|k+5)<|Ly 4 k;have El:∀k:Nat,aS l.prog w K mg base (k+1) _ _ HC:=λk=>Fy.c y1<|WE y1.1.F b;have Fm:∀k:Nat,aS l.prog w K mg base (k+1) _ _ EZ:=λk=>Fy.c y6<|sU y6.1.F;have Tb:∀k:Nat,aS l.prog w K mg base (k+1) _ _ vE:=λk=>Fy.c y7<|AU y7.1.F b;have Mt:∀k:Nat,gZ Y mg base (k+1) "Thing" Y.C.th iZ (FF Y.C.th):=λk=>Ck.m' (Y:=Y) P X G v1<|sD (Y:=Y) v1.F Z;have Md:∀k:Nat,gZ Y mg base (k+1) "Due" Y.C.du iV (EB Y.C.du):=λk=>Ck.m' (Y:=Y) k2 X G v2<|rY (Y:=Y) v2.F Z;have Nx:∀k:Nat,aS l.prog w K mg base (k+1) _ _ (FA Y):=λk=>Fy.c y8<|tP (Y:=Y) y8.1.F Z i;have AD:∀k:Nat,aS l.prog w K mg base (k+3) _ _ (AE Y):=λk=>Fy.c y9<|sY (Y:=Y) y9.1.F Z (Md k) bo;have Ds:∀k:Nat,nO Y mg base (k+4):=λk=>by
  refine⟨ad,_,mD,ZM (K:=K) lD (.cons<|.cons<|.cons<|.cons<|.cons<|.cons<|.cons<|.cons<|.cons<|.nil) (by show([Sum.inr "make",Sum.inr "copy",Sum.inr "put",Sum.inr "take",Sum.inr "say",Sum.inr "either",Sum.inr "again",Sum.inr "bring",Sum.inr "call"]:List aF).Nodup;rfl'),λd hz=>?_⟩;cases d with
  | op n a r m=>
   cases r with
   | make x y=>exact⟨g1,_,rfl,w1.v<|zX (Y:=Y) w1.F Z<|Mt<|k+1,⟨_,_,_,_,_,rfl⟩⟩
   | copy x y=>exact⟨g2,_,rfl,w2.v<|YY (Y:=Y) w2.F Z,⟨_,_,_,_,_,rfl⟩⟩
   | put x f y=>exact⟨g3,_,rfl,w3.v<|rH (Y:=Y) w3.F Z,⟨_,_,_,_,_,_,rfl⟩⟩
   | take x y f=>exact⟨g4,_,rfl,w4.v<|yY (Y:=Y) w4.F Z,⟨_,_,_,_,_,_,rfl⟩⟩
   | say x=>exact⟨g5,_,rfl,w5.v<|rO (Y:=Y) w5.F Z,⟨_,_,_,_,rfl⟩⟩
   | bring x=>exact⟨g8,_,rfl,w8.v<|zQ (Y:=Y) w8.F Z (El<|k+2) (Tb<|k+2)<|Fm<|k+2,⟨_,_,_,_,rfl⟩⟩
  | either n a p q m=>exact⟨g6,_,rfl,w6.v<|BR (Y:=Y) w6.F Z (Nx<|k+2)<|AD k,⟨_,_,_,_,_,rfl,hz⟩⟩
  | again n a p m=>exact⟨g7,_,rfl,w7.v<|AO (Y:=Y) w7.F Z (Nx<|k+2) (AD k) a5 o mT,⟨_,_,_,_,rfl,hz⟩⟩
 have DR:∀k:Nat,aS l.prog w K mg base (k+5) _ _ (KQ Y):=λk=>Fy.c b1<|XV (Y:=Y) b1.1.F Z<|Ds k;have RO:∀k:Nat,aS l.prog w K mg base (k+6) _ _ (rD Y):=λk=>Fy.c au<|VQ (Y:=Y) au.1.F Z (DR k) mB;have Mr:∀k:Nat,gZ Y mg base (k+8) "Run" Y.C.rn wN (GC Y):=λk=>Ck.m' (Y:=Y) k3 X G v3<|ZL (Y:=Y) v3.F Z (Fm<|k+6)<|Ld k;have WH:∀k:Nat,aS l.prog w K mg base (k+10) _ _ (sH Y):=λk=>Fy.c ao<|ZU (Y:=Y) ao.1.F Z (Mr k) (AD<|k+6) (RO<|k+3) mM (KH lM) b;have PL:∀k:Nat,aS l.prog w K mg base (k+11) _ _ (GN Y):=λk=>Fy.c ab<|VL (Y:=Y) ab.1.F<|WH k;have Sm:∀(n k:Nat),aS l.prog w K mg base (k+1+n) "_law_same" rG (mL n):=by
  intro n
  induction n with
  | zero=>intro k;exact Fy.c L<|QE L.1.F (Fy.c L BZ) aj b b7 ar u i b4 z9
  | succ n ih=>intro k;exact Fy.c L<|QE L.1.F (ih k) aj b b7 ar u i b4 z9
 have Up:∀k:Nat,aS l.prog w K mg base (k+1) _ _ LS:=λk=>Fy.c ay<|uL ay.1.F;have Lp:∀k:Nat,aS l.prog w K mg base (k+2) _ _ IM:=λk=>Fy.c ap<|rZ ap.1.F (Up k) i;have Lo:∀(n k:Nat),aS l.prog w K mg base (k+3+n) "_law_do" jG (DW n):=by
  intro n
  induction n with
  | zero=>intro k;exact Fy.c I<|RW I.1.F (Lp k) (Fy.c I BZ) u o a5
  | succ n ih=>intro k;exact Fy.c I<|RW I.1.F (by have:=Lp<|k+1+n;rwa [show k+1+n+2=k+3+n by lia]at this) (ih k) u o a5
 have Mk:∀(n k:Nat),aS l.prog w K mg base (k+1+n) "_law_marked" iF (uS n):=by
  intro n
  induction n with
  | zero=>intro k;exact Fy.c M<|ND M.1.F<|Fy.c M BZ
  | succ n ih=>intro k;exact Fy.c M<|ND M.1.F<|ih k
 have Wt:∀(n k:Nat),aS l.prog w K mg base (k+1+n) "_law_without" xN (kA n):=by
  intro n
  induction n with
  | zero=>intro k;exact Fy.c B<|pE B.1.F (Fy.c B BZ) b
  | succ n ih=>intro k;exact Fy.c B<|pE B.1.F (ih k) b
 have Nw:∀k:Nat,aS l.prog w K mg base (k+6) _ _ LF:=λk=>Fy.c a9<|tZ a9.1.F (Mk 4 k) T z7;have Ra:∀k:Nat,aS l.prog w K mg base (k+8) _ _ JY:=λk=>Fy.c a6<|qV a6.1.F (Nw<|k+1) (Lo 4 k) b;have Le:∀k:Nat,aS l.prog w K mg base (k+6) _ _ HG:=λk=>Fy.c aq<|XW aq.1.F (Wt 4 k) b;have Ch:∀k:Nat,aS l.prog w K mg base (k+3) _ _ LN:=λk=>Fy.c as<|vN as.1.F (e<|k+1) (j k) o b;exact uG (Y:=Y) (PN (st:=iI) ll c kk) (Hn 63) (Pr 47) (Le 58) (Ch 61) (j 62) (Sm 3 60) (PL 53) (Ra 56) i o bk a5
def LJ{l:PySem.W.OpenLaw}{q:Program}{r:List Str}{A:(Str->Option Value)->Heap->Prop}{b:World->Heap->Prop}{d:DefRec}{K:Params->Fq}(m:l.most=some 63)(o:d.params.defaults=[])
  (j:∀(w:World)(h:Heap),b w h->(K w.params).In h)
  (F:∀(w:World)(mg:Str->Option Value)(e:Addr)(h:Heap),(K w.params).In h->h.Ns mainGlobals mg->mg d.name=some (.ref e)-> ∃fd:FuncData,(∀(s:Shared)(u:Value),BindsTo s fd ⟨[u],[]⟩ [("_law_script",u)])/\∀base:Heap,(K w.params).In base->base.Ns mainGlobals mg->aR l.prog w (K w.params) mg base bQ 65 e fd ["_law_script"] (FT<|K w.params)):
  PySem.W.WalkO q r A b l.row.toRowW d [] (λf vs=>PySem.call f vs):=
 L2.YL (n:=63) (k:=65) (x:="_law_script") (CX:=λ_=>bQ) (sp:=λw=>FT<|K w.params) m (by decide) o ⟨rfl,by decide,by decide⟩ j F (λ_ _ a B hl _ i=>⟨a,B,rfl,i,hl,λ_=>rfl⟩) λ_ _ _ _ _ z=>z
end Gn
namespace PySem.W.Fast
def tw5763232699236215662:=0
def tw12538639092564747529:=0
def tw15993723769601409043:=0
def tw3738222656717355589:=0
def tw4904511516256058597:=0
def tw18213509967801156694:=0
def tw2440087220587387863:=0
def tw2312386702218571761:=0
def tw13582542066611733058:=0
def tw17323861996691797871:=0
def tw14151561395031262692:=0
def tw16800916256703624457:=0
def tw12074022962095166194:=0
def tw2142269641641932000:=0
def tw13359795214650261376:=0
def tw5695221782001484225:=0
def tw16104725189465737135:=0
def tw7233297011810338351:=0
def tw3802554277602371192:=0
def tw13460880631774934095:=0
def tw10471229007595208026:=0
def tw7210980876348884868:=0
def tw3389851978054483840:=0
def tw279951588688924498:=0
def tw11092765771226775834:=0
def tw15166393796705702589:=0
def tw13746680197070480985:=0
def tw899343982914512116:=0
def tw7877272824370913521:=0
def tw9228331190143965710:=0
def tw9055981945977256823:=0
def tw3543446054790001707:=0
def tw2914027208271951299:=0
def tw3805152142533270915:=0
def tw1357454755981661923:=0
def tw8366646724161092770:=0
def tw16576766246024810037:=0
def tw10091502903052049196:=0
def tw5164349582141575882:=0
def tw1749000921568496670:=0
def tw2355736678560791812:=0
def tw12529039991081275289:=0
def tw16636603909336295392:=0
def tw9290964310977918199:=0
def tw7807042376167115671:=0
def tw3726052988415058222:=0
def tw253278226577361064:=0
def tw9652926268164885344:=0
def tw2895598372605087134:=0
def tw13583618194501849223:=0
def tw954695527722404774:=0
def tw7974251312439026568:=0
def tw1472728128030666444:=0
def tw5656605157816236853:=0
def tw16891392817480352475:=0
def tw3342002149906976300:=0
def tw5286490696478860764:=0
def tw7252898904575916470:=0
def tw10357490681007411571:=0
def tw4888949157418350952:=0
def tw12273920040428170822:=0
def tw3095655546737124151:=0
def tw9233239417454098035:=0
def tw3747289767398447829:=0
def tw17954590040826140787:=0
def tw13801185310777138316:=0
def tw11336270641071221187:=0
def tw3739102123181530421:=0
def tw4522924084519786218:=0
def tw17097805319504727899:=0
def tw12231764926843388449:=0
def tw5980076998109513563:=0
def tw688595058123378299:=0
def tw3339171572717803379:=0
def tw6268017781327775562:=0
def tw8918806555662709981:=0
def tw9069636681857067385:=0
def tw4546067159386791670:=0
def tw16210169587350872229:=0
def tw4275308552397153401:=0
def tw11978505529349541769:=0
def tw7141190712036755928:=0
def tw2451570066596204648:=0
def tw2490040706209607694:=0
def tw9661328730203527052:=0
def tw15509750303903348634:=0
def tw14895512347490086056:=0
def tw5659397683234978541:=0
def tw16897444198161870546:=0
def tw2980436203499042211:=0
def tw11493810455091782834:=0
def tw13648437872528398877:=0
def tw12405906557378803056:=0
def tw14998923522966716328:=0
def tw11085143137968400982:=0
def tw5309514036664404050:=0
def tw16164588855596569831:=0
def tw1240171822377373603:=0
def tw9351461977145267412:=0
def tw1040186047373212494:=0
def tw7782211379926129377:=0
def tw9094597386537938586:=0
def tw10104290208602414595:=0
def tw10748878425873577166:=0
def tw2253005179385167154:=0
def tw13042923439957099878:=0
def tw12797244265967276224:=0
def tw13146915192683213649:=0
def tw1009884351531125577:=0
def tw14833893501849928250:=0
def tw12824130193737937479:=0
def tw203668004235649053:=0
def tw10985437478000735265:=0
def tw18173429031178393276:=0
def tw5550786752987694644:=0
def tw8265559981826968887:=0
def tw6704484047363421220:=0
def tw13843109694120959674:=0
def tw1796696257512565081:=0
def tw4782049899282053359:=0
end PySem.W.Fast
open PySem PySem.W PyProof.Rows
set_option maxRecDepth 100000 in
set_option maxHeartbeats 0 in
theorem PySem.Challenge.cw_surecall_k07_choices_holds : PySem.Challenge.rw_surecall_k07_choices.Holds := by
 w_on;o_law;k_head;(case hw=>w_witness2)
 k_fill
 refine Gn.LJ (l:=PySem.Challenge.rw_surecall_k07_choices) rfl rfl (fun w h Y=>PySem.W.kIn_of Y) ?F
 case F=>
  intro w mg fa h KX G a0;refine' Gn.uB KX G a0 ⟨?a1,?l1,?c1,?k1⟩ ⟨?a2,?l2,?c2,?k2⟩ ⟨?a3,?l3,?c3,?k3⟩ ⟨?a4,?l4,?c4,?k4⟩ ⟨?a5,?l5,?c5,?k5⟩ ⟨?a6,?l6,?c6,?k6⟩ ⟨?a7,?l7,?c7,?k7⟩ ⟨?a8,?l8,?c8,?k8⟩ ⟨?a9,?l9,?c9,?k9⟩ ⟨?a10,?l10,?c10,?k10⟩ ⟨?a11,?l11,?c11,?k11⟩ ⟨?a12,?l12,?c12,?k12⟩ ⟨?a13,?l13,?c13,?k13⟩ ⟨?a14,?l14,?c14,?k14⟩ ⟨?a15,?l15,?c15,?k15⟩ ⟨?a16,?l16,?c16,?k16⟩ ⟨?a17,?l17,?c17,?k17⟩ ⟨?a18,?l18,?c18,?k18⟩ ⟨?a19,?l19,?c19,?k19⟩ ⟨?a20,?l20,?c20,?k20⟩ ⟨?a21,?l21,?c21,?k21⟩ ⟨?a22,?l22,?c22,?k22⟩ ⟨?a23,?l23,?c23,?k23⟩ ⟨?a24,?l24,?c24,?k24⟩ ⟨?a25,?l25,?c25,?k25⟩ ⟨?a26,?l26,?c26,?k26⟩ ⟨?a27,?l27,?c27,?k27⟩ ⟨?a28,?l28,?c28,?k28⟩ ⟨?a29,?l29,?c29,?k29⟩ ⟨?a30,?l30,?c30,?k30⟩ ⟨?a31,?l31,?c31,?k31⟩ ⟨?a32,?l32,?c32,?k32⟩ ⟨?a33,?l33,?c33,?k33⟩ ⟨?a34,?l34,?c34,?k34⟩ ⟨?a35,?l35,?c35,?k35⟩ ⟨?a36,?l36,?c36,?k36⟩ ⟨?a37,?l37,?c37,?k37⟩ ⟨?a38,?l38,?c38,?k38⟩ ⟨?a39,?l39,?c39,?k39⟩ ⟨?a40,?l40,?c40,?k40⟩ ⟨?a41,?l41,?c41,?k41⟩ ⟨?a42,?l42,?c42,?k42⟩ ⟨?lq1,?cq1,?kq1⟩ ⟨?lq2,?cq2,?kq2⟩ ⟨?lq3,?cq3,?kq3⟩ ⟨?lq4,?cq4,?kq4⟩ ⟨?lq5,?cq5,?kq5⟩ ⟨?lq6,?cq6,?kq6⟩ ⟨?lq7,?cq7,?kq7⟩ ⟨?lq8,?cq8,?kq8⟩ ⟨?ca1,⟨?cb1,?cc1,?cd1,?ce1⟩,?cf1,⟨?cg1,?ch1,?ci1,?cj1⟩,?ck1,?cl1,?cm1⟩ ⟨?ca2,⟨?cb2,?cc2,?cd2,?ce2⟩,?cf2,⟨?cg2,?ch2,?ci2,?cj2⟩,?ck2,?cl2,?cm2⟩ ⟨?ca3,⟨?cb3,?cc3,?cd3,?ce3⟩,?cf3,⟨?cg3,?ch3,?ci3,?cj3⟩,?ck3,?cl3,?cm3⟩ ?nd1 ?nd2 ?aM ?lM ?aH ?lH ?aB ?aT ?aD ?lD ?z
  (case a1 | l1 | c1 | k1=>k_is)
  (case a2 | l2 | c2 | k2=>k_is)
  (case a3 | l3 | c3 | k3=>k_is)
  (case a4 | l4 | c4 | k4=>k_is)
  (case a5 | l5 | c5 | k5=>k_is)
  (case a6 | l6 | c6 | k6=>k_is)
  (case a7 | l7 | c7 | k7=>k_is)
  (case a8 | l8 | c8 | k8=>k_is)
  (case a9 | l9 | c9 | k9=>k_is)
  (case a10 | l10 | c10 | k10=>k_is)
  (case a11 | l11 | c11 | k11=>k_is)
  (case a12 | l12 | c12 | k12=>k_is)
  (case a13 | l13 | c13 | k13=>k_is)
  (case a14 | l14 | c14 | k14=>k_is)
  (case a15 | l15 | c15 | k15=>k_is)
  (case a16 | l16 | c16 | k16=>k_is)
  (case a17 | l17 | c17 | k17=>k_is)
  (case a18 | l18 | c18 | k18=>k_is)
  (case a19 | l19 | c19 | k19=>k_is)
  (case a20 | l20 | c20 | k20=>k_is)
  (case a21 | l21 | c21 | k21=>k_is)
  (case a22 | l22 | c22 | k22=>k_is)
  (case a23 | l23 | c23 | k23=>k_is)
  (case a24 | l24 | c24 | k24=>k_is)
  (case a25 | l25 | c25 | k25=>k_is)
  (case a26 | l26 | c26 | k26=>k_is)
  (case a27 | l27 | c27 | k27=>k_is)
  (case a28 | l28 | c28 | k28=>k_is)
  (case a29 | l29 | c29 | k29=>k_is)
  (case a30 | l30 | c30 | k30=>k_is)
  (case a31 | l31 | c31 | k31=>k_is)
  (case a32 | l32 | c32 | k32=>k_is)
  (case a33 | l33 | c33 | k33=>k_is)
  (case a34 | l34 | c34 | k34=>k_is)
  (case a35 | l35 | c35 | k35=>k_is)
  (case a36 | l36 | c36 | k36=>k_is)
  (case a37 | l37 | c37 | k37=>k_is)
  (case a38 | l38 | c38 | k38=>k_is)
  (case a39 | l39 | c39 | k39=>k_is)
  (case a40 | l40 | c40 | k40=>k_is)
  (case a41 | l41 | c41 | k41=>k_is)
  (case a42 | l42 | c42 | k42=>k_is)
  (case aD=>k_is);(case lD=>k_is)
  (case lq1=>k_is);(case cq1=>k_is);(case kq1=>k_is)
  (case lq2=>k_is);(case cq2=>k_is);(case kq2=>k_is)
  (case lq3=>k_is);(case cq3=>k_is);(case kq3=>k_is)
  (case lq4=>k_is);(case cq4=>k_is);(case kq4=>k_is)
  (case lq5=>k_is);(case cq5=>k_is);(case kq5=>k_is)
  (case lq6=>k_is);(case cq6=>k_is);(case kq6=>k_is)
  (case lq7=>k_is);(case cq7=>k_is);(case kq7=>k_is)
  (case lq8=>k_is);(case cq8=>k_is);(case kq8=>k_is)
  (case ca1=>k_is);(case cb1=>k_is);(case cc1=>k_is);(case cd1=>k_is);(case ce1=>k_is);(case ch1=>k_is);(case cg1=>k_is);(case ci1=>k_is);(case cj1=>k_is);(case ck1=>k_is);(case cl1=>k_is);(case cm1=>k_is)
  (case cf1=>simp only[BY];refine⟨?_,?_,fun _ h=>nomatch h⟩ <;> k_is)
  (case ca2=>k_is);(case cb2=>k_is);(case cc2=>k_is);(case cd2=>k_is);(case ce2=>k_is);(case ch2=>k_is);(case cg2=>k_is);(case ci2=>k_is);(case cj2=>k_is);(case ck2=>k_is);(case cl2=>k_is);(case cm2=>k_is)
  (case cf2=>simp only[BY];refine⟨?_,?_,?_,?_,fun _ h=>nomatch h⟩ <;> k_is)
  (case ca3=>k_is);(case cb3=>k_is);(case cc3=>k_is);(case cd3=>k_is);(case ce3=>k_is);(case ch3=>k_is);(case cg3=>k_is);(case ci3=>k_is);(case cj3=>k_is);(case ck3=>k_is);(case cl3=>k_is);(case cm3=>k_is)
  (case cf3=>simp only[BY];refine⟨?_,?_,?_,?_,?_,?_,?_,?_,?_,?_,?_,?_,fun _ h=>nomatch h⟩ <;> k_is)
  (case aM | lM | aH | lH=>k_is);(case aB=>k_is);(case aT=>k_is)
  (case nd1=>decide);(case nd2=>decide)
  (case z=>simp only[BY];refine⟨?_,?_,?_,?_,?_,?_,?_,?_,?_,?_,?_,?_,?_,?_,?_,?_,?_,?_,fun _ h=>nomatch h⟩ <;> k_is)
#print axioms PySem.Challenge.cw_surecall_k07_choices_holds
end
