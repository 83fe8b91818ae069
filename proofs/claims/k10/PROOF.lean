import PyProof.Rows.All
import Wide.All
import OpenK.AllK
import Wide.FinOn
import Lean
import PyProof.EqAt
import PyProof.EqKinds
import PyProof.TupleCall
import PySem.Challenge.RW_glidequeue_k10_refusals_of_one_class
set_option Elab.async false
set_option linter.all false
set_option compiler.extract_closed false
set_option maxRecDepth 100000
def PySem.p9(x:Lean.Syntax):Lean.Command:=⟨x.rewriteBottomUp (·.setInfo .none)⟩
noncomputable section
local macro_rules|`(command|def $i:declId $s $v:declVal)=>return PySem.p9 (<-`(command|noncomputable def $i:declId $s $v:declVal))
local macro_rules|`(command|abbrev $i:declId $s $v:declVal)=>return PySem.p9 (<-`(command|noncomputable abbrev $i:declId $s $v:declVal))
local macro_rules|`(tactic|trivial)=>`(tactic|first|exact Or.inl rfl|exact Or.inr rfl|exact Or.inr (Or.inl rfl)|exact Or.inr (Or.inr rfl)|assumption|exact fun _=>rfl|exact fun _ _=>rfl)
theorem r8_(h:True:=by rfl):True:=h
theorem q8_(h:True:=by decide):True:=h
theorem d8_(h:True:=by first|exact .inl rfl|exact .inr rfl|assumption):True:=h
theorem f8_(h:True:=by trivial):True:=h
theorem v8_(h:True:=by with_unfolding_all rfl):True:=h
theorem k8_(h:True:=by first|exact Or.inl rfl|exact Or.inr rfl):True:=h
abbrev bc:=PySem.Str->Option PySem.Value
theorem az{p:Prop}(h:autoParam (p) q8_._auto_1):p:=h
theorem aM{p:Prop}(h:p:=by decide+kernel):p:=h
theorem aw {p:Prop} (h:p:=by lia):p:=h
theorem bK{p:Prop}(h:p:=by omega):p:=h
theorem Z {α : Sort _} {a : α}:a=a:=rfl
abbrev aa:=PySem.W.Frag
abbrev ae:=PySem.Shared
abbrev af:=PySem.Program
abbrev ah:=PySem.PyData
abbrev ai:=PySem.Around
abbrev aB:=@PySem.wpAny_bind
abbrev bf:=@if_neg
abbrev bo:=@if_pos
abbrev bA:=@Nat.le_refl
abbrev bB:=@PySem.wpAny_pure
abbrev bL:=@PySem.Heap.get?_push_of_some
abbrev bP:=@PySem.Heap.lt_size
abbrev bR:=@List.length_map
abbrev bZ:=@List.mem_cons
abbrev cu:=@decide_eq_true
abbrev cH:=@List.getElem?_eq_getElem
abbrev cI:=@Bool.false_ne_true
abbrev cP:=@beq_iff_eq
abbrev cX:=@decide_eq_false
abbrev cY:=@List.size_toArray
abbrev cZ:=@List.getElem?_map
abbrev d6:=@Bool.and_eq_true
abbrev dh:=@Nat.ne_of_lt
abbrev dw:=@PySem.Heap.get?_push_size
abbrev dU:=@PySem.intBits_le_64
abbrev dW:=@Option.some.inj
abbrev dX:=@List.not_mem_nil
abbrev eg:=@List.mem_singleton
abbrev eU:=@List.getElem?_eq_some_iff
abbrev fg:=@Rat.le_trans
abbrev fh:=@Nat.zero_le
abbrev fi:=@List.length_append
abbrev fA:=@Nat.le_trans
abbrev fC:=@List.length_cons
abbrev fF:=@Nat.lt_of_lt_of_le
abbrev fG:=@List.all_eq_true
abbrev fT:=@PySem.wpAny_field
abbrev fU:=@Int.pow_succ
abbrev fV:=@Bool.false_and
abbrev gr:=@PySem.wpAny_mono
abbrev gs:=@or_false
abbrev gu:=@List.mem_map
abbrev gJ:=@PySem.wpAny_holding
abbrev gK:=@PySem.F.excBase_ValueError
abbrev gL:=@List.mem_append_right
abbrev gM:=@Int.natAbs_mul
abbrev gO:=@Int.le_refl
abbrev hJ:=@List.mem_of_getElem?
abbrev iG:=@PySem.PassesOwn.never
abbrev iH:=@Bool.true_and
abbrev iU:=@Ne.symm
abbrev iV:=@List.mem_filterMap
abbrev iW:=@List.lookup_cons
abbrev iX:=@Bool.eq_iff_iff
abbrev jk:=@List.append_nil
abbrev jA:=@PyProof.Rows.boot_tuple
abbrev jB:=@Int.mul_pos
abbrev jX:=@PySem.wpAny_newObj_type
abbrev jY:=@PySem.W.Looks.here
abbrev jZ:=@PyProof.Rows.boot_isinstance
abbrev lG:=@PySem.call_meets
abbrev lH:=@List.map_append
abbrev lI:=@Int.mul_nonneg
abbrev mI:=@PySem.wpAny_truthy_bool
abbrev mJ:=@PySem.wpAny_standAt
abbrev mK:=@of_decide_eq_true
abbrev mL:=@List.replicate_succ
abbrev mM:=@PySem.IntMulOk.of_bits
abbrev mO:=@Int.pow_zero
abbrev mQ:=@Int.one_mul
abbrev mR:=@PySem.Heap.size_push
abbrev oa:=@congrArg
abbrev pO:=@PySem.wpAny_call
abbrev pP:=@Nat.lt_irrefl
abbrev rn:=@PySem.wpAny_seqItems
abbrev rA:=@PySem.wpAny_loadPart_at
abbrev rC:=@if_true
abbrev rE:=@decide_eq_true_iff
abbrev rF:=@PySem.codeAny_mono
abbrev rH:=@Rat.num_divInt_den
abbrev rJ:=@PySem.W.mg_of
abbrev rK:=@Nat.mul_le_mul
abbrev rL:=@List.length_take
abbrev ua:=@PySem.wpAny_passesOwn
abbrev ub:=@PySem.wpAny_of_eq
abbrev uc:=@PySem.wpAny_call_entry
abbrev ud:=@PySem.wpAny_callSpecial?_slot
abbrev uf:=@PySem.typeIs_int
abbrev ug:=@PySem.sizeLine_eq
abbrev uh:=@Rat.le_refl
abbrev ui:=@Rat.divInt_nonneg_iff_of_pos_right
abbrev uj:=@PySem.W.hideAll_get
abbrev uk:=@PyProof.Rows.callWith_type1
abbrev uo:=@Nat.pow_le_pow_right
abbrev uq:=@Nat.le_succ
abbrev ur:=@List.take_succ
abbrev uu:=@List.of_mem_zip
abbrev uv:=@List.mem_cons_of_mem
abbrev uw:=@List.map_cons
abbrev uy:=@List.getElem?_eq_none
abbrev uz:=@List.any_cons
abbrev uA:=@Int.emod_nonneg
abbrev wU:=@PySem.wpAny_setField_rec
abbrev wV:=@PySem.wpAny_setField
abbrev wW:=@PySem.wpAny_rule
abbrev wX:=@PySem.wpAny_loadPart'
abbrev wY:=@PySem.wpAny_Call_Name_kw
abbrev wZ:=@beq_self_eq_true
abbrev x6:=@PyProof.Rows.slot_tuple_getitem
abbrev x8:=@PyProof.Rows.boot_all
abbrev x9:=@PyProof.Rows.boot_abs
abbrev xf:=@PySem.Obj.data_mapFields
abbrev xg:=@Nat.ne_of_gt
abbrev xh:=@Nat.lt_succ_of_lt
abbrev xi:=@List.take_length
abbrev xj:=@List.mem_of_mem_take
abbrev xk:=@List.mem_iff_getElem?
abbrev xn:=@List.mem_append
abbrev xo:=@List.length_drop
abbrev xp:=@List.getElem_range
abbrev xq:=@List.getElem?_zip_eq_some
abbrev xu:=@List.flatten_cons
abbrev xx:=@List.all_cons
abbrev xy:=@Int.mul_one
abbrev xA:=@Int.emod_lt_of_pos
abbrev xB:=@PySem.Heap.get?_update_self
abbrev xC:=@PySem.Heap.get?_update_other
abbrev xD:=@PySem.F.slot_int_rmul
abbrev Aa:=@PySem.wpAny_pyIter_list
abbrev Ab:=@PySem.wpAny_onRaise
abbrev Ac:=@PySem.wpAny_execs_nil
abbrev Ad:=@PySem.wpAny_attempt
abbrev Ae:=@decide_eq_true_eq
abbrev Af:=@beq_eq_false_iff_ne
abbrev Ag:=@PyProof.Rows.assignInOrder_cons
abbrev Ah:=@PySem.mem_of_lookup
abbrev Ai:=@PySem.W.looks_clsIn
abbrev Aj:=@PySem.W.callWith_K
abbrev Ak:=@PySem.W.any_some
abbrev Al:=@Nat.mul_comm
abbrev Am:=@List.take_of_length_le
abbrev An:=@List.length_replicate
abbrev Ao:=@List.length_range
abbrev Ap:=@List.getElem?_append_right
abbrev Aq:=@List.getElem?_append_left
abbrev As:=@Int.mul_le_mul
abbrev Au:=@Bool.eq_false_iff
abbrev Av:=@Bool.and_true
abbrev Aw:=@Bool.and_false
abbrev Ax:=@Array.length_toList
abbrev Gz:=@PySem.wpAny_pyIter_rangeiter
abbrev GB:=@PySem.wpAny_loadPart
abbrev GC:=@PySem.wpAny_isSubtype_exc
abbrev GF:=@PySem.codeAny_call_builtin
abbrev GG:=@Std.lt_of_le_of_ne
abbrev GH:=@Rat.le_antisymm
abbrev GI:=@PySem.W.cellsFrom_some
abbrev GJ:=@PySem.F.slot_zip_next
abbrev GK:=@PySem.F.slot_tuple_iterator_next
abbrev GL:=@PySem.PassesOwn.leaving
abbrev GN:=@PySem.Obj.isFreed_of_fields
abbrev GO:=@Nat.lt_of_le_of_lt
abbrev GP:=@Nat.le_of_lt
abbrev GQ:=@Nat.le_of_ble_eq_true
abbrev GR:=@List.nodup_cons
abbrev GS:=@List.mem_cons_self
abbrev GU:=@List.mem_append_left
abbrev GW:=@List.length_pos_iff
abbrev GX:=@List.length_eq_zero_iff
abbrev GY:=@List.getElem_mem
abbrev GZ:=@List.getElem?_set_self
abbrev Ha:=@List.getElem?_range
abbrev Hb:=@List.forIn_cons
abbrev Hc:=@Int.mul_ne_zero
abbrev Hd:=@Int.mul_comm
abbrev He:=@PySem.F.slot_tuple_mul
abbrev Hf:=@PySem.Calls.evalArgs_plain
abbrev Hg:=@Bool.not_eq_true'
abbrev Hh:=@Array.getElem?_eq_some_iff
abbrev P9:=@PySem.wpAny_updateSeq_pair
abbrev Pa:=@PySem.wpAny_newFunctionEnv_cells
abbrev Pb:=@PySem.wpAny_newFunctionEnv
abbrev Pc:=@PySem.wpAny_comprehension_free
abbrev Pe:=@PySem.wpAny_binaryOp_repeat_ref
abbrev Pf:=@PySem.plainObj_wpAny_Assign_Attribute
abbrev Pg:=@ne_true_of_eq_false
abbrev Ph:=@PySem.codeAny_compStart_list
abbrev Pj:=@PySem.codeAny_call_function
abbrev Pk:=@Rat.intCast_lt_intCast
abbrev Pl:=@Rat.divInt_sub_divInt
abbrev Pm:=@Rat.divInt_mul_divInt
abbrev Po:=@PySem.Within.cons
abbrev Pp:=@PySem.W.set_plain
abbrev Pq:=@PySem.W.plainGet_of
abbrev Pr:=@PySem.W.of_hideAll
abbrev Pt:=@PySem.W.looks_findIn
abbrev Pu:=@PySem.W.hideAll_none
abbrev Pw:=@PySem.W.codeRec_of
abbrev Px:=@PySem.F.slot_tuple_add
abbrev Py:=@PySem.F.plainAttrs_str
abbrev PB:=@PySem.F.entry_tuple_add
abbrev PD:=@PySem.F.args_tuple_add_2
abbrev PF:=@PyProof.Rows.boot_str
abbrev PH:=@Option.map_eq_some_iff
abbrev PJ:=@Option.bind_eq_some_iff
abbrev PK:=@Nat.lt_succ_self
abbrev PL:=@List.getLast?_eq_some_getLast
abbrev PM:=@List.getElem?_set_ne
abbrev PN:=@List.getD_eq_getElem?_getD
abbrev PQ:=@List.foldl_append
abbrev PR:=@List.filterMap_cons
abbrev PU:=@List.ext_getElem?
abbrev PV:=@List.contains_cons
abbrev PX:=@Int.toNat_natCast
abbrev PY:=@Int.mul_nonneg_of_nonpos_of_nonpos
abbrev PZ:=@PySem.Heap.get?_push_cases
abbrev Q0:=@PySem.Heap.SameBut.update
abbrev Q3:=@PySem.F.slot_range_reversed
abbrev Q4:=@Bool.beq_eq_decide_eq
abbrev a7L:=@PySem.F.slot_range_iterator_next
abbrev a7M:=@PySem.F.entry_tuple_iterator_next
abbrev a7N:=@PySem.F.args_tuple_iterator_next_1
abbrev a7O:=@List.mk_mem_zipIdx_iff_getElem?
abbrev a7P:=@Int.mul_le_mul_of_nonneg_left
abbrev a7Q:=@Array.all_eq_true_iff_forall_mem
namespace _L
open PySem PySem.Spec PyProof.Rows
abbrev Key:=Sum Int Str
def Mi:Key->Value->Bool | .inl k,v=>Value.isInt k v | .inr x,v=>Value.isStrOf x v
def YS(w:World):Key->Int | .inl k=>hashInt k | .inr x=>hashStr w x
theorem nF:∀{k:Key}{v:Value},Mi k v=true->(∃i t,k=Sum.inl i/\v=Value.int i t)\/(∃x t,k=Sum.inr x/\v=Value.str x t) | .inl i,v,h=>by obtain⟨t,e⟩:=Value.isInt_shape (k:=i) (v:=v) h;exact .inl ⟨i,t,Z,e⟩ | .inr x,v,h=>by obtain⟨t,e⟩:=Value.isStrOf_shape (x:=x) (v:=v) h;exact .inr ⟨x,t,Z,e⟩
theorem YR(a b:Int):decide ((Sum.inl a:Key)=Sum.inl b)=(a==b):=by
 by_cases e:a=b
 ·subst e;simp
 ·have h:¬(Sum.inl a:Key)=Sum.inl b:=λq=>e (Sum.inl.inj q)
  rw[cX h];exact(Af.mpr e).symm
theorem YN(a b:Str):decide ((Sum.inr a:Key)=Sum.inr b)=decide (a=b):=by
 by_cases e:a=b
 ·subst e;simp
 ·have h:¬(Sum.inr a:Key)=Sum.inr b:=λq=>e (Sum.inr.inj q)
  rw[cX h,cX e]
theorem YQ(a:Int)(b:Str):decide ((Sum.inl a:Key)=Sum.inr b)=false:=cX (λq=>nomatch q)
theorem YO(a:Str)(b:Int):decide ((Sum.inr a:Key)=Sum.inl b)=false:=cX (λq=>nomatch q)
def DM(prog:af)(w:World):PySem.KeyKind prog w Key where
 is:=Mi
 hash:=YS w
 inj:=λv a b ha hb=>by
  rcases nF ha with⟨i,t,rfl,rfl⟩|⟨x,t,rfl,rfl⟩
  ·rcases nF hb with⟨j,u,rfl,e⟩|⟨y,u,rfl,e⟩
   ·injection e with e1 _;rw[e1]
   ·exact nomatch e
  ·rcases nF hb with⟨j,u,rfl,e⟩|⟨y,u,rfl,e⟩
   ·exact nomatch e
   ·injection e with e1 _;rw[e1]
 byValue:=λk v h=>by rcases nF h with⟨i,t,rfl,rfl⟩|⟨x,t,rfl,rfl⟩<;>rfl
 pyHash:=λhv h=>by
  rcases nF hv with⟨i,t,rfl,rfl⟩|⟨x,t,rfl,rfl⟩
  ·exact wpAny_pyHash_int h
  ·exact wpAny_pyHash_str h
 eqBool:=λhu hv h=>by
  rcases nF hu with⟨i,t,rfl,rfl⟩|⟨x,t,rfl,rfl⟩
  ·rcases nF hv with⟨j,u,rfl,rfl⟩|⟨y,u,rfl,rfl⟩
   ·rw[YR]at h;exact wpAny_eqBool_int h
   ·rw[YQ]at h;exact SeqAt.EqAt.int_str i t y u _ _ _ _ h
  ·rcases nF hv with⟨j,u,rfl,rfl⟩|⟨y,u,rfl,rfl⟩
   ·rw[YO]at h;exact SeqAt.EqAt.str_int x t j u _ _ _ _ h
   ·rw[YN]at h;exact wpAny_eqBool_str h
 «strs»:=λk x t v h=>by
  rcases nF h with⟨i,u,rfl,e⟩|⟨y,u,rfl,e⟩
  ·exact nomatch e
  ·injection e with e1 _
   subst e1;cases v<;>rfl
inductive V where |aY|bl (b:Bool)|int (i:Int)|str (x:Str)|jg (b:Array UInt8)|zy (b:UInt64)|ref (a:Addr)|ty (n:String) deriving DecidableEq
def RelV:V->Value->Prop | .aY,u=>u=Value.none | .bl b,u=>u=Value.bool b | .int i,u=>∃t,u=Value.int i t | .str x,u=>∃t,u=Value.str x t | .jg b,u=>∃t,u=Value.bytes b t | .zy b,u=>∃t,u=Value.float b t | .ref a,u=>u=Value.ref a | .ty n,u=>u=Value.type n
abbrev Vals:List V->List Value->Prop:=Paired RelV
theorem Vals.length{xs:List V}{us:List Value}(r:Vals xs us):xs.length=us.length:=Paired.length r
theorem Vals.get:∀{xs:List V}{us:List Value}{i:Nat}{x:V},Vals xs us->xs[i]? =some x->∃u,us[i]? =some u/\RelV x u |_,_,_,_,.nil,e=>by simp at e |_,_,0,_,.cons r _,e=>by simp at e;subst e;exact⟨_,rfl,r⟩ |_,_,i+1,x,.cons _ t,e=>by obtain⟨u,h1,h2⟩:=Vals.get (i:=i) (x:=x) t (by simpa using e);exact⟨u,by simpa using h1,h2⟩
theorem Vals.set{x:V}{u:Value}(r:RelV x u):∀{xs:List V}{us:List Value}(i:Nat),Vals xs us->Vals (xs.set i x) (us.set i u) |_,_,_,.nil=>.nil |_,_,0,.cons _ t=>.cons r t |_,_,i+1,.cons q t=>.cons q (Vals.set r i t)
theorem Vals.append:∀{xs ys:List V}{us ws:List Value},Vals xs us->Vals ys ws->Vals (xs++ys) (us++ws) |_,_,_,_,.nil,s=>s |_,_,_,_,.cons r t,s=>.cons r (Vals.append t s)
theorem Vals.take:∀{xs:List V}{us:List Value}(n:Nat),Vals xs us->Vals (xs.take n) (us.take n) |_,_,0,_=>.nil |_,_,_+1,.nil=>.nil |_,_,n+1,.cons r t=>.cons r (Vals.take n t)
theorem Vals.drop:∀{xs:List V}{us:List Value}(n:Nat),Vals xs us->Vals (xs.drop n) (us.drop n) |_,_,0,r=>r |_,_,_+1,.nil=>.nil |_,_,n+1,.cons _ t=>Vals.drop n t
def mE:Option V->Option Value->Prop |some v,some u=>RelV v u |none,none=>True |_,_=>False
def KV{κ:Type}:List (κ×V)->List (κ×Value)->Prop:=Paired λ(p:κ×V)(q:κ×Value)=>p.1=q.1/\RelV p.2 q.2
def kV:Key->V | .inl i=>.int i | .inr x=>.str x
inductive HO where /--a list -/ |lst (xs:List V) /--a tuple (never changes) -/ |tup (xs:List V) /--a dict Qg keys are ints and texts; one Qg keys are tuples of ints and texts (rS empty one is both) -/ |dK (dj:List (Key×V))|dT (dj:List (List Key×V)) /--a set of ints: its members,its size -/ |set (S:Int->Bool)(n:Nat) /--an instance of rS class at C,its dict at dx,its attributes -/ |ins (C dx:Addr)(fs:List (Str×V)) /--rS dict of rS instance at x -/ |own (x:Addr) /--rS dict of an exception -/ |xd (fs:List (Str×V)) /--a bound method,f of x -/ |met (f x:Addr) /--a range object lo,lo+1,.. below hi -/ |qe (lo hi:Int) /--a QU a7T is known to rS object (rS a7Y; a dict while a loop walks it): read,never written while it is so -/ |kY (o:Obj)(u:HO) /--a code a86 table -/ |mU (ps:Array Value) /--any other QU,by what is true of its one object (a def of a85 own: a8R a S n:=HO.ext λh=>..) -/ |ext (φ:Heap->Prop)
abbrev Hp:=Addr->Option HO
def upd(H:Hp)(a:Addr)(o:HO):Hp:=λb=>if b=a then some o else H b
theorem bp{H:Hp}{a:Addr}{o:HO}:upd H a o a=some o:=by unfold upd;rw[bo rfl]
theorem aL{H:Hp}{a b:Addr}{o:HO}(h:b≠a):upd H a o b=H b:=by unfold upd;rw[bf h]
theorem DF{H:Hp}{a b:Addr}{o u:HO}(h:H a=some o)(h':H b=some u)(d:o≠u):a≠b:=by intro e;subst e;rw[h]at h';exact d (dW h')
theorem eH{H:Hp}{a b:Addr}{o:HO}(h:H a=some o)(h':H b=none):a≠b:=by intro e;subst e;rw[h]at h';cases h'
section
variable (P:af) (w:World)
def eQ(H:Hp)(h:Heap)(a:Addr):HO->Prop | .lst xs=>xs.length<=sizeLine/\∃(its:List Value)(n:Nat),Vals xs its/\h.get? a=some {cls:=.type "list",data:=.seq its.toArray n} | .tup xs=>xs.length<=sizeLine/\∃its:List Value,Vals xs its/\IsTup h a its.toArray | .dK dj=>dj.length<=sizeLine/\(a==sysModules)=false/\∃vs,KV dj vs/\h.DictOf (DM P w) a vs | .dT dj=>dj.length<=sizeLine/\(a==sysModules)=false/\∃xs:List (List Key×Addr×Value),Paired (λ(p:List Key×V)(q:List Key×Addr×Value)=>p.1=q.1/\H q.2.1=some (.tup (p.1.map kV))/\RelV p.2 q.2.2) dj xs/\∃o es ep,h.get? a=some o/\o.ExactDict/\o.data= .dict es ep/\es.toList=xs.map (entryOfKey (tupleKind (DM P w)))/\(xs.map (·.1)).Nodup | .set S n=>h.SetOf (intKind P w) a S n | .ins C dx fs=>H dx=some (.own a)/\fs.length<=1000/\dx≠a/\h.get? a=some (PySem.W.instObj C dx)/\∃mA,h.Ns1 dx mA/\(∀f,mE (fs.lookup f) (mA f))/\PySem.Within mA (fs.map (·.1)) | .own _=>∃o,h.get? a=some o | .xd fs=>∃mA,h.Ns1 a mA/\∀f,mE (fs.lookup f) (mA f) | .qe lo hi=>∃t u v,h.get? a=some {cls:=.type "range",data:=.fields #[.int lo t,.int hi u,.int 1 v]} | .kY o u=>h.get? a=some o/\eQ H h a u | .mU ps=>h.get? a=some {cls:=.none,data:=.fields ps} | .met f x=>h.get? a=some (PySem.W.methodObj (.ref f) (.ref x)) | .ext φ=>φ h/\(∃o,h.get? a=some o)/\∀h1 h2:Heap,φ h1->(∀o,h1.get? a=some o->h2.get? a=some o)->φ h2
def dv(H:Hp)(h:Heap):Prop:=∀a o,H a=some o->eQ P w H h a o
end
section
variable {P:af}{w:World}{H H':Hp}{h h':Heap}{a:Addr}{o:HO}
theorem eQ.lt(x:eQ P w H h a o):a<h.objs.size:=by cases o with |lst xs=>obtain⟨_,_,_,_,e⟩:=x;exact bP e |tup xs=>obtain⟨_,_,_,p⟩:=x;exact p.lt |dK dj=>obtain⟨_,_,_,_,o,_,_,e,_⟩:=x;exact bP e |dT dj=>obtain⟨_,_,_,_,o,_,_,e,_⟩:=x;exact bP e |set S n=>obtain⟨o,_,_,_,e,_⟩:=x;exact bP e |ins C dx fs=>obtain⟨_,_,_,e,_⟩:=x;exact bP e |own y=>obtain⟨_,e⟩:=x;exact bP e |xd fs=>obtain⟨_,⟨_,_,_,e,_⟩,_⟩:=x;exact bP e |qe lo hi=>obtain⟨_,_,_,e⟩:=x;exact bP e |kY ob u=>obtain⟨e,_⟩:=x;exact bP e |mU ps=>exact bP (show h.get? a=some _ from x) |met f y=>exact bP (show h.get? a=some _ from x) |ext φ=>obtain⟨_,⟨_,e⟩,_⟩:=x;exact bP e
theorem Paired.LR{α β:Type}{F G:α->β->Prop}:∀{l₁:List α}{l₂:List β},Paired F l₁ l₂->(∀a b,F a b->G a b)->Paired G l₁ l₂ |_,_,.nil,_=>.nil |_,_,.cons r t,f=>.cons (f _ _ r) (Paired.LR t f)
theorem eQ.jE(x:eQ P w H h a o)(k:∀b u,(b=a\/H b=some (.own a))->h.get? b=some u->h'.get? b=some u) (ho:∀b,H b=some (.own a)->H' b=some (.own a))(ht:∀b xs,H b=some (.tup xs)->H' b=some (.tup xs)):eQ P w H' h' a o:=by induction o with |lst xs=>obtain⟨z,its,n,r,e⟩:=x;exact⟨z,its,n,r,k _ _ (.inl Z) e⟩ |tup xs=>obtain⟨z,its,r,ob,e,c⟩:=x;exact⟨z,its,r,ob,k _ _ (.inl Z) e,c⟩ |dK dj=>obtain⟨z,y,vs,r,ob,es,ep,e,c⟩:=x;exact⟨z,y,vs,r,ob,es,ep,k _ _ (.inl Z) e,c⟩ |dT dj=>obtain⟨z,y,xs,r,ob,es,ep,e,c⟩:=x;exact⟨z,y,xs,Paired.LR r λp q z=>⟨z.1,ht _ _ z.2.1,z.2.2⟩,ob,es,ep,k _ _ (.inl Z) e,c⟩ |set S n=>obtain⟨ob,es,ep,t,e,c⟩:=x;exact⟨ob,es,ep,t,k _ _ (.inl Z) e,c⟩ |ins C dx fs=>obtain⟨d,z,ne,e,mA,⟨od,es,ep,e2,c⟩,r⟩:=x;exact⟨ho _ d,z,ne,k _ _ (.inl Z) e,mA,⟨od,es,ep,k _ _ (.inr d) e2,c⟩,r⟩ |own y=>obtain⟨ob,e⟩:=x;exact⟨ob,k _ _ (.inl Z) e⟩ |xd fs=>obtain⟨mA,⟨od,es,ep,e,c⟩,r⟩:=x;exact⟨mA,⟨od,es,ep,k _ _ (.inl Z) e,c⟩,r⟩ |qe lo hi=>obtain⟨t,u,v,e⟩:=x;exact⟨t,u,v,k _ _ (.inl Z) e⟩ |kY ob u ih=>obtain⟨e,q⟩:=x;exact⟨k _ _ (.inl Z) e,ih q⟩ |mU ps=>have e:h.get? a=some {cls:=.none,data:=.fields ps}:=x;show h'.get? a=some {cls:=.none,data:=.fields ps};exact k a _ (.inl Z) e |met f y=>have e:h.get? a=some (PySem.W.methodObj (.ref f) (.ref y)):=x;show h'.get? a=some (PySem.W.methodObj (.ref f) (.ref y));exact k a _ (.inl Z) e |ext φ=>obtain⟨p,⟨o,e⟩,st⟩:=x;exact⟨st _ _ p λo q=>k _ _ (.inl Z) q,⟨o,k _ _ (.inl Z) e⟩,st⟩
theorem dv.lt(x:dv P w H h)(e:H a=some o):a<h.objs.size:=(x a o e).lt
theorem dv.fresh(x:dv P w H h)(e:h.objs.size<=a):H a=none:=by cases q:H a with |none=>rfl |some u=>exact absurd (fF (x.lt q) e) (pP _)
theorem dv.kept(x:dv P w H h)(k:∀b u,h.get? b=some u->h'.get? b=some u):dv P w H h':=λa o e=>(x a o e).jE (λb u _ q=>k b u q) (λ_ q=>q) λ_ _ q=>q
theorem dv.laid(x:dv P w H h)(k:∀b u,h.get? b=some u->h'.get? b=some u)(hp:h.objs.size<=a)(new:eQ P w (upd H a o) h' a o):dv P w (upd H a o) h':=λb u e=>by
 have hn:=x.fresh hp;by_cases hb:b=a
 ·subst hb;rw[bp]at e;cases e;exact new
 ·rw[aL hb]at e
  exact(x b u e).jE (λc v _ q=>k c v q) (λc q=>by rw[aL (eH q hn)];exact q) λc xs q=>by rw[aL (eH q hn)];exact q
end
def Rd(H:Hp)(a:Addr)(u:HO):Prop:=H a=some u\/∃o,H a=some (.kY o u)
theorem Rd.ok{P:af}{w:World}{H:Hp}{h:Heap}{a:Addr}{u:HO}(r:Rd H a u)(x:dv P w H h):eQ P w H h a u:=by
 rcases r with r|⟨o,r⟩
 ·exact x a u r
 ·obtain⟨_,q⟩:=x a _ r
  exact q
def A4:Option HO->Prop |some (.lst _)=>True |some (.dK _)=>True |some (.dT _)=>True |some (.set _ _)=>True |some (.ins _ _ _)=>True |some (.ext _)=>True |_=>False
section
variable {P:af}{w:World}{H:Hp}{h h':Heap}{x e:Addr}{o':HO}
theorem dv.write(ok:dv P w H h)(mu:A4 (H x))(he:e=x\/H e=some (.own x))(k:∀b u,b≠e->h.get? b=some u->h'.get? b=some u)(tI:∃u,h'.get? e=some u) (new:eQ P w (upd H x o') h' x o'):dv P w (upd H x o') h':=λb u q=>by
 have Ls:∀c y,H c=some (.own y)->c≠x:=λc y r z=>by subst z;rw[r]at mu;exact mu
 have WU:∀c xs,H c=some (.tup xs)->c≠x:=λc xs r z=>by subst z;rw[r]at mu;exact mu
 by_cases hb:b=x
 ·subst hb;rw[bp]at q;cases q;exact new
 ·rw[aL hb]at q
  by_cases qN:b=e
  ·have q':H b=some (.own x):=by
    rcases he with z|z
    ·exact absurd (qN.trans z) hb
    ·rw[qN];exact z
   rw[q]at q';cases q';obtain⟨v,hv⟩:=tI;exact⟨v,by rw[qN];exact hv⟩
  ·refine(ok b u q).jE (λc v hc r=>k c v ?_ r) (λc r=>by rw[aL (Ls c b r)];exact r) λc xs r=>by rw[aL (WU c xs r)];exact r
   rcases hc with rfl|hc
   ·exact qN
   ·rintro rfl
    rcases he with z|z
    ·exact Ls c b hc z
    ·rw[hc]at z;cases z;exact hb rfl
end
structure Un(fs ex:List Addr)(H H':Hp)(h h':Heap):Prop where
 keep:∀b o,h.get? b=some o->H b=none->b∉fs->b∉ex->h'.get? b=some o
 slot:∀b o,h.get? b=some o->H b=none->b∈fs->b∉ex->∃sl,h'.get? b=some {o with slots:=sl}
 free:∀b o,h.get? b=some o->H b=none->b∉ex->H' b=none
 there:∀b o,h.get? b=some o->b∉ex->∃o',h'.get? b=some o'
 hU:∀b xs,H b=some (.tup xs)->H' b=some (.tup xs)
 gY:∀b o u,H b=some (.kY o u)->H' b=some (.kY o u)
 hW:∀b ps,H b=some (.mU ps)->∃more,H' b=some (.mU (ps++more))
section
variable {fs ix ex iz:List Addr}{H H1 H2:Hp}{h h1 h2 h':Heap}{a x e:Addr}{o:HO}
theorem Un.any(u:Un fs ex H H1 h h1){b:Addr}{ob:Obj}(q:h.get? b=some ob)(n:H b=none)(hx:b∉ex):∃sl,h1.get? b=some {ob with slots:=sl}:=by
 by_cases hb:b∈fs
 ·exact u.slot b ob q n hb hx
 ·exact⟨ob.slots,u.keep b ob q n hb hx⟩
theorem Un.kept(k:∀b u,h.get? b=some u->h'.get? b=some u):Un fs ex H H h h':=⟨λb ob q _ _ _=>k b ob q,λb ob q _ _ _=>⟨ob.slots,k b ob q⟩,λ_ _ _ n _=>n,λb ob q _=>⟨ob,k b ob q⟩,λ_ _ q=>q,λ_ _ _ q=>q,λ_ ps q=>⟨#[],by rw[q];simp⟩⟩
theorem Un.refl:Un fs ex H H h h:=Un.kept λ_ _ q=>q
theorem Un.laid(k:∀b u,h.get? b=some u->h'.get? b=some u)(hp:h.objs.size<=a)(hn:H a=none):Un fs ex H (upd H a o) h h' where
 keep:=λb u q _ _ _=>k b u q
 slot:=λb u q _ _ _=>⟨u.slots,k b u q⟩
 free:=λb u q n _=>by rw[aL (dh (fF (bP q) hp))];exact n
 there:=λb u q _=>⟨u,k b u q⟩
 hU:=λb xs q=>by rw[aL (eH q hn)];exact q
 gY:=λb u xs q=>by rw[aL (eH q hn)];exact q
 hW:=λb ps q=>⟨#[],by rw[aL (eH q hn),q];simp⟩
theorem Un.write(mu:A4 (H x))(he:e=x\/H e=some (.own x))(k:∀b u,b≠e->h.get? b=some u->h'.get? b=some u)(tI:∃u,h'.get? e=some u):Un fs ex H (upd H x o) h h':=by
 have hx:∀b,H b=none->b≠x:=λb n z=>by subst z;rw[n]at mu;exact mu
 have hb:∀b,H b=none->b≠e:=λb n z=>by
  subst z;rcases he with r|r
  ·exact hx b n r
  ·rw[n]at r;cases r
 have hm:∀b u,H b=some u->¬A4 (some u)->b≠x:=λb u q nm z=>by subst z;rw[q]at mu;exact nm mu
 refine⟨λb u q n _ _=>k b u (hb b n) q,λb u q n _ _=>⟨u.slots,k b u (hb b n) q⟩,λb u q n _=>by rw[aL (hx b n)];exact n,λb u q _=>?_,λb xs q=>by rw[aL (hm b _ q λz=>z)];exact q,λb u xs q=>by rw[aL (hm b _ q λz=>z)];exact q,λb ps q=>⟨#[],by rw[aL (hm b _ q λz=>z),q];simp⟩⟩;by_cases qN:b=e
 ·subst qN;exact tI
 ·exact⟨u,k b u qN q⟩
end
def xP(h:Heap)(H:Hp):List Addr:=(List.range h.objs.size).filter λa=>(H a).isSome
def nL(h:Heap)(H:Hp):Heap:=PySem.W.hideAll h (xP h H)
theorem a0h(h:Heap)(H:Hp):(nL h H).objs.size=h.objs.size:=PySem.W.hideAll_size _ _
theorem a0i{h:Heap}{H:Hp}{b:Addr}{o:Obj}(e:h.get? b=some o)(n:H b=none):(nL h H).get? b=some o:=uj _ e λhm=>by have q:(H b).isSome=true:=(List.mem_filter.mp hm).2;rw[n]at q;simp at q
theorem WM{h:Heap}{H:Hp}{b:Addr}{o:Obj}(e:(nL h H).get? b=some o):h.get? b=some o/\H b=none:=by have e':h.get? b=some o:=Pr (xP h H) e;refine⟨e',?_⟩;cases q:H b with |none=>rfl |some x=>have hm:b∈xP h H:=List.mem_filter.mpr ⟨List.mem_range.mpr (bP e'),by simp[q]⟩;have z:(nL h H).get? b=none:=Pu (xP h H) hm;rw[z]at e;cases e
structure Mod(K:aa)(mg:bc)(au:Heap):Prop where
 jN:K.In au
 glob:au.Ns mainGlobals mg
 blt:∃mb,au.Ns builtinsNs mb/\∀x:Str,x≠"__name__"->mb x=bootBuiltins x
 nolimit:au.NoLimit
structure Cx where
 prog:af
 w:World
 K:aa
 mg:bc
 au:Heap
 A:ai
 N:List Str
 s₀:ae
 H₀:Hp
 env:Env
 outer:List Env
 stack:List Env
 ex:List Addr
 fn:Str->Bool
 calm:Bool
 pn:List (Addr×Obj)
 xe:Value->ae->Prop
def cS(l:List Env):List Addr:=l.filterMap (·.frame)
abbrev Cx.fs(X:Cx):List Addr:=cS X.outer
def Gj(sc:Scope)(x:Str):Prop:=sc.names.lookup x=some .local\/sc.names.lookup x=some .cell\/sc.names.lookup x=some .free
def Loc(sc:Scope)(x:Str):Prop:=sc.names.lookup x=some .local\/sc.names.lookup x=some .cell
def Look(env:Env)(h:Heap)(m:bc)(x:Str)(u:Value):Prop:=(env.kindOf x=some .local/\m x=some u)\/((env.kindOf x=some .cell\/env.kindOf x=some .free)/\∃c,env.cells.lookup x=some c/\h.IsCell c (some u))
structure Cx.Ok(X:Cx):Prop where
 mod:Mod X.K X.mg X.au
 kind:X.env.scope.kind= .function
 glob:X.env.globals=mainGlobals
 blt:X.env.builtins=builtinsNs
 above:X.s₀.heap.objs.size<=X.env.locals
 inj:∀x y c,X.env.cells.lookup x=some c->X.env.cells.lookup y=some c->x=y
 has:∀x,(X.env.kindOf x=some .cell\/X.env.kindOf x=some .free)->∃c,X.env.cells.lookup x=some c
 pG:∀x c,X.fn x=true->X.env.cells.lookup x=some c->X.s₀.heap.objs.size<=c
 hd:X.calm=true->X.A.handled=none
 frames:X.A.frames=some X.stack
 pX:X.stack=X.outer\/(X.stack=X.env::X.outer/\X.env.frame=some X.env.locals)
 wc:∀b∈X.ex,b≠X.env.locals/\∀x c,X.env.cells.lookup x=some c->c≠b
 bs:∀b o,X.au.get? b=some o->X.s₀.heap.get? b=some o/\X.H₀ b=none
 jw:X.au.objs.size<=X.s₀.heap.objs.size
 oJ:∀b o,X.au.get? b=some o->b∉X.ex
 mx:∀b∈X.ex,b∉X.fs
 iu:X.s₀.heap.FunFrames X.au X.outer
 kZ:∀b∈X.fs,X.H₀ b=none
structure Inv(X:Cx)(ak:List (Addr×Obj))(O:List (Option V))(H:Hp)(s:ae):Prop where
 ok:X.Ok
 os:s.os=X.s₀.os
 bare:AllBare s.gens
 au:Un X.fs X.ex X.H₀ H X.s₀.heap s.heap
 loc:∃m,s.heap.Ns X.env.locals m/\∀(i:Nat)(x:Str)(v:V),X.N[i]? =some x->O[i]? =some (some v)->Gj X.env.scope x->∃u,RelV v u/\Look X.env s.heap m x u
 cell:∀x c,X.env.cells.lookup x=some c->∃v,s.heap.IsCell c v
 free:H X.env.locals=none
 iQ:∀x c,X.env.cells.lookup x=some c->H c=none
 pin:∀p∈X.pn++ak,s.heap.get? p.1=some p.2/\H p.1=none/\p.1≠X.env.locals/\p.1∉X.fs/\∀v,p.2.data≠ .cell v
 aV:dv X.prog X.w H s.heap
 len:O.length=X.N.length
section
variable {X:Cx}{ak:List (Addr×Obj)}{O:List (Option V)}{H H':Hp}{s:ae}{h':Heap}
theorem Cx.Ok.X9(ok:X.Ok){b:Addr}{o:Obj}(e:X.au.get? b=some o):b∉X.fs:=λhb=>by have:=(ok.iu.mem hb).1;rw[e]at this;cases this
theorem Inv.bs(I:Inv X ak O H s):∀b o,X.au.get? b=some o->s.heap.get? b=some o/\H b=none:=λb o e=>⟨I.au.keep b o (I.ok.bs b o e).1 (I.ok.bs b o e).2 (I.ok.X9 e) (I.ok.oJ b o e),I.au.free b o (I.ok.bs b o e).1 (I.ok.bs b o e).2 (I.ok.oJ b o e)⟩
theorem Inv.bk(I:Inv X ak O H s):∀b o,X.au.get? b=some o->s.heap.get? b=some o:=λb o e=>(I.bs b o e).1
theorem Inv.mod(I:Inv X ak O H s):Mod X.K X.mg X.au:=I.ok.mod
theorem Inv.dH(I:Inv X ak O H s):X.K.In s.heap:=I.ok.mod.jN.keeps I.bk
theorem Inv.lt(I:Inv X ak O H s):X.env.locals<s.heap.objs.size:=let⟨_,hn,_⟩:=I.loc;hn.lt
theorem Inv.sz(I:Inv X ak O H s):X.s₀.heap.objs.size<=s.heap.objs.size:=fA I.ok.above (GP I.lt)
theorem Inv.X7(I:Inv X ak O H s){a:Addr}(h:s.heap.objs.size<=a):a∉X.fs:=λhb=>by obtain⟨_,o,ho,_⟩:=I.ok.iu.mem hb;exact absurd (fF (bP ho) (fA I.sz h)) (pP _)
theorem Inv.lj(I:Inv X ak O H s):∀x c,X.env.cells.lookup x=some c->c≠X.env.locals:=λx c e z=>by obtain⟨v,o,ho,hd⟩:=I.cell x c e;obtain⟨m,⟨o',es,ep,kL,EB,_⟩,_⟩:=I.loc;rw[z,kL]at ho;cases ho;rw[EB]at hd;cases hd
theorem Inv.iu(I:Inv X ak O H s):s.heap.FunFrames X.au X.outer:=by
 have all:∀(l:List Env),(∀b∈cS l,b∈X.fs)->X.s₀.heap.FunFrames X.au l->s.heap.FunFrames X.au l:=by intro l;induction l with |nil=>intro _ _;trivial |cons env r ih=>intro hs hl;obtain⟨hk,⟨L,o,hf,hn,ho,hd⟩,hr⟩:=hl;have hL:L∈X.fs:=hs L (by unfold cS;rw[PR,hf];exact GS);obtain⟨sl,e⟩:=I.au.slot L o ho (I.ok.kZ L hL) hL λz=>I.ok.mx L z hL;exact⟨hk,⟨L,_,hf,hn,e,hd⟩,ih (λb hb=>hs b (by unfold cS;rw[PR,hf];exact uv _ hb)) hr⟩
 exact all X.outer (λ_ hb=>hb) I.ok.iu
theorem Inv.stack(I:Inv X ak O H s):s.heap.FunFrames X.au X.stack:=by
 rcases I.ok.pX with e|⟨e,hf⟩
 ·rw[e];exact I.iu
 ·rw[e]
  obtain⟨m,hn,_⟩:=I.loc;refine .cons (by rw[I.ok.kind];decide) hf hn ?_ I.iu;exact Heap.get?_none_of_le (fA I.ok.jw I.ok.above)
theorem Inv.AJ(I:Inv X ak O H s):∀b∈cS X.stack,b∈X.env.locals::X.fs:=λb hb=>by
 rcases I.ok.pX with e|⟨e,hf⟩
 ·rw[e]at hb;exact uv _ hb
 ·rw[e]at hb
  unfold cS at hb;rw[PR,hf]at hb;exact hb
theorem Inv.rY(I:Inv X ak O H s):∀b∈cS X.stack,H b=none:=λb hb=>by
 rcases bZ.mp (I.AJ b hb)with e|hb
 ·rw[e];exact I.free
 ·obtain⟨_,o,ho,_⟩:=I.ok.iu.mem hb
  exact I.au.free b o ho (I.ok.kZ b hb) λz=>I.ok.mx b z hb
theorem Inv.step{g':Array GenState}{t':Nat}{d':Drawn}{ch:List Addr}(I:Inv X ak O H s) (mj:∀b∈ch,(b∈X.ex\/X.s₀.heap.objs.size<=b)/\b≠X.env.locals/\(∀x c,X.env.cells.lookup x=some c->c≠b)/\∀p∈X.pn++ak,p.1≠b) (keep:∀b o,b≠X.env.locals->b∉X.fs->b∉ch->s.heap.get? b=some o->H b=none->h'.get? b=some o) (slot:∀b o,b≠X.env.locals->b∈X.fs->b∉ch->s.heap.get? b=some o->H b=none->∃sl,h'.get? b=some {o with slots:=sl})(free:∀b o,b∉ch->s.heap.get? b=some o->H b=none->H' b=none) (there:∀b o,b∉ch->s.heap.get? b=some o->∃o',h'.get? b=some o') (hU:∀b xs,H b=some (.tup xs)->H' b=some (.tup xs))(gY:∀b o u,H b=some (.kY o u)->H' b=some (.kY o u))(hW:∀b ps,H b=some (.mU ps)->∃more,H' b=some (.mU (ps++more))) (ns:∀m,s.heap.Ns X.env.locals m->h'.Ns X.env.locals m)(aV:dv X.prog X.w H' h')(hg:AllBare g'): Inv X ak O H' {s with heap:=h',gens:=g',drawn:=d',toks:=t'}:=by
 have LC:∀b o,X.s₀.heap.get? b=some o->b≠X.env.locals:=λb o e=>dh (fF (bP e) I.ok.above);have yM:∀b o,X.s₀.heap.get? b=some o->b∉X.ex->b∉ch:=λb o e hx hb=>by
  rcases(mj b hb).1 with z|z
  ·exact hx z
  ·exact absurd (fF (bP e) z) (pP _)
 have cellK:∀x c,X.env.cells.lookup x=some c->∀v,s.heap.IsCell c v->h'.IsCell c v:=λx c e v ⟨o,ho,hd⟩=>by
  have vp:c∉ch:=λz=>(mj c z).2.2.1 x c e rfl;by_cases hc:c∈X.fs
  ·obtain⟨sl,q⟩:=slot c o (I.lj x c e) hc vp ho (I.iQ x c e)
   exact⟨_,q,hd⟩
  ·exact⟨o,keep c o (I.lj x c e) hc vp ho (I.iQ x c e),hd⟩
 refine⟨I.ok,I.os,hg,⟨λb o e n hb hx=>?_,λb o e n hb hx=>?_,λb o e n hx=>?_,λb o e hx=>?_,λb xs e=>hU b xs (I.au.hU b xs e),λb o xs e=>gY b o xs (I.au.gY b o xs e),λb ps e=>?_⟩,?_,λx c e=>?_,?_,λx c e=>?_,λp hp=>?_,aV,I.len⟩
 ·exact keep b o (LC b o e) hb (yM b o e hx) (I.au.keep b o e n hb hx) (I.au.free b o e n hx)
 ·obtain⟨sl,e1⟩:=I.au.slot b o e n hb hx
  obtain⟨B7,e2⟩:=slot b _ (LC b o e) hb (yM b o e hx) e1 (I.au.free b o e n hx);exact⟨B7,e2⟩
 ·obtain⟨o',e1⟩:=I.au.there b o e hx
  exact free b o' (yM b o e hx) e1 (I.au.free b o e n hx)
 ·obtain⟨o',e1⟩:=I.au.there b o e hx
  exact there b o' (yM b o e hx) e1
 ·obtain⟨m1,e1⟩:=I.au.hW b ps e
  obtain⟨m2,e2⟩:=hW b _ e1;exact⟨m1++m2,by rw[e2,Array.append_assoc]⟩
 ·obtain⟨m,hn,hl⟩:=I.loc
  refine⟨m,ns m hn,λi x v e1 e2 e3=>?_⟩;obtain⟨u,r,l⟩:=hl i x v e1 e2 e3;refine⟨u,r,?_⟩;rcases l with l|⟨k,c,e,z⟩
  ·exact .inl l
  ·exact .inr ⟨k,c,e,cellK x c e _ z⟩
 ·obtain⟨v,z⟩:=I.cell x c e
  exact⟨v,cellK x c e v z⟩
 ·obtain⟨m,⟨o,_,_,ho,_⟩,_⟩:=I.loc
  exact free _ o (λz=>(mj _ z).2.1 Z) ho I.free
 ·obtain⟨v,o,ho,hd⟩:=I.cell x c e
  exact free c o (λz=>(mj c z).2.2.1 x c e Z) ho (I.iQ x c e)
 ·obtain⟨e,n,ne,nf,d⟩:=I.pin p hp
  have vp:p.1∉ch:=λz=>(mj p.1 z).2.2.2 p hp rfl;exact⟨keep p.1 p.2 ne nf vp e n,free p.1 p.2 vp e n,ne,nf,d⟩
theorem Inv.un{t':Nat}(I:Inv X ak O H s)(u:Un X.fs [] H H' s.heap h')(aV:dv X.prog X.w H' h'):Inv X ak O H' {s with heap:=h',toks:=t'}:=by obtain⟨m,⟨o,es,ep,ho,r⟩,_⟩:=id I.loc;obtain⟨sl,hL⟩:=u.any ho I.free (by simp);exact I.step (g':=s.gens) (d':=s.drawn) (ch:=[]) (λ_ z=>nomatch z) (λb o _ hb _ e n=>u.keep b o e n hb (by simp)) (λb o _ hb _ e n=>u.slot b o e n hb (by simp)) (λb o _ e n=>u.free b o e n (by simp)) (λb o _ e=>u.there b o e (by simp)) u.hU u.gY u.hW (λm' hm=>by obtain⟨o',my,FD,kL,r'⟩:=hm;rw[ho]at kL;cases kL;exact⟨_,my,FD,hL,r'⟩) aV I.bare
theorem Inv.call{g':Array GenState}{t':Nat}{d':Drawn}{ch:List Addr}(I:Inv X ak O H s)(u:Un (cS X.stack) ch H H' s.heap h')(aV:dv X.prog X.w H' h')(hg:AllBare g') (mj:∀b∈ch,(b∈X.ex\/X.s₀.heap.objs.size<=b)/\b≠X.env.locals/\(∀x c,X.env.cells.lookup x=some c->c≠b)/\∀p∈X.pn++ak,p.1≠b): Inv X ak O H' {s with heap:=h',gens:=g',drawn:=d',toks:=t'}:=by obtain⟨m,⟨o,es,ep,ho,r⟩,_⟩:=id I.loc;obtain⟨sl,hL⟩:=u.any ho I.free λz=>(mj _ z).2.1 rfl;exact I.step (ch:=ch) mj (λb o hL hb hc e n=>u.keep b o e n (λz=>(bZ.mp (I.AJ b z)).elim hL hb) hc) (λb o _ _ hc e n=>u.any e n hc) (λb o hc e n=>u.free b o e n hc) (λb o hc e=>u.there b o e hc) u.hU u.gY u.hW (λm' hm=>by obtain⟨o',my,FD,kL,r'⟩:=hm;rw[ho]at kL;cases kL;exact⟨_,my,FD,hL,r'⟩) aV hg
theorem Inv.turned{t':Nat}{it:Addr}(I:Inv X ak O H s)(k:∀b o,b≠it->s.heap.get? b=some o->h'.get? b=some o)(hn:H it=none)(hL:it≠X.env.locals) (h1:it∈X.ex\/X.s₀.heap.objs.size<=it)(h2:∀x c,X.env.cells.lookup x=some c->c≠it)(h3:∀p∈X.pn++ak,p.1≠it):Inv X ak O H {s with heap:=h',toks:=t'}:=by
 have vo:∀b u,H b=some u->b≠it:=λb u e z=>by rw[z,hn]at e;cases e
 refine I.step (g':=s.gens) (d':=s.drawn) (ch:=[it]) (λb hb=>?_) (λb o _ _ hc e _=>k b o (λz=>hc (by simp[z])) e) (λb o _ _ hc e _=>⟨o.slots,k b o (λz=>hc (by simp[z])) e⟩) (λ_ _ _ _ n=>n) (λb o hc e=>⟨o,k b o (λz=>hc (by simp[z])) e⟩) (λ_ _ e=>e) (λ_ _ _ e=>e) (λb ps e=>⟨#[],by rw[e];simp⟩) (λm hm=>?_) (λb u e=>?_) I.bare
 ·have e:b=it:=by simpa using hb
  subst e;exact⟨h1,hL,h2,h3⟩
 ·obtain⟨o,es,ep,ho,r⟩:=hm
  exact⟨o,es,ep,k _ o (iU hL) ho,r⟩
 ·refine(I.aV b u e).jE (λc v hc q=>k c v ?_ q) (λ_ q=>q) λ_ _ q=>q
  rcases hc with z|z
  ·rw[z];exact vo b u e
  ·exact vo c _ z
theorem Inv.tok(I:Inv X ak O H s)(t:Nat):Inv X ak O H {s with toks:=t}:=I.un (h':=s.heap) (t':=t) Un.refl I.aV
theorem Inv.kept{t':Nat}(I:Inv X ak O H s)(k:∀b u,s.heap.get? b=some u->h'.get? b=some u):Inv X ak O H {s with heap:=h',toks:=t'}:=I.un (Un.kept k) (I.aV.kept k)
theorem Inv.laid{a:Addr}{o:HO}{t':Nat}(I:Inv X ak O H s)(k:∀b u,s.heap.get? b=some u->h'.get? b=some u)(hp:s.heap.objs.size<=a)(new:eQ X.prog X.w (upd H a o) h' a o): Inv X ak O (upd H a o) {s with heap:=h',toks:=t'}:=I.un (Un.laid k hp (I.aV.fresh hp)) (I.aV.laid k hp new)
theorem Inv.write{x e:Addr}{o:HO}{t':Nat}(I:Inv X ak O H s)(mu:A4 (H x))(he:e=x\/H e=some (.own x))(k:∀b u,b≠e->s.heap.get? b=some u->h'.get? b=some u)(tI:∃u,h'.get? e=some u) (new:eQ X.prog X.w (upd H x o) h' x o):Inv X ak O (upd H x o) {s with heap:=h',toks:=t'}:=I.un (Un.write mu he k tI) (I.aV.write mu he k tI new)
theorem Inv.KR{Dg:List (Addr×Obj)}(I:Inv X ak O H s)(h:∀p∈Dg,s.heap.get? p.1=some p.2/\H p.1=none/\p.1≠X.env.locals/\p.1∉X.fs/\∀v,p.2.data≠ .cell v):Inv X Dg O H s:=⟨I.ok,I.os,I.bare,I.au,I.loc,I.cell,I.free,I.iQ,λp hp=>(xn.mp hp).elim (λz=>I.pin p (GU _ z)) (h p),I.aV,I.len⟩
theorem DA{N:List Str}(hN:N.Nodup){i j:Nat}{x:Str}(a:N[i]? =some x)(b:N[j]? =some x):i=j:=by obtain⟨h1,e1⟩:=eU.mp a;obtain⟨h2,e2⟩:=eU.mp b;exact(List.getElem_inj hN).mp (e1.trans e2.symm)
theorem HP{M:Model}{A:ai}{E:Value->ae->Prop}{i:Nat}{x:Str}{v:V}{u:Value}{Q:Unit->ae->Prop}(I:Inv X ak O H s)(hN:X.N.Nodup)(hi:X.N[i]? =some x)(hx:Loc X.env.scope x)(r:RelV v u) (h:∀s',Inv X ak (O.set i (some v)) H s'->(∃a,Heap.SameBut a s.heap s'.heap/\(a=X.env.locals\/X.env.cells.lookup x=some a))->Q () s')(hf:autoParam (X.fn x=true\/X.env.scope.names.lookup x=some .local) d8_._auto_1):wpAny M A (storeName X.env x u) Q E s:=by
 obtain⟨m,hn,hl⟩:=id I.loc;have vP:(X.env.scope.kind== .class||(X.env.scope.kind== .module&&X.env.locals !=X.env.globals))=false:=by rw[I.ok.kind];rfl
 have zk:i<O.length:=by rw[I.len];exact(eU.mp hi).1
 have lj:=I.lj;have tracked:∀{a:Addr}{h':Heap},(∃o,s.heap.get? a=some o/\H a=none)->Heap.SameBut a s.heap h'->dv X.prog X.w H h':=λ{a h'} ha hs b ob e=>by
  obtain⟨_,_,oZ⟩:=ha;refine(I.aV b ob e).jE (λc w' hc q=>(hs.2 c ?_).trans q) (λ_ q=>q) λ_ _ q=>q;rintro rfl;rcases hc with rfl|hc
  ·rw[oZ]at e;cases e
  ·rw[oZ]at hc;cases hc
 rcases hx with hk|hk
 ·refine wpAny_storeName_local hk hn (λh' Eo hs=>?_) vP
  obtain⟨oL,_,_,MF,_⟩:=id hn;refine h _ ⟨I.ok,I.os,I.bare,⟨λb o e n hb hx=>?_,λb o e n hb hx=>?_,I.au.free,λb o e hx=>?_,I.au.hU,I.au.gY,I.au.hW⟩,⟨_,Eo,λj y v' e1 e2 e3=>?_⟩,λy c e=>?_,I.free,I.iQ,λp hp=>?_,tracked ⟨oL,MF,I.free⟩ hs,by simpa using I.len⟩ ⟨_,hs,.inl rfl⟩
  ·exact(hs.2 b (dh (fF (bP e) I.ok.above))).trans (I.au.keep b o e n hb hx)
  ·obtain⟨sl,e1⟩:=I.au.slot b o e n hb hx
   exact⟨sl,(hs.2 b (dh (fF (bP e) I.ok.above))).trans e1⟩
  ·obtain⟨o',e1⟩:=I.au.there b o e hx
   exact⟨o',(hs.2 b (dh (fF (bP e) I.ok.above))).trans e1⟩
  ·by_cases hj:j=i
   ·subst hj
    rw[hi]at e1;cases e1;rw[GZ zk]at e2;cases e2;exact⟨u,r,.inl ⟨hk,by simp⟩⟩
   ·rw[PM (iU hj)]at e2
    obtain⟨u',r',q⟩:=hl j y v' e1 e2 e3;refine⟨u',r',?_⟩;rcases q with⟨k,e⟩|⟨k,c,e,z⟩
    ·refine .inl ⟨k,?_⟩
     have:y≠x:=λe=>hj (DA hN e1 (e▸hi));simp[this,e]
    ·exact .inr ⟨k,c,e,z.sameBut hs (lj y c e)⟩
  ·obtain⟨w',z⟩:=I.cell y c e
   exact⟨w',z.sameBut hs (lj y c e)⟩
  ·obtain⟨e,n,ne,nf,d⟩:=I.pin p hp
   exact⟨(hs.2 p.1 ne).trans e,n,ne,nf,d⟩
 ·have Ez:X.fn x=true:=by
   rcases hf with z|z
   ·exact z
   ·rw[z]at hk;cases hk
  obtain⟨c,hc⟩:=I.ok.has x (.inl hk);obtain⟨w',z⟩:=I.cell x c hc;refine wpAny_storeName_cell I.ok.kind hk hc z (λh' nO hs=>?_);obtain⟨oc,ME,ZO⟩:=id z;refine h {s with heap:=h'} ⟨I.ok,I.os,I.bare,⟨λb o e n hb hx=>?_,λb o e n hb hx=>?_,I.au.free,λb o e hx=>?_,I.au.hU,I.au.gY,I.au.hW⟩,⟨m,hn.sameBut hs (iU (lj x c hc)),λj y v' e1 e2 e3=>?_⟩,λy c' e=>?_,I.free,I.iQ,λp hp=>?_,tracked ⟨oc,ME,I.iQ x c hc⟩ hs,by simpa using I.len⟩ ⟨c,hs,.inr hc⟩
  ·exact(hs.2 b (dh (fF (bP e) (I.ok.pG x c Ez hc)))).trans (I.au.keep b o e n hb hx)
  ·obtain⟨sl,e1⟩:=I.au.slot b o e n hb hx
   exact⟨sl,(hs.2 b (dh (fF (bP e) (I.ok.pG x c Ez hc)))).trans e1⟩
  ·obtain⟨o',e1⟩:=I.au.there b o e hx
   exact⟨o',(hs.2 b (dh (fF (bP e) (I.ok.pG x c Ez hc)))).trans e1⟩
  ·by_cases hj:j=i
   ·subst hj
    rw[hi]at e1;cases e1;rw[GZ zk]at e2;cases e2;exact⟨u,r,.inr ⟨.inl hk,c,hc,nO⟩⟩
   ·rw[PM (iU hj)]at e2
    obtain⟨u',r',q⟩:=hl j y v' e1 e2 e3;refine⟨u',r',?_⟩;rcases q with q|⟨k,c',e,z'⟩
    ·exact .inl q
    ·refine .inr ⟨k,c',e,z'.sameBut hs ?_⟩
     rintro rfl;exact hj (DA hN e1 (I.ok.inj _ _ _ e hc▸hi))
  ·by_cases MR:c'=c
   ·subst MR;exact⟨_,nO⟩
   ·obtain⟨w2,z2⟩:=I.cell y c' e
    exact⟨w2,z2.sameBut hs MR⟩
  ·obtain⟨e,n,ne,nf,d⟩:=I.pin p hp
   refine⟨(hs.2 p.1 ?_).trans e,n,ne,nf,d⟩;intro q;rw[q,ME]at e;have q':oc=p.2:=dW e;exact d w' (by rw[<-q'];exact ZO)
theorem rX{M:Model}{A:ai}{E:Value->ae->Prop}{i:Nat}{x:Str}{v:V}{u:Value}{Q:Unit->ae->Prop}(I:Inv X ak O H s)(hN:X.N.Nodup)(hi:X.N[i]? =some x)(hx:Loc X.env.scope x)(r:RelV v u) (h:∀s',Inv X ak (O.set i (some v)) H s'->Q () s')(hf:autoParam (X.fn x=true\/X.env.scope.names.lookup x=some .local) d8_._auto_1):wpAny M A (storeName X.env x u) Q E s:=HP I hN hi hx r (λs' I' _=>h s' I') hf
theorem Inv.wB{s':ae}{ch:List Addr}(I:Inv X ak O H s)(ho:s'.os=s.os)(u:Un (cS X.stack) ch H H' s.heap s'.heap)(aV:dv X.prog X.w H' s'.heap)(hg:AllBare s'.gens) (mj:∀b∈ch,(b∈X.ex\/X.s₀.heap.objs.size<=b)/\b≠X.env.locals/\(∀x c,X.env.cells.lookup x=some c->c≠b)/\∀p∈X.pn++ak,p.1≠b):Inv X ak O H' s':=by obtain⟨h',g',d',t',o'⟩:=s';have e:o'=s.os:=ho;subst e;exact I.call (g':=g') (t':=t') (d':=d') u aV hg mj
end
abbrev XK:=Value->Option Addr->Hp->Prop
abbrev St:=List (Option V)
abbrev VK:=V->Hp->Prop
abbrev TE:=St->Hp->VK->Prop
abbrev TT:=St->Hp->(Bool->Hp->Prop)->Prop
abbrev TA:=St->Hp->(List V->Hp->Prop)->Prop
structure Ends where
 nx:St->Hp->Prop
 rt:VK
 bk:St->Hp->Prop:=λ_ _=>False
 ct:St->Hp->Prop:=λ_ _=>False
abbrev TS:=Ends->St->Hp->Prop
def EP(X:Cx)(ak:List (Addr×Obj))(O:St)(Q:VK)(u:Value)(s':ae):Prop:=∃v H',Inv X ak O H' s'/\RelV v u/\Q v H'
def TP(X:Cx)(ak:List (Addr×Obj))(O:St)(Q:Bool->Hp->Prop)(b:Bool)(s':ae):Prop:=∃H',Inv X ak O H' s'/\Q b H'
def AP(X:Cx)(ak:List (Addr×Obj))(O:St)(Q:List V->Hp->Prop)(us:List Value)(s':ae):Prop:=∃vs H',Inv X ak O H' s'/\Vals vs us/\Q vs H'
def SP(X:Cx)(ak:List (Addr×Obj))(D:Ends)(f:Flow)(s':ae):Prop:=match f with | .next=>∃σ' H',Inv X ak σ' H' s'/\D.nx σ' H' | .brk=>∃σ' H',Inv X ak σ' H' s'/\D.bk σ' H' | .cont=>∃σ' H',Inv X ak σ' H' s'/\D.ct σ' H' | .ret u=>∃v σ' H',Inv X ak σ' H' s'/\RelV v u/\D.rt v H'
def PE(X:Cx)(e:Expr)(t:TE):Prop:=∀(ak:List (Addr×Obj))(s:ae)(O:St)(H:Hp)(Q:VK),Inv X ak O H s->t O H Q->wpAny (model X.prog X.w) X.A (eval e X.env) (EP X ak O Q) X.xe s
def PT(X:Cx)(e:Expr)(t:TT):Prop:=∀(ak:List (Addr×Obj))(s:ae)(O:St)(H:Hp)(Q:Bool->Hp->Prop),Inv X ak O H s->t O H Q->wpAny (model X.prog X.w) X.A (isTrue e X.env (eval e X.env)) (TP X ak O Q) X.xe s
def PW(X:Cx)(e:Expr)(t:TT):Prop:=∀(whole:Sem Value)(ak:List (Addr×Obj))(s:ae)(O:St)(H:Hp)(Q:Bool->Hp->Prop),Inv X ak O H s->t O H Q->wpAny (model X.prog X.w) X.A (isTrue e X.env whole) (TP X ak O Q) X.xe s
theorem PW.pt{X:Cx}{e:Expr}{t:TT}(h:PW X e t):PT X e t:=h _
def PA(X:Cx)(es:List Expr)(t:TA):Prop:=∀(pos:Pos)(ak:List (Addr×Obj))(s:ae)(O:St)(H:Hp)(Q:List V->Hp->Prop),Inv X ak O H s->t O H Q->wpAny (model X.prog X.w) X.A (spliced (backTo pos (starEach es X.env))) (AP X ak O Q) X.xe s
def PS(X:Cx)(st:Stmt)(t:TS):Prop:=∀(ak:List (Addr×Obj))(s:ae)(O:St)(H:Hp)(D:Ends),Inv X ak O H s->t D O H->wpAny (model X.prog X.w) X.A (exec st X.env) (SP X ak D) X.xe s
def eP(X:Cx)(st:List Stmt)(t:TS):Prop:=∀(ak:List (Addr×Obj))(s:ae)(O:St)(H:Hp)(D:Ends),Inv X ak O H s->t D O H->wpAny (model X.prog X.w) X.A (execs st X.env) (SP X ak D) X.xe s
theorem aR{α:Type}{t:Sem α}{Q Q':α->ae->Prop}{M:Model}{A:ai}{E:Value->ae->Prop}{s:ae}(h:wpAny M A t Q E s)(hQ:∀a s,Q a s->Q' a s):wpAny M A t Q' E s:=gr h hQ λ_ _ x=>x
section
variable {X:Cx}
inductive a5x(i:Nat)(O:St)(H:Hp)(Q:VK):Prop |mk (v:_)(h0:O[i]? =some (some v))(h1:Q v H)
def HA(i:Nat):TE:=λO H Q=>a5x i O H Q
def tC (v:V):TE:=λ_ H Q=>Q v H
theorem Ux{i:Nat}{x:Str}{pos:Pos}(hN:X.N[i]? =some x)(hv:Gj X.env.scope x)(hd:autoParam ((x==("__debug__":Str))=false) q8_._auto_1)(dY:autoParam ((x==("__classdict__":Str))=false) q8_._auto_1):PE X (.Name x pos) (HA i):=by
 intro ak s O H Q I h;obtain⟨v,e,h⟩:=h;obtain⟨m,hn,hl⟩:=I.loc;obtain⟨u,r,l⟩:=hl i x v hN e hv;have fin:EP X ak O Q u s:=⟨v,H,I,r,h⟩;rcases l with⟨hk,hm⟩|⟨hk,c,hc,ml⟩
 ·exact wpAny_Name (wpAny_loadName_local I.ok.kind hk hn hm fin) hd
 ·rcases hk with hk|hk
  ·exact wpAny_Name (wpAny_loadName_cell I.ok.kind hk hc ml fin) hd
  ·exact wpAny_Name (wpAny_loadName_free I.ok.kind hk hc ml fin dY) hd
theorem aF{i j pos}:PE X (.Constant (.int i) j pos) (tC (.int i)):=λ_ _ _ H _ I h=>wpAny_Constant_int ⟨.int i,H,I.tok _,⟨_,Z⟩,h⟩
theorem ib{b j pos}:PE X (.Constant (.bool b) j pos) (tC (.bl b)):=λ_ _ _ H _ I h=>Constant_bool ⟨.bl b,H,I,Z,h⟩
theorem hZ{j pos}:PE X (.Constant .none j pos) (tC .aY):=λ_ _ _ H _ I h=>Constant_none ⟨.aY,H,I,Z,h⟩
theorem ck{x j pos}:PE X (.Constant (.str x) j pos) (tC (.str x)):=λ_ _ _ H _ I h=>Calls.Constant_str ⟨.str x,H,I.tok _,⟨_,Z⟩,h⟩
def Gl(X:Cx)(x:Str):Prop:=X.env.kindOf x=some .globalImplicit
theorem m5{E:Value->ae->Prop}{ak:List (Addr×Obj)}{s:ae}{O:St}{H:Hp}{x:Str}{u:Value}{pos:Pos}{Q:Value->ae->Prop}(I:Inv X ak O H s)(hg:Gl X x)(hm:X.mg x=some u)(h:Q u s) (hd:autoParam ((x==("__debug__":Str))=false) q8_._auto_1):wpAny (model X.prog X.w) X.A (eval (.Name x pos) X.env) Q E s:=Calls.Name_function_global I.ok.kind hg (Calls.loadGlobal_global (by rw[I.ok.glob];exact I.mod.glob.keeps I.bk) hm h) hd
theorem nC{E:Value->ae->Prop}{ak:List (Addr×Obj)}{s:ae}{O:St}{H:Hp}{x:Str}{u:Value}{pos:Pos}{Q:Value->ae->Prop}(I:Inv X ak O H s)(hg:Gl X x)(hm:X.mg x=none)(hv:bootBuiltins x=some u)(h:Q u s) (hn:autoParam (x≠"__name__") q8_._auto_1)(hd:autoParam ((x==("__debug__":Str))=false) q8_._auto_1):wpAny (model X.prog X.w) X.A (eval (.Name x pos) X.env) Q E s:=by obtain⟨mb,h1,h2⟩:=I.mod.blt;exact Calls.Name_function_global I.ok.kind hg (Calls.loadGlobal_builtin (by rw[I.ok.glob];exact I.mod.glob.keeps I.bk) hm (by rw[I.ok.blt];exact h1.keeps I.bk) ((h2 x hn).trans hv) h) hd
theorem UB{x:Str}{v:V}{u:Value}{pos:Pos}(hg:Gl X x)(hm:X.mg x=some u)(r:RelV v u)(hd:autoParam ((x==("__debug__":Str))=false) q8_._auto_1):PE X (.Name x pos) (tC v):=λ_ _ _ H _ I h=>m5 I hg hm ⟨v,H,I,r,h⟩ hd
theorem jJ{x:Str}{v:V}{u:Value}{pos:Pos}(hg:Gl X x)(hm:X.mg x=none)(hv:bootBuiltins x=some u)(r:RelV v u)(hn:autoParam (x≠"__name__") q8_._auto_1)(hd:autoParam ((x==("__debug__":Str))=false) q8_._auto_1):PE X (.Name x pos) (tC v):=λ_ _ _ H _ I h=>nC I hg hm hv ⟨v,H,I,r,h⟩ hn hd
variable {a b:Expr}{ta tb:TE}{pos:Pos}
def PC(X:Cx)(op:CmpOp)(a b:Expr)(t:TE):Prop:=∀(ak:List (Addr×Obj))(s:ae)(O:St)(H:Hp)(Q:VK),Inv X ak O H s->t O H Q->wpAny (model X.prog X.w) X.A (eval a X.env) (λv s₁=>wpAny (model X.prog X.w) X.A (eval b X.env) (λu s₂=>wpAny (model X.prog X.w) X.A (compareOp op v u) (EP X ak O Q) X.xe s₂) X.xe s₁) X.xe s
inductive ItB(Q:Bool->Hp->Prop)(x:V)(H1:Hp):Prop |mk (c:_)(h0:x= .bl c)(h1:Q c H1)
def tB(t:TE):TT:=λO H Q=>t O H λx H1=>ItB Q x H1
theorem Ud{op:CmpOp}{t:TE}(h:PC X op a b t)(h1:behindInMarks op b=false:=by first|exact a87 _ az az|rfl):PT X (.Compare a [op] [b] pos) (tB t):=by intro ak s O H Q I hw;refine wpAny_isTrue_Compare1 (aR (h ak s O H _ I hw) λv s1 h1=>aR h1 λu s2 h2=>aR h2 λc s3 ⟨x,H1,I1,r1,q1⟩=>?_) h1;obtain⟨d,rfl,q⟩:=q1;cases r1;exact mI ⟨H1,I1,q⟩
theorem bS{e:Expr}{t:TE}(h:PE X e t)(he:autoParam (∀whole,isTrue e X.env whole=(do let v<-whole;standAt e.pos;holding [v] (truthy v))) f8_._auto_1):PT X e (tB t):=by intro ak s O H Q I hw;refine isTrue_plain (aR (h ak s O H _ I hw) λv s1 ⟨x,H1,I1,r1,q1⟩=>?_) (he _);obtain⟨d,rfl,q⟩:=q1;cases r1;exact mI ⟨H1,I1,q⟩
variable {tA xV:TT} {rest:List Expr}
def RL(t u:TT):TT:=λO H Q=>t O H λc H1=>if c=true then u O H1 Q else Q false H1
def Rh(t u:TT):TT:=λO H Q=>t O H λc H1=>if c=true then Q true H1 else u O H1 Q
def Rj(t:TT):TT:=λO H Q=>t O H λc H1=>Q (!c) H1
theorem sJ(ha:PT X a tA):PW X (.BoolOp .And [a] pos) tA:=by intro wh ak s O H Q I h;refine isTrue_and (aR (ha ak s O H Q I h) λc s1 e=>?_);cases c with |true=>exact isTrue_and_nil e |false=>exact e
theorem kl(ha:PT X a tA):PW X (.BoolOp .Or [a] pos) tA:=by intro wh ak s O H Q I h;refine isTrue_or (aR (ha ak s O H Q I h) λc s1 e=>?_);cases c with |false=>exact isTrue_or_nil e |true=>exact e
theorem oB(ha:PT X a tA)(hb:PW X (.BoolOp .And (b::rest) pos) xV):PW X (.BoolOp .And (a::b::rest) pos) (RL tA xV):=by intro wh ak s O H Q I h;refine isTrue_and (aR (ha ak s O H _ I h) λc s1 ⟨H1,I1,q1⟩=>?_);cases c with |true=>exact hb wh ak s1 O H1 Q I1 q1 |false=>exact⟨H1,I1,q1⟩
theorem kr(ha:PT X a tA)(hb:PW X (.BoolOp .Or (b::rest) pos) xV):PW X (.BoolOp .Or (a::b::rest) pos) (Rh tA xV):=by intro wh ak s O H Q I h;refine isTrue_or (aR (ha ak s O H _ I h) λc s1 ⟨H1,I1,q1⟩=>?_);cases c with |true=>exact⟨H1,I1,q1⟩ |false=>exact hb wh ak s1 O H1 Q I1 q1
theorem cE(ha:PT X a tA):PT X (.UnaryOp .Not a pos) (Rj tA):=by intro ak s O H Q I h;exact isTrue_not (ha ak s O H (λc H1=>Q (!c) H1) I h)
inductive a5G(tb:TE)(O:St)(Q:VK)(x:V)(H1:Hp):Prop |mk (c:_)(h0:x= .bl c)(h1:if c=true then tb O H1 Q else Q (.bl false) H1)
def RK(ta tb:TE):TE:=λO H Q=>ta O H λx H1=>a5G tb O Q x H1
inductive a5C(Q:VK)(x:V)(H1:Hp):Prop |mk (c:_)(h0:x= .bl c)(h1:Q (.bl (!c)) H1)
def Ri(ta:TE):TE:=λO H Q=>ta O H λx H1=>a5C Q x H1
theorem sO{op}{t:TE}(h:PE X a t):PE X (.BoolOp op [a] pos) t:=λak s O H Q I hw=>BoolOp_one (h ak s O H Q I hw)
theorem qq(ha:PE X a ta)(hb:PE X (.BoolOp .And (b::rest) pos) tb):PE X (.BoolOp .And (a::b::rest) pos) (RK ta tb):=by intro ak s O H Q I h;refine BoolOp_and (aR (ha ak s O H _ I h) λv s1 ⟨x,H1,I1,r1,q1⟩=>?_);obtain⟨c,rfl,q1⟩:=q1;cases r1;refine mI ?_;cases c with |true=>exact hb ak s1 O H1 Q I1 q1 |false=>exact⟨.bl false,H1,I1,Z,q1⟩
theorem Uy(ha:PE X a ta):PE X (.UnaryOp .Not a pos) (Ri ta):=by intro ak s O H Q I h;refine UnaryOp_ (aR (ha ak s O H _ I h) λv s1 ⟨x,H1,I1,r1,q1⟩=>?_);obtain⟨c,rfl,q1⟩:=q1;cases r1;exact not_of (mI ⟨.bl (!c),H1,I1,Z,q1⟩)
def RA(t:TT)(ta tb:TE):TE:=λO H Q=>t O H λc H1=>if c=true then ta O H1 Q else tb O H1 Q
theorem fW{c:Expr}(hc:PT X c tA)(ha:PE X a ta)(hb:PE X b tb):PE X (.IfExp c a b pos) (RA tA ta tb):=by intro ak s O H Q I h;refine wpAny_IfExp (aR (hc ak s O H _ I h) λd s1 ⟨H1,I1,q1⟩=>?_);cases d with |true=>exact ha ak s1 O H1 Q I1 q1 |false=>exact hb ak s1 O H1 Q I1 q1
end
def aK(K:aa)(H:Hp)(a:Addr)(xs:List V):Prop:=Rd H a (.lst xs)\/ ∃(o:Obj)(its:Array Value)(n:Nat),K.lookup a=some o/\o.cls= .type "list"/\o.dict=none/\o.data= .seq its n/\its.size<=sizeLine/\Vals xs its.toList
def aQ(K:aa)(H:Hp)(a:Addr)(xs:List V):Prop:=Rd H a (.tup xs)\/ ∃(o:Obj)(its:Array Value)(n:Nat),K.lookup a=some o/\o.cls= .type "tuple"/\o.data= .seq its n/\its.size<=sizeLine/\Vals xs its.toList
def a5d:Value->Option V | .none=>some .aY | .bool b=>some (.bl b) | .int i _=>some (.int i) | .str x _=>some (.str x) | .bytes b _=>some (.jg b) | .float b _=>some (.zy b) | .ref a=>some (.ref a) | .type n=>some (.ty n) |_=>none
theorem RelV.abs{x:V}{u:Value}(r:RelV x u):a5d u=some x:=by cases x with |aY=>cases r;rfl |bl _=>cases r;rfl |int _=>obtain⟨t,rfl⟩:=r;rfl |str _=>obtain⟨t,rfl⟩:=r;rfl |jg _=>obtain⟨t,rfl⟩:=r;rfl |zy _=>obtain⟨t,rfl⟩:=r;rfl |ref _=>cases r;rfl |ty _=>cases r;rfl
theorem RelV.inj{x y:V}{u:Value}(r:RelV x u)(q:RelV y u):x=y:=dW (r.abs.symm.trans q.abs)
theorem Vals.inj:∀{xs ys:List V}{us:List Value},Vals xs us->Vals ys us->xs=ys |_,_,_,.nil,.nil=>rfl |_,_,_,.cons r t,.cons r' t'=>by rw[r.inj r',Vals.inj t t']
section
variable {X:Cx}{ak:List (Addr×Obj)}{O:St}{H:Hp}{s:ae}{a:Addr}{xs ys:List V}
theorem aK.of{K:aa}(h:H a=some (.lst xs)):aK K H a xs:=.inl (.inl h)
theorem aQ.of{K:aa}(h:H a=some (.tup xs)):aQ K H a xs:=.inl (.inl h)
theorem Inv.list(I:Inv X ak O H s)(h:aK X.K H a xs):∃its:List Value,Vals xs its/\PlainL s.heap a its.toArray/\xs.length<=sizeLine:=by
 rcases h with h|⟨o,its,n,hk,hc,hd,hs,hz,r⟩
 ·obtain⟨z,its,n,r,e⟩:=h.ok I.aV
  exact⟨its,r,⟨_,n,e,Z,Z,Z⟩,z⟩
 ·refine⟨its.toList,r,⟨o,n,I.dH a o hk,hc,hd,by simpa using hs⟩,?_⟩
  have e:=r.length;simp only[Ax]at e
  lia
theorem Inv.tuple(I:Inv X ak O H s)(h:aQ X.K H a xs):∃its:List Value,Vals xs its/\IsTup s.heap a its.toArray/\xs.length<=sizeLine:=by
 rcases h with h|⟨o,its,n,hk,hc,hs,hz,r⟩
 ·obtain⟨z,its,r,p⟩:=h.ok I.aV
  exact⟨its,r,p,z⟩
 ·refine⟨its.toList,r,⟨o,I.dH a o hk,hc,n,by simpa using hs⟩,?_⟩
  have e:=r.length;simp only[Ax]at e
  lia
theorem Inv.M7(I:Inv X ak O H s)(h:aK X.K H a xs)(h':aK X.K H a ys):xs=ys:=by
 obtain⟨its,r,⟨o,n,e,_,_,d⟩,_⟩:=I.list h;obtain⟨its',r',⟨o',n',e',_,_,d'⟩,_⟩:=I.list h';rw[e]at e';cases e';rw[d]at d';injection d' with d1 _;have:its=its':=by simpa using oa Array.toList d1
 subst this;exact r.inj r'
theorem Inv.Hu(I:Inv X ak O H s)(h:aQ X.K H a xs)(h':aQ X.K H a ys):xs=ys:=by
 obtain⟨its,r,⟨o,e,_,n,d⟩,_⟩:=I.tuple h;obtain⟨its',r',⟨o',e',_,n',d'⟩,_⟩:=I.tuple h';rw[e]at e';cases e';rw[d]at d';injection d' with d1 _;have:its=its':=by simpa using oa Array.toList d1
 subst this;exact r.inj r'
end
abbrev Cx.iY(X:Cx)(E:Value->ae->Prop):Cx:={X with xe:=E}
abbrev Cx.lW(X:Cx):Cx:=X.iY λ_ _=>False
theorem Cx.Ok.iY{X:Cx}(ok:X.Ok)(E:Value->ae->Prop):(X.iY E).Ok:=⟨ok.mod,ok.kind,ok.glob,ok.blt,ok.above,ok.inj,ok.has,ok.pG,ok.hd,ok.frames,ok.pX,ok.wc,ok.bs,ok.jw,ok.oJ,ok.mx,ok.iu,ok.kZ⟩
theorem Cx.Ok.lL{X:Cx}{E:Value->ae->Prop}(ok:(X.iY E).Ok):X.Ok:=⟨ok.mod,ok.kind,ok.glob,ok.blt,ok.above,ok.inj,ok.has,ok.pG,ok.hd,ok.frames,ok.pX,ok.wc,ok.bs,ok.jw,ok.oJ,ok.mx,ok.iu,ok.kZ⟩
section
variable {X:Cx}{ak:List (Addr×Obj)}{O:St}{H:Hp}{s:ae}{E:Value->ae->Prop}
theorem Inv.iY(I:Inv X ak O H s)(E:Value->ae->Prop):Inv (X.iY E) ak O H s:=⟨I.ok.iY E,I.os,I.bare,I.au,I.loc,I.cell,I.free,I.iQ,I.pin,I.aV,I.len⟩
theorem Inv.lL(I:Inv (X.iY E) ak O H s):Inv X ak O H s:=⟨I.ok.lL,I.os,I.bare,I.au,I.loc,I.cell,I.free,I.iQ,I.pin,I.aV,I.len⟩
theorem SP.lL{D:Ends}{f:Flow}{s':ae}(h:SP (X.iY E) ak D f s'):SP X ak D f s':=by cases f with |next=>obtain⟨σ',H',I,q⟩:=h;exact⟨σ',H',I.lL,q⟩ |brk=>obtain⟨σ',H',I,q⟩:=h;exact⟨σ',H',I.lL,q⟩ |cont=>obtain⟨σ',H',I,q⟩:=h;exact⟨σ',H',I.lL,q⟩ |ret u=>obtain⟨v,σ',H',I,r,q⟩:=h;exact⟨v,σ',H',I.lL,r,q⟩
theorem eP.lW{st:List Stmt}{t:TS}(h:eP X.lW st t):eP X st t:=λak s O H D I hw=>gr (h ak s O H D (I.iY _) hw) (λ_ _ q=>q.lL) λ_ _ z=>False.elim z
end
section
variable {X:Cx}{st:Stmt}{rest:List Stmt}{t u:TS}{e:Expr}{te:TE}{pos:Pos}
def Rm:TS:=λD O H=>D.nx O H
def HC(t u:TS):TS:=λD O H=>t {D with nx:=u D} O H
theorem bG:eP X [] Rm:=λ_ _ O H _ I h=>Ac ⟨O,H,I,h⟩
theorem aD(h1:PS X st t)(h2:eP X rest u):eP X (st::rest) (HC t u):=by intro ak s O H D I h;refine wpAny_execs_cons (aR (h1 ak s O H {D with nx:=u D} I h) λf s1 q=>?_);cases f with |next=>obtain⟨σ',H',I',q⟩:=q;exact h2 ak s1 σ' H' D I' q |ret v=>exact q |brk=>exact q |cont=>exact q
theorem aH(h1:PS X st t):eP X [st] t:=by intro ak s O H D I h;refine wpAny_execs_cons (aR (h1 ak s O H D I h) λf s1 q=>?_);cases f with |next=>exact Ac q |ret v=>exact q |brk=>exact q |cont=>exact q
theorem Inv.quiet{ak:List (Addr×Obj)}{O:St}{H:Hp}{s:ae}(I:Inv X ak O H s):interactive X.env=false:=by simp[interactive,I.ok.kind]
def RH(te:TE):TS:=λD O H=>te O H λ_ H1=>D.nx O H1
theorem gE(he:PE X e te)(hs:autoParam (swapsWith e none pos.line X.env=pure false) r8_._auto_1):PS X (.Expr e pos) (RH te):=by intro ak s O H D I h;exact wpAny_Expr_any (aR (he ak s O H _ I h) λv s1 ⟨x,H1,I1,r1,q1⟩=>⟨O,H1,I1,q1⟩) I.quiet hs
def R9(te:TE):TS:=λD O H=>te O H D.rt
theorem aZ(he:PE X e te):PS X (.Return (some e) pos) (R9 te):=by intro ak s O H D I h;exact wpAny_Return_some (aR (he ak s O H _ I h) λv s1 ⟨x,H1,I1,r1,q1⟩=>⟨x,O,H1,I1,r1,q1⟩)
def Rz(c:TT)(t u:TS):TS:=λD O H=>c O H λb H1=>if b=true then t D O H1 else u D O H1
theorem bD{c:Expr}{a b:List Stmt}{tc:TT}(hc:PT X c tc)(ha:eP X a t)(hb:eP X b u):PS X (.If c a b pos) (Rz tc t u):=by intro ak s O H D I h;refine wpAny_If (aR (hc ak s O H _ I h) λd s1 ⟨H1,I1,q1⟩=>?_);cases d with |true=>exact ha ak s1 O H1 D I1 q1 |false=>exact hb ak s1 O H1 D I1 q1
def HE:TS:=λ_ _ _=>False
theorem Df:PS X st HE:=λ_ _ _ _ _ _ h=>h.elim
theorem ku{RU:List Stmt}:eP X RU HE:=λ_ _ _ _ _ _ h=>h.elim
end
abbrev TG:=V->St->Hp->(St->Hp->Prop)->Prop
abbrev mD:=List V->St->Hp->(St->Hp->Prop)->Prop
def PG(X:Cx)(target:Expr)(t:TG):Prop:=∀(ak:List (Addr×Obj))(s:ae)(O:St)(H:Hp)(v:V)(u:Value)(Q:St->Hp->Prop),Inv X ak O H s->RelV v u->t v O H Q->wpAny (model X.prog X.w) X.A (assign target X.env u) (λ_ s'=>∃σ' H',Inv X ak σ' H' s'/\Q σ' H') X.xe s
def wK(X:Cx)(ts:List Expr)(t:mD):Prop:=∀(ak:List (Addr×Obj))(s:ae)(O:St)(H:Hp)(vs:List V)(us:List Value)(Q:St->Hp->Prop),Inv X ak O H s->Vals vs us->t vs O H Q->wpAny (model X.prog X.w) X.A (assignInOrder ((assignEach ts X.env).map (·.2)) us) (λ_ s'=>∃σ' H',Inv X ak σ' H' s'/\Q σ' H') X.xe s
abbrev Gp:=V->V->V->Hp->(Hp->Prop)->Prop
def OT(X:Cx)(t:Gp):Prop:=∀(ak:List (Addr×Obj))(s:ae)(O:St)(H:Hp)(o i v:V)(ov iv u:Value)(Q:Hp->Prop),Inv X ak O H s->RelV o ov->RelV i iv->RelV v u->t o i v H Q->wpAny (model X.prog X.w) X.A (setItem ov iv u) (λ_ s'=>∃H',Inv X ak O H' s'/\Q H') X.xe s
abbrev OP:=V->V->Hp->VK->Prop
def PIp(X:Cx)(op:Operator)(t:OP):Prop:=∀(ak:List (Addr×Obj))(s:ae)(O:St)(H:Hp)(x y:V)(v u:Value)(Q:VK),Inv X ak O H s->RelV x v->RelV y u->t x y H Q->wpAny (model X.prog X.w) X.A (inplaceOp op v u) (EP X ak O Q) X.xe s
section
variable {X:Cx} {pos:Pos}
def gj(i:Nat):TG:=λv O H Q=>Q (O.set i (some v)) H
theorem Uw{i:Nat}{x:Str}(hN:X.N.Nodup)(hi:X.N[i]? =some x)(hx:Loc X.env.scope x)(hf:autoParam (X.fn x=true\/X.env.scope.names.lookup x=some .local) d8_._auto_1):PG X (.Name x pos) (gj i):=by intro ak s O H v u Q I r h;exact wpAny_assign_Name (rX I hN hi hx r (λs' I'=>⟨_,H,I',h⟩) hf)
def F9:mD:=λvs O H Q=>vs=[]/\Q O H
inductive a7D(t:TG)(u:mD)(vs:List V)(O:St)(H:Hp)(Q:St->Hp->Prop):Prop |mk (v:_)(r:_)(h0:vs=v::r)(h1:t v O H λσ' H'=>u r σ' H' Q)
def vX(t:TG)(u:mD):mD:=λvs O H Q=>a7D t u vs O H Q
theorem fk:wK X [] F9:=by intro ak s O H vs us Q I r h;obtain⟨e,h⟩:=h;subst e;cases r;exact assignInOrder_nil ⟨O,H,I,h⟩
theorem bV{e:Expr}{es:List Expr}{t:TG}{u:mD}(h1:PG X e t)(h2:wK X es u) (hs:autoParam ((assignEach (e::es) X.env).map (·.2)=assign e X.env::(assignEach es X.env).map (·.2)) r8_._auto_1):wK X (e::es) (vX t u):=by intro ak s O H vs us Q I r h;obtain⟨v,vr,e1,h⟩:=h;subst e1;cases r with |cons r rr=>rw[hs];refine Ag (aR (h1 ak s O H _ _ _ I r h) λ_ s1 ⟨σ1,H1,I1,q1⟩=>?_);exact h2 ak s1 σ1 H1 _ _ Q I1 rr q1
inductive a7B(K:aa)(n:Nat)(t:mD)(v:V)(O:St)(H:Hp)(Q:St->Hp->Prop):Prop |mk (a:_)(xs:_)(h0:v= .ref a)(h1:aQ K H a xs)(h2:xs.length=n)(h3:t xs O H Q)
def zw(K:aa)(n:Nat)(t:mD):TG:=λv O H Q=>a7B K n t v O H Q
theorem Uv{es:List Expr}{k:Nat}{t:mD}{n:Nat}(hc:X.calm=true)(h:wK X es t) (hn:autoParam ((assignEach es X.env).length=n) r8_._auto_1)(fq:autoParam ((assignEach es X.env).findIdx? (·.1)=none) r8_._auto_1):PG X (.Tuple es k pos) (zw X.K n t):=by intro ak s O H v u Q I r hw;obtain⟨a,xs,e1,hq,hl,hw⟩:=hw;subst e1;cases r;obtain⟨its,rv,ht,hz⟩:=I.tuple hq;refine assign_Tuple_tuple (I.ok.hd hc) ht (by simp[hn,<-hl,rv.length]) fq λh' hx=>?_;have I1:Inv X ak O H {s with heap:=h'}:=I.kept (t':=s.toks) λb o e=>hx b o (dh (bP e)) e;exact h ak _ O H xs _ Q I1 (by simpa using rv) hw
def a2i(to ti:TE)(t:Gp):TG:=λv O H Q=>to O H λo H1=>ti O H1 λi H2=>t o i v H2 λH3=>Q O H3
theorem Di{o i:Expr}{to ti:TE}{t:Gp}(ho:PE X o to)(hi:PE X i ti)(hs:OT X t) (ha:∀v,assign (.Subscript o i pos) X.env v=(do
 let ov<-holding [v] (eval o X.env)
 let iv<-holding [v,ov] (eval i X.env)
 standAt pos
 holding [v,ov,iv] (setItem ov iv v)
 release [v,ov,iv] []):=by intro _;rfl):PG X (.Subscript o i pos) (a2i to ti t):=by
 intro ak s O H v u Q I r h;rw[ha];refine aB (gJ (aR (ho ak s O H _ I h) λov s1 ⟨x,H1,I1,r1,q1⟩=>?_));refine aB (gJ (aR (hi ak s1 O H1 _ I1 q1) λiv s2 ⟨y,H2,I2,r2,q2⟩=>?_));refine aB (mJ (aB (gJ (aR (hs ak s2 O H2 x y v ov iv u _ I2 r1 r2 r q2) λ_ s3 ⟨H3,I3,q3⟩=>?_))));exact wpAny_release ⟨O,H3,I3,q3⟩
def xW(te:TE)(g:TG):TS:=λD O H=>te O H λx H1=>g x O H1 D.nx
theorem gc{tg e:Expr}{te:TE}{g:TG}(he:PE X e te)(hg:PG X tg g)(hs:autoParam (swapsWithSole [tg] e pos.line X.env=pure false) r8_._auto_1)(hw:autoParam (swappedStores [tg] e X.env=pure none) r8_._auto_1) (h1:autoParam ((assignEach [tg] X.env).map (·.2)=[assign tg X.env]) r8_._auto_1):PS X (.Assign [tg] e pos) (xW te g):=by intro ak s O H D I h;refine wpAny_Assign_stores (aR (he ak s O H _ I h) λv s1 ⟨x,H1,I1,r1,q1⟩=>?_) hs hw;rw[h1];exact aR (hg ak s1 O H1 x v _ I1 r1 q1) λ_ s2 q=>q
theorem KP{i:Nat}{x:Str}{e:Expr}{te:TE}{pos':Pos}(hN:X.N.Nodup)(hi:X.N[i]? =some x)(hx:Loc X.env.scope x)(he:PE X e te)(hs:autoParam (swapsWith e (some (.Name x pos')) pos.line X.env=pure false) r8_._auto_1)(hf:autoParam (X.fn x=true\/X.env.scope.names.lookup x=some .local) d8_._auto_1): PS X (.Assign [.Name x pos'] e pos) (xW te (gj i)):=by intro ak s O H D I h;refine wpAny_Assign_Name (aR (he ak s O H _ I h) λv s1 ⟨y,H1,I1,r1,q1⟩=>?_) hs;exact rX I1 hN hi hx r1 (λs2 I2=>⟨_,H1,I2,q1⟩) hf
inductive a5B(i:Nat)(j:Nat)(D:Ends)(O:St)(vs:List V)(H1:Hp):Prop |mk (v:_)(w:_)(h0:vs=[v,w])(h1:D.nx ((O.set i (some v)).set j (some w)) H1)
def Rg(i j:Nat)(ta:TA):TS:=λD O H=>ta O H λvs H1=>a5B i j D O vs H1
theorem De{i j:Nat}{x y:Str}{a b:Expr}{ta:TA}{px py pt:Pos} {kt k2 D7}(hc:X.calm=true)(hN:X.N.Nodup)(hi:X.N[i]? =some x)(hj:X.N[j]? =some y)(hij:i≠j) (hx:X.env.scope.names.lookup x=some .local)(hy:X.env.scope.names.lookup y=some .local)(ha:PA X [a,b] ta) (hw:swappedStores [.Tuple [.Name x px,.Name y py] kt pt] (.Tuple [a,b] k2 D7) X.env=pure (some [x,y])) (hs:autoParam (swapsWithSole [.Tuple [.Name x px,.Name y py] kt pt] (.Tuple [a,b] k2 D7) pos.line X.env=pure false) r8_._auto_1): PS X (.Assign [.Tuple [.Name x px,.Name y py] kt pt] (.Tuple [a,b] k2 D7) pos) (Rg i j ta):=by
 intro ak s O H D I h;rw[exec_Assign_arm];refine aB (mJ ?_);rw[hs];refine aB (bB ?_);rw[bf az];refine aB (Tuple_ (aR (ha _ ak s O H _ I h) λus s1 ⟨vs,H1,I1,r1,q1⟩=>?_));obtain⟨v,w,e1,q1⟩:=q1;subst e1;obtain⟨u1,u2,rfl,rv,uU⟩:∃u1 u2,us=[u1,u2]/\RelV v u1/\RelV w u2:=by cases r1 with |cons p q=>cases q with |cons p' q'=>cases q';exact⟨_,_,Z,p,p'⟩
 refine jX ?_ (by show 2<=sizeLine;decide);have I2:Inv X ak O H1 {s1 with heap:=s1.heap.push {cls:=.type "tuple",data:=.seq [u1,u2].toArray}}:=I1.kept (t':=s1.toks) λb o e=>bL _ e;rw[hw];refine aB (bB ?_);show wpAny (model X.prog X.w) X.A (do rule "assign.swapped-stores";let items<-unpackItems (.ref s1.heap.objs.size) 2 none;assignInOrder [λv=>bindName X.env y v,λv=>bindName X.env x v] items.reverse;pure Flow.next) _ _ _;refine aB (wW (aB (unpackItems_tuple (items:=#[u1,u2]) (I.ok.hd hc) (IsTup.new s1.heap _) λh' Zr=>?_)));have I3:=I2.kept (h':=h') (t':=s1.toks) λb o e=>Zr b o (dh (bP e)) e;show wpAny _ _ (assignInOrder [λv=>bindName X.env y v,λv=>bindName X.env x v] [u2,u1]>>=λ_=>pure Flow.next) _ _ _;refine aB (Ag (wpAny_bindName (rX I3 hN hj (.inl hy) uU (λs2 I4=>?_) (.inr hy))));refine Ag (wpAny_bindName (rX I4 hN hi (.inl hx) rv (λs3 I5=>assignInOrder_nil (bB ?_)) (.inr hx)));rw[List.set_comm _ _ (iU hij)]at I5;exact⟨_,H1,I5,q1⟩
inductive a7r(f:Int->Int->Int)(x:V)(y:V)(H:Hp)(Q:VK):Prop |mk (i:_)(j:_)(h0:x= .int i)(h1:y= .int j)(h2:Q (.int (f i j)) H)
def Z3(f:Int->Int->Int):OP:=λx y H Q=>a7r f x y H Q
theorem Z2:PIp X .Add (Z3 λi j=>i+j):=by intro ak s O H x y v u Q I r1 r2 h;obtain⟨i,j,e1,e2,q⟩:=h;subst e1;subst e2;obtain⟨t,rfl⟩:=r1;obtain⟨t',rfl⟩:=r2;exact iadd_int ⟨.int _,H,I.tok _,⟨_,Z⟩,q⟩
def Hz(c:TT)(tb:TS):TS:=λD O H=>∃W:Nat->St->Hp->Prop,(∃m,W m O H)/\∀m O H,W m O H->c O H λb H1=>if b=true then∃N:St->Hp->Prop,(∀σ' H',N σ' H'->∃m',m'<m/\W m' σ' H')/\tb {D with nx:=N,ct:=N,bk:=D.nx} O H1 else D.nx O H1
theorem sL{c:Expr}{body:List Stmt}{tc:TT}{tb:TS}(hp:PassesOwn (model X.prog X.w) X.A X.env X.xe)(hc:PT X c tc)(hb:eP X body tb):PS X (.While c body [] pos) (Hz tc tb):=by intro ak s O H D I h;obtain⟨W,⟨m0,w0⟩,turn⟩:=h;refine wpAny_While (codeAny_whileLoop (λn s'=>∃σ' H',Inv X ak σ' H' s'/\W n σ' H') ?_ m0 ⟨O,H,I,w0⟩);rintro n s1 ⟨σ1,H1,I1,w1⟩;refine ua hp (aR (hc ak s1 σ1 H1 _ I1 (turn n σ1 H1 w1)) λb s2 ⟨H2,I2,q2⟩=>?_);cases b with
 |true=>obtain⟨N,hN,q2⟩:=q2;rw[bo rfl];refine ua hp (aR (hb ak s2 σ1 H2 _ I2 q2) λf s3 q3=>?_);cases f with |next=>obtain⟨σ3,H3,I3,n3⟩:=q3;obtain⟨m',hm,w3⟩:=hN σ3 H3 n3;exact⟨m',hm,σ3,H3,I3,w3⟩ |cont=>obtain⟨σ3,H3,I3,n3⟩:=q3;obtain⟨m',hm,w3⟩:=hN σ3 H3 n3;exact⟨m',hm,σ3,H3,I3,w3⟩ |brk=>exact q3 |ret v=>exact q3
 |false=>rw[bf cI];exact Ac ⟨σ1,H2,I2,q2⟩
end
structure It where
 go:Nat->Hp->Prop
 gw:Nat->Hp->V->Hp->Prop
 stop:Nat->Hp->Prop
def gH(X:Cx)(ak:List (Addr×Obj))(H:Hp)(b:Addr):Prop:=H b=none/\b≠X.env.locals/\b∉X.fs/\(b∈X.ex\/X.s₀.heap.objs.size<=b)/\(∀x c,X.env.cells.lookup x=some c->c≠b)/\∀p∈X.pn++ak,p.1≠b
theorem Inv.nQ{X:Cx}{ak:List (Addr×Obj)}{O:St}{H H':Hp}{s:ae}{b:Addr}(I:Inv X ak O H s)(hb:s.heap.objs.size<=b)(hn:H' b=none):gH X ak H' b:=by
 refine⟨hn,xg (fF I.lt hb),I.X7 hb,.inr (fA I.sz hb),λx c e z=>?_,λp hp z=>?_⟩
 ·obtain⟨v,q⟩:=I.cell x c e
  exact absurd (fF q.lt (by rw[z];exact hb)) (pP _)
 ·exact absurd (fF (bP (I.pin p hp).1) (by rw[z];exact hb)) (pP _)
structure Turn(P:af)(w:World)(K:aa)(tg:Expr)(J:It)(fp:List Addr)(it:Addr)(tn:Nat->Heap->Prop):Prop where
 mem:it∈fp
 obj:∀i h,tn i h->∀b∈fp,∃o,h.get? b=some o/\∀v,o.data≠ .cell v
 keep:∀i h h',tn i h->(∀b∈fp,∀o,h.get? b=some o->h'.get? b=some o)->tn i h'
 item:∀(X:Cx),X.prog=P->X.w=w->X.K=K->X.calm=true->∀(i:Nat)(ak:List (Addr×Obj))(s:ae)(O:St)(H:Hp)(E:Value->ae->Prop),Inv X ak O H s->(∀b∈fp,gH X ak H b)->tn i s.heap->J.go i H->wpAny (model P w) X.A (pyNext (.ref it)) (λr s1=>∃u,r=some u/\wpAny (model P w) X.A (letOwnedTupleGo tg (.ref it) u) (λ_ s2=>∃x H',Inv X ak O H' s2/\RelV x u/\J.gw i H x H'/\tn (i+1) s2.heap/\∀b∈fp,H' b=none) E s1) E s
 done:∀(X:Cx),X.prog=P->X.w=w->X.K=K->X.calm=true->∀(i:Nat)(ak:List (Addr×Obj))(s:ae)(O:St)(H:Hp)(E:Value->ae->Prop),Inv X ak O H s->(∀b∈fp,gH X ak H b)->tn i s.heap->J.stop i H->wpAny (model P w) X.A (pyNext (.ref it)) (λr s1=>r=none/\Inv X ak O H s1) E s
 self:∀(A:ai)(i:Nat)(s:ae)(Q:Value->ae->Prop)(E:Value->ae->Prop),tn i s.heap->Q (.ref it) s->wpAny (model P w) A (pyIter (.ref it)) Q E s
abbrev TI:=St->Hp->(It->Hp->Prop)->Prop
def Gq(X:Cx)(ak:List (Addr×Obj))(O:St)(tg:Expr)(R:It->Hp->Prop)(qH:Value)(s2:ae):Prop:=∃(it:Addr)(fp:List Addr)(tn:Nat->Heap->Prop)(J:It)(H':Hp),qH= .ref it/\Inv X ak O H' s2/\Turn X.prog X.w X.K tg J fp it tn/\tn 0 s2.heap/\(∀b∈fp,gH X ak H' b)/\R J H'
def PI(X:Cx)(tg iter:Expr)(wi:TI):Prop:=∀(ak:List (Addr×Obj))(s:ae)(O:St)(H:Hp)(R:It->Hp->Prop),Inv X ak O H s->wi O H R->wpAny (model X.prog X.w) X.A (eval iter X.env) (λv s1=>wpAny (model X.prog X.w) X.A (pyIter v) (Gq X ak O tg R) X.xe s1) X.xe s
theorem tL{M:Model}{A:ai}{E:Value->ae->Prop}{s:ae}{tg:Expr}{it:Addr}{u:Value}{o:Obj}{n:String}{vs:Array Value}{Q:Unit->ae->Prop}(ho:s.heap.get? it=some o)(hc:o.cls= .type n)(hd:o.data= .fields vs) (hn:["enumerate","zip","dict_itemiterator","dict_reverseitemiterator","odict_iterator","itertools.zip_longest","itertools.pairwise"].contains n=false)(hQ:Q () s):wpAny M A (letOwnedTupleGo tg (.ref it) u) Q E s:=by unfold letOwnedTupleGo;cases tg<;>first |exact bB hQ |(cases u<;>first
        |exact bB hQ
        | (refine aB (wpAny_load ho ?_)
           rw[hc,hd];show wpAny M A (if(["enumerate","zip","dict_itemiterator","dict_reverseitemiterator","odict_iterator","itertools.zip_longest","itertools.pairwise"].contains n&&vs[0]? ==some (rawInt _))=true then _ else _) Q E s;rw[bf (by intro h;rw[hn,fV]at h;cases h)];exact bB hQ))
def u9(K:aa)(a:Addr):It:=⟨λi H=>∃xs x,aK K H a xs/\xs[i]? =some x,λi H x H'=>H'=H/\∀xs,aK K H a xs->xs[i]? =some x,λi H=>∃xs,aK K H a xs/\xs.length<=i⟩
def pM(K:aa)(a:Addr):It:=⟨λi H=>∃xs x,aQ K H a xs/\xs[i]? =some x,λi H x H'=>H'=H/\∀xs,aQ K H a xs->xs[i]? =some x,λi H=>∃xs,aQ K H a xs/\xs.length<=i⟩
def nZ(lo:Int)(n:Nat):It:=⟨λi _=>i<n,λi H x H'=>H'=H/\x= .int (lo+i),λi _=>n<=i⟩
theorem QM{P:af}{w:World}{K:aa}{tg:Expr}(a it:Addr):Turn P w K tg (u9 K a) [it] it (λi h=>h.IsListIter it a i) where
 mem:=by simp
 obj:=λi h st b hb=>by
  have e:b=it:=by simpa using hb
  subst e;obtain⟨o,e,c,d⟩:=st;exact⟨o,e,λv z=>by rw[d]at z;cases z⟩
 keep:=λi h h' st k=>st.at λo e=>k it (by simp) o e
 item:=by intro X hP hw hK hc i ak s O H E I hf st hg;subst hP hw hK;obtain⟨xs,x,hq,hx⟩:=hg;obtain⟨its,rv,p,hz⟩:=I.list hq;obtain⟨u,hu,ru⟩:=rv.get hx;obtain⟨f0,f1,f2,f3,f4,f5⟩:=hf it (by simp);refine wpAny_pyNext_list_item st p.isList (x:=u) (by simpa using hu) λh' gB sb=>?_;have I1:Inv X ak O H {s with heap:=h'}:=I.turned (t':=s.toks) (λb o hb e=>(sb.2 b hb).trans e) f0 f1 f3 f4 f5;obtain⟨o,e,c,d⟩:=id gB;exact⟨u,Z,tL (s:={s with heap:=h'}) e c d az ⟨x,H,I1,ru,⟨Z,λys hy=>by rw[I.M7 hy hq];exact hx⟩,gB,λb hb=>(hf b hb).1⟩⟩
 done:=by intro X hP hw hK hc i ak s O H E I hf st hg;subst hP hw hK;obtain⟨xs,hq,hx⟩:=hg;obtain⟨its,rv,p,hz⟩:=I.list hq;obtain⟨f0,f1,f2,f3,f4,f5⟩:=hf it (by simp);have hl:=rv.length;exact wpAny_pyNext_list_end (I.ok.hd hc) st p.isList (by simp;lia) λh' eb=>⟨Z,I.turned (t':=s.toks) (λb o hb e=>eb b o hb e) f0 f1 f3 f4 f5⟩
 self:=λ_ _ _ _ _ st h=>wpAny_pyIter_listiter st h
theorem QH{P:af}{w:World}{K:aa}{tg:Expr}(a it:Addr):Turn P w K tg (pM K a) [it] it (λi h=>h.IsTupleIter it a i) where
 mem:=by simp
 obj:=λi h st b hb=>by
  have e:b=it:=by simpa using hb
  subst e;obtain⟨o,e,c,d⟩:=st;exact⟨o,e,λv z=>by rw[d]at z;cases z⟩
 keep:=λi h h' st k=>st.at λo e=>k it (by simp) o e
 item:=by intro X hP hw hK hc i ak s O H E I hf st hg;subst hP hw hK;obtain⟨xs,x,hq,hx⟩:=hg;obtain⟨its,rv,p,hz⟩:=I.tuple hq;obtain⟨u,hu,ru⟩:=rv.get hx;obtain⟨f0,f1,f2,f3,f4,f5⟩:=hf it (by simp);refine wpAny_pyNext_tuple_item st (show s.heap.IsTuple a its.toArray from p) (x:=u) (by simpa using hu) λh' gB sb=>?_;have I1:Inv X ak O H {s with heap:=h'}:=I.turned (t':=s.toks) (λb o hb e=>(sb.2 b hb).trans e) f0 f1 f3 f4 f5;obtain⟨o,e,c,d⟩:=id gB;exact⟨u,Z,tL (s:={s with heap:=h'}) e c d az ⟨x,H,I1,ru,⟨Z,λys hy=>by rw[I.Hu hy hq];exact hx⟩,gB,λb hb=>(hf b hb).1⟩⟩
 done:=by intro X hP hw hK hc i ak s O H E I hf st hg;subst hP hw hK;obtain⟨xs,hq,hx⟩:=hg;obtain⟨its,rv,p,hz⟩:=I.tuple hq;obtain⟨f0,f1,f2,f3,f4,f5⟩:=hf it (by simp);have hl:=rv.length;exact wpAny_pyNext_tuple_end (I.ok.hd hc) st (show s.heap.IsTuple a its.toArray from p) (by simp;lia) λh' eb=>⟨Z,I.turned (t':=s.toks) (λb o hb e=>eb b o hb e) f0 f1 f3 f4 f5⟩
 self:=λ_ _ _ _ _ st h=>wpAny_pyIter_tupleiter st h
theorem QL{P:af}{w:World}{K:aa}{tg:Expr}(it:Addr)(lo:Int)(n:Nat):Turn P w K tg (nZ lo n) [it] it (λi h=>IsRangeIter h it (lo+(i:Nat)*1) ((n:Int)-(i:Nat)) 1) where
 mem:=by simp
 obj:=λi h st b hb=>by
  have e:b=it:=by simpa using hb
  subst e;exact⟨_,st,λv z=>by have z':Data.fields _=Data.cell v:=z;cases z'⟩
 keep:=λi h h' st k=>k it (by simp) _ st
 item:=by intro X hP hw hK hc i ak s O H E I hf st hg;subst hP hw hK;obtain⟨f0,f1,f2,f3,f4,f5⟩:=hf it (by simp);have W:=Walks.range (prog:=X.prog) (w:=X.w) (I.ok.hd hc) it lo 1 n;refine W.item i s _ _ hg st λv h' tk hv gB kk=>?_;obtain⟨t,rfl⟩:=hv;have I1:Inv X ak O H {s with heap:=h',toks:=tk}:=I.turned (λb o hb e=>kk b o (by simpa using hb) e) f0 f1 f3 f4 f5;refine⟨_,Z,tL (s:={s with heap:=h',toks:=tk}) (n:="range_iterator") gB rfl rfl az ⟨.int (lo+i),H,I1,⟨t,?_⟩,⟨Z,Z⟩,gB,λb hb=>(hf b hb).1⟩⟩;rw[xy]
 done:=by intro X hP hw hK hc i ak s O H E I hf st hg;subst hP hw hK;obtain⟨f0,f1,f2,f3,f4,f5⟩:=hf it (by simp);exact wpAny_pyNext_range_end (I.ok.hd hc) st (by have:n<=i:=hg;lia) λh' eb=>⟨Z,I.turned (t':=s.toks) (λb o hb e=>eb b o hb e) f0 f1 f3 f4 f5⟩
 self:=λ_ _ _ _ _ st h=>Gz st h
section
variable {X:Cx} {tg:Expr}
inductive a7z(K:aa)(R:It->Hp->Prop)(x:V)(H1:Hp):Prop |mk (a:_)(h0:x= .ref a)(h1:(∃xs,aK K H1 a xs))(h2:R (u9 K a) H1)
def Mr(K:aa)(tl:TE):TI:=λO H R=>tl O H λx H1=>a7z K R x H1
inductive a7t(K:aa)(R:It->Hp->Prop)(x:V)(H1:Hp):Prop |mk (a:_)(h0:x= .ref a)(h1:(∃xs,aQ K H1 a xs))(h2:R (pM K a) H1)
def Mq(K:aa)(tl:TE):TI:=λO H R=>tl O H λx H1=>a7t K R x H1
theorem Uu{l:Expr}{tl:TE}(hl:PE X l tl):PI X tg l (Mr X.K tl):=by
 intro ak s O H R I h;refine aR (hl ak s O H _ I h) λv s1 ⟨x,H1,I1,r1,q1⟩=>?_;obtain⟨a,e,⟨xs,hq⟩,q⟩:=q1;subst e;cases r1;obtain⟨its,rv,p,hz⟩:=I1.list hq;refine Aa p.isList ?_;refine⟨s1.heap.objs.size,[s1.heap.objs.size],_,_,H1,Z,I1.kept (t':=s1.toks) λb o e=>bL _ e,QM a _,⟨_,dw _ Z,Z,Z⟩,λb hb=>?_,q⟩;have e:b=s1.heap.objs.size:=by simpa using hb
 subst e;exact I1.nQ (bA _) (I1.aV.fresh (bA _))
theorem Uq{l:Expr}{tl:TE}(hl:PE X l tl):PI X tg l (Mq X.K tl):=by
 intro ak s O H R I h;refine aR (hl ak s O H _ I h) λv s1 ⟨x,H1,I1,r1,q1⟩=>?_;obtain⟨a,e,⟨xs,hq⟩,q⟩:=q1;subst e;cases r1;obtain⟨its,rv,p,hz⟩:=I1.tuple hq;refine wpAny_pyIter_tuple (show s1.heap.IsTuple a its.toArray from p) ?_;refine⟨s1.heap.objs.size,[s1.heap.objs.size],_,_,H1,Z,I1.kept (t':=s1.toks) λb o e=>bL _ e,QH a _,⟨_,dw _ Z,Z,Z⟩,λb hb=>?_,q⟩;have e:b=s1.heap.objs.size:=by simpa using hb
 subst e;exact I1.nQ (bA _) (I1.aV.fresh (bA _))
theorem KA{ak:List (Addr×Obj)}{O:St}{H:Hp}{s:ae}{R:It->Hp->Prop}{E:Value->ae->Prop}{lo hi:Int}{t u v:Tok}{tk:Nat}(I:Inv X ak O H s)(h1:-(2^62)<=lo)(h2:lo<2^62)(h3:-(2^62)<=hi)(h4:hi<2^62) (q:R (nZ lo (hi-lo).toNat) H):wpAny (model X.prog X.w) X.A (pyIter (.ref s.heap.objs.size)) (Gq X ak O tg R) E {s with heap:=s.heap.push {cls:=.type "range",data:=.fields #[.int lo t,.int hi u,.int 1 v]},toks:=tk}:=by
 refine wpAny_pyIter_range (IsRange.new ..) (small_one h1 h2 h3 h4) ?_;have I1:Inv X ak O H {s with heap:=s.heap.push {cls:=.type "range",data:=.fields #[.int lo t,.int hi u,.int 1 v]},toks:=tk}:=I.kept λb o e=>bL _ e;refine⟨(s.heap.push {cls:=.type "range",data:=.fields #[.int lo t,.int hi u,.int 1 v]}).objs.size,[(s.heap.push {cls:=.type "range",data:=.fields #[.int lo t,.int hi u,.int 1 v]}).objs.size],_,_,H,Z,I1.kept (t':=tk) λb o e=>bL _ e,QL _ lo (hi-lo).toNat,?_,λb hb=>?_,q⟩
 ·have e1:lo+((0:Nat):Int)*1=lo:=by simp
  have e2:(((hi-lo).toNat:Nat):Int)-((0:Nat):Int)=Builtin.Range.rangeSize lo hi 1:=by rw[rangeSize_one];split<;>lia
  show IsRangeIter _ _ (lo+((0:Nat):Int)*1) ((((hi-lo).toNat:Nat):Int)-((0:Nat):Int)) 1;rw[e1,e2];exact dw _ rfl
 ·have e:b=(s.heap.push {cls:=.type "range",data:=.fields #[.int lo t,.int hi u,.int 1 v]}).objs.size:=by simpa using hb
  subst e;exact I1.nQ (bA _) (I1.aV.fresh (bA _))
inductive a7x(R:It->Hp->Prop)(vs:List V)(H1:Hp):Prop |mk (j:Int)(h0:vs=[.int j])(h1:-(2^62)<=j)(h2:j<2^62)(h3:R (nZ 0 j.toNat) H1)
def Zj(ta:TA):TI:=λO H R=>ta O H λvs H1=>a7x R vs H1
inductive a7v(R:It->Hp->Prop)(vs:List V)(H1:Hp):Prop |mk (i:Int)(j:Int)(h0:vs=[.int i,.int j])(h1:(-(2^62)<=i/\i<2^62/\-(2^62)<=j/\j<2^62))(h2:R (nZ i (j-i).toNat) H1)
def Zh(ta:TA):TI:=λO H R=>ta O H λvs H1=>a7v R vs H1
theorem sN{a:Expr}{ta:TA}{p pos:Pos}(hg:Gl X "range")(hm:X.mg "range"=none)(ha:PA X [a] ta)(hs:autoParam (starEach [a] X.env=[(false,eval a X.env)]) r8_._auto_1):PI X tg (.Call (.Name "range" p) [a] [] pos) (Zj ta):=by intro ak s O H R I h;refine Call_ (nC I hg hm boot_range (uk (aR (ha pos ak s O H _ I h) λus s1 ⟨vs,H1,I1,r1,q1⟩=>?_) hs Z));obtain⟨j,e,q1,q2,q⟩:=q1;subst e;cases r1 with |cons r rr=>cases rr;obtain⟨t,rfl⟩:=r;exact call_range_1 (KA I1 aw aw q1 q2 (by simpa using q))
theorem Us{a b:Expr}{ta:TA}{p pos:Pos}(hg:Gl X "range")(hm:X.mg "range"=none)(ha:PA X [a,b] ta)(hs:autoParam (starEach [a,b] X.env=[(false,eval a X.env),(false,eval b X.env)]) r8_._auto_1)(jc:autoParam (starEach [b] X.env=[(false,eval b X.env)]) r8_._auto_1): PI X tg (.Call (.Name "range" p) [a,b] [] pos) (Zh ta):=by intro ak s O H R I h;refine Call_ (nC I hg hm boot_range (uk (aR (ha pos ak s O H _ I h) λus s1 ⟨vs,H1,I1,r1,q1⟩=>?_) (by rw[hs,jc]) (by rw[jc];rfl)));obtain⟨i,j,e,⟨q1,q2,q3,q4⟩,q⟩:=q1;subst e;cases r1 with |cons r rr=>cases rr with |cons r' rr=>cases rr;obtain⟨t,rfl⟩:=r;obtain⟨t',rfl⟩:=r';exact call_range_2 (KA I1 q1 q2 q3 q4 q)
def RC(wi:TI)(g:TG)(tb:TS):TS:=λD O H=>wi O H λJ H1=>∃W:Nat->Nat->St->Hp->Prop,(∃m,W 0 m O H1)/\∀i m O H,W i m O H->(J.stop i H/\D.nx O H)\/(J.go i H/\∃N:St->Hp->Prop,(∀σ' H',N σ' H'->∃m',m'<m/\W (i+1) m' σ' H')/\∀x H',J.gw i H x H'->g x O H' λσ2 H2=>tb {D with nx:=N,ct:=N,bk:=D.nx} σ2 H2)
def qm(fp:List Addr)(h:Heap):List (Addr×Obj):=fp.filterMap λb=>(h.get? b).map λo=>(b,o)
theorem oN{fp:List Addr}{h:Heap}{b:Addr}{o:Obj}(hb:b∈fp)(e:h.get? b=some o):(b,o)∈qm fp h:=iV.mpr ⟨b,hb,by rw[e];rfl⟩
theorem WL{fp:List Addr}{h:Heap}{p:Addr×Obj}(hp:p∈qm fp h):p.1∈fp/\h.get? p.1=some p.2:=by obtain⟨b,hb,e⟩:=iV.mp hp;cases q:h.get? b with |none=>rw[q]at e;cases e |some o=>rw[q]at e;have e':(b,o)=p:=dW e;subst e';exact⟨hb,q⟩
theorem Inv.pinned{ak:List (Addr×Obj)}{O:St}{H:Hp}{s:ae}{fp:List Addr}(I:Inv X ak O H s)(hf:∀b∈fp,gH X ak H b)(ho:∀b∈fp,∃o,s.heap.get? b=some o/\∀v,o.data≠ .cell v):Inv X (ak++qm fp s.heap) O H s:=I.KR λp hp=>(xn.mp hp).elim (λz=>I.pin p (gL _ z)) λz=>by obtain⟨hb,e⟩:=WL z;obtain⟨f0,f1,f2,_⟩:=hf p.1 hb;obtain⟨o,e',d⟩:=ho p.1 hb;rw[e]at e';cases e';exact⟨e,f0,f1,f2,d⟩
theorem Inv.rQ{ak pl:List (Addr×Obj)}{O:St}{H:Hp}{s:ae}(I:Inv X (ak++pl) O H s):Inv X ak O H s:=I.KR λp hp=>I.pin p (gL _ (GU _ hp))
theorem iK{iter:Expr}{body:List Stmt}{wi:TI}{g:TG}{tb:TS}{pos:Pos}(hp:PassesOwn (model X.prog X.w) X.A X.env X.xe)(hc:X.calm=true)(hi:PI X tg iter wi)(hg:PG X tg g)(hb:eP X body tb) (hs:autoParam (∀x,foldedSetIterable iter X.env x=pure x) f8_._auto_1):PS X (.For tg iter body [] pos) (RC wi g tb):=by
 intro ak s O H D I h;refine wpAny_For (aR (hi ak s O H _ I h) λv s1 h1=>aR h1 λqH s2 h2=>?_) hs;obtain⟨it,fp,tn,J,H2,e,I2,T,lO,f2,W,⟨m0,w0⟩,turn⟩:=h2;subst e;have iI:∀{H':Hp},(∀b∈fp,H' b=none)->∀b∈fp,gH X ak H' b:=λhn b hb=>⟨hn b hb,(f2 b hb).2⟩;refine codeAny_forLoop_any (λn s'=>∃i σ' H',Inv X ak σ' H' s'/\tn i s'.heap/\(∀b∈fp,H' b=none)/\W i n σ' H') ?_ m0 ⟨0,O,H2,I2,lO,λb hb=>(f2 b hb).1,w0⟩;rintro n s3 ⟨i,σ3,H3,I3,HV,Nj,w3⟩;rcases turn i n σ3 H3 w3 with⟨stop,qn⟩|⟨go,N,hN,step⟩
 ·refine ua hp (aR (T.done X Z Z Z hc i ak s3 σ3 H3 X.xe I3 (iI Nj) HV stop) λr s4 ⟨hr,I4⟩=>?_)
  subst hr;exact Ac ⟨σ3,H3,I4,qn⟩
 ·refine ua hp (aR (T.item X Z Z Z hc i ak s3 σ3 H3 X.xe I3 (iI Nj) HV go) λr s4 ⟨u,hr,h4⟩=>?_)
  subst hr;refine ua hp (aR h4 λ_ s5 ⟨x,H5,I5,r5,y5,jF,mr⟩=>?_);have I5':=I5.pinned (iI mr) (T.obj _ _ jF);refine ua hp (aR (hg _ s5 σ3 H5 x u _ I5' r5 (step x H5 y5)) λ_ s6 ⟨σ6,H6,I6,q6⟩=>?_);refine ua hp (aR (hb _ s6 σ6 H6 _ I6 q6) λf s7 q7=>?_);have again:∀{σ7:St}{H7:Hp},Inv X (ak++qm fp s5.heap) σ7 H7 s7->N σ7 H7->∃m,m<n/\∃i σ' H',Inv X ak σ' H' s7/\tn i s7.heap/\(∀b∈fp,H' b=none)/\W i m σ' H':=λ{σ7 H7} I7 n7=>by obtain⟨m',hm,w7⟩:=hN σ7 H7 n7;refine⟨m',hm,i+1,σ7,H7,I7.rQ,T.keep _ _ _ jF λb hb o e=>(I7.pin (b,o) (gL _ (gL _ (oN hb e)))).1,λb hb=>?_,w7⟩;obtain⟨o,e,d⟩:=T.obj _ _ jF b hb;exact(I7.pin (b,o) (gL _ (gL _ (oN hb e)))).2.1
  cases f with |next=>obtain⟨σ7,H7,I7,n7⟩:=q7;exact again I7 n7 |cont=>obtain⟨σ7,H7,I7,n7⟩:=q7;exact again I7 n7 |brk=>obtain⟨σ7,H7,I7,q7⟩:=q7;exact⟨σ7,H7,I7.rQ,q7⟩ |ret v=>obtain⟨x7,σ7,H7,I7,r7,q7⟩:=q7;exact⟨x7,σ7,H7,I7.rQ,r7,q7⟩
end
theorem Nk{K:aa}{a:Addr}{xs:List V}{g:TG}{tb:TS}{D:Ends}{O:St}{H:Hp}(Pv:Nat->St->Hp->Prop)(h0:Pv 0 O H)(hl:∀i O H,i<=xs.length->Pv i O H->aK K H a xs) (hs:∀i x O H,xs[i]? =some x->Pv i O H->g x O H λσ2 H2=>tb {D with nx:=Pv (i+1),ct:=Pv (i+1),bk:=D.nx} σ2 H2)(hd:∀O H,Pv xs.length O H->D.nx O H): ∃W:Nat->Nat->St->Hp->Prop,(∃m,W 0 m O H)/\∀i m O H,W i m O H->((u9 K a).stop i H/\D.nx O H)\/((u9 K a).go i H/\∃N:St->Hp->Prop,(∀σ' H',N σ' H'->∃m',m'<m/\W (i+1) m' σ' H')/\∀x H',(u9 K a).gw i H x H'->g x O H' λσ2 H2=>tb {D with nx:=N,ct:=N,bk:=D.nx} σ2 H2):=by
 refine⟨λi m O H=>m=xs.length-i/\i<=xs.length/\Pv i O H,⟨xs.length,by simp,fh _,h0⟩,?_⟩;rintro i m O H ⟨rfl,hi,p⟩;have q:=hl i O H hi p;by_cases cm:i<xs.length
 ·refine .inr ⟨⟨xs,xs[i],q,by simp[cm]⟩,Pv (i+1),λσ' H' p'=>⟨xs.length-(i+1),aw,Z,cm,p'⟩,λx H' y=>?_⟩
  obtain⟨e,y⟩:=y;subst e;exact hs i x O _ (y xs q) p
 ·have e:i=xs.length:=by lia
  subst e;exact .inl ⟨⟨xs,q,bA _⟩,hd O H p⟩
theorem a2o{K:aa}{a:Addr}{xs:List V}{g:TG}{tb:TS}{D:Ends}{O:St}{H:Hp}(Pv:Nat->St->Hp->Prop)(h0:Pv 0 O H)(hl:∀i O H,i<=xs.length->Pv i O H->aQ K H a xs) (hs:∀i x O H,xs[i]? =some x->Pv i O H->g x O H λσ2 H2=>tb {D with nx:=Pv (i+1),ct:=Pv (i+1),bk:=D.nx} σ2 H2)(hd:∀O H,Pv xs.length O H->D.nx O H): ∃W:Nat->Nat->St->Hp->Prop,(∃m,W 0 m O H)/\∀i m O H,W i m O H->((pM K a).stop i H/\D.nx O H)\/((pM K a).go i H/\∃N:St->Hp->Prop,(∀σ' H',N σ' H'->∃m',m'<m/\W (i+1) m' σ' H')/\∀x H',(pM K a).gw i H x H'->g x O H' λσ2 H2=>tb {D with nx:=N,ct:=N,bk:=D.nx} σ2 H2):=by
 refine⟨λi m O H=>m=xs.length-i/\i<=xs.length/\Pv i O H,⟨xs.length,by simp,fh _,h0⟩,?_⟩;rintro i m O H ⟨rfl,hi,p⟩;have q:=hl i O H hi p;by_cases cm:i<xs.length
 ·refine .inr ⟨⟨xs,xs[i],q,by simp[cm]⟩,Pv (i+1),λσ' H' p'=>⟨xs.length-(i+1),bK,Z,cm,p'⟩,λx H' y=>?_⟩
  obtain⟨e,y⟩:=y;subst e;exact hs i x O _ (y xs q) p
 ·have e:i=xs.length:=by omega
  subst e;exact .inl ⟨⟨xs,q,bA _⟩,hd O H p⟩
theorem vZ{lo:Int}{n:Nat}{g:TG}{tb:TS}{D:Ends}{O:St}{H:Hp}(Pv:Nat->St->Hp->Prop)(h0:Pv 0 O H) (hs:∀i O H,i<n->Pv i O H->g (.int (lo+i)) O H λσ2 H2=>tb {D with nx:=Pv (i+1),ct:=Pv (i+1),bk:=D.nx} σ2 H2)(hd:∀O H,Pv n O H->D.nx O H): ∃W:Nat->Nat->St->Hp->Prop,(∃m,W 0 m O H)/\∀i m O H,W i m O H->((nZ lo n).stop i H/\D.nx O H)\/((nZ lo n).go i H/\∃N:St->Hp->Prop,(∀σ' H',N σ' H'->∃m',m'<m/\W (i+1) m' σ' H')/\∀x H',(nZ lo n).gw i H x H'->g x O H' λσ2 H2=>tb {D with nx:=N,ct:=N,bk:=D.nx} σ2 H2):=by
 refine⟨λi m O H=>m=n-i/\i<=n/\Pv i O H,⟨n,by simp,fh _,h0⟩,?_⟩;rintro i m O H ⟨rfl,hi,p⟩;by_cases cm:i<n
 ·refine .inr ⟨cm,Pv (i+1),λσ' H' p'=>⟨n-(i+1),aw,Z,cm,p'⟩,λx H' y=>?_⟩
  obtain⟨e,y⟩:=y;subst e y;exact hs i O _ cm p
 ·have e:i=n:=by lia
  subst e;exact .inl ⟨bA _,hd O H p⟩
theorem rP{c:TT}{tb:TS}{D:Ends}{O:St}{H:Hp}(Pv:St->Hp->Prop)(μ:St->Hp->Nat)(h0:Pv O H) (hs:∀O H,Pv O H->c O H λb H1=>if b=true then tb {D with nx:=λσ' H'=>Pv σ' H'/\μ σ' H'<μ O H,ct:=λσ' H'=>Pv σ' H'/\μ σ' H'<μ O H,bk:=D.nx} O H1 else D.nx O H1) (mono:∀O H Q Q',(∀b H1,Q b H1->Q' b H1)->c O H Q->c O H Q'):Hz c tb D O H:=by refine⟨λm O H=>m=μ O H/\Pv O H,⟨_,Z,h0⟩,?_⟩;rintro m O H ⟨rfl,p⟩;refine mono O H _ _ (λb H1 q=>?_) (hs O H p);cases b with |true=>exact⟨_,λσ' H' ⟨p',l⟩=>⟨_,l,Z,p'⟩,q⟩ |false=>exact q
abbrev R2:=V->V->Hp->VK->Prop
def cn(X:Cx)(f:Value->Value->Sem Value)(r:R2):Prop:=∀(ak:List (Addr×Obj))(s:ae)(O:St)(H:Hp)(x y:V)(v u:Value)(Q:VK),Inv X ak O H s->RelV x v->RelV y u->r x y H Q->wpAny (model X.prog X.w) X.A (f v u) (EP X ak O Q) X.xe s
def Gk(X:Cx)(f:Value->Sem Value)(r:V->Hp->VK->Prop):Prop:=∀(ak:List (Addr×Obj))(s:ae)(O:St)(H:Hp)(x:V)(v:Value)(Q:VK),Inv X ak O H s->RelV x v->r x H Q->wpAny (model X.prog X.w) X.A (f v) (EP X ak O Q) X.xe s
def eT(X:Cx)(f:Value)(r:List V->Hp->VK->Prop):Prop:=∀(ak:List (Addr×Obj))(s:ae)(O:St)(H:Hp)(xs:List V)(us:List Value)(Q:VK),Inv X ak O H s->Vals xs us->r xs H Q->wpAny (model X.prog X.w) X.A (call f us) (EP X ak O Q) X.xe s
def a5m(X:Cx)(r:V->Hp->(Bool->Hp->Prop)->Prop):Prop:=∀(ak:List (Addr×Obj))(s:ae)(O:St)(H:Hp)(x:V)(v:Value)(Q:Bool->Hp->Prop),Inv X ak O H s->RelV x v->r x H Q->wpAny (model X.prog X.w) X.A (truthy v) (TP X ak O Q) X.xe s
def uF(r:R2)(ta tb:TE):TE:=λO H Q=>ta O H λx H1=>tb O H1 λy H2=>r x y H2 Q
def QY(r:V->Hp->VK->Prop)(ta:TE):TE:=λO H Q=>ta O H λx H1=>r x H1 Q
inductive IrI(C:Int->Int->Prop)(g:Int->Int->V)(x:V)(y:V)(H:Hp)(Q:VK):Prop |mk (i:_)(j:_)(h0:x= .int i)(h1:y= .int j)(h2:C i j)(h3:Q (g i j) H)
def rI(C:Int->Int->Prop)(g:Int->Int->V):R2:=λx y H Q=>IrI C g x y H Q
inductive a7j(g:Int->Int->V)(x:V)(y:V)(H:Hp)(Q:VK):Prop |mk (i:_)(j:_)(h0:x= .int i)(h1:y= .int j)(h2:Q (g i j) H)
def j7(g:Int->Int->V):R2:=λx y H Q=>a7j g x y H Q
inductive IrU(g:Int->V)(x:V)(H:Hp)(Q:VK):Prop |mk (i:_)(h0:x= .int i)(h1:Q (g i) H)
def rU(g:Int->V):V->Hp->VK->Prop:=λx H Q=>IrU g x H Q
section
variable {X:Cx}{a b c:Expr}{ta tb tc:TE}{pos:Pos}
theorem G3(ha:PE X a ta)(hb:PE X b tb){ak:List (Addr×Obj)}{s:ae}{O:St}{H:Hp}{R:V->V->Hp->Prop}(I:Inv X ak O H s) (h:ta O H λx H1=>tb O H1 λy H2=>R x y H2){Q:Value->ae->Prop}{f:Value->Value->Sem Value} (hf:∀v u s2 x y H2,Inv X ak O H2 s2->RelV x v->RelV y u->R x y H2->wpAny (model X.prog X.w) X.A (f v u) Q X.xe s2): wpAny (model X.prog X.w) X.A (eval a X.env) (λv s₁=>wpAny (model X.prog X.w) X.A (eval b X.env) (λu s₂=>wpAny (model X.prog X.w) X.A (f v u) Q X.xe s₂) X.xe s₁) X.xe s:=by refine aR (ha ak s O H _ I h) λv s1 ⟨x,H1,I1,r1,q1⟩=>?_;refine aR (hb ak s1 O H1 _ I1 q1) λu s2 ⟨y,H2,I2,r2,q2⟩=>?_;exact hf v u s2 x y H2 I2 r1 r2 q2
theorem aW{op:Operator}{r:R2}(ho:cn X (binaryOp op) r)(ha:PE X a ta)(hb:PE X b tb):PE X (.BinOp a op b pos) (uF r ta tb):=by intro ak s O H Q I h;exact wpAny_BinOp (G3 ha hb I h λv u s2 x y H2 I2 rx ry q=>ho ak s2 O H2 x y v u Q I2 rx ry q)
theorem lU{op:UnaryOp}{r:V->Hp->VK->Prop}(ho:Gk X (unaryOp op) r)(ha:PE X a ta):PE X (.UnaryOp op a pos) (QY r ta):=by intro ak s O H Q I h;exact UnaryOp_ (aR (ha ak s O H _ I h) λv s1 ⟨x,H1,I1,r1,q1⟩=>ho ak s1 O H1 x v Q I1 r1 q1)
theorem ve{f:Value->Value->Sem Value}{C:Int->Int->Prop}{g:Int->Int->Int} (rule:∀(i j:Int)(t u:Tok)(s:ae)(Q:Value->ae->Prop)(E:Value->ae->Prop),C i j->Q (.int (g i j) s.toks) {s with toks:=s.toks+1}->wpAny (model X.prog X.w) X.A (f (.int i t) (.int j u)) Q E s): cn X f (rI C λi j=>.int (g i j)):=by intro ak s O H x y v u Q I rx ry h;obtain⟨i,j,rfl,rfl,hc,q⟩:=h;obtain⟨t,rfl⟩:=rx;obtain⟨t',rfl⟩:=ry;exact rule i j t t' s _ _ hc ⟨.int (g i j),H,I.tok _,⟨_,Z⟩,q⟩
theorem Lh{f:Value->Value->Sem Value}{g:Int->Int->Int} (rule:∀(i j:Int)(t u:Tok)(s:ae)(Q:Value->ae->Prop)(E:Value->ae->Prop),Q (.int (g i j) s.toks) {s with toks:=s.toks+1}->wpAny (model X.prog X.w) X.A (f (.int i t) (.int j u)) Q E s): cn X f (j7 λi j=>.int (g i j)):=by intro ak s O H x y v u Q I rx ry h;obtain⟨i,j,rfl,rfl,q⟩:=h;obtain⟨t,rfl⟩:=rx;obtain⟨t',rfl⟩:=ry;exact rule i j t t' s _ _ ⟨.int (g i j),H,I.tok _,⟨_,Z⟩,q⟩
theorem sQ{f:Value->Value->Sem Value}{g:Int->Int->Bool} (rule:∀(i j:Int)(t u:Tok)(s:ae)(Q:Value->ae->Prop)(E:Value->ae->Prop),Q (.bool (g i j)) s->wpAny (model X.prog X.w) X.A (f (.int i t) (.int j u)) Q E s): cn X f (j7 λi j=>.bl (g i j)):=by intro ak s O H x y v u Q I rx ry h;obtain⟨i,j,rfl,rfl,q⟩:=h;obtain⟨t,rfl⟩:=rx;obtain⟨t',rfl⟩:=ry;exact rule i j t t' s _ _ ⟨.bl (g i j),H,I,Z,q⟩
def P8(i j:Int):Prop:=0<=j/\j<=1000000/\i.natAbs<2^64
theorem fJ:cn X (binaryOp .Add) (j7 λi j=>.int (i+j)):=Lh λ_ _ _ _ _ _ _ q=>add_int q
theorem j8:cn X (binaryOp .Sub) (j7 λi j=>.int (i-j)):=Lh λ_ _ _ _ _ _ _ q=>sub_int q
theorem qr:cn X (binaryOp .Mod) (rI (λ_ j=>0<j) λi j=>.int (i%j)):=ve λi j _ _ _ _ _ hc q=>by have h1:(0:Int)<j:=hc;exact mod_int' aw (by rw[Int.fmod_eq_emod_of_nonneg i aw];exact q)
theorem vc:cn X (binaryOp .Pow) (rI P8 λi j=>.int (i^j.toNat)):=ve λ_ _ _ _ _ _ _ hc q=>pow_int_small hc.1 hc.2.1 hc.2.2 q
theorem QB{f:Value->Sem Value}{g:Int->Int} (rule:∀(i:Int)(t:Tok)(s:ae)(Q:Value->ae->Prop)(E:Value->ae->Prop),Q (.int (g i) s.toks) {s with toks:=s.toks+1}->wpAny (model X.prog X.w) X.A (f (.int i t)) Q E s): Gk X f (rU λi=>.int (g i)):=by intro ak s O H x v Q I rx h;obtain⟨i,rfl,q⟩:=h;obtain⟨t,rfl⟩:=rx;exact rule i t s _ _ ⟨.int (g i),H,I.tok _,⟨_,Z⟩,q⟩
theorem lN:Gk X (unaryOp .USub) (rU λi=>.int (-i)):=QB λ_ _ _ _ _ q=>neg_int q
end
def J6:V->V->Bool | .aY,.aY=>true| .aY,.int _=>true| .int _,.aY=>true| .aY,.bl _=>true| .bl _,.aY=>true| .aY,.str _=>true| .str _,.aY=>true | .int _,.int _=>true| .bl _,.bl _=>true| .str _,.str _=>true| .jg _,.jg _=>true | .int _,.str _=>true| .str _,.int _=>true| .bl _,.str _=>true| .str _,.bl _=>true |_,_=>false
def U7:R2:=λx y H Q=>J6 x y=true/\Q (.bl (decide (x=y))) H
def TX:R2:=λx y H Q=>J6 x y=true/\Q (.bl (!decide (x=y))) H
theorem O3{i j:Int}:decide (V.int i=V.int j)=(i==j):=by rw[iX];simp
theorem O5{i j:Bool}:decide (V.bl i=V.bl j)=(i==j):=by rw[iX];simp
theorem O2{i j:Str}:decide (V.str i=V.str j)=(i==j):=by rw[iX];simp
theorem O4{i j:Array UInt8}:decide (V.jg i=V.jg j)=(i.toList==j.toList):=by rw[iX];cases i;cases j;simp
section
variable {X:Cx}{a b c:Expr}{ta tb tc:TE}{pos:Pos}
theorem dC{ak:List (Addr×Obj)}{O:St}{H:Hp}{s:ae}{Q:VK}{k k':Bool}(I:Inv X ak O H s)(q:Q (.bl k) H)(e:k=k'):EP X ak O Q (.bool k') s:=by subst e;exact⟨.bl k,H,I,Z,q⟩
theorem qt:cn X (compareOp .Eq) U7:=by intro ak s O H x y v u Q I rx ry h;obtain⟨hs,q⟩:=h;cases x with
 |aY=>cases rx;cases y with |aY=>cases ry;exact PySem.EqNone.eq_none_none (dC I q (by simp)) |bl j=>cases ry;exact PySem.EqNone.eq_none_bool (dC I q (by simp)) |int j=>obtain⟨t',rfl⟩:=ry;exact PySem.EqNone.eq_none_int (dC I q (by simp)) |str j=>obtain⟨t',rfl⟩:=ry;exact PySem.EqNone.eq_none_str (dC I q (by simp)) |_=>exact absurd (show false=true from hs) cI
 |bl i=>cases rx;cases y with |aY=>cases ry;exact PySem.EqNone.eq_bool_none (dC I q (by simp)) |bl j=>cases ry;exact eq_bool (dC I q O5) |str j=>obtain⟨t',rfl⟩:=ry;exact PySem.EqMixed.eq_bool_str (dC I q (by simp)) |_=>exact absurd (show false=true from hs) cI
 |int i=>obtain⟨t,rfl⟩:=rx;cases y with |aY=>cases ry;exact PySem.EqNone.eq_int_none (dC I q (by simp)) |int j=>obtain⟨t',rfl⟩:=ry;exact eq_int (dC I q O3) |str j=>obtain⟨t',rfl⟩:=ry;exact PySem.EqMixed.eq_int_str (dC I q (by simp)) |_=>exact absurd (show false=true from hs) cI
 |str i=>obtain⟨t,rfl⟩:=rx;cases y with |aY=>cases ry;exact PySem.EqNone.eq_str_none (dC I q (by simp)) |bl j=>cases ry;exact PySem.EqMixed.eq_str_bool (dC I q (by simp)) |int j=>obtain⟨t',rfl⟩:=ry;exact PySem.EqMixed.eq_str_int (dC I q (by simp)) |str j=>obtain⟨t',rfl⟩:=ry;exact eq_str (dC I q O2) |_=>exact absurd (show false=true from hs) cI
 |jg i=>obtain⟨t,rfl⟩:=rx;cases y with |jg j=>obtain⟨t',rfl⟩:=ry;exact PySem.W.eq_bytes (dC I q O4) |_=>exact absurd (show false=true from hs) cI
 |_=>cases y<;>exact absurd (show false=true from hs) cI
theorem V1:cn X (compareOp .NotEq) TX:=by intro ak s O H x y v u Q I rx ry h;obtain⟨hs,q⟩:=h;cases x with
 |aY=>cases rx;cases y with |aY=>cases ry;exact PySem.EqNone.ne_none_none (dC I q (by simp)) |bl j=>cases ry;exact PySem.EqNone.ne_none_bool (dC I q (by simp)) |int j=>obtain⟨t',rfl⟩:=ry;exact PySem.EqNone.ne_none_int (dC I q (by simp)) |str j=>obtain⟨t',rfl⟩:=ry;exact PySem.EqNone.ne_none_str (dC I q (by simp)) |_=>exact absurd (show false=true from hs) cI
 |bl i=>cases rx;cases y with |aY=>cases ry;exact PySem.EqNone.ne_bool_none (dC I q (by simp)) |bl j=>cases ry;exact ne_bool (dC I q (oa not O5)) |str j=>obtain⟨t',rfl⟩:=ry;exact PySem.EqMixed.ne_bool_str (dC I q (by simp)) |_=>exact absurd (show false=true from hs) cI
 |int i=>obtain⟨t,rfl⟩:=rx;cases y with |aY=>cases ry;exact PySem.EqNone.ne_int_none (dC I q (by simp)) |int j=>obtain⟨t',rfl⟩:=ry;exact ne_int (dC I q (oa not O3)) |str j=>obtain⟨t',rfl⟩:=ry;exact PySem.EqMixed.ne_int_str (dC I q (by simp)) |_=>exact absurd (show false=true from hs) cI
 |str i=>obtain⟨t,rfl⟩:=rx;cases y with |aY=>cases ry;exact PySem.EqNone.ne_str_none (dC I q (by simp)) |bl j=>cases ry;exact PySem.EqMixed.ne_str_bool (dC I q (by simp)) |int j=>obtain⟨t',rfl⟩:=ry;exact PySem.EqMixed.ne_str_int (dC I q (by simp)) |str j=>obtain⟨t',rfl⟩:=ry;exact ne_str (dC I q (oa not O2)) |_=>exact absurd (show false=true from hs) cI
 |jg i=>obtain⟨t,rfl⟩:=rx;cases y with |jg j=>obtain⟨t',rfl⟩:=ry;exact PySem.W.ne_bytes (dC I q (oa not O4)) |_=>exact absurd (show false=true from hs) cI
 |_=>cases y<;>exact absurd (show false=true from hs) cI
theorem ng:cn X (compareOp .Lt) (j7 λi j=>.bl (decide (i<j))):=sQ λ_ _ _ _ _ _ _ q=>lt_int q
theorem yF:cn X (compareOp .LtE) (j7 λi j=>.bl (decide (i<=j))):=sQ λ_ _ _ _ _ _ _ q=>le_int q
theorem Dn:cn X (compareOp .Gt) (j7 λi j=>.bl (decide (j<i))):=sQ λ_ _ _ _ _ _ _ q=>gt_int q
theorem Dp:cn X (compareOp .GtE) (j7 λi j=>.bl (decide (j<=i))):=sQ λ_ _ _ _ _ _ _ q=>ge_int q
theorem V3:cn X (compareOp .In) (λx y H Q=>∃i j,x= .str i/\y= .str j/\Q (.bl (!(Builtin.Str.occurrences j i 0 j.length 1).isEmpty)) H):=by intro ak s O H x y v u Q I rx ry h;obtain⟨i,j,rfl,rfl,q⟩:=h;obtain⟨t,rfl⟩:=rx;obtain⟨t',rfl⟩:=ry;exact in_str (dC I q Z)
theorem V2:cn X (compareOp .Is) (λx y H Q=>y= .aY/\Q (.bl (decide (x= .aY))) H):=by intro ak s O H x y v u Q I rx ry h;obtain⟨rfl,q⟩:=h;cases ry;refine is_none_gen (dC I q ?_);cases x<;>first |(cases rx;rfl) |(obtain⟨t,rfl⟩:=rx;rfl)
theorem Dm:cn X (compareOp .IsNot) (λx y H Q=>y= .aY/\Q (.bl (!decide (x= .aY))) H):=by intro ak s O H x y v u Q I rx ry h;obtain⟨rfl,q⟩:=h;cases ry;refine isnot_none_gen (dC I q ?_);cases x<;>first |(cases rx;rfl) |(obtain⟨t,rfl⟩:=rx;rfl)
theorem cn.or{f:Value->Value->Sem Value}{r r':R2}(h:cn X f r)(h':cn X f r'):cn X f (λx y H Q=>r x y H Q\/r' x y H Q):=by
 intro ak s O H x y v u Q I rx ry q;rcases q with q|q
 ·exact h ak s O H x y v u Q I rx ry q
 ·exact h' ak s O H x y v u Q I rx ry q
theorem bM(b:Expr){op:CmpOp}(h:autoParam (op≠ .In) q8_._auto_1)(h2:autoParam (op≠ .NotIn) q8_._auto_1):behindInMarks op b=false:=by
 have e1:(op==CmpOp.In)=false:=by cases op<;>first|rfl|exact absurd rfl h
 have e2:(op==CmpOp.NotIn)=false:=by cases op<;>first|rfl|exact absurd rfl h2
 cases b<;>simp[behindInMarks,e1,e2]
theorem jH{op:CmpOp}{r:R2}(ho:cn X (compareOp op) r)(ha:PE X a ta)(hb:PE X b tb)(hm:behindInMarks op b=false):PE X (.Compare a [op] [b] pos) (uF r ta tb):=by intro ak s O H Q I h;exact wpAny_Compare1 (G3 ha hb I h λv u s2 x y H2 I2 rx ry q=>ho ak s2 O H2 x y v u Q I2 rx ry q) hm
inductive a5z(Q:Bool->Hp->Prop)(x:V)(H':Hp):Prop |mk (k:_)(h0:x= .bl k)(h1:Q k H')
def HB(t:TE):TT:=λO H Q=>t O H λx H'=>a5z Q x H'
theorem bT{op:CmpOp}{r:R2}(ho:cn X (compareOp op) r)(ha:PE X a ta)(hb:PE X b tb)(hm:behindInMarks op b=false):PT X (.Compare a [op] [b] pos) (HB (uF r ta tb)):=by intro ak s O H Q I h;refine wpAny_isTrue_Compare1 (aR (ha ak s O H _ I h) λv s1 ⟨x,H1,I1,r1,q1⟩=>aR (hb ak s1 O H1 _ I1 q1) λu s2 ⟨y,H2,I2,r2,q2⟩=>aR (ho ak s2 O H2 x y v u _ I2 r1 r2 q2) λc s3 ⟨z,H3,I3,r3,k,e,q3⟩=>?_) hm;subst e;cases r3;exact mI ⟨H3,I3,q3⟩
inductive a5E(r':R2)(tc:TE)(O:St)(Q:VK)(y:V)(z:V)(H3:Hp):Prop |mk (k:_)(h0:z= .bl k)(h1:(if k=true then tc O H3 λw' H4=>r' y w' H4 Q else Q (.bl false) H3))
def HJ(r r':R2)(ta tb tc:TE):TE:=λO H Q=>ta O H λx H1=>tb O H1 λy H2=>r x y H2 λz H3=>a5E r' tc O Q y z H3
theorem UG{op qv:CmpOp}{r r':R2}(ho:cn X (compareOp op) r)(kL:cn X (compareOp qv) r')(ha:PE X a ta)(hb:PE X b tb)(hc:PE X c tc) (hm:autoParam (lastMarks [op,qv] [b,c]=false) v8_._auto_1):PE X (.Compare a [op,qv] [b,c] pos) (HJ r r' ta tb tc):=by intro ak s O H Q I h;refine Compare_chain (aR (ha ak s O H _ I h) λv s1 ⟨x,H1,I1,r1,q1⟩=>chain_link (aR (hb ak s1 O H1 _ I1 q1) λu s2 ⟨y,H2,I2,r2,q2⟩=>aR (ho ak s2 O H2 x y v u _ I2 r1 r2 q2) λd s3 ⟨z,H3,I3,r3,k,e,q3⟩=>?_)) hm;subst e;cases r3;refine mI ?_;cases k with |false=>exact ite_ff ⟨.bl false,H3,I3,Z,q3⟩ |true=>exact ite_tt (chain_last (aR (hc ak s3 O H3 _ I3 q3) λw' s4 ⟨z',H4,I4,r4,q4⟩=>kL ak s4 O H4 y z' u w' Q I4 r2 r4 q4))
theorem Ue{op qv:CmpOp}{r r':R2}(ho:cn X (compareOp op) r)(kL:cn X (compareOp qv) r')(ha:PE X a ta)(hb:PE X b tb)(hc:PE X c tc) (hm:autoParam (lastMarks [op,qv] [b,c]=false) v8_._auto_1):PT X (.Compare a [op,qv] [b,c] pos) (HB (HJ r r' ta tb tc)):=by intro ak s O H Q I h;refine isTrue_chain (aR (ha ak s O H _ I h) λv s1 ⟨x,H1,I1,r1,q1⟩=>test_link (aR (hb ak s1 O H1 _ I1 q1) λu s2 ⟨y,H2,I2,r2,q2⟩=>aR (ho ak s2 O H2 x y v u _ I2 r1 r2 q2) λd s3 ⟨z,H3,I3,r3,k,e,q3⟩=>?_)) hm;subst e;cases r3;refine mI ?_;cases k with |false=>obtain⟨k',e',q'⟩:=q3;cases e';exact ite_ff ⟨H3,I3,q'⟩ |true=>refine ite_tt (test_last (aR (hc ak s3 O H3 _ I3 q3) λw' s4 ⟨z',H4,I4,r4,q4⟩=>aR (kL ak s4 O H4 y z' u w' _ I4 r2 r4 q4) λd' s5 ⟨z2,H5,I5,r5,k2,e2,q5⟩=>?_));subst e2;cases r5;exact mI ⟨H5,I5,q5⟩
def Gn(K:aa)(x:V)(H:Hp)(k:Bool):Prop:=match x with | .aY=>k=false | .bl b=>k=b | .int i=>k=(i !=0) | .str y=>y.length<=sizeLine/\k=((y.length:Int) !=0) | .jg y=>y.size<=sizeLine/\k=((y.size:Int) !=0) | .ref p=>(∃xs,aK K H p xs/\k= !xs.isEmpty)\/(∃xs,aQ K H p xs/\k= !xs.isEmpty)\/∃dj,H p=some (.dK dj)/\k= !dj.isEmpty |_=>False
theorem Z1{κ:Type}{dj:List (κ×V)}{vs:List (κ×Value)}(r:KV dj vs):(!vs.isEmpty)= !dj.isEmpty:=by cases r<;>rfl
theorem Mm{xs:List V}{its:List Value}(r:Vals xs its):(!its.toArray.isEmpty)= !xs.isEmpty:=by cases r<;>simp
theorem qG:(sizeLine:Nat)<2^63:=by rw[ug];decide
theorem QO:a5m X (λx H Q=>∃k,Gn X.K x H k/\Q k H):=by intro ak s O H x v Q I rx h;obtain⟨k,e,q⟩:=h;have hl:=qG;have hs:sizeLine=16777216:=ug;cases x with |aY=>cases rx;have e':k=false:=e;subst e';exact truthy_none ⟨H,I,q⟩ |bl b=>cases rx;have e':k=b:=e;subst e';exact mI ⟨H,I,q⟩ |int i=>obtain⟨t,rfl⟩:=rx;have e':k=(i !=0):=e;subst e';exact PySem.P.truthy_int ⟨H,I,q⟩ |str y=>obtain⟨t,rfl⟩:=rx;obtain⟨hy,e'⟩:y.length<=sizeLine/\k=((y.length:Int) !=0):=e;subst e';exact PySem.P.truthy_str aw ⟨H,I.tok _,q⟩ |jg y=>obtain⟨t,rfl⟩:=rx;obtain⟨hy,e'⟩:y.size<=sizeLine/\k=((y.size:Int) !=0):=e;subst e';exact PySem.W.truthy_bytes aw ⟨H,I.tok _,q⟩ |ref p=>
 cases rx;have e':(∃xs,aK X.K H p xs/\k= !xs.isEmpty)\/(∃xs,aQ X.K H p xs/\k= !xs.isEmpty)\/∃dj,H p=some (.dK dj)/\k= !dj.isEmpty:=e;rcases e' with⟨xs,hx,e'⟩|⟨xs,hx,e'⟩|⟨dj,hx,e'⟩
 ·subst e'
  obtain⟨its,r,pl,hz⟩:=I.list hx;have hlen:=r.length;exact wpAny_truthy_list pl.isList (by simp only[cY];lia) ⟨H,I.tok _,by rw[Mm r];exact q⟩
 ·subst e'
  obtain⟨its,r,pl,hz⟩:=I.tuple hx;have hlen:=r.length;exact truthy_tuple pl (by simp only[cY];lia) ⟨H,I.tok _,by rw[Mm r];exact q⟩
 ·subst e'
  obtain⟨hz,hS,vs,r,m⟩:dj.length<=sizeLine/\(p==sysModules)=false/\∃vs,KV dj vs/\s.heap.DictOf (DM X.prog X.w) p vs:=I.aV p _ hx;have hlen:dj.length=vs.length:=Paired.length r;exact wpAny_truthy_dict hS m aw ⟨H,I.tok _,by rw[Z1 r];exact q⟩ |_=>exact(show False from e).elim
theorem Uc(ha:PE X a ta)(he:∀whole,isTrue a X.env whole=(do let v<-whole;standAt a.pos;holding [v] (truthy v))): PT X a (λO H Q=>ta O H λx H'=>∃k,Gn X.K x H' k/\Q k H'):=by intro ak s O H Q I h;exact isTrue_plain (aR (ha ak s O H _ I h) λv s1 ⟨x,H1,I1,r1,q1⟩=>QO ak s1 O H1 x v Q I1 r1 q1) (he _)
theorem vals1{x:V}{us:List Value}(r:Vals [x] us):∃u,us=[u]/\RelV x u:=by cases r with |cons r1 r2=>cases r2;exact⟨_,rfl,r1⟩
theorem vals2{x y:V}{us:List Value}(r:Vals [x,y] us):∃u w',us=[u,w']/\RelV x u/\RelV y w':=by cases r with |cons r1 r2=>cases r2 with |cons r3 r4=>cases r4;exact⟨_,_,rfl,r1,r3⟩
theorem tW:eT X (.builtin "abs") (λxs H Q=>∃i,xs=[.int i]/\Q (.int (if i<0 then-i else i)) H):=by intro ak s O H xs us Q I r h;obtain⟨i,rfl,q⟩:=h;obtain⟨u,rfl,t,rfl⟩:=vals1 r;exact call_abs_int λu tk=>⟨.int (if i<0 then-i else i),H,I.tok _,⟨_,Z⟩,q⟩
theorem a4C(hc:X.calm=true):eT X (.builtin "max") (λxs H Q=>∃i j,xs=[.int i,.int j]/\Q (.int (if j>i then j else i)) H):=by
 intro ak s O H xs us Q I r h;obtain⟨i,j,rfl,q⟩:=h;obtain⟨u,w',rfl,⟨t,rfl⟩,⟨t',rfl⟩⟩:=vals2 r;refine max_two_ints (I.ok.hd hc) λh' tk k=>⟨_,H,I.kept k,?_,q⟩;by_cases hj:j>i
 ·rw[bo hj,bo hj];exact⟨_,Z⟩
 ·rw[bf hj,bf hj];exact⟨_,Z⟩
theorem Om(hc:X.calm=true):eT X (.builtin "min") (λxs H Q=>∃i j,xs=[.int i,.int j]/\Q (.int (if j<i then j else i)) H):=by
 intro ak s O H xs us Q I r h;obtain⟨i,j,rfl,q⟩:=h;obtain⟨u,w',rfl,⟨t,rfl⟩,⟨t',rfl⟩⟩:=vals2 r;refine min_two_ints (I.ok.hd hc) λh' tk k=>⟨_,H,I.kept k,?_,q⟩;by_cases hj:j<i
 ·rw[bo hj,bo hj];exact⟨_,Z⟩
 ·rw[bf hj,bf hj];exact⟨_,Z⟩
end
structure qZ(h:Heap)(x dx C:Addr)(mA:bc):Prop where
 obj:h.get? x=some (PySem.W.instObj C dx)
 ns:h.Ns1 dx mA
 ne:dx≠x
theorem M0{h:Heap}{dx:Addr}{mA:bc}(n:h.Ns1 dx mA):∃od,h.get? dx=some od/\∀name,PySem.W.lookIn name od=some (mA name):=by
 obtain⟨o,es,ep,ho,hd,hk,_,hm⟩:=n;refine⟨o,ho,λname=>?_⟩;have e:=hm name;unfold nsFind findBy at e;rw[<-Array.find?_toList]at e;unfold PySem.W.lookIn;rw[hd];dsimp only;split
 ·rename_i y q
  rw[q]at e;exact oa some e
 ·rename_i q
  rw[q]at e;have a:es.toList.any (·.refKey)=false:=by rw[List.any_eq_false];intro y hy;obtain⟨z,t,a06⟩:=hk y (Array.mem_toList_iff.mp hy);simp[DictEntry.refKey,a06]
  have a':¬es.toList.any (·.refKey)=true:=by rw[a];exact cI
  rw[bf a'];exact oa some e
theorem qZ.look{h:Heap}{x dx C:Addr}{mA:bc}(I:qZ h x dx C mA):∃od,PySem.W.InstAt h x (PySem.W.instObj C dx) C (some od)/\∀name,PySem.W.lookIn name od=some (mA name):=let⟨od,ho,hl⟩:=M0 I.ns
 ⟨od,⟨I.obj,Z,Z,ho⟩,hl⟩
section
variable {prog:af}{w:World}{A:ai}{E:Value->ae->Prop}{s:ae}{K:aa}{x dx C f:Addr}{mA:bc}{name:Str}{v:Value}
theorem get_map{expr:Bool}{Q:Value->ae->Prop}(X:K.In s.heap)(I:qZ s.heap x dx C mA)(hg:PySem.W.plainGet K C name=true)(hh:PySem.W.hasDictIn K C=true) (ha:PySem.W.findIn K (.ref C) name=some none)(hv:mA name=some v)(Zs:PySem.W.handedIn v=true)(h:Q v {s with toks:=s.toks+1}): wpAny (model prog w) A (getAttr (.ref x) name expr) Q E s:=by obtain⟨od,J,hl⟩:=I.look;exact PySem.W.get_value X J (Pq hg).1 (PySem.W.findObj_own hh ha Z (by rw[hl,hv])) Zs h
theorem a1S{pl:Sem Bool}{Q:Value×List Value->ae->Prop}(X:K.In s.heap)(I:qZ s.heap x dx C mA)(hg:PySem.W.plainGet K C name=true) (hf:PySem.W.findIn K (.ref C) name=some (some (.ref f)))(ht:PySem.W.isFn K (.ref f)=true)(hv:mA name=none)(h:Q (.ref f,[.ref x]) s): wpAny (model prog w) A (getMethod (.ref x) name pl) Q E s:=by obtain⟨od,J,hl⟩:=I.look;exact PySem.W.method_fn X J (Pq hg).1 (Pq hg).2 hf (cP.mp ht) (by show(PySem.W.lookIn name od).map (·.isSome)=some false;rw[hl,hv];rfl) h
theorem Sk{ns:List Str}{Q:Unit->ae->Prop}(X:K.In s.heap)(I:qZ s.heap x dx C mA) (hs:PySem.W.findIn K (.ref C) "__setattr__"=some (some (.builtin "object.__setattr__")))(hp:PySem.W.plainOver K C=true)(ht:PySem.W.takerIn K C name=some none)(hh:PySem.W.hasDictIn K C=true) (hw:PySem.Within mA ns)(hsz:ns.length<=sizeLine) (h:∀h',qZ h' x dx C (λy=>if y=name then some v else mA y)->Heap.SameBut dx s.heap h'->Q () {s with heap:=h',toks:=s.toks+2}): wpAny (model prog w) A (setAttr (.ref x) name v) Q E s:=by obtain⟨od,J,hl⟩:=I.look;refine Pp X J hs (PySem.W.osa_open (s:={s with toks:=s.toks+1}) (r:=none) X J hp ht λb=>?_);obtain⟨cd,hc,EB⟩:=Ak hh;have hx:s.heap.get? x=some ⟨.ref C,some dx,.plain,#[]⟩:=I.obj;refine aB (bB (aB (aB (GB hx (aB (jY (s:={s with toks:=s.toks+1}) (Ai X hc) ?_))))));rw[EB];refine bB (a:=some dx) (aB (bB (aB ?_)));refine wpAny_nsSet1 (s:={s with toks:=s.toks+1}) I.ns λh' tE jc=>?_;obtain⟨oD,esD,epD,En,hdD,hcD⟩:=tE.count (Po name v hw);refine aB (wpAny_lookBehind En (by rw[hdD];exact pastItsLine_dict (fA hcD (by rw[fC];lia))) ?_);exact bB (h _ ⟨(jc.2 _ (iU I.ne)).trans I.obj,tE,I.ne⟩ jc)
theorem XZ{R:Result->ae->Prop}{vs:List Value}{kw:List (Str×Value)}(X:K.In s.heap)(hm:PySem.W.makesIn K C=true) (hi:PySem.W.findIn K (.ref C) "__init__"=some (some (.ref f)))(hf:PySem.W.typeIn K (.ref f)=some (.type "function")) (h:codeAny (model prog w) (A.under (.builtin "type.__call__" ⟨.ref C::vs,kw⟩)) (.call (.ref f) ⟨.ref (s.heap.objs.size+1)::vs,kw⟩) (PySem.W.InitBack (s.heap.objs.size+1) R) {s with heap:=(s.heap.push PySem.W.emptyDict).push (PySem.W.instObj C s.heap.objs.size)}): codeAny (model prog w) A (.call (.ref C) ⟨vs,kw⟩) R s:=by obtain⟨hh,g,d,t,os⟩:=s;exact PySem.W.make_core (PySem.W.makes_of X hm) (Pt X hi) (λself=>PySem.W.bind_fn X self hf) (.inl Z) h
end
def fM(f:Str)(v:V):List (Str×V)->List (Str×V) |[]=>[(f,v)] |(g,x)::r=>if g=f then(g,v)::r else(g,x)::fM f v r
theorem DW(f g:Str)(v:V):∀fs:List (Str×V),(fM f v fs).lookup g=if g=f then some v else fs.lookup g
 |[]=>by
  show List.lookup g [(f,v)]=_;by_cases h:g=f
  ·have hb:(g==f)=true:=cP.mpr h
   simp only[List.lookup,hb,bo h]
  ·have hb:(g==f)=false:=Af.mpr h
   simp only[List.lookup,hb,bf h] |(k,x)::r=>by
  have ih:=DW f g v r;rw[show fM f v ((k,x)::r)=(if k=f then(k,v)::r else(k,x)::fM f v r)from rfl];by_cases hk:k=f
  ·rw[bo hk]
   by_cases h:g=k
   ·have hb:(g==k)=true:=cP.mpr h
    simp only[List.lookup,hb,bo (h.trans hk)]
   ·have hb:(g==k)=false:=Af.mpr h
    simp only[List.lookup,hb,bf (λe:g=f=>h (e.trans hk.symm))]
  ·rw[bf hk]
   by_cases h:g=k
   ·have hb:(g==k)=true:=cP.mpr h
    simp only[List.lookup,hb,bf (λe:g=f=>hk (h.symm.trans e))]
   ·have hb:(g==k)=false:=Af.mpr h
    simp only[List.lookup,hb];exact ih
theorem E2(f:Str)(v:V):∀fs:List (Str×V),f∈(fM f v fs).map (·.1)/\∀g,g∈fs.map (·.1)->g∈(fM f v fs).map (·.1)
 |[]=>⟨by simp[fM],λg h=>by simp at h⟩ |(k,x)::r=>by
  obtain⟨i1,i2⟩:=E2 f v r;rw[show fM f v ((k,x)::r)=(if k=f then(k,v)::r else(k,x)::fM f v r)from rfl];by_cases hk:k=f
  ·rw[bo hk]
   subst hk;exact⟨by simp,λg h=>by simpa using h⟩
  ·rw[bf hk]
   refine⟨?_,λg h=>?_⟩
   ·rw[uw]
    exact uv _ i1
   ·rw[uw]at h⊢
    rcases bZ.mp h with e|e
    ·exact bZ.mpr (.inl e)
    ·exact uv _ (i2 g e)
theorem M8(f:Str)(v:V):∀fs:List (Str×V),(fM f v fs).length<=fs.length+1
 |[]=>by simp[fM] |(k,x)::r=>by
  have ih:=M8 f v r;rw[show fM f v ((k,x)::r)=(if k=f then(k,v)::r else(k,x)::fM f v r)from rfl];by_cases hk:k=f
  ·rw[bo hk,fC,fC];lia
  ·rw[bf hk,fC,fC];lia
theorem mE.some_of{v:V}{o:Option Value}(r:mE (some v) o):∃u,o=some u/\RelV v u:=by cases o with |none=>exact(show False from r).elim |some u=>exact⟨u,Z,r⟩
theorem mE.none_of{o:Option Value}(r:mE none o):o=none:=by cases o with |none=>rfl |some u=>exact(show False from r).elim
theorem a0Q{v:V}{u:Value}(r:RelV v u):PySem.W.handedIn u=true:=by cases v with |aY=>cases(show u=Value.none from r);rfl |bl b=>cases(show u=Value.bool b from r);rfl |int i=>obtain⟨t,e⟩:=(show∃t,u=Value.int i t from r);cases e;rfl |str x=>obtain⟨t,e⟩:=(show∃t,u=Value.str x t from r);cases e;rfl |jg b=>obtain⟨t,e⟩:=(show∃t,u=Value.bytes b t from r);cases e;rfl |zy b=>obtain⟨t,e⟩:=(show∃t,u=Value.float b t from r);cases e;rfl |ref a=>cases(show u=Value.ref a from r);rfl |ty n=>cases(show u=Value.type n from r);rfl
section
variable {P:af}{w:World}{H H':Hp}{h h':Heap}{a C dx:Addr}{fs ix:List (Str×V)}
theorem E9(aV:dv P w H h)(e:H a=some (.ins C dx fs)):∃mA,qZ h a dx C mA/\(∀f,mE (fs.lookup f) (mA f))/\PySem.Within mA (fs.map (·.1))/\fs.length<=1000/\H dx=some (.own a):=by obtain⟨d,z,ne,ob,mA,n,r,q⟩:=(show eQ P w H h a (.ins C dx fs)from aV a _ e);exact⟨mA,⟨ob,n,ne⟩,r,q,z,d⟩
end
structure gI(K:aa)(C:Addr):Prop where
 pg:PySem.W.plainGet K C Str.empty=true
 hd:PySem.W.hasDictIn K C=true
 po:PySem.W.plainOver K C=true
 sa:PySem.W.findIn K (.ref C) "__setattr__"=some (some (.builtin "object.__setattr__"))
theorem gI.get{K:aa}{C:Addr}(c:gI K C)(f:Str):PySem.W.plainGet K C f=true:=c.pg
def gp(K:aa)(C:Addr)(f:Str):Prop:=PySem.W.findIn K (.ref C) f=some none
theorem gp.QX{K:aa}{C:Addr}{f:Str}(n:gp K C f):PySem.W.takerIn K C f=some none:=by unfold PySem.W.takerIn;rw[show PySem.W.findIn K (.ref C) f=some none from n];rfl
structure Meth(K:aa)(C:Addr)(m:Str)(f:Addr):Prop where
 at_:PySem.W.findIn K (.ref C) m=some (some (.ref f))
 fn:PySem.W.isFn K (.ref f)=true
 kp:PySem.W.keepIn K (.ref f)=true
section
variable {X:Cx}{ak:List (Addr×Obj)}{O:St}{H:Hp}{s:ae}{a C dx:Addr}{fs:List (Str×V)}{f:Str}{v:V}{A:ai}{E:Value->ae->Prop}
theorem Nf{b:Bool}{Q:Value->ae->Prop}(I:Inv X ak O H s)(e:H a=some (.ins C dx fs))(c:gI X.K C)(n:gp X.K C f)(l:fs.lookup f=some v) (h:∀u s',Inv X ak O H s'->RelV v u->Q u s'):wpAny (model X.prog X.w) A (getAttr (.ref a) f b) Q E s:=by obtain⟨mA,a8X,r,_,_,_⟩:=E9 I.aV e;obtain⟨u,hu,ru⟩:=mE.some_of (v:=v) (o:=mA f) (by rw[<-l];exact r f);exact get_map I.dH a8X (c.get f) c.hd n hu (a0Q ru) (h u _ (I.tok _) ru)
theorem Nd{m:Str}{g:Addr}{pl:Sem Bool}{Q:Value×List Value->ae->Prop}(I:Inv X ak O H s)(e:H a=some (.ins C dx fs))(c:gI X.K C)(k:Meth X.K C m g)(l:fs.lookup m=none) (h:Q (.ref g,[.ref a]) s):wpAny (model X.prog X.w) A (getMethod (.ref a) m pl) Q E s:=by obtain⟨mA,a8X,r,_,_,_⟩:=E9 I.aV e;have hn:mA m=none:=mE.none_of (by rw[<-l];exact r m);exact a1S I.dH a8X (c.get m) k.at_ k.fn hn h
theorem J4{y:V}{u:Value}{Q:Unit->ae->Prop}(I:Inv X ak O H s)(e:H a=some (.ins C dx fs))(c:gI X.K C)(n:gp X.K C f)(hl:fs.length<1000)(ry:RelV y u) (h:∀s',Inv X ak O (upd H a (.ins C dx (fM f y fs))) s'->Q () s'):wpAny (model X.prog X.w) A (setAttr (.ref a) f u) Q E s:=by
 obtain⟨mA,a8X,r,wi,_,ho⟩:=E9 I.aV e;have hz:(fs.map (·.1)).length<=sizeLine:=by rw[bR,ug];lia
 refine Sk I.dH a8X c.sa c.po n.QX c.hd wi hz λh' O' sb=>h _ ?_;have hd:∃o,h'.get? dx=some o:=let⟨o,_,_,e',_⟩:=O'.ns;⟨o,e'⟩;refine I.write (x:=a) (e:=dx) (by rw[e];exact True.intro) (.inr ho) (λb q hb z=>(sb.2 b hb).trans z) hd ?_;refine⟨by rw[aL a8X.ne];exact ho,?_,a8X.ne,O'.obj,_,O'.ns,λg=>?_,λg hg=>?_⟩
 ·have:=M8 f y fs;lia
 ·show mE ((fM f y fs).lookup g) (if g=f then some u else mA g)
  rw[DW];by_cases q:g=f
  ·rw[bo q,bo q];exact ry
  ·rw[bf q,bf q];exact r g
 ·by_cases q:g=f
  ·rw[q];exact(E2 f y fs).1
  ·refine(E2 f y fs).2 g (wi g λz=>hg ?_)
   show(if g=f then some u else mA g)=none;rw[bf q];exact z
theorem Inv.made(I:Inv X ak O H s):Inv X ak O (upd (upd H s.heap.objs.size (.own (s.heap.objs.size+1))) (s.heap.objs.size+1) (.ins C s.heap.objs.size [])) {s with heap:=(s.heap.push PySem.W.emptyDict).push (PySem.W.instObj C s.heap.objs.size)}:=by
 have e1:(s.heap.push PySem.W.emptyDict).get? s.heap.objs.size=some PySem.W.emptyDict:=dw s.heap rfl;have e2:((s.heap.push PySem.W.emptyDict).push (PySem.W.instObj C s.heap.objs.size)).get? (s.heap.objs.size+1)=some (PySem.W.instObj C s.heap.objs.size):=by have:=dw (s.heap.push PySem.W.emptyDict) (o:=PySem.W.instObj C s.heap.objs.size) rfl;rwa [mR]at this
 have e3:(s.heap.push PySem.W.emptyDict).Ns s.heap.objs.size (λ_=>none):=⟨PySem.W.emptyDict,#[],_,e1,Z,(λe he=>absurd he (by simp)),λ_=>rfl⟩;have I1:=I.laid (a:=s.heap.objs.size) (o:=.own (s.heap.objs.size+1)) (h':=s.heap.push PySem.W.emptyDict) (t':=s.toks) (λb u q=>bL _ q) (bA _) ⟨_,e1⟩;refine I1.laid (a:=s.heap.objs.size+1) (o:=.ins C s.heap.objs.size []) (t':=s.toks) (λb u q=>bL _ q) (Nat.le_of_eq (mR _ _)) ?_;have ne:s.heap.objs.size≠s.heap.objs.size+1:=dh (PK _);refine⟨by rw[aL ne,bp],fh _,ne,e2,λ_=>none,(Heap.Ns1.of_empty e3).at λo q=>bL _ q,λ_=>True.intro,λy hy=>absurd rfl hy⟩
theorem a4Z{prog:af}{w:World}{env:Env}{e:Expr}{f:Str}{pos:Pos}{s:ae}{Q:Value->ae->Prop}(hb:attributeBase e f env (eval e env)=eval e env) (h:wpAny (model prog w) A (eval e env) (λo s₁=>wpAny (model prog w) A (getAttr o f true) Q E s₁) E s):wpAny (model prog w) A (eval (.Attribute e f pos) env) Q E s:=Attribute_any_ h (by rw[arm_eval_Attribute,hb])
end
def a7q(X:Cx)(op:Operator)(rd:V->V->Hp->VK->Prop):Prop:=∀(ak:List (Addr×Obj))(s:ae)(O:St)(H:Hp)(x y:V)(u v:Value)(Q:VK),Inv X ak O H s->RelV x u->RelV y v->rd x y H Q->wpAny (model X.prog X.w) X.A (inplaceOp op u v) (EP X ak O Q) X.xe s
section
variable {X:Cx}{o e value:Expr}{f:Str}{pos pos' mT:Pos}{ta tv:TE}
end
section
variable {X:Cx}{ak:List (Addr×Obj)}{O:St}{H:Hp}{s:ae}{A:ai}{E:Value->ae->Prop}{Q:Value->ae->Prop}{c:Value}{b:Bool}
end
structure bU(k:Nat)(A:ai):Prop where
 hd:A.handled=none
 dp:A.depth+3*k+5<recursionLimit
 un:A.units+16*k+200<cLine
theorem bU.mono{j k:Nat}{A:ai}(r:bU k A)(h:j<=k):bU j A:=⟨r.hd,by have:=r.dp;lia,by have:=r.un;lia⟩
theorem bU.deeper{k:Nat}{A:ai}(r:bU (k+1) A)(env:Env):bU k (A.deeper env):=⟨r.hd,by have:=r.dp;show A.depth+1+3*k+5<_;lia,by have:=r.un;show A.units+3+16*k+200<_;lia⟩
theorem Y0{A:ai}{C:Addr}{us:List Value}{kw:List (Str×Value)}:(A.under (.builtin "type.__call__" ⟨.ref C::us,kw⟩)).depth=A.depth+1:=by first|rfl|simp[Around.under,Code.weight,Code.isCreation,Code.isGuard,Code.isCaller,Code.frames,Code.isFrame,guardIds]
theorem XY{A:ai}{C:Addr}{us:List Value}{kw:List (Str×Value)}:(A.under (.builtin "type.__call__" ⟨.ref C::us,kw⟩)).units=A.units+1:=by first|rfl|simp[Around.under,Code.cUnits,Code.frames,Code.isFrame]
theorem bU.make{k:Nat}{A:ai}(r:bU (k+1) A)(C:Addr)(us:List Value)(kw:List (Str×Value)):bU k (A.under (.builtin "type.__call__" ⟨.ref C::us,kw⟩)):=⟨r.hd,by have:=r.dp;rw[Y0];omega,by have:=r.un;rw[XY];omega⟩
theorem bU.depth{k:Nat}{A:ai}(r:bU k A):A.depth<recursionLimit:=by have:=r.dp;lia
theorem bU.units{k:Nat}{A:ai}(r:bU k A):A.units+64<cLine:=by have:=r.un;lia
def oj:TA:=λ_ H Q=>Q [] H
def RI(ta:TE)(tr:TA):TA:=λO H Q=>ta O H λx H1=>tr O H1 λxs H2=>Q (x::xs) H2
section
variable {X:Cx}{e:Expr}{es:List Expr}{te:TE}{t:TA}{pos:Pos}
theorem ay:PA X [] oj:=λ_ _ _ _ H Q I h=>Calls.spliced_nil ⟨[],H,I,.nil,h⟩
theorem ao(ha:PE X e te)(hr:PA X es t)(hs:autoParam (starEach (e::es) X.env=(false,eval e X.env)::starEach es X.env) r8_._auto_1):PA X (e::es) (RI te t):=by intro pos ak s O H Q I h;rw[hs];show wpAny _ _ (spliced ((false,eval e X.env)::backTo pos (starEach es X.env))) _ _ s;refine Calls.spliced_cons (aR (ha ak s O H _ I h) λu s1 ⟨x,H1,I1,r1,q1⟩=>?_);exact aR (hr pos ak s1 O H1 _ I1 q1) λus s2 ⟨xs,H2,I2,r2,q2⟩=>⟨x::xs,H2,I2,.cons r1 r2,q2⟩
end
abbrev Sp:=List V->Hp->VK->XK->Prop
abbrev iT:=List Env->Hp->ae->XK->Value->ae->Prop
structure o9(P:af)(w:World)(K:aa)(mg:bc)(au:Heap)(A:ai)(outer:List Env)(s:ae)(H:Hp):Prop where
 frames:A.frames=some outer
 mod:Mod K mg au
 bs:∀b o,au.get? b=some o->s.heap.get? b=some o/\H b=none
 jw:au.objs.size<=s.heap.objs.size
 iu:s.heap.FunFrames au outer
 kZ:∀b∈cS outer,H b=none
 aV:dv P w H s.heap
 bare:AllBare s.gens
def CE(outer:List Env)(P:af)(w:World)(H:Hp)(s:ae)(Q:VK)(u:Value)(s':ae):Prop:=∃v H',s'.os=s.os/\AllBare s'.gens/\Un (cS outer) [] H H' s.heap s'.heap/\dv P w H' s'.heap/\RelV v u/\Q v H'
def CR(CX:iT)(outer:List Env)(P:af)(w:World)(H:Hp)(s:ae)(Q:VK)(E:XK)(r:Result)(s':ae):Prop:=match r with | .ok (.ret u)=>CE outer P w H s Q u s' | .ok _=>False | .error e=>CX outer H s E e s'
structure dS(P:af)(w:World)(K:aa)(mg:bc)(au:Heap)(CX:iT)(k:Nat)(f:Addr)(fd:FuncData)(ps:List Str)(sp:Sp):Prop where
 len:∀vs H Q E,sp vs H Q E->vs.length=ps.length
 run:∀(A:ai)(outer:List Env)(s:ae)(H:Hp)(args:Args)(us:List Value)(vs:List V)(Q:VK)(E:XK),bU k A->o9 P w K mg au A outer s H->BindsTo s fd args (ps.zip us)->Vals vs us->sp vs H Q E->codeAny (model P w) A (.call (.ref f) args) (CR CX outer P w H s Q E) s
theorem o9.make{P:af}{w:World}{K:aa}{mg:bc}{au:Heap}{A:ai}{outer:List Env}{s:ae}{H:Hp}(e:o9 P w K mg au A outer s H)(C:Addr)(us:List Value)(kw:List (Str×Value)): o9 P w K mg au (A.under (.builtin "type.__call__" ⟨.ref C::us,kw⟩)) outer s H:=⟨by first|exact e.frames|(simpa[Around.under,Code.envs,Code.isFrame,pushEnvs]using e.frames),e.mod,e.bs,e.jw,e.iu,e.kZ,e.aV,e.bare⟩
section
variable {X:Cx}{ak:List (Addr×Obj)}{O:St}{H:Hp}{s s':ae}
theorem Inv.tR(I:Inv X ak O H s):o9 X.prog X.w X.K X.mg X.au X.A X.stack s H:=⟨I.ok.frames,I.ok.mod,I.bs,fA I.ok.jw I.sz,I.stack,I.rY,I.aV,I.bare⟩
theorem Inv.after{Q:VK}{u:Value}(I:Inv X ak O H s)(h:CE X.stack X.prog X.w H s Q u s'):EP X ak O Q u s':=by obtain⟨v,H',os,bare,un,aV,r,q⟩:=h;obtain⟨hh,g,d,t,yE⟩:=s';obtain rfl:yE=s.os:=os;exact⟨v,H',I.call (h':=hh) (g':=g) (d':=d) (t':=t) (ch:=[]) un aV bare (λb z=>absurd z (by simp)),r,q⟩
end
def RJ(sp:Sp)(dvs:List V)(E:XK)(t:TA):TE:=λO H Q=>t O H λvs H1=>sp (vs++dvs) H1 Q E
inductive rk(C:Addr)(m:Str)(sp:Sp)(dvs:List V)(E:XK)(t:TA)(O:St)(Q:VK)(x:V)(H1:Hp):Prop |mk (a:_)(dx:_)(fs:_)(h0:x= .ref a)(h1:H1 a=some (.ins C dx fs))(h2:fs.lookup m=none)(h3:t O H1 λvs H2=>sp (x::(vs++dvs)) H2 Q E)
def HH(C:Addr)(m:Str)(sp:Sp)(dvs:List V)(E:XK)(ta:TE)(t:TA):TE:=λO H Q=>ta O H λx H1=>rk C m sp dvs E t O Q x H1
def Rw(C:Addr)(sp:Sp)(dvs:List V)(E:XK)(t:TA):TE:=λO H Q=>t O H λvs H1=>∀x dx,H1 x=none->H1 dx=none->dx≠x->sp (.ref x::(vs++dvs)) (upd (upd H1 dx (.own x)) x (.ins C dx [])) (λv H2=>v= .aY/\Q (.ref x) H2) E
def Binds(K:aa)(fd:FuncData)(ps:List Str)(ds:List Value):Prop:=∀(s:ae)(us:List Value),K.In s.heap->(us++ds).length=ps.length->BindsTo s fd ⟨us,[]⟩ (ps.zip (us++ds))
theorem Binds.all{K:aa}{fd:FuncData}{ps:List Str}(h:∀us:List Value,us.length=ps.length->bindArgs fd ⟨us,[]⟩=pure (ps.zip us)):Binds K fd ps []:=λs us _ hl=>by rw[jk]at hl⊢;exact .of_eq (h us hl)
def Passes(CX:iT)(X:Cx)(E:XK):Prop:=∀(ak:List (Addr×Obj))(O:St)(H:Hp)(s:ae)(e:Value)(s':ae),Inv X ak O H s->CX X.stack H s E e s'->X.xe e s'
section
variable {X:Cx}{CX:iT}{k:Nat}{f C:Addr}{fd:FuncData}{ps:List Str}{sp:Sp}{dvs:List V}{ds:List Value}{E:XK}{x m:Str}{p pos apos:Pos}{e o:Expr}{es:List Expr}{ta:TE}{t:TA}
theorem CH{ak:List (Addr×Obj)}{O:St}{H:Hp}{s:ae}{Q:VK}{us:List Value}{vs:List V}(F:dS X.prog X.w X.K X.mg X.au CX k f fd ps sp)(hr:bU k X.A)(hb:Binds X.K fd ps ds)(hd:Vals dvs ds)(hx:Passes CX X E) (I:Inv X ak O H s)(r:Vals vs us)(h:sp (vs++dvs) H Q E):wpAny (model X.prog X.w) X.A (call (.ref f) us) (EP X ak O Q) X.xe s:=by
 have r2:Vals (vs++dvs) (us++ds):=r.append hd;have hl:(us++ds).length=ps.length:=by rw[<-r2.length];exact F.len _ _ _ _ h
 refine pO (rF (F.run X.A X.stack s H ⟨us,[]⟩ (us++ds) (vs++dvs) Q E hr I.tR (hb s us I.dH hl) r2 h) λr s' hq=>?_);cases r with |error e=>exact hx ak O H s e s' I hq |ok fl=>cases fl with |ret u=>exact I.after hq |next=>exact False.elim hq |brk=>exact False.elim hq |cont=>exact False.elim hq
theorem L6(F:dS X.prog X.w X.K X.mg X.au CX k f fd ps sp)(hr:bU k X.A)(hg:Gl X x)(hm:X.mg x=some (.ref f))(hk:PySem.W.keepIn X.K (.ref f)=true)(hb:Binds X.K fd ps ds)(hd:Vals dvs ds)(hx:Passes CX X E) (ha:PA X (e::es) t)(eZ:autoParam ((x==("__debug__":Str))=false) q8_._auto_1)(he:autoParam (starEach (e::es) X.env=(false,eval e X.env)::starEach es X.env) r8_._auto_1)(dI:autoParam ((backTo pos (starEach es X.env)).any (·.1)=false) r8_._auto_1): PE X (.Call (.Name x p) (e::es) [] pos) (RJ sp dvs E t):=by intro ak s O H Q I h;refine wY (m5 I hg hm ?_ eZ);refine Aj (h₀:=X.au) I.ok.mod.jN hk (aR (ha pos ak s O H _ I h) λus s1 ⟨vs,H1,I1,r,q⟩=>⟨I1.dH,?_⟩) he dI;exact CH F hr hb hd hx I1 r q
theorem KW{pl:Sem Bool}(he:PE X o ta)(c:gI X.K C)(hm:Meth X.K C m f)(F:dS X.prog X.w X.K X.mg X.au CX k f fd ps sp)(hr:bU k X.A)(hb:Binds X.K fd ps ds)(hd:Vals dvs ds)(hx:Passes CX X E)(ha:PA X (e::es) t) (fq:autoParam (starEach (e::es) X.env=(false,eval e X.env)::starEach es X.env) r8_._auto_1)(dI:autoParam ((backTo pos (starEach es X.env)).any (·.1)=false) r8_._auto_1) (ht:eval (.Call (.Attribute o m apos) (e::es) [] pos) X.env=(do
 let ov<-eval o X.env
 standAt apos.atName
 let(f,first)<-holding [ov] (getMethod ov m pl)
 callWith pos f first (backTo pos (starEach (e::es) X.env)) (backToKw pos (keywordEach [] X.env))):=by rfl): PE X (.Call (.Attribute o m apos) (e::es) [] pos) (HH C m sp dvs E ta t):=by
 intro ak s O H Q I h;refine PySem.W.methodCall_KW (pl:=pl) (aR (he ak s O H _ I h) λu s1 ⟨x,H1,I1,rx,a,dx,fs,ex,ea,l,q⟩=>?_) ht;subst ex;obtain rfl:u=Value.ref a:=rx;refine Nd I1 ea c hm l ?_;refine Aj (first:=[.ref a]) (h₀:=X.au) I.ok.mod.jN hm.kp (aR (ha pos ak s1 O H1 _ I1 q) λus s2 ⟨vs,H2,I2,r,q2⟩=>⟨I2.dH,?_⟩) fq dI;exact CH (us:=.ref a::us) (vs:=.ref a::vs) F hr hb hd hx I2 (.cons Z r) q2
theorem KU{pl:Sem Bool}(he:PE X o ta)(c:gI X.K C)(hm:Meth X.K C m f)(F:dS X.prog X.w X.K X.mg X.au CX k f fd ps sp)(hr:bU k X.A)(hb:Binds X.K fd ps ds)(hd:Vals dvs ds)(hx:Passes CX X E) (ht:eval (.Call (.Attribute o m apos) [] [] pos) X.env=(do
 let ov<-eval o X.env
 standAt apos.atName
 let(f,first)<-holding [ov] (getMethod ov m pl)
 callWith pos f first (backTo pos (starEach [] X.env)) (backToKw pos (keywordEach [] X.env))):=by rfl): PE X (.Call (.Attribute o m apos) [] [] pos) (HH C m sp dvs E ta oj):=by
 intro ak s O H Q I h;refine PySem.W.methodCall_KW (pl:=pl) (aR (he ak s O H _ I h) λu s1 ⟨x,H1,I1,rx,a,dx,fs,ex,ea,l,q⟩=>?_) ht;subst ex;obtain rfl:u=Value.ref a:=rx;refine Nd I1 ea c hm l ?_;exact PySem.W.callWith_K0 (first:=[.ref a]) I1.dH hm.kp (CH (us:=[.ref a]) (vs:=[.ref a]) F hr hb hd hx I1 (.cons rfl .nil) q)
structure Mk(K:aa)(C f:Addr):Prop where
 makes:PySem.W.makesIn K C=true
 init:PySem.W.findIn K (.ref C) "__init__"=some (some (.ref f))
 fn:PySem.W.isFn K (.ref f)=true
 kp:PySem.W.keepIn K (.ref C)=true
theorem SK{ak:List (Addr×Obj)}{O:St}{H:Hp}{s:ae}{Q:VK}{us:List Value}{vs:List V}(M:Mk X.K C f)(F:dS X.prog X.w X.K X.mg X.au CX k f fd ps sp)(hr:bU (k+1) X.A)(hb:Binds X.K fd ps ds)(hd:Vals dvs ds) (hx:Passes CX X E)(I:Inv X ak O H s)(r:Vals vs us) (h:∀x dx,H x=none->H dx=none->dx≠x->sp (.ref x::(vs++dvs)) (upd (upd H dx (.own x)) x (.ins C dx [])) (λv H2=>v= .aY/\Q (.ref x) H2) E): wpAny (model X.prog X.w) X.A (call (.ref C) us) (EP X ak O Q) X.xe s:=by
 have hq:=h (s.heap.objs.size+1) s.heap.objs.size (I.aV.fresh (uq _)) (I.aV.fresh (bA _)) (dh (PK _));have I2:=Inv.made (C:=C) I;have r2:Vals (V.ref (s.heap.objs.size+1)::(vs++dvs)) (Value.ref (s.heap.objs.size+1)::(us++ds)):=.cons Z (r.append hd);have hl:(Value.ref (s.heap.objs.size+1)::us++ds).length=ps.length:=by have e:=r2.length;rw[F.len _ _ _ _ hq]at e;exact e.symm
 refine pO (XZ (f:=f) I.dH M.makes M.init (cP.mp M.fn) (rF (F.run _ X.stack _ _ ⟨Value.ref (s.heap.objs.size+1)::us,[]⟩ (Value.ref (s.heap.objs.size+1)::(us++ds)) _ _ E (hr.make C us []) (I2.tR.make C us []) (hb _ (Value.ref (s.heap.objs.size+1)::us) I2.dH hl) r2 hq) λr s' fK=>?_));cases r with |error e=>exact hx ak O _ _ e s' I2 fK |ok fl=>cases fl with |ret u=>obtain⟨v,H',I3,rv,ev,q3⟩:=I2.after fK;subst ev;exact⟨rv,⟨V.ref (s.heap.objs.size+1),H',I3,Z,q3⟩⟩ |next=>exact False.elim fK |brk=>exact False.elim fK |cont=>exact False.elim fK
theorem KY(M:Mk X.K C f)(F:dS X.prog X.w X.K X.mg X.au CX k f fd ps sp)(hr:bU (k+1) X.A)(hg:Gl X x)(hm:X.mg x=some (.ref C))(hb:Binds X.K fd ps ds)(hd:Vals dvs ds)(hx:Passes CX X E) (ha:PA X (e::es) t)(eZ:autoParam ((x==("__debug__":Str))=false) q8_._auto_1)(he:autoParam (starEach (e::es) X.env=(false,eval e X.env)::starEach es X.env) r8_._auto_1)(dI:autoParam ((backTo pos (starEach es X.env)).any (·.1)=false) r8_._auto_1): PE X (.Call (.Name x p) (e::es) [] pos) (Rw C sp dvs E t):=by intro ak s O H Q I h;refine wY (m5 I hg hm ?_ eZ);refine Aj (h₀:=X.au) I.ok.mod.jN M.kp (aR (ha pos ak s O H _ I h) λus s1 ⟨vs,H1,I1,r,q⟩=>⟨I1.dH,?_⟩) he dI;exact SK M F hr hb hd hx I1 r q
end
section
variable {X:Cx}{CX:iT}{k:Nat}{f C:Addr}{fd:FuncData}{ps ks:List Str}{sp:Sp}{E:XK}{x m:Str}{p pos apos a8g:Pos}{e o:Expr}{es:List Expr}{kws:List Keyword}{te ta:TE}{t tk:TA}{nm:Option Str}
variable {g:List Value->List Value->List Value}{gV:List V->List V->List V}
end
structure bj(N P:List Str)(sc:Scope):Prop where
 kind:sc.kind= .function
 co:sc.isCoroutine=false
 gen:sc.isGenerator=false
 nd:N.Nodup
 pre:N.take P.length=P
 par:∀x∈P,sc.names.lookup x=some .local\/sc.names.lookup x=some .cell
 X8:∀y∈sc.names,y.2≠ .free
theorem Ou{kindOf:Str->Option NameKind}{x:Str}:∀{binds:List (Str×Value)}{m:bc},(∀v,(x,v)∉binds)->bindL kindOf binds m x=m x
 |[],_,_=>rfl |(n,v)::r,m,h=>by
  unfold bindL;rw[Ou λw hw=>h w (uv _ hw)];split
  ·have:x≠n:=by rintro rfl;exact h v GS
   simp[this]
  ·rfl
theorem Ox{kindOf:Str->Option NameKind}{x:Str}:∀{binds:List (Str×Value)}{m:bc},(∀v,(x,v)∉binds)->bindC kindOf binds m x=m x
 |[],_,_=>rfl |(n,v)::r,m,h=>by
  unfold bindC;rw[Ox λw hw=>h w (uv _ hw)];split
  ·rfl
  ·have:x≠n:=by rintro rfl;exact h v GS
   simp[this]
theorem Ov{kindOf:Str->Option NameKind}{x:Str}{v:Value}:∀{P:List Str}{vs:List Value}{i:Nat}{m:bc},P.Nodup->P[i]? =some x->vs[i]? =some v->kindOf x=some .local->bindL kindOf (P.zip vs) m x=some v |[],_,_,_,_,h,_,_=>by simp at h |_::_,[],_,_,_,_,h,_=>by simp at h |p::P,w::vs,0,m,nd,h1,h2,hk=>by simp at h1 h2;subst h1;subst h2;show bindL kindOf ((p,w)::P.zip vs) m p=_;unfold bindL;rw[Ou λv hv=>(GR.mp nd).1 (uu hv).1,bo hk];simp |p::P,w::vs,i+1,m,nd,h1,h2,hk=>by show bindL kindOf ((p,w)::P.zip vs) m x=_;unfold bindL;exact Ov (i:=i) (GR.mp nd).2 (by simpa using h1) (by simpa using h2) hk
theorem Oy{kindOf:Str->Option NameKind}{x:Str}{v:Value}:∀{P:List Str}{vs:List Value}{i:Nat}{m:bc},P.Nodup->P[i]? =some x->vs[i]? =some v->kindOf x≠some .local->bindC kindOf (P.zip vs) m x=some v |[],_,_,_,_,h,_,_=>by simp at h |_::_,[],_,_,_,_,h,_=>by simp at h |p::P,w::vs,0,m,nd,h1,h2,hk=>by simp at h1 h2;subst h1;subst h2;show bindC kindOf ((p,w)::P.zip vs) m p=_;unfold bindC;rw[Ox λv hv=>(GR.mp nd).1 (uu hv).1,bf hk];simp |p::P,w::vs,i+1,m,nd,h1,h2,hk=>by show bindC kindOf ((p,w)::P.zip vs) m x=_;unfold bindC;exact Oy (i:=i) (GR.mp nd).2 (by simpa using h1) (by simpa using h2) hk
def start(N:List Str)(vs:List V):St:=vs.map some++List.replicate (N.length-vs.length) none
def eX(CX:iT)(P:af)(w:World)(K:aa)(mg:bc)(au:Heap)(N:List Str)(qual:Str)(scope:Scope)(f:Addr)(cd:Value)(A:ai)(outer:List Env)(s:ae)(H:Hp)(E:XK):Cx where
 prog:=P
 w:=w
 K:=K
 mg:=mg
 au:=au
 A:=A.deeper (envOfC qual scope s.heap.objs.size f cd)
 N:=N
 s₀:=s
 H₀:=H
 env:=envOfC qual scope s.heap.objs.size f cd
 outer:=outer
 stack:=envOfC qual scope s.heap.objs.size f cd::outer
 ex:=[]
 calm:=true
 fn:=λ_=>true
 pn:=[]
 xe:=λe s'=>wpAny (model P w) (A.deeper (envOfC qual scope s.heap.objs.size f cd)) (leaving (envOfC qual scope s.heap.objs.size f cd) e) (λ_ CD=>CX outer H s E e CD) (λe' CD=>CX outer H s E e' CD) s'
theorem Oj{sc:Scope}{n:Nat}{x:Str}(h:sc.names.lookup x=some .cell):∃c,(cellsFrom n sc.names []).lookup x=some c:=by have q:=GI sc.names n [] (.inl h);exact Option.isSome_iff_exists.mp q
theorem E8{CX:iT}{P:af}{w:World}{K:aa}{mg:bc}{au:Heap}{N ps:List Str}{qual:Str}{scope:Scope}{f:Addr}{cd:Value}{A:ai}{outer:List Env}{s s1:ae}{H:Hp}{E:XK}{us:List Value}{vs:List V} (S:bj N ps scope)(hd:A.handled=none)(e0:o9 P w K mg au A outer s H)(hl:vs.length=ps.length)(r:Vals vs us) (x:InCallC s s.heap.objs.size (bindL (envOfC qual scope s.heap.objs.size f cd).kindOf (ps.zip us) λ_=>none) (cellsFrom (s.heap.objs.size+1) scope.names []) (bindC (envOfC qual scope s.heap.objs.size f cd).kindOf (ps.zip us) λ_=>none) s1): Inv (eX CX P w K mg au N qual scope f cd A outer s H E) [] (start N vs) H s1:=by
 have dI:ps.length<=N.length:=by have:=oa List.length S.pre;rw[rL]at this;lia
 obtain⟨h1,tk,rfl,hk⟩:=x.done;have vn:∀b:Addr,b∉(eX CX P w K mg au N qual scope f cd A outer s H E).ex:=λb z=>absurd (show b∈([]:List Addr)from z) (by simp);refine⟨⟨e0.mod,S.kind,Z,Z,bA _,λy z c h1 h2=>?_,λy hy=>?_,λy c _ h=>?_,λ_=>hd,Around.frames_deeper e0.frames,.inr ⟨Z,Z⟩,λb z=>absurd z (vn b),e0.bs,e0.jw,λb _ _=>vn b,λb z=>absurd z (vn b),e0.iu,e0.kZ⟩,rfl,e0.bare,Un.kept hk,⟨_,x.toInCall.ns,λi y v h1 h2 h3=>?_⟩,λy c h=>⟨_,x.cell y c h⟩,e0.aV.fresh (bA _),λy c h=>?_,λp hp=>absurd (show p∈([]:List (Addr×Obj))from hp) (by simp),e0.aV.kept hk,?_⟩
 ·exact name_of_addr x.apart (Ah h1) (Ah h2)
 ·have hy:scope.names.lookup y=some .cell\/scope.names.lookup y=some .free:=hy
  rcases hy with hy|hy
  ·exact Oj hy
  ·exact absurd Z (S.X8 _ (Ah hy))
 ·exact GP (x.above y c (Ah h))
 ·have hi:i<vs.length:=by
   unfold start at h2;by_cases hi:i<vs.length
   ·exact hi
   ·rw[Ap (by simpa using hi)]at h2
    rw[List.getElem?_replicate]at h2;split at h2<;>cases h2
  have ha:vs[i]? =some v:=by unfold start at h2;rw[Aq (by simpa using hi),cZ]at h2;cases e:vs[i]? with |none=>rw[e]at h2;cases h2 |some a=>rw[e]at h2;cases h2;rfl
  obtain⟨u,hu,rv⟩:=r.get ha;have hp:ps[i]? =some y:=by rw[<-S.pre,List.getElem?_take_of_lt aw];exact h1
  have LD:ps.Nodup:=by rw[<-S.pre];exact S.nd.sublist (List.take_sublist _ _)
  refine⟨u,rv,?_⟩;rcases S.par y (hJ hp)with k|k
  ·exact .inl ⟨k,Ov LD hp hu k⟩
  ·obtain⟨c,e⟩:=Oj (n:=s.heap.objs.size+1) k
   refine .inr ⟨.inl k,c,e,?_⟩;have q:=x.cell y c e;rw[Oy LD hp hu (by show scope.names.lookup y≠_;rw[k];decide)]at q;exact q
 ·exact e0.aV.fresh (GP (x.above y c (Ah h)))
 ·unfold start
  show _=N.length;rw[fi,bR,An]
  lia
theorem Fe{CX:iT}{P:af}{w:World}{K:aa}{mg:bc}{au:Heap}{k:Nat}{f:Addr}{name qual:Str}{params:Arguments}{body:List Stmt}{scope:Scope}{dV kV doc pm aE ct oc:Value}{an od:Option Addr} {eG:Array (Option Value)}{N ps:List Str}{sp:Sp}(lk:K.lookup f=some ⟨oc,od,.func (PySem.W.fnOf name qual params body scope dV kV doc pm an aE ct),eG⟩)(dY:PySem.W.codeIn K aE qual=true)(S:bj N ps scope) (len:∀vs H Q E,sp vs H Q E->vs.length=ps.length) (fb:∀(A:ai)(outer:List Env)(s:ae)(H:Hp)(vs:List V)(Q:VK)(E:XK),bU k (A.deeper (envOfC qual scope s.heap.objs.size f aE))->sp vs H Q E->∃t,eP (eX CX P w K mg au N qual scope f aE A outer s H E) body t/\t {nx:=λ_ H'=>Q .aY H',rt:=Q} (start N vs) H): dS P w K mg au CX (k+1) f (PySem.W.fnOf name qual params body scope dV kV doc pm an aE ct) ps sp:=by
 refine⟨len,λA outer s H args us vs Q E hr e0 hb r ft=>?_⟩;have hl:=len _ _ _ _ ft;have KX:K.In s.heap:=e0.mod.jN.keeps λb o e=>(e0.bs b o e).1;have lim:s.heap.NoLimit:=e0.mod.nolimit.keeps λb o e=>(e0.bs b o e).1;have je:∀y∈ps.zip us,scope.names.lookup y.1=some .local\/(scope.names.lookup y.1=some .cell/\((cellsFrom (s.heap.objs.size+1) scope.names []).lookup y.1).isSome=true):=λ⟨n,v⟩ hy=>by
  rcases S.par n (uu hy).1 with q|q
  ·exact .inl q
  ·exact .inr ⟨q,GI _ _ _ (.inl q)⟩
 refine Pj hr.depth (KX _ _ lk) Z S.co S.gen Z (Pw KX dY) (hb _ _ _ _ ?_);refine Pa S.kind je λenv he s1 x=>?_;subst he;refine⟨lim.keeps x.toInCall.keep,codeAny_func ?_⟩;obtain⟨t,ht,hq⟩:=fb A outer s H vs Q E (hr.deeper _) ft;have I:Inv (eX CX P w K mg au N qual scope f aE A outer s H E) [] (start N vs) H s1:=E8 S hr.hd e0 hl r x;refine gr (ht [] s1 (start N vs) H _ I hq) (λfl s' hs=>?_) λe s' hs=>hs;have fin:∀{σ':St}{H':Hp}{v:V}{u:Value},Inv (eX CX P w K mg au N qual scope f aE A outer s H E) [] σ' H' s'->RelV v u->Q v H'->CE outer P w H s Q u s':=λ{σ' H' v u} J rv q=>⟨v,H',J.os,J.bare,J.au,J.aV,rv,q⟩;cases fl with |ret u=>obtain⟨v,σ',H',J,rv,q⟩:=hs;exact fin J rv q |next=>obtain⟨σ',H',J,q⟩:=hs;exact fin (v:=V.aY) (u:=Value.none) J Z q |brk=>obtain⟨_,_,_,q⟩:=hs;exact False.elim q |cont=>obtain⟨_,_,_,q⟩:=hs;exact False.elim q
section
variable {X:Cx}{x:Str}{p pos:Pos}{e:Expr}{es:List Expr}{t:TA}{id T:String}{r:List V->Hp->VK->Prop}
def xU(r:List V->Hp->VK->Prop)(t:TA):TE:=λO H Q=>t O H λvs H1=>r vs H1 Q
theorem dG(hc:eT X (.builtin id) r)(hg:Gl X x)(hm:X.mg x=none)(hv:bootBuiltins x=some (.builtin id))(ha:PA X (e::es) t)(hn:autoParam (x≠"__name__") q8_._auto_1)(eZ:autoParam ((x==("__debug__":Str))=false) q8_._auto_1) (he:autoParam (starEach (e::es) X.env=(false,eval e X.env)::starEach es X.env) r8_._auto_1)(dI:autoParam ((backTo pos (starEach es X.env)).any (·.1)=false) r8_._auto_1):PE X (.Call (.Name x p) (e::es) [] pos) (xU r t):=by intro ak s O H Q I h;refine wY (nC I hg hm hv ?_ hn eZ);exact PyProof.Rows.callWith_builtin1 (aR (ha pos ak s O H _ I h) λus s1 ⟨vs,H1,I1,r1,q1⟩=>hc ak s1 O H1 vs us Q I1 r1 q1) he dI
theorem jI(hc:eT X (.type T) r)(hg:Gl X x)(hm:X.mg x=none)(hv:bootBuiltins x=some (.type T))(ha:PA X (e::es) t)(hn:autoParam (x≠"__name__") q8_._auto_1)(eZ:autoParam ((x==("__debug__":Str))=false) q8_._auto_1) (he:autoParam (starEach (e::es) X.env=(false,eval e X.env)::starEach es X.env) r8_._auto_1)(dI:autoParam ((backTo pos (starEach es X.env)).any (·.1)=false) r8_._auto_1):PE X (.Call (.Name x p) (e::es) [] pos) (xU r t):=by intro ak s O H Q I h;refine wY (nC I hg hm hv ?_ hn eZ);exact uk (aR (ha pos ak s O H _ I h) λus s1 ⟨vs,H1,I1,r1,q1⟩=>hc ak s1 O H1 vs us Q I1 r1 q1) he dI
end
end _L
namespace _H
open PySem PyProof.Rows
section
open PySem.SeqAt
open PySem.AutoSeq1 (wpAny_loadPart')
open PySem.MeetsSeq PySem.MeetsSeq2 PySem.MeetsSeq3
end
section
variable {prog:af}{w:World}{A:ai}{E:Value->ae->Prop}{s:ae}
theorem a4x{t b:Addr}{vs ws:List Value}{Q:Value->ae->Prop}(ht:IsTup s.heap t vs.toArray)(hb:IsTup s.heap b ws.toArray)(hv:vs≠[]) (h1:ws=[]->Q (.ref t) s)(h2:ws≠[]->Q (.ref s.heap.objs.size) {s with heap:=s.heap.push {cls:=.type "tuple",data:=.seq (vs++ws).toArray}}) (hsz:vs.length+ws.length<=sizeLine):wpAny (model prog w) A (binaryOp .Add (.ref t) (.ref b)) Q E s:=by
 obtain⟨⟨cls,dd,data,sl⟩,ho,hc,n,hd⟩:=id ht;obtain⟨⟨Oh,tV,data2,ow⟩,m9,fL,n2,hd2⟩:=id hb;simp only at hc hd fL hd2;subst hc hd fL hd2;have e:vs.toArray++ws.toArray=(vs++ws).toArray:=by simp
 by_cases hw:ws=[]
 ·exact concat_meets ⟨_,ho,Z⟩ ⟨_,m9,Z⟩ noFill_tuple_add seq_tuple_add Px PB (PD _ _) (tuple_addW1 t b vs.toArray ws.toArray n n2 dd tV sl ow (by simpa using hv) (by simp[hw])) ⟨ho,m9,h1 hw⟩
 ·refine concat_meets ⟨_,ho,Z⟩ ⟨_,m9,Z⟩ noFill_tuple_add seq_tuple_add Px PB (PD _ _) (tuple_addW2 t b vs.toArray ws.toArray n n2 dd tV sl ow (by simpa using hv) (by simpa using hw) (by rw[cY,cY];exact hsz)) ⟨ho,m9,?_⟩;rw[e];exact h2 hw
def bI(n d:Nat):Option Int->Nat |none=>d |some v=>if v<0 then(v+(n:Int)).toNat else min v.toNat n
theorem Kh (n d:Nat):bI n d none=d:=rfl
theorem Ki(n d k:Nat):bI n d (some (k:Int))=min k n:=by show(if(k:Int)<0 then((k:Int)+(n:Int)).toNat else min (k:Int).toNat n)=min k n;rw[bf aw,PX]
theorem SA(n d:Nat)(hd:d<=n)(o:Option Int):bI n d o<=n:=by cases o with |none=>exact hd |some v=>
 show(if v<0 then(v+(n:Int)).toNat else min v.toNat n)<=n;by_cases hv:v<0
 ·rw[bo hv];lia
 ·rw[bf hv];exact Nat.min_le_right _ _
theorem FY(v:Int)(n d:Nat):(if v<0 then max (v+(n:Int)) 0 else min v (n:Int))=((bI n d (some v):Nat):Int):=by
 show(if v<0 then max (v+(n:Int)) 0 else min v (n:Int))=(((if v<0 then(v+(n:Int)).toNat else min v.toNat n):Nat):Int);by_cases hv:v<0
 ·simp only[bo hv];lia
 ·simp only[bf hv];lia
theorem a5b(lo hi:Option Int)(n:Nat):Builtin.Slice.sliceAdjust lo hi 1 (n:Int)=(((bI n 0 lo:Nat):Int),((bI n n hi:Nat):Int)):=by
 have h1:¬((1:Int)<0):=by lia
 unfold Builtin.Slice.sliceAdjust;simp only[h1,if_false];refine Prod.ext ?_ ?_
 ·cases lo with |none=>rfl |some v=>exact FY v n 0
 ·cases hi with |none=>rfl |some v=>exact FY v n n
theorem Ul(i j:Nat):Builtin.Slice.slicePlaces (i:Int) (j:Int) 1=j-i:=by
 unfold Builtin.Slice.slicePlaces;have h1:(1:Int)>0:=by lia
 simp only[h1,rC,Int.ediv_one];split<;>lia
theorem IW{v:Value}{o:Option Int}{Q:Option Int->ae->Prop}(p:IsPart v o)(h:Q o s):wpAny (model prog w) A (Builtin.Slice.slicePartIndex v) Q E s:=by cases p with |none=>exact slicePart_none h |int i t=>exact slicePart_int h
theorem IX{sl:Addr}{vl vu:Value}{lo hi:Option Int}{n:Nat}{Q:Int×Int×Nat->ae->Prop}(hs:s.heap.IsSliceOf sl vl vu .none)(pl:IsPart vl lo)(pu:IsPart vu hi) (h:Q (((bI n 0 lo:Nat):Int),1,bI n n hi-bI n 0 lo) s):wpAny (model prog w) A (Builtin.Slice.sliceApplied (.ref sl) (pure (n:Int))) Q E s:=by obtain⟨os,jQ,zq,kQ⟩:=id hs;unfold Builtin.Slice.sliceApplied Builtin.Slice.sliceFields;refine aB (aB (fT jQ kQ (x:=vl) Z (aB (fT jQ kQ (x:=vu) Z (aB (fT jQ kQ (x:=.none) Z (bB ?_)))))));refine aB (slicePart_none ?_);show wpAny _ _ (if((1:Int)==0)=true then _ else _) _ _ s;rw[bf az];refine aB (IW pl (aB (IW pu (aB (bB ?_)))));show wpAny _ _ (match Builtin.Slice.sliceAdjust lo hi 1 (n:Int)with|(lo,hi)=>pure (lo,(1:Int),Builtin.Slice.slicePlaces lo hi 1)) _ _ s;rw[a5b lo hi n];show wpAny _ _ (pure (((bI n 0 lo:Nat):Int),(1:Int),Builtin.Slice.slicePlaces ((bI n 0 lo:Nat):Int) ((bI n n hi:Nat):Int) 1)) _ _ s;rw[Ul];exact bB h
theorem Uo(xs:Array Value)(i k:Nat):((List.range k).filterMap λ(m:Nat)=>xs[((i:Int)+(m:Int)*1).toNat]?).toArray=((xs.toList.drop i).take k).toArray:=by
 have e:(λ(m:Nat)=>xs[((i:Int)+(m:Int)*1).toNat]?)=λm=>xs[i+m]?:=by
  funext m;have:((i:Int)+(m:Int)*1).toNat=i+m:=by lia
  rw[this]
 rw[e];have:=pick_run xs i k;rw[List.filterMap_map]at this;have e2:((λx=>xs[x]?)∘λx=>i+x)=λm=>xs[i+m]?:=rfl;rw[e2]at this;rw[this]
theorem a1U{t sl:Addr}{items:Array Value}{vl vu:Value}{lo hi:Option Int}{Q:Value->ae->Prop}(ht:IsTup s.heap t items)(hs:s.heap.IsSliceOf sl vl vu .none)(pl:IsPart vl lo)(pu:IsPart vu hi) (hw:¬(bI items.size 0 lo=0/\bI items.size items.size hi=items.size)) (h:Q (.ref s.heap.objs.size) {s with heap:=s.heap.push {cls:=.type "tuple",data:=.seq ((items.toList.drop (bI items.size 0 lo)).take (bI items.size items.size hi-bI items.size 0 lo)).toArray}}) (hsz:items.size<=sizeLine):wpAny (model prog w) A (getItem (.ref t) (.ref sl)) Q E s:=by
 have zb:sizeOk (.seq ((items.toList.drop (bI items.size 0 lo)).take (bI items.size items.size hi-bI items.size 0 lo)).toArray):=by show((items.toList.drop (bI items.size 0 lo)).take (bI items.size items.size hi-bI items.size 0 lo)).toArray.size<=sizeLine;rw[cY,rL,xo,Ax];omega
 have hj:bI items.size items.size hi<=items.size:=SA _ _ (bA _) hi;obtain⟨os,jQ,zq,kQ⟩:=id hs;have EH:s.TypeIs (.ref sl) "slice":=⟨os,jQ,zq⟩;unfold getItem
 try with_reducible refine gJ ?_
 first|refine aB (bB ?_)|skip
 refine aB (wpAny_sequenceKey ht.typeIs az ?_);refine aB (ud (name:=Str.ofString "__getitem__") ht.typeIs x6 (uc x6 ht.typeIs entry_tuple_getitem ?_ (args_tuple_getitem _ _)));show wpAny _ _ (Builtin.Tuple.tupleItemsOf (.ref t)>>=_) _ _ s;refine aB (tupleItemsOf_ ht ?_);refine aB (wpAny_typeOf EH ?_);rw[bo az];refine aB (IX hs pl pu ?_);have md:¬((((bI items.size 0 lo:Nat):Int)==0&&(1:Int)==1&&(bI items.size items.size hi-bI items.size 0 lo)==items.size)=true):=by intro q;rw[d6,d6]at q;have q1:((bI items.size 0 lo:Nat):Int)=0:=eq_of_beq q.1.1;have q2:bI items.size items.size hi-bI items.size 0 lo=items.size:=eq_of_beq q.2;exact hw ⟨bK,bK⟩
 show wpAny _ _ (if(((bI items.size 0 lo:Nat):Int)==0&&(1:Int)==1&&(bI items.size items.size hi-bI items.size 0 lo)==items.size)=true then _ else _) _ _ s;rw[bf md,Uo]
 first |exact aB (m:=Builtin.Tuple.tupleExact _) (jX (bB ⟨_,Z,bB h⟩) zb) |exact aB (m:=Builtin.Tuple.tupleExact _) (jX (aB (bB (bB ⟨_,Z,bB h⟩))) zb) |exact aB (aB (m:=Builtin.Tuple.tupleExact _) (jX (bB (bB ⟨_,Z,bB h⟩)) zb)) |exact aB (aB (m:=Builtin.Tuple.tupleExact _) (jX (bB ⟨_,Z,bB h⟩) zb))
end
end _H
namespace _L
open PySem PySem.Spec PyProof.Rows
abbrev TO:=St->Hp->(Option Int->Hp->Prop)->Prop
def PO(X:Cx)(e:Option Expr)(t:TO):Prop:=∀(ak:List (Addr×Obj))(s:ae)(O:St)(H:Hp)(Q:Option Int->Hp->Prop),Inv X ak O H s->t O H Q->wpAny (model X.prog X.w) X.A (evalPart e X.env) (λu s'=>∃o H',Inv X ak O H' s'/\IsPart u o/\Q o H') X.xe s
def Rk:TO:=λ_ H Q=>Q none H
inductive a5A(Q:Option Int->Hp->Prop)(x:V)(H1:Hp):Prop |mk (i:_)(h0:x= .int i)(h1:Q (some i) H1)
def Rf(t:TE):TO:=λO H Q=>t O H λx H1=>a5A Q x H1
section
variable {X:Cx}{e:Expr}{te:TE}{lo hi:Option Expr}{tl th:TO}{pos p2:Pos}
theorem qj:PO X none Rk:=by intro ak s O H Q I h;rw[evalPart_none];exact bB ⟨none,H,I,.none,h⟩
theorem qi(h:PE X e te):PO X (some e) (Rf te):=by intro ak s O H Q I hw;rw[evalPart_some];refine aR (h ak s O H _ I hw) λu s1 ⟨x,H1,I1,r1,q1⟩=>?_;obtain⟨i,rfl,q⟩:=q1;obtain⟨t,rfl⟩:=r1;exact⟨some i,H1,I1,.int i t,q⟩
def wH(X:Cx)(r:V->Option Int->Option Int->Hp->VK->Prop):Prop:=∀(ak:List (Addr×Obj))(s:ae)(O:St)(H:Hp)(x:V)(v vl vu:Value)(lo hi:Option Int)(sl:Addr)(Q:VK),Inv X ak O H s->RelV x v->s.heap.IsSliceOf sl vl vu .none->IsPart vl lo->IsPart vu hi->r x lo hi H Q->∃T id,typeLookup (.type T) "__getitem__"=pure (some (.builtin id))/\s.TypeIs v T/\wpAny (model X.prog X.w) X.A (getItem v (.ref sl)) (EP X ak O Q) X.xe s
def R8(r:V->Option Int->Option Int->Hp->VK->Prop)(te:TE)(tl th:TO):TE:=λO H Q=>te O H λx H1=>tl O H1 λl H2=>th O H2 λu H3=>r x l u H3 Q
theorem qo{r:V->Option Int->Option Int->Hp->VK->Prop}(hr:wH X r)(he:PE X e te)(hl:PO X lo tl)(hu:PO X hi th):PE X (.Subscript e (.Slice lo hi none p2) pos) (R8 r te tl th):=by intro ak s O H Q I h;refine Subscript_ (aR (he ak s O H _ I h) λv s1 ⟨x,H1,I1,r1,q1⟩=>?_);refine wpAny_Slice (aR (hl ak s1 O H1 _ I1 q1) λvl s2 ⟨l,H2,I2,pl,q2⟩=>aR (hu ak s2 O H2 _ I2 q2) λvu s3 ⟨u,H3,I3,pu,q3⟩=>?_);rw[evalPart_none];refine bB ?_;have I4:Inv X ak O H3 {s3 with heap:=s3.heap.push {cls:=.type "slice",data:=.fields #[vl,vu,.none]}}:=I3.kept (t':=s3.toks) λb ob q=>bL _ q;obtain⟨T,id,hT,ht,hg⟩:=hr ak {s3 with heap:=s3.heap.push {cls:=.type "slice",data:=.fields #[vl,vu,.none]}} O H3 x v vl vu l u s3.heap.objs.size Q I4 r1 (Heap.IsSliceOf.new ..) pl pu q3;show wpAny (model X.prog X.w) X.A (subscriptTail e (.Slice lo hi none p2) v (.ref s3.heap.objs.size)) (EP X ak O Q) X.xe {s3 with heap:=s3.heap.push {cls:=.type "slice",data:=.fields #[vl,vu,.none]}};exact tail_any (ops:=[.ref s3.heap.objs.size,v]) ht hT hg (by with_unfolding_all rfl)
def gG(xs:List V)(lo hi:Option Int):List V:=(xs.drop (_H.bI xs.length 0 lo)).take (_H.bI xs.length xs.length hi-_H.bI xs.length 0 lo)
theorem O9(xs:List V)(lo hi:Option Int):(gG xs lo hi).length<=xs.length:=by
 unfold gG;rw[rL,xo]
 lia
inductive a6Z(K:aa)(x:V)(lo:Option Int)(hi:Option Int)(H:Hp)(Q:VK):Prop |mk (a:_)(xs:_)(h0:x= .ref a)(h1:aQ K H a xs)(h2:¬(_H.bI xs.length 0 lo=0/\_H.bI xs.length xs.length hi=xs.length))(h3:∀p,H p=none->Q (.ref p) (upd H p (.tup (gG xs lo hi))))
def TL(K:aa):V->Option Int->Option Int->Hp->VK->Prop:=λx lo hi H Q=>a6Z K x lo hi H Q
theorem IY:wH X (TL X.K):=by
 intro ak s O H x v vl vu lo hi sl Q I rx hs pl pu h;obtain⟨a,xs,rfl,hx,hw,q⟩:=h;cases rx;obtain⟨its,r,ht,hz⟩:=I.tuple hx;have hlen:its.toArray.size=xs.length:=by rw[cY];exact r.length.symm
 refine⟨"tuple",_,x6.lookup,ht.typeIs,?_⟩;refine _H.a1U ht hs pl pu (by rw[hlen];exact hw) ?_ (by rw[hlen];exact hz);rw[hlen];refine⟨.ref s.heap.objs.size,_,I.laid (t':=s.toks) (o:=.tup (gG xs lo hi)) (λb ob q=>bL _ q) (bA _) ?_,Z,q _ (I.aV.fresh (bA _))⟩;exact⟨fA (O9 xs lo hi) hz,_,(r.drop (_H.bI xs.length 0 lo)).take (_H.bI xs.length xs.length hi-_H.bI xs.length 0 lo),IsTup.new _ _⟩
theorem Vals.DE{xs:List V}{us:List Value}(r:Vals xs us):us=[]↔xs=[]:=by cases r with |nil=>simp |cons _ _=>simp
end
def kH(n:Nat)(i:Int):Option Nat:=if 0<=i then(if i<n then some i.toNat else none)else if-(n:Int)<=i then some (i+n).toNat else none
def iB{α:Type}(xs:List α)(i:Int):Option α:=(kH xs.length i).bind λj=>xs[j]?
theorem Mj{n:Nat}{i:Int}{j:Nat}(h:kH n i=some j):seqIndex? i n=some j/\j<n/\-(n:Int)<=i/\i<n:=by
 unfold kH at h;by_cases h0:0<=i
 ·rw[bo h0]at h
  by_cases h1:i<n
  ·rw[bo h1]at h
   have e:i.toNat=j:=dW h;exact⟨by rw[seqIndex_of h0 h1,e],aw,aw,h1⟩
  ·rw[bf h1]at h;cases h
 ·rw[bf h0]at h
  by_cases h1:-(n:Int)<=i
  ·rw[bo h1]at h
   have e:(i+n).toNat=j:=dW h;exact⟨by rw[seqIndex_neg aw h1,e],aw,h1,aw⟩
  ·rw[bf h1]at h;cases h
theorem G9{α:Type}{xs:List α}{i:Int}{v:α}(h:iB xs i=some v):∃j,seqIndex? i xs.length=some j/\xs[j]? =some v/\j<xs.length/\-(xs.length:Int)<=i/\i<xs.length:=by unfold iB at h;cases e:kH xs.length i with |none=>rw[e]at h;cases h |some j=>rw[e]at h;obtain⟨h1,h2,h3,h4⟩:=Mj e;exact⟨j,h1,h,h2,h3,h4⟩
theorem a52{α:Type}{xs:List α}{j:Nat}{v:α}(h:xs[j]? =some v):iB xs (j:Int)=some v:=by
 have hj:j<xs.length:=(eU.mp h).1;have e:kH xs.length (j:Int)=some j:=by unfold kH;rw[bo aw,bo aw];simp
 unfold iB;rw[e];exact h
def OS(b:Expr):Prop:=∀o i,subscripted b false o i=operate [o,i] (getItem o i)
def nY(X:Cx)(r:R2):Prop:=∀(value slice:Expr)(ak:List (Addr×Obj))(s:ae)(O:St)(H:Hp)(x y:V)(v u:Value)(Q:VK),Inv X ak O H s->RelV x v->RelV y u->r x y H Q->subscripted slice false v u=operate [v,u] (getItem v u)->wpAny (model X.prog X.w) X.A (subscriptTail value slice v u) (EP X ak O Q) X.xe s
def A5(X:Cx)(id:String)(r:V->List V->Hp->VK->Prop):Prop:=∀(ak:List (Addr×Obj))(s:ae)(O:St)(H:Hp)(x:V)(xs:List V)(v:Value)(us:List Value)(Q:VK),Inv X ak O H s->RelV x v->Vals xs us->r x xs H Q->wpAny (model X.prog X.w) X.A (call (.builtin id) (v::us)) (EP X ak O Q) X.xe s
section
variable {X:Cx}{a b:Expr}{ta tb:TE}{pos:Pos}
theorem nY.or{r r':R2}(h:nY X r)(h':nY X r'):nY X (λx y H Q=>r x y H Q\/r' x y H Q):=by
 intro value slice ak s O H x y v u Q I rx ry q hs;rcases q with q|q
 ·exact h value slice ak s O H x y v u Q I rx ry q hs
 ·exact h' value slice ak s O H x y v u Q I rx ry q hs
theorem KZ{r:R2}(hr:nY X r)(ha:PE X a ta)(hb:PE X b tb)(hs:OS b):PE X (.Subscript a b pos) (uF r ta tb):=by intro ak s O H Q I h;exact Subscript_ (G3 ha hb I h λv u s2 x y H2 I2 rx ry q=>hr a b ak s2 O H2 x y v u Q I2 rx ry q (hs _ _))
inductive a7a(K:aa)(x:V)(y:V)(H:Hp)(Q:VK):Prop |mk (p:_)(xs:_)(i:_)(v:_)(h0:x= .ref p)(h1:y= .int i)(h2:aK K H p xs)(h3:iB xs i=some v)(h4:Q v H)
def CZ(K:aa):R2:=λx y H Q=>a7a K x y H Q
inductive a78(K:aa)(x:V)(y:V)(H:Hp)(Q:VK):Prop |mk (p:_)(xs:_)(i:_)(v:_)(h0:x= .ref p)(h1:y= .int i)(h2:aQ K H p xs)(h3:iB xs i=some v)(h4:Q v H)
def CY(K:aa):R2:=λx y H Q=>a78 K x y H Q
inductive a79(x:V)(y:V)(H:Hp)(Q:VK):Prop |mk (z:_)(i:_)(c:_)(h0:x= .str z)(h1:y= .int i)(h2:z.length<=sizeLine)(h3:iB z.cps.toList i=some c)(h4:Q (.str ⟨#[c]⟩) H)
def TY:R2:=λx y H Q=>a79 x y H Q
theorem YV:nY X (CZ X.K):=by
 intro value slice ak s O H x y v u Q I rx ry h hs;obtain⟨p,xs,i,z,rfl,rfl,hq,he,q⟩:=h;cases rx;obtain⟨t,rfl⟩:=ry;obtain⟨its,r,pl,hz⟩:=I.list hq;obtain⟨j,h1,h2,h3,h4,h5⟩:=G9 he;obtain⟨w,ew,uU⟩:=r.get h2;have hl:=r.length;have hn:=qG;have fin:EP X ak O Q w s:=⟨z,H,I,uU,q⟩;by_cases h0:0<=i
 ·have hj:i.toNat=j:=by rw[seqIndex_of h0 h5]at h1;exact dW h1
  exact item_listR pl.isList h0 aw (by rw[hj];simpa using ew) fin hs
 ·have hj:(i+(its.toArray.size:Int)).toNat=j:=by rw[seqIndex_neg aw h4]at h1;rw[cY,<-hl];exact dW h1
  exact subscriptTail_builtinR (x:=w) pl.isList.typeIs slot_list_getitem.lookup (wpAny_getItem_list_neg (Q:=λr s'=>r=w/\EP X ak O Q r s') pl.isList aw (by rw[cY]<;>lia) aw (by rw[hj];simpa using ew) ⟨Z,fin⟩) hs
theorem YT:nY X (CY X.K):=by intro value slice ak s O H x y v u Q I rx ry h hs;obtain⟨p,xs,i,z,rfl,rfl,hq,he,q⟩:=h;cases rx;obtain⟨t,rfl⟩:=ry;obtain⟨its,r,pl,hz⟩:=I.tuple hq;obtain⟨j,h1,h2,h3,h4,h5⟩:=G9 he;obtain⟨w,ew,uU⟩:=r.get h2;have hl:=r.length;have hn:=qG;have fin:EP X ak O Q w s:=⟨z,H,I,uU,q⟩;exact subscriptTail_builtinR (x:=w) pl.typeIs slot_tuple_getitem.lookup (getItem_tuple (j:=j) (Q:=λr s'=>r=w/\EP X ak O Q r s') pl aw aw (by rw[cY,<-hl];exact h1) (by simpa using ew) ⟨Z,fin⟩) hs
theorem YU:nY X TY:=by
 intro value slice ak s O H x y v u Q I rx ry h hs;obtain⟨z,i,c,rfl,rfl,hz,he,q⟩:=h;obtain⟨t,rfl⟩:=rx;obtain⟨t',rfl⟩:=ry;obtain⟨j,h1,h2,h3,h4,h5⟩:=G9 he;have hl:z.cps.toList.length=z.length:=by simp[Str.length]
 rw[hl]at h1 h4 h5;have hn:=qG;exact tail_any (typeIs_str s z t) slot_str_getitem.lookup (getItem_str (c:=c) (by have e1:decide (i< -(2^63:Int))=false:=cX aw;have e2:decide (i>=2^63)=false:=cX aw;rw[e1,e2,Bool.or_false]) (by rw[h1];simpa using h2) ⟨.str ⟨#[c]⟩,H,I.tok _,⟨_,Z⟩,q⟩) hs
theorem XX(its:List Value)(n j:Nat)(u:Value):Obj.mapSeq (·.setIfInBounds j u) {cls:=.type "list",data:=.seq its.toArray n}={cls:=.type "list",data:=.seq (its.set j u).toArray n}:=by simp[Obj.mapSeq]
theorem Inv.lst{ak:List (Addr×Obj)}{O:St}{H:Hp}{s:ae}{p:Addr}{xs:List V}(I:Inv X ak O H s)(h:H p=some (.lst xs)): ∃(its:List Value)(n:Nat),Vals xs its/\s.heap.get? p=some {cls:=.type "list",data:=.seq its.toArray n}/\xs.length<=sizeLine:=by obtain⟨z,its,n,r,e⟩:=I.aV p _ h;exact⟨its,n,r,e,z⟩
theorem Inv.Yj{ak:List (Addr×Obj)}{O:St}{H:Hp}{s:ae}{p:Addr}{xs ys:List V}{its its':List Value}{n n':Nat}{f:Obj->Obj}(I:Inv X ak O H s)(h:H p=some (.lst xs)) (ho:s.heap.get? p=some {cls:=.type "list",data:=.seq its.toArray n})(hf:f {cls:=.type "list",data:=.seq its.toArray n}={cls:=.type "list",data:=.seq its'.toArray n'})(r:Vals ys its')(hz:ys.length<=sizeLine)(t:Nat): Inv X ak O (upd H p (.lst ys)) {s with heap:=s.heap.update p f,toks:=t}:=by
 have e:(s.heap.update p f).get? p=some {cls:=.type "list",data:=.seq its'.toArray n'}:=by rw[xB f ho (by rw[hf]<;>rfl),hf]
 refine I.write (x:=p) (e:=p) (by rw[h];trivial) (.inl Z) (λb u hb q=>(xC _ _ (iU hb)).trans q) ⟨_,e⟩ ?_;exact⟨hz,its',n',r,e⟩
inductive a72(o:V)(i:V)(v:V)(H:Hp)(Q:Hp->Prop):Prop |mk (p:_)(xs:_)(k:_)(j:_)(h0:o= .ref p)(h1:i= .int k)(h2:H p=some (.lst xs))(h3:kH xs.length k=some j)(h4:Q (upd H p (.lst (xs.set j v))))
def TQ:V->V->V->Hp->(Hp->Prop)->Prop:=λo i v H Q=>a72 o i v H Q
theorem set_list:OT X TQ:=by
 intro ak s O H o i v ov iv u Q I ro ri rv h;obtain⟨p,xs,k,j,rfl,rfl,hp,hj,q⟩:=h;cases ro;obtain⟨t,rfl⟩:=ri;obtain⟨its,n,r,ho,hz⟩:=I.lst hp;obtain⟨h1,h2,h3,h4⟩:=Mj hj;have hl:=r.length;have hn:=qG;have I':Inv X ak O (upd H p (.lst (xs.set j v))) {s with heap:=s.heap.update p (Obj.mapSeq (·.setIfInBounds j u))}:=I.Yj hp ho (XX its n j u) (r.set rv j) (by rw[List.length_set];exact hz) s.toks;by_cases h0:0<=k
 ·have hk:k.toNat=j:=by rw[seqIndex_of h0 h4]at h1;exact dW h1
  exact PySem.W.ki_setAt ho h0 aw (by rw[cY,<-hl];exact h4) (by rw[hk];exact⟨_,I',q⟩)
 ·have hk:(k+(its.toArray.size:Int)).toNat=j:=by rw[seqIndex_neg aw h3]at h1;rw[cY,<-hl];exact dW h1
  exact PySem.W.ki_setBack ho aw (by rw[cY,<-hl];exact h3) aw (by rw[hk];exact⟨_,I',q⟩)
theorem Se(lo hi:Option Int)(n:Nat):(sliceBounds lo hi none n).1=((_H.bI n 0 lo:Nat):Int)/\(sliceBounds lo hi none n).2.1=((_H.bI n n hi:Nat):Int)/\(sliceBounds lo hi none n).2.2=1:=by
 refine⟨?_,?_,Z⟩
 ·cases lo with |none=>simp[sliceBounds,_H.bI] |some i=>
  simp only[sliceBounds,_H.bI,Option.getD_none,show(1:Int)>0 by decide,rC];by_cases h:i<0
  ·simp only[h,rC]<;>lia
  ·simp only[h,if_false]<;>lia
 ·cases hi with |none=>simp[sliceBounds,_H.bI] |some i=>
  simp only[sliceBounds,_H.bI,Option.getD_none,show(1:Int)>0 by decide,rC];by_cases h:i<0
  ·simp only[h,rC]<;>lia
  ·simp only[h,if_false]<;>lia
theorem Sf(its:List Value)(lo hi:Option Int):slicePick its.toArray lo hi none=((its.drop (_H.bI its.length 0 lo)).take (_H.bI its.length its.length hi-_H.bI its.length 0 lo)).toArray:=by obtain⟨h1,h2,h3⟩:=Se lo hi its.toArray.size;unfold slicePick;rw[h1,h2,h3];simp only[sliceRange_one,pick_run,cY]<;>rfl
inductive a70(K:aa)(x:V)(lo:Option Int)(hi:Option Int)(H:Hp)(Q:VK):Prop |mk (a:_)(xs:_)(h0:x= .ref a)(h1:aK K H a xs)(h2:∀p,H p=none->Q (.ref p) (upd H p (.lst (gG xs lo hi))))
def TM(K:aa):V->Option Int->Option Int->Hp->VK->Prop:=λx lo hi H Q=>a70 K x lo hi H Q
theorem Sg:wH X (TM X.K):=by intro ak s O H x v vl vu lo hi sl Q I rx hs pl pu h;obtain⟨a,xs,rfl,hx,q⟩:=h;cases rx;obtain⟨its,r,ht,hz⟩:=I.list hx;have hlen:=r.length;refine⟨"list",_,slot_list_getitem.lookup,ht.isList.typeIs,?_⟩;refine wpAny_getItem_list_slice ht.isList hs pl pu .none (by simp) ?_ (by rw[cY]<;>lia);rw[Sf,<-hlen];refine⟨.ref s.heap.objs.size,_,I.laid (t':=s.toks) (o:=.lst (gG xs lo hi)) (λb ob q=>bL _ q) (bA _) ?_,Z,q _ (I.aV.fresh (bA _))⟩;exact⟨fA (O9 xs lo hi) hz,_,0,(r.drop (_H.bI xs.length 0 lo)).take (_H.bI xs.length xs.length hi-_H.bI xs.length 0 lo),dw _ Z⟩
def p7:V->Bool | .aY=>true | .bl _=>true | .int _=>true | .str _=>true |_=>false
def ph:V->V->Bool | .aY,.aY=>true | .bl a,.bl b=>a==b | .bl a,.int b=>(if a then 1 else 0)==b | .int a,.bl b=>a==(if b then 1 else 0) | .int a,.int b=>a==b | .str a,.str b=>a==b |_,_=>false
theorem a3J{A:ai}{s:ae}{y x:V}{u v:Value}(ry:RelV y u)(rx:RelV x v)(fy:p7 y=true)(fx:p7 x=true):SeqAt.EqAt A s u v (ph y x):=by cases y with
 |aY=>cases ry;cases x with |aY=>cases rx;exact SeqAt.EqAt.same _ |bl b=>cases rx;exact SeqAt.EqAt.none_bool b |int b=>obtain⟨t,rfl⟩:=rx;exact SeqAt.EqAt.none_int b t |str b=>obtain⟨t,rfl⟩:=rx;exact SeqAt.EqAt.none_str b t |_=>exact absurd (show false=true from fx) cI
 |bl a=>cases ry;cases x with |aY=>cases rx;exact SeqAt.EqAt.bool_none a |bl b=>cases rx;exact SeqAt.EqAt.bool_bool a b |int b=>obtain⟨t,rfl⟩:=rx;exact SeqAt.EqAt.bool_int a b t |str b=>obtain⟨t,rfl⟩:=rx;exact SeqAt.EqAt.bool_str a b t |_=>exact absurd (show false=true from fx) cI
 |int a=>obtain⟨t',rfl⟩:=ry;cases x with |aY=>cases rx;exact SeqAt.EqAt.int_none a t' |bl b=>cases rx;exact SeqAt.EqAt.int_bool a t' b |int b=>obtain⟨t,rfl⟩:=rx;exact SeqAt.EqAt.int_int a t' b t |str b=>obtain⟨t,rfl⟩:=rx;exact SeqAt.EqAt.int_str a t' b t |_=>exact absurd (show false=true from fx) cI
 |str a=>obtain⟨t',rfl⟩:=ry;cases x with |aY=>cases rx;exact SeqAt.EqAt.str_none a t' |bl b=>cases rx;exact SeqAt.EqAt.str_bool a t' b |int b=>obtain⟨t,rfl⟩:=rx;exact SeqAt.EqAt.str_int a t' b t |str b=>obtain⟨t,rfl⟩:=rx;exact SeqAt.EqAt.str_str a t' b t |_=>exact absurd (show false=true from fx) cI
 |_=>exact absurd (show false=true from fy) cI
def nT(x:V)(u:Value):Bool:=match u with | .none=>ph .aY x | .bool b=>ph (.bl b) x | .int i _=>ph (.int i) x | .str z _=>ph (.str z) x |_=>false
theorem NF{x y:V}{u:Value}(r:RelV y u)(f:p7 y=true):nT x u=ph y x:=by cases y with |aY=>cases r;rfl |bl b=>cases r;rfl |int i=>obtain⟨t,rfl⟩:=r;rfl |str z=>obtain⟨t,rfl⟩:=r;rfl |_=>exact absurd (show false=true from f) cI
theorem Ga{x:V}:∀{xs:List V}{us:List Value},Vals xs us->xs.all p7=true->us.any (nT x)=xs.any λy=>ph y x |_,_,.nil,_=>rfl |y::xs,u::us,.cons r t,f=>by rw[xx,d6]at f;rw[uz,uz,NF r f.1,Ga t f.2]
theorem DN{A:ai}{s:ae}{x:V}{v:Value}(rx:RelV x v)(fx:p7 x=true):∀{xs:List V}{us:List Value},Vals xs us->xs.all p7=true->∀u∈us,SeqAt.EqAt A s u v (nT x u)
 |_,_,.nil,_=>λu hu=>by cases hu |y::xs,u::us,.cons r t,f=>λu' hu=>by
  rw[xx,d6]at f;rcases bZ.mp hu with rfl|hu
  ·rw[NF r f.1];exact a3J r rx f.1 fx
  ·exact DN rx fx t f.2 u' hu
def z9(x:V)(xs:List V):Bool:=xs.any λy=>ph y x
inductive a7i(K:aa)(neg:Bool)(x:V)(y:V)(H:Hp)(Q:VK):Prop |mk (p:_)(xs:_)(h0:y= .ref p)(h1:(aK K H p xs\/aQ K H p xs))(h2:p7 x=true)(h3:xs.all p7=true)(h4:Q (.bl (if neg then !z9 x xs else z9 x xs)) H)
def KI(K:aa)(neg:Bool):R2:=λx y H Q=>a7i K neg x y H Q
theorem UX:cn X (compareOp .NotIn) (KI X.K true):=by
 intro ak s O H x y v u Q I rx ry h;obtain⟨p,xs,rfl,hq,fx,fs,q⟩:=h;cases ry;rcases hq with hq|hq
 ·obtain⟨its,r,pl,hz⟩:=I.list hq
  refine SeqAt.notIn_listAt (nT x) pl.isList (λw hw=>DN rx fx r fs w (by simpa using hw)) ⟨.bl _,H,I,Z,?_⟩;rw[show its.toArray.any (nT x)=its.any (nT x) by simp,Ga r fs];exact q
 ·obtain⟨its,r,pl,hz⟩:=I.tuple hq
  refine SeqAt.notIn_tupleAt (nT x) pl (λw hw=>DN rx fx r fs w (by simpa using hw)) ⟨.bl _,H,I,Z,?_⟩;rw[show its.toArray.any (nT x)=its.any (nT x) by simp,Ga r fs];exact q
theorem a4F:eT X (.builtin "len") (λxs H Q=>∃p ys,xs=[.ref p]/\(aK X.K H p ys\/aQ X.K H p ys)/\Q (.int ys.length) H):=by
 intro ak s O H xs us Q I r h;obtain⟨p,ys,rfl,hq,q⟩:=h;obtain⟨u,rfl,rx⟩:=vals1 r;cases rx;have hn:=qG;rcases hq with hq|hq
 ·obtain⟨its,r',pl,hz⟩:=I.list hq
  have hlen:=r'.length;exact Calls.call_len_list pl.isList (by simp only[cY]<;>lia) ⟨.int ys.length,H,I.tok _,⟨s.toks+1,by rw[cY,hlen]⟩,q⟩
 ·obtain⟨its,r',pl,hz⟩:=I.tuple hq
  have hlen:=r'.length;exact len_tuple pl (by simp only[cY]<;>lia) ⟨.int ys.length,H,I.tok _,⟨s.toks+1,by rw[cY,hlen]⟩,q⟩
theorem a4E:eT X (.builtin "len") (λxs H Q=>∃z,xs=[.str z]/\z.length<=sizeLine/\Q (.int z.length) H):=by intro ak s O H xs us Q I r h;obtain⟨z,rfl,hz,q⟩:=h;obtain⟨u,rfl,t,rfl⟩:=vals1 r;have hn:=qG;exact len_str aw ⟨.int z.length,H,I.tok _,⟨_,Z⟩,q⟩
theorem eT.or{f:Value}{r r':List V->Hp->VK->Prop}(h:eT X f r)(h':eT X f r'):eT X f (λxs H Q=>r xs H Q\/r' xs H Q):=by
 intro ak s O H xs us Q I rs q;rcases q with q|q
 ·exact h ak s O H xs us Q I rs q
 ·exact h' ak s O H xs us Q I rs q
theorem a4D:eT X (.type "list") (λxs H Q=>∃p ys,xs=[.ref p]/\(aK X.K H p ys\/aQ X.K H p ys)/\∀l,H l=none->Q (.ref l) (upd H l (.lst ys))):=by
 intro ak s O H xs us Q I r h;obtain⟨p,ys,rfl,hq,q⟩:=h;obtain⟨u,rfl,rx⟩:=vals1 r;cases rx;have fin:∀(its:List Value),Vals ys its->ys.length<=sizeLine->∀(h':Heap)(c':Nat),(∀b o',s.heap.get? b=some o'->h'.get? b=some o')->h'.get? s.heap.objs.size=some {cls:=.type "list",dict:=none,data:=.seq its.toArray c',slots:=#[]}->EP X ak O Q (.ref s.heap.objs.size) {s with heap:=h'}:=λits r' hz h' c' kp e=>⟨.ref s.heap.objs.size,_,I.laid (t':=s.toks) kp (bA _) (show eQ X.prog X.w _ h' _ (.lst ys)from⟨hz,its,c',r',e⟩),Z,q _ (I.aV.fresh (bA _))⟩;rcases hq with hq|hq
 ·obtain⟨its,r',pl,hz⟩:=I.list hq
  have hlen:=r'.length;obtain⟨o,ho,hc,n,hd⟩:=pl.isList;exact call_list_seq p (.inl Z) ho hc hd (λh' c' kp e=>fin its r' hz h' c' kp e) (by simp only[cY]<;>lia)
 ·obtain⟨its,r',pl,hz⟩:=I.tuple hq
  have hlen:=r'.length;obtain⟨o,ho,hc,n,hd⟩:=pl;exact call_list_seq p (.inr Z) ho hc hd (λh' c' kp e=>fin its r' hz h' c' kp e) (by simp only[cY]<;>lia)
theorem a4y:eT X (.type "tuple") (λxs H Q=>∃p ys,xs=[.ref p]/\((aK X.K H p ys/\∀l,H l=none->Q (.ref l) (upd H l (.tup ys)))\/(aQ X.K H p ys/\Q (.ref p) H))):=by
 intro ak s O H xs us Q I r h;obtain⟨p,ys,rfl,h⟩:=h;obtain⟨u,rfl,rx⟩:=vals1 r;cases rx;rcases h with⟨hq,q⟩|⟨hq,q⟩
 ·obtain⟨its,r',pl,hz⟩:=I.list hq
  have hlen:=r'.length;refine call_tuple_list pl.isList (λh' kp=>?_) (by simp only[cY]<;>lia);have I1:Inv X ak O H {s with heap:=h'}:=I.kept (t':=s.toks) kp;have I2:Inv X ak O (upd H h'.objs.size (.tup ys)) {s with heap:=h'.push {cls:=.type "tuple",data:=.seq its.toArray}}:=I1.laid (t':=s.toks) (λb o e=>bL _ e) (bA _) (show eQ X.prog X.w _ _ _ (.tup ys)from⟨hz,its,r',IsTup.new _ _⟩);exact⟨.ref h'.objs.size,_,I2,Z,q _ (I1.aV.fresh (bA _))⟩
 ·obtain⟨its,r',pl,hz⟩:=I.tuple hq
  exact call_tuple_same pl ⟨.ref p,H,I,Z,q⟩
def Hs(K:aa)(T:String)(x:V)(H:Hp):Prop:=match x with | .str _=>T="str" | .int _=>T="int" | .ref p=>(T="list"/\∃xs,aK K H p xs)\/(T="tuple"/\∃o,K.lookup p=some o/\o.cls= .type "tuple"/\o.dict=none)\/ (T="dict"/\((∃dj,H p=some (.dK dj))\/∃dj,H p=some (.dT dj)))\/(T="set"/\∃S n,H p=some (.set S n)) |_=>False
theorem QD{ak:List (Addr×Obj)}{O:St}{H:Hp}{s:ae}{T:String}{x:V}{v:Value}(I:Inv X ak O H s)(r:RelV x v)(ty:Hs X.K T x H): s.TypeIs v T/\∀a,v= .ref a->∃ob,s.heap.get? a=some ob/\ob.dict=none:=by cases x with
 |str z=>obtain⟨t,rfl⟩:=r;cases(show T="str" from ty);exact⟨typeIs_str s z t,λ_ e=>nomatch e⟩ |int i=>obtain⟨t,rfl⟩:=r;cases(show T="int" from ty);exact⟨uf s i t,λ_ e=>nomatch e⟩ |ref p=>
  cases r;rcases ty with⟨rfl,xs,hq⟩|⟨rfl,o,hk,hc,hd⟩|⟨rfl,hk⟩|⟨rfl,S,n,hk⟩
  ·obtain⟨its,_,pl,_⟩:=I.list hq
   refine⟨pl.isList.typeIs,λa e=>?_⟩;cases e;obtain⟨o,n,e,c,hd,_⟩:=pl;exact⟨o,e,hd⟩
  ·refine⟨⟨o,I.dH p o hk,hc⟩,λa e=>?_⟩
   cases e;exact⟨o,I.dH _ o hk,hd⟩
  ·have z:∃o,s.heap.get? p=some o/\o.ExactDict:=by
    rcases hk with⟨dj,hk⟩|⟨dj,hk⟩
    ·obtain⟨_,_,_,_,o,_,_,e,ex,_⟩:=I.aV p _ hk
     exact⟨o,e,ex⟩
    ·obtain⟨_,_,_,_,o,_,_,e,ex,_⟩:=I.aV p _ hk
     exact⟨o,e,ex⟩
   obtain⟨o,e,ex⟩:=z;refine⟨⟨o,e,ex.1⟩,λa e2=>?_⟩;cases e2;exact⟨o,e,ex.2.1⟩
  ·obtain⟨o,_,_,_,e,ex,_⟩:=I.aV p _ hk
   refine⟨⟨o,e,ex.1⟩,λa e2=>?_⟩;cases e2;exact⟨o,e,ex.2.1⟩ |_=>exact False.elim ty
def rV(K:aa)(T:String)(r:V->List V->Hp->VK->Prop)(to:TE)(t:TA):TE:=λO H Q=>to O H λx H1=>Hs K T x H1/\t O H1 λxs H2=>r x xs H2 Q
variable {o e:Expr}{es:List Expr}{to:TE}{t:TA}{name:Str}{apos cg:Pos}{T id:String}{r:V->List V->Hp->VK->Prop}
theorem vb(pa:PlainAttrs T)(slot:Slot T name id)(Ee:typeOf (.builtin id)=pure (.type "method_descriptor"))(hm:A5 X id r)(ho:PE X o to)(ha:PA X (e::es) t) (kR:autoParam (attributeBase o name X.env (eval o X.env)=eval o X.env) r8_._auto_1) (kP:autoParam (((backTo cg (starEach (e::es) X.env)).all (λx=>!x.1)&&(backToKw cg (keywordEach [] X.env)).all (λx=>x.1.isSome) &&decide ((e::es).length+([]:List Keyword).length+(if([]:List Keyword).isEmpty then 0 else 1)<30))=true) r8_._auto_1) (kM:autoParam ((apos.endLine==cg.line)=true) r8_._auto_1)(hs:autoParam (starEach (e::es) X.env=(false,eval e X.env)::starEach es X.env) r8_._auto_1)(kK:autoParam ((backTo cg (starEach es X.env)).any (·.1)=false) r8_._auto_1): PE X (.Call (.Attribute o name apos) (e::es) [] cg) (rV X.K T r to t):=by intro ak s O H Q I h;refine wpAny_Call_method_late kR kP kM Z (aR (ho ak s O H _ I h) λv s1 ⟨x,H1,I1,r1,ty,q1⟩=>?_);obtain⟨h1,h2⟩:=QD I1 r1 ty;refine⟨T,id,pa,slot,Ee,h1,h2,?_⟩;have hA:=ha cg ak s1 O H1 _ I1 q1;rw[hs]at hA⊢;refine Calls.callWith_builtin (by show(false||(backTo cg (starEach es X.env)).any (·.1))=false;rw[kK]<;>rfl) (Hf ?_);exact aR hA λus s2 ⟨vs,H2,I2,r2,q2⟩=>hm ak s2 O H2 x vs v us Q I2 r1 r2 q2
end
def P0(X:Cx)(id:String)(r:V->List V->Hp->VK->Prop):Prop:=∀(ak:List (Addr×Obj))(s:ae)(O:St)(H:Hp)(x:V)(xs:List V)(v:Value)(us:List Value)(Q:VK),Inv X ak O H s->RelV x v->Vals xs us->r x xs H Q->wpAny (model X.prog X.w) X.A (call (.builtin id) (v::us)) (EP X ak O Q) X.xe s
theorem Vals.one:∀{x:V}{us:List Value},Vals [x] us->∃u,us=[u]/\RelV x u |_,_,.cons r .nil=>⟨_,Z,r⟩
theorem Vals.rep{xs:List V}{us:List Value}(h:Vals xs us):∀k:Nat,Vals (List.replicate k xs).flatten (List.replicate k us).flatten |0=>.nil |k+1=>by rw[mL,mL,xu,xu];exact Vals.append h (Vals.rep h k)
theorem foldl_rep(its:List Value):∀(k:Nat)(acc:List Value),List.foldl (λx1 x2=>x1++x2) acc.toArray (List.replicate k its.toArray)=(acc++(List.replicate k its).flatten).toArray
 |0,acc=>by simp |k+1,acc=>by
  have e:acc.toArray++its.toArray=(acc++its).toArray:=by simp
  have e2:(acc++its)++(List.replicate k its).flatten=acc++(List.replicate (k+1) its).flatten:=by rw[mL,xu,List.append_assoc]
  rw[<-e2,<-foldl_rep its k (acc++its),<-e,mL,List.foldl_cons]
section
variable {X:Cx}{ak:List (Addr×Obj)}{O:St}{H:Hp}{s:ae}{l b:Addr}{xs ys zs:List V}
theorem Inv.LV{its its':List Value}{n:Nat}{f:Array Value->Array Value}{t':Nat}(I:Inv X ak O H s)(hH:H l=some (.lst xs)) (e:s.heap.get? l=some {cls:=.type "list",data:=.seq its.toArray n})(hf:f its.toArray=its'.toArray)(hv:Vals ys its')(hz:ys.length<=sizeLine): Inv X ak O (upd H l (.lst ys)) {s with heap:=s.heap.update l (Obj.mapSeq f),toks:=t'}:=by have q:=PySem.IsL.update e f;rw[hf]at q;refine I.write (x:=l) (e:=l) (by rw[hH];exact trivial) (.inl Z) (λb' u hb hu=>(xC s.heap (Obj.mapSeq f) (iU hb)).trans hu) ⟨_,q⟩ ?_;exact⟨hz,its',_,hv,q⟩
theorem Inv.yX{its:List Value}{t':Nat}(I:Inv X ak O H s)(hv:Vals ys its)(hz:ys.length<=sizeLine): Inv X ak O (upd H s.heap.objs.size (.lst ys)) {s with heap:=s.heap.push {cls:=.type "list",data:=.seq its.toArray},toks:=t'}:=I.laid (λ_ _ q=>bL _ q) (bA _) ⟨hz,its,0,hv,dw _ Z⟩
theorem Inv.fresh(I:Inv X ak O H s):H s.heap.objs.size=none:=I.aV.fresh (bA _)
theorem Inv.yV(I:Inv X ak O H s)(hH:H l=some (.lst xs)):xs.length<=sizeLine/\∃(its:List Value)(n:Nat),Vals xs its/\xs.length=its.length/\s.heap.get? l=some {cls:=.type "list",data:=.seq its.toArray n}:=by obtain⟨z,its,n,r,e⟩:=I.aV l _ hH;exact⟨z,its,n,r,r.length,e⟩
theorem Lx{n:Nat}(h:n<=sizeLine):Builtin.List.listTooLong n=false:=by unfold Builtin.List.listTooLong;exact cX aw
end
section
variable {X:Cx}
inductive a7p(x:V)(vs:List V)(H:Hp)(Q:VK):Prop |mk (l:_)(xs:_)(y:_)(h0:x= .ref l)(h1:vs=[y])(h2:H l=some (.lst xs))(h3:xs.length<sizeLine)(h4:Q .aY (upd H l (.lst (xs++[y]))))
def KL:V->List V->Hp->VK->Prop:=λx vs H Q=>a7p x vs H Q
theorem yQ:P0 X "list.append" KL:=by
 intro ak s O H x vs v us Q I rx rv h;obtain⟨l,xs,y,rfl,rfl,hH,hz,q⟩:=h;cases rx;obtain⟨u,rfl,ru⟩:=rv.one;obtain⟨z,its,n,r,hl,e⟩:=I.yV hH;refine lG F.slot_list_append ⟨_,e,Z⟩ F.entry_list_append (F.args_list_append_2 _ _) (PySem.list_append l its.toArray n u (by rw[cY];lia)) ⟨e,?_⟩;refine⟨.aY,_,I.LV (its':=its++[u]) hH e (by simp) (r.append (.cons ru .nil)) ?_,Z,q⟩;rw[fi,List.length_singleton]
 lia
inductive a7l(x:V)(vs:List V)(H:Hp)(Q:VK):Prop |mk (l:_)(b:_)(xs:_)(zs:_)(h0:x= .ref l)(h1:vs=[.ref b])(h2:H l=some (.lst xs))(h3:H b=some (.lst zs))(h4:xs.length+zs.length<=sizeLine)(h5:Q .aY (upd H l (.lst (xs++zs))))
def KJ:V->List V->Hp->VK->Prop:=λx vs H Q=>a7l x vs H Q
theorem Xy:P0 X "list.extend" KJ:=by
 intro ak s O H x vs v us Q I rx rv h;obtain⟨l,b,xs,zs,rfl,rfl,hH,hB,hz,q⟩:=h;cases rx;obtain⟨u,rfl,ru⟩:=rv.one;cases ru;obtain⟨z,its,n,r,hl,e⟩:=I.yV hH;obtain⟨z2,jq,n2,r2,mh,e2⟩:=I.yV hB;have hsz:its.toArray.size+jq.toArray.size<=sizeLine:=by rw[cY,cY];lia
 have Er:¬(!its.toArray.isEmpty&&Builtin.List.listTooLong (its.toArray.size+jq.toArray.size))=true:=by rw[Lx hsz,Aw];exact cI
 refine lG F.slot_list_extend ⟨_,e,Z⟩ F.entry_list_extend (F.args_list_extend_2 _ _) (AutoSeq1.list_extend_list_list_0 l its.toArray n b jq.toArray n2 Er (by rw[cY];lia) aw) ⟨e,e2,?_⟩;refine⟨.aY,_,I.LV (its':=its++jq) hH e (by simp) (r.append r2) ?_,Z,q⟩;rw[fi]
 lia
inductive a76(x:V)(y:V)(H:Hp)(Q:VK):Prop |mk (l:_)(k:_)(xs:_)(h0:x= .ref l)(h1:y= .int k)(h2:H l=some (.lst xs))(h3:-(2^63)<=k)(h4:k<2^63)(h5:xs.length*k.toNat<=sizeLine)(h6:∀p,H p=none->Q (.ref p) (upd H p (.lst (List.replicate k.toNat xs).flatten)))
def TV:R2:=λx y H Q=>a76 x y H Q
theorem len_rep{α:Type}(xs:List α)(k:Nat):(List.replicate k xs).flatten.length=k*xs.length:=by induction k with |zero=>simp |succ k ih=>rw[mL,xu,fi,ih,Nat.succ_mul,Nat.add_comm]
theorem UW:cn X (binaryOp .Mult) TV:=by
 intro ak s O H x y v u Q I rx ry h;obtain⟨l,k,xs,rfl,rfl,hH,h1,h2,hz,q⟩:=h;cases rx;obtain⟨t,rfl⟩:=ry;obtain⟨z,its,n,r,hl,e⟩:=I.yV hH;have hlen:its.toArray.size*k.toNat<=sizeLine:=by rw[cY,<-hl];exact hz
 have a0E:¬its.toArray.size*k.toNat>(2^63-1)/8:=by
  have:(sizeLine:Nat)<=(2^63-1)/8:=by decide
  lia
 have a0o:¬(!Builtin.List.listFitsIndex k)=true:=by rw[fitsIndex_both h1 h2];exact cI
 have Er:¬Builtin.List.listTooLong (its.toArray.size*k.toNat)=true:=by rw[Lx hlen];exact cI
 have zh:List.foldl (λx1 x2=>x1++x2) #[] (List.replicate (if its.toArray.isEmpty=true then 0 else k.toNat) its.toArray)=(List.replicate k.toNat its).flatten.toArray:=by
  have f0:∀m:Nat,List.foldl (λx1 x2=>x1++x2) #[] (List.replicate m its.toArray)=(List.replicate m its).flatten.toArray:=λm=>by have:=foldl_rep its m [];rw[List.nil_append]at this;exact this
  rw[f0];cases its with |nil=>simp |cons a r'=>rw[bf (by simp)]
 refine Pe (T:="list") (U:="int") az ⟨_,e,Z⟩ (λs'=>uf s' k t) noFill_list_mul F.fills_int_mul xD repeat_list F.slot_int_index.lookup (lG xD (uf s k t) F.entry_int_rmul (F.args_int_rmul_2 _ _) (int___rmul___int_list k t l its.toArray n) ⟨e,Z,⟨_,e,Z⟩,lG F.slot_list_mul ⟨_,e,Z⟩ F.entry_list_mul (F.args_list_mul_2 _ _) (AutoListH.list___mul___list_int_3 l its.toArray n k t a0o a0E Er) ⟨e,?_⟩⟩);rw[zh];exact⟨.ref _,_,I.yX (t':=s.toks) (r.rep k.toNat) (by rw[len_rep,Al];exact hz),Z,q _ I.fresh⟩
end
section
variable {prog:af}{w:World}{A:ai}{E:Value->ae->Prop}{s:ae}
end
section
variable {X:Cx}
end
end _L
namespace _AA
open PySem PySem.W PySem.Calls PyProof.Rows
theorem Z4{P:Params}{h:Heap}:∀(ns:List Int)(vs:List Value),WellAll P h vs (ns.map WData.int)->IntsAre vs ns:=by intro ns;induction ns with |nil=>intro vs w;rw[List.map_nil]at w;cases w;exact .nil |cons n ns ih=>intro vs w;rw[uw]at w;cases w with |cons a b=>cases a;exact .cons _ _ (ih _ b)
theorem So{l:OpenLaw}{n:Nat}(hn:l.most=some n){P:Params}{h:Heap}{args:List WData}{vals:List Value} (ze:l.row.toRowW.claim.pre args=true)(qJ:WellAll P h vals args): ∃a vs ns,vals=[Value.ref a]/\args=[WData.list (ns.map WData.int)]/\h.get? a=some {cls:=.type "list",data:=.seq vs.toArray}/\IntsAre vs ns/\ns.length<=n:=by
 have ZE:WShape.hasAll [] args [.list .int]=true:=(pre_splitW ze).1;have hc:l.pre.holds [] {args:=args}=true:=(pre_splitW ze).2;obtain⟨d,r,rfl,h1,h2⟩:=hasAllW_cons ZE;obtain rfl:=hasAllW_nil h2;obtain⟨xs,rfl,h3⟩:=hasW_list h1;obtain⟨ns,rfl⟩:=items_int h3;have hlen:ns.length<=n:=by
  unfold OpenLaw.pre at hc;have h4:(WTm.not (.lt (.lit (.int (n:Int))) (.len (.arg 0)))).holds [] {args:=[.list (ns.map .int)]}=true:=by have h4:=(holds_andW hc).1;rw[hn]at h4;exact h4
  have h5:=condW_of h4 (w_not (w_lt w_lit (w_len_list (w_arg Z))));rw[bR]at h5;refine Nat.le_of_not_lt λq=>?_;have q':(n:Int)<((ns.length:Nat):Int):=by omega
  first |(rw[cu q']at h5;exact absurd h5 az) |(simp at h5;omega)
 cases qJ with |cons w1 w2=>cases w2;cases w1 with |list ho a0R=>exact⟨_,_,ns,Z,Z,ho,Z4 ns _ a0R,hlen⟩
theorem Uk(l:OpenLaw)(args:List WData):l.row.toRowW.claim.post args (.bool true) args=true:=postW_of (r:=l.row.toRowW) (X:=(true==true)) (show WShape.has [] (.bool true) .bool=true by first|rfl|decide|simp[WShape.has,WShape.arms,WShape.armsAll]) (show(WTm.eq .res (.lit (.bool true))).value [] {args:=args,res:=some (.bool true),after:=args}=some (.bool (true==true))from w_eq_bool (w_res Z) w_lit) rfl
theorem a50{l:OpenLaw}{n:Nat}{q:af}{loose:List Str}{XP:(bc)->Heap->Prop}{YP:World->Heap->Prop}{d:DefRec} (hn:l.most=some n)(vN:d.params.defaults=[]) (call:∀(w:World)(s₀ s₁:ae)(mg mb:bc)(fa:Addr)(o:Obj)(pm cd doc:Value)(a:Addr)(vs:List Value)(ns:List Int),Ground q loose [] XP w s₀ mg mb s₁.heap->YP w s₁.heap->s₁.heap.get? fa=some o->o.data= .func (docDef d.name d.params d.body d.scope pm cd doc)->s₁.heap.CodeRec cd d.name->mg d.name=some (.ref fa)->s₁.heap.get? a=some {cls:=.type "list",data:=.seq vs.toArray}->IntsAre vs ns->ns.length<=n->s₁.gens=#[]->codeAny (model l.prog w) callerA (.call (.ref fa) ⟨[.ref a],[]⟩) (λr s'=>r= .ok (.ret (.bool true))/\OldK s₁.heap s'.heap/\s'.os=s₁.os/\AllBare s'.gens) s₁): WalkO q loose XP YP l.row.toRowW d [] (λf vs=>PySem.call f vs):=by intro w s₀ s₁ mg mb G Y fa o pm cd doc dV kV ho hd dY hD vI hg args vals as ze a8o hrd qJ hlo;obtain rfl:dV= .none:=Dflts.none hD vN;obtain rfl:kV= .none:=Dflts.noKw hD;obtain⟨a,vs,ns,rfl,rfl,Em,hints,hlen⟩:=So hn ze qJ;refine enter_call (rF (call w s₀ s₁ mg mb fa o pm cd doc a vs ns G Y ho (fd_plain hd) dY vI Em hints hlen hg) λr s' hq=>?_);obtain⟨rfl,h2,h3,h4⟩:=hq;exact⟨.inl ⟨.bool true,.bool true,[],Z,λ_=>rfl,.bool true,Uk l _,λ_=>⟨List.Pairwise.nil,λ_ hm=>(nomatch hm)⟩⟩,h2,h3,h4⟩
section
variable {prog:af}{w:World}{A:ai}{E:Value->ae->Prop}{s:ae}{K:Frag}
end
end _AA
namespace _L
open PySem PySem.Spec PyProof.Rows
theorem Hq:∀{vs:List Value}{ns:List Int},IntsAre vs ns->Vals (ns.map V.int) vs |_,_,.nil=>.nil |_,_,.cons n t h=>.cons ⟨t,Z⟩ (Hq h)
def Gr(H:Hp):Prop:=∀b,H b=none\/∃o xs,H b=some (.kY o (.lst xs))
theorem YL{P:af}{w:World}{K:aa}{mg mb:bc}{CX:iT}{k:Nat}{fa a:Addr}{fd:FuncData}{x:Str}{sp:Sp}{s₁:ae}{vs:List Value}{ns:List Int} (KX:K.In s₁.heap)(MG:s₁.heap.Ns mainGlobals mg)(hb:s₁.heap.Ns builtinsNs mb)(hbb:∀x:Str,x≠"__name__"->mb x=bootBuiltins x)(a02:s₁.heap.NoLimit)(hg:s₁.gens=#[]) (ha:s₁.heap.get? a=some {cls:=.type "list",data:=.seq vs.toArray})(hi:IntsAre vs ns)(hl:ns.length<=sizeLine)(hr:bU k callerA) (F:∀au:Heap,K.In au->au.Ns mainGlobals mg->dS P w K mg au CX k fa fd [x] sp)(a0J:∀(s:ae)(u:Value),BindsTo s fd ⟨[u],[]⟩ [(x,u)]) (ft:∀H:Hp,Gr H->aK K H a (ns.map V.int)->sp [.ref a] H (λv _=>v= .bl true) λ_ _ _=>False) (EZ:∀H e s',CX [] H s₁ (λ_ _ _=>False) e s'->False): codeAny (model P w) callerA (.call (.ref fa) ⟨[.ref a],[]⟩) (λr s'=>r= .ok (.ret (.bool true))/\OldK s₁.heap s'.heap/\s'.os=s₁.os/\AllBare s'.gens) s₁:=by
 have rv:=Hq hi;have YB:=hi.length;have core:∀H:Hp,Gr H->aK K H a (ns.map V.int)->dv P w H s₁.heap->(∀b,H b≠none->b=a)->(H a≠none->K.lookup a=none)->codeAny (model P w) callerA (.call (.ref fa) ⟨[.ref a],[]⟩) (λr s'=>r= .ok (.ret (.bool true))/\OldK s₁.heap s'.heap/\s'.os=s₁.os/\AllBare s'.gens) s₁:=by
  intro H hO hS aV hA hK;have OE:∀{b:Addr}{o:Obj},s₁.heap.get? b=some o->H b=none->(nL s₁.heap H).get? b=some o:=λe n=>a0i e n;have vn:∀{b:Addr}{o:Obj}{es:Array DictEntry}{ep:Nat},s₁.heap.get? b=some o->o.data= .dict es ep->H b=none:=λ{b o es ep} e d=>by cases q:H b with |none=>rfl |some u=>have e':b=a:=hA b (by rw[q];simp);subst e';rw[ha]at e;cases e;have d':Data.seq vs.toArray _=Data.dict es ep:=d;cases d'
  have yK:∀{b:Addr}{m:bc},s₁.heap.Ns b m->(nL s₁.heap H).Ns b m:=λ{b m} ⟨o,es,ep,e,d,r⟩=>⟨o,es,ep,OE e (vn e d),d,r⟩;have N0:K.In (nL s₁.heap H):=λb o e=>OE (KX b o e) (by cases q:H b with |none=>rfl |some u=>have e':b=a:=hA b (by rw[q];simp);subst e';rw[hK (by rw[q];simp)]at e;cases e);have hM:Mod K mg (nL s₁.heap H):=⟨N0,yK MG,⟨mb,yK hb,hbb⟩,let⟨mc,h1,h2⟩:=a02;⟨mc,yK h1,h2⟩⟩;have e0:o9 P w K mg (nL s₁.heap H) callerA [] s₁ H:=⟨Z,hM,λb o e=>WM e,Nat.le_of_eq (a0h _ _),trivial,λb hb=>absurd (show b∈([]:List Addr)from hb) (by simp),aV,.of_eq hg⟩;refine rF ((F _ N0 (yK MG)).run callerA [] s₁ H ⟨[.ref a],[]⟩ [.ref a] [.ref a] _ _ hr e0 (a0J s₁ (.ref a)) (.cons Z .nil) (ft H hO hS)) λr s' h=>?_;cases r with |error e=>exact(EZ H e s' h).elim |ok fl=>cases fl with |next=>exact False.elim h |brk=>exact False.elim h |cont=>exact False.elim h |ret u=>obtain⟨v,H',os,bare,un,ZN,r',q⟩:=h;have q':v= .bl true:=q;subst q';obtain rfl:u=Value.bool true:=r';refine⟨Z,OldK.of_keep λb o e=>?_,os,bare⟩;cases q:H b with |none=>exact un.keep b o e q (by intro z;exact absurd (show b∈([]:List Addr)from z) (by simp)) (by simp) |some u=>
   rcases hO b with z|⟨ob,xs,z⟩
   ·rw[q]at z;cases z
   ·have z2:=un.gY b ob _ z
    obtain⟨e1,_⟩:=aV b _ z;obtain⟨e2,_⟩:=ZN b _ z2;rw[e]at e1;cases e1;exact e2
 cases hk:K.lookup a with |some o=>have e:=KX a o hk;rw[ha]at e;cases e;refine core (λ_=>none) (λ_=>.inl Z) (.inr ⟨_,vs.toArray,_,hk,Z,Z,Z,by rw[cY,YB];exact hl,by simpa using rv⟩) (λb u z=>by have z':(none:Option HO)=some u:=z;cases z') (λb z=>absurd rfl z) λz=>absurd rfl z |none=>
  refine core (λb=>if b=a then some (.kY {cls:=.type "list",data:=.seq vs.toArray} (.lst (ns.map V.int)))else none) (λb=>?_) (.inl (.inr ⟨{cls:=.type "list",data:=.seq vs.toArray},bo Z⟩)) (λb u z=>?_) (λb z=>?_) λ_=>hk
  ·by_cases hb:b=a
   ·exact .inr ⟨_,_,bo hb⟩
   ·exact .inl (bf hb)
  ·by_cases hb:b=a
   ·have z':=(bo hb).symm.trans z
    cases z';subst hb;exact⟨ha,by rw[bR];exact hl,vs,_,rv,ha⟩
   ·have z':=(bf hb).symm.trans z
    cases z'
  ·by_cases hb:b=a
   ·exact hb
   ·exact absurd (bf hb) z
theorem Ql{l:PySem.W.OpenLaw}{n k:Nat}{q:af}{loose:List Str}{XP:(bc)->Heap->Prop}{YP:World->Heap->Prop}{d:DefRec}{K:Params->aa}{CX:World->iT}{sp:World->Sp}{x:Str} (hn:l.most=some n)(tE:n<=sizeLine)(vN:d.params.defaults=[])(hr:bU k callerA) (hY:∀(w:World)(h:Heap),YP w h->(K w.params).In h) (F:∀(w:World)(mg:bc)(fa:Addr)(h:Heap),(K w.params).In h->h.Ns mainGlobals mg->mg d.name=some (.ref fa)->∃fd:FuncData,(∀(s:ae)(u:Value),BindsTo s fd ⟨[u],[]⟩ [(x,u)])/\∀au:Heap,(K w.params).In au->au.Ns mainGlobals mg->dS l.prog w (K w.params) mg au (CX w) k fa fd [x] (sp w)) (ft:∀(w:World)(H:Hp)(a:Addr)(ns:List Int),ns.length<=n->Gr H->aK (K w.params) H a (ns.map V.int)->sp w [.ref a] H (λv _=>v= .bl true) λ_ _ _=>False) (EZ:∀(w:World)(H:Hp)(s:ae)(e:Value)(s':ae),CX w [] H s (λ_ _ _=>False) e s'->False): PySem.W.WalkO q loose XP YP l.row.toRowW d [] (λf vs=>PySem.call f vs):=by refine _AA.a50 hn vN λw s₀ s₁ mg mb fa o pm cd doc a vs ns G Y ho hd dY vI Em hints hlen hg=>?_;have KX:=hY w _ Y;obtain⟨fd,hb,hF⟩:=F w mg fa _ KX G.T.g vI;exact YL KX G.T.g G.T.b G.T.builtins G.T.nolimit hg Em hints (fA hlen tE) hr hF hb (λH hO hS=>ft w H a ns hlen hO hS) λH e s'=>EZ w H s₁ e s'
def inClass(s:Stmt)(j:Nat):Stmt:=match s with | .ClassDef _ _ _ body _ _ _ _ _ _ _=>body.getD j (.Pass ⟨0,0,0,0⟩) |_=>.Pass ⟨0,0,0,0⟩
def iA(s:Stmt):Arguments:=match s with | .FunctionDef _ a _ _ _ _ _ _ _ _=>a |_=>{posonlyargs:=[],args:=[],vararg:=none,kwonlyargs:=[],kw_defaults:=[],kwarg:=none,defaults:=[]}
def eB(s:Stmt):List Stmt:=match s with | .FunctionDef _ _ b _ _ _ _ _ _ _=>b |_=>[]
def aP(s:Stmt):Scope:=match s with | .FunctionDef _ _ _ _ _ _ sc _ _ _=>sc |_=>{kind:=.function,names:=[],isGenerator:=false,isCoroutine:=false}
abbrev eM:iT:=λ_ _ _ _ _ _=>False
abbrev E0:XK:=λ_ _ _=>False
theorem yC{X:Cx}:Passes eM X E0:=λ_ _ _ _ _ _ _ h=>h.elim
structure gq(K:aa)(x qual:Str)(st:Stmt)(f:Addr)(fd:FuncData):Prop where
 ex:∃(oc:Value)(od:Option Addr)(kV doc pm:Value)(an:Option Addr)(aE ct:Value)(eG:Array (Option Value)),fd=PySem.W.fnOf x qual (iA st) (eB st) (aP st) .none kV doc pm an aE ct/\K.lookup f=some ⟨oc,od,.func fd,eG⟩/\PySem.W.codeIn K aE qual=true
 kp:PySem.W.keepIn K (.ref f)=true
section
variable {P:af}{w:World}{K:aa}{mg:bc}{au:Heap}
theorem gq.ok{x qual:Str}{st:Stmt}{f:Addr}{fd:FuncData}{N ps:List Str}{k:Nat}{sp:Sp}(F:gq K x qual st f fd)(S:bj N ps (aP st))(len:∀vs H Q E,sp vs H Q E->vs.length=ps.length) (fb:∀(aE:Value)(A:ai)(outer:List Env)(s:ae)(H:Hp)(vs:List V)(Q:VK)(E:XK),bU k (A.deeper (envOfC qual (aP st) s.heap.objs.size f aE))->sp vs H Q E->∃t,eP (eX eM P w K mg au N qual (aP st) f aE A outer s H E).lW (eB st) t/\t {nx:=λ_ H'=>Q .aY H',rt:=Q} (start N vs) H):dS P w K mg au eM (k+1) f fd ps sp:=by obtain⟨oc,od,kV,doc,pm,an,aE,ct,eG,rfl,lk,dY⟩:=F.ex;refine Fe lk dY S len λA outer s H vs Q E hr ft=>?_;obtain⟨t,h,q⟩:=fb aE A outer s H vs Q E hr ft;exact⟨t,h.lW,q⟩
theorem gq.binds{x qual:Str}{st:Stmt}{f:Addr}{fd:FuncData}{ps:List Str}(F:gq K x qual st f fd) (h:∀(kV doc pm:Value)(an:Option Addr)(aE ct:Value)(us:List Value),us.length=ps.length->bindArgs (PySem.W.fnOf x qual (iA st) (eB st) (aP st) .none kV doc pm an aE ct) ⟨us,[]⟩=pure (ps.zip us)):Binds K fd ps []:=by obtain⟨oc,od,kV,doc,pm,an,aE,ct,eG,rfl,lk,dY⟩:=F.ex;exact .all (h kV doc pm an aE ct)
theorem tN{x qual:Str}{st:Stmt}{f:Addr}{oc:Value}{od an:Option Addr}{eG:Array (Option Value)}{kV doc pm aE ct:Value}(l:K.lookup f=some ⟨oc,od,.func (PySem.W.fnOf x qual (iA st) (eB st) (aP st) .none kV doc pm an aE ct),eG⟩) (c:PySem.W.codeIn K aE qual=true)(k:PySem.W.keepIn K (.ref f)=true):gq K x qual st f (PySem.W.fnOf x qual (iA st) (eB st) (aP st) .none kV doc pm an aE ct):=⟨⟨oc,od,kV,doc,pm,an,aE,ct,eG,Z,l,c⟩,k⟩
end
section
variable {X:Cx}
theorem pv(i:Nat){x:Str}{pos:Pos}(hN:autoParam (X.N[i]? =some x) r8_._auto_1)(hv:Gj X.env.scope x:=by first|exact Or.inl rfl|exact Or.inr (Or.inl rfl)|exact Or.inr (Or.inr rfl))(hd:autoParam ((x==("__debug__":Str))=false) q8_._auto_1) (dY:autoParam ((x==("__classdict__":Str))=false) q8_._auto_1):PE X (.Name x pos) (HA i):=Ux hN hv hd dY
end
theorem aU{A B:Prop}(h:B):if false=true then A else B:=by rw[bf cI];exact h
theorem ba{A B:Prop}(h:A):if true=true then A else B:=by rw[bo rfl];exact h
theorem fZ{c A B:Prop}[Decidable c](h1:c->A)(h2:¬c->B):if c then A else B:=by
 by_cases h:c
 ·rw[bo h]
  exact h1 h
 ·rw[bf h]
  exact h2 h
def aA(H H':Hp):Prop:=∀b o,H b=some o->H' b=some o
theorem aA.refl(H:Hp):aA H H:=λ_ _ h=>h
theorem aA.trans{H H1 H2:Hp}(a:aA H H1)(b:aA H1 H2):aA H H2:=λc o h=>b c o (a c o h)
theorem aA.free{H H':Hp}(e:aA H H'){l:Addr}(h:H' l=Option.none):H l=Option.none:=by cases q:H l with |none=>rfl |some o=>rw[e l o q]at h;cases h
theorem aA.seq{K:aa}{H H':Hp}{a:Addr}{xs:List V}(e:aA H H')(h:aK K H a xs):aK K H' a xs:=by
 rcases h with(h|⟨o,h⟩)|h
 ·exact .inl (.inl (e _ _ h))
 ·exact .inl (.inr ⟨o,e _ _ h⟩)
 ·exact .inr h
def Wd (i:Int):Prop:=i.natAbs<2^5000
theorem Wd.bits{i:Int}(h:Wd i):Builtin.Int.intBits i<=2^20:=fA (PyProof.Rows.intBits_le h) az
theorem Wd.log{i:Int}(h:Wd i):i.natAbs.log2<9000:=by
 by_cases e:i.natAbs=0
 ·rw[e];decide
 ·have h1:i.natAbs.log2<5000:=(Nat.log2_lt e).mpr h
  lia
section
variable {X:Cx}
theorem vd:cn X (binaryOp .FloorDiv) (rI (λ_ j=>0<j/\Wd j) λi j=>.int (i/j)):=ve λi j _ _ _ _ _ hc q=>by have h1:(0:Int)<j:=hc.1;exact floordiv_int aw (by rw[Int.fdiv_eq_ediv_of_nonneg i aw];exact q) (.inl (PyProof.noPylong_of_log2 hc.2.log))
theorem Lg:cn X (binaryOp .FloorDiv) (rI (λ_ j=>j≠0/\Wd j) λi j=>.int (i.fdiv j)):=ve λ_ _ _ _ _ _ _ hc q=>floordiv_int hc.1 q (.inl (PyProof.noPylong_of_log2 hc.2.log))
end
def qV(K:aa)(H:Hp)(x:V)(T:String):Prop:=match x with | .aY=>T="NoneType" | .bl _=>T="bool" | .int _=>T="int" | .str _=>T="str" | .ref a=>(T="list"/\∃xs,aK K H a xs)\/(T="tuple"/\∃xs,aQ K H a xs) |_=>False
def fD(T n:String):Bool:=T==n||(T=="bool"&&n=="int")
def xN:List String:=["NoneType","bool","int","str","list","tuple"]
def uC:List String:=["bool","int","str","list","tuple"]
theorem Mh{K:aa}{T n:String}(h1:T∈xN)(h2:n∈uC):PySem.W.kitOne K (.type T) (.type n)=some (fD T n):=by
 have all:xN.all (λT=>uC.all λn=>PySem.W.kitOne [] (.type T) (.type n)==some (fD T n))=true:=by decide+kernel
 have a1:=fG.mp all T h1;have a2:=fG.mp a1 n h2;have e:PySem.W.kitOne K (.type T) (.type n)=PySem.W.kitOne [] (.type T) (.type n):=by unfold PySem.W.kitOne PySem.W.kitCls PySem.W.subIn;rfl
 rw[e];exact cP.mp a2
section
variable {X:Cx}
theorem qV.mem{K:aa}{H:Hp}{x:V}{T:String}(h:qV K H x T):T∈xN:=by cases x with |aY=>cases(show T="NoneType" from h);decide |bl b=>cases(show T="bool" from h);decide |int b=>cases(show T="int" from h);decide |str b=>cases(show T="str" from h);decide |ref a=>rcases(show(T="list"/\∃xs,aK K H a xs)\/(T="tuple"/\∃xs,aQ K H a xs)from h)with⟨e,_⟩|⟨e,_⟩<;>cases e<;>decide |_=>exact(show False from h).elim
theorem tj{ak:List (Addr×Obj)}{s:ae}{O:St}{H:Hp}{x:V}{u:Value}{T:String}(I:Inv X ak O H s)(rx:RelV x u)(ty:qV X.K H x T): ∃P:Heap->Prop,PySem.W.KitX X.K u (.type T) P/\P s.heap/\u≠ .builtin "__main__.__loader__#opaque":=by cases x with
 |aY=>cases(show T="NoneType" from ty);cases(show u=Value.none from rx);exact⟨_,PySem.W.kitx_none,True.intro,λz=>nomatch z⟩ |bl b=>cases(show T="bool" from ty);cases(show u=Value.bool b from rx);exact⟨_,PySem.W.kitx_bool,True.intro,λz=>nomatch z⟩ |int b=>cases(show T="int" from ty);obtain⟨t,q⟩:=(show∃t,u=Value.int b t from rx);cases q;exact⟨_,PySem.W.kitx_int,True.intro,λz=>nomatch z⟩ |str b=>cases(show T="str" from ty);obtain⟨t,q⟩:=(show∃t,u=Value.str b t from rx);cases q;exact⟨_,PySem.W.kitx_str,True.intro,λz=>nomatch z⟩ |ref a=>
  cases(show u=Value.ref a from rx);rcases(show(T="list"/\∃xs,aK X.K H a xs)\/(T="tuple"/\∃xs,aQ X.K H a xs)from ty)with⟨e,xs,hx⟩|⟨e,xs,hx⟩
  ·cases e
   obtain⟨its,r,⟨o,n,h1,h2,_⟩,_⟩:=I.list hx;exact⟨_,PySem.W.kitx_list,⟨o,h1,h2⟩,λz=>nomatch z⟩
  ·cases e
   obtain⟨its,r,⟨o,h1,h2,_⟩,_⟩:=I.tuple hx;exact⟨_,PySem.W.kitx_tuple,⟨o,h1,h2⟩,λz=>nomatch z⟩ |_=>exact(show False from ty).elim
inductive a7c(K:aa)(xs:List V)(H:Hp)(Q:VK):Prop |mk (x:_)(T:_)(n:_)(b:_)(h0:xs=[x,.ty n])(h1:qV K H x T)(h2:n∈uC)(h3:fD T n=b)(h4:Q (.bl b) H)
def D5(K:aa):List V->Hp->VK->Prop:=λxs H Q=>a7c K xs H Q
theorem a4H:eT X (.builtin "isinstance") (D5 X.K):=by intro ak s O H xs us Q I r h;obtain⟨x,T,n,b,rfl,ty,hn,rfl,q⟩:=h;obtain⟨u,c,rfl,rx,rc⟩:=vals2 r;cases(show c=Value.type n from rc);obtain⟨P,a8W,p,hx⟩:=tj I rx ty;exact PySem.W.kia_one a8W I.dH p (Mh ty.mem hn) hx λtk=>⟨.bl (fD T n),H,I.tok _,Z,q⟩
inductive a7b(K:aa)(xs:List V)(H:Hp)(Q:VK):Prop |mk (x:V)(T:String)(p:Addr)(ns:List String)(b:Bool)(h0:xs=[x,.ref p])(h1:H p=some (.tup (ns.map V.ty)))(h2:qV K H x T)(h3:(∀n∈ns,n∈uC))(h4:ns.any (fD T)=b)(h5:Q (.bl b) H)
def D4(K:aa):List V->Hp->VK->Prop:=λxs H Q=>a7b K xs H Q
theorem Mg{K:aa}{T:String}(h1:T∈xN):∀{ns:List String},(∀n∈ns,n∈uC)->PySem.W.kitAny K (.type T) (ns.map Value.type)=some (ns.any (fD T)) |[],_=>rfl |n::r,h=>by have e:=Mh (K:=K) h1 (h n (GS ..));have ih:=Mg (K:=K) h1 (ns:=r) λm hm=>h m (uv _ hm);rw[uw,PySem.W.kitAny,e,uz];cases fD T n with |true=>rfl |false=>simpa using ih
theorem Hn:∀{ns:List String}{us:List Value},Vals (ns.map V.ty) us->us=ns.map Value.type |[],_,.nil=>rfl |n::r,_,.cons q t=>by cases(show _=Value.type n from q);rw[Hn t];rfl
theorem a4G:eT X (.builtin "isinstance") (D4 X.K):=by intro ak s O H xs us Q I r h;obtain⟨x,T,p,ns,b,rfl,hp,ty,hn,rfl,q⟩:=h;obtain⟨u,c,rfl,rx,rc⟩:=vals2 r;cases(show c=Value.ref p from rc);obtain⟨P,a8W,pp,hx⟩:=tj I rx ty;obtain⟨_,its,rv,⟨cls,dd,dt,sl⟩,h1,h2,n,h3⟩:=(show eQ X.prog X.w H s.heap p (.tup (ns.map V.ty))from I.aV p _ hp);simp only at h2 h3;subst h2 h3;have e:=Hn rv;subst e;exact PySem.W.kia_tup a8W I.dH pp h1 (Mg ty.mem hn) hx λtk=>⟨.bl _,H,I.tok _,Z,q⟩
end
mutual
def RD(K:aa)(H:Hp):V->ah->Prop |x,.none=>x= .aY |x,.bool b=>x= .bl b |x,.int i=>x= .int i |x,.str y=>x= .str y |x,.list ds=>∃a xs,x= .ref a/\aK K H a xs/\aI K H xs ds |x,.tuple ds=>∃a xs,x= .ref a/\aQ K H a xs/\aI K H xs ds |_,.dict _=>False
def aI (K:aa)(H:Hp):List V->List ah->Prop |xs,[]=>xs=[] |xs,d::ds=>∃y ys,xs=y::ys/\RD K H y d/\aI K H ys ds
end
section
variable {X:Cx}
mutual
theorem RD.reads{ak:List (Addr×Obj)}{s:ae}{O:St}{H:Hp}(I:Inv X ak O H s):∀{x:V}{u:Value}(d:ah),RelV x u->RD X.K H x d->∃as,Reads s.heap u d as |x,u,.none,r,h=>by cases(show x= .aY from by simpa[RD]using h);cases(show u=Value.none from r);exact⟨_,.none⟩ |x,u,.bool b,r,h=>by cases(show x= .bl b from by simpa[RD]using h);cases(show u=Value.bool b from r);exact⟨_,.bool b⟩ |x,u,.int i,r,h=>by cases(show x= .int i from by simpa[RD]using h);obtain⟨t,q⟩:=(show∃t,u=Value.int i t from r);cases q;exact⟨_,.int i t⟩ |x,u,.str y,r,h=>by cases(show x= .str y from by simpa[RD]using h);obtain⟨t,q⟩:=(show∃t,u=Value.str y t from r);cases q;exact⟨_,.str y t⟩ |x,u,.list ds,r,h=>by rw[RD]at h;obtain⟨a,xs,rfl,hx,hd⟩:=h;cases(show u=Value.ref a from r);obtain⟨its,rv,⟨o,n,h1,h2,h3,h4⟩,_⟩:=I.list hx;obtain⟨as,q⟩:=aI.reads I ds rv hd;exact⟨_,.list h1 h2 h4 (by simpa using q)⟩ |x,u,.tuple ds,r,h=>by rw[RD]at h;obtain⟨a,xs,rfl,hx,hd⟩:=h;cases(show u=Value.ref a from r);obtain⟨its,rv,⟨o,h1,h2,n,h4⟩,_⟩:=I.tuple hx;obtain⟨as,q⟩:=aI.reads I ds rv hd;exact⟨_,.tuple h1 h2 h4 (by simpa using q)⟩ |x,u,.dict _,r,h=>by simp[RD]at h
theorem aI.reads {ak:List (Addr×Obj)}{s:ae}{O:St}{H:Hp}(I:Inv X ak O H s):∀{xs:List V}{us:List Value}(ds:List ah),Vals xs us->aI X.K H xs ds->∃as,ReadsAll s.heap us ds as |xs,us,[],r,h=>by cases(show xs=[]from by simpa[aI]using h);cases r;exact⟨_,.nil⟩ |xs,us,d::ds,r,h=>by rw[aI]at h;obtain⟨y,ys,rfl,h1,h2⟩:=h;cases r with |cons ra rb=>obtain⟨as,q⟩:=RD.reads I d ra h1;obtain⟨bs,q'⟩:=aI.reads I ds rb h2;exact⟨_,.cons q q'⟩
end
inductive a7m(K:aa)(x:V)(y:V)(H:Hp)(Q:VK):Prop |mk (d:_)(e:_)(h0:RD K H x d)(h1:RD K H y e)(h2:SeqAt.shaped d=true)(h3:SeqAt.shaped e=true)(h4:Q (.bl (PyData.eqv d e)) H)
def D6(K:aa):R2:=λx y H Q=>a7m K x y H Q
inductive a77(K:aa)(x:V)(y:V)(H:Hp)(Q:VK):Prop |mk (d:_)(e:_)(h0:RD K H x d)(h1:RD K H y e)(h2:SeqAt.shaped d=true)(h3:SeqAt.shaped e=true)(h4:Q (.bl (!PyData.eqv d e)) H)
def CW(K:aa):R2:=λx y H Q=>a77 K x y H Q
theorem V5(hu:X.A.units+64<cLine):cn X (compareOp .Eq) (D6 X.K):=by intro ak s O H x y v u Q I rx ry h;obtain⟨d,e,hd,he,sd,se,q⟩:=h;obtain⟨as,ra⟩:=RD.reads I d rx hd;obtain⟨bs,rb⟩:=RD.reads I e ry he;exact eq_dataH ra rb sd se hu ⟨.bl _,H,I,Z,q⟩
theorem UZ(hu:X.A.units+64<cLine):cn X (compareOp .NotEq) (CW X.K):=by intro ak s O H x y v u Q I rx ry h;obtain⟨d,e,hd,he,sd,se,q⟩:=h;obtain⟨as,ra⟩:=RD.reads I d rx hd;obtain⟨bs,rb⟩:=RD.reads I e ry he;exact ne_dataH ra rb sd se hu ⟨.bl _,H,I,Z,q⟩
end
theorem aA.new{H:Hp}{t:Addr}{o:HO}(ht:H t=none):aA H (upd H t o):=λb o' e=>by rw[aL (eH e ht)];exact e
structure Nw(H H':Hp)(p:Addr)(o:HO):Prop where
 no:H p=none
 at':H' p=some o
 same:aA H H'
 eq:H'=upd H p o
theorem Nw.of{H:Hp}{p:Addr}{o:HO}(h:H p=none):Nw H (upd H p o) p o:=⟨h,bp,.new h,Z⟩
def zT:List Str:=["len","abs","min","max","range","isinstance","int","bool","str","tuple","list","any","all","sum","zip","enumerate","sorted","reversed","ord","chr","divmod","repr","dict","set"]
def bE (mg:bc):Prop:=∀x∈zT,mg x=none
theorem bE.at{mg:bc}(B:bE mg)(x:Str)(h:autoParam (x∈zT) q8_._auto_1):mg x=none:=B x h
theorem fz{α:Type}{C:List α->Prop}(h:∀a,C [a]):∀us:List α,us.length=1->C us |[_],_=>h _
theorem cJ{α:Type}{C:List α->Prop}(h:∀a b,C [a,b]):∀us:List α,us.length=2->C us |[_,_],_=>h _ _
theorem iR{α:Type}{C:List α->Prop}(h:∀a b c,C [a,b,c]):∀us:List α,us.length=3->C us |[_,_,_],_=>h _ _ _
theorem Ge{α:Type}{C:List α->Prop}(h:∀a b c d,C [a,b,c,d]):∀us:List α,us.length=4->C us |[_,_,_,_],_=>h _ _ _ _
theorem Gd{α:Type}{C:List α->Prop}(h:∀a b c d e,C [a,b,c,d,e]):∀us:List α,us.length=5->C us |[_,_,_,_,_],_=>h _ _ _ _ _
def Ni(N P:List Str)(sc:Scope):Bool:=decide (sc.kind= .function)&& !sc.isCoroutine&& !sc.isGenerator&&decide N.Nodup&&decide (N.take P.length=P)&&P.all (λx=>decide (sc.names.lookup x=some .local\/sc.names.lookup x=some .cell))&&sc.names.all λy=>decide (y.2≠ .free)
theorem bw{N P:List Str}{sc:Scope}(h:Ni N P sc=true):bj N P sc:=by unfold Ni at h;simp only[d6,Ae,Hg,fG]at h;obtain⟨⟨⟨⟨⟨⟨h1,h2⟩,h3⟩,h4⟩,h5⟩,h6⟩,h7⟩:=h;exact⟨h1,h2,h3,h4,h5,h6,h7⟩
structure FA(K:aa)(mg:bc)(x:Str)(st:Stmt):Prop where ex:∃f fd,mg x=some (.ref f)/\gq K x x st f fd
def aG(P:af)(w:World)(K:aa)(mg:bc)(au:Heap)(x:Str)(k:Nat)(sp:Sp):Prop:=∃f fd ps,dS P w K mg au eM k f fd ps sp/\mg x=some (.ref f)/\PySem.W.keepIn K (.ref f)=true/\Binds K fd ps []
section
variable {P:af}{w:World}{K:aa}{mg:bc}{au:Heap}
theorem a2E{h:Heap}{x:Str}{st:Stmt}{f:Addr}{oc:Value}{od an:Option Addr}{eG:Array (Option Value)}{kV doc pm aE ct:Value}(X:K.In h)(G:h.Ns mainGlobals mg) (a:PySem.W.nsIn K mainGlobals x=some (some (.ref f))) (l:K.lookup f=some ⟨oc,od,.func (PySem.W.fnOf x x (iA st) (eB st) (aP st) .none kV doc pm an aE ct),eG⟩) (c:PySem.W.codeIn K aE x=true)(k:PySem.W.keepIn K (.ref f)=true):FA K mg x st:=⟨f,_,rJ X G a,tN l c k⟩
theorem FA.has{x:Str}{st:Stmt}{N ps:List Str}{k:Nat}{sp:Sp}(F:FA K mg x st)(S:bj N ps (aP st))(len:∀vs H Q E,sp vs H Q E->vs.length=ps.length) (hb:∀(kV doc pm:Value)(an:Option Addr)(aE ct:Value)(us:List Value),us.length=ps.length->bindArgs (PySem.W.fnOf x x (iA st) (eB st) (aP st) .none kV doc pm an aE ct) ⟨us,[]⟩=pure (ps.zip us)) (fb:∀(f:Addr)(aE:Value)(A:ai)(outer:List Env)(s:ae)(H:Hp)(vs:List V)(Q:VK)(E:XK),bU k (A.deeper (envOfC x (aP st) s.heap.objs.size f aE))->sp vs H Q E->∃t,eP (eX eM P w K mg au N x (aP st) f aE A outer s H E).lW (eB st) t/\t {nx:=λ_ H'=>Q .aY H',rt:=Q} (start N vs) H):aG P w K mg au x (k+1) sp:=by obtain⟨f,fd,hm,F⟩:=F.ex;exact⟨f,fd,ps,F.ok S len λaE A outer s H vs Q E=>fb f aE A outer s H vs Q E,hm,F.kp,F.binds hb⟩
end
section
variable {X:Cx}{k:Nat}{x:Str}{p pos:Pos}{e:Expr}{es:List Expr}{t:TA}{sp:Sp}
def HI(sp:Sp)(t:TA):TE:=λO H Q=>t O H λvs H1=>sp vs H1 Q E0
theorem UD(F:aG X.prog X.w X.K X.mg X.au x k sp)(hr:bU k X.A)(hg:Gl X x)(ha:PA X (e::es) t)(eZ:autoParam ((x==("__debug__":Str))=false) q8_._auto_1) (he:autoParam (starEach (e::es) X.env=(false,eval e X.env)::starEach es X.env) r8_._auto_1)(dI:autoParam ((backTo pos (starEach es X.env)).any (·.1)=false) r8_._auto_1): PE X (.Call (.Name x p) (e::es) [] pos) (HI sp t):=by
 obtain⟨f,fd,ps,F,hm,hk,hb⟩:=F;have h:=L6 (pos:=pos) (p:=p) F hr hg hm hk hb .nil yC ha eZ he dI;intro ak s O H Q I hq;refine h ak s O H Q I ?_;have e1:(λ(vs:List V) H1=>sp (vs++[]) H1 Q E0)=λvs H1=>sp vs H1 Q E0:=by funext vs H1;rw[jk]
 show t O H λvs H1=>sp (vs++[]) H1 Q E0;rw[e1];exact hq
theorem pf{j:Nat}(F:aG X.prog X.w X.K X.mg X.au x j sp)(hr:bU k X.A)(ha:PA X (e::es) t)(hjk:autoParam (j<=k) q8_._auto_1)(hg:autoParam (Gl X x) r8_._auto_1)(eZ:autoParam ((x==("__debug__":Str))=false) q8_._auto_1)(he:autoParam (starEach (e::es) X.env=(false,eval e X.env)::starEach es X.env) r8_._auto_1)(dI:autoParam ((backTo pos (starEach es X.env)).any (·.1)=false) r8_._auto_1):PE X (.Call (.Name x p) (e::es) [] pos) (HI sp t):=UD F (hr.mono hjk) hg ha eZ he dI
theorem cw:cn X (binaryOp .Mult) (rI (λi j=>IntMulOk i j) λi j=>.int (i*j)):=ve λ_ _ _ _ _ _ _ hc q=>mul_int q hc
theorem V4:cn X (compareOp .Eq) (j7 λi j=>.bl (decide (i=j))):=sQ λ_ _ _ _ _ _ _ q=>eq_int (by rw[Q4];exact q)
theorem UY:cn X (compareOp .NotEq) (j7 λi j=>.bl (!decide (i=j))):=sQ λ_ _ _ _ _ _ _ q=>ne_int (by rw[bne,Q4];exact q)
theorem V6(hu:X.A.units+64<cLine):cn X (compareOp .Eq) (λx y H Q=>j7 (λi j=>.bl (decide (i=j))) x y H Q\/D6 X.K x y H Q):=V4.or (V5 hu)
theorem V0(hu:X.A.units+64<cLine):cn X (compareOp .NotEq) (λx y H Q=>j7 (λi j=>.bl (!decide (i=j))) x y H Q\/CW X.K x y H Q):=UY.or (UZ hu)
mutual
theorem eqv_refl:∀d:ah,d.canLay0=true->PyData.eqv d d=true | .none,_=>by simp[PyData.eqv] | .bool b,_=>by simp[PyData.eqv] | .int i,_=>by simp[PyData.eqv] | .str x,_=>by simp[PyData.eqv] | .list ds,h=>by simp only[PyData.eqv];exact eqvAll_refl ds (by simpa[PyData.canLay0]using h) | .tuple ds,h=>by simp only[PyData.eqv];exact eqvAll_refl ds (by simpa[PyData.canLay0]using h) | .dict _,h=>by simp[PyData.canLay0]at h
theorem eqvAll_refl:∀ds:List ah,PyData.canLayAll0 ds=true->PyData.eqvAll ds ds=true |[],_=>by simp[PyData.eqvAll] |d::ds,h=>by simp only[PyData.canLayAll0,d6]at h;simp only[PyData.eqvAll,d6];exact⟨eqv_refl d h.1,eqvAll_refl ds h.2⟩
end
theorem Ts{K:aa}{H:Hp}(b:Bool):RD K H (.bl b) (.bool b):=by simp[RD]
theorem cQ{K:aa}{H:Hp}(i:Int):RD K H (.int i) (.int i):=by simp[RD]
theorem dN{K:aa}{H:Hp}(x:Str):RD K H (.str x) (.str x):=by simp[RD]
theorem oA{K:aa}{H:Hp}:RD K H .aY .none:=by simp[RD]
theorem eF{K:aa}{H:Hp}{p:Addr}{xs:List V}{ds:List ah}(h:aQ K H p xs)(r:aI K H xs ds):RD K H (.ref p) (.tuple ds):=by rw[RD];exact⟨p,xs,Z,h,r⟩
theorem sE{K:aa}{H:Hp}{p:Addr}{xs:List V}{ds:List ah}(h:aK K H p xs)(r:aI K H xs ds):RD K H (.ref p) (.list ds):=by rw[RD];exact⟨p,xs,Z,h,r⟩
theorem bW{K:aa}{H:Hp}:aI K H [] []:=by simp[aI]
theorem bJ{K:aa}{H:Hp}{x:V}{xs:List V}{d:ah}{ds:List ah}(h:RD K H x d)(r:aI K H xs ds):aI K H (x::xs) (d::ds):=by rw[aI];exact⟨x,xs,Z,h,r⟩
inductive a5D(t:TS)(D:Ends)(O:St)(H:Hp):Prop |mk (Gu:St->Hp->Prop)(h0:t {D with nx:=Gu} O H)(h1:∀σ' H',Gu σ' H'->D.nx σ' H')
def Rr(t:TS):TS:=λD O H=>a5D t D O H
theorem jn{st:Stmt}{t:TS}(h:PS X st t):PS X st (Rr t):=by intro ak s O H D I hq;obtain⟨Gu,q,m⟩:=hq;refine aR (h ak s O H _ I q) λf s1 q1=>?_;cases f with |next=>obtain⟨σ',H',I',q'⟩:=q1;exact⟨σ',H',I',m _ _ q'⟩ |brk=>exact q1 |cont=>exact q1 |ret u=>exact q1
end
def pL(K:aa)(xs:List Str):Prop:=∀x∈xs,PySem.W.nsIn K mainGlobals x=some none
theorem pL.nil{K:aa}:pL K []:=λ_ h=>nomatch h
theorem pL.cons{K:aa}{x:Str}{xs:List Str}(a:PySem.W.nsIn K mainGlobals x=some none)(r:pL K xs):pL K (x::xs):=λy hy=>by
 rcases bZ.mp hy with e|e
 ·rw[e];exact a
 ·exact r y e
theorem a4P{K:aa}{mg:bc}{h:Heap}(X:K.In h)(G:h.Ns mainGlobals mg)(a:pL K zT):bE mg:=λx hx=>PySem.W.mg_none_of X G (a x hx)
theorem FW{env:Env}:∀(ns:List (Str×NameKind))(cs:List (Str×Addr)),(∀x∈ns,x.2= .free->∃c,env.cells.lookup x.1=some c)->(∀x c,cs.lookup x=some c->env.cells.lookup x=some c)->∃cl,(forIn ns cs (λx r=>if(x.2==NameKind.free)=true then do let a<-cellOf env x.1;pure (ForInStep.yield ((x.1,a)::r))else pure (ForInStep.yield r)):Sem (List (Str×Addr)))=pure cl/\(∀x c,cl.lookup x=some c->env.cells.lookup x=some c)/\(∀x c,cs.lookup x=some c->∃c',cl.lookup x=some c')/\∀x∈ns,x.2= .free->∃c,cl.lookup x.1=some c
 |[],cs,_,h2=>⟨cs,Z,h2,λx c e=>⟨c,e⟩,λ_ h=>nomatch h⟩ |(n,k)::r,cs,h1,h2=>by
  by_cases hk:k= .free
  ·subst hk
   obtain⟨c,hc⟩:=h1 (n,.free) (.head _) rfl;have e1:cellOf env n=pure c:=by unfold cellOf;rw[show env.cells.lookup n=some c from hc]
   obtain⟨cl,a1,a2,a3,a4⟩:=FW r ((n,c)::cs) (λx hx=>h1 x (.tail _ hx)) (λx d e=>by rw[iW]at e;cases z:x==n with |true=>rw[z]at e;cases e;rw[cP.mp z];exact hc |false=>rw[z]at e;exact h2 x d e);refine⟨cl,?_,a2,λx d e=>?_,λx hx hf=>?_⟩
   ·rw[Hb]
    show(do let r'<-(if(NameKind.free==NameKind.free)=true then do let a<-cellOf env n;pure (ForInStep.yield ((n,a)::cs))else pure (ForInStep.yield cs));_)=_;rw[bo (by rfl),e1];exact a1
   ·by_cases z:x==n
    ·exact a3 x c (by rw[iW,z])
    ·exact a3 x d (by rw[iW,Au.mpr z];exact e)
   ·rcases bZ.mp hx with rfl|hx
    ·exact a3 n c (by rw[iW,wZ])
    ·exact a4 x hx hf
  ·obtain⟨cl,a1,a2,a3,a4⟩:=FW r cs (λx hx=>h1 x (.tail _ hx)) h2
   refine⟨cl,?_,a2,a3,λx hx hf=>?_⟩
   ·rw[Hb]
    show(do let r'<-(if(k==NameKind.free)=true then do let a<-cellOf env n;pure (ForInStep.yield ((n,a)::cs))else pure (ForInStep.yield cs));_)=_;rw[bf (by simpa using hk)];exact a1
   ·rcases bZ.mp hx with rfl|hx
    ·exact absurd hf hk
    ·exact a4 x hx hf
theorem FX{env:Env}{scope:Scope}(h1:∀x∈scope.names,x.2= .free->∃c,env.cells.lookup x.1=some c): ∃cl,closureFor scope env=pure cl/\(∀x c,cl.lookup x=some c->env.cells.lookup x=some c)/\∀x∈scope.names,x.2= .free->∃c,cl.lookup x.1=some c:=by
 obtain⟨cl,a1,a2,_,a4⟩:=FW (env:=env) scope.names [] h1 (λx c e=>nomatch e);refine⟨cl,?_,a2,a4⟩;unfold closureFor;show(forIn scope.names ([]:List (Str×Addr)) (λ(x:Str×NameKind) r=>match x with|(name,kind)=>if(kind==NameKind.free)=true then do let a<-cellOf env name;pure (ForInStep.yield ((name,a)::r))else pure (ForInStep.yield r))>>=λr=>(pure r:Sem (List (Str×Addr))))=pure cl;have ef:(λ(x:Str×NameKind)(r:List (Str×Addr))=>match x with|(name,kind)=>(if(kind==NameKind.free)=true then do let a<-cellOf env name;pure (ForInStep.yield ((name,a)::r))else pure (ForInStep.yield r):Sem (ForInStep (List (Str×Addr))))) =λx r=>if(x.2==NameKind.free)=true then do let a<-cellOf env x.1;pure (ForInStep.yield ((x.1,a)::r))else pure (ForInStep.yield r):=by funext x r;obtain⟨n,k⟩:=x;rfl
 rw[ef,a1];rfl
theorem LZ{env:Env}(hk:env.scope.kind= .function){x:Str}(hx:env.kindOf x=some .cell):∀{names:List (Str×NameKind)},names.lookup x=some .free->(names.map λ(n,k)=>if(k==NameKind.free&&env.scope.kind== .function&&env.kindOf n==some .cell)then(n,NameKind.cell)else(n,k)).lookup x=some .cell |[],h=>nomatch h |(n,k)::r,h=>by have ih:=@LZ env hk x hx r;show List.lookup x ((if(k==NameKind.free&&env.scope.kind== .function&&env.kindOf n==some .cell)=true then(n,NameKind.cell)else(n,k))::_)=_;cases z:x==n with |true=>simp only[iW,z]at h;cases h;have e:=cP.mp z;subst e;rw[bo (by rw[hk,hx];rfl),iW,z] |false=>simp only[iW,z]at h;split<;>(simp only[iW,z];exact ih h)
def cU(X:Cx)(N:List Str)(scope:Scope)(cl:List (Str×Addr))(s:ae)(H:Hp)(fp:List Addr)(ak:List (Addr×Obj)):Cx:={prog:=X.prog,w:=X.w,K:=X.K,mg:=X.mg,au:=X.au,A:=X.A,N:=N,s₀:=s,H₀:=H,env:=compEnvC scope cl s.heap.objs.size X.env,outer:=X.stack,stack:=X.stack,ex:=fp,fn:=λ_=>false,calm:=X.calm,pn:=X.pn++ak,xe:=λ_ _=>False}
def stC(js:List (Option Nat))(O:St):St:=js.map λ|none=>none|some j=>(O[j]?).join
def wA(X:Cx)(N:List Str)(js:List (Option Nat))(scope:Scope):Bool:=N.length==js.length&&(N.zip js).all λp=>match p.2 with|none=>true|some j=>X.N[j]? ==some p.1&&scope.names.lookup p.1==some NameKind.free&&X.env.kindOf p.1==some NameKind.cell
def pE(X:Cx)(scope:Scope):Bool:=scope.kind== .function&&X.env.scope.kind== .function&&scope.names.all λx=>match x.2 with | .free=>X.env.kindOf x.1==some NameKind.cell | .cell=>false | .local=>scope.names.lookup x.1==some NameKind.local |_=>true
section
variable {X:Cx}{ak:List (Addr×Obj)}{O:St}{H:Hp}{s:ae}
theorem lookup_mem{α β:Type}[BEq α][LawfulBEq α]:∀{l:List (α×β)}{x:α}{b:β},l.lookup x=some b->(x,b)∈l |[],_,_,h=>nomatch h |(n,k)::r,x,b,h=>by rw[iW]at h;cases z:x==n with |true=>rw[z]at h;cases h;rw[cP.mp z];exact .head _ |false=>rw[z]at h;exact .tail _ (lookup_mem h)
theorem Ku{env:Env}{x:Str}{k:NameKind}:∀{names:List (Str×NameKind)},(names.map λ(n,k)=>if(k==NameKind.free&&env.scope.kind== .function&&env.kindOf n==some .cell)then(n,NameKind.cell)else(n,k)).lookup x=some k->names.lookup x=some k\/(k= .cell/\names.lookup x=some .free) |[],h=>nomatch h |(n,k')::r,h=>by have ih:=@Ku env x k r;have h':List.lookup x ((if(k'==NameKind.free&&env.scope.kind== .function&&env.kindOf n==some .cell)=true then(n,NameKind.cell)else(n,k'))::(r.map λ(n,k)=>if(k==NameKind.free&&env.scope.kind== .function&&env.kindOf n==some .cell)then(n,NameKind.cell)else(n,k)))=some k:=h;cases z:x==n with
 |true=>
  split at h'
  ·rename_i hc
   simp only[iW,z]at h';cases h';rw[d6,d6]at hc;have e:k'= .free:=cP.mp hc.1.1;subst e;exact .inr ⟨Z,by rw[iW,z]⟩
  ·simp only[iW,z]at h'
   cases h';exact .inl (by rw[iW,z]) |false=>
  rw[iW,z];refine ih ?_;split at h'
  ·simpa only[iW,z]using h'
  ·simpa only[iW,z]using h'
theorem Inv.comp{N:List Str}{js:List (Option Nat)}{scope:Scope}{cl:List (Str×Addr)}{fp:List Addr}{h':Heap}{tk:Nat}(I:Inv X ak O H s)(hN:wA X N js scope=true)(hS:pE X scope=true) (c1:∀x c,cl.lookup x=some c->X.env.cells.lookup x=some c)(c2:∀x∈scope.names,x.2= .free->∃c,cl.lookup x.1=some c)(hf:∀b∈fp,gH X ak H b)(hfl:∀b∈fp,b<s.heap.objs.size) (hn:h'.Ns s.heap.objs.size λ_=>none)(hk:∀b o,s.heap.get? b=some o->h'.get? b=some o):Inv (cU X N scope cl s H fp ak) [] (stC js O) H {s with heap:=h',toks:=tk}:=by
 unfold pE at hS;rw[d6,d6]at hS;obtain⟨⟨s1,s2⟩,s3⟩:=hS;have je:scope.kind= .function:=cP.mp s1;have a05:X.env.scope.kind= .function:=cP.mp s2;unfold wA at hN;rw[d6]at hN;obtain⟨n1,n2⟩:=hN;have hlen:N.length=js.length:=cP.mp n1;have Mp:∀x k,(relabel scope X.env).names.lookup x=some k->scope.names.lookup x=some k\/(k= .cell/\scope.names.lookup x=some .free):=λx k e=>Ku e;have Xd:∀x,scope.names.lookup x≠some .cell:=λx e=>by have:=fG.mp s3 _ (lookup_mem e);exact cI this
 have Nh:∀b∈(cU X N scope cl s H fp ak).fs,b∈X.env.locals::X.fs:=I.AJ;have ok:(cU X N scope cl s H fp ak).Ok:={
  mod:=I.ok.mod
  kind:=je
  glob:=I.ok.glob
  blt:=I.ok.blt
  above:=bA _
  inj:=λx y c e1 e2=>I.ok.inj x y c (c1 x c e1) (c1 y c e2)
  has:=λx hx=>by
   have fr:scope.names.lookup x=some .free->∃c,cl.lookup x=some c:=λe=>c2 (x,.free) (lookup_mem e) rfl;rcases hx with e|e
   ·rcases Mp x _ e with e|⟨_,e⟩
    ·exact absurd e (Xd x)
    ·exact fr e
   ·rcases Mp x _ e with e|⟨z,_⟩
    ·exact fr e
    ·cases z
  pG:=λx c e=>nomatch e
  hd:=I.ok.hd
  frames:=I.ok.frames
  pX:=.inl rfl
  wc:=λb hb=>⟨dh (hfl b hb),λx c e=>(hf b hb).2.2.2.2.1 x c (c1 x c e)⟩
  bs:=I.bs
  jw:=fA I.ok.jw I.sz
  oJ:=λb o e hb=>by
   rcases(hf b hb).2.2.2.1 with z|z
   ·exact I.ok.oJ b o e z
   ·exact absurd (fF (bP e) (fA I.ok.jw z)) (pP _)
  mx:=λb hb z=>by
   obtain⟨_,q1,q2,_⟩:=hf b hb;rcases bZ.mp (Nh b z)with e|e
   ·exact q1 e
   ·exact q2 e
  iu:=I.stack
  kZ:=I.rY};refine⟨ok,Z,I.bare,Un.kept hk,⟨_,hn,λi x v e1 e2 e3=>?_⟩,λx c e=>?_,I.aV.fresh (bA _),λx c e=>I.iQ x c (c1 x c e),λp hp=>?_,I.aV.kept hk,?_⟩
 ·have tS:(js.map λ|none=>none|some j=>(O[j]?).join)[i]? =some (some v):=e2
  rw[cZ]at tS;cases hj:js[i]? with |none=>rw[hj]at tS;cases tS |some o=>rw[hj]at tS;cases o with |none=>cases tS |some j=>
   have hz:(N.zip js)[i]? =some (x,some j):=by rw[xq];exact⟨e1,hj⟩
   have Oi:=fG.mp n2 _ (hJ hz);simp only[d6,cP]at Oi;obtain⟨⟨h1,h2⟩,h3⟩:=Oi;have zI:(O[j]?).join=some v:=by simpa using tS
   have hσ:O[j]? =some (some v):=by cases q:O[j]? with |none=>rw[q]at zI;cases zI |some o=>
    rw[q]at zI;have:o=some v:=by simpa using zI
    rw[this]
   obtain⟨m,hm,hl⟩:=I.loc;obtain⟨u,r,l⟩:=hl j x v h1 hσ (.inr (.inl h3));refine⟨u,r,?_⟩;rcases l with⟨k,_⟩|⟨_,c,hc,ml⟩
   ·rw[h3]at k;cases k
   ·obtain⟨c',nO⟩:=c2 (x,.free) (lookup_mem h2) rfl
    have:=c1 x c' nO;rw[hc]at this;cases this;refine .inr ⟨.inl (LZ a05 h3 h2),c,nO,?_⟩;obtain⟨ob,ho,hd⟩:=ml;exact⟨ob,hk _ _ ho,hd⟩
 ·obtain⟨v,ob,ho,hd⟩:=I.cell x c (c1 x c e)
  exact⟨v,ob,hk _ _ ho,hd⟩
 ·have zf:p∈X.pn++ak:=by simpa[cU]using hp
  obtain⟨a1,a2,a3,a4,a5⟩:=I.pin p zf;refine⟨hk _ _ a1,a2,dh (bP a1),λz=>?_,a5⟩;rcases bZ.mp (Nh p.1 z)with e|e
  ·exact a3 e
  ·exact a4 e
 ·show(js.map _).length=N.length
  rw[bR,hlen]
end
theorem FT{prog:af}{w:World}{A:ai}{R:Result->ae->Prop}{s:ae}{elt target iter:Expr}{ifs:List Expr}{scope:Scope}{pos:Pos}{it acc:Value}{env:Env}(I:Nat->ae->Prop) (turn:∀n s,I n s->wpAny (model prog w) A (pyNext it) (λr s₁=>match r with |none=>R (.ok .next) s₁ |some v=>wpAny (model prog w) A (letOwnedTupleGo target it v) (λ_ s₁=>wpAny (model prog w) A (assign target env v) (λ_ s₂=>wpAny (model prog w) A (forIn ifs true λc r=>if r=true then do let ok<-isTrue c env (eval c env);pure (ForInStep.yield ok)else pure (ForInStep.yield r)) (λok s₃=>if ok=true then wpAny (model prog w) A (eval elt env) (λx s₄=>wpAny (model prog w) A (call (.builtin "list.append") [acc,x]) (λ_ s₅=>∃m,m<n/\I m s₅) (λ_ _=>False) s₄) (λ_ _=>False) s₃ else∃m,m<n/\I m s₃) (λ_ _=>False) s₂) (λ_ _=>False) s₁) (λ_ _=>False) s₁) (λ_ _=>False) s) (n:Nat)(h:I n s):codeAny (model prog w) A (.compLoop (.ListComp elt [⟨target,iter,ifs,0⟩] scope pos) 0 it acc env) R s:=by refine codeAny_loop Z I (λn s hI=>?_) n h;show wpAny _ A ((compTurn (.ListComp elt [⟨target,iter,ifs,0⟩] scope pos) 0 it acc env).onRaise (λx=>do noteFrame x env;theTreesLotGoes x)) _ _ s;refine wpAny_noted ?_;rw[compTurn_list];refine aB (mJ (aB (gr (turn n s hI) (λr s₁ h₁=>?_) λ_ _ h'=>h'.elim)));cases r with |none=>exact bB h₁ |some v=>refine aB (gr h₁ (λ_ a7X h₁=>?_) λ_ _ h'=>h'.elim);refine aB (gr h₁ (λ_ s₂ h₂=>aB (gr h₂ (λok s₃ h₃=>?_) λ_ _ h'=>h'.elim)) λ_ _ h'=>h'.elim);cases ok with |false=>exact bB ⟨Z,h₃⟩ |true=>exact aB (aB (gr h₃ (λx s₄ h₄=>aB (gr h₄ (λ_ s₅ h₅=>bB (bB ⟨Z,h₅⟩)) λ_ _ h'=>h'.elim)) λ_ _ h'=>h'.elim))
def wI(X:Cx)(ifs:List Expr)(t:TT):Prop:=∀(ak:List (Addr×Obj))(s:ae)(O:St)(H:Hp)(Q:Bool->Hp->Prop),Inv X ak O H s->t O H Q->wpAny (model X.prog X.w) X.A (forIn ifs true λc r=>if r=true then do let ok<-isTrue c X.env (eval c X.env);pure (ForInStep.yield ok)else pure (ForInStep.yield r)) (TP X ak O Q) X.xe s
def jl:TT:=λ_ H Q=>Q true H
theorem gb{X:Cx}:wI X [] jl:=λ_ _ _ H _ I h=>wpAny_tests_nil ⟨H,I,h⟩
theorem Ub{X:Cx}{c:Expr}{t:TT}(h:PT X c t):wI X [c] t:=λak s O H Q I hq=>wpAny_tests_one (h ak s O H Q I hq)
def jz(J:It)(g:TG)(tt:TT)(te:TE)(Q:VK)(D:Addr)(O:St)(H:Hp):Prop:=∃W:Nat->Nat->St->Hp->Prop,(∃m,W 0 m O H)/\∀i m σ' H',W i m σ' H'->(J.stop i H'/\Q (.ref D) H')\/(J.go i H'/\∀x H2,J.gw i H' x H2->g x σ' H2 λσ3 H3=>tt σ3 H3 λok H4=>if ok=true then te σ3 H4 λy H5=>∃ys,H5 D=some (.lst ys)/\ys.length<sizeLine/\∃m',m'<m/\W (i+1) m' σ3 (upd H5 D (.lst (ys++[y]))) else∃m',m'<m/\W (i+1) m' σ3 H4)
def AH(js:List (Option Nat))(wi:TI)(g:TG)(tt:TT)(te:TE):TE:=λO H Q=>wi O H λJ H1=>∀D H2,Nw H1 H2 D (.lst [])->jz J g tt te Q D (stC js O) H2
theorem dv.but{P:af}{w:World}{H:Hp}{h h':Heap}{C:Addr}(ok:dv P w H h)(hn:H C=none)(hs:Heap.SameBut C h h'):dv P w H h':=λb ob e=>by
 refine(ok b ob e).jE (λc w' hc q=>(hs.2 c ?_).trans q) (λ_ q=>q) λ_ _ q=>q;rintro rfl;rcases hc with rfl|hc
 ·rw[hn]at e;cases e
 ·rw[hn]at hc;cases hc
set_option maxHeartbeats 1000000 in
theorem gQ{X:Cx}{N:List Str}{js:List (Option Nat)}{elt tg iter:Expr}{ifs:List Expr}{scope:Scope}{pos:Pos}{wi:TI}{g:TG}{tt:TT}{te:TE}(hc:X.calm=true)(hN:wA X N js scope=true)(hS:pE X scope=true) (hi:PI X tg iter wi)(hg:∀cl s H fp ak,PG (cU X N scope cl s H fp ak) tg g)(ht:∀cl s H fp ak,wI (cU X N scope cl s H fp ak) ifs tt)(he:∀cl s H fp ak,PE (cU X N scope cl s H fp ak) elt te) (hs:autoParam (∀x,foldedSetIterable iter X.env x=pure x) f8_._auto_1):PE X (.ListComp elt [⟨tg,iter,ifs,0⟩] scope pos) (AH js wi g tt te):=by
 intro ak s O H Q I h;have kT:=hS;unfold pE at kT;rw[d6,d6]at kT;obtain⟨⟨k1,k2⟩,k3⟩:=kT;have je:scope.kind= .function:=cP.mp k1;have oZ:∀x∈scope.names,x.2= .free->∃c,X.env.cells.lookup x.1=some c:=λx hx e=>by have:=fG.mp k3 x hx;rw[e]at this;exact I.ok.has x.1 (.inl (cP.mp this))
 have ml:∀x∈scope.names,x.2≠ .cell:=λx hx e=>by have:=fG.mp k3 x hx;rw[e]at this;exact cI this
 have vG:∀x∈scope.names,x.2= .local->scope.names.lookup x.1=some .local:=λx hx e=>by have:=fG.mp k3 x hx;rw[e]at this;exact cP.mp this
 obtain⟨cl,vQ,c1,c2⟩:=FX oZ;rw[eval_ListComp];refine Pc (use:=none) Z hs vQ je vG (aR (hi ak s O H _ I h) λv s1 h1=>aR h1 λqH s2 h2=>?_);obtain⟨it,fp,tn,J,H2,e,I2,T,lO,f2,h2⟩:=h2;subst e;have hD:H2 s2.heap.objs.size=none:=I2.aV.fresh (bA _);obtain⟨W,⟨m0,w0⟩,turn⟩:=h2 _ _ (Nw.of hD);refine jX (Pb ml (by intro y hy;simp at hy) (λh₁ oW oS=>?_) je);have la:∀b∈fp,b<s2.heap.objs.size:=λb hb=>by obtain⟨o,e,_⟩:=T.obj _ _ lO b hb;exact bP e
 have I3:Inv X ak O (upd H2 s2.heap.objs.size (.lst [])) {s2 with heap:=s2.heap.push {cls:=.type "list",dict:=none,data:=.seq ([]:List Value).toArray}}:=I2.yX (its:=[]) (t':=s2.toks) .nil (fh _);generalize p5:s2.heap.push {cls:=.type "list",dict:=none,data:=.seq ([]:List Value).toArray}=h3 at I3 oW oS;have om:h3.objs.size=s2.heap.objs.size+1:=by rw[<-p5,mR]
 have vA:∀b o,s2.heap.get? b=some o->h3.get? b=some o:=λb o e=>by rw[<-p5];exact bL _ e
 have f3:∀b∈fp,gH X ak (upd H2 s2.heap.objs.size (.lst [])) b:=λb hb=>⟨by rw[aL (dh (la b hb))];exact(f2 b hb).1,(f2 b hb).2⟩;have oO:∀b o,h3.get? b=some o->h₁.get? b=some o:=λb o e=>(oS.2 b (dh (bP e))).trans (bL _ e);have I4:Inv (cU X N scope cl {s2 with heap:=h3} (upd H2 s2.heap.objs.size (.lst [])) fp ak) [] (stC js O) (upd H2 s2.heap.objs.size (.lst [])) {s2 with heap:=h₁,toks:=s2.toks+([]:List (Str×Value)).length}:=I3.comp (s:={s2 with heap:=h3}) hN hS c1 c2 f3 (λb hb=>by show b<h3.objs.size;rw[om];exact xh (la b hb)) (by simpa using oW) oO;have oo:tn 0 h₁:=T.keep _ _ _ lO λb _ o e=>oO b o (vA b o e);have loop:codeAny (model X.prog X.w) X.A (.compLoop (.ListComp elt [⟨tg,iter,ifs,0⟩] scope pos) 0 (.ref it) (.ref s2.heap.objs.size) (compEnvC scope cl h3.objs.size X.env)) (compPost (model X.prog X.w) X.A X.xe none (EP X ak O Q) (.ref s2.heap.objs.size) h3.objs.size) {s2 with heap:=h₁,toks:=s2.toks+([]:List (Str×Value)).length}:=by
  refine FT (λn s'=>∃i σ' H',Inv (cU X N scope cl {s2 with heap:=h3} (upd H2 s2.heap.objs.size (.lst [])) fp ak) [] σ' H' s'/\tn i s'.heap/\(∀b∈fp,H' b=none)/\W i n σ' H') ?_ m0 ⟨0,_,_,I4,oo,λb hb=>(f3 b hb).1,w0⟩;rintro n s5 ⟨i,σ5,H5,I5,jF,mr,w5⟩;have iI:∀{H':Hp},(∀b∈fp,H' b=none)->∀b∈fp,gH (cU X N scope cl {s2 with heap:=h3} (upd H2 s2.heap.objs.size (.lst [])) fp ak) [] H' b:=λ{H'} hn b hb=>by
   obtain⟨_,q1,q2,q3,q4,q5⟩:=f3 b hb;refine⟨hn b hb,λz=>?_,I4.ok.mx b hb,.inl hb,λx c e=>q4 x c (c1 x c e),λp hp=>q5 p (by simpa[cU]using hp)⟩;have cm:b<h3.objs.size:=by rw[om];exact xh (la b hb)
   exact dh cm z
  rcases turn i n σ5 H5 w5 with⟨stop,qn⟩|⟨go,step⟩
  ·refine aR (T.done (cU X N scope cl {s2 with heap:=h3} (upd H2 s2.heap.objs.size (.lst [])) fp ak) rfl rfl rfl hc i [] s5 σ5 H5 _ I5 (iI mr) jF stop) λr s6 ⟨hr,I6⟩=>?_
   subst hr;obtain⟨m,hm,_⟩:=I6.loc;refine⟨m,hm,λh7 nJ=>?_⟩;have u0:Un (cS X.stack) fp (upd H2 s2.heap.objs.size (.lst [])) H5 h3 s6.heap:=I6.au;have ne:∀b o,h3.get? b=some o->b≠h3.objs.size:=λb o e=>dh (bP e);have u:Un (cS X.stack) fp (upd H2 s2.heap.objs.size (.lst [])) H5 h3 h7:=⟨λb o e n hb hx=>(nJ.2 b (ne b o e)).trans (u0.keep b o e n hb hx),λb o e n hb hx=>let⟨sl,q⟩:=u0.slot b o e n hb hx;⟨sl,(nJ.2 b (ne b o e)).trans q⟩,u0.free,λb o e hx=>let⟨o',q⟩:=u0.there b o e hx;⟨o',(nJ.2 b (ne b o e)).trans q⟩,u0.hU,u0.gY,u0.hW⟩;have I7:Inv X ak O H5 {s6 with heap:=h7}:=I3.wB (s':={s6 with heap:=h7}) (ch:=fp) I6.os u (I6.aV.but I6.free nJ) I6.bare λb hb=>⟨(f3 b hb).2.2.2.1,(f3 b hb).2.1,(f3 b hb).2.2.2.2.1,(f3 b hb).2.2.2.2.2⟩;exact⟨.ref s2.heap.objs.size,H5,I7,Z,qn⟩
  ·refine aR (T.item (cU X N scope cl {s2 with heap:=h3} (upd H2 s2.heap.objs.size (.lst [])) fp ak) rfl rfl rfl hc i [] s5 σ5 H5 _ I5 (iI mr) jF go) λr s6 ⟨u,hr,h6⟩=>?_
   subst hr;refine aR h6 λ_ s7 ⟨x,H7,I7,r7,y7,jm,vY⟩=>?_;have wN:=I7.pinned (iI vY) (T.obj _ _ jm);refine aR (hg _ _ _ _ _ _ s7 σ5 H7 x u _ wN r7 (step x H7 y7)) λ_ s8 ⟨σ8,H8,I8,q8⟩=>?_;refine aR (ht _ _ _ _ _ _ s8 σ8 H8 _ I8 q8) λok s9 ⟨H9,I9,q9⟩=>?_;have again:∀{s':ae}{σ7:St}{H7:Hp},Inv (cU X N scope cl {s2 with heap:=h3} (upd H2 s2.heap.objs.size (.lst [])) fp ak) ([]++qm fp s7.heap) σ7 H7 s'->(∃m',m'<n/\W (i+1) m' σ7 H7)->∃m,m<n/\∃i σ' H',Inv (cU X N scope cl {s2 with heap:=h3} (upd H2 s2.heap.objs.size (.lst [])) fp ak) [] σ' H' s'/\tn i s'.heap/\(∀b∈fp,H' b=none)/\W i m σ' H':=λ{s' σ7 H7} J7 n7=>by obtain⟨m',hm,w7⟩:=n7;refine⟨m',hm,i+1,σ7,H7,J7.rQ,T.keep _ _ _ jm λb hb o e=>(J7.pin (b,o) (gL _ (gL _ (oN hb e)))).1,λb hb=>?_,w7⟩;obtain⟨o,e,d⟩:=T.obj _ _ jm b hb;exact(J7.pin (b,o) (gL _ (gL _ (oN hb e)))).2.1
   cases ok with |false=>rw[bf cI]at q9⊢;exact again I9 q9 |true=>rw[bo rfl]at q9⊢;refine aR (he _ _ _ _ _ _ s9 σ8 H9 _ I9 q9) λyv iJ ⟨y,ji,pN,uX,ys,vB,hz,lJ⟩=>?_;refine aR (yQ _ iJ σ8 ji (.ref s2.heap.objs.size) [y] (.ref s2.heap.objs.size) [yv] (λ_ iE=>∃m',m'<n/\W (i+1) m' σ8 iE) pN Z (.cons uX .nil) ⟨_,ys,y,Z,Z,vB,hz,lJ⟩) λ_ yl ⟨v11,iE,wO,KN,uY⟩=>?_;exact again wO uY
 exact Ph loop (T.self _ 0 _ _ _ oo loop)
theorem G0:∀{bs:List Bool}{us:List Value},Vals (bs.map V.bl) us->us=bs.map Value.bool |[],_,.nil=>rfl |b::r,_,.cons q t=>by cases(show _=Value.bool b from q);rw[G0 t];rfl
section
variable {X:Cx}
theorem a4K(hc:X.calm=true):eT X (.builtin "all") (λxs H Q=>∃(l:Addr)(bs:List Bool),xs=[.ref l]/\aK X.K H l (bs.map V.bl)/\Q (.bl (bs.all id)) H):=by
 intro ak s O H xs us Q I r h;obtain⟨l,bs,rfl,hl,q⟩:=h;obtain⟨u,rfl,ru⟩:=vals1 r;cases(show u=Value.ref l from ru);obtain⟨its,rv,pl,hz⟩:=I.list hl;have e:=G0 rv;subst e;have jd:=pl.isList;have cm:l<s.heap.objs.size:=by obtain⟨_,e,_⟩:=jd;exact bP e
 have hh:=I.ok.hd hc;refine call_all_walk (Aa jd ?_);refine⟨s.heap.objs.size,[s.heap.objs.size,l],[s.heap.objs.size],(bs.map Value.bool).toArray.size,_,_,λi=>(bs[i]?).getD true,Z,Walks.list (A:=X.A.in1) hh _ l (dh cm) (bs.map Value.bool).toArray,⟨⟨_,dw _ Z,Z,Z⟩,jd.push _⟩,λi v s' Q' E' hP hQ=>?_,λh' tk hk=>?_⟩
 ·have kU:(bs.map Value.bool)[i]? =some v:=by simpa using hP
  rw[cZ]at kU;cases e:bs[i]? with |none=>rw[e]at kU;cases kU |some b=>rw[e]at kU;cases kU;simp only[e,Option.getD_some]at hQ;exact mI hQ
 ·have e:((List.range (bs.map Value.bool).toArray.size).all λi=>(bs[i]?).getD true)=bs.all id:=by rw[cY,bR];exact LSm.range_all bs
  rw[e];exact⟨.bl _,H,I.kept (LSm.kept_iter hk),Z,q⟩
theorem a4J(hc:X.calm=true):eT X (.builtin "any") (λxs H Q=>∃(l:Addr)(bs:List Bool),xs=[.ref l]/\aK X.K H l (bs.map V.bl)/\Q (.bl (bs.any id)) H):=by
 intro ak s O H xs us Q I r h;obtain⟨l,bs,rfl,hl,q⟩:=h;obtain⟨u,rfl,ru⟩:=vals1 r;cases(show u=Value.ref l from ru);obtain⟨its,rv,pl,hz⟩:=I.list hl;have e:=G0 rv;subst e;have jd:=pl.isList;have cm:l<s.heap.objs.size:=by obtain⟨_,e,_⟩:=jd;exact bP e
 have hh:=I.ok.hd hc;refine call_any_walk (Aa jd ?_);refine⟨s.heap.objs.size,[s.heap.objs.size,l],[s.heap.objs.size],(bs.map Value.bool).toArray.size,_,_,λi=>(bs[i]?).getD false,Z,Walks.list (A:=X.A.in1) hh _ l (dh cm) (bs.map Value.bool).toArray,⟨⟨_,dw _ Z,Z,Z⟩,jd.push _⟩,λi v s' Q' E' hP hQ=>?_,λh' tk hk=>?_⟩
 ·have kU:(bs.map Value.bool)[i]? =some v:=by simpa using hP
  rw[cZ]at kU;cases e:bs[i]? with |none=>rw[e]at kU;cases kU |some b=>rw[e]at kU;cases kU;simp only[e,Option.getD_some]at hQ;exact mI hQ
 ·have e:((List.range (bs.map Value.bool).toArray.size).any λi=>(bs[i]?).getD false)=bs.any id:=by rw[cY,bR];exact LSm.range_any bs
  rw[e];exact⟨.bl _,H,I.kept (LSm.kept_iter hk),Z,q⟩
end
theorem qS{J:It}{g:TG}{tt:TT}{te:TE}{Q:VK}{D:Addr}{O:St}{H:Hp}(n:Nat)(Pv:Nat->St->Hp->Prop)(h0:Pv 0 O H) (hs:∀i O H,i<n->Pv i O H->J.go i H/\∀x H2,J.gw i H x H2->g x O H2 λσ3 H3=>tt σ3 H3 λok H4=>if ok=true then te σ3 H4 λy H5=>∃ys,H5 D=some (.lst ys)/\ys.length<sizeLine/\∃m',m'<n-i/\m'=n-(i+1)/\i+1<=n/\Pv (i+1) σ3 (upd H5 D (.lst (ys++[y]))) else∃m',m'<n-i/\m'=n-(i+1)/\i+1<=n/\Pv (i+1) σ3 H4) (hd:∀O H,Pv n O H->J.stop n H/\Q (.ref D) H): jz J g tt te Q D O H:=by
 refine⟨λi m O H=>m=n-i/\i<=n/\Pv i O H,⟨n,by simp,fh _,h0⟩,?_⟩;rintro i m O H ⟨rfl,hi,p⟩;by_cases cm:i<n
 ·exact .inr (hs i O H cm p)
 ·have e:i=n:=by lia
  subst e;exact .inl (hd O H p)
section
variable {X:Cx} {tg:Expr}
theorem YW(K:aa)(h:X.K=K):nY X (λx y H Q=>CZ K x y H Q\/CY K x y H Q):=by subst h;exact YV.or YT
inductive a71(K:aa)(x:V)(lo:Option Int)(hi:Option Int)(H:Hp)(Q:VK):Prop |mk (a:_)(xs:_)(h0:x= .ref a)(h1:((aK K H a xs/\∀p H',Nw H H' p (.lst (gG xs lo hi))->Q (.ref p) H')\/ (aQ K H a xs/\¬(_H.bI xs.length 0 lo=0/\_H.bI xs.length xs.length hi=xs.length)/\∀p H',Nw H H' p (.tup (gG xs lo hi))->Q (.ref p) H')))
def TN(K:aa):V->Option Int->Option Int->Hp->VK->Prop:=λx lo hi H Q=>a71 K x lo hi H Q
theorem yc(K:aa)(h:X.K=K):wH X (TN K):=by
 subst h;intro ak s O H x v vl vu lo hi sl Q I rx hs pl pu hq;obtain⟨a,xs,e,hq⟩:=hq;rcases hq with⟨h1,k⟩|⟨h1,h2,k⟩
 ·exact Sg ak s O H x v vl vu lo hi sl Q I rx hs pl pu ⟨a,xs,e,h1,λp hp=>k p _ (.of hp)⟩
 ·exact IY ak s O H x v vl vu lo hi sl Q I rx hs pl pu ⟨a,xs,e,h1,h2,λp hp=>k p _ (.of hp)⟩
theorem YC(K:aa)(h:X.K=K):eT X (.builtin "len") (λxs H Q=>∃p ys,xs=[.ref p]/\(aK K H p ys\/aQ K H p ys)/\Q (.int ys.length) H):=by subst h;exact a4F
theorem Z0(K:aa)(h:X.K=K):eT X (.builtin "isinstance") (λxs H Q=>D5 K xs H Q\/D4 K xs H Q):=by subst h;exact a4H.or a4G
theorem dR(K:aa)(h:X.K=K)(hu:X.A.units+64<cLine):cn X (compareOp .Eq) (λx y H Q=>j7 (λi j=>.bl (decide (i=j))) x y H Q\/D6 K x y H Q):=by subst h;exact V6 hu
theorem sX(K:aa)(h:X.K=K)(hu:X.A.units+64<cLine):cn X (compareOp .NotEq) (λx y H Q=>j7 (λi j=>.bl (!decide (i=j))) x y H Q\/CW K x y H Q):=by subst h;exact V0 hu
theorem tY(K:aa)(h:X.K=K)(hc:X.calm=true):eT X (.builtin "all") (λxs H Q=>∃(l:Addr)(bs:List Bool),xs=[.ref l]/\aK K H l (bs.map V.bl)/\Q (.bl (bs.all id)) H):=by subst h;exact a4K hc
theorem a56(K:aa)(h:X.K=K)(hc:X.calm=true):eT X (.builtin "any") (λxs H Q=>∃(l:Addr)(bs:List Bool),xs=[.ref l]/\aK K H l (bs.map V.bl)/\Q (.bl (bs.any id)) H):=by subst h;exact a4J hc
theorem Yy(K:aa)(h:X.K=K):eT X (.type "list") (λxs H Q=>∃p ys,xs=[.ref p]/\(aK K H p ys\/aQ K H p ys)/\∀l H',Nw H H' l (.lst ys)->Q (.ref l) H'):=by subst h;intro ak s O H xs us Q I r hq;obtain⟨p,ys,e,h1,k⟩:=hq;exact a4D ak s O H xs us Q I r ⟨p,ys,e,h1,λl hl=>k l _ (.of hl)⟩
theorem mS(K:aa)(h:X.K=K):eT X (.type "tuple") (λxs H Q=>∃p ys,xs=[.ref p]/\((aK K H p ys/\∀l H',Nw H H' l (.tup ys)->Q (.ref l) H')\/(aQ K H p ys/\Q (.ref p) H))):=by subst h;intro ak s O H xs us Q I r hq;obtain⟨p,ys,e,h1⟩:=hq;exact a4y ak s O H xs us Q I r ⟨p,ys,e,h1.imp (λ⟨a,k⟩=>⟨a,λl hl=>k l _ (.of hl)⟩) id⟩
def QZ(t:TA):TE:=λO H Q=>t O H λxs H1=>xs.length<=sizeLine/\∀p H',Nw H1 H' p (.tup xs)->Q (.ref p) H'
def Rx(t:TA):TE:=λO H Q=>t O H λxs H1=>xs.length<=sizeLine/\∀p H',Nw H1 H' p (.lst xs)->Q (.ref p) H'
theorem dc{es:List Expr}{t:TA}{pos:Pos} {x1}(h:PA X es t):PE X (.Tuple es x1 pos) (QZ t):=by intro ak s O H Q I hq;refine wpAny_Tuple_spliced (aR (h pos ak s O H _ I hq) λus s1 ⟨xs,H1,I1,r,z,q⟩=>⟨by rw[<-r.length];exact z,?_⟩);have hf:H1 s1.heap.objs.size=none:=I1.aV.fresh (bA _);refine⟨.ref s1.heap.objs.size,upd H1 s1.heap.objs.size (.tup xs),I1.laid (t':=s1.toks) (λb u e=>bL _ e) (bA _) ?_,Z,q _ _ (.of hf)⟩;exact⟨z,us,r,⟨_,dw _ Z,Z,_,Z⟩⟩
theorem dF{es:List Expr}{t:TA}{pos:Pos}(h:PA X es t):PE X (.List es pos) (Rx t):=by intro ak s O H Q I hq;refine wpAny_List_spliced (aR (h pos ak s O H _ I hq) λus s1 ⟨xs,H1,I1,r,z,q⟩=>⟨by rw[<-r.length];exact z,?_⟩);have hf:H1 s1.heap.objs.size=none:=I1.aV.fresh (bA _);refine⟨.ref s1.heap.objs.size,upd H1 s1.heap.objs.size (.lst xs),I1.laid (t':=s1.toks) (λb u e=>bL _ e) (bA _) ?_,Z,q _ _ (.of hf)⟩;exact⟨z,us,0,r,dw _ Z⟩
theorem yx(K:aa)(h:X.K=K){l:Expr}{tl:TE}(hl:PE X l tl):PI X tg l (Mr K tl):=by subst h;exact Uu hl
theorem nc(K:aa)(h:X.K=K){l:Expr}{tl:TE}(hl:PE X l tl):PI X tg l (Mq K tl):=by subst h;exact Uq hl
theorem fm(K:aa)(h:X.K=K){es:List Expr}{k:Nat}{t:mD}{n:Nat}{pos:Pos}(hc:X.calm=true)(hg:wK X es t)(hn:autoParam ((assignEach es X.env).length=n) r8_._auto_1)(fq:autoParam ((assignEach es X.env).findIdx? (·.1)=none) r8_._auto_1): PG X (.Tuple es k pos) (zw K n t):=by subst h;exact Uv hc hg hn fq
theorem oE(K:aa)(h:X.K=K){o e:Expr}{to:TE}{t:TA}{apos cg:Pos}(ho:PE X o to)(ha:PA X [e] t) (kR:autoParam (attributeBase o "append" X.env (eval o X.env)=eval o X.env) r8_._auto_1) (kP:autoParam (((backTo cg (starEach [e] X.env)).all (λx=>!x.1)&&(backToKw cg (keywordEach [] X.env)).all (λx=>x.1.isSome) &&decide ([e].length+([]:List Keyword).length+(if([]:List Keyword).isEmpty then 0 else 1)<30))=true) r8_._auto_1) (kM:autoParam ((apos.endLine==cg.line)=true) r8_._auto_1)(hs:autoParam (starEach [e] X.env=(false,eval e X.env)::starEach [] X.env) r8_._auto_1)(kK:autoParam ((backTo cg (starEach [] X.env)).any (·.1)=false) r8_._auto_1): PE X (.Call (.Attribute o "append" apos) [e] [] cg) (rV K "list" KL to t):=by subst h;exact vb PySem.F.plainAttrs_list PySem.F.slot_list_append PySem.F.type_list_append yQ ho ha kR kP kM hs kK
theorem xI{j:Nat}{x:V}{O:St}{H:Hp}{A B:St->Hp->Prop}(h:A (O.set j (some x)) H):gj j x O H λσ3 H3=>jl σ3 H3 λok H4=>if ok=true then A σ3 H4 else B σ3 H4:=by show if true=true then A (O.set j (some x)) H else B (O.set j (some x)) H;rw[bo rfl];exact h
theorem yes{O:St}{H:Hp}{Q:Bool->Hp->Prop}(h:Q true H):jl O H Q:=h
end
theorem aK.go{K:aa}{H H':Hp}{a:Addr}{xs:List V}(s:aA H H')(h:aK K H a xs):aK K H' a xs:=h.imp (λr=>r.imp (s _ _) λ⟨o,e⟩=>⟨o,s _ _ e⟩) id
theorem aQ.go{K:aa}{H H':Hp}{a:Addr}{xs:List V}(s:aA H H')(h:aQ K H a xs):aQ K H' a xs:=h.imp (λr=>r.imp (s _ _) λ⟨o,e⟩=>⟨o,s _ _ e⟩) id
mutual
theorem RD.mono{K:aa}{H H':Hp}(s:aA H H'):∀{x:V}(d:ah),RD K H x d->RD K H' x d |x,.none,h=>by simpa[RD]using h |x,.bool b,h=>by simpa[RD]using h |x,.int i,h=>by simpa[RD]using h |x,.str y,h=>by simpa[RD]using h |x,.list ds,h=>by rw[RD]at h⊢;obtain⟨a,xs,e,h1,h2⟩:=h;exact⟨a,xs,e,h1.go s,aI.mono s ds h2⟩ |x,.tuple ds,h=>by rw[RD]at h⊢;obtain⟨a,xs,e,h1,h2⟩:=h;exact⟨a,xs,e,h1.go s,aI.mono s ds h2⟩ |x,.dict _,h=>by simp[RD]at h
theorem aI.mono {K:aa}{H H':Hp}(s:aA H H'):∀{xs:List V}(ds:List ah),aI K H xs ds->aI K H' xs ds |xs,[],h=>by simpa[aI]using h |xs,d::ds,h=>by rw[aI]at h⊢;obtain⟨y,ys,e,h1,h2⟩:=h;exact⟨y,ys,e,RD.mono s d h1,aI.mono s ds h2⟩
end
section
variable {K:aa} {H H':Hp}
theorem aI.nil_inv{xs:List V}(h:aI K H xs []):xs=[]:=by simpa[aI]using h
theorem aI.cons_inv{xs:List V}{d:ah}{ds:List ah}(h:aI K H xs (d::ds)):∃y ys,xs=y::ys/\RD K H y d/\aI K H ys ds:=by rw[aI]at h;exact h
theorem RD.da{x:V}{ds:List ah}(h:RD K H x (.tuple ds)):∃a xs,x= .ref a/\aQ K H a xs/\aI K H xs ds:=by rw[RD]at h;exact h
theorem RD.lst_inv{x:V}{ds:List ah}(h:RD K H x (.list ds)):∃a xs,x= .ref a/\aK K H a xs/\aI K H xs ds:=by rw[RD]at h;exact h
theorem RD.int_inv{x:V}{i:Int}(h:RD K H x (.int i)):x= .int i:=by rw[RD]at h;exact h
theorem RD.a4Q{x:V}{i:Bool}(h:RD K H x (.bool i)):x= .bl i:=by rw[RD]at h;exact h
theorem RD.str_inv{x:V}{i:Str}(h:RD K H x (.str i)):x= .str i:=by rw[RD]at h;exact h
theorem RD.yL{x:V}(h:RD K H x .none):x= .aY:=by rw[RD]at h;exact h
theorem aI.length:∀{xs:List V}{ds:List ah},aI K H xs ds->xs.length=ds.length |xs,[],h=>by rw[h.nil_inv];rfl |xs,d::ds,h=>by obtain⟨y,ys,rfl,_,h2⟩:=h.cons_inv;rw[fC,fC,aI.length h2]
theorem aI.append:∀{xs ys:List V}{ds es:List ah},aI K H xs ds->aI K H ys es->aI K H (xs++ys) (ds++es) |xs,ys,[],es,h,g=>by rw[h.nil_inv];exact g |xs,ys,d::ds,es,h,g=>by obtain⟨y,zs,rfl,h1,h2⟩:=h.cons_inv;exact bJ h1 (aI.append h2 g)
theorem aI.take:∀(n:Nat){xs:List V}{ds:List ah},aI K H xs ds->aI K H (xs.take n) (ds.take n) |0,xs,ds,h=>by rw[List.take_zero,List.take_zero];exact bW |n+1,xs,[],h=>by rw[h.nil_inv];exact bW |n+1,xs,d::ds,h=>by obtain⟨y,zs,rfl,h1,h2⟩:=h.cons_inv;exact bJ h1 (aI.take n h2)
theorem aI.get:∀(n:Nat){xs:List V}{ds:List ah}{d:ah},aI K H xs ds->ds[n]? =some d->∃x,xs[n]? =some x/\RD K H x d
 |n,xs,[],d,h,e=>by simp at e |0,xs,d'::ds,d,h,e=>by
  obtain⟨y,zs,rfl,h1,h2⟩:=h.cons_inv;have e':d'=d:=by simpa using e
  subst e';exact⟨y,Z,h1⟩ |n+1,xs,d'::ds,d,h,e=>by obtain⟨y,zs,rfl,h1,h2⟩:=h.cons_inv;exact aI.get n h2 (by simpa using e)
theorem aI.get'(n:Nat){xs:List V}{ds:List ah}{x:V}(h:aI K H xs ds)(e:xs[n]? =some x):∃d,ds[n]? =some d/\RD K H x d:=by
 have hl:n<ds.length:=by rw[<-h.length];exact(eU.mp e).1
 obtain⟨y,e1,r⟩:=h.get n (cH hl);rw[e]at e1;cases e1;exact⟨_,cH hl,r⟩
def gz:ah->String | .none=>"NoneType" | .bool _=>"bool" | .int _=>"int" | .str _=>"str" | .list _=>"list" | .tuple _=>"tuple" | .dict _=>"dict"
theorem RD.ty{x:V}:∀{d:ah},RD K H x d->qV K H x (gz d) | .none,h=>by rw[h.yL];rfl | .bool b,h=>by rw[h.a4Q];rfl | .int b,h=>by rw[h.int_inv];rfl | .str b,h=>by rw[h.str_inv];rfl | .list ds,h=>by obtain⟨a,xs,rfl,h1,_⟩:=h.lst_inv;exact .inl ⟨Z,xs,h1⟩ | .tuple ds,h=>by obtain⟨a,xs,rfl,h1,_⟩:=h.da;exact .inr ⟨Z,xs,h1⟩ | .dict _,h=>by simp[RD]at h
structure cD(n:Nat)(d:ah):Prop where
 lay:d.canLay0=true
 dep:d.depth<=n
def fQ(n:Nat)(ds:List ah):Prop:=∀d∈ds,cD n d
theorem cD.le{n m:Nat}{d:ah}(h:cD n d)(l:n<=m):cD m d:=⟨h.lay,fA h.dep l⟩
theorem qw{n:Nat}:∀{ds:List ah},fQ n ds↔(PyData.canLayAll0 ds=true/\PyData.depthAll ds<=n)
 |[]=>⟨λ_=>⟨Z,fh _⟩,λ_ _ h=>nomatch h⟩ |d::ds=>by
  have ih:=qw (n:=n) (ds:=ds);simp only[PyData.canLayAll0,PyData.depthAll,d6];constructor
  ·intro h
   have h1:=h d (.head _);have h2:=ih.mp λx hx=>h x (.tail _ hx);exact⟨⟨h1.lay,h2.1⟩,Nat.max_le.mpr ⟨h1.dep,h2.2⟩⟩
  ·rintro⟨⟨a,b⟩,c⟩ x hx
   have c':=Nat.max_le.mp c;rcases bZ.mp hx with rfl|hx
   ·exact⟨a,c'.1⟩
   ·exact ih.mpr ⟨b,c'.2⟩ x hx
theorem fQ.tup{n:Nat}{ds:List ah}(h:fQ n ds):cD (n+1) (.tuple ds):=⟨by simpa[PyData.canLay0]using(qw.mp h).1,by simpa[PyData.depth]using(qw.mp h).2⟩
theorem fQ.lst{n:Nat}{ds:List ah}(h:fQ n ds):cD (n+1) (.list ds):=⟨by simpa[PyData.canLay0]using(qw.mp h).1,by simpa[PyData.depth]using(qw.mp h).2⟩
theorem cD.da{n:Nat}{ds:List ah}(h:cD (n+1) (.tuple ds)):fQ n ds:=qw.mpr ⟨by simpa[PyData.canLay0]using h.lay,by simpa[PyData.depth]using h.dep⟩
theorem cD.int{n:Nat}(i:Int):cD n (.int i):=⟨Z,fh _⟩
theorem cD.aY{n:Nat}:cD n .none:=⟨Z,fh _⟩
theorem fQ.nil{n:Nat}:fQ n []:=λ_ h=>nomatch h
theorem fQ.cons{n:Nat}{d:ah}{ds:List ah}(h:cD n d)(g:fQ n ds):fQ n (d::ds):=λx hx=>by
 rcases bZ.mp hx with rfl|hx
 ·exact h
 ·exact g x hx
theorem cD.shaped{n:Nat}{d:ah}(h:cD n d)(l:n<=64):SeqAt.shaped d=true:=by unfold SeqAt.shaped;rw[h.lay,iH];exact cu (fA h.dep l)
theorem cD.refl{n:Nat}{d:ah}(h:cD n d):PyData.eqv d d=true:=eqv_refl d h.lay
def del(H:Hp)(p:Addr):Hp:=λb=>if b=p then none else H b
theorem pC{H:Hp}{p b:Addr}{o:HO}:del H p b=some o↔b≠p/\H b=some o:=by
 unfold del;by_cases e:b=p
 ·rw[bo e];simp[e]
 ·rw[bf e];simp[e]
theorem O1{H:Hp}{p:Addr}:aA (del H p) H:=λb o e=>(pC.mp e).2
def SD(p:Addr)(H H':Hp):Prop:=aA (del H p) (del H' p)
variable {p:Addr}{n m:Nat}{v:V}{vs:List V}{d:ah}{ds es:List ah}
end
section
variable {X:Cx}
end
end _L
namespace _H
open PySem PySem.Spec PyProof.Rows
section
variable {prog:af}{w:World}{A:ai}{E:Value->ae->Prop}{s:ae}
theorem a1T{t sl:Addr}{items:Array Value}{vl vu:Value}{lo hi:Option Int}{Q:Value->ae->Prop}(ht:IsTup s.heap t items)(hs:s.heap.IsSliceOf sl vl vu .none)(pl:IsPart vl lo)(pu:IsPart vu hi) (hw:bI items.size 0 lo=0/\bI items.size items.size hi=items.size)(h:Q (.ref t) s):wpAny (model prog w) A (getItem (.ref t) (.ref sl)) Q E s:=by
 obtain⟨os,jQ,zq,kQ⟩:=id hs;have EH:s.TypeIs (.ref sl) "slice":=⟨os,jQ,zq⟩;unfold getItem
 try with_reducible refine gJ ?_
 first|refine aB (bB ?_)|skip
 refine aB (wpAny_sequenceKey ht.typeIs az ?_);refine aB (ud (name:=Str.ofString "__getitem__") ht.typeIs x6 (uc x6 ht.typeIs entry_tuple_getitem ?_ (args_tuple_getitem _ _)));show wpAny _ _ (Builtin.Tuple.tupleItemsOf (.ref t)>>=_) _ _ s;refine aB (tupleItemsOf_ ht ?_);refine aB (wpAny_typeOf EH ?_);rw[bo az];refine aB (IX hs pl pu ?_);have Zo:(((bI items.size 0 lo:Nat):Int)==0&&(1:Int)==1&&(bI items.size items.size hi-bI items.size 0 lo)==items.size)=true:=by rw[hw.1,hw.2];simp
 show wpAny _ _ (if(((bI items.size 0 lo:Nat):Int)==0&&(1:Int)==1&&(bI items.size items.size hi-bI items.size 0 lo)==items.size)=true then _ else _) _ _ s;rw[bo Zo];show wpAny _ _ (Builtin.Tuple.tupleIsExact (.ref t)>>=_) _ _ s;refine aB (m:=Builtin.Tuple.tupleIsExact _) (aB (wpAny_typeOf ht.typeIs (bB ?_)));rw[bo az]
 wp_walk;exact⟨_,Z,bB h⟩
end
end _H
namespace _L
open PySem PySem.Spec PyProof.Rows
section
variable {X:Cx}
end
def fr(H H':Hp):Hp:=λb=>match H b with|none=>H' b|some _=>none
theorem mq{H H':Hp}{b:Addr}{o:HO}:fr H H' b=some o↔H b=none/\H' b=some o:=by unfold fr;cases H b<;>simp
theorem a2m{H H':Hp}{p:Addr}(hp:H p≠none):aA (fr H H') (del H' p):=λb o e=>pC.mpr ⟨λz=>hp (z▸(mq.mp e).1),(mq.mp e).2⟩
theorem Fc{H H1 H2:Hp}(s:aA H1 H2):aA (fr H H1) (fr H H2):=λb o e=>mq.mpr ⟨(mq.mp e).1,s _ _ (mq.mp e).2⟩
theorem a2l{H H1 H2:Hp}(s:aA H H1):aA (fr H1 H2) (fr H H2):=λb o e=>mq.mpr ⟨s.free (mq.mp e).1,(mq.mp e).2⟩
def xT(K:aa)(d:ah):TE:=λ_ H Q=>∀v H',aA H H'->RD K (fr H H') v d->Q v H'
def Ry(K:aa)(ds:List ah):TA:=λ_ H Q=>∀vs H',aA H H'->aI K (fr H H') vs ds->Q vs H'
def vx(f:Expr->Option ah):List Expr->Option (List ah) |[]=>some [] |e::es=>match f e,vx f es with |some d,some ds=>some (d::ds) |_,_=>none
def lit:Nat->Expr->Option ah
 |0,_=>none |_+1,.Constant .none _ _=>some .none |_+1,.Constant (.bool b) _ _=>some (.bool b) |_+1,.Constant (.int i) _ _=>some (.int i) |_+1,.Constant (.str x) _ _=>some (.str x) |n+1,.Tuple es _ _=>match vx (lit n) es with |some ds=>if ds.length<=1000 then some (.tuple ds)else none |none=>none
 |n+1,.List es _=>match vx (lit n) es with |some ds=>if ds.length<=1000 then some (.list ds)else none |none=>none
 |n+1,.UnaryOp .USub a _=>match lit n a with |some (.int i)=>some (.int (-i)) |_=>none
 |n+1,.BinOp a .Pow b _=>match lit n a,lit n b with |some (.int i),some (.int j)=>if 0<=j/\j<=1000000/\i.natAbs<2^64 then some (.int (i^j.toNat))else none |_,_=>none
 |_,_=>none
section
variable {X:Cx}
theorem RY{e:Expr}{es:List Expr}{env:Env}(h:∀a b,e≠ .Starred a b):starEach (e::es) env=(false,eval e env)::starEach es env:=by cases e<;>first|rfl|exact absurd rfl (h _ _)
theorem Yx{n:Nat}{e:Expr}{d:ah}(h:lit n e=some d):∀a b,e≠ .Starred a b:=by intro a b z;subst z;cases n<;>simp[lit]at h
theorem L8(K:aa)(f:Expr->Option ah)(hp:∀e d,f e=some d->∀a b,e≠ .Starred a b)(hf:∀e d,f e=some d->PE X e (xT K d)):∀(es:List Expr)(ds:List ah),vx f es=some ds->PA X es (Ry K ds)
 |[],ds,h=>by cases h;intro pos ak s O H Q I hq;exact ay pos ak s O H Q I (hq [] H (aA.refl H) bW) |e::es,ds,h=>by
  rw[vx]at h;split at h
  ·rename_i d FK e1 e2
   cases h;intro pos ak s O H Q I hq;refine ao (hf e d e1) (L8 K f hp hf es FK e2) (RY (hp e d e1)) pos ak s O H Q I ?_;intro v H1 s1 r1 vs H2 s2 r2;exact hq (v::vs) H2 (s1.trans s2) (bJ (RD.mono (Fc s2) _ r1) (aI.mono (a2l s1) _ r2))
  ·cases h
theorem v9(K:aa)(hK:X.K=K):∀(n:Nat)(e:Expr)(d:ah),lit n e=some d->PE X e (xT K d)
 |0,e,d,h=>by simp[lit]at h |n+1,e,d,h=>by
  have hA:=L8 (X:=X) K (lit n) (λe d h=>Yx h) (λe d h=>v9 K hK n e d h);unfold lit at h;split at h
  case h_1=>cases‹Nat.succ n=0›
  case h_2=>cases h;intro ak s O H Q I hq;exact hZ ak s O H Q I (hq .aY H (aA.refl H) oA)
  case h_3=>cases h;intro ak s O H Q I hq;exact ib ak s O H Q I (hq (.bl _) H (aA.refl H) (Ts _))
  case h_4=>cases h;intro ak s O H Q I hq;exact aF ak s O H Q I (hq (.int _) H (aA.refl H) (cQ _))
  case h_5=>cases h;intro ak s O H Q I hq;exact ck ak s O H Q I (hq (.str _) H (aA.refl H) (dN _))
  case h_6=>
   rename_i m es _ _ hm;cases hm;split at h
   ·rename_i ds e1
    by_cases hl:ds.length<=1000
    ·rw[bo hl]at h
     cases h;intro ak s O H Q I hq;refine dc (hA es ds e1) ak s O H Q I ?_;intro vs H1 s1 r1;refine⟨by rw[r1.length];exact fA hl az,λp H' nw=>?_⟩;refine hq _ _ (s1.trans nw.same) (eF (aQ.of (mq.mpr ⟨s1.free nw.no,nw.at'⟩)) (aI.mono (Fc nw.same) _ r1))
    ·rw[bf hl]at h;cases h
   ·cases h
  case h_7=>
   rename_i m es _ hm;cases hm;split at h
   ·rename_i ds e1
    by_cases hl:ds.length<=1000
    ·rw[bo hl]at h
     cases h;intro ak s O H Q I hq;refine dF (hA es ds e1) ak s O H Q I ?_;intro vs H1 s1 r1;refine⟨by rw[r1.length];exact fA hl az,λp H' nw=>?_⟩;refine hq _ _ (s1.trans nw.same) (sE (aK.of (mq.mpr ⟨s1.free nw.no,nw.at'⟩)) (aI.mono (Fc nw.same) _ r1))
    ·rw[bf hl]at h;cases h
   ·cases h
  case h_8=>
   rename_i m a _ hm;cases hm;split at h
   ·rename_i i e1
    cases h;intro ak s O H Q I hq;refine lU lN (v9 K hK n a _ e1) ak s O H Q I ?_;intro v H1 s1 r1;exact⟨i,r1.int_inv,hq _ _ s1 (cQ _)⟩
   ·cases h
  case h_9=>
   rename_i m a b _ hm;cases hm;split at h
   ·rename_i i j e1 e2
    by_cases hc:0<=j/\j<=1000000/\i.natAbs<2^64
    ·rw[bo hc]at h
     cases h;intro ak s O H Q I hq;refine aW vc (v9 K hK n a _ e1) (v9 K hK n b _ e2) ak s O H Q I ?_;intro v H1 s1 r1 v2 H2 s2 r2;exact⟨i,j,r1.int_inv,r2.int_inv,hc,hq _ _ (s1.trans s2) (cQ _)⟩
    ·rw[bf hc]at h;cases h
   ·cases h
  case h_10=>cases h
end
end _L
namespace _L
theorem eK{α:Type}{xs:List α}{i:Int}{v:α}(h0:0<=i)(h:xs[i.toNat]? =some v):iB xs i=some v:=by have hl:i.toNat<xs.length:=(eU.mp h).1;unfold iB kH;rw[bo h0,bo aw];exact h
end _L
namespace _L
open PySem PySem.Spec PyProof.Rows
theorem uP(n:Nat)(h:n<=1000):n<=sizeLine:=fA h az
structure OX(X:Cx)(e:Expr)(t:TE):Prop where out:PE X e t
theorem UA{X:Cx}(K:aa)(hK:X.K=K)(n:Nat)(e:Expr)(d:ah)(h:lit n e=some d):OX X e (xT K d):=⟨v9 K hK n e d h⟩
section
variable {X:Cx}{p pos pos':Pos}{a b e:Expr}{es:List Expr}{ta tb te:TE}{t:TA}{x:Str}
theorem px(K:aa)(ha:PE X a ta)(hb:PE X b tb)(hK:autoParam (X.K=K) r8_._auto_1)(hp:OS b:=by exact λ_ _=>rfl):PE X (.Subscript a b pos) (uF (λx y H Q=>CZ K x y H Q\/CY K x y H Q) ta tb):=KZ (YW K hK) ha hb hp
theorem kC(K:aa)(B:bE X.mg)(ha:PA X (e::es) t)(hK:autoParam (X.K=K) r8_._auto_1)(hg:autoParam (Gl X "isinstance") r8_._auto_1)(he:autoParam (starEach (e::es) X.env=(false,eval e X.env)::starEach es X.env) r8_._auto_1)(dI:autoParam ((backTo pos (starEach es X.env)).any (·.1)=false) r8_._auto_1):PE X (.Call (.Name "isinstance" p) (e::es) [] pos) (xU (λxs H Q=>D5 K xs H Q\/D4 K xs H Q) t):=dG (Z0 K hK) hg (B.at "isinstance") jZ ha az az he dI
theorem fo(K:aa)(B:bE X.mg)(ha:PA X (e::es) t)(hK:autoParam (X.K=K) r8_._auto_1)(hg:autoParam (Gl X "len") r8_._auto_1)(he:autoParam (starEach (e::es) X.env=(false,eval e X.env)::starEach es X.env) r8_._auto_1)(dI:autoParam ((backTo pos (starEach es X.env)).any (·.1)=false) r8_._auto_1):PE X (.Call (.Name "len" p) (e::es) [] pos) (xU (λxs H Q=>∃p ys,xs=[.ref p]/\(aK K H p ys\/aQ K H p ys)/\Q (.int ys.length) H) t):=dG (YC K hK) hg (B.at "len") PySem.boot_len ha az az he dI
theorem pS(i:Nat)(hN:X.N.Nodup)(he:PE X e te)(hi:autoParam (X.N[i]? =some x) r8_._auto_1)(hx:autoParam (Loc X.env.scope x) k8_._auto_1)(hs:autoParam (swapsWith e (some (.Name x pos')) pos.line X.env=pure false) r8_._auto_1)(hf:autoParam (X.fn x=true\/X.env.scope.names.lookup x=some .local) d8_._auto_1):PS X (.Assign [.Name x pos'] e pos) (xW te (gj i)):=KP hN hi hx he hs hf
theorem bu(i:Nat)(hN:X.N.Nodup)(hi:autoParam (X.N[i]? =some x) r8_._auto_1)(hx:autoParam (Loc X.env.scope x) k8_._auto_1)(hf:autoParam (X.fn x=true\/X.env.scope.names.lookup x=some .local) d8_._auto_1):PG X (.Name x pos) (gj i):=Uw hN hi hx hf
theorem oK (a:Str):[a].Nodup:=by simp
theorem fX{a b:Str}(h:(a==b)=false):[a,b].Nodup:=by
 have:a≠b:=λz=>by rw[z,wZ]at h;cases h
 simp[this]
theorem bC{n:Nat}(h:Nat.ble n 1000=true):n<=sizeLine:=uP n (GQ h)
end
def GV(mg:bc)(x:Str)(v:V):Prop:=∃u,mg x=some u/\RelV v u
def GT(K:aa)(mg:bc)(x:Str)(vs:List V):Prop:=∃a,GV mg x (.ref a)/\∀H,aQ K H a vs
theorem cy{X:Cx}{x:Str}{v:V}{pos:Pos}(hg:Gl X x)(h:GV X.mg x v)(hd:autoParam ((x==("__debug__":Str))=false) q8_._auto_1):PE X (.Name x pos) (tC v):=by obtain⟨u,hm,r⟩:=h;exact UB hg hm r hd
section
variable {K:aa} {mg:bc} {h:Heap}
theorem iO{x:Str}{i:Int}{t:Tok}(X:K.In h)(G:h.Ns mainGlobals mg)(a:PySem.W.nsIn K mainGlobals x=some (some (.int i t))):GV mg x (.int i):=⟨_,rJ X G a,t,Z⟩
theorem F7{x:Str}{vs:List V}{b:Addr}{its:Array Value}{n:Nat}{od:Option Addr}{eG:Array (Option Value)}(X:K.In h)(G:h.Ns mainGlobals mg)(a:PySem.W.nsIn K mainGlobals x=some (some (.ref b))) (l:K.lookup b=some ⟨.type "tuple",od,.seq its n,eG⟩)(hz:its.size<=sizeLine)(r:Vals vs its.toList):GT K mg x vs:=⟨b,⟨_,rJ X G a,Z⟩,λH=>.inr ⟨_,its,n,l,Z,Z,hz,r⟩⟩
end
section
variable {X:Cx}
theorem X4(K:aa)(h:X.K=K):cn X (compareOp .NotIn) (KI K true):=by subst h;exact UX
end
theorem Oe{J:It}{xs:List V}{bs:List Bool}{te:TE}{Q:VK}{D:Addr}{H H0:Hp}(rest:St)(nw:Nw H H0 D (.lst []))(hl:xs.length=bs.length)(hz:xs.length<=1000) (go:∀i x H2,xs[i]? =some x->aA H H2->J.go i H2/\∀y H3,J.gw i H2 y H3->H3=H2/\y=x)(stop:∀H2,aA H H2->J.stop xs.length H2) (hs:∀(i:Nat)(x:V)(b:Bool)(H2:Hp)(Q':VK),xs[i]? =some x->bs[i]? =some b->aA H H2->(∀H3,aA H2 H3->Q' (.bl b) H3)->te (some x::rest) H2 Q') (hq:∀H',aA H H'->H' D=some (.lst (bs.map V.bl))->Q (.ref D) H'):jz J (gj 0) jl te Q D (none::rest) H0:=by
 have hD:=nw.no;refine qS xs.length (λi O H2=>aA H H2/\H2 D=some (.lst ((bs.take i).map V.bl))/\∃v,O=v::rest) ?_ ?_ ?_
 ·exact⟨nw.same,nw.at',none,Z⟩
 ·rintro i O H2 hi ⟨s2,d2,v,rfl⟩
  have zm:i<bs.length:=by rw[<-hl];exact hi
  have ex:=cH hi;have eb:=cH zm;obtain⟨g1,g2⟩:=go i _ H2 ex s2;refine⟨g1,λy H3 hy=>?_⟩;obtain⟨rfl,rfl⟩:=g2 y H3 hy;refine xI ?_;refine hs i _ _ _ _ ex eb s2 λH4 s4=>?_;refine⟨_,s4 _ _ d2,?_,xs.length-(i+1),aw,Z,aw,λb o e=>?_,?_,_,Z⟩
  ·rw[bR,rL]
   have:(1000:Nat)<sizeLine:=by decide
   lia
  ·rw[aL (eH e hD)];exact s4 b o (s2 b o e)
  ·rw[bp,ur,eb,lH];rfl
 ·rintro O H2 ⟨s2,d2,v,rfl⟩
  refine⟨stop H2 s2,hq H2 s2 ?_⟩;rw[d2,hl,xi]
theorem zQ{K:aa}{a:Addr}{xs:List V}{bs:List Bool}{te:TE}{Q:VK}{D:Addr}{H H0:Hp}(rest:St)(hx:aQ K H a xs)(nw:Nw H H0 D (.lst []))(hl:xs.length=bs.length)(hz:xs.length<=1000) (hs:∀(i:Nat)(x:V)(b:Bool)(H2:Hp)(Q':VK),xs[i]? =some x->bs[i]? =some b->aA H H2->(∀H3,aA H2 H3->Q' (.bl b) H3)->te (some x::rest) H2 Q') (hq:∀H',aA H H'->H' D=some (.lst (bs.map V.bl))->Q (.ref D) H'):jz (pM K a) (gj 0) jl te Q D (none::rest) H0:=Oe rest nw hl hz (λi x H2 e s=>⟨⟨xs,x,hx.go s,e⟩,λy H3 ⟨e3,y3⟩=>⟨e3,by have:=y3 _ (hx.go s);rw[e]at this;exact(dW this).symm⟩⟩) (λH2 s=>⟨xs,hx.go s,bA _⟩) hs hq
theorem yU{ds:List ah}{f:ah->Bool}{i:Nat}{b:Bool}(h:(ds.map f)[i]? =some b):∃d,ds[i]? =some d/\f d=b:=by rw[cZ]at h;cases e:ds[i]? with |none=>rw[e]at h;cases h |some d=>rw[e]at h;exact⟨d,Z,dW h⟩
theorem all_map{ds:List ah}{f:ah->Bool}:(ds.map f).all id=ds.all f:=by rw[List.all_map];rfl
section
variable {X:Cx}
inductive a7o(K:aa)(x:V)(y:V)(H:Hp)(Q:VK):Prop |mk (a:_)(b:_)(xs:_)(ys:_)(h0:x= .ref a)(h1:y= .ref b)(h2:aK K H a xs)(h3:aK K H b ys)(h4:xs.length+ys.length<=sizeLine)(h5:∀p H',Nw H H' p (.lst (xs++ys))->Q (.ref p) H')
def U9(K:aa):R2:=λx y H Q=>a7o K x y H Q
theorem qT(K:aa)(hK:X.K=K):cn X (binaryOp .Add) (U9 K):=by
 subst hK;intro ak s O H x y v u Q I rx ry h;obtain⟨a,b,xs,ys,rfl,rfl,ha,hb,hz,q⟩:=h;cases rx;cases ry;obtain⟨its,r1,p1,_⟩:=I.list ha;obtain⟨jq,r2,p2,_⟩:=I.list hb;obtain⟨⟨cls,dd,data,sl⟩,n,ho,hc,hdd,hd⟩:=id p1;obtain⟨⟨Oh,tV,data2,ow⟩,n2,m9,fL,a8u,hd2⟩:=id p2;simp only at hc hd fL hd2;subst hc hd fL hd2;have e:its.toArray++jq.toArray=(its++jq).toArray:=by simp
 refine concat_meets ⟨_,ho,Z⟩ ⟨_,m9,Z⟩ noFill_list_add seq_list_add PySem.F.slot_list_add PySem.F.entry_list_add (PySem.F.args_list_add_2 _ _) (list_addW a b its.toArray jq.toArray n n2 dd tV sl ow (by rw[cY,cY,<-r1.length,<-r2.length];exact hz)) ⟨ho,m9,?_⟩;rw[e];have nw:Nw H (upd H s.heap.objs.size (.lst (xs++ys))) s.heap.objs.size (.lst (xs++ys)):=.of (I.aV.fresh (bA _));refine⟨.ref s.heap.objs.size,_,I.laid (t':=s.toks) (o:=.lst (xs++ys)) (λb ob q=>bL _ q) (bA _) ?_,Z,q _ _ nw⟩;exact⟨by rw[fi];exact hz,_,0,r1.append r2,dw _ Z⟩
inductive a7h(K:aa)(neg:Bool)(x:V)(y:V)(H:Hp)(Q:VK):Prop |mk (p:_)(xs:_)(d:_)(ds:_)(h0:y= .ref p)(h1:aK K H p xs)(h2:RD K H x d)(h3:aI K H xs ds)(h4:SeqAt.shaped d=true)(h5:(∀e∈ds,SeqAt.shaped e=true))(h6:Q (.bl (if neg then !(ds.any λe=>PyData.eqv e d)else ds.any λe=>PyData.eqv e d)) H)
def U6(K:aa)(neg:Bool):R2:=λx y H Q=>a7h K neg x y H Q
open Classical in
noncomputable def nU(h:Heap)(d:ah)(w:Value):Bool:=if q:∃e as,Reads h w e as then PyData.eqv q.choose d else false
theorem a3I{h:Heap}{d e:ah}{w:Value}{as:List Addr}(r:Reads h w e as):nU h d w=PyData.eqv e d:=by have q:∃e as,Reads h w e as:=⟨e,as,r⟩;unfold nU;rw[dif_pos q];obtain⟨as',r'⟩:=q.choose_spec;rw[(Reads.unique r' e as r).1]
theorem FC{ak:List (Addr×Obj)}{s:ae}{O:St}{H:Hp}(I:Inv X ak O H s)(hu:X.A.units+65<cLine){x:V}{u:Value}{d:ah}(rx:RelV x u)(hd:RD X.K H x d)(sd:SeqAt.shaped d=true): ∀{xs:List V}{us:List Value}{ds:List ah},Vals xs us->aI X.K H xs ds->(∀e∈ds,SeqAt.shaped e=true)->(∀w∈us,SeqAt.EqAt X.A.in1 s w u (nU s.heap d w))/\us.any (nU s.heap d)=ds.any λe=>PyData.eqv e d |xs,us,[],rv,h,_=>by cases h.nil_inv;cases rv;exact⟨λ_ h=>(dX h).elim,Z⟩ |xs,us,e::ds,rv,h,se=>by obtain⟨y,ys,rfl,h1,h2⟩:=h.cons_inv;cases rv with |cons ra rb=>
 rename_i w ws;obtain⟨as,q1⟩:=RD.reads I e ra h1;obtain⟨bs,q2⟩:=RD.reads I d rx hd;have key:SeqAt.EqAt X.A.in1 s w u (PyData.eqv e d):=SeqAt.eqAt_reads e d X.A.in1 s w u as bs q1 q2 (SeqAt.canLay_of_shaped (se e (.head _))) (SeqAt.canLay_of_shaped sd) (SeqAt.room_of_shaped (se e (.head _)) (by show X.A.units+1+64<cLine;omega));obtain⟨k1,k2⟩:=FC I hu rx hd sd rb h2 (λe' he=>se e' (.tail _ he));have ew:nU s.heap d w=PyData.eqv e d:=a3I q1;refine⟨λz hz=>?_,?_⟩
 ·rcases bZ.mp hz with rfl|hz
  ·rw[ew];exact key
  ·exact k1 z hz
 ·rw[uz,uz,ew,k2]
theorem inD(K:aa)(hK:X.K=K)(hu:X.A.units+65<cLine):cn X (compareOp .In) (U6 K false):=by
 subst hK;intro ak s O H x y v u Q I rx ry h;obtain⟨p,xs,d,ds,rfl,hx,hd,kQ,sd,B8,q⟩:=h;cases ry;obtain⟨its,r,pl,hz⟩:=I.list hx;obtain⟨k1,k2⟩:=FC I hu rx hd sd r kQ B8;refine SeqAt.in_listAt (nU s.heap d) pl.isList (λw hw=>k1 w (by simpa using hw)) ⟨.bl _,H,I,Z,?_⟩;have e:its.toArray.any (nU s.heap d)=ds.any λe=>PyData.eqv e d:=by rw[<-k2];simp
 rw[e];exact q
end
end _L
namespace _L
theorem bU.Hr{k:Nat}{A:PySem.Around}(r:bU k A):A.units+65<PySem.cLine:=by have:=r.un;lia
end _L
namespace _L
open PySem PySem.Spec PyProof.Rows
def iS(b:Bool)(h:Heap)(it l:Addr)(k:Nat):Prop:=match b with|true=>h.IsListIter it l k|false=>h.IsTupleIter it l k
def fP(b:Bool)(h:Heap)(l:Addr)(xs:Array Value):Prop:=match b with|true=>h.IsList l xs|false=>h.IsTuple l xs
def pD(b:Bool):String:=match b with|true=>"list_iterator"|false=>"tuple_iterator"
theorem iS.to{b:Bool}{h g:Heap}{it l:Addr}{k:Nat}(x:iS b h it l k)(e:∀o,h.get? it=some o->g.get? it=some o):iS b g it l k:=by cases b<;>(obtain⟨o,ho,r⟩:=x;exact⟨o,e o ho,r⟩)
theorem fP.to{b:Bool}{h g:Heap}{l:Addr}{xs:Array Value}(x:fP b h l xs)(e:∀o,h.get? l=some o->g.get? l=some o):fP b g l xs:=by cases b<;>(obtain⟨o,ho,r⟩:=x;exact⟨o,e o ho,r⟩)
theorem iS.ob{b:Bool}{h:Heap}{it l:Addr}{k:Nat}(x:iS b h it l k):∃o,h.get? it=some o/\o.cls= .type (pD b)/\∀v,o.data≠ .cell v:=by cases b<;>(obtain⟨o,ho,c,d⟩:=x;exact⟨o,ho,c,λv z=>by rw[d]at z;cases z⟩)
section
variable {prog:af}{w:World}{A:ai}{E:Value->ae->Prop}{s:ae}
theorem sW{b:Bool}{l:Addr}{xs:Array Value}{Q:Value->ae->Prop}(x:fP b s.heap l xs) (q:Q (.ref s.heap.objs.size) {s with heap:=s.heap.push {cls:=.type (pD b),data:=.fields #[.ref l,.int 0 0]}}):wpAny (model prog w) A (pyIter (.ref l)) Q E s:=by
 cases b
 ·exact wpAny_pyIter_tuple x q
 ·exact Aa x q
theorem WR{it t:Addr}{k:Nat}{ts:Array Value}{x:Value}{Q:Value->ae->Prop}(hi:s.heap.IsTupleIter it t k)(ht:s.heap.IsTuple t ts)(hx:ts[k]? =some x) (q:∀g,g.IsTupleIter it t (k+1)->Heap.SameBut it s.heap g->Q x {s with heap:=g}):wpAny (model prog w) A (Builtin.SmallTypes.nextOf (.ref it)) Q E s:=by obtain⟨oi,iM,ci,di⟩:=id hi;obtain⟨ot,El,_,nt,dt⟩:=ht;unfold Builtin.SmallTypes.nextOf;refine aB (ud (name:=Str.ofString "__next__") hi.typeIs GK (uc GK hi.typeIs a7M ?_ (a7N _)));show wpAny _ _ (field (.ref it) 0>>=_) _ _ s;refine aB (fT iM di (x:=.ref t) Z ?_);show wpAny _ _ (if(Value.ref t==Value.none)=true then _ else _) _ _ s;rw[bf (show¬((Value.ref t==Value.none)=true)from cI)];show wpAny _ _ (field (.ref it) 1>>=_) _ _ s;refine aB (fT iM di (x:=.int k 0) Z ?_);show wpAny _ _ (seqItems? (.ref t)>>=_) _ _ s;refine aB (rn El dt ?_);simp only[PX,hx];refine aB (wV iM di (by simp) (bB ⟨x,Z,bB (q _ ?_ (Q0 ..))⟩));exact⟨_,xB _ iM (GN (xf di _)),(Obj.cls_mapFields ..).trans ci,by rw[xf di];simp[rawInt]⟩
theorem a3S{it t:Addr}{k:Nat}{ts:Array Value}{Q:Value->ae->Prop}(hh:A.handled=none)(hi:s.heap.IsTupleIter it t k)(ht:s.heap.IsTuple t ts)(hx:ts[k]? =none) (q:∀g e,Heap.ExtBut it s.heap g->(∃o,g.get? e=some o/\o.cls= .type "StopIteration")->E (.ref e) {s with heap:=g}):wpAny (model prog w) A (Builtin.SmallTypes.nextOf (.ref it)) Q E s:=by
 obtain⟨oi,iM,ci,di⟩:=id hi;obtain⟨ot,El,_,nt,dt⟩:=ht;unfold Builtin.SmallTypes.nextOf;refine aB (ud (name:=Str.ofString "__next__") hi.typeIs GK (uc GK hi.typeIs a7M ?_ (a7N _)));show wpAny _ _ (field (.ref it) 0>>=_) _ _ s;refine aB (fT iM di (x:=.ref t) Z ?_);show wpAny _ _ (if(Value.ref t==Value.none)=true then _ else _) _ _ s;rw[bf (show¬((Value.ref t==Value.none)=true)from cI)];show wpAny _ _ (field (.ref it) 1>>=_) _ _ s;refine aB (fT iM di (x:=.int k 0) Z ?_);show wpAny _ _ (seqItems? (.ref t)>>=_) _ _ s;refine aB (rn El dt ?_);simp only[PX,hx];refine aB (wW (aB (wV iM di (by simp) ?_)));show wpAny _ _ (newExc (.type "StopIteration") []>>=_) _ _ _;refine aB ?_;simp only[newExc,newTuple];refine aB (jX ?_ (by size_fits));refine aB (m:=firstArgMember _ _) (ub (a:=Value.none) (by first|rfl|(simp only[firstArgMember];rfl)) ?_);refine jX ?_ (by size_fits);simp only[raiseNew];refine aB (wpAny_handled ?_)
 first|rw[show A.in1.handled=none from hh]|rw[hh]
 exact aB (bB (wpAny_throw (q _ _ (((Q0 ..).extBut.push _).push _) ⟨_,dw _ Z,Z⟩)))
theorem yJ{b:Bool}{it l:Addr}{k:Nat}{xs:Array Value}{x:Value}{Q:Value->ae->Prop}(hi:iS b s.heap it l k)(hl:fP b s.heap l xs)(hx:xs[k]? =some x) (q:∀g,iS b g it l (k+1)->Heap.SameBut it s.heap g->Q x {s with heap:=g}):wpAny (model prog w) A (Builtin.SmallTypes.nextOf (.ref it)) Q E s:=by
 cases b
 ·exact WR hi hl hx q
 ·exact wpAny_nextOf_list_item hi hl hx q
theorem FE{b:Bool}{it l:Addr}{k:Nat}{xs:Array Value}{Q:Value->ae->Prop}(hh:A.handled=none)(hi:iS b s.heap it l k)(hl:fP b s.heap l xs)(hx:xs[k]? =none) (q:∀g e,Heap.ExtBut it s.heap g->(∃o,g.get? e=some o/\o.cls= .type "StopIteration")->E (.ref e) {s with heap:=g}):wpAny (model prog w) A (Builtin.SmallTypes.nextOf (.ref it)) Q E s:=by
 cases b
 ·exact a3S hh hi hl hx q
 ·exact wpAny_nextOf_list_end hh hi hl hx q
structure Zp(b1 b2:Bool)(h:Heap)(z TI TO i1 i2 l1 l2:Addr)(f0:Value)(k:Nat):Prop where
 zz:IsZip h z TI TO f0
 ti:IsPair h TI (.ref i1) (.ref i2)
 to:∃a b,IsPair h TO a b
 n1:iS b1 h i1 l1 k
 n2:iS b2 h i2 l2 k
theorem La{z TI TO:Addr}{Q:Bool->ae->Prop}(hz:IsZip s.heap z TI TO .none)(q:Q true s):wpAny (model prog w) A (Builtin.SmallTypes.ownedTupleIsFree (.ref z)) Q E s:=by unfold Builtin.SmallTypes.ownedTupleIsFree;exact aB (fT hz Z (x:=.none) Z (bB q))
theorem Q7{b1 b2:Bool}{z TI TO i1 i2 l1 l2:Addr}{k:Nat}{xs ys:Array Value}{x y:Value}{Q:Value->ae->Prop}(D:ZipApart z TI TO i1 i2 l1 l2)(a8W:Zp b1 b2 s.heap z TI TO i1 i2 l1 l2 .none k) (jR:fP b1 s.heap l1 xs)(mh:fP b2 s.heap l2 ys)(hx:xs[k]? =some x)(hy:ys[k]? =some y) (q:∀g,Zp b1 b2 g z TI TO i1 i2 l1 l2 (rawInt s.heap.objs.size) (k+1)->IsPair g s.heap.objs.size x y->(∀c o,c≠z->c≠TO->c≠i1->c≠i2->s.heap.get? c=some o->g.get? c=some o)->Q (.ref s.heap.objs.size) {s with heap:=g}): wpAny (model prog w) A (Builtin.«zip.__next__» ⟨[.ref z],[]⟩) (λr s'=>∃v,r= .done (.ret v)/\Q v s') E s:=by
 obtain⟨hz,jT,⟨a,b,kS⟩,h1,h2⟩:=a8W;show wpAny _ _ (field (.ref z) 2>>=_) _ _ _;refine aB (fT hz Z (x:=.bool false) Z ?_);show wpAny _ _ (field (.ref z) 3>>=_) _ _ _;refine aB (fT hz Z (x:=.ref TI) Z (aB (rn jT Z ?_)));show wpAny _ _ (Builtin.SmallTypes.ownedTupleIsFree (.ref z)>>=_) _ _ _;refine aB (La hz ?_);simp only[rC];refine aB (wW (aB (fT hz Z (x:=.ref TO) Z (aB (wU hz (by simp) λg1 z1 e1=>?_)))));replace z1:IsZip g1 z TI TO .ellipsis:=z1;refine aB ?_;simp only[List.zipIdx_cons,List.zipIdx_nil,Hb,List.forIn_nil];refine aB (aB (Ab ?_));show wpAny _ _ (Builtin.SmallTypes.nextOf (.ref i1)>>=_) _ _ _;refine aB (yJ (h1.to λo e=>e1.extBut _ _ D.i1z e) (jR.to λo e=>e1.extBut _ _ D.l1z e) hx λg2 n1 e2=>bB ?_);have t2:IsPair g2 TO a b:=e2.extBut _ _ D.TOi1 (e1.extBut _ _ D.TOz kS);refine aB (rn t2 Z (aB (P9 t2 λg3 t3 e3=>?_)));replace t3:IsPair g3 TO x b:=t3;refine aB (wpAny_letGo (bB ?_));refine aB (aB (Ab ?_));show wpAny _ _ (Builtin.SmallTypes.nextOf (.ref i2)>>=_) _ _ _;refine aB (yJ (h2.to λo e=>e3.extBut _ _ D.TOi2.symm (e2.extBut _ _ D.i12.symm (e1.extBut _ _ D.i2z e))) (mh.to λo e=>e3.extBut _ _ D.l2TO (e2.extBut _ _ D.l2i1 (e1.extBut _ _ D.l2z e))) hy λg4 n2 e4=>bB ?_);have t4:IsPair g4 TO x b:=e4.extBut _ _ D.TOi2 t3;refine aB (rn t4 Z (aB (P9 t4 λg5 t5 e5=>?_)));replace t5:IsPair g5 TO x y:=t5;refine aB (wpAny_letGo (bB (bB ?_)));refine aB (rn t5 Z (aB (wpAny_newTuple ?_)));have sz:g5.objs.size=s.heap.objs.size:=by rw[e5.1,e4.1,e3.1,e2.1,e1.1]
 have z5:IsZip g5 z TI TO .ellipsis:=e5.extBut _ _ D.TOz.symm (e4.extBut _ _ D.i2z.symm (e3.extBut _ _ D.TOz.symm (e2.extBut _ _ D.i1z.symm z1)));have kp:∀c o,c≠z->c≠TO->c≠i1->c≠i2->s.heap.get? c=some o->g5.get? c=some o:=λc o c1 c2 c3 c4 e=>e5.extBut _ _ c2 (e4.extBut _ _ c4 (e3.extBut _ _ c2 (e2.extBut _ _ c3 (e1.extBut _ _ c1 e))));have m1:iS b1 g5 i1 l1 (k+1):=n1.to λo e=>e5.extBut _ _ D.TOi1.symm (e4.extBut _ _ D.i12 (e3.extBut _ _ D.TOi1.symm e));have m2:iS b2 g5 i2 l2 (k+1):=n2.to λo e=>e5.extBut _ _ D.TOi2.symm e;have Ay:z<g5.objs.size:=bP z5;show wpAny _ _ (Builtin.SmallTypes.ownedTupleHandOut (.ref z) (.ref g5.objs.size)>>=_) _ _ _;refine aB ?_;unfold Builtin.SmallTypes.ownedTupleHandOut;have z6:IsZip (g5.push {cls:=.type "tuple",data:=.seq #[x,y]}) z TI TO .ellipsis:=bL _ z5;refine aB (wU z6 (by simp) λg7 z7 e7=>?_);replace z7:IsZip g7 z TI TO (rawInt g5.objs.size):=z7;refine wU z7 (by simp) λg8 z8 e8=>?_;replace z8:IsZip g8 z TI TO (rawInt g5.objs.size):=z8;have up:∀c o,c≠z->g5.get? c=some o->g8.get? c=some o:=λc o c1 e=>e8.extBut _ _ c1 (e7.extBut _ _ c1 (bL _ e));have t8:IsPair g8 g5.objs.size x y:=e8.extBut _ _ (xg Ay) (e7.extBut _ _ (xg Ay) (dw _ Z));rw[sz]at z8 t8;refine bB ⟨_,Z,?_⟩;show Q (.ref g5.objs.size) _;rw[sz];exact q g8 ⟨z8,up _ _ D.TIz (kp _ _ D.TIz D.TITO D.TIi1 D.TIi2 jT),⟨_,_,up _ _ D.TOz t5⟩,m1.to λo e=>up _ o D.i1z e,m2.to λo e=>up _ o D.i2z e⟩ t8 λc o c1 c2 c3 c4 e=>up c o c1 (kp c o c1 c2 c3 c4 e)
theorem Q8{b1 b2:Bool}{z TI TO i1 i2 l1 l2:Addr}{k:Nat}{xs ys:Array Value}{Q:Fin->ae->Prop}(hh:A.handled=none)(D:ZipApart z TI TO i1 i2 l1 l2)(a8W:Zp b1 b2 s.heap z TI TO i1 i2 l1 l2 .none k) (jR:fP b1 s.heap l1 xs)(mh:fP b2 s.heap l2 ys)(nN:xs[k]? =none\/ys[k]? =none) (q:∀g e,(∀c o,c≠z->c≠TO->c≠i1->c≠i2->s.heap.get? c=some o->g.get? c=some o)->(∃o,g.get? e=some o/\o.cls= .type "StopIteration")->E (.ref e) {s with heap:=g}): wpAny (model prog w) A (Builtin.«zip.__next__» ⟨[.ref z],[]⟩) Q E s:=by obtain⟨hz,jT,⟨a,b,kS⟩,h1,h2⟩:=a8W;show wpAny _ _ (field (.ref z) 2>>=_) _ _ _;refine aB (fT hz Z (x:=.bool false) Z ?_);show wpAny _ _ (field (.ref z) 3>>=_) _ _ _;refine aB (fT hz Z (x:=.ref TI) Z (aB (rn jT Z ?_)));show wpAny _ _ (Builtin.SmallTypes.ownedTupleIsFree (.ref z)>>=_) _ _ _;refine aB (La hz ?_);simp only[rC];refine aB (wW (aB (fT hz Z (x:=.ref TO) Z (aB (wU hz (by simp) λg1 z1 e1=>?_)))));replace z1:IsZip g1 z TI TO .ellipsis:=z1;refine aB ?_;simp only[List.zipIdx_cons,List.zipIdx_nil,Hb,List.forIn_nil];refine aB (aB (Ab ?_));show wpAny _ _ (Builtin.SmallTypes.nextOf (.ref i1)>>=_) _ _ _;have j1:=h1.to λo e=>e1.extBut _ _ D.i1z e;have k1:=jR.to λo e=>e1.extBut _ _ D.l1z e;cases hx:xs[k]? with
 |none=>
  refine aB (FE hh j1 k1 hx λg2 er e2 ⟨oe,m8,vR⟩=>?_);have z2:IsZip g2 z TI TO .ellipsis:=e2 _ _ D.i1z.symm z1;have nz:er≠z:=λv=>by subst v;rw[z2]at m8;cases m8;simp at vR
  refine wU z2 (by simp) λg3 _ e3=>q g3 er (λc o c1 _ c3 _ v=>e3.extBut _ _ c1 (e2 _ _ c3 (e1.extBut _ _ c1 v))) ⟨oe,e3.extBut _ _ nz m8,vR⟩ |some x=>
  have hy:ys[k]? =none:=by rcases nN with h|h;rw[hx]at h;cases h;exact h
  refine aB (yJ j1 k1 hx λg2 n1 e2=>bB ?_);have t2:IsPair g2 TO a b:=e2.extBut _ _ D.TOi1 (e1.extBut _ _ D.TOz kS);refine aB (rn t2 Z (aB (P9 t2 λg3 t3 e3=>?_)));refine aB (wpAny_letGo (bB ?_));refine aB (aB (Ab ?_));show wpAny _ _ (Builtin.SmallTypes.nextOf (.ref i2)>>=_) _ _ _;refine aB (FE hh (h2.to λo e=>e3.extBut _ _ D.TOi2.symm (e2.extBut _ _ D.i12.symm (e1.extBut _ _ D.i2z e))) (mh.to λo e=>e3.extBut _ _ D.l2TO (e2.extBut _ _ D.l2i1 (e1.extBut _ _ D.l2z e))) hy λg4 er e4 ⟨oe,m8,vR⟩=>?_);have z4:IsZip g4 z TI TO .ellipsis:=e4 _ _ D.i2z.symm (e3.extBut _ _ D.TOz.symm (e2.extBut _ _ D.i1z.symm z1));have nz:er≠z:=λv=>by subst v;rw[z4]at m8;cases m8;simp at vR
  refine wU z4 (by simp) λg5 _ e5=>q g5 er (λc o c1 c2 c3 c4 v=>e5.extBut _ _ c1 (e4 _ _ c4 (e3.extBut _ _ c2 (e2.extBut _ _ c3 (e1.extBut _ _ c1 v))))) ⟨oe,e5.extBut _ _ nz m8,vR⟩
abbrev xH(b1:Bool)(h:Heap)(l1:Addr):Heap:=h.push {cls:=.type (pD b1),data:=.fields #[.ref l1,.int 0 0]}
abbrev xG(b1 b2:Bool)(h:Heap)(l1 l2:Addr):Heap:=(xH b1 h l1).push {cls:=.type (pD b2),data:=.fields #[.ref l2,.int 0 0]}
abbrev xF(b1 b2:Bool)(h:Heap)(l1 l2:Addr):Heap:=(xG b1 b2 h l1 l2).push {cls:=.type "tuple",data:=.seq #[.ref h.objs.size,.ref (xH b1 h l1).objs.size]}
abbrev xE(b1 b2:Bool)(h:Heap)(l1 l2:Addr):Heap:=(xF b1 b2 h l1 l2).push {cls:=.type "tuple",data:=.seq #[.none,.none]}
abbrev rO(b1 b2:Bool)(h:Heap)(l1 l2:Addr):Heap:=(xE b1 b2 h l1 l2).push {cls:=.type "zip",data:=.fields #[.none,.bool false,.bool false,.ref (xG b1 b2 h l1 l2).objs.size,.ref (xF b1 b2 h l1 l2).objs.size]}
theorem Q6(b1 b2:Bool)(l1 l2:Addr)(xs ys:Array Value):Meets (Builtin.«zip.__new__» ⟨[.type "zip",.ref l1,.ref l2],[]⟩) (λ_ R s=>fP b1 s.heap l1 xs/\fP b2 s.heap l2 ys/\R (.ok (.ret (.ref (xE b1 b2 s.heap l1 l2).objs.size))) {s with heap:=rO b1 b2 s.heap l1 l2}):=.of_wp λprog w A R s h=>by
 obtain⟨hp,gg,d,tk,os⟩:=s;obtain⟨jR,mh,h⟩:=h;have Ef:=sub_zip;have hL1:fP b1 (Shared.heap ⟨hp,gg,d,tk,os⟩) l1 xs:=jR;have EM:fP b2 (Shared.heap ⟨hp.push {cls:=.type (pD b1),data:=.fields #[.ref l1,.int 0 0]},gg,d,tk,os⟩) l2 ys:=mh.to λo e=>bL _ e
 wp_walk using sW hL1,sW EM;exact⟨_,Z,h⟩
theorem Q9{b1 b2:Bool}{l1 l2:Addr}{xs ys:Array Value}{Q:Value->ae->Prop}(jR:fP b1 s.heap l1 xs)(mh:fP b2 s.heap l2 ys) (q:∀g,Zp b1 b2 g (s.heap.objs.size+4) (s.heap.objs.size+2) (s.heap.objs.size+3) s.heap.objs.size (s.heap.objs.size+1) l1 l2 .none 0->(∀c o,s.heap.get? c=some o->g.get? c=some o)->Q (.ref (s.heap.objs.size+4)) {s with heap:=g}): wpAny (model prog w) A (call (.type "zip") [.ref l1,.ref l2]) Q E s:=by
 refine callType_new PySem.F.called_zip az (PySem.F.typeCall_zip_2 _ _) (PySem.F.newCall_zip_2 _ _) (λobj=>PySem.F.args_object_init_3 obj _ _) PySem.F.entry_zip_new (Q6 b1 b2 l1 l2 xs ys) ⟨jR,mh,?_⟩;have z1:(xH b1 s.heap l1).objs.size=s.heap.objs.size+1:=mR ..;have z2:(xG b1 b2 s.heap l1 l2).objs.size=s.heap.objs.size+2:=by rw[mR,z1]
 have z3:(xF b1 b2 s.heap l1 l2).objs.size=s.heap.objs.size+3:=by rw[mR,z2]
 have z4:(xE b1 b2 s.heap l1 l2).objs.size=s.heap.objs.size+4:=by rw[mR,z3]
 have g5:(rO b1 b2 s.heap l1 l2).get? (xE b1 b2 s.heap l1 l2).objs.size=some _:=dw _ rfl;have g4:(rO b1 b2 s.heap l1 l2).get? (xF b1 b2 s.heap l1 l2).objs.size=some _:=bL _ (dw _ Z);have g3:(rO b1 b2 s.heap l1 l2).get? (xG b1 b2 s.heap l1 l2).objs.size=some _:=bL _ (bL _ (dw _ Z));have g2:(rO b1 b2 s.heap l1 l2).get? (xH b1 s.heap l1).objs.size=some _:=bL _ (bL _ (bL _ (dw _ Z)));have g1:(rO b1 b2 s.heap l1 l2).get? s.heap.objs.size=some _:=bL _ (bL _ (bL _ (bL _ (dw _ Z))));show _/\_;rw[z2,z3,z4]at g5;rw[z1,z2]at g3;rw[z3]at g4;rw[z1]at g2;rw[z4];refine⟨⟨_,g5,Z⟩,q _ ⟨g5,g3,⟨_,_,g4⟩,?_,?_⟩ λc o e=>bL _ (bL _ (bL _ (bL _ (bL _ e))))⟩
 ·cases b1<;>exact⟨_,g1,rfl,rfl⟩
 ·cases b2<;>exact⟨_,g2,rfl,rfl⟩
end
section
variable {X:Cx}{ak:List (Addr×Obj)}{O:St}{H:Hp}{s:ae}{h':Heap}
theorem Inv.uD{t':Nat}{fp:List Addr}(I:Inv X ak O H s)(k:∀b o,b∉fp->s.heap.get? b=some o->h'.get? b=some o)(hf:∀b∈fp,gH X ak H b):Inv X ak O H {s with heap:=h',toks:=t'}:=by
 have vo:∀b u,H b=some u->b∉fp:=λb u e z=>by rw[(hf b z).1]at e;cases e
 have hL:X.env.locals∉fp:=λz=>(hf _ z).2.1 rfl;refine I.step (g':=s.gens) (d':=s.drawn) (ch:=fp) (λb hb=>?_) (λb o _ _ hc e _=>k b o hc e) (λb o _ _ hc e _=>⟨o.slots,k b o hc e⟩) (λ_ _ _ _ n=>n) (λb o hc e=>⟨o,k b o hc e⟩) (λ_ _ e=>e) (λ_ _ _ e=>e) (λb ps e=>⟨#[],by rw[e];simp⟩) (λm hm=>?_) (λb u e=>?_) I.bare
 ·obtain⟨f0,f1,f2,f3,f4,f5⟩:=hf b hb
  exact⟨f3,f1,f4,f5⟩
 ·obtain⟨o,es,ep,ho,r⟩:=hm
  exact⟨o,es,ep,k _ o hL ho,r⟩
 ·refine(I.aV b u e).jE (λc v hc q=>k c v ?_ q) (λ_ q=>q) λ_ _ q=>q
  rcases hc with z|z
  ·rw[z];exact vo b u e
  ·exact vo c _ z
end
def dZ(b:Bool)(K:aa)(H:Hp)(a:Addr)(xs:List V):Prop:=match b with|true=>aK K H a xs|false=>aQ K H a xs
theorem dZ.get{X:Cx}{ak:List (Addr×Obj)}{O:St}{H:Hp}{s:ae}{b:Bool}{a:Addr}{xs:List V}(I:Inv X ak O H s)(h:dZ b X.K H a xs):∃its:List Value,Vals xs its/\fP b s.heap a its.toArray:=by
 cases b
 ·obtain⟨its,r,p,_⟩:=I.tuple h;exact⟨its,r,p⟩
 ·obtain⟨its,r,p,_⟩:=I.list h;exact⟨its,r,p.isList⟩
theorem dZ.inj{X:Cx}{ak:List (Addr×Obj)}{O:St}{H:Hp}{s:ae}{b:Bool}{a:Addr}{xs ys:List V}(I:Inv X ak O H s)(h:dZ b X.K H a xs)(g:dZ b X.K H a ys):xs=ys:=by
 cases b
 ·exact I.Hu h g
 ·exact I.M7 h g
def rj(K:aa)(b1 b2:Bool)(l1 l2:Addr):It:=⟨λi H=>∃xs ys x y,dZ b1 K H l1 xs/\dZ b2 K H l2 ys/\xs[i]? =some x/\ys[i]? =some y,λi H v H'=>∃T x y,v= .ref T/\(∀xs,dZ b1 K H l1 xs->xs[i]? =some x)/\(∀ys,dZ b2 K H l2 ys->ys[i]? =some y)/\Nw H H' T (.tup [x,y]),λi H=>∃xs ys,dZ b1 K H l1 xs/\dZ b2 K H l2 ys/\(xs.length<=i\/ys.length<=i)⟩
theorem QG{P:af}{w:World}{K:aa}{elts:List Expr}{kt:Nat}{pos:Pos}{b1 b2:Bool}{z TI TO i1 i2 l1 l2:Addr}(D:ZipApart z TI TO i1 i2 l1 l2): Turn P w K (.Tuple elts kt pos) (rj K b1 b2 l1 l2) [z,TI,TO,i1,i2] z (λi h=>Zp b1 b2 h z TI TO i1 i2 l1 l2 .none i) where
 mem:=by simp
 obj:=λi h st b hb=>by
  obtain⟨hz,jT,⟨a,c,kS⟩,h1,h2⟩:=st;simp only[bZ,dX,gs]at hb;rcases hb with rfl|rfl|rfl|rfl|rfl
  ·exact⟨_,hz,λv e=>by cases e⟩
  ·exact⟨_,jT,λv e=>by cases e⟩
  ·exact⟨_,kS,λv e=>by cases e⟩
  ·obtain⟨o,e,_,n⟩:=h1.ob;exact⟨o,e,n⟩
  ·obtain⟨o,e,_,n⟩:=h2.ob;exact⟨o,e,n⟩
 keep:=λi h h' st k=>by obtain⟨hz,jT,⟨a,c,kS⟩,h1,h2⟩:=st;exact⟨k z (by simp) _ hz,k TI (by simp) _ jT,⟨a,c,k TO (by simp) _ kS⟩,h1.to λo e=>k i1 (by simp) o e,h2.to λo e=>k i2 (by simp) o e⟩
 item:=by
  intro X hP hw hK hc i ak s O H E I hf st hg;subst hP hw hK;obtain⟨xs,ys,x,y,q1,q2,e1,e2⟩:=hg;obtain⟨E3,r1,p1⟩:=q1.get I;obtain⟨jq,r2,p2⟩:=q2.get I;obtain⟨u1,Ed,kg⟩:=r1.get e1;obtain⟨u2,Zt,uV⟩:=r2.get e2;have hT:s.TypeIs (.ref z) "zip":=⟨_,st.zz,Z⟩;unfold pyNext;refine aB (Ad (ud (name:=Str.ofString "__next__") hT GJ (uc GJ hT PySem.F.entry_zip_next (Q7 D st p1 p2 (x:=u1) (y:=u2) (by simpa using Ed) (by simpa using Zt) λg zg tg kp=>bB ?_) (PySem.F.args_zip_next_1 _))));refine⟨_,Z,?_⟩;refine wpAny_letOwnedTupleGo_zip zg.zz λg' Q5 sb=>?_;have hs:=sb.extBut;have Ay:z<s.heap.objs.size:=bP st.zz;have nw:Nw H (upd H s.heap.objs.size (.tup [x,y])) s.heap.objs.size (.tup [x,y]):=.of (I.aV.fresh (bA _));have I1:Inv X ak O (upd H s.heap.objs.size (.tup [x,y])) {s with heap:=s.heap.push {cls:=.type "tuple",data:=.seq #[u1,u2]}}:=I.laid (t':=s.toks) (λb ob q=>bL _ q) (bA _) ⟨by show 2<=sizeLine;decide,[u1,u2],.cons kg (.cons uV .nil),⟨_,dw _ Z,Z,_,Z⟩⟩;have DS:∀b∈[z,TI,TO,i1,i2],b<s.heap.objs.size:=λb hb=>by
   simp only[bZ,dX,gs]at hb;obtain⟨hz,jT,⟨a,c,kS⟩,h1,h2⟩:=st;rcases hb with rfl|rfl|rfl|rfl|rfl
   ·exact bP hz
   ·exact bP jT
   ·exact bP kS
   ·obtain⟨o,e,_⟩:=h1.ob;exact bP e
   ·obtain⟨o,e,_⟩:=h2.ob;exact bP e
  have hn:∀b∈[z,TI,TO,i1,i2],upd H s.heap.objs.size (.tup [x,y]) b=none:=λb hb=>by rw[aL (dh (DS b hb))];exact(hf b hb).1
  have I2:Inv X ak O (upd H s.heap.objs.size (.tup [x,y])) {s with heap:=g'}:=Inv.uD (s:={s with heap:=s.heap.push {cls:=.type "tuple",data:=.seq #[u1,u2]}}) (t':=s.toks) (fp:=[z,TI,TO,i1,i2]) I1 (λb o hb e=>by
   have e:(s.heap.push {cls:=.type "tuple",data:=.seq #[u1,u2]}).get? b=some o:=e;have nz:b≠z:=λq=>hb (by simp[q]);rcases PZ e with⟨EE,rfl⟩|e'
   ·subst EE
    exact hs _ _ nz tg
   ·exact hs _ _ nz (kp b o nz (λq=>hb (by simp[q])) (λq=>hb (by simp[q])) (λq=>hb (by simp[q])) e')) (λb hb=>by obtain⟨f0,f1,f2,f3,f4,f5⟩:=hf b hb;exact⟨hn b hb,f1,f2,f3,f4,f5⟩);refine⟨.ref s.heap.objs.size,_,I2,Z,⟨s.heap.objs.size,x,y,Z,λzs hz=>?_,λzs hz=>?_,nw⟩,?_,hn⟩
  ·rw[dZ.inj I hz q1];exact e1
  ·rw[dZ.inj I hz q2];exact e2
  ·obtain⟨_,jT,⟨a,c,kS⟩,h1,h2⟩:=zg
   exact⟨Q5,hs _ _ D.TIz jT,⟨a,c,hs _ _ D.TOz kS⟩,h1.to λo e=>hs _ o D.i1z e,h2.to λo e=>hs _ o D.i2z e⟩
 done:=by intro X hP hw hK hc i ak s O H E I hf st hg;subst hP hw hK;obtain⟨xs,ys,q1,q2,nN⟩:=hg;obtain⟨E3,r1,p1⟩:=q1.get I;obtain⟨jq,r2,p2⟩:=q2.get I;have hT:s.TypeIs (.ref z) "zip":=⟨_,st.zz,Z⟩;have l1:=r1.length;have l2:=r2.length;unfold pyNext;refine aB (Ad (ud (name:=Str.ofString "__next__") hT GJ (uc GJ hT PySem.F.entry_zip_next (Q8 (I.ok.hd hc) D st p1 p2 (nN.imp (λh=>by simp;lia) λh=>by simp;lia) λg e kp he=>?_) (PySem.F.args_zip_next_1 _))));obtain⟨o,ho,tJ⟩:=he;refine aB (wpAny_isInstance (T:="StopIteration") (b:=true) ⟨o,ho,tJ⟩ isSubtype_stop (bB ⟨Z,?_⟩));exact I.uD (t':=s.toks) (fp:=[z,TI,TO,i1,i2]) (λb o hb e=>kp b o (λq=>hb (by simp[q])) (λq=>hb (by simp[q])) (λq=>hb (by simp[q])) (λq=>hb (by simp[q])) e) hf
 self:=λ_ _ _ _ _ st h=>wpAny_pyIter_zip st.zz h
inductive a7s(K:aa)(b1:Bool)(b2:Bool)(R:It->Hp->Prop)(vs:List V)(H1:Hp):Prop |mk (l1:_)(l2:_)(h0:vs=[.ref l1,.ref l2])(h1:(∃xs,dZ b1 K H1 l1 xs))(h2:(∃ys,dZ b2 K H1 l2 ys))(h3:R (rj K b1 b2 l1 l2) H1)
def Zf(K:aa)(b1 b2:Bool)(ta:TA):TI:=λO H R=>ta O H λvs H1=>a7s K b1 b2 R vs H1
theorem sM(K:aa){X:Cx}(hK:X.K=K)(b1 b2:Bool){elts:List Expr}{kt:Nat}{mT:Pos}{a b:Expr}{ta:TA}{p pos:Pos}(hg:Gl X "zip")(hm:X.mg "zip"=none)(ha:PA X [a,b] ta)(hs:autoParam (starEach [a,b] X.env=[(false,eval a X.env),(false,eval b X.env)]) r8_._auto_1)(jc:autoParam (starEach [b] X.env=[(false,eval b X.env)]) r8_._auto_1): PI X (.Tuple elts kt mT) (.Call (.Name "zip" p) [a,b] [] pos) (Zf K b1 b2 ta):=by
 subst hK;intro ak s O H R I h;refine Call_ (nC I hg hm PyProof.Rows.boot_zip (uk (aR (ha pos ak s O H _ I h) λus s1 ⟨vs,H1,I1,r1,q1⟩=>?_) (by rw[hs,jc]) (by rw[jc];rfl)));obtain⟨l1,l2,e,⟨xs,h1⟩,⟨ys,h2⟩,q⟩:=q1;subst e;obtain⟨u1,u2,rfl,kg,uV⟩:=vals2 r1;cases(show u1=Value.ref l1 from kg);cases(show u2=Value.ref l2 from uV);obtain⟨E3,v1,p1⟩:=h1.get I1;obtain⟨jq,v2,p2⟩:=h2.get I1;have a1:l1<s1.heap.objs.size:=by cases b1<;>(obtain⟨o,e,_⟩:=p1;exact bP e)
 have a2:l2<s1.heap.objs.size:=by cases b2<;>(obtain⟨o,e,_⟩:=p2;exact bP e)
 refine Q9 p1 p2 λg zg kp=>wpAny_pyIter_zip zg.zz ?_;refine⟨_,_,_,_,H1,Z,I1.kept (t':=s1.toks) kp,QG (zipApart_new a1 a2),zg,λc hc=>?_,q⟩;have hle:s1.heap.objs.size<=c:=by simp only[bZ,dX,gs]at hc;rcases hc with rfl|rfl|rfl|rfl|rfl<;>first|exact bA _|exact Nat.le_add_right _ _
 exact I1.nQ hle (I1.aV.fresh hle)
theorem dZ.go{b:Bool}{K:aa}{H H':Hp}{a:Addr}{xs:List V}(s:aA H H')(h:dZ b K H a xs):dZ b K H' a xs:=by
 cases b
 ·exact aQ.go s h
 ·exact aK.go s h
theorem a4q{K:aa}{b1 b2:Bool}{l1 l2:Addr}{xs ys:List V}{bs:List Bool}{te:TE}{Q:VK}{D:Addr}{H H0:Hp}{n:Nat}(rest:St)(hn:n=2)(h1:dZ b1 K H l1 xs)(h2:dZ b2 K H l2 ys)(nw:Nw H H0 D (.lst [])) (hl:min xs.length ys.length=bs.length)(hz:bs.length<=1000) (hs:∀(i:Nat)(x y:V)(b:Bool)(H2:Hp)(Q':VK),xs[i]? =some x->ys[i]? =some y->bs[i]? =some b->aA H H2->(∀H3,aA H2 H3->Q' (.bl b) H3)->te (some x::some y::rest) H2 Q') (hq:∀H',aA H H'->H' D=some (.lst (bs.map V.bl))->Q (.ref D) H'):jz (rj K b1 b2 l1 l2) (zw K n (vX (gj 0) (vX (gj 1) F9))) jl te Q D (none::none::rest) H0:=by
 subst hn;have hD:=nw.no;refine qS bs.length (λi O H2=>aA H H2/\H2 D=some (.lst ((bs.take i).map V.bl))/\∃v v',O=v::v'::rest) ?_ ?_ ?_
 ·exact⟨nw.same,nw.at',none,none,Z⟩
 ·rintro i O H2 hi ⟨s2,d2,v,v',rfl⟩
  have hx:i<xs.length:=by lia
  have hy:i<ys.length:=by lia
  have ex:=cH hx;have ey:=cH hy;have eb:=cH hi;refine⟨⟨xs,ys,_,_,h1.go s2,h2.go s2,ex,ey⟩,λy' H3 qI=>?_⟩;obtain⟨T,x0,y0,rfl,k1,k2,n3⟩:=qI;have e1:=k1 _ (h1.go s2);have e2:=k2 _ (h2.go s2);rw[ex]at e1;rw[ey]at e2;cases e1;cases e2;refine⟨T,_,Z,aQ.of n3.at',Z,_,_,Z,_,_,Z,Z,?_⟩;refine yes (ba ?_);refine hs i _ _ _ _ _ ex ey eb (s2.trans n3.same) λH4 s4=>?_;refine⟨_,s4 _ _ (n3.same _ _ d2),?_,bs.length-(i+1),aw,Z,aw,λb o e=>?_,?_,_,_,Z⟩
  ·rw[bR,rL]
   have:(1000:Nat)<sizeLine:=by decide
   lia
  ·rw[aL (eH e hD)];exact s4 b o (n3.same b o (s2 b o e))
  ·rw[bp,ur,eb,lH];rfl
 ·rintro O H2 ⟨s2,d2,v,v',rfl⟩
  refine⟨⟨xs,ys,h1.go s2,h2.go s2,aw⟩,hq H2 s2 ?_⟩;rw[d2,xi]
theorem eQ.there{P:af}{w:World}{H:Hp}{h:Heap}{a:Addr}{o:HO}(x:eQ P w H h a o):∃ob,h.get? a=some ob:=by induction o with |lst xs=>obtain⟨_,_,_,_,e⟩:=x;exact⟨_,e⟩ |tup xs=>obtain⟨_,_,_,ob,e,_⟩:=x;exact⟨ob,e⟩ |dK dj=>obtain⟨_,_,_,_,ob,_,_,e,_⟩:=x;exact⟨ob,e⟩ |dT dj=>obtain⟨_,_,_,_,ob,_,_,e,_⟩:=x;exact⟨ob,e⟩ |set S n=>obtain⟨ob,_,_,_,e,_⟩:=x;exact⟨ob,e⟩ |ins C dx fs=>obtain⟨_,_,_,e,_⟩:=x;exact⟨_,e⟩ |own y=>exact x |xd fs=>obtain⟨_,⟨ob,_,_,e,_⟩,_⟩:=x;exact⟨ob,e⟩ |qe lo hi=>obtain⟨_,_,_,e⟩:=x;exact⟨_,e⟩ |kY ob u=>exact⟨_,x.1⟩ |mU ps=>exact⟨_,x⟩ |met f y=>exact⟨_,x⟩ |ext φ=>exact x.2.1
structure Fl(P:af)(w:World)(outer:List Env)(H:Hp)(h₁:Heap)(ex:Addr)(H':Hp)(B h:Heap):Prop where
 un:Un (cS outer) [] H H' h₁ h
 aV:dv P w H' h
 k1:∀b o,h₁.get? b=some o->H b=none->b∉cS outer->B.get? b=some o
 k2:∀b o,H' b=some o->∃ob,B.get? b=some ob
 k3:∀b o,h₁.get? b=some o->b∉cS outer->∃ob,B.get? b=some ob
 fr:∀b∈cS outer,H' b=none
 nw:h₁.get? ex=none
 ne:H' ex=none
theorem Fl.step{P:af}{w:World}{outer:List Env}{H H':Hp}{h₁ B h h':Heap}{ex:Addr}{au:Heap}(F:Fl P w outer H h₁ ex H' B h)(st:B.StaysIn h)(gB:B.StaysIn h')(up:h.UpToSlots h')(ff:h.FunFrames au outer):Fl P w outer H h₁ ex H' B h':=by
 have slot:∀b o,h₁.get? b=some o->H b=none->b∈cS outer->∃sl,h'.get? b=some {o with slots:=sl}:=λb o e n hb=>by obtain⟨sl,e1⟩:=F.un.slot b o e n hb (by simp);obtain⟨_,o2,e2,hd⟩:=ff.mem hb;rw[e1]at e2;cases e2;obtain⟨B7,e3⟩:=up b _ e1 (λvs=>hd vs);exact⟨B7,e3⟩
 refine⟨⟨λb o e n hb _=>gB b o (F.k1 b o e n hb),λb o e n hb _=>slot b o e n hb,F.un.free,λb o e hx=>?_,F.un.hU,F.un.gY,F.un.hW⟩,λb u e=>?_,F.k1,F.k2,F.k3,F.fr,F.nw,F.ne⟩
 ·by_cases hb:b∈cS outer
  ·obtain⟨_,o2,e2,hd⟩:=ff.mem hb
   obtain⟨sl,e3⟩:=up b o2 e2 hd;exact⟨_,e3⟩
  ·obtain⟨ob,e1⟩:=F.k3 b o e hb
   exact⟨ob,gB b ob e1⟩
 ·refine(F.aV b u e).jE (λc v hc q=>?_) (λ_ q=>q) λ_ _ q=>q
  have Zc:∃ob,B.get? c=some ob:=by
   rcases hc with z|z
   ·rw[z];exact F.k2 b u e
   ·exact F.k2 c _ z
  obtain⟨ob,e1⟩:=Zc;have e2:=st c ob e1;rw[q]at e2;cases e2;exact gB c _ e1
section
variable {P:af}{w:World}{K:aa}{mg:bc}{au:Heap}{N:List Str}{qual:Str}{scope:Scope}{f:Addr}{cd:Value}{A:ai}{outer:List Env}{s:ae}{H:Hp}{E:XK}{ak:List (Addr×Obj)}{O:St}{H1:Hp}{s1:ae}{h2:Heap}{ex:Addr}{cls:Value}{vs:List Value}
end
structure Exc(K:aa)(mg:bc)(x:Str)(C:Addr)(dJ:List Value)(newId:String):Prop where
 at':mg x=some (.ref C)
 ok:PySem.W.excIn K C dJ newId=true
theorem Exc.own{K:aa}{mg:bc}{x:Str}{C:Addr}{dJ:List Value}{newId:String}{h:Heap}(e:Exc K mg x C dJ newId)(X:K.In h):OwnCls x C dJ newId mg h:=by
 refine⟨e.at',?_⟩;have q:=e.ok;unfold PySem.W.excIn at q;split at q
 ·rename_i dd cd sl ho
  split at q
  ·rename_i D2 bl a0 a1 a2 a3 nn a5 hm hs
   simp only[cP,d6,Hg]at q;obtain⟨⟨⟨⟨⟨r1,r2⟩,vO⟩,ht⟩,aV⟩,qL⟩:=q;subst r1 r2;obtain⟨c1,c2,c3,c4,c5,c6,c7,c8,c9,c10,c11⟩:=cd;dsimp only at hm vO aV qL;subst hm vO;obtain⟨l⟩:=sl;simp only at hs;subst hs;exact⟨bl,c4,c1,c5,c2,c6,c7,c8,c9,c10,dd,a0,a1,a2,a3,a5,_,X _ _ ho,.of_isNs (PySem.W.isNs_of_in X aV),PySem.W.nsMap_none_of_in X aV qL,PySem.W.tail_of_in X ht⟩
  ·cases q
 ·cases q
section
variable {X:Cx}{x:Str}{C:Addr}{dJ:List Value}{newId oQ B:String}{e:Expr}{t:TA}{np cg pos:Pos}
def Rb(E:XK)(cls:Value)(t:TA):TS:=λ_ O H=>t O H λvs H1=>vs.length<=sizeLine/\E cls none H1
theorem jG{E:XK}(hx:∀ak O H s h2 ex vs,Inv X ak O H s->Heap.MadeExcOf s.heap h2 ex (.ref C) vs->E (.ref C) none H->X.xe (.ref ex) {s with heap:=h2})(EC:Exc X.K X.mg x C dJ newId)(FB:ExcBaseFacts B newId oQ dJ)(hh:X.A.handled=none)(hg:Gl X x)(ha:PA X [e] t) (he:autoParam (starEach [e] X.env=[(false,eval e X.env)]) r8_._auto_1)(hd:autoParam ((x==("__debug__":Str))=false) q8_._auto_1): PS X (.Raise (some (.Call (.Name x np) [e] [] cg)) none pos) (Rb E (.ref C) t):=by intro ak s O H D I h;obtain⟨tl,Nn,nm,q,bs,hdct,sn,sub,ab,col,dd,k0,k1,k2,k3,k5,mN,hC,hN,qL,T⟩:=(EC.own I.ok.mod.jN).obj;refine wpAny_Raise_call_subT (C:=C) (nm:=nm) (q:=q) (N:=Nn) (bs:=bs) (bm:=tl) (hdct:=hdct) (sn:=sn) (sub:=sub) (ab:=ab) (col:=col) (dd:=dd) (k0:=k0) (k1:=k1) (k2:=k2) (k3:=k3) (k5:=k5) FB (mN:=mN) (T.hasType FB.hasBase) hh (by rw[he];rfl) qL (m5 I hg EC.at' ⟨Z,?_⟩ hd);have hA:=ha cg ak s O H _ I h;rw[he]at hA⊢;refine Hf (aR hA λus s2 ⟨vs,H1,I1,r1,z,w1⟩=>⟨Z,by rw[<-r1.length];exact z,I1.bk _ _ hC,hN.keeps I1.bk,T.keeps I1.bk,λh' ex hm=>hx ak O H1 s2 h' ex us I1 hm w1⟩)
end
section
variable {M:Model}{A:ai}{Ex:Value->ae->Prop}
theorem a3D{h:Heap}{g:Array GenState}{d:Drawn}{tk:Nat}{os:OsState}{e:Addr}{oe:Obj}{Q:Bool->ae->Prop}{C D N N':Addr}{nm LA q q':Str}{bs Ot bm G1:List Value}{hdct MQ:Bool}{sn IV:List Str}{sub HN:List Value}{ab ON:Bool}{col Og:Option Bool}{dd O8:Option Addr}{k0 k1 k2 k3 k5 j0 j1 j2 j3 j5:Option Value}{newId Xm:String} (hC:h.get? C=some (excClassObj nm q C N bs bm hdct sn sub ab col dd k0 k1 k2 k3 k5 newId))(hD:h.get? D=some (excClassObj LA q' D N' Ot G1 MQ IV HN ON Og O8 j0 j1 j2 j3 j5 Xm)) (he:h.get? e=some oe)(vP:oe.cls= .ref C)(hb:G1.contains (.type "BaseException")=true)(hs:(Value.ref C::bm).contains (.ref D)=true) (hq:Q true ⟨h,g,d,tk,os⟩):wpAny M A (excMatches (.ref e) (.ref D)) Q Ex ⟨h,g,d,tk,os⟩:=by
 have hcB:(Value.ref D::G1).contains (.type "BaseException")=true:=by rw[PV,hb,Bool.or_true]
 have f:=tc_notTuple;unfold excMatches
 repeat (first|(with_reducible refine rA he ?_;rw[vP])|with_reducible refine rA hD ?_|(with_reducible refine GC hD ?_;rw[hcB])|(with_reducible refine GC hC ?_;rw[hs])|with_reducible refine rA hC ?_|wp_step)
 exact hq
end
section
variable {X:Cx}{k:Nat}{x:Str}{p pos:Pos}{e:Expr}{es:List Expr}{t:TA}{sp:Sp}
end
abbrev Cx.hand(X:Cx)(ex:Addr):Cx:={X with A:=X.A.mark (some (.ref ex)),calm:=false,xe:=λ_ _=>False}
section
variable {X:Cx}{ak:List (Addr×Obj)}{O:St}{H:Hp}{s:ae}
theorem Inv.hand(I:Inv X ak O H s)(ex:Addr):Inv (X.hand ex) ak O H s:=⟨⟨I.ok.mod,I.ok.kind,I.ok.glob,I.ok.blt,I.ok.above,I.ok.inj,I.ok.has,I.ok.pG,λh=>(cI h).elim,I.ok.frames,I.ok.pX,I.ok.wc,I.ok.bs,I.ok.jw,I.ok.oJ,I.ok.mx,I.ok.iu,I.ok.kZ⟩,I.os,I.bare,I.au,I.loc,I.cell,I.free,I.iQ,I.pin,I.aV,I.len⟩
theorem Inv.back{ex:Addr}(ok:X.Ok)(I:Inv (X.hand ex) ak O H s):Inv X ak O H s:=⟨ok,I.os,I.bare,I.au,I.loc,I.cell,I.free,I.iQ,I.pin,I.aV,I.len⟩
theorem QA{M:Model}{A:ai}{E:Value->ae->Prop}{i:Nat}{x:Str}{v:V}{pos:Pos}{Q:Unit->ae->Prop}(I:Inv X ak O H s)(hN:X.N.Nodup)(hi:X.N[i]? =some x)(hk:X.env.kindOf x=some .local)(hs:X.env.scope.names.lookup x=some .local) (hv:O[i]? =some (some v))(h:∀s',Inv X ak (O.set i none) H s'->Q () s'):wpAny M A (unbindBehindTheSuite X.env x pos) Q E s:=by
 obtain⟨m,hn,hl⟩:=id I.loc;have vP:(X.env.scope.kind== .class||(X.env.scope.kind== .module&&X.env.locals !=X.env.globals))=false:=by rw[I.ok.kind];rfl
 have zk:i<O.length:=by rw[I.len];exact(eU.mp hi).1
 have lj:=I.lj;obtain⟨u,r,look⟩:=hl i x v hi hv (.inl hs);have hm:m x=some u:=by
  rcases look with⟨_,e⟩|⟨k,_⟩
  ·exact e
  ·rcases k with k|k<;>(rw[hk]at k;cases k)
 unfold unbindBehindTheSuite;refine Ab (wpAny_unbindName_local hk hn hm vP λh' u' Eo kJ=>?_);obtain⟨oL,_,_,MF,_⟩:=id hn;have tr:dv X.prog X.w H h':=λb ob e=>by
  refine(I.aV b ob e).jE (λc w' hc q=>(kJ.2 c ?_).trans q) (λ_ q=>q) λ_ _ q=>q;rintro rfl;rcases hc with rfl|hc
  ·rw[I.free]at e;cases e
  ·rw[I.free]at hc;cases hc
 have lt:∀b o,X.s₀.heap.get? b=some o->b≠X.env.locals:=λb o e=>dh (fF (bP e) I.ok.above);refine h _ ⟨I.ok,I.os,I.bare,⟨λb o e n hb hx=>(kJ.2 b (lt b o e)).trans (I.au.keep b o e n hb hx),λb o e n hb hx=>?_,I.au.free,λb o e hx=>?_,I.au.hU,I.au.gY,I.au.hW⟩,⟨_,Eo,λj y v' e1 e2 e3=>?_⟩,λy c e=>?_,I.free,I.iQ,λp hp=>?_,tr,by simpa using I.len⟩
 ·obtain⟨sl,e1⟩:=I.au.slot b o e n hb hx
  exact⟨sl,(kJ.2 b (lt b o e)).trans e1⟩
 ·obtain⟨o',e1⟩:=I.au.there b o e hx
  exact⟨o',(kJ.2 b (lt b o e)).trans e1⟩
 ·by_cases hj:j=i
  ·subst hj
   rw[GZ zk]at e2;cases e2
  ·rw[PM (iU hj)]at e2
   obtain⟨u2,r2,q⟩:=hl j y v' e1 e2 e3;refine⟨u2,r2,?_⟩;rcases q with⟨k,e⟩|⟨k,c,e,z⟩
   ·have:y≠x:=λe=>hj (DA hN e1 (e▸hi))
    exact .inl ⟨k,by simp[this,e]⟩
   ·exact .inr ⟨k,c,e,z.sameBut kJ (lj y c e)⟩
 ·obtain⟨w',z⟩:=I.cell y c e
  exact⟨w',z.sameBut kJ (lj y c e)⟩
 ·obtain⟨e,n,ne,nf,d⟩:=I.pin p hp
  exact⟨(kJ.2 p.1 ne).trans e,n,ne,nf,d⟩
end
def wJ(X:Cx)(st:List Stmt)(t:TS):Prop:=∀(s:ae)(O:St)(H:Hp)(D:Ends),Inv X [] O H s->t D O H->wpAny (model X.prog X.w) X.A (execs st X.env) (SP X [] D) X.xe s
def OU(X:Cx)(st:Stmt)(t:TS):Prop:=∀(s:ae)(O:St)(H:Hp)(D:Ends),Inv X [] O H s->t D O H->wpAny (model X.prog X.w) X.A (exec st X.env) (SP X [] D) X.xe s
theorem Inv.a4W{X:Cx}{ak:List (Addr×Obj)}{O:St}{H:Hp}{s:ae}(I:Inv X ak O H s):Inv X [] O H s:=⟨I.ok,I.os,I.bare,I.au,I.loc,I.cell,I.free,I.iQ,λp hp=>I.pin p (GU _ (by simpa using hp)),I.aV,I.len⟩
theorem a2s{CX:iT}{P:af}{w:World}{K:aa}{mg:bc}{au:Heap}{k:Nat}{f:Addr}{name qual:Str}{params:Arguments}{body:List Stmt}{scope:Scope}{dV kV doc pm aE ct oc:Value}{an od:Option Addr} {eG:Array (Option Value)}{N ps:List Str}{sp:Sp}(lk:K.lookup f=some ⟨oc,od,.func (PySem.W.fnOf name qual params body scope dV kV doc pm an aE ct),eG⟩)(dY:PySem.W.codeIn K aE qual=true)(S:bj N ps scope) (len:∀vs H Q E,sp vs H Q E->vs.length=ps.length) (fb:∀(A:ai)(outer:List Env)(s:ae)(H:Hp)(vs:List V)(Q:VK)(E:XK),bU k (A.deeper (envOfC qual scope s.heap.objs.size f aE))->sp vs H Q E->∃t,wJ (eX CX P w K mg au N qual scope f aE A outer s H E) body t/\t {nx:=λ_ H'=>Q .aY H',rt:=Q} (start N vs) H): dS P w K mg au CX (k+1) f (PySem.W.fnOf name qual params body scope dV kV doc pm an aE ct) ps sp:=by
 refine⟨len,λA outer s H args us vs Q E hr e0 hb r ft=>?_⟩;have hl:=len _ _ _ _ ft;have KX:K.In s.heap:=e0.mod.jN.keeps λb o e=>(e0.bs b o e).1;have lim:s.heap.NoLimit:=e0.mod.nolimit.keeps λb o e=>(e0.bs b o e).1;have je:∀y∈ps.zip us,scope.names.lookup y.1=some .local\/(scope.names.lookup y.1=some .cell/\((cellsFrom (s.heap.objs.size+1) scope.names []).lookup y.1).isSome=true):=λ⟨n,v⟩ hy=>by
  rcases S.par n (uu hy).1 with q|q
  ·exact .inl q
  ·exact .inr ⟨q,GI _ _ _ (.inl q)⟩
 refine Pj hr.depth (KX _ _ lk) Z S.co S.gen Z (Pw KX dY) (hb _ _ _ _ ?_);refine Pa S.kind je λenv he s1 x=>?_;subst he;refine⟨lim.keeps x.toInCall.keep,codeAny_func ?_⟩;obtain⟨t,ht,hq⟩:=fb A outer s H vs Q E (hr.deeper _) ft;have I:Inv (eX CX P w K mg au N qual scope f aE A outer s H E) [] (start N vs) H s1:=E8 S hr.hd e0 hl r x;refine gr (ht s1 (start N vs) H _ I hq) (λfl s' hs=>?_) λe s' hs=>hs;have fin:∀{σ':St}{H':Hp}{v:V}{u:Value},Inv (eX CX P w K mg au N qual scope f aE A outer s H E) [] σ' H' s'->RelV v u->Q v H'->CE outer P w H s Q u s':=λ{σ' H' v u} J rv q=>⟨v,H',J.os,J.bare,J.au,J.aV,rv,q⟩;cases fl with |ret u=>obtain⟨v,σ',H',J,rv,q⟩:=hs;exact fin J rv q |next=>obtain⟨σ',H',J,q⟩:=hs;exact fin (v:=V.aY) (u:=Value.none) J Z q |brk=>obtain⟨_,_,_,q⟩:=hs;exact False.elim q |cont=>obtain⟨_,_,_,q⟩:=hs;exact False.elim q
def ExcAt(ex:Addr)(cls:Value)(h:Heap):Prop:=∃o,h.get? ex=some o/\o.cls=cls
def takes(K:aa)(C D:Addr):Prop:=PySem.W.mroIn K C (.ref D)=some true
section
variable {X:Cx}{i:Nat}{n y:Str}{Dc:Addr}{wC:List Value}{newD:String}{body rW:List Stmt}{b0:Stmt}{np oT pos:Pos}{tb:XK->TS}{th:TS}{Cs:Addr->Prop}
end
end _L
namespace _L
open PySem PySem.Spec PyProof.Rows PySem.W Builtin.Getset_descriptor
section
variable {prog:af}{w:World}{A:ai}{E:Value->ae->Prop}{h:Heap}{g:Array GenState}{d:Drawn}{t:Nat}{os:OsState}{K:Frag}{x C:Addr}{o:Obj}
theorem Nx{M:Model}(h1:h.get? x=some o)(h2:o.cls= .ref C):Looks M h (typeOf (.ref x)) (.ref C):=h2▸(Looks.ld h1).andThen .now
structure mG(K:Frag)(C:Addr):Prop where
 ga:findIn K (.ref C) "__getattribute__"=some (some (.builtin "BaseException.__getattribute__"))
 gx:findIn K (.ref C) "__getattr__"=some none
 cl:findIn K (.ref C) "__class__"=some (some (.builtin "object.__class__"))
 gt:specialIn K (.builtin "object.__class__") "__get__"=some (some (.builtin "getset_descriptor.__get__"))
 tk:takesIn K (.builtin "object.__class__")=some true
 ob:mroIn K C (.type "object")=some true
 be:mroIn K C (.type "BaseException")=some true
 is:hasDictIn K C=true
theorem Ys{M:Model}(X:K.In h)(k:mG K C):Looks M h (Builtin.ObjectAttr.find (.ref x) (.ref C) "__class__") (.bind (.builtin "getset_descriptor.__get__") (.builtin "object.__class__")):=by have L1:=looks_findIn (M:=M) X k.cl;have _L:Looks M h (Builtin.ObjectAttr.getOf (some (.builtin "object.__class__"))) (some (.builtin "getset_descriptor.__get__")):=looks_specialIn X k.gt;have L3:=looks_takesIn (M:=M) X k.tk;unfold Builtin.ObjectAttr.find;refine L1.andThen (_L.andThen ?_);have L4:Looks M h (Builtin.ObjectAttr.dataDescriptor? (some (.builtin "object.__class__")) (some (.builtin "getset_descriptor.__get__"))) (some (.builtin "getset_descriptor.__get__",.builtin "object.__class__")):=L3.andThen .now;exact L4.andThen (Looks.tag .now)
theorem a1Y{M:Model}{LG:Value}{Q:Unit->ae->Prop}(X:K.In h)(k:mG K C)(L0:Looks M h (typeOf (.ref x)) (.ref C))(hq:Q () ⟨h,g,d,t,os⟩): wpAny M A (checkBuiltinCall "BaseException.__getattribute__" ⟨[.ref x,LG],[]⟩) Q E ⟨h,g,d,t,os⟩:=by
 have hk:builtinKind "BaseException.__getattribute__"=some .slot:=by decide+kernel
 have ft:splitId "BaseException.__getattribute__"=some ("BaseException","__getattribute__"):=by decide+kernel
 have ha:=PySem.F.args_bexc_ga (.ref x) LG;have L1:=looks_mroIn (M:=M) X k.be;simp only[checkBuiltinCall,hk,ft];refine aB ?_;unfold isInstance;refine aB (L0.at (L1.at ?_))
 repeat (first|assumption|wp_step)
theorem get_cls{R:Result->ae->Prop}{tp:Value}(X:K.In h)(k:mG K C)(L0:Looks (model prog w) h (typeOf (.ref x)) (.ref C))(hq:R (.ok (.ret (.ref C))) ⟨h,g,d,t,os⟩): codeAny (model prog w) A (.call (.builtin "getset_descriptor.__get__") ⟨[.builtin "object.__class__",.ref x,tp],[]⟩) R ⟨h,g,d,t,os⟩:=by
 have L1:=looks_mroIn (M:=model prog w) X k.ob;refine GF KF.slot_gs.plain KF.entry_gs (KF.slot_gs.check _ _ _ _ _ _ _ _ KF.type_class (KF.args_gs _ _ _) ?_);unfold Builtin.«getset_descriptor.__get__»descrGet;rw[dga_obj];refine aB (bB ?_);unfold descrGetter descrCheckInstance descrNameAndClass isInstance;simp only[KF.owner_class];repeat lk
 refine⟨Code.quiet_builtin _ aM,codeAny_builtin KF.entry_class ?_⟩;unfold Builtin.«object.__class__»shownTypeOf;repeat lk
 exact hq
theorem a1Z{tk:Tok}{Q:Fin->ae->Prop}(X:K.In h)(k:mG K C)(L0:Looks (model prog w) h (typeOf (.ref x)) (.ref C)) (hq:Q (.done (.ret (.ref C))) ⟨h,g,d,t,os⟩):wpAny (model prog w) A (Builtin.«object.__getattribute__» ⟨[.ref x,.str "__class__" tk],[]⟩) Q E ⟨h,g,d,t,os⟩:=by have L1:=Ys (M:=model prog w) (x:=x) X k;refine aB (bB (aB (bB (aB (L0.at (aB (L1.at ?_)))))));show wpAny _ _ (Builtin.ObjectAttr.bindTo _ _ (.ref x) (.ref C)) _ _ _;unfold Builtin.ObjectAttr.bindTo;show wpAny _ _ (holding [_] (call (.builtin "getset_descriptor.__get__") [.builtin "object.__class__",.ref x,.ref C])>>=_) _ _ _;exact aB (gJ (pO (get_cls X k L0 (bB hq))))
theorem a4t{Q:Option Value->ae->Prop}(X:K.In h)(k:mG K C)(L0:Looks (model prog w) h (typeOf (.ref x)) (.ref C)) (hq:Q (some (.ref C)) ⟨h,g,d,t+1,os⟩):wpAny (model prog w) A (getAttr? (.ref x) "__class__") Q E ⟨h,g,d,t,os⟩:=by
 have L1:=looks_findIn (M:=model prog w) X k.ga;have _L:=looks_findIn (M:=model prog w) X k.gx;have f3:=PySem.F.excAttr_ValueError.ga.bind (.ref x);have Zq:(Value.builtin "BaseException.__getattribute__"==Value.builtin "object.__getattribute__")=false:=by decide+kernel
 unfold getAttr? getAttrBy? getAttrBy;refine aB (wpAny_mkText (aB (Ad (gJ (aB (L0.at (aB (L1.at ?_))))))));show wpAny _ _ (if(onTheHeap (Value.ref C)&&Value.builtin "BaseException.__getattribute__"==Value.builtin "object.__getattribute__")=true then _ else _) _ _ _;rw[Zq,Aw,bf az];unfold getAttrByItsOwn hookBefore;refine aB ?_;show wpAny _ _ (typeLookup (.ref C) "__getattr__") _ _ _;refine _L.at (aB (Ad (gJ ?_)));unfold callGetattribute;show wpAny _ _ (boundAndCalled _ _ _) _ _ _;unfold boundAndCalled;rw[f3];refine aB (bB (pO ?_));refine GF PySem.F.excAttr_ValueError.ga.plain PySem.F.entry_bexc_ga (a1Y X k L0 (a1Z X k L0 ?_));exact handed_on Z (bB hq)
theorem Mf(k:mG K C):KitX K (.ref x) (.ref C) (ExcAt x (.ref C)) where
 ty:=λM h _ p=>by obtain⟨o,h1,h2⟩:=p;exact Nx h1 h2
 it:=λ_ _ X _=>by
  obtain⟨cd,hc,_⟩:=any_some k.is;unfold clsIn at hc;split at hc
  ·rename_i c1 d1 cd1 sl1 ho
   intro A' Q' E' s' kk q;unfold isType loadHead;exact aB (GB (kk _ _ (X _ _ ho)) (bB q))
  ·cases hc
 ne:=λh tp dd its n sl X Zu=>by
  obtain⟨cd,hc,_⟩:=any_some k.is;refine Au.mpr λq=>?_;have e:C=tp:=Value.ref.inj (cP.mp q);subst e;unfold clsIn at hc;split at hc
  ·rename_i c1 d1 cd1 sl1 ho
   cases(X _ _ ho).symm.trans Zu
  ·cases hc
 ca:=λ{prog w A E Q s} X p q=>by obtain⟨o,h1,h2⟩:=p;obtain⟨h0,g0,d0,t0,os0⟩:=s;exact a4t X k (Nx h1 h2) q
end
end _L
namespace _L
open PySem PySem.Spec PyProof.Rows
def a4u:V->Option Value | .ref D=>some (.ref D) | .ty n=>some (.type n) |_=>none
theorem Ho:∀{Ds:List Addr}{us:List Value},Vals (Ds.map V.ref) us->us=Ds.map Value.ref |[],_,.nil=>rfl |n::r,_,.cons q t=>by cases(show _=Value.ref n from q);rw[Ho t];rfl
section
variable {X:Cx}
end
theorem a4O:bootBuiltins "ValueError"=some (.type "ValueError"):=by kernel_rfl
@[reducible]def cW:List Value:=[.type "ValueError",.type "Exception",.type "BaseException",.type "object"]
@[reducible]def dg:String:="ValueError.__new__"
theorem FA.a0M{P:af}{w:World}{K:aa}{mg:bc}{au:Heap}{x:Str}{st:Stmt}{N ps:List Str}{k:Nat}{sp:Sp}(F:FA K mg x st)(S:bj N ps (aP st))(len:∀vs H Q E,sp vs H Q E->vs.length=ps.length) (hb:∀(kV doc pm:Value)(an:Option Addr)(aE ct:Value)(us:List Value),us.length=ps.length->bindArgs (PySem.W.fnOf x x (iA st) (eB st) (aP st) .none kV doc pm an aE ct) ⟨us,[]⟩=pure (ps.zip us)) (fb:∀(f:Addr)(aE:Value)(A:ai)(outer:List Env)(s:ae)(H:Hp)(vs:List V)(Q:VK)(E:XK),bU k (A.deeper (envOfC x (aP st) s.heap.objs.size f aE))->sp vs H Q E->∃t,wJ (eX eM P w K mg au N x (aP st) f aE A outer s H E) (eB st) t/\t {nx:=λ_ H'=>Q .aY H',rt:=Q} (start N vs) H):aG P w K mg au x (k+1) sp:=by obtain⟨f,fd,hm,F⟩:=F.ex;have vS:=F.binds hb;have kp:=F.kp;obtain⟨oc,od,kV,doc,pm,an,aE,ct,eG,rfl,lk,dY⟩:=F.ex;exact⟨f,_,ps,a2s lk dY S len λA outer s H vs Q E hr ft=>fb f aE A outer s H vs Q E hr ft,hm,kp,vS⟩
end _L
namespace _A
theorem a1W(a b:Int):Int.gcd b (a.fmod b)=Int.gcd a b:=by rw[Int.fmod_def,Int.gcd_sub_mul_left_right,Int.gcd_comm]
theorem a1X{a b:Int}(h:0<b):Int.gcd b (a%b)=Int.gcd a b:=by rw[<-Int.fmod_eq_emod_of_nonneg a (Int.le_of_lt h)];exact a1W a b
def sg(p q:Int):Int:=if q<0 then-(Int.gcd p q:Int)else(Int.gcd p q:Int)
def lowP (p q:Int):Int:=p.fdiv (sg p q)
def fN (p q:Int):Int:=q.fdiv (sg p q)
theorem F8{p q:Int}(h:q≠0):0<(Int.gcd p q:Int):=by
 have:Int.gcd p q≠0:=λz=>h (Int.gcd_eq_zero_iff.mp z).2
 lia
theorem uR{p q:Int}(h:q≠0):sg p q≠0:=by have:=F8 (p:=p) h;unfold sg;split<;>omega
theorem J0(p q:Int):sg p q∣p:=by
 unfold sg;split
 ·exact Int.neg_dvd.mpr (Int.gcd_dvd_left p q)
 ·exact Int.gcd_dvd_left p q
theorem IZ(p q:Int):sg p q∣q:=by
 unfold sg;split
 ·exact Int.neg_dvd.mpr (Int.gcd_dvd_right p q)
 ·exact Int.gcd_dvd_right p q
theorem DV(p q:Int):sg p q*lowP p q=p:=by unfold lowP;rw[Int.fdiv_eq_ediv_of_dvd (J0 p q)];exact Int.mul_ediv_cancel' (J0 p q)
theorem yW(p q:Int):sg p q*fN p q=q:=by unfold fN;rw[Int.fdiv_eq_ediv_of_dvd (IZ p q)];exact Int.mul_ediv_cancel' (IZ p q)
theorem J3(p q:Int):(sg p q).natAbs=Int.gcd p q:=by unfold sg;split<;>lia
theorem Yp{p q:Int}(h:q≠0):Int.gcd (lowP p q) (fN p q)=1:=by
 have e:Int.gcd (sg p q*lowP p q) (sg p q*fN p q)=(sg p q).natAbs*Int.gcd (lowP p q) (fN p q):=Int.gcd_mul_left _ _ _;rw[DV,yW,J3]at e;have g:=F8 (p:=p) h;have g':0<Int.gcd p q:=by lia
 have e':Int.gcd p q*1=Int.gcd p q*Int.gcd (lowP p q) (fN p q):=by lia
 exact(Nat.eq_of_mul_eq_mul_left g' e').symm
theorem Yq{p q:Int}(h:q≠0):0<fN p q:=by
 have e:=yW p q;have g:=F8 (p:=p) h;by_cases hq:q<0
 ·have es:sg p q=-(Int.gcd p q:Int):=by unfold sg;rw[bo hq]
  rw[es]at e;refine Int.not_le.mp λhl=>?_;have:0<=-(Int.gcd p q:Int)*fN p q:=PY aw hl
  lia
 ·have es:sg p q=(Int.gcd p q:Int):=by unfold sg;rw[bf hq]
  rw[es]at e;refine Int.not_le.mp λhl=>?_;have:(Int.gcd p q:Int)*fN p q<=0:=Int.mul_nonpos_of_nonneg_of_nonpos aw hl
  lia
theorem OM{s x y:Int}(hs:s≠0)(e:s*x=y):x.natAbs<=y.natAbs:=by rw[<-e,gM];exact Nat.le_mul_of_pos_left _ aw
theorem Yr{p q:Int}(h:q≠0):(lowP p q).natAbs<=p.natAbs:=OM (uR h) (DV p q)
theorem LY{p q:Int}(h:q≠0):(fN p q).natAbs<=q.natAbs:=OM (uR h) (yW p q)
theorem Sj{p q:Int}(h:q≠0):(sg p q).natAbs<=q.natAbs:=by rw[J3];exact Nat.le_of_dvd aw (Int.gcd_dvd_natAbs_right p q)
end _A
namespace _r
open Rat
theorem DU{a b:Int}(hb:b≠0):_A.lowP a b=(Rat.divInt a b).num/\_A.fN a b=((Rat.divInt a b).den:Int):=by
 have hp:=_A.Yq (p:=a) hb;have hc:=_A.Yp (p:=a) hb;have a0w:(_A.fN a b).natAbs≠0:=by lia
 have a0C:(_A.lowP a b).natAbs.Coprime (_A.fN a b).natAbs:=hc;have e1:Rat.divInt a b=Rat.divInt (_A.lowP a b) (_A.fN a b):=by have h:=Rat.divInt_mul_left (a:=_A.sg a b) (n:=_A.lowP a b) (d:=_A.fN a b) (_A.uR hb);rw[_A.DV,_A.yW]at h;exact h
 have e2:(⟨_A.lowP a b,(_A.fN a b).natAbs,a0w,a0C⟩:Rat)=Rat.divInt (_A.lowP a b) (((_A.fN a b).natAbs:Nat):Int):=Rat.mk_eq_divInt;have e3:(((_A.fN a b).natAbs:Nat):Int)=_A.fN a b:=by lia
 rw[e3]at e2;rw[e1,<-e2];exact⟨Z,e3.symm⟩
theorem den_pos(r:Rat):(0:Int)<(r.den:Int):=by have:=r.den_pos;omega
structure Bd(n:Nat)(r:Rat):Prop where
 num:r.num.natAbs<2^n
 den:r.den<2^n
theorem Bd.mono{n m:Nat}{r:Rat}(h:Bd n r)(l:n<=m):Bd m r:=⟨fF h.num (uo az l),fF h.den (uo az l)⟩
theorem oM{a b n m:Nat}(h:a<2^n)(g:b<2^m):a*b<2^(n+m):=by rw[Nat.pow_add];exact Nat.mul_lt_mul'' h g
theorem ja{n:Nat}{a b:Int}(hb:b≠0)(h1:a.natAbs<2^n)(h2:b.natAbs<2^n):Bd n (Rat.divInt a b):=by
 obtain⟨e1,e2⟩:=DU (a:=a) hb;have l1:=_A.Yr (p:=a) hb;have l2:=_A.LY (p:=a) hb;refine⟨?_,?_⟩
 ·rw[<-e1];lia
 ·lia
theorem wx(r s:Rat):(r.den:Int)*(s.den:Int)≠0:=Int.ne_of_gt (jB (den_pos r) (den_pos s))
theorem add_div(r s:Rat):r+s=Rat.divInt (r.num*s.den+s.num*r.den) (r.den*s.den):=by have h:=Rat.divInt_add_divInt r.num s.num (d₁:=r.den) (d₂:=s.den) (by have:=den_pos r;lia) (by have:=den_pos s;lia);rw[rH,rH]at h;exact h
theorem RS(r s:Rat):r-s=Rat.divInt (r.num*s.den-s.num*r.den) (r.den*s.den):=by have h:=Pl r.num s.num (d₁:=r.den) (d₂:=s.den) (by have:=den_pos r;lia) (by have:=den_pos s;lia);rw[rH,rH]at h;exact h
theorem mul_div(r s:Rat):r*s=Rat.divInt (r.num*s.num) (r.den*s.den):=by have h:=Pm r.num s.num (d₁:=r.den) (d₂:=s.den);rw[rH,rH]at h;exact h
section
variable {n m:Nat} {r s:Rat}
theorem a4i(h:Bd n r)(g:Bd m s):(r.num*s.den).natAbs<2^(n+m):=by rw[gM];exact oM h.num (by have:=g.den;omega)
theorem a4h(h:Bd n r)(g:Bd m s):(s.num*r.den).natAbs<2^(n+m):=by rw[gM,Al];exact oM (by have:=h.den;lia) g.num
theorem FL(h:Bd n r)(g:Bd m s):((r.den:Int)*(s.den:Int)).natAbs<2^(n+m):=by rw[gM];exact oM (by have:=h.den;lia) (by have:=g.den;lia)
theorem Bd.add(h:Bd n r)(g:Bd m s):Bd (n+m+1) (r+s):=by
 rw[add_div];have h1:=a4i h g;have h2:=a4h h g;have h3:=FL h g;have e:2^(n+m+1)=2^(n+m)+2^(n+m):=by rw[Nat.pow_succ];omega
 exact ja (wx r s) bK bK
theorem Bd.mul(h:Bd n r)(g:Bd m s):Bd (n+m) (r*s):=by rw[mul_div];exact ja (wx r s) (by rw[gM];exact oM h.num g.num) (FL h g)
end
end _r
namespace _L
open PySem PySem.Spec PyProof.Rows
def g9(H H':Hp):Prop:=∀b o,(∀xs,o≠ .lst xs)->H b=some o->H' b=some o
section
variable {K:aa} {H H' H2:Hp}
theorem g9.trans(a:g9 H H')(b:g9 H' H2):g9 H H2:=λc o n e=>b c o n (a c o n e)
theorem g9.lK{D:Addr}{xs ys:List V}(h:H D=some (.lst xs)):g9 H (upd H D (.lst ys)):=λb o n e=>by rw[aL (DF e h (n xs))];exact e
theorem aQ.t{a:Addr}{xs:List V}(s:g9 H H')(h:aQ K H a xs):aQ K H' a xs:=h.imp (λr=>r.imp (s _ _ λ_ z=>nomatch z) λ⟨o,e⟩=>⟨o,s _ _ (λ_ z=>nomatch z) e⟩) id
mutual
def dP:ah->Bool | .list _=>false | .dict _=>false | .tuple ds=>bX ds | .none=>true | .bool _=>true | .int _=>true | .str _=>true
def bX:List ah->Bool |[]=>true |d::ds=>dP d&&bX ds
end
theorem eO:∀{ds:List ah},bX ds=true↔∀d∈ds,dP d=true
 |[]=>⟨λ_ _ h=>(nomatch h),λ_=>by simp[bX]⟩ |d::ds=>by
  rw[bX,d6,eO (ds:=ds)];constructor
  ·rintro⟨a,b⟩ x hx
   rcases bZ.mp hx with rfl|hx
   ·exact a
   ·exact b x hx
  ·intro h
   exact⟨h d (.head _),λx hx=>h x (.tail _ hx)⟩
theorem nk(ns:List Int):bX (ns.map PyData.int)=true:=eO.mpr λd hd=>by obtain⟨i,_,rfl⟩:=gu.mp hd;simp[dP]
mutual
theorem RD.t(s:g9 H H'):∀{x:V}(d:ah),dP d=true->RD K H x d->RD K H' x d |x,.none,_,h=>by simpa[RD]using h |x,.bool b,_,h=>by simpa[RD]using h |x,.int i,_,h=>by simpa[RD]using h |x,.str y,_,h=>by simpa[RD]using h |x,.list ds,n,h=>by simp[dP]at n |x,.tuple ds,n,h=>by rw[RD]at h⊢;obtain⟨a,xs,e,h1,h2⟩:=h;exact⟨a,xs,e,h1.t s,aI.t s ds (by simpa[dP]using n) h2⟩ |x,.dict _,_,h=>by simp[RD]at h
theorem aI.t (s:g9 H H'):∀{xs:List V}(ds:List ah),bX ds=true->aI K H xs ds->aI K H' xs ds |xs,[],_,h=>by simpa[aI]using h |xs,d::ds,n,h=>by rw[aI]at h⊢;rw[bX,d6]at n;obtain⟨y,ys,e,h1,h2⟩:=h;exact⟨y,ys,e,RD.t s d n.1 h1,aI.t s ds n.2 h2⟩
end
theorem aI.jb:∀{xs:List V}{ns:List Int},aI K H xs (ns.map PyData.int)->xs=ns.map V.int |xs,[],h=>h.nil_inv |xs,n::ns,h=>by obtain⟨y,ys,rfl,h1,h2⟩:=h.cons_inv;rw[h1.int_inv,aI.jb h2];rfl
theorem oz:∀(ns:List Int),aI K H (ns.map V.int) (ns.map PyData.int) |[]=>bW |n::ns=>bJ (cQ n) (oz ns)
theorem Oc{J:It}{xs:List V}{ds:List ah}{te:TE}{Q:VK}{D:Addr}{H0:Hp}(rest:St)(nw:Nw H H0 D (.lst []))(hl:xs.length=ds.length)(hz:xs.length<=1000)(hn:bX ds=true) (go:∀i x H2,xs[i]? =some x->aA H H2->J.go i H2/\∀y H3,J.gw i H2 y H3->H3=H2/\y=x)(stop:∀H2,aA H H2->J.stop xs.length H2) (hs:∀(i:Nat)(x:V)(d:ah)(H2:Hp)(Q':VK),xs[i]? =some x->ds[i]? =some d->aA H H2->(∀y H3,aA H2 H3->RD K H3 y d->Q' y H3)->te (some x::rest) H2 Q') (hq:∀H' ys,aA H H'->H' D=some (.lst ys)->aI K H' ys ds->Q (.ref D) H'):jz J (gj 0) jl te Q D (none::rest) H0:=by
 have hD:=nw.no;refine qS xs.length (λi O H2=>aA H H2/\(∃ys,H2 D=some (.lst ys)/\aI K H2 ys (ds.take i))/\∃v,O=v::rest) ?_ ?_ ?_
 ·exact⟨nw.same,⟨[],nw.at',bW⟩,none,Z⟩
 ·rintro i O H2 hi ⟨s2,⟨ys,d2,r2⟩,v,rfl⟩
  have zm:i<ds.length:=by rw[<-hl];exact hi
  have ex:=cH hi;have eb:=cH zm;obtain⟨g1,g2⟩:=go i _ H2 ex s2;refine⟨g1,λy H3 hy=>?_⟩;obtain⟨rfl,rfl⟩:=g2 y H3 hy;refine xI ?_;refine hs i _ _ _ _ ex eb s2 λz H4 s4 r4=>?_;have d4:=s4 _ _ d2;have len:=r2.length;rw[rL]at len;refine⟨ys,d4,?_,xs.length-(i+1),aw,Z,aw,λb o e=>?_,⟨ys++[z],bp,?_⟩,_,Z⟩
  ·have:(1000:Nat)<sizeLine:=by decide
   lia
  ·rw[aL (eH e hD)];exact s4 b o (s2 b o e)
  ·have t:g9 H4 (upd H4 D (.lst (ys++[z]))):=.lK d4
   rw[ur,eb];have n1:bX (ds.take i)=true:=eO.mpr λd hd=>eO.mp hn d (xj hd);exact(aI.t t _ n1 (aI.mono s4 _ r2)).append (bJ (RD.t t _ (eO.mp hn _ (GY zm)) r4) bW)
 ·rintro O H2 ⟨s2,⟨ys,d2,r2⟩,v,rfl⟩
  refine⟨stop H2 s2,hq H2 ys s2 d2 ?_⟩;rw[hl,xi]at r2;exact r2
theorem FR{a:Addr}{xs:List V}{ds:List ah}{te:TE}{Q:VK}{D:Addr}{H0:Hp}(rest:St)(hx:aQ K H a xs)(nw:Nw H H0 D (.lst []))(hl:xs.length=ds.length)(hz:xs.length<=1000)(hn:bX ds=true) (hs:∀(i:Nat)(x:V)(d:ah)(H2:Hp)(Q':VK),xs[i]? =some x->ds[i]? =some d->aA H H2->(∀y H3,aA H2 H3->RD K H3 y d->Q' y H3)->te (some x::rest) H2 Q') (hq:∀H' ys,aA H H'->H' D=some (.lst ys)->aI K H' ys ds->Q (.ref D) H'):jz (pM K a) (gj 0) jl te Q D (none::rest) H0:=Oc rest nw hl hz hn (λi x H2 e s=>⟨⟨xs,x,hx.go s,e⟩,λy H3 ⟨e3,y3⟩=>⟨e3,by have:=y3 _ (hx.go s);rw[e]at this;exact(dW this).symm⟩⟩) (λH2 s=>⟨xs,hx.go s,bA _⟩) hs hq
theorem Ob{a:Addr}{xs:List V}{ds:List ah}{te:TE}{Q:VK}{D:Addr}{H0:Hp}(rest:St)(hx:aK K H a xs)(nw:Nw H H0 D (.lst []))(hl:xs.length=ds.length)(hz:xs.length<=1000)(hn:bX ds=true) (hs:∀(i:Nat)(x:V)(d:ah)(H2:Hp)(Q':VK),xs[i]? =some x->ds[i]? =some d->aA H H2->(∀y H3,aA H2 H3->RD K H3 y d->Q' y H3)->te (some x::rest) H2 Q') (hq:∀H' ys,aA H H'->H' D=some (.lst ys)->aI K H' ys ds->Q (.ref D) H'):jz (u9 K a) (gj 0) jl te Q D (none::rest) H0:=Oc rest nw hl hz hn (λi x H2 e s=>⟨⟨xs,x,hx.go s,e⟩,λy H3 ⟨e3,y3⟩=>⟨e3,by have:=y3 _ (hx.go s);rw[e]at this;exact(dW this).symm⟩⟩) (λH2 s=>⟨xs,hx.go s,bA _⟩) hs hq
theorem zP{b1 b2:Bool}{l1 l2:Addr}{xs ys:List V}{ds:List ah}{te:TE}{Q:VK}{D:Addr}{H0:Hp}{n:Nat}(rest:St)(tE:n=2)(h1:dZ b1 K H l1 xs)(h2:dZ b2 K H l2 ys)(nw:Nw H H0 D (.lst [])) (hl:min xs.length ys.length=ds.length)(hz:ds.length<=1000)(hn:bX ds=true) (hs:∀(i:Nat)(x y:V)(d:ah)(H2:Hp)(Q':VK),xs[i]? =some x->ys[i]? =some y->ds[i]? =some d->aA H H2->(∀z H3,aA H2 H3->RD K H3 z d->Q' z H3)->te (some x::some y::rest) H2 Q') (hq:∀H' zs,aA H H'->H' D=some (.lst zs)->aI K H' zs ds->Q (.ref D) H'):jz (rj K b1 b2 l1 l2) (zw K n (vX (gj 0) (vX (gj 1) F9))) jl te Q D (none::none::rest) H0:=by
 subst tE;have hD:=nw.no;refine qS ds.length (λi O H2=>aA H H2/\(∃zs,H2 D=some (.lst zs)/\aI K H2 zs (ds.take i))/\∃v v',O=v::v'::rest) ?_ ?_ ?_
 ·exact⟨nw.same,⟨[],nw.at',bW⟩,none,none,Z⟩
 ·rintro i O H2 hi ⟨s2,⟨zs,d2,r2⟩,v,v',rfl⟩
  have hx:i<xs.length:=by lia
  have hy:i<ys.length:=by lia
  have ex:=cH hx;have ey:=cH hy;have eb:=cH hi;refine⟨⟨xs,ys,_,_,h1.go s2,h2.go s2,ex,ey⟩,λy' H3 qI=>?_⟩;obtain⟨T,x0,y0,rfl,k1,k2,n3⟩:=qI;have e1:=k1 _ (h1.go s2);have e2:=k2 _ (h2.go s2);rw[ex]at e1;rw[ey]at e2;cases e1;cases e2;refine⟨T,_,Z,aQ.of n3.at',Z,_,_,Z,_,_,Z,Z,?_⟩;refine yes (ba ?_);refine hs i _ _ _ _ _ ex ey eb (s2.trans n3.same) λz H4 s4 r4=>?_;have sC:=n3.same.trans s4;have d4:=sC _ _ d2;have len:=r2.length;rw[rL]at len;refine⟨zs,d4,?_,ds.length-(i+1),aw,Z,aw,λb o e=>?_,⟨zs++[z],bp,?_⟩,_,_,Z⟩
  ·have:(1000:Nat)<sizeLine:=by decide
   lia
  ·rw[aL (eH e hD)];exact sC b o (s2 b o e)
  ·have t:g9 H4 (upd H4 D (.lst (zs++[z]))):=.lK d4
   rw[ur,eb];have n1:bX (ds.take i)=true:=eO.mpr λd hd=>eO.mp hn d (xj hd);exact(aI.t t _ n1 (aI.mono sC _ r2)).append (bJ (RD.t t _ (eO.mp hn _ (GY hi)) r4) bW)
 ·rintro O H2 ⟨s2,⟨zs,d2,r2⟩,v,v',rfl⟩
  refine⟨⟨xs,ys,h1.go s2,h2.go s2,aw⟩,hq H2 zs s2 d2 ?_⟩;rw[xi]at r2;exact r2
end
theorem Mn:∀{ns:List Int}{us:List Value},Vals (ns.map V.int) us->(∀v∈us,∃a t,v=Value.int a t)/\numsOf us=ns
 |[],_,.nil=>⟨λ_ h=>(nomatch h),rfl⟩ |n::ns,_,.cons q r=>by
  obtain⟨t,rfl⟩:=(show∃t,_=Value.int n t from q);obtain⟨h1,h2⟩:=Mn r;refine⟨λv hv=>?_,?_⟩
  ·rcases bZ.mp hv with rfl|hv
   ·exact⟨n,t,Z⟩
   ·exact h1 v hv
  ·show n::numsOf _=_
   rw[h2]
section
variable {X:Cx}
theorem XU(K:aa)(hK:X.K=K)(hc:X.calm=true):eT X (.builtin "max") (λxs H Q=>∃(l:Addr)(ns:List Int),xs=[.ref l]/\aK K H l (ns.map V.int)/\ns≠[]/\∀M,M∈ns->(∀a∈ns,a<=M)->Q (.int M) H):=by
 subst hK;intro ak s O H xs us Q I r h;obtain⟨l,ns,rfl,hl,dA,q⟩:=h;obtain⟨u,rfl,ru⟩:=vals1 r;cases(show u=Value.ref l from ru);obtain⟨its,rv,pl,hz⟩:=I.list hl;obtain⟨a1,a2⟩:=Mn rv;have all:AllInts its.toArray:=λv hv=>a1 v (by simpa using hv);obtain⟨ps,MC⟩:=all.items;have e0:numsOf (intItems ps).toList=ns:=by rw[<-MC];exact a2
 rw[nums_intItems]at e0;have hlen:ps.size=ns.length:=by rw[<-e0,bR,Ax]
 have oT:0<ps.size:=by rw[hlen];exact GW.mpr dA
 refine max_intList (I.ok.hd hc) (by rw[<-MC];exact pl.isList) oT λv h' tk hv hk=>?_;obtain⟨t,rfl⟩:=intItems_at hv;obtain⟨h1,h2⟩:=argBest_gt (numAt ps) (ps.size-1);refine⟨.int _,H,I.kept hk,⟨_,Z⟩,q _ ?_ λa ha=>?_⟩
 ·rw[numAt_eq,e0];exact getD_mem bK
 ·obtain⟨j,hj,rfl⟩:=mem_getD ha
  rw[<-e0,<-numAt_eq];exact h2 j bK
end
end _L
set_option maxHeartbeats 1000000
namespace _a
open PySem PySem.Spec PyProof.Rows _L
def OZ(c m:Int):Prop:=0<=c/\0<=m/\m<2147483648
def iD(H:Hp)(p:Addr):Prop:=∃c m,H p=some (.lst [.int c,.int m])/\OZ c m
structure cj(p:Addr)(H H':Hp):Prop where
 eJ:iD H' p
 same:∀b o,b≠p->H b=some o->H' b=some o
theorem cj.refl{p:Addr}{H:Hp}(h:iD H p):cj p H H:=⟨h,λ_ _ _ e=>e⟩
theorem cj.trans{p:Addr}{H H1 H2:Hp}(a:cj p H H1)(b:cj p H1 H2):cj p H H2:=⟨b.eJ,λc o n e=>b.same c o n (a.same c o n e)⟩
theorem cj.upd{p:Addr}{H:Hp}{c m:Int}(h:OZ c m):cj p H (_L.upd H p (.lst [.int c,.int m])):=⟨⟨c,m,bp,h⟩,λb o n e=>by rw[aL n];exact e⟩
theorem cj.kD{p:Addr}{H H':Hp}(h:iD H p)(s:aA H H'):cj p H H':=by obtain⟨c,m,e,ok⟩:=h;exact⟨⟨c,m,s _ _ e,ok⟩,λb o _ e=>s b o e⟩
theorem Hk{j:Int}(h0:0<=j)(h:j<=10^40):Wd j:=by
 have:j.natAbs<=10^40:=by lia
 exact GO this aM
theorem iD.ne{H:Hp}{p:Addr}(h:iD H p):H p≠none:=by obtain⟨c,m,e,_⟩:=h;rw[e];exact λz=>nomatch z
theorem cj.sd{p:Addr}{H H':Hp}(b:cj p H H'):SD p H H':=λc o e=>pC.mpr ⟨(pC.mp e).1,b.same _ _ (pC.mp e).1 (pC.mp e).2⟩
theorem iD.Xo{H:Hp}{p:Addr}{q:Addr}{o:HO}(h:iD H p)(e:H q=some o)(n:∀xs,o≠ .lst xs):q≠p:=by obtain⟨c,m,e',_⟩:=h;exact DF e e' (n _)
theorem cj.t{p:Addr}{H H':Hp}(bg:iD H p)(b:cj p H H'):g9 H H':=λc o n e=>b.same c o (bg.Xo e n) e
section
variable {K:aa}
theorem Of{J:It}{te:TE}{Q:VK}{D p:Addr}{H H0:Hp}(n:Nat)(rest:_L.St)(nw:Nw H H0 D (.lst []))(bg:iD H p)(hn:n<=1000)(xv:Nat->V) (go:∀i H2,i<n->cj p H H2->J.go i H2/\∀y H3,J.gw i H2 y H3->H3=H2/\y=xv i)(stop:∀H2,cj p H H2->J.stop n H2)(Pz:Int->Prop) (hs:∀i H2 (Q':VK),i<n->cj p H H2->(∀z H3,Pz z->cj p H2 H3->Q' (.int z) H3)->te (some (xv i)::rest) H2 Q') (hq:∀H' (is:List Int),cj p H H'->H' D=some (.lst (is.map V.int))->is.length=n->(∀z∈is,Pz z)->Q (.ref D) H'):jz J (gj 0) jl te Q D (none::rest) H0:=by
 have vV:D≠p:=λe=>bg.ne (e▸nw.no);refine qS n (λi O H3=>cj p H H3/\(∃is:List Int,H3 D=some (.lst (is.map V.int))/\is.length=i/\∀z∈is,Pz z)/\∃v,O=v::rest) ?_ ?_ ?_
 ·exact⟨.kD bg nw.same,⟨[],nw.at',Z,λ_ h=>(dX h).elim⟩,none,Z⟩
 ·rintro i O H3 hi ⟨b3,⟨is,d3,li,pi⟩,v,rfl⟩
  obtain⟨g1,g2⟩:=go i H3 hi b3;refine⟨g1,λy H4 hy=>?_⟩;obtain⟨rfl,rfl⟩:=g2 y H4 hy;refine xI ?_;refine hs i _ _ hi b3 λz H5 pz b5=>?_;refine⟨_,b5.same _ _ vV d3,?_,n-(i+1),aw,Z,aw,?_,⟨is++[z],?_,?_,?_⟩,_,Z⟩
  ·rw[bR,li]
   have:(1000:Nat)<sizeLine:=by decide
   lia
  ·have wF:=b3.trans b5
   refine⟨?_,λb o n e=>?_⟩
   ·obtain⟨c,m,e,ok⟩:=wF.eJ
    exact⟨c,m,by rw[aL vV.symm];exact e,ok⟩
   ·rw[aL (eH e nw.no)];exact wF.same b o n e
  ·rw[bp,lH];rfl
  ·rw[fi,li];rfl
  ·intro y hy
   rcases xn.mp hy with h|h
   ·exact pi y h
   ·rw[eg.mp h];exact pz
 ·rintro O H3 ⟨b3,⟨is,d3,li,pi⟩,v,rfl⟩
  exact⟨stop H3 b3,hq H3 is b3 d3 li pi⟩
theorem Z5(ns:List Int){i:Int}(h0:0<=i)(h:i<ns.length):∃z,z∈ns/\iB (ns.map V.int) i=some (.int z):=by
 have hl:i.toNat<ns.length:=by omega
 exact⟨ns[i.toNat],GY hl,eK h0 (by rw[cZ,cH hl];rfl)⟩
theorem a4o{J:It}{te:TE}{Q:VK}{D p:Addr}{H H0:Hp}(n:Nat)(rest:_L.St)(nw:Nw H H0 D (.lst []))(bg:iD H p)(hn:n<=1000)(xv:Nat->V) (go:∀i H2,i<n->cj p H H2->J.go i H2/\∀y H3,J.gw i H2 y H3->H3=H2/\y=xv i)(stop:∀H2,cj p H H2->J.stop n H2)(Pd:Nat->ah->Prop) (hs:∀i H2 (Q':VK),i<n->cj p H H2->(∀y d H3,Pd i d->dP d=true->RD K H3 y d->cj p H2 H3->Q' y H3)->te (some (xv i)::rest) H2 Q') (hq:∀H' ys ds,cj p H H'->H' D=some (.lst ys)->aI K H' ys ds->ds.length=n->bX ds=true->(∀i d,ds[i]? =some d->Pd i d)->Q (.ref D) H'):jz J (gj 0) jl te Q D (none::rest) H0:=by
  have vV:D≠p:=λe=>bg.ne (e▸nw.no);refine qS n (λi O H3=>cj p H H3/\(∃ys ds,H3 D=some (.lst ys)/\aI K H3 ys ds/\ds.length=i/\bX ds=true/\∀j d,ds[j]? =some d->Pd j d)/\∃v,O=v::rest) ?_ ?_ ?_
  ·exact⟨.kD bg nw.same,⟨[],[],nw.at',bW,Z,Z,λj d e=>by simp at e⟩,none,Z⟩
  · rintro i O H3 hi ⟨b3,⟨ys,ds,d3,r3,li,ni,pi⟩,v,rfl⟩
    obtain⟨g1,g2⟩:=go i H3 hi b3;refine⟨g1,λy H4 hy=>?_⟩;obtain⟨rfl,rfl⟩:=g2 y H4 hy;refine xI ?_;refine hs i _ _ hi b3 λz d H5 pz nz rz b5=>?_;have d5:=b5.same _ _ vV d3;have t:g9 H5 (_L.upd H5 D (.lst (ys++[z]))):=.lK d5;refine⟨ys,d5,?_,n-(i+1),aw,Z,aw,?_,⟨ys++[z],ds++[d],bp,?_,?_,?_,?_⟩,_,Z⟩
    · rw[r3.length,li]
      have:(1000:Nat)<sizeLine:=by decide
      lia
    · have wF:=b3.trans b5
      refine⟨?_,λb o n e=>?_⟩
      · obtain⟨c,m,e,ok⟩:=wF.eJ
        exact⟨c,m,by rw[aL vV.symm];exact e,ok⟩
      ·rw[aL (eH e nw.no)];exact wF.same b o n e
    ·exact(aI.t ((cj.t b3.eJ b5).trans t) _ ni r3).append (bJ (RD.t t _ nz rz) bW)
    ·rw[fi,li];rfl
    ·exact eO.mpr λx hx=>by
        rcases xn.mp hx with h|h
        ·exact eO.mp ni x h
        ·rw[eg.mp h];exact nz
    · intro j e he
      by_cases hj:j<ds.length
      · rw[Aq hj]at he
        exact pi j e he
      · have zj:j=ds.length:=by
          have:=(eU.mp he).1;rw[fi]at this;have:j<ds.length+1:=this
          lia
        subst zj;rw[Ap (bA _),Nat.sub_self]at he;cases he;rw[li];exact pz
  · rintro O H3 ⟨b3,⟨ys,ds,d3,r3,li,ni,pi⟩,v,rfl⟩
    exact⟨stop H3 b3,hq H3 ys ds b3 d3 r3 li ni pi⟩
end
end _a
namespace _l
open PySem _L
def mC(i:Int):Int:=if i<0 then-i else i
theorem Gi(i:Int):mC i=(i.natAbs:Int):=by unfold mC;split<;>lia
def aJ(ns:List Int):Nat:=ns.foldr (λz m=>max z.natAbs m) 0
theorem DY:∀{ns:List Int}{z:Int},z∈ns->z.natAbs<=aJ ns
 |n::ns,z,h=>by
  show z.natAbs<=max n.natAbs (aJ ns);rcases bZ.mp h with rfl|h
  ·exact Nat.le_max_left _ _
  ·exact fA (DY h) (Nat.le_max_right _ _)
theorem DX:∀{ns:List Int},ns≠[]->∃z∈ns,z.natAbs=aJ ns
 |[],h=>absurd Z h |[n],_=>⟨n,.head _,by show n.natAbs=max n.natAbs 0;lia⟩ |n::m::ns,_=>by
  obtain⟨z,hz,e⟩:=DX (ns:=m::ns) (by simp);by_cases h:n.natAbs<=aJ (m::ns)
  ·exact⟨z,.tail _ hz,by show _=max n.natAbs (aJ (m::ns));lia⟩
  ·exact⟨n,.head _,by show _=max n.natAbs (aJ (m::ns));lia⟩
theorem ny{ns:List Int}{m:Nat}(h:∀z∈ns,z.natAbs<=m):aJ ns<=m:=by cases ns with |nil=>exact fh _ |cons a r=>obtain⟨z,hz,e⟩:=DX (ns:=a::r) (by simp);rw[<-e];exact h z hz
theorem YF{ns:List Int}(h:∃z∈ns,z≠0):0<aJ ns:=by
 obtain⟨z,hz,h0⟩:=h;have:=DY hz
 lia
theorem YE{ns:List Int}(dA:ns≠[]){M:Int}(h1:M∈ns.map mC)(h2:∀a∈ns.map mC,a<=M):M=(aJ ns:Int):=by
 obtain⟨z,hz,e⟩:=gu.mp h1;obtain⟨y,hy,ey⟩:=DX dA;have a1:=DY hz;have a2:=h2 (mC y) (gu.mpr ⟨y,hy,Z⟩);rw[Gi]at e a2
 lia
def yd(p q:Int):Int:=(2*(p.natAbs:Int)+q)/(2*q)
def qz(p q:Int):Int:=if p>=0 then yd p q else-yd p q
end _l
namespace _L
open PySem PySem.Spec PyProof.Rows
theorem Lz:fillsNumberSlot (.type "tuple") "mul"=pure false:=PySem.fillsNumberSlot_seq (id:="tuple.__mul__") (r:=some (.builtin "tuple.__rmul__")) He.lookup aM F.slot_tuple_rmul.lookup aM
theorem Kt:seqRepeat? (.type "tuple")=pure (some (.builtin "tuple.__mul__")):=by unfold seqRepeat?;rw[PySem.seqSlot_of (T:="tuple") (name:="__mul__") (id:="tuple.__mul__") He.lookup aM,PySem.seqSlot_of (T:="tuple") (name:="__rmul__") (id:="tuple.__rmul__") F.slot_tuple_rmul.lookup aM];rfl
theorem Ko(a:Int)(t:Tok)(l:Addr)(items:Array Value)(n:Nat)(dd:Option Addr)(sl:Array (Option Value)): Meets (Builtin.«int.__rmul__» ⟨[.int a t,.ref l],[]⟩) (λ_ R s=>s.heap.get? l=some {cls:=.type "tuple",dict:=dd,data:=.seq items n,slots:=sl}/\R (.ok (.ret Value.notImplemented)) s):=.of_wp λprog w A R s h=>by obtain⟨hp,g,d,tk,os⟩:=s;obtain⟨hl,h⟩:=h;wp_walk using wX hl;exact⟨_,Z,h⟩
theorem Xx(l:Addr)(items:Array Value)(n:Nat)(dd:Option Addr)(sl:Array (Option Value))(x:Int)(u:Tok)(h0:¬(decide (x< -(2^63))||decide (x>=2^63))=true)(h1:¬(items.isEmpty||x==1)=true)(h2:¬(decide (x<=0)||items.isEmpty)=true) (h3:¬(items.size:Int)*x>(2^63-1)/8)(h4:¬Builtin.Tuple.tupleTooMany ((items.size:Int)*x)=true)(hz:(List.foldl (λx1 x2=>x1++x2) #[] (List.replicate x.toNat items)).size<=sizeLine): Meets (Builtin.«tuple.__mul__» ⟨[.ref l,.int x u],[]⟩) (λ_ R s=>s.heap.get? l=some {cls:=.type "tuple",dict:=dd,data:=.seq items n,slots:=sl}/\R (.ok (.ret (Value.ref s.heap.objs.size))) {s with heap:=s.heap.push {cls:=Value.type "tuple",data:=Data.seq (List.foldl (λx1 x2=>x1++x2) #[] (List.replicate x.toNat items))},toks:=s.toks}):=.of_wp λprog w A R s h=>by
 obtain⟨hp,g,d,tk,os⟩:=s;obtain⟨hl,h⟩:=h;have f1:=AutoSeq1.idx_int;have f2:=AutoSeq1.sub_tuple_tuple
 wp_walk using wX hl;refine wpAny_ite_false (cX h0) ?_
 wp_walk using wX hl;refine wpAny_ite_false (cX h3) ?_
 wp_walk using wX hl;exact⟨_,Z,h⟩
inductive a75(K:aa)(x:V)(y:V)(H:Hp)(Q:VK):Prop |mk (l:_)(k:_)(xs:_)(h0:x= .ref l)(h1:y= .int k)(h2:aQ K H l xs)(h3:xs≠[])(h4:2<=k)(h5:k<=1000)(h6:xs.length<=1000)(h7:∀p H',Nw H H' p (.tup (List.replicate k.toNat xs).flatten)->Q (.ref p) H')
def TU(K:aa):R2:=λx y H Q=>a75 K x y H Q
theorem UU{X:Cx}(K:aa)(hK:X.K=K):cn X (binaryOp .Mult) (TU K):=by
 subst hK;intro ak s O H x y v u Q I rx ry h;obtain⟨l,k,xs,rfl,rfl,hx,dA,h1,h2,hz,q⟩:=h;cases rx;obtain⟨t,rfl⟩:=ry;obtain⟨its,r,⟨⟨cls,dd,data,sl⟩,ho,hc,n,hd⟩,_⟩:=I.tuple hx;simp only at hc hd;subst hc hd;have hl:=r.length;have Ei:(1000*1000:Nat)<=sizeLine:=by decide
 have hm:its.length*k.toNat<=1000*1000:=rK aw aw;have tF:((its.toArray.size:Nat):Int)*k=((its.length*k.toNat:Nat):Int):=by rw[cY,Int.natCast_mul];congr 1;lia
 have MN:its.toArray.isEmpty=false:=by cases its with |nil=>exact absurd (GX.mp hl) dA |cons a b=>rfl
 have zh:List.foldl (λx1 x2=>x1++x2) #[] (List.replicate k.toNat its.toArray)=(List.replicate k.toNat its).flatten.toArray:=by have:=foldl_rep its k.toNat [];rw[List.nil_append]at this;exact this
 refine Pe (T:="tuple") (U:="int") az ⟨_,ho,Z⟩ (λs'=>uf s' k t) Lz F.fills_int_mul xD Kt F.slot_int_index.lookup (lG xD (uf s k t) F.entry_int_rmul (F.args_int_rmul_2 _ _) (Ko k t l its.toArray n dd sl) ⟨ho,Z,⟨_,ho,Z⟩,lG He ⟨_,ho,Z⟩ F.entry_tuple_mul (F.args_tuple_mul_2 _ _) (Xx l its.toArray n dd sl k t ?_ ?_ ?_ ?_ ?_ ?_) ⟨ho,?_⟩⟩)
 ·simp;lia
 ·rw[MN];simp;lia
 ·rw[MN];simp;lia
 ·rw[tF]
  have:((2:Int)^63-1)/8=1152921504606846975:=by decide
  rw[this];lia
 ·rw[tF]
  unfold Builtin.Tuple.tupleTooMany;simp only[Ae]
  lia
 ·rw[zh,cY,len_rep,Al];lia
 rw[zh];have hf:H s.heap.objs.size=none:=I.aV.fresh (bA _);have nw:Nw H (upd H s.heap.objs.size (.tup (List.replicate k.toNat xs).flatten)) s.heap.objs.size (.tup (List.replicate k.toNat xs).flatten):=.of hf;refine⟨.ref s.heap.objs.size,_,I.laid (t':=s.toks) (o:=.tup (List.replicate k.toNat xs).flatten) (λb ob q=>bL _ q) (bA _) ?_,Z,q _ _ nw⟩;exact⟨by rw[len_rep,Al,hl];lia,_,r.rep k.toNat,IsTup.new _ _⟩
abbrev zG(b:Bool)(h:Heap)(l:Addr):Heap:=h.push {cls:=.type (pD b),data:=.fields #[.ref l,.int 0 0]}
abbrev FF(b:Bool)(h:Heap)(l:Addr):Heap:=(zG b h l).push {cls:=.type "enumerate",data:=.fields #[.none,.bool false,.ref h.objs.size,rawInt 0,.none,.none]}
theorem a3U(b:Bool)(l:Addr)(xs:Array Value):Meets (Builtin.«enumerate.__new__» ⟨[.type "enumerate",.ref l],[]⟩) (λ_ R s=>fP b s.heap l xs/\R (.ok (.ret (.ref (zG b s.heap l).objs.size))) {s with heap:=FF b s.heap l}):=.of_wp λprog w A R s h=>by
 obtain⟨hp,gg,d,tk,os⟩:=s;obtain⟨hl,h⟩:=h;have Ef:=sub_enumerate;have hL:fP b (Shared.heap ⟨hp,gg,d,tk,os⟩) l xs:=hl
 wp_walk using sW hL;refine wpAny_stack_any λst=>bB ?_;split
 ·rename_i c _ _ _ _ _
  cases(c==Value.type "enumerate")
  ·wp_walk using sW hL
   exact⟨_,Z,h⟩
  ·wp_walk using sW hL
   exact⟨_,Z,h⟩
 ·wp_walk using sW hL
  exact⟨_,Z,h⟩
section
variable {prog:af}{w:World}{A:ai}{E:Value->ae->Prop}{s:ae}
theorem a3V{b:Bool}{l:Addr}{xs:Array Value}{Q:Value->ae->Prop}(hl:fP b s.heap l xs) (q:∀g,IsEnum g (s.heap.objs.size+1) s.heap.objs.size 0 .none->iS b g s.heap.objs.size l 0->(∀c o,s.heap.get? c=some o->g.get? c=some o)->Q (.ref (s.heap.objs.size+1)) {s with heap:=g}): wpAny (model prog w) A (call (.type "enumerate") [.ref l]) Q E s:=by refine callType_new PySem.F.called_enumerate az (PySem.F.typeCall_enumerate_1 _) (PySem.F.newCall_enumerate_1 _) (λobj=>PySem.F.args_object_init_2 obj _) PySem.F.entry_enumerate_new (a3U b l xs) ⟨hl,?_⟩;have z1:(zG b s.heap l).objs.size=s.heap.objs.size+1:=mR ..;have g2:(FF b s.heap l).get? (zG b s.heap l).objs.size=some _:=dw _ rfl;have g1:(FF b s.heap l).get? s.heap.objs.size=some _:=bL _ (dw _ Z);show _/\_;rw[z1]at g2⊢;refine⟨⟨_,g2,Z⟩,q _ g2 ?_ λc o e=>bL _ (bL _ e)⟩;cases b<;>exact⟨_,g1,rfl,rfl⟩
theorem NI{b:Bool}{it l:Addr}{xs:Array Value}(hh:A.handled=none)(ne:l≠it):Draws prog w A it [it,l] xs.size (λi x=>xs[i]? =some x) (λi h=>iS b h it l i/\fP b h l xs) where
 live:=λi h st=>by obtain⟨o,e,_⟩:=st.1.ob;exact⟨o,e⟩
 frame:=λi h h' st k=>⟨st.1.to λo e=>k it (by simp) o e,st.2.to λo e=>k l (by simp) o e⟩
 item:=λi s Q E hi st hQ=>yJ st.1 st.2 (x:=xs[i]) (by simp[hi]) λg gi sb=>hQ _ g s.toks (by simp[hi]) ⟨gi,st.2.to λo e=>sb.extBut _ _ ne e⟩ sb
 done:=λs Q E st hE=>FE hh st.1 st.2 (by simp) λg e a b=>hE g e a b
end
def wM(K:aa)(b:Bool)(l:Addr):It:=⟨λi H=>∃xs x,dZ b K H l xs/\xs[i]? =some x,λi H v H'=>∃T x,v= .ref T/\(∀xs,dZ b K H l xs->xs[i]? =some x)/\Nw H H' T (.tup [.int i,x]),λi H=>∃xs,dZ b K H l xs/\xs.length=i⟩
theorem QN{P:af}{w:World}{K:aa}{elts:List Expr}{kt:Nat}{pos:Pos}{b:Bool}{e it l:Addr}(D:e≠it): Turn P w K (.Tuple elts kt pos) (wM K b l) [e,it] e (λi h=>(∃old,IsEnum h e it i old)/\iS b h it l i) where
 mem:=by simp
 obj:=λi h st c hc=>by
  obtain⟨⟨old,he⟩,h1⟩:=st;simp only[bZ,dX,gs]at hc;rcases hc with rfl|rfl
  ·exact⟨_,he,λv e=>by cases e⟩
  ·obtain⟨o,e,_,n⟩:=h1.ob;exact⟨o,e,n⟩
 keep:=λi h h' st k=>by obtain⟨⟨old,he⟩,h1⟩:=st;exact⟨⟨old,k e (by simp) _ he⟩,h1.to λo q=>k it (by simp) o q⟩
 item:=by
  intro X hP hw hK hc i ak s O H E I hf st hg;subst hP hw hK;obtain⟨xs,x,q1,e1⟩:=hg;obtain⟨its,r1,p1⟩:=q1.get I;obtain⟨u1,Ed,kg⟩:=r1.get e1;obtain⟨⟨old,he⟩,h1⟩:=st;obtain⟨oi,iM,ci,_⟩:=h1.ob;have DZ:∃o,s.heap.get? l=some o/\(o.cls= .type "list"\/o.cls= .type "tuple"):=by cases b<;>(obtain⟨o,ho,cc,_⟩:=p1;first|exact⟨o,ho,.inl cc⟩|exact⟨o,ho,.inr cc⟩)
  obtain⟨ol,nK,cl⟩:=DZ;have Xn:e≠l:=λz=>by subst z;rw[he]at nK;cases nK;rcases cl with h|h<;>simp at h
  have nil:l≠it:=λz=>by subst z;rw[iM]at nK;cases nK;rw[ci]at cl;cases b<;>(rcases cl with h|h<;>simp[pD]at h)
  have cm:i<its.toArray.size:=by rw[cY,<-r1.length];exact(eU.mp e1).1
  refine wpAny_pyNext_enum_itemD (NI (I.ok.hd hc) nil) he ⟨h1,p1⟩ cm D (by simp[D,Xn]) λy h' tk hPy ho fq hT hsz kp=>⟨_,Z,?_⟩;have ey:y=u1:=by
   have a1:its.toArray[i]? =some y:=hPy;have a2:its.toArray[i]? =some u1:=by simpa using Ed
   rw[a1]at a2;exact dW a2
  subst ey;refine wpAny_letOwnedTupleGo_enum ho λg' he' sb=>?_;have hs:=sb.extBut;have elt:e<s.heap.objs.size:=bP he;have Ze:it<s.heap.objs.size:=bP iM;have nw:Nw H (upd H s.heap.objs.size (.tup [.int i,x])) s.heap.objs.size (.tup [.int i,x]):=.of (I.aV.fresh (bA _));have I1:Inv X ak O (upd H s.heap.objs.size (.tup [.int i,x])) {s with heap:=s.heap.push {cls:=.type "tuple",data:=.seq #[.int i tk,y]},toks:=tk+1}:=I.laid (t':=tk+1) (λb ob q=>bL _ q) (bA _) ⟨by show 2<=sizeLine;decide,[.int i tk,y],.cons ⟨tk,Z⟩ (.cons kg .nil),⟨_,dw _ Z,Z,_,Z⟩⟩;have DS:∀c∈[e,it],c<s.heap.objs.size:=λc hc=>by
   simp only[bZ,dX,gs]at hc;rcases hc with rfl|rfl
   ·exact elt
   ·exact Ze
  have hn:∀c∈[e,it],upd H s.heap.objs.size (.tup [.int i,x]) c=none:=λc hc=>by rw[aL (dh (DS c hc))];exact(hf c hc).1
  have I2:Inv X ak O (upd H s.heap.objs.size (.tup [.int i,x])) {s with heap:=g',toks:=tk+1}:=Inv.uD (s:={s with heap:=s.heap.push {cls:=.type "tuple",data:=.seq #[.int i tk,y]},toks:=tk+1}) (t':=tk+1) (fp:=[e,it]) I1 (λc o hc q=>by
   have q:(s.heap.push {cls:=.type "tuple",data:=.seq #[.int i tk,y]}).get? c=some o:=q;have nz:c≠e:=λz=>hc (by simp[z]);rcases PZ q with⟨EE,rfl⟩|q'
   ·subst EE
    exact hs _ _ nz hT
   ·exact hs _ _ nz (kp c o nz (λz=>hc (by simp[z])) q')) (λc hc=>by obtain⟨f0,f1,f2,f3,f4,f5⟩:=hf c hc;exact⟨hn c hc,f1,f2,f3,f4,f5⟩);refine⟨.ref s.heap.objs.size,_,I2,Z,⟨s.heap.objs.size,x,Z,λzs hz=>?_,nw⟩,⟨⟨_,by simpa using he'⟩,fq.1.to λo q=>hs _ o (iU D) q⟩,hn⟩;rw[dZ.inj I hz q1];exact e1
 done:=by
  intro X hP hw hK hc i ak s O H E I hf st hg;subst hP hw hK;obtain⟨xs,q1,nN⟩:=hg;obtain⟨its,r1,p1⟩:=q1.get I;obtain⟨⟨old,he⟩,h1⟩:=st;obtain⟨oi,iM,ci,_⟩:=h1.ob;have DZ:∃o,s.heap.get? l=some o/\(o.cls= .type "list"\/o.cls= .type "tuple"):=by cases b<;>(obtain⟨o,ho,cc,_⟩:=p1;first|exact⟨o,ho,.inl cc⟩|exact⟨o,ho,.inr cc⟩)
  obtain⟨ol,nK,cl⟩:=DZ;have nil:l≠it:=λz=>by subst z;rw[iM]at nK;cases nK;rw[ci]at cl;cases b<;>(rcases cl with h|h<;>simp[pD]at h)
  have hi:i=its.toArray.size:=by rw[cY,<-r1.length];exact nN.symm
  subst hi;refine wpAny_pyNext_enum_endD (NI (I.ok.hd hc) nil) he ⟨h1,p1⟩ λh' kp=>⟨Z,?_⟩;exact I.uD (t':=s.toks) (fp:=[e,it]) (λc o hc q=>kp c o (λz=>hc (by simp[z])) q) hf
 self:=λ_ _ _ _ _ st h=>by obtain⟨⟨old,he⟩,_⟩:=st;exact wpAny_pyIter_enum he h
inductive a7A(K:aa)(b:Bool)(R:It->Hp->Prop)(vs:List V)(H1:Hp):Prop |mk (l:_)(h0:vs=[.ref l])(h1:(∃xs,dZ b K H1 l xs))(h2:R (wM K b l) H1)
def Zl(K:aa)(b:Bool)(ta:TA):TI:=λO H R=>ta O H λvs H1=>a7A K b R vs H1
theorem yw(K:aa){X:Cx}(hK:X.K=K)(b:Bool){elts:List Expr}{kt:Nat}{mT:Pos}{a:Expr}{ta:TA}{p pos:Pos}(hg:Gl X "enumerate")(hm:X.mg "enumerate"=none)(ha:PA X [a] ta)(hs:autoParam (starEach [a] X.env=[(false,eval a X.env)]) r8_._auto_1)(jc:autoParam (starEach [] X.env=[]) r8_._auto_1): PI X (.Tuple elts kt mT) (.Call (.Name "enumerate" p) [a] [] pos) (Zl K b ta):=by
 subst hK;intro ak s O H R I h;refine Call_ (nC I hg hm PyProof.Rows.boot_enumerate (uk (aR (ha pos ak s O H _ I h) λus s1 ⟨vs,H1,I1,r1,q1⟩=>?_) (by rw[hs,jc]) (by rw[jc];rfl)));obtain⟨l,e,⟨xs,h1⟩,q⟩:=q1;subst e;obtain⟨u1,rfl,kg⟩:=vals1 r1;cases(show u1=Value.ref l from kg);obtain⟨E3,v1,p1⟩:=h1.get I1;refine a3V p1 λg zg ig kp=>wpAny_pyIter_enum zg ?_;refine⟨_,_,_,_,H1,Z,I1.kept (t':=s1.toks) kp,QN (xg (PK _)),⟨⟨_,zg⟩,ig⟩,λc hc=>?_,q⟩;have hle:s1.heap.objs.size<=c:=by simp only[bZ,dX,gs]at hc;rcases hc with rfl|rfl<;>first|exact bA _|exact Nat.le_add_right _ _
 exact I1.nQ hle (I1.aV.fresh hle)
theorem zx{K:aa}{b:Bool}{a:Addr}{xs:List V}{g:TG}{tb:TS}{D:Ends}{O:St}{H:Hp}(Pv:Nat->St->Hp->Prop)(h0:Pv 0 O H)(hl:∀i O H,i<=xs.length->Pv i O H->dZ b K H a xs) (hs:∀i x O H,xs[i]? =some x->Pv i O H->∀T H',Nw H H' T (.tup [.int i,x])->g (.ref T) O H' λσ2 H2=>tb {D with nx:=Pv (i+1),ct:=Pv (i+1),bk:=D.nx} σ2 H2)(hd:∀O H,Pv xs.length O H->D.nx O H): ∃W:Nat->Nat->St->Hp->Prop,(∃m,W 0 m O H)/\∀i m O H,W i m O H->((wM K b a).stop i H/\D.nx O H)\/((wM K b a).go i H/\∃N:St->Hp->Prop,(∀σ' H',N σ' H'->∃m',m'<m/\W (i+1) m' σ' H')/\∀x H',(wM K b a).gw i H x H'->g x O H' λσ2 H2=>tb {D with nx:=N,ct:=N,bk:=D.nx} σ2 H2):=by
 refine⟨λi m O H=>m=xs.length-i/\i<=xs.length/\Pv i O H,⟨xs.length,by simp,fh _,h0⟩,?_⟩;rintro i m O H ⟨rfl,hi,p⟩;have q:=hl i O H hi p;by_cases cm:i<xs.length
 ·refine .inr ⟨⟨xs,xs[i],q,by simp[cm]⟩,Pv (i+1),λσ' H' p'=>⟨xs.length-(i+1),aw,Z,cm,p'⟩,λx H' y=>?_⟩
  obtain⟨T,z,rfl,ez,nw⟩:=y;exact hs i z O H (ez xs q) p T H' nw
 ·have e:i=xs.length:=by lia
  subst e;exact .inl ⟨⟨xs,q,Z⟩,hd O H p⟩
theorem a2n{K:aa}{b1 b2:Bool}{a1 a2:Addr}{xs ys:List V}{g:TG}{tb:TS}{D:Ends}{O:St}{H:Hp}(n:Nat)(hn:n=min xs.length ys.length)(Pv:Nat->St->Hp->Prop)(h0:Pv 0 O H)(hl:∀i O H,i<=n->Pv i O H->dZ b1 K H a1 xs/\dZ b2 K H a2 ys) (hs:∀i x y O H,xs[i]? =some x->ys[i]? =some y->Pv i O H->∀T H',Nw H H' T (.tup [x,y])->g (.ref T) O H' λσ2 H2=>tb {D with nx:=Pv (i+1),ct:=Pv (i+1),bk:=D.nx} σ2 H2)(hd:∀O H,Pv n O H->D.nx O H): ∃W:Nat->Nat->St->Hp->Prop,(∃m,W 0 m O H)/\∀i m O H,W i m O H->((rj K b1 b2 a1 a2).stop i H/\D.nx O H)\/((rj K b1 b2 a1 a2).go i H/\∃N:St->Hp->Prop,(∀σ' H',N σ' H'->∃m',m'<m/\W (i+1) m' σ' H')/\∀x H',(rj K b1 b2 a1 a2).gw i H x H'->g x O H' λσ2 H2=>tb {D with nx:=N,ct:=N,bk:=D.nx} σ2 H2):=by
 refine⟨λi m O H=>m=n-i/\i<=n/\Pv i O H,⟨n,by simp,fh _,h0⟩,?_⟩;rintro i m O H ⟨rfl,hi,p⟩;obtain⟨q1,q2⟩:=hl i O H hi p;by_cases cm:i<n
 ·have l1:i<xs.length:=by lia
  have l2:i<ys.length:=by lia
  refine .inr ⟨⟨xs,ys,xs[i],ys[i],q1,q2,by simp[l1],by simp[l2]⟩,Pv (i+1),λσ' H' p'=>⟨n-(i+1),aw,Z,cm,p'⟩,λx H' y=>?_⟩;obtain⟨T,z1,z2,rfl,e1,e2,nw⟩:=y;exact hs i z1 z2 O H (e1 xs q1) (e2 ys q2) p T H' nw
 ·have e:i=n:=by lia
  subst e;exact .inl ⟨⟨xs,ys,q1,q2,aw⟩,hd O H p⟩
section
variable {X:Cx}
end
set_option maxHeartbeats 1000000 in
theorem KO{X:Cx}{N:List Str}{js:List (Option Nat)}{elt tg iter:Expr}{ifs:List Expr}{scope:Scope}{pos:Pos}{wi:TI}{g:TG}{tt:TT}{te:TE}{i0:Nat}{x0:Str}{sI HX:Pos}(hNd:X.N.Nodup)(Et:X.N[i0]? =some x0)(Eb:Loc X.env.scope x0)(hc:X.calm=true)(hN:wA X N js scope=true)(hS:pE X scope=true) (hi:PI X tg iter wi)(hg:∀cl s H fp ak,PG (cU X N scope cl s H fp ak) tg g)(ht:∀cl s H fp ak,wI (cU X N scope cl s H fp ak) ifs tt)(he:∀cl s H fp ak,PE (cU X N scope cl s H fp ak) elt te) (Zz:autoParam (swapsWith (.ListComp elt [⟨tg,iter,ifs,0⟩] scope pos) (some (.Name x0 sI)) HX.line X.env=pure true) r8_._auto_1)(hf0:X.fn x0=true\/X.env.scope.names.lookup x0=some .local:=by first|exact .inl rfl|exact .inr rfl) (hs:autoParam (∀x,foldedSetIterable iter X.env x=pure x) f8_._auto_1):PS X (.Assign [.Name x0 sI] (.ListComp elt [⟨tg,iter,ifs,0⟩] scope pos) HX) (xW (AH js wi g tt te) (gj i0)):=by
 intro ak s O H D0 I h;have kT:=hS;unfold pE at kT;rw[d6,d6]at kT;obtain⟨⟨k1,k2⟩,k3⟩:=kT;have je:scope.kind= .function:=cP.mp k1;have oZ:∀x∈scope.names,x.2= .free->∃c,X.env.cells.lookup x.1=some c:=λx hx e=>by have:=fG.mp k3 x hx;rw[e]at this;exact I.ok.has x.1 (.inl (cP.mp this))
 have ml:∀x∈scope.names,x.2≠ .cell:=λx hx e=>by have:=fG.mp k3 x hx;rw[e]at this;exact cI this
 have vG:∀x∈scope.names,x.2= .local->scope.names.lookup x.1=some .local:=λx hx e=>by have:=fG.mp k3 x hx;rw[e]at this;exact cP.mp this
 obtain⟨cl,vQ,c1,c2⟩:=FX oZ;rw[exec_Assign_Name_used _ _ _ _ Zz];refine aB (mJ (aB ?_));show wpAny _ X.A (do let _<-comprehension (.ListComp elt [⟨tg,iter,ifs,0⟩] scope pos) scope X.env _ (newList []) false (eval iter X.env) (some (assign (.Name x0 sI) X.env))) _ _ s;refine aB (gr (Pc (use:=some (assign (.Name x0 sI) X.env)) (Q:=λ_ s'=>SP X ak D0 .next s') Z hs vQ je vG (aR (hi ak s O H _ I h) λv s1 h1=>aR h1 λqH s2 h2=>?_)) (λ_ s' hq=>bB (bB hq)) λ_ _ e=>e);obtain⟨it,fp,tn,J,H2,e,I2,T,lO,f2,h2⟩:=h2;subst e;have hD:H2 s2.heap.objs.size=none:=I2.aV.fresh (bA _);obtain⟨W,⟨m0,w0⟩,turn⟩:=h2 _ _ (Nw.of hD);refine jX (Pb ml (by intro y hy;simp at hy) (λh₁ oW oS=>?_) je);have la:∀b∈fp,b<s2.heap.objs.size:=λb hb=>by obtain⟨o,e,_⟩:=T.obj _ _ lO b hb;exact bP e
 have I3:Inv X ak O (upd H2 s2.heap.objs.size (.lst [])) {s2 with heap:=s2.heap.push {cls:=.type "list",dict:=none,data:=.seq ([]:List Value).toArray}}:=I2.yX (its:=[]) (t':=s2.toks) .nil (fh _);generalize p5:s2.heap.push {cls:=.type "list",dict:=none,data:=.seq ([]:List Value).toArray}=h3 at I3 oW oS;have om:h3.objs.size=s2.heap.objs.size+1:=by rw[<-p5,mR]
 have vA:∀b o,s2.heap.get? b=some o->h3.get? b=some o:=λb o e=>by rw[<-p5];exact bL _ e
 have f3:∀b∈fp,gH X ak (upd H2 s2.heap.objs.size (.lst [])) b:=λb hb=>⟨by rw[aL (dh (la b hb))];exact(f2 b hb).1,(f2 b hb).2⟩;have oO:∀b o,h3.get? b=some o->h₁.get? b=some o:=λb o e=>(oS.2 b (dh (bP e))).trans (bL _ e);have I4:Inv (cU X N scope cl {s2 with heap:=h3} (upd H2 s2.heap.objs.size (.lst [])) fp ak) [] (stC js O) (upd H2 s2.heap.objs.size (.lst [])) {s2 with heap:=h₁,toks:=s2.toks+([]:List (Str×Value)).length}:=I3.comp (s:={s2 with heap:=h3}) hN hS c1 c2 f3 (λb hb=>by show b<h3.objs.size;rw[om];exact xh (la b hb)) (by simpa using oW) oO;have oo:tn 0 h₁:=T.keep _ _ _ lO λb _ o e=>oO b o (vA b o e);have loop:codeAny (model X.prog X.w) X.A (.compLoop (.ListComp elt [⟨tg,iter,ifs,0⟩] scope pos) 0 (.ref it) (.ref s2.heap.objs.size) (compEnvC scope cl h3.objs.size X.env)) (compPost (model X.prog X.w) X.A X.xe (some (assign (.Name x0 sI) X.env)) (λ_ s'=>SP X ak D0 .next s') (.ref s2.heap.objs.size) h3.objs.size) {s2 with heap:=h₁,toks:=s2.toks+([]:List (Str×Value)).length}:=by
  refine FT (λn s'=>∃i σ' H',Inv (cU X N scope cl {s2 with heap:=h3} (upd H2 s2.heap.objs.size (.lst [])) fp ak) [] σ' H' s'/\tn i s'.heap/\(∀b∈fp,H' b=none)/\W i n σ' H') ?_ m0 ⟨0,_,_,I4,oo,λb hb=>(f3 b hb).1,w0⟩;rintro n s5 ⟨i,σ5,H5,I5,jF,mr,w5⟩;have iI:∀{H':Hp},(∀b∈fp,H' b=none)->∀b∈fp,gH (cU X N scope cl {s2 with heap:=h3} (upd H2 s2.heap.objs.size (.lst [])) fp ak) [] H' b:=λ{H'} hn b hb=>by
   obtain⟨_,q1,q2,q3,q4,q5⟩:=f3 b hb;refine⟨hn b hb,λz=>?_,I4.ok.mx b hb,.inl hb,λx c e=>q4 x c (c1 x c e),λp hp=>q5 p (by simpa[cU]using hp)⟩;have cm:b<h3.objs.size:=by rw[om];exact xh (la b hb)
   exact dh cm z
  rcases turn i n σ5 H5 w5 with⟨stop,qn⟩|⟨go,step⟩
  ·refine aR (T.done (cU X N scope cl {s2 with heap:=h3} (upd H2 s2.heap.objs.size (.lst [])) fp ak) rfl rfl rfl hc i [] s5 σ5 H5 _ I5 (iI mr) jF stop) λr s6 ⟨hr,I6⟩=>?_
   subst hr;obtain⟨m,hm,_⟩:=I6.loc;have u0:Un (cS X.stack) fp (upd H2 s2.heap.objs.size (.lst [])) H5 h3 s6.heap:=I6.au;have I7:Inv X ak O H5 s6:=I3.wB (s':=s6) (ch:=fp) I6.os u0 I6.aV I6.bare λb hb=>⟨(f3 b hb).2.2.2.1,(f3 b hb).2.1,(f3 b hb).2.2.2.2.1,(f3 b hb).2.2.2.2.2⟩;have hC:gH X ak H5 h3.objs.size:=I3.nQ (bA _) I6.free;show wpAny _ X.A (assign (.Name x0 sI) X.env (.ref s2.heap.objs.size)) _ _ s6;refine wpAny_assign_Name (HP I7 hNd Et Eb (show RelV (.ref s2.heap.objs.size) (.ref s2.heap.objs.size)from Z) (λs8 I8 ZF=>?_) hf0);obtain⟨a,sb,ha⟩:=ZF;have hCa:h3.objs.size≠a:=by
    rcases ha with rfl|ha
    ·exact hC.2.1
    ·exact λz=>hC.2.2.2.2.1 x0 a ha z.symm
   refine⟨m,hm.sameBut sb hCa,λh9 ZG=>⟨_,H5,?_,qn⟩⟩;exact I8.uD (t':=s8.toks) (fp:=[h3.objs.size]) (λb o hb e=>ZG.extBut b o (λz=>hb (by simp[z])) e) λb hb=>by rw[eg.mp hb];exact hC
  ·refine aR (T.item (cU X N scope cl {s2 with heap:=h3} (upd H2 s2.heap.objs.size (.lst [])) fp ak) rfl rfl rfl hc i [] s5 σ5 H5 _ I5 (iI mr) jF go) λr s6 ⟨u,hr,h6⟩=>?_
   subst hr;refine aR h6 λ_ s7 ⟨x,H7,I7,r7,y7,jm,vY⟩=>?_;have wN:=I7.pinned (iI vY) (T.obj _ _ jm);refine aR (hg _ _ _ _ _ _ s7 σ5 H7 x u _ wN r7 (step x H7 y7)) λ_ s8 ⟨σ8,H8,I8,q8⟩=>?_;refine aR (ht _ _ _ _ _ _ s8 σ8 H8 _ I8 q8) λok s9 ⟨H9,I9,q9⟩=>?_;have again:∀{s':ae}{σ7:St}{H7:Hp},Inv (cU X N scope cl {s2 with heap:=h3} (upd H2 s2.heap.objs.size (.lst [])) fp ak) ([]++qm fp s7.heap) σ7 H7 s'->(∃m',m'<n/\W (i+1) m' σ7 H7)->∃m,m<n/\∃i σ' H',Inv (cU X N scope cl {s2 with heap:=h3} (upd H2 s2.heap.objs.size (.lst [])) fp ak) [] σ' H' s'/\tn i s'.heap/\(∀b∈fp,H' b=none)/\W i m σ' H':=λ{s' σ7 H7} J7 n7=>by obtain⟨m',hm,w7⟩:=n7;refine⟨m',hm,i+1,σ7,H7,J7.rQ,T.keep _ _ _ jm λb hb o e=>(J7.pin (b,o) (gL _ (gL _ (oN hb e)))).1,λb hb=>?_,w7⟩;obtain⟨o,e,d⟩:=T.obj _ _ jm b hb;exact(J7.pin (b,o) (gL _ (gL _ (oN hb e)))).2.1
   cases ok with |false=>rw[bf cI]at q9⊢;exact again I9 q9 |true=>rw[bo rfl]at q9⊢;refine aR (he _ _ _ _ _ _ s9 σ8 H9 _ I9 q9) λyv iJ ⟨y,ji,pN,uX,ys,vB,hz,lJ⟩=>?_;refine aR (yQ _ iJ σ8 ji (.ref s2.heap.objs.size) [y] (.ref s2.heap.objs.size) [yv] (λ_ iE=>∃m',m'<n/\W (i+1) m' σ8 iE) pN Z (.cons uX .nil) ⟨_,ys,y,Z,Z,vB,hz,lJ⟩) λ_ yl ⟨v11,iE,wO,KN,uY⟩=>?_;exact again wO uY
 exact Ph loop (T.self _ 0 _ _ _ oo loop)
theorem wJ.a4n{X:Cx}{st:Stmt}{rest:List Stmt}{t u:TS}(h1:OU X st t)(h2:eP X rest u):wJ X (st::rest) (HC t u):=by intro s O H D I h;refine wpAny_execs_cons (aR (h1 s O H {D with nx:=u D} I h) λf s1 q=>?_);cases f with |next=>obtain⟨σ',H',I',q⟩:=q;exact h2 [] s1 σ' H' D I' q |ret v=>exact q |brk=>exact q |cont=>exact q
section
variable {X:Cx}
end
section
variable {X:Cx}{ak:List (Addr×Obj)}{O:St}{H:Hp}{s:ae}
end
section
variable {X:Cx}
theorem a4B:eT X (.type "range") (λxs H Q=>∃n,xs=[.int n]/\∀p H',Nw H H' p (.qe 0 n)->Q (.ref p) H'):=by intro ak s O H xs us Q I r h;obtain⟨n,rfl,q⟩:=h;obtain⟨u,rfl,t,rfl⟩:=vals1 r;refine call_range_1 ?_;have hf:H s.heap.objs.size=none:=I.aV.fresh (bA _);refine⟨.ref s.heap.objs.size,upd H s.heap.objs.size (.qe 0 n),I.laid (t':=s.toks+1+1) (λb u e=>bL _ e) (bA _) ?_,Z,q _ _ (.of hf)⟩;exact⟨_,_,_,dw _ Z⟩
end
theorem RR:isSubtype (.type "range_iterator") (.type "reversed")=pure false:=by rw[isSubtype_type];kernel_rfl
section
variable {prog:af}{w:World}{A:ai}{E:Value->ae->Prop}{s:ae}
abbrev uW(n:Nat):Obj:={cls:=.type "range_iterator",data:=.fields #[rawInt (0+((n:Int)-1)*1),rawInt (n:Int),rawInt (-1)]}
abbrev CG(n:Nat):Bool:=Builtin.Range.rangeFitsLong 0&&Builtin.Range.rangeFitsLong n&&Builtin.Range.rangeFitsLong 1&&Builtin.Range.rangeFitsLong (-1)&&Builtin.Range.rangeFitsLong (0-1)&&Builtin.Range.rangeFitsLong (Builtin.Range.rangeSize 0 n 1)
theorem Kk{n:Nat}(h:n<2^62):CG n=true:=by unfold CG;rw[rangeSize_one];simp only[Builtin.Range.rangeFitsLong,d6,Ae];split<;>lia
theorem Ti(r:Addr)(a b c:Int)(t u v:Tok)(hc0:¬(!(Builtin.Range.rangeFitsLong a&&Builtin.Range.rangeFitsLong b&&Builtin.Range.rangeFitsLong c&&Builtin.Range.rangeFitsLong (-c)&&Builtin.Range.rangeFitsLong (a-c)&&Builtin.Range.rangeFitsLong (Builtin.Range.rangeSize a b c)))=true):Meets (Builtin.«range.__reversed__» ⟨[.ref r],[]⟩) (λ_ R s=>s.heap.get? r=some {cls:=.type "range",dict:=none,data:=.fields #[.int a t,.int b u,.int c v],slots:=#[]}/\R (.ok (.ret (.ref s.heap.objs.size))) {s with heap:=s.heap.push {cls:=.type (if(Builtin.Range.rangeFitsLong a&&Builtin.Range.rangeFitsLong b&&Builtin.Range.rangeFitsLong c&&Builtin.Range.rangeFitsLong (-c)&&Builtin.Range.rangeFitsLong (a-c)&&Builtin.Range.rangeFitsLong (Builtin.Range.rangeSize a b c))=true then "range_iterator" else "longrange_iterator"),data:=.fields #[rawInt (a+(Builtin.Range.rangeSize a b c-1)*c),rawInt (Builtin.Range.rangeSize a b c),rawInt (-c)]},toks:=s.toks}):=.of_wp λprog w A R s h=>by
 obtain⟨hp,g,d,tk,os⟩:=s;obtain⟨hl,h⟩:=h
 wp_walk;exact⟨_,Z,h⟩
theorem a4z{l:Addr}{n:Nat}{t u v:Tok}{Q:Value->ae->Prop}(hn:n<2^62)(hl:s.heap.get? l=some {cls:=.type "range",data:=.fields #[.int 0 t,.int n u,.int 1 v]}) (h:Q (.ref s.heap.objs.size) {s with heap:=s.heap.push (uW n)}):wpAny (model prog w) A (call (.builtin "range.__reversed__") [.ref l]) Q E s:=by
 have hT:s.TypeIs (.ref l) "range":=⟨_,hl,Z⟩;refine lG Q3 hT F.entry_range_reversed (F.args_range_reversed_1 _) (Ti l 0 n 1 t u v (by have:=Kk hn;unfold CG at this;rw[this];decide)) ⟨hl,?_⟩;rw[bo (Kk hn)];have e:Builtin.Range.rangeSize 0 n 1=n:=by rw[rangeSize_one];split<;>lia
 rw[e];exact h
theorem a4r{l:Addr}{n:Nat}{t u v:Tok}{Q₁:Value->ae->Prop}(hn:n<2^62)(hl:s.heap.get? l=some {cls:=.type "range",data:=.fields #[.int 0 t,.int n u,.int 1 v]}) (h:Q₁ (.ref s.heap.objs.size) {s with heap:=s.heap.push (uW n)}): codeAny (model prog w) A (.call (.builtin "reversed.__new__") ⟨[.type "reversed",.ref l],[]⟩) (wants Q₁ E) s:=by
 have hT:s.TypeIs (.ref l) "range":=⟨_,hl,Z⟩;refine codeAny_of_tree ?_;show wpAny _ A.in1 (do checkBuiltinCall "reversed.__new__" ⟨[.type "reversed",.ref l],[]⟩;again (.builtin "reversed.__new__" ⟨[.type "reversed",.ref l],[]⟩)) _ _ s;refine aB (ub (F.newCall_reversed_1 _) (bB ⟨plainId_quiet F.plain_reversed_new _,codeAny_builtin F.entry_reversed_new ?_⟩));rw[Around.under_plainId F.plain_reversed_new _];unfold Builtin.«reversed.__new__»;refine aB (ub (newClass_reversed _) ?_)
 try dsimp only
 refine aB (ub (a:=()) (by first|rfl|kernel_rfl) ?_);refine aB (ub (a:=()) (by first|rfl|kernel_rfl) ?_)
 try dsimp only
 refine aB (wpAny_specialOf hT Q3.lookup ?_)
 try dsimp only
 refine aB (ub (Q3.bind _) ?_)
 try dsimp only
 first |rw[bf (show¬((Value.builtin "range.__reversed__"==Value.none)=true)from cI)] |(show wpAny _ _ (if(Value.builtin "range.__reversed__"==Value.none)=true then _ else _) _ _ _;rw[bf (show¬((Value.builtin "range.__reversed__"==Value.none)=true)from cI)])
 refine aB (wW ?_);refine aB (m:=runValue (.call (.builtin "range.__reversed__") ⟨[.ref l],[]⟩)) (show wpAny _ _ (call (.builtin "range.__reversed__") [.ref l]) _ _ _ from a4z hn hl ?_)
 first |exact bB h |exact aB (bB (bB h))
theorem a4A{l:Addr}{n:Nat}{t u v:Tok}{Q:Value->ae->Prop}(hn:n<2^62)(hl:s.heap.get? l=some {cls:=.type "range",data:=.fields #[.int 0 t,.int n u,.int 1 v]}) (h:Q (.ref s.heap.objs.size) {s with heap:=s.heap.push (uW n)}):wpAny (model prog w) A (call (.type "reversed") [.ref l]) Q E s:=by refine callType_other (U:="range_iterator") (Q₁:=λobj s₁=>obj= .ref s.heap.objs.size/\s₁={s with heap:=s.heap.push (uW n)}) aM F.create_reversed ⟨_,_,F.mro_reversed⟩ F.made_reversed RR (F.typeCall_reversed_1 _) (a4r hn hl ⟨Z,Z⟩) ?_;rintro obj s₁ ⟨rfl,rfl⟩;exact⟨⟨_,dw _ Z,Z⟩,h⟩
end
def wL(n:Nat):It:=⟨λi _=>i<n,λi H x H'=>H'=H/\x= .int ((n:Int)-1-i),λi _=>n<=i⟩
theorem QJ{P:af}{w:World}{K:aa}{tg:Expr}(it:Addr)(n:Nat):Turn P w K tg (wL n) [it] it (λi h=>IsRangeIter h it ((0+((n:Int)-1)*1)+(i:Nat)*(-1)) ((n:Int)-(i:Nat)) (-1)) where
 mem:=by simp
 obj:=λi h st b hb=>by
  have e:b=it:=by simpa using hb
  subst e;exact⟨_,st,λv z=>by have z':Data.fields _=Data.cell v:=z;cases z'⟩
 keep:=λi h h' st k=>k it (by simp) _ st
 item:=by
  intro X hP hw hK hc i ak s O H E I hf st hg;subst hP hw hK;obtain⟨f0,f1,f2,f3,f4,f5⟩:=hf it (by simp);have W:=Walks.range (prog:=X.prog) (w:=X.w) (I.ok.hd hc) it (0+((n:Int)-1)*1) (-1) n;refine W.item i s _ _ hg st λv h' tk hv gB kk=>?_;obtain⟨t,rfl⟩:=hv;have I1:Inv X ak O H {s with heap:=h',toks:=tk}:=I.turned (λb o hb e=>kk b o (by simpa using hb) e) f0 f1 f3 f4 f5;refine⟨_,Z,tL (s:={s with heap:=h',toks:=tk}) (n:="range_iterator") gB rfl rfl az ⟨.int ((n:Int)-1-i),H,I1,⟨t,?_⟩,⟨Z,Z⟩,gB,λb hb=>(hf b hb).1⟩⟩;have e:(0+((n:Int)-1)*1)+(i:Int)*(-1)=(n:Int)-1-i:=by lia
  rw[e]
 done:=by intro X hP hw hK hc i ak s O H E I hf st hg;subst hP hw hK;obtain⟨f0,f1,f2,f3,f4,f5⟩:=hf it (by simp);exact wpAny_pyNext_range_end (I.ok.hd hc) st (by have:n<=i:=hg;lia) λh' eb=>⟨Z,I.turned (t':=s.toks) (λb o hb e=>eb b o hb e) f0 f1 f3 f4 f5⟩
 self:=λ_ _ _ _ _ st h=>Gz st h
inductive a7y(R:It->Hp->Prop)(vs:List V)(H1:Hp):Prop |mk (p:_)(n:_)(h0:vs=[.ref p])(h1:H1 p=some (.qe 0 n))(h2:0<=n)(h3:n<2^62)(h4:R (wL n.toNat) H1)
def Zk(ta:TA):TI:=λO H R=>ta O H λvs H1=>a7y R vs H1
theorem Ur{X:Cx}{tg:Expr}{a:Expr}{ta:TA}{p pos:Pos}(hg:Gl X "reversed")(hm:X.mg "reversed"=none)(ha:PA X [a] ta)(hs:autoParam (starEach [a] X.env=[(false,eval a X.env)]) r8_._auto_1)(jc:autoParam (starEach [] X.env=[]) r8_._auto_1): PI X tg (.Call (.Name "reversed" p) [a] [] pos) (Zk ta):=by
 intro ak s O H R I h;refine Call_ (nC I hg hm PyProof.Rows.boot_reversed (uk (aR (ha pos ak s O H _ I h) λus s1 ⟨vs,H1,I1,r1,q1⟩=>?_) (by rw[hs,jc]) (by rw[jc];rfl)));obtain⟨l,n,e,hl,n0,n1,q⟩:=q1;subst e;obtain⟨u1,rfl,kg⟩:=vals1 r1;cases(show u1=Value.ref l from kg);obtain⟨t,u,v,e⟩:∃t u v,s1.heap.get? l=some {cls:=.type "range",data:=.fields #[.int 0 t,.int n u,.int 1 v]}:=I1.aV l _ hl;obtain⟨m,rfl⟩:∃m:Nat,n=m:=⟨n.toNat,aw⟩;refine a4A aw e ?_;have hit:IsRangeIter (s1.heap.push (uW m)) s1.heap.objs.size ((0+((m:Int)-1)*1)+((0:Nat):Int)*(-1)) ((m:Int)-((0:Nat):Int)) (-1):=by
  have e1:(0+((m:Int)-1)*1)+((0:Nat):Int)*(-1)=0+((m:Int)-1)*1:=by lia
  have e2:(m:Int)-((0:Nat):Int)=m:=by lia
  rw[e1,e2];exact dw _ rfl
 refine Gz hit ?_;refine⟨s1.heap.objs.size,[s1.heap.objs.size],_,_,H1,Z,I1.kept (t':=s1.toks) λb o e=>bL _ e,QJ _ m,hit,λb hb=>?_,q⟩;have e:b=s1.heap.objs.size:=by simpa using hb
 subst e;exact I1.nQ (bA _) (I1.aV.fresh (bA _))
theorem a2q{n:Nat}{g:TG}{tb:TS}{D:Ends}{O:St}{H:Hp}(Pv:Nat->St->Hp->Prop)(h0:Pv 0 O H) (hs:∀i O H,i<n->Pv i O H->g (.int ((n:Int)-1-i)) O H λσ2 H2=>tb {D with nx:=Pv (i+1),ct:=Pv (i+1),bk:=D.nx} σ2 H2)(hd:∀O H,Pv n O H->D.nx O H): ∃W:Nat->Nat->St->Hp->Prop,(∃m,W 0 m O H)/\∀i m O H,W i m O H->((wL n).stop i H/\D.nx O H)\/((wL n).go i H/\∃N:St->Hp->Prop,(∀σ' H',N σ' H'->∃m',m'<m/\W (i+1) m' σ' H')/\∀x H',(wL n).gw i H x H'->g x O H' λσ2 H2=>tb {D with nx:=N,ct:=N,bk:=D.nx} σ2 H2):=by
 refine⟨λi m O H=>m=n-i/\i<=n/\Pv i O H,⟨n,by simp,fh _,h0⟩,?_⟩;rintro i m O H ⟨rfl,hi,p⟩;by_cases cm:i<n
 ·refine .inr ⟨cm,Pv (i+1),λσ' H' q=>⟨n-(i+1),aw,Z,cm,q⟩,λx H' hy=>?_⟩
  obtain⟨rfl,rfl⟩:=hy;exact hs i O _ cm p
 ·have e:i=n:=by lia
  subst e;exact .inl ⟨bA _,hd O H p⟩
theorem uZ(K:aa){X:Cx}(hK:X.K=K){a:Expr}{ta:TE}(ha:PE X a ta)(he:autoParam (∀whole,isTrue a X.env whole=(do let v<-whole;standAt a.pos;holding [v] (truthy v))) f8_._auto_1): PT X a (λO H Q=>ta O H λx H'=>∃k,Gn K x H' k/\Q k H'):=by subst hK;exact Uc ha he
end _L
namespace _C
open _l
def fu(ns ms:List Int):List Int:=(ns.zip ms).map λp=>p.1*(aJ ms:Int)-p.2*(aJ ns:Int)
theorem XT{ns ms:List Int}{z:Int}(h:z∈fu ns ms):∃a b,a∈ns/\b∈ms/\z=a*(aJ ms:Int)-b*(aJ ns:Int):=by obtain⟨⟨a,b⟩,hp,rfl⟩:=gu.mp h;exact⟨a,b,(uu hp).1,(uu hp).2,Z⟩
theorem lY{a b:Int}{m n:Nat}(h:a.natAbs<=m)(g:b.natAbs<=n):(a*b).natAbs<=m*n:=by rw[gM];exact rK h g
theorem FQ{ns ms:List Int}(h1:∀z∈ns,z.natAbs<=1000)(h2:∀z∈ms,z.natAbs<=1000):∀z∈fu ns ms,z.natAbs<=2000000:=λz hz=>by obtain⟨a,b,ha,hb,rfl⟩:=XT hz;have l1:=ny h1;have l2:=ny h2;have e1:=lY (b:=(aJ ms:Int)) (n:=1000) (h1 a ha) bK;have e2:=lY (b:=(aJ ns:Int)) (n:=1000) (h2 b hb) bK;omega
def oX(zs:List Int)(i:Nat):Nat:=aJ (zs.take i)
theorem Mc:∀(xs ys:List Int),aJ (xs++ys)=max (aJ xs) (aJ ys) |[],ys=>by simp[aJ] |x::xs,ys=>by show max x.natAbs (aJ (xs++ys))=max (max x.natAbs (aJ xs)) (aJ ys);rw[Mc xs ys];lia
theorem a0j{zs:List Int}{i:Nat}{z:Int}(h:zs[i]? =some z):oX zs (i+1)=max (oX zs i) z.natAbs:=by
 unfold oX;rw[ur,h,Mc];show max _ (max z.natAbs 0)=_
 lia
def qU(r:Rat):Rat:=if r.num<0 then-r else r
theorem a5e(r:Rat):(qU r).num=mC r.num:=by
 unfold qU mC;split
 ·rfl
 ·rfl
theorem a5g(r:Rat):(qU r).den=r.den:=by
 unfold qU;split
 ·rfl
 ·rfl
theorem a49{a b:Int}(hb:0<b):0<=(Rat.divInt a b).num↔0<=a:=by rw[Rat.num_nonneg,ui hb]
theorem a5f{c L:Int}(hL:0<L):qU (Rat.divInt c L)=Rat.divInt (mC c) L:=by
 have h:=a49 (a:=c) hL;unfold qU mC;by_cases hc:c<0
 ·rw[bo hc,bo aw,Rat.neg_divInt]
 ·rw[bf hc,bf aw]
theorem O0{a b L:Int}(hL:0<L):Rat.divInt a L<=Rat.divInt b L↔a<=b:=by
 rw[Rat.le_iff_sub_nonneg,Pl _ _ aw aw,ui (jB hL hL),<-Int.sub_mul];constructor
 ·intro h
  have:=Int.nonneg_of_mul_nonneg_left h hL
  lia
 ·intro h
  exact lI aw aw
theorem NZ{a b L:Int}(hL:0<L):Rat.divInt a L<Rat.divInt b L↔a<b:=by rw[<-Rat.not_le,O0 hL];lia
theorem RQ{a b l1 l2:Int}(h1:0<l1)(h2:0<l2):Rat.divInt b l2-Rat.divInt a l1=Rat.divInt (b*l1-a*l2) (l1*l2):=by rw[Pl _ _ aw aw,Hd l2 l1]
theorem a4k{j p q h L:Int}(hp:p≠0)(hh:h≠0)(e:p*L=h*q):Rat.divInt (j*j*q*q) (p*p)=Rat.divInt ((j*L)^2) (h^2):=by
 rw[Rat.divInt_eq_divInt_iff (Hc hp hp) (by rw[fU,fU,mO,mQ];exact Hc hh hh)];have e2:(p*L)*(p*L)=(h*q)*(h*q):=by rw[e]
 rw[fU,fU,mO,mQ,fU,fU,mO,mQ];have a1:j*j*q*q*(h*h)=(j*j)*((h*q)*(h*q)):=by ac_rfl
 have a2:j*L*(j*L)*(p*p)=(j*j)*((p*L)*(p*L)):=by ac_rfl
 rw[a1,a2,e2]
end _C
namespace _P
def mn(a b:Rat):Rat:=if b<a then b else a
theorem fY(a b:Rat):mn a b<=a:=by
 unfold mn;split
 ·next h=>exact Rat.le_of_lt h
 ·exact uh
theorem kF(a b:Rat):mn a b<=b:=by
 unfold mn;split
 ·exact uh
 ·next h=>exact Rat.not_lt.mp h
theorem m4{a b c:Rat}(h1:c<=a)(h2:c<=b):c<=mn a b:=by unfold mn;split<;>assumption
theorem yR(a b:Rat):mn a b=a\/mn a b=b:=by
 unfold mn;split
 ·exact .inr rfl
 ·exact .inl rfl
theorem vw{a b c:Rat}(hc:c=a\/c=b)(h1:c<=a)(h2:c<=b):mn a b=c:=by
 rcases hc with rfl|rfl
 ·exact GH (fY _ _) (m4 h1 h2)
 ·exact GH (kF _ _) (m4 h1 h2)
theorem YJ{a b c:Rat}(h:a<=b)(hc:0<=c):a<=b+c:=fg h (by have:=(Rat.add_le_add_left (c:=b)).mpr hc;rwa [Rat.add_zero]at this)
section
variable (n:Nat)(own:Nat->Rat)(L:Nat->Option Nat)(r f:Int)
def Pz(g:Nat->Rat):Nat->Rat |0=>g n |k+1=>match L (n-(k+1))with |some m=>mn (g (n-(k+1))) (Pz g k+((f*(m:Int):Int):Rat)) |none=>g (n-(k+1))
def fl(g:Nat->Rat)(i:Nat):Rat:=Pz n L f g (n-i)
end
section
variable {n:Nat}{own g:Nat->Rat}{L:Nat->Option Nat}{r f:Int}
theorem zC:fl n L f g n=g n:=by unfold fl;rw[Nat.sub_self];rfl
theorem zD{i m:Nat}(hi:i<n)(h:L i=some m):fl n L f g i=mn (g i) (fl n L f g (i+1)+((f*(m:Int):Int):Rat)):=by
 unfold fl;have e:n-i=(n-(i+1))+1:=by omega
 rw[e];show(match L (n-((n-(i+1))+1))with|some m=>_|none=>_)=_;have e2:n-((n-(i+1))+1)=i:=by omega
 rw[e2,h]
theorem zB{i:Nat}(hi:i<n)(h:L i=none):fl n L f g i=g i:=by
 unfold fl;have e:n-i=(n-(i+1))+1:=by lia
 rw[e];show(match L (n-((n-(i+1))+1))with|some m=>_|none=>_)=_;have e2:n-((n-(i+1))+1)=i:=by lia
 rw[e2,h]
theorem down{C:Nat->Prop}(hn:C n)(hs:∀i,i<n->C (i+1)->C i):∀i,i<=n->C i:=by
 have key:∀k,k<=n->C (n-k):=λk=>by induction k with |zero=>intro _;exact hn |succ k ih=>
  intro hk;refine hs _ bK ?_;have e:n-(k+1)+1=n-k:=by omega
  rw[e];exact ih bK
 intro i hi;have:=key (n-i) bK;have e:n-(n-i)=i:=by omega
 rwa [e]at this
end
open _r
theorem yS{n:Nat}{a b:Rat}(h1:Bd n a)(h2:Bd n b):Bd n (mn a b):=by rcases yR a b with e|e<;>rw[e]<;>assumption
theorem Gg{n:Nat}{q:Rat}{z:Int}(h:Bd n q)(hz:z.natAbs<2^24):Bd (n+25) (q+(z:Rat)):=by have b:Bd 24 (z:Rat):=⟨hz,by show 1<2^24;decide⟩;exact(h.add b).mono aw
theorem a2x{n b:Nat}{g:Nat->Rat}{L:Nat->Option Nat}{f:Int}(ho:∀i,i<=n->Bd b (g i))(hL:∀i m,L i=some m->(f*(m:Int)).natAbs<2^24):∀i,i<=n->Bd (b+25*(n-i)) (fl n L f g i):=by
 refine down ?_ λi hi ih=>?_
 ·rw[zC];exact(ho n (bA _)).mono aw
 ·cases h:L i with |none=>rw[zB hi h];exact(ho i aw).mono aw |some m=>rw[zD hi h];exact yS ((ho i aw).mono aw) ((Gg ih (hL i m h)).mono aw)
def lst(n:Nat)(g:Nat->Rat):List Rat:=(List.range (n+1)).map g
theorem qE(n:Nat)(g:Nat->Rat):(lst n g).length=n+1:=by simp[lst]
theorem qF{n:Nat}(g:Nat->Rat){i:Nat}(h:i<=n):(lst n g)[i]? =some (g i):=by unfold lst;rw[cZ,cH (by simp;lia),xp];rfl
theorem Yi{n:Nat}{g g':Nat->Rat}{i:Nat}(h:∀k,k<=n->k≠i->g' k=g k):(lst n g).set i (g' i)=lst n g':=by
 apply PU;intro k;by_cases hk:k<=n
 ·rw[qF g' hk,List.getElem?_set]
  by_cases e:i=k
  ·subst e;rw[bo rfl,bo (by rw[qE];lia)]
  ·rw[bf e,qF g hk,h k hk (λz=>e z.symm)]
 ·rw[uy (by rw[List.length_set,qE];lia),uy (by rw[qE];lia)]
theorem DT{n:Nat}{g g':Nat->Rat}(h:∀k,k<=n->g' k=g k):lst n g=lst n g':=by
 apply PU;intro k;by_cases hk:k<=n
 ·rw[qF g hk,qF g' hk,h k hk]
 ·rw[uy (by rw[qE];lia),uy (by rw[qE];lia)]
end _P
namespace _O
open _P _C _l _r
abbrev Itm:=Option (List Int × Int)
def topR(rate sp:Int):Rat:=Rat.divInt ((sp*rate)^2) 10000
def cornO(j:Int)(ns ms:List Int):Option Rat:=if aJ (fu ns ms)=0 then none else some (Rat.divInt ((j*aJ ns*aJ ms)^2) ((aJ (fu ns ms):Int)^2))
def mnO(a:Rat):Option Rat->Rat |none=>a |some c=>mn a c
def betR(j rate:Int):Itm->Itm->Rat |some (ns,sp),some (ms,sq)=>mnO (mn (topR rate sp) (topR rate sq)) (cornO j ns ms) |_,_=>0
def atO(os:List Itm)(i:Nat):Itm:=(os[i]?).join
def ownF(j rate:Int)(os:List Itm):Nat->Rat |0=>0 |i+1=>betR j rate (atO os i) (atO os (i+1))
def leadF(os:List Itm)(i:Nat):Option Nat:=(atO os i).map λq=>aJ q.1
def ownL(j rate:Int)(os:List Itm):List Rat:=(List.range (os.length+1)).map (ownF j rate os)
theorem tX{os:List Itm}{i:Nat}{o:Itm}(h:os[i]? =some o):atO os i=o:=by unfold atO;rw[h];rfl
theorem a51{os:List Itm}{i:Nat}(h:os.length<=i):atO os i=none:=by unfold atO;rw[uy h];rfl
theorem Oz(j rate:Int)(o:Itm):betR j rate o none=0:=by unfold betR;split<;>simp_all
theorem a4T(j rate:Int)(o:Itm):betR j rate none o=0:=by unfold betR;split<;>simp_all
theorem US(j rate:Int)(os:List Itm):∀n,n=os.length->ownF j rate os n=0 |0,_=>rfl |n+1,h=>by show betR j rate (atO os n) (atO os (n+1))=0;rw[a51 (i:=n+1) aw];exact Oz _ _ _
theorem UP(j rate:Int)(os:List Itm):(ownL j rate os).length=os.length+1:=by simp[ownL]
theorem UQ(j rate:Int)(os:List Itm){i:Nat}(h:i<=os.length):(ownL j rate os)[i]? =some (ownF j rate os i):=by unfold ownL;rw[cZ,cH (by simp;lia),xp];rfl
theorem L9(j rate:Int){os:List Itm}(h:os≠[]):ownL j rate os=[0]++(List.range (os.length-1)).map (λi=>ownF j rate os (i+1))++[0]:=by
 have h0:0<os.length:=GW.mpr h;apply PU;intro i;by_cases hi:i<=os.length
 ·rw[UQ j rate os hi]
  rcases Nat.eq_zero_or_pos i with rfl|hp
  ·rfl
  ·by_cases hl:i=os.length
   ·rw[Ap (by simp;lia),hl,US j rate os _ rfl]
    have:os.length-([0]++List.map (λi=>ownF j rate os (i+1)) (List.range (os.length-1))).length=0:=by simp;lia
    rw[this];rfl
   ·rw[Aq (by simp;lia),Ap (by simp;lia),cZ]
    have e:i-[(0:Rat)].length=i-1:=rfl;rw[e,cH (by simp;lia),xp];show some _=some (ownF j rate os (i-1+1));rw[Nat.sub_add_cancel hp]
 ·rw[uy (by rw[UP];lia),uy (by simp;lia)]
theorem xQ(rate sp:Int):0<=topR rate sp:=by
 unfold topR;rw[ui az,fU,fU,mO,mQ];rcases Int.le_total 0 (sp*rate)with h|h
 ·exact lI h h
 ·exact PY h h
theorem S4(a:Int):0<=a^2:=by
 rw[fU,fU,mO,mQ];rcases Int.le_total 0 a with h|h
 ·exact lI h h
 ·exact PY h h
theorem a4l{j:Int}{ns ms:List Int}{c:Rat}(h:cornO j ns ms=some c):0<=c:=by
 unfold cornO at h;split at h
 ·cases h
 ·next h0=>
  cases h;rw[ui]
  ·exact S4 _
  ·rw[fU,fU,mO,mQ];exact jB aw aw
theorem a4U(j rate:Int)(o p:Itm):0<=betR j rate o p:=by
 unfold betR;split
 ·next ns sp ms sq=>
  have h:=m4 (xQ rate sp) (xQ rate sq);unfold mnO;split
  ·exact h
  ·next c e=>exact m4 h (a4l e)
 ·exact uh
theorem UR(j rate:Int)(os:List Itm):∀i,0<=ownF j rate os i |0=>uh |i+1=>a4U _ _ _ _
def OkI(o:Itm):Prop:=∀ns sp,o=some (ns,sp)->(∀z∈ns,(z.natAbs:Int)<=100)/\1<=sp/\sp<=20
theorem AN{a:Int}{m:Nat}(h:a.natAbs<=m):(a^2).natAbs<=m*m:=by rw[fU,fU,mO,mQ];exact lY h h
theorem xR{rate sp:Int}(h1:1<=sp)(h2:sp<=20)(h3:10<=rate)(h4:rate<=200):Bd 64 (topR rate sp):=by
 have nP:(2:Nat)^64=18446744073709551616:=by decide
 have a:=AN (lY (a:=sp) (b:=rate) (m:=20) (n:=200) aw aw);exact ja az (by rw[nP];lia) az
theorem Oa{j:Int}{ns ms:List Int}{c:Rat}(h1:1<=j)(h2:j<=50)(hn:∀z∈ns,(z.natAbs:Int)<=100)(hm:∀z∈ms,(z.natAbs:Int)<=100)(h:cornO j ns ms=some c):Bd 64 c:=by
 have nP:(2:Nat)^64=18446744073709551616:=by decide
 have cb:=FQ (λz hz=>by have:=hn z hz;lia) (λz hz=>by have:=hm z hz;lia) (ns:=ns) (ms:=ms);have hb:=ny cb;have l1:=ny (ns:=ns) (m:=100) λz hz=>by have:=hn z hz;lia
 have l2:=ny (ns:=ms) (m:=100) λz hz=>by have:=hm z hz;lia
 unfold cornO at h;split at h
 ·cases h
 ·next h0=>cases h;have a:=AN (lY (lY (a:=j) (b:=(aJ ns:Int)) (m:=50) (n:=100) aw aw) (b:=(aJ ms:Int)) (n:=100) aw);have b:=AN (a:=(aJ (fu ns ms):Int)) (m:=2000000) aw;refine ja ?_ (by rw[nP];lia) (by rw[nP];lia);rw[fU,fU,mO,mQ];exact Hc aw aw
theorem yS{n:Nat}{a b:Rat}(h1:Bd n a)(h2:Bd n b):Bd n (mn a b):=by rcases yR a b with e|e<;>rw[e]<;>assumption
theorem Hi:Bd 64 (0:Rat):=⟨ az,az⟩
theorem a4V{j rate:Int}{o p:Itm}(h1:1<=j)(h2:j<=50)(h3:10<=rate)(h4:rate<=200)(ho:OkI o)(hp:OkI p):Bd 64 (betR j rate o p):=by
 unfold betR;split
 ·next ns sp ms sq=>
  obtain⟨a1,a2,a3⟩:=ho ns sp rfl;obtain⟨b1,b2,b3⟩:=hp ms sq rfl;have h:=yS (xR a2 a3 h3 h4) (xR b2 b3 h3 h4);unfold mnO;split
  ·exact h
  ·next c e=>exact yS h (Oa h1 h2 a1 b1 e)
 ·exact Hi
def OkIs(os:List Itm):Prop:=∀i,OkI (atO os i)
theorem Lc{j rate:Int}{os:List Itm}(h1:1<=j)(h2:j<=50)(h3:10<=rate)(h4:rate<=200)(ho:OkIs os):∀i,Bd 64 (ownF j rate os i) |0=>Hi |i+1=>a4V h1 h2 h3 h4 (ho i) (ho (i+1))
end _O
namespace _W
open PySem _L
def jx(pl ns:List Int):List Int:=List.zipWith (λa b=>a+b) pl ns
theorem Gh{pl ns:List Int}(h:ns.length=pl.length):(jx pl ns).length=pl.length:=by unfold jx;rw[List.length_zipWith,h];exact Nat.min_self _
theorem a5c{pl ns:List Int}{i:Nat}{a b:Int}(h1:pl[i]? =some a)(h2:ns[i]? =some b):(jx pl ns)[i]? =some (a+b):=by unfold jx;rw[List.getElem?_zipWith,h1,h2]
def j9(rs pl:List Int):Bool:=(pl.zip rs).all λp=>decide (0<=p.1)&&decide (p.1<=p.2)
structure jV(rs pl:List Int):Prop where
 len:pl.length=rs.length
 at':∀(i:Nat)(x r:Int),pl[i]? =some x->rs[i]? =some r->0<=x/\x<=r
theorem Lj{rs pl:List Int}(h:pl.length=rs.length):j9 rs pl=true↔jV rs pl:=by
 unfold j9;rw[fG];constructor
 ·intro a
  refine⟨h,λi x r e1 e2=>?_⟩;have:=a (x,r) (hJ ((xq (z:=(x,r))).mpr ⟨e1,e2⟩));rw[d6,rE,rE]at this;exact this
 ·rintro a ⟨x,r⟩ hp
  obtain⟨i,hi⟩:=xk.mp hp;obtain⟨e1,e2⟩:=(xq (z:=(x,r))).mp hi;have:=a.at' i x r e1 e2;rw[d6,rE,rE];exact this
end _W
namespace _L
open PySem PySem.Spec PyProof.Rows
inductive a7n(K:aa)(x:V)(y:V)(H:Hp)(Q:VK):Prop |mk (a:_)(b:_)(xs:_)(ys:_)(h0:x= .ref a)(h1:y= .ref b)(h2:aQ K H a xs)(h3:aQ K H b ys)(h4:xs.length+ys.length<=sizeLine)(h5:∀c H',aA H H'->aQ K H' c (xs++ys)->Q (.ref c) H')
def U8(K:aa):R2:=λx y H Q=>a7n K x y H Q
inductive a6Y(K:aa)(x:V)(lo:Option Int)(hi:Option Int)(H:Hp)(Q:VK):Prop |mk (a:_)(xs:_)(h0:x= .ref a)(h1:aQ K H a xs)(h2:∀c H',aA H H'->aQ K H' c (gG xs lo hi)->Q (.ref c) H')
def TK(K:aa):V->Option Int->Option Int->Hp->VK->Prop:=λx lo hi H Q=>a6Y K x lo hi H Q
theorem a4g{xs:List V}{lo hi:Option Int}(h1:_H.bI xs.length 0 lo=0)(h2:_H.bI xs.length xs.length hi=xs.length):gG xs lo hi=xs:=by unfold gG;rw[h1,h2];simp
section
variable {X:Cx}
theorem pF(K:aa)(hK:X.K=K):cn X (binaryOp .Add) (U8 K):=by
 subst hK;intro ak s O H x y v u Q I rx ry h;obtain⟨a,b,xs,ys,rfl,rfl,ha,hb,hz,q⟩:=h;cases rx;cases ry;obtain⟨its,r1,p1,_⟩:=I.tuple ha;obtain⟨jq,r2,p2,_⟩:=I.tuple hb;by_cases e0:xs=[]
 ·subst e0
  have i0:its=[]:=r1.DE.mpr rfl;subst i0;obtain⟨⟨cls,dd,data,sl⟩,ho,hc,n,hd⟩:=id p1;obtain⟨⟨Oh,tV,data2,ow⟩,m9,fL,n2,hd2⟩:=id p2;simp only at hc hd fL hd2;subst hc hd fL hd2;exact concat_meets ⟨_,ho,Z⟩ ⟨_,m9,Z⟩ noFill_tuple_add seq_tuple_add Px PB (PD _ _) (tuple_addW0 a b _ jq.toArray n n2 dd tV sl ow (by simp)) ⟨ho,m9,⟨.ref b,H,I,Z,q _ _ (aA.refl H) hb⟩⟩
 ·refine _H.a4x p1 p2 (λz=>e0 (r1.DE.mp z)) (λz=>⟨.ref a,H,I,Z,?_⟩) (λz=>?_) (by rw[<-r1.length,<-r2.length];exact hz)
  ·have e1:ys=[]:=r2.DE.mp z
   subst e1;exact q _ _ (aA.refl H) (by rw[jk];exact ha)
  ·have hf:H s.heap.objs.size=none:=I.aV.fresh (bA _)
   have nw:Nw H (upd H s.heap.objs.size (.tup (xs++ys))) s.heap.objs.size (.tup (xs++ys)):=.of hf;refine⟨.ref s.heap.objs.size,_,I.laid (t':=s.toks) (o:=.tup (xs++ys)) (λb ob q=>bL _ q) (bA _) ?_,Z,q _ _ nw.same (aQ.of nw.at')⟩;exact⟨by rw[fi];exact hz,_,r1.append r2,IsTup.new _ _⟩
theorem B6(K:aa)(hK:X.K=K):wH X (TK K):=by
 subst hK;intro ak s O H x v vl vu lo hi sl Q I rx hs pl pu h;obtain⟨a,xs,rfl,EG,q⟩:=h;by_cases hw:_H.bI xs.length 0 lo=0/\_H.bI xs.length xs.length hi=xs.length
 ·cases rx
  obtain⟨its,r,ht,hz⟩:=I.tuple EG;have hlen:its.toArray.size=xs.length:=by rw[cY];exact r.length.symm
  refine⟨"tuple",_,x6.lookup,ht.typeIs,?_⟩;refine _H.a1T ht hs pl pu (by rw[hlen];exact hw) ⟨.ref a,H,I,Z,q _ _ (aA.refl H) ?_⟩;rw[a4g hw.1 hw.2];exact EG
 ·refine IY ak s O H _ v vl vu lo hi sl Q I rx hs pl pu ⟨a,xs,Z,EG,hw,λr hr=>?_⟩
  have nw:Nw H (upd H r (.tup (gG xs lo hi))) r (.tup (gG xs lo hi)):=.of hr;exact q _ _ nw.same (aQ.of nw.at')
end
theorem a4f(xs:List V):gG xs none (some (-1))=xs.take (xs.length-1):=by
 unfold gG;have e:=_H.FY (-1) xs.length xs.length;rw[_H.Kh];have e2:_H.bI xs.length xs.length (some (-1))=xs.length-1:=by simp at e;omega
 rw[e2];simp
section
variable {X:Cx}
theorem Dk(K:aa)(h:X.K=K){o e:Expr}{to:TE}{t:TA}{apos cg:Pos}(ho:PE X o to)(ha:PA X [e] t) (kR:autoParam (attributeBase o "extend" X.env (eval o X.env)=eval o X.env) r8_._auto_1) (kP:autoParam (((backTo cg (starEach [e] X.env)).all (λx=>!x.1)&&(backToKw cg (keywordEach [] X.env)).all (λx=>x.1.isSome) &&decide ([e].length+([]:List Keyword).length+(if([]:List Keyword).isEmpty then 0 else 1)<30))=true) r8_._auto_1) (kM:autoParam ((apos.endLine==cg.line)=true) r8_._auto_1)(hs:autoParam (starEach [e] X.env=(false,eval e X.env)::starEach [] X.env) r8_._auto_1)(kK:autoParam ((backTo cg (starEach [] X.env)).any (·.1)=false) r8_._auto_1): PE X (.Call (.Attribute o "extend" apos) [e] [] cg) (rV K "list" KJ to t):=by subst h;exact vb PySem.F.plainAttrs_list PySem.F.slot_list_extend PySem.F.type_list_extend Xy ho ha kR kP kM hs kK
open PyProof
end
end _L
namespace _L
open PySem PySem.Spec PyProof.Rows
theorem a4p{J:It}{n:Nat}(xv:Nat->V)(p:Nat->Bool)(g:Nat->Int){tt:TT}{te:TE}{Q:VK}{D:Addr}{H H0:Hp}(rest:St)(nw:Nw H H0 D (.lst []))(hz:n<=100000) (go:∀i H2,i<n->aA H H2->J.go i H2/\∀y H3,J.gw i H2 y H3->H3=H2/\y=xv i)(stop:∀H2,aA H H2->J.stop n H2) (ht:∀(i:Nat)(H2:Hp)(Q':Bool->Hp->Prop),i<n->aA H H2->(∀H3,aA H2 H3->Q' (p i) H3)->tt (some (xv i)::rest) H2 Q') (he:∀(i:Nat)(H2:Hp)(Q':VK),i<n->p i=true->aA H H2->(∀H3,aA H2 H3->Q' (.int (g i)) H3)->te (some (xv i)::rest) H2 Q') (hq:∀H',aA H H'->H' D=some (.lst ((((List.range n).filter p).map g).map V.int))->Q (.ref D) H'):jz J (gj 0) tt te Q D (none::rest) H0:=by
 have hD:=nw.no;refine qS n (λi O H2=>aA H H2/\H2 D=some (.lst ((((List.range i).filter p).map g).map V.int))/\∃v,O=v::rest) ?_ ?_ ?_
 ·exact⟨nw.same,nw.at',none,Z⟩
 ·rintro i O H2 hi ⟨s2,d2,v,rfl⟩
  obtain⟨g1,g2⟩:=go i H2 hi s2;refine⟨g1,λx H3 hy=>?_⟩;obtain⟨rfl,rfl⟩:=g2 x H3 hy;refine ht i _ _ hi s2 λH4 s4=>?_;have d4:=s4 _ _ d2;have er:(List.range (i+1)).filter p=(List.range i).filter p++(if p i=true then[i]else[]):=by rw[List.range_succ,List.filter_append];congr 1;cases h:p i<;>simp[h]
  cases h:p i with |true=>
   refine ba ?_;refine he i _ _ hi h (s2.trans s4) λH5 s5=>?_;have d5:=s5 _ _ d4;refine⟨_,d5,?_,n-(i+1),aw,Z,aw,λb o e=>?_,?_,_,Z⟩
   ·have:(100000:Nat)<sizeLine:=by decide
    have h1:=List.length_filter_le p (List.range i);rw[Ao]at h1;rw[bR,bR]
    lia
   ·rw[aL (eH e hD)];exact s5 b o (s4 b o (s2 b o e))
   ·rw[bp,er,h,bo Z,lH,lH];rfl |false=>refine aU ?_;refine⟨n-(i+1),aw,Z,aw,s2.trans s4,?_,_,Z⟩;rw[er,h];simpa using d4
 ·rintro O H2 ⟨s2,d2,v,rfl⟩
  exact⟨stop H2 s2,hq H2 s2 d2⟩
section
variable {K:aa} {H H' H2:Hp}
end
def u7(z:Str):It:=⟨λi _=>i<z.cps.size,λi H x H'=>H'=H/\∃c,z.cps.toList[i]? =some c/\x= .str ⟨#[c]⟩,λi _=>z.cps.size<=i⟩
theorem QI{P:af}{w:World}{K:aa}{tg:Expr}(it:Addr)(z:Str)(t:Tok)(ty:String)(Ee:["enumerate","zip","dict_itemiterator","dict_reverseitemiterator","odict_iterator","itertools.zip_longest","itertools.pairwise"].contains ty=false) (W:∀A':ai,A'.handled=none->Walks P w A' it [it] [it] z.cps.size (SignAt z) (λi h=>h.IsStrIter it ty z t i)) (self:∀(A:ai)(i:Nat)(s:ae)(Q:Value->ae->Prop)(E:Value->ae->Prop),s.heap.IsStrIter it ty z t i->Q (.ref it) s->wpAny (model P w) A (pyIter (.ref it)) Q E s): Turn P w K tg (u7 z) [it] it (λi h=>h.IsStrIter it ty z t i/\i<=z.cps.size) where
 mem:=by simp
 obj:=λi h st b hb=>by
  have e:b=it:=by simpa using hb
  subst e;obtain⟨⟨o,e,c,d⟩,_⟩:=st;exact⟨o,e,λv z=>by rw[d]at z;cases z⟩
 keep:=λi h h' st k=>⟨let⟨o,e,r⟩:=st.1;⟨o,k it (by simp) o e,r⟩,st.2⟩
 item:=by intro X hP hw hK hc i ak s O H E I hf st hg;subst hP hw hK;obtain⟨f0,f1,f2,f3,f4,f5⟩:=hf it (by simp);refine(W X.A (I.ok.hd hc)).item i s _ _ hg st.1 λv h' tk hv gB kk=>?_;obtain⟨c,u,ec,rfl⟩:=hv;have I1:Inv X ak O H {s with heap:=h',toks:=tk}:=I.turned (λb o hb e=>kk b o (by simpa using hb) e) f0 f1 f3 f4 f5;obtain⟨o,e,cl,d⟩:=id gB;exact⟨_,Z,tL (s:={s with heap:=h',toks:=tk}) e cl d Ee ⟨.str ⟨#[c]⟩,H,I1,⟨u,Z⟩,⟨Z,c,by simpa using ec,Z⟩,⟨gB,hg⟩,λb hb=>(hf b hb).1⟩⟩
 done:=by intro X hP hw hK hc i ak s O H E I hf st hg;subst hP hw hK;obtain⟨f0,f1,f2,f3,f4,f5⟩:=hf it (by simp);obtain⟨st,hle⟩:=st;have ei:i=z.cps.size:=Nat.le_antisymm hle hg;subst ei;exact(W X.A (I.ok.hd hc)).done s _ _ st λh' tk eb=>⟨Z,I.turned (λb o hb e=>eb b o (by simpa using hb) e) f0 f1 f3 f4 f5⟩
 self:=λA i s Q E st h=>self A i s Q E st.1 h
section
variable {X:Cx} {tg:Expr}
inductive a7u(R:It->Hp->Prop)(x:V)(H1:Hp):Prop |mk (z:_)(h0:x= .str z)(h1:R (u7 z) H1)
def Zg(tl:TE):TI:=λO H R=>tl O H λx H1=>a7u R x H1
theorem Dh{l:Expr}{tl:TE}(hl:PE X l tl):PI X tg l (Zg tl):=by
 intro ak s O H R I h;refine aR (hl ak s O H _ I h) λv s1 ⟨x,H1,I1,r1,q1⟩=>?_;obtain⟨z,e,q⟩:=q1;subst e;obtain⟨t,rfl⟩:=r1;have fin:∀ty,["enumerate","zip","dict_itemiterator","dict_reverseitemiterator","odict_iterator","itertools.zip_longest","itertools.pairwise"].contains ty=false->(∀A':ai,A'.handled=none->Walks X.prog X.w A' s1.heap.objs.size [s1.heap.objs.size] [s1.heap.objs.size] z.cps.size (SignAt z) (λi h=>h.IsStrIter s1.heap.objs.size ty z t i))->(∀(A:ai)(i:Nat)(s:ae)(Q:Value->ae->Prop)(E:Value->ae->Prop),s.heap.IsStrIter s1.heap.objs.size ty z t i->Q (.ref s1.heap.objs.size) s->wpAny (model X.prog X.w) A (pyIter (.ref s1.heap.objs.size)) Q E s)->Gq X ak O tg R (.ref s1.heap.objs.size) {s1 with heap:=s1.heap.push {cls:=.type ty,data:=.fields #[.str z t,.int 0 0]}}:=λty h1 h2 h3=>by
  refine⟨s1.heap.objs.size,[s1.heap.objs.size],_,_,H1,Z,I1.kept (t':=s1.toks) λb o e=>bL _ e,QI _ z t ty h1 h2 h3,⟨⟨_,dw _ Z,Z,Z⟩,fh _⟩,λb hb=>?_,q⟩;have e:b=s1.heap.objs.size:=by simpa using hb
  subst e;exact I1.nQ (bA _) (I1.aV.fresh (bA _))
 cases ha:z.cps.all (·<128)
 ·exact wpAny_pyIter_wide ha (fin "str_iterator" az (λA' hA=>Walks.strWide hA _ z t) (λ_ _ _ _ _ st h=>wpAny_pyIter_striter_wide st h))
 ·exact wpAny_pyIter_ascii ha (fin "str_ascii_iterator" az (λA' hA=>Walks.strAscii hA _ z t) (λ_ _ _ _ _ st h=>wpAny_pyIter_striter_ascii st h))
theorem Od{z:Str}{f:Nat->Bool}{te:TE}{Q:VK}{D:Addr}{H H0:Hp}(rest:St)(nw:Nw H H0 D (.lst []))(hz:z.length<=1000) (hs:∀(c:Nat)(H2:Hp)(Q':VK),c∈z.cps.toList->aA H H2->(∀H3,aA H2 H3->Q' (.bl (f c)) H3)->te (some (.str ⟨#[c]⟩)::rest) H2 Q') (hq:∀H',aA H H'->H' D=some (.lst ((z.cps.toList.map f).map V.bl))->Q (.ref D) H'):jz (u7 z) (gj 0) jl te Q D (none::rest) H0:=by
 have hl:z.cps.toList.length=z.cps.size:=by simp
 refine Oe (xs:=z.cps.toList.map λc=>V.str ⟨#[c]⟩) (bs:=z.cps.toList.map f) rest nw (by simp) (by simpa[Str.length]using hz) ?_ ?_ ?_ hq
 ·intro i x H2 ex s2
  rw[cZ]at ex;cases ec:z.cps.toList[i]? with |none=>rw[ec]at ex;cases ex |some c=>rw[ec]at ex;cases ex;refine⟨by have:=(eU.mp ec).1;show i<z.cps.size;omega,λy H3 ⟨e3,c',NN,e⟩=>⟨e3,?_⟩⟩;rw[ec]at NN;cases NN;exact e
 ·intro H2 s2
  show z.cps.size<=(z.cps.toList.map _).length;rw[bR,hl];exact bA _
 ·intro i x b H2 Q' ex eb s2 fK
  rw[cZ]at ex eb;cases ec:z.cps.toList[i]? with |none=>rw[ec]at ex;cases ex |some c=>rw[ec]at ex eb;cases ex;cases eb;exact hs c H2 Q' (hJ ec) s2 fK
theorem Lf:cn X (compareOp .In) (λx y H Q=>∃c j,x= .str ⟨#[c]⟩/\y= .str j/\Q (.bl (decide (c∈j.cps.toList))) H):=by intro ak s O H x y v u Q I rx ry h;obtain⟨c,j,rfl,rfl,q⟩:=h;refine V3 ak s O H _ _ v u Q I rx ry ⟨_,_,Z,Z,?_⟩;rw[PySem.StrLaws.found_one];exact q
inductive a7g(K:aa)(x:V)(y:V)(H:Hp)(Q:VK):Prop |mk (p:_)(xs:_)(d:_)(ds:_)(h0:y= .ref p)(h1:aQ K H p xs)(h2:RD K H x d)(h3:aI K H xs ds)(h4:SeqAt.shaped d=true)(h5:(∀e∈ds,SeqAt.shaped e=true))(h6:Q (.bl (ds.any λe=>PyData.eqv e d)) H)
def U5(K:aa):R2:=λx y H Q=>a7g K x y H Q
theorem Zb(K:aa)(hK:X.K=K)(hu:X.A.units+65<cLine):cn X (compareOp .In) (U5 K):=by
 subst hK;intro ak s O H x y v u Q I rx ry h;obtain⟨p,xs,d,ds,rfl,hx,hd,kQ,sd,B8,q⟩:=h;cases ry;obtain⟨its,r,pl,hz⟩:=I.tuple hx;obtain⟨k1,k2⟩:=FC I hu rx hd sd r kQ B8;refine SeqAt.in_tupleAt (nU s.heap d) (show s.heap.IsTuple p its.toArray from pl) (λw hw=>k1 w (by simpa using hw)) ⟨.bl _,H,I,Z,?_⟩;have e:its.toArray.any (nU s.heap d)=ds.any λe=>PyData.eqv e d:=by rw[<-k2];simp
 rw[e];exact q
end
structure MA(K:aa)(C:Addr)(m qual:Str)(st:Stmt):Prop where ex:∃f fd,Meth K C m f/\gq K m qual st f fd
def eL(P:af)(w:World)(K:aa)(mg:bc)(au:Heap)(C:Addr)(m:Str)(k:Nat)(sp:Sp):Prop:=∃f fd ps,dS P w K mg au eM k f fd ps sp/\Meth K C m f/\Binds K fd ps []
structure CA(K:aa)(mg:bc)(C:Addr)(x qual:Str)(st:Stmt):Prop where
 LP:mg x=some (.ref C)
 ex:∃f fd,Mk K C f/\gq K "__init__" qual st f fd
def r9(P:af)(w:World)(K:aa)(mg:bc)(au:Heap)(C:Addr)(x:Str)(k:Nat)(sp:Sp):Prop:=∃f fd ps,dS P w K mg au eM k f fd ps sp/\Mk K C f/\Binds K fd ps []/\mg x=some (.ref C)
section
variable {P:af}{w:World}{K:aa}{mg:bc}{au:Heap}
theorem iL{C:Addr}{m qual:Str}{st:Stmt}{f:Addr}{oc:Value}{od an:Option Addr}{eG:Array (Option Value)}{kV doc pm aE ct:Value} (a:PySem.W.findIn K (.ref C) m=some (some (.ref f)))(i:PySem.W.isFn K (.ref f)=true) (l:K.lookup f=some ⟨oc,od,.func (PySem.W.fnOf m qual (iA st) (eB st) (aP st) .none kV doc pm an aE ct),eG⟩) (c:PySem.W.codeIn K aE qual=true)(k:PySem.W.keepIn K (.ref f)=true):MA K C m qual st:=⟨f,_,⟨a,i,k⟩,tN l c k⟩
theorem Oq{h:Heap}{C:Addr}{x qual:Str}{st:Stmt}{f:Addr}{oc:Value}{od an:Option Addr}{eG:Array (Option Value)}{kV doc pm aE ct:Value}(X:K.In h)(G:h.Ns mainGlobals mg) (aC:PySem.W.nsIn K mainGlobals x=some (some (.ref C)))(mk:PySem.W.makesIn K C=true)(kc:PySem.W.keepIn K (.ref C)=true) (a:PySem.W.findIn K (.ref C) "__init__"=some (some (.ref f)))(i:PySem.W.isFn K (.ref f)=true) (l:K.lookup f=some ⟨oc,od,.func (PySem.W.fnOf "__init__" qual (iA st) (eB st) (aP st) .none kV doc pm an aE ct),eG⟩) (c:PySem.W.codeIn K aE qual=true)(k:PySem.W.keepIn K (.ref f)=true):CA K mg C x qual st:=⟨rJ X G aC,f,_,⟨mk,a,i,kc⟩,tN l c k⟩
theorem MA.has{C:Addr}{m qual:Str}{st:Stmt}{N ps:List Str}{k:Nat}{sp:Sp}(F:MA K C m qual st)(S:bj N ps (aP st))(len:∀vs H Q E,sp vs H Q E->vs.length=ps.length) (hb:∀(kV doc pm:Value)(an:Option Addr)(aE ct:Value)(us:List Value),us.length=ps.length->bindArgs (PySem.W.fnOf m qual (iA st) (eB st) (aP st) .none kV doc pm an aE ct) ⟨us,[]⟩=pure (ps.zip us)) (fb:∀(f:Addr)(aE:Value)(A:ai)(outer:List Env)(s:ae)(H:Hp)(vs:List V)(Q:VK)(E:XK),bU k (A.deeper (envOfC qual (aP st) s.heap.objs.size f aE))->sp vs H Q E->∃t,eP (eX eM P w K mg au N qual (aP st) f aE A outer s H E).lW (eB st) t/\t {nx:=λ_ H'=>Q .aY H',rt:=Q} (start N vs) H):eL P w K mg au C m (k+1) sp:=by obtain⟨f,fd,hm,F⟩:=F.ex;exact⟨f,fd,ps,F.ok S len λaE A outer s H vs Q E=>fb f aE A outer s H vs Q E,hm,F.binds hb⟩
theorem CA.has{C:Addr}{x qual:Str}{st:Stmt}{N ps:List Str}{k:Nat}{sp:Sp}(F:CA K mg C x qual st)(S:bj N ps (aP st))(len:∀vs H Q E,sp vs H Q E->vs.length=ps.length) (hb:∀(kV doc pm:Value)(an:Option Addr)(aE ct:Value)(us:List Value),us.length=ps.length->bindArgs (PySem.W.fnOf "__init__" qual (iA st) (eB st) (aP st) .none kV doc pm an aE ct) ⟨us,[]⟩=pure (ps.zip us)) (fb:∀(f:Addr)(aE:Value)(A:ai)(outer:List Env)(s:ae)(H:Hp)(vs:List V)(Q:VK)(E:XK),bU k (A.deeper (envOfC qual (aP st) s.heap.objs.size f aE))->sp vs H Q E->∃t,eP (eX eM P w K mg au N qual (aP st) f aE A outer s H E).lW (eB st) t/\t {nx:=λ_ H'=>Q .aY H',rt:=Q} (start N vs) H):r9 P w K mg au C x (k+1) sp:=by obtain⟨f,fd,hm,F'⟩:=F.ex;exact⟨f,fd,ps,F'.ok S len λaE A outer s H vs Q E=>fb f aE A outer s H vs Q E,hm,F'.binds hb,F.LP⟩
end
section
variable {X:Cx}{k:Nat}{x m:Str}{C:Addr}{p pos apos:Pos}{o e:Expr}{es:List Expr}{t:TA}{ta:TE}{sp:Sp}
inductive P2(C:Addr)(m:Str)(sp:Sp)(t:TA)(O:St)(Q:VK)(x:V)(H1:Hp):Prop |mk (a:_)(dx:_)(fs:_)(h0:x= .ref a)(h1:H1 a=some (.ins C dx fs))(h2:fs.lookup m=none)(h3:t O H1 λvs H2=>sp (x::vs) H2 Q E0)
def HG(C:Addr)(m:Str)(sp:Sp)(ta:TE)(t:TA):TE:=λO H Q=>ta O H λx H1=>P2 C m sp t O Q x H1
theorem LM{O:St}{Q:VK}{x:V}{H1:Hp}:rk C m sp [] E0 t O Q x H1=P2 C m sp t O Q x H1:=by
 have e1:(λ(vs:List V) H1=>sp (x::(vs++[])) H1 Q E0)=λvs H1=>sp (x::vs) H1 Q E0:=by funext vs H1;rw[jk]
 refine propext ⟨λ⟨a,dx,fs,h0,h1,h2,h3⟩=>⟨a,dx,fs,h0,h1,h2,?_⟩,λ⟨a,dx,fs,h0,h1,h2,h3⟩=>⟨a,dx,fs,h0,h1,h2,?_⟩⟩
 ·rw[<-e1];exact h3
 ·rw[e1];exact h3
theorem yy{pl:Sem Bool}(F:eL X.prog X.w X.K X.mg X.au C m k sp)(c:gI X.K C)(hr:bU k X.A)(he:PE X o ta)(ha:PA X (e::es) t) (fq:autoParam (starEach (e::es) X.env=(false,eval e X.env)::starEach es X.env) r8_._auto_1)(dI:autoParam ((backTo pos (starEach es X.env)).any (·.1)=false) r8_._auto_1) (ht:eval (.Call (.Attribute o m apos) (e::es) [] pos) X.env=(do
 let ov<-eval o X.env
 standAt apos.atName
 let(f,first)<-holding [ov] (getMethod ov m pl)
 callWith pos f first (backTo pos (starEach (e::es) X.env)) (backToKw pos (keywordEach [] X.env))):=by rfl): PE X (.Call (.Attribute o m apos) (e::es) [] pos) (HG C m sp ta t):=by
 obtain⟨f,fd,ps,F,hm,hb⟩:=F;have h:=KW (pos:=pos) (apos:=apos) (pl:=pl) he c hm F hr hb .nil yC ha fq dI ht;intro ak s O H Q I hq;refine h ak s O H Q I ?_;show ta O H λx H1=>rk C m sp [] E0 t O Q x H1;simp only[LM];exact hq
theorem kA{pl:Sem Bool}(F:eL X.prog X.w X.K X.mg X.au C m k sp)(c:gI X.K C)(hr:bU k X.A)(he:PE X o ta) (ht:eval (.Call (.Attribute o m apos) [] [] pos) X.env=(do
 let ov<-eval o X.env
 standAt apos.atName
 let(f,first)<-holding [ov] (getMethod ov m pl)
 callWith pos f first (backTo pos (starEach [] X.env)) (backToKw pos (keywordEach [] X.env))):=by rfl): PE X (.Call (.Attribute o m apos) [] [] pos) (HG C m sp ta oj):=by
 obtain⟨f,fd,ps,F,hm,hb⟩:=F;have h:=KU (pos:=pos) (apos:=apos) (pl:=pl) he c hm F hr hb .nil yC ht;intro ak s O H Q I hq;refine h ak s O H Q I ?_;show ta O H λx H1=>rk C m sp [] E0 oj O Q x H1;simp only[LM];exact hq
def Rp(C:Addr)(sp:Sp)(t:TA):TE:=λO H Q=>t O H λvs H1=>∀x dx,H1 x=none->H1 dx=none->dx≠x->sp (.ref x::vs) (upd (upd H1 dx (.own x)) x (.ins C dx [])) (λv H2=>v= .aY/\Q (.ref x) H2) E0
theorem qp(F:r9 X.prog X.w X.K X.mg X.au C x k sp)(hr:bU (k+1) X.A)(hg:Gl X x)(ha:PA X (e::es) t)(eZ:autoParam ((x==("__debug__":Str))=false) q8_._auto_1) (he:autoParam (starEach (e::es) X.env=(false,eval e X.env)::starEach es X.env) r8_._auto_1)(dI:autoParam ((backTo pos (starEach es X.env)).any (·.1)=false) r8_._auto_1): PE X (.Call (.Name x p) (e::es) [] pos) (Rp C sp t):=by
 obtain⟨f,fd,ps,F,M,hb,hm⟩:=F;have h:=KY (pos:=pos) (p:=p) M F hr hg hm hb .nil yC ha eZ he dI;intro ak s O H Q I hq;refine h ak s O H Q I ?_;have e1:(λ(vs:List V) H1=>∀x dx,H1 x=none->H1 dx=none->dx≠x->sp (.ref x::(vs++[])) (upd (upd H1 dx (.own x)) x (.ins C dx [])) (λv H2=>v= .aY/\Q (.ref x) H2) E0) =λvs H1=>∀x dx,H1 x=none->H1 dx=none->dx≠x->sp (.ref x::vs) (upd (upd H1 dx (.own x)) x (.ins C dx [])) (λv H2=>v= .aY/\Q (.ref x) H2) E0:=by funext vs H1;rw[jk]
 show t O H λvs H1=>∀x dx,H1 x=none->H1 dx=none->dx≠x->sp (.ref x::(vs++[])) (upd (upd H1 dx (.own x)) x (.ins C dx [])) (λv H2=>v= .aY/\Q (.ref x) H2) E0;rw[e1];exact hq
inductive IAt(C:Addr)(x:Str)(Q:VK)(v:V)(H1:Hp):Prop |mk (a dx:Addr)(fs:List (Str×V))(u:V)(h0:v= .ref a)(h1:H1 a=some (.ins C dx fs))(h2:fs.lookup x=some u)(h3:Q u H1)
theorem cV(T:gI X.K C)(hn:gp X.K C x)(he:PE X e ta)(hb:autoParam (attributeBase e x X.env (eval e X.env)=eval e X.env) r8_._auto_1): PE X (.Attribute e x pos) (λO H Q=>ta O H λv H1=>IAt C x Q v H1):=by intro ak s O H Q I h;refine a4Z hb (aR (he ak s O H _ I h) λu s1 ⟨v,H1,I1,rx,a,dx,fs,w,ex,ea,l,q⟩=>?_);subst ex;obtain rfl:u=Value.ref a:=rx;exact Nf I1 ea T hn l λu' s2 I2 ru=>⟨w,H1,I2,ru,q⟩
inductive a7E(C:Addr)(x:Str)(D:Ends)(O:St)(y v:V)(H2:Hp):Prop |mk (a dx:Addr)(fs:List (Str×V))(h0:v= .ref a)(h1:H2 a=some (.ins C dx fs))(h2:fs.length<1000)(h3:D.nx O (upd H2 a (.ins C dx (fM x y fs))))
inductive a7G(C a:Addr)(x:Str)(D:Ends)(O:St)(z:V)(H3:Hp):Prop |mk (pA:Addr)(ix:List (Str×V))(h0:H3 a=some (.ins C pA ix))(h1:ix.length<1000)(h2:D.nx O (upd H3 a (.ins C pA (fM x z ix))))
inductive a7H(C:Addr)(x:Str)(tv:TE)(rd:V->V->Hp->VK->Prop)(D:Ends)(O:St)(v:V)(H1:Hp):Prop |mk (a dx:Addr)(fs:List (Str×V))(u:V)(h0:v= .ref a)(h1:H1 a=some (.ins C dx fs))(h2:fs.lookup x=some u)(h3:tv O H1 λy H2=>rd u y H2 λz H3=>a7G C a x D O z H3)
theorem fH{value:Expr}{tv:TE}{pos':Pos}(T:gI X.K C)(hn:gp X.K C x)(ha:PE X o ta)(hv:PE X value tv)(hs:autoParam (swapsWith value (some (.Attribute o x pos')) pos.line X.env=pure false) r8_._auto_1): PS X (.Assign [.Attribute o x pos'] value pos) (λD O H=>tv O H λy H1=>ta O H1 λv H2=>a7E C x D O y v H2):=by intro ak s O H D I h;refine Pf (aR (hv ak s O H _ I h) λu s1 ⟨y,H1,I1,ry,q⟩=>aR (ha ak s1 O H1 _ I1 q) λov s2 ⟨v,H2,I2,rx,a,dx,fs,ex,ea,l,q2⟩=>?_) hs;subst ex;obtain rfl:ov=Value.ref a:=rx;exact J4 I2 ea T hn l ry λs3 I3=>⟨O,_,I3,q2⟩
theorem Ui{op:Operator}{rd:V->V->Hp->VK->Prop}{value:Expr}{tv:TE}{mT:Pos}(T:gI X.K C)(hn:gp X.K C x)(ha:PE X o ta)(hv:PE X value tv)(ZJ:a7q X op rd): PS X (.AugAssign (.Attribute o x mT) op value pos) (λD O H=>ta O H λv H1=>a7H C x tv rd D O v H1):=by intro ak s O H D I h;refine wpAny_AugAssign_AttributeAny (aR (ha ak s O H _ I h) λov s1 ⟨v,H1,I1,rx,a,dx,fs,u,ex,ea,l,q⟩=>?_);subst ex;obtain rfl:ov=Value.ref a:=rx;refine Nf I1 ea T hn l λu s2 I2 ru=>aR (hv ak s2 O H1 _ I2 q) λw3 s3 ⟨y,H2,I3,ry,q3⟩=>aR (ZJ ak s3 O H2 _ y u w3 _ I3 ru ry q3) λw4 s4 ⟨z,H3,I4,rz,pA,ix,ea',l',q4⟩=>?_;exact J4 I4 ea' T hn l' rz λs5 I5=>⟨O,_,I5,q4⟩
end
def cK(S:List Addr)(H H':Hp):Prop:=∀b o,H b=some o->b∉S->H' b=some o
theorem cK.refl(S:List Addr)(H:Hp):cK S H H:=λ_ _ e _=>e
theorem cK.of{S:List Addr}{H H':Hp}(s:aA H H'):cK S H H':=λb o e _=>s b o e
theorem cK.trans{S:List Addr}{H H1 H2:Hp}(a:cK S H H1)(b:cK S H1 H2):cK S H H2:=λc o e n=>b c o (a c o e n) n
theorem FZ{S:List Addr}{H:Hp}{a:Addr}{o:HO}(h:a∈S):cK S H (upd H a o):=λb o' e n=>by have hb:b≠a:=λz=>n (by rw[z];exact h);rw[aL hb];exact e
def Gx:HO->Prop | .lst _=>True | .ins _ _ _=>True | .dK _=>True | .mU _=>True |_=>False
def cA(H H':Hp):Prop:=∀b o,¬Gx o->H b=some o->H' b=some o
section
variable {K:aa} {H H' H2:Hp}
theorem cA.refl:cA H H:=λ_ _ _ e=>e
theorem cA.trans(a:cA H H')(b:cA H' H2):cA H H2:=λc o n e=>b c o n (a c o n e)
theorem aA.v(s:aA H H'):cA H H':=λb o _ e=>s b o e
theorem cK.v{S:List Addr}(s:cK S H H')(h:∀x∈S,∀o,H x=some o->Gx o):cA H H':=λb o n e=>s b o e λz=>n (h b z o e)
theorem cA.upd{a:Addr}{o o':HO}(h:H a=some o)(m:Gx o):cA H (upd H a o'):=λb p n e=>by
 have hb:b≠a:=λz=>by rw[z,h]at e;cases e;exact n m
 rw[aL hb];exact e
theorem aQ.v{a:Addr}{xs:List V}(s:cA H H')(h:aQ K H a xs):aQ K H' a xs:=h.imp (λr=>r.imp (s _ _ (λz=>z)) λ⟨o,e⟩=>⟨o,s _ _ (λz=>z) e⟩) id
mutual
theorem RD.v(s:cA H H'):∀{x:V}(d:ah),dP d=true->RD K H x d->RD K H' x d |x,.none,_,h=>by simpa[RD]using h |x,.bool b,_,h=>by simpa[RD]using h |x,.int i,_,h=>by simpa[RD]using h |x,.str y,_,h=>by simpa[RD]using h |x,.list ds,n,h=>by simp[dP]at n |x,.tuple ds,n,h=>by rw[RD]at h⊢;obtain⟨a,xs,e,h1,h2⟩:=h;exact⟨a,xs,e,h1.v s,aI.v s ds (by simpa[dP]using n) h2⟩ |x,.dict _,_,h=>by simp[RD]at h
theorem aI.v (s:cA H H'):∀{xs:List V}(ds:List ah),bX ds=true->aI K H xs ds->aI K H' xs ds |xs,[],_,h=>by simpa[aI]using h |xs,d::ds,n,h=>by rw[aI]at h⊢;rw[bX,d6]at n;obtain⟨y,ys,e,h1,h2⟩:=h;exact⟨y,ys,e,RD.v s d n.1 h1,aI.v s ds n.2 h2⟩
end
end
end _L
namespace _P
section
variable {n:Nat}{own:Nat->Rat}{L:Nat->Option Nat}{r f:Int}
end
end _P
namespace _O
open _P _l _C
end _O
namespace _P
section
variable {n:Nat}{own Ld:Nat->Rat}{L L':Nat->Option Nat}{r f:Int}
end
section
variable {n:Nat}{own Ld q:Nat->Rat}{L:Nat->Option Nat}{r f r' f':Int}
end
end _P
namespace _O
open _P _l _C
end _O
namespace _P
section
variable {n:Nat}{own Ld:Nat->Rat}{L L':Nat->Option Nat}{r f:Int}{c:Nat}
end
end _P
namespace _O
open _P
section
variable (j rate:Int)(os1 os2:List Itm)
end
end _O
namespace _P
section
variable {n:Nat}{own:Nat->Rat}{L:Nat->Option Nat}{r f:Int}
theorem a2v{g:Nat->Rat}{i:Nat}(hi:i<=n):fl n L f g i<=g i:=by
 rcases Nat.lt_or_ge i n with h|h
 ·cases e:L i with |none=>rw[zB h e];exact uh |some m=>rw[zD h e];exact fY _ _
 ·have:i=n:=by lia
  subst this;rw[zC];exact uh
end
end _P
namespace _R
open _P _r _l
open _O (topR ownF leadF Itm OkIs)
theorem zM{n:Nat}{a b:Int}(hb:b≠0)(h2:b.natAbs<2^n):(Rat.divInt a b).den<2^n:=by obtain⟨-,e⟩:=DU (a:=a) hb;have l2:=_A.LY (p:=a) hb;omega
structure Dd(D:Nat)(q:Rat):Prop where
 nn:0<=q
 den:q.den<2^D
theorem Dd.mono{D E:Nat}{q:Rat}(h:Dd D q)(l:D<=E):Dd E q:=⟨h.nn,fF h.den (uo az l)⟩
theorem Dd.bd{D:Nat}{q:Rat}(h:Dd D q)(hl:q<=2000):Bd (D+11) q:=by
 have h1:=Rat.num_nonneg.mpr h.nn;have zu:¬((2000:Rat)<q):=Rat.not_lt.mpr hl;rw[Rat.lt_iff]at zu;have e1:(2000:Rat).num=2000:=rfl;have e2:(2000:Rat).den=1:=rfl;rw[e1,e2]at zu;have h2:q.num<=2000*(q.den:Int):=by lia
 refine⟨?_,fF h.den (uo az aw)⟩;have h3:=h.den;have h4:q.num.natAbs<=2000*q.den:=by lia
 have h5:(2:Nat)^(D+11)=2^D*2048:=by rw[Nat.pow_add]
 rw[h5];have h6:2000*q.den<2000*2^D:=Nat.mul_lt_mul_of_pos_left h3 az
 lia
theorem Dd.mn{D:Nat}{a b:Rat}(h1:Dd D a)(h2:Dd D b):Dd D (mn a b):=by rcases yR a b with e|e<;>rw[e]<;>assumption
theorem Dd.add{D:Nat}{q:Rat}(h:Dd D q){z:Int}(hz:0<=z):Dd D (q+(z:Rat)):=by
 refine⟨YJ h.nn (by have:=Rat.intCast_le_intCast.mpr hz;exact this),?_⟩;rw[add_div,Rat.num_intCast,Rat.den_intCast];have e:(q.den:Int)*((1:Nat):Int)=(q.den:Int):=by lia
 rw[e];have hd:=q.den_pos;exact zM aw (by have:=h.den;lia)
theorem NY{a b:Int}(ha:0<=a)(hb:0<b):0<=Rat.divInt a b:=(ui hb).mpr ha
theorem div_pos{a b:Int}(ha:0<a)(hb:0<b):0<Rat.divInt a b:=by
 have h0:=NY (Int.le_of_lt ha) hb;refine GG h0 λe=>?_;have h2:0<=Rat.divInt (-a) b:=by rw[<-Rat.neg_divInt,<-e];decide
 have:=(ui hb).mp h2
 lia
theorem Dd.mul{D m:Nat}{q:Rat}(h:Dd D q){a s:Int}(ha:0<=a)(hs:0<s)(hm:s.natAbs<2^m):Dd (D+m) (q*Rat.divInt a s):=by refine⟨Rat.mul_nonneg h.nn (NY ha hs),?_⟩;have h1:(Rat.divInt a s).den<2^m:=zM aw hm;rw[mul_div];have hd:=q.den_pos;have hd2:=(Rat.divInt a s).den_pos;refine zM (wx _ _) ?_;rw[gM];exact oM (by have:=h.den;lia) aw
theorem Hw(rate sp:Int):Dd 14 (topR rate sp):=⟨_O.xQ _ _,zM az az⟩
theorem AD{rate sp:Int}(h1:1<=sp)(h2:sp<=20)(h3:10<=rate)(h4:rate<=200):topR rate sp<=1600:=by
 have e:(1600:Rat)=Rat.divInt 16000000 10000:=by decide+kernel
 rw[e];refine(_C.O0 az).mpr ?_;have hp:sp*rate<=20*200:=As h2 h4 aw aw;have ZI:0<=sp*rate:=lI aw aw;rw[fU,fU,mO,mQ];have:=As hp hp ZI az
 lia
theorem UO{j rate:Int}{os:List Itm}(h1:1<=j)(h2:j<=50)(h3:10<=rate)(h4:rate<=200)(ho:OkIs os)(i:Nat):Dd 64 (ownF j rate os i):=⟨_O.UR _ _ _ _,(_O.Lc h1 h2 h3 h4 ho i).den⟩
theorem a2w{D n:Nat}{g:Nat->Rat}{L:Nat->Option Nat}{f:Int}(hf:0<=f)(h:∀i,i<=n->Dd D (g i)):∀i,i<=n->Dd D (fl n L f g i):=by
 refine down ?_ ?_
 ·rw[zC];exact h n (bA _)
 ·intro i hi ih
  cases e:L i with |none=>rw[zB hi e];exact h i aw |some m=>rw[zD hi e];exact(h i aw).mn (ih.add (lI hf aw))
theorem a4S{j rate:Int}{o p:Itm}(h3:10<=rate)(h4:rate<=200)(ho:_O.OkI o):_O.betR j rate o p<=1600:=by cases o with |none=>rw[_O.a4T];decide+kernel |some q=>cases p with |none=>rw[_O.Oz];decide+kernel |some q'=>obtain⟨ns,sp⟩:=q;obtain⟨ms,sq⟩:=q';obtain⟨-,a1,a2⟩:=ho ns sp rfl;have ht:=AD a1 a2 h3 h4;show _O.mnO (mn (topR rate sp) (topR rate sq)) (_O.cornO j ns ms)<=1600;cases _O.cornO j ns ms with |none=>exact fg (fY _ _) ht |some c=>exact fg (fY _ _) (fg (fY _ _) ht)
theorem UN{j rate:Int}{os:List Itm}(h3:10<=rate)(h4:rate<=200)(ho:OkIs os):∀i,ownF j rate os i<=1600 |0=>by show(0:Rat)<=1600;decide+kernel |i+1=>a4S h3 h4 (ho i)
abbrev lC:=Option (Rat × Int × Int)
def nj(r f:Int)(pc top R:Rat)(left:Int):lC->Rat |none=>mn (mn (pc+(r:Rat)) top) (R+((f*(2*left-1):Int):Rat)) |some (sq,st,gn)=>mn (mn (mn (pc+(r:Rat)) top) (R+((f*(2*left-1):Int):Rat))) (sq*Rat.divInt (2*(st-gn-1)+1) (2*st))
def qy(r f:Int)(pc top R:Rat)(left:Int):lC->Rat |none=>mn (mn (pc+((2*r:Int):Rat)) top) (R+((2*f*(left-1):Int):Rat)) |some (sq,st,gn)=>mn (mn (mn (pc+((2*r:Int):Rat)) top) (R+((2*f*(left-1):Int):Rat))) (sq*Rat.divInt (st-gn-1) st)
def yI:lC->lC |none=>none |some (sq,st,gn)=>some (sq,st,gn+1)
def pI(D:Nat)(pc:Rat):lC->Prop |none=>True |some (sq,st,gn)=>0<=gn/\gn<=st/\st<=1000/\Dd D sq/\sq<=2000/\(st=0->pc=0)/\pc*(st:Rat)<=sq*((st-gn:Int):Rat)
def Halt(pc:Rat)(bh:lC):Prop:=bh≠none/\pc=0
theorem vm{D:Nat}{pc:Rat}{sq:Rat}{st gn:Int}(h:pI D pc (some (sq,st,gn)))(hp:0<=pc)(hn:¬Halt pc (some (sq,st,gn))):gn<st/\0<sq/\0<pc:=by
 obtain⟨g0,g1,g2,hd,hl,hz,hh⟩:=h;have vE:0<pc:=GG hp λe=>hn ⟨by simp,e.symm⟩;have fq:gn<st:=by
  rcases Int.lt_or_le gn st with h|h
  ·exact h
  ·have e:st-gn=0:=by lia
   rw[e]at hh;have e0:sq*((0:Int):Rat)=0:=Rat.mul_zero sq;rw[e0]at hh;exfalso;rcases Int.lt_or_le 0 st with h3|h3
   ·have h4:(0:Rat)<(st:Rat):=Pk.mpr h3
    have h5:=Rat.mul_pos vE h4;exact absurd (Std.lt_of_lt_of_le h5 hh) (Rat.lt_irrefl)
   ·rw[hz aw]at vE;exact absurd vE (Rat.lt_irrefl)
 refine⟨fq,?_,vE⟩;refine GG hd.nn λe=>?_;rw[<-e,Rat.zero_mul]at hh;have h4:(0:Rat)<(st:Rat):=Pk.mpr (show(0:Int)<st by lia);exact absurd (Std.lt_of_lt_of_le (Rat.mul_pos vE h4) hh) (Rat.lt_irrefl)
section
variable {D:Nat}{r f:Int}{pc top R:Rat}{left:Int}{bh:lC}
theorem a3P:qy r f pc top R left bh<=top:=by cases bh with |none=>exact fg (fY _ _) (kF _ _) |some q=>obtain⟨sq,st,gn⟩:=q;exact fg (fY _ _) (fg (fY _ _) (kF _ _))
theorem XG:nj r f pc top R left bh<=top:=by cases bh with |none=>exact fg (fY _ _) (kF _ _) |some q=>obtain⟨sq,st,gn⟩:=q;exact fg (fY _ _) (fg (fY _ _) (kF _ _))
theorem a3Q(hr:0<=r)(hf:0<=f)(hl:1<=left)(hp:Dd (D+10) pc)(ht:Dd (D+10) top)(hR:Dd (D+10) R)(hs:pI D pc bh)(hn:¬Halt pc bh):Dd (D+10) (qy r f pc top R left bh):=by have h1:=(hp.add (z:=2*r) aw).mn ht;have h2:=hR.add (z:=2*f*(left-1)) (lI aw aw);cases bh with |none=>exact h1.mn h2 |some q=>obtain⟨sq,st,gn⟩:=q;obtain⟨a,b,c⟩:=vm hs hp.nn hn;obtain⟨g0,g1,g2,hd,hl,hz,hh⟩:=hs;exact(h1.mn h2).mn (hd.mul (m:=10) aw aw aw)
theorem XI(hr:0<=r)(hf:0<=f)(hl:1<=left)(hp:Dd (D+10) pc)(ht:Dd (D+10) top)(hR:Dd (D+10) R)(hs:pI D pc bh)(hn:¬Halt pc bh):Dd (D+11) (nj r f pc top R left bh):=by have h1:=((hp.add (z:=r) aw).mn ht).mono (show D+10<=D+11 by lia);have h2:=(hR.add (z:=f*(2*left-1)) (lI aw aw)).mono (show D+10<=D+11 by lia);cases bh with |none=>exact h1.mn h2 |some q=>obtain⟨sq,st,gn⟩:=q;obtain⟨a,b,c⟩:=vm hs hp.nn hn;obtain⟨g0,g1,g2,hd,hl,hz,hh⟩:=hs;exact(h1.mn h2).mn (hd.mul (m:=11) aw aw aw)
theorem add_pos{x:Rat}{z:Int}(hx:0<=x)(hz:0<z):0<x+(z:Rat):=by have h1:((0:Int):Rat)<(z:Rat):=Pk.mpr hz;have h2:x+((0:Int):Rat)<x+(z:Rat):=Rat.add_lt_add_left.mpr h1;rw[show((0:Int):Rat)=0 from Z,Rat.add_zero]at h2;exact Std.lt_of_le_of_lt hx h2
theorem vt{a b:Rat}(ha:0<a)(hb:0<b):0<mn a b:=by rcases yR a b with e|e<;>rw[e]<;>assumption
theorem XH(hr:1<=r)(hf:1<=f)(hl:1<=left)(hp:0<=pc)(ht:0<top)(hR:0<=R)(hs:pI D pc bh)(hn:¬Halt pc bh):0<nj r f pc top R left bh:=by have h1:=vt (vt (add_pos hp (show 0<r by lia)) ht) (add_pos hR (show 0<f*(2*left-1)from jB aw aw));cases bh with |none=>exact h1 |some q=>obtain⟨sq,st,gn⟩:=q;obtain⟨a,b,c⟩:=vm hs hp hn;obtain⟨g0,g1,g2,hd,hl,hz,hh⟩:=hs;exact vt h1 (Rat.mul_pos b (div_pos aw aw))
theorem NX(a:Int):Rat.divInt a 1=(a:Rat):=by
 conv=>rhs;rw[<-rH (a:Rat)]
 rfl
theorem a4a{a s:Int}(hs:0<s):Rat.divInt a s*(s:Rat)=(a:Rat):=by
 have e:(s:Rat)=Rat.divInt s 1:=by rw[NX]
 rw[e,Pm _ _,xy,Hd a s];have e2:Rat.divInt (s*a) s=Rat.divInt (s*a) (s*1):=by rw[xy]
 rw[e2,Rat.divInt_mul_left aw,NX]
theorem RW(hs:pI D pc bh)(hp:0<=pc)(hn:¬Halt pc bh):pI D (qy r f pc top R left bh) (yI bh):=by cases bh with |none=>trivial |some q=>
 obtain⟨sq,st,gn⟩:=q;obtain⟨a,b,c⟩:=vm hs hp hn;obtain⟨g0,g1,g2,hd,hl,hz,hh⟩:=hs;refine⟨aw,aw,g2,hd,hl,λe=>by lia,?_⟩;have h1:qy r f pc top R left (some (sq,st,gn))<=sq*Rat.divInt (st-gn-1) st:=kF _ _;have h2:(0:Rat)<=(st:Rat):=Rat.intCast_nonneg.mpr aw;have h3:=Rat.mul_le_mul_of_nonneg_right h1 h2;have h4:sq*Rat.divInt (st-gn-1) st*(st:Rat)=sq*((st-(gn+1):Int):Rat):=by
  rw[Rat.mul_assoc,a4a aw];congr 2
  lia
 rw[h4]at h3;exact h3
end
end _R
namespace _L
open PySem PySem.Spec PyProof.Rows
section
variable {X:Cx}
end
theorem N9{K:aa}{mg:bc}{x z:Str}{t:Tok}{h:Heap}(X:K.In h)(G:h.Ns mainGlobals mg)(a:PySem.W.nsIn K mainGlobals x=some (some (.str z t))):GV mg x (.str z):=⟨_,rJ X G a,t,Z⟩
theorem a4d(f:Array Value->Array Value)(o:Obj):(o.mapFields f).dict=o.dict:=by obtain⟨c,d,dt,sl⟩:=o;cases dt<;>rfl
def TrD(h B:Heap)(ex:Addr)(cls:Value)(dx:Option Addr)(fl:Value):Prop:=∃ob fs tb ot ts,h.get? ex=some ob/\ob.cls=cls/\ob.dict=dx/\ob.data= .fields fs/\fs[1]? =some (.ref tb)/\B.get? tb=none/\tb≠ex/\h.get? tb=some ot/\ot.data= .fields ts/\ts[3]? =some fl/\fs[2]? =some .none
def jj(B:Heap)(l:List Env)(ex:Addr)(cls:Value)(dx:Option Addr)(fl:Value)(h:Heap):Prop:=B.StaysIn h/\B.get? ex=none/\h.FunFrames B l/\TrD h B ex cls dx fl
theorem jj.there{B h:Heap}{l:List Env}{ex:Addr}{cls fl:Value}{dx:Option Addr}(x:jj B l ex cls dx fl h):∃ob,h.get? ex=some ob/\ob.cls=cls/\ob.dict=dx/\∃fs,ob.data= .fields fs/\fs[2]? =some .none:=by obtain⟨_,_,_,ob,fs,_,_,_,e,c,d,z,_,_,_,_,_,_,z2⟩:=x;exact⟨ob,e,c,d,fs,z,z2⟩
section
variable {M:Model}{A:ai}{E:Value->ae->Prop}{s:ae}{B:Heap}{env:Env}{outer:List Env}{L ex:Addr}{ob:Obj}{fs:Array Value}{head:Value}{nx:Bool}{Q:Unit->ae->Prop}{cls fl:Value}{dx:Option Addr}
theorem NG(hA:A.frames=some (env::outer))(ff:s.heap.FunFrames B (env::outer))(hL:env.frame=some L)(ho:s.heap.get? ex=some ob)(st:B.StaysIn s.heap)(hB:B.get? ex=none)(hd:ob.data= .fields fs)(hz:1<fs.size)(fL:fs[2]? =some .none) (q:∀h',jj B (env::outer) ex ob.cls ob.dict (rawInt L) h'->s.heap.UpToSlots h'->Q () {s with heap:=h'}): wpAny M A (do let a<-frameOf env;let pl<-entryPlaceOf L nx;let b<-EntryCells.newEntry head a .none (rawInt L) .none pl;setField (.ref ex) 1 b) Q E s:=by
 have kE:ex∉(env::outer).filterMap (·.frame):=λhm=>by obtain⟨_,o,e1,nf⟩:=ff.mem hm;rw[ho]at e1;cases e1;exact nf fs hd
 refine aB (wpAny_frameOf_fun hA ff hL λg1 k1=>aB (wpAny_entryPlaceOf λpl hp=>?_));unfold EntryCells.newEntry newFields;refine aB (jX ?_ (hp.sizeOk5 _ _ _ _ _));have o1:g1.get? ex=some ob:=(k1.2.1 ex kE).trans ho;have AK:B.StaysIn g1:=λb o e=>(k1.2.1 b λhm=>by rw[(ff.mem hm).1]at e;cases e).trans (st b o e);generalize hT:({cls:=.type "traceback",dict:=none,data:=.fields ([head,.ref L,.none,rawInt L,.none]++(if pl.isEmpty then List.replicate 6 Value.none else pl)).toArray}:Obj)=T;have o2:(g1.push T).get? ex=some ob:=bL T o1;refine wV o2 hd hz (q _ ?_ ?_);all_goals have ne:g1.objs.size≠ex:=xg (bP o1)
 all_goals have keep:∀b o,b≠ex->g1.get? b=some o->((g1.push T).update ex (Obj.mapFields (·.setIfInBounds 1 (Value.ref g1.objs.size)))).get? b=some o:=λb o nb e=>by rw[xC _ _ (iU nb)];exact bL _ e
 all_goals have oH:∀b o,s.heap.get? b=some o->(∀vs,o.data≠ .fields vs)->b≠ex:=λb o e nf z=>by rw[z,ho]at e;cases e;exact nf fs hd
 ·have d3:=xf hd (·.setIfInBounds 1 (Value.ref g1.objs.size))
  have o3:=xB (Obj.mapFields (·.setIfInBounds 1 (Value.ref g1.objs.size))) o2 (GN d3);refine⟨λb o e=>keep b o (λz=>by rw[z,hB]at e;cases e) (AK b o e),hB,ff.of_keeps λb o e nf=>?_,?_⟩
  ·obtain⟨sl,e1⟩:=k1.2.2 b o e
   exact⟨_,keep b _ (oH b o e nf) e1,Z⟩
  ·refine⟨_,_,g1.objs.size,T,_,o3,Obj.cls_mapFields _ _,a4d _ _,d3,by simp[hz],AK.fresh,ne,?_,by rw[<-hT],?_⟩
   ·rw[xC _ _ (iU ne)];exact dw g1 (by rw[<-hT];rfl)
   ·refine⟨?_,by simpa using fL⟩
    first|(simp;done)|(rcases hp with rfl|⟨_,_,_,_,_,_,_,rfl⟩<;>simp)
 ·intro b o e nf
  obtain⟨sl,e1⟩:=k1.2.2 b o e;exact⟨sl,keep b _ (oH b o e nf) e1⟩
theorem X3(hA:A.frames=some (env::outer))(ff:s.heap.FunFrames B (env::outer))(hL:env.frame=some L)(ho:s.heap.get? ex=some ob)(st:B.StaysIn s.heap)(hB:B.get? ex=none)(hd:ob.data= .fields fs)(h1:fs[1]? =some .none)(fL:fs[2]? =some .none) (q:∀h',jj B (env::outer) ex ob.cls ob.dict (rawInt L) h'->s.heap.UpToSlots h'->Q () {s with heap:=h'}):wpAny M A (noteFrame (.ref ex) env) Q E s:=by unfold noteFrame;simp only[hL];refine aB (fT ho hd h1 ?_);rw[bf az];exact NG hA ff hL ho st hB hd (Hh.mp h1).1 fL q
theorem Lv(hA:A.frames=some (env::outer))(hL:env.frame=some L)(x:jj B (env::outer) ex cls dx .none s.heap) (q:∀h',jj B (env::outer) ex cls dx (rawInt L) h'->s.heap.UpToSlots h'->Q () {s with heap:=h'}):wpAny M A (noteFrame (.ref ex) env) Q E s:=by
 obtain⟨st,hB,ff,ob,fs,tb,ot,ts,ho,rfl,rfl,hd,h1,zt,nt,ht,mi,h3,fL⟩:=x;unfold noteFrame;simp only[hL];refine aB (fT ho hd h1 ?_);rw[bo (show(Value.ref tb !=Value.none)=true from by simp)];refine aB (fT ht mi h3 ?_);rw[bf (show¬((Value.none==rawInt L)=true)from by simp[rawInt])];refine aB (wV ht mi (Hh.mp h3).1 ?_);have other:∀b,b≠tb->(s.heap.update tb (Obj.mapFields (·.setIfInBounds 3 Value.none))).get? b=s.heap.get? b:=λb nb=>xC _ _ (iU nb);have oH:∀b o,s.heap.get? b=some o->(∀vs,o.data≠ .fields vs)->b≠tb:=λb o e nf z=>by rw[z,ht]at e;cases e;exact nf ts mi
 refine NG (s:={s with heap:=s.heap.update tb (Obj.mapFields (·.setIfInBounds 3 Value.none))}) hA (ff.of_keeps λb o e nf=>⟨o,(other b (oH b o e nf)).trans e,Z⟩) hL ((other ex (iU nt)).trans ho) (λb o e=>(other b λz=>by rw[z,zt]at e;cases e).trans (st b o e)) hB hd (Hh.mp h1).1 fL λh' y up=>q h' y λb o e nf=>up b o ((other b (oH b o e nf)).trans e) nf
theorem zA{l:List Env}(x:jj B l ex cls dx fl s.heap)(q:∀h',jj B l ex cls dx .none h'->s.heap.UpToSlots h'->Q () {s with heap:=h'}):wpAny M A (setFlight (.ref ex) none) Q E s:=by
 obtain⟨st,hB,ff,ob,fs,tb,ot,ts,ho,hc,hx,hd,h1,zt,nt,ht,mi,h3,fL⟩:=x;have z3:3<ts.size:=(Hh.mp h3).1;have other:∀b,b≠tb->(s.heap.update tb (Obj.mapFields (·.setIfInBounds 3 ((none:Option Addr).elim Value.none λf=>rawInt f)))).get? b=s.heap.get? b:=λb nb=>xC _ _ (iU nb);have oH:∀b o,s.heap.get? b=some o->(∀vs,o.data≠ .fields vs)->b≠tb:=λb o e nf z=>by rw[z,ht]at e;cases e;exact nf ts mi
 unfold setFlight;refine aB (fT ho hd h1 ?_);rw[bo (show(Value.ref tb !=Value.none)=true from by simp)];refine wV ht mi z3 (q _ ⟨λb o e=>(other b λz=>by rw[z,zt]at e;cases e).trans (st b o e),hB,ff.of_keeps λb o e nf=>⟨o,(other b (oH b o e nf)).trans e,rfl⟩,?_⟩ λb o e nf=>⟨o.slots,(other b (oH b o e nf)).trans e⟩);exact⟨ob,fs,tb,_,_,(other ex (iU nt)).trans ho,hc,hx,hd,h1,zt,nt,xB _ ht (GN (xf mi _)),xf mi _,by simp[z3],fL⟩
theorem M9(hA:A.frames=some (env::outer))(ff:s.heap.FunFrames B (env::outer))(hL:env.frame=some L)(ho:s.heap.get? ex=some ob)(st:B.StaysIn s.heap)(hB:B.get? ex=none)(hd:ob.data= .fields fs)(h1:fs[1]? =some .none)(fL:fs[2]? =some .none) (q:∀h',jj B outer ex ob.cls ob.dict .none h'->s.heap.UpToSlots h'->Q () {s with heap:=h'}):wpAny M A (leaving env (.ref ex)) Q E s:=by unfold leaving;refine aB (X3 hA ff hL ho st hB hd h1 fL λh1 x1 u1=>zA x1 λh2 x2 u2=>q h2 ?_ (u1.trans u2));obtain⟨a,b,⟨_,_,c⟩,d⟩:=x2;exact⟨a,b,c,d⟩
theorem YD(hA:A.frames=some (env::outer))(hL:env.frame=some L)(x:jj B (env::outer) ex cls dx .none s.heap) (q:∀h',jj B outer ex cls dx .none h'->s.heap.UpToSlots h'->Q () {s with heap:=h'}):wpAny M A (leaving env (.ref ex)) Q E s:=by unfold leaving;refine aB (Lv hA hL x λh1 x1 u1=>zA x1 λh2 x2 u2=>q h2 ?_ (u1.trans u2));obtain⟨a,b,⟨_,_,c⟩,d⟩:=x2;exact⟨a,b,c,d⟩
end
end _L
namespace _L
open PySem PySem.Spec PyProof.Rows
open Builtin Builtin.ObjectAttr
def og:List Value:=[.type "ValueError",.type "Exception",.type "BaseException",.type "object"]
def lV:List Value->Bool | .ref _::r=>lV r |l=>l==og
theorem Kv(self:Value){l:List Value}(e:lV l=true):refuseLoop self "__setattr__" l=pure ():=by induction l with |nil=>simp[lV,og]at e |cons v r ih=>cases v with |ref c=>rw[refuseLoop_ref];exact ih (by simpa[lV]using e) |_=>have e':=cP.mp (show(_==og)=true from e);rw[e'];exact PySem.F.store_ValueError.passes self
theorem MU{t:String}(ht:(og.contains (.type t))=true):∀{l:List Value},lV l=true->l.contains (.type t)=true |l,e=>by induction l with |nil=>simp[lV,og]at e |cons v r ih=>cases v with |ref c=>rw[PV,ih (by simpa[lV]using e),Bool.or_true] |_=>have e':=cP.mp (show(_==og)=true from e);rw[e'];exact ht
def Dl(K:aa)(C:Addr):Bool:=(PySem.W.clsIn K C).any λcd=>lV cd.mro
section
variable {prog:af}{w:World}{A:ai}{E:Value->ae->Prop}{s:ae}{K:aa}{x C:Addr}{ox:Obj}{fs:Array Value}{name:Str}{v:Value}{Q:Unit->ae->Prop}
theorem Sn(X:K.In s.heap)(hx:s.heap.get? x=some ox)(hc:ox.cls= .ref C)(hd:ox.dict=none)(hf:ox.data= .fields fs) (hs:PySem.W.findIn K (.ref C) "__setattr__"=some (some (.builtin "object.__setattr__")))(hp:Dl K C=true)(ht:PySem.W.takerIn K C name=some none)(hh:PySem.W.hasDictIn K C=true) (h:∀h',h'.get? x=some {ox with dict:=some s.heap.objs.size}->h'.Ns1 s.heap.objs.size (λy=>if y=name then some v else none)->(∀b o,b≠x->s.heap.get? b=some o->h'.get? b=some o)->Q () {s with heap:=h',toks:=s.toks+2}): wpAny (model prog w) A (setAttr (.ref x) name v) Q E s:=by
 have I:PySem.W.InstAt s.heap x ox C none:=⟨hx,hc,by unfold PySem.W.notCls;rw[hf],by rw[hd];trivial⟩;refine Pp X I hs ?_;have SF:=PySem.F.store_object;obtain⟨cd,dY,ho⟩:=Ak hp;have ne:cd.mro.isEmpty=false:=by cases q:cd.mro with|nil=>rw[q]at ho;simp[lV,og]at ho|cons _ _=>rfl
 have sub:PySem.W.Looks (model prog w) s.heap (isInstance (.ref x) (.type "object")) true:=I.type.andThen (PySem.W.looks_mroIn X (by unfold PySem.W.mroIn;rw[dY,Option.bind_some,bf (by rw[ne];decide),MU az ho]));refine GF SF.slot.plain SF.entry (@PySem.W.check_slot (model prog w) _ _ {s with toks:=s.toks+1} "object.__setattr__" "object" "__setattr__" (.ref x) [.str name s.toks,v] [] _ SF.kind SF.split sub (SF.args (.ref x) (.str name s.toks) v) ?_);obtain⟨attr,ha,hr⟩:=PJ.mp ht;have hm:PySem.W.Looks (model prog w) s.heap (mroOf (.ref C)) cd.mro:=(Ai X dY).andThen .now;have L3:PySem.W.Looks (model prog w) s.heap (storeTaker? attr) none:=by cases attr with |none=>exact .now |some a=>obtain⟨b,hb,e⟩:=PH.mp hr;refine(PySem.W.looks_takesIn X hb).andThen ?_;cases b with |false=>exact .now |true=>cases e
 rw[PySem.W.osa_eq,refuse_eq];refine aB (aB (jY (s:={s with toks:=s.toks+1}) I.type (aB (jY (s:={s with toks:=s.toks+1}) hm ?_))));rw[Kv _ ho];refine bB (aB (jY (s:={s with toks:=s.toks+1}) I.type (aB (jY (s:={s with toks:=s.toks+1}) (Pt X ha) (aB (jY (s:={s with toks:=s.toks+1}) L3 ?_))))));obtain⟨cd2,fL,hd2⟩:=Ak hh;refine aB (bB (aB (aB (GB (s:={s with toks:=s.toks+1}) hx ?_))));rw[hc];refine aB (jY (s:={s with toks:=s.toks+1}) (Ai X fL) ?_);rw[hd2,hd,hf];rw[bf az];show wpAny _ _ (if(!true|| !typeHasDict (Value.ref C))=true then _ else _) _ _ _;rw[bf (by simp[typeHasDict])];have x1:(s.heap.push {cls:=.type "dict",data:=.dict #[]}).get? x=some ox:=bL _ hx;have nx:x≠s.heap.objs.size:=dh (bP hx);refine aB (wpAny_alloc' (aB (wpAny_update' x1 (bB ?_))));have gd:((s.heap.push {cls:=.type "dict",data:=.dict #[]}).update x λo=>{cls:=o.cls,dict:=some s.heap.objs.size,data:=o.data,slots:=o.slots}).get? s.heap.objs.size=some {cls:=.type "dict",data:=.dict #[]}:=(Heap.get?_update_ne _ _ _ _ nx.symm).trans (Heap.get?_push_at Z rfl);have n0:((s.heap.push {cls:=.type "dict",data:=.dict #[]}).update x λo=>{cls:=o.cls,dict:=some s.heap.objs.size,data:=o.data,slots:=o.slots}).Ns s.heap.objs.size (λ_=>none):=⟨_,#[],_,gd,Z,(λe he=>absurd he (by simp)),λ_=>rfl⟩;show wpAny _ _ (storeInDict s.heap.objs.size (.str name s.toks) name v) _ _ _;unfold storeInDict newKeyGuard;refine aB (bB (aB (wpAny_nsSet1 (Heap.Ns1.of_empty n0) λh2 n2 sb=>?_)));obtain⟨oD,esD,epD,e1,e2,e3⟩:=n2.count (Po name v PySem.Within.nil);refine aB (wpAny_lookBehind e1 (by rw[e2];exact pastItsLine_dict (fA e3 (by rw[fC,List.length_nil,ug];lia))) ?_);refine bB (h h2 ?_ n2 λb o nb e=>?_)
 ·refine(sb.2 x nx).trans (xB _ x1 ?_)
  obtain⟨oc,od,Dw,eG⟩:=ox;cases hf;rfl
 ·exact(sb.2 b (dh (bP e))).trans ((Heap.get?_update_ne _ _ _ _ nb).trans (bL _ e))
end
end _L
namespace _L
open PySem PySem.Spec PyProof.Rows
def jy(ex C:Addr)(h:Heap):Prop:=∃ob fs,h.get? ex=some ob/\ob.cls= .ref C/\ob.dict=none/\ob.data= .fields fs/\fs[1]? =some .none/\fs[2]? =some .none
def gZ(ex C dx:Addr)(h:Heap):Prop:=∃ob fs,h.get? ex=some ob/\ob.cls= .ref C/\ob.dict=some dx/\ob.data= .fields fs/\fs[1]? =some .none/\fs[2]? =some .none
structure nX(K:aa)(C:Addr)(f:Str):Prop where
 sa:PySem.W.findIn K (.ref C) "__setattr__"=some (some (.builtin "object.__setattr__"))
 ov:Dl K C=true
 tk:PySem.W.takerIn K C f=some none
 hd:PySem.W.hasDictIn K C=true
inductive a6U(K:aa)(f:Str)(D:Ends)(O:St)(y:V)(x:V)(H2:Hp):Prop |mk (ex:_)(C:_)(h0:x= .ref ex)(h1:H2 ex=some (.ext (jy ex C)))(h2:nX K C f)(h3:∀dx,H2 dx=none->dx≠ex->D.nx O (upd (upd H2 dx (.xd [(f,y)])) ex (.ext (gZ ex C dx))))
def Sz(K:aa)(ta tv:TE)(f:Str):TS:=λD O H=>tv O H λy H1=>ta O H1 λx H2=>a6U K f D O y x H2
section
variable {X:Cx}{o e value:Expr}{f:Str}{pos pos' mT:Pos}{ta tv:TE}
theorem D8(K:aa)(hK:X.K=K)(ha:PE X o ta)(hv:PE X value tv)(hs:autoParam (swapsWith value (some (.Attribute o f pos')) pos.line X.env=pure false) r8_._auto_1):PS X (.Assign [.Attribute o f pos'] value pos) (Sz K ta tv f):=by
 subst hK;intro ak s O H D I h;refine Pf (aR (hv ak s O H _ I h) λu s1 ⟨y,H1,I1,ry,q⟩=>aR (ha ak s1 O H1 _ I1 q) λov s2 ⟨x,H2,I2,rx,ex,C,e1,ee,xc,q2⟩=>?_) hs;subst e1;obtain rfl:ov=Value.ref ex:=rx;obtain⟨⟨ob,fs,g1,g2,g3,g4,g5,g6⟩,_,_⟩:=(show eQ X.prog X.w H2 s2.heap ex (.ext (jy ex C))from I2.aV ex _ ee);refine Sn I2.dH g1 g2 g3 g4 xc.sa xc.ov xc.tk xc.hd λh' k1 k2 k3=>?_;have ne:s2.heap.objs.size≠ex:=xg (bP g1);have fr:H2 s2.heap.objs.size=none:=I2.aV.fresh (bA _);obtain⟨oD,es,ep,d1,d2⟩:=id k2;have ZZ:(s2.heap.push oD).get? s2.heap.objs.size=some oD:=dw _ (by obtain⟨oc,od,Dw,eG⟩:=oD;have:Dw= .dict es ep:=d2.1;subst this;rfl);have hd1:eQ X.prog X.w (upd H2 s2.heap.objs.size (.xd [(f,y)])) (s2.heap.push oD) s2.heap.objs.size (.xd [(f,y)]):=by
  refine⟨_,k2.at λo e=>?_,λg=>?_⟩
  ·rw[d1]at e;cases e;exact ZZ
  ·by_cases q:g=f
   ·subst q
    simp only[List.lookup,wZ,rC];exact ry
   ·have:(g==f)=false:=by simpa using q
    simp only[List.lookup,this,bf q];trivial
 have J1:=I2.laid (a:=s2.heap.objs.size) (o:=.xd [(f,y)]) (h':=s2.heap.push oD) (t':=s2.toks+2) (λb u q=>bL _ q) (bA _) hd1;have J2:=J1.write (x:=ex) (e:=ex) (o:=.ext (gZ ex C s2.heap.objs.size)) (h':=h') (t':=s2.toks+2) (by rw[aL ne.symm,ee];trivial) (.inl Z) (λb u nb e=>by
  rcases PZ e with⟨rfl,rfl⟩|e
  ·exact d1
  ·exact k3 b u nb e) ⟨_,k1⟩ ⟨⟨_,fs,k1,g2,Z,g4,g5,g6⟩,⟨_,k1⟩,λh1 h2 ⟨jo,ix,z1,z2⟩ k=>⟨jo,ix,k _ z1,z2⟩⟩;exact⟨O,_,J2,q2 _ fr ne⟩
end
abbrev Ny(rest:List Value):Obj:={cls:=.type "tuple",data:=.seq rest.toArray}
abbrev Fx(C t:Addr):Obj:={cls:=.ref C,data:=.fields #[.ref t,.none,.none,.none,.bool false,.none]}
abbrev iy(h:Heap)(C:Addr)(rest:List Value):Heap:=(h.push (Ny rest)).push (Fx C h.objs.size)
section
variable {prog:af}{w:World}{A:ai}{E:Value->ae->Prop}{h:Heap}{g:Array GenState}{d:Drawn}{t:Nat}{os:OsState}
variable {nm q:Str}{C N fI:Addr}{bs bm dJ:List Value}{hdct:Bool}{sn:List Str}{sub:List Value}{ab:Bool}{col:Option Bool}{dd:Option Addr}{k0 k1 k2 k3 k5:Option Value}{B newId oQ:String}{mN:bc}{rest:List Value}{oI:Obj}
theorem Fy:(iy h C rest).get? (h.objs.size+1)=some (Fx C h.objs.size):=by have:=dw (h.push (Ny rest)) (o:=Fx C h.objs.size) rfl;rwa [mR]at this
theorem p9{b:Addr}{o:Obj}(e:h.get? b=some o):(iy h C rest).get? b=some o:=bL _ (bL _ e)
theorem QW(F:ExcBaseFacts B newId oQ dJ)(T:OwnTail h dJ bm){Q:Fin->ae->Prop}(hC:h.get? C=some (excClassObj nm q C N bs bm hdct sn sub ab col dd k0 k1 k2 k3 k5 newId))(hn:h.Ns N mN)(hi:mN "__init__"=some (.ref fI)) (hf:h.get? fI=some oI)(EA:oI.cls= .type "function")(hz:rest.length<=sizeLine) (hq:wpAny (model prog w) A (call (.ref fI) (.ref (h.objs.size+1)::rest)) (λr s'=>r= .none/\Q (.done (.ret (.ref (h.objs.size+1)))) s') E ⟨iy h C rest,g,d,t,os⟩): wpAny (model prog w) A (Builtin.«type.__call__» ⟨.ref C::rest,[]⟩) Q E ⟨h,g,d,t,os⟩:=by
 repeat (first|with_reducible refine rA hC ?_|with_reducible refine wpAny_madeBy_exc hC ?_|wp_step)
 refine codeAny_call_builtin_code (Code.quiet_builtin _ F.quiet) (wpAny_check_new_subT F T hC (codeAny_exc_new_subT F T hC ?_ hz));show wpAny _ _ _ _ _ _;have c1:=p9 (C:=C) (rest:=rest) hC;have f1:=p9 (C:=C) (rest:=rest) hf;have n1:(iy h C rest).Ns N mN:=let⟨o,es,ep,e,r⟩:=hn;⟨o,es,ep,p9 e,r⟩;have x1:=Fy (h:=h) (C:=C) (rest:=rest);have cc:(Value.ref C::bm).contains (.ref C)=true:=by simp
 have T1:=T.keeps (h':=iy h C rest) λb o e=>p9 e;unfold isInstance
 repeat (first|with_reducible refine rA x1 ?_|(with_reducible refine GC c1 ?_;rw[cc])|wp_step)
 show wpAny _ _ (typeLookup (.ref C) _) _ _ _;refine wpAny_typeLookup_tail c1 n1 T1 F.mroIs F.init.lookup ?_;rw[hi];refine gJ (aB ?_);unfold bindSpecial;refine aB (wpAny_typeOf (T:="function") ⟨_,f1,EA⟩ ?_);rw[bo az];refine bB (aB (gr hq (λr s' ⟨e,z⟩=>?_) λ_ _ z=>z));subst e
 wp_walk;exact z
theorem Oo(F:ExcBaseFacts B newId oQ dJ)(T:OwnTail h dJ bm){Q:Value->ae->Prop}(hC:h.get? C=some (excClassObj nm q C N bs bm hdct sn sub ab col dd k0 k1 k2 k3 k5 newId))(hn:h.Ns N mN)(hi:mN "__init__"=some (.ref fI)) (hf:h.get? fI=some oI)(EA:oI.cls= .type "function")(hz:rest.length<=sizeLine) (hq:wpAny (model prog w) (A.under (.builtin "type.__call__" ⟨.ref C::rest,[]⟩)) (call (.ref fI) (.ref (h.objs.size+1)::rest)) (λr s'=>r= .none/\Q (.ref (h.objs.size+1)) s') E ⟨iy h C rest,g,d,t,os⟩): wpAny (model prog w) A (call (.ref C) rest) Q E ⟨h,g,d,t,os⟩:=by
 have f1:=tc_lookup;have f2:=tc_bind (.ref C);have hT:(⟨h,g,d,t,os⟩:ae).TypeIs (.ref C) "type":=⟨_,hC,Z⟩;refine pO (codeAny_of_tree ?_);show wpAny _ _ (callAny (.ref C) _) _ _ _
 repeat (any_goals (first|assumption|with_reducible refine rA hC ?_|wp_step))
 refine⟨Z,codeAny_call_builtin_at (Code.quiet_builtin _ aM) entry_typeCall (wpAny_check_type_call_sub hC (QW F T hC hn hi hf EA hz ?_))⟩;exact hq
end
section
variable {M:Model}{A:ai}{E:Value->ae->Prop}{env:Env}{nm q:Str}{C N:Addr}{bs bm:List Value}{hdct:Bool}{sn:List Str}{sub:List Value}{ab:Bool}{col:Option Bool}{dd:Option Addr}{k0 k1 k2 k3 k5:Option Value}{newId:String}
theorem KC{s:ae}{x:Sem Value}{Q:Flow->ae->Prop}(hb:bm.contains (.type "BaseException")=true)(hh:A.handled=none) (h:wpAny M A x (λv s1=>∃e oe fs,v= .ref e/\s1.heap.get? C=some (excClassObj nm q C N bs bm hdct sn sub ab col dd k0 k1 k2 k3 k5 newId)/\s1.heap.get? e=some oe/\oe.cls= .ref C/\oe.data= .fields fs/\fs[1]? =some .none/\E (.ref e) s1) E s): wpAny M A (raiseStmt env (some x) none) Q E s:=by
 have cb:(Value.ref C::bm).contains (.type "BaseException")=true:=by rw[PV,hb,Bool.or_true]
 unfold raiseStmt;refine aB (gr h (λv s1 ⟨e,oe,fs,ev,hC,he,hc,mi,h1,hE⟩=>?_) λ_ _ z=>z);subst ev;obtain⟨hp,g,d,tk,os⟩:=s1;obtain⟨oc,odd,Dw,eG⟩:=oe;cases hc;cases mi
 repeat (first|with_reducible refine rA he ?_|with_reducible refine rA hC ?_|(with_reducible refine GC hC ?_;rw[cb])|rw[h1]|wp_step)
 exact wpAny_raiseNew_none hh hE
end
def fS(P:af)(w:World):iT:=λouter H s E e s'=>∃(ex:Addr)(cls:Value)(dx:Option Addr)(H':Hp)(B:Heap),e= .ref ex/\s'.os=s.os/\AllBare s'.gens/\jj B outer ex cls dx .none s'.heap/\Fl P w outer H s.heap ex H' B s'.heap/\E cls dx H'
theorem FN{H:Hp}{p:Addr}:del H p p=none:=by unfold del;rw[bo rfl]
theorem mz{H:Hp}{p b:Addr}(h:b≠p):del H p b=H b:=by unfold del;rw[bf h]
theorem dv.del{P:af}{w:World}{H:Hp}{h:Heap}{p:Addr}{φ:Heap->Prop}(ok:dv P w H h)(e:H p=some (.ext φ)):dv P w (del H p) h:=λb u q=>by
 obtain⟨nb,q⟩:=pC.mp q;refine(ok b u q).jE (λ_ _ _ z=>z) (λc z=>?_) λc xs z=>?_
 ·rw[mz (λy=>by rw[y,e]at z;cases z)];exact z
 ·rw[mz (λy=>by rw[y,e]at z;cases z)];exact z
section
variable {P:af}{w:World}{K:aa}{mg:bc}{au:Heap}{N:List Str}{qual:Str}{scope:Scope}{f:Addr}{cd:Value}{A:ai}{outer:List Env}{s:ae}{H:Hp}{E:XK}{ak:List (Addr×Obj)}{O:St}{H1:Hp}{s1:ae}{ex:Addr}{C:Addr}{dx:Addr}
theorem pQ(I:Inv (eX (fS P w) P w K mg au N qual scope f cd A outer s H E) ak O H1 s1)(hx:H1 ex=some (.ext (gZ ex C dx)))(hs:s.heap.objs.size<=ex)(q:E (.ref C) (some dx) (del H1 ex)): (eX (fS P w) P w K mg au N qual scope f cd A outer s H E).xe (.ref ex) s1:=by
 have fq:s1.heap.FunFrames au (envOfC qual scope s.heap.objs.size f cd::outer):=I.stack;have zl:∀env∈(envOfC qual scope s.heap.objs.size f cd::outer),∀b,env.frame=some b->b∈ex::cS (envOfC qual scope s.heap.objs.size f cd::outer):=λenv he b hb=>.tail _ (iV.mpr ⟨env,he,hb⟩);have hB:(PySem.W.hideAll s1.heap (ex::cS (envOfC qual scope s.heap.objs.size f cd::outer))).StaysIn s1.heap:=λb o e=>Pr _ e;obtain⟨⟨ob,fs,g1,g2,g3,g4,g5,g6⟩,_,_⟩:=(show eQ P w H1 s1.heap ex (.ext (gZ ex C dx))from I.aV ex _ hx);have nw:s.heap.get? ex=none:=Heap.get?_none_of_le hs;have kE:∀b o,s.heap.get? b=some o->b∉cS outer->b∉ex::cS (envOfC qual scope s.heap.objs.size f cd::outer):=λb o e hb hm=>by
  rcases bZ.mp hm with rfl|hm
  ·rw[nw]at e;cases e
  obtain⟨env,he,hf⟩:=iV.mp hm;rcases bZ.mp he with rfl|he
  ·have e1:s.heap.objs.size=b:=dW hf
   have h1:=bP e;rw[<-e1]at h1;exact absurd h1 (pP _)
  ·exact hb (iV.mpr ⟨env,he,hf⟩)
 have DG:∀b u,H1 b=some u->(∀φ,u≠ .ext φ)->del H1 ex b=some u:=λb u e n=>by rw[mz (λz=>by rw[z,hx]at e;exact n _ (dW e).symm)];exact e
 have F0:Fl P w outer H s.heap ex (del H1 ex) (PySem.W.hideAll s1.heap (ex::cS (envOfC qual scope s.heap.objs.size f cd::outer))) s1.heap:=by
  refine⟨⟨I.au.keep,I.au.slot,λb o e n hb=>?_,I.au.there,λb xs e=>DG b _ (I.au.hU b xs e) (λ_ z=>nomatch z),λb o u e=>DG b _ (I.au.gY b o u e) (λ_ z=>nomatch z),λb ps e=>?_⟩,I.aV.del hx,λb o e n hb=>uj _ (I.au.keep b o e n hb (dX)) (kE b o e hb),λb o e=>?_,λb o e hb=>?_,λb hb=>?_,nw,FN⟩
  ·by_cases z:b=ex
   ·rw[z];exact FN
   ·rw[mz z];exact I.au.free b o e n hb
  ·obtain⟨more,e1⟩:=I.au.hW b ps e
   exact⟨more,DG b _ e1 (λ_ z=>nomatch z)⟩
  ·obtain⟨nb,e⟩:=pC.mp e
   obtain⟨jo,e1⟩:=(I.aV b o e).there;refine⟨jo,uj _ e1 λhm=>?_⟩;rcases bZ.mp hm with z|hm
   ·exact nb z
   ·rw[I.rY b hm]at e
    cases e
  ·obtain⟨jo,e1⟩:=I.au.there b o e (dX)
   exact⟨jo,uj _ e1 (kE b o e hb)⟩
  ·obtain⟨env,he,hf⟩:=iV.mp hb
   have e1:=I.rY b (iV.mpr ⟨env,.tail _ he,hf⟩);by_cases z:b=ex
   ·rw[z];exact FN
   ·rw[mz z];exact e1
 show wpAny (model P w) (A.deeper (envOfC qual scope s.heap.objs.size f cd)) (leaving (envOfC qual scope s.heap.objs.size f cd) (.ref ex)) _ _ _;refine M9 (L:=s.heap.objs.size) I.ok.frames (PySem.W.funFrames_hide fq zl) Z g1 hB (Pu _ (.head _)) g4 g5 g6 λh' x1 x2=>?_;exact⟨ex,.ref C,some dx,del H1 ex,_,Z,I.os,I.bare,by rw[g2,g3]at x1;exact x1,F0.step hB x1.1 x2 fq.2.2,q⟩
end
def Fw(K:aa)(C fI:Addr)(dJ:List Value)(newId:String):Bool:=match K.lookup C with |some ⟨.type "type",_,.cls cd,sl⟩=>(match cd.mro,sl.toList with | .ref C'::bm,[_,_,_,_,some (.builtin n),_]=>C'==C&&n==newId&& !cd.hasDel&&PySem.W.tailIn K dJ bm&&PySem.W.nsOkIn K cd.ns&&(PySem.W.nsIn K cd.ns "__init__"==some (some (.ref fI))) |_,_=>false) |_=>false
structure mH(K:aa)(mg:bc)(x:Str)(C fI:Addr)(dJ:List Value)(newId:String):Prop where
 at':mg x=some (.ref C)
 ok:Fw K C fI dJ newId=true
theorem WX{K:aa}{h:Heap}{N:Addr}{m:bc}{n:Str}{v:Value}(X:K.In h)(G:h.Ns N m)(e:PySem.W.nsIn K N n=some (some v)):m n=some v:=by
 obtain⟨o,es,ep,ho,hd,_,hf⟩:=G;unfold PySem.W.nsIn at e;split at e
 ·rename_i c d my n' sl q
  have z:=X _ _ q;rw[ho]at z;cases z;cases hd;split at e
  ·rename_i en he
   cases e;rw[<-hf];unfold nsFind findBy;rw[<-Array.find?_toList,he];rfl
  ·split at e<;>cases e
 ·cases e
theorem mH.own{K:aa}{mg:bc}{x:Str}{C fI:Addr}{dJ:List Value}{newId:String}{h:Heap}(e:mH K mg x C fI dJ newId)(X:K.In h): ∃tl N nm q bs hdct sn sub ab col dd k0 k1 k2 k3 k5 mN,h.get? C=some (excClassObj nm q C N bs tl hdct sn sub ab col dd k0 k1 k2 k3 k5 newId)/\h.Ns N mN/\mN "__init__"=some (.ref fI)/\OwnTail h dJ tl:=by
 have q:=e.ok;unfold Fw at q;split at q
 ·rename_i dd cd sl ho
  split at q
  ·rename_i D2 bl a0 a1 a2 a3 nn a5 hm hs
   simp only[cP,d6,Hg]at q;obtain⟨⟨⟨⟨⟨r1,r2⟩,vO⟩,ht⟩,aV⟩,qL⟩:=q;subst r1 r2;obtain⟨c1,c2,c3,c4,c5,c6,c7,c8,c9,c10,c11⟩:=cd;dsimp only at hm vO aV qL;subst hm vO;obtain⟨l⟩:=sl;simp only at hs;subst hs;have G:=Heap.Ns.of_isNs (PySem.W.isNs_of_in X aV);exact⟨bl,c4,c1,c5,c2,c6,c7,c8,c9,c10,dd,a0,a1,a2,a3,a5,_,X _ _ ho,G,WX X G qL,PySem.W.tail_of_in X ht⟩
  ·cases q
 ·cases q
def fnAt(K:aa)(f:Addr):Bool:=match K.lookup f with |some o=>o.cls== .type "function" |none=>false
theorem Nl{K:aa}{h:Heap}{f:Addr}(X:K.In h)(e:fnAt K f=true):∃o,h.get? f=some o/\o.cls= .type "function":=by
 unfold fnAt at e;split at e
 ·rename_i o ho
  exact⟨o,X _ _ ho,cP.mp e⟩
 ·cases e
def HD(E:XK)(C:Addr)(sp:Sp)(t:TA):TS:=λ_ O H=>t O H λvs H1=>vs.length<=sizeLine/\∀ex,H1 ex=none->sp (.ref ex::vs) (upd H1 ex (.ext (jy ex C))) (λv H2=>v= .aY/\∃dx,H2 ex=some (.ext (gZ ex C dx))/\E (.ref C) (some dx) (del H2 ex)) (λ_ _ _=>False)
section
variable {X:Cx}{x:Str}{C fI:Addr}{dJ:List Value}{newId oQ B:String}{e:Expr}{t:TA}{np cg pos:Pos}{k:Nat}{fd:FuncData}{ps:List Str}{sp:Sp}
theorem yt{E:XK}(hx:∀ak O H s ex dx,Inv X ak O H s->H ex=some (.ext (gZ ex C dx))->X.s₀.heap.objs.size<=ex->E (.ref C) (some dx) (del H ex)->X.xe (.ref ex) s) (EC:mH X.K X.mg x C fI dJ newId)(FB:ExcBaseFacts B newId oQ dJ)(hh:X.A.handled=none)(F:dS X.prog X.w X.K X.mg X.au eM k fI fd ps sp)(hr:bU (k+1) X.A)(hb:Binds X.K fd ps [])(hf:fnAt X.K fI=true)(hg:Gl X x)(ha:PA X [e] t) (he:autoParam (starEach [e] X.env=[(false,eval e X.env)]) r8_._auto_1)(hd:autoParam ((x==("__debug__":Str))=false) q8_._auto_1): PS X (.Raise (some (.Call (.Name x np) [e] [] cg)) none pos) (HD E C sp t):=by
 intro ak s O H D I h;obtain⟨tl,Nn,nm,q,bs,hdct,sn,sub,ab,col,dd,k0,k1,k2,k3,k5,mN,hC,hN,hi,T⟩:=EC.own I.ok.mod.jN;have hA:=ha cg ak s O H _ I h;rw[arm_exec_Raise];refine aB (mJ (KC (C:=C) (nm:=nm) (q:=q) (N:=Nn) (bs:=bs) (bm:=tl) (hdct:=hdct) (sn:=sn) (sub:=sub) (ab:=ab) (col:=col) (dd:=dd) (k0:=k0) (k1:=k1) (k2:=k2) (k3:=k3) (k5:=k5) (newId:=newId) (T.hasType FB.hasBase) hh (aB (gr (wpAny_Call_ofName (m5 I hg EC.at' ?_ hd)) (λv s3 h3=>aB (mJ (bB h3))) λ_ _ z=>z))));unfold callWith;rw[he]at hA⊢;refine aB (gJ (gr (Hf (Q:=λ(a:Args) s2=>a.kw=[]/\AP X ak O (λvs H1=>vs.length<=sizeLine/\∀ex,H1 ex=none->sp (.ref ex::vs) (upd H1 ex (.ext (jy ex C))) (λv H2=>v= .aY/\∃dx,H2 ex=some (.ext (gZ ex C dx))/\E (.ref C) (some dx) (del H2 ex)) (λ_ _ _=>False)) a.pos s2) (aR hA λus s2 z=>⟨Z,z⟩)) (λa s2 z=>aB (mJ ?_)) λ_ _ z=>z));obtain⟨us,Gf⟩:=a;obtain⟨Es,vs,H1,I1,r1,z1,w1⟩:=z;obtain rfl:Gf=[]:=Es;have C2:=I1.bk _ _ hC;have T2:=T.keeps I1.bk;have N2:=hN.keeps I1.bk;obtain⟨oI,f1,f2⟩:=Nl I1.dH hf;have DR:us.length<=sizeLine:=by rw[<-r1.length];exact z1
 obtain⟨hp,g,d,tk,os⟩:=s2;rw[show(backTo cg [(false,eval e X.env)]).any (·.1)=false from rfl];refine aB (wpAny_keeperOf_exc C2 ?_);have I1':Inv X ak O H1 ⟨iy hp C us,g,d,tk,os⟩:=I1.kept (t':=tk) (h':=iy hp C us) λb u e=>p9 e;have xa:=Fy (h:=hp) (C:=C) (rest:=us);have fx:H1 (hp.objs.size+1)=none:=I1.aV.fresh (uq _);have I2:Inv X ak O (upd H1 (hp.objs.size+1) (.ext (jy (hp.objs.size+1) C))) ⟨iy hp C us,g,d,tk,os⟩:=by refine I1.laid (a:=hp.objs.size+1) (o:=.ext (jy (hp.objs.size+1) C)) (h':=iy hp C us) (t':=tk) (λb u e=>p9 e) (uq _) ?_;exact⟨⟨_,_,xa,Z,Z,Z,Z,Z⟩,⟨_,xa⟩,λh1 h2 ⟨jo,ix,y1,y2⟩ k=>⟨jo,ix,k _ y1,y2⟩⟩
 have hq:=w1 (hp.objs.size+1) fx;have r2:Vals (V.ref (hp.objs.size+1)::vs) (Value.ref (hp.objs.size+1)::us):=.cons Z r1;have hl:(Value.ref (hp.objs.size+1)::us++[]).length=ps.length:=by have e:=r2.length;rw[F.len _ _ _ _ hq]at e;rw[jk];exact e.symm
 have bt:=hb ⟨iy hp C us,g,d,tk,os⟩ (Value.ref (hp.objs.size+1)::us) I2.dH hl;rw[jk]at bt;refine aB (Oo FB T2 C2 N2 hi f1 f2 DR (pO (rF (F.run _ X.stack _ _ ⟨Value.ref (hp.objs.size+1)::us,[]⟩ (Value.ref (hp.objs.size+1)::us) _ _ (λ_ _ _=>False) (hr.make C us []) (I2.tR.make C us []) bt r2 hq) λr s' fK=>?_)));cases r with |error e=>exact False.elim fK |ok fl=>cases fl with |ret u=>obtain⟨v,H',I3,rv,ev,dx,ed,q3⟩:=I2.after fK;subst ev;refine⟨rv,aB (gJ (wpAny_point (bB ?_)))⟩;obtain⟨⟨ob,fs,g1,g2,g3,g4,g5,g6⟩,_,_⟩:=(show eQ X.prog X.w H' s'.heap _ (.ext (gZ (hp.objs.size+1) C dx))from I3.aV _ _ ed);exact⟨_,ob,fs,Z,I3.bk _ _ hC,g1,g2,g4,g5,hx ak O H' s' _ dx I3 ed (fA I1.sz (uq _)) q3⟩ |next=>exact False.elim fK |brk=>exact False.elim fK |cont=>exact False.elim fK
end
def jW(ex:Addr)(cls:Value)(dx:Option Addr)(h:Heap):Prop:=∃o,h.get? ex=some o/\o.cls=cls/\o.dict=dx/\∃fs,o.data= .fields fs/\fs[2]? =some .none
def ClsAt(K:aa)(C:Addr):Prop:=∀h,K.In h->∃nm q N bs tl hdct sn sub ab col dd k0 k1 k2 k3 k5 newId,h.get? C=some (excClassObj nm q C N bs tl hdct sn sub ab col dd k0 k1 k2 k3 k5 newId)
theorem mH.cls{K:aa}{mg:bc}{x:Str}{C fI:Addr}{dJ:List Value}{newId:String}(e:mH K mg x C fI dJ newId):ClsAt K C:=λh X=>by obtain⟨tl,N,nm,q,bs,hdct,sn,sub,ab,col,dd,k0,k1,k2,k3,k5,mN,hC,_⟩:=e.own X;exact⟨nm,q,N,bs,tl,hdct,sn,sub,ab,col,dd,k0,k1,k2,k3,k5,newId,hC⟩
theorem Exc.cls{K:aa}{mg:bc}{x:Str}{C:Addr}{dJ:List Value}{newId:String}(e:Exc K mg x C dJ newId):ClsAt K C:=λh X=>by obtain⟨tl,N,nm,q,bs,hdct,sn,sub,ab,col,dd,k0,k1,k2,k3,k5,mN,hC,_⟩:=(e.own X).obj;exact⟨nm,q,N,bs,tl,hdct,sn,sub,ab,col,dd,k0,k1,k2,k3,k5,newId,hC⟩
section
variable {X:Cx}{i:Nat}{n y:Str}{Dc:Addr}{wC:List Value}{newD:String}{body rW:List Stmt}{b0:Stmt}{np oT pos:Pos}{tb:XK->TS}{th:TS}{Cs:Addr->Prop}
end
end _L
namespace _L
open PySem PySem.Spec PyProof.Rows PySem.W
section
variable {prog:af}{w:World}{A:ai}{E:Value->ae->Prop}{h:Heap}{g:Array GenState}{d:Drawn}{t:Nat}{os:OsState}{K:Frag}{x C:Addr}{ox:Obj}{od:Obj}{f:Str}{v:Value}
end
section
variable {X:Cx}{e:Expr}{f:Str}{pos:Pos}{ta:TE}
inductive a7e(K:Frag)(xs:List V)(H:Hp)(Q:VK):Prop |mk (ex:Addr)(C:Addr)(dx:Option Addr)(c:V)(cv:Value)(b:Bool)(h0:xs=[.ref ex,c])(h1:H ex=some (.ext (jW ex (.ref C) dx)))(h2:mG K C)(h3:a4u c=some cv)(h4:kitOne K (.ref C) cv=some b)(h5:Q (.bl b) H)
def U0(K:Frag):List V->Hp->VK->Prop:=λxs H Q=>a7e K xs H Q
inductive a7d(K:Frag)(xs:List V)(H:Hp)(Q:VK):Prop |mk (ex:Addr)(C:Addr)(p:Addr)(dx:Option Addr)(Ds:List Addr)(b:Bool)(h0:xs=[.ref ex,.ref p])(h1:H ex=some (.ext (jW ex (.ref C) dx)))(h2:mG K C)(h3:H p=some (.tup (Ds.map V.ref)))(h4:kitAny K (.ref C) (Ds.map Value.ref)=some b)(h5:Q (.bl b) H)
def TZ(K:Frag):List V->Hp->VK->Prop:=λxs H Q=>a7d K xs H Q
theorem jO(K:Frag)(hK:X.K=K):eT X (.builtin "isinstance") (λxs H Q=>U0 K xs H Q\/TZ K xs H Q):=by
 subst hK;intro ak s O H xs us Q I r h;rcases h with⟨ex,C,dx,c,cv,b,rfl,he,k,hc,kb,q⟩|⟨ex,C,p,dx,Ds,b,rfl,he,k,hp,kb,q⟩
 ·obtain⟨u,v,rfl,rx,rc⟩:=vals2 r
  cases(show u=Value.ref ex from rx);have hv:v=cv:=by cases c with |ref D=>cases(show v=Value.ref D from rc);exact dW hc |ty n=>cases(show v=Value.type n from rc);exact dW hc |_=>cases hc
  subst hv;obtain⟨o,o1,o2,_⟩:=(I.aV ex _ he).1;exact kia_one (Mf k) I.dH ⟨o,o1,o2⟩ kb (λz=>nomatch z) λtk=>⟨.bl b,H,I.tok _,rfl,q⟩
 ·obtain⟨u,v,rfl,rx,rc⟩:=vals2 r
  cases(show u=Value.ref ex from rx);cases(show v=Value.ref p from rc);obtain⟨o,o1,o2,_⟩:=(I.aV ex _ he).1;obtain⟨_,its,rv,⟨cls,dd,dt,sl⟩,h1,h2,n,h3⟩:=(show eQ X.prog X.w H s.heap p (.tup (Ds.map V.ref))from I.aV p _ hp);simp only at h2 h3;subst h2 h3;have e:=Ho rv;subst e;exact kia_tup (Mf k) I.dH ⟨o,o1,o2⟩ h1 kb (λz=>nomatch z) λtk=>⟨.bl b,H,I.tok _,rfl,q⟩
end
end _L
namespace _L
open PySem PySem.Spec PyProof.Rows
def fR(P:af)(w:World)(K:aa)(mg:bc)(au:Heap)(x:Str)(k:Nat)(sp:Sp):Prop:=∃f fd ps,dS P w K mg au (fS P w) k f fd ps sp/\mg x=some (.ref f)/\PySem.W.keepIn K (.ref f)=true/\Binds K fd ps []
theorem FA.gW{P:af}{w:World}{K:aa}{mg:bc}{au:Heap}{x:Str}{st:Stmt}{N ps:List Str}{k:Nat}{sp:Sp}(F:FA K mg x st)(S:bj N ps (aP st))(len:∀vs H Q E,sp vs H Q E->vs.length=ps.length) (hb:∀(kV doc pm:Value)(an:Option Addr)(aE ct:Value)(us:List Value),us.length=ps.length->bindArgs (PySem.W.fnOf x x (iA st) (eB st) (aP st) .none kV doc pm an aE ct) ⟨us,[]⟩=pure (ps.zip us)) (fb:∀(f:Addr)(aE:Value)(A:ai)(outer:List Env)(s:ae)(H:Hp)(vs:List V)(Q:VK)(E:XK),bU k (A.deeper (envOfC x (aP st) s.heap.objs.size f aE))->sp vs H Q E->∃t,eP (eX (fS P w) P w K mg au N x (aP st) f aE A outer s H E) (eB st) t/\t {nx:=λ_ H'=>Q .aY H',rt:=Q} (start N vs) H):fR P w K mg au x (k+1) sp:=by obtain⟨f,fd,hm,F⟩:=F.ex;have vS:=F.binds hb;have kp:=F.kp;obtain⟨oc,od,kV,doc,pm,an,aE,ct,eG,rfl,lk,dY⟩:=F.ex;exact⟨f,_,ps,Fe lk dY S len λA outer s H vs Q E hr ft=>fb f aE A outer s H vs Q E hr ft,hm,kp,vS⟩
section
variable {X:Cx}{k:Nat}{x:Str}{p pos:Pos}{e:Expr}{es:List Expr}{t:TA}{sp:Sp}
def RF(sp:Sp)(E:XK)(t:TA):TE:=λO H Q=>t O H λvs H1=>sp vs H1 Q E
theorem kB{E:XK}(F:fR X.prog X.w X.K X.mg X.au x k sp)(hp:Passes (fS X.prog X.w) X E)(hr:bU k X.A)(hg:Gl X x)(ha:PA X (e::es) t)(eZ:autoParam ((x==("__debug__":Str))=false) q8_._auto_1) (he:autoParam (starEach (e::es) X.env=(false,eval e X.env)::starEach es X.env) r8_._auto_1)(dI:autoParam ((backTo pos (starEach es X.env)).any (·.1)=false) r8_._auto_1): PE X (.Call (.Name x p) (e::es) [] pos) (RF sp E t):=by
 obtain⟨f,fd,ps,F,hm,hk,hb⟩:=F;have h:=L6 (pos:=pos) (p:=p) F hr hg hm hk hb .nil hp ha eZ he dI;intro ak s O H Q I hq;refine h ak s O H Q I ?_;have e1:(λ(vs:List V) H1=>sp (vs++[]) H1 Q E)=λvs H1=>sp vs H1 Q E:=by funext vs H1;rw[jk]
 show t O H λvs H1=>sp (vs++[]) H1 Q E;rw[e1];exact hq
end
theorem FU{K:aa}{mg:bc}{h:Heap}{x:Str}{C fI:Addr}{dJ:List Value}{newId:String}(X:K.In h)(G:h.Ns mainGlobals mg)(a:PySem.W.nsIn K mainGlobals x=some (some (.ref C)))(k:Fw K C fI dJ newId=true):mH K mg x C fI dJ newId:=⟨rJ X G a,k⟩
structure pJ(k:Nat)(A:ai):Prop where
 dp:A.depth+3*k+5<recursionLimit
 un:A.units+16*k+200<cLine
theorem pJ.mono{j k:Nat}{A:ai}(r:pJ k A)(h:j<=k):pJ j A:=⟨by have:=r.dp;lia,by have:=r.un;lia⟩
theorem bU.mark{k:Nat}{A:ai}(r:bU k A)(v:Option Value):pJ k (A.mark v):=⟨r.dp,r.un⟩
theorem pJ.deeper{k:Nat}{A:ai}(r:pJ (k+1) A)(env:Env):pJ k (A.deeper env):=⟨by have:=r.dp;show A.depth+1+3*k+5<_;lia,by have:=r.un;show A.units+3+16*k+200<_;lia⟩
abbrev FO(P:af)(w:World)(K:aa)(mg:bc)(au:Heap)(N:List Str)(qual:Str)(scope:Scope)(f:Addr)(cd:Value)(A:ai)(outer:List Env)(s:ae)(H:Hp):Cx:={(eX eM P w K mg au N qual scope f cd A outer s H (λ_ _ _=>False))with calm:=false,xe:=λ_ _=>False}
section
variable {X:Cx}{k:Nat}{x:Str}{p pos:Pos}{e:Expr}{es:List Expr}{t:TA}{sp:Sp}
end
section
variable {P:af}{w:World}{K:aa}{mg:bc}{au:Heap}{N:List Str}{qual:Str}{scope:Scope}{f:Addr}{cd:Value}{A:ai}{outer:List Env}{s:ae}{H:Hp}{E E0:XK}
theorem eu(he:∀cls dx H',E cls dx H'->E0 cls dx H'):Passes (fS P w) (eX (fS P w) P w K mg au N qual scope f cd A outer s H E0) E:=by
 intro ak O H1 s1 e s2 I hx;obtain⟨ex,cls,dx,H',B,rfl,ho,hg,nR,F,q⟩:=hx;have nR:jj B (envOfC qual scope s.heap.objs.size f cd::outer) ex cls dx .none s2.heap:=nR;show wpAny (model P w) (A.deeper (envOfC qual scope s.heap.objs.size f cd)) (leaving (envOfC qual scope s.heap.objs.size f cd) (.ref ex)) _ _ _;refine YD (L:=s.heap.objs.size) I.ok.frames Z nR λh' x1 x2=>?_;have F2:=F.step nR.1 x1.1 x2 nR.2.2.1;have sub:∀b,b∈cS outer->b∈cS (envOfC qual scope s.heap.objs.size f cd::outer):=λb hb=>by obtain⟨env,h1,h2⟩:=iV.mp hb;exact iV.mpr ⟨env,.tail _ h1,h2⟩
 have kE:∀b o,s.heap.get? b=some o->b∉cS outer->b∉cS (envOfC qual scope s.heap.objs.size f cd::outer):=λb o e hb hm=>by
  obtain⟨env,h1,h2⟩:=iV.mp hm;rcases bZ.mp h1 with z|h1
  ·subst z
   have e1:s.heap.objs.size=b:=dW h2;have e2:=bP e;rw[<-e1]at e2;exact absurd e2 (pP _)
  ·exact hb (iV.mpr ⟨env,h1,h2⟩)
 have nx:∀b:Addr,b∉([]:List Addr):=λ_=>dX;refine⟨ex,cls,dx,H',B,Z,ho.trans I.os,hg,x1,⟨⟨λb o e n hb _=>?_,λb o e n hb _=>?_,λb o e n _=>?_,λb o e _=>?_,λb xs e=>?_,λb o u e=>?_,λb ps e=>?_⟩,F2.aV,λb o e n hb=>?_,F2.k2,λb o e hb=>?_,λb hb=>F2.fr b (sub b hb),?_,F2.ne⟩,he _ _ _ q⟩
 ·exact F2.un.keep b o (I.au.keep b o e n hb (nx b)) (I.au.free b o e n (nx b)) (kE b o e hb) (nx b)
 ·obtain⟨sl,e1⟩:=I.au.slot b o e n hb (nx b)
  obtain⟨ow,e2⟩:=F2.un.slot b _ e1 (I.au.free b o e n (nx b)) (sub b hb) (nx b);exact⟨ow,e2⟩
 ·obtain⟨sl,e1⟩:=I.au.any e n (nx b)
  exact F2.un.free b _ e1 (I.au.free b o e n (nx b)) (nx b)
 ·obtain⟨o1,e1⟩:=I.au.there b o e (nx b)
  exact F2.un.there b o1 e1 (nx b)
 ·exact F2.un.hU b xs (I.au.hU b xs e)
 ·exact F2.un.gY b o u (I.au.gY b o u e)
 ·obtain⟨m1,e1⟩:=I.au.hW b ps e
  obtain⟨m2,e2⟩:=F2.un.hW b _ e1;exact⟨m1++m2,by rw[<-Array.append_assoc];exact e2⟩
 ·exact F2.k1 b o (I.au.keep b o e n hb (nx b)) (I.au.free b o e n (nx b)) (kE b o e hb)
 ·obtain⟨o1,e1⟩:=I.au.there b o e (nx b)
  exact F2.k3 b o1 e1 (kE b o e hb)
 ·cases e:s.heap.get? ex with |none=>rfl |some o=>obtain⟨o1,e1⟩:=I.au.there ex o e (nx ex);rw[F2.nw]at e1;cases e1
end
end _L
namespace _L
open PySem PySem.Spec PyProof.Rows
open Builtin Builtin.ObjectAttr
section
variable {prog:af}{w:World}{A:ai}{E:Value->ae->Prop}{s:ae}{K:aa}{x C dx:Addr}{ox:Obj}{fs:Array Value}{name:Str}{v:Value}{Q:Unit->ae->Prop}{mA:bc}{ks:List Str}
theorem Sm(X:K.In s.heap)(hx:s.heap.get? x=some ox)(hc:ox.cls= .ref C)(hd:ox.dict=some dx)(hf:ox.data= .fields fs)(hn:s.heap.Ns1 dx mA)(hw:PySem.Within mA ks)(hz:ks.length<1000) (hs:PySem.W.findIn K (.ref C) "__setattr__"=some (some (.builtin "object.__setattr__")))(hp:Dl K C=true)(ht:PySem.W.takerIn K C name=some none)(hh:PySem.W.hasDictIn K C=true) (h:∀h',h'.Ns1 dx (λy=>if y=name then some v else mA y)->Heap.SameBut dx s.heap h'->Q () {s with heap:=h',toks:=s.toks+2}):wpAny (model prog w) A (setAttr (.ref x) name v) Q E s:=by
 obtain⟨oD,En,_⟩:=M0 hn;have I:PySem.W.InstAt s.heap x ox C (some oD):=⟨hx,hc,by unfold PySem.W.notCls;rw[hf],by rw[hd];exact En⟩;refine Pp X I hs ?_;have S0:=PySem.F.store_object;obtain⟨cd,dY,ho⟩:=Ak hp;have ne:cd.mro.isEmpty=false:=by cases q:cd.mro with|nil=>rw[q]at ho;simp[lV,og]at ho|cons _ _=>rfl
 have sub:PySem.W.Looks (model prog w) s.heap (isInstance (.ref x) (.type "object")) true:=I.type.andThen (PySem.W.looks_mroIn X (by unfold PySem.W.mroIn;rw[dY,Option.bind_some,bf (by rw[ne];decide),MU az ho]));refine GF S0.slot.plain S0.entry (@PySem.W.check_slot (model prog w) _ _ {s with toks:=s.toks+1} "object.__setattr__" "object" "__setattr__" (.ref x) [.str name s.toks,v] [] _ S0.kind S0.split sub (S0.args (.ref x) (.str name s.toks) v) ?_);obtain⟨zY,ha,hr⟩:=PJ.mp ht;have hm:PySem.W.Looks (model prog w) s.heap (mroOf (.ref C)) cd.mro:=(Ai X dY).andThen .now;have L3:PySem.W.Looks (model prog w) s.heap (storeTaker? zY) none:=by cases zY with |none=>exact .now |some a=>obtain⟨b,hb,e⟩:=PH.mp hr;refine(PySem.W.looks_takesIn X hb).andThen ?_;cases b with |false=>exact .now |true=>cases e
 rw[PySem.W.osa_eq,refuse_eq];refine aB (aB (jY (s:={s with toks:=s.toks+1}) I.type (aB (jY (s:={s with toks:=s.toks+1}) hm ?_))));rw[Kv _ ho];refine bB (aB (jY (s:={s with toks:=s.toks+1}) I.type (aB (jY (s:={s with toks:=s.toks+1}) (Pt X ha) (aB (jY (s:={s with toks:=s.toks+1}) L3 ?_))))));obtain⟨cd2,fL,hd2⟩:=Ak hh;refine aB (bB (aB (aB (GB (s:={s with toks:=s.toks+1}) hx ?_))));rw[hc];refine aB (jY (s:={s with toks:=s.toks+1}) (Ai X fL) ?_);rw[hd2,hd];rw[bf az];refine bB (a:=some dx) ?_;show wpAny _ _ (storeInDict dx (.str name s.toks) name v) _ _ _;unfold storeInDict newKeyGuard;refine aB (bB (aB (wpAny_nsSet1 hn λh2 n2 sb=>?_)));obtain⟨o2,es2,ep2,e1,e2,e3⟩:=n2.count (Po name v hw);refine aB (wpAny_lookBehind e1 (by rw[e2];exact pastItsLine_dict (fA e3 (by rw[fC,ug];lia))) ?_);exact bB (h h2 n2 sb)
end
inductive a6T(K:aa)(f:Str)(D:Ends)(O:St)(y:V)(x:V)(H2:Hp):Prop |mk (ex:_)(C:_)(dx:_)(fs:_)(h0:x= .ref ex)(h1:H2 ex=some (.ext (gZ ex C dx)))(h2:H2 dx=some (.xd fs))(h3:nX K C f)(h4:fs.length<1000)(h5:D.nx O (upd H2 dx (.xd (fM f y fs))))
def Sy(K:aa)(ta tv:TE)(f:Str):TS:=λD O H=>tv O H λy H1=>ta O H1 λx H2=>a6T K f D O y x H2
section
variable {X:Cx}{o e value:Expr}{f:Str}{pos pos' mT:Pos}{ta tv:TE}
theorem Ug(K:aa)(hK:X.K=K)(ha:PE X o ta)(hv:PE X value tv)(hs:autoParam (swapsWith value (some (.Attribute o f pos')) pos.line X.env=pure false) r8_._auto_1):PS X (.Assign [.Attribute o f pos'] value pos) (Sy K ta tv f):=by
 subst hK;intro ak s O H D I h;refine Pf (aR (hv ak s O H _ I h) λu s1 ⟨y,H1,I1,ry,q⟩=>aR (ha ak s1 O H1 _ I1 q) λov s2 ⟨x,H2,I2,rx,ex,C,dx,fs,e1,ee,ed,xc,hl,q2⟩=>?_) hs;subst e1;obtain rfl:ov=Value.ref ex:=rx;obtain⟨⟨ob,vs,g1,g2,g3,g4,g5,g6⟩,_,_⟩:=(show eQ X.prog X.w H2 s2.heap ex (.ext (gZ ex C dx))from I2.aV ex _ ee);obtain⟨mA,n1,n2⟩:=(show eQ X.prog X.w H2 s2.heap dx (.xd fs)from I2.aV dx _ ed);have hw:PySem.Within mA (fs.map (·.1)):=λg hg=>by cases e:fs.lookup g with
  |none=>have r:=n2 g;rw[e]at r;cases em:mA g with |none=>exact absurd em hg |some _=>rw[em]at r;exact r.elim
  |some z=>exact gu.mpr ⟨(g,z),lookup_mem e,Z⟩
 refine Sm I2.dH g1 g2 g3 g4 n1 hw (by rw[bR];exact hl) xc.sa xc.ov xc.tk xc.hd λh' k1 k2=>?_;have keep:∀b u,b≠dx->s2.heap.get? b=some u->h'.get? b=some u:=λb u nb z=>(k2.2 b nb).trans z;have nd:∀b,H2 b=none->b≠dx:=λb z y=>by rw[y,ed]at z;cases z
 obtain⟨oD,_,_,eD,_⟩:=id k1;have un:Un X.fs [] H2 (upd H2 dx (.xd (fM f y fs))) s2.heap h':=by
  refine⟨λb o z n _ _=>keep b o (nd b n) z,λb o z n _ _=>⟨o.slots,keep b o (nd b n) z⟩,λb o z n _=>by rw[aL (nd b n)];exact n,λb o z _=>?_,λb xs z=>?_,λb o u z=>?_,λb ps z=>⟨#[],?_⟩⟩
  ·by_cases hb:b=dx
   ·rw[hb];exact⟨oD,eD⟩
   ·exact⟨o,keep b o hb z⟩
  ·rw[aL (λy=>by rw[y,ed]at z;cases z)];exact z
  ·rw[aL (λy=>by rw[y,ed]at z;cases z)];exact z
  ·rw[aL (λy=>by rw[y,ed]at z;cases z),Array.append_empty];exact z
 have aV:dv X.prog X.w (upd H2 dx (.xd (fM f y fs))) h':=λb u z=>by
  by_cases hb:b=dx
  ·subst hb
   rw[bp]at z;cases z;refine⟨_,k1,λg=>?_⟩;rw[DW];by_cases hg:g=f
   ·rw[bo hg,bo hg];exact ry
   ·rw[bf hg,bf hg];exact n2 g
  ·rw[aL hb]at z
   refine(I2.aV b u z).jE (λc v hc y=>keep c v ?_ y) (λc y=>?_) λc xs y=>?_
   ·rcases hc with rfl|hc
    ·exact hb
    ·intro y;rw[y,ed]at hc;cases hc
   ·rw[aL (λy'=>by rw[y',ed]at y;cases y)];exact y
   ·rw[aL (λy'=>by rw[y',ed]at y;cases y)];exact y
 exact⟨O,_,I2.un (t':=s2.toks+2) un aV,q2⟩
end
end _L
namespace _L
open PySem PySem.Spec PyProof.Rows
def iC(P:af)(w:World)(K:aa)(mg:bc)(au:Heap)(C:Addr)(m:Str)(k:Nat)(sp:Sp):Prop:=∃f fd ps,dS P w K mg au (fS P w) k f fd ps sp/\Meth K C m f/\Binds K fd ps []
def A6(P:af)(w:World)(K:aa)(mg:bc)(au:Heap)(C:Addr)(x:Str)(k:Nat)(sp:Sp):Prop:=∃f fd ps,dS P w K mg au (fS P w) k f fd ps sp/\Mk K C f/\Binds K fd ps []/\mg x=some (.ref C)
section
variable {P:af}{w:World}{K:aa}{mg:bc}{au:Heap}
theorem gq.Lo{m qual:Str}{st:Stmt}{f:Addr}{fd:FuncData}{N ps:List Str}{k:Nat}{sp:Sp}(F:gq K m qual st f fd)(S:bj N ps (aP st))(len:∀vs H Q E,sp vs H Q E->vs.length=ps.length) (fb:∀(aE:Value)(A:ai)(outer:List Env)(s:ae)(H:Hp)(vs:List V)(Q:VK)(E:XK),bU k (A.deeper (envOfC qual (aP st) s.heap.objs.size f aE))->sp vs H Q E->∃t,eP (eX (fS P w) P w K mg au N qual (aP st) f aE A outer s H E) (eB st) t/\t {nx:=λ_ H'=>Q .aY H',rt:=Q} (start N vs) H):dS P w K mg au (fS P w) (k+1) f fd ps sp:=by obtain⟨oc,od,kV,doc,pm,an,aE,ct,eG,rfl,lk,dY⟩:=F.ex;exact Fe lk dY S len λA outer s H vs Q E hr ft=>fb aE A outer s H vs Q E hr ft
theorem MA.gW{C:Addr}{m qual:Str}{st:Stmt}{N ps:List Str}{k:Nat}{sp:Sp}(F:MA K C m qual st)(S:bj N ps (aP st))(len:∀vs H Q E,sp vs H Q E->vs.length=ps.length) (hb:∀(kV doc pm:Value)(an:Option Addr)(aE ct:Value)(us:List Value),us.length=ps.length->bindArgs (PySem.W.fnOf m qual (iA st) (eB st) (aP st) .none kV doc pm an aE ct) ⟨us,[]⟩=pure (ps.zip us)) (fb:∀(f:Addr)(aE:Value)(A:ai)(outer:List Env)(s:ae)(H:Hp)(vs:List V)(Q:VK)(E:XK),bU k (A.deeper (envOfC qual (aP st) s.heap.objs.size f aE))->sp vs H Q E->∃t,eP (eX (fS P w) P w K mg au N qual (aP st) f aE A outer s H E) (eB st) t/\t {nx:=λ_ H'=>Q .aY H',rt:=Q} (start N vs) H):iC P w K mg au C m (k+1) sp:=by obtain⟨f,fd,hm,F⟩:=F.ex;exact⟨f,fd,ps,F.Lo S len λaE A outer s H vs Q E=>fb f aE A outer s H vs Q E,hm,F.binds hb⟩
theorem CA.gW{C:Addr}{x qual:Str}{st:Stmt}{N ps:List Str}{k:Nat}{sp:Sp}(F:CA K mg C x qual st)(S:bj N ps (aP st))(len:∀vs H Q E,sp vs H Q E->vs.length=ps.length) (hb:∀(kV doc pm:Value)(an:Option Addr)(aE ct:Value)(us:List Value),us.length=ps.length->bindArgs (PySem.W.fnOf "__init__" qual (iA st) (eB st) (aP st) .none kV doc pm an aE ct) ⟨us,[]⟩=pure (ps.zip us)) (fb:∀(f:Addr)(aE:Value)(A:ai)(outer:List Env)(s:ae)(H:Hp)(vs:List V)(Q:VK)(E:XK),bU k (A.deeper (envOfC qual (aP st) s.heap.objs.size f aE))->sp vs H Q E->∃t,eP (eX (fS P w) P w K mg au N qual (aP st) f aE A outer s H E) (eB st) t/\t {nx:=λ_ H'=>Q .aY H',rt:=Q} (start N vs) H):A6 P w K mg au C x (k+1) sp:=by obtain⟨f,fd,hm,F'⟩:=F.ex;exact⟨f,fd,ps,F'.Lo S len λaE A outer s H vs Q E=>fb f aE A outer s H vs Q E,hm,F'.binds hb,F.LP⟩
end
section
variable {X:Cx}{k:Nat}{x m:Str}{C:Addr}{p pos apos:Pos}{o e:Expr}{es:List Expr}{t:TA}{ta:TE}{sp:Sp}{E:XK}
inductive P1(C:Addr)(m:Str)(sp:Sp)(E:XK)(t:TA)(O:St)(Q:VK)(x:V)(H1:Hp):Prop |mk (a:Addr)(dx:Addr)(fs:List (Str×V))(h0:x= .ref a)(h1:H1 a=some (.ins C dx fs))(h2:fs.lookup m=none)(h3:t O H1 λvs H2=>sp (x::vs) H2 Q E)
def HF(C:Addr)(m:Str)(sp:Sp)(E:XK)(ta:TE)(t:TA):TE:=λO H Q=>ta O H λx H1=>P1 C m sp E t O Q x H1
theorem LN{O:St}{Q:VK}{x:V}{H1:Hp}:rk C m sp [] E t O Q x H1=P1 C m sp E t O Q x H1:=by
 have e1:(λ(vs:List V) H1=>sp (x::(vs++[])) H1 Q E)=λvs H1=>sp (x::vs) H1 Q E:=by funext vs H1;rw[jk]
 refine propext ⟨λ⟨a,dx,fs,h0,h1,h2,h3⟩=>⟨a,dx,fs,h0,h1,h2,?_⟩,λ⟨a,dx,fs,h0,h1,h2,h3⟩=>⟨a,dx,fs,h0,h1,h2,?_⟩⟩
 ·rw[<-e1];exact h3
 ·rw[e1];exact h3
theorem kz{pl:Sem Bool}(F:iC X.prog X.w X.K X.mg X.au C m k sp)(hp:Passes (fS X.prog X.w) X E)(c:gI X.K C)(hr:bU k X.A)(he:PE X o ta)(ha:PA X (e::es) t) (fq:autoParam (starEach (e::es) X.env=(false,eval e X.env)::starEach es X.env) r8_._auto_1)(dI:autoParam ((backTo pos (starEach es X.env)).any (·.1)=false) r8_._auto_1) (ht:eval (.Call (.Attribute o m apos) (e::es) [] pos) X.env=(do
 let ov<-eval o X.env
 standAt apos.atName
 let(f,first)<-holding [ov] (getMethod ov m pl)
 callWith pos f first (backTo pos (starEach (e::es) X.env)) (backToKw pos (keywordEach [] X.env))):=by rfl): PE X (.Call (.Attribute o m apos) (e::es) [] pos) (HF C m sp E ta t):=by
 obtain⟨f,fd,ps,F,hm,hb⟩:=F;have h:=KW (pos:=pos) (apos:=apos) (pl:=pl) he c hm F hr hb .nil hp ha fq dI ht;intro ak s O H Q I hq;refine h ak s O H Q I ?_;show ta O H λx H1=>rk C m sp [] E t O Q x H1;simp only[LN];exact hq
theorem Uz{pl:Sem Bool}(F:iC X.prog X.w X.K X.mg X.au C m k sp)(hp:Passes (fS X.prog X.w) X E)(c:gI X.K C)(hr:bU k X.A)(he:PE X o ta) (ht:eval (.Call (.Attribute o m apos) [] [] pos) X.env=(do
 let ov<-eval o X.env
 standAt apos.atName
 let(f,first)<-holding [ov] (getMethod ov m pl)
 callWith pos f first (backTo pos (starEach [] X.env)) (backToKw pos (keywordEach [] X.env))):=by rfl): PE X (.Call (.Attribute o m apos) [] [] pos) (HF C m sp E ta oj):=by
 obtain⟨f,fd,ps,F,hm,hb⟩:=F;have h:=KU (pos:=pos) (apos:=apos) (pl:=pl) he c hm F hr hb .nil hp ht;intro ak s O H Q I hq;refine h ak s O H Q I ?_;show ta O H λx H1=>rk C m sp [] E oj O Q x H1;simp only[LN];exact hq
def Ro(C:Addr)(sp:Sp)(E:XK)(t:TA):TE:=λO H Q=>t O H λvs H1=>∀x dx,H1 x=none->H1 dx=none->dx≠x->sp (.ref x::vs) (upd (upd H1 dx (.own x)) x (.ins C dx [])) (λv H2=>v= .aY/\Q (.ref x) H2) E
theorem sP(F:A6 X.prog X.w X.K X.mg X.au C x k sp)(hp:Passes (fS X.prog X.w) X E)(hr:bU (k+1) X.A)(hg:Gl X x)(ha:PA X (e::es) t)(eZ:autoParam ((x==("__debug__":Str))=false) q8_._auto_1) (he:autoParam (starEach (e::es) X.env=(false,eval e X.env)::starEach es X.env) r8_._auto_1)(dI:autoParam ((backTo pos (starEach es X.env)).any (·.1)=false) r8_._auto_1): PE X (.Call (.Name x p) (e::es) [] pos) (Ro C sp E t):=by
 obtain⟨f,fd,ps,F,M,hb,hm⟩:=F;have h:=KY (pos:=pos) (p:=p) M F hr hg hm hb .nil hp ha eZ he dI;intro ak s O H Q I hq;refine h ak s O H Q I ?_;have e1:(λ(vs:List V) H1=>∀x dx,H1 x=none->H1 dx=none->dx≠x->sp (.ref x::(vs++[])) (upd (upd H1 dx (.own x)) x (.ins C dx [])) (λv H2=>v= .aY/\Q (.ref x) H2) E) =λvs H1=>∀x dx,H1 x=none->H1 dx=none->dx≠x->sp (.ref x::vs) (upd (upd H1 dx (.own x)) x (.ins C dx [])) (λv H2=>v= .aY/\Q (.ref x) H2) E:=by funext vs H1;rw[jk]
 show t O H λvs H1=>∀x dx,H1 x=none->H1 dx=none->dx≠x->sp (.ref x::(vs++[])) (upd (upd H1 dx (.own x)) x (.ins C dx [])) (λv H2=>v= .aY/\Q (.ref x) H2) E;rw[e1];exact hq
end
end _L
namespace _L
open PySem PySem.Spec PyProof.Rows SeqAt
section
variable {X:Cx}{k:Nat}{x:Str}{p pos:Pos}{e:Expr}{es:List Expr}{t:TA}{sp:Sp}{E:XK}
end
section
variable {X:Cx}
end
end _L
namespace _L
open PySem PySem.Spec PyProof.Rows PySem.W
section
variable {P:af}{w:World}{K:Frag}{mg:bc}{au:Heap}{N:List Str}{qual:Str}{scope:Scope}{f:Addr}{cd:Value}{cl:List (Str×Addr)}{A:ai}{outer:List Env}{s:ae}{H:Hp}{E E0:XK}
end
section
variable {X:Cx}{x:Str}{p pos:Pos}{E:XK}
end
section
variable {X:Cx}{ak:List (Addr×Obj)}{O:St}{H:Hp}{s:ae}{pr:Arguments}{bd:Expr}{sc:Scope}{LX:Pos}{cl:List (Str×Addr)}{T c:Addr}{q:Str}
end
section
variable {X:Cx}{k:Nat}{x:Str}{p pos LX:Pos}{pr:Arguments}{bd:Expr}{sc:Scope}{sp:SpH}{T c:Addr}{q:Str}{N:List Str}
end
section
variable {P:af}{w:World}{K:Frag}{mg:bc}{au:Heap}
end
end _L
namespace _L
open PySem PySem.Spec PyProof.Rows
section
variable {P:af}{w:World}{K:aa}{mg:bc}{au:Heap}{N:List Str}{qual:Str}{scope:Scope}{f:Addr}{cd:Value}{A:ai}{outer:List Env}{s:ae}{H:Hp}{E:XK}{ak:List (Addr×Obj)}{O:St}{H1:Hp}{s1:ae}{ex:Addr}{C:Addr}{dx:Addr}{φ:Heap->Prop}{cls:Value}{dxo:Option Addr}{h2:Heap}{vs:List Value}
theorem jC(I:Inv (eX (fS P w) P w K mg au N qual scope f cd A outer s H E) ak O H1 s1)(hx:Heap.MadeExcOf s1.heap h2 ex cls vs)(q:E cls none H1):(eX (fS P w) P w K mg au N qual scope f cd A outer s H E).xe (.ref ex) {s1 with heap:=h2}:=by
 obtain⟨t,e1,_⟩:=hx.there;have hf:H1 ex=none:=by cases e:H1 ex with |none=>rfl |some o=>obtain⟨ob,e2⟩:=(I.aV ex o e).there;rw[hx.new]at e2;cases e2
 have nw:s.heap.get? ex=none:=by cases e:s.heap.get? ex with |none=>rfl |some o=>obtain⟨ob,e2⟩:=I.au.there ex o e (dX);rw[hx.new]at e2;cases e2
 have I2:=I.kept (t':=s1.toks) hx.keeps;have fq:h2.FunFrames au (envOfC qual scope s.heap.objs.size f cd::outer):=I2.stack;have zl:∀env∈(envOfC qual scope s.heap.objs.size f cd::outer),∀b,env.frame=some b->b∈ex::cS (envOfC qual scope s.heap.objs.size f cd::outer):=λenv he b hb=>.tail _ (iV.mpr ⟨env,he,hb⟩);have hB:(PySem.W.hideAll h2 (ex::cS (envOfC qual scope s.heap.objs.size f cd::outer))).StaysIn h2:=λb o e=>Pr _ e;have kE:∀b o,s.heap.get? b=some o->b∉cS outer->b∉ex::cS (envOfC qual scope s.heap.objs.size f cd::outer):=λb o e hb hm=>by
  rcases bZ.mp hm with rfl|hm
  ·rw[nw]at e;cases e
  obtain⟨env,he,hf⟩:=iV.mp hm;rcases bZ.mp he with rfl|he
  ·have e1:s.heap.objs.size=b:=dW hf
   have h1:=bP e;rw[<-e1]at h1;exact absurd h1 (pP _)
  ·exact hb (iV.mpr ⟨env,he,hf⟩)
 have F0:Fl P w outer H s.heap ex H1 (PySem.W.hideAll h2 (ex::cS (envOfC qual scope s.heap.objs.size f cd::outer))) h2:=by
  refine⟨I2.au,I2.aV,λb o e n hb=>uj _ (I2.au.keep b o e n hb (dX)) (kE b o e hb),λb o e=>?_,λb o e hb=>?_,λb hb=>?_,nw,hf⟩
  ·obtain⟨jo,e1⟩:=(I2.aV b o e).there
   refine⟨jo,uj _ e1 λhm=>?_⟩;rcases bZ.mp hm with z|hm
   ·rw[z,hf]at e;cases e
   ·rw[I2.rY b hm]at e
    cases e
  ·obtain⟨jo,e1⟩:=I2.au.there b o e (dX)
   exact⟨jo,uj _ e1 (kE b o e hb)⟩
  ·obtain⟨env,he,hf⟩:=iV.mp hb
   exact I2.rY b (iV.mpr ⟨env,.tail _ he,hf⟩)
 show wpAny (model P w) (A.deeper (envOfC qual scope s.heap.objs.size f cd)) (leaving (envOfC qual scope s.heap.objs.size f cd) (.ref ex)) _ _ _;refine M9 (L:=s.heap.objs.size) I.ok.frames (PySem.W.funFrames_hide fq zl) Z e1 hB (Pu _ (.head _)) Z Z Z λh' x1 x2=>?_;exact⟨ex,cls,none,H1,_,Z,I.os,I.bare,x1,F0.step hB x1.1 x2 fq.2.2,q⟩
end
section
variable {X:Cx} {sc:Scope}
end
end _L
set_option exponentiation.threshold 6000
namespace _L
open PySem PySem.Spec PyProof.Rows
section
variable {X:Cx}
theorem Ol:∀(l:List (Str×Tok)),Vals ((l.map (·.1)).map V.str) (strValues l) |[]=>.nil |(z,t)::l=>.cons ⟨t,Z⟩ (Ol l)
theorem split_len(x y:Str):(Txt.split x y).length<=x.length+2:=by
 unfold Txt.split;split
 ·simp
 ·split
  ·simp
  ·have e1:=StrLaws.occ_length_le x y 0 x.length (x.length+1)
   rw[length_partsBetween];omega
inductive a6X(x:V)(vs:List V)(H:Hp)(Q:VK):Prop |mk (z y:Str)(h0:x= .str z)(h1:vs=[.str y])(h2:(y.length==0)=false)(h3:z.length+2<=sizeLine)(h4:∀p H',Nw H H' p (.lst ((Txt.split z y).map V.str))->Q (.ref p) H')
def KG:V->List V->Hp->VK->Prop:=λx vs H Q=>a6X x vs H Q
theorem XA:A5 X "str.split" KG:=by
 intro ak s O H x0 vs v us Q I rx rv h;obtain⟨x,y,rfl,rfl,hy,hz,q⟩:=h;obtain⟨t,rfl⟩:=rx;obtain⟨u0,rfl,u,rfl⟩:=vals1 rv;have key:∀(l:List (Str×Tok))(k:Nat),l.map (·.1)=Txt.split x y->EP X ak O Q (.ref s.heap.objs.size) {s with toks:=k,heap:=s.heap.push {cls:=.type "list",data:=.seq (strValues l).toArray}}:=λl k e=>by have nw:Nw H (upd H s.heap.objs.size (.lst ((Txt.split x y).map V.str))) s.heap.objs.size (.lst ((Txt.split x y).map V.str)):=.of (I.aV.fresh (bA _));refine⟨.ref s.heap.objs.size,_,I.laid (t':=k) (o:=.lst ((Txt.split x y).map V.str)) (λb ob q=>bL _ q) (bA _) ?_,Z,q _ _ nw⟩;have:=split_len x y;exact⟨by rw[bR];omega,_,0,by rw[<-e];exact Ol l,dw _ Z⟩
 cases h1:(decide (x.length<y.length)||decide (Builtin.Str.strKind x<Builtin.Str.strKind y))
 ·cases hf:(Builtin.Str.occurrences x y 0 x.length (x.length+1)).isEmpty
  ·have e1:=StrLaws.occ_length_le x y 0 x.length (x.length+1)
   refine lG F.slot_str_split (typeIs_str _ _ _) F.entry_str_split (F.args_str_split_2 _ _) (meets_str_split_sep x y t u h1 hy hf bK (by rw[length_partsBetween];omega)) ?_;show wants _ _ _ {s with toks:=_,heap:=s.heap.push {cls:=.type "list",data:=.seq (strsFrom s.toks (Builtin.Str.partsBetween x (Builtin.Str.occurrences x y 0 x.length (x.length+1)) y.length)).toArray}};rw[strsFrom_eq];exact key (numbered s.toks _) _ ((numbered_texts _ _).trans ((bf (Pg h1)).trans (bf (Pg hf))).symm)
  ·exact lG F.slot_str_split (typeIs_str _ _ _) F.entry_str_split (F.args_str_split_2 _ _) (meets_str_split_not_found x y t u h1 hy hf) (key [(x,t)] s.toks ((bf (Pg h1)).trans (bo hf)).symm)
 ·exact lG F.slot_str_split (typeIs_str _ _ _) F.entry_str_split (F.args_str_split_2 _ _) (meets_str_split_cannot_occur x y t u h1) (key [(x,t)] s.toks (bo h1).symm)
theorem Dj(K:aa)(h:X.K=K){o e:Expr}{to:TE}{t:TA}{apos cg:Pos}(ho:PE X o to)(ha:PA X [e] t) (kR:autoParam (attributeBase o "split" X.env (eval o X.env)=eval o X.env) r8_._auto_1) (kP:autoParam (((backTo cg (starEach [e] X.env)).all (λx=>!x.1)&&(backToKw cg (keywordEach [] X.env)).all (λx=>x.1.isSome) &&decide ([e].length+([]:List Keyword).length+(if([]:List Keyword).isEmpty then 0 else 1)<30))=true) r8_._auto_1) (kM:autoParam ((apos.endLine==cg.line)=true) r8_._auto_1)(hs:autoParam (starEach [e] X.env=(false,eval e X.env)::starEach [] X.env) r8_._auto_1)(kK:autoParam ((backTo cg (starEach [] X.env)).any (·.1)=false) r8_._auto_1): PE X (.Call (.Attribute o "split" apos) [e] [] cg) (rV K "str" KG to t):=by subst h;exact vb Py PySem.F.slot_str_split PySem.F.type_str_split XA ho ha kR kP kM hs kK
inductive a73(x:V)(vs:List V)(H:Hp)(Q:VK):Prop |mk (z y:Str)(h0:x= .str z)(h1:vs=[.str y])(h3:z.length<=sizeLine)(h4:Q (.str (Txt.removeprefix z y)) H)
def KH:V->List V->Hp->VK->Prop:=λx vs H Q=>a73 x vs H Q
theorem XB:A5 X "str.removeprefix" KH:=by intro ak s O H x0 vs v us Q I rx rv h;obtain⟨x,y,rfl,rfl,hz,q⟩:=h;obtain⟨t,rfl⟩:=rx;obtain⟨u0,rfl,u,rfl⟩:=vals1 rv;exact SC.removeprefix (λt' k=>⟨.str _,H,I.kept (t':=k) (λ_ _ e=>e),⟨_,Z⟩,q⟩) (hsz:=hz)
theorem UI(K:aa)(h:X.K=K){o e:Expr}{to:TE}{t:TA}{apos cg:Pos}(ho:PE X o to)(ha:PA X [e] t) (kR:autoParam (attributeBase o "removeprefix" X.env (eval o X.env)=eval o X.env) r8_._auto_1) (kP:autoParam (((backTo cg (starEach [e] X.env)).all (λx=>!x.1)&&(backToKw cg (keywordEach [] X.env)).all (λx=>x.1.isSome) &&decide ([e].length+([]:List Keyword).length+(if([]:List Keyword).isEmpty then 0 else 1)<30))=true) r8_._auto_1) (kM:autoParam ((apos.endLine==cg.line)=true) r8_._auto_1)(hs:autoParam (starEach [e] X.env=(false,eval e X.env)::starEach [] X.env) r8_._auto_1)(kK:autoParam ((backTo cg (starEach [] X.env)).any (·.1)=false) r8_._auto_1): PE X (.Call (.Attribute o "removeprefix" apos) [e] [] cg) (rV K "str" KH to t):=by subst h;exact vb Py PySem.F.slot_str_removeprefix PySem.F.type_str_removeprefix XB ho ha kR kP kM hs kK
inductive a7f(xs:List V)(H:Hp)(Q:VK):Prop |mk (z:Str)(n:Int)(h0:xs=[.str z])(h1:PySem.intText? z=some n)(h2:z.length<=640)(h3:Q (.int n) H)
theorem a4I:eT X (.type "int") (λxs H Q=>a7f xs H Q):=by intro ak s O H xs us Q I r h;obtain⟨z,n,rfl,hn,hl,q⟩:=h;obtain⟨u,rfl,t,rfl⟩:=vals1 r;exact PySem.W.KIN.call_text hn hl ⟨.int _,H,I.tok _,⟨_,Z⟩,q⟩
inductive a7C(K:aa)(t1 t2:TG)(v:V)(O:St)(H:Hp)(Q:St->Hp->Prop):Prop |mk (a:Addr)(x:V)(xs:List V)(h0:v= .ref a)(h1:aK K H a (x::xs))(h2:xs.length<=16000)(h3:∀p H',Nw H H' p (.lst xs)->t1 x O H' λσ1 H1=>t2 (.ref p) σ1 H1 Q)
def a2j(K:aa)(t1 t2:TG):TG:=λv O H Q=>a7C K t1 t2 v O H Q
theorem KS(K:aa)(hK:X.K=K){e1 e2:Expr}{k:Nat}{t1 t2:TG}{sp pos:Pos}(hc:X.calm=true)(h1:PG X e1 t1)(h2:PG X e2 t2) (hs:autoParam (assignEach [e1,.Starred e2 sp] X.env=[(false,assign e1 X.env),(true,assign e2 X.env)]) r8_._auto_1):PG X (.Tuple [e1,.Starred e2 sp] k pos) (a2j K t1 t2):=by subst hK;intro ak s O H v u Q I r hw;obtain⟨a,x,xs,e,hq,hl,hw⟩:=hw;subst e;cases r;obtain⟨its,rv,ht,hz⟩:=I.list hq;have hh:X.A.handled=none:=I.ok.hd hc;have vJ:=ht.isList;cases rv with |cons r1 rr=>
 rename_i ux gy;have hlen:=rr.length;have cm:a≠s.heap.objs.size:=by obtain⟨o,ho,_⟩:=vJ;exact dh (bP ho)
 rw[assign_Tuple];refine aB (mJ ?_);unfold unpack;rw[hs];refine aB (gJ ?_);show wpAny _ _ (unpackItems (.ref a) 2 (some 1)) _ _ _;unfold unpackItems;refine aB ?_;unfold notIterableAtAll;refine aB (wpAny_specialOf vJ.typeIs slot_list_iter.lookup ?_);refine bB ?_;simp only[Bool.false_eq_true,if_false];refine aB (gJ (Aa vJ ?_));have sz:(ux::gy).toArray.size=xs.length+1:=by rw[cY,fC,hlen]
 refine aB (gJ (PySem.W.kun_draw cm 1 0 _ _ ⟨_,dw _ Z,Z,Z⟩ (vJ.push _) bK λh₁ Eu My=>?_));have MI:h₁.IsList a (ux::gy).toArray:=(vJ.push _).extBut My.extBut cm;rw[Nat.zero_add]at Eu;have a09:=Eu;obtain⟨oi,iM,_⟩:=a09;have a00:=MI;obtain⟨ol,nK,_⟩:=a00;rw[bf (by simp)];refine aB (gJ (PySem.W.kun_collect (s:={s with heap:=h₁}) (T:="list_iterator") (.inr (.inr (.inl rfl))) (Walks.list (A:=X.A.in1) hh s.heap.objs.size a cm (ux::gy).toArray) (λj u st=>st.1.typeIs) (k:=1) bK ⟨Eu,MI⟩ (bP iM) (bP nK) (λh₂ tk hk=>?_) (by rw[ug];omega)));have ea:(ux::gy).toArray.toList.drop 1=gy:=by simp
 rw[ea];show wpAny _ _ (if gy.length<2-1-1 then _ else _) _ _ _;rw[bf bK];show wpAny _ _ (newList (gy.take (gy.length-(2-1-1)))>>=λd=>pure ((ux::gy).toArray.toList.take 1++[d]++gy.drop (gy.length-(2-1-1)))) _ _ _;have eb:gy.take (gy.length-(2-1-1))=gy:=Am bK;have ec:gy.drop (gy.length-(2-1-1))=[]:=List.drop_eq_nil_of_le bK;rw[eb,ec];have he:Heap.ExtBut s.heap.objs.size s.heap h₂:=λb o hb e=>hk b o hb (My.extBut b o hb (bL _ e));refine aB (wpAny_newList (s:={s with heap:=h₂,toks:=tk}) (bB ?_) ?_)
 ·have I2:Inv X ak O H {s with heap:=h₂,toks:=tk}:=I.kept (t':=tk) λb o e=>he b o (dh (bP e)) e
  have nw:Nw H (upd H h₂.objs.size (.lst xs)) h₂.objs.size (.lst xs):=.of (I2.aV.fresh (bA _));have I3:Inv X ak O (upd H h₂.objs.size (.lst xs)) {s with heap:=h₂.push {cls:=.type "list",data:=.seq gy.toArray},toks:=tk}:=I2.laid (t':=tk) (o:=.lst xs) (λb ob q=>bL _ q) (bA _) ⟨by rw[fC]at hz;omega,gy,0,rr,dw _ rfl⟩;show wpAny _ _ (assignInOrder (assign e1 X.env::[assign e2 X.env]) (ux::[Value.ref h₂.objs.size])) _ _ _;refine Ag (aR (h1 ak _ O _ _ _ _ I3 r1 (hw _ _ nw)) λ_ s1 ⟨σ1,H1,I1,q1⟩=>?_);refine Ag (aR (h2 ak s1 σ1 H1 (.ref h₂.objs.size) _ _ I1 Z q1) λ_ s2 ⟨σ2,H2,I2,q2⟩=>?_);exact assignInOrder_nil ⟨σ2,H2,I2,q2⟩
 ·rw[<-hlen,ug];omega
end
end _L
namespace _T
open PySem PySem.Spec PyProof.Rows PySem.NumText
def gl(c:Nat):List (List Nat)->List Nat |[]=>[] |[x]=>x |x::y::r=>x++c::gl c (y::r)
theorem Nc(c:Nat):∀zs:List Str,(PySem.Str.join ⟨#[c]⟩ zs).cps.toList=gl c (zs.map λz=>z.cps.toList) |[]=>by simp[PySem.Str.join,PySem.Str.empty,gl] |[x]=>rfl |x::y::r=>by show((x++⟨#[c]⟩)++PySem.Str.join ⟨#[c]⟩ (y::r)).cps.toList=_;rw[PySem.Str.cps_append,PySem.Str.cps_append,Array.toList_append,Array.toList_append,Nc c (y::r)];show(x.cps.toList++[c])++gl c _=x.cps.toList++c::gl c _;rw[List.append_assoc];rfl
theorem a4j{x y:Str}(h:x.cps.toList=y.cps.toList):x=y:=PySem.Str.ext' (Array.toList_inj.mp h)
theorem Sa(x y:Str):Txt.split x y≠[]:=by
 unfold Txt.split;split
 ·simp
 ·split
  ·simp
  ·rw[StrLaws.partsBetween_eq]
   obtain⟨p,r,e⟩:=StrLaws.partsFrom_ne x y.length 0 (Builtin.Str.occurrences x y 0 x.length (x.length+1));rw[e];simp
def isFig(c:Nat):Bool:=decide (48<=c)&&decide (c<=57)
def figs(z:Str):List Nat:=match z.cps.toList with |45::r=>r |l=>l
def numIn? (z:Str):Option Int:=bif (figs z).isEmpty|| !(figs z).all isFig then none else bif decide ((figs z)[0]? =some 48)&& !decide (z="0")then none else intText? z
theorem tO{cs:List Nat}(h:cs.all isFig=true):AllDigits cs:=λc hc=>by have:=fG.mp h c hc;simpa[isFig]using this
theorem Z6{z:Str}(h1:figs z≠[])(h2:(figs z).all isFig=true)(hl:z.length<=4300):∃n,intText? z=some n:=by
 unfold figs at h1 h2;split at h1
 ·rename_i r h
  rw[h]at h2;exact⟨_,intText_neg h (tO h2) h1 hl⟩
 ·rename_i h
  split at h2
  ·rename_i r h'
   exact(h r h').elim
  ·exact⟨_,intText_digits (tO h2) h1 hl⟩
theorem Tb(z:Str):(Txt.removeprefix z "-").cps.toList=figs z:=by
 rw[StrLaws.removeprefix_eq];have e1:(Str.ofString "-").cps.toList=[45]:=by decide+kernel
 have e2:(Str.ofString "-").length=1:=by decide+kernel
 have hn:z.cps.toList.length=z.length:=by simp[Str.length]
 rw[e2,StrLaws.subAt_eq,e1,e2,List.drop_zero];unfold figs;cases hz:z.cps.toList with |nil=>rw[hz]at hn;have h0:z.length=0:=hn.symm;rw[bf (by simp)];exact hz |cons a r=>
  rw[hz]at hn;simp only[fC]at hn;by_cases ha:a=45
  ·subst ha
   rw[bo (by simp;omega)];show((List.drop 1 (45::r)).take _).toArray.toList=r;rw[List.drop_one,List.tail_cons,Am bK]
  ·rw[bf (by simp;intro _;exact λe=>ha (by simpa using e))]
   rw[hz];split
   ·rename_i h;simp at h;exact(ha h.1).elim
   ·rfl
end _T
namespace _L
open PySem PySem.Spec PyProof.Rows
section
variable {prog:af}{w:World}{A:ai}{E:Value->ae->Prop}{s:ae}
end
section
variable {X:Cx}
inductive a6W(x:V)(vs:List V)(H:Hp)(Q:VK):Prop |mk (z y:Str)(h0:x= .str z)(h1:vs=[.str y])(h4:Q (.bl (Txt.startswith z y)) H)
def KD:V->List V->Hp->VK->Prop:=λx vs H Q=>a6W x vs H Q
theorem Xz:A5 X "str.startswith" KD:=by intro ak s O H x0 vs v us Q I rx rv h;obtain⟨x,y,rfl,rfl,q⟩:=h;obtain⟨t,rfl⟩:=rx;obtain⟨u0,rfl,u,rfl⟩:=vals1 rv;exact SC.startswith ⟨.bl _,H,I,Z,q⟩
theorem UH(K:aa)(h:X.K=K){o e:Expr}{to:TE}{t:TA}{apos cg:Pos}(ho:PE X o to)(ha:PA X [e] t) (kR:autoParam (attributeBase o "startswith" X.env (eval o X.env)=eval o X.env) r8_._auto_1) (kP:autoParam (((backTo cg (starEach [e] X.env)).all (λx=>!x.1)&&(backToKw cg (keywordEach [] X.env)).all (λx=>x.1.isSome) &&decide ([e].length+([]:List Keyword).length+(if([]:List Keyword).isEmpty then 0 else 1)<30))=true) r8_._auto_1) (kM:autoParam ((apos.endLine==cg.line)=true) r8_._auto_1)(hs:autoParam (starEach [e] X.env=(false,eval e X.env)::starEach [] X.env) r8_._auto_1)(kK:autoParam ((backTo cg (starEach [] X.env)).any (·.1)=false) r8_._auto_1): PE X (.Call (.Attribute o "startswith" apos) [e] [] cg) (rV K "str" KD to t):=by subst h;exact vb Py PySem.F.slot_str_startswith PySem.F.type_str_startswith Xz ho ha kR kP kM hs kK
end
theorem a2p{z:Str}{g:TG}{tb:TS}{D:Ends}{O:St}{H:Hp}(Pv:Nat->St->Hp->Prop)(h0:Pv 0 O H) (hs:∀i c O H,z.cps.toList[i]? =some c->Pv i O H->g (.str ⟨#[c]⟩) O H λσ2 H2=>tb {D with nx:=Pv (i+1),ct:=Pv (i+1),bk:=D.nx} σ2 H2)(hd:∀O H,Pv z.cps.size O H->D.nx O H): ∃W:Nat->Nat->St->Hp->Prop,(∃m,W 0 m O H)/\∀i m O H,W i m O H->((u7 z).stop i H/\D.nx O H)\/((u7 z).go i H/\∃N:St->Hp->Prop,(∀σ' H',N σ' H'->∃m',m'<m/\W (i+1) m' σ' H')/\∀x H',(u7 z).gw i H x H'->g x O H' λσ2 H2=>tb {D with nx:=N,ct:=N,bk:=D.nx} σ2 H2):=by
 refine⟨λi m O H=>m=z.cps.size-i/\i<=z.cps.size/\Pv i O H,⟨z.cps.size,by simp,fh _,h0⟩,?_⟩;rintro i m O H ⟨rfl,hi,p⟩;by_cases cm:i<z.cps.size
 ·refine .inr ⟨cm,Pv (i+1),λσ' H' q=>⟨z.cps.size-(i+1),bK,Z,cm,q⟩,λx H' hy=>?_⟩
  obtain⟨rfl,c,hc,rfl⟩:=hy;exact hs i c O _ hc p
 ·have e:i=z.cps.size:=by omega
  subst e;exact .inl ⟨bA _,hd O H p⟩
end _L
namespace _N
open PySem PySem.Spec PyProof.Rows PySem.NumText _T
theorem a41(cs:List Nat)(c:Nat):digitsVal (cs++[c])=digitsVal cs*10+(c-48):=by unfold digitsVal;rw[PQ];rfl
theorem NR{cs:List Nat}{i c:Nat}(h:cs[i]? =some c):digitsVal (cs.take (i+1))=digitsVal (cs.take i)*10+(c-48):=by rw[List.take_add_one,h];exact a41 _ _
theorem NS{cs:List Nat}(h:AllDigits cs):∀i,digitsVal (cs.take i)<10^i |0=>by simp[digitsVal] |i+1=>by have ih:=NS h i;rw[Nat.pow_succ];cases hc:cs[i]? with |none=>rw[List.take_add_one,hc];simp;omega |some c=>have:=h c (hJ hc);rw[NR hc];omega
theorem RP(z:Str):Txt.startswith z "-"=decide (z.cps.toList.head? =some 45):=by
 have e1:(Str.ofString "-").cps.toList=[45]:=by decide+kernel
 have e2:(Str.ofString "-").length=1:=by decide+kernel
 have hn:z.cps.toList.length=z.length:=by simp[Str.length]
 unfold Txt.startswith;rw[e2,StrLaws.subAt_eq,e1,e2,List.drop_zero,<-hn];cases z.cps.toList with |nil=>rfl |cons c r=>simp[Q4]
theorem WS{z y:Str}{n:Int}(ef:y.cps.toList=figs z)(h1:figs z≠[])(h2:(figs z).all isFig=true)(hl:z.length<=4300)(hn:intText? z=some n): n=if Txt.startswith z "-"=true then-((digitsVal y.cps.toList:Nat):Int)else((digitsVal y.cps.toList:Nat):Int):=by
 rw[RP,ef];unfold figs at*;split at h1
 ·rename_i r h
  rw[h]at h2;have e:=intText_neg h (tO h2) h1 hl;rw[hn]at e;rw[h];simpa using e
 ·rename_i h
  split at h2
  ·rename_i r h'
   exact(h r h').elim
  ·have e:=intText_digits (tO h2) h1 hl
   rw[hn]at e;have hh:z.cps.toList.head? ≠some 45:=λz'=>by cases hz:z.cps.toList with |nil=>rw[hz]at z';cases z' |cons c r=>rw[hz]at z';cases z';exact h r hz
   rw[cX hh];simpa using e
theorem QE{c:Nat}(h1:48<=c)(h2:c<=57):intText? ⟨#[c]⟩=some ((c-48:Nat):Int):=by have e:=intText_digits (x:=⟨#[c]⟩) (λa ha=>by rw[eg.mp ha];exact⟨h1,h2⟩) (by simp) (by show 1<=4300;decide);rw[e];show some (((0*10+(c-48):Nat):Nat):Int)=_;rw[Nat.zero_mul,Nat.zero_add]
end _N
namespace _L
open PySem PySem.Spec PyProof.Rows
section
variable {prog:af}{w:World}{A:ai}{R:Result->ae->Prop}{s:ae}{elt tg iter tg2 a8h:Expr}{scope:Scope}{pos:Pos}{it acc:Value}{env:Env}
end
section
variable {K:aa}
end
section
variable {X:Cx}{x:Str}{C fI:Addr}{dJ:List Value}{newId oQ B:String}{e e2:Expr}{t:TA}{np cg pos:Pos}{k:Nat}{fd:FuncData}{ps:List Str}{sp:Sp}
theorem D9{E:XK}(hx:∀ak O H s ex dx,Inv X ak O H s->H ex=some (.ext (gZ ex C dx))->X.s₀.heap.objs.size<=ex->E (.ref C) (some dx) (del H ex)->X.xe (.ref ex) s) (EC:mH X.K X.mg x C fI dJ newId)(FB:ExcBaseFacts B newId oQ dJ)(hh:X.A.handled=none)(F:dS X.prog X.w X.K X.mg X.au eM k fI fd ps sp)(hr:bU (k+1) X.A)(hb:Binds X.K fd ps [])(hf:fnAt X.K fI=true)(hg:Gl X x)(ha:PA X [e,e2] t) (he:autoParam (starEach [e,e2] X.env=[(false,eval e X.env),(false,eval e2 X.env)]) r8_._auto_1)(hd:autoParam ((x==("__debug__":Str))=false) q8_._auto_1): PS X (.Raise (some (.Call (.Name x np) [e,e2] [] cg)) none pos) (HD E C sp t):=by
 intro ak s O H D I h;obtain⟨tl,Nn,nm,q,bs,hdct,sn,sub,ab,col,dd,k0,k1,k2,k3,k5,mN,hC,hN,hi,T⟩:=EC.own I.ok.mod.jN;have hA:=ha cg ak s O H _ I h;rw[arm_exec_Raise];refine aB (mJ (KC (C:=C) (nm:=nm) (q:=q) (N:=Nn) (bs:=bs) (bm:=tl) (hdct:=hdct) (sn:=sn) (sub:=sub) (ab:=ab) (col:=col) (dd:=dd) (k0:=k0) (k1:=k1) (k2:=k2) (k3:=k3) (k5:=k5) (newId:=newId) (T.hasType FB.hasBase) hh (aB (gr (wpAny_Call_ofName (m5 I hg EC.at' ?_ hd)) (λv s3 h3=>aB (mJ (bB h3))) λ_ _ z=>z))));unfold callWith;rw[he]at hA⊢;refine aB (gJ (gr (Hf (Q:=λ(a:Args) s2=>a.kw=[]/\AP X ak O (λvs H1=>vs.length<=sizeLine/\∀ex,H1 ex=none->sp (.ref ex::vs) (upd H1 ex (.ext (jy ex C))) (λv H2=>v= .aY/\∃dx,H2 ex=some (.ext (gZ ex C dx))/\E (.ref C) (some dx) (del H2 ex)) (λ_ _ _=>False)) a.pos s2) (aR hA λus s2 z=>⟨Z,z⟩)) (λa s2 z=>aB (mJ ?_)) λ_ _ z=>z));obtain⟨us,Gf⟩:=a;obtain⟨Es,vs,H1,I1,r1,z1,w1⟩:=z;obtain rfl:Gf=[]:=Es;have C2:=I1.bk _ _ hC;have T2:=T.keeps I1.bk;have N2:=hN.keeps I1.bk;obtain⟨oI,f1,f2⟩:=Nl I1.dH hf;have DR:us.length<=sizeLine:=by rw[<-r1.length];exact z1
 obtain⟨hp,g,d,tk,os⟩:=s2;rw[show(backTo cg [(false,eval e X.env),(false,eval e2 X.env)]).any (·.1)=false from rfl];refine aB (wpAny_keeperOf_exc C2 ?_);have I1':Inv X ak O H1 ⟨iy hp C us,g,d,tk,os⟩:=I1.kept (t':=tk) (h':=iy hp C us) λb u e=>p9 e;have xa:=Fy (h:=hp) (C:=C) (rest:=us);have fx:H1 (hp.objs.size+1)=none:=I1.aV.fresh (uq _);have I2:Inv X ak O (upd H1 (hp.objs.size+1) (.ext (jy (hp.objs.size+1) C))) ⟨iy hp C us,g,d,tk,os⟩:=by refine I1.laid (a:=hp.objs.size+1) (o:=.ext (jy (hp.objs.size+1) C)) (h':=iy hp C us) (t':=tk) (λb u e=>p9 e) (uq _) ?_;exact⟨⟨_,_,xa,Z,Z,Z,Z,Z⟩,⟨_,xa⟩,λh1 h2 ⟨jo,ix,y1,y2⟩ k=>⟨jo,ix,k _ y1,y2⟩⟩
 have hq:=w1 (hp.objs.size+1) fx;have r2:Vals (V.ref (hp.objs.size+1)::vs) (Value.ref (hp.objs.size+1)::us):=.cons Z r1;have hl:(Value.ref (hp.objs.size+1)::us++[]).length=ps.length:=by have e:=r2.length;rw[F.len _ _ _ _ hq]at e;rw[jk];exact e.symm
 have bt:=hb ⟨iy hp C us,g,d,tk,os⟩ (Value.ref (hp.objs.size+1)::us) I2.dH hl;rw[jk]at bt;refine aB (Oo FB T2 C2 N2 hi f1 f2 DR (pO (rF (F.run _ X.stack _ _ ⟨Value.ref (hp.objs.size+1)::us,[]⟩ (Value.ref (hp.objs.size+1)::us) _ _ (λ_ _ _=>False) (hr.make C us []) (I2.tR.make C us []) bt r2 hq) λr s' fK=>?_)));cases r with |error e=>exact False.elim fK |ok fl=>cases fl with |ret u=>obtain⟨v,H',I3,rv,ev,dx,ed,q3⟩:=I2.after fK;subst ev;refine⟨rv,aB (gJ (wpAny_point (bB ?_)))⟩;obtain⟨⟨ob,fs,g1,g2,g3,g4,g5,g6⟩,_,_⟩:=(show eQ X.prog X.w H' s'.heap _ (.ext (gZ (hp.objs.size+1) C dx))from I3.aV _ _ ed);exact⟨_,ob,fs,Z,I3.bk _ _ hC,g1,g2,g4,g5,hx ak O H' s' _ dx I3 ed (fA I1.sz (uq _)) q3⟩ |next=>exact False.elim fK |brk=>exact False.elim fK |cont=>exact False.elim fK
end
section
variable {κ : Type} [DecidableEq κ]
end
section
variable {P:af}{w:World}{H:Hp}{h:Heap}{a:Addr}
end
section
variable {X:Cx}{ak:List (Addr×Obj)}{O:St}{H:Hp}{s:ae}{a:Addr}{y v:V}{u r:Value}{o:Option V}{A:ai}{E:Value->ae->Prop}
end
section
variable {X:Cx}{ak:List (Addr×Obj)}{O:St}{H:Hp}{s:ae}{a:Addr}{dj:List (Key×V)}{k:Key}{u:Value}{A:ai}{E:Value->ae->Prop}
end
section
variable {X:Cx}{o i e value:Expr}{pos pos' mT:Pos}{td ty tv:TE}
end
section
variable {X:Cx} {pos:Pos}
end
section
variable {X:Cx}{ak:List (Addr×Obj)}{O:St}{H:Hp}{s:ae}{a:Addr}{y d:V}{u r:Value}{o:Option V}{A:ai}{E:Value->ae->Prop}
end
section
variable {X:Cx}{o e f:Expr}{apos cg:Pos}{td ty tx:TE}
end
section
variable {X:Cx}{ak:List (Addr×Obj)}{O:St}{H:Hp}{s:ae}{a:Addr}{dj:List (Key×V)}{A:ai}{E:Value->ae->Prop}
end
section
variable {X:Cx}{ak:List (Addr×Obj)}{O:St}{H:Hp}{s:ae}{a:Addr}{y:V}{u:Value}{A:ai}{E:Value->ae->Prop}
end
end _L
namespace _L
open PySem PySem.Spec PyProof.Rows PySem.W
structure GD(w:World)(K:Frag)(mg:bc)(x:Str)(a:Addr):Prop where
 at':mg x=some (.ref a)
 ob:∃es n,K.lookup a=some ⟨.type "dict",none,.dict es n,#[]⟩/\KeysLit w.params es.toList
 lo:(a==sysModules)=false
theorem a1V{w:World}{K:Frag}{mg:bc}{x:Str}{a:Addr}{h:Heap}{es:Array DictEntry}{n:Nat}(X:K.In h)(G:h.Ns mainGlobals mg)(e:nsIn K mainGlobals x=some (some (.ref a)))(hl:K.lookup a=some ⟨.type "dict",none,.dict es n,#[]⟩)(hk:KeysLit w.params es.toList)(lo:(a==sysModules)=false):GD w K mg x a:=⟨mg_of X G e,⟨es,n,hl,hk⟩,lo⟩
section
variable {X:Cx}{i:Expr}{x:Str}{a:Addr}{pos p:Pos}{ty:TE}
inductive a7F(K:Frag)(a:Addr)(Q:VK)(y:V)(H:Hp):Prop |mk (z:Str)(r:Option Value)(h0:y= .str z)(h1:nsIn K a z=some r)(h2:Q (.bl r.isSome) H)
theorem UK(G:GD X.w X.K X.mg x a)(hg:Gl X x)(hi:PE X i ty)(eZ:autoParam ((x==("__debug__":Str))=false) q8_._auto_1):PC X .In i (.Name x p) (λO H Q=>ty O H λy H1=>a7F X.K a Q y H1):=by intro ak s O H Q I h;obtain⟨es,n,hl,hk⟩:=G.ob;refine aR (hi ak s O H _ I h) λiv s1 ⟨y,H1,I1,ry,z,r,ey,e,q⟩=>m5 I1 hg G.at' ?_ eZ;subst ey;obtain⟨t,rfl⟩:=ry;refine wpAny_in_of (strKind_is X.prog X.w z t) G.lo (mapOf_K (prog:=X.prog) I1.dH hl hk) ?_;rw[find_K hl e];exact⟨.bl r.isSome,H1,I1.tok _,Z,q⟩
end
theorem YK{l:OpenLaw}{q:af}{loose:List Str}{XP:(bc)->Heap->Prop}{YP:World->Heap->Prop}{d:DefRec}{K:Params->Frag}{k:Nat}{x:Str}{st:Stmt}(hn:l.most=some 63)(vN:d.params.defaults=[]) (hr:bU k callerA)(hY:∀(w:World)(h:Heap),YP w h->(K w.params).In h)(All:World->Frag->(bc)->Prop) (F:∀(w:World)(mg:bc)(h:Heap),(K w.params).In h->h.Ns mainGlobals mg->All w (K w.params) mg) (L:∀(w:World)(K:Frag)(mg:bc),All w K mg->FA K mg d.name st) (hb:∀(kV doc pm:Value)(an:Option Addr)(aE ct u:Value),bindArgs (fnOf d.name d.name (iA st) (eB st) (aP st) .none kV doc pm an aE ct) ⟨[u],[]⟩=pure [(x,u)]) (ok:∀(P:af)(w:World)(K:Frag)(mg:bc)(au:Heap)(f:Addr)(fd:FuncData),All w K mg->gq K d.name d.name st f fd->dS P w K mg au eM k f fd [x] (λvs H Q _=>∃(a:Addr)(ns:List Int),vs=[.ref a]/\aK K H a (ns.map V.int)/\ns.length<=63/\∀H',Q (.bl true) H')): WalkO q loose XP YP l.row.toRowW d [] (λf vs=>PySem.call f vs):=_L.Ql (n:=63) (k:=k) (x:=x) (CX:=λ_=>eM) (sp:=λw=>λvs H Q _=>∃(a:Addr)(ns:List Int),vs=[.ref a]/\aK (K w.params) H a (ns.map V.int)/\ns.length<=63/\∀H',Q (.bl true) H') hn az vN hr hY (λw mg fa h KX G vI=>by
 have A:=F w mg h KX G;obtain⟨f,fd,hm,Fn⟩:=(L _ _ _ A).ex;have e:fa=f:=by rw[vI]at hm;injection (dW hm)
 subst e;refine⟨fd,λs u=>?_,λau _ _=>ok l.prog w _ mg au fa fd A Fn⟩;obtain⟨oc,od,kV,doc,pm,an,aE,ct,eG,rfl,lk,dY⟩:=Fn.ex;exact .of_eq (hb kV doc pm an aE ct u)) (λ_ _ a ns hl _ hS=>⟨a,ns,Z,hS,hl,λ_=>rfl⟩) λ_ _ _ _ _ z=>z
end _L
namespace _L
open PySem PySem.Spec PyProof.Rows
section
variable {P:af}{w:World}{K:aa}{mg:bc}{au:Heap}{k:Nat}{sp:Sp}{C:Addr}{x m:Str}{f:Addr}{fd:FuncData}{ps:List Str}
end
section
variable {K:aa} {H:Hp}
end
end _L
namespace _t
open _l
end _t
namespace _L
open PySem PySem.Spec PyProof.Rows
section
variable {X:Cx}{es:List Expr}{te:TE}{t:TA}
end
theorem Xw(l:Addr)(items:Array Value)(n:Nat)(dd:Option Addr)(sl:Array (Option Value))(u:Tok): Meets (Builtin.«tuple.__mul__» ⟨[.ref l,.int 1 u],[]⟩) (λ_ R s=>s.heap.get? l=some {cls:=.type "tuple",dict:=dd,data:=.seq items n,slots:=sl}/\R (.ok (.ret (Value.ref l))) s):=.of_wp λprog w A R s h=>by
 obtain⟨hp,g,d,tk,os⟩:=s;obtain⟨hl,h⟩:=h;have f1:=AutoSeq1.idx_int;have f2:=AutoSeq1.sub_tuple_tuple
 wp_walk using wX hl;exact⟨_,Z,h⟩
inductive a74(K:aa)(x:V)(y:V)(H:Hp)(Q:VK):Prop |mk (l:_)(k:_)(xs:_)(h0:x= .ref l)(h1:y= .int k)(h2:aQ K H l xs)(h3:xs≠[])(h4:1<=k)(h5:k<=1000)(h6:xs.length<=1000)(h7:∀p H',aA H H'->aQ K H' p (List.replicate k.toNat xs).flatten->Q (.ref p) H')
def TR(K:aa):R2:=λx y H Q=>a74 K x y H Q
theorem Le{X:Cx}(K:aa)(hK:X.K=K):cn X (binaryOp .Mult) (TR K):=by
 intro ak s O H x y v u Q I rx ry h;obtain⟨l,k,xs,rfl,rfl,hx,dA,h1,h2,hz,q⟩:=h;by_cases hk:k=1
 ·subst hk hK
  cases rx;obtain⟨t,rfl⟩:=ry;obtain⟨its,r,⟨⟨cls,dd,data,sl⟩,ho,hc,n,hd⟩,_⟩:=I.tuple hx;simp only at hc hd;subst hc hd;refine Pe (T:="tuple") (U:="int") az ⟨_,ho,Z⟩ (λs'=>uf s' 1 t) Lz F.fills_int_mul xD Kt F.slot_int_index.lookup (lG xD (uf s 1 t) F.entry_int_rmul (F.args_int_rmul_2 _ _) (Ko 1 t l its.toArray n dd sl) ⟨ho,Z,⟨_,ho,Z⟩,lG He ⟨_,ho,Z⟩ F.entry_tuple_mul (F.args_tuple_mul_2 _ _) (Xw l its.toArray n dd sl t) ⟨ho,?_⟩⟩);exact⟨.ref l,H,I,Z,q l H (aA.refl _) (by show aQ _ _ _ (List.replicate 1 xs).flatten;simpa using hx)⟩
 ·exact UU K hK ak s O H _ _ v u Q I rx ry ⟨l,k,xs,Z,Z,hx,dA,bK,h2,hz,λp H' nw=>q p H' nw.same (aQ.of nw.at')⟩
def A7(A:ai)(h:Heap):Prop:=∃ex o fs,A.handled=some (.ref ex)/\h.get? ex=some o/\o.data= .fields fs/\fs[2]? =some .none
theorem a3M:entryFor table "proto.unchain"=some Builtin.«proto.unchain»:=entryFor_of_tree (by kernel_rfl)
section
variable {prog:af}{w:World}{A:ai}{E:Value->ae->Prop}{s:ae}
theorem TJ{α:Type}{e:Addr}{oe:Obj}{fe:Array Value}{Q:α->ae->Prop}(hh:A7 A s.heap)(dA:∀ex,A.handled=some (.ref ex)->ex≠e)(m8:s.heap.get? e=some oe)(MP:oe.data= .fields fe)(hz:2<fe.size) (h:∀g,Heap.SameBut e s.heap g->(∃o,g.get? e=some o/\o.cls=oe.cls)->E (.ref e) {s with heap:=g}):wpAny (model prog w) A (raiseNew (.ref e):Sem α) Q E s:=by
 obtain⟨ex,o,fs,h1,h2,h3,h4⟩:=hh;have ne:=dA ex h1;unfold raiseNew;refine aB (wpAny_handled ?_);rw[h1];have hb:(Value.ref ex !=Value.ref e)=true:=by rw[bne_iff_ne];intro z;injection z with z;exact ne z
 dsimp only;rw[bo hb];refine aB (gJ (wpAny_runValue (codeAny_builtin a3M ?_)));show wpAny _ _ (field (.ref ex) 2>>=_) _ _ s;refine aB (fT h2 h3 (x:=.none) h4 ?_);show wpAny _ _ (if(Value.none==Value.none)=true then _ else _) _ _ s;rw[bo (show(Value.none==Value.none)=true from Z)];refine bB ?_;show wpAny _ _ (setField (.ref e) 2 (.ref ex)>>=_) _ _ s;refine aB (wV m8 MP hz (wpAny_throw (h _ (Q0 ..) ⟨_,xB _ m8 (GN (xf MP _)),Obj.cls_mapFields ..⟩)))
end
def P5(ex:Addr)(H:Hp):Prop:=∃cls dx,H ex=some (.ext (jW ex cls dx))
theorem Inv.hdS{X:Cx}{ak:List (Addr×Obj)}{O:St}{H:Hp}{s:ae}{ex:Addr}(I:Inv X ak O H s)(hx:X.A.handled=some (.ref ex))(h:P5 ex H):A7 X.A s.heap:=by obtain⟨cls,dx,e⟩:=h;obtain⟨⟨o,o1,o2,o3,fs,o4,o5⟩,_,_⟩:=(show eQ X.prog X.w H s.heap ex (.ext (jW ex cls dx))from I.aV ex _ e);exact⟨ex,o,fs,hx,o1,o4,o5⟩
structure OO(ex:Addr)(P:af)(w:World)(K:aa)(tg:Expr)(J:It)(fp:List Addr)(it:Addr)(tn:Nat->Heap->Prop):Prop where
 mem:it∈fp
 obj:∀i h,tn i h->∀b∈fp,∃o,h.get? b=some o/\∀v,o.data≠ .cell v
 keep:∀i h h',tn i h->(∀b∈fp,∀o,h.get? b=some o->h'.get? b=some o)->tn i h'
 item:∀(X:Cx),X.prog=P->X.w=w->X.K=K->X.A.handled=some (.ref ex)->∀(i:Nat)(ak:List (Addr×Obj))(s:ae)(O:St)(H:Hp)(E:Value->ae->Prop),Inv X ak O H s->(∀b∈fp,gH X ak H b)->tn i s.heap->J.go i H->wpAny (model P w) X.A (pyNext (.ref it)) (λr s1=>∃u,r=some u/\wpAny (model P w) X.A (letOwnedTupleGo tg (.ref it) u) (λ_ s2=>∃x H',Inv X ak O H' s2/\RelV x u/\J.gw i H x H'/\tn (i+1) s2.heap/\∀b∈fp,H' b=none) E s1) E s
 done:∀(X:Cx),X.prog=P->X.w=w->X.K=K->X.A.handled=some (.ref ex)->∀(i:Nat)(ak:List (Addr×Obj))(s:ae)(O:St)(H:Hp)(E:Value->ae->Prop),Inv X ak O H s->(∀b∈fp,gH X ak H b)->tn i s.heap->J.stop i H->wpAny (model P w) X.A (pyNext (.ref it)) (λr s1=>r=none/\Inv X ak O H s1) E s
 self:∀(A:ai)(i:Nat)(s:ae)(Q:Value->ae->Prop)(E:Value->ae->Prop),tn i s.heap->Q (.ref it) s->wpAny (model P w) A (pyIter (.ref it)) Q E s
def OW(ex:Addr)(X:Cx)(ak:List (Addr×Obj))(O:St)(tg:Expr)(R:It->Hp->Prop)(qH:Value)(s2:ae):Prop:=∃(it:Addr)(fp:List Addr)(tn:Nat->Heap->Prop)(J:It)(H':Hp),qH= .ref it/\Inv X ak O H' s2/\OO ex X.prog X.w X.K tg J fp it tn/\tn 0 s2.heap/\(∀b∈fp,gH X ak H' b)/\R J H'
def OV(ex:Addr)(X:Cx)(tg iter:Expr)(wi:TI):Prop:=∀(ak:List (Addr×Obj))(s:ae)(O:St)(H:Hp)(R:It->Hp->Prop),Inv X ak O H s->wi O H R->wpAny (model X.prog X.w) X.A (eval iter X.env) (λv s1=>wpAny (model X.prog X.w) X.A (pyIter v) (OW ex X ak O tg R) X.xe s1) X.xe s
section
variable {X:Cx} {tg:Expr} {ex:Addr}
end
section
variable {X:Cx} {ex:Addr} {pos:Pos}
theorem UE{N:List Str}{js:List (Option Nat)}{elt tg iter:Expr}{ifs:List Expr}{scope:Scope}{pos:Pos}{wi:TI}{g:TG}{tt:TT}{te:TE}(hc:X.A.handled=some (.ref ex))(hN:wA X N js scope=true)(hS:pE X scope=true) (hi:OV ex X tg iter wi)(hg:∀cl s H fp ak,PG (cU X N scope cl s H fp ak) tg g)(ht:∀cl s H fp ak,wI (cU X N scope cl s H fp ak) ifs tt)(he:∀cl s H fp ak,PE (cU X N scope cl s H fp ak) elt te) (hs:autoParam (∀x,foldedSetIterable iter X.env x=pure x) f8_._auto_1):PE X (.ListComp elt [⟨tg,iter,ifs,0⟩] scope pos) (AH js wi g tt te):=by
 intro ak s O H Q I h;have kT:=hS;unfold pE at kT;rw[d6,d6]at kT;obtain⟨⟨k1,k2⟩,k3⟩:=kT;have je:scope.kind= .function:=cP.mp k1;have oZ:∀x∈scope.names,x.2= .free->∃c,X.env.cells.lookup x.1=some c:=λx hx e=>by have:=fG.mp k3 x hx;rw[e]at this;exact I.ok.has x.1 (.inl (cP.mp this))
 have ml:∀x∈scope.names,x.2≠ .cell:=λx hx e=>by have:=fG.mp k3 x hx;rw[e]at this;exact cI this
 have vG:∀x∈scope.names,x.2= .local->scope.names.lookup x.1=some .local:=λx hx e=>by have:=fG.mp k3 x hx;rw[e]at this;exact cP.mp this
 obtain⟨cl,vQ,c1,c2⟩:=FX oZ;rw[eval_ListComp];refine Pc (use:=none) Z hs vQ je vG (aR (hi ak s O H _ I h) λv s1 h1=>aR h1 λqH s2 h2=>?_);obtain⟨it,fp,tn,J,H2,e,I2,T,lO,f2,h2⟩:=h2;subst e;have hD:H2 s2.heap.objs.size=none:=I2.aV.fresh (bA _);obtain⟨W,⟨m0,w0⟩,turn⟩:=h2 _ _ (Nw.of hD);refine jX (Pb ml (by intro y hy;simp at hy) (λh₁ oW oS=>?_) je);have la:∀b∈fp,b<s2.heap.objs.size:=λb hb=>by obtain⟨o,e,_⟩:=T.obj _ _ lO b hb;exact bP e
 have I3:Inv X ak O (upd H2 s2.heap.objs.size (.lst [])) {s2 with heap:=s2.heap.push {cls:=.type "list",dict:=none,data:=.seq ([]:List Value).toArray}}:=I2.yX (its:=[]) (t':=s2.toks) .nil (fh _);generalize p5:s2.heap.push {cls:=.type "list",dict:=none,data:=.seq ([]:List Value).toArray}=h3 at I3 oW oS;have om:h3.objs.size=s2.heap.objs.size+1:=by rw[<-p5,mR]
 have vA:∀b o,s2.heap.get? b=some o->h3.get? b=some o:=λb o e=>by rw[<-p5];exact bL _ e
 have f3:∀b∈fp,gH X ak (upd H2 s2.heap.objs.size (.lst [])) b:=λb hb=>⟨by rw[aL (dh (la b hb))];exact(f2 b hb).1,(f2 b hb).2⟩;have oO:∀b o,h3.get? b=some o->h₁.get? b=some o:=λb o e=>(oS.2 b (dh (bP e))).trans (bL _ e);have I4:Inv (cU X N scope cl {s2 with heap:=h3} (upd H2 s2.heap.objs.size (.lst [])) fp ak) [] (stC js O) (upd H2 s2.heap.objs.size (.lst [])) {s2 with heap:=h₁,toks:=s2.toks+([]:List (Str×Value)).length}:=I3.comp (s:={s2 with heap:=h3}) hN hS c1 c2 f3 (λb hb=>by show b<h3.objs.size;rw[om];exact xh (la b hb)) (by simpa using oW) oO;have oo:tn 0 h₁:=T.keep _ _ _ lO λb _ o e=>oO b o (vA b o e);have loop:codeAny (model X.prog X.w) X.A (.compLoop (.ListComp elt [⟨tg,iter,ifs,0⟩] scope pos) 0 (.ref it) (.ref s2.heap.objs.size) (compEnvC scope cl h3.objs.size X.env)) (compPost (model X.prog X.w) X.A X.xe none (EP X ak O Q) (.ref s2.heap.objs.size) h3.objs.size) {s2 with heap:=h₁,toks:=s2.toks+([]:List (Str×Value)).length}:=by
  refine FT (λn s'=>∃i σ' H',Inv (cU X N scope cl {s2 with heap:=h3} (upd H2 s2.heap.objs.size (.lst [])) fp ak) [] σ' H' s'/\tn i s'.heap/\(∀b∈fp,H' b=none)/\W i n σ' H') ?_ m0 ⟨0,_,_,I4,oo,λb hb=>(f3 b hb).1,w0⟩;rintro n s5 ⟨i,σ5,H5,I5,jF,mr,w5⟩;have iI:∀{H':Hp},(∀b∈fp,H' b=none)->∀b∈fp,gH (cU X N scope cl {s2 with heap:=h3} (upd H2 s2.heap.objs.size (.lst [])) fp ak) [] H' b:=λ{H'} hn b hb=>by
   obtain⟨_,q1,q2,q3,q4,q5⟩:=f3 b hb;refine⟨hn b hb,λz=>?_,I4.ok.mx b hb,.inl hb,λx c e=>q4 x c (c1 x c e),λp hp=>q5 p (by simpa[cU]using hp)⟩;have cm:b<h3.objs.size:=by rw[om];exact xh (la b hb)
   exact dh cm z
  rcases turn i n σ5 H5 w5 with⟨stop,qn⟩|⟨go,step⟩
  ·refine aR (T.done (cU X N scope cl {s2 with heap:=h3} (upd H2 s2.heap.objs.size (.lst [])) fp ak) rfl rfl rfl hc i [] s5 σ5 H5 _ I5 (iI mr) jF stop) λr s6 ⟨hr,I6⟩=>?_
   subst hr;obtain⟨m,hm,_⟩:=I6.loc;refine⟨m,hm,λh7 nJ=>?_⟩;have u0:Un (cS X.stack) fp (upd H2 s2.heap.objs.size (.lst [])) H5 h3 s6.heap:=I6.au;have ne:∀b o,h3.get? b=some o->b≠h3.objs.size:=λb o e=>dh (bP e);have u:Un (cS X.stack) fp (upd H2 s2.heap.objs.size (.lst [])) H5 h3 h7:=⟨λb o e n hb hx=>(nJ.2 b (ne b o e)).trans (u0.keep b o e n hb hx),λb o e n hb hx=>let⟨sl,q⟩:=u0.slot b o e n hb hx;⟨sl,(nJ.2 b (ne b o e)).trans q⟩,u0.free,λb o e hx=>let⟨o',q⟩:=u0.there b o e hx;⟨o',(nJ.2 b (ne b o e)).trans q⟩,u0.hU,u0.gY,u0.hW⟩;have I7:Inv X ak O H5 {s6 with heap:=h7}:=I3.wB (s':={s6 with heap:=h7}) (ch:=fp) I6.os u (I6.aV.but I6.free nJ) I6.bare λb hb=>⟨(f3 b hb).2.2.2.1,(f3 b hb).2.1,(f3 b hb).2.2.2.2.1,(f3 b hb).2.2.2.2.2⟩;exact⟨.ref s2.heap.objs.size,H5,I7,Z,qn⟩
  ·refine aR (T.item (cU X N scope cl {s2 with heap:=h3} (upd H2 s2.heap.objs.size (.lst [])) fp ak) rfl rfl rfl hc i [] s5 σ5 H5 _ I5 (iI mr) jF go) λr s6 ⟨u,hr,h6⟩=>?_
   subst hr;refine aR h6 λ_ s7 ⟨x,H7,I7,r7,y7,jm,vY⟩=>?_;have wN:=I7.pinned (iI vY) (T.obj _ _ jm);refine aR (hg _ _ _ _ _ _ s7 σ5 H7 x u _ wN r7 (step x H7 y7)) λ_ s8 ⟨σ8,H8,I8,q8⟩=>?_;refine aR (ht _ _ _ _ _ _ s8 σ8 H8 _ I8 q8) λok s9 ⟨H9,I9,q9⟩=>?_;have again:∀{s':ae}{σ7:St}{H7:Hp},Inv (cU X N scope cl {s2 with heap:=h3} (upd H2 s2.heap.objs.size (.lst [])) fp ak) ([]++qm fp s7.heap) σ7 H7 s'->(∃m',m'<n/\W (i+1) m' σ7 H7)->∃m,m<n/\∃i σ' H',Inv (cU X N scope cl {s2 with heap:=h3} (upd H2 s2.heap.objs.size (.lst [])) fp ak) [] σ' H' s'/\tn i s'.heap/\(∀b∈fp,H' b=none)/\W i m σ' H':=λ{s' σ7 H7} J7 n7=>by obtain⟨m',hm,w7⟩:=n7;refine⟨m',hm,i+1,σ7,H7,J7.rQ,T.keep _ _ _ jm λb hb o e=>(J7.pin (b,o) (gL _ (gL _ (oN hb e)))).1,λb hb=>?_,w7⟩;obtain⟨o,e,d⟩:=T.obj _ _ jm b hb;exact(J7.pin (b,o) (gL _ (gL _ (oN hb e)))).2.1
   cases ok with |false=>rw[bf cI]at q9⊢;exact again I9 q9 |true=>rw[bo rfl]at q9⊢;refine aR (he _ _ _ _ _ _ s9 σ8 H9 _ I9 q9) λyv iJ ⟨y,ji,pN,uX,ys,vB,hz,lJ⟩=>?_;refine aR (yQ _ iJ σ8 ji (.ref s2.heap.objs.size) [y] (.ref s2.heap.objs.size) [yv] (λ_ iE=>∃m',m'<n/\W (i+1) m' σ8 iE) pN Z (.cons uX .nil) ⟨_,ys,y,Z,Z,vB,hz,lJ⟩) λ_ yl ⟨v11,iE,wO,KN,uY⟩=>?_;exact again wO uY
 exact Ph loop (T.self _ 0 _ _ _ oo loop)
end
section
variable {K:aa} {H:Hp}
end
structure jU(ex:Addr)(k:Nat)(A:ai):Prop where
 n:pJ k A
 hd:A.handled=some (.ref ex)
theorem jU.mono{ex:Addr}{j k:Nat}{A:ai}(r:jU ex k A)(h:j<=k):jU ex j A:=⟨r.n.mono h,r.hd⟩
theorem jU.deeper{ex:Addr}{k:Nat}{A:ai}(r:jU ex (k+1) A)(env:Env):jU ex k (A.deeper env):=⟨r.n.deeper env,r.hd⟩
theorem bU.XW{k:Nat}{A:ai}(r:bU k A)(ex:Addr):jU ex k (A.mark (some (.ref ex))):=⟨r.mark _,Z⟩
def Gw(ex:Addr)(P:af)(w:World)(K:aa)(mg:bc)(au:Heap)(k:Nat)(f:Addr)(fd:FuncData)(ps:List Str)(sp:Sp):Prop:=(∀vs H Q E,sp vs H Q E->vs.length=ps.length)/\∀(A:ai)(outer:List Env)(s:ae)(H:Hp)(args:Args)(us:List Value)(vs:List V)(Q:VK),jU ex k A->o9 P w K mg au A outer s H->BindsTo s fd args (ps.zip us)->Vals vs us->sp vs H Q (λ_ _ _=>False)->codeAny (model P w) A (.call (.ref f) args) (λr s'=>match r with| .ok (.ret u)=>CE outer P w H s Q u s'|_=>False) s
theorem a2r{ex:Addr}{P:af}{w:World}{K:aa}{mg:bc}{au:Heap}{k:Nat}{f:Addr}{name qual:Str}{params:Arguments}{body:List Stmt}{scope:Scope}{dV kV doc pm aE ct oc:Value}{an od:Option Addr} {eG:Array (Option Value)}{N ps:List Str}{sp:Sp}(lk:K.lookup f=some ⟨oc,od,.func (PySem.W.fnOf name qual params body scope dV kV doc pm an aE ct),eG⟩)(dY:PySem.W.codeIn K aE qual=true)(S:bj N ps scope)(len:∀vs H Q E,sp vs H Q E->vs.length=ps.length) (fb:∀(A:ai)(outer:List Env)(s:ae)(H:Hp)(vs:List V)(Q:VK),jU ex k (A.deeper (envOfC qual scope s.heap.objs.size f aE))->sp vs H Q (λ_ _ _=>False)->∃t,eP (FO P w K mg au N qual scope f aE A outer s H) body t/\t {nx:=λ_ H'=>Q .aY H',rt:=Q} (start N vs) H): Gw ex P w K mg au (k+1) f (PySem.W.fnOf name qual params body scope dV kV doc pm an aE ct) ps sp:=by
 refine⟨len,λA outer s H args us vs Q hr e0 hb r ft=>?_⟩;have hl:=len _ _ _ _ ft;have KX:K.In s.heap:=e0.mod.jN.keeps λb o e=>(e0.bs b o e).1;have lim:s.heap.NoLimit:=e0.mod.nolimit.keeps λb o e=>(e0.bs b o e).1;have hk:∀y∈ps.zip us,scope.names.lookup y.1=some .local\/(scope.names.lookup y.1=some .cell/\((cellsFrom (s.heap.objs.size+1) scope.names []).lookup y.1).isSome=true):=λ⟨n,v⟩ hy=>by
  rcases S.par n (uu hy).1 with q|q
  ·exact .inl q
  ·exact .inr ⟨q,GI _ _ _ (.inl q)⟩
 refine Pj (by have:=hr.n.dp;omega) (KX _ _ lk) Z S.co S.gen Z (Pw KX dY) (hb _ _ _ _ ?_);refine Pa S.kind hk λenv he s1 x=>?_;subst he;refine⟨lim.keeps x.toInCall.keep,codeAny_func ?_⟩;obtain⟨t,ht,hq⟩:=fb A outer s H vs Q (hr.deeper _) ft;have e1:o9 P w K mg au {A with handled:=none} outer s H:=⟨e0.frames,e0.mod,e0.bs,e0.jw,e0.iu,e0.kZ,e0.aV,e0.bare⟩;have I:=E8 (CX:=eM) (A:={A with handled:=none}) (E:=λ_ _ _=>False) S rfl e1 hl r x;have J:Inv (FO P w K mg au N qual scope f aE A outer s H) [] (start N vs) H s1:=⟨⟨I.ok.mod,I.ok.kind,I.ok.glob,I.ok.blt,I.ok.above,I.ok.inj,I.ok.has,I.ok.pG,λh=>(cI h).elim,Around.frames_deeper e0.frames,I.ok.pX,I.ok.wc,I.ok.bs,I.ok.jw,I.ok.oJ,I.ok.mx,I.ok.iu,I.ok.kZ⟩,I.os,I.bare,I.au,I.loc,I.cell,I.free,I.iQ,I.pin,I.aV,I.len⟩;refine gr (ht [] s1 (start N vs) H _ J hq) (λfl s' hs=>?_) λe s' hs=>hs.elim;cases fl with |ret u=>obtain⟨v,σ',H',J',rv,q⟩:=hs;exact⟨v,H',J'.os,J'.bare,J'.au,J'.aV,rv,q⟩ |next=>obtain⟨σ',H',J',q⟩:=hs;exact⟨V.aY,H',J'.os,J'.bare,J'.au,J'.aV,Z,q⟩ |brk=>obtain⟨_,_,_,q⟩:=hs;exact False.elim q |cont=>obtain⟨_,_,_,q⟩:=hs;exact False.elim q
def A9(P:af)(w:World)(K:aa)(mg:bc)(au:Heap)(x:Str)(k:Nat)(sp:Addr->Sp):Prop:=∃f fd ps,(∀ex,Gw ex P w K mg au k f fd ps (sp ex))/\mg x=some (.ref f)/\PySem.W.keepIn K (.ref f)=true/\Binds K fd ps []
theorem FA.a0L{P:af}{w:World}{K:aa}{mg:bc}{au:Heap}{x:Str}{st:Stmt}{N ps:List Str}{k:Nat}{sp:Addr->Sp}(F:FA K mg x st)(S:bj N ps (aP st))(len:∀ex vs H Q E,sp ex vs H Q E->vs.length=ps.length) (hb:∀(kV doc pm:Value)(an:Option Addr)(aE ct:Value)(us:List Value),us.length=ps.length->bindArgs (PySem.W.fnOf x x (iA st) (eB st) (aP st) .none kV doc pm an aE ct) ⟨us,[]⟩=pure (ps.zip us)) (fb:∀(ex f:Addr)(aE:Value)(A:ai)(outer:List Env)(s:ae)(H:Hp)(vs:List V)(Q:VK),jU ex k (A.deeper (envOfC x (aP st) s.heap.objs.size f aE))->sp ex vs H Q (λ_ _ _=>False)->∃t,eP (FO P w K mg au N x (aP st) f aE A outer s H) (eB st) t/\t {nx:=λ_ H'=>Q .aY H',rt:=Q} (start N vs) H):A9 P w K mg au x (k+1) sp:=by obtain⟨f,fd,hm,F⟩:=F.ex;have vS:=F.binds hb;have kp:=F.kp;obtain⟨oc,od,kV,doc,pm,an,aE,ct,eG,rfl,lk,dY⟩:=F.ex;exact⟨f,_,ps,λex=>a2r lk dY S (len ex) λA outer s H vs Q hr ft=>fb ex f aE A outer s H vs Q hr ft,hm,kp,vS⟩
section
variable {X:Cx}{ex:Addr}{k:Nat}{x m:Str}{C:Addr}{p pos apos:Pos}{o e:Expr}{es:List Expr}{t:TA}{ta:TE}{sp:Addr->Sp}
theorem SN{ak:List (Addr×Obj)}{O:St}{H:Hp}{s:ae}{Q:VK}{us:List Value}{vs:List V}{f:Addr}{fd:FuncData}{ps:List Str}{sp:Sp}(F:Gw ex X.prog X.w X.K X.mg X.au k f fd ps sp)(hr:jU ex k X.A)(hb:Binds X.K fd ps [])(I:Inv X ak O H s)(r:Vals vs us)(h:sp vs H Q (λ_ _ _=>False)): wpAny (model X.prog X.w) X.A (call (.ref f) us) (EP X ak O Q) X.xe s:=by
 have hl:(us++[]).length=ps.length:=by rw[jk,<-r.length];exact F.1 _ _ _ _ h
 have bt:=hb s us I.dH hl;rw[jk]at bt;refine pO (rF (F.2 X.A X.stack s H ⟨us,[]⟩ us vs Q hr I.tR bt r h) λr s' hq=>?_);cases r with |error e=>exact hq.elim |ok fl=>cases fl with |ret u=>exact I.after hq |next=>exact hq.elim |brk=>exact hq.elim |cont=>exact hq.elim
def RG(sp:Sp)(t:TA):TE:=λO H Q=>t O H λvs H1=>sp vs H1 Q (λ_ _ _=>False)
theorem UC(F:A9 X.prog X.w X.K X.mg X.au x k sp)(hr:jU ex k X.A)(hg:Gl X x)(ha:PA X (e::es) t)(eZ:autoParam ((x==("__debug__":Str))=false) q8_._auto_1) (he:autoParam (starEach (e::es) X.env=(false,eval e X.env)::starEach es X.env) r8_._auto_1)(dI:autoParam ((backTo pos (starEach es X.env)).any (·.1)=false) r8_._auto_1):PE X (.Call (.Name x p) (e::es) [] pos) (RG (sp ex) t):=by obtain⟨f,fd,ps,F,hm,hk,hb⟩:=F;intro ak s O H Q I h;refine wY (m5 I hg hm ?_ eZ);exact Aj (h₀:=X.au) I.ok.mod.jN hk (aR (ha pos ak s O H _ I h) λus s1 ⟨vs,H1,I1,r,q⟩=>⟨I1.dH,SN (F ex) hr hb I1 r q⟩) he dI
end
section
variable {prog:af}{w:World}{A:ai}{E:Value->ae->Prop}{s:ae}
theorem RX{α:Type}{it:Addr}{Q:α->ae->Prop}(hh:A7 A s.heap) (h:∀g e,Heap.ExtBut it s.heap g->(∃o,g.get? e=some o/\o.cls= .type "StopIteration")->E (.ref e) {s with heap:=g}):wpAny (model prog w) A (newExc (.type "StopIteration") []>>=λe=>(raiseNew e:Sem α)) Q E s:=by
 obtain⟨ex,o,fs,h1,e2,h3,h4⟩:=id hh;refine aB ?_;simp only[newExc,newTuple];refine aB (jX ?_ (by size_fits));refine aB (m:=firstArgMember _ _) (ub (a:=Value.none) (by first|rfl|(simp only[firstArgMember];rfl)) ?_);refine jX ?_ (by size_fits);refine TJ (hh:=⟨ex,o,fs,h1,bL _ (bL _ e2),h3,h4⟩) (λiz z=>?_) (dw _ Z) Z (GQ Z) λg sb ⟨o',e',c'⟩=>h g _ ?_ ⟨o',e',c'⟩
 ·rw[h1]at z
  cases z;exact dh (bP (bL _ e2))
 ·intro b ob hb eb
  have e4:=bL {cls:=.type "tuple",data:=.seq #[]} eb;exact(sb.2 b (dh (bP e4))).trans (bL _ e4)
theorem TH{it:Addr}{x left step:Int}{Q:Option Value->ae->Prop}(hh:A7 A s.heap)(hit:IsRangeIter s.heap it x left step)(a03:left<=0) (hQ:∀h',Heap.ExtBut it s.heap h'->Q none {s with heap:=h'}):wpAny (model prog w) A (pyNext (.ref it)) Q E s:=by have hT:s.TypeIs (.ref it) "range_iterator":=⟨_,hit,Z⟩;unfold pyNext;refine aB (Ad (ud (name:=Str.ofString "__next__") hT a7L (uc a7L hT PySem.F.entry_range_iterator_next ?_ (PySem.F.args_range_iterator_next_1 _))));show wpAny _ _ (field (.ref it) 0>>=_) _ _ s;refine aB (fT hit Z (x:=rawInt x) Z ?_);show wpAny _ _ (field (.ref it) 1>>=_) _ _ s;refine aB (fT hit Z (x:=rawInt left) Z ?_);show wpAny _ _ (field (.ref it) 2>>=_) _ _ s;refine aB (fT hit Z (x:=rawInt step) Z ?_);show wpAny _ _ (if left<=0 then _ else _) _ _ s;rw[bo a03];refine aB (wW ?_);refine aB ?_;refine RX (A:=A.in1) (it:=it) hh λg e xb ex=>?_;refine aB (wpAny_isInstance (T:="StopIteration") (b:=true) ex isSubtype_stop ?_);exact bB (hQ _ xb)
end
def Gv(ex:Addr)(lo:Int)(n:Nat):It:=⟨(nZ lo n).go,(nZ lo n).gw,λi H=>n<=i/\P5 ex H⟩
theorem QK{P:af}{w:World}{K:aa}{tg:Expr}(ex it:Addr)(lo:Int)(n:Nat):OO ex P w K tg (Gv ex lo n) [it] it (λi h=>IsRangeIter h it (lo+(i:Nat)*1) ((n:Int)-(i:Nat)) 1) where
 mem:=by simp
 obj:=λi h st b hb=>by
  have e:b=it:=by simpa using hb
  subst e;exact⟨_,st,λv z=>by have z':Data.fields _=Data.cell v:=z;cases z'⟩
 keep:=λi h h' st k=>k it (by simp) _ st
 item:=by
  intro X hP hw hK hc i ak s O H E I hf st hg;subst hP hw hK;obtain⟨f0,f1,f2,f3,f4,f5⟩:=hf it (by simp);have hi:i<n:=hg;refine wpAny_pyNext_range_item st bK λh' ML kJ=>?_;have I1:=λ(tk:Nat)=>show Inv X ak O H {s with heap:=h',toks:=tk}from I.turned (λb o hb e=>kJ.extBut b o (by simpa using hb) e) f0 f1 f3 f4 f5;have e1:lo+((i+1:Nat):Int)*1=lo+(i:Int)*1+1:=by push_cast;omega
  have e2:(n:Int)-((i+1:Nat):Int)=(n:Int)-(i:Int)-1:=by push_cast;omega
  refine⟨_,Z,tL (s:={s with heap:=h',toks:=s.toks+1}) (n:="range_iterator") ML rfl rfl az ⟨.int (lo+i),H,I1 _,⟨s.toks,?_⟩,⟨Z,Z⟩,?_,λb hb=>(hf b hb).1⟩⟩
  ·rw[xy]
  ·rw[e1,e2];exact ML
 done:=by intro X hP hw hK hc i ak s O H E I hf st hg;subst hP hw hK;obtain⟨hg,hd⟩:=hg;obtain⟨f0,f1,f2,f3,f4,f5⟩:=hf it (by simp);exact TH (I.hdS hc hd) st bK λh' eb=>⟨Z,I.turned (t':=s.toks) (λb o hb e=>eb b o hb e) f0 f1 f3 f4 f5⟩
 self:=λ_ _ _ _ _ st h=>Gz st h
section
variable {X:Cx} {tg:Expr} {ex:Addr}
theorem TF{ak:List (Addr×Obj)}{O:St}{H:Hp}{s:ae}{R:It->Hp->Prop}{E:Value->ae->Prop}{lo hi:Int}{t u v:Tok}{tk:Nat}(I:Inv X ak O H s)(h1:-(2^62)<=lo)(h2:lo<2^62)(h3:-(2^62)<=hi)(h4:hi<2^62) (q:R (Gv ex lo (hi-lo).toNat) H):wpAny (model X.prog X.w) X.A (pyIter (.ref s.heap.objs.size)) (OW ex X ak O tg R) E {s with heap:=s.heap.push {cls:=.type "range",data:=.fields #[.int lo t,.int hi u,.int 1 v]},toks:=tk}:=by
 refine wpAny_pyIter_range (IsRange.new ..) (small_one h1 h2 h3 h4) ?_;have I1:Inv X ak O H {s with heap:=s.heap.push {cls:=.type "range",data:=.fields #[.int lo t,.int hi u,.int 1 v]},toks:=tk}:=I.kept λb o e=>bL _ e;refine⟨(s.heap.push {cls:=.type "range",data:=.fields #[.int lo t,.int hi u,.int 1 v]}).objs.size,[(s.heap.push {cls:=.type "range",data:=.fields #[.int lo t,.int hi u,.int 1 v]}).objs.size],_,_,H,Z,I1.kept (t':=tk) λb o e=>bL _ e,QK ex _ lo (hi-lo).toNat,?_,λb hb=>?_,q⟩
 ·have e1:lo+((0:Nat):Int)*1=lo:=by simp
  have e2:(((hi-lo).toNat:Nat):Int)-((0:Nat):Int)=Builtin.Range.rangeSize lo hi 1:=by rw[rangeSize_one];split<;>omega
  show IsRangeIter _ _ (lo+((0:Nat):Int)*1) ((((hi-lo).toNat:Nat):Int)-((0:Nat):Int)) 1;rw[e1,e2];exact dw _ rfl
 ·have e:b=(s.heap.push {cls:=.type "range",data:=.fields #[.int lo t,.int hi u,.int 1 v]}).objs.size:=by simpa using hb
  subst e;exact I1.nQ (bA _) (I1.aV.fresh (bA _))
inductive a7w(ex:Addr)(R:It->Hp->Prop)(vs:List V)(H1:Hp):Prop |mk (j:Int)(h0:vs=[.int j])(h1:-(2^62)<=j)(h2:j<2^62)(h3:R (Gv ex 0 j.toNat) H1)
def Zi(ex:Addr)(ta:TA):TI:=λO H R=>ta O H λvs H1=>a7w ex R vs H1
theorem Ut(ex:Addr){a:Expr}{ta:TA}{p pos:Pos}(hg:Gl X "range")(hm:X.mg "range"=none)(ha:PA X [a] ta)(hs:autoParam (starEach [a] X.env=[(false,eval a X.env)]) r8_._auto_1):OV ex X tg (.Call (.Name "range" p) [a] [] pos) (Zi ex ta):=by intro ak s O H R I h;refine Call_ (nC I hg hm boot_range (uk (aR (ha pos ak s O H _ I h) λus s1 ⟨vs,H1,I1,r1,q1⟩=>?_) hs Z));obtain⟨j,e,q1,q2,q⟩:=q1;subst e;cases r1 with |cons r rr=>cases rr;obtain⟨t,rfl⟩:=r;exact call_range_1 (TF I1 bK bK q1 q2 (by simpa using q))
end
def A1(CX:iT)(X:Cx)(E:St->XK):Prop:=∀(ak:List (Addr×Obj))(O:St)(H:Hp)(s:ae)(e:Value)(s':ae),Inv X ak O H s->CX X.stack H s (E O) e s'->X.xe e s'
section
variable {X:Cx}{CX:iT}{k:Nat}{f:Addr}{fd:FuncData}{ps:List Str}{sp:Sp}{dvs:List V}{ds:List Value}{E:St->XK}{x:Str}{p pos:Pos}{e:Expr}{es:List Expr}{t:TA}
theorem SM{ak:List (Addr×Obj)}{O:St}{H:Hp}{s:ae}{Q:VK}{us:List Value}{vs:List V}(F:dS X.prog X.w X.K X.mg X.au CX k f fd ps sp)(hr:bU k X.A)(hb:Binds X.K fd ps ds)(hd:Vals dvs ds)(hx:A1 CX X E)(I:Inv X ak O H s)(r:Vals vs us)(h:sp (vs++dvs) H Q (E O)):wpAny (model X.prog X.w) X.A (call (.ref f) us) (EP X ak O Q) X.xe s:=by
 have r2:Vals (vs++dvs) (us++ds):=r.append hd;have hl:(us++ds).length=ps.length:=by rw[<-r2.length];exact F.len _ _ _ _ h
 refine pO (rF (F.run X.A X.stack s H ⟨us,[]⟩ (us++ds) (vs++dvs) Q (E O) hr I.tR (hb s us I.dH hl) r2 h) λr s' hq=>?_);cases r with |error e=>exact hx ak O H s e s' I hq |ok fl=>cases fl with |ret u=>exact I.after hq |next=>exact False.elim hq |brk=>exact False.elim hq |cont=>exact False.elim hq
def RE(sp:Sp)(E:St->XK)(t:TA):TE:=λO H Q=>t O H λvs H1=>sp vs H1 Q (E O)
theorem L5(F:fR X.prog X.w X.K X.mg X.au x k sp)(hp:A1 (fS X.prog X.w) X E)(hr:bU k X.A)(hg:Gl X x)(ha:PA X (e::es) t)(eZ:autoParam ((x==("__debug__":Str))=false) q8_._auto_1) (he:autoParam (starEach (e::es) X.env=(false,eval e X.env)::starEach es X.env) r8_._auto_1)(dI:autoParam ((backTo pos (starEach es X.env)).any (·.1)=false) r8_._auto_1): PE X (.Call (.Name x p) (e::es) [] pos) (RE sp E t):=by obtain⟨f,fd,ps,F,hm,hk,hb⟩:=F;intro ak s O H Q I h;refine wY (m5 I hg hm ?_ eZ);refine Aj (h₀:=X.au) I.ok.mod.jN hk (aR (ha pos ak s O H _ I h) λus s1 ⟨vs,H1,I1,r,q⟩=>⟨I1.dH,?_⟩) he dI;exact SM (dvs:=[]) (ds:=[]) F hr hb .nil hp I1 r (by rw[jk];exact q)
end
section
variable {X:Cx}{i:Nat}{n y:Str}{Dc:Addr}{wC:List Value}{newD:String}{body rW:List Stmt}{b0:Stmt}{np oT pos:Pos}{tb:(St->XK)->TS}{th:TS}{Cs:Addr->Prop}
end
inductive a5y(i:Nat)(Cs:Addr->Prop)(tb:(St->XK)->TS)(th:Addr->TS)(D:Ends)(O:St)(H:Hp):Prop |mk (E:St->XK)(h0:tb E D O H)(h1:(∀σ' cls dx H',E σ' cls dx H'->∃C,cls= .ref C/\Cs C))(h2:∀(C ex:Addr)(dx:Option Addr)(σ':St)(H':Hp),σ'.length=O.length->E σ' (.ref C) dx H'->H' ex=none->th ex {nx:=λσ2 H2=>D.nx (σ2.set i none) H2,rt:=D.rt,bk:=λσ2 H2=>D.bk (σ2.set i none) H2,ct:=λσ2 H2=>D.ct (σ2.set i none) H2} (σ'.set i (some (.ref ex))) (upd H' ex (.ext (jW ex (.ref C) dx))))
def R5(i:Nat)(Cs:Addr->Prop)(tb:(St->XK)->TS)(th:Addr->TS):TS:=λD O H=>a5y i Cs tb th D O H
section
variable {X:Cx}{i:Nat}{n y:Str}{Dc:Addr}{wC:List Value}{newD:String}{body rW:List Stmt}{b0:Stmt}{np oT pos:Pos}{tb:(St->XK)->TS}{th:Addr->TS}{Cs:Addr->Prop}
theorem Uh(fq:X.stack=X.env::X.outer)(hfr:X.env.frame=some X.env.locals)(hN:X.N.Nodup)(hi:X.N[i]? =some n)(hk:X.env.kindOf n=some .local)(hs:X.env.scope.names.lookup n=some .local) (hb:∀(E:St->XK)(xe:Value->ae->Prop),A1 (fS X.prog X.w) (X.iY xe) E->eP (X.iY xe) body (tb E)) (hg:Gl X y)(hy:Exc X.K X.mg y Dc wC newD)(EF:wC.contains (.type "BaseException")=true)(EY:∀C,Cs C->ClsAt X.K C/\takes X.K C Dc) (hh:∀ex,eP (X.hand ex) (b0::rW) (th ex))(eZ:autoParam ((y==("__debug__":Str))=false) q8_._auto_1): OU X (.Try body [.ExceptHandler (some (.Name y np)) (some n) (b0::rW) oT] [] [] pos) (R5 i Cs tb th):=by
 intro s O H D I h;obtain⟨E,hq,tJ,Zw⟩:=h;refine wpAny_Try_except ?_;have ps:A1 (fS X.prog X.w) (X.iY λe s₁=>wpAny (model X.prog X.w) X.A (noteFrame e X.env) (λ_ s₂=>wpAny (model X.prog X.w) X.A (setFlight e none) (λ_ s₃=>wpAny (model X.prog X.w) X.A (handleBy e X.env [.ExceptHandler (some (.Name y np)) (some n) (b0::rW) oT]) (SP X [] D) X.xe s₃) X.xe s₂) X.xe s₁) E:=by
  intro Dg σ' H1 s1 ev s2 I1 hx;obtain⟨ex,cls,dx,H',B,rfl,ho,MM,nR,F,hE⟩:=hx;obtain⟨C,rfl,hC⟩:=tJ σ' cls dx H' hE;have I0:Inv X [] σ' H1 s1:=I1.lL.a4W;obtain⟨MD,g2,d2,t2,o2⟩:=s2;have a2t:jj B (X.env::X.outer) ex (.ref C) dx .none MD:=by rw[<-fq];exact nR
  have hA:X.A.frames=some (X.env::X.outer):=by rw[<-fq];exact I0.ok.frames
  refine Lv (s:=⟨MD,g2,d2,t2,o2⟩) hA hfr a2t λh4 zp Qz=>?_;refine zA zp λh5 w6 Qy=>?_;have F4:=F.step nR.1 zp.1 Qz nR.2.2.1;have ff4:h4.FunFrames B X.stack:=by rw[fq];exact zp.2.2.1
  have F5:=F4.step zp.1 w6.1 Qy ff4;have ff5:h5.FunFrames B X.stack:=by rw[fq];exact w6.2.2.1
  have I5:Inv X [] σ' H' ⟨h5,g2,d2,t2,o2⟩:=I0.wB (s':=⟨h5,g2,d2,t2,o2⟩) ho F5.un F5.aV MM (λb hb=>(dX hb).elim);refine wpAny_handleBy_cons (codeAny_handlers_test (m5 (X:=X.hand ex) (I5.hand ex) hg hy.at' ?_ eZ)) (by intro q;cases q);obtain⟨eC,tk⟩:=EY C hC;obtain⟨nm,q,Nn,bs,tl,hdct,sn,sub,ab,col,dd,k0,k1,k2,k3,k5,nw,oC⟩:=eC _ I5.dH;obtain⟨tl',Nn',LA,q',Ot,MQ,IV,HN,ON,Og,O8,j0,j1,j2,j3,j5,mN',oD,a8B,a8k,TL'⟩:=(hy.own I5.dH).obj;obtain⟨ob,ZQ,ZP,_⟩:=w6.there;have Ef:(Value.ref C::tl).contains (.ref Dc)=true:=by
   obtain⟨cd,ha,vT⟩:=PJ.mp tk;split at vT
   ·cases vT
   ·have hc:=dW vT
    unfold PySem.W.clsIn at ha;split at ha
    ·rename_i c1 c2 cd' c4 hl
     cases ha;have e1:=I5.dH _ _ hl;rw[show(Shared.heap ⟨h5,g2,d2,t2,o2⟩).get? C=some _ from oC]at e1;have e2:=dW e1;unfold excClassObj at e2;injection e2 with _ _ e3 _;injection e3 with e4;rw[<-e4]at hc;exact hc
    ·cases ha
  refine a3D oC oD ZQ ZP (TL'.hasType EF) Ef ?_;refine codeAny_handlers_suite_as ?_;refine zA (s:=⟨h5,g2,d2,t2,o2⟩) w6 λh6 Nm Qx=>?_;have F6:=F5.step w6.1 Nm.1 Qx ff5;have QC:Un (cS X.stack) [] H1 (upd H' ex (.ext (jW ex (.ref C) dx))) s1.heap h6:=by
   have nb:∀b u,H' b=some u->b≠ex:=λb u e z=>by rw[z,F6.ne]at e;cases e
   refine⟨F6.un.keep,F6.un.slot,λb o e n hx=>?_,F6.un.there,λb xs e=>?_,λb o u e=>?_,λb ps e=>?_⟩
   ·rw[aL (λz=>by rw[z,F6.nw]at e;cases e)];exact F6.un.free b o e n hx
   ·have:=F6.un.hU b xs e;rw[aL (nb b _ this)];exact this
   ·have:=F6.un.gY b o u e;rw[aL (nb b _ this)];exact this
   ·obtain⟨more,e1⟩:=F6.un.hW b ps e;exact⟨more,by rw[aL (nb b _ e1)];exact e1⟩
  have ZM:dv X.prog X.w (upd H' ex (.ext (jW ex (.ref C) dx))) h6:=λb u e=>by
   by_cases MS:b=ex
   ·subst MS
    rw[bp]at e;cases e;obtain⟨o6,e6,c6⟩:=Nm.there;exact⟨⟨o6,e6,c6⟩,⟨o6,e6⟩,λg1 g3 ⟨o7,e7,c7⟩ k=>⟨o7,k o7 e7,c7⟩⟩
   ·rw[aL MS]at e
    refine(F6.aV b u e).jE (λc v hc q=>q) (λc q=>?_) λc xs q=>?_
    ·rw[aL (λz=>by rw[z,F6.ne]at q;cases q)];exact q
    ·rw[aL (λz=>by rw[z,F6.ne]at q;cases q)];exact q
  have I6:Inv X [] σ' (upd H' ex (.ext (jW ex (.ref C) dx))) ⟨h6,g2,d2,t2,o2⟩:=I0.wB (s':=⟨h6,g2,d2,t2,o2⟩) ho QC ZM MM (λb hb=>(dX hb).elim);refine rX (X:=X.hand ex) (I6.hand ex) hN hi (.inl hs) (v:=.ref ex) Z (λs7 I7=>?_) (.inr hs);refine gr (hh ex [] s7 _ _ _ I7 (Zw C ex dx σ' H' (I0.len.trans I.len.symm) hE F.ne)) (λf s8 q=>?_) λe s8 q=>False.elim q;have un:∀(σ2:St)(H2:Hp)(Q:Unit->ae->Prop),Inv (X.hand ex) [] σ2 H2 s8->(∀s9,Inv X [] (σ2.set i none) H2 s9->Q () s9)->wpAny (model X.prog X.w) X.A (do bindName X.env n .none;unbindBehindTheSuite X.env n oT) Q X.xe s8:=λσ2 H2 Q I8 hq=>by
   have P4:=I8.back I0.ok;have cm:i<σ2.length:=by rw[P4.len];exact(eU.mp hi).1
   unfold bindName;refine aB (aB (gJ (wpAny_point (aB (rX P4 hN hi (.inl hs) (v:=.aY) Z (λs9 I9=>wpAny_point ?_) (.inr hs))))));refine QA I9 hN hi hk hs (v:=.aY) (GZ cm) λiJ pN=>hq iJ ?_;rw[List.set_set]at pN;exact pN
  cases f with |next=>obtain⟨σ2,H2,I8,dq⟩:=q;exact un σ2 H2 _ I8 λs9 I9=>⟨_,H2,I9,dq⟩ |brk=>obtain⟨σ2,H2,I8,dq⟩:=q;exact un σ2 H2 _ I8 λs9 I9=>⟨_,H2,I9,dq⟩ |cont=>obtain⟨σ2,H2,I8,dq⟩:=q;exact un σ2 H2 _ I8 λs9 I9=>⟨_,H2,I9,dq⟩ |ret u=>obtain⟨v,σ2,H2,I8,r8,dq⟩:=q;exact un σ2 H2 _ I8 λs9 I9=>⟨v,_,H2,I9,r8,dq⟩
 refine gr (hb E _ ps [] s O H D (I.iY _) hq) (λf s1 q=>?_) λe s1 q=>q;have q':=q.lL;cases f with |next=>exact Ac q' |brk=>exact q' |cont=>exact q' |ret u=>exact q'
end
end _L
namespace _a
open PySem PySem.Spec PyProof.Rows _L
def top(i:Nat):Stmt:=PySem.Challenge.pw_glidequeue_k10_refusals_of_one_class.main.body.getD i (.Pass ⟨0,0,0,0⟩)
section
variable {P:af}{w:World}{K:aa}{mg:bc}{au:Heap}
inductive a5R(vs:List V)(H:Hp)(Q:VK):Prop |mk (p:_)(many:_)(h0:vs=[.ref p,.int many])(h1:iD H p)(h2:1<=many)(h3:many<=10^40)(h4:∀d H',0<=d->d<many->cj p H H'->Q (.int d) H')
def sj:Sp:=λvs H Q _=>a5R vs H Q
abbrev Bi:Stmt:=top 126
theorem Jg:bj ["_law_bag_here","_law_many","_law_digit","_law_number","_law_room"] ["_law_bag_here","_law_many"] (aP Bi):=bw aM
theorem Vo(F:FA K mg "_law_take" Bi)(B:bE mg):aG P w K mg au "_law_take" 1 sj:=by
 refine F.has Jg (λvs H Q E h=>?_) (λ_ _ _ _ _ _=>cJ λ_ _=>rfl) (λf aE A outer s H vs Q E hr h=>?_)
 ·obtain⟨p,many,rfl,_⟩:=h
  rfl
 ·obtain⟨p,many,rfl,⟨c,m,hp,ok⟩,h1,h2,k⟩:=h
  obtain⟨c0,m0,m1⟩:=id ok;have nd:=Jg.nd;refine⟨_,(aD (bD (bT Dn (px K (pv 0) aF) aF (bM _)) (aD (pS 2 nd (aW qr (px K (pv 0) aF) (pv 1))) (aD (gc (aW vd (px K (pv 0) aF) (pv 1)) (Di (pv 0) aF set_list)) (aH (aZ (pv 2))))) bG) (aD (pS 3 nd aF) (aD (pS 4 nd aF) (aD (sL iG (bT ng (pv 4) (pv 1) (bM _)) (aD (gc (aW qr (aW vc (aW fJ (aW cw (px K (pv 0) aF) aF) aF) aF) aF) (Di (pv 0) aF set_list)) (aD (pS 3 nd (aW fJ (aW cw (pv 3) aF) (aW qr (aW cw (aW vd (px K (pv 0) aF) aF) aF) aF))) (aH (pS 4 nd (aW cw (pv 4) aF)))))) (aH (aZ (aW qr (pv 3) (pv 1)))))))),?_⟩;refine⟨_,Z,.inl ⟨p,_,0,.int c,Z,Z,aK.of hp,Z,_,_,Z,Z,_,Z,?_⟩⟩;refine fZ (λhc=>?_) (λ_=>?_)
  ·refine⟨_,Z,.inl ⟨p,_,0,.int c,Z,Z,aK.of hp,Z,_,Z,_,_,Z,Z,h1,?_⟩⟩
   refine⟨_,Z,.inl ⟨p,_,0,.int c,Z,Z,aK.of hp,Z,_,Z,_,_,Z,Z,⟨h1,Hk aw h2⟩,?_⟩⟩;refine⟨_,Z,p,_,0,0,Z,Z,hp,Z,?_⟩;refine⟨_,Z,?_⟩;exact k _ _ (uA _ aw) (xA _ aw) (cj.upd ⟨Int.ediv_nonneg c0 aw,m0,m1⟩)
  ·refine rP (λO H2=>∃(v:Option V)(n r:Int),O=[some (.ref p),some (.int many),v,some (.int n),some (.int r)]/\cj p H H2/\1<=r) (λO _=>match O with|[_,_,_,_,some (.int r)]=>(many-r).toNat|_=>0) ?_ ?_ ?_
   ·exact⟨none,0,1,Z,.refl ⟨c,m,hp,ok⟩,gO _⟩
   ·rintro O H2 ⟨v,n,r,rfl,bx,zd⟩
    obtain⟨c',m',zf,c0',m0',m1'⟩:=id bx.eJ;refine⟨_,Z,_,Z,_,_,Z,Z,_,Z,?_⟩;refine fZ (λhc=>?_) (λhc=>?_)
    ·have cm:r<many:=mK hc
     refine⟨_,Z,.inl ⟨p,_,1,.int m',Z,Z,aK.of zf,Z,_,_,Z,Z,.of_right (dU az az),_,_,Z,Z,_,_,Z,Z,⟨az,az,?_⟩,_,_,Z,Z,(by show(0:Int)<2147483629;decide),?_⟩⟩
     ·have nP:(2:Nat)^64=18446744073709551616:=by decide
      rw[nP];lia
     refine⟨_,Z,p,_,1,1,Z,Z,zf,Z,?_⟩;have g0:0<=((m'*48271+7919)^(3:Int).toNat)%2147483629:=uA _ az;have g1:((m'*48271+7919)^(3:Int).toNat)%2147483629<2147483629:=xA _ az;have bx2:cj p H (_L.upd H2 p (.lst [.int c',.int (((m'*48271+7919)^(3:Int).toNat)%2147483629)])):=bx.trans (.upd ⟨c0',g0,Int.lt_trans g1 az⟩);refine⟨_,Z,_,_,Z,Z,.of_right (dU az az),_,Z,.inl ⟨p,_,1,.int _,Z,Z,aK.of bp,Z,_,_,Z,Z,⟨az,Hk az az⟩,_,_,Z,Z,.of_right (dU az az),_,_,Z,Z,(by show(0:Int)<1073741789;decide),_,_,Z,Z,?_⟩⟩;refine⟨_,Z,_,_,Z,Z,.of_right (dU az az),?_⟩;refine⟨⟨v,_,_,Z,bx2,?_⟩,?_⟩
     ·lia
     ·show(many-r*1073741789).toNat<(many-r).toNat
      lia
    ·refine⟨_,Z,_,Z,_,_,Z,Z,h1,?_⟩
     exact k _ _ (uA _ aw) (xA _ aw) bx
   ·rintro O H2 Q1 Q2 hq ⟨v1,e1,v2,e2,i,j,e3,e4,kk,e5,q⟩
    exact⟨v1,e1,v2,e2,i,j,e3,e4,kk,e5,hq _ _ q⟩
inductive a6R(K:aa)(vs:List V)(H:Hp)(Q:VK):Prop |mk (a:Addr)(ns:List Int)(at':Int)(h0:vs=[.ref a,.int at'])(h1:aK K H a (ns.map V.int))(h2:ns.length<=63)(h3:0<=at')(h4:at'<=100)(h5:∀p H',H p=none->iD H' p->aA H H'->Q (.ref p) H')
def IS(K:aa):Sp:=λvs H Q _=>a6R K vs H Q
abbrev Cq:Stmt:=top 125
theorem Kd:bj ["_law_script","_law_at","_law_cell","_law_mix","_law_k"] ["_law_script","_law_at"] (aP Cq):=bw aM
theorem Mo{ns:List Int}{j:Nat}(h:j<ns.length):∃z,iB (ns.map V.int) (j:Int)=some (.int z):=⟨ns[j],a52 (by simp[h])⟩
theorem WB(F:FA K mg "_law_bag" Cq)(B:bE mg):aG P w K mg au "_law_bag" 1 (IS K):=by
 refine F.has Kd (λvs H Q E h=>?_) (λ_ _ _ _ _ _=>cJ λ_ _=>rfl) (λf aE A outer s H vs Q E hr h=>?_)
 ·obtain⟨a,ns,at',rfl,_⟩:=h
  rfl
 ·obtain⟨a,ns,at',rfl,hS,hlen,h0,h1,k⟩:=h
  obtain⟨j,rfl⟩:∃j:Nat,at'=(j:Int):=⟨at'.toNat,aw⟩;have nd:=Kd.nd;refine⟨_,(aD (pS 2 nd aF) (aD (jn (bD (bT ng (pv 1) (fo K B (ao (pv 0) ay)) (bM _)) (aH (pS 2 nd (dG (x:="abs") tW Z (B.at "abs") x9 (ao (px K (pv 0) (pv 1)) ay)))) bG)) (aD (pS 3 nd (aW fJ (aW fJ (aW cw (aW cw aF (pv 1)) (pv 1)) (aW cw aF (pv 1))) aF)) (aD (iK iG Z (sN Z (B.at "range") (ao (dG (x:="min") (Om rfl) rfl (B.at "min") PyProof.Rows.boot_min (ao (fo K B (ao (pv 0) ay)) (ao aF ay))) ay)) (bu 4 nd) (aH (pS 3 nd (aW qr (aW vc (aW fJ (aW fJ (aW cw (pv 3) aF) (aW qr (px K (pv 0) (pv 4)) aF)) (aW cw (pv 4) (pv 4))) aF) aF)))) (aD (jn (bD (bT ng (pv 2) (aW vc aF aF) (bM _)) (aH (pS 2 nd aF)) bG)) (aH (aZ (dF (ao (pv 2) (ao (pv 3) ay)))))))))),?_⟩;refine⟨λO H'=>H'=H/\∃c:Int,O=[some (.ref a),some (.int (j:Int)),some (.int c),none,none]/\0<=c,?_,?_⟩
  ·refine⟨_,Z,_,Z,a,_,Z,.inl hS,_,_,Z,Z,_,Z,?_⟩
   refine fZ (λhc=>?_) (λ_=>?_)
   ·have hj:(j:Int)<((ns.map V.int).length:Int):=mK hc
    rw[bR]at hj;obtain⟨z,hz⟩:=Mo (ns:=ns) (j:=j) aw;refine⟨_,Z,_,Z,.inl ⟨a,_,_,_,Z,Z,hS,hz,z,Z,?_⟩⟩;exact⟨Z,_,Z,by split<;>lia⟩
   ·exact⟨Z,0,Z,gO _⟩
  rintro O H' ⟨rfl,c,rfl,c0⟩;refine⟨_,Z,_,_,Z,Z,.of_left (dU az az),_,Z,_,_,Z,Z,.of_right (dU aw aw),_,Z,_,_,Z,Z,.of_left (dU az az),_,_,Z,Z,_,_,Z,Z,?_⟩;refine⟨_,Z,a,_,Z,.inl hS,_,_,Z,_,Z,?_,?_,?_⟩
  ·split<;>lia
  ·split<;>(try rw[bR])<;>lia
  refine vZ (Pv:=λi O H2=>H2=H'/\∃(m:Int)(v:Option V),O=[some (.ref a),some (.int (j:Int)),some (.int c),some (.int m),v]/\0<=m/\m<2147483648) ?_ ?_ ?_
  ·refine⟨Z,_,none,Z,?_,?_⟩
   ·have:(0:Int)<=(j:Int)*(j:Int):=lI aw aw
    rw[Int.mul_assoc];lia
   ·have:(j:Int)*(j:Int)<=100*100:=As aw aw aw aw
    rw[Int.mul_assoc];lia
  ·rintro i O H2 hi ⟨rfl,m,v,rfl,m0,m1⟩
   have Ey:i<ns.length:=by rw[bR]at hi;split at hi<;>lia
   obtain⟨z,hz⟩:=Mo (ns:=ns) (j:=i) Ey;rw[<-Int.zero_add (i:Int)]at hz;have Zn:0<=z%2147483647:=uA _ az;have Zm:z%2147483647<2147483647:=xA _ az;have a0f:(0:Int)<=(0+(i:Int))*(0+(i:Int)):=lI aw aw;have hii:(0+(i:Int))*(0+(i:Int))<=100*100:=As aw aw aw aw;refine⟨_,Z,_,_,Z,Z,.of_right (dU az az),_,Z,_,Z,.inl ⟨a,_,_,_,Z,Z,hS,hz,_,_,Z,Z,(by show(0:Int)<2147483647;decide),_,_,Z,Z,_,Z,_,Z,_,_,Z,Z,.of_right (dU aw aw),_,_,Z,Z,_,_,Z,Z,⟨az,az,?_⟩,_,_,Z,Z,(by show(0:Int)<2147483629;decide),?_⟩⟩
   ·have nP:(2:Nat)^64=18446744073709551616:=by decide
    rw[nP];generalize(0+(i:Int))*(0+(i:Int))=ii at a0f hii⊢;generalize z%2147483647=zz at Zn Zm⊢
    lia
   ·exact⟨Z,_,_,Z,uA _ az,Int.lt_trans (xA _ az) az⟩
  ·rintro O H2 ⟨rfl,m,v,rfl,m0,m1⟩
   refine⟨λO H3=>H3=H2/\∃c:Int,O=[some (.ref a),some (.int (j:Int)),some (.int c),some (.int m),v]/\0<=c,?_,?_⟩
   ·refine⟨_,Z,_,_,Z,Z,⟨az,az,az⟩,_,_,Z,Z,_,Z,?_⟩
    refine fZ (λhc=>?_) (λ_=>?_)
    ·exact⟨Z,0,Z,gO _⟩
    ·exact⟨Z,c,Z,c0⟩
   rintro O H3 ⟨rfl,c,rfl,c0⟩;refine⟨_,Z,_,Z,(by show 2<=sizeLine;decide),λp H4 nw=>?_⟩;exact k p H4 nw.no ⟨c,m,nw.at',c0,m0,m1⟩ nw.same
inductive a6J(vs:List V)(H:Hp)(Q:VK):Prop |mk (a:Int)(b:Int)(h0:vs=[.int a,.int b])(h1:Q (.int (Int.gcd a b)) H)
def AZ:Sp:=λvs H Q _=>a6J vs H Q
inductive a6s(vs:List V)(H:Hp)(Q:VK):Prop |mk (a:Int)(b:Int)(h0:vs=[.int a,.int b])(h1:b≠0)(h2:Wd b)(h3:∀t H',Nw H H' t (.tup [.int (_A.lowP a b),.int (_A.fN a b)])->Q (.ref t) H')
def uK:Sp:=λvs H Q _=>a6s vs H Q
def jP(T:String):Bool:=fD T "int"&& !fD T "bool"
inductive a6z(K:aa)(vs:List V)(H:Hp)(Q:VK):Prop |mk (v:_)(T:_)(h0:vs=[v])(h1:qV K H v T)(h2:Q (.bl (jP T)) H)
def uM(K:aa):Sp:=λvs H Q _=>a6z K vs H Q
abbrev Cm:Stmt:=top 49
theorem Ka:bj ["p","q","high","low"] ["p","q"] (aP Cm):=bw aM
theorem Wx(F:FA K mg "common_divisor" Cm)(B:bE mg):aG P w K mg au "common_divisor" 1 AZ:=by
 refine F.has Ka (λvs H Q E h=>?_) (λ_ _ _ _ _ _=>cJ λ_ _=>rfl) (λf aE A outer s H vs Q E hr h=>?_)
 ·obtain⟨a,b,rfl,_⟩:=h
  rfl
 ·obtain⟨a,b,rfl,k⟩:=h
  have nd:=Ka.nd;refine⟨_,(aD (De (i:=2) (j:=3) Z nd Z Z az Z Z (ao (dG (x:="abs") tW Z (B.at "abs") x9 (ao (pv 0) ay)) (ao (dG (x:="abs") tW rfl (B.at "abs") x9 (ao (pv 1) ay)) ay)) rfl) (aD (sL iG (bT (sX K Z hr.units) (pv 3) aF (bM _)) (aH (De (i:=2) (j:=3) Z nd Z Z az Z Z (ao (pv 3) (ao (aW qr (pv 2) (pv 3)) ay)) Z))) (aH (aZ (pv 2))))),?_⟩;refine⟨_,Z,_,Z,_,Z,_,Z,_,_,Z,?_⟩;refine rP (λO H2=>H2=H/\∃(x y:Int),O=[some (.int a),some (.int b),some (.int x),some (.int y)]/\0<=x/\0<=y/\Int.gcd x y=Int.gcd a b) (λO _=>match O with|[_,_,_,some (.int y)]=>y.natAbs|_=>0) ?_ ?_ ?_
  ·refine⟨Z,_,_,Z,by split<;>lia,by split<;>lia,?_⟩
   have h1:(if a<0 then-a else a).natAbs=a.natAbs:=by split<;>lia
   have h2:(if b<0 then-b else b).natAbs=b.natAbs:=by split<;>lia
   unfold Int.gcd;rw[h1,h2]
  ·rintro O H2 ⟨rfl,x,y,rfl,x0,y0,e⟩
   refine⟨_,Z,.inl ⟨_,_,Z,Z,_,Z,?_⟩⟩;refine fZ (λhc=>?_) (λhc=>?_)
   ·have hy:y≠0:=by simpa using hc
    have qI:0<y:=by lia
    refine⟨_,Z,_,Z,_,Z,_,_,Z,Z,qI,_,_,Z,?_⟩;refine⟨⟨Z,_,_,Z,y0,uA _ hy,(_A.a1X qI).trans e⟩,?_⟩;show(x%y).natAbs<y.natAbs;have:=uA x hy;have:=xA x qI
    lia
   ·have hy:y=0:=by simpa using hc
    subst hy;refine⟨_,Z,?_⟩;rw[Int.gcd_zero_right]at e;have e2:x=((Int.gcd a b:Nat):Int):=by lia
    rw[e2];exact k
  ·rintro O H2 Q1 Q2 hq ⟨v1,e1,h⟩
   refine⟨v1,e1,?_⟩;rcases h with⟨i,j,e3,e4,kk,e5,q⟩|⟨d,e,r1,r2,s1,s2,kk,e5,q⟩
   ·exact .inl ⟨i,j,e3,e4,kk,e5,hq _ _ q⟩
   ·exact .inr ⟨d,e,r1,r2,s1,s2,kk,e5,hq _ _ q⟩
abbrev C4:Stmt:=top 14
theorem JU:bj ["thing"] ["thing"] (aP C4):=bw aM
theorem W9(F:FA K mg "is_whole" C4)(B:bE mg):aG P w K mg au "is_whole" 1 (uM K):=by
 refine F.has JU (λvs H Q E h=>?_) (λ_ _ _ _ _ _=>fz λ_=>rfl) (λf aE A outer s H vs Q E hr h=>?_)
 ·obtain⟨v,T,rfl,_⟩:=h
  rfl
 ·obtain⟨v,T,rfl,ty,k⟩:=h
  have nd:=JU.nd;refine⟨_,(aH (aZ (qq (kC K B (ao (pv 0) (ao (jJ (x:="int") (v:=.ty "int") Z (B.at "int") PyProof.Rows.boot_int rfl) ay))) (sO (Uy (kC K B (ao (pv 0) (ao (jJ (x:="bool") (v:=.ty "bool") rfl (B.at "bool") PyProof.Rows.boot_bool rfl) ay)))))))),?_⟩;refine⟨_,Z,.inl ⟨_,T,"int",_,Z,ty,az,Z,_,Z,?_⟩⟩;unfold jP at k;refine fZ (λhc=>?_) (λhc=>?_)
  ·refine⟨_,Z,.inl ⟨_,T,"bool",_,Z,ty,az,Z,_,Z,?_⟩⟩
   rw[hc,iH]at k;exact k
  ·rw[Au.mpr hc,fV]at k
   exact k
open _l
def gF(ns:List Int)(sp:Int):ah:=.tuple [.str "line",.tuple (ns.map PyData.int),.int sp]
theorem YA(ns:List Int)(sp:Int):dP (gF ns sp)=true:=by simp[gF,dP,bX,nk]
structure eY(ax:Nat)(m:Int)(ns:List Int):Prop where
 len:ns.length=ax
 bd:∀z∈ns,(z.natAbs:Int)<=m
 nz:∃z∈ns,z≠0
theorem eY.lead{ax:Nat}{m:Int}{ns:List Int}(h:eY ax m ns):0<aJ ns/\(aJ ns:Int)<=m:=by
 refine⟨YF h.nz,?_⟩;have hm:0<=m:=by obtain⟨z,hz,_⟩:=h.nz;have:=h.bd z hz;lia
 have:=ny (ns:=ns) (m:=m.toNat) λz hz=>by have:=h.bd z hz;lia
 lia
theorem eY.ne{ax:Nat}{m:Int}{ns:List Int}(h:eY ax m ns):ns≠[]:=by obtain⟨z,hz,_⟩:=h.nz;intro e;subst e;cases hz
theorem tf{H:Hp}{v:V}{ns:List Int}{sp:Int}(h:RD K H v (gF ns sp)):∃a b,v= .ref a/\aQ K H a [.str "line",.ref b,.int sp]/\aQ K H b (ns.map V.int):=by obtain⟨a,xs,rfl,h1,h2⟩:=h.da;obtain⟨x1,r1,rfl,e1,h2⟩:=h2.cons_inv;obtain⟨x2,r2,rfl,e2,h2⟩:=h2.cons_inv;obtain⟨x3,r3,rfl,e3,h2⟩:=h2.cons_inv;cases h2.nil_inv;cases e1.str_inv;cases e3.int_inv;obtain⟨b,ys,rfl,h3,h4⟩:=e2.da;rw[h4.jb]at h3;exact⟨a,b,Z,h1,h3⟩
inductive a6w(K:aa)(vs:List V)(H:Hp)(Q:VK):Prop |mk (v:_)(ns:_)(sp:_)(h0:vs=[v])(h1:RD K H v (gF ns sp))(h2:ns≠[])(h3:ns.length<=1000)(h4:∀H',aA H H'->Q (.int (aJ ns)) H')
def oq(K:aa):Sp:=λvs H Q _=>a6w K vs H Q
theorem qC{ns:List Int}{f:Int->ah}{i:Nat}{d:ah}(h:(ns.map f)[i]? =some d):∃n,ns[i]? =some n/\f n=d:=by rw[cZ]at h;cases e:ns[i]? with |none=>rw[e]at h;cases h |some n=>rw[e]at h;exact⟨n,Z,dW h⟩
theorem DP{ns:List Int}{i:Nat}{x:V}{n:Int}(h:(ns.map V.int)[i]? =some x)(e:ns[i]? =some n):x= .int n:=by rw[cZ,e]at h;exact(dW h).symm
abbrev BX:Stmt:=top 51
theorem JO:bj ["line"] ["line"] (aP BX):=bw aM
theorem W7(F:FA K mg "lead_of" BX)(B:bE mg):aG P w K mg au "lead_of" 1 (oq K):=by
 refine F.has JO (λvs H Q E h=>?_) (λ_ _ _ _ _ _=>fz λ_=>rfl) (λf aE A outer s H vs Q E hr h=>?_)
 ·obtain⟨v,ns,sp,rfl,_⟩:=h
  rfl
 ·obtain⟨v,ns,sp,rfl,rd,dA,hz,k⟩:=h
  have nd:=JO.nd;obtain⟨a,b,rfl,ha,hb⟩:=tf rd;refine⟨_,(aH (aZ (dG (x:="max") (XU K Z Z) Z (B.at "max") PyProof.Rows.boot_max (ao (gQ (N:=["step"]) (js:=[none]) rfl rfl rfl (nc K rfl (px K (pv 0) aF)) (λ_ _ _ _ _=>(bu 0 (oK _))) (λ_ _ _ _ _=>gb) (λ_ _ _ _ _=>(dG (x:="abs") tW rfl (B.at "abs") x9 (ao (pv 0) ay)))) ay)))),?_⟩;refine⟨_,Z,.inr ⟨a,_,1,.ref b,Z,Z,ha,Z,b,Z,⟨_,hb⟩,λD H0 nw=>?_⟩⟩;refine FR (K:=K) (xs:=ns.map V.int) (ds:=(ns.map mC).map PyData.int) [] hb nw (by simp) (by simpa using hz) (nk _) ?_ ?_
  ·intro i x d H2 Q' ex ed s2 hq
   obtain⟨m,em,rfl⟩:=qC ed;rw[cZ]at em;cases en:ns[i]? with |none=>rw[en]at em;cases em |some n=>rw[en]at em;cases em;cases DP ex en;exact⟨_,Z,n,Z,hq _ _ (aA.refl _) (cQ _)⟩
  ·intro H' ys s2 d2 r2
   rw[r2.jb]at d2;refine⟨D,_,Z,aK.of d2,by simpa using dA,λM h1 h2=>?_⟩;rw[YE dA h1 h2];exact k H' s2
open _r
abbrev BZ:Stmt:=top 48
theorem JQ:bj ["p","q","divisor"] ["p","q"] (aP BZ):=bw aM
theorem W3(F:FA K mg "lowest_terms" BZ)(B:bE mg)(a0D:aG P w K mg au "common_divisor" 1 AZ):aG P w K mg au "lowest_terms" 2 uK:=by
 refine F.has JQ (λvs H Q E h=>?_) (λ_ _ _ _ _ _=>cJ λ_ _=>rfl) (λf aE A outer s H vs Q E hr h=>?_)
 ·obtain⟨a,b,rfl,_⟩:=h
  rfl
 ·obtain⟨a,b,rfl,hb,wb,k⟩:=h
  have nd:=JQ.nd;have sw:Wd (_A.sg a b):=GO (_A.Sj hb) wb;refine⟨_,(aD (pS 2 nd (pf a0D hr (ao (pv 0) (ao (pv 1) ay)))) (aD (jn (bD (bT ng (pv 1) aF (bM _)) (aH (pS 2 nd (lU lN (pv 2)))) bG)) (aH (aZ (dc (ao (aW Lg (pv 0) (pv 2)) (ao (aW Lg (pv 1) (pv 2)) ay))))))),?_⟩;refine⟨_,Z,_,Z,a,b,Z,?_⟩;refine⟨λO H'=>H'=H/\O=[some (.int a),some (.int b),some (.int (_A.sg a b))],?_,?_⟩
  ·refine⟨_,Z,_,_,Z,Z,_,Z,?_⟩
   refine fZ (λhc=>?_) (λhc=>?_)
   ·have hd:b<0:=mK hc
    refine⟨_,Z,_,Z,?_⟩;refine⟨Z,?_⟩;unfold _A.sg;rw[bo hd];rfl
   ·have hd:¬b<0:=λz=>hc (cu z)
    refine⟨Z,?_⟩;unfold _A.sg;rw[bf hd];rfl
  rintro O H' ⟨rfl,rfl⟩;refine⟨_,Z,_,Z,_,_,Z,Z,⟨_A.uR hb,sw⟩,_,Z,_,Z,_,_,Z,Z,⟨_A.uR hb,sw⟩,(by show 2<=sizeLine;decide),λt H4 nw=>?_⟩;exact k t H4 nw
def bN(K:aa)(H:Hp)(v:V)(r:Rat):Prop:=∃p,v= .ref p/\aQ K H p [.int r.num,.int r.den]
theorem bN.go{H H':Hp}{v:V}{r:Rat}(h:bN K H v r)(s:aA H H'):bN K H' v r:=by obtain⟨p,e,q⟩:=h;exact⟨p,e,q.go s⟩
def cB(r:Rat):ah:=.tuple [.int r.num,.int r.den]
theorem bN.rd{H:Hp}{v:V}{r:Rat}(h:bN K H v r):RD K H v (cB r):=by obtain⟨p,rfl,q⟩:=h;exact eF q (bJ (cQ _) (bJ (cQ _) bW))
theorem TB(r:Rat):cD 1 (cB r):=fQ.tup (.cons (.int _) (.cons (.int _) .nil))
theorem eqR{r s:Rat}(h:r=s):PyData.eqv (cB r) (cB s)=true:=by rw[h];exact(TB s).refl
theorem jD{n:Nat}{i:Int}(h:i.natAbs<2^n)(l:n<=5000):Wd i:=fF h (uo az l)
theorem _root_._r.Bd.wn{r:Rat}(h:Bd 2000 r):Wd r.num:=jD h.num az
theorem _root_._r.Bd.wd{r:Rat}(h:Bd 2000 r):Wd (r.den:Int):=jD (n:=2000) (by have:=h.den;omega) az
theorem Qi{r s:Rat}(h:Bd 2000 r)(g:Bd 2000 s):Wd ((r.den:Int)*(s.den:Int)):=jD (n:=4000) (FL h g) az
theorem yo{H':Hp}{t:Addr}{a b:Int}{r:Rat}(hb:b≠0)(e:r=Rat.divInt a b)(h:H' t=some (.tup [.int (_A.lowP a b),.int (_A.fN a b)])):bN K H' (.ref t) r:=by obtain⟨e1,e2⟩:=DU (a:=a) hb;rw[e1,e2,<-e]at h;exact⟨t,Z,aQ.of h⟩
inductive a6c(op:Rat->Rat->Rat)(K:aa)(vs:List V)(H:Hp)(Q:VK):Prop |mk (v1:_)(v2:_)(r:_)(s:_)(h0:vs=[v1,v2])(h1:bN K H v1 r)(h2:bN K H v2 s)(h3:Bd 2000 r)(h4:Bd 2000 s)(h5:∀v H',bN K H' v (op r s)->aA H H'->Q v H')
def uI(op:Rat->Rat->Rat)(K:aa):Sp:=λvs H Q _=>a6c op K vs H Q
abbrev BR:Stmt:=top 44
theorem JI:bj ["one","other","p","q","r","s"] ["one","other"] (aP BR):=bw aM
theorem VZ(F:FA K mg "minus" BR)(B:bE mg)(tG:aG P w K mg au "lowest_terms" 2 uK):aG P w K mg au "minus" 3 (uI (·-·) K):=by
 refine F.has JI (λvs H Q E h=>?_) (λ_ _ _ _ _ _=>cJ λ_ _=>rfl) (λf aE A outer s H vs Q E hr h=>?_)
 ·obtain⟨v1,v2,r,s,rfl,_⟩:=h
  rfl
 ·obtain⟨v1,v2,r,s,rfl,⟨p,rfl,hp⟩,⟨q,rfl,hq⟩,br,bs,k⟩:=h
  have nd:=JI.nd;refine⟨_,(aD (gc (pv 0) (fm K Z (n:=2) Z (bV (bu 2 nd) (bV (bu 3 nd) fk)))) (aD (gc (pv 1) (fm K Z (n:=2) Z (bV (bu 4 nd) (bV (bu 5 nd) fk)))) (aH (aZ (pf tG hr (ao (aW j8 (aW cw (pv 2) (pv 5)) (aW cw (pv 4) (pv 3))) (ao (aW cw (pv 3) (pv 5)) ay))))))),?_⟩;refine⟨_,Z,_,_,Z,hp,Z,_,_,Z,_,_,Z,Z,?_⟩;refine⟨_,Z,_,_,Z,hq,Z,_,_,Z,_,_,Z,Z,?_⟩;refine⟨_,Z,_,Z,_,_,Z,Z,mM br.wn.bits bs.wd.bits,_,Z,_,Z,_,_,Z,Z,mM bs.wn.bits br.wd.bits,_,_,Z,Z,_,Z,_,Z,_,_,Z,Z,mM br.wd.bits bs.wd.bits,?_⟩;exact⟨_,_,Z,wx r s,Qi br bs,λt H' nw=>k _ _ (yo (wx r s) (RS r s) nw.at') nw.same⟩
theorem Hj{a:Int}{b:Nat}{x:Rat}(hb:b≠0)(hx:Rat.divInt a b=x):∃g,a=x.num*g/\(b:Int)=x.den*g:=by obtain⟨g,_,p⟩:=Rat.divInt_num_den (z':=x.den_nz) (c:=x.reduced) bK hx;exact⟨g,p⟩
theorem Qd{r s x y:Rat}(hx:Rat.divInt r.num s.den=x)(hy:Rat.divInt s.num r.den=y)(m:r*s=Rat.divInt (r.num*s.num) (r.den*s.den)):x.num*y.num=(r*s).num/\(y.den:Int)*x.den=(r*s).den:=by
 obtain⟨g,h1,h2⟩:=Hj s.den_nz hx;obtain⟨h,h3,h4⟩:=Hj r.den_nz hy;have w:∀{q:Rat}{a b g h:Int},q.num=a*g->q.den=b*h->a.natAbs.Coprime b.natAbs:=λ{q a b g h} p z=>by have c:Int.gcd q.num q.den=1:=q.reduced;rw[p,z,Int.gcd_eq_natAbs_gcd_natAbs,gM,gM]at c;exact Nat.Coprime.coprime_mul_right_right (Nat.Coprime.coprime_mul_right c)
 have c:(x.num*y.num).natAbs.gcd (x.den*y.den)=1:=by rw[gM];exact Nat.Coprime.mul_left (Nat.Coprime.mul_right x.reduced (w h1 h4)) (Nat.Coprime.mul_right (w h3 h2) y.reduced)
 have e:r*s=x*y:=by rw[m,<-hx,<-hy,Pm,Hd (s.den:Int)]
 rw[e,Rat.num_mul,Rat.den_mul,c,Nat.div_one,Al x.den];exact⟨(Int.ediv_one _).symm,Z⟩
abbrev Bg:Stmt:=top 45
theorem Je:bj ["one","other","p","s","r","q"] ["one","other"] (aP Bg):=bw aM
theorem Vm(F:FA K mg "times" Bg)(B:bE mg)(tG:aG P w K mg au "lowest_terms" 2 uK):aG P w K mg au "times" 3 (uI (·*·) K):=by
 refine F.has Je (λvs H Q E h=>?_) (λ_ _ _ _ _ _=>cJ λ_ _=>rfl) (λf aE A outer s H vs Q E hr h=>?_)
 ·obtain⟨v1,v2,r,s,rfl,_⟩:=h
  rfl
 ·obtain⟨v1,v2,r,s,rfl,⟨p,rfl,hp⟩,⟨q,rfl,hq⟩,br,bs,k⟩:=h
  have nd:=Je.nd;have nr:=Int.ne_of_gt (den_pos r);have ns:=Int.ne_of_gt (den_pos s);refine⟨_,(aD (gc (pf tG hr (ao (px K (pv 0) aF) (ao (px K (pv 1) aF) ay))) (fm K Z (n:=2) Z (bV (bu 2 nd) (bV (bu 3 nd) fk)))) (aD (gc (pf tG hr (ao (px K (pv 1) aF) (ao (px K (pv 0) aF) ay))) (fm K Z (n:=2) Z (bV (bu 4 nd) (bV (bu 5 nd) fk)))) (aH (aZ (dc (ao (aW cw (pv 2) (pv 4)) (ao (aW cw (pv 5) (pv 3)) ay))))))),?_⟩;refine⟨_,Z,Or.inr ⟨_,_,_,_,Z,Z,hp,Z,_,Z,Or.inr ⟨_,_,_,_,Z,Z,hq,Z,_,_,Z,ns,bs.wd,λt1 H1 n1=>?_⟩⟩⟩;obtain⟨_,e,g1⟩:=yo ns Z n1.at';cases e;refine⟨_,_,Z,g1,Z,_,_,Z,_,_,Z,Z,?_⟩;refine⟨_,Z,Or.inr ⟨_,_,_,_,Z,Z,hq.go n1.same,Z,_,Z,Or.inr ⟨_,_,_,_,Z,Z,hp.go n1.same,Z,_,_,Z,nr,br.wd,λt2 H2 n2=>?_⟩⟩⟩;obtain⟨_,e,g2⟩:=yo nr Z n2.at';cases e;refine⟨_,_,Z,g2,Z,_,_,Z,_,_,Z,Z,?_⟩;have b1:Bd 2000 _:=ja ns br.num (by have:=bs.den;omega);have b2:Bd 2000 _:=ja nr bs.num (by have:=br.den;omega);refine⟨_,Z,_,Z,_,_,Z,Z,mM b1.wn.bits b2.wn.bits,_,Z,_,Z,_,_,Z,Z,mM b2.wd.bits b1.wd.bits,?_⟩;refine⟨bC Z,λt H' n=>k _ _ ⟨t,Z,aQ.of ?_⟩ (n1.same.trans (n2.same.trans n.same))⟩;obtain⟨e1,e2⟩:=Qd Z Z (mul_div r s);rw[<-e1,<-e2];exact n.at'
inductive a6u(K:aa)(vs:List V)(H:Hp)(Q:VK):Prop |mk (v1:_)(v2:_)(r:_)(s:_)(h0:vs=[v1,v2])(h1:bN K H v1 r)(h2:bN K H v2 s)(h3:Bd 2000 r)(h4:Bd 2000 s)(h5:Q (.bl (decide (r<s))) H)
def y9(K:aa):Sp:=λvs H Q _=>a6u K vs H Q
abbrev BV:Stmt:=top 46
theorem JM:bj ["one","other","p","q","r","s"] ["one","other"] (aP BV):=bw aM
theorem W5(F:FA K mg "is_less" BV)(B:bE mg):aG P w K mg au "is_less" 1 (y9 K):=by
 refine F.has JM (λvs H Q E h=>?_) (λ_ _ _ _ _ _=>cJ λ_ _=>rfl) (λf aE A outer s H vs Q E hr h=>?_)
 ·obtain⟨v1,v2,r,s,rfl,_⟩:=h
  rfl
 ·obtain⟨v1,v2,r,s,rfl,⟨p,rfl,hp⟩,⟨q,rfl,hq⟩,br,bs,k⟩:=h
  have nd:=JM.nd;refine⟨_,(aD (gc (pv 0) (fm K Z (n:=2) Z (bV (bu 2 nd) (bV (bu 3 nd) fk)))) (aD (gc (pv 1) (fm K Z (n:=2) Z (bV (bu 4 nd) (bV (bu 5 nd) fk)))) (aH (aZ (jH ng (aW cw (pv 2) (pv 5)) (aW cw (pv 4) (pv 3)) (bM _)))))),?_⟩;refine⟨_,Z,_,_,Z,hp,Z,_,_,Z,_,_,Z,Z,?_⟩;refine⟨_,Z,_,_,Z,hq,Z,_,_,Z,_,_,Z,Z,?_⟩;refine⟨_,Z,_,Z,_,_,Z,Z,mM br.wn.bits bs.wd.bits,_,Z,_,Z,_,_,Z,Z,mM bs.wn.bits br.wd.bits,_,_,Z,Z,?_⟩;have e:decide (r.num*(s.den:Int)<s.num*(r.den:Int))=decide (r<s):=by rw[iX,rE,rE,Rat.lt_iff]
  show Q (.bl (decide (r.num*(s.den:Int)<s.num*(r.den:Int)))) H;rw[e];exact k
def pK(K:aa)(H:Hp):List V->List Rat->Prop |[],[]=>True |v::vs,r::rs=>bN K H v r/\Bd 2000 r/\pK K H vs rs |_,_=>False
theorem pK.length{H:Hp}:∀{vs:List V}{rs:List Rat},pK K H vs rs->vs.length=rs.length |[],[],_=>rfl |v::vs,r::rs,h=>by rw[fC,fC,pK.length h.2.2] |[],_::_,h=>h.elim |_::_,[],h=>h.elim
theorem pK.get{H:Hp}:∀{vs:List V}{rs:List Rat}{i:Nat}{v:V},pK K H vs rs->vs[i]? =some v->∃r,rs[i]? =some r/\bN K H v r/\Bd 2000 r
 |[],[],i,v,_,e=>by simp at e |v::vs,r::rs,0,v',h,e=>by
  have e':v=v':=by simpa using e
  subst e';exact⟨r,Z,h.1,h.2.1⟩ |v::vs,r::rs,i+1,v',h,e=>by obtain⟨r',e1,q⟩:=pK.get h.2.2 (show vs[i]? =some v' by simpa using e);exact⟨r',by simpa using e1,q⟩ |[],_::_,_,_,h,_=>h.elim |_::_,[],_,_,h,_=>h.elim
inductive a6v(K:aa)(vs:List V)(H:Hp)(Q:VK):Prop |mk (l:_)(xs:_)(rs:_)(h0:vs=[.ref l])(h1:aK K H l xs)(h2:pK K H xs rs)(h3:xs≠[])(h4:∀(i:Nat)(v:V)(r:Rat),xs[i]? =some v->rs[i]? =some r->(∀s∈rs,r<=s)->Q v H)
def mW(K:aa):Sp:=λvs H Q _=>a6v K vs H Q
abbrev BW:Stmt:=top 47
theorem JN:bj ["some","best","one"] ["some"] (aP BW):=bw aM
theorem W6(F:FA K mg "least" BW)(B:bE mg)(Ew:aG P w K mg au "is_less" 1 (y9 K)):aG P w K mg au "least" 2 (mW K):=by
 refine F.has JN (λvs H Q E h=>?_) (λ_ _ _ _ _ _=>fz λ_=>rfl) (λf aE A outer s H vs Q E hr h=>?_)
 ·obtain⟨l,xs,rs,rfl,_⟩:=h
  rfl
 ·obtain⟨l,xs,rs,rfl,hl,m7,dA,k⟩:=h
  have nd:=JN.nd;refine⟨_,(aD (pS 1 nd (px K (pv 0) aF)) (aD (iK iG Z (yx K Z (pv 0)) (bu 2 nd) (aH (bD (bS (pf Ew hr (ao (pv 2) (ao (pv 1) ay)))) (aH (pS 1 nd (pv 2))) bG))) (aH (aZ (pv 1))))),?_⟩;have hlen:=m7.length;have h0:0<xs.length:=GW.mpr dA;have e0:=cH h0;refine⟨_,Z,.inl ⟨l,xs,0,xs[0],Z,Z,hl,eK az e0,?_⟩⟩;refine⟨_,Z,l,Z,⟨_,hl⟩,Nk (K:=K) (a:=l) (xs:=xs) (λi O H2=>H2=H/\∃(j:Nat)(b:V)(r:Rat)(v:Option V),xs[j]? =some b/\rs[j]? =some r/\(∀(m:Nat)(s:Rat),m<i->rs[m]? =some s->r<=s)/\O=[some (.ref l),some b,v]) ?_ (λi O H2 _ h=>by rw[h.1];exact hl) ?_ ?_⟩
  ·obtain⟨r,e1,_⟩:=m7.get e0
   exact⟨Z,0,_,r,none,e0,e1,λm s hm=>absurd hm (Nat.not_lt_zero _),Z⟩
  ·rintro i x O H2 hx ⟨rfl,j,b,r,v,eb,er,hm,rfl⟩
   obtain⟨t,et,rt,bt⟩:=m7.get hx;obtain⟨r2,NA,rb,bb⟩:=m7.get eb;rw[er]at NA;cases NA;refine⟨_,Z,_,Z,x,b,t,r,Z,rt,rb,bt,bb,_,Z,?_⟩;refine fZ (λhc=>?_) (λhc=>?_)
   ·have cm:t<r:=mK hc
    refine⟨_,Z,?_⟩;refine⟨Z,i,x,t,_,hx,et,λm s tF es=>?_,Z⟩;rcases Nat.lt_succ_iff_lt_or_eq.mp tF with h|h
    ·exact fg (Rat.le_of_lt cm) (hm m s h es)
    ·subst h
     rw[et]at es;cases es;exact uh
   ·have ZT:¬t<r:=λz=>hc (cu z)
    refine⟨Z,j,b,r,_,eb,er,λm s tF es=>?_,Z⟩;rcases Nat.lt_succ_iff_lt_or_eq.mp tF with h|h
    ·exact hm m s h es
    ·subst h
     rw[et]at es;cases es;exact Rat.not_lt.mp ZT
  ·rintro O H2 ⟨rfl,j,b,r,v,eb,er,hm,rfl⟩
   refine⟨_,Z,k j b r eb er λs hs=>?_⟩;obtain⟨m,ZX,em⟩:=List.mem_iff_getElem.mp hs;exact hm m s aw (by rw[cH ZX,em])
inductive a6p(K:aa)(vs:List V)(H:Hp)(Q:VK):Prop |mk (a:_)(b:_)(h0:vs=[.int a,.int b])(h1:b≠0)(h2:Wd b)(h3:∀v H',bN K H' v (Rat.divInt a b)->aA H H'->Q v H')
def sx(K:aa):Sp:=λvs H Q _=>a6p K vs H Q
abbrev yj:Stmt:=top 42
theorem yg:bj ["p","q"] ["p","q"] (aP yj):=bw aM
theorem Wm(F:FA K mg "fraction" yj)(B:bE mg)(qM:aG P w K mg au "is_whole" 1 (uM K))(tG:aG P w K mg au "lowest_terms" 2 uK):aG P w K mg au "fraction" 3 (sx K):=by
 refine F.has yg (λvs H Q E h=>?_) (λ_ _ _ _ _ _=>cJ λ_ _=>rfl) (λf aE A outer s H vs Q E hr h=>?_)
 ·obtain⟨a,b,rfl,_⟩:=h
  rfl
 ·obtain⟨a,b,rfl,hb,wb,k⟩:=h
  have nd:=yg.nd;refine⟨_,(aD (bD (PW.pt (kr (cE (bS (pf qM hr (ao (pv 0) ay)))) (kl (cE (bS (pf qM hr (ao (pv 1) ay))))))) (aH Df) bG) (aD (bD (bT (dR K Z hr.units) (pv 1) aF (bM _)) (aH Df) bG) (aH (aZ (pf tG hr (ao (pv 0) (ao (pv 1) ay))))))),?_⟩;have iw:jP "int"=true:=by decide
  refine⟨_,Z,_,"int",Z,Z,_,Z,?_⟩;rw[iw];refine aU ?_;refine⟨_,Z,_,"int",Z,Z,_,Z,?_⟩;rw[iw];refine aU ?_;refine⟨_,Z,.inl ⟨_,_,Z,Z,_,Z,?_⟩⟩;rw[cX hb];refine aU ?_;exact⟨_,Z,_,Z,_,_,Z,hb,wb,λt H' nw=>k _ _ (yo hb Z nw.at') nw.same⟩
def gT(rs:List Int)(r f j t:Int):ah:=.tuple [.tuple (rs.map PyData.int),.int r,.int f,.int j,.int t]
theorem kG(rs:List Int)(r f j t:Int):dP (gT rs r f j t)=true:=by simp[gT,dP,bX,nk]
theorem qD{H:Hp}{v:V}{rs:List Int}{r f j t:Int}(h:RD K H v (gT rs r f j t)):∃a b,v= .ref a/\aQ K H a [.ref b,.int r,.int f,.int j,.int t]/\aQ K H b (rs.map V.int):=by obtain⟨a,xs,rfl,h1,h2⟩:=h.da;obtain⟨x1,r1,rfl,e1,h2⟩:=h2.cons_inv;obtain⟨x2,r2,rfl,e2,h2⟩:=h2.cons_inv;obtain⟨x3,r3,rfl,e3,h2⟩:=h2.cons_inv;obtain⟨x4,r4,rfl,e4,h2⟩:=h2.cons_inv;obtain⟨x5,r5,rfl,e5,h2⟩:=h2.cons_inv;cases h2.nil_inv;cases e2.int_inv;cases e3.int_inv;cases e4.int_inv;cases e5.int_inv;obtain⟨b,ys,rfl,h3,h4⟩:=e1.da;rw[h4.jb]at h3;exact⟨a,b,Z,h1,h3⟩
structure lF(rs:List Int)(r f j t:Int):Prop where
 len:rs.length=2\/rs.length=3
 rl:∀z∈rs,1<=z/\z<=100
 r1:1<=r/\r<=50
 f1:1<=f/\f<=50
 j1:1<=j/\j<=50
 t1:1<=t/\t<=100
inductive a6r(K:aa)(vs:List V)(H:Hp)(Q:VK):Prop |mk (p:_)(h0:vs=[.ref p])(h1:iD H p)(h2:∀v rs r f j t H',RD K H' v (gT rs r f j t)->lF rs r f j t->cj p H H'->Q v H')
def IC(K:aa):Sp:=λvs H Q _=>a6r K vs H Q
abbrev Itm:=Option (List Int × Int)
def itR(d:ah)(o:Itm):Prop:=(∃ns sp,d=gF ns sp/\o=some (ns,sp))\/∃w x,d= .tuple [.str w,x]/\(w="wait"\/w="tool"\/w="mark")/\dP x=true/\o=none
theorem itR.no{d:ah}{o:Itm}(h:itR d o):dP d=true:=by
 rcases h with⟨ns,sp,rfl,_⟩|⟨w,x,rfl,_,h,_⟩
 ·exact YA _ _
 ·simp[dP,bX,h]
theorem YZ{H:Hp}{v:V}{d:ah}{o:Itm}(h:RD K H v d)(i:itR d o):∃a w ys,v= .ref a/\aQ K H a (.str w::ys)/\(PyData.eqv (.str w) (.str "line")=o.isSome)/\SeqAt.shaped (.str w)=true:=by
 rcases i with⟨ns,sp,rfl,rfl⟩|⟨w,x,rfl,hw,_,rfl⟩
 ·obtain⟨a,b,rfl,h1,_⟩:=tf h
  exact⟨a,_,_,Z,h1,(by show PyData.eqv (.str "line") (.str "line")=true;decide+kernel),aM⟩
 ·obtain⟨a,xs,rfl,h1,h2⟩:=h.da
  obtain⟨x1,r1,rfl,e1,h2⟩:=h2.cons_inv;cases e1.str_inv;refine⟨a,w,r1,Z,h1,?_,?_⟩
  ·show PyData.eqv (.str w) (.str "line")=false
   rcases hw with rfl|rfl|rfl<;>decide+kernel
  ·rcases hw with rfl|rfl|rfl<;>decide+kernel
theorem Yz:SeqAt.shaped (.str "line")=true:=by decide+kernel
theorem nG{d:ah}{ns:List Int}{sp:Int}(h:itR d (some (ns,sp))):d=gF ns sp:=by
 rcases h with⟨Dy,B5,e1,e2⟩|⟨_,_,_,_,_,e2⟩
 ·cases e2;exact e1
 ·cases e2
structure fc(ax:Nat)(ds:List ah)(os:List Itm):Prop where
 len:ds.length=os.length
 it:∀(i:Nat)(d:ah)(o:Itm),ds[i]? =some d->os[i]? =some o->itR d o
 ok:∀(i:Nat)(ns:List Int)(sp:Int),os[i]? =some (some (ns,sp))->eY ax 100 ns/\1<=sp/\sp<=20
theorem fc.nil{ax:Nat}:fc ax [] []:=⟨Z,λi d o e=>by simp at e,λi ns sp e=>by simp at e⟩
theorem pY{α:Type}{xs:List α}{x y:α}{j:Nat}(e:(xs++[x])[j]? =some y):xs[j]? =some y\/(j=xs.length/\y=x):=by
 by_cases hj:j<xs.length
 ·rw[Aq hj]at e;exact .inl e
 ·have zj:j=xs.length:=by
   have:=(eU.mp e).1;rw[fi]at this;have:j<xs.length+1:=this
   lia
  rw[zj,Ap (bA _),Nat.sub_self]at e;exact .inr ⟨zj,(dW e).symm⟩
theorem fc.snoc{ax:Nat}{ds:List ah}{os:List Itm}{d:ah}{o:Itm}(h:fc ax ds os)(i:itR d o)(g:∀ns sp,o=some (ns,sp)->eY ax 100 ns/\1<=sp/\sp<=20):fc ax (ds++[d]) (os++[o]):=by
 have hl:=h.len;refine⟨by rw[fi,fi,h.len];rfl,λj d' o' e1 e2=>?_,λj ns sp e=>?_⟩
 ·rcases pY e1 with e1|⟨j1,rfl⟩
  ·rcases pY e2 with e2|⟨j2,rfl⟩
   ·exact h.it j d' o' e1 e2
   ·have:=(eU.mp e1).1;lia
  ·rcases pY e2 with e2|⟨j2,rfl⟩
   ·have:=(eU.mp e2).1;lia
   ·exact i
 ·rcases pY e with e|⟨_,e⟩
  ·exact h.ok j ns sp e
  ·exact g ns sp e.symm
theorem fc.no{ax:Nat}{ds:List ah}{os:List Itm}(h:fc ax ds os):bX ds=true:=eO.mpr λd hd=>by obtain⟨i,hi⟩:=xk.mp hd;have hl:=(eU.mp hi).1;exact(h.it i d _ hi (cH (by rw[<-h.len];exact hl))).no
theorem fc.get{ax:Nat}{ds:List ah}{os:List Itm}(h:fc ax ds os){i:Nat}{d:ah}(e:ds[i]? =some d):∃o,os[i]? =some o/\itR d o:=by have hl:=(eU.mp e).1;have e2:=cH (show i<os.length by rw[<-h.len];exact hl);exact⟨_,e2,h.it i d _ e e2⟩
theorem aI.IU{H:Hp}{l:Addr}{ys:List V}{y:V}{ds:List ah}{d:ah}(dl:H l=some (.lst ys))(r:aI K H ys ds)(rd:RD K H y d)(n1:bX ds=true)(n2:dP d=true):aI K (_L.upd H l (.lst (ys++[y]))) (ys++[y]) (ds++[d]):=by have t:g9 H (_L.upd H l (.lst (ys++[y]))):=.lK dl;exact(aI.t t _ n1 r).append (bJ (RD.t t _ n2 rd) bW)
inductive a6B(K:aa)(vs:List V)(H:Hp)(Q:VK):Prop |mk (v:_)(d:_)(o:_)(h0:vs=[v])(h1:RD K H v d)(h2:itR d o)(h3:Q (.bl o.isSome) H)
def ou(K:aa):Sp:=λvs H Q _=>a6B K vs H Q
abbrev C3:Stmt:=top 33
theorem JT:bj ["item"] ["item"] (aP C3):=bw aM
theorem Wc(F:FA K mg "is_line" C3)(B:bE mg):aG P w K mg au "is_line" 1 (ou K):=by
 refine F.has JT (λvs H Q E h=>?_) (λ_ _ _ _ _ _=>fz λ_=>rfl) (λf aE A outer s H vs Q E hr h=>?_)
 ·obtain⟨v,d,o,rfl,_⟩:=h
  rfl
 ·obtain⟨v,d,o,rfl,ri,it,k⟩:=h
  have nd:=JT.nd;refine⟨_,(aH (aZ (jH (dR K Z hr.units) (px K (pv 0) aF) ck (bM _)))),?_⟩;obtain⟨a,wd,ys,rfl,h1,ew,sw⟩:=YZ ri it;refine⟨_,Z,.inr ⟨a,_,0,.str wd,Z,Z,h1,eK (gO 0) Z,.inr ⟨_,_,dN _,dN _,sw,Yz,?_⟩⟩⟩;rw[ew];exact k
def tZ:Str:="abcdefghijklmnopqrstuvwxyz"
theorem OH{α:Type}{xs:List α}{x:α}(h:xs.getLast? =some x):iB xs (-1)=some x:=by
 unfold iB kH;have hl:xs≠[]:=by intro e;rw[e]at h;cases h
 have h0:0<xs.length:=GW.mpr hl;rw[bf az,bo aw];rw[List.getLast?_eq_getElem?]at h;show xs[((-1:Int)+(xs.length:Int)).toNat]? =some x;have e:((-1:Int)+(xs.length:Int)).toNat=xs.length-1:=by lia
 rw[e];exact h
def Qk(ns:List Int):ah:=.tuple (ns.map λz=>cB (Rat.divInt z (_l.aJ ns)))
theorem sH(r:Rat):dP (cB r)=true:=by simp[cB,dP,bX]
theorem Ly{α:Type}{f:α->ah}(h:∀a,dP (f a)=true)(l:List α):bX (l.map f)=true:=eO.mpr λd hd=>by obtain⟨a,_,rfl⟩:=gu.mp hd;exact h a
inductive a5J(K:aa)(vs:List V)(H:Hp)(Q:VK):Prop |mk (v:_)(ns:_)(sp:_)(h0:vs=[v])(h1:RD K H v (gF ns sp))(h2:eY ns.length 1000 ns)(h3:ns.length<=1000)(h4:∀v' H',RD K H' v' (Qk ns)->aA H H'->Q v' H')
def HZ(K:aa):Sp:=λvs H Q _=>a5J K vs H Q
abbrev Bc:Stmt:=top 52
theorem Jb:bj ["line","lead"] ["line"] (aP Bc):=bw aM
theorem Vi(F:FA K mg "ways_of" Bc)(B:bE mg)(kN:aG P w K mg au "lead_of" 1 (oq K))(kO:aG P w K mg au "fraction" 3 (sx K)):aG P w K mg au "ways_of" 4 (HZ K):=by
 refine F.has Jb (λvs H Q E h=>?_) (λ_ _ _ _ _ _=>fz λ_=>rfl) (λf aE A outer s H vs Q E hr h=>?_)
 ·obtain⟨v,ns,sp,rfl,_⟩:=h
  rfl
 ·obtain⟨v,ns,sp,rfl,rd,ok,hz,k⟩:=h
  have nd:=Jb.nd;refine⟨_,(aD (pS 1 nd (pf kN hr (ao (pv 0) ay))) (aH (aZ (jI (x:="tuple") (mS K Z) Z (B.at "tuple") jA (ao (gQ (N:=["step","lead"]) (js:=[none,some 1]) rfl rfl rfl (nc K rfl (px K (pv 0) aF)) (λ_ _ _ _ _=>(bu 0 (fX az))) (λ_ _ _ _ _=>gb) (λ_ _ _ _ _=>(pf kO hr (ao (pv 0) (ao (pv 1) ay))))) ay))))),?_⟩;refine⟨_,Z,v,ns,sp,Z,rd,ok.ne,hz,λH1 s1=>?_⟩;obtain⟨a,b,rfl,ha,hb⟩:=tf (RD.mono s1 _ rd);obtain⟨lp,lm⟩:=ok.lead;refine⟨_,Z,.inr ⟨a,_,1,.ref b,Z,Z,ha,Z,b,Z,⟨_,hb⟩,λD H0 nw=>?_⟩⟩;refine FR (K:=K) (xs:=ns.map V.int) (ds:=ns.map λz=>cB (Rat.divInt z (_l.aJ ns))) _ hb nw (by simp) (by simpa using hz) (Ly (λ_=>sH _) _) ?_ ?_
  ·intro i x d H2 Q' ex ed s2 hq
   obtain⟨n,en,rfl⟩:=qC ed;cases DP ex en;refine⟨_,Z,_,Z,n,_,Z,bK,jD (n:=20) bK az,λv3 H3 r3 s3=>?_⟩;exact hq _ _ s3 r3.rd
  ·intro H' ys s2 d2 r2
   refine⟨D,_,Z,.inl ⟨aK.of d2,λt H4 n4=>?_⟩⟩;exact k _ _ (eF (aQ.of n4.at') (aI.mono n4.same _ r2)) (s1.trans (s2.trans n4.same))
theorem oh:fD "tuple" "tuple"=true:=by decide
theorem Qh(d:ah):(∃i,d= .int i/\jP (gz d)=true)\/(jP (gz d)=false/\∀i,d≠ .int i):=by cases d with |int i=>exact .inl ⟨i,Z,by simp[gz];decide⟩ |_=>exact .inr ⟨by simp[gz];decide,λ_ z=>nomatch z⟩
theorem uE(d:ah):(∃ds,d= .tuple ds)\/(fD (gz d) "tuple"=false/\∀ds,d≠ .tuple ds):=by cases d with |tuple ds=>exact .inl ⟨ds,Z⟩ |_=>exact .inr ⟨by simp[gz];decide,λ_ z=>nomatch z⟩
def cC(lo hi:Int):ah->Bool | .int i=>decide (lo<=i)&&decide (i<=hi) |_=>false
theorem Z9{lo hi:Int}{d:ah}(h:∀i,d≠ .int i):cC lo hi d=false:=by cases d<;>first|rfl|exact absurd rfl (h _)
inductive a5K(K:aa)(vs:List V)(H:Hp)(Q:VK):Prop |mk (v:_)(d:_)(lo:_)(hi:_)(h0:vs=[v,.int lo,.int hi])(h1:RD K H v d)(h2:Q (.bl (cC lo hi d)) H)
def lQ(K:aa):Sp:=λvs H Q _=>a5K K vs H Q
abbrev Be:Stmt:=top 15
theorem Jc:bj ["thing","low","high"] ["thing","low","high"] (aP Be):=bw aM
theorem Vh(F:FA K mg "is_whole_within" Be)(B:bE mg)(qM:aG P w K mg au "is_whole" 1 (uM K)):aG P w K mg au "is_whole_within" 2 (lQ K):=by
 refine F.has Jc (λvs H Q E h=>?_) (λ_ _ _ _ _ _=>iR λ_ _ _=>rfl) (λf aE A outer s H vs Q E hr h=>?_)
 ·obtain⟨v,d,lo,hi,rfl,_⟩:=h
  rfl
 ·obtain⟨v,d,lo,hi,rfl,rd,k⟩:=h
  have nd:=Jc.nd;refine⟨_,(aH (aZ (qq (pf qM hr (ao (pv 0) ay)) (sO (UG yF yF (pv 1) (pv 0) (pv 2)))))),?_⟩;refine⟨_,Z,_,_,Z,rd.ty,_,Z,?_⟩;rcases Qh d with⟨i,rfl,e⟩|⟨e,hn⟩
  ·cases rd.int_inv
   rw[e];refine ba ?_;have k:Q (.bl (decide (lo<=i)&&decide (i<=hi))) H:=k;refine⟨_,Z,_,Z,_,_,Z,Z,_,Z,?_⟩;refine fZ (λhc=>?_) (λhc=>?_)
   ·have nO:decide (lo<=i)=true:=hc
    rw[nO,iH]at k;exact⟨_,Z,_,_,Z,Z,k⟩
   ·have nO:decide (lo<=i)=false:=Au.mpr hc
    rw[nO,fV]at k;exact k
  ·rw[e]
   refine aU ?_;rw[Z9 hn]at k;exact k
open _C
theorem Qa{ns ms:List Int}{i:Nat}{a b:Int}(h1:ns[i]? =some a)(h2:ms[i]? =some b):(fu ns ms)[i]? =some (a*(aJ ms:Int)-b*(aJ ns:Int)):=by unfold fu;rw[cZ,(xq (z:=(a,b))).mpr ⟨h1,h2⟩];rfl
def wz(j:Int)(ns ms:List Int):ah:=if aJ (fu ns ms)=0 then .none else cB (Rat.divInt ((j*aJ ns*aJ ms)^2) ((aJ (fu ns ms):Int)^2))
inductive a6N(K:aa)(vs:List V)(H:Hp)(Q:VK):Prop |mk (v:_)(v1:_)(v2:_)(rs:_)(r:_)(f:_)(j:_)(t:_)(ns:_)(ms:_)(gC:_)(gP:_)(h0:vs=[v,v1,v2])(h1:RD K H v (gT rs r f j t))(h2:RD K H v1 (gF ns gC))(h3:RD K H v2 (gF ms gP))(h4:eY ns.length 1000 ns)(h5:eY ns.length 1000 ms)(h6:ns.length<=1000)(h7:1<=j)(h8:j<=50)(h9:∀v' H',RD K H' v' (wz j ns ms)->aA H H'->Q v' H')
def B0(K:aa):Sp:=λvs H Q _=>a6N K vs H Q
inductive a5M(K:aa)(vs:List V)(H:Hp)(Q:VK):Prop |mk (v1:_)(v2:_)(ns:_)(ms:_)(gC:_)(gP:_)(h0:vs=[v1,v2])(h1:RD K H v1 (gF ns gC))(h2:RD K H v2 (gF ms gP))(h3:eY ns.length 1000 ns)(h4:eY ns.length 1000 ms)(h5:ns.length<=1000)(h6:∀v' H',bN K H' v' (Rat.divInt (aJ (fu ns ms)) ((aJ ns:Int)*aJ ms))->aA H H'->Q v' H')
def Ib(K:aa):Sp:=λvs H Q _=>a5M K vs H Q
abbrev Bf:Stmt:=top 62
theorem Jd:bj ["one","other","greatest","way","new_way","p","q","difference"] ["one","other"] (aP Bf):=bw aM
theorem Vj(F:FA K mg "greatest_turn" Bf)(B:bE mg)(Mw:aG P w K mg au "ways_of" 4 (HZ K))(ZY:aG P w K mg au "minus" 3 (uI (·-·) K))(Ew:aG P w K mg au "is_less" 1 (y9 K)):aG P w K mg au "greatest_turn" 5 (Ib K):=by
 refine F.has Jd (λvs H Q E h=>?_) (λ_ _ _ _ _ _=>cJ λ_ _=>rfl) (λf aE A outer s H vs Q E hr h=>?_)
 ·obtain⟨v1,v2,ns,ms,gC,gP,rfl,_⟩:=h
  rfl
 ·obtain⟨v1,v2,ns,ms,gC,gP,rfl,CT,sG,gR,gf,hz,k⟩:=h
  have nd:=Jd.nd;obtain⟨Ym,Yv⟩:=gR.lead;obtain⟨Yl,Yu⟩:=gf.lead;have Mt:ms.length<=1000:=by rw[gf.len];exact hz
  have WG:eY ms.length 1000 ms:=⟨Z,gf.bd,gf.nz⟩;have cb:=FQ (λz hz=>by have:=gR.bd z hz;lia) (λz hz=>by have:=gf.bd z hz;lia) (ns:=ns) (ms:=ms);have L0:(0:Int)<(aJ ns:Int)*aJ ms:=jB aw aw;have Lb:((aJ ns:Int)*aJ ms).natAbs<=1000*1000:=lY aw aw;have a8M:(fu ns ms).length=ns.length:=by simp[fu,gf.len]
  have MT:∀c:Int,c.natAbs<=2000000->Bd 2000 (Rat.divInt c ((aJ ns:Int)*aJ ms)):=λc hc=>(ja (n:=30) aw aw aw).mono az;refine⟨_,(aD (pS 2 nd (dc (ao aF (ao aF ay)))) (aD (iK iG Z (sM K Z false false Z (B.at "zip") (ao (pf Mw hr (ao (pv 0) ay)) (ao (pf Mw hr (ao (pv 1) ay)) ay))) (fm K rfl (n:=2) rfl (bV (bu 3 nd) (bV (bu 4 nd) fk))) (aD (gc (pf ZY hr (ao (pv 4) (ao (pv 3) ay))) (fm K Z (n:=2) Z (bV (bu 5 nd) (bV (bu 6 nd) fk)))) (aD (pS 7 nd (dc (ao (dG (x:="abs") tW Z (B.at "abs") x9 (ao (pv 5) ay)) (ao (pv 6) ay)))) (aH (bD (bS (pf Ew hr (ao (pv 2) (ao (pv 7) ay)))) (aH (pS 2 nd (pv 7))) bG))))) (aH (aZ (pv 2))))),?_⟩;refine⟨bC Z,λg0 H1 n1=>?_⟩;refine⟨_,Z,v1,ns,gC,Z,RD.mono n1.same _ CT,gR,hz,λw1 H2 r2 s2=>?_⟩;have t2:=n1.same.trans s2;refine⟨_,Z,v2,ms,gP,Z,RD.mono t2 _ sG,WG,Mt,λw2 H3 r3 s3=>?_⟩;have t3:=t2.trans s3;obtain⟨c1,xs1,rfl,h1,q1⟩:=(RD.mono s3 _ r2).da;obtain⟨c2,xs2,rfl,h2,q2⟩:=r3.da;have l1:=q1.length;have l2:=q2.length;rw[bR]at l1 l2;refine⟨c1,c2,Z,⟨_,h1⟩,⟨_,h2⟩,?_⟩;refine a2n (K:=K) (b1:=false) (b2:=false) (xs:=xs1) (ys:=xs2) ns.length (by rw[l1,l2,gf.len];lia) (λi O H4=>aA H3 H4/\∃g u1 u2 u3 u4 u5,bN K H4 g (Rat.divInt (oX (fu ns ms) i) ((aJ ns:Int)*aJ ms))/\O=[some v1,some v2,some g,u1,u2,u3,u4,u5]) ?_ (λi O H4 _ h=>⟨h1.go h.1,h2.go h.1⟩) ?_ ?_
  ·refine⟨aA.refl _,.ref g0,none,none,none,none,none,⟨g0,Z,?_⟩,Z⟩
   have e0:Rat.divInt ((oX (fu ns ms) 0:Nat):Int) ((aJ ns:Int)*aJ ms)=0:=by show Rat.divInt 0 _=0;exact Rat.zero_divInt _
   rw[e0];exact aQ.of (s3 _ _ (s2 _ _ n1.at'))
  ·rintro i x y O H4 ex ey ⟨s4,g,u1,u2,u3,u4,u5,rg,rfl⟩ T H5 n5
   obtain⟨d1,e1,rx⟩:=q1.get' i ex;obtain⟨d2,e2,ry⟩:=q2.get' i ey;obtain⟨a,ea,rfl⟩:=qC e1;obtain⟨b,eb,rfl⟩:=qC e2;have qa:=gR.bd a (hJ ea);have qb:=gf.bd b (hJ eb);have cz:=Qa ea eb;have czb:=cb _ (hJ cz);have t5:=s4.trans n5.same;refine⟨T,_,Z,aQ.of n5.at',Z,_,_,Z,_,_,Z,Z,?_⟩;have mZ:∀{H':Hp}{v:V}{r:Rat},RD K H' v (cB r)->bN K H' v r:=λ{H' v r} h=>by obtain⟨p,xs,rfl,h1,h2⟩:=h.da;have:=h2.jb (ns:=[r.num,r.den]);subst this;exact⟨p,Z,h1⟩
   refine⟨_,Z,_,Z,y,x,_,_,Z,mZ (RD.mono t5 _ ry),mZ (RD.mono t5 _ rx),(ja (n:=30) aw aw aw).mono az,(ja (n:=30) aw aw aw).mono az,λv6 H6 r6 s6=>?_⟩;have ed:Rat.divInt b (aJ ms)-Rat.divInt a (aJ ns)=Rat.divInt (b*aJ ns-a*aJ ms) ((aJ ns:Int)*aJ ms):=RQ aw aw;have r6:bN K H6 v6 (Rat.divInt b (aJ ms)-Rat.divInt a (aJ ns)):=r6;rw[ed]at r6;obtain⟨p6,rfl,h6⟩:=r6;refine⟨p6,_,Z,h6,Z,_,_,Z,_,_,Z,Z,?_⟩;refine⟨_,Z,_,Z,_,Z,bC Z,λdd H7 n7=>?_⟩;have Cy:=s6.trans n7.same;have rD:bN K H7 (.ref dd) (Rat.divInt (((a*(aJ ms:Int)-b*(aJ ns:Int)).natAbs:Nat):Int) ((aJ ns:Int)*aJ ms)):=by
    have e:Rat.divInt (((a*(aJ ms:Int)-b*(aJ ns:Int)).natAbs:Nat):Int) ((aJ ns:Int)*aJ ms)=qU (Rat.divInt (b*aJ ns-a*aJ ms) ((aJ ns:Int)*aJ ms)):=by rw[a5f L0,Gi];congr 1;lia
    rw[e];refine⟨dd,Z,?_⟩;rw[a5e,a5g];exact aQ.of n7.at'
   have rG:bN K H7 g _:=(rg.go n5.same).go Cy;have hG:oX (fu ns ms) i<=2000000:=ny λz hz=>cb z (xj hz);refine⟨_,Z,_,Z,g,.ref dd,_,_,Z,rG,rD,MT _ aw,MT _ aw,_,Z,?_⟩;have hs:=a0j cz;refine fZ (λhc=>?_) (λhc=>?_)
   ·have cm:=(NZ L0).mp (mK hc)
    refine⟨_,Z,?_⟩;refine⟨t5.trans Cy,_,_,_,_,_,_,?_,Z⟩;rw[hs,Nat.max_eq_right aw];exact rD
   ·have hge:¬_:=λz=>hc (cu ((NZ L0).mpr z))
    refine⟨t5.trans Cy,_,_,_,_,_,_,?_,Z⟩;rw[hs,Nat.max_eq_left aw];exact rG
  ·rintro O H4 ⟨s4,g,u1,u2,u3,u4,u5,rg,rfl⟩
   refine⟨_,Z,k _ _ ?_ (t3.trans s4)⟩;have:oX (fu ns ms) ns.length=aJ (fu ns ms):=by unfold oX;rw[Am aw]
   rw[this]at rg;exact rg
abbrev Cj:Stmt:=top 59
theorem K8:bj ["machine","one","other","jump","p","q"] ["machine","one","other"] (aP Cj):=bw aM
theorem Wv(F:FA K mg "corner_square" Cj)(B:bE mg)(a0l:aG P w K mg au "greatest_turn" 5 (Ib K))(kO:aG P w K mg au "fraction" 3 (sx K)):aG P w K mg au "corner_square" 6 (B0 K):=by
 refine F.has K8 (λvs H Q E h=>?_) (λ_ _ _ _ _ _=>iR λ_ _ _=>rfl) (λf aE A outer s H vs Q E hr h=>?_)
 ·obtain⟨v,v1,v2,rs,r,f',j,t,ns,ms,gC,gP,rfl,_⟩:=h
  rfl
 ·obtain⟨v,v1,v2,rs,r,f',j,t,ns,ms,gC,gP,rfl,rd,CT,sG,gR,gf,hz,j1,j2,k⟩:=h
  have nd:=K8.nd;obtain⟨Ym,Yv⟩:=gR.lead;obtain⟨Yl,Yu⟩:=gf.lead;have L0:(0:Int)<(aJ ns:Int)*aJ ms:=jB aw aw;have Lb:((aJ ns:Int)*aJ ms).natAbs<=1000*1000:=lY aw aw;have cb:=FQ (λz hz=>by have:=gR.bd z hz;lia) (λz hz=>by have:=gf.bd z hz;lia) (ns:=ns) (ms:=ms);have hH:=ny cb;refine⟨_,(aD (pS 3 nd (px K (pv 0) aF)) (aD (gc (pf a0l hr (ao (pv 1) (ao (pv 2) ay))) (fm K Z (n:=2) Z (bV (bu 4 nd) (bV (bu 5 nd) fk)))) (aD (bD (bT (dR K Z hr.units) (pv 4) aF (bM _)) (aH (aZ hZ)) bG) (aH (aZ (pf kO hr (ao (aW cw (aW cw (aW cw (pv 3) (pv 3)) (pv 5)) (pv 5)) (ao (aW cw (pv 4) (pv 4)) ay)))))))),?_⟩;obtain⟨am,bm,rfl,jr,me⟩:=qD rd;refine⟨_,Z,.inr ⟨am,_,3,.int j,Z,Z,jr,Z,?_⟩⟩;refine⟨_,Z,_,Z,v1,v2,ns,ms,gC,gP,Z,CT,sG,gR,gf,hz,λv3 H3 r3 s3=>?_⟩;obtain⟨G5⟩:Nonempty (Bd 30 (Rat.divInt (aJ (fu ns ms)) ((aJ ns:Int)*aJ ms))):=⟨ja (n:=30) aw aw aw⟩;have en:=rH (Rat.divInt (aJ (fu ns ms)) ((aJ ns:Int)*aJ ms));obtain⟨R,hR⟩:∃R,Rat.divInt (aJ (fu ns ms)) ((aJ ns:Int)*aJ ms)=R:=⟨_,Z⟩;rw[hR]at r3 G5 en;have dp:=den_pos R;have wy:R.num*((aJ ns:Int)*aJ ms)=aJ (fu ns ms)*R.den:=by rw[<-hR]at en;have:=(Rat.divInt_eq_divInt_iff (by rw[hR];lia) aw).mp en;rw[hR]at this;exact this
  have nb:=G5.num;have db:=G5.den;obtain⟨p3,rfl,h3⟩:=r3;refine⟨p3,_,Z,h3,Z,_,_,Z,_,_,Z,Z,?_⟩;refine⟨_,Z,.inl ⟨_,_,Z,Z,_,Z,?_⟩⟩;refine fZ (λhc=>?_) (λhc=>?_)
  ·have h0:R.num=0:=by simpa using hc
   have hl:aJ (fu ns ms)=0:=by
    rw[h0,Int.zero_mul]at wy;rcases Int.mul_eq_zero.mp wy.symm with h|h
    ·lia
    ·lia
   refine k .aY H3 ?_ s3;unfold wz;rw[bo hl];exact oA
  ·have h0:R.num≠0:=by simpa using hc
   have hl:aJ (fu ns ms)≠0:=by
    intro z;rw[z]at wy;have:R.num*((aJ ns:Int)*aJ ms)=0:=by rw[wy];exact Int.zero_mul _
    rcases Int.mul_eq_zero.mp this with h|h
    ·exact h0 h
    ·lia
   have m1:(j*j).natAbs<=50*50:=lY aw aw;have nP:(2:Nat)^64=18446744073709551616:=by decide
   refine⟨_,Z,_,Z,_,_,Z,Z,.of_left (dU aw aw),_,Z,_,_,Z,Z,.of_left (dU aw aw),_,Z,_,_,Z,Z,.of_right (dU aw aw),?_⟩;refine⟨_,Z,_,Z,_,_,Z,Z,.of_left (dU aw aw),?_⟩;refine⟨_,_,Z,Hc h0 h0,?_,λv4 H4 r4 s4=>?_⟩
   ·refine jD (n:=60) ?_ az
    rw[gM];exact oM (n:=30) (m:=30) nb nb
   ·refine k _ _ ?_ (s3.trans s4)
    unfold wz;rw[bf hl];have e:=a4k (j:=j) (p:=R.num) (q:=R.den) (h:=aJ (fu ns ms)) (L:=(aJ ns:Int)*aJ ms) h0 aw wy;rw[e,<-Int.mul_assoc]at r4;exact r4.rd
def mY (d:ah):Bool:=cC 10 200 d
inductive a62(K:aa)(vs:List V)(H:Hp)(Q:VK):Prop |mk (v:_)(d:_)(h0:vs=[v])(h1:RD K H v d)(h2:Q (.bl (mY d)) H)
def uG(K:aa):Sp:=λvs H Q _=>a62 K vs H Q
abbrev C1:Stmt:=top 61
theorem JS:bj ["thing"] ["thing"] (aP C1):=bw aM
theorem Wb(F:FA K mg "is_rate" C1)(B:bE mg)(a1h:GV mg "LEAST_RATE" (.int 10))(a1j:GV mg "GREATEST_RATE" (.int 200))(ir:aG P w K mg au "is_whole_within" 2 (lQ K)):aG P w K mg au "is_rate" 3 (uG K):=by
 refine F.has JS (λvs H Q E h=>?_) (λ_ _ _ _ _ _=>fz λ_=>rfl) (λf aE A outer s H vs Q E hr h=>?_)
 ·obtain⟨v,d,rfl,_⟩:=h
  rfl
 ·obtain⟨v,d,rfl,rd,k⟩:=h
  have nd:=JS.nd;refine⟨_,(aH (aZ (pf ir hr (ao (pv 0) (ao (cy (x:="LEAST_RATE") Z a1h) (ao (cy (x:="GREATEST_RATE") Z a1j) ay)))))),?_⟩;exact⟨_,Z,v,d,10,200,Z,rd,k⟩
inductive a5O(K:aa)(vs:List V)(H:Hp)(Q:VK):Prop |mk (v:_)(ns:_)(sp:_)(r:_)(h0:vs=[v,.int r])(h1:RD K H v (gF ns sp))(h2:1<=sp)(h3:sp<=20)(h4:10<=r)(h5:r<=200)(h6:∀v' H',bN K H' v' (Rat.divInt ((sp*r)^2) 10000)->aA H H'->Q v' H')
def si(K:aa):Sp:=λvs H Q _=>a5O K vs H Q
theorem S7(a b:Int):a*a*b*b=(a*b)^2:=by rw[fU,fU,mO,mQ];ac_rfl
theorem Tx{r:Int}(h1:10<=r)(h2:r<=200):mY (.int r)=true:=by show(decide (10<=r)&&decide (r<=200))=true;rw[cu h1,cu h2];rfl
abbrev yh:Stmt:=top 60
theorem ye:bj ["line","rate","speed"] ["line","rate"] (aP yh):=bw aM
theorem Vl(F:FA K mg "top_square" yh)(B:bE mg)(vK:aG P w K mg au "is_rate" 3 (uG K))(kO:aG P w K mg au "fraction" 3 (sx K)):aG P w K mg au "top_square" 4 (si K):=by
 refine F.has ye (λvs H Q E h=>?_) (λ_ _ _ _ _ _=>cJ λ_ _=>rfl) (λf aE A outer s H vs Q E hr h=>?_)
 ·obtain⟨v,ns,sp,r,rfl,_⟩:=h
  rfl
 ·obtain⟨v,ns,sp,r,rfl,rd,s1,s2,r1,r2,k⟩:=h
  have nd:=ye.nd;refine⟨_,(aD (bD (cE (bS (pf vK hr (ao (pv 1) ay)))) (aH Df) bG) (aD (pS 2 nd (px K (pv 0) aF)) (aH (aZ (pf kO hr (ao (aW cw (aW cw (aW cw (pv 2) (pv 2)) (pv 1)) (pv 1)) (ao (aW cw aF aF) ay))))))),?_⟩;refine⟨_,Z,_,.int r,Z,cQ r,_,Z,?_⟩;rw[Tx r1 r2];refine aU ?_;obtain⟨a,b,rfl,ha,hb⟩:=tf rd;refine⟨_,Z,.inr ⟨a,_,2,.int sp,Z,Z,ha,Z,?_⟩⟩;have m1:(sp*sp).natAbs<=20*20:=by rw[gM];exact rK aw aw
  refine⟨_,Z,_,Z,_,_,Z,Z,.of_left (dU aw aw),_,Z,_,_,Z,Z,.of_left (dU aw aw),_,Z,_,_,Z,Z,.of_right (dU aw aw),?_⟩;refine⟨_,_,Z,Z,.of_left (dU az az),?_⟩;refine⟨_,_,Z,az,jD (n:=20) az az,λv' H' r' s'=>k v' H' ?_ s'⟩;rw[S7]at r';exact r'
open _P
open _O (topR cornO mnO betR atO ownF leadF ownL OkI OkIs)
theorem Sd(n:Nat)(h:n<=1000):n<sizeLine:=GO h az
theorem mZ{H:Hp}{v:V}{r:Rat}(h:RD K H v (cB r)):bN K H v r:=by obtain⟨p,xs,rfl,h1,h2⟩:=h.da;have:=h2.jb (ns:=[r.num,r.den]);subst this;exact⟨p,Z,h1⟩
theorem eY.up{ax:Nat}{ns:List Int}(h:eY ax 100 ns):eY ns.length 1000 ns:=⟨Z,λz hz=>by have:=h.bd z hz;lia,h.nz⟩
theorem fc.yG{ax:Nat}{ds:List ah}{os:List Itm}(h:fc ax ds os):OkIs os:=λi ns sp e=>by unfold atO at e;cases ho:os[i]? with |none=>rw[ho]at e;cases e |some o=>rw[ho]at e;have e':o=some (ns,sp):=e;subst e';obtain⟨a,b,c⟩:=h.ok i ns sp ho;exact⟨a.bd,b,c⟩
theorem sS{H:Hp}{a:Addr}(h:aQ K H a [.int 0,.int 1]):bN K H (.ref a) 0:=⟨a,Z,h⟩
theorem a4m(j:Int)(ns ms:List Int):wz j ns ms=match cornO j ns ms with|none=>.none|some c=>cB c:=by unfold wz cornO;split<;>rfl
inductive a6P(K:aa)(vs:List V)(H:Hp)(Q:VK):Prop |mk (m:_)(v1:_)(v2:_)(rate:_)(rs:_)(r:_)(f:_)(j:_)(t:_)(d1:_)(d2:_)(o1:_)(o2:_)(ax:_)(h0:vs=[m,v1,v2,.int rate])(h1:RD K H m (gT rs r f j t))(h2:1<=j)(h3:j<=50)(h4:RD K H v1 d1)(h5:RD K H v2 d2)(h6:itR d1 o1)(h7:itR d2 o2)(h8:(∀ns sp,o1=some (ns,sp)->eY ax 100 ns/\1<=sp/\sp<=20))(h9:(∀ns sp,o2=some (ns,sp)->eY ax 100 ns/\1<=sp/\sp<=20))(h10:ax<=100)(h11:10<=rate)(zv:rate<=200)(h13:∀v H',bN K H' v (betR j rate o1 o2)->aA H H'->Q v H')
def yb(K:aa):Sp:=λvs H Q _=>a6P K vs H Q
abbrev Co:Stmt:=top 65
theorem Kb:bj ["machine","one","other","rate","squares","corner"] ["machine","one","other","rate"] (aP Co):=bw aM
theorem Wy(F:FA K mg "bound_between" Co)(B:bE mg)(gN:GT K mg "NOUGHT" [.int 0,.int 1])(jS:aG P w K mg au "is_line" 1 (ou K))(m6:aG P w K mg au "top_square" 4 (si K))(a0B:aG P w K mg au "corner_square" 6 (B0 K))(tH:aG P w K mg au "least" 2 (mW K)):aG P w K mg au "bound_between" 7 (yb K):=by
 obtain⟨aN,jt,lP⟩:=gN;refine F.has Kb (λvs H Q E h=>?_) (λ_ _ _ _ _ _=>Ge λ_ _ _ _=>rfl) (λf aE A outer s H vs Q E hr h=>?_)
 ·obtain⟨m,v1,v2,rate,rs,r,f,j,t,d1,d2,o1,o2,ax,rfl,_⟩:=h
  rfl
 ·obtain⟨m,v1,v2,rate,rs,r,f,j,t,d1,d2,o1,o2,ax,rfl,rm,j1,j2,r1,r2,i1,i2,k1,k2,hax,dy,dM,k⟩:=h
  have nd:=Kb.nd;refine⟨_,(aD (bD (PW.pt (kr (cE (bS (pf jS hr (ao (pv 1) ay)))) (kl (cE (bS (pf jS hr (ao (pv 2) ay))))))) (aH (aZ (cy (x:="NOUGHT") Z jt))) bG) (aD (pS 4 nd (dF (ao (pf m6 hr (ao (pv 1) (ao (pv 3) ay))) (ao (pf m6 hr (ao (pv 2) (ao (pv 3) ay))) ay)))) (aD (pS 5 nd (pf a0B hr (ao (pv 0) (ao (pv 1) (ao (pv 2) ay))))) (aD (jn (bD (bT Dm (pv 5) hZ (bM _)) (aH (gE (oE K Z (pv 4) (ao (pv 5) ay)))) bG)) (aH (aZ (pf tH hr (ao (pv 4) ay)))))))),?_⟩;refine⟨_,Z,v1,d1,o1,Z,r1,i1,_,Z,?_⟩;cases o1 with |none=>refine ba (ba ?_);have:=k _ H (sS (lP H)) (aA.refl _);exact this |some q1=>obtain⟨ns,sp⟩:=q1;refine aU ?_;refine⟨_,Z,v2,d2,o2,Z,r2,i2,_,Z,?_⟩;cases o2 with |none=>refine ba ?_;exact k _ H (sS (lP H)) (aA.refl _) |some q2=>obtain⟨ms,sq⟩:=q2;refine aU ?_;have e1:=nG i1;have e2:=nG i2;subst e1 e2;obtain⟨gR,a1,a2⟩:=k1 ns sp rfl;obtain⟨gf,b1,b2⟩:=k2 ms sq rfl;refine⟨_,Z,_,Z,v1,ns,sp,rate,Z,r1,a1,a2,dy,dM,λt1 H1 SW s1=>?_⟩;refine⟨_,Z,_,Z,v2,ms,sq,rate,Z,RD.mono s1 _ r2,b1,b2,dy,dM,λt2 H2 SV s2=>?_⟩;refine⟨bC Z,λl H3 n3=>?_⟩;have t3:=s1.trans (s2.trans n3.same);have oG:eY ns.length 1000 ms:=⟨by rw[gR.len,gf.len],gf.up.bd,gf.nz⟩;refine⟨_,Z,_,Z,_,Z,m,v1,v2,rs,r,f,j,t,ns,ms,sp,sq,Z,RD.mono t3 _ rm,RD.mono t3 _ r1,RD.mono t3 _ r2,gR.up,oG,by rw[gR.len];lia,j1,j2,λc H4 rc s4=>?_⟩;have T1:Bd 2000 (topR rate sp):=(_O.xR a1 a2 dy dM).mono az;have T2:Bd 2000 (topR rate sq):=(_O.xR b1 b2 dy dM).mono az;have R1:bN K H4 t1 (topR rate sp):=((SW.go s2).go n3.same).go s4;have R2:bN K H4 t2 (topR rate sq):=(SV.go n3.same).go s4;have t4:=t3.trans s4;rw[a4m]at rc;cases hc:cornO j ns ms with
   |none=>
    rw[hc]at rc;cases rc.yL;refine⟨λO H5=>H5=H4/\O=[some m,some v1,some v2,some (.int rate),some (.ref l),some .aY],?_,?_⟩
    ·refine⟨_,Z,Z,_,Z,aU ?_⟩
     exact⟨Z,Z⟩
    rintro O H5 ⟨rfl,rfl⟩;refine⟨_,Z,l,[t1,t2],[topR rate sp,topR rate sq],Z,aK.of (s4 _ _ n3.at'),⟨R1,T1,R2,T2,trivial⟩,by simp,λi v q e1 e2 hq=>?_⟩;have vD:betR j rate (some (ns,sp)) (some (ms,sq))=q:=by
     show mnO (mn _ _) (cornO j ns ms)=q;rw[hc];refine vw ?_ (hq _ (by simp)) (hq _ (by simp))
     match i,e2 with |0,e2=>cases e2;exact .inl rfl |1,e2=>cases e2;exact .inr rfl
    refine k v _ ?_ t4;rw[vD]
    match i,e1,e2 with |0,e1,e2=>cases e1;cases e2;exact R1 |1,e1,e2=>cases e1;cases e2;exact R2
   |some cq=>
    rw[hc]at rc;have Rc:bN K H4 c cq:=mZ rc;have Tc:Bd 2000 cq:=(_O.Oa j1 j2 gR.bd gf.bd hc).mono az;have wq:=s4 _ _ n3.at';have tU:g9 H4 (_L.upd H4 l (.lst ([t1,t2]++[c]))):=.lK wq;refine⟨λO H5=>H5=_L.upd H4 l (.lst ([t1,t2]++[c]))/\O=[some m,some v1,some v2,some (.int rate),some (.ref l),some c],?_,?_⟩
    ·obtain⟨pc,rfl,_⟩:=id Rc
     refine⟨_,Z,Z,_,Z,ba ?_⟩;refine⟨_,Z,.inl ⟨Z,_,aK.of wq⟩,_,Z,l,[t1,t2],_,Z,Z,wq,Sd _ (GQ Z),?_⟩;exact⟨Z,Z⟩
    rintro O H5 ⟨rfl,rfl⟩;have up:∀{v:V}{q:Rat},bN K H4 v q->bN K (_L.upd H4 l (.lst ([t1,t2]++[c]))) v q:=λ{v q} h=>mZ (RD.t tU _ (sH q) h.rd);refine⟨_,Z,l,[t1,t2,c],[topR rate sp,topR rate sq,cq],Z,aK.of bp,⟨up R1,T1,up R2,T2,up Rc,Tc,trivial⟩,by simp,λi v q e1 e2 hq=>?_⟩;have vD:betR j rate (some (ns,sp)) (some (ms,sq))=q:=by
     show mnO (mn _ _) (cornO j ns ms)=q;rw[hc];show mn (mn _ _) cq=q;have h1:=hq _ (show topR rate sp∈[topR rate sp,topR rate sq,cq] by simp);have h2:=hq _ (show topR rate sq∈[topR rate sp,topR rate sq,cq] by simp);have h3:=hq _ (show cq∈[topR rate sp,topR rate sq,cq] by simp);refine vw ?_ (m4 h1 h2) h3
     match i,e2 with |0,e2=>cases e2;exact .inl (vw (.inl rfl) h1 h2).symm |1,e2=>cases e2;exact .inl (vw (.inr rfl) h1 h2).symm |2,e2=>cases e2;exact .inr rfl
    have sU:aA H (_L.upd H4 l (.lst ([t1,t2]++[c]))):=λb o e=>by have h0:H2 l=none:=n3.no;have e2:=s2 b o (s1 b o e);rw[aL (eH e2 h0)];exact t4 b o e
    refine k v _ ?_ sU;rw[vD]
    match i,e1,e2 with |0,e1,e2=>cases e1;cases e2;exact up R1 |1,e1,e2=>cases e1;cases e2;exact up R2 |2,e1,e2=>cases e1;cases e2;exact up Rc
theorem sT(qs:List Rat):bX (qs.map cB)=true:=Ly sH qs
theorem aI.Sl{H:Hp}{l:Addr}{ys:List V}{y:V}{ds:List ah}{d:ah}{i:Nat}(dl:H l=some (.lst ys))(r:aI K H ys ds)(rd:RD K H y d)(n1:bX ds=true)(n2:dP d=true):aI K (_L.upd H l (.lst (ys.set i y))) (ys.set i y) (ds.set i d):=by have t:g9 H (_L.upd H l (.lst (ys.set i y))):=.lK dl;have r':=aI.t t _ n1 r;have Ky:=RD.t t _ n2 rd;clear r rd dl t;generalize _L.upd H l (.lst (ys.set i y))=H' at r' Ky;induction ds generalizing ys i with |nil=>cases r'.nil_inv;exact bW |cons d0 ds ih=>
 obtain⟨y0,yr,rfl,h1,h2⟩:=r'.cons_inv;have Xt:bX ds=true:=by rw[bX,d6]at n1;exact n1.2
 cases i with |zero=>exact bJ Ky h2 |succ i=>exact bJ h1 (ih Xt h2)
theorem FP(xs:List V):gG xs (some 1) none=xs.drop 1:=by unfold gG;have e:_H.bI xs.length 0 (some 1)=min 1 xs.length:=_H.Ki _ _ 1;rw[e,_H.Kh];cases xs with |nil=>rfl |cons x xs=>
 have e2:min 1 (x::xs).length=1:=by simp
 rw[e2,Am (by simp)]
inductive a6g(K:aa)(vs:List V)(H:Hp)(Q:VK):Prop |mk (m:_)(iv:_)(rate:_)(rs:_)(r:_)(f:_)(j:_)(t:_)(ds:_)(os:_)(h0:vs=[m,iv,.int rate])(h1:RD K H m (gT rs r f j t))(h2:lF rs r f j t)(h3:RD K H iv (.tuple ds))(h4:fc rs.length ds os)(h5:ds.length<=100)(h6:10<=rate)(h7:rate<=200)(h8:∀l ys H',H l=none->H' l=some (.lst ys)->aI K H' ys ((ownL j rate os).map cB)->aA H H'->Q (.ref l) H')
def AU(K:aa):Sp:=λvs H Q _=>a6g K vs H Q
abbrev yi:Stmt:=top 64
theorem yf:bj ["machine","items","rate","between"] ["machine","items","rate"] (aP yi):=bw aM
theorem VP(F:FA K mg "own_bounds" yi)(B:bE mg)(gN:GT K mg "NOUGHT" [.int 0,.int 1])(ED:aG P w K mg au "bound_between" 7 (yb K)):aG P w K mg au "own_bounds" 8 (AU K):=by
 obtain⟨aN,jt,lP⟩:=gN;refine F.has yf (λvs H Q E h=>?_) (λ_ _ _ _ _ _=>iR λ_ _ _=>rfl) (λf aE A outer s H vs Q E hr h=>?_)
 ·obtain⟨m,iv,rate,rs,r,f,j,t,ds,os,rfl,_⟩:=h
  rfl
 ·obtain⟨m,iv,rate,rs,r,f,j,t,ds,os,rfl,rm,aO,ri,row,hz,dy,dM,k⟩:=h
  have nd:=yf.nd;have rN:∀H',RD K H' (.ref aN) (cB 0):=λH'=>(sS (lP H')).rd;refine⟨_,(aD (bD (cE (uZ K Z (pv 1))) (aH (aZ (dF (ao (cy (x:="NOUGHT") Z jt) ay)))) bG) (aD (KO (i0:=3) nd Z (Or.inl Z) (N:=["one","other","machine","rate"]) (js:=[none,none,some 0,some 2]) Z Z Z (sM K Z false false Z (B.at "zip") (ao (pv 1) (ao (qo (yc K rfl) (pv 1) (qi aF) qj) ay))) (λ_ _ _ _ _=>(fm K rfl (n:=2) rfl (bV (bu 0 (show List.Nodup (["one","other","machine","rate"]:List Str) by decide+kernel)) (bV (bu 1 (show List.Nodup (["one","other","machine","rate"]:List Str) by decide+kernel)) fk)))) (λ_ _ _ _ _=>gb) (λ_ _ _ _ _=>(pf ED hr (ao (pv 2) (ao (pv 0) (ao (pv 1) (ao (pv 3) ay))))))) (aH (aZ (aW (qT K Z) (aW (qT K Z) (dF (ao (cy (x:="NOUGHT") Z jt) ay)) (pv 3)) (dF (ao (cy (x:="NOUGHT") Z jt) ay))))))),?_⟩;obtain⟨ia,xs,rfl,hi,gh⟩:=ri.da;have lx:=gh.length;have ll:=row.len;refine⟨_,Z,_,.inr (.inl ⟨_,hi,Z⟩),?_⟩;cases hd:xs with
  |nil=>
   subst hd;refine ba ?_;refine⟨bC Z,λl H1 n1=>?_⟩;refine k l [.ref aN] H1 n1.no n1.at' ?_ n1.same;have e:os=[]:=by
    have:os.length=0:=by rw[<-ll,<-lx];rfl
    exact GX.mp this
   rw[e];exact bJ (rN H1) bW |cons x0 xr=>
   refine aU ?_;have dA:os≠[]:=by intro e;rw[e]at ll;rw[hd]at lx;simp at ll lx;rw[ll]at lx;cases lx
   have Eb:0<xs.length:=by rw[hd];simp
   refine⟨_,Z,_,Z,1,Z,ia,xs,Z,.inr ⟨hi,?_,λtl H1 n1=>?_⟩⟩
   ·rintro⟨h1,_⟩
    have e:_H.bI xs.length 0 (some 1)=min 1 xs.length:=_H.Ki _ _ 1;rw[e]at h1
    lia
   refine⟨ia,tl,Z,⟨_,hi.go n1.same⟩,⟨_,aQ.of n1.at'⟩,λD H2 n2=>?_⟩;have et:=n1.at';rw[FP]at et;have vg:∀(i:Nat)(o:Itm),os[i]? =some o->∀(ns:List Int)(sp:Int),o=some (ns,sp)->eY rs.length 100 ns/\1<=sp/\sp<=20:=λi o e ns sp e'=>row.ok i ns sp (by rw[e,e']);have lr:=aO.len;refine zP (K:=K) (b1:=false) (b2:=false) (xs:=xs) (ys:=xs.drop 1) (ds:=((List.range (os.length-1)).map (λi=>ownF j rate os (i+1))).map cB) _ Z (hi.go n1.same) (aQ.of et) n2 (by rw[xo];simp;lia) (by simp;lia) (sT _) ?_ ?_
   ·intro i x y d H3 Q' ex ey ed s3 hq
    have fE:=n1.same.trans s3;rw[List.getElem?_drop]at ey;obtain⟨d1,e1,r1⟩:=gh.get' i ex;obtain⟨d2,e2,r2⟩:=gh.get' (1+i) ey;obtain⟨o1,wj,i1⟩:=row.get e1;obtain⟨o2,qP,i2⟩:=row.get e2;have hi2:1+i<os.length:=(eU.mp qP).1;have ju:d=cB (betR j rate o1 o2):=by rw[cZ,cZ,cH (by simp;lia),xp]at ed;have:=(dW ed).symm;rw[this];show cB (betR j rate (atO os i) (atO os (i+1)))=_;rw[_O.tX wj,_O.tX (show os[i+1]? =some o2 by rw[Nat.add_comm];exact qP)]
    subst ju;refine⟨_,Z,_,Z,_,Z,_,Z,m,x,y,rate,rs,r,f,j,t,d1,d2,o1,o2,rs.length,Z,RD.mono fE _ rm,aO.j1.1,aO.j1.2,RD.mono fE _ r1,RD.mono fE _ r2,i1,i2,vg _ _ wj,vg _ _ qP,aw,dy,dM,λv H4 rv s4=>?_⟩;exact hq _ _ s4 rv.rd
   ·intro H3 zs s3 d3 r3
    have lz:=r3.length;simp at lz;refine⟨bC Z,λl1 H4 n4=>?_⟩;refine⟨_,Z,l1,D,_,zs,Z,Z,aK.of n4.at',aK.of (n4.same _ _ d3),uP _ (by simp;lia),λl2 H5 n5=>?_⟩;refine⟨bC Z,λl3 H6 n6=>?_⟩;refine⟨l2,l3,_,_,Z,Z,aK.of (n6.same _ _ n5.at'),aK.of n6.at',uP _ (by simp;lia),λl H7 n7=>?_⟩;have uT:aA H H6:=n1.same.trans (s3.trans (n4.same.trans (n5.same.trans n6.same)));have nl:H l=none:=by cases e:H l with |none=>rfl |some o=>have:=uT _ _ e;rw[n7.no]at this;cases this
    refine k l _ H7 nl n7.at' ?_ (uT.trans n7.same);rw[_O.L9 j rate dA,lH,lH];exact((bJ (rN H7) bW).append (aI.mono (n4.same.trans (n5.same.trans (n6.same.trans n7.same))) _ r3)).append (bJ (rN H7) bW)
inductive a6e(K:aa)(vs:List V)(H:Hp)(Q:VK):Prop |mk (v:_)(r:_)(z:_)(h0:vs=[v,.int z])(h1:bN K H v r)(h2:Bd 2000 r)(h3:z.natAbs<2^24)(h4:∀v H',bN K H' v (r+(z:Rat))->aA H H'->Q v H')
def y4(K:aa):Sp:=λvs H Q _=>a6e K vs H Q
theorem Qe{r:Rat}{z:Int}(m:r+(z:Rat)=Rat.divInt (r.num*(1:Nat)+z*r.den) (r.den*(1:Nat))):r.num+z*r.den=(r+(z:Rat)).num/\(r.den:Int)=(r+(z:Rat)).den:=by
 have c:(r.num+z*r.den).natAbs.Coprime r.den:=(Int.gcd_add_mul_right_left (r.den:Int) r.num z).trans r.reduced;have e:r+(z:Rat)=⟨r.num+z*r.den,r.den,r.den_nz,c⟩:=by rw[m,Rat.mk_eq_divInt,Int.natCast_one,xy,xy]
 rw[e];exact⟨Z,Z⟩
abbrev BH:Stmt:=top 43
theorem Jy:bj ["one","more","p","q"] ["one","more"] (aP BH):=bw aM
theorem VM(F:FA K mg "plus_whole" BH)(B:bE mg):aG P w K mg au "plus_whole" 4 (y4 K):=by
 refine F.has Jy (λvs H Q E h=>?_) (λ_ _ _ _ _ _=>cJ λ_ _=>rfl) (λf aE A outer s H vs Q E hr h=>?_)
 ·obtain⟨v,r,z,rfl,_⟩:=h
  rfl
 ·obtain⟨v,r,z,rfl,⟨p,rfl,hp⟩,br,hz,k⟩:=h
  have nd:=Jy.nd;refine⟨_,(aD (gc (pv 0) (fm K Z (n:=2) Z (bV (bu 2 nd) (bV (bu 3 nd) fk)))) (aH (aZ (dc (ao (aW fJ (pv 2) (aW cw (pv 1) (pv 3))) (ao (pv 3) ay)))))),?_⟩;refine⟨_,Z,_,_,Z,hp,Z,_,_,Z,_,_,Z,Z,?_⟩;have bz:Bd 24 (z:Rat):=⟨hz,by show 1<2^24;decide⟩;obtain⟨e1,e2⟩:=Qe (add_div r z);refine⟨_,Z,_,Z,_,Z,_,_,Z,Z,mM (bz.mono az).wn.bits br.wd.bits,_,_,Z,Z,_,Z,(by show 2<=sizeLine;decide),λt H' n=>k _ _ ⟨t,Z,aQ.of ?_⟩ n.same⟩;rw[<-e1,<-e2];exact n.at'
theorem Md{os:List Itm}{i:Nat}{ns:List Int}{sp:Int}(h:os[i]? =some (some (ns,sp))):leadF os i=some (aJ ns):=by unfold leadF;rw[_O.tX h];rfl
theorem YG{os:List Itm}{i:Nat}(h:os[i]? =some none):leadF os i=none:=by unfold leadF;rw[_O.tX h];rfl
theorem YH{os:List Itm}(h:OkIs os){i m:Nat}(e:leadF os i=some m):m<=100:=by unfold leadF at e;cases ho:atO os i with |none=>rw[ho]at e;cases e |some q=>rw[ho]at e;cases e;obtain⟨a,_,_⟩:=h i q.1 q.2 ho;exact ny λz hz=>by have:=a z hz;lia
theorem Qw{r:Int}{m:Nat}(h1:1<=r)(h2:r<=50)(h3:m<=100):(2*r*(m:Int)).natAbs<2^24:=by
 have gX:(2:Nat)^24=16777216:=by decide
 have:=lY (a:=2*r) (b:=(m:Int)) (m:=100) (n:=100) aw aw;rw[gX];lia
abbrev Cb:Stmt:=top 68
theorem K1:bj ["machine","items","squares","fall","kept","i"] ["machine","items","squares"] (aP Cb):=bw aM
theorem XE{x y z q:Rat}(h:q=x\/q=y\/q=z)(h1:q<=x)(h2:q<=y)(h3:q<=z):mn (mn x y) z=q:=by
 refine GH ?_ (m4 (m4 h1 h2) h3);rcases h with h|h|h
 ·rw[h];exact fg (fY _ _) (fY _ _)
 ·rw[h];exact fg (fY _ _) (kF _ _)
 ·rw[h];exact kF _ _
theorem vy{n:Nat}{ns:List Int}(h:eY n 100 ns):aJ ns<=100:=by have:=h.lead;lia
open _W
def eh(pl:List Int):ah:=.tuple (pl.map PyData.int)
theorem ky(pl:List Int):dP (eh pl)=true:=by rw[eh,dP];exact nk pl
theorem yu{H:Hp}{v:V}{pl:List Int}(h:RD K H v (eh pl)):∃a,v= .ref a/\aQ K H a (pl.map V.int):=by obtain⟨a,xs,rfl,h1,h2⟩:=h.da;rw[h2.jb]at h1;exact⟨a,Z,h1⟩
theorem KQ{H:Hp}{a:Addr}{pl:List Int}(h:aQ K H a (pl.map V.int)):RD K H (.ref a) (eh pl):=eF h (oz pl)
def fw(pl:List Int):Itm->List Int |none=>pl |some (ns,_)=>jx pl ns
inductive a6d(K:aa)(vs:List V)(H:Hp)(Q:VK):Prop |mk (p:_)(m:_)(rs:_)(r:_)(f:_)(j:_)(t:_)(h0:vs=[.ref p,m])(h1:iD H p)(h2:RD K H m (gT rs r f j t))(h3:lF rs r f j t)(h4:∀v pl H',RD K H' v (eh pl)->jV rs pl->cj p H H'->Q v H')
def Iv(K:aa):Sp:=λvs H Q _=>a6d K vs H Q
abbrev BG:Stmt:=top 128
theorem Jx:bj ["_law_bag_here","_law_machine_here"] ["_law_bag_here","_law_machine_here"] (aP BG):=bw aM
theorem VN(F:FA K mg "_law_place" BG)(B:bE mg)(kW:aG P w K mg au "_law_take" 1 sj):aG P w K mg au "_law_place" 2 (Iv K):=by
 refine F.has Jx (λvs H Q E h=>?_) (λ_ _ _ _ _ _=>cJ λ_ _=>rfl) (λf aE A outer s H vs Q E hr h=>?_)
 ·obtain⟨p,m,rs,r,f,j,t,rfl,_⟩:=h
  rfl
 ·obtain⟨p,m,rs,r,f,j,t,rfl,bg,rm,Lk,k⟩:=h
  have nd:=Jx.nd;refine⟨_,(aH (aZ (jI (x:="tuple") (mS K Z) Z (B.at "tuple") jA (ao (gQ (N:=["_law_rail","_law_bag_here"]) (js:=[none,some 0]) rfl rfl rfl (nc K rfl (px K (pv 1) aF)) (λ_ _ _ _ _=>(bu 0 (fX az))) (λ_ _ _ _ _=>gb) (λ_ _ _ _ _=>(pf kW hr (ao (pv 1) (ao (aW fJ (pv 0) aF) ay))))) ay)))),?_⟩;obtain⟨ma,mb,rfl,jr,me⟩:=qD rm;have lr:=Lk.len;refine⟨_,Z,.inr ⟨ma,_,0,.ref mb,Z,Z,jr,eK (gO 0) Z,mb,Z,⟨_,me⟩,λD H1 n1=>?_⟩⟩;refine a4o (K:=K) (J:=pM K mb) (p:=p) (H:=H) rs.length _ n1 bg aw (λi=>.int (rs.getD i 0)) (λi H2 hi b2=>?_) (λH2 b2=>?_) (λi d=>∃z r,d= .int z/\rs[i]? =some r/\0<=z/\z<=r) ?_ ?_
  ·have MH:=me.t (cj.t bg b2)
   have e:(rs.map V.int)[i]? =some (.int (rs.getD i 0)):=by rw[cZ,PN,cH hi];rfl
   exact⟨⟨_,_,MH,e⟩,λy H3 ⟨e3,y3⟩=>⟨e3,by have:=y3 _ MH;rw[e]at this;exact(dW this).symm⟩⟩
  ·exact⟨_,me.t (cj.t bg b2),by rw[bR];exact bA _⟩
  ·intro i H2 Q' hi b2 hq
   have er:rs[i]? =some (rs.getD i 0):=by rw[PN,cH hi];rfl
   obtain⟨r0,r1⟩:=Lk.rl _ (hJ er);refine⟨_,Z,_,Z,_,_,Z,Z,p,_,Z,b2.eJ,aw,aw,λz H3 z0 z1 b3=>?_⟩;exact hq _ _ _ ⟨z,_,Z,er,z0,aw⟩ Z (cQ z) b3
  ·intro H2 ys ds b2 d2 r2 l2 nl pd
   have kQ:∃pl:List Int,ds=pl.map PyData.int/\jV rs pl:=by
    have key:∀(ds:List ah),(∀d∈ds,∃z:Int,d= .int z)->∃pl:List Int,ds=pl.map PyData.int:=by intro ds;induction ds with |nil=>exact λ_=>⟨[],Z⟩ |cons d ds ih=>intro h;obtain⟨z,rfl⟩:=h d (.head _);obtain⟨pl,rfl⟩:=ih λx hx=>h x (.tail _ hx);exact⟨z::pl,Z⟩
    obtain⟨pl,rfl⟩:=key ds λd hd=>by obtain⟨i,hi⟩:=xk.mp hd;obtain⟨z,_,e,_⟩:=pd i d hi;exact⟨z,e⟩
    refine⟨pl,Z,by simpa using l2,λi x r e1 e2=>?_⟩;obtain⟨z,r',e,er,h0,h1⟩:=pd i (.int x) (by rw[cZ,e1];rfl);cases e;rw[e2]at er;cases er;exact⟨h0,h1⟩
   obtain⟨pl,rfl,on⟩:=kQ;refine⟨D,_,Z,.inl ⟨aK.of d2,λt H3 n3=>?_⟩⟩;have et:=n3.at';rw[r2.jb]at et;exact k (.ref t) pl H3 (KQ (aQ.of et)) on (b2.trans (.kD b2.eJ n3.same))
def OY(z:Str):Prop:=∀c∈z.cps.toList,c<0x110000
theorem Va{n:Nat}{z:Str}(h:cD n (.str z)):OY z:=λc hc=>by have q:PyData.strOk z=true:=h.lay;unfold PyData.strOk at q;rw[a7Q]at q;exact mK (q c (by simpa using hc))
theorem Vb{z:Str}(h:z.cps.all (·<0x110000)=true):OY z:=Va (n:=0) ⟨h,fh _⟩
def Yh(c:Nat):Bool:=decide (97<=c)&&decide (c<=122)
def DH(s:Str):Bool:=(decide (1<=s.length)&&decide (s.length<=8))&&s.cps.toList.all Yh
def UT(w s:Str):Prop:=(w="tool"/\(s="up"\/s="down"))\/(w="mark"/\DH s=true)
def qY(d:ah):Prop:=(∃n,d= .tuple [.str "wait",.int n]/\1<=n/\n<=1000)\/∃w s,d= .tuple [.str w,.str s]/\(w="tool"\/w="mark")/\cD 0 (.str s)/\UT w s
theorem qY.it{d:ah}(h:qY d):itR d none:=by
 rcases h with⟨n,rfl,_⟩|⟨w,s,rfl,hw|hw,_⟩
 ·exact .inr ⟨_,_,Z,.inl Z,Z,Z⟩
 ·exact .inr ⟨_,_,Z,.inr (.inl hw),Z,Z⟩
 ·exact .inr ⟨_,_,Z,.inr (.inr hw),Z,Z⟩
def RowW(ds:List ah)(os:List Itm):Prop:=∀(i:Nat)(d:ah),os[i]? =some none->ds[i]? =some d->qY d
theorem RowW.snoc{ds:List ah}{os:List Itm}{d:ah}{o:Itm}(h:RowW ds os)(hl:ds.length=os.length)(hd:o=none->qY d):RowW (ds++[d]) (os++[o]):=by
 intro i x e1 e2;rcases pY e1 with h1|⟨h1,h1'⟩
 ·rcases pY e2 with h2|⟨h2,_⟩
  ·exact h i x h1 h2
  ·have:=(eU.mp h1).1;lia
 ·rcases pY e2 with h2|⟨_,zu⟩
  ·have:=(eU.mp h2).1;lia
  ·subst zu;exact hd h1'.symm
theorem Qj{j:Int}(h:j.natAbs<2^64):Wd j:=Nat.lt_trans h aM
inductive a6m(vs:List V)(H:Hp)(Q:VK):Prop |mk (p:Int)(q:Int)(h0:vs=[.int p,.int q])(h1:0<q)(h2:q<=10^6)(h3:p.natAbs<=10^9)(h4:Q (.int (qz p q)) H)
def AW:Sp:=λvs H Q _=>a6m vs H Q
abbrev BN:Stmt:=top 55
theorem JE:bj ["p","q","size"] ["p","q"] (aP BN):=bw aM
theorem VW(F:FA K mg "nearest" BN)(B:bE mg):aG P w K mg au "nearest" 1 AW:=by
 refine F.has JE (λvs H Q E h=>?_) (λ_ _ _ _ _ _=>cJ λ_ _=>rfl) (λf aE A outer s H vs Q E hr h=>?_)
 ·obtain⟨p,q,rfl,_⟩:=h
  rfl
 ·obtain⟨p,q,rfl,q0,q1,p1,k⟩:=h
  have nd:=JE.nd;refine⟨_,(aD (pS 2 nd (aW vd (aW fJ (aW cw aF (dG (x:="abs") tW Z (B.at "abs") x9 (ao (pv 0) ay))) (pv 1)) (aW cw aF (pv 1)))) (aH (aZ (fW (bT Dp (pv 0) aF (bM _)) (pv 2) (lU lN (pv 2)))))),?_⟩;refine⟨_,Z,p,Z,_,_,Z,Z,.of_left (dU az az),_,Z,_,_,Z,Z,_,Z,_,_,Z,Z,.of_left (dU az az),_,_,Z,Z,⟨aw,Qj aw⟩,?_⟩;have e:(2*(if p<0 then-p else p)+q)/(2*q)=yd p q:=by unfold yd;rw[<-Gi];rfl
  refine⟨_,Z,_,_,Z,Z,_,Z,?_⟩;unfold qz at k;rw[<-e]at k;refine fZ (λhc=>?_) (λhc=>?_)
  ·have hp:p>=0:=mK hc
   rw[bo hp]at k;exact⟨_,Z,k⟩
  ·have hp:¬p>=0:=λz=>hc (cu z)
   rw[bf hp]at k;exact⟨_,Z,_,Z,k⟩
def HS(ns:List Int)(k:Int):ah:=.tuple ((ns.map λz=>qz (k*z) (aJ ns)).map PyData.int)
theorem Uj{k z:Int}(h:k.natAbs<=10^6)(g:(z.natAbs:Int)<=1000):(k*z).natAbs<=10^9:=by rw[gM];exact fA (rK h (show z.natAbs<=1000 by lia)) az
inductive a5S(K:aa)(vs:List V)(H:Hp)(Q:VK):Prop |mk (v:_)(ns:_)(sp:_)(k:_)(h0:vs=[v,.int k])(h1:RD K H v (gF ns sp))(h2:eY ns.length 1000 ns)(h3:ns.length<=1000)(h4:k.natAbs<=10^6)(h5:∀v' H',RD K H' v' (HS ns k)->aA H H'->Q v' H')
def xX(K:aa):Sp:=λvs H Q _=>a5S K vs H Q
abbrev Bk:Stmt:=top 53
theorem Ji:bj ["line","k","lead"] ["line","k"] (aP Bk):=bw aM
theorem Vq(F:FA K mg "stand_at" Bk)(B:bE mg)(kN:aG P w K mg au "lead_of" 1 (oq K))(ZV:aG P w K mg au "nearest" 1 AW):aG P w K mg au "stand_at" 2 (xX K):=by
 refine F.has Ji (λvs H Q E h=>?_) (λ_ _ _ _ _ _=>cJ λ_ _=>rfl) (λf aE A outer s H vs Q E hr h=>?_)
 ·obtain⟨v,ns,sp,k,rfl,_⟩:=h
  rfl
 ·obtain⟨v,ns,sp,kk,rfl,rd,ok,hz,hk,k⟩:=h
  have nd:=Ji.nd;refine⟨_,(aD (pS 2 nd (pf kN hr (ao (pv 0) ay))) (aH (aZ (jI (x:="tuple") (mS K Z) Z (B.at "tuple") jA (ao (gQ (N:=["step","lead","k"]) (js:=[none,some 2,some 1]) rfl rfl rfl (nc K rfl (px K (pv 0) aF)) (λ_ _ _ _ _=>(bu 0 (show List.Nodup (["step","lead","k"]:List Str) by decide+kernel))) (λ_ _ _ _ _=>gb) (λ_ _ _ _ _=>(pf ZV hr (ao (aW cw (pv 2) (pv 0)) (ao (pv 1) ay))))) ay))))),?_⟩;refine⟨_,Z,v,ns,sp,Z,rd,ok.ne,hz,λH1 s1=>?_⟩;obtain⟨a,b,rfl,ha,hb⟩:=tf (RD.mono s1 _ rd);obtain⟨lp,lm⟩:=ok.lead;refine⟨_,Z,.inr ⟨a,_,1,.ref b,Z,Z,ha,Z,b,Z,⟨_,hb⟩,λD H0 nw=>?_⟩⟩;refine FR (K:=K) (xs:=ns.map V.int) (ds:=(ns.map λz=>qz (kk*z) (aJ ns)).map PyData.int) _ hb nw (by simp) (by simpa using hz) (nk _) ?_ ?_
  ·intro i x d H2 Q' ex ed s2 hq
   rw[List.map_map]at ed;obtain⟨n,en,rfl⟩:=qC ed;cases DP ex en;refine⟨_,Z,_,Z,_,_,Z,Z,.of_left (dU aw aw),_,Z,_,_,Z,aw,aw,Uj hk (ok.bd n (hJ en)),?_⟩;exact hq _ _ (aA.refl _) (cQ _)
  ·intro H' ys s2 d2 r2
   refine⟨D,_,Z,.inl ⟨aK.of d2,λt H4 n4=>?_⟩⟩;exact k _ _ (eF (aQ.of n4.at') (aI.mono n4.same _ r2)) (s1.trans (s2.trans n4.same))
def ki(ns:List Int)(j:Nat):List Int:=ns.map λz=>qz (((j:Int)+1)*z) (aJ ns)-qz ((j:Int)*z) (aJ ns)
def kh(ns:List Int):List ah:=(List.range (aJ ns)).map λj=>.tuple ((ki ns j).map PyData.int)
theorem CL(zs:List Int):dP (.tuple (zs.map PyData.int))=true:=by rw[dP];exact nk zs
theorem CJ(ns:List Int):bX (kh ns)=true:=eO.mpr λd hd=>by obtain⟨j,_,rfl⟩:=gu.mp hd;exact CL _
theorem Kn{ns:List Int}{i:Nat}(h:i<aJ ns):(kh ns)[i]? =some (.tuple ((ki ns i).map PyData.int)):=by unfold kh;rw[cZ,cH (by simpa using h),xp];rfl
theorem CK(ns:List Int):(kh ns).length=aJ ns:=by simp[kh]
inductive a5Y(K:aa)(vs:List V)(H:Hp)(Q:VK):Prop |mk (v:_)(ns:_)(sp:_)(h0:vs=[v])(h1:RD K H v (gF ns sp))(h2:eY ns.length 1000 ns)(h3:ns.length<=1000)(h4:∀l ys H',H l=none->H' l=some (.lst ys)->aI K H' ys (kh ns)->aA H H'->Q (.ref l) H')
def xY(K:aa):Sp:=λvs H Q _=>a5Y K vs H Q
abbrev Bn:Stmt:=top 54
theorem Jl:bj ["line","rows","before","k","behind"] ["line"] (aP Bn):=bw aM
theorem Vx(F:FA K mg "step_rows" Bn)(B:bE mg)(kN:aG P w K mg au "lead_of" 1 (oq K))(zc:aG P w K mg au "stand_at" 2 (xX K)):aG P w K mg au "step_rows" 3 (xY K):=by
 refine F.has Jl (λvs H Q E h=>?_) (λ_ _ _ _ _ _=>fz λ_=>rfl) (λf aE A outer s H vs Q E hr h=>?_)
 ·obtain⟨v,ns,sp,rfl,_⟩:=h
  rfl
 ·obtain⟨v,ns,sp,rfl,rd,ok,hz,k⟩:=h
  have nd:=Jl.nd;obtain⟨lp,lm⟩:=ok.lead;refine⟨_,(aD (pS 1 nd (dF ay)) (aD (pS 2 nd (pf zc hr (ao (pv 0) (ao aF ay)))) (aD (iK iG Z (Us Z (B.at "range") (ao aF (ao (aW fJ (pf kN hr (ao (pv 0) ay)) aF) ay))) (bu 3 nd) (aD (pS 4 nd (pf zc hr (ao (pv 0) (ao (pv 3) ay)))) (aD (gE (oE K Z (pv 1) (ao (jI (x:="tuple") (mS K Z) Z (B.at "tuple") jA (ao (gQ (N:=["new","old"]) (js:=[none,none]) rfl rfl rfl (sM K rfl false false rfl (B.at "zip") (ao (pv 4) (ao (pv 2) ay))) (λ_ _ _ _ _=>(fm K rfl (n:=2) rfl (bV (bu 0 (fX az)) (bV (bu 1 (fX az)) fk)))) (λ_ _ _ _ _=>gb) (λ_ _ _ _ _=>(aW j8 (pv 0) (pv 1)))) ay)) ay))) (aH (pS 2 nd (pv 4)))))) (aH (aZ (pv 1)))))),?_⟩;refine⟨bC Z,λl H1 n1=>?_⟩;refine⟨_,Z,v,ns,sp,0,Z,RD.mono n1.same _ rd,ok,hz,az,λu H2 ru s2=>?_⟩;have t2:=n1.same.trans s2;refine⟨_,Z,v,ns,sp,Z,RD.mono t2 _ rd,ok.ne,hz,λH3 s3=>?_⟩;refine⟨_,_,Z,Z,_,_,Z,⟨aw,aw,aw,aw⟩,?_⟩;have t3:=t2.trans s3;have e3:((aJ ns:Int)+1-1).toNat=aJ ns:=by lia
  refine vZ (Pv:=λi O H4=>aA H H4/\(∃ys,H4 l=some (.lst ys)/\aI K H4 ys ((kh ns).take i))/\∃b v1 v2,RD K H4 b (HS ns i)/\O=[some v,some (.ref l),some b,v1,v2]) ?_ ?_ ?_
  ·exact⟨t3,⟨[],s3 _ _ (s2 _ _ n1.at'),bW⟩,u,none,none,RD.mono s3 _ ru,Z⟩
  ·rintro i O H4 hi ⟨t4,⟨ys,dl,ry⟩,b,v1,v2,rb,rfl⟩
   have Ey:i<aJ ns:=by lia
   refine⟨_,Z,_,Z,v,ns,sp,_,Z,RD.mono t4 _ rd,ok,hz,aw,λb2 H5 CV s5=>?_⟩;refine⟨_,Z,.inl ⟨Z,_,aK.of (s5 _ _ dl)⟩,?_⟩;obtain⟨a1,xs1,rfl,h1,q1⟩:=CV.da;have e1:=q1.jb;subst e1;obtain⟨a0,xs0,rfl,h0,q0⟩:=(RD.mono s5 _ rb).da;have e0:=q0.jb;subst e0;refine⟨_,Z,_,Z,a1,a0,Z,⟨_,h1⟩,⟨_,h0⟩,λD H6 nw=>?_⟩;refine zP (K:=K) (b1:=false) (b2:=false) (ds:=(ki ns i).map PyData.int) [] rfl h1 h0 nw (by simp[ki]) (by simpa[ki]using hz) (nk _) ?_ ?_
   ·intro j x y d H7 Q' ex ey ed s7 hq
    obtain⟨m,em,rfl⟩:=qC ed;unfold ki at em;rw[cZ]at em ex ey;rw[cZ]at ex ey;cases en:ns[j]? with |none=>rw[en]at em;cases em |some n=>
     rw[en]at em ex ey;cases em;cases ex;cases ey;refine⟨_,Z,_,Z,_,_,Z,Z,?_⟩;have ee:(1:Int)+(i:Int)=(i:Int)+1:=by lia
     rw[ee];exact hq _ _ (aA.refl _) (cQ _)
   ·intro H7 zs s7 d7 r7
    refine⟨D,_,Z,.inl ⟨aK.of d7,λt H8 n8=>?_⟩⟩;have pZ:=s5.trans (s7.trans n8.same);have wo:=pZ _ _ dl;have len:=ry.length;rw[rL,CK]at len;refine⟨l,ys,_,Z,Z,wo,?_,?_⟩
    ·have:(1000:Nat)<sizeLine:=by decide
     lia
    refine⟨_,Z,?_⟩;have tt:g9 H8 (_L.upd H8 l (.lst (ys++[.ref t]))):=.lK wo;refine⟨λb o e=>?_,⟨_,bp,?_⟩,_,_,_,?_,Z⟩
    ·rw[aL (eH e n1.no)];exact pZ b o (t4 b o e)
    ·rw[ur,Kn Ey]
     have nt:bX ((kh ns).take i)=true:=eO.mpr λd hd=>eO.mp (CJ ns) d (xj hd);exact(aI.t tt _ nt (aI.mono pZ _ ry)).append (bJ (RD.t tt _ (CL _) (eF (aQ.of n8.at') (aI.mono n8.same _ r7))) bW)
    ·have ee:(1:Int)+(i:Int)=((i+1:Nat):Int):=by lia
     rw[ee]at CV;exact RD.t tt _ (CL _) (RD.mono (s7.trans n8.same) _ CV)
  ·rintro O H4 ⟨t4,⟨ys,dl,ry⟩,b,v1,v2,rb,rfl⟩
   rw[e3,Am (by rw[CK];exact bA _)]at ry;exact⟨_,Z,k l ys H4 n1.no dl ry t4⟩
def jf(ti:Int)(q:Rat)(t:Int):Bool:=decide (ti*ti*(q.den:Int)<=t*t*q.num)
inductive a6I(K:aa)(vs:List V)(H:Hp)(Q:VK):Prop |mk (m:_)(sq:_)(t:_)(rs:_)(r:_)(f:_)(j:_)(ti:_)(q:_)(h0:vs=[m,sq,.int t])(h1:RD K H m (gT rs r f j ti))(h2:bN K H sq q)(h3:Bd 2000 q)(h4:1<=ti)(h5:ti<=100)(h6:0<=t)(h7:t.natAbs<2^2400)(h8:Q (.bl (jf ti q t)) H)
def IL(K:aa):Sp:=λvs H Q _=>a6I K vs H Q
abbrev Cf:Stmt:=top 71
theorem K5:bj ["machine","square","t","p","q","ticks"] ["machine","square","t"] (aP Cf):=bw aM
theorem Ws(F:FA K mg "are_enough" Cf)(B:bE mg):aG P w K mg au "are_enough" 1 (IL K):=by
 refine F.has K5 (λvs H Q E h=>?_) (λ_ _ _ _ _ _=>iR λ_ _ _=>rfl) (λf aE A outer s H vs Q E hr h=>?_)
 ·obtain⟨m,sq,t,rs,r,f,j,ti,q,rfl,_⟩:=h
  rfl
 ·obtain⟨m,sq,t,rs,r,f,j,ti,q,rfl,rm,⟨p,rfl,hp⟩,bq,t1,t2,t0,tw,k⟩:=h
  have nd:=K5.nd;refine⟨_,(aD (gc (pv 1) (fm K Z (n:=2) Z (bV (bu 3 nd) (bV (bu 4 nd) fk)))) (aD (pS 5 nd (px K (pv 0) aF)) (aH (aZ (jH Dp (aW cw (aW cw (pv 2) (pv 2)) (pv 3)) (aW cw (aW cw (pv 5) (pv 5)) (pv 4)) (bM _)))))),?_⟩;obtain⟨a,b,rfl,ha,hb⟩:=qD rm;have wt:Wd t:=jD tw az;have Qf:Wd (t*t):=jD (n:=4800) (by rw[gM];exact oM (n:=2400) (m:=2400) tw tw) az;have m1:(ti*ti).natAbs<=100*100:=by rw[gM];exact rK bK bK
  refine⟨_,Z,_,_,Z,hp,Z,_,_,Z,_,_,Z,Z,?_⟩;refine⟨_,Z,.inr ⟨a,_,4,.int ti,Z,Z,ha,Z,?_⟩⟩;refine⟨_,Z,_,Z,_,_,Z,Z,mM wt.bits wt.bits,_,Z,_,_,Z,Z,mM Qf.bits bq.wn.bits,?_⟩;refine⟨_,Z,_,Z,_,_,Z,Z,.of_left (dU bK bK),_,Z,_,_,Z,Z,.of_left (dU bK bK),?_⟩;exact⟨_,_,Z,Z,k⟩
theorem a3T{ti t:Int}{q:Rat}(hq:0<q.num)(h0:0<=t)(h:ti*ti*(q.den:Int)<=t):jf ti q t=true:=by
 refine cu (Int.le_trans h ?_);by_cases ht:t=0
 ·subst ht;simp
 ·have e1:t*1<=t*t:=a7P aw h0
  have e2:t*t*1<=t*t*q.num:=a7P aw (lI h0 h0)
  lia
theorem a3R{ti:Int}{q:Rat}(h1:1<=ti):jf ti q 0=false:=by
 refine cX λh=>?_;have:=jB (jB (show 0<ti by lia) (show 0<ti by lia)) (den_pos q);simp only[Int.zero_mul]at h
 lia
inductive a5P(K:aa)(vs:List V)(H:Hp)(Q:VK):Prop |mk (m:_)(sq:_)(rs:_)(r:_)(f:_)(j:_)(ti:_)(q:_)(h0:vs=[m,sq])(h1:RD K H m (gT rs r f j ti))(h2:bN K H sq q)(h3:Bd 2000 q)(h4:1<=ti)(h5:ti<=100)(h6:0<q.num)(h7:∀T,1<=T->T.natAbs<2^2400->jf ti q T=true->jf ti q (T-1)=false->Q (.int T) H)
def Ie(K:aa):Sp:=λvs H Q _=>a5P K vs H Q
abbrev Bh:Stmt:=top 70
theorem Jf:bj ["machine","square","enough","too_few","between"] ["machine","square"] (aP Bh):=bw aM
theorem Vn(F:FA K mg "ticks_of" Bh)(B:bE mg)(MV:aG P w K mg au "are_enough" 1 (IL K)):aG P w K mg au "ticks_of" 2 (Ie K):=by
 refine F.has Jf (λvs H Q E h=>?_) (λ_ _ _ _ _ _=>cJ λ_ _=>rfl) (λf aE A outer s H vs Q E hr h=>?_)
 ·obtain⟨m,sq,rs,r,f,j,ti,q,rfl,_⟩:=h
  rfl
 ·obtain⟨m,sq,rs,r,f,j,ti,q,rfl,rm,rq,bq,t1,t2,hq,k⟩:=h
  have nd:=Jf.nd;refine⟨_,(aD (pS 2 nd aF) (aD (sL iG (cE (bS (pf MV hr (ao (pv 0) (ao (pv 1) (ao (pv 2) ay)))))) (aH (pS 2 nd (aW cw aF (pv 2))))) (aD (pS 3 nd (aW vd (pv 2) aF)) (aD (sL iG (bT Dn (aW j8 (pv 2) (pv 3)) aF (bM _)) (aD (pS 4 nd (aW vd (aW fJ (pv 3) (pv 2)) aF)) (aH (bD (bS (pf MV hr (ao (pv 0) (ao (pv 1) (ao (pv 4) ay))))) (aH (pS 2 nd (pv 4))) (aH (pS 3 nd (pv 4))))))) (aH (aZ (pv 2))))))),?_⟩;have lim:(ti*ti*(q.den:Int)).natAbs<2^2399:=by
   have m1:(ti*ti).natAbs<=100*100:=by rw[gM];exact rK aw aw
   have hd:=bq.den;rw[gM];have:(q.den:Int).natAbs=q.den:=rfl;rw[this];have:=oM (n:=14) (m:=2000) (a:=(ti*ti).natAbs) (b:=q.den) (GO m1 az) hd;exact fF this (uo az az)
  have p0:0<ti*ti*(q.den:Int):=jB (jB aw aw) (den_pos q);have e2:(2:Nat)^2400=2^2399*2:=Nat.pow_succ 2 2399;generalize hL:ti*ti*(q.den:Int)=L at lim p0;refine rP (λO H2=>H2=H/\∃(x:Int),O=[some m,some sq,some (.int x),none,none]/\1<=x/\x<=2*L/\jf ti q (x/2)=false) (λO _=>match O with|[_,_,some (.int x),_,_]=>(L-x).toNat|_=>0) ?_ ?_ ?_
  ·exact⟨Z,1,Z,aw,aw,a3R t1⟩
  ·rintro O H2 ⟨rfl,x,rfl,x1,xL,hx⟩
   have xw:x.natAbs<2^2400:=by lia
   refine⟨_,Z,_,Z,_,Z,m,sq,x,rs,r,f,j,ti,q,Z,rm,rq,bq,t1,t2,aw,xw,_,Z,?_⟩;cases zo:jf ti q x with
   |false=>
    have cm:x<L:=by
     by_cases cm:x<L
     ·exact cm
     ·rw[a3T hq aw aw]at zo;cases zo
    refine fZ (λhc=>?_) (λhc=>(hc Z).elim);refine⟨_,Z,_,_,Z,Z,.of_left (dU az az),?_⟩;refine⟨⟨Z,_,Z,aw,aw,?_⟩,?_⟩
    ·have:2*x/2=x:=by lia
     rw[this];exact zo
    ·show(L-2*x).toNat<(L-x).toNat
     lia |true=>
    refine fZ (λhc=>nomatch hc) (λhc=>?_);refine⟨_,Z,_,_,Z,Z,⟨az,jD (n:=2) az az⟩,?_⟩;refine rP (λO H3=>H3=H2/\∃(lo hi:Int)(v:Option V),O=[some m,some sq,some (.int hi),some (.int lo),v]/\0<=lo/\lo<hi/\hi<=2*L/\jf ti q lo=false/\jf ti q hi=true) (λO _=>match O with|[_,_,some (.int x),some (.int y),_]=>(x-y).toNat|_=>0) ?_ ?_ ?_
    ·exact⟨Z,x/2,x,none,Z,aw,aw,xL,hx,zo⟩
    ·rintro O H3 ⟨rfl,lo,hi,v,rfl,l0,lh,EM,NJ,NK⟩
     refine⟨_,Z,_,Z,_,_,Z,Z,_,_,Z,Z,_,Z,?_⟩;refine fZ (λhc=>?_) (λhc=>?_)
     ·have hgt:hi-lo>1:=mK hc
      refine⟨_,Z,_,Z,_,_,Z,Z,_,_,Z,Z,⟨az,jD (n:=2) az az⟩,?_⟩;have mw:((lo+hi)/2).natAbs<2^2400:=by lia
      refine⟨_,Z,_,Z,_,Z,m,sq,(lo+hi)/2,rs,r,f,j,ti,q,Z,rm,rq,bq,t1,t2,aw,mw,_,Z,?_⟩;cases hm:jf ti q ((lo+hi)/2)with
      |true=>
       refine ba ?_;refine⟨_,Z,⟨Z,lo,_,_,Z,l0,aw,aw,NJ,hm⟩,?_⟩;show((lo+hi)/2-lo).toNat<(hi-lo).toNat
       lia |false=>
       refine aU ?_;refine⟨_,Z,⟨Z,_,hi,_,Z,aw,aw,EM,hm,NK⟩,?_⟩;show(hi-(lo+hi)/2).toNat<(hi-lo).toNat
       lia
     ·have hle:¬hi-lo>1:=λz=>hc (cu z)
      have e:lo=hi-1:=by lia
      subst e;exact⟨_,Z,k hi aw aw NK NJ⟩
    ·rintro O H2 Q1 Q2 hq ⟨v1,e1,v2,e2,i,j,e3,e4,i2,j2,e5,e6,kk,e7,q⟩
     exact⟨v1,e1,v2,e2,i,j,e3,e4,i2,j2,e5,e6,kk,e7,hq _ _ q⟩
  ·rintro O H2 Q1 Q2 hq ⟨v1,e1,v2,e2,v3,e3,m',S8,x',qd,r',f',j',QS,q',e4,h1,h2,h3,h4,h5,h6,h7,b,eb,q⟩
   exact⟨v1,e1,v2,e2,v3,e3,m',S8,x',qd,r',f',j',QS,q',e4,h1,h2,h3,h4,h5,h6,h7,b,eb,hq _ _ q⟩
def wG(ti:Int)(q:Rat)(T:Int):Prop:=1<=T/\jf ti q T=true/\jf ti q (T-1)=false
open Classical in
noncomputable def AE(ti:Int)(q:Rat):Int:=if h:∃T,wG ti q T then h.choose else 0
theorem NH{ti:Int}{q:Rat}{s t:Int}(hq:0<=q.num)(h0:0<=s)(h:s<=t)(e:jf ti q s=true):jf ti q t=true:=by refine cu (Int.le_trans (mK e) ?_);exact Int.mul_le_mul_of_nonneg_right (As h h h0 aw) hq
theorem QV{ti:Int}{q:Rat}{S T:Int}(hq:0<=q.num)(h1:wG ti q S)(h2:wG ti q T):S=T:=by
 obtain⟨a1,a2,a3⟩:=h1;obtain⟨b1,b2,b3⟩:=h2;by_cases h:S<=T-1
 ·have:=NH hq aw h a2
  rw[b3]at this;cases this
 ·by_cases h':T<=S-1
  ·have:=NH hq aw h' b2
   rw[a3]at this;cases this
  ·lia
theorem QR{ti:Int}{q:Rat}{T:Int}(hq:0<=q.num)(h:wG ti q T):AE ti q=T:=by have hx:∃T,wG ti q T:=⟨T,h⟩;unfold AE;rw[dif_pos hx];exact QV hq hx.choose_spec h
theorem WT{q:Rat}(h:0<q):0<q.num:=by
 have h1:=Rat.num_nonneg.mpr (Rat.le_of_lt h);have h2:q.num≠0:=λe=>by rw[Rat.num_eq_zero.mp e]at h;exact absurd h az
 lia
noncomputable def rZ(ti:Int)(zs:List Int)(q:Rat):ah:=.tuple [.str "step",.tuple (zs.map PyData.int),.int (AE ti q),cB q]
theorem HR(ti:Int)(zs:List Int)(q:Rat):dP (rZ ti zs q)=true:=by simp[rZ,dP,bX,nk,sH]
inductive a6G(K:aa)(vs:List V)(H:Hp)(Q:VK):Prop |mk (m:_)(rv:_)(sq:_)(rs:_)(r:_)(f:_)(j:_)(ti:_)(zs:_)(q:_)(h0:vs=[m,rv,sq])(h1:RD K H m (gT rs r f j ti))(h2:lF rs r f j ti)(h3:RD K H rv (.tuple (zs.map PyData.int)))(h4:bN K H sq q)(h5:Bd 2000 q)(h6:0<q)(h7:∀v H',RD K H' v (rZ ti zs q)->aA H H'->Q v H')
def AY(K:aa):Sp:=λvs H Q _=>a6G K vs H Q
abbrev Cd:Stmt:=top 72
theorem K3:bj ["machine","row","square"] ["machine","row","square"] (aP Cd):=bw aM
theorem Wq(F:FA K mg "step_entry" Cd)(B:bE mg)(Zv:aG P w K mg au "ticks_of" 2 (Ie K)):aG P w K mg au "step_entry" 3 (AY K):=by
 refine F.has K3 (λvs H Q E h=>?_) (λ_ _ _ _ _ _=>iR λ_ _ _=>rfl) (λf aE A outer s H vs Q E hr h=>?_)
 ·obtain⟨m,rv,sq,rs,r,f,j,ti,zs,q,rfl,_⟩:=h
  rfl
 ·obtain⟨m,rv,sq,rs,r,f,j,ti,zs,q,rfl,rm,aO,rr,Rq,bq,q0,k⟩:=h
  have nd:=K3.nd;refine⟨_,(aH (aZ (dc (ao ck (ao (pv 1) (ao (pf Zv hr (ao (pv 0) (ao (pv 2) ay))) (ao (pv 2) ay))))))),?_⟩;have t1:=aO.t1;have qn:0<q.num:=WT q0;refine⟨_,Z,_,Z,_,Z,m,sq,rs,r,f,j,ti,q,Z,rm,Rq,bq,t1.1,t1.2,qn,λT T1 _ T2 T3=>?_⟩;refine⟨_,Z,bC Z,λt H1 n1=>k (.ref t) H1 ?_ n1.same⟩;have e:=QR aw ⟨T1,T2,T3⟩;unfold rZ;rw[e];exact eF (aQ.of n1.at') (bJ (dN _) (bJ (RD.mono n1.same _ rr) (bJ (cQ _) (bJ (Rq.go n1.same).rd bW))))
theorem Hv{rate sp:Int}(h1:1<=sp)(h2:10<=rate):0<topR rate sp:=by
 have h0:=_O.xQ rate sp;refine GG h0 λe=>?_;have hp:0<(sp*rate)^2:=by rw[fU,fU,mO,mQ];exact jB (jB aw aw) (jB aw aw)
 have h2:0<=Rat.divInt (-((sp*rate)^2)) 10000:=by rw[<-Rat.neg_divInt];show 0<=-(topR rate sp);rw[<-e];decide
 have:=(ui az).mp h2
 lia
inductive a6f(K:aa)(vs:List V)(H:Hp)(Q:VK):Prop |mk (m:_)(iv:_)(rate:_)(rs:_)(r:_)(f:_)(j:_)(t:_)(ds:_)(os:_)(h0:vs=[m,iv,.int rate])(h1:RD K H m (gT rs r f j t))(h2:lF rs r f j t)(h3:RD K H iv (.list ds))(h4:fc rs.length ds os)(h5:ds.length<=100)(h6:10<=rate)(h7:rate<=200)(h8:∀l ys H',H l=none->H' l=some (.lst ys)->aI K H' ys ((ownL j rate os).map cB)->aA H H'->Q (.ref l) H')
def Iw(K:aa):Sp:=λvs H Q _=>a6f K vs H Q
theorem VO(F:FA K mg "own_bounds" yi)(B:bE mg)(gN:GT K mg "NOUGHT" [.int 0,.int 1])(ED:aG P w K mg au "bound_between" 7 (yb K)):aG P w K mg au "own_bounds" 8 (Iw K):=by
 obtain⟨aN,jt,lP⟩:=gN;refine F.has yf (λvs H Q E h=>?_) (λ_ _ _ _ _ _=>iR λ_ _ _=>rfl) (λf aE A outer s H vs Q E hr h=>?_)
 ·obtain⟨m,iv,rate,rs,r,f,j,t,ds,os,rfl,_⟩:=h
  rfl
 ·obtain⟨m,iv,rate,rs,r,f,j,t,ds,os,rfl,rm,aO,ri,row,hz,dy,dM,k⟩:=h
  have nd:=yf.nd;have rN:∀H',RD K H' (.ref aN) (cB 0):=λH'=>(sS (lP H')).rd;refine⟨_,(aD (bD (cE (uZ K Z (pv 1))) (aH (aZ (dF (ao (cy (x:="NOUGHT") Z jt) ay)))) bG) (aD (KO (i0:=3) nd Z (Or.inl Z) (N:=["one","other","machine","rate"]) (js:=[none,none,some 0,some 2]) Z Z Z (sM K Z true true Z (B.at "zip") (ao (pv 1) (ao (qo (yc K rfl) (pv 1) (qi aF) qj) ay))) (λ_ _ _ _ _=>(fm K rfl (n:=2) rfl (bV (bu 0 (show List.Nodup (["one","other","machine","rate"]:List Str) by decide+kernel)) (bV (bu 1 (show List.Nodup (["one","other","machine","rate"]:List Str) by decide+kernel)) fk)))) (λ_ _ _ _ _=>gb) (λ_ _ _ _ _=>(pf ED hr (ao (pv 2) (ao (pv 0) (ao (pv 1) (ao (pv 3) ay))))))) (aH (aZ (aW (qT K Z) (aW (qT K Z) (dF (ao (cy (x:="NOUGHT") Z jt) ay)) (pv 3)) (dF (ao (cy (x:="NOUGHT") Z jt) ay))))))),?_⟩;obtain⟨ia,xs,rfl,hi,gh⟩:=ri.lst_inv;have lx:=gh.length;have ll:=row.len;refine⟨_,Z,_,.inl ⟨_,hi,Z⟩,?_⟩;cases hd:xs with
  |nil=>
   subst hd;refine ba ?_;refine⟨bC Z,λl H1 n1=>?_⟩;refine k l [.ref aN] H1 n1.no n1.at' ?_ n1.same;have e:os=[]:=by
    have:os.length=0:=by rw[<-ll,<-lx];rfl
    exact GX.mp this
   rw[e];exact bJ (rN H1) bW |cons x0 xr=>
   refine aU ?_;have dA:os≠[]:=by intro e;rw[e]at ll;rw[hd]at lx;simp at ll lx;rw[ll]at lx;cases lx
   have Eb:0<xs.length:=by rw[hd];simp
   refine⟨_,Z,_,Z,1,Z,ia,xs,Z,.inl ⟨hi,λtl H1 n1=>?_⟩⟩;refine⟨ia,tl,Z,⟨_,hi.go n1.same⟩,⟨_,aK.of n1.at'⟩,λD H2 n2=>?_⟩;have et:=n1.at';rw[FP]at et;have vg:∀(i:Nat)(o:Itm),os[i]? =some o->∀(ns:List Int)(sp:Int),o=some (ns,sp)->eY rs.length 100 ns/\1<=sp/\sp<=20:=λi o e ns sp e'=>row.ok i ns sp (by rw[e,e']);have lr:=aO.len;refine zP (K:=K) (b1:=true) (b2:=true) (xs:=xs) (ys:=xs.drop 1) (ds:=((List.range (os.length-1)).map (λi=>ownF j rate os (i+1))).map cB) _ Z (hi.go n1.same) (aK.of et) n2 (by rw[xo];simp;lia) (by simp;lia) (sT _) ?_ ?_
   ·intro i x y d H3 Q' ex ey ed s3 hq
    have fE:=n1.same.trans s3;rw[List.getElem?_drop]at ey;obtain⟨d1,e1,r1⟩:=gh.get' i ex;obtain⟨d2,e2,r2⟩:=gh.get' (1+i) ey;obtain⟨o1,wj,i1⟩:=row.get e1;obtain⟨o2,qP,i2⟩:=row.get e2;have hi2:1+i<os.length:=(eU.mp qP).1;have ju:d=cB (betR j rate o1 o2):=by rw[cZ,cZ,cH (by simp;lia),xp]at ed;have:=(dW ed).symm;rw[this];show cB (betR j rate (atO os i) (atO os (i+1)))=_;rw[_O.tX wj,_O.tX (show os[i+1]? =some o2 by rw[Nat.add_comm];exact qP)]
    subst ju;refine⟨_,Z,_,Z,_,Z,_,Z,m,x,y,rate,rs,r,f,j,t,d1,d2,o1,o2,rs.length,Z,RD.mono fE _ rm,aO.j1.1,aO.j1.2,RD.mono fE _ r1,RD.mono fE _ r2,i1,i2,vg _ _ wj,vg _ _ qP,aw,dy,dM,λv H4 rv s4=>?_⟩;exact hq _ _ s4 rv.rd
   ·intro H3 zs s3 d3 r3
    have lz:=r3.length;simp at lz;refine⟨bC Z,λl1 H4 n4=>?_⟩;refine⟨_,Z,l1,D,_,zs,Z,Z,aK.of n4.at',aK.of (n4.same _ _ d3),uP _ (by simp;lia),λl2 H5 n5=>?_⟩;refine⟨bC Z,λl3 H6 n6=>?_⟩;refine⟨l2,l3,_,_,Z,Z,aK.of (n6.same _ _ n5.at'),aK.of n6.at',uP _ (by simp;lia),λl H7 n7=>?_⟩;have uT:aA H H6:=n1.same.trans (s3.trans (n4.same.trans (n5.same.trans n6.same)));have nl:H l=none:=by cases e:H l with |none=>rfl |some o=>have:=uT _ _ e;rw[n7.no]at this;cases this
    refine k l _ H7 nl n7.at' ?_ (uT.trans n7.same);rw[_O.L9 j rate dA,lH,lH];exact((bJ (rN H7) bW).append (aI.mono (n4.same.trans (n5.same.trans (n6.same.trans n7.same))) _ r3)).append (bJ (rN H7) bW)
inductive a6E(K:aa)(vs:List V)(H:Hp)(Q:VK):Prop |mk (m:_)(iv:_)(l:_)(ys:_)(rs:_)(r:_)(f:_)(j:_)(t:_)(ds:_)(os:_)(g:_)(h0:vs=[m,iv,.ref l])(h1:RD K H m (gT rs r f j t))(h2:lF rs r f j t)(h3:RD K H iv (.list ds))(h4:fc rs.length ds os)(h5:ds.length<=30)(h6:H l=some (.lst ys))(h7:aI K H ys ((lst os.length g).map cB))(h8:(∀i,i<=os.length->Bd 900 (g i)))(h9:∀l ys H',H l=none->H' l=some (.lst ys)->aI K H' ys ((lst os.length (fl os.length (leadF os) (2*f) g)).map cB)->aA H H'->Q (.ref l) H')
def II(K:aa):Sp:=λvs H Q _=>a6E K vs H Q
theorem Wo(F:FA K mg "kept_by_fall" Cb)(B:bE mg)(jS:aG P w K mg au "is_line" 1 (ou K))(kN:aG P w K mg au "lead_of" 1 (oq K))(tD:aG P w K mg au "plus_whole" 4 (y4 K))(tH:aG P w K mg au "least" 2 (mW K)):aG P w K mg au "kept_by_fall" 5 (II K):=by
 refine F.has K1 (λvs H Q E h=>?_) (λ_ _ _ _ _ _=>iR λ_ _ _=>rfl) (λfa aE A outer s H vs Q E hr h=>?_)
 · obtain⟨m,iv,l,ys,rs,r,f,j,t,ds,os,g,rfl,_⟩:=h
   rfl
 · obtain⟨m,iv,l,ys,rs,r,f,j,t,ds,os,g,rfl,rm,aO,ri,row,hz,dl,Tr,bg,k⟩:=h
   have nd:=K1.nd;refine⟨_,(aD (pS 3 nd (px K (pv 0) aF)) (aD (pS 4 nd (jI (x:="list") (Yy K Z) Z (B.at "list") PyProof.Rows.boot_list (ao (pv 2) ay))) (aD (iK iG Z (Ur Z (B.at "reversed") (ao (jI (x:="range") a4B rfl (B.at "range") PyProof.Rows.boot_range (ao (fo K B (ao (pv 1) ay)) ay)) ay)) (bu 5 nd) (aH (bD (bS (pf jS hr (ao (px K (pv 1) (pv 5)) ay))) (aH (gc (pf tH hr (ao (dF (ao (px K (pv 4) (pv 5)) (ao (pf tD hr (ao (px K (pv 4) (aW fJ (pv 5) aF)) (ao (aW cw (aW cw aF (pv 3)) (pf kN hr (ao (px K (pv 1) (pv 5)) ay))) ay))) ay))) ay)) (Di (pv 4) (pv 5) set_list))) bG))) (aH (aZ (pv 4)))))),?_⟩;obtain⟨ma,mb,rfl,jr,me⟩:=qD rm;obtain⟨ia,xs,rfl,hi,gh⟩:=ri.lst_inv;have lx:=gh.length;have ll:=row.len;have lr:=aO.len;have hL:∀i m,leadF os i=some m->(2*f*(m:Int)).natAbs<2^24:=λi m e=>Qw aO.f1.1 aO.f1.2 (YH row.yG e);have FB:∀i,i<=os.length->Bd 1700 (fl os.length (leadF os) (2*f) g i):=λi hi=>(a2x bg hL i hi).mono aw;refine⟨_,Z,.inr ⟨ma,_,2,.int f,Z,Z,jr,Z,?_⟩⟩;refine⟨_,Z,l,ys,Z,.inl (aK.of dl),λD H1 n1=>?_⟩;refine⟨_,Z,ia,_,Z,.inl (hi.go n1.same),_,Z,λpr H2 n2=>?_⟩;refine⟨pr,_,Z,n2.at',aw,aw,?_⟩;have eN:((xs.length:Int)).toNat=os.length:=by lia
   rw[eN];refine a2q (Pv:=λi O H5=>aA H H5/\∃zs v1,H5 D=some (.lst zs)/\aI K H5 zs ((lst os.length λk=>if os.length<=k+i then fl os.length (leadF os) (2*f) g k else g k).map cB)/\O=[some (.ref ma),some (.ref ia),some (.ref l),some (.int f),some (.ref D),v1]) ?_ ?_ ?_
   · refine⟨n1.same.trans n2.same,ys,none,n2.same _ _ n1.at',?_,Z⟩
     rw[DT (g:=λk=>if os.length<=k+0 then fl os.length (leadF os) (2*f) g k else g k) (g':=g)]
     ·exact aI.mono (n1.same.trans n2.same) _ Tr
     · intro k hk
       show g k=if os.length<=k+0 then _ else g k;split
       · next h => have:k=os.length:=by lia
                   subst this;exact zC.symm
       ·rfl
   · rintro i O H3 zl ⟨s3,zs,v1,dz,rz,rfl⟩
     obtain⟨x,hx⟩:∃x,xs[os.length-1-i]? =some x:=⟨_,cH (show os.length-1-i<xs.length by lia)⟩;generalize hc:os.length-1-i=c at hx;have tJ:c<os.length:=by lia
     have eI:((os.length:Int)-1-(i:Int))=(c:Int):=by lia
     rw[eI];obtain⟨d,ed,rd⟩:=gh.get' c hx;obtain⟨o,eo,it⟩:=row.get ed;have lz:=rz.length;rw[bR,qE]at lz;have OG:iB xs (c:Int)=some x:=eK aw (by simpa using hx);refine⟨_,Z,_,Z,.inl ⟨ia,_,_,_,Z,Z,hi.go s3,OG,?_⟩⟩;refine⟨x,d,o,Z,RD.mono s3 _ rd,it,_,Z,?_⟩;cases o with
     |none=>
       refine aU ?_;refine⟨s3,zs,_,dz,?_,Z⟩;rw[DT (g:=λk=>if os.length<=k+(i+1)then fl os.length (leadF os) (2*f) g k else g k) (g':=λk=>if os.length<=k+i then fl os.length (leadF os) (2*f) g k else g k)]
       ·exact rz
       · intro k _
         show(if os.length<=k+i then _ else g k)=if os.length<=k+(i+1)then _ else g k;by_cases h1:os.length<=k+i
         ·rw[bo h1,bo aw]
         · rw[bf h1]
           by_cases h2:k=c
           ·subst h2;rw[bo aw,zB tJ (YG eo)]
           ·rw[bf aw] |some q=>
       obtain⟨ns,sp⟩:=q;refine ba ?_;have ju:=nG it;subst ju;obtain⟨df,_,_⟩:=row.ok c ns sp eo;obtain⟨z1,Nv⟩:∃z,zs[c+1]? =some z:=⟨_,cH (show c+1<zs.length by lia)⟩;obtain⟨z0,p8⟩:∃z,zs[c]? =some z:=⟨_,cH (show c<zs.length by lia)⟩;have R1:bN K H3 z1 (fl os.length (leadF os) (2*f) g (c+1)):=by
        obtain⟨d1,e1,r1⟩:=rz.get' (c+1) Nv;rw[cZ,qF _ (show c+1<=os.length by lia)]at e1;cases e1;have:os.length<=c+1+i:=by lia
        simp only[bo this]at r1;exact mZ r1
       have R0:bN K H3 z0 (g c):=by
        obtain⟨d1,e1,r1⟩:=rz.get' c p8;rw[cZ,qF _ (show c<=os.length by lia)]at e1;cases e1;have:¬os.length<=c+i:=by lia
        simp only[bf this]at r1;exact mZ r1
       have eT1:((c:Int)+1).toNat=c+1:=by lia
       have zY:iB zs ((c:Int)+1)=some z1:=eK aw (by rw[eT1];exact Nv);have at0:iB zs (c:Int)=some z0:=eK aw (by simpa using p8);refine⟨_,Z,_,Z,.inl ⟨D,_,_,_,Z,Z,aK.of dz,at0,?_⟩⟩;refine⟨_,Z,_,Z,_,_,Z,Z,.inl ⟨D,_,_,_,Z,Z,aK.of dz,zY,?_⟩⟩;refine⟨_,Z,_,_,Z,Z,.of_left (dU az az),?_⟩;refine⟨_,Z,_,Z,.inl ⟨ia,_,_,_,Z,Z,hi.go s3,OG,?_⟩⟩;refine⟨x,ns,sp,Z,RD.mono s3 _ rd,df.ne,by rw[df.len];lia,λH4 s4=>?_⟩;have wa:=aO.f1;refine⟨_,_,Z,Z,.of_left (dU aw aw),?_⟩;have us:=hL c _ (Md eo);refine⟨z1,_,_,Z,R1.go s4,(FB (c+1) aw).mono az,us,λu H5 ru s5=>?_⟩;refine⟨bC Z,λl2 H6 n6=>?_⟩;have oy:=s4.trans (s5.trans n6.same);have OQ:=R0.go oy;have Ru:=ru.go n6.same;have B1:Bd 2000 (g c):=(bg _ aw).mono az;have B2:Bd 2000 (fl os.length (leadF os) (2*f) g (c+1)+((2*f*(aJ ns:Int):Int):Rat)):=(Gg (FB (c+1) aw) us).mono az;refine⟨l2,[z0,u],[_,_],Z,aK.of n6.at',⟨OQ,B1,Ru,B2,trivial⟩,by simp,λc' v q e1 e2 hq=>?_⟩;have vD:mn (g c) (fl os.length (leadF os) (2*f) g (c+1)+((2*f*(aJ ns:Int):Int):Rat))=q:=by
        refine vw ?_ (hq _ (by simp)) (hq _ (by simp))
        match c',e2 with |0,e2=>cases e2;exact .inl rfl |1,e2=>cases e2;exact .inr rfl
       have Rv:bN K H6 v q:=by match c',e1,e2 with |0,e1,e2=>cases e1;cases e2;exact OQ |1,e1,e2=>cases e1;cases e2;exact Ru
       have NQ:=oy _ _ dz;have YX:kH zs.length (c:Int)=some c:=by unfold kH;rw[bo aw,bo aw];simp
       refine⟨_,Z,_,Z,D,zs,_,_,Z,Z,NQ,YX,?_⟩;refine⟨λb o e=>?_,_,_,bp,?_,Z⟩
       ·rw[aL (eH e n1.no)];exact oy b o (s3 b o e)
       · have h:=aI.Sl (i:=c) NQ (aI.mono oy _ rz) Rv.rd (sT _) (sH _)
         rw[<-List.map_set]at h;have e:(lst os.length λk=>if os.length<=k+i then fl os.length (leadF os) (2*f) g k else g k).set c q=lst os.length λk=>if os.length<=k+(i+1)then fl os.length (leadF os) (2*f) g k else g k:=by
          rw[<-Yi (g:=λk=>if os.length<=k+i then fl os.length (leadF os) (2*f) g k else g k) (g':=λk=>if os.length<=k+(i+1)then fl os.length (leadF os) (2*f) g k else g k) (i:=c)]
          · have:os.length<=c+(i+1):=by lia
            simp only[bo this];rw[zD tJ (Md eo),vD]
          · intro k _ hk
            show(if os.length<=k+(i+1)then _ else g k)=if os.length<=k+i then _ else g k;by_cases h1:os.length<=k+i
            ·rw[bo h1,bo aw]
            ·rw[bf h1,bf aw]
         rw[e]at h;exact h
   · rintro O H3 ⟨s3,zs,v1,dz,rz,rfl⟩
     rw[DT (g:=λk=>if os.length<=k+os.length then fl os.length (leadF os) (2*f) g k else g k) (g':=fl os.length (leadF os) (2*f) g) (λk hk=>by show _=if os.length<=k+os.length then _ else _;rw[bo aw])]at rz;exact⟨_,Z,k D zs H3 n1.no dz rz s3⟩
def Kw(f j rate:Int)(os:List Itm):Rat:=fl os.length (leadF os) (2*f) (ownF j rate os) 1
inductive a60(K:aa)(vs:List V)(H:Hp)(Q:VK):Prop |mk (m:_)(iv:_)(rate:_)(rs:_)(r:_)(f:_)(j:_)(t:_)(ds:_)(os:_)(h0:vs=[m,iv,.int rate])(h1:RD K H m (gT rs r f j t))(h2:lF rs r f j t)(h3:RD K H iv (.list ds))(h4:fc rs.length ds os)(h5:ds.length<=30)(h6:1<=ds.length)(h7:10<=rate)(h8:rate<=200)(h9:∀v H',bN K H' v (Kw f j rate os)->aA H H'->Q v H')
def AQ(K:aa):Sp:=λvs H Q _=>a60 K vs H Q
abbrev Bq:Stmt:=top 77
theorem Jo:bj ["machine","items","rate"] ["machine","items","rate"] (aP Bq):=bw aM
theorem VL(F:FA K mg "reach_behind_first" Bq)(B:bE mg)(Ek:aG P w K mg au "own_bounds" 8 (Iw K))(a07:aG P w K mg au "kept_by_fall" 5 (II K)):aG P w K mg au "reach_behind_first" 9 (AQ K):=by
 refine F.has Jo (λvs H Q E h=>?_) (λ_ _ _ _ _ _=>iR λ_ _ _=>rfl) (λfa aE A outer s H vs Q E hr h=>?_)
 ·obtain⟨m,iv,rate,rs,r,f,j,t,ds,os,rfl,_⟩:=h
  rfl
 ·obtain⟨m,iv,rate,rs,r,f,j,t,ds,os,rfl,rm,aO,ri,row,hz,h1,dy,dM,k⟩:=h
  have nd:=Jo.nd;refine⟨_,(aH (aZ (px K (pf a07 hr (ao (pv 0) (ao (pv 1) (ao (pf Ek hr (ao (pv 0) (ao (pv 1) (ao (pv 2) ay)))) ay)))) aF))),?_⟩;have ll:=row.len;have hB:=_O.Lc aO.j1.1 aO.j1.2 dy dM row.yG;refine⟨_,Z,_,Z,_,Z,_,Z,_,Z,m,iv,rate,rs,r,f,j,t,ds,os,Z,rm,aO,ri,row,aw,dy,dM,λl1 y1 H1 Xl d1 r1 s1=>?_⟩;refine⟨m,iv,l1,y1,rs,r,f,j,t,ds,os,ownF j rate os,Z,RD.mono s1 _ rm,aO,RD.mono s1 _ ri,row,hz,d1,r1,λi _=>(hB i).mono az,λl2 y2 H2 Xk d2 r2 s2=>?_⟩;have ly:=r2.length;rw[bR,qE]at ly;obtain⟨z,ez⟩:∃z,y2[1]? =some z:=⟨_,cH (show 1<y2.length by lia)⟩;refine .inl ⟨l2,_,1,z,Z,Z,aK.of d2,eK az ez,?_⟩;obtain⟨d,ed,rd⟩:=r2.get' 1 ez;rw[cZ,qF _ (show 1<=os.length by lia)]at ed;cases ed;exact k z H2 (mZ rd) (s1.trans s2)
open _O (Itm)
theorem Y2{H:Hp}{v:V}{rs:List Int}{es:List ah}(h:RD K H v (.tuple (.tuple (rs.map PyData.int)::es))):∃a b ys,v= .ref a/\aQ K H a (.ref b::ys)/\aQ K H b (rs.map V.int):=by obtain⟨a,xs,rfl,h1,h2⟩:=h.da;obtain⟨x1,r1,rfl,e1,h2⟩:=h2.cons_inv;obtain⟨b,ys,rfl,h3,h4⟩:=e1.da;rw[h4.jb]at h3;exact⟨a,b,r1,Z,h1,h3⟩
def fO(z:Str):ah->Bool | .str x=>x==z |_=>false
theorem we(z:Str)(d:ah):PyData.eqv d (.str z)=fO z d:=by cases d<;>simp[PyData.eqv,fO]
theorem NB(z:Str)(d:ah):PyData.eqv (.str z) d=fO z d:=by cases d<;>simp[PyData.eqv,fO];rw[iX];simp;exact eq_comm
theorem RV(d:ah):(∃z,d= .str z)\/(fD (gz d) "str"=false/\∀z,d≠ .str z):=by cases d with |str z=>exact .inl ⟨z,Z⟩ |_=>exact .inr ⟨by simp[gz];decide,λ_ z=>nomatch z⟩
theorem Ht:fD "str" "str"=true:=by decide
def E6(d:ah):Bool:=fO "up" d||fO "down" d
def sR(c:Nat):Bool:=decide (97<=c)&&decide (c<=122)
def isNm:ah->Bool | .str x=>(decide (1<=x.length)&&decide (x.length<=8))&&x.cps.toList.all sR |_=>false
def nH(wd v:ah):Bool:=if fO "wait" wd then cC 1 1000 v else if fO "tool" wd then E6 v else fO "mark" wd&&isNm v
def vk:ah->Bool | .int i=>i !=0 |_=>true
def qx(n:Nat):ah->Bool | .tuple ds=>(ds.length==n&&ds.all (cC (-100) 100))&&ds.any vk |_=>false
def gU(n:Nat):ah->Bool | .tuple [wd,a,b]=>fO "line" wd&&(qx n a&&cC 1 20 b) | .tuple [wd,v]=>nH wd v |_=>false
def j4:ah->Bool | .str x=>decide (x.length<=900) |_=>true
def lR:ah->Bool | .tuple ds=>ds.all j4 |_=>true
inductive a5L(f:ah->Bool)(K:aa)(vs:List V)(H:Hp)(Q:VK):Prop |mk (v:_)(d:_)(h0:vs=[v])(h1:RD K H v d)(h2:j4 d=true)(h3:∀H',aA H H'->Q (.bl (f d)) H')
def Ia(f:ah->Bool)(K:aa):Sp:=λvs H Q _=>a5L f K vs H Q
theorem Sh{z:Str}(h:j4 (.str z)=true):z.length<=900:=mK h
theorem LF(n:Nat):decide ((1:Int)<=(n:Int))=decide (1<=n):=by rw[iX];simp;omega
theorem Xp(n:Nat):decide ((n:Int)<=8)=decide (n<=8):=by rw[iX];simp;omega
theorem OJ{l:List Nat}{f:Nat->Bool}:(l.map f).all id=l.all f:=by rw[List.all_map];rfl
theorem a5h:∀c<128,decide (c∈tZ.cps.toList)=sR c:=by decide+kernel
theorem a5j:∀c∈tZ.cps.toList,c<128:=by decide+kernel
theorem a5i(c:Nat):decide (c∈tZ.cps.toList)=sR c:=by
 by_cases h:c<128
 ·exact a5h c h
 ·rw[cX (λhc=>h (a5j c hc)),sR,cX (show¬c<=122 by omega),Aw]
abbrev C7:Stmt:=top 38
theorem JX:bj ["thing"] ["thing"] (aP C7):=bw aM
theorem Wg(F:FA K mg "is_name" C7)(B:bE mg)(a1f:GV mg "LONGEST_NAME" (.int 8))(a1g:GV mg "LETTERS" (.str tZ)):aG P w K mg au "is_name" 1 (Ia isNm K):=by
 refine F.has JX (λvs H Q E h=>?_) (λ_ _ _ _ _ _=>fz λ_=>rfl) (λf aE A outer s H vs Q E hr h=>?_)
 ·obtain⟨v,d,rfl,_⟩:=h
  rfl
 ·obtain⟨v,d,rfl,rd,sh,k⟩:=h
  have nd:=JX.nd;refine⟨_,(aD (bD (PW.pt (kr (cE (bS (kC K B (ao (pv 0) (ao (jJ (x:="str") (v:=.ty "str") Z (B.at "str") PF rfl) ay))))) (kl (cE (Ue yF yF aF (dG (x:="len") a4E rfl (B.at "len") PySem.boot_len (ao (pv 0) ay)) (cy (x:="LONGEST_NAME") rfl a1f)))))) (aH (aZ ib)) bG) (aH (aZ (dG (x:="all") (tY K Z Z) Z (B.at "all") x8 (ao (gQ (N:=["letter"]) (js:=[none]) rfl rfl rfl (Dh (pv 0)) (λ_ _ _ _ _=>(bu 0 (oK _))) (λ_ _ _ _ _=>gb) (λ_ _ _ _ _=>(jH Lf (pv 0) (cy (x:="LETTERS") rfl a1g) (by with_unfolding_all rfl)))) ay))))),?_⟩;rcases RV d with⟨z,rfl⟩|⟨ht,hn⟩
  ·refine⟨_,Z,.inl ⟨_,_,"str",true,Z,rd.ty,az,Ht,_,Z,aU ?_⟩⟩
   cases rd.str_inv;have hl:=Sh sh;have k:∀H',aA H H'->Q (.bl ((decide (1<=z.length)&&decide (z.length<=8))&&z.cps.toList.all sR)) H':=k;refine⟨_,Z,z,Z,fA hl az,_,_,Z,Z,_,Z,?_⟩;refine fZ (λh1=>?_) (λh1=>?_)
   ·rw[<-LF,show decide ((1:Int)<=(z.length:Int))=true from h1,iH]at k
    refine⟨_,_,Z,Z,_,Z,?_⟩;rw[Xp];cases e8:decide (z.length<=8)with |false=>rw[e8,fV]at k;exact ba (k H (aA.refl _)) |true=>
     rw[e8,iH]at k;refine aU ⟨_,Z,z,Z,λD H0 nw=>?_⟩;refine Od (f:=sR) [] nw aw (λc H2 Q' hc s2 hq=>?_) (λH2 s2 d2=>?_)
     ·refine⟨_,Z,c,tZ,Z,Z,?_⟩
      rw[a5i];exact hq _ (aA.refl _)
     ·refine⟨D,_,Z,aK.of d2,?_⟩
      rw[OJ];exact k H2 s2
   ·rw[<-LF,show decide ((1:Int)<=(z.length:Int))=false from Au.mpr h1,fV,fV]at k
    exact⟨_,Z,ba (k H (aA.refl _))⟩
  ·have e:isNm d=false:=by cases d<;>first|rfl|exact absurd rfl (hn _)
   rw[e]at k;refine⟨_,Z,.inl ⟨_,_,"str",false,Z,rd.ty,az,ht,_,Z,ba ?_⟩⟩;exact k H (aA.refl _)
inductive a5V(K:aa)(vs:List V)(H:Hp)(Q:VK):Prop |mk (x:_)(v:_)(wd:_)(d:_)(h0:vs=[x,v])(h1:RD K H x wd)(h2:RD K H v d)(h3:cD 8 wd)(h4:cD 8 d)(h5:j4 d=true)(h6:∀H',aA H H'->Q (.bl (nH wd d)) H')
def Ii(K:aa):Sp:=λvs H Q _=>a5V K vs H Q
theorem uQ{d:ah}(h:cD 8 d):SeqAt.shaped d=true:=h.shaped az
abbrev C5:Stmt:=top 37
theorem JV:bj ["word","value"] ["word","value"] (aP C5):=bw aM
theorem We(F:FA K mg "is_short_item" C5)(B:bE mg)(a1d:GV mg "LONGEST_WAIT" (.int 1000))(gS:GT K mg "SIDES" [.str "up",.str "down"])(ir:aG P w K mg au "is_whole_within" 2 (lQ K))(a0c:aG P w K mg au "is_name" 1 (Ia isNm K)):aG P w K mg au "is_short_item" 3 (Ii K):=by
 refine F.has JV (λvs H Q E h=>?_) (λ_ _ _ _ _ _=>cJ λ_ _=>rfl) (λf aE A outer s H vs Q E hr h=>?_)
 ·obtain⟨x,v,wd,d,rfl,_⟩:=h
  rfl
 ·obtain⟨x,v,wd,d,rfl,CF,rd,Dr,vh,sh,k⟩:=h
  have nd:=JV.nd;obtain⟨aS,a0T,S6⟩:=gS;refine⟨_,(aD (bD (bT (dR K Z hr.units) (pv 0) ck (bM _)) (aH (aZ (pf ir hr (ao (pv 1) (ao aF (ao (cy (x:="LONGEST_WAIT") Z a1d) ay)))))) bG) (aD (bD (bT (dR K Z hr.units) (pv 0) ck (bM _)) (aH (aZ (jH (Zb K Z (hr.Hr)) (pv 1) (cy (x:="SIDES") Z a0T) (by with_unfolding_all rfl)))) bG) (aH (aZ (qq (jH (dR K Z hr.units) (pv 0) ck (bM _)) (sO (pf a0c hr (ao (pv 1) ay)))))))),?_⟩;have k:∀H',aA H H'->Q (.bl (if fO "wait" wd then cC 1 1000 d else if fO "tool" wd then E6 d else fO "mark" wd&&isNm d)) H':=k;refine⟨_,Z,.inr ⟨_,_,CF,dN _,uQ Dr,aM,_,Z,?_⟩⟩;rw[we];cases e1:fO "wait" wd with |true=>rw[e1,bo rfl]at k;exact ba ⟨_,Z,_,d,1,1000,Z,rd,k H (aA.refl _)⟩ |false=>rw[e1,bf cI]at k;refine aU ⟨_,Z,.inr ⟨_,_,CF,dN _,uQ Dr,aM,_,Z,?_⟩⟩;rw[we];cases e2:fO "tool" wd with
   |true=>
    rw[e2,bo rfl]at k;refine ba ⟨_,Z,aS,_,d,[.str "up",.str "down"],Z,S6 H,rd,bJ (dN _) (bJ (dN _) bW),uQ vh,?_,?_⟩
    ·intro e he
     rcases bZ.mp he with rfl|he
     ·decide+kernel
     rcases bZ.mp he with rfl|he
     ·decide+kernel
     ·exact(dX he).elim
    ·have e:([.str "up",.str "down"]:List ah).any (λe=>PyData.eqv e d)=E6 d:=by rw[uz,uz,List.any_nil,NB,NB,Bool.or_false];rfl
     rw[e];exact k H (aA.refl _) |false=>rw[e2,bf cI]at k;refine aU ⟨_,Z,.inr ⟨_,_,CF,dN _,uQ Dr,aM,_,Z,?_⟩⟩;rw[we];cases e3:fO "mark" wd with |true=>rw[e3,iH]at k;exact ba ⟨_,Z,_,d,Z,rd,sh,k⟩ |false=>rw[e3,fV]at k;exact aU (k H (aA.refl _))
theorem WQ(i:Int):(!decide (i=0))=(i !=0):=by rw[iX];simp
theorem Za{lo hi:Int}{d:ah}(h:cC lo hi d=true):∃i,d= .int i:=by cases d<;>simp[cC]at h;exact⟨_,Z⟩
theorem any_map'{ds:List ah}{f:ah->Bool}:(ds.map f).any id=ds.any f:=by rw[List.any_map];rfl
inductive a5T(K:aa)(vs:List V)(H:Hp)(Q:VK):Prop |mk (m:V)(v:V)(rs:List Int)(es:List ah)(d:ah)(h0:vs=[m,v])(h1:RD K H m ((.tuple (.tuple (rs.map PyData.int)::es))))(h2:RD K H v d)(h3:rs.length<=3)(h4:∀H',aA H H'->Q (.bl (qx rs.length d)) H')
def Ig(K:aa):Sp:=λvs H Q _=>a5T K vs H Q
abbrev Ct:Stmt:=top 36
theorem Kf:bj ["machine","thing","rails"] ["machine","thing"] (aP Ct):=bw aM
theorem WC(F:FA K mg "are_steps" Ct)(B:bE mg)(MX:GV mg "MOST_STEPS" (.int 100))(ir:aG P w K mg au "is_whole_within" 2 (lQ K)):aG P w K mg au "are_steps" 3 (Ig K):=by
 refine F.has Kf (λvs H Q E h=>?_) (λ_ _ _ _ _ _=>cJ λ_ _=>rfl) (λf aE A outer s H vs Q E hr h=>?_)
 ·obtain⟨m,v,rs,es,d,rfl,_⟩:=h
  rfl
 ·obtain⟨m,v,rs,es,d,rfl,rm,rd,l3,k⟩:=h
  have nd:=Kf.nd;refine⟨_,(aD (pS 2 nd (px K (pv 0) aF)) (aD (bD (PW.pt (kr (cE (bS (kC K B (ao (pv 1) (ao (jJ (x:="tuple") (v:=.ty "tuple") Z (B.at "tuple") jA rfl) ay))))) (kl (bT (sX K rfl hr.units) (fo K B (ao (pv 1) ay)) (fo K B (ao (pv 2) ay)) (bM _))))) (aH (aZ ib)) bG) (aD (bD (cE (bS (dG (x:="all") (tY K Z Z) Z (B.at "all") x8 (ao (gQ (N:=["step"]) (js:=[none]) rfl rfl rfl (nc K rfl (pv 1)) (λ_ _ _ _ _=>(bu 0 (oK _))) (λ_ _ _ _ _=>gb) (λ_ _ _ _ _=>(pf ir hr (ao (pv 0) (ao (lU lN (cy (x:="MOST_STEPS") rfl MX)) (ao (cy (x:="MOST_STEPS") rfl MX) ay)))))) ay)))) (aH (aZ ib)) bG) (aH (aZ (dG (x:="any") (a56 K Z Z) Z (B.at "any") PyProof.Rows.boot_any (ao (gQ (N:=["step"]) (js:=[none]) rfl rfl rfl (nc K rfl (pv 1)) (λ_ _ _ _ _=>(bu 0 (oK _))) (λ_ _ _ _ _=>gb) (λ_ _ _ _ _=>(jH (sX K rfl hr.units) (pv 0) aF (bM _)))) ay))))))),?_⟩;obtain⟨am,ar,ym,rfl,hm,har⟩:=Y2 rm;refine⟨_,Z,.inr ⟨am,_,0,_,Z,Z,hm,eK (gO 0) Z,?_⟩⟩;rcases uE d with⟨ds,rfl⟩|⟨ht,hn⟩
  ·refine⟨_,Z,.inl ⟨_,_,"tuple",true,Z,rd.ty,az,oh,_,Z,aU ?_⟩⟩
   obtain⟨av,xs,rfl,hx,hd⟩:=rd.da;have hl:=hd.length;refine⟨_,Z,av,_,Z,.inr hx,_,Z,ar,_,Z,.inr har,.inl ⟨_,_,Z,Z,_,Z,?_⟩⟩;have k:∀H',aA H H'->Q (.bl ((ds.length==rs.length&&ds.all (cC (-100) 100))&&ds.any vk)) H':=k;have e0:(!decide ((xs.length:Int)=((rs.map V.int).length:Int)))= !(ds.length==rs.length):=by rw[hl,bR];congr 1;rw[iX];simp;lia
   rw[e0];cases e:(ds.length==rs.length)with |false=>rw[e,fV,fV]at k;exact ba (k H (aA.refl _)) |true=>
    rw[e,iH]at k;refine aU ?_;have el:ds.length=rs.length:=cP.mp e;refine⟨_,Z,av,Z,⟨_,hx⟩,λD H0 nw=>?_⟩;refine zQ (xs:=xs) (bs:=ds.map (cC (-100) 100)) [] hx nw (by rw[bR,hl]) aw ?_ ?_
    ·intro i x b H2 Q' ex eb s2 hq
     obtain⟨d,ed,rfl⟩:=yU eb;obtain⟨x',iz,rx⟩:=hd.get i ed;rw[ex]at iz;cases iz;exact⟨_,Z,_,Z,_,d,-100,100,Z,RD.mono s2 _ rx,hq _ (aA.refl _)⟩
    ·intro H2 s2 d2
     refine⟨D,_,Z,aK.of d2,_,Z,?_⟩;rw[all_map];cases e1:ds.all (cC (-100) 100)with |false=>rw[e1,fV]at k;exact ba (k H2 s2) |true=>
      rw[e1,iH]at k;refine aU ⟨_,Z,av,Z,⟨_,hx.go s2⟩,λD2 H3 n3=>?_⟩;refine zQ (xs:=xs) (bs:=ds.map vk) [] (hx.go s2) n3 (by rw[bR,hl]) aw ?_ ?_
      ·intro i x b H4 Q' ex eb s4 hq
       obtain⟨d,ed,rfl⟩:=yU eb;obtain⟨x',iz,rx⟩:=hd.get i ed;rw[ex]at iz;cases iz;obtain⟨z,rfl⟩:=Za (fG.mp e1 d (hJ ed));cases rx.int_inv;refine⟨_,Z,.inl ⟨_,_,Z,Z,?_⟩⟩;show Q' (.bl (!decide (z=0))) H4;rw[WQ];exact hq _ (aA.refl _)
      ·intro H4 s4 d4
       refine⟨D2,_,Z,aK.of d4,?_⟩;rw[any_map'];exact k H4 (s2.trans s4)
  ·have e:qx rs.length d=false:=by cases d<;>first|rfl|exact absurd rfl (hn _)
   rw[e]at k;refine⟨_,Z,.inl ⟨_,_,"tuple",false,Z,rd.ty,az,ht,_,Z,ba ?_⟩⟩;exact k H (aA.refl _)
theorem item_cases(n:Nat)(d:ah):(∃wd a b,d= .tuple [wd,a,b])\/(∃wd v,d= .tuple [wd,v])\/(∃ds,d= .tuple ds/\ds.length≠3/\ds.length≠2/\gU n d=false)\/(fD (gz d) "tuple"=false/\gU n d=false):=by
 rcases uE d with⟨ds,rfl⟩|⟨ht,hn⟩
 ·match ds with |[r,a,b]=>exact .inl ⟨r,a,b,Z⟩ |[r,a]=>exact .inr (.inl ⟨r,a,Z⟩) |[]=>exact .inr (.inr (.inl ⟨_,Z,by simp,by simp,by simp[gU]⟩)) |[_]=>exact .inr (.inr (.inl ⟨_,Z,by simp,by simp,by simp[gU]⟩)) |_::_::_::_::_=>exact .inr (.inr (.inl ⟨_,Z,by simp,by simp,by simp[gU]⟩))
 ·exact .inr (.inr (.inr ⟨ht,by cases d<;>first|rfl|exact absurd rfl (hn _)⟩))
inductive a6y(K:aa)(vs:List V)(H:Hp)(Q:VK):Prop |mk (m:V)(v:V)(rs:List Int)(es:List ah)(d:ah)(h0:vs=[m,v])(h1:RD K H m ((.tuple (.tuple (rs.map PyData.int)::es))))(h2:RD K H v d)(h3:rs.length<=3)(h4:cD 8 d)(h5:lR d=true)(h6:∀H',aA H H'->Q (.bl (gU rs.length d)) H')
def uL(K:aa):Sp:=λvs H Q _=>a6y K vs H Q
theorem Du{ds:List ah}(h:cD 8 (.tuple ds)){d:ah}(hd:d∈ds):cD 8 d:=((cD.da (n:=7) h) d hd).le az
theorem Si{ds:List ah}(h:lR (.tuple ds)=true){d:ah}(hd:d∈ds):j4 d=true:=fG.mp (show ds.all j4=true from h) d hd
abbrev C9:Stmt:=top 31
theorem JZ:bj ["machine","thing","word","steps","speed","value"] ["machine","thing"] (aP C9):=bw aM
theorem Wi(F:FA K mg "is_item" C9)(B:bE mg)(a1i:GV mg "GREATEST_SPEED" (.int 20))(ir:aG P w K mg au "is_whole_within" 2 (lQ K))(a0N:aG P w K mg au "are_steps" 3 (Ig K))(a0b:aG P w K mg au "is_short_item" 3 (Ii K)):aG P w K mg au "is_item" 4 (uL K):=by
 refine F.has JZ (λvs H Q E h=>?_) (λ_ _ _ _ _ _=>cJ λ_ _=>rfl) (λf aE A outer s H vs Q E hr h=>?_)
 ·obtain⟨m,v,rs,es,d,rfl,_⟩:=h
  rfl
 ·obtain⟨m,v,rs,es,d,rfl,rm,rd,l3,vh,sh,k⟩:=h
  have nd:=JZ.nd;refine⟨_,(aD (bD (cE (bS (kC K B (ao (pv 1) (ao (jJ (x:="tuple") (v:=.ty "tuple") Z (B.at "tuple") jA rfl) ay))))) (aH (aZ ib)) bG) (aD (bD (bT (dR K Z hr.units) (fo K B (ao (pv 1) ay)) aF (bM _)) (aD (gc (pv 1) (fm K Z (n:=3) Z (bV (bu 2 nd) (bV (bu 3 nd) (bV (bu 4 nd) fk))))) (aH (aZ (qq (jH (dR K Z hr.units) (pv 2) ck (bM _)) (qq (pf a0N hr (ao (pv 0) (ao (pv 3) ay))) (sO (pf ir hr (ao (pv 4) (ao aF (ao (cy (x:="GREATEST_SPEED") Z a1i) ay)))))))))) bG) (aD (bD (bT (dR K Z hr.units) (fo K B (ao (pv 1) ay)) aF (bM _)) (aD (gc (pv 1) (fm K Z (n:=2) Z (bV (bu 2 nd) (bV (bu 5 nd) fk)))) (aH (aZ (pf a0b hr (ao (pv 2) (ao (pv 5) ay)))))) bG) (aH (aZ ib))))),?_⟩;rcases item_cases rs.length d with⟨wd,a,b,rfl⟩|⟨wd,a,rfl⟩|⟨ds,rfl,h3,h2,hf⟩|⟨ht,hf⟩
  ·refine⟨_,Z,.inl ⟨_,_,"tuple",true,Z,rd.ty,az,oh,_,Z,aU ?_⟩⟩
   obtain⟨p,xs,rfl,hx,hd⟩:=rd.da;obtain⟨u1,ys,rfl,r1,hd⟩:=hd.cons_inv;obtain⟨u2,ys,rfl,r2,hd⟩:=hd.cons_inv;obtain⟨u3,ys,rfl,r3,hd⟩:=hd.cons_inv;cases hd.nil_inv;have k:∀H',aA H H'->Q (.bl (fO "line" wd&&(qx rs.length a&&cC 1 20 b))) H':=k;refine⟨_,Z,p,_,Z,.inr hx,.inl ⟨_,_,Z,Z,_,Z,ba ?_⟩⟩;refine⟨_,Z,p,_,Z,hx,Z,_,_,Z,_,_,Z,_,_,Z,Z,?_⟩;refine⟨_,Z,.inr ⟨_,_,r1,dN _,uQ (Du vh (by simp)),aM,_,Z,?_⟩⟩;rw[we];cases e1:fO "line" wd with |false=>rw[e1,fV]at k;exact aU (k H (aA.refl _)) |true=>rw[e1,iH]at k;refine ba ⟨_,Z,_,Z,_,_,rs,es,a,Z,rm,r2,l3,λH1 s1=>⟨_,Z,?_⟩⟩;cases e2:qx rs.length a with |false=>rw[e2,fV]at k;exact aU (k H1 s1) |true=>rw[e2,iH]at k;exact ba ⟨_,Z,_,b,1,20,Z,RD.mono s1 _ r3,k H1 s1⟩
  ·refine⟨_,Z,.inl ⟨_,_,"tuple",true,Z,rd.ty,az,oh,_,Z,aU ?_⟩⟩
   obtain⟨p,xs,rfl,hx,hd⟩:=rd.da;obtain⟨u1,ys,rfl,r1,hd⟩:=hd.cons_inv;obtain⟨u2,ys,rfl,r2,hd⟩:=hd.cons_inv;cases hd.nil_inv;have k:∀H',aA H H'->Q (.bl (nH wd a)) H':=k;refine⟨_,Z,p,_,Z,.inr hx,.inl ⟨_,_,Z,Z,_,Z,aU ?_⟩⟩;refine⟨_,Z,p,_,Z,.inr hx,.inl ⟨_,_,Z,Z,_,Z,ba ?_⟩⟩;refine⟨_,Z,p,_,Z,hx,Z,_,_,Z,_,_,Z,Z,?_⟩;exact⟨_,Z,_,Z,_,_,wd,a,Z,r1,r2,Du vh (by simp),Du vh (by simp),Si sh (by simp),k⟩
  ·rw[hf]at k
   refine⟨_,Z,.inl ⟨_,_,"tuple",true,Z,rd.ty,az,oh,_,Z,aU ?_⟩⟩;obtain⟨p,xs,rfl,hx,hd⟩:=rd.da;have hl:=hd.length;refine⟨_,Z,p,_,Z,.inr hx,.inl ⟨_,_,Z,Z,_,Z,?_⟩⟩;rw[show decide ((xs.length:Int)=3)=false from cX aw];refine aU ⟨_,Z,p,_,Z,.inr hx,.inl ⟨_,_,Z,Z,_,Z,?_⟩⟩;rw[show decide ((xs.length:Int)=2)=false from cX aw];exact aU (k H (aA.refl _))
  ·rw[hf]at k
   refine⟨_,Z,.inl ⟨_,_,"tuple",false,Z,rd.ty,az,ht,_,Z,ba ?_⟩⟩;exact k H (aA.refl _)
def kI(rs:List Int):ah->Bool | .tuple es=>es.length==rs.length&&((es.zip rs).map λp=>cC 0 p.2 p.1).all id |_=>false
inductive a6A(K:aa)(vs:List V)(H:Hp)(Q:VK):Prop |mk (m:V)(v:V)(rs:List Int)(ds:List ah)(d:ah)(h0:vs=[m,v])(h1:RD K H m (.tuple (.tuple (rs.map PyData.int)::ds)))(h2:RD K H v d)(h3:rs.length<=3)(h4:∀H',aA H H'->Q (.bl (kI rs d)) H')
def uN(K:aa):Sp:=λvs H Q _=>a6A K vs H Q
theorem zip_get{es:List ah}{rs:List Int}{i:Nat}{b:Bool}(h:((es.zip rs).map λp=>cC 0 p.2 p.1)[i]? =some b):∃e r,es[i]? =some e/\rs[i]? =some r/\cC 0 r e=b:=by rw[cZ]at h;cases q:(es.zip rs)[i]? with |none=>rw[q]at h;cases h |some p=>rw[q]at h;obtain⟨e1,e2⟩:=xq.mp q;exact⟨p.1,p.2,e1,e2,dW h⟩
theorem ints_get{rs:List Int}{i:Nat}{r:Int}(h:rs[i]? =some r):(rs.map V.int)[i]? =some (.int r):=by rw[cZ,h];rfl
abbrev C6:Stmt:=top 22
theorem JW:bj ["machine","thing","rails"] ["machine","thing"] (aP C6):=bw aM
theorem Wf(F:FA K mg "is_place" C6)(B:bE mg)(ir:aG P w K mg au "is_whole_within" 2 (lQ K)):aG P w K mg au "is_place" 3 (uN K):=by
 refine F.has JW (λvs H Q E h=>?_) (λ_ _ _ _ _ _=>cJ λ_ _=>rfl) (λf aE A outer s H vs Q E hr h=>?_)
 ·obtain⟨m,v,rs,ds,d,rfl,_⟩:=h
  rfl
 ·obtain⟨m,v,rs,ds,d,rfl,rm,rd,l3,k⟩:=h
  have nd:=JW.nd;refine⟨_,(aD (pS 2 nd (px K (pv 0) aF)) (aD (bD (PW.pt (kr (cE (bS (kC K B (ao (pv 1) (ao (jJ (x:="tuple") (v:=.ty "tuple") Z (B.at "tuple") jA rfl) ay))))) (kl (bT (sX K rfl hr.units) (fo K B (ao (pv 1) ay)) (fo K B (ao (pv 2) ay)) (bM _))))) (aH (aZ ib)) bG) (aH (aZ (dG (x:="all") (tY K Z Z) Z (B.at "all") x8 (ao (gQ (N:=["number","rail"]) (js:=[none,none]) rfl rfl rfl (sM K rfl false false rfl (B.at "zip") (ao (pv 1) (ao (pv 2) ay))) (λ_ _ _ _ _=>(fm K rfl (n:=2) rfl (bV (bu 0 (fX az)) (bV (bu 1 (fX az)) fk)))) (λ_ _ _ _ _=>gb) (λ_ _ _ _ _=>(pf ir hr (ao (pv 0) (ao aF (ao (pv 1) ay)))))) ay)))))),?_⟩;obtain⟨am,xm,rfl,hm,hdm⟩:=rm.da;obtain⟨yr,ym,rfl,r1,a8t⟩:=hdm.cons_inv;obtain⟨ar,xr,rfl,zd,hdr⟩:=r1.da;cases hdr.jb;refine⟨_,Z,.inr ⟨am,_,0,_,Z,Z,hm,eK (gO 0) Z,?_⟩⟩;rcases uE d with⟨es,rfl⟩|⟨ht,hn⟩
  ·refine⟨_,Z,.inl ⟨_,_,"tuple",true,Z,rd.ty,az,oh,_,Z,aU ?_⟩⟩
   obtain⟨av,xs,rfl,hx,hd⟩:=rd.da;have hl:=hd.length;refine⟨_,Z,av,_,Z,.inr hx,_,Z,ar,_,Z,.inr zd,.inl ⟨_,_,Z,Z,_,Z,?_⟩⟩;have k:∀H',aA H H'->Q (.bl (es.length==rs.length&&((es.zip rs).map λp=>cC 0 p.2 p.1).all id)) H':=k;have e0:(decide ((xs.length:Int)=((rs.map V.int).length:Int)))=(es.length==rs.length):=by rw[hl,bR,iX];simp;lia
   rw[e0];cases e:(es.length==rs.length)with |false=>rw[e,fV]at k;exact ba (k H (aA.refl _)) |true=>
    rw[e,iH]at k;refine aU ?_;have el:es.length=rs.length:=cP.mp e;refine⟨_,Z,_,Z,av,ar,Z,⟨_,hx⟩,⟨_,zd⟩,λD H0 nw=>?_⟩;refine a4q (b1:=false) (b2:=false) (xs:=xs) (ys:=rs.map V.int) (bs:=(es.zip rs).map λp=>cC 0 p.2 p.1) [] rfl hx zd nw (by rw[bR,bR,List.length_zip,hl]) (by rw[bR,List.length_zip];lia) ?_ ?_
    ·intro i x y b H2 Q' ex ey eb s2 hq
     obtain⟨e',r,ee,er,rfl⟩:=zip_get eb;obtain⟨x',iz,rx⟩:=hd.get i ee;rw[ex]at iz;cases iz;rw[ints_get er]at ey;cases ey;exact⟨_,Z,_,Z,_,e',0,r,Z,RD.mono s2 _ rx,hq _ (aA.refl _)⟩
    ·intro H2 s2 d2
     exact⟨D,_,Z,aK.of d2,k H2 s2⟩
  ·have e:kI rs d=false:=by cases d<;>first|rfl|exact absurd rfl (hn _)
   rw[e]at k;refine⟨_,Z,.inl ⟨_,_,"tuple",false,Z,rd.ty,az,ht,_,Z,ba ?_⟩⟩;exact k H (aA.refl _)
inductive a6n(K:aa)(vs:List V)(H:Hp)(Q:VK):Prop |mk (pw:_)(b:_)(pl:_)(ns:_)(h0:vs=[pw,.ref b])(h1:RD K H pw (eh pl))(h2:aQ K H b (ns.map V.int))(h3:ns.length=pl.length)(h4:pl.length<=1000)(h5:∀v' H',RD K H' v' (eh (jx pl ns))->aA H H'->Q v' H')
def y8(K:aa):Sp:=λvs H Q _=>a6n K vs H Q
abbrev BP:Stmt:=top 35
theorem JG:bj ["place","steps"] ["place","steps"] (aP BP):=bw aM
theorem VX(F:FA K mg "moved" BP)(B:bE mg):aG P w K mg au "moved" 1 (y8 K):=by
 refine F.has JG (λvs H Q E h=>?_) (λ_ _ _ _ _ _=>cJ λ_ _=>rfl) (λf aE A outer s H vs Q E hr h=>?_)
 ·obtain⟨pw,b,pl,ns,rfl,_⟩:=h
  rfl
 ·obtain⟨pw,b,pl,ns,rfl,rp,hb,ln,hz,k⟩:=h
  have nd:=JG.nd;refine⟨_,(aH (aZ (jI (x:="tuple") (mS K Z) Z (B.at "tuple") jA (ao (gQ (N:=["number","step"]) (js:=[none,none]) rfl rfl rfl (sM K rfl false false rfl (B.at "zip") (ao (pv 0) (ao (pv 1) ay))) (λ_ _ _ _ _=>(fm K rfl (n:=2) rfl (bV (bu 0 (fX az)) (bV (bu 1 (fX az)) fk)))) (λ_ _ _ _ _=>gb) (λ_ _ _ _ _=>(aW fJ (pv 0) (pv 1)))) ay)))),?_⟩;obtain⟨pa,rfl,hp⟩:=yu rp;refine⟨_,Z,_,Z,pa,b,Z,⟨_,hp⟩,⟨_,hb⟩,λD H1 n1=>?_⟩;refine zP (K:=K) (b1:=false) (b2:=false) (xs:=pl.map V.int) (ys:=ns.map V.int) (ds:=(jx pl ns).map PyData.int) [] rfl hp hb n1 (by simp[Gh ln,ln]) (by rw[bR,Gh ln];exact hz) (nk _) ?_ ?_
  ·intro i x y d H2 Q' ex ey ed s2 hq
   obtain⟨m,em,rfl⟩:=qC ed;rw[cZ]at ex ey;cases e1:pl[i]? with |none=>rw[e1]at ex;cases ex |some u=>cases e2:ns[i]? with |none=>rw[e2]at ey;cases ey |some v=>rw[e1]at ex;rw[e2]at ey;cases ex;cases ey;rw[a5c e1 e2]at em;cases em;exact⟨_,Z,_,Z,_,_,Z,Z,hq _ _ (aA.refl _) (cQ _)⟩
  ·intro H2 zs s2 d2 r2
   refine⟨D,_,Z,.inl ⟨aK.of d2,λt H3 n3=>?_⟩⟩;have et:=n3.at';rw[r2.jb]at et;exact k (.ref t) H3 (KQ (aQ.of et)) (s2.trans n3.same)
inductive a6Q(K:aa)(vs:List V)(H:Hp)(Q:VK):Prop |mk (pw:_)(iv:_)(pl:_)(d:_)(o:_)(h0:vs=[pw,iv])(h1:RD K H pw (eh pl))(h2:RD K H iv d)(h3:itR d o)(h4:(∀ns sp,o=some (ns,sp)->ns.length=pl.length))(h5:pl.length<=1000)(h6:∀v' H',RD K H' v' (eh (fw pl o))->aA H H'->Q v' H')
def sy(K:aa):Sp:=λvs H Q _=>a6Q K vs H Q
abbrev Cp:Stmt:=top 34
theorem Kc:bj ["place","item"] ["place","item"] (aP Cp):=bw aM
theorem Wz(F:FA K mg "place_behind" Cp)(B:bE mg)(jS:aG P w K mg au "is_line" 1 (ou K))(Ep:aG P w K mg au "moved" 1 (y8 K)):aG P w K mg au "place_behind" 2 (sy K):=by
 refine F.has Kc (λvs H Q E h=>?_) (λ_ _ _ _ _ _=>cJ λ_ _=>rfl) (λf aE A outer s H vs Q E hr h=>?_)
 ·obtain⟨pw,iv,pl,d,o,rfl,_⟩:=h
  rfl
 ·obtain⟨pw,iv,pl,d,o,rfl,rp,ri,it,hl,hz,k⟩:=h
  have nd:=Kc.nd;refine⟨_,(aH (aZ (fW (bS (pf jS hr (ao (pv 1) ay))) (pf Ep hr (ao (pv 0) (ao (px K (pv 1) aF) ay))) (pv 0)))),?_⟩;refine⟨_,Z,iv,d,o,Z,ri,it,_,Z,?_⟩;cases o with |some q=>obtain⟨ns,sp⟩:=q;refine ba ?_;have ed:=nG it;subst ed;obtain⟨a,b,rfl,ha,hb⟩:=tf ri;exact⟨_,Z,_,Z,.inr ⟨a,_,1,.ref b,Z,Z,ha,Z,pw,b,pl,ns,Z,rp,hb,hl ns sp Z,hz,λv' H' r s=>k v' H' r s⟩⟩ |none=>refine aU ?_;exact⟨_,Z,k pw H rp (aA.refl _)⟩
open _R
def eW(m b d q p r s k t:V):List (Str×V):=[("machine",m),("begun_at",b),("done",d),("queue",q),("pace",p),("rate_now",r),("side",s),("mark",k),("stopping",t)]
structure gm(K:aa)(C:Addr):Prop where
 cl:gI K C
 nu:gp K C "machine"
 qA:gp K C "begun_at"
 lX:gp K C "done"
 ij:gp K C "queue"
 vq:gp K C "pace"
 yO:gp K C "rate_now"
 LH:gp K C "side"
 LI:gp K C "mark"
 yN:gp K C "stopping"
structure bQ where
 rs:List Int
 r:Int
 f:Int
 j:Int
 t:Int
abbrev bQ.D(M:bQ):ah:=gT M.rs M.r M.f M.j M.t
abbrev bQ.Ok(M:bQ):Prop:=lF M.rs M.r M.f M.j M.t
structure bO where
 pl:List Int
 dn:Nat
 ds:List ah
 os:List Itm
 pc:Rat
 rate:Int
 side:Str
 mark:Str
 bh:_R.lC
def u6(K:aa)(H:Hp)(v:V):_R.lC->Prop |none=>v= .aY |some (sq,st,gn)=>∃a u,v= .ref a/\aQ K H a [u,.int st,.int gn]/\bN K H u sq
structure dE(M:bQ)(D:Nat)(S:bO):Prop where
 row:fc M.rs.length S.ds S.os
 rw:RowW S.ds S.os
 len:S.ds.length<=20
 dy:10<=S.rate
 dM:S.rate<=200
 dn:S.dn=0\/∃ns sp,S.os[0]? =some (some (ns,sp))/\S.dn<aJ ns
 pl:S.pl.length=M.rs.length
 pd:Dd (D+10) S.pc
 pm:S.pc<=1600
 bh:pI D S.pc S.bh
 D1:64<=D
 D2:D<=1500
structure cx(K:aa)(C:Addr)(H:Hp)(a q:Addr)(M:bQ)(S:bO):Prop where
 ob:∃dx mv bv cf tv,H a=some (.ins C dx (eW mv bv (.int S.dn) (.ref q) cf (.int S.rate) (.str S.side) (.str S.mark) tv))/\RD K H mv M.D/\RD K H bv (eh S.pl)/\bN K H cf S.pc/\u6 K H tv S.bh
 qu:∃ys,H q=some (.lst ys)/\aI K H ys S.ds
theorem bN.v{H H':Hp}{v:V}{q:Rat}(s:cA H H')(h:bN K H v q):bN K H' v q:=by obtain⟨p,rfl,hp⟩:=h;exact⟨p,Z,aQ.v s hp⟩
theorem u6.v{H H':Hp}{v:V}{t:_R.lC}(s:cA H H')(h:u6 K H v t):u6 K H' v t:=by cases t with |none=>exact h |some q=>obtain⟨sq,st,gn⟩:=q;obtain⟨a,u,rfl,h1,h2⟩:=h;exact⟨a,u,Z,aQ.v s h1,bN.v s h2⟩
theorem cx.go{C:Addr}{H H':Hp}{a q:Addr}{M:bQ}{S:bO}(h:cx K C H a q M S)(hn:bX S.ds=true)(s:cA H H')(ea:∀o,H a=some o->H' a=some o)(eq:∀o,H q=some o->H' q=some o):cx K C H' a q M S:=by obtain⟨⟨dx,mv,bv,cf,tv,e,r1,r2,r3,r4⟩,ys,wg,rq⟩:=h;exact⟨⟨dx,mv,bv,cf,tv,ea _ e,RD.v s _ (kG _ _ _ _ _) r1,RD.v s _ (ky _) r2,r3.v s,r4.v s⟩,ys,eq _ wg,aI.v s _ hn rq⟩
theorem cx.same{C:Addr}{H H':Hp}{a q:Addr}{M:bQ}{S:bO}(h:cx K C H a q M S)(hn:bX S.ds=true)(s:aA H H'):cx K C H' a q M S:=h.go hn s.v (λo e=>s _ _ e) (λo e=>s _ _ e)
theorem cx.ne{C:Addr}{H:Hp}{a q:Addr}{M:bQ}{S:bO}(h:cx K C H a q M S):a≠q:=by obtain⟨⟨dx,mv,bv,cf,tv,e,_⟩,ys,wg,_⟩:=h;exact DF e wg (by intro z;cases z)
theorem cx.v{C:Addr}{H H':Hp}{a q:Addr}{M:bQ}{S:bO}(h:cx K C H a q M S)(b:cK [a,q] H H'):cA H H':=by
 obtain⟨⟨dx,mv,bv,cf,tv,e,_⟩,ys,wg,_⟩:=h;refine b.v λx hx o eo=>?_;simp only[bZ,dX,gs]at hx;rcases hx with rfl|rfl
 ·rw[e]at eo;cases eo;trivial
 ·rw[wg]at eo;cases eo;trivial
inductive a5Q(K:aa)(C:Addr)(G:bQ->bO->Hp->VK->Prop)(vs:List V)(H:Hp)(Q:VK):Prop |mk (a:_)(q:_)(M:_)(D:_)(S:_)(h0:vs=[.ref a])(h1:cx K C H a q M S)(h2:dE M D S)(h3:M.Ok)(h4:G M S H Q)
def iZ(K:aa)(C:Addr)(G:bQ->bO->Hp->VK->Prop):Sp:=λvs H Q _=>a5Q K C G vs H Q
abbrev BA:Stmt:=inClass (top 76) 8
theorem Sw:bj ["self"] ["self"] (aP BA):=bw aM
theorem VC{C:Addr}(F:MA K C "is_held" "Runner.is_held" BA)(TC:gm K C):eL P w K mg au C "is_held" 1 (iZ K C λ_ S H Q=>Q (.bl S.bh.isSome) H):=by
 refine F.has Sw (λvs H Q E h=>?_) (λ_ _ _ _ _ _=>fz λ_=>rfl) (λf aE A outer s H vs Q E hr h=>?_)
 ·obtain⟨a,q,M,D,S,rfl,_⟩:=h
  rfl
 ·obtain⟨a,q,M,D,S,rfl,R,ok,aO,k⟩:=h
  obtain⟨dx,mv,bv,cf,tv,e,r1,r2,r3,r4⟩:=R.ob;refine⟨_,(aH (aZ (jH Dm (cV TC.cl TC.yN (pv 0)) hZ (bM _)))),_,Z,a,dx,_,_,Z,e,Z,?_⟩;cases hs:S.bh with |none=>rw[hs]at r4 k;cases(show tv= .aY from r4);exact⟨Z,k⟩ |some z=>rw[hs]at r4 k;obtain⟨sq,st,gn⟩:=z;obtain⟨b,u,rfl,_⟩:=r4;exact⟨Z,k⟩
theorem Tz(q:Rat):PyData.eqv (cB q) (cB 0)=decide (q=0):=by
 by_cases h:q=0
 ·rw[cu h];exact eqR h
 ·rw[cX h]
  cases e:PyData.eqv (cB q) (cB 0)with |false=>rfl |true=>
   exfalso;apply h;have e':(PyData.eqv (.int q.num) (.int (0:Rat).num)&&(PyData.eqv (.int (q.den:Int)) (.int ((0:Rat).den:Int))&&true))=true:=e;rw[Av,d6]at e';obtain⟨a,b⟩:=e';have h1:q.num=(0:Rat).num:=by simpa[PyData.eqv]using a
   have h2:(q.den:Int)=((0:Rat).den:Int):=by simpa[PyData.eqv]using b
   exact Rat.ext h1 aw
abbrev Bt:Stmt:=inClass (top 76) 9
theorem Sr:bj ["self"] ["self"] (aP Bt):=bw aM
theorem Vv{C:Addr}(F:MA K C "stands" "Runner.stands" Bt)(TC:gm K C)(gN:GT K mg "NOUGHT" [.int 0,.int 1]):eL P w K mg au C "stands" 1 (iZ K C λ_ S H Q=>Q (.bl (decide (S.pc=0))) H):=by
 obtain⟨aN,jt,lP⟩:=gN;refine F.has Sr (λvs H Q E h=>?_) (λ_ _ _ _ _ _=>fz λ_=>rfl) (λf aE A outer s H vs Q E hr h=>?_)
 ·obtain⟨a,q,M,D,S,rfl,_⟩:=h
  rfl
 ·obtain⟨a,q,M,D,S,rfl,R,ok,aO,k⟩:=h
  obtain⟨dx,mv,bv,cf,tv,e,r1,r2,r3,r4⟩:=R.ob;refine⟨_,(aH (aZ (jH (dR K Z hr.units) (cV TC.cl TC.vq (pv 0)) (cy (x:="NOUGHT") rfl jt) (bM _)))),_,Z,a,dx,_,_,Z,e,Z,.inr ⟨_,_,r3.rd,(sS (lP H)).rd,Z,Z,?_⟩⟩;rw[Tz];exact k
abbrev Bz:Stmt:=inClass (top 76) 10
theorem Sv:bj ["self"] ["self"] (aP Bz):=bw aM
theorem VB{C:Addr}(F:MA K C "is_halted" "Runner.is_halted" Bz)(TC:gm K C)(EK:eL P w K mg au C "is_held" 1 (iZ K C λ_ S H Q=>Q (.bl S.bh.isSome) H))(EJ:eL P w K mg au C "stands" 1 (iZ K C λ_ S H Q=>Q (.bl (decide (S.pc=0))) H)):eL P w K mg au C "is_halted" 2 (iZ K C λ_ S H Q=>Q (.bl (S.bh.isSome&&decide (S.pc=0))) H):=by
 refine F.has Sv (λvs H Q E h=>?_) (λ_ _ _ _ _ _=>fz λ_=>rfl) (λf aE A outer s H vs Q E hr h=>?_)
 ·obtain⟨a,q,M,D,S,rfl,_⟩:=h
  rfl
 ·obtain⟨a,q,M,D,S,rfl,R,ok,aO,k⟩:=h
  obtain⟨dx,mv,bv,cf,tv,e,r1,r2,r3,r4⟩:=R.ob;refine⟨_,(aH (aZ (qq (kA EK TC.cl (hr.mono az) (pv 0)) (sO (kA EJ TC.cl (hr.mono az) (pv 0)))))),_,Z,a,dx,_,Z,e,Z,a,q,M,D,S,Z,R,ok,aO,_,Z,?_⟩;cases hs:S.bh.isSome with |false=>rw[hs]at k;exact aU k |true=>rw[hs]at k;refine ba ⟨_,Z,a,dx,_,Z,e,Z,a,q,M,D,S,Z,R,ok,aO,?_⟩;exact k
structure mF(n:Nat)(d:ah)(o:Itm):Prop where
 it:itR d o
 ln:∀ns sp,o=some (ns,sp)->eY n 100 ns/\1<=sp/\sp<=20
 ot:o=none->qY d
theorem Xq{z:Str}(h:DH z=true):isNm (.str z)=true:=h
theorem a55:∀{ns:List Int},(∃z∈ns,z≠0)->(ns.map PyData.int).any vk=true:=λ{ns} ⟨z,hz,h⟩=>List.any_eq_true.mpr ⟨.int z,gu.mpr ⟨z,hz,Z⟩,by show(z !=0)=true;simpa using h⟩
theorem a5a{ns:List Int}(h:∀z∈ns,(z.natAbs:Int)<=100):(ns.map PyData.int).all (cC (-100) 100)=true:=by rw[fG];intro d hd;obtain⟨z,hz,rfl⟩:=gu.mp hd;have:=h z hz;show(decide (-100<=z)&&decide (z<=100))=true;rw[cu bK,cu bK];rfl
theorem mF.is{n:Nat}{d:ah}{o:Itm}(h:mF n d o):gU n d=true/\cD 8 d/\lR d=true:=by cases o with
 |some q=>
  obtain⟨ns,sp⟩:=q;have ed:=nG h.it;subst ed;obtain⟨df,s1,s2⟩:=h.ln ns sp rfl;refine⟨?_,?_,Z⟩
  ·show(fO "line" (.str "line")&&(qx n (.tuple (ns.map PyData.int))&&cC 1 20 (.int sp)))=true
   have e1:fO "line" (.str "line")=true:=by decide+kernel
   have e2:qx n (.tuple (ns.map PyData.int))=true:=by show(((ns.map PyData.int).length==n&&(ns.map PyData.int).all (cC (-100) 100))&&(ns.map PyData.int).any vk)=true;rw[a5a df.bd,a55 df.nz,bR,df.len,wZ];rfl
   have e3:cC 1 20 (.int sp)=true:=by show(decide (1<=sp)&&decide (sp<=20))=true;rw[cu s1,cu s2];rfl
   rw[e1,e2,e3];rfl
  ·refine(fQ.tup (n:=1) (.cons ⟨aM,fh _⟩ (.cons (fQ.tup (n:=0) λd hd=>?_) (.cons (.int _) .nil)))).le az
   obtain⟨a,_,rfl⟩:=gu.mp hd;exact .int _ |none=>
  rcases h.ot rfl with⟨z,rfl,z1,z2⟩|⟨w,s,rfl,hw,vf,on⟩
  ·refine⟨?_,(fQ.tup (n:=0) (.cons ⟨aM,fh _⟩ (.cons (.int _) .nil))).le az,Z⟩
   show nH (.str "wait") (.int z)=true;unfold nH;rw[bo aM];show(decide (1<=z)&&decide (z<=1000))=true;rw[cu z1,cu z2];rfl
  ·have YM:j4 (.str s)=true:=by
    refine cu ?_;rcases on with⟨_,rfl|rfl⟩|⟨_,hn⟩
    ·decide+kernel
    ·decide+kernel
    ·unfold DH at hn
     simp only[d6,Ae]at hn
     lia
   refine⟨?_,(fQ.tup (n:=0) (.cons ?_ (.cons vf .nil))).le az,?_⟩
   ·rcases on with⟨rfl,hs⟩|⟨rfl,hn⟩
    ·show nH (.str "tool") (.str s)=true
     unfold nH;rw[bf aM,bo aM];rcases hs with rfl|rfl<;>decide+kernel
    ·show nH (.str "mark") (.str s)=true
     unfold nH;rw[bf aM,bf aM];rw[Xq hn];decide+kernel
   ·rcases hw with rfl|rfl<;>exact⟨aM,fh _⟩
   ·show([.str w,.str s]:List ah).all j4=true
    rw[xx,xx,List.all_nil,YM];rcases hw with rfl|rfl<;>decide+kernel
def HU(ns:List Int)(k:Int):List Int:=ns.map λz=>qz (k*z) (aJ ns)
def qk(S:bO):List Int:=if S.dn=0 then S.pl else match S.os[0]? with |some (some (ns,_))=>jx S.pl (HU ns S.dn) |_=>S.pl
def iP(S:bO):List Int:=S.os.foldl fw S.pl
theorem zV{n:Nat}{pl:List Int}{o:Itm}(h:pl.length=n)(ho:∀ns sp,o=some (ns,sp)->ns.length=n):(fw pl o).length=n:=by cases o with |none=>exact h |some q=>obtain⟨ns,sp⟩:=q;show(jx pl ns).length=n;rw[Gh (by rw[ho ns sp Z,h])];exact h
theorem Fd{n:Nat}:∀(os:List Itm)(pl:List Int),pl.length=n->(∀o∈os,∀ns sp,o=some (ns,sp)->ns.length=n)->(os.foldl fw pl).length=n |[],pl,h,_=>h |o::os,pl,h,ho=>Fd os (fw pl o) (zV h (ho o (.head _))) λx hx=>ho x (.tail _ hx)
theorem dE.vf{M:bQ}{D:Nat}{S:bO}(h:dE M D S):∀o∈S.os,∀ns sp,o=some (ns,sp)->ns.length=M.rs.length:=λo ho ns sp e=>by obtain⟨i,hi⟩:=xk.mp ho;rw[e]at hi;exact(h.row.ok i ns sp hi).1.len
theorem dE.first{M:bQ}{D:Nat}{S:bO}(h:dE M D S)(hn:S.dn≠0):∃ns sp,S.os[0]? =some (some (ns,sp))/\S.dn<aJ ns:=by
 rcases h.dn with e|e
 ·exact(hn e).elim
 ·exact e
abbrev Bu:Stmt:=inClass (top 76) 1
theorem Ss:bj ["self"] ["self"] (aP Bu):=bw aM
theorem Vw{C:Addr}(F:MA K C "place" "Runner.place" Bu)(TC:gm K C)(Ep:aG P w K mg au "moved" 1 (y8 K))(zc:aG P w K mg au "stand_at" 2 (xX K)):eL P w K mg au C "place" 3 (iZ K C λ_ S H Q=>∀v H',RD K H' v (eh (qk S))->aA H H'->Q v H'):=by
 refine F.has Ss (λvs H Q E h=>?_) (λ_ _ _ _ _ _=>fz λ_=>rfl) (λf aE A outer s H vs Q E hr h=>?_)
 ·obtain⟨a,q,M,D,S,rfl,_⟩:=h
  rfl
 ·obtain⟨a,q,M,D,S,rfl,R,ok,aO,k⟩:=h
  obtain⟨dx,mv,bv,cf,tv,e,r1,r2,r3,r4⟩:=R.ob;obtain⟨ys,eq,rq⟩:=R.qu;refine⟨_,(aD (bD (bT (dR K Z hr.units) (cV TC.cl TC.lX (pv 0)) aF (bM _)) (aH (aZ (cV TC.cl TC.qA (pv 0)))) bG) (aH (aZ (pf Ep hr (ao (cV TC.cl TC.qA (pv 0)) (ao (pf zc hr (ao (px K (cV TC.cl TC.ij (pv 0)) aF) (ao (cV TC.cl TC.lX (pv 0)) ay))) ay)))))),_,Z,a,dx,_,_,Z,e,Z,.inl ⟨_,_,Z,Z,_,Z,?_⟩⟩;by_cases h0:S.dn=0
  ·rw[cu aw]
   have ep:qk S=S.pl:=by unfold qk;rw[bo h0]
   rw[ep]at k;exact ba ⟨_,Z,a,dx,_,_,Z,e,Z,k bv H r2 (aA.refl _)⟩
  ·rw[cX aw]
   refine aU ?_;obtain⟨ns,sp,eo,hd⟩:=ok.first h0;obtain⟨df,gC,gP⟩:=ok.row.ok 0 ns sp eo;have ep:qk S=jx S.pl (HU ns S.dn):=by unfold qk;rw[bf h0,eo]
   rw[ep]at k;have ll:=ok.row.len;have zi:0<S.os.length:=(eU.mp eo).1;obtain⟨d,ed⟩:∃d,S.ds[0]? =some d:=⟨_,cH (show 0<S.ds.length by lia)⟩;obtain⟨y,ey,ry⟩:=rq.get 0 ed;have it:=ok.row.it 0 d _ ed eo;have ju:=nG it;subst ju;have E1:=vy df;have lr:=aO.len;refine⟨_,Z,a,dx,_,_,Z,e,Z,?_⟩;refine⟨_,Z,a,dx,_,_,Z,e,Z,.inl ⟨q,_,0,y,Z,Z,aK.of eq,eK (gO 0) ey,?_⟩⟩;refine⟨_,Z,a,dx,_,_,Z,e,Z,y,ns,sp,_,Z,ry,⟨Z,λz hz=>by have:=df.bd z hz;lia,df.nz⟩,by rw[df.len];lia,aw,λu H1 ru s1=>?_⟩;obtain⟨b,xs,rfl,hb,hx⟩:=ru.da;rw[hx.jb]at hb;exact⟨bv,b,S.pl,_,Z,RD.mono s1 _ r2,hb,by rw[bR,df.len,ok.pl],by rw[ok.pl];lia,λv H2 rv s2=>k v H2 rv (s1.trans s2)⟩
abbrev Bw:Stmt:=inClass (top 76) 2
theorem Jr:bj ["self","here","item"] ["self"] (aP Bw):=bw aM
theorem Vz{C:Addr}(F:MA K C "leads_to" "Runner.leads_to" Bw)(TC:gm K C)(qK:aG P w K mg au "place_behind" 2 (sy K)):eL P w K mg au C "leads_to" 3 (iZ K C λ_ S H Q=>∀v H',RD K H' v (eh (iP S))->aA H H'->Q v H'):=by
 refine F.has Jr (λvs H Q E h=>?_) (λ_ _ _ _ _ _=>fz λ_=>rfl) (λf aE A outer s H vs Q E hr h=>?_)
 ·obtain⟨a,q,M,D,S,rfl,_⟩:=h
  rfl
 ·obtain⟨a,q,M,D,S,rfl,R,ok,aO,k⟩:=h
  obtain⟨dx,mv,bv,cf,tv,e,r1,r2,r3,r4⟩:=R.ob;obtain⟨ys,eq,rq⟩:=R.qu;have nd:=Jr.nd;have ll:=ok.row.len;have ly:=rq.length;have lr:=aO.len;refine⟨_,(aD (pS 1 nd (cV TC.cl TC.qA (pv 0))) (aD (iK iG Z (yx K Z (cV TC.cl TC.ij (pv 0))) (bu 2 nd) (aH (pS 1 nd (pf qK hr (ao (pv 1) (ao (pv 2) ay)))))) (aH (aZ (pv 1))))),_,Z,a,dx,_,_,Z,e,Z,_,Z,a,dx,_,_,Z,e,Z,q,Z,⟨_,aK.of eq⟩,?_⟩;refine Nk (K:=K) (a:=q) (xs:=ys) (λi O H1=>aA H H1/\∃hv v2,RD K H1 hv (eh ((S.os.take i).foldl fw S.pl))/\O=[some (.ref a),some hv,v2]) ⟨aA.refl _,bv,none,r2,Z⟩ (λi O H1 _ h=>aK.of (h.1 _ _ eq)) ?_ ?_
  ·rintro i x O H1 hx ⟨s1,hv,v2,rh,rfl⟩
   obtain⟨d,ed,rd⟩:=rq.get' i hx;obtain⟨o,eo,it⟩:=ok.row.get ed;have lp:((S.os.take i).foldl fw S.pl).length=M.rs.length:=Fd _ _ ok.pl λo ho=>ok.vf o (xj ho);refine⟨_,Z,_,Z,hv,x,_,d,o,Z,rh,RD.mono s1 _ rd,it,λns sp e'=>by rw[lp];exact ok.vf o (hJ eo) ns sp e',aw,λv H2 rv s2=>?_⟩;refine⟨s1.trans s2,v,_,?_,Z⟩;rw[ur,eo,PQ];exact rv
  ·rintro O H1 ⟨s1,hv,v2,rh,rfl⟩
   rw[ly,ll,xi]at rh;exact⟨_,Z,k hv H1 rh s1⟩
structure Mv(a q:Addr)(H:Hp)(q':Addr)(H':Hp):Prop where
 but:cK [a,q] H H'
 nq:q'=q\/H q'=none
abbrev Bx:Stmt:=inClass (top 76) 0
theorem Su:bj ["self","machine","place"] ["self","machine","place"] (aP Bx):=bw aM
def mV(pl:List Int):bO:=⟨pl,0,[],[],0,100,"up","",none⟩
inductive a66(K:aa)(C:Addr)(vs:List V)(H:Hp)(Q:VK):Prop |mk (a:_)(dx:_)(mv:_)(bF:_)(M:_)(pl:_)(h0:vs=[.ref a,mv,bF])(h1:H a=some (.ins C dx []))(h2:RD K H mv (bQ.D M))(h3:RD K H bF (eh pl))(h4:∀q H',cx K C H' a q M (mV pl)->H q=none->cK [a] H H'->Q .aY H')
def uH(K:aa)(C:Addr):Sp:=λvs H Q _=>a66 K C vs H Q
theorem VA{C:Addr}(F:CA K mg C "Runner" "Runner.__init__" Bx)(TC:gm K C)(gN:GT K mg "NOUGHT" [.int 0,.int 1])(a1m:GV mg "FIRST_RATE" (.int 100)):r9 P w K mg au C "Runner" 1 (uH K C):=by
 obtain⟨aN,jt,lP⟩:=gN;refine F.has Su (λvs H Q E h=>?_) (λ_ _ _ _ _ _=>iR λ_ _ _=>rfl) (λf aE A outer s H vs Q E hr h=>?_)
 ·obtain⟨a,dx,mv,bF,M,pl,rfl,_⟩:=h
  rfl
 ·obtain⟨a,dx,mv,bF,M,pl,rfl,e,rm,rp,k⟩:=h
  refine⟨_,(aD (fH TC.cl TC.nu (pv 0) (pv 1)) (aD (fH TC.cl TC.qA (pv 0) (pv 2)) (aD (fH TC.cl TC.lX (pv 0) aF) (aD (fH TC.cl TC.ij (pv 0) (dF ay)) (aD (fH TC.cl TC.vq (pv 0) (cy (x:="NOUGHT") rfl jt)) (aD (fH TC.cl TC.yO (pv 0) (cy (x:="FIRST_RATE") rfl a1m)) (aD (fH TC.cl TC.LH (pv 0) ck) (aD (fH TC.cl TC.LI (pv 0) ck) (aH (fH TC.cl TC.yN (pv 0) hZ)))))))))),?_⟩;refine⟨_,Z,_,Z,a,dx,_,Z,e,az,?_⟩;refine⟨_,Z,_,Z,a,dx,_,Z,bp,by show 1<1000;decide,?_⟩;refine⟨_,Z,a,dx,_,Z,bp,by show 2<1000;decide,?_⟩;refine⟨bC Z,λq H1 n1=>?_⟩;have aq:a≠q:=λz=>by have:=n1.no;rw[<-z,bp]at this;cases this
  have e1:=n1.same _ _ (bp (a:=a));refine⟨_,Z,a,dx,_,Z,e1,by show 3<1000;decide,?_⟩;refine⟨_,Z,a,dx,_,Z,bp,by show 4<1000;decide,?_⟩;refine⟨_,Z,a,dx,_,Z,bp,by show 5<1000;decide,?_⟩;refine⟨_,Z,a,dx,_,Z,bp,by show 6<1000;decide,?_⟩;refine⟨_,Z,a,dx,_,Z,bp,by show 7<1000;decide,?_⟩;refine⟨_,Z,a,dx,_,Z,bp,by show 8<1000;decide,?_⟩;have key:∀X:Hp,(∀b,b≠a->X b=H1 b)->Q .aY (_L.upd X a (.ins C dx (eW mv bF (.int 0) (.ref q) (.ref aN) (.int 100) (.str "up") (.str "") .aY))):=by
   intro X hX;have bt:cK [a] H (_L.upd X a (.ins C dx (eW mv bF (.int 0) (.ref q) (.ref aN) (.int 100) (.str "up") (.str "") .aY))):=λb o eb hb=>by have ha:b≠a:=λz=>hb (by rw[z];exact .head _);rw[aL ha,hX b ha];exact n1.same _ _ (by rw[aL ha,aL ha,aL ha];exact eb)
   have sv:=bt.v λx hx o eo=>by rw[eg]at hx;rw[hx,e]at eo;cases eo;trivial
   refine k q _ ⟨⟨dx,mv,bF,.ref aN,.aY,bp,RD.v sv _ (kG _ _ _ _ _) rm,RD.v sv _ (ky _) rp,sS (lP _),Z⟩,[],?_,bW⟩ ?_ bt
   ·rw[aL aq.symm,hX q aq.symm];exact n1.at'
   ·have:=n1.no
    rw[aL aq.symm,aL aq.symm,aL aq.symm]at this;exact this
  exact key _ (λb hb=>by rw[aL hb,aL hb,aL hb,aL hb,aL hb])
theorem CM{M:bQ}{pl:List Int}(hp:pl.length=M.rs.length):dE M 64 (mV pl):=⟨.nil,λi d e=>by simp[mV]at e,by simp[mV],(show(10:Int)<=100 by decide),(show(100:Int)<=200 by decide),.inl rfl,hp,⟨(show(0:Rat)<=0 by decide),(show(0:Rat).den<2^74 by decide+kernel)⟩,(show(0:Rat)<=1600 by decide+kernel),trivial,az,az⟩
theorem V7{rs pl:List Int}(h:jV rs pl):kI rs (eh pl)=true:=by show((pl.map PyData.int).length==rs.length&&(((pl.map PyData.int).zip rs).map λp=>cC 0 p.2 p.1).all id)=true;rw[bR,h.len,wZ,iH,fG];intro b hb;obtain⟨⟨d,r⟩,hm,rfl⟩:=gu.mp hb;obtain⟨i,hi⟩:=xk.mp hm;obtain⟨e1,e2⟩:=(xq (z:=(d,r))).mp hi;rw[cZ]at e1;cases e:pl[i]? with |none=>rw[e]at e1;cases e1 |some x=>rw[e]at e1;cases e1;obtain⟨a1,a2⟩:=h.at' i x r e e2;show(decide (0<=x)&&decide (x<=r))=true;rw[cu a1,cu a2];rfl
def zE(S:bO)(d:ah)(o:Itm):bO:={S with ds:=S.ds++[d],os:=S.os++[o]}
theorem dE.Np{M:bQ}{D:Nat}{S:bO}{d:ah}{o:Itm}(h:dE M D S)(it:mF M.rs.length d o)(hl:S.ds.length<20):dE M D (zE S d o):=by
 have ll:=h.row.len;refine⟨h.row.snoc it.it it.ln,RowW.snoc h.rw ll it.ot,by show(S.ds++[d]).length<=20;rw[fi];show _+1<=20;lia,h.dy,h.dM,?_,h.pl,h.pd,h.pm,h.bh,h.D1,h.D2⟩;rcases h.dn with e|⟨ns,sp,e,e2⟩
 ·exact .inl e
 ·refine .inr ⟨ns,sp,?_,e2⟩
  show(S.os++[o])[0]? =_;rw[Aq (eU.mp e).1];exact e
abbrev BB:Stmt:=inClass (top 76) 11
theorem Js:bj ["self","item"] ["self","item"] (aP BB):=bw aM
def FV(s:Stmt):List Stmt:=match s with | .ClassDef _ _ _ b _ _ _ _ _ _ _=>b |_=>[]
abbrev Bb:Stmt:=(FV (top 5)).getD 0 (.Pass ⟨0,0,0,0⟩)
theorem Ja:bj ["self","at"] ["self","at"] (aP Bb):=bw aM
inductive a5I(K:aa)(vs:List V)(H:Hp)(Q:VK):Prop |mk (ex:_)(C:_)(y:_)(h0:vs=[.ref ex,y])(h1:H ex=some (.ext (jy ex C)))(h2:nX K C "at")(h3:∀dx,H dx=none->dx≠ex->Q .aY (_L.upd (_L.upd H dx (.xd [("at",y)])) ex (.ext (gZ ex C dx))))
def sf(K:aa):Sp:=λvs H Q _=>a5I K vs H Q
theorem Ll{f:Addr}{fd:FuncData}(F:gq K "__init__" "OffRails.__init__" Bb f fd):dS P w K mg au eM 1 f fd ["self","at"] (sf K):=by
 refine F.ok Ja (λvs H Q E h=>?_) (λaE A outer s H vs Q E hr h=>?_)
 ·obtain⟨ex,C,y,rfl,_⟩:=h
  rfl
 ·obtain⟨ex,C,y,rfl,e1,xc,k⟩:=h
  have nd:=Ja.nd;refine⟨_,(aH (D8 K Z (pv 0) (pv 1))),?_⟩;exact⟨_,Z,_,Z,ex,C,Z,e1,xc,k⟩
structure A2(K:aa)(mg:bc)(C fI:Addr):Prop where
 e:mH K mg "OffRails" C fI cW dg
 i:PySem.W.findIn K (.ref C) "__init__"=some (some (.ref fI))
 x:nX K C "at"
 f:fnAt K fI=true
 fn:∃fd,gq K "__init__" "OffRails.__init__" Bb fI fd
structure qX where
 n:Addr
 o:Addr
 f:Addr
 m:Addr
 r:Addr
 i:Addr
structure a5s(K:aa)(mg:bc)(R:qX):Prop where
 n:Exc K mg "NoItem" R.n cW dg
 o:A2 K mg R.o R.i
 f:Exc K mg "Full" R.f cW dg
 m:Exc K mg "Moving" R.m cW dg
 r:Exc K mg "NoRate" R.r cW dg
theorem Ml{rs pl:List Int}(h:pl.length=rs.length):kI rs (eh pl)=j9 rs pl:=by show((pl.map PyData.int).length==rs.length&&(((pl.map PyData.int).zip rs).map λp=>cC 0 p.2 p.1).all id)=_;rw[bR,h,wZ,iH,List.zip_map_left,List.map_map,List.all_map];rfl
inductive a67(K:aa)(C:Addr)(R:qX)(vs:List V)(H:Hp)(Q:VK)(E:XK):Prop |mk (a:_)(q:_)(M:_)(D:_)(S:_)(v:_)(d:_)(h0:vs=[.ref a,v])(h1:cx K C H a q M S)(h2:dE M D S)(h3:M.Ok)(h4:RD K H v d)(h5:cD 8 d)(h6:lR d=true)(h7:((gU M.rs.length d=false/\∀H',aA H H'->E (.ref R.n) none H')\/∃o,mF M.rs.length d o/\(j9 M.rs (fw (iP S) o)=false->∀H' dx,aA H H'->H' dx=some (.xd [("at",.int (S.ds.length:Int))])->E (.ref R.o) (some dx) H')/\(j9 M.rs (fw (iP S) o)=true->S.ds.length=20->∀H',aA H H'->E (.ref R.f) none H')/\(j9 M.rs (fw (iP S) o)=true->S.ds.length<20->∀H',cx K C H' a q M (zE S d o)->cK [a,q] H H'->Q (.int (S.ds.length+1:Nat)) H')))
def xZ(K:aa)(C:Addr)(R:qX):Sp:=λvs H Q E=>a67 K C R vs H Q E
theorem VD{C:Addr}{R:qX}(F:MA K C "feed" "Runner.feed" BB)(TC:gm K C)(B:bE mg)(X:a5s K mg R)(a19:GV mg "MOST_WAITING" (.int 20))(vM:aG P w K mg au "is_item" 4 (uL K))(vL:aG P w K mg au "is_place" 3 (uN K))(qK:aG P w K mg au "place_behind" 2 (sy K))(a1s:eL P w K mg au C "leads_to" 3 (iZ K C λ_ S H Q=>∀v H',RD K H' v (eh (iP S))->aA H H'->Q v H')):iC P w K mg au C "feed" 5 (xZ K C R):=by
 have OC:=X.o;obtain⟨fd,FI⟩:=OC.fn;have a1K:=X.n;have a1L:=X.f;have ET:=OC.e;have EN:dS P w K mg au eM 1 R.i fd ["self","at"] (sf K):=Ll FI;have F1:Binds K fd ["self","at"] []:=FI.binds (λ_ _ _ _ _ _=>cJ λ_ _=>rfl);have ER:=OC.f;refine F.gW Js (λvs H Q E h=>?_) (λ_ _ _ _ _ _=>cJ λ_ _=>rfl) (λf aE A outer s H vs Q E hr h=>?_)
 ·obtain⟨a,q,M,D,S,v,d,rfl,_⟩:=h
  rfl
 ·obtain⟨a,q,M,D,S,v,d,rfl,Ra,ok,aO,rd,i2,i3,kk⟩:=h
  obtain⟨dx,mv,bv,cf,tv,e,r1,r2,r3,r4⟩:=Ra.ob;obtain⟨ys,eq,rq⟩:=Ra.qu;have nd:=Js.nd;have lr:=aO.len;have ly:=rq.length;refine⟨_,(aD (bD (cE (bS (pf vM hr (ao (cV TC.cl TC.nu (pv 0)) (ao (pv 1) ay))))) (aH (jG (λ_ _ _ _ _ _ _ I m q=>jC I m q) a1K gK hr.hd Z (ao ck ay))) bG) (aD (bD (cE (bS (pf vL hr (ao (cV TC.cl TC.nu (pv 0)) (ao (pf qK hr (ao (kA a1s TC.cl (hr.mono az) (pv 0)) (ao (pv 1) ay))) ay))))) (aH (yt (λ_ _ _ _ _ _ I a b q=>pQ I a b q) ET gK hr.hd EN (hr.mono az) F1 ER Z (ao (fo K B (ao (cV TC.cl TC.ij (pv 0)) ay)) ay))) bG) (aD (bD (bT Dp (fo K B (ao (cV TC.cl TC.ij (pv 0)) ay)) (cy (x:="MOST_WAITING") rfl a19) (bM _)) (aH (jG (λ_ _ _ _ _ _ _ I m q=>jC I m q) a1L gK hr.hd Z (ao ck ay))) bG) (aD (gE (oE K Z (cV TC.cl TC.ij (pv 0)) (ao (pv 1) ay))) (aH (aZ (fo K B (ao (cV TC.cl TC.ij (pv 0)) ay)))))))),?_⟩;refine⟨_,Z,a,dx,_,_,Z,e,Z,_,Z,mv,v,M.rs,_,d,Z,r1,rd,aw,i2,i3,λH1 s1=>⟨_,Z,?_⟩⟩;rcases kk with⟨i1,kn⟩|⟨o,it,ko,kf,kd⟩
  ·rw[i1]
   exact ba ⟨bC Z,kn _ s1⟩
  rw[it.is.1];refine aU ?_;have e1:=s1 _ _ e;have R1:=Ra.same ok.row.no s1;refine⟨_,Z,a,dx,_,_,Z,e1,Z,?_⟩;refine⟨_,Z,a,dx,_,Z,e1,Z,a,q,M,D,S,Z,R1,ok,aO,λg H2 rg s2=>?_⟩;have gD:=s1.trans s2;have gl:(iP S).length=M.rs.length:=Fd _ _ ok.pl ok.vf;have bl:(fw (iP S) o).length=M.rs.length:=zV gl λns sp eo=>(it.ln ns sp eo).1.len;refine⟨_,Z,g,v,iP S,d,o,Z,rg,RD.mono gD _ rd,it.it,λns sp e'=>by rw[gl];exact(it.ln ns sp e').1.len,aw,λu H3 ru s3=>?_⟩;have fE:=gD.trans s3;refine⟨mv,u,M.rs,_,_,Z,RD.mono fE _ r1,ru,aw,λH4 s4=>⟨_,Z,?_⟩⟩;rw[Ml bl];have fj:=fE.trans s4;have e4:=fj _ _ e;have eq4:=fj _ _ eq;cases ho:j9 M.rs (fw (iP S) o)with
  |false=>
   refine ba ?_;refine⟨_,Z,a,dx,_,_,Z,e4,Z,q,_,Z,.inl (aK.of eq4),bC Z,λex fx=>?_⟩;refine⟨ex,R.o,_,Z,bp,OC.x,λdd lg ne=>⟨Z,dd,bp,?_⟩⟩;have qO:H4 dd=none:=by rw[aL ne]at lg;exact lg
   rw[ly];refine ko ho _ dd (λb o' eb=>?_) ?_
   ·have e5:=fj b o' eb
    have nb:b≠ex:=eH e5 fx;have fX:b≠dd:=eH e5 qO;rw[mz nb,aL nb,aL fX,aL nb];exact e5
   ·rw[mz ne,aL ne,bp] |true=>
   refine aU ?_;refine⟨_,Z,a,dx,_,_,Z,e4,Z,q,_,Z,.inl (aK.of eq4),_,_,Z,Z,_,Z,?_⟩;by_cases N8:S.ds.length=20
   ·rw[show decide ((ys.length:Int)>=20)=true from cu aw]
    exact ba ⟨bC Z,kf ho N8 _ fj⟩
   have Me:=ok.len;rw[show decide ((ys.length:Int)>=20)=false from cX aw];refine aU ?_;have gX:sizeLine=16777216:=by decide
   refine⟨_,Z,a,dx,_,_,Z,e4,Z,.inl ⟨Z,_,aK.of eq4⟩,_,Z,q,ys,_,Z,Z,eq4,aw,?_⟩;have aq:=Ra.ne;have tu:cA H4 (_L.upd H4 q (.lst (ys++[v]))):=.upd eq4 trivial;have e5:(_L.upd H4 q (.lst (ys++[v]))) a=some (.ins C dx (eW mv bv (.int S.dn) (.ref q) cf (.int S.rate) (.str S.side) (.str S.mark) tv)):=by rw[aL aq];exact e4
   refine⟨_,Z,a,dx,_,_,Z,e5,Z,q,_,Z,.inl (aK.of bp),?_⟩;have sv:cA H (_L.upd H4 q (.lst (ys++[v]))):=fj.v.trans tu;have el:((ys++[v]).length:Int)=((S.ds.length+1:Nat):Int):=by rw[fi,ly];rfl
   rw[el];refine kd ho aw _ ⟨⟨dx,mv,bv,cf,tv,e5,RD.v sv _ (kG _ _ _ _ _) r1,RD.v sv _ (ky _) r2,r3.v sv,r4.v sv⟩,_,bp,?_⟩ λb o' eb hb=>?_
   ·exact(aI.v sv _ ok.row.no rq).append (bJ (RD.v sv _ it.it.no rd) bW)
   ·have vT:b≠q:=λz=>hb (by rw[z];simp)
    rw[aL vT];exact fj _ _ eb
end
end _a
namespace _a
open PySem PySem.Spec PyProof.Rows _L _l _W
open _T (numIn? figs isFig)
section
variable {P:af}{w:World}{K:aa}{mg:bc}{au:Heap}
def oV:Option Int->V |some i=>.int i |none=>.aY
def oD:Option Int->ah |some i=>.int i |none=>.none
def tP:Str:="0123456789"
theorem a2B:∀c<128,decide (c∈tP.cps.toList)=isFig c:=by decide+kernel
theorem a2D:∀c∈tP.cps.toList,c<128:=by decide+kernel
theorem a2C(c:Nat):decide (c∈tP.cps.toList)=isFig c:=by
 by_cases h:c<128
 ·exact a2B c h
 ·rw[cX (λhc=>h (a2D c hc)),isFig,cX (show¬c<=57 by omega),Aw]
inductive a5U(vs:List V)(H:Hp)(Q:VK):Prop |mk (y:Str)(h0:vs=[.str y])(h1:PySem.NumText.AllDigits y.cps.toList)(h2:y.length<=640)(h3:Q (.int ((PySem.NumText.digitsVal y.cps.toList:Nat):Int)) H)
def Ih:Sp:=λvs H Q _=>a5U vs H Q
abbrev Bj:Stmt:=top 93
theorem Jh:bj ["figures","size","figure"] ["figures"] (aP Bj):=bw aM
theorem Vp(F:FA K mg "size_of" Bj)(B:bE mg):aG P w K mg au "size_of" 1 Ih:=by
 refine F.has Jh (λvs H Q E h=>?_) (λ_ _ _ _ _ _=>fz λ_=>rfl) (λf aE A outer s H vs Q E hr h=>?_)
 ·obtain⟨y,rfl,_⟩:=h
  rfl
 ·obtain⟨y,rfl,hd,hl,k⟩:=h
  have nd:=Jh.nd;refine⟨_,(aD (pS 1 nd aF) (aD (iK iG Z (Dh (pv 0)) (bu 2 nd) (aH (pS 1 nd (aW fJ (aW cw aF (pv 1)) (jI (x:="int") a4I Z (B.at "int") PyProof.Rows.boot_int (ao (pv 2) ay)))))) (aH (aZ (pv 1))))),?_⟩;have hsz:y.cps.size=y.cps.toList.length:=Ax.symm;have lJ:Wd (10:Int):=by show(10:Nat)<2^5000;decide+kernel
  refine⟨_,Z,y,Z,?_⟩;refine a2p (Pv:=λi O H'=>H'=H/\∃v2,O=[some (.str y),some (.int ((PySem.NumText.digitsVal (y.cps.toList.take i):Nat):Int)),v2]) ?_ ?_ ?_
  ·exact⟨Z,_,Z⟩
  ·rintro i c O H2 hc ⟨rfl,v2,rfl⟩
   obtain⟨c1,c2⟩:=hd c (hJ hc);have hi:i<640:=by have:=(eU.mp hc).1;have e:y.length=y.cps.size:=rfl;omega
   have wv:Wd ((PySem.NumText.digitsVal (y.cps.toList.take i):Nat):Int):=by show Int.natAbs _<2^5000;rw[Int.natAbs_natCast];exact Nat.lt_trans (fF (_N.NS hd i) (uo az (GP hi))) aM
   have ei:=_N.QE c1 c2;refine⟨_,Z,_,_,Z,Z,mM lJ.bits wv.bits,_,Z,⟨_,_,Z,ei,by show 1<=640;decide,_,_,Z,Z,?_⟩⟩;refine⟨Z,some (.str ⟨#[c]⟩),?_⟩;rw[_N.NR hc];show[some (.str y),some (V.int (10*_+_)),_]=_;rw[Int.natCast_add,Int.natCast_mul,Hd];rfl
  ·rintro O H2 ⟨rfl,v2,rfl⟩
   refine⟨_,Z,?_⟩;rw[hsz,xi];exact k
inductive a6l(vs:List V)(H:Hp)(Q:VK):Prop |mk (z:Str)(h0:vs=[.str z])(h1:z.length<=640)(h2:∀H',aA H H'->Q (oV (numIn? z)) H')
def uJ:Sp:=λvs H Q _=>a6l vs H Q
abbrev BO:Stmt:=top 92
theorem JF:bj ["word","figures","size"] ["word"] (aP BO):=bw aM
theorem VV(F:FA K mg "number_in" BO)(B:bE mg)(a1n:GV mg "FIGURES" (.str tP))(ZD:aG P w K mg au "size_of" 1 Ih):aG P w K mg au "number_in" 2 uJ:=by
 refine F.has JF (λvs H Q E h=>?_) (λ_ _ _ _ _ _=>fz λ_=>rfl) (λf aE A outer s H vs Q E hr h=>?_)
 ·obtain⟨z,rfl,_⟩:=h
  rfl
 ·obtain⟨z,rfl,hl,k⟩:=h
  have nd:=JF.nd;have gX:sizeLine=16777216:=by decide
  refine⟨_,(aD (pS 1 nd (UI K Z (pv 0) (ao ck ay))) (aD (bD (PW.pt (kr (bT qt (pv 1) ck (bM _)) (kl (cE (bS (dG (x:="all") (tY K Z Z) Z (B.at "all") x8 (ao (gQ (N:=["sign"]) (js:=[none]) rfl rfl rfl (Dh (pv 1)) (λ_ _ _ _ _=>(bu 0 (oK _))) (λ_ _ _ _ _=>gb) (λ_ _ _ _ _=>(jH Lf (pv 0) (cy (x:="FIGURES") rfl a1n) (by with_unfolding_all rfl)))) ay))))))) (aH (aZ hZ)) bG) (aD (bD (PW.pt (oB (bT qt (KZ YU (pv 1) aF (λ_ _=>rfl)) ck (bM _)) (sJ (bT V1 (pv 0) ck (bM _))))) (aH (aZ hZ)) bG) (aD (pS 2 nd (pf ZD hr (ao (pv 1) ay))) (aH (aZ (fW (bS (UH K Z (pv 0) (ao ck ay))) (lU lN (pv 2)) (pv 2)))))))),?_⟩;refine⟨_,Z,Z,z,"-",Z,Z,bK,?_⟩;have ef:=_T.Tb z;generalize hz:Txt.removeprefix z "-"=y at ef;unfold numIn? at k;rw[<-ef]at k;have hly:y.length<=z.length:=by
   have e1:y.cps.toList.length=(figs z).length:=by rw[ef]
   have e2:(figs z).length<=z.cps.toList.length:=by
    unfold figs;split
    ·rename_i h;rw[h];simp
    ·rename_i h _;exact bA _
   simpa[Str.length]using fA (Nat.le_of_eq e1) e2
  refine⟨_,Z,Z,_,Z,?_⟩;refine fZ (λh0=>?_) (λh0=>?_)
  ·have hy:y="":=by simpa using h0
   rw[hy]at k;exact ba (k H (aA.refl _))
  ·have hy:y≠"":=by simpa using h0
   have dA:y.cps.toList≠[]:=λe=>hy (_T.a4j (by rw[e];rfl));have he:y.cps.toList.isEmpty=false:=by cases h:y.cps.toList with|nil=>exact(dA h).elim|cons=>rfl
   rw[he,Bool.false_or]at k;refine⟨_,Z,y,Z,λD H0 nw=>?_⟩;refine Od (f:=isFig) [] nw bK (λc H2 Q' hc s2 hq=>?_) (λH2 s2 d2=>?_)
   ·refine⟨_,Z,c,tP,Z,Z,?_⟩
    rw[a2C];exact hq _ (aA.refl _)
   ·refine⟨D,_,Z,aK.of d2,?_⟩
    rw[OJ];refine⟨_,Z,?_⟩;cases hf:y.cps.toList.all isFig with |false=>rw[hf]at k;exact ba (k H2 s2) |true=>rw[hf]at k;refine aU ?_;obtain⟨n,hn⟩:=_T.Z6 (z:=z) (by rw[<-ef];exact dA) (by rw[<-ef];exact hf) bK;rw[hn]at k;have nv:=_N.WS ef (by rw[<-ef];exact dA) (by rw[<-ef];exact hf) bK hn;cases hc:y.cps.toList with |nil=>exact(dA hc).elim |cons c r=>
     refine⟨_,Z,y,0,c,Z,Z,bK,eK (gO 0) (by rw[hc];rfl),Z,_,Z,?_⟩;have e0:decide (y.cps.toList[0]? =some 48)=decide (V.str ⟨#[c]⟩=V.str "0"):=by
      rw[hc,iX];simp only[Ae];refine⟨λh=>?_,λh=>?_⟩
      ·have h:c=48:=by simpa using h
       rw[h];decide+kernel
      ·have h:(⟨#[c]⟩:Str)="0":=by simpa using h
       have h2:[c]=[48]:=(oa (λz:Str=>z.cps.toList) h).trans aM;simpa using h2
     rw[e0]at k;have e1:(!decide (z="0"))= !decide (V.str z=V.str "0"):=by simp
     rw[e1]at k;cases h1:decide (V.str ⟨#[c]⟩=V.str "0")with
     |true=>rw[h1,iH]at k;refine ba ⟨_,Z,Z,_,Z,?_⟩;cases h2: !decide (V.str z=V.str "0")with |true=>rw[h2]at k;exact ba (k H2 s2) |false=>rw[h2]at k;refine aU ⟨_,Z,y,Z,_T.tO hf,bK,?_⟩;have fin:=k H2 s2;refine⟨_,Z,Z,z,"-",Z,Z,?_⟩;refine⟨_,Z,?_⟩;cases hs:Txt.startswith z "-" with |true=>rw[nv,bo hs]at fin;exact ba ⟨_,Z,_,Z,fin⟩ |false=>rw[nv,bf (by rw[hs];decide)]at fin;exact aU ⟨_,Z,fin⟩
     |false=>rw[h1,fV]at k;refine aU ⟨_,Z,y,Z,_T.tO hf,bK,?_⟩;have fin:=k H2 s2;refine⟨_,Z,Z,z,"-",Z,Z,?_⟩;refine⟨_,Z,?_⟩;cases hs:Txt.startswith z "-" with |true=>rw[nv,bo hs]at fin;exact ba ⟨_,Z,_,Z,fin⟩ |false=>rw[nv,bf (by rw[hs];decide)]at fin;exact aU ⟨_,Z,fin⟩
inductive a6k(K:aa)(vs:List V)(H:Hp)(Q:VK):Prop |mk (l:Addr)(zs:List Str)(h0:vs=[.ref l])(h1:aK K H l (zs.map V.str))(h2:zs.length<=1000)(h3:(∀z∈zs,z.length<=640))(h4:∀p H',aA H H'->H p=none->H' p=some (.lst (zs.map λz=>oV (numIn? z)))->Q (.ref p) H')
def AV(K:aa):Sp:=λvs H Q _=>a6k K vs H Q
theorem yH{H:Hp}(o:Option Int):RD K H (oV o) (oD o):=by cases o with |none=>exact oA |some i=>exact cQ _
theorem WN{H:Hp}{v:V}{o:Option Int}(h:RD K H v (oD o)):v=oV o:=by cases o with |none=>exact h.yL |some i=>exact h.int_inv
theorem Lr{H:Hp}:∀{xs:List V}{zs:List Str},aI K H xs (zs.map λz=>oD (numIn? z))->xs=zs.map λz=>oV (numIn? z) |xs,[],h=>h.nil_inv |xs,n::ns,h=>by obtain⟨y,ys,rfl,h1,h2⟩:=h.cons_inv;rw[WN h1,Lr h2];rfl
theorem WO(zs:List Str):bX (zs.map λz=>oD (numIn? z))=true:=eO.mpr λd hd=>by obtain⟨z,_,rfl⟩:=gu.mp hd;cases numIn? z<;>rfl
abbrev BM:Stmt:=top 91
theorem JD:bj ["words"] ["words"] (aP BM):=bw aM
theorem VU(F:FA K mg "numbers_in" BM)(B:bE mg)(vF:aG P w K mg au "number_in" 2 uJ):aG P w K mg au "numbers_in" 3 (AV K):=by
 refine F.has JD (λvs H Q E h=>?_) (λ_ _ _ _ _ _=>fz λ_=>rfl) (λf aE A outer s H vs Q E hr h=>?_)
 ·obtain⟨l,zs,rfl,_⟩:=h
  rfl
 ·obtain⟨l,zs,rfl,hl,hn,hz,k⟩:=h
  have nd:=JD.nd;refine⟨_,(aH (aZ (gQ (N:=["word"]) (js:=[none]) Z Z Z (yx K Z (pv 0)) (λ_ _ _ _ _=>(bu 0 (oK _))) (λ_ _ _ _ _=>gb) (λ_ _ _ _ _=>(pf vF hr (ao (pv 0) ay)))))),?_⟩;refine⟨_,Z,l,Z,⟨_,hl⟩,λD H1 n1=>?_⟩;refine Ob (K:=K) (ds:=zs.map λz=>oD (numIn? z)) _ hl n1 (by simp) (by simp;omega) (WO _) ?_ ?_
  ·intro i x d H2 Q' ex ed s2 hq
   rw[cZ]at ex ed;obtain⟨z,ez,rfl⟩:=PH.mp ex;rw[ez]at ed;cases ed;exact⟨_,Z,z,Z,hz z (hJ ez),λH3 s3=>hq _ _ s3 (yH _)⟩
  ·intro H2 ys s2 d2 r2
   rw[Lr r2]at d2;exact k D H2 s2 n1.no d2
def qW(z:Str):Prop:=∀c∈z.cps.toList,c<0x110000
theorem Dt{n:Nat}{z:Str}(h:qW z):cD n (.str z):=⟨by show PyData.strOk z=true;unfold PyData.strOk;rw[a7Q];exact λc hc=>cu (h c (by simpa using hc)),fh _⟩
theorem Na{c x:Nat}:∀{as:List (List Nat)}{a:List Nat},a∈as->x∈a->x∈_T.gl c as
 |[],a,h,_=>nomatch h |[b],a,h,hx=>by rw[eg.mp h]at hx;exact hx |b::d::r,a,h,hx=>by
  show x∈b++c::_T.gl c (d::r);rcases bZ.mp h with rfl|h
  ·exact GU _ hx
  ·exact gL _ (.tail _ (Na h hx))
theorem Nb{c:Nat}:∀{as:List (List Nat)}{a:List Nat},a∈as->a.length<=(_T.gl c as).length
 |[],a,h=>nomatch h |[b],a,h=>by rw[eg.mp h];exact bA _ |b::d::r,a,h=>by
  show a.length<=(b++c::_T.gl c (d::r)).length;rw[fi,fC];rcases bZ.mp h with rfl|h
  ·omega
  ·have:=Nb (c:=c) h;omega
theorem HY(z:Str)(c:Nat):_T.gl c ((Txt.split z ⟨#[c]⟩).map λy=>y.cps.toList)=z.cps.toList:=by rw[<-_T.Nc,StrLaws.join_split]
theorem S9{z y:Str}{c:Nat}(h:qW z)(hy:y∈Txt.split z ⟨#[c]⟩):qW y:=λx hx=>h x (by rw[<-HY z c];exact Na (gu.mpr ⟨y,hy,Z⟩) hx)
theorem split_le{z y:Str}{c:Nat}(hy:y∈Txt.split z ⟨#[c]⟩):y.length<=z.length:=by have:=Nb (c:=c) (gu.mpr ⟨y,hy,Z⟩:y.cps.toList∈(Txt.split z ⟨#[c]⟩).map λy=>y.cps.toList);rw[HY]at this;simpa[Str.length]using this
theorem Sb:(" ":Str)=⟨#[32]⟩:=by decide+kernel
def nI (z:Str):ah:=oD (numIn? z)
def hV:List Str->ah |[]=>.none |w::rest=>if w="line" then(match rest with |[]=>.none |r::rs=>.tuple [.str w,.tuple (((r::rs).map nI).take rs.length),((r::rs).map nI).getLastD .none]) else match rest with |[r]=>.tuple [.str w,if w="wait" then nI r else .str r] |_=>.none
def yY(n:Nat)(z:Str):ah:=bif gU n (hV (Txt.split z " "))then hV (Txt.split z " ")else .none
theorem Lq{H:Hp}:∀(zs:List Str),aI K H (zs.map λz=>oV (numIn? z)) (zs.map nI) |[]=>by simp[aI] |z::zs=>by rw[uw,uw,aI];exact⟨_,_,Z,yH _,Lq zs⟩
theorem qf{H:Hp}{x:V}{xs:List V}{d:ah}{ds:List ah}(h:RD K H x d)(r:aI K H xs ds):aI K H (x::xs) (d::ds):=by rw[aI];exact⟨_,_,Z,h,r⟩
theorem CP{H:Hp}:aI K H [] []:=by simp[aI]
theorem DI{n:Nat}(z:Str):cD n (nI z):=by unfold nI;cases numIn? z with |none=>exact .aY |some i=>exact .int i
theorem LJ(z:Str):j4 (nI z)=true:=by unfold nI;cases numIn? z<;>rfl
theorem Hx:hV ["line"]= .none:=by unfold hV;dsimp only;rw[bo rfl]
theorem Hy{r:Str}{rs:List Str}:hV ("line"::r::rs)= .tuple [.str "line",.tuple (((r::rs).map nI).take rs.length),((r::rs).map nI).getLastD .none]:=by unfold hV;dsimp only;rw[bo rfl]
theorem AG{w r:Str}(h:w≠"line"):hV [w,r]= .tuple [.str w,if w="wait" then nI r else .str r]:=by unfold hV;dsimp only;rw[bf h]
theorem AF{w:Str}{ws:List Str}(h:w≠"line")(hl:ws.length≠1):hV (w::ws)= .none:=by
 unfold hV;dsimp only;rw[bf h];split
 ·exact(hl Z).elim
 ·rfl
theorem QT{ws:List Str}(h:∀w∈ws,qW w/\w.length<=640):cD 8 (hV ws)/\lR (hV ws)=true:=by cases ws with |nil=>exact⟨.aY,Z⟩ |cons w rest=>
 obtain⟨hw,hl⟩:=h w (.head _);have sw:j4 (.str w)=true:=cu bK;by_cases hx:w="line"
 ·subst hx
  cases rest with |nil=>rw[Hx];exact⟨.aY,Z⟩ |cons r rs=>
   rw[Hy];have hm:∀d∈(r::rs).map nI,cD 0 d:=λd hd=>by obtain⟨z,_,rfl⟩:=gu.mp hd;exact DI z
   have MK:cD 0 (((r::rs).map nI).getLastD .none)/\j4 (((r::rs).map nI).getLastD .none)=true:=by rw[List.getLastD_eq_getLast?];cases e:((r::rs).map nI).getLast? with |none=>exact⟨.aY,Z⟩ |some d=>obtain⟨z,_,rfl⟩:=gu.mp (List.mem_of_getLast? e);exact⟨DI z,LJ z⟩
   have hs:fQ 2 [.str "line",.tuple (((r::rs).map nI).take rs.length),((r::rs).map nI).getLastD .none]:=λd hd=>by
    simp only[bZ,dX,gs]at hd;rcases hd with rfl|rfl|rfl
    ·exact Dt hw
    ·exact(fQ.tup (n:=0) λd hd=>hm d (xj hd)).le az
    ·exact MK.1.le az
   refine⟨hs.tup.le az,?_⟩;show[_,_,_].all j4=true;simp only[xx,List.all_nil,Av,sw,MK.2];rfl
 ·match rest,h with
  |[],_=>rw[AF hx (by simp)];exact⟨.aY,Z⟩ |[r],h=>
   rw[AG hx];obtain⟨hr,hlr⟩:=h r (.tail _ (.head _));have hv:cD 0 (if w="wait" then nI r else .str r)/\j4 (if w="wait" then nI r else .str r)=true:=by
    split
    ·exact⟨DI r,LJ r⟩
    ·exact⟨Dt hr,cu bK⟩
   have hs:fQ 1 [.str w,if w="wait" then nI r else .str r]:=λd hd=>by
    simp only[bZ,dX,gs]at hd;rcases hd with rfl|rfl
    ·exact Dt hw
    ·exact hv.1.le az
   refine⟨hs.tup.le az,?_⟩;show[_,_].all j4=true;simp only[xx,List.all_nil,Av,sw,hv.2] |_::_::_,_=>rw[AF hx (by simp)];exact⟨.aY,Z⟩
inductive a6x(K:aa)(vs:List V)(H:Hp)(Q:VK):Prop |mk (m:V)(rs:List Int)(es:List ah)(z:Str)(h0:vs=[m,.str z])(h1:RD K H m (.tuple (.tuple (rs.map PyData.int)::es)))(h2:bX es=true)(h3:rs.length<=3)(h4:z.length<=600)(h5:qW z)(h6:∀v H',aA H H'->RD K H' v (yY rs.length z)->Q v H')
def AX(K:aa):Sp:=λvs H Q _=>a6x K vs H Q
abbrev C0:Stmt:=top 90
theorem JR:bj ["machine","row","word","rest","thing","numbers"] ["machine","row"] (aP C0):=bw aM
theorem Wa(F:FA K mg "item_in" C0)(B:bE mg)(vF:aG P w K mg au "number_in" 2 uJ)(ZR:aG P w K mg au "numbers_in" 3 (AV K))(vM:aG P w K mg au "is_item" 4 (uL K)):aG P w K mg au "item_in" 5 (AX K):=by
 refine F.has JR (λvs H Q E h=>?_) (λ_ _ _ _ _ _=>cJ λ_ _=>rfl) (λf aE A outer s H vs Q E hr h=>?_)
 ·obtain⟨m,rs,es,z,rfl,_⟩:=h
  rfl
 ·obtain⟨m,rs,es,z,rfl,rm,ne,l3,hz,tz,k⟩:=h
  have nd:=JR.nd;have gX:sizeLine=16777216:=by decide
  have qJ:∀y∈Txt.split z " ",qW y/\y.length<=640:=λy hy=>by rw[Sb]at hy;have:=split_le hy;exact⟨S9 tz hy,bK⟩
  have Ei:=split_len z " ";refine⟨_,(aD (gc (Dj K Z (pv 1) (ao ck ay)) (KS K Z Z (bu 2 nd) (bu 3 nd))) (aD (pS 4 nd hZ) (aD (jn (bD (bT qt (pv 2) ck (bM _)) (aD (pS 5 nd (pf ZR hr (ao (pv 3) ay))) (aH (pS 4 nd (fW (uZ K Z (pv 5)) (dc (ao (pv 2) (ao (jI (x:="tuple") (mS K Z) Z (B.at "tuple") jA (ao (qo (yc K rfl) (pv 5) qj (qi (lU lN aF))) ay)) (ao (px K (pv 5) (lU lN aF)) ay)))) hZ)))) (aH (bD (bT qt (fo K B (ao (pv 3) ay)) aF (bM _)) (aH (pS 4 nd (dc (ao (pv 2) (ao (fW (bT qt (pv 2) ck (bM _)) (pf vF hr (ao (px K (pv 3) aF) ay)) (px K (pv 3) aF)) ay))))) bG)))) (aH (aZ (fW (bS (pf vM hr (ao (pv 0) (ao (pv 4) ay)))) (pv 4) hZ)))))),?_⟩;refine⟨_,Z,Z,z," ",Z,Z,aM,bK,λl H1 n1=>?_⟩;obtain⟨x,ws,ew⟩:∃x ws,Txt.split z " "=x::ws:=by cases e:Txt.split z " " with |nil=>exact(_T.Sa _ _ e).elim |cons x ws=>exact⟨x,ws,Z⟩
  unfold yY at k;rw[ew]at n1 qJ Ei k;rw[fC]at Ei;refine⟨l,.str x,ws.map V.str,Z,aK.of n1.at',by rw[bR];omega,λp H2 n2=>?_⟩;have s2:=n1.same.trans n2.same;have za:∀y∈ws,y.length<=640:=λy hy=>(qJ y (.tail _ hy)).2;refine⟨λO H3=>∃t w5,O=[some m,some (.str z),some (.str x),some (.ref p),some t,w5]/\aA H H3/\RD K H3 t (hV (x::ws)),?_,?_⟩
  ·refine⟨_,Z,Z,_,Z,?_⟩
   refine fZ (λh0=>?_) (λh0=>?_)
   ·have hx:x="line":=by simpa using h0
    subst hx;refine⟨_,Z,p,ws,Z,aK.of n2.at',bK,za,λq H3 s3 nq e3=>?_⟩;refine⟨_,Z,!(ws.map λz=>oV (numIn? z)).isEmpty,.inl ⟨_,aK.of e3,Z⟩,?_⟩;cases ws with |nil=>refine aU ⟨.aY,_,Z,s2.trans s3,?_⟩;rw[Hx];exact oA |cons r qd=>
     refine ba ⟨_,Z,?_⟩;refine⟨_,Z,1,Z,_,Z,q,_,Z,.inl ⟨aK.of e3,λq2 H4 n4=>?_⟩⟩;rw[a4f]at n4;have Xs:=n4.at';refine⟨q2,_,Z,.inl ⟨aK.of Xs,λq3 H5 n5=>?_⟩⟩;obtain⟨v,ev⟩:∃v,((r::qd).map λz=>oV (numIn? z)).getLast? =some v:=⟨_,PL (by simp)⟩;have e5:=n5.same _ _ (n4.same _ _ e3);refine⟨_,Z,1,Z,.inl ⟨q,_,-1,v,Z,Z,aK.of e5,OH ev,?_⟩⟩;refine⟨by show 3<=sizeLine;omega,λq6 H6 n6=>?_⟩;have s6:=(((s2.trans s3).trans n4.same).trans n5.same).trans n6.same;refine⟨_,_,Z,s6,?_⟩;rw[Hy];have el:((r::qd).map nI).getLastD .none=oD (numIn? ((r::qd).getLast (by simp))):=by rw[List.getLastD_eq_getLast?,List.getLast?_map,PL (by simp)];rfl
     have evv:v=oV (numIn? ((r::qd).getLast (by simp))):=by rw[List.getLast?_map,PL (by simp)]at ev;exact(dW ev).symm
     refine eF (aQ.of n6.at') (qf (dN _) (qf ?_ (qf ?_ CP)))
     ·refine eF (aQ.of (n6.same _ _ n5.at')) ?_
      rw[bR,fC,Nat.add_sub_cancel];exact(Lq (r::qd)).take _
     ·rw[el,evv];exact yH _
   ·have hx:x≠"line":=by simpa using h0
    refine⟨_,Z,p,_,Z,.inl (aK.of n2.at'),Z,_,Z,?_⟩;refine fZ (λh1=>?_) (λh1=>?_)
    ·have jR:ws.length=1:=by have h1:=mK h1;rw[bR]at h1;injection h1 with h1;omega
     match ws,jR,n2,za,k with
     |[r],_,n2,za,k=>
      refine⟨_,Z,_,Z,Z,_,Z,?_⟩;refine fZ (λh2=>?_) (λh2=>?_)
      ·have Ec:x="wait":=by simpa using h2
       refine⟨_,Z,.inl ⟨p,_,0,.str r,Z,Z,aK.of n2.at',Z,?_⟩⟩;refine⟨r,Z,za r (.head _),λH3 s3=>?_⟩;refine⟨by show 2<=sizeLine;omega,λq6 H6 n6=>?_⟩;refine⟨_,_,Z,(s2.trans s3).trans n6.same,?_⟩;rw[AG hx,bo Ec];exact eF (aQ.of n6.at') (qf (dN _) (qf (yH _) CP))
      ·have Ec:x≠"wait":=by simpa using h2
       refine⟨_,Z,.inl ⟨p,_,0,.str r,Z,Z,aK.of n2.at',Z,?_⟩⟩;refine⟨by show 2<=sizeLine;omega,λq6 H6 n6=>?_⟩;refine⟨_,_,Z,s2.trans n6.same,?_⟩;rw[AG hx,bf Ec];exact eF (aQ.of n6.at') (qf (dN _) (qf (dN _) CP))
    ·have jR:ws.length≠1:=λe=>h1 (cu (by rw[bR,e];rfl))
     refine⟨.aY,_,Z,s2,?_⟩;rw[AF hx jR];exact oA
  ·rintro O H3 ⟨t,w5,rfl,s3,rt⟩
   have ok:=QT (ws:=x::ws) qJ;refine⟨_,Z,_,Z,m,t,rs,es,hV (x::ws),Z,RD.mono s3 _ rm,rt,l3,ok.1,ok.2,λH4 s4=>⟨_,Z,?_⟩⟩;cases hi:gU rs.length (hV (x::ws))with |true=>rw[hi]at k;exact ba ⟨_,Z,k _ _ (s3.trans s4) (RD.mono s4 _ rt)⟩ |false=>rw[hi]at k;exact aU (k _ _ (s3.trans s4) oA)
abbrev Bp:Stmt:=top 89
theorem Jn:bj ["machine","text","told","at","row","item"] ["machine","text"] (aP Bp):=bw aM
open _r _C _P
open _O (topR cornO mnO betR atO ownF leadF ownL OkI OkIs)
def zK(zs:List Int)(top:Rat):ah:=.tuple [.str "step",.tuple (zs.map PyData.int),cB top]
abbrev Cc:Stmt:=top 119
theorem K2:bj ["machine","expected","entry","word","row","top"] ["machine","expected","entry"] (aP Cc):=bw aM
def jv(rate:Int)(ds:List ah)(os:List Itm)(i:Nat):List ah:=match os[i]? with |some (some (ns,sp))=>(List.range (aJ ns)).map λk=>zK (ki ns k) (topR rate sp) |_=>[ds.getD i .none]
def nV(rate:Int)(ds:List ah)(os:List Itm):Nat->List ah |0=>[] |i+1=>nV rate ds os i++jv rate ds os i
def nW(j rate:Int)(os:List Itm)(i:Nat):List Rat:=match os[i]? with |some (some (ns,sp))=>ownF j rate os i::List.replicate (aJ ns-1) (topR rate sp) |_=>[ownF j rate os i]
def lA(j rate:Int)(os:List Itm):Nat->List Rat |0=>[] |i+1=>lA j rate os i++nW j rate os i
theorem wm{rate:Int}{ds:List ah}{os:List Itm}{i:Nat}{ns:List Int}{sp:Int}(h:os[i]? =some (some (ns,sp))):jv rate ds os i=(List.range (aJ ns)).map λk=>zK (ki ns k) (topR rate sp):=by unfold jv;rw[h]
theorem FJ{rate:Int}{ds:List ah}{os:List Itm}{i:Nat}{d:ah}(h:os[i]? =some none)(hd:ds[i]? =some d):jv rate ds os i=[d]:=by unfold jv;rw[h,PN,hd];rfl
theorem OD{j rate:Int}{os:List Itm}{i:Nat}{ns:List Int}{sp:Int}(h:os[i]? =some (some (ns,sp))):nW j rate os i=ownF j rate os i::List.replicate (aJ ns-1) (topR rate sp):=by unfold nW;rw[h]
theorem OB{j rate:Int}{os:List Itm}{i:Nat}(h:os[i]? =some none):nW j rate os i=[ownF j rate os i]:=by unfold nW;rw[h]
theorem NT(zs:List Int)(q:Rat):dP (zK zs q)=true:=by
 have:bX (zs.map PyData.int)=true:=eO.mpr λd hd=>by obtain⟨i,_,rfl⟩:=gu.mp hd;rfl
 simp[zK,dP,bX,this,cB]
theorem zJ{n:Nat}{rate:Int}{ds:List ah}{os:List Itm}(row:fc n ds os):∀i,i<=os.length->(nV rate ds os i).length<=100*i/\bX (nV rate ds os i)=true
 |0,_=>⟨bA _,Z⟩ |i+1,h=>by
  have ll:=row.len;obtain⟨ih,Z8⟩:=zJ (rate:=rate) row i aw;obtain⟨o,eo⟩:∃o,os[i]? =some o:=⟨_,cH (show i<os.length by lia)⟩;have key:(jv rate ds os i).length<=100/\bX (jv rate ds os i)=true:=by cases o with |none=>obtain⟨d',ed⟩:∃d',ds[i]? =some d':=⟨_,cH (show i<ds.length by lia)⟩;rw[FJ eo ed];have:=eO.mp row.no _ (hJ ed);exact⟨by simp,by simp[bX,this]⟩ |some q=>obtain⟨ns,sp⟩:=q;obtain⟨df,_,_⟩:=row.ok i ns sp eo;have:=vy df;rw[wm eo,bR,Ao];refine⟨aw,eO.mpr λd hd=>?_⟩;obtain⟨k,_,rfl⟩:=gu.mp hd;exact NT _ _
  refine⟨?_,?_⟩
  ·show(nV rate ds os i++jv rate ds os i).length<=_
   rw[fi];lia
  ·refine eO.mpr λd hd=>?_
   rcases xn.mp hd with h1|h1
   ·exact eO.mp Z8 d h1
   ·exact eO.mp key.2 d h1
theorem G4{n:Nat}{j rate:Int}{ds:List ah}{os:List Itm}(row:fc n ds os):∀i,i<=os.length->(lA j rate os i).length=(nV rate ds os i).length |0,_=>rfl |i+1,h=>by have ll:=row.len;show(lA j rate os i++nW j rate os i).length=(nV rate ds os i++jv rate ds os i).length;rw[fi,fi,G4 row i aw];obtain⟨o,eo⟩:∃o,os[i]? =some o:=⟨_,cH (show i<os.length by lia)⟩;cases o with |none=>obtain⟨d',ed⟩:∃d',ds[i]? =some d':=⟨_,cH (show i<ds.length by lia)⟩;rw[FJ eo ed,OB eo];rfl |some q=>
 obtain⟨ns,sp⟩:=q;obtain⟨df,_,_⟩:=row.ok i ns sp eo;have:=df.lead;rw[wm eo,OD eo];simp
 lia
inductive a6L(K:aa)(vs:List V)(H:Hp)(Q:VK):Prop |mk (iv:_)(rate:_)(n:_)(ds:_)(os:_)(h0:vs=[iv,.int rate])(h1:RD K H iv (.tuple ds))(h2:fc n ds os)(h3:n<=3)(h4:ds.length<=30)(h5:10<=rate)(h6:rate<=200)(h7:∀l ys H',H l=none->H' l=some (.lst ys)->aI K H' ys (nV rate ds os os.length)->aA H H'->Q (.ref l) H')
def IP(K:aa):Sp:=λvs H Q _=>a6L K vs H Q
abbrev Ci:Stmt:=top 117
theorem K7:bj ["items","rate","due","item","top"] ["items","rate"] (aP Ci):=bw aM
theorem Wu(F:FA K mg "due_entries" Ci)(B:bE mg)(jS:aG P w K mg au "is_line" 1 (ou K))(m6:aG P w K mg au "top_square" 4 (si K))(Eh:aG P w K mg au "step_rows" 3 (xY K)):aG P w K mg au "due_entries" 5 (IP K):=by
 refine F.has K7 (λvs H Q E h=>?_) (λ_ _ _ _ _ _=>cJ λ_ _=>rfl) (λfa aE A outer s H vs Q E hr h=>?_)
 ·obtain⟨iv,rate,n,ds,os,rfl,_⟩:=h
  rfl
 ·obtain⟨iv,rate,n,ds,os,rfl,ri,row,n3,hz,dy,dM,k⟩:=h
  have nd:=K7.nd;refine⟨_,(aD (pS 2 nd (dF ay)) (aD (iK iG Z (nc K Z (pv 0)) (bu 3 nd) (aH (bD (bS (pf jS hr (ao (pv 3) ay))) (aD (pS 4 nd (pf m6 hr (ao (pv 3) (ao (pv 1) ay)))) (aH (gE (Dk K Z (pv 2) (ao (gQ (N:=["row","top"]) (js:=[none,some 4]) Z Z Z (yx K Z (pf Eh hr (ao (pv 3) ay))) (λ_ _ _ _ _=>(bu 0 (fX az))) (λ_ _ _ _ _=>gb) (λ_ _ _ _ _=>(dc (ao ck (ao (pv 0) (ao (pv 1) ay)))))) ay))))) (aH (gE (oE K Z (pv 2) (ao (pv 3) ay))))))) (aH (aZ (pv 2))))),?_⟩;have ll:=row.len;have gX:sizeLine=16777216:=by decide
  refine⟨bC Z,λD H2 n2=>?_⟩;have nD:=n2.no;obtain⟨ia,xs,rfl,hi,gh⟩:=ri.da;have lx:=gh.length;refine⟨_,Z,ia,Z,⟨_,hi.go n2.same⟩,a2o (K:=K) (a:=ia) (xs:=xs) (λi O H3=>aA H H3/\∃zs v1 v2,H3 D=some (.lst zs)/\aI K H3 zs (nV rate ds os i)/\O=[some (.ref ia),some (.int rate),some (.ref D),v1,v2]) ⟨n2.same,[],none,none,n2.at',bW,Z⟩ (λi O H3 _ h=>hi.go h.1) ?_ ?_⟩
  ·rintro i y O H3 hy ⟨s3,zs,v1,v2,dz,rz,rfl⟩
   have Et:i<xs.length:=(eU.mp hy).1;obtain⟨d,ed,rd⟩:=gh.get' i hy;obtain⟨o,eo,it⟩:=row.get ed;have sF:=RD.mono s3 _ rd;obtain⟨tl,tn⟩:=zJ (rate:=rate) row i aw;have lz:=rz.length;refine⟨_,Z,y,d,o,Z,sF,it,_,Z,?_⟩;cases o with
   |none=>
    refine aU ?_;refine⟨_,Z,.inl ⟨Z,_,aK.of dz⟩,_,Z,D,zs,_,Z,Z,dz,aw,?_⟩;refine⟨λb o e=>?_,_,_,_,bp,?_,Z⟩
    ·rw[aL (eH e nD)];exact s3 b o e
    ·show aI K _ _ (nV rate ds os i++jv rate ds os i)
     rw[FJ eo ed];exact aI.IU dz rz sF tn it.no |some q=>
    obtain⟨ns,sp⟩:=q;refine ba ?_;have ju:=nG it;subst ju;obtain⟨df,gC,gP⟩:=row.ok i ns sp eo;have E1:=vy df;refine⟨_,Z,_,Z,y,ns,sp,rate,Z,sF,gC,gP,dy,dM,λtv H4 Rt4 s4=>?_⟩;have tT:=s4 _ _ dz;refine⟨_,Z,.inl ⟨Z,_,aK.of tT⟩,?_⟩;refine⟨_,Z,y,ns,sp,Z,RD.mono s4 _ sF,⟨Z,λz hz=>by have:=df.bd z hz;lia,df.nz⟩,by rw[df.len];lia,λl3 y3 H6 Xj wu Kq s6=>?_⟩;have LS:=Kq.length;rw[kh,bR,Ao]at LS;refine⟨l3,Z,⟨_,aK.of wu⟩,λD2 H7 n7=>?_⟩;have nE:bX (jv rate ds os i)=true:=by rw[wm eo];exact eO.mpr λd hd=>by obtain⟨k,_,rfl⟩:=gu.mp hd;exact NT _ _
    have lE:(jv rate ds os i).length=aJ ns:=by rw[wm eo,bR,Ao]
    refine Ob (K:=K) (ds:=jv rate ds os i) _ (aK.of wu) n7 (by rw[lE,LS]) aw nE ?_ ?_
    ·intro q x dd H8 Q' ex NM s8 hq
     have MB:q<aJ ns:=by have:=(eU.mp ex).1;lia
     obtain⟨d3,e3,r3⟩:=Kq.get' q ex;rw[kh,cZ,Ha MB]at e3;cases e3;rw[wm eo,cZ,Ha MB]at NM;cases NM;refine⟨_,Z,_,Z,bC Z,λt H9 n9=>?_⟩;refine hq _ _ n9.same (eF (aQ.of n9.at') (bJ (dN _) (bJ (RD.mono (s8.trans n9.same) _ r3) (bJ (Rt4.go ((s6.trans s8).trans n9.same)).rd bW))))
    ·intro H8 z8 s8 d8 r8
     have pZ:=s4.trans (s6.trans s8);have NP:=pZ _ _ dz;have l8:=r8.length;refine⟨D,D2,zs,z8,Z,Z,NP,d8,aw,?_⟩;have tu:g9 H8 (_L.upd H8 D (.lst (zs++z8))):=.lK NP;refine⟨λb o e=>?_,_,_,_,bp,?_,Z⟩
     ·rw[aL (eH e nD)];exact pZ b o (s3 b o e)
     ·exact(aI.t tu _ tn (aI.mono pZ _ rz)).append (aI.t tu _ nE r8)
  ·rintro O H3 ⟨s3,zs,v1,v2,dz,rz,rfl⟩
   rw[lx,ll]at rz;exact⟨_,Z,k D zs H3 nD dz rz s3⟩
theorem a2u(n:Nat)(v:V):(List.replicate n [v]).flatten=List.replicate n v:=by induction n with |zero=>rfl |succ n ih=>rw[mL,xu,ih,mL];rfl
theorem Kx{H:Hp}{v:V}{q:Rat}(h:bN K H v q):∀n,aI K H (List.replicate n v) ((List.replicate n q).map cB) |0=>bW |n+1=>by rw[mL,mL,uw];exact bJ h.rd (Kx h n)
inductive a6S(K:aa)(vs:List V)(H:Hp)(Q:VK):Prop |mk (m:_)(iv:_)(rate:_)(rs:_)(r:_)(f:_)(j:_)(t:_)(ds:_)(os:_)(h0:vs=[m,iv,.int rate])(h1:RD K H m (gT rs r f j t))(h2:lF rs r f j t)(h3:RD K H iv (.tuple ds))(h4:fc rs.length ds os)(h5:ds.length<=30)(h6:10<=rate)(h7:rate<=200)(h8:∀l ys H',H l=none->H' l=some (.lst ys)->aI K H' ys ((lA j rate os os.length++[ownF j rate os os.length]).map cB)->aA H H'->Q (.ref l) H')
def IT(K:aa):Sp:=λvs H Q _=>a6S K vs H Q
abbrev Cr:Stmt:=top 118
theorem Ke:bj ["machine","items","rate","own","bounds","i","item"] ["machine","items","rate"] (aP Cr):=bw aM
theorem WA(F:FA K mg "bounds_between" Cr)(B:bE mg)(Ek:aG P w K mg au "own_bounds" 8 (AU K))(jS:aG P w K mg au "is_line" 1 (ou K))(m6:aG P w K mg au "top_square" 4 (si K))(kN:aG P w K mg au "lead_of" 1 (oq K)):aG P w K mg au "bounds_between" 9 (IT K):=by
 refine F.has Ke (λvs H Q E h=>?_) (λ_ _ _ _ _ _=>iR λ_ _ _=>rfl) (λfa aE A outer s H vs Q E hr h=>?_)
 ·obtain⟨m,iv,rate,rs,r,f,j,t,ds,os,rfl,_⟩:=h
  rfl
 ·obtain⟨m,iv,rate,rs,r,f,j,t,ds,os,rfl,rm,aO,ri,row,hz,dy,dM,k⟩:=h
  have nd:=Ke.nd;refine⟨_,(aD (pS 3 nd (pf Ek hr (ao (pv 0) (ao (pv 1) (ao (pv 2) ay))))) (aD (pS 4 nd (dF ay)) (aD (iK iG Z (yw K Z false Z (B.at "enumerate") (ao (pv 1) ay)) (fm K rfl (n:=2) rfl (bV (bu 5 nd) (bV (bu 6 nd) fk))) (aD (gE (oE K Z (pv 4) (ao (px K (pv 3) (pv 5)) ay))) (aH (bD (bS (pf jS hr (ao (pv 6) ay))) (aH (gE (Dk K Z (pv 4) (ao (aW UW (dF (ao (pf m6 hr (ao (pv 6) (ao (pv 2) ay))) ay)) (aW j8 (pf kN hr (ao (pv 6) ay)) aF)) ay)))) bG)))) (aH (aZ (aW (qT K Z) (pv 4) (dF (ao (px K (pv 3) (lU lN aF)) ay)))))))),?_⟩;have ll:=row.len;have lr:=aO.len;have gX:sizeLine=16777216:=by decide
  refine⟨_,Z,_,Z,_,Z,m,iv,rate,rs,r,f,j,t,ds,os,Z,rm,aO,ri,row,aw,dy,dM,λl1 y1 H1 Xl NW Kr s1=>?_⟩;have LU:=Kr.length;rw[bR,ownL,bR,Ao]at LU;have own:∀(c:Nat)(u:V)(H':Hp),c<=os.length->y1[c]? =some u->aA H1 H'->bN K H' u (ownF j rate os c):=by intro c u H' hc e t';obtain⟨d1,e1,r1⟩:=Kr.get' c e;rw[cZ,ownL,cZ,Ha aw]at e1;cases e1;exact(mZ r1).go t'
  refine⟨bC Z,λD H2 n2=>?_⟩;have nD:H D=none:=by cases e:H D with |none=>rfl |some o=>have:=s1 _ _ e;rw[n2.no]at this;cases this
  obtain⟨ia,xs,rfl,hi,gh⟩:=ri.da;have lx:=gh.length;have Xa:∀i,bX ((lA j rate os i).map cB)=true:=λi=>sT _;refine⟨_,Z,ia,Z,⟨_,hi.go (s1.trans n2.same)⟩,zx (K:=K) (b:=false) (a:=ia) (xs:=xs) (λi O H3=>aA H1 H3/\∃zs v1 v2,H3 D=some (.lst zs)/\aI K H3 zs ((lA j rate os i).map cB)/\O=[some m,some (.ref ia),some (.int rate),some (.ref l1),some (.ref D),v1,v2]) ⟨n2.same,[],none,none,n2.at',bW,Z⟩ (λi O H3 _ h=>hi.go (s1.trans h.1)) ?_ ?_⟩
  ·rintro i y O H3 hy ⟨s3,zs,v1,v2,dz,rz,rfl⟩ T H4 n4
   have Et:i<xs.length:=(eU.mp hy).1;obtain⟨d,ed,rd⟩:=gh.get' i hy;obtain⟨o,eo,it⟩:=row.get ed;have fj:=s3.trans n4.same;have s4:=s1.trans fj;have tT:=n4.same _ _ dz;have SH:=aI.mono n4.same _ rz;have rd4:=RD.mono s4 _ rd;have lz:=rz.length;rw[bR,G4 row i aw]at lz;have tl:=(zJ (rate:=rate) row i aw).1;obtain⟨z0,p8⟩:∃z,y1[i]? =some z:=⟨_,cH (show i<y1.length by lia)⟩;have R0:=own i z0 H4 aw p8 fj;have wq:=fj _ _ NW;refine⟨T,_,Z,aQ.of n4.at',Z,_,_,Z,_,_,Z,Z,?_⟩;refine⟨_,Z,.inl ⟨Z,_,aK.of tT⟩,?_⟩;refine⟨_,Z,_,Z,.inl ⟨l1,_,_,z0,Z,Z,aK.of wq,eK aw (by simpa using p8),?_⟩⟩;refine⟨D,zs,z0,Z,Z,tT,aw,?_⟩;have t5:g9 H4 (_L.upd H4 D (.lst (zs++[z0]))):=.lK tT;have mX:aA H1 (_L.upd H4 D (.lst (zs++[z0]))):=λb o e=>by rw[aL (eH e n2.no)];exact fj b o e
   have d5:(_L.upd H4 D (.lst (zs++[z0]))) D=some (.lst (zs++[z0])):=bp;have r5:aI K (_L.upd H4 D (.lst (zs++[z0]))) (zs++[z0]) ((lA j rate os i++[ownF j rate os i]).map cB):=by rw[lH];exact aI.IU tT SH R0.rd (Xa i) (sH _)
   generalize _L.upd H4 D (.lst (zs++[z0]))=H5 at t5 mX d5 r5⊢;have s5:=s1.trans mX;have CS:=RD.mono s5 _ rd;refine⟨_,Z,y,d,o,Z,CS,it,_,Z,?_⟩;cases o with |none=>refine aU ⟨mX,_,_,_,d5,?_,Z⟩;show aI K H5 _ ((lA j rate os i++nW j rate os i).map cB);rw[OB eo];exact r5 |some q=>
    obtain⟨ns,sp⟩:=q;refine ba ?_;have ju:=nG it;subst ju;obtain⟨df,gC,gP⟩:=row.ok i ns sp eo;have E1:=vy df;have jR:=df.lead;refine⟨_,Z,.inl ⟨Z,_,aK.of d5⟩,?_⟩;refine⟨_,Z,_,Z,y,ns,sp,rate,Z,CS,gC,gP,dy,dM,λtv H6 Rt6 s6=>?_⟩;refine⟨bC Z,λlt H7 n7=>?_⟩;refine⟨_,Z,y,ns,sp,Z,RD.mono (s6.trans n7.same) _ CS,df.ne,by rw[df.len];lia,λH8 s8=>?_⟩;have d7:=s8 _ _ n7.at';have ek:((aJ ns:Int)-1).toNat=aJ ns-1:=by lia
    refine⟨_,_,Z,Z,lt,_,_,Z,Z,d7,aw,aw,by rw[ek];show 1*_<=_;lia,λlp Xf=>?_⟩;rw[ek,a2u];have n9:Nw H8 (_L.upd H8 lp (.lst (List.replicate (aJ ns-1) tv))) lp (.lst (List.replicate (aJ ns-1) tv)):=.of Xf;generalize _L.upd H8 lp (.lst (List.replicate (aJ ns-1) tv))=H9 at n9⊢;have Cw:=s6.trans (n7.same.trans (s8.trans n9.same));have d9:=Cw _ _ d5;refine⟨D,lp,_,_,Z,Z,d9,n9.at',by rw[fi,An];show _+1+_<=_;lia,?_⟩;have t9:g9 H9 (_L.upd H9 D (.lst (zs++[z0]++List.replicate (aJ ns-1) tv))):=.lK d9;refine⟨λb o e=>?_,_,_,_,bp,?_,Z⟩
    ·rw[aL (eH e n2.no)];exact Cw b o (mX b o e)
    ·show aI K _ _ ((lA j rate os i++nW j rate os i).map cB)
     have eb:lA j rate os i++nW j rate os i=(lA j rate os i++[ownF j rate os i])++List.replicate (aJ ns-1) (topR rate sp):=by rw[OD eo];simp
     rw[eb,lH];exact(aI.t t9 _ (sT _) (aI.mono Cw _ r5)).append (aI.t t9 _ (sT _) (Kx (Rt6.go (n7.same.trans (s8.trans n9.same))) _))
  ·rintro O H3 ⟨s3,zs,v1,v2,dz,rz,rfl⟩
   rw[lx,ll]at rz;have lz:=rz.length;rw[bR,G4 row _ (bA _)]at lz;have tl:=(zJ (rate:=rate) row _ (bA _)).1;obtain⟨z0,p8⟩:∃z,y1[os.length]? =some z:=⟨_,cH (show os.length<y1.length by lia)⟩;have R0:=own _ z0 H3 (bA _) p8 s3;refine⟨_,Z,_,Z,1,Z,.inl ⟨l1,_,-1,z0,Z,Z,aK.of (s3 _ _ NW),OH (by rw[List.getLast?_eq_getElem?,LU];exact p8),?_⟩⟩;refine⟨bC Z,λl5 H4 n4=>?_⟩;refine⟨D,l5,_,_,Z,Z,aK.of (n4.same _ _ dz),aK.of n4.at',by show _+1<=_;lia,λl6 H5 n5=>?_⟩;have Xi:H l6=none:=by cases e:H l6 with |none=>rfl |some o=>have:=n4.same _ _ (s3 _ _ (s1 _ _ e));rw[n5.no]at this;cases this
   have Cz:=n4.same.trans n5.same;refine k l6 _ H5 Xi n5.at' ?_ (s1.trans (s3.trans Cz));rw[lH];exact(aI.mono Cz _ rz).append (bJ (R0.go Cz).rd bW)
def oP:ah->Bool | .tuple ds=>(ds.length==2||ds.length==3)&&ds.all (cC 1 100) |_=>false
def iq:ah->Bool | .tuple [r,a,b,c,t]=>oP r&&cC 1 100 t&&[a,b,c].all (cC 1 50) |_=>false
theorem Zd(n:Nat):z9 (.int n) [.int 2,.int 3]=(n==2||n==3):=by
 show((2:Int)==n||((3:Int)==n||false))=_;rw[Bool.or_false];congr 1
 ·rw[iX];simp;lia
 ·rw[iX];simp;lia
inductive a6M(f:ah->Bool)(K:aa)(vs:List V)(H:Hp)(Q:VK):Prop |mk (v:_)(d:_)(h0:vs=[v])(h1:RD K H v d)(h2:∀H',aA H H'->Q (.bl (f d)) H')
def uO(f:ah->Bool)(K:aa):Sp:=λvs H Q _=>a6M f K vs H Q
abbrev Cu:Stmt:=top 23
theorem Kg:bj ["thing"] ["thing"] (aP Cu):=bw aM
theorem WD(F:FA K mg "are_rails" Cu)(B:bE mg)(g1:GT K mg "AXES" [.int 2,.int 3])(a1e:GV mg "LONGEST_RAIL" (.int 100))(ir:aG P w K mg au "is_whole_within" 2 (lQ K)):aG P w K mg au "are_rails" 3 (uO oP K):=by
 refine F.has Kg (λvs H Q E h=>?_) (λ_ _ _ _ _ _=>fz λ_=>rfl) (λf aE A outer s H vs Q E hr h=>?_)
 ·obtain⟨v,d,rfl,_⟩:=h
  rfl
 ·obtain⟨v,d,rfl,rd,k⟩:=h
  have nd:=Kg.nd;obtain⟨aX,a1o,S5⟩:=g1;refine⟨_,(aD (bD (PW.pt (kr (cE (bS (kC K B (ao (pv 0) (ao (jJ (x:="tuple") (v:=.ty "tuple") Z (B.at "tuple") jA rfl) ay))))) (kl (bT (X4 K rfl) (fo K B (ao (pv 0) ay)) (cy (x:="AXES") rfl a1o) (by with_unfolding_all rfl))))) (aH (aZ ib)) bG) (aH (aZ (dG (x:="all") (tY K Z Z) Z (B.at "all") x8 (ao (gQ (N:=["rail"]) (js:=[none]) rfl rfl rfl (nc K rfl (pv 0)) (λ_ _ _ _ _=>(bu 0 (oK _))) (λ_ _ _ _ _=>gb) (λ_ _ _ _ _=>(pf ir hr (ao (pv 0) (ao aF (ao (cy (x:="LONGEST_RAIL") rfl a1e) ay)))))) ay))))),?_⟩;rcases uE d with⟨ds,rfl⟩|⟨ht,hn⟩
  ·refine⟨_,Z,.inl ⟨_,_,"tuple",true,Z,rd.ty,az,oh,_,Z,aU ?_⟩⟩
   obtain⟨p,xs,rfl,hx,hd⟩:=rd.da;have hl:=hd.length;refine⟨_,Z,p,_,Z,.inr hx,aX,_,Z,.inr (S5 H),Z,Z,_,Z,?_⟩;have k:∀H',aA H H'->Q (.bl ((ds.length==2||ds.length==3)&&ds.all (cC 1 100))) H':=k;show if(!z9 (.int xs.length) [.int 2,.int 3])=true then _ else _;rw[Zd,hl];cases FG:(ds.length==2||ds.length==3)with |false=>rw[FG,fV]at k;exact ba (k H (aA.refl _)) |true=>
    rw[FG,iH]at k;refine aU ?_;have l3:ds.length<=3:=by rw[Bool.or_eq_true,cP,cP]at FG;lia
    refine⟨_,Z,p,Z,⟨_,hx⟩,λD H0 nw=>?_⟩;refine zQ (xs:=xs) (bs:=ds.map (cC 1 100)) [] hx nw (by rw[bR,hl]) aw ?_ ?_
    ·intro i x b H2 Q' ex eb s2 hq
     obtain⟨d,ed,rfl⟩:=yU eb;obtain⟨x',iz,rx⟩:=hd.get i ed;rw[ex]at iz;cases iz;exact⟨_,Z,_,d,1,100,Z,RD.mono s2 _ rx,hq _ (aA.refl _)⟩
    ·intro H2 s2 d2
     refine⟨D,_,Z,aK.of d2,?_⟩;rw[all_map];exact k H2 s2
  ·have e:oP d=false:=by cases d<;>first|rfl|exact absurd rfl (hn _)
   rw[e]at k;refine⟨_,Z,.inl ⟨_,_,"tuple",false,Z,rd.ty,az,ht,_,Z,ba ?_⟩⟩;exact k H (aA.refl _)
theorem Y3(d:ah):(∃r a b c t,d= .tuple [r,a,b,c,t])\/(∃ds,d= .tuple ds/\ds.length≠5/\iq d=false)\/(fD (gz d) "tuple"=false/\iq d=false):=by
 rcases uE d with⟨ds,rfl⟩|⟨ht,hn⟩
 ·match ds with |[r,a,b,c,t]=>exact .inl ⟨r,a,b,c,t,Z⟩ |[]=>exact .inr (.inl ⟨_,Z,by simp,by simp[iq]⟩) |[_]=>exact .inr (.inl ⟨_,Z,by simp,by simp[iq]⟩) |[_,_]=>exact .inr (.inl ⟨_,Z,by simp,by simp[iq]⟩) |[_,_,_]=>exact .inr (.inl ⟨_,Z,by simp,by simp[iq]⟩) |[_,_,_,_]=>exact .inr (.inl ⟨_,Z,by simp,by simp[iq]⟩) |_::_::_::_::_::_::_=>exact .inr (.inl ⟨_,Z,by simp,by simp[iq]⟩)
 ·exact .inr (.inr ⟨ht,by cases d<;>first|rfl|exact absurd rfl (hn _)⟩)
abbrev C8:Stmt:=top 21
theorem JY:bj ["thing","rails","rise","fall","jump","ticks"] ["thing"] (aP C8):=bw aM
theorem Wh(F:FA K mg "is_machine" C8)(B:bE mg)(a1a:GV mg "MOST_TICKS" (.int 100))(a1k:GV mg "GREATEST_CHANGE" (.int 50))(ir:aG P w K mg au "is_whole_within" 2 (lQ K))(a0O:aG P w K mg au "are_rails" 3 (uO oP K)):aG P w K mg au "is_machine" 4 (uO iq K):=by
 refine F.has JY (λvs H Q E h=>?_) (λ_ _ _ _ _ _=>fz λ_=>rfl) (λf aE A outer s H vs Q E hr h=>?_)
 ·obtain⟨v,d,rfl,_⟩:=h
  rfl
 ·obtain⟨v,d,rfl,rd,k⟩:=h
  have nd:=JY.nd;refine⟨_,(aD (bD (PW.pt (kr (cE (bS (kC K B (ao (pv 0) (ao (jJ (x:="tuple") (v:=.ty "tuple") Z (B.at "tuple") jA rfl) ay))))) (kl (bT (sX K rfl hr.units) (fo K B (ao (pv 0) ay)) aF (bM _))))) (aH (aZ ib)) bG) (aD (gc (pv 0) (fm K Z (n:=5) Z (bV (bu 1 nd) (bV (bu 2 nd) (bV (bu 3 nd) (bV (bu 4 nd) (bV (bu 5 nd) fk))))))) (aD (bD (PW.pt (kr (cE (bS (pf a0O hr (ao (pv 1) ay)))) (kl (cE (bS (pf ir hr (ao (pv 5) (ao aF (ao (cy (x:="MOST_TICKS") Z a1a) ay))))))))) (aH (aZ ib)) bG) (aH (aZ (dG (x:="all") (tY K Z Z) Z (B.at "all") x8 (ao (gQ (N:=["change"]) (js:=[none]) rfl rfl rfl (nc K rfl (dc (ao (pv 2) (ao (pv 3) (ao (pv 4) ay))))) (λ_ _ _ _ _=>(bu 0 (oK _))) (λ_ _ _ _ _=>gb) (λ_ _ _ _ _=>(pf ir hr (ao (pv 0) (ao aF (ao (cy (x:="GREATEST_CHANGE") rfl a1k) ay)))))) ay))))))),?_⟩;rcases Y3 d with⟨r,a,b,c,t,rfl⟩|⟨ds,rfl,hl,hf⟩|⟨ht,hf⟩
  ·refine⟨_,Z,.inl ⟨_,_,"tuple",true,Z,rd.ty,az,oh,_,Z,aU ?_⟩⟩
   obtain⟨p,xs,rfl,hx,hd⟩:=rd.da;obtain⟨u1,ys,rfl,r1,hd⟩:=hd.cons_inv;obtain⟨u2,ys,rfl,r2,hd⟩:=hd.cons_inv;obtain⟨u3,ys,rfl,r3,hd⟩:=hd.cons_inv;obtain⟨u4,ys,rfl,r4,hd⟩:=hd.cons_inv;obtain⟨u5,ys,rfl,r5,hd⟩:=hd.cons_inv;cases hd.nil_inv;have k:∀H',aA H H'->Q (.bl (oP r&&cC 1 100 t&&[a,b,c].all (cC 1 50))) H':=k;refine⟨_,Z,p,_,Z,.inr hx,.inl ⟨_,_,Z,Z,_,Z,aU ?_⟩⟩;refine⟨_,Z,p,_,Z,hx,Z,_,_,Z,_,_,Z,_,_,Z,_,_,Z,_,_,Z,Z,?_⟩;refine⟨_,Z,_,r,Z,r1,λH1 s1=>⟨_,Z,?_⟩⟩;cases e1:oP r with |false=>rw[e1,fV,fV]at k;exact ba (k H1 s1) |true=>rw[e1,iH]at k;refine aU ?_;refine⟨_,Z,_,t,1,100,Z,RD.mono s1 _ r5,_,Z,?_⟩;cases e2:cC 1 100 t with |false=>rw[e2,fV]at k;exact ba (k H1 s1) |true=>
    rw[e2,iH]at k;refine aU ?_;refine⟨_,Z,_,Z,_,Z,bC Z,λq H2 nq=>?_⟩;have s2:=s1.trans nq.same;refine⟨q,Z,⟨_,aQ.of nq.at'⟩,λD H0 nw=>?_⟩;have hd3:aI K H2 [u2,u3,u4] [a,b,c]:=bJ (RD.mono s2 _ r2) (bJ (RD.mono s2 _ r3) (bJ (RD.mono s2 _ r4) bW));refine zQ (xs:=[u2,u3,u4]) (bs:=[a,b,c].map (cC 1 50)) [] (aQ.of nq.at') nw Z (GQ Z) ?_ ?_
    ·intro i x b' H3 Q' ex eb s3 hq
     obtain⟨d,ed,rfl⟩:=yU eb;obtain⟨x',iz,rx⟩:=hd3.get i ed;rw[ex]at iz;cases iz;exact⟨_,Z,_,d,1,50,Z,RD.mono s3 _ rx,hq _ (aA.refl _)⟩
    ·intro H3 s3 d3
     refine⟨D,_,Z,aK.of d3,?_⟩;rw[all_map];exact k H3 (s2.trans s3)
  ·rw[hf]at k
   refine⟨_,Z,.inl ⟨_,_,"tuple",true,Z,rd.ty,az,oh,_,Z,aU ?_⟩⟩;obtain⟨p,xs,rfl,hx,hd⟩:=rd.da;refine⟨_,Z,p,_,Z,.inr hx,.inl ⟨_,_,Z,Z,_,Z,?_⟩⟩;have e:(!decide ((xs.length:Int)=5))=true:=by rw[hd.length];simp;lia
   rw[e];exact ba (k H (aA.refl _))
  ·rw[hf]at k
   refine⟨_,Z,.inl ⟨_,_,"tuple",false,Z,rd.ty,az,ht,_,Z,ba ?_⟩⟩;exact k H (aA.refl _)
end
end _a
set_option maxHeartbeats 2000000
namespace _a
open PySem PySem.Spec PyProof.Rows _L _r _l _C _P _W _R
open _O (topR cornO mnO betR atO ownF leadF ownL OkI OkIs)
open _T (numIn?)
section
variable {P:af}{w:World}{K:aa}{mg:bc}{au:Heap}
inductive a6H(K:aa)(cO:Addr)(vs:List V)(H:Hp)(E:XK):Prop |mk (m:_)(bF:_)(iv:_)(M:_)(pl:_)(d:_)(o:_)(h0:vs=[m,bF,iv])(h1:RD K H m (bQ.D M))(h2:M.Ok)(h3:RD K H bF (eh pl))(h4:pl.length=M.rs.length)(h5:RD K H iv (.tuple [d]))(h6:mF M.rs.length d o)(h7:j9 M.rs (fw pl o)=false)(h8:∀dx H',aA H H'->E (.ref cO) (some dx) H')
def IK(K:aa)(cO:Addr):Sp:=λvs H Q E=>a6H K cO vs H E
abbrev Ce:Stmt:=top 32
theorem K4:bj ["machine","place","items","told","here","at","item"] ["machine","place","items"] (aP Ce):=bw aM
theorem Wr{cO fI:Addr}(F:FA K mg "ends" Ce)(B:bE mg)(OC:A2 K mg cO fI)(qK:aG P w K mg au "place_behind" 2 (sy K))(vL:aG P w K mg au "is_place" 3 (uN K)):fR P w K mg au "ends" 4 (IK K cO):=by
 obtain⟨fd,FI⟩:=OC.fn;have ET:=OC.e;have EN:dS P w K mg au eM 1 fI fd ["self","at"] (sf K):=Ll FI;have F1:Binds K fd ["self","at"] []:=FI.binds (λ_ _ _ _ _ _=>cJ λ_ _=>rfl);have ER:=OC.f;refine F.gW K4 (λvs H Q E h=>?_) (λ_ _ _ _ _ _=>iR λ_ _ _=>rfl) (λf aE A outer s H vs Q E hr h=>?_)
 ·obtain⟨m,bF,iv,M,pl,d,o,rfl,_⟩:=h
  rfl
 ·obtain⟨m,bF,iv,M,pl,d,o,rfl,rm,aO,rp,lp,ri,it,off,k⟩:=h
  have nd:=K4.nd;have lr:=aO.len;refine⟨_,(aD (pS 3 nd (dF ay)) (aD (pS 4 nd (pv 1)) (aD (iK GL Z (yw K Z false Z (B.at "enumerate") (ao (pv 2) ay)) (fm K rfl (n:=2) rfl (bV (bu 5 nd) (bV (bu 6 nd) fk))) (aD (pS 4 nd (pf qK hr (ao (pv 4) (ao (pv 6) ay)))) (aD (bD (cE (bS (pf vL hr (ao (pv 0) (ao (pv 4) ay))))) (aH (yt (λ_ _ _ _ _ _ I a b q=>pQ I a b q) ET gK hr.hd EN (hr.mono az) F1 ER Z (ao (pv 5) ay))) bG) ku))) (aH (aZ (pv 3)))))),?_⟩;refine⟨bC Z,λl H1 n1=>?_⟩;refine⟨_,Z,?_⟩;obtain⟨ia,xs,rfl,hi,gh⟩:=ri.da;have lx:=gh.length;refine⟨_,Z,ia,Z,⟨_,hi.go n1.same⟩,zx (K:=K) (b:=false) (a:=ia) (xs:=xs) (λi O H2=>aA H H2/\i=0/\∃v1 v2,O=[some m,some bF,some (.ref ia),some (.ref l),some bF,v1,v2]) ⟨n1.same,Z,none,none,Z⟩ (λi O H2 _ h=>hi.go h.1) ?_ ?_⟩
  ·rintro i y O H2 hy ⟨s2,rfl,v1,v2,rfl⟩ T H3 n3
   obtain⟨d',ed,rd⟩:=gh.get' 0 hy;cases ed;have s3:=s2.trans n3.same;refine⟨T,_,Z,aQ.of n3.at',Z,_,_,Z,_,_,Z,Z,?_⟩;refine⟨_,Z,_,Z,bF,y,pl,d,o,Z,RD.mono s3 _ rp,RD.mono s3 _ rd,it.it,λns sp e'=>by rw[lp];exact(it.ln ns sp e').1.len,bK,λh2 H4 Tg s4=>?_⟩;have t4:=s3.trans s4;have bl:(fw pl o).length=M.rs.length:=zV lp λns sp eo=>(it.ln ns sp eo).1.len;refine⟨_,Z,_,Z,m,h2,M.rs,_,_,Z,RD.mono t4 _ rm,Tg,bK,λH5 s5=>⟨_,Z,?_⟩⟩;rw[Ml bl,off];refine ba ?_;have yk:=t4.trans s5;refine⟨_,Z,bC Z,λex fx=>?_⟩;refine⟨ex,cO,_,Z,bp,OC.x,λdx lg ne=>⟨Z,dx,bp,?_⟩⟩;have qO:H5 dx=none:=by rw[aL ne]at lg;exact lg
   refine k dx _ λb o' e=>?_;have e5:=yk b o' e;have nb:b≠ex:=eH e5 fx;have fX:b≠dx:=eH e5 qO;rw[mz nb,aL nb,aL fX,aL nb];exact e5
  ·rintro O H2 ⟨s2,e0,_⟩
   rw[lx]at e0;cases e0
abbrev Ba:Stmt:=(FV (top 9)).getD 0 (.Pass ⟨0,0,0,0⟩)
theorem J9:bj ["self","at"] ["self","at"] (aP Ba):=bw aM
theorem Vg{f:Addr}{fd:FuncData}(F:gq K "__init__" "NoText.__init__" Ba f fd):dS P w K mg au eM 1 f fd ["self","at"] (sf K):=by
 refine F.ok J9 (λvs H Q E h=>?_) (λaE A outer s H vs Q E hr h=>?_)
 ·obtain⟨ex,C,y,rfl,_⟩:=h
  rfl
 ·obtain⟨ex,C,y,rfl,e1,xc,k⟩:=h
  have nd:=J9.nd;refine⟨_,(aH (D8 K Z (pv 0) (pv 1))),?_⟩;exact⟨_,Z,_,Z,ex,C,Z,e1,xc,k⟩
structure Gm(K:aa)(mg:bc)(C fI:Addr):Prop where
 e:mH K mg "NoText" C fI cW dg
 i:PySem.W.findIn K (.ref C) "__init__"=some (some (.ref fI))
 x:nX K C "at"
 f:fnAt K fI=true
 fn:∃fd,gq K "__init__" "NoText.__init__" Ba fI fd
inductive a61(K:aa)(cT:Addr)(vs:List V)(H:Hp)(E:XK):Prop |mk (m:_)(v:_)(M:_)(h0:vs=[m,v])(h1:RD K H m (bQ.D M))(h2:M.Ok)(h3:(v= .str "wait 0"\/∃d,RD K H v d/\fD (gz d) "str"=false))(h4:∀dx H',aA H H'->E (.ref cT) (some dx) H')
def Im(K:aa)(cT:Addr):Sp:=λvs H Q E=>a61 K cT vs H E
theorem Qo{n:Nat}(h:n=2\/n=3):yY n "wait 0"= .none:=by
 have e:gU n (hV (Txt.split "wait 0" " "))=false:=by rcases h with rfl|rfl<;>decide+kernel
 unfold yY;rw[e];rfl
theorem Qn:Txt.split "wait 0" "\n"=[("wait 0":Str)]:=by decide+kernel
theorem AA:Str.length "wait 0"=6/\qW "wait 0":=⟨aM,Vb aM⟩
theorem VI{cT fI:Addr}(F:FA K mg "read_items" Bp)(B:bE mg)(OC:Gm K mg cT fI)(a1b:GV mg "MOST_ITEMS" (.int 20))(a0a:aG P w K mg au "item_in" 5 (AX K)):fR P w K mg au "read_items" 6 (Im K cT):=by
 obtain⟨fd,FI⟩:=OC.fn;have N4:=OC.e;have N1:dS P w K mg au eM 1 fI fd ["self","at"] (sf K):=Vg FI;have N7:Binds K fd ["self","at"] []:=FI.binds (λ_ _ _ _ _ _=>cJ λ_ _=>rfl);have N3:=OC.f;refine F.gW Jn (λvs H Q E h=>?_) (λ_ _ _ _ _ _=>cJ λ_ _=>rfl) (λf aE A outer s H vs Q E hr h=>?_)
 ·obtain⟨m,v,M,rfl,_⟩:=h
  rfl
 ·obtain⟨m,v,M,rfl,rm,aO,hc,k⟩:=h
  have nd:=Jn.nd;have gX:sizeLine=16777216:=by decide
  have rz:∀(H5:Hp)(y:V),aA H H5->∀ex,H5 ex=none->sf K [.ref ex,y] (_L.upd H5 ex (.ext (jy ex cT))) (λv H2=>v= .aY/\∃dx,H2 ex=some (.ext (gZ ex cT dx))/\E (.ref cT) (some dx) (_L.del H2 ex)) (λ_ _ _=>False):=by
   intro H5 y s5 ex fx;refine⟨ex,cT,_,Z,bp,OC.x,λdx lg ne=>⟨Z,dx,bp,?_⟩⟩;have qO:H5 dx=none:=by rw[aL ne]at lg;exact lg
   refine k dx _ λb o' e=>?_;have e5:=s5 b o' e;have nb:b≠ex:=eH e5 fx;have fX:b≠dx:=eH e5 qO;rw[mz nb,aL nb,aL fX,aL nb];exact e5
  refine⟨_,(aD (bD (cE (bS (kC K B (ao (pv 1) (ao (jJ (x:="str") (v:=.ty "str") Z (B.at "str") PF rfl) ay))))) (aH (yt (λ_ _ _ _ _ _ I a b q=>pQ I a b q) N4 gK hr.hd N1 (hr.mono az) N7 N3 Z (ao aF ay))) bG) (aD (bD (bT qt (pv 1) ck (bM _)) (aH (aZ (dc ay))) bG) (aD (pS 2 nd (dF ay)) (aD (iK GL Z (yw K Z true Z (B.at "enumerate") (ao (Dj K rfl (pv 1) (ao ck ay)) ay)) (fm K rfl (n:=2) rfl (bV (bu 3 nd) (bV (bu 4 nd) fk))) (aD (pS 5 nd (pf a0a hr (ao (pv 0) (ao (pv 4) ay)))) (aD (bD (PW.pt (kr (bT V2 (pv 5) hZ (bM _)) (kl (bT qt (pv 3) (cy (x:="MOST_ITEMS") Z a1b) (bM _))))) (aH (yt (λ_ _ _ _ _ _ I a b q=>pQ I a b q) N4 gK hr.hd N1 (hr.mono az) N7 N3 Z (ao (pv 3) ay))) bG) ku))) (aH (aZ (jI (x:="tuple") (mS K Z) Z (B.at "tuple") jA (ao (pv 2) ay)))))))),?_⟩;rcases hc with rfl|⟨d,rd,ht⟩
  ·refine⟨_,Z,.inl ⟨_,_,"str",true,Z,(dN (K:=K) (H:=H) "wait 0").ty,az,Ht,_,Z,aU ?_⟩⟩
   refine⟨_,Z,Z,_,Z,?_⟩;rw[show decide (V.str "wait 0"=V.str "")=false by decide+kernel];refine aU ⟨fh _,λD H1 n1=>?_⟩;refine⟨_,Z,Z,"wait 0","\n",Z,Z,aM,by rw[AA.1];omega,λq H2 n2=>?_⟩;rw[Qn]at n2;have s2:=n1.same.trans n2.same;refine⟨q,Z,⟨_,aK.of n2.at'⟩,zx (K:=K) (b:=true) (a:=q) (xs:=[.str "wait 0"]) (λi O H3=>aA H H3/\i=0/\H3 q=some (.lst [.str "wait 0"])/\∃v1 v2 v3,O=[some m,some (.str "wait 0"),some (.ref D),v1,v2,v3]) ⟨s2,Z,n2.at',none,none,none,Z⟩ (λi O H3 _ h=>aK.of h.2.2.1) ?_ ?_⟩
   ·rintro i y O H3 hy ⟨s3,rfl,eq,v1,v2,v3,rfl⟩ T H4 n4
    cases hy;have s4:=s3.trans n4.same;refine⟨T,_,Z,aQ.of n4.at',Z,_,_,Z,_,_,Z,Z,?_⟩;refine⟨_,Z,_,Z,m,M.rs,_,"wait 0",Z,RD.mono s4 _ rm,Z,by have:=aO.len;omega,by rw[AA.1];omega,AA.2,λv H5 s5 rv=>?_⟩;rw[Qo aO.len]at rv;cases rv.yL;refine⟨_,Z,Z,_,Z,ba (ba ?_)⟩;exact⟨_,Z,bC Z,λex fx=>rz H5 _ (s4.trans s5) ex fx⟩
   ·rintro O H3 ⟨_,e0,_⟩
    cases e0
  ·refine⟨_,Z,.inl ⟨_,_,"str",false,Z,rd.ty,az,ht,_,Z,ba ?_⟩⟩
   exact⟨bC Z,λex fx=>rz H _ (aA.refl _) ex fx⟩
abbrev B9:Stmt:=(FV (top 8)).getD 0 (.Pass ⟨0,0,0,0⟩)
theorem J8:bj ["self","at","why"] ["self","at","why"] (aP B9):=bw aM
def WV(x y:V):List (Str×V):=fM "why" y [("at",x)]
inductive a5H(K:aa)(vs:List V)(H:Hp)(Q:VK):Prop |mk (ex:_)(C:_)(x:_)(y:_)(h0:vs=[.ref ex,x,y])(h1:H ex=some (.ext (jy ex C)))(h2:nX K C "at")(h3:nX K C "why")(h4:∀dx,H dx=none->dx≠ex->Q .aY (_L.upd (_L.upd (_L.upd H dx (.xd [("at",x)])) ex (.ext (gZ ex C dx))) dx (.xd (WV x y))))
def AO(K:aa):Sp:=λvs H Q _=>a5H K vs H Q
theorem Vf{f:Addr}{fd:FuncData}(F:gq K "__init__" "NoTape.__init__" B9 f fd):dS P w K mg au eM 1 f fd ["self","at","why"] (AO K):=by
 refine F.ok J8 (λvs H Q E h=>?_) (λaE A outer s H vs Q E hr h=>?_)
 ·obtain⟨ex,C,x,y,rfl,_⟩:=h
  rfl
 ·obtain⟨ex,C,x,y,rfl,e1,xc,xw,k⟩:=h
  have nd:=J8.nd;refine⟨_,(aD (D8 K Z (pv 0) (pv 1)) (aH (Ug K Z (pv 0) (pv 2)))),?_⟩;exact⟨_,Z,_,Z,ex,C,Z,e1,xc,λdx fd ne=>⟨_,Z,_,Z,ex,C,dx,_,Z,bp,by rw[aL ne];exact bp,xw,(by show 1<1000;decide),k dx fd ne⟩⟩
structure Gs(K:aa)(mg:bc)(C fI:Addr):Prop where
 e:mH K mg "NoTape" C fI cW dg
 i:PySem.W.findIn K (.ref C) "__init__"=some (some (.ref fI))
 x:nX K C "at"
 y:nX K C "why"
 f:fnAt K fI=true
 fn:∃fd,gq K "__init__" "NoTape.__init__" B9 fI fd
def pR:ah:=.tuple [.str "wait",.int 5]
inductive a6F(K:aa)(vs:List V)(H:Hp)(Q:VK):Prop |mk (m:_)(xv:_)(ev:_)(M:_)(d:_)(h0:vs=[m,xv,ev])(h1:RD K H m (bQ.D M))(h2:M.Ok)(h3:RD K H xv pR)(h4:RD K H ev d)(h5:cD 8 d)(h6:lR d=true)(h7:gU M.rs.length d=false)(h8:∀H',aA H H'->Q (.int 1) H')
def IJ(K:aa):Sp:=λvs H Q _=>a6F K vs H Q
theorem Wn(F:FA K mg "fault_of_entry" Cc)(B:bE mg)(zr:GV mg "NOT_DUE" (.int 1))(vM:aG P w K mg au "is_item" 4 (uL K)):aG P w K mg au "fault_of_entry" 5 (IJ K):=by
 refine F.has K2 (λvs H Q E h=>?_) (λ_ _ _ _ _ _=>iR λ_ _ _=>rfl) (λfa aE A outer s H vs Q E hr h=>?_)
 ·obtain⟨m,xv,ev,M,d,rfl,_⟩:=h
  rfl
 ·obtain⟨m,xv,ev,M,d,rfl,rm,aO,rx,re,i2,i3,i1,k⟩:=h
  have nd:=K2.nd;have lr:=aO.len;refine⟨_,(aD (bD (bT (sX K Z hr.units) (px K (pv 1) aF) ck (bM _)) (aH (aZ (fW (PW.pt (oB (bS (pf vM hr (ao (pv 0) (ao (pv 2) ay)))) (sJ (bT (dR K Z hr.units) (pv 2) (pv 1) (bM _))))) hZ (cy (x:="NOT_DUE") Z zr)))) bG) ku),?_⟩;obtain⟨a,xs,rfl,h1,hd⟩:=id (show RD K H xv (.tuple [.str "wait",.int 5])from rx).da;obtain⟨u1,ys,rfl,e1,hd⟩:=hd.cons_inv;cases e1.str_inv;refine⟨_,Z,.inr ⟨a,_,0,.str "wait",Z,Z,h1,eK (gO 0) Z,.inr ⟨_,_,dN _,dN _,aM,aM,_,Z,?_⟩⟩⟩;rw[we,show fO "step" (.str "wait")=false by decide+kernel];refine ba ⟨_,Z,_,Z,m,ev,M.rs,_,d,Z,rm,re,bK,i2,i3,λH1 s1=>?_⟩;rw[i1];exact⟨_,Z,aU (k H1 s1)⟩
inductive a6t(K:aa)(cN:Addr)(vs:List V)(H:Hp)(E:XK):Prop |mk (m:_)(iv:_)(tv:_)(M:_)(D:_)(h0:vs=[m,iv,.int 100,tv])(h1:RD K H m (bQ.D M))(h2:M.Ok)(h3:RD K H tv D)(h4:(fD (gz D) "list"=false\/(RD K H iv (.tuple [pR])/\(D= .list []\/∃d,D= .list [d]/\cD 8 d/\lR d=true/\gU M.rs.length d=false))))(h5:∀dx H',aA H H'->E (.ref cN) (some dx) H')
def ID(K:aa)(cN:Addr):Sp:=λvs H Q E=>a6t K cN vs H E
theorem Hl{n:Nat}:fc n [pR] [none]:=by
 refine⟨Z,λi d o e1 e2=>?_,λi ns sp e=>?_⟩
 ·cases i with |zero=>cases e1;cases e2;exact(show qY pR from .inl ⟨5,rfl,az,az⟩).it |succ i=>cases e1
 ·cases i with |zero=>cases e |succ i=>cases e
abbrev BU:Stmt:=top 116
theorem JL:bj ["machine","items","rate","thing","due","bounds","ended","at","expected","why","begun"] ["machine","items","rate","thing"] (aP BU):=bw aM
theorem W4{cN fI:Addr}(F:FA K mg "look" BU)(B:bE mg)(NC:Gs K mg cN fI)(zr:GV mg "NOT_DUE" (.int 1))(a8A:GV mg "NO_BORDER" (.int 4))(a0t:aG P w K mg au "due_entries" 5 (IP K))(a0I:aG P w K mg au "bounds_between" 9 (IT K))(a0p:aG P w K mg au "fault_of_entry" 5 (IJ K)):fR P w K mg au "look" 10 (ID K cN):=by
 obtain⟨fd,FI⟩:=NC.fn;have EU:=NC.e;have EO:dS P w K mg au eM 1 fI fd ["self","at","why"] (AO K):=Vf FI;have F3:Binds K fd ["self","at","why"] []:=FI.binds (λ_ _ _ _ _ _=>iR λ_ _ _=>rfl);have ES:=NC.f;refine F.gW JL (λvs H Q E h=>?_) (λ_ _ _ _ _ _=>Ge λ_ _ _ _=>rfl) (λfa aE A outer s H vs Q E hr h=>?_)
 ·obtain⟨m,iv,tv,M,D,rfl,_⟩:=h
  rfl
 ·obtain⟨m,iv,tv,M,D,rfl,rm,aO,rt,hc,k⟩:=h
  have nd:=JL.nd;have lr:=aO.len;refine⟨_,(aD (bD (cE (bS (kC K B (ao (pv 3) (ao (jJ (x:="list") (v:=.ty "list") Z (B.at "list") PyProof.Rows.boot_list rfl) ay))))) (aH (D9 (λ_ _ _ _ _ _ I a b q=>pQ I a b q) EU gK hr.hd EO (hr.mono az) F3 ES Z (ao aF (ao (cy (x:="NOT_DUE") Z zr) ay)))) bG) (aD (pS 4 nd (pf a0t hr (ao (pv 1) (ao (pv 2) ay)))) (aD (pS 5 nd (pf a0I hr (ao (pv 0) (ao (pv 1) (ao (pv 2) ay))))) (aD (pS 6 nd hZ) (aD (iK GL Z (yw K Z true Z (B.at "enumerate") (ao (pv 4) ay)) (fm K rfl (n:=2) rfl (bV (bu 7 nd) (bV (bu 8 nd) fk))) (aD (bD (bT (dR K Z hr.units) (pv 7) (fo K B (ao (pv 3) ay)) (bM _)) (aH (D9 (λ_ _ _ _ _ _ I a b q=>pQ I a b q) EU gK hr.hd EO (hr.mono az) F3 ES Z (ao (pv 7) (ao (cy (x:="NOT_DUE") Z zr) ay)))) bG) (aD (pS 9 nd (pf a0p hr (ao (pv 0) (ao (pv 8) (ao (px K (pv 3) (pv 7)) ay))))) (aD (bD (bT Dm (pv 9) hZ (bM _)) (aH (D9 (λ_ _ _ _ _ _ I a b q=>pQ I a b q) EU gK hr.hd EO (hr.mono az) F3 ES Z (ao (pv 7) (ao (pv 9) ay)))) bG) ku)))) ku))))),?_⟩;have rz:∀(H5:Hp)(x y:V),aA H H5->∀ex,H5 ex=none->AO K [.ref ex,x,y] (_L.upd H5 ex (.ext (jy ex cN))) (λv H2=>v= .aY/\∃dx,H2 ex=some (.ext (gZ ex cN dx))/\E (.ref cN) (some dx) (_L.del H2 ex)) (λ_ _ _=>False):=by
   intro H5 x y s5 ex fx;refine⟨ex,cN,_,_,Z,bp,NC.x,NC.y,λdx lg ne=>⟨Z,dx,by rw[aL ne.symm];exact bp,?_⟩⟩;have qO:H5 dx=none:=by rw[aL ne]at lg;exact lg
   refine k dx _ λb o e=>?_;have e5:=s5 b o e;have nb:b≠ex:=eH e5 fx;have fX:b≠dx:=eH e5 qO;rw[mz nb,aL fX,aL nb,aL fX,aL nb];exact e5
  rcases hc with hl|⟨ri,hD⟩
  ·refine⟨_,Z,.inl ⟨_,_,"list",false,Z,rt.ty,az,hl,_,Z,ba ?_⟩⟩
   exact⟨bC Z,λex fx=>rz H _ _ (aA.refl _) ex fx⟩
  have hT:gz D="list":=by rcases hD with rfl|⟨d,rfl,_⟩<;>rfl
  have tt:=rt.ty;rw[hT]at tt;refine⟨_,Z,.inl ⟨_,_,"list",true,Z,tt,az,(by decide:fD "list" "list"=true),_,Z,aU ?_⟩⟩;refine⟨_,Z,_,Z,iv,100,M.rs.length,[pR],[none],Z,ri,Hl,bK,az,az,az,λlD yD H1 nD dD rD s1=>?_⟩;refine⟨_,Z,_,Z,_,Z,m,iv,100,M.rs,M.r,M.f,M.j,M.t,[pR],[none],Z,RD.mono s1 _ rm,aO,RD.mono s1 _ ri,Hl,az,az,az,λlB yB H2 nB dB rB s2=>?_⟩;have gD:=s1.trans s2;have rD:aI K H1 yD [pR]:=rD;have ly:=rD.length;refine⟨_,Z,lD,Z,⟨_,aK.of (s2 _ _ dD)⟩,zx (K:=K) (b:=true) (a:=lD) (xs:=yD) (λi O H3=>aA H2 H3/\i=0/\∃v1 v2 v3 v4,O=[some m,some iv,some (.int 100),some tv,some (.ref lD),some (.ref lB),some .aY,v1,v2,v3,v4]) ⟨aA.refl _,Z,none,none,none,none,Z⟩ (λi O H3 _ h=>aK.of (h.1 _ _ (s2 _ _ dD))) ?_ ?_⟩
  ·rintro i y O H3 hy ⟨s3,rfl,v1,v2,v3,v4,rfl⟩ T H4 n4
   obtain⟨du,edu,Tq⟩:=rD.get' 0 hy;cases edu;have sC:=s3.trans n4.same;have qc:=gD.trans sC;refine⟨T,_,Z,aQ.of n4.at',Z,_,_,Z,_,_,Z,Z,?_⟩;rcases hD with rfl|⟨d,rfl,i2,i3,i1⟩
   ·obtain⟨ta,xt,rfl,ht,vC⟩:=rt.lst_inv
    cases vC.nil_inv;refine⟨_,Z,_,Z,ta,_,Z,.inl (ht.go qc),.inl ⟨_,_,Z,Z,_,Z,ba ?_⟩⟩;exact⟨_,Z,bC Z,λex fx=>rz H4 _ _ qc ex fx⟩
   ·obtain⟨ta,xt,rfl,ht,vC⟩:=rt.lst_inv
    obtain⟨x,xr,rfl,rx,vC⟩:=vC.cons_inv;cases vC.nil_inv;refine⟨_,Z,_,Z,ta,_,Z,.inl (ht.go qc),.inl ⟨_,_,Z,Z,_,Z,aU ?_⟩⟩;refine⟨_,Z,_,Z,_,Z,_,Z,.inl ⟨ta,_,_,x,Z,Z,ht.go qc,Z,m,y,x,M,d,Z,RD.mono qc _ rm,aO,RD.mono (s2.trans sC) _ Tq,RD.mono qc _ rx,i2,i3,i1,λH5 s5=>?_⟩⟩;refine⟨_,Z,Z,_,Z,ba ?_⟩;exact⟨_,Z,_,Z,bC Z,λex fx=>rz H5 _ _ (qc.trans s5) ex fx⟩
  ·rintro O H3 ⟨_,e0,_⟩
   rw[ly]at e0;cases e0
end
open _T (numIn?)
section
variable {P:af}{w:World}{K:aa}{mg:bc}{au:Heap}
structure wQ(K:aa)(D:Addr):Prop where
 cl:gI K D
 nu:gp K D "machine"
 Xr:gp K D "runner"
theorem Y1{rs:List Int}{r f j t:Int}(h:lF rs r f j t):iq (gT rs r f j t)=true:=by
 show(oP (.tuple (rs.map PyData.int))&&cC 1 100 (.int t)&&[PyData.int r,.int f,.int j].all (cC 1 50))=true;have h1:oP (.tuple (rs.map PyData.int))=true:=by show(((rs.map PyData.int).length==2||(rs.map PyData.int).length==3)&&(rs.map PyData.int).all (cC 1 100))=true;rw[bR,d6,Bool.or_eq_true,cP,cP];refine⟨h.len,fG.mpr λd hd=>?_⟩;obtain⟨z,hz,rfl⟩:=gu.mp hd;have:=h.rl z hz;show(decide (1<=z)&&decide (z<=100))=true;rw[cu this.1,cu this.2];rfl
 have q:∀{lo hi z:Int},lo<=z/\z<=hi->cC lo hi (.int z)=true:=λ{lo hi z} h=>by show(decide (lo<=z)&&decide (z<=hi))=true;rw[cu h.1,cu h.2];rfl
 rw[h1,q h.t1];show(cC 1 50 (.int r)&&(cC 1 50 (.int f)&&(cC 1 50 (.int j)&&true)))=true;rw[q h.r1,q h.f1,q h.j1];rfl
abbrev Cg:Stmt:=inClass (top 109) 0
theorem K6:bj ["self","machine","place"] ["self","machine","place"] (aP Cg):=bw aM
inductive a6K(K:aa)(D:Addr)(c8:Addr)(c9:Addr)(vs:List V)(H:Hp)(Q:VK)(E:XK):Prop |mk (a:_)(dx:_)(mv:_)(bF:_)(h0:vs=[.ref a,mv,bF])(h1:H a=some (.ins D dx []))(h2:((∃d,RD K H mv d/\iq d=false/\∀H',aA H H'->E (.ref c8) none H')\/∃M d',RD K H mv (bQ.D M)/\M.Ok/\RD K H bF d'/\(kI M.rs d'=false->∀H',aA H H'->E (.ref c9) none H')/\(kI M.rs d'=true->∃pl,d'=eh pl/\∀r H',H' a=some (.ins D dx [("machine",mv),("runner",.ref r)])->cK [a] H H'->Q .aY H')))
def IM(K:aa)(C D c8 c9:Addr):Sp:=λvs H Q E=>a6K K D c8 c9 vs H Q E
theorem Wt{C D c8 c9:Addr}(F:CA K mg D "Desk" "Desk.__init__" Cg)(TC:wQ K D)(a1J:Exc K mg "NoMachine" c8 cW dg)(a1I:Exc K mg "NoPlace" c9 cW dg)(a0d:aG P w K mg au "is_machine" 4 (uO iq K))(vL:aG P w K mg au "is_place" 3 (uN K))(mm:r9 P w K mg au C "Runner" 1 (uH K C)):A6 P w K mg au D "Desk" 5 (IM K C D c8 c9):=by
 refine F.gW K6 (λvs H Q E h=>?_) (λ_ _ _ _ _ _=>iR λ_ _ _=>rfl) (λf aE A outer s H vs Q E hr h=>?_)
 ·obtain⟨a,dx,mv,bF,rfl,_⟩:=h
  rfl
 ·obtain⟨a,dx,mv,bF,rfl,e,hc⟩:=h
  have nd:=K6.nd;refine⟨_,(aD (bD (cE (bS (pf a0d hr (ao (pv 1) ay)))) (aH (jG (λ_ _ _ _ _ _ _ I m q=>jC I m q) a1J gK hr.hd Z (ao ck ay))) bG) (aD (bD (cE (bS (pf vL hr (ao (pv 1) (ao (pv 2) ay))))) (aH (jG (λ_ _ _ _ _ _ _ I m q=>jC I m q) a1I gK hr.hd Z (ao ck ay))) bG) (aD (fH TC.cl TC.nu (pv 0) (pv 1)) (aH (fH TC.cl TC.Xr (pv 0) (qp mm (hr.mono az) rfl (ao (pv 1) (ao (pv 2) ay)))))))),?_⟩;rcases hc with⟨d,rm,em,k1⟩|⟨M,d',rm,aO,rp,k2,k3⟩
  ·refine⟨_,Z,mv,d,Z,rm,λH1 s1=>⟨_,Z,?_⟩⟩
   rw[em];exact ba ⟨bC Z,k1 _ s1⟩
  refine⟨_,Z,mv,_,Z,rm,λH1 s1=>⟨_,Z,?_⟩⟩;rw[Y1 aO];refine aU ?_;have lr:=aO.len;refine⟨_,Z,_,Z,mv,bF,M.rs,_,d',Z,RD.mono s1 _ rm,RD.mono s1 _ rp,aw,λH2 s2=>⟨_,Z,?_⟩⟩;have gD:=s1.trans s2;cases ep:kI M.rs d' with |false=>exact ba ⟨bC Z,k2 ep _ gD⟩ |true=>
   refine aU ?_;obtain⟨pl,rfl,k4⟩:=k3 ep;have e2:=gD _ _ e;refine⟨_,Z,_,Z,a,dx,_,Z,e2,az,?_⟩;have v2:cA H (_L.upd H2 a (.ins D dx [("machine",mv)])):=gD.v.trans (.upd e2 trivial);refine⟨_,Z,_,Z,λr rx m7 Ej ne=>?_⟩;have ar:a≠r:=λz=>by rw[<-z,bp]at m7;cases m7
   have arx:a≠rx:=λz=>by rw[<-z,bp]at Ej;cases Ej
   have s3:aA (_L.upd H2 a (.ins D dx [("machine",mv)])) (_L.upd (_L.upd (_L.upd H2 a (.ins D dx [("machine",mv)])) rx (.own r)) r (.ins C rx [])):=(aA.new Ej).trans (aA.new (by rw[aL ne.symm];exact m7));have v3:=v2.trans s3.v;refine⟨r,rx,mv,bF,M,pl,Z,bp,RD.v v3 _ (kG _ _ _ _ _) rm,RD.v v3 _ (ky _) rp,λq H3 R3 nq bt=>⟨Z,?_⟩⟩;have nr:H r=none:=by cases e':H r with |none=>rfl |some o=>rw[aL ar.symm,gD _ _ e']at m7;cases m7
   have e3:=bt a _ (by rw[aL ar,aL arx];exact bp) (λz=>ar (eg.mp z));refine⟨_,Z,a,dx,_,Z,e3,by show 1<1000;decide,?_⟩;refine k4 r _ bp λb o eb hb=>?_;have ha:b≠a:=λz=>hb (by rw[z];exact .head _);have hbr:b≠r:=λz=>by rw[z,nr]at eb;cases eb
   rw[aL ha];exact bt b o (s3 _ _ (by rw[aL ha];exact gD _ _ eb)) (λz=>hbr (eg.mp z))
inductive a6h(K:aa)(vs:List V)(H:Hp)(Q:VK):Prop |mk (l:Addr)(h0:vs=[.ref l])(h1:aK K H l [])(h2:Q .aY H)
def Iy(K:aa):Sp:=λvs H Q _=>a6h K vs H Q
abbrev BI:Stmt:=top 110
theorem Jz:bj ["words"] ["words"] (aP BI):=bw aM
theorem VQ(F:FA K mg "only_number" BI)(B:bE mg)(vF:aG P w K mg au "number_in" 2 uJ):aG P w K mg au "only_number" 4 (Iy K):=by
 refine F.has Jz (λvs H Q E h=>?_) (λ_ _ _ _ _ _=>fz λ_=>rfl) (λf aE A outer s H vs Q E hr h=>?_)
 ·obtain⟨l,rfl,_⟩:=h
  rfl
 ·obtain⟨l,rfl,hl,k⟩:=h
  have nd:=Jz.nd;refine⟨_,(aH (aZ (fW (bT (dR K Z hr.units) (fo K B (ao (pv 0) ay)) aF (bM _)) (pf vF hr (ao (px K (pv 0) aF) ay)) hZ))),?_⟩;exact⟨_,Z,l,_,Z,.inl hl,.inl ⟨_,_,Z,Z,_,Z,aU k⟩⟩
abbrev Bm:Stmt:=inClass (top 109) 3
theorem Jk:bj ["self","words","number"] ["self","words"] (aP Bm):=bw aM
inductive a5X(K:aa)(cL:Addr)(vs:List V)(H:Hp)(E:XK):Prop |mk (a:_)(l:_)(h0:vs=[.ref a,.ref l])(h1:aK K H l [])(h2:∀H',aA H H'->E (.ref cL) none H')
def Ik(K:aa)(cL:Addr):Sp:=λvs H Q E=>a5X K cL vs H E
theorem Vr{D cL:Addr}(F:MA K D "say_steps" "Desk.say_steps" Bm)(B:bE mg)(EW:Exc K mg "NoLine" cL cW dg)(a1c:GV mg "MOST_ENTRIES" (.int 100))(ZK:aG P w K mg au "only_number" 4 (Iy K))(ir:aG P w K mg au "is_whole_within" 2 (lQ K)):iC P w K mg au D "say_steps" 5 (Ik K cL):=by
 refine F.gW Jk (λvs H Q E h=>?_) (λ_ _ _ _ _ _=>cJ λ_ _=>rfl) (λf0 aE A outer s H vs Q E hr h=>?_)
 ·obtain⟨a,l,rfl,_⟩:=h
  rfl
 ·obtain⟨a,l,rfl,hl,k⟩:=h
  have nd:=Jk.nd;refine⟨_,(aD (pS 2 nd (pf ZK hr (ao (pv 1) ay))) (aD (bD (cE (bS (pf ir hr (ao (pv 2) (ao aF (ao (cy (x:="MOST_ENTRIES") Z a1c) ay)))))) (aH (jG (λ_ _ _ _ _ _ _ I m q=>jC I m q) EW gK hr.hd Z (ao ck ay))) bG) ku)),?_⟩;refine⟨_,Z,l,Z,hl,?_⟩;refine⟨_,Z,_,.none,0,100,Z,oA,_,Z,ba ?_⟩;exact⟨bC Z,k _ (aA.refl _)⟩
inductive a5W(K:aa)(D:Addr)(cL:Addr)(vs:List V)(H:Hp)(E:XK):Prop |mk (a:_)(dx:_)(mv:_)(r:_)(x:_)(h0:vs=[.ref a,x])(h1:H a=some (.ins D dx [("machine",mv),("runner",.ref r)]))(h2:(x= .str "steps"\/∃d,RD K H x d/\fD (gz d) "str"=false))(h3:∀H',aA H H'->E (.ref cL) none H')
def Ij(K:aa)(D cL:Addr):Sp:=λvs H Q E=>a5W K D cL vs H E
theorem ND(x y:Str):PyData.eqv (.str x) (.str y)=decide (x=y):=by show(x==y)=decide (x=y);rw[iX];simp
abbrev Bl:Stmt:=inClass (top 109) 1
theorem Jj:bj ["self","text","word","rest","answer","item"] ["self","text"] (aP Bl):=bw aM
theorem Vs{D gA cL:Addr}(F:MA K D "say" "Desk.say" Bl)(TC:wQ K D)(B:bE mg)(GA:GD w K mg "ANSWERS" gA)(nA:PySem.W.nsIn K gA "steps"=some none)(EW:Exc K mg "NoLine" cL cW dg)(a1M:iC P w K mg au D "say_steps" 5 (Ik K cL)):iC P w K mg au D "say" 6 (Ij K D cL):=by
 refine F.gW Jj (λvs H Q E h=>?_) (λ_ _ _ _ _ _=>cJ λ_ _=>rfl) (λf0 aE A outer s H vs Q E hr h=>?_)
 ·obtain⟨a,dx,mv,r,x,rfl,_⟩:=h
  rfl
 ·obtain⟨a,dx,mv,r,x,rfl,ea,hc,k⟩:=h
  have nd:=Jj.nd;have gX:sizeLine=16777216:=by decide
  refine⟨_,(aD (bD (cE (bS (kC K B (ao (pv 1) (ao (jJ (x:="str") (v:=.ty "str") Z (B.at "str") PF rfl) ay))))) (aH (jG (λ_ _ _ _ _ _ _ I m q=>jC I m q) EW gK hr.hd Z (ao ck ay))) bG) (aD (gc (Dj K Z (pv 1) (ao ck ay)) (KS K Z Z (bu 2 nd) (bu 3 nd))) (aD (bD (PW.pt (oB (Ud (UK GA Z (pv 2)) (by with_unfolding_all rfl)) (sJ (cE (uZ K Z (pv 3)))))) ku bG) (aD (bD (bT (dR K Z hr.units) (pv 2) ck (bM _)) ku bG) (aD (bD (bT (dR K Z hr.units) (pv 2) ck (bM _)) (aH (aZ (kz a1M (eu λ_ _ _ z=>z) TC.cl (hr.mono az) (pv 0) (ao (pv 3) ay)))) bG) ku))))),?_⟩;rcases hc with rfl|⟨d,rd,hd⟩
  ·refine⟨_,Z,.inl ⟨_,"str","str",true,Z,Z,az,az,_,Z,aU ?_⟩⟩
   have hs:Txt.split "steps" " "=[("steps":Str)]:=by decide+kernel
   have hl:Str.length "steps"=5:=by decide+kernel
   refine⟨_,Z,Z,"steps"," ",Z,Z,aM,aw,λl H1 n1=>?_⟩;rw[hs]at n1;refine⟨l,.str "steps",[],Z,aK.of n1.at',az,λp H2 n2=>?_⟩;have s2:=n1.same.trans n2.same;refine⟨_,Z,"steps",none,Z,nA,_,Z,aU ?_⟩;refine⟨_,Z,.inr ⟨_,_,dN _,dN _,aM,aM,_,Z,?_⟩⟩;rw[ND,cX aM];refine aU ⟨_,Z,.inr ⟨_,_,dN _,dN _,aM,aM,_,Z,?_⟩⟩;rw[ND,cu rfl];refine ba ?_;exact⟨_,Z,a,dx,_,Z,s2 _ _ ea,Z,_,Z,a,p,Z,aK.of n2.at',λH' s'=>k H' (s2.trans s')⟩
  ·exact⟨_,Z,.inl ⟨_,_,"str",false,Z,rd.ty,az,hd,_,Z,ba ⟨bC Z,k _ (aA.refl _)⟩⟩⟩
end
end _a
set_option maxHeartbeats 1000000
namespace _a
open PySem PySem.Spec PyProof.Rows _L _r _l _C _P _W _R
open _O (topR cornO mnO betR atO ownF leadF ownL OkI OkIs)
section
variable {P:af}{w:World}{K:aa}{mg:bc}{au:Heap}
def wk(S:bO):bO:=match S.os with |o::os=>{S with pl:=fw S.pl o,ds:=S.ds.tail,os:=os,dn:=0} |[]=>S
theorem fc.tail{n:Nat}{d:ah}{ds:List ah}{o:Itm}{os:List Itm}(h:fc n (d::ds) (o::os)):fc n ds os:=⟨by have:=h.len;simpa using this,λi d' o' e1 e2=>h.it (i+1) d' o' (by simpa using e1) (by simpa using e2),λi ns sp e=>h.ok (i+1) ns sp (by simpa using e)⟩
theorem RowW.tail{d:ah}{ds:List ah}{o:Itm}{os:List Itm}(h:RowW (d::ds) (o::os)):RowW ds os:=λi d' e1 e2=>h (i+1) d' (by simpa using e1) (by simpa using e2)
structure jh(M:bQ)(D:Nat)(S:bO):Prop where
 row:fc M.rs.length S.ds S.os
 rw:RowW S.ds S.os
 len:S.ds.length<=20
 dy:10<=S.rate
 dM:S.rate<=200
 pl:S.pl.length=M.rs.length
 pd:Dd (D+10) S.pc
 pm:S.pc<=1600
 bh:pI D S.pc S.bh
 D1:64<=D
 D2:D<=1500
theorem dE.raw{M:bQ}{D:Nat}{S:bO}(h:dE M D S):jh M D S:=⟨h.row,h.rw,h.len,h.dy,h.dM,h.pl,h.pd,h.pm,h.bh,h.D1,h.D2⟩
theorem jh.ok{M:bQ}{D:Nat}{S:bO}(h:jh M D S)(hd:S.dn=0\/∃ns sp,S.os[0]? =some (some (ns,sp))/\S.dn<aJ ns):dE M D S:=⟨h.row,h.rw,h.len,h.dy,h.dM,hd,h.pl,h.pd,h.pm,h.bh,h.D1,h.D2⟩
theorem jh.end{M:bQ}{D:Nat}{S:bO}(h:jh M D S)(hn:S.os≠[]):dE M D (wk S):=by obtain⟨pl,dn,ds,os,pc,rate,side,mark,bh⟩:=S;cases os with |nil=>exact(hn Z).elim |cons o os=>have ll:=h.row.len;cases ds with |nil=>simp at ll |cons d ds=>
 refine⟨h.row.tail,h.rw.tail,?_,h.dy,h.dM,.inl Z,?_,h.pd,h.pm,h.bh,h.D1,h.D2⟩
 ·have:=h.len
  simp only[fC]at this;show ds.length<=20
  lia
 ·exact zV h.pl λns sp e=>(h.row.ok 0 ns sp (by rw[<-e];rfl)).1.len
theorem zO(xs:List V):gG xs (some 1) none=xs.drop 1:=FP xs
abbrev BE:Stmt:=inClass (top 76) 16
theorem Jv:bj ["self"] ["self"] (aP BE):=bw aM
inductive a6a(K:aa)(C:Addr)(vs:List V)(H:Hp)(Q:VK):Prop |mk (a:_)(q:_)(M:_)(D:_)(S:_)(h0:vs=[.ref a])(h1:cx K C H a q M S)(h2:jh M D S)(h3:M.Ok)(h4:S.os≠[])(h5:∀q' H',cx K C H' a q' M (wk S)->H q'=none->cK [a] H H'->Q .aY H')
def AS(K:aa)(C:Addr):Sp:=λvs H Q _=>a6a K C vs H Q
theorem VH{C:Addr}(F:MA K C "end_first" "Runner.end_first" BE)(TC:gm K C)(qK:aG P w K mg au "place_behind" 2 (sy K)):eL P w K mg au C "end_first" 3 (AS K C):=by
 refine F.has Jv (λvs H Q E h=>?_) (λ_ _ _ _ _ _=>fz λ_=>rfl) (λf aE A outer s H vs Q E hr h=>?_)
 ·obtain⟨a,q,M,D,S,rfl,_⟩:=h
  rfl
 ·obtain⟨a,q,M,D,S,rfl,R,ok,aO,hn,k⟩:=h
  obtain⟨dx,mv,bv,cf,tv,e,r1,r2,r3,r4⟩:=R.ob;obtain⟨ys,eq,rq⟩:=R.qu;have aq:=R.ne;have nd:=Jv.nd;have lr:=aO.len;have ll:=ok.row.len;refine⟨_,(aD (fH TC.cl TC.qA (pv 0) (pf qK hr (ao (cV TC.cl TC.qA (pv 0)) (ao (px K (cV TC.cl TC.ij (pv 0)) aF) ay)))) (aD (fH TC.cl TC.ij (pv 0) (qo (yc K rfl) (cV TC.cl TC.ij (pv 0)) (qi aF) qj)) (aH (fH TC.cl TC.lX (pv 0) aF)))),?_⟩;obtain⟨pl,dn,ds,os,pc,rate,side,mark,bh⟩:=S;cases os with |nil=>exact(hn Z).elim |cons o os=>cases ds with |nil=>simp at ll |cons d ds=>
   obtain⟨y,yr,rfl,ry,rr⟩:=rq.cons_inv;have it:itR d o:=ok.row.it 0 d o Z rfl;have lp:pl.length=M.rs.length:=ok.pl;refine⟨_,Z,a,dx,_,_,Z,e,Z,?_⟩;refine⟨_,Z,a,dx,_,_,Z,e,Z,.inl ⟨q,_,0,y,Z,Z,aK.of eq,eK (gO 0) Z,?_⟩⟩;refine⟨bv,y,pl,d,o,Z,r2,ry,it,λns sp e'=>by rw[lp];exact(ok.row.ok 0 ns sp (by rw[<-e'];rfl)).1.len,aw,λu H1 ru s1=>?_⟩;have e1:=s1 _ _ e;refine⟨_,Z,a,dx,_,Z,e1,by show 9<1000;decide,?_⟩;have eq1:(_L.upd H1 a (.ins C dx (eW mv u (.int dn) (.ref q) cf (.int rate) (.str side) (.str mark) tv))) q=some (.lst (y::yr)):=by rw[aL aq.symm];exact s1 _ _ eq
   refine⟨_,Z,a,dx,_,_,Z,bp,Z,_,Z,q,_,Z,.inl ⟨aK.of eq1,λq' H2 n2=>?_⟩⟩;have e2:=n2.same _ _ (bp (a:=a));refine⟨_,Z,a,dx,_,Z,e2,by show 9<1000;decide,?_⟩;refine⟨_,Z,a,dx,_,Z,bp,by show 9<1000;decide,?_⟩;have pH:a≠q':=λz=>by have:=n2.no;rw[<-z,bp]at this;cases this
   have key:∀X:Hp,(∀b,b≠a->X b=H2 b)->Q .aY (_L.upd X a (.ins C dx (eW mv u (.int 0) (.ref q') cf (.int rate) (.str side) (.str mark) tv))):=by
    intro X hX;have bt:cK [a] H (_L.upd X a (.ins C dx (eW mv u (.int 0) (.ref q') cf (.int rate) (.str side) (.str mark) tv))):=λb o' eb hb=>by have ha:b≠a:=λz=>hb (by rw[z];exact .head _);rw[aL ha,hX b ha];exact n2.same _ _ (by rw[aL ha];exact s1 _ _ eb)
    have sv:=bt.v λx hx o' eo=>by rw[eg]at hx;rw[hx,e]at eo;cases eo;trivial
    have AI:cA H1 (_L.upd X a (.ins C dx (eW mv u (.int 0) (.ref q') cf (.int rate) (.str side) (.str mark) tv))):=λb o' nb eb=>by
     have ha:b≠a:=λz=>by rw[z,e1]at eb;cases eb;exact nb trivial
     rw[aL ha,hX b ha];exact n2.same _ _ (by rw[aL ha];exact eb)
    have fK:=n2.at';rw[zO]at fK;refine k q' _ ⟨⟨dx,mv,u,cf,tv,bp,RD.v sv _ (kG _ _ _ _ _) r1,RD.v AI _ (ky _) ru,r3.v sv,r4.v sv⟩,yr,?_,?_⟩ ?_ bt
    ·rw[aL pH.symm,hX q' pH.symm];exact fK
    ·exact aI.v sv _ ok.row.tail.no rr
    ·cases e':H q' with |none=>rfl |some o'=>have h1:=s1 _ _ e';have h2:=n2.no;rw[aL pH.symm,h1]at h2;cases h2
   exact key _ (λb hb=>by rw[aL hb])
theorem XD{x y z u q:Rat}(h:q=x\/q=y\/q=z\/q=u)(h1:q<=x)(h2:q<=y)(h3:q<=z)(h4:q<=u):mn (mn (mn x y) z) u=q:=by
 refine GH ?_ (m4 (m4 (m4 h1 h2) h3) h4);rcases h with h|h|h|h
 ·rw[h];exact fg (fY _ _) (fg (fY _ _) (fY _ _))
 ·rw[h];exact fg (fY _ _) (fg (fY _ _) (kF _ _))
 ·rw[h];exact fg (fY _ _) (kF _ _)
 ·rw[h];exact kF _ _
theorem Mb{H:Hp}{Q:VK}{l:Addr}{u1 u2 u3:V}{x y z:Rat}(dl:H l=some (.lst [u1,u2,u3]))(R1:bN K H u1 x)(R2:bN K H u2 y)(R3:bN K H u3 z)(b1:Bd 2000 x)(b2:Bd 2000 y)(b3:Bd 2000 z)(k:∀v,bN K H v (mn (mn x y) z)->Q v H):mW K [.ref l] H Q E0:=by
 refine⟨l,[u1,u2,u3],[x,y,z],Z,aK.of dl,⟨R1,b1,R2,b2,R3,b3,trivial⟩,by simp,λc v q e1 e2 hq=>k v ?_⟩;have e:mn (mn x y) z=q:=by
  refine XE ?_ (hq _ (by simp)) (hq _ (by simp)) (hq _ (by simp))
  match c,e2 with |0,e2=>cases e2;exact .inl rfl |1,e2=>cases e2;exact .inr (.inl rfl) |2,e2=>cases e2;exact .inr (.inr rfl)
 rw[e]
 match c,e1,e2 with |0,e1,e2=>cases e1;cases e2;exact R1 |1,e1,e2=>cases e1;cases e2;exact R2 |2,e1,e2=>cases e1;cases e2;exact R3
theorem Ma{H:Hp}{Q:VK}{l:Addr}{u1 u2 u3 u4:V}{x y z t:Rat}(dl:H l=some (.lst [u1,u2,u3,u4]))(R1:bN K H u1 x)(R2:bN K H u2 y)(R3:bN K H u3 z)(R4:bN K H u4 t)(b1:Bd 2000 x)(b2:Bd 2000 y)(b3:Bd 2000 z)(b4:Bd 2000 t)(k:∀v,bN K H v (mn (mn (mn x y) z) t)->Q v H):mW K [.ref l] H Q E0:=by
 refine⟨l,[u1,u2,u3,u4],[x,y,z,t],Z,aK.of dl,⟨R1,b1,R2,b2,R3,b3,R4,b4,trivial⟩,by simp,λc v q e1 e2 hq=>k v ?_⟩;have e:mn (mn (mn x y) z) t=q:=by
  refine XD ?_ (hq _ (by simp)) (hq _ (by simp)) (hq _ (by simp)) (hq _ (by simp))
  match c,e2 with |0,e2=>cases e2;exact .inl rfl |1,e2=>cases e2;exact .inr (.inl rfl) |2,e2=>cases e2;exact .inr (.inr (.inl rfl)) |3,e2=>cases e2;exact .inr (.inr (.inr rfl))
 rw[e]
 match c,e1,e2 with |0,e1,e2=>cases e1;cases e2;exact R1 |1,e1,e2=>cases e1;cases e2;exact R2 |2,e1,e2=>cases e1;cases e2;exact R3 |3,e1,e2=>cases e1;cases e2;exact R4
theorem zN{D:Nat}{q:Rat}{z:Int}(h:Dd D q)(hl:q<=1600)(hz:0<=z)(Mt:z<2^24)(hD:D<=1700):Bd 2000 (q+(z:Rat)):=by have b:Bd (D+11) q:=h.bd (fg hl aM);exact(Gg b aw).mono aw
abbrev Bv:Stmt:=inClass (top 76) 15
theorem Jq:bj ["self","top","reach","left","rise","fall","middles","ends","square","steps","gone","still"] ["self","top","reach","left"] (aP Bv):=bw aM
def Dx(M:bQ)(S:bO)(top R:Rat)(left:Int):bO:={S with pc:=qy M.r M.f S.pc top R left S.bh,bh:=yI S.bh}
inductive a65(K:aa)(C:Addr)(vs:List V)(H:Hp)(Q:VK):Prop |mk (a:_)(q:_)(M:_)(D:_)(S:_)(tv:_)(Rv:_)(top:_)(R:_)(left:_)(h0:vs=[.ref a,tv,Rv,.int left])(h1:cx K C H a q M S)(h2:dE M D S)(h3:M.Ok)(h4:bN K H tv top)(h5:Dd 14 top)(h6:top<=1600)(h7:bN K H Rv R)(h8:Dd 64 R)(h9:R<=1600)(h10:1<=left)(h11:left<=100)(zv:¬Halt S.pc S.bh)(h13:∀v H',bN K H' v (nj M.r M.f S.pc top R left S.bh)->cx K C H' a q M (Dx M S top R left)->cK [a] H H'->Q v H')
def Ip(K:aa)(C:Addr):Sp:=λvs H Q _=>a65 K C vs H Q
theorem Vy{C:Addr}(F:MA K C "next_square" "Runner.next_square" Bv)(TC:gm K C)(tD:aG P w K mg au "plus_whole" 4 (y4 K))(Mx:aG P w K mg au "times" 3 (uI (·*·) K))(kO:aG P w K mg au "fraction" 3 (sx K))(tH:aG P w K mg au "least" 2 (mW K))(EK:eL P w K mg au C "is_held" 1 (iZ K C λ_ S H Q=>Q (.bl S.bh.isSome) H)):eL P w K mg au C "next_square" 5 (Ip K C):=by
 refine F.has Jq (λvs H Q E h=>?_) (λ_ _ _ _ _ _=>Ge λ_ _ _ _=>rfl) (λf aE A outer s H vs Q E hr h=>?_)
 ·obtain⟨a,q,M,D,S,tv,Rv,top,R,left,rfl,_⟩:=h
  rfl
 ·obtain⟨a,q,M,D,S,tv,Rv,top,R,left,rfl,R0,ok,aO,rt,td,tl,rR,Rd,Rl,l1,l2,nh,k⟩:=h
  obtain⟨dx,mv,bv,cf,sv,e,r1,r2,r3,r4⟩:=R0.ob;obtain⟨ys,eq,rq⟩:=R0.qu;have aq:=R0.ne;have nd:=Jq.nd;have yp:=aO.r1;have wa:=aO.f1;have D1:=ok.D1;have D2:=ok.D2;have gX:(2:Int)^24=16777216:=by decide
  obtain⟨ma,mb,rfl,jr,me⟩:=qD r1;refine⟨_,(aD (De (i:=4) (j:=5) Z nd Z Z az Z Z (ao (px K (cV TC.cl TC.nu (pv 0)) aF) (ao (px K (cV TC.cl TC.nu (pv 0)) aF) ay)) rfl) (aD (pS 6 nd (dF (ao (pf tD hr (ao (cV TC.cl TC.vq (pv 0)) (ao (pv 4) ay))) (ao (pv 1) (ao (pf tD hr (ao (pv 2) (ao (aW cw (pv 5) (aW j8 (aW cw aF (pv 3)) aF)) ay))) ay))))) (aD (pS 7 nd (dF (ao (pf tD hr (ao (cV TC.cl TC.vq (pv 0)) (ao (aW cw aF (pv 4)) ay))) (ao (pv 1) (ao (pf tD hr (ao (pv 2) (ao (aW cw (aW cw aF (pv 5)) (aW j8 (pv 3) aF)) ay))) ay))))) (aD (jn (bD (bS (kA EK TC.cl (hr.mono az) (pv 0))) (aD (gc (cV TC.cl TC.yN (pv 0)) (fm K rfl (n:=3) rfl (bV (bu 8 nd) (bV (bu 9 nd) (bV (bu 10 nd) fk))))) (aD (pS 11 nd (aW j8 (aW j8 (pv 9) (pv 10)) aF)) (aD (gE (oE K Z (pv 6) (ao (pf Mx hr (ao (pv 8) (ao (pf kO hr (ao (aW fJ (aW cw aF (pv 11)) aF) (ao (aW cw aF (pv 9)) ay))) ay))) ay))) (aD (gE (oE K Z (pv 7) (ao (pf Mx hr (ao (pv 8) (ao (pf kO hr (ao (pv 11) (ao (pv 9) ay))) ay))) ay))) (aH (fH TC.cl TC.yN (pv 0) (dc (ao (pv 8) (ao (pv 9) (ao (aW fJ (pv 10) aF) ay)))))))))) bG)) (aD (fH TC.cl TC.vq (pv 0) (pf tH hr (ao (pv 7) ay))) (aH (aZ (pf tH hr (ao (pv 6) ay))))))))),?_⟩;refine⟨_,Z,a,dx,_,_,Z,e,Z,.inr ⟨ma,_,1,.int M.r,Z,Z,jr,Z,?_⟩⟩;refine⟨_,Z,a,dx,_,_,Z,e,Z,.inr ⟨ma,_,2,.int M.f,Z,Z,jr,Z,_,_,Z,?_⟩⟩;have fl1:(M.f*(2*left-1)).natAbs<=50*200:=by rw[gM];exact rK aw aw
  have a2z:0<=M.f*(2*left-1):=lI aw aw;have fl2:(2*M.f*(left-1)).natAbs<=100*100:=by rw[gM];exact rK aw aw
  have a2y:0<=2*M.f*(left-1):=lI aw aw;have L7:Bd 2000 S.pc:=(ok.pd.bd (fg ok.pm aM)).mono aw;have RB:Bd 2000 R:=(Rd.bd (fg Rl aM)).mono az;have tB:Bd 2000 top:=(td.bd (fg tl aM)).mono az;have B1:Bd 2000 (S.pc+(M.r:Rat)):=zN ok.pd ok.pm aw aw aw;have B2:Bd 2000 (R+((M.f*(2*left-1):Int):Rat)):=zN Rd Rl a2z aw aw;have B3:Bd 2000 (S.pc+((2*M.r:Int):Rat)):=zN ok.pd ok.pm aw aw aw;have B4:Bd 2000 (R+((2*M.f*(left-1):Int):Rat)):=zN Rd Rl a2y aw aw;refine⟨_,Z,a,dx,_,_,Z,e,Z,_,Z,cf,_,_,Z,r3,L7,aw,λu1 H1 kg s1=>?_⟩;refine⟨_,Z,_,Z,_,Z,_,Z,_,_,Z,Z,.of_left (dU az az),_,_,Z,Z,_,_,Z,Z,.of_left (dU aw aw),Rv,_,_,Z,rR.go s1,RB,aw,λu2 H2 uV s2=>?_⟩;refine⟨bC Z,λlm H3 n3=>?_⟩;have fE:=s1.trans (s2.trans n3.same);refine⟨_,Z,a,dx,_,_,Z,fE _ _ e,Z,_,Z,_,_,Z,Z,.of_left (dU az az),cf,_,_,Z,r3.go fE,L7,aw,λu3 H4 SQ s4=>?_⟩;have fj:=fE.trans s4;refine⟨_,Z,_,Z,_,Z,_,_,Z,Z,.of_left (dU az az),_,Z,_,_,Z,Z,_,_,Z,Z,.of_left (dU aw aw),Rv,_,_,Z,rR.go fj,RB,aw,λu4 H5 SO s5=>?_⟩;refine⟨bC Z,λle H6 n6=>?_⟩;have sD:=fj.trans (s5.trans n6.same);have oy:=s4.trans (s5.trans n6.same);have e6:=sD _ _ e;have R6:=R0.same ok.row.no sD;have U1:=kg.go (s2.trans (n3.same.trans oy));have U2:=uV.go (n3.same.trans oy);have U3:=SQ.go (s5.trans n6.same);have U4:=SO.go n6.same;have T6:=rt.go sD;have dm:=oy _ _ n3.at';have de:=n6.at';have Gb:a≠lm:=λz=>by have:=n3.no;rw[<-z,(s1.trans s2) _ _ e]at this;cases this
  have OK:a≠le:=λz=>by have:=n6.no;rw[<-z,(fj.trans s5) _ _ e]at this;cases this
  have M5:lm≠le:=λz=>by have:=n6.no;rw[<-z,(s4.trans s5) _ _ n3.at']at this;cases this
  have Xg:H lm=none:=by cases e':H lm with |none=>rfl |some o=>have:=(s1.trans s2) _ _ e';rw[n3.no]at this;cases this
  have Xh:H le=none:=by cases e':H le with |none=>rfl |some o=>have:=(fj.trans s5) _ _ e';rw[n6.no]at this;cases this
  refine⟨λO H7=>∃pW w8 w9 lJ Hm um ue,O=[some (.ref a),some tv,some Rv,some (.int left),some (.int M.r),some (.int M.f),some (.ref lm),some (.ref le),w8,w9,lJ,Hm]/\cK [a,lm,le] H6 H7/\H7 a=some (.ins C dx (eW (.ref ma) bv (.int S.dn) (.ref q) cf (.int S.rate) (.str S.side) (.str S.mark) pW))/\u6 K H7 pW (yI S.bh)/\H7 lm=some (.lst um)/\H7 le=some (.lst ue)/\(∀H8 Q',cA H7 H8->H8 lm=some (.lst um)->(∀v,bN K H8 v (nj M.r M.f S.pc top R left S.bh)->Q' v H8)->mW K [.ref lm] H8 Q' E0)/\(∀H8 Q',cA H7 H8->H8 le=some (.lst ue)->(∀v,bN K H8 v (qy M.r M.f S.pc top R left S.bh)->Q' v H8)->mW K [.ref le] H8 Q' E0),?_,?_⟩
  ·refine⟨_,Z,a,dx,_,Z,e6,Z,a,q,M,D,S,Z,R6,ok,aO,_,Z,?_⟩
   cases hs:S.bh with |none=>rw[hs]at r4;refine aU ⟨sv,_,_,_,_,_,_,Z,cK.refl _ _,e6,r4,dm,de,λH8 Q' sV d8 kq=>Mb d8 (U1.v sV) (T6.v sV) (U2.v sV) B1 tB B2 kq,λH8 Q' sV d8 kq=>Mb d8 (U3.v sV) (T6.v sV) (U4.v sV) B3 tB B4 kq⟩ |some z=>
    obtain⟨sq,st,gn⟩:=z;rw[hs]at r4;have sk:=ok.bh;rw[hs]at sk nh;obtain⟨g1,g2,g3⟩:=vm sk ok.pd.nn nh;obtain⟨gn0,gn1,AK,AM,AL,_,_⟩:=sk;obtain⟨ta,su,rfl,Zy,ZA⟩:=r4;refine ba ?_;have Zx:=Zy.go sD;have Eg:=ZA.go sD;have HW:Bd 2000 sq:=(AM.bd AL).mono aw;refine⟨_,Z,a,dx,_,_,Z,e6,Z,ta,_,Z,Zx,Z,_,_,Z,_,_,Z,_,_,Z,Z,?_⟩;refine⟨_,Z,_,Z,_,_,Z,Z,_,_,Z,Z,?_⟩;have gX:sizeLine=16777216:=by decide
    refine⟨_,Z,.inl ⟨Z,_,aK.of dm⟩,_,Z,_,Z,_,_,Z,Z,.of_left (dU az az),_,_,Z,Z,_,Z,_,_,Z,Z,.of_left (dU az az),_,_,Z,aw,jD (n:=64) aw az,λfv H7 rf s7=>?_⟩;have fB:Bd 2000 (Rat.divInt (2*(st-gn-1)+1) (2*st)):=(ja (n:=12) aw aw aw).mono az;have fB2:Bd 2000 (Rat.divInt (st-gn-1) st):=(ja (n:=12) aw aw aw).mono az;have pB:Bd 2000 (sq*Rat.divInt (2*(st-gn-1)+1) (2*st)):=((AM.bd AL).mul (ja (n:=12) aw aw aw)).mono aw;have UM:Bd 2000 (sq*Rat.divInt (st-gn-1) st):=((AM.bd AL).mul (ja (n:=12) aw aw aw)).mono aw;refine⟨su,fv,sq,_,Z,Eg.go s7,rf,HW,fB,λx1 H8 SJ s8=>?_⟩;have lT:=s7.trans s8;have NU:=lT _ _ dm;refine⟨lm,_,_,Z,Z,NU,by show 3<sizeLine;lia,?_⟩;have v8:cA H8 (_L.upd H8 lm (.lst ([u1,tv,u2]++[x1]))):=.upd NU trivial;have O6:(_L.upd H8 lm (.lst ([u1,tv,u2]++[x1]))) le=some (.lst [u3,tv,u4]):=by rw[aL M5.symm];exact lT _ _ de
    refine⟨_,Z,.inl ⟨Z,_,aK.of O6⟩,_,Z,_,Z,_,Z,_,_,Z,aw,jD (n:=64) aw az,λgv H9 rg s9=>?_⟩;refine⟨su,gv,sq,_,Z,((Eg.go lT).v v8).go s9,rg,HW,fB2,λx2 ji SI iJ=>?_⟩;have sA:=s9.trans iJ;have O7:=sA _ _ O6;refine⟨le,_,_,Z,Z,O7,by show 3<sizeLine;lia,?_⟩;have v10:cA ji (_L.upd ji le (.lst ([u3,tv,u4]++[x2]))):=.upd O7 trivial;refine⟨_,Z,_,Z,_,Z,_,_,Z,Z,bC Z,λtn iE jM=>?_⟩;have Qr:cA H6 ji:=(lT.v.trans v8).trans sA.v;have Qq:cA H6 iE:=(Qr.trans v10).trans jM.same.v;have e8:(_L.upd H8 lm (.lst ([u1,tv,u2]++[x1]))) a=some (.ins C dx (eW (.ref ma) bv (.int S.dn) (.ref q) cf (.int S.rate) (.str S.side) (.str S.mark) (.ref ta))):=by rw[aL Gb];exact lT _ _ e6
    have NO:iE a=some (.ins C dx (eW (.ref ma) bv (.int S.dn) (.ref q) cf (.int S.rate) (.str S.side) (.str S.mark) (.ref ta))):=jM.same _ _ (by rw[aL OK];exact sA _ _ e8);refine⟨_,Z,a,dx,_,Z,NO,by show 9<1000;decide,?_⟩;have xM:cA iE (_L.upd iE a (.ins C dx (eW (.ref ma) bv (.int S.dn) (.ref q) cf (.int S.rate) (.str S.side) (.str S.mark) (.ref tn)))):=.upd NO trivial;have pT:=Qq.trans xM;have Qp:=(((v8.trans sA.v).trans v10).trans jM.same.v).trans xM;have Qt:=(v10.trans jM.same.v).trans xM;refine⟨.ref tn,_,_,_,_,[u1,tv,u2,x1],[u3,tv,u4,x2],Z,λb o' eb hb=>?_,bp,⟨tn,su,Z,aQ.v xM (aQ.of jM.at'),Eg.v pT⟩,?_,?_,λH' Q' sV d' kq=>?_,λH' Q' sV d' kq=>?_⟩
    ·have ha:b≠a:=λz=>hb (by rw[z];simp)
     have hlm:b≠lm:=λz=>hb (by rw[z];simp);have hle:b≠le:=λz=>hb (by rw[z];simp);rw[aL ha];exact jM.same _ _ (by rw[aL hle];exact sA _ _ (by rw[aL hlm];exact lT _ _ eb))
    ·rw[aL Gb.symm]
     exact jM.same _ _ (by rw[aL M5];exact sA _ _ bp)
    ·rw[aL OK.symm]
     exact jM.same _ _ bp
    ·exact Ma d' ((U1.v pT).v sV) ((T6.v pT).v sV) ((U2.v pT).v sV) ((SJ.v Qp).v sV) B1 tB B2 pB kq
    ·exact Ma d' ((U3.v pT).v sV) ((T6.v pT).v sV) ((U4.v pT).v sV) ((SI.v Qt).v sV) B3 tB B4 UM kq
  ·rintro O H7 ⟨pW,w8,w9,lJ,Hm,um,ue,rfl,bt,e7,jm,dm7,de7,km,ke⟩
   refine⟨_,Z,?_⟩;dsimp only[oj];refine ke H7 _ .refl de7 λpe T9=>?_;refine⟨_,Z,a,dx,_,Z,e7,by show 9<1000;decide,?_⟩;have v8:cA H7 (_L.upd H7 a (.ins C dx (eW (.ref ma) bv (.int S.dn) (.ref q) pe (.int S.rate) (.str S.side) (.str S.mark) pW))):=.upd e7 trivial;refine⟨_,Z,?_⟩;dsimp only[oj];refine km _ _ v8 (by rw[aL Gb.symm];exact dm7) λv rv=>?_;have bH:cK [a] H (_L.upd H7 a (.ins C dx (eW (.ref ma) bv (.int S.dn) (.ref q) pe (.int S.rate) (.str S.side) (.str S.mark) pW))):=λb o' eb hb=>by
    have ha:b≠a:=λz=>hb (by rw[z];simp);rw[aL ha];refine bt b o' (sD _ _ eb) λhm=>?_;simp only[bZ,dX,gs]at hm;rcases hm with h|h|h
    ·exact ha h
    ·rw[h,Xg]at eb;cases eb
    ·rw[h,Xh]at eb;cases eb
   have vH:cA H (_L.upd H7 a (.ins C dx (eW (.ref ma) bv (.int S.dn) (.ref q) pe (.int S.rate) (.str S.side) (.str S.mark) pW))):=bH.v λx hx o' eo=>by rw[eg]at hx;rw[hx,e]at eo;cases eo;trivial
   refine k v _ rv ⟨⟨dx,.ref ma,bv,pe,pW,bp,RD.v vH _ (kG _ _ _ _ _) r1,RD.v vH _ (ky _) r2,T9.v v8,jm.v v8⟩,ys,bH _ _ eq (by rw[eg];exact aq.symm),aI.v vH _ ok.row.no rq⟩ bH
end
end _a
set_option maxHeartbeats 2000000
namespace _a
open PySem PySem.Spec PyProof.Rows _L _r _l _C _P _W _R
open _O (topR cornO mnO betR atO ownF leadF ownL OkI OkIs)
section
variable {P:af}{w:World}{K:aa}{mg:bc}{au:Heap}
noncomputable def j6(M:bQ)(S:bO):Rat:=Kw M.f M.j S.rate S.os
noncomputable def M4(M:bQ)(S:bO)(ns:List Int)(sp:Int):Rat:=nj M.r M.f S.pc (topR S.rate sp) (j6 M S) ((aJ ns:Int)-S.dn) S.bh
noncomputable def sZ(M:bQ)(S:bO)(ns:List Int)(sp:Int):ah:=rZ M.t (ki ns S.dn) (M4 M S ns sp)
noncomputable def m3(M:bQ)(S:bO)(ns:List Int)(sp:Int):bO:={Dx M S (topR S.rate sp) (j6 M S) ((aJ ns:Int)-S.dn)with dn:=S.dn+1}
def ie(ns:List Int)(S:bO):bO:=if S.dn=aJ ns then wk S else S
def eV(d:ah)(S:bO):bO:=match d with | .tuple [.str w,.str s]=>if w="tool" then{S with side:=s}else if w="mark" then{S with mark:=s}else S |_=>S
inductive One(M:bQ):bO->ah->bO->Prop |line {S:bO}{ns:List Int}{sp:Int}:S.os[0]? =some (some (ns,sp))->¬Halt S.pc S.bh->One M S (sZ M S ns sp) (ie ns (m3 M S ns sp)) |oF {S:bO}{d:ah}:S.os[0]? =some none->S.ds[0]? =some d->¬Halt S.pc S.bh->One M S d (wk (eV d S))
inductive Run(M:bQ):bO->List ah->bO->Prop |nil (S:bO):Run M S [] S |cons {S S1 S2:bO}{e:ah}{es:List ah}:One M S e S1->Run M S1 es S2->Run M S (e::es) S2
theorem Run.trans{M:bQ}{S S1 S2:bO}{es fs:List ah}(h:Run M S es S1)(g:Run M S1 fs S2):Run M S (es++fs) S2:=by induction h with |nil=>exact g |cons o _ ih=>exact .cons o (ih g)
theorem Run.snoc{M:bQ}{S S1 S2:bO}{es:List ah}{e:ah}(h:Run M S es S1)(g:One M S1 e S2):Run M S (es++[e]) S2:=h.trans (.cons g (.nil _))
theorem J5{M:bQ}{D:Nat}{S:bO}(h:jh M D S)(d:ah):jh M D (eV d S)/\(eV d S).os=S.os/\(eV d S).ds=S.ds/\(eV d S).dn=S.dn/\(eV d S).pl=S.pl:=by
 unfold eV;split
 ·split
  ·exact⟨⟨h.row,h.rw,h.len,h.dy,h.dM,h.pl,h.pd,h.pm,h.bh,h.D1,h.D2⟩,Z,Z,Z,Z⟩
  ·split
   ·exact⟨⟨h.row,h.rw,h.len,h.dy,h.dM,h.pl,h.pd,h.pm,h.bh,h.D1,h.D2⟩,Z,Z,Z,Z⟩
   ·exact⟨h,Z,Z,Z,Z⟩
 ·exact⟨h,Z,Z,Z,Z⟩
theorem CU{M:bQ}{D:Nat}{S:bO}(h:jh M D S)(aO:M.Ok)(hn:S.os≠[]):Dd 64 (j6 M S)/\j6 M S<=1600:=by
 have h1:1<=S.os.length:=by cases e:S.os with|nil=>exact(hn e).elim|cons _ _=>simp
 refine⟨a2w (by have:=aO.f1;lia) (λi _=>UO aO.j1.1 aO.j1.2 h.dy h.dM h.row.yG i) 1 h1,?_⟩;exact fg (a2v h1) (UN h.dy h.dM h.row.yG 1)
theorem M1{M:bQ}{D:Nat}{S:bO}{ns:List Int}{sp:Int}(h:jh M D S)(aO:M.Ok)(eo:S.os[0]? =some (some (ns,sp)))(hd:S.dn<aJ ns)(nh:¬Halt S.pc S.bh):jh M D (m3 M S ns sp):=by
 have hn:S.os≠[]:=λe=>by rw[e]at eo;simp at eo
 obtain⟨R1,R2⟩:=CU h aO hn;obtain⟨df,s1,s2⟩:=h.row.ok 0 ns sp eo;have D1:=h.D1;have yp:=aO.r1;have wa:=aO.f1;refine⟨h.row,h.rw,h.len,h.dy,h.dM,h.pl,?_,?_,?_,h.D1,h.D2⟩
 ·exact a3Q aw aw aw h.pd ((Hw _ _).mono aw) (R1.mono aw) h.bh nh
 ·exact fg a3P (AD s1 s2 h.dy h.dM)
 ·exact RW h.bh h.pd.nn nh
theorem One.ok{M:bQ}{D:Nat}{S S1:bO}{e:ah}(h:dE M D S)(aO:M.Ok)(o:One M S e S1):dE M D S1:=by cases o with
 |@line ns sp eo nh=>
  have hd:S.dn<aJ ns:=by
   rcases h.dn with e|⟨Dy,B5,e1,e2⟩
   ·rw[e];exact(h.row.ok 0 ns sp eo).1.lead.1
   ·rw[eo]at e1;cases e1;exact e2
  have raw:=M1 h.raw aO eo hd nh;have hn:S.os≠[]:=λe=>by rw[e]at eo;simp at eo
  unfold ie;split
  ·exact raw.end hn
  ·next dA=>
   refine raw.ok (.inr ⟨ns,sp,eo,?_⟩);have:(m3 M S ns sp).dn=S.dn+1:=rfl
   lia |oF eo ed nh=>obtain⟨h1,h2,_⟩:=J5 h.raw e;refine h1.end ?_;rw[h2];intro z;rw[z]at eo;simp at eo
theorem Run.ok{M:bQ}{D:Nat}{S S1:bO}{es:List ah}(h:dE M D S)(aO:M.Ok)(r:Run M S es S1):dE M D S1:=by induction r with |nil=>exact h |cons o _ ih=>exact ih (o.ok h aO)
theorem One.no{M:bQ}{D:Nat}{S S1:bO}{e:ah}(h:dE M D S)(o:One M S e S1):dP e=true:=by cases o with |line _ _=>exact HR _ _ _ |oF eo ed _=>exact eO.mp h.row.no _ (hJ ed)
theorem Run.no{M:bQ}{D:Nat}{S S1:bO}{es:List ah}(h:dE M D S)(aO:M.Ok)(r:Run M S es S1):bX es=true:=by induction r with |nil=>rfl |cons o _ ih=>rw[bX,d6];exact⟨o.no h,ih (o.ok h aO)⟩
theorem yZ{b:Bool}{A B A' B':Prop}(h1:A->A')(h2:B->B'):(if b=true then A else B)->(if b=true then A' else B'):=by
 cases b
 ·exact h2
 ·exact h1
abbrev Bs:Stmt:=inClass (top 76) 14
theorem Jp:bj ["self","most","line","lead","rows","top","reach","told","middle"] ["self","most"] (aP Bs):=bw aM
inductive a64(K:aa)(C:Addr)(vs:List V)(H:Hp)(Q:VK):Prop |mk (a:_)(q:_)(M:_)(D:_)(S:_)(ns:_)(sp:_)(most:_)(h0:vs=[.ref a,.int most])(h1:cx K C H a q M S)(h2:dE M D S)(h3:M.Ok)(h4:S.os[0]? =some (some (ns,sp)))(h5:¬Halt S.pc S.bh)(h6:1<=most)(h7:most<=1000)(h8:∀l ys es S' q' H',H l=none->H' l=some (.lst ys)->aI K H' ys es->Run M S es S'->1<=es.length->(es.length:Int)<=most->cx K C H' a q' M S'->Mv a q H q' H'->l≠q'->Q (.ref l) H')
def Io(K:aa)(C:Addr):Sp:=λvs H Q _=>a64 K C vs H Q
theorem Vu{C:Addr}(F:MA K C "steps_of_first" "Runner.steps_of_first" Bs)(TC:gm K C)(B:bE mg)(kN:aG P w K mg au "lead_of" 1 (oq K))(Eh:aG P w K mg au "step_rows" 3 (xY K))(m6:aG P w K mg au "top_square" 4 (si K))(ZH:aG P w K mg au "reach_behind_first" 9 (AQ K))(ZC:aG P w K mg au "step_entry" 3 (AY K))(vU:eL P w K mg au C "is_halted" 2 (iZ K C λ_ S H Q=>Q (.bl (S.bh.isSome&&decide (S.pc=0))) H))(a1r:eL P w K mg au C "next_square" 5 (Ip K C))(EL:eL P w K mg au C "end_first" 3 (AS K C)):eL P w K mg au C "steps_of_first" 10 (Io K C):=by
 refine F.has Jp (λvs H Q E h=>?_) (λ_ _ _ _ _ _=>cJ λ_ _=>rfl) (λf aE A outer s H vs Q E hr h=>?_)
 ·obtain⟨a,q,M,D,S,ns,sp,most,rfl,_⟩:=h
  rfl
 ·obtain⟨a,q,M,D,S,ns,sp,most,rfl,R0,ok,aO,eo,nh,m1,m2,k⟩:=h
  obtain⟨dx,mv,bv,cf,tv,e,r1,r2,r3,r4⟩:=R0.ob;obtain⟨ys,eq,rq⟩:=R0.qu;have aq:=R0.ne;have nd:=Jp.nd;have lr:=aO.len;have yp:=aO.r1;have wa:=aO.f1;have ll:=ok.row.len;have N8:=ok.len;have zi:0<S.os.length:=(eU.mp eo).1;have dA:S.os≠[]:=λz=>by rw[z]at zi;exact absurd zi az
  obtain⟨d,ed⟩:∃d,S.ds[0]? =some d:=⟨_,cH (show 0<S.ds.length by lia)⟩;obtain⟨y,ey,ry⟩:=rq.get 0 ed;have ju:=nG (ok.row.it 0 d _ ed eo);subst ju;obtain⟨df,gC,gP⟩:=ok.row.ok 0 ns sp eo;have Vc:eY ns.length 1000 ns:=⟨Z,λz hz=>by have:=df.bd z hz;lia,df.nz⟩;have LX:=df.lead.1;have E1:=vy df;have Xj:ns.length<=3:=by rw[df.len];lia
  have hd0:S.dn<aJ ns:=by
   rcases ok.dn with e'|⟨Dy,B5,e1,e2⟩
   ·lia
   ·rw[eo]at e1;cases e1;exact e2
  obtain⟨Rd,Rl⟩:=CU ok.raw aO dA;refine⟨_,(aD (pS 2 nd (px K (cV TC.cl TC.ij (pv 0)) aF)) (aD (pS 3 nd (pf kN hr (ao (pv 2) ay))) (aD (pS 4 nd (pf Eh hr (ao (pv 2) ay))) (aD (pS 5 nd (pf m6 hr (ao (pv 2) (ao (cV TC.cl TC.yO (pv 0)) ay)))) (aD (pS 6 nd (pf ZH hr (ao (cV TC.cl TC.nu (pv 0)) (ao (cV TC.cl TC.ij (pv 0)) (ao (cV TC.cl TC.yO (pv 0)) ay))))) (aD (pS 7 nd (dF ay)) (aD (jn (sL iG (PW.pt (oB (bT ng (fo K B (ao (pv 7) ay)) (pv 1) (bM _)) (oB (bT ng (cV TC.cl TC.lX (pv 0)) (pv 3) (bM _)) (sJ (cE (bS (kA vU TC.cl (hr.mono az) (pv 0)))))))) (aD (pS 8 nd (yy a1r TC.cl (hr.mono az) (pv 0) (ao (pv 5) (ao (pv 6) (ao (aW j8 (pv 3) (cV TC.cl TC.lX (pv 0))) ay))))) (aD (gE (oE K Z (pv 7) (ao (pf ZC hr (ao (cV TC.cl TC.nu (pv 0)) (ao (px K (pv 4) (cV TC.cl TC.lX (pv 0))) (ao (pv 8) ay)))) ay))) (aH (Ui TC.cl TC.lX (pv 0) aF Z2)))))) (aD (jn (bD (bT (dR K Z hr.units) (cV TC.cl TC.lX (pv 0)) (pv 3) (bM _)) (aH (gE (kA EL TC.cl (hr.mono az) (pv 0)))) bG)) (aH (aZ (pv 7))))))))))),?_⟩;refine⟨_,Z,a,dx,_,_,Z,e,Z,.inl ⟨q,_,0,y,Z,Z,aK.of eq,eK (gO 0) ey,?_⟩⟩;refine⟨_,Z,y,ns,sp,Z,ry,df.ne,aw,λH1 s1=>?_⟩;refine⟨_,Z,y,ns,sp,Z,RD.mono s1 _ ry,Vc,aw,λlZ yr H2 Xe NV Kp s2=>?_⟩;have gD:=s1.trans s2;refine⟨_,Z,_,Z,a,dx,_,_,Z,gD _ _ e,Z,y,ns,sp,S.rate,Z,RD.mono gD _ ry,gC,gP,ok.dy,ok.dM,λpV H3 SU s3=>?_⟩;have fE:=gD.trans s3;have e3:=fE _ _ e;refine⟨_,Z,a,dx,_,_,Z,e3,Z,_,Z,a,dx,_,_,Z,e3,Z,_,Z,a,dx,_,_,Z,e3,Z,mv,.ref q,S.rate,M.rs,M.r,M.f,M.j,M.t,S.ds,S.os,Z,RD.mono fE _ r1,aO,sE (aK.of (fE _ _ eq)) (aI.mono fE _ rq),ok.row,aw,aw,ok.dy,ok.dM,λqh H4 T4 s4=>?_⟩;have fj:=fE.trans s4;refine⟨bC Z,λl H5 n5=>?_⟩;have mX:=fj.trans n5.same;have yk:aA H2 H5:=s3.trans (s4.trans n5.same);have nl:H l=none:=by cases e':H l with |none=>rfl |some o=>have:=fj _ _ e';rw[n5.no]at this;cases this
  have LB:H lZ=none:=by cases e':H lZ with |none=>rfl |some o=>have:=s1 _ _ e';rw[Xe]at this;cases this
  have al:a≠l:=λz=>by rw[<-z,e]at nl;cases nl
  have ql:q≠l:=λz=>by rw[<-z,eq]at nl;cases nl
  have OI:a≠lZ:=λz=>by rw[<-z,e]at LB;cases LB
  have Yw:l≠lZ:=λz=>by have:=n5.no;rw[z,(s3.trans s4) _ _ NV]at this;cases this
  have Qc:=Kp.length;rw[CK]at Qc;have td:=Hw S.rate sp;have tl:=AD gC gP ok.dy ok.dM;have tp:=Hv gC ok.dy;have X0:ie ns S=S:=by unfold ie;rw[bf aw]
  have gX:sizeLine=16777216:=by decide
  refine⟨λO H6=>∃T es us w8,O=[some (.ref a),some (.int most),some y,some (.int (aJ ns)),some (.ref lZ),some pV,some qh,some (.ref l),w8]/\cK [a,l] H5 H6/\cx K C H6 a q M T/\jh M D T/\T.os=S.os/\T.ds=S.ds/\T.rate=S.rate/\T.dn<=aJ ns/\1<=es.length/\(es.length:Int)<=most/\H6 l=some (.lst us)/\aI K H6 us es/\bX es=true/\Run M S es (ie ns T),?_,?_⟩
  ·refine rP (λO H6=>∃T es us w8,O=[some (.ref a),some (.int most),some y,some (.int (aJ ns)),some (.ref lZ),some pV,some qh,some (.ref l),w8]/\cK [a,l] H5 H6/\cx K C H6 a q M T/\jh M D T/\T.os=S.os/\T.ds=S.ds/\T.rate=S.rate/\T.dn=S.dn+es.length/\T.dn<=aJ ns/\(es.length:Int)<=most/\H6 l=some (.lst us)/\aI K H6 us es/\bX es=true/\Run M S es (ie ns T)/\(es=[]->¬Halt T.pc T.bh)) (λ_ H6=>match H6 l with|some (.lst us)=>2000-us.length|_=>0) ?_ ?_ ?_
   ·exact⟨S,[],[],none,Z,cK.refl _ _,R0.same ok.row.no mX,ok.raw,Z,Z,Z,Z,aw,by simp;lia,n5.at',bW,Z,by rw[X0];exact .nil _,λ_=>nh⟩
   ·rintro O H6 ⟨T,es,us,w8,rfl,bt,RT,raw,pk,zH,tQ,edn,MO,nM,dl,rd,md,run,ZU⟩
    have lu:=rd.length;obtain⟨qQ,Xu,bv6,UJ,QF,e6,t1,t2,t3,t4⟩:=RT.ob;have AB:cA H5 H6:=bt.v λx hx o' eA=>by
     simp only[bZ,dX,gs]at hx;rcases hx with rfl|rfl
     ·rw[mX _ _ e]at eA;cases eA;trivial
     ·rw[n5.at']at eA;cases eA;trivial
    have X5:bX T.ds=true:=by rw[zH];exact ok.row.no
    have Fz:1<=es.length->∃T' my ka xJ,[some (.ref a),some (.int most),some y,some (.int (aJ ns)),some (.ref lZ),some pV,some qh,some (.ref l),w8]=[some (.ref a),some (.int most),some y,some (.int (aJ ns)),some (.ref lZ),some pV,some qh,some (.ref l),xJ]/\cK [a,l] H5 H6/\cx K C H6 a q M T'/\jh M D T'/\T'.os=S.os/\T'.ds=S.ds/\T'.rate=S.rate/\T'.dn<=aJ ns/\1<=my.length/\(my.length:Int)<=most/\H6 l=some (.lst ka)/\aI K H6 ka my/\bX my=true/\Run M S my (ie ns T'):=λh1=>⟨T,es,us,w8,Z,bt,RT,raw,pk,zH,tQ,MO,h1,nM,dl,rd,md,run⟩;refine⟨_,Z,l,us,Z,.inl (aK.of dl),_,Z,_,_,Z,Z,_,Z,?_⟩;show if decide ((us.length:Int)<most)=true then _ else _;by_cases c1:(us.length:Int)<most
    ·rw[cu c1]
     refine ba ?_;refine⟨_,Z,a,qQ,_,_,Z,e6,Z,_,Z,_,_,Z,Z,_,Z,?_⟩;show if decide ((T.dn:Int)<(aJ ns:Int))=true then _ else _;by_cases c2:T.dn<aJ ns
     ·rw[cu aw]
      refine ba ?_;have Lm:dE M D T:=raw.ok (.inr ⟨ns,sp,by rw[pk];exact eo,c2⟩);have WZ:ie ns T=T:=by unfold ie;rw[bf aw]
      refine⟨_,Z,a,qQ,_,Z,e6,Z,a,q,M,D,T,Z,RT,Lm,aO,_,Z,?_⟩;by_cases c3:Halt T.pc T.bh
      ·have hb:(T.bh.isSome&&decide (T.pc=0))=true:=by obtain⟨h1,h2⟩:=c3;rw[cu h2,Av];cases hs:T.bh with |none=>exact(h1 hs).elim |some _=>rfl
       rw[hb];refine aU ?_;refine Fz ?_;cases es with |nil=>exact(ZU Z c3).elim |cons _ _=>simp
      ·have hb:(T.bh.isSome&&decide (T.pc=0))=false:=by cases hs:T.bh with |none=>rfl |some _=>show decide (T.pc=0)=false;exact cX λh2=>c3 ⟨by rw[hs];simp,h2⟩
       rw[hb];refine ba ?_;have rT:j6 M T=j6 M S:=by unfold j6;rw[pk,tQ]
       refine⟨_,Z,a,qQ,_,Z,e6,Z,?_⟩;refine⟨_,Z,_,Z,_,Z,_,Z,a,qQ,_,_,Z,e6,Z,_,_,Z,Z,?_⟩;have SS:bN K H6 pV (topR S.rate sp):=((SU.go s4).go n5.same).v AB;have SY:bN K H6 qh (j6 M S):=(T4.go n5.same).v AB;refine⟨a,q,M,D,T,pV,qh,topR S.rate sp,j6 M S,_,Z,RT,Lm,aO,SS,td,tl,SY,Rd,Rl,aw,aw,c3,λmid H7 Td R7 b7=>?_⟩;obtain⟨pq,qB,zR,yz,xO,e7',HK,RO,RN,RM⟩:=R7.ob;have e7:H7 a=some (.ins C pq (eW qB zR (.int T.dn) (.ref q) yz (.int T.rate) (.str T.side) (.str T.mark) xO)):=e7';have xK:cA H6 H7:=b7.v λx hx o' eA=>by rw[eg]at hx;rw[hx,e6]at eA;cases eA;trivial
       have zL:=b7 _ _ dl (by rw[eg];exact al.symm);have a47:=yk _ _ NV;have a46:=bt _ _ a47 (by simp;exact⟨OI.symm,Yw.symm⟩);have a45:=b7 _ _ a46 (by rw[eg];exact OI.symm);have Tf:aI K H7 yr (kh ns):=aI.v xK _ (CJ ns) (aI.v AB _ (CJ ns) (aI.mono yk _ Kp));obtain⟨rv,Nz⟩:∃rv,yr[T.dn]? =some rv:=⟨_,cH (show T.dn<yr.length by lia)⟩;obtain⟨dr,NL,CQ⟩:=Tf.get' T.dn Nz;rw[Kn c2]at NL;cases NL;have mB:Bd 2000 (nj M.r M.f T.pc (topR S.rate sp) (j6 M S) ((aJ ns:Int)-T.dn) T.bh):=by have D1:=raw.D1;have D2:=raw.D2;exact((XI aw aw aw raw.pd (td.mono aw) (Rd.mono aw) raw.bh c3).bd (fg XG (fg tl aM))).mono aw
       have mP:0<nj M.r M.f T.pc (topR S.rate sp) (j6 M S) ((aJ ns:Int)-T.dn) T.bh:=XH yp.1 wa.1 aw raw.pd.nn tp Rd.nn raw.bh c3;refine⟨_,Z,.inl ⟨Z,_,aK.of zL⟩,?_⟩;refine⟨_,Z,a,pq,_,_,Z,e7,Z,?_⟩;refine⟨_,Z,_,Z,a,pq,_,_,Z,e7,Z,.inl ⟨lZ,_,_,_,Z,Z,aK.of a45,eK (show(0:Int)<=(T.dn:Int) by lia) (by simpa using Nz),?_⟩⟩;refine⟨_,Z,qB,rv,mid,M.rs,M.r,M.f,M.j,M.t,ki ns T.dn,_,Z,HK,aO,CQ,Td,mB,mP,λent H8 Tn s8=>?_⟩;have wo:=s8 _ _ zL;refine⟨l,us,_,Z,Z,wo,aw,?_⟩;have e8:(_L.upd H8 l (.lst (us++[ent]))) a=some (.ins C pq (eW qB zR (.int T.dn) (.ref q) yz (.int T.rate) (.str T.side) (.str T.mark) xO)):=by rw[aL al];exact s8 _ _ e7
       refine⟨_,Z,a,pq,_,_,Z,e8,Z,_,_,Z,Z,pq,_,e8,by show 9<1000;decide,?_⟩;have vl:cA H8 (_L.upd H8 l (.lst (us++[ent]))):=.upd wo trivial;have va:cA (_L.upd H8 l (.lst (us++[ent]))) (_L.upd (_L.upd H8 l (.lst (us++[ent]))) a (.ins C pq (eW qB zR (.int ((T.dn:Int)+1)) (.ref q) yz (.int T.rate) (.str T.side) (.str T.mark) xO))):=.upd e8 trivial;have v7:=(s8.v.trans vl).trans va;have eS:m3 M T ns sp={Dx M T (topR S.rate sp) (j6 M S) ((aJ ns:Int)-T.dn)with dn:=T.dn+1}:=by unfold m3;rw[rT,tQ]
       have eE:sZ M T ns sp=rZ M.t (ki ns T.dn) (nj M.r M.f T.pc (topR S.rate sp) (j6 M S) ((aJ ns:Int)-T.dn) T.bh):=by unfold sZ M4;rw[rT,tQ]
       have ZL:One M T (sZ M T ns sp) (ie ns (m3 M T ns sp)):=.line (by rw[pk];exact eo) c3;obtain⟨yq,eq7,T5⟩:=R7.qu;have DB:bX (es++[sZ M T ns sp])=true:=eO.mpr λd hd=>by
        rcases xn.mp hd with h|h
        ·exact eO.mp md d h
        ·rw[eg]at h;rw[h];exact HR _ _ _
       have q7l:q≠l:=ql;refine⟨⟨m3 M T ns sp,es++[sZ M T ns sp],us++[ent],_,Z,λb o' eb hb=>?_,?_,M1 raw aO (by rw[pk];exact eo) c2 c3,pk,zH,tQ,?_,?_,?_,?_,?_,?_,?_,λz=>by simp at z⟩,?_⟩
       ·have ha:b≠a:=λz=>hb (by rw[z];simp)
        have jd:b≠l:=λz=>hb (by rw[z];simp);rw[aL ha,aL jd];exact s8 _ _ (b7 _ _ (bt _ _ eb hb) (by rw[eg];exact ha))
       ·rw[eS]
        refine⟨⟨pq,qB,zR,yz,xO,?_,RD.v v7 _ (kG _ _ _ _ _) HK,RD.v v7 _ (ky _) RO,RN.v v7,RM.v v7⟩,yq,?_,aI.v v7 _ X5 T5⟩
        ·exact bp
        ·rw[aL aq.symm,aL ql];exact s8 _ _ eq7
       ·show T.dn+1=_
        rw[fi];show _=_+(_+1);lia
       ·show T.dn+1<=_
        lia
       ·rw[fi];show((es.length+1:Nat):Int)<=most;lia
       ·rw[aL al.symm,bp]
       ·refine aI.v va _ DB (aI.v vl _ DB ?_)
        have r7:aI K H8 us es:=aI.mono s8 _ (aI.v xK _ md rd);refine r7.append (bJ ?_ bW);rw[eE];exact Tn
       ·exact DB
       ·rw[WZ]at run
        exact run.snoc ZL
       ·show(match(_L.upd (_L.upd H8 l (.lst (us++[ent]))) a _) l with|some (.lst us)=>2000-us.length|_=>0)<(match H6 l with|some (.lst us)=>2000-us.length|_=>0)
        rw[aL al.symm,bp,dl];show 2000-(us++[ent]).length<2000-us.length;rw[fi];show 2000-(us.length+1)<_
        lia
     ·rw[cX aw]
      refine aU ?_;exact Fz aw
    ·rw[cX c1]
     refine aU ?_;exact Fz aw
   ·rintro O H6 Q1 Q2 hq ⟨v1,f1,l',ka,f2,f3,v2,f4,i1,i2,f5,f6,b1,f7,h⟩
    refine⟨v1,f1,l',ka,f2,f3,v2,f4,i1,i2,f5,f6,b1,f7,yZ ?_ (hq _ _) h⟩;rintro⟨v3,f8,a',pA,ix,u',f9,Fu,Ft,v4,f12,i3,i4,f13,f14,b2,Fs,h⟩;refine⟨v3,f8,a',pA,ix,u',f9,Fu,Ft,v4,f12,i3,i4,f13,f14,b2,Fs,yZ ?_ (hq _ _) h⟩;rintro⟨v5,Fq,a2,qR,Fb,Fp,Fo,Fm,a3,q3,M3,D3,S3,Fj,Fi,Fh,Fg,b3,Ff,h⟩;exact⟨v5,Fq,a2,qR,Fb,Fp,Fo,Fm,a3,q3,M3,D3,S3,Fj,Fi,Fh,Fg,b3,Ff,hq _ _ h⟩
  ·rintro O H6 ⟨T,es,us,w8,rfl,bt,RT,raw,pk,zH,tQ,MO,h1,nM,dl,rd,md,run⟩
   obtain⟨qQ,Xu,bv6,UJ,QF,e6,t1,t2,t3,t4⟩:=RT.ob;have ZW:T.os≠[]:=by rw[pk];exact dA
   have bH:∀{H7:Hp},cK [a] H6 H7->cK [a,q] H H7:=λ{H7} b7 b o' eb hb=>by
    have ha:b≠a:=λz=>hb (by rw[z];simp);refine b7 _ _ (bt _ _ (mX _ _ eb) λhm=>?_) (by rw[eg];exact ha);simp only[bZ,dX,gs]at hm;rcases hm with h|h
    ·exact ha h
    ·rw[h,nl]at eb;cases eb
   refine⟨λO H7=>∃q' xJ,O=[some (.ref a),some (.int most),some y,some (.int (aJ ns)),some (.ref lZ),some pV,some qh,some (.ref l),xJ]/\cx K C H7 a q' M (ie ns T)/\Mv a q H q' H7/\l≠q'/\∃ka,H7 l=some (.lst ka)/\aI K H7 ka es,?_,?_⟩
   ·refine⟨_,Z,a,qQ,_,_,Z,e6,Z,_,Z,.inl ⟨_,_,Z,Z,_,Z,?_⟩⟩
    show if decide ((T.dn:Int)=(aJ ns:Int))=true then _ else _;by_cases c:T.dn=aJ ns
    ·rw[cu aw]
     refine ba ?_;refine⟨_,Z,a,qQ,_,Z,e6,Z,a,q,M,D,T,Z,RT,raw,aO,ZW,λq' H7 R7 nq b7=>?_⟩;have xK:cA H6 H7:=b7.v λx hx o' eA=>by rw[eg]at hx;rw[hx,e6]at eA;cases eA;trivial
     refine⟨q',_,Z,by unfold ie;rw[bo c];exact R7,⟨bH b7,.inr ?_⟩,λz=>?_,us,b7 _ _ dl (by rw[eg];exact al.symm),aI.v xK _ md rd⟩
     ·cases e':H q' with |none=>rfl |some o'=>
      have h5:=mX _ _ e';by_cases ha:q'=a
      ·rw[ha,e6]at nq;cases nq
      ·by_cases jd:q'=l
       ·rw[jd,nl]at e';cases e'
       ·have:=bt _ _ h5 (by simp;exact⟨ha,jd⟩)
        rw[nq]at this;cases this
     ·rw[<-z,dl]at nq;cases nq
    ·rw[cX aw]
     refine aU ?_;exact⟨q,_,Z,by unfold ie;rw[bf c];exact RT,⟨bH (cK.refl _ _),.inl Z⟩,ql.symm,us,dl,rd⟩
   ·rintro O H7 ⟨q',xJ,rfl,R7,qB,lq,ka,zL,Tt⟩
    exact⟨_,Z,k l ka es (ie ns T) q' H7 nl zL Tt run h1 nM R7 qB lq⟩
theorem Mv.trans{a q q1 q2:Addr}{H H1 H2:Hp}(m1:Mv a q H q1 H1)(m2:Mv a q1 H1 q2 H2)(ha:H1 a≠none):Mv a q H q2 H2:=by
 refine⟨λb o e hb=>?_,?_⟩
 ·refine m2.but _ _ (m1.but _ _ e hb) λhm=>?_
  simp only[bZ,dX,gs]at hm hb;rcases hm with h|h
  ·exact hb (.inl h)
  ·rcases m1.nq with h1|h1
   ·exact hb (.inr (h.trans h1))
   ·rw[<-h]at h1;rw[h1]at e;cases e
 ·rcases m2.nq with h|h
  ·rw[h];exact m1.nq
  ·cases e:H q2 with |none=>exact .inr rfl |some o=>
   by_cases h1:q2=q
   ·exact .inl h1
   ·by_cases h2:q2=a
    ·rw[h2]at h;exact(ha h).elim
    ·have:=m1.but _ _ e (by simp;exact⟨h2,h1⟩)
     rw[h]at this;cases this
inductive a68(K:aa)(C:Addr)(vs:List V)(H:Hp)(Q:VK):Prop |mk (a:_)(q:_)(M:_)(D:_)(S:_)(most:_)(h0:vs=[.ref a,.int most])(h1:cx K C H a q M S)(h2:dE M D S)(h3:M.Ok)(h4:S.os≠[])(h5:¬Halt S.pc S.bh)(h6:1<=most)(h7:most<=1000)(h8:∀l ys es S' q' H',H l=none->H' l=some (.lst ys)->aI K H' ys es->Run M S es S'->1<=es.length->(es.length:Int)<=most->cx K C H' a q' M S'->Mv a q H q' H'->l≠q'->Q (.ref l) H')
def Iq(K:aa)(C:Addr):Sp:=λvs H Q _=>a68 K C vs H Q
abbrev BC:Stmt:=inClass (top 76) 13
theorem Jt:bj ["self","most","item"] ["self","most"] (aP BC):=bw aM
theorem VF{C:Addr}(F:MA K C "entries_of_first" "Runner.entries_of_first" BC)(TC:gm K C)(jS:aG P w K mg au "is_line" 1 (ou K))(a1p:eL P w K mg au C "steps_of_first" 10 (Io K C))(EL:eL P w K mg au C "end_first" 3 (AS K C)):eL P w K mg au C "entries_of_first" 11 (Iq K C):=by
 refine F.has Jt (λvs H Q E h=>?_) (λ_ _ _ _ _ _=>cJ λ_ _=>rfl) (λf aE A outer s H vs Q E hr h=>?_)
 · obtain⟨a,q,M,D,S,most,rfl,_⟩:=h
   rfl
 · obtain⟨a,q,M,D,S,most,rfl,R0,ok,aO,dA,nh,m1,m2,k⟩:=h
   obtain⟨dx,mv,bv,cf,tv,e,r1,r2,r3,r4⟩:=R0.ob;obtain⟨ys,eq,rq⟩:=R0.qu;have aq:=R0.ne;have nd:=Jt.nd;have ll:=ok.row.len;have zi:0<S.os.length:=by cases h:S.os with|nil=>exact(dA h).elim|cons _ _=>simp
   obtain⟨d,ed⟩:∃d,S.ds[0]? =some d:=⟨_,cH (show 0<S.ds.length by lia)⟩;obtain⟨y,ey,ry⟩:=rq.get 0 ed;obtain⟨o,eo,it⟩:=ok.row.get ed;refine⟨_,(aD (pS 2 nd (px K (cV TC.cl TC.ij (pv 0)) aF)) (aD (bD (bS (pf jS hr (ao (pv 2) ay))) (aH (aZ (yy a1p TC.cl (hr.mono az) (pv 0) (ao (pv 1) ay)))) bG) (aD (jn (bD (bT (dR K Z hr.units) (px K (pv 2) aF) ck (bM _)) (aH (fH TC.cl TC.LH (pv 0) (px K (pv 2) aF))) bG)) (aD (jn (bD (bT (dR K Z hr.units) (px K (pv 2) aF) ck (bM _)) (aH (fH TC.cl TC.LI (pv 0) (px K (pv 2) aF))) bG)) (aD (gE (kA EL TC.cl (hr.mono az) (pv 0))) (aH (aZ (dF (ao (pv 2) ay))))))))),?_⟩;refine⟨_,Z,a,dx,_,_,Z,e,Z,.inl ⟨q,_,0,y,Z,Z,aK.of eq,eK (gO 0) ey,?_⟩⟩;refine⟨_,Z,y,d,o,Z,ry,it,_,Z,?_⟩;cases o with |some z=>obtain⟨ns,sp⟩:=z;refine ba ?_;exact⟨_,Z,a,dx,_,Z,e,Z,_,Z,a,q,M,D,S,ns,sp,most,Z,R0,ok,aO,eo,nh,m1,m2,k⟩ |none=>
     refine aU ?_;have oF:=ok.rw 0 d eo ed;have wd:∃z u ya yr,d= .tuple [.str z,u]/\y= .ref ya/\aQ K H ya (.str z::[yr])/\RD K H yr u/\SeqAt.shaped (.str z)=true:=by
      rcases oF with⟨n,rfl,_⟩|⟨w',s',rfl,hw,_⟩
      · obtain⟨ya,xs,rfl,h1,h2⟩:=ry.da
        obtain⟨x1,rr,rfl,e1,h2⟩:=h2.cons_inv;obtain⟨x2,rr,rfl,e2,h2⟩:=h2.cons_inv;cases h2.nil_inv;cases e1.str_inv;exact⟨_,_,ya,x2,Z,Z,h1,e2,aM⟩
      · obtain⟨ya,xs,rfl,h1,h2⟩:=ry.da
        obtain⟨x1,rr,rfl,e1,h2⟩:=h2.cons_inv;obtain⟨x2,rr,rfl,e2,h2⟩:=h2.cons_inv;cases h2.nil_inv;cases e1.str_inv;exact⟨_,_,ya,x2,Z,Z,h1,e2,by rcases hw with rfl|rfl<;>decide+kernel⟩
     obtain⟨z,u,ya,yr,rfl,rfl,Ea,Kj,sz⟩:=wd;have tU:SeqAt.shaped (.str "tool")=true:=by decide+kernel
     have tM:SeqAt.shaped (.str "mark")=true:=by decide+kernel
     have eqT:∀(x y:Str),PyData.eqv (.str x) (.str y)=decide (x=y):=λx y=>by show(x==y)=decide (x=y);rw[iX];simp
     refine⟨λO H1=>O=[some (.ref a),some (.int most),some (.ref ya)]/\cK [a] H H1/\H1 a=some (.ins C dx (eW mv bv (.int S.dn) (.ref q) cf (.int S.rate) (.str (if z="tool" then(eV (.tuple [.str z,u]) S).side else S.side)) (.str S.mark) tv)),?_,?_⟩
     · refine⟨_,Z,.inr ⟨ya,_,0,.str z,Z,Z,Ea,eK (gO 0) Z,.inr ⟨_,_,dN _,dN _,sz,tU,_,Z,?_⟩⟩⟩
       rw[eqT];by_cases c:z="tool"
       · rw[cu c]
         refine ba ?_;have hu:∃s',u= .str s':=by
          rcases oF with⟨n,h,_⟩|⟨w',s',h,hw,_⟩
          ·cases h;exact absurd c aM
          ·cases h;exact⟨_,rfl⟩
         obtain⟨s',rfl⟩:=hu;cases Kj.str_inv;refine⟨_,Z,.inr ⟨ya,_,1,.str s',Z,Z,Ea,eK az Z,_,Z,a,dx,_,Z,e,by show 9<1000;decide,?_⟩⟩;refine⟨Z,FZ (by simp),?_⟩;rw[bo c];have es:(eV (.tuple [.str z,.str s']) S).side=s':=by unfold eV;simp only[bo c]
         rw[es];exact bp
       · rw[cX c]
         refine aU ⟨Z,cK.refl _ _,?_⟩;rw[bf c];exact e
     rintro O H1 ⟨rfl,b1,e1⟩;have Qv:cA H H1:=b1.v λx hx o' eA=>by rw[eg]at hx;rw[hx,e]at eA;cases eA;trivial
     have Mu:=aQ.v Qv Ea;refine⟨λO H2=>O=[some (.ref a),some (.int most),some (.ref ya)]/\cK [a] H H2/\H2 a=some (.ins C dx (eW mv bv (.int S.dn) (.ref q) cf (.int S.rate) (.str (eV (.tuple [.str z,u]) S).side) (.str (eV (.tuple [.str z,u]) S).mark) tv)),?_,?_⟩
     · refine⟨_,Z,.inr ⟨ya,_,0,.str z,Z,Z,Mu,eK (gO 0) Z,.inr ⟨_,_,dN _,dN _,sz,tM,_,Z,?_⟩⟩⟩
       rw[eqT];by_cases c:z="mark"
       · rw[cu c]
         refine ba ?_;have nt:¬z="tool":=by rw[c];decide+kernel
         rw[bf nt]at e1;have hu:∃s',u= .str s':=by
          rcases oF with⟨n,h,_⟩|⟨w',s',h,hw,_⟩
          ·cases h;exact absurd c aM
          ·cases h;exact⟨_,rfl⟩
         obtain⟨s',rfl⟩:=hu;cases Kj.str_inv;refine⟨_,Z,.inr ⟨ya,_,1,.str s',Z,Z,Mu,eK az Z,_,Z,a,dx,_,Z,e1,by show 9<1000;decide,?_⟩⟩;refine⟨Z,b1.trans (FZ (by simp)),?_⟩;have es:(eV (.tuple [.str z,.str s']) S).side=S.side/\(eV (.tuple [.str z,.str s']) S).mark=s':=by constructor<;>(unfold eV;simp only[bf nt,bo c])
         rw[es.1,es.2];exact bp
       · rw[cX c]
         refine aU ⟨Z,b1,?_⟩;have em:(eV (.tuple [.str z,u]) S).mark=S.mark:=by
          unfold eV;split
          · next h => cases h;split
                      ·rfl
                      ·first|rfl|rw[bf c]
          ·rfl
         have es:(if z="tool" then(eV (.tuple [.str z,u]) S).side else S.side)=(eV (.tuple [.str z,u]) S).side:=by
          by_cases c2:z="tool"
          ·rw[bo c2]
          · rw[bf c2]
            unfold eV;split
            ·next h=>cases h;first|rfl|rw[bf c2,bf c]
            ·rfl
         rw[es]at e1;rw[em];exact e1
     rintro O H2 ⟨rfl,b2,e2⟩;have uB:cA H H2:=b2.v λx hx o' eA=>by rw[eg]at hx;rw[hx,e]at eA;cases eA;trivial
     obtain⟨Kz,yE,FK,dn',Um⟩:=J5 ok.raw (.tuple [.str z,u]);have fx:(eV (.tuple [.str z,u]) S).pc=S.pc/\(eV (.tuple [.str z,u]) S).rate=S.rate/\(eV (.tuple [.str z,u]) S).bh=S.bh:=by
      unfold eV;split
      · split
        ·exact⟨Z,Z,Z⟩
        ·split<;>exact⟨Z,Z,Z⟩
      ·exact⟨Z,Z,Z⟩
     have R2:cx K C H2 a q M (eV (.tuple [.str z,u]) S):=by
      refine⟨⟨dx,mv,bv,cf,tv,?_,RD.v uB _ (kG _ _ _ _ _) r1,?_,?_,?_⟩,ys,b2 _ _ eq (by rw[eg];exact aq.symm),?_⟩
      ·rw[dn',fx.2.1];exact e2
      ·rw[Um];exact RD.v uB _ (ky _) r2
      ·rw[fx.1];exact r3.v uB
      ·rw[fx.2.2];exact r4.v uB
      ·rw[FK];exact aI.v uB _ ok.row.no rq
     refine⟨_,Z,a,dx,_,Z,e2,Z,a,q,M,D,_,Z,R2,Kz,aO,by rw[yE];exact dA,λq' H3 R3 nq b3=>?_⟩;have G8:=b2.trans b3;have Qu:cA H H3:=G8.v λx hx o' eA=>by rw[eg]at hx;rw[hx,e]at eA;cases eA;trivial
     have X1:H q'=none:=by cases e':H q' with |none=>rfl |some o'=>
        by_cases ha:q'=a
        ·rw[ha,e2]at nq;cases nq
        · have:=b2 _ _ e' (by rw[eg];exact ha)
          rw[nq]at this;cases this
     refine⟨_,Z,bC Z,λl H4 n4=>?_⟩;have nl:H l=none:=by cases e':H l with |none=>rfl |some o'=>
        by_cases ha:l=a
        · obtain⟨dx3,_,_,_,_,e3,_⟩:=R3.ob
          have:=n4.no;rw[ha,e3]at this;cases this
        · have:=G8 _ _ e' (by rw[eg];exact ha)
          rw[n4.no]at this;cases this
     have WE:dE M D (wk (eV (.tuple [.str z,u]) S)):=Kz.end (by rw[yE];exact dA);refine k l [.ref ya] [.tuple [.str z,u]] _ q' H4 nl n4.at' (bJ (RD.v (Qu.trans n4.same.v) _ (eO.mp ok.row.no _ (hJ ed)) ry) bW) (.cons (.oF eo ed nh) (.nil _)) (by simp) (by simpa using m1) (R3.same WE.row.no n4.same) ⟨λb o' eb hb=>n4.same _ _ (G8 _ _ eb (by rw[eg];intro h;exact hb (by rw[h];simp))),.inr X1⟩ ?_;intro h;have:=n4.no;obtain⟨yq,eq3,_⟩:=R3.qu;rw[h,eq3]at this;cases this
inductive a69(K:aa)(C:Addr)(vs:List V)(H:Hp)(Q:VK):Prop |mk (a:_)(q:_)(M:_)(D:_)(S:_)(n:_)(h0:vs=[.ref a,.int n])(h1:cx K C H a q M S)(h2:dE M D S)(h3:M.Ok)(h4:0<=n)(h5:n<=1000)(h6:∀l ys es S' q' H',H l=none->H' l=some (.lst ys)->aI K H' ys es->Run M S es S'->(es.length:Int)<=n->((es.length:Int)=n\/S'.os=[]\/Halt S'.pc S'.bh)->cx K C H' a q' M S'->Mv a q H q' H'->l≠q'->Q (.ref l) H')
def Ir(K:aa)(C:Addr):Sp:=λvs H Q _=>a69 K C vs H Q
abbrev BD:Stmt:=inClass (top 76) 12
theorem Ju:bj ["self","n","told"] ["self","n"] (aP BD):=bw aM
theorem VG{C:Addr}(F:MA K C "entries" "Runner.entries" BD)(TC:gm K C)(B:bE mg)(vU:eL P w K mg au C "is_halted" 2 (iZ K C λ_ S H Q=>Q (.bl (S.bh.isSome&&decide (S.pc=0))) H))(a1t:eL P w K mg au C "entries_of_first" 11 (Iq K C)):eL P w K mg au C "entries" 12 (Ir K C):=by
 refine F.has Ju (λvs H Q E h=>?_) (λ_ _ _ _ _ _=>cJ λ_ _=>rfl) (λf aE A outer s H vs Q E hr h=>?_)
 ·obtain⟨a,q,M,D,S,n,rfl,_⟩:=h
  rfl
 ·obtain⟨a,q,M,D,S,n,rfl,R0,ok,aO,n0,n1,k⟩:=h
  have nd:=Ju.nd;refine⟨_,(aD (pS 2 nd (dF ay)) (aD (jn (sL iG (PW.pt (oB (bT ng (fo K B (ao (pv 2) ay)) (pv 1) (bM _)) (oB (uZ K Z (cV TC.cl TC.ij (pv 0))) (sJ (cE (bS (kA vU TC.cl (hr.mono az) (pv 0)))))))) (aH (gE (Dk K Z (pv 2) (ao (yy a1t TC.cl (hr.mono az) (pv 0) (ao (aW j8 (pv 1) (fo K B (ao (pv 2) ay))) ay)) ay)))))) (aH (aZ (pv 2))))),?_⟩;refine⟨bC Z,λl H1 nw=>?_⟩;obtain⟨dx,mv,bv,cf,tv,e,r1,r2,r3,r4⟩:=R0.ob;obtain⟨ys,eq,rq⟩:=R0.qu;have al:a≠l:=λz=>by have:=nw.no;rw[<-z,e]at this;cases this
  have ql:q≠l:=λz=>by have:=nw.no;rw[<-z,eq]at this;cases this
  have hq0:H q≠none:=by rw[eq];simp
  have ha0:H a≠none:=by rw[e];simp
  refine⟨λO H2=>∃es S' q' us,O=[some (.ref a),some (.int n),some (.ref l)]/\cx K C H2 a q' M S'/\H2 l=some (.lst us)/\aI K H2 us es/\Run M S es S'/\(es.length:Int)<=n/\((es.length:Int)=n\/S'.os=[]\/Halt S'.pc S'.bh)/\Mv a q H q' H2/\l≠q',?_,?_⟩
  ·refine rP (λO H2=>∃es S' q' us,O=[some (.ref a),some (.int n),some (.ref l)]/\cx K C H2 a q' M S'/\H2 l=some (.lst us)/\aI K H2 us es/\Run M S es S'/\(es.length:Int)<=n/\Mv a q H q' H2/\l≠q') (λ_ H2=>match H2 l with|some (.lst us)=>2000-us.length|_=>0) ?_ ?_ ?_
   ·exact⟨[],S,q,[],Z,R0.same ok.row.no nw.same,nw.at',bW,.nil _,by simpa using n0,⟨.of nw.same,.inl rfl⟩,ql.symm⟩
   ·rintro O H2 ⟨es,S',q',us,rfl,R2,dl,rd,run,nM,sY,lq⟩
    have vj:=run.ok ok aO;have md:=run.no ok aO;have lu:=rd.length;obtain⟨qR,mv2,bv2,a81,tv2,e2,t1,t2,t3,t4⟩:=R2.ob;obtain⟨yq,eq2,T7⟩:=R2.qu;have DQ:=T7.length;have M6:=vj.row.len;refine⟨_,Z,l,us,Z,.inl (aK.of dl),_,Z,_,_,Z,Z,_,Z,?_⟩;show if decide ((us.length:Int)<n)=true then _ else _;by_cases c1:(us.length:Int)<n
    ·rw[cu c1]
     refine ba ?_;refine⟨_,Z,a,qR,_,_,Z,e2,Z,_,.inl ⟨_,aK.of eq2,Z⟩,?_⟩;cases jQ:S'.os with |nil=>have:yq=[]:=GX.mp (by rw[DQ,M6,jQ];rfl);subst this;refine aU ?_;exact⟨es,S',q',us,Z,R2,dl,rd,run,nM,.inr (.inl jQ),sY,lq⟩ |cons o os=>
      have dA:S'.os≠[]:=by rw[jQ];simp
      have:∃y yr,yq=y::yr:=by cases yq with |nil=>rw[M6,jQ]at DQ;simp at DQ |cons y yr=>exact⟨y,yr,Z⟩
      obtain⟨y,yr,rfl⟩:=this;refine ba ?_;refine⟨_,Z,a,qR,_,Z,e2,Z,a,q',M,D,S',Z,R2,vj,aO,_,Z,?_⟩;by_cases c3:Halt S'.pc S'.bh
      ·have hb:(S'.bh.isSome&&decide (S'.pc=0))=true:=by obtain⟨h1,h2⟩:=c3;rw[cu h2,Av];cases hs:S'.bh with |none=>exact(h1 hs).elim |some _=>rfl
       rw[hb];exact aU ⟨es,S',q',us,Z,R2,dl,rd,run,nM,.inr (.inr c3),sY,lq⟩
      ·have hb:(S'.bh.isSome&&decide (S'.pc=0))=false:=by cases hs:S'.bh with |none=>rfl |some _=>show decide (S'.pc=0)=false;exact cX λh2=>c3 ⟨by rw[hs];simp,h2⟩
       rw[hb];refine ba ?_;refine⟨_,Z,.inl ⟨Z,_,aK.of dl⟩,?_⟩;refine⟨_,Z,a,qR,_,Z,e2,Z,_,Z,_,Z,l,us,Z,.inl (aK.of dl),_,_,Z,Z,?_⟩;refine⟨a,q',M,D,S',_,Z,R2,vj,aO,dA,c3,aw,aw,λl2 y2 fs S2 q2 H3 Xk dl2 sG CI f1 f2 R3 yP lq2=>?_⟩;have Qs:=R2.v yP.but;have wu:=yP.but _ _ dl (by simp;exact⟨al.symm,lq⟩);have sF:=aI.v Qs _ md rd;have ly2:=sG.length;have gX:sizeLine=16777216:=by decide
       refine⟨l,l2,us,y2,Z,Z,wu,dl2,aw,?_⟩;have vu:cA H3 (_L.upd H3 l (.lst (us++y2))):=.upd wu trivial;have ZS:=CI.no vj aO;have gf:=CI.ok vj aO;have LW:l≠q2:=λz=>by
        rcases yP.nq with h|h
        ·exact lq (z.trans h)
        ·rw[<-z,dl]at h;cases h
       refine⟨⟨es++fs,S2,q2,us++y2,Z,R3.go gf.row.no vu (λo' eA=>by rw[aL al];exact eA) (λo' eA=>by rw[aL LW.symm];exact eA),bp,(aI.v vu _ md sF).append (aI.v vu _ ZS sG),run.trans CI,by rw[fi];lia,?_,LW⟩,?_⟩
       ·have m:=sY.trans yP (by rw[e2];simp)
        exact⟨λb o' eb hb=>by
         have jd:b≠l:=λz=>by have:=nw.no;rw[<-z,eb]at this;cases this
         rw[aL jd];exact m.but _ _ eb hb,m.nq⟩
       ·show(match(_L.upd H3 l (.lst (us++y2))) l with|some (.lst us)=>2000-us.length|_=>0)<(match H2 l with|some (.lst us)=>2000-us.length|_=>0)
        rw[bp,dl];show 2000-(us++y2).length<2000-us.length;rw[fi]
        lia
    ·rw[cX c1]
     refine aU ?_;exact⟨es,S',q',us,Z,R2,dl,rd,run,nM,.inl aw,sY,lq⟩
   ·rintro O H6 Q1 Q2 hq ⟨v1,f1,l',ka,f2,f3,v2,f4,i1,i2,f5,f6,b1,f7,h⟩
    refine⟨v1,f1,l',ka,f2,f3,v2,f4,i1,i2,f5,f6,b1,f7,yZ ?_ (hq _ _) h⟩;rintro⟨v3,f8,a',pA,ix,u',f9,Fu,Ft,b2,Fs,h⟩;refine⟨v3,f8,a',pA,ix,u',f9,Fu,Ft,b2,Fs,yZ ?_ (hq _ _) h⟩;rintro⟨v5,Fq,a2,qR,Fb,Fp,Fo,Fm,a3,q3,M3,D3,S3,Fj,Fi,Fh,Fg,b3,Ff,h⟩;exact⟨v5,Fq,a2,qR,Fb,Fp,Fo,Fm,a3,q3,M3,D3,S3,Fj,Fi,Fh,Fg,b3,Ff,hq _ _ h⟩
  ·rintro O H2 ⟨es,S',q',us,rfl,R2,dl,rd,run,nM,nN,sY,lq⟩
   exact⟨_,Z,k l us es S' q' H2 nw.no dl rd run nM nN R2 sY lq⟩
end
end _a
set_option maxHeartbeats 4000000
namespace _a
open PySem PySem.Spec PyProof.Rows _L _r _l _C _P _W _R
open _O (topR cornO mnO betR atO ownF leadF ownL OkI OkIs)
section
variable {P:af}{w:World}{K:aa}{mg:bc}{au:Heap}
theorem cx.Ua{C:Addr}{H:Hp}{a q dx:Addr}{M:bQ}{S S':bO}{mv bv cf tv:V}(R:cx K C H a q M S)(e:H a=some (.ins C dx (eW mv bv (.int S.dn) (.ref q) cf (.int S.rate) (.str S.side) (.str S.mark) tv))){zS yA pU:V}(hn:bX S.ds=true)(hd:S'.ds=S.ds) (r1:RD K H mv M.D)(r2:RD K H zS (eh S'.pl))(r3:bN K H yA S'.pc)(r4:u6 K H pU S'.bh):cx K C (_L.upd H a (.ins C dx (eW mv zS (.int S'.dn) (.ref q) yA (.int S'.rate) (.str S'.side) (.str S'.mark) pU))) a q M S':=by
 have v:cA H (_L.upd H a (.ins C dx (eW mv zS (.int S'.dn) (.ref q) yA (.int S'.rate) (.str S'.side) (.str S'.mark) pU))):=.upd e trivial;obtain⟨ys,eq,rq⟩:=R.qu;refine⟨⟨dx,mv,zS,yA,pU,bp,RD.v v _ (kG _ _ _ _ _) r1,RD.v v _ (ky _) r2,r3.v v,r4.v v⟩,ys,?_,?_⟩
 ·rw[aL R.ne.symm];exact eq
 ·rw[hd];exact aI.v v _ hn rq
def a42(S:bO):bO:={S with pl:=qk S,dn:=0,ds:=[],os:=[]}
theorem MW{pc:Rat}{t:_R.lC}:(t.isSome&&decide (pc=0))=true↔Halt pc t:=by unfold Halt;cases t with |none=>simp |some z=>simp
abbrev BF:Stmt:=inClass (top 76) 20
theorem Jw:bj ["self","dropped"] ["self"] (aP BF):=bw aM
inductive a6b(K:aa)(C:Addr)(cM:Addr)(vs:List V)(H:Hp)(Q:VK)(E:XK):Prop |mk (a:_)(q:_)(M:_)(D:_)(S:_)(h0:vs=[.ref a])(h1:cx K C H a q M S)(h2:dE M D S)(h3:M.Ok)(h4:(¬Halt S.pc S.bh->∀H',aA H H'->E (.ref cM) none H'))(h5:(Halt S.pc S.bh->∀q' H',cx K C H' a q' M (a42 S)->H q'=none->cK [a] H H'->Q (.int (S.ds.length:Nat)) H'))
def Iu(K:aa)(C cM:Addr):Sp:=λvs H Q E=>a6b K C cM vs H Q E
theorem VJ{C cM:Addr}(F:MA K C "drop" "Runner.drop" BF)(TC:gm K C)(B:bE mg)(EX:Exc K mg "Moving" cM cW dg)(vU:eL P w K mg au C "is_halted" 2 (iZ K C λ_ S H Q=>Q (.bl (S.bh.isSome&&decide (S.pc=0))) H))(a1q:eL P w K mg au C "place" 3 (iZ K C λ_ S H Q=>∀v H',RD K H' v (eh (qk S))->aA H H'->Q v H')):iC P w K mg au C "drop" 5 (Iu K C cM):=by
 refine F.gW Jw (λvs H Q E h=>?_) (λ_ _ _ _ _ _=>fz λ_=>rfl) (λf aE A outer s H vs Q E hr h=>?_)
 ·obtain⟨a,q,M,D,S,rfl,_⟩:=h
  rfl
 ·obtain⟨a,q,M,D,S,rfl,Ra,ok,aO,k1,k2⟩:=h
  obtain⟨dx,mv,bv,cf,tv,e,r1,r2,r3,r4⟩:=Ra.ob;obtain⟨ys,eq,rq⟩:=Ra.qu;have aq:=Ra.ne;have nd:=Jw.nd;have ly:=rq.length;refine⟨_,(aD (bD (cE (bS (kA vU TC.cl (hr.mono az) (pv 0)))) (aH (jG (λ_ _ _ _ _ _ _ I m q=>jC I m q) EX gK hr.hd Z (ao ck ay))) bG) (aD (pS 1 nd (fo K B (ao (cV TC.cl TC.ij (pv 0)) ay))) (aD (fH TC.cl TC.qA (pv 0) (kA a1q TC.cl (hr.mono az) (pv 0))) (aD (fH TC.cl TC.lX (pv 0) aF) (aD (fH TC.cl TC.ij (pv 0) (dF ay)) (aH (aZ (pv 1)))))))),?_⟩;refine⟨_,Z,a,dx,_,Z,e,Z,a,q,M,D,S,Z,Ra,ok,aO,_,Z,?_⟩;cases hh:(S.bh.isSome&&decide (S.pc=0))with |false=>exact ba ⟨bC Z,k1 (λz=>by rw[MW.mpr z]at hh;cases hh) _ (aA.refl _)⟩ |true=>
   refine aU ?_;have hH:=MW.mp hh;refine⟨_,Z,a,dx,_,_,Z,e,Z,q,_,Z,.inl (aK.of eq),?_⟩;refine⟨_,Z,a,dx,_,Z,e,Z,a,q,M,D,S,Z,Ra,ok,aO,λu H1 ru s1=>?_⟩;have e1:=s1 _ _ e;refine⟨_,Z,a,dx,_,Z,e1,by show 9<1000;decide,?_⟩;refine⟨_,Z,a,dx,_,Z,bp,by show 9<1000;decide,?_⟩;refine⟨bC Z,λq' H2 n2=>?_⟩;have e2:=n2.same _ _ (bp (a:=a));refine⟨_,Z,a,dx,_,Z,e2,by show 9<1000;decide,?_⟩;have pH:a≠q':=λz=>by have:=n2.no;rw[<-z,bp]at this;cases this
   have key:∀X:Hp,(∀b,b≠a->X b=H2 b)->Q (.int (S.ds.length:Nat)) (_L.upd X a (.ins C dx (eW mv u (.int 0) (.ref q') cf (.int S.rate) (.str S.side) (.str S.mark) tv))):=by
    intro X hX;have zv:∀b o',b≠a->H1 b=some o'->H2 b=some o':=λb o' ha eb=>n2.same _ _ (by rw[aL ha,aL ha];exact eb);have bt:cK [a] H (_L.upd X a (.ins C dx (eW mv u (.int 0) (.ref q') cf (.int S.rate) (.str S.side) (.str S.mark) tv))):=λb o' eb hb=>by have ha:b≠a:=λz=>hb (by rw[z];exact .head _);rw[aL ha,hX b ha];exact zv _ _ ha (s1 _ _ eb)
    have sv:=bt.v λx hx o' eo=>by rw[eg]at hx;rw[hx,e]at eo;cases eo;trivial
    have AI:cA H1 (_L.upd X a (.ins C dx (eW mv u (.int 0) (.ref q') cf (.int S.rate) (.str S.side) (.str S.mark) tv))):=λb o' nb eb=>by
     have ha:b≠a:=λz=>by rw[z,e1]at eb;cases eb;exact nb trivial
     rw[aL ha,hX b ha];exact zv _ _ ha eb
    refine k2 hH q' _ ⟨⟨dx,mv,u,cf,tv,bp,RD.v sv _ (kG _ _ _ _ _) r1,RD.v AI _ (ky _) ru,r3.v sv,r4.v sv⟩,[],?_,bW⟩ ?_ bt
    ·rw[aL pH.symm,hX q' pH.symm];exact n2.at'
    ·cases e':H q' with |none=>rfl |some o'=>have h1:=s1 _ _ e';have h2:=n2.no;rw[aL pH.symm,aL pH.symm,h1]at h2;cases h2
   refine⟨_,Z,?_⟩;rw[ly];exact key _ (λb hb=>rfl)
theorem Tw{d:ah}(h:mY d=true):∃rate:Int,d= .int rate/\10<=rate/\rate<=200:=by cases d with |int i=>have h:(decide (10<=i)&&decide (i<=200))=true:=h;rw[d6,rE,rE]at h;exact⟨i,Z,h⟩ |_=>cases h
inductive a63(K:aa)(C:Addr)(cR:Addr)(cM:Addr)(vs:List V)(H:Hp)(Q:VK)(E:XK):Prop |mk (a:_)(q:_)(M:_)(D:_)(S:_)(v:_)(d:_)(h0:vs=[.ref a,v])(h1:cx K C H a q M S)(h2:dE M D S)(h3:M.Ok)(h4:RD K H v d)(h5:(mY d=false->∀H',aA H H'->E (.ref cR) none H'))(h6:(mY d=true->S.pc≠0->∀H',aA H H'->E (.ref cM) none H'))(h7:(∀rate,d= .int rate->10<=rate->rate<=200->S.pc=0->∀H',cx K C H' a q M {S with rate:=rate}->cK [a] H H'->Q (.int rate) H'))
def AR(K:aa)(C cR cM:Addr):Sp:=λvs H Q E=>a63 K C cR cM vs H Q E
abbrev Br:Stmt:=inClass (top 76) 21
theorem Sq:bj ["self","rate"] ["self","rate"] (aP Br):=bw aM
theorem Vt{C cR cM:Addr}(F:MA K C "turn_rate" "Runner.turn_rate" Br)(TC:gm K C)(EV:Exc K mg "NoRate" cR cW dg)(EX:Exc K mg "Moving" cM cW dg)(vK:aG P w K mg au "is_rate" 3 (uG K))(EJ:eL P w K mg au C "stands" 1 (iZ K C λ_ S H Q=>Q (.bl (decide (S.pc=0))) H)):iC P w K mg au C "turn_rate" 5 (AR K C cR cM):=by
 refine F.gW Sq (λvs H Q E h=>?_) (λ_ _ _ _ _ _=>cJ λ_ _=>rfl) (λf aE A outer s H vs Q E hr h=>?_)
 ·obtain⟨a,q,M,D,S,v,d,rfl,_⟩:=h
  rfl
 ·obtain⟨a,q,M,D,S,v,d,rfl,Ra,ok,aO,rd,k1,k2,k3⟩:=h
  obtain⟨dx,mv,bv,cf,tv,e,r1,r2,r3,r4⟩:=Ra.ob;refine⟨_,(aD (bD (cE (bS (pf vK hr (ao (pv 1) ay)))) (aH (jG (λ_ _ _ _ _ _ _ I m q=>jC I m q) EV gK hr.hd Z (ao ck ay))) bG) (aD (bD (cE (bS (kA EJ TC.cl (hr.mono az) (pv 0)))) (aH (jG (λ_ _ _ _ _ _ _ I m q=>jC I m q) EX gK hr.hd Z (ao ck ay))) bG) (aD (fH TC.cl TC.yO (pv 0) (pv 1)) (aH (aZ (pv 1)))))),?_⟩;refine⟨_,Z,v,d,Z,rd,_,Z,?_⟩;cases hd:mY d with |false=>exact ba ⟨bC Z,k1 hd _ (aA.refl _)⟩ |true=>
   refine aU ?_;refine⟨_,Z,a,dx,_,Z,e,Z,a,q,M,D,S,Z,Ra,ok,aO,_,Z,?_⟩;by_cases hp:S.pc=0
   ·rw[cu hp]
    refine aU ?_;obtain⟨rate,rfl,h1,h2⟩:=Tw hd;cases rd.int_inv;refine⟨_,Z,_,Z,a,dx,_,Z,e,by show 9<1000;decide,?_⟩;exact⟨_,Z,k3 rate Z h1 h2 hp _ (Ra.Ua (S':={S with rate:=rate}) e ok.row.no rfl r1 r2 r3 r4) (FZ (by simp))⟩
   ·rw[cX hp]
    exact ba ⟨bC Z,k2 hd hp _ (aA.refl _)⟩
end
end _a
set_option maxHeartbeats 2000000
namespace _a
open PySem PySem.Spec PyProof.Rows _L _r _l _C _P _W _R
open _O (topR cornO mnO betR atO ownF leadF ownL OkI OkIs)
open _T (numIn?)
section
variable {P:af}{w:World}{K:aa}{mg:bc}{au:Heap}
def tq:ah->Bool | .int _=>true |_=>false
inductive a5N(K:aa)(cR:Addr)(vs:List V)(H:Hp)(E:XK):Prop |mk (v:_)(u:_)(d:_)(h0:vs=[v,u])(h1:RD K H u d)(h2:mY d=false)(h3:∀H',aA H H'->E (.ref cR) none H')
def Ic(K:aa)(cR:Addr):Sp:=λvs H Q E=>a5N K cR vs H E
theorem Vk{cR:Addr}(F:FA K mg "top_square" yh)(B:bE mg)(EV:Exc K mg "NoRate" cR cW dg)(vK:aG P w K mg au "is_rate" 3 (uG K)):fR P w K mg au "top_square" 4 (Ic K cR):=by
 refine F.gW ye (λvs H Q E h=>?_) (λ_ _ _ _ _ _=>cJ λ_ _=>rfl) (λf aE A outer s H vs Q E hr h=>?_)
 ·obtain⟨v,u,d,rfl,_⟩:=h
  rfl
 ·obtain⟨v,u,d,rfl,rd,hd,k⟩:=h
  have nd:=ye.nd;refine⟨_,(aD (bD (cE (bS (pf vK hr (ao (pv 1) ay)))) (aH (jG (λ_ _ _ _ _ _ _ I m q=>jC I m q) EV gK hr.hd Z (ao ck ay))) bG) ku),?_⟩;refine⟨_,Z,u,d,Z,rd,_,Z,?_⟩;rw[hd];exact ba ⟨bC Z,k _ (aA.refl _)⟩
inductive a6D(K:aa)(cF:Addr)(vs:List V)(H:Hp)(E:XK):Prop |mk (p:_)(v:_)(d:_)(h0:vs=[.int p,v])(h1:RD K H v d)(h2:(tq d=false\/d= .int 0))(h3:∀H',aA H H'->E (.ref cF) none H')
def IH(K:aa)(cF:Addr):Sp:=λvs H Q E=>a6D K cF vs H E
theorem Z7{d:ah}(h:tq d=false):jP (gz d)=false:=by cases d with |int i=>cases h |none=>exact(by decide:jP "NoneType"=false) |bool b=>exact(by decide:jP "bool"=false) |str z=>exact(by decide:jP "str"=false) |list xs=>exact(by decide:jP "list"=false) |tuple xs=>exact(by decide:jP "tuple"=false) |dict xs=>exact(by decide:jP "dict"=false)
theorem Wl{cF:Addr}(F:FA K mg "fraction" yj)(B:bE mg)(N5:Exc K mg "NoFraction" cF cW dg)(qM:aG P w K mg au "is_whole" 1 (uM K)):fR P w K mg au "fraction" 2 (IH K cF):=by
 refine F.gW yg (λvs H Q E h=>?_) (λ_ _ _ _ _ _=>cJ λ_ _=>rfl) (λf aE A outer s H vs Q E hr h=>?_)
 ·obtain⟨p,v,d,rfl,_⟩:=h
  rfl
 ·obtain⟨p,v,d,rfl,rd,hd,k⟩:=h
  have nd:=yg.nd;refine⟨_,(aD (bD (PW.pt (kr (cE (bS (pf qM hr (ao (pv 0) ay)))) (kl (cE (bS (pf qM hr (ao (pv 1) ay))))))) (aH (jG (λ_ _ _ _ _ _ _ I m q=>jC I m q) N5 gK hr.hd Z (ao ck ay))) bG) (aD (bD (bT (dR K Z hr.units) (pv 1) aF (bM _)) (aH (jG (λ_ _ _ _ _ _ _ I m q=>jC I m q) N5 gK hr.hd Z (ao ck ay))) bG) ku)),?_⟩;refine⟨_,Z,_,_,Z,(cQ (K:=K) (H:=H) p).ty,_,Z,?_⟩;refine aU ⟨_,Z,_,_,Z,rd.ty,_,Z,?_⟩;rcases hd with hd|rfl
  ·rw[Z7 hd]
   exact ba ⟨bC Z,k _ (aA.refl _)⟩
  ·cases rd.int_inv
   refine aU ⟨_,Z,.inl ⟨_,_,Z,Z,_,Z,ba ⟨bC Z,k _ (aA.refl _)⟩⟩⟩
end
end _a
set_option maxHeartbeats 1000000
namespace _a
open PySem PySem.Spec PyProof.Rows _L _r _l _W
open _O (Itm)
section
variable {P:af}{w:World}{K:aa}{mg:bc}{au:Heap}
abbrev BS:Stmt:=top 127
theorem JK:bj ["_law_bag_here","_law_axes","_law_far","_law_rails","_law_bounds"] ["_law_bag_here"] (aP BS):=bw aM
theorem W2(F:FA K mg "_law_machine" BS)(B:bE mg)(kW:aG P w K mg au "_law_take" 1 sj):aG P w K mg au "_law_machine" 2 (IC K):=by
 refine F.has JK (λvs H Q E h=>?_) (λ_ _ _ _ _ _=>fz λ_=>rfl) (λf aE A outer s H vs Q E hr h=>?_)
 ·obtain⟨p,rfl,_⟩:=h
  rfl
 ·obtain⟨p,rfl,bg,k⟩:=h
  have nd:=JK.nd;refine⟨_,(aD (pS 1 nd (aW fJ aF (pf kW hr (ao (pv 0) (ao aF ay))))) (aD (pS 2 nd (px K (dF (ao aF (ao aF ay))) (pf kW hr (ao (pv 0) (ao aF ay))))) (aD (pS 3 nd (jI (x:="tuple") (mS K Z) Z (B.at "tuple") jA (ao (gQ (N:=["_law_axis","_law_bag_here","_law_far"]) (js:=[none,some 0,some 2]) rfl rfl rfl (sN rfl (B.at "range") (ao (pv 1) ay)) (λ_ _ _ _ _=>(bu 0 (show List.Nodup (["_law_axis","_law_bag_here","_law_far"]:List Str) by decide+kernel))) (λ_ _ _ _ _=>gb) (λ_ _ _ _ _=>(aW fJ aF (pf kW hr (ao (pv 1) (ao (pv 2) ay)))))) ay))) (aD (pS 4 nd (jI (x:="tuple") (mS K Z) Z (B.at "tuple") jA (ao (gQ (N:=["_law_k","_law_bag_here"]) (js:=[none,some 0]) rfl rfl rfl (sN rfl (B.at "range") (ao aF ay)) (λ_ _ _ _ _=>(bu 0 (fX az))) (λ_ _ _ _ _=>gb) (λ_ _ _ _ _=>(aW fJ aF (pf kW hr (ao (pv 1) (ao aF ay)))))) ay))) (aH (aZ (aW (pF K Z) (aW (pF K Z) (dc (ao (pv 3) ay)) (pv 4)) (dc (ao (aW fJ aF (pf kW hr (ao (pv 0) (ao aF ay)))) ay))))))))),?_⟩;refine⟨_,Z,p,2,Z,bg,az,az,λt0 H1 t00 t01 b1=>?_⟩;refine⟨_,_,Z,Z,?_⟩;refine⟨bC Z,λl H2 nw=>?_⟩;have b2:cj p H1 H2:=.kD b1.eJ nw.same;have Yt:l≠p:=λe=>b1.eJ.ne (e▸nw.no);refine⟨_,Z,p,2,Z,b2.eJ,az,az,λi H3 i0 i1 b3=>?_⟩;obtain⟨zF,mf,ef⟩:=Z5 [100,20] i0 i1;have f1:1<=zF/\zF<=100:=by
   rcases bZ.mp mf with rfl|mf
   ·exact⟨az,az⟩
   rcases bZ.mp mf with rfl|mf
   ·exact⟨az,az⟩
   ·exact(dX mf).elim
  refine .inl ⟨l,_,_,_,Z,Z,aK.of (b3.same _ _ Yt nw.at'),ef,?_⟩;refine⟨_,Z,_,Z,aw,aw,λD H4 n4=>?_⟩;have hN:(2+t0).toNat<=1000:=by lia
  refine Of (2+t0).toNat [some (.ref p),some (.int zF)] n4 b3.eJ hN (λi=>.int (0+(i:Int))) (λi H5 hi b5=>⟨hi,λy H6 ⟨e1,e2⟩=>⟨e1,e2⟩⟩) (λH5 b5=>bA _) (λz=>1<=z/\z<=100) ?_ ?_
  ·intro i H5 Q' hi b5 hq
   refine⟨_,Z,_,Z,p,zF,Z,b5.eJ,f1.1,aw,λz H6 z0 z1 b6=>?_⟩;exact⟨_,_,Z,Z,hq _ _ ⟨aw,aw⟩ b6⟩
  intro H5 rs b5 d5 lr pr;refine⟨D,_,Z,.inl ⟨aK.of d5,λq H6 n6=>?_⟩⟩;have b6:cj p H5 H6:=.kD b5.eJ n6.same;refine⟨3,Z,az,az,λD2 H7 n7=>?_⟩;refine Of 3 [some (.ref p)] n7 b6.eJ az (λi=>.int (0+(i:Int))) (λi H8 hi b8=>⟨hi,λy H9 ⟨e1,e2⟩=>⟨e1,e2⟩⟩) (λH8 b8=>bA _) (λz=>1<=z/\z<=50) ?_ ?_
  ·intro i H8 Q' hi b8 hq
   refine⟨_,Z,p,50,Z,b8.eJ,az,az,λz H9 z0 z1 b9=>?_⟩;exact⟨_,_,Z,Z,hq _ _ ⟨aw,aw⟩ b9⟩
  intro H8 bs b8 d8 lb pb;refine⟨D2,_,Z,.inl ⟨aK.of d8,λq2 H9 n9=>?_⟩⟩;have b9:cj p H8 H9:=.kD b8.eJ n9.same;refine⟨_,Z,bC Z,λt1 ji DL=>?_⟩;have G7:cj p H9 ji:=.kD b9.eJ DL.same
  match bs,lb,pb,n9 with |[x1,x2,x3],_,pb,n9=>have p1:=pb x1 (.head _);have p2:=pb x2 (.tail _ (.head _));have p3:=pb x3 (.tail _ (.tail _ (.head _)));refine⟨_,Z,t1,q2,_,_,Z,Z,aQ.of DL.at',aQ.of (DL.same _ _ n9.at'),bC Z,λv1 iE yl a11=>?_⟩;have zX:cj p ji iE:=.kD G7.eJ yl;refine⟨_,Z,p,100,Z,zX.eJ,az,az,λz P6 z0 z1 zW=>?_⟩;refine⟨_,_,Z,Z,bC Z,λt2 o8 DK=>?_⟩;have G6:cj p P6 o8:=.kD zW.eJ DK.same;refine⟨v1,t2,_,_,Z,Z,(aQ.t (cj.t zX.eJ zW) a11).go DK.same,aQ.of DK.at',bC Z,λv2 A8 fj a14=>?_⟩;have OF:cj p o8 A8:=.kD G6.eJ fj;have sq:aQ K A8 q (rs.map V.int):=aQ.t (cj.t b6.eJ (b8.trans (b9.trans (G7.trans (zX.trans (zW.trans (G6.trans OF))))))) (aQ.of n6.at');refine k (.ref v2) rs x1 x2 x3 (1+z) A8 (eF a14 (bJ (eF sq (oz rs)) (bJ (cQ _) (bJ (cQ _) (bJ (cQ _) (bJ (cQ _) bW)))))) ⟨aw,pr,p1,p2,p3,aw⟩ (b1.trans (b2.trans (b3.trans (b5.trans (b6.trans (b8.trans (b9.trans (G7.trans (zX.trans (zW.trans (G6.trans OF)))))))))))
end
end _a
set_option maxHeartbeats 2000000
namespace _a
open PySem PySem.Spec PyProof.Rows _L _r _l _C _P _W _R
open _O (topR cornO mnO betR atO ownF leadF ownL OkI OkIs)
open _T (numIn?)
section
variable {P:af}{w:World}{K:aa}{mg:bc}{au:Heap}
def ip:List ah:=[.none,.bool true,.bool false,.str "",.str "a",.tuple [],.list [],.tuple [.int 1],.list [.list [.int 0]],.int (-1),.int (10^(39:Int).toNat),.str "line",.tuple [.str "line"],.tuple [.str "line",.tuple [.int 0,.int 0],.int 1]]
inductive a6q(K:aa)(vs:List V)(H:Hp)(Q:VK):Prop |mk (p:_)(h0:vs=[.ref p])(h1:iD H p)(h2:∀v d H',RD K (_L.del H' p) v d->d∈ip->cj p H H'->Q v H')
def IB(K:aa):Sp:=λvs H Q _=>a6q K vs H Q
abbrev lS:Stmt:=top 130
theorem JJ:bj ["_law_bag_here","_law_some"] ["_law_bag_here"] (aP lS):=bw aM
def yT:Expr:=match(eB lS)with| .Assign _ e _::_=>e|_=>.Constant .none 0 ⟨0,0,0,0⟩
theorem XS:lit 4 yT=some (.list ip):=by kernel_rfl
def LO(e:Expr):List Stmt:=match eB lS with| .Assign ts _ p::r=>.Assign ts e p::r|r=>r
theorem XF:LO yT=eB lS:=by kernel_rfl
theorem XQ{f:Addr}{aE:Value}{A:ai}{outer:List Env}{s:ae}{H:Hp}{p:Addr}{Q:VK}{E:XK}(e:Expr)(hr:bU 1 (A.deeper (envOfC "_law_menu" (aP lS) s.heap.objs.size f aE))) (he:OX (eX eM P w K mg au ["_law_bag_here","_law_some"] "_law_menu" (aP lS) f aE A outer s H E).lW e (xT K (.list ip))) (kJ:∀x l,swapsWith e (some x) l (eX eM P w K mg au ["_law_bag_here","_law_some"] "_law_menu" (aP lS) f aE A outer s H E).lW.env=pure false) (B:bE mg)(kW:aG P w K mg au "_law_take" 1 sj)(bg:iD H p)(k:∀v d H',RD K (_L.del H' p) v d->d∈ip->cj p H H'->Q v H'): ∃t,eP (eX eM P w K mg au ["_law_bag_here","_law_some"] "_law_menu" (aP lS) f aE A outer s H E).lW (LO e) t/\t {nx:=λ_ H'=>Q .aY H',rt:=Q} (start ["_law_bag_here","_law_some"] [.ref p]) H:=by
 have nd:=JJ.nd;refine⟨_,(aD (KP (i:=1) nd Z (Or.inl Z) he.out (kJ _ _)) (aH (aZ (px K (pv 1) (pf kW hr (ao (pv 0) (ao aF ay))))))),?_⟩;intro l H1 s1 r1;have b1:cj p H H1:=.kD bg s1;have r2:RD K (del H1 p) l (.list ip):=RD.mono (a2m bg.ne) _ r1;refine⟨_,Z,_,Z,p,14,Z,b1.eJ,az,az,λi H2 i0 i1 b2=>?_⟩;have r3:RD K (del H2 p) l (.list ip):=RD.mono b2.sd _ r2;obtain⟨a,xs,rfl,hx,hd⟩:=r3.lst_inv;have hl:=hd.length;have hi:i.toNat<ip.length:=by show i.toNat<14;omega
 obtain⟨y,ey,ry⟩:=hd.get i.toNat (cH hi);refine .inl ⟨a,xs,i,y,Z,Z,hx.go O1,?_,?_⟩
 ·exact eK i0 ey
 ·exact k _ _ _ ry (GY hi) (b1.trans b2)
theorem W0(F:FA K mg "_law_menu" lS)(B:bE mg)(kW:aG P w K mg au "_law_take" 1 sj):aG P w K mg au "_law_menu" 2 (IB K):=by
 refine F.has JJ (λvs H Q E h=>?_) (λ_ _ _ _ _ _=>fz λ_=>rfl) (λf aE A outer s H vs Q E hr h=>?_)
 ·obtain⟨p,rfl,_⟩:=h
  rfl
 ·obtain⟨p,rfl,bg,k⟩:=h
  rw[<-XF];exact XQ yT hr (UA K Z 4 yT _ XS) (λ_ _=>rfl) B kW bg k
structure A3(d:ah):Prop where
 ok:cD 8 d
 sh:lR d=true
 it:∀n,n=2\/n=3->gU n d=false
 rt:mY d=false
 mc:iq d=false
 pl:∀rs:List Int,rs.length=2\/rs.length=3->kI rs d=false
 tp:fD (gz d) "list"=false\/d= .list []\/d= .list [.list [.int 0]]
theorem XM:∀d∈ip,∀rs:List Int,rs.length=2\/rs.length=3->kI rs d=false:=by
 intro d hd rs hr;unfold ip at hd;simp only[bZ,dX,gs]at hd
 match rs,hr with |[a,b],_=>rcases hd with rfl|rfl|rfl|rfl|rfl|rfl|rfl|rfl|rfl|rfl|rfl|rfl|rfl|rfl<;>rfl |[a,b,c],_=>rcases hd with rfl|rfl|rfl|rfl|rfl|rfl|rfl|rfl|rfl|rfl|rfl|rfl|rfl|rfl<;>rfl
theorem XJ:∀d∈ip,fD (gz d) "list"=false\/d= .list []\/d= .list [.list [.int 0]]:=by
 intro d hd;unfold ip at hd;simp only[bZ,dX,gs]at hd;rcases hd with rfl|rfl|rfl|rfl|rfl|rfl|rfl|rfl|rfl|rfl|rfl|rfl|rfl|rfl
 ·exact .inl aM
 ·exact .inl aM
 ·exact .inl aM
 ·exact .inl aM
 ·exact .inl aM
 ·exact .inl aM
 ·exact .inr (.inl Z)
 ·exact .inl aM
 ·exact .inr (.inr Z)
 ·exact .inl aM
 ·exact .inl aM
 ·exact .inl aM
 ·exact .inl aM
 ·exact .inl aM
theorem XN:∀d∈ip,cD 2 d:=qw.mpr ⟨aM,aM⟩
theorem XR:∀d∈ip,(lR d&& !gU 2 d&& !gU 3 d&& !mY d&& !iq d)=true:=fG.mp aM
theorem LQ{d:ah}(h:d∈ip):A3 d:=by have b:=XR d h;simp only[d6,Hg]at b;obtain⟨⟨⟨⟨b1,b2⟩,b3⟩,b4⟩,b5⟩:=b;exact⟨(XN d h).le az,b1,λn hn=>by rcases hn with rfl|rfl<;>assumption,b4,b5,XM d h,XJ d h⟩
theorem XO:∀d∈ip,tq d=false\/d= .int (-1)\/d= .int (10^(39:Int).toNat):=by intro d hd;unfold ip at hd;simp only[bZ,dX,gs]at hd;rcases hd with rfl|rfl|rfl|rfl|rfl|rfl|rfl|rfl|rfl|rfl|rfl|rfl|rfl|rfl<;>first|exact .inl rfl|exact .inr (.inl rfl)|exact .inr (.inr rfl)
inductive a6i(K:aa)(vs:List V)(H:Hp)(Q:VK):Prop |mk (m:_)(bF:_)(M:_)(pl:_)(h0:vs=[m,bF])(h1:RD K H m (bQ.D M))(h2:M.Ok)(h3:RD K H bF (eh pl))(h4:jV M.rs pl)(h5:∀v d o H',RD K H' v d->mF M.rs.length d o->j9 M.rs (fw pl o)=false->aA H H'->Q v H')
def Iz(K:aa):Sp:=λvs H Q _=>a6i K vs H Q
abbrev BJ:Stmt:=top 131
theorem JA:bj ["_law_machine_here","_law_place_here","_law_step"] ["_law_machine_here","_law_place_here"] (aP BJ):=bw aM
theorem Az(n:Nat):(List.replicate n [V.int 0]).flatten=(List.replicate n (0:Int)).map V.int:=by induction n with |zero=>rfl |succ n ih=>rw[mL,xu,ih,mL];rfl
theorem Qb(n:Nat):(List.replicate n [V.int 0]).flatten.length=n:=by rw[Az,bR,An]
theorem WK{n:Nat}{st:Int}(hn:n=2\/n=3)(h1:st≠0)(h2:(st.natAbs:Int)<=100):mF n (gF (st::List.replicate (n-1) 0) 1) (some (st::List.replicate (n-1) 0,1)):=by
 refine⟨.inl ⟨_,_,Z,Z⟩,λns sp e=>?_,λe=>nomatch e⟩;cases e;refine⟨⟨?_,λz hz=>?_,⟨st,.head _,h1⟩⟩,az,az⟩
 ·rw[fC,An];omega
 ·rcases bZ.mp hz with rfl|hz
  ·exact h2
  ·rw[(List.mem_replicate.mp hz).2];decide
theorem WJ{r0 x st sp:Int}{rs pl ns:List Int}(h:x+st<0\/r0<x+st):j9 (r0::rs) (fw (x::pl) (some (st::ns,sp)))=false:=by
 show((decide (0<=x+st)&&decide (x+st<=r0))&&_)=false;rcases h with h|h
 ·rw[cX bK,fV,fV]
 ·rw[cX (show¬x+st<=r0 by omega),Aw,fV]
theorem VT(F:FA K mg "_law_off" BJ)(B:bE mg):aG P w K mg au "_law_off" 1 (Iz K):=by
 refine F.has JA (λvs H Q E h=>?_) (λ_ _ _ _ _ _=>cJ λ_ _=>rfl) (λf aE A outer s H vs Q E hr h=>?_)
 ·obtain⟨m,bF,M,pl,rfl,_⟩:=h
  rfl
 ·obtain⟨m,bF,M,pl,rfl,rm,aO,rp,on,k⟩:=h
  have nd:=JA.nd;obtain⟨ma,mb,rfl,jr,me⟩:=qD rm;obtain⟨pa,rfl,oU⟩:=yu rp;obtain⟨rs,r,f',j,t⟩:=M;have jL:rs.length=2\/rs.length=3:=aO.len;obtain⟨r0,rt,rfl⟩:∃r0 rt,rs=r0::rt:=by cases rs with |nil=>rcases jL with e|e<;>simp at e |cons x xs=>exact⟨x,xs,Z⟩
  have lp:pl.length=(r0::rt).length:=on.len;obtain⟨x,pt,rfl⟩:∃x pt,pl=x::pt:=by cases pl with |nil=>simp at lp |cons x xs=>exact⟨x,xs,Z⟩
  obtain⟨x0,x1⟩:=on.at' 0 x r0 Z rfl;have r1:1<=r0/\r0<=100:=aO.rl r0 (.head _);refine⟨_,(aD (pS 2 nd (aW j8 (aW fJ (px K (px K (pv 0) aF) aF) aF) (px K (pv 1) aF))) (aD (jn (bD (bT Dn (pv 2) aF (bM _)) (aH (pS 2 nd (aW j8 (lU lN (px K (pv 1) aF)) aF))) bG)) (aH (aZ (dc (ao ck (ao (aW (pF K Z) (dc (ao (pv 2) ay)) (aW (Le K Z) (dc (ao aF ay)) (aW j8 (fo K B (ao (pv 1) ay)) aF))) (ao aF ay)))))))),?_⟩;refine⟨_,Z,.inr ⟨ma,_,0,.ref mb,Z,Z,jr,Z,.inr ⟨mb,_,0,.int r0,Z,Z,me,eK (gO 0) Z,_,_,Z,Z,?_⟩⟩⟩;refine⟨_,Z,.inr ⟨pa,_,0,.int x,Z,Z,oU,eK (gO 0) Z,_,_,Z,Z,?_⟩⟩;refine⟨λO H1=>H1=H/\∃st:Int,O=[some (.ref ma),some (.ref pa),some (.int st)]/\st≠0/\(st.natAbs:Int)<=100/\(x+st<0\/r0<x+st),?_,?_⟩
  ·refine⟨_,Z,_,_,Z,Z,_,Z,?_⟩
   by_cases h:r0+1-x>100
   ·rw[cu h]
    refine ba ⟨_,Z,.inr ⟨pa,_,0,.int x,Z,Z,oU,eK (gO 0) Z,_,Z,_,_,Z,Z,Z,_,Z,bK,bK,bK⟩⟩
   ·rw[cX h]
    exact aU ⟨Z,_,Z,bK,bK,bK⟩
  ·rintro O H1 ⟨rfl,st,rfl,h1,h2,h3⟩
   refine⟨_,Z,bC Z,λt1 H2 n2=>?_⟩;refine⟨bC Z,λt2 H3 n3=>?_⟩;have s3:=n2.same.trans n3.same;refine⟨_,Z,pa,_,Z,.inr (oU.go s3),_,_,Z,Z,?_⟩;refine⟨t2,_,_,Z,Z,aQ.of n3.at',by simp,by rw[bR,lp];omega,by rw[bR,lp];omega,az,λt4 H4 s4 a4=>?_⟩;refine⟨t1,t4,_,_,Z,Z,aQ.of (s4 _ _ (n3.same _ _ n2.at')),a4,by
    have gX:sizeLine=16777216:=by decide
    rw[Qb,bR,lp];show 1+_<=_;omega,λt5 H5 s5 a5=>?_⟩;refine⟨bC Z,λt6 H6 n6=>?_⟩;have s6:=s3.trans (s4.trans (s5.trans n6.same));have ez:(List.replicate (((List.map V.int (x::pt)).length:Int)-1).toNat [V.int 0]).flatten=(List.replicate ((r0::rt).length-1) (0:Int)).map V.int:=by
    rw[Az,bR,lp];congr 2;omega
   rw[ez]at a5;exact k (.ref t6) _ _ H6 (eF (aQ.of n6.at') (bJ (dN _) (bJ (eF (a5.go n6.same) (oz (st::List.replicate ((r0::rt).length-1) 0))) (bJ (cQ _) bW)))) (WK jL h1 h2) (WJ h3) s6
end
end _a
set_option maxHeartbeats 4000000
namespace _a
open PySem PySem.Spec PyProof.Rows _L _r _l _C _P _W _R
open _O (topR cornO mnO betR atO ownF leadF ownL OkI OkIs)
open _T (numIn?)
section
variable {P:af}{w:World}{K:aa}{mg:bc}{au:Heap}
structure Up(K:aa)(C:Addr)(H H1:Hp)(a q:Addr)(M:bQ)(S:bO):Prop where
 R:cx K C H1 a q M S
 na:H a=none
 nq:H q=none
 s:aA H H1
theorem Up.mk'{C a q dx:Addr}{H H1:Hp}{M:bQ}{S:bO}(ha:H a=none)(dQ:H dx=none)(ne:a≠dx)(R:cx K C H1 a q M S)(nq:(_L.upd (_L.upd H dx (.own a)) a (.ins C dx [])) q=none)(bt:cK [a] (_L.upd (_L.upd H dx (.own a)) a (.ins C dx [])) H1):Up K C H H1 a q M S:=by
 have s1:aA H (_L.upd (_L.upd H dx (.own a)) a (.ins C dx [])):=(aA.new dQ).trans (aA.new (by rw[aL ne];exact ha));refine⟨R,ha,?_,λb o e=>bt b o (s1 _ _ e) λz=>?_⟩
 ·cases e:H q with |none=>rfl |some o=>rw[s1 _ _ e]at nq;cases nq
 ·rw[eg.mp z,ha]at e;cases e
theorem Up.same{C a q:Addr}{H H1 H2:Hp}{M:bQ}{S:bO}(u:Up K C H H1 a q M S)(hn:bX S.ds=true)(s:aA H1 H2):Up K C H H2 a q M S:=⟨u.R.same hn s,u.na,u.nq,u.s.trans s⟩
theorem Up.but{C a q:Addr}{H H1 H2:Hp}{M:bQ}{S S':bO}(u:Up K C H H1 a q M S)(R:cx K C H2 a q M S')(b:cK [a,q] H1 H2):Up K C H H2 a q M S':=⟨R,u.na,u.nq,λx o e=>b x o (u.s _ _ e) λz=>by
 simp only[bZ,dX,gs]at z;rcases z with rfl|rfl
 ·rw[u.na]at e;cases e
 ·rw[u.nq]at e;cases e⟩
theorem Up.mv{C a q q':Addr}{H H1 H2:Hp}{M:bQ}{S S':bO}(u:Up K C H H1 a q M S)(R:cx K C H2 a q' M S')(m:Mv a q H1 q' H2):Up K C H H2 a q' M S':=by
 refine⟨R,u.na,?_,λx o e=>m.but x o (u.s _ _ e) λz=>?_⟩
 ·rcases m.nq with e|e
  ·rw[e];exact u.nq
  ·cases h:H q' with |none=>rfl |some o=>rw[u.s _ _ h]at e;cases e
 ·simp only[bZ,dX,gs]at z
  rcases z with rfl|rfl
  ·rw[u.na]at e;cases e
  ·rw[u.nq]at e;cases e
theorem a1R(S:bO)(d:ah)(o:Itm):iP (zE S d o)=fw (iP S) o:=by show(S.os++[o]).foldl fw S.pl=_;rw[PQ];rfl
theorem Qm{n:Nat}{i:Int}(h1:1<=i)(h2:i<=1000):mF n (.tuple [.str "wait",.int i]) none:=⟨qY.it (.inl ⟨i,Z,h1,h2⟩),(λ_ _ z=>nomatch z),λ_=>.inl ⟨i,rfl,h1,h2⟩⟩
inductive a6C(K:aa)(cF:Addr)(vs:List V)(H:Hp)(E:XK):Prop |mk (m:_)(bF:_)(M:_)(pl:_)(h0:vs=[m,bF])(h1:RD K H m (bQ.D M))(h2:M.Ok)(h3:RD K H bF (eh pl))(h4:jV M.rs pl)(h5:∀H',aA H H'->E (.ref cF) none H')
def IG(K:aa)(cF:Addr):Sp:=λvs H Q E=>a6C K cF vs H E
abbrev Ca:Stmt:=top 132
theorem K0:bj ["_law_machine_here","_law_place_here","_law_runner","_law_k"] ["_law_machine_here","_law_place_here"] (aP Ca):=bw aM
theorem Wj{C:Addr}{R:qX}(F:FA K mg "_law_full" Ca)(B:bE mg)(TC:gm K C)(mm:r9 P w K mg au C "Runner" 1 (uH K C))(p4:iC P w K mg au C "feed" 5 (xZ K C R)):fR P w K mg au "_law_full" 6 (IG K R.f):=by
 refine F.gW K0 (λvs H Q E h=>?_) (λ_ _ _ _ _ _=>cJ λ_ _=>rfl) (λf aE A outer s H vs Q E hr h=>?_)
 ·obtain⟨m,bF,M,pl,rfl,_⟩:=h
  rfl
 ·obtain⟨m,bF,M,pl,rfl,rm,aO,rp,on,k⟩:=h
  have nd:=K0.nd;refine⟨_,(aD (pS 2 nd (qp mm (hr.mono az) Z (ao (pv 0) (ao (pv 1) ay)))) (aD (iK GL Z (sN Z (B.at "range") (ao aF ay)) (bu 3 nd) (aH (gE (kz p4 (eu λ_ _ _ z=>z) TC.cl (hr.mono az) (pv 2) (ao (dc (ao ck (ao (aW fJ aF (pv 3)) ay))) ay))))) (aH (aZ (pv 2))))),?_⟩;refine⟨_,Z,_,Z,λa dx ha dQ ne=>?_⟩;have s1:aA H (_L.upd (_L.upd H dx (.own a)) a (.ins C dx [])):=(aA.new dQ).trans (aA.new (by rw[aL ne.symm];exact ha));refine⟨a,dx,m,bF,M,pl,Z,bp,RD.mono s1 _ rm,RD.mono s1 _ rp,λq H1 R1 nq bt=>⟨Z,?_⟩⟩;have u1:=Up.mk' ha dQ ne.symm R1 nq bt;refine⟨21,Z,az,az,vZ (Pv:=λi O H2=>i<=20/\∃S v,Up K C H H2 a q M S/\dE M 64 S/\S.ds.length=i/\iP S=pl/\O=[some m,some bF,some (.ref a),v]) ?_ ?_ ?_⟩
  ·exact⟨az,_,none,u1,CM on.len,Z,Z,Z⟩
  ·rintro i O H2 hi ⟨Ms,S,v,u,ok,hl,hg,rfl⟩
   obtain⟨rx,mv,bv,cf,tv,e,_⟩:=u.R.ob;refine⟨_,Z,a,rx,_,Z,e,Z,?_⟩;refine⟨_,Z,_,_,Z,Z,bC Z,λt H3 n3=>?_⟩;have u3:=u.same ok.row.no n3.same;have it:mF M.rs.length (.tuple [.str "wait",.int (1+(0+(i:Int)))]) none:=Qm bK bK;obtain⟨i1,i2,i3⟩:=it.is;have Dq:j9 M.rs (fw (iP S) none)=true:=by rw[hg];exact(Lj on.len).mpr on
   refine⟨a,q,M,64,S,.ref t,_,Z,u3.R,ok,aO,eF (aQ.of n3.at') (bJ (dN _) (bJ (cQ _) bW)),i2,i3,.inr ⟨none,it,λz=>?_,λ_ _ H' s'=>k H' (u3.s.trans s'),λ_ Me H' R' b'=>?_⟩⟩
   ·rw[Dq]at z;cases z
   ·refine⟨bK,_,_,u3.but R' b',ok.Np it Me,?_,?_,Z⟩
    ·show(S.ds++[_]).length=i+1
     rw[fi,hl];rfl
    ·rw[a1R];exact hg
  ·rintro O H2 ⟨Ms,_⟩
   have:(21:Nat)<=20:=Ms;omega
structure wR(M:bQ)(ns:List Int)(sp:Int)(d:ah)(pl:List Int)(n:Nat)(S:bO):Prop where
 os:S.os=[some (ns,sp)]
 ds:S.ds=[d]
 dn:S.dn=n
 pl:S.pl=pl
 bh:S.bh=none
 pc:0<n->0<S.pc
theorem a3O{M:bQ}{ns:List Int}{sp:Int}{D:Nat}{S:bO}(aO:M.Ok)(ok:dE M D S)(eo:S.os[0]? =some (some (ns,sp)))(hs:S.bh=none)(hl:S.dn+1<aJ ns):0<(m3 M S ns sp).pc:=by
 have hn:S.os≠[]:=λe=>by rw[e]at eo;simp at eo
 obtain⟨R1,R2⟩:=CU ok.raw aO hn;obtain⟨df,s1,s2⟩:=ok.row.ok 0 ns sp eo;have tp:0<topR S.rate sp:=Hv s1 ok.dy;have yp:=aO.r1;have wa:=aO.f1;have pn:=ok.pd.nn;have Rn0:=R1.nn;show 0<qy M.r M.f S.pc (topR S.rate sp) (j6 M S) ((aJ ns:Int)-S.dn) S.bh;rw[hs];exact vt (vt (add_pos pn (show 0<2*M.r by lia)) tp) (add_pos Rn0 (show 0<2*M.f*((aJ ns:Int)-S.dn-1)from jB aw aw))
theorem wR.run{M:bQ}{D L:Nat}{ns:List Int}{sp:Int}{d:ah}{pl:List Int}{S S':bO}{es:List ah}(aO:M.Ok)(h4:aJ ns=L)(r:Run M S es S'):∀{n:Nat},dE M D S->wR M ns sp d pl n S->n+es.length<L->wR M ns sp d pl (n+es.length) S':=by induction r with |nil=>exact λ_ h _=>h |@cons S0 S1 S2 e es o r ih=>
 intro n ok h hl;rw[fC]at hl⊢;have eo:S0.os[0]? =some (some (ns,sp)):=by rw[h.os];rfl
 have a1:wR M ns sp d pl (n+1) S1:=by cases o with |@line Dy B5 eA nh=>
  rw[eo]at eA;cases eA;have hd:S0.dn+1<aJ ns:=by rw[h.dn,h4];lia
  have e1:ie ns (m3 M S0 ns sp)=m3 M S0 ns sp:=by
   unfold ie;rw[bf];show¬(S0.dn+1=aJ ns)
   lia
  rw[e1];refine⟨h.os,h.ds,by show S0.dn+1=n+1;rw[h.dn],h.pl,?_,λ_=>a3O aO ok eo h.bh hd⟩;show yI S0.bh=none;rw[h.bh];rfl |oF eA _ _=>rw[eo]at eA;cases eA
 have:=ih (o.ok ok aO) a1 aw;rw[show n+1+es.length=n+(es.length+1) by lia]at this;exact this
theorem OL:∀pt:List Int,jx pt (List.replicate pt.length 0)=pt |[]=>rfl |x::pt=>by have ih:=OL pt;show(x+0)::jx pt (List.replicate pt.length 0)=x::pt;rw[ih,Int.add_zero]
theorem V8{r0 x y:Int}{rs pt:List Int}(h:jV (r0::rs) (x::pt))(h0:0<=y)(h1:y<=r0):jV (r0::rs) (y::pt):=by refine⟨h.len,λi a r e1 e2=>?_⟩;cases i with |zero=>cases e1;cases e2;exact⟨h0,h1⟩ |succ i=>exact h.at' (i+1) a r e1 e2
def jK(n:Nat):List Int:=2::List.replicate (n-1) 0
theorem WY{n:Nat}(h:n=2\/n=3):aJ (jK n)=2/\eY n 100 (jK n):=by
 rcases h with rfl|rfl
 ·exact⟨az,⟨Z,az,⟨2,.head _,az⟩⟩⟩
 ·exact⟨az,⟨Z,az,⟨2,.head _,az⟩⟩⟩
inductive a6o(K:aa)(cM:Addr)(vs:List V)(H:Hp)(E:XK):Prop |mk (m:_)(bF:_)(b:_)(M:_)(pl:_)(h0:vs=[m,bF,.bl b])(h1:RD K H m (bQ.D M))(h2:M.Ok)(h3:RD K H bF (eh pl))(h4:jV M.rs pl)(h5:∀H',aA H H'->E (.ref cM) none H')
def IA(K:aa)(cM:Addr):Sp:=λvs H Q E=>a6o K cM vs H E
abbrev BQ:Stmt:=top 133
theorem JH:bj ["_law_machine_here","_law_place_here","_law_second","_law_here","_law_there","_law_runner"] ["_law_machine_here","_law_place_here","_law_second"] (aP BQ):=bw aM
theorem VY{C:Addr}{R:qX}(F:FA K mg "_law_moving" BQ)(B:bE mg)(TC:gm K C)(mm:r9 P w K mg au C "Runner" 1 (uH K C))(p4:iC P w K mg au C "feed" 5 (xZ K C R))(a1u:eL P w K mg au C "entries" 12 (Ir K C))(EI:iC P w K mg au C "turn_rate" 5 (AR K C R.r R.m))(a1v:iC P w K mg au C "drop" 5 (Iu K C R.m)):fR P w K mg au "_law_moving" 13 (IA K R.m):=by
 refine F.gW JH (λvs H Q E h=>?_) (λ_ _ _ _ _ _=>iR λ_ _ _=>rfl) (λf aE A outer s H vs Q E hr h=>?_)
 ·obtain⟨m,bF,b,M,pl,rfl,_⟩:=h
  rfl
 ·obtain⟨m,bF,b,M,pl,rfl,rm,aO,rp,on,k⟩:=h
  have nd:=JH.nd;have gX:sizeLine=16777216:=by decide
  obtain⟨ma,mb,rfl,jr,me⟩:=qD rm;obtain⟨pa,rfl,oU⟩:=yu rp;obtain⟨rs,r,f',j,t⟩:=M;have jL:rs.length=2\/rs.length=3:=aO.len;obtain⟨r0,rt,rfl⟩:∃r0 rt,rs=r0::rt:=by cases rs with |nil=>rcases jL with e|e<;>simp at e |cons x xs=>exact⟨x,xs,Z⟩
  have lp:pl.length=(r0::rt).length:=on.len;obtain⟨x,pt,rfl⟩:∃x pt,pl=x::pt:=by cases pl with |nil=>simp at lp |cons x xs=>exact⟨x,xs,Z⟩
  have n12:rt.length=1\/rt.length=2:=by rw[fC]at jL;omega
  have Yn:=lp;rw[fC,fC]at Yn;have Yk:pt.length=(r0::rt).length-1:=by rw[fC]at lp⊢;omega
  refine⟨_,(aD (pS 3 nd (aW (pF K Z) (dc (ao aF ay)) (qo (B6 K Z) (pv 1) (qi aF) qj))) (aD (pS 4 nd (aW (pF K Z) (dc (ao aF ay)) (aW (Le K Z) (dc (ao aF ay)) (aW j8 (fo K B (ao (pv 1) ay)) aF)))) (aD (pS 5 nd (qp mm (hr.mono az) Z (ao (aW (pF K Z) (dc (ao (aW (pF K Z) (dc (ao aF ay)) (qo (B6 K Z) (px K (pv 0) aF) (qi aF) qj)) ay)) (qo (B6 K Z) (pv 0) (qi aF) qj)) (ao (pv 3) ay)))) (aD (gE (kz p4 (eu λ_ _ _ z=>z) TC.cl (hr.mono az) (pv 5) (ao (dc (ao ck (ao (pv 4) (ao aF ay)))) ay))) (aD (gE (yy a1u TC.cl (hr.mono az) (pv 5) (ao aF ay))) (aH (aZ (fW (bS (pv 2)) (kz EI (eu λ_ _ _ z=>z) TC.cl (hr.mono az) (pv 5) (ao aF ay)) (Uz a1v (eu λ_ _ _ z=>z) TC.cl (hr.mono az) (pv 5)))))))))),?_⟩;refine⟨bC Z,λc1 H1 n1=>?_⟩;refine⟨_,Z,_,Z,pa,_,Z,oU.go n1.same,λc2 H2 s2 a2=>?_⟩;rw[zO,<-List.map_drop]at a2;refine⟨c1,c2,_,_,Z,Z,aQ.of (s2 _ _ n1.at'),a2,by rw[bR,xo,fC];show 1+_<=_;omega,λhv H3 s3 a3=>?_⟩;have t3:=n1.same.trans (s2.trans s3);refine⟨bC Z,λc3 H4 n4=>?_⟩;refine⟨bC Z,λc4 H5 n5=>?_⟩;have t5:=t3.trans (n4.same.trans n5.same);refine⟨_,Z,pa,_,Z,.inr (oU.go t5),_,_,Z,Z,?_⟩;refine⟨c4,_,_,Z,Z,aQ.of n5.at',by simp,by rw[bR,lp];omega,by rw[bR,lp];omega,az,λc5 H6 s6 a6=>?_⟩;have ez:(List.replicate (((List.map V.int (x::pt)).length:Int)-1).toNat [V.int 0]).flatten=(List.replicate ((r0::rt).length-1) (0:Int)).map V.int:=by rw[Az,bR,lp];congr 2;omega
  rw[ez]at a6;refine⟨c3,c5,_,_,Z,Z,aQ.of (s6 _ _ (n5.same _ _ n4.at')),a6,by rw[bR,An];show 1+_<=_;omega,λtv H7 s7 a7=>?_⟩;have t7:=t5.trans (s6.trans s7);refine⟨bC Z,λc6 H8 n8=>?_⟩;have t8:=t7.trans n8.same;refine⟨_,Z,.inr ⟨ma,_,0,.ref mb,Z,Z,jr.go t8,eK (gO 0) Z,_,Z,mb,_,Z,me.go t8,λc7 H9 s9 a9=>?_⟩⟩;rw[zO,<-List.map_drop]at a9;refine⟨c6,c7,_,_,Z,Z,aQ.of (s9 _ _ n8.at'),a9,by rw[bR,xo];show 1+((r0::rt).length-1)<=_;omega,λc8 ji iJ a10=>?_⟩;refine⟨bC Z,λc9 iE jM=>?_⟩;have HM:=t8.trans (s9.trans (iJ.trans jM.same));refine⟨_,Z,_,Z,ma,_,Z,jr.go HM,λc10 P6 gD a12=>?_⟩;rw[zO]at a12;refine⟨c9,c10,_,_,Z,Z,aQ.of (gD _ _ jM.at'),a12,by show 1+4<=_;omega,λmv o8 fE a13=>?_⟩;have CB:=jM.same.trans (gD.trans fE);have HL:=HM.trans (gD.trans fE);have Vd:lF (2::rt) r f' j t:=⟨aO.len,λz hz=>by
   rcases bZ.mp hz with rfl|hz
   ·exact⟨az,az⟩
   ·exact aO.rl z (.tail _ hz),aO.r1,aO.f1,aO.j1,aO.t1⟩;have rM:RD K o8 (.ref mv) (bQ.D ⟨2::rt,r,f',j,t⟩):=eF a13 (bJ (eF (a10.go CB) (oz (2::rt))) (bJ (cQ _) (bJ (cQ _) (bJ (cQ _) (bJ (cQ _) bW)))));have SG:aA H3 o8:=n4.same.trans (n5.same.trans (s6.trans (s7.trans (n8.same.trans (s9.trans (iJ.trans CB))))));have rh:RD K o8 (.ref hv) (eh (0::pt)):=eF (a3.go SG) (oz (0::pt));have SR:RD K o8 (.ref tv) (.tuple ((jK (r0::rt).length).map PyData.int)):=eF (a7.go (n8.same.trans (s9.trans (iJ.trans CB)))) (oz (jK (r0::rt).length));have V9:jV (2::rt) (0::pt):=by
   refine⟨lp,λi a' r' e1 e2=>?_⟩;cases i with |zero=>cases e1;cases e2;exact⟨az,az⟩ |succ i=>exact on.at' (i+1) a' r' e1 e2
  generalize hM:(⟨2::rt,r,f',j,t⟩:bQ)=M2 at rM;have oG:M2.Ok:=by rw[<-hM];exact Vd
  have eR:M2.rs=2::rt:=by rw[<-hM]
  have lM:M2.rs.length=(r0::rt).length:=by rw[eR];rfl
  refine⟨_,Z,λa dx ha dQ ne=>?_⟩;have fj:aA o8 (_L.upd (_L.upd o8 dx (.own a)) a (.ins C dx [])):=(aA.new dQ).trans (aA.new (by rw[aL ne.symm];exact ha));refine⟨a,dx,_,_,M2,0::pt,Z,bp,RD.mono fj _ rM,RD.mono fj _ rh,λq A8 R14 nq bt=>⟨Z,?_⟩⟩;have u1:=Up.mk' ha dQ ne.symm R14 nq bt;have gR:dE M2 64 (mV (0::pt)):=CM (by rw[lM];exact lp);obtain⟨rx,LL,bv,cf,pU,e,_⟩:=u1.R.ob;refine⟨_,Z,a,rx,_,Z,e,Z,?_⟩;refine⟨_,Z,bC Z,λlv H15 DJ=>?_⟩;have u2:=u1.same gR.row.no DJ.same;obtain⟨YI,Ve⟩:=WY jL;have it:mF M2.rs.length (gF (jK (r0::rt).length) 20) (some (jK (r0::rt).length,20)):=⟨.inl ⟨_,_,Z,Z⟩,λns sp e=>by cases e;rw[lM];exact⟨Ve,az,az⟩,λe=>nomatch e⟩;obtain⟨i1,i2,i3⟩:=it.is;have a3X:fw (iP (mV (0::pt))) (some (jK (r0::rt).length,20))=2::pt:=by show((0:Int)+2)::jx pt (List.replicate ((r0::rt).length-1) 0)=2::pt;rw[<-Yk,OL];rfl
  have Dq:j9 M2.rs (fw (iP (mV (0::pt))) (some (jK (r0::rt).length,20)))=true:=by rw[a3X,eR];exact(Lj (show(2::pt).length=(2::rt).length from lp)).mpr (V8 V9 az az)
  refine⟨a,q,M2,64,_,.ref lv,_,Z,u2.R,gR,oG,eF (aQ.of DJ.at') (bJ (dN _) (bJ (RD.mono (u1.s.trans DJ.same) _ SR) (bJ (cQ _) bW))),i2,i3,.inr ⟨_,it,λz=>?_,λ_ z=>?_,λ_ _ H16 R16 b16=>?_⟩⟩
  ·rw[Dq]at z;cases z
  ·cases z
  have u3:=u2.but R16 b16;have Dv:=gR.Np it (show 0<20 by decide);obtain⟨rx,LL,bv,cf,pU,e,_⟩:=u3.R.ob;refine⟨_,Z,a,rx,_,Z,e,Z,a,q,M2,64,_,1,Z,u3.R,Dv,oG,az,az,λl ys es S' q' H17 nl dl rd run he nN R17 Xv lq=>?_⟩;have am0:wR M2 (jK (r0::rt).length) 20 (gF (jK (r0::rt).length) 20) (0::pt) 0 (zE (mV (0::pt)) (gF (jK (r0::rt).length) 20) (some (jK (r0::rt).length,20))):=⟨Z,Z,Z,Z,Z,λh=>absurd h az⟩;have am:=am0.run oG YI run Dv bK;have he1:es.length=1:=by
   rcases nN with e|e|e
   ·omega
   ·rw[am.os]at e;cases e
   ·exact absurd am.bh e.1
  have UL:0<S'.pc:=am.pc bK;have u4:=u3.mv R17 Xv;have Lp:=run.ok Dv oG;obtain⟨rx,LL,bv,cf,pU,e,_⟩:=u4.R.ob;refine⟨_,Z,b,Z,?_⟩;cases b with
  |true=>
   refine ba ⟨_,Z,a,rx,_,Z,e,Z,a,q',M2,64,S',.int 150,.int 150,Z,u4.R,Lp,oG,cQ _,λz=>?_,λ_ _ H' s'=>k H' (HL.trans (u4.s.trans s')),λrate e1 _ _ z=>?_⟩
   ·cases z
   ·exact absurd z (Rat.ne_of_gt UL) |false=>exact aU ⟨_,Z,a,rx,_,Z,e,Z,a,q',M2,64,S',Z,u4.R,Lp,oG,λ_ H' s'=>k H' (HL.trans (u4.s.trans s')),λz=>absurd am.bh z.1⟩
end
end _a
set_option maxHeartbeats 1000000
namespace _a
open PySem PySem.Spec PyProof.Rows _L _r _l _C _P _W _R
section
variable {P:af}{w:World}{K:aa}{mg:bc}{au:Heap}
structure CC where
 g:Addr
 c0:Addr
 c1:Addr
 c2:Addr
 c3:Addr
 c4:Addr
 c5:Addr
 c6:Addr
 c7:Addr
 c8:Addr
 c9:Addr
 c10:Addr
def CC.l(X:CC):List Addr:=[X.c0,X.c1,X.c2,X.c3,X.c4,X.c5,X.c6,X.c7,X.c8,X.c9,X.c10]
structure Gy(mg:bc)(X:CC):Prop where
 h0:GV mg "NoFraction" (.ref X.c0)
 h1:GV mg "NoRate" (.ref X.c1)
 h2:GV mg "NoItem" (.ref X.c2)
 h3:GV mg "OffRails" (.ref X.c3)
 h4:GV mg "Full" (.ref X.c4)
 h5:GV mg "Moving" (.ref X.c5)
 h6:GV mg "NoTape" (.ref X.c6)
 h7:GV mg "NoText" (.ref X.c7)
 h8:GV mg "NoMachine" (.ref X.c8)
 h9:GV mg "NoPlace" (.ref X.c9)
 h10:GV mg "NoLine" (.ref X.c10)
 v:mg "ValueError"=none
def wD(o:Option (Option Value))(z:String):Bool:=match o with |some (some (.builtin y))=>y==z |_=>false
def Dz(o:Option (Option Value)):Bool:=match o with |some none=>true |_=>false
theorem G2{o:Option (Option Value)}{z:String}(h:wD o z=true):o=some (some (.builtin z)):=by
 unfold wD at h;split at h
 ·rw[cP]at h;rw[h]
 ·cases h
theorem X6{o:Option (Option Value)}(h:Dz o=true):o=some none:=by
 unfold Dz at h;split at h
 ·rfl
 ·cases h
def Fv(K:aa)(C:Addr):Bool:=wD (PySem.W.findIn K (.ref C) "__getattribute__") "BaseException.__getattribute__"&&Dz (PySem.W.findIn K (.ref C) "__getattr__")&&wD (PySem.W.findIn K (.ref C) "__class__") "object.__class__"&&wD (PySem.W.specialIn K (.builtin "object.__class__") "__get__") "getset_descriptor.__get__"&&(PySem.W.takesIn K (.builtin "object.__class__")==some true)&&(PySem.W.mroIn K C (.type "object")==some true)&&(PySem.W.mroIn K C (.type "BaseException")==some true)&&PySem.W.hasDictIn K C
theorem a3E{C:Addr}(h:Fv K C=true):mG K C:=by unfold Fv at h;simp only[d6,cP]at h;obtain⟨⟨⟨⟨⟨⟨⟨a,b⟩,c⟩,d⟩,e⟩,f⟩,g⟩,i⟩:=h;exact⟨G2 a,X6 b,G2 c,G2 d,e,f,g,i⟩
def vz(K:aa)(g:Addr)(cs:List Addr):Bool:=cs.zipIdx.all λp=>Fv K p.1&&(PySem.W.mroIn K p.1 (.ref g)==some true)&&(PySem.W.kitOne K (.ref p.1) (.type "ValueError")==some true)&&cs.zipIdx.all λq=>PySem.W.kitOne K (.ref p.1) (.ref q.1)==some (p.2==q.2)
theorem tj{g:Addr}{cs:List Addr}(h:vz K g cs=true){i:Nat}{c:Addr}(e:cs[i]? =some c):mG K c/\takes K c g/\PySem.W.kitOne K (.ref c) (.type "ValueError")=some true/\∀(j:Nat) c',cs[j]? =some c'->PySem.W.kitOne K (.ref c) (.ref c')=some (i==j):=by have h1:=fG.mp h (c,i) (a7O.mpr e);simp only[d6,cP]at h1;obtain⟨⟨⟨a,b⟩,v⟩,d⟩:=h1;refine⟨a3E a,b,v,λj c' e'=>?_⟩;have:=fG.mp d (c',j) (a7O.mpr e');rw[cP]at this;exact this
inductive a6O(X:CC)(ex:Addr)(vs:List V)(H:Hp)(Q:VK):Prop |mk (C:Addr)(dx:Option Addr)(i:Nat)(h0:vs=[.ref ex])(h1:H ex=some (.ext (jW ex (.ref C) dx)))(h2:X.l[i]? =some C)(h3:∀l H',aA H H'->H' l=some (.lst [.int i])->Q (.ref l) H')
def IQ(K:aa)(X:CC)(ex:Addr):Sp:=λvs H Q _=>a6O X ex vs H Q
theorem a2A:∀i:Nat,i<11->(List.range 11).filter (λk=>i==k)=[i]:=by decide
abbrev Ck:Stmt:=top 129
theorem K9:bj ["_law_e","_law_some"] ["_law_e"] (aP Ck):=bw aM
theorem Ww{X:CC}(F:FA K mg "_law_classes" Ck)(B:bE mg)(N:Gy mg X)(hK:vz K X.g X.l=true):A9 P w K mg au "_law_classes" 1 (IQ K X):=by
 refine F.a0L K9 (λex vs H Q E h=>?_) (λ_ _ _ _ _ _=>fz λ_=>rfl) (λex f aE A outer s H vs Q hr h=>?_)
 ·obtain⟨C,dx,i,rfl,_⟩:=h
  rfl
 ·obtain⟨C,dx,i,rfl,e1,hi,k⟩:=h
  have nd:=K9.nd;have a17:=N.h0;have a0X:=N.h1;have a16:=N.h2;have a0U:=N.h3;have a1l:=N.h4;have a18:=N.h5;have a0W:=N.h6;have a0V:=N.h7;have a0Z:=N.h8;have a0Y:=N.h9;have a15:=N.h10;have gX:sizeLine=16777216:=by decide
  obtain⟨kx,_,_,kj⟩:=tj hK hi;have i11:i<11:=(eU.mp hi).1;refine⟨_,(aD (pS 1 nd (dF (ao (dG (x:="isinstance") (jO K Z) Z (B.at "isinstance") jZ (ao (pv 0) (ao (cy (x:="NoFraction") rfl a17) ay))) (ao (dG (x:="isinstance") (jO K rfl) rfl (B.at "isinstance") jZ (ao (pv 0) (ao (cy (x:="NoRate") rfl a0X) ay))) (ao (dG (x:="isinstance") (jO K rfl) rfl (B.at "isinstance") jZ (ao (pv 0) (ao (cy (x:="NoItem") rfl a16) ay))) (ao (dG (x:="isinstance") (jO K rfl) rfl (B.at "isinstance") jZ (ao (pv 0) (ao (cy (x:="OffRails") rfl a0U) ay))) ay)))))) (aD (pS 1 nd (aW (qT K Z) (pv 1) (dF (ao (dG (x:="isinstance") (jO K Z) Z (B.at "isinstance") jZ (ao (pv 0) (ao (cy (x:="Full") rfl a1l) ay))) (ao (dG (x:="isinstance") (jO K rfl) rfl (B.at "isinstance") jZ (ao (pv 0) (ao (cy (x:="Moving") rfl a18) ay))) (ao (dG (x:="isinstance") (jO K rfl) rfl (B.at "isinstance") jZ (ao (pv 0) (ao (cy (x:="NoTape") rfl a0W) ay))) (ao (dG (x:="isinstance") (jO K rfl) rfl (B.at "isinstance") jZ (ao (pv 0) (ao (cy (x:="NoText") rfl a0V) ay))) ay))))))) (aD (pS 1 nd (aW (qT K Z) (pv 1) (dF (ao (dG (x:="isinstance") (jO K Z) Z (B.at "isinstance") jZ (ao (pv 0) (ao (cy (x:="NoMachine") rfl a0Z) ay))) (ao (dG (x:="isinstance") (jO K rfl) rfl (B.at "isinstance") jZ (ao (pv 0) (ao (cy (x:="NoPlace") rfl a0Y) ay))) (ao (dG (x:="isinstance") (jO K rfl) rfl (B.at "isinstance") jZ (ao (pv 0) (ao (cy (x:="NoLine") rfl a15) ay))) ay)))))) (aH (aZ (UE (N:=["_law_k","_law_some"]) (js:=[none,some 1]) hr.hd Z Z (Ut ex Z (B.at "range") (ao aF ay)) (λ_ _ _ _ _=>(bu 0 (fX az))) (λ_ _ _ _ _=>(Ub (bS (px K (pv 1) (pv 0))))) (λ_ _ _ _ _=>(pv 0)))))))),?_⟩;refine⟨_,Z,.inl ⟨ex,C,dx,.ref X.c0,.ref X.c0,_,Z,e1,kx,Z,kj 0 _ Z,?_⟩⟩;refine⟨_,Z,.inl ⟨ex,C,dx,.ref X.c1,.ref X.c1,_,Z,e1,kx,Z,kj 1 _ Z,?_⟩⟩;refine⟨_,Z,.inl ⟨ex,C,dx,.ref X.c2,.ref X.c2,_,Z,e1,kx,Z,kj 2 _ Z,?_⟩⟩;refine⟨_,Z,.inl ⟨ex,C,dx,.ref X.c3,.ref X.c3,_,Z,e1,kx,Z,kj 3 _ Z,?_⟩⟩;refine⟨bC Z,λl1 H1 n1=>?_⟩;have e2:=n1.same _ _ e1;refine⟨_,Z,?_⟩;refine⟨_,Z,.inl ⟨ex,C,dx,.ref X.c4,.ref X.c4,_,Z,e2,kx,Z,kj 4 _ Z,?_⟩⟩;refine⟨_,Z,.inl ⟨ex,C,dx,.ref X.c5,.ref X.c5,_,Z,e2,kx,Z,kj 5 _ Z,?_⟩⟩;refine⟨_,Z,.inl ⟨ex,C,dx,.ref X.c6,.ref X.c6,_,Z,e2,kx,Z,kj 6 _ Z,?_⟩⟩;refine⟨_,Z,.inl ⟨ex,C,dx,.ref X.c7,.ref X.c7,_,Z,e2,kx,Z,kj 7 _ Z,?_⟩⟩;refine⟨bC Z,λl2 H2 n2=>?_⟩;refine⟨l1,l2,_,_,Z,Z,aK.of (n2.same _ _ n1.at'),aK.of n2.at',by show 8<=_;omega,λl3 H3 n3=>?_⟩;have s3:=n1.same.trans (n2.same.trans n3.same);have e3:=s3 _ _ e1;refine⟨_,Z,?_⟩;refine⟨_,Z,.inl ⟨ex,C,dx,.ref X.c8,.ref X.c8,_,Z,e3,kx,Z,kj 8 _ Z,?_⟩⟩;refine⟨_,Z,.inl ⟨ex,C,dx,.ref X.c9,.ref X.c9,_,Z,e3,kx,Z,kj 9 _ Z,?_⟩⟩;refine⟨_,Z,.inl ⟨ex,C,dx,.ref X.c10,.ref X.c10,_,Z,e3,kx,Z,kj 10 _ Z,?_⟩⟩;refine⟨bC Z,λl4 H4 n4=>?_⟩;refine⟨l3,l4,_,_,Z,Z,aK.of (n4.same _ _ n3.at'),aK.of n4.at',by show 11<=_;omega,λl5 H5 n5=>?_⟩;have hl5:aK K H5 l5 ((List.range 11).map λj=>V.bl (i==j)):=aK.of n5.at';have s5:=s3.trans (n4.same.trans n5.same);refine⟨11,Z,az,az,λD H6 n6=>?_⟩;refine a4p (n:=11) (H:=H5) (λj=>.int (0+(j:Int))) (λj=>i==j) (λj=>0+(j:Int)) _ n6 az (λj H7 hj s7=>⟨hj,λy H8 hy=>hy⟩) (λH7 s7=>⟨bA _,C|>λ_=>⟨_,_,(s5.trans s7) _ _ e1⟩⟩) ?_ ?_ ?_
  ·intro j H7 Q' hj s7 hq
   refine⟨_,Z,_,Z,.inl ⟨l5,_,0+(j:Int),.bl (i==j),Z,Z,hl5.go s7,?_,?_⟩⟩
   ·exact eK bK (by rw[cZ,show(0+(j:Int)).toNat=j by omega,Ha hj];rfl)
   ·exact⟨_,Z,hq H7 (aA.refl _)⟩
  ·intro j H7 Q' hj pj s7 hq
   exact⟨_,Z,hq H7 (aA.refl _)⟩
  ·intro H7 s7 d7
   rw[a2A i i11]at d7;have d7:H7 D=some (.lst [.int (0+(i:Int))]):=d7;rw[Int.zero_add]at d7;exact k D H7 (s5.trans s7) d7
end
end _a
set_option maxHeartbeats 4000000
namespace _a
open PySem PySem.Spec PyProof.Rows _L _r _l _C _P _W _R
open _O (topR cornO mnO betR atO ownF leadF ownL OkI OkIs)
open _T (numIn?)
section
variable {P:af}{w:World}{K:aa}{mg:bc}{au:Heap}
theorem X2{n:Nat}(h:n=2\/n=3):gU n (.tuple [.str "wait",.int 0])=false:=by rcases h with rfl|rfl<;>decide+kernel
theorem Lu:cD 8 (.tuple [.str "wait",.int 0])/\lR (.tuple [.str "wait",.int 0])=true:=⟨(fQ.tup (n:=0) (.cons ⟨aM,fh _⟩ (.cons (.int _) .nil))).le az,Z⟩
inductive a6j(K:aa)(X:CC)(lo:Nat)(hi:Nat)(vs:List V)(H:Hp)(E:XK):Prop |mk (i:Nat)(b:Bool)(m:V)(bF:V)(ov:V)(M:bQ)(pl:List Int)(d:ah)(h0:vs=[.int (i:Nat),.bl b,m,bF,ov])(h1:lo<=i)(h2:i<hi)(h3:RD K H m (bQ.D M))(h4:M.Ok)(h5:RD K H bF (eh pl))(h6:jV M.rs pl)(h7:RD K H ov d)(h8:A3 d)(h9:(i=0->tq d=false))(h10:∀c dx H',X.l[i]? =some c->aA H H'->E (.ref c) dx H')
def y6(K:aa)(X:CC)(lo hi:Nat):Sp:=λvs H Q E=>a6j K X lo hi vs H E
def CC.rf(X:CC)(i:Addr):qX:=⟨X.c2,X.c3,X.c4,X.c5,X.c1,i⟩
abbrev BL:Stmt:=top 134
theorem JC:bj ["_law_which","_law_second","_law_machine_here","_law_place_here","_law_odd","_law_line"] ["_law_which","_law_second","_law_machine_here","_law_place_here","_law_odd"] (aP BL):=bw aM
theorem VS{C fI:Addr}{X:CC}(F:FA K mg "_law_of_machines" BL)(B:bE mg)(TC:gm K C)(kO:fR P w K mg au "fraction" 2 (IH K X.c0))(m6:fR P w K mg au "top_square" 4 (Ic K X.c1))(a0r:fR P w K mg au "ends" 4 (IK K X.c3))(mm:r9 P w K mg au C "Runner" 1 (uH K C))(p4:iC P w K mg au C "feed" 5 (xZ K C (X.rf fI)))(EI:iC P w K mg au C "turn_rate" 5 (AR K C X.c1 X.c5))(a1z:aG P w K mg au "_law_off" 1 (Iz K))(MZ:fR P w K mg au "_law_full" 6 (IG K X.c4))(a1C:fR P w K mg au "_law_moving" 13 (IA K X.c5)):fR P w K mg au "_law_of_machines" 14 (y6 K X 0 6):=by
 refine F.gW JC (λvs H Q E h=>?_) (λ_ _ _ _ _ _=>Gd λ_ _ _ _ _=>rfl) (λf aE A outer s H vs Q E hr h=>?_)
 ·obtain⟨i,b,m,bF,ov,M,pl,d,rfl,_⟩:=h
  rfl
 ·obtain⟨i,b,m,bF,ov,M,pl,d,rfl,_,i6,rm,aO,rp,on,ro,odd,oY,k⟩:=h
  have nd:=JC.nd;have jL:M.rs.length=2\/M.rs.length=3:=aO.len;have vi:dE M 64 (mV pl):=CM on.len;refine⟨_,(aD (bD (bT (dR K Z hr.units) (pv 0) aF (bM _)) (aH (aZ (fW (bS (pv 1)) (kB kO (eu λ_ _ _ z=>z) (hr.mono az) Z (ao aF (ao (pv 4) ay))) (kB kO (eu λ_ _ _ z=>z) (hr.mono az) Z (ao aF (ao aF ay)))))) bG) (aD (bD (bT (dR K Z hr.units) (pv 0) aF (bM _)) (aH (aZ (fW (bS (pv 1)) (kz EI (eu λ_ _ _ z=>z) TC.cl (hr.mono az) (qp mm (hr.mono az) Z (ao (pv 2) (ao (pv 3) ay))) (ao (pv 4) ay)) (kB m6 (eu λ_ _ _ z=>z) (hr.mono az) Z (ao (dc (ao ck (ao (dc (ao aF (ao aF ay))) (ao aF ay)))) (ao aF ay)))))) bG) (aD (bD (bT (dR K Z hr.units) (pv 0) aF (bM _)) (aH (aZ (fW (bS (pv 1)) (kz p4 (eu λ_ _ _ z=>z) TC.cl (hr.mono az) (qp mm (hr.mono az) Z (ao (pv 2) (ao (pv 3) ay))) (ao (pv 4) ay)) (kz p4 (eu λ_ _ _ z=>z) TC.cl (hr.mono az) (qp mm (hr.mono az) Z (ao (pv 2) (ao (pv 3) ay))) (ao (dc (ao ck (ao aF ay))) ay))))) bG) (aD (bD (bT (dR K Z hr.units) (pv 0) aF (bM _)) (aD (pS 5 nd (pf a1z hr (ao (pv 2) (ao (pv 3) ay)))) (aH (aZ (fW (bS (pv 1)) (kz p4 (eu λ_ _ _ z=>z) TC.cl (hr.mono az) (qp mm (hr.mono az) Z (ao (pv 2) (ao (pv 3) ay))) (ao (pv 5) ay)) (kB a0r (eu λ_ _ _ z=>z) (hr.mono az) Z (ao (pv 2) (ao (pv 3) (ao (dc (ao (pv 5) ay)) ay)))))))) bG) (aD (bD (bT (dR K Z hr.units) (pv 0) aF (bM _)) (aH (aZ (fW (bS (pv 1)) (kz p4 (eu λ_ _ _ z=>z) TC.cl (hr.mono az) (kB MZ (eu λ_ _ _ z=>z) (hr.mono az) Z (ao (pv 2) (ao (pv 3) ay))) (ao (dc (ao ck (ao ck ay))) ay)) (kB MZ (eu λ_ _ _ z=>z) (hr.mono az) Z (ao (pv 2) (ao (pv 3) ay)))))) bG) (aH (aZ (kB a1C (eu λ_ _ _ z=>z) (hr.mono az) Z (ao (pv 2) (ao (pv 3) (ao (pv 1) ay))))))))))),?_⟩
  match i,i6 with
  |0,_=>refine⟨_,Z,.inl ⟨_,_,Z,Z,_,Z,ba ?_⟩⟩;refine⟨_,Z,b,Z,?_⟩;cases b with |true=>exact ba ⟨_,Z,1,ov,d,Z,ro,.inl (oY Z),λH' s'=>k _ _ _ Z s'⟩ |false=>exact aU ⟨3,.int 0,.int 0,Z,cQ _,.inr Z,λH' s'=>k _ _ _ Z s'⟩
  |1,_=>refine⟨_,Z,.inl ⟨_,_,Z,Z,_,Z,aU ?_⟩⟩;refine⟨_,Z,.inl ⟨_,_,Z,Z,_,Z,ba ?_⟩⟩;refine⟨_,Z,b,Z,?_⟩;cases b with
   |true=>
    refine ba ⟨_,Z,_,Z,λa dx ha dQ ne=>?_⟩;have s1:aA H (_L.upd (_L.upd H dx (.own a)) a (.ins C dx [])):=(aA.new dQ).trans (aA.new (by rw[aL ne.symm];exact ha));refine⟨a,dx,m,bF,M,pl,Z,bp,RD.mono s1 _ rm,RD.mono s1 _ rp,λq H1 R1 nq bt=>⟨Z,?_⟩⟩;have u:=Up.mk' ha dQ ne.symm R1 nq bt;obtain⟨rx,mv,bv,cf,tv,e,_⟩:=u.R.ob;refine⟨a,rx,_,Z,e,Z,_,Z,a,q,M,64,_,ov,d,Z,u.R,vi,aO,RD.mono u.s _ ro,λ_ H' s'=>k _ _ _ Z (u.s.trans s'),λz=>?_,λrate er h1 h2=>?_⟩
    ·rw[odd.rt]at z;cases z
    ·have h:=odd.rt
     rw[er]at h;have h:(decide (10<=rate)&&decide (rate<=200))=false:=h;rw[cu h1,cu h2]at h;cases h |false=>refine aU ⟨bC Z,λt1 H1 n1=>⟨bC Z,λt2 H2 n2=>?_⟩⟩;exact⟨_,.int 9,.int 9,Z,cQ _,Z,λH' s'=>k _ _ _ Z (n1.same.trans (n2.same.trans s'))⟩
  |2,_=>refine⟨_,Z,.inl ⟨_,_,Z,Z,_,Z,aU ?_⟩⟩;refine⟨_,Z,.inl ⟨_,_,Z,Z,_,Z,aU ?_⟩⟩;refine⟨_,Z,.inl ⟨_,_,Z,Z,_,Z,ba ?_⟩⟩;refine⟨_,Z,b,Z,?_⟩;cases b with |true=>refine ba ⟨_,Z,_,Z,λa dx ha dQ ne=>?_⟩;have s1:aA H (_L.upd (_L.upd H dx (.own a)) a (.ins C dx [])):=(aA.new dQ).trans (aA.new (by rw[aL ne.symm];exact ha));refine⟨a,dx,m,bF,M,pl,Z,bp,RD.mono s1 _ rm,RD.mono s1 _ rp,λq H1 R1 nq bt=>⟨Z,?_⟩⟩;have u:=Up.mk' ha dQ ne.symm R1 nq bt;obtain⟨rx,mv,bv,cf,tv,e,_⟩:=u.R.ob;exact⟨a,rx,_,Z,e,Z,_,Z,a,q,M,64,_,ov,d,Z,u.R,vi,aO,RD.mono u.s _ ro,odd.ok,odd.sh,.inl ⟨odd.it _ jL,λH' s'=>k _ _ _ Z (u.s.trans s')⟩⟩ |false=>refine aU ⟨_,Z,_,Z,λa dx ha dQ ne=>?_⟩;have s1:aA H (_L.upd (_L.upd H dx (.own a)) a (.ins C dx [])):=(aA.new dQ).trans (aA.new (by rw[aL ne.symm];exact ha));refine⟨a,dx,m,bF,M,pl,Z,bp,RD.mono s1 _ rm,RD.mono s1 _ rp,λq H1 R1 nq bt=>⟨Z,?_⟩⟩;have u:=Up.mk' ha dQ ne.symm R1 nq bt;obtain⟨rx,mv,bv,cf,tv,e,_⟩:=u.R.ob;refine⟨a,rx,_,Z,e,Z,bC Z,λt1 H2 n2=>?_⟩;have u2:=u.same vi.row.no n2.same;exact⟨a,q,M,64,_,.ref t1,_,Z,u2.R,vi,aO,eF (aQ.of n2.at') (bJ (dN _) (bJ (cQ _) bW)),Lu.1,Lu.2,.inl ⟨X2 jL,λH' s'=>k _ _ _ Z (u2.s.trans s')⟩⟩
  |3,_=>refine⟨_,Z,.inl ⟨_,_,Z,Z,_,Z,aU ?_⟩⟩;refine⟨_,Z,.inl ⟨_,_,Z,Z,_,Z,aU ?_⟩⟩;refine⟨_,Z,.inl ⟨_,_,Z,Z,_,Z,aU ?_⟩⟩;refine⟨_,Z,.inl ⟨_,_,Z,Z,_,Z,ba ?_⟩⟩;refine⟨_,Z,_,Z,m,bF,M,pl,Z,rm,aO,rp,on,λlv ld o H0 rl it off s0=>?_⟩;obtain⟨i1,i2,i3⟩:=it.is;refine⟨_,Z,b,Z,?_⟩;cases b with
   |true=>
    refine ba ⟨_,Z,_,Z,λa dx ha dQ ne=>?_⟩;have s1:aA H0 (_L.upd (_L.upd H0 dx (.own a)) a (.ins C dx [])):=(aA.new dQ).trans (aA.new (by rw[aL ne.symm];exact ha));refine⟨a,dx,m,bF,M,pl,Z,bp,RD.mono (s0.trans s1) _ rm,RD.mono (s0.trans s1) _ rp,λq H1 R1 nq bt=>⟨Z,?_⟩⟩;have u:=Up.mk' ha dQ ne.symm R1 nq bt;obtain⟨rx,mv,bv,cf,tv,e,_⟩:=u.R.ob;refine⟨a,rx,_,Z,e,Z,_,Z,a,q,M,64,_,lv,ld,Z,u.R,vi,aO,RD.mono u.s _ rl,i2,i3,.inr ⟨o,it,λ_ H' pA s' _=>k _ _ _ Z (s0.trans (u.s.trans s')),λz=>?_,λz=>?_⟩⟩
    ·have z:j9 M.rs (fw pl o)=true:=z
     rw[off]at z;cases z
    ·have z:j9 M.rs (fw pl o)=true:=z
     rw[off]at z;cases z |false=>refine aU ⟨_,Z,_,Z,_,Z,bC Z,λt1 H1 n1=>?_⟩;have s1:=s0.trans n1.same;exact⟨m,bF,.ref t1,M,pl,ld,o,Z,RD.mono s1 _ rm,aO,RD.mono s1 _ rp,on.len,eF (aQ.of n1.at') (bJ (RD.mono n1.same _ rl) bW),it,off,λdx H' s'=>k _ _ _ Z (s1.trans s')⟩
  |4,_=>refine⟨_,Z,.inl ⟨_,_,Z,Z,_,Z,aU ?_⟩⟩;refine⟨_,Z,.inl ⟨_,_,Z,Z,_,Z,aU ?_⟩⟩;refine⟨_,Z,.inl ⟨_,_,Z,Z,_,Z,aU ?_⟩⟩;refine⟨_,Z,.inl ⟨_,_,Z,Z,_,Z,aU ?_⟩⟩;refine⟨_,Z,.inl ⟨_,_,Z,Z,_,Z,ba ?_⟩⟩;refine⟨_,Z,b,Z,?_⟩;cases b with |true=>exact ba ⟨_,Z,_,Z,m,bF,M,pl,Z,rm,aO,rp,on,λH' s'=>k _ _ _ Z s'⟩ |false=>exact aU ⟨_,Z,_,Z,m,bF,M,pl,Z,rm,aO,rp,on,λH' s'=>k _ _ _ Z s'⟩
  |5,_=>refine⟨_,Z,.inl ⟨_,_,Z,Z,_,Z,aU ?_⟩⟩;refine⟨_,Z,.inl ⟨_,_,Z,Z,_,Z,aU ?_⟩⟩;refine⟨_,Z,.inl ⟨_,_,Z,Z,_,Z,aU ?_⟩⟩;refine⟨_,Z,.inl ⟨_,_,Z,Z,_,Z,aU ?_⟩⟩;refine⟨_,Z,.inl ⟨_,_,Z,Z,_,Z,aU ?_⟩⟩;exact⟨_,Z,_,Z,_,Z,m,bF,b,M,pl,Z,rm,aO,rp,on,λH' s'=>k _ _ _ Z s'⟩
end
open _T (numIn?)
section
variable {P:af}{w:World}{K:aa}{mg:bc}{au:Heap}
theorem Xc{d:ah}:iq (.tuple [d])=false:=rfl
theorem Xb{rs pl:List Int}(h:pl.length=rs.length):kI rs (.tuple (pl.map PyData.int++[.int 0]))=false:=by
 show((pl.map PyData.int++[PyData.int 0]).length==rs.length&&_)=false;rw[fi,bR,h];have:(rs.length+[PyData.int 0].length==rs.length)=false:=by rw[Af];show rs.length+1≠rs.length;omega
 rw[this,fV]
abbrev BK:Stmt:=top 135
theorem JB:bj ["_law_which","_law_second","_law_machine_here","_law_place_here","_law_odd"] ["_law_which","_law_second","_law_machine_here","_law_place_here","_law_odd"] (aP BK):=bw aM
theorem VR{C D:Addr}{X:CC}(F:FA K mg "_law_of_texts" BK)(B:bE mg)(DC:wQ K D)(MJ:fR P w K mg au "look" 10 (ID K X.c6))(Mz:fR P w K mg au "read_items" 6 (Im K X.c7))(tK:A6 P w K mg au D "Desk" 5 (IM K C D X.c8 X.c9))(N6:iC P w K mg au D "say" 6 (Ij K D X.c10)):fR P w K mg au "_law_of_texts" 14 (y6 K X 6 11):=by
 refine F.gW JB (λvs H Q E h=>?_) (λ_ _ _ _ _ _=>Gd λ_ _ _ _ _=>rfl) (λf aE A outer s H vs Q E hr h=>?_)
 ·obtain⟨i,b,m,bF,ov,M,pl,d,rfl,_⟩:=h
  rfl
 ·obtain⟨i,b,m,bF,ov,M,pl,d,rfl,i6,i11,rm,aO,rp,on,ro,odd,oY,k⟩:=h
  have nd:=JB.nd;have jL:M.rs.length=2\/M.rs.length=3:=aO.len;have Li:kI M.rs (eh pl)=true:=V7 on;refine⟨_,(aD (bD (bT (dR K Z hr.units) (pv 0) aF (bM _)) (aH (aZ (fW (bS (pv 1)) (kB MJ (eu λ_ _ _ z=>z) (hr.mono az) Z (ao (pv 2) (ao (dc (ao (dc (ao ck (ao aF ay))) ay)) (ao aF (ao (pv 4) ay))))) (kB MJ (eu λ_ _ _ z=>z) (hr.mono az) Z (ao (pv 2) (ao (dc ay) (ao aF (ao aF ay)))))))) bG) (aD (bD (bT (dR K Z hr.units) (pv 0) aF (bM _)) (aH (aZ (fW (bS (pv 1)) (kB Mz (eu λ_ _ _ z=>z) (hr.mono az) Z (ao (pv 2) (ao (dF (ao (pv 4) ay)) ay))) (kB Mz (eu λ_ _ _ z=>z) (hr.mono az) Z (ao (pv 2) (ao ck ay)))))) bG) (aD (bD (bT (dR K Z hr.units) (pv 0) aF (bM _)) (aH (aZ (fW (bS (pv 1)) (sP tK (eu λ_ _ _ z=>z) (hr.mono az) Z (ao (pv 4) (ao (pv 3) ay))) (sP tK (eu λ_ _ _ z=>z) (hr.mono az) Z (ao (dc (ao (pv 2) ay)) (ao (pv 3) ay)))))) bG) (aD (bD (bT (dR K Z hr.units) (pv 0) aF (bM _)) (aH (aZ (fW (bS (pv 1)) (sP tK (eu λ_ _ _ z=>z) (hr.mono az) Z (ao (pv 2) (ao (pv 4) ay))) (sP tK (eu λ_ _ _ z=>z) (hr.mono az) Z (ao (pv 2) (ao (aW (pF K Z) (pv 3) (dc (ao aF ay))) ay)))))) bG) (aH (aZ (fW (bS (pv 1)) (kz N6 (eu λ_ _ _ z=>z) DC.cl (hr.mono az) (sP tK (eu λ_ _ _ z=>z) (hr.mono az) Z (ao (pv 2) (ao (pv 3) ay))) (ao (dF (ao (pv 4) ay)) ay)) (kz N6 (eu λ_ _ _ z=>z) DC.cl (hr.mono az) (sP tK (eu λ_ _ _ z=>z) (hr.mono az) Z (ao (pv 2) (ao (pv 3) ay))) (ao ck ay))))))))),?_⟩;obtain⟨i,rfl⟩:∃j,i=j+6:=⟨i-6,bK⟩
  match i,i11 with
  |0,_=>refine⟨_,Z,.inl ⟨_,_,Z,Z,_,Z,ba ?_⟩⟩;refine⟨_,Z,b,Z,?_⟩;cases b with
   |true=>
    refine ba ⟨_,Z,bC Z,λt1 H1 n1=>⟨bC Z,λt2 H2 n2=>⟨_,Z,?_⟩⟩⟩;have s2:=n1.same.trans n2.same;refine⟨m,.ref t2,ov,M,d,Z,RD.mono s2 _ rm,aO,RD.mono s2 _ ro,odd.tp.imp id λhl=>⟨eF (aQ.of n2.at') (bJ (eF (aQ.of (n2.same _ _ n1.at')) (bJ (dN _) (bJ (cQ _) bW))) bW),hl.imp id λe=>⟨.list [.int 0],e,?_,Z,?_⟩⟩,λdx H' s'=>k _ _ _ Z (s2.trans s')⟩
    ·exact(fQ.lst (n:=0) (.cons (.int _) .nil)).le az
    ·rcases jL with e|e<;>(rw[e];rfl) |false=>refine aU ⟨_,Z,fh _,λt1 H1 n1=>?_⟩;exact⟨m,.ref t1,.int 0,M,.int 0,Z,RD.mono n1.same _ rm,aO,cQ _,.inl aM,λdx H' s'=>k _ _ _ Z (n1.same.trans s')⟩
  |1,_=>refine⟨_,Z,.inl ⟨_,_,Z,Z,_,Z,aU ?_⟩⟩;refine⟨_,Z,.inl ⟨_,_,Z,Z,_,Z,ba ?_⟩⟩;refine⟨_,Z,b,Z,?_⟩;cases b with |true=>refine ba ⟨_,Z,_,Z,bC Z,λt1 H1 n1=>?_⟩;exact⟨m,.ref t1,M,Z,RD.mono n1.same _ rm,aO,.inr ⟨.list [d],sE (aK.of n1.at') (bJ (RD.mono n1.same _ ro) bW),(by decide:fD "list" "str"=false)⟩,λdx H' s'=>k _ _ _ rfl (n1.same.trans s')⟩ |false=>exact aU ⟨_,Z,m,.str "wait 0",M,Z,rm,aO,.inl Z,λdx H' s'=>k _ _ _ Z s'⟩
  |2,_=>refine⟨_,Z,.inl ⟨_,_,Z,Z,_,Z,aU ?_⟩⟩;refine⟨_,Z,.inl ⟨_,_,Z,Z,_,Z,aU ?_⟩⟩;refine⟨_,Z,.inl ⟨_,_,Z,Z,_,Z,ba ?_⟩⟩;refine⟨_,Z,b,Z,?_⟩;cases b with |true=>refine ba ⟨_,Z,_,Z,λx dx hx dQ ne=>?_⟩;have s1:aA H (_L.upd (_L.upd H dx (.own x)) x (.ins D dx [])):=(aA.new dQ).trans (aA.new (by rw[aL ne.symm];exact hx));exact⟨x,dx,ov,bF,Z,bp,.inl ⟨d,RD.mono s1 _ ro,odd.mc,λH' s'=>k _ _ _ Z (s1.trans s')⟩⟩ |false=>refine aU ⟨_,Z,bC Z,λt1 H1 n1=>⟨_,Z,λx dx hx dQ ne=>?_⟩⟩;have s1:aA H1 (_L.upd (_L.upd H1 dx (.own x)) x (.ins D dx [])):=(aA.new dQ).trans (aA.new (by rw[aL ne.symm];exact hx));exact⟨x,dx,.ref t1,bF,Z,bp,.inl ⟨_,eF (aQ.of (s1 _ _ n1.at')) (bJ (RD.mono (n1.same.trans s1) _ rm) bW),Xc,λH' s'=>k _ _ _ Z (n1.same.trans (s1.trans s'))⟩⟩
  |3,_=>refine⟨_,Z,.inl ⟨_,_,Z,Z,_,Z,aU ?_⟩⟩;refine⟨_,Z,.inl ⟨_,_,Z,Z,_,Z,aU ?_⟩⟩;refine⟨_,Z,.inl ⟨_,_,Z,Z,_,Z,aU ?_⟩⟩;refine⟨_,Z,.inl ⟨_,_,Z,Z,_,Z,ba ?_⟩⟩;refine⟨_,Z,b,Z,?_⟩;cases b with |true=>refine ba ⟨_,Z,_,Z,λx dx hx dQ ne=>?_⟩;have s1:aA H (_L.upd (_L.upd H dx (.own x)) x (.ins D dx [])):=(aA.new dQ).trans (aA.new (by rw[aL ne.symm];exact hx));exact⟨x,dx,m,ov,Z,bp,.inr ⟨M,d,RD.mono s1 _ rm,aO,RD.mono s1 _ ro,λ_ H' s'=>k _ _ _ Z (s1.trans s'),λz=>by rw[odd.pl _ jL]at z;cases z⟩⟩ |false=>
   obtain⟨pa,rfl,oU⟩:=yu rp;refine aU ⟨_,Z,_,Z,bC Z,λt1 H1 n1=>⟨pa,t1,_,_,Z,Z,oU.go n1.same,aQ.of n1.at',?_,λt2 H2 s2 a2=>?_⟩⟩
   ·have gX:sizeLine=16777216:=by decide
    have:=on.len;rw[bR];show _+1<=_;omega
   refine λx dx hx dQ ne=>?_;have s1:aA H2 (_L.upd (_L.upd H2 dx (.own x)) x (.ins D dx [])):=(aA.new dQ).trans (aA.new (by rw[aL ne.symm];exact hx));have s3:=n1.same.trans (s2.trans s1);refine⟨x,dx,m,.ref t2,Z,bp,.inr ⟨M,.tuple (pl.map PyData.int++[.int 0]),RD.mono s3 _ rm,aO,eF (a2.go s1) ((oz pl).append (bJ (cQ _) bW)),λ_ H' s'=>k _ _ _ Z (s3.trans s'),λz=>by rw[Xb on.len]at z;cases z⟩⟩
  |4,_=>refine⟨_,Z,.inl ⟨_,_,Z,Z,_,Z,aU ?_⟩⟩;refine⟨_,Z,.inl ⟨_,_,Z,Z,_,Z,aU ?_⟩⟩;refine⟨_,Z,.inl ⟨_,_,Z,Z,_,Z,aU ?_⟩⟩;refine⟨_,Z,.inl ⟨_,_,Z,Z,_,Z,aU ?_⟩⟩;refine⟨_,Z,b,Z,?_⟩;cases b with |true=>
   refine ba ⟨_,Z,_,Z,λx dx hx dQ ne=>?_⟩;have s1:aA H (_L.upd (_L.upd H dx (.own x)) x (.ins D dx [])):=(aA.new dQ).trans (aA.new (by rw[aL ne.symm];exact hx));refine⟨x,dx,m,bF,Z,bp,.inr ⟨M,_,RD.mono s1 _ rm,aO,RD.mono s1 _ rp,λz=>(by rw[Li]at z;cases z),λ_=>⟨pl,rfl,λr H1 ea bt=>⟨rfl,?_⟩⟩⟩⟩;have s2:aA H H1:=λb o e=>bt b o (s1 _ _ e) λz=>by rw[eg.mp z,hx]at e;cases e
   refine⟨x,dx,_,Z,ea,Z,_,Z,bC Z,λt1 H2 n2=>?_⟩;exact⟨x,dx,m,r,.ref t1,Z,n2.same _ _ ea,.inr ⟨.list [d],sE (aK.of n2.at') (bJ (RD.mono (s2.trans n2.same) _ ro) bW),(by decide:fD "list" "str"=false)⟩,λH' s'=>k _ _ _ rfl (s2.trans (n2.same.trans s'))⟩ |false=>
   refine aU ⟨_,Z,_,Z,λx dx hx dQ ne=>?_⟩;have s1:aA H (_L.upd (_L.upd H dx (.own x)) x (.ins D dx [])):=(aA.new dQ).trans (aA.new (by rw[aL ne.symm];exact hx));refine⟨x,dx,m,bF,Z,bp,.inr ⟨M,_,RD.mono s1 _ rm,aO,RD.mono s1 _ rp,λz=>(by rw[Li]at z;cases z),λ_=>⟨pl,rfl,λr H1 ea bt=>⟨rfl,?_⟩⟩⟩⟩;have s2:aA H H1:=λb o e=>bt b o (s1 _ _ e) λz=>by rw[eg.mp z,hx]at e;cases e
   exact⟨x,dx,_,Z,ea,Z,x,dx,m,r,.str "steps",Z,ea,.inl Z,λH' s'=>k _ _ _ Z (s2.trans s')⟩
end
open _T (numIn?)
section
variable {P:af}{w:World}{K:aa}{mg:bc}{au:Heap}
inductive a5Z(K:aa)(vs:List V)(H:Hp)(Q:VK):Prop |mk (i:Nat)(b:Bool)(m:V)(bF:V)(ov:V)(M:bQ)(pl:List Int)(d:ah)(h0:vs=[.int (i:Nat),.bl b,m,bF,ov])(h1:i<11)(h2:RD K H m (bQ.D M))(h3:M.Ok)(h4:RD K H bF (eh pl))(h5:jV M.rs pl)(h6:RD K H ov d)(h7:A3 d)(h8:(i=0->tq d=false))(h9:∀H',aA H H'->Q (.bl true) H')
def Il(K:aa):Sp:=λvs H Q _=>a5Z K vs H Q
abbrev Bo:Stmt:=top 136
theorem Jm:bj ["_law_which","_law_second","_law_machine_here","_law_place_here","_law_odd","_law_e"] ["_law_which","_law_second","_law_machine_here","_law_place_here","_law_odd"] (aP Bo):=bw aM
theorem VE{X:CC}(F:FA K mg "_law_refused" Bo)(B:bE mg)(hy:Exc K mg "GlideError" X.g cW dg)(N:Gy mg X)(hC:∀c∈X.l,ClsAt K c)(hK:vz K X.g X.l=true)(a1B:fR P w K mg au "_law_of_machines" 14 (y6 K X 0 6))(a1A:fR P w K mg au "_law_of_texts" 14 (y6 K X 6 11))(a1F:A9 P w K mg au "_law_classes" 1 (IQ K X)):aG P w K mg au "_law_refused" 15 (Il K):=by
 refine F.a0M Jm (λvs H Q E h=>?_) (λ_ _ _ _ _ _=>Gd λ_ _ _ _ _=>rfl) (λf aE A outer s H vs Q E hr h=>?_)
 ·obtain⟨i,b,m,bF,ov,M,pl,d,rfl,_⟩:=h
  rfl
 ·obtain⟨i,b,m,bF,ov,M,pl,d,rfl,i11,rm,aO,rp,on,ro,odd,oY,k⟩:=h
  have nd:=Jm.nd;have a0S:=N.v;have EF:(cW).contains (.type "BaseException")=true:=by decide
  have EY:∀C',C'∈X.l->ClsAt K C'/\takes K C' X.g:=λC' e=>by obtain⟨j,ej⟩:=xk.mp e;exact⟨hC _ e,(tj hK ej).2.1⟩
  refine⟨_,(wJ.a4n (Uh (i:=5) Z Z nd Z Z Z (λE xe hp=>(aH (bD (bT ng (pv 0) aF (bM _)) (aH (gE (L5 a1B hp (hr.mono az) Z (ao (pv 0) (ao (pv 1) (ao (pv 2) (ao (pv 3) (ao (pv 4) ay)))))))) (aH (gE (L5 a1A hp (hr.mono az) Z (ao (pv 0) (ao (pv 1) (ao (pv 2) (ao (pv 3) (ao (pv 4) ay))))))))))) Z hy EF EY (λex=>(aH (aZ (qq (dG (x:="isinstance") (jO K Z) Z (B.at "isinstance") jZ (ao (pv 5) (ao (jJ (x:="ValueError") (v:=.ty "ValueError") rfl a0S a4O rfl) ay))) (sO (jH (dR K rfl hr.units) (UC a1F ((hr.XW ex).mono az) rfl (ao (pv 5) ay)) (dF (ao (pv 0) ay)) (bM _)))))))) (aH (aZ ib))),?_⟩;refine⟨λσ' cls _ H'=>σ'=[some (.int (i:Nat)),some (.bl b),some m,some bF,some ov,none]/\aA H H'/\∃c,cls= .ref c/\X.l[i]? =some c,?_,λσ' cls dx H' h=>?_,?_⟩
  ·refine⟨_,Z,_,_,Z,Z,_,Z,?_⟩
   by_cases h6:i<6
   ·rw[cu (show((i:Nat):Int)<6 by omega)]
    exact ba ⟨_,Z,_,Z,_,Z,_,Z,_,Z,i,b,m,bF,ov,M,pl,d,Z,fh _,h6,rm,aO,rp,on,ro,odd,oY,λc dx H' e s'=>⟨Z,s',c,Z,e⟩⟩
   ·rw[cX (show¬((i:Nat):Int)<6 by omega)]
    exact aU ⟨_,Z,_,Z,_,Z,_,Z,_,Z,i,b,m,bF,ov,M,pl,d,Z,bK,i11,rm,aO,rp,on,ro,odd,oY,λc dx H' e s'=>⟨Z,s',c,Z,e⟩⟩
  ·obtain⟨_,_,c,e,ec⟩:=h
   exact⟨c,e,hJ ec⟩
  ·rintro C' ex dx σ' H' hl ⟨rfl,sm,c,eC,ec⟩ hex
   cases eC;have e1:(_L.upd H' ex (.ext (jW ex (.ref C') dx))) ex=some (.ext (jW ex (.ref C') dx)):=bp;have sn:=sm.trans (aA.new (o:=.ext (jW ex (.ref C') dx)) hex);obtain⟨kx,_,kv,_⟩:=tj hK ec;refine⟨_,Z,.inl ⟨ex,C',dx,.ty "ValueError",.type "ValueError",true,Z,e1,kx,Z,kv,?_⟩⟩;refine⟨_,Z,ba ?_⟩;refine⟨_,Z,C',dx,i,Z,e1,ec,λl H2 s2 mh=>?_⟩;refine⟨_,Z,bC Z,λl2 H3 n3=>?_⟩;refine .inr ⟨.list [.int (i:Nat)],.list [.int (i:Nat)],sE (aK.of (n3.same _ _ mh)) (bJ (cQ _) bW),sE (aK.of n3.at') (bJ (cQ _) bW),Z,Z,?_⟩;have:=k H3 (sn.trans (s2.trans n3.same));rw[show PyData.eqv (.list [.int (i:Nat)]) (.list [.int (i:Nat)])=true by simp[PyData.eqv,PyData.eqvAll]];exact this
end
open _T (numIn?)
section
variable {P:af}{w:World}{K:aa}{mg:bc}{au:Heap}
def IE(K:aa):Sp:=λvs H Q _=>∃(a:Addr)(ns:List Int),vs=[.ref a]/\aK K H a (ns.map V.int)/\ns.length<=63/\∀H',Q (.bl true) H'
abbrev uS:Stmt:=top 137
theorem JP:bj ["_law_script","_law_at","_law_bag_here","_law_machine_here","_law_place_here","_law_odd","_law_which","_law_thing"] ["_law_script"] (aP uS):=bw aM
theorem W8{f:Addr}{fd:FuncData}(F:gq K "law" "law" uS f fd)(B:bE mg)(a1G:aG P w K mg au "_law_bag" 1 (IS K))(a1E:aG P w K mg au "_law_machine" 2 (IC K))(a1y:aG P w K mg au "_law_place" 2 (Iv K))(a1D:aG P w K mg au "_law_menu" 2 (IB K))(MY:aG P w K mg au "_law_refused" 15 (Il K)):dS P w K mg au eM 16 f fd ["_law_script"] (IE K):=by
 refine F.ok JP (λvs H Q E h=>?_) (λaE A0 outer s H vs Q E hr h=>?_)
 ·obtain⟨a,ns,rfl,_⟩:=h
  rfl
 ·obtain⟨a,ns,rfl,hS,hlen,k⟩:=h
  have nd:=JP.nd;have gX:sizeLine=16777216:=by decide
  refine⟨_,(aD (iK iG Z (sN Z (B.at "range") (ao (dG (x:="max") (a4C rfl) rfl (B.at "max") PyProof.Rows.boot_max (ao aF (ao (dG (x:="min") (Om rfl) rfl (B.at "min") PyProof.Rows.boot_min (ao aF (ao (fo K B (ao (pv 0) ay)) ay))) ay))) ay)) (bu 1 nd) (aD (pS 2 nd (pf a1G hr (ao (pv 0) (ao (pv 1) ay)))) (aD (pS 3 nd (pf a1E hr (ao (pv 2) ay))) (aD (pS 4 nd (pf a1y hr (ao (pv 2) (ao (pv 3) ay)))) (aD (pS 5 nd (pf a1D hr (ao (pv 2) ay))) (aH (iK iG Z (sN Z (B.at "range") (ao aF ay)) (bu 6 nd) (aD (jn (pS 7 nd (fW (PW.pt (oB (bT (dR K Z hr.units) (pv 6) aF (bM _)) (sJ (bT (inD K Z (hr.Hr)) (pv 5) (dF (ao (lU lN aF) (ao (aW vc aF aF) ay))) (by with_unfolding_all rfl))))) hZ (pv 5)))) (aD (bD (cE (bS (pf MY hr (ao (pv 6) (ao ib (ao (pv 3) (ao (pv 4) (ao (pv 7) ay)))))))) (aH (aZ ib)) bG) (aH (bD (cE (bS (pf MY hr (ao (pv 6) (ao ib (ao (pv 3) (ao (pv 4) (ao (pv 7) ay)))))))) (aH (aZ ib)) bG))))))))))) (aH (aZ ib))),?_⟩;refine⟨_,Z,a,_,Z,.inl hS,_,_,Z,_,_,Z,_,Z,?_,?_,?_⟩
  ·split<;>(try split)<;>lia
  ·split<;>(try split)<;>(try rw[bR])<;>lia
  have hN:(if(if((ns.map V.int).length:Int)<6 then((ns.map V.int).length:Int)else 6)>1 then(if((ns.map V.int).length:Int)<6 then((ns.map V.int).length:Int)else 6)else 1).toNat<=6:=by split<;>(try split)<;>lia
  refine vZ (Pv:=λi O H2=>aA H H2/\∃v1 v2 v3 v4 v5 v6 v7,O=[some (.ref a),v1,v2,v3,v4,v5,v6,v7]) ?_ ?_ ?_
  ·exact⟨aA.refl _,none,none,none,none,none,none,none,Z⟩
  ·rintro i O H2 hi ⟨s2,v1,v2,v3,v4,v5,v6,v7,rfl⟩
   have hi8:i<6:=fF hi hN;refine⟨_,Z,_,Z,a,ns,_,Z,s2.seq hS,hlen,aw,aw,λp H3 np bg3 s3=>?_⟩;refine⟨_,Z,p,Z,bg3,λm rs r f' j t H4 rm aO b4=>?_⟩;refine⟨_,Z,_,Z,p,m,rs,r,f',j,t,Z,b4.eJ,rm,aO,λbF pl H5 rp on b5=>?_⟩;refine⟨_,Z,p,Z,b5.eJ,λov d H6 ro hd b6=>?_⟩;have ro:RD K H6 ov d:=RD.mono O1 _ ro;have rm:RD K H6 m (bQ.D ⟨rs,r,f',j,t⟩):=RD.t (cj.t b4.eJ (b5.trans b6)) _ (kG _ _ _ _ _) rm;have rp:RD K H6 bF (eh pl):=RD.t (cj.t b5.eJ b6) _ (ky _) rp;have b36:=b4.trans (b5.trans b6);have SE:aA H H6:=λx o e=>by
    have e2:=s2 _ _ e;have e3:=s3 _ _ e2;have hx:x≠p:=λz=>by rw[z,np]at e2;cases e2
    exact b36.same _ _ hx e3
   refine⟨11,Z,az,az,vZ (Pv:=λi O H7=>aA H6 H7/\∃v1 v6 v7,O=[some (.ref a),v1,some (.ref p),some m,some bF,some ov,v6,v7]) ⟨aA.refl _,_,_,_,Z⟩ ?_ ?_⟩
   ·rintro w O H7 hw ⟨s7,v1,v6,v7,rfl⟩
    have hw:w<11:=hw;refine⟨λO H8=>∃tv d',O=[some (.ref a),v1,some (.ref p),some m,some bF,some ov,some (.int (0+(w:Int))),some tv]/\aA H7 H8/\RD K H8 tv d'/\A3 d'/\(w=0->tq d'=false),?_,?_⟩
    ·refine⟨_,Z,.inl ⟨_,_,Z,Z,_,Z,?_⟩⟩
     have odd:=LQ hd;have r7:=RD.mono s7 _ ro;by_cases w0:w=0
     ·rw[cu (show(0+(w:Int))=0 by lia)]
      refine ba ⟨_,Z,_,Z,_,_,Z,Z,by unfold P8;decide+kernel,bC rfl,λl H8 n8=>?_⟩;refine⟨l,_,d,[.int (-1),.int (10^(39:Int).toNat)],Z,aK.of n8.at',RD.mono n8.same _ r7,bJ (cQ _) (bJ (cQ _) bW),odd.ok.shaped az,?_,_,Z,?_⟩
      ·intro e he
       simp only[bZ,dX,gs]at he;rcases he with rfl|rfl<;>rfl
      rw[show(if false=true then !([PyData.int (-1),.int (10^(39:Int).toNat)].any λe=>PyData.eqv e d)else([PyData.int (-1),.int (10^(39:Int).toNat)].any λe=>PyData.eqv e d))=([PyData.int (-1),.int (10^(39:Int).toNat)].any λe=>PyData.eqv e d)from bf cI];cases hb:[PyData.int (-1),.int (10^(39:Int).toNat)].any λe=>PyData.eqv e d with |true=>exact ba ⟨.aY,.none,Z,n8.same,oA,LQ (.head _),λ_=>rfl⟩ |false=>
       refine aU ⟨_,Z,ov,d,Z,n8.same,RD.mono n8.same _ r7,odd,λ_=>?_⟩;rcases XO d hd with h|rfl|rfl
       ·exact h
       ·exact absurd hb aM
       ·exact absurd hb aM
     ·rw[cX (show¬(0+(w:Int))=0 by lia)]
      exact aU ⟨_,Z,ov,d,Z,aA.refl _,r7,odd,λz=>absurd z w0⟩
    ·rintro O H8 ⟨tv,d',rfl,s8,rt,odd,oY⟩
     have lT:=s7.trans s8;rw[Int.zero_add];refine⟨_,Z,_,Z,_,Z,_,Z,w,false,m,bF,tv,⟨rs,r,f',j,t⟩,pl,d',Z,hw,RD.mono lT _ rm,aO,RD.mono lT _ rp,on,rt,odd,oY,λH9 s9=>⟨_,Z,aU ?_⟩⟩;have Cv:=lT.trans s9;refine⟨_,Z,_,Z,_,Z,_,Z,w,true,m,bF,tv,⟨rs,r,f',j,t⟩,pl,d',Z,hw,RD.mono Cv _ rm,aO,RD.mono Cv _ rp,on,RD.mono s9 _ rt,odd,oY,λji iJ=>⟨_,Z,aU ?_⟩⟩;exact⟨Cv.trans iJ,_,_,_,Z⟩
   ·rintro O H7 ⟨s7,v1,v6,v7,rfl⟩
    exact⟨SE.trans s7,_,_,_,_,_,_,_,Z⟩
  ·rintro O H2 ⟨s2,v1,v2,v3,v4,v5,v6,v7,rfl⟩
   exact k H2
end
end _a
set_option maxHeartbeats 1000000
namespace _a
open PySem PySem.Spec PyProof.Rows _L
theorem kX{K:aa}{mg:bc}{h:Heap}{x:Str}{c:Addr}(X:K.In h)(G:h.Ns mainGlobals mg)(a:PySem.W.nsIn K mainGlobals x=some (some (.ref c))):GV mg x (.ref c):=⟨_,rJ X G a,Z⟩
theorem nS{K:aa}{mg:bc}{h:Heap}{x:Str}{c:Addr}{bm:List Value}{nw:String}(X:K.In h)(G:h.Ns mainGlobals mg)(a:PySem.W.nsIn K mainGlobals x=some (some (.ref c)))(q:PySem.W.excIn K c bm nw=true):Exc K mg x c bm nw:=⟨rJ X G a,q⟩
theorem xS{K:aa}{C:Addr}{f:Str}(h:PySem.W.findIn K (.ref C) f=some none):PySem.W.takerIn K C f=some none:=by unfold PySem.W.takerIn;rw[h];rfl
structure zZ(K:aa)(mg:bc)(X:CC)(i3 i6 i7:Addr):Prop where
 g:Exc K mg "GlideError" X.g cW dg
 n:Gy mg X
 e0:Exc K mg "NoFraction" X.c0 cW dg
 e1:Exc K mg "NoRate" X.c1 cW dg
 e2:Exc K mg "NoItem" X.c2 cW dg
 e4:Exc K mg "Full" X.c4 cW dg
 e5:Exc K mg "Moving" X.c5 cW dg
 e8:Exc K mg "NoMachine" X.c8 cW dg
 e9:Exc K mg "NoPlace" X.c9 cW dg
 FH:Exc K mg "NoLine" X.c10 cW dg
 o:A2 K mg X.c3 i3
 t:Gs K mg X.c6 i6
 x:Gm K mg X.c7 i7
 k:vz K X.g X.l=true
theorem a4s{K:aa}{mg:bc}{h:Heap}{cG c0 c1 c2 c3 c4 c5 c6 c7 c8 c9 c10 i3 i6 i7:Addr}(X:K.In h)(G:h.Ns mainGlobals mg)(ag:PySem.W.nsIn K mainGlobals "GlideError"=some (some (.ref cG)))(qg:PySem.W.excIn K cG cW dg=true) (h0:PySem.W.nsIn K mainGlobals "NoFraction"=some (some (.ref c0)))(h1:PySem.W.nsIn K mainGlobals "NoRate"=some (some (.ref c1)))(h2:PySem.W.nsIn K mainGlobals "NoItem"=some (some (.ref c2)))(h3:PySem.W.nsIn K mainGlobals "OffRails"=some (some (.ref c3)))(h4:PySem.W.nsIn K mainGlobals "Full"=some (some (.ref c4)))(h5:PySem.W.nsIn K mainGlobals "Moving"=some (some (.ref c5)))(h6:PySem.W.nsIn K mainGlobals "NoTape"=some (some (.ref c6)))(h7:PySem.W.nsIn K mainGlobals "NoText"=some (some (.ref c7)))(h8:PySem.W.nsIn K mainGlobals "NoMachine"=some (some (.ref c8)))(h9:PySem.W.nsIn K mainGlobals "NoPlace"=some (some (.ref c9)))(h10:PySem.W.nsIn K mainGlobals "NoLine"=some (some (.ref c10)))(v:PySem.W.nsIn K mainGlobals "ValueError"=some none) (q0:PySem.W.excIn K c0 cW dg=true)(q1:PySem.W.excIn K c1 cW dg=true)(q2:PySem.W.excIn K c2 cW dg=true)(q4:PySem.W.excIn K c4 cW dg=true)(q5:PySem.W.excIn K c5 cW dg=true)(q8:PySem.W.excIn K c8 cW dg=true)(q9:PySem.W.excIn K c9 cW dg=true)(q10:PySem.W.excIn K c10 cW dg=true) (o:A2 K mg c3 i3)(t:Gs K mg c6 i6)(x:Gm K mg c7 i7)(kb:vz K cG [c0,c1,c2,c3,c4,c5,c6,c7,c8,c9,c10]=true):∃X i3 i6 i7,zZ K mg X i3 i6 i7:=⟨⟨cG,c0,c1,c2,c3,c4,c5,c6,c7,c8,c9,c10⟩,i3,i6,i7,⟨nS X G ag qg,⟨kX X G h0,kX X G h1,kX X G h2,kX X G h3,kX X G h4,kX X G h5,kX X G h6,kX X G h7,kX X G h8,kX X G h9,kX X G h10,PySem.W.mg_none_of X G v⟩,nS X G h0 q0,nS X G h1 q1,nS X G h2 q2,nS X G h4 q4,nS X G h5 q5,nS X G h8 q8,nS X G h9 q9,nS X G h10 q10,o,t,x,kb⟩⟩
theorem zZ.cls{K:aa}{mg:bc}{X:CC}{i3 i6 i7:Addr}(E:zZ K mg X i3 i6 i7):∀c∈X.l,ClsAt K c:=by
 intro c hc;unfold CC.l at hc;simp only[bZ,dX,gs]at hc;rcases hc with rfl|rfl|rfl|rfl|rfl|rfl|rfl|rfl|rfl|rfl|rfl
 ·exact E.e0.cls
 ·exact E.e1.cls
 ·exact E.e2.cls
 ·exact E.o.e.cls
 ·exact E.e4.cls
 ·exact E.e5.cls
 ·exact E.t.e.cls
 ·exact E.x.e.cls
 ·exact E.e8.cls
 ·exact E.e9.cls
 ·exact E.FH.cls
structure P7(K:aa)(mg:bc)(C D:Addr):Prop where
 tc:gm K C
 init:CA K mg C "Runner" "Runner.__init__" Bx
 Y7:MA K C "place" "Runner.place" Bu
 Y9:MA K C "leads_to" "Runner.leads_to" Bw
 Ya:MA K C "is_held" "Runner.is_held" BA
 Y6:MA K C "stands" "Runner.stands" Bt
 Yb:MA K C "is_halted" "Runner.is_halted" Bz
 Yc:MA K C "feed" "Runner.feed" BB
 Ye:MA K C "entries" "Runner.entries" BD
 Yd:MA K C "entries_of_first" "Runner.entries_of_first" BC
 Y5:MA K C "steps_of_first" "Runner.steps_of_first" Bs
 Y8:MA K C "next_square" "Runner.next_square" Bv
 Yf:MA K C "end_first" "Runner.end_first" BE
 Yg:MA K C "drop" "Runner.drop" BF
 Y4:MA K C "turn_rate" "Runner.turn_rate" Br
 td:wQ K D
 a4b:CA K mg D "Desk" "Desk.__init__" Cg
 say:MA K D "say" "Desk.say" Bl
 Sx:MA K D "say_steps" "Desk.say_steps" Bm
structure All(w:World)(K:aa)(mg:bc):Prop where
 B:bE mg
 vW:GT K mg "NOUGHT" [.int 0,.int 1]
 a20:GT K mg "SIDES" [.str "up",.str "down"]
 a2h:GT K mg "AXES" [.int 2,.int 3]
 a28:GV mg "LONGEST_RAIL" (.int 100)
 a2e:GV mg "GREATEST_CHANGE" (.int 50)
 a23:GV mg "MOST_TICKS" (.int 100)
 a24:GV mg "MOST_STEPS" (.int 100)
 a2c:GV mg "GREATEST_SPEED" (.int 20)
 a27:GV mg "LONGEST_WAIT" (.int 1000)
 a29:GV mg "LONGEST_NAME" (.int 8)
 a2b:GV mg "LEAST_RATE" (.int 10)
 a2d:GV mg "GREATEST_RATE" (.int 200)
 a2f:GV mg "FIRST_RATE" (.int 100)
 a22:GV mg "MOST_WAITING" (.int 20)
 a26:GV mg "MOST_ENTRIES" (.int 100)
 a25:GV mg "MOST_ITEMS" (.int 20)
 Ng:GV mg "NOT_DUE" (.int 1)
 a21:GV mg "NO_BORDER" (.int 4)
 a2a:GV mg "LETTERS" (.str tZ)
 a2g:GV mg "FIGURES" (.str tP)
 ans:∃a,GD w K mg "ANSWERS" a/\PySem.W.nsIn K a "steps"=some none
 cls:∃X i3 i6 i7,zZ K mg X i3 i6 i7
 dk:∃C D,P7 K mg C D
 law:FA K mg "law" uS
 a33:FA K mg "is_whole" C4
 a32:FA K mg "is_whole_within" Be
 a38:FA K mg "is_machine" C8
 a36:FA K mg "is_place" C6
 a3l:FA K mg "are_rails" Cu
 a3b:FA K mg "is_item" C9
 a3e:FA K mg "ends" Ce
 a39:FA K mg "is_line" C3
 a2P:FA K mg "place_behind" Cp
 a2U:FA K mg "moved" BP
 a3k:FA K mg "are_steps" Ct
 a34:FA K mg "is_short_item" C5
 a37:FA K mg "is_name" C7
 Nt:FA K mg "fraction" yj
 a2O:FA K mg "plus_whole" BH
 a2V:FA K mg "minus" BR
 a2G:FA K mg "times" Bg
 a3a:FA K mg "is_less" BV
 a2Y:FA K mg "least" BW
 a2W:FA K mg "lowest_terms" BZ
 a3h:FA K mg "common_divisor" Cm
 a2Z:FA K mg "lead_of" BX
 a2F:FA K mg "ways_of" Bc
 a2K:FA K mg "stand_at" Bk
 a2I:FA K mg "step_rows" Bn
 a2T:FA K mg "nearest" BN
 a3g:FA K mg "corner_square" Cj
 Nq:FA K mg "top_square" yh
 a35:FA K mg "is_rate" C1
 a3c:FA K mg "greatest_turn" Bf
 Nr:FA K mg "own_bounds" yi
 a3j:FA K mg "bound_between" Co
 a30:FA K mg "kept_by_fall" Cb
 a2H:FA K mg "ticks_of" Bh
 a3m:FA K mg "are_enough" Cf
 a2J:FA K mg "step_entry" Cd
 a2N:FA K mg "reach_behind_first" Bq
 a2M:FA K mg "read_items" Bp
 a31:FA K mg "item_in" C0
 a2R:FA K mg "numbers_in" BM
 a2L:FA K mg "size_of" Bj
 a2S:FA K mg "number_in" BO
 a2Q:FA K mg "only_number" BI
 a2X:FA K mg "look" BU
 a3f:FA K mg "due_entries" Ci
 a3i:FA K mg "bounds_between" Cr
 a3d:FA K mg "fault_of_entry" Cc
 a3y:FA K mg "_law_bag" Cq
 a3n:FA K mg "_law_take" Bi
 a3v:FA K mg "_law_machine" BS
 a3p:FA K mg "_law_place" BG
 a3x:FA K mg "_law_classes" Ck
 a3u:FA K mg "_law_menu" lS
 a3q:FA K mg "_law_off" BJ
 a3w:FA K mg "_law_full" Ca
 a3t:FA K mg "_law_moving" BQ
 a3s:FA K mg "_law_of_machines" BL
 a3r:FA K mg "_law_of_texts" BK
 a3o:FA K mg "_law_refused" Bo
theorem a59{P:af}{w:World}{K:aa}{mg:bc}{au:Heap}{f:Addr}{fd:FuncData}(A:All w K mg)(F:gq K "law" "law" uS f fd):dS P w K mg au eM 16 f fd ["_law_script"] (IE K):=by obtain⟨gA,GA,nA⟩:=A.ans;obtain⟨X,i3,i6,i7,E⟩:=A.cls;obtain⟨C,D,R⟩:=A.dk;have TC:=R.tc;have tk:aG P w K mg au "_law_take" 1 sj:=Vo A.a3n A.B;have cd:aG P w K mg au "common_divisor" 1 AZ:=Wx A.a3h A.B;have lt:aG P w K mg au "lowest_terms" 2 uK:=W3 A.a2W A.B cd;have iw:aG P w K mg au "is_whole" 1 (uM K):=W9 A.a33 A.B;have ww:aG P w K mg au "is_whole_within" 2 (lQ K):=Vh A.a32 A.B iw;have fn:aG P w K mg au "fraction" 3 (sx K):=Wm A.Nt A.B iw lt;have ld:aG P w K mg au "lead_of" 1 (oq K):=W7 A.a2Z A.B;have ls:aG P w K mg au "is_less" 1 (y9 K):=W5 A.a3a A.B;have cp:aG P w K mg au "corner_square" 6 (B0 K):=Wv A.a3g A.B (Vj A.a3c A.B (Vi A.a2F A.B ld fn) (VZ A.a2V A.B lt) ls) fn;have E7:aG P w K mg au "is_rate" 3 (uG K):=Wb A.a35 A.B A.a2b A.a2d ww;have tp:aG P w K mg au "top_square" 4 (si K):=Vl A.Nq A.B E7 fn;have tm:aG P w K mg au "is_line" 1 (ou K):=Wc A.a39 A.B;have lst:aG P w K mg au "least" 2 (mW K):=W6 A.a2Y A.B ls;have OA:aG P w K mg au "bound_between" 7 (yb K):=Wy A.a3j A.B A.vW tm tp cp lst;have own:aG P w K mg au "own_bounds" 8 (AU K):=VP A.Nr A.B A.vW OA;have pw:aG P w K mg au "plus_whole" 4 (y4 K):=VM A.a2O A.B;have nr:aG P w K mg au "nearest" 1 AW:=VW A.a2T A.B;have HQ:aG P w K mg au "stand_at" 2 (xX K):=Vq A.a2K A.B ld nr;have sr:aG P w K mg au "step_rows" 3 (xY K):=Vx A.a2I A.B ld HQ;have ent:aG P w K mg au "step_entry" 3 (AY K):=Wq A.a2J A.B (Vn A.a2H A.B (Ws A.a3m A.B));have E4:aG P w K mg au "is_item" 4 (uL K):=Wi A.a3b A.B A.a2c ww (WC A.a3k A.B A.a24 ww) (We A.a34 A.B A.a27 A.a20 ww (Wg A.a37 A.B A.a29 A.a2a));have E5:aG P w K mg au "is_place" 3 (uN K):=Wf A.a36 A.B ww;have LK:aG P w K mg au "moved" 1 (y8 K):=VX A.a2U A.B;have zU:aG P w K mg au "place_behind" 2 (sy K):=Wz A.a2P A.B tm LK;have QQ:aG P w K mg au "times" 3 (uI (·*·) K):=Vm A.a2G A.B lt;have Tv:aG P w K mg au "reach_behind_first" 9 (AQ K):=VL A.a2N A.B (VO A.Nr A.B A.vW OA) (Wo A.a30 A.B tm ld pw lst);have Ks:=VC (P:=P) (w:=w) (mg:=mg) (au:=au) R.Ya TC;have Km:=Vv (P:=P) (w:=w) (au:=au) R.Y6 TC A.vW;have CN:=VB R.Yb TC Ks Km;have Te:=Vz R.Y9 TC zU;have Ta:=Vy R.Y8 TC pw QQ fn lst Ks;have ref:=VH R.Yf TC zU;have SX:=Vu R.Y5 TC A.B ld sr tp Tv ent CN Ta ref;have Tj:=VF R.Yd TC tm SX ref;have To:=VG R.Ye TC A.B CN Tj;have T8:=Vw R.Y7 TC LK HQ;have CO:=VD (R:=X.rf i3) R.Yc TC A.B ⟨E.e2,E.o,E.e4,E.e5,E.e1⟩ A.a22 E4 E5 zU Te;have CQ:=VJ R.Yg TC A.B E.e5 CN T8;have Kl:=Vt R.Y4 TC E.e1 E.e5 E7 Km;have yn:=VA (P:=P) (w:=w) (au:=au) R.init TC A.vW A.a2f;have im:aG P w K mg au "is_machine" 4 (uO iq K):=Wh A.a38 A.B A.a23 A.a2e ww (WD A.a3l A.B A.a2h A.a28 ww);have DD:aG P w K mg au "number_in" 2 uJ:=VV A.a2S A.B A.a2g (Vp A.a2L A.B);have WW:aG P w K mg au "numbers_in" 3 (AV K):=VU A.a2R A.B DD;have YY:aG P w K mg au "item_in" 5 (AX K):=Wa A.a31 A.B DD WW E4;have QP:=Vk A.Nq A.B E.e1 E7;have frx:=Wl A.Nt A.B E.e0 iw;have a3N:=Wr A.a3e A.B E.o zU E5;have Tp:=VI A.a2M A.B E.x A.a25 YY;have Yo:=W4 A.a2X A.B E.t A.Ng A.a21 (Wu A.a3f A.B tm tp sr) (WA A.a3i A.B own tm tp ld) (Wn A.a3d A.B A.Ng E4);have din:=Wt R.a4b R.td E.e8 E.e9 im E5 yn;have RZ:=Vr R.Sx A.B E.FH A.a26 (VQ A.a2Q A.B DD) ww;have say:=Vs R.say R.td A.B GA nA E.FH RZ;have full:=Wj A.a3w A.B TC yn CO;have XC:=VY A.a3t A.B TC yn CO To Kl CQ;have WI:=VS A.a3s A.B TC frx QP a3N yn CO Kl (VT A.a3q A.B) full XC;have WH:=VR A.a3r A.B R.td Yo Tp din say;have Th:=VE A.a3o A.B E.g E.n E.cls E.k WI WH (Ww A.a3x A.B E.n E.k);exact W8 F A.B (WB A.a3y A.B) (W2 A.a3v A.B tk) (VN A.a3p A.B tk) (W0 A.a3u A.B tk) Th
end _a
end
set_option maxHeartbeats 1000000
set_option exponentiation.threshold 6000
def PySem.W.Fast.tw10009900566304139865:PySem.Program:=PySem.Challenge.pw_glidequeue_k10_refusals_of_one_class
theorem PySem.W.Fast.te10009900566304139865:PySem.Challenge.pw_glidequeue_k10_refusals_of_one_class=PySem.W.Fast.tw10009900566304139865:=rfl
local macro_rules|`(command|universe $x:ident)=>return Lean.mkNullNode (<-((x.getId.toString.splitOn "_").drop 1).toArray.mapM fun i=>`(command|theorem $(Lean.mkIdent (`_root_.PySem.W.Fast++Lean.Name.mkSimple s!"tw{(`PySem.Challenge.cw_glidequeue_k10_refusals_of_one_class_holds++Lean.Name.mkSimple ((match i.front with|'h'=>"heap"|'t'=>"tree"|'v'=>"view"|'s'=>"sts"|'e'=>"env"|_=>"o")++"_"++(i.drop 1).toString)).hash}")):ident:True:=True.intro))
universe t_h1123_t983_t841_t681_t767_t511_t1059_t495_v39_t418_h39_t340_o1060_t274_o984_t1122_o930_t234_o842_o926_s512_s984_t219_o771_s771_t204_s1060_s930_s419_o512_s275_t182_o496_o419_t160_o341_t145_o275_s842_t130_s235_t925_o992_o1035_o990_o1101_o632_t108_o952_o625_o630_o950_o957_o623_o1099_o955_o824_o960_o235_o1033_o604_o1066_o1122_o1120_o676_o1064_o1106_t93_o267_o1004_o516_o1108_o997_o602_o418_o822_o269_o1052_o962_o786_o416_o488_o527_o455_o831_o289_o784_o274_o320_o1094_o1011_o486_o1115_o904_o1054_o458_o1002_o481_o829_o1009_o287_o995_o479_o1113_o841_o453_o220_o318_o839_o694_o467_o205_o272_o465_o296_o294_o667_o1040_o805_o441_o817_o1092_o183_o945_o460_o146_o803_o1023_o1042_t78_o327_o618_o815_o902_o161_o1016_s496_s926_o1014_o281_o943_o810_o495_o616_o332_o609_o279_o611_o413_o434_o131_o340_o330_o969_o1021_o347_o665_o674_o338_o363_o109_o406_o411_o967_o313_o672_o94_o370_o685_s341_o325_o432_o315_o408_o472_o1087_o474_o349_o493_o368_o79_o446_o541_o534_o361_o798_o1059_o1049_o396_o64_o646_o504_t63_o439_o701_o377_o403_o1047_o791_o628_o1073_o1057_o644_o925_o49_o1080_o923_o637_o398_o651_o502_o779_o375_o639_o789_o136_o708_o808_o1078_o389_o971_o511_o777_o850_s161_o796_o927_o1071_o391_o401_o988_o509_o934_t927_o356_o836_o384_o263_o653_o310_o256_o427_o177_o621_o66_o382_o899_o354_o261_o448_o597_o834_o660_o308_o425_o848_o675_o1118_o897_o878_o757_o175_o759_o595_o576_o983_o658_o451_o890_o885_o254_o918_o892_s183_o864_o871_o857_o717_o981_o199_o114_o574_o59_o125_s109_o562_o106_o583_o91_o202_o158_o240_o143_o180_o188_o166_o855_o1000_o1104_o292_o477_o555_o569_o916_o76_o128_o232_o862_o197_o247_o869_o876_o883_o217_o553_o123_o179_o1038_o225_o820_o1045_o484_o151_o430_o1111_o1007_o1030_o127_o782_o201_o99_o303_o210_o948_o373_o285_o359_o1090_o500_o827_o84_o69_o911_o736_o366_o1028_o546_o750_o560_o207_o222_o1097_o1121_o75_o60_o185_o96_o111_o801_o246_o81_o148_o163_o133_o237_o231_o90_o157_o216_o105_o813_o491_o301_o142_o909_o751_h46_o968_o677_o1083_o642_o470_o673_o610_o702_o575_o659_o607_o45_o198_o394_o352_o937_o624_o888_o1076_o972_o519_o526_o944_o547_o617_o596_o638_o723_o956_o678_o540_o652_o645_o666_o589_o603_o561_o568_o124_o961_o951_o176_o412_o631_o463_s49_o996_o1107_o259_o840_o139_o243_o173_o437_o910_o380_o336_o941_o423_o965_o794_o507_o846_o523_o614_o775_o537_o1019_o823_o447_o1022_o1029_o1114_o785_o830_o1100_o1072_o804_o383_o466_o440_o903_o891_o102_o1010_o1034_o314_o417_o459_o56_o407_o835_o213_o339_o809_o288_o376_o390_o191_o309_o778_o387_o797_o302_o1053_o1015_o228_o326_o473_o169_o355_o1003_o973_o1065_o1093_o1086_o870_o1041_o319_o273_o856_o510_o898_o1079_o917_o295_o454_o487_o1058_o72_o433_o87_o369_o280_o262_o849_o816_o924_o503_o877_o268_o348_o982_o991_o426_o255_o154_o790_o402_o1048_o362_o863_o884_o117_o494_o480_s79_o397_o331_o649_o970_o239_o921_o974_o282_o663
open PySem PySem.W PyProof.Rows
set_option maxRecDepth 100000 in
set_option maxHeartbeats 0 in
theorem PySem.Challenge.cw_glidequeue_k10_refusals_of_one_class_holds : PySem.Challenge.rw_glidequeue_k10_refusals_of_one_class.Holds := by
 w_on; o_law; k_head; (case hw=>w_witness2)
 k_fill
 refine _L.YK (l:=PySem.Challenge.rw_glidequeue_k10_refusals_of_one_class) (k:=16) (x:="_law_script") (st:=_a.uS) rfl rfl ⟨rfl,by decide,by decide⟩ (fun w h Y=>PySem.W.kIn_of Y) _a.All ?F (fun _ _ _ A=>A.law) (fun _ _ _ _ _ _ _=>rfl) (fun _ _ _ _ _ _ _ A F=>_a.a59 A F)
 case F=>
  intro w mg h KX G
  refine⟨_L.a4P KX G ?b,?t1,?t2,?t3,?gi0,?gi1,?gi2,?gi3,?gi4,?gi5,?gi6,?gi7,?gi8,?gi9,?gi10,?gi11,?gi12,?gi13,?gi14,?gs0,?gs1,?an,?cl,?dk,?fl,?ff0,?ff1,?ff2,?ff3,?ff4,?ff5,?ff6,?ff7,?ff8,?ff9,?ff10,?ff11,?ff12,?ff13,?ff14,?ff15,?ff16,?ff17,?ff18,?ff19,?ff20,?ff21,?ff22,?ff23,?ff24,?ff25,?ff26,?ff27,?ff28,?ff29,?ff30,?ff31,?ff32,?ff33,?ff34,?ff35,?ff36,?ff37,?ff38,?ff39,?ff40,?ff41,?ff42,?ff43,?ff44,?ff45,?ff46,?ff47,?ff48,?ff49,?ff50,?ff51,?ff52,?ff53,?ff54,?ff55,?ff56,?ff57,?ff58⟩
  case b=>(unfold _L.zT; repeat (refine _L.pL.cons ?z ?_; (case z=>k_is))); exact _L.pL.nil
  case t1=>refine' _L.F7 KX G ?a ?l ?z ?r; (case a=>k_is); (case l=>k_is); (case z=>decide); (case r=>exact .cons ⟨_,rfl⟩ (.cons ⟨_,rfl⟩ .nil))
  case t2=>refine' _L.F7 KX G ?a ?l ?z ?r; (case a=>k_is); (case l=>k_is); (case z=>decide); (case r=>exact .cons ⟨_,rfl⟩ (.cons ⟨_,rfl⟩ .nil))
  case t3=>refine' _L.F7 KX G ?a ?l ?z ?r; (case a=>k_is); (case l=>k_is); (case z=>decide); (case r=>exact .cons ⟨_,rfl⟩ (.cons ⟨_,rfl⟩ .nil))
  case gi0=>(refine' _L.iO KX G ?z; (case z=>k_is))
  case gi1=>(refine' _L.iO KX G ?z; (case z=>k_is))
  case gi2=>(refine' _L.iO KX G ?z; (case z=>k_is))
  case gi3=>(refine' _L.iO KX G ?z; (case z=>k_is))
  case gi4=>(refine' _L.iO KX G ?z; (case z=>k_is))
  case gi5=>(refine' _L.iO KX G ?z; (case z=>k_is))
  case gi6=>(refine' _L.iO KX G ?z; (case z=>k_is))
  case gi7=>(refine' _L.iO KX G ?z; (case z=>k_is))
  case gi8=>(refine' _L.iO KX G ?z; (case z=>k_is))
  case gi9=>(refine' _L.iO KX G ?z; (case z=>k_is))
  case gi10=>(refine' _L.iO KX G ?z; (case z=>k_is))
  case gi11=>(refine' _L.iO KX G ?z; (case z=>k_is))
  case gi12=>(refine' _L.iO KX G ?z; (case z=>k_is))
  case gi13=>(refine' _L.iO KX G ?z; (case z=>k_is))
  case gi14=>(refine' _L.iO KX G ?z; (case z=>k_is))
  case gs0=>(refine' _L.N9 KX G ?z; (case z=>k_is))
  case gs1=>(refine' _L.N9 KX G ?z; (case z=>k_is))
  case an=>
   refine' ⟨_,_L.a1V KX G ?ga ?gl ?gk ?go,?na0⟩
   case ga=>k_is
   case gl=>k_is
   case go=>decide
   case gk=>
    show KeysLit _ (_::_)
    repeat (first | exact trivial | refine And.intro ⟨_,_,rfl,rfl⟩ ?_)
   case na0=>k_is
  case cl=>
   refine' _a.a4s KX G ?ag ?qg ?h0 ?h1 ?h2 ?h3 ?h4 ?h5 ?h6 ?h7 ?h8 ?h9 ?h10 ?vv ?q0 ?q1 ?q2 ?q4 ?q5 ?q8 ?q9 ?q10 ⟨_L.FU KX G ?h3 ?oq1,?oi1,⟨?ox1,?ox2,_a.xS ?ox3,?ox4⟩,?off,_,_L.tN ?ol ?oc ?okk⟩ ⟨_L.FU KX G ?h6 ?tq1,?ti1,⟨?tx1,?tx2,_a.xS ?tx3,?tx4⟩,⟨?tx1,?tx2,_a.xS ?ty3,?tx4⟩,?tff,_,_L.tN ?tl ?tc ?tkk⟩ ⟨_L.FU KX G ?h7 ?xq1,?xi1,⟨?xx1,?xx2,_a.xS ?xx3,?xx4⟩,?xff,_,_L.tN ?xl ?xc ?xkk⟩ ?kb
   case ag | h0 | h1 | h2 | h3 | h4 | h5 | h6 | h7 | h8 | h9 | h10 | vv=>k_is
   case oi1 | ox1 | ox3 | ox4 | ol | oc | okk=>k_is
   case ti1 | tx1 | tx3 | tx4 | tl | tc | tkk | ty3=>k_is
   case xi1 | xx1 | xx3 | xx4 | xl | xc | xkk=>k_is
   case qg | q0 | q1 | q2 | q4 | q5 | q8 | q9 | q10=>k_exc
   case oq1=>kernel_rfl
   case ox2=>kernel_rfl
   case off=>kernel_rfl
   case tq1=>kernel_rfl
   case tx2=>kernel_rfl
   case tff=>kernel_rfl
   case xq1=>kernel_rfl
   case xx2=>kernel_rfl
   case xff=>kernel_rfl
   case kb=>kernel_rfl
  case dk=>
   refine' ⟨_,_,_a.P7.mk (_a.gm.mk (_L.gI.mk ?pg ?hd ?po ?sa) ?n1 ?n2 ?n3 ?n4 ?n5 ?n6 ?n7 ?n8 ?n9) (_L.Oq KX G ?aC ?mk ?kc ?ia ?iii ?il ?ic ?ik) (_L.iL ?a0 ?i0 ?l0 ?c0 ?k0) (_L.iL ?a1 ?i1 ?l1 ?c1 ?k1) (_L.iL ?a2 ?i2 ?l2 ?c2 ?k2) (_L.iL ?a3 ?i3 ?l3 ?c3 ?k3) (_L.iL ?a4 ?i4 ?l4 ?c4 ?k4) (_L.iL ?a5 ?i5 ?l5 ?c5 ?k5) (_L.iL ?a6 ?i6 ?l6 ?c6 ?k6) (_L.iL ?a7 ?i7 ?l7 ?c7 ?k7) (_L.iL ?a8 ?i8 ?l8 ?c8 ?k8) (_L.iL ?a9 ?i9 ?l9 ?c9 ?k9) (_L.iL ?a10 ?i10 ?l10 ?c10 ?k10) (_L.iL ?a11 ?i11 ?l11 ?c11 ?k11) (_L.iL ?a12 ?i12 ?l12 ?c12 ?k12) (_a.wQ.mk (_L.gI.mk ?dpg ?dhd ?dpo ?dsa) ?d1 ?d2) (_L.Oq KX G ?daC ?dmk ?dkc ?dia ?dii ?dil ?dic ?dik) (_L.iL ?sa0 ?si0 ?sl0 ?sc0 ?sk0) (_L.iL ?sa1 ?si1 ?sl1 ?sc1 ?sk1)⟩
   (case aC=>k_is)
   (case daC=>k_is)
   case n1 | n2 | n3 | n4 | n5 | n6 | n7 | n8 | n9 | d1 | d2=>(unfold _L.gp; k_is)
   case pg | hd | po | sa | mk | kc | ia | iii | il | ic | ik | dpg | dhd | dpo | dsa | dmk | dkc | dia | dii | dil | dic | dik | sa0 | si0 | sl0 | sc0 | sk0 | sa1 | si1 | sl1 | sc1 | sk1 | a0 | i0 | l0 | c0 | k0 | a1 | i1 | l1 | c1 | k1 | a2 | i2 | l2 | c2 | k2 | a3 | i3 | l3 | c3 | k3 | a4 | i4 | l4 | c4 | k4 | a5 | i5 | l5 | c5 | k5 | a6 | i6 | l6 | c6 | k6 | a7 | i7 | l7 | c7 | k7 | a8 | i8 | l8 | c8 | k8 | a9 | i9 | l9 | c9 | k9 | a10 | i10 | l10 | c10 | k10 | a11 | i11 | l11 | c11 | k11 | a12 | i12 | l12 | c12 | k12=>k_is
  all_goals (refine' _L.a2E KX G ?a ?l ?c ?k; (case a=>k_is); (case l=>k_is); (case c=>k_is); (case k=>k_is))
#print axioms PySem.Challenge.cw_glidequeue_k10_refusals_of_one_class_holds
