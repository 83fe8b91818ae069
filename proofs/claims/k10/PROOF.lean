import PyProof.Rows.All
import Wide.All
import OpenK.AllK
import Wide.FinOn
import Lean
import PyProof.EqAt
import PyProof.EqKinds
import PyProof.TupleCall
import PySem.Challenge.RW_glidequeue_k10_refusals_of_one_class
set_option Elab.async false
set_option linter.all false
set_option maxRecDepth 100000
noncomputable section
local macro_rules|`(command|def $i:declId $s:optDeclSig $v:declVal)=>`(command|noncomputable def $i:declId $s:optDeclSig $v:declVal)
local macro_rules|`(command|abbrev $i:declId $s:optDeclSig $v:declVal)=>`(command|noncomputable abbrev $i:declId $s:optDeclSig $v:declVal)
local macro_rules|`(tactic|trivial)=>`(tactic|first|exact Or.inl rfl|exact Or.inr rfl|exact Or.inr (Or.inl rfl)|exact Or.inr (Or.inr rfl)|assumption|exact fun _=>rfl|exact fun _ _=>rfl)
theorem r8_(h:True:=by rfl):True:=h
theorem q8_(h:True:=by decide):True:=h
theorem d8_(h:True:=by first|exact .inl rfl|exact .inr rfl|assumption):True:=h
theorem f8_(h:True:=by trivial):True:=h
theorem v8_(h:True:=by with_unfolding_all rfl):True:=h
theorem k8_(h:True:=by first|exact Or.inl rfl|exact Or.inr rfl):True:=h
abbrev bc:=PySem.Str->Option PySem.Value
theorem az{p:Prop}(h:autoParam (p) q8_._auto_1):p:=h
theorem aO{p:Prop}(h:p:=by decide+kernel):p:=h
theorem aw {p:Prop} (h:p:=by lia):p:=h
theorem bN{p:Prop}(h:p:=by omega):p:=h
theorem Z {α : Sort _} {a : α}:a=a:=rfl
abbrev aa:=PySem.W.Frag
abbrev ae:=PySem.Shared
abbrev af:=PySem.Program
abbrev ah:=PySem.PyData
abbrev ai:=PySem.Around
abbrev aB:=@PySem.wpAny_bind
abbrev bh:=@if_neg
abbrev bo:=@if_pos
abbrev bA:=@PySem.wpAny_pure
abbrev bB:=@Nat.le_refl
abbrev bK:=@PySem.Heap.get?_push_of_some
abbrev bP:=@PySem.Heap.lt_size
abbrev bR:=@List.length_map
abbrev bZ:=@List.mem_cons
abbrev cn:=@decide_eq_true
abbrev cI:=@List.getElem?_eq_getElem
abbrev cJ:=@Bool.false_ne_true
abbrev cP:=@beq_iff_eq
abbrev cX:=@List.size_toArray
abbrev cY:=@List.getElem?_map
abbrev cZ:=@Bool.and_eq_true
abbrev df:=@decide_eq_false
abbrev dg:=@Nat.ne_of_lt
abbrev dw:=@PySem.Heap.get?_push_size
abbrev dU:=@PySem.intBits_le_64
abbrev dW:=@Option.some.inj
abbrev dX:=@List.not_mem_nil
abbrev eB:=@List.mem_singleton
abbrev eY:=@List.getElem?_eq_some_iff
abbrev fi:=@Rat.le_trans
abbrev fj:=@List.length_append
abbrev fw:=@Nat.zero_le
abbrev fz:=@Nat.le_trans
abbrev fA:=@List.length_cons
abbrev fF:=@List.all_eq_true
abbrev fK:=@Nat.lt_of_lt_of_le
abbrev fT:=@PySem.wpAny_field
abbrev fU:=@Int.pow_succ
abbrev fV:=@Bool.false_and
abbrev gr:=@PySem.wpAny_mono
abbrev gs:=@or_false
abbrev gu:=@List.mem_map
abbrev gI:=@PySem.wpAny_holding
abbrev gJ:=@PySem.F.excBase_ValueError
abbrev gK:=@List.mem_append_right
abbrev gL:=@Int.le_refl
abbrev iD:=@Bool.true_and
abbrev iQ:=@PySem.PassesOwn.never
abbrev iR:=@Ne.symm
abbrev iS:=@List.mem_of_getElem?
abbrev iT:=@List.mem_filterMap
abbrev iU:=@List.lookup_cons
abbrev iV:=@Int.natAbs_mul
abbrev iW:=@Bool.eq_iff_iff
abbrev jj:=@List.append_nil
abbrev jz:=@PyProof.Rows.boot_tuple
abbrev jA:=@Int.mul_pos
abbrev jX:=@PySem.wpAny_newObj_type
abbrev jY:=@PySem.W.Looks.here
abbrev jZ:=@PyProof.Rows.boot_isinstance
abbrev lj:=@PySem.call_meets
abbrev lA:=@List.map_append
abbrev lC:=@PySem.IntMulOk.of_bits
abbrev lF:=@Int.mul_nonneg
abbrev mC:=@PySem.wpAny_truthy_bool
abbrev mD:=@PySem.wpAny_standAt
abbrev mE:=@of_decide_eq_true
abbrev mF:=@List.replicate_succ
abbrev mG:=@Int.pow_zero
abbrev mH:=@Int.one_mul
abbrev mI:=@PySem.Heap.size_push
abbrev o9:=@congrArg
abbrev pO:=@PySem.wpAny_call
abbrev pP:=@Nat.lt_irrefl
abbrev rC:=@PySem.wpAny_seqItems
abbrev rE:=@PySem.wpAny_loadPart_at
abbrev rF:=@if_true
abbrev rH:=@decide_eq_true_iff
abbrev rJ:=@PySem.codeAny_mono
abbrev rK:=@Rat.num_divInt_den
abbrev rL:=@PySem.W.mg_of
abbrev rO:=@Nat.mul_le_mul
abbrev rP:=@List.length_take
abbrev u9:=@PySem.wpAny_passesOwn
abbrev ua:=@PySem.wpAny_of_eq
abbrev ub:=@PySem.wpAny_call_entry
abbrev uc:=@PySem.wpAny_callSpecial?_slot
abbrev ud:=@PySem.typeIs_int
abbrev uf:=@PySem.sizeLine_eq
abbrev ug:=@Rat.le_refl
abbrev uh:=@Rat.divInt_nonneg_iff_of_pos_right
abbrev ui:=@PySem.W.hideAll_get
abbrev uj:=@PyProof.Rows.callWith_type1
abbrev uk:=@Nat.le_succ
abbrev uo:=@List.take_succ
abbrev uq:=@List.of_mem_zip
abbrev ur:=@List.mem_cons_of_mem
abbrev uu:=@List.map_cons
abbrev uv:=@List.getElem?_eq_none
abbrev uw:=@List.any_cons
abbrev uy:=@Int.emod_nonneg
abbrev wM:=@PySem.wpAny_setField_rec
abbrev wN:=@PySem.wpAny_setField
abbrev wO:=@PySem.wpAny_rule
abbrev wQ:=@PySem.wpAny_loadPart'
abbrev wR:=@PySem.wpAny_Call_Name_kw
abbrev wU:=@beq_self_eq_true
abbrev wV:=@PyProof.Rows.slot_tuple_getitem
abbrev wW:=@PyProof.Rows.boot_all
abbrev wX:=@PyProof.Rows.boot_abs
abbrev wY:=@PySem.Obj.data_mapFields
abbrev wZ:=@Nat.pow_le_pow_right
abbrev x6:=@Nat.ne_of_gt
abbrev x8:=@Nat.lt_succ_of_lt
abbrev x9:=@List.mem_of_mem_take
abbrev xf:=@List.mem_iff_getElem?
abbrev xg:=@List.mem_append
abbrev xh:=@List.length_drop
abbrev xi:=@List.getElem_range
abbrev xj:=@List.getElem?_zip_eq_some
abbrev xk:=@List.flatten_cons
abbrev xn:=@List.all_cons
abbrev xo:=@Int.emod_lt_of_pos
abbrev xp:=@PySem.Heap.get?_update_self
abbrev xq:=@PySem.Heap.get?_update_other
abbrev xu:=@PySem.F.slot_int_rmul
abbrev A4:=@PySem.wpAny_pyIter_list
abbrev A5:=@PySem.wpAny_onRaise
abbrev A6:=@PySem.wpAny_execs_nil
abbrev A7:=@PySem.wpAny_attempt
abbrev A8:=@decide_eq_true_eq
abbrev A9:=@beq_eq_false_iff_ne
abbrev Aa:=@PyProof.Rows.assignInOrder_cons
abbrev Ab:=@PySem.mem_of_lookup
abbrev Ac:=@PySem.W.looks_clsIn
abbrev Ad:=@PySem.W.callWith_K
abbrev Ae:=@PySem.W.any_some
abbrev Af:=@List.take_of_length_le
abbrev Ag:=@List.take_length
abbrev Ah:=@List.length_replicate
abbrev Ai:=@List.length_range
abbrev Aj:=@List.getElem?_append_right
abbrev Ak:=@List.getElem?_append_left
abbrev Al:=@Int.mul_le_mul
abbrev Am:=@Bool.eq_false_iff
abbrev An:=@Bool.and_true
abbrev Ao:=@Bool.and_false
abbrev Gu:=@PySem.wpAny_pyIter_rangeiter
abbrev Gv:=@PySem.wpAny_loadPart
abbrev Gw:=@PySem.wpAny_isSubtype_exc
abbrev Gx:=@PySem.codeAny_call_builtin
abbrev Gy:=@Std.lt_of_le_of_ne
abbrev Gz:=@Rat.le_antisymm
abbrev GB:=@PySem.W.cellsFrom_some
abbrev GC:=@PySem.F.slot_zip_next
abbrev GF:=@PySem.F.slot_tuple_iterator_next
abbrev GG:=@PySem.PassesOwn.leaving
abbrev GH:=@PySem.Obj.isFreed_of_fields
abbrev GI:=@Nat.mul_comm
abbrev GJ:=@Nat.lt_of_le_of_lt
abbrev GK:=@Nat.le_of_ble_eq_true
abbrev GL:=@List.nodup_cons
abbrev GN:=@List.mem_cons_self
abbrev GO:=@List.mem_append_left
abbrev GP:=@List.length_pos_iff
abbrev GQ:=@List.length_eq_zero_iff
abbrev GR:=@List.getElem_mem
abbrev GS:=@List.getElem?_set_self
abbrev GU:=@List.getElem?_range
abbrev GW:=@List.forIn_cons
abbrev GX:=@Int.mul_ne_zero
abbrev GY:=@PySem.F.slot_tuple_mul
abbrev GZ:=@PySem.Calls.evalArgs_plain
abbrev Ha:=@Bool.not_eq_true'
abbrev Hb:=@Array.length_toList
abbrev Hc:=@Array.getElem?_eq_some_iff
abbrev OZ:=@PySem.wpAny_updateSeq_pair
abbrev P0:=@PySem.wpAny_newFunctionEnv_cells
abbrev P1:=@PySem.wpAny_newFunctionEnv
abbrev P2:=@PySem.wpAny_comprehension_free
abbrev P4:=@PySem.wpAny_binaryOp_repeat_ref
abbrev P5:=@PySem.plainObj_wpAny_Assign_Attribute
abbrev P6:=@ne_true_of_eq_false
abbrev P7:=@PySem.codeAny_compStart_list
abbrev P8:=@PySem.codeAny_call_function
abbrev P9:=@Rat.intCast_lt_intCast
abbrev Pa:=@Rat.divInt_sub_divInt
abbrev Pb:=@PySem.Within.cons
abbrev Pc:=@PySem.W.set_plain
abbrev Pe:=@PySem.W.plainGet_of
abbrev Pf:=@PySem.W.of_hideAll
abbrev Pg:=@PySem.W.looks_findIn
abbrev Ph:=@PySem.W.hideAll_none
abbrev Pj:=@PySem.W.codeRec_of
abbrev Pk:=@PySem.F.slot_tuple_add
abbrev Pl:=@PySem.F.entry_tuple_add
abbrev Pm:=@PySem.F.args_tuple_add_2
abbrev Po:=@PyProof.Rows.boot_str
abbrev Pp:=@Option.map_eq_some_iff
abbrev Pq:=@Option.bind_eq_some_iff
abbrev Pr:=@Nat.lt_succ_self
abbrev Pt:=@List.getLast?_eq_some_getLast
abbrev Pu:=@List.getElem?_set_ne
abbrev Pw:=@List.getD_eq_getElem?_getD
abbrev Px:=@List.filterMap_cons
abbrev Py:=@List.ext_getElem?
abbrev PB:=@List.contains_cons
abbrev PD:=@Int.toNat_natCast
abbrev PF:=@Int.mul_nonneg_of_nonpos_of_nonpos
abbrev PH:=@PySem.Heap.get?_push_cases
abbrev PJ:=@PySem.Heap.SameBut.update
abbrev PK:=@PySem.F.slot_range_reversed
abbrev a7m:=@PySem.F.slot_range_iterator_next
abbrev a7n:=@PySem.F.entry_tuple_iterator_next
abbrev a7o:=@PySem.F.args_tuple_iterator_next_1
abbrev a7p:=@List.mk_mem_zipIdx_iff_getElem?
abbrev a7q:=@Int.mul_le_mul_of_nonneg_left
abbrev a7r:=@Array.all_eq_true_iff_forall_mem
namespace _L
open PySem PySem.Spec PyProof.Rows
abbrev Key:=Sum Int Str
def Mb:Key->Value->Bool | .inl k,v=>Value.isInt k v | .inr x,v=>Value.isStrOf x v
def Yw(w:World):Key->Int | .inl k=>hashInt k | .inr x=>hashStr w x
theorem nj:∀{k:Key}{v:Value},Mb k v=true->(∃i t,k=Sum.inl i/\v=Value.int i t)\/(∃x t,k=Sum.inr x/\v=Value.str x t) | .inl i,v,h=>by obtain⟨t,e⟩:=Value.isInt_shape (k:=i) (v:=v) h;exact .inl ⟨i,t,Z,e⟩ | .inr x,v,h=>by obtain⟨t,e⟩:=Value.isStrOf_shape (x:=x) (v:=v) h;exact .inr ⟨x,t,Z,e⟩
theorem Yv(a b:Int):decide ((Sum.inl a:Key)=Sum.inl b)=(a==b):=by
 by_cases e:a=b
 ·subst e;simp
 ·have h:¬(Sum.inl a:Key)=Sum.inl b:=λq=>e (Sum.inl.inj q)
  rw[df h];exact(A9.mpr e).symm
theorem Ys(a b:Str):decide ((Sum.inr a:Key)=Sum.inr b)=decide (a=b):=by
 by_cases e:a=b
 ·subst e;simp
 ·have h:¬(Sum.inr a:Key)=Sum.inr b:=λq=>e (Sum.inr.inj q)
  rw[df h,df e]
theorem Yu(a:Int)(b:Str):decide ((Sum.inl a:Key)=Sum.inr b)=false:=df (λq=>nomatch q)
theorem Yt(a:Str)(b:Int):decide ((Sum.inr a:Key)=Sum.inl b)=false:=df (λq=>nomatch q)
def DF(prog:af)(w:World):PySem.KeyKind prog w Key where
 is:=Mb
 hash:=Yw w
 inj:=λv a b ha hb=>by
  rcases nj ha with⟨i,t,rfl,rfl⟩|⟨x,t,rfl,rfl⟩
  ·rcases nj hb with⟨j,u,rfl,e⟩|⟨y,u,rfl,e⟩
   ·injection e with e1 _;rw[e1]
   ·exact nomatch e
  ·rcases nj hb with⟨j,u,rfl,e⟩|⟨y,u,rfl,e⟩
   ·exact nomatch e
   ·injection e with e1 _;rw[e1]
 byValue:=λk v h=>by rcases nj h with⟨i,t,rfl,rfl⟩|⟨x,t,rfl,rfl⟩<;>rfl
 pyHash:=λhv h=>by
  rcases nj hv with⟨i,t,rfl,rfl⟩|⟨x,t,rfl,rfl⟩
  ·exact wpAny_pyHash_int h
  ·exact wpAny_pyHash_str h
 eqBool:=λhu hv h=>by
  rcases nj hu with⟨i,t,rfl,rfl⟩|⟨x,t,rfl,rfl⟩
  ·rcases nj hv with⟨j,u,rfl,rfl⟩|⟨y,u,rfl,rfl⟩
   ·rw[Yv]at h;exact wpAny_eqBool_int h
   ·rw[Yu]at h;exact SeqAt.EqAt.int_str i t y u _ _ _ _ h
  ·rcases nj hv with⟨j,u,rfl,rfl⟩|⟨y,u,rfl,rfl⟩
   ·rw[Yt]at h;exact SeqAt.EqAt.str_int x t j u _ _ _ _ h
   ·rw[Ys]at h;exact wpAny_eqBool_str h
 «strs»:=λk x t v h=>by
  rcases nj h with⟨i,u,rfl,e⟩|⟨y,u,rfl,e⟩
  ·exact nomatch e
  ·injection e with e1 _
   subst e1;cases v<;>rfl
inductive V where |aY|bl (b:Bool)|int (i:Int)|str (x:Str)|jf (b:Array UInt8)|zt (b:UInt64)|ref (a:Addr)|ty (n:String) deriving DecidableEq
def RelV:V->Value->Prop | .aY,u=>u=Value.none | .bl b,u=>u=Value.bool b | .int i,u=>∃t,u=Value.int i t | .str x,u=>∃t,u=Value.str x t | .jf b,u=>∃t,u=Value.bytes b t | .zt b,u=>∃t,u=Value.float b t | .ref a,u=>u=Value.ref a | .ty n,u=>u=Value.type n
abbrev Vals:List V->List Value->Prop:=Paired RelV
theorem Vals.length{xs:List V}{us:List Value}(r:Vals xs us):xs.length=us.length:=Paired.length r
theorem Vals.get:∀{xs:List V}{us:List Value}{i:Nat}{x:V},Vals xs us->xs[i]? =some x->∃u,us[i]? =some u/\RelV x u |_,_,_,_,.nil,e=>by simp at e |_,_,0,_,.cons r _,e=>by simp at e;subst e;exact⟨_,rfl,r⟩ |_,_,i+1,x,.cons _ t,e=>by obtain⟨u,h1,h2⟩:=Vals.get (i:=i) (x:=x) t (by simpa using e);exact⟨u,by simpa using h1,h2⟩
theorem Vals.set{x:V}{u:Value}(r:RelV x u):∀{xs:List V}{us:List Value}(i:Nat),Vals xs us->Vals (xs.set i x) (us.set i u) |_,_,_,.nil=>.nil |_,_,0,.cons _ t=>.cons r t |_,_,i+1,.cons q t=>.cons q (Vals.set r i t)
theorem Vals.append:∀{xs ys:List V}{us ws:List Value},Vals xs us->Vals ys ws->Vals (xs++ys) (us++ws) |_,_,_,_,.nil,s=>s |_,_,_,_,.cons r t,s=>.cons r (Vals.append t s)
theorem Vals.take:∀{xs:List V}{us:List Value}(n:Nat),Vals xs us->Vals (xs.take n) (us.take n) |_,_,0,_=>.nil |_,_,_+1,.nil=>.nil |_,_,n+1,.cons r t=>.cons r (Vals.take n t)
theorem Vals.drop:∀{xs:List V}{us:List Value}(n:Nat),Vals xs us->Vals (xs.drop n) (us.drop n) |_,_,0,r=>r |_,_,_+1,.nil=>.nil |_,_,n+1,.cons _ t=>Vals.drop n t
def mr:Option V->Option Value->Prop |some v,some u=>RelV v u |none,none=>True |_,_=>False
def KV{κ:Type}:List (κ×V)->List (κ×Value)->Prop:=Paired λ(p:κ×V)(q:κ×Value)=>p.1=q.1/\RelV p.2 q.2
def kV:Key->V | .inl i=>.int i | .inr x=>.str x
inductive HO where /--a list -/ |lst (xs:List V) /--a tuple (never changes) -/ |tup (xs:List V) /--a dict PZ keys are ints and texts; one PZ keys are tuples of ints and texts (rW empty one is both) -/ |dK (dj:List (Key×V))|dT (dj:List (List Key×V)) /--a set of ints: its members,its size -/ |set (S:Int->Bool)(n:Nat) /--an instance of rW class at C,its dict at dx,its attributes -/ |ins (C dx:Addr)(fs:List (Str×V)) /--rW dict of rW instance at x -/ |own (x:Addr) /--rW dict of an exception -/ |xd (fs:List (Str×V)) /--a bound method,f of x -/ |met (f x:Addr) /--a range object lo,lo+1,.. below hi -/ |qf (lo hi:Int) /--a QD a7u is known to rW object (rW a7z; a dict while a loop walks it): read,never written while it is so -/ |kT (o:Obj)(u:HO) /--a code a7H table -/ |mM (ps:Array Value) /--any other QD,by what is true of its one object (a def of a7G own: a8s a S n:=HO.ext λh=>..) -/ |ext (φ:Heap->Prop)
abbrev Hp:=Addr->Option HO
def upd(H:Hp)(a:Addr)(o:HO):Hp:=λb=>if b=a then some o else H b
theorem bp{H:Hp}{a:Addr}{o:HO}:upd H a o a=some o:=by unfold upd;rw[bo rfl]
theorem aL{H:Hp}{a b:Addr}{o:HO}(h:b≠a):upd H a o b=H b:=by unfold upd;rw[bh h]
theorem Dx{H:Hp}{a b:Addr}{o u:HO}(h:H a=some o)(h':H b=some u)(d:o≠u):a≠b:=by intro e;subst e;rw[h]at h';exact d (dW h')
theorem eH{H:Hp}{a b:Addr}{o:HO}(h:H a=some o)(h':H b=none):a≠b:=by intro e;subst e;rw[h]at h';cases h'
section
variable (P:af) (w:World)
def eQ(H:Hp)(h:Heap)(a:Addr):HO->Prop | .lst xs=>xs.length<=sizeLine/\∃(its:List Value)(n:Nat),Vals xs its/\h.get? a=some {cls:=.type "list",data:=.seq its.toArray n} | .tup xs=>xs.length<=sizeLine/\∃its:List Value,Vals xs its/\IsTup h a its.toArray | .dK dj=>dj.length<=sizeLine/\(a==sysModules)=false/\∃vs,KV dj vs/\h.DictOf (DF P w) a vs | .dT dj=>dj.length<=sizeLine/\(a==sysModules)=false/\∃xs:List (List Key×Addr×Value),Paired (λ(p:List Key×V)(q:List Key×Addr×Value)=>p.1=q.1/\H q.2.1=some (.tup (p.1.map kV))/\RelV p.2 q.2.2) dj xs/\∃o es ep,h.get? a=some o/\o.ExactDict/\o.data= .dict es ep/\es.toList=xs.map (entryOfKey (tupleKind (DF P w)))/\(xs.map (·.1)).Nodup | .set S n=>h.SetOf (intKind P w) a S n | .ins C dx fs=>H dx=some (.own a)/\fs.length<=1000/\dx≠a/\h.get? a=some (PySem.W.instObj C dx)/\∃mA,h.Ns1 dx mA/\(∀f,mr (fs.lookup f) (mA f))/\PySem.Within mA (fs.map (·.1)) | .own _=>∃o,h.get? a=some o | .xd fs=>∃mA,h.Ns1 a mA/\∀f,mr (fs.lookup f) (mA f) | .qf lo hi=>∃t u v,h.get? a=some {cls:=.type "range",data:=.fields #[.int lo t,.int hi u,.int 1 v]} | .kT o u=>h.get? a=some o/\eQ H h a u | .mM ps=>h.get? a=some {cls:=.none,data:=.fields ps} | .met f x=>h.get? a=some (PySem.W.methodObj (.ref f) (.ref x)) | .ext φ=>φ h/\(∃o,h.get? a=some o)/\∀h1 h2:Heap,φ h1->(∀o,h1.get? a=some o->h2.get? a=some o)->φ h2
def dv(H:Hp)(h:Heap):Prop:=∀a o,H a=some o->eQ P w H h a o
end
section
variable {P:af}{w:World}{H H':Hp}{h h':Heap}{a:Addr}{o:HO}
theorem eQ.lt(x:eQ P w H h a o):a<h.objs.size:=by cases o with |lst xs=>obtain⟨_,_,_,_,e⟩:=x;exact bP e |tup xs=>obtain⟨_,_,_,p⟩:=x;exact p.lt |dK dj=>obtain⟨_,_,_,_,o,_,_,e,_⟩:=x;exact bP e |dT dj=>obtain⟨_,_,_,_,o,_,_,e,_⟩:=x;exact bP e |set S n=>obtain⟨o,_,_,_,e,_⟩:=x;exact bP e |ins C dx fs=>obtain⟨_,_,_,e,_⟩:=x;exact bP e |own y=>obtain⟨_,e⟩:=x;exact bP e |xd fs=>obtain⟨_,⟨_,_,_,e,_⟩,_⟩:=x;exact bP e |qf lo hi=>obtain⟨_,_,_,e⟩:=x;exact bP e |kT ob u=>obtain⟨e,_⟩:=x;exact bP e |mM ps=>exact bP (show h.get? a=some _ from x) |met f y=>exact bP (show h.get? a=some _ from x) |ext φ=>obtain⟨_,⟨_,e⟩,_⟩:=x;exact bP e
theorem Paired.LK{α β:Type}{F G:α->β->Prop}:∀{l₁:List α}{l₂:List β},Paired F l₁ l₂->(∀a b,F a b->G a b)->Paired G l₁ l₂ |_,_,.nil,_=>.nil |_,_,.cons r t,f=>.cons (f _ _ r) (Paired.LK t f)
theorem eQ.jD(x:eQ P w H h a o)(k:∀b u,(b=a\/H b=some (.own a))->h.get? b=some u->h'.get? b=some u) (ho:∀b,H b=some (.own a)->H' b=some (.own a))(ht:∀b xs,H b=some (.tup xs)->H' b=some (.tup xs)):eQ P w H' h' a o:=by induction o with |lst xs=>obtain⟨z,its,n,r,e⟩:=x;exact⟨z,its,n,r,k _ _ (.inl Z) e⟩ |tup xs=>obtain⟨z,its,r,ob,e,c⟩:=x;exact⟨z,its,r,ob,k _ _ (.inl Z) e,c⟩ |dK dj=>obtain⟨z,y,vs,r,ob,es,ep,e,c⟩:=x;exact⟨z,y,vs,r,ob,es,ep,k _ _ (.inl Z) e,c⟩ |dT dj=>obtain⟨z,y,xs,r,ob,es,ep,e,c⟩:=x;exact⟨z,y,xs,Paired.LK r λp q z=>⟨z.1,ht _ _ z.2.1,z.2.2⟩,ob,es,ep,k _ _ (.inl Z) e,c⟩ |set S n=>obtain⟨ob,es,ep,t,e,c⟩:=x;exact⟨ob,es,ep,t,k _ _ (.inl Z) e,c⟩ |ins C dx fs=>obtain⟨d,z,ne,e,mA,⟨od,es,ep,e2,c⟩,r⟩:=x;exact⟨ho _ d,z,ne,k _ _ (.inl Z) e,mA,⟨od,es,ep,k _ _ (.inr d) e2,c⟩,r⟩ |own y=>obtain⟨ob,e⟩:=x;exact⟨ob,k _ _ (.inl Z) e⟩ |xd fs=>obtain⟨mA,⟨od,es,ep,e,c⟩,r⟩:=x;exact⟨mA,⟨od,es,ep,k _ _ (.inl Z) e,c⟩,r⟩ |qf lo hi=>obtain⟨t,u,v,e⟩:=x;exact⟨t,u,v,k _ _ (.inl Z) e⟩ |kT ob u ih=>obtain⟨e,q⟩:=x;exact⟨k _ _ (.inl Z) e,ih q⟩ |mM ps=>have e:h.get? a=some {cls:=.none,data:=.fields ps}:=x;show h'.get? a=some {cls:=.none,data:=.fields ps};exact k a _ (.inl Z) e |met f y=>have e:h.get? a=some (PySem.W.methodObj (.ref f) (.ref y)):=x;show h'.get? a=some (PySem.W.methodObj (.ref f) (.ref y));exact k a _ (.inl Z) e |ext φ=>obtain⟨p,⟨o,e⟩,st⟩:=x;exact⟨st _ _ p λo q=>k _ _ (.inl Z) q,⟨o,k _ _ (.inl Z) e⟩,st⟩
theorem dv.lt(x:dv P w H h)(e:H a=some o):a<h.objs.size:=(x a o e).lt
theorem dv.fresh(x:dv P w H h)(e:h.objs.size<=a):H a=none:=by cases q:H a with |none=>rfl |some u=>exact absurd (fK (x.lt q) e) (pP _)
theorem dv.kept(x:dv P w H h)(k:∀b u,h.get? b=some u->h'.get? b=some u):dv P w H h':=λa o e=>(x a o e).jD (λb u _ q=>k b u q) (λ_ q=>q) λ_ _ q=>q
theorem dv.laid(x:dv P w H h)(k:∀b u,h.get? b=some u->h'.get? b=some u)(hp:h.objs.size<=a)(new:eQ P w (upd H a o) h' a o):dv P w (upd H a o) h':=λb u e=>by
 have hn:=x.fresh hp;by_cases hb:b=a
 ·subst hb;rw[bp]at e;cases e;exact new
 ·rw[aL hb]at e
  exact(x b u e).jD (λc v _ q=>k c v q) (λc q=>by rw[aL (eH q hn)];exact q) λc xs q=>by rw[aL (eH q hn)];exact q
end
def Rd(H:Hp)(a:Addr)(u:HO):Prop:=H a=some u\/∃o,H a=some (.kT o u)
theorem Rd.ok{P:af}{w:World}{H:Hp}{h:Heap}{a:Addr}{u:HO}(r:Rd H a u)(x:dv P w H h):eQ P w H h a u:=by
 rcases r with r|⟨o,r⟩
 ·exact x a u r
 ·obtain⟨_,q⟩:=x a _ r
  exact q
def zY:Option HO->Prop |some (.lst _)=>True |some (.dK _)=>True |some (.dT _)=>True |some (.set _ _)=>True |some (.ins _ _ _)=>True |some (.ext _)=>True |_=>False
section
variable {P:af}{w:World}{H:Hp}{h h':Heap}{x e:Addr}{o':HO}
theorem dv.write(ok:dv P w H h)(mu:zY (H x))(he:e=x\/H e=some (.own x))(k:∀b u,b≠e->h.get? b=some u->h'.get? b=some u)(tJ:∃u,h'.get? e=some u) (new:eQ P w (upd H x o') h' x o'):dv P w (upd H x o') h':=λb u q=>by
 have Lk:∀c y,H c=some (.own y)->c≠x:=λc y r z=>by subst z;rw[r]at mu;exact mu
 have Wy:∀c xs,H c=some (.tup xs)->c≠x:=λc xs r z=>by subst z;rw[r]at mu;exact mu
 by_cases hb:b=x
 ·subst hb;rw[bp]at q;cases q;exact new
 ·rw[aL hb]at q
  by_cases qP:b=e
  ·have q':H b=some (.own x):=by
    rcases he with z|z
    ·exact absurd (qP.trans z) hb
    ·rw[qP];exact z
   rw[q]at q';cases q';obtain⟨v,hv⟩:=tJ;exact⟨v,by rw[qP];exact hv⟩
  ·refine(ok b u q).jD (λc v hc r=>k c v ?_ r) (λc r=>by rw[aL (Lk c b r)];exact r) λc xs r=>by rw[aL (Wy c xs r)];exact r
   rcases hc with rfl|hc
   ·exact qP
   ·rintro rfl
    rcases he with z|z
    ·exact Lk c b hc z
    ·rw[hc]at z;cases z;exact hb rfl
end
structure Un(fs ex:List Addr)(H H':Hp)(h h':Heap):Prop where
 keep:∀b o,h.get? b=some o->H b=none->b∉fs->b∉ex->h'.get? b=some o
 slot:∀b o,h.get? b=some o->H b=none->b∈fs->b∉ex->∃sl,h'.get? b=some {o with slots:=sl}
 free:∀b o,h.get? b=some o->H b=none->b∉ex->H' b=none
 there:∀b o,h.get? b=some o->b∉ex->∃o',h'.get? b=some o'
 gZ:∀b xs,H b=some (.tup xs)->H' b=some (.tup xs)
 gX:∀b o u,H b=some (.kT o u)->H' b=some (.kT o u)
 hU:∀b ps,H b=some (.mM ps)->∃more,H' b=some (.mM (ps++more))
section
variable {fs ir ex ix:List Addr}{H H1 H2:Hp}{h h1 h2 h':Heap}{a x e:Addr}{o:HO}
theorem Un.any(u:Un fs ex H H1 h h1){b:Addr}{ob:Obj}(q:h.get? b=some ob)(n:H b=none)(hx:b∉ex):∃sl,h1.get? b=some {ob with slots:=sl}:=by
 by_cases hb:b∈fs
 ·exact u.slot b ob q n hb hx
 ·exact⟨ob.slots,u.keep b ob q n hb hx⟩
theorem Un.kept(k:∀b u,h.get? b=some u->h'.get? b=some u):Un fs ex H H h h':=⟨λb ob q _ _ _=>k b ob q,λb ob q _ _ _=>⟨ob.slots,k b ob q⟩,λ_ _ _ n _=>n,λb ob q _=>⟨ob,k b ob q⟩,λ_ _ q=>q,λ_ _ _ q=>q,λ_ ps q=>⟨#[],by rw[q];simp⟩⟩
theorem Un.refl:Un fs ex H H h h:=Un.kept λ_ _ q=>q
theorem Un.laid(k:∀b u,h.get? b=some u->h'.get? b=some u)(hp:h.objs.size<=a)(hn:H a=none):Un fs ex H (upd H a o) h h' where
 keep:=λb u q _ _ _=>k b u q
 slot:=λb u q _ _ _=>⟨u.slots,k b u q⟩
 free:=λb u q n _=>by rw[aL (dg (fK (bP q) hp))];exact n
 there:=λb u q _=>⟨u,k b u q⟩
 gZ:=λb xs q=>by rw[aL (eH q hn)];exact q
 gX:=λb u xs q=>by rw[aL (eH q hn)];exact q
 hU:=λb ps q=>⟨#[],by rw[aL (eH q hn),q];simp⟩
theorem Un.write(mu:zY (H x))(he:e=x\/H e=some (.own x))(k:∀b u,b≠e->h.get? b=some u->h'.get? b=some u)(tJ:∃u,h'.get? e=some u):Un fs ex H (upd H x o) h h':=by
 have hx:∀b,H b=none->b≠x:=λb n z=>by subst z;rw[n]at mu;exact mu
 have hb:∀b,H b=none->b≠e:=λb n z=>by
  subst z;rcases he with r|r
  ·exact hx b n r
  ·rw[n]at r;cases r
 have hm:∀b u,H b=some u->¬zY (some u)->b≠x:=λb u q nm z=>by subst z;rw[q]at mu;exact nm mu
 refine⟨λb u q n _ _=>k b u (hb b n) q,λb u q n _ _=>⟨u.slots,k b u (hb b n) q⟩,λb u q n _=>by rw[aL (hx b n)];exact n,λb u q _=>?_,λb xs q=>by rw[aL (hm b _ q λz=>z)];exact q,λb u xs q=>by rw[aL (hm b _ q λz=>z)];exact q,λb ps q=>⟨#[],by rw[aL (hm b _ q λz=>z),q];simp⟩⟩;by_cases qP:b=e
 ·subst qP;exact tJ
 ·exact⟨u,k b u qP q⟩
end
def xI(h:Heap)(H:Hp):List Addr:=(List.range h.objs.size).filter λa=>(H a).isSome
def nG(h:Heap)(H:Hp):Heap:=PySem.W.hideAll h (xI h H)
theorem ZW(h:Heap)(H:Hp):(nG h H).objs.size=h.objs.size:=PySem.W.hideAll_size _ _
theorem ZX{h:Heap}{H:Hp}{b:Addr}{o:Obj}(e:h.get? b=some o)(n:H b=none):(nG h H).get? b=some o:=ui _ e λhm=>by have q:(H b).isSome=true:=(List.mem_filter.mp hm).2;rw[n]at q;simp at q
theorem Ws{h:Heap}{H:Hp}{b:Addr}{o:Obj}(e:(nG h H).get? b=some o):h.get? b=some o/\H b=none:=by have e':h.get? b=some o:=Pf (xI h H) e;refine⟨e',?_⟩;cases q:H b with |none=>rfl |some x=>have hm:b∈xI h H:=List.mem_filter.mpr ⟨List.mem_range.mpr (bP e'),by simp[q]⟩;have z:(nG h H).get? b=none:=Ph (xI h H) hm;rw[z]at e;cases e
structure Mod(K:aa)(mg:bc)(au:Heap):Prop where
 jN:K.In au
 glob:au.Ns mainGlobals mg
 blt:∃mb,au.Ns builtinsNs mb/\∀x:Str,x≠"__name__"->mb x=bootBuiltins x
 nolimit:au.NoLimit
structure Cx where
 prog:af
 w:World
 K:aa
 mg:bc
 au:Heap
 A:ai
 N:List Str
 s₀:ae
 H₀:Hp
 env:Env
 outer:List Env
 stack:List Env
 ex:List Addr
 fn:Str->Bool
 calm:Bool
 pn:List (Addr×Obj)
 xe:Value->ae->Prop
def cS(l:List Env):List Addr:=l.filterMap (·.frame)
abbrev Cx.fs(X:Cx):List Addr:=cS X.outer
def Gb(sc:Scope)(x:Str):Prop:=sc.names.lookup x=some .local\/sc.names.lookup x=some .cell\/sc.names.lookup x=some .free
def Loc(sc:Scope)(x:Str):Prop:=sc.names.lookup x=some .local\/sc.names.lookup x=some .cell
def Look(env:Env)(h:Heap)(m:bc)(x:Str)(u:Value):Prop:=(env.kindOf x=some .local/\m x=some u)\/((env.kindOf x=some .cell\/env.kindOf x=some .free)/\∃c,env.cells.lookup x=some c/\h.IsCell c (some u))
structure Cx.Ok(X:Cx):Prop where
 mod:Mod X.K X.mg X.au
 kind:X.env.scope.kind= .function
 glob:X.env.globals=mainGlobals
 blt:X.env.builtins=builtinsNs
 above:X.s₀.heap.objs.size<=X.env.locals
 inj:∀x y c,X.env.cells.lookup x=some c->X.env.cells.lookup y=some c->x=y
 has:∀x,(X.env.kindOf x=some .cell\/X.env.kindOf x=some .free)->∃c,X.env.cells.lookup x=some c
 pG:∀x c,X.fn x=true->X.env.cells.lookup x=some c->X.s₀.heap.objs.size<=c
 hd:X.calm=true->X.A.handled=none
 frames:X.A.frames=some X.stack
 pX:X.stack=X.outer\/(X.stack=X.env::X.outer/\X.env.frame=some X.env.locals)
 vY:∀b∈X.ex,b≠X.env.locals/\∀x c,X.env.cells.lookup x=some c->c≠b
 bs:∀b o,X.au.get? b=some o->X.s₀.heap.get? b=some o/\X.H₀ b=none
 jv:X.au.objs.size<=X.s₀.heap.objs.size
 oJ:∀b o,X.au.get? b=some o->b∉X.ex
 mi:∀b∈X.ex,b∉X.fs
 iq:X.s₀.heap.FunFrames X.au X.outer
 kU:∀b∈X.fs,X.H₀ b=none
structure Inv(X:Cx)(ak:List (Addr×Obj))(O:List (Option V))(H:Hp)(s:ae):Prop where
 ok:X.Ok
 os:s.os=X.s₀.os
 bare:AllBare s.gens
 au:Un X.fs X.ex X.H₀ H X.s₀.heap s.heap
 loc:∃m,s.heap.Ns X.env.locals m/\∀(i:Nat)(x:Str)(v:V),X.N[i]? =some x->O[i]? =some (some v)->Gb X.env.scope x->∃u,RelV v u/\Look X.env s.heap m x u
 cell:∀x c,X.env.cells.lookup x=some c->∃v,s.heap.IsCell c v
 free:H X.env.locals=none
 iL:∀x c,X.env.cells.lookup x=some c->H c=none
 pin:∀p∈X.pn++ak,s.heap.get? p.1=some p.2/\H p.1=none/\p.1≠X.env.locals/\p.1∉X.fs/\∀v,p.2.data≠ .cell v
 aU:dv X.prog X.w H s.heap
 len:O.length=X.N.length
section
variable {X:Cx}{ak:List (Addr×Obj)}{O:List (Option V)}{H H':Hp}{s:ae}{h':Heap}
theorem Cx.Ok.WO(ok:X.Ok){b:Addr}{o:Obj}(e:X.au.get? b=some o):b∉X.fs:=λhb=>by have:=(ok.iq.mem hb).1;rw[e]at this;cases this
theorem Inv.bs(I:Inv X ak O H s):∀b o,X.au.get? b=some o->s.heap.get? b=some o/\H b=none:=λb o e=>⟨I.au.keep b o (I.ok.bs b o e).1 (I.ok.bs b o e).2 (I.ok.WO e) (I.ok.oJ b o e),I.au.free b o (I.ok.bs b o e).1 (I.ok.bs b o e).2 (I.ok.oJ b o e)⟩
theorem Inv.bk(I:Inv X ak O H s):∀b o,X.au.get? b=some o->s.heap.get? b=some o:=λb o e=>(I.bs b o e).1
theorem Inv.mod(I:Inv X ak O H s):Mod X.K X.mg X.au:=I.ok.mod
theorem Inv.dG(I:Inv X ak O H s):X.K.In s.heap:=I.ok.mod.jN.keeps I.bk
theorem Inv.lt(I:Inv X ak O H s):X.env.locals<s.heap.objs.size:=let⟨_,hn,_⟩:=I.loc;hn.lt
theorem Inv.sz(I:Inv X ak O H s):X.s₀.heap.objs.size<=s.heap.objs.size:=fz I.ok.above (Nat.le_of_lt I.lt)
theorem Inv.WM(I:Inv X ak O H s){a:Addr}(h:s.heap.objs.size<=a):a∉X.fs:=λhb=>by obtain⟨_,o,ho,_⟩:=I.ok.iq.mem hb;exact absurd (fK (bP ho) (fz I.sz h)) (pP _)
theorem Inv.kY(I:Inv X ak O H s):∀x c,X.env.cells.lookup x=some c->c≠X.env.locals:=λx c e z=>by obtain⟨v,o,ho,hd⟩:=I.cell x c e;obtain⟨m,⟨o',es,ep,kK,Es,_⟩,_⟩:=I.loc;rw[z,kK]at ho;cases ho;rw[Es]at hd;cases hd
theorem Inv.iq(I:Inv X ak O H s):s.heap.FunFrames X.au X.outer:=by
 have all:∀(l:List Env),(∀b∈cS l,b∈X.fs)->X.s₀.heap.FunFrames X.au l->s.heap.FunFrames X.au l:=by intro l;induction l with |nil=>intro _ _;trivial |cons env r ih=>intro hs hl;obtain⟨hk,⟨L,o,hf,hn,ho,hd⟩,hr⟩:=hl;have hL:L∈X.fs:=hs L (by unfold cS;rw[Px,hf];exact GN);obtain⟨sl,e⟩:=I.au.slot L o ho (I.ok.kU L hL) hL λz=>I.ok.mi L z hL;exact⟨hk,⟨L,_,hf,hn,e,hd⟩,ih (λb hb=>hs b (by unfold cS;rw[Px,hf];exact ur _ hb)) hr⟩
 exact all X.outer (λ_ hb=>hb) I.ok.iq
theorem Inv.stack(I:Inv X ak O H s):s.heap.FunFrames X.au X.stack:=by
 rcases I.ok.pX with e|⟨e,hf⟩
 ·rw[e];exact I.iq
 ·rw[e]
  obtain⟨m,hn,_⟩:=I.loc;refine .cons (by rw[I.ok.kind];decide) hf hn ?_ I.iq;exact Heap.get?_none_of_le (fz I.ok.jv I.ok.above)
theorem Inv.AD(I:Inv X ak O H s):∀b∈cS X.stack,b∈X.env.locals::X.fs:=λb hb=>by
 rcases I.ok.pX with e|⟨e,hf⟩
 ·rw[e]at hb;exact ur _ hb
 ·rw[e]at hb
  unfold cS at hb;rw[Px,hf]at hb;exact hb
theorem Inv.rZ(I:Inv X ak O H s):∀b∈cS X.stack,H b=none:=λb hb=>by
 rcases bZ.mp (I.AD b hb)with e|hb
 ·rw[e];exact I.free
 ·obtain⟨_,o,ho,_⟩:=I.ok.iq.mem hb
  exact I.au.free b o ho (I.ok.kU b hb) λz=>I.ok.mi b z hb
theorem Inv.step{g':Array GenState}{t':Nat}{d':Drawn}{ch:List Addr}(I:Inv X ak O H s) (m8:∀b∈ch,(b∈X.ex\/X.s₀.heap.objs.size<=b)/\b≠X.env.locals/\(∀x c,X.env.cells.lookup x=some c->c≠b)/\∀p∈X.pn++ak,p.1≠b) (keep:∀b o,b≠X.env.locals->b∉X.fs->b∉ch->s.heap.get? b=some o->H b=none->h'.get? b=some o) (slot:∀b o,b≠X.env.locals->b∈X.fs->b∉ch->s.heap.get? b=some o->H b=none->∃sl,h'.get? b=some {o with slots:=sl})(free:∀b o,b∉ch->s.heap.get? b=some o->H b=none->H' b=none) (there:∀b o,b∉ch->s.heap.get? b=some o->∃o',h'.get? b=some o') (gZ:∀b xs,H b=some (.tup xs)->H' b=some (.tup xs))(gX:∀b o u,H b=some (.kT o u)->H' b=some (.kT o u))(hU:∀b ps,H b=some (.mM ps)->∃more,H' b=some (.mM (ps++more))) (ns:∀m,s.heap.Ns X.env.locals m->h'.Ns X.env.locals m)(aU:dv X.prog X.w H' h')(hg:AllBare g'): Inv X ak O H' {s with heap:=h',gens:=g',drawn:=d',toks:=t'}:=by
 have Lu:∀b o,X.s₀.heap.get? b=some o->b≠X.env.locals:=λb o e=>dg (fK (bP e) I.ok.above);have yH:∀b o,X.s₀.heap.get? b=some o->b∉X.ex->b∉ch:=λb o e hx hb=>by
  rcases(m8 b hb).1 with z|z
  ·exact hx z
  ·exact absurd (fK (bP e) z) (pP _)
 have cellK:∀x c,X.env.cells.lookup x=some c->∀v,s.heap.IsCell c v->h'.IsCell c v:=λx c e v ⟨o,ho,hd⟩=>by
  have vk:c∉ch:=λz=>(m8 c z).2.2.1 x c e rfl;by_cases hc:c∈X.fs
  ·obtain⟨sl,q⟩:=slot c o (I.kY x c e) hc vk ho (I.iL x c e)
   exact⟨_,q,hd⟩
  ·exact⟨o,keep c o (I.kY x c e) hc vk ho (I.iL x c e),hd⟩
 refine⟨I.ok,I.os,hg,⟨λb o e n hb hx=>?_,λb o e n hb hx=>?_,λb o e n hx=>?_,λb o e hx=>?_,λb xs e=>gZ b xs (I.au.gZ b xs e),λb o xs e=>gX b o xs (I.au.gX b o xs e),λb ps e=>?_⟩,?_,λx c e=>?_,?_,λx c e=>?_,λp hp=>?_,aU,I.len⟩
 ·exact keep b o (Lu b o e) hb (yH b o e hx) (I.au.keep b o e n hb hx) (I.au.free b o e n hx)
 ·obtain⟨sl,e1⟩:=I.au.slot b o e n hb hx
  obtain⟨AX,e2⟩:=slot b _ (Lu b o e) hb (yH b o e hx) e1 (I.au.free b o e n hx);exact⟨AX,e2⟩
 ·obtain⟨o',e1⟩:=I.au.there b o e hx
  exact free b o' (yH b o e hx) e1 (I.au.free b o e n hx)
 ·obtain⟨o',e1⟩:=I.au.there b o e hx
  exact there b o' (yH b o e hx) e1
 ·obtain⟨m1,e1⟩:=I.au.hU b ps e
  obtain⟨m2,e2⟩:=hU b _ e1;exact⟨m1++m2,by rw[e2,Array.append_assoc]⟩
 ·obtain⟨m,hn,hl⟩:=I.loc
  refine⟨m,ns m hn,λi x v e1 e2 e3=>?_⟩;obtain⟨u,r,l⟩:=hl i x v e1 e2 e3;refine⟨u,r,?_⟩;rcases l with l|⟨k,c,e,z⟩
  ·exact .inl l
  ·exact .inr ⟨k,c,e,cellK x c e _ z⟩
 ·obtain⟨v,z⟩:=I.cell x c e
  exact⟨v,cellK x c e v z⟩
 ·obtain⟨m,⟨o,_,_,ho,_⟩,_⟩:=I.loc
  exact free _ o (λz=>(m8 _ z).2.1 Z) ho I.free
 ·obtain⟨v,o,ho,hd⟩:=I.cell x c e
  exact free c o (λz=>(m8 c z).2.2.1 x c e Z) ho (I.iL x c e)
 ·obtain⟨e,n,ne,nf,d⟩:=I.pin p hp
  have vk:p.1∉ch:=λz=>(m8 p.1 z).2.2.2 p hp rfl;exact⟨keep p.1 p.2 ne nf vk e n,free p.1 p.2 vk e n,ne,nf,d⟩
theorem Inv.un{t':Nat}(I:Inv X ak O H s)(u:Un X.fs [] H H' s.heap h')(aU:dv X.prog X.w H' h'):Inv X ak O H' {s with heap:=h',toks:=t'}:=by obtain⟨m,⟨o,es,ep,ho,r⟩,_⟩:=id I.loc;obtain⟨sl,hL⟩:=u.any ho I.free (by simp);exact I.step (g':=s.gens) (d':=s.drawn) (ch:=[]) (λ_ z=>nomatch z) (λb o _ hb _ e n=>u.keep b o e n hb (by simp)) (λb o _ hb _ e n=>u.slot b o e n hb (by simp)) (λb o _ e n=>u.free b o e n (by simp)) (λb o _ e=>u.there b o e (by simp)) u.gZ u.gX u.hU (λm' hm=>by obtain⟨o',mj,Fu,kK,r'⟩:=hm;rw[ho]at kK;cases kK;exact⟨_,mj,Fu,hL,r'⟩) aU I.bare
theorem Inv.call{g':Array GenState}{t':Nat}{d':Drawn}{ch:List Addr}(I:Inv X ak O H s)(u:Un (cS X.stack) ch H H' s.heap h')(aU:dv X.prog X.w H' h')(hg:AllBare g') (m8:∀b∈ch,(b∈X.ex\/X.s₀.heap.objs.size<=b)/\b≠X.env.locals/\(∀x c,X.env.cells.lookup x=some c->c≠b)/\∀p∈X.pn++ak,p.1≠b): Inv X ak O H' {s with heap:=h',gens:=g',drawn:=d',toks:=t'}:=by obtain⟨m,⟨o,es,ep,ho,r⟩,_⟩:=id I.loc;obtain⟨sl,hL⟩:=u.any ho I.free λz=>(m8 _ z).2.1 rfl;exact I.step (ch:=ch) m8 (λb o hL hb hc e n=>u.keep b o e n (λz=>(bZ.mp (I.AD b z)).elim hL hb) hc) (λb o _ _ hc e n=>u.any e n hc) (λb o hc e n=>u.free b o e n hc) (λb o hc e=>u.there b o e hc) u.gZ u.gX u.hU (λm' hm=>by obtain⟨o',mj,Fu,kK,r'⟩:=hm;rw[ho]at kK;cases kK;exact⟨_,mj,Fu,hL,r'⟩) aU hg
theorem Inv.turned{t':Nat}{it:Addr}(I:Inv X ak O H s)(k:∀b o,b≠it->s.heap.get? b=some o->h'.get? b=some o)(hn:H it=none)(hL:it≠X.env.locals) (h1:it∈X.ex\/X.s₀.heap.objs.size<=it)(h2:∀x c,X.env.cells.lookup x=some c->c≠it)(h3:∀p∈X.pn++ak,p.1≠it):Inv X ak O H {s with heap:=h',toks:=t'}:=by
 have vj:∀b u,H b=some u->b≠it:=λb u e z=>by rw[z,hn]at e;cases e
 refine I.step (g':=s.gens) (d':=s.drawn) (ch:=[it]) (λb hb=>?_) (λb o _ _ hc e _=>k b o (λz=>hc (by simp[z])) e) (λb o _ _ hc e _=>⟨o.slots,k b o (λz=>hc (by simp[z])) e⟩) (λ_ _ _ _ n=>n) (λb o hc e=>⟨o,k b o (λz=>hc (by simp[z])) e⟩) (λ_ _ e=>e) (λ_ _ _ e=>e) (λb ps e=>⟨#[],by rw[e];simp⟩) (λm hm=>?_) (λb u e=>?_) I.bare
 ·have e:b=it:=by simpa using hb
  subst e;exact⟨h1,hL,h2,h3⟩
 ·obtain⟨o,es,ep,ho,r⟩:=hm
  exact⟨o,es,ep,k _ o (iR hL) ho,r⟩
 ·refine(I.aU b u e).jD (λc v hc q=>k c v ?_ q) (λ_ q=>q) λ_ _ q=>q
  rcases hc with z|z
  ·rw[z];exact vj b u e
  ·exact vj c _ z
theorem Inv.tok(I:Inv X ak O H s)(t:Nat):Inv X ak O H {s with toks:=t}:=I.un (h':=s.heap) (t':=t) Un.refl I.aU
theorem Inv.kept{t':Nat}(I:Inv X ak O H s)(k:∀b u,s.heap.get? b=some u->h'.get? b=some u):Inv X ak O H {s with heap:=h',toks:=t'}:=I.un (Un.kept k) (I.aU.kept k)
theorem Inv.laid{a:Addr}{o:HO}{t':Nat}(I:Inv X ak O H s)(k:∀b u,s.heap.get? b=some u->h'.get? b=some u)(hp:s.heap.objs.size<=a)(new:eQ X.prog X.w (upd H a o) h' a o): Inv X ak O (upd H a o) {s with heap:=h',toks:=t'}:=I.un (Un.laid k hp (I.aU.fresh hp)) (I.aU.laid k hp new)
theorem Inv.write{x e:Addr}{o:HO}{t':Nat}(I:Inv X ak O H s)(mu:zY (H x))(he:e=x\/H e=some (.own x))(k:∀b u,b≠e->s.heap.get? b=some u->h'.get? b=some u)(tJ:∃u,h'.get? e=some u) (new:eQ X.prog X.w (upd H x o) h' x o):Inv X ak O (upd H x o) {s with heap:=h',toks:=t'}:=I.un (Un.write mu he k tJ) (I.aU.write mu he k tJ new)
theorem Inv.KH{D6:List (Addr×Obj)}(I:Inv X ak O H s)(h:∀p∈D6,s.heap.get? p.1=some p.2/\H p.1=none/\p.1≠X.env.locals/\p.1∉X.fs/\∀v,p.2.data≠ .cell v):Inv X D6 O H s:=⟨I.ok,I.os,I.bare,I.au,I.loc,I.cell,I.free,I.iL,λp hp=>(xg.mp hp).elim (λz=>I.pin p (GO _ z)) (h p),I.aU,I.len⟩
theorem Dt{N:List Str}(hN:N.Nodup){i j:Nat}{x:Str}(a:N[i]? =some x)(b:N[j]? =some x):i=j:=by obtain⟨h1,e1⟩:=eY.mp a;obtain⟨h2,e2⟩:=eY.mp b;exact(List.getElem_inj hN).mp (e1.trans e2.symm)
theorem HI{M:Model}{A:ai}{E:Value->ae->Prop}{i:Nat}{x:Str}{v:V}{u:Value}{Q:Unit->ae->Prop}(I:Inv X ak O H s)(hN:X.N.Nodup)(hi:X.N[i]? =some x)(hx:Loc X.env.scope x)(r:RelV v u) (h:∀s',Inv X ak (O.set i (some v)) H s'->(∃a,Heap.SameBut a s.heap s'.heap/\(a=X.env.locals\/X.env.cells.lookup x=some a))->Q () s')(hf:autoParam (X.fn x=true\/X.env.scope.names.lookup x=some .local) d8_._auto_1):wpAny M A (storeName X.env x u) Q E s:=by
 obtain⟨m,hn,hl⟩:=id I.loc;have vL:(X.env.scope.kind== .class||(X.env.scope.kind== .module&&X.env.locals !=X.env.globals))=false:=by rw[I.ok.kind];rfl
 have ze:i<O.length:=by rw[I.len];exact(eY.mp hi).1
 have kY:=I.kY;have tracked:∀{a:Addr}{h':Heap},(∃o,s.heap.get? a=some o/\H a=none)->Heap.SameBut a s.heap h'->dv X.prog X.w H h':=λ{a h'} ha hs b ob e=>by
  obtain⟨_,_,oZ⟩:=ha;refine(I.aU b ob e).jD (λc w' hc q=>(hs.2 c ?_).trans q) (λ_ q=>q) λ_ _ q=>q;rintro rfl;rcases hc with rfl|hc
  ·rw[oZ]at e;cases e
  ·rw[oZ]at hc;cases hc
 rcases hx with hk|hk
 ·refine wpAny_storeName_local hk hn (λh' Eh hs=>?_) vL
  obtain⟨oL,_,_,Mx,_⟩:=id hn;refine h _ ⟨I.ok,I.os,I.bare,⟨λb o e n hb hx=>?_,λb o e n hb hx=>?_,I.au.free,λb o e hx=>?_,I.au.gZ,I.au.gX,I.au.hU⟩,⟨_,Eh,λj y v' e1 e2 e3=>?_⟩,λy c e=>?_,I.free,I.iL,λp hp=>?_,tracked ⟨oL,Mx,I.free⟩ hs,by simpa using I.len⟩ ⟨_,hs,.inl rfl⟩
  ·exact(hs.2 b (dg (fK (bP e) I.ok.above))).trans (I.au.keep b o e n hb hx)
  ·obtain⟨sl,e1⟩:=I.au.slot b o e n hb hx
   exact⟨sl,(hs.2 b (dg (fK (bP e) I.ok.above))).trans e1⟩
  ·obtain⟨o',e1⟩:=I.au.there b o e hx
   exact⟨o',(hs.2 b (dg (fK (bP e) I.ok.above))).trans e1⟩
  ·by_cases hj:j=i
   ·subst hj
    rw[hi]at e1;cases e1;rw[GS ze]at e2;cases e2;exact⟨u,r,.inl ⟨hk,by simp⟩⟩
   ·rw[Pu (iR hj)]at e2
    obtain⟨u',r',q⟩:=hl j y v' e1 e2 e3;refine⟨u',r',?_⟩;rcases q with⟨k,e⟩|⟨k,c,e,z⟩
    ·refine .inl ⟨k,?_⟩
     have:y≠x:=λe=>hj (Dt hN e1 (e▸hi));simp[this,e]
    ·exact .inr ⟨k,c,e,z.sameBut hs (kY y c e)⟩
  ·obtain⟨w',z⟩:=I.cell y c e
   exact⟨w',z.sameBut hs (kY y c e)⟩
  ·obtain⟨e,n,ne,nf,d⟩:=I.pin p hp
   exact⟨(hs.2 p.1 ne).trans e,n,ne,nf,d⟩
 ·have Ep:X.fn x=true:=by
   rcases hf with z|z
   ·exact z
   ·rw[z]at hk;cases hk
  obtain⟨c,hc⟩:=I.ok.has x (.inl hk);obtain⟨w',z⟩:=I.cell x c hc;refine wpAny_storeName_cell I.ok.kind hk hc z (λh' nL hs=>?_);obtain⟨oc,Mw,Zs⟩:=id z;refine h {s with heap:=h'} ⟨I.ok,I.os,I.bare,⟨λb o e n hb hx=>?_,λb o e n hb hx=>?_,I.au.free,λb o e hx=>?_,I.au.gZ,I.au.gX,I.au.hU⟩,⟨m,hn.sameBut hs (iR (kY x c hc)),λj y v' e1 e2 e3=>?_⟩,λy c' e=>?_,I.free,I.iL,λp hp=>?_,tracked ⟨oc,Mw,I.iL x c hc⟩ hs,by simpa using I.len⟩ ⟨c,hs,.inr hc⟩
  ·exact(hs.2 b (dg (fK (bP e) (I.ok.pG x c Ep hc)))).trans (I.au.keep b o e n hb hx)
  ·obtain⟨sl,e1⟩:=I.au.slot b o e n hb hx
   exact⟨sl,(hs.2 b (dg (fK (bP e) (I.ok.pG x c Ep hc)))).trans e1⟩
  ·obtain⟨o',e1⟩:=I.au.there b o e hx
   exact⟨o',(hs.2 b (dg (fK (bP e) (I.ok.pG x c Ep hc)))).trans e1⟩
  ·by_cases hj:j=i
   ·subst hj
    rw[hi]at e1;cases e1;rw[GS ze]at e2;cases e2;exact⟨u,r,.inr ⟨.inl hk,c,hc,nL⟩⟩
   ·rw[Pu (iR hj)]at e2
    obtain⟨u',r',q⟩:=hl j y v' e1 e2 e3;refine⟨u',r',?_⟩;rcases q with q|⟨k,c',e,z'⟩
    ·exact .inl q
    ·refine .inr ⟨k,c',e,z'.sameBut hs ?_⟩
     rintro rfl;exact hj (Dt hN e1 (I.ok.inj _ _ _ e hc▸hi))
  ·by_cases MK:c'=c
   ·subst MK;exact⟨_,nL⟩
   ·obtain⟨w2,z2⟩:=I.cell y c' e
    exact⟨w2,z2.sameBut hs MK⟩
  ·obtain⟨e,n,ne,nf,d⟩:=I.pin p hp
   refine⟨(hs.2 p.1 ?_).trans e,n,ne,nf,d⟩;intro q;rw[q,Mw]at e;have q':oc=p.2:=dW e;exact d w' (by rw[<-q'];exact Zs)
theorem rY{M:Model}{A:ai}{E:Value->ae->Prop}{i:Nat}{x:Str}{v:V}{u:Value}{Q:Unit->ae->Prop}(I:Inv X ak O H s)(hN:X.N.Nodup)(hi:X.N[i]? =some x)(hx:Loc X.env.scope x)(r:RelV v u) (h:∀s',Inv X ak (O.set i (some v)) H s'->Q () s')(hf:autoParam (X.fn x=true\/X.env.scope.names.lookup x=some .local) d8_._auto_1):wpAny M A (storeName X.env x u) Q E s:=HI I hN hi hx r (λs' I' _=>h s' I') hf
theorem Inv.wu{s':ae}{ch:List Addr}(I:Inv X ak O H s)(ho:s'.os=s.os)(u:Un (cS X.stack) ch H H' s.heap s'.heap)(aU:dv X.prog X.w H' s'.heap)(hg:AllBare s'.gens) (m8:∀b∈ch,(b∈X.ex\/X.s₀.heap.objs.size<=b)/\b≠X.env.locals/\(∀x c,X.env.cells.lookup x=some c->c≠b)/\∀p∈X.pn++ak,p.1≠b):Inv X ak O H' s':=by obtain⟨h',g',d',t',o'⟩:=s';have e:o'=s.os:=ho;subst e;exact I.call (g':=g') (t':=t') (d':=d') u aU hg m8
end
abbrev XK:=Value->Option Addr->Hp->Prop
abbrev St:=List (Option V)
abbrev VK:=V->Hp->Prop
abbrev TE:=St->Hp->VK->Prop
abbrev TT:=St->Hp->(Bool->Hp->Prop)->Prop
abbrev TA:=St->Hp->(List V->Hp->Prop)->Prop
structure Ends where
 nx:St->Hp->Prop
 rt:VK
 bk:St->Hp->Prop:=λ_ _=>False
 ct:St->Hp->Prop:=λ_ _=>False
abbrev TS:=Ends->St->Hp->Prop
def EP(X:Cx)(ak:List (Addr×Obj))(O:St)(Q:VK)(u:Value)(s':ae):Prop:=∃v H',Inv X ak O H' s'/\RelV v u/\Q v H'
def TP(X:Cx)(ak:List (Addr×Obj))(O:St)(Q:Bool->Hp->Prop)(b:Bool)(s':ae):Prop:=∃H',Inv X ak O H' s'/\Q b H'
def AP(X:Cx)(ak:List (Addr×Obj))(O:St)(Q:List V->Hp->Prop)(us:List Value)(s':ae):Prop:=∃vs H',Inv X ak O H' s'/\Vals vs us/\Q vs H'
def SP(X:Cx)(ak:List (Addr×Obj))(D:Ends)(f:Flow)(s':ae):Prop:=match f with | .next=>∃σ' H',Inv X ak σ' H' s'/\D.nx σ' H' | .brk=>∃σ' H',Inv X ak σ' H' s'/\D.bk σ' H' | .cont=>∃σ' H',Inv X ak σ' H' s'/\D.ct σ' H' | .ret u=>∃v σ' H',Inv X ak σ' H' s'/\RelV v u/\D.rt v H'
def PE(X:Cx)(e:Expr)(t:TE):Prop:=∀(ak:List (Addr×Obj))(s:ae)(O:St)(H:Hp)(Q:VK),Inv X ak O H s->t O H Q->wpAny (model X.prog X.w) X.A (eval e X.env) (EP X ak O Q) X.xe s
def PT(X:Cx)(e:Expr)(t:TT):Prop:=∀(ak:List (Addr×Obj))(s:ae)(O:St)(H:Hp)(Q:Bool->Hp->Prop),Inv X ak O H s->t O H Q->wpAny (model X.prog X.w) X.A (isTrue e X.env (eval e X.env)) (TP X ak O Q) X.xe s
def PW(X:Cx)(e:Expr)(t:TT):Prop:=∀(whole:Sem Value)(ak:List (Addr×Obj))(s:ae)(O:St)(H:Hp)(Q:Bool->Hp->Prop),Inv X ak O H s->t O H Q->wpAny (model X.prog X.w) X.A (isTrue e X.env whole) (TP X ak O Q) X.xe s
theorem PW.pt{X:Cx}{e:Expr}{t:TT}(h:PW X e t):PT X e t:=h _
def PA(X:Cx)(es:List Expr)(t:TA):Prop:=∀(pos:Pos)(ak:List (Addr×Obj))(s:ae)(O:St)(H:Hp)(Q:List V->Hp->Prop),Inv X ak O H s->t O H Q->wpAny (model X.prog X.w) X.A (spliced (backTo pos (starEach es X.env))) (AP X ak O Q) X.xe s
def PS(X:Cx)(st:Stmt)(t:TS):Prop:=∀(ak:List (Addr×Obj))(s:ae)(O:St)(H:Hp)(D:Ends),Inv X ak O H s->t D O H->wpAny (model X.prog X.w) X.A (exec st X.env) (SP X ak D) X.xe s
def eP(X:Cx)(st:List Stmt)(t:TS):Prop:=∀(ak:List (Addr×Obj))(s:ae)(O:St)(H:Hp)(D:Ends),Inv X ak O H s->t D O H->wpAny (model X.prog X.w) X.A (execs st X.env) (SP X ak D) X.xe s
theorem aR{α:Type}{t:Sem α}{Q Q':α->ae->Prop}{M:Model}{A:ai}{E:Value->ae->Prop}{s:ae}(h:wpAny M A t Q E s)(hQ:∀a s,Q a s->Q' a s):wpAny M A t Q' E s:=gr h hQ λ_ _ x=>x
section
variable {X:Cx}
inductive a5a(i:Nat)(O:St)(H:Hp)(Q:VK):Prop |mk (v:_)(h0:O[i]? =some (some v))(h1:Q v H)
def Hu(i:Nat):TE:=λO H Q=>a5a i O H Q
def tC (v:V):TE:=λ_ H Q=>Q v H
theorem Uc{i:Nat}{x:Str}{pos:Pos}(hN:X.N[i]? =some x)(hv:Gb X.env.scope x)(hd:autoParam ((x==("__debug__":Str))=false) q8_._auto_1)(dY:autoParam ((x==("__classdict__":Str))=false) q8_._auto_1):PE X (.Name x pos) (Hu i):=by
 intro ak s O H Q I h;obtain⟨v,e,h⟩:=h;obtain⟨m,hn,hl⟩:=I.loc;obtain⟨u,r,l⟩:=hl i x v hN e hv;have fin:EP X ak O Q u s:=⟨v,H,I,r,h⟩;rcases l with⟨hk,hm⟩|⟨hk,c,hc,m9⟩
 ·exact wpAny_Name (wpAny_loadName_local I.ok.kind hk hn hm fin) hd
 ·rcases hk with hk|hk
  ·exact wpAny_Name (wpAny_loadName_cell I.ok.kind hk hc m9 fin) hd
  ·exact wpAny_Name (wpAny_loadName_free I.ok.kind hk hc m9 fin dY) hd
theorem aF{i j pos}:PE X (.Constant (.int i) j pos) (tC (.int i)):=λ_ _ _ H _ I h=>wpAny_Constant_int ⟨.int i,H,I.tok _,⟨_,Z⟩,h⟩
theorem hW{b j pos}:PE X (.Constant (.bool b) j pos) (tC (.bl b)):=λ_ _ _ H _ I h=>Constant_bool ⟨.bl b,H,I,Z,h⟩
theorem hV{j pos}:PE X (.Constant .none j pos) (tC .aY):=λ_ _ _ H _ I h=>Constant_none ⟨.aY,H,I,Z,h⟩
theorem ck{x j pos}:PE X (.Constant (.str x) j pos) (tC (.str x)):=λ_ _ _ H _ I h=>Calls.Constant_str ⟨.str x,H,I.tok _,⟨_,Z⟩,h⟩
def Gl(X:Cx)(x:Str):Prop:=X.env.kindOf x=some .globalImplicit
theorem lW{E:Value->ae->Prop}{ak:List (Addr×Obj)}{s:ae}{O:St}{H:Hp}{x:Str}{u:Value}{pos:Pos}{Q:Value->ae->Prop}(I:Inv X ak O H s)(hg:Gl X x)(hm:X.mg x=some u)(h:Q u s) (hd:autoParam ((x==("__debug__":Str))=false) q8_._auto_1):wpAny (model X.prog X.w) X.A (eval (.Name x pos) X.env) Q E s:=Calls.Name_function_global I.ok.kind hg (Calls.loadGlobal_global (by rw[I.ok.glob];exact I.mod.glob.keeps I.bk) hm h) hd
theorem ng{E:Value->ae->Prop}{ak:List (Addr×Obj)}{s:ae}{O:St}{H:Hp}{x:Str}{u:Value}{pos:Pos}{Q:Value->ae->Prop}(I:Inv X ak O H s)(hg:Gl X x)(hm:X.mg x=none)(hv:bootBuiltins x=some u)(h:Q u s) (hn:autoParam (x≠"__name__") q8_._auto_1)(hd:autoParam ((x==("__debug__":Str))=false) q8_._auto_1):wpAny (model X.prog X.w) X.A (eval (.Name x pos) X.env) Q E s:=by obtain⟨mb,h1,h2⟩:=I.mod.blt;exact Calls.Name_function_global I.ok.kind hg (Calls.loadGlobal_builtin (by rw[I.ok.glob];exact I.mod.glob.keeps I.bk) hm (by rw[I.ok.blt];exact h1.keeps I.bk) ((h2 x hn).trans hv) h) hd
theorem Uh{x:Str}{v:V}{u:Value}{pos:Pos}(hg:Gl X x)(hm:X.mg x=some u)(r:RelV v u)(hd:autoParam ((x==("__debug__":Str))=false) q8_._auto_1):PE X (.Name x pos) (tC v):=λ_ _ _ H _ I h=>lW I hg hm ⟨v,H,I,r,h⟩ hd
theorem jI{x:Str}{v:V}{u:Value}{pos:Pos}(hg:Gl X x)(hm:X.mg x=none)(hv:bootBuiltins x=some u)(r:RelV v u)(hn:autoParam (x≠"__name__") q8_._auto_1)(hd:autoParam ((x==("__debug__":Str))=false) q8_._auto_1):PE X (.Name x pos) (tC v):=λ_ _ _ H _ I h=>ng I hg hm hv ⟨v,H,I,r,h⟩ hn hd
variable {a b:Expr}{ta tb:TE}{pos:Pos}
def PC(X:Cx)(op:CmpOp)(a b:Expr)(t:TE):Prop:=∀(ak:List (Addr×Obj))(s:ae)(O:St)(H:Hp)(Q:VK),Inv X ak O H s->t O H Q->wpAny (model X.prog X.w) X.A (eval a X.env) (λv s₁=>wpAny (model X.prog X.w) X.A (eval b X.env) (λu s₂=>wpAny (model X.prog X.w) X.A (compareOp op v u) (EP X ak O Q) X.xe s₂) X.xe s₁) X.xe s
inductive ItB(Q:Bool->Hp->Prop)(x:V)(H1:Hp):Prop |mk (c:_)(h0:x= .bl c)(h1:Q c H1)
def tB(t:TE):TT:=λO H Q=>t O H λx H1=>ItB Q x H1
theorem TM{op:CmpOp}{t:TE}(h:PC X op a b t)(h1:behindInMarks op b=false:=by first|exact a7I _ az az|rfl):PT X (.Compare a [op] [b] pos) (tB t):=by intro ak s O H Q I hw;refine wpAny_isTrue_Compare1 (aR (h ak s O H _ I hw) λv s1 h1=>aR h1 λu s2 h2=>aR h2 λc s3 ⟨x,H1,I1,r1,q1⟩=>?_) h1;obtain⟨d,rfl,q⟩:=q1;cases r1;exact mC ⟨H1,I1,q⟩
theorem bS{e:Expr}{t:TE}(h:PE X e t)(he:autoParam (∀whole,isTrue e X.env whole=(do let v<-whole;standAt e.pos;holding [v] (truthy v))) f8_._auto_1):PT X e (tB t):=by intro ak s O H Q I hw;refine isTrue_plain (aR (h ak s O H _ I hw) λv s1 ⟨x,H1,I1,r1,q1⟩=>?_) (he _);obtain⟨d,rfl,q⟩:=q1;cases r1;exact mC ⟨H1,I1,q⟩
variable {tA xP:TT} {rest:List Expr}
def Rm(t u:TT):TT:=λO H Q=>t O H λc H1=>if c=true then u O H1 Q else Q false H1
def QP(t u:TT):TT:=λO H Q=>t O H λc H1=>if c=true then Q true H1 else u O H1 Q
def QR(t:TT):TT:=λO H Q=>t O H λc H1=>Q (!c) H1
theorem sM(ha:PT X a tA):PW X (.BoolOp .And [a] pos) tA:=by intro wh ak s O H Q I h;refine isTrue_and (aR (ha ak s O H Q I h) λc s1 e=>?_);cases c with |true=>exact isTrue_and_nil e |false=>exact e
theorem kl(ha:PT X a tA):PW X (.BoolOp .Or [a] pos) tA:=by intro wh ak s O H Q I h;refine isTrue_or (aR (ha ak s O H Q I h) λc s1 e=>?_);cases c with |false=>exact isTrue_or_nil e |true=>exact e
theorem oB(ha:PT X a tA)(hb:PW X (.BoolOp .And (b::rest) pos) xP):PW X (.BoolOp .And (a::b::rest) pos) (Rm tA xP):=by intro wh ak s O H Q I h;refine isTrue_and (aR (ha ak s O H _ I h) λc s1 ⟨H1,I1,q1⟩=>?_);cases c with |true=>exact hb wh ak s1 O H1 Q I1 q1 |false=>exact⟨H1,I1,q1⟩
theorem kr(ha:PT X a tA)(hb:PW X (.BoolOp .Or (b::rest) pos) xP):PW X (.BoolOp .Or (a::b::rest) pos) (QP tA xP):=by intro wh ak s O H Q I h;refine isTrue_or (aR (ha ak s O H _ I h) λc s1 ⟨H1,I1,q1⟩=>?_);cases c with |true=>exact⟨H1,I1,q1⟩ |false=>exact hb wh ak s1 O H1 Q I1 q1
theorem cE(ha:PT X a tA):PT X (.UnaryOp .Not a pos) (QR tA):=by intro ak s O H Q I h;exact isTrue_not (ha ak s O H (λc H1=>Q (!c) H1) I h)
inductive a5j(tb:TE)(O:St)(Q:VK)(x:V)(H1:Hp):Prop |mk (c:_)(h0:x= .bl c)(h1:if c=true then tb O H1 Q else Q (.bl false) H1)
def Rk(ta tb:TE):TE:=λO H Q=>ta O H λx H1=>a5j tb O Q x H1
inductive a5f(Q:VK)(x:V)(H1:Hp):Prop |mk (c:_)(h0:x= .bl c)(h1:Q (.bl (!c)) H1)
def QQ(ta:TE):TE:=λO H Q=>ta O H λx H1=>a5f Q x H1
theorem sQ{op}{t:TE}(h:PE X a t):PE X (.BoolOp op [a] pos) t:=λak s O H Q I hw=>BoolOp_one (h ak s O H Q I hw)
theorem qr(ha:PE X a ta)(hb:PE X (.BoolOp .And (b::rest) pos) tb):PE X (.BoolOp .And (a::b::rest) pos) (Rk ta tb):=by intro ak s O H Q I h;refine BoolOp_and (aR (ha ak s O H _ I h) λv s1 ⟨x,H1,I1,r1,q1⟩=>?_);obtain⟨c,rfl,q1⟩:=q1;cases r1;refine mC ?_;cases c with |true=>exact hb ak s1 O H1 Q I1 q1 |false=>exact⟨.bl false,H1,I1,Z,q1⟩
theorem Ud(ha:PE X a ta):PE X (.UnaryOp .Not a pos) (QQ ta):=by intro ak s O H Q I h;refine UnaryOp_ (aR (ha ak s O H _ I h) λv s1 ⟨x,H1,I1,r1,q1⟩=>?_);obtain⟨c,rfl,q1⟩:=q1;cases r1;exact not_of (mC ⟨.bl (!c),H1,I1,Z,q1⟩)
def R8(t:TT)(ta tb:TE):TE:=λO H Q=>t O H λc H1=>if c=true then ta O H1 Q else tb O H1 Q
theorem gc{c:Expr}(hc:PT X c tA)(ha:PE X a ta)(hb:PE X b tb):PE X (.IfExp c a b pos) (R8 tA ta tb):=by intro ak s O H Q I h;refine wpAny_IfExp (aR (hc ak s O H _ I h) λd s1 ⟨H1,I1,q1⟩=>?_);cases d with |true=>exact ha ak s1 O H1 Q I1 q1 |false=>exact hb ak s1 O H1 Q I1 q1
end
def aK(K:aa)(H:Hp)(a:Addr)(xs:List V):Prop:=Rd H a (.lst xs)\/ ∃(o:Obj)(its:Array Value)(n:Nat),K.lookup a=some o/\o.cls= .type "list"/\o.dict=none/\o.data= .seq its n/\its.size<=sizeLine/\Vals xs its.toList
def aQ(K:aa)(H:Hp)(a:Addr)(xs:List V):Prop:=Rd H a (.tup xs)\/ ∃(o:Obj)(its:Array Value)(n:Nat),K.lookup a=some o/\o.cls= .type "tuple"/\o.data= .seq its n/\its.size<=sizeLine/\Vals xs its.toList
def a4Q:Value->Option V | .none=>some .aY | .bool b=>some (.bl b) | .int i _=>some (.int i) | .str x _=>some (.str x) | .bytes b _=>some (.jf b) | .float b _=>some (.zt b) | .ref a=>some (.ref a) | .type n=>some (.ty n) |_=>none
theorem RelV.abs{x:V}{u:Value}(r:RelV x u):a4Q u=some x:=by cases x with |aY=>cases r;rfl |bl _=>cases r;rfl |int _=>obtain⟨t,rfl⟩:=r;rfl |str _=>obtain⟨t,rfl⟩:=r;rfl |jf _=>obtain⟨t,rfl⟩:=r;rfl |zt _=>obtain⟨t,rfl⟩:=r;rfl |ref _=>cases r;rfl |ty _=>cases r;rfl
theorem RelV.inj{x y:V}{u:Value}(r:RelV x u)(q:RelV y u):x=y:=dW (r.abs.symm.trans q.abs)
theorem Vals.inj:∀{xs ys:List V}{us:List Value},Vals xs us->Vals ys us->xs=ys |_,_,_,.nil,.nil=>rfl |_,_,_,.cons r t,.cons r' t'=>by rw[r.inj r',Vals.inj t t']
section
variable {X:Cx}{ak:List (Addr×Obj)}{O:St}{H:Hp}{s:ae}{a:Addr}{xs ys:List V}
theorem aK.of{K:aa}(h:H a=some (.lst xs)):aK K H a xs:=.inl (.inl h)
theorem aQ.of{K:aa}(h:H a=some (.tup xs)):aQ K H a xs:=.inl (.inl h)
theorem Inv.list(I:Inv X ak O H s)(h:aK X.K H a xs):∃its:List Value,Vals xs its/\PlainL s.heap a its.toArray/\xs.length<=sizeLine:=by
 rcases h with h|⟨o,its,n,hk,hc,hd,hs,hz,r⟩
 ·obtain⟨z,its,n,r,e⟩:=h.ok I.aU
  exact⟨its,r,⟨_,n,e,Z,Z,Z⟩,z⟩
 ·refine⟨its.toList,r,⟨o,n,I.dG a o hk,hc,hd,by simpa using hs⟩,?_⟩
  have e:=r.length;simp only[Hb]at e
  lia
theorem Inv.tuple(I:Inv X ak O H s)(h:aQ X.K H a xs):∃its:List Value,Vals xs its/\IsTup s.heap a its.toArray/\xs.length<=sizeLine:=by
 rcases h with h|⟨o,its,n,hk,hc,hs,hz,r⟩
 ·obtain⟨z,its,r,p⟩:=h.ok I.aU
  exact⟨its,r,p,z⟩
 ·refine⟨its.toList,r,⟨o,I.dG a o hk,hc,n,by simpa using hs⟩,?_⟩
  have e:=r.length;simp only[Hb]at e
  lia
theorem Inv.LY(I:Inv X ak O H s)(h:aK X.K H a xs)(h':aK X.K H a ys):xs=ys:=by
 obtain⟨its,r,⟨o,n,e,_,_,d⟩,_⟩:=I.list h;obtain⟨its',r',⟨o',n',e',_,_,d'⟩,_⟩:=I.list h';rw[e]at e';cases e';rw[d]at d';injection d' with d1 _;have:its=its':=by simpa using o9 Array.toList d1
 subst this;exact r.inj r'
theorem Inv.Hn(I:Inv X ak O H s)(h:aQ X.K H a xs)(h':aQ X.K H a ys):xs=ys:=by
 obtain⟨its,r,⟨o,e,_,n,d⟩,_⟩:=I.tuple h;obtain⟨its',r',⟨o',e',_,n',d'⟩,_⟩:=I.tuple h';rw[e]at e';cases e';rw[d]at d';injection d' with d1 _;have:its=its':=by simpa using o9 Array.toList d1
 subst this;exact r.inj r'
end
abbrev Cx.iX(X:Cx)(E:Value->ae->Prop):Cx:={X with xe:=E}
abbrev Cx.lQ(X:Cx):Cx:=X.iX λ_ _=>False
theorem Cx.Ok.iX{X:Cx}(ok:X.Ok)(E:Value->ae->Prop):(X.iX E).Ok:=⟨ok.mod,ok.kind,ok.glob,ok.blt,ok.above,ok.inj,ok.has,ok.pG,ok.hd,ok.frames,ok.pX,ok.vY,ok.bs,ok.jv,ok.oJ,ok.mi,ok.iq,ok.kU⟩
theorem Cx.Ok.lH{X:Cx}{E:Value->ae->Prop}(ok:(X.iX E).Ok):X.Ok:=⟨ok.mod,ok.kind,ok.glob,ok.blt,ok.above,ok.inj,ok.has,ok.pG,ok.hd,ok.frames,ok.pX,ok.vY,ok.bs,ok.jv,ok.oJ,ok.mi,ok.iq,ok.kU⟩
section
variable {X:Cx}{ak:List (Addr×Obj)}{O:St}{H:Hp}{s:ae}{E:Value->ae->Prop}
theorem Inv.iX(I:Inv X ak O H s)(E:Value->ae->Prop):Inv (X.iX E) ak O H s:=⟨I.ok.iX E,I.os,I.bare,I.au,I.loc,I.cell,I.free,I.iL,I.pin,I.aU,I.len⟩
theorem Inv.lH(I:Inv (X.iX E) ak O H s):Inv X ak O H s:=⟨I.ok.lH,I.os,I.bare,I.au,I.loc,I.cell,I.free,I.iL,I.pin,I.aU,I.len⟩
theorem SP.lH{D:Ends}{f:Flow}{s':ae}(h:SP (X.iX E) ak D f s'):SP X ak D f s':=by cases f with |next=>obtain⟨σ',H',I,q⟩:=h;exact⟨σ',H',I.lH,q⟩ |brk=>obtain⟨σ',H',I,q⟩:=h;exact⟨σ',H',I.lH,q⟩ |cont=>obtain⟨σ',H',I,q⟩:=h;exact⟨σ',H',I.lH,q⟩ |ret u=>obtain⟨v,σ',H',I,r,q⟩:=h;exact⟨v,σ',H',I.lH,r,q⟩
theorem eP.lQ{st:List Stmt}{t:TS}(h:eP X.lQ st t):eP X st t:=λak s O H D I hw=>gr (h ak s O H D (I.iX _) hw) (λ_ _ q=>q.lH) λ_ _ z=>False.elim z
end
section
variable {X:Cx}{st:Stmt}{rest:List Stmt}{t u:TS}{e:Expr}{te:TE}{pos:Pos}
def QT:TS:=λD O H=>D.nx O H
def Hw(t u:TS):TS:=λD O H=>t {D with nx:=u D} O H
theorem bG:eP X [] QT:=λ_ _ O H _ I h=>A6 ⟨O,H,I,h⟩
theorem aD(h1:PS X st t)(h2:eP X rest u):eP X (st::rest) (Hw t u):=by intro ak s O H D I h;refine wpAny_execs_cons (aR (h1 ak s O H {D with nx:=u D} I h) λf s1 q=>?_);cases f with |next=>obtain⟨σ',H',I',q⟩:=q;exact h2 ak s1 σ' H' D I' q |ret v=>exact q |brk=>exact q |cont=>exact q
theorem aH(h1:PS X st t):eP X [st] t:=by intro ak s O H D I h;refine wpAny_execs_cons (aR (h1 ak s O H D I h) λf s1 q=>?_);cases f with |next=>exact A6 q |ret v=>exact q |brk=>exact q |cont=>exact q
theorem Inv.quiet{ak:List (Addr×Obj)}{O:St}{H:Hp}{s:ae}(I:Inv X ak O H s):interactive X.env=false:=by simp[interactive,I.ok.kind]
def Rh(te:TE):TS:=λD O H=>te O H λ_ H1=>D.nx O H1
theorem gD(he:PE X e te)(hs:autoParam (swapsWith e none pos.line X.env=pure false) r8_._auto_1):PS X (.Expr e pos) (Rh te):=by intro ak s O H D I h;exact wpAny_Expr_any (aR (he ak s O H _ I h) λv s1 ⟨x,H1,I1,r1,q1⟩=>⟨O,H1,I1,q1⟩) I.quiet hs
def QL(te:TE):TS:=λD O H=>te O H D.rt
theorem aZ(he:PE X e te):PS X (.Return (some e) pos) (QL te):=by intro ak s O H D I h;exact wpAny_Return_some (aR (he ak s O H _ I h) λv s1 ⟨x,H1,I1,r1,q1⟩=>⟨x,O,H1,I1,r1,q1⟩)
def R5(c:TT)(t u:TS):TS:=λD O H=>c O H λb H1=>if b=true then t D O H1 else u D O H1
theorem bD{c:Expr}{a b:List Stmt}{tc:TT}(hc:PT X c tc)(ha:eP X a t)(hb:eP X b u):PS X (.If c a b pos) (R5 tc t u):=by intro ak s O H D I h;refine wpAny_If (aR (hc ak s O H _ I h) λd s1 ⟨H1,I1,q1⟩=>?_);cases d with |true=>exact ha ak s1 O H1 D I1 q1 |false=>exact hb ak s1 O H1 D I1 q1
def Hy:TS:=λ_ _ _=>False
theorem D5:PS X st Hy:=λ_ _ _ _ _ _ h=>h.elim
theorem ku{Rz:List Stmt}:eP X Rz Hy:=λ_ _ _ _ _ _ h=>h.elim
end
abbrev TG:=V->St->Hp->(St->Hp->Prop)->Prop
abbrev mq:=List V->St->Hp->(St->Hp->Prop)->Prop
def PG(X:Cx)(target:Expr)(t:TG):Prop:=∀(ak:List (Addr×Obj))(s:ae)(O:St)(H:Hp)(v:V)(u:Value)(Q:St->Hp->Prop),Inv X ak O H s->RelV v u->t v O H Q->wpAny (model X.prog X.w) X.A (assign target X.env u) (λ_ s'=>∃σ' H',Inv X ak σ' H' s'/\Q σ' H') X.xe s
def wF(X:Cx)(ts:List Expr)(t:mq):Prop:=∀(ak:List (Addr×Obj))(s:ae)(O:St)(H:Hp)(vs:List V)(us:List Value)(Q:St->Hp->Prop),Inv X ak O H s->Vals vs us->t vs O H Q->wpAny (model X.prog X.w) X.A (assignInOrder ((assignEach ts X.env).map (·.2)) us) (λ_ s'=>∃σ' H',Inv X ak σ' H' s'/\Q σ' H') X.xe s
abbrev Gg:=V->V->V->Hp->(Hp->Prop)->Prop
def OJ(X:Cx)(t:Gg):Prop:=∀(ak:List (Addr×Obj))(s:ae)(O:St)(H:Hp)(o i v:V)(ov iv u:Value)(Q:Hp->Prop),Inv X ak O H s->RelV o ov->RelV i iv->RelV v u->t o i v H Q->wpAny (model X.prog X.w) X.A (setItem ov iv u) (λ_ s'=>∃H',Inv X ak O H' s'/\Q H') X.xe s
abbrev OG:=V->V->Hp->VK->Prop
def PIp(X:Cx)(op:Operator)(t:OG):Prop:=∀(ak:List (Addr×Obj))(s:ae)(O:St)(H:Hp)(x y:V)(v u:Value)(Q:VK),Inv X ak O H s->RelV x v->RelV y u->t x y H Q->wpAny (model X.prog X.w) X.A (inplaceOp op v u) (EP X ak O Q) X.xe s
section
variable {X:Cx} {pos:Pos}
def gj(i:Nat):TG:=λv O H Q=>Q (O.set i (some v)) H
theorem Ub{i:Nat}{x:Str}(hN:X.N.Nodup)(hi:X.N[i]? =some x)(hx:Loc X.env.scope x)(hf:autoParam (X.fn x=true\/X.env.scope.names.lookup x=some .local) d8_._auto_1):PG X (.Name x pos) (gj i):=by intro ak s O H v u Q I r h;exact wpAny_assign_Name (rY I hN hi hx r (λs' I'=>⟨_,H,I',h⟩) hf)
def EX:mq:=λvs O H Q=>vs=[]/\Q O H
inductive a7e(t:TG)(u:mq)(vs:List V)(O:St)(H:Hp)(Q:St->Hp->Prop):Prop |mk (v:_)(r:_)(h0:vs=v::r)(h1:t v O H λσ' H'=>u r σ' H' Q)
def vT(t:TG)(u:mq):mq:=λvs O H Q=>a7e t u vs O H Q
theorem eZ:wF X [] EX:=by intro ak s O H vs us Q I r h;obtain⟨e,h⟩:=h;subst e;cases r;exact assignInOrder_nil ⟨O,H,I,h⟩
theorem bU{e:Expr}{es:List Expr}{t:TG}{u:mq}(h1:PG X e t)(h2:wF X es u) (hs:autoParam ((assignEach (e::es) X.env).map (·.2)=assign e X.env::(assignEach es X.env).map (·.2)) r8_._auto_1):wF X (e::es) (vT t u):=by intro ak s O H vs us Q I r h;obtain⟨v,vr,e1,h⟩:=h;subst e1;cases r with |cons r rr=>rw[hs];refine Aa (aR (h1 ak s O H _ _ _ I r h) λ_ s1 ⟨σ1,H1,I1,q1⟩=>?_);exact h2 ak s1 σ1 H1 _ _ Q I1 rr q1
inductive a7c(K:aa)(n:Nat)(t:mq)(v:V)(O:St)(H:Hp)(Q:St->Hp->Prop):Prop |mk (a:_)(xs:_)(h0:v= .ref a)(h1:aQ K H a xs)(h2:xs.length=n)(h3:t xs O H Q)
def zq(K:aa)(n:Nat)(t:mq):TG:=λv O H Q=>a7c K n t v O H Q
theorem Ua{es:List Expr}{k:Nat}{t:mq}{n:Nat}(hc:X.calm=true)(h:wF X es t) (hn:autoParam ((assignEach es X.env).length=n) r8_._auto_1)(fo:autoParam ((assignEach es X.env).findIdx? (·.1)=none) r8_._auto_1):PG X (.Tuple es k pos) (zq X.K n t):=by intro ak s O H v u Q I r hw;obtain⟨a,xs,e1,hq,hl,hw⟩:=hw;subst e1;cases r;obtain⟨its,rv,ht,hz⟩:=I.tuple hq;refine assign_Tuple_tuple (I.ok.hd hc) ht (by simp[hn,<-hl,rv.length]) fo λh' hx=>?_;have I1:Inv X ak O H {s with heap:=h'}:=I.kept (t':=s.toks) λb o e=>hx b o (dg (bP e)) e;exact h ak _ O H xs _ Q I1 (by simpa using rv) hw
def a1X(to ti:TE)(t:Gg):TG:=λv O H Q=>to O H λo H1=>ti O H1 λi H2=>t o i v H2 λH3=>Q O H3
theorem D7{o i:Expr}{to ti:TE}{t:Gg}(ho:PE X o to)(hi:PE X i ti)(hs:OJ X t) (ha:∀v,assign (.Subscript o i pos) X.env v=(do
 let ov<-holding [v] (eval o X.env)
 let iv<-holding [v,ov] (eval i X.env)
 standAt pos
 holding [v,ov,iv] (setItem ov iv v)
 release [v,ov,iv] []):=by intro _;rfl):PG X (.Subscript o i pos) (a1X to ti t):=by
 intro ak s O H v u Q I r h;rw[ha];refine aB (gI (aR (ho ak s O H _ I h) λov s1 ⟨x,H1,I1,r1,q1⟩=>?_));refine aB (gI (aR (hi ak s1 O H1 _ I1 q1) λiv s2 ⟨y,H2,I2,r2,q2⟩=>?_));refine aB (mD (aB (gI (aR (hs ak s2 O H2 x y v ov iv u _ I2 r1 r2 r q2) λ_ s3 ⟨H3,I3,q3⟩=>?_))));exact wpAny_release ⟨O,H3,I3,q3⟩
def xQ(te:TE)(g:TG):TS:=λD O H=>te O H λx H1=>g x O H1 D.nx
theorem fW{tg e:Expr}{te:TE}{g:TG}(he:PE X e te)(hg:PG X tg g)(hs:autoParam (swapsWithSole [tg] e pos.line X.env=pure false) r8_._auto_1)(hw:autoParam (swappedStores [tg] e X.env=pure none) r8_._auto_1) (h1:autoParam ((assignEach [tg] X.env).map (·.2)=[assign tg X.env]) r8_._auto_1):PS X (.Assign [tg] e pos) (xQ te g):=by intro ak s O H D I h;refine wpAny_Assign_stores (aR (he ak s O H _ I h) λv s1 ⟨x,H1,I1,r1,q1⟩=>?_) hs hw;rw[h1];exact aR (hg ak s1 O H1 x v _ I1 r1 q1) λ_ s2 q=>q
theorem KD{i:Nat}{x:Str}{e:Expr}{te:TE}{pos':Pos}(hN:X.N.Nodup)(hi:X.N[i]? =some x)(hx:Loc X.env.scope x)(he:PE X e te)(hs:autoParam (swapsWith e (some (.Name x pos')) pos.line X.env=pure false) r8_._auto_1)(hf:autoParam (X.fn x=true\/X.env.scope.names.lookup x=some .local) d8_._auto_1): PS X (.Assign [.Name x pos'] e pos) (xQ te (gj i)):=by intro ak s O H D I h;refine wpAny_Assign_Name (aR (he ak s O H _ I h) λv s1 ⟨y,H1,I1,r1,q1⟩=>?_) hs;exact rY I1 hN hi hx r1 (λs2 I2=>⟨_,H1,I2,q1⟩) hf
inductive a5e(i:Nat)(j:Nat)(D:Ends)(O:St)(vs:List V)(H1:Hp):Prop |mk (v:_)(w:_)(h0:vs=[v,w])(h1:D.nx ((O.set i (some v)).set j (some w)) H1)
def QO(i j:Nat)(ta:TA):TS:=λD O H=>ta O H λvs H1=>a5e i j D O vs H1
theorem D4{i j:Nat}{x y:Str}{a b:Expr}{ta:TA}{px py pt:Pos} {kt k2 CW}(hc:X.calm=true)(hN:X.N.Nodup)(hi:X.N[i]? =some x)(hj:X.N[j]? =some y)(ZT:i≠j) (hx:X.env.scope.names.lookup x=some .local)(hy:X.env.scope.names.lookup y=some .local)(ha:PA X [a,b] ta) (hw:swappedStores [.Tuple [.Name x px,.Name y py] kt pt] (.Tuple [a,b] k2 CW) X.env=pure (some [x,y])) (hs:autoParam (swapsWithSole [.Tuple [.Name x px,.Name y py] kt pt] (.Tuple [a,b] k2 CW) pos.line X.env=pure false) r8_._auto_1): PS X (.Assign [.Tuple [.Name x px,.Name y py] kt pt] (.Tuple [a,b] k2 CW) pos) (QO i j ta):=by
 intro ak s O H D I h;rw[exec_Assign_arm];refine aB (mD ?_);rw[hs];refine aB (bA ?_);rw[bh az];refine aB (Tuple_ (aR (ha _ ak s O H _ I h) λus s1 ⟨vs,H1,I1,r1,q1⟩=>?_));obtain⟨v,w,e1,q1⟩:=q1;subst e1;obtain⟨u1,u2,rfl,rv,uR⟩:∃u1 u2,us=[u1,u2]/\RelV v u1/\RelV w u2:=by cases r1 with |cons p q=>cases q with |cons p' q'=>cases q';exact⟨_,_,Z,p,p'⟩
 refine jX ?_ (by show 2<=sizeLine;decide);have I2:Inv X ak O H1 {s1 with heap:=s1.heap.push {cls:=.type "tuple",data:=.seq [u1,u2].toArray}}:=I1.kept (t':=s1.toks) λb o e=>bK _ e;rw[hw];refine aB (bA ?_);show wpAny (model X.prog X.w) X.A (do rule "assign.swapped-stores";let items<-unpackItems (.ref s1.heap.objs.size) 2 none;assignInOrder [λv=>bindName X.env y v,λv=>bindName X.env x v] items.reverse;pure Flow.next) _ _ _;refine aB (wO (aB (unpackItems_tuple (items:=#[u1,u2]) (I.ok.hd hc) (IsTup.new s1.heap _) λh' Z5=>?_)));have I3:=I2.kept (h':=h') (t':=s1.toks) λb o e=>Z5 b o (dg (bP e)) e;show wpAny _ _ (assignInOrder [λv=>bindName X.env y v,λv=>bindName X.env x v] [u2,u1]>>=λ_=>pure Flow.next) _ _ _;refine aB (Aa (wpAny_bindName (rY I3 hN hj (.inl hy) uR (λs2 I4=>?_) (.inr hy))));refine Aa (wpAny_bindName (rY I4 hN hi (.inl hx) rv (λs3 I5=>assignInOrder_nil (bA ?_)) (.inr hx)));rw[List.set_comm _ _ (iR ZT)]at I5;exact⟨_,H1,I5,q1⟩
inductive a72(f:Int->Int->Int)(x:V)(y:V)(H:Hp)(Q:VK):Prop |mk (i:_)(j:_)(h0:x= .int i)(h1:y= .int j)(h2:Q (.int (f i j)) H)
def YH(f:Int->Int->Int):OG:=λx y H Q=>a72 f x y H Q
theorem YG:PIp X .Add (YH λi j=>i+j):=by intro ak s O H x y v u Q I r1 r2 h;obtain⟨i,j,e1,e2,q⟩:=h;subst e1;subst e2;obtain⟨t,rfl⟩:=r1;obtain⟨t',rfl⟩:=r2;exact iadd_int ⟨.int _,H,I.tok _,⟨_,Z⟩,q⟩
def Ht(c:TT)(tb:TS):TS:=λD O H=>∃W:Nat->St->Hp->Prop,(∃m,W m O H)/\∀m O H,W m O H->c O H λb H1=>if b=true then∃N:St->Hp->Prop,(∀σ' H',N σ' H'->∃m',m'<m/\W m' σ' H')/\tb {D with nx:=N,ct:=N,bk:=D.nx} O H1 else D.nx O H1
theorem sN{c:Expr}{body:List Stmt}{tc:TT}{tb:TS}(hp:PassesOwn (model X.prog X.w) X.A X.env X.xe)(hc:PT X c tc)(hb:eP X body tb):PS X (.While c body [] pos) (Ht tc tb):=by intro ak s O H D I h;obtain⟨W,⟨m0,w0⟩,turn⟩:=h;refine wpAny_While (codeAny_whileLoop (λn s'=>∃σ' H',Inv X ak σ' H' s'/\W n σ' H') ?_ m0 ⟨O,H,I,w0⟩);rintro n s1 ⟨σ1,H1,I1,w1⟩;refine u9 hp (aR (hc ak s1 σ1 H1 _ I1 (turn n σ1 H1 w1)) λb s2 ⟨H2,I2,q2⟩=>?_);cases b with
 |true=>obtain⟨N,hN,q2⟩:=q2;rw[bo rfl];refine u9 hp (aR (hb ak s2 σ1 H2 _ I2 q2) λf s3 q3=>?_);cases f with |next=>obtain⟨σ3,H3,I3,n3⟩:=q3;obtain⟨m',hm,w3⟩:=hN σ3 H3 n3;exact⟨m',hm,σ3,H3,I3,w3⟩ |cont=>obtain⟨σ3,H3,I3,n3⟩:=q3;obtain⟨m',hm,w3⟩:=hN σ3 H3 n3;exact⟨m',hm,σ3,H3,I3,w3⟩ |brk=>exact q3 |ret v=>exact q3
 |false=>rw[bh cJ];exact A6 ⟨σ1,H2,I2,q2⟩
end
structure It where
 go:Nat->Hp->Prop
 gM:Nat->Hp->V->Hp->Prop
 stop:Nat->Hp->Prop
def gG(X:Cx)(ak:List (Addr×Obj))(H:Hp)(b:Addr):Prop:=H b=none/\b≠X.env.locals/\b∉X.fs/\(b∈X.ex\/X.s₀.heap.objs.size<=b)/\(∀x c,X.env.cells.lookup x=some c->c≠b)/\∀p∈X.pn++ak,p.1≠b
theorem Inv.nO{X:Cx}{ak:List (Addr×Obj)}{O:St}{H H':Hp}{s:ae}{b:Addr}(I:Inv X ak O H s)(hb:s.heap.objs.size<=b)(hn:H' b=none):gG X ak H' b:=by
 refine⟨hn,x6 (fK I.lt hb),I.WM hb,.inr (fz I.sz hb),λx c e z=>?_,λp hp z=>?_⟩
 ·obtain⟨v,q⟩:=I.cell x c e
  exact absurd (fK q.lt (by rw[z];exact hb)) (pP _)
 ·exact absurd (fK (bP (I.pin p hp).1) (by rw[z];exact hb)) (pP _)
structure Turn(P:af)(w:World)(K:aa)(tg:Expr)(J:It)(fp:List Addr)(it:Addr)(tn:Nat->Heap->Prop):Prop where
 mem:it∈fp
 obj:∀i h,tn i h->∀b∈fp,∃o,h.get? b=some o/\∀v,o.data≠ .cell v
 keep:∀i h h',tn i h->(∀b∈fp,∀o,h.get? b=some o->h'.get? b=some o)->tn i h'
 item:∀(X:Cx),X.prog=P->X.w=w->X.K=K->X.calm=true->∀(i:Nat)(ak:List (Addr×Obj))(s:ae)(O:St)(H:Hp)(E:Value->ae->Prop),Inv X ak O H s->(∀b∈fp,gG X ak H b)->tn i s.heap->J.go i H->wpAny (model P w) X.A (pyNext (.ref it)) (λr s1=>∃u,r=some u/\wpAny (model P w) X.A (letOwnedTupleGo tg (.ref it) u) (λ_ s2=>∃x H',Inv X ak O H' s2/\RelV x u/\J.gM i H x H'/\tn (i+1) s2.heap/\∀b∈fp,H' b=none) E s1) E s
 done:∀(X:Cx),X.prog=P->X.w=w->X.K=K->X.calm=true->∀(i:Nat)(ak:List (Addr×Obj))(s:ae)(O:St)(H:Hp)(E:Value->ae->Prop),Inv X ak O H s->(∀b∈fp,gG X ak H b)->tn i s.heap->J.stop i H->wpAny (model P w) X.A (pyNext (.ref it)) (λr s1=>r=none/\Inv X ak O H s1) E s
 self:∀(A:ai)(i:Nat)(s:ae)(Q:Value->ae->Prop)(E:Value->ae->Prop),tn i s.heap->Q (.ref it) s->wpAny (model P w) A (pyIter (.ref it)) Q E s
abbrev TI:=St->Hp->(It->Hp->Prop)->Prop
def Gh(X:Cx)(ak:List (Addr×Obj))(O:St)(tg:Expr)(R:It->Hp->Prop)(qI:Value)(s2:ae):Prop:=∃(it:Addr)(fp:List Addr)(tn:Nat->Heap->Prop)(J:It)(H':Hp),qI= .ref it/\Inv X ak O H' s2/\Turn X.prog X.w X.K tg J fp it tn/\tn 0 s2.heap/\(∀b∈fp,gG X ak H' b)/\R J H'
def PI(X:Cx)(tg iter:Expr)(wi:TI):Prop:=∀(ak:List (Addr×Obj))(s:ae)(O:St)(H:Hp)(R:It->Hp->Prop),Inv X ak O H s->wi O H R->wpAny (model X.prog X.w) X.A (eval iter X.env) (λv s1=>wpAny (model X.prog X.w) X.A (pyIter v) (Gh X ak O tg R) X.xe s1) X.xe s
theorem tN{M:Model}{A:ai}{E:Value->ae->Prop}{s:ae}{tg:Expr}{it:Addr}{u:Value}{o:Obj}{n:String}{vs:Array Value}{Q:Unit->ae->Prop}(ho:s.heap.get? it=some o)(hc:o.cls= .type n)(hd:o.data= .fields vs) (hn:["enumerate","zip","dict_itemiterator","dict_reverseitemiterator","odict_iterator","itertools.zip_longest","itertools.pairwise"].contains n=false)(hQ:Q () s):wpAny M A (letOwnedTupleGo tg (.ref it) u) Q E s:=by unfold letOwnedTupleGo;cases tg<;>first |exact bA hQ |(cases u<;>first
        |exact bA hQ
        | (refine aB (wpAny_load ho ?_)
           rw[hc,hd];show wpAny M A (if(["enumerate","zip","dict_itemiterator","dict_reverseitemiterator","odict_iterator","itertools.zip_longest","itertools.pairwise"].contains n&&vs[0]? ==some (rawInt _))=true then _ else _) Q E s;rw[bh (by intro h;rw[hn,fV]at h;cases h)];exact bA hQ))
def u7(K:aa)(a:Addr):It:=⟨λi H=>∃xs x,aK K H a xs/\xs[i]? =some x,λi H x H'=>H'=H/\∀xs,aK K H a xs->xs[i]? =some x,λi H=>∃xs,aK K H a xs/\xs.length<=i⟩
def pM(K:aa)(a:Addr):It:=⟨λi H=>∃xs x,aQ K H a xs/\xs[i]? =some x,λi H x H'=>H'=H/\∀xs,aQ K H a xs->xs[i]? =some x,λi H=>∃xs,aQ K H a xs/\xs.length<=i⟩
def nY(lo:Int)(n:Nat):It:=⟨λi _=>i<n,λi H x H'=>H'=H/\x= .int (lo+i),λi _=>n<=i⟩
theorem Qv{P:af}{w:World}{K:aa}{tg:Expr}(a it:Addr):Turn P w K tg (u7 K a) [it] it (λi h=>h.IsListIter it a i) where
 mem:=by simp
 obj:=λi h st b hb=>by
  have e:b=it:=by simpa using hb
  subst e;obtain⟨o,e,c,d⟩:=st;exact⟨o,e,λv z=>by rw[d]at z;cases z⟩
 keep:=λi h h' st k=>st.at λo e=>k it (by simp) o e
 item:=by intro X hP hw hK hc i ak s O H E I hf st hg;subst hP hw hK;obtain⟨xs,x,hq,hx⟩:=hg;obtain⟨its,rv,p,hz⟩:=I.list hq;obtain⟨u,hu,ru⟩:=rv.get hx;obtain⟨f0,f1,f2,f3,f4,f5⟩:=hf it (by simp);refine wpAny_pyNext_list_item st p.isList (x:=u) (by simpa using hu) λh' gz sb=>?_;have I1:Inv X ak O H {s with heap:=h'}:=I.turned (t':=s.toks) (λb o hb e=>(sb.2 b hb).trans e) f0 f1 f3 f4 f5;obtain⟨o,e,c,d⟩:=id gz;exact⟨u,Z,tN (s:={s with heap:=h'}) e c d az ⟨x,H,I1,ru,⟨Z,λys hy=>by rw[I.LY hy hq];exact hx⟩,gz,λb hb=>(hf b hb).1⟩⟩
 done:=by intro X hP hw hK hc i ak s O H E I hf st hg;subst hP hw hK;obtain⟨xs,hq,hx⟩:=hg;obtain⟨its,rv,p,hz⟩:=I.list hq;obtain⟨f0,f1,f2,f3,f4,f5⟩:=hf it (by simp);have hl:=rv.length;exact wpAny_pyNext_list_end (I.ok.hd hc) st p.isList (by simp;lia) λh' eb=>⟨Z,I.turned (t':=s.toks) (λb o hb e=>eb b o hb e) f0 f1 f3 f4 f5⟩
 self:=λ_ _ _ _ _ st h=>wpAny_pyIter_listiter st h
theorem Qq{P:af}{w:World}{K:aa}{tg:Expr}(a it:Addr):Turn P w K tg (pM K a) [it] it (λi h=>h.IsTupleIter it a i) where
 mem:=by simp
 obj:=λi h st b hb=>by
  have e:b=it:=by simpa using hb
  subst e;obtain⟨o,e,c,d⟩:=st;exact⟨o,e,λv z=>by rw[d]at z;cases z⟩
 keep:=λi h h' st k=>st.at λo e=>k it (by simp) o e
 item:=by intro X hP hw hK hc i ak s O H E I hf st hg;subst hP hw hK;obtain⟨xs,x,hq,hx⟩:=hg;obtain⟨its,rv,p,hz⟩:=I.tuple hq;obtain⟨u,hu,ru⟩:=rv.get hx;obtain⟨f0,f1,f2,f3,f4,f5⟩:=hf it (by simp);refine wpAny_pyNext_tuple_item st (show s.heap.IsTuple a its.toArray from p) (x:=u) (by simpa using hu) λh' gz sb=>?_;have I1:Inv X ak O H {s with heap:=h'}:=I.turned (t':=s.toks) (λb o hb e=>(sb.2 b hb).trans e) f0 f1 f3 f4 f5;obtain⟨o,e,c,d⟩:=id gz;exact⟨u,Z,tN (s:={s with heap:=h'}) e c d az ⟨x,H,I1,ru,⟨Z,λys hy=>by rw[I.Hn hy hq];exact hx⟩,gz,λb hb=>(hf b hb).1⟩⟩
 done:=by intro X hP hw hK hc i ak s O H E I hf st hg;subst hP hw hK;obtain⟨xs,hq,hx⟩:=hg;obtain⟨its,rv,p,hz⟩:=I.tuple hq;obtain⟨f0,f1,f2,f3,f4,f5⟩:=hf it (by simp);have hl:=rv.length;exact wpAny_pyNext_tuple_end (I.ok.hd hc) st (show s.heap.IsTuple a its.toArray from p) (by simp;lia) λh' eb=>⟨Z,I.turned (t':=s.toks) (λb o hb e=>eb b o hb e) f0 f1 f3 f4 f5⟩
 self:=λ_ _ _ _ _ st h=>wpAny_pyIter_tupleiter st h
theorem Qu{P:af}{w:World}{K:aa}{tg:Expr}(it:Addr)(lo:Int)(n:Nat):Turn P w K tg (nY lo n) [it] it (λi h=>IsRangeIter h it (lo+(i:Nat)*1) ((n:Int)-(i:Nat)) 1) where
 mem:=by simp
 obj:=λi h st b hb=>by
  have e:b=it:=by simpa using hb
  subst e;exact⟨_,st,λv z=>by have z':Data.fields _=Data.cell v:=z;cases z'⟩
 keep:=λi h h' st k=>k it (by simp) _ st
 item:=by intro X hP hw hK hc i ak s O H E I hf st hg;subst hP hw hK;obtain⟨f0,f1,f2,f3,f4,f5⟩:=hf it (by simp);have W:=Walks.range (prog:=X.prog) (w:=X.w) (I.ok.hd hc) it lo 1 n;refine W.item i s _ _ hg st λv h' tk hv gz kk=>?_;obtain⟨t,rfl⟩:=hv;have I1:Inv X ak O H {s with heap:=h',toks:=tk}:=I.turned (λb o hb e=>kk b o (by simpa using hb) e) f0 f1 f3 f4 f5;refine⟨_,Z,tN (s:={s with heap:=h',toks:=tk}) (n:="range_iterator") gz rfl rfl az ⟨.int (lo+i),H,I1,⟨t,?_⟩,⟨Z,Z⟩,gz,λb hb=>(hf b hb).1⟩⟩;rw[Int.mul_one]
 done:=by intro X hP hw hK hc i ak s O H E I hf st hg;subst hP hw hK;obtain⟨f0,f1,f2,f3,f4,f5⟩:=hf it (by simp);exact wpAny_pyNext_range_end (I.ok.hd hc) st (by have:n<=i:=hg;lia) λh' eb=>⟨Z,I.turned (t':=s.toks) (λb o hb e=>eb b o hb e) f0 f1 f3 f4 f5⟩
 self:=λ_ _ _ _ _ st h=>Gu st h
section
variable {X:Cx} {tg:Expr}
inductive a7a(K:aa)(R:It->Hp->Prop)(x:V)(H1:Hp):Prop |mk (a:_)(h0:x= .ref a)(h1:(∃xs,aK K H1 a xs))(h2:R (u7 K a) H1)
def Mj(K:aa)(tl:TE):TI:=λO H R=>tl O H λx H1=>a7a K R x H1
inductive a74(K:aa)(R:It->Hp->Prop)(x:V)(H1:Hp):Prop |mk (a:_)(h0:x= .ref a)(h1:(∃xs,aQ K H1 a xs))(h2:R (pM K a) H1)
def Mi(K:aa)(tl:TE):TI:=λO H R=>tl O H λx H1=>a74 K R x H1
theorem U9{l:Expr}{tl:TE}(hl:PE X l tl):PI X tg l (Mj X.K tl):=by
 intro ak s O H R I h;refine aR (hl ak s O H _ I h) λv s1 ⟨x,H1,I1,r1,q1⟩=>?_;obtain⟨a,e,⟨xs,hq⟩,q⟩:=q1;subst e;cases r1;obtain⟨its,rv,p,hz⟩:=I1.list hq;refine A4 p.isList ?_;refine⟨s1.heap.objs.size,[s1.heap.objs.size],_,_,H1,Z,I1.kept (t':=s1.toks) λb o e=>bK _ e,Qv a _,⟨_,dw _ Z,Z,Z⟩,λb hb=>?_,q⟩;have e:b=s1.heap.objs.size:=by simpa using hb
 subst e;exact I1.nO (bB _) (I1.aU.fresh (bB _))
theorem U5{l:Expr}{tl:TE}(hl:PE X l tl):PI X tg l (Mi X.K tl):=by
 intro ak s O H R I h;refine aR (hl ak s O H _ I h) λv s1 ⟨x,H1,I1,r1,q1⟩=>?_;obtain⟨a,e,⟨xs,hq⟩,q⟩:=q1;subst e;cases r1;obtain⟨its,rv,p,hz⟩:=I1.tuple hq;refine wpAny_pyIter_tuple (show s1.heap.IsTuple a its.toArray from p) ?_;refine⟨s1.heap.objs.size,[s1.heap.objs.size],_,_,H1,Z,I1.kept (t':=s1.toks) λb o e=>bK _ e,Qq a _,⟨_,dw _ Z,Z,Z⟩,λb hb=>?_,q⟩;have e:b=s1.heap.objs.size:=by simpa using hb
 subst e;exact I1.nO (bB _) (I1.aU.fresh (bB _))
theorem Kt{ak:List (Addr×Obj)}{O:St}{H:Hp}{s:ae}{R:It->Hp->Prop}{E:Value->ae->Prop}{lo hi:Int}{t u v:Tok}{tk:Nat}(I:Inv X ak O H s)(h1:-(2^62)<=lo)(h2:lo<2^62)(h3:-(2^62)<=hi)(h4:hi<2^62) (q:R (nY lo (hi-lo).toNat) H):wpAny (model X.prog X.w) X.A (pyIter (.ref s.heap.objs.size)) (Gh X ak O tg R) E {s with heap:=s.heap.push {cls:=.type "range",data:=.fields #[.int lo t,.int hi u,.int 1 v]},toks:=tk}:=by
 refine wpAny_pyIter_range (IsRange.new ..) (small_one h1 h2 h3 h4) ?_;have I1:Inv X ak O H {s with heap:=s.heap.push {cls:=.type "range",data:=.fields #[.int lo t,.int hi u,.int 1 v]},toks:=tk}:=I.kept λb o e=>bK _ e;refine⟨(s.heap.push {cls:=.type "range",data:=.fields #[.int lo t,.int hi u,.int 1 v]}).objs.size,[(s.heap.push {cls:=.type "range",data:=.fields #[.int lo t,.int hi u,.int 1 v]}).objs.size],_,_,H,Z,I1.kept (t':=tk) λb o e=>bK _ e,Qu _ lo (hi-lo).toNat,?_,λb hb=>?_,q⟩
 ·have e1:lo+((0:Nat):Int)*1=lo:=by simp
  have e2:(((hi-lo).toNat:Nat):Int)-((0:Nat):Int)=Builtin.Range.rangeSize lo hi 1:=by rw[rangeSize_one];split<;>lia
  show IsRangeIter _ _ (lo+((0:Nat):Int)*1) ((((hi-lo).toNat:Nat):Int)-((0:Nat):Int)) 1;rw[e1,e2];exact dw _ rfl
 ·have e:b=(s.heap.push {cls:=.type "range",data:=.fields #[.int lo t,.int hi u,.int 1 v]}).objs.size:=by simpa using hb
  subst e;exact I1.nO (bB _) (I1.aU.fresh (bB _))
inductive a78(R:It->Hp->Prop)(vs:List V)(H1:Hp):Prop |mk (j:Int)(h0:vs=[.int j])(h1:-(2^62)<=j)(h2:j<2^62)(h3:R (nY 0 j.toNat) H1)
def YY(ta:TA):TI:=λO H R=>ta O H λvs H1=>a78 R vs H1
inductive a76(R:It->Hp->Prop)(vs:List V)(H1:Hp):Prop |mk (i:Int)(j:Int)(h0:vs=[.int i,.int j])(h1:(-(2^62)<=i/\i<2^62/\-(2^62)<=j/\j<2^62))(h2:R (nY i (j-i).toNat) H1)
def YW(ta:TA):TI:=λO H R=>ta O H λvs H1=>a76 R vs H1
theorem sP{a:Expr}{ta:TA}{p pos:Pos}(hg:Gl X "range")(hm:X.mg "range"=none)(ha:PA X [a] ta)(hs:autoParam (starEach [a] X.env=[(false,eval a X.env)]) r8_._auto_1):PI X tg (.Call (.Name "range" p) [a] [] pos) (YY ta):=by intro ak s O H R I h;refine Call_ (ng I hg hm boot_range (uj (aR (ha pos ak s O H _ I h) λus s1 ⟨vs,H1,I1,r1,q1⟩=>?_) hs Z));obtain⟨j,e,q1,q2,q⟩:=q1;subst e;cases r1 with |cons r rr=>cases rr;obtain⟨t,rfl⟩:=r;exact call_range_1 (Kt I1 aw aw q1 q2 (by simpa using q))
theorem U7{a b:Expr}{ta:TA}{p pos:Pos}(hg:Gl X "range")(hm:X.mg "range"=none)(ha:PA X [a,b] ta)(hs:autoParam (starEach [a,b] X.env=[(false,eval a X.env),(false,eval b X.env)]) r8_._auto_1)(jb:autoParam (starEach [b] X.env=[(false,eval b X.env)]) r8_._auto_1): PI X tg (.Call (.Name "range" p) [a,b] [] pos) (YW ta):=by intro ak s O H R I h;refine Call_ (ng I hg hm boot_range (uj (aR (ha pos ak s O H _ I h) λus s1 ⟨vs,H1,I1,r1,q1⟩=>?_) (by rw[hs,jb]) (by rw[jb];rfl)));obtain⟨i,j,e,⟨q1,q2,q3,q4⟩,q⟩:=q1;subst e;cases r1 with |cons r rr=>cases rr with |cons r' rr=>cases rr;obtain⟨t,rfl⟩:=r;obtain⟨t',rfl⟩:=r';exact call_range_2 (Kt I1 q1 q2 q3 q4 q)
def R9(wi:TI)(g:TG)(tb:TS):TS:=λD O H=>wi O H λJ H1=>∃W:Nat->Nat->St->Hp->Prop,(∃m,W 0 m O H1)/\∀i m O H,W i m O H->(J.stop i H/\D.nx O H)\/(J.go i H/\∃N:St->Hp->Prop,(∀σ' H',N σ' H'->∃m',m'<m/\W (i+1) m' σ' H')/\∀x H',J.gM i H x H'->g x O H' λσ2 H2=>tb {D with nx:=N,ct:=N,bk:=D.nx} σ2 H2)
def qo(fp:List Addr)(h:Heap):List (Addr×Obj):=fp.filterMap λb=>(h.get? b).map λo=>(b,o)
theorem oN{fp:List Addr}{h:Heap}{b:Addr}{o:Obj}(hb:b∈fp)(e:h.get? b=some o):(b,o)∈qo fp h:=iT.mpr ⟨b,hb,by rw[e];rfl⟩
theorem Wr{fp:List Addr}{h:Heap}{p:Addr×Obj}(hp:p∈qo fp h):p.1∈fp/\h.get? p.1=some p.2:=by obtain⟨b,hb,e⟩:=iT.mp hp;cases q:h.get? b with |none=>rw[q]at e;cases e |some o=>rw[q]at e;have e':(b,o)=p:=dW e;subst e';exact⟨hb,q⟩
theorem Inv.pinned{ak:List (Addr×Obj)}{O:St}{H:Hp}{s:ae}{fp:List Addr}(I:Inv X ak O H s)(hf:∀b∈fp,gG X ak H b)(ho:∀b∈fp,∃o,s.heap.get? b=some o/\∀v,o.data≠ .cell v):Inv X (ak++qo fp s.heap) O H s:=I.KH λp hp=>(xg.mp hp).elim (λz=>I.pin p (gK _ z)) λz=>by obtain⟨hb,e⟩:=Wr z;obtain⟨f0,f1,f2,_⟩:=hf p.1 hb;obtain⟨o,e',d⟩:=ho p.1 hb;rw[e]at e';cases e';exact⟨e,f0,f1,f2,d⟩
theorem Inv.rV{ak pl:List (Addr×Obj)}{O:St}{H:Hp}{s:ae}(I:Inv X (ak++pl) O H s):Inv X ak O H s:=I.KH λp hp=>I.pin p (gK _ (GO _ hp))
theorem j7{iter:Expr}{body:List Stmt}{wi:TI}{g:TG}{tb:TS}{pos:Pos}(hp:PassesOwn (model X.prog X.w) X.A X.env X.xe)(hc:X.calm=true)(hi:PI X tg iter wi)(hg:PG X tg g)(hb:eP X body tb) (hs:autoParam (∀x,foldedSetIterable iter X.env x=pure x) f8_._auto_1):PS X (.For tg iter body [] pos) (R9 wi g tb):=by
 intro ak s O H D I h;refine wpAny_For (aR (hi ak s O H _ I h) λv s1 h1=>aR h1 λqI s2 h2=>?_) hs;obtain⟨it,fp,tn,J,H2,e,I2,T,lI,f2,W,⟨m0,w0⟩,turn⟩:=h2;subst e;have iE:∀{H':Hp},(∀b∈fp,H' b=none)->∀b∈fp,gG X ak H' b:=λhn b hb=>⟨hn b hb,(f2 b hb).2⟩;refine codeAny_forLoop_any (λn s'=>∃i σ' H',Inv X ak σ' H' s'/\tn i s'.heap/\(∀b∈fp,H' b=none)/\W i n σ' H') ?_ m0 ⟨0,O,H2,I2,lI,λb hb=>(f2 b hb).1,w0⟩;rintro n s3 ⟨i,σ3,H3,I3,HN,Nb,w3⟩;rcases turn i n σ3 H3 w3 with⟨stop,qn⟩|⟨go,N,hN,step⟩
 ·refine u9 hp (aR (T.done X Z Z Z hc i ak s3 σ3 H3 X.xe I3 (iE Nb) HN stop) λr s4 ⟨hr,I4⟩=>?_)
  subst hr;exact A6 ⟨σ3,H3,I4,qn⟩
 ·refine u9 hp (aR (T.item X Z Z Z hc i ak s3 σ3 H3 X.xe I3 (iE Nb) HN go) λr s4 ⟨u,hr,h4⟩=>?_)
  subst hr;refine u9 hp (aR h4 λ_ s5 ⟨x,H5,I5,r5,y5,jE,mh⟩=>?_);have I5':=I5.pinned (iE mh) (T.obj _ _ jE);refine u9 hp (aR (hg _ s5 σ3 H5 x u _ I5' r5 (step x H5 y5)) λ_ s6 ⟨σ6,H6,I6,q6⟩=>?_);refine u9 hp (aR (hb _ s6 σ6 H6 _ I6 q6) λf s7 q7=>?_);have again:∀{σ7:St}{H7:Hp},Inv X (ak++qo fp s5.heap) σ7 H7 s7->N σ7 H7->∃m,m<n/\∃i σ' H',Inv X ak σ' H' s7/\tn i s7.heap/\(∀b∈fp,H' b=none)/\W i m σ' H':=λ{σ7 H7} I7 n7=>by obtain⟨m',hm,w7⟩:=hN σ7 H7 n7;refine⟨m',hm,i+1,σ7,H7,I7.rV,T.keep _ _ _ jE λb hb o e=>(I7.pin (b,o) (gK _ (gK _ (oN hb e)))).1,λb hb=>?_,w7⟩;obtain⟨o,e,d⟩:=T.obj _ _ jE b hb;exact(I7.pin (b,o) (gK _ (gK _ (oN hb e)))).2.1
  cases f with |next=>obtain⟨σ7,H7,I7,n7⟩:=q7;exact again I7 n7 |cont=>obtain⟨σ7,H7,I7,n7⟩:=q7;exact again I7 n7 |brk=>obtain⟨σ7,H7,I7,q7⟩:=q7;exact⟨σ7,H7,I7.rV,q7⟩ |ret v=>obtain⟨x7,σ7,H7,I7,r7,q7⟩:=q7;exact⟨x7,σ7,H7,I7.rV,r7,q7⟩
end
theorem Nc{K:aa}{a:Addr}{xs:List V}{g:TG}{tb:TS}{D:Ends}{O:St}{H:Hp}(Pv:Nat->St->Hp->Prop)(h0:Pv 0 O H)(hl:∀i O H,i<=xs.length->Pv i O H->aK K H a xs) (hs:∀i x O H,xs[i]? =some x->Pv i O H->g x O H λσ2 H2=>tb {D with nx:=Pv (i+1),ct:=Pv (i+1),bk:=D.nx} σ2 H2)(hd:∀O H,Pv xs.length O H->D.nx O H): ∃W:Nat->Nat->St->Hp->Prop,(∃m,W 0 m O H)/\∀i m O H,W i m O H->((u7 K a).stop i H/\D.nx O H)\/((u7 K a).go i H/\∃N:St->Hp->Prop,(∀σ' H',N σ' H'->∃m',m'<m/\W (i+1) m' σ' H')/\∀x H',(u7 K a).gM i H x H'->g x O H' λσ2 H2=>tb {D with nx:=N,ct:=N,bk:=D.nx} σ2 H2):=by
 refine⟨λi m O H=>m=xs.length-i/\i<=xs.length/\Pv i O H,⟨xs.length,by simp,fw _,h0⟩,?_⟩;rintro i m O H ⟨rfl,hi,p⟩;have q:=hl i O H hi p;by_cases cm:i<xs.length
 ·refine .inr ⟨⟨xs,xs[i],q,by simp[cm]⟩,Pv (i+1),λσ' H' p'=>⟨xs.length-(i+1),aw,Z,cm,p'⟩,λx H' y=>?_⟩
  obtain⟨e,y⟩:=y;subst e;exact hs i x O _ (y xs q) p
 ·have e:i=xs.length:=by lia
  subst e;exact .inl ⟨⟨xs,q,bB _⟩,hd O H p⟩
theorem a23{K:aa}{a:Addr}{xs:List V}{g:TG}{tb:TS}{D:Ends}{O:St}{H:Hp}(Pv:Nat->St->Hp->Prop)(h0:Pv 0 O H)(hl:∀i O H,i<=xs.length->Pv i O H->aQ K H a xs) (hs:∀i x O H,xs[i]? =some x->Pv i O H->g x O H λσ2 H2=>tb {D with nx:=Pv (i+1),ct:=Pv (i+1),bk:=D.nx} σ2 H2)(hd:∀O H,Pv xs.length O H->D.nx O H): ∃W:Nat->Nat->St->Hp->Prop,(∃m,W 0 m O H)/\∀i m O H,W i m O H->((pM K a).stop i H/\D.nx O H)\/((pM K a).go i H/\∃N:St->Hp->Prop,(∀σ' H',N σ' H'->∃m',m'<m/\W (i+1) m' σ' H')/\∀x H',(pM K a).gM i H x H'->g x O H' λσ2 H2=>tb {D with nx:=N,ct:=N,bk:=D.nx} σ2 H2):=by
 refine⟨λi m O H=>m=xs.length-i/\i<=xs.length/\Pv i O H,⟨xs.length,by simp,fw _,h0⟩,?_⟩;rintro i m O H ⟨rfl,hi,p⟩;have q:=hl i O H hi p;by_cases cm:i<xs.length
 ·refine .inr ⟨⟨xs,xs[i],q,by simp[cm]⟩,Pv (i+1),λσ' H' p'=>⟨xs.length-(i+1),bN,Z,cm,p'⟩,λx H' y=>?_⟩
  obtain⟨e,y⟩:=y;subst e;exact hs i x O _ (y xs q) p
 ·have e:i=xs.length:=by omega
  subst e;exact .inl ⟨⟨xs,q,bB _⟩,hd O H p⟩
theorem vV{lo:Int}{n:Nat}{g:TG}{tb:TS}{D:Ends}{O:St}{H:Hp}(Pv:Nat->St->Hp->Prop)(h0:Pv 0 O H) (hs:∀i O H,i<n->Pv i O H->g (.int (lo+i)) O H λσ2 H2=>tb {D with nx:=Pv (i+1),ct:=Pv (i+1),bk:=D.nx} σ2 H2)(hd:∀O H,Pv n O H->D.nx O H): ∃W:Nat->Nat->St->Hp->Prop,(∃m,W 0 m O H)/\∀i m O H,W i m O H->((nY lo n).stop i H/\D.nx O H)\/((nY lo n).go i H/\∃N:St->Hp->Prop,(∀σ' H',N σ' H'->∃m',m'<m/\W (i+1) m' σ' H')/\∀x H',(nY lo n).gM i H x H'->g x O H' λσ2 H2=>tb {D with nx:=N,ct:=N,bk:=D.nx} σ2 H2):=by
 refine⟨λi m O H=>m=n-i/\i<=n/\Pv i O H,⟨n,by simp,fw _,h0⟩,?_⟩;rintro i m O H ⟨rfl,hi,p⟩;by_cases cm:i<n
 ·refine .inr ⟨cm,Pv (i+1),λσ' H' p'=>⟨n-(i+1),aw,Z,cm,p'⟩,λx H' y=>?_⟩
  obtain⟨e,y⟩:=y;subst e y;exact hs i O _ cm p
 ·have e:i=n:=by lia
  subst e;exact .inl ⟨bB _,hd O H p⟩
theorem rS{c:TT}{tb:TS}{D:Ends}{O:St}{H:Hp}(Pv:St->Hp->Prop)(μ:St->Hp->Nat)(h0:Pv O H) (hs:∀O H,Pv O H->c O H λb H1=>if b=true then tb {D with nx:=λσ' H'=>Pv σ' H'/\μ σ' H'<μ O H,ct:=λσ' H'=>Pv σ' H'/\μ σ' H'<μ O H,bk:=D.nx} O H1 else D.nx O H1) (mono:∀O H Q Q',(∀b H1,Q b H1->Q' b H1)->c O H Q->c O H Q'):Ht c tb D O H:=by refine⟨λm O H=>m=μ O H/\Pv O H,⟨_,Z,h0⟩,?_⟩;rintro m O H ⟨rfl,p⟩;refine mono O H _ _ (λb H1 q=>?_) (hs O H p);cases b with |true=>exact⟨_,λσ' H' ⟨p',l⟩=>⟨_,l,Z,p'⟩,q⟩ |false=>exact q
abbrev R2:=V->V->Hp->VK->Prop
def cj(X:Cx)(f:Value->Value->Sem Value)(r:R2):Prop:=∀(ak:List (Addr×Obj))(s:ae)(O:St)(H:Hp)(x y:V)(v u:Value)(Q:VK),Inv X ak O H s->RelV x v->RelV y u->r x y H Q->wpAny (model X.prog X.w) X.A (f v u) (EP X ak O Q) X.xe s
def Gd(X:Cx)(f:Value->Sem Value)(r:V->Hp->VK->Prop):Prop:=∀(ak:List (Addr×Obj))(s:ae)(O:St)(H:Hp)(x:V)(v:Value)(Q:VK),Inv X ak O H s->RelV x v->r x H Q->wpAny (model X.prog X.w) X.A (f v) (EP X ak O Q) X.xe s
def eT(X:Cx)(f:Value)(r:List V->Hp->VK->Prop):Prop:=∀(ak:List (Addr×Obj))(s:ae)(O:St)(H:Hp)(xs:List V)(us:List Value)(Q:VK),Inv X ak O H s->Vals xs us->r xs H Q->wpAny (model X.prog X.w) X.A (call f us) (EP X ak O Q) X.xe s
def a4Z(X:Cx)(r:V->Hp->(Bool->Hp->Prop)->Prop):Prop:=∀(ak:List (Addr×Obj))(s:ae)(O:St)(H:Hp)(x:V)(v:Value)(Q:Bool->Hp->Prop),Inv X ak O H s->RelV x v->r x H Q->wpAny (model X.prog X.w) X.A (truthy v) (TP X ak O Q) X.xe s
def uD(r:R2)(ta tb:TE):TE:=λO H Q=>ta O H λx H1=>tb O H1 λy H2=>r x y H2 Q
def QH(r:V->Hp->VK->Prop)(ta:TE):TE:=λO H Q=>ta O H λx H1=>r x H1 Q
inductive IrI(C:Int->Int->Prop)(g:Int->Int->V)(x:V)(y:V)(H:Hp)(Q:VK):Prop |mk (i:_)(j:_)(h0:x= .int i)(h1:y= .int j)(h2:C i j)(h3:Q (g i j) H)
def rI(C:Int->Int->Prop)(g:Int->Int->V):R2:=λx y H Q=>IrI C g x y H Q
inductive a6U(g:Int->Int->V)(x:V)(y:V)(H:Hp)(Q:VK):Prop |mk (i:_)(j:_)(h0:x= .int i)(h1:y= .int j)(h2:Q (g i j) H)
def j6(g:Int->Int->V):R2:=λx y H Q=>a6U g x y H Q
inductive IrU(g:Int->V)(x:V)(H:Hp)(Q:VK):Prop |mk (i:_)(h0:x= .int i)(h1:Q (g i) H)
def rU(g:Int->V):V->Hp->VK->Prop:=λx H Q=>IrU g x H Q
section
variable {X:Cx}{a b c:Expr}{ta tb tc:TE}{pos:Pos}
theorem FW(ha:PE X a ta)(hb:PE X b tb){ak:List (Addr×Obj)}{s:ae}{O:St}{H:Hp}{R:V->V->Hp->Prop}(I:Inv X ak O H s) (h:ta O H λx H1=>tb O H1 λy H2=>R x y H2){Q:Value->ae->Prop}{f:Value->Value->Sem Value} (hf:∀v u s2 x y H2,Inv X ak O H2 s2->RelV x v->RelV y u->R x y H2->wpAny (model X.prog X.w) X.A (f v u) Q X.xe s2): wpAny (model X.prog X.w) X.A (eval a X.env) (λv s₁=>wpAny (model X.prog X.w) X.A (eval b X.env) (λu s₂=>wpAny (model X.prog X.w) X.A (f v u) Q X.xe s₂) X.xe s₁) X.xe s:=by refine aR (ha ak s O H _ I h) λv s1 ⟨x,H1,I1,r1,q1⟩=>?_;refine aR (hb ak s1 O H1 _ I1 q1) λu s2 ⟨y,H2,I2,r2,q2⟩=>?_;exact hf v u s2 x y H2 I2 r1 r2 q2
theorem aW{op:Operator}{r:R2}(ho:cj X (binaryOp op) r)(ha:PE X a ta)(hb:PE X b tb):PE X (.BinOp a op b pos) (uD r ta tb):=by intro ak s O H Q I h;exact wpAny_BinOp (FW ha hb I h λv u s2 x y H2 I2 rx ry q=>ho ak s2 O H2 x y v u Q I2 rx ry q)
theorem mV{op:UnaryOp}{r:V->Hp->VK->Prop}(ho:Gd X (unaryOp op) r)(ha:PE X a ta):PE X (.UnaryOp op a pos) (QH r ta):=by intro ak s O H Q I h;exact UnaryOp_ (aR (ha ak s O H _ I h) λv s1 ⟨x,H1,I1,r1,q1⟩=>ho ak s1 O H1 x v Q I1 r1 q1)
theorem v9{f:Value->Value->Sem Value}{C:Int->Int->Prop}{g:Int->Int->Int} (rule:∀(i j:Int)(t u:Tok)(s:ae)(Q:Value->ae->Prop)(E:Value->ae->Prop),C i j->Q (.int (g i j) s.toks) {s with toks:=s.toks+1}->wpAny (model X.prog X.w) X.A (f (.int i t) (.int j u)) Q E s): cj X f (rI C λi j=>.int (g i j)):=by intro ak s O H x y v u Q I rx ry h;obtain⟨i,j,rfl,rfl,hc,q⟩:=h;obtain⟨t,rfl⟩:=rx;obtain⟨t',rfl⟩:=ry;exact rule i j t t' s _ _ hc ⟨.int (g i j),H,I.tok _,⟨_,Z⟩,q⟩
theorem L9{f:Value->Value->Sem Value}{g:Int->Int->Int} (rule:∀(i j:Int)(t u:Tok)(s:ae)(Q:Value->ae->Prop)(E:Value->ae->Prop),Q (.int (g i j) s.toks) {s with toks:=s.toks+1}->wpAny (model X.prog X.w) X.A (f (.int i t) (.int j u)) Q E s): cj X f (j6 λi j=>.int (g i j)):=by intro ak s O H x y v u Q I rx ry h;obtain⟨i,j,rfl,rfl,q⟩:=h;obtain⟨t,rfl⟩:=rx;obtain⟨t',rfl⟩:=ry;exact rule i j t t' s _ _ ⟨.int (g i j),H,I.tok _,⟨_,Z⟩,q⟩
theorem sS{f:Value->Value->Sem Value}{g:Int->Int->Bool} (rule:∀(i j:Int)(t u:Tok)(s:ae)(Q:Value->ae->Prop)(E:Value->ae->Prop),Q (.bool (g i j)) s->wpAny (model X.prog X.w) X.A (f (.int i t) (.int j u)) Q E s): cj X f (j6 λi j=>.bl (g i j)):=by intro ak s O H x y v u Q I rx ry h;obtain⟨i,j,rfl,rfl,q⟩:=h;obtain⟨t,rfl⟩:=rx;obtain⟨t',rfl⟩:=ry;exact rule i j t t' s _ _ ⟨.bl (g i j),H,I,Z,q⟩
def OY(i j:Int):Prop:=0<=j/\j<=1000000/\i.natAbs<2^64
theorem fM:cj X (binaryOp .Add) (j6 λi j=>.int (i+j)):=L9 λ_ _ _ _ _ _ _ q=>add_int q
theorem j8:cj X (binaryOp .Sub) (j6 λi j=>.int (i-j)):=L9 λ_ _ _ _ _ _ _ q=>sub_int q
theorem qt:cj X (binaryOp .Mod) (rI (λ_ j=>0<j) λi j=>.int (i%j)):=v9 λi j _ _ _ _ _ hc q=>by have h1:(0:Int)<j:=hc;exact mod_int' aw (by rw[Int.fmod_eq_emod_of_nonneg i aw];exact q)
theorem uY:cj X (binaryOp .Pow) (rI OY λi j=>.int (i^j.toNat)):=v9 λ_ _ _ _ _ _ _ hc q=>pow_int_small hc.1 hc.2.1 hc.2.2 q
theorem Ql{f:Value->Sem Value}{g:Int->Int} (rule:∀(i:Int)(t:Tok)(s:ae)(Q:Value->ae->Prop)(E:Value->ae->Prop),Q (.int (g i) s.toks) {s with toks:=s.toks+1}->wpAny (model X.prog X.w) X.A (f (.int i t)) Q E s): Gd X f (rU λi=>.int (g i)):=by intro ak s O H x v Q I rx h;obtain⟨i,rfl,q⟩:=h;obtain⟨t,rfl⟩:=rx;exact rule i t s _ _ ⟨.int (g i),H,I.tok _,⟨_,Z⟩,q⟩
theorem mJ:Gd X (unaryOp .USub) (rU λi=>.int (-i)):=Ql λ_ _ _ _ _ q=>neg_int q
end
def IX:V->V->Bool | .aY,.aY=>true| .aY,.int _=>true| .int _,.aY=>true| .aY,.bl _=>true| .bl _,.aY=>true| .aY,.str _=>true| .str _,.aY=>true | .int _,.int _=>true| .bl _,.bl _=>true| .str _,.str _=>true| .jf _,.jf _=>true | .int _,.str _=>true| .str _,.int _=>true| .bl _,.str _=>true| .str _,.bl _=>true |_,_=>false
def TB:R2:=λx y H Q=>IX x y=true/\Q (.bl (decide (x=y))) H
def Ts:R2:=λx y H Q=>IX x y=true/\Q (.bl (!decide (x=y))) H
theorem NU{i j:Int}:decide (V.int i=V.int j)=(i==j):=by rw[iW];simp
theorem NW{i j:Bool}:decide (V.bl i=V.bl j)=(i==j):=by rw[iW];simp
theorem NT{i j:Str}:decide (V.str i=V.str j)=(i==j):=by rw[iW];simp
theorem NV{i j:Array UInt8}:decide (V.jf i=V.jf j)=(i.toList==j.toList):=by rw[iW];cases i;cases j;simp
section
variable {X:Cx}{a b c:Expr}{ta tb tc:TE}{pos:Pos}
theorem dA{ak:List (Addr×Obj)}{O:St}{H:Hp}{s:ae}{Q:VK}{k k':Bool}(I:Inv X ak O H s)(q:Q (.bl k) H)(e:k=k'):EP X ak O Q (.bool k') s:=by subst e;exact⟨.bl k,H,I,Z,q⟩
theorem qv:cj X (compareOp .Eq) TB:=by intro ak s O H x y v u Q I rx ry h;obtain⟨hs,q⟩:=h;cases x with
 |aY=>cases rx;cases y with |aY=>cases ry;exact PySem.EqNone.eq_none_none (dA I q (by simp)) |bl j=>cases ry;exact PySem.EqNone.eq_none_bool (dA I q (by simp)) |int j=>obtain⟨t',rfl⟩:=ry;exact PySem.EqNone.eq_none_int (dA I q (by simp)) |str j=>obtain⟨t',rfl⟩:=ry;exact PySem.EqNone.eq_none_str (dA I q (by simp)) |_=>exact absurd (show false=true from hs) cJ
 |bl i=>cases rx;cases y with |aY=>cases ry;exact PySem.EqNone.eq_bool_none (dA I q (by simp)) |bl j=>cases ry;exact eq_bool (dA I q NW) |str j=>obtain⟨t',rfl⟩:=ry;exact PySem.EqMixed.eq_bool_str (dA I q (by simp)) |_=>exact absurd (show false=true from hs) cJ
 |int i=>obtain⟨t,rfl⟩:=rx;cases y with |aY=>cases ry;exact PySem.EqNone.eq_int_none (dA I q (by simp)) |int j=>obtain⟨t',rfl⟩:=ry;exact eq_int (dA I q NU) |str j=>obtain⟨t',rfl⟩:=ry;exact PySem.EqMixed.eq_int_str (dA I q (by simp)) |_=>exact absurd (show false=true from hs) cJ
 |str i=>obtain⟨t,rfl⟩:=rx;cases y with |aY=>cases ry;exact PySem.EqNone.eq_str_none (dA I q (by simp)) |bl j=>cases ry;exact PySem.EqMixed.eq_str_bool (dA I q (by simp)) |int j=>obtain⟨t',rfl⟩:=ry;exact PySem.EqMixed.eq_str_int (dA I q (by simp)) |str j=>obtain⟨t',rfl⟩:=ry;exact eq_str (dA I q NT) |_=>exact absurd (show false=true from hs) cJ
 |jf i=>obtain⟨t,rfl⟩:=rx;cases y with |jf j=>obtain⟨t',rfl⟩:=ry;exact PySem.W.eq_bytes (dA I q NV) |_=>exact absurd (show false=true from hs) cJ
 |_=>cases y<;>exact absurd (show false=true from hs) cJ
theorem UH:cj X (compareOp .NotEq) Ts:=by intro ak s O H x y v u Q I rx ry h;obtain⟨hs,q⟩:=h;cases x with
 |aY=>cases rx;cases y with |aY=>cases ry;exact PySem.EqNone.ne_none_none (dA I q (by simp)) |bl j=>cases ry;exact PySem.EqNone.ne_none_bool (dA I q (by simp)) |int j=>obtain⟨t',rfl⟩:=ry;exact PySem.EqNone.ne_none_int (dA I q (by simp)) |str j=>obtain⟨t',rfl⟩:=ry;exact PySem.EqNone.ne_none_str (dA I q (by simp)) |_=>exact absurd (show false=true from hs) cJ
 |bl i=>cases rx;cases y with |aY=>cases ry;exact PySem.EqNone.ne_bool_none (dA I q (by simp)) |bl j=>cases ry;exact ne_bool (dA I q (o9 not NW)) |str j=>obtain⟨t',rfl⟩:=ry;exact PySem.EqMixed.ne_bool_str (dA I q (by simp)) |_=>exact absurd (show false=true from hs) cJ
 |int i=>obtain⟨t,rfl⟩:=rx;cases y with |aY=>cases ry;exact PySem.EqNone.ne_int_none (dA I q (by simp)) |int j=>obtain⟨t',rfl⟩:=ry;exact ne_int (dA I q (o9 not NU)) |str j=>obtain⟨t',rfl⟩:=ry;exact PySem.EqMixed.ne_int_str (dA I q (by simp)) |_=>exact absurd (show false=true from hs) cJ
 |str i=>obtain⟨t,rfl⟩:=rx;cases y with |aY=>cases ry;exact PySem.EqNone.ne_str_none (dA I q (by simp)) |bl j=>cases ry;exact PySem.EqMixed.ne_str_bool (dA I q (by simp)) |int j=>obtain⟨t',rfl⟩:=ry;exact PySem.EqMixed.ne_str_int (dA I q (by simp)) |str j=>obtain⟨t',rfl⟩:=ry;exact ne_str (dA I q (o9 not NT)) |_=>exact absurd (show false=true from hs) cJ
 |jf i=>obtain⟨t,rfl⟩:=rx;cases y with |jf j=>obtain⟨t',rfl⟩:=ry;exact PySem.W.ne_bytes (dA I q (o9 not NV)) |_=>exact absurd (show false=true from hs) cJ
 |_=>cases y<;>exact absurd (show false=true from hs) cJ
theorem mW:cj X (compareOp .Lt) (j6 λi j=>.bl (decide (i<j))):=sS λ_ _ _ _ _ _ _ q=>lt_int q
theorem yy:cj X (compareOp .LtE) (j6 λi j=>.bl (decide (i<=j))):=sS λ_ _ _ _ _ _ _ q=>le_int q
theorem Dg:cj X (compareOp .Gt) (j6 λi j=>.bl (decide (j<i))):=sS λ_ _ _ _ _ _ _ q=>gt_int q
theorem Dh:cj X (compareOp .GtE) (j6 λi j=>.bl (decide (j<=i))):=sS λ_ _ _ _ _ _ _ q=>ge_int q
theorem UJ:cj X (compareOp .In) (λx y H Q=>∃i j,x= .str i/\y= .str j/\Q (.bl (!(Builtin.Str.occurrences j i 0 j.length 1).isEmpty)) H):=by intro ak s O H x y v u Q I rx ry h;obtain⟨i,j,rfl,rfl,q⟩:=h;obtain⟨t,rfl⟩:=rx;obtain⟨t',rfl⟩:=ry;exact in_str (dA I q Z)
theorem UI:cj X (compareOp .Is) (λx y H Q=>y= .aY/\Q (.bl (decide (x= .aY))) H):=by intro ak s O H x y v u Q I rx ry h;obtain⟨rfl,q⟩:=h;cases ry;refine is_none_gen (dA I q ?_);cases x<;>first |(cases rx;rfl) |(obtain⟨t,rfl⟩:=rx;rfl)
theorem Df:cj X (compareOp .IsNot) (λx y H Q=>y= .aY/\Q (.bl (!decide (x= .aY))) H):=by intro ak s O H x y v u Q I rx ry h;obtain⟨rfl,q⟩:=h;cases ry;refine isnot_none_gen (dA I q ?_);cases x<;>first |(cases rx;rfl) |(obtain⟨t,rfl⟩:=rx;rfl)
theorem cj.or{f:Value->Value->Sem Value}{r r':R2}(h:cj X f r)(h':cj X f r'):cj X f (λx y H Q=>r x y H Q\/r' x y H Q):=by
 intro ak s O H x y v u Q I rx ry q;rcases q with q|q
 ·exact h ak s O H x y v u Q I rx ry q
 ·exact h' ak s O H x y v u Q I rx ry q
theorem bL(b:Expr){op:CmpOp}(h:autoParam (op≠ .In) q8_._auto_1)(h2:autoParam (op≠ .NotIn) q8_._auto_1):behindInMarks op b=false:=by
 have e1:(op==CmpOp.In)=false:=by cases op<;>first|rfl|exact absurd rfl h
 have e2:(op==CmpOp.NotIn)=false:=by cases op<;>first|rfl|exact absurd rfl h2
 cases b<;>simp[behindInMarks,e1,e2]
theorem jG{op:CmpOp}{r:R2}(ho:cj X (compareOp op) r)(ha:PE X a ta)(hb:PE X b tb)(hm:behindInMarks op b=false):PE X (.Compare a [op] [b] pos) (uD r ta tb):=by intro ak s O H Q I h;exact wpAny_Compare1 (FW ha hb I h λv u s2 x y H2 I2 rx ry q=>ho ak s2 O H2 x y v u Q I2 rx ry q) hm
inductive a5c(Q:Bool->Hp->Prop)(x:V)(H':Hp):Prop |mk (k:_)(h0:x= .bl k)(h1:Q k H')
def Hv(t:TE):TT:=λO H Q=>t O H λx H'=>a5c Q x H'
theorem bT{op:CmpOp}{r:R2}(ho:cj X (compareOp op) r)(ha:PE X a ta)(hb:PE X b tb)(hm:behindInMarks op b=false):PT X (.Compare a [op] [b] pos) (Hv (uD r ta tb)):=by intro ak s O H Q I h;refine wpAny_isTrue_Compare1 (aR (ha ak s O H _ I h) λv s1 ⟨x,H1,I1,r1,q1⟩=>aR (hb ak s1 O H1 _ I1 q1) λu s2 ⟨y,H2,I2,r2,q2⟩=>aR (ho ak s2 O H2 x y v u _ I2 r1 r2 q2) λc s3 ⟨z,H3,I3,r3,k,e,q3⟩=>?_) hm;subst e;cases r3;exact mC ⟨H3,I3,q3⟩
inductive a5h(r':R2)(tc:TE)(O:St)(Q:VK)(y:V)(z:V)(H3:Hp):Prop |mk (k:_)(h0:z= .bl k)(h1:(if k=true then tc O H3 λw' H4=>r' y w' H4 Q else Q (.bl false) H3))
def HD(r r':R2)(ta tb tc:TE):TE:=λO H Q=>ta O H λx H1=>tb O H1 λy H2=>r x y H2 λz H3=>a5h r' tc O Q y z H3
theorem Ul{op qw:CmpOp}{r r':R2}(ho:cj X (compareOp op) r)(kK:cj X (compareOp qw) r')(ha:PE X a ta)(hb:PE X b tb)(hc:PE X c tc) (hm:autoParam (lastMarks [op,qw] [b,c]=false) v8_._auto_1):PE X (.Compare a [op,qw] [b,c] pos) (HD r r' ta tb tc):=by intro ak s O H Q I h;refine Compare_chain (aR (ha ak s O H _ I h) λv s1 ⟨x,H1,I1,r1,q1⟩=>chain_link (aR (hb ak s1 O H1 _ I1 q1) λu s2 ⟨y,H2,I2,r2,q2⟩=>aR (ho ak s2 O H2 x y v u _ I2 r1 r2 q2) λd s3 ⟨z,H3,I3,r3,k,e,q3⟩=>?_)) hm;subst e;cases r3;refine mC ?_;cases k with |false=>exact ite_ff ⟨.bl false,H3,I3,Z,q3⟩ |true=>exact ite_tt (chain_last (aR (hc ak s3 O H3 _ I3 q3) λw' s4 ⟨z',H4,I4,r4,q4⟩=>kK ak s4 O H4 y z' u w' Q I4 r2 r4 q4))
theorem TN{op qw:CmpOp}{r r':R2}(ho:cj X (compareOp op) r)(kK:cj X (compareOp qw) r')(ha:PE X a ta)(hb:PE X b tb)(hc:PE X c tc) (hm:autoParam (lastMarks [op,qw] [b,c]=false) v8_._auto_1):PT X (.Compare a [op,qw] [b,c] pos) (Hv (HD r r' ta tb tc)):=by intro ak s O H Q I h;refine isTrue_chain (aR (ha ak s O H _ I h) λv s1 ⟨x,H1,I1,r1,q1⟩=>test_link (aR (hb ak s1 O H1 _ I1 q1) λu s2 ⟨y,H2,I2,r2,q2⟩=>aR (ho ak s2 O H2 x y v u _ I2 r1 r2 q2) λd s3 ⟨z,H3,I3,r3,k,e,q3⟩=>?_)) hm;subst e;cases r3;refine mC ?_;cases k with |false=>obtain⟨k',e',q'⟩:=q3;cases e';exact ite_ff ⟨H3,I3,q'⟩ |true=>refine ite_tt (test_last (aR (hc ak s3 O H3 _ I3 q3) λw' s4 ⟨z',H4,I4,r4,q4⟩=>aR (kK ak s4 O H4 y z' u w' _ I4 r2 r4 q4) λd' s5 ⟨z2,H5,I5,r5,k2,e2,q5⟩=>?_));subst e2;cases r5;exact mC ⟨H5,I5,q5⟩
def Gf(K:aa)(x:V)(H:Hp)(k:Bool):Prop:=match x with | .aY=>k=false | .bl b=>k=b | .int i=>k=(i !=0) | .str y=>y.length<=sizeLine/\k=((y.length:Int) !=0) | .jf y=>y.size<=sizeLine/\k=((y.size:Int) !=0) | .ref p=>(∃xs,aK K H p xs/\k= !xs.isEmpty)\/(∃xs,aQ K H p xs/\k= !xs.isEmpty)\/∃dj,H p=some (.dK dj)/\k= !dj.isEmpty |_=>False
theorem YF{κ:Type}{dj:List (κ×V)}{vs:List (κ×Value)}(r:KV dj vs):(!vs.isEmpty)= !dj.isEmpty:=by cases r<;>rfl
theorem Me{xs:List V}{its:List Value}(r:Vals xs its):(!its.toArray.isEmpty)= !xs.isEmpty:=by cases r<;>simp
theorem qH:(sizeLine:Nat)<2^63:=by rw[uf];decide
theorem Qx:a4Z X (λx H Q=>∃k,Gf X.K x H k/\Q k H):=by intro ak s O H x v Q I rx h;obtain⟨k,e,q⟩:=h;have hl:=qH;have hs:sizeLine=16777216:=uf;cases x with |aY=>cases rx;have e':k=false:=e;subst e';exact truthy_none ⟨H,I,q⟩ |bl b=>cases rx;have e':k=b:=e;subst e';exact mC ⟨H,I,q⟩ |int i=>obtain⟨t,rfl⟩:=rx;have e':k=(i !=0):=e;subst e';exact PySem.P.truthy_int ⟨H,I,q⟩ |str y=>obtain⟨t,rfl⟩:=rx;obtain⟨hy,e'⟩:y.length<=sizeLine/\k=((y.length:Int) !=0):=e;subst e';exact PySem.P.truthy_str aw ⟨H,I.tok _,q⟩ |jf y=>obtain⟨t,rfl⟩:=rx;obtain⟨hy,e'⟩:y.size<=sizeLine/\k=((y.size:Int) !=0):=e;subst e';exact PySem.W.truthy_bytes aw ⟨H,I.tok _,q⟩ |ref p=>
 cases rx;have e':(∃xs,aK X.K H p xs/\k= !xs.isEmpty)\/(∃xs,aQ X.K H p xs/\k= !xs.isEmpty)\/∃dj,H p=some (.dK dj)/\k= !dj.isEmpty:=e;rcases e' with⟨xs,hx,e'⟩|⟨xs,hx,e'⟩|⟨dj,hx,e'⟩
 ·subst e'
  obtain⟨its,r,pl,hz⟩:=I.list hx;have hlen:=r.length;exact wpAny_truthy_list pl.isList (by simp only[cX];lia) ⟨H,I.tok _,by rw[Me r];exact q⟩
 ·subst e'
  obtain⟨its,r,pl,hz⟩:=I.tuple hx;have hlen:=r.length;exact truthy_tuple pl (by simp only[cX];lia) ⟨H,I.tok _,by rw[Me r];exact q⟩
 ·subst e'
  obtain⟨hz,hS,vs,r,m⟩:dj.length<=sizeLine/\(p==sysModules)=false/\∃vs,KV dj vs/\s.heap.DictOf (DF X.prog X.w) p vs:=I.aU p _ hx;have hlen:dj.length=vs.length:=Paired.length r;exact wpAny_truthy_dict hS m aw ⟨H,I.tok _,by rw[YF r];exact q⟩ |_=>exact(show False from e).elim
theorem TL(ha:PE X a ta)(he:∀whole,isTrue a X.env whole=(do let v<-whole;standAt a.pos;holding [v] (truthy v))): PT X a (λO H Q=>ta O H λx H'=>∃k,Gf X.K x H' k/\Q k H'):=by intro ak s O H Q I h;exact isTrue_plain (aR (ha ak s O H _ I h) λv s1 ⟨x,H1,I1,r1,q1⟩=>Qx ak s1 O H1 x v Q I1 r1 q1) (he _)
theorem vals1{x:V}{us:List Value}(r:Vals [x] us):∃u,us=[u]/\RelV x u:=by cases r with |cons r1 r2=>cases r2;exact⟨_,rfl,r1⟩
theorem vals2{x y:V}{us:List Value}(r:Vals [x,y] us):∃u w',us=[u,w']/\RelV x u/\RelV y w':=by cases r with |cons r1 r2=>cases r2 with |cons r3 r4=>cases r4;exact⟨_,_,rfl,r1,r3⟩
theorem tW:eT X (.builtin "abs") (λxs H Q=>∃i,xs=[.int i]/\Q (.int (if i<0 then-i else i)) H):=by intro ak s O H xs us Q I r h;obtain⟨i,rfl,q⟩:=h;obtain⟨u,rfl,t,rfl⟩:=vals1 r;exact call_abs_int λu tk=>⟨.int (if i<0 then-i else i),H,I.tok _,⟨_,Z⟩,q⟩
theorem a4f(hc:X.calm=true):eT X (.builtin "max") (λxs H Q=>∃i j,xs=[.int i,.int j]/\Q (.int (if j>i then j else i)) H):=by
 intro ak s O H xs us Q I r h;obtain⟨i,j,rfl,q⟩:=h;obtain⟨u,w',rfl,⟨t,rfl⟩,⟨t',rfl⟩⟩:=vals2 r;refine max_two_ints (I.ok.hd hc) λh' tk k=>⟨_,H,I.kept k,?_,q⟩;by_cases hj:j>i
 ·rw[bo hj,bo hj];exact⟨_,Z⟩
 ·rw[bh hj,bh hj];exact⟨_,Z⟩
theorem Oc(hc:X.calm=true):eT X (.builtin "min") (λxs H Q=>∃i j,xs=[.int i,.int j]/\Q (.int (if j<i then j else i)) H):=by
 intro ak s O H xs us Q I r h;obtain⟨i,j,rfl,q⟩:=h;obtain⟨u,w',rfl,⟨t,rfl⟩,⟨t',rfl⟩⟩:=vals2 r;refine min_two_ints (I.ok.hd hc) λh' tk k=>⟨_,H,I.kept k,?_,q⟩;by_cases hj:j<i
 ·rw[bo hj,bo hj];exact⟨_,Z⟩
 ·rw[bh hj,bh hj];exact⟨_,Z⟩
end
structure rj(h:Heap)(x dx C:Addr)(mA:bc):Prop where
 obj:h.get? x=some (PySem.W.instObj C dx)
 ns:h.Ns1 dx mA
 ne:dx≠x
theorem LS{h:Heap}{dx:Addr}{mA:bc}(n:h.Ns1 dx mA):∃od,h.get? dx=some od/\∀name,PySem.W.lookIn name od=some (mA name):=by
 obtain⟨o,es,ep,ho,hd,hk,_,hm⟩:=n;refine⟨o,ho,λname=>?_⟩;have e:=hm name;unfold nsFind findBy at e;rw[<-Array.find?_toList]at e;unfold PySem.W.lookIn;rw[hd];dsimp only;split
 ·rename_i y q
  rw[q]at e;exact o9 some e
 ·rename_i q
  rw[q]at e;have a:es.toList.any (·.refKey)=false:=by rw[List.any_eq_false];intro y hy;obtain⟨z,t,ZL⟩:=hk y (Array.mem_toList_iff.mp hy);simp[DictEntry.refKey,ZL]
  have a':¬es.toList.any (·.refKey)=true:=by rw[a];exact cJ
  rw[bh a'];exact o9 some e
theorem rj.look{h:Heap}{x dx C:Addr}{mA:bc}(I:rj h x dx C mA):∃od,PySem.W.InstAt h x (PySem.W.instObj C dx) C (some od)/\∀name,PySem.W.lookIn name od=some (mA name):=let⟨od,ho,hl⟩:=LS I.ns
 ⟨od,⟨I.obj,Z,Z,ho⟩,hl⟩
section
variable {prog:af}{w:World}{A:ai}{E:Value->ae->Prop}{s:ae}{K:aa}{x dx C f:Addr}{mA:bc}{name:Str}{v:Value}
theorem get_map{expr:Bool}{Q:Value->ae->Prop}(X:K.In s.heap)(I:rj s.heap x dx C mA)(hg:PySem.W.plainGet K C name=true)(hh:PySem.W.hasDictIn K C=true) (ha:PySem.W.findIn K (.ref C) name=some none)(hv:mA name=some v)(Z6:PySem.W.handedIn v=true)(h:Q v {s with toks:=s.toks+1}): wpAny (model prog w) A (getAttr (.ref x) name expr) Q E s:=by obtain⟨od,J,hl⟩:=I.look;exact PySem.W.get_value X J (Pe hg).1 (PySem.W.findObj_own hh ha Z (by rw[hl,hv])) Z6 h
theorem a1x{pl:Sem Bool}{Q:Value×List Value->ae->Prop}(X:K.In s.heap)(I:rj s.heap x dx C mA)(hg:PySem.W.plainGet K C name=true) (hf:PySem.W.findIn K (.ref C) name=some (some (.ref f)))(ht:PySem.W.isFn K (.ref f)=true)(hv:mA name=none)(h:Q (.ref f,[.ref x]) s): wpAny (model prog w) A (getMethod (.ref x) name pl) Q E s:=by obtain⟨od,J,hl⟩:=I.look;exact PySem.W.method_fn X J (Pe hg).1 (Pe hg).2 hf (cP.mp ht) (by show(PySem.W.lookIn name od).map (·.isSome)=some false;rw[hl,hv];rfl) h
theorem RX{ns:List Str}{Q:Unit->ae->Prop}(X:K.In s.heap)(I:rj s.heap x dx C mA) (hs:PySem.W.findIn K (.ref C) "__setattr__"=some (some (.builtin "object.__setattr__")))(hp:PySem.W.plainOver K C=true)(ht:PySem.W.takerIn K C name=some none)(hh:PySem.W.hasDictIn K C=true) (hw:PySem.Within mA ns)(hsz:ns.length<=sizeLine) (h:∀h',rj h' x dx C (λy=>if y=name then some v else mA y)->Heap.SameBut dx s.heap h'->Q () {s with heap:=h',toks:=s.toks+2}): wpAny (model prog w) A (setAttr (.ref x) name v) Q E s:=by obtain⟨od,J,hl⟩:=I.look;refine Pc X J hs (PySem.W.osa_open (s:={s with toks:=s.toks+1}) (r:=none) X J hp ht λb=>?_);obtain⟨cd,hc,Es⟩:=Ae hh;have hx:s.heap.get? x=some ⟨.ref C,some dx,.plain,#[]⟩:=I.obj;refine aB (bA (aB (aB (Gv hx (aB (jY (s:={s with toks:=s.toks+1}) (Ac X hc) ?_))))));rw[Es];refine bA (a:=some dx) (aB (bA (aB ?_)));refine wpAny_nsSet1 (s:={s with toks:=s.toks+1}) I.ns λh' tG jb=>?_;obtain⟨oD,esD,epD,Eg,hdD,hcD⟩:=tG.count (Pb name v hw);refine aB (wpAny_lookBehind Eg (by rw[hdD];exact pastItsLine_dict (fz hcD (by rw[fA];lia))) ?_);exact bA (h _ ⟨(jb.2 _ (iR I.ne)).trans I.obj,tG,I.ne⟩ jb)
theorem XA{R:Result->ae->Prop}{vs:List Value}{kw:List (Str×Value)}(X:K.In s.heap)(hm:PySem.W.makesIn K C=true) (hi:PySem.W.findIn K (.ref C) "__init__"=some (some (.ref f)))(hf:PySem.W.typeIn K (.ref f)=some (.type "function")) (h:codeAny (model prog w) (A.under (.builtin "type.__call__" ⟨.ref C::vs,kw⟩)) (.call (.ref f) ⟨.ref (s.heap.objs.size+1)::vs,kw⟩) (PySem.W.InitBack (s.heap.objs.size+1) R) {s with heap:=(s.heap.push PySem.W.emptyDict).push (PySem.W.instObj C s.heap.objs.size)}): codeAny (model prog w) A (.call (.ref C) ⟨vs,kw⟩) R s:=by obtain⟨hh,g,d,t,os⟩:=s;exact PySem.W.make_core (PySem.W.makes_of X hm) (Pg X hi) (λself=>PySem.W.bind_fn X self hf) (.inl Z) h
end
def fL(f:Str)(v:V):List (Str×V)->List (Str×V) |[]=>[(f,v)] |(g,x)::r=>if g=f then(g,v)::r else(g,x)::fL f v r
theorem DP(f g:Str)(v:V):∀fs:List (Str×V),(fL f v fs).lookup g=if g=f then some v else fs.lookup g
 |[]=>by
  show List.lookup g [(f,v)]=_;by_cases h:g=f
  ·have hb:(g==f)=true:=cP.mpr h
   simp only[List.lookup,hb,bo h]
  ·have hb:(g==f)=false:=A9.mpr h
   simp only[List.lookup,hb,bh h] |(k,x)::r=>by
  have ih:=DP f g v r;rw[show fL f v ((k,x)::r)=(if k=f then(k,v)::r else(k,x)::fL f v r)from rfl];by_cases hk:k=f
  ·rw[bo hk]
   by_cases h:g=k
   ·have hb:(g==k)=true:=cP.mpr h
    simp only[List.lookup,hb,bo (h.trans hk)]
   ·have hb:(g==k)=false:=A9.mpr h
    simp only[List.lookup,hb,bh (λe:g=f=>h (e.trans hk.symm))]
  ·rw[bh hk]
   by_cases h:g=k
   ·have hb:(g==k)=true:=cP.mpr h
    simp only[List.lookup,hb,bh (λe:g=f=>hk (h.symm.trans e))]
   ·have hb:(g==k)=false:=A9.mpr h
    simp only[List.lookup,hb];exact ih
theorem DU(f:Str)(v:V):∀fs:List (Str×V),f∈(fL f v fs).map (·.1)/\∀g,g∈fs.map (·.1)->g∈(fL f v fs).map (·.1)
 |[]=>⟨by simp[fL],λg h=>by simp at h⟩ |(k,x)::r=>by
  obtain⟨i1,i2⟩:=DU f v r;rw[show fL f v ((k,x)::r)=(if k=f then(k,v)::r else(k,x)::fL f v r)from rfl];by_cases hk:k=f
  ·rw[bo hk]
   subst hk;exact⟨by simp,λg h=>by simpa using h⟩
  ·rw[bh hk]
   refine⟨?_,λg h=>?_⟩
   ·rw[uu]
    exact ur _ i1
   ·rw[uu]at h⊢
    rcases bZ.mp h with e|e
    ·exact bZ.mpr (.inl e)
    ·exact ur _ (i2 g e)
theorem LZ(f:Str)(v:V):∀fs:List (Str×V),(fL f v fs).length<=fs.length+1
 |[]=>by simp[fL] |(k,x)::r=>by
  have ih:=LZ f v r;rw[show fL f v ((k,x)::r)=(if k=f then(k,v)::r else(k,x)::fL f v r)from rfl];by_cases hk:k=f
  ·rw[bo hk,fA,fA];lia
  ·rw[bh hk,fA,fA];lia
theorem mr.some_of{v:V}{o:Option Value}(r:mr (some v) o):∃u,o=some u/\RelV v u:=by cases o with |none=>exact(show False from r).elim |some u=>exact⟨u,Z,r⟩
theorem mr.none_of{o:Option Value}(r:mr none o):o=none:=by cases o with |none=>rfl |some u=>exact(show False from r).elim
theorem a0v{v:V}{u:Value}(r:RelV v u):PySem.W.handedIn u=true:=by cases v with |aY=>cases(show u=Value.none from r);rfl |bl b=>cases(show u=Value.bool b from r);rfl |int i=>obtain⟨t,e⟩:=(show∃t,u=Value.int i t from r);cases e;rfl |str x=>obtain⟨t,e⟩:=(show∃t,u=Value.str x t from r);cases e;rfl |jf b=>obtain⟨t,e⟩:=(show∃t,u=Value.bytes b t from r);cases e;rfl |zt b=>obtain⟨t,e⟩:=(show∃t,u=Value.float b t from r);cases e;rfl |ref a=>cases(show u=Value.ref a from r);rfl |ty n=>cases(show u=Value.type n from r);rfl
section
variable {P:af}{w:World}{H H':Hp}{h h':Heap}{a C dx:Addr}{fs ir:List (Str×V)}
theorem E2(aU:dv P w H h)(e:H a=some (.ins C dx fs)):∃mA,rj h a dx C mA/\(∀f,mr (fs.lookup f) (mA f))/\PySem.Within mA (fs.map (·.1))/\fs.length<=1000/\H dx=some (.own a):=by obtain⟨d,z,ne,ob,mA,n,r,q⟩:=(show eQ P w H h a (.ins C dx fs)from aU a _ e);exact⟨mA,⟨ob,n,ne⟩,r,q,z,d⟩
end
structure gH(K:aa)(C:Addr):Prop where
 pg:PySem.W.plainGet K C Str.empty=true
 hd:PySem.W.hasDictIn K C=true
 po:PySem.W.plainOver K C=true
 sa:PySem.W.findIn K (.ref C) "__setattr__"=some (some (.builtin "object.__setattr__"))
theorem gH.get{K:aa}{C:Addr}(c:gH K C)(f:Str):PySem.W.plainGet K C f=true:=c.pg
def gp(K:aa)(C:Addr)(f:Str):Prop:=PySem.W.findIn K (.ref C) f=some none
theorem gp.QG{K:aa}{C:Addr}{f:Str}(n:gp K C f):PySem.W.takerIn K C f=some none:=by unfold PySem.W.takerIn;rw[show PySem.W.findIn K (.ref C) f=some none from n];rfl
structure Meth(K:aa)(C:Addr)(m:Str)(f:Addr):Prop where
 at_:PySem.W.findIn K (.ref C) m=some (some (.ref f))
 fn:PySem.W.isFn K (.ref f)=true
 kp:PySem.W.keepIn K (.ref f)=true
section
variable {X:Cx}{ak:List (Addr×Obj)}{O:St}{H:Hp}{s:ae}{a C dx:Addr}{fs:List (Str×V)}{f:Str}{v:V}{A:ai}{E:Value->ae->Prop}
theorem N7{b:Bool}{Q:Value->ae->Prop}(I:Inv X ak O H s)(e:H a=some (.ins C dx fs))(c:gH X.K C)(n:gp X.K C f)(l:fs.lookup f=some v) (h:∀u s',Inv X ak O H s'->RelV v u->Q u s'):wpAny (model X.prog X.w) A (getAttr (.ref a) f b) Q E s:=by obtain⟨mA,a8y,r,_,_,_⟩:=E2 I.aU e;obtain⟨u,hu,ru⟩:=mr.some_of (v:=v) (o:=mA f) (by rw[<-l];exact r f);exact get_map I.dG a8y (c.get f) c.hd n hu (a0v ru) (h u _ (I.tok _) ru)
theorem N6{m:Str}{g:Addr}{pl:Sem Bool}{Q:Value×List Value->ae->Prop}(I:Inv X ak O H s)(e:H a=some (.ins C dx fs))(c:gH X.K C)(k:Meth X.K C m g)(l:fs.lookup m=none) (h:Q (.ref g,[.ref a]) s):wpAny (model X.prog X.w) A (getMethod (.ref a) m pl) Q E s:=by obtain⟨mA,a8y,r,_,_,_⟩:=E2 I.aU e;have hn:mA m=none:=mr.none_of (by rw[<-l];exact r m);exact a1x I.dG a8y (c.get m) k.at_ k.fn hn h
theorem IV{y:V}{u:Value}{Q:Unit->ae->Prop}(I:Inv X ak O H s)(e:H a=some (.ins C dx fs))(c:gH X.K C)(n:gp X.K C f)(hl:fs.length<1000)(ry:RelV y u) (h:∀s',Inv X ak O (upd H a (.ins C dx (fL f y fs))) s'->Q () s'):wpAny (model X.prog X.w) A (setAttr (.ref a) f u) Q E s:=by
 obtain⟨mA,a8y,r,wi,_,ho⟩:=E2 I.aU e;have hz:(fs.map (·.1)).length<=sizeLine:=by rw[bR,uf];lia
 refine RX I.dG a8y c.sa c.po n.QG c.hd wi hz λh' O' sb=>h _ ?_;have hd:∃o,h'.get? dx=some o:=let⟨o,_,_,e',_⟩:=O'.ns;⟨o,e'⟩;refine I.write (x:=a) (e:=dx) (by rw[e];exact True.intro) (.inr ho) (λb q hb z=>(sb.2 b hb).trans z) hd ?_;refine⟨by rw[aL a8y.ne];exact ho,?_,a8y.ne,O'.obj,_,O'.ns,λg=>?_,λg hg=>?_⟩
 ·have:=LZ f y fs;lia
 ·show mr ((fL f y fs).lookup g) (if g=f then some u else mA g)
  rw[DP];by_cases q:g=f
  ·rw[bo q,bo q];exact ry
  ·rw[bh q,bh q];exact r g
 ·by_cases q:g=f
  ·rw[q];exact(DU f y fs).1
  ·refine(DU f y fs).2 g (wi g λz=>hg ?_)
   show(if g=f then some u else mA g)=none;rw[bh q];exact z
theorem Inv.made(I:Inv X ak O H s):Inv X ak O (upd (upd H s.heap.objs.size (.own (s.heap.objs.size+1))) (s.heap.objs.size+1) (.ins C s.heap.objs.size [])) {s with heap:=(s.heap.push PySem.W.emptyDict).push (PySem.W.instObj C s.heap.objs.size)}:=by
 have e1:(s.heap.push PySem.W.emptyDict).get? s.heap.objs.size=some PySem.W.emptyDict:=dw s.heap rfl;have e2:((s.heap.push PySem.W.emptyDict).push (PySem.W.instObj C s.heap.objs.size)).get? (s.heap.objs.size+1)=some (PySem.W.instObj C s.heap.objs.size):=by have:=dw (s.heap.push PySem.W.emptyDict) (o:=PySem.W.instObj C s.heap.objs.size) rfl;rwa [mI]at this
 have e3:(s.heap.push PySem.W.emptyDict).Ns s.heap.objs.size (λ_=>none):=⟨PySem.W.emptyDict,#[],_,e1,Z,(λe he=>absurd he (by simp)),λ_=>rfl⟩;have I1:=I.laid (a:=s.heap.objs.size) (o:=.own (s.heap.objs.size+1)) (h':=s.heap.push PySem.W.emptyDict) (t':=s.toks) (λb u q=>bK _ q) (bB _) ⟨_,e1⟩;refine I1.laid (a:=s.heap.objs.size+1) (o:=.ins C s.heap.objs.size []) (t':=s.toks) (λb u q=>bK _ q) (Nat.le_of_eq (mI _ _)) ?_;have ne:s.heap.objs.size≠s.heap.objs.size+1:=dg (Pr _);refine⟨by rw[aL ne,bp],fw _,ne,e2,λ_=>none,(Heap.Ns1.of_empty e3).at λo q=>bK _ q,λ_=>True.intro,λy hy=>absurd rfl hy⟩
theorem a4C{prog:af}{w:World}{env:Env}{e:Expr}{f:Str}{pos:Pos}{s:ae}{Q:Value->ae->Prop}(hb:attributeBase e f env (eval e env)=eval e env) (h:wpAny (model prog w) A (eval e env) (λo s₁=>wpAny (model prog w) A (getAttr o f true) Q E s₁) E s):wpAny (model prog w) A (eval (.Attribute e f pos) env) Q E s:=Attribute_any_ h (by rw[arm_eval_Attribute,hb])
end
def a71(X:Cx)(op:Operator)(rd:V->V->Hp->VK->Prop):Prop:=∀(ak:List (Addr×Obj))(s:ae)(O:St)(H:Hp)(x y:V)(u v:Value)(Q:VK),Inv X ak O H s->RelV x u->RelV y v->rd x y H Q->wpAny (model X.prog X.w) X.A (inplaceOp op u v) (EP X ak O Q) X.xe s
section
variable {X:Cx}{o e value:Expr}{f:Str}{pos pos' mL:Pos}{ta tv:TE}
end
section
variable {X:Cx}{ak:List (Addr×Obj)}{O:St}{H:Hp}{s:ae}{A:ai}{E:Value->ae->Prop}{Q:Value->ae->Prop}{c:Value}{b:Bool}
end
structure bV(k:Nat)(A:ai):Prop where
 hd:A.handled=none
 dp:A.depth+3*k+5<recursionLimit
 un:A.units+16*k+200<cLine
theorem bV.mono{j k:Nat}{A:ai}(r:bV k A)(h:j<=k):bV j A:=⟨r.hd,by have:=r.dp;lia,by have:=r.un;lia⟩
theorem bV.deeper{k:Nat}{A:ai}(r:bV (k+1) A)(env:Env):bV k (A.deeper env):=⟨r.hd,by have:=r.dp;show A.depth+1+3*k+5<_;lia,by have:=r.un;show A.units+3+16*k+200<_;lia⟩
theorem XB{A:ai}{C:Addr}{us:List Value}{kw:List (Str×Value)}:(A.under (.builtin "type.__call__" ⟨.ref C::us,kw⟩)).depth=A.depth+1:=by first|rfl|simp[Around.under,Code.weight,Code.isCreation,Code.isGuard,Code.isCaller,Code.frames,Code.isFrame,guardIds]
theorem Xz{A:ai}{C:Addr}{us:List Value}{kw:List (Str×Value)}:(A.under (.builtin "type.__call__" ⟨.ref C::us,kw⟩)).units=A.units+1:=by first|rfl|simp[Around.under,Code.cUnits,Code.frames,Code.isFrame]
theorem bV.make{k:Nat}{A:ai}(r:bV (k+1) A)(C:Addr)(us:List Value)(kw:List (Str×Value)):bV k (A.under (.builtin "type.__call__" ⟨.ref C::us,kw⟩)):=⟨r.hd,by have:=r.dp;rw[XB];omega,by have:=r.un;rw[Xz];omega⟩
theorem bV.depth{k:Nat}{A:ai}(r:bV k A):A.depth<recursionLimit:=by have:=r.dp;lia
theorem bV.units{k:Nat}{A:ai}(r:bV k A):A.units+64<cLine:=by have:=r.un;lia
def oj:TA:=λ_ H Q=>Q [] H
def Ri(ta:TE)(tr:TA):TA:=λO H Q=>ta O H λx H1=>tr O H1 λxs H2=>Q (x::xs) H2
section
variable {X:Cx}{e:Expr}{es:List Expr}{te:TE}{t:TA}{pos:Pos}
theorem ay:PA X [] oj:=λ_ _ _ _ H Q I h=>Calls.spliced_nil ⟨[],H,I,.nil,h⟩
theorem ao(ha:PE X e te)(hr:PA X es t)(hs:autoParam (starEach (e::es) X.env=(false,eval e X.env)::starEach es X.env) r8_._auto_1):PA X (e::es) (Ri te t):=by intro pos ak s O H Q I h;rw[hs];show wpAny _ _ (spliced ((false,eval e X.env)::backTo pos (starEach es X.env))) _ _ s;refine Calls.spliced_cons (aR (ha ak s O H _ I h) λu s1 ⟨x,H1,I1,r1,q1⟩=>?_);exact aR (hr pos ak s1 O H1 _ I1 q1) λus s2 ⟨xs,H2,I2,r2,q2⟩=>⟨x::xs,H2,I2,.cons r1 r2,q2⟩
end
abbrev Sp:=List V->Hp->VK->XK->Prop
abbrev iP:=List Env->Hp->ae->XK->Value->ae->Prop
structure o8(P:af)(w:World)(K:aa)(mg:bc)(au:Heap)(A:ai)(outer:List Env)(s:ae)(H:Hp):Prop where
 frames:A.frames=some outer
 mod:Mod K mg au
 bs:∀b o,au.get? b=some o->s.heap.get? b=some o/\H b=none
 jv:au.objs.size<=s.heap.objs.size
 iq:s.heap.FunFrames au outer
 kU:∀b∈cS outer,H b=none
 aU:dv P w H s.heap
 bare:AllBare s.gens
def CE(outer:List Env)(P:af)(w:World)(H:Hp)(s:ae)(Q:VK)(u:Value)(s':ae):Prop:=∃v H',s'.os=s.os/\AllBare s'.gens/\Un (cS outer) [] H H' s.heap s'.heap/\dv P w H' s'.heap/\RelV v u/\Q v H'
def CR(CX:iP)(outer:List Env)(P:af)(w:World)(H:Hp)(s:ae)(Q:VK)(E:XK)(r:Result)(s':ae):Prop:=match r with | .ok (.ret u)=>CE outer P w H s Q u s' | .ok _=>False | .error e=>CX outer H s E e s'
structure dS(P:af)(w:World)(K:aa)(mg:bc)(au:Heap)(CX:iP)(k:Nat)(f:Addr)(fd:FuncData)(ps:List Str)(sp:Sp):Prop where
 len:∀vs H Q E,sp vs H Q E->vs.length=ps.length
 run:∀(A:ai)(outer:List Env)(s:ae)(H:Hp)(args:Args)(us:List Value)(vs:List V)(Q:VK)(E:XK),bV k A->o8 P w K mg au A outer s H->BindsTo s fd args (ps.zip us)->Vals vs us->sp vs H Q E->codeAny (model P w) A (.call (.ref f) args) (CR CX outer P w H s Q E) s
theorem o8.make{P:af}{w:World}{K:aa}{mg:bc}{au:Heap}{A:ai}{outer:List Env}{s:ae}{H:Hp}(e:o8 P w K mg au A outer s H)(C:Addr)(us:List Value)(kw:List (Str×Value)): o8 P w K mg au (A.under (.builtin "type.__call__" ⟨.ref C::us,kw⟩)) outer s H:=⟨by first|exact e.frames|(simpa[Around.under,Code.envs,Code.isFrame,pushEnvs]using e.frames),e.mod,e.bs,e.jv,e.iq,e.kU,e.aU,e.bare⟩
section
variable {X:Cx}{ak:List (Addr×Obj)}{O:St}{H:Hp}{s s':ae}
theorem Inv.tR(I:Inv X ak O H s):o8 X.prog X.w X.K X.mg X.au X.A X.stack s H:=⟨I.ok.frames,I.ok.mod,I.bs,fz I.ok.jv I.sz,I.stack,I.rZ,I.aU,I.bare⟩
theorem Inv.after{Q:VK}{u:Value}(I:Inv X ak O H s)(h:CE X.stack X.prog X.w H s Q u s'):EP X ak O Q u s':=by obtain⟨v,H',os,bare,un,aU,r,q⟩:=h;obtain⟨hh,g,d,t,yx⟩:=s';obtain rfl:yx=s.os:=os;exact⟨v,H',I.call (h':=hh) (g':=g) (d':=d) (t':=t) (ch:=[]) un aU bare (λb z=>absurd z (by simp)),r,q⟩
end
def Rj(sp:Sp)(dvs:List V)(E:XK)(t:TA):TE:=λO H Q=>t O H λvs H1=>sp (vs++dvs) H1 Q E
inductive rA(C:Addr)(m:Str)(sp:Sp)(dvs:List V)(E:XK)(t:TA)(O:St)(Q:VK)(x:V)(H1:Hp):Prop |mk (a:_)(dx:_)(fs:_)(h0:x= .ref a)(h1:H1 a=some (.ins C dx fs))(h2:fs.lookup m=none)(h3:t O H1 λvs H2=>sp (x::(vs++dvs)) H2 Q E)
def HB(C:Addr)(m:Str)(sp:Sp)(dvs:List V)(E:XK)(ta:TE)(t:TA):TE:=λO H Q=>ta O H λx H1=>rA C m sp dvs E t O Q x H1
def QX(C:Addr)(sp:Sp)(dvs:List V)(E:XK)(t:TA):TE:=λO H Q=>t O H λvs H1=>∀x dx,H1 x=none->H1 dx=none->dx≠x->sp (.ref x::(vs++dvs)) (upd (upd H1 dx (.own x)) x (.ins C dx [])) (λv H2=>v= .aY/\Q (.ref x) H2) E
def Binds(K:aa)(fd:FuncData)(ps:List Str)(ds:List Value):Prop:=∀(s:ae)(us:List Value),K.In s.heap->(us++ds).length=ps.length->BindsTo s fd ⟨us,[]⟩ (ps.zip (us++ds))
theorem Binds.all{K:aa}{fd:FuncData}{ps:List Str}(h:∀us:List Value,us.length=ps.length->bindArgs fd ⟨us,[]⟩=pure (ps.zip us)):Binds K fd ps []:=λs us _ hl=>by rw[jj]at hl⊢;exact .of_eq (h us hl)
def Passes(CX:iP)(X:Cx)(E:XK):Prop:=∀(ak:List (Addr×Obj))(O:St)(H:Hp)(s:ae)(e:Value)(s':ae),Inv X ak O H s->CX X.stack H s E e s'->X.xe e s'
section
variable {X:Cx}{CX:iP}{k:Nat}{f C:Addr}{fd:FuncData}{ps:List Str}{sp:Sp}{dvs:List V}{ds:List Value}{E:XK}{x m:Str}{p pos apos:Pos}{e o:Expr}{es:List Expr}{ta:TE}{t:TA}
theorem Cy{ak:List (Addr×Obj)}{O:St}{H:Hp}{s:ae}{Q:VK}{us:List Value}{vs:List V}(F:dS X.prog X.w X.K X.mg X.au CX k f fd ps sp)(hr:bV k X.A)(hb:Binds X.K fd ps ds)(hd:Vals dvs ds)(hx:Passes CX X E) (I:Inv X ak O H s)(r:Vals vs us)(h:sp (vs++dvs) H Q E):wpAny (model X.prog X.w) X.A (call (.ref f) us) (EP X ak O Q) X.xe s:=by
 have r2:Vals (vs++dvs) (us++ds):=r.append hd;have hl:(us++ds).length=ps.length:=by rw[<-r2.length];exact F.len _ _ _ _ h
 refine pO (rJ (F.run X.A X.stack s H ⟨us,[]⟩ (us++ds) (vs++dvs) Q E hr I.tR (hb s us I.dG hl) r2 h) λr s' hq=>?_);cases r with |error e=>exact hx ak O H s e s' I hq |ok fl=>cases fl with |ret u=>exact I.after hq |next=>exact False.elim hq |brk=>exact False.elim hq |cont=>exact False.elim hq
theorem KR(F:dS X.prog X.w X.K X.mg X.au CX k f fd ps sp)(hr:bV k X.A)(hg:Gl X x)(hm:X.mg x=some (.ref f))(hk:PySem.W.keepIn X.K (.ref f)=true)(hb:Binds X.K fd ps ds)(hd:Vals dvs ds)(hx:Passes CX X E) (ha:PA X (e::es) t)(fc:autoParam ((x==("__debug__":Str))=false) q8_._auto_1)(he:autoParam (starEach (e::es) X.env=(false,eval e X.env)::starEach es X.env) r8_._auto_1)(dH:autoParam ((backTo pos (starEach es X.env)).any (·.1)=false) r8_._auto_1): PE X (.Call (.Name x p) (e::es) [] pos) (Rj sp dvs E t):=by intro ak s O H Q I h;refine wR (lW I hg hm ?_ fc);refine Ad (h₀:=X.au) I.ok.mod.jN hk (aR (ha pos ak s O H _ I h) λus s1 ⟨vs,H1,I1,r,q⟩=>⟨I1.dG,?_⟩) he dH;exact Cy F hr hb hd hx I1 r q
theorem KN{pl:Sem Bool}(he:PE X o ta)(c:gH X.K C)(hm:Meth X.K C m f)(F:dS X.prog X.w X.K X.mg X.au CX k f fd ps sp)(hr:bV k X.A)(hb:Binds X.K fd ps ds)(hd:Vals dvs ds)(hx:Passes CX X E)(ha:PA X (e::es) t) (fo:autoParam (starEach (e::es) X.env=(false,eval e X.env)::starEach es X.env) r8_._auto_1)(dH:autoParam ((backTo pos (starEach es X.env)).any (·.1)=false) r8_._auto_1) (ht:eval (.Call (.Attribute o m apos) (e::es) [] pos) X.env=(do
 let ov<-eval o X.env
 standAt apos.atName
 let(f,first)<-holding [ov] (getMethod ov m pl)
 callWith pos f first (backTo pos (starEach (e::es) X.env)) (backToKw pos (keywordEach [] X.env))):=by rfl): PE X (.Call (.Attribute o m apos) (e::es) [] pos) (HB C m sp dvs E ta t):=by
 intro ak s O H Q I h;refine PySem.W.methodCall_KW (pl:=pl) (aR (he ak s O H _ I h) λu s1 ⟨x,H1,I1,rx,a,dx,fs,ex,ea,l,q⟩=>?_) ht;subst ex;obtain rfl:u=Value.ref a:=rx;refine N6 I1 ea c hm l ?_;refine Ad (first:=[.ref a]) (h₀:=X.au) I.ok.mod.jN hm.kp (aR (ha pos ak s1 O H1 _ I1 q) λus s2 ⟨vs,H2,I2,r,q2⟩=>⟨I2.dG,?_⟩) fo dH;exact Cy (us:=.ref a::us) (vs:=.ref a::vs) F hr hb hd hx I2 (.cons Z r) q2
theorem KL{pl:Sem Bool}(he:PE X o ta)(c:gH X.K C)(hm:Meth X.K C m f)(F:dS X.prog X.w X.K X.mg X.au CX k f fd ps sp)(hr:bV k X.A)(hb:Binds X.K fd ps ds)(hd:Vals dvs ds)(hx:Passes CX X E) (ht:eval (.Call (.Attribute o m apos) [] [] pos) X.env=(do
 let ov<-eval o X.env
 standAt apos.atName
 let(f,first)<-holding [ov] (getMethod ov m pl)
 callWith pos f first (backTo pos (starEach [] X.env)) (backToKw pos (keywordEach [] X.env))):=by rfl): PE X (.Call (.Attribute o m apos) [] [] pos) (HB C m sp dvs E ta oj):=by
 intro ak s O H Q I h;refine PySem.W.methodCall_KW (pl:=pl) (aR (he ak s O H _ I h) λu s1 ⟨x,H1,I1,rx,a,dx,fs,ex,ea,l,q⟩=>?_) ht;subst ex;obtain rfl:u=Value.ref a:=rx;refine N6 I1 ea c hm l ?_;exact PySem.W.callWith_K0 (first:=[.ref a]) I1.dG hm.kp (Cy (us:=[.ref a]) (vs:=[.ref a]) F hr hb hd hx I1 (.cons rfl .nil) q)
structure Mk(K:aa)(C f:Addr):Prop where
 makes:PySem.W.makesIn K C=true
 init:PySem.W.findIn K (.ref C) "__init__"=some (some (.ref f))
 fn:PySem.W.isFn K (.ref f)=true
 kp:PySem.W.keepIn K (.ref C)=true
theorem Sm{ak:List (Addr×Obj)}{O:St}{H:Hp}{s:ae}{Q:VK}{us:List Value}{vs:List V}(M:Mk X.K C f)(F:dS X.prog X.w X.K X.mg X.au CX k f fd ps sp)(hr:bV (k+1) X.A)(hb:Binds X.K fd ps ds)(hd:Vals dvs ds) (hx:Passes CX X E)(I:Inv X ak O H s)(r:Vals vs us) (h:∀x dx,H x=none->H dx=none->dx≠x->sp (.ref x::(vs++dvs)) (upd (upd H dx (.own x)) x (.ins C dx [])) (λv H2=>v= .aY/\Q (.ref x) H2) E): wpAny (model X.prog X.w) X.A (call (.ref C) us) (EP X ak O Q) X.xe s:=by
 have hq:=h (s.heap.objs.size+1) s.heap.objs.size (I.aU.fresh (uk _)) (I.aU.fresh (bB _)) (dg (Pr _));have I2:=Inv.made (C:=C) I;have r2:Vals (V.ref (s.heap.objs.size+1)::(vs++dvs)) (Value.ref (s.heap.objs.size+1)::(us++ds)):=.cons Z (r.append hd);have hl:(Value.ref (s.heap.objs.size+1)::us++ds).length=ps.length:=by have e:=r2.length;rw[F.len _ _ _ _ hq]at e;exact e.symm
 refine pO (XA (f:=f) I.dG M.makes M.init (cP.mp M.fn) (rJ (F.run _ X.stack _ _ ⟨Value.ref (s.heap.objs.size+1)::us,[]⟩ (Value.ref (s.heap.objs.size+1)::(us++ds)) _ _ E (hr.make C us []) (I2.tR.make C us []) (hb _ (Value.ref (s.heap.objs.size+1)::us) I2.dG hl) r2 hq) λr s' fH=>?_));cases r with |error e=>exact hx ak O _ _ e s' I2 fH |ok fl=>cases fl with |ret u=>obtain⟨v,H',I3,rv,ev,q3⟩:=I2.after fH;subst ev;exact⟨rv,⟨V.ref (s.heap.objs.size+1),H',I3,Z,q3⟩⟩ |next=>exact False.elim fH |brk=>exact False.elim fH |cont=>exact False.elim fH
theorem KO(M:Mk X.K C f)(F:dS X.prog X.w X.K X.mg X.au CX k f fd ps sp)(hr:bV (k+1) X.A)(hg:Gl X x)(hm:X.mg x=some (.ref C))(hb:Binds X.K fd ps ds)(hd:Vals dvs ds)(hx:Passes CX X E) (ha:PA X (e::es) t)(fc:autoParam ((x==("__debug__":Str))=false) q8_._auto_1)(he:autoParam (starEach (e::es) X.env=(false,eval e X.env)::starEach es X.env) r8_._auto_1)(dH:autoParam ((backTo pos (starEach es X.env)).any (·.1)=false) r8_._auto_1): PE X (.Call (.Name x p) (e::es) [] pos) (QX C sp dvs E t):=by intro ak s O H Q I h;refine wR (lW I hg hm ?_ fc);refine Ad (h₀:=X.au) I.ok.mod.jN M.kp (aR (ha pos ak s O H _ I h) λus s1 ⟨vs,H1,I1,r,q⟩=>⟨I1.dG,?_⟩) he dH;exact Sm M F hr hb hd hx I1 r q
end
section
variable {X:Cx}{CX:iP}{k:Nat}{f C:Addr}{fd:FuncData}{ps ks:List Str}{sp:Sp}{E:XK}{x m:Str}{p pos apos a7R:Pos}{e o:Expr}{es:List Expr}{kws:List Keyword}{te ta:TE}{t tk:TA}{nm:Option Str}
variable {g:List Value->List Value->List Value}{gV:List V->List V->List V}
end
structure bj(N P:List Str)(sc:Scope):Prop where
 kind:sc.kind= .function
 co:sc.isCoroutine=false
 gen:sc.isGenerator=false
 nd:N.Nodup
 pre:N.take P.length=P
 par:∀x∈P,sc.names.lookup x=some .local\/sc.names.lookup x=some .cell
 WN:∀y∈sc.names,y.2≠ .free
theorem Og{kindOf:Str->Option NameKind}{x:Str}:∀{binds:List (Str×Value)}{m:bc},(∀v,(x,v)∉binds)->bindL kindOf binds m x=m x
 |[],_,_=>rfl |(n,v)::r,m,h=>by
  unfold bindL;rw[Og λw hw=>h w (ur _ hw)];split
  ·have:x≠n:=by rintro rfl;exact h v GN
   simp[this]
  ·rfl
theorem Oi{kindOf:Str->Option NameKind}{x:Str}:∀{binds:List (Str×Value)}{m:bc},(∀v,(x,v)∉binds)->bindC kindOf binds m x=m x
 |[],_,_=>rfl |(n,v)::r,m,h=>by
  unfold bindC;rw[Oi λw hw=>h w (ur _ hw)];split
  ·rfl
  ·have:x≠n:=by rintro rfl;exact h v GN
   simp[this]
theorem Oh{kindOf:Str->Option NameKind}{x:Str}{v:Value}:∀{P:List Str}{vs:List Value}{i:Nat}{m:bc},P.Nodup->P[i]? =some x->vs[i]? =some v->kindOf x=some .local->bindL kindOf (P.zip vs) m x=some v |[],_,_,_,_,h,_,_=>by simp at h |_::_,[],_,_,_,_,h,_=>by simp at h |p::P,w::vs,0,m,nd,h1,h2,hk=>by simp at h1 h2;subst h1;subst h2;show bindL kindOf ((p,w)::P.zip vs) m p=_;unfold bindL;rw[Og λv hv=>(GL.mp nd).1 (uq hv).1,bo hk];simp |p::P,w::vs,i+1,m,nd,h1,h2,hk=>by show bindL kindOf ((p,w)::P.zip vs) m x=_;unfold bindL;exact Oh (i:=i) (GL.mp nd).2 (by simpa using h1) (by simpa using h2) hk
theorem Oj{kindOf:Str->Option NameKind}{x:Str}{v:Value}:∀{P:List Str}{vs:List Value}{i:Nat}{m:bc},P.Nodup->P[i]? =some x->vs[i]? =some v->kindOf x≠some .local->bindC kindOf (P.zip vs) m x=some v |[],_,_,_,_,h,_,_=>by simp at h |_::_,[],_,_,_,_,h,_=>by simp at h |p::P,w::vs,0,m,nd,h1,h2,hk=>by simp at h1 h2;subst h1;subst h2;show bindC kindOf ((p,w)::P.zip vs) m p=_;unfold bindC;rw[Oi λv hv=>(GL.mp nd).1 (uq hv).1,bh hk];simp |p::P,w::vs,i+1,m,nd,h1,h2,hk=>by show bindC kindOf ((p,w)::P.zip vs) m x=_;unfold bindC;exact Oj (i:=i) (GL.mp nd).2 (by simpa using h1) (by simpa using h2) hk
def start(N:List Str)(vs:List V):St:=vs.map some++List.replicate (N.length-vs.length) none
def eW(CX:iP)(P:af)(w:World)(K:aa)(mg:bc)(au:Heap)(N:List Str)(qual:Str)(scope:Scope)(f:Addr)(cd:Value)(A:ai)(outer:List Env)(s:ae)(H:Hp)(E:XK):Cx where
 prog:=P
 w:=w
 K:=K
 mg:=mg
 au:=au
 A:=A.deeper (envOfC qual scope s.heap.objs.size f cd)
 N:=N
 s₀:=s
 H₀:=H
 env:=envOfC qual scope s.heap.objs.size f cd
 outer:=outer
 stack:=envOfC qual scope s.heap.objs.size f cd::outer
 ex:=[]
 calm:=true
 fn:=λ_=>true
 pn:=[]
 xe:=λe s'=>wpAny (model P w) (A.deeper (envOfC qual scope s.heap.objs.size f cd)) (leaving (envOfC qual scope s.heap.objs.size f cd) e) (λ_ Cu=>CX outer H s E e Cu) (λe' Cu=>CX outer H s E e' Cu) s'
theorem Oa{sc:Scope}{n:Nat}{x:Str}(h:sc.names.lookup x=some .cell):∃c,(cellsFrom n sc.names []).lookup x=some c:=by have q:=GB sc.names n [] (.inl h);exact Option.isSome_iff_exists.mp q
theorem E1{CX:iP}{P:af}{w:World}{K:aa}{mg:bc}{au:Heap}{N ps:List Str}{qual:Str}{scope:Scope}{f:Addr}{cd:Value}{A:ai}{outer:List Env}{s s1:ae}{H:Hp}{E:XK}{us:List Value}{vs:List V} (S:bj N ps scope)(hd:A.handled=none)(e0:o8 P w K mg au A outer s H)(hl:vs.length=ps.length)(r:Vals vs us) (x:InCallC s s.heap.objs.size (bindL (envOfC qual scope s.heap.objs.size f cd).kindOf (ps.zip us) λ_=>none) (cellsFrom (s.heap.objs.size+1) scope.names []) (bindC (envOfC qual scope s.heap.objs.size f cd).kindOf (ps.zip us) λ_=>none) s1): Inv (eW CX P w K mg au N qual scope f cd A outer s H E) [] (start N vs) H s1:=by
 have dH:ps.length<=N.length:=by have:=o9 List.length S.pre;rw[rP]at this;lia
 obtain⟨h1,tk,rfl,hk⟩:=x.done;have vi:∀b:Addr,b∉(eW CX P w K mg au N qual scope f cd A outer s H E).ex:=λb z=>absurd (show b∈([]:List Addr)from z) (by simp);refine⟨⟨e0.mod,S.kind,Z,Z,bB _,λy z c h1 h2=>?_,λy hy=>?_,λy c _ h=>?_,λ_=>hd,Around.frames_deeper e0.frames,.inr ⟨Z,Z⟩,λb z=>absurd z (vi b),e0.bs,e0.jv,λb _ _=>vi b,λb z=>absurd z (vi b),e0.iq,e0.kU⟩,rfl,e0.bare,Un.kept hk,⟨_,x.toInCall.ns,λi y v h1 h2 h3=>?_⟩,λy c h=>⟨_,x.cell y c h⟩,e0.aU.fresh (bB _),λy c h=>?_,λp hp=>absurd (show p∈([]:List (Addr×Obj))from hp) (by simp),e0.aU.kept hk,?_⟩
 ·exact name_of_addr x.apart (Ab h1) (Ab h2)
 ·have hy:scope.names.lookup y=some .cell\/scope.names.lookup y=some .free:=hy
  rcases hy with hy|hy
  ·exact Oa hy
  ·exact absurd Z (S.WN _ (Ab hy))
 ·exact Nat.le_of_lt (x.above y c (Ab h))
 ·have hi:i<vs.length:=by
   unfold start at h2;by_cases hi:i<vs.length
   ·exact hi
   ·rw[Aj (by simpa using hi)]at h2
    rw[List.getElem?_replicate]at h2;split at h2<;>cases h2
  have ha:vs[i]? =some v:=by unfold start at h2;rw[Ak (by simpa using hi),cY]at h2;cases e:vs[i]? with |none=>rw[e]at h2;cases h2 |some a=>rw[e]at h2;cases h2;rfl
  obtain⟨u,hu,rv⟩:=r.get ha;have hp:ps[i]? =some y:=by rw[<-S.pre,List.getElem?_take_of_lt aw];exact h1
  have Lv:ps.Nodup:=by rw[<-S.pre];exact S.nd.sublist (List.take_sublist _ _)
  refine⟨u,rv,?_⟩;rcases S.par y (iS hp)with k|k
  ·exact .inl ⟨k,Oh Lv hp hu k⟩
  ·obtain⟨c,e⟩:=Oa (n:=s.heap.objs.size+1) k
   refine .inr ⟨.inl k,c,e,?_⟩;have q:=x.cell y c e;rw[Oj Lv hp hu (by show scope.names.lookup y≠_;rw[k];decide)]at q;exact q
 ·exact e0.aU.fresh (Nat.le_of_lt (x.above y c (Ab h)))
 ·unfold start
  show _=N.length;rw[fj,bR,Ah]
  lia
theorem F3{CX:iP}{P:af}{w:World}{K:aa}{mg:bc}{au:Heap}{k:Nat}{f:Addr}{name qual:Str}{params:Arguments}{body:List Stmt}{scope:Scope}{dV kV doc pm aE ct oc:Value}{an od:Option Addr} {eG:Array (Option Value)}{N ps:List Str}{sp:Sp}(lk:K.lookup f=some ⟨oc,od,.func (PySem.W.fnOf name qual params body scope dV kV doc pm an aE ct),eG⟩)(dY:PySem.W.codeIn K aE qual=true)(S:bj N ps scope) (len:∀vs H Q E,sp vs H Q E->vs.length=ps.length) (fg:∀(A:ai)(outer:List Env)(s:ae)(H:Hp)(vs:List V)(Q:VK)(E:XK),bV k (A.deeper (envOfC qual scope s.heap.objs.size f aE))->sp vs H Q E->∃t,eP (eW CX P w K mg au N qual scope f aE A outer s H E) body t/\t {nx:=λ_ H'=>Q .aY H',rt:=Q} (start N vs) H): dS P w K mg au CX (k+1) f (PySem.W.fnOf name qual params body scope dV kV doc pm an aE ct) ps sp:=by
 refine⟨len,λA outer s H args us vs Q E hr e0 hb r fq=>?_⟩;have hl:=len _ _ _ _ fq;have KX:K.In s.heap:=e0.mod.jN.keeps λb o e=>(e0.bs b o e).1;have lim:s.heap.NoLimit:=e0.mod.nolimit.keeps λb o e=>(e0.bs b o e).1;have jd:∀y∈ps.zip us,scope.names.lookup y.1=some .local\/(scope.names.lookup y.1=some .cell/\((cellsFrom (s.heap.objs.size+1) scope.names []).lookup y.1).isSome=true):=λ⟨n,v⟩ hy=>by
  rcases S.par n (uq hy).1 with q|q
  ·exact .inl q
  ·exact .inr ⟨q,GB _ _ _ (.inl q)⟩
 refine P8 hr.depth (KX _ _ lk) Z S.co S.gen Z (Pj KX dY) (hb _ _ _ _ ?_);refine P0 S.kind jd λenv he s1 x=>?_;subst he;refine⟨lim.keeps x.toInCall.keep,codeAny_func ?_⟩;obtain⟨t,ht,hq⟩:=fg A outer s H vs Q E (hr.deeper _) fq;have I:Inv (eW CX P w K mg au N qual scope f aE A outer s H E) [] (start N vs) H s1:=E1 S hr.hd e0 hl r x;refine gr (ht [] s1 (start N vs) H _ I hq) (λfl s' hs=>?_) λe s' hs=>hs;have fin:∀{σ':St}{H':Hp}{v:V}{u:Value},Inv (eW CX P w K mg au N qual scope f aE A outer s H E) [] σ' H' s'->RelV v u->Q v H'->CE outer P w H s Q u s':=λ{σ' H' v u} J rv q=>⟨v,H',J.os,J.bare,J.au,J.aU,rv,q⟩;cases fl with |ret u=>obtain⟨v,σ',H',J,rv,q⟩:=hs;exact fin J rv q |next=>obtain⟨σ',H',J,q⟩:=hs;exact fin (v:=V.aY) (u:=Value.none) J Z q |brk=>obtain⟨_,_,_,q⟩:=hs;exact False.elim q |cont=>obtain⟨_,_,_,q⟩:=hs;exact False.elim q
section
variable {X:Cx}{x:Str}{p pos:Pos}{e:Expr}{es:List Expr}{t:TA}{id T:String}{r:List V->Hp->VK->Prop}
def xO(r:List V->Hp->VK->Prop)(t:TA):TE:=λO H Q=>t O H λvs H1=>r vs H1 Q
theorem dF(hc:eT X (.builtin id) r)(hg:Gl X x)(hm:X.mg x=none)(hv:bootBuiltins x=some (.builtin id))(ha:PA X (e::es) t)(hn:autoParam (x≠"__name__") q8_._auto_1)(fc:autoParam ((x==("__debug__":Str))=false) q8_._auto_1) (he:autoParam (starEach (e::es) X.env=(false,eval e X.env)::starEach es X.env) r8_._auto_1)(dH:autoParam ((backTo pos (starEach es X.env)).any (·.1)=false) r8_._auto_1):PE X (.Call (.Name x p) (e::es) [] pos) (xO r t):=by intro ak s O H Q I h;refine wR (ng I hg hm hv ?_ hn fc);exact PyProof.Rows.callWith_builtin1 (aR (ha pos ak s O H _ I h) λus s1 ⟨vs,H1,I1,r1,q1⟩=>hc ak s1 O H1 vs us Q I1 r1 q1) he dH
theorem jH(hc:eT X (.type T) r)(hg:Gl X x)(hm:X.mg x=none)(hv:bootBuiltins x=some (.type T))(ha:PA X (e::es) t)(hn:autoParam (x≠"__name__") q8_._auto_1)(fc:autoParam ((x==("__debug__":Str))=false) q8_._auto_1) (he:autoParam (starEach (e::es) X.env=(false,eval e X.env)::starEach es X.env) r8_._auto_1)(dH:autoParam ((backTo pos (starEach es X.env)).any (·.1)=false) r8_._auto_1):PE X (.Call (.Name x p) (e::es) [] pos) (xO r t):=by intro ak s O H Q I h;refine wR (ng I hg hm hv ?_ hn fc);exact uj (aR (ha pos ak s O H _ I h) λus s1 ⟨vs,H1,I1,r1,q1⟩=>hc ak s1 O H1 vs us Q I1 r1 q1) he dH
end
end _L
namespace _H
open PySem PyProof.Rows
section
open PySem.SeqAt
open PySem.AutoSeq1 (wpAny_loadPart')
open PySem.MeetsSeq PySem.MeetsSeq2 PySem.MeetsSeq3
end
section
variable {prog:af}{w:World}{A:ai}{E:Value->ae->Prop}{s:ae}
theorem a4a{t b:Addr}{vs ws:List Value}{Q:Value->ae->Prop}(ht:IsTup s.heap t vs.toArray)(hb:IsTup s.heap b ws.toArray)(hv:vs≠[]) (h1:ws=[]->Q (.ref t) s)(h2:ws≠[]->Q (.ref s.heap.objs.size) {s with heap:=s.heap.push {cls:=.type "tuple",data:=.seq (vs++ws).toArray}}) (hsz:vs.length+ws.length<=sizeLine):wpAny (model prog w) A (binaryOp .Add (.ref t) (.ref b)) Q E s:=by
 obtain⟨⟨cls,dd,data,sl⟩,ho,hc,n,hd⟩:=id ht;obtain⟨⟨O8,tV,data2,ow⟩,m3,fJ,n2,hd2⟩:=id hb;simp only at hc hd fJ hd2;subst hc hd fJ hd2;have e:vs.toArray++ws.toArray=(vs++ws).toArray:=by simp
 by_cases hw:ws=[]
 ·exact concat_meets ⟨_,ho,Z⟩ ⟨_,m3,Z⟩ noFill_tuple_add seq_tuple_add Pk Pl (Pm _ _) (tuple_addW1 t b vs.toArray ws.toArray n n2 dd tV sl ow (by simpa using hv) (by simp[hw])) ⟨ho,m3,h1 hw⟩
 ·refine concat_meets ⟨_,ho,Z⟩ ⟨_,m3,Z⟩ noFill_tuple_add seq_tuple_add Pk Pl (Pm _ _) (tuple_addW2 t b vs.toArray ws.toArray n n2 dd tV sl ow (by simpa using hv) (by simpa using hw) (by rw[cX,cX];exact hsz)) ⟨ho,m3,?_⟩;rw[e];exact h2 hw
def bI(n d:Nat):Option Int->Nat |none=>d |some v=>if v<0 then(v+(n:Int)).toNat else min v.toNat n
theorem Ka (n d:Nat):bI n d none=d:=rfl
theorem Kb(n d k:Nat):bI n d (some (k:Int))=min k n:=by show(if(k:Int)<0 then((k:Int)+(n:Int)).toNat else min (k:Int).toNat n)=min k n;rw[bh aw,PD]
theorem Sg(n d:Nat)(hd:d<=n)(o:Option Int):bI n d o<=n:=by cases o with |none=>exact hd |some v=>
 show(if v<0 then(v+(n:Int)).toNat else min v.toNat n)<=n;by_cases hv:v<0
 ·rw[bo hv];lia
 ·rw[bh hv];exact Nat.min_le_right _ _
theorem FQ(v:Int)(n d:Nat):(if v<0 then max (v+(n:Int)) 0 else min v (n:Int))=((bI n d (some v):Nat):Int):=by
 show(if v<0 then max (v+(n:Int)) 0 else min v (n:Int))=(((if v<0 then(v+(n:Int)).toNat else min v.toNat n):Nat):Int);by_cases hv:v<0
 ·simp only[bo hv];lia
 ·simp only[bh hv];lia
theorem a4O(lo hi:Option Int)(n:Nat):Builtin.Slice.sliceAdjust lo hi 1 (n:Int)=(((bI n 0 lo:Nat):Int),((bI n n hi:Nat):Int)):=by
 have h1:¬((1:Int)<0):=by lia
 unfold Builtin.Slice.sliceAdjust;simp only[h1,if_false];refine Prod.ext ?_ ?_
 ·cases lo with |none=>rfl |some v=>exact FQ v n 0
 ·cases hi with |none=>rfl |some v=>exact FQ v n n
theorem TY(i j:Nat):Builtin.Slice.slicePlaces (i:Int) (j:Int) 1=j-i:=by
 unfold Builtin.Slice.slicePlaces;have h1:(1:Int)>0:=by lia
 simp only[h1,rF,Int.ediv_one];split<;>lia
theorem IM{v:Value}{o:Option Int}{Q:Option Int->ae->Prop}(p:IsPart v o)(h:Q o s):wpAny (model prog w) A (Builtin.Slice.slicePartIndex v) Q E s:=by cases p with |none=>exact slicePart_none h |int i t=>exact slicePart_int h
theorem IP{sl:Addr}{vl vu:Value}{lo hi:Option Int}{n:Nat}{Q:Int×Int×Nat->ae->Prop}(hs:s.heap.IsSliceOf sl vl vu .none)(pl:IsPart vl lo)(pu:IsPart vu hi) (h:Q (((bI n 0 lo:Nat):Int),1,bI n n hi-bI n 0 lo) s):wpAny (model prog w) A (Builtin.Slice.sliceApplied (.ref sl) (pure (n:Int))) Q E s:=by obtain⟨os,jQ,zk,kN⟩:=id hs;unfold Builtin.Slice.sliceApplied Builtin.Slice.sliceFields;refine aB (aB (fT jQ kN (x:=vl) Z (aB (fT jQ kN (x:=vu) Z (aB (fT jQ kN (x:=.none) Z (bA ?_)))))));refine aB (slicePart_none ?_);show wpAny _ _ (if((1:Int)==0)=true then _ else _) _ _ s;rw[bh az];refine aB (IM pl (aB (IM pu (aB (bA ?_)))));show wpAny _ _ (match Builtin.Slice.sliceAdjust lo hi 1 (n:Int)with|(lo,hi)=>pure (lo,(1:Int),Builtin.Slice.slicePlaces lo hi 1)) _ _ s;rw[a4O lo hi n];show wpAny _ _ (pure (((bI n 0 lo:Nat):Int),(1:Int),Builtin.Slice.slicePlaces ((bI n 0 lo:Nat):Int) ((bI n n hi:Nat):Int) 1)) _ _ s;rw[TY];exact bA h
theorem U0(xs:Array Value)(i k:Nat):((List.range k).filterMap λ(m:Nat)=>xs[((i:Int)+(m:Int)*1).toNat]?).toArray=((xs.toList.drop i).take k).toArray:=by
 have e:(λ(m:Nat)=>xs[((i:Int)+(m:Int)*1).toNat]?)=λm=>xs[i+m]?:=by
  funext m;have:((i:Int)+(m:Int)*1).toNat=i+m:=by lia
  rw[this]
 rw[e];have:=pick_run xs i k;rw[List.filterMap_map]at this;have e2:((λx=>xs[x]?)∘λx=>i+x)=λm=>xs[i+m]?:=rfl;rw[e2]at this;rw[this]
theorem a1z{t sl:Addr}{items:Array Value}{vl vu:Value}{lo hi:Option Int}{Q:Value->ae->Prop}(ht:IsTup s.heap t items)(hs:s.heap.IsSliceOf sl vl vu .none)(pl:IsPart vl lo)(pu:IsPart vu hi) (hw:¬(bI items.size 0 lo=0/\bI items.size items.size hi=items.size)) (h:Q (.ref s.heap.objs.size) {s with heap:=s.heap.push {cls:=.type "tuple",data:=.seq ((items.toList.drop (bI items.size 0 lo)).take (bI items.size items.size hi-bI items.size 0 lo)).toArray}}) (hsz:items.size<=sizeLine):wpAny (model prog w) A (getItem (.ref t) (.ref sl)) Q E s:=by
 have yX:sizeOk (.seq ((items.toList.drop (bI items.size 0 lo)).take (bI items.size items.size hi-bI items.size 0 lo)).toArray):=by show((items.toList.drop (bI items.size 0 lo)).take (bI items.size items.size hi-bI items.size 0 lo)).toArray.size<=sizeLine;rw[cX,rP,xh,Hb];omega
 have hj:bI items.size items.size hi<=items.size:=Sg _ _ (bB _) hi;obtain⟨os,jQ,zk,kN⟩:=id hs;have Ez:s.TypeIs (.ref sl) "slice":=⟨os,jQ,zk⟩;unfold getItem
 try with_reducible refine gI ?_
 first|refine aB (bA ?_)|skip
 refine aB (wpAny_sequenceKey ht.typeIs az ?_);refine aB (uc (name:=Str.ofString "__getitem__") ht.typeIs wV (ub wV ht.typeIs entry_tuple_getitem ?_ (args_tuple_getitem _ _)));show wpAny _ _ (Builtin.Tuple.tupleItemsOf (.ref t)>>=_) _ _ s;refine aB (tupleItemsOf_ ht ?_);refine aB (wpAny_typeOf Ez ?_);rw[bo az];refine aB (IP hs pl pu ?_);have m4:¬((((bI items.size 0 lo:Nat):Int)==0&&(1:Int)==1&&(bI items.size items.size hi-bI items.size 0 lo)==items.size)=true):=by intro q;rw[cZ,cZ]at q;have q1:((bI items.size 0 lo:Nat):Int)=0:=eq_of_beq q.1.1;have q2:bI items.size items.size hi-bI items.size 0 lo=items.size:=eq_of_beq q.2;exact hw ⟨bN,bN⟩
 show wpAny _ _ (if(((bI items.size 0 lo:Nat):Int)==0&&(1:Int)==1&&(bI items.size items.size hi-bI items.size 0 lo)==items.size)=true then _ else _) _ _ s;rw[bh m4,U0]
 first |exact aB (m:=Builtin.Tuple.tupleExact _) (jX (bA ⟨_,Z,bA h⟩) yX) |exact aB (m:=Builtin.Tuple.tupleExact _) (jX (aB (bA (bA ⟨_,Z,bA h⟩))) yX) |exact aB (aB (m:=Builtin.Tuple.tupleExact _) (jX (bA (bA ⟨_,Z,bA h⟩)) yX)) |exact aB (aB (m:=Builtin.Tuple.tupleExact _) (jX (bA ⟨_,Z,bA h⟩) yX))
end
end _H
namespace _L
open PySem PySem.Spec PyProof.Rows
abbrev TO:=St->Hp->(Option Int->Hp->Prop)->Prop
def PO(X:Cx)(e:Option Expr)(t:TO):Prop:=∀(ak:List (Addr×Obj))(s:ae)(O:St)(H:Hp)(Q:Option Int->Hp->Prop),Inv X ak O H s->t O H Q->wpAny (model X.prog X.w) X.A (evalPart e X.env) (λu s'=>∃o H',Inv X ak O H' s'/\IsPart u o/\Q o H') X.xe s
def QS:TO:=λ_ H Q=>Q none H
inductive a5d(Q:Option Int->Hp->Prop)(x:V)(H1:Hp):Prop |mk (i:_)(h0:x= .int i)(h1:Q (some i) H1)
def QN(t:TE):TO:=λO H Q=>t O H λx H1=>a5d Q x H1
section
variable {X:Cx}{e:Expr}{te:TE}{lo hi:Option Expr}{tl th:TO}{pos p2:Pos}
theorem qk:PO X none QS:=by intro ak s O H Q I h;rw[evalPart_none];exact bA ⟨none,H,I,.none,h⟩
theorem qj(h:PE X e te):PO X (some e) (QN te):=by intro ak s O H Q I hw;rw[evalPart_some];refine aR (h ak s O H _ I hw) λu s1 ⟨x,H1,I1,r1,q1⟩=>?_;obtain⟨i,rfl,q⟩:=q1;obtain⟨t,rfl⟩:=r1;exact⟨some i,H1,I1,.int i t,q⟩
def wB(X:Cx)(r:V->Option Int->Option Int->Hp->VK->Prop):Prop:=∀(ak:List (Addr×Obj))(s:ae)(O:St)(H:Hp)(x:V)(v vl vu:Value)(lo hi:Option Int)(sl:Addr)(Q:VK),Inv X ak O H s->RelV x v->s.heap.IsSliceOf sl vl vu .none->IsPart vl lo->IsPart vu hi->r x lo hi H Q->∃T id,typeLookup (.type T) "__getitem__"=pure (some (.builtin id))/\s.TypeIs v T/\wpAny (model X.prog X.w) X.A (getItem v (.ref sl)) (EP X ak O Q) X.xe s
def QK(r:V->Option Int->Option Int->Hp->VK->Prop)(te:TE)(tl th:TO):TE:=λO H Q=>te O H λx H1=>tl O H1 λl H2=>th O H2 λu H3=>r x l u H3 Q
theorem qp{r:V->Option Int->Option Int->Hp->VK->Prop}(hr:wB X r)(he:PE X e te)(hl:PO X lo tl)(hu:PO X hi th):PE X (.Subscript e (.Slice lo hi none p2) pos) (QK r te tl th):=by intro ak s O H Q I h;refine Subscript_ (aR (he ak s O H _ I h) λv s1 ⟨x,H1,I1,r1,q1⟩=>?_);refine wpAny_Slice (aR (hl ak s1 O H1 _ I1 q1) λvl s2 ⟨l,H2,I2,pl,q2⟩=>aR (hu ak s2 O H2 _ I2 q2) λvu s3 ⟨u,H3,I3,pu,q3⟩=>?_);rw[evalPart_none];refine bA ?_;have I4:Inv X ak O H3 {s3 with heap:=s3.heap.push {cls:=.type "slice",data:=.fields #[vl,vu,.none]}}:=I3.kept (t':=s3.toks) λb ob q=>bK _ q;obtain⟨T,id,hT,ht,hg⟩:=hr ak {s3 with heap:=s3.heap.push {cls:=.type "slice",data:=.fields #[vl,vu,.none]}} O H3 x v vl vu l u s3.heap.objs.size Q I4 r1 (Heap.IsSliceOf.new ..) pl pu q3;show wpAny (model X.prog X.w) X.A (subscriptTail e (.Slice lo hi none p2) v (.ref s3.heap.objs.size)) (EP X ak O Q) X.xe {s3 with heap:=s3.heap.push {cls:=.type "slice",data:=.fields #[vl,vu,.none]}};exact tail_any (ops:=[.ref s3.heap.objs.size,v]) ht hT hg (by with_unfolding_all rfl)
def gF(xs:List V)(lo hi:Option Int):List V:=(xs.drop (_H.bI xs.length 0 lo)).take (_H.bI xs.length xs.length hi-_H.bI xs.length 0 lo)
theorem O0(xs:List V)(lo hi:Option Int):(gF xs lo hi).length<=xs.length:=by
 unfold gF;rw[rP,xh]
 lia
inductive a6A(K:aa)(x:V)(lo:Option Int)(hi:Option Int)(H:Hp)(Q:VK):Prop |mk (a:_)(xs:_)(h0:x= .ref a)(h1:aQ K H a xs)(h2:¬(_H.bI xs.length 0 lo=0/\_H.bI xs.length xs.length hi=xs.length))(h3:∀p,H p=none->Q (.ref p) (upd H p (.tup (gF xs lo hi))))
def Ti(K:aa):V->Option Int->Option Int->Hp->VK->Prop:=λx lo hi H Q=>a6A K x lo hi H Q
theorem IQ:wB X (Ti X.K):=by
 intro ak s O H x v vl vu lo hi sl Q I rx hs pl pu h;obtain⟨a,xs,rfl,hx,hw,q⟩:=h;cases rx;obtain⟨its,r,ht,hz⟩:=I.tuple hx;have hlen:its.toArray.size=xs.length:=by rw[cX];exact r.length.symm
 refine⟨"tuple",_,wV.lookup,ht.typeIs,?_⟩;refine _H.a1z ht hs pl pu (by rw[hlen];exact hw) ?_ (by rw[hlen];exact hz);rw[hlen];refine⟨.ref s.heap.objs.size,_,I.laid (t':=s.toks) (o:=.tup (gF xs lo hi)) (λb ob q=>bK _ q) (bB _) ?_,Z,q _ (I.aU.fresh (bB _))⟩;exact⟨fz (O0 xs lo hi) hz,_,(r.drop (_H.bI xs.length 0 lo)).take (_H.bI xs.length xs.length hi-_H.bI xs.length 0 lo),IsTup.new _ _⟩
theorem Vals.Dw{xs:List V}{us:List Value}(r:Vals xs us):us=[]↔xs=[]:=by cases r with |nil=>simp |cons _ _=>simp
end
def kH(n:Nat)(i:Int):Option Nat:=if 0<=i then(if i<n then some i.toNat else none)else if-(n:Int)<=i then some (i+n).toNat else none
def iz{α:Type}(xs:List α)(i:Int):Option α:=(kH xs.length i).bind λj=>xs[j]?
theorem Mc{n:Nat}{i:Int}{j:Nat}(h:kH n i=some j):seqIndex? i n=some j/\j<n/\-(n:Int)<=i/\i<n:=by
 unfold kH at h;by_cases h0:0<=i
 ·rw[bo h0]at h
  by_cases h1:i<n
  ·rw[bo h1]at h
   have e:i.toNat=j:=dW h;exact⟨by rw[seqIndex_of h0 h1,e],aw,aw,h1⟩
  ·rw[bh h1]at h;cases h
 ·rw[bh h0]at h
  by_cases h1:-(n:Int)<=i
  ·rw[bo h1]at h
   have e:(i+n).toNat=j:=dW h;exact⟨by rw[seqIndex_neg aw h1,e],aw,h1,aw⟩
  ·rw[bh h1]at h;cases h
theorem G2{α:Type}{xs:List α}{i:Int}{v:α}(h:iz xs i=some v):∃j,seqIndex? i xs.length=some j/\xs[j]? =some v/\j<xs.length/\-(xs.length:Int)<=i/\i<xs.length:=by unfold iz at h;cases e:kH xs.length i with |none=>rw[e]at h;cases h |some j=>rw[e]at h;obtain⟨h1,h2,h3,h4⟩:=Mc e;exact⟨j,h1,h,h2,h3,h4⟩
theorem a4F{α:Type}{xs:List α}{j:Nat}{v:α}(h:xs[j]? =some v):iz xs (j:Int)=some v:=by
 have hj:j<xs.length:=(eY.mp h).1;have e:kH xs.length (j:Int)=some j:=by unfold kH;rw[bo aw,bo aw];simp
 unfold iz;rw[e];exact h
def OI(b:Expr):Prop:=∀o i,subscripted b false o i=operate [o,i] (getItem o i)
def nX(X:Cx)(r:R2):Prop:=∀(value slice:Expr)(ak:List (Addr×Obj))(s:ae)(O:St)(H:Hp)(x y:V)(v u:Value)(Q:VK),Inv X ak O H s->RelV x v->RelV y u->r x y H Q->subscripted slice false v u=operate [v,u] (getItem v u)->wpAny (model X.prog X.w) X.A (subscriptTail value slice v u) (EP X ak O Q) X.xe s
def Gk(X:Cx)(id:String)(r:V->List V->Hp->VK->Prop):Prop:=∀(ak:List (Addr×Obj))(s:ae)(O:St)(H:Hp)(x:V)(xs:List V)(v:Value)(us:List Value)(Q:VK),Inv X ak O H s->RelV x v->Vals xs us->r x xs H Q->wpAny (model X.prog X.w) X.A (call (.builtin id) (v::us)) (EP X ak O Q) X.xe s
section
variable {X:Cx}{a b:Expr}{ta tb:TE}{pos:Pos}
theorem nX.or{r r':R2}(h:nX X r)(h':nX X r'):nX X (λx y H Q=>r x y H Q\/r' x y H Q):=by
 intro value slice ak s O H x y v u Q I rx ry q hs;rcases q with q|q
 ·exact h value slice ak s O H x y v u Q I rx ry q hs
 ·exact h' value slice ak s O H x y v u Q I rx ry q hs
theorem KP{r:R2}(hr:nX X r)(ha:PE X a ta)(hb:PE X b tb)(hs:OI b):PE X (.Subscript a b pos) (uD r ta tb):=by intro ak s O H Q I h;exact Subscript_ (FW ha hb I h λv u s2 x y H2 I2 rx ry q=>hr a b ak s2 O H2 x y v u Q I2 rx ry q (hs _ _))
inductive a6L(K:aa)(x:V)(y:V)(H:Hp)(Q:VK):Prop |mk (p:_)(xs:_)(i:_)(v:_)(h0:x= .ref p)(h1:y= .int i)(h2:aK K H p xs)(h3:iz xs i=some v)(h4:Q v H)
def CS(K:aa):R2:=λx y H Q=>a6L K x y H Q
inductive a6J(K:aa)(x:V)(y:V)(H:Hp)(Q:VK):Prop |mk (p:_)(xs:_)(i:_)(v:_)(h0:x= .ref p)(h1:y= .int i)(h2:aQ K H p xs)(h3:iz xs i=some v)(h4:Q v H)
def CQ(K:aa):R2:=λx y H Q=>a6J K x y H Q
inductive a6K(x:V)(y:V)(H:Hp)(Q:VK):Prop |mk (z:_)(i:_)(c:_)(h0:x= .str z)(h1:y= .int i)(h2:z.length<=sizeLine)(h3:iz z.cps.toList i=some c)(h4:Q (.str ⟨#[c]⟩) H)
def Tt:R2:=λx y H Q=>a6K x y H Q
theorem Yz:nX X (CS X.K):=by
 intro value slice ak s O H x y v u Q I rx ry h hs;obtain⟨p,xs,i,z,rfl,rfl,hq,he,q⟩:=h;cases rx;obtain⟨t,rfl⟩:=ry;obtain⟨its,r,pl,hz⟩:=I.list hq;obtain⟨j,h1,h2,h3,h4,h5⟩:=G2 he;obtain⟨w,ew,uR⟩:=r.get h2;have hl:=r.length;have hn:=qH;have fin:EP X ak O Q w s:=⟨z,H,I,uR,q⟩;by_cases h0:0<=i
 ·have hj:i.toNat=j:=by rw[seqIndex_of h0 h5]at h1;exact dW h1
  exact item_listR pl.isList h0 aw (by rw[hj];simpa using ew) fin hs
 ·have hj:(i+(its.toArray.size:Int)).toNat=j:=by rw[seqIndex_neg aw h4]at h1;rw[cX,<-hl];exact dW h1
  exact subscriptTail_builtinR (x:=w) pl.isList.typeIs slot_list_getitem.lookup (wpAny_getItem_list_neg (Q:=λr s'=>r=w/\EP X ak O Q r s') pl.isList aw (by rw[cX]<;>lia) aw (by rw[hj];simpa using ew) ⟨Z,fin⟩) hs
theorem Yx:nX X (CQ X.K):=by intro value slice ak s O H x y v u Q I rx ry h hs;obtain⟨p,xs,i,z,rfl,rfl,hq,he,q⟩:=h;cases rx;obtain⟨t,rfl⟩:=ry;obtain⟨its,r,pl,hz⟩:=I.tuple hq;obtain⟨j,h1,h2,h3,h4,h5⟩:=G2 he;obtain⟨w,ew,uR⟩:=r.get h2;have hl:=r.length;have hn:=qH;have fin:EP X ak O Q w s:=⟨z,H,I,uR,q⟩;exact subscriptTail_builtinR (x:=w) pl.typeIs slot_tuple_getitem.lookup (getItem_tuple (j:=j) (Q:=λr s'=>r=w/\EP X ak O Q r s') pl aw aw (by rw[cX,<-hl];exact h1) (by simpa using ew) ⟨Z,fin⟩) hs
theorem Yy:nX X Tt:=by
 intro value slice ak s O H x y v u Q I rx ry h hs;obtain⟨z,i,c,rfl,rfl,hz,he,q⟩:=h;obtain⟨t,rfl⟩:=rx;obtain⟨t',rfl⟩:=ry;obtain⟨j,h1,h2,h3,h4,h5⟩:=G2 he;have hl:z.cps.toList.length=z.length:=by simp[Str.length]
 rw[hl]at h1 h4 h5;have hn:=qH;exact tail_any (typeIs_str s z t) slot_str_getitem.lookup (getItem_str (c:=c) (by have e1:decide (i< -(2^63:Int))=false:=df aw;have e2:decide (i>=2^63)=false:=df aw;rw[e1,e2,Bool.or_false]) (by rw[h1];simpa using h2) ⟨.str ⟨#[c]⟩,H,I.tok _,⟨_,Z⟩,q⟩) hs
theorem Xy(its:List Value)(n j:Nat)(u:Value):Obj.mapSeq (·.setIfInBounds j u) {cls:=.type "list",data:=.seq its.toArray n}={cls:=.type "list",data:=.seq (its.set j u).toArray n}:=by simp[Obj.mapSeq]
theorem Inv.lst{ak:List (Addr×Obj)}{O:St}{H:Hp}{s:ae}{p:Addr}{xs:List V}(I:Inv X ak O H s)(h:H p=some (.lst xs)): ∃(its:List Value)(n:Nat),Vals xs its/\s.heap.get? p=some {cls:=.type "list",data:=.seq its.toArray n}/\xs.length<=sizeLine:=by obtain⟨z,its,n,r,e⟩:=I.aU p _ h;exact⟨its,n,r,e,z⟩
theorem Inv.XY{ak:List (Addr×Obj)}{O:St}{H:Hp}{s:ae}{p:Addr}{xs ys:List V}{its its':List Value}{n n':Nat}{f:Obj->Obj}(I:Inv X ak O H s)(h:H p=some (.lst xs)) (ho:s.heap.get? p=some {cls:=.type "list",data:=.seq its.toArray n})(hf:f {cls:=.type "list",data:=.seq its.toArray n}={cls:=.type "list",data:=.seq its'.toArray n'})(r:Vals ys its')(hz:ys.length<=sizeLine)(t:Nat): Inv X ak O (upd H p (.lst ys)) {s with heap:=s.heap.update p f,toks:=t}:=by
 have e:(s.heap.update p f).get? p=some {cls:=.type "list",data:=.seq its'.toArray n'}:=by rw[xp f ho (by rw[hf]<;>rfl),hf]
 refine I.write (x:=p) (e:=p) (by rw[h];trivial) (.inl Z) (λb u hb q=>(xq _ _ (iR hb)).trans q) ⟨_,e⟩ ?_;exact⟨hz,its',n',r,e⟩
inductive a6D(o:V)(i:V)(v:V)(H:Hp)(Q:Hp->Prop):Prop |mk (p:_)(xs:_)(k:_)(j:_)(h0:o= .ref p)(h1:i= .int k)(h2:H p=some (.lst xs))(h3:kH xs.length k=some j)(h4:Q (upd H p (.lst (xs.set j v))))
def To:V->V->V->Hp->(Hp->Prop)->Prop:=λo i v H Q=>a6D o i v H Q
theorem set_list:OJ X To:=by
 intro ak s O H o i v ov iv u Q I ro ri rv h;obtain⟨p,xs,k,j,rfl,rfl,hp,hj,q⟩:=h;cases ro;obtain⟨t,rfl⟩:=ri;obtain⟨its,n,r,ho,hz⟩:=I.lst hp;obtain⟨h1,h2,h3,h4⟩:=Mc hj;have hl:=r.length;have hn:=qH;have I':Inv X ak O (upd H p (.lst (xs.set j v))) {s with heap:=s.heap.update p (Obj.mapSeq (·.setIfInBounds j u))}:=I.XY hp ho (Xy its n j u) (r.set rv j) (by rw[List.length_set];exact hz) s.toks;by_cases h0:0<=k
 ·have hk:k.toNat=j:=by rw[seqIndex_of h0 h4]at h1;exact dW h1
  exact PySem.W.ki_setAt ho h0 aw (by rw[cX,<-hl];exact h4) (by rw[hk];exact⟨_,I',q⟩)
 ·have hk:(k+(its.toArray.size:Int)).toNat=j:=by rw[seqIndex_neg aw h3]at h1;rw[cX,<-hl];exact dW h1
  exact PySem.W.ki_setBack ho aw (by rw[cX,<-hl];exact h3) aw (by rw[hk];exact⟨_,I',q⟩)
theorem RQ(lo hi:Option Int)(n:Nat):(sliceBounds lo hi none n).1=((_H.bI n 0 lo:Nat):Int)/\(sliceBounds lo hi none n).2.1=((_H.bI n n hi:Nat):Int)/\(sliceBounds lo hi none n).2.2=1:=by
 refine⟨?_,?_,Z⟩
 ·cases lo with |none=>simp[sliceBounds,_H.bI] |some i=>
  simp only[sliceBounds,_H.bI,Option.getD_none,show(1:Int)>0 by decide,rF];by_cases h:i<0
  ·simp only[h,rF]<;>lia
  ·simp only[h,if_false]<;>lia
 ·cases hi with |none=>simp[sliceBounds,_H.bI] |some i=>
  simp only[sliceBounds,_H.bI,Option.getD_none,show(1:Int)>0 by decide,rF];by_cases h:i<0
  ·simp only[h,rF]<;>lia
  ·simp only[h,if_false]<;>lia
theorem RR(its:List Value)(lo hi:Option Int):slicePick its.toArray lo hi none=((its.drop (_H.bI its.length 0 lo)).take (_H.bI its.length its.length hi-_H.bI its.length 0 lo)).toArray:=by obtain⟨h1,h2,h3⟩:=RQ lo hi its.toArray.size;unfold slicePick;rw[h1,h2,h3];simp only[sliceRange_one,pick_run,cX]<;>rfl
inductive a6B(K:aa)(x:V)(lo:Option Int)(hi:Option Int)(H:Hp)(Q:VK):Prop |mk (a:_)(xs:_)(h0:x= .ref a)(h1:aK K H a xs)(h2:∀p,H p=none->Q (.ref p) (upd H p (.lst (gF xs lo hi))))
def Tj(K:aa):V->Option Int->Option Int->Hp->VK->Prop:=λx lo hi H Q=>a6B K x lo hi H Q
theorem RS:wB X (Tj X.K):=by intro ak s O H x v vl vu lo hi sl Q I rx hs pl pu h;obtain⟨a,xs,rfl,hx,q⟩:=h;cases rx;obtain⟨its,r,ht,hz⟩:=I.list hx;have hlen:=r.length;refine⟨"list",_,slot_list_getitem.lookup,ht.isList.typeIs,?_⟩;refine wpAny_getItem_list_slice ht.isList hs pl pu .none (by simp) ?_ (by rw[cX]<;>lia);rw[RR,<-hlen];refine⟨.ref s.heap.objs.size,_,I.laid (t':=s.toks) (o:=.lst (gF xs lo hi)) (λb ob q=>bK _ q) (bB _) ?_,Z,q _ (I.aU.fresh (bB _))⟩;exact⟨fz (O0 xs lo hi) hz,_,0,(r.drop (_H.bI xs.length 0 lo)).take (_H.bI xs.length xs.length hi-_H.bI xs.length 0 lo),dw _ Z⟩
def p7:V->Bool | .aY=>true | .bl _=>true | .int _=>true | .str _=>true |_=>false
def ph:V->V->Bool | .aY,.aY=>true | .bl a,.bl b=>a==b | .bl a,.int b=>(if a then 1 else 0)==b | .int a,.bl b=>a==(if b then 1 else 0) | .int a,.int b=>a==b | .str a,.str b=>a==b |_,_=>false
theorem a3n{A:ai}{s:ae}{y x:V}{u v:Value}(ry:RelV y u)(rx:RelV x v)(fy:p7 y=true)(fx:p7 x=true):SeqAt.EqAt A s u v (ph y x):=by cases y with
 |aY=>cases ry;cases x with |aY=>cases rx;exact SeqAt.EqAt.same _ |bl b=>cases rx;exact SeqAt.EqAt.none_bool b |int b=>obtain⟨t,rfl⟩:=rx;exact SeqAt.EqAt.none_int b t |str b=>obtain⟨t,rfl⟩:=rx;exact SeqAt.EqAt.none_str b t |_=>exact absurd (show false=true from fx) cJ
 |bl a=>cases ry;cases x with |aY=>cases rx;exact SeqAt.EqAt.bool_none a |bl b=>cases rx;exact SeqAt.EqAt.bool_bool a b |int b=>obtain⟨t,rfl⟩:=rx;exact SeqAt.EqAt.bool_int a b t |str b=>obtain⟨t,rfl⟩:=rx;exact SeqAt.EqAt.bool_str a b t |_=>exact absurd (show false=true from fx) cJ
 |int a=>obtain⟨t',rfl⟩:=ry;cases x with |aY=>cases rx;exact SeqAt.EqAt.int_none a t' |bl b=>cases rx;exact SeqAt.EqAt.int_bool a t' b |int b=>obtain⟨t,rfl⟩:=rx;exact SeqAt.EqAt.int_int a t' b t |str b=>obtain⟨t,rfl⟩:=rx;exact SeqAt.EqAt.int_str a t' b t |_=>exact absurd (show false=true from fx) cJ
 |str a=>obtain⟨t',rfl⟩:=ry;cases x with |aY=>cases rx;exact SeqAt.EqAt.str_none a t' |bl b=>cases rx;exact SeqAt.EqAt.str_bool a t' b |int b=>obtain⟨t,rfl⟩:=rx;exact SeqAt.EqAt.str_int a t' b t |str b=>obtain⟨t,rfl⟩:=rx;exact SeqAt.EqAt.str_str a t' b t |_=>exact absurd (show false=true from fx) cJ
 |_=>exact absurd (show false=true from fy) cJ
def nR(x:V)(u:Value):Bool:=match u with | .none=>ph .aY x | .bool b=>ph (.bl b) x | .int i _=>ph (.int i) x | .str z _=>ph (.str z) x |_=>false
theorem Nv{x y:V}{u:Value}(r:RelV y u)(f:p7 y=true):nR x u=ph y x:=by cases y with |aY=>cases r;rfl |bl b=>cases r;rfl |int i=>obtain⟨t,rfl⟩:=r;rfl |str z=>obtain⟨t,rfl⟩:=r;rfl |_=>exact absurd (show false=true from f) cJ
theorem G3{x:V}:∀{xs:List V}{us:List Value},Vals xs us->xs.all p7=true->us.any (nR x)=xs.any λy=>ph y x |_,_,.nil,_=>rfl |y::xs,u::us,.cons r t,f=>by rw[xn,cZ]at f;rw[uw,uw,Nv r f.1,G3 t f.2]
theorem DG{A:ai}{s:ae}{x:V}{v:Value}(rx:RelV x v)(fx:p7 x=true):∀{xs:List V}{us:List Value},Vals xs us->xs.all p7=true->∀u∈us,SeqAt.EqAt A s u v (nR x u)
 |_,_,.nil,_=>λu hu=>by cases hu |y::xs,u::us,.cons r t,f=>λu' hu=>by
  rw[xn,cZ]at f;rcases bZ.mp hu with rfl|hu
  ·rw[Nv r f.1];exact a3n r rx f.1 fx
  ·exact DG rx fx t f.2 u' hu
def yV(x:V)(xs:List V):Bool:=xs.any λy=>ph y x
inductive a6T(K:aa)(neg:Bool)(x:V)(y:V)(H:Hp)(Q:VK):Prop |mk (p:_)(xs:_)(h0:y= .ref p)(h1:(aK K H p xs\/aQ K H p xs))(h2:p7 x=true)(h3:xs.all p7=true)(h4:Q (.bl (if neg then !yV x xs else yV x xs)) H)
def Kx(K:aa)(neg:Bool):R2:=λx y H Q=>a6T K neg x y H Q
theorem UC:cj X (compareOp .NotIn) (Kx X.K true):=by
 intro ak s O H x y v u Q I rx ry h;obtain⟨p,xs,rfl,hq,fx,fs,q⟩:=h;cases ry;rcases hq with hq|hq
 ·obtain⟨its,r,pl,hz⟩:=I.list hq
  refine SeqAt.notIn_listAt (nR x) pl.isList (λw hw=>DG rx fx r fs w (by simpa using hw)) ⟨.bl _,H,I,Z,?_⟩;rw[show its.toArray.any (nR x)=its.any (nR x) by simp,G3 r fs];exact q
 ·obtain⟨its,r,pl,hz⟩:=I.tuple hq
  refine SeqAt.notIn_tupleAt (nR x) pl (λw hw=>DG rx fx r fs w (by simpa using hw)) ⟨.bl _,H,I,Z,?_⟩;rw[show its.toArray.any (nR x)=its.any (nR x) by simp,G3 r fs];exact q
theorem a4i:eT X (.builtin "len") (λxs H Q=>∃p ys,xs=[.ref p]/\(aK X.K H p ys\/aQ X.K H p ys)/\Q (.int ys.length) H):=by
 intro ak s O H xs us Q I r h;obtain⟨p,ys,rfl,hq,q⟩:=h;obtain⟨u,rfl,rx⟩:=vals1 r;cases rx;have hn:=qH;rcases hq with hq|hq
 ·obtain⟨its,r',pl,hz⟩:=I.list hq
  have hlen:=r'.length;exact Calls.call_len_list pl.isList (by simp only[cX]<;>lia) ⟨.int ys.length,H,I.tok _,⟨s.toks+1,by rw[cX,hlen]⟩,q⟩
 ·obtain⟨its,r',pl,hz⟩:=I.tuple hq
  have hlen:=r'.length;exact len_tuple pl (by simp only[cX]<;>lia) ⟨.int ys.length,H,I.tok _,⟨s.toks+1,by rw[cX,hlen]⟩,q⟩
theorem a4h:eT X (.builtin "len") (λxs H Q=>∃z,xs=[.str z]/\z.length<=sizeLine/\Q (.int z.length) H):=by intro ak s O H xs us Q I r h;obtain⟨z,rfl,hz,q⟩:=h;obtain⟨u,rfl,t,rfl⟩:=vals1 r;have hn:=qH;exact len_str aw ⟨.int z.length,H,I.tok _,⟨_,Z⟩,q⟩
theorem eT.or{f:Value}{r r':List V->Hp->VK->Prop}(h:eT X f r)(h':eT X f r'):eT X f (λxs H Q=>r xs H Q\/r' xs H Q):=by
 intro ak s O H xs us Q I rs q;rcases q with q|q
 ·exact h ak s O H xs us Q I rs q
 ·exact h' ak s O H xs us Q I rs q
theorem a4g:eT X (.type "list") (λxs H Q=>∃p ys,xs=[.ref p]/\(aK X.K H p ys\/aQ X.K H p ys)/\∀l,H l=none->Q (.ref l) (upd H l (.lst ys))):=by
 intro ak s O H xs us Q I r h;obtain⟨p,ys,rfl,hq,q⟩:=h;obtain⟨u,rfl,rx⟩:=vals1 r;cases rx;have fin:∀(its:List Value),Vals ys its->ys.length<=sizeLine->∀(h':Heap)(c':Nat),(∀b o',s.heap.get? b=some o'->h'.get? b=some o')->h'.get? s.heap.objs.size=some {cls:=.type "list",dict:=none,data:=.seq its.toArray c',slots:=#[]}->EP X ak O Q (.ref s.heap.objs.size) {s with heap:=h'}:=λits r' hz h' c' kp e=>⟨.ref s.heap.objs.size,_,I.laid (t':=s.toks) kp (bB _) (show eQ X.prog X.w _ h' _ (.lst ys)from⟨hz,its,c',r',e⟩),Z,q _ (I.aU.fresh (bB _))⟩;rcases hq with hq|hq
 ·obtain⟨its,r',pl,hz⟩:=I.list hq
  have hlen:=r'.length;obtain⟨o,ho,hc,n,hd⟩:=pl.isList;exact call_list_seq p (.inl Z) ho hc hd (λh' c' kp e=>fin its r' hz h' c' kp e) (by simp only[cX]<;>lia)
 ·obtain⟨its,r',pl,hz⟩:=I.tuple hq
  have hlen:=r'.length;obtain⟨o,ho,hc,n,hd⟩:=pl;exact call_list_seq p (.inr Z) ho hc hd (λh' c' kp e=>fin its r' hz h' c' kp e) (by simp only[cX]<;>lia)
theorem a4b:eT X (.type "tuple") (λxs H Q=>∃p ys,xs=[.ref p]/\((aK X.K H p ys/\∀l,H l=none->Q (.ref l) (upd H l (.tup ys)))\/(aQ X.K H p ys/\Q (.ref p) H))):=by
 intro ak s O H xs us Q I r h;obtain⟨p,ys,rfl,h⟩:=h;obtain⟨u,rfl,rx⟩:=vals1 r;cases rx;rcases h with⟨hq,q⟩|⟨hq,q⟩
 ·obtain⟨its,r',pl,hz⟩:=I.list hq
  have hlen:=r'.length;refine call_tuple_list pl.isList (λh' kp=>?_) (by simp only[cX]<;>lia);have I1:Inv X ak O H {s with heap:=h'}:=I.kept (t':=s.toks) kp;have I2:Inv X ak O (upd H h'.objs.size (.tup ys)) {s with heap:=h'.push {cls:=.type "tuple",data:=.seq its.toArray}}:=I1.laid (t':=s.toks) (λb o e=>bK _ e) (bB _) (show eQ X.prog X.w _ _ _ (.tup ys)from⟨hz,its,r',IsTup.new _ _⟩);exact⟨.ref h'.objs.size,_,I2,Z,q _ (I1.aU.fresh (bB _))⟩
 ·obtain⟨its,r',pl,hz⟩:=I.tuple hq
  exact call_tuple_same pl ⟨.ref p,H,I,Z,q⟩
def Hl(K:aa)(T:String)(x:V)(H:Hp):Prop:=match x with | .str _=>T="str" | .int _=>T="int" | .ref p=>(T="list"/\∃xs,aK K H p xs)\/(T="tuple"/\∃o,K.lookup p=some o/\o.cls= .type "tuple"/\o.dict=none)\/ (T="dict"/\((∃dj,H p=some (.dK dj))\/∃dj,H p=some (.dT dj)))\/(T="set"/\∃S n,H p=some (.set S n)) |_=>False
theorem Qn{ak:List (Addr×Obj)}{O:St}{H:Hp}{s:ae}{T:String}{x:V}{v:Value}(I:Inv X ak O H s)(r:RelV x v)(ty:Hl X.K T x H): s.TypeIs v T/\∀a,v= .ref a->∃ob,s.heap.get? a=some ob/\ob.dict=none:=by cases x with
 |str z=>obtain⟨t,rfl⟩:=r;cases(show T="str" from ty);exact⟨typeIs_str s z t,λ_ e=>nomatch e⟩ |int i=>obtain⟨t,rfl⟩:=r;cases(show T="int" from ty);exact⟨ud s i t,λ_ e=>nomatch e⟩ |ref p=>
  cases r;rcases ty with⟨rfl,xs,hq⟩|⟨rfl,o,hk,hc,hd⟩|⟨rfl,hk⟩|⟨rfl,S,n,hk⟩
  ·obtain⟨its,_,pl,_⟩:=I.list hq
   refine⟨pl.isList.typeIs,λa e=>?_⟩;cases e;obtain⟨o,n,e,c,hd,_⟩:=pl;exact⟨o,e,hd⟩
  ·refine⟨⟨o,I.dG p o hk,hc⟩,λa e=>?_⟩
   cases e;exact⟨o,I.dG _ o hk,hd⟩
  ·have z:∃o,s.heap.get? p=some o/\o.ExactDict:=by
    rcases hk with⟨dj,hk⟩|⟨dj,hk⟩
    ·obtain⟨_,_,_,_,o,_,_,e,ex,_⟩:=I.aU p _ hk
     exact⟨o,e,ex⟩
    ·obtain⟨_,_,_,_,o,_,_,e,ex,_⟩:=I.aU p _ hk
     exact⟨o,e,ex⟩
   obtain⟨o,e,ex⟩:=z;refine⟨⟨o,e,ex.1⟩,λa e2=>?_⟩;cases e2;exact⟨o,e,ex.2.1⟩
  ·obtain⟨o,_,_,_,e,ex,_⟩:=I.aU p _ hk
   refine⟨⟨o,e,ex.1⟩,λa e2=>?_⟩;cases e2;exact⟨o,e,ex.2.1⟩ |_=>exact False.elim ty
def uE(K:aa)(T:String)(r:V->List V->Hp->VK->Prop)(to:TE)(t:TA):TE:=λO H Q=>to O H λx H1=>Hl K T x H1/\t O H1 λxs H2=>r x xs H2 Q
variable {o e:Expr}{es:List Expr}{to:TE}{t:TA}{name:Str}{apos cw:Pos}{T id:String}{r:V->List V->Hp->VK->Prop}
theorem yp(pa:PlainAttrs T)(slot:Slot T name id)(E7:typeOf (.builtin id)=pure (.type "method_descriptor"))(hm:Gk X id r)(ho:PE X o to)(ha:PA X (e::es) t) (nM:autoParam (attributeBase o name X.env (eval o X.env)=eval o X.env) r8_._auto_1) (nH:autoParam (((backTo cw (starEach (e::es) X.env)).all (λx=>!x.1)&&(backToKw cw (keywordEach [] X.env)).all (λx=>x.1.isSome) &&decide ((e::es).length+([]:List Keyword).length+(if([]:List Keyword).isEmpty then 0 else 1)<30))=true) r8_._auto_1) (nF:autoParam ((apos.endLine==cw.line)=true) r8_._auto_1)(hs:autoParam (starEach (e::es) X.env=(false,eval e X.env)::starEach es X.env) r8_._auto_1)(ny:autoParam ((backTo cw (starEach es X.env)).any (·.1)=false) r8_._auto_1): PE X (.Call (.Attribute o name apos) (e::es) [] cw) (uE X.K T r to t):=by intro ak s O H Q I h;refine wpAny_Call_method_late nM nH nF Z (aR (ho ak s O H _ I h) λv s1 ⟨x,H1,I1,r1,ty,q1⟩=>?_);obtain⟨h1,h2⟩:=Qn I1 r1 ty;refine⟨T,id,pa,slot,E7,h1,h2,?_⟩;have hA:=ha cw ak s1 O H1 _ I1 q1;rw[hs]at hA⊢;refine Calls.callWith_builtin (by show(false||(backTo cw (starEach es X.env)).any (·.1))=false;rw[ny]<;>rfl) (GZ ?_);exact aR hA λus s2 ⟨vs,H2,I2,r2,q2⟩=>hm ak s2 O H2 x vs v us Q I2 r1 r2 q2
end
def OQ(X:Cx)(id:String)(r:V->List V->Hp->VK->Prop):Prop:=∀(ak:List (Addr×Obj))(s:ae)(O:St)(H:Hp)(x:V)(xs:List V)(v:Value)(us:List Value)(Q:VK),Inv X ak O H s->RelV x v->Vals xs us->r x xs H Q->wpAny (model X.prog X.w) X.A (call (.builtin id) (v::us)) (EP X ak O Q) X.xe s
theorem Vals.one:∀{x:V}{us:List Value},Vals [x] us->∃u,us=[u]/\RelV x u |_,_,.cons r .nil=>⟨_,Z,r⟩
theorem Vals.rep{xs:List V}{us:List Value}(h:Vals xs us):∀k:Nat,Vals (List.replicate k xs).flatten (List.replicate k us).flatten |0=>.nil |k+1=>by rw[mF,mF,xk,xk];exact Vals.append h (Vals.rep h k)
theorem foldl_rep(its:List Value):∀(k:Nat)(acc:List Value),List.foldl (λx1 x2=>x1++x2) acc.toArray (List.replicate k its.toArray)=(acc++(List.replicate k its).flatten).toArray
 |0,acc=>by simp |k+1,acc=>by
  have e:acc.toArray++its.toArray=(acc++its).toArray:=by simp
  have e2:(acc++its)++(List.replicate k its).flatten=acc++(List.replicate (k+1) its).flatten:=by rw[mF,xk,List.append_assoc]
  rw[<-e2,<-foldl_rep its k (acc++its),<-e,mF,List.foldl_cons]
section
variable {X:Cx}{ak:List (Addr×Obj)}{O:St}{H:Hp}{s:ae}{l b:Addr}{xs ys zs:List V}
theorem Inv.LN{its its':List Value}{n:Nat}{f:Array Value->Array Value}{t':Nat}(I:Inv X ak O H s)(hH:H l=some (.lst xs)) (e:s.heap.get? l=some {cls:=.type "list",data:=.seq its.toArray n})(hf:f its.toArray=its'.toArray)(hv:Vals ys its')(hz:ys.length<=sizeLine): Inv X ak O (upd H l (.lst ys)) {s with heap:=s.heap.update l (Obj.mapSeq f),toks:=t'}:=by have q:=PySem.IsL.update e f;rw[hf]at q;refine I.write (x:=l) (e:=l) (by rw[hH];exact trivial) (.inl Z) (λb' u hb hu=>(xq s.heap (Obj.mapSeq f) (iR hb)).trans hu) ⟨_,q⟩ ?_;exact⟨hz,its',_,hv,q⟩
theorem Inv.yS{its:List Value}{t':Nat}(I:Inv X ak O H s)(hv:Vals ys its)(hz:ys.length<=sizeLine): Inv X ak O (upd H s.heap.objs.size (.lst ys)) {s with heap:=s.heap.push {cls:=.type "list",data:=.seq its.toArray},toks:=t'}:=I.laid (λ_ _ q=>bK _ q) (bB _) ⟨hz,its,0,hv,dw _ Z⟩
theorem Inv.fresh(I:Inv X ak O H s):H s.heap.objs.size=none:=I.aU.fresh (bB _)
theorem Inv.yQ(I:Inv X ak O H s)(hH:H l=some (.lst xs)):xs.length<=sizeLine/\∃(its:List Value)(n:Nat),Vals xs its/\xs.length=its.length/\s.heap.get? l=some {cls:=.type "list",data:=.seq its.toArray n}:=by obtain⟨z,its,n,r,e⟩:=I.aU l _ hH;exact⟨z,its,n,r,r.length,e⟩
theorem Lo{n:Nat}(h:n<=sizeLine):Builtin.List.listTooLong n=false:=by unfold Builtin.List.listTooLong;exact df aw
end
section
variable {X:Cx}
inductive a70(x:V)(vs:List V)(H:Hp)(Q:VK):Prop |mk (l:_)(xs:_)(y:_)(h0:x= .ref l)(h1:vs=[y])(h2:H l=some (.lst xs))(h3:xs.length<sizeLine)(h4:Q .aY (upd H l (.lst (xs++[y]))))
def Kz:V->List V->Hp->VK->Prop:=λx vs H Q=>a70 x vs H Q
theorem yL:OQ X "list.append" Kz:=by
 intro ak s O H x vs v us Q I rx rv h;obtain⟨l,xs,y,rfl,rfl,hH,hz,q⟩:=h;cases rx;obtain⟨u,rfl,ru⟩:=rv.one;obtain⟨z,its,n,r,hl,e⟩:=I.yQ hH;refine lj F.slot_list_append ⟨_,e,Z⟩ F.entry_list_append (F.args_list_append_2 _ _) (PySem.list_append l its.toArray n u (by rw[cX];lia)) ⟨e,?_⟩;refine⟨.aY,_,I.LN (its':=its++[u]) hH e (by simp) (r.append (.cons ru .nil)) ?_,Z,q⟩;rw[fj,List.length_singleton]
 lia
inductive a6W(x:V)(vs:List V)(H:Hp)(Q:VK):Prop |mk (l:_)(b:_)(xs:_)(zs:_)(h0:x= .ref l)(h1:vs=[.ref b])(h2:H l=some (.lst xs))(h3:H b=some (.lst zs))(h4:xs.length+zs.length<=sizeLine)(h5:Q .aY (upd H l (.lst (xs++zs))))
def Ky:V->List V->Hp->VK->Prop:=λx vs H Q=>a6W x vs H Q
theorem Xe:OQ X "list.extend" Ky:=by
 intro ak s O H x vs v us Q I rx rv h;obtain⟨l,b,xs,zs,rfl,rfl,hH,hB,hz,q⟩:=h;cases rx;obtain⟨u,rfl,ru⟩:=rv.one;cases ru;obtain⟨z,its,n,r,hl,e⟩:=I.yQ hH;obtain⟨z2,jo,n2,r2,m6,e2⟩:=I.yQ hB;have hsz:its.toArray.size+jo.toArray.size<=sizeLine:=by rw[cX,cX];lia
 have Ej:¬(!its.toArray.isEmpty&&Builtin.List.listTooLong (its.toArray.size+jo.toArray.size))=true:=by rw[Lo hsz,Ao];exact cJ
 refine lj F.slot_list_extend ⟨_,e,Z⟩ F.entry_list_extend (F.args_list_extend_2 _ _) (AutoSeq1.list_extend_list_list_0 l its.toArray n b jo.toArray n2 Ej (by rw[cX];lia) aw) ⟨e,e2,?_⟩;refine⟨.aY,_,I.LN (its':=its++jo) hH e (by simp) (r.append r2) ?_,Z,q⟩;rw[fj]
 lia
inductive a6H(x:V)(y:V)(H:Hp)(Q:VK):Prop |mk (l:_)(k:_)(xs:_)(h0:x= .ref l)(h1:y= .int k)(h2:H l=some (.lst xs))(h3:-(2^63)<=k)(h4:k<2^63)(h5:xs.length*k.toNat<=sizeLine)(h6:∀p,H p=none->Q (.ref p) (upd H p (.lst (List.replicate k.toNat xs).flatten)))
def Tr:R2:=λx y H Q=>a6H x y H Q
theorem len_rep{α:Type}(xs:List α)(k:Nat):(List.replicate k xs).flatten.length=k*xs.length:=by induction k with |zero=>simp |succ k ih=>rw[mF,xk,fj,ih,Nat.succ_mul,Nat.add_comm]
theorem UB:cj X (binaryOp .Mult) Tr:=by
 intro ak s O H x y v u Q I rx ry h;obtain⟨l,k,xs,rfl,rfl,hH,h1,h2,hz,q⟩:=h;cases rx;obtain⟨t,rfl⟩:=ry;obtain⟨z,its,n,r,hl,e⟩:=I.yQ hH;have hlen:its.toArray.size*k.toNat<=sizeLine:=by rw[cX,<-hl];exact hz
 have a0j:¬its.toArray.size*k.toNat>(2^63-1)/8:=by
  have:(sizeLine:Nat)<=(2^63-1)/8:=by decide
  lia
 have a03:¬(!Builtin.List.listFitsIndex k)=true:=by rw[fitsIndex_both h1 h2];exact cJ
 have Ej:¬Builtin.List.listTooLong (its.toArray.size*k.toNat)=true:=by rw[Lo hlen];exact cJ
 have zb:List.foldl (λx1 x2=>x1++x2) #[] (List.replicate (if its.toArray.isEmpty=true then 0 else k.toNat) its.toArray)=(List.replicate k.toNat its).flatten.toArray:=by
  have f0:∀m:Nat,List.foldl (λx1 x2=>x1++x2) #[] (List.replicate m its.toArray)=(List.replicate m its).flatten.toArray:=λm=>by have:=foldl_rep its m [];rw[List.nil_append]at this;exact this
  rw[f0];cases its with |nil=>simp |cons a r'=>rw[bh (by simp)]
 refine P4 (T:="list") (U:="int") az ⟨_,e,Z⟩ (λs'=>ud s' k t) noFill_list_mul F.fills_int_mul xu repeat_list F.slot_int_index.lookup (lj xu (ud s k t) F.entry_int_rmul (F.args_int_rmul_2 _ _) (int___rmul___int_list k t l its.toArray n) ⟨e,Z,⟨_,e,Z⟩,lj F.slot_list_mul ⟨_,e,Z⟩ F.entry_list_mul (F.args_list_mul_2 _ _) (AutoListH.list___mul___list_int_3 l its.toArray n k t a03 a0j Ej) ⟨e,?_⟩⟩);rw[zb];exact⟨.ref _,_,I.yS (t':=s.toks) (r.rep k.toNat) (by rw[len_rep,GI];exact hz),Z,q _ I.fresh⟩
end
section
variable {prog:af}{w:World}{A:ai}{E:Value->ae->Prop}{s:ae}
end
section
variable {X:Cx}
end
end _L
namespace _AA
open PySem PySem.W PySem.Calls PyProof.Rows
theorem YI{P:Params}{h:Heap}:∀(ns:List Int)(vs:List Value),WellAll P h vs (ns.map WData.int)->IntsAre vs ns:=by intro ns;induction ns with |nil=>intro vs w;rw[List.map_nil]at w;cases w;exact .nil |cons n ns ih=>intro vs w;rw[uu]at w;cases w with |cons a b=>cases a;exact .cons _ _ (ih _ b)
theorem S5{l:OpenLaw}{n:Nat}(hn:l.most=some n){P:Params}{h:Heap}{args:List WData}{vals:List Value} (z9:l.row.toRowW.claim.pre args=true)(qK:WellAll P h vals args): ∃a vs ns,vals=[Value.ref a]/\args=[WData.list (ns.map WData.int)]/\h.get? a=some {cls:=.type "list",data:=.seq vs.toArray}/\IntsAre vs ns/\ns.length<=n:=by
 have Zg:WShape.hasAll [] args [.list .int]=true:=(pre_splitW z9).1;have hc:l.pre.holds [] {args:=args}=true:=(pre_splitW z9).2;obtain⟨d,r,rfl,h1,h2⟩:=hasAllW_cons Zg;obtain rfl:=hasAllW_nil h2;obtain⟨xs,rfl,h3⟩:=hasW_list h1;obtain⟨ns,rfl⟩:=items_int h3;have hlen:ns.length<=n:=by
  unfold OpenLaw.pre at hc;have h4:(WTm.not (.lt (.lit (.int (n:Int))) (.len (.arg 0)))).holds [] {args:=[.list (ns.map .int)]}=true:=by have h4:=(holds_andW hc).1;rw[hn]at h4;exact h4
  have h5:=condW_of h4 (w_not (w_lt w_lit (w_len_list (w_arg Z))));rw[bR]at h5;refine Nat.le_of_not_lt λq=>?_;have q':(n:Int)<((ns.length:Nat):Int):=by omega
  first |(rw[cn q']at h5;exact absurd h5 az) |(simp at h5;omega)
 cases qK with |cons w1 w2=>cases w2;cases w1 with |list ho a0w=>exact⟨_,_,ns,Z,Z,ho,YI ns _ a0w,hlen⟩
theorem TX(l:OpenLaw)(args:List WData):l.row.toRowW.claim.post args (.bool true) args=true:=postW_of (r:=l.row.toRowW) (X:=(true==true)) (show WShape.has [] (.bool true) .bool=true by first|rfl|decide|simp[WShape.has,WShape.arms,WShape.armsAll]) (show(WTm.eq .res (.lit (.bool true))).value [] {args:=args,res:=some (.bool true),after:=args}=some (.bool (true==true))from w_eq_bool (w_res Z) w_lit) rfl
theorem a4D{l:OpenLaw}{n:Nat}{q:af}{loose:List Str}{XP:(bc)->Heap->Prop}{YP:World->Heap->Prop}{d:DefRec} (hn:l.most=some n)(vJ:d.params.defaults=[]) (call:∀(w:World)(s₀ s₁:ae)(mg mb:bc)(fa:Addr)(o:Obj)(pm cd doc:Value)(a:Addr)(vs:List Value)(ns:List Int),Ground q loose [] XP w s₀ mg mb s₁.heap->YP w s₁.heap->s₁.heap.get? fa=some o->o.data= .func (docDef d.name d.params d.body d.scope pm cd doc)->s₁.heap.CodeRec cd d.name->mg d.name=some (.ref fa)->s₁.heap.get? a=some {cls:=.type "list",data:=.seq vs.toArray}->IntsAre vs ns->ns.length<=n->s₁.gens=#[]->codeAny (model l.prog w) callerA (.call (.ref fa) ⟨[.ref a],[]⟩) (λr s'=>r= .ok (.ret (.bool true))/\OldK s₁.heap s'.heap/\s'.os=s₁.os/\AllBare s'.gens) s₁): WalkO q loose XP YP l.row.toRowW d [] (λf vs=>PySem.call f vs):=by intro w s₀ s₁ mg mb G Y fa o pm cd doc dV kV ho hd dY hD vD hg args vals as z9 a7Z hrd qK hlo;obtain rfl:dV= .none:=Dflts.none hD vJ;obtain rfl:kV= .none:=Dflts.noKw hD;obtain⟨a,vs,ns,rfl,rfl,Ef,hints,hlen⟩:=S5 hn z9 qK;refine enter_call (rJ (call w s₀ s₁ mg mb fa o pm cd doc a vs ns G Y ho (fd_plain hd) dY vD Ef hints hlen hg) λr s' hq=>?_);obtain⟨rfl,h2,h3,h4⟩:=hq;exact⟨.inl ⟨.bool true,.bool true,[],Z,λ_=>rfl,.bool true,TX l _,λ_=>⟨List.Pairwise.nil,λ_ hm=>(nomatch hm)⟩⟩,h2,h3,h4⟩
section
variable {prog:af}{w:World}{A:ai}{E:Value->ae->Prop}{s:ae}{K:Frag}
end
end _AA
namespace _L
open PySem PySem.Spec PyProof.Rows
theorem Hj:∀{vs:List Value}{ns:List Int},IntsAre vs ns->Vals (ns.map V.int) vs |_,_,.nil=>.nil |_,_,.cons n t h=>.cons ⟨t,Z⟩ (Hj h)
def Gi(H:Hp):Prop:=∀b,H b=none\/∃o xs,H b=some (.kT o (.lst xs))
theorem Yq{P:af}{w:World}{K:aa}{mg mb:bc}{CX:iP}{k:Nat}{fa a:Addr}{fd:FuncData}{x:Str}{sp:Sp}{s₁:ae}{vs:List Value}{ns:List Int} (KX:K.In s₁.heap)(My:s₁.heap.Ns mainGlobals mg)(hb:s₁.heap.Ns builtinsNs mb)(hbb:∀x:Str,x≠"__name__"->mb x=bootBuiltins x)(ZH:s₁.heap.NoLimit)(hg:s₁.gens=#[]) (ha:s₁.heap.get? a=some {cls:=.type "list",data:=.seq vs.toArray})(hi:IntsAre vs ns)(hl:ns.length<=sizeLine)(hr:bV k callerA) (F:∀au:Heap,K.In au->au.Ns mainGlobals mg->dS P w K mg au CX k fa fd [x] sp)(a0o:∀(s:ae)(u:Value),BindsTo s fd ⟨[u],[]⟩ [(x,u)]) (fq:∀H:Hp,Gi H->aK K H a (ns.map V.int)->sp [.ref a] H (λv _=>v= .bl true) λ_ _ _=>False) (ES:∀H e s',CX [] H s₁ (λ_ _ _=>False) e s'->False): codeAny (model P w) callerA (.call (.ref fa) ⟨[.ref a],[]⟩) (λr s'=>r= .ok (.ret (.bool true))/\OldK s₁.heap s'.heap/\s'.os=s₁.os/\AllBare s'.gens) s₁:=by
 have rv:=Hj hi;have Yg:=hi.length;have core:∀H:Hp,Gi H->aK K H a (ns.map V.int)->dv P w H s₁.heap->(∀b,H b≠none->b=a)->(H a≠none->K.lookup a=none)->codeAny (model P w) callerA (.call (.ref fa) ⟨[.ref a],[]⟩) (λr s'=>r= .ok (.ret (.bool true))/\OldK s₁.heap s'.heap/\s'.os=s₁.os/\AllBare s'.gens) s₁:=by
  intro H hO hS aU hA hK;have Ot:∀{b:Addr}{o:Obj},s₁.heap.get? b=some o->H b=none->(nG s₁.heap H).get? b=some o:=λe n=>ZX e n;have vi:∀{b:Addr}{o:Obj}{es:Array DictEntry}{ep:Nat},s₁.heap.get? b=some o->o.data= .dict es ep->H b=none:=λ{b o es ep} e d=>by cases q:H b with |none=>rfl |some u=>have e':b=a:=hA b (by rw[q];simp);subst e';rw[ha]at e;cases e;have d':Data.seq vs.toArray _=Data.dict es ep:=d;cases d'
  have yF:∀{b:Addr}{m:bc},s₁.heap.Ns b m->(nG s₁.heap H).Ns b m:=λ{b m} ⟨o,es,ep,e,d,r⟩=>⟨o,es,ep,Ot e (vi e d),d,r⟩;have MT:K.In (nG s₁.heap H):=λb o e=>Ot (KX b o e) (by cases q:H b with |none=>rfl |some u=>have e':b=a:=hA b (by rw[q];simp);subst e';rw[hK (by rw[q];simp)]at e;cases e);have hM:Mod K mg (nG s₁.heap H):=⟨MT,yF My,⟨mb,yF hb,hbb⟩,let⟨mc,h1,h2⟩:=ZH;⟨mc,yF h1,h2⟩⟩;have e0:o8 P w K mg (nG s₁.heap H) callerA [] s₁ H:=⟨Z,hM,λb o e=>Ws e,Nat.le_of_eq (ZW _ _),trivial,λb hb=>absurd (show b∈([]:List Addr)from hb) (by simp),aU,.of_eq hg⟩;refine rJ ((F _ MT (yF My)).run callerA [] s₁ H ⟨[.ref a],[]⟩ [.ref a] [.ref a] _ _ hr e0 (a0o s₁ (.ref a)) (.cons Z .nil) (fq H hO hS)) λr s' h=>?_;cases r with |error e=>exact(ES H e s' h).elim |ok fl=>cases fl with |next=>exact False.elim h |brk=>exact False.elim h |cont=>exact False.elim h |ret u=>obtain⟨v,H',os,bare,un,Zr,r',q⟩:=h;have q':v= .bl true:=q;subst q';obtain rfl:u=Value.bool true:=r';refine⟨Z,OldK.of_keep λb o e=>?_,os,bare⟩;cases q:H b with |none=>exact un.keep b o e q (by intro z;exact absurd (show b∈([]:List Addr)from z) (by simp)) (by simp) |some u=>
   rcases hO b with z|⟨ob,xs,z⟩
   ·rw[q]at z;cases z
   ·have z2:=un.gX b ob _ z
    obtain⟨e1,_⟩:=aU b _ z;obtain⟨e2,_⟩:=Zr b _ z2;rw[e]at e1;cases e1;exact e2
 cases hk:K.lookup a with |some o=>have e:=KX a o hk;rw[ha]at e;cases e;refine core (λ_=>none) (λ_=>.inl Z) (.inr ⟨_,vs.toArray,_,hk,Z,Z,Z,by rw[cX,Yg];exact hl,by simpa using rv⟩) (λb u z=>by have z':(none:Option HO)=some u:=z;cases z') (λb z=>absurd rfl z) λz=>absurd rfl z |none=>
  refine core (λb=>if b=a then some (.kT {cls:=.type "list",data:=.seq vs.toArray} (.lst (ns.map V.int)))else none) (λb=>?_) (.inl (.inr ⟨{cls:=.type "list",data:=.seq vs.toArray},bo Z⟩)) (λb u z=>?_) (λb z=>?_) λ_=>hk
  ·by_cases hb:b=a
   ·exact .inr ⟨_,_,bo hb⟩
   ·exact .inl (bh hb)
  ·by_cases hb:b=a
   ·have z':=(bo hb).symm.trans z
    cases z';subst hb;exact⟨ha,by rw[bR];exact hl,vs,_,rv,ha⟩
   ·have z':=(bh hb).symm.trans z
    cases z'
  ·by_cases hb:b=a
   ·exact hb
   ·exact absurd (bh hb) z
theorem Q5{l:PySem.W.OpenLaw}{n k:Nat}{q:af}{loose:List Str}{XP:(bc)->Heap->Prop}{YP:World->Heap->Prop}{d:DefRec}{K:Params->aa}{CX:World->iP}{sp:World->Sp}{x:Str} (hn:l.most=some n)(tG:n<=sizeLine)(vJ:d.params.defaults=[])(hr:bV k callerA) (hY:∀(w:World)(h:Heap),YP w h->(K w.params).In h) (F:∀(w:World)(mg:bc)(fa:Addr)(h:Heap),(K w.params).In h->h.Ns mainGlobals mg->mg d.name=some (.ref fa)->∃fd:FuncData,(∀(s:ae)(u:Value),BindsTo s fd ⟨[u],[]⟩ [(x,u)])/\∀au:Heap,(K w.params).In au->au.Ns mainGlobals mg->dS l.prog w (K w.params) mg au (CX w) k fa fd [x] (sp w)) (fq:∀(w:World)(H:Hp)(a:Addr)(ns:List Int),ns.length<=n->Gi H->aK (K w.params) H a (ns.map V.int)->sp w [.ref a] H (λv _=>v= .bl true) λ_ _ _=>False) (ES:∀(w:World)(H:Hp)(s:ae)(e:Value)(s':ae),CX w [] H s (λ_ _ _=>False) e s'->False): PySem.W.WalkO q loose XP YP l.row.toRowW d [] (λf vs=>PySem.call f vs):=by refine _AA.a4D hn vJ λw s₀ s₁ mg mb fa o pm cd doc a vs ns G Y ho hd dY vD Ef hints hlen hg=>?_;have KX:=hY w _ Y;obtain⟨fd,hb,hF⟩:=F w mg fa _ KX G.T.g vD;exact Yq KX G.T.g G.T.b G.T.builtins G.T.nolimit hg Ef hints (fz hlen tG) hr hF hb (λH hO hS=>fq w H a ns hlen hO hS) λH e s'=>ES w H s₁ e s'
def inClass(s:Stmt)(j:Nat):Stmt:=match s with | .ClassDef _ _ _ body _ _ _ _ _ _ _=>body.getD j (.Pass ⟨0,0,0,0⟩) |_=>.Pass ⟨0,0,0,0⟩
def iy(s:Stmt):Arguments:=match s with | .FunctionDef _ a _ _ _ _ _ _ _ _=>a |_=>{posonlyargs:=[],args:=[],vararg:=none,kwonlyargs:=[],kw_defaults:=[],kwarg:=none,defaults:=[]}
def eA(s:Stmt):List Stmt:=match s with | .FunctionDef _ _ b _ _ _ _ _ _ _=>b |_=>[]
def aP(s:Stmt):Scope:=match s with | .FunctionDef _ _ _ _ _ _ sc _ _ _=>sc |_=>{kind:=.function,names:=[],isGenerator:=false,isCoroutine:=false}
abbrev eM:iP:=λ_ _ _ _ _ _=>False
abbrev E0:XK:=λ_ _ _=>False
theorem yw{X:Cx}:Passes eM X E0:=λ_ _ _ _ _ _ _ h=>h.elim
structure gq(K:aa)(x qual:Str)(st:Stmt)(f:Addr)(fd:FuncData):Prop where
 ex:∃(oc:Value)(od:Option Addr)(kV doc pm:Value)(an:Option Addr)(aE ct:Value)(eG:Array (Option Value)),fd=PySem.W.fnOf x qual (iy st) (eA st) (aP st) .none kV doc pm an aE ct/\K.lookup f=some ⟨oc,od,.func fd,eG⟩/\PySem.W.codeIn K aE qual=true
 kp:PySem.W.keepIn K (.ref f)=true
section
variable {P:af}{w:World}{K:aa}{mg:bc}{au:Heap}
theorem gq.ok{x qual:Str}{st:Stmt}{f:Addr}{fd:FuncData}{N ps:List Str}{k:Nat}{sp:Sp}(F:gq K x qual st f fd)(S:bj N ps (aP st))(len:∀vs H Q E,sp vs H Q E->vs.length=ps.length) (fg:∀(aE:Value)(A:ai)(outer:List Env)(s:ae)(H:Hp)(vs:List V)(Q:VK)(E:XK),bV k (A.deeper (envOfC qual (aP st) s.heap.objs.size f aE))->sp vs H Q E->∃t,eP (eW eM P w K mg au N qual (aP st) f aE A outer s H E).lQ (eA st) t/\t {nx:=λ_ H'=>Q .aY H',rt:=Q} (start N vs) H):dS P w K mg au eM (k+1) f fd ps sp:=by obtain⟨oc,od,kV,doc,pm,an,aE,ct,eG,rfl,lk,dY⟩:=F.ex;refine F3 lk dY S len λA outer s H vs Q E hr fq=>?_;obtain⟨t,h,q⟩:=fg aE A outer s H vs Q E hr fq;exact⟨t,h.lQ,q⟩
theorem gq.binds{x qual:Str}{st:Stmt}{f:Addr}{fd:FuncData}{ps:List Str}(F:gq K x qual st f fd) (h:∀(kV doc pm:Value)(an:Option Addr)(aE ct:Value)(us:List Value),us.length=ps.length->bindArgs (PySem.W.fnOf x qual (iy st) (eA st) (aP st) .none kV doc pm an aE ct) ⟨us,[]⟩=pure (ps.zip us)):Binds K fd ps []:=by obtain⟨oc,od,kV,doc,pm,an,aE,ct,eG,rfl,lk,dY⟩:=F.ex;exact .all (h kV doc pm an aE ct)
theorem tO{x qual:Str}{st:Stmt}{f:Addr}{oc:Value}{od an:Option Addr}{eG:Array (Option Value)}{kV doc pm aE ct:Value}(l:K.lookup f=some ⟨oc,od,.func (PySem.W.fnOf x qual (iy st) (eA st) (aP st) .none kV doc pm an aE ct),eG⟩) (c:PySem.W.codeIn K aE qual=true)(k:PySem.W.keepIn K (.ref f)=true):gq K x qual st f (PySem.W.fnOf x qual (iy st) (eA st) (aP st) .none kV doc pm an aE ct):=⟨⟨oc,od,kV,doc,pm,an,aE,ct,eG,Z,l,c⟩,k⟩
end
section
variable {X:Cx}
theorem pv(i:Nat){x:Str}{pos:Pos}(hN:autoParam (X.N[i]? =some x) r8_._auto_1)(hv:Gb X.env.scope x:=by first|exact Or.inl rfl|exact Or.inr (Or.inl rfl)|exact Or.inr (Or.inr rfl))(hd:autoParam ((x==("__debug__":Str))=false) q8_._auto_1) (dY:autoParam ((x==("__classdict__":Str))=false) q8_._auto_1):PE X (.Name x pos) (Hu i):=Uc hN hv hd dY
end
theorem aV{A B:Prop}(h:B):if false=true then A else B:=by rw[bh cJ];exact h
theorem ba{A B:Prop}(h:A):if true=true then A else B:=by rw[bo rfl];exact h
theorem fZ{c A B:Prop}[Decidable c](h1:c->A)(h2:¬c->B):if c then A else B:=by
 by_cases h:c
 ·rw[bo h]
  exact h1 h
 ·rw[bh h]
  exact h2 h
def aA(H H':Hp):Prop:=∀b o,H b=some o->H' b=some o
theorem aA.refl(H:Hp):aA H H:=λ_ _ h=>h
theorem aA.trans{H H1 H2:Hp}(a:aA H H1)(b:aA H1 H2):aA H H2:=λc o h=>b c o (a c o h)
theorem aA.free{H H':Hp}(e:aA H H'){l:Addr}(h:H' l=Option.none):H l=Option.none:=by cases q:H l with |none=>rfl |some o=>rw[e l o q]at h;cases h
theorem aA.seq{K:aa}{H H':Hp}{a:Addr}{xs:List V}(e:aA H H')(h:aK K H a xs):aK K H' a xs:=by
 rcases h with(h|⟨o,h⟩)|h
 ·exact .inl (.inl (e _ _ h))
 ·exact .inl (.inr ⟨o,e _ _ h⟩)
 ·exact .inr h
def Wd (i:Int):Prop:=i.natAbs<2^5000
theorem Wd.bits{i:Int}(h:Wd i):Builtin.Int.intBits i<=2^20:=fz (PyProof.Rows.intBits_le h) az
theorem Wd.log{i:Int}(h:Wd i):i.natAbs.log2<9000:=by
 by_cases e:i.natAbs=0
 ·rw[e];decide
 ·have h1:i.natAbs.log2<5000:=(Nat.log2_lt e).mpr h
  lia
section
variable {X:Cx}
theorem uZ:cj X (binaryOp .FloorDiv) (rI (λ_ j=>0<j/\Wd j) λi j=>.int (i/j)):=v9 λi j _ _ _ _ _ hc q=>by have h1:(0:Int)<j:=hc.1;exact floordiv_int aw (by rw[Int.fdiv_eq_ediv_of_nonneg i aw];exact q) (.inl (PyProof.noPylong_of_log2 hc.2.log))
theorem L8:cj X (binaryOp .FloorDiv) (rI (λ_ j=>j≠0/\Wd j) λi j=>.int (i.fdiv j)):=v9 λ_ _ _ _ _ _ _ hc q=>floordiv_int hc.1 q (.inl (PyProof.noPylong_of_log2 hc.2.log))
end
def qX(K:aa)(H:Hp)(x:V)(T:String):Prop:=match x with | .aY=>T="NoneType" | .bl _=>T="bool" | .int _=>T="int" | .str _=>T="str" | .ref a=>(T="list"/\∃xs,aK K H a xs)\/(T="tuple"/\∃xs,aQ K H a xs) |_=>False
def fC(T n:String):Bool:=T==n||(T=="bool"&&n=="int")
def xG:List String:=["NoneType","bool","int","str","list","tuple"]
def uA:List String:=["bool","int","str","list","tuple"]
theorem Ma{K:aa}{T n:String}(h1:T∈xG)(h2:n∈uA):PySem.W.kitOne K (.type T) (.type n)=some (fC T n):=by
 have all:xG.all (λT=>uA.all λn=>PySem.W.kitOne [] (.type T) (.type n)==some (fC T n))=true:=by decide+kernel
 have a1:=fF.mp all T h1;have a2:=fF.mp a1 n h2;have e:PySem.W.kitOne K (.type T) (.type n)=PySem.W.kitOne [] (.type T) (.type n):=by unfold PySem.W.kitOne PySem.W.kitCls PySem.W.subIn;rfl
 rw[e];exact cP.mp a2
section
variable {X:Cx}
theorem qX.mem{K:aa}{H:Hp}{x:V}{T:String}(h:qX K H x T):T∈xG:=by cases x with |aY=>cases(show T="NoneType" from h);decide |bl b=>cases(show T="bool" from h);decide |int b=>cases(show T="int" from h);decide |str b=>cases(show T="str" from h);decide |ref a=>rcases(show(T="list"/\∃xs,aK K H a xs)\/(T="tuple"/\∃xs,aQ K H a xs)from h)with⟨e,_⟩|⟨e,_⟩<;>cases e<;>decide |_=>exact(show False from h).elim
theorem tq{ak:List (Addr×Obj)}{s:ae}{O:St}{H:Hp}{x:V}{u:Value}{T:String}(I:Inv X ak O H s)(rx:RelV x u)(ty:qX X.K H x T): ∃P:Heap->Prop,PySem.W.KitX X.K u (.type T) P/\P s.heap/\u≠ .builtin "__main__.__loader__#opaque":=by cases x with
 |aY=>cases(show T="NoneType" from ty);cases(show u=Value.none from rx);exact⟨_,PySem.W.kitx_none,True.intro,λz=>nomatch z⟩ |bl b=>cases(show T="bool" from ty);cases(show u=Value.bool b from rx);exact⟨_,PySem.W.kitx_bool,True.intro,λz=>nomatch z⟩ |int b=>cases(show T="int" from ty);obtain⟨t,q⟩:=(show∃t,u=Value.int b t from rx);cases q;exact⟨_,PySem.W.kitx_int,True.intro,λz=>nomatch z⟩ |str b=>cases(show T="str" from ty);obtain⟨t,q⟩:=(show∃t,u=Value.str b t from rx);cases q;exact⟨_,PySem.W.kitx_str,True.intro,λz=>nomatch z⟩ |ref a=>
  cases(show u=Value.ref a from rx);rcases(show(T="list"/\∃xs,aK X.K H a xs)\/(T="tuple"/\∃xs,aQ X.K H a xs)from ty)with⟨e,xs,hx⟩|⟨e,xs,hx⟩
  ·cases e
   obtain⟨its,r,⟨o,n,h1,h2,_⟩,_⟩:=I.list hx;exact⟨_,PySem.W.kitx_list,⟨o,h1,h2⟩,λz=>nomatch z⟩
  ·cases e
   obtain⟨its,r,⟨o,h1,h2,_⟩,_⟩:=I.tuple hx;exact⟨_,PySem.W.kitx_tuple,⟨o,h1,h2⟩,λz=>nomatch z⟩ |_=>exact(show False from ty).elim
inductive a6N(K:aa)(xs:List V)(H:Hp)(Q:VK):Prop |mk (x:_)(T:_)(n:_)(b:_)(h0:xs=[x,.ty n])(h1:qX K H x T)(h2:n∈uA)(h3:fC T n=b)(h4:Q (.bl b) H)
def CU(K:aa):List V->Hp->VK->Prop:=λxs H Q=>a6N K xs H Q
theorem a4k:eT X (.builtin "isinstance") (CU X.K):=by intro ak s O H xs us Q I r h;obtain⟨x,T,n,b,rfl,ty,hn,rfl,q⟩:=h;obtain⟨u,c,rfl,rx,rc⟩:=vals2 r;cases(show c=Value.type n from rc);obtain⟨P,a8x,p,hx⟩:=tq I rx ty;exact PySem.W.kia_one a8x I.dG p (Ma ty.mem hn) hx λtk=>⟨.bl (fC T n),H,I.tok _,Z,q⟩
inductive a6M(K:aa)(xs:List V)(H:Hp)(Q:VK):Prop |mk (x:V)(T:String)(p:Addr)(ns:List String)(b:Bool)(h0:xs=[x,.ref p])(h1:H p=some (.tup (ns.map V.ty)))(h2:qX K H x T)(h3:(∀n∈ns,n∈uA))(h4:ns.any (fC T)=b)(h5:Q (.bl b) H)
def CT(K:aa):List V->Hp->VK->Prop:=λxs H Q=>a6M K xs H Q
theorem M9{K:aa}{T:String}(h1:T∈xG):∀{ns:List String},(∀n∈ns,n∈uA)->PySem.W.kitAny K (.type T) (ns.map Value.type)=some (ns.any (fC T)) |[],_=>rfl |n::r,h=>by have e:=Ma (K:=K) h1 (h n (GN ..));have ih:=M9 (K:=K) h1 (ns:=r) λm hm=>h m (ur _ hm);rw[uu,PySem.W.kitAny,e,uw];cases fC T n with |true=>rfl |false=>simpa using ih
theorem Hh:∀{ns:List String}{us:List Value},Vals (ns.map V.ty) us->us=ns.map Value.type |[],_,.nil=>rfl |n::r,_,.cons q t=>by cases(show _=Value.type n from q);rw[Hh t];rfl
theorem a4j:eT X (.builtin "isinstance") (CT X.K):=by intro ak s O H xs us Q I r h;obtain⟨x,T,p,ns,b,rfl,hp,ty,hn,rfl,q⟩:=h;obtain⟨u,c,rfl,rx,rc⟩:=vals2 r;cases(show c=Value.ref p from rc);obtain⟨P,a8x,pp,hx⟩:=tq I rx ty;obtain⟨_,its,rv,⟨cls,dd,dt,sl⟩,h1,h2,n,h3⟩:=(show eQ X.prog X.w H s.heap p (.tup (ns.map V.ty))from I.aU p _ hp);simp only at h2 h3;subst h2 h3;have e:=Hh rv;subst e;exact PySem.W.kia_tup a8x I.dG pp h1 (M9 ty.mem hn) hx λtk=>⟨.bl _,H,I.tok _,Z,q⟩
end
mutual
def RD(K:aa)(H:Hp):V->ah->Prop |x,.none=>x= .aY |x,.bool b=>x= .bl b |x,.int i=>x= .int i |x,.str y=>x= .str y |x,.list ds=>∃a xs,x= .ref a/\aK K H a xs/\aI K H xs ds |x,.tuple ds=>∃a xs,x= .ref a/\aQ K H a xs/\aI K H xs ds |_,.dict _=>False
def aI (K:aa)(H:Hp):List V->List ah->Prop |xs,[]=>xs=[] |xs,d::ds=>∃y ys,xs=y::ys/\RD K H y d/\aI K H ys ds
end
section
variable {X:Cx}
mutual
theorem RD.reads{ak:List (Addr×Obj)}{s:ae}{O:St}{H:Hp}(I:Inv X ak O H s):∀{x:V}{u:Value}(d:ah),RelV x u->RD X.K H x d->∃as,Reads s.heap u d as |x,u,.none,r,h=>by cases(show x= .aY from by simpa[RD]using h);cases(show u=Value.none from r);exact⟨_,.none⟩ |x,u,.bool b,r,h=>by cases(show x= .bl b from by simpa[RD]using h);cases(show u=Value.bool b from r);exact⟨_,.bool b⟩ |x,u,.int i,r,h=>by cases(show x= .int i from by simpa[RD]using h);obtain⟨t,q⟩:=(show∃t,u=Value.int i t from r);cases q;exact⟨_,.int i t⟩ |x,u,.str y,r,h=>by cases(show x= .str y from by simpa[RD]using h);obtain⟨t,q⟩:=(show∃t,u=Value.str y t from r);cases q;exact⟨_,.str y t⟩ |x,u,.list ds,r,h=>by rw[RD]at h;obtain⟨a,xs,rfl,hx,hd⟩:=h;cases(show u=Value.ref a from r);obtain⟨its,rv,⟨o,n,h1,h2,h3,h4⟩,_⟩:=I.list hx;obtain⟨as,q⟩:=aI.reads I ds rv hd;exact⟨_,.list h1 h2 h4 (by simpa using q)⟩ |x,u,.tuple ds,r,h=>by rw[RD]at h;obtain⟨a,xs,rfl,hx,hd⟩:=h;cases(show u=Value.ref a from r);obtain⟨its,rv,⟨o,h1,h2,n,h4⟩,_⟩:=I.tuple hx;obtain⟨as,q⟩:=aI.reads I ds rv hd;exact⟨_,.tuple h1 h2 h4 (by simpa using q)⟩ |x,u,.dict _,r,h=>by simp[RD]at h
theorem aI.reads {ak:List (Addr×Obj)}{s:ae}{O:St}{H:Hp}(I:Inv X ak O H s):∀{xs:List V}{us:List Value}(ds:List ah),Vals xs us->aI X.K H xs ds->∃as,ReadsAll s.heap us ds as |xs,us,[],r,h=>by cases(show xs=[]from by simpa[aI]using h);cases r;exact⟨_,.nil⟩ |xs,us,d::ds,r,h=>by rw[aI]at h;obtain⟨y,ys,rfl,h1,h2⟩:=h;cases r with |cons ra rb=>obtain⟨as,q⟩:=RD.reads I d ra h1;obtain⟨bs,q'⟩:=aI.reads I ds rb h2;exact⟨_,.cons q q'⟩
end
inductive a6X(K:aa)(x:V)(y:V)(H:Hp)(Q:VK):Prop |mk (d:_)(e:_)(h0:RD K H x d)(h1:RD K H y e)(h2:SeqAt.shaped d=true)(h3:SeqAt.shaped e=true)(h4:Q (.bl (PyData.eqv d e)) H)
def CV(K:aa):R2:=λx y H Q=>a6X K x y H Q
inductive a6I(K:aa)(x:V)(y:V)(H:Hp)(Q:VK):Prop |mk (d:_)(e:_)(h0:RD K H x d)(h1:RD K H y e)(h2:SeqAt.shaped d=true)(h3:SeqAt.shaped e=true)(h4:Q (.bl (!PyData.eqv d e)) H)
def CP(K:aa):R2:=λx y H Q=>a6I K x y H Q
theorem UL(hu:X.A.units+64<cLine):cj X (compareOp .Eq) (CV X.K):=by intro ak s O H x y v u Q I rx ry h;obtain⟨d,e,hd,he,sd,se,q⟩:=h;obtain⟨as,ra⟩:=RD.reads I d rx hd;obtain⟨bs,rb⟩:=RD.reads I e ry he;exact eq_dataH ra rb sd se hu ⟨.bl _,H,I,Z,q⟩
theorem UE(hu:X.A.units+64<cLine):cj X (compareOp .NotEq) (CP X.K):=by intro ak s O H x y v u Q I rx ry h;obtain⟨d,e,hd,he,sd,se,q⟩:=h;obtain⟨as,ra⟩:=RD.reads I d rx hd;obtain⟨bs,rb⟩:=RD.reads I e ry he;exact ne_dataH ra rb sd se hu ⟨.bl _,H,I,Z,q⟩
end
theorem aA.new{H:Hp}{t:Addr}{o:HO}(ht:H t=none):aA H (upd H t o):=λb o' e=>by rw[aL (eH e ht)];exact e
structure Nw(H H':Hp)(p:Addr)(o:HO):Prop where
 no:H p=none
 at':H' p=some o
 same:aA H H'
 eq:H'=upd H p o
theorem Nw.of{H:Hp}{p:Addr}{o:HO}(h:H p=none):Nw H (upd H p o) p o:=⟨h,bp,.new h,Z⟩
def zO:List Str:=["len","abs","min","max","range","isinstance","int","bool","str","tuple","list","any","all","sum","zip","enumerate","sorted","reversed","ord","chr","divmod","repr","dict","set"]
def bE (mg:bc):Prop:=∀x∈zO,mg x=none
theorem bE.at{mg:bc}(B:bE mg)(x:Str)(h:autoParam (x∈zO) q8_._auto_1):mg x=none:=B x h
theorem fE{α:Type}{C:List α->Prop}(h:∀a,C [a]):∀us:List α,us.length=1->C us |[_],_=>h _
theorem cH{α:Type}{C:List α->Prop}(h:∀a b,C [a,b]):∀us:List α,us.length=2->C us |[_,_],_=>h _ _
theorem iM{α:Type}{C:List α->Prop}(h:∀a b c,C [a,b,c]):∀us:List α,us.length=3->C us |[_,_,_],_=>h _ _ _
theorem G6{α:Type}{C:List α->Prop}(h:∀a b c d,C [a,b,c,d]):∀us:List α,us.length=4->C us |[_,_,_,_],_=>h _ _ _ _
theorem G5{α:Type}{C:List α->Prop}(h:∀a b c d e,C [a,b,c,d,e]):∀us:List α,us.length=5->C us |[_,_,_,_,_],_=>h _ _ _ _ _
def Na(N P:List Str)(sc:Scope):Bool:=decide (sc.kind= .function)&& !sc.isCoroutine&& !sc.isGenerator&&decide N.Nodup&&decide (N.take P.length=P)&&P.all (λx=>decide (sc.names.lookup x=some .local\/sc.names.lookup x=some .cell))&&sc.names.all λy=>decide (y.2≠ .free)
theorem bw{N P:List Str}{sc:Scope}(h:Na N P sc=true):bj N P sc:=by unfold Na at h;simp only[cZ,A8,Ha,fF]at h;obtain⟨⟨⟨⟨⟨⟨h1,h2⟩,h3⟩,h4⟩,h5⟩,h6⟩,h7⟩:=h;exact⟨h1,h2,h3,h4,h5,h6,h7⟩
structure FA(K:aa)(mg:bc)(x:Str)(st:Stmt):Prop where ex:∃f fd,mg x=some (.ref f)/\gq K x x st f fd
def aG(P:af)(w:World)(K:aa)(mg:bc)(au:Heap)(x:Str)(k:Nat)(sp:Sp):Prop:=∃f fd ps,dS P w K mg au eM k f fd ps sp/\mg x=some (.ref f)/\PySem.W.keepIn K (.ref f)=true/\Binds K fd ps []
section
variable {P:af}{w:World}{K:aa}{mg:bc}{au:Heap}
theorem a2i{h:Heap}{x:Str}{st:Stmt}{f:Addr}{oc:Value}{od an:Option Addr}{eG:Array (Option Value)}{kV doc pm aE ct:Value}(X:K.In h)(G:h.Ns mainGlobals mg) (a:PySem.W.nsIn K mainGlobals x=some (some (.ref f))) (l:K.lookup f=some ⟨oc,od,.func (PySem.W.fnOf x x (iy st) (eA st) (aP st) .none kV doc pm an aE ct),eG⟩) (c:PySem.W.codeIn K aE x=true)(k:PySem.W.keepIn K (.ref f)=true):FA K mg x st:=⟨f,_,rL X G a,tO l c k⟩
theorem FA.has{x:Str}{st:Stmt}{N ps:List Str}{k:Nat}{sp:Sp}(F:FA K mg x st)(S:bj N ps (aP st))(len:∀vs H Q E,sp vs H Q E->vs.length=ps.length) (hb:∀(kV doc pm:Value)(an:Option Addr)(aE ct:Value)(us:List Value),us.length=ps.length->bindArgs (PySem.W.fnOf x x (iy st) (eA st) (aP st) .none kV doc pm an aE ct) ⟨us,[]⟩=pure (ps.zip us)) (fg:∀(f:Addr)(aE:Value)(A:ai)(outer:List Env)(s:ae)(H:Hp)(vs:List V)(Q:VK)(E:XK),bV k (A.deeper (envOfC x (aP st) s.heap.objs.size f aE))->sp vs H Q E->∃t,eP (eW eM P w K mg au N x (aP st) f aE A outer s H E).lQ (eA st) t/\t {nx:=λ_ H'=>Q .aY H',rt:=Q} (start N vs) H):aG P w K mg au x (k+1) sp:=by obtain⟨f,fd,hm,F⟩:=F.ex;exact⟨f,fd,ps,F.ok S len λaE A outer s H vs Q E=>fg f aE A outer s H vs Q E,hm,F.kp,F.binds hb⟩
end
section
variable {X:Cx}{k:Nat}{x:Str}{p pos:Pos}{e:Expr}{es:List Expr}{t:TA}{sp:Sp}
def HC(sp:Sp)(t:TA):TE:=λO H Q=>t O H λvs H1=>sp vs H1 Q E0
theorem Uj(F:aG X.prog X.w X.K X.mg X.au x k sp)(hr:bV k X.A)(hg:Gl X x)(ha:PA X (e::es) t)(fc:autoParam ((x==("__debug__":Str))=false) q8_._auto_1) (he:autoParam (starEach (e::es) X.env=(false,eval e X.env)::starEach es X.env) r8_._auto_1)(dH:autoParam ((backTo pos (starEach es X.env)).any (·.1)=false) r8_._auto_1): PE X (.Call (.Name x p) (e::es) [] pos) (HC sp t):=by
 obtain⟨f,fd,ps,F,hm,hk,hb⟩:=F;have h:=KR (pos:=pos) (p:=p) F hr hg hm hk hb .nil yw ha fc he dH;intro ak s O H Q I hq;refine h ak s O H Q I ?_;have e1:(λ(vs:List V) H1=>sp (vs++[]) H1 Q E0)=λvs H1=>sp vs H1 Q E0:=by funext vs H1;rw[jj]
 show t O H λvs H1=>sp (vs++[]) H1 Q E0;rw[e1];exact hq
theorem pf{j:Nat}(F:aG X.prog X.w X.K X.mg X.au x j sp)(hr:bV k X.A)(ha:PA X (e::es) t)(ZN:autoParam (j<=k) q8_._auto_1)(hg:autoParam (Gl X x) r8_._auto_1)(fc:autoParam ((x==("__debug__":Str))=false) q8_._auto_1)(he:autoParam (starEach (e::es) X.env=(false,eval e X.env)::starEach es X.env) r8_._auto_1)(dH:autoParam ((backTo pos (starEach es X.env)).any (·.1)=false) r8_._auto_1):PE X (.Call (.Name x p) (e::es) [] pos) (HC sp t):=Uj F (hr.mono ZN) hg ha fc he dH
theorem cu:cj X (binaryOp .Mult) (rI (λi j=>IntMulOk i j) λi j=>.int (i*j)):=v9 λ_ _ _ _ _ _ _ hc q=>mul_int q hc
theorem UK:cj X (compareOp .Eq) (j6 λi j=>.bl (decide (i=j))):=sS λ_ _ _ _ _ _ _ q=>eq_int (by rw[Bool.beq_eq_decide_eq];exact q)
theorem UD:cj X (compareOp .NotEq) (j6 λi j=>.bl (!decide (i=j))):=sS λ_ _ _ _ _ _ _ q=>ne_int (by rw[bne,Bool.beq_eq_decide_eq];exact q)
theorem UM(hu:X.A.units+64<cLine):cj X (compareOp .Eq) (λx y H Q=>j6 (λi j=>.bl (decide (i=j))) x y H Q\/CV X.K x y H Q):=UK.or (UL hu)
theorem UG(hu:X.A.units+64<cLine):cj X (compareOp .NotEq) (λx y H Q=>j6 (λi j=>.bl (!decide (i=j))) x y H Q\/CP X.K x y H Q):=UD.or (UE hu)
mutual
theorem eqv_refl:∀d:ah,d.canLay0=true->PyData.eqv d d=true | .none,_=>by simp[PyData.eqv] | .bool b,_=>by simp[PyData.eqv] | .int i,_=>by simp[PyData.eqv] | .str x,_=>by simp[PyData.eqv] | .list ds,h=>by simp only[PyData.eqv];exact eqvAll_refl ds (by simpa[PyData.canLay0]using h) | .tuple ds,h=>by simp only[PyData.eqv];exact eqvAll_refl ds (by simpa[PyData.canLay0]using h) | .dict _,h=>by simp[PyData.canLay0]at h
theorem eqvAll_refl:∀ds:List ah,PyData.canLayAll0 ds=true->PyData.eqvAll ds ds=true |[],_=>by simp[PyData.eqvAll] |d::ds,h=>by simp only[PyData.canLayAll0,cZ]at h;simp only[PyData.eqvAll,cZ];exact⟨eqv_refl d h.1,eqvAll_refl ds h.2⟩
end
theorem T5{K:aa}{H:Hp}(b:Bool):RD K H (.bl b) (.bool b):=by simp[RD]
theorem cQ{K:aa}{H:Hp}(i:Int):RD K H (.int i) (.int i):=by simp[RD]
theorem dN{K:aa}{H:Hp}(x:Str):RD K H (.str x) (.str x):=by simp[RD]
theorem oA{K:aa}{H:Hp}:RD K H .aY .none:=by simp[RD]
theorem eF{K:aa}{H:Hp}{p:Addr}{xs:List V}{ds:List ah}(h:aQ K H p xs)(r:aI K H xs ds):RD K H (.ref p) (.tuple ds):=by rw[RD];exact⟨p,xs,Z,h,r⟩
theorem sG{K:aa}{H:Hp}{p:Addr}{xs:List V}{ds:List ah}(h:aK K H p xs)(r:aI K H xs ds):RD K H (.ref p) (.list ds):=by rw[RD];exact⟨p,xs,Z,h,r⟩
theorem bW{K:aa}{H:Hp}:aI K H [] []:=by simp[aI]
theorem bJ{K:aa}{H:Hp}{x:V}{xs:List V}{d:ah}{ds:List ah}(h:RD K H x d)(r:aI K H xs ds):aI K H (x::xs) (d::ds):=by rw[aI];exact⟨x,xs,Z,h,r⟩
inductive a5g(t:TS)(D:Ends)(O:St)(H:Hp):Prop |mk (Gm:St->Hp->Prop)(h0:t {D with nx:=Gm} O H)(h1:∀σ' H',Gm σ' H'->D.nx σ' H')
def QW(t:TS):TS:=λD O H=>a5g t D O H
theorem jm{st:Stmt}{t:TS}(h:PS X st t):PS X st (QW t):=by intro ak s O H D I hq;obtain⟨Gm,q,m⟩:=hq;refine aR (h ak s O H _ I q) λf s1 q1=>?_;cases f with |next=>obtain⟨σ',H',I',q'⟩:=q1;exact⟨σ',H',I',m _ _ q'⟩ |brk=>exact q1 |cont=>exact q1 |ret u=>exact q1
end
def pL(K:aa)(xs:List Str):Prop:=∀x∈xs,PySem.W.nsIn K mainGlobals x=some none
theorem pL.nil{K:aa}:pL K []:=λ_ h=>nomatch h
theorem pL.cons{K:aa}{x:Str}{xs:List Str}(a:PySem.W.nsIn K mainGlobals x=some none)(r:pL K xs):pL K (x::xs):=λy hy=>by
 rcases bZ.mp hy with e|e
 ·rw[e];exact a
 ·exact r y e
theorem a4s{K:aa}{mg:bc}{h:Heap}(X:K.In h)(G:h.Ns mainGlobals mg)(a:pL K zO):bE mg:=λx hx=>PySem.W.mg_none_of X G (a x hx)
theorem FO{env:Env}:∀(ns:List (Str×NameKind))(cs:List (Str×Addr)),(∀x∈ns,x.2= .free->∃c,env.cells.lookup x.1=some c)->(∀x c,cs.lookup x=some c->env.cells.lookup x=some c)->∃cl,(forIn ns cs (λx r=>if(x.2==NameKind.free)=true then do let a<-cellOf env x.1;pure (ForInStep.yield ((x.1,a)::r))else pure (ForInStep.yield r)):Sem (List (Str×Addr)))=pure cl/\(∀x c,cl.lookup x=some c->env.cells.lookup x=some c)/\(∀x c,cs.lookup x=some c->∃c',cl.lookup x=some c')/\∀x∈ns,x.2= .free->∃c,cl.lookup x.1=some c
 |[],cs,_,h2=>⟨cs,Z,h2,λx c e=>⟨c,e⟩,λ_ h=>nomatch h⟩ |(n,k)::r,cs,h1,h2=>by
  by_cases hk:k= .free
  ·subst hk
   obtain⟨c,hc⟩:=h1 (n,.free) (.head _) rfl;have e1:cellOf env n=pure c:=by unfold cellOf;rw[show env.cells.lookup n=some c from hc]
   obtain⟨cl,a1,a2,a3,a4⟩:=FO r ((n,c)::cs) (λx hx=>h1 x (.tail _ hx)) (λx d e=>by rw[iU]at e;cases z:x==n with |true=>rw[z]at e;cases e;rw[cP.mp z];exact hc |false=>rw[z]at e;exact h2 x d e);refine⟨cl,?_,a2,λx d e=>?_,λx hx hf=>?_⟩
   ·rw[GW]
    show(do let r'<-(if(NameKind.free==NameKind.free)=true then do let a<-cellOf env n;pure (ForInStep.yield ((n,a)::cs))else pure (ForInStep.yield cs));_)=_;rw[bo (by rfl),e1];exact a1
   ·by_cases z:x==n
    ·exact a3 x c (by rw[iU,z])
    ·exact a3 x d (by rw[iU,Am.mpr z];exact e)
   ·rcases bZ.mp hx with rfl|hx
    ·exact a3 n c (by rw[iU,wU])
    ·exact a4 x hx hf
  ·obtain⟨cl,a1,a2,a3,a4⟩:=FO r cs (λx hx=>h1 x (.tail _ hx)) h2
   refine⟨cl,?_,a2,a3,λx hx hf=>?_⟩
   ·rw[GW]
    show(do let r'<-(if(k==NameKind.free)=true then do let a<-cellOf env n;pure (ForInStep.yield ((n,a)::cs))else pure (ForInStep.yield cs));_)=_;rw[bh (by simpa using hk)];exact a1
   ·rcases bZ.mp hx with rfl|hx
    ·exact absurd hf hk
    ·exact a4 x hx hf
theorem FP{env:Env}{scope:Scope}(h1:∀x∈scope.names,x.2= .free->∃c,env.cells.lookup x.1=some c): ∃cl,closureFor scope env=pure cl/\(∀x c,cl.lookup x=some c->env.cells.lookup x=some c)/\∀x∈scope.names,x.2= .free->∃c,cl.lookup x.1=some c:=by
 obtain⟨cl,a1,a2,_,a4⟩:=FO (env:=env) scope.names [] h1 (λx c e=>nomatch e);refine⟨cl,?_,a2,a4⟩;unfold closureFor;show(forIn scope.names ([]:List (Str×Addr)) (λ(x:Str×NameKind) r=>match x with|(name,kind)=>if(kind==NameKind.free)=true then do let a<-cellOf env name;pure (ForInStep.yield ((name,a)::r))else pure (ForInStep.yield r))>>=λr=>(pure r:Sem (List (Str×Addr))))=pure cl;have ef:(λ(x:Str×NameKind)(r:List (Str×Addr))=>match x with|(name,kind)=>(if(kind==NameKind.free)=true then do let a<-cellOf env name;pure (ForInStep.yield ((name,a)::r))else pure (ForInStep.yield r):Sem (ForInStep (List (Str×Addr))))) =λx r=>if(x.2==NameKind.free)=true then do let a<-cellOf env x.1;pure (ForInStep.yield ((x.1,a)::r))else pure (ForInStep.yield r):=by funext x r;obtain⟨n,k⟩:=x;rfl
 rw[ef,a1];rfl
theorem LR{env:Env}(hk:env.scope.kind= .function){x:Str}(hx:env.kindOf x=some .cell):∀{names:List (Str×NameKind)},names.lookup x=some .free->(names.map λ(n,k)=>if(k==NameKind.free&&env.scope.kind== .function&&env.kindOf n==some .cell)then(n,NameKind.cell)else(n,k)).lookup x=some .cell |[],h=>nomatch h |(n,k)::r,h=>by have ih:=@LR env hk x hx r;show List.lookup x ((if(k==NameKind.free&&env.scope.kind== .function&&env.kindOf n==some .cell)=true then(n,NameKind.cell)else(n,k))::_)=_;cases z:x==n with |true=>simp only[iU,z]at h;cases h;have e:=cP.mp z;subst e;rw[bo (by rw[hk,hx];rfl),iU,z] |false=>simp only[iU,z]at h;split<;>(simp only[iU,z];exact ih h)
def cU(X:Cx)(N:List Str)(scope:Scope)(cl:List (Str×Addr))(s:ae)(H:Hp)(fp:List Addr)(ak:List (Addr×Obj)):Cx:={prog:=X.prog,w:=X.w,K:=X.K,mg:=X.mg,au:=X.au,A:=X.A,N:=N,s₀:=s,H₀:=H,env:=compEnvC scope cl s.heap.objs.size X.env,outer:=X.stack,stack:=X.stack,ex:=fp,fn:=λ_=>false,calm:=X.calm,pn:=X.pn++ak,xe:=λ_ _=>False}
def stC(js:List (Option Nat))(O:St):St:=js.map λ|none=>none|some j=>(O[j]?).join
def wq(X:Cx)(N:List Str)(js:List (Option Nat))(scope:Scope):Bool:=N.length==js.length&&(N.zip js).all λp=>match p.2 with|none=>true|some j=>X.N[j]? ==some p.1&&scope.names.lookup p.1==some NameKind.free&&X.env.kindOf p.1==some NameKind.cell
def pE(X:Cx)(scope:Scope):Bool:=scope.kind== .function&&X.env.scope.kind== .function&&scope.names.all λx=>match x.2 with | .free=>X.env.kindOf x.1==some NameKind.cell | .cell=>false | .local=>scope.names.lookup x.1==some NameKind.local |_=>true
section
variable {X:Cx}{ak:List (Addr×Obj)}{O:St}{H:Hp}{s:ae}
theorem lookup_mem{α β:Type}[BEq α][LawfulBEq α]:∀{l:List (α×β)}{x:α}{b:β},l.lookup x=some b->(x,b)∈l |[],_,_,h=>nomatch h |(n,k)::r,x,b,h=>by rw[iU]at h;cases z:x==n with |true=>rw[z]at h;cases h;rw[cP.mp z];exact .head _ |false=>rw[z]at h;exact .tail _ (lookup_mem h)
theorem Kn{env:Env}{x:Str}{k:NameKind}:∀{names:List (Str×NameKind)},(names.map λ(n,k)=>if(k==NameKind.free&&env.scope.kind== .function&&env.kindOf n==some .cell)then(n,NameKind.cell)else(n,k)).lookup x=some k->names.lookup x=some k\/(k= .cell/\names.lookup x=some .free) |[],h=>nomatch h |(n,k')::r,h=>by have ih:=@Kn env x k r;have h':List.lookup x ((if(k'==NameKind.free&&env.scope.kind== .function&&env.kindOf n==some .cell)=true then(n,NameKind.cell)else(n,k'))::(r.map λ(n,k)=>if(k==NameKind.free&&env.scope.kind== .function&&env.kindOf n==some .cell)then(n,NameKind.cell)else(n,k)))=some k:=h;cases z:x==n with
 |true=>
  split at h'
  ·rename_i hc
   simp only[iU,z]at h';cases h';rw[cZ,cZ]at hc;have e:k'= .free:=cP.mp hc.1.1;subst e;exact .inr ⟨Z,by rw[iU,z]⟩
  ·simp only[iU,z]at h'
   cases h';exact .inl (by rw[iU,z]) |false=>
  rw[iU,z];refine ih ?_;split at h'
  ·simpa only[iU,z]using h'
  ·simpa only[iU,z]using h'
theorem Inv.comp{N:List Str}{js:List (Option Nat)}{scope:Scope}{cl:List (Str×Addr)}{fp:List Addr}{h':Heap}{tk:Nat}(I:Inv X ak O H s)(hN:wq X N js scope=true)(hS:pE X scope=true) (c1:∀x c,cl.lookup x=some c->X.env.cells.lookup x=some c)(c2:∀x∈scope.names,x.2= .free->∃c,cl.lookup x.1=some c)(hf:∀b∈fp,gG X ak H b)(hfl:∀b∈fp,b<s.heap.objs.size) (hn:h'.Ns s.heap.objs.size λ_=>none)(hk:∀b o,s.heap.get? b=some o->h'.get? b=some o):Inv (cU X N scope cl s H fp ak) [] (stC js O) H {s with heap:=h',toks:=tk}:=by
 unfold pE at hS;rw[cZ,cZ]at hS;obtain⟨⟨s1,s2⟩,s3⟩:=hS;have jd:scope.kind= .function:=cP.mp s1;have ZK:X.env.scope.kind= .function:=cP.mp s2;unfold wq at hN;rw[cZ]at hN;obtain⟨n1,n2⟩:=hN;have hlen:N.length=js.length:=cP.mp n1;have Mh:∀x k,(relabel scope X.env).names.lookup x=some k->scope.names.lookup x=some k\/(k= .cell/\scope.names.lookup x=some .free):=λx k e=>Kn e;have WT:∀x,scope.names.lookup x≠some .cell:=λx e=>by have:=fF.mp s3 _ (lookup_mem e);exact cJ this
 have N9:∀b∈(cU X N scope cl s H fp ak).fs,b∈X.env.locals::X.fs:=I.AD;have ok:(cU X N scope cl s H fp ak).Ok:={
  mod:=I.ok.mod
  kind:=jd
  glob:=I.ok.glob
  blt:=I.ok.blt
  above:=bB _
  inj:=λx y c e1 e2=>I.ok.inj x y c (c1 x c e1) (c1 y c e2)
  has:=λx hx=>by
   have fr:scope.names.lookup x=some .free->∃c,cl.lookup x=some c:=λe=>c2 (x,.free) (lookup_mem e) rfl;rcases hx with e|e
   ·rcases Mh x _ e with e|⟨_,e⟩
    ·exact absurd e (WT x)
    ·exact fr e
   ·rcases Mh x _ e with e|⟨z,_⟩
    ·exact fr e
    ·cases z
  pG:=λx c e=>nomatch e
  hd:=I.ok.hd
  frames:=I.ok.frames
  pX:=.inl rfl
  vY:=λb hb=>⟨dg (hfl b hb),λx c e=>(hf b hb).2.2.2.2.1 x c (c1 x c e)⟩
  bs:=I.bs
  jv:=fz I.ok.jv I.sz
  oJ:=λb o e hb=>by
   rcases(hf b hb).2.2.2.1 with z|z
   ·exact I.ok.oJ b o e z
   ·exact absurd (fK (bP e) (fz I.ok.jv z)) (pP _)
  mi:=λb hb z=>by
   obtain⟨_,q1,q2,_⟩:=hf b hb;rcases bZ.mp (N9 b z)with e|e
   ·exact q1 e
   ·exact q2 e
  iq:=I.stack
  kU:=I.rZ};refine⟨ok,Z,I.bare,Un.kept hk,⟨_,hn,λi x v e1 e2 e3=>?_⟩,λx c e=>?_,I.aU.fresh (bB _),λx c e=>I.iL x c (c1 x c e),λp hp=>?_,I.aU.kept hk,?_⟩
 ·have tS:(js.map λ|none=>none|some j=>(O[j]?).join)[i]? =some (some v):=e2
  rw[cY]at tS;cases hj:js[i]? with |none=>rw[hj]at tS;cases tS |some o=>rw[hj]at tS;cases o with |none=>cases tS |some j=>
   have hz:(N.zip js)[i]? =some (x,some j):=by rw[xj];exact⟨e1,hj⟩
   have O9:=fF.mp n2 _ (iS hz);simp only[cZ,cP]at O9;obtain⟨⟨h1,h2⟩,h3⟩:=O9;have zD:(O[j]?).join=some v:=by simpa using tS
   have hσ:O[j]? =some (some v):=by cases q:O[j]? with |none=>rw[q]at zD;cases zD |some o=>
    rw[q]at zD;have:o=some v:=by simpa using zD
    rw[this]
   obtain⟨m,hm,hl⟩:=I.loc;obtain⟨u,r,l⟩:=hl j x v h1 hσ (.inr (.inl h3));refine⟨u,r,?_⟩;rcases l with⟨k,_⟩|⟨_,c,hc,m9⟩
   ·rw[h3]at k;cases k
   ·obtain⟨c',nL⟩:=c2 (x,.free) (lookup_mem h2) rfl
    have:=c1 x c' nL;rw[hc]at this;cases this;refine .inr ⟨.inl (LR ZK h3 h2),c,nL,?_⟩;obtain⟨ob,ho,hd⟩:=m9;exact⟨ob,hk _ _ ho,hd⟩
 ·obtain⟨v,ob,ho,hd⟩:=I.cell x c (c1 x c e)
  exact⟨v,ob,hk _ _ ho,hd⟩
 ·have za:p∈X.pn++ak:=by simpa[cU]using hp
  obtain⟨a1,a2,a3,a4,a5⟩:=I.pin p za;refine⟨hk _ _ a1,a2,dg (bP a1),λz=>?_,a5⟩;rcases bZ.mp (N9 p.1 z)with e|e
  ·exact a3 e
  ·exact a4 e
 ·show(js.map _).length=N.length
  rw[bR,hlen]
end
theorem FK{prog:af}{w:World}{A:ai}{R:Result->ae->Prop}{s:ae}{elt target iter:Expr}{ifs:List Expr}{scope:Scope}{pos:Pos}{it acc:Value}{env:Env}(I:Nat->ae->Prop) (turn:∀n s,I n s->wpAny (model prog w) A (pyNext it) (λr s₁=>match r with |none=>R (.ok .next) s₁ |some v=>wpAny (model prog w) A (letOwnedTupleGo target it v) (λ_ s₁=>wpAny (model prog w) A (assign target env v) (λ_ s₂=>wpAny (model prog w) A (forIn ifs true λc r=>if r=true then do let ok<-isTrue c env (eval c env);pure (ForInStep.yield ok)else pure (ForInStep.yield r)) (λok s₃=>if ok=true then wpAny (model prog w) A (eval elt env) (λx s₄=>wpAny (model prog w) A (call (.builtin "list.append") [acc,x]) (λ_ s₅=>∃m,m<n/\I m s₅) (λ_ _=>False) s₄) (λ_ _=>False) s₃ else∃m,m<n/\I m s₃) (λ_ _=>False) s₂) (λ_ _=>False) s₁) (λ_ _=>False) s₁) (λ_ _=>False) s) (n:Nat)(h:I n s):codeAny (model prog w) A (.compLoop (.ListComp elt [⟨target,iter,ifs,0⟩] scope pos) 0 it acc env) R s:=by refine codeAny_loop Z I (λn s hI=>?_) n h;show wpAny _ A ((compTurn (.ListComp elt [⟨target,iter,ifs,0⟩] scope pos) 0 it acc env).onRaise (λx=>do noteFrame x env;theTreesLotGoes x)) _ _ s;refine wpAny_noted ?_;rw[compTurn_list];refine aB (mD (aB (gr (turn n s hI) (λr s₁ h₁=>?_) λ_ _ h'=>h'.elim)));cases r with |none=>exact bA h₁ |some v=>refine aB (gr h₁ (λ_ a7y h₁=>?_) λ_ _ h'=>h'.elim);refine aB (gr h₁ (λ_ s₂ h₂=>aB (gr h₂ (λok s₃ h₃=>?_) λ_ _ h'=>h'.elim)) λ_ _ h'=>h'.elim);cases ok with |false=>exact bA ⟨Z,h₃⟩ |true=>exact aB (aB (gr h₃ (λx s₄ h₄=>aB (gr h₄ (λ_ s₅ h₅=>bA (bA ⟨Z,h₅⟩)) λ_ _ h'=>h'.elim)) λ_ _ h'=>h'.elim))
def wC(X:Cx)(ifs:List Expr)(t:TT):Prop:=∀(ak:List (Addr×Obj))(s:ae)(O:St)(H:Hp)(Q:Bool->Hp->Prop),Inv X ak O H s->t O H Q->wpAny (model X.prog X.w) X.A (forIn ifs true λc r=>if r=true then do let ok<-isTrue c X.env (eval c X.env);pure (ForInStep.yield ok)else pure (ForInStep.yield r)) (TP X ak O Q) X.xe s
def jk:TT:=λ_ H Q=>Q true H
theorem gb{X:Cx}:wC X [] jk:=λ_ _ _ H _ I h=>wpAny_tests_nil ⟨H,I,h⟩
theorem TK{X:Cx}{c:Expr}{t:TT}(h:PT X c t):wC X [c] t:=λak s O H Q I hq=>wpAny_tests_one (h ak s O H Q I hq)
def jy(J:It)(g:TG)(tt:TT)(te:TE)(Q:VK)(D:Addr)(O:St)(H:Hp):Prop:=∃W:Nat->Nat->St->Hp->Prop,(∃m,W 0 m O H)/\∀i m σ' H',W i m σ' H'->(J.stop i H'/\Q (.ref D) H')\/(J.go i H'/\∀x H2,J.gM i H' x H2->g x σ' H2 λσ3 H3=>tt σ3 H3 λok H4=>if ok=true then te σ3 H4 λy H5=>∃ys,H5 D=some (.lst ys)/\ys.length<sizeLine/\∃m',m'<m/\W (i+1) m' σ3 (upd H5 D (.lst (ys++[y]))) else∃m',m'<m/\W (i+1) m' σ3 H4)
def AA(js:List (Option Nat))(wi:TI)(g:TG)(tt:TT)(te:TE):TE:=λO H Q=>wi O H λJ H1=>∀D H2,Nw H1 H2 D (.lst [])->jy J g tt te Q D (stC js O) H2
theorem dv.but{P:af}{w:World}{H:Hp}{h h':Heap}{C:Addr}(ok:dv P w H h)(hn:H C=none)(hs:Heap.SameBut C h h'):dv P w H h':=λb ob e=>by
 refine(ok b ob e).jD (λc w' hc q=>(hs.2 c ?_).trans q) (λ_ q=>q) λ_ _ q=>q;rintro rfl;rcases hc with rfl|hc
 ·rw[hn]at e;cases e
 ·rw[hn]at hc;cases hc
set_option maxHeartbeats 1000000 in
theorem gP{X:Cx}{N:List Str}{js:List (Option Nat)}{elt tg iter:Expr}{ifs:List Expr}{scope:Scope}{pos:Pos}{wi:TI}{g:TG}{tt:TT}{te:TE}(hc:X.calm=true)(hN:wq X N js scope=true)(hS:pE X scope=true) (hi:PI X tg iter wi)(hg:∀cl s H fp ak,PG (cU X N scope cl s H fp ak) tg g)(ht:∀cl s H fp ak,wC (cU X N scope cl s H fp ak) ifs tt)(he:∀cl s H fp ak,PE (cU X N scope cl s H fp ak) elt te) (hs:autoParam (∀x,foldedSetIterable iter X.env x=pure x) f8_._auto_1):PE X (.ListComp elt [⟨tg,iter,ifs,0⟩] scope pos) (AA js wi g tt te):=by
 intro ak s O H Q I h;have kP:=hS;unfold pE at kP;rw[cZ,cZ]at kP;obtain⟨⟨k1,k2⟩,k3⟩:=kP;have jd:scope.kind= .function:=cP.mp k1;have oZ:∀x∈scope.names,x.2= .free->∃c,X.env.cells.lookup x.1=some c:=λx hx e=>by have:=fF.mp k3 x hx;rw[e]at this;exact I.ok.has x.1 (.inl (cP.mp this))
 have m9:∀x∈scope.names,x.2≠ .cell:=λx hx e=>by have:=fF.mp k3 x hx;rw[e]at this;exact cJ this
 have vC:∀x∈scope.names,x.2= .local->scope.names.lookup x.1=some .local:=λx hx e=>by have:=fF.mp k3 x hx;rw[e]at this;exact cP.mp this
 obtain⟨cl,vM,c1,c2⟩:=FP oZ;rw[eval_ListComp];refine P2 (use:=none) Z hs vM jd vC (aR (hi ak s O H _ I h) λv s1 h1=>aR h1 λqI s2 h2=>?_);obtain⟨it,fp,tn,J,H2,e,I2,T,lI,f2,h2⟩:=h2;subst e;have hD:H2 s2.heap.objs.size=none:=I2.aU.fresh (bB _);obtain⟨W,⟨m0,w0⟩,turn⟩:=h2 _ _ (Nw.of hD);refine jX (P1 m9 (by intro y hy;simp at hy) (λh₁ oW oS=>?_) jd);have kW:∀b∈fp,b<s2.heap.objs.size:=λb hb=>by obtain⟨o,e,_⟩:=T.obj _ _ lI b hb;exact bP e
 have I3:Inv X ak O (upd H2 s2.heap.objs.size (.lst [])) {s2 with heap:=s2.heap.push {cls:=.type "list",dict:=none,data:=.seq ([]:List Value).toArray}}:=I2.yS (its:=[]) (t':=s2.toks) .nil (fw _);generalize p5:s2.heap.push {cls:=.type "list",dict:=none,data:=.seq ([]:List Value).toArray}=h3 at I3 oW oS;have om:h3.objs.size=s2.heap.objs.size+1:=by rw[<-p5,mI]
 have vw:∀b o,s2.heap.get? b=some o->h3.get? b=some o:=λb o e=>by rw[<-p5];exact bK _ e
 have f3:∀b∈fp,gG X ak (upd H2 s2.heap.objs.size (.lst [])) b:=λb hb=>⟨by rw[aL (dg (kW b hb))];exact(f2 b hb).1,(f2 b hb).2⟩;have oO:∀b o,h3.get? b=some o->h₁.get? b=some o:=λb o e=>(oS.2 b (dg (bP e))).trans (bK _ e);have I4:Inv (cU X N scope cl {s2 with heap:=h3} (upd H2 s2.heap.objs.size (.lst [])) fp ak) [] (stC js O) (upd H2 s2.heap.objs.size (.lst [])) {s2 with heap:=h₁,toks:=s2.toks+([]:List (Str×Value)).length}:=I3.comp (s:={s2 with heap:=h3}) hN hS c1 c2 f3 (λb hb=>by show b<h3.objs.size;rw[om];exact x8 (kW b hb)) (by simpa using oW) oO;have oo:tn 0 h₁:=T.keep _ _ _ lI λb _ o e=>oO b o (vw b o e);have loop:codeAny (model X.prog X.w) X.A (.compLoop (.ListComp elt [⟨tg,iter,ifs,0⟩] scope pos) 0 (.ref it) (.ref s2.heap.objs.size) (compEnvC scope cl h3.objs.size X.env)) (compPost (model X.prog X.w) X.A X.xe none (EP X ak O Q) (.ref s2.heap.objs.size) h3.objs.size) {s2 with heap:=h₁,toks:=s2.toks+([]:List (Str×Value)).length}:=by
  refine FK (λn s'=>∃i σ' H',Inv (cU X N scope cl {s2 with heap:=h3} (upd H2 s2.heap.objs.size (.lst [])) fp ak) [] σ' H' s'/\tn i s'.heap/\(∀b∈fp,H' b=none)/\W i n σ' H') ?_ m0 ⟨0,_,_,I4,oo,λb hb=>(f3 b hb).1,w0⟩;rintro n s5 ⟨i,σ5,H5,I5,jE,mh,w5⟩;have iE:∀{H':Hp},(∀b∈fp,H' b=none)->∀b∈fp,gG (cU X N scope cl {s2 with heap:=h3} (upd H2 s2.heap.objs.size (.lst [])) fp ak) [] H' b:=λ{H'} hn b hb=>by
   obtain⟨_,q1,q2,q3,q4,q5⟩:=f3 b hb;refine⟨hn b hb,λz=>?_,I4.ok.mi b hb,.inl hb,λx c e=>q4 x c (c1 x c e),λp hp=>q5 p (by simpa[cU]using hp)⟩;have cm:b<h3.objs.size:=by rw[om];exact x8 (kW b hb)
   exact dg cm z
  rcases turn i n σ5 H5 w5 with⟨stop,qn⟩|⟨go,step⟩
  ·refine aR (T.done (cU X N scope cl {s2 with heap:=h3} (upd H2 s2.heap.objs.size (.lst [])) fp ak) rfl rfl rfl hc i [] s5 σ5 H5 _ I5 (iE mh) jE stop) λr s6 ⟨hr,I6⟩=>?_
   subst hr;obtain⟨m,hm,_⟩:=I6.loc;refine⟨m,hm,λh7 nv=>?_⟩;have u0:Un (cS X.stack) fp (upd H2 s2.heap.objs.size (.lst [])) H5 h3 s6.heap:=I6.au;have ne:∀b o,h3.get? b=some o->b≠h3.objs.size:=λb o e=>dg (bP e);have u:Un (cS X.stack) fp (upd H2 s2.heap.objs.size (.lst [])) H5 h3 h7:=⟨λb o e n hb hx=>(nv.2 b (ne b o e)).trans (u0.keep b o e n hb hx),λb o e n hb hx=>let⟨sl,q⟩:=u0.slot b o e n hb hx;⟨sl,(nv.2 b (ne b o e)).trans q⟩,u0.free,λb o e hx=>let⟨o',q⟩:=u0.there b o e hx;⟨o',(nv.2 b (ne b o e)).trans q⟩,u0.gZ,u0.gX,u0.hU⟩;have I7:Inv X ak O H5 {s6 with heap:=h7}:=I3.wu (s':={s6 with heap:=h7}) (ch:=fp) I6.os u (I6.aU.but I6.free nv) I6.bare λb hb=>⟨(f3 b hb).2.2.2.1,(f3 b hb).2.1,(f3 b hb).2.2.2.2.1,(f3 b hb).2.2.2.2.2⟩;exact⟨.ref s2.heap.objs.size,H5,I7,Z,qn⟩
  ·refine aR (T.item (cU X N scope cl {s2 with heap:=h3} (upd H2 s2.heap.objs.size (.lst [])) fp ak) rfl rfl rfl hc i [] s5 σ5 H5 _ I5 (iE mh) jE go) λr s6 ⟨u,hr,h6⟩=>?_
   subst hr;refine aR h6 λ_ s7 ⟨x,H7,I7,r7,y7,jl,vU⟩=>?_;have wI:=I7.pinned (iE vU) (T.obj _ _ jl);refine aR (hg _ _ _ _ _ _ s7 σ5 H7 x u _ wI r7 (step x H7 y7)) λ_ s8 ⟨σ8,H8,I8,q8⟩=>?_;refine aR (ht _ _ _ _ _ _ s8 σ8 H8 _ I8 q8) λok s9 ⟨H9,I9,q9⟩=>?_;have again:∀{s':ae}{σ7:St}{H7:Hp},Inv (cU X N scope cl {s2 with heap:=h3} (upd H2 s2.heap.objs.size (.lst [])) fp ak) ([]++qo fp s7.heap) σ7 H7 s'->(∃m',m'<n/\W (i+1) m' σ7 H7)->∃m,m<n/\∃i σ' H',Inv (cU X N scope cl {s2 with heap:=h3} (upd H2 s2.heap.objs.size (.lst [])) fp ak) [] σ' H' s'/\tn i s'.heap/\(∀b∈fp,H' b=none)/\W i m σ' H':=λ{s' σ7 H7} J7 n7=>by obtain⟨m',hm,w7⟩:=n7;refine⟨m',hm,i+1,σ7,H7,J7.rV,T.keep _ _ _ jl λb hb o e=>(J7.pin (b,o) (gK _ (gK _ (oN hb e)))).1,λb hb=>?_,w7⟩;obtain⟨o,e,d⟩:=T.obj _ _ jl b hb;exact(J7.pin (b,o) (gK _ (gK _ (oN hb e)))).2.1
   cases ok with |false=>rw[bh cJ]at q9⊢;exact again I9 q9 |true=>rw[bo rfl]at q9⊢;refine aR (he _ _ _ _ _ _ s9 σ8 H9 _ I9 q9) λyv iG ⟨y,jh,pN,uU,ys,vx,hz,oa⟩=>?_;refine aR (yL _ iG σ8 jh (.ref s2.heap.objs.size) [y] (.ref s2.heap.objs.size) [yv] (λ_ iC=>∃m',m'<n/\W (i+1) m' σ8 iC) pN Z (.cons uU .nil) ⟨_,ys,y,Z,Z,vx,hz,oa⟩) λ_ yf ⟨v11,iC,wJ,KA,uV⟩=>?_;exact again wJ uV
 exact P7 loop (T.self _ 0 _ _ _ oo loop)
theorem FT:∀{bs:List Bool}{us:List Value},Vals (bs.map V.bl) us->us=bs.map Value.bool |[],_,.nil=>rfl |b::r,_,.cons q t=>by cases(show _=Value.bool b from q);rw[FT t];rfl
section
variable {X:Cx}
theorem a4n(hc:X.calm=true):eT X (.builtin "all") (λxs H Q=>∃(l:Addr)(bs:List Bool),xs=[.ref l]/\aK X.K H l (bs.map V.bl)/\Q (.bl (bs.all id)) H):=by
 intro ak s O H xs us Q I r h;obtain⟨l,bs,rfl,hl,q⟩:=h;obtain⟨u,rfl,ru⟩:=vals1 r;cases(show u=Value.ref l from ru);obtain⟨its,rv,pl,hz⟩:=I.list hl;have e:=FT rv;subst e;have jc:=pl.isList;have cm:l<s.heap.objs.size:=by obtain⟨_,e,_⟩:=jc;exact bP e
 have hh:=I.ok.hd hc;refine call_all_walk (A4 jc ?_);refine⟨s.heap.objs.size,[s.heap.objs.size,l],[s.heap.objs.size],(bs.map Value.bool).toArray.size,_,_,λi=>(bs[i]?).getD true,Z,Walks.list (A:=X.A.in1) hh _ l (dg cm) (bs.map Value.bool).toArray,⟨⟨_,dw _ Z,Z,Z⟩,jc.push _⟩,λi v s' Q' E' hP hQ=>?_,λh' tk hk=>?_⟩
 ·have kQ:(bs.map Value.bool)[i]? =some v:=by simpa using hP
  rw[cY]at kQ;cases e:bs[i]? with |none=>rw[e]at kQ;cases kQ |some b=>rw[e]at kQ;cases kQ;simp only[e,Option.getD_some]at hQ;exact mC hQ
 ·have e:((List.range (bs.map Value.bool).toArray.size).all λi=>(bs[i]?).getD true)=bs.all id:=by rw[cX,bR];exact LSm.range_all bs
  rw[e];exact⟨.bl _,H,I.kept (LSm.kept_iter hk),Z,q⟩
theorem a4m(hc:X.calm=true):eT X (.builtin "any") (λxs H Q=>∃(l:Addr)(bs:List Bool),xs=[.ref l]/\aK X.K H l (bs.map V.bl)/\Q (.bl (bs.any id)) H):=by
 intro ak s O H xs us Q I r h;obtain⟨l,bs,rfl,hl,q⟩:=h;obtain⟨u,rfl,ru⟩:=vals1 r;cases(show u=Value.ref l from ru);obtain⟨its,rv,pl,hz⟩:=I.list hl;have e:=FT rv;subst e;have jc:=pl.isList;have cm:l<s.heap.objs.size:=by obtain⟨_,e,_⟩:=jc;exact bP e
 have hh:=I.ok.hd hc;refine call_any_walk (A4 jc ?_);refine⟨s.heap.objs.size,[s.heap.objs.size,l],[s.heap.objs.size],(bs.map Value.bool).toArray.size,_,_,λi=>(bs[i]?).getD false,Z,Walks.list (A:=X.A.in1) hh _ l (dg cm) (bs.map Value.bool).toArray,⟨⟨_,dw _ Z,Z,Z⟩,jc.push _⟩,λi v s' Q' E' hP hQ=>?_,λh' tk hk=>?_⟩
 ·have kQ:(bs.map Value.bool)[i]? =some v:=by simpa using hP
  rw[cY]at kQ;cases e:bs[i]? with |none=>rw[e]at kQ;cases kQ |some b=>rw[e]at kQ;cases kQ;simp only[e,Option.getD_some]at hQ;exact mC hQ
 ·have e:((List.range (bs.map Value.bool).toArray.size).any λi=>(bs[i]?).getD false)=bs.any id:=by rw[cX,bR];exact LSm.range_any bs
  rw[e];exact⟨.bl _,H,I.kept (LSm.kept_iter hk),Z,q⟩
end
theorem qU{J:It}{g:TG}{tt:TT}{te:TE}{Q:VK}{D:Addr}{O:St}{H:Hp}(n:Nat)(Pv:Nat->St->Hp->Prop)(h0:Pv 0 O H) (hs:∀i O H,i<n->Pv i O H->J.go i H/\∀x H2,J.gM i H x H2->g x O H2 λσ3 H3=>tt σ3 H3 λok H4=>if ok=true then te σ3 H4 λy H5=>∃ys,H5 D=some (.lst ys)/\ys.length<sizeLine/\∃m',m'<n-i/\m'=n-(i+1)/\i+1<=n/\Pv (i+1) σ3 (upd H5 D (.lst (ys++[y]))) else∃m',m'<n-i/\m'=n-(i+1)/\i+1<=n/\Pv (i+1) σ3 H4) (hd:∀O H,Pv n O H->J.stop n H/\Q (.ref D) H): jy J g tt te Q D O H:=by
 refine⟨λi m O H=>m=n-i/\i<=n/\Pv i O H,⟨n,by simp,fw _,h0⟩,?_⟩;rintro i m O H ⟨rfl,hi,p⟩;by_cases cm:i<n
 ·exact .inr (hs i O H cm p)
 ·have e:i=n:=by lia
  subst e;exact .inl (hd O H p)
section
variable {X:Cx} {tg:Expr}
theorem YA(K:aa)(h:X.K=K):nX X (λx y H Q=>CS K x y H Q\/CQ K x y H Q):=by subst h;exact Yz.or Yx
inductive a6C(K:aa)(x:V)(lo:Option Int)(hi:Option Int)(H:Hp)(Q:VK):Prop |mk (a:_)(xs:_)(h0:x= .ref a)(h1:((aK K H a xs/\∀p H',Nw H H' p (.lst (gF xs lo hi))->Q (.ref p) H')\/ (aQ K H a xs/\¬(_H.bI xs.length 0 lo=0/\_H.bI xs.length xs.length hi=xs.length)/\∀p H',Nw H H' p (.tup (gF xs lo hi))->Q (.ref p) H')))
def Tn(K:aa):V->Option Int->Option Int->Hp->VK->Prop:=λx lo hi H Q=>a6C K x lo hi H Q
theorem xZ(K:aa)(h:X.K=K):wB X (Tn K):=by
 subst h;intro ak s O H x v vl vu lo hi sl Q I rx hs pl pu hq;obtain⟨a,xs,e,hq⟩:=hq;rcases hq with⟨h1,k⟩|⟨h1,h2,k⟩
 ·exact RS ak s O H x v vl vu lo hi sl Q I rx hs pl pu ⟨a,xs,e,h1,λp hp=>k p _ (.of hp)⟩
 ·exact IQ ak s O H x v vl vu lo hi sl Q I rx hs pl pu ⟨a,xs,e,h1,h2,λp hp=>k p _ (.of hp)⟩
theorem Yh(K:aa)(h:X.K=K):eT X (.builtin "len") (λxs H Q=>∃p ys,xs=[.ref p]/\(aK K H p ys\/aQ K H p ys)/\Q (.int ys.length) H):=by subst h;exact a4i
theorem YE(K:aa)(h:X.K=K):eT X (.builtin "isinstance") (λxs H Q=>CU K xs H Q\/CT K xs H Q):=by subst h;exact a4k.or a4j
theorem dR(K:aa)(h:X.K=K)(hu:X.A.units+64<cLine):cj X (compareOp .Eq) (λx y H Q=>j6 (λi j=>.bl (decide (i=j))) x y H Q\/CV K x y H Q):=by subst h;exact UM hu
theorem sZ(K:aa)(h:X.K=K)(hu:X.A.units+64<cLine):cj X (compareOp .NotEq) (λx y H Q=>j6 (λi j=>.bl (!decide (i=j))) x y H Q\/CP K x y H Q):=by subst h;exact UG hu
theorem tY(K:aa)(h:X.K=K)(hc:X.calm=true):eT X (.builtin "all") (λxs H Q=>∃(l:Addr)(bs:List Bool),xs=[.ref l]/\aK K H l (bs.map V.bl)/\Q (.bl (bs.all id)) H):=by subst h;exact a4n hc
theorem a4J(K:aa)(h:X.K=K)(hc:X.calm=true):eT X (.builtin "any") (λxs H Q=>∃(l:Addr)(bs:List Bool),xs=[.ref l]/\aK K H l (bs.map V.bl)/\Q (.bl (bs.any id)) H):=by subst h;exact a4m hc
theorem Yd(K:aa)(h:X.K=K):eT X (.type "list") (λxs H Q=>∃p ys,xs=[.ref p]/\(aK K H p ys\/aQ K H p ys)/\∀l H',Nw H H' l (.lst ys)->Q (.ref l) H'):=by subst h;intro ak s O H xs us Q I r hq;obtain⟨p,ys,e,h1,k⟩:=hq;exact a4g ak s O H xs us Q I r ⟨p,ys,e,h1,λl hl=>k l _ (.of hl)⟩
theorem mK(K:aa)(h:X.K=K):eT X (.type "tuple") (λxs H Q=>∃p ys,xs=[.ref p]/\((aK K H p ys/\∀l H',Nw H H' l (.tup ys)->Q (.ref l) H')\/(aQ K H p ys/\Q (.ref p) H))):=by subst h;intro ak s O H xs us Q I r hq;obtain⟨p,ys,e,h1⟩:=hq;exact a4b ak s O H xs us Q I r ⟨p,ys,e,h1.imp (λ⟨a,k⟩=>⟨a,λl hl=>k l _ (.of hl)⟩) id⟩
def QI(t:TA):TE:=λO H Q=>t O H λxs H1=>xs.length<=sizeLine/\∀p H',Nw H1 H' p (.tup xs)->Q (.ref p) H'
def QY(t:TA):TE:=λO H Q=>t O H λxs H1=>xs.length<=sizeLine/\∀p H',Nw H1 H' p (.lst xs)->Q (.ref p) H'
theorem dh{es:List Expr}{t:TA}{pos:Pos} {x1}(h:PA X es t):PE X (.Tuple es x1 pos) (QI t):=by intro ak s O H Q I hq;refine wpAny_Tuple_spliced (aR (h pos ak s O H _ I hq) λus s1 ⟨xs,H1,I1,r,z,q⟩=>⟨by rw[<-r.length];exact z,?_⟩);have hf:H1 s1.heap.objs.size=none:=I1.aU.fresh (bB _);refine⟨.ref s1.heap.objs.size,upd H1 s1.heap.objs.size (.tup xs),I1.laid (t':=s1.toks) (λb u e=>bK _ e) (bB _) ?_,Z,q _ _ (.of hf)⟩;exact⟨z,us,r,⟨_,dw _ Z,Z,_,Z⟩⟩
theorem dE{es:List Expr}{t:TA}{pos:Pos}(h:PA X es t):PE X (.List es pos) (QY t):=by intro ak s O H Q I hq;refine wpAny_List_spliced (aR (h pos ak s O H _ I hq) λus s1 ⟨xs,H1,I1,r,z,q⟩=>⟨by rw[<-r.length];exact z,?_⟩);have hf:H1 s1.heap.objs.size=none:=I1.aU.fresh (bB _);refine⟨.ref s1.heap.objs.size,upd H1 s1.heap.objs.size (.lst xs),I1.laid (t':=s1.toks) (λb u e=>bK _ e) (bB _) ?_,Z,q _ _ (.of hf)⟩;exact⟨z,us,0,r,dw _ Z⟩
theorem yn(K:aa)(h:X.K=K){l:Expr}{tl:TE}(hl:PE X l tl):PI X tg l (Mj K tl):=by subst h;exact U9 hl
theorem mU(K:aa)(h:X.K=K){l:Expr}{tl:TE}(hl:PE X l tl):PI X tg l (Mi K tl):=by subst h;exact U5 hl
theorem fb(K:aa)(h:X.K=K){es:List Expr}{k:Nat}{t:mq}{n:Nat}{pos:Pos}(hc:X.calm=true)(hg:wF X es t)(hn:autoParam ((assignEach es X.env).length=n) r8_._auto_1)(fo:autoParam ((assignEach es X.env).findIdx? (·.1)=none) r8_._auto_1): PG X (.Tuple es k pos) (zq K n t):=by subst h;exact Ua hc hg hn fo
theorem oE(K:aa)(h:X.K=K){o e:Expr}{to:TE}{t:TA}{apos cw:Pos}(ho:PE X o to)(ha:PA X [e] t) (nM:autoParam (attributeBase o "append" X.env (eval o X.env)=eval o X.env) r8_._auto_1) (nH:autoParam (((backTo cw (starEach [e] X.env)).all (λx=>!x.1)&&(backToKw cw (keywordEach [] X.env)).all (λx=>x.1.isSome) &&decide ([e].length+([]:List Keyword).length+(if([]:List Keyword).isEmpty then 0 else 1)<30))=true) r8_._auto_1) (nF:autoParam ((apos.endLine==cw.line)=true) r8_._auto_1)(hs:autoParam (starEach [e] X.env=(false,eval e X.env)::starEach [] X.env) r8_._auto_1)(ny:autoParam ((backTo cw (starEach [] X.env)).any (·.1)=false) r8_._auto_1): PE X (.Call (.Attribute o "append" apos) [e] [] cw) (uE K "list" Kz to t):=by subst h;exact yp PySem.F.plainAttrs_list PySem.F.slot_list_append PySem.F.type_list_append yL ho ha nM nH nF hs ny
theorem xC{j:Nat}{x:V}{O:St}{H:Hp}{A B:St->Hp->Prop}(h:A (O.set j (some x)) H):gj j x O H λσ3 H3=>jk σ3 H3 λok H4=>if ok=true then A σ3 H4 else B σ3 H4:=by show if true=true then A (O.set j (some x)) H else B (O.set j (some x)) H;rw[bo rfl];exact h
theorem yes{O:St}{H:Hp}{Q:Bool->Hp->Prop}(h:Q true H):jk O H Q:=h
end
theorem aK.go{K:aa}{H H':Hp}{a:Addr}{xs:List V}(s:aA H H')(h:aK K H a xs):aK K H' a xs:=h.imp (λr=>r.imp (s _ _) λ⟨o,e⟩=>⟨o,s _ _ e⟩) id
theorem aQ.go{K:aa}{H H':Hp}{a:Addr}{xs:List V}(s:aA H H')(h:aQ K H a xs):aQ K H' a xs:=h.imp (λr=>r.imp (s _ _) λ⟨o,e⟩=>⟨o,s _ _ e⟩) id
mutual
theorem RD.mono{K:aa}{H H':Hp}(s:aA H H'):∀{x:V}(d:ah),RD K H x d->RD K H' x d |x,.none,h=>by simpa[RD]using h |x,.bool b,h=>by simpa[RD]using h |x,.int i,h=>by simpa[RD]using h |x,.str y,h=>by simpa[RD]using h |x,.list ds,h=>by rw[RD]at h⊢;obtain⟨a,xs,e,h1,h2⟩:=h;exact⟨a,xs,e,h1.go s,aI.mono s ds h2⟩ |x,.tuple ds,h=>by rw[RD]at h⊢;obtain⟨a,xs,e,h1,h2⟩:=h;exact⟨a,xs,e,h1.go s,aI.mono s ds h2⟩ |x,.dict _,h=>by simp[RD]at h
theorem aI.mono {K:aa}{H H':Hp}(s:aA H H'):∀{xs:List V}(ds:List ah),aI K H xs ds->aI K H' xs ds |xs,[],h=>by simpa[aI]using h |xs,d::ds,h=>by rw[aI]at h⊢;obtain⟨y,ys,e,h1,h2⟩:=h;exact⟨y,ys,e,RD.mono s d h1,aI.mono s ds h2⟩
end
section
variable {K:aa} {H H':Hp}
theorem aI.nil_inv{xs:List V}(h:aI K H xs []):xs=[]:=by simpa[aI]using h
theorem aI.cons_inv{xs:List V}{d:ah}{ds:List ah}(h:aI K H xs (d::ds)):∃y ys,xs=y::ys/\RD K H y d/\aI K H ys ds:=by rw[aI]at h;exact h
theorem RD.d6{x:V}{ds:List ah}(h:RD K H x (.tuple ds)):∃a xs,x= .ref a/\aQ K H a xs/\aI K H xs ds:=by rw[RD]at h;exact h
theorem RD.lst_inv{x:V}{ds:List ah}(h:RD K H x (.list ds)):∃a xs,x= .ref a/\aK K H a xs/\aI K H xs ds:=by rw[RD]at h;exact h
theorem RD.int_inv{x:V}{i:Int}(h:RD K H x (.int i)):x= .int i:=by rw[RD]at h;exact h
theorem RD.a4t{x:V}{i:Bool}(h:RD K H x (.bool i)):x= .bl i:=by rw[RD]at h;exact h
theorem RD.str_inv{x:V}{i:Str}(h:RD K H x (.str i)):x= .str i:=by rw[RD]at h;exact h
theorem RD.yG{x:V}(h:RD K H x .none):x= .aY:=by rw[RD]at h;exact h
theorem aI.length:∀{xs:List V}{ds:List ah},aI K H xs ds->xs.length=ds.length |xs,[],h=>by rw[h.nil_inv];rfl |xs,d::ds,h=>by obtain⟨y,ys,rfl,_,h2⟩:=h.cons_inv;rw[fA,fA,aI.length h2]
theorem aI.append:∀{xs ys:List V}{ds es:List ah},aI K H xs ds->aI K H ys es->aI K H (xs++ys) (ds++es) |xs,ys,[],es,h,g=>by rw[h.nil_inv];exact g |xs,ys,d::ds,es,h,g=>by obtain⟨y,zs,rfl,h1,h2⟩:=h.cons_inv;exact bJ h1 (aI.append h2 g)
theorem aI.take:∀(n:Nat){xs:List V}{ds:List ah},aI K H xs ds->aI K H (xs.take n) (ds.take n) |0,xs,ds,h=>by rw[List.take_zero,List.take_zero];exact bW |n+1,xs,[],h=>by rw[h.nil_inv];exact bW |n+1,xs,d::ds,h=>by obtain⟨y,zs,rfl,h1,h2⟩:=h.cons_inv;exact bJ h1 (aI.take n h2)
theorem aI.get:∀(n:Nat){xs:List V}{ds:List ah}{d:ah},aI K H xs ds->ds[n]? =some d->∃x,xs[n]? =some x/\RD K H x d
 |n,xs,[],d,h,e=>by simp at e |0,xs,d'::ds,d,h,e=>by
  obtain⟨y,zs,rfl,h1,h2⟩:=h.cons_inv;have e':d'=d:=by simpa using e
  subst e';exact⟨y,Z,h1⟩ |n+1,xs,d'::ds,d,h,e=>by obtain⟨y,zs,rfl,h1,h2⟩:=h.cons_inv;exact aI.get n h2 (by simpa using e)
theorem aI.get'(n:Nat){xs:List V}{ds:List ah}{x:V}(h:aI K H xs ds)(e:xs[n]? =some x):∃d,ds[n]? =some d/\RD K H x d:=by
 have hl:n<ds.length:=by rw[<-h.length];exact(eY.mp e).1
 obtain⟨y,e1,r⟩:=h.get n (cI hl);rw[e]at e1;cases e1;exact⟨_,cI hl,r⟩
def gy:ah->String | .none=>"NoneType" | .bool _=>"bool" | .int _=>"int" | .str _=>"str" | .list _=>"list" | .tuple _=>"tuple" | .dict _=>"dict"
theorem RD.ty{x:V}:∀{d:ah},RD K H x d->qX K H x (gy d) | .none,h=>by rw[h.yG];rfl | .bool b,h=>by rw[h.a4t];rfl | .int b,h=>by rw[h.int_inv];rfl | .str b,h=>by rw[h.str_inv];rfl | .list ds,h=>by obtain⟨a,xs,rfl,h1,_⟩:=h.lst_inv;exact .inl ⟨Z,xs,h1⟩ | .tuple ds,h=>by obtain⟨a,xs,rfl,h1,_⟩:=h.d6;exact .inr ⟨Z,xs,h1⟩ | .dict _,h=>by simp[RD]at h
structure cD(n:Nat)(d:ah):Prop where
 lay:d.canLay0=true
 dep:d.depth<=n
def fQ(n:Nat)(ds:List ah):Prop:=∀d∈ds,cD n d
theorem cD.le{n m:Nat}{d:ah}(h:cD n d)(l:n<=m):cD m d:=⟨h.lay,fz h.dep l⟩
theorem qx{n:Nat}:∀{ds:List ah},fQ n ds↔(PyData.canLayAll0 ds=true/\PyData.depthAll ds<=n)
 |[]=>⟨λ_=>⟨Z,fw _⟩,λ_ _ h=>nomatch h⟩ |d::ds=>by
  have ih:=qx (n:=n) (ds:=ds);simp only[PyData.canLayAll0,PyData.depthAll,cZ];constructor
  ·intro h
   have h1:=h d (.head _);have h2:=ih.mp λx hx=>h x (.tail _ hx);exact⟨⟨h1.lay,h2.1⟩,Nat.max_le.mpr ⟨h1.dep,h2.2⟩⟩
  ·rintro⟨⟨a,b⟩,c⟩ x hx
   have c':=Nat.max_le.mp c;rcases bZ.mp hx with rfl|hx
   ·exact⟨a,c'.1⟩
   ·exact ih.mpr ⟨b,c'.2⟩ x hx
theorem fQ.tup{n:Nat}{ds:List ah}(h:fQ n ds):cD (n+1) (.tuple ds):=⟨by simpa[PyData.canLay0]using(qx.mp h).1,by simpa[PyData.depth]using(qx.mp h).2⟩
theorem fQ.lst{n:Nat}{ds:List ah}(h:fQ n ds):cD (n+1) (.list ds):=⟨by simpa[PyData.canLay0]using(qx.mp h).1,by simpa[PyData.depth]using(qx.mp h).2⟩
theorem cD.d6{n:Nat}{ds:List ah}(h:cD (n+1) (.tuple ds)):fQ n ds:=qx.mpr ⟨by simpa[PyData.canLay0]using h.lay,by simpa[PyData.depth]using h.dep⟩
theorem cD.int{n:Nat}(i:Int):cD n (.int i):=⟨Z,fw _⟩
theorem cD.aY{n:Nat}:cD n .none:=⟨Z,fw _⟩
theorem fQ.nil{n:Nat}:fQ n []:=λ_ h=>nomatch h
theorem fQ.cons{n:Nat}{d:ah}{ds:List ah}(h:cD n d)(g:fQ n ds):fQ n (d::ds):=λx hx=>by
 rcases bZ.mp hx with rfl|hx
 ·exact h
 ·exact g x hx
theorem cD.shaped{n:Nat}{d:ah}(h:cD n d)(l:n<=64):SeqAt.shaped d=true:=by unfold SeqAt.shaped;rw[h.lay,iD];exact cn (fz h.dep l)
theorem cD.refl{n:Nat}{d:ah}(h:cD n d):PyData.eqv d d=true:=eqv_refl d h.lay
def del(H:Hp)(p:Addr):Hp:=λb=>if b=p then none else H b
theorem pC{H:Hp}{p b:Addr}{o:HO}:del H p b=some o↔b≠p/\H b=some o:=by
 unfold del;by_cases e:b=p
 ·rw[bo e];simp[e]
 ·rw[bh e];simp[e]
theorem NS{H:Hp}{p:Addr}:aA (del H p) H:=λb o e=>(pC.mp e).2
def SD(p:Addr)(H H':Hp):Prop:=aA (del H p) (del H' p)
variable {p:Addr}{n m:Nat}{v:V}{vs:List V}{d:ah}{ds es:List ah}
end
section
variable {X:Cx}
end
end _L
namespace _H
open PySem PySem.Spec PyProof.Rows
section
variable {prog:af}{w:World}{A:ai}{E:Value->ae->Prop}{s:ae}
theorem a1y{t sl:Addr}{items:Array Value}{vl vu:Value}{lo hi:Option Int}{Q:Value->ae->Prop}(ht:IsTup s.heap t items)(hs:s.heap.IsSliceOf sl vl vu .none)(pl:IsPart vl lo)(pu:IsPart vu hi) (hw:bI items.size 0 lo=0/\bI items.size items.size hi=items.size)(h:Q (.ref t) s):wpAny (model prog w) A (getItem (.ref t) (.ref sl)) Q E s:=by
 obtain⟨os,jQ,zk,kN⟩:=id hs;have Ez:s.TypeIs (.ref sl) "slice":=⟨os,jQ,zk⟩;unfold getItem
 try with_reducible refine gI ?_
 first|refine aB (bA ?_)|skip
 refine aB (wpAny_sequenceKey ht.typeIs az ?_);refine aB (uc (name:=Str.ofString "__getitem__") ht.typeIs wV (ub wV ht.typeIs entry_tuple_getitem ?_ (args_tuple_getitem _ _)));show wpAny _ _ (Builtin.Tuple.tupleItemsOf (.ref t)>>=_) _ _ s;refine aB (tupleItemsOf_ ht ?_);refine aB (wpAny_typeOf Ez ?_);rw[bo az];refine aB (IP hs pl pu ?_);have Z3:(((bI items.size 0 lo:Nat):Int)==0&&(1:Int)==1&&(bI items.size items.size hi-bI items.size 0 lo)==items.size)=true:=by rw[hw.1,hw.2];simp
 show wpAny _ _ (if(((bI items.size 0 lo:Nat):Int)==0&&(1:Int)==1&&(bI items.size items.size hi-bI items.size 0 lo)==items.size)=true then _ else _) _ _ s;rw[bo Z3];show wpAny _ _ (Builtin.Tuple.tupleIsExact (.ref t)>>=_) _ _ s;refine aB (m:=Builtin.Tuple.tupleIsExact _) (aB (wpAny_typeOf ht.typeIs (bA ?_)));rw[bo az]
 wp_walk;exact⟨_,Z,bA h⟩
end
end _H
namespace _L
open PySem PySem.Spec PyProof.Rows
section
variable {X:Cx}
end
def fr(H H':Hp):Hp:=λb=>match H b with|none=>H' b|some _=>none
theorem me{H H':Hp}{b:Addr}{o:HO}:fr H H' b=some o↔H b=none/\H' b=some o:=by unfold fr;cases H b<;>simp
theorem a21{H H':Hp}{p:Addr}(hp:H p≠none):aA (fr H H') (del H' p):=λb o e=>pC.mpr ⟨λz=>hp (z▸(me.mp e).1),(me.mp e).2⟩
theorem EZ{H H1 H2:Hp}(s:aA H1 H2):aA (fr H H1) (fr H H2):=λb o e=>me.mpr ⟨(me.mp e).1,s _ _ (me.mp e).2⟩
theorem a20{H H1 H2:Hp}(s:aA H H1):aA (fr H1 H2) (fr H H2):=λb o e=>me.mpr ⟨s.free (me.mp e).1,(me.mp e).2⟩
def xN(K:aa)(d:ah):TE:=λ_ H Q=>∀v H',aA H H'->RD K (fr H H') v d->Q v H'
def QZ(K:aa)(ds:List ah):TA:=λ_ H Q=>∀vs H',aA H H'->aI K (fr H H') vs ds->Q vs H'
def vp(f:Expr->Option ah):List Expr->Option (List ah) |[]=>some [] |e::es=>match f e,vp f es with |some d,some ds=>some (d::ds) |_,_=>none
def lit:Nat->Expr->Option ah
 |0,_=>none |_+1,.Constant .none _ _=>some .none |_+1,.Constant (.bool b) _ _=>some (.bool b) |_+1,.Constant (.int i) _ _=>some (.int i) |_+1,.Constant (.str x) _ _=>some (.str x) |n+1,.Tuple es _ _=>match vp (lit n) es with |some ds=>if ds.length<=1000 then some (.tuple ds)else none |none=>none
 |n+1,.List es _=>match vp (lit n) es with |some ds=>if ds.length<=1000 then some (.list ds)else none |none=>none
 |n+1,.UnaryOp .USub a _=>match lit n a with |some (.int i)=>some (.int (-i)) |_=>none
 |n+1,.BinOp a .Pow b _=>match lit n a,lit n b with |some (.int i),some (.int j)=>if 0<=j/\j<=1000000/\i.natAbs<2^64 then some (.int (i^j.toNat))else none |_,_=>none
 |_,_=>none
section
variable {X:Cx}
theorem RF{e:Expr}{es:List Expr}{env:Env}(h:∀a b,e≠ .Starred a b):starEach (e::es) env=(false,eval e env)::starEach es env:=by cases e<;>first|rfl|exact absurd rfl (h _ _)
theorem Yc{n:Nat}{e:Expr}{d:ah}(h:lit n e=some d):∀a b,e≠ .Starred a b:=by intro a b z;subst z;cases n<;>simp[lit]at h
theorem KU(K:aa)(f:Expr->Option ah)(hp:∀e d,f e=some d->∀a b,e≠ .Starred a b)(hf:∀e d,f e=some d->PE X e (xN K d)):∀(es:List Expr)(ds:List ah),vp f es=some ds->PA X es (QZ K ds)
 |[],ds,h=>by cases h;intro pos ak s O H Q I hq;exact ay pos ak s O H Q I (hq [] H (aA.refl H) bW) |e::es,ds,h=>by
  rw[vp]at h;split at h
  ·rename_i d FC e1 e2
   cases h;intro pos ak s O H Q I hq;refine ao (hf e d e1) (KU K f hp hf es FC e2) (RF (hp e d e1)) pos ak s O H Q I ?_;intro v H1 s1 r1 vs H2 s2 r2;exact hq (v::vs) H2 (s1.trans s2) (bJ (RD.mono (EZ s2) _ r1) (aI.mono (a20 s1) _ r2))
  ·cases h
theorem uX(K:aa)(hK:X.K=K):∀(n:Nat)(e:Expr)(d:ah),lit n e=some d->PE X e (xN K d)
 |0,e,d,h=>by simp[lit]at h |n+1,e,d,h=>by
  have hA:=KU (X:=X) K (lit n) (λe d h=>Yc h) (λe d h=>uX K hK n e d h);unfold lit at h;split at h
  case h_1=>cases‹Nat.succ n=0›
  case h_2=>cases h;intro ak s O H Q I hq;exact hV ak s O H Q I (hq .aY H (aA.refl H) oA)
  case h_3=>cases h;intro ak s O H Q I hq;exact hW ak s O H Q I (hq (.bl _) H (aA.refl H) (T5 _))
  case h_4=>cases h;intro ak s O H Q I hq;exact aF ak s O H Q I (hq (.int _) H (aA.refl H) (cQ _))
  case h_5=>cases h;intro ak s O H Q I hq;exact ck ak s O H Q I (hq (.str _) H (aA.refl H) (dN _))
  case h_6=>
   rename_i m es _ _ hm;cases hm;split at h
   ·rename_i ds e1
    by_cases hl:ds.length<=1000
    ·rw[bo hl]at h
     cases h;intro ak s O H Q I hq;refine dh (hA es ds e1) ak s O H Q I ?_;intro vs H1 s1 r1;refine⟨by rw[r1.length];exact fz hl az,λp H' nw=>?_⟩;refine hq _ _ (s1.trans nw.same) (eF (aQ.of (me.mpr ⟨s1.free nw.no,nw.at'⟩)) (aI.mono (EZ nw.same) _ r1))
    ·rw[bh hl]at h;cases h
   ·cases h
  case h_7=>
   rename_i m es _ hm;cases hm;split at h
   ·rename_i ds e1
    by_cases hl:ds.length<=1000
    ·rw[bo hl]at h
     cases h;intro ak s O H Q I hq;refine dE (hA es ds e1) ak s O H Q I ?_;intro vs H1 s1 r1;refine⟨by rw[r1.length];exact fz hl az,λp H' nw=>?_⟩;refine hq _ _ (s1.trans nw.same) (sG (aK.of (me.mpr ⟨s1.free nw.no,nw.at'⟩)) (aI.mono (EZ nw.same) _ r1))
    ·rw[bh hl]at h;cases h
   ·cases h
  case h_8=>
   rename_i m a _ hm;cases hm;split at h
   ·rename_i i e1
    cases h;intro ak s O H Q I hq;refine mV mJ (uX K hK n a _ e1) ak s O H Q I ?_;intro v H1 s1 r1;exact⟨i,r1.int_inv,hq _ _ s1 (cQ _)⟩
   ·cases h
  case h_9=>
   rename_i m a b _ hm;cases hm;split at h
   ·rename_i i j e1 e2
    by_cases hc:0<=j/\j<=1000000/\i.natAbs<2^64
    ·rw[bo hc]at h
     cases h;intro ak s O H Q I hq;refine aW uY (uX K hK n a _ e1) (uX K hK n b _ e2) ak s O H Q I ?_;intro v H1 s1 r1 v2 H2 s2 r2;exact⟨i,j,r1.int_inv,r2.int_inv,hc,hq _ _ (s1.trans s2) (cQ _)⟩
    ·rw[bh hc]at h;cases h
   ·cases h
  case h_10=>cases h
end
end _L
namespace _L
theorem eK{α:Type}{xs:List α}{i:Int}{v:α}(h0:0<=i)(h:xs[i.toNat]? =some v):iz xs i=some v:=by have hl:i.toNat<xs.length:=(eY.mp h).1;unfold iz kH;rw[bo h0,bo aw];exact h
end _L
namespace _L
open PySem PySem.Spec PyProof.Rows
theorem uM(n:Nat)(h:n<=1000):n<=sizeLine:=fz h az
structure ON(X:Cx)(e:Expr)(t:TE):Prop where out:PE X e t
theorem Ug{X:Cx}(K:aa)(hK:X.K=K)(n:Nat)(e:Expr)(d:ah)(h:lit n e=some d):ON X e (xN K d):=⟨uX K hK n e d h⟩
section
variable {X:Cx}{p pos pos':Pos}{a b e:Expr}{es:List Expr}{ta tb te:TE}{t:TA}{x:Str}
theorem px(K:aa)(ha:PE X a ta)(hb:PE X b tb)(hK:autoParam (X.K=K) r8_._auto_1)(hp:OI b:=by exact λ_ _=>rfl):PE X (.Subscript a b pos) (uD (λx y H Q=>CS K x y H Q\/CQ K x y H Q) ta tb):=KP (YA K hK) ha hb hp
theorem kC(K:aa)(B:bE X.mg)(ha:PA X (e::es) t)(hK:autoParam (X.K=K) r8_._auto_1)(hg:autoParam (Gl X "isinstance") r8_._auto_1)(he:autoParam (starEach (e::es) X.env=(false,eval e X.env)::starEach es X.env) r8_._auto_1)(dH:autoParam ((backTo pos (starEach es X.env)).any (·.1)=false) r8_._auto_1):PE X (.Call (.Name "isinstance" p) (e::es) [] pos) (xO (λxs H Q=>CU K xs H Q\/CT K xs H Q) t):=dF (YE K hK) hg (B.at "isinstance") jZ ha az az he dH
theorem fm(K:aa)(B:bE X.mg)(ha:PA X (e::es) t)(hK:autoParam (X.K=K) r8_._auto_1)(hg:autoParam (Gl X "len") r8_._auto_1)(he:autoParam (starEach (e::es) X.env=(false,eval e X.env)::starEach es X.env) r8_._auto_1)(dH:autoParam ((backTo pos (starEach es X.env)).any (·.1)=false) r8_._auto_1):PE X (.Call (.Name "len" p) (e::es) [] pos) (xO (λxs H Q=>∃p ys,xs=[.ref p]/\(aK K H p ys\/aQ K H p ys)/\Q (.int ys.length) H) t):=dF (Yh K hK) hg (B.at "len") PySem.boot_len ha az az he dH
theorem pS(i:Nat)(hN:X.N.Nodup)(he:PE X e te)(hi:autoParam (X.N[i]? =some x) r8_._auto_1)(hx:autoParam (Loc X.env.scope x) k8_._auto_1)(hs:autoParam (swapsWith e (some (.Name x pos')) pos.line X.env=pure false) r8_._auto_1)(hf:autoParam (X.fn x=true\/X.env.scope.names.lookup x=some .local) d8_._auto_1):PS X (.Assign [.Name x pos'] e pos) (xQ te (gj i)):=KD hN hi hx he hs hf
theorem bu(i:Nat)(hN:X.N.Nodup)(hi:autoParam (X.N[i]? =some x) r8_._auto_1)(hx:autoParam (Loc X.env.scope x) k8_._auto_1)(hf:autoParam (X.fn x=true\/X.env.scope.names.lookup x=some .local) d8_._auto_1):PG X (.Name x pos) (gj i):=Ub hN hi hx hf
theorem oK (a:Str):[a].Nodup:=by simp
theorem fX{a b:Str}(h:(a==b)=false):[a,b].Nodup:=by
 have:a≠b:=λz=>by rw[z,wU]at h;cases h
 simp[this]
theorem bC{n:Nat}(h:Nat.ble n 1000=true):n<=sizeLine:=uM n (GK h)
end
def GV(mg:bc)(x:Str)(v:V):Prop:=∃u,mg x=some u/\RelV v u
def GT(K:aa)(mg:bc)(x:Str)(vs:List V):Prop:=∃a,GV mg x (.ref a)/\∀H,aQ K H a vs
theorem cy{X:Cx}{x:Str}{v:V}{pos:Pos}(hg:Gl X x)(h:GV X.mg x v)(hd:autoParam ((x==("__debug__":Str))=false) q8_._auto_1):PE X (.Name x pos) (tC v):=by obtain⟨u,hm,r⟩:=h;exact Uh hg hm r hd
section
variable {K:aa} {mg:bc} {h:Heap}
theorem iJ{x:Str}{i:Int}{t:Tok}(X:K.In h)(G:h.Ns mainGlobals mg)(a:PySem.W.nsIn K mainGlobals x=some (some (.int i t))):GV mg x (.int i):=⟨_,rL X G a,t,Z⟩
theorem EV{x:Str}{vs:List V}{b:Addr}{its:Array Value}{n:Nat}{od:Option Addr}{eG:Array (Option Value)}(X:K.In h)(G:h.Ns mainGlobals mg)(a:PySem.W.nsIn K mainGlobals x=some (some (.ref b))) (l:K.lookup b=some ⟨.type "tuple",od,.seq its n,eG⟩)(hz:its.size<=sizeLine)(r:Vals vs its.toList):GT K mg x vs:=⟨b,⟨_,rL X G a,Z⟩,λH=>.inr ⟨_,its,n,l,Z,Z,hz,r⟩⟩
end
section
variable {X:Cx}
theorem WJ(K:aa)(h:X.K=K):cj X (compareOp .NotIn) (Kx K true):=by subst h;exact UC
end
theorem O5{J:It}{xs:List V}{bs:List Bool}{te:TE}{Q:VK}{D:Addr}{H H0:Hp}(rest:St)(nw:Nw H H0 D (.lst []))(hl:xs.length=bs.length)(hz:xs.length<=1000) (go:∀i x H2,xs[i]? =some x->aA H H2->J.go i H2/\∀y H3,J.gM i H2 y H3->H3=H2/\y=x)(stop:∀H2,aA H H2->J.stop xs.length H2) (hs:∀(i:Nat)(x:V)(b:Bool)(H2:Hp)(Q':VK),xs[i]? =some x->bs[i]? =some b->aA H H2->(∀H3,aA H2 H3->Q' (.bl b) H3)->te (some x::rest) H2 Q') (hq:∀H',aA H H'->H' D=some (.lst (bs.map V.bl))->Q (.ref D) H'):jy J (gj 0) jk te Q D (none::rest) H0:=by
 have hD:=nw.no;refine qU xs.length (λi O H2=>aA H H2/\H2 D=some (.lst ((bs.take i).map V.bl))/\∃v,O=v::rest) ?_ ?_ ?_
 ·exact⟨nw.same,nw.at',none,Z⟩
 ·rintro i O H2 hi ⟨s2,d2,v,rfl⟩
  have zh:i<bs.length:=by rw[<-hl];exact hi
  have ex:=cI hi;have eb:=cI zh;obtain⟨g1,g2⟩:=go i _ H2 ex s2;refine⟨g1,λy H3 hy=>?_⟩;obtain⟨rfl,rfl⟩:=g2 y H3 hy;refine xC ?_;refine hs i _ _ _ _ ex eb s2 λH4 s4=>?_;refine⟨_,s4 _ _ d2,?_,xs.length-(i+1),aw,Z,aw,λb o e=>?_,?_,_,Z⟩
  ·rw[bR,rP]
   have:(1000:Nat)<sizeLine:=by decide
   lia
  ·rw[aL (eH e hD)];exact s4 b o (s2 b o e)
  ·rw[bp,uo,eb,lA];rfl
 ·rintro O H2 ⟨s2,d2,v,rfl⟩
  refine⟨stop H2 s2,hq H2 s2 ?_⟩;rw[d2,hl,Ag]
theorem zL{K:aa}{a:Addr}{xs:List V}{bs:List Bool}{te:TE}{Q:VK}{D:Addr}{H H0:Hp}(rest:St)(hx:aQ K H a xs)(nw:Nw H H0 D (.lst []))(hl:xs.length=bs.length)(hz:xs.length<=1000) (hs:∀(i:Nat)(x:V)(b:Bool)(H2:Hp)(Q':VK),xs[i]? =some x->bs[i]? =some b->aA H H2->(∀H3,aA H2 H3->Q' (.bl b) H3)->te (some x::rest) H2 Q') (hq:∀H',aA H H'->H' D=some (.lst (bs.map V.bl))->Q (.ref D) H'):jy (pM K a) (gj 0) jk te Q D (none::rest) H0:=O5 rest nw hl hz (λi x H2 e s=>⟨⟨xs,x,hx.go s,e⟩,λy H3 ⟨e3,y3⟩=>⟨e3,by have:=y3 _ (hx.go s);rw[e]at this;exact(dW this).symm⟩⟩) (λH2 s=>⟨xs,hx.go s,bB _⟩) hs hq
theorem yP{ds:List ah}{f:ah->Bool}{i:Nat}{b:Bool}(h:(ds.map f)[i]? =some b):∃d,ds[i]? =some d/\f d=b:=by rw[cY]at h;cases e:ds[i]? with |none=>rw[e]at h;cases h |some d=>rw[e]at h;exact⟨d,Z,dW h⟩
theorem all_map{ds:List ah}{f:ah->Bool}:(ds.map f).all id=ds.all f:=by rw[List.all_map];rfl
section
variable {X:Cx}
inductive a6Z(K:aa)(x:V)(y:V)(H:Hp)(Q:VK):Prop |mk (a:_)(b:_)(xs:_)(ys:_)(h0:x= .ref a)(h1:y= .ref b)(h2:aK K H a xs)(h3:aK K H b ys)(h4:xs.length+ys.length<=sizeLine)(h5:∀p H',Nw H H' p (.lst (xs++ys))->Q (.ref p) H')
def TH(K:aa):R2:=λx y H Q=>a6Z K x y H Q
theorem qV(K:aa)(hK:X.K=K):cj X (binaryOp .Add) (TH K):=by
 subst hK;intro ak s O H x y v u Q I rx ry h;obtain⟨a,b,xs,ys,rfl,rfl,ha,hb,hz,q⟩:=h;cases rx;cases ry;obtain⟨its,r1,p1,_⟩:=I.list ha;obtain⟨jo,r2,p2,_⟩:=I.list hb;obtain⟨⟨cls,dd,data,sl⟩,n,ho,hc,hdd,hd⟩:=id p1;obtain⟨⟨O8,tV,data2,ow⟩,n2,m3,fJ,a85,hd2⟩:=id p2;simp only at hc hd fJ hd2;subst hc hd fJ hd2;have e:its.toArray++jo.toArray=(its++jo).toArray:=by simp
 refine concat_meets ⟨_,ho,Z⟩ ⟨_,m3,Z⟩ noFill_list_add seq_list_add PySem.F.slot_list_add PySem.F.entry_list_add (PySem.F.args_list_add_2 _ _) (list_addW a b its.toArray jo.toArray n n2 dd tV sl ow (by rw[cX,cX,<-r1.length,<-r2.length];exact hz)) ⟨ho,m3,?_⟩;rw[e];have nw:Nw H (upd H s.heap.objs.size (.lst (xs++ys))) s.heap.objs.size (.lst (xs++ys)):=.of (I.aU.fresh (bB _));refine⟨.ref s.heap.objs.size,_,I.laid (t':=s.toks) (o:=.lst (xs++ys)) (λb ob q=>bK _ q) (bB _) ?_,Z,q _ _ nw⟩;exact⟨by rw[fj];exact hz,_,0,r1.append r2,dw _ Z⟩
inductive a6S(K:aa)(neg:Bool)(x:V)(y:V)(H:Hp)(Q:VK):Prop |mk (p:_)(xs:_)(d:_)(ds:_)(h0:y= .ref p)(h1:aK K H p xs)(h2:RD K H x d)(h3:aI K H xs ds)(h4:SeqAt.shaped d=true)(h5:(∀e∈ds,SeqAt.shaped e=true))(h6:Q (.bl (if neg then !(ds.any λe=>PyData.eqv e d)else ds.any λe=>PyData.eqv e d)) H)
def Tz(K:aa)(neg:Bool):R2:=λx y H Q=>a6S K neg x y H Q
open Classical in
noncomputable def nS(h:Heap)(d:ah)(w:Value):Bool:=if q:∃e as,Reads h w e as then PyData.eqv q.choose d else false
theorem a3m{h:Heap}{d e:ah}{w:Value}{as:List Addr}(r:Reads h w e as):nS h d w=PyData.eqv e d:=by have q:∃e as,Reads h w e as:=⟨e,as,r⟩;unfold nS;rw[dif_pos q];obtain⟨as',r'⟩:=q.choose_spec;rw[(Reads.unique r' e as r).1]
theorem Ft{ak:List (Addr×Obj)}{s:ae}{O:St}{H:Hp}(I:Inv X ak O H s)(hu:X.A.units+65<cLine){x:V}{u:Value}{d:ah}(rx:RelV x u)(hd:RD X.K H x d)(sd:SeqAt.shaped d=true): ∀{xs:List V}{us:List Value}{ds:List ah},Vals xs us->aI X.K H xs ds->(∀e∈ds,SeqAt.shaped e=true)->(∀w∈us,SeqAt.EqAt X.A.in1 s w u (nS s.heap d w))/\us.any (nS s.heap d)=ds.any λe=>PyData.eqv e d |xs,us,[],rv,h,_=>by cases h.nil_inv;cases rv;exact⟨λ_ h=>(dX h).elim,Z⟩ |xs,us,e::ds,rv,h,se=>by obtain⟨y,ys,rfl,h1,h2⟩:=h.cons_inv;cases rv with |cons ra rb=>
 rename_i w ws;obtain⟨as,q1⟩:=RD.reads I e ra h1;obtain⟨bs,q2⟩:=RD.reads I d rx hd;have key:SeqAt.EqAt X.A.in1 s w u (PyData.eqv e d):=SeqAt.eqAt_reads e d X.A.in1 s w u as bs q1 q2 (SeqAt.canLay_of_shaped (se e (.head _))) (SeqAt.canLay_of_shaped sd) (SeqAt.room_of_shaped (se e (.head _)) (by show X.A.units+1+64<cLine;omega));obtain⟨k1,k2⟩:=Ft I hu rx hd sd rb h2 (λe' he=>se e' (.tail _ he));have ew:nS s.heap d w=PyData.eqv e d:=a3m q1;refine⟨λz hz=>?_,?_⟩
 ·rcases bZ.mp hz with rfl|hz
  ·rw[ew];exact key
  ·exact k1 z hz
 ·rw[uw,uw,ew,k2]
theorem inD(K:aa)(hK:X.K=K)(hu:X.A.units+65<cLine):cj X (compareOp .In) (Tz K false):=by
 subst hK;intro ak s O H x y v u Q I rx ry h;obtain⟨p,xs,d,ds,rfl,hx,hd,kN,sd,AY,q⟩:=h;cases ry;obtain⟨its,r,pl,hz⟩:=I.list hx;obtain⟨k1,k2⟩:=Ft I hu rx hd sd r kN AY;refine SeqAt.in_listAt (nS s.heap d) pl.isList (λw hw=>k1 w (by simpa using hw)) ⟨.bl _,H,I,Z,?_⟩;have e:its.toArray.any (nS s.heap d)=ds.any λe=>PyData.eqv e d:=by rw[<-k2];simp
 rw[e];exact q
end
end _L
namespace _L
theorem bV.Hk{k:Nat}{A:PySem.Around}(r:bV k A):A.units+65<PySem.cLine:=by have:=r.un;lia
end _L
namespace _L
open PySem PySem.Spec PyProof.Rows
def iO(b:Bool)(h:Heap)(it l:Addr)(k:Nat):Prop:=match b with|true=>h.IsListIter it l k|false=>h.IsTupleIter it l k
def fP(b:Bool)(h:Heap)(l:Addr)(xs:Array Value):Prop:=match b with|true=>h.IsList l xs|false=>h.IsTuple l xs
def pD(b:Bool):String:=match b with|true=>"list_iterator"|false=>"tuple_iterator"
theorem iO.to{b:Bool}{h g:Heap}{it l:Addr}{k:Nat}(x:iO b h it l k)(e:∀o,h.get? it=some o->g.get? it=some o):iO b g it l k:=by cases b<;>(obtain⟨o,ho,r⟩:=x;exact⟨o,e o ho,r⟩)
theorem fP.to{b:Bool}{h g:Heap}{l:Addr}{xs:Array Value}(x:fP b h l xs)(e:∀o,h.get? l=some o->g.get? l=some o):fP b g l xs:=by cases b<;>(obtain⟨o,ho,r⟩:=x;exact⟨o,e o ho,r⟩)
theorem iO.ob{b:Bool}{h:Heap}{it l:Addr}{k:Nat}(x:iO b h it l k):∃o,h.get? it=some o/\o.cls= .type (pD b)/\∀v,o.data≠ .cell v:=by cases b<;>(obtain⟨o,ho,c,d⟩:=x;exact⟨o,ho,c,λv z=>by rw[d]at z;cases z⟩)
section
variable {prog:af}{w:World}{A:ai}{E:Value->ae->Prop}{s:ae}
theorem sY{b:Bool}{l:Addr}{xs:Array Value}{Q:Value->ae->Prop}(x:fP b s.heap l xs) (q:Q (.ref s.heap.objs.size) {s with heap:=s.heap.push {cls:=.type (pD b),data:=.fields #[.ref l,.int 0 0]}}):wpAny (model prog w) A (pyIter (.ref l)) Q E s:=by
 cases b
 ·exact wpAny_pyIter_tuple x q
 ·exact A4 x q
theorem Ww{it t:Addr}{k:Nat}{ts:Array Value}{x:Value}{Q:Value->ae->Prop}(hi:s.heap.IsTupleIter it t k)(ht:s.heap.IsTuple t ts)(hx:ts[k]? =some x) (q:∀g,g.IsTupleIter it t (k+1)->Heap.SameBut it s.heap g->Q x {s with heap:=g}):wpAny (model prog w) A (Builtin.SmallTypes.nextOf (.ref it)) Q E s:=by obtain⟨oi,iI,ci,di⟩:=id hi;obtain⟨ot,Ee,_,nt,dt⟩:=ht;unfold Builtin.SmallTypes.nextOf;refine aB (uc (name:=Str.ofString "__next__") hi.typeIs GF (ub GF hi.typeIs a7n ?_ (a7o _)));show wpAny _ _ (field (.ref it) 0>>=_) _ _ s;refine aB (fT iI di (x:=.ref t) Z ?_);show wpAny _ _ (if(Value.ref t==Value.none)=true then _ else _) _ _ s;rw[bh (show¬((Value.ref t==Value.none)=true)from cJ)];show wpAny _ _ (field (.ref it) 1>>=_) _ _ s;refine aB (fT iI di (x:=.int k 0) Z ?_);show wpAny _ _ (seqItems? (.ref t)>>=_) _ _ s;refine aB (rC Ee dt ?_);simp only[PD,hx];refine aB (wN iI di (by simp) (bA ⟨x,Z,bA (q _ ?_ (PJ ..))⟩));exact⟨_,xp _ iI (GH (wY di _)),(Obj.cls_mapFields ..).trans ci,by rw[wY di];simp[rawInt]⟩
theorem a3w{it t:Addr}{k:Nat}{ts:Array Value}{Q:Value->ae->Prop}(hh:A.handled=none)(hi:s.heap.IsTupleIter it t k)(ht:s.heap.IsTuple t ts)(hx:ts[k]? =none) (q:∀g e,Heap.ExtBut it s.heap g->(∃o,g.get? e=some o/\o.cls= .type "StopIteration")->E (.ref e) {s with heap:=g}):wpAny (model prog w) A (Builtin.SmallTypes.nextOf (.ref it)) Q E s:=by
 obtain⟨oi,iI,ci,di⟩:=id hi;obtain⟨ot,Ee,_,nt,dt⟩:=ht;unfold Builtin.SmallTypes.nextOf;refine aB (uc (name:=Str.ofString "__next__") hi.typeIs GF (ub GF hi.typeIs a7n ?_ (a7o _)));show wpAny _ _ (field (.ref it) 0>>=_) _ _ s;refine aB (fT iI di (x:=.ref t) Z ?_);show wpAny _ _ (if(Value.ref t==Value.none)=true then _ else _) _ _ s;rw[bh (show¬((Value.ref t==Value.none)=true)from cJ)];show wpAny _ _ (field (.ref it) 1>>=_) _ _ s;refine aB (fT iI di (x:=.int k 0) Z ?_);show wpAny _ _ (seqItems? (.ref t)>>=_) _ _ s;refine aB (rC Ee dt ?_);simp only[PD,hx];refine aB (wO (aB (wN iI di (by simp) ?_)));show wpAny _ _ (newExc (.type "StopIteration") []>>=_) _ _ _;refine aB ?_;simp only[newExc,newTuple];refine aB (jX ?_ (by size_fits));refine aB (m:=firstArgMember _ _) (ua (a:=Value.none) (by first|rfl|(simp only[firstArgMember];rfl)) ?_);refine jX ?_ (by size_fits);simp only[raiseNew];refine aB (wpAny_handled ?_)
 first|rw[show A.in1.handled=none from hh]|rw[hh]
 exact aB (bA (wpAny_throw (q _ _ (((PJ ..).extBut.push _).push _) ⟨_,dw _ Z,Z⟩)))
theorem yE{b:Bool}{it l:Addr}{k:Nat}{xs:Array Value}{x:Value}{Q:Value->ae->Prop}(hi:iO b s.heap it l k)(hl:fP b s.heap l xs)(hx:xs[k]? =some x) (q:∀g,iO b g it l (k+1)->Heap.SameBut it s.heap g->Q x {s with heap:=g}):wpAny (model prog w) A (Builtin.SmallTypes.nextOf (.ref it)) Q E s:=by
 cases b
 ·exact Ww hi hl hx q
 ·exact wpAny_nextOf_list_item hi hl hx q
theorem Fv{b:Bool}{it l:Addr}{k:Nat}{xs:Array Value}{Q:Value->ae->Prop}(hh:A.handled=none)(hi:iO b s.heap it l k)(hl:fP b s.heap l xs)(hx:xs[k]? =none) (q:∀g e,Heap.ExtBut it s.heap g->(∃o,g.get? e=some o/\o.cls= .type "StopIteration")->E (.ref e) {s with heap:=g}):wpAny (model prog w) A (Builtin.SmallTypes.nextOf (.ref it)) Q E s:=by
 cases b
 ·exact a3w hh hi hl hx q
 ·exact wpAny_nextOf_list_end hh hi hl hx q
structure Zp(b1 b2:Bool)(h:Heap)(z TI TO i1 i2 l1 l2:Addr)(f0:Value)(k:Nat):Prop where
 zz:IsZip h z TI TO f0
 ti:IsPair h TI (.ref i1) (.ref i2)
 to:∃a b,IsPair h TO a b
 n1:iO b1 h i1 l1 k
 n2:iO b2 h i2 l2 k
theorem KY{z TI TO:Addr}{Q:Bool->ae->Prop}(hz:IsZip s.heap z TI TO .none)(q:Q true s):wpAny (model prog w) A (Builtin.SmallTypes.ownedTupleIsFree (.ref z)) Q E s:=by unfold Builtin.SmallTypes.ownedTupleIsFree;exact aB (fT hz Z (x:=.none) Z (bA q))
theorem PN{b1 b2:Bool}{z TI TO i1 i2 l1 l2:Addr}{k:Nat}{xs ys:Array Value}{x y:Value}{Q:Value->ae->Prop}(D:ZipApart z TI TO i1 i2 l1 l2)(a8x:Zp b1 b2 s.heap z TI TO i1 i2 l1 l2 .none k) (jR:fP b1 s.heap l1 xs)(m6:fP b2 s.heap l2 ys)(hx:xs[k]? =some x)(hy:ys[k]? =some y) (q:∀g,Zp b1 b2 g z TI TO i1 i2 l1 l2 (rawInt s.heap.objs.size) (k+1)->IsPair g s.heap.objs.size x y->(∀c o,c≠z->c≠TO->c≠i1->c≠i2->s.heap.get? c=some o->g.get? c=some o)->Q (.ref s.heap.objs.size) {s with heap:=g}): wpAny (model prog w) A (Builtin.«zip.__next__» ⟨[.ref z],[]⟩) (λr s'=>∃v,r= .done (.ret v)/\Q v s') E s:=by
 obtain⟨hz,jT,⟨a,b,kO⟩,h1,h2⟩:=a8x;show wpAny _ _ (field (.ref z) 2>>=_) _ _ _;refine aB (fT hz Z (x:=.bool false) Z ?_);show wpAny _ _ (field (.ref z) 3>>=_) _ _ _;refine aB (fT hz Z (x:=.ref TI) Z (aB (rC jT Z ?_)));show wpAny _ _ (Builtin.SmallTypes.ownedTupleIsFree (.ref z)>>=_) _ _ _;refine aB (KY hz ?_);simp only[rF];refine aB (wO (aB (fT hz Z (x:=.ref TO) Z (aB (wM hz (by simp) λg1 z1 e1=>?_)))));replace z1:IsZip g1 z TI TO .ellipsis:=z1;refine aB ?_;simp only[List.zipIdx_cons,List.zipIdx_nil,GW,List.forIn_nil];refine aB (aB (A5 ?_));show wpAny _ _ (Builtin.SmallTypes.nextOf (.ref i1)>>=_) _ _ _;refine aB (yE (h1.to λo e=>e1.extBut _ _ D.i1z e) (jR.to λo e=>e1.extBut _ _ D.l1z e) hx λg2 n1 e2=>bA ?_);have t2:IsPair g2 TO a b:=e2.extBut _ _ D.TOi1 (e1.extBut _ _ D.TOz kO);refine aB (rC t2 Z (aB (OZ t2 λg3 t3 e3=>?_)));replace t3:IsPair g3 TO x b:=t3;refine aB (wpAny_letGo (bA ?_));refine aB (aB (A5 ?_));show wpAny _ _ (Builtin.SmallTypes.nextOf (.ref i2)>>=_) _ _ _;refine aB (yE (h2.to λo e=>e3.extBut _ _ D.TOi2.symm (e2.extBut _ _ D.i12.symm (e1.extBut _ _ D.i2z e))) (m6.to λo e=>e3.extBut _ _ D.l2TO (e2.extBut _ _ D.l2i1 (e1.extBut _ _ D.l2z e))) hy λg4 n2 e4=>bA ?_);have t4:IsPair g4 TO x b:=e4.extBut _ _ D.TOi2 t3;refine aB (rC t4 Z (aB (OZ t4 λg5 t5 e5=>?_)));replace t5:IsPair g5 TO x y:=t5;refine aB (wpAny_letGo (bA (bA ?_)));refine aB (rC t5 Z (aB (wpAny_newTuple ?_)));have sz:g5.objs.size=s.heap.objs.size:=by rw[e5.1,e4.1,e3.1,e2.1,e1.1]
 have z5:IsZip g5 z TI TO .ellipsis:=e5.extBut _ _ D.TOz.symm (e4.extBut _ _ D.i2z.symm (e3.extBut _ _ D.TOz.symm (e2.extBut _ _ D.i1z.symm z1)));have kp:∀c o,c≠z->c≠TO->c≠i1->c≠i2->s.heap.get? c=some o->g5.get? c=some o:=λc o c1 c2 c3 c4 e=>e5.extBut _ _ c2 (e4.extBut _ _ c4 (e3.extBut _ _ c2 (e2.extBut _ _ c3 (e1.extBut _ _ c1 e))));have m1:iO b1 g5 i1 l1 (k+1):=n1.to λo e=>e5.extBut _ _ D.TOi1.symm (e4.extBut _ _ D.i12 (e3.extBut _ _ D.TOi1.symm e));have m2:iO b2 g5 i2 l2 (k+1):=n2.to λo e=>e5.extBut _ _ D.TOi2.symm e;have Ap:z<g5.objs.size:=bP z5;show wpAny _ _ (Builtin.SmallTypes.ownedTupleHandOut (.ref z) (.ref g5.objs.size)>>=_) _ _ _;refine aB ?_;unfold Builtin.SmallTypes.ownedTupleHandOut;have z6:IsZip (g5.push {cls:=.type "tuple",data:=.seq #[x,y]}) z TI TO .ellipsis:=bK _ z5;refine aB (wM z6 (by simp) λg7 z7 e7=>?_);replace z7:IsZip g7 z TI TO (rawInt g5.objs.size):=z7;refine wM z7 (by simp) λg8 z8 e8=>?_;replace z8:IsZip g8 z TI TO (rawInt g5.objs.size):=z8;have up:∀c o,c≠z->g5.get? c=some o->g8.get? c=some o:=λc o c1 e=>e8.extBut _ _ c1 (e7.extBut _ _ c1 (bK _ e));have t8:IsPair g8 g5.objs.size x y:=e8.extBut _ _ (x6 Ap) (e7.extBut _ _ (x6 Ap) (dw _ Z));rw[sz]at z8 t8;refine bA ⟨_,Z,?_⟩;show Q (.ref g5.objs.size) _;rw[sz];exact q g8 ⟨z8,up _ _ D.TIz (kp _ _ D.TIz D.TITO D.TIi1 D.TIi2 jT),⟨_,_,up _ _ D.TOz t5⟩,m1.to λo e=>up _ o D.i1z e,m2.to λo e=>up _ o D.i2z e⟩ t8 λc o c1 c2 c3 c4 e=>up c o c1 (kp c o c1 c2 c3 c4 e)
theorem PQ{b1 b2:Bool}{z TI TO i1 i2 l1 l2:Addr}{k:Nat}{xs ys:Array Value}{Q:Fin->ae->Prop}(hh:A.handled=none)(D:ZipApart z TI TO i1 i2 l1 l2)(a8x:Zp b1 b2 s.heap z TI TO i1 i2 l1 l2 .none k) (jR:fP b1 s.heap l1 xs)(m6:fP b2 s.heap l2 ys)(nK:xs[k]? =none\/ys[k]? =none) (q:∀g e,(∀c o,c≠z->c≠TO->c≠i1->c≠i2->s.heap.get? c=some o->g.get? c=some o)->(∃o,g.get? e=some o/\o.cls= .type "StopIteration")->E (.ref e) {s with heap:=g}): wpAny (model prog w) A (Builtin.«zip.__next__» ⟨[.ref z],[]⟩) Q E s:=by obtain⟨hz,jT,⟨a,b,kO⟩,h1,h2⟩:=a8x;show wpAny _ _ (field (.ref z) 2>>=_) _ _ _;refine aB (fT hz Z (x:=.bool false) Z ?_);show wpAny _ _ (field (.ref z) 3>>=_) _ _ _;refine aB (fT hz Z (x:=.ref TI) Z (aB (rC jT Z ?_)));show wpAny _ _ (Builtin.SmallTypes.ownedTupleIsFree (.ref z)>>=_) _ _ _;refine aB (KY hz ?_);simp only[rF];refine aB (wO (aB (fT hz Z (x:=.ref TO) Z (aB (wM hz (by simp) λg1 z1 e1=>?_)))));replace z1:IsZip g1 z TI TO .ellipsis:=z1;refine aB ?_;simp only[List.zipIdx_cons,List.zipIdx_nil,GW,List.forIn_nil];refine aB (aB (A5 ?_));show wpAny _ _ (Builtin.SmallTypes.nextOf (.ref i1)>>=_) _ _ _;have j1:=h1.to λo e=>e1.extBut _ _ D.i1z e;have k1:=jR.to λo e=>e1.extBut _ _ D.l1z e;cases hx:xs[k]? with
 |none=>
  refine aB (Fv hh j1 k1 hx λg2 er e2 ⟨oe,lZ,vN⟩=>?_);have z2:IsZip g2 z TI TO .ellipsis:=e2 _ _ D.i1z.symm z1;have nz:er≠z:=λv=>by subst v;rw[z2]at lZ;cases lZ;simp at vN
  refine wM z2 (by simp) λg3 _ e3=>q g3 er (λc o c1 _ c3 _ v=>e3.extBut _ _ c1 (e2 _ _ c3 (e1.extBut _ _ c1 v))) ⟨oe,e3.extBut _ _ nz lZ,vN⟩ |some x=>
  have hy:ys[k]? =none:=by rcases nK with h|h;rw[hx]at h;cases h;exact h
  refine aB (yE j1 k1 hx λg2 n1 e2=>bA ?_);have t2:IsPair g2 TO a b:=e2.extBut _ _ D.TOi1 (e1.extBut _ _ D.TOz kO);refine aB (rC t2 Z (aB (OZ t2 λg3 t3 e3=>?_)));refine aB (wpAny_letGo (bA ?_));refine aB (aB (A5 ?_));show wpAny _ _ (Builtin.SmallTypes.nextOf (.ref i2)>>=_) _ _ _;refine aB (Fv hh (h2.to λo e=>e3.extBut _ _ D.TOi2.symm (e2.extBut _ _ D.i12.symm (e1.extBut _ _ D.i2z e))) (m6.to λo e=>e3.extBut _ _ D.l2TO (e2.extBut _ _ D.l2i1 (e1.extBut _ _ D.l2z e))) hy λg4 er e4 ⟨oe,lZ,vN⟩=>?_);have z4:IsZip g4 z TI TO .ellipsis:=e4 _ _ D.i2z.symm (e3.extBut _ _ D.TOz.symm (e2.extBut _ _ D.i1z.symm z1));have nz:er≠z:=λv=>by subst v;rw[z4]at lZ;cases lZ;simp at vN
  refine wM z4 (by simp) λg5 _ e5=>q g5 er (λc o c1 c2 c3 c4 v=>e5.extBut _ _ c1 (e4 _ _ c4 (e3.extBut _ _ c2 (e2.extBut _ _ c3 (e1.extBut _ _ c1 v))))) ⟨oe,e5.extBut _ _ nz lZ,vN⟩
abbrev xB(b1:Bool)(h:Heap)(l1:Addr):Heap:=h.push {cls:=.type (pD b1),data:=.fields #[.ref l1,.int 0 0]}
abbrev xA(b1 b2:Bool)(h:Heap)(l1 l2:Addr):Heap:=(xB b1 h l1).push {cls:=.type (pD b2),data:=.fields #[.ref l2,.int 0 0]}
abbrev xy(b1 b2:Bool)(h:Heap)(l1 l2:Addr):Heap:=(xA b1 b2 h l1 l2).push {cls:=.type "tuple",data:=.seq #[.ref h.objs.size,.ref (xB b1 h l1).objs.size]}
abbrev xx(b1 b2:Bool)(h:Heap)(l1 l2:Addr):Heap:=(xy b1 b2 h l1 l2).push {cls:=.type "tuple",data:=.seq #[.none,.none]}
abbrev rQ(b1 b2:Bool)(h:Heap)(l1 l2:Addr):Heap:=(xx b1 b2 h l1 l2).push {cls:=.type "zip",data:=.fields #[.none,.bool false,.bool false,.ref (xA b1 b2 h l1 l2).objs.size,.ref (xy b1 b2 h l1 l2).objs.size]}
theorem PM(b1 b2:Bool)(l1 l2:Addr)(xs ys:Array Value):Meets (Builtin.«zip.__new__» ⟨[.type "zip",.ref l1,.ref l2],[]⟩) (λ_ R s=>fP b1 s.heap l1 xs/\fP b2 s.heap l2 ys/\R (.ok (.ret (.ref (xx b1 b2 s.heap l1 l2).objs.size))) {s with heap:=rQ b1 b2 s.heap l1 l2}):=.of_wp λprog w A R s h=>by
 obtain⟨hp,gg,d,tk,os⟩:=s;obtain⟨jR,m6,h⟩:=h;have E8:=sub_zip;have hL1:fP b1 (Shared.heap ⟨hp,gg,d,tk,os⟩) l1 xs:=jR;have EF:fP b2 (Shared.heap ⟨hp.push {cls:=.type (pD b1),data:=.fields #[.ref l1,.int 0 0]},gg,d,tk,os⟩) l2 ys:=m6.to λo e=>bK _ e
 wp_walk using sY hL1,sY EF;exact⟨_,Z,h⟩
theorem PR{b1 b2:Bool}{l1 l2:Addr}{xs ys:Array Value}{Q:Value->ae->Prop}(jR:fP b1 s.heap l1 xs)(m6:fP b2 s.heap l2 ys) (q:∀g,Zp b1 b2 g (s.heap.objs.size+4) (s.heap.objs.size+2) (s.heap.objs.size+3) s.heap.objs.size (s.heap.objs.size+1) l1 l2 .none 0->(∀c o,s.heap.get? c=some o->g.get? c=some o)->Q (.ref (s.heap.objs.size+4)) {s with heap:=g}): wpAny (model prog w) A (call (.type "zip") [.ref l1,.ref l2]) Q E s:=by
 refine callType_new PySem.F.called_zip az (PySem.F.typeCall_zip_2 _ _) (PySem.F.newCall_zip_2 _ _) (λobj=>PySem.F.args_object_init_3 obj _ _) PySem.F.entry_zip_new (PM b1 b2 l1 l2 xs ys) ⟨jR,m6,?_⟩;have z1:(xB b1 s.heap l1).objs.size=s.heap.objs.size+1:=mI ..;have z2:(xA b1 b2 s.heap l1 l2).objs.size=s.heap.objs.size+2:=by rw[mI,z1]
 have z3:(xy b1 b2 s.heap l1 l2).objs.size=s.heap.objs.size+3:=by rw[mI,z2]
 have z4:(xx b1 b2 s.heap l1 l2).objs.size=s.heap.objs.size+4:=by rw[mI,z3]
 have g5:(rQ b1 b2 s.heap l1 l2).get? (xx b1 b2 s.heap l1 l2).objs.size=some _:=dw _ rfl;have g4:(rQ b1 b2 s.heap l1 l2).get? (xy b1 b2 s.heap l1 l2).objs.size=some _:=bK _ (dw _ Z);have g3:(rQ b1 b2 s.heap l1 l2).get? (xA b1 b2 s.heap l1 l2).objs.size=some _:=bK _ (bK _ (dw _ Z));have g2:(rQ b1 b2 s.heap l1 l2).get? (xB b1 s.heap l1).objs.size=some _:=bK _ (bK _ (bK _ (dw _ Z)));have g1:(rQ b1 b2 s.heap l1 l2).get? s.heap.objs.size=some _:=bK _ (bK _ (bK _ (bK _ (dw _ Z))));show _/\_;rw[z2,z3,z4]at g5;rw[z1,z2]at g3;rw[z3]at g4;rw[z1]at g2;rw[z4];refine⟨⟨_,g5,Z⟩,q _ ⟨g5,g3,⟨_,_,g4⟩,?_,?_⟩ λc o e=>bK _ (bK _ (bK _ (bK _ (bK _ e))))⟩
 ·cases b1<;>exact⟨_,g1,rfl,rfl⟩
 ·cases b2<;>exact⟨_,g2,rfl,rfl⟩
end
section
variable {X:Cx}{ak:List (Addr×Obj)}{O:St}{H:Hp}{s:ae}{h':Heap}
theorem Inv.uB{t':Nat}{fp:List Addr}(I:Inv X ak O H s)(k:∀b o,b∉fp->s.heap.get? b=some o->h'.get? b=some o)(hf:∀b∈fp,gG X ak H b):Inv X ak O H {s with heap:=h',toks:=t'}:=by
 have vj:∀b u,H b=some u->b∉fp:=λb u e z=>by rw[(hf b z).1]at e;cases e
 have hL:X.env.locals∉fp:=λz=>(hf _ z).2.1 rfl;refine I.step (g':=s.gens) (d':=s.drawn) (ch:=fp) (λb hb=>?_) (λb o _ _ hc e _=>k b o hc e) (λb o _ _ hc e _=>⟨o.slots,k b o hc e⟩) (λ_ _ _ _ n=>n) (λb o hc e=>⟨o,k b o hc e⟩) (λ_ _ e=>e) (λ_ _ _ e=>e) (λb ps e=>⟨#[],by rw[e];simp⟩) (λm hm=>?_) (λb u e=>?_) I.bare
 ·obtain⟨f0,f1,f2,f3,f4,f5⟩:=hf b hb
  exact⟨f3,f1,f4,f5⟩
 ·obtain⟨o,es,ep,ho,r⟩:=hm
  exact⟨o,es,ep,k _ o hL ho,r⟩
 ·refine(I.aU b u e).jD (λc v hc q=>k c v ?_ q) (λ_ q=>q) λ_ _ q=>q
  rcases hc with z|z
  ·rw[z];exact vj b u e
  ·exact vj c _ z
end
def dZ(b:Bool)(K:aa)(H:Hp)(a:Addr)(xs:List V):Prop:=match b with|true=>aK K H a xs|false=>aQ K H a xs
theorem dZ.get{X:Cx}{ak:List (Addr×Obj)}{O:St}{H:Hp}{s:ae}{b:Bool}{a:Addr}{xs:List V}(I:Inv X ak O H s)(h:dZ b X.K H a xs):∃its:List Value,Vals xs its/\fP b s.heap a its.toArray:=by
 cases b
 ·obtain⟨its,r,p,_⟩:=I.tuple h;exact⟨its,r,p⟩
 ·obtain⟨its,r,p,_⟩:=I.list h;exact⟨its,r,p.isList⟩
theorem dZ.inj{X:Cx}{ak:List (Addr×Obj)}{O:St}{H:Hp}{s:ae}{b:Bool}{a:Addr}{xs ys:List V}(I:Inv X ak O H s)(h:dZ b X.K H a xs)(g:dZ b X.K H a ys):xs=ys:=by
 cases b
 ·exact I.Hn h g
 ·exact I.LY h g
def rn(K:aa)(b1 b2:Bool)(l1 l2:Addr):It:=⟨λi H=>∃xs ys x y,dZ b1 K H l1 xs/\dZ b2 K H l2 ys/\xs[i]? =some x/\ys[i]? =some y,λi H v H'=>∃T x y,v= .ref T/\(∀xs,dZ b1 K H l1 xs->xs[i]? =some x)/\(∀ys,dZ b2 K H l2 ys->ys[i]? =some y)/\Nw H H' T (.tup [x,y]),λi H=>∃xs ys,dZ b1 K H l1 xs/\dZ b2 K H l2 ys/\(xs.length<=i\/ys.length<=i)⟩
theorem Qp{P:af}{w:World}{K:aa}{elts:List Expr}{kt:Nat}{pos:Pos}{b1 b2:Bool}{z TI TO i1 i2 l1 l2:Addr}(D:ZipApart z TI TO i1 i2 l1 l2): Turn P w K (.Tuple elts kt pos) (rn K b1 b2 l1 l2) [z,TI,TO,i1,i2] z (λi h=>Zp b1 b2 h z TI TO i1 i2 l1 l2 .none i) where
 mem:=by simp
 obj:=λi h st b hb=>by
  obtain⟨hz,jT,⟨a,c,kO⟩,h1,h2⟩:=st;simp only[bZ,dX,gs]at hb;rcases hb with rfl|rfl|rfl|rfl|rfl
  ·exact⟨_,hz,λv e=>by cases e⟩
  ·exact⟨_,jT,λv e=>by cases e⟩
  ·exact⟨_,kO,λv e=>by cases e⟩
  ·obtain⟨o,e,_,n⟩:=h1.ob;exact⟨o,e,n⟩
  ·obtain⟨o,e,_,n⟩:=h2.ob;exact⟨o,e,n⟩
 keep:=λi h h' st k=>by obtain⟨hz,jT,⟨a,c,kO⟩,h1,h2⟩:=st;exact⟨k z (by simp) _ hz,k TI (by simp) _ jT,⟨a,c,k TO (by simp) _ kO⟩,h1.to λo e=>k i1 (by simp) o e,h2.to λo e=>k i2 (by simp) o e⟩
 item:=by
  intro X hP hw hK hc i ak s O H E I hf st hg;subst hP hw hK;obtain⟨xs,ys,x,y,q1,q2,e1,e2⟩:=hg;obtain⟨DV,r1,p1⟩:=q1.get I;obtain⟨jo,r2,p2⟩:=q2.get I;obtain⟨u1,E6,kg⟩:=r1.get e1;obtain⟨u2,Z7,uS⟩:=r2.get e2;have hT:s.TypeIs (.ref z) "zip":=⟨_,st.zz,Z⟩;unfold pyNext;refine aB (A7 (uc (name:=Str.ofString "__next__") hT GC (ub GC hT PySem.F.entry_zip_next (PN D st p1 p2 (x:=u1) (y:=u2) (by simpa using E6) (by simpa using Z7) λg zg tg kp=>bA ?_) (PySem.F.args_zip_next_1 _))));refine⟨_,Z,?_⟩;refine wpAny_letOwnedTupleGo_zip zg.zz λg' PL sb=>?_;have hs:=sb.extBut;have Ap:z<s.heap.objs.size:=bP st.zz;have nw:Nw H (upd H s.heap.objs.size (.tup [x,y])) s.heap.objs.size (.tup [x,y]):=.of (I.aU.fresh (bB _));have I1:Inv X ak O (upd H s.heap.objs.size (.tup [x,y])) {s with heap:=s.heap.push {cls:=.type "tuple",data:=.seq #[u1,u2]}}:=I.laid (t':=s.toks) (λb ob q=>bK _ q) (bB _) ⟨by show 2<=sizeLine;decide,[u1,u2],.cons kg (.cons uS .nil),⟨_,dw _ Z,Z,_,Z⟩⟩;have DK:∀b∈[z,TI,TO,i1,i2],b<s.heap.objs.size:=λb hb=>by
   simp only[bZ,dX,gs]at hb;obtain⟨hz,jT,⟨a,c,kO⟩,h1,h2⟩:=st;rcases hb with rfl|rfl|rfl|rfl|rfl
   ·exact bP hz
   ·exact bP jT
   ·exact bP kO
   ·obtain⟨o,e,_⟩:=h1.ob;exact bP e
   ·obtain⟨o,e,_⟩:=h2.ob;exact bP e
  have hn:∀b∈[z,TI,TO,i1,i2],upd H s.heap.objs.size (.tup [x,y]) b=none:=λb hb=>by rw[aL (dg (DK b hb))];exact(hf b hb).1
  have I2:Inv X ak O (upd H s.heap.objs.size (.tup [x,y])) {s with heap:=g'}:=Inv.uB (s:={s with heap:=s.heap.push {cls:=.type "tuple",data:=.seq #[u1,u2]}}) (t':=s.toks) (fp:=[z,TI,TO,i1,i2]) I1 (λb o hb e=>by
   have e:(s.heap.push {cls:=.type "tuple",data:=.seq #[u1,u2]}).get? b=some o:=e;have nz:b≠z:=λq=>hb (by simp[q]);rcases PH e with⟨Eu,rfl⟩|e'
   ·subst Eu
    exact hs _ _ nz tg
   ·exact hs _ _ nz (kp b o nz (λq=>hb (by simp[q])) (λq=>hb (by simp[q])) (λq=>hb (by simp[q])) e')) (λb hb=>by obtain⟨f0,f1,f2,f3,f4,f5⟩:=hf b hb;exact⟨hn b hb,f1,f2,f3,f4,f5⟩);refine⟨.ref s.heap.objs.size,_,I2,Z,⟨s.heap.objs.size,x,y,Z,λzs hz=>?_,λzs hz=>?_,nw⟩,?_,hn⟩
  ·rw[dZ.inj I hz q1];exact e1
  ·rw[dZ.inj I hz q2];exact e2
  ·obtain⟨_,jT,⟨a,c,kO⟩,h1,h2⟩:=zg
   exact⟨PL,hs _ _ D.TIz jT,⟨a,c,hs _ _ D.TOz kO⟩,h1.to λo e=>hs _ o D.i1z e,h2.to λo e=>hs _ o D.i2z e⟩
 done:=by intro X hP hw hK hc i ak s O H E I hf st hg;subst hP hw hK;obtain⟨xs,ys,q1,q2,nK⟩:=hg;obtain⟨DV,r1,p1⟩:=q1.get I;obtain⟨jo,r2,p2⟩:=q2.get I;have hT:s.TypeIs (.ref z) "zip":=⟨_,st.zz,Z⟩;have l1:=r1.length;have l2:=r2.length;unfold pyNext;refine aB (A7 (uc (name:=Str.ofString "__next__") hT GC (ub GC hT PySem.F.entry_zip_next (PQ (I.ok.hd hc) D st p1 p2 (nK.imp (λh=>by simp;lia) λh=>by simp;lia) λg e kp he=>?_) (PySem.F.args_zip_next_1 _))));obtain⟨o,ho,tK⟩:=he;refine aB (wpAny_isInstance (T:="StopIteration") (b:=true) ⟨o,ho,tK⟩ isSubtype_stop (bA ⟨Z,?_⟩));exact I.uB (t':=s.toks) (fp:=[z,TI,TO,i1,i2]) (λb o hb e=>kp b o (λq=>hb (by simp[q])) (λq=>hb (by simp[q])) (λq=>hb (by simp[q])) (λq=>hb (by simp[q])) e) hf
 self:=λ_ _ _ _ _ st h=>wpAny_pyIter_zip st.zz h
inductive a73(K:aa)(b1:Bool)(b2:Bool)(R:It->Hp->Prop)(vs:List V)(H1:Hp):Prop |mk (l1:_)(l2:_)(h0:vs=[.ref l1,.ref l2])(h1:(∃xs,dZ b1 K H1 l1 xs))(h2:(∃ys,dZ b2 K H1 l2 ys))(h3:R (rn K b1 b2 l1 l2) H1)
def YU(K:aa)(b1 b2:Bool)(ta:TA):TI:=λO H R=>ta O H λvs H1=>a73 K b1 b2 R vs H1
theorem sO(K:aa){X:Cx}(hK:X.K=K)(b1 b2:Bool){elts:List Expr}{kt:Nat}{mL:Pos}{a b:Expr}{ta:TA}{p pos:Pos}(hg:Gl X "zip")(hm:X.mg "zip"=none)(ha:PA X [a,b] ta)(hs:autoParam (starEach [a,b] X.env=[(false,eval a X.env),(false,eval b X.env)]) r8_._auto_1)(jb:autoParam (starEach [b] X.env=[(false,eval b X.env)]) r8_._auto_1): PI X (.Tuple elts kt mL) (.Call (.Name "zip" p) [a,b] [] pos) (YU K b1 b2 ta):=by
 subst hK;intro ak s O H R I h;refine Call_ (ng I hg hm PyProof.Rows.boot_zip (uj (aR (ha pos ak s O H _ I h) λus s1 ⟨vs,H1,I1,r1,q1⟩=>?_) (by rw[hs,jb]) (by rw[jb];rfl)));obtain⟨l1,l2,e,⟨xs,h1⟩,⟨ys,h2⟩,q⟩:=q1;subst e;obtain⟨u1,u2,rfl,kg,uS⟩:=vals2 r1;cases(show u1=Value.ref l1 from kg);cases(show u2=Value.ref l2 from uS);obtain⟨DV,v1,p1⟩:=h1.get I1;obtain⟨jo,v2,p2⟩:=h2.get I1;have a1:l1<s1.heap.objs.size:=by cases b1<;>(obtain⟨o,e,_⟩:=p1;exact bP e)
 have a2:l2<s1.heap.objs.size:=by cases b2<;>(obtain⟨o,e,_⟩:=p2;exact bP e)
 refine PR p1 p2 λg zg kp=>wpAny_pyIter_zip zg.zz ?_;refine⟨_,_,_,_,H1,Z,I1.kept (t':=s1.toks) kp,Qp (zipApart_new a1 a2),zg,λc hc=>?_,q⟩;have hle:s1.heap.objs.size<=c:=by simp only[bZ,dX,gs]at hc;rcases hc with rfl|rfl|rfl|rfl|rfl<;>first|exact bB _|exact Nat.le_add_right _ _
 exact I1.nO hle (I1.aU.fresh hle)
theorem dZ.go{b:Bool}{K:aa}{H H':Hp}{a:Addr}{xs:List V}(s:aA H H')(h:dZ b K H a xs):dZ b K H' a xs:=by
 cases b
 ·exact aQ.go s h
 ·exact aK.go s h
theorem a43{K:aa}{b1 b2:Bool}{l1 l2:Addr}{xs ys:List V}{bs:List Bool}{te:TE}{Q:VK}{D:Addr}{H H0:Hp}{n:Nat}(rest:St)(hn:n=2)(h1:dZ b1 K H l1 xs)(h2:dZ b2 K H l2 ys)(nw:Nw H H0 D (.lst [])) (hl:min xs.length ys.length=bs.length)(hz:bs.length<=1000) (hs:∀(i:Nat)(x y:V)(b:Bool)(H2:Hp)(Q':VK),xs[i]? =some x->ys[i]? =some y->bs[i]? =some b->aA H H2->(∀H3,aA H2 H3->Q' (.bl b) H3)->te (some x::some y::rest) H2 Q') (hq:∀H',aA H H'->H' D=some (.lst (bs.map V.bl))->Q (.ref D) H'):jy (rn K b1 b2 l1 l2) (zq K n (vT (gj 0) (vT (gj 1) EX))) jk te Q D (none::none::rest) H0:=by
 subst hn;have hD:=nw.no;refine qU bs.length (λi O H2=>aA H H2/\H2 D=some (.lst ((bs.take i).map V.bl))/\∃v v',O=v::v'::rest) ?_ ?_ ?_
 ·exact⟨nw.same,nw.at',none,none,Z⟩
 ·rintro i O H2 hi ⟨s2,d2,v,v',rfl⟩
  have hx:i<xs.length:=by lia
  have hy:i<ys.length:=by lia
  have ex:=cI hx;have ey:=cI hy;have eb:=cI hi;refine⟨⟨xs,ys,_,_,h1.go s2,h2.go s2,ex,ey⟩,λy' H3 qJ=>?_⟩;obtain⟨T,x0,y0,rfl,k1,k2,n3⟩:=qJ;have e1:=k1 _ (h1.go s2);have e2:=k2 _ (h2.go s2);rw[ex]at e1;rw[ey]at e2;cases e1;cases e2;refine⟨T,_,Z,aQ.of n3.at',Z,_,_,Z,_,_,Z,Z,?_⟩;refine yes (ba ?_);refine hs i _ _ _ _ _ ex ey eb (s2.trans n3.same) λH4 s4=>?_;refine⟨_,s4 _ _ (n3.same _ _ d2),?_,bs.length-(i+1),aw,Z,aw,λb o e=>?_,?_,_,_,Z⟩
  ·rw[bR,rP]
   have:(1000:Nat)<sizeLine:=by decide
   lia
  ·rw[aL (eH e hD)];exact s4 b o (n3.same b o (s2 b o e))
  ·rw[bp,uo,eb,lA];rfl
 ·rintro O H2 ⟨s2,d2,v,v',rfl⟩
  refine⟨⟨xs,ys,h1.go s2,h2.go s2,aw⟩,hq H2 s2 ?_⟩;rw[d2,Ag]
theorem eQ.there{P:af}{w:World}{H:Hp}{h:Heap}{a:Addr}{o:HO}(x:eQ P w H h a o):∃ob,h.get? a=some ob:=by induction o with |lst xs=>obtain⟨_,_,_,_,e⟩:=x;exact⟨_,e⟩ |tup xs=>obtain⟨_,_,_,ob,e,_⟩:=x;exact⟨ob,e⟩ |dK dj=>obtain⟨_,_,_,_,ob,_,_,e,_⟩:=x;exact⟨ob,e⟩ |dT dj=>obtain⟨_,_,_,_,ob,_,_,e,_⟩:=x;exact⟨ob,e⟩ |set S n=>obtain⟨ob,_,_,_,e,_⟩:=x;exact⟨ob,e⟩ |ins C dx fs=>obtain⟨_,_,_,e,_⟩:=x;exact⟨_,e⟩ |own y=>exact x |xd fs=>obtain⟨_,⟨ob,_,_,e,_⟩,_⟩:=x;exact⟨ob,e⟩ |qf lo hi=>obtain⟨_,_,_,e⟩:=x;exact⟨_,e⟩ |kT ob u=>exact⟨_,x.1⟩ |mM ps=>exact⟨_,x⟩ |met f y=>exact⟨_,x⟩ |ext φ=>exact x.2.1
structure Fl(P:af)(w:World)(outer:List Env)(H:Hp)(h₁:Heap)(ex:Addr)(H':Hp)(B h:Heap):Prop where
 un:Un (cS outer) [] H H' h₁ h
 aU:dv P w H' h
 k1:∀b o,h₁.get? b=some o->H b=none->b∉cS outer->B.get? b=some o
 k2:∀b o,H' b=some o->∃ob,B.get? b=some ob
 k3:∀b o,h₁.get? b=some o->b∉cS outer->∃ob,B.get? b=some ob
 fr:∀b∈cS outer,H' b=none
 nw:h₁.get? ex=none
 ne:H' ex=none
theorem Fl.step{P:af}{w:World}{outer:List Env}{H H':Hp}{h₁ B h h':Heap}{ex:Addr}{au:Heap}(F:Fl P w outer H h₁ ex H' B h)(st:B.StaysIn h)(gz:B.StaysIn h')(up:h.UpToSlots h')(ff:h.FunFrames au outer):Fl P w outer H h₁ ex H' B h':=by
 have slot:∀b o,h₁.get? b=some o->H b=none->b∈cS outer->∃sl,h'.get? b=some {o with slots:=sl}:=λb o e n hb=>by obtain⟨sl,e1⟩:=F.un.slot b o e n hb (by simp);obtain⟨_,o2,e2,hd⟩:=ff.mem hb;rw[e1]at e2;cases e2;obtain⟨AX,e3⟩:=up b _ e1 (λvs=>hd vs);exact⟨AX,e3⟩
 refine⟨⟨λb o e n hb _=>gz b o (F.k1 b o e n hb),λb o e n hb _=>slot b o e n hb,F.un.free,λb o e hx=>?_,F.un.gZ,F.un.gX,F.un.hU⟩,λb u e=>?_,F.k1,F.k2,F.k3,F.fr,F.nw,F.ne⟩
 ·by_cases hb:b∈cS outer
  ·obtain⟨_,o2,e2,hd⟩:=ff.mem hb
   obtain⟨sl,e3⟩:=up b o2 e2 hd;exact⟨_,e3⟩
  ·obtain⟨ob,e1⟩:=F.k3 b o e hb
   exact⟨ob,gz b ob e1⟩
 ·refine(F.aU b u e).jD (λc v hc q=>?_) (λ_ q=>q) λ_ _ q=>q
  have YR:∃ob,B.get? c=some ob:=by
   rcases hc with z|z
   ·rw[z];exact F.k2 b u e
   ·exact F.k2 c _ z
  obtain⟨ob,e1⟩:=YR;have e2:=st c ob e1;rw[q]at e2;cases e2;exact gz c _ e1
section
variable {P:af}{w:World}{K:aa}{mg:bc}{au:Heap}{N:List Str}{qual:Str}{scope:Scope}{f:Addr}{cd:Value}{A:ai}{outer:List Env}{s:ae}{H:Hp}{E:XK}{ak:List (Addr×Obj)}{O:St}{H1:Hp}{s1:ae}{h2:Heap}{ex:Addr}{cls:Value}{vs:List Value}
end
structure Exc(K:aa)(mg:bc)(x:Str)(C:Addr)(dJ:List Value)(newId:String):Prop where
 at':mg x=some (.ref C)
 ok:PySem.W.excIn K C dJ newId=true
theorem Exc.own{K:aa}{mg:bc}{x:Str}{C:Addr}{dJ:List Value}{newId:String}{h:Heap}(e:Exc K mg x C dJ newId)(X:K.In h):OwnCls x C dJ newId mg h:=by
 refine⟨e.at',?_⟩;have q:=e.ok;unfold PySem.W.excIn at q;split at q
 ·rename_i dd cd sl ho
  split at q
  ·rename_i D2 bl a0 a1 a2 a3 nn a5 hm hs
   simp only[cP,cZ,Ha]at q;obtain⟨⟨⟨⟨⟨r1,r2⟩,vK⟩,ht⟩,aU⟩,qM⟩:=q;subst r1 r2;obtain⟨c1,c2,c3,c4,c5,c6,c7,c8,c9,c10,c11⟩:=cd;dsimp only at hm vK aU qM;subst hm vK;obtain⟨l⟩:=sl;simp only at hs;subst hs;exact⟨bl,c4,c1,c5,c2,c6,c7,c8,c9,c10,dd,a0,a1,a2,a3,a5,_,X _ _ ho,.of_isNs (PySem.W.isNs_of_in X aU),PySem.W.nsMap_none_of_in X aU qM,PySem.W.tail_of_in X ht⟩
  ·cases q
 ·cases q
section
variable {X:Cx}{x:Str}{C:Addr}{dJ:List Value}{newId oQ B:String}{e:Expr}{t:TA}{np cw pos:Pos}
def QM(E:XK)(cls:Value)(t:TA):TS:=λ_ O H=>t O H λvs H1=>vs.length<=sizeLine/\E cls none H1
theorem jF{E:XK}(hx:∀ak O H s h2 ex vs,Inv X ak O H s->Heap.MadeExcOf s.heap h2 ex (.ref C) vs->E (.ref C) none H->X.xe (.ref ex) {s with heap:=h2})(EC:Exc X.K X.mg x C dJ newId)(FB:ExcBaseFacts B newId oQ dJ)(hh:X.A.handled=none)(hg:Gl X x)(ha:PA X [e] t) (he:autoParam (starEach [e] X.env=[(false,eval e X.env)]) r8_._auto_1)(hd:autoParam ((x==("__debug__":Str))=false) q8_._auto_1): PS X (.Raise (some (.Call (.Name x np) [e] [] cw)) none pos) (QM E (.ref C) t):=by intro ak s O H D I h;obtain⟨tl,Nn,nm,q,bs,hdct,sn,sub,ab,col,dd,k0,k1,k2,k3,k5,mN,hC,hN,qM,T⟩:=(EC.own I.ok.mod.jN).obj;refine wpAny_Raise_call_subT (C:=C) (nm:=nm) (q:=q) (N:=Nn) (bs:=bs) (bm:=tl) (hdct:=hdct) (sn:=sn) (sub:=sub) (ab:=ab) (col:=col) (dd:=dd) (k0:=k0) (k1:=k1) (k2:=k2) (k3:=k3) (k5:=k5) FB (mN:=mN) (T.hasType FB.hasBase) hh (by rw[he];rfl) qM (lW I hg EC.at' ⟨Z,?_⟩ hd);have hA:=ha cw ak s O H _ I h;rw[he]at hA⊢;refine GZ (aR hA λus s2 ⟨vs,H1,I1,r1,z,w1⟩=>⟨Z,by rw[<-r1.length];exact z,I1.bk _ _ hC,hN.keeps I1.bk,T.keeps I1.bk,λh' ex hm=>hx ak O H1 s2 h' ex us I1 hm w1⟩)
end
section
variable {M:Model}{A:ai}{Ex:Value->ae->Prop}
theorem a3h{h:Heap}{g:Array GenState}{d:Drawn}{tk:Nat}{os:OsState}{e:Addr}{oe:Obj}{Q:Bool->ae->Prop}{C D N N':Addr}{nm Lr q q':Str}{bs Of bm FU:List Value}{hdct MJ:Bool}{sn IL:List Str}{sub HH:List Value}{ab OE:Bool}{col O7:Option Bool}{dd NZ:Option Addr}{k0 k1 k2 k3 k5 j0 j1 j2 j3 j5:Option Value}{newId X2:String} (hC:h.get? C=some (excClassObj nm q C N bs bm hdct sn sub ab col dd k0 k1 k2 k3 k5 newId))(hD:h.get? D=some (excClassObj Lr q' D N' Of FU MJ IL HH OE O7 NZ j0 j1 j2 j3 j5 X2)) (he:h.get? e=some oe)(vL:oe.cls= .ref C)(hb:FU.contains (.type "BaseException")=true)(hs:(Value.ref C::bm).contains (.ref D)=true) (hq:Q true ⟨h,g,d,tk,os⟩):wpAny M A (excMatches (.ref e) (.ref D)) Q Ex ⟨h,g,d,tk,os⟩:=by
 have hcB:(Value.ref D::FU).contains (.type "BaseException")=true:=by rw[PB,hb,Bool.or_true]
 have f:=tc_notTuple;unfold excMatches
 repeat (first|(with_reducible refine rE he ?_;rw[vL])|with_reducible refine rE hD ?_|(with_reducible refine Gw hD ?_;rw[hcB])|(with_reducible refine Gw hC ?_;rw[hs])|with_reducible refine rE hC ?_|wp_step)
 exact hq
end
section
variable {X:Cx}{k:Nat}{x:Str}{p pos:Pos}{e:Expr}{es:List Expr}{t:TA}{sp:Sp}
end
abbrev Cx.hand(X:Cx)(ex:Addr):Cx:={X with A:=X.A.mark (some (.ref ex)),calm:=false,xe:=λ_ _=>False}
section
variable {X:Cx}{ak:List (Addr×Obj)}{O:St}{H:Hp}{s:ae}
theorem Inv.hand(I:Inv X ak O H s)(ex:Addr):Inv (X.hand ex) ak O H s:=⟨⟨I.ok.mod,I.ok.kind,I.ok.glob,I.ok.blt,I.ok.above,I.ok.inj,I.ok.has,I.ok.pG,λh=>(cJ h).elim,I.ok.frames,I.ok.pX,I.ok.vY,I.ok.bs,I.ok.jv,I.ok.oJ,I.ok.mi,I.ok.iq,I.ok.kU⟩,I.os,I.bare,I.au,I.loc,I.cell,I.free,I.iL,I.pin,I.aU,I.len⟩
theorem Inv.back{ex:Addr}(ok:X.Ok)(I:Inv (X.hand ex) ak O H s):Inv X ak O H s:=⟨ok,I.os,I.bare,I.au,I.loc,I.cell,I.free,I.iL,I.pin,I.aU,I.len⟩
theorem Qk{M:Model}{A:ai}{E:Value->ae->Prop}{i:Nat}{x:Str}{v:V}{pos:Pos}{Q:Unit->ae->Prop}(I:Inv X ak O H s)(hN:X.N.Nodup)(hi:X.N[i]? =some x)(hk:X.env.kindOf x=some .local)(hs:X.env.scope.names.lookup x=some .local) (hv:O[i]? =some (some v))(h:∀s',Inv X ak (O.set i none) H s'->Q () s'):wpAny M A (unbindBehindTheSuite X.env x pos) Q E s:=by
 obtain⟨m,hn,hl⟩:=id I.loc;have vL:(X.env.scope.kind== .class||(X.env.scope.kind== .module&&X.env.locals !=X.env.globals))=false:=by rw[I.ok.kind];rfl
 have ze:i<O.length:=by rw[I.len];exact(eY.mp hi).1
 have kY:=I.kY;obtain⟨u,r,look⟩:=hl i x v hi hv (.inl hs);have hm:m x=some u:=by
  rcases look with⟨_,e⟩|⟨k,_⟩
  ·exact e
  ·rcases k with k|k<;>(rw[hk]at k;cases k)
 unfold unbindBehindTheSuite;refine A5 (wpAny_unbindName_local hk hn hm vL λh' u' Eh kJ=>?_);obtain⟨oL,_,_,Mx,_⟩:=id hn;have tr:dv X.prog X.w H h':=λb ob e=>by
  refine(I.aU b ob e).jD (λc w' hc q=>(kJ.2 c ?_).trans q) (λ_ q=>q) λ_ _ q=>q;rintro rfl;rcases hc with rfl|hc
  ·rw[I.free]at e;cases e
  ·rw[I.free]at hc;cases hc
 have lt:∀b o,X.s₀.heap.get? b=some o->b≠X.env.locals:=λb o e=>dg (fK (bP e) I.ok.above);refine h _ ⟨I.ok,I.os,I.bare,⟨λb o e n hb hx=>(kJ.2 b (lt b o e)).trans (I.au.keep b o e n hb hx),λb o e n hb hx=>?_,I.au.free,λb o e hx=>?_,I.au.gZ,I.au.gX,I.au.hU⟩,⟨_,Eh,λj y v' e1 e2 e3=>?_⟩,λy c e=>?_,I.free,I.iL,λp hp=>?_,tr,by simpa using I.len⟩
 ·obtain⟨sl,e1⟩:=I.au.slot b o e n hb hx
  exact⟨sl,(kJ.2 b (lt b o e)).trans e1⟩
 ·obtain⟨o',e1⟩:=I.au.there b o e hx
  exact⟨o',(kJ.2 b (lt b o e)).trans e1⟩
 ·by_cases hj:j=i
  ·subst hj
   rw[GS ze]at e2;cases e2
  ·rw[Pu (iR hj)]at e2
   obtain⟨u2,r2,q⟩:=hl j y v' e1 e2 e3;refine⟨u2,r2,?_⟩;rcases q with⟨k,e⟩|⟨k,c,e,z⟩
   ·have:y≠x:=λe=>hj (Dt hN e1 (e▸hi))
    exact .inl ⟨k,by simp[this,e]⟩
   ·exact .inr ⟨k,c,e,z.sameBut kJ (kY y c e)⟩
 ·obtain⟨w',z⟩:=I.cell y c e
  exact⟨w',z.sameBut kJ (kY y c e)⟩
 ·obtain⟨e,n,ne,nf,d⟩:=I.pin p hp
  exact⟨(kJ.2 p.1 ne).trans e,n,ne,nf,d⟩
end
def wD(X:Cx)(st:List Stmt)(t:TS):Prop:=∀(s:ae)(O:St)(H:Hp)(D:Ends),Inv X [] O H s->t D O H->wpAny (model X.prog X.w) X.A (execs st X.env) (SP X [] D) X.xe s
def OK(X:Cx)(st:Stmt)(t:TS):Prop:=∀(s:ae)(O:St)(H:Hp)(D:Ends),Inv X [] O H s->t D O H->wpAny (model X.prog X.w) X.A (exec st X.env) (SP X [] D) X.xe s
theorem Inv.a4z{X:Cx}{ak:List (Addr×Obj)}{O:St}{H:Hp}{s:ae}(I:Inv X ak O H s):Inv X [] O H s:=⟨I.ok,I.os,I.bare,I.au,I.loc,I.cell,I.free,I.iL,λp hp=>I.pin p (GO _ (by simpa using hp)),I.aU,I.len⟩
theorem a26{CX:iP}{P:af}{w:World}{K:aa}{mg:bc}{au:Heap}{k:Nat}{f:Addr}{name qual:Str}{params:Arguments}{body:List Stmt}{scope:Scope}{dV kV doc pm aE ct oc:Value}{an od:Option Addr} {eG:Array (Option Value)}{N ps:List Str}{sp:Sp}(lk:K.lookup f=some ⟨oc,od,.func (PySem.W.fnOf name qual params body scope dV kV doc pm an aE ct),eG⟩)(dY:PySem.W.codeIn K aE qual=true)(S:bj N ps scope) (len:∀vs H Q E,sp vs H Q E->vs.length=ps.length) (fg:∀(A:ai)(outer:List Env)(s:ae)(H:Hp)(vs:List V)(Q:VK)(E:XK),bV k (A.deeper (envOfC qual scope s.heap.objs.size f aE))->sp vs H Q E->∃t,wD (eW CX P w K mg au N qual scope f aE A outer s H E) body t/\t {nx:=λ_ H'=>Q .aY H',rt:=Q} (start N vs) H): dS P w K mg au CX (k+1) f (PySem.W.fnOf name qual params body scope dV kV doc pm an aE ct) ps sp:=by
 refine⟨len,λA outer s H args us vs Q E hr e0 hb r fq=>?_⟩;have hl:=len _ _ _ _ fq;have KX:K.In s.heap:=e0.mod.jN.keeps λb o e=>(e0.bs b o e).1;have lim:s.heap.NoLimit:=e0.mod.nolimit.keeps λb o e=>(e0.bs b o e).1;have jd:∀y∈ps.zip us,scope.names.lookup y.1=some .local\/(scope.names.lookup y.1=some .cell/\((cellsFrom (s.heap.objs.size+1) scope.names []).lookup y.1).isSome=true):=λ⟨n,v⟩ hy=>by
  rcases S.par n (uq hy).1 with q|q
  ·exact .inl q
  ·exact .inr ⟨q,GB _ _ _ (.inl q)⟩
 refine P8 hr.depth (KX _ _ lk) Z S.co S.gen Z (Pj KX dY) (hb _ _ _ _ ?_);refine P0 S.kind jd λenv he s1 x=>?_;subst he;refine⟨lim.keeps x.toInCall.keep,codeAny_func ?_⟩;obtain⟨t,ht,hq⟩:=fg A outer s H vs Q E (hr.deeper _) fq;have I:Inv (eW CX P w K mg au N qual scope f aE A outer s H E) [] (start N vs) H s1:=E1 S hr.hd e0 hl r x;refine gr (ht s1 (start N vs) H _ I hq) (λfl s' hs=>?_) λe s' hs=>hs;have fin:∀{σ':St}{H':Hp}{v:V}{u:Value},Inv (eW CX P w K mg au N qual scope f aE A outer s H E) [] σ' H' s'->RelV v u->Q v H'->CE outer P w H s Q u s':=λ{σ' H' v u} J rv q=>⟨v,H',J.os,J.bare,J.au,J.aU,rv,q⟩;cases fl with |ret u=>obtain⟨v,σ',H',J,rv,q⟩:=hs;exact fin J rv q |next=>obtain⟨σ',H',J,q⟩:=hs;exact fin (v:=V.aY) (u:=Value.none) J Z q |brk=>obtain⟨_,_,_,q⟩:=hs;exact False.elim q |cont=>obtain⟨_,_,_,q⟩:=hs;exact False.elim q
def ExcAt(ex:Addr)(cls:Value)(h:Heap):Prop:=∃o,h.get? ex=some o/\o.cls=cls
def takes(K:aa)(C D:Addr):Prop:=PySem.W.mroIn K C (.ref D)=some true
section
variable {X:Cx}{i:Nat}{n y:Str}{Dc:Addr}{wx:List Value}{newD:String}{body rX:List Stmt}{b0:Stmt}{np oT pos:Pos}{tb:XK->TS}{th:TS}{Cs:Addr->Prop}
end
end _L
namespace _L
open PySem PySem.Spec PyProof.Rows PySem.W Builtin.Getset_descriptor
section
variable {prog:af}{w:World}{A:ai}{E:Value->ae->Prop}{h:Heap}{g:Array GenState}{d:Drawn}{t:Nat}{os:OsState}{K:Frag}{x C:Addr}{o:Obj}
theorem Nm{M:Model}(h1:h.get? x=some o)(h2:o.cls= .ref C):Looks M h (typeOf (.ref x)) (.ref C):=h2▸(Looks.ld h1).andThen .now
structure my(K:Frag)(C:Addr):Prop where
 ga:findIn K (.ref C) "__getattribute__"=some (some (.builtin "BaseException.__getattribute__"))
 gx:findIn K (.ref C) "__getattr__"=some none
 cl:findIn K (.ref C) "__class__"=some (some (.builtin "object.__class__"))
 gt:specialIn K (.builtin "object.__class__") "__get__"=some (some (.builtin "getset_descriptor.__get__"))
 tk:takesIn K (.builtin "object.__class__")=some true
 ob:mroIn K C (.type "object")=some true
 be:mroIn K C (.type "BaseException")=some true
 is:hasDictIn K C=true
theorem Y7{M:Model}(X:K.In h)(k:my K C):Looks M h (Builtin.ObjectAttr.find (.ref x) (.ref C) "__class__") (.bind (.builtin "getset_descriptor.__get__") (.builtin "object.__class__")):=by have L1:=looks_findIn (M:=M) X k.cl;have _L:Looks M h (Builtin.ObjectAttr.getOf (some (.builtin "object.__class__"))) (some (.builtin "getset_descriptor.__get__")):=looks_specialIn X k.gt;have L3:=looks_takesIn (M:=M) X k.tk;unfold Builtin.ObjectAttr.find;refine L1.andThen (_L.andThen ?_);have L4:Looks M h (Builtin.ObjectAttr.dataDescriptor? (some (.builtin "object.__class__")) (some (.builtin "getset_descriptor.__get__"))) (some (.builtin "getset_descriptor.__get__",.builtin "object.__class__")):=L3.andThen .now;exact L4.andThen (Looks.tag .now)
theorem a1D{M:Model}{Ly:Value}{Q:Unit->ae->Prop}(X:K.In h)(k:my K C)(L0:Looks M h (typeOf (.ref x)) (.ref C))(hq:Q () ⟨h,g,d,t,os⟩): wpAny M A (checkBuiltinCall "BaseException.__getattribute__" ⟨[.ref x,Ly],[]⟩) Q E ⟨h,g,d,t,os⟩:=by
 have hk:builtinKind "BaseException.__getattribute__"=some .slot:=by decide+kernel
 have fq:splitId "BaseException.__getattribute__"=some ("BaseException","__getattribute__"):=by decide+kernel
 have ha:=PySem.F.args_bexc_ga (.ref x) Ly;have L1:=looks_mroIn (M:=M) X k.be;simp only[checkBuiltinCall,hk,fq];refine aB ?_;unfold isInstance;refine aB (L0.at (L1.at ?_))
 repeat (first|assumption|wp_step)
theorem get_cls{R:Result->ae->Prop}{tp:Value}(X:K.In h)(k:my K C)(L0:Looks (model prog w) h (typeOf (.ref x)) (.ref C))(hq:R (.ok (.ret (.ref C))) ⟨h,g,d,t,os⟩): codeAny (model prog w) A (.call (.builtin "getset_descriptor.__get__") ⟨[.builtin "object.__class__",.ref x,tp],[]⟩) R ⟨h,g,d,t,os⟩:=by
 have L1:=looks_mroIn (M:=model prog w) X k.ob;refine Gx KF.slot_gs.plain KF.entry_gs (KF.slot_gs.check _ _ _ _ _ _ _ _ KF.type_class (KF.args_gs _ _ _) ?_);unfold Builtin.«getset_descriptor.__get__»descrGet;rw[dga_obj];refine aB (bA ?_);unfold descrGetter descrCheckInstance descrNameAndClass isInstance;simp only[KF.owner_class];repeat lk
 refine⟨Code.quiet_builtin _ aO,codeAny_builtin KF.entry_class ?_⟩;unfold Builtin.«object.__class__»shownTypeOf;repeat lk
 exact hq
theorem a1E{tk:Tok}{Q:Fin->ae->Prop}(X:K.In h)(k:my K C)(L0:Looks (model prog w) h (typeOf (.ref x)) (.ref C)) (hq:Q (.done (.ret (.ref C))) ⟨h,g,d,t,os⟩):wpAny (model prog w) A (Builtin.«object.__getattribute__» ⟨[.ref x,.str "__class__" tk],[]⟩) Q E ⟨h,g,d,t,os⟩:=by have L1:=Y7 (M:=model prog w) (x:=x) X k;refine aB (bA (aB (bA (aB (L0.at (aB (L1.at ?_)))))));show wpAny _ _ (Builtin.ObjectAttr.bindTo _ _ (.ref x) (.ref C)) _ _ _;unfold Builtin.ObjectAttr.bindTo;show wpAny _ _ (holding [_] (call (.builtin "getset_descriptor.__get__") [.builtin "object.__class__",.ref x,.ref C])>>=_) _ _ _;exact aB (gI (pO (get_cls X k L0 (bA hq))))
theorem a46{Q:Option Value->ae->Prop}(X:K.In h)(k:my K C)(L0:Looks (model prog w) h (typeOf (.ref x)) (.ref C)) (hq:Q (some (.ref C)) ⟨h,g,d,t+1,os⟩):wpAny (model prog w) A (getAttr? (.ref x) "__class__") Q E ⟨h,g,d,t,os⟩:=by
 have L1:=looks_findIn (M:=model prog w) X k.ga;have _L:=looks_findIn (M:=model prog w) X k.gx;have f3:=PySem.F.excAttr_ValueError.ga.bind (.ref x);have Z4:(Value.builtin "BaseException.__getattribute__"==Value.builtin "object.__getattribute__")=false:=by decide+kernel
 unfold getAttr? getAttrBy? getAttrBy;refine aB (wpAny_mkText (aB (A7 (gI (aB (L0.at (aB (L1.at ?_))))))));show wpAny _ _ (if(onTheHeap (Value.ref C)&&Value.builtin "BaseException.__getattribute__"==Value.builtin "object.__getattribute__")=true then _ else _) _ _ _;rw[Z4,Ao,bh az];unfold getAttrByItsOwn hookBefore;refine aB ?_;show wpAny _ _ (typeLookup (.ref C) "__getattr__") _ _ _;refine _L.at (aB (A7 (gI ?_)));unfold callGetattribute;show wpAny _ _ (boundAndCalled _ _ _) _ _ _;unfold boundAndCalled;rw[f3];refine aB (bA (pO ?_));refine Gx PySem.F.excAttr_ValueError.ga.plain PySem.F.entry_bexc_ga (a1D X k L0 (a1E X k L0 ?_));exact handed_on Z (bA hq)
theorem M8(k:my K C):KitX K (.ref x) (.ref C) (ExcAt x (.ref C)) where
 ty:=λM h _ p=>by obtain⟨o,h1,h2⟩:=p;exact Nm h1 h2
 it:=λ_ _ X _=>by
  obtain⟨cd,hc,_⟩:=any_some k.is;unfold clsIn at hc;split at hc
  ·rename_i c1 d1 cd1 sl1 ho
   intro A' Q' E' s' kk q;unfold isType loadHead;exact aB (Gv (kk _ _ (X _ _ ho)) (bA q))
  ·cases hc
 ne:=λh tp dd its n sl X Z8=>by
  obtain⟨cd,hc,_⟩:=any_some k.is;refine Am.mpr λq=>?_;have e:C=tp:=Value.ref.inj (cP.mp q);subst e;unfold clsIn at hc;split at hc
  ·rename_i c1 d1 cd1 sl1 ho
   cases(X _ _ ho).symm.trans Z8
  ·cases hc
 ca:=λ{prog w A E Q s} X p q=>by obtain⟨o,h1,h2⟩:=p;obtain⟨h0,g0,d0,t0,os0⟩:=s;exact a46 X k (Nm h1 h2) q
end
end _L
namespace _L
open PySem PySem.Spec PyProof.Rows
def a47:V->Option Value | .ref D=>some (.ref D) | .ty n=>some (.type n) |_=>none
theorem Hi:∀{Ds:List Addr}{us:List Value},Vals (Ds.map V.ref) us->us=Ds.map Value.ref |[],_,.nil=>rfl |n::r,_,.cons q t=>by cases(show _=Value.ref n from q);rw[Hi t];rfl
section
variable {X:Cx}
end
theorem a4r:bootBuiltins "ValueError"=some (.type "ValueError"):=by kernel_rfl
@[reducible]def cW:List Value:=[.type "ValueError",.type "Exception",.type "BaseException",.type "object"]
@[reducible]def dc:String:="ValueError.__new__"
theorem FA.a0r{P:af}{w:World}{K:aa}{mg:bc}{au:Heap}{x:Str}{st:Stmt}{N ps:List Str}{k:Nat}{sp:Sp}(F:FA K mg x st)(S:bj N ps (aP st))(len:∀vs H Q E,sp vs H Q E->vs.length=ps.length) (hb:∀(kV doc pm:Value)(an:Option Addr)(aE ct:Value)(us:List Value),us.length=ps.length->bindArgs (PySem.W.fnOf x x (iy st) (eA st) (aP st) .none kV doc pm an aE ct) ⟨us,[]⟩=pure (ps.zip us)) (fg:∀(f:Addr)(aE:Value)(A:ai)(outer:List Env)(s:ae)(H:Hp)(vs:List V)(Q:VK)(E:XK),bV k (A.deeper (envOfC x (aP st) s.heap.objs.size f aE))->sp vs H Q E->∃t,wD (eW eM P w K mg au N x (aP st) f aE A outer s H E) (eA st) t/\t {nx:=λ_ H'=>Q .aY H',rt:=Q} (start N vs) H):aG P w K mg au x (k+1) sp:=by obtain⟨f,fd,hm,F⟩:=F.ex;have vO:=F.binds hb;have kp:=F.kp;obtain⟨oc,od,kV,doc,pm,an,aE,ct,eG,rfl,lk,dY⟩:=F.ex;exact⟨f,_,ps,a26 lk dY S len λA outer s H vs Q E hr fq=>fg f aE A outer s H vs Q E hr fq,hm,kp,vO⟩
end _L
namespace _A
theorem a1B(a b:Int):Int.gcd b (a.fmod b)=Int.gcd a b:=by rw[Int.fmod_def,Int.gcd_sub_mul_left_right,Int.gcd_comm]
theorem a1C{a b:Int}(h:0<b):Int.gcd b (a%b)=Int.gcd a b:=by rw[<-Int.fmod_eq_emod_of_nonneg a (Int.le_of_lt h)];exact a1B a b
def sg(p q:Int):Int:=if q<0 then-(Int.gcd p q:Int)else(Int.gcd p q:Int)
def lowP (p q:Int):Int:=p.fdiv (sg p q)
def fN (p q:Int):Int:=q.fdiv (sg p q)
theorem EW{p q:Int}(h:q≠0):0<(Int.gcd p q:Int):=by
 have:Int.gcd p q≠0:=λz=>h (Int.gcd_eq_zero_iff.mp z).2
 lia
theorem uO{p q:Int}(h:q≠0):sg p q≠0:=by have:=EW (p:=p) h;unfold sg;split<;>omega
theorem IT(p q:Int):sg p q∣p:=by
 unfold sg;split
 ·exact Int.neg_dvd.mpr (Int.gcd_dvd_left p q)
 ·exact Int.gcd_dvd_left p q
theorem IS(p q:Int):sg p q∣q:=by
 unfold sg;split
 ·exact Int.neg_dvd.mpr (Int.gcd_dvd_right p q)
 ·exact Int.gcd_dvd_right p q
theorem DN(p q:Int):sg p q*lowP p q=p:=by unfold lowP;rw[Int.fdiv_eq_ediv_of_dvd (IT p q)];exact Int.mul_ediv_cancel' (IT p q)
theorem yR(p q:Int):sg p q*fN p q=q:=by unfold fN;rw[Int.fdiv_eq_ediv_of_dvd (IS p q)];exact Int.mul_ediv_cancel' (IS p q)
theorem IU(p q:Int):(sg p q).natAbs=Int.gcd p q:=by unfold sg;split<;>lia
theorem Y4{p q:Int}(h:q≠0):Int.gcd (lowP p q) (fN p q)=1:=by
 have e:Int.gcd (sg p q*lowP p q) (sg p q*fN p q)=(sg p q).natAbs*Int.gcd (lowP p q) (fN p q):=Int.gcd_mul_left _ _ _;rw[DN,yR,IU]at e;have g:=EW (p:=p) h;have g':0<Int.gcd p q:=by lia
 have e':Int.gcd p q*1=Int.gcd p q*Int.gcd (lowP p q) (fN p q):=by lia
 exact(Nat.eq_of_mul_eq_mul_left g' e').symm
theorem Y5{p q:Int}(h:q≠0):0<fN p q:=by
 have e:=yR p q;have g:=EW (p:=p) h;by_cases hq:q<0
 ·have es:sg p q=-(Int.gcd p q:Int):=by unfold sg;rw[bo hq]
  rw[es]at e;refine Int.not_le.mp λhl=>?_;have:0<=-(Int.gcd p q:Int)*fN p q:=PF aw hl
  lia
 ·have es:sg p q=(Int.gcd p q:Int):=by unfold sg;rw[bh hq]
  rw[es]at e;refine Int.not_le.mp λhl=>?_;have:(Int.gcd p q:Int)*fN p q<=0:=Int.mul_nonpos_of_nonneg_of_nonpos aw hl
  lia
theorem OD{s x y:Int}(hs:s≠0)(e:s*x=y):x.natAbs<=y.natAbs:=by rw[<-e,iV];exact Nat.le_mul_of_pos_left _ aw
theorem Y6{p q:Int}(h:q≠0):(lowP p q).natAbs<=p.natAbs:=OD (uO h) (DN p q)
theorem LQ{p q:Int}(h:q≠0):(fN p q).natAbs<=q.natAbs:=OD (uO h) (yR p q)
theorem RW{p q:Int}(h:q≠0):(sg p q).natAbs<=q.natAbs:=by rw[IU];exact Nat.le_of_dvd aw (Int.gcd_dvd_natAbs_right p q)
end _A
namespace _r
open Rat
theorem DM{a b:Int}(hb:b≠0):_A.lowP a b=(Rat.divInt a b).num/\_A.fN a b=((Rat.divInt a b).den:Int):=by
 have hp:=_A.Y5 (p:=a) hb;have hc:=_A.Y4 (p:=a) hb;have a0b:(_A.fN a b).natAbs≠0:=by lia
 have a0h:(_A.lowP a b).natAbs.Coprime (_A.fN a b).natAbs:=hc;have e1:Rat.divInt a b=Rat.divInt (_A.lowP a b) (_A.fN a b):=by have h:=Rat.divInt_mul_left (a:=_A.sg a b) (n:=_A.lowP a b) (d:=_A.fN a b) (_A.uO hb);rw[_A.DN,_A.yR]at h;exact h
 have e2:(⟨_A.lowP a b,(_A.fN a b).natAbs,a0b,a0h⟩:Rat)=Rat.divInt (_A.lowP a b) (((_A.fN a b).natAbs:Nat):Int):=Rat.mk_eq_divInt;have e3:(((_A.fN a b).natAbs:Nat):Int)=_A.fN a b:=by lia
 rw[e3]at e2;rw[e1,<-e2];exact⟨Z,e3.symm⟩
theorem den_pos(r:Rat):(0:Int)<(r.den:Int):=by have:=r.den_pos;omega
structure Bd(n:Nat)(r:Rat):Prop where
 num:r.num.natAbs<2^n
 den:r.den<2^n
theorem Bd.mono{n m:Nat}{r:Rat}(h:Bd n r)(l:n<=m):Bd m r:=⟨fK h.num (wZ az l),fK h.den (wZ az l)⟩
theorem oM{a b n m:Nat}(h:a<2^n)(g:b<2^m):a*b<2^(n+m):=by rw[Nat.pow_add];exact Nat.mul_lt_mul'' h g
theorem jJ{n:Nat}{a b:Int}(hb:b≠0)(h1:a.natAbs<2^n)(h2:b.natAbs<2^n):Bd n (Rat.divInt a b):=by
 obtain⟨e1,e2⟩:=DM (a:=a) hb;have l1:=_A.Y6 (p:=a) hb;have l2:=_A.LQ (p:=a) hb;refine⟨?_,?_⟩
 ·rw[<-e1];lia
 ·lia
theorem nU(r s:Rat):(r.den:Int)*(s.den:Int)≠0:=Int.ne_of_gt (jA (den_pos r) (den_pos s))
theorem add_div(r s:Rat):r+s=Rat.divInt (r.num*s.den+s.num*r.den) (r.den*s.den):=by have h:=Rat.divInt_add_divInt r.num s.num (d₁:=r.den) (d₂:=s.den) (by have:=den_pos r;lia) (by have:=den_pos s;lia);rw[rK,rK]at h;exact h
theorem Ry(r s:Rat):r-s=Rat.divInt (r.num*s.den-s.num*r.den) (r.den*s.den):=by have h:=Pa r.num s.num (d₁:=r.den) (d₂:=s.den) (by have:=den_pos r;lia) (by have:=den_pos s;lia);rw[rK,rK]at h;exact h
theorem mul_div(r s:Rat):r*s=Rat.divInt (r.num*s.num) (r.den*s.den):=by have h:=Rat.divInt_mul_divInt r.num s.num (d₁:=r.den) (d₂:=s.den);rw[rK,rK]at h;exact h
section
variable {n m:Nat} {r s:Rat}
theorem a3V(h:Bd n r)(g:Bd m s):(r.num*s.den).natAbs<2^(n+m):=by rw[iV];exact oM h.num (by have:=g.den;omega)
theorem a3U(h:Bd n r)(g:Bd m s):(s.num*r.den).natAbs<2^(n+m):=by rw[iV,GI];exact oM (by have:=h.den;lia) g.num
theorem FD(h:Bd n r)(g:Bd m s):((r.den:Int)*(s.den:Int)).natAbs<2^(n+m):=by rw[iV];exact oM (by have:=h.den;lia) (by have:=g.den;lia)
theorem Bd.add(h:Bd n r)(g:Bd m s):Bd (n+m+1) (r+s):=by
 rw[add_div];have h1:=a3V h g;have h2:=a3U h g;have h3:=FD h g;have e:2^(n+m+1)=2^(n+m)+2^(n+m):=by rw[Nat.pow_succ];omega
 exact jJ (nU r s) bN bN
theorem Bd.mul(h:Bd n r)(g:Bd m s):Bd (n+m) (r*s):=by rw[mul_div];exact jJ (nU r s) (by rw[iV];exact oM h.num g.num) (FD h g)
end
end _r
namespace _L
open PySem PySem.Spec PyProof.Rows
def g9(H H':Hp):Prop:=∀b o,(∀xs,o≠ .lst xs)->H b=some o->H' b=some o
section
variable {K:aa} {H H' H2:Hp}
theorem g9.trans(a:g9 H H')(b:g9 H' H2):g9 H H2:=λc o n e=>b c o n (a c o n e)
theorem g9.lG{D:Addr}{xs ys:List V}(h:H D=some (.lst xs)):g9 H (upd H D (.lst ys)):=λb o n e=>by rw[aL (Dx e h (n xs))];exact e
theorem aQ.t{a:Addr}{xs:List V}(s:g9 H H')(h:aQ K H a xs):aQ K H' a xs:=h.imp (λr=>r.imp (s _ _ λ_ z=>nomatch z) λ⟨o,e⟩=>⟨o,s _ _ (λ_ z=>nomatch z) e⟩) id
mutual
def dP:ah->Bool | .list _=>false | .dict _=>false | .tuple ds=>bX ds | .none=>true | .bool _=>true | .int _=>true | .str _=>true
def bX:List ah->Bool |[]=>true |d::ds=>dP d&&bX ds
end
theorem eO:∀{ds:List ah},bX ds=true↔∀d∈ds,dP d=true
 |[]=>⟨λ_ _ h=>(nomatch h),λ_=>by simp[bX]⟩ |d::ds=>by
  rw[bX,cZ,eO (ds:=ds)];constructor
  ·rintro⟨a,b⟩ x hx
   rcases bZ.mp hx with rfl|hx
   ·exact a
   ·exact b x hx
  ·intro h
   exact⟨h d (.head _),λx hx=>h x (.tail _ hx)⟩
theorem mY(ns:List Int):bX (ns.map PyData.int)=true:=eO.mpr λd hd=>by obtain⟨i,_,rfl⟩:=gu.mp hd;simp[dP]
mutual
theorem RD.t(s:g9 H H'):∀{x:V}(d:ah),dP d=true->RD K H x d->RD K H' x d |x,.none,_,h=>by simpa[RD]using h |x,.bool b,_,h=>by simpa[RD]using h |x,.int i,_,h=>by simpa[RD]using h |x,.str y,_,h=>by simpa[RD]using h |x,.list ds,n,h=>by simp[dP]at n |x,.tuple ds,n,h=>by rw[RD]at h⊢;obtain⟨a,xs,e,h1,h2⟩:=h;exact⟨a,xs,e,h1.t s,aI.t s ds (by simpa[dP]using n) h2⟩ |x,.dict _,_,h=>by simp[RD]at h
theorem aI.t (s:g9 H H'):∀{xs:List V}(ds:List ah),bX ds=true->aI K H xs ds->aI K H' xs ds |xs,[],_,h=>by simpa[aI]using h |xs,d::ds,n,h=>by rw[aI]at h⊢;rw[bX,cZ]at n;obtain⟨y,ys,e,h1,h2⟩:=h;exact⟨y,ys,e,RD.t s d n.1 h1,aI.t s ds n.2 h2⟩
end
theorem aI.ja:∀{xs:List V}{ns:List Int},aI K H xs (ns.map PyData.int)->xs=ns.map V.int |xs,[],h=>h.nil_inv |xs,n::ns,h=>by obtain⟨y,ys,rfl,h1,h2⟩:=h.cons_inv;rw[h1.int_inv,aI.ja h2];rfl
theorem oz:∀(ns:List Int),aI K H (ns.map V.int) (ns.map PyData.int) |[]=>bW |n::ns=>bJ (cQ n) (oz ns)
theorem O3{J:It}{xs:List V}{ds:List ah}{te:TE}{Q:VK}{D:Addr}{H0:Hp}(rest:St)(nw:Nw H H0 D (.lst []))(hl:xs.length=ds.length)(hz:xs.length<=1000)(hn:bX ds=true) (go:∀i x H2,xs[i]? =some x->aA H H2->J.go i H2/\∀y H3,J.gM i H2 y H3->H3=H2/\y=x)(stop:∀H2,aA H H2->J.stop xs.length H2) (hs:∀(i:Nat)(x:V)(d:ah)(H2:Hp)(Q':VK),xs[i]? =some x->ds[i]? =some d->aA H H2->(∀y H3,aA H2 H3->RD K H3 y d->Q' y H3)->te (some x::rest) H2 Q') (hq:∀H' ys,aA H H'->H' D=some (.lst ys)->aI K H' ys ds->Q (.ref D) H'):jy J (gj 0) jk te Q D (none::rest) H0:=by
 have hD:=nw.no;refine qU xs.length (λi O H2=>aA H H2/\(∃ys,H2 D=some (.lst ys)/\aI K H2 ys (ds.take i))/\∃v,O=v::rest) ?_ ?_ ?_
 ·exact⟨nw.same,⟨[],nw.at',bW⟩,none,Z⟩
 ·rintro i O H2 hi ⟨s2,⟨ys,d2,r2⟩,v,rfl⟩
  have zh:i<ds.length:=by rw[<-hl];exact hi
  have ex:=cI hi;have eb:=cI zh;obtain⟨g1,g2⟩:=go i _ H2 ex s2;refine⟨g1,λy H3 hy=>?_⟩;obtain⟨rfl,rfl⟩:=g2 y H3 hy;refine xC ?_;refine hs i _ _ _ _ ex eb s2 λz H4 s4 r4=>?_;have d4:=s4 _ _ d2;have len:=r2.length;rw[rP]at len;refine⟨ys,d4,?_,xs.length-(i+1),aw,Z,aw,λb o e=>?_,⟨ys++[z],bp,?_⟩,_,Z⟩
  ·have:(1000:Nat)<sizeLine:=by decide
   lia
  ·rw[aL (eH e hD)];exact s4 b o (s2 b o e)
  ·have t:g9 H4 (upd H4 D (.lst (ys++[z]))):=.lG d4
   rw[uo,eb];have n1:bX (ds.take i)=true:=eO.mpr λd hd=>eO.mp hn d (x9 hd);exact(aI.t t _ n1 (aI.mono s4 _ r2)).append (bJ (RD.t t _ (eO.mp hn _ (GR zh)) r4) bW)
 ·rintro O H2 ⟨s2,⟨ys,d2,r2⟩,v,rfl⟩
  refine⟨stop H2 s2,hq H2 ys s2 d2 ?_⟩;rw[hl,Ag]at r2;exact r2
theorem FJ{a:Addr}{xs:List V}{ds:List ah}{te:TE}{Q:VK}{D:Addr}{H0:Hp}(rest:St)(hx:aQ K H a xs)(nw:Nw H H0 D (.lst []))(hl:xs.length=ds.length)(hz:xs.length<=1000)(hn:bX ds=true) (hs:∀(i:Nat)(x:V)(d:ah)(H2:Hp)(Q':VK),xs[i]? =some x->ds[i]? =some d->aA H H2->(∀y H3,aA H2 H3->RD K H3 y d->Q' y H3)->te (some x::rest) H2 Q') (hq:∀H' ys,aA H H'->H' D=some (.lst ys)->aI K H' ys ds->Q (.ref D) H'):jy (pM K a) (gj 0) jk te Q D (none::rest) H0:=O3 rest nw hl hz hn (λi x H2 e s=>⟨⟨xs,x,hx.go s,e⟩,λy H3 ⟨e3,y3⟩=>⟨e3,by have:=y3 _ (hx.go s);rw[e]at this;exact(dW this).symm⟩⟩) (λH2 s=>⟨xs,hx.go s,bB _⟩) hs hq
theorem O2{a:Addr}{xs:List V}{ds:List ah}{te:TE}{Q:VK}{D:Addr}{H0:Hp}(rest:St)(hx:aK K H a xs)(nw:Nw H H0 D (.lst []))(hl:xs.length=ds.length)(hz:xs.length<=1000)(hn:bX ds=true) (hs:∀(i:Nat)(x:V)(d:ah)(H2:Hp)(Q':VK),xs[i]? =some x->ds[i]? =some d->aA H H2->(∀y H3,aA H2 H3->RD K H3 y d->Q' y H3)->te (some x::rest) H2 Q') (hq:∀H' ys,aA H H'->H' D=some (.lst ys)->aI K H' ys ds->Q (.ref D) H'):jy (u7 K a) (gj 0) jk te Q D (none::rest) H0:=O3 rest nw hl hz hn (λi x H2 e s=>⟨⟨xs,x,hx.go s,e⟩,λy H3 ⟨e3,y3⟩=>⟨e3,by have:=y3 _ (hx.go s);rw[e]at this;exact(dW this).symm⟩⟩) (λH2 s=>⟨xs,hx.go s,bB _⟩) hs hq
theorem zK{b1 b2:Bool}{l1 l2:Addr}{xs ys:List V}{ds:List ah}{te:TE}{Q:VK}{D:Addr}{H0:Hp}{n:Nat}(rest:St)(tG:n=2)(h1:dZ b1 K H l1 xs)(h2:dZ b2 K H l2 ys)(nw:Nw H H0 D (.lst [])) (hl:min xs.length ys.length=ds.length)(hz:ds.length<=1000)(hn:bX ds=true) (hs:∀(i:Nat)(x y:V)(d:ah)(H2:Hp)(Q':VK),xs[i]? =some x->ys[i]? =some y->ds[i]? =some d->aA H H2->(∀z H3,aA H2 H3->RD K H3 z d->Q' z H3)->te (some x::some y::rest) H2 Q') (hq:∀H' zs,aA H H'->H' D=some (.lst zs)->aI K H' zs ds->Q (.ref D) H'):jy (rn K b1 b2 l1 l2) (zq K n (vT (gj 0) (vT (gj 1) EX))) jk te Q D (none::none::rest) H0:=by
 subst tG;have hD:=nw.no;refine qU ds.length (λi O H2=>aA H H2/\(∃zs,H2 D=some (.lst zs)/\aI K H2 zs (ds.take i))/\∃v v',O=v::v'::rest) ?_ ?_ ?_
 ·exact⟨nw.same,⟨[],nw.at',bW⟩,none,none,Z⟩
 ·rintro i O H2 hi ⟨s2,⟨zs,d2,r2⟩,v,v',rfl⟩
  have hx:i<xs.length:=by lia
  have hy:i<ys.length:=by lia
  have ex:=cI hx;have ey:=cI hy;have eb:=cI hi;refine⟨⟨xs,ys,_,_,h1.go s2,h2.go s2,ex,ey⟩,λy' H3 qJ=>?_⟩;obtain⟨T,x0,y0,rfl,k1,k2,n3⟩:=qJ;have e1:=k1 _ (h1.go s2);have e2:=k2 _ (h2.go s2);rw[ex]at e1;rw[ey]at e2;cases e1;cases e2;refine⟨T,_,Z,aQ.of n3.at',Z,_,_,Z,_,_,Z,Z,?_⟩;refine yes (ba ?_);refine hs i _ _ _ _ _ ex ey eb (s2.trans n3.same) λz H4 s4 r4=>?_;have sE:=n3.same.trans s4;have d4:=sE _ _ d2;have len:=r2.length;rw[rP]at len;refine⟨zs,d4,?_,ds.length-(i+1),aw,Z,aw,λb o e=>?_,⟨zs++[z],bp,?_⟩,_,_,Z⟩
  ·have:(1000:Nat)<sizeLine:=by decide
   lia
  ·rw[aL (eH e hD)];exact sE b o (s2 b o e)
  ·have t:g9 H4 (upd H4 D (.lst (zs++[z]))):=.lG d4
   rw[uo,eb];have n1:bX (ds.take i)=true:=eO.mpr λd hd=>eO.mp hn d (x9 hd);exact(aI.t t _ n1 (aI.mono sE _ r2)).append (bJ (RD.t t _ (eO.mp hn _ (GR hi)) r4) bW)
 ·rintro O H2 ⟨s2,⟨zs,d2,r2⟩,v,v',rfl⟩
  refine⟨⟨xs,ys,h1.go s2,h2.go s2,aw⟩,hq H2 zs s2 d2 ?_⟩;rw[Ag]at r2;exact r2
end
theorem Mf:∀{ns:List Int}{us:List Value},Vals (ns.map V.int) us->(∀v∈us,∃a t,v=Value.int a t)/\numsOf us=ns
 |[],_,.nil=>⟨λ_ h=>(nomatch h),rfl⟩ |n::ns,_,.cons q r=>by
  obtain⟨t,rfl⟩:=(show∃t,_=Value.int n t from q);obtain⟨h1,h2⟩:=Mf r;refine⟨λv hv=>?_,?_⟩
  ·rcases bZ.mp hv with rfl|hv
   ·exact⟨n,t,Z⟩
   ·exact h1 v hv
  ·show n::numsOf _=_
   rw[h2]
section
variable {X:Cx}
theorem Xw(K:aa)(hK:X.K=K)(hc:X.calm=true):eT X (.builtin "max") (λxs H Q=>∃(l:Addr)(ns:List Int),xs=[.ref l]/\aK K H l (ns.map V.int)/\ns≠[]/\∀M,M∈ns->(∀a∈ns,a<=M)->Q (.int M) H):=by
 subst hK;intro ak s O H xs us Q I r h;obtain⟨l,ns,rfl,hl,dI,q⟩:=h;obtain⟨u,rfl,ru⟩:=vals1 r;cases(show u=Value.ref l from ru);obtain⟨its,rv,pl,hz⟩:=I.list hl;obtain⟨a1,a2⟩:=Mf rv;have all:AllInts its.toArray:=λv hv=>a1 v (by simpa using hv);obtain⟨ps,Mt⟩:=all.items;have e0:numsOf (intItems ps).toList=ns:=by rw[<-Mt];exact a2
 rw[nums_intItems]at e0;have hlen:ps.size=ns.length:=by rw[<-e0,bR,Hb]
 have oT:0<ps.size:=by rw[hlen];exact GP.mpr dI
 refine max_intList (I.ok.hd hc) (by rw[<-Mt];exact pl.isList) oT λv h' tk hv hk=>?_;obtain⟨t,rfl⟩:=intItems_at hv;obtain⟨h1,h2⟩:=argBest_gt (numAt ps) (ps.size-1);refine⟨.int _,H,I.kept hk,⟨_,Z⟩,q _ ?_ λa ha=>?_⟩
 ·rw[numAt_eq,e0];exact getD_mem bN
 ·obtain⟨j,hj,rfl⟩:=mem_getD ha
  rw[<-e0,<-numAt_eq];exact h2 j bN
end
end _L
set_option maxHeartbeats 1000000
namespace _a
open PySem PySem.Spec PyProof.Rows _L
def OP(c m:Int):Prop:=0<=c/\0<=m/\m<2147483648
def iB(H:Hp)(p:Addr):Prop:=∃c m,H p=some (.lst [.int c,.int m])/\OP c m
structure cg(p:Addr)(H H':Hp):Prop where
 eJ:iB H' p
 same:∀b o,b≠p->H b=some o->H' b=some o
theorem cg.refl{p:Addr}{H:Hp}(h:iB H p):cg p H H:=⟨h,λ_ _ _ e=>e⟩
theorem cg.trans{p:Addr}{H H1 H2:Hp}(a:cg p H H1)(b:cg p H1 H2):cg p H H2:=⟨b.eJ,λc o n e=>b.same c o n (a.same c o n e)⟩
theorem cg.upd{p:Addr}{H:Hp}{c m:Int}(h:OP c m):cg p H (_L.upd H p (.lst [.int c,.int m])):=⟨⟨c,m,bp,h⟩,λb o n e=>by rw[aL n];exact e⟩
theorem cg.kD{p:Addr}{H H':Hp}(h:iB H p)(s:aA H H'):cg p H H':=by obtain⟨c,m,e,ok⟩:=h;exact⟨⟨c,m,s _ _ e,ok⟩,λb o _ e=>s b o e⟩
theorem He{j:Int}(h0:0<=j)(h:j<=10^40):Wd j:=by
 have:j.natAbs<=10^40:=by lia
 exact GJ this aO
theorem iB.ne{H:Hp}{p:Addr}(h:iB H p):H p≠none:=by obtain⟨c,m,e,_⟩:=h;rw[e];exact λz=>nomatch z
theorem cg.sd{p:Addr}{H H':Hp}(b:cg p H H'):SD p H H':=λc o e=>pC.mpr ⟨(pC.mp e).1,b.same _ _ (pC.mp e).1 (pC.mp e).2⟩
theorem iB.X4{H:Hp}{p:Addr}{q:Addr}{o:HO}(h:iB H p)(e:H q=some o)(n:∀xs,o≠ .lst xs):q≠p:=by obtain⟨c,m,e',_⟩:=h;exact Dx e e' (n _)
theorem cg.t{p:Addr}{H H':Hp}(bg:iB H p)(b:cg p H H'):g9 H H':=λc o n e=>b.same c o (bg.X4 e n) e
section
variable {K:aa}
theorem O6{J:It}{te:TE}{Q:VK}{D p:Addr}{H H0:Hp}(n:Nat)(rest:_L.St)(nw:Nw H H0 D (.lst []))(bg:iB H p)(hn:n<=1000)(xv:Nat->V) (go:∀i H2,i<n->cg p H H2->J.go i H2/\∀y H3,J.gM i H2 y H3->H3=H2/\y=xv i)(stop:∀H2,cg p H H2->J.stop n H2)(Pz:Int->Prop) (hs:∀i H2 (Q':VK),i<n->cg p H H2->(∀z H3,Pz z->cg p H2 H3->Q' (.int z) H3)->te (some (xv i)::rest) H2 Q') (hq:∀H' (is:List Int),cg p H H'->H' D=some (.lst (is.map V.int))->is.length=n->(∀z∈is,Pz z)->Q (.ref D) H'):jy J (gj 0) jk te Q D (none::rest) H0:=by
 have vR:D≠p:=λe=>bg.ne (e▸nw.no);refine qU n (λi O H3=>cg p H H3/\(∃is:List Int,H3 D=some (.lst (is.map V.int))/\is.length=i/\∀z∈is,Pz z)/\∃v,O=v::rest) ?_ ?_ ?_
 ·exact⟨.kD bg nw.same,⟨[],nw.at',Z,λ_ h=>(dX h).elim⟩,none,Z⟩
 ·rintro i O H3 hi ⟨b3,⟨is,d3,li,pi⟩,v,rfl⟩
  obtain⟨g1,g2⟩:=go i H3 hi b3;refine⟨g1,λy H4 hy=>?_⟩;obtain⟨rfl,rfl⟩:=g2 y H4 hy;refine xC ?_;refine hs i _ _ hi b3 λz H5 pz b5=>?_;refine⟨_,b5.same _ _ vR d3,?_,n-(i+1),aw,Z,aw,?_,⟨is++[z],?_,?_,?_⟩,_,Z⟩
  ·rw[bR,li]
   have:(1000:Nat)<sizeLine:=by decide
   lia
  ·have wz:=b3.trans b5
   refine⟨?_,λb o n e=>?_⟩
   ·obtain⟨c,m,e,ok⟩:=wz.eJ
    exact⟨c,m,by rw[aL vR.symm];exact e,ok⟩
   ·rw[aL (eH e nw.no)];exact wz.same b o n e
  ·rw[bp,lA];rfl
  ·rw[fj,li];rfl
  ·intro y hy
   rcases xg.mp hy with h|h
   ·exact pi y h
   ·rw[eB.mp h];exact pz
 ·rintro O H3 ⟨b3,⟨is,d3,li,pi⟩,v,rfl⟩
  exact⟨stop H3 b3,hq H3 is b3 d3 li pi⟩
theorem YJ(ns:List Int){i:Int}(h0:0<=i)(h:i<ns.length):∃z,z∈ns/\iz (ns.map V.int) i=some (.int z):=by
 have hl:i.toNat<ns.length:=by omega
 exact⟨ns[i.toNat],GR hl,eK h0 (by rw[cY,cI hl];rfl)⟩
theorem a41{J:It}{te:TE}{Q:VK}{D p:Addr}{H H0:Hp}(n:Nat)(rest:_L.St)(nw:Nw H H0 D (.lst []))(bg:iB H p)(hn:n<=1000)(xv:Nat->V) (go:∀i H2,i<n->cg p H H2->J.go i H2/\∀y H3,J.gM i H2 y H3->H3=H2/\y=xv i)(stop:∀H2,cg p H H2->J.stop n H2)(Pd:Nat->ah->Prop) (hs:∀i H2 (Q':VK),i<n->cg p H H2->(∀y d H3,Pd i d->dP d=true->RD K H3 y d->cg p H2 H3->Q' y H3)->te (some (xv i)::rest) H2 Q') (hq:∀H' ys ds,cg p H H'->H' D=some (.lst ys)->aI K H' ys ds->ds.length=n->bX ds=true->(∀i d,ds[i]? =some d->Pd i d)->Q (.ref D) H'):jy J (gj 0) jk te Q D (none::rest) H0:=by
  have vR:D≠p:=λe=>bg.ne (e▸nw.no);refine qU n (λi O H3=>cg p H H3/\(∃ys ds,H3 D=some (.lst ys)/\aI K H3 ys ds/\ds.length=i/\bX ds=true/\∀j d,ds[j]? =some d->Pd j d)/\∃v,O=v::rest) ?_ ?_ ?_
  ·exact⟨.kD bg nw.same,⟨[],[],nw.at',bW,Z,Z,λj d e=>by simp at e⟩,none,Z⟩
  · rintro i O H3 hi ⟨b3,⟨ys,ds,d3,r3,li,ni,pi⟩,v,rfl⟩
    obtain⟨g1,g2⟩:=go i H3 hi b3;refine⟨g1,λy H4 hy=>?_⟩;obtain⟨rfl,rfl⟩:=g2 y H4 hy;refine xC ?_;refine hs i _ _ hi b3 λz d H5 pz nz rz b5=>?_;have d5:=b5.same _ _ vR d3;have t:g9 H5 (_L.upd H5 D (.lst (ys++[z]))):=.lG d5;refine⟨ys,d5,?_,n-(i+1),aw,Z,aw,?_,⟨ys++[z],ds++[d],bp,?_,?_,?_,?_⟩,_,Z⟩
    · rw[r3.length,li]
      have:(1000:Nat)<sizeLine:=by decide
      lia
    · have wz:=b3.trans b5
      refine⟨?_,λb o n e=>?_⟩
      · obtain⟨c,m,e,ok⟩:=wz.eJ
        exact⟨c,m,by rw[aL vR.symm];exact e,ok⟩
      ·rw[aL (eH e nw.no)];exact wz.same b o n e
    ·exact(aI.t ((cg.t b3.eJ b5).trans t) _ ni r3).append (bJ (RD.t t _ nz rz) bW)
    ·rw[fj,li];rfl
    ·exact eO.mpr λx hx=>by
        rcases xg.mp hx with h|h
        ·exact eO.mp ni x h
        ·rw[eB.mp h];exact nz
    · intro j e he
      by_cases hj:j<ds.length
      · rw[Ak hj]at he
        exact pi j e he
      · have zd:j=ds.length:=by
          have:=(eY.mp he).1;rw[fj]at this;have:j<ds.length+1:=this
          lia
        subst zd;rw[Aj (bB _),Nat.sub_self]at he;cases he;rw[li];exact pz
  · rintro O H3 ⟨b3,⟨ys,ds,d3,r3,li,ni,pi⟩,v,rfl⟩
    exact⟨stop H3 b3,hq H3 ys ds b3 d3 r3 li ni pi⟩
end
end _a
namespace _l
open PySem _L
def mm(i:Int):Int:=if i<0 then-i else i
theorem Ga(i:Int):mm i=(i.natAbs:Int):=by unfold mm;split<;>lia
def aJ(ns:List Int):Nat:=ns.foldr (λz m=>max z.natAbs m) 0
theorem DR:∀{ns:List Int}{z:Int},z∈ns->z.natAbs<=aJ ns
 |n::ns,z,h=>by
  show z.natAbs<=max n.natAbs (aJ ns);rcases bZ.mp h with rfl|h
  ·exact Nat.le_max_left _ _
  ·exact fz (DR h) (Nat.le_max_right _ _)
theorem DQ:∀{ns:List Int},ns≠[]->∃z∈ns,z.natAbs=aJ ns
 |[],h=>absurd Z h |[n],_=>⟨n,.head _,by show n.natAbs=max n.natAbs 0;lia⟩ |n::m::ns,_=>by
  obtain⟨z,hz,e⟩:=DQ (ns:=m::ns) (by simp);by_cases h:n.natAbs<=aJ (m::ns)
  ·exact⟨z,.tail _ hz,by show _=max n.natAbs (aJ (m::ns));lia⟩
  ·exact⟨n,.head _,by show _=max n.natAbs (aJ (m::ns));lia⟩
theorem nc{ns:List Int}{m:Nat}(h:∀z∈ns,z.natAbs<=m):aJ ns<=m:=by cases ns with |nil=>exact fw _ |cons a r=>obtain⟨z,hz,e⟩:=DQ (ns:=a::r) (by simp);rw[<-e];exact h z hz
theorem Yk{ns:List Int}(h:∃z∈ns,z≠0):0<aJ ns:=by
 obtain⟨z,hz,h0⟩:=h;have:=DR hz
 lia
theorem Yj{ns:List Int}(dI:ns≠[]){M:Int}(h1:M∈ns.map mm)(h2:∀a∈ns.map mm,a<=M):M=(aJ ns:Int):=by
 obtain⟨z,hz,e⟩:=gu.mp h1;obtain⟨y,hy,ey⟩:=DQ dI;have a1:=DR hz;have a2:=h2 (mm y) (gu.mpr ⟨y,hy,Z⟩);rw[Ga]at e a2
 lia
def y4(p q:Int):Int:=(2*(p.natAbs:Int)+q)/(2*q)
def qA(p q:Int):Int:=if p>=0 then y4 p q else-y4 p q
end _l
namespace _L
open PySem PySem.Spec PyProof.Rows
theorem Lq:fillsNumberSlot (.type "tuple") "mul"=pure false:=PySem.fillsNumberSlot_seq (id:="tuple.__mul__") (r:=some (.builtin "tuple.__rmul__")) GY.lookup aO F.slot_tuple_rmul.lookup aO
theorem Km:seqRepeat? (.type "tuple")=pure (some (.builtin "tuple.__mul__")):=by unfold seqRepeat?;rw[PySem.seqSlot_of (T:="tuple") (name:="__mul__") (id:="tuple.__mul__") GY.lookup aO,PySem.seqSlot_of (T:="tuple") (name:="__rmul__") (id:="tuple.__rmul__") F.slot_tuple_rmul.lookup aO];rfl
theorem Kh(a:Int)(t:Tok)(l:Addr)(items:Array Value)(n:Nat)(dd:Option Addr)(sl:Array (Option Value)): Meets (Builtin.«int.__rmul__» ⟨[.int a t,.ref l],[]⟩) (λ_ R s=>s.heap.get? l=some {cls:=.type "tuple",dict:=dd,data:=.seq items n,slots:=sl}/\R (.ok (.ret Value.notImplemented)) s):=.of_wp λprog w A R s h=>by obtain⟨hp,g,d,tk,os⟩:=s;obtain⟨hl,h⟩:=h;wp_walk using wQ hl;exact⟨_,Z,h⟩
theorem Xd(l:Addr)(items:Array Value)(n:Nat)(dd:Option Addr)(sl:Array (Option Value))(x:Int)(u:Tok)(h0:¬(decide (x< -(2^63))||decide (x>=2^63))=true)(h1:¬(items.isEmpty||x==1)=true)(h2:¬(decide (x<=0)||items.isEmpty)=true) (h3:¬(items.size:Int)*x>(2^63-1)/8)(h4:¬Builtin.Tuple.tupleTooMany ((items.size:Int)*x)=true)(hz:(List.foldl (λx1 x2=>x1++x2) #[] (List.replicate x.toNat items)).size<=sizeLine): Meets (Builtin.«tuple.__mul__» ⟨[.ref l,.int x u],[]⟩) (λ_ R s=>s.heap.get? l=some {cls:=.type "tuple",dict:=dd,data:=.seq items n,slots:=sl}/\R (.ok (.ret (Value.ref s.heap.objs.size))) {s with heap:=s.heap.push {cls:=Value.type "tuple",data:=Data.seq (List.foldl (λx1 x2=>x1++x2) #[] (List.replicate x.toNat items))},toks:=s.toks}):=.of_wp λprog w A R s h=>by
 obtain⟨hp,g,d,tk,os⟩:=s;obtain⟨hl,h⟩:=h;have f1:=AutoSeq1.idx_int;have f2:=AutoSeq1.sub_tuple_tuple
 wp_walk using wQ hl;refine wpAny_ite_false (df h0) ?_
 wp_walk using wQ hl;refine wpAny_ite_false (df h3) ?_
 wp_walk using wQ hl;exact⟨_,Z,h⟩
inductive a6G(K:aa)(x:V)(y:V)(H:Hp)(Q:VK):Prop |mk (l:_)(k:_)(xs:_)(h0:x= .ref l)(h1:y= .int k)(h2:aQ K H l xs)(h3:xs≠[])(h4:2<=k)(h5:k<=1000)(h6:xs.length<=1000)(h7:∀p H',Nw H H' p (.tup (List.replicate k.toNat xs).flatten)->Q (.ref p) H')
def Tq(K:aa):R2:=λx y H Q=>a6G K x y H Q
theorem UA{X:Cx}(K:aa)(hK:X.K=K):cj X (binaryOp .Mult) (Tq K):=by
 subst hK;intro ak s O H x y v u Q I rx ry h;obtain⟨l,k,xs,rfl,rfl,hx,dI,h1,h2,hz,q⟩:=h;cases rx;obtain⟨t,rfl⟩:=ry;obtain⟨its,r,⟨⟨cls,dd,data,sl⟩,ho,hc,n,hd⟩,_⟩:=I.tuple hx;simp only at hc hd;subst hc hd;have hl:=r.length;have Eb:(1000*1000:Nat)<=sizeLine:=by decide
 have hm:its.length*k.toNat<=1000*1000:=rO aw aw;have tH:((its.toArray.size:Nat):Int)*k=((its.length*k.toNat:Nat):Int):=by rw[cX,Int.natCast_mul];congr 1;lia
 have MG:its.toArray.isEmpty=false:=by cases its with |nil=>exact absurd (GQ.mp hl) dI |cons a b=>rfl
 have zb:List.foldl (λx1 x2=>x1++x2) #[] (List.replicate k.toNat its.toArray)=(List.replicate k.toNat its).flatten.toArray:=by have:=foldl_rep its k.toNat [];rw[List.nil_append]at this;exact this
 refine P4 (T:="tuple") (U:="int") az ⟨_,ho,Z⟩ (λs'=>ud s' k t) Lq F.fills_int_mul xu Km F.slot_int_index.lookup (lj xu (ud s k t) F.entry_int_rmul (F.args_int_rmul_2 _ _) (Kh k t l its.toArray n dd sl) ⟨ho,Z,⟨_,ho,Z⟩,lj GY ⟨_,ho,Z⟩ F.entry_tuple_mul (F.args_tuple_mul_2 _ _) (Xd l its.toArray n dd sl k t ?_ ?_ ?_ ?_ ?_ ?_) ⟨ho,?_⟩⟩)
 ·simp;lia
 ·rw[MG];simp;lia
 ·rw[MG];simp;lia
 ·rw[tH]
  have:((2:Int)^63-1)/8=1152921504606846975:=by decide
  rw[this];lia
 ·rw[tH]
  unfold Builtin.Tuple.tupleTooMany;simp only[A8]
  lia
 ·rw[zb,cX,len_rep,GI];lia
 rw[zb];have hf:H s.heap.objs.size=none:=I.aU.fresh (bB _);have nw:Nw H (upd H s.heap.objs.size (.tup (List.replicate k.toNat xs).flatten)) s.heap.objs.size (.tup (List.replicate k.toNat xs).flatten):=.of hf;refine⟨.ref s.heap.objs.size,_,I.laid (t':=s.toks) (o:=.tup (List.replicate k.toNat xs).flatten) (λb ob q=>bK _ q) (bB _) ?_,Z,q _ _ nw⟩;exact⟨by rw[len_rep,GI,hl];lia,_,r.rep k.toNat,IsTup.new _ _⟩
abbrev zB(b:Bool)(h:Heap)(l:Addr):Heap:=h.push {cls:=.type (pD b),data:=.fields #[.ref l,.int 0 0]}
abbrev Fw(b:Bool)(h:Heap)(l:Addr):Heap:=(zB b h l).push {cls:=.type "enumerate",data:=.fields #[.none,.bool false,.ref h.objs.size,rawInt 0,.none,.none]}
theorem a3y(b:Bool)(l:Addr)(xs:Array Value):Meets (Builtin.«enumerate.__new__» ⟨[.type "enumerate",.ref l],[]⟩) (λ_ R s=>fP b s.heap l xs/\R (.ok (.ret (.ref (zB b s.heap l).objs.size))) {s with heap:=Fw b s.heap l}):=.of_wp λprog w A R s h=>by
 obtain⟨hp,gg,d,tk,os⟩:=s;obtain⟨hl,h⟩:=h;have E8:=sub_enumerate;have hL:fP b (Shared.heap ⟨hp,gg,d,tk,os⟩) l xs:=hl
 wp_walk using sY hL;refine wpAny_stack_any λst=>bA ?_;split
 ·rename_i c _ _ _ _ _
  cases(c==Value.type "enumerate")
  ·wp_walk using sY hL
   exact⟨_,Z,h⟩
  ·wp_walk using sY hL
   exact⟨_,Z,h⟩
 ·wp_walk using sY hL
  exact⟨_,Z,h⟩
section
variable {prog:af}{w:World}{A:ai}{E:Value->ae->Prop}{s:ae}
theorem a3z{b:Bool}{l:Addr}{xs:Array Value}{Q:Value->ae->Prop}(hl:fP b s.heap l xs) (q:∀g,IsEnum g (s.heap.objs.size+1) s.heap.objs.size 0 .none->iO b g s.heap.objs.size l 0->(∀c o,s.heap.get? c=some o->g.get? c=some o)->Q (.ref (s.heap.objs.size+1)) {s with heap:=g}): wpAny (model prog w) A (call (.type "enumerate") [.ref l]) Q E s:=by refine callType_new PySem.F.called_enumerate az (PySem.F.typeCall_enumerate_1 _) (PySem.F.newCall_enumerate_1 _) (λobj=>PySem.F.args_object_init_2 obj _) PySem.F.entry_enumerate_new (a3y b l xs) ⟨hl,?_⟩;have z1:(zB b s.heap l).objs.size=s.heap.objs.size+1:=mI ..;have g2:(Fw b s.heap l).get? (zB b s.heap l).objs.size=some _:=dw _ rfl;have g1:(Fw b s.heap l).get? s.heap.objs.size=some _:=bK _ (dw _ Z);show _/\_;rw[z1]at g2⊢;refine⟨⟨_,g2,Z⟩,q _ g2 ?_ λc o e=>bK _ (bK _ e)⟩;cases b<;>exact⟨_,g1,rfl,rfl⟩
theorem Nz{b:Bool}{it l:Addr}{xs:Array Value}(hh:A.handled=none)(ne:l≠it):Draws prog w A it [it,l] xs.size (λi x=>xs[i]? =some x) (λi h=>iO b h it l i/\fP b h l xs) where
 live:=λi h st=>by obtain⟨o,e,_⟩:=st.1.ob;exact⟨o,e⟩
 frame:=λi h h' st k=>⟨st.1.to λo e=>k it (by simp) o e,st.2.to λo e=>k l (by simp) o e⟩
 item:=λi s Q E hi st hQ=>yE st.1 st.2 (x:=xs[i]) (by simp[hi]) λg gi sb=>hQ _ g s.toks (by simp[hi]) ⟨gi,st.2.to λo e=>sb.extBut _ _ ne e⟩ sb
 done:=λs Q E st hE=>Fv hh st.1 st.2 (by simp) λg e a b=>hE g e a b
end
def wH(K:aa)(b:Bool)(l:Addr):It:=⟨λi H=>∃xs x,dZ b K H l xs/\xs[i]? =some x,λi H v H'=>∃T x,v= .ref T/\(∀xs,dZ b K H l xs->xs[i]? =some x)/\Nw H H' T (.tup [.int i,x]),λi H=>∃xs,dZ b K H l xs/\xs.length=i⟩
theorem Qw{P:af}{w:World}{K:aa}{elts:List Expr}{kt:Nat}{pos:Pos}{b:Bool}{e it l:Addr}(D:e≠it): Turn P w K (.Tuple elts kt pos) (wH K b l) [e,it] e (λi h=>(∃old,IsEnum h e it i old)/\iO b h it l i) where
 mem:=by simp
 obj:=λi h st c hc=>by
  obtain⟨⟨old,he⟩,h1⟩:=st;simp only[bZ,dX,gs]at hc;rcases hc with rfl|rfl
  ·exact⟨_,he,λv e=>by cases e⟩
  ·obtain⟨o,e,_,n⟩:=h1.ob;exact⟨o,e,n⟩
 keep:=λi h h' st k=>by obtain⟨⟨old,he⟩,h1⟩:=st;exact⟨⟨old,k e (by simp) _ he⟩,h1.to λo q=>k it (by simp) o q⟩
 item:=by
  intro X hP hw hK hc i ak s O H E I hf st hg;subst hP hw hK;obtain⟨xs,x,q1,e1⟩:=hg;obtain⟨its,r1,p1⟩:=q1.get I;obtain⟨u1,E6,kg⟩:=r1.get e1;obtain⟨⟨old,he⟩,h1⟩:=st;obtain⟨oi,iI,ci,_⟩:=h1.ob;have DS:∃o,s.heap.get? l=some o/\(o.cls= .type "list"\/o.cls= .type "tuple"):=by cases b<;>(obtain⟨o,ho,cc,_⟩:=p1;first|exact⟨o,ho,.inl cc⟩|exact⟨o,ho,.inr cc⟩)
  obtain⟨ol,nC,cl⟩:=DS;have X3:e≠l:=λz=>by subst z;rw[he]at nC;cases nC;rcases cl with h|h<;>simp at h
  have nil:l≠it:=λz=>by subst z;rw[iI]at nC;cases nC;rw[ci]at cl;cases b<;>(rcases cl with h|h<;>simp[pD]at h)
  have cm:i<its.toArray.size:=by rw[cX,<-r1.length];exact(eY.mp e1).1
  refine wpAny_pyNext_enum_itemD (Nz (I.ok.hd hc) nil) he ⟨h1,p1⟩ cm D (by simp[D,X3]) λy h' tk hPy ho fo hT hsz kp=>⟨_,Z,?_⟩;have ey:y=u1:=by
   have a1:its.toArray[i]? =some y:=hPy;have a2:its.toArray[i]? =some u1:=by simpa using E6
   rw[a1]at a2;exact dW a2
  subst ey;refine wpAny_letOwnedTupleGo_enum ho λg' he' sb=>?_;have hs:=sb.extBut;have elt:e<s.heap.objs.size:=bP he;have YT:it<s.heap.objs.size:=bP iI;have nw:Nw H (upd H s.heap.objs.size (.tup [.int i,x])) s.heap.objs.size (.tup [.int i,x]):=.of (I.aU.fresh (bB _));have I1:Inv X ak O (upd H s.heap.objs.size (.tup [.int i,x])) {s with heap:=s.heap.push {cls:=.type "tuple",data:=.seq #[.int i tk,y]},toks:=tk+1}:=I.laid (t':=tk+1) (λb ob q=>bK _ q) (bB _) ⟨by show 2<=sizeLine;decide,[.int i tk,y],.cons ⟨tk,Z⟩ (.cons kg .nil),⟨_,dw _ Z,Z,_,Z⟩⟩;have DK:∀c∈[e,it],c<s.heap.objs.size:=λc hc=>by
   simp only[bZ,dX,gs]at hc;rcases hc with rfl|rfl
   ·exact elt
   ·exact YT
  have hn:∀c∈[e,it],upd H s.heap.objs.size (.tup [.int i,x]) c=none:=λc hc=>by rw[aL (dg (DK c hc))];exact(hf c hc).1
  have I2:Inv X ak O (upd H s.heap.objs.size (.tup [.int i,x])) {s with heap:=g',toks:=tk+1}:=Inv.uB (s:={s with heap:=s.heap.push {cls:=.type "tuple",data:=.seq #[.int i tk,y]},toks:=tk+1}) (t':=tk+1) (fp:=[e,it]) I1 (λc o hc q=>by
   have q:(s.heap.push {cls:=.type "tuple",data:=.seq #[.int i tk,y]}).get? c=some o:=q;have nz:c≠e:=λz=>hc (by simp[z]);rcases PH q with⟨Eu,rfl⟩|q'
   ·subst Eu
    exact hs _ _ nz hT
   ·exact hs _ _ nz (kp c o nz (λz=>hc (by simp[z])) q')) (λc hc=>by obtain⟨f0,f1,f2,f3,f4,f5⟩:=hf c hc;exact⟨hn c hc,f1,f2,f3,f4,f5⟩);refine⟨.ref s.heap.objs.size,_,I2,Z,⟨s.heap.objs.size,x,Z,λzs hz=>?_,nw⟩,⟨⟨_,by simpa using he'⟩,fo.1.to λo q=>hs _ o (iR D) q⟩,hn⟩;rw[dZ.inj I hz q1];exact e1
 done:=by
  intro X hP hw hK hc i ak s O H E I hf st hg;subst hP hw hK;obtain⟨xs,q1,nK⟩:=hg;obtain⟨its,r1,p1⟩:=q1.get I;obtain⟨⟨old,he⟩,h1⟩:=st;obtain⟨oi,iI,ci,_⟩:=h1.ob;have DS:∃o,s.heap.get? l=some o/\(o.cls= .type "list"\/o.cls= .type "tuple"):=by cases b<;>(obtain⟨o,ho,cc,_⟩:=p1;first|exact⟨o,ho,.inl cc⟩|exact⟨o,ho,.inr cc⟩)
  obtain⟨ol,nC,cl⟩:=DS;have nil:l≠it:=λz=>by subst z;rw[iI]at nC;cases nC;rw[ci]at cl;cases b<;>(rcases cl with h|h<;>simp[pD]at h)
  have hi:i=its.toArray.size:=by rw[cX,<-r1.length];exact nK.symm
  subst hi;refine wpAny_pyNext_enum_endD (Nz (I.ok.hd hc) nil) he ⟨h1,p1⟩ λh' kp=>⟨Z,?_⟩;exact I.uB (t':=s.toks) (fp:=[e,it]) (λc o hc q=>kp c o (λz=>hc (by simp[z])) q) hf
 self:=λ_ _ _ _ _ st h=>by obtain⟨⟨old,he⟩,_⟩:=st;exact wpAny_pyIter_enum he h
inductive a7b(K:aa)(b:Bool)(R:It->Hp->Prop)(vs:List V)(H1:Hp):Prop |mk (l:_)(h0:vs=[.ref l])(h1:(∃xs,dZ b K H1 l xs))(h2:R (wH K b l) H1)
def Z0(K:aa)(b:Bool)(ta:TA):TI:=λO H R=>ta O H λvs H1=>a7b K b R vs H1
theorem yl(K:aa){X:Cx}(hK:X.K=K)(b:Bool){elts:List Expr}{kt:Nat}{mL:Pos}{a:Expr}{ta:TA}{p pos:Pos}(hg:Gl X "enumerate")(hm:X.mg "enumerate"=none)(ha:PA X [a] ta)(hs:autoParam (starEach [a] X.env=[(false,eval a X.env)]) r8_._auto_1)(jb:autoParam (starEach [] X.env=[]) r8_._auto_1): PI X (.Tuple elts kt mL) (.Call (.Name "enumerate" p) [a] [] pos) (Z0 K b ta):=by
 subst hK;intro ak s O H R I h;refine Call_ (ng I hg hm PyProof.Rows.boot_enumerate (uj (aR (ha pos ak s O H _ I h) λus s1 ⟨vs,H1,I1,r1,q1⟩=>?_) (by rw[hs,jb]) (by rw[jb];rfl)));obtain⟨l,e,⟨xs,h1⟩,q⟩:=q1;subst e;obtain⟨u1,rfl,kg⟩:=vals1 r1;cases(show u1=Value.ref l from kg);obtain⟨DV,v1,p1⟩:=h1.get I1;refine a3z p1 λg zg ig kp=>wpAny_pyIter_enum zg ?_;refine⟨_,_,_,_,H1,Z,I1.kept (t':=s1.toks) kp,Qw (x6 (Pr _)),⟨⟨_,zg⟩,ig⟩,λc hc=>?_,q⟩;have hle:s1.heap.objs.size<=c:=by simp only[bZ,dX,gs]at hc;rcases hc with rfl|rfl<;>first|exact bB _|exact Nat.le_add_right _ _
 exact I1.nO hle (I1.aU.fresh hle)
theorem zr{K:aa}{b:Bool}{a:Addr}{xs:List V}{g:TG}{tb:TS}{D:Ends}{O:St}{H:Hp}(Pv:Nat->St->Hp->Prop)(h0:Pv 0 O H)(hl:∀i O H,i<=xs.length->Pv i O H->dZ b K H a xs) (hs:∀i x O H,xs[i]? =some x->Pv i O H->∀T H',Nw H H' T (.tup [.int i,x])->g (.ref T) O H' λσ2 H2=>tb {D with nx:=Pv (i+1),ct:=Pv (i+1),bk:=D.nx} σ2 H2)(hd:∀O H,Pv xs.length O H->D.nx O H): ∃W:Nat->Nat->St->Hp->Prop,(∃m,W 0 m O H)/\∀i m O H,W i m O H->((wH K b a).stop i H/\D.nx O H)\/((wH K b a).go i H/\∃N:St->Hp->Prop,(∀σ' H',N σ' H'->∃m',m'<m/\W (i+1) m' σ' H')/\∀x H',(wH K b a).gM i H x H'->g x O H' λσ2 H2=>tb {D with nx:=N,ct:=N,bk:=D.nx} σ2 H2):=by
 refine⟨λi m O H=>m=xs.length-i/\i<=xs.length/\Pv i O H,⟨xs.length,by simp,fw _,h0⟩,?_⟩;rintro i m O H ⟨rfl,hi,p⟩;have q:=hl i O H hi p;by_cases cm:i<xs.length
 ·refine .inr ⟨⟨xs,xs[i],q,by simp[cm]⟩,Pv (i+1),λσ' H' p'=>⟨xs.length-(i+1),aw,Z,cm,p'⟩,λx H' y=>?_⟩
  obtain⟨T,z,rfl,ez,nw⟩:=y;exact hs i z O H (ez xs q) p T H' nw
 ·have e:i=xs.length:=by lia
  subst e;exact .inl ⟨⟨xs,q,Z⟩,hd O H p⟩
theorem a22{K:aa}{b1 b2:Bool}{a1 a2:Addr}{xs ys:List V}{g:TG}{tb:TS}{D:Ends}{O:St}{H:Hp}(n:Nat)(hn:n=min xs.length ys.length)(Pv:Nat->St->Hp->Prop)(h0:Pv 0 O H)(hl:∀i O H,i<=n->Pv i O H->dZ b1 K H a1 xs/\dZ b2 K H a2 ys) (hs:∀i x y O H,xs[i]? =some x->ys[i]? =some y->Pv i O H->∀T H',Nw H H' T (.tup [x,y])->g (.ref T) O H' λσ2 H2=>tb {D with nx:=Pv (i+1),ct:=Pv (i+1),bk:=D.nx} σ2 H2)(hd:∀O H,Pv n O H->D.nx O H): ∃W:Nat->Nat->St->Hp->Prop,(∃m,W 0 m O H)/\∀i m O H,W i m O H->((rn K b1 b2 a1 a2).stop i H/\D.nx O H)\/((rn K b1 b2 a1 a2).go i H/\∃N:St->Hp->Prop,(∀σ' H',N σ' H'->∃m',m'<m/\W (i+1) m' σ' H')/\∀x H',(rn K b1 b2 a1 a2).gM i H x H'->g x O H' λσ2 H2=>tb {D with nx:=N,ct:=N,bk:=D.nx} σ2 H2):=by
 refine⟨λi m O H=>m=n-i/\i<=n/\Pv i O H,⟨n,by simp,fw _,h0⟩,?_⟩;rintro i m O H ⟨rfl,hi,p⟩;obtain⟨q1,q2⟩:=hl i O H hi p;by_cases cm:i<n
 ·have l1:i<xs.length:=by lia
  have l2:i<ys.length:=by lia
  refine .inr ⟨⟨xs,ys,xs[i],ys[i],q1,q2,by simp[l1],by simp[l2]⟩,Pv (i+1),λσ' H' p'=>⟨n-(i+1),aw,Z,cm,p'⟩,λx H' y=>?_⟩;obtain⟨T,z1,z2,rfl,e1,e2,nw⟩:=y;exact hs i z1 z2 O H (e1 xs q1) (e2 ys q2) p T H' nw
 ·have e:i=n:=by lia
  subst e;exact .inl ⟨⟨xs,ys,q1,q2,aw⟩,hd O H p⟩
section
variable {X:Cx}
end
set_option maxHeartbeats 1000000 in
theorem KC{X:Cx}{N:List Str}{js:List (Option Nat)}{elt tg iter:Expr}{ifs:List Expr}{scope:Scope}{pos:Pos}{wi:TI}{g:TG}{tt:TT}{te:TE}{i0:Nat}{x0:Str}{sL HQ:Pos}(hNd:X.N.Nodup)(El:X.N[i0]? =some x0)(E4:Loc X.env.scope x0)(hc:X.calm=true)(hN:wq X N js scope=true)(hS:pE X scope=true) (hi:PI X tg iter wi)(hg:∀cl s H fp ak,PG (cU X N scope cl s H fp ak) tg g)(ht:∀cl s H fp ak,wC (cU X N scope cl s H fp ak) ifs tt)(he:∀cl s H fp ak,PE (cU X N scope cl s H fp ak) elt te) (Zd:autoParam (swapsWith (.ListComp elt [⟨tg,iter,ifs,0⟩] scope pos) (some (.Name x0 sL)) HQ.line X.env=pure true) r8_._auto_1)(hf0:X.fn x0=true\/X.env.scope.names.lookup x0=some .local:=by first|exact .inl rfl|exact .inr rfl) (hs:autoParam (∀x,foldedSetIterable iter X.env x=pure x) f8_._auto_1):PS X (.Assign [.Name x0 sL] (.ListComp elt [⟨tg,iter,ifs,0⟩] scope pos) HQ) (xQ (AA js wi g tt te) (gj i0)):=by
 intro ak s O H D0 I h;have kP:=hS;unfold pE at kP;rw[cZ,cZ]at kP;obtain⟨⟨k1,k2⟩,k3⟩:=kP;have jd:scope.kind= .function:=cP.mp k1;have oZ:∀x∈scope.names,x.2= .free->∃c,X.env.cells.lookup x.1=some c:=λx hx e=>by have:=fF.mp k3 x hx;rw[e]at this;exact I.ok.has x.1 (.inl (cP.mp this))
 have m9:∀x∈scope.names,x.2≠ .cell:=λx hx e=>by have:=fF.mp k3 x hx;rw[e]at this;exact cJ this
 have vC:∀x∈scope.names,x.2= .local->scope.names.lookup x.1=some .local:=λx hx e=>by have:=fF.mp k3 x hx;rw[e]at this;exact cP.mp this
 obtain⟨cl,vM,c1,c2⟩:=FP oZ;rw[exec_Assign_Name_used _ _ _ _ Zd];refine aB (mD (aB ?_));show wpAny _ X.A (do let _<-comprehension (.ListComp elt [⟨tg,iter,ifs,0⟩] scope pos) scope X.env _ (newList []) false (eval iter X.env) (some (assign (.Name x0 sL) X.env))) _ _ s;refine aB (gr (P2 (use:=some (assign (.Name x0 sL) X.env)) (Q:=λ_ s'=>SP X ak D0 .next s') Z hs vM jd vC (aR (hi ak s O H _ I h) λv s1 h1=>aR h1 λqI s2 h2=>?_)) (λ_ s' hq=>bA (bA hq)) λ_ _ e=>e);obtain⟨it,fp,tn,J,H2,e,I2,T,lI,f2,h2⟩:=h2;subst e;have hD:H2 s2.heap.objs.size=none:=I2.aU.fresh (bB _);obtain⟨W,⟨m0,w0⟩,turn⟩:=h2 _ _ (Nw.of hD);refine jX (P1 m9 (by intro y hy;simp at hy) (λh₁ oW oS=>?_) jd);have kW:∀b∈fp,b<s2.heap.objs.size:=λb hb=>by obtain⟨o,e,_⟩:=T.obj _ _ lI b hb;exact bP e
 have I3:Inv X ak O (upd H2 s2.heap.objs.size (.lst [])) {s2 with heap:=s2.heap.push {cls:=.type "list",dict:=none,data:=.seq ([]:List Value).toArray}}:=I2.yS (its:=[]) (t':=s2.toks) .nil (fw _);generalize p5:s2.heap.push {cls:=.type "list",dict:=none,data:=.seq ([]:List Value).toArray}=h3 at I3 oW oS;have om:h3.objs.size=s2.heap.objs.size+1:=by rw[<-p5,mI]
 have vw:∀b o,s2.heap.get? b=some o->h3.get? b=some o:=λb o e=>by rw[<-p5];exact bK _ e
 have f3:∀b∈fp,gG X ak (upd H2 s2.heap.objs.size (.lst [])) b:=λb hb=>⟨by rw[aL (dg (kW b hb))];exact(f2 b hb).1,(f2 b hb).2⟩;have oO:∀b o,h3.get? b=some o->h₁.get? b=some o:=λb o e=>(oS.2 b (dg (bP e))).trans (bK _ e);have I4:Inv (cU X N scope cl {s2 with heap:=h3} (upd H2 s2.heap.objs.size (.lst [])) fp ak) [] (stC js O) (upd H2 s2.heap.objs.size (.lst [])) {s2 with heap:=h₁,toks:=s2.toks+([]:List (Str×Value)).length}:=I3.comp (s:={s2 with heap:=h3}) hN hS c1 c2 f3 (λb hb=>by show b<h3.objs.size;rw[om];exact x8 (kW b hb)) (by simpa using oW) oO;have oo:tn 0 h₁:=T.keep _ _ _ lI λb _ o e=>oO b o (vw b o e);have loop:codeAny (model X.prog X.w) X.A (.compLoop (.ListComp elt [⟨tg,iter,ifs,0⟩] scope pos) 0 (.ref it) (.ref s2.heap.objs.size) (compEnvC scope cl h3.objs.size X.env)) (compPost (model X.prog X.w) X.A X.xe (some (assign (.Name x0 sL) X.env)) (λ_ s'=>SP X ak D0 .next s') (.ref s2.heap.objs.size) h3.objs.size) {s2 with heap:=h₁,toks:=s2.toks+([]:List (Str×Value)).length}:=by
  refine FK (λn s'=>∃i σ' H',Inv (cU X N scope cl {s2 with heap:=h3} (upd H2 s2.heap.objs.size (.lst [])) fp ak) [] σ' H' s'/\tn i s'.heap/\(∀b∈fp,H' b=none)/\W i n σ' H') ?_ m0 ⟨0,_,_,I4,oo,λb hb=>(f3 b hb).1,w0⟩;rintro n s5 ⟨i,σ5,H5,I5,jE,mh,w5⟩;have iE:∀{H':Hp},(∀b∈fp,H' b=none)->∀b∈fp,gG (cU X N scope cl {s2 with heap:=h3} (upd H2 s2.heap.objs.size (.lst [])) fp ak) [] H' b:=λ{H'} hn b hb=>by
   obtain⟨_,q1,q2,q3,q4,q5⟩:=f3 b hb;refine⟨hn b hb,λz=>?_,I4.ok.mi b hb,.inl hb,λx c e=>q4 x c (c1 x c e),λp hp=>q5 p (by simpa[cU]using hp)⟩;have cm:b<h3.objs.size:=by rw[om];exact x8 (kW b hb)
   exact dg cm z
  rcases turn i n σ5 H5 w5 with⟨stop,qn⟩|⟨go,step⟩
  ·refine aR (T.done (cU X N scope cl {s2 with heap:=h3} (upd H2 s2.heap.objs.size (.lst [])) fp ak) rfl rfl rfl hc i [] s5 σ5 H5 _ I5 (iE mh) jE stop) λr s6 ⟨hr,I6⟩=>?_
   subst hr;obtain⟨m,hm,_⟩:=I6.loc;have u0:Un (cS X.stack) fp (upd H2 s2.heap.objs.size (.lst [])) H5 h3 s6.heap:=I6.au;have I7:Inv X ak O H5 s6:=I3.wu (s':=s6) (ch:=fp) I6.os u0 I6.aU I6.bare λb hb=>⟨(f3 b hb).2.2.2.1,(f3 b hb).2.1,(f3 b hb).2.2.2.2.1,(f3 b hb).2.2.2.2.2⟩;have hC:gG X ak H5 h3.objs.size:=I3.nO (bB _) I6.free;show wpAny _ X.A (assign (.Name x0 sL) X.env (.ref s2.heap.objs.size)) _ _ s6;refine wpAny_assign_Name (HI I7 hNd El E4 (show RelV (.ref s2.heap.objs.size) (.ref s2.heap.objs.size)from Z) (λs8 I8 Zh=>?_) hf0);obtain⟨a,sb,ha⟩:=Zh;have hCa:h3.objs.size≠a:=by
    rcases ha with rfl|ha
    ·exact hC.2.1
    ·exact λz=>hC.2.2.2.2.1 x0 a ha z.symm
   refine⟨m,hm.sameBut sb hCa,λh9 Zi=>⟨_,H5,?_,qn⟩⟩;exact I8.uB (t':=s8.toks) (fp:=[h3.objs.size]) (λb o hb e=>Zi.extBut b o (λz=>hb (by simp[z])) e) λb hb=>by rw[eB.mp hb];exact hC
  ·refine aR (T.item (cU X N scope cl {s2 with heap:=h3} (upd H2 s2.heap.objs.size (.lst [])) fp ak) rfl rfl rfl hc i [] s5 σ5 H5 _ I5 (iE mh) jE go) λr s6 ⟨u,hr,h6⟩=>?_
   subst hr;refine aR h6 λ_ s7 ⟨x,H7,I7,r7,y7,jl,vU⟩=>?_;have wI:=I7.pinned (iE vU) (T.obj _ _ jl);refine aR (hg _ _ _ _ _ _ s7 σ5 H7 x u _ wI r7 (step x H7 y7)) λ_ s8 ⟨σ8,H8,I8,q8⟩=>?_;refine aR (ht _ _ _ _ _ _ s8 σ8 H8 _ I8 q8) λok s9 ⟨H9,I9,q9⟩=>?_;have again:∀{s':ae}{σ7:St}{H7:Hp},Inv (cU X N scope cl {s2 with heap:=h3} (upd H2 s2.heap.objs.size (.lst [])) fp ak) ([]++qo fp s7.heap) σ7 H7 s'->(∃m',m'<n/\W (i+1) m' σ7 H7)->∃m,m<n/\∃i σ' H',Inv (cU X N scope cl {s2 with heap:=h3} (upd H2 s2.heap.objs.size (.lst [])) fp ak) [] σ' H' s'/\tn i s'.heap/\(∀b∈fp,H' b=none)/\W i m σ' H':=λ{s' σ7 H7} J7 n7=>by obtain⟨m',hm,w7⟩:=n7;refine⟨m',hm,i+1,σ7,H7,J7.rV,T.keep _ _ _ jl λb hb o e=>(J7.pin (b,o) (gK _ (gK _ (oN hb e)))).1,λb hb=>?_,w7⟩;obtain⟨o,e,d⟩:=T.obj _ _ jl b hb;exact(J7.pin (b,o) (gK _ (gK _ (oN hb e)))).2.1
   cases ok with |false=>rw[bh cJ]at q9⊢;exact again I9 q9 |true=>rw[bo rfl]at q9⊢;refine aR (he _ _ _ _ _ _ s9 σ8 H9 _ I9 q9) λyv iG ⟨y,jh,pN,uU,ys,vx,hz,oa⟩=>?_;refine aR (yL _ iG σ8 jh (.ref s2.heap.objs.size) [y] (.ref s2.heap.objs.size) [yv] (λ_ iC=>∃m',m'<n/\W (i+1) m' σ8 iC) pN Z (.cons uU .nil) ⟨_,ys,y,Z,Z,vx,hz,oa⟩) λ_ yf ⟨v11,iC,wJ,KA,uV⟩=>?_;exact again wJ uV
 exact P7 loop (T.self _ 0 _ _ _ oo loop)
theorem wD.a40{X:Cx}{st:Stmt}{rest:List Stmt}{t u:TS}(h1:OK X st t)(h2:eP X rest u):wD X (st::rest) (Hw t u):=by intro s O H D I h;refine wpAny_execs_cons (aR (h1 s O H {D with nx:=u D} I h) λf s1 q=>?_);cases f with |next=>obtain⟨σ',H',I',q⟩:=q;exact h2 [] s1 σ' H' D I' q |ret v=>exact q |brk=>exact q |cont=>exact q
section
variable {X:Cx}
end
section
variable {X:Cx}{ak:List (Addr×Obj)}{O:St}{H:Hp}{s:ae}
end
section
variable {X:Cx}
theorem a4e:eT X (.type "range") (λxs H Q=>∃n,xs=[.int n]/\∀p H',Nw H H' p (.qf 0 n)->Q (.ref p) H'):=by intro ak s O H xs us Q I r h;obtain⟨n,rfl,q⟩:=h;obtain⟨u,rfl,t,rfl⟩:=vals1 r;refine call_range_1 ?_;have hf:H s.heap.objs.size=none:=I.aU.fresh (bB _);refine⟨.ref s.heap.objs.size,upd H s.heap.objs.size (.qf 0 n),I.laid (t':=s.toks+1+1) (λb u e=>bK _ e) (bB _) ?_,Z,q _ _ (.of hf)⟩;exact⟨_,_,_,dw _ Z⟩
end
theorem Rx:isSubtype (.type "range_iterator") (.type "reversed")=pure false:=by rw[isSubtype_type];kernel_rfl
section
variable {prog:af}{w:World}{A:ai}{E:Value->ae->Prop}{s:ae}
abbrev uT(n:Nat):Obj:={cls:=.type "range_iterator",data:=.fields #[rawInt (0+((n:Int)-1)*1),rawInt (n:Int),rawInt (-1)]}
abbrev Cw(n:Nat):Bool:=Builtin.Range.rangeFitsLong 0&&Builtin.Range.rangeFitsLong n&&Builtin.Range.rangeFitsLong 1&&Builtin.Range.rangeFitsLong (-1)&&Builtin.Range.rangeFitsLong (0-1)&&Builtin.Range.rangeFitsLong (Builtin.Range.rangeSize 0 n 1)
theorem Kd{n:Nat}(h:n<2^62):Cw n=true:=by unfold Cw;rw[rangeSize_one];simp only[Builtin.Range.rangeFitsLong,cZ,A8];split<;>lia
theorem SS(r:Addr)(a b c:Int)(t u v:Tok)(hc0:¬(!(Builtin.Range.rangeFitsLong a&&Builtin.Range.rangeFitsLong b&&Builtin.Range.rangeFitsLong c&&Builtin.Range.rangeFitsLong (-c)&&Builtin.Range.rangeFitsLong (a-c)&&Builtin.Range.rangeFitsLong (Builtin.Range.rangeSize a b c)))=true):Meets (Builtin.«range.__reversed__» ⟨[.ref r],[]⟩) (λ_ R s=>s.heap.get? r=some {cls:=.type "range",dict:=none,data:=.fields #[.int a t,.int b u,.int c v],slots:=#[]}/\R (.ok (.ret (.ref s.heap.objs.size))) {s with heap:=s.heap.push {cls:=.type (if(Builtin.Range.rangeFitsLong a&&Builtin.Range.rangeFitsLong b&&Builtin.Range.rangeFitsLong c&&Builtin.Range.rangeFitsLong (-c)&&Builtin.Range.rangeFitsLong (a-c)&&Builtin.Range.rangeFitsLong (Builtin.Range.rangeSize a b c))=true then "range_iterator" else "longrange_iterator"),data:=.fields #[rawInt (a+(Builtin.Range.rangeSize a b c-1)*c),rawInt (Builtin.Range.rangeSize a b c),rawInt (-c)]},toks:=s.toks}):=.of_wp λprog w A R s h=>by
 obtain⟨hp,g,d,tk,os⟩:=s;obtain⟨hl,h⟩:=h
 wp_walk;exact⟨_,Z,h⟩
theorem a4c{l:Addr}{n:Nat}{t u v:Tok}{Q:Value->ae->Prop}(hn:n<2^62)(hl:s.heap.get? l=some {cls:=.type "range",data:=.fields #[.int 0 t,.int n u,.int 1 v]}) (h:Q (.ref s.heap.objs.size) {s with heap:=s.heap.push (uT n)}):wpAny (model prog w) A (call (.builtin "range.__reversed__") [.ref l]) Q E s:=by
 have hT:s.TypeIs (.ref l) "range":=⟨_,hl,Z⟩;refine lj PK hT F.entry_range_reversed (F.args_range_reversed_1 _) (SS l 0 n 1 t u v (by have:=Kd hn;unfold Cw at this;rw[this];decide)) ⟨hl,?_⟩;rw[bo (Kd hn)];have e:Builtin.Range.rangeSize 0 n 1=n:=by rw[rangeSize_one];split<;>lia
 rw[e];exact h
theorem a44{l:Addr}{n:Nat}{t u v:Tok}{Q₁:Value->ae->Prop}(hn:n<2^62)(hl:s.heap.get? l=some {cls:=.type "range",data:=.fields #[.int 0 t,.int n u,.int 1 v]}) (h:Q₁ (.ref s.heap.objs.size) {s with heap:=s.heap.push (uT n)}): codeAny (model prog w) A (.call (.builtin "reversed.__new__") ⟨[.type "reversed",.ref l],[]⟩) (wants Q₁ E) s:=by
 have hT:s.TypeIs (.ref l) "range":=⟨_,hl,Z⟩;refine codeAny_of_tree ?_;show wpAny _ A.in1 (do checkBuiltinCall "reversed.__new__" ⟨[.type "reversed",.ref l],[]⟩;again (.builtin "reversed.__new__" ⟨[.type "reversed",.ref l],[]⟩)) _ _ s;refine aB (ua (F.newCall_reversed_1 _) (bA ⟨plainId_quiet F.plain_reversed_new _,codeAny_builtin F.entry_reversed_new ?_⟩));rw[Around.under_plainId F.plain_reversed_new _];unfold Builtin.«reversed.__new__»;refine aB (ua (newClass_reversed _) ?_)
 try dsimp only
 refine aB (ua (a:=()) (by first|rfl|kernel_rfl) ?_);refine aB (ua (a:=()) (by first|rfl|kernel_rfl) ?_)
 try dsimp only
 refine aB (wpAny_specialOf hT PK.lookup ?_)
 try dsimp only
 refine aB (ua (PK.bind _) ?_)
 try dsimp only
 first |rw[bh (show¬((Value.builtin "range.__reversed__"==Value.none)=true)from cJ)] |(show wpAny _ _ (if(Value.builtin "range.__reversed__"==Value.none)=true then _ else _) _ _ _;rw[bh (show¬((Value.builtin "range.__reversed__"==Value.none)=true)from cJ)])
 refine aB (wO ?_);refine aB (m:=runValue (.call (.builtin "range.__reversed__") ⟨[.ref l],[]⟩)) (show wpAny _ _ (call (.builtin "range.__reversed__") [.ref l]) _ _ _ from a4c hn hl ?_)
 first |exact bA h |exact aB (bA (bA h))
theorem a4d{l:Addr}{n:Nat}{t u v:Tok}{Q:Value->ae->Prop}(hn:n<2^62)(hl:s.heap.get? l=some {cls:=.type "range",data:=.fields #[.int 0 t,.int n u,.int 1 v]}) (h:Q (.ref s.heap.objs.size) {s with heap:=s.heap.push (uT n)}):wpAny (model prog w) A (call (.type "reversed") [.ref l]) Q E s:=by refine callType_other (U:="range_iterator") (Q₁:=λobj s₁=>obj= .ref s.heap.objs.size/\s₁={s with heap:=s.heap.push (uT n)}) aO F.create_reversed ⟨_,_,F.mro_reversed⟩ F.made_reversed Rx (F.typeCall_reversed_1 _) (a44 hn hl ⟨Z,Z⟩) ?_;rintro obj s₁ ⟨rfl,rfl⟩;exact⟨⟨_,dw _ Z,Z⟩,h⟩
end
def wG(n:Nat):It:=⟨λi _=>i<n,λi H x H'=>H'=H/\x= .int ((n:Int)-1-i),λi _=>n<=i⟩
theorem Qs{P:af}{w:World}{K:aa}{tg:Expr}(it:Addr)(n:Nat):Turn P w K tg (wG n) [it] it (λi h=>IsRangeIter h it ((0+((n:Int)-1)*1)+(i:Nat)*(-1)) ((n:Int)-(i:Nat)) (-1)) where
 mem:=by simp
 obj:=λi h st b hb=>by
  have e:b=it:=by simpa using hb
  subst e;exact⟨_,st,λv z=>by have z':Data.fields _=Data.cell v:=z;cases z'⟩
 keep:=λi h h' st k=>k it (by simp) _ st
 item:=by
  intro X hP hw hK hc i ak s O H E I hf st hg;subst hP hw hK;obtain⟨f0,f1,f2,f3,f4,f5⟩:=hf it (by simp);have W:=Walks.range (prog:=X.prog) (w:=X.w) (I.ok.hd hc) it (0+((n:Int)-1)*1) (-1) n;refine W.item i s _ _ hg st λv h' tk hv gz kk=>?_;obtain⟨t,rfl⟩:=hv;have I1:Inv X ak O H {s with heap:=h',toks:=tk}:=I.turned (λb o hb e=>kk b o (by simpa using hb) e) f0 f1 f3 f4 f5;refine⟨_,Z,tN (s:={s with heap:=h',toks:=tk}) (n:="range_iterator") gz rfl rfl az ⟨.int ((n:Int)-1-i),H,I1,⟨t,?_⟩,⟨Z,Z⟩,gz,λb hb=>(hf b hb).1⟩⟩;have e:(0+((n:Int)-1)*1)+(i:Int)*(-1)=(n:Int)-1-i:=by lia
  rw[e]
 done:=by intro X hP hw hK hc i ak s O H E I hf st hg;subst hP hw hK;obtain⟨f0,f1,f2,f3,f4,f5⟩:=hf it (by simp);exact wpAny_pyNext_range_end (I.ok.hd hc) st (by have:n<=i:=hg;lia) λh' eb=>⟨Z,I.turned (t':=s.toks) (λb o hb e=>eb b o hb e) f0 f1 f3 f4 f5⟩
 self:=λ_ _ _ _ _ st h=>Gu st h
inductive a79(R:It->Hp->Prop)(vs:List V)(H1:Hp):Prop |mk (p:_)(n:_)(h0:vs=[.ref p])(h1:H1 p=some (.qf 0 n))(h2:0<=n)(h3:n<2^62)(h4:R (wG n.toNat) H1)
def YZ(ta:TA):TI:=λO H R=>ta O H λvs H1=>a79 R vs H1
theorem U6{X:Cx}{tg:Expr}{a:Expr}{ta:TA}{p pos:Pos}(hg:Gl X "reversed")(hm:X.mg "reversed"=none)(ha:PA X [a] ta)(hs:autoParam (starEach [a] X.env=[(false,eval a X.env)]) r8_._auto_1)(jb:autoParam (starEach [] X.env=[]) r8_._auto_1): PI X tg (.Call (.Name "reversed" p) [a] [] pos) (YZ ta):=by
 intro ak s O H R I h;refine Call_ (ng I hg hm PyProof.Rows.boot_reversed (uj (aR (ha pos ak s O H _ I h) λus s1 ⟨vs,H1,I1,r1,q1⟩=>?_) (by rw[hs,jb]) (by rw[jb];rfl)));obtain⟨l,n,e,hl,n0,n1,q⟩:=q1;subst e;obtain⟨u1,rfl,kg⟩:=vals1 r1;cases(show u1=Value.ref l from kg);obtain⟨t,u,v,e⟩:∃t u v,s1.heap.get? l=some {cls:=.type "range",data:=.fields #[.int 0 t,.int n u,.int 1 v]}:=I1.aU l _ hl;obtain⟨m,rfl⟩:∃m:Nat,n=m:=⟨n.toNat,aw⟩;refine a4d aw e ?_;have hit:IsRangeIter (s1.heap.push (uT m)) s1.heap.objs.size ((0+((m:Int)-1)*1)+((0:Nat):Int)*(-1)) ((m:Int)-((0:Nat):Int)) (-1):=by
  have e1:(0+((m:Int)-1)*1)+((0:Nat):Int)*(-1)=0+((m:Int)-1)*1:=by lia
  have e2:(m:Int)-((0:Nat):Int)=m:=by lia
  rw[e1,e2];exact dw _ rfl
 refine Gu hit ?_;refine⟨s1.heap.objs.size,[s1.heap.objs.size],_,_,H1,Z,I1.kept (t':=s1.toks) λb o e=>bK _ e,Qs _ m,hit,λb hb=>?_,q⟩;have e:b=s1.heap.objs.size:=by simpa using hb
 subst e;exact I1.nO (bB _) (I1.aU.fresh (bB _))
theorem a24{n:Nat}{g:TG}{tb:TS}{D:Ends}{O:St}{H:Hp}(Pv:Nat->St->Hp->Prop)(h0:Pv 0 O H) (hs:∀i O H,i<n->Pv i O H->g (.int ((n:Int)-1-i)) O H λσ2 H2=>tb {D with nx:=Pv (i+1),ct:=Pv (i+1),bk:=D.nx} σ2 H2)(hd:∀O H,Pv n O H->D.nx O H): ∃W:Nat->Nat->St->Hp->Prop,(∃m,W 0 m O H)/\∀i m O H,W i m O H->((wG n).stop i H/\D.nx O H)\/((wG n).go i H/\∃N:St->Hp->Prop,(∀σ' H',N σ' H'->∃m',m'<m/\W (i+1) m' σ' H')/\∀x H',(wG n).gM i H x H'->g x O H' λσ2 H2=>tb {D with nx:=N,ct:=N,bk:=D.nx} σ2 H2):=by
 refine⟨λi m O H=>m=n-i/\i<=n/\Pv i O H,⟨n,by simp,fw _,h0⟩,?_⟩;rintro i m O H ⟨rfl,hi,p⟩;by_cases cm:i<n
 ·refine .inr ⟨cm,Pv (i+1),λσ' H' q=>⟨n-(i+1),aw,Z,cm,q⟩,λx H' hy=>?_⟩
  obtain⟨rfl,rfl⟩:=hy;exact hs i O _ cm p
 ·have e:i=n:=by lia
  subst e;exact .inl ⟨bB _,hd O H p⟩
theorem uW(K:aa){X:Cx}(hK:X.K=K){a:Expr}{ta:TE}(ha:PE X a ta)(he:autoParam (∀whole,isTrue a X.env whole=(do let v<-whole;standAt a.pos;holding [v] (truthy v))) f8_._auto_1): PT X a (λO H Q=>ta O H λx H'=>∃k,Gf K x H' k/\Q k H'):=by subst hK;exact TL ha he
end _L
namespace _C
open _l
def ft(ns ms:List Int):List Int:=(ns.zip ms).map λp=>p.1*(aJ ms:Int)-p.2*(aJ ns:Int)
theorem Xv{ns ms:List Int}{z:Int}(h:z∈ft ns ms):∃a b,a∈ns/\b∈ms/\z=a*(aJ ms:Int)-b*(aJ ns:Int):=by obtain⟨⟨a,b⟩,hp,rfl⟩:=gu.mp h;exact⟨a,b,(uq hp).1,(uq hp).2,Z⟩
theorem lS{a b:Int}{m n:Nat}(h:a.natAbs<=m)(g:b.natAbs<=n):(a*b).natAbs<=m*n:=by rw[iV];exact rO h g
theorem FH{ns ms:List Int}(h1:∀z∈ns,z.natAbs<=1000)(h2:∀z∈ms,z.natAbs<=1000):∀z∈ft ns ms,z.natAbs<=2000000:=λz hz=>by obtain⟨a,b,ha,hb,rfl⟩:=Xv hz;have l1:=nc h1;have l2:=nc h2;have e1:=lS (b:=(aJ ms:Int)) (n:=1000) (h1 a ha) bN;have e2:=lS (b:=(aJ ns:Int)) (n:=1000) (h2 b hb) bN;omega
def oX(zs:List Int)(i:Nat):Nat:=aJ (zs.take i)
theorem M5:∀(xs ys:List Int),aJ (xs++ys)=max (aJ xs) (aJ ys) |[],ys=>by simp[aJ] |x::xs,ys=>by show max x.natAbs (aJ (xs++ys))=max (max x.natAbs (aJ xs)) (aJ ys);rw[M5 xs ys];lia
theorem ZY{zs:List Int}{i:Nat}{z:Int}(h:zs[i]? =some z):oX zs (i+1)=max (oX zs i) z.natAbs:=by
 unfold oX;rw[uo,h,M5];show max _ (max z.natAbs 0)=_
 lia
def qW(r:Rat):Rat:=if r.num<0 then-r else r
theorem a4R(r:Rat):(qW r).num=mm r.num:=by
 unfold qW mm;split
 ·rfl
 ·rfl
theorem a4T(r:Rat):(qW r).den=r.den:=by
 unfold qW;split
 ·rfl
 ·rfl
theorem a3M{a b:Int}(hb:0<b):0<=(Rat.divInt a b).num↔0<=a:=by rw[Rat.num_nonneg,uh hb]
theorem a4S{c L:Int}(hL:0<L):qW (Rat.divInt c L)=Rat.divInt (mm c) L:=by
 have h:=a3M (a:=c) hL;unfold qW mm;by_cases hc:c<0
 ·rw[bo hc,bo aw,Rat.neg_divInt]
 ·rw[bh hc,bh aw]
theorem NR{a b L:Int}(hL:0<L):Rat.divInt a L<=Rat.divInt b L↔a<=b:=by
 rw[Rat.le_iff_sub_nonneg,Pa _ _ aw aw,uh (jA hL hL),<-Int.sub_mul];constructor
 ·intro h
  have:=Int.nonneg_of_mul_nonneg_left h hL
  lia
 ·intro h
  exact lF aw aw
theorem NQ{a b L:Int}(hL:0<L):Rat.divInt a L<Rat.divInt b L↔a<b:=by rw[<-Rat.not_le,NR hL];lia
theorem Rw{a b l1 l2:Int}(h1:0<l1)(h2:0<l2):Rat.divInt b l2-Rat.divInt a l1=Rat.divInt (b*l1-a*l2) (l1*l2):=by rw[Pa _ _ aw aw,Int.mul_comm l2 l1]
theorem a3X{j p q h L:Int}(hp:p≠0)(hh:h≠0)(e:p*L=h*q):Rat.divInt (j*j*q*q) (p*p)=Rat.divInt ((j*L)^2) (h^2):=by
 rw[Rat.divInt_eq_divInt_iff (GX hp hp) (by rw[fU,fU,mG,mH];exact GX hh hh)];have e2:(p*L)*(p*L)=(h*q)*(h*q):=by rw[e]
 rw[fU,fU,mG,mH,fU,fU,mG,mH];have a1:j*j*q*q*(h*h)=(j*j)*((h*q)*(h*q)):=by ac_rfl
 have a2:j*L*(j*L)*(p*p)=(j*j)*((p*L)*(p*L)):=by ac_rfl
 rw[a1,a2,e2]
end _C
namespace _P
def mn(a b:Rat):Rat:=if b<a then b else a
theorem fY(a b:Rat):mn a b<=a:=by
 unfold mn;split
 ·next h=>exact Rat.le_of_lt h
 ·exact ug
theorem kF(a b:Rat):mn a b<=b:=by
 unfold mn;split
 ·exact ug
 ·next h=>exact Rat.not_lt.mp h
theorem lV{a b c:Rat}(h1:c<=a)(h2:c<=b):c<=mn a b:=by unfold mn;split<;>assumption
theorem yM(a b:Rat):mn a b=a\/mn a b=b:=by
 unfold mn;split
 ·exact .inr rfl
 ·exact .inl rfl
theorem vo{a b c:Rat}(hc:c=a\/c=b)(h1:c<=a)(h2:c<=b):mn a b=c:=by
 rcases hc with rfl|rfl
 ·exact Gz (fY _ _) (lV h1 h2)
 ·exact Gz (kF _ _) (lV h1 h2)
theorem Yo{a b c:Rat}(h:a<=b)(hc:0<=c):a<=b+c:=fi h (by have:=(Rat.add_le_add_left (c:=b)).mpr hc;rwa [Rat.add_zero]at this)
section
variable (n:Nat)(own:Nat->Rat)(L:Nat->Option Nat)(r f:Int)
def Pz(g:Nat->Rat):Nat->Rat |0=>g n |k+1=>match L (n-(k+1))with |some m=>mn (g (n-(k+1))) (Pz g k+((f*(m:Int):Int):Rat)) |none=>g (n-(k+1))
def fl(g:Nat->Rat)(i:Nat):Rat:=Pz n L f g (n-i)
end
section
variable {n:Nat}{own g:Nat->Rat}{L:Nat->Option Nat}{r f:Int}
theorem zw:fl n L f g n=g n:=by unfold fl;rw[Nat.sub_self];rfl
theorem zx{i m:Nat}(hi:i<n)(h:L i=some m):fl n L f g i=mn (g i) (fl n L f g (i+1)+((f*(m:Int):Int):Rat)):=by
 unfold fl;have e:n-i=(n-(i+1))+1:=by omega
 rw[e];show(match L (n-((n-(i+1))+1))with|some m=>_|none=>_)=_;have e2:n-((n-(i+1))+1)=i:=by omega
 rw[e2,h]
theorem zv{i:Nat}(hi:i<n)(h:L i=none):fl n L f g i=g i:=by
 unfold fl;have e:n-i=(n-(i+1))+1:=by lia
 rw[e];show(match L (n-((n-(i+1))+1))with|some m=>_|none=>_)=_;have e2:n-((n-(i+1))+1)=i:=by lia
 rw[e2,h]
theorem down{C:Nat->Prop}(hn:C n)(hs:∀i,i<n->C (i+1)->C i):∀i,i<=n->C i:=by
 have key:∀k,k<=n->C (n-k):=λk=>by induction k with |zero=>intro _;exact hn |succ k ih=>
  intro hk;refine hs _ bN ?_;have e:n-(k+1)+1=n-k:=by omega
  rw[e];exact ih bN
 intro i hi;have:=key (n-i) bN;have e:n-(n-i)=i:=by omega
 rwa [e]at this
end
open _r
theorem yN{n:Nat}{a b:Rat}(h1:Bd n a)(h2:Bd n b):Bd n (mn a b):=by rcases yM a b with e|e<;>rw[e]<;>assumption
theorem G8{n:Nat}{q:Rat}{z:Int}(h:Bd n q)(hz:z.natAbs<2^24):Bd (n+25) (q+(z:Rat)):=by have b:Bd 24 (z:Rat):=⟨hz,by show 1<2^24;decide⟩;exact(h.add b).mono aw
theorem a2b{n b:Nat}{g:Nat->Rat}{L:Nat->Option Nat}{f:Int}(ho:∀i,i<=n->Bd b (g i))(hL:∀i m,L i=some m->(f*(m:Int)).natAbs<2^24):∀i,i<=n->Bd (b+25*(n-i)) (fl n L f g i):=by
 refine down ?_ λi hi ih=>?_
 ·rw[zw];exact(ho n (bB _)).mono aw
 ·cases h:L i with |none=>rw[zv hi h];exact(ho i aw).mono aw |some m=>rw[zx hi h];exact yN ((ho i aw).mono aw) ((G8 ih (hL i m h)).mono aw)
def lst(n:Nat)(g:Nat->Rat):List Rat:=(List.range (n+1)).map g
theorem qF(n:Nat)(g:Nat->Rat):(lst n g).length=n+1:=by simp[lst]
theorem qG{n:Nat}(g:Nat->Rat){i:Nat}(h:i<=n):(lst n g)[i]? =some (g i):=by unfold lst;rw[cY,cI (by simp;lia),xi];rfl
theorem XX{n:Nat}{g g':Nat->Rat}{i:Nat}(h:∀k,k<=n->k≠i->g' k=g k):(lst n g).set i (g' i)=lst n g':=by
 apply Py;intro k;by_cases hk:k<=n
 ·rw[qG g' hk,List.getElem?_set]
  by_cases e:i=k
  ·subst e;rw[bo rfl,bo (by rw[qF];lia)]
  ·rw[bh e,qG g hk,h k hk (λz=>e z.symm)]
 ·rw[uv (by rw[List.length_set,qF];lia),uv (by rw[qF];lia)]
theorem DL{n:Nat}{g g':Nat->Rat}(h:∀k,k<=n->g' k=g k):lst n g=lst n g':=by
 apply Py;intro k;by_cases hk:k<=n
 ·rw[qG g hk,qG g' hk,h k hk]
 ·rw[uv (by rw[qF];lia),uv (by rw[qF];lia)]
end _P
namespace _O
open _P _C _l _r
abbrev Itm:=Option (List Int × Int)
def topR(rate sp:Int):Rat:=Rat.divInt ((sp*rate)^2) 10000
def cornO(j:Int)(ns ms:List Int):Option Rat:=if aJ (ft ns ms)=0 then none else some (Rat.divInt ((j*aJ ns*aJ ms)^2) ((aJ (ft ns ms):Int)^2))
def mnO(a:Rat):Option Rat->Rat |none=>a |some c=>mn a c
def betR(j rate:Int):Itm->Itm->Rat |some (ns,sp),some (ms,sq)=>mnO (mn (topR rate sp) (topR rate sq)) (cornO j ns ms) |_,_=>0
def atO(os:List Itm)(i:Nat):Itm:=(os[i]?).join
def ownF(j rate:Int)(os:List Itm):Nat->Rat |0=>0 |i+1=>betR j rate (atO os i) (atO os (i+1))
def leadF(os:List Itm)(i:Nat):Option Nat:=(atO os i).map λq=>aJ q.1
def ownL(j rate:Int)(os:List Itm):List Rat:=(List.range (os.length+1)).map (ownF j rate os)
theorem tX{os:List Itm}{i:Nat}{o:Itm}(h:os[i]? =some o):atO os i=o:=by unfold atO;rw[h];rfl
theorem a4E{os:List Itm}{i:Nat}(h:os.length<=i):atO os i=none:=by unfold atO;rw[uv h];rfl
theorem Ol(j rate:Int)(o:Itm):betR j rate o none=0:=by unfold betR;split<;>simp_all
theorem a4w(j rate:Int)(o:Itm):betR j rate none o=0:=by unfold betR;split<;>simp_all
theorem Uy(j rate:Int)(os:List Itm):∀n,n=os.length->ownF j rate os n=0 |0,_=>rfl |n+1,h=>by show betR j rate (atO os n) (atO os (n+1))=0;rw[a4E (i:=n+1) aw];exact Ol _ _ _
theorem Uv(j rate:Int)(os:List Itm):(ownL j rate os).length=os.length+1:=by simp[ownL]
theorem Uw(j rate:Int)(os:List Itm){i:Nat}(h:i<=os.length):(ownL j rate os)[i]? =some (ownF j rate os i):=by unfold ownL;rw[cY,cI (by simp;lia),xi];rfl
theorem KW(j rate:Int){os:List Itm}(h:os≠[]):ownL j rate os=[0]++(List.range (os.length-1)).map (λi=>ownF j rate os (i+1))++[0]:=by
 have h0:0<os.length:=GP.mpr h;apply Py;intro i;by_cases hi:i<=os.length
 ·rw[Uw j rate os hi]
  rcases Nat.eq_zero_or_pos i with rfl|hp
  ·rfl
  ·by_cases hl:i=os.length
   ·rw[Aj (by simp;lia),hl,Uy j rate os _ rfl]
    have:os.length-([0]++List.map (λi=>ownF j rate os (i+1)) (List.range (os.length-1))).length=0:=by simp;lia
    rw[this];rfl
   ·rw[Ak (by simp;lia),Aj (by simp;lia),cY]
    have e:i-[(0:Rat)].length=i-1:=rfl;rw[e,cI (by simp;lia),xi];show some _=some (ownF j rate os (i-1+1));rw[Nat.sub_add_cancel hp]
 ·rw[uv (by rw[Uv];lia),uv (by simp;lia)]
theorem xJ(rate sp:Int):0<=topR rate sp:=by
 unfold topR;rw[uh az,fU,fU,mG,mH];rcases Int.le_total 0 (sp*rate)with h|h
 ·exact lF h h
 ·exact PF h h
theorem RH(a:Int):0<=a^2:=by
 rw[fU,fU,mG,mH];rcases Int.le_total 0 a with h|h
 ·exact lF h h
 ·exact PF h h
theorem a3Y{j:Int}{ns ms:List Int}{c:Rat}(h:cornO j ns ms=some c):0<=c:=by
 unfold cornO at h;split at h
 ·cases h
 ·next h0=>
  cases h;rw[uh]
  ·exact RH _
  ·rw[fU,fU,mG,mH];exact jA aw aw
theorem a4x(j rate:Int)(o p:Itm):0<=betR j rate o p:=by
 unfold betR;split
 ·next ns sp ms sq=>
  have h:=lV (xJ rate sp) (xJ rate sq);unfold mnO;split
  ·exact h
  ·next c e=>exact lV h (a3Y e)
 ·exact ug
theorem Ux(j rate:Int)(os:List Itm):∀i,0<=ownF j rate os i |0=>ug |i+1=>a4x _ _ _ _
def OkI(o:Itm):Prop:=∀ns sp,o=some (ns,sp)->(∀z∈ns,(z.natAbs:Int)<=100)/\1<=sp/\sp<=20
theorem AH{a:Int}{m:Nat}(h:a.natAbs<=m):(a^2).natAbs<=m*m:=by rw[fU,fU,mG,mH];exact lS h h
theorem xK{rate sp:Int}(h1:1<=sp)(h2:sp<=20)(h3:10<=rate)(h4:rate<=200):Bd 64 (topR rate sp):=by
 have nN:(2:Nat)^64=18446744073709551616:=by decide
 have a:=AH (lS (a:=sp) (b:=rate) (m:=20) (n:=200) aw aw);exact jJ az (by rw[nN];lia) az
theorem O1{j:Int}{ns ms:List Int}{c:Rat}(h1:1<=j)(h2:j<=50)(hn:∀z∈ns,(z.natAbs:Int)<=100)(hm:∀z∈ms,(z.natAbs:Int)<=100)(h:cornO j ns ms=some c):Bd 64 c:=by
 have nN:(2:Nat)^64=18446744073709551616:=by decide
 have cb:=FH (λz hz=>by have:=hn z hz;lia) (λz hz=>by have:=hm z hz;lia) (ns:=ns) (ms:=ms);have hb:=nc cb;have l1:=nc (ns:=ns) (m:=100) λz hz=>by have:=hn z hz;lia
 have l2:=nc (ns:=ms) (m:=100) λz hz=>by have:=hm z hz;lia
 unfold cornO at h;split at h
 ·cases h
 ·next h0=>cases h;have a:=AH (lS (lS (a:=j) (b:=(aJ ns:Int)) (m:=50) (n:=100) aw aw) (b:=(aJ ms:Int)) (n:=100) aw);have b:=AH (a:=(aJ (ft ns ms):Int)) (m:=2000000) aw;refine jJ ?_ (by rw[nN];lia) (by rw[nN];lia);rw[fU,fU,mG,mH];exact GX aw aw
theorem yN{n:Nat}{a b:Rat}(h1:Bd n a)(h2:Bd n b):Bd n (mn a b):=by rcases yM a b with e|e<;>rw[e]<;>assumption
theorem Hd:Bd 64 (0:Rat):=⟨ az,az⟩
theorem a4y{j rate:Int}{o p:Itm}(h1:1<=j)(h2:j<=50)(h3:10<=rate)(h4:rate<=200)(ho:OkI o)(hp:OkI p):Bd 64 (betR j rate o p):=by
 unfold betR;split
 ·next ns sp ms sq=>
  obtain⟨a1,a2,a3⟩:=ho ns sp rfl;obtain⟨b1,b2,b3⟩:=hp ms sq rfl;have h:=yN (xK a2 a3 h3 h4) (xK b2 b3 h3 h4);unfold mnO;split
  ·exact h
  ·next c e=>exact yN h (O1 h1 h2 a1 b1 e)
 ·exact Hd
def OkIs(os:List Itm):Prop:=∀i,OkI (atO os i)
theorem KZ{j rate:Int}{os:List Itm}(h1:1<=j)(h2:j<=50)(h3:10<=rate)(h4:rate<=200)(ho:OkIs os):∀i,Bd 64 (ownF j rate os i) |0=>Hd |i+1=>a4y h1 h2 h3 h4 (ho i) (ho (i+1))
end _O
namespace _W
open PySem _L
def jw(pl ns:List Int):List Int:=List.zipWith (λa b=>a+b) pl ns
theorem G9{pl ns:List Int}(h:ns.length=pl.length):(jw pl ns).length=pl.length:=by unfold jw;rw[List.length_zipWith,h];exact Nat.min_self _
theorem a4P{pl ns:List Int}{i:Nat}{a b:Int}(h1:pl[i]? =some a)(h2:ns[i]? =some b):(jw pl ns)[i]? =some (a+b):=by unfold jw;rw[List.getElem?_zipWith,h1,h2]
def j9(rs pl:List Int):Bool:=(pl.zip rs).all λp=>decide (0<=p.1)&&decide (p.1<=p.2)
structure jV(rs pl:List Int):Prop where
 len:pl.length=rs.length
 at':∀(i:Nat)(x r:Int),pl[i]? =some x->rs[i]? =some r->0<=x/\x<=r
theorem Lc{rs pl:List Int}(h:pl.length=rs.length):j9 rs pl=true↔jV rs pl:=by
 unfold j9;rw[fF];constructor
 ·intro a
  refine⟨h,λi x r e1 e2=>?_⟩;have:=a (x,r) (iS ((xj (z:=(x,r))).mpr ⟨e1,e2⟩));rw[cZ,rH,rH]at this;exact this
 ·rintro a ⟨x,r⟩ hp
  obtain⟨i,hi⟩:=xf.mp hp;obtain⟨e1,e2⟩:=(xj (z:=(x,r))).mp hi;have:=a.at' i x r e1 e2;rw[cZ,rH,rH];exact this
end _W
namespace _L
open PySem PySem.Spec PyProof.Rows
inductive a6Y(K:aa)(x:V)(y:V)(H:Hp)(Q:VK):Prop |mk (a:_)(b:_)(xs:_)(ys:_)(h0:x= .ref a)(h1:y= .ref b)(h2:aQ K H a xs)(h3:aQ K H b ys)(h4:xs.length+ys.length<=sizeLine)(h5:∀c H',aA H H'->aQ K H' c (xs++ys)->Q (.ref c) H')
def TF(K:aa):R2:=λx y H Q=>a6Y K x y H Q
inductive a6z(K:aa)(x:V)(lo:Option Int)(hi:Option Int)(H:Hp)(Q:VK):Prop |mk (a:_)(xs:_)(h0:x= .ref a)(h1:aQ K H a xs)(h2:∀c H',aA H H'->aQ K H' c (gF xs lo hi)->Q (.ref c) H')
def Th(K:aa):V->Option Int->Option Int->Hp->VK->Prop:=λx lo hi H Q=>a6z K x lo hi H Q
theorem a3T{xs:List V}{lo hi:Option Int}(h1:_H.bI xs.length 0 lo=0)(h2:_H.bI xs.length xs.length hi=xs.length):gF xs lo hi=xs:=by unfold gF;rw[h1,h2];simp
section
variable {X:Cx}
theorem pF(K:aa)(hK:X.K=K):cj X (binaryOp .Add) (TF K):=by
 subst hK;intro ak s O H x y v u Q I rx ry h;obtain⟨a,b,xs,ys,rfl,rfl,ha,hb,hz,q⟩:=h;cases rx;cases ry;obtain⟨its,r1,p1,_⟩:=I.tuple ha;obtain⟨jo,r2,p2,_⟩:=I.tuple hb;by_cases e0:xs=[]
 ·subst e0
  have i0:its=[]:=r1.Dw.mpr rfl;subst i0;obtain⟨⟨cls,dd,data,sl⟩,ho,hc,n,hd⟩:=id p1;obtain⟨⟨O8,tV,data2,ow⟩,m3,fJ,n2,hd2⟩:=id p2;simp only at hc hd fJ hd2;subst hc hd fJ hd2;exact concat_meets ⟨_,ho,Z⟩ ⟨_,m3,Z⟩ noFill_tuple_add seq_tuple_add Pk Pl (Pm _ _) (tuple_addW0 a b _ jo.toArray n n2 dd tV sl ow (by simp)) ⟨ho,m3,⟨.ref b,H,I,Z,q _ _ (aA.refl H) hb⟩⟩
 ·refine _H.a4a p1 p2 (λz=>e0 (r1.Dw.mp z)) (λz=>⟨.ref a,H,I,Z,?_⟩) (λz=>?_) (by rw[<-r1.length,<-r2.length];exact hz)
  ·have e1:ys=[]:=r2.Dw.mp z
   subst e1;exact q _ _ (aA.refl H) (by rw[jj];exact ha)
  ·have hf:H s.heap.objs.size=none:=I.aU.fresh (bB _)
   have nw:Nw H (upd H s.heap.objs.size (.tup (xs++ys))) s.heap.objs.size (.tup (xs++ys)):=.of hf;refine⟨.ref s.heap.objs.size,_,I.laid (t':=s.toks) (o:=.tup (xs++ys)) (λb ob q=>bK _ q) (bB _) ?_,Z,q _ _ nw.same (aQ.of nw.at')⟩;exact⟨by rw[fj];exact hz,_,r1.append r2,IsTup.new _ _⟩
theorem AW(K:aa)(hK:X.K=K):wB X (Th K):=by
 subst hK;intro ak s O H x v vl vu lo hi sl Q I rx hs pl pu h;obtain⟨a,xs,rfl,Ey,q⟩:=h;by_cases hw:_H.bI xs.length 0 lo=0/\_H.bI xs.length xs.length hi=xs.length
 ·cases rx
  obtain⟨its,r,ht,hz⟩:=I.tuple Ey;have hlen:its.toArray.size=xs.length:=by rw[cX];exact r.length.symm
  refine⟨"tuple",_,wV.lookup,ht.typeIs,?_⟩;refine _H.a1y ht hs pl pu (by rw[hlen];exact hw) ⟨.ref a,H,I,Z,q _ _ (aA.refl H) ?_⟩;rw[a3T hw.1 hw.2];exact Ey
 ·refine IQ ak s O H _ v vl vu lo hi sl Q I rx hs pl pu ⟨a,xs,Z,Ey,hw,λr hr=>?_⟩
  have nw:Nw H (upd H r (.tup (gF xs lo hi))) r (.tup (gF xs lo hi)):=.of hr;exact q _ _ nw.same (aQ.of nw.at')
end
theorem a3S(xs:List V):gF xs none (some (-1))=xs.take (xs.length-1):=by
 unfold gF;have e:=_H.FQ (-1) xs.length xs.length;rw[_H.Ka];have e2:_H.bI xs.length xs.length (some (-1))=xs.length-1:=by simp at e;omega
 rw[e2];simp
section
variable {X:Cx}
theorem D9(K:aa)(h:X.K=K){o e:Expr}{to:TE}{t:TA}{apos cw:Pos}(ho:PE X o to)(ha:PA X [e] t) (nM:autoParam (attributeBase o "extend" X.env (eval o X.env)=eval o X.env) r8_._auto_1) (nH:autoParam (((backTo cw (starEach [e] X.env)).all (λx=>!x.1)&&(backToKw cw (keywordEach [] X.env)).all (λx=>x.1.isSome) &&decide ([e].length+([]:List Keyword).length+(if([]:List Keyword).isEmpty then 0 else 1)<30))=true) r8_._auto_1) (nF:autoParam ((apos.endLine==cw.line)=true) r8_._auto_1)(hs:autoParam (starEach [e] X.env=(false,eval e X.env)::starEach [] X.env) r8_._auto_1)(ny:autoParam ((backTo cw (starEach [] X.env)).any (·.1)=false) r8_._auto_1): PE X (.Call (.Attribute o "extend" apos) [e] [] cw) (uE K "list" Ky to t):=by subst h;exact yp PySem.F.plainAttrs_list PySem.F.slot_list_extend PySem.F.type_list_extend Xe ho ha nM nH nF hs ny
open PyProof
end
end _L
namespace _L
open PySem PySem.Spec PyProof.Rows
theorem a42{J:It}{n:Nat}(xv:Nat->V)(p:Nat->Bool)(g:Nat->Int){tt:TT}{te:TE}{Q:VK}{D:Addr}{H H0:Hp}(rest:St)(nw:Nw H H0 D (.lst []))(hz:n<=100000) (go:∀i H2,i<n->aA H H2->J.go i H2/\∀y H3,J.gM i H2 y H3->H3=H2/\y=xv i)(stop:∀H2,aA H H2->J.stop n H2) (ht:∀(i:Nat)(H2:Hp)(Q':Bool->Hp->Prop),i<n->aA H H2->(∀H3,aA H2 H3->Q' (p i) H3)->tt (some (xv i)::rest) H2 Q') (he:∀(i:Nat)(H2:Hp)(Q':VK),i<n->p i=true->aA H H2->(∀H3,aA H2 H3->Q' (.int (g i)) H3)->te (some (xv i)::rest) H2 Q') (hq:∀H',aA H H'->H' D=some (.lst ((((List.range n).filter p).map g).map V.int))->Q (.ref D) H'):jy J (gj 0) tt te Q D (none::rest) H0:=by
 have hD:=nw.no;refine qU n (λi O H2=>aA H H2/\H2 D=some (.lst ((((List.range i).filter p).map g).map V.int))/\∃v,O=v::rest) ?_ ?_ ?_
 ·exact⟨nw.same,nw.at',none,Z⟩
 ·rintro i O H2 hi ⟨s2,d2,v,rfl⟩
  obtain⟨g1,g2⟩:=go i H2 hi s2;refine⟨g1,λx H3 hy=>?_⟩;obtain⟨rfl,rfl⟩:=g2 x H3 hy;refine ht i _ _ hi s2 λH4 s4=>?_;have d4:=s4 _ _ d2;have er:(List.range (i+1)).filter p=(List.range i).filter p++(if p i=true then[i]else[]):=by rw[List.range_succ,List.filter_append];congr 1;cases h:p i<;>simp[h]
  cases h:p i with |true=>
   refine ba ?_;refine he i _ _ hi h (s2.trans s4) λH5 s5=>?_;have d5:=s5 _ _ d4;refine⟨_,d5,?_,n-(i+1),aw,Z,aw,λb o e=>?_,?_,_,Z⟩
   ·have:(100000:Nat)<sizeLine:=by decide
    have h1:=List.length_filter_le p (List.range i);rw[Ai]at h1;rw[bR,bR]
    lia
   ·rw[aL (eH e hD)];exact s5 b o (s4 b o (s2 b o e))
   ·rw[bp,er,h,bo Z,lA,lA];rfl |false=>refine aV ?_;refine⟨n-(i+1),aw,Z,aw,s2.trans s4,?_,_,Z⟩;rw[er,h];simpa using d4
 ·rintro O H2 ⟨s2,d2,v,rfl⟩
  exact⟨stop H2 s2,hq H2 s2 d2⟩
section
variable {K:aa} {H H' H2:Hp}
end
def Gn(z:Str):It:=⟨λi _=>i<z.cps.size,λi H x H'=>H'=H/\∃c,z.cps.toList[i]? =some c/\x= .str ⟨#[c]⟩,λi _=>z.cps.size<=i⟩
theorem Qr{P:af}{w:World}{K:aa}{tg:Expr}(it:Addr)(z:Str)(t:Tok)(ty:String)(E7:["enumerate","zip","dict_itemiterator","dict_reverseitemiterator","odict_iterator","itertools.zip_longest","itertools.pairwise"].contains ty=false) (W:∀A':ai,A'.handled=none->Walks P w A' it [it] [it] z.cps.size (SignAt z) (λi h=>h.IsStrIter it ty z t i)) (self:∀(A:ai)(i:Nat)(s:ae)(Q:Value->ae->Prop)(E:Value->ae->Prop),s.heap.IsStrIter it ty z t i->Q (.ref it) s->wpAny (model P w) A (pyIter (.ref it)) Q E s): Turn P w K tg (Gn z) [it] it (λi h=>h.IsStrIter it ty z t i/\i<=z.cps.size) where
 mem:=by simp
 obj:=λi h st b hb=>by
  have e:b=it:=by simpa using hb
  subst e;obtain⟨⟨o,e,c,d⟩,_⟩:=st;exact⟨o,e,λv z=>by rw[d]at z;cases z⟩
 keep:=λi h h' st k=>⟨let⟨o,e,r⟩:=st.1;⟨o,k it (by simp) o e,r⟩,st.2⟩
 item:=by intro X hP hw hK hc i ak s O H E I hf st hg;subst hP hw hK;obtain⟨f0,f1,f2,f3,f4,f5⟩:=hf it (by simp);refine(W X.A (I.ok.hd hc)).item i s _ _ hg st.1 λv h' tk hv gz kk=>?_;obtain⟨c,u,ec,rfl⟩:=hv;have I1:Inv X ak O H {s with heap:=h',toks:=tk}:=I.turned (λb o hb e=>kk b o (by simpa using hb) e) f0 f1 f3 f4 f5;obtain⟨o,e,cl,d⟩:=id gz;exact⟨_,Z,tN (s:={s with heap:=h',toks:=tk}) e cl d E7 ⟨.str ⟨#[c]⟩,H,I1,⟨u,Z⟩,⟨Z,c,by simpa using ec,Z⟩,⟨gz,hg⟩,λb hb=>(hf b hb).1⟩⟩
 done:=by intro X hP hw hK hc i ak s O H E I hf st hg;subst hP hw hK;obtain⟨f0,f1,f2,f3,f4,f5⟩:=hf it (by simp);obtain⟨st,hle⟩:=st;have ei:i=z.cps.size:=Nat.le_antisymm hle hg;subst ei;exact(W X.A (I.ok.hd hc)).done s _ _ st λh' tk eb=>⟨Z,I.turned (λb o hb e=>eb b o (by simpa using hb) e) f0 f1 f3 f4 f5⟩
 self:=λA i s Q E st h=>self A i s Q E st.1 h
section
variable {X:Cx} {tg:Expr}
inductive a75(R:It->Hp->Prop)(x:V)(H1:Hp):Prop |mk (z:_)(h0:x= .str z)(h1:R (Gn z) H1)
def YV(tl:TE):TI:=λO H R=>tl O H λx H1=>a75 R x H1
theorem KI{l:Expr}{tl:TE}(hl:PE X l tl):PI X tg l (YV tl):=by
 intro ak s O H R I h;refine aR (hl ak s O H _ I h) λv s1 ⟨x,H1,I1,r1,q1⟩=>?_;obtain⟨z,e,q⟩:=q1;subst e;obtain⟨t,rfl⟩:=r1;have fin:∀ty,["enumerate","zip","dict_itemiterator","dict_reverseitemiterator","odict_iterator","itertools.zip_longest","itertools.pairwise"].contains ty=false->(∀A':ai,A'.handled=none->Walks X.prog X.w A' s1.heap.objs.size [s1.heap.objs.size] [s1.heap.objs.size] z.cps.size (SignAt z) (λi h=>h.IsStrIter s1.heap.objs.size ty z t i))->(∀(A:ai)(i:Nat)(s:ae)(Q:Value->ae->Prop)(E:Value->ae->Prop),s.heap.IsStrIter s1.heap.objs.size ty z t i->Q (.ref s1.heap.objs.size) s->wpAny (model X.prog X.w) A (pyIter (.ref s1.heap.objs.size)) Q E s)->Gh X ak O tg R (.ref s1.heap.objs.size) {s1 with heap:=s1.heap.push {cls:=.type ty,data:=.fields #[.str z t,.int 0 0]}}:=λty h1 h2 h3=>by
  refine⟨s1.heap.objs.size,[s1.heap.objs.size],_,_,H1,Z,I1.kept (t':=s1.toks) λb o e=>bK _ e,Qr _ z t ty h1 h2 h3,⟨⟨_,dw _ Z,Z,Z⟩,fw _⟩,λb hb=>?_,q⟩;have e:b=s1.heap.objs.size:=by simpa using hb
  subst e;exact I1.nO (bB _) (I1.aU.fresh (bB _))
 cases ha:z.cps.all (·<128)
 ·exact wpAny_pyIter_wide ha (fin "str_iterator" az (λA' hA=>Walks.strWide hA _ z t) (λ_ _ _ _ _ st h=>wpAny_pyIter_striter_wide st h))
 ·exact wpAny_pyIter_ascii ha (fin "str_ascii_iterator" az (λA' hA=>Walks.strAscii hA _ z t) (λ_ _ _ _ _ st h=>wpAny_pyIter_striter_ascii st h))
theorem O4{z:Str}{f:Nat->Bool}{te:TE}{Q:VK}{D:Addr}{H H0:Hp}(rest:St)(nw:Nw H H0 D (.lst []))(hz:z.length<=1000) (hs:∀(c:Nat)(H2:Hp)(Q':VK),c∈z.cps.toList->aA H H2->(∀H3,aA H2 H3->Q' (.bl (f c)) H3)->te (some (.str ⟨#[c]⟩)::rest) H2 Q') (hq:∀H',aA H H'->H' D=some (.lst ((z.cps.toList.map f).map V.bl))->Q (.ref D) H'):jy (Gn z) (gj 0) jk te Q D (none::rest) H0:=by
 have hl:z.cps.toList.length=z.cps.size:=by simp
 refine O5 (xs:=z.cps.toList.map λc=>V.str ⟨#[c]⟩) (bs:=z.cps.toList.map f) rest nw (by simp) (by simpa[Str.length]using hz) ?_ ?_ ?_ hq
 ·intro i x H2 ex s2
  rw[cY]at ex;cases ec:z.cps.toList[i]? with |none=>rw[ec]at ex;cases ex |some c=>rw[ec]at ex;cases ex;refine⟨by have:=(eY.mp ec).1;show i<z.cps.size;omega,λy H3 ⟨e3,c',NG,e⟩=>⟨e3,?_⟩⟩;rw[ec]at NG;cases NG;exact e
 ·intro H2 s2
  show z.cps.size<=(z.cps.toList.map _).length;rw[bR,hl];exact bB _
 ·intro i x b H2 Q' ex eb s2 fH
  rw[cY]at ex eb;cases ec:z.cps.toList[i]? with |none=>rw[ec]at ex;cases ex |some c=>rw[ec]at ex eb;cases ex;cases eb;exact hs c H2 Q' (iS ec) s2 fH
theorem L7:cj X (compareOp .In) (λx y H Q=>∃c j,x= .str ⟨#[c]⟩/\y= .str j/\Q (.bl (decide (c∈j.cps.toList))) H):=by intro ak s O H x y v u Q I rx ry h;obtain⟨c,j,rfl,rfl,q⟩:=h;refine UJ ak s O H _ _ v u Q I rx ry ⟨_,_,Z,Z,?_⟩;rw[PySem.StrLaws.found_one];exact q
inductive a6R(K:aa)(x:V)(y:V)(H:Hp)(Q:VK):Prop |mk (p:_)(xs:_)(d:_)(ds:_)(h0:y= .ref p)(h1:aQ K H p xs)(h2:RD K H x d)(h3:aI K H xs ds)(h4:SeqAt.shaped d=true)(h5:(∀e∈ds,SeqAt.shaped e=true))(h6:Q (.bl (ds.any λe=>PyData.eqv e d)) H)
def Tx(K:aa):R2:=λx y H Q=>a6R K x y H Q
theorem YQ(K:aa)(hK:X.K=K)(hu:X.A.units+65<cLine):cj X (compareOp .In) (Tx K):=by
 subst hK;intro ak s O H x y v u Q I rx ry h;obtain⟨p,xs,d,ds,rfl,hx,hd,kN,sd,AY,q⟩:=h;cases ry;obtain⟨its,r,pl,hz⟩:=I.tuple hx;obtain⟨k1,k2⟩:=Ft I hu rx hd sd r kN AY;refine SeqAt.in_tupleAt (nS s.heap d) (show s.heap.IsTuple p its.toArray from pl) (λw hw=>k1 w (by simpa using hw)) ⟨.bl _,H,I,Z,?_⟩;have e:its.toArray.any (nS s.heap d)=ds.any λe=>PyData.eqv e d:=by rw[<-k2];simp
 rw[e];exact q
end
structure MA(K:aa)(C:Addr)(m qual:Str)(st:Stmt):Prop where ex:∃f fd,Meth K C m f/\gq K m qual st f fd
def eL(P:af)(w:World)(K:aa)(mg:bc)(au:Heap)(C:Addr)(m:Str)(k:Nat)(sp:Sp):Prop:=∃f fd ps,dS P w K mg au eM k f fd ps sp/\Meth K C m f/\Binds K fd ps []
structure CA(K:aa)(mg:bc)(C:Addr)(x qual:Str)(st:Stmt):Prop where
 LI:mg x=some (.ref C)
 ex:∃f fd,Mk K C f/\gq K "__init__" qual st f fd
def rk(P:af)(w:World)(K:aa)(mg:bc)(au:Heap)(C:Addr)(x:Str)(k:Nat)(sp:Sp):Prop:=∃f fd ps,dS P w K mg au eM k f fd ps sp/\Mk K C f/\Binds K fd ps []/\mg x=some (.ref C)
section
variable {P:af}{w:World}{K:aa}{mg:bc}{au:Heap}
theorem iH{C:Addr}{m qual:Str}{st:Stmt}{f:Addr}{oc:Value}{od an:Option Addr}{eG:Array (Option Value)}{kV doc pm aE ct:Value} (a:PySem.W.findIn K (.ref C) m=some (some (.ref f)))(i:PySem.W.isFn K (.ref f)=true) (l:K.lookup f=some ⟨oc,od,.func (PySem.W.fnOf m qual (iy st) (eA st) (aP st) .none kV doc pm an aE ct),eG⟩) (c:PySem.W.codeIn K aE qual=true)(k:PySem.W.keepIn K (.ref f)=true):MA K C m qual st:=⟨f,_,⟨a,i,k⟩,tO l c k⟩
theorem Oe{h:Heap}{C:Addr}{x qual:Str}{st:Stmt}{f:Addr}{oc:Value}{od an:Option Addr}{eG:Array (Option Value)}{kV doc pm aE ct:Value}(X:K.In h)(G:h.Ns mainGlobals mg) (aC:PySem.W.nsIn K mainGlobals x=some (some (.ref C)))(mk:PySem.W.makesIn K C=true)(kc:PySem.W.keepIn K (.ref C)=true) (a:PySem.W.findIn K (.ref C) "__init__"=some (some (.ref f)))(i:PySem.W.isFn K (.ref f)=true) (l:K.lookup f=some ⟨oc,od,.func (PySem.W.fnOf "__init__" qual (iy st) (eA st) (aP st) .none kV doc pm an aE ct),eG⟩) (c:PySem.W.codeIn K aE qual=true)(k:PySem.W.keepIn K (.ref f)=true):CA K mg C x qual st:=⟨rL X G aC,f,_,⟨mk,a,i,kc⟩,tO l c k⟩
theorem MA.has{C:Addr}{m qual:Str}{st:Stmt}{N ps:List Str}{k:Nat}{sp:Sp}(F:MA K C m qual st)(S:bj N ps (aP st))(len:∀vs H Q E,sp vs H Q E->vs.length=ps.length) (hb:∀(kV doc pm:Value)(an:Option Addr)(aE ct:Value)(us:List Value),us.length=ps.length->bindArgs (PySem.W.fnOf m qual (iy st) (eA st) (aP st) .none kV doc pm an aE ct) ⟨us,[]⟩=pure (ps.zip us)) (fg:∀(f:Addr)(aE:Value)(A:ai)(outer:List Env)(s:ae)(H:Hp)(vs:List V)(Q:VK)(E:XK),bV k (A.deeper (envOfC qual (aP st) s.heap.objs.size f aE))->sp vs H Q E->∃t,eP (eW eM P w K mg au N qual (aP st) f aE A outer s H E).lQ (eA st) t/\t {nx:=λ_ H'=>Q .aY H',rt:=Q} (start N vs) H):eL P w K mg au C m (k+1) sp:=by obtain⟨f,fd,hm,F⟩:=F.ex;exact⟨f,fd,ps,F.ok S len λaE A outer s H vs Q E=>fg f aE A outer s H vs Q E,hm,F.binds hb⟩
theorem CA.has{C:Addr}{x qual:Str}{st:Stmt}{N ps:List Str}{k:Nat}{sp:Sp}(F:CA K mg C x qual st)(S:bj N ps (aP st))(len:∀vs H Q E,sp vs H Q E->vs.length=ps.length) (hb:∀(kV doc pm:Value)(an:Option Addr)(aE ct:Value)(us:List Value),us.length=ps.length->bindArgs (PySem.W.fnOf "__init__" qual (iy st) (eA st) (aP st) .none kV doc pm an aE ct) ⟨us,[]⟩=pure (ps.zip us)) (fg:∀(f:Addr)(aE:Value)(A:ai)(outer:List Env)(s:ae)(H:Hp)(vs:List V)(Q:VK)(E:XK),bV k (A.deeper (envOfC qual (aP st) s.heap.objs.size f aE))->sp vs H Q E->∃t,eP (eW eM P w K mg au N qual (aP st) f aE A outer s H E).lQ (eA st) t/\t {nx:=λ_ H'=>Q .aY H',rt:=Q} (start N vs) H):rk P w K mg au C x (k+1) sp:=by obtain⟨f,fd,hm,F'⟩:=F.ex;exact⟨f,fd,ps,F'.ok S len λaE A outer s H vs Q E=>fg f aE A outer s H vs Q E,hm,F'.binds hb,F.LI⟩
end
section
variable {X:Cx}{k:Nat}{x m:Str}{C:Addr}{p pos apos:Pos}{o e:Expr}{es:List Expr}{t:TA}{ta:TE}{sp:Sp}
inductive OT(C:Addr)(m:Str)(sp:Sp)(t:TA)(O:St)(Q:VK)(x:V)(H1:Hp):Prop |mk (a:_)(dx:_)(fs:_)(h0:x= .ref a)(h1:H1 a=some (.ins C dx fs))(h2:fs.lookup m=none)(h3:t O H1 λvs H2=>sp (x::vs) H2 Q E0)
def HA(C:Addr)(m:Str)(sp:Sp)(ta:TE)(t:TA):TE:=λO H Q=>ta O H λx H1=>OT C m sp t O Q x H1
theorem LF{O:St}{Q:VK}{x:V}{H1:Hp}:rA C m sp [] E0 t O Q x H1=OT C m sp t O Q x H1:=by
 have e1:(λ(vs:List V) H1=>sp (x::(vs++[])) H1 Q E0)=λvs H1=>sp (x::vs) H1 Q E0:=by funext vs H1;rw[jj]
 refine propext ⟨λ⟨a,dx,fs,h0,h1,h2,h3⟩=>⟨a,dx,fs,h0,h1,h2,?_⟩,λ⟨a,dx,fs,h0,h1,h2,h3⟩=>⟨a,dx,fs,h0,h1,h2,?_⟩⟩
 ·rw[<-e1];exact h3
 ·rw[e1];exact h3
theorem yo{pl:Sem Bool}(F:eL X.prog X.w X.K X.mg X.au C m k sp)(c:gH X.K C)(hr:bV k X.A)(he:PE X o ta)(ha:PA X (e::es) t) (fo:autoParam (starEach (e::es) X.env=(false,eval e X.env)::starEach es X.env) r8_._auto_1)(dH:autoParam ((backTo pos (starEach es X.env)).any (·.1)=false) r8_._auto_1) (ht:eval (.Call (.Attribute o m apos) (e::es) [] pos) X.env=(do
 let ov<-eval o X.env
 standAt apos.atName
 let(f,first)<-holding [ov] (getMethod ov m pl)
 callWith pos f first (backTo pos (starEach (e::es) X.env)) (backToKw pos (keywordEach [] X.env))):=by rfl): PE X (.Call (.Attribute o m apos) (e::es) [] pos) (HA C m sp ta t):=by
 obtain⟨f,fd,ps,F,hm,hb⟩:=F;have h:=KN (pos:=pos) (apos:=apos) (pl:=pl) he c hm F hr hb .nil yw ha fo dH ht;intro ak s O H Q I hq;refine h ak s O H Q I ?_;show ta O H λx H1=>rA C m sp [] E0 t O Q x H1;simp only[LF];exact hq
theorem kA{pl:Sem Bool}(F:eL X.prog X.w X.K X.mg X.au C m k sp)(c:gH X.K C)(hr:bV k X.A)(he:PE X o ta) (ht:eval (.Call (.Attribute o m apos) [] [] pos) X.env=(do
 let ov<-eval o X.env
 standAt apos.atName
 let(f,first)<-holding [ov] (getMethod ov m pl)
 callWith pos f first (backTo pos (starEach [] X.env)) (backToKw pos (keywordEach [] X.env))):=by rfl): PE X (.Call (.Attribute o m apos) [] [] pos) (HA C m sp ta oj):=by
 obtain⟨f,fd,ps,F,hm,hb⟩:=F;have h:=KL (pos:=pos) (apos:=apos) (pl:=pl) he c hm F hr hb .nil yw ht;intro ak s O H Q I hq;refine h ak s O H Q I ?_;show ta O H λx H1=>rA C m sp [] E0 oj O Q x H1;simp only[LF];exact hq
def QV(C:Addr)(sp:Sp)(t:TA):TE:=λO H Q=>t O H λvs H1=>∀x dx,H1 x=none->H1 dx=none->dx≠x->sp (.ref x::vs) (upd (upd H1 dx (.own x)) x (.ins C dx [])) (λv H2=>v= .aY/\Q (.ref x) H2) E0
theorem qq(F:rk X.prog X.w X.K X.mg X.au C x k sp)(hr:bV (k+1) X.A)(hg:Gl X x)(ha:PA X (e::es) t)(fc:autoParam ((x==("__debug__":Str))=false) q8_._auto_1) (he:autoParam (starEach (e::es) X.env=(false,eval e X.env)::starEach es X.env) r8_._auto_1)(dH:autoParam ((backTo pos (starEach es X.env)).any (·.1)=false) r8_._auto_1): PE X (.Call (.Name x p) (e::es) [] pos) (QV C sp t):=by
 obtain⟨f,fd,ps,F,M,hb,hm⟩:=F;have h:=KO (pos:=pos) (p:=p) M F hr hg hm hb .nil yw ha fc he dH;intro ak s O H Q I hq;refine h ak s O H Q I ?_;have e1:(λ(vs:List V) H1=>∀x dx,H1 x=none->H1 dx=none->dx≠x->sp (.ref x::(vs++[])) (upd (upd H1 dx (.own x)) x (.ins C dx [])) (λv H2=>v= .aY/\Q (.ref x) H2) E0) =λvs H1=>∀x dx,H1 x=none->H1 dx=none->dx≠x->sp (.ref x::vs) (upd (upd H1 dx (.own x)) x (.ins C dx [])) (λv H2=>v= .aY/\Q (.ref x) H2) E0:=by funext vs H1;rw[jj]
 show t O H λvs H1=>∀x dx,H1 x=none->H1 dx=none->dx≠x->sp (.ref x::(vs++[])) (upd (upd H1 dx (.own x)) x (.ins C dx [])) (λv H2=>v= .aY/\Q (.ref x) H2) E0;rw[e1];exact hq
inductive IAt(C:Addr)(x:Str)(Q:VK)(v:V)(H1:Hp):Prop |mk (a dx:Addr)(fs:List (Str×V))(u:V)(h0:v= .ref a)(h1:H1 a=some (.ins C dx fs))(h2:fs.lookup x=some u)(h3:Q u H1)
theorem cV(T:gH X.K C)(hn:gp X.K C x)(he:PE X e ta)(hb:autoParam (attributeBase e x X.env (eval e X.env)=eval e X.env) r8_._auto_1): PE X (.Attribute e x pos) (λO H Q=>ta O H λv H1=>IAt C x Q v H1):=by intro ak s O H Q I h;refine a4C hb (aR (he ak s O H _ I h) λu s1 ⟨v,H1,I1,rx,a,dx,fs,w,ex,ea,l,q⟩=>?_);subst ex;obtain rfl:u=Value.ref a:=rx;exact N7 I1 ea T hn l λu' s2 I2 ru=>⟨w,H1,I2,ru,q⟩
inductive a7f(C:Addr)(x:Str)(D:Ends)(O:St)(y v:V)(H2:Hp):Prop |mk (a dx:Addr)(fs:List (Str×V))(h0:v= .ref a)(h1:H2 a=some (.ins C dx fs))(h2:fs.length<1000)(h3:D.nx O (upd H2 a (.ins C dx (fL x y fs))))
inductive a7h(C a:Addr)(x:Str)(D:Ends)(O:St)(z:V)(H3:Hp):Prop |mk (pA:Addr)(ir:List (Str×V))(h0:H3 a=some (.ins C pA ir))(h1:ir.length<1000)(h2:D.nx O (upd H3 a (.ins C pA (fL x z ir))))
inductive a7i(C:Addr)(x:Str)(tv:TE)(rd:V->V->Hp->VK->Prop)(D:Ends)(O:St)(v:V)(H1:Hp):Prop |mk (a dx:Addr)(fs:List (Str×V))(u:V)(h0:v= .ref a)(h1:H1 a=some (.ins C dx fs))(h2:fs.lookup x=some u)(h3:tv O H1 λy H2=>rd u y H2 λz H3=>a7h C a x D O z H3)
theorem fG{value:Expr}{tv:TE}{pos':Pos}(T:gH X.K C)(hn:gp X.K C x)(ha:PE X o ta)(hv:PE X value tv)(hs:autoParam (swapsWith value (some (.Attribute o x pos')) pos.line X.env=pure false) r8_._auto_1): PS X (.Assign [.Attribute o x pos'] value pos) (λD O H=>tv O H λy H1=>ta O H1 λv H2=>a7f C x D O y v H2):=by intro ak s O H D I h;refine P5 (aR (hv ak s O H _ I h) λu s1 ⟨y,H1,I1,ry,q⟩=>aR (ha ak s1 O H1 _ I1 q) λov s2 ⟨v,H2,I2,rx,a,dx,fs,ex,ea,l,q2⟩=>?_) hs;subst ex;obtain rfl:ov=Value.ref a:=rx;exact IV I2 ea T hn l ry λs3 I3=>⟨O,_,I3,q2⟩
theorem TU{op:Operator}{rd:V->V->Hp->VK->Prop}{value:Expr}{tv:TE}{mL:Pos}(T:gH X.K C)(hn:gp X.K C x)(ha:PE X o ta)(hv:PE X value tv)(Zm:a71 X op rd): PS X (.AugAssign (.Attribute o x mL) op value pos) (λD O H=>ta O H λv H1=>a7i C x tv rd D O v H1):=by intro ak s O H D I h;refine wpAny_AugAssign_AttributeAny (aR (ha ak s O H _ I h) λov s1 ⟨v,H1,I1,rx,a,dx,fs,u,ex,ea,l,q⟩=>?_);subst ex;obtain rfl:ov=Value.ref a:=rx;refine N7 I1 ea T hn l λu s2 I2 ru=>aR (hv ak s2 O H1 _ I2 q) λw3 s3 ⟨y,H2,I3,ry,q3⟩=>aR (Zm ak s3 O H2 _ y u w3 _ I3 ru ry q3) λw4 s4 ⟨z,H3,I4,rz,pA,ir,ea',l',q4⟩=>?_;exact IV I4 ea' T hn l' rz λs5 I5=>⟨O,_,I5,q4⟩
end
def cK(S:List Addr)(H H':Hp):Prop:=∀b o,H b=some o->b∉S->H' b=some o
theorem cK.refl(S:List Addr)(H:Hp):cK S H H:=λ_ _ e _=>e
theorem cK.of{S:List Addr}{H H':Hp}(s:aA H H'):cK S H H':=λb o e _=>s b o e
theorem cK.trans{S:List Addr}{H H1 H2:Hp}(a:cK S H H1)(b:cK S H1 H2):cK S H H2:=λc o e n=>b c o (a c o e n) n
theorem FR{S:List Addr}{H:Hp}{a:Addr}{o:HO}(h:a∈S):cK S H (upd H a o):=λb o' e n=>by have hb:b≠a:=λz=>n (by rw[z];exact h);rw[aL hb];exact e
def Gr:HO->Prop | .lst _=>True | .ins _ _ _=>True | .dK _=>True | .mM _=>True |_=>False
def cA(H H':Hp):Prop:=∀b o,¬Gr o->H b=some o->H' b=some o
section
variable {K:aa} {H H' H2:Hp}
theorem cA.refl:cA H H:=λ_ _ _ e=>e
theorem cA.trans(a:cA H H')(b:cA H' H2):cA H H2:=λc o n e=>b c o n (a c o n e)
theorem aA.v(s:aA H H'):cA H H':=λb o _ e=>s b o e
theorem cK.v{S:List Addr}(s:cK S H H')(h:∀x∈S,∀o,H x=some o->Gr o):cA H H':=λb o n e=>s b o e λz=>n (h b z o e)
theorem cA.upd{a:Addr}{o o':HO}(h:H a=some o)(m:Gr o):cA H (upd H a o'):=λb p n e=>by
 have hb:b≠a:=λz=>by rw[z,h]at e;cases e;exact n m
 rw[aL hb];exact e
theorem aQ.v{a:Addr}{xs:List V}(s:cA H H')(h:aQ K H a xs):aQ K H' a xs:=h.imp (λr=>r.imp (s _ _ (λz=>z)) λ⟨o,e⟩=>⟨o,s _ _ (λz=>z) e⟩) id
mutual
theorem RD.v(s:cA H H'):∀{x:V}(d:ah),dP d=true->RD K H x d->RD K H' x d |x,.none,_,h=>by simpa[RD]using h |x,.bool b,_,h=>by simpa[RD]using h |x,.int i,_,h=>by simpa[RD]using h |x,.str y,_,h=>by simpa[RD]using h |x,.list ds,n,h=>by simp[dP]at n |x,.tuple ds,n,h=>by rw[RD]at h⊢;obtain⟨a,xs,e,h1,h2⟩:=h;exact⟨a,xs,e,h1.v s,aI.v s ds (by simpa[dP]using n) h2⟩ |x,.dict _,_,h=>by simp[RD]at h
theorem aI.v (s:cA H H'):∀{xs:List V}(ds:List ah),bX ds=true->aI K H xs ds->aI K H' xs ds |xs,[],_,h=>by simpa[aI]using h |xs,d::ds,n,h=>by rw[aI]at h⊢;rw[bX,cZ]at n;obtain⟨y,ys,e,h1,h2⟩:=h;exact⟨y,ys,e,RD.v s d n.1 h1,aI.v s ds n.2 h2⟩
end
end
end _L
namespace _P
section
variable {n:Nat}{own:Nat->Rat}{L:Nat->Option Nat}{r f:Int}
end
end _P
namespace _O
open _P _l _C
end _O
namespace _P
section
variable {n:Nat}{own L5:Nat->Rat}{L L':Nat->Option Nat}{r f:Int}
end
section
variable {n:Nat}{own L5 q:Nat->Rat}{L:Nat->Option Nat}{r f r' f':Int}
end
end _P
namespace _O
open _P _l _C
end _O
namespace _P
section
variable {n:Nat}{own L5:Nat->Rat}{L L':Nat->Option Nat}{r f:Int}{c:Nat}
end
end _P
namespace _O
open _P
section
variable (j rate:Int)(os1 os2:List Itm)
end
end _O
namespace _P
section
variable {n:Nat}{own:Nat->Rat}{L:Nat->Option Nat}{r f:Int}
theorem a29{g:Nat->Rat}{i:Nat}(hi:i<=n):fl n L f g i<=g i:=by
 rcases Nat.lt_or_ge i n with h|h
 ·cases e:L i with |none=>rw[zv h e];exact ug |some m=>rw[zx h e];exact fY _ _
 ·have:i=n:=by lia
  subst this;rw[zw];exact ug
end
end _P
namespace _R
open _P _r _l
open _O (topR ownF leadF Itm OkIs)
theorem zH{n:Nat}{a b:Int}(hb:b≠0)(h2:b.natAbs<2^n):(Rat.divInt a b).den<2^n:=by obtain⟨-,e⟩:=DM (a:=a) hb;have l2:=_A.LQ (p:=a) hb;omega
structure Dd(D:Nat)(q:Rat):Prop where
 nn:0<=q
 den:q.den<2^D
theorem Dd.mono{D E:Nat}{q:Rat}(h:Dd D q)(l:D<=E):Dd E q:=⟨h.nn,fK h.den (wZ az l)⟩
theorem Dd.bd{D:Nat}{q:Rat}(h:Dd D q)(hl:q<=2000):Bd (D+11) q:=by
 have h1:=Rat.num_nonneg.mpr h.nn;have zo:¬((2000:Rat)<q):=Rat.not_lt.mpr hl;rw[Rat.lt_iff]at zo;have e1:(2000:Rat).num=2000:=rfl;have e2:(2000:Rat).den=1:=rfl;rw[e1,e2]at zo;have h2:q.num<=2000*(q.den:Int):=by lia
 refine⟨?_,fK h.den (wZ az aw)⟩;have h3:=h.den;have h4:q.num.natAbs<=2000*q.den:=by lia
 have h5:(2:Nat)^(D+11)=2^D*2048:=by rw[Nat.pow_add]
 rw[h5];have h6:2000*q.den<2000*2^D:=Nat.mul_lt_mul_of_pos_left h3 az
 lia
theorem Dd.mn{D:Nat}{a b:Rat}(h1:Dd D a)(h2:Dd D b):Dd D (mn a b):=by rcases yM a b with e|e<;>rw[e]<;>assumption
theorem Dd.add{D:Nat}{q:Rat}(h:Dd D q){z:Int}(hz:0<=z):Dd D (q+(z:Rat)):=by
 refine⟨Yo h.nn (by have:=Rat.intCast_le_intCast.mpr hz;exact this),?_⟩;rw[add_div,Rat.num_intCast,Rat.den_intCast];have e:(q.den:Int)*((1:Nat):Int)=(q.den:Int):=by lia
 rw[e];have hd:=q.den_pos;exact zH aw (by have:=h.den;lia)
theorem NP{a b:Int}(ha:0<=a)(hb:0<b):0<=Rat.divInt a b:=(uh hb).mpr ha
theorem div_pos{a b:Int}(ha:0<a)(hb:0<b):0<Rat.divInt a b:=by
 have h0:=NP (Int.le_of_lt ha) hb;refine Gy h0 λe=>?_;have h2:0<=Rat.divInt (-a) b:=by rw[<-Rat.neg_divInt,<-e];decide
 have:=(uh hb).mp h2
 lia
theorem Dd.mul{D m:Nat}{q:Rat}(h:Dd D q){a s:Int}(ha:0<=a)(hs:0<s)(hm:s.natAbs<2^m):Dd (D+m) (q*Rat.divInt a s):=by refine⟨Rat.mul_nonneg h.nn (NP ha hs),?_⟩;have h1:(Rat.divInt a s).den<2^m:=zH aw hm;rw[mul_div];have hd:=q.den_pos;have hd2:=(Rat.divInt a s).den_pos;refine zH (nU _ _) ?_;rw[iV];exact oM (by have:=h.den;lia) aw
theorem Hq(rate sp:Int):Dd 14 (topR rate sp):=⟨_O.xJ _ _,zH az az⟩
theorem Aw{rate sp:Int}(h1:1<=sp)(h2:sp<=20)(h3:10<=rate)(h4:rate<=200):topR rate sp<=1600:=by
 have e:(1600:Rat)=Rat.divInt 16000000 10000:=by decide+kernel
 rw[e];refine(_C.NR az).mpr ?_;have hp:sp*rate<=20*200:=Al h2 h4 aw aw;have Zl:0<=sp*rate:=lF aw aw;rw[fU,fU,mG,mH];have:=Al hp hp Zl az
 lia
theorem Uu{j rate:Int}{os:List Itm}(h1:1<=j)(h2:j<=50)(h3:10<=rate)(h4:rate<=200)(ho:OkIs os)(i:Nat):Dd 64 (ownF j rate os i):=⟨_O.Ux _ _ _ _,(_O.KZ h1 h2 h3 h4 ho i).den⟩
theorem a2a{D n:Nat}{g:Nat->Rat}{L:Nat->Option Nat}{f:Int}(hf:0<=f)(h:∀i,i<=n->Dd D (g i)):∀i,i<=n->Dd D (fl n L f g i):=by
 refine down ?_ ?_
 ·rw[zw];exact h n (bB _)
 ·intro i hi ih
  cases e:L i with |none=>rw[zv hi e];exact h i aw |some m=>rw[zx hi e];exact(h i aw).mn (ih.add (lF hf aw))
theorem a4v{j rate:Int}{o p:Itm}(h3:10<=rate)(h4:rate<=200)(ho:_O.OkI o):_O.betR j rate o p<=1600:=by cases o with |none=>rw[_O.a4w];decide+kernel |some q=>cases p with |none=>rw[_O.Ol];decide+kernel |some q'=>obtain⟨ns,sp⟩:=q;obtain⟨ms,sq⟩:=q';obtain⟨-,a1,a2⟩:=ho ns sp rfl;have ht:=Aw a1 a2 h3 h4;show _O.mnO (mn (topR rate sp) (topR rate sq)) (_O.cornO j ns ms)<=1600;cases _O.cornO j ns ms with |none=>exact fi (fY _ _) ht |some c=>exact fi (fY _ _) (fi (fY _ _) ht)
theorem Ut{j rate:Int}{os:List Itm}(h3:10<=rate)(h4:rate<=200)(ho:OkIs os):∀i,ownF j rate os i<=1600 |0=>by show(0:Rat)<=1600;decide+kernel |i+1=>a4v h3 h4 (ho i)
abbrev la:=Option (Rat × Int × Int)
def mX(r f:Int)(pc top R:Rat)(left:Int):la->Rat |none=>mn (mn (pc+(r:Rat)) top) (R+((f*(2*left-1):Int):Rat)) |some (sq,st,gn)=>mn (mn (mn (pc+(r:Rat)) top) (R+((f*(2*left-1):Int):Rat))) (sq*Rat.divInt (2*(st-gn-1)+1) (2*st))
def qz(r f:Int)(pc top R:Rat)(left:Int):la->Rat |none=>mn (mn (pc+((2*r:Int):Rat)) top) (R+((2*f*(left-1):Int):Rat)) |some (sq,st,gn)=>mn (mn (mn (pc+((2*r:Int):Rat)) top) (R+((2*f*(left-1):Int):Rat))) (sq*Rat.divInt (st-gn-1) st)
def yC:la->la |none=>none |some (sq,st,gn)=>some (sq,st,gn+1)
def pI(D:Nat)(pc:Rat):la->Prop |none=>True |some (sq,st,gn)=>0<=gn/\gn<=st/\st<=1000/\Dd D sq/\sq<=2000/\(st=0->pc=0)/\pc*(st:Rat)<=sq*((st-gn:Int):Rat)
def Halt(pc:Rat)(bf:la):Prop:=bf≠none/\pc=0
theorem vh{D:Nat}{pc:Rat}{sq:Rat}{st gn:Int}(h:pI D pc (some (sq,st,gn)))(hp:0<=pc)(hn:¬Halt pc (some (sq,st,gn))):gn<st/\0<sq/\0<pc:=by
 obtain⟨g0,g1,g2,hd,hl,hz,hh⟩:=h;have vA:0<pc:=Gy hp λe=>hn ⟨by simp,e.symm⟩;have fo:gn<st:=by
  rcases Int.lt_or_le gn st with h|h
  ·exact h
  ·have e:st-gn=0:=by lia
   rw[e]at hh;have e0:sq*((0:Int):Rat)=0:=Rat.mul_zero sq;rw[e0]at hh;exfalso;rcases Int.lt_or_le 0 st with h3|h3
   ·have h4:(0:Rat)<(st:Rat):=P9.mpr h3
    have h5:=Rat.mul_pos vA h4;exact absurd (Std.lt_of_lt_of_le h5 hh) (Rat.lt_irrefl)
   ·rw[hz aw]at vA;exact absurd vA (Rat.lt_irrefl)
 refine⟨fo,?_,vA⟩;refine Gy hd.nn λe=>?_;rw[<-e,Rat.zero_mul]at hh;have h4:(0:Rat)<(st:Rat):=P9.mpr (show(0:Int)<st by lia);exact absurd (Std.lt_of_lt_of_le (Rat.mul_pos vA h4) hh) (Rat.lt_irrefl)
section
variable {D:Nat}{r f:Int}{pc top R:Rat}{left:Int}{bf:la}
theorem a3t:qz r f pc top R left bf<=top:=by cases bf with |none=>exact fi (fY _ _) (kF _ _) |some q=>obtain⟨sq,st,gn⟩:=q;exact fi (fY _ _) (fi (fY _ _) (kF _ _))
theorem Xl:mX r f pc top R left bf<=top:=by cases bf with |none=>exact fi (fY _ _) (kF _ _) |some q=>obtain⟨sq,st,gn⟩:=q;exact fi (fY _ _) (fi (fY _ _) (kF _ _))
theorem a3u(hr:0<=r)(hf:0<=f)(hl:1<=left)(hp:Dd (D+10) pc)(ht:Dd (D+10) top)(hR:Dd (D+10) R)(hs:pI D pc bf)(hn:¬Halt pc bf):Dd (D+10) (qz r f pc top R left bf):=by have h1:=(hp.add (z:=2*r) aw).mn ht;have h2:=hR.add (z:=2*f*(left-1)) (lF aw aw);cases bf with |none=>exact h1.mn h2 |some q=>obtain⟨sq,st,gn⟩:=q;obtain⟨a,b,c⟩:=vh hs hp.nn hn;obtain⟨g0,g1,g2,hd,hl,hz,hh⟩:=hs;exact(h1.mn h2).mn (hd.mul (m:=10) aw aw aw)
theorem Xn(hr:0<=r)(hf:0<=f)(hl:1<=left)(hp:Dd (D+10) pc)(ht:Dd (D+10) top)(hR:Dd (D+10) R)(hs:pI D pc bf)(hn:¬Halt pc bf):Dd (D+11) (mX r f pc top R left bf):=by have h1:=((hp.add (z:=r) aw).mn ht).mono (show D+10<=D+11 by lia);have h2:=(hR.add (z:=f*(2*left-1)) (lF aw aw)).mono (show D+10<=D+11 by lia);cases bf with |none=>exact h1.mn h2 |some q=>obtain⟨sq,st,gn⟩:=q;obtain⟨a,b,c⟩:=vh hs hp.nn hn;obtain⟨g0,g1,g2,hd,hl,hz,hh⟩:=hs;exact(h1.mn h2).mn (hd.mul (m:=11) aw aw aw)
theorem add_pos{x:Rat}{z:Int}(hx:0<=x)(hz:0<z):0<x+(z:Rat):=by have h1:((0:Int):Rat)<(z:Rat):=P9.mpr hz;have h2:x+((0:Int):Rat)<x+(z:Rat):=Rat.add_lt_add_left.mpr h1;rw[show((0:Int):Rat)=0 from Z,Rat.add_zero]at h2;exact Std.lt_of_le_of_lt hx h2
theorem vn{a b:Rat}(ha:0<a)(hb:0<b):0<mn a b:=by rcases yM a b with e|e<;>rw[e]<;>assumption
theorem Xm(hr:1<=r)(hf:1<=f)(hl:1<=left)(hp:0<=pc)(ht:0<top)(hR:0<=R)(hs:pI D pc bf)(hn:¬Halt pc bf):0<mX r f pc top R left bf:=by have h1:=vn (vn (add_pos hp (show 0<r by lia)) ht) (add_pos hR (show 0<f*(2*left-1)from jA aw aw));cases bf with |none=>exact h1 |some q=>obtain⟨sq,st,gn⟩:=q;obtain⟨a,b,c⟩:=vh hs hp hn;obtain⟨g0,g1,g2,hd,hl,hz,hh⟩:=hs;exact vn h1 (Rat.mul_pos b (div_pos aw aw))
theorem NO(a:Int):Rat.divInt a 1=(a:Rat):=by
 conv=>rhs;rw[<-rK (a:Rat)]
 rfl
theorem a3N{a s:Int}(hs:0<s):Rat.divInt a s*(s:Rat)=(a:Rat):=by
 have e:(s:Rat)=Rat.divInt s 1:=by rw[NO]
 rw[e,Rat.divInt_mul_divInt _ _,Int.mul_one,Int.mul_comm a s];have e2:Rat.divInt (s*a) s=Rat.divInt (s*a) (s*1):=by rw[Int.mul_one]
 rw[e2,Rat.divInt_mul_left aw,NO]
theorem RC(hs:pI D pc bf)(hp:0<=pc)(hn:¬Halt pc bf):pI D (qz r f pc top R left bf) (yC bf):=by cases bf with |none=>trivial |some q=>
 obtain⟨sq,st,gn⟩:=q;obtain⟨a,b,c⟩:=vh hs hp hn;obtain⟨g0,g1,g2,hd,hl,hz,hh⟩:=hs;refine⟨aw,aw,g2,hd,hl,λe=>by lia,?_⟩;have h1:qz r f pc top R left (some (sq,st,gn))<=sq*Rat.divInt (st-gn-1) st:=kF _ _;have h2:(0:Rat)<=(st:Rat):=Rat.intCast_nonneg.mpr aw;have h3:=Rat.mul_le_mul_of_nonneg_right h1 h2;have h4:sq*Rat.divInt (st-gn-1) st*(st:Rat)=sq*((st-(gn+1):Int):Rat):=by
  rw[Rat.mul_assoc,a3N aw];congr 2
  lia
 rw[h4]at h3;exact h3
end
end _R
namespace _L
open PySem PySem.Spec PyProof.Rows
section
variable {X:Cx}
end
theorem N1{K:aa}{mg:bc}{x z:Str}{t:Tok}{h:Heap}(X:K.In h)(G:h.Ns mainGlobals mg)(a:PySem.W.nsIn K mainGlobals x=some (some (.str z t))):GV mg x (.str z):=⟨_,rL X G a,t,Z⟩
theorem a3Q(f:Array Value->Array Value)(o:Obj):(o.mapFields f).dict=o.dict:=by obtain⟨c,d,dt,sl⟩:=o;cases dt<;>rfl
def TrD(h B:Heap)(ex:Addr)(cls:Value)(dx:Option Addr)(fl:Value):Prop:=∃ob fs tb ot ts,h.get? ex=some ob/\ob.cls=cls/\ob.dict=dx/\ob.data= .fields fs/\fs[1]? =some (.ref tb)/\B.get? tb=none/\tb≠ex/\h.get? tb=some ot/\ot.data= .fields ts/\ts[3]? =some fl/\fs[2]? =some .none
def ji(B:Heap)(l:List Env)(ex:Addr)(cls:Value)(dx:Option Addr)(fl:Value)(h:Heap):Prop:=B.StaysIn h/\B.get? ex=none/\h.FunFrames B l/\TrD h B ex cls dx fl
theorem ji.there{B h:Heap}{l:List Env}{ex:Addr}{cls fl:Value}{dx:Option Addr}(x:ji B l ex cls dx fl h):∃ob,h.get? ex=some ob/\ob.cls=cls/\ob.dict=dx/\∃fs,ob.data= .fields fs/\fs[2]? =some .none:=by obtain⟨_,_,_,ob,fs,_,_,_,e,c,d,z,_,_,_,_,_,_,z2⟩:=x;exact⟨ob,e,c,d,fs,z,z2⟩
section
variable {M:Model}{A:ai}{E:Value->ae->Prop}{s:ae}{B:Heap}{env:Env}{outer:List Env}{L ex:Addr}{ob:Obj}{fs:Array Value}{head:Value}{nx:Bool}{Q:Unit->ae->Prop}{cls fl:Value}{dx:Option Addr}
theorem Nx(hA:A.frames=some (env::outer))(ff:s.heap.FunFrames B (env::outer))(hL:env.frame=some L)(ho:s.heap.get? ex=some ob)(st:B.StaysIn s.heap)(hB:B.get? ex=none)(hd:ob.data= .fields fs)(hz:1<fs.size)(fJ:fs[2]? =some .none) (q:∀h',ji B (env::outer) ex ob.cls ob.dict (rawInt L) h'->s.heap.UpToSlots h'->Q () {s with heap:=h'}): wpAny M A (do let a<-frameOf env;let pl<-entryPlaceOf L nx;let b<-EntryCells.newEntry head a .none (rawInt L) .none pl;setField (.ref ex) 1 b) Q E s:=by
 have kE:ex∉(env::outer).filterMap (·.frame):=λhm=>by obtain⟨_,o,e1,nf⟩:=ff.mem hm;rw[ho]at e1;cases e1;exact nf fs hd
 refine aB (wpAny_frameOf_fun hA ff hL λg1 k1=>aB (wpAny_entryPlaceOf λpl hp=>?_));unfold EntryCells.newEntry newFields;refine aB (jX ?_ (hp.sizeOk5 _ _ _ _ _));have o1:g1.get? ex=some ob:=(k1.2.1 ex kE).trans ho;have AE:B.StaysIn g1:=λb o e=>(k1.2.1 b λhm=>by rw[(ff.mem hm).1]at e;cases e).trans (st b o e);generalize hT:({cls:=.type "traceback",dict:=none,data:=.fields ([head,.ref L,.none,rawInt L,.none]++(if pl.isEmpty then List.replicate 6 Value.none else pl)).toArray}:Obj)=T;have o2:(g1.push T).get? ex=some ob:=bK T o1;refine wN o2 hd hz (q _ ?_ ?_);all_goals have ne:g1.objs.size≠ex:=x6 (bP o1)
 all_goals have keep:∀b o,b≠ex->g1.get? b=some o->((g1.push T).update ex (Obj.mapFields (·.setIfInBounds 1 (Value.ref g1.objs.size)))).get? b=some o:=λb o nb e=>by rw[xq _ _ (iR nb)];exact bK _ e
 all_goals have oH:∀b o,s.heap.get? b=some o->(∀vs,o.data≠ .fields vs)->b≠ex:=λb o e nf z=>by rw[z,ho]at e;cases e;exact nf fs hd
 ·have d3:=wY hd (·.setIfInBounds 1 (Value.ref g1.objs.size))
  have o3:=xp (Obj.mapFields (·.setIfInBounds 1 (Value.ref g1.objs.size))) o2 (GH d3);refine⟨λb o e=>keep b o (λz=>by rw[z,hB]at e;cases e) (AE b o e),hB,ff.of_keeps λb o e nf=>?_,?_⟩
  ·obtain⟨sl,e1⟩:=k1.2.2 b o e
   exact⟨_,keep b _ (oH b o e nf) e1,Z⟩
  ·refine⟨_,_,g1.objs.size,T,_,o3,Obj.cls_mapFields _ _,a3Q _ _,d3,by simp[hz],AE.fresh,ne,?_,by rw[<-hT],?_⟩
   ·rw[xq _ _ (iR ne)];exact dw g1 (by rw[<-hT];rfl)
   ·refine⟨?_,by simpa using fJ⟩
    first|(simp;done)|(rcases hp with rfl|⟨_,_,_,_,_,_,_,rfl⟩<;>simp)
 ·intro b o e nf
  obtain⟨sl,e1⟩:=k1.2.2 b o e;exact⟨sl,keep b _ (oH b o e nf) e1⟩
theorem WI(hA:A.frames=some (env::outer))(ff:s.heap.FunFrames B (env::outer))(hL:env.frame=some L)(ho:s.heap.get? ex=some ob)(st:B.StaysIn s.heap)(hB:B.get? ex=none)(hd:ob.data= .fields fs)(h1:fs[1]? =some .none)(fJ:fs[2]? =some .none) (q:∀h',ji B (env::outer) ex ob.cls ob.dict (rawInt L) h'->s.heap.UpToSlots h'->Q () {s with heap:=h'}):wpAny M A (noteFrame (.ref ex) env) Q E s:=by unfold noteFrame;simp only[hL];refine aB (fT ho hd h1 ?_);rw[bh az];exact Nx hA ff hL ho st hB hd (Hc.mp h1).1 fJ q
theorem Lm(hA:A.frames=some (env::outer))(hL:env.frame=some L)(x:ji B (env::outer) ex cls dx .none s.heap) (q:∀h',ji B (env::outer) ex cls dx (rawInt L) h'->s.heap.UpToSlots h'->Q () {s with heap:=h'}):wpAny M A (noteFrame (.ref ex) env) Q E s:=by
 obtain⟨st,hB,ff,ob,fs,tb,ot,ts,ho,rfl,rfl,hd,h1,zm,nt,ht,m7,h3,fJ⟩:=x;unfold noteFrame;simp only[hL];refine aB (fT ho hd h1 ?_);rw[bo (show(Value.ref tb !=Value.none)=true from by simp)];refine aB (fT ht m7 h3 ?_);rw[bh (show¬((Value.none==rawInt L)=true)from by simp[rawInt])];refine aB (wN ht m7 (Hc.mp h3).1 ?_);have other:∀b,b≠tb->(s.heap.update tb (Obj.mapFields (·.setIfInBounds 3 Value.none))).get? b=s.heap.get? b:=λb nb=>xq _ _ (iR nb);have oH:∀b o,s.heap.get? b=some o->(∀vs,o.data≠ .fields vs)->b≠tb:=λb o e nf z=>by rw[z,ht]at e;cases e;exact nf ts m7
 refine Nx (s:={s with heap:=s.heap.update tb (Obj.mapFields (·.setIfInBounds 3 Value.none))}) hA (ff.of_keeps λb o e nf=>⟨o,(other b (oH b o e nf)).trans e,Z⟩) hL ((other ex (iR nt)).trans ho) (λb o e=>(other b λz=>by rw[z,zm]at e;cases e).trans (st b o e)) hB hd (Hc.mp h1).1 fJ λh' y up=>q h' y λb o e nf=>up b o ((other b (oH b o e nf)).trans e) nf
theorem zu{l:List Env}(x:ji B l ex cls dx fl s.heap)(q:∀h',ji B l ex cls dx .none h'->s.heap.UpToSlots h'->Q () {s with heap:=h'}):wpAny M A (setFlight (.ref ex) none) Q E s:=by
 obtain⟨st,hB,ff,ob,fs,tb,ot,ts,ho,hc,hx,hd,h1,zm,nt,ht,m7,h3,fJ⟩:=x;have z3:3<ts.size:=(Hc.mp h3).1;have other:∀b,b≠tb->(s.heap.update tb (Obj.mapFields (·.setIfInBounds 3 ((none:Option Addr).elim Value.none λf=>rawInt f)))).get? b=s.heap.get? b:=λb nb=>xq _ _ (iR nb);have oH:∀b o,s.heap.get? b=some o->(∀vs,o.data≠ .fields vs)->b≠tb:=λb o e nf z=>by rw[z,ht]at e;cases e;exact nf ts m7
 unfold setFlight;refine aB (fT ho hd h1 ?_);rw[bo (show(Value.ref tb !=Value.none)=true from by simp)];refine wN ht m7 z3 (q _ ⟨λb o e=>(other b λz=>by rw[z,zm]at e;cases e).trans (st b o e),hB,ff.of_keeps λb o e nf=>⟨o,(other b (oH b o e nf)).trans e,rfl⟩,?_⟩ λb o e nf=>⟨o.slots,(other b (oH b o e nf)).trans e⟩);exact⟨ob,fs,tb,_,_,(other ex (iR nt)).trans ho,hc,hx,hd,h1,zm,nt,xp _ ht (GH (wY m7 _)),wY m7 _,by simp[z3],fJ⟩
theorem M0(hA:A.frames=some (env::outer))(ff:s.heap.FunFrames B (env::outer))(hL:env.frame=some L)(ho:s.heap.get? ex=some ob)(st:B.StaysIn s.heap)(hB:B.get? ex=none)(hd:ob.data= .fields fs)(h1:fs[1]? =some .none)(fJ:fs[2]? =some .none) (q:∀h',ji B outer ex ob.cls ob.dict .none h'->s.heap.UpToSlots h'->Q () {s with heap:=h'}):wpAny M A (leaving env (.ref ex)) Q E s:=by unfold leaving;refine aB (WI hA ff hL ho st hB hd h1 fJ λh1 x1 u1=>zu x1 λh2 x2 u2=>q h2 ?_ (u1.trans u2));obtain⟨a,b,⟨_,_,c⟩,d⟩:=x2;exact⟨a,b,c,d⟩
theorem Yi(hA:A.frames=some (env::outer))(hL:env.frame=some L)(x:ji B (env::outer) ex cls dx .none s.heap) (q:∀h',ji B outer ex cls dx .none h'->s.heap.UpToSlots h'->Q () {s with heap:=h'}):wpAny M A (leaving env (.ref ex)) Q E s:=by unfold leaving;refine aB (Lm hA hL x λh1 x1 u1=>zu x1 λh2 x2 u2=>q h2 ?_ (u1.trans u2));obtain⟨a,b,⟨_,_,c⟩,d⟩:=x2;exact⟨a,b,c,d⟩
end
end _L
namespace _L
open PySem PySem.Spec PyProof.Rows
open Builtin Builtin.ObjectAttr
def og:List Value:=[.type "ValueError",.type "Exception",.type "BaseException",.type "object"]
def lP:List Value->Bool | .ref _::r=>lP r |l=>l==og
theorem Ko(self:Value){l:List Value}(e:lP l=true):refuseLoop self "__setattr__" l=pure ():=by induction l with |nil=>simp[lP,og]at e |cons v r ih=>cases v with |ref c=>rw[refuseLoop_ref];exact ih (by simpa[lP]using e) |_=>have e':=cP.mp (show(_==og)=true from e);rw[e'];exact PySem.F.store_ValueError.passes self
theorem MN{t:String}(ht:(og.contains (.type t))=true):∀{l:List Value},lP l=true->l.contains (.type t)=true |l,e=>by induction l with |nil=>simp[lP,og]at e |cons v r ih=>cases v with |ref c=>rw[PB,ih (by simpa[lP]using e),Bool.or_true] |_=>have e':=cP.mp (show(_==og)=true from e);rw[e'];exact ht
def De(K:aa)(C:Addr):Bool:=(PySem.W.clsIn K C).any λcd=>lP cd.mro
section
variable {prog:af}{w:World}{A:ai}{E:Value->ae->Prop}{s:ae}{K:aa}{x C:Addr}{ox:Obj}{fs:Array Value}{name:Str}{v:Value}{Q:Unit->ae->Prop}
theorem S4(X:K.In s.heap)(hx:s.heap.get? x=some ox)(hc:ox.cls= .ref C)(hd:ox.dict=none)(hf:ox.data= .fields fs) (hs:PySem.W.findIn K (.ref C) "__setattr__"=some (some (.builtin "object.__setattr__")))(hp:De K C=true)(ht:PySem.W.takerIn K C name=some none)(hh:PySem.W.hasDictIn K C=true) (h:∀h',h'.get? x=some {ox with dict:=some s.heap.objs.size}->h'.Ns1 s.heap.objs.size (λy=>if y=name then some v else none)->(∀b o,b≠x->s.heap.get? b=some o->h'.get? b=some o)->Q () {s with heap:=h',toks:=s.toks+2}): wpAny (model prog w) A (setAttr (.ref x) name v) Q E s:=by
 have I:PySem.W.InstAt s.heap x ox C none:=⟨hx,hc,by unfold PySem.W.notCls;rw[hf],by rw[hd];trivial⟩;refine Pc X I hs ?_;have SF:=PySem.F.store_object;obtain⟨cd,dY,ho⟩:=Ae hp;have ne:cd.mro.isEmpty=false:=by cases q:cd.mro with|nil=>rw[q]at ho;simp[lP,og]at ho|cons _ _=>rfl
 have sub:PySem.W.Looks (model prog w) s.heap (isInstance (.ref x) (.type "object")) true:=I.type.andThen (PySem.W.looks_mroIn X (by unfold PySem.W.mroIn;rw[dY,Option.bind_some,bh (by rw[ne];decide),MN az ho]));refine Gx SF.slot.plain SF.entry (@PySem.W.check_slot (model prog w) _ _ {s with toks:=s.toks+1} "object.__setattr__" "object" "__setattr__" (.ref x) [.str name s.toks,v] [] _ SF.kind SF.split sub (SF.args (.ref x) (.str name s.toks) v) ?_);obtain⟨attr,ha,hr⟩:=Pq.mp ht;have hm:PySem.W.Looks (model prog w) s.heap (mroOf (.ref C)) cd.mro:=(Ac X dY).andThen .now;have L3:PySem.W.Looks (model prog w) s.heap (storeTaker? attr) none:=by cases attr with |none=>exact .now |some a=>obtain⟨b,hb,e⟩:=Pp.mp hr;refine(PySem.W.looks_takesIn X hb).andThen ?_;cases b with |false=>exact .now |true=>cases e
 rw[PySem.W.osa_eq,refuse_eq];refine aB (aB (jY (s:={s with toks:=s.toks+1}) I.type (aB (jY (s:={s with toks:=s.toks+1}) hm ?_))));rw[Ko _ ho];refine bA (aB (jY (s:={s with toks:=s.toks+1}) I.type (aB (jY (s:={s with toks:=s.toks+1}) (Pg X ha) (aB (jY (s:={s with toks:=s.toks+1}) L3 ?_))))));obtain⟨cd2,fJ,hd2⟩:=Ae hh;refine aB (bA (aB (aB (Gv (s:={s with toks:=s.toks+1}) hx ?_))));rw[hc];refine aB (jY (s:={s with toks:=s.toks+1}) (Ac X fJ) ?_);rw[hd2,hd,hf];rw[bh az];show wpAny _ _ (if(!true|| !typeHasDict (Value.ref C))=true then _ else _) _ _ _;rw[bh (by simp[typeHasDict])];have x1:(s.heap.push {cls:=.type "dict",data:=.dict #[]}).get? x=some ox:=bK _ hx;have nx:x≠s.heap.objs.size:=dg (bP hx);refine aB (wpAny_alloc' (aB (wpAny_update' x1 (bA ?_))));have gd:((s.heap.push {cls:=.type "dict",data:=.dict #[]}).update x λo=>{cls:=o.cls,dict:=some s.heap.objs.size,data:=o.data,slots:=o.slots}).get? s.heap.objs.size=some {cls:=.type "dict",data:=.dict #[]}:=(Heap.get?_update_ne _ _ _ _ nx.symm).trans (Heap.get?_push_at Z rfl);have n0:((s.heap.push {cls:=.type "dict",data:=.dict #[]}).update x λo=>{cls:=o.cls,dict:=some s.heap.objs.size,data:=o.data,slots:=o.slots}).Ns s.heap.objs.size (λ_=>none):=⟨_,#[],_,gd,Z,(λe he=>absurd he (by simp)),λ_=>rfl⟩;show wpAny _ _ (storeInDict s.heap.objs.size (.str name s.toks) name v) _ _ _;unfold storeInDict newKeyGuard;refine aB (bA (aB (wpAny_nsSet1 (Heap.Ns1.of_empty n0) λh2 n2 sb=>?_)));obtain⟨oD,esD,epD,e1,e2,e3⟩:=n2.count (Pb name v PySem.Within.nil);refine aB (wpAny_lookBehind e1 (by rw[e2];exact pastItsLine_dict (fz e3 (by rw[fA,List.length_nil,uf];lia))) ?_);refine bA (h h2 ?_ n2 λb o nb e=>?_)
 ·refine(sb.2 x nx).trans (xp _ x1 ?_)
  obtain⟨oc,od,Dn,eG⟩:=ox;cases hf;rfl
 ·exact(sb.2 b (dg (bP e))).trans ((Heap.get?_update_ne _ _ _ _ nb).trans (bK _ e))
end
end _L
namespace _L
open PySem PySem.Spec PyProof.Rows
def jx(ex C:Addr)(h:Heap):Prop:=∃ob fs,h.get? ex=some ob/\ob.cls= .ref C/\ob.dict=none/\ob.data= .fields fs/\fs[1]? =some .none/\fs[2]? =some .none
def gY(ex C dx:Addr)(h:Heap):Prop:=∃ob fs,h.get? ex=some ob/\ob.cls= .ref C/\ob.dict=some dx/\ob.data= .fields fs/\fs[1]? =some .none/\fs[2]? =some .none
structure nW(K:aa)(C:Addr)(f:Str):Prop where
 sa:PySem.W.findIn K (.ref C) "__setattr__"=some (some (.builtin "object.__setattr__"))
 ov:De K C=true
 tk:PySem.W.takerIn K C f=some none
 hd:PySem.W.hasDictIn K C=true
inductive a6w(K:aa)(f:Str)(D:Ends)(O:St)(y:V)(x:V)(H2:Hp):Prop |mk (ex:_)(C:_)(h0:x= .ref ex)(h1:H2 ex=some (.ext (jx ex C)))(h2:nW K C f)(h3:∀dx,H2 dx=none->dx≠ex->D.nx O (upd (upd H2 dx (.xd [(f,y)])) ex (.ext (gY ex C dx))))
def Sf(K:aa)(ta tv:TE)(f:Str):TS:=λD O H=>tv O H λy H1=>ta O H1 λx H2=>a6w K f D O y x H2
section
variable {X:Cx}{o e value:Expr}{f:Str}{pos pos' mL:Pos}{ta tv:TE}
theorem CY(K:aa)(hK:X.K=K)(ha:PE X o ta)(hv:PE X value tv)(hs:autoParam (swapsWith value (some (.Attribute o f pos')) pos.line X.env=pure false) r8_._auto_1):PS X (.Assign [.Attribute o f pos'] value pos) (Sf K ta tv f):=by
 subst hK;intro ak s O H D I h;refine P5 (aR (hv ak s O H _ I h) λu s1 ⟨y,H1,I1,ry,q⟩=>aR (ha ak s1 O H1 _ I1 q) λov s2 ⟨x,H2,I2,rx,ex,C,e1,ee,xc,q2⟩=>?_) hs;subst e1;obtain rfl:ov=Value.ref ex:=rx;obtain⟨⟨ob,fs,g1,g2,g3,g4,g5,g6⟩,_,_⟩:=(show eQ X.prog X.w H2 s2.heap ex (.ext (jx ex C))from I2.aU ex _ ee);refine S4 I2.dG g1 g2 g3 g4 xc.sa xc.ov xc.tk xc.hd λh' k1 k2 k3=>?_;have ne:s2.heap.objs.size≠ex:=x6 (bP g1);have fr:H2 s2.heap.objs.size=none:=I2.aU.fresh (bB _);obtain⟨oD,es,ep,d1,d2⟩:=id k2;have ZE:(s2.heap.push oD).get? s2.heap.objs.size=some oD:=dw _ (by obtain⟨oc,od,Dn,eG⟩:=oD;have:Dn= .dict es ep:=d2.1;subst this;rfl);have hd1:eQ X.prog X.w (upd H2 s2.heap.objs.size (.xd [(f,y)])) (s2.heap.push oD) s2.heap.objs.size (.xd [(f,y)]):=by
  refine⟨_,k2.at λo e=>?_,λg=>?_⟩
  ·rw[d1]at e;cases e;exact ZE
  ·by_cases q:g=f
   ·subst q
    simp only[List.lookup,wU,rF];exact ry
   ·have:(g==f)=false:=by simpa using q
    simp only[List.lookup,this,bh q];trivial
 have J1:=I2.laid (a:=s2.heap.objs.size) (o:=.xd [(f,y)]) (h':=s2.heap.push oD) (t':=s2.toks+2) (λb u q=>bK _ q) (bB _) hd1;have J2:=J1.write (x:=ex) (e:=ex) (o:=.ext (gY ex C s2.heap.objs.size)) (h':=h') (t':=s2.toks+2) (by rw[aL ne.symm,ee];trivial) (.inl Z) (λb u nb e=>by
  rcases PH e with⟨rfl,rfl⟩|e
  ·exact d1
  ·exact k3 b u nb e) ⟨_,k1⟩ ⟨⟨_,fs,k1,g2,Z,g4,g5,g6⟩,⟨_,k1⟩,λh1 h2 ⟨jn,ir,z1,z2⟩ k=>⟨jn,ir,k _ z1,z2⟩⟩;exact⟨O,_,J2,q2 _ fr ne⟩
end
abbrev Np(rest:List Value):Obj:={cls:=.type "tuple",data:=.seq rest.toArray}
abbrev Fp(C t:Addr):Obj:={cls:=.ref C,data:=.fields #[.ref t,.none,.none,.none,.bool false,.none]}
abbrev iu(h:Heap)(C:Addr)(rest:List Value):Heap:=(h.push (Np rest)).push (Fp C h.objs.size)
section
variable {prog:af}{w:World}{A:ai}{E:Value->ae->Prop}{h:Heap}{g:Array GenState}{d:Drawn}{t:Nat}{os:OsState}
variable {nm q:Str}{C N fI:Addr}{bs bm dJ:List Value}{hdct:Bool}{sn:List Str}{sub:List Value}{ab:Bool}{col:Option Bool}{dd:Option Addr}{k0 k1 k2 k3 k5:Option Value}{B newId oQ:String}{mN:bc}{rest:List Value}{oI:Obj}
theorem Fq:(iu h C rest).get? (h.objs.size+1)=some (Fp C h.objs.size):=by have:=dw (h.push (Np rest)) (o:=Fp C h.objs.size) rfl;rwa [mI]at this
theorem p9{b:Addr}{o:Obj}(e:h.get? b=some o):(iu h C rest).get? b=some o:=bK _ (bK _ e)
theorem QF(F:ExcBaseFacts B newId oQ dJ)(T:OwnTail h dJ bm){Q:Fin->ae->Prop}(hC:h.get? C=some (excClassObj nm q C N bs bm hdct sn sub ab col dd k0 k1 k2 k3 k5 newId))(hn:h.Ns N mN)(hi:mN "__init__"=some (.ref fI)) (hf:h.get? fI=some oI)(Er:oI.cls= .type "function")(hz:rest.length<=sizeLine) (hq:wpAny (model prog w) A (call (.ref fI) (.ref (h.objs.size+1)::rest)) (λr s'=>r= .none/\Q (.done (.ret (.ref (h.objs.size+1)))) s') E ⟨iu h C rest,g,d,t,os⟩): wpAny (model prog w) A (Builtin.«type.__call__» ⟨.ref C::rest,[]⟩) Q E ⟨h,g,d,t,os⟩:=by
 repeat (first|with_reducible refine rE hC ?_|with_reducible refine wpAny_madeBy_exc hC ?_|wp_step)
 refine codeAny_call_builtin_code (Code.quiet_builtin _ F.quiet) (wpAny_check_new_subT F T hC (codeAny_exc_new_subT F T hC ?_ hz));show wpAny _ _ _ _ _ _;have c1:=p9 (C:=C) (rest:=rest) hC;have f1:=p9 (C:=C) (rest:=rest) hf;have n1:(iu h C rest).Ns N mN:=let⟨o,es,ep,e,r⟩:=hn;⟨o,es,ep,p9 e,r⟩;have x1:=Fq (h:=h) (C:=C) (rest:=rest);have cc:(Value.ref C::bm).contains (.ref C)=true:=by simp
 have T1:=T.keeps (h':=iu h C rest) λb o e=>p9 e;unfold isInstance
 repeat (first|with_reducible refine rE x1 ?_|(with_reducible refine Gw c1 ?_;rw[cc])|wp_step)
 show wpAny _ _ (typeLookup (.ref C) _) _ _ _;refine wpAny_typeLookup_tail c1 n1 T1 F.mroIs F.init.lookup ?_;rw[hi];refine gI (aB ?_);unfold bindSpecial;refine aB (wpAny_typeOf (T:="function") ⟨_,f1,Er⟩ ?_);rw[bo az];refine bA (aB (gr hq (λr s' ⟨e,z⟩=>?_) λ_ _ z=>z));subst e
 wp_walk;exact z
theorem Od(F:ExcBaseFacts B newId oQ dJ)(T:OwnTail h dJ bm){Q:Value->ae->Prop}(hC:h.get? C=some (excClassObj nm q C N bs bm hdct sn sub ab col dd k0 k1 k2 k3 k5 newId))(hn:h.Ns N mN)(hi:mN "__init__"=some (.ref fI)) (hf:h.get? fI=some oI)(Er:oI.cls= .type "function")(hz:rest.length<=sizeLine) (hq:wpAny (model prog w) (A.under (.builtin "type.__call__" ⟨.ref C::rest,[]⟩)) (call (.ref fI) (.ref (h.objs.size+1)::rest)) (λr s'=>r= .none/\Q (.ref (h.objs.size+1)) s') E ⟨iu h C rest,g,d,t,os⟩): wpAny (model prog w) A (call (.ref C) rest) Q E ⟨h,g,d,t,os⟩:=by
 have f1:=tc_lookup;have f2:=tc_bind (.ref C);have hT:(⟨h,g,d,t,os⟩:ae).TypeIs (.ref C) "type":=⟨_,hC,Z⟩;refine pO (codeAny_of_tree ?_);show wpAny _ _ (callAny (.ref C) _) _ _ _
 repeat (any_goals (first|assumption|with_reducible refine rE hC ?_|wp_step))
 refine⟨Z,codeAny_call_builtin_at (Code.quiet_builtin _ aO) entry_typeCall (wpAny_check_type_call_sub hC (QF F T hC hn hi hf Er hz ?_))⟩;exact hq
end
section
variable {M:Model}{A:ai}{E:Value->ae->Prop}{env:Env}{nm q:Str}{C N:Addr}{bs bm:List Value}{hdct:Bool}{sn:List Str}{sub:List Value}{ab:Bool}{col:Option Bool}{dd:Option Addr}{k0 k1 k2 k3 k5:Option Value}{newId:String}
theorem Ku{s:ae}{x:Sem Value}{Q:Flow->ae->Prop}(hb:bm.contains (.type "BaseException")=true)(hh:A.handled=none) (h:wpAny M A x (λv s1=>∃e oe fs,v= .ref e/\s1.heap.get? C=some (excClassObj nm q C N bs bm hdct sn sub ab col dd k0 k1 k2 k3 k5 newId)/\s1.heap.get? e=some oe/\oe.cls= .ref C/\oe.data= .fields fs/\fs[1]? =some .none/\E (.ref e) s1) E s): wpAny M A (raiseStmt env (some x) none) Q E s:=by
 have cb:(Value.ref C::bm).contains (.type "BaseException")=true:=by rw[PB,hb,Bool.or_true]
 unfold raiseStmt;refine aB (gr h (λv s1 ⟨e,oe,fs,ev,hC,he,hc,m7,h1,hE⟩=>?_) λ_ _ z=>z);subst ev;obtain⟨hp,g,d,tk,os⟩:=s1;obtain⟨oc,odd,Dn,eG⟩:=oe;cases hc;cases m7
 repeat (first|with_reducible refine rE he ?_|with_reducible refine rE hC ?_|(with_reducible refine Gw hC ?_;rw[cb])|rw[h1]|wp_step)
 exact wpAny_raiseNew_none hh hE
end
def fS(P:af)(w:World):iP:=λouter H s E e s'=>∃(ex:Addr)(cls:Value)(dx:Option Addr)(H':Hp)(B:Heap),e= .ref ex/\s'.os=s.os/\AllBare s'.gens/\ji B outer ex cls dx .none s'.heap/\Fl P w outer H s.heap ex H' B s'.heap/\E cls dx H'
theorem FE{H:Hp}{p:Addr}:del H p p=none:=by unfold del;rw[bo rfl]
theorem ml{H:Hp}{p b:Addr}(h:b≠p):del H p b=H b:=by unfold del;rw[bh h]
theorem dv.del{P:af}{w:World}{H:Hp}{h:Heap}{p:Addr}{φ:Heap->Prop}(ok:dv P w H h)(e:H p=some (.ext φ)):dv P w (del H p) h:=λb u q=>by
 obtain⟨nb,q⟩:=pC.mp q;refine(ok b u q).jD (λ_ _ _ z=>z) (λc z=>?_) λc xs z=>?_
 ·rw[ml (λy=>by rw[y,e]at z;cases z)];exact z
 ·rw[ml (λy=>by rw[y,e]at z;cases z)];exact z
section
variable {P:af}{w:World}{K:aa}{mg:bc}{au:Heap}{N:List Str}{qual:Str}{scope:Scope}{f:Addr}{cd:Value}{A:ai}{outer:List Env}{s:ae}{H:Hp}{E:XK}{ak:List (Addr×Obj)}{O:St}{H1:Hp}{s1:ae}{ex:Addr}{C:Addr}{dx:Addr}
theorem pQ(I:Inv (eW (fS P w) P w K mg au N qual scope f cd A outer s H E) ak O H1 s1)(hx:H1 ex=some (.ext (gY ex C dx)))(hs:s.heap.objs.size<=ex)(q:E (.ref C) (some dx) (del H1 ex)): (eW (fS P w) P w K mg au N qual scope f cd A outer s H E).xe (.ref ex) s1:=by
 have fo:s1.heap.FunFrames au (envOfC qual scope s.heap.objs.size f cd::outer):=I.stack;have zf:∀env∈(envOfC qual scope s.heap.objs.size f cd::outer),∀b,env.frame=some b->b∈ex::cS (envOfC qual scope s.heap.objs.size f cd::outer):=λenv he b hb=>.tail _ (iT.mpr ⟨env,he,hb⟩);have hB:(PySem.W.hideAll s1.heap (ex::cS (envOfC qual scope s.heap.objs.size f cd::outer))).StaysIn s1.heap:=λb o e=>Pf _ e;obtain⟨⟨ob,fs,g1,g2,g3,g4,g5,g6⟩,_,_⟩:=(show eQ P w H1 s1.heap ex (.ext (gY ex C dx))from I.aU ex _ hx);have nw:s.heap.get? ex=none:=Heap.get?_none_of_le hs;have kE:∀b o,s.heap.get? b=some o->b∉cS outer->b∉ex::cS (envOfC qual scope s.heap.objs.size f cd::outer):=λb o e hb hm=>by
  rcases bZ.mp hm with rfl|hm
  ·rw[nw]at e;cases e
  obtain⟨env,he,hf⟩:=iT.mp hm;rcases bZ.mp he with rfl|he
  ·have e1:s.heap.objs.size=b:=dW hf
   have h1:=bP e;rw[<-e1]at h1;exact absurd h1 (pP _)
  ·exact hb (iT.mpr ⟨env,he,hf⟩)
 have Dy:∀b u,H1 b=some u->(∀φ,u≠ .ext φ)->del H1 ex b=some u:=λb u e n=>by rw[ml (λz=>by rw[z,hx]at e;exact n _ (dW e).symm)];exact e
 have F0:Fl P w outer H s.heap ex (del H1 ex) (PySem.W.hideAll s1.heap (ex::cS (envOfC qual scope s.heap.objs.size f cd::outer))) s1.heap:=by
  refine⟨⟨I.au.keep,I.au.slot,λb o e n hb=>?_,I.au.there,λb xs e=>Dy b _ (I.au.gZ b xs e) (λ_ z=>nomatch z),λb o u e=>Dy b _ (I.au.gX b o u e) (λ_ z=>nomatch z),λb ps e=>?_⟩,I.aU.del hx,λb o e n hb=>ui _ (I.au.keep b o e n hb (dX)) (kE b o e hb),λb o e=>?_,λb o e hb=>?_,λb hb=>?_,nw,FE⟩
  ·by_cases z:b=ex
   ·rw[z];exact FE
   ·rw[ml z];exact I.au.free b o e n hb
  ·obtain⟨more,e1⟩:=I.au.hU b ps e
   exact⟨more,Dy b _ e1 (λ_ z=>nomatch z)⟩
  ·obtain⟨nb,e⟩:=pC.mp e
   obtain⟨jn,e1⟩:=(I.aU b o e).there;refine⟨jn,ui _ e1 λhm=>?_⟩;rcases bZ.mp hm with z|hm
   ·exact nb z
   ·rw[I.rZ b hm]at e
    cases e
  ·obtain⟨jn,e1⟩:=I.au.there b o e (dX)
   exact⟨jn,ui _ e1 (kE b o e hb)⟩
  ·obtain⟨env,he,hf⟩:=iT.mp hb
   have e1:=I.rZ b (iT.mpr ⟨env,.tail _ he,hf⟩);by_cases z:b=ex
   ·rw[z];exact FE
   ·rw[ml z];exact e1
 show wpAny (model P w) (A.deeper (envOfC qual scope s.heap.objs.size f cd)) (leaving (envOfC qual scope s.heap.objs.size f cd) (.ref ex)) _ _ _;refine M0 (L:=s.heap.objs.size) I.ok.frames (PySem.W.funFrames_hide fo zf) Z g1 hB (Ph _ (.head _)) g4 g5 g6 λh' x1 x2=>?_;exact⟨ex,.ref C,some dx,del H1 ex,_,Z,I.os,I.bare,by rw[g2,g3]at x1;exact x1,F0.step hB x1.1 x2 fo.2.2,q⟩
end
def Fo(K:aa)(C fI:Addr)(dJ:List Value)(newId:String):Bool:=match K.lookup C with |some ⟨.type "type",_,.cls cd,sl⟩=>(match cd.mro,sl.toList with | .ref C'::bm,[_,_,_,_,some (.builtin n),_]=>C'==C&&n==newId&& !cd.hasDel&&PySem.W.tailIn K dJ bm&&PySem.W.nsOkIn K cd.ns&&(PySem.W.nsIn K cd.ns "__init__"==some (some (.ref fI))) |_,_=>false) |_=>false
structure mz(K:aa)(mg:bc)(x:Str)(C fI:Addr)(dJ:List Value)(newId:String):Prop where
 at':mg x=some (.ref C)
 ok:Fo K C fI dJ newId=true
theorem WB{K:aa}{h:Heap}{N:Addr}{m:bc}{n:Str}{v:Value}(X:K.In h)(G:h.Ns N m)(e:PySem.W.nsIn K N n=some (some v)):m n=some v:=by
 obtain⟨o,es,ep,ho,hd,_,hf⟩:=G;unfold PySem.W.nsIn at e;split at e
 ·rename_i c d mj n' sl q
  have z:=X _ _ q;rw[ho]at z;cases z;cases hd;split at e
  ·rename_i en he
   cases e;rw[<-hf];unfold nsFind findBy;rw[<-Array.find?_toList,he];rfl
  ·split at e<;>cases e
 ·cases e
theorem mz.own{K:aa}{mg:bc}{x:Str}{C fI:Addr}{dJ:List Value}{newId:String}{h:Heap}(e:mz K mg x C fI dJ newId)(X:K.In h): ∃tl N nm q bs hdct sn sub ab col dd k0 k1 k2 k3 k5 mN,h.get? C=some (excClassObj nm q C N bs tl hdct sn sub ab col dd k0 k1 k2 k3 k5 newId)/\h.Ns N mN/\mN "__init__"=some (.ref fI)/\OwnTail h dJ tl:=by
 have q:=e.ok;unfold Fo at q;split at q
 ·rename_i dd cd sl ho
  split at q
  ·rename_i D2 bl a0 a1 a2 a3 nn a5 hm hs
   simp only[cP,cZ,Ha]at q;obtain⟨⟨⟨⟨⟨r1,r2⟩,vK⟩,ht⟩,aU⟩,qM⟩:=q;subst r1 r2;obtain⟨c1,c2,c3,c4,c5,c6,c7,c8,c9,c10,c11⟩:=cd;dsimp only at hm vK aU qM;subst hm vK;obtain⟨l⟩:=sl;simp only at hs;subst hs;have G:=Heap.Ns.of_isNs (PySem.W.isNs_of_in X aU);exact⟨bl,c4,c1,c5,c2,c6,c7,c8,c9,c10,dd,a0,a1,a2,a3,a5,_,X _ _ ho,G,WB X G qM,PySem.W.tail_of_in X ht⟩
  ·cases q
 ·cases q
def fnAt(K:aa)(f:Addr):Bool:=match K.lookup f with |some o=>o.cls== .type "function" |none=>false
theorem Nd{K:aa}{h:Heap}{f:Addr}(X:K.In h)(e:fnAt K f=true):∃o,h.get? f=some o/\o.cls= .type "function":=by
 unfold fnAt at e;split at e
 ·rename_i o ho
  exact⟨o,X _ _ ho,cP.mp e⟩
 ·cases e
def Hx(E:XK)(C:Addr)(sp:Sp)(t:TA):TS:=λ_ O H=>t O H λvs H1=>vs.length<=sizeLine/\∀ex,H1 ex=none->sp (.ref ex::vs) (upd H1 ex (.ext (jx ex C))) (λv H2=>v= .aY/\∃dx,H2 ex=some (.ext (gY ex C dx))/\E (.ref C) (some dx) (del H2 ex)) (λ_ _ _=>False)
section
variable {X:Cx}{x:Str}{C fI:Addr}{dJ:List Value}{newId oQ B:String}{e:Expr}{t:TA}{np cw pos:Pos}{k:Nat}{fd:FuncData}{ps:List Str}{sp:Sp}
theorem yj{E:XK}(hx:∀ak O H s ex dx,Inv X ak O H s->H ex=some (.ext (gY ex C dx))->X.s₀.heap.objs.size<=ex->E (.ref C) (some dx) (del H ex)->X.xe (.ref ex) s) (EC:mz X.K X.mg x C fI dJ newId)(FB:ExcBaseFacts B newId oQ dJ)(hh:X.A.handled=none)(F:dS X.prog X.w X.K X.mg X.au eM k fI fd ps sp)(hr:bV (k+1) X.A)(hb:Binds X.K fd ps [])(hf:fnAt X.K fI=true)(hg:Gl X x)(ha:PA X [e] t) (he:autoParam (starEach [e] X.env=[(false,eval e X.env)]) r8_._auto_1)(hd:autoParam ((x==("__debug__":Str))=false) q8_._auto_1): PS X (.Raise (some (.Call (.Name x np) [e] [] cw)) none pos) (Hx E C sp t):=by
 intro ak s O H D I h;obtain⟨tl,Nn,nm,q,bs,hdct,sn,sub,ab,col,dd,k0,k1,k2,k3,k5,mN,hC,hN,hi,T⟩:=EC.own I.ok.mod.jN;have hA:=ha cw ak s O H _ I h;rw[arm_exec_Raise];refine aB (mD (Ku (C:=C) (nm:=nm) (q:=q) (N:=Nn) (bs:=bs) (bm:=tl) (hdct:=hdct) (sn:=sn) (sub:=sub) (ab:=ab) (col:=col) (dd:=dd) (k0:=k0) (k1:=k1) (k2:=k2) (k3:=k3) (k5:=k5) (newId:=newId) (T.hasType FB.hasBase) hh (aB (gr (wpAny_Call_ofName (lW I hg EC.at' ?_ hd)) (λv s3 h3=>aB (mD (bA h3))) λ_ _ z=>z))));unfold callWith;rw[he]at hA⊢;refine aB (gI (gr (GZ (Q:=λ(a:Args) s2=>a.kw=[]/\AP X ak O (λvs H1=>vs.length<=sizeLine/\∀ex,H1 ex=none->sp (.ref ex::vs) (upd H1 ex (.ext (jx ex C))) (λv H2=>v= .aY/\∃dx,H2 ex=some (.ext (gY ex C dx))/\E (.ref C) (some dx) (del H2 ex)) (λ_ _ _=>False)) a.pos s2) (aR hA λus s2 z=>⟨Z,z⟩)) (λa s2 z=>aB (mD ?_)) λ_ _ z=>z));obtain⟨us,G7⟩:=a;obtain⟨Ek,vs,H1,I1,r1,z1,w1⟩:=z;obtain rfl:G7=[]:=Ek;have C2:=I1.bk _ _ hC;have T2:=T.keeps I1.bk;have N2:=hN.keeps I1.bk;obtain⟨oI,f1,f2⟩:=Nd I1.dG hf;have DJ:us.length<=sizeLine:=by rw[<-r1.length];exact z1
 obtain⟨hp,g,d,tk,os⟩:=s2;rw[show(backTo cw [(false,eval e X.env)]).any (·.1)=false from rfl];refine aB (wpAny_keeperOf_exc C2 ?_);have I1':Inv X ak O H1 ⟨iu hp C us,g,d,tk,os⟩:=I1.kept (t':=tk) (h':=iu hp C us) λb u e=>p9 e;have xa:=Fq (h:=hp) (C:=C) (rest:=us);have fx:H1 (hp.objs.size+1)=none:=I1.aU.fresh (uk _);have I2:Inv X ak O (upd H1 (hp.objs.size+1) (.ext (jx (hp.objs.size+1) C))) ⟨iu hp C us,g,d,tk,os⟩:=by refine I1.laid (a:=hp.objs.size+1) (o:=.ext (jx (hp.objs.size+1) C)) (h':=iu hp C us) (t':=tk) (λb u e=>p9 e) (uk _) ?_;exact⟨⟨_,_,xa,Z,Z,Z,Z,Z⟩,⟨_,xa⟩,λh1 h2 ⟨jn,ir,y1,y2⟩ k=>⟨jn,ir,k _ y1,y2⟩⟩
 have hq:=w1 (hp.objs.size+1) fx;have r2:Vals (V.ref (hp.objs.size+1)::vs) (Value.ref (hp.objs.size+1)::us):=.cons Z r1;have hl:(Value.ref (hp.objs.size+1)::us++[]).length=ps.length:=by have e:=r2.length;rw[F.len _ _ _ _ hq]at e;rw[jj];exact e.symm
 have bt:=hb ⟨iu hp C us,g,d,tk,os⟩ (Value.ref (hp.objs.size+1)::us) I2.dG hl;rw[jj]at bt;refine aB (Od FB T2 C2 N2 hi f1 f2 DJ (pO (rJ (F.run _ X.stack _ _ ⟨Value.ref (hp.objs.size+1)::us,[]⟩ (Value.ref (hp.objs.size+1)::us) _ _ (λ_ _ _=>False) (hr.make C us []) (I2.tR.make C us []) bt r2 hq) λr s' fH=>?_)));cases r with |error e=>exact False.elim fH |ok fl=>cases fl with |ret u=>obtain⟨v,H',I3,rv,ev,dx,ed,q3⟩:=I2.after fH;subst ev;refine⟨rv,aB (gI (wpAny_point (bA ?_)))⟩;obtain⟨⟨ob,fs,g1,g2,g3,g4,g5,g6⟩,_,_⟩:=(show eQ X.prog X.w H' s'.heap _ (.ext (gY (hp.objs.size+1) C dx))from I3.aU _ _ ed);exact⟨_,ob,fs,Z,I3.bk _ _ hC,g1,g2,g4,g5,hx ak O H' s' _ dx I3 ed (fz I1.sz (uk _)) q3⟩ |next=>exact False.elim fH |brk=>exact False.elim fH |cont=>exact False.elim fH
end
def jW(ex:Addr)(cls:Value)(dx:Option Addr)(h:Heap):Prop:=∃o,h.get? ex=some o/\o.cls=cls/\o.dict=dx/\∃fs,o.data= .fields fs/\fs[2]? =some .none
def ClsAt(K:aa)(C:Addr):Prop:=∀h,K.In h->∃nm q N bs tl hdct sn sub ab col dd k0 k1 k2 k3 k5 newId,h.get? C=some (excClassObj nm q C N bs tl hdct sn sub ab col dd k0 k1 k2 k3 k5 newId)
theorem mz.cls{K:aa}{mg:bc}{x:Str}{C fI:Addr}{dJ:List Value}{newId:String}(e:mz K mg x C fI dJ newId):ClsAt K C:=λh X=>by obtain⟨tl,N,nm,q,bs,hdct,sn,sub,ab,col,dd,k0,k1,k2,k3,k5,mN,hC,_⟩:=e.own X;exact⟨nm,q,N,bs,tl,hdct,sn,sub,ab,col,dd,k0,k1,k2,k3,k5,newId,hC⟩
theorem Exc.cls{K:aa}{mg:bc}{x:Str}{C:Addr}{dJ:List Value}{newId:String}(e:Exc K mg x C dJ newId):ClsAt K C:=λh X=>by obtain⟨tl,N,nm,q,bs,hdct,sn,sub,ab,col,dd,k0,k1,k2,k3,k5,mN,hC,_⟩:=(e.own X).obj;exact⟨nm,q,N,bs,tl,hdct,sn,sub,ab,col,dd,k0,k1,k2,k3,k5,newId,hC⟩
section
variable {X:Cx}{i:Nat}{n y:Str}{Dc:Addr}{wx:List Value}{newD:String}{body rX:List Stmt}{b0:Stmt}{np oT pos:Pos}{tb:XK->TS}{th:TS}{Cs:Addr->Prop}
end
end _L
namespace _L
open PySem PySem.Spec PyProof.Rows PySem.W
section
variable {prog:af}{w:World}{A:ai}{E:Value->ae->Prop}{h:Heap}{g:Array GenState}{d:Drawn}{t:Nat}{os:OsState}{K:Frag}{x C:Addr}{ox:Obj}{od:Obj}{f:Str}{v:Value}
end
section
variable {X:Cx}{e:Expr}{f:Str}{pos:Pos}{ta:TE}
inductive a6P(K:Frag)(xs:List V)(H:Hp)(Q:VK):Prop |mk (ex:Addr)(C:Addr)(dx:Option Addr)(c:V)(cv:Value)(b:Bool)(h0:xs=[.ref ex,c])(h1:H ex=some (.ext (jW ex (.ref C) dx)))(h2:my K C)(h3:a47 c=some cv)(h4:kitOne K (.ref C) cv=some b)(h5:Q (.bl b) H)
def Tw(K:Frag):List V->Hp->VK->Prop:=λxs H Q=>a6P K xs H Q
inductive a6O(K:Frag)(xs:List V)(H:Hp)(Q:VK):Prop |mk (ex:Addr)(C:Addr)(p:Addr)(dx:Option Addr)(Ds:List Addr)(b:Bool)(h0:xs=[.ref ex,.ref p])(h1:H ex=some (.ext (jW ex (.ref C) dx)))(h2:my K C)(h3:H p=some (.tup (Ds.map V.ref)))(h4:kitAny K (.ref C) (Ds.map Value.ref)=some b)(h5:Q (.bl b) H)
def Tv(K:Frag):List V->Hp->VK->Prop:=λxs H Q=>a6O K xs H Q
theorem jO(K:Frag)(hK:X.K=K):eT X (.builtin "isinstance") (λxs H Q=>Tw K xs H Q\/Tv K xs H Q):=by
 subst hK;intro ak s O H xs us Q I r h;rcases h with⟨ex,C,dx,c,cv,b,rfl,he,k,hc,kb,q⟩|⟨ex,C,p,dx,Ds,b,rfl,he,k,hp,kb,q⟩
 ·obtain⟨u,v,rfl,rx,rc⟩:=vals2 r
  cases(show u=Value.ref ex from rx);have hv:v=cv:=by cases c with |ref D=>cases(show v=Value.ref D from rc);exact dW hc |ty n=>cases(show v=Value.type n from rc);exact dW hc |_=>cases hc
  subst hv;obtain⟨o,o1,o2,_⟩:=(I.aU ex _ he).1;exact kia_one (M8 k) I.dG ⟨o,o1,o2⟩ kb (λz=>nomatch z) λtk=>⟨.bl b,H,I.tok _,rfl,q⟩
 ·obtain⟨u,v,rfl,rx,rc⟩:=vals2 r
  cases(show u=Value.ref ex from rx);cases(show v=Value.ref p from rc);obtain⟨o,o1,o2,_⟩:=(I.aU ex _ he).1;obtain⟨_,its,rv,⟨cls,dd,dt,sl⟩,h1,h2,n,h3⟩:=(show eQ X.prog X.w H s.heap p (.tup (Ds.map V.ref))from I.aU p _ hp);simp only at h2 h3;subst h2 h3;have e:=Hi rv;subst e;exact kia_tup (M8 k) I.dG ⟨o,o1,o2⟩ h1 kb (λz=>nomatch z) λtk=>⟨.bl b,H,I.tok _,rfl,q⟩
end
end _L
namespace _L
open PySem PySem.Spec PyProof.Rows
def fR(P:af)(w:World)(K:aa)(mg:bc)(au:Heap)(x:Str)(k:Nat)(sp:Sp):Prop:=∃f fd ps,dS P w K mg au (fS P w) k f fd ps sp/\mg x=some (.ref f)/\PySem.W.keepIn K (.ref f)=true/\Binds K fd ps []
theorem FA.gU{P:af}{w:World}{K:aa}{mg:bc}{au:Heap}{x:Str}{st:Stmt}{N ps:List Str}{k:Nat}{sp:Sp}(F:FA K mg x st)(S:bj N ps (aP st))(len:∀vs H Q E,sp vs H Q E->vs.length=ps.length) (hb:∀(kV doc pm:Value)(an:Option Addr)(aE ct:Value)(us:List Value),us.length=ps.length->bindArgs (PySem.W.fnOf x x (iy st) (eA st) (aP st) .none kV doc pm an aE ct) ⟨us,[]⟩=pure (ps.zip us)) (fg:∀(f:Addr)(aE:Value)(A:ai)(outer:List Env)(s:ae)(H:Hp)(vs:List V)(Q:VK)(E:XK),bV k (A.deeper (envOfC x (aP st) s.heap.objs.size f aE))->sp vs H Q E->∃t,eP (eW (fS P w) P w K mg au N x (aP st) f aE A outer s H E) (eA st) t/\t {nx:=λ_ H'=>Q .aY H',rt:=Q} (start N vs) H):fR P w K mg au x (k+1) sp:=by obtain⟨f,fd,hm,F⟩:=F.ex;have vO:=F.binds hb;have kp:=F.kp;obtain⟨oc,od,kV,doc,pm,an,aE,ct,eG,rfl,lk,dY⟩:=F.ex;exact⟨f,_,ps,F3 lk dY S len λA outer s H vs Q E hr fq=>fg f aE A outer s H vs Q E hr fq,hm,kp,vO⟩
section
variable {X:Cx}{k:Nat}{x:Str}{p pos:Pos}{e:Expr}{es:List Expr}{t:TA}{sp:Sp}
def Rf(sp:Sp)(E:XK)(t:TA):TE:=λO H Q=>t O H λvs H1=>sp vs H1 Q E
theorem kB{E:XK}(F:fR X.prog X.w X.K X.mg X.au x k sp)(hp:Passes (fS X.prog X.w) X E)(hr:bV k X.A)(hg:Gl X x)(ha:PA X (e::es) t)(fc:autoParam ((x==("__debug__":Str))=false) q8_._auto_1) (he:autoParam (starEach (e::es) X.env=(false,eval e X.env)::starEach es X.env) r8_._auto_1)(dH:autoParam ((backTo pos (starEach es X.env)).any (·.1)=false) r8_._auto_1): PE X (.Call (.Name x p) (e::es) [] pos) (Rf sp E t):=by
 obtain⟨f,fd,ps,F,hm,hk,hb⟩:=F;have h:=KR (pos:=pos) (p:=p) F hr hg hm hk hb .nil hp ha fc he dH;intro ak s O H Q I hq;refine h ak s O H Q I ?_;have e1:(λ(vs:List V) H1=>sp (vs++[]) H1 Q E)=λvs H1=>sp vs H1 Q E:=by funext vs H1;rw[jj]
 show t O H λvs H1=>sp (vs++[]) H1 Q E;rw[e1];exact hq
end
theorem FL{K:aa}{mg:bc}{h:Heap}{x:Str}{C fI:Addr}{dJ:List Value}{newId:String}(X:K.In h)(G:h.Ns mainGlobals mg)(a:PySem.W.nsIn K mainGlobals x=some (some (.ref C)))(k:Fo K C fI dJ newId=true):mz K mg x C fI dJ newId:=⟨rL X G a,k⟩
structure pJ(k:Nat)(A:ai):Prop where
 dp:A.depth+3*k+5<recursionLimit
 un:A.units+16*k+200<cLine
theorem pJ.mono{j k:Nat}{A:ai}(r:pJ k A)(h:j<=k):pJ j A:=⟨by have:=r.dp;lia,by have:=r.un;lia⟩
theorem bV.mark{k:Nat}{A:ai}(r:bV k A)(v:Option Value):pJ k (A.mark v):=⟨r.dp,r.un⟩
theorem pJ.deeper{k:Nat}{A:ai}(r:pJ (k+1) A)(env:Env):pJ k (A.deeper env):=⟨by have:=r.dp;show A.depth+1+3*k+5<_;lia,by have:=r.un;show A.units+3+16*k+200<_;lia⟩
abbrev FF(P:af)(w:World)(K:aa)(mg:bc)(au:Heap)(N:List Str)(qual:Str)(scope:Scope)(f:Addr)(cd:Value)(A:ai)(outer:List Env)(s:ae)(H:Hp):Cx:={(eW eM P w K mg au N qual scope f cd A outer s H (λ_ _ _=>False))with calm:=false,xe:=λ_ _=>False}
section
variable {X:Cx}{k:Nat}{x:Str}{p pos:Pos}{e:Expr}{es:List Expr}{t:TA}{sp:Sp}
end
section
variable {P:af}{w:World}{K:aa}{mg:bc}{au:Heap}{N:List Str}{qual:Str}{scope:Scope}{f:Addr}{cd:Value}{A:ai}{outer:List Env}{s:ae}{H:Hp}{E E0:XK}
theorem eh(he:∀cls dx H',E cls dx H'->E0 cls dx H'):Passes (fS P w) (eW (fS P w) P w K mg au N qual scope f cd A outer s H E0) E:=by
 intro ak O H1 s1 e s2 I hx;obtain⟨ex,cls,dx,H',B,rfl,ho,hg,nP,F,q⟩:=hx;have nP:ji B (envOfC qual scope s.heap.objs.size f cd::outer) ex cls dx .none s2.heap:=nP;show wpAny (model P w) (A.deeper (envOfC qual scope s.heap.objs.size f cd)) (leaving (envOfC qual scope s.heap.objs.size f cd) (.ref ex)) _ _ _;refine Yi (L:=s.heap.objs.size) I.ok.frames Z nP λh' x1 x2=>?_;have F2:=F.step nP.1 x1.1 x2 nP.2.2.1;have sub:∀b,b∈cS outer->b∈cS (envOfC qual scope s.heap.objs.size f cd::outer):=λb hb=>by obtain⟨env,h1,h2⟩:=iT.mp hb;exact iT.mpr ⟨env,.tail _ h1,h2⟩
 have kE:∀b o,s.heap.get? b=some o->b∉cS outer->b∉cS (envOfC qual scope s.heap.objs.size f cd::outer):=λb o e hb hm=>by
  obtain⟨env,h1,h2⟩:=iT.mp hm;rcases bZ.mp h1 with z|h1
  ·subst z
   have e1:s.heap.objs.size=b:=dW h2;have e2:=bP e;rw[<-e1]at e2;exact absurd e2 (pP _)
  ·exact hb (iT.mpr ⟨env,h1,h2⟩)
 have nx:∀b:Addr,b∉([]:List Addr):=λ_=>dX;refine⟨ex,cls,dx,H',B,Z,ho.trans I.os,hg,x1,⟨⟨λb o e n hb _=>?_,λb o e n hb _=>?_,λb o e n _=>?_,λb o e _=>?_,λb xs e=>?_,λb o u e=>?_,λb ps e=>?_⟩,F2.aU,λb o e n hb=>?_,F2.k2,λb o e hb=>?_,λb hb=>F2.fr b (sub b hb),?_,F2.ne⟩,he _ _ _ q⟩
 ·exact F2.un.keep b o (I.au.keep b o e n hb (nx b)) (I.au.free b o e n (nx b)) (kE b o e hb) (nx b)
 ·obtain⟨sl,e1⟩:=I.au.slot b o e n hb (nx b)
  obtain⟨ow,e2⟩:=F2.un.slot b _ e1 (I.au.free b o e n (nx b)) (sub b hb) (nx b);exact⟨ow,e2⟩
 ·obtain⟨sl,e1⟩:=I.au.any e n (nx b)
  exact F2.un.free b _ e1 (I.au.free b o e n (nx b)) (nx b)
 ·obtain⟨o1,e1⟩:=I.au.there b o e (nx b)
  exact F2.un.there b o1 e1 (nx b)
 ·exact F2.un.gZ b xs (I.au.gZ b xs e)
 ·exact F2.un.gX b o u (I.au.gX b o u e)
 ·obtain⟨m1,e1⟩:=I.au.hU b ps e
  obtain⟨m2,e2⟩:=F2.un.hU b _ e1;exact⟨m1++m2,by rw[<-Array.append_assoc];exact e2⟩
 ·exact F2.k1 b o (I.au.keep b o e n hb (nx b)) (I.au.free b o e n (nx b)) (kE b o e hb)
 ·obtain⟨o1,e1⟩:=I.au.there b o e (nx b)
  exact F2.k3 b o1 e1 (kE b o e hb)
 ·cases e:s.heap.get? ex with |none=>rfl |some o=>obtain⟨o1,e1⟩:=I.au.there ex o e (nx ex);rw[F2.nw]at e1;cases e1
end
end _L
namespace _L
open PySem PySem.Spec PyProof.Rows
open Builtin Builtin.ObjectAttr
section
variable {prog:af}{w:World}{A:ai}{E:Value->ae->Prop}{s:ae}{K:aa}{x C dx:Addr}{ox:Obj}{fs:Array Value}{name:Str}{v:Value}{Q:Unit->ae->Prop}{mA:bc}{ks:List Str}
theorem RZ(X:K.In s.heap)(hx:s.heap.get? x=some ox)(hc:ox.cls= .ref C)(hd:ox.dict=some dx)(hf:ox.data= .fields fs)(hn:s.heap.Ns1 dx mA)(hw:PySem.Within mA ks)(hz:ks.length<1000) (hs:PySem.W.findIn K (.ref C) "__setattr__"=some (some (.builtin "object.__setattr__")))(hp:De K C=true)(ht:PySem.W.takerIn K C name=some none)(hh:PySem.W.hasDictIn K C=true) (h:∀h',h'.Ns1 dx (λy=>if y=name then some v else mA y)->Heap.SameBut dx s.heap h'->Q () {s with heap:=h',toks:=s.toks+2}):wpAny (model prog w) A (setAttr (.ref x) name v) Q E s:=by
 obtain⟨oD,Eg,_⟩:=LS hn;have I:PySem.W.InstAt s.heap x ox C (some oD):=⟨hx,hc,by unfold PySem.W.notCls;rw[hf],by rw[hd];exact Eg⟩;refine Pc X I hs ?_;have S0:=PySem.F.store_object;obtain⟨cd,dY,ho⟩:=Ae hp;have ne:cd.mro.isEmpty=false:=by cases q:cd.mro with|nil=>rw[q]at ho;simp[lP,og]at ho|cons _ _=>rfl
 have sub:PySem.W.Looks (model prog w) s.heap (isInstance (.ref x) (.type "object")) true:=I.type.andThen (PySem.W.looks_mroIn X (by unfold PySem.W.mroIn;rw[dY,Option.bind_some,bh (by rw[ne];decide),MN az ho]));refine Gx S0.slot.plain S0.entry (@PySem.W.check_slot (model prog w) _ _ {s with toks:=s.toks+1} "object.__setattr__" "object" "__setattr__" (.ref x) [.str name s.toks,v] [] _ S0.kind S0.split sub (S0.args (.ref x) (.str name s.toks) v) ?_);obtain⟨zT,ha,hr⟩:=Pq.mp ht;have hm:PySem.W.Looks (model prog w) s.heap (mroOf (.ref C)) cd.mro:=(Ac X dY).andThen .now;have L3:PySem.W.Looks (model prog w) s.heap (storeTaker? zT) none:=by cases zT with |none=>exact .now |some a=>obtain⟨b,hb,e⟩:=Pp.mp hr;refine(PySem.W.looks_takesIn X hb).andThen ?_;cases b with |false=>exact .now |true=>cases e
 rw[PySem.W.osa_eq,refuse_eq];refine aB (aB (jY (s:={s with toks:=s.toks+1}) I.type (aB (jY (s:={s with toks:=s.toks+1}) hm ?_))));rw[Ko _ ho];refine bA (aB (jY (s:={s with toks:=s.toks+1}) I.type (aB (jY (s:={s with toks:=s.toks+1}) (Pg X ha) (aB (jY (s:={s with toks:=s.toks+1}) L3 ?_))))));obtain⟨cd2,fJ,hd2⟩:=Ae hh;refine aB (bA (aB (aB (Gv (s:={s with toks:=s.toks+1}) hx ?_))));rw[hc];refine aB (jY (s:={s with toks:=s.toks+1}) (Ac X fJ) ?_);rw[hd2,hd];rw[bh az];refine bA (a:=some dx) ?_;show wpAny _ _ (storeInDict dx (.str name s.toks) name v) _ _ _;unfold storeInDict newKeyGuard;refine aB (bA (aB (wpAny_nsSet1 hn λh2 n2 sb=>?_)));obtain⟨o2,es2,ep2,e1,e2,e3⟩:=n2.count (Pb name v hw);refine aB (wpAny_lookBehind e1 (by rw[e2];exact pastItsLine_dict (fz e3 (by rw[fA,uf];lia))) ?_);exact bA (h h2 n2 sb)
end
inductive a6v(K:aa)(f:Str)(D:Ends)(O:St)(y:V)(x:V)(H2:Hp):Prop |mk (ex:_)(C:_)(dx:_)(fs:_)(h0:x= .ref ex)(h1:H2 ex=some (.ext (gY ex C dx)))(h2:H2 dx=some (.xd fs))(h3:nW K C f)(h4:fs.length<1000)(h5:D.nx O (upd H2 dx (.xd (fL f y fs))))
def Se(K:aa)(ta tv:TE)(f:Str):TS:=λD O H=>tv O H λy H1=>ta O H1 λx H2=>a6v K f D O y x H2
section
variable {X:Cx}{o e value:Expr}{f:Str}{pos pos' mL:Pos}{ta tv:TE}
theorem TQ(K:aa)(hK:X.K=K)(ha:PE X o ta)(hv:PE X value tv)(hs:autoParam (swapsWith value (some (.Attribute o f pos')) pos.line X.env=pure false) r8_._auto_1):PS X (.Assign [.Attribute o f pos'] value pos) (Se K ta tv f):=by
 subst hK;intro ak s O H D I h;refine P5 (aR (hv ak s O H _ I h) λu s1 ⟨y,H1,I1,ry,q⟩=>aR (ha ak s1 O H1 _ I1 q) λov s2 ⟨x,H2,I2,rx,ex,C,dx,fs,e1,ee,ed,xc,hl,q2⟩=>?_) hs;subst e1;obtain rfl:ov=Value.ref ex:=rx;obtain⟨⟨ob,vs,g1,g2,g3,g4,g5,g6⟩,_,_⟩:=(show eQ X.prog X.w H2 s2.heap ex (.ext (gY ex C dx))from I2.aU ex _ ee);obtain⟨mA,n1,n2⟩:=(show eQ X.prog X.w H2 s2.heap dx (.xd fs)from I2.aU dx _ ed);have hw:PySem.Within mA (fs.map (·.1)):=λg hg=>by cases e:fs.lookup g with
  |none=>have r:=n2 g;rw[e]at r;cases em:mA g with |none=>exact absurd em hg |some _=>rw[em]at r;exact r.elim
  |some z=>exact gu.mpr ⟨(g,z),lookup_mem e,Z⟩
 refine RZ I2.dG g1 g2 g3 g4 n1 hw (by rw[bR];exact hl) xc.sa xc.ov xc.tk xc.hd λh' k1 k2=>?_;have keep:∀b u,b≠dx->s2.heap.get? b=some u->h'.get? b=some u:=λb u nb z=>(k2.2 b nb).trans z;have nd:∀b,H2 b=none->b≠dx:=λb z y=>by rw[y,ed]at z;cases z
 obtain⟨oD,_,_,eD,_⟩:=id k1;have un:Un X.fs [] H2 (upd H2 dx (.xd (fL f y fs))) s2.heap h':=by
  refine⟨λb o z n _ _=>keep b o (nd b n) z,λb o z n _ _=>⟨o.slots,keep b o (nd b n) z⟩,λb o z n _=>by rw[aL (nd b n)];exact n,λb o z _=>?_,λb xs z=>?_,λb o u z=>?_,λb ps z=>⟨#[],?_⟩⟩
  ·by_cases hb:b=dx
   ·rw[hb];exact⟨oD,eD⟩
   ·exact⟨o,keep b o hb z⟩
  ·rw[aL (λy=>by rw[y,ed]at z;cases z)];exact z
  ·rw[aL (λy=>by rw[y,ed]at z;cases z)];exact z
  ·rw[aL (λy=>by rw[y,ed]at z;cases z),Array.append_empty];exact z
 have aU:dv X.prog X.w (upd H2 dx (.xd (fL f y fs))) h':=λb u z=>by
  by_cases hb:b=dx
  ·subst hb
   rw[bp]at z;cases z;refine⟨_,k1,λg=>?_⟩;rw[DP];by_cases hg:g=f
   ·rw[bo hg,bo hg];exact ry
   ·rw[bh hg,bh hg];exact n2 g
  ·rw[aL hb]at z
   refine(I2.aU b u z).jD (λc v hc y=>keep c v ?_ y) (λc y=>?_) λc xs y=>?_
   ·rcases hc with rfl|hc
    ·exact hb
    ·intro y;rw[y,ed]at hc;cases hc
   ·rw[aL (λy'=>by rw[y',ed]at y;cases y)];exact y
   ·rw[aL (λy'=>by rw[y',ed]at y;cases y)];exact y
 exact⟨O,_,I2.un (t':=s2.toks+2) un aU,q2⟩
end
end _L
namespace _L
open PySem PySem.Spec PyProof.Rows
def iA(P:af)(w:World)(K:aa)(mg:bc)(au:Heap)(C:Addr)(m:Str)(k:Nat)(sp:Sp):Prop:=∃f fd ps,dS P w K mg au (fS P w) k f fd ps sp/\Meth K C m f/\Binds K fd ps []
def zZ(P:af)(w:World)(K:aa)(mg:bc)(au:Heap)(C:Addr)(x:Str)(k:Nat)(sp:Sp):Prop:=∃f fd ps,dS P w K mg au (fS P w) k f fd ps sp/\Mk K C f/\Binds K fd ps []/\mg x=some (.ref C)
section
variable {P:af}{w:World}{K:aa}{mg:bc}{au:Heap}
theorem gq.Lg{m qual:Str}{st:Stmt}{f:Addr}{fd:FuncData}{N ps:List Str}{k:Nat}{sp:Sp}(F:gq K m qual st f fd)(S:bj N ps (aP st))(len:∀vs H Q E,sp vs H Q E->vs.length=ps.length) (fg:∀(aE:Value)(A:ai)(outer:List Env)(s:ae)(H:Hp)(vs:List V)(Q:VK)(E:XK),bV k (A.deeper (envOfC qual (aP st) s.heap.objs.size f aE))->sp vs H Q E->∃t,eP (eW (fS P w) P w K mg au N qual (aP st) f aE A outer s H E) (eA st) t/\t {nx:=λ_ H'=>Q .aY H',rt:=Q} (start N vs) H):dS P w K mg au (fS P w) (k+1) f fd ps sp:=by obtain⟨oc,od,kV,doc,pm,an,aE,ct,eG,rfl,lk,dY⟩:=F.ex;exact F3 lk dY S len λA outer s H vs Q E hr fq=>fg aE A outer s H vs Q E hr fq
theorem MA.gU{C:Addr}{m qual:Str}{st:Stmt}{N ps:List Str}{k:Nat}{sp:Sp}(F:MA K C m qual st)(S:bj N ps (aP st))(len:∀vs H Q E,sp vs H Q E->vs.length=ps.length) (hb:∀(kV doc pm:Value)(an:Option Addr)(aE ct:Value)(us:List Value),us.length=ps.length->bindArgs (PySem.W.fnOf m qual (iy st) (eA st) (aP st) .none kV doc pm an aE ct) ⟨us,[]⟩=pure (ps.zip us)) (fg:∀(f:Addr)(aE:Value)(A:ai)(outer:List Env)(s:ae)(H:Hp)(vs:List V)(Q:VK)(E:XK),bV k (A.deeper (envOfC qual (aP st) s.heap.objs.size f aE))->sp vs H Q E->∃t,eP (eW (fS P w) P w K mg au N qual (aP st) f aE A outer s H E) (eA st) t/\t {nx:=λ_ H'=>Q .aY H',rt:=Q} (start N vs) H):iA P w K mg au C m (k+1) sp:=by obtain⟨f,fd,hm,F⟩:=F.ex;exact⟨f,fd,ps,F.Lg S len λaE A outer s H vs Q E=>fg f aE A outer s H vs Q E,hm,F.binds hb⟩
theorem CA.gU{C:Addr}{x qual:Str}{st:Stmt}{N ps:List Str}{k:Nat}{sp:Sp}(F:CA K mg C x qual st)(S:bj N ps (aP st))(len:∀vs H Q E,sp vs H Q E->vs.length=ps.length) (hb:∀(kV doc pm:Value)(an:Option Addr)(aE ct:Value)(us:List Value),us.length=ps.length->bindArgs (PySem.W.fnOf "__init__" qual (iy st) (eA st) (aP st) .none kV doc pm an aE ct) ⟨us,[]⟩=pure (ps.zip us)) (fg:∀(f:Addr)(aE:Value)(A:ai)(outer:List Env)(s:ae)(H:Hp)(vs:List V)(Q:VK)(E:XK),bV k (A.deeper (envOfC qual (aP st) s.heap.objs.size f aE))->sp vs H Q E->∃t,eP (eW (fS P w) P w K mg au N qual (aP st) f aE A outer s H E) (eA st) t/\t {nx:=λ_ H'=>Q .aY H',rt:=Q} (start N vs) H):zZ P w K mg au C x (k+1) sp:=by obtain⟨f,fd,hm,F'⟩:=F.ex;exact⟨f,fd,ps,F'.Lg S len λaE A outer s H vs Q E=>fg f aE A outer s H vs Q E,hm,F'.binds hb,F.LI⟩
end
section
variable {X:Cx}{k:Nat}{x m:Str}{C:Addr}{p pos apos:Pos}{o e:Expr}{es:List Expr}{t:TA}{ta:TE}{sp:Sp}{E:XK}
inductive OS(C:Addr)(m:Str)(sp:Sp)(E:XK)(t:TA)(O:St)(Q:VK)(x:V)(H1:Hp):Prop |mk (a:Addr)(dx:Addr)(fs:List (Str×V))(h0:x= .ref a)(h1:H1 a=some (.ins C dx fs))(h2:fs.lookup m=none)(h3:t O H1 λvs H2=>sp (x::vs) H2 Q E)
def Hz(C:Addr)(m:Str)(sp:Sp)(E:XK)(ta:TE)(t:TA):TE:=λO H Q=>ta O H λx H1=>OS C m sp E t O Q x H1
theorem LG{O:St}{Q:VK}{x:V}{H1:Hp}:rA C m sp [] E t O Q x H1=OS C m sp E t O Q x H1:=by
 have e1:(λ(vs:List V) H1=>sp (x::(vs++[])) H1 Q E)=λvs H1=>sp (x::vs) H1 Q E:=by funext vs H1;rw[jj]
 refine propext ⟨λ⟨a,dx,fs,h0,h1,h2,h3⟩=>⟨a,dx,fs,h0,h1,h2,?_⟩,λ⟨a,dx,fs,h0,h1,h2,h3⟩=>⟨a,dx,fs,h0,h1,h2,?_⟩⟩
 ·rw[<-e1];exact h3
 ·rw[e1];exact h3
theorem kz{pl:Sem Bool}(F:iA X.prog X.w X.K X.mg X.au C m k sp)(hp:Passes (fS X.prog X.w) X E)(c:gH X.K C)(hr:bV k X.A)(he:PE X o ta)(ha:PA X (e::es) t) (fo:autoParam (starEach (e::es) X.env=(false,eval e X.env)::starEach es X.env) r8_._auto_1)(dH:autoParam ((backTo pos (starEach es X.env)).any (·.1)=false) r8_._auto_1) (ht:eval (.Call (.Attribute o m apos) (e::es) [] pos) X.env=(do
 let ov<-eval o X.env
 standAt apos.atName
 let(f,first)<-holding [ov] (getMethod ov m pl)
 callWith pos f first (backTo pos (starEach (e::es) X.env)) (backToKw pos (keywordEach [] X.env))):=by rfl): PE X (.Call (.Attribute o m apos) (e::es) [] pos) (Hz C m sp E ta t):=by
 obtain⟨f,fd,ps,F,hm,hb⟩:=F;have h:=KN (pos:=pos) (apos:=apos) (pl:=pl) he c hm F hr hb .nil hp ha fo dH ht;intro ak s O H Q I hq;refine h ak s O H Q I ?_;show ta O H λx H1=>rA C m sp [] E t O Q x H1;simp only[LG];exact hq
theorem Ue{pl:Sem Bool}(F:iA X.prog X.w X.K X.mg X.au C m k sp)(hp:Passes (fS X.prog X.w) X E)(c:gH X.K C)(hr:bV k X.A)(he:PE X o ta) (ht:eval (.Call (.Attribute o m apos) [] [] pos) X.env=(do
 let ov<-eval o X.env
 standAt apos.atName
 let(f,first)<-holding [ov] (getMethod ov m pl)
 callWith pos f first (backTo pos (starEach [] X.env)) (backToKw pos (keywordEach [] X.env))):=by rfl): PE X (.Call (.Attribute o m apos) [] [] pos) (Hz C m sp E ta oj):=by
 obtain⟨f,fd,ps,F,hm,hb⟩:=F;have h:=KL (pos:=pos) (apos:=apos) (pl:=pl) he c hm F hr hb .nil hp ht;intro ak s O H Q I hq;refine h ak s O H Q I ?_;show ta O H λx H1=>rA C m sp [] E oj O Q x H1;simp only[LG];exact hq
def QU(C:Addr)(sp:Sp)(E:XK)(t:TA):TE:=λO H Q=>t O H λvs H1=>∀x dx,H1 x=none->H1 dx=none->dx≠x->sp (.ref x::vs) (upd (upd H1 dx (.own x)) x (.ins C dx [])) (λv H2=>v= .aY/\Q (.ref x) H2) E
theorem sR(F:zZ X.prog X.w X.K X.mg X.au C x k sp)(hp:Passes (fS X.prog X.w) X E)(hr:bV (k+1) X.A)(hg:Gl X x)(ha:PA X (e::es) t)(fc:autoParam ((x==("__debug__":Str))=false) q8_._auto_1) (he:autoParam (starEach (e::es) X.env=(false,eval e X.env)::starEach es X.env) r8_._auto_1)(dH:autoParam ((backTo pos (starEach es X.env)).any (·.1)=false) r8_._auto_1): PE X (.Call (.Name x p) (e::es) [] pos) (QU C sp E t):=by
 obtain⟨f,fd,ps,F,M,hb,hm⟩:=F;have h:=KO (pos:=pos) (p:=p) M F hr hg hm hb .nil hp ha fc he dH;intro ak s O H Q I hq;refine h ak s O H Q I ?_;have e1:(λ(vs:List V) H1=>∀x dx,H1 x=none->H1 dx=none->dx≠x->sp (.ref x::(vs++[])) (upd (upd H1 dx (.own x)) x (.ins C dx [])) (λv H2=>v= .aY/\Q (.ref x) H2) E) =λvs H1=>∀x dx,H1 x=none->H1 dx=none->dx≠x->sp (.ref x::vs) (upd (upd H1 dx (.own x)) x (.ins C dx [])) (λv H2=>v= .aY/\Q (.ref x) H2) E:=by funext vs H1;rw[jj]
 show t O H λvs H1=>∀x dx,H1 x=none->H1 dx=none->dx≠x->sp (.ref x::(vs++[])) (upd (upd H1 dx (.own x)) x (.ins C dx [])) (λv H2=>v= .aY/\Q (.ref x) H2) E;rw[e1];exact hq
end
end _L
namespace _L
open PySem PySem.Spec PyProof.Rows SeqAt
section
variable {X:Cx}{k:Nat}{x:Str}{p pos:Pos}{e:Expr}{es:List Expr}{t:TA}{sp:Sp}{E:XK}
end
section
variable {X:Cx}
end
end _L
namespace _L
open PySem PySem.Spec PyProof.Rows PySem.W
section
variable {P:af}{w:World}{K:Frag}{mg:bc}{au:Heap}{N:List Str}{qual:Str}{scope:Scope}{f:Addr}{cd:Value}{cl:List (Str×Addr)}{A:ai}{outer:List Env}{s:ae}{H:Hp}{E E0:XK}
end
section
variable {X:Cx}{x:Str}{p pos:Pos}{E:XK}
end
section
variable {X:Cx}{ak:List (Addr×Obj)}{O:St}{H:Hp}{s:ae}{pr:Arguments}{bd:Expr}{sc:Scope}{LP:Pos}{cl:List (Str×Addr)}{T c:Addr}{q:Str}
end
section
variable {X:Cx}{k:Nat}{x:Str}{p pos LP:Pos}{pr:Arguments}{bd:Expr}{sc:Scope}{sp:SpH}{T c:Addr}{q:Str}{N:List Str}
end
section
variable {P:af}{w:World}{K:Frag}{mg:bc}{au:Heap}
end
end _L
namespace _L
open PySem PySem.Spec PyProof.Rows
section
variable {P:af}{w:World}{K:aa}{mg:bc}{au:Heap}{N:List Str}{qual:Str}{scope:Scope}{f:Addr}{cd:Value}{A:ai}{outer:List Env}{s:ae}{H:Hp}{E:XK}{ak:List (Addr×Obj)}{O:St}{H1:Hp}{s1:ae}{ex:Addr}{C:Addr}{dx:Addr}{φ:Heap->Prop}{cls:Value}{dxo:Option Addr}{h2:Heap}{vs:List Value}
theorem jB(I:Inv (eW (fS P w) P w K mg au N qual scope f cd A outer s H E) ak O H1 s1)(hx:Heap.MadeExcOf s1.heap h2 ex cls vs)(q:E cls none H1):(eW (fS P w) P w K mg au N qual scope f cd A outer s H E).xe (.ref ex) {s1 with heap:=h2}:=by
 obtain⟨t,e1,_⟩:=hx.there;have hf:H1 ex=none:=by cases e:H1 ex with |none=>rfl |some o=>obtain⟨ob,e2⟩:=(I.aU ex o e).there;rw[hx.new]at e2;cases e2
 have nw:s.heap.get? ex=none:=by cases e:s.heap.get? ex with |none=>rfl |some o=>obtain⟨ob,e2⟩:=I.au.there ex o e (dX);rw[hx.new]at e2;cases e2
 have I2:=I.kept (t':=s1.toks) hx.keeps;have fo:h2.FunFrames au (envOfC qual scope s.heap.objs.size f cd::outer):=I2.stack;have zf:∀env∈(envOfC qual scope s.heap.objs.size f cd::outer),∀b,env.frame=some b->b∈ex::cS (envOfC qual scope s.heap.objs.size f cd::outer):=λenv he b hb=>.tail _ (iT.mpr ⟨env,he,hb⟩);have hB:(PySem.W.hideAll h2 (ex::cS (envOfC qual scope s.heap.objs.size f cd::outer))).StaysIn h2:=λb o e=>Pf _ e;have kE:∀b o,s.heap.get? b=some o->b∉cS outer->b∉ex::cS (envOfC qual scope s.heap.objs.size f cd::outer):=λb o e hb hm=>by
  rcases bZ.mp hm with rfl|hm
  ·rw[nw]at e;cases e
  obtain⟨env,he,hf⟩:=iT.mp hm;rcases bZ.mp he with rfl|he
  ·have e1:s.heap.objs.size=b:=dW hf
   have h1:=bP e;rw[<-e1]at h1;exact absurd h1 (pP _)
  ·exact hb (iT.mpr ⟨env,he,hf⟩)
 have F0:Fl P w outer H s.heap ex H1 (PySem.W.hideAll h2 (ex::cS (envOfC qual scope s.heap.objs.size f cd::outer))) h2:=by
  refine⟨I2.au,I2.aU,λb o e n hb=>ui _ (I2.au.keep b o e n hb (dX)) (kE b o e hb),λb o e=>?_,λb o e hb=>?_,λb hb=>?_,nw,hf⟩
  ·obtain⟨jn,e1⟩:=(I2.aU b o e).there
   refine⟨jn,ui _ e1 λhm=>?_⟩;rcases bZ.mp hm with z|hm
   ·rw[z,hf]at e;cases e
   ·rw[I2.rZ b hm]at e
    cases e
  ·obtain⟨jn,e1⟩:=I2.au.there b o e (dX)
   exact⟨jn,ui _ e1 (kE b o e hb)⟩
  ·obtain⟨env,he,hf⟩:=iT.mp hb
   exact I2.rZ b (iT.mpr ⟨env,.tail _ he,hf⟩)
 show wpAny (model P w) (A.deeper (envOfC qual scope s.heap.objs.size f cd)) (leaving (envOfC qual scope s.heap.objs.size f cd) (.ref ex)) _ _ _;refine M0 (L:=s.heap.objs.size) I.ok.frames (PySem.W.funFrames_hide fo zf) Z e1 hB (Ph _ (.head _)) Z Z Z λh' x1 x2=>?_;exact⟨ex,cls,none,H1,_,Z,I.os,I.bare,x1,F0.step hB x1.1 x2 fo.2.2,q⟩
end
section
variable {X:Cx} {sc:Scope}
end
end _L
set_option exponentiation.threshold 6000
namespace _L
open PySem PySem.Spec PyProof.Rows
section
variable {X:Cx}
theorem Ob:∀(l:List (Str×Tok)),Vals ((l.map (·.1)).map V.str) (strValues l) |[]=>.nil |(z,t)::l=>.cons ⟨t,Z⟩ (Ob l)
theorem split_len(x y:Str):(Txt.split x y).length<=x.length+2:=by
 unfold Txt.split;split
 ·simp
 ·split
  ·simp
  ·have e1:=StrLaws.occ_length_le x y 0 x.length (x.length+1)
   rw[length_partsBetween];omega
inductive a6y(x:V)(vs:List V)(H:Hp)(Q:VK):Prop |mk (z y:Str)(h0:x= .str z)(h1:vs=[.str y])(h2:(y.length==0)=false)(h3:z.length+2<=sizeLine)(h4:∀p H',Nw H H' p (.lst ((Txt.split z y).map V.str))->Q (.ref p) H')
def Kv:V->List V->Hp->VK->Prop:=λx vs H Q=>a6y x vs H Q
theorem Xf:Gk X "str.split" Kv:=by
 intro ak s O H x0 vs v us Q I rx rv h;obtain⟨x,y,rfl,rfl,hy,hz,q⟩:=h;obtain⟨t,rfl⟩:=rx;obtain⟨u0,rfl,u,rfl⟩:=vals1 rv;have key:∀(l:List (Str×Tok))(k:Nat),l.map (·.1)=Txt.split x y->EP X ak O Q (.ref s.heap.objs.size) {s with toks:=k,heap:=s.heap.push {cls:=.type "list",data:=.seq (strValues l).toArray}}:=λl k e=>by have nw:Nw H (upd H s.heap.objs.size (.lst ((Txt.split x y).map V.str))) s.heap.objs.size (.lst ((Txt.split x y).map V.str)):=.of (I.aU.fresh (bB _));refine⟨.ref s.heap.objs.size,_,I.laid (t':=k) (o:=.lst ((Txt.split x y).map V.str)) (λb ob q=>bK _ q) (bB _) ?_,Z,q _ _ nw⟩;have:=split_len x y;exact⟨by rw[bR];omega,_,0,by rw[<-e];exact Ob l,dw _ Z⟩
 cases h1:(decide (x.length<y.length)||decide (Builtin.Str.strKind x<Builtin.Str.strKind y))
 ·cases hf:(Builtin.Str.occurrences x y 0 x.length (x.length+1)).isEmpty
  ·have e1:=StrLaws.occ_length_le x y 0 x.length (x.length+1)
   refine lj F.slot_str_split (typeIs_str _ _ _) F.entry_str_split (F.args_str_split_2 _ _) (meets_str_split_sep x y t u h1 hy hf bN (by rw[length_partsBetween];omega)) ?_;show wants _ _ _ {s with toks:=_,heap:=s.heap.push {cls:=.type "list",data:=.seq (strsFrom s.toks (Builtin.Str.partsBetween x (Builtin.Str.occurrences x y 0 x.length (x.length+1)) y.length)).toArray}};rw[strsFrom_eq];exact key (numbered s.toks _) _ ((numbered_texts _ _).trans ((bh (P6 h1)).trans (bh (P6 hf))).symm)
  ·exact lj F.slot_str_split (typeIs_str _ _ _) F.entry_str_split (F.args_str_split_2 _ _) (meets_str_split_not_found x y t u h1 hy hf) (key [(x,t)] s.toks ((bh (P6 h1)).trans (bo hf)).symm)
 ·exact lj F.slot_str_split (typeIs_str _ _ _) F.entry_str_split (F.args_str_split_2 _ _) (meets_str_split_cannot_occur x y t u h1) (key [(x,t)] s.toks (bo h1).symm)
theorem D8(K:aa)(h:X.K=K){o e:Expr}{to:TE}{t:TA}{apos cw:Pos}(ho:PE X o to)(ha:PA X [e] t) (nM:autoParam (attributeBase o "split" X.env (eval o X.env)=eval o X.env) r8_._auto_1) (nH:autoParam (((backTo cw (starEach [e] X.env)).all (λx=>!x.1)&&(backToKw cw (keywordEach [] X.env)).all (λx=>x.1.isSome) &&decide ([e].length+([]:List Keyword).length+(if([]:List Keyword).isEmpty then 0 else 1)<30))=true) r8_._auto_1) (nF:autoParam ((apos.endLine==cw.line)=true) r8_._auto_1)(hs:autoParam (starEach [e] X.env=(false,eval e X.env)::starEach [] X.env) r8_._auto_1)(ny:autoParam ((backTo cw (starEach [] X.env)).any (·.1)=false) r8_._auto_1): PE X (.Call (.Attribute o "split" apos) [e] [] cw) (uE K "str" Kv to t):=by subst h;exact yp PySem.F.plainAttrs_str PySem.F.slot_str_split PySem.F.type_str_split Xf ho ha nM nH nF hs ny
inductive a6E(x:V)(vs:List V)(H:Hp)(Q:VK):Prop |mk (z y:Str)(h0:x= .str z)(h1:vs=[.str y])(h3:z.length<=sizeLine)(h4:Q (.str (Txt.removeprefix z y)) H)
def Kw:V->List V->Hp->VK->Prop:=λx vs H Q=>a6E x vs H Q
theorem Xg:Gk X "str.removeprefix" Kw:=by intro ak s O H x0 vs v us Q I rx rv h;obtain⟨x,y,rfl,rfl,hz,q⟩:=h;obtain⟨t,rfl⟩:=rx;obtain⟨u0,rfl,u,rfl⟩:=vals1 rv;exact SC.removeprefix (λt' k=>⟨.str _,H,I.kept (t':=k) (λ_ _ e=>e),⟨_,Z⟩,q⟩) (hsz:=hz)
theorem Um(K:aa)(h:X.K=K){o e:Expr}{to:TE}{t:TA}{apos cw:Pos}(ho:PE X o to)(ha:PA X [e] t) (nM:autoParam (attributeBase o "removeprefix" X.env (eval o X.env)=eval o X.env) r8_._auto_1) (nH:autoParam (((backTo cw (starEach [e] X.env)).all (λx=>!x.1)&&(backToKw cw (keywordEach [] X.env)).all (λx=>x.1.isSome) &&decide ([e].length+([]:List Keyword).length+(if([]:List Keyword).isEmpty then 0 else 1)<30))=true) r8_._auto_1) (nF:autoParam ((apos.endLine==cw.line)=true) r8_._auto_1)(hs:autoParam (starEach [e] X.env=(false,eval e X.env)::starEach [] X.env) r8_._auto_1)(ny:autoParam ((backTo cw (starEach [] X.env)).any (·.1)=false) r8_._auto_1): PE X (.Call (.Attribute o "removeprefix" apos) [e] [] cw) (uE K "str" Kw to t):=by subst h;exact yp PySem.F.plainAttrs_str PySem.F.slot_str_removeprefix PySem.F.type_str_removeprefix Xg ho ha nM nH nF hs ny
inductive a6Q(xs:List V)(H:Hp)(Q:VK):Prop |mk (z:Str)(n:Int)(h0:xs=[.str z])(h1:PySem.intText? z=some n)(h2:z.length<=640)(h3:Q (.int n) H)
theorem a4l:eT X (.type "int") (λxs H Q=>a6Q xs H Q):=by intro ak s O H xs us Q I r h;obtain⟨z,n,rfl,hn,hl,q⟩:=h;obtain⟨u,rfl,t,rfl⟩:=vals1 r;exact PySem.W.KIN.call_text hn hl ⟨.int _,H,I.tok _,⟨_,Z⟩,q⟩
inductive a7d(K:aa)(t1 t2:TG)(v:V)(O:St)(H:Hp)(Q:St->Hp->Prop):Prop |mk (a:Addr)(x:V)(xs:List V)(h0:v= .ref a)(h1:aK K H a (x::xs))(h2:xs.length<=16000)(h3:∀p H',Nw H H' p (.lst xs)->t1 x O H' λσ1 H1=>t2 (.ref p) σ1 H1 Q)
def a1Y(K:aa)(t1 t2:TG):TG:=λv O H Q=>a7d K t1 t2 v O H Q
theorem KJ(K:aa)(hK:X.K=K){e1 e2:Expr}{k:Nat}{t1 t2:TG}{sp pos:Pos}(hc:X.calm=true)(h1:PG X e1 t1)(h2:PG X e2 t2) (hs:autoParam (assignEach [e1,.Starred e2 sp] X.env=[(false,assign e1 X.env),(true,assign e2 X.env)]) r8_._auto_1):PG X (.Tuple [e1,.Starred e2 sp] k pos) (a1Y K t1 t2):=by subst hK;intro ak s O H v u Q I r hw;obtain⟨a,x,xs,e,hq,hl,hw⟩:=hw;subst e;cases r;obtain⟨its,rv,ht,hz⟩:=I.list hq;have hh:X.A.handled=none:=I.ok.hd hc;have vE:=ht.isList;cases rv with |cons r1 rr=>
 rename_i ux gw;have hlen:=rr.length;have cm:a≠s.heap.objs.size:=by obtain⟨o,ho,_⟩:=vE;exact dg (bP ho)
 rw[assign_Tuple];refine aB (mD ?_);unfold unpack;rw[hs];refine aB (gI ?_);show wpAny _ _ (unpackItems (.ref a) 2 (some 1)) _ _ _;unfold unpackItems;refine aB ?_;unfold notIterableAtAll;refine aB (wpAny_specialOf vE.typeIs slot_list_iter.lookup ?_);refine bA ?_;simp only[Bool.false_eq_true,if_false];refine aB (gI (A4 vE ?_));have sz:(ux::gw).toArray.size=xs.length+1:=by rw[cX,fA,hlen]
 refine aB (gI (PySem.W.kun_draw cm 1 0 _ _ ⟨_,dw _ Z,Z,Z⟩ (vE.push _) bN λh₁ Em Mq=>?_));have MB:h₁.IsList a (ux::gw).toArray:=(vE.push _).extBut Mq.extBut cm;rw[Nat.zero_add]at Em;have ZO:=Em;obtain⟨oi,iI,_⟩:=ZO;have ZF:=MB;obtain⟨ol,nC,_⟩:=ZF;rw[bh (by simp)];refine aB (gI (PySem.W.kun_collect (s:={s with heap:=h₁}) (T:="list_iterator") (.inr (.inr (.inl rfl))) (Walks.list (A:=X.A.in1) hh s.heap.objs.size a cm (ux::gw).toArray) (λj u st=>st.1.typeIs) (k:=1) bN ⟨Em,MB⟩ (bP iI) (bP nC) (λh₂ tk hk=>?_) (by rw[uf];omega)));have ea:(ux::gw).toArray.toList.drop 1=gw:=by simp
 rw[ea];show wpAny _ _ (if gw.length<2-1-1 then _ else _) _ _ _;rw[bh bN];show wpAny _ _ (newList (gw.take (gw.length-(2-1-1)))>>=λd=>pure ((ux::gw).toArray.toList.take 1++[d]++gw.drop (gw.length-(2-1-1)))) _ _ _;have eb:gw.take (gw.length-(2-1-1))=gw:=Af bN;have ec:gw.drop (gw.length-(2-1-1))=[]:=List.drop_eq_nil_of_le bN;rw[eb,ec];have he:Heap.ExtBut s.heap.objs.size s.heap h₂:=λb o hb e=>hk b o hb (Mq.extBut b o hb (bK _ e));refine aB (wpAny_newList (s:={s with heap:=h₂,toks:=tk}) (bA ?_) ?_)
 ·have I2:Inv X ak O H {s with heap:=h₂,toks:=tk}:=I.kept (t':=tk) λb o e=>he b o (dg (bP e)) e
  have nw:Nw H (upd H h₂.objs.size (.lst xs)) h₂.objs.size (.lst xs):=.of (I2.aU.fresh (bB _));have I3:Inv X ak O (upd H h₂.objs.size (.lst xs)) {s with heap:=h₂.push {cls:=.type "list",data:=.seq gw.toArray},toks:=tk}:=I2.laid (t':=tk) (o:=.lst xs) (λb ob q=>bK _ q) (bB _) ⟨by rw[fA]at hz;omega,gw,0,rr,dw _ rfl⟩;show wpAny _ _ (assignInOrder (assign e1 X.env::[assign e2 X.env]) (ux::[Value.ref h₂.objs.size])) _ _ _;refine Aa (aR (h1 ak _ O _ _ _ _ I3 r1 (hw _ _ nw)) λ_ s1 ⟨σ1,H1,I1,q1⟩=>?_);refine Aa (aR (h2 ak s1 σ1 H1 (.ref h₂.objs.size) _ _ I1 Z q1) λ_ s2 ⟨σ2,H2,I2,q2⟩=>?_);exact assignInOrder_nil ⟨σ2,H2,I2,q2⟩
 ·rw[<-hlen,uf];omega
end
end _L
namespace _T
open PySem PySem.Spec PyProof.Rows PySem.NumText
def gl(c:Nat):List (List Nat)->List Nat |[]=>[] |[x]=>x |x::y::r=>x++c::gl c (y::r)
theorem N5(c:Nat):∀zs:List Str,(PySem.Str.join ⟨#[c]⟩ zs).cps.toList=gl c (zs.map λz=>z.cps.toList) |[]=>by simp[PySem.Str.join,PySem.Str.empty,gl] |[x]=>rfl |x::y::r=>by show((x++⟨#[c]⟩)++PySem.Str.join ⟨#[c]⟩ (y::r)).cps.toList=_;rw[PySem.Str.cps_append,PySem.Str.cps_append,Array.toList_append,Array.toList_append,N5 c (y::r)];show(x.cps.toList++[c])++gl c _=x.cps.toList++c::gl c _;rw[List.append_assoc];rfl
theorem a3W{x y:Str}(h:x.cps.toList=y.cps.toList):x=y:=PySem.Str.ext' (Array.toList_inj.mp h)
theorem RN(x y:Str):Txt.split x y≠[]:=by
 unfold Txt.split;split
 ·simp
 ·split
  ·simp
  ·rw[StrLaws.partsBetween_eq]
   obtain⟨p,r,e⟩:=StrLaws.partsFrom_ne x y.length 0 (Builtin.Str.occurrences x y 0 x.length (x.length+1));rw[e];simp
def isFig(c:Nat):Bool:=decide (48<=c)&&decide (c<=57)
def figs(z:Str):List Nat:=match z.cps.toList with |45::r=>r |l=>l
def numIn? (z:Str):Option Int:=bif (figs z).isEmpty|| !(figs z).all isFig then none else bif decide ((figs z)[0]? =some 48)&& !decide (z="0")then none else intText? z
theorem Ng{cs:List Nat}(h:cs.all isFig=true):AllDigits cs:=λc hc=>by have:=fF.mp h c hc;simpa[isFig]using this
theorem YK{z:Str}(h1:figs z≠[])(h2:(figs z).all isFig=true)(hl:z.length<=4300):∃n,intText? z=some n:=by
 unfold figs at h1 h2;split at h1
 ·rename_i r h
  rw[h]at h2;exact⟨_,intText_neg h (Ng h2) h1 hl⟩
 ·rename_i h
  split at h2
  ·rename_i r h'
   exact(h r h').elim
  ·exact⟨_,intText_digits (Ng h2) h1 hl⟩
theorem SK(z:Str):(Txt.removeprefix z "-").cps.toList=figs z:=by
 rw[StrLaws.removeprefix_eq];have e1:(Str.ofString "-").cps.toList=[45]:=by decide+kernel
 have e2:(Str.ofString "-").length=1:=by decide+kernel
 have hn:z.cps.toList.length=z.length:=by simp[Str.length]
 rw[e2,StrLaws.subAt_eq,e1,e2,List.drop_zero];unfold figs;cases hz:z.cps.toList with |nil=>rw[hz]at hn;have h0:z.length=0:=hn.symm;rw[bh (by simp)];exact hz |cons a r=>
  rw[hz]at hn;simp only[fA]at hn;by_cases ha:a=45
  ·subst ha
   rw[bo (by simp;omega)];show((List.drop 1 (45::r)).take _).toArray.toList=r;rw[List.drop_one,List.tail_cons,Af bN]
  ·rw[bh (by simp;intro _;exact λe=>ha (by simpa using e))]
   rw[hz];split
   ·rename_i h;simp at h;exact(ha h.1).elim
   ·rfl
end _T
namespace _L
open PySem PySem.Spec PyProof.Rows
section
variable {prog:af}{w:World}{A:ai}{R:Result->ae->Prop}{s:ae}{elt tg iter tg2 a7S:Expr}{scope:Scope}{pos:Pos}{it acc:Value}{env:Env}
end
section
variable {K:aa}
end
section
variable {X:Cx}{x:Str}{C fI:Addr}{dJ:List Value}{newId oQ B:String}{e e2:Expr}{t:TA}{np cw pos:Pos}{k:Nat}{fd:FuncData}{ps:List Str}{sp:Sp}
theorem CZ{E:XK}(hx:∀ak O H s ex dx,Inv X ak O H s->H ex=some (.ext (gY ex C dx))->X.s₀.heap.objs.size<=ex->E (.ref C) (some dx) (del H ex)->X.xe (.ref ex) s) (EC:mz X.K X.mg x C fI dJ newId)(FB:ExcBaseFacts B newId oQ dJ)(hh:X.A.handled=none)(F:dS X.prog X.w X.K X.mg X.au eM k fI fd ps sp)(hr:bV (k+1) X.A)(hb:Binds X.K fd ps [])(hf:fnAt X.K fI=true)(hg:Gl X x)(ha:PA X [e,e2] t) (he:autoParam (starEach [e,e2] X.env=[(false,eval e X.env),(false,eval e2 X.env)]) r8_._auto_1)(hd:autoParam ((x==("__debug__":Str))=false) q8_._auto_1): PS X (.Raise (some (.Call (.Name x np) [e,e2] [] cw)) none pos) (Hx E C sp t):=by
 intro ak s O H D I h;obtain⟨tl,Nn,nm,q,bs,hdct,sn,sub,ab,col,dd,k0,k1,k2,k3,k5,mN,hC,hN,hi,T⟩:=EC.own I.ok.mod.jN;have hA:=ha cw ak s O H _ I h;rw[arm_exec_Raise];refine aB (mD (Ku (C:=C) (nm:=nm) (q:=q) (N:=Nn) (bs:=bs) (bm:=tl) (hdct:=hdct) (sn:=sn) (sub:=sub) (ab:=ab) (col:=col) (dd:=dd) (k0:=k0) (k1:=k1) (k2:=k2) (k3:=k3) (k5:=k5) (newId:=newId) (T.hasType FB.hasBase) hh (aB (gr (wpAny_Call_ofName (lW I hg EC.at' ?_ hd)) (λv s3 h3=>aB (mD (bA h3))) λ_ _ z=>z))));unfold callWith;rw[he]at hA⊢;refine aB (gI (gr (GZ (Q:=λ(a:Args) s2=>a.kw=[]/\AP X ak O (λvs H1=>vs.length<=sizeLine/\∀ex,H1 ex=none->sp (.ref ex::vs) (upd H1 ex (.ext (jx ex C))) (λv H2=>v= .aY/\∃dx,H2 ex=some (.ext (gY ex C dx))/\E (.ref C) (some dx) (del H2 ex)) (λ_ _ _=>False)) a.pos s2) (aR hA λus s2 z=>⟨Z,z⟩)) (λa s2 z=>aB (mD ?_)) λ_ _ z=>z));obtain⟨us,G7⟩:=a;obtain⟨Ek,vs,H1,I1,r1,z1,w1⟩:=z;obtain rfl:G7=[]:=Ek;have C2:=I1.bk _ _ hC;have T2:=T.keeps I1.bk;have N2:=hN.keeps I1.bk;obtain⟨oI,f1,f2⟩:=Nd I1.dG hf;have DJ:us.length<=sizeLine:=by rw[<-r1.length];exact z1
 obtain⟨hp,g,d,tk,os⟩:=s2;rw[show(backTo cw [(false,eval e X.env),(false,eval e2 X.env)]).any (·.1)=false from rfl];refine aB (wpAny_keeperOf_exc C2 ?_);have I1':Inv X ak O H1 ⟨iu hp C us,g,d,tk,os⟩:=I1.kept (t':=tk) (h':=iu hp C us) λb u e=>p9 e;have xa:=Fq (h:=hp) (C:=C) (rest:=us);have fx:H1 (hp.objs.size+1)=none:=I1.aU.fresh (uk _);have I2:Inv X ak O (upd H1 (hp.objs.size+1) (.ext (jx (hp.objs.size+1) C))) ⟨iu hp C us,g,d,tk,os⟩:=by refine I1.laid (a:=hp.objs.size+1) (o:=.ext (jx (hp.objs.size+1) C)) (h':=iu hp C us) (t':=tk) (λb u e=>p9 e) (uk _) ?_;exact⟨⟨_,_,xa,Z,Z,Z,Z,Z⟩,⟨_,xa⟩,λh1 h2 ⟨jn,ir,y1,y2⟩ k=>⟨jn,ir,k _ y1,y2⟩⟩
 have hq:=w1 (hp.objs.size+1) fx;have r2:Vals (V.ref (hp.objs.size+1)::vs) (Value.ref (hp.objs.size+1)::us):=.cons Z r1;have hl:(Value.ref (hp.objs.size+1)::us++[]).length=ps.length:=by have e:=r2.length;rw[F.len _ _ _ _ hq]at e;rw[jj];exact e.symm
 have bt:=hb ⟨iu hp C us,g,d,tk,os⟩ (Value.ref (hp.objs.size+1)::us) I2.dG hl;rw[jj]at bt;refine aB (Od FB T2 C2 N2 hi f1 f2 DJ (pO (rJ (F.run _ X.stack _ _ ⟨Value.ref (hp.objs.size+1)::us,[]⟩ (Value.ref (hp.objs.size+1)::us) _ _ (λ_ _ _=>False) (hr.make C us []) (I2.tR.make C us []) bt r2 hq) λr s' fH=>?_)));cases r with |error e=>exact False.elim fH |ok fl=>cases fl with |ret u=>obtain⟨v,H',I3,rv,ev,dx,ed,q3⟩:=I2.after fH;subst ev;refine⟨rv,aB (gI (wpAny_point (bA ?_)))⟩;obtain⟨⟨ob,fs,g1,g2,g3,g4,g5,g6⟩,_,_⟩:=(show eQ X.prog X.w H' s'.heap _ (.ext (gY (hp.objs.size+1) C dx))from I3.aU _ _ ed);exact⟨_,ob,fs,Z,I3.bk _ _ hC,g1,g2,g4,g5,hx ak O H' s' _ dx I3 ed (fz I1.sz (uk _)) q3⟩ |next=>exact False.elim fH |brk=>exact False.elim fH |cont=>exact False.elim fH
end
section
variable {κ : Type} [DecidableEq κ]
end
section
variable {P:af}{w:World}{H:Hp}{h:Heap}{a:Addr}
end
section
variable {X:Cx}{ak:List (Addr×Obj)}{O:St}{H:Hp}{s:ae}{a:Addr}{y v:V}{u r:Value}{o:Option V}{A:ai}{E:Value->ae->Prop}
end
section
variable {X:Cx}{ak:List (Addr×Obj)}{O:St}{H:Hp}{s:ae}{a:Addr}{dj:List (Key×V)}{k:Key}{u:Value}{A:ai}{E:Value->ae->Prop}
end
section
variable {X:Cx}{o i e value:Expr}{pos pos' mL:Pos}{td ty tv:TE}
end
section
variable {X:Cx} {pos:Pos}
end
section
variable {X:Cx}{ak:List (Addr×Obj)}{O:St}{H:Hp}{s:ae}{a:Addr}{y d:V}{u r:Value}{o:Option V}{A:ai}{E:Value->ae->Prop}
end
section
variable {X:Cx}{o e f:Expr}{apos cw:Pos}{td ty tx:TE}
end
section
variable {X:Cx}{ak:List (Addr×Obj)}{O:St}{H:Hp}{s:ae}{a:Addr}{dj:List (Key×V)}{A:ai}{E:Value->ae->Prop}
end
section
variable {X:Cx}{ak:List (Addr×Obj)}{O:St}{H:Hp}{s:ae}{a:Addr}{y:V}{u:Value}{A:ai}{E:Value->ae->Prop}
end
end _L
namespace _L
open PySem PySem.Spec PyProof.Rows PySem.W
structure GD(w:World)(K:Frag)(mg:bc)(x:Str)(a:Addr):Prop where
 at':mg x=some (.ref a)
 ob:∃es n,K.lookup a=some ⟨.type "dict",none,.dict es n,#[]⟩/\KeysLit w.params es.toList
 lo:(a==sysModules)=false
theorem a1A{w:World}{K:Frag}{mg:bc}{x:Str}{a:Addr}{h:Heap}{es:Array DictEntry}{n:Nat}(X:K.In h)(G:h.Ns mainGlobals mg)(e:nsIn K mainGlobals x=some (some (.ref a)))(hl:K.lookup a=some ⟨.type "dict",none,.dict es n,#[]⟩)(hk:KeysLit w.params es.toList)(lo:(a==sysModules)=false):GD w K mg x a:=⟨mg_of X G e,⟨es,n,hl,hk⟩,lo⟩
section
variable {X:Cx}{i:Expr}{x:Str}{a:Addr}{pos p:Pos}{ty:TE}
inductive a7g(K:Frag)(a:Addr)(Q:VK)(y:V)(H:Hp):Prop |mk (z:Str)(r:Option Value)(h0:y= .str z)(h1:nsIn K a z=some r)(h2:Q (.bl r.isSome) H)
theorem Uq(G:GD X.w X.K X.mg x a)(hg:Gl X x)(hi:PE X i ty)(fc:autoParam ((x==("__debug__":Str))=false) q8_._auto_1):PC X .In i (.Name x p) (λO H Q=>ty O H λy H1=>a7g X.K a Q y H1):=by intro ak s O H Q I h;obtain⟨es,n,hl,hk⟩:=G.ob;refine aR (hi ak s O H _ I h) λiv s1 ⟨y,H1,I1,ry,z,r,ey,e,q⟩=>lW I1 hg G.at' ?_ fc;subst ey;obtain⟨t,rfl⟩:=ry;refine wpAny_in_of (strKind_is X.prog X.w z t) G.lo (mapOf_K (prog:=X.prog) I1.dG hl hk) ?_;rw[find_K hl e];exact⟨.bl r.isSome,H1,I1.tok _,Z,q⟩
end
theorem Yp{l:OpenLaw}{q:af}{loose:List Str}{XP:(bc)->Heap->Prop}{YP:World->Heap->Prop}{d:DefRec}{K:Params->Frag}{k:Nat}{x:Str}{st:Stmt}(hn:l.most=some 63)(vJ:d.params.defaults=[]) (hr:bV k callerA)(hY:∀(w:World)(h:Heap),YP w h->(K w.params).In h)(All:World->Frag->(bc)->Prop) (F:∀(w:World)(mg:bc)(h:Heap),(K w.params).In h->h.Ns mainGlobals mg->All w (K w.params) mg) (L:∀(w:World)(K:Frag)(mg:bc),All w K mg->FA K mg d.name st) (hb:∀(kV doc pm:Value)(an:Option Addr)(aE ct u:Value),bindArgs (fnOf d.name d.name (iy st) (eA st) (aP st) .none kV doc pm an aE ct) ⟨[u],[]⟩=pure [(x,u)]) (ok:∀(P:af)(w:World)(K:Frag)(mg:bc)(au:Heap)(f:Addr)(fd:FuncData),All w K mg->gq K d.name d.name st f fd->dS P w K mg au eM k f fd [x] (λvs H Q _=>∃(a:Addr)(ns:List Int),vs=[.ref a]/\aK K H a (ns.map V.int)/\ns.length<=63/\∀H',Q (.bl true) H')): WalkO q loose XP YP l.row.toRowW d [] (λf vs=>PySem.call f vs):=_L.Q5 (n:=63) (k:=k) (x:=x) (CX:=λ_=>eM) (sp:=λw=>λvs H Q _=>∃(a:Addr)(ns:List Int),vs=[.ref a]/\aK (K w.params) H a (ns.map V.int)/\ns.length<=63/\∀H',Q (.bl true) H') hn az vJ hr hY (λw mg fa h KX G vD=>by
 have A:=F w mg h KX G;obtain⟨f,fd,hm,Fn⟩:=(L _ _ _ A).ex;have e:fa=f:=by rw[vD]at hm;injection (dW hm)
 subst e;refine⟨fd,λs u=>?_,λau _ _=>ok l.prog w _ mg au fa fd A Fn⟩;obtain⟨oc,od,kV,doc,pm,an,aE,ct,eG,rfl,lk,dY⟩:=Fn.ex;exact .of_eq (hb kV doc pm an aE ct u)) (λ_ _ a ns hl _ hS=>⟨a,ns,Z,hS,hl,λ_=>rfl⟩) λ_ _ _ _ _ z=>z
end _L
namespace _L
open PySem PySem.Spec PyProof.Rows
section
variable {P:af}{w:World}{K:aa}{mg:bc}{au:Heap}{k:Nat}{sp:Sp}{C:Addr}{x m:Str}{f:Addr}{fd:FuncData}{ps:List Str}
end
section
variable {K:aa} {H:Hp}
end
end _L
namespace _t
open _l
end _t
namespace _L
open PySem PySem.Spec PyProof.Rows
section
variable {X:Cx}{es:List Expr}{te:TE}{t:TA}
end
theorem Xc(l:Addr)(items:Array Value)(n:Nat)(dd:Option Addr)(sl:Array (Option Value))(u:Tok): Meets (Builtin.«tuple.__mul__» ⟨[.ref l,.int 1 u],[]⟩) (λ_ R s=>s.heap.get? l=some {cls:=.type "tuple",dict:=dd,data:=.seq items n,slots:=sl}/\R (.ok (.ret (Value.ref l))) s):=.of_wp λprog w A R s h=>by
 obtain⟨hp,g,d,tk,os⟩:=s;obtain⟨hl,h⟩:=h;have f1:=AutoSeq1.idx_int;have f2:=AutoSeq1.sub_tuple_tuple
 wp_walk using wQ hl;exact⟨_,Z,h⟩
inductive a6F(K:aa)(x:V)(y:V)(H:Hp)(Q:VK):Prop |mk (l:_)(k:_)(xs:_)(h0:x= .ref l)(h1:y= .int k)(h2:aQ K H l xs)(h3:xs≠[])(h4:1<=k)(h5:k<=1000)(h6:xs.length<=1000)(h7:∀p H',aA H H'->aQ K H' p (List.replicate k.toNat xs).flatten->Q (.ref p) H')
def Tp(K:aa):R2:=λx y H Q=>a6F K x y H Q
theorem L6{X:Cx}(K:aa)(hK:X.K=K):cj X (binaryOp .Mult) (Tp K):=by
 intro ak s O H x y v u Q I rx ry h;obtain⟨l,k,xs,rfl,rfl,hx,dI,h1,h2,hz,q⟩:=h;by_cases hk:k=1
 ·subst hk hK
  cases rx;obtain⟨t,rfl⟩:=ry;obtain⟨its,r,⟨⟨cls,dd,data,sl⟩,ho,hc,n,hd⟩,_⟩:=I.tuple hx;simp only at hc hd;subst hc hd;refine P4 (T:="tuple") (U:="int") az ⟨_,ho,Z⟩ (λs'=>ud s' 1 t) Lq F.fills_int_mul xu Km F.slot_int_index.lookup (lj xu (ud s 1 t) F.entry_int_rmul (F.args_int_rmul_2 _ _) (Kh 1 t l its.toArray n dd sl) ⟨ho,Z,⟨_,ho,Z⟩,lj GY ⟨_,ho,Z⟩ F.entry_tuple_mul (F.args_tuple_mul_2 _ _) (Xc l its.toArray n dd sl t) ⟨ho,?_⟩⟩);exact⟨.ref l,H,I,Z,q l H (aA.refl _) (by show aQ _ _ _ (List.replicate 1 xs).flatten;simpa using hx)⟩
 ·exact UA K hK ak s O H _ _ v u Q I rx ry ⟨l,k,xs,Z,Z,hx,dI,bN,h2,hz,λp H' nw=>q p H' nw.same (aQ.of nw.at')⟩
def A1(A:ai)(h:Heap):Prop:=∃ex o fs,A.handled=some (.ref ex)/\h.get? ex=some o/\o.data= .fields fs/\fs[2]? =some .none
theorem a3q:entryFor table "proto.unchain"=some Builtin.«proto.unchain»:=entryFor_of_tree (by kernel_rfl)
section
variable {prog:af}{w:World}{A:ai}{E:Value->ae->Prop}{s:ae}
theorem Tg{α:Type}{e:Addr}{oe:Obj}{fe:Array Value}{Q:α->ae->Prop}(hh:A1 A s.heap)(dI:∀ex,A.handled=some (.ref ex)->ex≠e)(lZ:s.heap.get? e=some oe)(MI:oe.data= .fields fe)(hz:2<fe.size) (h:∀g,Heap.SameBut e s.heap g->(∃o,g.get? e=some o/\o.cls=oe.cls)->E (.ref e) {s with heap:=g}):wpAny (model prog w) A (raiseNew (.ref e):Sem α) Q E s:=by
 obtain⟨ex,o,fs,h1,h2,h3,h4⟩:=hh;have ne:=dI ex h1;unfold raiseNew;refine aB (wpAny_handled ?_);rw[h1];have hb:(Value.ref ex !=Value.ref e)=true:=by rw[bne_iff_ne];intro z;injection z with z;exact ne z
 dsimp only;rw[bo hb];refine aB (gI (wpAny_runValue (codeAny_builtin a3q ?_)));show wpAny _ _ (field (.ref ex) 2>>=_) _ _ s;refine aB (fT h2 h3 (x:=.none) h4 ?_);show wpAny _ _ (if(Value.none==Value.none)=true then _ else _) _ _ s;rw[bo (show(Value.none==Value.none)=true from Z)];refine bA ?_;show wpAny _ _ (setField (.ref e) 2 (.ref ex)>>=_) _ _ s;refine aB (wN lZ MI hz (wpAny_throw (h _ (PJ ..) ⟨_,xp _ lZ (GH (wY MI _)),Obj.cls_mapFields ..⟩)))
end
def OV(ex:Addr)(H:Hp):Prop:=∃cls dx,H ex=some (.ext (jW ex cls dx))
theorem Inv.hdS{X:Cx}{ak:List (Addr×Obj)}{O:St}{H:Hp}{s:ae}{ex:Addr}(I:Inv X ak O H s)(hx:X.A.handled=some (.ref ex))(h:OV ex H):A1 X.A s.heap:=by obtain⟨cls,dx,e⟩:=h;obtain⟨⟨o,o1,o2,o3,fs,o4,o5⟩,_,_⟩:=(show eQ X.prog X.w H s.heap ex (.ext (jW ex cls dx))from I.aU ex _ e);exact⟨ex,o,fs,hx,o1,o4,o5⟩
structure OF(ex:Addr)(P:af)(w:World)(K:aa)(tg:Expr)(J:It)(fp:List Addr)(it:Addr)(tn:Nat->Heap->Prop):Prop where
 mem:it∈fp
 obj:∀i h,tn i h->∀b∈fp,∃o,h.get? b=some o/\∀v,o.data≠ .cell v
 keep:∀i h h',tn i h->(∀b∈fp,∀o,h.get? b=some o->h'.get? b=some o)->tn i h'
 item:∀(X:Cx),X.prog=P->X.w=w->X.K=K->X.A.handled=some (.ref ex)->∀(i:Nat)(ak:List (Addr×Obj))(s:ae)(O:St)(H:Hp)(E:Value->ae->Prop),Inv X ak O H s->(∀b∈fp,gG X ak H b)->tn i s.heap->J.go i H->wpAny (model P w) X.A (pyNext (.ref it)) (λr s1=>∃u,r=some u/\wpAny (model P w) X.A (letOwnedTupleGo tg (.ref it) u) (λ_ s2=>∃x H',Inv X ak O H' s2/\RelV x u/\J.gM i H x H'/\tn (i+1) s2.heap/\∀b∈fp,H' b=none) E s1) E s
 done:∀(X:Cx),X.prog=P->X.w=w->X.K=K->X.A.handled=some (.ref ex)->∀(i:Nat)(ak:List (Addr×Obj))(s:ae)(O:St)(H:Hp)(E:Value->ae->Prop),Inv X ak O H s->(∀b∈fp,gG X ak H b)->tn i s.heap->J.stop i H->wpAny (model P w) X.A (pyNext (.ref it)) (λr s1=>r=none/\Inv X ak O H s1) E s
 self:∀(A:ai)(i:Nat)(s:ae)(Q:Value->ae->Prop)(E:Value->ae->Prop),tn i s.heap->Q (.ref it) s->wpAny (model P w) A (pyIter (.ref it)) Q E s
def OM(ex:Addr)(X:Cx)(ak:List (Addr×Obj))(O:St)(tg:Expr)(R:It->Hp->Prop)(qI:Value)(s2:ae):Prop:=∃(it:Addr)(fp:List Addr)(tn:Nat->Heap->Prop)(J:It)(H':Hp),qI= .ref it/\Inv X ak O H' s2/\OF ex X.prog X.w X.K tg J fp it tn/\tn 0 s2.heap/\(∀b∈fp,gG X ak H' b)/\R J H'
def OL(ex:Addr)(X:Cx)(tg iter:Expr)(wi:TI):Prop:=∀(ak:List (Addr×Obj))(s:ae)(O:St)(H:Hp)(R:It->Hp->Prop),Inv X ak O H s->wi O H R->wpAny (model X.prog X.w) X.A (eval iter X.env) (λv s1=>wpAny (model X.prog X.w) X.A (pyIter v) (OM ex X ak O tg R) X.xe s1) X.xe s
section
variable {X:Cx} {tg:Expr} {ex:Addr}
end
section
variable {X:Cx} {ex:Addr} {pos:Pos}
theorem Uk{N:List Str}{js:List (Option Nat)}{elt tg iter:Expr}{ifs:List Expr}{scope:Scope}{pos:Pos}{wi:TI}{g:TG}{tt:TT}{te:TE}(hc:X.A.handled=some (.ref ex))(hN:wq X N js scope=true)(hS:pE X scope=true) (hi:OL ex X tg iter wi)(hg:∀cl s H fp ak,PG (cU X N scope cl s H fp ak) tg g)(ht:∀cl s H fp ak,wC (cU X N scope cl s H fp ak) ifs tt)(he:∀cl s H fp ak,PE (cU X N scope cl s H fp ak) elt te) (hs:autoParam (∀x,foldedSetIterable iter X.env x=pure x) f8_._auto_1):PE X (.ListComp elt [⟨tg,iter,ifs,0⟩] scope pos) (AA js wi g tt te):=by
 intro ak s O H Q I h;have kP:=hS;unfold pE at kP;rw[cZ,cZ]at kP;obtain⟨⟨k1,k2⟩,k3⟩:=kP;have jd:scope.kind= .function:=cP.mp k1;have oZ:∀x∈scope.names,x.2= .free->∃c,X.env.cells.lookup x.1=some c:=λx hx e=>by have:=fF.mp k3 x hx;rw[e]at this;exact I.ok.has x.1 (.inl (cP.mp this))
 have m9:∀x∈scope.names,x.2≠ .cell:=λx hx e=>by have:=fF.mp k3 x hx;rw[e]at this;exact cJ this
 have vC:∀x∈scope.names,x.2= .local->scope.names.lookup x.1=some .local:=λx hx e=>by have:=fF.mp k3 x hx;rw[e]at this;exact cP.mp this
 obtain⟨cl,vM,c1,c2⟩:=FP oZ;rw[eval_ListComp];refine P2 (use:=none) Z hs vM jd vC (aR (hi ak s O H _ I h) λv s1 h1=>aR h1 λqI s2 h2=>?_);obtain⟨it,fp,tn,J,H2,e,I2,T,lI,f2,h2⟩:=h2;subst e;have hD:H2 s2.heap.objs.size=none:=I2.aU.fresh (bB _);obtain⟨W,⟨m0,w0⟩,turn⟩:=h2 _ _ (Nw.of hD);refine jX (P1 m9 (by intro y hy;simp at hy) (λh₁ oW oS=>?_) jd);have kW:∀b∈fp,b<s2.heap.objs.size:=λb hb=>by obtain⟨o,e,_⟩:=T.obj _ _ lI b hb;exact bP e
 have I3:Inv X ak O (upd H2 s2.heap.objs.size (.lst [])) {s2 with heap:=s2.heap.push {cls:=.type "list",dict:=none,data:=.seq ([]:List Value).toArray}}:=I2.yS (its:=[]) (t':=s2.toks) .nil (fw _);generalize p5:s2.heap.push {cls:=.type "list",dict:=none,data:=.seq ([]:List Value).toArray}=h3 at I3 oW oS;have om:h3.objs.size=s2.heap.objs.size+1:=by rw[<-p5,mI]
 have vw:∀b o,s2.heap.get? b=some o->h3.get? b=some o:=λb o e=>by rw[<-p5];exact bK _ e
 have f3:∀b∈fp,gG X ak (upd H2 s2.heap.objs.size (.lst [])) b:=λb hb=>⟨by rw[aL (dg (kW b hb))];exact(f2 b hb).1,(f2 b hb).2⟩;have oO:∀b o,h3.get? b=some o->h₁.get? b=some o:=λb o e=>(oS.2 b (dg (bP e))).trans (bK _ e);have I4:Inv (cU X N scope cl {s2 with heap:=h3} (upd H2 s2.heap.objs.size (.lst [])) fp ak) [] (stC js O) (upd H2 s2.heap.objs.size (.lst [])) {s2 with heap:=h₁,toks:=s2.toks+([]:List (Str×Value)).length}:=I3.comp (s:={s2 with heap:=h3}) hN hS c1 c2 f3 (λb hb=>by show b<h3.objs.size;rw[om];exact x8 (kW b hb)) (by simpa using oW) oO;have oo:tn 0 h₁:=T.keep _ _ _ lI λb _ o e=>oO b o (vw b o e);have loop:codeAny (model X.prog X.w) X.A (.compLoop (.ListComp elt [⟨tg,iter,ifs,0⟩] scope pos) 0 (.ref it) (.ref s2.heap.objs.size) (compEnvC scope cl h3.objs.size X.env)) (compPost (model X.prog X.w) X.A X.xe none (EP X ak O Q) (.ref s2.heap.objs.size) h3.objs.size) {s2 with heap:=h₁,toks:=s2.toks+([]:List (Str×Value)).length}:=by
  refine FK (λn s'=>∃i σ' H',Inv (cU X N scope cl {s2 with heap:=h3} (upd H2 s2.heap.objs.size (.lst [])) fp ak) [] σ' H' s'/\tn i s'.heap/\(∀b∈fp,H' b=none)/\W i n σ' H') ?_ m0 ⟨0,_,_,I4,oo,λb hb=>(f3 b hb).1,w0⟩;rintro n s5 ⟨i,σ5,H5,I5,jE,mh,w5⟩;have iE:∀{H':Hp},(∀b∈fp,H' b=none)->∀b∈fp,gG (cU X N scope cl {s2 with heap:=h3} (upd H2 s2.heap.objs.size (.lst [])) fp ak) [] H' b:=λ{H'} hn b hb=>by
   obtain⟨_,q1,q2,q3,q4,q5⟩:=f3 b hb;refine⟨hn b hb,λz=>?_,I4.ok.mi b hb,.inl hb,λx c e=>q4 x c (c1 x c e),λp hp=>q5 p (by simpa[cU]using hp)⟩;have cm:b<h3.objs.size:=by rw[om];exact x8 (kW b hb)
   exact dg cm z
  rcases turn i n σ5 H5 w5 with⟨stop,qn⟩|⟨go,step⟩
  ·refine aR (T.done (cU X N scope cl {s2 with heap:=h3} (upd H2 s2.heap.objs.size (.lst [])) fp ak) rfl rfl rfl hc i [] s5 σ5 H5 _ I5 (iE mh) jE stop) λr s6 ⟨hr,I6⟩=>?_
   subst hr;obtain⟨m,hm,_⟩:=I6.loc;refine⟨m,hm,λh7 nv=>?_⟩;have u0:Un (cS X.stack) fp (upd H2 s2.heap.objs.size (.lst [])) H5 h3 s6.heap:=I6.au;have ne:∀b o,h3.get? b=some o->b≠h3.objs.size:=λb o e=>dg (bP e);have u:Un (cS X.stack) fp (upd H2 s2.heap.objs.size (.lst [])) H5 h3 h7:=⟨λb o e n hb hx=>(nv.2 b (ne b o e)).trans (u0.keep b o e n hb hx),λb o e n hb hx=>let⟨sl,q⟩:=u0.slot b o e n hb hx;⟨sl,(nv.2 b (ne b o e)).trans q⟩,u0.free,λb o e hx=>let⟨o',q⟩:=u0.there b o e hx;⟨o',(nv.2 b (ne b o e)).trans q⟩,u0.gZ,u0.gX,u0.hU⟩;have I7:Inv X ak O H5 {s6 with heap:=h7}:=I3.wu (s':={s6 with heap:=h7}) (ch:=fp) I6.os u (I6.aU.but I6.free nv) I6.bare λb hb=>⟨(f3 b hb).2.2.2.1,(f3 b hb).2.1,(f3 b hb).2.2.2.2.1,(f3 b hb).2.2.2.2.2⟩;exact⟨.ref s2.heap.objs.size,H5,I7,Z,qn⟩
  ·refine aR (T.item (cU X N scope cl {s2 with heap:=h3} (upd H2 s2.heap.objs.size (.lst [])) fp ak) rfl rfl rfl hc i [] s5 σ5 H5 _ I5 (iE mh) jE go) λr s6 ⟨u,hr,h6⟩=>?_
   subst hr;refine aR h6 λ_ s7 ⟨x,H7,I7,r7,y7,jl,vU⟩=>?_;have wI:=I7.pinned (iE vU) (T.obj _ _ jl);refine aR (hg _ _ _ _ _ _ s7 σ5 H7 x u _ wI r7 (step x H7 y7)) λ_ s8 ⟨σ8,H8,I8,q8⟩=>?_;refine aR (ht _ _ _ _ _ _ s8 σ8 H8 _ I8 q8) λok s9 ⟨H9,I9,q9⟩=>?_;have again:∀{s':ae}{σ7:St}{H7:Hp},Inv (cU X N scope cl {s2 with heap:=h3} (upd H2 s2.heap.objs.size (.lst [])) fp ak) ([]++qo fp s7.heap) σ7 H7 s'->(∃m',m'<n/\W (i+1) m' σ7 H7)->∃m,m<n/\∃i σ' H',Inv (cU X N scope cl {s2 with heap:=h3} (upd H2 s2.heap.objs.size (.lst [])) fp ak) [] σ' H' s'/\tn i s'.heap/\(∀b∈fp,H' b=none)/\W i m σ' H':=λ{s' σ7 H7} J7 n7=>by obtain⟨m',hm,w7⟩:=n7;refine⟨m',hm,i+1,σ7,H7,J7.rV,T.keep _ _ _ jl λb hb o e=>(J7.pin (b,o) (gK _ (gK _ (oN hb e)))).1,λb hb=>?_,w7⟩;obtain⟨o,e,d⟩:=T.obj _ _ jl b hb;exact(J7.pin (b,o) (gK _ (gK _ (oN hb e)))).2.1
   cases ok with |false=>rw[bh cJ]at q9⊢;exact again I9 q9 |true=>rw[bo rfl]at q9⊢;refine aR (he _ _ _ _ _ _ s9 σ8 H9 _ I9 q9) λyv iG ⟨y,jh,pN,uU,ys,vx,hz,oa⟩=>?_;refine aR (yL _ iG σ8 jh (.ref s2.heap.objs.size) [y] (.ref s2.heap.objs.size) [yv] (λ_ iC=>∃m',m'<n/\W (i+1) m' σ8 iC) pN Z (.cons uU .nil) ⟨_,ys,y,Z,Z,vx,hz,oa⟩) λ_ yf ⟨v11,iC,wJ,KA,uV⟩=>?_;exact again wJ uV
 exact P7 loop (T.self _ 0 _ _ _ oo loop)
end
section
variable {K:aa} {H:Hp}
end
structure jU(ex:Addr)(k:Nat)(A:ai):Prop where
 n:pJ k A
 hd:A.handled=some (.ref ex)
theorem jU.mono{ex:Addr}{j k:Nat}{A:ai}(r:jU ex k A)(h:j<=k):jU ex j A:=⟨r.n.mono h,r.hd⟩
theorem jU.deeper{ex:Addr}{k:Nat}{A:ai}(r:jU ex (k+1) A)(env:Env):jU ex k (A.deeper env):=⟨r.n.deeper env,r.hd⟩
theorem bV.Xx{k:Nat}{A:ai}(r:bV k A)(ex:Addr):jU ex k (A.mark (some (.ref ex))):=⟨r.mark _,Z⟩
def Gq(ex:Addr)(P:af)(w:World)(K:aa)(mg:bc)(au:Heap)(k:Nat)(f:Addr)(fd:FuncData)(ps:List Str)(sp:Sp):Prop:=(∀vs H Q E,sp vs H Q E->vs.length=ps.length)/\∀(A:ai)(outer:List Env)(s:ae)(H:Hp)(args:Args)(us:List Value)(vs:List V)(Q:VK),jU ex k A->o8 P w K mg au A outer s H->BindsTo s fd args (ps.zip us)->Vals vs us->sp vs H Q (λ_ _ _=>False)->codeAny (model P w) A (.call (.ref f) args) (λr s'=>match r with| .ok (.ret u)=>CE outer P w H s Q u s'|_=>False) s
theorem a25{ex:Addr}{P:af}{w:World}{K:aa}{mg:bc}{au:Heap}{k:Nat}{f:Addr}{name qual:Str}{params:Arguments}{body:List Stmt}{scope:Scope}{dV kV doc pm aE ct oc:Value}{an od:Option Addr} {eG:Array (Option Value)}{N ps:List Str}{sp:Sp}(lk:K.lookup f=some ⟨oc,od,.func (PySem.W.fnOf name qual params body scope dV kV doc pm an aE ct),eG⟩)(dY:PySem.W.codeIn K aE qual=true)(S:bj N ps scope)(len:∀vs H Q E,sp vs H Q E->vs.length=ps.length) (fg:∀(A:ai)(outer:List Env)(s:ae)(H:Hp)(vs:List V)(Q:VK),jU ex k (A.deeper (envOfC qual scope s.heap.objs.size f aE))->sp vs H Q (λ_ _ _=>False)->∃t,eP (FF P w K mg au N qual scope f aE A outer s H) body t/\t {nx:=λ_ H'=>Q .aY H',rt:=Q} (start N vs) H): Gq ex P w K mg au (k+1) f (PySem.W.fnOf name qual params body scope dV kV doc pm an aE ct) ps sp:=by
 refine⟨len,λA outer s H args us vs Q hr e0 hb r fq=>?_⟩;have hl:=len _ _ _ _ fq;have KX:K.In s.heap:=e0.mod.jN.keeps λb o e=>(e0.bs b o e).1;have lim:s.heap.NoLimit:=e0.mod.nolimit.keeps λb o e=>(e0.bs b o e).1;have hk:∀y∈ps.zip us,scope.names.lookup y.1=some .local\/(scope.names.lookup y.1=some .cell/\((cellsFrom (s.heap.objs.size+1) scope.names []).lookup y.1).isSome=true):=λ⟨n,v⟩ hy=>by
  rcases S.par n (uq hy).1 with q|q
  ·exact .inl q
  ·exact .inr ⟨q,GB _ _ _ (.inl q)⟩
 refine P8 (by have:=hr.n.dp;omega) (KX _ _ lk) Z S.co S.gen Z (Pj KX dY) (hb _ _ _ _ ?_);refine P0 S.kind hk λenv he s1 x=>?_;subst he;refine⟨lim.keeps x.toInCall.keep,codeAny_func ?_⟩;obtain⟨t,ht,hq⟩:=fg A outer s H vs Q (hr.deeper _) fq;have e1:o8 P w K mg au {A with handled:=none} outer s H:=⟨e0.frames,e0.mod,e0.bs,e0.jv,e0.iq,e0.kU,e0.aU,e0.bare⟩;have I:=E1 (CX:=eM) (A:={A with handled:=none}) (E:=λ_ _ _=>False) S rfl e1 hl r x;have J:Inv (FF P w K mg au N qual scope f aE A outer s H) [] (start N vs) H s1:=⟨⟨I.ok.mod,I.ok.kind,I.ok.glob,I.ok.blt,I.ok.above,I.ok.inj,I.ok.has,I.ok.pG,λh=>(cJ h).elim,Around.frames_deeper e0.frames,I.ok.pX,I.ok.vY,I.ok.bs,I.ok.jv,I.ok.oJ,I.ok.mi,I.ok.iq,I.ok.kU⟩,I.os,I.bare,I.au,I.loc,I.cell,I.free,I.iL,I.pin,I.aU,I.len⟩;refine gr (ht [] s1 (start N vs) H _ J hq) (λfl s' hs=>?_) λe s' hs=>hs.elim;cases fl with |ret u=>obtain⟨v,σ',H',J',rv,q⟩:=hs;exact⟨v,H',J'.os,J'.bare,J'.au,J'.aU,rv,q⟩ |next=>obtain⟨σ',H',J',q⟩:=hs;exact⟨V.aY,H',J'.os,J'.bare,J'.au,J'.aU,Z,q⟩ |brk=>obtain⟨_,_,_,q⟩:=hs;exact False.elim q |cont=>obtain⟨_,_,_,q⟩:=hs;exact False.elim q
def A3(P:af)(w:World)(K:aa)(mg:bc)(au:Heap)(x:Str)(k:Nat)(sp:Addr->Sp):Prop:=∃f fd ps,(∀ex,Gq ex P w K mg au k f fd ps (sp ex))/\mg x=some (.ref f)/\PySem.W.keepIn K (.ref f)=true/\Binds K fd ps []
theorem FA.a0q{P:af}{w:World}{K:aa}{mg:bc}{au:Heap}{x:Str}{st:Stmt}{N ps:List Str}{k:Nat}{sp:Addr->Sp}(F:FA K mg x st)(S:bj N ps (aP st))(len:∀ex vs H Q E,sp ex vs H Q E->vs.length=ps.length) (hb:∀(kV doc pm:Value)(an:Option Addr)(aE ct:Value)(us:List Value),us.length=ps.length->bindArgs (PySem.W.fnOf x x (iy st) (eA st) (aP st) .none kV doc pm an aE ct) ⟨us,[]⟩=pure (ps.zip us)) (fg:∀(ex f:Addr)(aE:Value)(A:ai)(outer:List Env)(s:ae)(H:Hp)(vs:List V)(Q:VK),jU ex k (A.deeper (envOfC x (aP st) s.heap.objs.size f aE))->sp ex vs H Q (λ_ _ _=>False)->∃t,eP (FF P w K mg au N x (aP st) f aE A outer s H) (eA st) t/\t {nx:=λ_ H'=>Q .aY H',rt:=Q} (start N vs) H):A3 P w K mg au x (k+1) sp:=by obtain⟨f,fd,hm,F⟩:=F.ex;have vO:=F.binds hb;have kp:=F.kp;obtain⟨oc,od,kV,doc,pm,an,aE,ct,eG,rfl,lk,dY⟩:=F.ex;exact⟨f,_,ps,λex=>a25 lk dY S (len ex) λA outer s H vs Q hr fq=>fg ex f aE A outer s H vs Q hr fq,hm,kp,vO⟩
section
variable {X:Cx}{ex:Addr}{k:Nat}{x m:Str}{C:Addr}{p pos apos:Pos}{o e:Expr}{es:List Expr}{t:TA}{ta:TE}{sp:Addr->Sp}
theorem So{ak:List (Addr×Obj)}{O:St}{H:Hp}{s:ae}{Q:VK}{us:List Value}{vs:List V}{f:Addr}{fd:FuncData}{ps:List Str}{sp:Sp}(F:Gq ex X.prog X.w X.K X.mg X.au k f fd ps sp)(hr:jU ex k X.A)(hb:Binds X.K fd ps [])(I:Inv X ak O H s)(r:Vals vs us)(h:sp vs H Q (λ_ _ _=>False)): wpAny (model X.prog X.w) X.A (call (.ref f) us) (EP X ak O Q) X.xe s:=by
 have hl:(us++[]).length=ps.length:=by rw[jj,<-r.length];exact F.1 _ _ _ _ h
 have bt:=hb s us I.dG hl;rw[jj]at bt;refine pO (rJ (F.2 X.A X.stack s H ⟨us,[]⟩ us vs Q hr I.tR bt r h) λr s' hq=>?_);cases r with |error e=>exact hq.elim |ok fl=>cases fl with |ret u=>exact I.after hq |next=>exact hq.elim |brk=>exact hq.elim |cont=>exact hq.elim
def Rg(sp:Sp)(t:TA):TE:=λO H Q=>t O H λvs H1=>sp vs H1 Q (λ_ _ _=>False)
theorem Ui(F:A3 X.prog X.w X.K X.mg X.au x k sp)(hr:jU ex k X.A)(hg:Gl X x)(ha:PA X (e::es) t)(fc:autoParam ((x==("__debug__":Str))=false) q8_._auto_1) (he:autoParam (starEach (e::es) X.env=(false,eval e X.env)::starEach es X.env) r8_._auto_1)(dH:autoParam ((backTo pos (starEach es X.env)).any (·.1)=false) r8_._auto_1):PE X (.Call (.Name x p) (e::es) [] pos) (Rg (sp ex) t):=by obtain⟨f,fd,ps,F,hm,hk,hb⟩:=F;intro ak s O H Q I h;refine wR (lW I hg hm ?_ fc);exact Ad (h₀:=X.au) I.ok.mod.jN hk (aR (ha pos ak s O H _ I h) λus s1 ⟨vs,H1,I1,r,q⟩=>⟨I1.dG,So (F ex) hr hb I1 r q⟩) he dH
end
section
variable {prog:af}{w:World}{A:ai}{E:Value->ae->Prop}{s:ae}
theorem RE{α:Type}{it:Addr}{Q:α->ae->Prop}(hh:A1 A s.heap) (h:∀g e,Heap.ExtBut it s.heap g->(∃o,g.get? e=some o/\o.cls= .type "StopIteration")->E (.ref e) {s with heap:=g}):wpAny (model prog w) A (newExc (.type "StopIteration") []>>=λe=>(raiseNew e:Sem α)) Q E s:=by
 obtain⟨ex,o,fs,h1,e2,h3,h4⟩:=id hh;refine aB ?_;simp only[newExc,newTuple];refine aB (jX ?_ (by size_fits));refine aB (m:=firstArgMember _ _) (ua (a:=Value.none) (by first|rfl|(simp only[firstArgMember];rfl)) ?_);refine jX ?_ (by size_fits);refine Tg (hh:=⟨ex,o,fs,h1,bK _ (bK _ e2),h3,h4⟩) (λix z=>?_) (dw _ Z) Z (GK Z) λg sb ⟨o',e',c'⟩=>h g _ ?_ ⟨o',e',c'⟩
 ·rw[h1]at z
  cases z;exact dg (bP (bK _ e2))
 ·intro b ob hb eb
  have e4:=bK {cls:=.type "tuple",data:=.seq #[]} eb;exact(sb.2 b (dg (bP e4))).trans (bK _ e4)
theorem Tf{it:Addr}{x left step:Int}{Q:Option Value->ae->Prop}(hh:A1 A s.heap)(hit:IsRangeIter s.heap it x left step)(ZI:left<=0) (hQ:∀h',Heap.ExtBut it s.heap h'->Q none {s with heap:=h'}):wpAny (model prog w) A (pyNext (.ref it)) Q E s:=by have hT:s.TypeIs (.ref it) "range_iterator":=⟨_,hit,Z⟩;unfold pyNext;refine aB (A7 (uc (name:=Str.ofString "__next__") hT a7m (ub a7m hT PySem.F.entry_range_iterator_next ?_ (PySem.F.args_range_iterator_next_1 _))));show wpAny _ _ (field (.ref it) 0>>=_) _ _ s;refine aB (fT hit Z (x:=rawInt x) Z ?_);show wpAny _ _ (field (.ref it) 1>>=_) _ _ s;refine aB (fT hit Z (x:=rawInt left) Z ?_);show wpAny _ _ (field (.ref it) 2>>=_) _ _ s;refine aB (fT hit Z (x:=rawInt step) Z ?_);show wpAny _ _ (if left<=0 then _ else _) _ _ s;rw[bo ZI];refine aB (wO ?_);refine aB ?_;refine RE (A:=A.in1) (it:=it) hh λg e xb ex=>?_;refine aB (wpAny_isInstance (T:="StopIteration") (b:=true) ex isSubtype_stop ?_);exact bA (hQ _ xb)
end
def Gp(ex:Addr)(lo:Int)(n:Nat):It:=⟨(nY lo n).go,(nY lo n).gM,λi H=>n<=i/\OV ex H⟩
theorem Qt{P:af}{w:World}{K:aa}{tg:Expr}(ex it:Addr)(lo:Int)(n:Nat):OF ex P w K tg (Gp ex lo n) [it] it (λi h=>IsRangeIter h it (lo+(i:Nat)*1) ((n:Int)-(i:Nat)) 1) where
 mem:=by simp
 obj:=λi h st b hb=>by
  have e:b=it:=by simpa using hb
  subst e;exact⟨_,st,λv z=>by have z':Data.fields _=Data.cell v:=z;cases z'⟩
 keep:=λi h h' st k=>k it (by simp) _ st
 item:=by
  intro X hP hw hK hc i ak s O H E I hf st hg;subst hP hw hK;obtain⟨f0,f1,f2,f3,f4,f5⟩:=hf it (by simp);have hi:i<n:=hg;refine wpAny_pyNext_range_item st bN λh' ME kJ=>?_;have I1:=λ(tk:Nat)=>show Inv X ak O H {s with heap:=h',toks:=tk}from I.turned (λb o hb e=>kJ.extBut b o (by simpa using hb) e) f0 f1 f3 f4 f5;have e1:lo+((i+1:Nat):Int)*1=lo+(i:Int)*1+1:=by push_cast;omega
  have e2:(n:Int)-((i+1:Nat):Int)=(n:Int)-(i:Int)-1:=by push_cast;omega
  refine⟨_,Z,tN (s:={s with heap:=h',toks:=s.toks+1}) (n:="range_iterator") ME rfl rfl az ⟨.int (lo+i),H,I1 _,⟨s.toks,?_⟩,⟨Z,Z⟩,?_,λb hb=>(hf b hb).1⟩⟩
  ·rw[Int.mul_one]
  ·rw[e1,e2];exact ME
 done:=by intro X hP hw hK hc i ak s O H E I hf st hg;subst hP hw hK;obtain⟨hg,hd⟩:=hg;obtain⟨f0,f1,f2,f3,f4,f5⟩:=hf it (by simp);exact Tf (I.hdS hc hd) st bN λh' eb=>⟨Z,I.turned (t':=s.toks) (λb o hb e=>eb b o hb e) f0 f1 f3 f4 f5⟩
 self:=λ_ _ _ _ _ st h=>Gu st h
section
variable {X:Cx} {tg:Expr} {ex:Addr}
theorem Te{ak:List (Addr×Obj)}{O:St}{H:Hp}{s:ae}{R:It->Hp->Prop}{E:Value->ae->Prop}{lo hi:Int}{t u v:Tok}{tk:Nat}(I:Inv X ak O H s)(h1:-(2^62)<=lo)(h2:lo<2^62)(h3:-(2^62)<=hi)(h4:hi<2^62) (q:R (Gp ex lo (hi-lo).toNat) H):wpAny (model X.prog X.w) X.A (pyIter (.ref s.heap.objs.size)) (OM ex X ak O tg R) E {s with heap:=s.heap.push {cls:=.type "range",data:=.fields #[.int lo t,.int hi u,.int 1 v]},toks:=tk}:=by
 refine wpAny_pyIter_range (IsRange.new ..) (small_one h1 h2 h3 h4) ?_;have I1:Inv X ak O H {s with heap:=s.heap.push {cls:=.type "range",data:=.fields #[.int lo t,.int hi u,.int 1 v]},toks:=tk}:=I.kept λb o e=>bK _ e;refine⟨(s.heap.push {cls:=.type "range",data:=.fields #[.int lo t,.int hi u,.int 1 v]}).objs.size,[(s.heap.push {cls:=.type "range",data:=.fields #[.int lo t,.int hi u,.int 1 v]}).objs.size],_,_,H,Z,I1.kept (t':=tk) λb o e=>bK _ e,Qt ex _ lo (hi-lo).toNat,?_,λb hb=>?_,q⟩
 ·have e1:lo+((0:Nat):Int)*1=lo:=by simp
  have e2:(((hi-lo).toNat:Nat):Int)-((0:Nat):Int)=Builtin.Range.rangeSize lo hi 1:=by rw[rangeSize_one];split<;>omega
  show IsRangeIter _ _ (lo+((0:Nat):Int)*1) ((((hi-lo).toNat:Nat):Int)-((0:Nat):Int)) 1;rw[e1,e2];exact dw _ rfl
 ·have e:b=(s.heap.push {cls:=.type "range",data:=.fields #[.int lo t,.int hi u,.int 1 v]}).objs.size:=by simpa using hb
  subst e;exact I1.nO (bB _) (I1.aU.fresh (bB _))
inductive a77(ex:Addr)(R:It->Hp->Prop)(vs:List V)(H1:Hp):Prop |mk (j:Int)(h0:vs=[.int j])(h1:-(2^62)<=j)(h2:j<2^62)(h3:R (Gp ex 0 j.toNat) H1)
def YX(ex:Addr)(ta:TA):TI:=λO H R=>ta O H λvs H1=>a77 ex R vs H1
theorem U8(ex:Addr){a:Expr}{ta:TA}{p pos:Pos}(hg:Gl X "range")(hm:X.mg "range"=none)(ha:PA X [a] ta)(hs:autoParam (starEach [a] X.env=[(false,eval a X.env)]) r8_._auto_1):OL ex X tg (.Call (.Name "range" p) [a] [] pos) (YX ex ta):=by intro ak s O H R I h;refine Call_ (ng I hg hm boot_range (uj (aR (ha pos ak s O H _ I h) λus s1 ⟨vs,H1,I1,r1,q1⟩=>?_) hs Z));obtain⟨j,e,q1,q2,q⟩:=q1;subst e;cases r1 with |cons r rr=>cases rr;obtain⟨t,rfl⟩:=r;exact call_range_1 (Te I1 bN bN q1 q2 (by simpa using q))
end
def zV(CX:iP)(X:Cx)(E:St->XK):Prop:=∀(ak:List (Addr×Obj))(O:St)(H:Hp)(s:ae)(e:Value)(s':ae),Inv X ak O H s->CX X.stack H s (E O) e s'->X.xe e s'
section
variable {X:Cx}{CX:iP}{k:Nat}{f:Addr}{fd:FuncData}{ps:List Str}{sp:Sp}{dvs:List V}{ds:List Value}{E:St->XK}{x:Str}{p pos:Pos}{e:Expr}{es:List Expr}{t:TA}
theorem Sn{ak:List (Addr×Obj)}{O:St}{H:Hp}{s:ae}{Q:VK}{us:List Value}{vs:List V}(F:dS X.prog X.w X.K X.mg X.au CX k f fd ps sp)(hr:bV k X.A)(hb:Binds X.K fd ps ds)(hd:Vals dvs ds)(hx:zV CX X E)(I:Inv X ak O H s)(r:Vals vs us)(h:sp (vs++dvs) H Q (E O)):wpAny (model X.prog X.w) X.A (call (.ref f) us) (EP X ak O Q) X.xe s:=by
 have r2:Vals (vs++dvs) (us++ds):=r.append hd;have hl:(us++ds).length=ps.length:=by rw[<-r2.length];exact F.len _ _ _ _ h
 refine pO (rJ (F.run X.A X.stack s H ⟨us,[]⟩ (us++ds) (vs++dvs) Q (E O) hr I.tR (hb s us I.dG hl) r2 h) λr s' hq=>?_);cases r with |error e=>exact hx ak O H s e s' I hq |ok fl=>cases fl with |ret u=>exact I.after hq |next=>exact False.elim hq |brk=>exact False.elim hq |cont=>exact False.elim hq
def Rb(sp:Sp)(E:St->XK)(t:TA):TE:=λO H Q=>t O H λvs H1=>sp vs H1 Q (E O)
theorem KQ(F:fR X.prog X.w X.K X.mg X.au x k sp)(hp:zV (fS X.prog X.w) X E)(hr:bV k X.A)(hg:Gl X x)(ha:PA X (e::es) t)(fc:autoParam ((x==("__debug__":Str))=false) q8_._auto_1) (he:autoParam (starEach (e::es) X.env=(false,eval e X.env)::starEach es X.env) r8_._auto_1)(dH:autoParam ((backTo pos (starEach es X.env)).any (·.1)=false) r8_._auto_1): PE X (.Call (.Name x p) (e::es) [] pos) (Rb sp E t):=by obtain⟨f,fd,ps,F,hm,hk,hb⟩:=F;intro ak s O H Q I h;refine wR (lW I hg hm ?_ fc);refine Ad (h₀:=X.au) I.ok.mod.jN hk (aR (ha pos ak s O H _ I h) λus s1 ⟨vs,H1,I1,r,q⟩=>⟨I1.dG,?_⟩) he dH;exact Sn (dvs:=[]) (ds:=[]) F hr hb .nil hp I1 r (by rw[jj];exact q)
end
section
variable {X:Cx}{i:Nat}{n y:Str}{Dc:Addr}{wx:List Value}{newD:String}{body rX:List Stmt}{b0:Stmt}{np oT pos:Pos}{tb:(St->XK)->TS}{th:TS}{Cs:Addr->Prop}
end
inductive a5b(i:Nat)(Cs:Addr->Prop)(tb:(St->XK)->TS)(th:Addr->TS)(D:Ends)(O:St)(H:Hp):Prop |mk (E:St->XK)(h0:tb E D O H)(h1:(∀σ' cls dx H',E σ' cls dx H'->∃C,cls= .ref C/\Cs C))(h2:∀(C ex:Addr)(dx:Option Addr)(σ':St)(H':Hp),σ'.length=O.length->E σ' (.ref C) dx H'->H' ex=none->th ex {nx:=λσ2 H2=>D.nx (σ2.set i none) H2,rt:=D.rt,bk:=λσ2 H2=>D.bk (σ2.set i none) H2,ct:=λσ2 H2=>D.ct (σ2.set i none) H2} (σ'.set i (some (.ref ex))) (upd H' ex (.ext (jW ex (.ref C) dx))))
def QJ(i:Nat)(Cs:Addr->Prop)(tb:(St->XK)->TS)(th:Addr->TS):TS:=λD O H=>a5b i Cs tb th D O H
section
variable {X:Cx}{i:Nat}{n y:Str}{Dc:Addr}{wx:List Value}{newD:String}{body rX:List Stmt}{b0:Stmt}{np oT pos:Pos}{tb:(St->XK)->TS}{th:Addr->TS}{Cs:Addr->Prop}
theorem TR(fo:X.stack=X.env::X.outer)(hfr:X.env.frame=some X.env.locals)(hN:X.N.Nodup)(hi:X.N[i]? =some n)(hk:X.env.kindOf n=some .local)(hs:X.env.scope.names.lookup n=some .local) (hb:∀(E:St->XK)(xe:Value->ae->Prop),zV (fS X.prog X.w) (X.iX xe) E->eP (X.iX xe) body (tb E)) (hg:Gl X y)(hy:Exc X.K X.mg y Dc wx newD)(Ew:wx.contains (.type "BaseException")=true)(ER:∀C,Cs C->ClsAt X.K C/\takes X.K C Dc) (hh:∀ex,eP (X.hand ex) (b0::rX) (th ex))(fc:autoParam ((y==("__debug__":Str))=false) q8_._auto_1): OK X (.Try body [.ExceptHandler (some (.Name y np)) (some n) (b0::rX) oT] [] [] pos) (QJ i Cs tb th):=by
 intro s O H D I h;obtain⟨E,hq,tK,Za⟩:=h;refine wpAny_Try_except ?_;have ps:zV (fS X.prog X.w) (X.iX λe s₁=>wpAny (model X.prog X.w) X.A (noteFrame e X.env) (λ_ s₂=>wpAny (model X.prog X.w) X.A (setFlight e none) (λ_ s₃=>wpAny (model X.prog X.w) X.A (handleBy e X.env [.ExceptHandler (some (.Name y np)) (some n) (b0::rX) oT]) (SP X [] D) X.xe s₃) X.xe s₂) X.xe s₁) E:=by
  intro D6 σ' H1 s1 ev s2 I1 hx;obtain⟨ex,cls,dx,H',B,rfl,ho,MF,nP,F,hE⟩:=hx;obtain⟨C,rfl,hC⟩:=tK σ' cls dx H' hE;have I0:Inv X [] σ' H1 s1:=I1.lH.a4z;obtain⟨Mu,g2,d2,t2,o2⟩:=s2;have a27:ji B (X.env::X.outer) ex (.ref C) dx .none Mu:=by rw[<-fo];exact nP
  have hA:X.A.frames=some (X.env::X.outer):=by rw[<-fo];exact I0.ok.frames
  refine Lm (s:=⟨Mu,g2,d2,t2,o2⟩) hA hfr a27 λh4 zj Qj=>?_;refine zu zj λh5 vW Qi=>?_;have F4:=F.step nP.1 zj.1 Qj nP.2.2.1;have ff4:h4.FunFrames B X.stack:=by rw[fo];exact zj.2.2.1
  have F5:=F4.step zj.1 vW.1 Qi ff4;have ff5:h5.FunFrames B X.stack:=by rw[fo];exact vW.2.2.1
  have I5:Inv X [] σ' H' ⟨h5,g2,d2,t2,o2⟩:=I0.wu (s':=⟨h5,g2,d2,t2,o2⟩) ho F5.un F5.aU MF (λb hb=>(dX hb).elim);refine wpAny_handleBy_cons (codeAny_handlers_test (lW (X:=X.hand ex) (I5.hand ex) hg hy.at' ?_ fc)) (by intro q;cases q);obtain⟨eC,tk⟩:=ER C hC;obtain⟨nm,q,Nn,bs,tl,hdct,sn,sub,ab,col,dd,k0,k1,k2,k3,k5,nw,oC⟩:=eC _ I5.dG;obtain⟨tl',Nn',Lr,q',Of,MJ,IL,HH,OE,O7,NZ,j0,j1,j2,j3,j5,mN',oD,a8c,a7V,TL'⟩:=(hy.own I5.dG).obj;obtain⟨ob,Zu,Zt,_⟩:=vW.there;have E8:(Value.ref C::tl).contains (.ref Dc)=true:=by
   obtain⟨cd,ha,vP⟩:=Pq.mp tk;split at vP
   ·cases vP
   ·have hc:=dW vP
    unfold PySem.W.clsIn at ha;split at ha
    ·rename_i c1 c2 cd' c4 hl
     cases ha;have e1:=I5.dG _ _ hl;rw[show(Shared.heap ⟨h5,g2,d2,t2,o2⟩).get? C=some _ from oC]at e1;have e2:=dW e1;unfold excClassObj at e2;injection e2 with _ _ e3 _;injection e3 with e4;rw[<-e4]at hc;exact hc
    ·cases ha
  refine a3h oC oD Zu Zt (TL'.hasType Ew) E8 ?_;refine codeAny_handlers_suite_as ?_;refine zu (s:=⟨h5,g2,d2,t2,o2⟩) vW λh6 Nf Qh=>?_;have F6:=F5.step vW.1 Nf.1 Qh ff5;have Qm:Un (cS X.stack) [] H1 (upd H' ex (.ext (jW ex (.ref C) dx))) s1.heap h6:=by
   have nb:∀b u,H' b=some u->b≠ex:=λb u e z=>by rw[z,F6.ne]at e;cases e
   refine⟨F6.un.keep,F6.un.slot,λb o e n hx=>?_,F6.un.there,λb xs e=>?_,λb o u e=>?_,λb ps e=>?_⟩
   ·rw[aL (λz=>by rw[z,F6.nw]at e;cases e)];exact F6.un.free b o e n hx
   ·have:=F6.un.gZ b xs e;rw[aL (nb b _ this)];exact this
   ·have:=F6.un.gX b o u e;rw[aL (nb b _ this)];exact this
   ·obtain⟨more,e1⟩:=F6.un.hU b ps e;exact⟨more,by rw[aL (nb b _ e1)];exact e1⟩
  have Zq:dv X.prog X.w (upd H' ex (.ext (jW ex (.ref C) dx))) h6:=λb u e=>by
   by_cases ML:b=ex
   ·subst ML
    rw[bp]at e;cases e;obtain⟨o6,e6,c6⟩:=Nf.there;exact⟨⟨o6,e6,c6⟩,⟨o6,e6⟩,λg1 g3 ⟨o7,e7,c7⟩ k=>⟨o7,k o7 e7,c7⟩⟩
   ·rw[aL ML]at e
    refine(F6.aU b u e).jD (λc v hc q=>q) (λc q=>?_) λc xs q=>?_
    ·rw[aL (λz=>by rw[z,F6.ne]at q;cases q)];exact q
    ·rw[aL (λz=>by rw[z,F6.ne]at q;cases q)];exact q
  have I6:Inv X [] σ' (upd H' ex (.ext (jW ex (.ref C) dx))) ⟨h6,g2,d2,t2,o2⟩:=I0.wu (s':=⟨h6,g2,d2,t2,o2⟩) ho Qm Zq MF (λb hb=>(dX hb).elim);refine rY (X:=X.hand ex) (I6.hand ex) hN hi (.inl hs) (v:=.ref ex) Z (λs7 I7=>?_) (.inr hs);refine gr (hh ex [] s7 _ _ _ I7 (Za C ex dx σ' H' (I0.len.trans I.len.symm) hE F.ne)) (λf s8 q=>?_) λe s8 q=>False.elim q;have un:∀(σ2:St)(H2:Hp)(Q:Unit->ae->Prop),Inv (X.hand ex) [] σ2 H2 s8->(∀s9,Inv X [] (σ2.set i none) H2 s9->Q () s9)->wpAny (model X.prog X.w) X.A (do bindName X.env n .none;unbindBehindTheSuite X.env n oT) Q X.xe s8:=λσ2 H2 Q I8 hq=>by
   have OU:=I8.back I0.ok;have cm:i<σ2.length:=by rw[OU.len];exact(eY.mp hi).1
   unfold bindName;refine aB (aB (gI (wpAny_point (aB (rY OU hN hi (.inl hs) (v:=.aY) Z (λs9 I9=>wpAny_point ?_) (.inr hs))))));refine Qk I9 hN hi hk hs (v:=.aY) (GS cm) λiG pN=>hq iG ?_;rw[List.set_set]at pN;exact pN
  cases f with |next=>obtain⟨σ2,H2,I8,dq⟩:=q;exact un σ2 H2 _ I8 λs9 I9=>⟨_,H2,I9,dq⟩ |brk=>obtain⟨σ2,H2,I8,dq⟩:=q;exact un σ2 H2 _ I8 λs9 I9=>⟨_,H2,I9,dq⟩ |cont=>obtain⟨σ2,H2,I8,dq⟩:=q;exact un σ2 H2 _ I8 λs9 I9=>⟨_,H2,I9,dq⟩ |ret u=>obtain⟨v,σ2,H2,I8,r8,dq⟩:=q;exact un σ2 H2 _ I8 λs9 I9=>⟨v,_,H2,I9,r8,dq⟩
 refine gr (hb E _ ps [] s O H D (I.iX _) hq) (λf s1 q=>?_) λe s1 q=>q;have q':=q.lH;cases f with |next=>exact A6 q' |brk=>exact q' |cont=>exact q' |ret u=>exact q'
end
end _L
namespace _a
open PySem PySem.Spec PyProof.Rows _L
def top(i:Nat):Stmt:=PySem.Challenge.pw_glidequeue_k10_refusals_of_one_class.main.body.getD i (.Pass ⟨0,0,0,0⟩)
section
variable {P:af}{w:World}{K:aa}{mg:bc}{au:Heap}
inductive a5u(vs:List V)(H:Hp)(Q:VK):Prop |mk (p:_)(many:_)(h0:vs=[.ref p,.int many])(h1:iB H p)(h2:1<=many)(h3:many<=10^40)(h4:∀d H',0<=d->d<many->cg p H H'->Q (.int d) H')
def sx:Sp:=λvs H Q _=>a5u vs H Q
abbrev Bb:Stmt:=top 123
theorem J9:bj ["_law_bag_here","_law_many","_law_digit","_law_number","_law_room"] ["_law_bag_here","_law_many"] (aP Bb):=bw aO
theorem V5(F:FA K mg "_law_take" Bb)(B:bE mg):aG P w K mg au "_law_take" 1 sx:=by
 refine F.has J9 (λvs H Q E h=>?_) (λ_ _ _ _ _ _=>cH λ_ _=>rfl) (λf aE A outer s H vs Q E hr h=>?_)
 ·obtain⟨p,many,rfl,_⟩:=h
  rfl
 ·obtain⟨p,many,rfl,⟨c,m,hp,ok⟩,h1,h2,k⟩:=h
  obtain⟨c0,m0,m1⟩:=id ok;have nd:=J9.nd;refine⟨_,(aD (bD (bT Dg (px K (pv 0) aF) aF (bL _)) (aD (pS 2 nd (aW qt (px K (pv 0) aF) (pv 1))) (aD (fW (aW uZ (px K (pv 0) aF) (pv 1)) (D7 (pv 0) aF set_list)) (aH (aZ (pv 2))))) bG) (aD (pS 3 nd aF) (aD (pS 4 nd aF) (aD (sN iQ (bT mW (pv 4) (pv 1) (bL _)) (aD (fW (aW qt (aW uY (aW fM (aW cu (px K (pv 0) aF) aF) aF) aF) aF) (D7 (pv 0) aF set_list)) (aD (pS 3 nd (aW fM (aW cu (pv 3) aF) (aW qt (aW cu (aW uZ (px K (pv 0) aF) aF) aF) aF))) (aH (pS 4 nd (aW cu (pv 4) aF)))))) (aH (aZ (aW qt (pv 3) (pv 1)))))))),?_⟩;refine⟨_,Z,.inl ⟨p,_,0,.int c,Z,Z,aK.of hp,Z,_,_,Z,Z,_,Z,?_⟩⟩;refine fZ (λhc=>?_) (λ_=>?_)
  ·refine⟨_,Z,.inl ⟨p,_,0,.int c,Z,Z,aK.of hp,Z,_,Z,_,_,Z,Z,h1,?_⟩⟩
   refine⟨_,Z,.inl ⟨p,_,0,.int c,Z,Z,aK.of hp,Z,_,Z,_,_,Z,Z,⟨h1,He aw h2⟩,?_⟩⟩;refine⟨_,Z,p,_,0,0,Z,Z,hp,Z,?_⟩;refine⟨_,Z,?_⟩;exact k _ _ (uy _ aw) (xo _ aw) (cg.upd ⟨Int.ediv_nonneg c0 aw,m0,m1⟩)
  ·refine rS (λO H2=>∃(v:Option V)(n r:Int),O=[some (.ref p),some (.int many),v,some (.int n),some (.int r)]/\cg p H H2/\1<=r) (λO _=>match O with|[_,_,_,_,some (.int r)]=>(many-r).toNat|_=>0) ?_ ?_ ?_
   ·exact⟨none,0,1,Z,.refl ⟨c,m,hp,ok⟩,gL _⟩
   ·rintro O H2 ⟨v,n,r,rfl,bx,yZ⟩
    obtain⟨c',m',za,c0',m0',m1'⟩:=id bx.eJ;refine⟨_,Z,_,Z,_,_,Z,Z,_,Z,?_⟩;refine fZ (λhc=>?_) (λhc=>?_)
    ·have cm:r<many:=mE hc
     refine⟨_,Z,.inl ⟨p,_,1,.int m',Z,Z,aK.of za,Z,_,_,Z,Z,.of_right (dU az az),_,_,Z,Z,_,_,Z,Z,⟨az,az,?_⟩,_,_,Z,Z,(by show(0:Int)<2147483629;decide),?_⟩⟩
     ·have nN:(2:Nat)^64=18446744073709551616:=by decide
      rw[nN];lia
     refine⟨_,Z,p,_,1,1,Z,Z,za,Z,?_⟩;have g0:0<=((m'*48271+7919)^(3:Int).toNat)%2147483629:=uy _ az;have g1:((m'*48271+7919)^(3:Int).toNat)%2147483629<2147483629:=xo _ az;have bx2:cg p H (_L.upd H2 p (.lst [.int c',.int (((m'*48271+7919)^(3:Int).toNat)%2147483629)])):=bx.trans (.upd ⟨c0',g0,Int.lt_trans g1 az⟩);refine⟨_,Z,_,_,Z,Z,.of_right (dU az az),_,Z,.inl ⟨p,_,1,.int _,Z,Z,aK.of bp,Z,_,_,Z,Z,⟨az,He az az⟩,_,_,Z,Z,.of_right (dU az az),_,_,Z,Z,(by show(0:Int)<1073741789;decide),_,_,Z,Z,?_⟩⟩;refine⟨_,Z,_,_,Z,Z,.of_right (dU az az),?_⟩;refine⟨⟨v,_,_,Z,bx2,?_⟩,?_⟩
     ·lia
     ·show(many-r*1073741789).toNat<(many-r).toNat
      lia
    ·refine⟨_,Z,_,Z,_,_,Z,Z,h1,?_⟩
     exact k _ _ (uy _ aw) (xo _ aw) bx
   ·rintro O H2 Q1 Q2 hq ⟨v1,e1,v2,e2,i,j,e3,e4,kk,e5,q⟩
    exact⟨v1,e1,v2,e2,i,j,e3,e4,kk,e5,hq _ _ q⟩
inductive a6t(K:aa)(vs:List V)(H:Hp)(Q:VK):Prop |mk (a:Addr)(ns:List Int)(at':Int)(h0:vs=[.ref a,.int at'])(h1:aK K H a (ns.map V.int))(h2:ns.length<=63)(h3:0<=at')(h4:at'<=100)(h5:∀p H',H p=none->iB H' p->aA H H'->Q (.ref p) H')
def II(K:aa):Sp:=λvs H Q _=>a6t K vs H Q
abbrev Ci:Stmt:=top 122
theorem K6:bj ["_law_script","_law_at","_law_cell","_law_mix","_law_k"] ["_law_script","_law_at"] (aP Ci):=bw aO
theorem Mg{ns:List Int}{j:Nat}(h:j<ns.length):∃z,iz (ns.map V.int) (j:Int)=some (.int z):=⟨ns[j],a4F (by simp[h])⟩
theorem Wg(F:FA K mg "_law_bag" Ci)(B:bE mg):aG P w K mg au "_law_bag" 1 (II K):=by
 refine F.has K6 (λvs H Q E h=>?_) (λ_ _ _ _ _ _=>cH λ_ _=>rfl) (λf aE A outer s H vs Q E hr h=>?_)
 ·obtain⟨a,ns,at',rfl,_⟩:=h
  rfl
 ·obtain⟨a,ns,at',rfl,hS,hlen,h0,h1,k⟩:=h
  obtain⟨j,rfl⟩:∃j:Nat,at'=(j:Int):=⟨at'.toNat,aw⟩;have nd:=K6.nd;refine⟨_,(aD (pS 2 nd aF) (aD (jm (bD (bT mW (pv 1) (fm K B (ao (pv 0) ay)) (bL _)) (aH (pS 2 nd (dF (x:="abs") tW Z (B.at "abs") wX (ao (px K (pv 0) (pv 1)) ay)))) bG)) (aD (pS 3 nd (aW fM (aW fM (aW cu (aW cu aF (pv 1)) (pv 1)) (aW cu aF (pv 1))) aF)) (aD (j7 iQ Z (sP Z (B.at "range") (ao (dF (x:="min") (Oc rfl) rfl (B.at "min") PyProof.Rows.boot_min (ao (fm K B (ao (pv 0) ay)) (ao aF ay))) ay)) (bu 4 nd) (aH (pS 3 nd (aW qt (aW uY (aW fM (aW fM (aW cu (pv 3) aF) (aW qt (px K (pv 0) (pv 4)) aF)) (aW cu (pv 4) (pv 4))) aF) aF)))) (aD (jm (bD (bT mW (pv 2) (aW uY aF aF) (bL _)) (aH (pS 2 nd aF)) bG)) (aH (aZ (dE (ao (pv 2) (ao (pv 3) ay)))))))))),?_⟩;refine⟨λO H'=>H'=H/\∃c:Int,O=[some (.ref a),some (.int (j:Int)),some (.int c),none,none]/\0<=c,?_,?_⟩
  ·refine⟨_,Z,_,Z,a,_,Z,.inl hS,_,_,Z,Z,_,Z,?_⟩
   refine fZ (λhc=>?_) (λ_=>?_)
   ·have hj:(j:Int)<((ns.map V.int).length:Int):=mE hc
    rw[bR]at hj;obtain⟨z,hz⟩:=Mg (ns:=ns) (j:=j) aw;refine⟨_,Z,_,Z,.inl ⟨a,_,_,_,Z,Z,hS,hz,z,Z,?_⟩⟩;exact⟨Z,_,Z,by split<;>lia⟩
   ·exact⟨Z,0,Z,gL _⟩
  rintro O H' ⟨rfl,c,rfl,c0⟩;refine⟨_,Z,_,_,Z,Z,.of_left (dU az az),_,Z,_,_,Z,Z,.of_right (dU aw aw),_,Z,_,_,Z,Z,.of_left (dU az az),_,_,Z,Z,_,_,Z,Z,?_⟩;refine⟨_,Z,a,_,Z,.inl hS,_,_,Z,_,Z,?_,?_,?_⟩
  ·split<;>lia
  ·split<;>(try rw[bR])<;>lia
  refine vV (Pv:=λi O H2=>H2=H'/\∃(m:Int)(v:Option V),O=[some (.ref a),some (.int (j:Int)),some (.int c),some (.int m),v]/\0<=m/\m<2147483648) ?_ ?_ ?_
  ·refine⟨Z,_,none,Z,?_,?_⟩
   ·have:(0:Int)<=(j:Int)*(j:Int):=lF aw aw
    rw[Int.mul_assoc];lia
   ·have:(j:Int)*(j:Int)<=100*100:=Al aw aw aw aw
    rw[Int.mul_assoc];lia
  ·rintro i O H2 hi ⟨rfl,m,v,rfl,m0,m1⟩
   have Eo:i<ns.length:=by rw[bR]at hi;split at hi<;>lia
   obtain⟨z,hz⟩:=Mg (ns:=ns) (j:=i) Eo;rw[<-Int.zero_add (i:Int)]at hz;have Z2:0<=z%2147483647:=uy _ az;have Z1:z%2147483647<2147483647:=xo _ az;have ZU:(0:Int)<=(0+(i:Int))*(0+(i:Int)):=lF aw aw;have ZV:(0+(i:Int))*(0+(i:Int))<=100*100:=Al aw aw aw aw;refine⟨_,Z,_,_,Z,Z,.of_right (dU az az),_,Z,_,Z,.inl ⟨a,_,_,_,Z,Z,hS,hz,_,_,Z,Z,(by show(0:Int)<2147483647;decide),_,_,Z,Z,_,Z,_,Z,_,_,Z,Z,.of_right (dU aw aw),_,_,Z,Z,_,_,Z,Z,⟨az,az,?_⟩,_,_,Z,Z,(by show(0:Int)<2147483629;decide),?_⟩⟩
   ·have nN:(2:Nat)^64=18446744073709551616:=by decide
    rw[nN];generalize(0+(i:Int))*(0+(i:Int))=ii at ZU ZV⊢;generalize z%2147483647=zz at Z2 Z1⊢
    lia
   ·exact⟨Z,_,_,Z,uy _ az,Int.lt_trans (xo _ az) az⟩
  ·rintro O H2 ⟨rfl,m,v,rfl,m0,m1⟩
   refine⟨λO H3=>H3=H2/\∃c:Int,O=[some (.ref a),some (.int (j:Int)),some (.int c),some (.int m),v]/\0<=c,?_,?_⟩
   ·refine⟨_,Z,_,_,Z,Z,⟨az,az,az⟩,_,_,Z,Z,_,Z,?_⟩
    refine fZ (λhc=>?_) (λ_=>?_)
    ·exact⟨Z,0,Z,gL _⟩
    ·exact⟨Z,c,Z,c0⟩
   rintro O H3 ⟨rfl,c,rfl,c0⟩;refine⟨_,Z,_,Z,(by show 2<=sizeLine;decide),λp H4 nw=>?_⟩;exact k p H4 nw.no ⟨c,m,nw.at',c0,m0,m1⟩ nw.same
inductive a6l(vs:List V)(H:Hp)(Q:VK):Prop |mk (a:Int)(b:Int)(h0:vs=[.int a,.int b])(h1:Q (.int (Int.gcd a b)) H)
def AS:Sp:=λvs H Q _=>a6l vs H Q
inductive a64(vs:List V)(H:Hp)(Q:VK):Prop |mk (a:Int)(b:Int)(h0:vs=[.int a,.int b])(h1:b≠0)(h2:Wd b)(h3:∀t H',Nw H H' t (.tup [.int (_A.lowP a b),.int (_A.fN a b)])->Q (.ref t) H')
def sA:Sp:=λvs H Q _=>a64 vs H Q
def jP(T:String):Bool:=fC T "int"&& !fC T "bool"
inductive a6b(K:aa)(vs:List V)(H:Hp)(Q:VK):Prop |mk (v:_)(T:_)(h0:vs=[v])(h1:qX K H v T)(h2:Q (.bl (jP T)) H)
def uJ(K:aa):Sp:=λvs H Q _=>a6b K vs H Q
abbrev Ce:Stmt:=top 50
theorem K3:bj ["p","q","high","low"] ["p","q"] (aP Ce):=bw aO
theorem Wb(F:FA K mg "common_divisor" Ce)(B:bE mg):aG P w K mg au "common_divisor" 1 AS:=by
 refine F.has K3 (λvs H Q E h=>?_) (λ_ _ _ _ _ _=>cH λ_ _=>rfl) (λf aE A outer s H vs Q E hr h=>?_)
 ·obtain⟨a,b,rfl,_⟩:=h
  rfl
 ·obtain⟨a,b,rfl,k⟩:=h
  have nd:=K3.nd;refine⟨_,(aD (D4 (i:=2) (j:=3) Z nd Z Z az Z Z (ao (dF (x:="abs") tW Z (B.at "abs") wX (ao (pv 0) ay)) (ao (dF (x:="abs") tW rfl (B.at "abs") wX (ao (pv 1) ay)) ay)) rfl) (aD (sN iQ (bT (sZ K Z hr.units) (pv 3) aF (bL _)) (aH (D4 (i:=2) (j:=3) Z nd Z Z az Z Z (ao (pv 3) (ao (aW qt (pv 2) (pv 3)) ay)) Z))) (aH (aZ (pv 2))))),?_⟩;refine⟨_,Z,_,Z,_,Z,_,Z,_,_,Z,?_⟩;refine rS (λO H2=>H2=H/\∃(x y:Int),O=[some (.int a),some (.int b),some (.int x),some (.int y)]/\0<=x/\0<=y/\Int.gcd x y=Int.gcd a b) (λO _=>match O with|[_,_,_,some (.int y)]=>y.natAbs|_=>0) ?_ ?_ ?_
  ·refine⟨Z,_,_,Z,by split<;>lia,by split<;>lia,?_⟩
   have h1:(if a<0 then-a else a).natAbs=a.natAbs:=by split<;>lia
   have h2:(if b<0 then-b else b).natAbs=b.natAbs:=by split<;>lia
   unfold Int.gcd;rw[h1,h2]
  ·rintro O H2 ⟨rfl,x,y,rfl,x0,y0,e⟩
   refine⟨_,Z,.inl ⟨_,_,Z,Z,_,Z,?_⟩⟩;refine fZ (λhc=>?_) (λhc=>?_)
   ·have hy:y≠0:=by simpa using hc
    have qJ:0<y:=by lia
    refine⟨_,Z,_,Z,_,Z,_,_,Z,Z,qJ,_,_,Z,?_⟩;refine⟨⟨Z,_,_,Z,y0,uy _ hy,(_A.a1C qJ).trans e⟩,?_⟩;show(x%y).natAbs<y.natAbs;have:=uy x hy;have:=xo x qJ
    lia
   ·have hy:y=0:=by simpa using hc
    subst hy;refine⟨_,Z,?_⟩;rw[Int.gcd_zero_right]at e;have e2:x=((Int.gcd a b:Nat):Int):=by lia
    rw[e2];exact k
  ·rintro O H2 Q1 Q2 hq ⟨v1,e1,h⟩
   refine⟨v1,e1,?_⟩;rcases h with⟨i,j,e3,e4,kk,e5,q⟩|⟨d,e,r1,r2,s1,s2,kk,e5,q⟩
   ·exact .inl ⟨i,j,e3,e4,kk,e5,hq _ _ q⟩
   ·exact .inr ⟨d,e,r1,r2,s1,s2,kk,e5,hq _ _ q⟩
abbrev BW:Stmt:=top 14
theorem JN:bj ["thing"] ["thing"] (aP BW):=bw aO
theorem VP(F:FA K mg "is_whole" BW)(B:bE mg):aG P w K mg au "is_whole" 1 (uJ K):=by
 refine F.has JN (λvs H Q E h=>?_) (λ_ _ _ _ _ _=>fE λ_=>rfl) (λf aE A outer s H vs Q E hr h=>?_)
 ·obtain⟨v,T,rfl,_⟩:=h
  rfl
 ·obtain⟨v,T,rfl,ty,k⟩:=h
  have nd:=JN.nd;refine⟨_,(aH (aZ (qr (kC K B (ao (pv 0) (ao (jI (x:="int") (v:=.ty "int") Z (B.at "int") PyProof.Rows.boot_int rfl) ay))) (sQ (Ud (kC K B (ao (pv 0) (ao (jI (x:="bool") (v:=.ty "bool") rfl (B.at "bool") PyProof.Rows.boot_bool rfl) ay)))))))),?_⟩;refine⟨_,Z,.inl ⟨_,T,"int",_,Z,ty,az,Z,_,Z,?_⟩⟩;unfold jP at k;refine fZ (λhc=>?_) (λhc=>?_)
  ·refine⟨_,Z,.inl ⟨_,T,"bool",_,Z,ty,az,Z,_,Z,?_⟩⟩
   rw[hc,iD]at k;exact k
  ·rw[Am.mpr hc,fV]at k
   exact k
open _l
def gE(ns:List Int)(sp:Int):ah:=.tuple [.str "line",.tuple (ns.map PyData.int),.int sp]
theorem Yf(ns:List Int)(sp:Int):dP (gE ns sp)=true:=by simp[gE,dP,bX,mY]
structure eX(ax:Nat)(m:Int)(ns:List Int):Prop where
 len:ns.length=ax
 bd:∀z∈ns,(z.natAbs:Int)<=m
 nz:∃z∈ns,z≠0
theorem eX.lead{ax:Nat}{m:Int}{ns:List Int}(h:eX ax m ns):0<aJ ns/\(aJ ns:Int)<=m:=by
 refine⟨Yk h.nz,?_⟩;have hm:0<=m:=by obtain⟨z,hz,_⟩:=h.nz;have:=h.bd z hz;lia
 have:=nc (ns:=ns) (m:=m.toNat) λz hz=>by have:=h.bd z hz;lia
 lia
theorem eX.ne{ax:Nat}{m:Int}{ns:List Int}(h:eX ax m ns):ns≠[]:=by obtain⟨z,hz,_⟩:=h.nz;intro e;subst e;cases hz
theorem tm{H:Hp}{v:V}{ns:List Int}{sp:Int}(h:RD K H v (gE ns sp)):∃a b,v= .ref a/\aQ K H a [.str "line",.ref b,.int sp]/\aQ K H b (ns.map V.int):=by obtain⟨a,xs,rfl,h1,h2⟩:=h.d6;obtain⟨x1,r1,rfl,e1,h2⟩:=h2.cons_inv;obtain⟨x2,r2,rfl,e2,h2⟩:=h2.cons_inv;obtain⟨x3,r3,rfl,e3,h2⟩:=h2.cons_inv;cases h2.nil_inv;cases e1.str_inv;cases e3.int_inv;obtain⟨b,ys,rfl,h3,h4⟩:=e2.d6;rw[h4.ja]at h3;exact⟨a,b,Z,h1,h3⟩
inductive a68(K:aa)(vs:List V)(H:Hp)(Q:VK):Prop |mk (v:_)(ns:_)(sp:_)(h0:vs=[v])(h1:RD K H v (gE ns sp))(h2:ns≠[])(h3:ns.length<=1000)(h4:∀H',aA H H'->Q (.int (aJ ns)) H')
def oq(K:aa):Sp:=λvs H Q _=>a68 K vs H Q
theorem qD{ns:List Int}{f:Int->ah}{i:Nat}{d:ah}(h:(ns.map f)[i]? =some d):∃n,ns[i]? =some n/\f n=d:=by rw[cY]at h;cases e:ns[i]? with |none=>rw[e]at h;cases h |some n=>rw[e]at h;exact⟨n,Z,dW h⟩
theorem DH{ns:List Int}{i:Nat}{x:V}{n:Int}(h:(ns.map V.int)[i]? =some x)(e:ns[i]? =some n):x= .int n:=by rw[cY,e]at h;exact(dW h).symm
abbrev BQ:Stmt:=top 52
theorem JH:bj ["line"] ["line"] (aP BQ):=bw aO
theorem VN(F:FA K mg "lead_of" BQ)(B:bE mg):aG P w K mg au "lead_of" 1 (oq K):=by
 refine F.has JH (λvs H Q E h=>?_) (λ_ _ _ _ _ _=>fE λ_=>rfl) (λf aE A outer s H vs Q E hr h=>?_)
 ·obtain⟨v,ns,sp,rfl,_⟩:=h
  rfl
 ·obtain⟨v,ns,sp,rfl,rd,dI,hz,k⟩:=h
  have nd:=JH.nd;obtain⟨a,b,rfl,ha,hb⟩:=tm rd;refine⟨_,(aH (aZ (dF (x:="max") (Xw K Z Z) Z (B.at "max") PyProof.Rows.boot_max (ao (gP (N:=["step"]) (js:=[none]) rfl rfl rfl (mU K rfl (px K (pv 0) aF)) (λ_ _ _ _ _=>(bu 0 (oK _))) (λ_ _ _ _ _=>gb) (λ_ _ _ _ _=>(dF (x:="abs") tW rfl (B.at "abs") wX (ao (pv 0) ay)))) ay)))),?_⟩;refine⟨_,Z,.inr ⟨a,_,1,.ref b,Z,Z,ha,Z,b,Z,⟨_,hb⟩,λD H0 nw=>?_⟩⟩;refine FJ (K:=K) (xs:=ns.map V.int) (ds:=(ns.map mm).map PyData.int) [] hb nw (by simp) (by simpa using hz) (mY _) ?_ ?_
  ·intro i x d H2 Q' ex ed s2 hq
   obtain⟨m,em,rfl⟩:=qD ed;rw[cY]at em;cases en:ns[i]? with |none=>rw[en]at em;cases em |some n=>rw[en]at em;cases em;cases DH ex en;exact⟨_,Z,n,Z,hq _ _ (aA.refl _) (cQ _)⟩
  ·intro H' ys s2 d2 r2
   rw[r2.ja]at d2;refine⟨D,_,Z,aK.of d2,by simpa using dI,λM h1 h2=>?_⟩;rw[Yj dI h1 h2];exact k H' s2
open _r
abbrev BR:Stmt:=top 49
theorem JJ:bj ["p","q","divisor"] ["p","q"] (aP BR):=bw aO
theorem VI(F:FA K mg "lowest_terms" BR)(B:bE mg)(a0i:aG P w K mg au "common_divisor" 1 AS):aG P w K mg au "lowest_terms" 2 sA:=by
 refine F.has JJ (λvs H Q E h=>?_) (λ_ _ _ _ _ _=>cH λ_ _=>rfl) (λf aE A outer s H vs Q E hr h=>?_)
 ·obtain⟨a,b,rfl,_⟩:=h
  rfl
 ·obtain⟨a,b,rfl,hb,wb,k⟩:=h
  have nd:=JJ.nd;have sw:Wd (_A.sg a b):=GJ (_A.RW hb) wb;refine⟨_,(aD (pS 2 nd (pf a0i hr (ao (pv 0) (ao (pv 1) ay)))) (aD (jm (bD (bT mW (pv 1) aF (bL _)) (aH (pS 2 nd (mV mJ (pv 2)))) bG)) (aH (aZ (dh (ao (aW L8 (pv 0) (pv 2)) (ao (aW L8 (pv 1) (pv 2)) ay))))))),?_⟩;refine⟨_,Z,_,Z,a,b,Z,?_⟩;refine⟨λO H'=>H'=H/\O=[some (.int a),some (.int b),some (.int (_A.sg a b))],?_,?_⟩
  ·refine⟨_,Z,_,_,Z,Z,_,Z,?_⟩
   refine fZ (λhc=>?_) (λhc=>?_)
   ·have hd:b<0:=mE hc
    refine⟨_,Z,_,Z,?_⟩;refine⟨Z,?_⟩;unfold _A.sg;rw[bo hd];rfl
   ·have hd:¬b<0:=λz=>hc (cn z)
    refine⟨Z,?_⟩;unfold _A.sg;rw[bh hd];rfl
  rintro O H' ⟨rfl,rfl⟩;refine⟨_,Z,_,Z,_,_,Z,Z,⟨_A.uO hb,sw⟩,_,Z,_,Z,_,_,Z,Z,⟨_A.uO hb,sw⟩,(by show 2<=sizeLine;decide),λt H4 nw=>?_⟩;exact k t H4 nw
def bM(K:aa)(H:Hp)(v:V)(r:Rat):Prop:=∃p,v= .ref p/\aQ K H p [.int r.num,.int r.den]
theorem bM.go{H H':Hp}{v:V}{r:Rat}(h:bM K H v r)(s:aA H H'):bM K H' v r:=by obtain⟨p,e,q⟩:=h;exact⟨p,e,q.go s⟩
def cB(r:Rat):ah:=.tuple [.int r.num,.int r.den]
theorem bM.rd{H:Hp}{v:V}{r:Rat}(h:bM K H v r):RD K H v (cB r):=by obtain⟨p,rfl,q⟩:=h;exact eF q (bJ (cQ _) (bJ (cQ _) bW))
theorem Td(r:Rat):cD 1 (cB r):=fQ.tup (.cons (.int _) (.cons (.int _) .nil))
theorem eqR{r s:Rat}(h:r=s):PyData.eqv (cB r) (cB s)=true:=by rw[h];exact(Td s).refl
theorem jC{n:Nat}{i:Int}(h:i.natAbs<2^n)(l:n<=5000):Wd i:=fK h (wZ az l)
theorem _root_._r.Bd.wn{r:Rat}(h:Bd 2000 r):Wd r.num:=jC h.num az
theorem _root_._r.Bd.wd{r:Rat}(h:Bd 2000 r):Wd (r.den:Int):=jC (n:=2000) (by have:=h.den;omega) az
theorem As{r s:Rat}(h:Bd 2000 r)(g:Bd 2000 s):Wd ((r.den:Int)*(s.den:Int)):=jC (n:=4000) (FD h g) az
theorem yh{H':Hp}{t:Addr}{a b:Int}{r:Rat}(hb:b≠0)(e:r=Rat.divInt a b)(h:H' t=some (.tup [.int (_A.lowP a b),.int (_A.fN a b)])):bM K H' (.ref t) r:=by obtain⟨e1,e2⟩:=DM (a:=a) hb;rw[e1,e2,<-e]at h;exact⟨t,Z,aQ.of h⟩
inductive a5O(op:Rat->Rat->Rat)(K:aa)(vs:List V)(H:Hp)(Q:VK):Prop |mk (v1:_)(v2:_)(r:_)(s:_)(h0:vs=[v1,v2])(h1:bM K H v1 r)(h2:bM K H v2 s)(h3:Bd 2000 r)(h4:Bd 2000 s)(h5:∀v H',bM K H' v (op r s)->aA H H'->Q v H')
def pY(op:Rat->Rat->Rat)(K:aa):Sp:=λvs H Q _=>a5O op K vs H Q
abbrev Bz:Stmt:=top 43
theorem Jp:bj ["one","other","p","q","r","s"] ["one","other"] (aP Bz):=bw aO
theorem Vs(F:FA K mg "plus" Bz)(B:bE mg)(qN:aG P w K mg au "lowest_terms" 2 sA):aG P w K mg au "plus" 3 (pY (·+·) K):=by
 refine F.has Jp (λvs H Q E h=>?_) (λ_ _ _ _ _ _=>cH λ_ _=>rfl) (λf aE A outer s H vs Q E hr h=>?_)
 ·obtain⟨v1,v2,r,s,rfl,_⟩:=h
  rfl
 ·obtain⟨v1,v2,r,s,rfl,⟨p,rfl,hp⟩,⟨q,rfl,hq⟩,br,bs,k⟩:=h
  have nd:=Jp.nd;refine⟨_,(aD (fW (pv 0) (fb K Z (n:=2) Z (bU (bu 2 nd) (bU (bu 3 nd) eZ)))) (aD (fW (pv 1) (fb K Z (n:=2) Z (bU (bu 4 nd) (bU (bu 5 nd) eZ)))) (aH (aZ (pf qN hr (ao (aW fM (aW cu (pv 2) (pv 5)) (aW cu (pv 4) (pv 3))) (ao (aW cu (pv 3) (pv 5)) ay))))))),?_⟩;refine⟨_,Z,_,_,Z,hp,Z,_,_,Z,_,_,Z,Z,?_⟩;refine⟨_,Z,_,_,Z,hq,Z,_,_,Z,_,_,Z,Z,?_⟩;refine⟨_,Z,_,Z,_,_,Z,Z,lC br.wn.bits bs.wd.bits,_,Z,_,Z,_,_,Z,Z,lC bs.wn.bits br.wd.bits,_,_,Z,Z,_,Z,_,Z,_,_,Z,Z,lC br.wd.bits bs.wd.bits,?_⟩;exact⟨_,_,Z,nU r s,As br bs,λt H' nw=>k _ _ (yh (nU r s) (add_div r s) nw.at') nw.same⟩
abbrev BL:Stmt:=top 45
theorem JB:bj ["one","other","p","q","r","s"] ["one","other"] (aP BL):=bw aO
theorem VF(F:FA K mg "minus" BL)(B:bE mg)(qN:aG P w K mg au "lowest_terms" 2 sA):aG P w K mg au "minus" 3 (pY (·-·) K):=by
 refine F.has JB (λvs H Q E h=>?_) (λ_ _ _ _ _ _=>cH λ_ _=>rfl) (λf aE A outer s H vs Q E hr h=>?_)
 ·obtain⟨v1,v2,r,s,rfl,_⟩:=h
  rfl
 ·obtain⟨v1,v2,r,s,rfl,⟨p,rfl,hp⟩,⟨q,rfl,hq⟩,br,bs,k⟩:=h
  have nd:=JB.nd;refine⟨_,(aD (fW (pv 0) (fb K Z (n:=2) Z (bU (bu 2 nd) (bU (bu 3 nd) eZ)))) (aD (fW (pv 1) (fb K Z (n:=2) Z (bU (bu 4 nd) (bU (bu 5 nd) eZ)))) (aH (aZ (pf qN hr (ao (aW j8 (aW cu (pv 2) (pv 5)) (aW cu (pv 4) (pv 3))) (ao (aW cu (pv 3) (pv 5)) ay))))))),?_⟩;refine⟨_,Z,_,_,Z,hp,Z,_,_,Z,_,_,Z,Z,?_⟩;refine⟨_,Z,_,_,Z,hq,Z,_,_,Z,_,_,Z,Z,?_⟩;refine⟨_,Z,_,Z,_,_,Z,Z,lC br.wn.bits bs.wd.bits,_,Z,_,Z,_,_,Z,Z,lC bs.wn.bits br.wd.bits,_,_,Z,Z,_,Z,_,Z,_,_,Z,Z,lC br.wd.bits bs.wd.bits,?_⟩;exact⟨_,_,Z,nU r s,As br bs,λt H' nw=>k _ _ (yh (nU r s) (Ry r s) nw.at') nw.same⟩
abbrev B9:Stmt:=top 46
theorem J6:bj ["one","other","p","q","r","s"] ["one","other"] (aP B9):=bw aO
theorem V3(F:FA K mg "times" B9)(B:bE mg)(qN:aG P w K mg au "lowest_terms" 2 sA):aG P w K mg au "times" 3 (pY (·*·) K):=by
 refine F.has J6 (λvs H Q E h=>?_) (λ_ _ _ _ _ _=>cH λ_ _=>rfl) (λf aE A outer s H vs Q E hr h=>?_)
 ·obtain⟨v1,v2,r,s,rfl,_⟩:=h
  rfl
 ·obtain⟨v1,v2,r,s,rfl,⟨p,rfl,hp⟩,⟨q,rfl,hq⟩,br,bs,k⟩:=h
  have nd:=J6.nd;refine⟨_,(aD (fW (pv 0) (fb K Z (n:=2) Z (bU (bu 2 nd) (bU (bu 3 nd) eZ)))) (aD (fW (pv 1) (fb K Z (n:=2) Z (bU (bu 4 nd) (bU (bu 5 nd) eZ)))) (aH (aZ (pf qN hr (ao (aW cu (pv 2) (pv 4)) (ao (aW cu (pv 3) (pv 5)) ay))))))),?_⟩;refine⟨_,Z,_,_,Z,hp,Z,_,_,Z,_,_,Z,Z,?_⟩;refine⟨_,Z,_,_,Z,hq,Z,_,_,Z,_,_,Z,Z,?_⟩;refine⟨_,Z,_,Z,_,_,Z,Z,lC br.wn.bits bs.wn.bits,_,Z,_,Z,_,_,Z,Z,lC br.wd.bits bs.wd.bits,?_⟩;exact⟨_,_,Z,nU r s,As br bs,λt H' nw=>k _ _ (yh (nU r s) (mul_div r s) nw.at') nw.same⟩
inductive a66(K:aa)(vs:List V)(H:Hp)(Q:VK):Prop |mk (v1:_)(v2:_)(r:_)(s:_)(h0:vs=[v1,v2])(h1:bM K H v1 r)(h2:bM K H v2 s)(h3:Bd 2000 r)(h4:Bd 2000 s)(h5:Q (.bl (decide (r<s))) H)
def xX(K:aa):Sp:=λvs H Q _=>a66 K vs H Q
abbrev BO:Stmt:=top 47
theorem JF:bj ["one","other","p","q","r","s"] ["one","other"] (aP BO):=bw aO
theorem VL(F:FA K mg "is_less" BO)(B:bE mg):aG P w K mg au "is_less" 1 (xX K):=by
 refine F.has JF (λvs H Q E h=>?_) (λ_ _ _ _ _ _=>cH λ_ _=>rfl) (λf aE A outer s H vs Q E hr h=>?_)
 ·obtain⟨v1,v2,r,s,rfl,_⟩:=h
  rfl
 ·obtain⟨v1,v2,r,s,rfl,⟨p,rfl,hp⟩,⟨q,rfl,hq⟩,br,bs,k⟩:=h
  have nd:=JF.nd;refine⟨_,(aD (fW (pv 0) (fb K Z (n:=2) Z (bU (bu 2 nd) (bU (bu 3 nd) eZ)))) (aD (fW (pv 1) (fb K Z (n:=2) Z (bU (bu 4 nd) (bU (bu 5 nd) eZ)))) (aH (aZ (jG mW (aW cu (pv 2) (pv 5)) (aW cu (pv 4) (pv 3)) (bL _)))))),?_⟩;refine⟨_,Z,_,_,Z,hp,Z,_,_,Z,_,_,Z,Z,?_⟩;refine⟨_,Z,_,_,Z,hq,Z,_,_,Z,_,_,Z,Z,?_⟩;refine⟨_,Z,_,Z,_,_,Z,Z,lC br.wn.bits bs.wd.bits,_,Z,_,Z,_,_,Z,Z,lC bs.wn.bits br.wd.bits,_,_,Z,Z,?_⟩;have e:decide (r.num*(s.den:Int)<s.num*(r.den:Int))=decide (r<s):=by rw[iW,rH,rH,Rat.lt_iff]
  show Q (.bl (decide (r.num*(s.den:Int)<s.num*(r.den:Int)))) H;rw[e];exact k
def pK(K:aa)(H:Hp):List V->List Rat->Prop |[],[]=>True |v::vs,r::rs=>bM K H v r/\Bd 2000 r/\pK K H vs rs |_,_=>False
theorem pK.length{H:Hp}:∀{vs:List V}{rs:List Rat},pK K H vs rs->vs.length=rs.length |[],[],_=>rfl |v::vs,r::rs,h=>by rw[fA,fA,pK.length h.2.2] |[],_::_,h=>h.elim |_::_,[],h=>h.elim
theorem pK.get{H:Hp}:∀{vs:List V}{rs:List Rat}{i:Nat}{v:V},pK K H vs rs->vs[i]? =some v->∃r,rs[i]? =some r/\bM K H v r/\Bd 2000 r
 |[],[],i,v,_,e=>by simp at e |v::vs,r::rs,0,v',h,e=>by
  have e':v=v':=by simpa using e
  subst e';exact⟨r,Z,h.1,h.2.1⟩ |v::vs,r::rs,i+1,v',h,e=>by obtain⟨r',e1,q⟩:=pK.get h.2.2 (show vs[i]? =some v' by simpa using e);exact⟨r',by simpa using e1,q⟩ |[],_::_,_,_,h,_=>h.elim |_::_,[],_,_,h,_=>h.elim
inductive a67(K:aa)(vs:List V)(H:Hp)(Q:VK):Prop |mk (l:_)(xs:_)(rs:_)(h0:vs=[.ref l])(h1:aK K H l xs)(h2:pK K H xs rs)(h3:xs≠[])(h4:∀(i:Nat)(v:V)(r:Rat),xs[i]? =some v->rs[i]? =some r->(∀s∈rs,r<=s)->Q v H)
def mQ(K:aa):Sp:=λvs H Q _=>a67 K vs H Q
abbrev BP:Stmt:=top 48
theorem JG:bj ["some","best","one"] ["some"] (aP BP):=bw aO
theorem VM(F:FA K mg "least" BP)(B:bE mg)(En:aG P w K mg au "is_less" 1 (xX K)):aG P w K mg au "least" 2 (mQ K):=by
 refine F.has JG (λvs H Q E h=>?_) (λ_ _ _ _ _ _=>fE λ_=>rfl) (λf aE A outer s H vs Q E hr h=>?_)
 ·obtain⟨l,xs,rs,rfl,_⟩:=h
  rfl
 ·obtain⟨l,xs,rs,rfl,hl,lY,dI,k⟩:=h
  have nd:=JG.nd;refine⟨_,(aD (pS 1 nd (px K (pv 0) aF)) (aD (j7 iQ Z (yn K Z (pv 0)) (bu 2 nd) (aH (bD (bS (pf En hr (ao (pv 2) (ao (pv 1) ay)))) (aH (pS 1 nd (pv 2))) bG))) (aH (aZ (pv 1))))),?_⟩;have hlen:=lY.length;have h0:0<xs.length:=GP.mpr dI;have e0:=cI h0;refine⟨_,Z,.inl ⟨l,xs,0,xs[0],Z,Z,hl,eK az e0,?_⟩⟩;refine⟨_,Z,l,Z,⟨_,hl⟩,Nc (K:=K) (a:=l) (xs:=xs) (λi O H2=>H2=H/\∃(j:Nat)(b:V)(r:Rat)(v:Option V),xs[j]? =some b/\rs[j]? =some r/\(∀(m:Nat)(s:Rat),m<i->rs[m]? =some s->r<=s)/\O=[some (.ref l),some b,v]) ?_ (λi O H2 _ h=>by rw[h.1];exact hl) ?_ ?_⟩
  ·obtain⟨r,e1,_⟩:=lY.get e0
   exact⟨Z,0,_,r,none,e0,e1,λm s hm=>absurd hm (Nat.not_lt_zero _),Z⟩
  ·rintro i x O H2 hx ⟨rfl,j,b,r,v,eb,er,hm,rfl⟩
   obtain⟨t,et,rt,bt⟩:=lY.get hx;obtain⟨r2,Nr,rb,bb⟩:=lY.get eb;rw[er]at Nr;cases Nr;refine⟨_,Z,_,Z,x,b,t,r,Z,rt,rb,bt,bb,_,Z,?_⟩;refine fZ (λhc=>?_) (λhc=>?_)
   ·have cm:t<r:=mE hc
    refine⟨_,Z,?_⟩;refine⟨Z,i,x,t,_,hx,et,λm s tH es=>?_,Z⟩;rcases Nat.lt_succ_iff_lt_or_eq.mp tH with h|h
    ·exact fi (Rat.le_of_lt cm) (hm m s h es)
    ·subst h
     rw[et]at es;cases es;exact ug
   ·have Zx:¬t<r:=λz=>hc (cn z)
    refine⟨Z,j,b,r,_,eb,er,λm s tH es=>?_,Z⟩;rcases Nat.lt_succ_iff_lt_or_eq.mp tH with h|h
    ·exact hm m s h es
    ·subst h
     rw[et]at es;cases es;exact Rat.not_lt.mp Zx
  ·rintro O H2 ⟨rfl,j,b,r,v,eb,er,hm,rfl⟩
   refine⟨_,Z,k j b r eb er λs hs=>?_⟩;obtain⟨m,ZC,em⟩:=List.mem_iff_getElem.mp hs;exact hm m s aw (by rw[cI ZC,em])
inductive a61(K:aa)(vs:List V)(H:Hp)(Q:VK):Prop |mk (a:_)(b:_)(h0:vs=[.int a,.int b])(h1:b≠0)(h2:Wd b)(h3:∀v H',bM K H' v (Rat.divInt a b)->aA H H'->Q v H')
def sy(K:aa):Sp:=λvs H Q _=>a61 K vs H Q
abbrev yd:Stmt:=top 42
theorem y9:bj ["p","q"] ["p","q"] (aP yd):=bw aO
theorem W0(F:FA K mg "fraction" yd)(B:bE mg)(qO:aG P w K mg au "is_whole" 1 (uJ K))(qN:aG P w K mg au "lowest_terms" 2 sA):aG P w K mg au "fraction" 3 (sy K):=by
 refine F.has y9 (λvs H Q E h=>?_) (λ_ _ _ _ _ _=>cH λ_ _=>rfl) (λf aE A outer s H vs Q E hr h=>?_)
 ·obtain⟨a,b,rfl,_⟩:=h
  rfl
 ·obtain⟨a,b,rfl,hb,wb,k⟩:=h
  have nd:=y9.nd;refine⟨_,(aD (bD (PW.pt (kr (cE (bS (pf qO hr (ao (pv 0) ay)))) (kl (cE (bS (pf qO hr (ao (pv 1) ay))))))) (aH D5) bG) (aD (bD (bT (dR K Z hr.units) (pv 1) aF (bL _)) (aH D5) bG) (aH (aZ (pf qN hr (ao (pv 0) (ao (pv 1) ay))))))),?_⟩;have iw:jP "int"=true:=by decide
  refine⟨_,Z,_,"int",Z,Z,_,Z,?_⟩;rw[iw];refine aV ?_;refine⟨_,Z,_,"int",Z,Z,_,Z,?_⟩;rw[iw];refine aV ?_;refine⟨_,Z,.inl ⟨_,_,Z,Z,_,Z,?_⟩⟩;rw[df hb];refine aV ?_;exact⟨_,Z,_,Z,_,_,Z,hb,wb,λt H' nw=>k _ _ (yh hb Z nw.at') nw.same⟩
def gR(rs:List Int)(r f j t:Int):ah:=.tuple [.tuple (rs.map PyData.int),.int r,.int f,.int j,.int t]
theorem kG(rs:List Int)(r f j t:Int):dP (gR rs r f j t)=true:=by simp[gR,dP,bX,mY]
theorem qE{H:Hp}{v:V}{rs:List Int}{r f j t:Int}(h:RD K H v (gR rs r f j t)):∃a b,v= .ref a/\aQ K H a [.ref b,.int r,.int f,.int j,.int t]/\aQ K H b (rs.map V.int):=by obtain⟨a,xs,rfl,h1,h2⟩:=h.d6;obtain⟨x1,r1,rfl,e1,h2⟩:=h2.cons_inv;obtain⟨x2,r2,rfl,e2,h2⟩:=h2.cons_inv;obtain⟨x3,r3,rfl,e3,h2⟩:=h2.cons_inv;obtain⟨x4,r4,rfl,e4,h2⟩:=h2.cons_inv;obtain⟨x5,r5,rfl,e5,h2⟩:=h2.cons_inv;cases h2.nil_inv;cases e2.int_inv;cases e3.int_inv;cases e4.int_inv;cases e5.int_inv;obtain⟨b,ys,rfl,h3,h4⟩:=e1.d6;rw[h4.ja]at h3;exact⟨a,b,Z,h1,h3⟩
structure lg(rs:List Int)(r f j t:Int):Prop where
 len:rs.length=2\/rs.length=3
 rl:∀z∈rs,1<=z/\z<=100
 r1:1<=r/\r<=50
 f1:1<=f/\f<=50
 j1:1<=j/\j<=50
 t1:1<=t/\t<=100
inductive a63(K:aa)(vs:List V)(H:Hp)(Q:VK):Prop |mk (p:_)(h0:vs=[.ref p])(h1:iB H p)(h2:∀v rs r f j t H',RD K H' v (gR rs r f j t)->lg rs r f j t->cg p H H'->Q v H')
def Iu(K:aa):Sp:=λvs H Q _=>a63 K vs H Q
abbrev Itm:=Option (List Int × Int)
def itR(d:ah)(o:Itm):Prop:=(∃ns sp,d=gE ns sp/\o=some (ns,sp))\/∃w x,d= .tuple [.str w,x]/\(w="wait"\/w="tool"\/w="mark")/\dP x=true/\o=none
theorem itR.no{d:ah}{o:Itm}(h:itR d o):dP d=true:=by
 rcases h with⟨ns,sp,rfl,_⟩|⟨w,x,rfl,_,h,_⟩
 ·exact Yf _ _
 ·simp[dP,bX,h]
theorem YD{H:Hp}{v:V}{d:ah}{o:Itm}(h:RD K H v d)(i:itR d o):∃a w ys,v= .ref a/\aQ K H a (.str w::ys)/\(PyData.eqv (.str w) (.str "line")=o.isSome)/\SeqAt.shaped (.str w)=true:=by
 rcases i with⟨ns,sp,rfl,rfl⟩|⟨w,x,rfl,hw,_,rfl⟩
 ·obtain⟨a,b,rfl,h1,_⟩:=tm h
  exact⟨a,_,_,Z,h1,(by show PyData.eqv (.str "line") (.str "line")=true;decide+kernel),aO⟩
 ·obtain⟨a,xs,rfl,h1,h2⟩:=h.d6
  obtain⟨x1,r1,rfl,e1,h2⟩:=h2.cons_inv;cases e1.str_inv;refine⟨a,w,r1,Z,h1,?_,?_⟩
  ·show PyData.eqv (.str w) (.str "line")=false
   rcases hw with rfl|rfl|rfl<;>decide+kernel
  ·rcases hw with rfl|rfl|rfl<;>decide+kernel
theorem Ye:SeqAt.shaped (.str "line")=true:=by decide+kernel
theorem nk{d:ah}{ns:List Int}{sp:Int}(h:itR d (some (ns,sp))):d=gE ns sp:=by
 rcases h with⟨Dq,AV,e1,e2⟩|⟨_,_,_,_,_,e2⟩
 ·cases e2;exact e1
 ·cases e2
structure fh(ax:Nat)(ds:List ah)(os:List Itm):Prop where
 len:ds.length=os.length
 it:∀(i:Nat)(d:ah)(o:Itm),ds[i]? =some d->os[i]? =some o->itR d o
 ok:∀(i:Nat)(ns:List Int)(sp:Int),os[i]? =some (some (ns,sp))->eX ax 100 ns/\1<=sp/\sp<=20
theorem fh.nil{ax:Nat}:fh ax [] []:=⟨Z,λi d o e=>by simp at e,λi ns sp e=>by simp at e⟩
theorem pZ{α:Type}{xs:List α}{x y:α}{j:Nat}(e:(xs++[x])[j]? =some y):xs[j]? =some y\/(j=xs.length/\y=x):=by
 by_cases hj:j<xs.length
 ·rw[Ak hj]at e;exact .inl e
 ·have zd:j=xs.length:=by
   have:=(eY.mp e).1;rw[fj]at this;have:j<xs.length+1:=this
   lia
  rw[zd,Aj (bB _),Nat.sub_self]at e;exact .inr ⟨zd,(dW e).symm⟩
theorem fh.snoc{ax:Nat}{ds:List ah}{os:List Itm}{d:ah}{o:Itm}(h:fh ax ds os)(i:itR d o)(g:∀ns sp,o=some (ns,sp)->eX ax 100 ns/\1<=sp/\sp<=20):fh ax (ds++[d]) (os++[o]):=by
 have hl:=h.len;refine⟨by rw[fj,fj,h.len];rfl,λj d' o' e1 e2=>?_,λj ns sp e=>?_⟩
 ·rcases pZ e1 with e1|⟨j1,rfl⟩
  ·rcases pZ e2 with e2|⟨j2,rfl⟩
   ·exact h.it j d' o' e1 e2
   ·have:=(eY.mp e1).1;lia
  ·rcases pZ e2 with e2|⟨j2,rfl⟩
   ·have:=(eY.mp e2).1;lia
   ·exact i
 ·rcases pZ e with e|⟨_,e⟩
  ·exact h.ok j ns sp e
  ·exact g ns sp e.symm
theorem fh.no{ax:Nat}{ds:List ah}{os:List Itm}(h:fh ax ds os):bX ds=true:=eO.mpr λd hd=>by obtain⟨i,hi⟩:=xf.mp hd;have hl:=(eY.mp hi).1;exact(h.it i d _ hi (cI (by rw[<-h.len];exact hl))).no
theorem fh.get{ax:Nat}{ds:List ah}{os:List Itm}(h:fh ax ds os){i:Nat}{d:ah}(e:ds[i]? =some d):∃o,os[i]? =some o/\itR d o:=by have hl:=(eY.mp e).1;have e2:=cI (show i<os.length by rw[<-h.len];exact hl);exact⟨_,e2,h.it i d _ e e2⟩
theorem aI.IK{H:Hp}{l:Addr}{ys:List V}{y:V}{ds:List ah}{d:ah}(dl:H l=some (.lst ys))(r:aI K H ys ds)(rd:RD K H y d)(n1:bX ds=true)(n2:dP d=true):aI K (_L.upd H l (.lst (ys++[y]))) (ys++[y]) (ds++[d]):=by have t:g9 H (_L.upd H l (.lst (ys++[y]))):=.lG dl;exact(aI.t t _ n1 r).append (bJ (RD.t t _ n2 rd) bW)
inductive a6d(K:aa)(vs:List V)(H:Hp)(Q:VK):Prop |mk (v:_)(d:_)(o:_)(h0:vs=[v])(h1:RD K H v d)(h2:itR d o)(h3:Q (.bl o.isSome) H)
def ou(K:aa):Sp:=λvs H Q _=>a6d K vs H Q
abbrev BV:Stmt:=top 33
theorem JM:bj ["item"] ["item"] (aP BV):=bw aO
theorem VS(F:FA K mg "is_line" BV)(B:bE mg):aG P w K mg au "is_line" 1 (ou K):=by
 refine F.has JM (λvs H Q E h=>?_) (λ_ _ _ _ _ _=>fE λ_=>rfl) (λf aE A outer s H vs Q E hr h=>?_)
 ·obtain⟨v,d,o,rfl,_⟩:=h
  rfl
 ·obtain⟨v,d,o,rfl,ri,it,k⟩:=h
  have nd:=JM.nd;refine⟨_,(aH (aZ (jG (dR K Z hr.units) (px K (pv 0) aF) ck (bL _)))),?_⟩;obtain⟨a,wd,ys,rfl,h1,ew,sw⟩:=YD ri it;refine⟨_,Z,.inr ⟨a,_,0,.str wd,Z,Z,h1,eK (gL 0) Z,.inr ⟨_,_,dN _,dN _,sw,Ye,?_⟩⟩⟩;rw[ew];exact k
def tZ:Str:="abcdefghijklmnopqrstuvwxyz"
theorem Ox{α:Type}{xs:List α}{x:α}(h:xs.getLast? =some x):iz xs (-1)=some x:=by
 unfold iz kH;have hl:xs≠[]:=by intro e;rw[e]at h;cases h
 have h0:0<xs.length:=GP.mpr hl;rw[bh az,bo aw];rw[List.getLast?_eq_getElem?]at h;show xs[((-1:Int)+(xs.length:Int)).toNat]? =some x;have e:((-1:Int)+(xs.length:Int)).toNat=xs.length-1:=by lia
 rw[e];exact h
def Q4(ns:List Int):ah:=.tuple (ns.map λz=>cB (Rat.divInt z (_l.aJ ns)))
theorem sJ(r:Rat):dP (cB r)=true:=by simp[cB,dP,bX]
theorem Lp{α:Type}{f:α->ah}(h:∀a,dP (f a)=true)(l:List α):bX (l.map f)=true:=eO.mpr λd hd=>by obtain⟨a,_,rfl⟩:=gu.mp hd;exact h a
inductive a5m(K:aa)(vs:List V)(H:Hp)(Q:VK):Prop |mk (v:_)(ns:_)(sp:_)(h0:vs=[v])(h1:RD K H v (gE ns sp))(h2:eX ns.length 1000 ns)(h3:ns.length<=1000)(h4:∀v' H',RD K H' v' (Q4 ns)->aA H H'->Q v' H')
def HS(K:aa):Sp:=λvs H Q _=>a5m K vs H Q
abbrev B6:Stmt:=top 53
theorem J3:bj ["line","lead"] ["line"] (aP B6):=bw aO
theorem UZ(F:FA K mg "ways_of" B6)(B:bE mg)(kL:aG P w K mg au "lead_of" 1 (oq K))(kM:aG P w K mg au "fraction" 3 (sy K)):aG P w K mg au "ways_of" 4 (HS K):=by
 refine F.has J3 (λvs H Q E h=>?_) (λ_ _ _ _ _ _=>fE λ_=>rfl) (λf aE A outer s H vs Q E hr h=>?_)
 ·obtain⟨v,ns,sp,rfl,_⟩:=h
  rfl
 ·obtain⟨v,ns,sp,rfl,rd,ok,hz,k⟩:=h
  have nd:=J3.nd;refine⟨_,(aD (pS 1 nd (pf kL hr (ao (pv 0) ay))) (aH (aZ (jH (x:="tuple") (mK K Z) Z (B.at "tuple") jz (ao (gP (N:=["step","lead"]) (js:=[none,some 1]) rfl rfl rfl (mU K rfl (px K (pv 0) aF)) (λ_ _ _ _ _=>(bu 0 (fX az))) (λ_ _ _ _ _=>gb) (λ_ _ _ _ _=>(pf kM hr (ao (pv 0) (ao (pv 1) ay))))) ay))))),?_⟩;refine⟨_,Z,v,ns,sp,Z,rd,ok.ne,hz,λH1 s1=>?_⟩;obtain⟨a,b,rfl,ha,hb⟩:=tm (RD.mono s1 _ rd);obtain⟨lp,lm⟩:=ok.lead;refine⟨_,Z,.inr ⟨a,_,1,.ref b,Z,Z,ha,Z,b,Z,⟨_,hb⟩,λD H0 nw=>?_⟩⟩;refine FJ (K:=K) (xs:=ns.map V.int) (ds:=ns.map λz=>cB (Rat.divInt z (_l.aJ ns))) _ hb nw (by simp) (by simpa using hz) (Lp (λ_=>sJ _) _) ?_ ?_
  ·intro i x d H2 Q' ex ed s2 hq
   obtain⟨n,en,rfl⟩:=qD ed;cases DH ex en;refine⟨_,Z,_,Z,n,_,Z,bN,jC (n:=20) bN az,λv3 H3 r3 s3=>?_⟩;exact hq _ _ s3 r3.rd
  ·intro H' ys s2 d2 r2
   refine⟨D,_,Z,.inl ⟨aK.of d2,λt H4 n4=>?_⟩⟩;exact k _ _ (eF (aQ.of n4.at') (aI.mono n4.same _ r2)) (s1.trans (s2.trans n4.same))
theorem oh:fC "tuple" "tuple"=true:=by decide
theorem Q0(d:ah):(∃i,d= .int i/\jP (gy d)=true)\/(jP (gy d)=false/\∀i,d≠ .int i):=by cases d with |int i=>exact .inl ⟨i,Z,by simp[gy];decide⟩ |_=>exact .inr ⟨by simp[gy];decide,λ_ z=>nomatch z⟩
theorem uC(d:ah):(∃ds,d= .tuple ds)\/(fC (gy d) "tuple"=false/\∀ds,d≠ .tuple ds):=by cases d with |tuple ds=>exact .inl ⟨ds,Z⟩ |_=>exact .inr ⟨by simp[gy];decide,λ_ z=>nomatch z⟩
def cC(lo hi:Int):ah->Bool | .int i=>decide (lo<=i)&&decide (i<=hi) |_=>false
theorem YN{lo hi:Int}{d:ah}(h:∀i,d≠ .int i):cC lo hi d=false:=by cases d<;>first|rfl|exact absurd rfl (h _)
inductive a5n(K:aa)(vs:List V)(H:Hp)(Q:VK):Prop |mk (v:_)(d:_)(lo:_)(hi:_)(h0:vs=[v,.int lo,.int hi])(h1:RD K H v d)(h2:Q (.bl (cC lo hi d)) H)
def lK(K:aa):Sp:=λvs H Q _=>a5n K vs H Q
abbrev B7:Stmt:=top 15
theorem J4:bj ["thing","low","high"] ["thing","low","high"] (aP B7):=bw aO
theorem UY(F:FA K mg "is_whole_within" B7)(B:bE mg)(qO:aG P w K mg au "is_whole" 1 (uJ K)):aG P w K mg au "is_whole_within" 2 (lK K):=by
 refine F.has J4 (λvs H Q E h=>?_) (λ_ _ _ _ _ _=>iM λ_ _ _=>rfl) (λf aE A outer s H vs Q E hr h=>?_)
 ·obtain⟨v,d,lo,hi,rfl,_⟩:=h
  rfl
 ·obtain⟨v,d,lo,hi,rfl,rd,k⟩:=h
  have nd:=J4.nd;refine⟨_,(aH (aZ (qr (pf qO hr (ao (pv 0) ay)) (sQ (Ul yy yy (pv 1) (pv 0) (pv 2)))))),?_⟩;refine⟨_,Z,_,_,Z,rd.ty,_,Z,?_⟩;rcases Q0 d with⟨i,rfl,e⟩|⟨e,hn⟩
  ·cases rd.int_inv
   rw[e];refine ba ?_;have k:Q (.bl (decide (lo<=i)&&decide (i<=hi))) H:=k;refine⟨_,Z,_,Z,_,_,Z,Z,_,Z,?_⟩;refine fZ (λhc=>?_) (λhc=>?_)
   ·have nL:decide (lo<=i)=true:=hc
    rw[nL,iD]at k;exact⟨_,Z,_,_,Z,Z,k⟩
   ·have nL:decide (lo<=i)=false:=Am.mpr hc
    rw[nL,fV]at k;exact k
  ·rw[e]
   refine aV ?_;rw[YN hn]at k;exact k
open _C
theorem PU{ns ms:List Int}{i:Nat}{a b:Int}(h1:ns[i]? =some a)(h2:ms[i]? =some b):(ft ns ms)[i]? =some (a*(aJ ms:Int)-b*(aJ ns:Int)):=by unfold ft;rw[cY,(xj (z:=(a,b))).mpr ⟨h1,h2⟩];rfl
def wo(j:Int)(ns ms:List Int):ah:=if aJ (ft ns ms)=0 then .none else cB (Rat.divInt ((j*aJ ns*aJ ms)^2) ((aJ (ft ns ms):Int)^2))
inductive a6p(K:aa)(vs:List V)(H:Hp)(Q:VK):Prop |mk (v:_)(v1:_)(v2:_)(rs:_)(r:_)(f:_)(j:_)(t:_)(ns:_)(ms:_)(gB:_)(gO:_)(h0:vs=[v,v1,v2])(h1:RD K H v (gR rs r f j t))(h2:RD K H v1 (gE ns gB))(h3:RD K H v2 (gE ms gO))(h4:eX ns.length 1000 ns)(h5:eX ns.length 1000 ms)(h6:ns.length<=1000)(h7:1<=j)(h8:j<=50)(h9:∀v' H',RD K H' v' (wo j ns ms)->aA H H'->Q v' H')
def AU(K:aa):Sp:=λvs H Q _=>a6p K vs H Q
inductive a5p(K:aa)(vs:List V)(H:Hp)(Q:VK):Prop |mk (v1:_)(v2:_)(ns:_)(ms:_)(gB:_)(gO:_)(h0:vs=[v1,v2])(h1:RD K H v1 (gE ns gB))(h2:RD K H v2 (gE ms gO))(h3:eX ns.length 1000 ns)(h4:eX ns.length 1000 ms)(h5:ns.length<=1000)(h6:∀v' H',bM K H' v' (Rat.divInt (aJ (ft ns ms)) ((aJ ns:Int)*aJ ms))->aA H H'->Q v' H')
def HV(K:aa):Sp:=λvs H Q _=>a5p K vs H Q
abbrev B8:Stmt:=top 63
theorem J5:bj ["one","other","greatest","way","new_way","p","q","difference"] ["one","other"] (aP B8):=bw aO
theorem V0(F:FA K mg "greatest_turn" B8)(B:bE mg)(Mo:aG P w K mg au "ways_of" 4 (HS K))(ZD:aG P w K mg au "minus" 3 (pY (·-·) K))(En:aG P w K mg au "is_less" 1 (xX K)):aG P w K mg au "greatest_turn" 5 (HV K):=by
 refine F.has J5 (λvs H Q E h=>?_) (λ_ _ _ _ _ _=>cH λ_ _=>rfl) (λf aE A outer s H vs Q E hr h=>?_)
 ·obtain⟨v1,v2,ns,ms,gB,gO,rfl,_⟩:=h
  rfl
 ·obtain⟨v1,v2,ns,ms,gB,gO,rfl,CM,sI,gQ,gf,hz,k⟩:=h
  have nd:=J5.nd;obtain⟨Y1,Ya⟩:=gQ.lead;obtain⟨Y0,Y9⟩:=gf.lead;have Mm:ms.length<=1000:=by rw[gf.len];exact hz
  have Wl:eX ms.length 1000 ms:=⟨Z,gf.bd,gf.nz⟩;have cb:=FH (λz hz=>by have:=gQ.bd z hz;lia) (λz hz=>by have:=gf.bd z hz;lia) (ns:=ns) (ms:=ms);have L0:(0:Int)<(aJ ns:Int)*aJ ms:=jA aw aw;have Lb:((aJ ns:Int)*aJ ms).natAbs<=1000*1000:=lS aw aw;have a8n:(ft ns ms).length=ns.length:=by simp[ft,gf.len]
  have MM:∀c:Int,c.natAbs<=2000000->Bd 2000 (Rat.divInt c ((aJ ns:Int)*aJ ms)):=λc hc=>(jJ (n:=30) aw aw aw).mono az;refine⟨_,(aD (pS 2 nd (dh (ao aF (ao aF ay)))) (aD (j7 iQ Z (sO K Z false false Z (B.at "zip") (ao (pf Mo hr (ao (pv 0) ay)) (ao (pf Mo hr (ao (pv 1) ay)) ay))) (fb K rfl (n:=2) rfl (bU (bu 3 nd) (bU (bu 4 nd) eZ))) (aD (fW (pf ZD hr (ao (pv 4) (ao (pv 3) ay))) (fb K Z (n:=2) Z (bU (bu 5 nd) (bU (bu 6 nd) eZ)))) (aD (pS 7 nd (dh (ao (dF (x:="abs") tW Z (B.at "abs") wX (ao (pv 5) ay)) (ao (pv 6) ay)))) (aH (bD (bS (pf En hr (ao (pv 2) (ao (pv 7) ay)))) (aH (pS 2 nd (pv 7))) bG))))) (aH (aZ (pv 2))))),?_⟩;refine⟨bC Z,λg0 H1 n1=>?_⟩;refine⟨_,Z,v1,ns,gB,Z,RD.mono n1.same _ CM,gQ,hz,λw1 H2 r2 s2=>?_⟩;have t2:=n1.same.trans s2;refine⟨_,Z,v2,ms,gO,Z,RD.mono t2 _ sI,Wl,Mm,λw2 H3 r3 s3=>?_⟩;have t3:=t2.trans s3;obtain⟨c1,xs1,rfl,h1,q1⟩:=(RD.mono s3 _ r2).d6;obtain⟨c2,xs2,rfl,h2,q2⟩:=r3.d6;have l1:=q1.length;have l2:=q2.length;rw[bR]at l1 l2;refine⟨c1,c2,Z,⟨_,h1⟩,⟨_,h2⟩,?_⟩;refine a22 (K:=K) (b1:=false) (b2:=false) (xs:=xs1) (ys:=xs2) ns.length (by rw[l1,l2,gf.len];lia) (λi O H4=>aA H3 H4/\∃g u1 u2 u3 u4 u5,bM K H4 g (Rat.divInt (oX (ft ns ms) i) ((aJ ns:Int)*aJ ms))/\O=[some v1,some v2,some g,u1,u2,u3,u4,u5]) ?_ (λi O H4 _ h=>⟨h1.go h.1,h2.go h.1⟩) ?_ ?_
  ·refine⟨aA.refl _,.ref g0,none,none,none,none,none,⟨g0,Z,?_⟩,Z⟩
   have e0:Rat.divInt ((oX (ft ns ms) 0:Nat):Int) ((aJ ns:Int)*aJ ms)=0:=by show Rat.divInt 0 _=0;exact Rat.zero_divInt _
   rw[e0];exact aQ.of (s3 _ _ (s2 _ _ n1.at'))
  ·rintro i x y O H4 ex ey ⟨s4,g,u1,u2,u3,u4,u5,rg,rfl⟩ T H5 n5
   obtain⟨d1,e1,rx⟩:=q1.get' i ex;obtain⟨d2,e2,ry⟩:=q2.get' i ey;obtain⟨a,ea,rfl⟩:=qD e1;obtain⟨b,eb,rfl⟩:=qD e2;have qa:=gQ.bd a (iS ea);have qb:=gf.bd b (iS eb);have cz:=PU ea eb;have czb:=cb _ (iS cz);have t5:=s4.trans n5.same;refine⟨T,_,Z,aQ.of n5.at',Z,_,_,Z,_,_,Z,Z,?_⟩;have mT:∀{H':Hp}{v:V}{r:Rat},RD K H' v (cB r)->bM K H' v r:=λ{H' v r} h=>by obtain⟨p,xs,rfl,h1,h2⟩:=h.d6;have:=h2.ja (ns:=[r.num,r.den]);subst this;exact⟨p,Z,h1⟩
   refine⟨_,Z,_,Z,y,x,_,_,Z,mT (RD.mono t5 _ ry),mT (RD.mono t5 _ rx),(jJ (n:=30) aw aw aw).mono az,(jJ (n:=30) aw aw aw).mono az,λv6 H6 r6 s6=>?_⟩;have ed:Rat.divInt b (aJ ms)-Rat.divInt a (aJ ns)=Rat.divInt (b*aJ ns-a*aJ ms) ((aJ ns:Int)*aJ ms):=Rw aw aw;have r6:bM K H6 v6 (Rat.divInt b (aJ ms)-Rat.divInt a (aJ ns)):=r6;rw[ed]at r6;obtain⟨p6,rfl,h6⟩:=r6;refine⟨p6,_,Z,h6,Z,_,_,Z,_,_,Z,Z,?_⟩;refine⟨_,Z,_,Z,_,Z,bC Z,λdd H7 n7=>?_⟩;have Cq:=s6.trans n7.same;have rD:bM K H7 (.ref dd) (Rat.divInt (((a*(aJ ms:Int)-b*(aJ ns:Int)).natAbs:Nat):Int) ((aJ ns:Int)*aJ ms)):=by
    have e:Rat.divInt (((a*(aJ ms:Int)-b*(aJ ns:Int)).natAbs:Nat):Int) ((aJ ns:Int)*aJ ms)=qW (Rat.divInt (b*aJ ns-a*aJ ms) ((aJ ns:Int)*aJ ms)):=by rw[a4S L0,Ga];congr 1;lia
    rw[e];refine⟨dd,Z,?_⟩;rw[a4R,a4T];exact aQ.of n7.at'
   have rG:bM K H7 g _:=(rg.go n5.same).go Cq;have hG:oX (ft ns ms) i<=2000000:=nc λz hz=>cb z (x9 hz);refine⟨_,Z,_,Z,g,.ref dd,_,_,Z,rG,rD,MM _ aw,MM _ aw,_,Z,?_⟩;have hs:=ZY cz;refine fZ (λhc=>?_) (λhc=>?_)
   ·have cm:=(NQ L0).mp (mE hc)
    refine⟨_,Z,?_⟩;refine⟨t5.trans Cq,_,_,_,_,_,_,?_,Z⟩;rw[hs,Nat.max_eq_right aw];exact rD
   ·have hge:¬_:=λz=>hc (cn ((NQ L0).mpr z))
    refine⟨t5.trans Cq,_,_,_,_,_,_,?_,Z⟩;rw[hs,Nat.max_eq_left aw];exact rG
  ·rintro O H4 ⟨s4,g,u1,u2,u3,u4,u5,rg,rfl⟩
   refine⟨_,Z,k _ _ ?_ (t3.trans s4)⟩;have:oX (ft ns ms) ns.length=aJ (ft ns ms):=by unfold oX;rw[Af aw]
   rw[this]at rg;exact rg
abbrev Cc:Stmt:=top 60
theorem K1:bj ["machine","one","other","jump","p","q"] ["machine","one","other"] (aP Cc):=bw aO
theorem W9(F:FA K mg "corner_square" Cc)(B:bE mg)(a00:aG P w K mg au "greatest_turn" 5 (HV K))(kM:aG P w K mg au "fraction" 3 (sy K)):aG P w K mg au "corner_square" 6 (AU K):=by
 refine F.has K1 (λvs H Q E h=>?_) (λ_ _ _ _ _ _=>iM λ_ _ _=>rfl) (λf aE A outer s H vs Q E hr h=>?_)
 ·obtain⟨v,v1,v2,rs,r,f',j,t,ns,ms,gB,gO,rfl,_⟩:=h
  rfl
 ·obtain⟨v,v1,v2,rs,r,f',j,t,ns,ms,gB,gO,rfl,rd,CM,sI,gQ,gf,hz,j1,j2,k⟩:=h
  have nd:=K1.nd;obtain⟨Y1,Ya⟩:=gQ.lead;obtain⟨Y0,Y9⟩:=gf.lead;have L0:(0:Int)<(aJ ns:Int)*aJ ms:=jA aw aw;have Lb:((aJ ns:Int)*aJ ms).natAbs<=1000*1000:=lS aw aw;have cb:=FH (λz hz=>by have:=gQ.bd z hz;lia) (λz hz=>by have:=gf.bd z hz;lia) (ns:=ns) (ms:=ms);have hH:=nc cb;refine⟨_,(aD (pS 3 nd (px K (pv 0) aF)) (aD (fW (pf a00 hr (ao (pv 1) (ao (pv 2) ay))) (fb K Z (n:=2) Z (bU (bu 4 nd) (bU (bu 5 nd) eZ)))) (aD (bD (bT (dR K Z hr.units) (pv 4) aF (bL _)) (aH (aZ hV)) bG) (aH (aZ (pf kM hr (ao (aW cu (aW cu (aW cu (pv 3) (pv 3)) (pv 5)) (pv 5)) (ao (aW cu (pv 4) (pv 4)) ay)))))))),?_⟩;obtain⟨am,bm,rfl,jq,m5⟩:=qE rd;refine⟨_,Z,.inr ⟨am,_,3,.int j,Z,Z,jq,Z,?_⟩⟩;refine⟨_,Z,_,Z,v1,v2,ns,ms,gB,gO,Z,CM,sI,gQ,gf,hz,λv3 H3 r3 s3=>?_⟩;obtain⟨FY⟩:Nonempty (Bd 30 (Rat.divInt (aJ (ft ns ms)) ((aJ ns:Int)*aJ ms))):=⟨jJ (n:=30) aw aw aw⟩;have en:=rK (Rat.divInt (aJ (ft ns ms)) ((aJ ns:Int)*aJ ms));obtain⟨R,hR⟩:∃R,Rat.divInt (aJ (ft ns ms)) ((aJ ns:Int)*aJ ms)=R:=⟨_,Z⟩;rw[hR]at r3 FY en;have dp:=den_pos R;have wm:R.num*((aJ ns:Int)*aJ ms)=aJ (ft ns ms)*R.den:=by rw[<-hR]at en;have:=(Rat.divInt_eq_divInt_iff (by rw[hR];lia) aw).mp en;rw[hR]at this;exact this
  have nb:=FY.num;have db:=FY.den;obtain⟨p3,rfl,h3⟩:=r3;refine⟨p3,_,Z,h3,Z,_,_,Z,_,_,Z,Z,?_⟩;refine⟨_,Z,.inl ⟨_,_,Z,Z,_,Z,?_⟩⟩;refine fZ (λhc=>?_) (λhc=>?_)
  ·have h0:R.num=0:=by simpa using hc
   have hl:aJ (ft ns ms)=0:=by
    rw[h0,Int.zero_mul]at wm;rcases Int.mul_eq_zero.mp wm.symm with h|h
    ·lia
    ·lia
   refine k .aY H3 ?_ s3;unfold wo;rw[bo hl];exact oA
  ·have h0:R.num≠0:=by simpa using hc
   have hl:aJ (ft ns ms)≠0:=by
    intro z;rw[z]at wm;have:R.num*((aJ ns:Int)*aJ ms)=0:=by rw[wm];exact Int.zero_mul _
    rcases Int.mul_eq_zero.mp this with h|h
    ·exact h0 h
    ·lia
   have m1:(j*j).natAbs<=50*50:=lS aw aw;have nN:(2:Nat)^64=18446744073709551616:=by decide
   refine⟨_,Z,_,Z,_,_,Z,Z,.of_left (dU aw aw),_,Z,_,_,Z,Z,.of_left (dU aw aw),_,Z,_,_,Z,Z,.of_right (dU aw aw),?_⟩;refine⟨_,Z,_,Z,_,_,Z,Z,.of_left (dU aw aw),?_⟩;refine⟨_,_,Z,GX h0 h0,?_,λv4 H4 r4 s4=>?_⟩
   ·refine jC (n:=60) ?_ az
    rw[iV];exact oM (n:=30) (m:=30) nb nb
   ·refine k _ _ ?_ (s3.trans s4)
    unfold wo;rw[bh hl];have e:=a3X (j:=j) (p:=R.num) (q:=R.den) (h:=aJ (ft ns ms)) (L:=(aJ ns:Int)*aJ ms) h0 aw wm;rw[e,<-Int.mul_assoc]at r4;exact r4.rd
def mS (d:ah):Bool:=cC 10 200 d
inductive a5E(K:aa)(vs:List V)(H:Hp)(Q:VK):Prop |mk (v:_)(d:_)(h0:vs=[v])(h1:RD K H v d)(h2:Q (.bl (mS d)) H)
def uF(K:aa):Sp:=λvs H Q _=>a5E K vs H Q
abbrev BU:Stmt:=top 62
theorem JL:bj ["thing"] ["thing"] (aP BU):=bw aO
theorem VR(F:FA K mg "is_rate" BU)(B:bE mg)(a0R:GV mg "LEAST_RATE" (.int 10))(a0T:GV mg "GREATEST_RATE" (.int 200))(ip:aG P w K mg au "is_whole_within" 2 (lK K)):aG P w K mg au "is_rate" 3 (uF K):=by
 refine F.has JL (λvs H Q E h=>?_) (λ_ _ _ _ _ _=>fE λ_=>rfl) (λf aE A outer s H vs Q E hr h=>?_)
 ·obtain⟨v,d,rfl,_⟩:=h
  rfl
 ·obtain⟨v,d,rfl,rd,k⟩:=h
  have nd:=JL.nd;refine⟨_,(aH (aZ (pf ip hr (ao (pv 0) (ao (cy (x:="LEAST_RATE") Z a0R) (ao (cy (x:="GREATEST_RATE") Z a0T) ay)))))),?_⟩;exact⟨_,Z,v,d,10,200,Z,rd,k⟩
inductive a5r(K:aa)(vs:List V)(H:Hp)(Q:VK):Prop |mk (v:_)(ns:_)(sp:_)(r:_)(h0:vs=[v,.int r])(h1:RD K H v (gE ns sp))(h2:1<=sp)(h3:sp<=20)(h4:10<=r)(h5:r<=200)(h6:∀v' H',bM K H' v' (Rat.divInt ((sp*r)^2) 10000)->aA H H'->Q v' H')
def sj(K:aa):Sp:=λvs H Q _=>a5r K vs H Q
theorem RK(a b:Int):a*a*b*b=(a*b)^2:=by rw[fU,fU,mG,mH];ac_rfl
theorem Ta{r:Int}(h1:10<=r)(h2:r<=200):mS (.int r)=true:=by show(decide (10<=r)&&decide (r<=200))=true;rw[cn h1,cn h2];rfl
abbrev yb:Stmt:=top 61
theorem y6:bj ["line","rate","speed"] ["line","rate"] (aP yb):=bw aO
theorem V2(F:FA K mg "top_square" yb)(B:bE mg)(vF:aG P w K mg au "is_rate" 3 (uF K))(kM:aG P w K mg au "fraction" 3 (sy K)):aG P w K mg au "top_square" 4 (sj K):=by
 refine F.has y6 (λvs H Q E h=>?_) (λ_ _ _ _ _ _=>cH λ_ _=>rfl) (λf aE A outer s H vs Q E hr h=>?_)
 ·obtain⟨v,ns,sp,r,rfl,_⟩:=h
  rfl
 ·obtain⟨v,ns,sp,r,rfl,rd,s1,s2,r1,r2,k⟩:=h
  have nd:=y6.nd;refine⟨_,(aD (bD (cE (bS (pf vF hr (ao (pv 1) ay)))) (aH D5) bG) (aD (pS 2 nd (px K (pv 0) aF)) (aH (aZ (pf kM hr (ao (aW cu (aW cu (aW cu (pv 2) (pv 2)) (pv 1)) (pv 1)) (ao (aW cu aF aF) ay))))))),?_⟩;refine⟨_,Z,_,.int r,Z,cQ r,_,Z,?_⟩;rw[Ta r1 r2];refine aV ?_;obtain⟨a,b,rfl,ha,hb⟩:=tm rd;refine⟨_,Z,.inr ⟨a,_,2,.int sp,Z,Z,ha,Z,?_⟩⟩;have m1:(sp*sp).natAbs<=20*20:=by rw[iV];exact rO aw aw
  refine⟨_,Z,_,Z,_,_,Z,Z,.of_left (dU aw aw),_,Z,_,_,Z,Z,.of_left (dU aw aw),_,Z,_,_,Z,Z,.of_right (dU aw aw),?_⟩;refine⟨_,_,Z,Z,.of_left (dU az az),?_⟩;refine⟨_,_,Z,az,jC (n:=20) az az,λv' H' r' s'=>k v' H' ?_ s'⟩;rw[RK]at r';exact r'
open _P
open _O (topR cornO mnO betR atO ownF leadF ownL OkI OkIs)
theorem RP(n:Nat)(h:n<=1000):n<sizeLine:=GJ h az
theorem mT{H:Hp}{v:V}{r:Rat}(h:RD K H v (cB r)):bM K H v r:=by obtain⟨p,xs,rfl,h1,h2⟩:=h.d6;have:=h2.ja (ns:=[r.num,r.den]);subst this;exact⟨p,Z,h1⟩
theorem eX.up{ax:Nat}{ns:List Int}(h:eX ax 100 ns):eX ns.length 1000 ns:=⟨Z,λz hz=>by have:=h.bd z hz;lia,h.nz⟩
theorem fh.yz{ax:Nat}{ds:List ah}{os:List Itm}(h:fh ax ds os):OkIs os:=λi ns sp e=>by unfold atO at e;cases ho:os[i]? with |none=>rw[ho]at e;cases e |some o=>rw[ho]at e;have e':o=some (ns,sp):=e;subst e';obtain⟨a,b,c⟩:=h.ok i ns sp ho;exact⟨a.bd,b,c⟩
theorem sW{H:Hp}{a:Addr}(h:aQ K H a [.int 0,.int 1]):bM K H (.ref a) 0:=⟨a,Z,h⟩
theorem a3Z(j:Int)(ns ms:List Int):wo j ns ms=match cornO j ns ms with|none=>.none|some c=>cB c:=by unfold wo cornO;split<;>rfl
inductive a6r(K:aa)(vs:List V)(H:Hp)(Q:VK):Prop |mk (m:_)(v1:_)(v2:_)(rate:_)(rs:_)(r:_)(f:_)(j:_)(t:_)(d1:_)(d2:_)(o1:_)(o2:_)(ax:_)(h0:vs=[m,v1,v2,.int rate])(h1:RD K H m (gR rs r f j t))(h2:1<=j)(h3:j<=50)(h4:RD K H v1 d1)(h5:RD K H v2 d2)(h6:itR d1 o1)(h7:itR d2 o2)(h8:(∀ns sp,o1=some (ns,sp)->eX ax 100 ns/\1<=sp/\sp<=20))(h9:(∀ns sp,o2=some (ns,sp)->eX ax 100 ns/\1<=sp/\sp<=20))(h10:ax<=100)(h11:10<=rate)(zp:rate<=200)(h13:∀v H',bM K H' v (betR j rate o1 o2)->aA H H'->Q v H')
def xY(K:aa):Sp:=λvs H Q _=>a6r K vs H Q
abbrev Cf:Stmt:=top 66
theorem K4:bj ["machine","one","other","rate","squares","corner"] ["machine","one","other","rate"] (aP Cf):=bw aO
theorem Wc(F:FA K mg "bound_between" Cf)(B:bE mg)(gN:GT K mg "NOUGHT" [.int 0,.int 1])(jS:aG P w K mg au "is_line" 1 (ou K))(lX:aG P w K mg au "top_square" 4 (sj K))(a0g:aG P w K mg au "corner_square" 6 (AU K))(tI:aG P w K mg au "least" 2 (mQ K)):aG P w K mg au "bound_between" 7 (xY K):=by
 obtain⟨aN,jr,lJ⟩:=gN;refine F.has K4 (λvs H Q E h=>?_) (λ_ _ _ _ _ _=>G6 λ_ _ _ _=>rfl) (λf aE A outer s H vs Q E hr h=>?_)
 ·obtain⟨m,v1,v2,rate,rs,r,f,j,t,d1,d2,o1,o2,ax,rfl,_⟩:=h
  rfl
 ·obtain⟨m,v1,v2,rate,rs,r,f,j,t,d1,d2,o1,o2,ax,rfl,rm,j1,j2,r1,r2,i1,i2,k1,k2,hax,dy,dM,k⟩:=h
  have nd:=K4.nd;refine⟨_,(aD (bD (PW.pt (kr (cE (bS (pf jS hr (ao (pv 1) ay)))) (kl (cE (bS (pf jS hr (ao (pv 2) ay))))))) (aH (aZ (cy (x:="NOUGHT") Z jr))) bG) (aD (pS 4 nd (dE (ao (pf lX hr (ao (pv 1) (ao (pv 3) ay))) (ao (pf lX hr (ao (pv 2) (ao (pv 3) ay))) ay)))) (aD (pS 5 nd (pf a0g hr (ao (pv 0) (ao (pv 1) (ao (pv 2) ay))))) (aD (jm (bD (bT Df (pv 5) hV (bL _)) (aH (gD (oE K Z (pv 4) (ao (pv 5) ay)))) bG)) (aH (aZ (pf tI hr (ao (pv 4) ay)))))))),?_⟩;refine⟨_,Z,v1,d1,o1,Z,r1,i1,_,Z,?_⟩;cases o1 with |none=>refine ba (ba ?_);have:=k _ H (sW (lJ H)) (aA.refl _);exact this |some q1=>obtain⟨ns,sp⟩:=q1;refine aV ?_;refine⟨_,Z,v2,d2,o2,Z,r2,i2,_,Z,?_⟩;cases o2 with |none=>refine ba ?_;exact k _ H (sW (lJ H)) (aA.refl _) |some q2=>obtain⟨ms,sq⟩:=q2;refine aV ?_;have e1:=nk i1;have e2:=nk i2;subst e1 e2;obtain⟨gQ,a1,a2⟩:=k1 ns sp rfl;obtain⟨gf,b1,b2⟩:=k2 ms sq rfl;refine⟨_,Z,_,Z,v1,ns,sp,rate,Z,r1,a1,a2,dy,dM,λt1 H1 Sx s1=>?_⟩;refine⟨_,Z,_,Z,v2,ms,sq,rate,Z,RD.mono s1 _ r2,b1,b2,dy,dM,λt2 H2 Sw s2=>?_⟩;refine⟨bC Z,λl H3 n3=>?_⟩;have t3:=s1.trans (s2.trans n3.same);have oG:eX ns.length 1000 ms:=⟨by rw[gQ.len,gf.len],gf.up.bd,gf.nz⟩;refine⟨_,Z,_,Z,_,Z,m,v1,v2,rs,r,f,j,t,ns,ms,sp,sq,Z,RD.mono t3 _ rm,RD.mono t3 _ r1,RD.mono t3 _ r2,gQ.up,oG,by rw[gQ.len];lia,j1,j2,λc H4 rc s4=>?_⟩;have T1:Bd 2000 (topR rate sp):=(_O.xK a1 a2 dy dM).mono az;have T2:Bd 2000 (topR rate sq):=(_O.xK b1 b2 dy dM).mono az;have R1:bM K H4 t1 (topR rate sp):=((Sx.go s2).go n3.same).go s4;have R2:bM K H4 t2 (topR rate sq):=(Sw.go n3.same).go s4;have t4:=t3.trans s4;rw[a3Z]at rc;cases hc:cornO j ns ms with
   |none=>
    rw[hc]at rc;cases rc.yG;refine⟨λO H5=>H5=H4/\O=[some m,some v1,some v2,some (.int rate),some (.ref l),some .aY],?_,?_⟩
    ·refine⟨_,Z,Z,_,Z,aV ?_⟩
     exact⟨Z,Z⟩
    rintro O H5 ⟨rfl,rfl⟩;refine⟨_,Z,l,[t1,t2],[topR rate sp,topR rate sq],Z,aK.of (s4 _ _ n3.at'),⟨R1,T1,R2,T2,trivial⟩,by simp,λi v q e1 e2 hq=>?_⟩;have vz:betR j rate (some (ns,sp)) (some (ms,sq))=q:=by
     show mnO (mn _ _) (cornO j ns ms)=q;rw[hc];refine vo ?_ (hq _ (by simp)) (hq _ (by simp))
     match i,e2 with |0,e2=>cases e2;exact .inl rfl |1,e2=>cases e2;exact .inr rfl
    refine k v _ ?_ t4;rw[vz]
    match i,e1,e2 with |0,e1,e2=>cases e1;cases e2;exact R1 |1,e1,e2=>cases e1;cases e2;exact R2
   |some cq=>
    rw[hc]at rc;have Rc:bM K H4 c cq:=mT rc;have Tc:Bd 2000 cq:=(_O.O1 j1 j2 gQ.bd gf.bd hc).mono az;have wj:=s4 _ _ n3.at';have tU:g9 H4 (_L.upd H4 l (.lst ([t1,t2]++[c]))):=.lG wj;refine⟨λO H5=>H5=_L.upd H4 l (.lst ([t1,t2]++[c]))/\O=[some m,some v1,some v2,some (.int rate),some (.ref l),some c],?_,?_⟩
    ·obtain⟨pc,rfl,_⟩:=id Rc
     refine⟨_,Z,Z,_,Z,ba ?_⟩;refine⟨_,Z,.inl ⟨Z,_,aK.of wj⟩,_,Z,l,[t1,t2],_,Z,Z,wj,RP _ (GK Z),?_⟩;exact⟨Z,Z⟩
    rintro O H5 ⟨rfl,rfl⟩;have up:∀{v:V}{q:Rat},bM K H4 v q->bM K (_L.upd H4 l (.lst ([t1,t2]++[c]))) v q:=λ{v q} h=>mT (RD.t tU _ (sJ q) h.rd);refine⟨_,Z,l,[t1,t2,c],[topR rate sp,topR rate sq,cq],Z,aK.of bp,⟨up R1,T1,up R2,T2,up Rc,Tc,trivial⟩,by simp,λi v q e1 e2 hq=>?_⟩;have vz:betR j rate (some (ns,sp)) (some (ms,sq))=q:=by
     show mnO (mn _ _) (cornO j ns ms)=q;rw[hc];show mn (mn _ _) cq=q;have h1:=hq _ (show topR rate sp∈[topR rate sp,topR rate sq,cq] by simp);have h2:=hq _ (show topR rate sq∈[topR rate sp,topR rate sq,cq] by simp);have h3:=hq _ (show cq∈[topR rate sp,topR rate sq,cq] by simp);refine vo ?_ (lV h1 h2) h3
     match i,e2 with |0,e2=>cases e2;exact .inl (vo (.inl rfl) h1 h2).symm |1,e2=>cases e2;exact .inl (vo (.inr rfl) h1 h2).symm |2,e2=>cases e2;exact .inr rfl
    have sU:aA H (_L.upd H4 l (.lst ([t1,t2]++[c]))):=λb o e=>by have h0:H2 l=none:=n3.no;have e2:=s2 b o (s1 b o e);rw[aL (eH e2 h0)];exact t4 b o e
    refine k v _ ?_ sU;rw[vz]
    match i,e1,e2 with |0,e1,e2=>cases e1;cases e2;exact up R1 |1,e1,e2=>cases e1;cases e2;exact up R2 |2,e1,e2=>cases e1;cases e2;exact up Rc
theorem sX(qs:List Rat):bX (qs.map cB)=true:=Lp sJ qs
theorem aI.RY{H:Hp}{l:Addr}{ys:List V}{y:V}{ds:List ah}{d:ah}{i:Nat}(dl:H l=some (.lst ys))(r:aI K H ys ds)(rd:RD K H y d)(n1:bX ds=true)(n2:dP d=true):aI K (_L.upd H l (.lst (ys.set i y))) (ys.set i y) (ds.set i d):=by have t:g9 H (_L.upd H l (.lst (ys.set i y))):=.lG dl;have r':=aI.t t _ n1 r;have Kr:=RD.t t _ n2 rd;clear r rd dl t;generalize _L.upd H l (.lst (ys.set i y))=H' at r' Kr;induction ds generalizing ys i with |nil=>cases r'.nil_inv;exact bW |cons d0 ds ih=>
 obtain⟨y0,yr,rfl,h1,h2⟩:=r'.cons_inv;have X9:bX ds=true:=by rw[bX,cZ]at n1;exact n1.2
 cases i with |zero=>exact bJ Kr h2 |succ i=>exact bJ h1 (ih X9 h2)
theorem FG(xs:List V):gF xs (some 1) none=xs.drop 1:=by unfold gF;have e:_H.bI xs.length 0 (some 1)=min 1 xs.length:=_H.Kb _ _ 1;rw[e,_H.Ka];cases xs with |nil=>rfl |cons x xs=>
 have e2:min 1 (x::xs).length=1:=by simp
 rw[e2,Af (by simp)]
inductive a5S(K:aa)(vs:List V)(H:Hp)(Q:VK):Prop |mk (m:_)(iv:_)(rate:_)(rs:_)(r:_)(f:_)(j:_)(t:_)(ds:_)(os:_)(h0:vs=[m,iv,.int rate])(h1:RD K H m (gR rs r f j t))(h2:lg rs r f j t)(h3:RD K H iv (.tuple ds))(h4:fh rs.length ds os)(h5:ds.length<=100)(h6:10<=rate)(h7:rate<=200)(h8:∀l ys H',H l=none->H' l=some (.lst ys)->aI K H' ys ((ownL j rate os).map cB)->aA H H'->Q (.ref l) H')
def AM(K:aa):Sp:=λvs H Q _=>a5S K vs H Q
abbrev yc:Stmt:=top 65
theorem y8:bj ["machine","items","rate","between"] ["machine","items","rate"] (aP yc):=bw aO
theorem Vv(F:FA K mg "own_bounds" yc)(B:bE mg)(gN:GT K mg "NOUGHT" [.int 0,.int 1])(Et:aG P w K mg au "bound_between" 7 (xY K)):aG P w K mg au "own_bounds" 8 (AM K):=by
 obtain⟨aN,jr,lJ⟩:=gN;refine F.has y8 (λvs H Q E h=>?_) (λ_ _ _ _ _ _=>iM λ_ _ _=>rfl) (λf aE A outer s H vs Q E hr h=>?_)
 ·obtain⟨m,iv,rate,rs,r,f,j,t,ds,os,rfl,_⟩:=h
  rfl
 ·obtain⟨m,iv,rate,rs,r,f,j,t,ds,os,rfl,rm,aM,ri,row,hz,dy,dM,k⟩:=h
  have nd:=y8.nd;have rN:∀H',RD K H' (.ref aN) (cB 0):=λH'=>(sW (lJ H')).rd;refine⟨_,(aD (bD (cE (uW K Z (pv 1))) (aH (aZ (dE (ao (cy (x:="NOUGHT") Z jr) ay)))) bG) (aD (KC (i0:=3) nd Z (Or.inl Z) (N:=["one","other","machine","rate"]) (js:=[none,none,some 0,some 2]) Z Z Z (sO K Z false false Z (B.at "zip") (ao (pv 1) (ao (qp (xZ K rfl) (pv 1) (qj aF) qk) ay))) (λ_ _ _ _ _=>(fb K rfl (n:=2) rfl (bU (bu 0 (show List.Nodup (["one","other","machine","rate"]:List Str) by decide+kernel)) (bU (bu 1 (show List.Nodup (["one","other","machine","rate"]:List Str) by decide+kernel)) eZ)))) (λ_ _ _ _ _=>gb) (λ_ _ _ _ _=>(pf Et hr (ao (pv 2) (ao (pv 0) (ao (pv 1) (ao (pv 3) ay))))))) (aH (aZ (aW (qV K Z) (aW (qV K Z) (dE (ao (cy (x:="NOUGHT") Z jr) ay)) (pv 3)) (dE (ao (cy (x:="NOUGHT") Z jr) ay))))))),?_⟩;obtain⟨ia,xs,rfl,hi,gh⟩:=ri.d6;have lx:=gh.length;have ll:=row.len;refine⟨_,Z,_,.inr (.inl ⟨_,hi,Z⟩),?_⟩;cases hd:xs with
  |nil=>
   subst hd;refine ba ?_;refine⟨bC Z,λl H1 n1=>?_⟩;refine k l [.ref aN] H1 n1.no n1.at' ?_ n1.same;have e:os=[]:=by
    have:os.length=0:=by rw[<-ll,<-lx];rfl
    exact GQ.mp this
   rw[e];exact bJ (rN H1) bW |cons x0 xr=>
   refine aV ?_;have dI:os≠[]:=by intro e;rw[e]at ll;rw[hd]at lx;simp at ll lx;rw[ll]at lx;cases lx
   have E4:0<xs.length:=by rw[hd];simp
   refine⟨_,Z,_,Z,1,Z,ia,xs,Z,.inr ⟨hi,?_,λtl H1 n1=>?_⟩⟩
   ·rintro⟨h1,_⟩
    have e:_H.bI xs.length 0 (some 1)=min 1 xs.length:=_H.Kb _ _ 1;rw[e]at h1
    lia
   refine⟨ia,tl,Z,⟨_,hi.go n1.same⟩,⟨_,aQ.of n1.at'⟩,λD H2 n2=>?_⟩;have et:=n1.at';rw[FG]at et;have vc:∀(i:Nat)(o:Itm),os[i]? =some o->∀(ns:List Int)(sp:Int),o=some (ns,sp)->eX rs.length 100 ns/\1<=sp/\sp<=20:=λi o e ns sp e'=>row.ok i ns sp (by rw[e,e']);have lr:=aM.len;refine zK (K:=K) (b1:=false) (b2:=false) (xs:=xs) (ys:=xs.drop 1) (ds:=((List.range (os.length-1)).map (λi=>ownF j rate os (i+1))).map cB) _ Z (hi.go n1.same) (aQ.of et) n2 (by rw[xh];simp;lia) (by simp;lia) (sX _) ?_ ?_
   ·intro i x y d H3 Q' ex ey ed s3 hq
    have fD:=n1.same.trans s3;rw[List.getElem?_drop]at ey;obtain⟨d1,e1,r1⟩:=gh.get' i ex;obtain⟨d2,e2,r2⟩:=gh.get' (1+i) ey;obtain⟨o1,wa,i1⟩:=row.get e1;obtain⟨o2,qR,i2⟩:=row.get e2;have ZZ:1+i<os.length:=(eY.mp qR).1;have jt:d=cB (betR j rate o1 o2):=by rw[cY,cY,cI (by simp;lia),xi]at ed;have:=(dW ed).symm;rw[this];show cB (betR j rate (atO os i) (atO os (i+1)))=_;rw[_O.tX wa,_O.tX (show os[i+1]? =some o2 by rw[Nat.add_comm];exact qR)]
    subst jt;refine⟨_,Z,_,Z,_,Z,_,Z,m,x,y,rate,rs,r,f,j,t,d1,d2,o1,o2,rs.length,Z,RD.mono fD _ rm,aM.j1.1,aM.j1.2,RD.mono fD _ r1,RD.mono fD _ r2,i1,i2,vc _ _ wa,vc _ _ qR,aw,dy,dM,λv H4 rv s4=>?_⟩;exact hq _ _ s4 rv.rd
   ·intro H3 zs s3 d3 r3
    have lz:=r3.length;simp at lz;refine⟨bC Z,λl1 H4 n4=>?_⟩;refine⟨_,Z,l1,D,_,zs,Z,Z,aK.of n4.at',aK.of (n4.same _ _ d3),uM _ (by simp;lia),λl2 H5 n5=>?_⟩;refine⟨bC Z,λl3 H6 n6=>?_⟩;refine⟨l2,l3,_,_,Z,Z,aK.of (n6.same _ _ n5.at'),aK.of n6.at',uM _ (by simp;lia),λl H7 n7=>?_⟩;have uQ:aA H H6:=n1.same.trans (s3.trans (n4.same.trans (n5.same.trans n6.same)));have nl:H l=none:=by cases e:H l with |none=>rfl |some o=>have:=uQ _ _ e;rw[n7.no]at this;cases this
    refine k l _ H7 nl n7.at' ?_ (uQ.trans n7.same);rw[_O.KW j rate dI,lA,lA];exact((bJ (rN H7) bW).append (aI.mono (n4.same.trans (n5.same.trans (n6.same.trans n7.same))) _ r3)).append (bJ (rN H7) bW)
inductive a5Q(K:aa)(vs:List V)(H:Hp)(Q:VK):Prop |mk (v:_)(r:_)(z:_)(h0:vs=[v,.int z])(h1:bM K H v r)(h2:Bd 2000 r)(h3:z.natAbs<2^24)(h4:∀v H',bM K H' v (r+(z:Rat))->aA H H'->Q v H')
def xU(K:aa):Sp:=λvs H Q _=>a5Q K vs H Q
abbrev BB:Stmt:=top 44
theorem Jr:bj ["one","more"] ["one","more"] (aP BB):=bw aO
theorem Vr(F:FA K mg "plus_whole" BB)(B:bE mg)(Zk:aG P w K mg au "plus" 3 (pY (·+·) K)):aG P w K mg au "plus_whole" 4 (xU K):=by
 refine F.has Jr (λvs H Q E h=>?_) (λ_ _ _ _ _ _=>cH λ_ _=>rfl) (λf aE A outer s H vs Q E hr h=>?_)
 ·obtain⟨v,r,z,rfl,_⟩:=h
  rfl
 ·obtain⟨v,r,z,rfl,rv,br,hz,k⟩:=h
  have nd:=Jr.nd;refine⟨_,(aH (aZ (pf Zk hr (ao (pv 0) (ao (dh (ao (pv 1) (ao aF ay))) ay))))),?_⟩;refine⟨_,Z,_,Z,bC Z,λt H1 n1=>?_⟩;have bz:Bd 24 (z:Rat):=⟨hz,by show 1<2^24;decide⟩;exact⟨v,.ref t,r,(z:Rat),Z,rv.go n1.same,⟨t,Z,aQ.of n1.at'⟩,br,bz.mono az,λv' H' r' s'=>k v' H' r' (n1.same.trans s')⟩
theorem M6{os:List Itm}{i:Nat}{ns:List Int}{sp:Int}(h:os[i]? =some (some (ns,sp))):leadF os i=some (aJ ns):=by unfold leadF;rw[_O.tX h];rfl
theorem Yl{os:List Itm}{i:Nat}(h:os[i]? =some none):leadF os i=none:=by unfold leadF;rw[_O.tX h];rfl
theorem Ym{os:List Itm}(h:OkIs os){i m:Nat}(e:leadF os i=some m):m<=100:=by unfold leadF at e;cases ho:atO os i with |none=>rw[ho]at e;cases e |some q=>rw[ho]at e;cases e;obtain⟨a,_,_⟩:=h i q.1 q.2 ho;exact nc λz hz=>by have:=a z hz;lia
theorem Qg{r:Int}{m:Nat}(h1:1<=r)(h2:r<=50)(h3:m<=100):(2*r*(m:Int)).natAbs<2^24:=by
 have gW:(2:Nat)^24=16777216:=by decide
 have:=lS (a:=2*r) (b:=(m:Int)) (m:=100) (n:=100) aw aw;rw[gW];lia
abbrev C5:Stmt:=top 69
theorem JU:bj ["machine","items","squares","fall","kept","i"] ["machine","items","squares"] (aP C5):=bw aO
theorem Xj{x y z q:Rat}(h:q=x\/q=y\/q=z)(h1:q<=x)(h2:q<=y)(h3:q<=z):mn (mn x y) z=q:=by
 refine Gz ?_ (lV (lV h1 h2) h3);rcases h with h|h|h
 ·rw[h];exact fi (fY _ _) (fY _ _)
 ·rw[h];exact fi (fY _ _) (kF _ _)
 ·rw[h];exact kF _ _
theorem vq{n:Nat}{ns:List Int}(h:eX n 100 ns):aJ ns<=100:=by have:=h.lead;lia
open _W
def eg(pl:List Int):ah:=.tuple (pl.map PyData.int)
theorem ky(pl:List Int):dP (eg pl)=true:=by rw[eg,dP];exact mY pl
theorem yk{H:Hp}{v:V}{pl:List Int}(h:RD K H v (eg pl)):∃a,v= .ref a/\aQ K H a (pl.map V.int):=by obtain⟨a,xs,rfl,h1,h2⟩:=h.d6;rw[h2.ja]at h1;exact⟨a,Z,h1⟩
theorem KG{H:Hp}{a:Addr}{pl:List Int}(h:aQ K H a (pl.map V.int)):RD K H (.ref a) (eg pl):=eF h (oz pl)
def fu(pl:List Int):Itm->List Int |none=>pl |some (ns,_)=>jw pl ns
inductive a5P(K:aa)(vs:List V)(H:Hp)(Q:VK):Prop |mk (p:_)(m:_)(rs:_)(r:_)(f:_)(j:_)(t:_)(h0:vs=[.ref p,m])(h1:iB H p)(h2:RD K H m (gR rs r f j t))(h3:lg rs r f j t)(h4:∀v pl H',RD K H' v (eg pl)->jV rs pl->cg p H H'->Q v H')
def Il(K:aa):Sp:=λvs H Q _=>a5P K vs H Q
abbrev BA:Stmt:=top 125
theorem Jq:bj ["_law_bag_here","_law_machine_here"] ["_law_bag_here","_law_machine_here"] (aP BA):=bw aO
theorem Vt(F:FA K mg "_law_place" BA)(B:bE mg)(kR:aG P w K mg au "_law_take" 1 sx):aG P w K mg au "_law_place" 2 (Il K):=by
 refine F.has Jq (λvs H Q E h=>?_) (λ_ _ _ _ _ _=>cH λ_ _=>rfl) (λf aE A outer s H vs Q E hr h=>?_)
 ·obtain⟨p,m,rs,r,f,j,t,rfl,_⟩:=h
  rfl
 ·obtain⟨p,m,rs,r,f,j,t,rfl,bg,rm,Ld,k⟩:=h
  have nd:=Jq.nd;refine⟨_,(aH (aZ (jH (x:="tuple") (mK K Z) Z (B.at "tuple") jz (ao (gP (N:=["_law_rail","_law_bag_here"]) (js:=[none,some 0]) rfl rfl rfl (mU K rfl (px K (pv 1) aF)) (λ_ _ _ _ _=>(bu 0 (fX az))) (λ_ _ _ _ _=>gb) (λ_ _ _ _ _=>(pf kR hr (ao (pv 1) (ao (aW fM (pv 0) aF) ay))))) ay)))),?_⟩;obtain⟨ma,mb,rfl,jq,m5⟩:=qE rm;have lr:=Ld.len;refine⟨_,Z,.inr ⟨ma,_,0,.ref mb,Z,Z,jq,eK (gL 0) Z,mb,Z,⟨_,m5⟩,λD H1 n1=>?_⟩⟩;refine a41 (K:=K) (J:=pM K mb) (p:=p) (H:=H) rs.length _ n1 bg aw (λi=>.int (rs.getD i 0)) (λi H2 hi b2=>?_) (λH2 b2=>?_) (λi d=>∃z r,d= .int z/\rs[i]? =some r/\0<=z/\z<=r) ?_ ?_
  ·have Mz:=m5.t (cg.t bg b2)
   have e:(rs.map V.int)[i]? =some (.int (rs.getD i 0)):=by rw[cY,Pw,cI hi];rfl
   exact⟨⟨_,_,Mz,e⟩,λy H3 ⟨e3,y3⟩=>⟨e3,by have:=y3 _ Mz;rw[e]at this;exact(dW this).symm⟩⟩
  ·exact⟨_,m5.t (cg.t bg b2),by rw[bR];exact bB _⟩
  ·intro i H2 Q' hi b2 hq
   have er:rs[i]? =some (rs.getD i 0):=by rw[Pw,cI hi];rfl
   obtain⟨r0,r1⟩:=Ld.rl _ (iS er);refine⟨_,Z,_,Z,_,_,Z,Z,p,_,Z,b2.eJ,aw,aw,λz H3 z0 z1 b3=>?_⟩;exact hq _ _ _ ⟨z,_,Z,er,z0,aw⟩ Z (cQ z) b3
  ·intro H2 ys ds b2 d2 r2 l2 nl pd
   have kN:∃pl:List Int,ds=pl.map PyData.int/\jV rs pl:=by
    have key:∀(ds:List ah),(∀d∈ds,∃z:Int,d= .int z)->∃pl:List Int,ds=pl.map PyData.int:=by intro ds;induction ds with |nil=>exact λ_=>⟨[],Z⟩ |cons d ds ih=>intro h;obtain⟨z,rfl⟩:=h d (.head _);obtain⟨pl,rfl⟩:=ih λx hx=>h x (.tail _ hx);exact⟨z::pl,Z⟩
    obtain⟨pl,rfl⟩:=key ds λd hd=>by obtain⟨i,hi⟩:=xf.mp hd;obtain⟨z,_,e,_⟩:=pd i d hi;exact⟨z,e⟩
    refine⟨pl,Z,by simpa using l2,λi x r e1 e2=>?_⟩;obtain⟨z,r',e,er,h0,h1⟩:=pd i (.int x) (by rw[cY,e1];rfl);cases e;rw[e2]at er;cases er;exact⟨h0,h1⟩
   obtain⟨pl,rfl,on⟩:=kN;refine⟨D,_,Z,.inl ⟨aK.of d2,λt H3 n3=>?_⟩⟩;have et:=n3.at';rw[r2.ja]at et;exact k (.ref t) pl H3 (KG (aQ.of et)) on (b2.trans (.kD b2.eJ n3.same))
def OO(z:Str):Prop:=∀c∈z.cps.toList,c<0x110000
theorem UQ{n:Nat}{z:Str}(h:cD n (.str z)):OO z:=λc hc=>by have q:PyData.strOk z=true:=h.lay;unfold PyData.strOk at q;rw[a7r]at q;exact mE (q c (by simpa using hc))
theorem UR{z:Str}(h:z.cps.all (·<0x110000)=true):OO z:=UQ (n:=0) ⟨h,fw _⟩
def XW(c:Nat):Bool:=decide (97<=c)&&decide (c<=122)
def Dz(s:Str):Bool:=(decide (1<=s.length)&&decide (s.length<=8))&&s.cps.toList.all XW
def Uz(w s:Str):Prop:=(w="tool"/\(s="up"\/s="down"))\/(w="mark"/\Dz s=true)
def r9(d:ah):Prop:=(∃n,d= .tuple [.str "wait",.int n]/\1<=n/\n<=1000)\/∃w s,d= .tuple [.str w,.str s]/\(w="tool"\/w="mark")/\cD 0 (.str s)/\Uz w s
theorem r9.it{d:ah}(h:r9 d):itR d none:=by
 rcases h with⟨n,rfl,_⟩|⟨w,s,rfl,hw|hw,_⟩
 ·exact .inr ⟨_,_,Z,.inl Z,Z,Z⟩
 ·exact .inr ⟨_,_,Z,.inr (.inl hw),Z,Z⟩
 ·exact .inr ⟨_,_,Z,.inr (.inr hw),Z,Z⟩
def RowW(ds:List ah)(os:List Itm):Prop:=∀(i:Nat)(d:ah),os[i]? =some none->ds[i]? =some d->r9 d
theorem RowW.snoc{ds:List ah}{os:List Itm}{d:ah}{o:Itm}(h:RowW ds os)(hl:ds.length=os.length)(hd:o=none->r9 d):RowW (ds++[d]) (os++[o]):=by
 intro i x e1 e2;rcases pZ e1 with h1|⟨h1,h1'⟩
 ·rcases pZ e2 with h2|⟨h2,_⟩
  ·exact h i x h1 h2
  ·have:=(eY.mp h1).1;lia
 ·rcases pZ e2 with h2|⟨_,zo⟩
  ·have:=(eY.mp h2).1;lia
  ·subst zo;exact hd h1'.symm
theorem Q3{j:Int}(h:j.natAbs<2^64):Wd j:=Nat.lt_trans h aO
inductive a5Y(vs:List V)(H:Hp)(Q:VK):Prop |mk (p:Int)(q:Int)(h0:vs=[.int p,.int q])(h1:0<q)(h2:q<=10^6)(h3:p.natAbs<=10^9)(h4:Q (.int (qA p q)) H)
def AO:Sp:=λvs H Q _=>a5Y vs H Q
abbrev BH:Stmt:=top 56
theorem Jx:bj ["p","q","size"] ["p","q"] (aP BH):=bw aO
theorem VC(F:FA K mg "nearest" BH)(B:bE mg):aG P w K mg au "nearest" 1 AO:=by
 refine F.has Jx (λvs H Q E h=>?_) (λ_ _ _ _ _ _=>cH λ_ _=>rfl) (λf aE A outer s H vs Q E hr h=>?_)
 ·obtain⟨p,q,rfl,_⟩:=h
  rfl
 ·obtain⟨p,q,rfl,q0,q1,p1,k⟩:=h
  have nd:=Jx.nd;refine⟨_,(aD (pS 2 nd (aW uZ (aW fM (aW cu aF (dF (x:="abs") tW Z (B.at "abs") wX (ao (pv 0) ay))) (pv 1)) (aW cu aF (pv 1)))) (aH (aZ (gc (bT Dh (pv 0) aF (bL _)) (pv 2) (mV mJ (pv 2)))))),?_⟩;refine⟨_,Z,p,Z,_,_,Z,Z,.of_left (dU az az),_,Z,_,_,Z,Z,_,Z,_,_,Z,Z,.of_left (dU az az),_,_,Z,Z,⟨aw,Q3 aw⟩,?_⟩;have e:(2*(if p<0 then-p else p)+q)/(2*q)=y4 p q:=by unfold y4;rw[<-Ga];rfl
  refine⟨_,Z,_,_,Z,Z,_,Z,?_⟩;unfold qA at k;rw[<-e]at k;refine fZ (λhc=>?_) (λhc=>?_)
  ·have hp:p>=0:=mE hc
   rw[bo hp]at k;exact⟨_,Z,k⟩
  ·have hp:¬p>=0:=λz=>hc (cn z)
   rw[bh hp]at k;exact⟨_,Z,_,Z,k⟩
def HL(ns:List Int)(k:Int):ah:=.tuple ((ns.map λz=>qA (k*z) (aJ ns)).map PyData.int)
theorem TV{k z:Int}(h:k.natAbs<=10^6)(g:(z.natAbs:Int)<=1000):(k*z).natAbs<=10^9:=by rw[iV];exact fz (rO h (show z.natAbs<=1000 by lia)) az
inductive a5v(K:aa)(vs:List V)(H:Hp)(Q:VK):Prop |mk (v:_)(ns:_)(sp:_)(k:_)(h0:vs=[v,.int k])(h1:RD K H v (gE ns sp))(h2:eX ns.length 1000 ns)(h3:ns.length<=1000)(h4:k.natAbs<=10^6)(h5:∀v' H',RD K H' v' (HL ns k)->aA H H'->Q v' H')
def xR(K:aa):Sp:=λvs H Q _=>a5v K vs H Q
abbrev Bc:Stmt:=top 54
theorem Ja:bj ["line","k","lead"] ["line","k"] (aP Bc):=bw aO
theorem V6(F:FA K mg "stand_at" Bc)(B:bE mg)(kL:aG P w K mg au "lead_of" 1 (oq K))(Zz:aG P w K mg au "nearest" 1 AO):aG P w K mg au "stand_at" 2 (xR K):=by
 refine F.has Ja (λvs H Q E h=>?_) (λ_ _ _ _ _ _=>cH λ_ _=>rfl) (λf aE A outer s H vs Q E hr h=>?_)
 ·obtain⟨v,ns,sp,k,rfl,_⟩:=h
  rfl
 ·obtain⟨v,ns,sp,kk,rfl,rd,ok,hz,hk,k⟩:=h
  have nd:=Ja.nd;refine⟨_,(aD (pS 2 nd (pf kL hr (ao (pv 0) ay))) (aH (aZ (jH (x:="tuple") (mK K Z) Z (B.at "tuple") jz (ao (gP (N:=["step","lead","k"]) (js:=[none,some 2,some 1]) rfl rfl rfl (mU K rfl (px K (pv 0) aF)) (λ_ _ _ _ _=>(bu 0 (show List.Nodup (["step","lead","k"]:List Str) by decide+kernel))) (λ_ _ _ _ _=>gb) (λ_ _ _ _ _=>(pf Zz hr (ao (aW cu (pv 2) (pv 0)) (ao (pv 1) ay))))) ay))))),?_⟩;refine⟨_,Z,v,ns,sp,Z,rd,ok.ne,hz,λH1 s1=>?_⟩;obtain⟨a,b,rfl,ha,hb⟩:=tm (RD.mono s1 _ rd);obtain⟨lp,lm⟩:=ok.lead;refine⟨_,Z,.inr ⟨a,_,1,.ref b,Z,Z,ha,Z,b,Z,⟨_,hb⟩,λD H0 nw=>?_⟩⟩;refine FJ (K:=K) (xs:=ns.map V.int) (ds:=(ns.map λz=>qA (kk*z) (aJ ns)).map PyData.int) _ hb nw (by simp) (by simpa using hz) (mY _) ?_ ?_
  ·intro i x d H2 Q' ex ed s2 hq
   rw[List.map_map]at ed;obtain⟨n,en,rfl⟩:=qD ed;cases DH ex en;refine⟨_,Z,_,Z,_,_,Z,Z,.of_left (dU aw aw),_,Z,_,_,Z,aw,aw,TV hk (ok.bd n (iS en)),?_⟩;exact hq _ _ (aA.refl _) (cQ _)
  ·intro H' ys s2 d2 r2
   refine⟨D,_,Z,.inl ⟨aK.of d2,λt H4 n4=>?_⟩⟩;exact k _ _ (eF (aQ.of n4.at') (aI.mono n4.same _ r2)) (s1.trans (s2.trans n4.same))
def ki(ns:List Int)(j:Nat):List Int:=ns.map λz=>qA (((j:Int)+1)*z) (aJ ns)-qA ((j:Int)*z) (aJ ns)
def kh(ns:List Int):List ah:=(List.range (aJ ns)).map λj=>.tuple ((ki ns j).map PyData.int)
theorem CF(zs:List Int):dP (.tuple (zs.map PyData.int))=true:=by rw[dP];exact mY zs
theorem CB(ns:List Int):bX (kh ns)=true:=eO.mpr λd hd=>by obtain⟨j,_,rfl⟩:=gu.mp hd;exact CF _
theorem Kg{ns:List Int}{i:Nat}(h:i<aJ ns):(kh ns)[i]? =some (.tuple ((ki ns i).map PyData.int)):=by unfold kh;rw[cY,cI (by simpa using h),xi];rfl
theorem CD(ns:List Int):(kh ns).length=aJ ns:=by simp[kh]
inductive a5A(K:aa)(vs:List V)(H:Hp)(Q:VK):Prop |mk (v:_)(ns:_)(sp:_)(h0:vs=[v])(h1:RD K H v (gE ns sp))(h2:eX ns.length 1000 ns)(h3:ns.length<=1000)(h4:∀l ys H',H l=none->H' l=some (.lst ys)->aI K H' ys (kh ns)->aA H H'->Q (.ref l) H')
def xS(K:aa):Sp:=λvs H Q _=>a5A K vs H Q
abbrev Bg:Stmt:=top 55
theorem Jd:bj ["line","rows","before","k","behind"] ["line"] (aP Bg):=bw aO
theorem Vd(F:FA K mg "step_rows" Bg)(B:bE mg)(kL:aG P w K mg au "lead_of" 1 (oq K))(yY:aG P w K mg au "stand_at" 2 (xR K)):aG P w K mg au "step_rows" 3 (xS K):=by
 refine F.has Jd (λvs H Q E h=>?_) (λ_ _ _ _ _ _=>fE λ_=>rfl) (λf aE A outer s H vs Q E hr h=>?_)
 ·obtain⟨v,ns,sp,rfl,_⟩:=h
  rfl
 ·obtain⟨v,ns,sp,rfl,rd,ok,hz,k⟩:=h
  have nd:=Jd.nd;obtain⟨lp,lm⟩:=ok.lead;refine⟨_,(aD (pS 1 nd (dE ay)) (aD (pS 2 nd (pf yY hr (ao (pv 0) (ao aF ay)))) (aD (j7 iQ Z (U7 Z (B.at "range") (ao aF (ao (aW fM (pf kL hr (ao (pv 0) ay)) aF) ay))) (bu 3 nd) (aD (pS 4 nd (pf yY hr (ao (pv 0) (ao (pv 3) ay)))) (aD (gD (oE K Z (pv 1) (ao (jH (x:="tuple") (mK K Z) Z (B.at "tuple") jz (ao (gP (N:=["new","old"]) (js:=[none,none]) rfl rfl rfl (sO K rfl false false rfl (B.at "zip") (ao (pv 4) (ao (pv 2) ay))) (λ_ _ _ _ _=>(fb K rfl (n:=2) rfl (bU (bu 0 (fX az)) (bU (bu 1 (fX az)) eZ)))) (λ_ _ _ _ _=>gb) (λ_ _ _ _ _=>(aW j8 (pv 0) (pv 1)))) ay)) ay))) (aH (pS 2 nd (pv 4)))))) (aH (aZ (pv 1)))))),?_⟩;refine⟨bC Z,λl H1 n1=>?_⟩;refine⟨_,Z,v,ns,sp,0,Z,RD.mono n1.same _ rd,ok,hz,az,λu H2 ru s2=>?_⟩;have t2:=n1.same.trans s2;refine⟨_,Z,v,ns,sp,Z,RD.mono t2 _ rd,ok.ne,hz,λH3 s3=>?_⟩;refine⟨_,_,Z,Z,_,_,Z,⟨aw,aw,aw,aw⟩,?_⟩;have t3:=t2.trans s3;have e3:((aJ ns:Int)+1-1).toNat=aJ ns:=by lia
  refine vV (Pv:=λi O H4=>aA H H4/\(∃ys,H4 l=some (.lst ys)/\aI K H4 ys ((kh ns).take i))/\∃b v1 v2,RD K H4 b (HL ns i)/\O=[some v,some (.ref l),some b,v1,v2]) ?_ ?_ ?_
  ·exact⟨t3,⟨[],s3 _ _ (s2 _ _ n1.at'),bW⟩,u,none,none,RD.mono s3 _ ru,Z⟩
  ·rintro i O H4 hi ⟨t4,⟨ys,dl,ry⟩,b,v1,v2,rb,rfl⟩
   have Eo:i<aJ ns:=by lia
   refine⟨_,Z,_,Z,v,ns,sp,_,Z,RD.mono t4 _ rd,ok,hz,aw,λb2 H5 CO s5=>?_⟩;refine⟨_,Z,.inl ⟨Z,_,aK.of (s5 _ _ dl)⟩,?_⟩;obtain⟨a1,xs1,rfl,h1,q1⟩:=CO.d6;have e1:=q1.ja;subst e1;obtain⟨a0,xs0,rfl,h0,q0⟩:=(RD.mono s5 _ rb).d6;have e0:=q0.ja;subst e0;refine⟨_,Z,_,Z,a1,a0,Z,⟨_,h1⟩,⟨_,h0⟩,λD H6 nw=>?_⟩;refine zK (K:=K) (b1:=false) (b2:=false) (ds:=(ki ns i).map PyData.int) [] rfl h1 h0 nw (by simp[ki]) (by simpa[ki]using hz) (mY _) ?_ ?_
   ·intro j x y d H7 Q' ex ey ed s7 hq
    obtain⟨m,em,rfl⟩:=qD ed;unfold ki at em;rw[cY]at em ex ey;rw[cY]at ex ey;cases en:ns[j]? with |none=>rw[en]at em;cases em |some n=>
     rw[en]at em ex ey;cases em;cases ex;cases ey;refine⟨_,Z,_,Z,_,_,Z,Z,?_⟩;have ee:(1:Int)+(i:Int)=(i:Int)+1:=by lia
     rw[ee];exact hq _ _ (aA.refl _) (cQ _)
   ·intro H7 zs s7 d7 r7
    refine⟨D,_,Z,.inl ⟨aK.of d7,λt H8 n8=>?_⟩⟩;have qc:=s5.trans (s7.trans n8.same);have wg:=qc _ _ dl;have len:=ry.length;rw[rP,CD]at len;refine⟨l,ys,_,Z,Z,wg,?_,?_⟩
    ·have:(1000:Nat)<sizeLine:=by decide
     lia
    refine⟨_,Z,?_⟩;have tt:g9 H8 (_L.upd H8 l (.lst (ys++[.ref t]))):=.lG wg;refine⟨λb o e=>?_,⟨_,bp,?_⟩,_,_,_,?_,Z⟩
    ·rw[aL (eH e n1.no)];exact qc b o (t4 b o e)
    ·rw[uo,Kg Eo]
     have nt:bX ((kh ns).take i)=true:=eO.mpr λd hd=>eO.mp (CB ns) d (x9 hd);exact(aI.t tt _ nt (aI.mono qc _ ry)).append (bJ (RD.t tt _ (CF _) (eF (aQ.of n8.at') (aI.mono n8.same _ r7))) bW)
    ·have ee:(1:Int)+(i:Int)=((i+1:Nat):Int):=by lia
     rw[ee]at CO;exact RD.t tt _ (CF _) (RD.mono (s7.trans n8.same) _ CO)
  ·rintro O H4 ⟨t4,⟨ys,dl,ry⟩,b,v1,v2,rb,rfl⟩
   rw[e3,Af (by rw[CD];exact bB _)]at ry;exact⟨_,Z,k l ys H4 n1.no dl ry t4⟩
def je(ti:Int)(q:Rat)(t:Int):Bool:=decide (ti*ti*(q.den:Int)<=t*t*q.num)
inductive a6k(K:aa)(vs:List V)(H:Hp)(Q:VK):Prop |mk (m:_)(sq:_)(t:_)(rs:_)(r:_)(f:_)(j:_)(ti:_)(q:_)(h0:vs=[m,sq,.int t])(h1:RD K H m (gR rs r f j ti))(h2:bM K H sq q)(h3:Bd 2000 q)(h4:1<=ti)(h5:ti<=100)(h6:0<=t)(h7:t.natAbs<2^2400)(h8:Q (.bl (je ti q t)) H)
def ID(K:aa):Sp:=λvs H Q _=>a6k K vs H Q
abbrev C9:Stmt:=top 72
theorem JY:bj ["machine","square","t","p","q","ticks"] ["machine","square","t"] (aP C9):=bw aO
theorem W6(F:FA K mg "are_enough" C9)(B:bE mg):aG P w K mg au "are_enough" 1 (ID K):=by
 refine F.has JY (λvs H Q E h=>?_) (λ_ _ _ _ _ _=>iM λ_ _ _=>rfl) (λf aE A outer s H vs Q E hr h=>?_)
 ·obtain⟨m,sq,t,rs,r,f,j,ti,q,rfl,_⟩:=h
  rfl
 ·obtain⟨m,sq,t,rs,r,f,j,ti,q,rfl,rm,⟨p,rfl,hp⟩,bq,t1,t2,t0,tw,k⟩:=h
  have nd:=JY.nd;refine⟨_,(aD (fW (pv 1) (fb K Z (n:=2) Z (bU (bu 3 nd) (bU (bu 4 nd) eZ)))) (aD (pS 5 nd (px K (pv 0) aF)) (aH (aZ (jG Dh (aW cu (aW cu (pv 2) (pv 2)) (pv 3)) (aW cu (aW cu (pv 5) (pv 5)) (pv 4)) (bL _)))))),?_⟩;obtain⟨a,b,rfl,ha,hb⟩:=qE rm;have wt:Wd t:=jC tw az;have PY:Wd (t*t):=jC (n:=4800) (by rw[iV];exact oM (n:=2400) (m:=2400) tw tw) az;have m1:(ti*ti).natAbs<=100*100:=by rw[iV];exact rO bN bN
  refine⟨_,Z,_,_,Z,hp,Z,_,_,Z,_,_,Z,Z,?_⟩;refine⟨_,Z,.inr ⟨a,_,4,.int ti,Z,Z,ha,Z,?_⟩⟩;refine⟨_,Z,_,Z,_,_,Z,Z,lC wt.bits wt.bits,_,Z,_,_,Z,Z,lC PY.bits bq.wn.bits,?_⟩;refine⟨_,Z,_,Z,_,_,Z,Z,.of_left (dU bN bN),_,Z,_,_,Z,Z,.of_left (dU bN bN),?_⟩;exact⟨_,_,Z,Z,k⟩
theorem a3x{ti t:Int}{q:Rat}(hq:0<q.num)(h0:0<=t)(h:ti*ti*(q.den:Int)<=t):je ti q t=true:=by
 refine cn (Int.le_trans h ?_);by_cases ht:t=0
 ·subst ht;simp
 ·have e1:t*1<=t*t:=a7q aw h0
  have e2:t*t*1<=t*t*q.num:=a7q aw (lF h0 h0)
  lia
theorem a3v{ti:Int}{q:Rat}(h1:1<=ti):je ti q 0=false:=by
 refine df λh=>?_;have:=jA (jA (show 0<ti by lia) (show 0<ti by lia)) (den_pos q);simp only[Int.zero_mul]at h
 lia
inductive a5s(K:aa)(vs:List V)(H:Hp)(Q:VK):Prop |mk (m:_)(sq:_)(rs:_)(r:_)(f:_)(j:_)(ti:_)(q:_)(h0:vs=[m,sq])(h1:RD K H m (gR rs r f j ti))(h2:bM K H sq q)(h3:Bd 2000 q)(h4:1<=ti)(h5:ti<=100)(h6:0<q.num)(h7:∀T,1<=T->T.natAbs<2^2400->je ti q T=true->je ti q (T-1)=false->Q (.int T) H)
def HX(K:aa):Sp:=λvs H Q _=>a5s K vs H Q
abbrev Ba:Stmt:=top 71
theorem J8:bj ["machine","square","enough","too_few","between"] ["machine","square"] (aP Ba):=bw aO
theorem V4(F:FA K mg "ticks_of" Ba)(B:bE mg)(MO:aG P w K mg au "are_enough" 1 (ID K)):aG P w K mg au "ticks_of" 2 (HX K):=by
 refine F.has J8 (λvs H Q E h=>?_) (λ_ _ _ _ _ _=>cH λ_ _=>rfl) (λf aE A outer s H vs Q E hr h=>?_)
 ·obtain⟨m,sq,rs,r,f,j,ti,q,rfl,_⟩:=h
  rfl
 ·obtain⟨m,sq,rs,r,f,j,ti,q,rfl,rm,rq,bq,t1,t2,hq,k⟩:=h
  have nd:=J8.nd;refine⟨_,(aD (pS 2 nd aF) (aD (sN iQ (cE (bS (pf MO hr (ao (pv 0) (ao (pv 1) (ao (pv 2) ay)))))) (aH (pS 2 nd (aW cu aF (pv 2))))) (aD (pS 3 nd (aW uZ (pv 2) aF)) (aD (sN iQ (bT Dg (aW j8 (pv 2) (pv 3)) aF (bL _)) (aD (pS 4 nd (aW uZ (aW fM (pv 3) (pv 2)) aF)) (aH (bD (bS (pf MO hr (ao (pv 0) (ao (pv 1) (ao (pv 4) ay))))) (aH (pS 2 nd (pv 4))) (aH (pS 3 nd (pv 4))))))) (aH (aZ (pv 2))))))),?_⟩;have lim:(ti*ti*(q.den:Int)).natAbs<2^2399:=by
   have m1:(ti*ti).natAbs<=100*100:=by rw[iV];exact rO aw aw
   have hd:=bq.den;rw[iV];have:(q.den:Int).natAbs=q.den:=rfl;rw[this];have:=oM (n:=14) (m:=2000) (a:=(ti*ti).natAbs) (b:=q.den) (GJ m1 az) hd;exact fK this (wZ az az)
  have p0:0<ti*ti*(q.den:Int):=jA (jA aw aw) (den_pos q);have e2:(2:Nat)^2400=2^2399*2:=Nat.pow_succ 2 2399;generalize hL:ti*ti*(q.den:Int)=L at lim p0;refine rS (λO H2=>H2=H/\∃(x:Int),O=[some m,some sq,some (.int x),none,none]/\1<=x/\x<=2*L/\je ti q (x/2)=false) (λO _=>match O with|[_,_,some (.int x),_,_]=>(L-x).toNat|_=>0) ?_ ?_ ?_
  ·exact⟨Z,1,Z,aw,aw,a3v t1⟩
  ·rintro O H2 ⟨rfl,x,rfl,x1,xL,hx⟩
   have xw:x.natAbs<2^2400:=by lia
   refine⟨_,Z,_,Z,_,Z,m,sq,x,rs,r,f,j,ti,q,Z,rm,rq,bq,t1,t2,aw,xw,_,Z,?_⟩;cases zi:je ti q x with
   |false=>
    have cm:x<L:=by
     by_cases cm:x<L
     ·exact cm
     ·rw[a3x hq aw aw]at zi;cases zi
    refine fZ (λhc=>?_) (λhc=>(hc Z).elim);refine⟨_,Z,_,_,Z,Z,.of_left (dU az az),?_⟩;refine⟨⟨Z,_,Z,aw,aw,?_⟩,?_⟩
    ·have:2*x/2=x:=by lia
     rw[this];exact zi
    ·show(L-2*x).toNat<(L-x).toNat
     lia |true=>
    refine fZ (λhc=>nomatch hc) (λhc=>?_);refine⟨_,Z,_,_,Z,Z,⟨az,jC (n:=2) az az⟩,?_⟩;refine rS (λO H3=>H3=H2/\∃(lo hi:Int)(v:Option V),O=[some m,some sq,some (.int hi),some (.int lo),v]/\0<=lo/\lo<hi/\hi<=2*L/\je ti q lo=false/\je ti q hi=true) (λO _=>match O with|[_,_,some (.int x),some (.int y),_]=>(x-y).toNat|_=>0) ?_ ?_ ?_
    ·exact⟨Z,x/2,x,none,Z,aw,aw,xL,hx,zi⟩
    ·rintro O H3 ⟨rfl,lo,hi,v,rfl,l0,lh,EF,NA,NB⟩
     refine⟨_,Z,_,Z,_,_,Z,Z,_,_,Z,Z,_,Z,?_⟩;refine fZ (λhc=>?_) (λhc=>?_)
     ·have hgt:hi-lo>1:=mE hc
      refine⟨_,Z,_,Z,_,_,Z,Z,_,_,Z,Z,⟨az,jC (n:=2) az az⟩,?_⟩;have mw:((lo+hi)/2).natAbs<2^2400:=by lia
      refine⟨_,Z,_,Z,_,Z,m,sq,(lo+hi)/2,rs,r,f,j,ti,q,Z,rm,rq,bq,t1,t2,aw,mw,_,Z,?_⟩;cases hm:je ti q ((lo+hi)/2)with
      |true=>
       refine ba ?_;refine⟨_,Z,⟨Z,lo,_,_,Z,l0,aw,aw,NA,hm⟩,?_⟩;show((lo+hi)/2-lo).toNat<(hi-lo).toNat
       lia |false=>
       refine aV ?_;refine⟨_,Z,⟨Z,_,hi,_,Z,aw,aw,EF,hm,NB⟩,?_⟩;show(hi-(lo+hi)/2).toNat<(hi-lo).toNat
       lia
     ·have hle:¬hi-lo>1:=λz=>hc (cn z)
      have e:lo=hi-1:=by lia
      subst e;exact⟨_,Z,k hi aw aw NB NA⟩
    ·rintro O H2 Q1 Q2 hq ⟨v1,e1,v2,e2,i,j,e3,e4,i2,j2,e5,e6,kk,e7,q⟩
     exact⟨v1,e1,v2,e2,i,j,e3,e4,i2,j2,e5,e6,kk,e7,hq _ _ q⟩
  ·rintro O H2 Q1 Q2 hq ⟨v1,e1,v2,e2,v3,e3,m',RL,x',qe,r',f',j',QB,q',e4,h1,h2,h3,h4,h5,h6,h7,b,eb,q⟩
   exact⟨v1,e1,v2,e2,v3,e3,m',RL,x',qe,r',f',j',QB,q',e4,h1,h2,h3,h4,h5,h6,h7,b,eb,hq _ _ q⟩
def wA(ti:Int)(q:Rat)(T:Int):Prop:=1<=T/\je ti q T=true/\je ti q (T-1)=false
open Classical in
noncomputable def Ax(ti:Int)(q:Rat):Int:=if h:∃T,wA ti q T then h.choose else 0
theorem Ny{ti:Int}{q:Rat}{s t:Int}(hq:0<=q.num)(h0:0<=s)(h:s<=t)(e:je ti q s=true):je ti q t=true:=by refine cn (Int.le_trans (mE e) ?_);exact Int.mul_le_mul_of_nonneg_right (Al h h h0 aw) hq
theorem QE{ti:Int}{q:Rat}{S T:Int}(hq:0<=q.num)(h1:wA ti q S)(h2:wA ti q T):S=T:=by
 obtain⟨a1,a2,a3⟩:=h1;obtain⟨b1,b2,b3⟩:=h2;by_cases h:S<=T-1
 ·have:=Ny hq aw h a2
  rw[b3]at this;cases this
 ·by_cases h':T<=S-1
  ·have:=Ny hq aw h' b2
   rw[a3]at this;cases this
  ·lia
theorem QA{ti:Int}{q:Rat}{T:Int}(hq:0<=q.num)(h:wA ti q T):Ax ti q=T:=by have hx:∃T,wA ti q T:=⟨T,h⟩;unfold Ax;rw[dif_pos hx];exact QE hq hx.choose_spec h
theorem Wx{q:Rat}(h:0<q):0<q.num:=by
 have h1:=Rat.num_nonneg.mpr (Rat.le_of_lt h);have h2:q.num≠0:=λe=>by rw[Rat.num_eq_zero.mp e]at h;exact absurd h az
 lia
noncomputable def sf(ti:Int)(zs:List Int)(q:Rat):ah:=.tuple [.str "step",.tuple (zs.map PyData.int),.int (Ax ti q),cB q]
theorem HK(ti:Int)(zs:List Int)(q:Rat):dP (sf ti zs q)=true:=by simp[sf,dP,bX,mY,sJ]
inductive a6i(K:aa)(vs:List V)(H:Hp)(Q:VK):Prop |mk (m:_)(rv:_)(sq:_)(rs:_)(r:_)(f:_)(j:_)(ti:_)(zs:_)(q:_)(h0:vs=[m,rv,sq])(h1:RD K H m (gR rs r f j ti))(h2:lg rs r f j ti)(h3:RD K H rv (.tuple (zs.map PyData.int)))(h4:bM K H sq q)(h5:Bd 2000 q)(h6:0<q)(h7:∀v H',RD K H' v (sf ti zs q)->aA H H'->Q v H')
def AR(K:aa):Sp:=λvs H Q _=>a6i K vs H Q
abbrev C7:Stmt:=top 73
theorem JW:bj ["machine","row","square"] ["machine","row","square"] (aP C7):=bw aO
theorem W4(F:FA K mg "step_entry" C7)(B:bE mg)(Z9:aG P w K mg au "ticks_of" 2 (HX K)):aG P w K mg au "step_entry" 3 (AR K):=by
 refine F.has JW (λvs H Q E h=>?_) (λ_ _ _ _ _ _=>iM λ_ _ _=>rfl) (λf aE A outer s H vs Q E hr h=>?_)
 ·obtain⟨m,rv,sq,rs,r,f,j,ti,zs,q,rfl,_⟩:=h
  rfl
 ·obtain⟨m,rv,sq,rs,r,f,j,ti,zs,q,rfl,rm,aM,rr,Rq,bq,q0,k⟩:=h
  have nd:=JW.nd;refine⟨_,(aH (aZ (dh (ao ck (ao (pv 1) (ao (pf Z9 hr (ao (pv 0) (ao (pv 2) ay))) (ao (pv 2) ay))))))),?_⟩;have t1:=aM.t1;have qn:0<q.num:=Wx q0;refine⟨_,Z,_,Z,_,Z,m,sq,rs,r,f,j,ti,q,Z,rm,Rq,bq,t1.1,t1.2,qn,λT T1 _ T2 T3=>?_⟩;refine⟨_,Z,bC Z,λt H1 n1=>k (.ref t) H1 ?_ n1.same⟩;have e:=QA aw ⟨T1,T2,T3⟩;unfold sf;rw[e];exact eF (aQ.of n1.at') (bJ (dN _) (bJ (RD.mono n1.same _ rr) (bJ (cQ _) (bJ (Rq.go n1.same).rd bW))))
theorem Ho{rate sp:Int}(h1:1<=sp)(h2:10<=rate):0<topR rate sp:=by
 have h0:=_O.xJ rate sp;refine Gy h0 λe=>?_;have hp:0<(sp*rate)^2:=by rw[fU,fU,mG,mH];exact jA (jA aw aw) (jA aw aw)
 have h2:0<=Rat.divInt (-((sp*rate)^2)) 10000:=by rw[<-Rat.neg_divInt];show 0<=-(topR rate sp);rw[<-e];decide
 have:=(uh az).mp h2
 lia
inductive a5R(K:aa)(vs:List V)(H:Hp)(Q:VK):Prop |mk (m:_)(iv:_)(rate:_)(rs:_)(r:_)(f:_)(j:_)(t:_)(ds:_)(os:_)(h0:vs=[m,iv,.int rate])(h1:RD K H m (gR rs r f j t))(h2:lg rs r f j t)(h3:RD K H iv (.list ds))(h4:fh rs.length ds os)(h5:ds.length<=100)(h6:10<=rate)(h7:rate<=200)(h8:∀l ys H',H l=none->H' l=some (.lst ys)->aI K H' ys ((ownL j rate os).map cB)->aA H H'->Q (.ref l) H')
def Im(K:aa):Sp:=λvs H Q _=>a5R K vs H Q
theorem Vu(F:FA K mg "own_bounds" yc)(B:bE mg)(gN:GT K mg "NOUGHT" [.int 0,.int 1])(Et:aG P w K mg au "bound_between" 7 (xY K)):aG P w K mg au "own_bounds" 8 (Im K):=by
 obtain⟨aN,jr,lJ⟩:=gN;refine F.has y8 (λvs H Q E h=>?_) (λ_ _ _ _ _ _=>iM λ_ _ _=>rfl) (λf aE A outer s H vs Q E hr h=>?_)
 ·obtain⟨m,iv,rate,rs,r,f,j,t,ds,os,rfl,_⟩:=h
  rfl
 ·obtain⟨m,iv,rate,rs,r,f,j,t,ds,os,rfl,rm,aM,ri,row,hz,dy,dM,k⟩:=h
  have nd:=y8.nd;have rN:∀H',RD K H' (.ref aN) (cB 0):=λH'=>(sW (lJ H')).rd;refine⟨_,(aD (bD (cE (uW K Z (pv 1))) (aH (aZ (dE (ao (cy (x:="NOUGHT") Z jr) ay)))) bG) (aD (KC (i0:=3) nd Z (Or.inl Z) (N:=["one","other","machine","rate"]) (js:=[none,none,some 0,some 2]) Z Z Z (sO K Z true true Z (B.at "zip") (ao (pv 1) (ao (qp (xZ K rfl) (pv 1) (qj aF) qk) ay))) (λ_ _ _ _ _=>(fb K rfl (n:=2) rfl (bU (bu 0 (show List.Nodup (["one","other","machine","rate"]:List Str) by decide+kernel)) (bU (bu 1 (show List.Nodup (["one","other","machine","rate"]:List Str) by decide+kernel)) eZ)))) (λ_ _ _ _ _=>gb) (λ_ _ _ _ _=>(pf Et hr (ao (pv 2) (ao (pv 0) (ao (pv 1) (ao (pv 3) ay))))))) (aH (aZ (aW (qV K Z) (aW (qV K Z) (dE (ao (cy (x:="NOUGHT") Z jr) ay)) (pv 3)) (dE (ao (cy (x:="NOUGHT") Z jr) ay))))))),?_⟩;obtain⟨ia,xs,rfl,hi,gh⟩:=ri.lst_inv;have lx:=gh.length;have ll:=row.len;refine⟨_,Z,_,.inl ⟨_,hi,Z⟩,?_⟩;cases hd:xs with
  |nil=>
   subst hd;refine ba ?_;refine⟨bC Z,λl H1 n1=>?_⟩;refine k l [.ref aN] H1 n1.no n1.at' ?_ n1.same;have e:os=[]:=by
    have:os.length=0:=by rw[<-ll,<-lx];rfl
    exact GQ.mp this
   rw[e];exact bJ (rN H1) bW |cons x0 xr=>
   refine aV ?_;have dI:os≠[]:=by intro e;rw[e]at ll;rw[hd]at lx;simp at ll lx;rw[ll]at lx;cases lx
   have E4:0<xs.length:=by rw[hd];simp
   refine⟨_,Z,_,Z,1,Z,ia,xs,Z,.inl ⟨hi,λtl H1 n1=>?_⟩⟩;refine⟨ia,tl,Z,⟨_,hi.go n1.same⟩,⟨_,aK.of n1.at'⟩,λD H2 n2=>?_⟩;have et:=n1.at';rw[FG]at et;have vc:∀(i:Nat)(o:Itm),os[i]? =some o->∀(ns:List Int)(sp:Int),o=some (ns,sp)->eX rs.length 100 ns/\1<=sp/\sp<=20:=λi o e ns sp e'=>row.ok i ns sp (by rw[e,e']);have lr:=aM.len;refine zK (K:=K) (b1:=true) (b2:=true) (xs:=xs) (ys:=xs.drop 1) (ds:=((List.range (os.length-1)).map (λi=>ownF j rate os (i+1))).map cB) _ Z (hi.go n1.same) (aK.of et) n2 (by rw[xh];simp;lia) (by simp;lia) (sX _) ?_ ?_
   ·intro i x y d H3 Q' ex ey ed s3 hq
    have fD:=n1.same.trans s3;rw[List.getElem?_drop]at ey;obtain⟨d1,e1,r1⟩:=gh.get' i ex;obtain⟨d2,e2,r2⟩:=gh.get' (1+i) ey;obtain⟨o1,wa,i1⟩:=row.get e1;obtain⟨o2,qR,i2⟩:=row.get e2;have ZZ:1+i<os.length:=(eY.mp qR).1;have jt:d=cB (betR j rate o1 o2):=by rw[cY,cY,cI (by simp;lia),xi]at ed;have:=(dW ed).symm;rw[this];show cB (betR j rate (atO os i) (atO os (i+1)))=_;rw[_O.tX wa,_O.tX (show os[i+1]? =some o2 by rw[Nat.add_comm];exact qR)]
    subst jt;refine⟨_,Z,_,Z,_,Z,_,Z,m,x,y,rate,rs,r,f,j,t,d1,d2,o1,o2,rs.length,Z,RD.mono fD _ rm,aM.j1.1,aM.j1.2,RD.mono fD _ r1,RD.mono fD _ r2,i1,i2,vc _ _ wa,vc _ _ qR,aw,dy,dM,λv H4 rv s4=>?_⟩;exact hq _ _ s4 rv.rd
   ·intro H3 zs s3 d3 r3
    have lz:=r3.length;simp at lz;refine⟨bC Z,λl1 H4 n4=>?_⟩;refine⟨_,Z,l1,D,_,zs,Z,Z,aK.of n4.at',aK.of (n4.same _ _ d3),uM _ (by simp;lia),λl2 H5 n5=>?_⟩;refine⟨bC Z,λl3 H6 n6=>?_⟩;refine⟨l2,l3,_,_,Z,Z,aK.of (n6.same _ _ n5.at'),aK.of n6.at',uM _ (by simp;lia),λl H7 n7=>?_⟩;have uQ:aA H H6:=n1.same.trans (s3.trans (n4.same.trans (n5.same.trans n6.same)));have nl:H l=none:=by cases e:H l with |none=>rfl |some o=>have:=uQ _ _ e;rw[n7.no]at this;cases this
    refine k l _ H7 nl n7.at' ?_ (uQ.trans n7.same);rw[_O.KW j rate dI,lA,lA];exact((bJ (rN H7) bW).append (aI.mono (n4.same.trans (n5.same.trans (n6.same.trans n7.same))) _ r3)).append (bJ (rN H7) bW)
inductive a6g(K:aa)(vs:List V)(H:Hp)(Q:VK):Prop |mk (m:_)(iv:_)(l:_)(ys:_)(rs:_)(r:_)(f:_)(j:_)(t:_)(ds:_)(os:_)(g:_)(h0:vs=[m,iv,.ref l])(h1:RD K H m (gR rs r f j t))(h2:lg rs r f j t)(h3:RD K H iv (.list ds))(h4:fh rs.length ds os)(h5:ds.length<=30)(h6:H l=some (.lst ys))(h7:aI K H ys ((lst os.length g).map cB))(h8:(∀i,i<=os.length->Bd 900 (g i)))(h9:∀l ys H',H l=none->H' l=some (.lst ys)->aI K H' ys ((lst os.length (fl os.length (leadF os) (2*f) g)).map cB)->aA H H'->Q (.ref l) H')
def IA(K:aa):Sp:=λvs H Q _=>a6g K vs H Q
theorem W3(F:FA K mg "kept_by_fall" C5)(B:bE mg)(jS:aG P w K mg au "is_line" 1 (ou K))(kL:aG P w K mg au "lead_of" 1 (oq K))(tF:aG P w K mg au "plus_whole" 4 (xU K))(tI:aG P w K mg au "least" 2 (mQ K)):aG P w K mg au "kept_by_fall" 5 (IA K):=by
 refine F.has JU (λvs H Q E h=>?_) (λ_ _ _ _ _ _=>iM λ_ _ _=>rfl) (λfa aE A outer s H vs Q E hr h=>?_)
 · obtain⟨m,iv,l,ys,rs,r,f,j,t,ds,os,g,rfl,_⟩:=h
   rfl
 · obtain⟨m,iv,l,ys,rs,r,f,j,t,ds,os,g,rfl,rm,aM,ri,row,hz,dl,T4,bg,k⟩:=h
   have nd:=JU.nd;refine⟨_,(aD (pS 3 nd (px K (pv 0) aF)) (aD (pS 4 nd (jH (x:="list") (Yd K Z) Z (B.at "list") PyProof.Rows.boot_list (ao (pv 2) ay))) (aD (j7 iQ Z (U6 Z (B.at "reversed") (ao (jH (x:="range") a4e rfl (B.at "range") PyProof.Rows.boot_range (ao (fm K B (ao (pv 1) ay)) ay)) ay)) (bu 5 nd) (aH (bD (bS (pf jS hr (ao (px K (pv 1) (pv 5)) ay))) (aH (fW (pf tI hr (ao (dE (ao (px K (pv 4) (pv 5)) (ao (pf tF hr (ao (px K (pv 4) (aW fM (pv 5) aF)) (ao (aW cu (aW cu aF (pv 3)) (pf kL hr (ao (px K (pv 1) (pv 5)) ay))) ay))) ay))) ay)) (D7 (pv 4) (pv 5) set_list))) bG))) (aH (aZ (pv 4)))))),?_⟩;obtain⟨ma,mb,rfl,jq,m5⟩:=qE rm;obtain⟨ia,xs,rfl,hi,gh⟩:=ri.lst_inv;have lx:=gh.length;have ll:=row.len;have lr:=aM.len;have hL:∀i m,leadF os i=some m->(2*f*(m:Int)).natAbs<2^24:=λi m e=>Qg aM.f1.1 aM.f1.2 (Ym row.yz e);have FB:∀i,i<=os.length->Bd 1700 (fl os.length (leadF os) (2*f) g i):=λi hi=>(a2b bg hL i hi).mono aw;refine⟨_,Z,.inr ⟨ma,_,2,.int f,Z,Z,jq,Z,?_⟩⟩;refine⟨_,Z,l,ys,Z,.inl (aK.of dl),λD H1 n1=>?_⟩;refine⟨_,Z,ia,_,Z,.inl (hi.go n1.same),_,Z,λpr H2 n2=>?_⟩;refine⟨pr,_,Z,n2.at',aw,aw,?_⟩;have eN:((xs.length:Int)).toNat=os.length:=by lia
   rw[eN];refine a24 (Pv:=λi O H5=>aA H H5/\∃zs v1,H5 D=some (.lst zs)/\aI K H5 zs ((lst os.length λk=>if os.length<=k+i then fl os.length (leadF os) (2*f) g k else g k).map cB)/\O=[some (.ref ma),some (.ref ia),some (.ref l),some (.int f),some (.ref D),v1]) ?_ ?_ ?_
   · refine⟨n1.same.trans n2.same,ys,none,n2.same _ _ n1.at',?_,Z⟩
     rw[DL (g:=λk=>if os.length<=k+0 then fl os.length (leadF os) (2*f) g k else g k) (g':=g)]
     ·exact aI.mono (n1.same.trans n2.same) _ T4
     · intro k hk
       show g k=if os.length<=k+0 then _ else g k;split
       · next h => have:k=os.length:=by lia
                   subst this;exact zw.symm
       ·rfl
   · rintro i O H3 zf ⟨s3,zs,v1,dz,rz,rfl⟩
     obtain⟨x,hx⟩:∃x,xs[os.length-1-i]? =some x:=⟨_,cI (show os.length-1-i<xs.length by lia)⟩;generalize hc:os.length-1-i=c at hx;have tK:c<os.length:=by lia
     have eI:((os.length:Int)-1-(i:Int))=(c:Int):=by lia
     rw[eI];obtain⟨d,ed,rd⟩:=gh.get' c hx;obtain⟨o,eo,it⟩:=row.get ed;have lz:=rz.length;rw[bR,qF]at lz;have Ov:iz xs (c:Int)=some x:=eK aw (by simpa using hx);refine⟨_,Z,_,Z,.inl ⟨ia,_,_,_,Z,Z,hi.go s3,Ov,?_⟩⟩;refine⟨x,d,o,Z,RD.mono s3 _ rd,it,_,Z,?_⟩;cases o with
     |none=>
       refine aV ?_;refine⟨s3,zs,_,dz,?_,Z⟩;rw[DL (g:=λk=>if os.length<=k+(i+1)then fl os.length (leadF os) (2*f) g k else g k) (g':=λk=>if os.length<=k+i then fl os.length (leadF os) (2*f) g k else g k)]
       ·exact rz
       · intro k _
         show(if os.length<=k+i then _ else g k)=if os.length<=k+(i+1)then _ else g k;by_cases h1:os.length<=k+i
         ·rw[bo h1,bo aw]
         · rw[bh h1]
           by_cases h2:k=c
           ·subst h2;rw[bo aw,zv tK (Yl eo)]
           ·rw[bh aw] |some q=>
       obtain⟨ns,sp⟩:=q;refine ba ?_;have jt:=nk it;subst jt;obtain⟨da,_,_⟩:=row.ok c ns sp eo;obtain⟨z1,Nl⟩:∃z,zs[c+1]? =some z:=⟨_,cI (show c+1<zs.length by lia)⟩;obtain⟨z0,p8⟩:∃z,zs[c]? =some z:=⟨_,cI (show c<zs.length by lia)⟩;have R1:bM K H3 z1 (fl os.length (leadF os) (2*f) g (c+1)):=by
        obtain⟨d1,e1,r1⟩:=rz.get' (c+1) Nl;rw[cY,qG _ (show c+1<=os.length by lia)]at e1;cases e1;have:os.length<=c+1+i:=by lia
        simp only[bo this]at r1;exact mT r1
       have R0:bM K H3 z0 (g c):=by
        obtain⟨d1,e1,r1⟩:=rz.get' c p8;rw[cY,qG _ (show c<=os.length by lia)]at e1;cases e1;have:¬os.length<=c+i:=by lia
        simp only[bh this]at r1;exact mT r1
       have eT1:((c:Int)+1).toNat=c+1:=by lia
       have zT:iz zs ((c:Int)+1)=some z1:=eK aw (by rw[eT1];exact Nl);have at0:iz zs (c:Int)=some z0:=eK aw (by simpa using p8);refine⟨_,Z,_,Z,.inl ⟨D,_,_,_,Z,Z,aK.of dz,at0,?_⟩⟩;refine⟨_,Z,_,Z,_,_,Z,Z,.inl ⟨D,_,_,_,Z,Z,aK.of dz,zT,?_⟩⟩;refine⟨_,Z,_,_,Z,Z,.of_left (dU az az),?_⟩;refine⟨_,Z,_,Z,.inl ⟨ia,_,_,_,Z,Z,hi.go s3,Ov,?_⟩⟩;refine⟨x,ns,sp,Z,RD.mono s3 _ rd,da.ne,by rw[da.len];lia,λH4 s4=>?_⟩;have vX:=aM.f1;refine⟨_,_,Z,Z,.of_left (dU aw aw),?_⟩;have us:=hL c _ (M6 eo);refine⟨z1,_,_,Z,R1.go s4,(FB (c+1) aw).mono az,us,λu H5 ru s5=>?_⟩;refine⟨bC Z,λl2 H6 n6=>?_⟩;have oy:=s4.trans (s5.trans n6.same);have OH:=R0.go oy;have Ru:=ru.go n6.same;have B1:Bd 2000 (g c):=(bg _ aw).mono az;have B2:Bd 2000 (fl os.length (leadF os) (2*f) g (c+1)+((2*f*(aJ ns:Int):Int):Rat)):=(G8 (FB (c+1) aw) us).mono az;refine⟨l2,[z0,u],[_,_],Z,aK.of n6.at',⟨OH,B1,Ru,B2,trivial⟩,by simp,λc' v q e1 e2 hq=>?_⟩;have vz:mn (g c) (fl os.length (leadF os) (2*f) g (c+1)+((2*f*(aJ ns:Int):Int):Rat))=q:=by
        refine vo ?_ (hq _ (by simp)) (hq _ (by simp))
        match c',e2 with |0,e2=>cases e2;exact .inl rfl |1,e2=>cases e2;exact .inr rfl
       have Rv:bM K H6 v q:=by match c',e1,e2 with |0,e1,e2=>cases e1;cases e2;exact OH |1,e1,e2=>cases e1;cases e2;exact Ru
       have NJ:=oy _ _ dz;have YB:kH zs.length (c:Int)=some c:=by unfold kH;rw[bo aw,bo aw];simp
       refine⟨_,Z,_,Z,D,zs,_,_,Z,Z,NJ,YB,?_⟩;refine⟨λb o e=>?_,_,_,bp,?_,Z⟩
       ·rw[aL (eH e n1.no)];exact oy b o (s3 b o e)
       · have h:=aI.RY (i:=c) NJ (aI.mono oy _ rz) Rv.rd (sX _) (sJ _)
         rw[<-List.map_set]at h;have e:(lst os.length λk=>if os.length<=k+i then fl os.length (leadF os) (2*f) g k else g k).set c q=lst os.length λk=>if os.length<=k+(i+1)then fl os.length (leadF os) (2*f) g k else g k:=by
          rw[<-XX (g:=λk=>if os.length<=k+i then fl os.length (leadF os) (2*f) g k else g k) (g':=λk=>if os.length<=k+(i+1)then fl os.length (leadF os) (2*f) g k else g k) (i:=c)]
          · have:os.length<=c+(i+1):=by lia
            simp only[bo this];rw[zx tK (M6 eo),vz]
          · intro k _ hk
            show(if os.length<=k+(i+1)then _ else g k)=if os.length<=k+i then _ else g k;by_cases h1:os.length<=k+i
            ·rw[bo h1,bo aw]
            ·rw[bh h1,bh aw]
         rw[e]at h;exact h
   · rintro O H3 ⟨s3,zs,v1,dz,rz,rfl⟩
     rw[DL (g:=λk=>if os.length<=k+os.length then fl os.length (leadF os) (2*f) g k else g k) (g':=fl os.length (leadF os) (2*f) g) (λk hk=>by show _=if os.length<=k+os.length then _ else _;rw[bo aw])]at rz;exact⟨_,Z,k D zs H3 n1.no dz rz s3⟩
def Kp(f j rate:Int)(os:List Itm):Rat:=fl os.length (leadF os) (2*f) (ownF j rate os) 1
inductive a5C(K:aa)(vs:List V)(H:Hp)(Q:VK):Prop |mk (m:_)(iv:_)(rate:_)(rs:_)(r:_)(f:_)(j:_)(t:_)(ds:_)(os:_)(h0:vs=[m,iv,.int rate])(h1:RD K H m (gR rs r f j t))(h2:lg rs r f j t)(h3:RD K H iv (.list ds))(h4:fh rs.length ds os)(h5:ds.length<=30)(h6:1<=ds.length)(h7:10<=rate)(h8:rate<=200)(h9:∀v H',bM K H' v (Kp f j rate os)->aA H H'->Q v H')
def AJ(K:aa):Sp:=λvs H Q _=>a5C K vs H Q
abbrev Bj:Stmt:=top 78
theorem Jg:bj ["machine","items","rate"] ["machine","items","rate"] (aP Bj):=bw aO
theorem Vq(F:FA K mg "reach_behind_first" Bj)(B:bE mg)(Ed:aG P w K mg au "own_bounds" 8 (Im K))(ZM:aG P w K mg au "kept_by_fall" 5 (IA K)):aG P w K mg au "reach_behind_first" 9 (AJ K):=by
 refine F.has Jg (λvs H Q E h=>?_) (λ_ _ _ _ _ _=>iM λ_ _ _=>rfl) (λfa aE A outer s H vs Q E hr h=>?_)
 ·obtain⟨m,iv,rate,rs,r,f,j,t,ds,os,rfl,_⟩:=h
  rfl
 ·obtain⟨m,iv,rate,rs,r,f,j,t,ds,os,rfl,rm,aM,ri,row,hz,h1,dy,dM,k⟩:=h
  have nd:=Jg.nd;refine⟨_,(aH (aZ (px K (pf ZM hr (ao (pv 0) (ao (pv 1) (ao (pf Ed hr (ao (pv 0) (ao (pv 1) (ao (pv 2) ay)))) ay)))) aF))),?_⟩;have ll:=row.len;have hB:=_O.KZ aM.j1.1 aM.j1.2 dy dM row.yz;refine⟨_,Z,_,Z,_,Z,_,Z,_,Z,m,iv,rate,rs,r,f,j,t,ds,os,Z,rm,aM,ri,row,aw,dy,dM,λl1 y1 H1 X1 d1 r1 s1=>?_⟩;refine⟨m,iv,l1,y1,rs,r,f,j,t,ds,os,ownF j rate os,Z,RD.mono s1 _ rm,aM,RD.mono s1 _ ri,row,hz,d1,r1,λi _=>(hB i).mono az,λl2 y2 H2 X0 d2 r2 s2=>?_⟩;have ly:=r2.length;rw[bR,qF]at ly;obtain⟨z,ez⟩:∃z,y2[1]? =some z:=⟨_,cI (show 1<y2.length by lia)⟩;refine .inl ⟨l2,_,1,z,Z,Z,aK.of d2,eK az ez,?_⟩;obtain⟨d,ed,rd⟩:=r2.get' 1 ez;rw[cY,qG _ (show 1<=os.length by lia)]at ed;cases ed;exact k z H2 (mT rd) (s1.trans s2)
open _O (Itm)
theorem XD{H:Hp}{v:V}{rs:List Int}{es:List ah}(h:RD K H v (.tuple (.tuple (rs.map PyData.int)::es))):∃a b ys,v= .ref a/\aQ K H a (.ref b::ys)/\aQ K H b (rs.map V.int):=by obtain⟨a,xs,rfl,h1,h2⟩:=h.d6;obtain⟨x1,r1,rfl,e1,h2⟩:=h2.cons_inv;obtain⟨b,ys,rfl,h3,h4⟩:=e1.d6;rw[h4.ja]at h3;exact⟨a,b,r1,Z,h1,h3⟩
def fO(z:Str):ah->Bool | .str x=>x==z |_=>false
theorem vZ(z:Str)(d:ah):PyData.eqv d (.str z)=fO z d:=by cases d<;>simp[PyData.eqv,fO]
theorem Nt(z:Str)(d:ah):PyData.eqv (.str z) d=fO z d:=by cases d<;>simp[PyData.eqv,fO];rw[iW];simp;exact eq_comm
theorem RA(d:ah):(∃z,d= .str z)\/(fC (gy d) "str"=false/\∀z,d≠ .str z):=by cases d with |str z=>exact .inl ⟨z,Z⟩ |_=>exact .inr ⟨by simp[gy];decide,λ_ z=>nomatch z⟩
theorem Hm:fC "str" "str"=true:=by decide
def DY(d:ah):Bool:=fO "up" d||fO "down" d
def sT(c:Nat):Bool:=decide (97<=c)&&decide (c<=122)
def isNm:ah->Bool | .str x=>(decide (1<=x.length)&&decide (x.length<=8))&&x.cps.toList.all sT |_=>false
def nu(wd v:ah):Bool:=if fO "wait" wd then cC 1 1000 v else if fO "tool" wd then DY v else fO "mark" wd&&isNm v
def vg:ah->Bool | .int i=>i !=0 |_=>true
def qy(n:Nat):ah->Bool | .tuple ds=>(ds.length==n&&ds.all (cC (-100) 100))&&ds.any vg |_=>false
def gT(n:Nat):ah->Bool | .tuple [wd,a,b]=>fO "line" wd&&(qy n a&&cC 1 20 b) | .tuple [wd,v]=>nu wd v |_=>false
def iZ:ah->Bool | .str x=>decide (x.length<=900) |_=>true
def lL:ah->Bool | .tuple ds=>ds.all iZ |_=>true
inductive a5o(f:ah->Bool)(K:aa)(vs:List V)(H:Hp)(Q:VK):Prop |mk (v:_)(d:_)(h0:vs=[v])(h1:RD K H v d)(h2:iZ d=true)(h3:∀H',aA H H'->Q (.bl (f d)) H')
def HU(f:ah->Bool)(K:aa):Sp:=λvs H Q _=>a5o f K vs H Q
theorem RU{z:Str}(h:iZ (.str z)=true):z.length<=900:=mE h
theorem Lx(n:Nat):decide ((1:Int)<=(n:Int))=decide (1<=n):=by rw[iW];simp;omega
theorem X5(n:Nat):decide ((n:Int)<=8)=decide (n<=8):=by rw[iW];simp;omega
theorem Oz{l:List Nat}{f:Nat->Bool}:(l.map f).all id=l.all f:=by rw[List.all_map];rfl
theorem a4U:∀c<128,decide (c∈tZ.cps.toList)=sT c:=by decide+kernel
theorem a4W:∀c∈tZ.cps.toList,c<128:=by decide+kernel
theorem a4V(c:Nat):decide (c∈tZ.cps.toList)=sT c:=by
 by_cases h:c<128
 ·exact a4U c h
 ·rw[df (λhc=>h (a4W c hc)),sT,df (show¬c<=122 by omega),Ao]
abbrev C0:Stmt:=top 38
theorem JQ:bj ["thing"] ["thing"] (aP C0):=bw aO
theorem VV(F:FA K mg "is_name" C0)(B:bE mg)(a0P:GV mg "LONGEST_NAME" (.int 8))(a0Q:GV mg "LETTERS" (.str tZ)):aG P w K mg au "is_name" 1 (HU isNm K):=by
 refine F.has JQ (λvs H Q E h=>?_) (λ_ _ _ _ _ _=>fE λ_=>rfl) (λf aE A outer s H vs Q E hr h=>?_)
 ·obtain⟨v,d,rfl,_⟩:=h
  rfl
 ·obtain⟨v,d,rfl,rd,sh,k⟩:=h
  have nd:=JQ.nd;refine⟨_,(aD (bD (PW.pt (kr (cE (bS (kC K B (ao (pv 0) (ao (jI (x:="str") (v:=.ty "str") Z (B.at "str") Po rfl) ay))))) (kl (cE (TN yy yy aF (dF (x:="len") a4h rfl (B.at "len") PySem.boot_len (ao (pv 0) ay)) (cy (x:="LONGEST_NAME") rfl a0P)))))) (aH (aZ hW)) bG) (aH (aZ (dF (x:="all") (tY K Z Z) Z (B.at "all") wW (ao (gP (N:=["letter"]) (js:=[none]) rfl rfl rfl (KI (pv 0)) (λ_ _ _ _ _=>(bu 0 (oK _))) (λ_ _ _ _ _=>gb) (λ_ _ _ _ _=>(jG L7 (pv 0) (cy (x:="LETTERS") rfl a0Q) (by with_unfolding_all rfl)))) ay))))),?_⟩;rcases RA d with⟨z,rfl⟩|⟨ht,hn⟩
  ·refine⟨_,Z,.inl ⟨_,_,"str",true,Z,rd.ty,az,Hm,_,Z,aV ?_⟩⟩
   cases rd.str_inv;have hl:=RU sh;have k:∀H',aA H H'->Q (.bl ((decide (1<=z.length)&&decide (z.length<=8))&&z.cps.toList.all sT)) H':=k;refine⟨_,Z,z,Z,fz hl az,_,_,Z,Z,_,Z,?_⟩;refine fZ (λh1=>?_) (λh1=>?_)
   ·rw[<-Lx,show decide ((1:Int)<=(z.length:Int))=true from h1,iD]at k
    refine⟨_,_,Z,Z,_,Z,?_⟩;rw[X5];cases e8:decide (z.length<=8)with |false=>rw[e8,fV]at k;exact ba (k H (aA.refl _)) |true=>
     rw[e8,iD]at k;refine aV ⟨_,Z,z,Z,λD H0 nw=>?_⟩;refine O4 (f:=sT) [] nw aw (λc H2 Q' hc s2 hq=>?_) (λH2 s2 d2=>?_)
     ·refine⟨_,Z,c,tZ,Z,Z,?_⟩
      rw[a4V];exact hq _ (aA.refl _)
     ·refine⟨D,_,Z,aK.of d2,?_⟩
      rw[Oz];exact k H2 s2
   ·rw[<-Lx,show decide ((1:Int)<=(z.length:Int))=false from Am.mpr h1,fV,fV]at k
    exact⟨_,Z,ba (k H (aA.refl _))⟩
  ·have e:isNm d=false:=by cases d<;>first|rfl|exact absurd rfl (hn _)
   rw[e]at k;refine⟨_,Z,.inl ⟨_,_,"str",false,Z,rd.ty,az,ht,_,Z,ba ?_⟩⟩;exact k H (aA.refl _)
inductive a5x(K:aa)(vs:List V)(H:Hp)(Q:VK):Prop |mk (x:_)(v:_)(wd:_)(d:_)(h0:vs=[x,v])(h1:RD K H x wd)(h2:RD K H v d)(h3:cD 8 wd)(h4:cD 8 d)(h5:iZ d=true)(h6:∀H',aA H H'->Q (.bl (nu wd d)) H')
def HZ(K:aa):Sp:=λvs H Q _=>a5x K vs H Q
theorem uN{d:ah}(h:cD 8 d):SeqAt.shaped d=true:=h.shaped az
abbrev BX:Stmt:=top 37
theorem JO:bj ["word","value"] ["word","value"] (aP BX):=bw aO
theorem VT(F:FA K mg "is_short_item" BX)(B:bE mg)(a0N:GV mg "LONGEST_WAIT" (.int 1000))(gS:GT K mg "SIDES" [.str "up",.str "down"])(ip:aG P w K mg au "is_whole_within" 2 (lK K))(ZR:aG P w K mg au "is_name" 1 (HU isNm K)):aG P w K mg au "is_short_item" 3 (HZ K):=by
 refine F.has JO (λvs H Q E h=>?_) (λ_ _ _ _ _ _=>cH λ_ _=>rfl) (λf aE A outer s H vs Q E hr h=>?_)
 ·obtain⟨x,v,wd,d,rfl,_⟩:=h
  rfl
 ·obtain⟨x,v,wd,d,rfl,Cv,rd,Dj,vd,sh,k⟩:=h
  have nd:=JO.nd;obtain⟨aS,a0y,RJ⟩:=gS;refine⟨_,(aD (bD (bT (dR K Z hr.units) (pv 0) ck (bL _)) (aH (aZ (pf ip hr (ao (pv 1) (ao aF (ao (cy (x:="LONGEST_WAIT") Z a0N) ay)))))) bG) (aD (bD (bT (dR K Z hr.units) (pv 0) ck (bL _)) (aH (aZ (jG (YQ K Z (hr.Hk)) (pv 1) (cy (x:="SIDES") Z a0y) (by with_unfolding_all rfl)))) bG) (aH (aZ (qr (jG (dR K Z hr.units) (pv 0) ck (bL _)) (sQ (pf ZR hr (ao (pv 1) ay)))))))),?_⟩;have k:∀H',aA H H'->Q (.bl (if fO "wait" wd then cC 1 1000 d else if fO "tool" wd then DY d else fO "mark" wd&&isNm d)) H':=k;refine⟨_,Z,.inr ⟨_,_,Cv,dN _,uN Dj,aO,_,Z,?_⟩⟩;rw[vZ];cases e1:fO "wait" wd with |true=>rw[e1,bo rfl]at k;exact ba ⟨_,Z,_,d,1,1000,Z,rd,k H (aA.refl _)⟩ |false=>rw[e1,bh cJ]at k;refine aV ⟨_,Z,.inr ⟨_,_,Cv,dN _,uN Dj,aO,_,Z,?_⟩⟩;rw[vZ];cases e2:fO "tool" wd with
   |true=>
    rw[e2,bo rfl]at k;refine ba ⟨_,Z,aS,_,d,[.str "up",.str "down"],Z,RJ H,rd,bJ (dN _) (bJ (dN _) bW),uN vd,?_,?_⟩
    ·intro e he
     rcases bZ.mp he with rfl|he
     ·decide+kernel
     rcases bZ.mp he with rfl|he
     ·decide+kernel
     ·exact(dX he).elim
    ·have e:([.str "up",.str "down"]:List ah).any (λe=>PyData.eqv e d)=DY d:=by rw[uw,uw,List.any_nil,Nt,Nt,Bool.or_false];rfl
     rw[e];exact k H (aA.refl _) |false=>rw[e2,bh cJ]at k;refine aV ⟨_,Z,.inr ⟨_,_,Cv,dN _,uN Dj,aO,_,Z,?_⟩⟩;rw[vZ];cases e3:fO "mark" wd with |true=>rw[e3,iD]at k;exact ba ⟨_,Z,_,d,Z,rd,sh,k⟩ |false=>rw[e3,fV]at k;exact aV (k H (aA.refl _))
theorem Wv(i:Int):(!decide (i=0))=(i !=0):=by rw[iW];simp
theorem YO{lo hi:Int}{d:ah}(h:cC lo hi d=true):∃i,d= .int i:=by cases d<;>simp[cC]at h;exact⟨_,Z⟩
theorem any_map'{ds:List ah}{f:ah->Bool}:(ds.map f).any id=ds.any f:=by rw[List.any_map];rfl
inductive a5w(K:aa)(vs:List V)(H:Hp)(Q:VK):Prop |mk (m:V)(v:V)(rs:List Int)(es:List ah)(d:ah)(h0:vs=[m,v])(h1:RD K H m ((.tuple (.tuple (rs.map PyData.int)::es))))(h2:RD K H v d)(h3:rs.length<=3)(h4:∀H',aA H H'->Q (.bl (qy rs.length d)) H')
def HY(K:aa):Sp:=λvs H Q _=>a5w K vs H Q
abbrev Ck:Stmt:=top 36
theorem K8:bj ["machine","thing","rails"] ["machine","thing"] (aP Ck):=bw aO
theorem Wh(F:FA K mg "are_steps" Ck)(B:bE mg)(MQ:GV mg "MOST_STEPS" (.int 100))(ip:aG P w K mg au "is_whole_within" 2 (lK K)):aG P w K mg au "are_steps" 3 (HY K):=by
 refine F.has K8 (λvs H Q E h=>?_) (λ_ _ _ _ _ _=>cH λ_ _=>rfl) (λf aE A outer s H vs Q E hr h=>?_)
 ·obtain⟨m,v,rs,es,d,rfl,_⟩:=h
  rfl
 ·obtain⟨m,v,rs,es,d,rfl,rm,rd,l3,k⟩:=h
  have nd:=K8.nd;refine⟨_,(aD (pS 2 nd (px K (pv 0) aF)) (aD (bD (PW.pt (kr (cE (bS (kC K B (ao (pv 1) (ao (jI (x:="tuple") (v:=.ty "tuple") Z (B.at "tuple") jz rfl) ay))))) (kl (bT (sZ K rfl hr.units) (fm K B (ao (pv 1) ay)) (fm K B (ao (pv 2) ay)) (bL _))))) (aH (aZ hW)) bG) (aD (bD (cE (bS (dF (x:="all") (tY K Z Z) Z (B.at "all") wW (ao (gP (N:=["step"]) (js:=[none]) rfl rfl rfl (mU K rfl (pv 1)) (λ_ _ _ _ _=>(bu 0 (oK _))) (λ_ _ _ _ _=>gb) (λ_ _ _ _ _=>(pf ip hr (ao (pv 0) (ao (mV mJ (cy (x:="MOST_STEPS") rfl MQ)) (ao (cy (x:="MOST_STEPS") rfl MQ) ay)))))) ay)))) (aH (aZ hW)) bG) (aH (aZ (dF (x:="any") (a4J K Z Z) Z (B.at "any") PyProof.Rows.boot_any (ao (gP (N:=["step"]) (js:=[none]) rfl rfl rfl (mU K rfl (pv 1)) (λ_ _ _ _ _=>(bu 0 (oK _))) (λ_ _ _ _ _=>gb) (λ_ _ _ _ _=>(jG (sZ K rfl hr.units) (pv 0) aF (bL _)))) ay))))))),?_⟩;obtain⟨am,ar,ym,rfl,hm,har⟩:=XD rm;refine⟨_,Z,.inr ⟨am,_,0,_,Z,Z,hm,eK (gL 0) Z,?_⟩⟩;rcases uC d with⟨ds,rfl⟩|⟨ht,hn⟩
  ·refine⟨_,Z,.inl ⟨_,_,"tuple",true,Z,rd.ty,az,oh,_,Z,aV ?_⟩⟩
   obtain⟨av,xs,rfl,hx,hd⟩:=rd.d6;have hl:=hd.length;refine⟨_,Z,av,_,Z,.inr hx,_,Z,ar,_,Z,.inr har,.inl ⟨_,_,Z,Z,_,Z,?_⟩⟩;have k:∀H',aA H H'->Q (.bl ((ds.length==rs.length&&ds.all (cC (-100) 100))&&ds.any vg)) H':=k;have e0:(!decide ((xs.length:Int)=((rs.map V.int).length:Int)))= !(ds.length==rs.length):=by rw[hl,bR];congr 1;rw[iW];simp;lia
   rw[e0];cases e:(ds.length==rs.length)with |false=>rw[e,fV,fV]at k;exact ba (k H (aA.refl _)) |true=>
    rw[e,iD]at k;refine aV ?_;have el:ds.length=rs.length:=cP.mp e;refine⟨_,Z,av,Z,⟨_,hx⟩,λD H0 nw=>?_⟩;refine zL (xs:=xs) (bs:=ds.map (cC (-100) 100)) [] hx nw (by rw[bR,hl]) aw ?_ ?_
    ·intro i x b H2 Q' ex eb s2 hq
     obtain⟨d,ed,rfl⟩:=yP eb;obtain⟨x',ix,rx⟩:=hd.get i ed;rw[ex]at ix;cases ix;exact⟨_,Z,_,Z,_,d,-100,100,Z,RD.mono s2 _ rx,hq _ (aA.refl _)⟩
    ·intro H2 s2 d2
     refine⟨D,_,Z,aK.of d2,_,Z,?_⟩;rw[all_map];cases e1:ds.all (cC (-100) 100)with |false=>rw[e1,fV]at k;exact ba (k H2 s2) |true=>
      rw[e1,iD]at k;refine aV ⟨_,Z,av,Z,⟨_,hx.go s2⟩,λD2 H3 n3=>?_⟩;refine zL (xs:=xs) (bs:=ds.map vg) [] (hx.go s2) n3 (by rw[bR,hl]) aw ?_ ?_
      ·intro i x b H4 Q' ex eb s4 hq
       obtain⟨d,ed,rfl⟩:=yP eb;obtain⟨x',ix,rx⟩:=hd.get i ed;rw[ex]at ix;cases ix;obtain⟨z,rfl⟩:=YO (fF.mp e1 d (iS ed));cases rx.int_inv;refine⟨_,Z,.inl ⟨_,_,Z,Z,?_⟩⟩;show Q' (.bl (!decide (z=0))) H4;rw[Wv];exact hq _ (aA.refl _)
      ·intro H4 s4 d4
       refine⟨D2,_,Z,aK.of d4,?_⟩;rw[any_map'];exact k H4 (s2.trans s4)
  ·have e:qy rs.length d=false:=by cases d<;>first|rfl|exact absurd rfl (hn _)
   rw[e]at k;refine⟨_,Z,.inl ⟨_,_,"tuple",false,Z,rd.ty,az,ht,_,Z,ba ?_⟩⟩;exact k H (aA.refl _)
theorem item_cases(n:Nat)(d:ah):(∃wd a b,d= .tuple [wd,a,b])\/(∃wd v,d= .tuple [wd,v])\/(∃ds,d= .tuple ds/\ds.length≠3/\ds.length≠2/\gT n d=false)\/(fC (gy d) "tuple"=false/\gT n d=false):=by
 rcases uC d with⟨ds,rfl⟩|⟨ht,hn⟩
 ·match ds with |[r,a,b]=>exact .inl ⟨r,a,b,Z⟩ |[r,a]=>exact .inr (.inl ⟨r,a,Z⟩) |[]=>exact .inr (.inr (.inl ⟨_,Z,by simp,by simp,by simp[gT]⟩)) |[_]=>exact .inr (.inr (.inl ⟨_,Z,by simp,by simp,by simp[gT]⟩)) |_::_::_::_::_=>exact .inr (.inr (.inl ⟨_,Z,by simp,by simp,by simp[gT]⟩))
 ·exact .inr (.inr (.inr ⟨ht,by cases d<;>first|rfl|exact absurd rfl (hn _)⟩))
inductive a6a(K:aa)(vs:List V)(H:Hp)(Q:VK):Prop |mk (m:V)(v:V)(rs:List Int)(es:List ah)(d:ah)(h0:vs=[m,v])(h1:RD K H m ((.tuple (.tuple (rs.map PyData.int)::es))))(h2:RD K H v d)(h3:rs.length<=3)(h4:cD 8 d)(h5:lL d=true)(h6:∀H',aA H H'->Q (.bl (gT rs.length d)) H')
def uI(K:aa):Sp:=λvs H Q _=>a6a K vs H Q
theorem Dl{ds:List ah}(h:cD 8 (.tuple ds)){d:ah}(hd:d∈ds):cD 8 d:=((cD.d6 (n:=7) h) d hd).le az
theorem RV{ds:List ah}(h:lL (.tuple ds)=true){d:ah}(hd:d∈ds):iZ d=true:=fF.mp (show ds.all iZ=true from h) d hd
abbrev C3:Stmt:=top 31
theorem JS:bj ["machine","thing","word","steps","speed","value"] ["machine","thing"] (aP C3):=bw aO
theorem VX(F:FA K mg "is_item" C3)(B:bE mg)(a0S:GV mg "GREATEST_SPEED" (.int 20))(ip:aG P w K mg au "is_whole_within" 2 (lK K))(a0s:aG P w K mg au "are_steps" 3 (HY K))(ZQ:aG P w K mg au "is_short_item" 3 (HZ K)):aG P w K mg au "is_item" 4 (uI K):=by
 refine F.has JS (λvs H Q E h=>?_) (λ_ _ _ _ _ _=>cH λ_ _=>rfl) (λf aE A outer s H vs Q E hr h=>?_)
 ·obtain⟨m,v,rs,es,d,rfl,_⟩:=h
  rfl
 ·obtain⟨m,v,rs,es,d,rfl,rm,rd,l3,vd,sh,k⟩:=h
  have nd:=JS.nd;refine⟨_,(aD (bD (cE (bS (kC K B (ao (pv 1) (ao (jI (x:="tuple") (v:=.ty "tuple") Z (B.at "tuple") jz rfl) ay))))) (aH (aZ hW)) bG) (aD (bD (bT (dR K Z hr.units) (fm K B (ao (pv 1) ay)) aF (bL _)) (aD (fW (pv 1) (fb K Z (n:=3) Z (bU (bu 2 nd) (bU (bu 3 nd) (bU (bu 4 nd) eZ))))) (aH (aZ (qr (jG (dR K Z hr.units) (pv 2) ck (bL _)) (qr (pf a0s hr (ao (pv 0) (ao (pv 3) ay))) (sQ (pf ip hr (ao (pv 4) (ao aF (ao (cy (x:="GREATEST_SPEED") Z a0S) ay)))))))))) bG) (aD (bD (bT (dR K Z hr.units) (fm K B (ao (pv 1) ay)) aF (bL _)) (aD (fW (pv 1) (fb K Z (n:=2) Z (bU (bu 2 nd) (bU (bu 5 nd) eZ)))) (aH (aZ (pf ZQ hr (ao (pv 2) (ao (pv 5) ay)))))) bG) (aH (aZ hW))))),?_⟩;rcases item_cases rs.length d with⟨wd,a,b,rfl⟩|⟨wd,a,rfl⟩|⟨ds,rfl,h3,h2,hf⟩|⟨ht,hf⟩
  ·refine⟨_,Z,.inl ⟨_,_,"tuple",true,Z,rd.ty,az,oh,_,Z,aV ?_⟩⟩
   obtain⟨p,xs,rfl,hx,hd⟩:=rd.d6;obtain⟨u1,ys,rfl,r1,hd⟩:=hd.cons_inv;obtain⟨u2,ys,rfl,r2,hd⟩:=hd.cons_inv;obtain⟨u3,ys,rfl,r3,hd⟩:=hd.cons_inv;cases hd.nil_inv;have k:∀H',aA H H'->Q (.bl (fO "line" wd&&(qy rs.length a&&cC 1 20 b))) H':=k;refine⟨_,Z,p,_,Z,.inr hx,.inl ⟨_,_,Z,Z,_,Z,ba ?_⟩⟩;refine⟨_,Z,p,_,Z,hx,Z,_,_,Z,_,_,Z,_,_,Z,Z,?_⟩;refine⟨_,Z,.inr ⟨_,_,r1,dN _,uN (Dl vd (by simp)),aO,_,Z,?_⟩⟩;rw[vZ];cases e1:fO "line" wd with |false=>rw[e1,fV]at k;exact aV (k H (aA.refl _)) |true=>rw[e1,iD]at k;refine ba ⟨_,Z,_,Z,_,_,rs,es,a,Z,rm,r2,l3,λH1 s1=>⟨_,Z,?_⟩⟩;cases e2:qy rs.length a with |false=>rw[e2,fV]at k;exact aV (k H1 s1) |true=>rw[e2,iD]at k;exact ba ⟨_,Z,_,b,1,20,Z,RD.mono s1 _ r3,k H1 s1⟩
  ·refine⟨_,Z,.inl ⟨_,_,"tuple",true,Z,rd.ty,az,oh,_,Z,aV ?_⟩⟩
   obtain⟨p,xs,rfl,hx,hd⟩:=rd.d6;obtain⟨u1,ys,rfl,r1,hd⟩:=hd.cons_inv;obtain⟨u2,ys,rfl,r2,hd⟩:=hd.cons_inv;cases hd.nil_inv;have k:∀H',aA H H'->Q (.bl (nu wd a)) H':=k;refine⟨_,Z,p,_,Z,.inr hx,.inl ⟨_,_,Z,Z,_,Z,aV ?_⟩⟩;refine⟨_,Z,p,_,Z,.inr hx,.inl ⟨_,_,Z,Z,_,Z,ba ?_⟩⟩;refine⟨_,Z,p,_,Z,hx,Z,_,_,Z,_,_,Z,Z,?_⟩;exact⟨_,Z,_,Z,_,_,wd,a,Z,r1,r2,Dl vd (by simp),Dl vd (by simp),RV sh (by simp),k⟩
  ·rw[hf]at k
   refine⟨_,Z,.inl ⟨_,_,"tuple",true,Z,rd.ty,az,oh,_,Z,aV ?_⟩⟩;obtain⟨p,xs,rfl,hx,hd⟩:=rd.d6;have hl:=hd.length;refine⟨_,Z,p,_,Z,.inr hx,.inl ⟨_,_,Z,Z,_,Z,?_⟩⟩;rw[show decide ((xs.length:Int)=3)=false from df aw];refine aV ⟨_,Z,p,_,Z,.inr hx,.inl ⟨_,_,Z,Z,_,Z,?_⟩⟩;rw[show decide ((xs.length:Int)=2)=false from df aw];exact aV (k H (aA.refl _))
  ·rw[hf]at k
   refine⟨_,Z,.inl ⟨_,_,"tuple",false,Z,rd.ty,az,ht,_,Z,ba ?_⟩⟩;exact k H (aA.refl _)
def kI(rs:List Int):ah->Bool | .tuple es=>es.length==rs.length&&((es.zip rs).map λp=>cC 0 p.2 p.1).all id |_=>false
inductive a6c(K:aa)(vs:List V)(H:Hp)(Q:VK):Prop |mk (m:V)(v:V)(rs:List Int)(ds:List ah)(d:ah)(h0:vs=[m,v])(h1:RD K H m (.tuple (.tuple (rs.map PyData.int)::ds)))(h2:RD K H v d)(h3:rs.length<=3)(h4:∀H',aA H H'->Q (.bl (kI rs d)) H')
def uK(K:aa):Sp:=λvs H Q _=>a6c K vs H Q
theorem zip_get{es:List ah}{rs:List Int}{i:Nat}{b:Bool}(h:((es.zip rs).map λp=>cC 0 p.2 p.1)[i]? =some b):∃e r,es[i]? =some e/\rs[i]? =some r/\cC 0 r e=b:=by rw[cY]at h;cases q:(es.zip rs)[i]? with |none=>rw[q]at h;cases h |some p=>rw[q]at h;obtain⟨e1,e2⟩:=xj.mp q;exact⟨p.1,p.2,e1,e2,dW h⟩
theorem ints_get{rs:List Int}{i:Nat}{r:Int}(h:rs[i]? =some r):(rs.map V.int)[i]? =some (.int r):=by rw[cY,h];rfl
abbrev BZ:Stmt:=top 22
theorem JP:bj ["machine","thing","rails"] ["machine","thing"] (aP BZ):=bw aO
theorem VU(F:FA K mg "is_place" BZ)(B:bE mg)(ip:aG P w K mg au "is_whole_within" 2 (lK K)):aG P w K mg au "is_place" 3 (uK K):=by
 refine F.has JP (λvs H Q E h=>?_) (λ_ _ _ _ _ _=>cH λ_ _=>rfl) (λf aE A outer s H vs Q E hr h=>?_)
 ·obtain⟨m,v,rs,ds,d,rfl,_⟩:=h
  rfl
 ·obtain⟨m,v,rs,ds,d,rfl,rm,rd,l3,k⟩:=h
  have nd:=JP.nd;refine⟨_,(aD (pS 2 nd (px K (pv 0) aF)) (aD (bD (PW.pt (kr (cE (bS (kC K B (ao (pv 1) (ao (jI (x:="tuple") (v:=.ty "tuple") Z (B.at "tuple") jz rfl) ay))))) (kl (bT (sZ K rfl hr.units) (fm K B (ao (pv 1) ay)) (fm K B (ao (pv 2) ay)) (bL _))))) (aH (aZ hW)) bG) (aH (aZ (dF (x:="all") (tY K Z Z) Z (B.at "all") wW (ao (gP (N:=["number","rail"]) (js:=[none,none]) rfl rfl rfl (sO K rfl false false rfl (B.at "zip") (ao (pv 1) (ao (pv 2) ay))) (λ_ _ _ _ _=>(fb K rfl (n:=2) rfl (bU (bu 0 (fX az)) (bU (bu 1 (fX az)) eZ)))) (λ_ _ _ _ _=>gb) (λ_ _ _ _ _=>(pf ip hr (ao (pv 0) (ao aF (ao (pv 1) ay)))))) ay)))))),?_⟩;obtain⟨am,xm,rfl,hm,hdm⟩:=rm.d6;obtain⟨yr,ym,rfl,r1,a84⟩:=hdm.cons_inv;obtain⟨ar,xr,rfl,yZ,hdr⟩:=r1.d6;cases hdr.ja;refine⟨_,Z,.inr ⟨am,_,0,_,Z,Z,hm,eK (gL 0) Z,?_⟩⟩;rcases uC d with⟨es,rfl⟩|⟨ht,hn⟩
  ·refine⟨_,Z,.inl ⟨_,_,"tuple",true,Z,rd.ty,az,oh,_,Z,aV ?_⟩⟩
   obtain⟨av,xs,rfl,hx,hd⟩:=rd.d6;have hl:=hd.length;refine⟨_,Z,av,_,Z,.inr hx,_,Z,ar,_,Z,.inr yZ,.inl ⟨_,_,Z,Z,_,Z,?_⟩⟩;have k:∀H',aA H H'->Q (.bl (es.length==rs.length&&((es.zip rs).map λp=>cC 0 p.2 p.1).all id)) H':=k;have e0:(decide ((xs.length:Int)=((rs.map V.int).length:Int)))=(es.length==rs.length):=by rw[hl,bR,iW];simp;lia
   rw[e0];cases e:(es.length==rs.length)with |false=>rw[e,fV]at k;exact ba (k H (aA.refl _)) |true=>
    rw[e,iD]at k;refine aV ?_;have el:es.length=rs.length:=cP.mp e;refine⟨_,Z,_,Z,av,ar,Z,⟨_,hx⟩,⟨_,yZ⟩,λD H0 nw=>?_⟩;refine a43 (b1:=false) (b2:=false) (xs:=xs) (ys:=rs.map V.int) (bs:=(es.zip rs).map λp=>cC 0 p.2 p.1) [] rfl hx yZ nw (by rw[bR,bR,List.length_zip,hl]) (by rw[bR,List.length_zip];lia) ?_ ?_
    ·intro i x y b H2 Q' ex ey eb s2 hq
     obtain⟨e',r,ee,er,rfl⟩:=zip_get eb;obtain⟨x',ix,rx⟩:=hd.get i ee;rw[ex]at ix;cases ix;rw[ints_get er]at ey;cases ey;exact⟨_,Z,_,Z,_,e',0,r,Z,RD.mono s2 _ rx,hq _ (aA.refl _)⟩
    ·intro H2 s2 d2
     exact⟨D,_,Z,aK.of d2,k H2 s2⟩
  ·have e:kI rs d=false:=by cases d<;>first|rfl|exact absurd rfl (hn _)
   rw[e]at k;refine⟨_,Z,.inl ⟨_,_,"tuple",false,Z,rd.ty,az,ht,_,Z,ba ?_⟩⟩;exact k H (aA.refl _)
inductive a5Z(K:aa)(vs:List V)(H:Hp)(Q:VK):Prop |mk (pw:_)(b:_)(pl:_)(ns:_)(h0:vs=[pw,.ref b])(h1:RD K H pw (eg pl))(h2:aQ K H b (ns.map V.int))(h3:ns.length=pl.length)(h4:pl.length<=1000)(h5:∀v' H',RD K H' v' (eg (jw pl ns))->aA H H'->Q v' H')
def xW(K:aa):Sp:=λvs H Q _=>a5Z K vs H Q
abbrev BJ:Stmt:=top 35
theorem Jz:bj ["place","steps"] ["place","steps"] (aP BJ):=bw aO
theorem VD(F:FA K mg "moved" BJ)(B:bE mg):aG P w K mg au "moved" 1 (xW K):=by
 refine F.has Jz (λvs H Q E h=>?_) (λ_ _ _ _ _ _=>cH λ_ _=>rfl) (λf aE A outer s H vs Q E hr h=>?_)
 ·obtain⟨pw,b,pl,ns,rfl,_⟩:=h
  rfl
 ·obtain⟨pw,b,pl,ns,rfl,rp,hb,ln,hz,k⟩:=h
  have nd:=Jz.nd;refine⟨_,(aH (aZ (jH (x:="tuple") (mK K Z) Z (B.at "tuple") jz (ao (gP (N:=["number","step"]) (js:=[none,none]) rfl rfl rfl (sO K rfl false false rfl (B.at "zip") (ao (pv 0) (ao (pv 1) ay))) (λ_ _ _ _ _=>(fb K rfl (n:=2) rfl (bU (bu 0 (fX az)) (bU (bu 1 (fX az)) eZ)))) (λ_ _ _ _ _=>gb) (λ_ _ _ _ _=>(aW fM (pv 0) (pv 1)))) ay)))),?_⟩;obtain⟨pa,rfl,hp⟩:=yk rp;refine⟨_,Z,_,Z,pa,b,Z,⟨_,hp⟩,⟨_,hb⟩,λD H1 n1=>?_⟩;refine zK (K:=K) (b1:=false) (b2:=false) (xs:=pl.map V.int) (ys:=ns.map V.int) (ds:=(jw pl ns).map PyData.int) [] rfl hp hb n1 (by simp[G9 ln,ln]) (by rw[bR,G9 ln];exact hz) (mY _) ?_ ?_
  ·intro i x y d H2 Q' ex ey ed s2 hq
   obtain⟨m,em,rfl⟩:=qD ed;rw[cY]at ex ey;cases e1:pl[i]? with |none=>rw[e1]at ex;cases ex |some u=>cases e2:ns[i]? with |none=>rw[e2]at ey;cases ey |some v=>rw[e1]at ex;rw[e2]at ey;cases ex;cases ey;rw[a4P e1 e2]at em;cases em;exact⟨_,Z,_,Z,_,_,Z,Z,hq _ _ (aA.refl _) (cQ _)⟩
  ·intro H2 zs s2 d2 r2
   refine⟨D,_,Z,.inl ⟨aK.of d2,λt H3 n3=>?_⟩⟩;have et:=n3.at';rw[r2.ja]at et;exact k (.ref t) H3 (KG (aQ.of et)) (s2.trans n3.same)
inductive a6s(K:aa)(vs:List V)(H:Hp)(Q:VK):Prop |mk (pw:_)(iv:_)(pl:_)(d:_)(o:_)(h0:vs=[pw,iv])(h1:RD K H pw (eg pl))(h2:RD K H iv d)(h3:itR d o)(h4:(∀ns sp,o=some (ns,sp)->ns.length=pl.length))(h5:pl.length<=1000)(h6:∀v' H',RD K H' v' (eg (fu pl o))->aA H H'->Q v' H')
def sC(K:aa):Sp:=λvs H Q _=>a6s K vs H Q
abbrev Cg:Stmt:=top 34
theorem K5:bj ["place","item"] ["place","item"] (aP Cg):=bw aO
theorem We(F:FA K mg "place_behind" Cg)(B:bE mg)(jS:aG P w K mg au "is_line" 1 (ou K))(Ei:aG P w K mg au "moved" 1 (xW K)):aG P w K mg au "place_behind" 2 (sC K):=by
 refine F.has K5 (λvs H Q E h=>?_) (λ_ _ _ _ _ _=>cH λ_ _=>rfl) (λf aE A outer s H vs Q E hr h=>?_)
 ·obtain⟨pw,iv,pl,d,o,rfl,_⟩:=h
  rfl
 ·obtain⟨pw,iv,pl,d,o,rfl,rp,ri,it,hl,hz,k⟩:=h
  have nd:=K5.nd;refine⟨_,(aH (aZ (gc (bS (pf jS hr (ao (pv 1) ay))) (pf Ei hr (ao (pv 0) (ao (px K (pv 1) aF) ay))) (pv 0)))),?_⟩;refine⟨_,Z,iv,d,o,Z,ri,it,_,Z,?_⟩;cases o with |some q=>obtain⟨ns,sp⟩:=q;refine ba ?_;have ed:=nk it;subst ed;obtain⟨a,b,rfl,ha,hb⟩:=tm ri;exact⟨_,Z,_,Z,.inr ⟨a,_,1,.ref b,Z,Z,ha,Z,pw,b,pl,ns,Z,rp,hb,hl ns sp Z,hz,λv' H' r s=>k v' H' r s⟩⟩ |none=>refine aV ?_;exact⟨_,Z,k pw H rp (aA.refl _)⟩
open _R
def eV(m b d q p r s k t:V):List (Str×V):=[("machine",m),("begun_at",b),("done",d),("queue",q),("pace",p),("rate_now",r),("side",s),("mark",k),("stopping",t)]
structure gm(K:aa)(C:Addr):Prop where
 cl:gH K C
 mZ:gp K C "machine"
 qB:gp K C "begun_at"
 lR:gp K C "done"
 ib:gp K C "queue"
 vm:gp K C "pace"
 yJ:gp K C "rate_now"
 Lz:gp K C "side"
 LA:gp K C "mark"
 yI:gp K C "stopping"
structure bQ where
 rs:List Int
 r:Int
 f:Int
 j:Int
 t:Int
abbrev bQ.D(M:bQ):ah:=gR M.rs M.r M.f M.j M.t
abbrev bQ.Ok(M:bQ):Prop:=lg M.rs M.r M.f M.j M.t
structure bO where
 pl:List Int
 dn:Nat
 ds:List ah
 os:List Itm
 pc:Rat
 rate:Int
 side:Str
 mark:Str
 bf:_R.la
def u6(K:aa)(H:Hp)(v:V):_R.la->Prop |none=>v= .aY |some (sq,st,gn)=>∃a u,v= .ref a/\aQ K H a [u,.int st,.int gn]/\bM K H u sq
structure dC(M:bQ)(D:Nat)(S:bO):Prop where
 row:fh M.rs.length S.ds S.os
 rw:RowW S.ds S.os
 len:S.ds.length<=20
 dy:10<=S.rate
 dM:S.rate<=200
 dn:S.dn=0\/∃ns sp,S.os[0]? =some (some (ns,sp))/\S.dn<aJ ns
 pl:S.pl.length=M.rs.length
 pd:Dd (D+10) S.pc
 pm:S.pc<=1600
 bf:pI D S.pc S.bf
 D1:64<=D
 D2:D<=1500
structure cx(K:aa)(C:Addr)(H:Hp)(a q:Addr)(M:bQ)(S:bO):Prop where
 ob:∃dx mv bv cf tv,H a=some (.ins C dx (eV mv bv (.int S.dn) (.ref q) cf (.int S.rate) (.str S.side) (.str S.mark) tv))/\RD K H mv M.D/\RD K H bv (eg S.pl)/\bM K H cf S.pc/\u6 K H tv S.bf
 qu:∃ys,H q=some (.lst ys)/\aI K H ys S.ds
theorem bM.v{H H':Hp}{v:V}{q:Rat}(s:cA H H')(h:bM K H v q):bM K H' v q:=by obtain⟨p,rfl,hp⟩:=h;exact⟨p,Z,aQ.v s hp⟩
theorem u6.v{H H':Hp}{v:V}{t:_R.la}(s:cA H H')(h:u6 K H v t):u6 K H' v t:=by cases t with |none=>exact h |some q=>obtain⟨sq,st,gn⟩:=q;obtain⟨a,u,rfl,h1,h2⟩:=h;exact⟨a,u,Z,aQ.v s h1,bM.v s h2⟩
theorem cx.go{C:Addr}{H H':Hp}{a q:Addr}{M:bQ}{S:bO}(h:cx K C H a q M S)(hn:bX S.ds=true)(s:cA H H')(ea:∀o,H a=some o->H' a=some o)(eq:∀o,H q=some o->H' q=some o):cx K C H' a q M S:=by obtain⟨⟨dx,mv,bv,cf,tv,e,r1,r2,r3,r4⟩,ys,w6,rq⟩:=h;exact⟨⟨dx,mv,bv,cf,tv,ea _ e,RD.v s _ (kG _ _ _ _ _) r1,RD.v s _ (ky _) r2,r3.v s,r4.v s⟩,ys,eq _ w6,aI.v s _ hn rq⟩
theorem cx.same{C:Addr}{H H':Hp}{a q:Addr}{M:bQ}{S:bO}(h:cx K C H a q M S)(hn:bX S.ds=true)(s:aA H H'):cx K C H' a q M S:=h.go hn s.v (λo e=>s _ _ e) (λo e=>s _ _ e)
theorem cx.ne{C:Addr}{H:Hp}{a q:Addr}{M:bQ}{S:bO}(h:cx K C H a q M S):a≠q:=by obtain⟨⟨dx,mv,bv,cf,tv,e,_⟩,ys,w6,_⟩:=h;exact Dx e w6 (by intro z;cases z)
theorem cx.v{C:Addr}{H H':Hp}{a q:Addr}{M:bQ}{S:bO}(h:cx K C H a q M S)(b:cK [a,q] H H'):cA H H':=by
 obtain⟨⟨dx,mv,bv,cf,tv,e,_⟩,ys,w6,_⟩:=h;refine b.v λx hx o eo=>?_;simp only[bZ,dX,gs]at hx;rcases hx with rfl|rfl
 ·rw[e]at eo;cases eo;trivial
 ·rw[w6]at eo;cases eo;trivial
inductive a5t(K:aa)(C:Addr)(G:bQ->bO->Hp->VK->Prop)(vs:List V)(H:Hp)(Q:VK):Prop |mk (a:_)(q:_)(M:_)(D:_)(S:_)(h0:vs=[.ref a])(h1:cx K C H a q M S)(h2:dC M D S)(h3:M.Ok)(h4:G M S H Q)
def iY(K:aa)(C:Addr)(G:bQ->bO->Hp->VK->Prop):Sp:=λvs H Q _=>a5t K C G vs H Q
abbrev Bs:Stmt:=inClass (top 77) 8
theorem Sb:bj ["self"] ["self"] (aP Bs):=bw aO
theorem Vi{C:Addr}(F:MA K C "is_held" "Runner.is_held" Bs)(TC:gm K C):eL P w K mg au C "is_held" 1 (iY K C λ_ S H Q=>Q (.bl S.bf.isSome) H):=by
 refine F.has Sb (λvs H Q E h=>?_) (λ_ _ _ _ _ _=>fE λ_=>rfl) (λf aE A outer s H vs Q E hr h=>?_)
 ·obtain⟨a,q,M,D,S,rfl,_⟩:=h
  rfl
 ·obtain⟨a,q,M,D,S,rfl,R,ok,aM,k⟩:=h
  obtain⟨dx,mv,bv,cf,tv,e,r1,r2,r3,r4⟩:=R.ob;refine⟨_,(aH (aZ (jG Df (cV TC.cl TC.yI (pv 0)) hV (bL _)))),_,Z,a,dx,_,_,Z,e,Z,?_⟩;cases hs:S.bf with |none=>rw[hs]at r4 k;cases(show tv= .aY from r4);exact⟨Z,k⟩ |some z=>rw[hs]at r4 k;obtain⟨sq,st,gn⟩:=z;obtain⟨b,u,rfl,_⟩:=r4;exact⟨Z,k⟩
theorem Tb(q:Rat):PyData.eqv (cB q) (cB 0)=decide (q=0):=by
 by_cases h:q=0
 ·rw[cn h];exact eqR h
 ·rw[df h]
  cases e:PyData.eqv (cB q) (cB 0)with |false=>rfl |true=>
   exfalso;apply h;have e':(PyData.eqv (.int q.num) (.int (0:Rat).num)&&(PyData.eqv (.int (q.den:Int)) (.int ((0:Rat).den:Int))&&true))=true:=e;rw[An,cZ]at e';obtain⟨a,b⟩:=e';have h1:q.num=(0:Rat).num:=by simpa[PyData.eqv]using a
   have h2:(q.den:Int)=((0:Rat).den:Int):=by simpa[PyData.eqv]using b
   exact Rat.ext h1 aw
abbrev Bm:Stmt:=inClass (top 77) 9
theorem S7:bj ["self"] ["self"] (aP Bm):=bw aO
theorem Vb{C:Addr}(F:MA K C "stands" "Runner.stands" Bm)(TC:gm K C)(gN:GT K mg "NOUGHT" [.int 0,.int 1]):eL P w K mg au C "stands" 1 (iY K C λ_ S H Q=>Q (.bl (decide (S.pc=0))) H):=by
 obtain⟨aN,jr,lJ⟩:=gN;refine F.has S7 (λvs H Q E h=>?_) (λ_ _ _ _ _ _=>fE λ_=>rfl) (λf aE A outer s H vs Q E hr h=>?_)
 ·obtain⟨a,q,M,D,S,rfl,_⟩:=h
  rfl
 ·obtain⟨a,q,M,D,S,rfl,R,ok,aM,k⟩:=h
  obtain⟨dx,mv,bv,cf,tv,e,r1,r2,r3,r4⟩:=R.ob;refine⟨_,(aH (aZ (jG (dR K Z hr.units) (cV TC.cl TC.vm (pv 0)) (cy (x:="NOUGHT") rfl jr) (bL _)))),_,Z,a,dx,_,_,Z,e,Z,.inr ⟨_,_,r3.rd,(sW (lJ H)).rd,Z,Z,?_⟩⟩;rw[Tb];exact k
abbrev Br:Stmt:=inClass (top 77) 10
theorem Sa:bj ["self"] ["self"] (aP Br):=bw aO
theorem Vh{C:Addr}(F:MA K C "is_halted" "Runner.is_halted" Br)(TC:gm K C)(ED:eL P w K mg au C "is_held" 1 (iY K C λ_ S H Q=>Q (.bl S.bf.isSome) H))(EB:eL P w K mg au C "stands" 1 (iY K C λ_ S H Q=>Q (.bl (decide (S.pc=0))) H)):eL P w K mg au C "is_halted" 2 (iY K C λ_ S H Q=>Q (.bl (S.bf.isSome&&decide (S.pc=0))) H):=by
 refine F.has Sa (λvs H Q E h=>?_) (λ_ _ _ _ _ _=>fE λ_=>rfl) (λf aE A outer s H vs Q E hr h=>?_)
 ·obtain⟨a,q,M,D,S,rfl,_⟩:=h
  rfl
 ·obtain⟨a,q,M,D,S,rfl,R,ok,aM,k⟩:=h
  obtain⟨dx,mv,bv,cf,tv,e,r1,r2,r3,r4⟩:=R.ob;refine⟨_,(aH (aZ (qr (kA ED TC.cl (hr.mono az) (pv 0)) (sQ (kA EB TC.cl (hr.mono az) (pv 0)))))),_,Z,a,dx,_,Z,e,Z,a,q,M,D,S,Z,R,ok,aM,_,Z,?_⟩;cases hs:S.bf.isSome with |false=>rw[hs]at k;exact aV k |true=>rw[hs]at k;refine ba ⟨_,Z,a,dx,_,Z,e,Z,a,q,M,D,S,Z,R,ok,aM,?_⟩;exact k
structure mx(n:Nat)(d:ah)(o:Itm):Prop where
 it:itR d o
 ln:∀ns sp,o=some (ns,sp)->eX n 100 ns/\1<=sp/\sp<=20
 ot:o=none->r9 d
theorem X6{z:Str}(h:Dz z=true):isNm (.str z)=true:=h
theorem a4I:∀{ns:List Int},(∃z∈ns,z≠0)->(ns.map PyData.int).any vg=true:=λ{ns} ⟨z,hz,h⟩=>List.any_eq_true.mpr ⟨.int z,gu.mpr ⟨z,hz,Z⟩,by show(z !=0)=true;simpa using h⟩
theorem a4N{ns:List Int}(h:∀z∈ns,(z.natAbs:Int)<=100):(ns.map PyData.int).all (cC (-100) 100)=true:=by rw[fF];intro d hd;obtain⟨z,hz,rfl⟩:=gu.mp hd;have:=h z hz;show(decide (-100<=z)&&decide (z<=100))=true;rw[cn bN,cn bN];rfl
theorem mx.is{n:Nat}{d:ah}{o:Itm}(h:mx n d o):gT n d=true/\cD 8 d/\lL d=true:=by cases o with
 |some q=>
  obtain⟨ns,sp⟩:=q;have ed:=nk h.it;subst ed;obtain⟨da,s1,s2⟩:=h.ln ns sp rfl;refine⟨?_,?_,Z⟩
  ·show(fO "line" (.str "line")&&(qy n (.tuple (ns.map PyData.int))&&cC 1 20 (.int sp)))=true
   have e1:fO "line" (.str "line")=true:=by decide+kernel
   have e2:qy n (.tuple (ns.map PyData.int))=true:=by show(((ns.map PyData.int).length==n&&(ns.map PyData.int).all (cC (-100) 100))&&(ns.map PyData.int).any vg)=true;rw[a4N da.bd,a4I da.nz,bR,da.len,wU];rfl
   have e3:cC 1 20 (.int sp)=true:=by show(decide (1<=sp)&&decide (sp<=20))=true;rw[cn s1,cn s2];rfl
   rw[e1,e2,e3];rfl
  ·refine(fQ.tup (n:=1) (.cons ⟨aO,fw _⟩ (.cons (fQ.tup (n:=0) λd hd=>?_) (.cons (.int _) .nil)))).le az
   obtain⟨a,_,rfl⟩:=gu.mp hd;exact .int _ |none=>
  rcases h.ot rfl with⟨z,rfl,z1,z2⟩|⟨w,s,rfl,hw,vb,on⟩
  ·refine⟨?_,(fQ.tup (n:=0) (.cons ⟨aO,fw _⟩ (.cons (.int _) .nil))).le az,Z⟩
   show nu (.str "wait") (.int z)=true;unfold nu;rw[bo aO];show(decide (1<=z)&&decide (z<=1000))=true;rw[cn z1,cn z2];rfl
  ·have Yr:iZ (.str s)=true:=by
    refine cn ?_;rcases on with⟨_,rfl|rfl⟩|⟨_,hn⟩
    ·decide+kernel
    ·decide+kernel
    ·unfold Dz at hn
     simp only[cZ,A8]at hn
     lia
   refine⟨?_,(fQ.tup (n:=0) (.cons ?_ (.cons vb .nil))).le az,?_⟩
   ·rcases on with⟨rfl,hs⟩|⟨rfl,hn⟩
    ·show nu (.str "tool") (.str s)=true
     unfold nu;rw[bh aO,bo aO];rcases hs with rfl|rfl<;>decide+kernel
    ·show nu (.str "mark") (.str s)=true
     unfold nu;rw[bh aO,bh aO];rw[X6 hn];decide+kernel
   ·rcases hw with rfl|rfl<;>exact⟨aO,fw _⟩
   ·show([.str w,.str s]:List ah).all iZ=true
    rw[xn,xn,List.all_nil,Yr];rcases hw with rfl|rfl<;>decide+kernel
def HM(ns:List Int)(k:Int):List Int:=ns.map λz=>qA (k*z) (aJ ns)
def qm(S:bO):List Int:=if S.dn=0 then S.pl else match S.os[0]? with |some (some (ns,_))=>jw S.pl (HM ns S.dn) |_=>S.pl
def iK(S:bO):List Int:=S.os.foldl fu S.pl
theorem zQ{n:Nat}{pl:List Int}{o:Itm}(h:pl.length=n)(ho:∀ns sp,o=some (ns,sp)->ns.length=n):(fu pl o).length=n:=by cases o with |none=>exact h |some q=>obtain⟨ns,sp⟩:=q;show(jw pl ns).length=n;rw[G9 (by rw[ho ns sp Z,h])];exact h
theorem F1{n:Nat}:∀(os:List Itm)(pl:List Int),pl.length=n->(∀o∈os,∀ns sp,o=some (ns,sp)->ns.length=n)->(os.foldl fu pl).length=n |[],pl,h,_=>h |o::os,pl,h,ho=>F1 os (fu pl o) (zQ h (ho o (.head _))) λx hx=>ho x (.tail _ hx)
theorem dC.vb{M:bQ}{D:Nat}{S:bO}(h:dC M D S):∀o∈S.os,∀ns sp,o=some (ns,sp)->ns.length=M.rs.length:=λo ho ns sp e=>by obtain⟨i,hi⟩:=xf.mp ho;rw[e]at hi;exact(h.row.ok i ns sp hi).1.len
theorem dC.first{M:bQ}{D:Nat}{S:bO}(h:dC M D S)(hn:S.dn≠0):∃ns sp,S.os[0]? =some (some (ns,sp))/\S.dn<aJ ns:=by
 rcases h.dn with e|e
 ·exact(hn e).elim
 ·exact e
abbrev Bn:Stmt:=inClass (top 77) 1
theorem S8:bj ["self"] ["self"] (aP Bn):=bw aO
theorem Vc{C:Addr}(F:MA K C "place" "Runner.place" Bn)(TC:gm K C)(Ei:aG P w K mg au "moved" 1 (xW K))(yY:aG P w K mg au "stand_at" 2 (xR K)):eL P w K mg au C "place" 3 (iY K C λ_ S H Q=>∀v H',RD K H' v (eg (qm S))->aA H H'->Q v H'):=by
 refine F.has S8 (λvs H Q E h=>?_) (λ_ _ _ _ _ _=>fE λ_=>rfl) (λf aE A outer s H vs Q E hr h=>?_)
 ·obtain⟨a,q,M,D,S,rfl,_⟩:=h
  rfl
 ·obtain⟨a,q,M,D,S,rfl,R,ok,aM,k⟩:=h
  obtain⟨dx,mv,bv,cf,tv,e,r1,r2,r3,r4⟩:=R.ob;obtain⟨ys,eq,rq⟩:=R.qu;refine⟨_,(aD (bD (bT (dR K Z hr.units) (cV TC.cl TC.lR (pv 0)) aF (bL _)) (aH (aZ (cV TC.cl TC.qB (pv 0)))) bG) (aH (aZ (pf Ei hr (ao (cV TC.cl TC.qB (pv 0)) (ao (pf yY hr (ao (px K (cV TC.cl TC.ib (pv 0)) aF) (ao (cV TC.cl TC.lR (pv 0)) ay))) ay)))))),_,Z,a,dx,_,_,Z,e,Z,.inl ⟨_,_,Z,Z,_,Z,?_⟩⟩;by_cases h0:S.dn=0
  ·rw[cn aw]
   have ep:qm S=S.pl:=by unfold qm;rw[bo h0]
   rw[ep]at k;exact ba ⟨_,Z,a,dx,_,_,Z,e,Z,k bv H r2 (aA.refl _)⟩
  ·rw[df aw]
   refine aV ?_;obtain⟨ns,sp,eo,hd⟩:=ok.first h0;obtain⟨da,gB,gO⟩:=ok.row.ok 0 ns sp eo;have ep:qm S=jw S.pl (HM ns S.dn):=by unfold qm;rw[bh h0,eo]
   rw[ep]at k;have ll:=ok.row.len;have zc:0<S.os.length:=(eY.mp eo).1;obtain⟨d,ed⟩:∃d,S.ds[0]? =some d:=⟨_,cI (show 0<S.ds.length by lia)⟩;obtain⟨y,ey,ry⟩:=rq.get 0 ed;have it:=ok.row.it 0 d _ ed eo;have jt:=nk it;subst jt;have DT:=vq da;have lr:=aM.len;refine⟨_,Z,a,dx,_,_,Z,e,Z,?_⟩;refine⟨_,Z,a,dx,_,_,Z,e,Z,.inl ⟨q,_,0,y,Z,Z,aK.of eq,eK (gL 0) ey,?_⟩⟩;refine⟨_,Z,a,dx,_,_,Z,e,Z,y,ns,sp,_,Z,ry,⟨Z,λz hz=>by have:=da.bd z hz;lia,da.nz⟩,by rw[da.len];lia,aw,λu H1 ru s1=>?_⟩;obtain⟨b,xs,rfl,hb,hx⟩:=ru.d6;rw[hx.ja]at hb;exact⟨bv,b,S.pl,_,Z,RD.mono s1 _ r2,hb,by rw[bR,da.len,ok.pl],by rw[ok.pl];lia,λv H2 rv s2=>k v H2 rv (s1.trans s2)⟩
abbrev Bp:Stmt:=inClass (top 77) 2
theorem Jj:bj ["self","here","item"] ["self"] (aP Bp):=bw aO
theorem Vf{C:Addr}(F:MA K C "leads_to" "Runner.leads_to" Bp)(TC:gm K C)(qL:aG P w K mg au "place_behind" 2 (sC K)):eL P w K mg au C "leads_to" 3 (iY K C λ_ S H Q=>∀v H',RD K H' v (eg (iK S))->aA H H'->Q v H'):=by
 refine F.has Jj (λvs H Q E h=>?_) (λ_ _ _ _ _ _=>fE λ_=>rfl) (λf aE A outer s H vs Q E hr h=>?_)
 ·obtain⟨a,q,M,D,S,rfl,_⟩:=h
  rfl
 ·obtain⟨a,q,M,D,S,rfl,R,ok,aM,k⟩:=h
  obtain⟨dx,mv,bv,cf,tv,e,r1,r2,r3,r4⟩:=R.ob;obtain⟨ys,eq,rq⟩:=R.qu;have nd:=Jj.nd;have ll:=ok.row.len;have ly:=rq.length;have lr:=aM.len;refine⟨_,(aD (pS 1 nd (cV TC.cl TC.qB (pv 0))) (aD (j7 iQ Z (yn K Z (cV TC.cl TC.ib (pv 0))) (bu 2 nd) (aH (pS 1 nd (pf qL hr (ao (pv 1) (ao (pv 2) ay)))))) (aH (aZ (pv 1))))),_,Z,a,dx,_,_,Z,e,Z,_,Z,a,dx,_,_,Z,e,Z,q,Z,⟨_,aK.of eq⟩,?_⟩;refine Nc (K:=K) (a:=q) (xs:=ys) (λi O H1=>aA H H1/\∃hv v2,RD K H1 hv (eg ((S.os.take i).foldl fu S.pl))/\O=[some (.ref a),some hv,v2]) ⟨aA.refl _,bv,none,r2,Z⟩ (λi O H1 _ h=>aK.of (h.1 _ _ eq)) ?_ ?_
  ·rintro i x O H1 hx ⟨s1,hv,v2,rh,rfl⟩
   obtain⟨d,ed,rd⟩:=rq.get' i hx;obtain⟨o,eo,it⟩:=ok.row.get ed;have lp:((S.os.take i).foldl fu S.pl).length=M.rs.length:=F1 _ _ ok.pl λo ho=>ok.vb o (x9 ho);refine⟨_,Z,_,Z,hv,x,_,d,o,Z,rh,RD.mono s1 _ rd,it,λns sp e'=>by rw[lp];exact ok.vb o (iS eo) ns sp e',aw,λv H2 rv s2=>?_⟩;refine⟨s1.trans s2,v,_,?_,Z⟩;rw[uo,eo,List.foldl_append];exact rv
  ·rintro O H1 ⟨s1,hv,v2,rh,rfl⟩
   rw[ly,ll,Ag]at rh;exact⟨_,Z,k hv H1 rh s1⟩
structure Mv(a q:Addr)(H:Hp)(q':Addr)(H':Hp):Prop where
 but:cK [a,q] H H'
 nq:q'=q\/H q'=none
abbrev Bq:Stmt:=inClass (top 77) 0
theorem S9:bj ["self","machine","place"] ["self","machine","place"] (aP Bq):=bw aO
def mO(pl:List Int):bO:=⟨pl,0,[],[],0,100,"up","",none⟩
inductive a5I(K:aa)(C:Addr)(vs:List V)(H:Hp)(Q:VK):Prop |mk (a:_)(dx:_)(mv:_)(bF:_)(M:_)(pl:_)(h0:vs=[.ref a,mv,bF])(h1:H a=some (.ins C dx []))(h2:RD K H mv (bQ.D M))(h3:RD K H bF (eg pl))(h4:∀q H',cx K C H' a q M (mO pl)->H q=none->cK [a] H H'->Q .aY H')
def uG(K:aa)(C:Addr):Sp:=λvs H Q _=>a5I K C vs H Q
theorem Vg{C:Addr}(F:CA K mg C "Runner" "Runner.__init__" Bq)(TC:gm K C)(gN:GT K mg "NOUGHT" [.int 0,.int 1])(a0W:GV mg "FIRST_RATE" (.int 100)):rk P w K mg au C "Runner" 1 (uG K C):=by
 obtain⟨aN,jr,lJ⟩:=gN;refine F.has S9 (λvs H Q E h=>?_) (λ_ _ _ _ _ _=>iM λ_ _ _=>rfl) (λf aE A outer s H vs Q E hr h=>?_)
 ·obtain⟨a,dx,mv,bF,M,pl,rfl,_⟩:=h
  rfl
 ·obtain⟨a,dx,mv,bF,M,pl,rfl,e,rm,rp,k⟩:=h
  refine⟨_,(aD (fG TC.cl TC.mZ (pv 0) (pv 1)) (aD (fG TC.cl TC.qB (pv 0) (pv 2)) (aD (fG TC.cl TC.lR (pv 0) aF) (aD (fG TC.cl TC.ib (pv 0) (dE ay)) (aD (fG TC.cl TC.vm (pv 0) (cy (x:="NOUGHT") rfl jr)) (aD (fG TC.cl TC.yJ (pv 0) (cy (x:="FIRST_RATE") rfl a0W)) (aD (fG TC.cl TC.Lz (pv 0) ck) (aD (fG TC.cl TC.LA (pv 0) ck) (aH (fG TC.cl TC.yI (pv 0) hV)))))))))),?_⟩;refine⟨_,Z,_,Z,a,dx,_,Z,e,az,?_⟩;refine⟨_,Z,_,Z,a,dx,_,Z,bp,by show 1<1000;decide,?_⟩;refine⟨_,Z,a,dx,_,Z,bp,by show 2<1000;decide,?_⟩;refine⟨bC Z,λq H1 n1=>?_⟩;have aq:a≠q:=λz=>by have:=n1.no;rw[<-z,bp]at this;cases this
  have e1:=n1.same _ _ (bp (a:=a));refine⟨_,Z,a,dx,_,Z,e1,by show 3<1000;decide,?_⟩;refine⟨_,Z,a,dx,_,Z,bp,by show 4<1000;decide,?_⟩;refine⟨_,Z,a,dx,_,Z,bp,by show 5<1000;decide,?_⟩;refine⟨_,Z,a,dx,_,Z,bp,by show 6<1000;decide,?_⟩;refine⟨_,Z,a,dx,_,Z,bp,by show 7<1000;decide,?_⟩;refine⟨_,Z,a,dx,_,Z,bp,by show 8<1000;decide,?_⟩;have key:∀X:Hp,(∀b,b≠a->X b=H1 b)->Q .aY (_L.upd X a (.ins C dx (eV mv bF (.int 0) (.ref q) (.ref aN) (.int 100) (.str "up") (.str "") .aY))):=by
   intro X hX;have bt:cK [a] H (_L.upd X a (.ins C dx (eV mv bF (.int 0) (.ref q) (.ref aN) (.int 100) (.str "up") (.str "") .aY))):=λb o eb hb=>by have ha:b≠a:=λz=>hb (by rw[z];exact .head _);rw[aL ha,hX b ha];exact n1.same _ _ (by rw[aL ha,aL ha,aL ha];exact eb)
   have sv:=bt.v λx hx o eo=>by rw[eB]at hx;rw[hx,e]at eo;cases eo;trivial
   refine k q _ ⟨⟨dx,mv,bF,.ref aN,.aY,bp,RD.v sv _ (kG _ _ _ _ _) rm,RD.v sv _ (ky _) rp,sW (lJ _),Z⟩,[],?_,bW⟩ ?_ bt
   ·rw[aL aq.symm,hX q aq.symm];exact n1.at'
   ·have:=n1.no
    rw[aL aq.symm,aL aq.symm,aL aq.symm]at this;exact this
  exact key _ (λb hb=>by rw[aL hb,aL hb,aL hb,aL hb,aL hb])
theorem CG{M:bQ}{pl:List Int}(hp:pl.length=M.rs.length):dC M 64 (mO pl):=⟨.nil,λi d e=>by simp[mO]at e,by simp[mO],(show(10:Int)<=100 by decide),(show(100:Int)<=200 by decide),.inl rfl,hp,⟨(show(0:Rat)<=0 by decide),(show(0:Rat).den<2^74 by decide+kernel)⟩,(show(0:Rat)<=1600 by decide+kernel),trivial,az,az⟩
theorem UN{rs pl:List Int}(h:jV rs pl):kI rs (eg pl)=true:=by show((pl.map PyData.int).length==rs.length&&(((pl.map PyData.int).zip rs).map λp=>cC 0 p.2 p.1).all id)=true;rw[bR,h.len,wU,iD,fF];intro b hb;obtain⟨⟨d,r⟩,hm,rfl⟩:=gu.mp hb;obtain⟨i,hi⟩:=xf.mp hm;obtain⟨e1,e2⟩:=(xj (z:=(d,r))).mp hi;rw[cY]at e1;cases e:pl[i]? with |none=>rw[e]at e1;cases e1 |some x=>rw[e]at e1;cases e1;obtain⟨a1,a2⟩:=h.at' i x r e e2;show(decide (0<=x)&&decide (x<=r))=true;rw[cn a1,cn a2];rfl
def zy(S:bO)(d:ah)(o:Itm):bO:={S with ds:=S.ds++[d],os:=S.os++[o]}
theorem dC.Nh{M:bQ}{D:Nat}{S:bO}{d:ah}{o:Itm}(h:dC M D S)(it:mx M.rs.length d o)(hl:S.ds.length<20):dC M D (zy S d o):=by
 have ll:=h.row.len;refine⟨h.row.snoc it.it it.ln,RowW.snoc h.rw ll it.ot,by show(S.ds++[d]).length<=20;rw[fj];show _+1<=20;lia,h.dy,h.dM,?_,h.pl,h.pd,h.pm,h.bf,h.D1,h.D2⟩;rcases h.dn with e|⟨ns,sp,e,e2⟩
 ·exact .inl e
 ·refine .inr ⟨ns,sp,?_,e2⟩
  show(S.os++[o])[0]? =_;rw[Ak (eY.mp e).1];exact e
abbrev Bt:Stmt:=inClass (top 77) 11
theorem Jk:bj ["self","item"] ["self","item"] (aP Bt):=bw aO
def FN(s:Stmt):List Stmt:=match s with | .ClassDef _ _ _ b _ _ _ _ _ _ _=>b |_=>[]
abbrev B5:Stmt:=(FN (top 5)).getD 0 (.Pass ⟨0,0,0,0⟩)
theorem J0:bj ["self","at"] ["self","at"] (aP B5):=bw aO
inductive a5l(K:aa)(vs:List V)(H:Hp)(Q:VK):Prop |mk (ex:_)(C:_)(y:_)(h0:vs=[.ref ex,y])(h1:H ex=some (.ext (jx ex C)))(h2:nW K C "at")(h3:∀dx,H dx=none->dx≠ex->Q .aY (_L.upd (_L.upd H dx (.xd [("at",y)])) ex (.ext (gY ex C dx))))
def si(K:aa):Sp:=λvs H Q _=>a5l K vs H Q
theorem Le{f:Addr}{fd:FuncData}(F:gq K "__init__" "OffRails.__init__" B5 f fd):dS P w K mg au eM 1 f fd ["self","at"] (si K):=by
 refine F.ok J0 (λvs H Q E h=>?_) (λaE A outer s H vs Q E hr h=>?_)
 ·obtain⟨ex,C,y,rfl,_⟩:=h
  rfl
 ·obtain⟨ex,C,y,rfl,e1,xc,k⟩:=h
  have nd:=J0.nd;refine⟨_,(aH (CY K Z (pv 0) (pv 1))),?_⟩;exact⟨_,Z,_,Z,ex,C,Z,e1,xc,k⟩
structure zW(K:aa)(mg:bc)(C fI:Addr):Prop where
 e:mz K mg "OffRails" C fI cW dc
 i:PySem.W.findIn K (.ref C) "__init__"=some (some (.ref fI))
 x:nW K C "at"
 f:fnAt K fI=true
 fn:∃fd,gq K "__init__" "OffRails.__init__" B5 fI fd
structure qZ where
 n:Addr
 o:Addr
 f:Addr
 m:Addr
 r:Addr
 i:Addr
structure a55(K:aa)(mg:bc)(R:qZ):Prop where
 n:Exc K mg "NoItem" R.n cW dc
 o:zW K mg R.o R.i
 f:Exc K mg "Full" R.f cW dc
 m:Exc K mg "Moving" R.m cW dc
 r:Exc K mg "NoRate" R.r cW dc
theorem Md{rs pl:List Int}(h:pl.length=rs.length):kI rs (eg pl)=j9 rs pl:=by show((pl.map PyData.int).length==rs.length&&(((pl.map PyData.int).zip rs).map λp=>cC 0 p.2 p.1).all id)=_;rw[bR,h,wU,iD,List.zip_map_left,List.map_map,List.all_map];rfl
inductive a5J(K:aa)(C:Addr)(R:qZ)(vs:List V)(H:Hp)(Q:VK)(E:XK):Prop |mk (a:_)(q:_)(M:_)(D:_)(S:_)(v:_)(d:_)(h0:vs=[.ref a,v])(h1:cx K C H a q M S)(h2:dC M D S)(h3:M.Ok)(h4:RD K H v d)(h5:cD 8 d)(h6:lL d=true)(h7:((gT M.rs.length d=false/\∀H',aA H H'->E (.ref R.n) none H')\/∃o,mx M.rs.length d o/\(j9 M.rs (fu (iK S) o)=false->∀H' dx,aA H H'->H' dx=some (.xd [("at",.int (S.ds.length:Int))])->E (.ref R.o) (some dx) H')/\(j9 M.rs (fu (iK S) o)=true->S.ds.length=20->∀H',aA H H'->E (.ref R.f) none H')/\(j9 M.rs (fu (iK S) o)=true->S.ds.length<20->∀H',cx K C H' a q M (zy S d o)->cK [a,q] H H'->Q (.int (S.ds.length+1:Nat)) H')))
def xT(K:aa)(C:Addr)(R:qZ):Sp:=λvs H Q E=>a5J K C R vs H Q E
theorem Vj{C:Addr}{R:qZ}(F:MA K C "feed" "Runner.feed" Bt)(TC:gm K C)(B:bE mg)(X:a55 K mg R)(a0J:GV mg "MOST_WAITING" (.int 20))(vI:aG P w K mg au "is_item" 4 (uI K))(vG:aG P w K mg au "is_place" 3 (uK K))(qL:aG P w K mg au "place_behind" 2 (sC K))(a17:eL P w K mg au C "leads_to" 3 (iY K C λ_ S H Q=>∀v H',RD K H' v (eg (iK S))->aA H H'->Q v H')):iA P w K mg au C "feed" 5 (xT K C R):=by
 have OC:=X.o;obtain⟨fd,FI⟩:=OC.fn;have a1p:=X.n;have a1q:=X.f;have EK:=OC.e;have EG:dS P w K mg au eM 1 R.i fd ["self","at"] (si K):=Le FI;have ET:Binds K fd ["self","at"] []:=FI.binds (λ_ _ _ _ _ _=>cH λ_ _=>rfl);have EI:=OC.f;refine F.gU Jk (λvs H Q E h=>?_) (λ_ _ _ _ _ _=>cH λ_ _=>rfl) (λf aE A outer s H vs Q E hr h=>?_)
 ·obtain⟨a,q,M,D,S,v,d,rfl,_⟩:=h
  rfl
 ·obtain⟨a,q,M,D,S,v,d,rfl,Ra,ok,aM,rd,i2,i3,kk⟩:=h
  obtain⟨dx,mv,bv,cf,tv,e,r1,r2,r3,r4⟩:=Ra.ob;obtain⟨ys,eq,rq⟩:=Ra.qu;have nd:=Jk.nd;have lr:=aM.len;have ly:=rq.length;refine⟨_,(aD (bD (cE (bS (pf vI hr (ao (cV TC.cl TC.mZ (pv 0)) (ao (pv 1) ay))))) (aH (jF (λ_ _ _ _ _ _ _ I m q=>jB I m q) a1p gJ hr.hd Z (ao ck ay))) bG) (aD (bD (cE (bS (pf vG hr (ao (cV TC.cl TC.mZ (pv 0)) (ao (pf qL hr (ao (kA a17 TC.cl (hr.mono az) (pv 0)) (ao (pv 1) ay))) ay))))) (aH (yj (λ_ _ _ _ _ _ I a b q=>pQ I a b q) EK gJ hr.hd EG (hr.mono az) ET EI Z (ao (fm K B (ao (cV TC.cl TC.ib (pv 0)) ay)) ay))) bG) (aD (bD (bT Dh (fm K B (ao (cV TC.cl TC.ib (pv 0)) ay)) (cy (x:="MOST_WAITING") rfl a0J) (bL _)) (aH (jF (λ_ _ _ _ _ _ _ I m q=>jB I m q) a1q gJ hr.hd Z (ao ck ay))) bG) (aD (gD (oE K Z (cV TC.cl TC.ib (pv 0)) (ao (pv 1) ay))) (aH (aZ (fm K B (ao (cV TC.cl TC.ib (pv 0)) ay)))))))),?_⟩;refine⟨_,Z,a,dx,_,_,Z,e,Z,_,Z,mv,v,M.rs,_,d,Z,r1,rd,aw,i2,i3,λH1 s1=>⟨_,Z,?_⟩⟩;rcases kk with⟨i1,kn⟩|⟨o,it,ko,kf,kd⟩
  ·rw[i1]
   exact ba ⟨bC Z,kn _ s1⟩
  rw[it.is.1];refine aV ?_;have e1:=s1 _ _ e;have R1:=Ra.same ok.row.no s1;refine⟨_,Z,a,dx,_,_,Z,e1,Z,?_⟩;refine⟨_,Z,a,dx,_,Z,e1,Z,a,q,M,D,S,Z,R1,ok,aM,λg H2 rg s2=>?_⟩;have gC:=s1.trans s2;have gl:(iK S).length=M.rs.length:=F1 _ _ ok.pl ok.vb;have bl:(fu (iK S) o).length=M.rs.length:=zQ gl λns sp eo=>(it.ln ns sp eo).1.len;refine⟨_,Z,g,v,iK S,d,o,Z,rg,RD.mono gC _ rd,it.it,λns sp e'=>by rw[gl];exact(it.ln ns sp e').1.len,aw,λu H3 ru s3=>?_⟩;have fD:=gC.trans s3;refine⟨mv,u,M.rs,_,_,Z,RD.mono fD _ r1,ru,aw,λH4 s4=>⟨_,Z,?_⟩⟩;rw[Md bl];have fk:=fD.trans s4;have e4:=fk _ _ e;have eq4:=fk _ _ eq;cases ho:j9 M.rs (fu (iK S) o)with
  |false=>
   refine ba ?_;refine⟨_,Z,a,dx,_,_,Z,e4,Z,q,_,Z,.inl (aK.of eq4),bC Z,λex fx=>?_⟩;refine⟨ex,R.o,_,Z,bp,OC.x,λdd kX ne=>⟨Z,dd,bp,?_⟩⟩;have qQ:H4 dd=none:=by rw[aL ne]at kX;exact kX
   rw[ly];refine ko ho _ dd (λb o' eb=>?_) ?_
   ·have e5:=fk b o' eb
    have nb:b≠ex:=eH e5 fx;have fX:b≠dd:=eH e5 qQ;rw[ml nb,aL nb,aL fX,aL nb];exact e5
   ·rw[ml ne,aL ne,bp] |true=>
   refine aV ?_;refine⟨_,Z,a,dx,_,_,Z,e4,Z,q,_,Z,.inl (aK.of eq4),_,_,Z,Z,_,Z,?_⟩;by_cases N0:S.ds.length=20
   ·rw[show decide ((ys.length:Int)>=20)=true from cn aw]
    exact ba ⟨bC Z,kf ho N0 _ fk⟩
   have M7:=ok.len;rw[show decide ((ys.length:Int)>=20)=false from df aw];refine aV ?_;have gW:sizeLine=16777216:=by decide
   refine⟨_,Z,a,dx,_,_,Z,e4,Z,.inl ⟨Z,_,aK.of eq4⟩,_,Z,q,ys,_,Z,Z,eq4,aw,?_⟩;have aq:=Ra.ne;have tu:cA H4 (_L.upd H4 q (.lst (ys++[v]))):=.upd eq4 trivial;have e5:(_L.upd H4 q (.lst (ys++[v]))) a=some (.ins C dx (eV mv bv (.int S.dn) (.ref q) cf (.int S.rate) (.str S.side) (.str S.mark) tv)):=by rw[aL aq];exact e4
   refine⟨_,Z,a,dx,_,_,Z,e5,Z,q,_,Z,.inl (aK.of bp),?_⟩;have sv:cA H (_L.upd H4 q (.lst (ys++[v]))):=fk.v.trans tu;have el:((ys++[v]).length:Int)=((S.ds.length+1:Nat):Int):=by rw[fj,ly];rfl
   rw[el];refine kd ho aw _ ⟨⟨dx,mv,bv,cf,tv,e5,RD.v sv _ (kG _ _ _ _ _) r1,RD.v sv _ (ky _) r2,r3.v sv,r4.v sv⟩,_,bp,?_⟩ λb o' eb hb=>?_
   ·exact(aI.v sv _ ok.row.no rq).append (bJ (RD.v sv _ it.it.no rd) bW)
   ·have vP:b≠q:=λz=>hb (by rw[z];simp)
    rw[aL vP];exact fk _ _ eb
end
end _a
namespace _a
open PySem PySem.Spec PyProof.Rows _L _l _W
open _T (numIn? figs isFig)
section
variable {P:af}{w:World}{K:aa}{mg:bc}{au:Heap}
def oV:Option Int->V |some i=>.int i |none=>.aY
def oD:Option Int->ah |some i=>.int i |none=>.none
def tP:Str:="0123456789"
theorem a2f:∀c<128,decide (c∈tP.cps.toList)=isFig c:=by decide+kernel
theorem a2h:∀c∈tP.cps.toList,c<128:=by decide+kernel
theorem a2g(c:Nat):decide (c∈tP.cps.toList)=isFig c:=by
 by_cases h:c<128
 ·exact a2f c h
 ·rw[df (λhc=>h (a2h c hc)),isFig,df (show¬c<=57 by omega),Ao]
inductive a5X(vs:List V)(H:Hp)(Q:VK):Prop |mk (z:Str)(h0:vs=[.str z])(h1:z.length<=640)(h2:∀H',aA H H'->Q (oV (numIn? z)) H')
def uH:Sp:=λvs H Q _=>a5X vs H Q
abbrev BI:Stmt:=top 90
theorem Jy:bj ["word","figures"] ["word"] (aP BI):=bw aO
theorem VB(F:FA K mg "number_in" BI)(B:bE mg)(a0X:GV mg "FIGURES" (.str tP)):aG P w K mg au "number_in" 1 uH:=by
 refine F.has Jy (λvs H Q E h=>?_) (λ_ _ _ _ _ _=>fE λ_=>rfl) (λf aE A outer s H vs Q E hr h=>?_)
 ·obtain⟨z,rfl,_⟩:=h
  rfl
 ·obtain⟨z,rfl,hl,k⟩:=h
  have nd:=Jy.nd;have gW:sizeLine=16777216:=by decide
  refine⟨_,(aD (pS 1 nd (Um K Z (pv 0) (ao ck ay))) (aD (bD (PW.pt (kr (bT qv (pv 1) ck (bL _)) (kl (cE (bS (dF (x:="all") (tY K Z Z) Z (B.at "all") wW (ao (gP (N:=["sign"]) (js:=[none]) rfl rfl rfl (KI (pv 1)) (λ_ _ _ _ _=>(bu 0 (oK _))) (λ_ _ _ _ _=>gb) (λ_ _ _ _ _=>(jG L7 (pv 0) (cy (x:="FIGURES") rfl a0X) (by with_unfolding_all rfl)))) ay))))))) (aH (aZ hV)) bG) (aD (bD (PW.pt (oB (bT qv (KP Yy (pv 1) aF (λ_ _=>rfl)) ck (bL _)) (sM (bT UH (pv 0) ck (bL _))))) (aH (aZ hV)) bG) (aH (aZ (jH (x:="int") a4l Z (B.at "int") PyProof.Rows.boot_int (ao (pv 0) ay))))))),?_⟩;refine⟨_,Z,Z,z,"-",Z,Z,bN,?_⟩;have ef:=_T.SK z;generalize hz:Txt.removeprefix z "-"=y at ef;unfold numIn? at k;rw[<-ef]at k;have hly:y.length<=z.length:=by
   have e1:y.cps.toList.length=(figs z).length:=by rw[ef]
   have e2:(figs z).length<=z.cps.toList.length:=by
    unfold figs;split
    ·rename_i h;rw[h];simp
    ·rename_i h _;exact bB _
   simpa[Str.length]using fz (Nat.le_of_eq e1) e2
  refine⟨_,Z,Z,_,Z,?_⟩;refine fZ (λh0=>?_) (λh0=>?_)
  ·have hy:y="":=by simpa using h0
   rw[hy]at k;exact ba (k H (aA.refl _))
  ·have hy:y≠"":=by simpa using h0
   have dI:y.cps.toList≠[]:=λe=>hy (_T.a3W (by rw[e];rfl));have he:y.cps.toList.isEmpty=false:=by cases h:y.cps.toList with|nil=>exact(dI h).elim|cons=>rfl
   rw[he,Bool.false_or]at k;refine⟨_,Z,y,Z,λD H0 nw=>?_⟩;refine O4 (f:=isFig) [] nw bN (λc H2 Q' hc s2 hq=>?_) (λH2 s2 d2=>?_)
   ·refine⟨_,Z,c,tP,Z,Z,?_⟩
    rw[a2g];exact hq _ (aA.refl _)
   ·refine⟨D,_,Z,aK.of d2,?_⟩
    rw[Oz];refine⟨_,Z,?_⟩;cases hf:y.cps.toList.all isFig with |false=>rw[hf]at k;exact ba (k H2 s2) |true=>rw[hf]at k;refine aV ?_;obtain⟨n,hn⟩:=_T.YK (z:=z) (by rw[<-ef];exact dI) (by rw[<-ef];exact hf) bN;rw[hn]at k;cases hc:y.cps.toList with |nil=>exact(dI hc).elim |cons c r=>
     refine⟨_,Z,y,0,c,Z,Z,bN,eK (gL 0) (by rw[hc];rfl),Z,_,Z,?_⟩;have e0:decide (y.cps.toList[0]? =some 48)=decide (V.str ⟨#[c]⟩=V.str "0"):=by
      rw[hc,iW];simp only[A8];refine⟨λh=>?_,λh=>?_⟩
      ·have h:c=48:=by simpa using h
       rw[h];decide+kernel
      ·have h:(⟨#[c]⟩:Str)="0":=by simpa using h
       have h2:[c]=[48]:=(o9 (λz:Str=>z.cps.toList) h).trans aO;simpa using h2
     rw[e0]at k;have e1:(!decide (z="0"))= !decide (V.str z=V.str "0"):=by simp
     rw[e1]at k;cases h1:decide (V.str ⟨#[c]⟩=V.str "0")with
     |true=>rw[h1,iD]at k;refine ba ⟨_,Z,Z,_,Z,?_⟩;cases h2: !decide (V.str z=V.str "0")with |true=>rw[h2]at k;exact ba (k H2 s2) |false=>rw[h2]at k;exact aV ⟨_,Z,z,n,Z,hn,hl,k H2 s2⟩
     |false=>rw[h1,fV]at k;exact aV ⟨_,Z,z,n,Z,hn,hl,k H2 s2⟩
inductive a5W(K:aa)(vs:List V)(H:Hp)(Q:VK):Prop |mk (l:Addr)(zs:List Str)(h0:vs=[.ref l])(h1:aK K H l (zs.map V.str))(h2:zs.length<=1000)(h3:(∀z∈zs,z.length<=640))(h4:∀p H',aA H H'->H p=none->H' p=some (.lst (zs.map λz=>oV (numIn? z)))->Q (.ref p) H')
def AN(K:aa):Sp:=λvs H Q _=>a5W K vs H Q
theorem yA{H:Hp}(o:Option Int):RD K H (oV o) (oD o):=by cases o with |none=>exact oA |some i=>exact cQ _
theorem Wt{H:Hp}{v:V}{o:Option Int}(h:RD K H v (oD o)):v=oV o:=by cases o with |none=>exact h.yG |some i=>exact h.int_inv
theorem Lj{H:Hp}:∀{xs:List V}{zs:List Str},aI K H xs (zs.map λz=>oD (numIn? z))->xs=zs.map λz=>oV (numIn? z) |xs,[],h=>h.nil_inv |xs,n::ns,h=>by obtain⟨y,ys,rfl,h1,h2⟩:=h.cons_inv;rw[Wt h1,Lj h2];rfl
theorem Wu(zs:List Str):bX (zs.map λz=>oD (numIn? z))=true:=eO.mpr λd hd=>by obtain⟨z,_,rfl⟩:=gu.mp hd;cases numIn? z<;>rfl
abbrev BG:Stmt:=top 89
theorem Jw:bj ["words"] ["words"] (aP BG):=bw aO
theorem VA(F:FA K mg "numbers_in" BG)(B:bE mg)(vB:aG P w K mg au "number_in" 1 uH):aG P w K mg au "numbers_in" 2 (AN K):=by
 refine F.has Jw (λvs H Q E h=>?_) (λ_ _ _ _ _ _=>fE λ_=>rfl) (λf aE A outer s H vs Q E hr h=>?_)
 ·obtain⟨l,zs,rfl,_⟩:=h
  rfl
 ·obtain⟨l,zs,rfl,hl,hn,hz,k⟩:=h
  have nd:=Jw.nd;refine⟨_,(aH (aZ (gP (N:=["word"]) (js:=[none]) Z Z Z (yn K Z (pv 0)) (λ_ _ _ _ _=>(bu 0 (oK _))) (λ_ _ _ _ _=>gb) (λ_ _ _ _ _=>(pf vB hr (ao (pv 0) ay)))))),?_⟩;refine⟨_,Z,l,Z,⟨_,hl⟩,λD H1 n1=>?_⟩;refine O2 (K:=K) (ds:=zs.map λz=>oD (numIn? z)) _ hl n1 (by simp) (by simp;omega) (Wu _) ?_ ?_
  ·intro i x d H2 Q' ex ed s2 hq
   rw[cY]at ex ed;obtain⟨z,ez,rfl⟩:=Pp.mp ex;rw[ez]at ed;cases ed;exact⟨_,Z,z,Z,hz z (iS ez),λH3 s3=>hq _ _ s3 (yA _)⟩
  ·intro H2 ys s2 d2 r2
   rw[Lj r2]at d2;exact k D H2 s2 n1.no d2
def qY(z:Str):Prop:=∀c∈z.cps.toList,c<0x110000
theorem Dk{n:Nat}{z:Str}(h:qY z):cD n (.str z):=⟨by show PyData.strOk z=true;unfold PyData.strOk;rw[a7r];exact λc hc=>cn (h c (by simpa using hc)),fw _⟩
theorem N3{c x:Nat}:∀{as:List (List Nat)}{a:List Nat},a∈as->x∈a->x∈_T.gl c as
 |[],a,h,_=>nomatch h |[b],a,h,hx=>by rw[eB.mp h]at hx;exact hx |b::d::r,a,h,hx=>by
  show x∈b++c::_T.gl c (d::r);rcases bZ.mp h with rfl|h
  ·exact GO _ hx
  ·exact gK _ (.tail _ (N3 h hx))
theorem N4{c:Nat}:∀{as:List (List Nat)}{a:List Nat},a∈as->a.length<=(_T.gl c as).length
 |[],a,h=>nomatch h |[b],a,h=>by rw[eB.mp h];exact bB _ |b::d::r,a,h=>by
  show a.length<=(b++c::_T.gl c (d::r)).length;rw[fj,fA];rcases bZ.mp h with rfl|h
  ·omega
  ·have:=N4 (c:=c) h;omega
theorem HR(z:Str)(c:Nat):_T.gl c ((Txt.split z ⟨#[c]⟩).map λy=>y.cps.toList)=z.cps.toList:=by rw[<-_T.N5,StrLaws.join_split]
theorem RM{z y:Str}{c:Nat}(h:qY z)(hy:y∈Txt.split z ⟨#[c]⟩):qY y:=λx hx=>h x (by rw[<-HR z c];exact N3 (gu.mpr ⟨y,hy,Z⟩) hx)
theorem split_le{z y:Str}{c:Nat}(hy:y∈Txt.split z ⟨#[c]⟩):y.length<=z.length:=by have:=N4 (c:=c) (gu.mpr ⟨y,hy,Z⟩:y.cps.toList∈(Txt.split z ⟨#[c]⟩).map λy=>y.cps.toList);rw[HR]at this;simpa[Str.length]using this
theorem RO:(" ":Str)=⟨#[32]⟩:=by decide+kernel
def nI (z:Str):ah:=oD (numIn? z)
def hJ:List Str->ah |[]=>.none |w::rest=>if w="line" then(match rest with |[]=>.none |r::rs=>.tuple [.str w,.tuple (((r::rs).map nI).take rs.length),((r::rs).map nI).getLastD .none]) else match rest with |[r]=>.tuple [.str w,if w="wait" then nI r else .str r] |_=>.none
def yT(n:Nat)(z:Str):ah:=bif gT n (hJ (Txt.split z " "))then hJ (Txt.split z " ")else .none
theorem Li{H:Hp}:∀(zs:List Str),aI K H (zs.map λz=>oV (numIn? z)) (zs.map nI) |[]=>by simp[aI] |z::zs=>by rw[uu,uu,aI];exact⟨_,_,Z,yA _,Li zs⟩
theorem qh{H:Hp}{x:V}{xs:List V}{d:ah}{ds:List ah}(h:RD K H x d)(r:aI K H xs ds):aI K H (x::xs) (d::ds):=by rw[aI];exact⟨_,_,Z,h,r⟩
theorem CJ{H:Hp}:aI K H [] []:=by simp[aI]
theorem DA{n:Nat}(z:Str):cD n (nI z):=by unfold nI;cases numIn? z with |none=>exact .aY |some i=>exact .int i
theorem LB(z:Str):iZ (nI z)=true:=by unfold nI;cases numIn? z<;>rfl
theorem Hr:hJ ["line"]= .none:=by unfold hJ;dsimp only;rw[bo rfl]
theorem Hs{r:Str}{rs:List Str}:hJ ("line"::r::rs)= .tuple [.str "line",.tuple (((r::rs).map nI).take rs.length),((r::rs).map nI).getLastD .none]:=by unfold hJ;dsimp only;rw[bo rfl]
theorem Az{w r:Str}(h:w≠"line"):hJ [w,r]= .tuple [.str w,if w="wait" then nI r else .str r]:=by unfold hJ;dsimp only;rw[bh h]
theorem Ay{w:Str}{ws:List Str}(h:w≠"line")(hl:ws.length≠1):hJ (w::ws)= .none:=by
 unfold hJ;dsimp only;rw[bh h];split
 ·exact(hl Z).elim
 ·rfl
theorem QC{ws:List Str}(h:∀w∈ws,qY w/\w.length<=640):cD 8 (hJ ws)/\lL (hJ ws)=true:=by cases ws with |nil=>exact⟨.aY,Z⟩ |cons w rest=>
 obtain⟨hw,hl⟩:=h w (.head _);have sw:iZ (.str w)=true:=cn bN;by_cases hx:w="line"
 ·subst hx
  cases rest with |nil=>rw[Hr];exact⟨.aY,Z⟩ |cons r rs=>
   rw[Hs];have hm:∀d∈(r::rs).map nI,cD 0 d:=λd hd=>by obtain⟨z,_,rfl⟩:=gu.mp hd;exact DA z
   have MD:cD 0 (((r::rs).map nI).getLastD .none)/\iZ (((r::rs).map nI).getLastD .none)=true:=by rw[List.getLastD_eq_getLast?];cases e:((r::rs).map nI).getLast? with |none=>exact⟨.aY,Z⟩ |some d=>obtain⟨z,_,rfl⟩:=gu.mp (List.mem_of_getLast? e);exact⟨DA z,LB z⟩
   have hs:fQ 2 [.str "line",.tuple (((r::rs).map nI).take rs.length),((r::rs).map nI).getLastD .none]:=λd hd=>by
    simp only[bZ,dX,gs]at hd;rcases hd with rfl|rfl|rfl
    ·exact Dk hw
    ·exact(fQ.tup (n:=0) λd hd=>hm d (x9 hd)).le az
    ·exact MD.1.le az
   refine⟨hs.tup.le az,?_⟩;show[_,_,_].all iZ=true;simp only[xn,List.all_nil,An,sw,MD.2];rfl
 ·match rest,h with
  |[],_=>rw[Ay hx (by simp)];exact⟨.aY,Z⟩ |[r],h=>
   rw[Az hx];obtain⟨hr,hlr⟩:=h r (.tail _ (.head _));have hv:cD 0 (if w="wait" then nI r else .str r)/\iZ (if w="wait" then nI r else .str r)=true:=by
    split
    ·exact⟨DA r,LB r⟩
    ·exact⟨Dk hr,cn bN⟩
   have hs:fQ 1 [.str w,if w="wait" then nI r else .str r]:=λd hd=>by
    simp only[bZ,dX,gs]at hd;rcases hd with rfl|rfl
    ·exact Dk hw
    ·exact hv.1.le az
   refine⟨hs.tup.le az,?_⟩;show[_,_].all iZ=true;simp only[xn,List.all_nil,An,sw,hv.2] |_::_::_,_=>rw[Ay hx (by simp)];exact⟨.aY,Z⟩
inductive a69(K:aa)(vs:List V)(H:Hp)(Q:VK):Prop |mk (m:V)(rs:List Int)(es:List ah)(z:Str)(h0:vs=[m,.str z])(h1:RD K H m (.tuple (.tuple (rs.map PyData.int)::es)))(h2:bX es=true)(h3:rs.length<=3)(h4:z.length<=600)(h5:qY z)(h6:∀v H',aA H H'->RD K H' v (yT rs.length z)->Q v H')
def AQ(K:aa):Sp:=λvs H Q _=>a69 K vs H Q
abbrev BS:Stmt:=top 88
theorem JK:bj ["machine","row","word","rest","thing","numbers"] ["machine","row"] (aP BS):=bw aO
theorem VQ(F:FA K mg "item_in" BS)(B:bE mg)(vB:aG P w K mg au "number_in" 1 uH)(Zv:aG P w K mg au "numbers_in" 2 (AN K))(vI:aG P w K mg au "is_item" 4 (uI K)):aG P w K mg au "item_in" 5 (AQ K):=by
 refine F.has JK (λvs H Q E h=>?_) (λ_ _ _ _ _ _=>cH λ_ _=>rfl) (λf aE A outer s H vs Q E hr h=>?_)
 ·obtain⟨m,rs,es,z,rfl,_⟩:=h
  rfl
 ·obtain⟨m,rs,es,z,rfl,rm,ne,l3,hz,tz,k⟩:=h
  have nd:=JK.nd;have gW:sizeLine=16777216:=by decide
  have qK:∀y∈Txt.split z " ",qY y/\y.length<=640:=λy hy=>by rw[RO]at hy;have:=split_le hy;exact⟨RM tz hy,bN⟩
  have Eb:=split_len z " ";refine⟨_,(aD (fW (D8 K Z (pv 1) (ao ck ay)) (KJ K Z Z (bu 2 nd) (bu 3 nd))) (aD (pS 4 nd hV) (aD (jm (bD (bT qv (pv 2) ck (bL _)) (aD (pS 5 nd (pf Zv hr (ao (pv 3) ay))) (aH (pS 4 nd (gc (uW K Z (pv 5)) (dh (ao (pv 2) (ao (jH (x:="tuple") (mK K Z) Z (B.at "tuple") jz (ao (qp (xZ K rfl) (pv 5) qk (qj (mV mJ aF))) ay)) (ao (px K (pv 5) (mV mJ aF)) ay)))) hV)))) (aH (bD (bT qv (fm K B (ao (pv 3) ay)) aF (bL _)) (aH (pS 4 nd (dh (ao (pv 2) (ao (gc (bT qv (pv 2) ck (bL _)) (pf vB hr (ao (px K (pv 3) aF) ay)) (px K (pv 3) aF)) ay))))) bG)))) (aH (aZ (gc (bS (pf vI hr (ao (pv 0) (ao (pv 4) ay)))) (pv 4) hV)))))),?_⟩;refine⟨_,Z,Z,z," ",Z,Z,aO,bN,λl H1 n1=>?_⟩;obtain⟨x,ws,ew⟩:∃x ws,Txt.split z " "=x::ws:=by cases e:Txt.split z " " with |nil=>exact(_T.RN _ _ e).elim |cons x ws=>exact⟨x,ws,Z⟩
  unfold yT at k;rw[ew]at n1 qK Eb k;rw[fA]at Eb;refine⟨l,.str x,ws.map V.str,Z,aK.of n1.at',by rw[bR];omega,λp H2 n2=>?_⟩;have s2:=n1.same.trans n2.same;have yW:∀y∈ws,y.length<=640:=λy hy=>(qK y (.tail _ hy)).2;refine⟨λO H3=>∃t w5,O=[some m,some (.str z),some (.str x),some (.ref p),some t,w5]/\aA H H3/\RD K H3 t (hJ (x::ws)),?_,?_⟩
  ·refine⟨_,Z,Z,_,Z,?_⟩
   refine fZ (λh0=>?_) (λh0=>?_)
   ·have hx:x="line":=by simpa using h0
    subst hx;refine⟨_,Z,p,ws,Z,aK.of n2.at',bN,yW,λq H3 s3 nq e3=>?_⟩;refine⟨_,Z,!(ws.map λz=>oV (numIn? z)).isEmpty,.inl ⟨_,aK.of e3,Z⟩,?_⟩;cases ws with |nil=>refine aV ⟨.aY,_,Z,s2.trans s3,?_⟩;rw[Hr];exact oA |cons r qe=>
     refine ba ⟨_,Z,?_⟩;refine⟨_,Z,1,Z,_,Z,q,_,Z,.inl ⟨aK.of e3,λq2 H4 n4=>?_⟩⟩;rw[a3S]at n4;have X8:=n4.at';refine⟨q2,_,Z,.inl ⟨aK.of X8,λq3 H5 n5=>?_⟩⟩;obtain⟨v,ev⟩:∃v,((r::qe).map λz=>oV (numIn? z)).getLast? =some v:=⟨_,Pt (by simp)⟩;have e5:=n5.same _ _ (n4.same _ _ e3);refine⟨_,Z,1,Z,.inl ⟨q,_,-1,v,Z,Z,aK.of e5,Ox ev,?_⟩⟩;refine⟨by show 3<=sizeLine;omega,λq6 H6 n6=>?_⟩;have s6:=(((s2.trans s3).trans n4.same).trans n5.same).trans n6.same;refine⟨_,_,Z,s6,?_⟩;rw[Hs];have el:((r::qe).map nI).getLastD .none=oD (numIn? ((r::qe).getLast (by simp))):=by rw[List.getLastD_eq_getLast?,List.getLast?_map,Pt (by simp)];rfl
     have evv:v=oV (numIn? ((r::qe).getLast (by simp))):=by rw[List.getLast?_map,Pt (by simp)]at ev;exact(dW ev).symm
     refine eF (aQ.of n6.at') (qh (dN _) (qh ?_ (qh ?_ CJ)))
     ·refine eF (aQ.of (n6.same _ _ n5.at')) ?_
      rw[bR,fA,Nat.add_sub_cancel];exact(Li (r::qe)).take _
     ·rw[el,evv];exact yA _
   ·have hx:x≠"line":=by simpa using h0
    refine⟨_,Z,p,_,Z,.inl (aK.of n2.at'),Z,_,Z,?_⟩;refine fZ (λh1=>?_) (λh1=>?_)
    ·have jR:ws.length=1:=by have h1:=mE h1;rw[bR]at h1;injection h1 with h1;omega
     match ws,jR,n2,yW,k with
     |[r],_,n2,yW,k=>
      refine⟨_,Z,_,Z,Z,_,Z,?_⟩;refine fZ (λh2=>?_) (λh2=>?_)
      ·have E5:x="wait":=by simpa using h2
       refine⟨_,Z,.inl ⟨p,_,0,.str r,Z,Z,aK.of n2.at',Z,?_⟩⟩;refine⟨r,Z,yW r (.head _),λH3 s3=>?_⟩;refine⟨by show 2<=sizeLine;omega,λq6 H6 n6=>?_⟩;refine⟨_,_,Z,(s2.trans s3).trans n6.same,?_⟩;rw[Az hx,bo E5];exact eF (aQ.of n6.at') (qh (dN _) (qh (yA _) CJ))
      ·have E5:x≠"wait":=by simpa using h2
       refine⟨_,Z,.inl ⟨p,_,0,.str r,Z,Z,aK.of n2.at',Z,?_⟩⟩;refine⟨by show 2<=sizeLine;omega,λq6 H6 n6=>?_⟩;refine⟨_,_,Z,s2.trans n6.same,?_⟩;rw[Az hx,bh E5];exact eF (aQ.of n6.at') (qh (dN _) (qh (dN _) CJ))
    ·have jR:ws.length≠1:=λe=>h1 (cn (by rw[bR,e];rfl))
     refine⟨.aY,_,Z,s2,?_⟩;rw[Ay hx jR];exact oA
  ·rintro O H3 ⟨t,w5,rfl,s3,rt⟩
   have ok:=QC (ws:=x::ws) qK;refine⟨_,Z,_,Z,m,t,rs,es,hJ (x::ws),Z,RD.mono s3 _ rm,rt,l3,ok.1,ok.2,λH4 s4=>⟨_,Z,?_⟩⟩;cases hi:gT rs.length (hJ (x::ws))with |true=>rw[hi]at k;exact ba ⟨_,Z,k _ _ (s3.trans s4) (RD.mono s4 _ rt)⟩ |false=>rw[hi]at k;exact aV (k _ _ (s3.trans s4) oA)
abbrev Bi:Stmt:=top 87
theorem Jf:bj ["machine","text","told","at","row","item"] ["machine","text"] (aP Bi):=bw aO
open _r _C _P
open _O (topR cornO mnO betR atO ownF leadF ownL OkI OkIs)
def zF(zs:List Int)(top:Rat):ah:=.tuple [.str "step",.tuple (zs.map PyData.int),cB top]
abbrev C6:Stmt:=top 116
theorem JV:bj ["machine","expected","entry","word","row","top"] ["machine","expected","entry"] (aP C6):=bw aO
def ju(rate:Int)(ds:List ah)(os:List Itm)(i:Nat):List ah:=match os[i]? with |some (some (ns,sp))=>(List.range (aJ ns)).map λk=>zF (ki ns k) (topR rate sp) |_=>[ds.getD i .none]
def nT(rate:Int)(ds:List ah)(os:List Itm):Nat->List ah |0=>[] |i+1=>nT rate ds os i++ju rate ds os i
def nV(j rate:Int)(os:List Itm)(i:Nat):List Rat:=match os[i]? with |some (some (ns,sp))=>ownF j rate os i::List.replicate (aJ ns-1) (topR rate sp) |_=>[ownF j rate os i]
def kZ(j rate:Int)(os:List Itm):Nat->List Rat |0=>[] |i+1=>kZ j rate os i++nV j rate os i
theorem we{rate:Int}{ds:List ah}{os:List Itm}{i:Nat}{ns:List Int}{sp:Int}(h:os[i]? =some (some (ns,sp))):ju rate ds os i=(List.range (aJ ns)).map λk=>zF (ki ns k) (topR rate sp):=by unfold ju;rw[h]
theorem Fz{rate:Int}{ds:List ah}{os:List Itm}{i:Nat}{d:ah}(h:os[i]? =some none)(hd:ds[i]? =some d):ju rate ds os i=[d]:=by unfold ju;rw[h,Pw,hd];rfl
theorem Oq{j rate:Int}{os:List Itm}{i:Nat}{ns:List Int}{sp:Int}(h:os[i]? =some (some (ns,sp))):nV j rate os i=ownF j rate os i::List.replicate (aJ ns-1) (topR rate sp):=by unfold nV;rw[h]
theorem Oo{j rate:Int}{os:List Itm}{i:Nat}(h:os[i]? =some none):nV j rate os i=[ownF j rate os i]:=by unfold nV;rw[h]
theorem NK(zs:List Int)(q:Rat):dP (zF zs q)=true:=by
 have:bX (zs.map PyData.int)=true:=eO.mpr λd hd=>by obtain⟨i,_,rfl⟩:=gu.mp hd;rfl
 simp[zF,dP,bX,this,cB]
theorem zE{n:Nat}{rate:Int}{ds:List ah}{os:List Itm}(row:fh n ds os):∀i,i<=os.length->(nT rate ds os i).length<=100*i/\bX (nT rate ds os i)=true
 |0,_=>⟨bB _,Z⟩ |i+1,h=>by
  have ll:=row.len;obtain⟨ih,YM⟩:=zE (rate:=rate) row i aw;obtain⟨o,eo⟩:∃o,os[i]? =some o:=⟨_,cI (show i<os.length by lia)⟩;have key:(ju rate ds os i).length<=100/\bX (ju rate ds os i)=true:=by cases o with |none=>obtain⟨d',ed⟩:∃d',ds[i]? =some d':=⟨_,cI (show i<ds.length by lia)⟩;rw[Fz eo ed];have:=eO.mp row.no _ (iS ed);exact⟨by simp,by simp[bX,this]⟩ |some q=>obtain⟨ns,sp⟩:=q;obtain⟨da,_,_⟩:=row.ok i ns sp eo;have:=vq da;rw[we eo,bR,Ai];refine⟨aw,eO.mpr λd hd=>?_⟩;obtain⟨k,_,rfl⟩:=gu.mp hd;exact NK _ _
  refine⟨?_,?_⟩
  ·show(nT rate ds os i++ju rate ds os i).length<=_
   rw[fj];lia
  ·refine eO.mpr λd hd=>?_
   rcases xg.mp hd with h1|h1
   ·exact eO.mp YM d h1
   ·exact eO.mp key.2 d h1
theorem FX{n:Nat}{j rate:Int}{ds:List ah}{os:List Itm}(row:fh n ds os):∀i,i<=os.length->(kZ j rate os i).length=(nT rate ds os i).length |0,_=>rfl |i+1,h=>by have ll:=row.len;show(kZ j rate os i++nV j rate os i).length=(nT rate ds os i++ju rate ds os i).length;rw[fj,fj,FX row i aw];obtain⟨o,eo⟩:∃o,os[i]? =some o:=⟨_,cI (show i<os.length by lia)⟩;cases o with |none=>obtain⟨d',ed⟩:∃d',ds[i]? =some d':=⟨_,cI (show i<ds.length by lia)⟩;rw[Fz eo ed,Oo eo];rfl |some q=>
 obtain⟨ns,sp⟩:=q;obtain⟨da,_,_⟩:=row.ok i ns sp eo;have:=da.lead;rw[we eo,Oq eo];simp
 lia
inductive a6n(K:aa)(vs:List V)(H:Hp)(Q:VK):Prop |mk (iv:_)(rate:_)(n:_)(ds:_)(os:_)(h0:vs=[iv,.int rate])(h1:RD K H iv (.tuple ds))(h2:fh n ds os)(h3:n<=3)(h4:ds.length<=30)(h5:10<=rate)(h6:rate<=200)(h7:∀l ys H',H l=none->H' l=some (.lst ys)->aI K H' ys (nT rate ds os os.length)->aA H H'->Q (.ref l) H')
def IG(K:aa):Sp:=λvs H Q _=>a6n K vs H Q
abbrev Cb:Stmt:=top 114
theorem K0:bj ["items","rate","due","item","top"] ["items","rate"] (aP Cb):=bw aO
theorem W8(F:FA K mg "due_entries" Cb)(B:bE mg)(jS:aG P w K mg au "is_line" 1 (ou K))(lX:aG P w K mg au "top_square" 4 (sj K))(Ea:aG P w K mg au "step_rows" 3 (xS K)):aG P w K mg au "due_entries" 5 (IG K):=by
 refine F.has K0 (λvs H Q E h=>?_) (λ_ _ _ _ _ _=>cH λ_ _=>rfl) (λfa aE A outer s H vs Q E hr h=>?_)
 ·obtain⟨iv,rate,n,ds,os,rfl,_⟩:=h
  rfl
 ·obtain⟨iv,rate,n,ds,os,rfl,ri,row,n3,hz,dy,dM,k⟩:=h
  have nd:=K0.nd;refine⟨_,(aD (pS 2 nd (dE ay)) (aD (j7 iQ Z (mU K Z (pv 0)) (bu 3 nd) (aH (bD (bS (pf jS hr (ao (pv 3) ay))) (aD (pS 4 nd (pf lX hr (ao (pv 3) (ao (pv 1) ay)))) (aH (gD (D9 K Z (pv 2) (ao (gP (N:=["row","top"]) (js:=[none,some 4]) Z Z Z (yn K Z (pf Ea hr (ao (pv 3) ay))) (λ_ _ _ _ _=>(bu 0 (fX az))) (λ_ _ _ _ _=>gb) (λ_ _ _ _ _=>(dh (ao ck (ao (pv 0) (ao (pv 1) ay)))))) ay))))) (aH (gD (oE K Z (pv 2) (ao (pv 3) ay))))))) (aH (aZ (pv 2))))),?_⟩;have ll:=row.len;have gW:sizeLine=16777216:=by decide
  refine⟨bC Z,λD H2 n2=>?_⟩;have nD:=n2.no;obtain⟨ia,xs,rfl,hi,gh⟩:=ri.d6;have lx:=gh.length;refine⟨_,Z,ia,Z,⟨_,hi.go n2.same⟩,a23 (K:=K) (a:=ia) (xs:=xs) (λi O H3=>aA H H3/\∃zs v1 v2,H3 D=some (.lst zs)/\aI K H3 zs (nT rate ds os i)/\O=[some (.ref ia),some (.int rate),some (.ref D),v1,v2]) ⟨n2.same,[],none,none,n2.at',bW,Z⟩ (λi O H3 _ h=>hi.go h.1) ?_ ?_⟩
  ·rintro i y O H3 hy ⟨s3,zs,v1,v2,dz,rz,rfl⟩
   have El:i<xs.length:=(eY.mp hy).1;obtain⟨d,ed,rd⟩:=gh.get' i hy;obtain⟨o,eo,it⟩:=row.get ed;have sH:=RD.mono s3 _ rd;obtain⟨tl,tn⟩:=zE (rate:=rate) row i aw;have lz:=rz.length;refine⟨_,Z,y,d,o,Z,sH,it,_,Z,?_⟩;cases o with
   |none=>
    refine aV ?_;refine⟨_,Z,.inl ⟨Z,_,aK.of dz⟩,_,Z,D,zs,_,Z,Z,dz,aw,?_⟩;refine⟨λb o e=>?_,_,_,_,bp,?_,Z⟩
    ·rw[aL (eH e nD)];exact s3 b o e
    ·show aI K _ _ (nT rate ds os i++ju rate ds os i)
     rw[Fz eo ed];exact aI.IK dz rz sH tn it.no |some q=>
    obtain⟨ns,sp⟩:=q;refine ba ?_;have jt:=nk it;subst jt;obtain⟨da,gB,gO⟩:=row.ok i ns sp eo;have DT:=vq da;refine⟨_,Z,_,Z,y,ns,sp,rate,Z,sH,gB,gO,dy,dM,λtv H4 Rt4 s4=>?_⟩;have tT:=s4 _ _ dz;refine⟨_,Z,.inl ⟨Z,_,aK.of tT⟩,?_⟩;refine⟨_,Z,y,ns,sp,Z,RD.mono s4 _ sH,⟨Z,λz hz=>by have:=da.bd z hz;lia,da.nz⟩,by rw[da.len];lia,λl3 y3 H6 WZ wk Kj s6=>?_⟩;have LL:=Kj.length;rw[kh,bR,Ai]at LL;refine⟨l3,Z,⟨_,aK.of wk⟩,λD2 H7 n7=>?_⟩;have nE:bX (ju rate ds os i)=true:=by rw[we eo];exact eO.mpr λd hd=>by obtain⟨k,_,rfl⟩:=gu.mp hd;exact NK _ _
    have lE:(ju rate ds os i).length=aJ ns:=by rw[we eo,bR,Ai]
    refine O2 (K:=K) (ds:=ju rate ds os i) _ (aK.of wk) n7 (by rw[lE,LL]) aw nE ?_ ?_
    ·intro q x dd H8 Q' ex NF s8 hq
     have Ms:q<aJ ns:=by have:=(eY.mp ex).1;lia
     obtain⟨d3,e3,r3⟩:=Kj.get' q ex;rw[kh,cY,GU Ms]at e3;cases e3;rw[we eo,cY,GU Ms]at NF;cases NF;refine⟨_,Z,_,Z,bC Z,λt H9 n9=>?_⟩;refine hq _ _ n9.same (eF (aQ.of n9.at') (bJ (dN _) (bJ (RD.mono (s8.trans n9.same) _ r3) (bJ (Rt4.go ((s6.trans s8).trans n9.same)).rd bW))))
    ·intro H8 z8 s8 d8 r8
     have qc:=s4.trans (s6.trans s8);have NI:=qc _ _ dz;have l8:=r8.length;refine⟨D,D2,zs,z8,Z,Z,NI,d8,aw,?_⟩;have tu:g9 H8 (_L.upd H8 D (.lst (zs++z8))):=.lG NI;refine⟨λb o e=>?_,_,_,_,bp,?_,Z⟩
     ·rw[aL (eH e nD)];exact qc b o (s3 b o e)
     ·exact(aI.t tu _ tn (aI.mono qc _ rz)).append (aI.t tu _ nE r8)
  ·rintro O H3 ⟨s3,zs,v1,v2,dz,rz,rfl⟩
   rw[lx,ll]at rz;exact⟨_,Z,k D zs H3 nD dz rz s3⟩
theorem a28(n:Nat)(v:V):(List.replicate n [v]).flatten=List.replicate n v:=by induction n with |zero=>rfl |succ n ih=>rw[mF,xk,ih,mF];rfl
theorem Kq{H:Hp}{v:V}{q:Rat}(h:bM K H v q):∀n,aI K H (List.replicate n v) ((List.replicate n q).map cB) |0=>bW |n+1=>by rw[mF,mF,uu];exact bJ h.rd (Kq h n)
inductive a6u(K:aa)(vs:List V)(H:Hp)(Q:VK):Prop |mk (m:_)(iv:_)(rate:_)(rs:_)(r:_)(f:_)(j:_)(t:_)(ds:_)(os:_)(h0:vs=[m,iv,.int rate])(h1:RD K H m (gR rs r f j t))(h2:lg rs r f j t)(h3:RD K H iv (.tuple ds))(h4:fh rs.length ds os)(h5:ds.length<=30)(h6:10<=rate)(h7:rate<=200)(h8:∀l ys H',H l=none->H' l=some (.lst ys)->aI K H' ys ((kZ j rate os os.length++[ownF j rate os os.length]).map cB)->aA H H'->Q (.ref l) H')
def IJ(K:aa):Sp:=λvs H Q _=>a6u K vs H Q
abbrev Cj:Stmt:=top 115
theorem K7:bj ["machine","items","rate","own","bounds","i","item"] ["machine","items","rate"] (aP Cj):=bw aO
theorem Wf(F:FA K mg "bounds_between" Cj)(B:bE mg)(Ed:aG P w K mg au "own_bounds" 8 (AM K))(jS:aG P w K mg au "is_line" 1 (ou K))(lX:aG P w K mg au "top_square" 4 (sj K))(kL:aG P w K mg au "lead_of" 1 (oq K)):aG P w K mg au "bounds_between" 9 (IJ K):=by
 refine F.has K7 (λvs H Q E h=>?_) (λ_ _ _ _ _ _=>iM λ_ _ _=>rfl) (λfa aE A outer s H vs Q E hr h=>?_)
 ·obtain⟨m,iv,rate,rs,r,f,j,t,ds,os,rfl,_⟩:=h
  rfl
 ·obtain⟨m,iv,rate,rs,r,f,j,t,ds,os,rfl,rm,aM,ri,row,hz,dy,dM,k⟩:=h
  have nd:=K7.nd;refine⟨_,(aD (pS 3 nd (pf Ed hr (ao (pv 0) (ao (pv 1) (ao (pv 2) ay))))) (aD (pS 4 nd (dE ay)) (aD (j7 iQ Z (yl K Z false Z (B.at "enumerate") (ao (pv 1) ay)) (fb K rfl (n:=2) rfl (bU (bu 5 nd) (bU (bu 6 nd) eZ))) (aD (gD (oE K Z (pv 4) (ao (px K (pv 3) (pv 5)) ay))) (aH (bD (bS (pf jS hr (ao (pv 6) ay))) (aH (gD (D9 K Z (pv 4) (ao (aW UB (dE (ao (pf lX hr (ao (pv 6) (ao (pv 2) ay))) ay)) (aW j8 (pf kL hr (ao (pv 6) ay)) aF)) ay)))) bG)))) (aH (aZ (aW (qV K Z) (pv 4) (dE (ao (px K (pv 3) (mV mJ aF)) ay)))))))),?_⟩;have ll:=row.len;have lr:=aM.len;have gW:sizeLine=16777216:=by decide
  refine⟨_,Z,_,Z,_,Z,m,iv,rate,rs,r,f,j,t,ds,os,Z,rm,aM,ri,row,aw,dy,dM,λl1 y1 H1 X1 NN Kk s1=>?_⟩;have LM:=Kk.length;rw[bR,ownL,bR,Ai]at LM;have own:∀(c:Nat)(u:V)(H':Hp),c<=os.length->y1[c]? =some u->aA H1 H'->bM K H' u (ownF j rate os c):=by intro c u H' hc e t';obtain⟨d1,e1,r1⟩:=Kk.get' c e;rw[cY,ownL,cY,GU aw]at e1;cases e1;exact(mT r1).go t'
  refine⟨bC Z,λD H2 n2=>?_⟩;have nD:H D=none:=by cases e:H D with |none=>rfl |some o=>have:=s1 _ _ e;rw[n2.no]at this;cases this
  obtain⟨ia,xs,rfl,hi,gh⟩:=ri.d6;have lx:=gh.length;have WQ:∀i,bX ((kZ j rate os i).map cB)=true:=λi=>sX _;refine⟨_,Z,ia,Z,⟨_,hi.go (s1.trans n2.same)⟩,zr (K:=K) (b:=false) (a:=ia) (xs:=xs) (λi O H3=>aA H1 H3/\∃zs v1 v2,H3 D=some (.lst zs)/\aI K H3 zs ((kZ j rate os i).map cB)/\O=[some m,some (.ref ia),some (.int rate),some (.ref l1),some (.ref D),v1,v2]) ⟨n2.same,[],none,none,n2.at',bW,Z⟩ (λi O H3 _ h=>hi.go (s1.trans h.1)) ?_ ?_⟩
  ·rintro i y O H3 hy ⟨s3,zs,v1,v2,dz,rz,rfl⟩ T H4 n4
   have El:i<xs.length:=(eY.mp hy).1;obtain⟨d,ed,rd⟩:=gh.get' i hy;obtain⟨o,eo,it⟩:=row.get ed;have fk:=s3.trans n4.same;have s4:=s1.trans fk;have tT:=n4.same _ _ dz;have Sj:=aI.mono n4.same _ rz;have rd4:=RD.mono s4 _ rd;have lz:=rz.length;rw[bR,FX row i aw]at lz;have tl:=(zE (rate:=rate) row i aw).1;obtain⟨z0,p8⟩:∃z,y1[i]? =some z:=⟨_,cI (show i<y1.length by lia)⟩;have R0:=own i z0 H4 aw p8 fk;have wj:=fk _ _ NN;refine⟨T,_,Z,aQ.of n4.at',Z,_,_,Z,_,_,Z,Z,?_⟩;refine⟨_,Z,.inl ⟨Z,_,aK.of tT⟩,?_⟩;refine⟨_,Z,_,Z,.inl ⟨l1,_,_,z0,Z,Z,aK.of wj,eK aw (by simpa using p8),?_⟩⟩;refine⟨D,zs,z0,Z,Z,tT,aw,?_⟩;have t5:g9 H4 (_L.upd H4 D (.lst (zs++[z0]))):=.lG tT;have mR:aA H1 (_L.upd H4 D (.lst (zs++[z0]))):=λb o e=>by rw[aL (eH e n2.no)];exact fk b o e
   have d5:(_L.upd H4 D (.lst (zs++[z0]))) D=some (.lst (zs++[z0])):=bp;have r5:aI K (_L.upd H4 D (.lst (zs++[z0]))) (zs++[z0]) ((kZ j rate os i++[ownF j rate os i]).map cB):=by rw[lA];exact aI.IK tT Sj R0.rd (WQ i) (sJ _)
   generalize _L.upd H4 D (.lst (zs++[z0]))=H5 at t5 mR d5 r5⊢;have s5:=s1.trans mR;have CL:=RD.mono s5 _ rd;refine⟨_,Z,y,d,o,Z,CL,it,_,Z,?_⟩;cases o with |none=>refine aV ⟨mR,_,_,_,d5,?_,Z⟩;show aI K H5 _ ((kZ j rate os i++nV j rate os i).map cB);rw[Oo eo];exact r5 |some q=>
    obtain⟨ns,sp⟩:=q;refine ba ?_;have jt:=nk it;subst jt;obtain⟨da,gB,gO⟩:=row.ok i ns sp eo;have DT:=vq da;have jR:=da.lead;refine⟨_,Z,.inl ⟨Z,_,aK.of d5⟩,?_⟩;refine⟨_,Z,_,Z,y,ns,sp,rate,Z,CL,gB,gO,dy,dM,λtv H6 Rt6 s6=>?_⟩;refine⟨bC Z,λlt H7 n7=>?_⟩;refine⟨_,Z,y,ns,sp,Z,RD.mono (s6.trans n7.same) _ CL,da.ne,by rw[da.len];lia,λH8 s8=>?_⟩;have d7:=s8 _ _ n7.at';have ek:((aJ ns:Int)-1).toNat=aJ ns-1:=by lia
    refine⟨_,_,Z,Z,lt,_,_,Z,Z,d7,aw,aw,by rw[ek];show 1*_<=_;lia,λlp WV=>?_⟩;rw[ek,a28];have n9:Nw H8 (_L.upd H8 lp (.lst (List.replicate (aJ ns-1) tv))) lp (.lst (List.replicate (aJ ns-1) tv)):=.of WV;generalize _L.upd H8 lp (.lst (List.replicate (aJ ns-1) tv))=H9 at n9⊢;have Cp:=s6.trans (n7.same.trans (s8.trans n9.same));have d9:=Cp _ _ d5;refine⟨D,lp,_,_,Z,Z,d9,n9.at',by rw[fj,Ah];show _+1+_<=_;lia,?_⟩;have t9:g9 H9 (_L.upd H9 D (.lst (zs++[z0]++List.replicate (aJ ns-1) tv))):=.lG d9;refine⟨λb o e=>?_,_,_,_,bp,?_,Z⟩
    ·rw[aL (eH e n2.no)];exact Cp b o (mR b o e)
    ·show aI K _ _ ((kZ j rate os i++nV j rate os i).map cB)
     have eb:kZ j rate os i++nV j rate os i=(kZ j rate os i++[ownF j rate os i])++List.replicate (aJ ns-1) (topR rate sp):=by rw[Oq eo];simp
     rw[eb,lA];exact(aI.t t9 _ (sX _) (aI.mono Cp _ r5)).append (aI.t t9 _ (sX _) (Kq (Rt6.go (n7.same.trans (s8.trans n9.same))) _))
  ·rintro O H3 ⟨s3,zs,v1,v2,dz,rz,rfl⟩
   rw[lx,ll]at rz;have lz:=rz.length;rw[bR,FX row _ (bB _)]at lz;have tl:=(zE (rate:=rate) row _ (bB _)).1;obtain⟨z0,p8⟩:∃z,y1[os.length]? =some z:=⟨_,cI (show os.length<y1.length by lia)⟩;have R0:=own _ z0 H3 (bB _) p8 s3;refine⟨_,Z,_,Z,1,Z,.inl ⟨l1,_,-1,z0,Z,Z,aK.of (s3 _ _ NN),Ox (by rw[List.getLast?_eq_getElem?,LM];exact p8),?_⟩⟩;refine⟨bC Z,λl5 H4 n4=>?_⟩;refine⟨D,l5,_,_,Z,Z,aK.of (n4.same _ _ dz),aK.of n4.at',by show _+1<=_;lia,λl6 H5 n5=>?_⟩;have WY:H l6=none:=by cases e:H l6 with |none=>rfl |some o=>have:=n4.same _ _ (s3 _ _ (s1 _ _ e));rw[n5.no]at this;cases this
   have Cr:=n4.same.trans n5.same;refine k l6 _ H5 WY n5.at' ?_ (s1.trans (s3.trans Cr));rw[lA];exact(aI.mono Cr _ rz).append (bJ (R0.go Cr).rd bW)
def oP:ah->Bool | .tuple ds=>(ds.length==2||ds.length==3)&&ds.all (cC 1 100) |_=>false
def ij:ah->Bool | .tuple [r,a,b,c,t]=>oP r&&cC 1 100 t&&[a,b,c].all (cC 1 50) |_=>false
theorem YS(n:Nat):yV (.int n) [.int 2,.int 3]=(n==2||n==3):=by
 show((2:Int)==n||((3:Int)==n||false))=_;rw[Bool.or_false];congr 1
 ·rw[iW];simp;lia
 ·rw[iW];simp;lia
inductive a6o(f:ah->Bool)(K:aa)(vs:List V)(H:Hp)(Q:VK):Prop |mk (v:_)(d:_)(h0:vs=[v])(h1:RD K H v d)(h2:∀H',aA H H'->Q (.bl (f d)) H')
def uL(f:ah->Bool)(K:aa):Sp:=λvs H Q _=>a6o f K vs H Q
abbrev Cm:Stmt:=top 23
theorem K9:bj ["thing"] ["thing"] (aP Cm):=bw aO
theorem Wi(F:FA K mg "are_rails" Cm)(B:bE mg)(g1:GT K mg "AXES" [.int 2,.int 3])(a0O:GV mg "LONGEST_RAIL" (.int 100))(ip:aG P w K mg au "is_whole_within" 2 (lK K)):aG P w K mg au "are_rails" 3 (uL oP K):=by
 refine F.has K9 (λvs H Q E h=>?_) (λ_ _ _ _ _ _=>fE λ_=>rfl) (λf aE A outer s H vs Q E hr h=>?_)
 ·obtain⟨v,d,rfl,_⟩:=h
  rfl
 ·obtain⟨v,d,rfl,rd,k⟩:=h
  have nd:=K9.nd;obtain⟨aX,a0Y,RI⟩:=g1;refine⟨_,(aD (bD (PW.pt (kr (cE (bS (kC K B (ao (pv 0) (ao (jI (x:="tuple") (v:=.ty "tuple") Z (B.at "tuple") jz rfl) ay))))) (kl (bT (WJ K rfl) (fm K B (ao (pv 0) ay)) (cy (x:="AXES") rfl a0Y) (by with_unfolding_all rfl))))) (aH (aZ hW)) bG) (aH (aZ (dF (x:="all") (tY K Z Z) Z (B.at "all") wW (ao (gP (N:=["rail"]) (js:=[none]) rfl rfl rfl (mU K rfl (pv 0)) (λ_ _ _ _ _=>(bu 0 (oK _))) (λ_ _ _ _ _=>gb) (λ_ _ _ _ _=>(pf ip hr (ao (pv 0) (ao aF (ao (cy (x:="LONGEST_RAIL") rfl a0O) ay)))))) ay))))),?_⟩;rcases uC d with⟨ds,rfl⟩|⟨ht,hn⟩
  ·refine⟨_,Z,.inl ⟨_,_,"tuple",true,Z,rd.ty,az,oh,_,Z,aV ?_⟩⟩
   obtain⟨p,xs,rfl,hx,hd⟩:=rd.d6;have hl:=hd.length;refine⟨_,Z,p,_,Z,.inr hx,aX,_,Z,.inr (RI H),Z,Z,_,Z,?_⟩;have k:∀H',aA H H'->Q (.bl ((ds.length==2||ds.length==3)&&ds.all (cC 1 100))) H':=k;show if(!yV (.int xs.length) [.int 2,.int 3])=true then _ else _;rw[YS,hl];cases Fx:(ds.length==2||ds.length==3)with |false=>rw[Fx,fV]at k;exact ba (k H (aA.refl _)) |true=>
    rw[Fx,iD]at k;refine aV ?_;have l3:ds.length<=3:=by rw[Bool.or_eq_true,cP,cP]at Fx;lia
    refine⟨_,Z,p,Z,⟨_,hx⟩,λD H0 nw=>?_⟩;refine zL (xs:=xs) (bs:=ds.map (cC 1 100)) [] hx nw (by rw[bR,hl]) aw ?_ ?_
    ·intro i x b H2 Q' ex eb s2 hq
     obtain⟨d,ed,rfl⟩:=yP eb;obtain⟨x',ix,rx⟩:=hd.get i ed;rw[ex]at ix;cases ix;exact⟨_,Z,_,d,1,100,Z,RD.mono s2 _ rx,hq _ (aA.refl _)⟩
    ·intro H2 s2 d2
     refine⟨D,_,Z,aK.of d2,?_⟩;rw[all_map];exact k H2 s2
  ·have e:oP d=false:=by cases d<;>first|rfl|exact absurd rfl (hn _)
   rw[e]at k;refine⟨_,Z,.inl ⟨_,_,"tuple",false,Z,rd.ty,az,ht,_,Z,ba ?_⟩⟩;exact k H (aA.refl _)
theorem XE(d:ah):(∃r a b c t,d= .tuple [r,a,b,c,t])\/(∃ds,d= .tuple ds/\ds.length≠5/\ij d=false)\/(fC (gy d) "tuple"=false/\ij d=false):=by
 rcases uC d with⟨ds,rfl⟩|⟨ht,hn⟩
 ·match ds with |[r,a,b,c,t]=>exact .inl ⟨r,a,b,c,t,Z⟩ |[]=>exact .inr (.inl ⟨_,Z,by simp,by simp[ij]⟩) |[_]=>exact .inr (.inl ⟨_,Z,by simp,by simp[ij]⟩) |[_,_]=>exact .inr (.inl ⟨_,Z,by simp,by simp[ij]⟩) |[_,_,_]=>exact .inr (.inl ⟨_,Z,by simp,by simp[ij]⟩) |[_,_,_,_]=>exact .inr (.inl ⟨_,Z,by simp,by simp[ij]⟩) |_::_::_::_::_::_::_=>exact .inr (.inl ⟨_,Z,by simp,by simp[ij]⟩)
 ·exact .inr (.inr ⟨ht,by cases d<;>first|rfl|exact absurd rfl (hn _)⟩)
abbrev C1:Stmt:=top 21
theorem JR:bj ["thing","rails","rise","fall","jump","ticks"] ["thing"] (aP C1):=bw aO
theorem VW(F:FA K mg "is_machine" C1)(B:bE mg)(a0K:GV mg "MOST_TICKS" (.int 100))(a0U:GV mg "GREATEST_CHANGE" (.int 50))(ip:aG P w K mg au "is_whole_within" 2 (lK K))(a0t:aG P w K mg au "are_rails" 3 (uL oP K)):aG P w K mg au "is_machine" 4 (uL ij K):=by
 refine F.has JR (λvs H Q E h=>?_) (λ_ _ _ _ _ _=>fE λ_=>rfl) (λf aE A outer s H vs Q E hr h=>?_)
 ·obtain⟨v,d,rfl,_⟩:=h
  rfl
 ·obtain⟨v,d,rfl,rd,k⟩:=h
  have nd:=JR.nd;refine⟨_,(aD (bD (PW.pt (kr (cE (bS (kC K B (ao (pv 0) (ao (jI (x:="tuple") (v:=.ty "tuple") Z (B.at "tuple") jz rfl) ay))))) (kl (bT (sZ K rfl hr.units) (fm K B (ao (pv 0) ay)) aF (bL _))))) (aH (aZ hW)) bG) (aD (fW (pv 0) (fb K Z (n:=5) Z (bU (bu 1 nd) (bU (bu 2 nd) (bU (bu 3 nd) (bU (bu 4 nd) (bU (bu 5 nd) eZ))))))) (aD (bD (PW.pt (kr (cE (bS (pf a0t hr (ao (pv 1) ay)))) (kl (cE (bS (pf ip hr (ao (pv 5) (ao aF (ao (cy (x:="MOST_TICKS") Z a0K) ay))))))))) (aH (aZ hW)) bG) (aH (aZ (dF (x:="all") (tY K Z Z) Z (B.at "all") wW (ao (gP (N:=["change"]) (js:=[none]) rfl rfl rfl (mU K rfl (dh (ao (pv 2) (ao (pv 3) (ao (pv 4) ay))))) (λ_ _ _ _ _=>(bu 0 (oK _))) (λ_ _ _ _ _=>gb) (λ_ _ _ _ _=>(pf ip hr (ao (pv 0) (ao aF (ao (cy (x:="GREATEST_CHANGE") rfl a0U) ay)))))) ay))))))),?_⟩;rcases XE d with⟨r,a,b,c,t,rfl⟩|⟨ds,rfl,hl,hf⟩|⟨ht,hf⟩
  ·refine⟨_,Z,.inl ⟨_,_,"tuple",true,Z,rd.ty,az,oh,_,Z,aV ?_⟩⟩
   obtain⟨p,xs,rfl,hx,hd⟩:=rd.d6;obtain⟨u1,ys,rfl,r1,hd⟩:=hd.cons_inv;obtain⟨u2,ys,rfl,r2,hd⟩:=hd.cons_inv;obtain⟨u3,ys,rfl,r3,hd⟩:=hd.cons_inv;obtain⟨u4,ys,rfl,r4,hd⟩:=hd.cons_inv;obtain⟨u5,ys,rfl,r5,hd⟩:=hd.cons_inv;cases hd.nil_inv;have k:∀H',aA H H'->Q (.bl (oP r&&cC 1 100 t&&[a,b,c].all (cC 1 50))) H':=k;refine⟨_,Z,p,_,Z,.inr hx,.inl ⟨_,_,Z,Z,_,Z,aV ?_⟩⟩;refine⟨_,Z,p,_,Z,hx,Z,_,_,Z,_,_,Z,_,_,Z,_,_,Z,_,_,Z,Z,?_⟩;refine⟨_,Z,_,r,Z,r1,λH1 s1=>⟨_,Z,?_⟩⟩;cases e1:oP r with |false=>rw[e1,fV,fV]at k;exact ba (k H1 s1) |true=>rw[e1,iD]at k;refine aV ?_;refine⟨_,Z,_,t,1,100,Z,RD.mono s1 _ r5,_,Z,?_⟩;cases e2:cC 1 100 t with |false=>rw[e2,fV]at k;exact ba (k H1 s1) |true=>
    rw[e2,iD]at k;refine aV ?_;refine⟨_,Z,_,Z,_,Z,bC Z,λq H2 nq=>?_⟩;have s2:=s1.trans nq.same;refine⟨q,Z,⟨_,aQ.of nq.at'⟩,λD H0 nw=>?_⟩;have hd3:aI K H2 [u2,u3,u4] [a,b,c]:=bJ (RD.mono s2 _ r2) (bJ (RD.mono s2 _ r3) (bJ (RD.mono s2 _ r4) bW));refine zL (xs:=[u2,u3,u4]) (bs:=[a,b,c].map (cC 1 50)) [] (aQ.of nq.at') nw Z (GK Z) ?_ ?_
    ·intro i x b' H3 Q' ex eb s3 hq
     obtain⟨d,ed,rfl⟩:=yP eb;obtain⟨x',ix,rx⟩:=hd3.get i ed;rw[ex]at ix;cases ix;exact⟨_,Z,_,d,1,50,Z,RD.mono s3 _ rx,hq _ (aA.refl _)⟩
    ·intro H3 s3 d3
     refine⟨D,_,Z,aK.of d3,?_⟩;rw[all_map];exact k H3 (s2.trans s3)
  ·rw[hf]at k
   refine⟨_,Z,.inl ⟨_,_,"tuple",true,Z,rd.ty,az,oh,_,Z,aV ?_⟩⟩;obtain⟨p,xs,rfl,hx,hd⟩:=rd.d6;refine⟨_,Z,p,_,Z,.inr hx,.inl ⟨_,_,Z,Z,_,Z,?_⟩⟩;have e:(!decide ((xs.length:Int)=5))=true:=by rw[hd.length];simp;lia
   rw[e];exact ba (k H (aA.refl _))
  ·rw[hf]at k
   refine⟨_,Z,.inl ⟨_,_,"tuple",false,Z,rd.ty,az,ht,_,Z,ba ?_⟩⟩;exact k H (aA.refl _)
end
end _a
set_option maxHeartbeats 2000000
namespace _a
open PySem PySem.Spec PyProof.Rows _L _r _l _C _P _W _R
open _O (topR cornO mnO betR atO ownF leadF ownL OkI OkIs)
open _T (numIn?)
section
variable {P:af}{w:World}{K:aa}{mg:bc}{au:Heap}
inductive a6j(K:aa)(cO:Addr)(vs:List V)(H:Hp)(E:XK):Prop |mk (m:_)(bF:_)(iv:_)(M:_)(pl:_)(d:_)(o:_)(h0:vs=[m,bF,iv])(h1:RD K H m (bQ.D M))(h2:M.Ok)(h3:RD K H bF (eg pl))(h4:pl.length=M.rs.length)(h5:RD K H iv (.tuple [d]))(h6:mx M.rs.length d o)(h7:j9 M.rs (fu pl o)=false)(h8:∀dx H',aA H H'->E (.ref cO) (some dx) H')
def IC(K:aa)(cO:Addr):Sp:=λvs H Q E=>a6j K cO vs H E
abbrev C8:Stmt:=top 32
theorem JX:bj ["machine","place","items","told","here","at","item"] ["machine","place","items"] (aP C8):=bw aO
theorem W5{cO fI:Addr}(F:FA K mg "ends" C8)(B:bE mg)(OC:zW K mg cO fI)(qL:aG P w K mg au "place_behind" 2 (sC K))(vG:aG P w K mg au "is_place" 3 (uK K)):fR P w K mg au "ends" 4 (IC K cO):=by
 obtain⟨fd,FI⟩:=OC.fn;have EK:=OC.e;have EG:dS P w K mg au eM 1 fI fd ["self","at"] (si K):=Le FI;have ET:Binds K fd ["self","at"] []:=FI.binds (λ_ _ _ _ _ _=>cH λ_ _=>rfl);have EI:=OC.f;refine F.gU JX (λvs H Q E h=>?_) (λ_ _ _ _ _ _=>iM λ_ _ _=>rfl) (λf aE A outer s H vs Q E hr h=>?_)
 ·obtain⟨m,bF,iv,M,pl,d,o,rfl,_⟩:=h
  rfl
 ·obtain⟨m,bF,iv,M,pl,d,o,rfl,rm,aM,rp,lp,ri,it,off,k⟩:=h
  have nd:=JX.nd;have lr:=aM.len;refine⟨_,(aD (pS 3 nd (dE ay)) (aD (pS 4 nd (pv 1)) (aD (j7 GG Z (yl K Z false Z (B.at "enumerate") (ao (pv 2) ay)) (fb K rfl (n:=2) rfl (bU (bu 5 nd) (bU (bu 6 nd) eZ))) (aD (pS 4 nd (pf qL hr (ao (pv 4) (ao (pv 6) ay)))) (aD (bD (cE (bS (pf vG hr (ao (pv 0) (ao (pv 4) ay))))) (aH (yj (λ_ _ _ _ _ _ I a b q=>pQ I a b q) EK gJ hr.hd EG (hr.mono az) ET EI Z (ao (pv 5) ay))) bG) ku))) (aH (aZ (pv 3)))))),?_⟩;refine⟨bC Z,λl H1 n1=>?_⟩;refine⟨_,Z,?_⟩;obtain⟨ia,xs,rfl,hi,gh⟩:=ri.d6;have lx:=gh.length;refine⟨_,Z,ia,Z,⟨_,hi.go n1.same⟩,zr (K:=K) (b:=false) (a:=ia) (xs:=xs) (λi O H2=>aA H H2/\i=0/\∃v1 v2,O=[some m,some bF,some (.ref ia),some (.ref l),some bF,v1,v2]) ⟨n1.same,Z,none,none,Z⟩ (λi O H2 _ h=>hi.go h.1) ?_ ?_⟩
  ·rintro i y O H2 hy ⟨s2,rfl,v1,v2,rfl⟩ T H3 n3
   obtain⟨d',ed,rd⟩:=gh.get' 0 hy;cases ed;have s3:=s2.trans n3.same;refine⟨T,_,Z,aQ.of n3.at',Z,_,_,Z,_,_,Z,Z,?_⟩;refine⟨_,Z,_,Z,bF,y,pl,d,o,Z,RD.mono s3 _ rp,RD.mono s3 _ rd,it.it,λns sp e'=>by rw[lp];exact(it.ln ns sp e').1.len,bN,λh2 H4 SQ s4=>?_⟩;have t4:=s3.trans s4;have bl:(fu pl o).length=M.rs.length:=zQ lp λns sp eo=>(it.ln ns sp eo).1.len;refine⟨_,Z,_,Z,m,h2,M.rs,_,_,Z,RD.mono t4 _ rm,SQ,bN,λH5 s5=>⟨_,Z,?_⟩⟩;rw[Md bl,off];refine ba ?_;have ye:=t4.trans s5;refine⟨_,Z,bC Z,λex fx=>?_⟩;refine⟨ex,cO,_,Z,bp,OC.x,λdx kX ne=>⟨Z,dx,bp,?_⟩⟩;have qQ:H5 dx=none:=by rw[aL ne]at kX;exact kX
   refine k dx _ λb o' e=>?_;have e5:=ye b o' e;have nb:b≠ex:=eH e5 fx;have fX:b≠dx:=eH e5 qQ;rw[ml nb,aL nb,aL fX,aL nb];exact e5
  ·rintro O H2 ⟨s2,e0,_⟩
   rw[lx]at e0;cases e0
abbrev B0:Stmt:=(FN (top 9)).getD 0 (.Pass ⟨0,0,0,0⟩)
theorem IZ:bj ["self","at"] ["self","at"] (aP B0):=bw aO
theorem UX{f:Addr}{fd:FuncData}(F:gq K "__init__" "NoText.__init__" B0 f fd):dS P w K mg au eM 1 f fd ["self","at"] (si K):=by
 refine F.ok IZ (λvs H Q E h=>?_) (λaE A outer s H vs Q E hr h=>?_)
 ·obtain⟨ex,C,y,rfl,_⟩:=h
  rfl
 ·obtain⟨ex,C,y,rfl,e1,xc,k⟩:=h
  have nd:=IZ.nd;refine⟨_,(aH (CY K Z (pv 0) (pv 1))),?_⟩;exact⟨_,Z,_,Z,ex,C,Z,e1,xc,k⟩
structure Ge(K:aa)(mg:bc)(C fI:Addr):Prop where
 e:mz K mg "NoText" C fI cW dc
 i:PySem.W.findIn K (.ref C) "__init__"=some (some (.ref fI))
 x:nW K C "at"
 f:fnAt K fI=true
 fn:∃fd,gq K "__init__" "NoText.__init__" B0 fI fd
inductive a5D(K:aa)(cT:Addr)(vs:List V)(H:Hp)(E:XK):Prop |mk (m:_)(v:_)(M:_)(h0:vs=[m,v])(h1:RD K H m (bQ.D M))(h2:M.Ok)(h3:(v= .str "wait 0"\/∃d,RD K H v d/\fC (gy d) "str"=false))(h4:∀dx H',aA H H'->E (.ref cT) (some dx) H')
def Ie(K:aa)(cT:Addr):Sp:=λvs H Q E=>a5D K cT vs H E
theorem Q8{n:Nat}(h:n=2\/n=3):yT n "wait 0"= .none:=by
 have e:gT n (hJ (Txt.split "wait 0" " "))=false:=by rcases h with rfl|rfl<;>decide+kernel
 unfold yT;rw[e];rfl
theorem Q7:Txt.split "wait 0" "\n"=[("wait 0":Str)]:=by decide+kernel
theorem Au:Str.length "wait 0"=6/\qY "wait 0":=⟨aO,UR aO⟩
theorem Vo{cT fI:Addr}(F:FA K mg "read_items" Bi)(B:bE mg)(OC:Ge K mg cT fI)(a0L:GV mg "MOST_ITEMS" (.int 20))(ZP:aG P w K mg au "item_in" 5 (AQ K)):fR P w K mg au "read_items" 6 (Ie K cT):=by
 obtain⟨fd,FI⟩:=OC.fn;have MW:=OC.e;have MU:dS P w K mg au eM 1 fI fd ["self","at"] (si K):=UX FI;have MZ:Binds K fd ["self","at"] []:=FI.binds (λ_ _ _ _ _ _=>cH λ_ _=>rfl);have MV:=OC.f;refine F.gU Jf (λvs H Q E h=>?_) (λ_ _ _ _ _ _=>cH λ_ _=>rfl) (λf aE A outer s H vs Q E hr h=>?_)
 ·obtain⟨m,v,M,rfl,_⟩:=h
  rfl
 ·obtain⟨m,v,M,rfl,rm,aM,hc,k⟩:=h
  have nd:=Jf.nd;have gW:sizeLine=16777216:=by decide
  have rz:∀(H5:Hp)(y:V),aA H H5->∀ex,H5 ex=none->si K [.ref ex,y] (_L.upd H5 ex (.ext (jx ex cT))) (λv H2=>v= .aY/\∃dx,H2 ex=some (.ext (gY ex cT dx))/\E (.ref cT) (some dx) (_L.del H2 ex)) (λ_ _ _=>False):=by
   intro H5 y s5 ex fx;refine⟨ex,cT,_,Z,bp,OC.x,λdx kX ne=>⟨Z,dx,bp,?_⟩⟩;have qQ:H5 dx=none:=by rw[aL ne]at kX;exact kX
   refine k dx _ λb o' e=>?_;have e5:=s5 b o' e;have nb:b≠ex:=eH e5 fx;have fX:b≠dx:=eH e5 qQ;rw[ml nb,aL nb,aL fX,aL nb];exact e5
  refine⟨_,(aD (bD (cE (bS (kC K B (ao (pv 1) (ao (jI (x:="str") (v:=.ty "str") Z (B.at "str") Po rfl) ay))))) (aH (yj (λ_ _ _ _ _ _ I a b q=>pQ I a b q) MW gJ hr.hd MU (hr.mono az) MZ MV Z (ao aF ay))) bG) (aD (bD (bT qv (pv 1) ck (bL _)) (aH (aZ (dh ay))) bG) (aD (pS 2 nd (dE ay)) (aD (j7 GG Z (yl K Z true Z (B.at "enumerate") (ao (D8 K rfl (pv 1) (ao ck ay)) ay)) (fb K rfl (n:=2) rfl (bU (bu 3 nd) (bU (bu 4 nd) eZ))) (aD (pS 5 nd (pf ZP hr (ao (pv 0) (ao (pv 4) ay)))) (aD (bD (PW.pt (kr (bT UI (pv 5) hV (bL _)) (kl (bT qv (pv 3) (cy (x:="MOST_ITEMS") Z a0L) (bL _))))) (aH (yj (λ_ _ _ _ _ _ I a b q=>pQ I a b q) MW gJ hr.hd MU (hr.mono az) MZ MV Z (ao (pv 3) ay))) bG) ku))) (aH (aZ (jH (x:="tuple") (mK K Z) Z (B.at "tuple") jz (ao (pv 2) ay)))))))),?_⟩;rcases hc with rfl|⟨d,rd,ht⟩
  ·refine⟨_,Z,.inl ⟨_,_,"str",true,Z,(dN (K:=K) (H:=H) "wait 0").ty,az,Hm,_,Z,aV ?_⟩⟩
   refine⟨_,Z,Z,_,Z,?_⟩;rw[show decide (V.str "wait 0"=V.str "")=false by decide+kernel];refine aV ⟨fw _,λD H1 n1=>?_⟩;refine⟨_,Z,Z,"wait 0","\n",Z,Z,aO,by rw[Au.1];omega,λq H2 n2=>?_⟩;rw[Q7]at n2;have s2:=n1.same.trans n2.same;refine⟨q,Z,⟨_,aK.of n2.at'⟩,zr (K:=K) (b:=true) (a:=q) (xs:=[.str "wait 0"]) (λi O H3=>aA H H3/\i=0/\H3 q=some (.lst [.str "wait 0"])/\∃v1 v2 v3,O=[some m,some (.str "wait 0"),some (.ref D),v1,v2,v3]) ⟨s2,Z,n2.at',none,none,none,Z⟩ (λi O H3 _ h=>aK.of h.2.2.1) ?_ ?_⟩
   ·rintro i y O H3 hy ⟨s3,rfl,eq,v1,v2,v3,rfl⟩ T H4 n4
    cases hy;have s4:=s3.trans n4.same;refine⟨T,_,Z,aQ.of n4.at',Z,_,_,Z,_,_,Z,Z,?_⟩;refine⟨_,Z,_,Z,m,M.rs,_,"wait 0",Z,RD.mono s4 _ rm,Z,by have:=aM.len;omega,by rw[Au.1];omega,Au.2,λv H5 s5 rv=>?_⟩;rw[Q8 aM.len]at rv;cases rv.yG;refine⟨_,Z,Z,_,Z,ba (ba ?_)⟩;exact⟨_,Z,bC Z,λex fx=>rz H5 _ (s4.trans s5) ex fx⟩
   ·rintro O H3 ⟨_,e0,_⟩
    cases e0
  ·refine⟨_,Z,.inl ⟨_,_,"str",false,Z,rd.ty,az,ht,_,Z,ba ?_⟩⟩
   exact⟨bC Z,λex fx=>rz H _ (aA.refl _) ex fx⟩
abbrev AZ:Stmt:=(FN (top 8)).getD 0 (.Pass ⟨0,0,0,0⟩)
theorem IY:bj ["self","at","why"] ["self","at","why"] (aP AZ):=bw aO
def Wz(x y:V):List (Str×V):=fL "why" y [("at",x)]
inductive a5k(K:aa)(vs:List V)(H:Hp)(Q:VK):Prop |mk (ex:_)(C:_)(x:_)(y:_)(h0:vs=[.ref ex,x,y])(h1:H ex=some (.ext (jx ex C)))(h2:nW K C "at")(h3:nW K C "why")(h4:∀dx,H dx=none->dx≠ex->Q .aY (_L.upd (_L.upd (_L.upd H dx (.xd [("at",x)])) ex (.ext (gY ex C dx))) dx (.xd (Wz x y))))
def AI(K:aa):Sp:=λvs H Q _=>a5k K vs H Q
theorem UW{f:Addr}{fd:FuncData}(F:gq K "__init__" "NoTape.__init__" AZ f fd):dS P w K mg au eM 1 f fd ["self","at","why"] (AI K):=by
 refine F.ok IY (λvs H Q E h=>?_) (λaE A outer s H vs Q E hr h=>?_)
 ·obtain⟨ex,C,x,y,rfl,_⟩:=h
  rfl
 ·obtain⟨ex,C,x,y,rfl,e1,xc,xw,k⟩:=h
  have nd:=IY.nd;refine⟨_,(aD (CY K Z (pv 0) (pv 1)) (aH (TQ K Z (pv 0) (pv 2)))),?_⟩;exact⟨_,Z,_,Z,ex,C,Z,e1,xc,λdx fd ne=>⟨_,Z,_,Z,ex,C,dx,_,Z,bp,by rw[aL ne];exact bp,xw,(by show 1<1000;decide),k dx fd ne⟩⟩
structure Gj(K:aa)(mg:bc)(C fI:Addr):Prop where
 e:mz K mg "NoTape" C fI cW dc
 i:PySem.W.findIn K (.ref C) "__init__"=some (some (.ref fI))
 x:nW K C "at"
 y:nW K C "why"
 f:fnAt K fI=true
 fn:∃fd,gq K "__init__" "NoTape.__init__" AZ fI fd
def pR:ah:=.tuple [.str "wait",.int 5]
inductive a6h(K:aa)(vs:List V)(H:Hp)(Q:VK):Prop |mk (m:_)(xv:_)(ev:_)(M:_)(d:_)(h0:vs=[m,xv,ev])(h1:RD K H m (bQ.D M))(h2:M.Ok)(h3:RD K H xv pR)(h4:RD K H ev d)(h5:cD 8 d)(h6:lL d=true)(h7:gT M.rs.length d=false)(h8:∀H',aA H H'->Q (.int 1) H')
def IB(K:aa):Sp:=λvs H Q _=>a6h K vs H Q
theorem W2(F:FA K mg "fault_of_entry" C6)(B:bE mg)(zl:GV mg "NOT_DUE" (.int 1))(vI:aG P w K mg au "is_item" 4 (uI K)):aG P w K mg au "fault_of_entry" 5 (IB K):=by
 refine F.has JV (λvs H Q E h=>?_) (λ_ _ _ _ _ _=>iM λ_ _ _=>rfl) (λfa aE A outer s H vs Q E hr h=>?_)
 ·obtain⟨m,xv,ev,M,d,rfl,_⟩:=h
  rfl
 ·obtain⟨m,xv,ev,M,d,rfl,rm,aM,rx,re,i2,i3,i1,k⟩:=h
  have nd:=JV.nd;have lr:=aM.len;refine⟨_,(aD (bD (bT (sZ K Z hr.units) (px K (pv 1) aF) ck (bL _)) (aH (aZ (gc (PW.pt (oB (bS (pf vI hr (ao (pv 0) (ao (pv 2) ay)))) (sM (bT (dR K Z hr.units) (pv 2) (pv 1) (bL _))))) hV (cy (x:="NOT_DUE") Z zl)))) bG) ku),?_⟩;obtain⟨a,xs,rfl,h1,hd⟩:=id (show RD K H xv (.tuple [.str "wait",.int 5])from rx).d6;obtain⟨u1,ys,rfl,e1,hd⟩:=hd.cons_inv;cases e1.str_inv;refine⟨_,Z,.inr ⟨a,_,0,.str "wait",Z,Z,h1,eK (gL 0) Z,.inr ⟨_,_,dN _,dN _,aO,aO,_,Z,?_⟩⟩⟩;rw[vZ,show fO "step" (.str "wait")=false by decide+kernel];refine ba ⟨_,Z,_,Z,m,ev,M.rs,_,d,Z,rm,re,bN,i2,i3,λH1 s1=>?_⟩;rw[i1];exact⟨_,Z,aV (k H1 s1)⟩
inductive a65(K:aa)(cN:Addr)(vs:List V)(H:Hp)(E:XK):Prop |mk (m:_)(iv:_)(tv:_)(M:_)(D:_)(h0:vs=[m,iv,.int 100,tv])(h1:RD K H m (bQ.D M))(h2:M.Ok)(h3:RD K H tv D)(h4:(fC (gy D) "list"=false\/(RD K H iv (.tuple [pR])/\(D= .list []\/∃d,D= .list [d]/\cD 8 d/\lL d=true/\gT M.rs.length d=false))))(h5:∀dx H',aA H H'->E (.ref cN) (some dx) H')
def Iv(K:aa)(cN:Addr):Sp:=λvs H Q E=>a65 K cN vs H E
theorem Hf{n:Nat}:fh n [pR] [none]:=by
 refine⟨Z,λi d o e1 e2=>?_,λi ns sp e=>?_⟩
 ·cases i with |zero=>cases e1;cases e2;exact(show r9 pR from .inl ⟨5,rfl,az,az⟩).it |succ i=>cases e1
 ·cases i with |zero=>cases e |succ i=>cases e
abbrev BN:Stmt:=top 113
theorem JE:bj ["machine","items","rate","thing","due","bounds","ended","at","expected","why","begun"] ["machine","items","rate","thing"] (aP BN):=bw aO
theorem VJ{cN fI:Addr}(F:FA K mg "look" BN)(B:bE mg)(NC:Gj K mg cN fI)(zl:GV mg "NOT_DUE" (.int 1))(a8b:GV mg "NO_BORDER" (.int 4))(a08:aG P w K mg au "due_entries" 5 (IG K))(a0n:aG P w K mg au "bounds_between" 9 (IJ K))(a04:aG P w K mg au "fault_of_entry" 5 (IB K)):fR P w K mg au "look" 10 (Iv K cN):=by
 obtain⟨fd,FI⟩:=NC.fn;have EL:=NC.e;have EH:dS P w K mg au eM 1 fI fd ["self","at","why"] (AI K):=UW FI;have EU:Binds K fd ["self","at","why"] []:=FI.binds (λ_ _ _ _ _ _=>iM λ_ _ _=>rfl);have EJ:=NC.f;refine F.gU JE (λvs H Q E h=>?_) (λ_ _ _ _ _ _=>G6 λ_ _ _ _=>rfl) (λfa aE A outer s H vs Q E hr h=>?_)
 ·obtain⟨m,iv,tv,M,D,rfl,_⟩:=h
  rfl
 ·obtain⟨m,iv,tv,M,D,rfl,rm,aM,rt,hc,k⟩:=h
  have nd:=JE.nd;have lr:=aM.len;refine⟨_,(aD (bD (cE (bS (kC K B (ao (pv 3) (ao (jI (x:="list") (v:=.ty "list") Z (B.at "list") PyProof.Rows.boot_list rfl) ay))))) (aH (CZ (λ_ _ _ _ _ _ I a b q=>pQ I a b q) EL gJ hr.hd EH (hr.mono az) EU EJ Z (ao aF (ao (cy (x:="NOT_DUE") Z zl) ay)))) bG) (aD (pS 4 nd (pf a08 hr (ao (pv 1) (ao (pv 2) ay)))) (aD (pS 5 nd (pf a0n hr (ao (pv 0) (ao (pv 1) (ao (pv 2) ay))))) (aD (pS 6 nd hV) (aD (j7 GG Z (yl K Z true Z (B.at "enumerate") (ao (pv 4) ay)) (fb K rfl (n:=2) rfl (bU (bu 7 nd) (bU (bu 8 nd) eZ))) (aD (bD (bT (dR K Z hr.units) (pv 7) (fm K B (ao (pv 3) ay)) (bL _)) (aH (CZ (λ_ _ _ _ _ _ I a b q=>pQ I a b q) EL gJ hr.hd EH (hr.mono az) EU EJ Z (ao (pv 7) (ao (cy (x:="NOT_DUE") Z zl) ay)))) bG) (aD (pS 9 nd (pf a04 hr (ao (pv 0) (ao (pv 8) (ao (px K (pv 3) (pv 7)) ay))))) (aD (bD (bT Df (pv 9) hV (bL _)) (aH (CZ (λ_ _ _ _ _ _ I a b q=>pQ I a b q) EL gJ hr.hd EH (hr.mono az) EU EJ Z (ao (pv 7) (ao (pv 9) ay)))) bG) ku)))) ku))))),?_⟩;have rz:∀(H5:Hp)(x y:V),aA H H5->∀ex,H5 ex=none->AI K [.ref ex,x,y] (_L.upd H5 ex (.ext (jx ex cN))) (λv H2=>v= .aY/\∃dx,H2 ex=some (.ext (gY ex cN dx))/\E (.ref cN) (some dx) (_L.del H2 ex)) (λ_ _ _=>False):=by
   intro H5 x y s5 ex fx;refine⟨ex,cN,_,_,Z,bp,NC.x,NC.y,λdx kX ne=>⟨Z,dx,by rw[aL ne.symm];exact bp,?_⟩⟩;have qQ:H5 dx=none:=by rw[aL ne]at kX;exact kX
   refine k dx _ λb o e=>?_;have e5:=s5 b o e;have nb:b≠ex:=eH e5 fx;have fX:b≠dx:=eH e5 qQ;rw[ml nb,aL fX,aL nb,aL fX,aL nb];exact e5
  rcases hc with hl|⟨ri,hD⟩
  ·refine⟨_,Z,.inl ⟨_,_,"list",false,Z,rt.ty,az,hl,_,Z,ba ?_⟩⟩
   exact⟨bC Z,λex fx=>rz H _ _ (aA.refl _) ex fx⟩
  have hT:gy D="list":=by rcases hD with rfl|⟨d,rfl,_⟩<;>rfl
  have tt:=rt.ty;rw[hT]at tt;refine⟨_,Z,.inl ⟨_,_,"list",true,Z,tt,az,(by decide:fC "list" "list"=true),_,Z,aV ?_⟩⟩;refine⟨_,Z,_,Z,iv,100,M.rs.length,[pR],[none],Z,ri,Hf,bN,az,az,az,λlD yD H1 nD dD rD s1=>?_⟩;refine⟨_,Z,_,Z,_,Z,m,iv,100,M.rs,M.r,M.f,M.j,M.t,[pR],[none],Z,RD.mono s1 _ rm,aM,RD.mono s1 _ ri,Hf,az,az,az,λlB yB H2 nB dB rB s2=>?_⟩;have gC:=s1.trans s2;have rD:aI K H1 yD [pR]:=rD;have ly:=rD.length;refine⟨_,Z,lD,Z,⟨_,aK.of (s2 _ _ dD)⟩,zr (K:=K) (b:=true) (a:=lD) (xs:=yD) (λi O H3=>aA H2 H3/\i=0/\∃v1 v2 v3 v4,O=[some m,some iv,some (.int 100),some tv,some (.ref lD),some (.ref lB),some .aY,v1,v2,v3,v4]) ⟨aA.refl _,Z,none,none,none,none,Z⟩ (λi O H3 _ h=>aK.of (h.1 _ _ (s2 _ _ dD))) ?_ ?_⟩
  ·rintro i y O H3 hy ⟨s3,rfl,v1,v2,v3,v4,rfl⟩ T H4 n4
   obtain⟨du,edu,SY⟩:=rD.get' 0 hy;cases edu;have sE:=s3.trans n4.same;have qd:=gC.trans sE;refine⟨T,_,Z,aQ.of n4.at',Z,_,_,Z,_,_,Z,Z,?_⟩;rcases hD with rfl|⟨d,rfl,i2,i3,i1⟩
   ·obtain⟨ta,xt,rfl,ht,vy⟩:=rt.lst_inv
    cases vy.nil_inv;refine⟨_,Z,_,Z,ta,_,Z,.inl (ht.go qd),.inl ⟨_,_,Z,Z,_,Z,ba ?_⟩⟩;exact⟨_,Z,bC Z,λex fx=>rz H4 _ _ qd ex fx⟩
   ·obtain⟨ta,xt,rfl,ht,vy⟩:=rt.lst_inv
    obtain⟨x,xr,rfl,rx,vy⟩:=vy.cons_inv;cases vy.nil_inv;refine⟨_,Z,_,Z,ta,_,Z,.inl (ht.go qd),.inl ⟨_,_,Z,Z,_,Z,aV ?_⟩⟩;refine⟨_,Z,_,Z,_,Z,_,Z,.inl ⟨ta,_,_,x,Z,Z,ht.go qd,Z,m,y,x,M,d,Z,RD.mono qd _ rm,aM,RD.mono (s2.trans sE) _ SY,RD.mono qd _ rx,i2,i3,i1,λH5 s5=>?_⟩⟩;refine⟨_,Z,Z,_,Z,ba ?_⟩;exact⟨_,Z,_,Z,bC Z,λex fx=>rz H5 _ _ (qd.trans s5) ex fx⟩
  ·rintro O H3 ⟨_,e0,_⟩
   rw[ly]at e0;cases e0
end
open _T (numIn?)
section
variable {P:af}{w:World}{K:aa}{mg:bc}{au:Heap}
structure wK(K:aa)(D:Addr):Prop where
 cl:gH K D
 mZ:gp K D "machine"
 X7:gp K D "runner"
theorem XC{rs:List Int}{r f j t:Int}(h:lg rs r f j t):ij (gR rs r f j t)=true:=by
 show(oP (.tuple (rs.map PyData.int))&&cC 1 100 (.int t)&&[PyData.int r,.int f,.int j].all (cC 1 50))=true;have h1:oP (.tuple (rs.map PyData.int))=true:=by show(((rs.map PyData.int).length==2||(rs.map PyData.int).length==3)&&(rs.map PyData.int).all (cC 1 100))=true;rw[bR,cZ,Bool.or_eq_true,cP,cP];refine⟨h.len,fF.mpr λd hd=>?_⟩;obtain⟨z,hz,rfl⟩:=gu.mp hd;have:=h.rl z hz;show(decide (1<=z)&&decide (z<=100))=true;rw[cn this.1,cn this.2];rfl
 have q:∀{lo hi z:Int},lo<=z/\z<=hi->cC lo hi (.int z)=true:=λ{lo hi z} h=>by show(decide (lo<=z)&&decide (z<=hi))=true;rw[cn h.1,cn h.2];rfl
 rw[h1,q h.t1];show(cC 1 50 (.int r)&&(cC 1 50 (.int f)&&(cC 1 50 (.int j)&&true)))=true;rw[q h.r1,q h.f1,q h.j1];rfl
abbrev Ca:Stmt:=inClass (top 106) 0
theorem JZ:bj ["self","machine","place"] ["self","machine","place"] (aP Ca):=bw aO
inductive a6m(K:aa)(D:Addr)(c8:Addr)(c9:Addr)(vs:List V)(H:Hp)(Q:VK)(E:XK):Prop |mk (a:_)(dx:_)(mv:_)(bF:_)(h0:vs=[.ref a,mv,bF])(h1:H a=some (.ins D dx []))(h2:((∃d,RD K H mv d/\ij d=false/\∀H',aA H H'->E (.ref c8) none H')\/∃M d',RD K H mv (bQ.D M)/\M.Ok/\RD K H bF d'/\(kI M.rs d'=false->∀H',aA H H'->E (.ref c9) none H')/\(kI M.rs d'=true->∃pl,d'=eg pl/\∀r H',H' a=some (.ins D dx [("machine",mv),("runner",.ref r)])->cK [a] H H'->Q .aY H')))
def IE(K:aa)(C D c8 c9:Addr):Sp:=λvs H Q E=>a6m K D c8 c9 vs H Q E
theorem W7{C D c8 c9:Addr}(F:CA K mg D "Desk" "Desk.__init__" Ca)(TC:wK K D)(a1o:Exc K mg "NoMachine" c8 cW dc)(a1n:Exc K mg "NoPlace" c9 cW dc)(ZS:aG P w K mg au "is_machine" 4 (uL ij K))(vG:aG P w K mg au "is_place" 3 (uK K))(md:rk P w K mg au C "Runner" 1 (uG K C)):zZ P w K mg au D "Desk" 5 (IE K C D c8 c9):=by
 refine F.gU JZ (λvs H Q E h=>?_) (λ_ _ _ _ _ _=>iM λ_ _ _=>rfl) (λf aE A outer s H vs Q E hr h=>?_)
 ·obtain⟨a,dx,mv,bF,rfl,_⟩:=h
  rfl
 ·obtain⟨a,dx,mv,bF,rfl,e,hc⟩:=h
  have nd:=JZ.nd;refine⟨_,(aD (bD (cE (bS (pf ZS hr (ao (pv 1) ay)))) (aH (jF (λ_ _ _ _ _ _ _ I m q=>jB I m q) a1o gJ hr.hd Z (ao ck ay))) bG) (aD (bD (cE (bS (pf vG hr (ao (pv 1) (ao (pv 2) ay))))) (aH (jF (λ_ _ _ _ _ _ _ I m q=>jB I m q) a1n gJ hr.hd Z (ao ck ay))) bG) (aD (fG TC.cl TC.mZ (pv 0) (pv 1)) (aH (fG TC.cl TC.X7 (pv 0) (qq md (hr.mono az) rfl (ao (pv 1) (ao (pv 2) ay)))))))),?_⟩;rcases hc with⟨d,rm,em,k1⟩|⟨M,d',rm,aM,rp,k2,k3⟩
  ·refine⟨_,Z,mv,d,Z,rm,λH1 s1=>⟨_,Z,?_⟩⟩
   rw[em];exact ba ⟨bC Z,k1 _ s1⟩
  refine⟨_,Z,mv,_,Z,rm,λH1 s1=>⟨_,Z,?_⟩⟩;rw[XC aM];refine aV ?_;have lr:=aM.len;refine⟨_,Z,_,Z,mv,bF,M.rs,_,d',Z,RD.mono s1 _ rm,RD.mono s1 _ rp,aw,λH2 s2=>⟨_,Z,?_⟩⟩;have gC:=s1.trans s2;cases ep:kI M.rs d' with |false=>exact ba ⟨bC Z,k2 ep _ gC⟩ |true=>
   refine aV ?_;obtain⟨pl,rfl,k4⟩:=k3 ep;have e2:=gC _ _ e;refine⟨_,Z,_,Z,a,dx,_,Z,e2,az,?_⟩;have v2:cA H (_L.upd H2 a (.ins D dx [("machine",mv)])):=gC.v.trans (.upd e2 trivial);refine⟨_,Z,_,Z,λr rx lY Ec ne=>?_⟩;have ar:a≠r:=λz=>by rw[<-z,bp]at lY;cases lY
   have arx:a≠rx:=λz=>by rw[<-z,bp]at Ec;cases Ec
   have s3:aA (_L.upd H2 a (.ins D dx [("machine",mv)])) (_L.upd (_L.upd (_L.upd H2 a (.ins D dx [("machine",mv)])) rx (.own r)) r (.ins C rx [])):=(aA.new Ec).trans (aA.new (by rw[aL ne.symm];exact lY));have v3:=v2.trans s3.v;refine⟨r,rx,mv,bF,M,pl,Z,bp,RD.v v3 _ (kG _ _ _ _ _) rm,RD.v v3 _ (ky _) rp,λq H3 R3 nq bt=>⟨Z,?_⟩⟩;have nr:H r=none:=by cases e':H r with |none=>rfl |some o=>rw[aL ar.symm,gC _ _ e']at lY;cases lY
   have e3:=bt a _ (by rw[aL ar,aL arx];exact bp) (λz=>ar (eB.mp z));refine⟨_,Z,a,dx,_,Z,e3,by show 1<1000;decide,?_⟩;refine k4 r _ bp λb o eb hb=>?_;have ha:b≠a:=λz=>hb (by rw[z];exact .head _);have hbr:b≠r:=λz=>by rw[z,nr]at eb;cases eb
   rw[aL ha];exact bt b o (s3 _ _ (by rw[aL ha];exact gC _ _ eb)) (λz=>hbr (eB.mp z))
inductive a5T(K:aa)(vs:List V)(H:Hp)(Q:VK):Prop |mk (l:Addr)(h0:vs=[.ref l])(h1:aK K H l [])(h2:Q .aY H)
def Io(K:aa):Sp:=λvs H Q _=>a5T K vs H Q
abbrev BC:Stmt:=top 107
theorem Js:bj ["words"] ["words"] (aP BC):=bw aO
theorem Vw(F:FA K mg "only_number" BC)(B:bE mg)(vB:aG P w K mg au "number_in" 1 uH):aG P w K mg au "only_number" 2 (Io K):=by
 refine F.has Js (λvs H Q E h=>?_) (λ_ _ _ _ _ _=>fE λ_=>rfl) (λf aE A outer s H vs Q E hr h=>?_)
 ·obtain⟨l,rfl,_⟩:=h
  rfl
 ·obtain⟨l,rfl,hl,k⟩:=h
  have nd:=Js.nd;refine⟨_,(aH (aZ (gc (bT (dR K Z hr.units) (fm K B (ao (pv 0) ay)) aF (bL _)) (pf vB hr (ao (px K (pv 0) aF) ay)) hV))),?_⟩;exact⟨_,Z,l,_,Z,.inl hl,.inl ⟨_,_,Z,Z,_,Z,aV k⟩⟩
abbrev Bf:Stmt:=inClass (top 106) 3
theorem Jc:bj ["self","words","number"] ["self","words"] (aP Bf):=bw aO
inductive a5z(K:aa)(cL:Addr)(vs:List V)(H:Hp)(E:XK):Prop |mk (a:_)(l:_)(h0:vs=[.ref a,.ref l])(h1:aK K H l [])(h2:∀H',aA H H'->E (.ref cL) none H')
def Ib(K:aa)(cL:Addr):Sp:=λvs H Q E=>a5z K cL vs H E
theorem V7{D cL:Addr}(F:MA K D "say_steps" "Desk.say_steps" Bf)(B:bE mg)(EN:Exc K mg "NoLine" cL cW dc)(a0M:GV mg "MOST_ENTRIES" (.int 100))(Zn:aG P w K mg au "only_number" 2 (Io K))(ip:aG P w K mg au "is_whole_within" 2 (lK K)):iA P w K mg au D "say_steps" 3 (Ib K cL):=by
 refine F.gU Jc (λvs H Q E h=>?_) (λ_ _ _ _ _ _=>cH λ_ _=>rfl) (λf0 aE A outer s H vs Q E hr h=>?_)
 ·obtain⟨a,l,rfl,_⟩:=h
  rfl
 ·obtain⟨a,l,rfl,hl,k⟩:=h
  have nd:=Jc.nd;refine⟨_,(aD (pS 2 nd (pf Zn hr (ao (pv 1) ay))) (aD (bD (cE (bS (pf ip hr (ao (pv 2) (ao aF (ao (cy (x:="MOST_ENTRIES") Z a0M) ay)))))) (aH (jF (λ_ _ _ _ _ _ _ I m q=>jB I m q) EN gJ hr.hd Z (ao ck ay))) bG) ku)),?_⟩;refine⟨_,Z,l,Z,hl,?_⟩;refine⟨_,Z,_,.none,0,100,Z,oA,_,Z,ba ?_⟩;exact⟨bC Z,k _ (aA.refl _)⟩
inductive a5y(K:aa)(D:Addr)(cL:Addr)(vs:List V)(H:Hp)(E:XK):Prop |mk (a:_)(dx:_)(mv:_)(r:_)(x:_)(h0:vs=[.ref a,x])(h1:H a=some (.ins D dx [("machine",mv),("runner",.ref r)]))(h2:(x= .str "steps"\/∃d,RD K H x d/\fC (gy d) "str"=false))(h3:∀H',aA H H'->E (.ref cL) none H')
def Ia(K:aa)(D cL:Addr):Sp:=λvs H Q E=>a5y K D cL vs H E
theorem Nu(x y:Str):PyData.eqv (.str x) (.str y)=decide (x=y):=by show(x==y)=decide (x=y);rw[iW];simp
abbrev Be:Stmt:=inClass (top 106) 1
theorem Jb:bj ["self","text","word","rest","answer","item"] ["self","text"] (aP Be):=bw aO
theorem V8{D gA cL:Addr}(F:MA K D "say" "Desk.say" Be)(TC:wK K D)(B:bE mg)(GA:GD w K mg "ANSWERS" gA)(nA:PySem.W.nsIn K gA "steps"=some none)(EN:Exc K mg "NoLine" cL cW dc)(a1r:iA P w K mg au D "say_steps" 3 (Ib K cL)):iA P w K mg au D "say" 4 (Ia K D cL):=by
 refine F.gU Jb (λvs H Q E h=>?_) (λ_ _ _ _ _ _=>cH λ_ _=>rfl) (λf0 aE A outer s H vs Q E hr h=>?_)
 ·obtain⟨a,dx,mv,r,x,rfl,_⟩:=h
  rfl
 ·obtain⟨a,dx,mv,r,x,rfl,ea,hc,k⟩:=h
  have nd:=Jb.nd;have gW:sizeLine=16777216:=by decide
  refine⟨_,(aD (bD (cE (bS (kC K B (ao (pv 1) (ao (jI (x:="str") (v:=.ty "str") Z (B.at "str") Po rfl) ay))))) (aH (jF (λ_ _ _ _ _ _ _ I m q=>jB I m q) EN gJ hr.hd Z (ao ck ay))) bG) (aD (fW (D8 K Z (pv 1) (ao ck ay)) (KJ K Z Z (bu 2 nd) (bu 3 nd))) (aD (bD (PW.pt (oB (TM (Uq GA Z (pv 2)) (by with_unfolding_all rfl)) (sM (cE (uW K Z (pv 3)))))) ku bG) (aD (bD (bT (dR K Z hr.units) (pv 2) ck (bL _)) ku bG) (aD (bD (bT (dR K Z hr.units) (pv 2) ck (bL _)) (aH (aZ (kz a1r (eh λ_ _ _ z=>z) TC.cl (hr.mono az) (pv 0) (ao (pv 3) ay)))) bG) ku))))),?_⟩;rcases hc with rfl|⟨d,rd,hd⟩
  ·refine⟨_,Z,.inl ⟨_,"str","str",true,Z,Z,az,az,_,Z,aV ?_⟩⟩
   have hs:Txt.split "steps" " "=[("steps":Str)]:=by decide+kernel
   have hl:Str.length "steps"=5:=by decide+kernel
   refine⟨_,Z,Z,"steps"," ",Z,Z,aO,aw,λl H1 n1=>?_⟩;rw[hs]at n1;refine⟨l,.str "steps",[],Z,aK.of n1.at',az,λp H2 n2=>?_⟩;have s2:=n1.same.trans n2.same;refine⟨_,Z,"steps",none,Z,nA,_,Z,aV ?_⟩;refine⟨_,Z,.inr ⟨_,_,dN _,dN _,aO,aO,_,Z,?_⟩⟩;rw[Nu,df aO];refine aV ⟨_,Z,.inr ⟨_,_,dN _,dN _,aO,aO,_,Z,?_⟩⟩;rw[Nu,cn rfl];refine ba ?_;exact⟨_,Z,a,dx,_,Z,s2 _ _ ea,Z,_,Z,a,p,Z,aK.of n2.at',λH' s'=>k H' (s2.trans s')⟩
  ·exact⟨_,Z,.inl ⟨_,_,"str",false,Z,rd.ty,az,hd,_,Z,ba ⟨bC Z,k _ (aA.refl _)⟩⟩⟩
end
end _a
set_option maxHeartbeats 1000000
namespace _a
open PySem PySem.Spec PyProof.Rows _L _r _l _C _P _W _R
open _O (topR cornO mnO betR atO ownF leadF ownL OkI OkIs)
section
variable {P:af}{w:World}{K:aa}{mg:bc}{au:Heap}
def wc(S:bO):bO:=match S.os with |o::os=>{S with pl:=fu S.pl o,ds:=S.ds.tail,os:=os,dn:=0} |[]=>S
theorem fh.tail{n:Nat}{d:ah}{ds:List ah}{o:Itm}{os:List Itm}(h:fh n (d::ds) (o::os)):fh n ds os:=⟨by have:=h.len;simpa using this,λi d' o' e1 e2=>h.it (i+1) d' o' (by simpa using e1) (by simpa using e2),λi ns sp e=>h.ok (i+1) ns sp (by simpa using e)⟩
theorem RowW.tail{d:ah}{ds:List ah}{o:Itm}{os:List Itm}(h:RowW (d::ds) (o::os)):RowW ds os:=λi d' e1 e2=>h (i+1) d' (by simpa using e1) (by simpa using e2)
structure jg(M:bQ)(D:Nat)(S:bO):Prop where
 row:fh M.rs.length S.ds S.os
 rw:RowW S.ds S.os
 len:S.ds.length<=20
 dy:10<=S.rate
 dM:S.rate<=200
 pl:S.pl.length=M.rs.length
 pd:Dd (D+10) S.pc
 pm:S.pc<=1600
 bf:pI D S.pc S.bf
 D1:64<=D
 D2:D<=1500
theorem dC.raw{M:bQ}{D:Nat}{S:bO}(h:dC M D S):jg M D S:=⟨h.row,h.rw,h.len,h.dy,h.dM,h.pl,h.pd,h.pm,h.bf,h.D1,h.D2⟩
theorem jg.ok{M:bQ}{D:Nat}{S:bO}(h:jg M D S)(hd:S.dn=0\/∃ns sp,S.os[0]? =some (some (ns,sp))/\S.dn<aJ ns):dC M D S:=⟨h.row,h.rw,h.len,h.dy,h.dM,hd,h.pl,h.pd,h.pm,h.bf,h.D1,h.D2⟩
theorem jg.end{M:bQ}{D:Nat}{S:bO}(h:jg M D S)(hn:S.os≠[]):dC M D (wc S):=by obtain⟨pl,dn,ds,os,pc,rate,side,mark,bf⟩:=S;cases os with |nil=>exact(hn Z).elim |cons o os=>have ll:=h.row.len;cases ds with |nil=>simp at ll |cons d ds=>
 refine⟨h.row.tail,h.rw.tail,?_,h.dy,h.dM,.inl Z,?_,h.pd,h.pm,h.bf,h.D1,h.D2⟩
 ·have:=h.len
  simp only[fA]at this;show ds.length<=20
  lia
 ·exact zQ h.pl λns sp e=>(h.row.ok 0 ns sp (by rw[<-e];rfl)).1.len
theorem zJ(xs:List V):gF xs (some 1) none=xs.drop 1:=FG xs
abbrev Bw:Stmt:=inClass (top 77) 16
theorem Jn:bj ["self"] ["self"] (aP Bw):=bw aO
inductive a5M(K:aa)(C:Addr)(vs:List V)(H:Hp)(Q:VK):Prop |mk (a:_)(q:_)(M:_)(D:_)(S:_)(h0:vs=[.ref a])(h1:cx K C H a q M S)(h2:jg M D S)(h3:M.Ok)(h4:S.os≠[])(h5:∀q' H',cx K C H' a q' M (wc S)->H q'=none->cK [a] H H'->Q .aY H')
def AL(K:aa)(C:Addr):Sp:=λvs H Q _=>a5M K C vs H Q
theorem Vn{C:Addr}(F:MA K C "end_first" "Runner.end_first" Bw)(TC:gm K C)(qL:aG P w K mg au "place_behind" 2 (sC K)):eL P w K mg au C "end_first" 3 (AL K C):=by
 refine F.has Jn (λvs H Q E h=>?_) (λ_ _ _ _ _ _=>fE λ_=>rfl) (λf aE A outer s H vs Q E hr h=>?_)
 ·obtain⟨a,q,M,D,S,rfl,_⟩:=h
  rfl
 ·obtain⟨a,q,M,D,S,rfl,R,ok,aM,hn,k⟩:=h
  obtain⟨dx,mv,bv,cf,tv,e,r1,r2,r3,r4⟩:=R.ob;obtain⟨ys,eq,rq⟩:=R.qu;have aq:=R.ne;have nd:=Jn.nd;have lr:=aM.len;have ll:=ok.row.len;refine⟨_,(aD (fG TC.cl TC.qB (pv 0) (pf qL hr (ao (cV TC.cl TC.qB (pv 0)) (ao (px K (cV TC.cl TC.ib (pv 0)) aF) ay)))) (aD (fG TC.cl TC.ib (pv 0) (qp (xZ K rfl) (cV TC.cl TC.ib (pv 0)) (qj aF) qk)) (aH (fG TC.cl TC.lR (pv 0) aF)))),?_⟩;obtain⟨pl,dn,ds,os,pc,rate,side,mark,bf⟩:=S;cases os with |nil=>exact(hn Z).elim |cons o os=>cases ds with |nil=>simp at ll |cons d ds=>
   obtain⟨y,yr,rfl,ry,rr⟩:=rq.cons_inv;have it:itR d o:=ok.row.it 0 d o Z rfl;have lp:pl.length=M.rs.length:=ok.pl;refine⟨_,Z,a,dx,_,_,Z,e,Z,?_⟩;refine⟨_,Z,a,dx,_,_,Z,e,Z,.inl ⟨q,_,0,y,Z,Z,aK.of eq,eK (gL 0) Z,?_⟩⟩;refine⟨bv,y,pl,d,o,Z,r2,ry,it,λns sp e'=>by rw[lp];exact(ok.row.ok 0 ns sp (by rw[<-e'];rfl)).1.len,aw,λu H1 ru s1=>?_⟩;have e1:=s1 _ _ e;refine⟨_,Z,a,dx,_,Z,e1,by show 9<1000;decide,?_⟩;have eq1:(_L.upd H1 a (.ins C dx (eV mv u (.int dn) (.ref q) cf (.int rate) (.str side) (.str mark) tv))) q=some (.lst (y::yr)):=by rw[aL aq.symm];exact s1 _ _ eq
   refine⟨_,Z,a,dx,_,_,Z,bp,Z,_,Z,q,_,Z,.inl ⟨aK.of eq1,λq' H2 n2=>?_⟩⟩;have e2:=n2.same _ _ (bp (a:=a));refine⟨_,Z,a,dx,_,Z,e2,by show 9<1000;decide,?_⟩;refine⟨_,Z,a,dx,_,Z,bp,by show 9<1000;decide,?_⟩;have pH:a≠q':=λz=>by have:=n2.no;rw[<-z,bp]at this;cases this
   have key:∀X:Hp,(∀b,b≠a->X b=H2 b)->Q .aY (_L.upd X a (.ins C dx (eV mv u (.int 0) (.ref q') cf (.int rate) (.str side) (.str mark) tv))):=by
    intro X hX;have bt:cK [a] H (_L.upd X a (.ins C dx (eV mv u (.int 0) (.ref q') cf (.int rate) (.str side) (.str mark) tv))):=λb o' eb hb=>by have ha:b≠a:=λz=>hb (by rw[z];exact .head _);rw[aL ha,hX b ha];exact n2.same _ _ (by rw[aL ha];exact s1 _ _ eb)
    have sv:=bt.v λx hx o' eo=>by rw[eB]at hx;rw[hx,e]at eo;cases eo;trivial
    have AB:cA H1 (_L.upd X a (.ins C dx (eV mv u (.int 0) (.ref q') cf (.int rate) (.str side) (.str mark) tv))):=λb o' nb eb=>by
     have ha:b≠a:=λz=>by rw[z,e1]at eb;cases eb;exact nb trivial
     rw[aL ha,hX b ha];exact n2.same _ _ (by rw[aL ha];exact eb)
    have fH:=n2.at';rw[zJ]at fH;refine k q' _ ⟨⟨dx,mv,u,cf,tv,bp,RD.v sv _ (kG _ _ _ _ _) r1,RD.v AB _ (ky _) ru,r3.v sv,r4.v sv⟩,yr,?_,?_⟩ ?_ bt
    ·rw[aL pH.symm,hX q' pH.symm];exact fH
    ·exact aI.v sv _ ok.row.tail.no rr
    ·cases e':H q' with |none=>rfl |some o'=>have h1:=s1 _ _ e';have h2:=n2.no;rw[aL pH.symm,h1]at h2;cases h2
   exact key _ (λb hb=>by rw[aL hb])
theorem Xi{x y z u q:Rat}(h:q=x\/q=y\/q=z\/q=u)(h1:q<=x)(h2:q<=y)(h3:q<=z)(h4:q<=u):mn (mn (mn x y) z) u=q:=by
 refine Gz ?_ (lV (lV (lV h1 h2) h3) h4);rcases h with h|h|h|h
 ·rw[h];exact fi (fY _ _) (fi (fY _ _) (fY _ _))
 ·rw[h];exact fi (fY _ _) (fi (fY _ _) (kF _ _))
 ·rw[h];exact fi (fY _ _) (kF _ _)
 ·rw[h];exact kF _ _
theorem M4{H:Hp}{Q:VK}{l:Addr}{u1 u2 u3:V}{x y z:Rat}(dl:H l=some (.lst [u1,u2,u3]))(R1:bM K H u1 x)(R2:bM K H u2 y)(R3:bM K H u3 z)(b1:Bd 2000 x)(b2:Bd 2000 y)(b3:Bd 2000 z)(k:∀v,bM K H v (mn (mn x y) z)->Q v H):mQ K [.ref l] H Q E0:=by
 refine⟨l,[u1,u2,u3],[x,y,z],Z,aK.of dl,⟨R1,b1,R2,b2,R3,b3,trivial⟩,by simp,λc v q e1 e2 hq=>k v ?_⟩;have e:mn (mn x y) z=q:=by
  refine Xj ?_ (hq _ (by simp)) (hq _ (by simp)) (hq _ (by simp))
  match c,e2 with |0,e2=>cases e2;exact .inl rfl |1,e2=>cases e2;exact .inr (.inl rfl) |2,e2=>cases e2;exact .inr (.inr rfl)
 rw[e]
 match c,e1,e2 with |0,e1,e2=>cases e1;cases e2;exact R1 |1,e1,e2=>cases e1;cases e2;exact R2 |2,e1,e2=>cases e1;cases e2;exact R3
theorem M1{H:Hp}{Q:VK}{l:Addr}{u1 u2 u3 u4:V}{x y z t:Rat}(dl:H l=some (.lst [u1,u2,u3,u4]))(R1:bM K H u1 x)(R2:bM K H u2 y)(R3:bM K H u3 z)(R4:bM K H u4 t)(b1:Bd 2000 x)(b2:Bd 2000 y)(b3:Bd 2000 z)(b4:Bd 2000 t)(k:∀v,bM K H v (mn (mn (mn x y) z) t)->Q v H):mQ K [.ref l] H Q E0:=by
 refine⟨l,[u1,u2,u3,u4],[x,y,z,t],Z,aK.of dl,⟨R1,b1,R2,b2,R3,b3,R4,b4,trivial⟩,by simp,λc v q e1 e2 hq=>k v ?_⟩;have e:mn (mn (mn x y) z) t=q:=by
  refine Xi ?_ (hq _ (by simp)) (hq _ (by simp)) (hq _ (by simp)) (hq _ (by simp))
  match c,e2 with |0,e2=>cases e2;exact .inl rfl |1,e2=>cases e2;exact .inr (.inl rfl) |2,e2=>cases e2;exact .inr (.inr (.inl rfl)) |3,e2=>cases e2;exact .inr (.inr (.inr rfl))
 rw[e]
 match c,e1,e2 with |0,e1,e2=>cases e1;cases e2;exact R1 |1,e1,e2=>cases e1;cases e2;exact R2 |2,e1,e2=>cases e1;cases e2;exact R3 |3,e1,e2=>cases e1;cases e2;exact R4
theorem zI{D:Nat}{q:Rat}{z:Int}(h:Dd D q)(hl:q<=1600)(hz:0<=z)(Mm:z<2^24)(hD:D<=1700):Bd 2000 (q+(z:Rat)):=by have b:Bd (D+11) q:=h.bd (fi hl aO);exact(G8 b aw).mono aw
abbrev Bo:Stmt:=inClass (top 77) 15
theorem Ji:bj ["self","top","reach","left","rise","fall","middles","ends","square","steps","gone","still"] ["self","top","reach","left"] (aP Bo):=bw aO
def Dp(M:bQ)(S:bO)(top R:Rat)(left:Int):bO:={S with pc:=qz M.r M.f S.pc top R left S.bf,bf:=yC S.bf}
inductive a5H(K:aa)(C:Addr)(vs:List V)(H:Hp)(Q:VK):Prop |mk (a:_)(q:_)(M:_)(D:_)(S:_)(tv:_)(Rv:_)(top:_)(R:_)(left:_)(h0:vs=[.ref a,tv,Rv,.int left])(h1:cx K C H a q M S)(h2:dC M D S)(h3:M.Ok)(h4:bM K H tv top)(h5:Dd 14 top)(h6:top<=1600)(h7:bM K H Rv R)(h8:Dd 64 R)(h9:R<=1600)(h10:1<=left)(h11:left<=100)(zp:¬Halt S.pc S.bf)(h13:∀v H',bM K H' v (mX M.r M.f S.pc top R left S.bf)->cx K C H' a q M (Dp M S top R left)->cK [a] H H'->Q v H')
def Ih(K:aa)(C:Addr):Sp:=λvs H Q _=>a5H K C vs H Q
theorem Ve{C:Addr}(F:MA K C "next_square" "Runner.next_square" Bo)(TC:gm K C)(tF:aG P w K mg au "plus_whole" 4 (xU K))(Mp:aG P w K mg au "times" 3 (pY (·*·) K))(kM:aG P w K mg au "fraction" 3 (sy K))(tI:aG P w K mg au "least" 2 (mQ K))(ED:eL P w K mg au C "is_held" 1 (iY K C λ_ S H Q=>Q (.bl S.bf.isSome) H)):eL P w K mg au C "next_square" 5 (Ih K C):=by
 refine F.has Ji (λvs H Q E h=>?_) (λ_ _ _ _ _ _=>G6 λ_ _ _ _=>rfl) (λf aE A outer s H vs Q E hr h=>?_)
 ·obtain⟨a,q,M,D,S,tv,Rv,top,R,left,rfl,_⟩:=h
  rfl
 ·obtain⟨a,q,M,D,S,tv,Rv,top,R,left,rfl,R0,ok,aM,rt,td,tl,rR,Rd,Rl,l1,l2,nh,k⟩:=h
  obtain⟨dx,mv,bv,cf,sv,e,r1,r2,r3,r4⟩:=R0.ob;obtain⟨ys,eq,rq⟩:=R0.qu;have aq:=R0.ne;have nd:=Ji.nd;have yi:=aM.r1;have vX:=aM.f1;have D1:=ok.D1;have D2:=ok.D2;have gW:(2:Int)^24=16777216:=by decide
  obtain⟨ma,mb,rfl,jq,m5⟩:=qE r1;refine⟨_,(aD (D4 (i:=4) (j:=5) Z nd Z Z az Z Z (ao (px K (cV TC.cl TC.mZ (pv 0)) aF) (ao (px K (cV TC.cl TC.mZ (pv 0)) aF) ay)) rfl) (aD (pS 6 nd (dE (ao (pf tF hr (ao (cV TC.cl TC.vm (pv 0)) (ao (pv 4) ay))) (ao (pv 1) (ao (pf tF hr (ao (pv 2) (ao (aW cu (pv 5) (aW j8 (aW cu aF (pv 3)) aF)) ay))) ay))))) (aD (pS 7 nd (dE (ao (pf tF hr (ao (cV TC.cl TC.vm (pv 0)) (ao (aW cu aF (pv 4)) ay))) (ao (pv 1) (ao (pf tF hr (ao (pv 2) (ao (aW cu (aW cu aF (pv 5)) (aW j8 (pv 3) aF)) ay))) ay))))) (aD (jm (bD (bS (kA ED TC.cl (hr.mono az) (pv 0))) (aD (fW (cV TC.cl TC.yI (pv 0)) (fb K rfl (n:=3) rfl (bU (bu 8 nd) (bU (bu 9 nd) (bU (bu 10 nd) eZ))))) (aD (pS 11 nd (aW j8 (aW j8 (pv 9) (pv 10)) aF)) (aD (gD (oE K Z (pv 6) (ao (pf Mp hr (ao (pv 8) (ao (pf kM hr (ao (aW fM (aW cu aF (pv 11)) aF) (ao (aW cu aF (pv 9)) ay))) ay))) ay))) (aD (gD (oE K Z (pv 7) (ao (pf Mp hr (ao (pv 8) (ao (pf kM hr (ao (pv 11) (ao (pv 9) ay))) ay))) ay))) (aH (fG TC.cl TC.yI (pv 0) (dh (ao (pv 8) (ao (pv 9) (ao (aW fM (pv 10) aF) ay)))))))))) bG)) (aD (fG TC.cl TC.vm (pv 0) (pf tI hr (ao (pv 7) ay))) (aH (aZ (pf tI hr (ao (pv 6) ay))))))))),?_⟩;refine⟨_,Z,a,dx,_,_,Z,e,Z,.inr ⟨ma,_,1,.int M.r,Z,Z,jq,Z,?_⟩⟩;refine⟨_,Z,a,dx,_,_,Z,e,Z,.inr ⟨ma,_,2,.int M.f,Z,Z,jq,Z,_,_,Z,?_⟩⟩;have fl1:(M.f*(2*left-1)).natAbs<=50*200:=by rw[iV];exact rO aw aw
  have a2d:0<=M.f*(2*left-1):=lF aw aw;have fl2:(2*M.f*(left-1)).natAbs<=100*100:=by rw[iV];exact rO aw aw
  have a2c:0<=2*M.f*(left-1):=lF aw aw;have KS:Bd 2000 S.pc:=(ok.pd.bd (fi ok.pm aO)).mono aw;have RB:Bd 2000 R:=(Rd.bd (fi Rl aO)).mono az;have tB:Bd 2000 top:=(td.bd (fi tl aO)).mono az;have B1:Bd 2000 (S.pc+(M.r:Rat)):=zI ok.pd ok.pm aw aw aw;have B2:Bd 2000 (R+((M.f*(2*left-1):Int):Rat)):=zI Rd Rl a2d aw aw;have B3:Bd 2000 (S.pc+((2*M.r:Int):Rat)):=zI ok.pd ok.pm aw aw aw;have B4:Bd 2000 (R+((2*M.f*(left-1):Int):Rat)):=zI Rd Rl a2c aw aw;refine⟨_,Z,a,dx,_,_,Z,e,Z,_,Z,cf,_,_,Z,r3,KS,aw,λu1 H1 kg s1=>?_⟩;refine⟨_,Z,_,Z,_,Z,_,Z,_,_,Z,Z,.of_left (dU az az),_,_,Z,Z,_,_,Z,Z,.of_left (dU aw aw),Rv,_,_,Z,rR.go s1,RB,aw,λu2 H2 uS s2=>?_⟩;refine⟨bC Z,λlm H3 n3=>?_⟩;have fD:=s1.trans (s2.trans n3.same);refine⟨_,Z,a,dx,_,_,Z,fD _ _ e,Z,_,Z,_,_,Z,Z,.of_left (dU az az),cf,_,_,Z,r3.go fD,KS,aw,λu3 H4 Sr s4=>?_⟩;have fk:=fD.trans s4;refine⟨_,Z,_,Z,_,Z,_,_,Z,Z,.of_left (dU az az),_,Z,_,_,Z,Z,_,_,Z,Z,.of_left (dU aw aw),Rv,_,_,Z,rR.go fk,RB,aw,λu4 H5 Sq s5=>?_⟩;refine⟨bC Z,λle H6 n6=>?_⟩;have sF:=fk.trans (s5.trans n6.same);have oy:=s4.trans (s5.trans n6.same);have e6:=sF _ _ e;have R6:=R0.same ok.row.no sF;have U1:=kg.go (s2.trans (n3.same.trans oy));have U2:=uS.go (n3.same.trans oy);have U3:=Sr.go (s5.trans n6.same);have U4:=Sq.go n6.same;have T6:=rt.go sF;have dm:=oy _ _ n3.at';have de:=n6.at';have G4:a≠lm:=λz=>by have:=n3.no;rw[<-z,(s1.trans s2) _ _ e]at this;cases this
  have OA:a≠le:=λz=>by have:=n6.no;rw[<-z,(fk.trans s5) _ _ e]at this;cases this
  have LW:lm≠le:=λz=>by have:=n6.no;rw[<-z,(s4.trans s5) _ _ n3.at']at this;cases this
  have WW:H lm=none:=by cases e':H lm with |none=>rfl |some o=>have:=(s1.trans s2) _ _ e';rw[n3.no]at this;cases this
  have WX:H le=none:=by cases e':H le with |none=>rfl |some o=>have:=(fk.trans s5) _ _ e';rw[n6.no]at this;cases this
  refine⟨λO H7=>∃pW w8 w9 oa Hg um ue,O=[some (.ref a),some tv,some Rv,some (.int left),some (.int M.r),some (.int M.f),some (.ref lm),some (.ref le),w8,w9,oa,Hg]/\cK [a,lm,le] H6 H7/\H7 a=some (.ins C dx (eV (.ref ma) bv (.int S.dn) (.ref q) cf (.int S.rate) (.str S.side) (.str S.mark) pW))/\u6 K H7 pW (yC S.bf)/\H7 lm=some (.lst um)/\H7 le=some (.lst ue)/\(∀H8 Q',cA H7 H8->H8 lm=some (.lst um)->(∀v,bM K H8 v (mX M.r M.f S.pc top R left S.bf)->Q' v H8)->mQ K [.ref lm] H8 Q' E0)/\(∀H8 Q',cA H7 H8->H8 le=some (.lst ue)->(∀v,bM K H8 v (qz M.r M.f S.pc top R left S.bf)->Q' v H8)->mQ K [.ref le] H8 Q' E0),?_,?_⟩
  ·refine⟨_,Z,a,dx,_,Z,e6,Z,a,q,M,D,S,Z,R6,ok,aM,_,Z,?_⟩
   cases hs:S.bf with |none=>rw[hs]at r4;refine aV ⟨sv,_,_,_,_,_,_,Z,cK.refl _ _,e6,r4,dm,de,λH8 Q' sV d8 kq=>M4 d8 (U1.v sV) (T6.v sV) (U2.v sV) B1 tB B2 kq,λH8 Q' sV d8 kq=>M4 d8 (U3.v sV) (T6.v sV) (U4.v sV) B3 tB B4 kq⟩ |some z=>
    obtain⟨sq,st,gn⟩:=z;rw[hs]at r4;have sk:=ok.bf;rw[hs]at sk nh;obtain⟨g1,g2,g3⟩:=vh sk ok.pd.nn nh;obtain⟨gn0,gn1,AE,AG,AF,_,_⟩:=sk;obtain⟨ta,su,rfl,Zc,Ze⟩:=r4;refine ba ?_;have Zb:=Zc.go sF;have E9:=Ze.go sF;have HP:Bd 2000 sq:=(AG.bd AF).mono aw;refine⟨_,Z,a,dx,_,_,Z,e6,Z,ta,_,Z,Zb,Z,_,_,Z,_,_,Z,_,_,Z,Z,?_⟩;refine⟨_,Z,_,Z,_,_,Z,Z,_,_,Z,Z,?_⟩;have gW:sizeLine=16777216:=by decide
    refine⟨_,Z,.inl ⟨Z,_,aK.of dm⟩,_,Z,_,Z,_,_,Z,Z,.of_left (dU az az),_,_,Z,Z,_,Z,_,_,Z,Z,.of_left (dU az az),_,_,Z,aw,jC (n:=64) aw az,λfv H7 rf s7=>?_⟩;have fB:Bd 2000 (Rat.divInt (2*(st-gn-1)+1) (2*st)):=(jJ (n:=12) aw aw aw).mono az;have fB2:Bd 2000 (Rat.divInt (st-gn-1) st):=(jJ (n:=12) aw aw aw).mono az;have pB:Bd 2000 (sq*Rat.divInt (2*(st-gn-1)+1) (2*st)):=((AG.bd AF).mul (jJ (n:=12) aw aw aw)).mono aw;have Us:Bd 2000 (sq*Rat.divInt (st-gn-1) st):=((AG.bd AF).mul (jJ (n:=12) aw aw aw)).mono aw;refine⟨su,fv,sq,_,Z,E9.go s7,rf,HP,fB,λx1 H8 Sl s8=>?_⟩;have lO:=s7.trans s8;have NL:=lO _ _ dm;refine⟨lm,_,_,Z,Z,NL,by show 3<sizeLine;lia,?_⟩;have v8:cA H8 (_L.upd H8 lm (.lst ([u1,tv,u2]++[x1]))):=.upd NL trivial;have NX:(_L.upd H8 lm (.lst ([u1,tv,u2]++[x1]))) le=some (.lst [u3,tv,u4]):=by rw[aL LW.symm];exact lO _ _ de
    refine⟨_,Z,.inl ⟨Z,_,aK.of NX⟩,_,Z,_,Z,_,Z,_,_,Z,aw,jC (n:=64) aw az,λgv H9 rg s9=>?_⟩;refine⟨su,gv,sq,_,Z,((E9.go lO).v v8).go s9,rg,HP,fB2,λx2 jh Sk iG=>?_⟩;have sD:=s9.trans iG;have NY:=sD _ _ NX;refine⟨le,_,_,Z,Z,NY,by show 3<sizeLine;lia,?_⟩;have v10:cA jh (_L.upd jh le (.lst ([u3,tv,u4]++[x2]))):=.upd NY trivial;refine⟨_,Z,_,Z,_,Z,_,_,Z,Z,bC Z,λtn iC jM=>?_⟩;have Qb:cA H6 jh:=(lO.v.trans v8).trans sD.v;have Qa:cA H6 iC:=(Qb.trans v10).trans jM.same.v;have e8:(_L.upd H8 lm (.lst ([u1,tv,u2]++[x1]))) a=some (.ins C dx (eV (.ref ma) bv (.int S.dn) (.ref q) cf (.int S.rate) (.str S.side) (.str S.mark) (.ref ta))):=by rw[aL G4];exact lO _ _ e6
    have NH:iC a=some (.ins C dx (eV (.ref ma) bv (.int S.dn) (.ref q) cf (.int S.rate) (.str S.side) (.str S.mark) (.ref ta))):=jM.same _ _ (by rw[aL OA];exact sD _ _ e8);refine⟨_,Z,a,dx,_,Z,NH,by show 9<1000;decide,?_⟩;have xF:cA iC (_L.upd iC a (.ins C dx (eV (.ref ma) bv (.int S.dn) (.ref q) cf (.int S.rate) (.str S.side) (.str S.mark) (.ref tn)))):=.upd NH trivial;have pT:=Qa.trans xF;have Q9:=(((v8.trans sD.v).trans v10).trans jM.same.v).trans xF;have Qd:=(v10.trans jM.same.v).trans xF;refine⟨.ref tn,_,_,_,_,[u1,tv,u2,x1],[u3,tv,u4,x2],Z,λb o' eb hb=>?_,bp,⟨tn,su,Z,aQ.v xF (aQ.of jM.at'),E9.v pT⟩,?_,?_,λH' Q' sV d' kq=>?_,λH' Q' sV d' kq=>?_⟩
    ·have ha:b≠a:=λz=>hb (by rw[z];simp)
     have ZG:b≠lm:=λz=>hb (by rw[z];simp);have hle:b≠le:=λz=>hb (by rw[z];simp);rw[aL ha];exact jM.same _ _ (by rw[aL hle];exact sD _ _ (by rw[aL ZG];exact lO _ _ eb))
    ·rw[aL G4.symm]
     exact jM.same _ _ (by rw[aL LW];exact sD _ _ bp)
    ·rw[aL OA.symm]
     exact jM.same _ _ bp
    ·exact M1 d' ((U1.v pT).v sV) ((T6.v pT).v sV) ((U2.v pT).v sV) ((Sl.v Q9).v sV) B1 tB B2 pB kq
    ·exact M1 d' ((U3.v pT).v sV) ((T6.v pT).v sV) ((U4.v pT).v sV) ((Sk.v Qd).v sV) B3 tB B4 Us kq
  ·rintro O H7 ⟨pW,w8,w9,oa,Hg,um,ue,rfl,bt,e7,jl,dm7,de7,km,ke⟩
   refine⟨_,Z,?_⟩;dsimp only[oj];refine ke H7 _ .refl de7 λpe SI=>?_;refine⟨_,Z,a,dx,_,Z,e7,by show 9<1000;decide,?_⟩;have v8:cA H7 (_L.upd H7 a (.ins C dx (eV (.ref ma) bv (.int S.dn) (.ref q) pe (.int S.rate) (.str S.side) (.str S.mark) pW))):=.upd e7 trivial;refine⟨_,Z,?_⟩;dsimp only[oj];refine km _ _ v8 (by rw[aL G4.symm];exact dm7) λv rv=>?_;have bH:cK [a] H (_L.upd H7 a (.ins C dx (eV (.ref ma) bv (.int S.dn) (.ref q) pe (.int S.rate) (.str S.side) (.str S.mark) pW))):=λb o' eb hb=>by
    have ha:b≠a:=λz=>hb (by rw[z];simp);rw[aL ha];refine bt b o' (sF _ _ eb) λhm=>?_;simp only[bZ,dX,gs]at hm;rcases hm with h|h|h
    ·exact ha h
    ·rw[h,WW]at eb;cases eb
    ·rw[h,WX]at eb;cases eb
   have vH:cA H (_L.upd H7 a (.ins C dx (eV (.ref ma) bv (.int S.dn) (.ref q) pe (.int S.rate) (.str S.side) (.str S.mark) pW))):=bH.v λx hx o' eo=>by rw[eB]at hx;rw[hx,e]at eo;cases eo;trivial
   refine k v _ rv ⟨⟨dx,.ref ma,bv,pe,pW,bp,RD.v vH _ (kG _ _ _ _ _) r1,RD.v vH _ (ky _) r2,SI.v v8,jl.v v8⟩,ys,bH _ _ eq (by rw[eB];exact aq.symm),aI.v vH _ ok.row.no rq⟩ bH
end
end _a
set_option maxHeartbeats 2000000
namespace _a
open PySem PySem.Spec PyProof.Rows _L _r _l _C _P _W _R
open _O (topR cornO mnO betR atO ownF leadF ownL OkI OkIs)
section
variable {P:af}{w:World}{K:aa}{mg:bc}{au:Heap}
noncomputable def j4(M:bQ)(S:bO):Rat:=Kp M.f M.j S.rate S.os
noncomputable def LV(M:bQ)(S:bO)(ns:List Int)(sp:Int):Rat:=mX M.r M.f S.pc (topR S.rate sp) (j4 M S) ((aJ ns:Int)-S.dn) S.bf
noncomputable def tj(M:bQ)(S:bO)(ns:List Int)(sp:Int):ah:=sf M.t (ki ns S.dn) (LV M S ns sp)
noncomputable def lU(M:bQ)(S:bO)(ns:List Int)(sp:Int):bO:={Dp M S (topR S.rate sp) (j4 M S) ((aJ ns:Int)-S.dn)with dn:=S.dn+1}
def hZ(ns:List Int)(S:bO):bO:=if S.dn=aJ ns then wc S else S
def eU(d:ah)(S:bO):bO:=match d with | .tuple [.str w,.str s]=>if w="tool" then{S with side:=s}else if w="mark" then{S with mark:=s}else S |_=>S
inductive One(M:bQ):bO->ah->bO->Prop |line {S:bO}{ns:List Int}{sp:Int}:S.os[0]? =some (some (ns,sp))->¬Halt S.pc S.bf->One M S (tj M S ns sp) (hZ ns (lU M S ns sp)) |oF {S:bO}{d:ah}:S.os[0]? =some none->S.ds[0]? =some d->¬Halt S.pc S.bf->One M S d (wc (eU d S))
inductive Run(M:bQ):bO->List ah->bO->Prop |nil (S:bO):Run M S [] S |cons {S S1 S2:bO}{e:ah}{es:List ah}:One M S e S1->Run M S1 es S2->Run M S (e::es) S2
theorem Run.trans{M:bQ}{S S1 S2:bO}{es fs:List ah}(h:Run M S es S1)(g:Run M S1 fs S2):Run M S (es++fs) S2:=by induction h with |nil=>exact g |cons o _ ih=>exact .cons o (ih g)
theorem Run.snoc{M:bQ}{S S1 S2:bO}{es:List ah}{e:ah}(h:Run M S es S1)(g:One M S1 e S2):Run M S (es++[e]) S2:=h.trans (.cons g (.nil _))
theorem IW{M:bQ}{D:Nat}{S:bO}(h:jg M D S)(d:ah):jg M D (eU d S)/\(eU d S).os=S.os/\(eU d S).ds=S.ds/\(eU d S).dn=S.dn/\(eU d S).pl=S.pl:=by
 unfold eU;split
 ·split
  ·exact⟨⟨h.row,h.rw,h.len,h.dy,h.dM,h.pl,h.pd,h.pm,h.bf,h.D1,h.D2⟩,Z,Z,Z,Z⟩
  ·split
   ·exact⟨⟨h.row,h.rw,h.len,h.dy,h.dM,h.pl,h.pd,h.pm,h.bf,h.D1,h.D2⟩,Z,Z,Z,Z⟩
   ·exact⟨h,Z,Z,Z,Z⟩
 ·exact⟨h,Z,Z,Z,Z⟩
theorem CN{M:bQ}{D:Nat}{S:bO}(h:jg M D S)(aM:M.Ok)(hn:S.os≠[]):Dd 64 (j4 M S)/\j4 M S<=1600:=by
 have h1:1<=S.os.length:=by cases e:S.os with|nil=>exact(hn e).elim|cons _ _=>simp
 refine⟨a2a (by have:=aM.f1;lia) (λi _=>Uu aM.j1.1 aM.j1.2 h.dy h.dM h.row.yz i) 1 h1,?_⟩;exact fi (a29 h1) (Ut h.dy h.dM h.row.yz 1)
theorem LU{M:bQ}{D:Nat}{S:bO}{ns:List Int}{sp:Int}(h:jg M D S)(aM:M.Ok)(eo:S.os[0]? =some (some (ns,sp)))(hd:S.dn<aJ ns)(nh:¬Halt S.pc S.bf):jg M D (lU M S ns sp):=by
 have hn:S.os≠[]:=λe=>by rw[e]at eo;simp at eo
 obtain⟨R1,R2⟩:=CN h aM hn;obtain⟨da,s1,s2⟩:=h.row.ok 0 ns sp eo;have D1:=h.D1;have yi:=aM.r1;have vX:=aM.f1;refine⟨h.row,h.rw,h.len,h.dy,h.dM,h.pl,?_,?_,?_,h.D1,h.D2⟩
 ·exact a3u aw aw aw h.pd ((Hq _ _).mono aw) (R1.mono aw) h.bf nh
 ·exact fi a3t (Aw s1 s2 h.dy h.dM)
 ·exact RC h.bf h.pd.nn nh
theorem One.ok{M:bQ}{D:Nat}{S S1:bO}{e:ah}(h:dC M D S)(aM:M.Ok)(o:One M S e S1):dC M D S1:=by cases o with
 |@line ns sp eo nh=>
  have hd:S.dn<aJ ns:=by
   rcases h.dn with e|⟨Dq,AV,e1,e2⟩
   ·rw[e];exact(h.row.ok 0 ns sp eo).1.lead.1
   ·rw[eo]at e1;cases e1;exact e2
  have raw:=LU h.raw aM eo hd nh;have hn:S.os≠[]:=λe=>by rw[e]at eo;simp at eo
  unfold hZ;split
  ·exact raw.end hn
  ·next dI=>
   refine raw.ok (.inr ⟨ns,sp,eo,?_⟩);have:(lU M S ns sp).dn=S.dn+1:=rfl
   lia |oF eo ed nh=>obtain⟨h1,h2,_⟩:=IW h.raw e;refine h1.end ?_;rw[h2];intro z;rw[z]at eo;simp at eo
theorem Run.ok{M:bQ}{D:Nat}{S S1:bO}{es:List ah}(h:dC M D S)(aM:M.Ok)(r:Run M S es S1):dC M D S1:=by induction r with |nil=>exact h |cons o _ ih=>exact ih (o.ok h aM)
theorem One.no{M:bQ}{D:Nat}{S S1:bO}{e:ah}(h:dC M D S)(o:One M S e S1):dP e=true:=by cases o with |line _ _=>exact HK _ _ _ |oF eo ed _=>exact eO.mp h.row.no _ (iS ed)
theorem Run.no{M:bQ}{D:Nat}{S S1:bO}{es:List ah}(h:dC M D S)(aM:M.Ok)(r:Run M S es S1):bX es=true:=by induction r with |nil=>rfl |cons o _ ih=>rw[bX,cZ];exact⟨o.no h,ih (o.ok h aM)⟩
theorem yU{b:Bool}{A B A' B':Prop}(h1:A->A')(h2:B->B'):(if b=true then A else B)->(if b=true then A' else B'):=by
 cases b
 ·exact h2
 ·exact h1
abbrev Bl:Stmt:=inClass (top 77) 14
theorem Jh:bj ["self","most","line","lead","rows","top","reach","told","middle"] ["self","most"] (aP Bl):=bw aO
inductive a5G(K:aa)(C:Addr)(vs:List V)(H:Hp)(Q:VK):Prop |mk (a:_)(q:_)(M:_)(D:_)(S:_)(ns:_)(sp:_)(most:_)(h0:vs=[.ref a,.int most])(h1:cx K C H a q M S)(h2:dC M D S)(h3:M.Ok)(h4:S.os[0]? =some (some (ns,sp)))(h5:¬Halt S.pc S.bf)(h6:1<=most)(h7:most<=1000)(h8:∀l ys es S' q' H',H l=none->H' l=some (.lst ys)->aI K H' ys es->Run M S es S'->1<=es.length->(es.length:Int)<=most->cx K C H' a q' M S'->Mv a q H q' H'->l≠q'->Q (.ref l) H')
def Ig(K:aa)(C:Addr):Sp:=λvs H Q _=>a5G K C vs H Q
theorem Va{C:Addr}(F:MA K C "steps_of_first" "Runner.steps_of_first" Bl)(TC:gm K C)(B:bE mg)(kL:aG P w K mg au "lead_of" 1 (oq K))(Ea:aG P w K mg au "step_rows" 3 (xS K))(lX:aG P w K mg au "top_square" 4 (sj K))(Zj:aG P w K mg au "reach_behind_first" 9 (AJ K))(Zf:aG P w K mg au "step_entry" 3 (AR K))(vQ:eL P w K mg au C "is_halted" 2 (iY K C λ_ S H Q=>Q (.bl (S.bf.isSome&&decide (S.pc=0))) H))(a16:eL P w K mg au C "next_square" 5 (Ih K C))(EE:eL P w K mg au C "end_first" 3 (AL K C)):eL P w K mg au C "steps_of_first" 10 (Ig K C):=by
 refine F.has Jh (λvs H Q E h=>?_) (λ_ _ _ _ _ _=>cH λ_ _=>rfl) (λf aE A outer s H vs Q E hr h=>?_)
 ·obtain⟨a,q,M,D,S,ns,sp,most,rfl,_⟩:=h
  rfl
 ·obtain⟨a,q,M,D,S,ns,sp,most,rfl,R0,ok,aM,eo,nh,m1,m2,k⟩:=h
  obtain⟨dx,mv,bv,cf,tv,e,r1,r2,r3,r4⟩:=R0.ob;obtain⟨ys,eq,rq⟩:=R0.qu;have aq:=R0.ne;have nd:=Jh.nd;have lr:=aM.len;have yi:=aM.r1;have vX:=aM.f1;have ll:=ok.row.len;have N0:=ok.len;have zc:0<S.os.length:=(eY.mp eo).1;have dI:S.os≠[]:=λz=>by rw[z]at zc;exact absurd zc az
  obtain⟨d,ed⟩:∃d,S.ds[0]? =some d:=⟨_,cI (show 0<S.ds.length by lia)⟩;obtain⟨y,ey,ry⟩:=rq.get 0 ed;have jt:=nk (ok.row.it 0 d _ ed eo);subst jt;obtain⟨da,gB,gO⟩:=ok.row.ok 0 ns sp eo;have US:eX ns.length 1000 ns:=⟨Z,λz hz=>by have:=da.bd z hz;lia,da.nz⟩;have LP:=da.lead.1;have DT:=vq da;have WZ:ns.length<=3:=by rw[da.len];lia
  have hd0:S.dn<aJ ns:=by
   rcases ok.dn with e'|⟨Dq,AV,e1,e2⟩
   ·lia
   ·rw[eo]at e1;cases e1;exact e2
  obtain⟨Rd,Rl⟩:=CN ok.raw aM dI;refine⟨_,(aD (pS 2 nd (px K (cV TC.cl TC.ib (pv 0)) aF)) (aD (pS 3 nd (pf kL hr (ao (pv 2) ay))) (aD (pS 4 nd (pf Ea hr (ao (pv 2) ay))) (aD (pS 5 nd (pf lX hr (ao (pv 2) (ao (cV TC.cl TC.yJ (pv 0)) ay)))) (aD (pS 6 nd (pf Zj hr (ao (cV TC.cl TC.mZ (pv 0)) (ao (cV TC.cl TC.ib (pv 0)) (ao (cV TC.cl TC.yJ (pv 0)) ay))))) (aD (pS 7 nd (dE ay)) (aD (jm (sN iQ (PW.pt (oB (bT mW (fm K B (ao (pv 7) ay)) (pv 1) (bL _)) (oB (bT mW (cV TC.cl TC.lR (pv 0)) (pv 3) (bL _)) (sM (cE (bS (kA vQ TC.cl (hr.mono az) (pv 0)))))))) (aD (pS 8 nd (yo a16 TC.cl (hr.mono az) (pv 0) (ao (pv 5) (ao (pv 6) (ao (aW j8 (pv 3) (cV TC.cl TC.lR (pv 0))) ay))))) (aD (gD (oE K Z (pv 7) (ao (pf Zf hr (ao (cV TC.cl TC.mZ (pv 0)) (ao (px K (pv 4) (cV TC.cl TC.lR (pv 0))) (ao (pv 8) ay)))) ay))) (aH (TU TC.cl TC.lR (pv 0) aF YG)))))) (aD (jm (bD (bT (dR K Z hr.units) (cV TC.cl TC.lR (pv 0)) (pv 3) (bL _)) (aH (gD (kA EE TC.cl (hr.mono az) (pv 0)))) bG)) (aH (aZ (pv 7))))))))))),?_⟩;refine⟨_,Z,a,dx,_,_,Z,e,Z,.inl ⟨q,_,0,y,Z,Z,aK.of eq,eK (gL 0) ey,?_⟩⟩;refine⟨_,Z,y,ns,sp,Z,ry,da.ne,aw,λH1 s1=>?_⟩;refine⟨_,Z,y,ns,sp,Z,RD.mono s1 _ ry,US,aw,λlT yr H2 WU NM Ki s2=>?_⟩;have gC:=s1.trans s2;refine⟨_,Z,_,Z,a,dx,_,_,Z,gC _ _ e,Z,y,ns,sp,S.rate,Z,RD.mono gC _ ry,gB,gO,ok.dy,ok.dM,λpV H3 Sv s3=>?_⟩;have fD:=gC.trans s3;have e3:=fD _ _ e;refine⟨_,Z,a,dx,_,_,Z,e3,Z,_,Z,a,dx,_,_,Z,e3,Z,_,Z,a,dx,_,_,Z,e3,Z,mv,.ref q,S.rate,M.rs,M.r,M.f,M.j,M.t,S.ds,S.os,Z,RD.mono fD _ r1,aM,sG (aK.of (fD _ _ eq)) (aI.mono fD _ rq),ok.row,aw,aw,ok.dy,ok.dM,λqi H4 SA s4=>?_⟩;have fk:=fD.trans s4;refine⟨bC Z,λl H5 n5=>?_⟩;have mR:=fk.trans n5.same;have ye:aA H2 H5:=s3.trans (s4.trans n5.same);have nl:H l=none:=by cases e':H l with |none=>rfl |some o=>have:=fk _ _ e';rw[n5.no]at this;cases this
  have Ls:H lT=none:=by cases e':H lT with |none=>rfl |some o=>have:=s1 _ _ e';rw[WU]at this;cases this
  have al:a≠l:=λz=>by rw[<-z,e]at nl;cases nl
  have ql:q≠l:=λz=>by rw[<-z,eq]at nl;cases nl
  have Oy:a≠lT:=λz=>by rw[<-z,e]at Ls;cases Ls
  have Yb:l≠lT:=λz=>by have:=n5.no;rw[z,(s3.trans s4) _ _ NM]at this;cases this
  have PX:=Ki.length;rw[CD]at PX;have td:=Hq S.rate sp;have tl:=Aw gB gO ok.dy ok.dM;have tp:=Ho gB ok.dy;have WE:hZ ns S=S:=by unfold hZ;rw[bh aw]
  have gW:sizeLine=16777216:=by decide
  refine⟨λO H6=>∃T es us w8,O=[some (.ref a),some (.int most),some y,some (.int (aJ ns)),some (.ref lT),some pV,some qi,some (.ref l),w8]/\cK [a,l] H5 H6/\cx K C H6 a q M T/\jg M D T/\T.os=S.os/\T.ds=S.ds/\T.rate=S.rate/\T.dn<=aJ ns/\1<=es.length/\(es.length:Int)<=most/\H6 l=some (.lst us)/\aI K H6 us es/\bX es=true/\Run M S es (hZ ns T),?_,?_⟩
  ·refine rS (λO H6=>∃T es us w8,O=[some (.ref a),some (.int most),some y,some (.int (aJ ns)),some (.ref lT),some pV,some qi,some (.ref l),w8]/\cK [a,l] H5 H6/\cx K C H6 a q M T/\jg M D T/\T.os=S.os/\T.ds=S.ds/\T.rate=S.rate/\T.dn=S.dn+es.length/\T.dn<=aJ ns/\(es.length:Int)<=most/\H6 l=some (.lst us)/\aI K H6 us es/\bX es=true/\Run M S es (hZ ns T)/\(es=[]->¬Halt T.pc T.bf)) (λ_ H6=>match H6 l with|some (.lst us)=>2000-us.length|_=>0) ?_ ?_ ?_
   ·exact⟨S,[],[],none,Z,cK.refl _ _,R0.same ok.row.no mR,ok.raw,Z,Z,Z,Z,aw,by simp;lia,n5.at',bW,Z,by rw[WE];exact .nil _,λ_=>nh⟩
   ·rintro O H6 ⟨T,es,us,w8,rfl,bt,RT,raw,pk,zC,tQ,edn,MH,nJ,dl,rd,m4,run,Zy⟩
    have lu:=rd.length;obtain⟨qS,Xa,bv6,Uo,Qo,e6,t1,t2,t3,t4⟩:=RT.ob;have Av:cA H5 H6:=bt.v λx hx o' eu=>by
     simp only[bZ,dX,gs]at hx;rcases hx with rfl|rfl
     ·rw[mR _ _ e]at eu;cases eu;trivial
     ·rw[n5.at']at eu;cases eu;trivial
    have WK:bX T.ds=true:=by rw[zC];exact ok.row.no
    have Fs:1<=es.length->∃T' mj ka xD,[some (.ref a),some (.int most),some y,some (.int (aJ ns)),some (.ref lT),some pV,some qi,some (.ref l),w8]=[some (.ref a),some (.int most),some y,some (.int (aJ ns)),some (.ref lT),some pV,some qi,some (.ref l),xD]/\cK [a,l] H5 H6/\cx K C H6 a q M T'/\jg M D T'/\T'.os=S.os/\T'.ds=S.ds/\T'.rate=S.rate/\T'.dn<=aJ ns/\1<=mj.length/\(mj.length:Int)<=most/\H6 l=some (.lst ka)/\aI K H6 ka mj/\bX mj=true/\Run M S mj (hZ ns T'):=λh1=>⟨T,es,us,w8,Z,bt,RT,raw,pk,zC,tQ,MH,h1,nJ,dl,rd,m4,run⟩;refine⟨_,Z,l,us,Z,.inl (aK.of dl),_,Z,_,_,Z,Z,_,Z,?_⟩;show if decide ((us.length:Int)<most)=true then _ else _;by_cases c1:(us.length:Int)<most
    ·rw[cn c1]
     refine ba ?_;refine⟨_,Z,a,qS,_,_,Z,e6,Z,_,Z,_,_,Z,Z,_,Z,?_⟩;show if decide ((T.dn:Int)<(aJ ns:Int))=true then _ else _;by_cases c2:T.dn<aJ ns
     ·rw[cn aw]
      refine ba ?_;have Lf:dC M D T:=raw.ok (.inr ⟨ns,sp,by rw[pk];exact eo,c2⟩);have WD:hZ ns T=T:=by unfold hZ;rw[bh aw]
      refine⟨_,Z,a,qS,_,Z,e6,Z,a,q,M,D,T,Z,RT,Lf,aM,_,Z,?_⟩;by_cases c3:Halt T.pc T.bf
      ·have hb:(T.bf.isSome&&decide (T.pc=0))=true:=by obtain⟨h1,h2⟩:=c3;rw[cn h2,An];cases hs:T.bf with |none=>exact(h1 hs).elim |some _=>rfl
       rw[hb];refine aV ?_;refine Fs ?_;cases es with |nil=>exact(Zy Z c3).elim |cons _ _=>simp
      ·have hb:(T.bf.isSome&&decide (T.pc=0))=false:=by cases hs:T.bf with |none=>rfl |some _=>show decide (T.pc=0)=false;exact df λh2=>c3 ⟨by rw[hs];simp,h2⟩
       rw[hb];refine ba ?_;have rT:j4 M T=j4 M S:=by unfold j4;rw[pk,tQ]
       refine⟨_,Z,a,qS,_,Z,e6,Z,?_⟩;refine⟨_,Z,_,Z,_,Z,_,Z,a,qS,_,_,Z,e6,Z,_,_,Z,Z,?_⟩;have Su:bM K H6 pV (topR S.rate sp):=((Sv.go s4).go n5.same).v Av;have Sz:bM K H6 qi (j4 M S):=(SA.go n5.same).v Av;refine⟨a,q,M,D,T,pV,qi,topR S.rate sp,j4 M S,_,Z,RT,Lf,aM,Su,td,tl,Sz,Rd,Rl,aw,aw,c3,λmid H7 SM R7 b7=>?_⟩;obtain⟨pq,qC,zM,yt,xH,e7',HE,Rr,Rp,Ro⟩:=R7.ob;have e7:H7 a=some (.ins C pq (eV qC zM (.int T.dn) (.ref q) yt (.int T.rate) (.str T.side) (.str T.mark) xH)):=e7';have xE:cA H6 H7:=b7.v λx hx o' eu=>by rw[eB]at hx;rw[hx,e6]at eu;cases eu;trivial
       have zG:=b7 _ _ dl (by rw[eB];exact al.symm);have a3K:=ye _ _ NM;have a3J:=bt _ _ a3K (by simp;exact⟨Oy.symm,Yb.symm⟩);have a3I:=b7 _ _ a3J (by rw[eB];exact Oy.symm);have SO:aI K H7 yr (kh ns):=aI.v xE _ (CB ns) (aI.v Av _ (CB ns) (aI.mono ye _ Ki));obtain⟨rv,Nq⟩:∃rv,yr[T.dn]? =some rv:=⟨_,cI (show T.dn<yr.length by lia)⟩;obtain⟨dr,ND,CK⟩:=SO.get' T.dn Nq;rw[Kg c2]at ND;cases ND;have mB:Bd 2000 (mX M.r M.f T.pc (topR S.rate sp) (j4 M S) ((aJ ns:Int)-T.dn) T.bf):=by have D1:=raw.D1;have D2:=raw.D2;exact((Xn aw aw aw raw.pd (td.mono aw) (Rd.mono aw) raw.bf c3).bd (fi Xl (fi tl aO))).mono aw
       have mP:0<mX M.r M.f T.pc (topR S.rate sp) (j4 M S) ((aJ ns:Int)-T.dn) T.bf:=Xm yi.1 vX.1 aw raw.pd.nn tp Rd.nn raw.bf c3;refine⟨_,Z,.inl ⟨Z,_,aK.of zG⟩,?_⟩;refine⟨_,Z,a,pq,_,_,Z,e7,Z,?_⟩;refine⟨_,Z,_,Z,a,pq,_,_,Z,e7,Z,.inl ⟨lT,_,_,_,Z,Z,aK.of a3I,eK (show(0:Int)<=(T.dn:Int) by lia) (by simpa using Nq),?_⟩⟩;refine⟨_,Z,qC,rv,mid,M.rs,M.r,M.f,M.j,M.t,ki ns T.dn,_,Z,HE,aM,CK,SM,mB,mP,λent H8 SV s8=>?_⟩;have wg:=s8 _ _ zG;refine⟨l,us,_,Z,Z,wg,aw,?_⟩;have e8:(_L.upd H8 l (.lst (us++[ent]))) a=some (.ins C pq (eV qC zM (.int T.dn) (.ref q) yt (.int T.rate) (.str T.side) (.str T.mark) xH)):=by rw[aL al];exact s8 _ _ e7
       refine⟨_,Z,a,pq,_,_,Z,e8,Z,_,_,Z,Z,pq,_,e8,by show 9<1000;decide,?_⟩;have vl:cA H8 (_L.upd H8 l (.lst (us++[ent]))):=.upd wg trivial;have va:cA (_L.upd H8 l (.lst (us++[ent]))) (_L.upd (_L.upd H8 l (.lst (us++[ent]))) a (.ins C pq (eV qC zM (.int ((T.dn:Int)+1)) (.ref q) yt (.int T.rate) (.str T.side) (.str T.mark) xH))):=.upd e8 trivial;have v7:=(s8.v.trans vl).trans va;have eS:lU M T ns sp={Dp M T (topR S.rate sp) (j4 M S) ((aJ ns:Int)-T.dn)with dn:=T.dn+1}:=by unfold lU;rw[rT,tQ]
       have eE:tj M T ns sp=sf M.t (ki ns T.dn) (mX M.r M.f T.pc (topR S.rate sp) (j4 M S) ((aJ ns:Int)-T.dn) T.bf):=by unfold tj LV;rw[rT,tQ]
       have Zo:One M T (tj M T ns sp) (hZ ns (lU M T ns sp)):=.line (by rw[pk];exact eo) c3;obtain⟨yq,eq7,SE⟩:=R7.qu;have Du:bX (es++[tj M T ns sp])=true:=eO.mpr λd hd=>by
        rcases xg.mp hd with h|h
        ·exact eO.mp m4 d h
        ·rw[eB]at h;rw[h];exact HK _ _ _
       have q7l:q≠l:=ql;refine⟨⟨lU M T ns sp,es++[tj M T ns sp],us++[ent],_,Z,λb o' eb hb=>?_,?_,LU raw aM (by rw[pk];exact eo) c2 c3,pk,zC,tQ,?_,?_,?_,?_,?_,?_,?_,λz=>by simp at z⟩,?_⟩
       ·have ha:b≠a:=λz=>hb (by rw[z];simp)
        have jc:b≠l:=λz=>hb (by rw[z];simp);rw[aL ha,aL jc];exact s8 _ _ (b7 _ _ (bt _ _ eb hb) (by rw[eB];exact ha))
       ·rw[eS]
        refine⟨⟨pq,qC,zM,yt,xH,?_,RD.v v7 _ (kG _ _ _ _ _) HE,RD.v v7 _ (ky _) Rr,Rp.v v7,Ro.v v7⟩,yq,?_,aI.v v7 _ WK SE⟩
        ·exact bp
        ·rw[aL aq.symm,aL ql];exact s8 _ _ eq7
       ·show T.dn+1=_
        rw[fj];show _=_+(_+1);lia
       ·show T.dn+1<=_
        lia
       ·rw[fj];show((es.length+1:Nat):Int)<=most;lia
       ·rw[aL al.symm,bp]
       ·refine aI.v va _ Du (aI.v vl _ Du ?_)
        have r7:aI K H8 us es:=aI.mono s8 _ (aI.v xE _ m4 rd);refine r7.append (bJ ?_ bW);rw[eE];exact SV
       ·exact Du
       ·rw[WD]at run
        exact run.snoc Zo
       ·show(match(_L.upd (_L.upd H8 l (.lst (us++[ent]))) a _) l with|some (.lst us)=>2000-us.length|_=>0)<(match H6 l with|some (.lst us)=>2000-us.length|_=>0)
        rw[aL al.symm,bp,dl];show 2000-(us++[ent]).length<2000-us.length;rw[fj];show 2000-(us.length+1)<_
        lia
     ·rw[df aw]
      refine aV ?_;exact Fs aw
    ·rw[df c1]
     refine aV ?_;exact Fs aw
   ·rintro O H6 Q1 Q2 hq ⟨v1,f1,l',ka,f2,f3,v2,f4,i1,i2,f5,f6,b1,f7,h⟩
    refine⟨v1,f1,l',ka,f2,f3,v2,f4,i1,i2,f5,f6,b1,f7,yU ?_ (hq _ _) h⟩;rintro⟨v3,f8,a',pA,ir,u',f9,Fj,Fi,v4,f12,i3,i4,f13,f14,b2,Fh,h⟩;refine⟨v3,f8,a',pA,ir,u',f9,Fj,Fi,v4,f12,i3,i4,f13,f14,b2,Fh,yU ?_ (hq _ _) h⟩;rintro⟨v5,Fg,a2,qT,EY,Ff,Fe,Fd,a3,q3,M3,D3,S3,Fc,Fb,F9,F8,b3,F7,h⟩;exact⟨v5,Fg,a2,qT,EY,Ff,Fe,Fd,a3,q3,M3,D3,S3,Fc,Fb,F9,F8,b3,F7,hq _ _ h⟩
  ·rintro O H6 ⟨T,es,us,w8,rfl,bt,RT,raw,pk,zC,tQ,MH,h1,nJ,dl,rd,m4,run⟩
   obtain⟨qS,Xa,bv6,Uo,Qo,e6,t1,t2,t3,t4⟩:=RT.ob;have ZA:T.os≠[]:=by rw[pk];exact dI
   have bH:∀{H7:Hp},cK [a] H6 H7->cK [a,q] H H7:=λ{H7} b7 b o' eb hb=>by
    have ha:b≠a:=λz=>hb (by rw[z];simp);refine b7 _ _ (bt _ _ (mR _ _ eb) λhm=>?_) (by rw[eB];exact ha);simp only[bZ,dX,gs]at hm;rcases hm with h|h
    ·exact ha h
    ·rw[h,nl]at eb;cases eb
   refine⟨λO H7=>∃q' xD,O=[some (.ref a),some (.int most),some y,some (.int (aJ ns)),some (.ref lT),some pV,some qi,some (.ref l),xD]/\cx K C H7 a q' M (hZ ns T)/\Mv a q H q' H7/\l≠q'/\∃ka,H7 l=some (.lst ka)/\aI K H7 ka es,?_,?_⟩
   ·refine⟨_,Z,a,qS,_,_,Z,e6,Z,_,Z,.inl ⟨_,_,Z,Z,_,Z,?_⟩⟩
    show if decide ((T.dn:Int)=(aJ ns:Int))=true then _ else _;by_cases c:T.dn=aJ ns
    ·rw[cn aw]
     refine ba ?_;refine⟨_,Z,a,qS,_,Z,e6,Z,a,q,M,D,T,Z,RT,raw,aM,ZA,λq' H7 R7 nq b7=>?_⟩;have xE:cA H6 H7:=b7.v λx hx o' eu=>by rw[eB]at hx;rw[hx,e6]at eu;cases eu;trivial
     refine⟨q',_,Z,by unfold hZ;rw[bo c];exact R7,⟨bH b7,.inr ?_⟩,λz=>?_,us,b7 _ _ dl (by rw[eB];exact al.symm),aI.v xE _ m4 rd⟩
     ·cases e':H q' with |none=>rfl |some o'=>
      have h5:=mR _ _ e';by_cases ha:q'=a
      ·rw[ha,e6]at nq;cases nq
      ·by_cases jc:q'=l
       ·rw[jc,nl]at e';cases e'
       ·have:=bt _ _ h5 (by simp;exact⟨ha,jc⟩)
        rw[nq]at this;cases this
     ·rw[<-z,dl]at nq;cases nq
    ·rw[df aw]
     refine aV ?_;exact⟨q,_,Z,by unfold hZ;rw[bh c];exact RT,⟨bH (cK.refl _ _),.inl Z⟩,ql.symm,us,dl,rd⟩
   ·rintro O H7 ⟨q',xD,rfl,R7,qC,lq,ka,zG,T7⟩
    exact⟨_,Z,k l ka es (hZ ns T) q' H7 nl zG T7 run h1 nJ R7 qC lq⟩
theorem Mv.trans{a q q1 q2:Addr}{H H1 H2:Hp}(m1:Mv a q H q1 H1)(m2:Mv a q1 H1 q2 H2)(ha:H1 a≠none):Mv a q H q2 H2:=by
 refine⟨λb o e hb=>?_,?_⟩
 ·refine m2.but _ _ (m1.but _ _ e hb) λhm=>?_
  simp only[bZ,dX,gs]at hm hb;rcases hm with h|h
  ·exact hb (.inl h)
  ·rcases m1.nq with h1|h1
   ·exact hb (.inr (h.trans h1))
   ·rw[<-h]at h1;rw[h1]at e;cases e
 ·rcases m2.nq with h|h
  ·rw[h];exact m1.nq
  ·cases e:H q2 with |none=>exact .inr rfl |some o=>
   by_cases h1:q2=q
   ·exact .inl h1
   ·by_cases h2:q2=a
    ·rw[h2]at h;exact(ha h).elim
    ·have:=m1.but _ _ e (by simp;exact⟨h2,h1⟩)
     rw[h]at this;cases this
inductive a5K(K:aa)(C:Addr)(vs:List V)(H:Hp)(Q:VK):Prop |mk (a:_)(q:_)(M:_)(D:_)(S:_)(most:_)(h0:vs=[.ref a,.int most])(h1:cx K C H a q M S)(h2:dC M D S)(h3:M.Ok)(h4:S.os≠[])(h5:¬Halt S.pc S.bf)(h6:1<=most)(h7:most<=1000)(h8:∀l ys es S' q' H',H l=none->H' l=some (.lst ys)->aI K H' ys es->Run M S es S'->1<=es.length->(es.length:Int)<=most->cx K C H' a q' M S'->Mv a q H q' H'->l≠q'->Q (.ref l) H')
def Ii(K:aa)(C:Addr):Sp:=λvs H Q _=>a5K K C vs H Q
abbrev Bu:Stmt:=inClass (top 77) 13
theorem Jl:bj ["self","most","item"] ["self","most"] (aP Bu):=bw aO
theorem Vl{C:Addr}(F:MA K C "entries_of_first" "Runner.entries_of_first" Bu)(TC:gm K C)(jS:aG P w K mg au "is_line" 1 (ou K))(a0Z:eL P w K mg au C "steps_of_first" 10 (Ig K C))(EE:eL P w K mg au C "end_first" 3 (AL K C)):eL P w K mg au C "entries_of_first" 11 (Ii K C):=by
 refine F.has Jl (λvs H Q E h=>?_) (λ_ _ _ _ _ _=>cH λ_ _=>rfl) (λf aE A outer s H vs Q E hr h=>?_)
 · obtain⟨a,q,M,D,S,most,rfl,_⟩:=h
   rfl
 · obtain⟨a,q,M,D,S,most,rfl,R0,ok,aM,dI,nh,m1,m2,k⟩:=h
   obtain⟨dx,mv,bv,cf,tv,e,r1,r2,r3,r4⟩:=R0.ob;obtain⟨ys,eq,rq⟩:=R0.qu;have aq:=R0.ne;have nd:=Jl.nd;have ll:=ok.row.len;have zc:0<S.os.length:=by cases h:S.os with|nil=>exact(dI h).elim|cons _ _=>simp
   obtain⟨d,ed⟩:∃d,S.ds[0]? =some d:=⟨_,cI (show 0<S.ds.length by lia)⟩;obtain⟨y,ey,ry⟩:=rq.get 0 ed;obtain⟨o,eo,it⟩:=ok.row.get ed;refine⟨_,(aD (pS 2 nd (px K (cV TC.cl TC.ib (pv 0)) aF)) (aD (bD (bS (pf jS hr (ao (pv 2) ay))) (aH (aZ (yo a0Z TC.cl (hr.mono az) (pv 0) (ao (pv 1) ay)))) bG) (aD (jm (bD (bT (dR K Z hr.units) (px K (pv 2) aF) ck (bL _)) (aH (fG TC.cl TC.Lz (pv 0) (px K (pv 2) aF))) bG)) (aD (jm (bD (bT (dR K Z hr.units) (px K (pv 2) aF) ck (bL _)) (aH (fG TC.cl TC.LA (pv 0) (px K (pv 2) aF))) bG)) (aD (gD (kA EE TC.cl (hr.mono az) (pv 0))) (aH (aZ (dE (ao (pv 2) ay))))))))),?_⟩;refine⟨_,Z,a,dx,_,_,Z,e,Z,.inl ⟨q,_,0,y,Z,Z,aK.of eq,eK (gL 0) ey,?_⟩⟩;refine⟨_,Z,y,d,o,Z,ry,it,_,Z,?_⟩;cases o with |some z=>obtain⟨ns,sp⟩:=z;refine ba ?_;exact⟨_,Z,a,dx,_,Z,e,Z,_,Z,a,q,M,D,S,ns,sp,most,Z,R0,ok,aM,eo,nh,m1,m2,k⟩ |none=>
     refine aV ?_;have oF:=ok.rw 0 d eo ed;have wd:∃z u ya yr,d= .tuple [.str z,u]/\y= .ref ya/\aQ K H ya (.str z::[yr])/\RD K H yr u/\SeqAt.shaped (.str z)=true:=by
      rcases oF with⟨n,rfl,_⟩|⟨w',s',rfl,hw,_⟩
      · obtain⟨ya,xs,rfl,h1,h2⟩:=ry.d6
        obtain⟨x1,rr,rfl,e1,h2⟩:=h2.cons_inv;obtain⟨x2,rr,rfl,e2,h2⟩:=h2.cons_inv;cases h2.nil_inv;cases e1.str_inv;exact⟨_,_,ya,x2,Z,Z,h1,e2,aO⟩
      · obtain⟨ya,xs,rfl,h1,h2⟩:=ry.d6
        obtain⟨x1,rr,rfl,e1,h2⟩:=h2.cons_inv;obtain⟨x2,rr,rfl,e2,h2⟩:=h2.cons_inv;cases h2.nil_inv;cases e1.str_inv;exact⟨_,_,ya,x2,Z,Z,h1,e2,by rcases hw with rfl|rfl<;>decide+kernel⟩
     obtain⟨z,u,ya,yr,rfl,rfl,E3,Kc,sz⟩:=wd;have tU:SeqAt.shaped (.str "tool")=true:=by decide+kernel
     have tM:SeqAt.shaped (.str "mark")=true:=by decide+kernel
     have eqT:∀(x y:Str),PyData.eqv (.str x) (.str y)=decide (x=y):=λx y=>by show(x==y)=decide (x=y);rw[iW];simp
     refine⟨λO H1=>O=[some (.ref a),some (.int most),some (.ref ya)]/\cK [a] H H1/\H1 a=some (.ins C dx (eV mv bv (.int S.dn) (.ref q) cf (.int S.rate) (.str (if z="tool" then(eU (.tuple [.str z,u]) S).side else S.side)) (.str S.mark) tv)),?_,?_⟩
     · refine⟨_,Z,.inr ⟨ya,_,0,.str z,Z,Z,E3,eK (gL 0) Z,.inr ⟨_,_,dN _,dN _,sz,tU,_,Z,?_⟩⟩⟩
       rw[eqT];by_cases c:z="tool"
       · rw[cn c]
         refine ba ?_;have hu:∃s',u= .str s':=by
          rcases oF with⟨n,h,_⟩|⟨w',s',h,hw,_⟩
          ·cases h;exact absurd c aO
          ·cases h;exact⟨_,rfl⟩
         obtain⟨s',rfl⟩:=hu;cases Kc.str_inv;refine⟨_,Z,.inr ⟨ya,_,1,.str s',Z,Z,E3,eK az Z,_,Z,a,dx,_,Z,e,by show 9<1000;decide,?_⟩⟩;refine⟨Z,FR (by simp),?_⟩;rw[bo c];have es:(eU (.tuple [.str z,.str s']) S).side=s':=by unfold eU;simp only[bo c]
         rw[es];exact bp
       · rw[df c]
         refine aV ⟨Z,cK.refl _ _,?_⟩;rw[bh c];exact e
     rintro O H1 ⟨rfl,b1,e1⟩;have Qf:cA H H1:=b1.v λx hx o' eu=>by rw[eB]at hx;rw[hx,e]at eu;cases eu;trivial
     have Mn:=aQ.v Qf E3;refine⟨λO H2=>O=[some (.ref a),some (.int most),some (.ref ya)]/\cK [a] H H2/\H2 a=some (.ins C dx (eV mv bv (.int S.dn) (.ref q) cf (.int S.rate) (.str (eU (.tuple [.str z,u]) S).side) (.str (eU (.tuple [.str z,u]) S).mark) tv)),?_,?_⟩
     · refine⟨_,Z,.inr ⟨ya,_,0,.str z,Z,Z,Mn,eK (gL 0) Z,.inr ⟨_,_,dN _,dN _,sz,tM,_,Z,?_⟩⟩⟩
       rw[eqT];by_cases c:z="mark"
       · rw[cn c]
         refine ba ?_;have nt:¬z="tool":=by rw[c];decide+kernel
         rw[bh nt]at e1;have hu:∃s',u= .str s':=by
          rcases oF with⟨n,h,_⟩|⟨w',s',h,hw,_⟩
          ·cases h;exact absurd c aO
          ·cases h;exact⟨_,rfl⟩
         obtain⟨s',rfl⟩:=hu;cases Kc.str_inv;refine⟨_,Z,.inr ⟨ya,_,1,.str s',Z,Z,Mn,eK az Z,_,Z,a,dx,_,Z,e1,by show 9<1000;decide,?_⟩⟩;refine⟨Z,b1.trans (FR (by simp)),?_⟩;have es:(eU (.tuple [.str z,.str s']) S).side=S.side/\(eU (.tuple [.str z,.str s']) S).mark=s':=by constructor<;>(unfold eU;simp only[bh nt,bo c])
         rw[es.1,es.2];exact bp
       · rw[df c]
         refine aV ⟨Z,b1,?_⟩;have em:(eU (.tuple [.str z,u]) S).mark=S.mark:=by
          unfold eU;split
          · next h => cases h;split
                      ·rfl
                      ·first|rfl|rw[bh c]
          ·rfl
         have es:(if z="tool" then(eU (.tuple [.str z,u]) S).side else S.side)=(eU (.tuple [.str z,u]) S).side:=by
          by_cases c2:z="tool"
          ·rw[bo c2]
          · rw[bh c2]
            unfold eU;split
            ·next h=>cases h;first|rfl|rw[bh c2,bh c]
            ·rfl
         rw[es]at e1;rw[em];exact e1
     rintro O H2 ⟨rfl,b2,e2⟩;have uz:cA H H2:=b2.v λx hx o' eu=>by rw[eB]at hx;rw[hx,e]at eu;cases eu;trivial
     obtain⟨Ks,yx,FC,dn',TZ⟩:=IW ok.raw (.tuple [.str z,u]);have fx:(eU (.tuple [.str z,u]) S).pc=S.pc/\(eU (.tuple [.str z,u]) S).rate=S.rate/\(eU (.tuple [.str z,u]) S).bf=S.bf:=by
      unfold eU;split
      · split
        ·exact⟨Z,Z,Z⟩
        ·split<;>exact⟨Z,Z,Z⟩
      ·exact⟨Z,Z,Z⟩
     have R2:cx K C H2 a q M (eU (.tuple [.str z,u]) S):=by
      refine⟨⟨dx,mv,bv,cf,tv,?_,RD.v uz _ (kG _ _ _ _ _) r1,?_,?_,?_⟩,ys,b2 _ _ eq (by rw[eB];exact aq.symm),?_⟩
      ·rw[dn',fx.2.1];exact e2
      ·rw[TZ];exact RD.v uz _ (ky _) r2
      ·rw[fx.1];exact r3.v uz
      ·rw[fx.2.2];exact r4.v uz
      ·rw[FC];exact aI.v uz _ ok.row.no rq
     refine⟨_,Z,a,dx,_,Z,e2,Z,a,q,M,D,_,Z,R2,Ks,aM,by rw[yx];exact dI,λq' H3 R3 nq b3=>?_⟩;have G1:=b2.trans b3;have Qe:cA H H3:=G1.v λx hx o' eu=>by rw[eB]at hx;rw[hx,e]at eu;cases eu;trivial
     have WG:H q'=none:=by cases e':H q' with |none=>rfl |some o'=>
        by_cases ha:q'=a
        ·rw[ha,e2]at nq;cases nq
        · have:=b2 _ _ e' (by rw[eB];exact ha)
          rw[nq]at this;cases this
     refine⟨_,Z,bC Z,λl H4 n4=>?_⟩;have nl:H l=none:=by cases e':H l with |none=>rfl |some o'=>
        by_cases ha:l=a
        · obtain⟨dx3,_,_,_,_,e3,_⟩:=R3.ob
          have:=n4.no;rw[ha,e3]at this;cases this
        · have:=G1 _ _ e' (by rw[eB];exact ha)
          rw[n4.no]at this;cases this
     have Wj:dC M D (wc (eU (.tuple [.str z,u]) S)):=Ks.end (by rw[yx];exact dI);refine k l [.ref ya] [.tuple [.str z,u]] _ q' H4 nl n4.at' (bJ (RD.v (Qe.trans n4.same.v) _ (eO.mp ok.row.no _ (iS ed)) ry) bW) (.cons (.oF eo ed nh) (.nil _)) (by simp) (by simpa using m1) (R3.same Wj.row.no n4.same) ⟨λb o' eb hb=>n4.same _ _ (G1 _ _ eb (by rw[eB];intro h;exact hb (by rw[h];simp))),.inr WG⟩ ?_;intro h;have:=n4.no;obtain⟨yq,eq3,_⟩:=R3.qu;rw[h,eq3]at this;cases this
inductive a5L(K:aa)(C:Addr)(vs:List V)(H:Hp)(Q:VK):Prop |mk (a:_)(q:_)(M:_)(D:_)(S:_)(n:_)(h0:vs=[.ref a,.int n])(h1:cx K C H a q M S)(h2:dC M D S)(h3:M.Ok)(h4:0<=n)(h5:n<=1000)(h6:∀l ys es S' q' H',H l=none->H' l=some (.lst ys)->aI K H' ys es->Run M S es S'->(es.length:Int)<=n->((es.length:Int)=n\/S'.os=[]\/Halt S'.pc S'.bf)->cx K C H' a q' M S'->Mv a q H q' H'->l≠q'->Q (.ref l) H')
def Ij(K:aa)(C:Addr):Sp:=λvs H Q _=>a5L K C vs H Q
abbrev Bv:Stmt:=inClass (top 77) 12
theorem Jm:bj ["self","n","told"] ["self","n"] (aP Bv):=bw aO
theorem Vm{C:Addr}(F:MA K C "entries" "Runner.entries" Bv)(TC:gm K C)(B:bE mg)(vQ:eL P w K mg au C "is_halted" 2 (iY K C λ_ S H Q=>Q (.bl (S.bf.isSome&&decide (S.pc=0))) H))(a18:eL P w K mg au C "entries_of_first" 11 (Ii K C)):eL P w K mg au C "entries" 12 (Ij K C):=by
 refine F.has Jm (λvs H Q E h=>?_) (λ_ _ _ _ _ _=>cH λ_ _=>rfl) (λf aE A outer s H vs Q E hr h=>?_)
 ·obtain⟨a,q,M,D,S,n,rfl,_⟩:=h
  rfl
 ·obtain⟨a,q,M,D,S,n,rfl,R0,ok,aM,n0,n1,k⟩:=h
  have nd:=Jm.nd;refine⟨_,(aD (pS 2 nd (dE ay)) (aD (jm (sN iQ (PW.pt (oB (bT mW (fm K B (ao (pv 2) ay)) (pv 1) (bL _)) (oB (uW K Z (cV TC.cl TC.ib (pv 0))) (sM (cE (bS (kA vQ TC.cl (hr.mono az) (pv 0)))))))) (aH (gD (D9 K Z (pv 2) (ao (yo a18 TC.cl (hr.mono az) (pv 0) (ao (aW j8 (pv 1) (fm K B (ao (pv 2) ay))) ay)) ay)))))) (aH (aZ (pv 2))))),?_⟩;refine⟨bC Z,λl H1 nw=>?_⟩;obtain⟨dx,mv,bv,cf,tv,e,r1,r2,r3,r4⟩:=R0.ob;obtain⟨ys,eq,rq⟩:=R0.qu;have al:a≠l:=λz=>by have:=nw.no;rw[<-z,e]at this;cases this
  have ql:q≠l:=λz=>by have:=nw.no;rw[<-z,eq]at this;cases this
  have hq0:H q≠none:=by rw[eq];simp
  have ha0:H a≠none:=by rw[e];simp
  refine⟨λO H2=>∃es S' q' us,O=[some (.ref a),some (.int n),some (.ref l)]/\cx K C H2 a q' M S'/\H2 l=some (.lst us)/\aI K H2 us es/\Run M S es S'/\(es.length:Int)<=n/\((es.length:Int)=n\/S'.os=[]\/Halt S'.pc S'.bf)/\Mv a q H q' H2/\l≠q',?_,?_⟩
  ·refine rS (λO H2=>∃es S' q' us,O=[some (.ref a),some (.int n),some (.ref l)]/\cx K C H2 a q' M S'/\H2 l=some (.lst us)/\aI K H2 us es/\Run M S es S'/\(es.length:Int)<=n/\Mv a q H q' H2/\l≠q') (λ_ H2=>match H2 l with|some (.lst us)=>2000-us.length|_=>0) ?_ ?_ ?_
   ·exact⟨[],S,q,[],Z,R0.same ok.row.no nw.same,nw.at',bW,.nil _,by simpa using n0,⟨.of nw.same,.inl rfl⟩,ql.symm⟩
   ·rintro O H2 ⟨es,S',q',us,rfl,R2,dl,rd,run,nJ,tf,lq⟩
    have vf:=run.ok ok aM;have m4:=run.no ok aM;have lu:=rd.length;obtain⟨qT,mv2,bv2,a7C,tv2,e2,t1,t2,t3,t4⟩:=R2.ob;obtain⟨yq,eq2,SG⟩:=R2.qu;have DI:=SG.length;have LX:=vf.row.len;refine⟨_,Z,l,us,Z,.inl (aK.of dl),_,Z,_,_,Z,Z,_,Z,?_⟩;show if decide ((us.length:Int)<n)=true then _ else _;by_cases c1:(us.length:Int)<n
    ·rw[cn c1]
     refine ba ?_;refine⟨_,Z,a,qT,_,_,Z,e2,Z,_,.inl ⟨_,aK.of eq2,Z⟩,?_⟩;cases jQ:S'.os with |nil=>have:yq=[]:=GQ.mp (by rw[DI,LX,jQ];rfl);subst this;refine aV ?_;exact⟨es,S',q',us,Z,R2,dl,rd,run,nJ,.inr (.inl jQ),tf,lq⟩ |cons o os=>
      have dI:S'.os≠[]:=by rw[jQ];simp
      have:∃y yr,yq=y::yr:=by cases yq with |nil=>rw[LX,jQ]at DI;simp at DI |cons y yr=>exact⟨y,yr,Z⟩
      obtain⟨y,yr,rfl⟩:=this;refine ba ?_;refine⟨_,Z,a,qT,_,Z,e2,Z,a,q',M,D,S',Z,R2,vf,aM,_,Z,?_⟩;by_cases c3:Halt S'.pc S'.bf
      ·have hb:(S'.bf.isSome&&decide (S'.pc=0))=true:=by obtain⟨h1,h2⟩:=c3;rw[cn h2,An];cases hs:S'.bf with |none=>exact(h1 hs).elim |some _=>rfl
       rw[hb];exact aV ⟨es,S',q',us,Z,R2,dl,rd,run,nJ,.inr (.inr c3),tf,lq⟩
      ·have hb:(S'.bf.isSome&&decide (S'.pc=0))=false:=by cases hs:S'.bf with |none=>rfl |some _=>show decide (S'.pc=0)=false;exact df λh2=>c3 ⟨by rw[hs];simp,h2⟩
       rw[hb];refine ba ?_;refine⟨_,Z,.inl ⟨Z,_,aK.of dl⟩,?_⟩;refine⟨_,Z,a,qT,_,Z,e2,Z,_,Z,_,Z,l,us,Z,.inl (aK.of dl),_,_,Z,Z,?_⟩;refine⟨a,q',M,D,S',_,Z,R2,vf,aM,dI,c3,aw,aw,λl2 y2 fs S2 q2 H3 X0 dl2 sI Cz f1 f2 R3 yK lq2=>?_⟩;have Qc:=R2.v yK.but;have wk:=yK.but _ _ dl (by simp;exact⟨al.symm,lq⟩);have sH:=aI.v Qc _ m4 rd;have ly2:=sI.length;have gW:sizeLine=16777216:=by decide
       refine⟨l,l2,us,y2,Z,Z,wk,dl2,aw,?_⟩;have vu:cA H3 (_L.upd H3 l (.lst (us++y2))):=.upd wk trivial;have Zw:=Cz.no vf aM;have gf:=Cz.ok vf aM;have LO:l≠q2:=λz=>by
        rcases yK.nq with h|h
        ·exact lq (z.trans h)
        ·rw[<-z,dl]at h;cases h
       refine⟨⟨es++fs,S2,q2,us++y2,Z,R3.go gf.row.no vu (λo' eu=>by rw[aL al];exact eu) (λo' eu=>by rw[aL LO.symm];exact eu),bp,(aI.v vu _ m4 sH).append (aI.v vu _ Zw sI),run.trans Cz,by rw[fj];lia,?_,LO⟩,?_⟩
       ·have m:=tf.trans yK (by rw[e2];simp)
        exact⟨λb o' eb hb=>by
         have jc:b≠l:=λz=>by have:=nw.no;rw[<-z,eb]at this;cases this
         rw[aL jc];exact m.but _ _ eb hb,m.nq⟩
       ·show(match(_L.upd H3 l (.lst (us++y2))) l with|some (.lst us)=>2000-us.length|_=>0)<(match H2 l with|some (.lst us)=>2000-us.length|_=>0)
        rw[bp,dl];show 2000-(us++y2).length<2000-us.length;rw[fj]
        lia
    ·rw[df c1]
     refine aV ?_;exact⟨es,S',q',us,Z,R2,dl,rd,run,nJ,.inl aw,tf,lq⟩
   ·rintro O H6 Q1 Q2 hq ⟨v1,f1,l',ka,f2,f3,v2,f4,i1,i2,f5,f6,b1,f7,h⟩
    refine⟨v1,f1,l',ka,f2,f3,v2,f4,i1,i2,f5,f6,b1,f7,yU ?_ (hq _ _) h⟩;rintro⟨v3,f8,a',pA,ir,u',f9,Fj,Fi,b2,Fh,h⟩;refine⟨v3,f8,a',pA,ir,u',f9,Fj,Fi,b2,Fh,yU ?_ (hq _ _) h⟩;rintro⟨v5,Fg,a2,qT,EY,Ff,Fe,Fd,a3,q3,M3,D3,S3,Fc,Fb,F9,F8,b3,F7,h⟩;exact⟨v5,Fg,a2,qT,EY,Ff,Fe,Fd,a3,q3,M3,D3,S3,Fc,Fb,F9,F8,b3,F7,hq _ _ h⟩
  ·rintro O H2 ⟨es,S',q',us,rfl,R2,dl,rd,run,nJ,nK,tf,lq⟩
   exact⟨_,Z,k l us es S' q' H2 nw.no dl rd run nJ nK R2 tf lq⟩
end
end _a
set_option maxHeartbeats 4000000
namespace _a
open PySem PySem.Spec PyProof.Rows _L _r _l _C _P _W _R
open _O (topR cornO mnO betR atO ownF leadF ownL OkI OkIs)
section
variable {P:af}{w:World}{K:aa}{mg:bc}{au:Heap}
theorem cx.TJ{C:Addr}{H:Hp}{a q dx:Addr}{M:bQ}{S S':bO}{mv bv cf tv:V}(R:cx K C H a q M S)(e:H a=some (.ins C dx (eV mv bv (.int S.dn) (.ref q) cf (.int S.rate) (.str S.side) (.str S.mark) tv))){zN yu pU:V}(hn:bX S.ds=true)(hd:S'.ds=S.ds) (r1:RD K H mv M.D)(r2:RD K H zN (eg S'.pl))(r3:bM K H yu S'.pc)(r4:u6 K H pU S'.bf):cx K C (_L.upd H a (.ins C dx (eV mv zN (.int S'.dn) (.ref q) yu (.int S'.rate) (.str S'.side) (.str S'.mark) pU))) a q M S':=by
 have v:cA H (_L.upd H a (.ins C dx (eV mv zN (.int S'.dn) (.ref q) yu (.int S'.rate) (.str S'.side) (.str S'.mark) pU))):=.upd e trivial;obtain⟨ys,eq,rq⟩:=R.qu;refine⟨⟨dx,mv,zN,yu,pU,bp,RD.v v _ (kG _ _ _ _ _) r1,RD.v v _ (ky _) r2,r3.v v,r4.v v⟩,ys,?_,?_⟩
 ·rw[aL R.ne.symm];exact eq
 ·rw[hd];exact aI.v v _ hn rq
def a3F(S:bO):bO:={S with pl:=qm S,dn:=0,ds:=[],os:=[]}
theorem MP{pc:Rat}{t:_R.la}:(t.isSome&&decide (pc=0))=true↔Halt pc t:=by unfold Halt;cases t with |none=>simp |some z=>simp
abbrev Bx:Stmt:=inClass (top 77) 20
theorem Jo:bj ["self","dropped"] ["self"] (aP Bx):=bw aO
inductive a5N(K:aa)(C:Addr)(cM:Addr)(vs:List V)(H:Hp)(Q:VK)(E:XK):Prop |mk (a:_)(q:_)(M:_)(D:_)(S:_)(h0:vs=[.ref a])(h1:cx K C H a q M S)(h2:dC M D S)(h3:M.Ok)(h4:(¬Halt S.pc S.bf->∀H',aA H H'->E (.ref cM) none H'))(h5:(Halt S.pc S.bf->∀q' H',cx K C H' a q' M (a3F S)->H q'=none->cK [a] H H'->Q (.int (S.ds.length:Nat)) H'))
def Ik(K:aa)(C cM:Addr):Sp:=λvs H Q E=>a5N K C cM vs H Q E
theorem Vp{C cM:Addr}(F:MA K C "drop" "Runner.drop" Bx)(TC:gm K C)(B:bE mg)(EO:Exc K mg "Moving" cM cW dc)(vQ:eL P w K mg au C "is_halted" 2 (iY K C λ_ S H Q=>Q (.bl (S.bf.isSome&&decide (S.pc=0))) H))(a15:eL P w K mg au C "place" 3 (iY K C λ_ S H Q=>∀v H',RD K H' v (eg (qm S))->aA H H'->Q v H')):iA P w K mg au C "drop" 5 (Ik K C cM):=by
 refine F.gU Jo (λvs H Q E h=>?_) (λ_ _ _ _ _ _=>fE λ_=>rfl) (λf aE A outer s H vs Q E hr h=>?_)
 ·obtain⟨a,q,M,D,S,rfl,_⟩:=h
  rfl
 ·obtain⟨a,q,M,D,S,rfl,Ra,ok,aM,k1,k2⟩:=h
  obtain⟨dx,mv,bv,cf,tv,e,r1,r2,r3,r4⟩:=Ra.ob;obtain⟨ys,eq,rq⟩:=Ra.qu;have aq:=Ra.ne;have nd:=Jo.nd;have ly:=rq.length;refine⟨_,(aD (bD (cE (bS (kA vQ TC.cl (hr.mono az) (pv 0)))) (aH (jF (λ_ _ _ _ _ _ _ I m q=>jB I m q) EO gJ hr.hd Z (ao ck ay))) bG) (aD (pS 1 nd (fm K B (ao (cV TC.cl TC.ib (pv 0)) ay))) (aD (fG TC.cl TC.qB (pv 0) (kA a15 TC.cl (hr.mono az) (pv 0))) (aD (fG TC.cl TC.lR (pv 0) aF) (aD (fG TC.cl TC.ib (pv 0) (dE ay)) (aH (aZ (pv 1)))))))),?_⟩;refine⟨_,Z,a,dx,_,Z,e,Z,a,q,M,D,S,Z,Ra,ok,aM,_,Z,?_⟩;cases hh:(S.bf.isSome&&decide (S.pc=0))with |false=>exact ba ⟨bC Z,k1 (λz=>by rw[MP.mpr z]at hh;cases hh) _ (aA.refl _)⟩ |true=>
   refine aV ?_;have hH:=MP.mp hh;refine⟨_,Z,a,dx,_,_,Z,e,Z,q,_,Z,.inl (aK.of eq),?_⟩;refine⟨_,Z,a,dx,_,Z,e,Z,a,q,M,D,S,Z,Ra,ok,aM,λu H1 ru s1=>?_⟩;have e1:=s1 _ _ e;refine⟨_,Z,a,dx,_,Z,e1,by show 9<1000;decide,?_⟩;refine⟨_,Z,a,dx,_,Z,bp,by show 9<1000;decide,?_⟩;refine⟨bC Z,λq' H2 n2=>?_⟩;have e2:=n2.same _ _ (bp (a:=a));refine⟨_,Z,a,dx,_,Z,e2,by show 9<1000;decide,?_⟩;have pH:a≠q':=λz=>by have:=n2.no;rw[<-z,bp]at this;cases this
   have key:∀X:Hp,(∀b,b≠a->X b=H2 b)->Q (.int (S.ds.length:Nat)) (_L.upd X a (.ins C dx (eV mv u (.int 0) (.ref q') cf (.int S.rate) (.str S.side) (.str S.mark) tv))):=by
    intro X hX;have zp:∀b o',b≠a->H1 b=some o'->H2 b=some o':=λb o' ha eb=>n2.same _ _ (by rw[aL ha,aL ha];exact eb);have bt:cK [a] H (_L.upd X a (.ins C dx (eV mv u (.int 0) (.ref q') cf (.int S.rate) (.str S.side) (.str S.mark) tv))):=λb o' eb hb=>by have ha:b≠a:=λz=>hb (by rw[z];exact .head _);rw[aL ha,hX b ha];exact zp _ _ ha (s1 _ _ eb)
    have sv:=bt.v λx hx o' eo=>by rw[eB]at hx;rw[hx,e]at eo;cases eo;trivial
    have AB:cA H1 (_L.upd X a (.ins C dx (eV mv u (.int 0) (.ref q') cf (.int S.rate) (.str S.side) (.str S.mark) tv))):=λb o' nb eb=>by
     have ha:b≠a:=λz=>by rw[z,e1]at eb;cases eb;exact nb trivial
     rw[aL ha,hX b ha];exact zp _ _ ha eb
    refine k2 hH q' _ ⟨⟨dx,mv,u,cf,tv,bp,RD.v sv _ (kG _ _ _ _ _) r1,RD.v AB _ (ky _) ru,r3.v sv,r4.v sv⟩,[],?_,bW⟩ ?_ bt
    ·rw[aL pH.symm,hX q' pH.symm];exact n2.at'
    ·cases e':H q' with |none=>rfl |some o'=>have h1:=s1 _ _ e';have h2:=n2.no;rw[aL pH.symm,aL pH.symm,h1]at h2;cases h2
   refine⟨_,Z,?_⟩;rw[ly];exact key _ (λb hb=>rfl)
theorem T9{d:ah}(h:mS d=true):∃rate:Int,d= .int rate/\10<=rate/\rate<=200:=by cases d with |int i=>have h:(decide (10<=i)&&decide (i<=200))=true:=h;rw[cZ,rH,rH]at h;exact⟨i,Z,h⟩ |_=>cases h
inductive a5F(K:aa)(C:Addr)(cR:Addr)(cM:Addr)(vs:List V)(H:Hp)(Q:VK)(E:XK):Prop |mk (a:_)(q:_)(M:_)(D:_)(S:_)(v:_)(d:_)(h0:vs=[.ref a,v])(h1:cx K C H a q M S)(h2:dC M D S)(h3:M.Ok)(h4:RD K H v d)(h5:(mS d=false->∀H',aA H H'->E (.ref cR) none H'))(h6:(mS d=true->S.pc≠0->∀H',aA H H'->E (.ref cM) none H'))(h7:(∀rate,d= .int rate->10<=rate->rate<=200->S.pc=0->∀H',cx K C H' a q M {S with rate:=rate}->cK [a] H H'->Q (.int rate) H'))
def AK(K:aa)(C cR cM:Addr):Sp:=λvs H Q E=>a5F K C cR cM vs H Q E
abbrev Bk:Stmt:=inClass (top 77) 21
theorem S6:bj ["self","rate"] ["self","rate"] (aP Bk):=bw aO
theorem V9{C cR cM:Addr}(F:MA K C "turn_rate" "Runner.turn_rate" Bk)(TC:gm K C)(EM:Exc K mg "NoRate" cR cW dc)(EO:Exc K mg "Moving" cM cW dc)(vF:aG P w K mg au "is_rate" 3 (uF K))(EB:eL P w K mg au C "stands" 1 (iY K C λ_ S H Q=>Q (.bl (decide (S.pc=0))) H)):iA P w K mg au C "turn_rate" 5 (AK K C cR cM):=by
 refine F.gU S6 (λvs H Q E h=>?_) (λ_ _ _ _ _ _=>cH λ_ _=>rfl) (λf aE A outer s H vs Q E hr h=>?_)
 ·obtain⟨a,q,M,D,S,v,d,rfl,_⟩:=h
  rfl
 ·obtain⟨a,q,M,D,S,v,d,rfl,Ra,ok,aM,rd,k1,k2,k3⟩:=h
  obtain⟨dx,mv,bv,cf,tv,e,r1,r2,r3,r4⟩:=Ra.ob;refine⟨_,(aD (bD (cE (bS (pf vF hr (ao (pv 1) ay)))) (aH (jF (λ_ _ _ _ _ _ _ I m q=>jB I m q) EM gJ hr.hd Z (ao ck ay))) bG) (aD (bD (cE (bS (kA EB TC.cl (hr.mono az) (pv 0)))) (aH (jF (λ_ _ _ _ _ _ _ I m q=>jB I m q) EO gJ hr.hd Z (ao ck ay))) bG) (aD (fG TC.cl TC.yJ (pv 0) (pv 1)) (aH (aZ (pv 1)))))),?_⟩;refine⟨_,Z,v,d,Z,rd,_,Z,?_⟩;cases hd:mS d with |false=>exact ba ⟨bC Z,k1 hd _ (aA.refl _)⟩ |true=>
   refine aV ?_;refine⟨_,Z,a,dx,_,Z,e,Z,a,q,M,D,S,Z,Ra,ok,aM,_,Z,?_⟩;by_cases hp:S.pc=0
   ·rw[cn hp]
    refine aV ?_;obtain⟨rate,rfl,h1,h2⟩:=T9 hd;cases rd.int_inv;refine⟨_,Z,_,Z,a,dx,_,Z,e,by show 9<1000;decide,?_⟩;exact⟨_,Z,k3 rate Z h1 h2 hp _ (Ra.TJ (S':={S with rate:=rate}) e ok.row.no rfl r1 r2 r3 r4) (FR (by simp))⟩
   ·rw[df hp]
    exact ba ⟨bC Z,k2 hd hp _ (aA.refl _)⟩
end
end _a
set_option maxHeartbeats 2000000
namespace _a
open PySem PySem.Spec PyProof.Rows _L _r _l _C _P _W _R
open _O (topR cornO mnO betR atO ownF leadF ownL OkI OkIs)
open _T (numIn?)
section
variable {P:af}{w:World}{K:aa}{mg:bc}{au:Heap}
def tE:ah->Bool | .int _=>true |_=>false
inductive a5q(K:aa)(cR:Addr)(vs:List V)(H:Hp)(E:XK):Prop |mk (v:_)(u:_)(d:_)(h0:vs=[v,u])(h1:RD K H u d)(h2:mS d=false)(h3:∀H',aA H H'->E (.ref cR) none H')
def HW(K:aa)(cR:Addr):Sp:=λvs H Q E=>a5q K cR vs H E
theorem V1{cR:Addr}(F:FA K mg "top_square" yb)(B:bE mg)(EM:Exc K mg "NoRate" cR cW dc)(vF:aG P w K mg au "is_rate" 3 (uF K)):fR P w K mg au "top_square" 4 (HW K cR):=by
 refine F.gU y6 (λvs H Q E h=>?_) (λ_ _ _ _ _ _=>cH λ_ _=>rfl) (λf aE A outer s H vs Q E hr h=>?_)
 ·obtain⟨v,u,d,rfl,_⟩:=h
  rfl
 ·obtain⟨v,u,d,rfl,rd,hd,k⟩:=h
  have nd:=y6.nd;refine⟨_,(aD (bD (cE (bS (pf vF hr (ao (pv 1) ay)))) (aH (jF (λ_ _ _ _ _ _ _ I m q=>jB I m q) EM gJ hr.hd Z (ao ck ay))) bG) ku),?_⟩;refine⟨_,Z,u,d,Z,rd,_,Z,?_⟩;rw[hd];exact ba ⟨bC Z,k _ (aA.refl _)⟩
inductive a6f(K:aa)(cF:Addr)(vs:List V)(H:Hp)(E:XK):Prop |mk (p:_)(v:_)(d:_)(h0:vs=[.int p,v])(h1:RD K H v d)(h2:(tE d=false\/d= .int 0))(h3:∀H',aA H H'->E (.ref cF) none H')
def Iz(K:aa)(cF:Addr):Sp:=λvs H Q E=>a6f K cF vs H E
theorem YL{d:ah}(h:tE d=false):jP (gy d)=false:=by cases d with |int i=>cases h |none=>exact(by decide:jP "NoneType"=false) |bool b=>exact(by decide:jP "bool"=false) |str z=>exact(by decide:jP "str"=false) |list xs=>exact(by decide:jP "list"=false) |tuple xs=>exact(by decide:jP "tuple"=false) |dict xs=>exact(by decide:jP "dict"=false)
theorem VZ{cF:Addr}(F:FA K mg "fraction" yd)(B:bE mg)(MX:Exc K mg "NoFraction" cF cW dc)(qO:aG P w K mg au "is_whole" 1 (uJ K)):fR P w K mg au "fraction" 2 (Iz K cF):=by
 refine F.gU y9 (λvs H Q E h=>?_) (λ_ _ _ _ _ _=>cH λ_ _=>rfl) (λf aE A outer s H vs Q E hr h=>?_)
 ·obtain⟨p,v,d,rfl,_⟩:=h
  rfl
 ·obtain⟨p,v,d,rfl,rd,hd,k⟩:=h
  have nd:=y9.nd;refine⟨_,(aD (bD (PW.pt (kr (cE (bS (pf qO hr (ao (pv 0) ay)))) (kl (cE (bS (pf qO hr (ao (pv 1) ay))))))) (aH (jF (λ_ _ _ _ _ _ _ I m q=>jB I m q) MX gJ hr.hd Z (ao ck ay))) bG) (aD (bD (bT (dR K Z hr.units) (pv 1) aF (bL _)) (aH (jF (λ_ _ _ _ _ _ _ I m q=>jB I m q) MX gJ hr.hd Z (ao ck ay))) bG) ku)),?_⟩;refine⟨_,Z,_,_,Z,(cQ (K:=K) (H:=H) p).ty,_,Z,?_⟩;refine aV ⟨_,Z,_,_,Z,rd.ty,_,Z,?_⟩;rcases hd with hd|rfl
  ·rw[YL hd]
   exact ba ⟨bC Z,k _ (aA.refl _)⟩
  ·cases rd.int_inv
   refine aV ⟨_,Z,.inl ⟨_,_,Z,Z,_,Z,ba ⟨bC Z,k _ (aA.refl _)⟩⟩⟩
end
end _a
set_option maxHeartbeats 1000000
namespace _a
open PySem PySem.Spec PyProof.Rows _L _r _l _W
open _O (Itm)
section
variable {P:af}{w:World}{K:aa}{mg:bc}{au:Heap}
abbrev BM:Stmt:=top 124
theorem JD:bj ["_law_bag_here","_law_axes","_law_far","_law_rails","_law_bounds"] ["_law_bag_here"] (aP BM):=bw aO
theorem VH(F:FA K mg "_law_machine" BM)(B:bE mg)(kR:aG P w K mg au "_law_take" 1 sx):aG P w K mg au "_law_machine" 2 (Iu K):=by
 refine F.has JD (λvs H Q E h=>?_) (λ_ _ _ _ _ _=>fE λ_=>rfl) (λf aE A outer s H vs Q E hr h=>?_)
 ·obtain⟨p,rfl,_⟩:=h
  rfl
 ·obtain⟨p,rfl,bg,k⟩:=h
  have nd:=JD.nd;refine⟨_,(aD (pS 1 nd (aW fM aF (pf kR hr (ao (pv 0) (ao aF ay))))) (aD (pS 2 nd (px K (dE (ao aF (ao aF ay))) (pf kR hr (ao (pv 0) (ao aF ay))))) (aD (pS 3 nd (jH (x:="tuple") (mK K Z) Z (B.at "tuple") jz (ao (gP (N:=["_law_axis","_law_bag_here","_law_far"]) (js:=[none,some 0,some 2]) rfl rfl rfl (sP rfl (B.at "range") (ao (pv 1) ay)) (λ_ _ _ _ _=>(bu 0 (show List.Nodup (["_law_axis","_law_bag_here","_law_far"]:List Str) by decide+kernel))) (λ_ _ _ _ _=>gb) (λ_ _ _ _ _=>(aW fM aF (pf kR hr (ao (pv 1) (ao (pv 2) ay)))))) ay))) (aD (pS 4 nd (jH (x:="tuple") (mK K Z) Z (B.at "tuple") jz (ao (gP (N:=["_law_k","_law_bag_here"]) (js:=[none,some 0]) rfl rfl rfl (sP rfl (B.at "range") (ao aF ay)) (λ_ _ _ _ _=>(bu 0 (fX az))) (λ_ _ _ _ _=>gb) (λ_ _ _ _ _=>(aW fM aF (pf kR hr (ao (pv 1) (ao aF ay)))))) ay))) (aH (aZ (aW (pF K Z) (aW (pF K Z) (dh (ao (pv 3) ay)) (pv 4)) (dh (ao (aW fM aF (pf kR hr (ao (pv 0) (ao aF ay)))) ay))))))))),?_⟩;refine⟨_,Z,p,2,Z,bg,az,az,λt0 H1 t00 t01 b1=>?_⟩;refine⟨_,_,Z,Z,?_⟩;refine⟨bC Z,λl H2 nw=>?_⟩;have b2:cg p H1 H2:=.kD b1.eJ nw.same;have Y8:l≠p:=λe=>b1.eJ.ne (e▸nw.no);refine⟨_,Z,p,2,Z,b2.eJ,az,az,λi H3 i0 i1 b3=>?_⟩;obtain⟨zA,mf,ef⟩:=YJ [100,20] i0 i1;have f1:1<=zA/\zA<=100:=by
   rcases bZ.mp mf with rfl|mf
   ·exact⟨az,az⟩
   rcases bZ.mp mf with rfl|mf
   ·exact⟨az,az⟩
   ·exact(dX mf).elim
  refine .inl ⟨l,_,_,_,Z,Z,aK.of (b3.same _ _ Y8 nw.at'),ef,?_⟩;refine⟨_,Z,_,Z,aw,aw,λD H4 n4=>?_⟩;have hN:(2+t0).toNat<=1000:=by lia
  refine O6 (2+t0).toNat [some (.ref p),some (.int zA)] n4 b3.eJ hN (λi=>.int (0+(i:Int))) (λi H5 hi b5=>⟨hi,λy H6 ⟨e1,e2⟩=>⟨e1,e2⟩⟩) (λH5 b5=>bB _) (λz=>1<=z/\z<=100) ?_ ?_
  ·intro i H5 Q' hi b5 hq
   refine⟨_,Z,_,Z,p,zA,Z,b5.eJ,f1.1,aw,λz H6 z0 z1 b6=>?_⟩;exact⟨_,_,Z,Z,hq _ _ ⟨aw,aw⟩ b6⟩
  intro H5 rs b5 d5 lr pr;refine⟨D,_,Z,.inl ⟨aK.of d5,λq H6 n6=>?_⟩⟩;have b6:cg p H5 H6:=.kD b5.eJ n6.same;refine⟨3,Z,az,az,λD2 H7 n7=>?_⟩;refine O6 3 [some (.ref p)] n7 b6.eJ az (λi=>.int (0+(i:Int))) (λi H8 hi b8=>⟨hi,λy H9 ⟨e1,e2⟩=>⟨e1,e2⟩⟩) (λH8 b8=>bB _) (λz=>1<=z/\z<=50) ?_ ?_
  ·intro i H8 Q' hi b8 hq
   refine⟨_,Z,p,50,Z,b8.eJ,az,az,λz H9 z0 z1 b9=>?_⟩;exact⟨_,_,Z,Z,hq _ _ ⟨aw,aw⟩ b9⟩
  intro H8 bs b8 d8 lb pb;refine⟨D2,_,Z,.inl ⟨aK.of d8,λq2 H9 n9=>?_⟩⟩;have b9:cg p H8 H9:=.kD b8.eJ n9.same;refine⟨_,Z,bC Z,λt1 jh DE=>?_⟩;have G0:cg p H9 jh:=.kD b9.eJ DE.same
  match bs,lb,pb,n9 with |[x1,x2,x3],_,pb,n9=>have p1:=pb x1 (.head _);have p2:=pb x2 (.tail _ (.head _));have p3:=pb x3 (.tail _ (.tail _ (.head _)));refine⟨_,Z,t1,q2,_,_,Z,Z,aQ.of DE.at',aQ.of (DE.same _ _ n9.at'),bC Z,λv1 iC yf a11=>?_⟩;have zS:cg p jh iC:=.kD G0.eJ yf;refine⟨_,Z,p,100,Z,zS.eJ,az,az,λz OW z0 z1 zR=>?_⟩;refine⟨_,_,Z,Z,bC Z,λt2 nZ DD=>?_⟩;have FZ:cg p OW nZ:=.kD zR.eJ DD.same;refine⟨v1,t2,_,_,Z,Z,(aQ.t (cg.t zS.eJ zR) a11).go DD.same,aQ.of DD.at',bC Z,λv2 A2 fk a14=>?_⟩;have Ou:cg p nZ A2:=.kD FZ.eJ fk;have sq:aQ K A2 q (rs.map V.int):=aQ.t (cg.t b6.eJ (b8.trans (b9.trans (G0.trans (zS.trans (zR.trans (FZ.trans Ou))))))) (aQ.of n6.at');refine k (.ref v2) rs x1 x2 x3 (1+z) A2 (eF a14 (bJ (eF sq (oz rs)) (bJ (cQ _) (bJ (cQ _) (bJ (cQ _) (bJ (cQ _) bW)))))) ⟨aw,pr,p1,p2,p3,aw⟩ (b1.trans (b2.trans (b3.trans (b5.trans (b6.trans (b8.trans (b9.trans (G0.trans (zS.trans (zR.trans (FZ.trans Ou)))))))))))
end
end _a
set_option maxHeartbeats 2000000
namespace _a
open PySem PySem.Spec PyProof.Rows _L _r _l _C _P _W _R
open _O (topR cornO mnO betR atO ownF leadF ownL OkI OkIs)
open _T (numIn?)
section
variable {P:af}{w:World}{K:aa}{mg:bc}{au:Heap}
def ie:List ah:=[.none,.bool true,.bool false,.str "",.str "a",.tuple [],.list [],.tuple [.int 1],.list [.list [.int 0]],.int (-1),.int (10^(39:Int).toNat),.str "line",.tuple [.str "line"],.tuple [.str "line",.tuple [.int 0,.int 0],.int 1]]
inductive a62(K:aa)(vs:List V)(H:Hp)(Q:VK):Prop |mk (p:_)(h0:vs=[.ref p])(h1:iB H p)(h2:∀v d H',RD K (_L.del H' p) v d->d∈ie->cg p H H'->Q v H')
def Ir(K:aa):Sp:=λvs H Q _=>a62 K vs H Q
abbrev lN:Stmt:=top 127
theorem JC:bj ["_law_bag_here","_law_some"] ["_law_bag_here"] (aP lN):=bw aO
def yO:Expr:=match(eA lN)with| .Assign _ e _::_=>e|_=>.Constant .none 0 ⟨0,0,0,0⟩
theorem Xu:lit 4 yO=some (.list ie):=by kernel_rfl
def LH(e:Expr):List Stmt:=match eA lN with| .Assign ts _ p::r=>.Assign ts e p::r|r=>r
theorem Xk:LH yO=eA lN:=by kernel_rfl
theorem Xs{f:Addr}{aE:Value}{A:ai}{outer:List Env}{s:ae}{H:Hp}{p:Addr}{Q:VK}{E:XK}(e:Expr)(hr:bV 1 (A.deeper (envOfC "_law_menu" (aP lN) s.heap.objs.size f aE))) (he:ON (eW eM P w K mg au ["_law_bag_here","_law_some"] "_law_menu" (aP lN) f aE A outer s H E).lQ e (xN K (.list ie))) (kJ:∀x l,swapsWith e (some x) l (eW eM P w K mg au ["_law_bag_here","_law_some"] "_law_menu" (aP lN) f aE A outer s H E).lQ.env=pure false) (B:bE mg)(kR:aG P w K mg au "_law_take" 1 sx)(bg:iB H p)(k:∀v d H',RD K (_L.del H' p) v d->d∈ie->cg p H H'->Q v H'): ∃t,eP (eW eM P w K mg au ["_law_bag_here","_law_some"] "_law_menu" (aP lN) f aE A outer s H E).lQ (LH e) t/\t {nx:=λ_ H'=>Q .aY H',rt:=Q} (start ["_law_bag_here","_law_some"] [.ref p]) H:=by
 have nd:=JC.nd;refine⟨_,(aD (KD (i:=1) nd Z (Or.inl Z) he.out (kJ _ _)) (aH (aZ (px K (pv 1) (pf kR hr (ao (pv 0) (ao aF ay))))))),?_⟩;intro l H1 s1 r1;have b1:cg p H H1:=.kD bg s1;have r2:RD K (del H1 p) l (.list ie):=RD.mono (a21 bg.ne) _ r1;refine⟨_,Z,_,Z,p,14,Z,b1.eJ,az,az,λi H2 i0 i1 b2=>?_⟩;have r3:RD K (del H2 p) l (.list ie):=RD.mono b2.sd _ r2;obtain⟨a,xs,rfl,hx,hd⟩:=r3.lst_inv;have hl:=hd.length;have hi:i.toNat<ie.length:=by show i.toNat<14;omega
 obtain⟨y,ey,ry⟩:=hd.get i.toNat (cI hi);refine .inl ⟨a,xs,i,y,Z,Z,hx.go NS,?_,?_⟩
 ·exact eK i0 ey
 ·exact k _ _ _ ry (GR hi) (b1.trans b2)
theorem VG(F:FA K mg "_law_menu" lN)(B:bE mg)(kR:aG P w K mg au "_law_take" 1 sx):aG P w K mg au "_law_menu" 2 (Ir K):=by
 refine F.has JC (λvs H Q E h=>?_) (λ_ _ _ _ _ _=>fE λ_=>rfl) (λf aE A outer s H vs Q E hr h=>?_)
 ·obtain⟨p,rfl,_⟩:=h
  rfl
 ·obtain⟨p,rfl,bg,k⟩:=h
  rw[<-Xk];exact Xs yO hr (Ug K Z 4 yO _ Xu) (λ_ _=>rfl) B kR bg k
structure zX(d:ah):Prop where
 ok:cD 8 d
 sh:lL d=true
 it:∀n,n=2\/n=3->gT n d=false
 rt:mS d=false
 mc:ij d=false
 pl:∀rs:List Int,rs.length=2\/rs.length=3->kI rs d=false
 tp:fC (gy d) "list"=false\/d= .list []\/d= .list [.list [.int 0]]
theorem Xp:∀d∈ie,∀rs:List Int,rs.length=2\/rs.length=3->kI rs d=false:=by
 intro d hd rs hr;unfold ie at hd;simp only[bZ,dX,gs]at hd
 match rs,hr with |[a,b],_=>rcases hd with rfl|rfl|rfl|rfl|rfl|rfl|rfl|rfl|rfl|rfl|rfl|rfl|rfl|rfl<;>rfl |[a,b,c],_=>rcases hd with rfl|rfl|rfl|rfl|rfl|rfl|rfl|rfl|rfl|rfl|rfl|rfl|rfl|rfl<;>rfl
theorem Xo:∀d∈ie,fC (gy d) "list"=false\/d= .list []\/d= .list [.list [.int 0]]:=by
 intro d hd;unfold ie at hd;simp only[bZ,dX,gs]at hd;rcases hd with rfl|rfl|rfl|rfl|rfl|rfl|rfl|rfl|rfl|rfl|rfl|rfl|rfl|rfl
 ·exact .inl aO
 ·exact .inl aO
 ·exact .inl aO
 ·exact .inl aO
 ·exact .inl aO
 ·exact .inl aO
 ·exact .inr (.inl Z)
 ·exact .inl aO
 ·exact .inr (.inr Z)
 ·exact .inl aO
 ·exact .inl aO
 ·exact .inl aO
 ·exact .inl aO
 ·exact .inl aO
theorem Xq:∀d∈ie,cD 2 d:=qx.mpr ⟨aO,aO⟩
theorem Xt:∀d∈ie,(lL d&& !gT 2 d&& !gT 3 d&& !mS d&& !ij d)=true:=fF.mp aO
theorem LJ{d:ah}(h:d∈ie):zX d:=by have b:=Xt d h;simp only[cZ,Ha]at b;obtain⟨⟨⟨⟨b1,b2⟩,b3⟩,b4⟩,b5⟩:=b;exact⟨(Xq d h).le az,b1,λn hn=>by rcases hn with rfl|rfl<;>assumption,b4,b5,Xp d h,Xo d h⟩
theorem Xr:∀d∈ie,tE d=false\/d= .int (-1)\/d= .int (10^(39:Int).toNat):=by intro d hd;unfold ie at hd;simp only[bZ,dX,gs]at hd;rcases hd with rfl|rfl|rfl|rfl|rfl|rfl|rfl|rfl|rfl|rfl|rfl|rfl|rfl|rfl<;>first|exact .inl rfl|exact .inr (.inl rfl)|exact .inr (.inr rfl)
inductive a5U(K:aa)(vs:List V)(H:Hp)(Q:VK):Prop |mk (m:_)(bF:_)(M:_)(pl:_)(h0:vs=[m,bF])(h1:RD K H m (bQ.D M))(h2:M.Ok)(h3:RD K H bF (eg pl))(h4:jV M.rs pl)(h5:∀v d o H',RD K H' v d->mx M.rs.length d o->j9 M.rs (fu pl o)=false->aA H H'->Q v H')
def Ip(K:aa):Sp:=λvs H Q _=>a5U K vs H Q
abbrev BD:Stmt:=top 128
theorem Jt:bj ["_law_machine_here","_law_place_here","_law_step"] ["_law_machine_here","_law_place_here"] (aP BD):=bw aO
theorem Aq(n:Nat):(List.replicate n [V.int 0]).flatten=(List.replicate n (0:Int)).map V.int:=by induction n with |zero=>rfl |succ n ih=>rw[mF,xk,ih,mF];rfl
theorem PV(n:Nat):(List.replicate n [V.int 0]).flatten.length=n:=by rw[Aq,bR,Ah]
theorem Wq{n:Nat}{st:Int}(hn:n=2\/n=3)(h1:st≠0)(h2:(st.natAbs:Int)<=100):mx n (gE (st::List.replicate (n-1) 0) 1) (some (st::List.replicate (n-1) 0,1)):=by
 refine⟨.inl ⟨_,_,Z,Z⟩,λns sp e=>?_,λe=>nomatch e⟩;cases e;refine⟨⟨?_,λz hz=>?_,⟨st,.head _,h1⟩⟩,az,az⟩
 ·rw[fA,Ah];omega
 ·rcases bZ.mp hz with rfl|hz
  ·exact h2
  ·rw[(List.mem_replicate.mp hz).2];decide
theorem Wo{r0 x st sp:Int}{rs pl ns:List Int}(h:x+st<0\/r0<x+st):j9 (r0::rs) (fu (x::pl) (some (st::ns,sp)))=false:=by
 show((decide (0<=x+st)&&decide (x+st<=r0))&&_)=false;rcases h with h|h
 ·rw[df bN,fV,fV]
 ·rw[df (show¬x+st<=r0 by omega),Ao,fV]
theorem Vz(F:FA K mg "_law_off" BD)(B:bE mg):aG P w K mg au "_law_off" 1 (Ip K):=by
 refine F.has Jt (λvs H Q E h=>?_) (λ_ _ _ _ _ _=>cH λ_ _=>rfl) (λf aE A outer s H vs Q E hr h=>?_)
 ·obtain⟨m,bF,M,pl,rfl,_⟩:=h
  rfl
 ·obtain⟨m,bF,M,pl,rfl,rm,aM,rp,on,k⟩:=h
  have nd:=Jt.nd;obtain⟨ma,mb,rfl,jq,m5⟩:=qE rm;obtain⟨pa,rfl,oU⟩:=yk rp;obtain⟨rs,r,f',j,t⟩:=M;have jL:rs.length=2\/rs.length=3:=aM.len;obtain⟨r0,rt,rfl⟩:∃r0 rt,rs=r0::rt:=by cases rs with |nil=>rcases jL with e|e<;>simp at e |cons x xs=>exact⟨x,xs,Z⟩
  have lp:pl.length=(r0::rt).length:=on.len;obtain⟨x,pt,rfl⟩:∃x pt,pl=x::pt:=by cases pl with |nil=>simp at lp |cons x xs=>exact⟨x,xs,Z⟩
  obtain⟨x0,x1⟩:=on.at' 0 x r0 Z rfl;have r1:1<=r0/\r0<=100:=aM.rl r0 (.head _);refine⟨_,(aD (pS 2 nd (aW j8 (aW fM (px K (px K (pv 0) aF) aF) aF) (px K (pv 1) aF))) (aD (jm (bD (bT Dg (pv 2) aF (bL _)) (aH (pS 2 nd (aW j8 (mV mJ (px K (pv 1) aF)) aF))) bG)) (aH (aZ (dh (ao ck (ao (aW (pF K Z) (dh (ao (pv 2) ay)) (aW (L6 K Z) (dh (ao aF ay)) (aW j8 (fm K B (ao (pv 1) ay)) aF))) (ao aF ay)))))))),?_⟩;refine⟨_,Z,.inr ⟨ma,_,0,.ref mb,Z,Z,jq,Z,.inr ⟨mb,_,0,.int r0,Z,Z,m5,eK (gL 0) Z,_,_,Z,Z,?_⟩⟩⟩;refine⟨_,Z,.inr ⟨pa,_,0,.int x,Z,Z,oU,eK (gL 0) Z,_,_,Z,Z,?_⟩⟩;refine⟨λO H1=>H1=H/\∃st:Int,O=[some (.ref ma),some (.ref pa),some (.int st)]/\st≠0/\(st.natAbs:Int)<=100/\(x+st<0\/r0<x+st),?_,?_⟩
  ·refine⟨_,Z,_,_,Z,Z,_,Z,?_⟩
   by_cases h:r0+1-x>100
   ·rw[cn h]
    refine ba ⟨_,Z,.inr ⟨pa,_,0,.int x,Z,Z,oU,eK (gL 0) Z,_,Z,_,_,Z,Z,Z,_,Z,bN,bN,bN⟩⟩
   ·rw[df h]
    exact aV ⟨Z,_,Z,bN,bN,bN⟩
  ·rintro O H1 ⟨rfl,st,rfl,h1,h2,h3⟩
   refine⟨_,Z,bC Z,λt1 H2 n2=>?_⟩;refine⟨bC Z,λt2 H3 n3=>?_⟩;have s3:=n2.same.trans n3.same;refine⟨_,Z,pa,_,Z,.inr (oU.go s3),_,_,Z,Z,?_⟩;refine⟨t2,_,_,Z,Z,aQ.of n3.at',by simp,by rw[bR,lp];omega,by rw[bR,lp];omega,az,λt4 H4 s4 a4=>?_⟩;refine⟨t1,t4,_,_,Z,Z,aQ.of (s4 _ _ (n3.same _ _ n2.at')),a4,by
    have gW:sizeLine=16777216:=by decide
    rw[PV,bR,lp];show 1+_<=_;omega,λt5 H5 s5 a5=>?_⟩;refine⟨bC Z,λt6 H6 n6=>?_⟩;have s6:=s3.trans (s4.trans (s5.trans n6.same));have ez:(List.replicate (((List.map V.int (x::pt)).length:Int)-1).toNat [V.int 0]).flatten=(List.replicate ((r0::rt).length-1) (0:Int)).map V.int:=by
    rw[Aq,bR,lp];congr 2;omega
   rw[ez]at a5;exact k (.ref t6) _ _ H6 (eF (aQ.of n6.at') (bJ (dN _) (bJ (eF (a5.go n6.same) (oz (st::List.replicate ((r0::rt).length-1) 0))) (bJ (cQ _) bW)))) (Wq jL h1 h2) (Wo h3) s6
end
end _a
set_option maxHeartbeats 4000000
namespace _a
open PySem PySem.Spec PyProof.Rows _L _r _l _C _P _W _R
open _O (topR cornO mnO betR atO ownF leadF ownL OkI OkIs)
open _T (numIn?)
section
variable {P:af}{w:World}{K:aa}{mg:bc}{au:Heap}
structure Up(K:aa)(C:Addr)(H H1:Hp)(a q:Addr)(M:bQ)(S:bO):Prop where
 R:cx K C H1 a q M S
 na:H a=none
 nq:H q=none
 s:aA H H1
theorem Up.mk'{C a q dx:Addr}{H H1:Hp}{M:bQ}{S:bO}(ha:H a=none)(dQ:H dx=none)(ne:a≠dx)(R:cx K C H1 a q M S)(nq:(_L.upd (_L.upd H dx (.own a)) a (.ins C dx [])) q=none)(bt:cK [a] (_L.upd (_L.upd H dx (.own a)) a (.ins C dx [])) H1):Up K C H H1 a q M S:=by
 have s1:aA H (_L.upd (_L.upd H dx (.own a)) a (.ins C dx [])):=(aA.new dQ).trans (aA.new (by rw[aL ne];exact ha));refine⟨R,ha,?_,λb o e=>bt b o (s1 _ _ e) λz=>?_⟩
 ·cases e:H q with |none=>rfl |some o=>rw[s1 _ _ e]at nq;cases nq
 ·rw[eB.mp z,ha]at e;cases e
theorem Up.same{C a q:Addr}{H H1 H2:Hp}{M:bQ}{S:bO}(u:Up K C H H1 a q M S)(hn:bX S.ds=true)(s:aA H1 H2):Up K C H H2 a q M S:=⟨u.R.same hn s,u.na,u.nq,u.s.trans s⟩
theorem Up.but{C a q:Addr}{H H1 H2:Hp}{M:bQ}{S S':bO}(u:Up K C H H1 a q M S)(R:cx K C H2 a q M S')(b:cK [a,q] H1 H2):Up K C H H2 a q M S':=⟨R,u.na,u.nq,λx o e=>b x o (u.s _ _ e) λz=>by
 simp only[bZ,dX,gs]at z;rcases z with rfl|rfl
 ·rw[u.na]at e;cases e
 ·rw[u.nq]at e;cases e⟩
theorem Up.mv{C a q q':Addr}{H H1 H2:Hp}{M:bQ}{S S':bO}(u:Up K C H H1 a q M S)(R:cx K C H2 a q' M S')(m:Mv a q H1 q' H2):Up K C H H2 a q' M S':=by
 refine⟨R,u.na,?_,λx o e=>m.but x o (u.s _ _ e) λz=>?_⟩
 ·rcases m.nq with e|e
  ·rw[e];exact u.nq
  ·cases h:H q' with |none=>rfl |some o=>rw[u.s _ _ h]at e;cases e
 ·simp only[bZ,dX,gs]at z
  rcases z with rfl|rfl
  ·rw[u.na]at e;cases e
  ·rw[u.nq]at e;cases e
theorem a1w(S:bO)(d:ah)(o:Itm):iK (zy S d o)=fu (iK S) o:=by show(S.os++[o]).foldl fu S.pl=_;rw[List.foldl_append];rfl
theorem Q6{n:Nat}{i:Int}(h1:1<=i)(h2:i<=1000):mx n (.tuple [.str "wait",.int i]) none:=⟨r9.it (.inl ⟨i,Z,h1,h2⟩),(λ_ _ z=>nomatch z),λ_=>.inl ⟨i,rfl,h1,h2⟩⟩
inductive a6e(K:aa)(cF:Addr)(vs:List V)(H:Hp)(E:XK):Prop |mk (m:_)(bF:_)(M:_)(pl:_)(h0:vs=[m,bF])(h1:RD K H m (bQ.D M))(h2:M.Ok)(h3:RD K H bF (eg pl))(h4:jV M.rs pl)(h5:∀H',aA H H'->E (.ref cF) none H')
def Iy(K:aa)(cF:Addr):Sp:=λvs H Q E=>a6e K cF vs H E
abbrev C4:Stmt:=top 129
theorem JT:bj ["_law_machine_here","_law_place_here","_law_runner","_law_k"] ["_law_machine_here","_law_place_here"] (aP C4):=bw aO
theorem VY{C:Addr}{R:qZ}(F:FA K mg "_law_full" C4)(B:bE mg)(TC:gm K C)(md:rk P w K mg au C "Runner" 1 (uG K C))(p4:iA P w K mg au C "feed" 5 (xT K C R)):fR P w K mg au "_law_full" 6 (Iy K R.f):=by
 refine F.gU JT (λvs H Q E h=>?_) (λ_ _ _ _ _ _=>cH λ_ _=>rfl) (λf aE A outer s H vs Q E hr h=>?_)
 ·obtain⟨m,bF,M,pl,rfl,_⟩:=h
  rfl
 ·obtain⟨m,bF,M,pl,rfl,rm,aM,rp,on,k⟩:=h
  have nd:=JT.nd;refine⟨_,(aD (pS 2 nd (qq md (hr.mono az) Z (ao (pv 0) (ao (pv 1) ay)))) (aD (j7 GG Z (sP Z (B.at "range") (ao aF ay)) (bu 3 nd) (aH (gD (kz p4 (eh λ_ _ _ z=>z) TC.cl (hr.mono az) (pv 2) (ao (dh (ao ck (ao (aW fM aF (pv 3)) ay))) ay))))) (aH (aZ (pv 2))))),?_⟩;refine⟨_,Z,_,Z,λa dx ha dQ ne=>?_⟩;have s1:aA H (_L.upd (_L.upd H dx (.own a)) a (.ins C dx [])):=(aA.new dQ).trans (aA.new (by rw[aL ne.symm];exact ha));refine⟨a,dx,m,bF,M,pl,Z,bp,RD.mono s1 _ rm,RD.mono s1 _ rp,λq H1 R1 nq bt=>⟨Z,?_⟩⟩;have u1:=Up.mk' ha dQ ne.symm R1 nq bt;refine⟨21,Z,az,az,vV (Pv:=λi O H2=>i<=20/\∃S v,Up K C H H2 a q M S/\dC M 64 S/\S.ds.length=i/\iK S=pl/\O=[some m,some bF,some (.ref a),v]) ?_ ?_ ?_⟩
  ·exact⟨az,_,none,u1,CG on.len,Z,Z,Z⟩
  ·rintro i O H2 hi ⟨Ml,S,v,u,ok,hl,hg,rfl⟩
   obtain⟨rx,mv,bv,cf,tv,e,_⟩:=u.R.ob;refine⟨_,Z,a,rx,_,Z,e,Z,?_⟩;refine⟨_,Z,_,_,Z,Z,bC Z,λt H3 n3=>?_⟩;have u3:=u.same ok.row.no n3.same;have it:mx M.rs.length (.tuple [.str "wait",.int (1+(0+(i:Int)))]) none:=Q6 bN bN;obtain⟨i1,i2,i3⟩:=it.is;have Di:j9 M.rs (fu (iK S) none)=true:=by rw[hg];exact(Lc on.len).mpr on
   refine⟨a,q,M,64,S,.ref t,_,Z,u3.R,ok,aM,eF (aQ.of n3.at') (bJ (dN _) (bJ (cQ _) bW)),i2,i3,.inr ⟨none,it,λz=>?_,λ_ _ H' s'=>k H' (u3.s.trans s'),λ_ M7 H' R' b'=>?_⟩⟩
   ·rw[Di]at z;cases z
   ·refine⟨bN,_,_,u3.but R' b',ok.Nh it M7,?_,?_,Z⟩
    ·show(S.ds++[_]).length=i+1
     rw[fj,hl];rfl
    ·rw[a1w];exact hg
  ·rintro O H2 ⟨Ml,_⟩
   have:(21:Nat)<=20:=Ml;omega
structure wL(M:bQ)(ns:List Int)(sp:Int)(d:ah)(pl:List Int)(n:Nat)(S:bO):Prop where
 os:S.os=[some (ns,sp)]
 ds:S.ds=[d]
 dn:S.dn=n
 pl:S.pl=pl
 bf:S.bf=none
 pc:0<n->0<S.pc
theorem a3s{M:bQ}{ns:List Int}{sp:Int}{D:Nat}{S:bO}(aM:M.Ok)(ok:dC M D S)(eo:S.os[0]? =some (some (ns,sp)))(hs:S.bf=none)(hl:S.dn+1<aJ ns):0<(lU M S ns sp).pc:=by
 have hn:S.os≠[]:=λe=>by rw[e]at eo;simp at eo
 obtain⟨R1,R2⟩:=CN ok.raw aM hn;obtain⟨da,s1,s2⟩:=ok.row.ok 0 ns sp eo;have tp:0<topR S.rate sp:=Ho s1 ok.dy;have yi:=aM.r1;have vX:=aM.f1;have pn:=ok.pd.nn;have Rn0:=R1.nn;show 0<qz M.r M.f S.pc (topR S.rate sp) (j4 M S) ((aJ ns:Int)-S.dn) S.bf;rw[hs];exact vn (vn (add_pos pn (show 0<2*M.r by lia)) tp) (add_pos Rn0 (show 0<2*M.f*((aJ ns:Int)-S.dn-1)from jA aw aw))
theorem wL.run{M:bQ}{D L:Nat}{ns:List Int}{sp:Int}{d:ah}{pl:List Int}{S S':bO}{es:List ah}(aM:M.Ok)(h4:aJ ns=L)(r:Run M S es S'):∀{n:Nat},dC M D S->wL M ns sp d pl n S->n+es.length<L->wL M ns sp d pl (n+es.length) S':=by induction r with |nil=>exact λ_ h _=>h |@cons S0 S1 S2 e es o r ih=>
 intro n ok h hl;rw[fA]at hl⊢;have eo:S0.os[0]? =some (some (ns,sp)):=by rw[h.os];rfl
 have a1:wL M ns sp d pl (n+1) S1:=by cases o with |@line Dq AV eu nh=>
  rw[eo]at eu;cases eu;have hd:S0.dn+1<aJ ns:=by rw[h.dn,h4];lia
  have e1:hZ ns (lU M S0 ns sp)=lU M S0 ns sp:=by
   unfold hZ;rw[bh];show¬(S0.dn+1=aJ ns)
   lia
  rw[e1];refine⟨h.os,h.ds,by show S0.dn+1=n+1;rw[h.dn],h.pl,?_,λ_=>a3s aM ok eo h.bf hd⟩;show yC S0.bf=none;rw[h.bf];rfl |oF eu _ _=>rw[eo]at eu;cases eu
 have:=ih (o.ok ok aM) a1 aw;rw[show n+1+es.length=n+(es.length+1) by lia]at this;exact this
theorem OB:∀pt:List Int,jw pt (List.replicate pt.length 0)=pt |[]=>rfl |x::pt=>by have ih:=OB pt;show(x+0)::jw pt (List.replicate pt.length 0)=x::pt;rw[ih,Int.add_zero]
theorem UO{r0 x y:Int}{rs pt:List Int}(h:jV (r0::rs) (x::pt))(h0:0<=y)(h1:y<=r0):jV (r0::rs) (y::pt):=by refine⟨h.len,λi a r e1 e2=>?_⟩;cases i with |zero=>cases e1;cases e2;exact⟨h0,h1⟩ |succ i=>exact h.at' (i+1) a r e1 e2
def jK(n:Nat):List Int:=2::List.replicate (n-1) 0
theorem WC{n:Nat}(h:n=2\/n=3):aJ (jK n)=2/\eX n 100 (jK n):=by
 rcases h with rfl|rfl
 ·exact⟨az,⟨Z,az,⟨2,.head _,az⟩⟩⟩
 ·exact⟨az,⟨Z,az,⟨2,.head _,az⟩⟩⟩
inductive a60(K:aa)(cM:Addr)(vs:List V)(H:Hp)(E:XK):Prop |mk (m:_)(bF:_)(b:_)(M:_)(pl:_)(h0:vs=[m,bF,.bl b])(h1:RD K H m (bQ.D M))(h2:M.Ok)(h3:RD K H bF (eg pl))(h4:jV M.rs pl)(h5:∀H',aA H H'->E (.ref cM) none H')
def Iq(K:aa)(cM:Addr):Sp:=λvs H Q E=>a60 K cM vs H E
abbrev BK:Stmt:=top 130
theorem JA:bj ["_law_machine_here","_law_place_here","_law_second","_law_here","_law_there","_law_runner"] ["_law_machine_here","_law_place_here","_law_second"] (aP BK):=bw aO
theorem VE{C:Addr}{R:qZ}(F:FA K mg "_law_moving" BK)(B:bE mg)(TC:gm K C)(md:rk P w K mg au C "Runner" 1 (uG K C))(p4:iA P w K mg au C "feed" 5 (xT K C R))(a19:eL P w K mg au C "entries" 12 (Ij K C))(EA:iA P w K mg au C "turn_rate" 5 (AK K C R.r R.m))(a1a:iA P w K mg au C "drop" 5 (Ik K C R.m)):fR P w K mg au "_law_moving" 13 (Iq K R.m):=by
 refine F.gU JA (λvs H Q E h=>?_) (λ_ _ _ _ _ _=>iM λ_ _ _=>rfl) (λf aE A outer s H vs Q E hr h=>?_)
 ·obtain⟨m,bF,b,M,pl,rfl,_⟩:=h
  rfl
 ·obtain⟨m,bF,b,M,pl,rfl,rm,aM,rp,on,k⟩:=h
  have nd:=JA.nd;have gW:sizeLine=16777216:=by decide
  obtain⟨ma,mb,rfl,jq,m5⟩:=qE rm;obtain⟨pa,rfl,oU⟩:=yk rp;obtain⟨rs,r,f',j,t⟩:=M;have jL:rs.length=2\/rs.length=3:=aM.len;obtain⟨r0,rt,rfl⟩:∃r0 rt,rs=r0::rt:=by cases rs with |nil=>rcases jL with e|e<;>simp at e |cons x xs=>exact⟨x,xs,Z⟩
  have lp:pl.length=(r0::rt).length:=on.len;obtain⟨x,pt,rfl⟩:∃x pt,pl=x::pt:=by cases pl with |nil=>simp at lp |cons x xs=>exact⟨x,xs,Z⟩
  have n12:rt.length=1\/rt.length=2:=by rw[fA]at jL;omega
  have Y2:=lp;rw[fA,fA]at Y2;have XZ:pt.length=(r0::rt).length-1:=by rw[fA]at lp⊢;omega
  refine⟨_,(aD (pS 3 nd (aW (pF K Z) (dh (ao aF ay)) (qp (AW K Z) (pv 1) (qj aF) qk))) (aD (pS 4 nd (aW (pF K Z) (dh (ao aF ay)) (aW (L6 K Z) (dh (ao aF ay)) (aW j8 (fm K B (ao (pv 1) ay)) aF)))) (aD (pS 5 nd (qq md (hr.mono az) Z (ao (aW (pF K Z) (dh (ao (aW (pF K Z) (dh (ao aF ay)) (qp (AW K Z) (px K (pv 0) aF) (qj aF) qk)) ay)) (qp (AW K Z) (pv 0) (qj aF) qk)) (ao (pv 3) ay)))) (aD (gD (kz p4 (eh λ_ _ _ z=>z) TC.cl (hr.mono az) (pv 5) (ao (dh (ao ck (ao (pv 4) (ao aF ay)))) ay))) (aD (gD (yo a19 TC.cl (hr.mono az) (pv 5) (ao aF ay))) (aH (aZ (gc (bS (pv 2)) (kz EA (eh λ_ _ _ z=>z) TC.cl (hr.mono az) (pv 5) (ao aF ay)) (Ue a1a (eh λ_ _ _ z=>z) TC.cl (hr.mono az) (pv 5)))))))))),?_⟩;refine⟨bC Z,λc1 H1 n1=>?_⟩;refine⟨_,Z,_,Z,pa,_,Z,oU.go n1.same,λc2 H2 s2 a2=>?_⟩;rw[zJ,<-List.map_drop]at a2;refine⟨c1,c2,_,_,Z,Z,aQ.of (s2 _ _ n1.at'),a2,by rw[bR,xh,fA];show 1+_<=_;omega,λhv H3 s3 a3=>?_⟩;have t3:=n1.same.trans (s2.trans s3);refine⟨bC Z,λc3 H4 n4=>?_⟩;refine⟨bC Z,λc4 H5 n5=>?_⟩;have t5:=t3.trans (n4.same.trans n5.same);refine⟨_,Z,pa,_,Z,.inr (oU.go t5),_,_,Z,Z,?_⟩;refine⟨c4,_,_,Z,Z,aQ.of n5.at',by simp,by rw[bR,lp];omega,by rw[bR,lp];omega,az,λc5 H6 s6 a6=>?_⟩;have ez:(List.replicate (((List.map V.int (x::pt)).length:Int)-1).toNat [V.int 0]).flatten=(List.replicate ((r0::rt).length-1) (0:Int)).map V.int:=by rw[Aq,bR,lp];congr 2;omega
  rw[ez]at a6;refine⟨c3,c5,_,_,Z,Z,aQ.of (s6 _ _ (n5.same _ _ n4.at')),a6,by rw[bR,Ah];show 1+_<=_;omega,λtv H7 s7 a7=>?_⟩;have t7:=t5.trans (s6.trans s7);refine⟨bC Z,λc6 H8 n8=>?_⟩;have t8:=t7.trans n8.same;refine⟨_,Z,.inr ⟨ma,_,0,.ref mb,Z,Z,jq.go t8,eK (gL 0) Z,_,Z,mb,_,Z,m5.go t8,λc7 H9 s9 a9=>?_⟩⟩;rw[zJ,<-List.map_drop]at a9;refine⟨c6,c7,_,_,Z,Z,aQ.of (s9 _ _ n8.at'),a9,by rw[bR,xh];show 1+((r0::rt).length-1)<=_;omega,λc8 jh iG a10=>?_⟩;refine⟨bC Z,λc9 iC jM=>?_⟩;have HG:=t8.trans (s9.trans (iG.trans jM.same));refine⟨_,Z,_,Z,ma,_,Z,jq.go HG,λc10 OW gC a12=>?_⟩;rw[zJ]at a12;refine⟨c9,c10,_,_,Z,Z,aQ.of (gC _ _ jM.at'),a12,by show 1+4<=_;omega,λmv nZ fD a13=>?_⟩;have Ct:=jM.same.trans (gC.trans fD);have HF:=HG.trans (gC.trans fD);have UT:lg (2::rt) r f' j t:=⟨aM.len,λz hz=>by
   rcases bZ.mp hz with rfl|hz
   ·exact⟨az,az⟩
   ·exact aM.rl z (.tail _ hz),aM.r1,aM.f1,aM.j1,aM.t1⟩;have rM:RD K nZ (.ref mv) (bQ.D ⟨2::rt,r,f',j,t⟩):=eF a13 (bJ (eF (a10.go Ct) (oz (2::rt))) (bJ (cQ _) (bJ (cQ _) (bJ (cQ _) (bJ (cQ _) bW)))));have Si:aA H3 nZ:=n4.same.trans (n5.same.trans (s6.trans (s7.trans (n8.same.trans (s9.trans (iG.trans Ct))))));have rh:RD K nZ (.ref hv) (eg (0::pt)):=eF (a3.go Si) (oz (0::pt));have Ss:RD K nZ (.ref tv) (.tuple ((jK (r0::rt).length).map PyData.int)):=eF (a7.go (n8.same.trans (s9.trans (iG.trans Ct)))) (oz (jK (r0::rt).length));have UP:jV (2::rt) (0::pt):=by
   refine⟨lp,λi a' r' e1 e2=>?_⟩;cases i with |zero=>cases e1;cases e2;exact⟨az,az⟩ |succ i=>exact on.at' (i+1) a' r' e1 e2
  generalize hM:(⟨2::rt,r,f',j,t⟩:bQ)=M2 at rM;have oG:M2.Ok:=by rw[<-hM];exact UT
  have eR:M2.rs=2::rt:=by rw[<-hM]
  have lM:M2.rs.length=(r0::rt).length:=by rw[eR];rfl
  refine⟨_,Z,λa dx ha dQ ne=>?_⟩;have fk:aA nZ (_L.upd (_L.upd nZ dx (.own a)) a (.ins C dx [])):=(aA.new dQ).trans (aA.new (by rw[aL ne.symm];exact ha));refine⟨a,dx,_,_,M2,0::pt,Z,bp,RD.mono fk _ rM,RD.mono fk _ rh,λq A2 R14 nq bt=>⟨Z,?_⟩⟩;have u1:=Up.mk' ha dQ ne.symm R14 nq bt;have gQ:dC M2 64 (mO (0::pt)):=CG (by rw[lM];exact lp);obtain⟨rx,LD,bv,cf,pU,e,_⟩:=u1.R.ob;refine⟨_,Z,a,rx,_,Z,e,Z,?_⟩;refine⟨_,Z,bC Z,λlv H15 DB=>?_⟩;have u2:=u1.same gQ.row.no DB.same;obtain⟨Yn,UU⟩:=WC jL;have it:mx M2.rs.length (gE (jK (r0::rt).length) 20) (some (jK (r0::rt).length,20)):=⟨.inl ⟨_,_,Z,Z⟩,λns sp e=>by cases e;rw[lM];exact⟨UU,az,az⟩,λe=>nomatch e⟩;obtain⟨i1,i2,i3⟩:=it.is;have a3B:fu (iK (mO (0::pt))) (some (jK (r0::rt).length,20))=2::pt:=by show((0:Int)+2)::jw pt (List.replicate ((r0::rt).length-1) 0)=2::pt;rw[<-XZ,OB];rfl
  have Di:j9 M2.rs (fu (iK (mO (0::pt))) (some (jK (r0::rt).length,20)))=true:=by rw[a3B,eR];exact(Lc (show(2::pt).length=(2::rt).length from lp)).mpr (UO UP az az)
  refine⟨a,q,M2,64,_,.ref lv,_,Z,u2.R,gQ,oG,eF (aQ.of DB.at') (bJ (dN _) (bJ (RD.mono (u1.s.trans DB.same) _ Ss) (bJ (cQ _) bW))),i2,i3,.inr ⟨_,it,λz=>?_,λ_ z=>?_,λ_ _ H16 R16 b16=>?_⟩⟩
  ·rw[Di]at z;cases z
  ·cases z
  have u3:=u2.but R16 b16;have Dm:=gQ.Nh it (show 0<20 by decide);obtain⟨rx,LD,bv,cf,pU,e,_⟩:=u3.R.ob;refine⟨_,Z,a,rx,_,Z,e,Z,a,q,M2,64,_,1,Z,u3.R,Dm,oG,az,az,λl ys es S' q' H17 nl dl rd run he nK R17 Xb lq=>?_⟩;have am0:wL M2 (jK (r0::rt).length) 20 (gE (jK (r0::rt).length) 20) (0::pt) 0 (zy (mO (0::pt)) (gE (jK (r0::rt).length) 20) (some (jK (r0::rt).length,20))):=⟨Z,Z,Z,Z,Z,λh=>absurd h az⟩;have am:=am0.run oG Yn run Dm bN;have he1:es.length=1:=by
   rcases nK with e|e|e
   ·omega
   ·rw[am.os]at e;cases e
   ·exact absurd am.bf e.1
  have Ur:0<S'.pc:=am.pc bN;have u4:=u3.mv R17 Xb;have Lh:=run.ok Dm oG;obtain⟨rx,LD,bv,cf,pU,e,_⟩:=u4.R.ob;refine⟨_,Z,b,Z,?_⟩;cases b with
  |true=>
   refine ba ⟨_,Z,a,rx,_,Z,e,Z,a,q',M2,64,S',.int 150,.int 150,Z,u4.R,Lh,oG,cQ _,λz=>?_,λ_ _ H' s'=>k H' (HF.trans (u4.s.trans s')),λrate e1 _ _ z=>?_⟩
   ·cases z
   ·exact absurd z (Rat.ne_of_gt Ur) |false=>exact aV ⟨_,Z,a,rx,_,Z,e,Z,a,q',M2,64,S',Z,u4.R,Lh,oG,λ_ H' s'=>k H' (HF.trans (u4.s.trans s')),λz=>absurd am.bf z.1⟩
end
end _a
set_option maxHeartbeats 1000000
namespace _a
open PySem PySem.Spec PyProof.Rows _L _r _l _C _P _W _R
section
variable {P:af}{w:World}{K:aa}{mg:bc}{au:Heap}
structure CC where
 g:Addr
 c0:Addr
 c1:Addr
 c2:Addr
 c3:Addr
 c4:Addr
 c5:Addr
 c6:Addr
 c7:Addr
 c8:Addr
 c9:Addr
 c10:Addr
def CC.l(X:CC):List Addr:=[X.c0,X.c1,X.c2,X.c3,X.c4,X.c5,X.c6,X.c7,X.c8,X.c9,X.c10]
structure Gs(mg:bc)(X:CC):Prop where
 h0:GV mg "NoFraction" (.ref X.c0)
 h1:GV mg "NoRate" (.ref X.c1)
 h2:GV mg "NoItem" (.ref X.c2)
 h3:GV mg "OffRails" (.ref X.c3)
 h4:GV mg "Full" (.ref X.c4)
 h5:GV mg "Moving" (.ref X.c5)
 h6:GV mg "NoTape" (.ref X.c6)
 h7:GV mg "NoText" (.ref X.c7)
 h8:GV mg "NoMachine" (.ref X.c8)
 h9:GV mg "NoPlace" (.ref X.c9)
 h10:GV mg "NoLine" (.ref X.c10)
 v:mg "ValueError"=none
def wy(o:Option (Option Value))(z:String):Bool:=match o with |some (some (.builtin y))=>y==z |_=>false
def Dr(o:Option (Option Value)):Bool:=match o with |some none=>true |_=>false
theorem FV{o:Option (Option Value)}{z:String}(h:wy o z=true):o=some (some (.builtin z)):=by
 unfold wy at h;split at h
 ·rw[cP]at h;rw[h]
 ·cases h
theorem WL{o:Option (Option Value)}(h:Dr o=true):o=some none:=by
 unfold Dr at h;split at h
 ·rfl
 ·cases h
def Fm(K:aa)(C:Addr):Bool:=wy (PySem.W.findIn K (.ref C) "__getattribute__") "BaseException.__getattribute__"&&Dr (PySem.W.findIn K (.ref C) "__getattr__")&&wy (PySem.W.findIn K (.ref C) "__class__") "object.__class__"&&wy (PySem.W.specialIn K (.builtin "object.__class__") "__get__") "getset_descriptor.__get__"&&(PySem.W.takesIn K (.builtin "object.__class__")==some true)&&(PySem.W.mroIn K C (.type "object")==some true)&&(PySem.W.mroIn K C (.type "BaseException")==some true)&&PySem.W.hasDictIn K C
theorem a3i{C:Addr}(h:Fm K C=true):my K C:=by unfold Fm at h;simp only[cZ,cP]at h;obtain⟨⟨⟨⟨⟨⟨⟨a,b⟩,c⟩,d⟩,e⟩,f⟩,g⟩,i⟩:=h;exact⟨FV a,WL b,FV c,FV d,e,f,g,i⟩
def vt(K:aa)(g:Addr)(cs:List Addr):Bool:=cs.zipIdx.all λp=>Fm K p.1&&(PySem.W.mroIn K p.1 (.ref g)==some true)&&(PySem.W.kitOne K (.ref p.1) (.type "ValueError")==some true)&&cs.zipIdx.all λq=>PySem.W.kitOne K (.ref p.1) (.ref q.1)==some (p.2==q.2)
theorem tq{g:Addr}{cs:List Addr}(h:vt K g cs=true){i:Nat}{c:Addr}(e:cs[i]? =some c):my K c/\takes K c g/\PySem.W.kitOne K (.ref c) (.type "ValueError")=some true/\∀(j:Nat) c',cs[j]? =some c'->PySem.W.kitOne K (.ref c) (.ref c')=some (i==j):=by have h1:=fF.mp h (c,i) (a7p.mpr e);simp only[cZ,cP]at h1;obtain⟨⟨⟨a,b⟩,v⟩,d⟩:=h1;refine⟨a3i a,b,v,λj c' e'=>?_⟩;have:=fF.mp d (c',j) (a7p.mpr e');rw[cP]at this;exact this
inductive a6q(X:CC)(ex:Addr)(vs:List V)(H:Hp)(Q:VK):Prop |mk (C:Addr)(dx:Option Addr)(i:Nat)(h0:vs=[.ref ex])(h1:H ex=some (.ext (jW ex (.ref C) dx)))(h2:X.l[i]? =some C)(h3:∀l H',aA H H'->H' l=some (.lst [.int i])->Q (.ref l) H')
def IH(K:aa)(X:CC)(ex:Addr):Sp:=λvs H Q _=>a6q X ex vs H Q
theorem a2e:∀i:Nat,i<11->(List.range 11).filter (λk=>i==k)=[i]:=by decide
abbrev Cd:Stmt:=top 126
theorem K2:bj ["_law_e","_law_some"] ["_law_e"] (aP Cd):=bw aO
theorem Wa{X:CC}(F:FA K mg "_law_classes" Cd)(B:bE mg)(N:Gs mg X)(hK:vt K X.g X.l=true):A3 P w K mg au "_law_classes" 1 (IH K X):=by
 refine F.a0q K2 (λex vs H Q E h=>?_) (λ_ _ _ _ _ _=>fE λ_=>rfl) (λex f aE A outer s H vs Q hr h=>?_)
 ·obtain⟨C,dx,i,rfl,_⟩:=h
  rfl
 ·obtain⟨C,dx,i,rfl,e1,hi,k⟩:=h
  have nd:=K2.nd;have a0H:=N.h0;have a0C:=N.h1;have a0G:=N.h2;have a0z:=N.h3;have a0V:=N.h4;have a0I:=N.h5;have a0B:=N.h6;have a0A:=N.h7;have a0E:=N.h8;have a0D:=N.h9;have a0F:=N.h10;have gW:sizeLine=16777216:=by decide
  obtain⟨kx,_,_,kj⟩:=tq hK hi;have i11:i<11:=(eY.mp hi).1;refine⟨_,(aD (pS 1 nd (dE (ao (dF (x:="isinstance") (jO K Z) Z (B.at "isinstance") jZ (ao (pv 0) (ao (cy (x:="NoFraction") rfl a0H) ay))) (ao (dF (x:="isinstance") (jO K rfl) rfl (B.at "isinstance") jZ (ao (pv 0) (ao (cy (x:="NoRate") rfl a0C) ay))) (ao (dF (x:="isinstance") (jO K rfl) rfl (B.at "isinstance") jZ (ao (pv 0) (ao (cy (x:="NoItem") rfl a0G) ay))) (ao (dF (x:="isinstance") (jO K rfl) rfl (B.at "isinstance") jZ (ao (pv 0) (ao (cy (x:="OffRails") rfl a0z) ay))) ay)))))) (aD (pS 1 nd (aW (qV K Z) (pv 1) (dE (ao (dF (x:="isinstance") (jO K Z) Z (B.at "isinstance") jZ (ao (pv 0) (ao (cy (x:="Full") rfl a0V) ay))) (ao (dF (x:="isinstance") (jO K rfl) rfl (B.at "isinstance") jZ (ao (pv 0) (ao (cy (x:="Moving") rfl a0I) ay))) (ao (dF (x:="isinstance") (jO K rfl) rfl (B.at "isinstance") jZ (ao (pv 0) (ao (cy (x:="NoTape") rfl a0B) ay))) (ao (dF (x:="isinstance") (jO K rfl) rfl (B.at "isinstance") jZ (ao (pv 0) (ao (cy (x:="NoText") rfl a0A) ay))) ay))))))) (aD (pS 1 nd (aW (qV K Z) (pv 1) (dE (ao (dF (x:="isinstance") (jO K Z) Z (B.at "isinstance") jZ (ao (pv 0) (ao (cy (x:="NoMachine") rfl a0E) ay))) (ao (dF (x:="isinstance") (jO K rfl) rfl (B.at "isinstance") jZ (ao (pv 0) (ao (cy (x:="NoPlace") rfl a0D) ay))) (ao (dF (x:="isinstance") (jO K rfl) rfl (B.at "isinstance") jZ (ao (pv 0) (ao (cy (x:="NoLine") rfl a0F) ay))) ay)))))) (aH (aZ (Uk (N:=["_law_k","_law_some"]) (js:=[none,some 1]) hr.hd Z Z (U8 ex Z (B.at "range") (ao aF ay)) (λ_ _ _ _ _=>(bu 0 (fX az))) (λ_ _ _ _ _=>(TK (bS (px K (pv 1) (pv 0))))) (λ_ _ _ _ _=>(pv 0)))))))),?_⟩;refine⟨_,Z,.inl ⟨ex,C,dx,.ref X.c0,.ref X.c0,_,Z,e1,kx,Z,kj 0 _ Z,?_⟩⟩;refine⟨_,Z,.inl ⟨ex,C,dx,.ref X.c1,.ref X.c1,_,Z,e1,kx,Z,kj 1 _ Z,?_⟩⟩;refine⟨_,Z,.inl ⟨ex,C,dx,.ref X.c2,.ref X.c2,_,Z,e1,kx,Z,kj 2 _ Z,?_⟩⟩;refine⟨_,Z,.inl ⟨ex,C,dx,.ref X.c3,.ref X.c3,_,Z,e1,kx,Z,kj 3 _ Z,?_⟩⟩;refine⟨bC Z,λl1 H1 n1=>?_⟩;have e2:=n1.same _ _ e1;refine⟨_,Z,?_⟩;refine⟨_,Z,.inl ⟨ex,C,dx,.ref X.c4,.ref X.c4,_,Z,e2,kx,Z,kj 4 _ Z,?_⟩⟩;refine⟨_,Z,.inl ⟨ex,C,dx,.ref X.c5,.ref X.c5,_,Z,e2,kx,Z,kj 5 _ Z,?_⟩⟩;refine⟨_,Z,.inl ⟨ex,C,dx,.ref X.c6,.ref X.c6,_,Z,e2,kx,Z,kj 6 _ Z,?_⟩⟩;refine⟨_,Z,.inl ⟨ex,C,dx,.ref X.c7,.ref X.c7,_,Z,e2,kx,Z,kj 7 _ Z,?_⟩⟩;refine⟨bC Z,λl2 H2 n2=>?_⟩;refine⟨l1,l2,_,_,Z,Z,aK.of (n2.same _ _ n1.at'),aK.of n2.at',by show 8<=_;omega,λl3 H3 n3=>?_⟩;have s3:=n1.same.trans (n2.same.trans n3.same);have e3:=s3 _ _ e1;refine⟨_,Z,?_⟩;refine⟨_,Z,.inl ⟨ex,C,dx,.ref X.c8,.ref X.c8,_,Z,e3,kx,Z,kj 8 _ Z,?_⟩⟩;refine⟨_,Z,.inl ⟨ex,C,dx,.ref X.c9,.ref X.c9,_,Z,e3,kx,Z,kj 9 _ Z,?_⟩⟩;refine⟨_,Z,.inl ⟨ex,C,dx,.ref X.c10,.ref X.c10,_,Z,e3,kx,Z,kj 10 _ Z,?_⟩⟩;refine⟨bC Z,λl4 H4 n4=>?_⟩;refine⟨l3,l4,_,_,Z,Z,aK.of (n4.same _ _ n3.at'),aK.of n4.at',by show 11<=_;omega,λl5 H5 n5=>?_⟩;have ZJ:aK K H5 l5 ((List.range 11).map λj=>V.bl (i==j)):=aK.of n5.at';have s5:=s3.trans (n4.same.trans n5.same);refine⟨11,Z,az,az,λD H6 n6=>?_⟩;refine a42 (n:=11) (H:=H5) (λj=>.int (0+(j:Int))) (λj=>i==j) (λj=>0+(j:Int)) _ n6 az (λj H7 hj s7=>⟨hj,λy H8 hy=>hy⟩) (λH7 s7=>⟨bB _,C|>λ_=>⟨_,_,(s5.trans s7) _ _ e1⟩⟩) ?_ ?_ ?_
  ·intro j H7 Q' hj s7 hq
   refine⟨_,Z,_,Z,.inl ⟨l5,_,0+(j:Int),.bl (i==j),Z,Z,ZJ.go s7,?_,?_⟩⟩
   ·exact eK bN (by rw[cY,show(0+(j:Int)).toNat=j by omega,GU hj];rfl)
   ·exact⟨_,Z,hq H7 (aA.refl _)⟩
  ·intro j H7 Q' hj pj s7 hq
   exact⟨_,Z,hq H7 (aA.refl _)⟩
  ·intro H7 s7 d7
   rw[a2e i i11]at d7;have d7:H7 D=some (.lst [.int (0+(i:Int))]):=d7;rw[Int.zero_add]at d7;exact k D H7 (s5.trans s7) d7
end
end _a
set_option maxHeartbeats 4000000
namespace _a
open PySem PySem.Spec PyProof.Rows _L _r _l _C _P _W _R
open _O (topR cornO mnO betR atO ownF leadF ownL OkI OkIs)
open _T (numIn?)
section
variable {P:af}{w:World}{K:aa}{mg:bc}{au:Heap}
theorem WH{n:Nat}(h:n=2\/n=3):gT n (.tuple [.str "wait",.int 0])=false:=by rcases h with rfl|rfl<;>decide+kernel
theorem Ll:cD 8 (.tuple [.str "wait",.int 0])/\lL (.tuple [.str "wait",.int 0])=true:=⟨(fQ.tup (n:=0) (.cons ⟨aO,fw _⟩ (.cons (.int _) .nil))).le az,Z⟩
inductive a5V(K:aa)(X:CC)(lo:Nat)(hi:Nat)(vs:List V)(H:Hp)(E:XK):Prop |mk (i:Nat)(b:Bool)(m:V)(bF:V)(ov:V)(M:bQ)(pl:List Int)(d:ah)(h0:vs=[.int (i:Nat),.bl b,m,bF,ov])(h1:lo<=i)(h2:i<hi)(h3:RD K H m (bQ.D M))(h4:M.Ok)(h5:RD K H bF (eg pl))(h6:jV M.rs pl)(h7:RD K H ov d)(h8:zX d)(h9:(i=0->tE d=false))(h10:∀c dx H',X.l[i]? =some c->aA H H'->E (.ref c) dx H')
def xV(K:aa)(X:CC)(lo hi:Nat):Sp:=λvs H Q E=>a5V K X lo hi vs H E
def CC.rf(X:CC)(i:Addr):qZ:=⟨X.c2,X.c3,X.c4,X.c5,X.c1,i⟩
abbrev BF:Stmt:=top 131
theorem Jv:bj ["_law_which","_law_second","_law_machine_here","_law_place_here","_law_odd","_law_line"] ["_law_which","_law_second","_law_machine_here","_law_place_here","_law_odd"] (aP BF):=bw aO
theorem Vy{C fI:Addr}{X:CC}(F:FA K mg "_law_of_machines" BF)(B:bE mg)(TC:gm K C)(kM:fR P w K mg au "fraction" 2 (Iz K X.c0))(lX:fR P w K mg au "top_square" 4 (HW K X.c1))(a06:fR P w K mg au "ends" 4 (IC K X.c3))(md:rk P w K mg au C "Runner" 1 (uG K C))(p4:iA P w K mg au C "feed" 5 (xT K C (X.rf fI)))(EA:iA P w K mg au C "turn_rate" 5 (AK K C X.c1 X.c5))(a1e:aG P w K mg au "_law_off" 1 (Ip K))(MS:fR P w K mg au "_law_full" 6 (Iy K X.c4))(a1h:fR P w K mg au "_law_moving" 13 (Iq K X.c5)):fR P w K mg au "_law_of_machines" 14 (xV K X 0 6):=by
 refine F.gU Jv (λvs H Q E h=>?_) (λ_ _ _ _ _ _=>G5 λ_ _ _ _ _=>rfl) (λf aE A outer s H vs Q E hr h=>?_)
 ·obtain⟨i,b,m,bF,ov,M,pl,d,rfl,_⟩:=h
  rfl
 ·obtain⟨i,b,m,bF,ov,M,pl,d,rfl,_,i6,rm,aM,rp,on,ro,odd,oY,k⟩:=h
  have nd:=Jv.nd;have jL:M.rs.length=2\/M.rs.length=3:=aM.len;have ve:dC M 64 (mO pl):=CG on.len;refine⟨_,(aD (bD (bT (dR K Z hr.units) (pv 0) aF (bL _)) (aH (aZ (gc (bS (pv 1)) (kB kM (eh λ_ _ _ z=>z) (hr.mono az) Z (ao aF (ao (pv 4) ay))) (kB kM (eh λ_ _ _ z=>z) (hr.mono az) Z (ao aF (ao aF ay)))))) bG) (aD (bD (bT (dR K Z hr.units) (pv 0) aF (bL _)) (aH (aZ (gc (bS (pv 1)) (kz EA (eh λ_ _ _ z=>z) TC.cl (hr.mono az) (qq md (hr.mono az) Z (ao (pv 2) (ao (pv 3) ay))) (ao (pv 4) ay)) (kB lX (eh λ_ _ _ z=>z) (hr.mono az) Z (ao (dh (ao ck (ao (dh (ao aF (ao aF ay))) (ao aF ay)))) (ao aF ay)))))) bG) (aD (bD (bT (dR K Z hr.units) (pv 0) aF (bL _)) (aH (aZ (gc (bS (pv 1)) (kz p4 (eh λ_ _ _ z=>z) TC.cl (hr.mono az) (qq md (hr.mono az) Z (ao (pv 2) (ao (pv 3) ay))) (ao (pv 4) ay)) (kz p4 (eh λ_ _ _ z=>z) TC.cl (hr.mono az) (qq md (hr.mono az) Z (ao (pv 2) (ao (pv 3) ay))) (ao (dh (ao ck (ao aF ay))) ay))))) bG) (aD (bD (bT (dR K Z hr.units) (pv 0) aF (bL _)) (aD (pS 5 nd (pf a1e hr (ao (pv 2) (ao (pv 3) ay)))) (aH (aZ (gc (bS (pv 1)) (kz p4 (eh λ_ _ _ z=>z) TC.cl (hr.mono az) (qq md (hr.mono az) Z (ao (pv 2) (ao (pv 3) ay))) (ao (pv 5) ay)) (kB a06 (eh λ_ _ _ z=>z) (hr.mono az) Z (ao (pv 2) (ao (pv 3) (ao (dh (ao (pv 5) ay)) ay)))))))) bG) (aD (bD (bT (dR K Z hr.units) (pv 0) aF (bL _)) (aH (aZ (gc (bS (pv 1)) (kz p4 (eh λ_ _ _ z=>z) TC.cl (hr.mono az) (kB MS (eh λ_ _ _ z=>z) (hr.mono az) Z (ao (pv 2) (ao (pv 3) ay))) (ao (dh (ao ck (ao ck ay))) ay)) (kB MS (eh λ_ _ _ z=>z) (hr.mono az) Z (ao (pv 2) (ao (pv 3) ay)))))) bG) (aH (aZ (kB a1h (eh λ_ _ _ z=>z) (hr.mono az) Z (ao (pv 2) (ao (pv 3) (ao (pv 1) ay))))))))))),?_⟩
  match i,i6 with
  |0,_=>refine⟨_,Z,.inl ⟨_,_,Z,Z,_,Z,ba ?_⟩⟩;refine⟨_,Z,b,Z,?_⟩;cases b with |true=>exact ba ⟨_,Z,1,ov,d,Z,ro,.inl (oY Z),λH' s'=>k _ _ _ Z s'⟩ |false=>exact aV ⟨3,.int 0,.int 0,Z,cQ _,.inr Z,λH' s'=>k _ _ _ Z s'⟩
  |1,_=>refine⟨_,Z,.inl ⟨_,_,Z,Z,_,Z,aV ?_⟩⟩;refine⟨_,Z,.inl ⟨_,_,Z,Z,_,Z,ba ?_⟩⟩;refine⟨_,Z,b,Z,?_⟩;cases b with
   |true=>
    refine ba ⟨_,Z,_,Z,λa dx ha dQ ne=>?_⟩;have s1:aA H (_L.upd (_L.upd H dx (.own a)) a (.ins C dx [])):=(aA.new dQ).trans (aA.new (by rw[aL ne.symm];exact ha));refine⟨a,dx,m,bF,M,pl,Z,bp,RD.mono s1 _ rm,RD.mono s1 _ rp,λq H1 R1 nq bt=>⟨Z,?_⟩⟩;have u:=Up.mk' ha dQ ne.symm R1 nq bt;obtain⟨rx,mv,bv,cf,tv,e,_⟩:=u.R.ob;refine⟨a,rx,_,Z,e,Z,_,Z,a,q,M,64,_,ov,d,Z,u.R,ve,aM,RD.mono u.s _ ro,λ_ H' s'=>k _ _ _ Z (u.s.trans s'),λz=>?_,λrate er h1 h2=>?_⟩
    ·rw[odd.rt]at z;cases z
    ·have h:=odd.rt
     rw[er]at h;have h:(decide (10<=rate)&&decide (rate<=200))=false:=h;rw[cn h1,cn h2]at h;cases h |false=>refine aV ⟨bC Z,λt1 H1 n1=>⟨bC Z,λt2 H2 n2=>?_⟩⟩;exact⟨_,.int 9,.int 9,Z,cQ _,Z,λH' s'=>k _ _ _ Z (n1.same.trans (n2.same.trans s'))⟩
  |2,_=>refine⟨_,Z,.inl ⟨_,_,Z,Z,_,Z,aV ?_⟩⟩;refine⟨_,Z,.inl ⟨_,_,Z,Z,_,Z,aV ?_⟩⟩;refine⟨_,Z,.inl ⟨_,_,Z,Z,_,Z,ba ?_⟩⟩;refine⟨_,Z,b,Z,?_⟩;cases b with |true=>refine ba ⟨_,Z,_,Z,λa dx ha dQ ne=>?_⟩;have s1:aA H (_L.upd (_L.upd H dx (.own a)) a (.ins C dx [])):=(aA.new dQ).trans (aA.new (by rw[aL ne.symm];exact ha));refine⟨a,dx,m,bF,M,pl,Z,bp,RD.mono s1 _ rm,RD.mono s1 _ rp,λq H1 R1 nq bt=>⟨Z,?_⟩⟩;have u:=Up.mk' ha dQ ne.symm R1 nq bt;obtain⟨rx,mv,bv,cf,tv,e,_⟩:=u.R.ob;exact⟨a,rx,_,Z,e,Z,_,Z,a,q,M,64,_,ov,d,Z,u.R,ve,aM,RD.mono u.s _ ro,odd.ok,odd.sh,.inl ⟨odd.it _ jL,λH' s'=>k _ _ _ Z (u.s.trans s')⟩⟩ |false=>refine aV ⟨_,Z,_,Z,λa dx ha dQ ne=>?_⟩;have s1:aA H (_L.upd (_L.upd H dx (.own a)) a (.ins C dx [])):=(aA.new dQ).trans (aA.new (by rw[aL ne.symm];exact ha));refine⟨a,dx,m,bF,M,pl,Z,bp,RD.mono s1 _ rm,RD.mono s1 _ rp,λq H1 R1 nq bt=>⟨Z,?_⟩⟩;have u:=Up.mk' ha dQ ne.symm R1 nq bt;obtain⟨rx,mv,bv,cf,tv,e,_⟩:=u.R.ob;refine⟨a,rx,_,Z,e,Z,bC Z,λt1 H2 n2=>?_⟩;have u2:=u.same ve.row.no n2.same;exact⟨a,q,M,64,_,.ref t1,_,Z,u2.R,ve,aM,eF (aQ.of n2.at') (bJ (dN _) (bJ (cQ _) bW)),Ll.1,Ll.2,.inl ⟨WH jL,λH' s'=>k _ _ _ Z (u2.s.trans s')⟩⟩
  |3,_=>refine⟨_,Z,.inl ⟨_,_,Z,Z,_,Z,aV ?_⟩⟩;refine⟨_,Z,.inl ⟨_,_,Z,Z,_,Z,aV ?_⟩⟩;refine⟨_,Z,.inl ⟨_,_,Z,Z,_,Z,aV ?_⟩⟩;refine⟨_,Z,.inl ⟨_,_,Z,Z,_,Z,ba ?_⟩⟩;refine⟨_,Z,_,Z,m,bF,M,pl,Z,rm,aM,rp,on,λlv ld o H0 rl it off s0=>?_⟩;obtain⟨i1,i2,i3⟩:=it.is;refine⟨_,Z,b,Z,?_⟩;cases b with
   |true=>
    refine ba ⟨_,Z,_,Z,λa dx ha dQ ne=>?_⟩;have s1:aA H0 (_L.upd (_L.upd H0 dx (.own a)) a (.ins C dx [])):=(aA.new dQ).trans (aA.new (by rw[aL ne.symm];exact ha));refine⟨a,dx,m,bF,M,pl,Z,bp,RD.mono (s0.trans s1) _ rm,RD.mono (s0.trans s1) _ rp,λq H1 R1 nq bt=>⟨Z,?_⟩⟩;have u:=Up.mk' ha dQ ne.symm R1 nq bt;obtain⟨rx,mv,bv,cf,tv,e,_⟩:=u.R.ob;refine⟨a,rx,_,Z,e,Z,_,Z,a,q,M,64,_,lv,ld,Z,u.R,ve,aM,RD.mono u.s _ rl,i2,i3,.inr ⟨o,it,λ_ H' pA s' _=>k _ _ _ Z (s0.trans (u.s.trans s')),λz=>?_,λz=>?_⟩⟩
    ·have z:j9 M.rs (fu pl o)=true:=z
     rw[off]at z;cases z
    ·have z:j9 M.rs (fu pl o)=true:=z
     rw[off]at z;cases z |false=>refine aV ⟨_,Z,_,Z,_,Z,bC Z,λt1 H1 n1=>?_⟩;have s1:=s0.trans n1.same;exact⟨m,bF,.ref t1,M,pl,ld,o,Z,RD.mono s1 _ rm,aM,RD.mono s1 _ rp,on.len,eF (aQ.of n1.at') (bJ (RD.mono n1.same _ rl) bW),it,off,λdx H' s'=>k _ _ _ Z (s1.trans s')⟩
  |4,_=>refine⟨_,Z,.inl ⟨_,_,Z,Z,_,Z,aV ?_⟩⟩;refine⟨_,Z,.inl ⟨_,_,Z,Z,_,Z,aV ?_⟩⟩;refine⟨_,Z,.inl ⟨_,_,Z,Z,_,Z,aV ?_⟩⟩;refine⟨_,Z,.inl ⟨_,_,Z,Z,_,Z,aV ?_⟩⟩;refine⟨_,Z,.inl ⟨_,_,Z,Z,_,Z,ba ?_⟩⟩;refine⟨_,Z,b,Z,?_⟩;cases b with |true=>exact ba ⟨_,Z,_,Z,m,bF,M,pl,Z,rm,aM,rp,on,λH' s'=>k _ _ _ Z s'⟩ |false=>exact aV ⟨_,Z,_,Z,m,bF,M,pl,Z,rm,aM,rp,on,λH' s'=>k _ _ _ Z s'⟩
  |5,_=>refine⟨_,Z,.inl ⟨_,_,Z,Z,_,Z,aV ?_⟩⟩;refine⟨_,Z,.inl ⟨_,_,Z,Z,_,Z,aV ?_⟩⟩;refine⟨_,Z,.inl ⟨_,_,Z,Z,_,Z,aV ?_⟩⟩;refine⟨_,Z,.inl ⟨_,_,Z,Z,_,Z,aV ?_⟩⟩;refine⟨_,Z,.inl ⟨_,_,Z,Z,_,Z,aV ?_⟩⟩;exact⟨_,Z,_,Z,_,Z,m,bF,b,M,pl,Z,rm,aM,rp,on,λH' s'=>k _ _ _ Z s'⟩
end
open _T (numIn?)
section
variable {P:af}{w:World}{K:aa}{mg:bc}{au:Heap}
theorem WS{d:ah}:ij (.tuple [d])=false:=rfl
theorem WR{rs pl:List Int}(h:pl.length=rs.length):kI rs (.tuple (pl.map PyData.int++[.int 0]))=false:=by
 show((pl.map PyData.int++[PyData.int 0]).length==rs.length&&_)=false;rw[fj,bR,h];have:(rs.length+[PyData.int 0].length==rs.length)=false:=by rw[A9];show rs.length+1≠rs.length;omega
 rw[this,fV]
abbrev BE:Stmt:=top 132
theorem Ju:bj ["_law_which","_law_second","_law_machine_here","_law_place_here","_law_odd"] ["_law_which","_law_second","_law_machine_here","_law_place_here","_law_odd"] (aP BE):=bw aO
theorem Vx{C D:Addr}{X:CC}(F:FA K mg "_law_of_texts" BE)(B:bE mg)(DC:wK K D)(MC:fR P w K mg au "look" 10 (Iv K X.c6))(Mr:fR P w K mg au "read_items" 6 (Ie K X.c7))(tL:zZ P w K mg au D "Desk" 5 (IE K C D X.c8 X.c9))(MY:iA P w K mg au D "say" 4 (Ia K D X.c10)):fR P w K mg au "_law_of_texts" 14 (xV K X 6 11):=by
 refine F.gU Ju (λvs H Q E h=>?_) (λ_ _ _ _ _ _=>G5 λ_ _ _ _ _=>rfl) (λf aE A outer s H vs Q E hr h=>?_)
 ·obtain⟨i,b,m,bF,ov,M,pl,d,rfl,_⟩:=h
  rfl
 ·obtain⟨i,b,m,bF,ov,M,pl,d,rfl,i6,i11,rm,aM,rp,on,ro,odd,oY,k⟩:=h
  have nd:=Ju.nd;have jL:M.rs.length=2\/M.rs.length=3:=aM.len;have La:kI M.rs (eg pl)=true:=UN on;refine⟨_,(aD (bD (bT (dR K Z hr.units) (pv 0) aF (bL _)) (aH (aZ (gc (bS (pv 1)) (kB MC (eh λ_ _ _ z=>z) (hr.mono az) Z (ao (pv 2) (ao (dh (ao (dh (ao ck (ao aF ay))) ay)) (ao aF (ao (pv 4) ay))))) (kB MC (eh λ_ _ _ z=>z) (hr.mono az) Z (ao (pv 2) (ao (dh ay) (ao aF (ao aF ay)))))))) bG) (aD (bD (bT (dR K Z hr.units) (pv 0) aF (bL _)) (aH (aZ (gc (bS (pv 1)) (kB Mr (eh λ_ _ _ z=>z) (hr.mono az) Z (ao (pv 2) (ao (dE (ao (pv 4) ay)) ay))) (kB Mr (eh λ_ _ _ z=>z) (hr.mono az) Z (ao (pv 2) (ao ck ay)))))) bG) (aD (bD (bT (dR K Z hr.units) (pv 0) aF (bL _)) (aH (aZ (gc (bS (pv 1)) (sR tL (eh λ_ _ _ z=>z) (hr.mono az) Z (ao (pv 4) (ao (pv 3) ay))) (sR tL (eh λ_ _ _ z=>z) (hr.mono az) Z (ao (dh (ao (pv 2) ay)) (ao (pv 3) ay)))))) bG) (aD (bD (bT (dR K Z hr.units) (pv 0) aF (bL _)) (aH (aZ (gc (bS (pv 1)) (sR tL (eh λ_ _ _ z=>z) (hr.mono az) Z (ao (pv 2) (ao (pv 4) ay))) (sR tL (eh λ_ _ _ z=>z) (hr.mono az) Z (ao (pv 2) (ao (aW (pF K Z) (pv 3) (dh (ao aF ay))) ay)))))) bG) (aH (aZ (gc (bS (pv 1)) (kz MY (eh λ_ _ _ z=>z) DC.cl (hr.mono az) (sR tL (eh λ_ _ _ z=>z) (hr.mono az) Z (ao (pv 2) (ao (pv 3) ay))) (ao (dE (ao (pv 4) ay)) ay)) (kz MY (eh λ_ _ _ z=>z) DC.cl (hr.mono az) (sR tL (eh λ_ _ _ z=>z) (hr.mono az) Z (ao (pv 2) (ao (pv 3) ay))) (ao ck ay))))))))),?_⟩;obtain⟨i,rfl⟩:∃j,i=j+6:=⟨i-6,bN⟩
  match i,i11 with
  |0,_=>refine⟨_,Z,.inl ⟨_,_,Z,Z,_,Z,ba ?_⟩⟩;refine⟨_,Z,b,Z,?_⟩;cases b with
   |true=>
    refine ba ⟨_,Z,bC Z,λt1 H1 n1=>⟨bC Z,λt2 H2 n2=>⟨_,Z,?_⟩⟩⟩;have s2:=n1.same.trans n2.same;refine⟨m,.ref t2,ov,M,d,Z,RD.mono s2 _ rm,aM,RD.mono s2 _ ro,odd.tp.imp id λhl=>⟨eF (aQ.of n2.at') (bJ (eF (aQ.of (n2.same _ _ n1.at')) (bJ (dN _) (bJ (cQ _) bW))) bW),hl.imp id λe=>⟨.list [.int 0],e,?_,Z,?_⟩⟩,λdx H' s'=>k _ _ _ Z (s2.trans s')⟩
    ·exact(fQ.lst (n:=0) (.cons (.int _) .nil)).le az
    ·rcases jL with e|e<;>(rw[e];rfl) |false=>refine aV ⟨_,Z,fw _,λt1 H1 n1=>?_⟩;exact⟨m,.ref t1,.int 0,M,.int 0,Z,RD.mono n1.same _ rm,aM,cQ _,.inl aO,λdx H' s'=>k _ _ _ Z (n1.same.trans s')⟩
  |1,_=>refine⟨_,Z,.inl ⟨_,_,Z,Z,_,Z,aV ?_⟩⟩;refine⟨_,Z,.inl ⟨_,_,Z,Z,_,Z,ba ?_⟩⟩;refine⟨_,Z,b,Z,?_⟩;cases b with |true=>refine ba ⟨_,Z,_,Z,bC Z,λt1 H1 n1=>?_⟩;exact⟨m,.ref t1,M,Z,RD.mono n1.same _ rm,aM,.inr ⟨.list [d],sG (aK.of n1.at') (bJ (RD.mono n1.same _ ro) bW),(by decide:fC "list" "str"=false)⟩,λdx H' s'=>k _ _ _ rfl (n1.same.trans s')⟩ |false=>exact aV ⟨_,Z,m,.str "wait 0",M,Z,rm,aM,.inl Z,λdx H' s'=>k _ _ _ Z s'⟩
  |2,_=>refine⟨_,Z,.inl ⟨_,_,Z,Z,_,Z,aV ?_⟩⟩;refine⟨_,Z,.inl ⟨_,_,Z,Z,_,Z,aV ?_⟩⟩;refine⟨_,Z,.inl ⟨_,_,Z,Z,_,Z,ba ?_⟩⟩;refine⟨_,Z,b,Z,?_⟩;cases b with |true=>refine ba ⟨_,Z,_,Z,λx dx hx dQ ne=>?_⟩;have s1:aA H (_L.upd (_L.upd H dx (.own x)) x (.ins D dx [])):=(aA.new dQ).trans (aA.new (by rw[aL ne.symm];exact hx));exact⟨x,dx,ov,bF,Z,bp,.inl ⟨d,RD.mono s1 _ ro,odd.mc,λH' s'=>k _ _ _ Z (s1.trans s')⟩⟩ |false=>refine aV ⟨_,Z,bC Z,λt1 H1 n1=>⟨_,Z,λx dx hx dQ ne=>?_⟩⟩;have s1:aA H1 (_L.upd (_L.upd H1 dx (.own x)) x (.ins D dx [])):=(aA.new dQ).trans (aA.new (by rw[aL ne.symm];exact hx));exact⟨x,dx,.ref t1,bF,Z,bp,.inl ⟨_,eF (aQ.of (s1 _ _ n1.at')) (bJ (RD.mono (n1.same.trans s1) _ rm) bW),WS,λH' s'=>k _ _ _ Z (n1.same.trans (s1.trans s'))⟩⟩
  |3,_=>refine⟨_,Z,.inl ⟨_,_,Z,Z,_,Z,aV ?_⟩⟩;refine⟨_,Z,.inl ⟨_,_,Z,Z,_,Z,aV ?_⟩⟩;refine⟨_,Z,.inl ⟨_,_,Z,Z,_,Z,aV ?_⟩⟩;refine⟨_,Z,.inl ⟨_,_,Z,Z,_,Z,ba ?_⟩⟩;refine⟨_,Z,b,Z,?_⟩;cases b with |true=>refine ba ⟨_,Z,_,Z,λx dx hx dQ ne=>?_⟩;have s1:aA H (_L.upd (_L.upd H dx (.own x)) x (.ins D dx [])):=(aA.new dQ).trans (aA.new (by rw[aL ne.symm];exact hx));exact⟨x,dx,m,ov,Z,bp,.inr ⟨M,d,RD.mono s1 _ rm,aM,RD.mono s1 _ ro,λ_ H' s'=>k _ _ _ Z (s1.trans s'),λz=>by rw[odd.pl _ jL]at z;cases z⟩⟩ |false=>
   obtain⟨pa,rfl,oU⟩:=yk rp;refine aV ⟨_,Z,_,Z,bC Z,λt1 H1 n1=>⟨pa,t1,_,_,Z,Z,oU.go n1.same,aQ.of n1.at',?_,λt2 H2 s2 a2=>?_⟩⟩
   ·have gW:sizeLine=16777216:=by decide
    have:=on.len;rw[bR];show _+1<=_;omega
   refine λx dx hx dQ ne=>?_;have s1:aA H2 (_L.upd (_L.upd H2 dx (.own x)) x (.ins D dx [])):=(aA.new dQ).trans (aA.new (by rw[aL ne.symm];exact hx));have s3:=n1.same.trans (s2.trans s1);refine⟨x,dx,m,.ref t2,Z,bp,.inr ⟨M,.tuple (pl.map PyData.int++[.int 0]),RD.mono s3 _ rm,aM,eF (a2.go s1) ((oz pl).append (bJ (cQ _) bW)),λ_ H' s'=>k _ _ _ Z (s3.trans s'),λz=>by rw[WR on.len]at z;cases z⟩⟩
  |4,_=>refine⟨_,Z,.inl ⟨_,_,Z,Z,_,Z,aV ?_⟩⟩;refine⟨_,Z,.inl ⟨_,_,Z,Z,_,Z,aV ?_⟩⟩;refine⟨_,Z,.inl ⟨_,_,Z,Z,_,Z,aV ?_⟩⟩;refine⟨_,Z,.inl ⟨_,_,Z,Z,_,Z,aV ?_⟩⟩;refine⟨_,Z,b,Z,?_⟩;cases b with |true=>
   refine ba ⟨_,Z,_,Z,λx dx hx dQ ne=>?_⟩;have s1:aA H (_L.upd (_L.upd H dx (.own x)) x (.ins D dx [])):=(aA.new dQ).trans (aA.new (by rw[aL ne.symm];exact hx));refine⟨x,dx,m,bF,Z,bp,.inr ⟨M,_,RD.mono s1 _ rm,aM,RD.mono s1 _ rp,λz=>(by rw[La]at z;cases z),λ_=>⟨pl,rfl,λr H1 ea bt=>⟨rfl,?_⟩⟩⟩⟩;have s2:aA H H1:=λb o e=>bt b o (s1 _ _ e) λz=>by rw[eB.mp z,hx]at e;cases e
   refine⟨x,dx,_,Z,ea,Z,_,Z,bC Z,λt1 H2 n2=>?_⟩;exact⟨x,dx,m,r,.ref t1,Z,n2.same _ _ ea,.inr ⟨.list [d],sG (aK.of n2.at') (bJ (RD.mono (s2.trans n2.same) _ ro) bW),(by decide:fC "list" "str"=false)⟩,λH' s'=>k _ _ _ rfl (s2.trans (n2.same.trans s'))⟩ |false=>
   refine aV ⟨_,Z,_,Z,λx dx hx dQ ne=>?_⟩;have s1:aA H (_L.upd (_L.upd H dx (.own x)) x (.ins D dx [])):=(aA.new dQ).trans (aA.new (by rw[aL ne.symm];exact hx));refine⟨x,dx,m,bF,Z,bp,.inr ⟨M,_,RD.mono s1 _ rm,aM,RD.mono s1 _ rp,λz=>(by rw[La]at z;cases z),λ_=>⟨pl,rfl,λr H1 ea bt=>⟨rfl,?_⟩⟩⟩⟩;have s2:aA H H1:=λb o e=>bt b o (s1 _ _ e) λz=>by rw[eB.mp z,hx]at e;cases e
   exact⟨x,dx,_,Z,ea,Z,x,dx,m,r,.str "steps",Z,ea,.inl Z,λH' s'=>k _ _ _ Z (s2.trans s')⟩
end
open _T (numIn?)
section
variable {P:af}{w:World}{K:aa}{mg:bc}{au:Heap}
inductive a5B(K:aa)(vs:List V)(H:Hp)(Q:VK):Prop |mk (i:Nat)(b:Bool)(m:V)(bF:V)(ov:V)(M:bQ)(pl:List Int)(d:ah)(h0:vs=[.int (i:Nat),.bl b,m,bF,ov])(h1:i<11)(h2:RD K H m (bQ.D M))(h3:M.Ok)(h4:RD K H bF (eg pl))(h5:jV M.rs pl)(h6:RD K H ov d)(h7:zX d)(h8:(i=0->tE d=false))(h9:∀H',aA H H'->Q (.bl true) H')
def Ic(K:aa):Sp:=λvs H Q _=>a5B K vs H Q
abbrev Bh:Stmt:=top 133
theorem Je:bj ["_law_which","_law_second","_law_machine_here","_law_place_here","_law_odd","_law_e"] ["_law_which","_law_second","_law_machine_here","_law_place_here","_law_odd"] (aP Bh):=bw aO
theorem Vk{X:CC}(F:FA K mg "_law_refused" Bh)(B:bE mg)(hy:Exc K mg "GlideError" X.g cW dc)(N:Gs mg X)(hC:∀c∈X.l,ClsAt K c)(hK:vt K X.g X.l=true)(a1g:fR P w K mg au "_law_of_machines" 14 (xV K X 0 6))(a1f:fR P w K mg au "_law_of_texts" 14 (xV K X 6 11))(a1k:A3 P w K mg au "_law_classes" 1 (IH K X)):aG P w K mg au "_law_refused" 15 (Ic K):=by
 refine F.a0r Je (λvs H Q E h=>?_) (λ_ _ _ _ _ _=>G5 λ_ _ _ _ _=>rfl) (λf aE A outer s H vs Q E hr h=>?_)
 ·obtain⟨i,b,m,bF,ov,M,pl,d,rfl,_⟩:=h
  rfl
 ·obtain⟨i,b,m,bF,ov,M,pl,d,rfl,i11,rm,aM,rp,on,ro,odd,oY,k⟩:=h
  have nd:=Je.nd;have a0x:=N.v;have Ew:(cW).contains (.type "BaseException")=true:=by decide
  have ER:∀C',C'∈X.l->ClsAt K C'/\takes K C' X.g:=λC' e=>by obtain⟨j,ej⟩:=xf.mp e;exact⟨hC _ e,(tq hK ej).2.1⟩
  refine⟨_,(wD.a40 (TR (i:=5) Z Z nd Z Z Z (λE xe hp=>(aH (bD (bT mW (pv 0) aF (bL _)) (aH (gD (KQ a1g hp (hr.mono az) Z (ao (pv 0) (ao (pv 1) (ao (pv 2) (ao (pv 3) (ao (pv 4) ay)))))))) (aH (gD (KQ a1f hp (hr.mono az) Z (ao (pv 0) (ao (pv 1) (ao (pv 2) (ao (pv 3) (ao (pv 4) ay))))))))))) Z hy Ew ER (λex=>(aH (aZ (qr (dF (x:="isinstance") (jO K Z) Z (B.at "isinstance") jZ (ao (pv 5) (ao (jI (x:="ValueError") (v:=.ty "ValueError") rfl a0x a4r rfl) ay))) (sQ (jG (dR K rfl hr.units) (Ui a1k ((hr.Xx ex).mono az) rfl (ao (pv 5) ay)) (dE (ao (pv 0) ay)) (bL _)))))))) (aH (aZ hW))),?_⟩;refine⟨λσ' cls _ H'=>σ'=[some (.int (i:Nat)),some (.bl b),some m,some bF,some ov,none]/\aA H H'/\∃c,cls= .ref c/\X.l[i]? =some c,?_,λσ' cls dx H' h=>?_,?_⟩
  ·refine⟨_,Z,_,_,Z,Z,_,Z,?_⟩
   by_cases h6:i<6
   ·rw[cn (show((i:Nat):Int)<6 by omega)]
    exact ba ⟨_,Z,_,Z,_,Z,_,Z,_,Z,i,b,m,bF,ov,M,pl,d,Z,fw _,h6,rm,aM,rp,on,ro,odd,oY,λc dx H' e s'=>⟨Z,s',c,Z,e⟩⟩
   ·rw[df (show¬((i:Nat):Int)<6 by omega)]
    exact aV ⟨_,Z,_,Z,_,Z,_,Z,_,Z,i,b,m,bF,ov,M,pl,d,Z,bN,i11,rm,aM,rp,on,ro,odd,oY,λc dx H' e s'=>⟨Z,s',c,Z,e⟩⟩
  ·obtain⟨_,_,c,e,ec⟩:=h
   exact⟨c,e,iS ec⟩
  ·rintro C' ex dx σ' H' hl ⟨rfl,sm,c,eC,ec⟩ hex
   cases eC;have e1:(_L.upd H' ex (.ext (jW ex (.ref C') dx))) ex=some (.ext (jW ex (.ref C') dx)):=bp;have sn:=sm.trans (aA.new (o:=.ext (jW ex (.ref C') dx)) hex);obtain⟨kx,_,kv,_⟩:=tq hK ec;refine⟨_,Z,.inl ⟨ex,C',dx,.ty "ValueError",.type "ValueError",true,Z,e1,kx,Z,kv,?_⟩⟩;refine⟨_,Z,ba ?_⟩;refine⟨_,Z,C',dx,i,Z,e1,ec,λl H2 s2 m6=>?_⟩;refine⟨_,Z,bC Z,λl2 H3 n3=>?_⟩;refine .inr ⟨.list [.int (i:Nat)],.list [.int (i:Nat)],sG (aK.of (n3.same _ _ m6)) (bJ (cQ _) bW),sG (aK.of n3.at') (bJ (cQ _) bW),Z,Z,?_⟩;have:=k H3 (sn.trans (s2.trans n3.same));rw[show PyData.eqv (.list [.int (i:Nat)]) (.list [.int (i:Nat)])=true by simp[PyData.eqv,PyData.eqvAll]];exact this
end
open _T (numIn?)
section
variable {P:af}{w:World}{K:aa}{mg:bc}{au:Heap}
def Iw(K:aa):Sp:=λvs H Q _=>∃(a:Addr)(ns:List Int),vs=[.ref a]/\aK K H a (ns.map V.int)/\ns.length<=63/\∀H',Q (.bl true) H'
abbrev uP:Stmt:=top 134
theorem JI:bj ["_law_script","_law_at","_law_bag_here","_law_machine_here","_law_place_here","_law_odd","_law_which","_law_thing"] ["_law_script"] (aP uP):=bw aO
theorem VO{f:Addr}{fd:FuncData}(F:gq K "law" "law" uP f fd)(B:bE mg)(a1l:aG P w K mg au "_law_bag" 1 (II K))(a1j:aG P w K mg au "_law_machine" 2 (Iu K))(a1d:aG P w K mg au "_law_place" 2 (Il K))(a1i:aG P w K mg au "_law_menu" 2 (Ir K))(MR:aG P w K mg au "_law_refused" 15 (Ic K)):dS P w K mg au eM 16 f fd ["_law_script"] (Iw K):=by
 refine F.ok JI (λvs H Q E h=>?_) (λaE A0 outer s H vs Q E hr h=>?_)
 ·obtain⟨a,ns,rfl,_⟩:=h
  rfl
 ·obtain⟨a,ns,rfl,hS,hlen,k⟩:=h
  have nd:=JI.nd;have gW:sizeLine=16777216:=by decide
  refine⟨_,(aD (j7 iQ Z (sP Z (B.at "range") (ao (dF (x:="max") (a4f rfl) rfl (B.at "max") PyProof.Rows.boot_max (ao aF (ao (dF (x:="min") (Oc rfl) rfl (B.at "min") PyProof.Rows.boot_min (ao aF (ao (fm K B (ao (pv 0) ay)) ay))) ay))) ay)) (bu 1 nd) (aD (pS 2 nd (pf a1l hr (ao (pv 0) (ao (pv 1) ay)))) (aD (pS 3 nd (pf a1j hr (ao (pv 2) ay))) (aD (pS 4 nd (pf a1d hr (ao (pv 2) (ao (pv 3) ay)))) (aD (pS 5 nd (pf a1i hr (ao (pv 2) ay))) (aH (j7 iQ Z (sP Z (B.at "range") (ao aF ay)) (bu 6 nd) (aD (jm (pS 7 nd (gc (PW.pt (oB (bT (dR K Z hr.units) (pv 6) aF (bL _)) (sM (bT (inD K Z (hr.Hk)) (pv 5) (dE (ao (mV mJ aF) (ao (aW uY aF aF) ay))) (by with_unfolding_all rfl))))) hV (pv 5)))) (aD (bD (cE (bS (pf MR hr (ao (pv 6) (ao hW (ao (pv 3) (ao (pv 4) (ao (pv 7) ay)))))))) (aH (aZ hW)) bG) (aH (bD (cE (bS (pf MR hr (ao (pv 6) (ao hW (ao (pv 3) (ao (pv 4) (ao (pv 7) ay)))))))) (aH (aZ hW)) bG))))))))))) (aH (aZ hW))),?_⟩;refine⟨_,Z,a,_,Z,.inl hS,_,_,Z,_,_,Z,_,Z,?_,?_,?_⟩
  ·split<;>(try split)<;>lia
  ·split<;>(try split)<;>(try rw[bR])<;>lia
  have hN:(if(if((ns.map V.int).length:Int)<6 then((ns.map V.int).length:Int)else 6)>1 then(if((ns.map V.int).length:Int)<6 then((ns.map V.int).length:Int)else 6)else 1).toNat<=6:=by split<;>(try split)<;>lia
  refine vV (Pv:=λi O H2=>aA H H2/\∃v1 v2 v3 v4 v5 v6 v7,O=[some (.ref a),v1,v2,v3,v4,v5,v6,v7]) ?_ ?_ ?_
  ·exact⟨aA.refl _,none,none,none,none,none,none,none,Z⟩
  ·rintro i O H2 hi ⟨s2,v1,v2,v3,v4,v5,v6,v7,rfl⟩
   have hi8:i<6:=fK hi hN;refine⟨_,Z,_,Z,a,ns,_,Z,s2.seq hS,hlen,aw,aw,λp H3 np bg3 s3=>?_⟩;refine⟨_,Z,p,Z,bg3,λm rs r f' j t H4 rm aM b4=>?_⟩;refine⟨_,Z,_,Z,p,m,rs,r,f',j,t,Z,b4.eJ,rm,aM,λbF pl H5 rp on b5=>?_⟩;refine⟨_,Z,p,Z,b5.eJ,λov d H6 ro hd b6=>?_⟩;have ro:RD K H6 ov d:=RD.mono NS _ ro;have rm:RD K H6 m (bQ.D ⟨rs,r,f',j,t⟩):=RD.t (cg.t b4.eJ (b5.trans b6)) _ (kG _ _ _ _ _) rm;have rp:RD K H6 bF (eg pl):=RD.t (cg.t b5.eJ b6) _ (ky _) rp;have b36:=b4.trans (b5.trans b6);have Sh:aA H H6:=λx o e=>by
    have e2:=s2 _ _ e;have e3:=s3 _ _ e2;have hx:x≠p:=λz=>by rw[z,np]at e2;cases e2
    exact b36.same _ _ hx e3
   refine⟨11,Z,az,az,vV (Pv:=λi O H7=>aA H6 H7/\∃v1 v6 v7,O=[some (.ref a),v1,some (.ref p),some m,some bF,some ov,v6,v7]) ⟨aA.refl _,_,_,_,Z⟩ ?_ ?_⟩
   ·rintro w O H7 hw ⟨s7,v1,v6,v7,rfl⟩
    have hw:w<11:=hw;refine⟨λO H8=>∃tv d',O=[some (.ref a),v1,some (.ref p),some m,some bF,some ov,some (.int (0+(w:Int))),some tv]/\aA H7 H8/\RD K H8 tv d'/\zX d'/\(w=0->tE d'=false),?_,?_⟩
    ·refine⟨_,Z,.inl ⟨_,_,Z,Z,_,Z,?_⟩⟩
     have odd:=LJ hd;have r7:=RD.mono s7 _ ro;by_cases w0:w=0
     ·rw[cn (show(0+(w:Int))=0 by lia)]
      refine ba ⟨_,Z,_,Z,_,_,Z,Z,by unfold OY;decide+kernel,bC rfl,λl H8 n8=>?_⟩;refine⟨l,_,d,[.int (-1),.int (10^(39:Int).toNat)],Z,aK.of n8.at',RD.mono n8.same _ r7,bJ (cQ _) (bJ (cQ _) bW),odd.ok.shaped az,?_,_,Z,?_⟩
      ·intro e he
       simp only[bZ,dX,gs]at he;rcases he with rfl|rfl<;>rfl
      rw[show(if false=true then !([PyData.int (-1),.int (10^(39:Int).toNat)].any λe=>PyData.eqv e d)else([PyData.int (-1),.int (10^(39:Int).toNat)].any λe=>PyData.eqv e d))=([PyData.int (-1),.int (10^(39:Int).toNat)].any λe=>PyData.eqv e d)from bh cJ];cases hb:[PyData.int (-1),.int (10^(39:Int).toNat)].any λe=>PyData.eqv e d with |true=>exact ba ⟨.aY,.none,Z,n8.same,oA,LJ (.head _),λ_=>rfl⟩ |false=>
       refine aV ⟨_,Z,ov,d,Z,n8.same,RD.mono n8.same _ r7,odd,λ_=>?_⟩;rcases Xr d hd with h|rfl|rfl
       ·exact h
       ·exact absurd hb aO
       ·exact absurd hb aO
     ·rw[df (show¬(0+(w:Int))=0 by lia)]
      exact aV ⟨_,Z,ov,d,Z,aA.refl _,r7,odd,λz=>absurd z w0⟩
    ·rintro O H8 ⟨tv,d',rfl,s8,rt,odd,oY⟩
     have lO:=s7.trans s8;rw[Int.zero_add];refine⟨_,Z,_,Z,_,Z,_,Z,w,false,m,bF,tv,⟨rs,r,f',j,t⟩,pl,d',Z,hw,RD.mono lO _ rm,aM,RD.mono lO _ rp,on,rt,odd,oY,λH9 s9=>⟨_,Z,aV ?_⟩⟩;have Co:=lO.trans s9;refine⟨_,Z,_,Z,_,Z,_,Z,w,true,m,bF,tv,⟨rs,r,f',j,t⟩,pl,d',Z,hw,RD.mono Co _ rm,aM,RD.mono Co _ rp,on,RD.mono s9 _ rt,odd,oY,λjh iG=>⟨_,Z,aV ?_⟩⟩;exact⟨Co.trans iG,_,_,_,Z⟩
   ·rintro O H7 ⟨s7,v1,v6,v7,rfl⟩
    exact⟨Sh.trans s7,_,_,_,_,_,_,_,Z⟩
  ·rintro O H2 ⟨s2,v1,v2,v3,v4,v5,v6,v7,rfl⟩
   exact k H2
end
end _a
set_option maxHeartbeats 1000000
namespace _a
open PySem PySem.Spec PyProof.Rows _L
theorem kS{K:aa}{mg:bc}{h:Heap}{x:Str}{c:Addr}(X:K.In h)(G:h.Ns mainGlobals mg)(a:PySem.W.nsIn K mainGlobals x=some (some (.ref c))):GV mg x (.ref c):=⟨_,rL X G a,Z⟩
theorem nQ{K:aa}{mg:bc}{h:Heap}{x:Str}{c:Addr}{bm:List Value}{nw:String}(X:K.In h)(G:h.Ns mainGlobals mg)(a:PySem.W.nsIn K mainGlobals x=some (some (.ref c)))(q:PySem.W.excIn K c bm nw=true):Exc K mg x c bm nw:=⟨rL X G a,q⟩
theorem xM{K:aa}{C:Addr}{f:Str}(h:PySem.W.findIn K (.ref C) f=some none):PySem.W.takerIn K C f=some none:=by unfold PySem.W.takerIn;rw[h];rfl
structure zU(K:aa)(mg:bc)(X:CC)(i3 i6 i7:Addr):Prop where
 g:Exc K mg "GlideError" X.g cW dc
 n:Gs mg X
 e0:Exc K mg "NoFraction" X.c0 cW dc
 e1:Exc K mg "NoRate" X.c1 cW dc
 e2:Exc K mg "NoItem" X.c2 cW dc
 e4:Exc K mg "Full" X.c4 cW dc
 e5:Exc K mg "Moving" X.c5 cW dc
 e8:Exc K mg "NoMachine" X.c8 cW dc
 e9:Exc K mg "NoPlace" X.c9 cW dc
 Fy:Exc K mg "NoLine" X.c10 cW dc
 o:zW K mg X.c3 i3
 t:Gj K mg X.c6 i6
 x:Ge K mg X.c7 i7
 k:vt K X.g X.l=true
theorem a45{K:aa}{mg:bc}{h:Heap}{cG c0 c1 c2 c3 c4 c5 c6 c7 c8 c9 c10 i3 i6 i7:Addr}(X:K.In h)(G:h.Ns mainGlobals mg)(ag:PySem.W.nsIn K mainGlobals "GlideError"=some (some (.ref cG)))(qg:PySem.W.excIn K cG cW dc=true) (h0:PySem.W.nsIn K mainGlobals "NoFraction"=some (some (.ref c0)))(h1:PySem.W.nsIn K mainGlobals "NoRate"=some (some (.ref c1)))(h2:PySem.W.nsIn K mainGlobals "NoItem"=some (some (.ref c2)))(h3:PySem.W.nsIn K mainGlobals "OffRails"=some (some (.ref c3)))(h4:PySem.W.nsIn K mainGlobals "Full"=some (some (.ref c4)))(h5:PySem.W.nsIn K mainGlobals "Moving"=some (some (.ref c5)))(h6:PySem.W.nsIn K mainGlobals "NoTape"=some (some (.ref c6)))(h7:PySem.W.nsIn K mainGlobals "NoText"=some (some (.ref c7)))(h8:PySem.W.nsIn K mainGlobals "NoMachine"=some (some (.ref c8)))(h9:PySem.W.nsIn K mainGlobals "NoPlace"=some (some (.ref c9)))(h10:PySem.W.nsIn K mainGlobals "NoLine"=some (some (.ref c10)))(v:PySem.W.nsIn K mainGlobals "ValueError"=some none) (q0:PySem.W.excIn K c0 cW dc=true)(q1:PySem.W.excIn K c1 cW dc=true)(q2:PySem.W.excIn K c2 cW dc=true)(q4:PySem.W.excIn K c4 cW dc=true)(q5:PySem.W.excIn K c5 cW dc=true)(q8:PySem.W.excIn K c8 cW dc=true)(q9:PySem.W.excIn K c9 cW dc=true)(q10:PySem.W.excIn K c10 cW dc=true) (o:zW K mg c3 i3)(t:Gj K mg c6 i6)(x:Ge K mg c7 i7)(kb:vt K cG [c0,c1,c2,c3,c4,c5,c6,c7,c8,c9,c10]=true):∃X i3 i6 i7,zU K mg X i3 i6 i7:=⟨⟨cG,c0,c1,c2,c3,c4,c5,c6,c7,c8,c9,c10⟩,i3,i6,i7,⟨nQ X G ag qg,⟨kS X G h0,kS X G h1,kS X G h2,kS X G h3,kS X G h4,kS X G h5,kS X G h6,kS X G h7,kS X G h8,kS X G h9,kS X G h10,PySem.W.mg_none_of X G v⟩,nQ X G h0 q0,nQ X G h1 q1,nQ X G h2 q2,nQ X G h4 q4,nQ X G h5 q5,nQ X G h8 q8,nQ X G h9 q9,nQ X G h10 q10,o,t,x,kb⟩⟩
theorem zU.cls{K:aa}{mg:bc}{X:CC}{i3 i6 i7:Addr}(E:zU K mg X i3 i6 i7):∀c∈X.l,ClsAt K c:=by
 intro c hc;unfold CC.l at hc;simp only[bZ,dX,gs]at hc;rcases hc with rfl|rfl|rfl|rfl|rfl|rfl|rfl|rfl|rfl|rfl|rfl
 ·exact E.e0.cls
 ·exact E.e1.cls
 ·exact E.e2.cls
 ·exact E.o.e.cls
 ·exact E.e4.cls
 ·exact E.e5.cls
 ·exact E.t.e.cls
 ·exact E.x.e.cls
 ·exact E.e8.cls
 ·exact E.e9.cls
 ·exact E.Fy.cls
structure OX(K:aa)(mg:bc)(C D:Addr):Prop where
 tc:gm K C
 init:CA K mg C "Runner" "Runner.__init__" Bq
 XI:MA K C "place" "Runner.place" Bn
 XM:MA K C "leads_to" "Runner.leads_to" Bp
 XN:MA K C "is_held" "Runner.is_held" Bs
 XH:MA K C "stands" "Runner.stands" Bm
 XO:MA K C "is_halted" "Runner.is_halted" Br
 XQ:MA K C "feed" "Runner.feed" Bt
 XS:MA K C "entries" "Runner.entries" Bv
 XR:MA K C "entries_of_first" "Runner.entries_of_first" Bu
 XG:MA K C "steps_of_first" "Runner.steps_of_first" Bl
 XJ:MA K C "next_square" "Runner.next_square" Bo
 XT:MA K C "end_first" "Runner.end_first" Bw
 XU:MA K C "drop" "Runner.drop" Bx
 XF:MA K C "turn_rate" "Runner.turn_rate" Bk
 td:wK K D
 a3O:CA K mg D "Desk" "Desk.__init__" Ca
 say:MA K D "say" "Desk.say" Be
 Sd:MA K D "say_steps" "Desk.say_steps" Bf
structure All(w:World)(K:aa)(mg:bc):Prop where
 B:bE mg
 vS:GT K mg "NOUGHT" [.int 0,.int 1]
 a1F:GT K mg "SIDES" [.str "up",.str "down"]
 a1W:GT K mg "AXES" [.int 2,.int 3]
 a1N:GV mg "LONGEST_RAIL" (.int 100)
 a1T:GV mg "GREATEST_CHANGE" (.int 50)
 a1I:GV mg "MOST_TICKS" (.int 100)
 a1J:GV mg "MOST_STEPS" (.int 100)
 a1R:GV mg "GREATEST_SPEED" (.int 20)
 a1M:GV mg "LONGEST_WAIT" (.int 1000)
 a1O:GV mg "LONGEST_NAME" (.int 8)
 a1Q:GV mg "LEAST_RATE" (.int 10)
 a1S:GV mg "GREATEST_RATE" (.int 200)
 a1U:GV mg "FIRST_RATE" (.int 100)
 a1H:GV mg "MOST_WAITING" (.int 20)
 a1L:GV mg "MOST_ENTRIES" (.int 100)
 a1K:GV mg "MOST_ITEMS" (.int 20)
 N8:GV mg "NOT_DUE" (.int 1)
 a1G:GV mg "NO_BORDER" (.int 4)
 a1P:GV mg "LETTERS" (.str tZ)
 a1V:GV mg "FIGURES" (.str tP)
 ans:∃a,GD w K mg "ANSWERS" a/\PySem.W.nsIn K a "steps"=some none
 cls:∃X i3 i6 i7,zU K mg X i3 i6 i7
 dk:∃C D,OX K mg C D
 law:FA K mg "law" uP
 a2H:FA K mg "is_whole" BW
 a2G:FA K mg "is_whole_within" B7
 a2M:FA K mg "is_machine" C1
 a2K:FA K mg "is_place" BZ
 a2Z:FA K mg "are_rails" Cm
 a2P:FA K mg "is_item" C3
 a2S:FA K mg "ends" C8
 a2N:FA K mg "is_line" BV
 a2t:FA K mg "place_behind" Cg
 a2y:FA K mg "moved" BJ
 a2Y:FA K mg "are_steps" Ck
 a2I:FA K mg "is_short_item" BX
 a2L:FA K mg "is_name" C0
 Nk:FA K mg "fraction" yd
 a2s:FA K mg "plus" Bz
 a2r:FA K mg "plus_whole" BB
 a2z:FA K mg "minus" BL
 a2k:FA K mg "times" B9
 a2O:FA K mg "is_less" BO
 a2C:FA K mg "least" BP
 a2A:FA K mg "lowest_terms" BR
 a2V:FA K mg "common_divisor" Ce
 a2D:FA K mg "lead_of" BQ
 a2j:FA K mg "ways_of" B6
 a2o:FA K mg "stand_at" Bc
 a2m:FA K mg "step_rows" Bg
 a2x:FA K mg "nearest" BH
 a2U:FA K mg "corner_square" Cc
 Ni:FA K mg "top_square" yb
 a2J:FA K mg "is_rate" BU
 a2Q:FA K mg "greatest_turn" B8
 Nj:FA K mg "own_bounds" yc
 a2X:FA K mg "bound_between" Cf
 a2E:FA K mg "kept_by_fall" C5
 a2l:FA K mg "ticks_of" Ba
 a30:FA K mg "are_enough" C9
 a2n:FA K mg "step_entry" C7
 a2q:FA K mg "reach_behind_first" Bj
 a2p:FA K mg "read_items" Bi
 a2F:FA K mg "item_in" BS
 a2v:FA K mg "numbers_in" BG
 a2w:FA K mg "number_in" BI
 a2u:FA K mg "only_number" BC
 a2B:FA K mg "look" BN
 a2T:FA K mg "due_entries" Cb
 a2W:FA K mg "bounds_between" Cj
 a2R:FA K mg "fault_of_entry" C6
 a3c:FA K mg "_law_bag" Ci
 a31:FA K mg "_law_take" Bb
 a39:FA K mg "_law_machine" BM
 a33:FA K mg "_law_place" BA
 a3b:FA K mg "_law_classes" Cd
 a38:FA K mg "_law_menu" lN
 a34:FA K mg "_law_off" BD
 a3a:FA K mg "_law_full" C4
 a37:FA K mg "_law_moving" BK
 a36:FA K mg "_law_of_machines" BF
 a35:FA K mg "_law_of_texts" BE
 a32:FA K mg "_law_refused" Bh
theorem a4M{P:af}{w:World}{K:aa}{mg:bc}{au:Heap}{f:Addr}{fd:FuncData}(A:All w K mg)(F:gq K "law" "law" uP f fd):dS P w K mg au eM 16 f fd ["_law_script"] (Iw K):=by obtain⟨gA,GA,nA⟩:=A.ans;obtain⟨X,i3,i6,i7,E⟩:=A.cls;obtain⟨C,D,R⟩:=A.dk;have TC:=R.tc;have tk:aG P w K mg au "_law_take" 1 sx:=V5 A.a31 A.B;have cd:aG P w K mg au "common_divisor" 1 AS:=Wb A.a2V A.B;have lt:aG P w K mg au "lowest_terms" 2 sA:=VI A.a2A A.B cd;have iw:aG P w K mg au "is_whole" 1 (uJ K):=VP A.a2H A.B;have ww:aG P w K mg au "is_whole_within" 2 (lK K):=UY A.a2G A.B iw;have fn:aG P w K mg au "fraction" 3 (sy K):=W0 A.Nk A.B iw lt;have ld:aG P w K mg au "lead_of" 1 (oq K):=VN A.a2D A.B;have ls:aG P w K mg au "is_less" 1 (xX K):=VL A.a2O A.B;have cp:aG P w K mg au "corner_square" 6 (AU K):=W9 A.a2U A.B (V0 A.a2Q A.B (UZ A.a2j A.B ld fn) (VF A.a2z A.B lt) ls) fn;have DZ:aG P w K mg au "is_rate" 3 (uF K):=VR A.a2J A.B A.a1Q A.a1S ww;have tp:aG P w K mg au "top_square" 4 (sj K):=V2 A.Ni A.B DZ fn;have tD:aG P w K mg au "is_line" 1 (ou K):=VS A.a2N A.B;have lst:aG P w K mg au "least" 2 (mQ K):=VM A.a2C A.B ls;have Om:aG P w K mg au "bound_between" 7 (xY K):=Wc A.a2X A.B A.vS tD tp cp lst;have own:aG P w K mg au "own_bounds" 8 (AM K):=Vv A.Nj A.B A.vS Om;have pw:aG P w K mg au "plus_whole" 4 (xU K):=Vr A.a2r A.B (Vs A.a2s A.B lt);have nr:aG P w K mg au "nearest" 1 AO:=VC A.a2x A.B;have HJ:aG P w K mg au "stand_at" 2 (xR K):=V6 A.a2o A.B ld nr;have sr:aG P w K mg au "step_rows" 3 (xS K):=Vd A.a2m A.B ld HJ;have ent:aG P w K mg au "step_entry" 3 (AR K):=W4 A.a2n A.B (V4 A.a2l A.B (W6 A.a30 A.B));have DW:aG P w K mg au "is_item" 4 (uI K):=VX A.a2P A.B A.a1R ww (Wh A.a2Y A.B A.a1J ww) (VT A.a2I A.B A.a1M A.a1F ww (VV A.a2L A.B A.a1O A.a1P));have DX:aG P w K mg au "is_place" 3 (uK K):=VU A.a2K A.B ww;have LC:aG P w K mg au "moved" 1 (xW K):=VD A.a2y A.B;have zP:aG P w K mg au "place_behind" 2 (sC K):=We A.a2t A.B tD LC;have Qz:aG P w K mg au "times" 3 (pY (·*·) K):=V3 A.a2k A.B lt;have T8:aG P w K mg au "reach_behind_first" 9 (AJ K):=Vq A.a2q A.B (Vu A.Nj A.B A.vS Om) (W3 A.a2E A.B tD ld pw lst);have Kl:=Vi (P:=P) (w:=w) (mg:=mg) (au:=au) R.XN TC;have Kf:=Vb (P:=P) (w:=w) (au:=au) R.XH TC A.vS;have CH:=Vh R.XO TC Kl Kf;have SN:=Vf R.XM TC zP;have SJ:=Ve R.XJ TC pw Qz fn lst Kl;have ref:=Vn R.XT TC zP;have Sy:=Va R.XG TC A.B ld sr tp T8 ent CH SJ ref;have SU:=Vl R.XR TC tD Sy ref;have SW:=Vm R.XS TC A.B CH SU;have SH:=Vc R.XI TC LC HJ;have CI:=Vj (R:=X.rf i3) R.XQ TC A.B ⟨E.e2,E.o,E.e4,E.e5,E.e1⟩ A.a1H DW DX zP SN;have CK:=Vp R.XU TC A.B E.e5 CH SH;have Ke:=V9 R.XF TC E.e1 E.e5 DZ Kf;have yg:=Vg (P:=P) (w:=w) (au:=au) R.init TC A.vS A.a1U;have im:aG P w K mg au "is_machine" 4 (uL ij K):=VW A.a2M A.B A.a1I A.a1T ww (Wi A.a2Z A.B A.a1W A.a1N ww);have Dv:aG P w K mg au "number_in" 1 uH:=VB A.a2w A.B A.a1V;have WA:aG P w K mg au "numbers_in" 2 (AN K):=VA A.a2v A.B Dv;have YC:aG P w K mg au "item_in" 5 (AQ K):=VQ A.a2F A.B Dv WA DW;have Qy:=V1 A.Ni A.B E.e1 DZ;have frx:=VZ A.Nk A.B E.e0 iw;have a3r:=W5 A.a2S A.B E.o zP DX;have SX:=Vo A.a2p A.B E.x A.a1K YC;have Y3:=VJ A.a2B A.B E.t A.N8 A.a1G (W8 A.a2T A.B tD tp sr) (Wf A.a2W A.B own tD tp ld) (W2 A.a2R A.B A.N8 DW);have din:=W7 R.a3O R.td E.e8 E.e9 im DX yg;have RG:=V7 R.Sd A.B E.Fy A.a1L (Vw A.a2u A.B Dv) ww;have say:=V8 R.say R.td A.B GA nA E.Fy RG;have full:=VY A.a3a A.B TC yg CI;have Xh:=VE A.a37 A.B TC yg CI SW Ke CK;have Wn:=Vy A.a36 A.B TC frx Qy a3r yg CI Ke (Vz A.a34 A.B) full Xh;have Wm:=Vx A.a35 A.B R.td Y3 SX din say;have SR:=Vk A.a32 A.B E.g E.n E.cls E.k Wn Wm (Wa A.a3b A.B E.n E.k);exact VO F A.B (Wg A.a3c A.B) (VH A.a39 A.B tk) (Vt A.a33 A.B tk) (VG A.a38 A.B tk) SR
end _a
end
set_option maxHeartbeats 1000000
set_option exponentiation.threshold 6000
def PySem.W.Fast.tw10009900566304139865:PySem.Program:=PySem.Challenge.pw_glidequeue_k10_refusals_of_one_class
theorem PySem.W.Fast.te10009900566304139865:PySem.Challenge.pw_glidequeue_k10_refusals_of_one_class=PySem.W.Fast.tw10009900566304139865:=rfl
def PySem.W.Fast.tw466608020511191143:Nat:=0
def PySem.W.Fast.tw17782075113377539904:Nat:=0
def PySem.W.Fast.tw17207569613772818035:Nat:=0
def PySem.W.Fast.tw5188920551044781550:Nat:=0
def PySem.W.Fast.tw1645093411355508422:Nat:=0
def PySem.W.Fast.tw13628727196252989247:Nat:=0
def PySem.W.Fast.tw17218576818773544103:Nat:=0
def PySem.W.Fast.tw17382163857481792453:Nat:=0
def PySem.W.Fast.tw17599923412500059206:Nat:=0
def PySem.W.Fast.tw672921569295079038:Nat:=0
def PySem.W.Fast.tw17668785791014984986:Nat:=0
def PySem.W.Fast.tw12967476460438620541:Nat:=0
def PySem.W.Fast.tw2307193665164320929:Nat:=0
def PySem.W.Fast.tw6779798693284109243:Nat:=0
def PySem.W.Fast.tw13064633008532866963:Nat:=0
def PySem.W.Fast.tw4993762161865021078:Nat:=0
def PySem.W.Fast.tw8996425905696809231:Nat:=0
def PySem.W.Fast.tw12002956578559475275:Nat:=0
def PySem.W.Fast.tw16759549698816808646:Nat:=0
def PySem.W.Fast.tw15413253054239412830:Nat:=0
def PySem.W.Fast.tw13635122921320346005:Nat:=0
def PySem.W.Fast.tw7712171614399822272:Nat:=0
def PySem.W.Fast.tw2043590205512649114:Nat:=0
def PySem.W.Fast.tw3078909287326170121:Nat:=0
def PySem.W.Fast.tw2023808315300824151:Nat:=0
def PySem.W.Fast.tw16432372836568527542:Nat:=0
def PySem.W.Fast.tw12948133661809646969:Nat:=0
def PySem.W.Fast.tw6117376242077379442:Nat:=0
def PySem.W.Fast.tw5033371871935782047:Nat:=0
def PySem.W.Fast.tw8593192215405474541:Nat:=0
def PySem.W.Fast.tw2174940670661195797:Nat:=0
def PySem.W.Fast.tw14352295084752726664:Nat:=0
def PySem.W.Fast.tw6875260125129572858:Nat:=0
def PySem.W.Fast.tw6523476547652898646:Nat:=0
def PySem.W.Fast.tw6026644868976556373:Nat:=0
def PySem.W.Fast.tw5822119333249656533:Nat:=0
def PySem.W.Fast.tw14645995737157169372:Nat:=0
def PySem.W.Fast.tw5512771059475965228:Nat:=0
def PySem.W.Fast.tw3841332813302073465:Nat:=0
def PySem.W.Fast.tw12171603126141462933:Nat:=0
def PySem.W.Fast.tw7709708278430605404:Nat:=0
def PySem.W.Fast.tw4945073145212223957:Nat:=0
def PySem.W.Fast.tw11697102788719395623:Nat:=0
def PySem.W.Fast.tw11425947016431543888:Nat:=0
def PySem.W.Fast.tw6263182542986057875:Nat:=0
def PySem.W.Fast.tw2376766686374674697:Nat:=0
def PySem.W.Fast.tw3366177490831725326:Nat:=0
def PySem.W.Fast.tw9283581343815678756:Nat:=0
def PySem.W.Fast.tw7709088174826750419:Nat:=0
def PySem.W.Fast.tw14511179348555547089:Nat:=0
def PySem.W.Fast.tw18418069589821417007:Nat:=0
def PySem.W.Fast.tw6058318606849146786:Nat:=0
def PySem.W.Fast.tw3500824698384680494:Nat:=0
def PySem.W.Fast.tw4717973731341179032:Nat:=0
def PySem.W.Fast.tw11309464550512191492:Nat:=0
def PySem.W.Fast.tw9912360250846402992:Nat:=0
def PySem.W.Fast.tw15326073577359129804:Nat:=0
def PySem.W.Fast.tw6547864893041477676:Nat:=0
def PySem.W.Fast.tw17895670032298975095:Nat:=0
def PySem.W.Fast.tw3488604262397747247:Nat:=0
def PySem.W.Fast.tw6335776056706627265:Nat:=0
def PySem.W.Fast.tw16831055432304238008:Nat:=0
def PySem.W.Fast.tw14652191518869272003:Nat:=0
def PySem.W.Fast.tw14590520131683435318:Nat:=0
def PySem.W.Fast.tw2689868843416104550:Nat:=0
def PySem.W.Fast.tw17160081138337492428:Nat:=0
def PySem.W.Fast.tw7830786484245597426:Nat:=0
def PySem.W.Fast.tw17050401000043031817:Nat:=0
def PySem.W.Fast.tw11775345747566507477:Nat:=0
def PySem.W.Fast.tw11045969816440649559:Nat:=0
def PySem.W.Fast.tw15336640795387507674:Nat:=0
def PySem.W.Fast.tw5927828134181427682:Nat:=0
def PySem.W.Fast.tw6013093174494254402:Nat:=0
def PySem.W.Fast.tw5057605874623915530:Nat:=0
def PySem.W.Fast.tw4318915104837129511:Nat:=0
def PySem.W.Fast.tw11822326326819527391:Nat:=0
def PySem.W.Fast.tw17367485947631932128:Nat:=0
def PySem.W.Fast.tw7601818872930343701:Nat:=0
def PySem.W.Fast.tw560441409533336962:Nat:=0
def PySem.W.Fast.tw11584705002347493225:Nat:=0
def PySem.W.Fast.tw14401757822177587307:Nat:=0
def PySem.W.Fast.tw5415392923034327840:Nat:=0
def PySem.W.Fast.tw6292855661819718781:Nat:=0
def PySem.W.Fast.tw219570445113214135:Nat:=0
def PySem.W.Fast.tw1318465358081273388:Nat:=0
def PySem.W.Fast.tw207313719790853762:Nat:=0
def PySem.W.Fast.tw10664009438923774984:Nat:=0
def PySem.W.Fast.tw3124012114415750899:Nat:=0
def PySem.W.Fast.tw9186076285119611596:Nat:=0
def PySem.W.Fast.tw5806640307768544204:Nat:=0
def PySem.W.Fast.tw354946616486436512:Nat:=0
def PySem.W.Fast.tw1289984514672119734:Nat:=0
def PySem.W.Fast.tw12739075758848852009:Nat:=0
def PySem.W.Fast.tw9357151285371726260:Nat:=0
def PySem.W.Fast.tw14871820279935093683:Nat:=0
def PySem.W.Fast.tw9874378803333067231:Nat:=0
def PySem.W.Fast.tw13525887118442960439:Nat:=0
def PySem.W.Fast.tw847875506460037560:Nat:=0
def PySem.W.Fast.tw9335965904410170254:Nat:=0
def PySem.W.Fast.tw16898593781782359235:Nat:=0
def PySem.W.Fast.tw1419610463609092130:Nat:=0
def PySem.W.Fast.tw17244762312980975198:Nat:=0
def PySem.W.Fast.tw3200095619336784091:Nat:=0
def PySem.W.Fast.tw7359372068701101765:Nat:=0
def PySem.W.Fast.tw6967362322411268386:Nat:=0
def PySem.W.Fast.tw15799253254626971396:Nat:=0
def PySem.W.Fast.tw4516927930561581272:Nat:=0
def PySem.W.Fast.tw13479187189316784682:Nat:=0
def PySem.W.Fast.tw17832349096787135927:Nat:=0
def PySem.W.Fast.tw5890085873801487348:Nat:=0
def PySem.W.Fast.tw3505579798916083953:Nat:=0
def PySem.W.Fast.tw11078965018366239339:Nat:=0
def PySem.W.Fast.tw3242463707889050139:Nat:=0
def PySem.W.Fast.tw11587734558896398456:Nat:=0
def PySem.W.Fast.tw8862015686087163166:Nat:=0
def PySem.W.Fast.tw5517419647897719171:Nat:=0
def PySem.W.Fast.tw210467121893052636:Nat:=0
def PySem.W.Fast.tw14696094010466754725:Nat:=0
def PySem.W.Fast.tw14727408497561733588:Nat:=0
open PySem PySem.W PyProof.Rows
set_option maxRecDepth 100000 in
set_option maxHeartbeats 0 in
theorem PySem.Challenge.cw_glidequeue_k10_refusals_of_one_class_holds : PySem.Challenge.rw_glidequeue_k10_refusals_of_one_class.Holds := by
 w_on; o_law; k_head; (case hw=>w_witness2)
 k_fill
 refine _L.Yp (l:=PySem.Challenge.rw_glidequeue_k10_refusals_of_one_class) (k:=16) (x:="_law_script") (st:=_a.uP) rfl rfl ⟨rfl,by decide,by decide⟩ (fun w h Y=>PySem.W.kIn_of Y) _a.All ?F (fun _ _ _ A=>A.law) (fun _ _ _ _ _ _ _=>rfl) (fun _ _ _ _ _ _ _ A F=>_a.a4M A F)
 case F=>
  intro w mg h KX G
  refine⟨_L.a4s KX G ?b,?t1,?t2,?t3,?gi0,?gi1,?gi2,?gi3,?gi4,?gi5,?gi6,?gi7,?gi8,?gi9,?gi10,?gi11,?gi12,?gi13,?gi14,?gs0,?gs1,?an,?cl,?dk,?fl,?ff0,?ff1,?ff2,?ff3,?ff4,?ff5,?ff6,?ff7,?ff8,?ff9,?ff10,?ff11,?ff12,?ff13,?ff14,?ff15,?ff16,?ff17,?ff18,?ff19,?ff20,?ff21,?ff22,?ff23,?ff24,?ff25,?ff26,?ff27,?ff28,?ff29,?ff30,?ff31,?ff32,?ff33,?ff34,?ff35,?ff36,?ff37,?ff38,?ff39,?ff40,?ff41,?ff42,?ff43,?ff44,?ff45,?ff46,?ff47,?ff48,?ff49,?ff50,?ff51,?ff52,?ff53,?ff54,?ff55,?ff56,?ff57,?ff58⟩
  case b=>(unfold _L.zO; repeat (refine _L.pL.cons ?z ?_; (case z=>k_is))); exact _L.pL.nil
  case t1=>refine' _L.EV KX G ?a ?l ?z ?r; (case a=>k_is); (case l=>k_is); (case z=>decide); (case r=>exact .cons ⟨_,rfl⟩ (.cons ⟨_,rfl⟩ .nil))
  case t2=>refine' _L.EV KX G ?a ?l ?z ?r; (case a=>k_is); (case l=>k_is); (case z=>decide); (case r=>exact .cons ⟨_,rfl⟩ (.cons ⟨_,rfl⟩ .nil))
  case t3=>refine' _L.EV KX G ?a ?l ?z ?r; (case a=>k_is); (case l=>k_is); (case z=>decide); (case r=>exact .cons ⟨_,rfl⟩ (.cons ⟨_,rfl⟩ .nil))
  case gi0=>(refine' _L.iJ KX G ?z; (case z=>k_is))
  case gi1=>(refine' _L.iJ KX G ?z; (case z=>k_is))
  case gi2=>(refine' _L.iJ KX G ?z; (case z=>k_is))
  case gi3=>(refine' _L.iJ KX G ?z; (case z=>k_is))
  case gi4=>(refine' _L.iJ KX G ?z; (case z=>k_is))
  case gi5=>(refine' _L.iJ KX G ?z; (case z=>k_is))
  case gi6=>(refine' _L.iJ KX G ?z; (case z=>k_is))
  case gi7=>(refine' _L.iJ KX G ?z; (case z=>k_is))
  case gi8=>(refine' _L.iJ KX G ?z; (case z=>k_is))
  case gi9=>(refine' _L.iJ KX G ?z; (case z=>k_is))
  case gi10=>(refine' _L.iJ KX G ?z; (case z=>k_is))
  case gi11=>(refine' _L.iJ KX G ?z; (case z=>k_is))
  case gi12=>(refine' _L.iJ KX G ?z; (case z=>k_is))
  case gi13=>(refine' _L.iJ KX G ?z; (case z=>k_is))
  case gi14=>(refine' _L.iJ KX G ?z; (case z=>k_is))
  case gs0=>(refine' _L.N1 KX G ?z; (case z=>k_is))
  case gs1=>(refine' _L.N1 KX G ?z; (case z=>k_is))
  case an=>
   refine' ⟨_,_L.a1A KX G ?ga ?gl ?gk ?go,?na0⟩
   case ga=>k_is
   case gl=>k_is
   case go=>decide
   case gk=>
    show KeysLit _ (_::_)
    repeat (first | exact trivial | refine And.intro ⟨_,_,rfl,rfl⟩ ?_)
   case na0=>k_is
  case cl=>
   refine' _a.a45 KX G ?ag ?qg ?h0 ?h1 ?h2 ?h3 ?h4 ?h5 ?h6 ?h7 ?h8 ?h9 ?h10 ?vv ?q0 ?q1 ?q2 ?q4 ?q5 ?q8 ?q9 ?q10 ⟨_L.FL KX G ?h3 ?oq1,?oi1,⟨?ox1,?ox2,_a.xM ?ox3,?ox4⟩,?off,_,_L.tO ?ol ?oc ?okk⟩ ⟨_L.FL KX G ?h6 ?tq1,?ti1,⟨?tx1,?tx2,_a.xM ?tx3,?tx4⟩,⟨?tx1,?tx2,_a.xM ?ty3,?tx4⟩,?tff,_,_L.tO ?tl ?tc ?tkk⟩ ⟨_L.FL KX G ?h7 ?xq1,?xi1,⟨?xx1,?xx2,_a.xM ?xx3,?xx4⟩,?xff,_,_L.tO ?xl ?xc ?xkk⟩ ?kb
   case ag | h0 | h1 | h2 | h3 | h4 | h5 | h6 | h7 | h8 | h9 | h10 | vv=>k_is
   case oi1 | ox1 | ox3 | ox4 | ol | oc | okk=>k_is
   case ti1 | tx1 | tx3 | tx4 | tl | tc | tkk | ty3=>k_is
   case xi1 | xx1 | xx3 | xx4 | xl | xc | xkk=>k_is
   case qg | q0 | q1 | q2 | q4 | q5 | q8 | q9 | q10=>k_exc
   case oq1=>kernel_rfl
   case ox2=>kernel_rfl
   case off=>kernel_rfl
   case tq1=>kernel_rfl
   case tx2=>kernel_rfl
   case tff=>kernel_rfl
   case xq1=>kernel_rfl
   case xx2=>kernel_rfl
   case xff=>kernel_rfl
   case kb=>kernel_rfl
  case dk=>
   refine' ⟨_,_,_a.OX.mk (_a.gm.mk (_L.gH.mk ?pg ?hd ?po ?sa) ?n1 ?n2 ?n3 ?n4 ?n5 ?n6 ?n7 ?n8 ?n9) (_L.Oe KX G ?aC ?mk ?kc ?ia ?iii ?il ?ic ?ik) (_L.iH ?a0 ?i0 ?l0 ?c0 ?k0) (_L.iH ?a1 ?i1 ?l1 ?c1 ?k1) (_L.iH ?a2 ?i2 ?l2 ?c2 ?k2) (_L.iH ?a3 ?i3 ?l3 ?c3 ?k3) (_L.iH ?a4 ?i4 ?l4 ?c4 ?k4) (_L.iH ?a5 ?i5 ?l5 ?c5 ?k5) (_L.iH ?a6 ?i6 ?l6 ?c6 ?k6) (_L.iH ?a7 ?i7 ?l7 ?c7 ?k7) (_L.iH ?a8 ?i8 ?l8 ?c8 ?k8) (_L.iH ?a9 ?i9 ?l9 ?c9 ?k9) (_L.iH ?a10 ?i10 ?l10 ?c10 ?k10) (_L.iH ?a11 ?i11 ?l11 ?c11 ?k11) (_L.iH ?a12 ?i12 ?l12 ?c12 ?k12) (_a.wK.mk (_L.gH.mk ?dpg ?dhd ?dpo ?dsa) ?d1 ?d2) (_L.Oe KX G ?daC ?dmk ?dkc ?dia ?dii ?dil ?dic ?dik) (_L.iH ?sa0 ?si0 ?sl0 ?sc0 ?sk0) (_L.iH ?sa1 ?si1 ?sl1 ?sc1 ?sk1)⟩
   (case aC=>k_is)
   (case daC=>k_is)
   case n1 | n2 | n3 | n4 | n5 | n6 | n7 | n8 | n9 | d1 | d2=>(unfold _L.gp; k_is)
   case pg | hd | po | sa | mk | kc | ia | iii | il | ic | ik | dpg | dhd | dpo | dsa | dmk | dkc | dia | dii | dil | dic | dik | sa0 | si0 | sl0 | sc0 | sk0 | sa1 | si1 | sl1 | sc1 | sk1 | a0 | i0 | l0 | c0 | k0 | a1 | i1 | l1 | c1 | k1 | a2 | i2 | l2 | c2 | k2 | a3 | i3 | l3 | c3 | k3 | a4 | i4 | l4 | c4 | k4 | a5 | i5 | l5 | c5 | k5 | a6 | i6 | l6 | c6 | k6 | a7 | i7 | l7 | c7 | k7 | a8 | i8 | l8 | c8 | k8 | a9 | i9 | l9 | c9 | k9 | a10 | i10 | l10 | c10 | k10 | a11 | i11 | l11 | c11 | k11 | a12 | i12 | l12 | c12 | k12=>k_is
  all_goals (refine' _L.a2i KX G ?a ?l ?c ?k; (case a=>k_is); (case l=>k_is); (case c=>k_is); (case k=>k_is))
#print axioms PySem.Challenge.cw_glidequeue_k10_refusals_of_one_class_holds
