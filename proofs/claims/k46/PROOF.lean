import PyProof.Rows.All
import Wide.All
import OpenK.AllK
import Wide.FinOn
import Lean
import PyProof.EqAt
import PyProof.EqKinds
import PyProof.TupleCall
import PySem.Challenge.RW_glidequeue_k46_whole_tapes_of_runners
set_option Elab.async false
set_option linter.all false
set_option maxRecDepth 100000
abbrev bV:=PySem.Str->Option PySem.Value
theorem aB{p:Prop}(h:p:=by decide):p:=h
theorem aQ{p:Prop}(h:p:=by decide+kernel):p:=h
theorem aw {p:Prop} (h:p:=by lia):p:=h
theorem cj{p:Prop}(h:p:=by omega):p:=h
theorem Z {α : Sort _} {a : α}:a=a:=rfl
abbrev ag:=PySem.W.Frag
abbrev ah:=PySem.Shared
abbrev ai:=PySem.Program
abbrev aj:=PySem.PyData
abbrev ak:=PySem.Around
abbrev aP:=@PySem.wpAny_bind
abbrev bf:=@Nat.le_refl
abbrev bo:=@if_pos
abbrev bu:=@List.getElem?_eq_getElem
abbrev bB:=@if_neg
abbrev bL:=@List.length_map
abbrev bX:=@List.getElem?_map
abbrev cg:=@PySem.wpAny_pure
abbrev cm:=@decide_eq_true
abbrev cv:=@List.getElem?_eq_some_iff
abbrev cy:=@Rat.le_trans
abbrev cA:=@PySem.Heap.lt_size
abbrev cC:=@PySem.intBits_le_64
abbrev cE:=@List.length_append
abbrev cF:=@PySem.Heap.get?_push_of_some
abbrev dh:=@List.mem_cons
abbrev dF:=@decide_eq_false
abbrev dY:=@List.size_toArray
abbrev eO:=@Option.some.inj
abbrev eQ:=@Nat.ne_of_lt
abbrev fe:=@PySem.PassesOwn.never
abbrev fh:=@PyProof.Rows.boot_tuple
abbrev fj:=@PySem.Heap.get?_push_size
abbrev fy:=@Int.pow_succ
abbrev fF:=@List.mem_singleton
abbrev fG:=@Bool.and_eq_true
abbrev fN:=@beq_iff_eq
abbrev fO:=@Nat.lt_of_lt_of_le
abbrev fU:=@PySem.wpAny_mono
abbrev fV:=@List.not_mem_nil
abbrev fW:=@List.mem_map
abbrev gj:=@List.mem_of_getElem?
abbrev gk:=@List.mem_append_right
abbrev gm:=@Int.natAbs_mul
abbrev gH:=@Nat.zero_le
abbrev gI:=@Int.le_refl
abbrev gU:=@Nat.le_trans
abbrev gW:=@List.all_eq_true
abbrev gX:=@Int.mul_pos
abbrev iy:=@PySem.IntMulOk.of_bits
abbrev iI:=@Rat.le_refl
abbrev iV:=@PyProof.Rows.boot_list
abbrev iW:=@Int.mul_nonneg
abbrev iX:=@Bool.false_ne_true
abbrev jb:=@or_false
abbrev jc:=@of_decide_eq_true
abbrev jd:=@List.map_append
abbrev je:=@List.length_take
abbrev jx:=@PySem.wpAny_field
abbrev jy:=@Ne.symm
abbrev jz:=@List.mem_append
abbrev jP:=@List.lookup_cons
abbrev jQ:=@List.length_cons
abbrev kx:=@List.take_succ
abbrev ky:=@Int.one_mul
abbrev kz:=@Bool.true_and
abbrev kY:=@List.length_range
abbrev kZ:=@List.getElem?_append_left
abbrev lg:=@Int.pow_zero
abbrev lj:=@Bool.false_and
abbrev m8:=@List.getElem?_eq_none
abbrev m9:=@List.getElem?_append_right
abbrev oE:=@PySem.wpAny_newObj_type
abbrev oF:=@Rat.not_lt
abbrev oG:=@Nat.mul_le_mul
abbrev oH:=@List.length_drop
abbrev oJ:=@List.getElem?_range
abbrev oK:=@Int.emod_nonneg
abbrev oM:=@Bool.eq_iff_iff
abbrev qy:=@PySem.wpAny_truthy_bool
abbrev qz:=@PyProof.Rows.boot_abs
abbrev qA:=@Nat.pow_le_pow_right
abbrev qB:=@List.replicate_succ
abbrev qC:=@List.append_nil
abbrev qD:=@PySem.Heap.size_push
abbrev sT:=@Rat.num_divInt_den
abbrev sW:=@PyProof.Rows.boot_str
abbrev sX:=@PyProof.Rows.boot_all
abbrev sY:=@List.getElem?_drop
abbrev sZ:=@List.any_eq_true
abbrev t7:=@Int.emod_lt_of_pos
abbrev vk:=@PySem.wpAny_standAt
abbrev vm:=@PySem.wpAny_seqItems
abbrev vn:=@if_true
abbrev vo:=@List.mem_iff_getElem?
abbrev vp:=@List.length_set
abbrev vq:=@List.getElem_range
abbrev xq:=@PySem.wpAny_passesOwn
abbrev xu:=@PySem.wpAny_of_eq
abbrev xx:=@Rat.intCast_le_intCast
abbrev xy:=@Rat.divInt_nonneg_iff_of_pos_right
abbrev xA:=@PyProof.Rows.boot_int
abbrev xB:=@Nat.lt_of_le_of_lt
abbrev xC:=@List.take_of_length_le
abbrev xD:=@List.take_length
abbrev xE:=@List.mem_cons_of_mem
abbrev xF:=@List.length_replicate
abbrev xG:=@List.getElem_mem
abbrev xH:=@List.foldl_append
abbrev xI:=@Int.mul_assoc
abbrev A9:=@PySem.wpAny_setField_rec
abbrev Aa:=@PySem.wpAny_rule
abbrev Ab:=@PySem.wpAny_holding
abbrev Ac:=@PySem.call_meets
abbrev Ad:=@Rat.le_of_lt
abbrev Ae:=@Rat.add_zero
abbrev Af:=@PySem.W.mg_of
abbrev Ag:=@PyProof.Rows.callWith_type1
abbrev Ah:=@Nat.sub_self
abbrev Ai:=@Nat.lt_succ_of_lt
abbrev Aj:=@Nat.lt_irrefl
abbrev Ak:=@List.of_mem_zip
abbrev Al:=@List.mem_of_mem_take
abbrev Am:=@List.map_set
abbrev An:=@List.map_cons
abbrev Ao:=@List.length_pos_iff
abbrev Ap:=@List.getElem?_take
abbrev Aq:=@List.getElem?_set_self
abbrev As:=@List.ext_getElem?
abbrev Au:=@Int.zero_mul
abbrev Av:=@PySem.Heap.get?_update_other
abbrev Aw:=@Bool.eq_false_iff
abbrev Ax:=@Array.length_toList
abbrev CP:=@PySem.wpAny_setField
abbrev CQ:=@PySem.wpAny_pyIter_list
abbrev CS:=@PySem.wpAny_onRaise
abbrev CT:=@PySem.wpAny_execs_nil
abbrev CU:=@PySem.wpAny_call_entry
abbrev CV:=@PySem.wpAny_callSpecial?_slot
abbrev CW:=@PySem.codeAny_mono
abbrev CY:=@Rat.lt_iff
abbrev CZ:=@Rat.le_antisymm
abbrev D5:=@Rat.intCast_mul
abbrev D6:=@PySem.mem_of_lookup
abbrev D7:=@Option.map_eq_some_iff
abbrev D8:=@PySem.Obj.data_mapFields
abbrev D9:=@Nat.ne_of_gt
abbrev De:=@List.length_eq_zero_iff
abbrev Df:=@List.flatten_cons
abbrev Dg:=@List.append_assoc
abbrev Dh:=@List.any_cons
abbrev Di:=@Int.mul_le_mul
abbrev Dj:=@Int.le_of_lt
abbrev JK:=@PySem.wpAny_execs_cons
abbrev JL:=@PySem.wpAny_Call_Name_kw
abbrev JM:=@decide_eq_true_iff
abbrev JN:=@decide_eq_true_eq
abbrev JO:=@beq_self_eq_true
abbrev JP:=@beq_eq_false_iff_ne
abbrev JQ:=@Std.lt_of_le_of_ne
abbrev JR:=@Rat.num_nonneg
abbrev JS:=@Rat.num_intCast
abbrev JT:=@Rat.intCast_lt_intCast
abbrev JU:=@Rat.den_intCast
abbrev JV:=@PySem.F.slot_zip_next
abbrev JW:=@PySem.F.slot_tuple_iterator_next
abbrev JX:=@PyProof.Rows.boot_max
abbrev JY:=@Option.mem_toList
abbrev JZ:=@Nat.lt_succ_iff_lt_or_eq
abbrev K0:=@Nat.lt_or_ge
abbrev K1:=@Nat.le_of_lt
abbrev K2:=@Nat.add_comm
abbrev K3:=@List.set_set
abbrev K4:=@List.nodup_cons
abbrev K5:=@List.mem_of_mem_drop
abbrev K6:=@List.mem_cons_self
abbrev K7:=@List.mem_append_left
abbrev K8:=@List.getElem?_zip_eq_some
abbrev K9:=@List.getElem?_set_ne
abbrev Ka:=@List.getElem?_replicate
abbrev Kb:=@List.getD_eq_getElem?_getD
abbrev Kc:=@List.forIn_cons
abbrev Kd:=@List.all_cons
abbrev Ke:=@Int.mul_zero
abbrev Kf:=@Int.mul_ne_zero
abbrev Kg:=@Int.mul_le_mul_of_nonneg_left
abbrev Kh:=@Int.mul_comm
abbrev Ki:=@Int.lt_or_le
abbrev Kj:=@PySem.Heap.get?_update_self
abbrev Kk:=@Bool.and_true
abbrev TV:=@PySem.wpAny_updateSeq_pair
abbrev TX:=@PySem.wpAny_pyIter_rangeiter
abbrev TY:=@PySem.wpAny_newFunctionEnv
abbrev TZ:=@PySem.wpAny_comprehension_free
abbrev U0:=@PySem.codeAny_compStart_list
abbrev U5:=@Rat.le_of_mul_le_mul_right
abbrev U6:=@Rat.divInt_sub_divInt
abbrev U7:=@Rat.add_le_add_right
abbrev U8:=@PySem.W.plainGet_of
abbrev U9:=@PySem.W.cellsFrom_some
abbrev Ua:=@PySem.W.callWith_K
abbrev Ub:=@PySem.Str.cps_append
abbrev Uc:=@PySem.F.plainAttrs_list
abbrev Ud:=@PyProof.Rows.slot_tuple_getitem
abbrev Ue:=@PyProof.Rows.boot_min
abbrev Ug:=@PyProof.Rows.boot_any
abbrev Uh:=@PySem.Obj.isFreed_of_fields
abbrev Ui:=@Nat.lt_succ_self
abbrev Uj:=@List.mem_iff_getElem
abbrev Uk:=@List.getLast?_eq_getElem?
abbrev Ul:=@List.filterMap_cons
abbrev Um:=@Int.toNat_natCast
abbrev Uo:=@Int.mul_nonneg_of_nonpos_of_nonpos
abbrev Up:=@Int.mul_le_mul_of_nonneg_right
abbrev Uq:=@Int.lt_trichotomy
abbrev Ur:=@Int.fdiv_eq_ediv_of_nonneg
abbrev Us:=@PySem.F.slot_range_reversed
abbrev Ut:=@Bool.not_eq_true'
abbrev Uu:=@Array.toList_append
abbrev Uv:=@Array.getElem?_eq_some_iff
abbrev aaZ:=@PySem.F.entry_tuple_iterator_next
abbrev ab0:=@PySem.F.args_tuple_iterator_next_1
abbrev ab1:=@List.drop_append_of_le_length
abbrev ab2:=@Array.all_eq_true_iff_forall_mem
namespace L2
open PySem PySem.Spec PyProof.Rows
abbrev Key:=Sum Int Str
def PK:Key->Value->Bool | .inl k,v=>Value.isInt k v | .inr x,v=>Value.isStrOf x v
def a2o(w:World):Key->Int | .inl k=>hashInt k | .inr x=>hashStr w x
theorem pG:∀{k:Key}{v:Value},PK k v=true->(∃i t,k=Sum.inl i/\v=Value.int i t)\/(∃x t,k=Sum.inr x/\v=Value.str x t) | .inl i,v,h=>by obtain⟨t,e⟩:=Value.isInt_shape (k:=i) (v:=v) h;exact .inl ⟨i,t,Z,e⟩ | .inr x,v,h=>by obtain⟨t,e⟩:=Value.isStrOf_shape (x:=x) (v:=v) h;exact .inr ⟨x,t,Z,e⟩
theorem a2n(a b:Int):decide ((Sum.inl a:Key)=Sum.inl b)=(a==b):=by
 by_cases e:a=b
 ·subst e;simp
 ·have h:¬(Sum.inl a:Key)=Sum.inl b:=λq=>e (Sum.inl.inj q)
  rw[dF h];exact(JP.mpr e).symm
theorem a2k(a b:Str):decide ((Sum.inr a:Key)=Sum.inr b)=decide (a=b):=by
 by_cases e:a=b
 ·subst e;simp
 ·have h:¬(Sum.inr a:Key)=Sum.inr b:=λq=>e (Sum.inr.inj q)
  rw[dF h,dF e]
theorem a2m(a:Int)(b:Str):decide ((Sum.inl a:Key)=Sum.inr b)=false:=dF (λq=>nomatch q)
theorem a2l(a:Str)(b:Int):decide ((Sum.inr a:Key)=Sum.inl b)=false:=dF (λq=>nomatch q)
def GC(prog:ai)(w:World):PySem.KeyKind prog w Key where
 is:=PK
 hash:=a2o w
 inj:=λv a b ha hb=>by
  rcases pG ha with⟨i,t,rfl,rfl⟩|⟨x,t,rfl,rfl⟩
  ·rcases pG hb with⟨j,u,rfl,e⟩|⟨y,u,rfl,e⟩
   ·injection e with e1 _;rw[e1]
   ·exact nomatch e
  ·rcases pG hb with⟨j,u,rfl,e⟩|⟨y,u,rfl,e⟩
   ·exact nomatch e
   ·injection e with e1 _;rw[e1]
 byValue:=λk v h=>by rcases pG h with⟨i,t,rfl,rfl⟩|⟨x,t,rfl,rfl⟩<;>rfl
 pyHash:=λhv h=>by
  rcases pG hv with⟨i,t,rfl,rfl⟩|⟨x,t,rfl,rfl⟩
  ·exact wpAny_pyHash_int h
  ·exact wpAny_pyHash_str h
 eqBool:=λhu hv h=>by
  rcases pG hu with⟨i,t,rfl,rfl⟩|⟨x,t,rfl,rfl⟩
  ·rcases pG hv with⟨j,u,rfl,rfl⟩|⟨y,u,rfl,rfl⟩
   ·rw[a2n]at h;exact wpAny_eqBool_int h
   ·rw[a2m]at h;exact SeqAt.EqAt.int_str i t y u _ _ _ _ h
  ·rcases pG hv with⟨j,u,rfl,rfl⟩|⟨y,u,rfl,rfl⟩
   ·rw[a2l]at h;exact SeqAt.EqAt.str_int x t j u _ _ _ _ h
   ·rw[a2k]at h;exact wpAny_eqBool_str h
 «strs»:=λk x t v h=>by
  rcases pG h with⟨i,u,rfl,e⟩|⟨y,u,rfl,e⟩
  ·exact nomatch e
  ·injection e with e1 _
   subst e1;cases v<;>rfl
inductive V where |bN|bl (b:Bool)|int (i:Int)|str (x:Str)|wZ (b:Array UInt8)|Ci (b:UInt64)|ref (a:Addr)|ty (n:String) deriving DecidableEq
def RelV:V->Value->Prop | .bN,u=>u=Value.none | .bl b,u=>u=Value.bool b | .int i,u=>∃t,u=Value.int i t | .str x,u=>∃t,u=Value.str x t | .wZ b,u=>∃t,u=Value.bytes b t | .Ci b,u=>∃t,u=Value.float b t | .ref a,u=>u=Value.ref a | .ty n,u=>u=Value.type n
abbrev Vals:List V->List Value->Prop:=Paired RelV
theorem Vals.length{xs:List V}{us:List Value}(r:Vals xs us):xs.length=us.length:=Paired.length r
theorem Vals.get:∀{xs:List V}{us:List Value}{i:Nat}{x:V},Vals xs us->xs[i]? =some x->∃u,us[i]? =some u/\RelV x u |_,_,_,_,.nil,e=>by simp at e |_,_,0,_,.cons r _,e=>by simp at e;subst e;exact⟨_,rfl,r⟩ |_,_,i+1,x,.cons _ t,e=>by obtain⟨u,h1,h2⟩:=Vals.get (i:=i) (x:=x) t (by simpa using e);exact⟨u,by simpa using h1,h2⟩
theorem Vals.set{x:V}{u:Value}(r:RelV x u):∀{xs:List V}{us:List Value}(i:Nat),Vals xs us->Vals (xs.set i x) (us.set i u) |_,_,_,.nil=>.nil |_,_,0,.cons _ t=>.cons r t |_,_,i+1,.cons q t=>.cons q (Vals.set r i t)
theorem Vals.append:∀{xs ys:List V}{us ws:List Value},Vals xs us->Vals ys ws->Vals (xs++ys) (us++ws) |_,_,_,_,.nil,s=>s |_,_,_,_,.cons r t,s=>.cons r (Vals.append t s)
theorem Vals.take:∀{xs:List V}{us:List Value}(n:Nat),Vals xs us->Vals (xs.take n) (us.take n) |_,_,0,_=>.nil |_,_,_+1,.nil=>.nil |_,_,n+1,.cons r t=>.cons r (Vals.take n t)
theorem Vals.drop:∀{xs:List V}{us:List Value}(n:Nat),Vals xs us->Vals (xs.drop n) (us.drop n) |_,_,0,r=>r |_,_,_+1,.nil=>.nil |_,_,n+1,.cons _ t=>Vals.drop n t
def ow:Option V->Option Value->Prop |some v,some u=>RelV v u |none,none=>True |_,_=>False
def KV{κ:Type}:List (κ×V)->List (κ×Value)->Prop:=Paired λ(p:κ×V)(q:κ×Value)=>p.1=q.1/\RelV p.2 q.2
def kV:Key->V | .inl i=>.int i | .inr x=>.str x
inductive HO where /--a list -/ |lst (xs:List V) /--a tuple (never changes) -/ |tup (xs:List V) /--a dict UE keys are ints and texts; one UE keys are tuples of ints and texts (vv empty one is both) -/ |dK (eY:List (Key×V))|dT (eY:List (List Key×V)) /--a set of ints: its members,its size -/ |set (S:Int->Bool)(n:Nat) /--an instance of vv class at C,its dict at dx,its attributes -/ |ins (C dx:Addr)(fs:List (Str×V)) /--vv dict of vv instance at x -/ |own (x:Addr) /--vv dict of an exception -/ |xd (fs:List (Str×V)) /--a bound method,f of x -/ |met (f x:Addr) /--a range object lo,lo+1,.. below hi -/ |vN (lo hi:Int) /--a Vl abb is known to vv object (vv abe; a dict while a loop walks it): read,never written while it is so -/ |nZ (o:Obj)(u:HO) /--a code abq table -/ |qH (ps:Array Value) /--any other Vl,by what is true of its one object (a def of abp own: aco a S n:=HO.ext λh=>..) -/ |ext (φ:Heap->Prop)
abbrev Hp:=Addr->Option HO
def upd(H:Hp)(a:Addr)(o:HO):Hp:=λb=>if b=a then some o else H b
theorem bQ{H:Hp}{a:Addr}{o:HO}:upd H a o a=some o:=by unfold upd;rw[bo rfl]
theorem aV{H:Hp}{a b:Addr}{o:HO}(h:b≠a):upd H a o b=H b:=by unfold upd;rw[bB h]
theorem yF{H:Hp}{a b:Addr}{o u:HO}(h:H a=some o)(h':H b=some u)(d:o≠u):a≠b:=by intro e;subst e;rw[h]at h';exact d (eO h')
theorem dU{H:Hp}{a b:Addr}{o:HO}(h:H a=some o)(h':H b=none):a≠b:=by intro e;subst e;rw[h]at h';cases h'
section
variable (P:ai) (w:World)
def jv(H:Hp)(h:Heap)(a:Addr):HO->Prop | .lst xs=>xs.length<=sizeLine/\∃(its:List Value)(n:Nat),Vals xs its/\h.get? a=some {cls:=.type "list",data:=.seq its.toArray n} | .tup xs=>xs.length<=sizeLine/\∃its:List Value,Vals xs its/\IsTup h a its.toArray | .dK eY=>eY.length<=sizeLine/\(a==sysModules)=false/\∃vs,KV eY vs/\h.DictOf (GC P w) a vs | .dT eY=>eY.length<=sizeLine/\(a==sysModules)=false/\∃xs:List (List Key×Addr×Value),Paired (λ(p:List Key×V)(q:List Key×Addr×Value)=>p.1=q.1/\H q.2.1=some (.tup (p.1.map kV))/\RelV p.2 q.2.2) eY xs/\∃o es ep,h.get? a=some o/\o.ExactDict/\o.data= .dict es ep/\es.toList=xs.map (entryOfKey (tupleKind (GC P w)))/\(xs.map (·.1)).Nodup | .set S n=>h.SetOf (intKind P w) a S n | .ins C dx fs=>H dx=some (.own a)/\fs.length<=1000/\dx≠a/\h.get? a=some (PySem.W.instObj C dx)/\∃mA,h.Ns1 dx mA/\(∀f,ow (fs.lookup f) (mA f))/\PySem.Within mA (fs.map (·.1)) | .own _=>∃o,h.get? a=some o | .xd fs=>∃mA,h.Ns1 a mA/\∀f,ow (fs.lookup f) (mA f) | .vN lo hi=>∃t u v,h.get? a=some {cls:=.type "range",data:=.fields #[.int lo t,.int hi u,.int 1 v]} | .nZ o u=>h.get? a=some o/\jv H h a u | .qH ps=>h.get? a=some {cls:=.none,data:=.fields ps} | .met f x=>h.get? a=some (PySem.W.methodObj (.ref f) (.ref x)) | .ext φ=>φ h/\(∃o,h.get? a=some o)/\∀h1 h2:Heap,φ h1->(∀o,h1.get? a=some o->h2.get? a=some o)->φ h2
def fc(H:Hp)(h:Heap):Prop:=∀a o,H a=some o->jv P w H h a o
end
section
variable {P:ai}{w:World}{H H':Hp}{h h':Heap}{a:Addr}{o:HO}
theorem jv.lt(x:jv P w H h a o):a<h.objs.size:=by cases o with |lst xs=>obtain⟨_,_,_,_,e⟩:=x;exact cA e |tup xs=>obtain⟨_,_,_,p⟩:=x;exact p.lt |dK eY=>obtain⟨_,_,_,_,o,_,_,e,_⟩:=x;exact cA e |dT eY=>obtain⟨_,_,_,_,o,_,_,e,_⟩:=x;exact cA e |set S n=>obtain⟨o,_,_,_,e,_⟩:=x;exact cA e |ins C dx fs=>obtain⟨_,_,_,e,_⟩:=x;exact cA e |own y=>obtain⟨_,e⟩:=x;exact cA e |xd fs=>obtain⟨_,⟨_,_,_,e,_⟩,_⟩:=x;exact cA e |vN lo hi=>obtain⟨_,_,_,e⟩:=x;exact cA e |nZ ob u=>obtain⟨e,_⟩:=x;exact cA e |qH ps=>exact cA (show h.get? a=some _ from x) |met f y=>exact cA (show h.get? a=some _ from x) |ext φ=>obtain⟨_,⟨_,e⟩,_⟩:=x;exact cA e
theorem Paired.Pa{α β:Type}{F G:α->β->Prop}:∀{l₁:List α}{l₂:List β},Paired F l₁ l₂->(∀a b,F a b->G a b)->Paired G l₁ l₂ |_,_,.nil,_=>.nil |_,_,.cons r t,f=>.cons (f _ _ r) (Paired.Pa t f)
theorem jv.nC(x:jv P w H h a o)(k:∀b u,(b=a\/H b=some (.own a))->h.get? b=some u->h'.get? b=some u) (ho:∀b,H b=some (.own a)->H' b=some (.own a))(ht:∀b xs,H b=some (.tup xs)->H' b=some (.tup xs)):jv P w H' h' a o:=by induction o with |lst xs=>obtain⟨z,its,n,r,e⟩:=x;exact⟨z,its,n,r,k _ _ (.inl Z) e⟩ |tup xs=>obtain⟨z,its,r,ob,e,c⟩:=x;exact⟨z,its,r,ob,k _ _ (.inl Z) e,c⟩ |dK eY=>obtain⟨z,y,vs,r,ob,es,ep,e,c⟩:=x;exact⟨z,y,vs,r,ob,es,ep,k _ _ (.inl Z) e,c⟩ |dT eY=>obtain⟨z,y,xs,r,ob,es,ep,e,c⟩:=x;exact⟨z,y,xs,Paired.Pa r λp q z=>⟨z.1,ht _ _ z.2.1,z.2.2⟩,ob,es,ep,k _ _ (.inl Z) e,c⟩ |set S n=>obtain⟨ob,es,ep,t,e,c⟩:=x;exact⟨ob,es,ep,t,k _ _ (.inl Z) e,c⟩ |ins C dx fs=>obtain⟨d,z,ne,e,mA,⟨od,es,ep,e2,c⟩,r⟩:=x;exact⟨ho _ d,z,ne,k _ _ (.inl Z) e,mA,⟨od,es,ep,k _ _ (.inr d) e2,c⟩,r⟩ |own y=>obtain⟨ob,e⟩:=x;exact⟨ob,k _ _ (.inl Z) e⟩ |xd fs=>obtain⟨mA,⟨od,es,ep,e,c⟩,r⟩:=x;exact⟨mA,⟨od,es,ep,k _ _ (.inl Z) e,c⟩,r⟩ |vN lo hi=>obtain⟨t,u,v,e⟩:=x;exact⟨t,u,v,k _ _ (.inl Z) e⟩ |nZ ob u ih=>obtain⟨e,q⟩:=x;exact⟨k _ _ (.inl Z) e,ih q⟩ |qH ps=>have e:h.get? a=some {cls:=.none,data:=.fields ps}:=x;show h'.get? a=some {cls:=.none,data:=.fields ps};exact k a _ (.inl Z) e |met f y=>have e:h.get? a=some (PySem.W.methodObj (.ref f) (.ref y)):=x;show h'.get? a=some (PySem.W.methodObj (.ref f) (.ref y));exact k a _ (.inl Z) e |ext φ=>obtain⟨p,⟨o,e⟩,st⟩:=x;exact⟨st _ _ p λo q=>k _ _ (.inl Z) q,⟨o,k _ _ (.inl Z) e⟩,st⟩
theorem fc.lt(x:fc P w H h)(e:H a=some o):a<h.objs.size:=(x a o e).lt
theorem fc.fresh(x:fc P w H h)(e:h.objs.size<=a):H a=none:=by cases q:H a with |none=>rfl |some u=>exact absurd (fO (x.lt q) e) (Aj _)
theorem fc.kept(x:fc P w H h)(k:∀b u,h.get? b=some u->h'.get? b=some u):fc P w H h':=λa o e=>(x a o e).nC (λb u _ q=>k b u q) (λ_ q=>q) λ_ _ q=>q
theorem fc.laid(x:fc P w H h)(k:∀b u,h.get? b=some u->h'.get? b=some u)(hp:h.objs.size<=a)(new:jv P w (upd H a o) h' a o):fc P w (upd H a o) h':=λb u e=>by
 have hn:=x.fresh hp;by_cases hb:b=a
 ·subst hb;rw[bQ]at e;cases e;exact new
 ·rw[aV hb]at e
  exact(x b u e).nC (λc v _ q=>k c v q) (λc q=>by rw[aV (dU q hn)];exact q) λc xs q=>by rw[aV (dU q hn)];exact q
end
def Rd(H:Hp)(a:Addr)(u:HO):Prop:=H a=some u\/∃o,H a=some (.nZ o u)
theorem Rd.ok{P:ai}{w:World}{H:Hp}{h:Heap}{a:Addr}{u:HO}(r:Rd H a u)(x:fc P w H h):jv P w H h a u:=by
 rcases r with r|⟨o,r⟩
 ·exact x a u r
 ·obtain⟨_,q⟩:=x a _ r
  exact q
def CK:Option HO->Prop |some (.lst _)=>True |some (.dK _)=>True |some (.dT _)=>True |some (.set _ _)=>True |some (.ins _ _ _)=>True |some (.ext _)=>True |_=>False
section
variable {P:ai}{w:World}{H:Hp}{h h':Heap}{x e:Addr}{o':HO}
theorem fc.write(ok:fc P w H h)(mu:CK (H x))(he:e=x\/H e=some (.own x))(k:∀b u,b≠e->h.get? b=some u->h'.get? b=some u)(wK:∃u,h'.get? e=some u) (new:jv P w (upd H x o') h' x o'):fc P w (upd H x o') h':=λb u q=>by
 have OE:∀c y,H c=some (.own y)->c≠x:=λc y r z=>by subst z;rw[r]at mu;exact mu
 have a0z:∀c xs,H c=some (.tup xs)->c≠x:=λc xs r z=>by subst z;rw[r]at mu;exact mu
 by_cases hb:b=x
 ·subst hb;rw[bQ]at q;cases q;exact new
 ·rw[aV hb]at q
  by_cases uC:b=e
  ·have q':H b=some (.own x):=by
    rcases he with z|z
    ·exact absurd (uC.trans z) hb
    ·rw[uC];exact z
   rw[q]at q';cases q';obtain⟨v,hv⟩:=wK;exact⟨v,by rw[uC];exact hv⟩
  ·refine(ok b u q).nC (λc v hc r=>k c v ?_ r) (λc r=>by rw[aV (OE c b r)];exact r) λc xs r=>by rw[aV (a0z c xs r)];exact r
   rcases hc with rfl|hc
   ·exact uC
   ·rintro rfl
    rcases he with z|z
    ·exact OE c b hc z
    ·rw[hc]at z;cases z;exact hb rfl
end
structure Un(fs ex:List Addr)(H H':Hp)(h h':Heap):Prop where
 keep:∀b o,h.get? b=some o->H b=none->b∉fs->b∉ex->h'.get? b=some o
 slot:∀b o,h.get? b=some o->H b=none->b∈fs->b∉ex->∃sl,h'.get? b=some {o with slots:=sl}
 free:∀b o,h.get? b=some o->H b=none->b∉ex->H' b=none
 there:∀b o,h.get? b=some o->b∉ex->∃o',h'.get? b=some o'
 kA:∀b xs,H b=some (.tup xs)->H' b=some (.tup xs)
 kg:∀b o u,H b=some (.nZ o u)->H' b=some (.nZ o u)
 kB:∀b ps,H b=some (.qH ps)->∃more,H' b=some (.qH (ps++more))
section
variable {fs nY ex mW:List Addr}{H H1 H2:Hp}{h h1 h2 h':Heap}{a x e:Addr}{o:HO}
theorem Un.any(u:Un fs ex H H1 h h1){b:Addr}{ob:Obj}(q:h.get? b=some ob)(n:H b=none)(hx:b∉ex):∃sl,h1.get? b=some {ob with slots:=sl}:=by
 by_cases hb:b∈fs
 ·exact u.slot b ob q n hb hx
 ·exact⟨ob.slots,u.keep b ob q n hb hx⟩
theorem Un.kept(k:∀b u,h.get? b=some u->h'.get? b=some u):Un fs ex H H h h':=⟨λb ob q _ _ _=>k b ob q,λb ob q _ _ _=>⟨ob.slots,k b ob q⟩,λ_ _ _ n _=>n,λb ob q _=>⟨ob,k b ob q⟩,λ_ _ q=>q,λ_ _ _ q=>q,λ_ ps q=>⟨#[],by rw[q];simp⟩⟩
theorem Un.refl:Un fs ex H H h h:=Un.kept λ_ _ q=>q
theorem Un.laid(k:∀b u,h.get? b=some u->h'.get? b=some u)(hp:h.objs.size<=a)(hn:H a=none):Un fs ex H (upd H a o) h h' where
 keep:=λb u q _ _ _=>k b u q
 slot:=λb u q _ _ _=>⟨u.slots,k b u q⟩
 free:=λb u q n _=>by rw[aV (eQ (fO (cA q) hp))];exact n
 there:=λb u q _=>⟨u,k b u q⟩
 kA:=λb xs q=>by rw[aV (dU q hn)];exact q
 kg:=λb u xs q=>by rw[aV (dU q hn)];exact q
 kB:=λb ps q=>⟨#[],by rw[aV (dU q hn),q];simp⟩
theorem Un.write(mu:CK (H x))(he:e=x\/H e=some (.own x))(k:∀b u,b≠e->h.get? b=some u->h'.get? b=some u)(wK:∃u,h'.get? e=some u):Un fs ex H (upd H x o) h h':=by
 have hx:∀b,H b=none->b≠x:=λb n z=>by subst z;rw[n]at mu;exact mu
 have hb:∀b,H b=none->b≠e:=λb n z=>by
  subst z;rcases he with r|r
  ·exact hx b n r
  ·rw[n]at r;cases r
 have hm:∀b u,H b=some u->¬CK (some u)->b≠x:=λb u q nm z=>by subst z;rw[q]at mu;exact nm mu
 refine⟨λb u q n _ _=>k b u (hb b n) q,λb u q n _ _=>⟨u.slots,k b u (hb b n) q⟩,λb u q n _=>by rw[aV (hx b n)];exact n,λb u q _=>?_,λb xs q=>by rw[aV (hm b _ q λz=>z)];exact q,λb u xs q=>by rw[aV (hm b _ q λz=>z)];exact q,λb ps q=>⟨#[],by rw[aV (hm b _ q λz=>z),q];simp⟩⟩;by_cases uC:b=e
 ·subst uC;exact wK
 ·exact⟨u,k b u uC q⟩
end
def AN(h:Heap)(H:Hp):List Addr:=(List.range h.objs.size).filter λa=>(H a).isSome
def pO(h:Heap)(H:Hp):Heap:=PySem.W.hideAll h (AN h H)
theorem a3H(h:Heap)(H:Hp):(pO h H).objs.size=h.objs.size:=PySem.W.hideAll_size _ _
theorem a3I{h:Heap}{H:Hp}{b:Addr}{o:Obj}(e:h.get? b=some o)(n:H b=none):(pO h H).get? b=some o:=PySem.W.hideAll_get _ e λhm=>by have q:(H b).isSome=true:=(List.mem_filter.mp hm).2;rw[n]at q;simp at q
theorem a0v{h:Heap}{H:Hp}{b:Addr}{o:Obj}(e:(pO h H).get? b=some o):h.get? b=some o/\H b=none:=by have e':h.get? b=some o:=PySem.W.of_hideAll (AN h H) e;refine⟨e',?_⟩;cases q:H b with |none=>rfl |some x=>have hm:b∈AN h H:=List.mem_filter.mpr ⟨List.mem_range.mpr (cA e'),by simp[q]⟩;have z:(pO h H).get? b=none:=PySem.W.hideAll_none (AN h H) hm;rw[z]at e;cases e
structure Mod(K:ag)(mg:bV)(aA:Heap):Prop where
 wD:K.In aA
 glob:aA.Ns mainGlobals mg
 blt:∃mb,aA.Ns builtinsNs mb/\∀x:Str,x≠"__name__"->mb x=bootBuiltins x
 nolimit:aA.NoLimit
structure Cx where
 prog:ai
 w:World
 K:ag
 mg:bV
 aA:Heap
 A:ak
 N:List Str
 s₀:ah
 H₀:Hp
 env:Env
 outer:List Env
 stack:List Env
 ex:List Addr
 fn:Str->Bool
 calm:Bool
 pn:List (Addr×Obj)
 xe:Value->ah->Prop
def gb(l:List Env):List Addr:=l.filterMap (·.frame)
abbrev Cx.fs(X:Cx):List Addr:=gb X.outer
def Jv(sc:Scope)(x:Str):Prop:=sc.names.lookup x=some .local\/sc.names.lookup x=some .cell\/sc.names.lookup x=some .free
def Loc(sc:Scope)(x:Str):Prop:=sc.names.lookup x=some .local\/sc.names.lookup x=some .cell
def Look(env:Env)(h:Heap)(m:bV)(x:Str)(u:Value):Prop:=(env.kindOf x=some .local/\m x=some u)\/((env.kindOf x=some .cell\/env.kindOf x=some .free)/\∃c,env.cells.lookup x=some c/\h.IsCell c (some u))
structure Cx.Ok(X:Cx):Prop where
 mod:Mod X.K X.mg X.aA
 kind:X.env.scope.kind= .function
 glob:X.env.globals=mainGlobals
 blt:X.env.builtins=builtinsNs
 above:X.s₀.heap.objs.size<=X.env.locals
 inj:∀x y c,X.env.cells.lookup x=some c->X.env.cells.lookup y=some c->x=y
 has:∀x,(X.env.kindOf x=some .cell\/X.env.kindOf x=some .free)->∃c,X.env.cells.lookup x=some c
 uZ:∀x c,X.fn x=true->X.env.cells.lookup x=some c->X.s₀.heap.objs.size<=c
 hd:X.calm=true->X.A.handled=none
 frames:X.A.frames=some X.stack
 vy:X.stack=X.outer\/(X.stack=X.env::X.outer/\X.env.frame=some X.env.locals)
 Ck:∀b∈X.ex,b≠X.env.locals/\∀x c,X.env.cells.lookup x=some c->c≠b
 bs:∀b o,X.aA.get? b=some o->X.s₀.heap.get? b=some o/\X.H₀ b=none
 mZ:X.aA.objs.size<=X.s₀.heap.objs.size
 tV:∀b o,X.aA.get? b=some o->b∉X.ex
 pY:∀b∈X.ex,b∉X.fs
 kf:X.s₀.heap.FunFrames X.aA X.outer
 pV:∀b∈X.fs,X.H₀ b=none
structure Inv(X:Cx)(ay:List (Addr×Obj))(O:List (Option V))(H:Hp)(s:ah):Prop where
 ok:X.Ok
 os:s.os=X.s₀.os
 bare:AllBare s.gens
 aA:Un X.fs X.ex X.H₀ H X.s₀.heap s.heap
 loc:∃m,s.heap.Ns X.env.locals m/\∀(i:Nat)(x:Str)(v:V),X.N[i]? =some x->O[i]? =some (some v)->Jv X.env.scope x->∃u,RelV v u/\Look X.env s.heap m x u
 cell:∀x c,X.env.cells.lookup x=some c->∃v,s.heap.IsCell c v
 free:H X.env.locals=none
 kh:∀x c,X.env.cells.lookup x=some c->H c=none
 pin:∀p∈X.pn++ay,s.heap.get? p.1=some p.2/\H p.1=none/\p.1≠X.env.locals/\p.1∉X.fs/\∀v,p.2.data≠ .cell v
 bD:fc X.prog X.w H s.heap
 len:O.length=X.N.length
section
variable {X:Cx}{ay:List (Addr×Obj)}{O:List (Option V)}{H H':Hp}{s:ah}{h':Heap}
theorem Cx.Ok.a0I(ok:X.Ok){b:Addr}{o:Obj}(e:X.aA.get? b=some o):b∉X.fs:=λhb=>by have:=(ok.kf.mem hb).1;rw[e]at this;cases this
theorem Inv.bs(I:Inv X ay O H s):∀b o,X.aA.get? b=some o->s.heap.get? b=some o/\H b=none:=λb o e=>⟨I.aA.keep b o (I.ok.bs b o e).1 (I.ok.bs b o e).2 (I.ok.a0I e) (I.ok.tV b o e),I.aA.free b o (I.ok.bs b o e).1 (I.ok.bs b o e).2 (I.ok.tV b o e)⟩
theorem Inv.bk(I:Inv X ay O H s):∀b o,X.aA.get? b=some o->s.heap.get? b=some o:=λb o e=>(I.bs b o e).1
theorem Inv.mod(I:Inv X ay O H s):Mod X.K X.mg X.aA:=I.ok.mod
theorem Inv.iD(I:Inv X ay O H s):X.K.In s.heap:=I.ok.mod.wD.keeps I.bk
theorem Inv.lt(I:Inv X ay O H s):X.env.locals<s.heap.objs.size:=let⟨_,hn,_⟩:=I.loc;hn.lt
theorem Inv.sz(I:Inv X ay O H s):X.s₀.heap.objs.size<=s.heap.objs.size:=gU I.ok.above (K1 I.lt)
theorem Inv.a0G(I:Inv X ay O H s){a:Addr}(h:s.heap.objs.size<=a):a∉X.fs:=λhb=>by obtain⟨_,o,ho,_⟩:=I.ok.kf.mem hb;exact absurd (fO (cA ho) (gU I.sz h)) (Aj _)
theorem Inv.kj(I:Inv X ay O H s):∀x c,X.env.cells.lookup x=some c->c≠X.env.locals:=λx c e z=>by obtain⟨v,o,ho,hd⟩:=I.cell x c e;obtain⟨m,⟨o',es,ep,mM,HE,_⟩,_⟩:=I.loc;rw[z,mM]at ho;cases ho;rw[HE]at hd;cases hd
theorem Inv.kf(I:Inv X ay O H s):s.heap.FunFrames X.aA X.outer:=by
 have all:∀(l:List Env),(∀b∈gb l,b∈X.fs)->X.s₀.heap.FunFrames X.aA l->s.heap.FunFrames X.aA l:=by intro l;induction l with |nil=>intro _ _;trivial |cons env r ih=>intro hs hl;obtain⟨hk,⟨L,o,hf,hn,ho,hd⟩,hr⟩:=hl;have hL:L∈X.fs:=hs L (by unfold gb;rw[Ul,hf];exact K6);obtain⟨sl,e⟩:=I.aA.slot L o ho (I.ok.pV L hL) hL λz=>I.ok.pY L z hL;exact⟨hk,⟨L,_,hf,hn,e,hd⟩,ih (λb hb=>hs b (by unfold gb;rw[Ul,hf];exact xE _ hb)) hr⟩
 exact all X.outer (λ_ hb=>hb) I.ok.kf
theorem Inv.stack(I:Inv X ay O H s):s.heap.FunFrames X.aA X.stack:=by
 rcases I.ok.vy with e|⟨e,hf⟩
 ·rw[e];exact I.kf
 ·rw[e]
  obtain⟨m,hn,_⟩:=I.loc;refine .cons (by rw[I.ok.kind];decide) hf hn ?_ I.kf;exact Heap.get?_none_of_le (gU I.ok.mZ I.ok.above)
theorem Inv.Dt(I:Inv X ay O H s):∀b∈gb X.stack,b∈X.env.locals::X.fs:=λb hb=>by
 rcases I.ok.vy with e|⟨e,hf⟩
 ·rw[e]at hb;exact xE _ hb
 ·rw[e]at hb
  unfold gb at hb;rw[Ul,hf]at hb;exact hb
theorem Inv.L6(I:Inv X ay O H s):∀b∈gb X.stack,H b=none:=λb hb=>by
 rcases dh.mp (I.Dt b hb)with e|hb
 ·rw[e];exact I.free
 ·obtain⟨_,o,ho,_⟩:=I.ok.kf.mem hb
  exact I.aA.free b o ho (I.ok.pV b hb) λz=>I.ok.pY b z hb
theorem Inv.step{g':Array GenState}{t':Nat}{d':Drawn}{ch:List Addr}(I:Inv X ay O H s) (nV:∀b∈ch,(b∈X.ex\/X.s₀.heap.objs.size<=b)/\b≠X.env.locals/\(∀x c,X.env.cells.lookup x=some c->c≠b)/\∀p∈X.pn++ay,p.1≠b) (keep:∀b o,b≠X.env.locals->b∉X.fs->b∉ch->s.heap.get? b=some o->H b=none->h'.get? b=some o) (slot:∀b o,b≠X.env.locals->b∈X.fs->b∉ch->s.heap.get? b=some o->H b=none->∃sl,h'.get? b=some {o with slots:=sl})(free:∀b o,b∉ch->s.heap.get? b=some o->H b=none->H' b=none) (there:∀b o,b∉ch->s.heap.get? b=some o->∃o',h'.get? b=some o') (kA:∀b xs,H b=some (.tup xs)->H' b=some (.tup xs))(kg:∀b o u,H b=some (.nZ o u)->H' b=some (.nZ o u))(kB:∀b ps,H b=some (.qH ps)->∃more,H' b=some (.qH (ps++more))) (ns:∀m,s.heap.Ns X.env.locals m->h'.Ns X.env.locals m)(bD:fc X.prog X.w H' h')(hg:AllBare g'): Inv X ay O H' {s with heap:=h',gens:=g',drawn:=d',toks:=t'}:=by
 have OP:∀b o,X.s₀.heap.get? b=some o->b≠X.env.locals:=λb o e=>eQ (fO (cA e) I.ok.above);have BD:∀b o,X.s₀.heap.get? b=some o->b∉X.ex->b∉ch:=λb o e hx hb=>by
  rcases(nV b hb).1 with z|z
  ·exact hx z
  ·exact absurd (fO (cA e) z) (Aj _)
 have cellK:∀x c,X.env.cells.lookup x=some c->∀v,s.heap.IsCell c v->h'.IsCell c v:=λx c e v ⟨o,ho,hd⟩=>by
  have yG:c∉ch:=λz=>(nV c z).2.2.1 x c e rfl;by_cases hc:c∈X.fs
  ·obtain⟨sl,q⟩:=slot c o (I.kj x c e) hc yG ho (I.kh x c e)
   exact⟨_,q,hd⟩
  ·exact⟨o,keep c o (I.kj x c e) hc yG ho (I.kh x c e),hd⟩
 refine⟨I.ok,I.os,hg,⟨λb o e n hb hx=>?_,λb o e n hb hx=>?_,λb o e n hx=>?_,λb o e hx=>?_,λb xs e=>kA b xs (I.aA.kA b xs e),λb o xs e=>kg b o xs (I.aA.kg b o xs e),λb ps e=>?_⟩,?_,λx c e=>?_,?_,λx c e=>?_,λp hp=>?_,bD,I.len⟩
 ·exact keep b o (OP b o e) hb (BD b o e hx) (I.aA.keep b o e n hb hx) (I.aA.free b o e n hx)
 ·obtain⟨sl,e1⟩:=I.aA.slot b o e n hb hx
  obtain⟨DP,e2⟩:=slot b _ (OP b o e) hb (BD b o e hx) e1 (I.aA.free b o e n hx);exact⟨DP,e2⟩
 ·obtain⟨o',e1⟩:=I.aA.there b o e hx
  exact free b o' (BD b o e hx) e1 (I.aA.free b o e n hx)
 ·obtain⟨o',e1⟩:=I.aA.there b o e hx
  exact there b o' (BD b o e hx) e1
 ·obtain⟨m1,e1⟩:=I.aA.kB b ps e
  obtain⟨m2,e2⟩:=kB b _ e1;exact⟨m1++m2,by rw[e2,Array.append_assoc]⟩
 ·obtain⟨m,hn,hl⟩:=I.loc
  refine⟨m,ns m hn,λi x v e1 e2 e3=>?_⟩;obtain⟨u,r,l⟩:=hl i x v e1 e2 e3;refine⟨u,r,?_⟩;rcases l with l|⟨k,c,e,z⟩
  ·exact .inl l
  ·exact .inr ⟨k,c,e,cellK x c e _ z⟩
 ·obtain⟨v,z⟩:=I.cell x c e
  exact⟨v,cellK x c e v z⟩
 ·obtain⟨m,⟨o,_,_,ho,_⟩,_⟩:=I.loc
  exact free _ o (λz=>(nV _ z).2.1 Z) ho I.free
 ·obtain⟨v,o,ho,hd⟩:=I.cell x c e
  exact free c o (λz=>(nV c z).2.2.1 x c e Z) ho (I.kh x c e)
 ·obtain⟨e,n,ne,nf,d⟩:=I.pin p hp
  have yG:p.1∉ch:=λz=>(nV p.1 z).2.2.2 p hp rfl;exact⟨keep p.1 p.2 ne nf yG e n,free p.1 p.2 yG e n,ne,nf,d⟩
theorem Inv.un{t':Nat}(I:Inv X ay O H s)(u:Un X.fs [] H H' s.heap h')(bD:fc X.prog X.w H' h'):Inv X ay O H' {s with heap:=h',toks:=t'}:=by obtain⟨m,⟨o,es,ep,ho,r⟩,_⟩:=id I.loc;obtain⟨sl,hL⟩:=u.any ho I.free (by simp);exact I.step (g':=s.gens) (d':=s.drawn) (ch:=[]) (λ_ z=>nomatch z) (λb o _ hb _ e n=>u.keep b o e n hb (by simp)) (λb o _ hb _ e n=>u.slot b o e n hb (by simp)) (λb o _ e n=>u.free b o e n (by simp)) (λb o _ e=>u.there b o e (by simp)) u.kA u.kg u.kB (λm' hm=>by obtain⟨o',pZ,Iy,mM,r'⟩:=hm;rw[ho]at mM;cases mM;exact⟨_,pZ,Iy,hL,r'⟩) bD I.bare
theorem Inv.call{g':Array GenState}{t':Nat}{d':Drawn}{ch:List Addr}(I:Inv X ay O H s)(u:Un (gb X.stack) ch H H' s.heap h')(bD:fc X.prog X.w H' h')(hg:AllBare g') (nV:∀b∈ch,(b∈X.ex\/X.s₀.heap.objs.size<=b)/\b≠X.env.locals/\(∀x c,X.env.cells.lookup x=some c->c≠b)/\∀p∈X.pn++ay,p.1≠b): Inv X ay O H' {s with heap:=h',gens:=g',drawn:=d',toks:=t'}:=by obtain⟨m,⟨o,es,ep,ho,r⟩,_⟩:=id I.loc;obtain⟨sl,hL⟩:=u.any ho I.free λz=>(nV _ z).2.1 rfl;exact I.step (ch:=ch) nV (λb o hL hb hc e n=>u.keep b o e n (λz=>(dh.mp (I.Dt b z)).elim hL hb) hc) (λb o _ _ hc e n=>u.any e n hc) (λb o hc e n=>u.free b o e n hc) (λb o hc e=>u.there b o e hc) u.kA u.kg u.kB (λm' hm=>by obtain⟨o',pZ,Iy,mM,r'⟩:=hm;rw[ho]at mM;cases mM;exact⟨_,pZ,Iy,hL,r'⟩) bD hg
theorem Inv.turned{t':Nat}{it:Addr}(I:Inv X ay O H s)(k:∀b o,b≠it->s.heap.get? b=some o->h'.get? b=some o)(hn:H it=none)(hL:it≠X.env.locals) (h1:it∈X.ex\/X.s₀.heap.objs.size<=it)(h2:∀x c,X.env.cells.lookup x=some c->c≠it)(h3:∀p∈X.pn++ay,p.1≠it):Inv X ay O H {s with heap:=h',toks:=t'}:=by
 have yE:∀b u,H b=some u->b≠it:=λb u e z=>by rw[z,hn]at e;cases e
 refine I.step (g':=s.gens) (d':=s.drawn) (ch:=[it]) (λb hb=>?_) (λb o _ _ hc e _=>k b o (λz=>hc (by simp[z])) e) (λb o _ _ hc e _=>⟨o.slots,k b o (λz=>hc (by simp[z])) e⟩) (λ_ _ _ _ n=>n) (λb o hc e=>⟨o,k b o (λz=>hc (by simp[z])) e⟩) (λ_ _ e=>e) (λ_ _ _ e=>e) (λb ps e=>⟨#[],by rw[e];simp⟩) (λm hm=>?_) (λb u e=>?_) I.bare
 ·have e:b=it:=by simpa using hb
  subst e;exact⟨h1,hL,h2,h3⟩
 ·obtain⟨o,es,ep,ho,r⟩:=hm
  exact⟨o,es,ep,k _ o (jy hL) ho,r⟩
 ·refine(I.bD b u e).nC (λc v hc q=>k c v ?_ q) (λ_ q=>q) λ_ _ q=>q
  rcases hc with z|z
  ·rw[z];exact yE b u e
  ·exact yE c _ z
theorem Inv.tok(I:Inv X ay O H s)(t:Nat):Inv X ay O H {s with toks:=t}:=I.un (h':=s.heap) (t':=t) Un.refl I.bD
theorem Inv.kept{t':Nat}(I:Inv X ay O H s)(k:∀b u,s.heap.get? b=some u->h'.get? b=some u):Inv X ay O H {s with heap:=h',toks:=t'}:=I.un (Un.kept k) (I.bD.kept k)
theorem Inv.laid{a:Addr}{o:HO}{t':Nat}(I:Inv X ay O H s)(k:∀b u,s.heap.get? b=some u->h'.get? b=some u)(hp:s.heap.objs.size<=a)(new:jv X.prog X.w (upd H a o) h' a o): Inv X ay O (upd H a o) {s with heap:=h',toks:=t'}:=I.un (Un.laid k hp (I.bD.fresh hp)) (I.bD.laid k hp new)
theorem Inv.write{x e:Addr}{o:HO}{t':Nat}(I:Inv X ay O H s)(mu:CK (H x))(he:e=x\/H e=some (.own x))(k:∀b u,b≠e->s.heap.get? b=some u->h'.get? b=some u)(wK:∃u,h'.get? e=some u) (new:jv X.prog X.w (upd H x o) h' x o):Inv X ay O (upd H x o) {s with heap:=h',toks:=t'}:=I.un (Un.write mu he k wK) (I.bD.write mu he k wK new)
theorem Inv.Oa{Gg:List (Addr×Obj)}(I:Inv X ay O H s)(h:∀p∈Gg,s.heap.get? p.1=some p.2/\H p.1=none/\p.1≠X.env.locals/\p.1∉X.fs/\∀v,p.2.data≠ .cell v):Inv X Gg O H s:=⟨I.ok,I.os,I.bare,I.aA,I.loc,I.cell,I.free,I.kh,λp hp=>(jz.mp hp).elim (λz=>I.pin p (K7 _ z)) (h p),I.bD,I.len⟩
theorem Gs{N:List Str}(hN:N.Nodup){i j:Nat}{x:Str}(a:N[i]? =some x)(b:N[j]? =some x):i=j:=by obtain⟨h1,e1⟩:=cv.mp a;obtain⟨h2,e2⟩:=cv.mp b;exact(List.getElem_inj hN).mp (e1.trans e2.symm)
theorem L3{M:Model}{A:ak}{E:Value->ah->Prop}{i:Nat}{x:Str}{v:V}{u:Value}{Q:Unit->ah->Prop}(I:Inv X ay O H s)(hN:X.N.Nodup)(hi:X.N[i]? =some x)(hx:Loc X.env.scope x)(r:RelV v u) (h:∀s',Inv X ay (O.set i (some v)) H s'->(∃a,Heap.SameBut a s.heap s'.heap/\(a=X.env.locals\/X.env.cells.lookup x=some a))->Q () s')(hf:X.fn x=true\/X.env.scope.names.lookup x=some .local:=by first|exact .inl rfl|exact .inr rfl|assumption):wpAny M A (storeName X.env x u) Q E s:=by
 obtain⟨m,hn,hl⟩:=id I.loc;have zh:(X.env.scope.kind== .class||(X.env.scope.kind== .module&&X.env.locals !=X.env.globals))=false:=by rw[I.ok.kind];rfl
 have C5:i<O.length:=by rw[I.len];exact(cv.mp hi).1
 have kj:=I.kj;have tracked:∀{a:Addr}{h':Heap},(∃o,s.heap.get? a=some o/\H a=none)->Heap.SameBut a s.heap h'->fc X.prog X.w H h':=λ{a h'} ha hs b ob e=>by
  obtain⟨_,_,rS⟩:=ha;refine(I.bD b ob e).nC (λc w' hc q=>(hs.2 c ?_).trans q) (λ_ q=>q) λ_ _ q=>q;rintro rfl;rcases hc with rfl|hc
  ·rw[rS]at e;cases e
  ·rw[rS]at hc;cases hc
 rcases hx with hk|hk
 ·refine wpAny_storeName_local hk hn (λh' Hv hs=>?_) zh
  obtain⟨oL,_,_,Qd,_⟩:=id hn;refine h _ ⟨I.ok,I.os,I.bare,⟨λb o e n hb hx=>?_,λb o e n hb hx=>?_,I.aA.free,λb o e hx=>?_,I.aA.kA,I.aA.kg,I.aA.kB⟩,⟨_,Hv,λj y v' e1 e2 e3=>?_⟩,λy c e=>?_,I.free,I.kh,λp hp=>?_,tracked ⟨oL,Qd,I.free⟩ hs,by simpa using I.len⟩ ⟨_,hs,.inl rfl⟩
  ·exact(hs.2 b (eQ (fO (cA e) I.ok.above))).trans (I.aA.keep b o e n hb hx)
  ·obtain⟨sl,e1⟩:=I.aA.slot b o e n hb hx
   exact⟨sl,(hs.2 b (eQ (fO (cA e) I.ok.above))).trans e1⟩
  ·obtain⟨o',e1⟩:=I.aA.there b o e hx
   exact⟨o',(hs.2 b (eQ (fO (cA e) I.ok.above))).trans e1⟩
  ·by_cases hj:j=i
   ·subst hj
    rw[hi]at e1;cases e1;rw[Aq C5]at e2;cases e2;exact⟨u,r,.inl ⟨hk,by simp⟩⟩
   ·rw[K9 (jy hj)]at e2
    obtain⟨u',r',q⟩:=hl j y v' e1 e2 e3;refine⟨u',r',?_⟩;rcases q with⟨k,e⟩|⟨k,c,e,z⟩
    ·refine .inl ⟨k,?_⟩
     have:y≠x:=λe=>hj (Gs hN e1 (e▸hi));simp[this,e]
    ·exact .inr ⟨k,c,e,z.sameBut hs (kj y c e)⟩
  ·obtain⟨w',z⟩:=I.cell y c e
   exact⟨w',z.sameBut hs (kj y c e)⟩
  ·obtain⟨e,n,ne,nf,d⟩:=I.pin p hp
   exact⟨(hs.2 p.1 ne).trans e,n,ne,nf,d⟩
 ·have HD:X.fn x=true:=by
   rcases hf with z|z
   ·exact z
   ·rw[z]at hk;cases hk
  obtain⟨c,hc⟩:=I.ok.has x (.inl hk);obtain⟨w',z⟩:=I.cell x c hc;refine wpAny_storeName_cell I.ok.kind hk hc z (λh' kb hs=>?_);obtain⟨oc,Qc,a3e⟩:=id z;refine h {s with heap:=h'} ⟨I.ok,I.os,I.bare,⟨λb o e n hb hx=>?_,λb o e n hb hx=>?_,I.aA.free,λb o e hx=>?_,I.aA.kA,I.aA.kg,I.aA.kB⟩,⟨m,hn.sameBut hs (jy (kj x c hc)),λj y v' e1 e2 e3=>?_⟩,λy c' e=>?_,I.free,I.kh,λp hp=>?_,tracked ⟨oc,Qc,I.kh x c hc⟩ hs,by simpa using I.len⟩ ⟨c,hs,.inr hc⟩
  ·exact(hs.2 b (eQ (fO (cA e) (I.ok.uZ x c HD hc)))).trans (I.aA.keep b o e n hb hx)
  ·obtain⟨sl,e1⟩:=I.aA.slot b o e n hb hx
   exact⟨sl,(hs.2 b (eQ (fO (cA e) (I.ok.uZ x c HD hc)))).trans e1⟩
  ·obtain⟨o',e1⟩:=I.aA.there b o e hx
   exact⟨o',(hs.2 b (eQ (fO (cA e) (I.ok.uZ x c HD hc)))).trans e1⟩
  ·by_cases hj:j=i
   ·subst hj
    rw[hi]at e1;cases e1;rw[Aq C5]at e2;cases e2;exact⟨u,r,.inr ⟨.inl hk,c,hc,kb⟩⟩
   ·rw[K9 (jy hj)]at e2
    obtain⟨u',r',q⟩:=hl j y v' e1 e2 e3;refine⟨u',r',?_⟩;rcases q with q|⟨k,c',e,z'⟩
    ·exact .inl q
    ·refine .inr ⟨k,c',e,z'.sameBut hs ?_⟩
     rintro rfl;exact hj (Gs hN e1 (I.ok.inj _ _ _ e hc▸hi))
  ·by_cases Qr:c'=c
   ·subst Qr;exact⟨_,kb⟩
   ·obtain⟨w2,z2⟩:=I.cell y c' e
    exact⟨w2,z2.sameBut hs Qr⟩
  ·obtain⟨e,n,ne,nf,d⟩:=I.pin p hp
   refine⟨(hs.2 p.1 ?_).trans e,n,ne,nf,d⟩;intro q;rw[q,Qc]at e;have q':oc=p.2:=eO e;exact d w' (by rw[<-q'];exact a3e)
theorem vx{M:Model}{A:ak}{E:Value->ah->Prop}{i:Nat}{x:Str}{v:V}{u:Value}{Q:Unit->ah->Prop}(I:Inv X ay O H s)(hN:X.N.Nodup)(hi:X.N[i]? =some x)(hx:Loc X.env.scope x)(r:RelV v u) (h:∀s',Inv X ay (O.set i (some v)) H s'->Q () s')(hf:X.fn x=true\/X.env.scope.names.lookup x=some .local:=by first|exact .inl rfl|exact .inr rfl|assumption):wpAny M A (storeName X.env x u) Q E s:=L3 I hN hi hx r (λs' I' _=>h s' I') hf
theorem Inv.zR{s':ah}{ch:List Addr}(I:Inv X ay O H s)(ho:s'.os=s.os)(u:Un (gb X.stack) ch H H' s.heap s'.heap)(bD:fc X.prog X.w H' s'.heap)(hg:AllBare s'.gens) (nV:∀b∈ch,(b∈X.ex\/X.s₀.heap.objs.size<=b)/\b≠X.env.locals/\(∀x c,X.env.cells.lookup x=some c->c≠b)/\∀p∈X.pn++ay,p.1≠b):Inv X ay O H' s':=by obtain⟨h',g',d',t',o'⟩:=s';have e:o'=s.os:=ho;subst e;exact I.call (g':=g') (t':=t') (d':=d') u bD hg nV
end
abbrev XK:=Value->Option Addr->Hp->Prop
abbrev St:=List (Option V)
abbrev VK:=V->Hp->Prop
abbrev TE:=St->Hp->VK->Prop
abbrev TT:=St->Hp->(Bool->Hp->Prop)->Prop
abbrev TA:=St->Hp->(List V->Hp->Prop)->Prop
structure Ends where
 nx:St->Hp->Prop
 rt:VK
 bk:St->Hp->Prop:=λ_ _=>False
 ct:St->Hp->Prop:=λ_ _=>False
abbrev TS:=Ends->St->Hp->Prop
def EP(X:Cx)(ay:List (Addr×Obj))(O:St)(Q:VK)(u:Value)(s':ah):Prop:=∃v H',Inv X ay O H' s'/\RelV v u/\Q v H'
def TP(X:Cx)(ay:List (Addr×Obj))(O:St)(Q:Bool->Hp->Prop)(b:Bool)(s':ah):Prop:=∃H',Inv X ay O H' s'/\Q b H'
def AP(X:Cx)(ay:List (Addr×Obj))(O:St)(Q:List V->Hp->Prop)(us:List Value)(s':ah):Prop:=∃vs H',Inv X ay O H' s'/\Vals vs us/\Q vs H'
def SP(X:Cx)(ay:List (Addr×Obj))(D:Ends)(f:Flow)(s':ah):Prop:=match f with | .next=>∃σ' H',Inv X ay σ' H' s'/\D.nx σ' H' | .brk=>∃σ' H',Inv X ay σ' H' s'/\D.bk σ' H' | .cont=>∃σ' H',Inv X ay σ' H' s'/\D.ct σ' H' | .ret u=>∃v σ' H',Inv X ay σ' H' s'/\RelV v u/\D.rt v H'
def PE(X:Cx)(e:Expr)(t:TE):Prop:=∀(ay:List (Addr×Obj))(s:ah)(O:St)(H:Hp)(Q:VK),Inv X ay O H s->t O H Q->wpAny (model X.prog X.w) X.A (eval e X.env) (EP X ay O Q) X.xe s
def PT(X:Cx)(e:Expr)(t:TT):Prop:=∀(ay:List (Addr×Obj))(s:ah)(O:St)(H:Hp)(Q:Bool->Hp->Prop),Inv X ay O H s->t O H Q->wpAny (model X.prog X.w) X.A (isTrue e X.env (eval e X.env)) (TP X ay O Q) X.xe s
def PW(X:Cx)(e:Expr)(t:TT):Prop:=∀(whole:Sem Value)(ay:List (Addr×Obj))(s:ah)(O:St)(H:Hp)(Q:Bool->Hp->Prop),Inv X ay O H s->t O H Q->wpAny (model X.prog X.w) X.A (isTrue e X.env whole) (TP X ay O Q) X.xe s
theorem PW.pt{X:Cx}{e:Expr}{t:TT}(h:PW X e t):PT X e t:=h _
def PA(X:Cx)(es:List Expr)(t:TA):Prop:=∀(pos:Pos)(ay:List (Addr×Obj))(s:ah)(O:St)(H:Hp)(Q:List V->Hp->Prop),Inv X ay O H s->t O H Q->wpAny (model X.prog X.w) X.A (spliced (backTo pos (starEach es X.env))) (AP X ay O Q) X.xe s
def PS(X:Cx)(st:Stmt)(t:TS):Prop:=∀(ay:List (Addr×Obj))(s:ah)(O:St)(H:Hp)(D:Ends),Inv X ay O H s->t D O H->wpAny (model X.prog X.w) X.A (exec st X.env) (SP X ay D) X.xe s
def gT(X:Cx)(st:List Stmt)(t:TS):Prop:=∀(ay:List (Addr×Obj))(s:ah)(O:St)(H:Hp)(D:Ends),Inv X ay O H s->t D O H->wpAny (model X.prog X.w) X.A (execs st X.env) (SP X ay D) X.xe s
theorem ba{α:Type}{t:Sem α}{Q Q':α->ah->Prop}{M:Model}{A:ak}{E:Value->ah->Prop}{s:ah}(h:wpAny M A t Q E s)(hQ:∀a s,Q a s->Q' a s):wpAny M A t Q' E s:=fU h hQ λ_ _ x=>x
section
variable {X:Cx}
inductive a8S(i:Nat)(O:St)(H:Hp)(Q:VK):Prop |mk (v:_)(h0:O[i]? =some (some v))(h1:Q v H)
def KG(i:Nat):TE:=λO H Q=>a8S i O H Q
def tC (v:V):TE:=λ_ H Q=>Q v H
theorem Yi{i:Nat}{x:Str}{pos:Pos}(hN:X.N[i]? =some x)(hv:Jv X.env.scope x)(hd:(x==("__debug__":Str))=false:=by decide)(jo:(x==("__classdict__":Str))=false:=by decide):PE X (.Name x pos) (KG i):=by
 intro ay s O H Q I h;obtain⟨v,e,h⟩:=h;obtain⟨m,hn,hl⟩:=I.loc;obtain⟨u,r,l⟩:=hl i x v hN e hv;have fin:EP X ay O Q u s:=⟨v,H,I,r,h⟩;rcases l with⟨hk,hm⟩|⟨hk,c,hc,nX⟩
 ·exact wpAny_Name (wpAny_loadName_local I.ok.kind hk hn hm fin) hd
 ·rcases hk with hk|hk
  ·exact wpAny_Name (wpAny_loadName_cell I.ok.kind hk hc nX fin) hd
  ·exact wpAny_Name (wpAny_loadName_free I.ok.kind hk hc nX fin jo) hd
theorem aD{i j pos}:PE X (.Constant (.int i) j pos) (tC (.int i)):=λ_ _ _ H _ I h=>wpAny_Constant_int ⟨.int i,H,I.tok _,⟨_,Z⟩,h⟩
theorem iO{b j pos}:PE X (.Constant (.bool b) j pos) (tC (.bl b)):=λ_ _ _ H _ I h=>Constant_bool ⟨.bl b,H,I,Z,h⟩
theorem fo{j pos}:PE X (.Constant .none j pos) (tC .bN):=λ_ _ _ H _ I h=>Constant_none ⟨.bN,H,I,Z,h⟩
theorem fg{x j pos}:PE X (.Constant (.str x) j pos) (tC (.str x)):=λ_ _ _ H _ I h=>Calls.Constant_str ⟨.str x,H,I.tok _,⟨_,Z⟩,h⟩
def Gl(X:Cx)(x:Str):Prop:=X.env.kindOf x=some .globalImplicit
theorem BO{E:Value->ah->Prop}{ay:List (Addr×Obj)}{s:ah}{O:St}{H:Hp}{x:Str}{u:Value}{pos:Pos}{Q:Value->ah->Prop}(I:Inv X ay O H s)(hg:Gl X x)(hm:X.mg x=some u)(h:Q u s) (hd:(x==("__debug__":Str))=false:=by decide):wpAny (model X.prog X.w) X.A (eval (.Name x pos) X.env) Q E s:=Calls.Name_function_global I.ok.kind hg (Calls.loadGlobal_global (by rw[I.ok.glob];exact I.mod.glob.keeps I.bk) hm h) hd
theorem rE{E:Value->ah->Prop}{ay:List (Addr×Obj)}{s:ah}{O:St}{H:Hp}{x:Str}{u:Value}{pos:Pos}{Q:Value->ah->Prop}(I:Inv X ay O H s)(hg:Gl X x)(hm:X.mg x=none)(hv:bootBuiltins x=some u)(h:Q u s) (hn:x≠"__name__":=by decide)(hd:(x==("__debug__":Str))=false:=by decide):wpAny (model X.prog X.w) X.A (eval (.Name x pos) X.env) Q E s:=by obtain⟨mb,h1,h2⟩:=I.mod.blt;exact Calls.Name_function_global I.ok.kind hg (Calls.loadGlobal_builtin (by rw[I.ok.glob];exact I.mod.glob.keeps I.bk) hm (by rw[I.ok.blt];exact h1.keeps I.bk) ((h2 x hn).trans hv) h) hd
theorem Yo{x:Str}{v:V}{u:Value}{pos:Pos}(hg:Gl X x)(hm:X.mg x=some u)(r:RelV v u)(hd:(x==("__debug__":Str))=false:=by decide):PE X (.Name x pos) (tC v):=λ_ _ _ H _ I h=>BO I hg hm ⟨v,H,I,r,h⟩ hd
theorem cJ{x:Str}{v:V}{u:Value}{pos:Pos}(hg:Gl X x)(hm:X.mg x=none)(hv:bootBuiltins x=some u)(r:RelV v u)(hn:x≠"__name__":=by decide)(hd:(x==("__debug__":Str))=false:=by decide):PE X (.Name x pos) (tC v):=λ_ _ _ H _ I h=>rE I hg hm hv ⟨v,H,I,r,h⟩ hn hd
variable {a b:Expr}{ta tb:TE}{pos:Pos}
inductive ItB(Q:Bool->Hp->Prop)(x:V)(H1:Hp):Prop |mk (c:_)(h0:x= .bl c)(h1:Q c H1)
def tB(t:TE):TT:=λO H Q=>t O H λx H1=>ItB Q x H1
theorem bU{e:Expr}{t:TE}(h:PE X e t)(he:∀whole,isTrue e X.env whole=(do let v<-whole;standAt e.pos;holding [v] (truthy v)):=by intro _;rfl):PT X e (tB t):=by intro ay s O H Q I hw;refine isTrue_plain (ba (h ay s O H _ I hw) λv s1 ⟨x,H1,I1,r1,q1⟩=>?_) (he _);obtain⟨d,rfl,q⟩:=q1;cases r1;exact qy ⟨H1,I1,q⟩
variable {tA AS:TT} {rest:List Expr}
def VQ(t u:TT):TT:=λO H Q=>t O H λc H1=>if c=true then u O H1 Q else Q false H1
def Vw(t u:TT):TT:=λO H Q=>t O H λc H1=>if c=true then Q true H1 else u O H1 Q
def Vy(t:TT):TT:=λO H Q=>t O H λc H1=>Q (!c) H1
theorem qX(ha:PT X a tA):PW X (.BoolOp .And [a] pos) tA:=by intro wh ay s O H Q I h;refine isTrue_and (ba (ha ay s O H Q I h) λc s1 e=>?_);cases c with |true=>exact isTrue_and_nil e |false=>exact e
theorem iY(ha:PT X a tA):PW X (.BoolOp .Or [a] pos) tA:=by intro wh ay s O H Q I h;refine isTrue_or (ba (ha ay s O H Q I h) λc s1 e=>?_);cases c with |false=>exact isTrue_or_nil e |true=>exact e
theorem nJ(ha:PT X a tA)(hb:PW X (.BoolOp .And (b::rest) pos) AS):PW X (.BoolOp .And (a::b::rest) pos) (VQ tA AS):=by intro wh ay s O H Q I h;refine isTrue_and (ba (ha ay s O H _ I h) λc s1 ⟨H1,I1,q1⟩=>?_);cases c with |true=>exact hb wh ay s1 O H1 Q I1 q1 |false=>exact⟨H1,I1,q1⟩
theorem fQ(ha:PT X a tA)(hb:PW X (.BoolOp .Or (b::rest) pos) AS):PW X (.BoolOp .Or (a::b::rest) pos) (Vw tA AS):=by intro wh ay s O H Q I h;refine isTrue_or (ba (ha ay s O H _ I h) λc s1 ⟨H1,I1,q1⟩=>?_);cases c with |true=>exact⟨H1,I1,q1⟩ |false=>exact hb wh ay s1 O H1 Q I1 q1
theorem cU(ha:PT X a tA):PT X (.UnaryOp .Not a pos) (Vy tA):=by intro ay s O H Q I h;exact isTrue_not (ha ay s O H (λc H1=>Q (!c) H1) I h)
inductive a91(tb:TE)(O:St)(Q:VK)(x:V)(H1:Hp):Prop |mk (c:_)(h0:x= .bl c)(h1:if c=true then tb O H1 Q else Q (.bl false) H1)
def VP(ta tb:TE):TE:=λO H Q=>ta O H λx H1=>a91 tb O Q x H1
inductive a8X(Q:VK)(x:V)(H1:Hp):Prop |mk (c:_)(h0:x= .bl c)(h1:Q (.bl (!c)) H1)
def Vx(ta:TE):TE:=λO H Q=>ta O H λx H1=>a8X Q x H1
theorem gz{op}{t:TE}(h:PE X a t):PE X (.BoolOp op [a] pos) t:=λay s O H Q I hw=>BoolOp_one (h ay s O H Q I hw)
theorem fX(ha:PE X a ta)(hb:PE X (.BoolOp .And (b::rest) pos) tb):PE X (.BoolOp .And (a::b::rest) pos) (VP ta tb):=by intro ay s O H Q I h;refine BoolOp_and (ba (ha ay s O H _ I h) λv s1 ⟨x,H1,I1,r1,q1⟩=>?_);obtain⟨c,rfl,q1⟩:=q1;cases r1;refine qy ?_;cases c with |true=>exact hb ay s1 O H1 Q I1 q1 |false=>exact⟨.bl false,H1,I1,Z,q1⟩
theorem vU(ha:PE X a ta):PE X (.UnaryOp .Not a pos) (Vx ta):=by intro ay s O H Q I h;refine UnaryOp_ (ba (ha ay s O H _ I h) λv s1 ⟨x,H1,I1,r1,q1⟩=>?_);obtain⟨c,rfl,q1⟩:=q1;cases r1;exact not_of (qy ⟨.bl (!c),H1,I1,Z,q1⟩)
def VI(t:TT)(ta tb:TE):TE:=λO H Q=>t O H λc H1=>if c=true then ta O H1 Q else tb O H1 Q
theorem vV{c:Expr}(hc:PT X c tA)(ha:PE X a ta)(hb:PE X b tb):PE X (.IfExp c a b pos) (VI tA ta tb):=by intro ay s O H Q I h;refine wpAny_IfExp (ba (hc ay s O H _ I h) λd s1 ⟨H1,I1,q1⟩=>?_);cases d with |true=>exact ha ay s1 O H1 Q I1 q1 |false=>exact hb ay s1 O H1 Q I1 q1
end
def aK(K:ag)(H:Hp)(a:Addr)(xs:List V):Prop:=Rd H a (.lst xs)\/ ∃(o:Obj)(its:Array Value)(n:Nat),K.lookup a=some o/\o.cls= .type "list"/\o.dict=none/\o.data= .seq its n/\its.size<=sizeLine/\Vals xs its.toList
def aU(K:ag)(H:Hp)(a:Addr)(xs:List V):Prop:=Rd H a (.tup xs)\/ ∃(o:Obj)(its:Array Value)(n:Nat),K.lookup a=some o/\o.cls= .type "tuple"/\o.data= .seq its n/\its.size<=sizeLine/\Vals xs its.toList
def a8x:Value->Option V | .none=>some .bN | .bool b=>some (.bl b) | .int i _=>some (.int i) | .str x _=>some (.str x) | .bytes b _=>some (.wZ b) | .float b _=>some (.Ci b) | .ref a=>some (.ref a) | .type n=>some (.ty n) |_=>none
theorem RelV.abs{x:V}{u:Value}(r:RelV x u):a8x u=some x:=by cases x with |bN=>cases r;rfl |bl _=>cases r;rfl |int _=>obtain⟨t,rfl⟩:=r;rfl |str _=>obtain⟨t,rfl⟩:=r;rfl |wZ _=>obtain⟨t,rfl⟩:=r;rfl |Ci _=>obtain⟨t,rfl⟩:=r;rfl |ref _=>cases r;rfl |ty _=>cases r;rfl
theorem RelV.inj{x y:V}{u:Value}(r:RelV x u)(q:RelV y u):x=y:=eO (r.abs.symm.trans q.abs)
theorem Vals.inj:∀{xs ys:List V}{us:List Value},Vals xs us->Vals ys us->xs=ys |_,_,_,.nil,.nil=>rfl |_,_,_,.cons r t,.cons r' t'=>by rw[r.inj r',Vals.inj t t']
section
variable {X:Cx}{ay:List (Addr×Obj)}{O:St}{H:Hp}{s:ah}{a:Addr}{xs ys:List V}
theorem aK.of{K:ag}(h:H a=some (.lst xs)):aK K H a xs:=.inl (.inl h)
theorem aU.of{K:ag}(h:H a=some (.tup xs)):aU K H a xs:=.inl (.inl h)
theorem Inv.list(I:Inv X ay O H s)(h:aK X.K H a xs):∃its:List Value,Vals xs its/\PlainL s.heap a its.toArray/\xs.length<=sizeLine:=by
 rcases h with h|⟨o,its,n,hk,hc,hd,hs,hz,r⟩
 ·obtain⟨z,its,n,r,e⟩:=h.ok I.bD
  exact⟨its,r,⟨_,n,e,Z,Z,Z⟩,z⟩
 ·refine⟨its.toList,r,⟨o,n,I.iD a o hk,hc,hd,by simpa using hs⟩,?_⟩
  have e:=r.length;simp only[Ax]at e
  lia
theorem Inv.tuple(I:Inv X ay O H s)(h:aU X.K H a xs):∃its:List Value,Vals xs its/\IsTup s.heap a its.toArray/\xs.length<=sizeLine:=by
 rcases h with h|⟨o,its,n,hk,hc,hs,hz,r⟩
 ·obtain⟨z,its,r,p⟩:=h.ok I.bD
  exact⟨its,r,p,z⟩
 ·refine⟨its.toList,r,⟨o,I.iD a o hk,hc,n,by simpa using hs⟩,?_⟩
  have e:=r.length;simp only[Ax]at e
  lia
theorem Inv.Pq(I:Inv X ay O H s)(h:aK X.K H a xs)(h':aK X.K H a ys):xs=ys:=by
 obtain⟨its,r,⟨o,n,e,_,_,d⟩,_⟩:=I.list h;obtain⟨its',r',⟨o',n',e',_,_,d'⟩,_⟩:=I.list h';rw[e]at e';cases e';rw[d]at d';injection d' with d1 _;have:its=its':=by simpa using congrArg Array.toList d1
 subst this;exact r.inj r'
theorem Inv.Kx(I:Inv X ay O H s)(h:aU X.K H a xs)(h':aU X.K H a ys):xs=ys:=by
 obtain⟨its,r,⟨o,e,_,n,d⟩,_⟩:=I.tuple h;obtain⟨its',r',⟨o',e',_,n',d'⟩,_⟩:=I.tuple h';rw[e]at e';cases e';rw[d]at d';injection d' with d1 _;have:its=its':=by simpa using congrArg Array.toList d1
 subst this;exact r.inj r'
end
abbrev Cx.jR(X:Cx)(E:Value->ah->Prop):Cx:={X with xe:=E}
abbrev Cx.pq(X:Cx):Cx:=X.jR λ_ _=>False
theorem Cx.Ok.jR{X:Cx}(ok:X.Ok)(E:Value->ah->Prop):(X.jR E).Ok:=⟨ok.mod,ok.kind,ok.glob,ok.blt,ok.above,ok.inj,ok.has,ok.uZ,ok.hd,ok.frames,ok.vy,ok.Ck,ok.bs,ok.mZ,ok.tV,ok.pY,ok.kf,ok.pV⟩
theorem Cx.Ok.ny{X:Cx}{E:Value->ah->Prop}(ok:(X.jR E).Ok):X.Ok:=⟨ok.mod,ok.kind,ok.glob,ok.blt,ok.above,ok.inj,ok.has,ok.uZ,ok.hd,ok.frames,ok.vy,ok.Ck,ok.bs,ok.mZ,ok.tV,ok.pY,ok.kf,ok.pV⟩
section
variable {X:Cx}{ay:List (Addr×Obj)}{O:St}{H:Hp}{s:ah}{E:Value->ah->Prop}
theorem Inv.jR(I:Inv X ay O H s)(E:Value->ah->Prop):Inv (X.jR E) ay O H s:=⟨I.ok.jR E,I.os,I.bare,I.aA,I.loc,I.cell,I.free,I.kh,I.pin,I.bD,I.len⟩
theorem Inv.ny(I:Inv (X.jR E) ay O H s):Inv X ay O H s:=⟨I.ok.ny,I.os,I.bare,I.aA,I.loc,I.cell,I.free,I.kh,I.pin,I.bD,I.len⟩
theorem SP.ny{D:Ends}{f:Flow}{s':ah}(h:SP (X.jR E) ay D f s'):SP X ay D f s':=by cases f with |next=>obtain⟨σ',H',I,q⟩:=h;exact⟨σ',H',I.ny,q⟩ |brk=>obtain⟨σ',H',I,q⟩:=h;exact⟨σ',H',I.ny,q⟩ |cont=>obtain⟨σ',H',I,q⟩:=h;exact⟨σ',H',I.ny,q⟩ |ret u=>obtain⟨v,σ',H',I,r,q⟩:=h;exact⟨v,σ',H',I.ny,r,q⟩
theorem gT.pq{st:List Stmt}{t:TS}(h:gT X.pq st t):gT X st t:=λay s O H D I hw=>fU (h ay s O H D (I.jR _) hw) (λ_ _ q=>q.ny) λ_ _ z=>False.elim z
end
section
variable {X:Cx}{st:Stmt}{rest:List Stmt}{t u:TS}{e:Expr}{te:TE}{pos:Pos}
def VA:TS:=λD O H=>D.nx O H
def Ds(t u:TS):TS:=λD O H=>t {D with nx:=u D} O H
theorem bA:gT X [] VA:=λ_ _ O H _ I h=>CT ⟨O,H,I,h⟩
theorem aE(h1:PS X st t)(h2:gT X rest u):gT X (st::rest) (Ds t u):=by intro ay s O H D I h;refine JK (ba (h1 ay s O H {D with nx:=u D} I h) λf s1 q=>?_);cases f with |next=>obtain⟨σ',H',I',q⟩:=q;exact h2 ay s1 σ' H' D I' q |ret v=>exact q |brk=>exact q |cont=>exact q
theorem aG(h1:PS X st t):gT X [st] t:=by intro ay s O H D I h;refine JK (ba (h1 ay s O H D I h) λf s1 q=>?_);cases f with |next=>exact CT q |ret v=>exact q |brk=>exact q |cont=>exact q
theorem Inv.quiet{ay:List (Addr×Obj)}{O:St}{H:Hp}{s:ah}(I:Inv X ay O H s):interactive X.env=false:=by simp[interactive,I.ok.kind]
def VL(te:TE):TS:=λD O H=>te O H λ_ H1=>D.nx O H1
theorem e9(he:PE X e te)(hs:swapsWith e none pos.line X.env=pure false:=by rfl):PS X (.Expr e pos) (VL te):=by intro ay s O H D I h;exact wpAny_Expr_any (ba (he ay s O H _ I h) λv s1 ⟨x,H1,I1,r1,q1⟩=>⟨O,H1,I1,q1⟩) I.quiet hs
def Vt(te:TE):TS:=λD O H=>te O H D.rt
theorem aR(he:PE X e te):PS X (.Return (some e) pos) (Vt te):=by intro ay s O H D I h;exact wpAny_Return_some (ba (he ay s O H _ I h) λv s1 ⟨x,H1,I1,r1,q1⟩=>⟨x,O,H1,I1,r1,q1⟩)
def VH(c:TT)(t u:TS):TS:=λD O H=>c O H λb H1=>if b=true then t D O H1 else u D O H1
theorem bp{c:Expr}{a b:List Stmt}{tc:TT}(hc:PT X c tc)(ha:gT X a t)(hb:gT X b u):PS X (.If c a b pos) (VH tc t u):=by intro ay s O H D I h;refine wpAny_If (ba (hc ay s O H _ I h) λd s1 ⟨H1,I1,q1⟩=>?_);cases d with |true=>exact ha ay s1 O H1 D I1 q1 |false=>exact hb ay s1 O H1 D I1 q1
def VB:TS:=λ_ _ _=>False
theorem jW:PS X st VB:=λ_ _ _ _ _ _ h=>h.elim
end
abbrev TG:=V->St->Hp->(St->Hp->Prop)->Prop
abbrev oq:=List V->St->Hp->(St->Hp->Prop)->Prop
def PG(X:Cx)(target:Expr)(t:TG):Prop:=∀(ay:List (Addr×Obj))(s:ah)(O:St)(H:Hp)(v:V)(u:Value)(Q:St->Hp->Prop),Inv X ay O H s->RelV v u->t v O H Q->wpAny (model X.prog X.w) X.A (assign target X.env u) (λ_ s'=>∃σ' H',Inv X ay σ' H' s'/\Q σ' H') X.xe s
def zZ(X:Cx)(ts:List Expr)(t:oq):Prop:=∀(ay:List (Addr×Obj))(s:ah)(O:St)(H:Hp)(vs:List V)(us:List Value)(Q:St->Hp->Prop),Inv X ay O H s->Vals vs us->t vs O H Q->wpAny (model X.prog X.w) X.A (assignInOrder ((assignEach ts X.env).map (·.2)) us) (λ_ s'=>∃σ' H',Inv X ay σ' H' s'/\Q σ' H') X.xe s
abbrev Jy:=V->V->V->Hp->(Hp->Prop)->Prop
def Tv(X:Cx)(t:Jy):Prop:=∀(ay:List (Addr×Obj))(s:ah)(O:St)(H:Hp)(o i v:V)(ov iv u:Value)(Q:Hp->Prop),Inv X ay O H s->RelV o ov->RelV i iv->RelV v u->t o i v H Q->wpAny (model X.prog X.w) X.A (setItem ov iv u) (λ_ s'=>∃H',Inv X ay O H' s'/\Q H') X.xe s
abbrev Tj:=V->V->Hp->VK->Prop
def PIp(X:Cx)(op:Operator)(t:Tj):Prop:=∀(ay:List (Addr×Obj))(s:ah)(O:St)(H:Hp)(x y:V)(v u:Value)(Q:VK),Inv X ay O H s->RelV x v->RelV y u->t x y H Q->wpAny (model X.prog X.w) X.A (inplaceOp op v u) (EP X ay O Q) X.xe s
section
variable {X:Cx} {pos:Pos}
def g9(i:Nat):TG:=λv O H Q=>Q (O.set i (some v)) H
theorem Yh{i:Nat}{x:Str}(hN:X.N.Nodup)(hi:X.N[i]? =some x)(hx:Loc X.env.scope x)(hf:X.fn x=true\/X.env.scope.names.lookup x=some .local:=by first|exact .inl rfl|exact .inr rfl|assumption):PG X (.Name x pos) (g9 i):=by intro ay s O H v u Q I r h;exact wpAny_assign_Name (vx I hN hi hx r (λs' I'=>⟨_,H,I',h⟩) hf)
def Cf:oq:=λvs O H Q=>vs=[]/\Q O H
inductive aaK(t:TG)(u:oq)(vs:List V)(O:St)(H:Hp)(Q:St->Hp->Prop):Prop |mk (v:_)(r:_)(h0:vs=v::r)(h1:t v O H λσ' H'=>u r σ' H' Q)
def uI(t:TG)(u:oq):oq:=λvs O H Q=>aaK t u vs O H Q
theorem cV:zZ X [] Cf:=by intro ay s O H vs us Q I r h;obtain⟨e,h⟩:=h;subst e;cases r;exact assignInOrder_nil ⟨O,H,I,h⟩
theorem bC{e:Expr}{es:List Expr}{t:TG}{u:oq}(h1:PG X e t)(h2:zZ X es u) (hs:(assignEach (e::es) X.env).map (·.2)=assign e X.env::(assignEach es X.env).map (·.2):=by rfl):zZ X (e::es) (uI t u):=by intro ay s O H vs us Q I r h;obtain⟨v,vr,e1,h⟩:=h;subst e1;cases r with |cons r rr=>rw[hs];refine assignInOrder_cons (ba (h1 ay s O H _ _ _ I r h) λ_ s1 ⟨σ1,H1,I1,q1⟩=>?_);exact h2 ay s1 σ1 H1 _ _ Q I1 rr q1
inductive aaJ(K:ag)(n:Nat)(t:oq)(v:V)(O:St)(H:Hp)(Q:St->Hp->Prop):Prop |mk (a:_)(xs:_)(h0:v= .ref a)(h1:aU K H a xs)(h2:xs.length=n)(h3:t xs O H Q)
def zq(K:ag)(n:Nat)(t:oq):TG:=λv O H Q=>aaJ K n t v O H Q
theorem Yg{es:List Expr}{k:Nat}{t:oq}{n:Nat}(hc:X.calm=true)(h:zZ X es t) (hn:(assignEach es X.env).length=n:=by rfl)(ib:(assignEach es X.env).findIdx? (·.1)=none:=by rfl):PG X (.Tuple es k pos) (zq X.K n t):=by intro ay s O H v u Q I r hw;obtain⟨a,xs,e1,hq,hl,hw⟩:=hw;subst e1;cases r;obtain⟨its,rv,ht,hz⟩:=I.tuple hq;refine assign_Tuple_tuple (I.ok.hd hc) ht (by simp[hn,<-hl,rv.length]) ib λh' hx=>?_;have I1:Inv X ay O H {s with heap:=h'}:=I.kept (t':=s.toks) λb o e=>hx b o (eQ (cA e)) e;exact h ay _ O H xs _ Q I1 (by simpa using rv) hw
def a5h(to ti:TE)(t:Jy):TG:=λv O H Q=>to O H λo H1=>ti O H1 λi H2=>t o i v H2 λH3=>Q O H3
theorem tP{o i:Expr}{to ti:TE}{t:Jy}(ho:PE X o to)(hi:PE X i ti)(hs:Tv X t) (ha:∀v,assign (.Subscript o i pos) X.env v=(do
 let ov<-holding [v] (eval o X.env)
 let iv<-holding [v,ov] (eval i X.env)
 standAt pos
 holding [v,ov,iv] (setItem ov iv v)
 release [v,ov,iv] []):=by intro _;rfl):PG X (.Subscript o i pos) (a5h to ti t):=by
 intro ay s O H v u Q I r h;rw[ha];refine aP (Ab (ba (ho ay s O H _ I h) λov s1 ⟨x,H1,I1,r1,q1⟩=>?_));refine aP (Ab (ba (hi ay s1 O H1 _ I1 q1) λiv s2 ⟨y,H2,I2,r2,q2⟩=>?_));refine aP (vk (aP (Ab (ba (hs ay s2 O H2 x y v ov iv u _ I2 r1 r2 r q2) λ_ s3 ⟨H3,I3,q3⟩=>?_))));exact wpAny_release ⟨O,H3,I3,q3⟩
def AU(te:TE)(g:TG):TS:=λD O H=>te O H λx H1=>g x O H1 D.nx
theorem eU{tg e:Expr}{te:TE}{g:TG}(he:PE X e te)(hg:PG X tg g)(hs:swapsWithSole [tg] e pos.line X.env=pure false:=by rfl)(hw:swappedStores [tg] e X.env=pure none:=by rfl) (h1:(assignEach [tg] X.env).map (·.2)=[assign tg X.env]:=by rfl):PS X (.Assign [tg] e pos) (AU te g):=by intro ay s O H D I h;refine wpAny_Assign_stores (ba (he ay s O H _ I h) λv s1 ⟨x,H1,I1,r1,q1⟩=>?_) hs hw;rw[h1];exact ba (hg ay s1 O H1 x v _ I1 r1 q1) λ_ s2 q=>q
theorem Y7{i:Nat}{x:Str}{e:Expr}{te:TE}{pos':Pos}(hN:X.N.Nodup)(hi:X.N[i]? =some x)(hx:Loc X.env.scope x)(he:PE X e te)(hs:swapsWith e (some (.Name x pos')) pos.line X.env=pure false:=by rfl)(hf:X.fn x=true\/X.env.scope.names.lookup x=some .local:=by first|exact .inl rfl|exact .inr rfl|assumption): PS X (.Assign [.Name x pos'] e pos) (AU te (g9 i)):=by intro ay s O H D I h;refine wpAny_Assign_Name (ba (he ay s O H _ I h) λv s1 ⟨y,H1,I1,r1,q1⟩=>?_) hs;exact vx I1 hN hi hx r1 (λs2 I2=>⟨_,H1,I2,q1⟩) hf
inductive a8W(i:Nat)(j:Nat)(D:Ends)(O:St)(vs:List V)(H1:Hp):Prop |mk (v:_)(w:_)(h0:vs=[v,w])(h1:D.nx ((O.set i (some v)).set j (some w)) H1)
def Vv(i j:Nat)(ta:TA):TS:=λD O H=>ta O H λvs H1=>a8W i j D O vs H1
theorem p4{i j:Nat}{x y:Str}{a b:Expr}{ta:TA}{px py pt:Pos} {kt k2 yg}(hc:X.calm=true)(hN:X.N.Nodup)(hi:X.N[i]? =some x)(hj:X.N[j]? =some y)(hij:i≠j) (hx:X.env.scope.names.lookup x=some .local)(hy:X.env.scope.names.lookup y=some .local)(ha:PA X [a,b] ta) (hw:swappedStores [.Tuple [.Name x px,.Name y py] kt pt] (.Tuple [a,b] k2 yg) X.env=pure (some [x,y])) (hs:swapsWithSole [.Tuple [.Name x px,.Name y py] kt pt] (.Tuple [a,b] k2 yg) pos.line X.env=pure false:=by rfl): PS X (.Assign [.Tuple [.Name x px,.Name y py] kt pt] (.Tuple [a,b] k2 yg) pos) (Vv i j ta):=by
 intro ay s O H D I h;rw[exec_Assign_arm];refine aP (vk ?_);rw[hs];refine aP (cg ?_);rw[bB aB];refine aP (Tuple_ (ba (ha _ ay s O H _ I h) λus s1 ⟨vs,H1,I1,r1,q1⟩=>?_));obtain⟨v,w,e1,q1⟩:=q1;subst e1;obtain⟨u1,u2,rfl,rv,dG⟩:∃u1 u2,us=[u1,u2]/\RelV v u1/\RelV w u2:=by cases r1 with |cons p q=>cases q with |cons p' q'=>cases q';exact⟨_,_,Z,p,p'⟩
 refine oE ?_ (by show 2<=sizeLine;decide);have I2:Inv X ay O H1 {s1 with heap:=s1.heap.push {cls:=.type "tuple",data:=.seq [u1,u2].toArray}}:=I1.kept (t':=s1.toks) λb o e=>cF _ e;rw[hw];refine aP (cg ?_);show wpAny (model X.prog X.w) X.A (do rule "assign.swapped-stores";let items<-unpackItems (.ref s1.heap.objs.size) 2 none;assignInOrder [λv=>bindName X.env y v,λv=>bindName X.env x v] items.reverse;pure Flow.next) _ _ _;refine aP (Aa (aP (unpackItems_tuple (items:=#[u1,u2]) (I.ok.hd hc) (IsTup.new s1.heap _) λh' hx'=>?_)));have I3:=I2.kept (h':=h') (t':=s1.toks) λb o e=>hx' b o (eQ (cA e)) e;show wpAny _ _ (assignInOrder [λv=>bindName X.env y v,λv=>bindName X.env x v] [u2,u1]>>=λ_=>pure Flow.next) _ _ _;refine aP (assignInOrder_cons (wpAny_bindName (vx I3 hN hj (.inl hy) dG (λs2 I4=>?_) (.inr hy))));refine assignInOrder_cons (wpAny_bindName (vx I4 hN hi (.inl hx) rv (λs3 I5=>assignInOrder_nil (cg ?_)) (.inr hx)));rw[List.set_comm _ _ (jy hij)]at I5;exact⟨_,H1,I5,q1⟩
inductive aaA(f:Int->Int->Int)(x:V)(y:V)(H:Hp)(Q:VK):Prop |mk (i:_)(j:_)(h0:x= .int i)(h1:y= .int j)(h2:Q (.int (f i j)) H)
def ipI(f:Int->Int->Int):Tj:=λx y H Q=>aaA f x y H Q
theorem a2A:PIp X .Add (ipI λi j=>i+j):=by intro ay s O H x y v u Q I r1 r2 h;obtain⟨i,j,e1,e2,q⟩:=h;subst e1;subst e2;obtain⟨t,rfl⟩:=r1;obtain⟨t',rfl⟩:=r2;exact iadd_int ⟨.int _,H,I.tok _,⟨_,Z⟩,q⟩
def KD(c:TT)(tb:TS):TS:=λD O H=>∃W:Nat->St->Hp->Prop,(∃m,W m O H)/\∀m O H,W m O H->c O H λb H1=>if b=true then∃N:St->Hp->Prop,(∀σ' H',N σ' H'->∃m',m'<m/\W m' σ' H')/\tb {D with nx:=N,ct:=N,bk:=D.nx} O H1 else D.nx O H1
theorem nK{c:Expr}{body:List Stmt}{tc:TT}{tb:TS}(hp:PassesOwn (model X.prog X.w) X.A X.env X.xe)(hc:PT X c tc)(hb:gT X body tb):PS X (.While c body [] pos) (KD tc tb):=by intro ay s O H D I h;obtain⟨W,⟨m0,w0⟩,turn⟩:=h;refine wpAny_While (codeAny_whileLoop (λn s'=>∃σ' H',Inv X ay σ' H' s'/\W n σ' H') ?_ m0 ⟨O,H,I,w0⟩);rintro n s1 ⟨σ1,H1,I1,w1⟩;refine xq hp (ba (hc ay s1 σ1 H1 _ I1 (turn n σ1 H1 w1)) λb s2 ⟨H2,I2,q2⟩=>?_);cases b with
 |true=>obtain⟨N,hN,q2⟩:=q2;rw[bo rfl];refine xq hp (ba (hb ay s2 σ1 H2 _ I2 q2) λf s3 q3=>?_);cases f with |next=>obtain⟨σ3,H3,I3,n3⟩:=q3;obtain⟨m',hm,w3⟩:=hN σ3 H3 n3;exact⟨m',hm,σ3,H3,I3,w3⟩ |cont=>obtain⟨σ3,H3,I3,n3⟩:=q3;obtain⟨m',hm,w3⟩:=hN σ3 H3 n3;exact⟨m',hm,σ3,H3,I3,w3⟩ |brk=>exact q3 |ret v=>exact q3
 |false=>rw[bB iX];exact CT ⟨σ1,H2,I2,q2⟩
end
structure It where
 go:Nat->Hp->Prop
 jf:Nat->Hp->V->Hp->Prop
 stop:Nat->Hp->Prop
def jw(X:Cx)(ay:List (Addr×Obj))(H:Hp)(b:Addr):Prop:=H b=none/\b≠X.env.locals/\b∉X.fs/\(b∈X.ex\/X.s₀.heap.objs.size<=b)/\(∀x c,X.env.cells.lookup x=some c->c≠b)/\∀p∈X.pn++ay,p.1≠b
theorem Inv.sj{X:Cx}{ay:List (Addr×Obj)}{O:St}{H H':Hp}{s:ah}{b:Addr}(I:Inv X ay O H s)(hb:s.heap.objs.size<=b)(hn:H' b=none):jw X ay H' b:=by
 refine⟨hn,D9 (fO I.lt hb),I.a0G hb,.inr (gU I.sz hb),λx c e z=>?_,λp hp z=>?_⟩
 ·obtain⟨v,q⟩:=I.cell x c e
  exact absurd (fO q.lt (by rw[z];exact hb)) (Aj _)
 ·exact absurd (fO (cA (I.pin p hp).1) (by rw[z];exact hb)) (Aj _)
structure Turn(P:ai)(w:World)(K:ag)(tg:Expr)(J:It)(fp:List Addr)(it:Addr)(tn:Nat->Heap->Prop):Prop where
 mem:it∈fp
 obj:∀i h,tn i h->∀b∈fp,∃o,h.get? b=some o/\∀v,o.data≠ .cell v
 keep:∀i h h',tn i h->(∀b∈fp,∀o,h.get? b=some o->h'.get? b=some o)->tn i h'
 item:∀(X:Cx),X.prog=P->X.w=w->X.K=K->X.calm=true->∀(i:Nat)(ay:List (Addr×Obj))(s:ah)(O:St)(H:Hp)(E:Value->ah->Prop),Inv X ay O H s->(∀b∈fp,jw X ay H b)->tn i s.heap->J.go i H->wpAny (model P w) X.A (pyNext (.ref it)) (λr s1=>∃u,r=some u/\wpAny (model P w) X.A (letOwnedTupleGo tg (.ref it) u) (λ_ s2=>∃x H',Inv X ay O H' s2/\RelV x u/\J.jf i H x H'/\tn (i+1) s2.heap/\∀b∈fp,H' b=none) E s1) E s
 done:∀(X:Cx),X.prog=P->X.w=w->X.K=K->X.calm=true->∀(i:Nat)(ay:List (Addr×Obj))(s:ah)(O:St)(H:Hp)(E:Value->ah->Prop),Inv X ay O H s->(∀b∈fp,jw X ay H b)->tn i s.heap->J.stop i H->wpAny (model P w) X.A (pyNext (.ref it)) (λr s1=>r=none/\Inv X ay O H s1) E s
 self:∀(A:ak)(i:Nat)(s:ah)(Q:Value->ah->Prop)(E:Value->ah->Prop),tn i s.heap->Q (.ref it) s->wpAny (model P w) A (pyIter (.ref it)) Q E s
abbrev TI:=St->Hp->(It->Hp->Prop)->Prop
def JD(X:Cx)(ay:List (Addr×Obj))(O:St)(tg:Expr)(R:It->Hp->Prop)(yS:Value)(s2:ah):Prop:=∃(it:Addr)(fp:List Addr)(tn:Nat->Heap->Prop)(J:It)(H':Hp),yS= .ref it/\Inv X ay O H' s2/\Turn X.prog X.w X.K tg J fp it tn/\tn 0 s2.heap/\(∀b∈fp,jw X ay H' b)/\R J H'
def PI(X:Cx)(tg iter:Expr)(wi:TI):Prop:=∀(ay:List (Addr×Obj))(s:ah)(O:St)(H:Hp)(R:It->Hp->Prop),Inv X ay O H s->wi O H R->wpAny (model X.prog X.w) X.A (eval iter X.env) (λv s1=>wpAny (model X.prog X.w) X.A (pyIter v) (JD X ay O tg R) X.xe s1) X.xe s
theorem zp{M:Model}{A:ak}{E:Value->ah->Prop}{s:ah}{tg:Expr}{it:Addr}{u:Value}{o:Obj}{n:String}{vs:Array Value}{Q:Unit->ah->Prop}(ho:s.heap.get? it=some o)(hc:o.cls= .type n)(hd:o.data= .fields vs) (hn:["enumerate","zip","dict_itemiterator","dict_reverseitemiterator","odict_iterator","itertools.zip_longest","itertools.pairwise"].contains n=false)(hQ:Q () s):wpAny M A (letOwnedTupleGo tg (.ref it) u) Q E s:=by unfold letOwnedTupleGo;cases tg<;>first |exact cg hQ |(cases u<;>first
        |exact cg hQ
        | (refine aP (wpAny_load ho ?_)
           rw[hc,hd];show wpAny M A (if(["enumerate","zip","dict_itemiterator","dict_reverseitemiterator","odict_iterator","itertools.zip_longest","itertools.pairwise"].contains n&&vs[0]? ==some (rawInt _))=true then _ else _) Q E s;rw[bB (by intro h;rw[hn,lj]at h;cases h)];exact cg hQ))
def sR(K:ag)(a:Addr):It:=⟨λi H=>∃xs x,aK K H a xs/\xs[i]? =some x,λi H x H'=>H'=H/\∀xs,aK K H a xs->xs[i]? =some x,λi H=>∃xs,aK K H a xs/\xs.length<=i⟩
def sQ(K:ag)(a:Addr):It:=⟨λi H=>∃xs x,aU K H a xs/\xs[i]? =some x,λi H x H'=>H'=H/\∀xs,aU K H a xs->xs[i]? =some x,λi H=>∃xs,aU K H a xs/\xs.length<=i⟩
def oz(lo:Int)(n:Nat):It:=⟨λi _=>i<n,λi H x H'=>H'=H/\x= .int (lo+i),λi _=>n<=i⟩
theorem Vd{P:ai}{w:World}{K:ag}{tg:Expr}(a it:Addr):Turn P w K tg (sR K a) [it] it (λi h=>h.IsListIter it a i) where
 mem:=by simp
 obj:=λi h st b hb=>by
  have e:b=it:=by simpa using hb
  subst e;obtain⟨o,e,c,d⟩:=st;exact⟨o,e,λv z=>by rw[d]at z;cases z⟩
 keep:=λi h h' st k=>st.at λo e=>k it (by simp) o e
 item:=by intro X hP hw hK hc i ay s O H E I hf st hg;subst hP hw hK;obtain⟨xs,x,hq,hx⟩:=hg;obtain⟨its,rv,p,hz⟩:=I.list hq;obtain⟨u,hu,ru⟩:=rv.get hx;obtain⟨f0,f1,f2,f3,f4,f5⟩:=hf it (by simp);refine wpAny_pyNext_list_item st p.isList (x:=u) (by simpa using hu) λh' gZ sb=>?_;have I1:Inv X ay O H {s with heap:=h'}:=I.turned (t':=s.toks) (λb o hb e=>(sb.2 b hb).trans e) f0 f1 f3 f4 f5;obtain⟨o,e,c,d⟩:=id gZ;exact⟨u,Z,zp (s:={s with heap:=h'}) e c d aB ⟨x,H,I1,ru,⟨Z,λys hy=>by rw[I.Pq hy hq];exact hx⟩,gZ,λb hb=>(hf b hb).1⟩⟩
 done:=by intro X hP hw hK hc i ay s O H E I hf st hg;subst hP hw hK;obtain⟨xs,hq,hx⟩:=hg;obtain⟨its,rv,p,hz⟩:=I.list hq;obtain⟨f0,f1,f2,f3,f4,f5⟩:=hf it (by simp);have hl:=rv.length;exact wpAny_pyNext_list_end (I.ok.hd hc) st p.isList (by simp;lia) λh' eb=>⟨Z,I.turned (t':=s.toks) (λb o hb e=>eb b o hb e) f0 f1 f3 f4 f5⟩
 self:=λ_ _ _ _ _ st h=>wpAny_pyIter_listiter st h
theorem V9{P:ai}{w:World}{K:ag}{tg:Expr}(a it:Addr):Turn P w K tg (sQ K a) [it] it (λi h=>h.IsTupleIter it a i) where
 mem:=by simp
 obj:=λi h st b hb=>by
  have e:b=it:=by simpa using hb
  subst e;obtain⟨o,e,c,d⟩:=st;exact⟨o,e,λv z=>by rw[d]at z;cases z⟩
 keep:=λi h h' st k=>st.at λo e=>k it (by simp) o e
 item:=by intro X hP hw hK hc i ay s O H E I hf st hg;subst hP hw hK;obtain⟨xs,x,hq,hx⟩:=hg;obtain⟨its,rv,p,hz⟩:=I.tuple hq;obtain⟨u,hu,ru⟩:=rv.get hx;obtain⟨f0,f1,f2,f3,f4,f5⟩:=hf it (by simp);refine wpAny_pyNext_tuple_item st (show s.heap.IsTuple a its.toArray from p) (x:=u) (by simpa using hu) λh' gZ sb=>?_;have I1:Inv X ay O H {s with heap:=h'}:=I.turned (t':=s.toks) (λb o hb e=>(sb.2 b hb).trans e) f0 f1 f3 f4 f5;obtain⟨o,e,c,d⟩:=id gZ;exact⟨u,Z,zp (s:={s with heap:=h'}) e c d aB ⟨x,H,I1,ru,⟨Z,λys hy=>by rw[I.Kx hy hq];exact hx⟩,gZ,λb hb=>(hf b hb).1⟩⟩
 done:=by intro X hP hw hK hc i ay s O H E I hf st hg;subst hP hw hK;obtain⟨xs,hq,hx⟩:=hg;obtain⟨its,rv,p,hz⟩:=I.tuple hq;obtain⟨f0,f1,f2,f3,f4,f5⟩:=hf it (by simp);have hl:=rv.length;exact wpAny_pyNext_tuple_end (I.ok.hd hc) st (show s.heap.IsTuple a its.toArray from p) (by simp;lia) λh' eb=>⟨Z,I.turned (t':=s.toks) (λb o hb e=>eb b o hb e) f0 f1 f3 f4 f5⟩
 self:=λ_ _ _ _ _ st h=>wpAny_pyIter_tupleiter st h
theorem Vc{P:ai}{w:World}{K:ag}{tg:Expr}(it:Addr)(lo:Int)(n:Nat):Turn P w K tg (oz lo n) [it] it (λi h=>IsRangeIter h it (lo+(i:Nat)*1) ((n:Int)-(i:Nat)) 1) where
 mem:=by simp
 obj:=λi h st b hb=>by
  have e:b=it:=by simpa using hb
  subst e;exact⟨_,st,λv z=>by have z':Data.fields _=Data.cell v:=z;cases z'⟩
 keep:=λi h h' st k=>k it (by simp) _ st
 item:=by intro X hP hw hK hc i ay s O H E I hf st hg;subst hP hw hK;obtain⟨f0,f1,f2,f3,f4,f5⟩:=hf it (by simp);have W:=Walks.range (prog:=X.prog) (w:=X.w) (I.ok.hd hc) it lo 1 n;refine W.item i s _ _ hg st λv h' tk hv gZ kk=>?_;obtain⟨t,rfl⟩:=hv;have I1:Inv X ay O H {s with heap:=h',toks:=tk}:=I.turned (λb o hb e=>kk b o (by simpa using hb) e) f0 f1 f3 f4 f5;refine⟨_,Z,zp (s:={s with heap:=h',toks:=tk}) (n:="range_iterator") gZ rfl rfl aB ⟨.int (lo+i),H,I1,⟨t,?_⟩,⟨Z,Z⟩,gZ,λb hb=>(hf b hb).1⟩⟩;rw[Int.mul_one]
 done:=by intro X hP hw hK hc i ay s O H E I hf st hg;subst hP hw hK;obtain⟨f0,f1,f2,f3,f4,f5⟩:=hf it (by simp);exact wpAny_pyNext_range_end (I.ok.hd hc) st (by have:n<=i:=hg;lia) λh' eb=>⟨Z,I.turned (t':=s.toks) (λb o hb e=>eb b o hb e) f0 f1 f3 f4 f5⟩
 self:=λ_ _ _ _ _ st h=>TX st h
section
variable {X:Cx} {tg:Expr}
inductive aaH(K:ag)(R:It->Hp->Prop)(x:V)(H1:Hp):Prop |mk (a:_)(h0:x= .ref a)(h1:(∃xs,aK K H1 a xs))(h2:R (sR K a) H1)
def Q6(K:ag)(tl:TE):TI:=λO H R=>tl O H λx H1=>aaH K R x H1
inductive aaC(K:ag)(R:It->Hp->Prop)(x:V)(H1:Hp):Prop |mk (a:_)(h0:x= .ref a)(h1:(∃xs,aU K H1 a xs))(h2:R (sQ K a) H1)
def Q5(K:ag)(tl:TE):TI:=λO H R=>tl O H λx H1=>aaC K R x H1
theorem Yf{l:Expr}{tl:TE}(hl:PE X l tl):PI X tg l (Q6 X.K tl):=by
 intro ay s O H R I h;refine ba (hl ay s O H _ I h) λv s1 ⟨x,H1,I1,r1,q1⟩=>?_;obtain⟨a,e,⟨xs,hq⟩,q⟩:=q1;subst e;cases r1;obtain⟨its,rv,p,hz⟩:=I1.list hq;refine CQ p.isList ?_;refine⟨s1.heap.objs.size,[s1.heap.objs.size],_,_,H1,Z,I1.kept (t':=s1.toks) λb o e=>cF _ e,Vd a _,⟨_,fj _ Z,Z,Z⟩,λb hb=>?_,q⟩;have e:b=s1.heap.objs.size:=by simpa using hb
 subst e;exact I1.sj (bf _) (I1.bD.fresh (bf _))
theorem Yc{l:Expr}{tl:TE}(hl:PE X l tl):PI X tg l (Q5 X.K tl):=by
 intro ay s O H R I h;refine ba (hl ay s O H _ I h) λv s1 ⟨x,H1,I1,r1,q1⟩=>?_;obtain⟨a,e,⟨xs,hq⟩,q⟩:=q1;subst e;cases r1;obtain⟨its,rv,p,hz⟩:=I1.tuple hq;refine wpAny_pyIter_tuple (show s1.heap.IsTuple a its.toArray from p) ?_;refine⟨s1.heap.objs.size,[s1.heap.objs.size],_,_,H1,Z,I1.kept (t':=s1.toks) λb o e=>cF _ e,V9 a _,⟨_,fj _ Z,Z,Z⟩,λb hb=>?_,q⟩;have e:b=s1.heap.objs.size:=by simpa using hb
 subst e;exact I1.sj (bf _) (I1.bD.fresh (bf _))
theorem O4{ay:List (Addr×Obj)}{O:St}{H:Hp}{s:ah}{R:It->Hp->Prop}{E:Value->ah->Prop}{lo hi:Int}{t u v:Tok}{tk:Nat}(I:Inv X ay O H s)(h1:-(2^62)<=lo)(h2:lo<2^62)(h3:-(2^62)<=hi)(h4:hi<2^62) (q:R (oz lo (hi-lo).toNat) H):wpAny (model X.prog X.w) X.A (pyIter (.ref s.heap.objs.size)) (JD X ay O tg R) E {s with heap:=s.heap.push {cls:=.type "range",data:=.fields #[.int lo t,.int hi u,.int 1 v]},toks:=tk}:=by
 refine wpAny_pyIter_range (IsRange.new ..) (small_one h1 h2 h3 h4) ?_;have I1:Inv X ay O H {s with heap:=s.heap.push {cls:=.type "range",data:=.fields #[.int lo t,.int hi u,.int 1 v]},toks:=tk}:=I.kept λb o e=>cF _ e;refine⟨(s.heap.push {cls:=.type "range",data:=.fields #[.int lo t,.int hi u,.int 1 v]}).objs.size,[(s.heap.push {cls:=.type "range",data:=.fields #[.int lo t,.int hi u,.int 1 v]}).objs.size],_,_,H,Z,I1.kept (t':=tk) λb o e=>cF _ e,Vc _ lo (hi-lo).toNat,?_,λb hb=>?_,q⟩
 ·have e1:lo+((0:Nat):Int)*1=lo:=by simp
  have e2:(((hi-lo).toNat:Nat):Int)-((0:Nat):Int)=Builtin.Range.rangeSize lo hi 1:=by rw[rangeSize_one];split<;>lia
  show IsRangeIter _ _ (lo+((0:Nat):Int)*1) ((((hi-lo).toNat:Nat):Int)-((0:Nat):Int)) 1;rw[e1,e2];exact fj _ rfl
 ·have e:b=(s.heap.push {cls:=.type "range",data:=.fields #[.int lo t,.int hi u,.int 1 v]}).objs.size:=by simpa using hb
  subst e;exact I1.sj (bf _) (I1.bD.fresh (bf _))
inductive aaF(R:It->Hp->Prop)(vs:List V)(H1:Hp):Prop |mk (j:Int)(h0:vs=[.int j])(h1:-(2^62)<=j)(h2:j<2^62)(h3:R (oz 0 j.toNat) H1)
def a2P(ta:TA):TI:=λO H R=>ta O H λvs H1=>aaF R vs H1
inductive aaE(R:It->Hp->Prop)(vs:List V)(H1:Hp):Prop |mk (i:Int)(j:Int)(h0:vs=[.int i,.int j])(h1:(-(2^62)<=i/\i<2^62/\-(2^62)<=j/\j<2^62))(h2:R (oz i (j-i).toNat) H1)
def a2O(ta:TA):TI:=λO H R=>ta O H λvs H1=>aaE R vs H1
theorem p7{a:Expr}{ta:TA}{p pos:Pos}(hg:Gl X "range")(hm:X.mg "range"=none)(ha:PA X [a] ta)(hs:starEach [a] X.env=[(false,eval a X.env)]:=by rfl):PI X tg (.Call (.Name "range" p) [a] [] pos) (a2P ta):=by intro ay s O H R I h;refine Call_ (rE I hg hm boot_range (Ag (ba (ha pos ay s O H _ I h) λus s1 ⟨vs,H1,I1,r1,q1⟩=>?_) hs Z));obtain⟨j,e,q1,q2,q⟩:=q1;subst e;cases r1 with |cons r rr=>cases rr;obtain⟨t,rfl⟩:=r;exact call_range_1 (O4 I1 aw aw q1 q2 (by simpa using q))
theorem Ob{a b:Expr}{ta:TA}{p pos:Pos}(hg:Gl X "range")(hm:X.mg "range"=none)(ha:PA X [a,b] ta)(hs:starEach [a,b] X.env=[(false,eval a X.env),(false,eval b X.env)]:=by rfl)(iR:starEach [b] X.env=[(false,eval b X.env)]:=by rfl): PI X tg (.Call (.Name "range" p) [a,b] [] pos) (a2O ta):=by intro ay s O H R I h;refine Call_ (rE I hg hm boot_range (Ag (ba (ha pos ay s O H _ I h) λus s1 ⟨vs,H1,I1,r1,q1⟩=>?_) (by rw[hs,iR]) (by rw[iR];rfl)));obtain⟨i,j,e,⟨q1,q2,q3,q4⟩,q⟩:=q1;subst e;cases r1 with |cons r rr=>cases rr with |cons r' rr=>cases rr;obtain⟨t,rfl⟩:=r;obtain⟨t',rfl⟩:=r';exact call_range_2 (O4 I1 q1 q2 q3 q4 q)
def VJ(wi:TI)(g:TG)(tb:TS):TS:=λD O H=>wi O H λJ H1=>∃W:Nat->Nat->St->Hp->Prop,(∃m,W 0 m O H1)/\∀i m O H,W i m O H->(J.stop i H/\D.nx O H)\/(J.go i H/\∃N:St->Hp->Prop,(∀σ' H',N σ' H'->∃m',m'<m/\W (i+1) m' σ' H')/\∀x H',J.jf i H x H'->g x O H' λσ2 H2=>tb {D with nx:=N,ct:=N,bk:=D.nx} σ2 H2)
def p5(fp:List Addr)(h:Heap):List (Addr×Obj):=fp.filterMap λb=>(h.get? b).map λo=>(b,o)
theorem nN{fp:List Addr}{h:Heap}{b:Addr}{o:Obj}(hb:b∈fp)(e:h.get? b=some o):(b,o)∈p5 fp h:=List.mem_filterMap.mpr ⟨b,hb,by rw[e];rfl⟩
theorem a0u{fp:List Addr}{h:Heap}{p:Addr×Obj}(hp:p∈p5 fp h):p.1∈fp/\h.get? p.1=some p.2:=by obtain⟨b,hb,e⟩:=List.mem_filterMap.mp hp;cases q:h.get? b with |none=>rw[q]at e;cases e |some o=>rw[q]at e;have e':(b,o)=p:=eO e;subst e';exact⟨hb,q⟩
theorem Inv.pinned{ay:List (Addr×Obj)}{O:St}{H:Hp}{s:ah}{fp:List Addr}(I:Inv X ay O H s)(hf:∀b∈fp,jw X ay H b)(ho:∀b∈fp,∃o,s.heap.get? b=some o/\∀v,o.data≠ .cell v):Inv X (ay++p5 fp s.heap) O H s:=I.Oa λp hp=>(jz.mp hp).elim (λz=>I.pin p (gk _ z)) λz=>by obtain⟨hb,e⟩:=a0u z;obtain⟨f0,f1,f2,_⟩:=hf p.1 hb;obtain⟨o,e',d⟩:=ho p.1 hb;rw[e]at e';cases e';exact⟨e,f0,f1,f2,d⟩
theorem Inv.tm{ay pl:List (Addr×Obj)}{O:St}{H:Hp}{s:ah}(I:Inv X (ay++pl) O H s):Inv X ay O H s:=I.Oa λp hp=>I.pin p (gk _ (K7 _ hp))
theorem gJ{iter:Expr}{body:List Stmt}{wi:TI}{g:TG}{tb:TS}{pos:Pos}(hp:PassesOwn (model X.prog X.w) X.A X.env X.xe)(hc:X.calm=true)(hi:PI X tg iter wi)(hg:PG X tg g)(hb:gT X body tb) (hs:∀x,foldedSetIterable iter X.env x=pure x:=by intro _;rfl):PS X (.For tg iter body [] pos) (VJ wi g tb):=by
 intro ay s O H D I h;refine wpAny_For (ba (hi ay s O H _ I h) λv s1 h1=>ba h1 λyS s2 h2=>?_) hs;obtain⟨it,fp,tn,J,H2,e,I2,T,nG,f2,W,⟨m0,w0⟩,turn⟩:=h2;subst e;have jB:∀{H':Hp},(∀b∈fp,H' b=none)->∀b∈fp,jw X ay H' b:=λhn b hb=>⟨hn b hb,(f2 b hb).2⟩;refine codeAny_forLoop_any (λn s'=>∃i σ' H',Inv X ay σ' H' s'/\tn i s'.heap/\(∀b∈fp,H' b=none)/\W i n σ' H') ?_ m0 ⟨0,O,H2,I2,nG,λb hb=>(f2 b hb).1,w0⟩;rintro n s3 ⟨i,σ3,H3,I3,Ld,QQ,w3⟩;rcases turn i n σ3 H3 w3 with⟨stop,qn⟩|⟨go,N,hN,step⟩
 ·refine xq hp (ba (T.done X Z Z Z hc i ay s3 σ3 H3 X.xe I3 (jB QQ) Ld stop) λr s4 ⟨hr,I4⟩=>?_)
  subst hr;exact CT ⟨σ3,H3,I4,qn⟩
 ·refine xq hp (ba (T.item X Z Z Z hc i ay s3 σ3 H3 X.xe I3 (jB QQ) Ld go) λr s4 ⟨u,hr,h4⟩=>?_)
  subst hr;refine xq hp (ba h4 λ_ s5 ⟨x,H5,I5,r5,y5,lG,o4⟩=>?_);have I5':=I5.pinned (jB o4) (T.obj _ _ lG);refine xq hp (ba (hg _ s5 σ3 H5 x u _ I5' r5 (step x H5 y5)) λ_ s6 ⟨σ6,H6,I6,q6⟩=>?_);refine xq hp (ba (hb _ s6 σ6 H6 _ I6 q6) λf s7 q7=>?_);have again:∀{σ7:St}{H7:Hp},Inv X (ay++p5 fp s5.heap) σ7 H7 s7->N σ7 H7->∃m,m<n/\∃i σ' H',Inv X ay σ' H' s7/\tn i s7.heap/\(∀b∈fp,H' b=none)/\W i m σ' H':=λ{σ7 H7} I7 n7=>by obtain⟨m',hm,w7⟩:=hN σ7 H7 n7;refine⟨m',hm,i+1,σ7,H7,I7.tm,T.keep _ _ _ lG λb hb o e=>(I7.pin (b,o) (gk _ (gk _ (nN hb e)))).1,λb hb=>?_,w7⟩;obtain⟨o,e,d⟩:=T.obj _ _ lG b hb;exact(I7.pin (b,o) (gk _ (gk _ (nN hb e)))).2.1
  cases f with |next=>obtain⟨σ7,H7,I7,n7⟩:=q7;exact again I7 n7 |cont=>obtain⟨σ7,H7,I7,n7⟩:=q7;exact again I7 n7 |brk=>obtain⟨σ7,H7,I7,q7⟩:=q7;exact⟨σ7,H7,I7.tm,q7⟩ |ret v=>obtain⟨x7,σ7,H7,I7,r7,q7⟩:=q7;exact⟨x7,σ7,H7,I7.tm,r7,q7⟩
end
theorem zu{K:ag}{a:Addr}{xs:List V}{g:TG}{tb:TS}{D:Ends}{O:St}{H:Hp}(Pv:Nat->St->Hp->Prop)(h0:Pv 0 O H)(hl:∀i O H,i<=xs.length->Pv i O H->aK K H a xs) (hs:∀i x O H,xs[i]? =some x->Pv i O H->g x O H λσ2 H2=>tb {D with nx:=Pv (i+1),ct:=Pv (i+1),bk:=D.nx} σ2 H2)(hd:∀O H,Pv xs.length O H->D.nx O H): ∃W:Nat->Nat->St->Hp->Prop,(∃m,W 0 m O H)/\∀i m O H,W i m O H->((sR K a).stop i H/\D.nx O H)\/((sR K a).go i H/\∃N:St->Hp->Prop,(∀σ' H',N σ' H'->∃m',m'<m/\W (i+1) m' σ' H')/\∀x H',(sR K a).jf i H x H'->g x O H' λσ2 H2=>tb {D with nx:=N,ct:=N,bk:=D.nx} σ2 H2):=by
 refine⟨λi m O H=>m=xs.length-i/\i<=xs.length/\Pv i O H,⟨xs.length,by simp,gH _,h0⟩,?_⟩;rintro i m O H ⟨rfl,hi,p⟩;have q:=hl i O H hi p;by_cases bP:i<xs.length
 ·refine .inr ⟨⟨xs,xs[i],q,by simp[bP]⟩,Pv (i+1),λσ' H' p'=>⟨xs.length-(i+1),aw,Z,bP,p'⟩,λx H' y=>?_⟩
  obtain⟨e,y⟩:=y;subst e;exact hs i x O _ (y xs q) p
 ·have e:i=xs.length:=by lia
  subst e;exact .inl ⟨⟨xs,q,bf _⟩,hd O H p⟩
theorem QT{K:ag}{a:Addr}{xs:List V}{g:TG}{tb:TS}{D:Ends}{O:St}{H:Hp}(Pv:Nat->St->Hp->Prop)(h0:Pv 0 O H)(hl:∀i O H,i<=xs.length->Pv i O H->aU K H a xs) (hs:∀i x O H,xs[i]? =some x->Pv i O H->g x O H λσ2 H2=>tb {D with nx:=Pv (i+1),ct:=Pv (i+1),bk:=D.nx} σ2 H2)(hd:∀O H,Pv xs.length O H->D.nx O H): ∃W:Nat->Nat->St->Hp->Prop,(∃m,W 0 m O H)/\∀i m O H,W i m O H->((sQ K a).stop i H/\D.nx O H)\/((sQ K a).go i H/\∃N:St->Hp->Prop,(∀σ' H',N σ' H'->∃m',m'<m/\W (i+1) m' σ' H')/\∀x H',(sQ K a).jf i H x H'->g x O H' λσ2 H2=>tb {D with nx:=N,ct:=N,bk:=D.nx} σ2 H2):=by
 refine⟨λi m O H=>m=xs.length-i/\i<=xs.length/\Pv i O H,⟨xs.length,by simp,gH _,h0⟩,?_⟩;rintro i m O H ⟨rfl,hi,p⟩;have q:=hl i O H hi p;by_cases bP:i<xs.length
 ·refine .inr ⟨⟨xs,xs[i],q,by simp[bP]⟩,Pv (i+1),λσ' H' p'=>⟨xs.length-(i+1),cj,Z,bP,p'⟩,λx H' y=>?_⟩
  obtain⟨e,y⟩:=y;subst e;exact hs i x O _ (y xs q) p
 ·have e:i=xs.length:=by omega
  subst e;exact .inl ⟨⟨xs,q,bf _⟩,hd O H p⟩
theorem uJ{lo:Int}{n:Nat}{g:TG}{tb:TS}{D:Ends}{O:St}{H:Hp}(Pv:Nat->St->Hp->Prop)(h0:Pv 0 O H) (hs:∀i O H,i<n->Pv i O H->g (.int (lo+i)) O H λσ2 H2=>tb {D with nx:=Pv (i+1),ct:=Pv (i+1),bk:=D.nx} σ2 H2)(hd:∀O H,Pv n O H->D.nx O H): ∃W:Nat->Nat->St->Hp->Prop,(∃m,W 0 m O H)/\∀i m O H,W i m O H->((oz lo n).stop i H/\D.nx O H)\/((oz lo n).go i H/\∃N:St->Hp->Prop,(∀σ' H',N σ' H'->∃m',m'<m/\W (i+1) m' σ' H')/\∀x H',(oz lo n).jf i H x H'->g x O H' λσ2 H2=>tb {D with nx:=N,ct:=N,bk:=D.nx} σ2 H2):=by
 refine⟨λi m O H=>m=n-i/\i<=n/\Pv i O H,⟨n,by simp,gH _,h0⟩,?_⟩;rintro i m O H ⟨rfl,hi,p⟩;by_cases bP:i<n
 ·refine .inr ⟨bP,Pv (i+1),λσ' H' p'=>⟨n-(i+1),aw,Z,bP,p'⟩,λx H' y=>?_⟩
  obtain⟨e,y⟩:=y;subst e y;exact hs i O _ bP p
 ·have e:i=n:=by lia
  subst e;exact .inl ⟨bf _,hd O H p⟩
theorem nu{c:TT}{tb:TS}{D:Ends}{O:St}{H:Hp}(Pv:St->Hp->Prop)(μ:St->Hp->Nat)(h0:Pv O H) (hs:∀O H,Pv O H->c O H λb H1=>if b=true then tb {D with nx:=λσ' H'=>Pv σ' H'/\μ σ' H'<μ O H,ct:=λσ' H'=>Pv σ' H'/\μ σ' H'<μ O H,bk:=D.nx} O H1 else D.nx O H1) (mono:∀O H Q Q',(∀b H1,Q b H1->Q' b H1)->c O H Q->c O H Q'):KD c tb D O H:=by refine⟨λm O H=>m=μ O H/\Pv O H,⟨_,Z,h0⟩,?_⟩;rintro m O H ⟨rfl,p⟩;refine mono O H _ _ (λb H1 q=>?_) (hs O H p);cases b with |true=>exact⟨_,λσ' H' ⟨p',l⟩=>⟨_,l,Z,p'⟩,q⟩ |false=>exact q
abbrev R2:=V->V->Hp->VK->Prop
def dg(X:Cx)(f:Value->Value->Sem Value)(r:R2):Prop:=∀(ay:List (Addr×Obj))(s:ah)(O:St)(H:Hp)(x y:V)(v u:Value)(Q:VK),Inv X ay O H s->RelV x v->RelV y u->r x y H Q->wpAny (model X.prog X.w) X.A (f v u) (EP X ay O Q) X.xe s
def Jw(X:Cx)(f:Value->Sem Value)(r:V->Hp->VK->Prop):Prop:=∀(ay:List (Addr×Obj))(s:ah)(O:St)(H:Hp)(x:V)(v:Value)(Q:VK),Inv X ay O H s->RelV x v->r x H Q->wpAny (model X.prog X.w) X.A (f v) (EP X ay O Q) X.xe s
def fw(X:Cx)(f:Value)(r:List V->Hp->VK->Prop):Prop:=∀(ay:List (Addr×Obj))(s:ah)(O:St)(H:Hp)(xs:List V)(us:List Value)(Q:VK),Inv X ay O H s->Vals xs us->r xs H Q->wpAny (model X.prog X.w) X.A (call f us) (EP X ay O Q) X.xe s
def a8G(X:Cx)(r:V->Hp->(Bool->Hp->Prop)->Prop):Prop:=∀(ay:List (Addr×Obj))(s:ah)(O:St)(H:Hp)(x:V)(v:Value)(Q:Bool->Hp->Prop),Inv X ay O H s->RelV x v->r x H Q->wpAny (model X.prog X.w) X.A (truthy v) (TP X ay O Q) X.xe s
def xQ(r:R2)(ta tb:TE):TE:=λO H Q=>ta O H λx H1=>tb O H1 λy H2=>r x y H2 Q
def Vp(r:V->Hp->VK->Prop)(ta:TE):TE:=λO H Q=>ta O H λx H1=>r x H1 Q
inductive IrI(C:Int->Int->Prop)(g:Int->Int->V)(x:V)(y:V)(H:Hp)(Q:VK):Prop |mk (i:_)(j:_)(h0:x= .int i)(h1:y= .int j)(h2:C i j)(h3:Q (g i j) H)
def rI(C:Int->Int->Prop)(g:Int->Int->V):R2:=λx y H Q=>IrI C g x y H Q
inductive aas(g:Int->Int->V)(x:V)(y:V)(H:Hp)(Q:VK):Prop |mk (i:_)(j:_)(h0:x= .int i)(h1:y= .int j)(h2:Q (g i j) H)
def jV(g:Int->Int->V):R2:=λx y H Q=>aas g x y H Q
inductive IrU(g:Int->V)(x:V)(H:Hp)(Q:VK):Prop |mk (i:_)(h0:x= .int i)(h1:Q (g i) H)
def rU(g:Int->V):V->Hp->VK->Prop:=λx H Q=>IrU g x H Q
section
variable {X:Cx}{a b c:Expr}{ta tb tc:TE}{pos:Pos}
theorem Jd(ha:PE X a ta)(hb:PE X b tb){ay:List (Addr×Obj)}{s:ah}{O:St}{H:Hp}{R:V->V->Hp->Prop}(I:Inv X ay O H s) (h:ta O H λx H1=>tb O H1 λy H2=>R x y H2){Q:Value->ah->Prop}{f:Value->Value->Sem Value} (hf:∀v u s2 x y H2,Inv X ay O H2 s2->RelV x v->RelV y u->R x y H2->wpAny (model X.prog X.w) X.A (f v u) Q X.xe s2): wpAny (model X.prog X.w) X.A (eval a X.env) (λv s₁=>wpAny (model X.prog X.w) X.A (eval b X.env) (λu s₂=>wpAny (model X.prog X.w) X.A (f v u) Q X.xe s₂) X.xe s₁) X.xe s:=by refine ba (ha ay s O H _ I h) λv s1 ⟨x,H1,I1,r1,q1⟩=>?_;refine ba (hb ay s1 O H1 _ I1 q1) λu s2 ⟨y,H2,I2,r2,q2⟩=>?_;exact hf v u s2 x y H2 I2 r1 r2 q2
theorem aO{op:Operator}{r:R2}(ho:dg X (binaryOp op) r)(ha:PE X a ta)(hb:PE X b tb):PE X (.BinOp a op b pos) (xQ r ta tb):=by intro ay s O H Q I h;exact wpAny_BinOp (Jd ha hb I h λv u s2 x y H2 I2 rx ry q=>ho ay s2 O H2 x y v u Q I2 rx ry q)
theorem mD{op:UnaryOp}{r:V->Hp->VK->Prop}(ho:Jw X (unaryOp op) r)(ha:PE X a ta):PE X (.UnaryOp op a pos) (Vp r ta):=by intro ay s O H Q I h;exact UnaryOp_ (ba (ha ay s O H _ I h) λv s1 ⟨x,H1,I1,r1,q1⟩=>ho ay s1 O H1 x v Q I1 r1 q1)
theorem yk{f:Value->Value->Sem Value}{C:Int->Int->Prop}{g:Int->Int->Int} (rule:∀(i j:Int)(t u:Tok)(s:ah)(Q:Value->ah->Prop)(E:Value->ah->Prop),C i j->Q (.int (g i j) s.toks) {s with toks:=s.toks+1}->wpAny (model X.prog X.w) X.A (f (.int i t) (.int j u)) Q E s): dg X f (rI C λi j=>.int (g i j)):=by intro ay s O H x y v u Q I rx ry h;obtain⟨i,j,rfl,rfl,hc,q⟩:=h;obtain⟨t,rfl⟩:=rx;obtain⟨t',rfl⟩:=ry;exact rule i j t t' s _ _ hc ⟨.int (g i j),H,I.tok _,⟨_,Z⟩,q⟩
theorem Ox{f:Value->Value->Sem Value}{g:Int->Int->Int} (rule:∀(i j:Int)(t u:Tok)(s:ah)(Q:Value->ah->Prop)(E:Value->ah->Prop),Q (.int (g i j) s.toks) {s with toks:=s.toks+1}->wpAny (model X.prog X.w) X.A (f (.int i t) (.int j u)) Q E s): dg X f (jV λi j=>.int (g i j)):=by intro ay s O H x y v u Q I rx ry h;obtain⟨i,j,rfl,rfl,q⟩:=h;obtain⟨t,rfl⟩:=rx;obtain⟨t',rfl⟩:=ry;exact rule i j t t' s _ _ ⟨.int (g i j),H,I.tok _,⟨_,Z⟩,q⟩
theorem w6{f:Value->Value->Sem Value}{g:Int->Int->Bool} (rule:∀(i j:Int)(t u:Tok)(s:ah)(Q:Value->ah->Prop)(E:Value->ah->Prop),Q (.bool (g i j)) s->wpAny (model X.prog X.w) X.A (f (.int i t) (.int j u)) Q E s): dg X f (jV λi j=>.bl (g i j)):=by intro ay s O H x y v u Q I rx ry h;obtain⟨i,j,rfl,rfl,q⟩:=h;obtain⟨t,rfl⟩:=rx;obtain⟨t',rfl⟩:=ry;exact rule i j t t' s _ _ ⟨.bl (g i j),H,I,Z,q⟩
def aaY(i j:Int):Prop:=0<=j/\j<=1000000/\i.natAbs<2^64
theorem cQ:dg X (binaryOp .Add) (jV λi j=>.int (i+j)):=Ox λ_ _ _ _ _ _ _ q=>add_int q
theorem gM:dg X (binaryOp .Sub) (jV λi j=>.int (i-j)):=Ox λ_ _ _ _ _ _ _ q=>sub_int q
theorem qY:dg X (binaryOp .Mod) (rI (λ_ j=>0<j) λi j=>.int (i%j)):=yk λi j _ _ _ _ _ hc q=>by have h1:(0:Int)<j:=hc;exact mod_int' aw (by rw[Int.fmod_eq_emod_of_nonneg i aw];exact q)
theorem tQ:dg X (binaryOp .Pow) (rI aaY λi j=>.int (i^j.toNat)):=yk λ_ _ _ _ _ _ _ hc q=>pow_int_small hc.1 hc.2.1 hc.2.2 q
theorem V3{f:Value->Sem Value}{g:Int->Int} (rule:∀(i:Int)(t:Tok)(s:ah)(Q:Value->ah->Prop)(E:Value->ah->Prop),Q (.int (g i) s.toks) {s with toks:=s.toks+1}->wpAny (model X.prog X.w) X.A (f (.int i t)) Q E s): Jw X f (rU λi=>.int (g i)):=by intro ay s O H x v Q I rx h;obtain⟨i,rfl,q⟩:=h;obtain⟨t,rfl⟩:=rx;exact rule i t s _ _ ⟨.int (g i),H,I.tok _,⟨_,Z⟩,q⟩
theorem md:Jw X (unaryOp .USub) (rU λi=>.int (-i)):=V3 λ_ _ _ _ _ q=>neg_int q
theorem Ia{ay:List (Addr×Obj)}{O:St}{H:Hp}{s:ah}{Q:VK}{k k':Bool}(I:Inv X ay O H s)(q:Q (.bl k) H)(e:k=k'):EP X ay O Q (.bool k') s:=by subst e;exact⟨.bl k,H,I,Z,q⟩
theorem jj:dg X (compareOp .Lt) (jV λi j=>.bl (decide (i<j))):=w6 λ_ _ _ _ _ _ _ q=>lt_int q
theorem Bw:dg X (compareOp .LtE) (jV λi j=>.bl (decide (i<=j))):=w6 λ_ _ _ _ _ _ _ q=>le_int q
theorem mE:dg X (compareOp .Gt) (jV λi j=>.bl (decide (j<i))):=w6 λ_ _ _ _ _ _ _ q=>gt_int q
theorem Bx:dg X (compareOp .GtE) (jV λi j=>.bl (decide (j<=i))):=w6 λ_ _ _ _ _ _ _ q=>ge_int q
theorem YH:dg X (compareOp .In) (λx y H Q=>∃i j,x= .str i/\y= .str j/\Q (.bl (!(Builtin.Str.occurrences j i 0 j.length 1).isEmpty)) H):=by intro ay s O H x y v u Q I rx ry h;obtain⟨i,j,rfl,rfl,q⟩:=h;obtain⟨t,rfl⟩:=rx;obtain⟨t',rfl⟩:=ry;exact in_str (Ia I q Z)
theorem YG:dg X (compareOp .Is) (λx y H Q=>y= .bN/\Q (.bl (decide (x= .bN))) H):=by intro ay s O H x y v u Q I rx ry h;obtain⟨rfl,q⟩:=h;cases ry;refine is_none_gen (Ia I q ?_);cases x<;>first |(cases rx;rfl) |(obtain⟨t,rfl⟩:=rx;rfl)
theorem lM:dg X (compareOp .IsNot) (λx y H Q=>y= .bN/\Q (.bl (!decide (x= .bN))) H):=by intro ay s O H x y v u Q I rx ry h;obtain⟨rfl,q⟩:=h;cases ry;refine isnot_none_gen (Ia I q ?_);cases x<;>first |(cases rx;rfl) |(obtain⟨t,rfl⟩:=rx;rfl)
theorem dg.or{f:Value->Value->Sem Value}{r r':R2}(h:dg X f r)(h':dg X f r'):dg X f (λx y H Q=>r x y H Q\/r' x y H Q):=by
 intro ay s O H x y v u Q I rx ry q;rcases q with q|q
 ·exact h ay s O H x y v u Q I rx ry q
 ·exact h' ay s O H x y v u Q I rx ry q
theorem aZ(b:Expr){op:CmpOp}(h:op≠ .In:=by decide)(h2:op≠ .NotIn:=by decide):behindInMarks op b=false:=by
 have e1:(op==CmpOp.In)=false:=by cases op<;>first|rfl|exact absurd rfl h
 have e2:(op==CmpOp.NotIn)=false:=by cases op<;>first|rfl|exact absurd rfl h2
 cases b<;>simp[behindInMarks,e1,e2]
theorem eB{op:CmpOp}{r:R2}(ho:dg X (compareOp op) r)(ha:PE X a ta)(hb:PE X b tb)(hm:behindInMarks op b=false):PE X (.Compare a [op] [b] pos) (xQ r ta tb):=by intro ay s O H Q I h;exact wpAny_Compare1 (Jd ha hb I h λv u s2 x y H2 I2 rx ry q=>ho ay s2 O H2 x y v u Q I2 rx ry q) hm
inductive a8U(Q:Bool->Hp->Prop)(x:V)(H':Hp):Prop |mk (k:_)(h0:x= .bl k)(h1:Q k H')
def KH(t:TE):TT:=λO H Q=>t O H λx H'=>a8U Q x H'
theorem bG{op:CmpOp}{r:R2}(ho:dg X (compareOp op) r)(ha:PE X a ta)(hb:PE X b tb)(hm:behindInMarks op b=false):PT X (.Compare a [op] [b] pos) (KH (xQ r ta tb)):=by intro ay s O H Q I h;refine wpAny_isTrue_Compare1 (ba (ha ay s O H _ I h) λv s1 ⟨x,H1,I1,r1,q1⟩=>ba (hb ay s1 O H1 _ I1 q1) λu s2 ⟨y,H2,I2,r2,q2⟩=>ba (ho ay s2 O H2 x y v u _ I2 r1 r2 q2) λc s3 ⟨z,H3,I3,r3,k,e,q3⟩=>?_) hm;subst e;cases r3;exact qy ⟨H3,I3,q3⟩
inductive a8Z(r':R2)(tc:TE)(O:St)(Q:VK)(y:V)(z:V)(H3:Hp):Prop |mk (k:_)(h0:z= .bl k)(h1:(if k=true then tc O H3 λw' H4=>r' y w' H4 Q else Q (.bl false) H3))
def KO(r r':R2)(ta tb tc:TE):TE:=λO H Q=>ta O H λx H1=>tb O H1 λy H2=>r x y H2 λz H3=>a8Z r' tc O Q y z H3
theorem Yq{op tR:CmpOp}{r r':R2}(ho:dg X (compareOp op) r)(mM:dg X (compareOp tR) r')(ha:PE X a ta)(hb:PE X b tb)(hc:PE X c tc) (hm:lastMarks [op,tR] [b,c]=false:=by with_unfolding_all rfl):PE X (.Compare a [op,tR] [b,c] pos) (KO r r' ta tb tc):=by intro ay s O H Q I h;refine Compare_chain (ba (ha ay s O H _ I h) λv s1 ⟨x,H1,I1,r1,q1⟩=>chain_link (ba (hb ay s1 O H1 _ I1 q1) λu s2 ⟨y,H2,I2,r2,q2⟩=>ba (ho ay s2 O H2 x y v u _ I2 r1 r2 q2) λd s3 ⟨z,H3,I3,r3,k,e,q3⟩=>?_)) hm;subst e;cases r3;refine qy ?_;cases k with |false=>exact ite_ff ⟨.bl false,H3,I3,Z,q3⟩ |true=>exact ite_tt (chain_last (ba (hc ay s3 O H3 _ I3 q3) λw' s4 ⟨z',H4,I4,r4,q4⟩=>mM ay s4 O H4 y z' u w' Q I4 r2 r4 q4))
theorem Y3{op tR:CmpOp}{r r':R2}(ho:dg X (compareOp op) r)(mM:dg X (compareOp tR) r')(ha:PE X a ta)(hb:PE X b tb)(hc:PE X c tc) (hm:lastMarks [op,tR] [b,c]=false:=by with_unfolding_all rfl):PT X (.Compare a [op,tR] [b,c] pos) (KH (KO r r' ta tb tc)):=by intro ay s O H Q I h;refine isTrue_chain (ba (ha ay s O H _ I h) λv s1 ⟨x,H1,I1,r1,q1⟩=>test_link (ba (hb ay s1 O H1 _ I1 q1) λu s2 ⟨y,H2,I2,r2,q2⟩=>ba (ho ay s2 O H2 x y v u _ I2 r1 r2 q2) λd s3 ⟨z,H3,I3,r3,k,e,q3⟩=>?_)) hm;subst e;cases r3;refine qy ?_;cases k with |false=>obtain⟨k',e',q'⟩:=q3;cases e';exact ite_ff ⟨H3,I3,q'⟩ |true=>refine ite_tt (test_last (ba (hc ay s3 O H3 _ I3 q3) λw' s4 ⟨z',H4,I4,r4,q4⟩=>ba (mM ay s4 O H4 y z' u w' _ I4 r2 r4 q4) λd' s5 ⟨z2,H5,I5,r5,k2,e2,q5⟩=>?_));subst e2;cases r5;exact qy ⟨H5,I5,q5⟩
def Jx(K:ag)(x:V)(H:Hp)(k:Bool):Prop:=match x with | .bN=>k=false | .bl b=>k=b | .int i=>k=(i !=0) | .str y=>y.length<=sizeLine/\k=((y.length:Int) !=0) | .wZ y=>y.size<=sizeLine/\k=((y.size:Int) !=0) | .ref p=>(∃xs,aK K H p xs/\k= !xs.isEmpty)\/(∃xs,aU K H p xs/\k= !xs.isEmpty)\/∃eY,H p=some (.dK eY)/\k= !eY.isEmpty |_=>False
theorem a2z{κ:Type}{eY:List (κ×V)}{vs:List (κ×Value)}(r:KV eY vs):(!vs.isEmpty)= !eY.isEmpty:=by cases r<;>rfl
theorem PR{xs:List V}{its:List Value}(r:Vals xs its):(!its.toArray.isEmpty)= !xs.isEmpty:=by cases r<;>simp
theorem uh:(sizeLine:Nat)<2^63:=by rw[sizeLine_eq];decide
theorem Vg:a8G X (λx H Q=>∃k,Jx X.K x H k/\Q k H):=by intro ay s O H x v Q I rx h;obtain⟨k,e,q⟩:=h;have hl:=uh;have hs:sizeLine=16777216:=sizeLine_eq;cases x with |bN=>cases rx;have e':k=false:=e;subst e';exact truthy_none ⟨H,I,q⟩ |bl b=>cases rx;have e':k=b:=e;subst e';exact qy ⟨H,I,q⟩ |int i=>obtain⟨t,rfl⟩:=rx;have e':k=(i !=0):=e;subst e';exact PySem.P.truthy_int ⟨H,I,q⟩ |str y=>obtain⟨t,rfl⟩:=rx;obtain⟨hy,e'⟩:y.length<=sizeLine/\k=((y.length:Int) !=0):=e;subst e';exact PySem.P.truthy_str aw ⟨H,I.tok _,q⟩ |wZ y=>obtain⟨t,rfl⟩:=rx;obtain⟨hy,e'⟩:y.size<=sizeLine/\k=((y.size:Int) !=0):=e;subst e';exact PySem.W.truthy_bytes aw ⟨H,I.tok _,q⟩ |ref p=>
 cases rx;have e':(∃xs,aK X.K H p xs/\k= !xs.isEmpty)\/(∃xs,aU X.K H p xs/\k= !xs.isEmpty)\/∃eY,H p=some (.dK eY)/\k= !eY.isEmpty:=e;rcases e' with⟨xs,hx,e'⟩|⟨xs,hx,e'⟩|⟨eY,hx,e'⟩
 ·subst e'
  obtain⟨its,r,pl,hz⟩:=I.list hx;have hlen:=r.length;exact wpAny_truthy_list pl.isList (by simp only[dY];lia) ⟨H,I.tok _,by rw[PR r];exact q⟩
 ·subst e'
  obtain⟨its,r,pl,hz⟩:=I.tuple hx;have hlen:=r.length;exact truthy_tuple pl (by simp only[dY];lia) ⟨H,I.tok _,by rw[PR r];exact q⟩
 ·subst e'
  obtain⟨hz,hS,vs,r,m⟩:eY.length<=sizeLine/\(p==sysModules)=false/\∃vs,KV eY vs/\s.heap.DictOf (GC X.prog X.w) p vs:=I.bD p _ hx;have hlen:eY.length=vs.length:=Paired.length r;exact wpAny_truthy_dict hS m aw ⟨H,I.tok _,by rw[a2z r];exact q⟩ |_=>exact(show False from e).elim
theorem Y2(ha:PE X a ta)(he:∀whole,isTrue a X.env whole=(do let v<-whole;standAt a.pos;holding [v] (truthy v))): PT X a (λO H Q=>ta O H λx H'=>∃k,Jx X.K x H' k/\Q k H'):=by intro ay s O H Q I h;exact isTrue_plain (ba (ha ay s O H _ I h) λv s1 ⟨x,H1,I1,r1,q1⟩=>Vg ay s1 O H1 x v Q I1 r1 q1) (he _)
theorem vals1{x:V}{us:List Value}(r:Vals [x] us):∃u,us=[u]/\RelV x u:=by cases r with |cons r1 r2=>cases r2;exact⟨_,rfl,r1⟩
theorem vals2{x y:V}{us:List Value}(r:Vals [x,y] us):∃u w',us=[u,w']/\RelV x u/\RelV y w':=by cases r with |cons r1 r2=>cases r2 with |cons r3 r4=>cases r4;exact⟨_,_,rfl,r1,r3⟩
theorem oo:fw X (.builtin "abs") (λxs H Q=>∃i,xs=[.int i]/\Q (.int (if i<0 then-i else i)) H):=by intro ay s O H xs us Q I r h;obtain⟨i,rfl,q⟩:=h;obtain⟨u,rfl,t,rfl⟩:=vals1 r;exact call_abs_int λu tk=>⟨.int (if i<0 then-i else i),H,I.tok _,⟨_,Z⟩,q⟩
theorem a7U(hc:X.calm=true):fw X (.builtin "max") (λxs H Q=>∃i j,xs=[.int i,.int j]/\Q (.int (if j>i then j else i)) H):=by
 intro ay s O H xs us Q I r h;obtain⟨i,j,rfl,q⟩:=h;obtain⟨u,w',rfl,⟨t,rfl⟩,⟨t',rfl⟩⟩:=vals2 r;refine max_two_ints (I.ok.hd hc) λh' tk k=>⟨_,H,I.kept k,?_,q⟩;by_cases hj:j>i
 ·rw[bo hj,bo hj];exact⟨_,Z⟩
 ·rw[bB hj,bB hj];exact⟨_,Z⟩
theorem J8(hc:X.calm=true):fw X (.builtin "min") (λxs H Q=>∃i j,xs=[.int i,.int j]/\Q (.int (if j<i then j else i)) H):=by
 intro ay s O H xs us Q I r h;obtain⟨i,j,rfl,q⟩:=h;obtain⟨u,w',rfl,⟨t,rfl⟩,⟨t',rfl⟩⟩:=vals2 r;refine min_two_ints (I.ok.hd hc) λh' tk k=>⟨_,H,I.kept k,?_,q⟩;by_cases hj:j<i
 ·rw[bo hj,bo hj];exact⟨_,Z⟩
 ·rw[bB hj,bB hj];exact⟨_,Z⟩
theorem zQ:fw X (.type "int") (λxs H Q=>(∃i,xs=[.int i]/\Q (.int i) H)\/∃k,xs=[.bl k]/\Q (.int (if k then 1 else 0)) H):=by
 intro ay s O H xs us Q I r h;rcases h with⟨i,rfl,q⟩|⟨k,rfl,q⟩
 ·obtain⟨u,rfl,t,rfl⟩:=vals1 r
  exact call_int_int ⟨.int i,H,I,⟨_,Z⟩,q⟩
 ·obtain⟨u,rfl,r1⟩:=vals1 r
  cases r1;exact call_int_bool ⟨.int (if k then 1 else 0),H,I.tok _,⟨_,Z⟩,q⟩
end
structure vg(h:Heap)(x dx C:Addr)(mA:bV):Prop where
 obj:h.get? x=some (PySem.W.instObj C dx)
 ns:h.Ns1 dx mA
 ne:dx≠x
theorem a25{h:Heap}{dx:Addr}{mA:bV}(n:h.Ns1 dx mA):∃od,h.get? dx=some od/\∀name,PySem.W.lookIn name od=some (mA name):=by
 obtain⟨o,es,ep,ho,hd,hk,_,hm⟩:=n;refine⟨o,ho,λname=>?_⟩;have e:=hm name;unfold nsFind findBy at e;rw[<-Array.find?_toList]at e;unfold PySem.W.lookIn;rw[hd];dsimp only;split
 ·rename_i y q
  rw[q]at e;exact congrArg some e
 ·rename_i q
  rw[q]at e;have a:es.toList.any (·.refKey)=false:=by rw[List.any_eq_false];intro y hy;obtain⟨z,t,a3u⟩:=hk y (Array.mem_toList_iff.mp hy);simp[DictEntry.refKey,a3u]
  have a':¬es.toList.any (·.refKey)=true:=by rw[a];exact iX
  rw[bB a'];exact congrArg some e
theorem vg.look{h:Heap}{x dx C:Addr}{mA:bV}(I:vg h x dx C mA):∃od,PySem.W.InstAt h x (PySem.W.instObj C dx) C (some od)/\∀name,PySem.W.lookIn name od=some (mA name):=let⟨od,ho,hl⟩:=a25 I.ns
 ⟨od,⟨I.obj,Z,Z,ho⟩,hl⟩
section
variable {prog:ai}{w:World}{A:ak}{E:Value->ah->Prop}{s:ah}{K:ag}{x dx C f:Addr}{mA:bV}{name:Str}{v:Value}
theorem get_map{expr:Bool}{Q:Value->ah->Prop}(X:K.In s.heap)(I:vg s.heap x dx C mA)(hg:PySem.W.plainGet K C name=true)(hh:PySem.W.hasDictIn K C=true) (ha:PySem.W.findIn K (.ref C) name=some none)(hv:mA name=some v)(hv':PySem.W.handedIn v=true)(h:Q v {s with toks:=s.toks+1}): wpAny (model prog w) A (getAttr (.ref x) name expr) Q E s:=by obtain⟨od,J,hl⟩:=I.look;exact PySem.W.get_value X J (U8 hg).1 (PySem.W.findObj_own hh ha Z (by rw[hl,hv])) hv' h
theorem a51{pl:Sem Bool}{Q:Value×List Value->ah->Prop}(X:K.In s.heap)(I:vg s.heap x dx C mA)(hg:PySem.W.plainGet K C name=true) (hf:PySem.W.findIn K (.ref C) name=some (some (.ref f)))(ht:PySem.W.isFn K (.ref f)=true)(hv:mA name=none)(h:Q (.ref f,[.ref x]) s): wpAny (model prog w) A (getMethod (.ref x) name pl) Q E s:=by obtain⟨od,J,hl⟩:=I.look;exact PySem.W.method_fn X J (U8 hg).1 (U8 hg).2 hf (fN.mp ht) (by show(PySem.W.lookIn name od).map (·.isSome)=some false;rw[hl,hv];rfl) h
theorem Wu{ns:List Str}{Q:Unit->ah->Prop}(X:K.In s.heap)(I:vg s.heap x dx C mA) (hs:PySem.W.findIn K (.ref C) "__setattr__"=some (some (.builtin "object.__setattr__")))(hp:PySem.W.plainOver K C=true)(ht:PySem.W.takerIn K C name=some none)(hh:PySem.W.hasDictIn K C=true) (hw:PySem.Within mA ns)(BW:ns.length<=sizeLine) (h:∀h',vg h' x dx C (λy=>if y=name then some v else mA y)->Heap.SameBut dx s.heap h'->Q () {s with heap:=h',toks:=s.toks+2}): wpAny (model prog w) A (setAttr (.ref x) name v) Q E s:=by obtain⟨od,J,hl⟩:=I.look;refine PySem.W.set_plain X J hs (PySem.W.osa_open (s:={s with toks:=s.toks+1}) (r:=none) X J hp ht λb=>?_);obtain⟨cd,hc,HE⟩:=PySem.W.any_some hh;have hx:s.heap.get? x=some ⟨.ref C,some dx,.plain,#[]⟩:=I.obj;refine aP (cg (aP (aP (wpAny_loadPart hx (aP (PySem.W.Looks.here (s:={s with toks:=s.toks+1}) (PySem.W.looks_clsIn X hc) ?_))))));rw[HE];refine cg (a:=some dx) (aP (cg (aP ?_)));refine wpAny_nsSet1 (s:={s with toks:=s.toks+1}) I.ns λh' wH iR=>?_;obtain⟨oD,esD,epD,hoD,hdD,hcD⟩:=wH.count (PySem.Within.cons name v hw);refine aP (wpAny_lookBehind hoD (by rw[hdD];exact pastItsLine_dict (gU hcD (by rw[jQ];lia))) ?_);exact cg (h _ ⟨(iR.2 _ (jy I.ne)).trans I.obj,wH,I.ne⟩ iR)
theorem a1v{R:Result->ah->Prop}{vs:List Value}{kw:List (Str×Value)}(X:K.In s.heap)(hm:PySem.W.makesIn K C=true) (hi:PySem.W.findIn K (.ref C) "__init__"=some (some (.ref f)))(hf:PySem.W.typeIn K (.ref f)=some (.type "function")) (h:codeAny (model prog w) (A.under (.builtin "type.__call__" ⟨.ref C::vs,kw⟩)) (.call (.ref f) ⟨.ref (s.heap.objs.size+1)::vs,kw⟩) (PySem.W.InitBack (s.heap.objs.size+1) R) {s with heap:=(s.heap.push PySem.W.emptyDict).push (PySem.W.instObj C s.heap.objs.size)}): codeAny (model prog w) A (.call (.ref C) ⟨vs,kw⟩) R s:=by obtain⟨hh,g,d,t,os⟩:=s;exact PySem.W.make_core (PySem.W.makes_of X hm) (PySem.W.looks_findIn X hi) (λself=>PySem.W.bind_fn X self hf) (.inl Z) h
end
def iZ(f:Str)(v:V):List (Str×V)->List (Str×V) |[]=>[(f,v)] |(g,x)::r=>if g=f then(g,v)::r else(g,x)::iZ f v r
theorem Pk(f g:Str)(v:V):∀fs:List (Str×V),(iZ f v fs).lookup g=if g=f then some v else fs.lookup g
 |[]=>by
  show List.lookup g [(f,v)]=_;by_cases h:g=f
  ·have hb:(g==f)=true:=fN.mpr h
   simp only[List.lookup,hb,bo h]
  ·have hb:(g==f)=false:=JP.mpr h
   simp only[List.lookup,hb,bB h] |(k,x)::r=>by
  have ih:=Pk f g v r;rw[show iZ f v ((k,x)::r)=(if k=f then(k,v)::r else(k,x)::iZ f v r)from rfl];by_cases hk:k=f
  ·rw[bo hk]
   by_cases h:g=k
   ·have hb:(g==k)=true:=fN.mpr h
    simp only[List.lookup,hb,bo (h.trans hk)]
   ·have hb:(g==k)=false:=JP.mpr h
    simp only[List.lookup,hb,bB (λe:g=f=>h (e.trans hk.symm))]
  ·rw[bB hk]
   by_cases h:g=k
   ·have hb:(g==k)=true:=fN.mpr h
    simp only[List.lookup,hb,bB (λe:g=f=>hk (h.symm.trans e))]
   ·have hb:(g==k)=false:=JP.mpr h
    simp only[List.lookup,hb];exact ih
theorem Ha(f:Str)(v:V):∀fs:List (Str×V),f∈(iZ f v fs).map (·.1)/\∀g,g∈fs.map (·.1)->g∈(iZ f v fs).map (·.1)
 |[]=>⟨by simp[iZ],λg h=>by simp at h⟩ |(k,x)::r=>by
  obtain⟨i1,i2⟩:=Ha f v r;rw[show iZ f v ((k,x)::r)=(if k=f then(k,v)::r else(k,x)::iZ f v r)from rfl];by_cases hk:k=f
  ·rw[bo hk]
   subst hk;exact⟨by simp,λg h=>by simpa using h⟩
  ·rw[bB hk]
   refine⟨?_,λg h=>?_⟩
   ·rw[An]
    exact xE _ i1
   ·rw[An]at h⊢
    rcases dh.mp h with e|e
    ·exact dh.mpr (.inl e)
    ·exact xE _ (i2 g e)
theorem Pr(f:Str)(v:V):∀fs:List (Str×V),(iZ f v fs).length<=fs.length+1
 |[]=>by simp[iZ] |(k,x)::r=>by
  have ih:=Pr f v r;rw[show iZ f v ((k,x)::r)=(if k=f then(k,v)::r else(k,x)::iZ f v r)from rfl];by_cases hk:k=f
  ·rw[bo hk,jQ,jQ];lia
  ·rw[bB hk,jQ,jQ];lia
theorem ow.some_of{v:V}{o:Option Value}(r:ow (some v) o):∃u,o=some u/\RelV v u:=by cases o with |none=>exact(show False from r).elim |some u=>exact⟨u,Z,r⟩
theorem ow.none_of{o:Option Value}(r:ow none o):o=none:=by cases o with |none=>rfl |some u=>exact(show False from r).elim
theorem a4e{v:V}{u:Value}(r:RelV v u):PySem.W.handedIn u=true:=by cases v with |bN=>cases(show u=Value.none from r);rfl |bl b=>cases(show u=Value.bool b from r);rfl |int i=>obtain⟨t,e⟩:=(show∃t,u=Value.int i t from r);cases e;rfl |str x=>obtain⟨t,e⟩:=(show∃t,u=Value.str x t from r);cases e;rfl |wZ b=>obtain⟨t,e⟩:=(show∃t,u=Value.bytes b t from r);cases e;rfl |Ci b=>obtain⟨t,e⟩:=(show∃t,u=Value.float b t from r);cases e;rfl |ref a=>cases(show u=Value.ref a from r);rfl |ty n=>cases(show u=Value.type n from r);rfl
section
variable {P:ai}{w:World}{H H':Hp}{h h':Heap}{a C dx:Addr}{fs nY:List (Str×V)}
theorem Hg(bD:fc P w H h)(e:H a=some (.ins C dx fs)):∃mA,vg h a dx C mA/\(∀f,ow (fs.lookup f) (mA f))/\PySem.Within mA (fs.map (·.1))/\fs.length<=1000/\H dx=some (.own a):=by obtain⟨d,z,ne,ob,mA,n,r,q⟩:=(show jv P w H h a (.ins C dx fs)from bD a _ e);exact⟨mA,⟨ob,n,ne⟩,r,q,z,d⟩
end
structure kv(K:ag)(C:Addr):Prop where
 pg:PySem.W.plainGet K C Str.empty=true
 hd:PySem.W.hasDictIn K C=true
 po:PySem.W.plainOver K C=true
 sa:PySem.W.findIn K (.ref C) "__setattr__"=some (some (.builtin "object.__setattr__"))
theorem kv.get{K:ag}{C:Addr}(c:kv K C)(f:Str):PySem.W.plainGet K C f=true:=c.pg
def j9(K:ag)(C:Addr)(f:Str):Prop:=PySem.W.findIn K (.ref C) f=some none
theorem j9.Vo{K:ag}{C:Addr}{f:Str}(n:j9 K C f):PySem.W.takerIn K C f=some none:=by unfold PySem.W.takerIn;rw[show PySem.W.findIn K (.ref C) f=some none from n];rfl
structure Meth(K:ag)(C:Addr)(m:Str)(f:Addr):Prop where
 at_:PySem.W.findIn K (.ref C) m=some (some (.ref f))
 fn:PySem.W.isFn K (.ref f)=true
 kp:PySem.W.keepIn K (.ref f)=true
section
variable {X:Cx}{ay:List (Addr×Obj)}{O:St}{H:Hp}{s:ah}{a C dx:Addr}{fs:List (Str×V)}{f:Str}{v:V}{A:ak}{E:Value->ah->Prop}
theorem QL{b:Bool}{Q:Value->ah->Prop}(I:Inv X ay O H s)(e:H a=some (.ins C dx fs))(c:kv X.K C)(n:j9 X.K C f)(l:fs.lookup f=some v) (h:∀u s',Inv X ay O H s'->RelV v u->Q u s'):wpAny (model X.prog X.w) A (getAttr (.ref a) f b) Q E s:=by obtain⟨mA,acx,r,_,_,_⟩:=Hg I.bD e;obtain⟨u,hu,ru⟩:=ow.some_of (v:=v) (o:=mA f) (by rw[<-l];exact r f);exact get_map I.iD acx (c.get f) c.hd n hu (a4e ru) (h u _ (I.tok _) ru)
theorem QK{m:Str}{g:Addr}{pl:Sem Bool}{Q:Value×List Value->ah->Prop}(I:Inv X ay O H s)(e:H a=some (.ins C dx fs))(c:kv X.K C)(k:Meth X.K C m g)(l:fs.lookup m=none) (h:Q (.ref g,[.ref a]) s):wpAny (model X.prog X.w) A (getMethod (.ref a) m pl) Q E s:=by obtain⟨mA,acx,r,_,_,_⟩:=Hg I.bD e;have hn:mA m=none:=ow.none_of (by rw[<-l];exact r m);exact a51 I.iD acx (c.get m) k.at_ k.fn hn h
theorem M7{y:V}{u:Value}{Q:Unit->ah->Prop}(I:Inv X ay O H s)(e:H a=some (.ins C dx fs))(c:kv X.K C)(n:j9 X.K C f)(hl:fs.length<1000)(ry:RelV y u) (h:∀s',Inv X ay O (upd H a (.ins C dx (iZ f y fs))) s'->Q () s'):wpAny (model X.prog X.w) A (setAttr (.ref a) f u) Q E s:=by
 obtain⟨mA,acx,r,wi,_,ho⟩:=Hg I.bD e;have hz:(fs.map (·.1)).length<=sizeLine:=by rw[bL,sizeLine_eq];lia
 refine Wu I.iD acx c.sa c.po n.Vo c.hd wi hz λh' O' sb=>h _ ?_;have hd:∃o,h'.get? dx=some o:=let⟨o,_,_,e',_⟩:=O'.ns;⟨o,e'⟩;refine I.write (x:=a) (e:=dx) (by rw[e];exact True.intro) (.inr ho) (λb q hb z=>(sb.2 b hb).trans z) hd ?_;refine⟨by rw[aV acx.ne];exact ho,?_,acx.ne,O'.obj,_,O'.ns,λg=>?_,λg hg=>?_⟩
 ·have:=Pr f y fs;lia
 ·show ow ((iZ f y fs).lookup g) (if g=f then some u else mA g)
  rw[Pk];by_cases q:g=f
  ·rw[bo q,bo q];exact ry
  ·rw[bB q,bB q];exact r g
 ·by_cases q:g=f
  ·rw[q];exact(Ha f y fs).1
  ·refine(Ha f y fs).2 g (wi g λz=>hg ?_)
   show(if g=f then some u else mA g)=none;rw[bB q];exact z
theorem Inv.made(I:Inv X ay O H s):Inv X ay O (upd (upd H s.heap.objs.size (.own (s.heap.objs.size+1))) (s.heap.objs.size+1) (.ins C s.heap.objs.size [])) {s with heap:=(s.heap.push PySem.W.emptyDict).push (PySem.W.instObj C s.heap.objs.size)}:=by
 have e1:(s.heap.push PySem.W.emptyDict).get? s.heap.objs.size=some PySem.W.emptyDict:=fj s.heap rfl;have e2:((s.heap.push PySem.W.emptyDict).push (PySem.W.instObj C s.heap.objs.size)).get? (s.heap.objs.size+1)=some (PySem.W.instObj C s.heap.objs.size):=by have:=fj (s.heap.push PySem.W.emptyDict) (o:=PySem.W.instObj C s.heap.objs.size) rfl;rwa [qD]at this
 have e3:(s.heap.push PySem.W.emptyDict).Ns s.heap.objs.size (λ_=>none):=⟨PySem.W.emptyDict,#[],_,e1,Z,(λe he=>absurd he (by simp)),λ_=>rfl⟩;have I1:=I.laid (a:=s.heap.objs.size) (o:=.own (s.heap.objs.size+1)) (h':=s.heap.push PySem.W.emptyDict) (t':=s.toks) (λb u q=>cF _ q) (bf _) ⟨_,e1⟩;refine I1.laid (a:=s.heap.objs.size+1) (o:=.ins C s.heap.objs.size []) (t':=s.toks) (λb u q=>cF _ q) (Nat.le_of_eq (qD _ _)) ?_;have ne:s.heap.objs.size≠s.heap.objs.size+1:=eQ (Ui _);refine⟨by rw[aV ne,bQ],gH _,ne,e2,λ_=>none,(Heap.Ns1.of_empty e3).at λo q=>cF _ q,λ_=>True.intro,λy hy=>absurd rfl hy⟩
theorem a8i{prog:ai}{w:World}{env:Env}{e:Expr}{f:Str}{pos:Pos}{s:ah}{Q:Value->ah->Prop}(hb:attributeBase e f env (eval e env)=eval e env) (h:wpAny (model prog w) A (eval e env) (λo s₁=>wpAny (model prog w) A (getAttr o f true) Q E s₁) E s):wpAny (model prog w) A (eval (.Attribute e f pos) env) Q E s:=Attribute_any_ h (by rw[arm_eval_Attribute,hb])
end
def aaz(X:Cx)(op:Operator)(rd:V->V->Hp->VK->Prop):Prop:=∀(ay:List (Addr×Obj))(s:ah)(O:St)(H:Hp)(x y:V)(u v:Value)(Q:VK),Inv X ay O H s->RelV x u->RelV y v->rd x y H Q->wpAny (model X.prog X.w) X.A (inplaceOp op u v) (EP X ay O Q) X.xe s
section
variable {X:Cx}{o e value:Expr}{f:Str}{pos pos' tD:Pos}{ta tv:TE}
end
section
variable {X:Cx}{ay:List (Addr×Obj)}{O:St}{H:Hp}{s:ah}{A:ak}{E:Value->ah->Prop}{Q:Value->ah->Prop}{c:Value}{b:Bool}
end
structure dE(k:Nat)(A:ak):Prop where
 hd:A.handled=none
 dp:A.depth+3*k+5<recursionLimit
 un:A.units+16*k+200<cLine
theorem dE.mono{j k:Nat}{A:ak}(r:dE k A)(h:j<=k):dE j A:=⟨r.hd,by have:=r.dp;lia,by have:=r.un;lia⟩
theorem dE.deeper{k:Nat}{A:ak}(r:dE (k+1) A)(env:Env):dE k (A.deeper env):=⟨r.hd,by have:=r.dp;show A.depth+1+3*k+5<_;lia,by have:=r.un;show A.units+3+16*k+200<_;lia⟩
theorem a1w{A:ak}{C:Addr}{us:List Value}{kw:List (Str×Value)}:(A.under (.builtin "type.__call__" ⟨.ref C::us,kw⟩)).depth=A.depth+1:=by first|rfl|simp[Around.under,Code.weight,Code.isCreation,Code.isGuard,Code.isCaller,Code.frames,Code.isFrame,guardIds]
theorem a1u{A:ak}{C:Addr}{us:List Value}{kw:List (Str×Value)}:(A.under (.builtin "type.__call__" ⟨.ref C::us,kw⟩)).units=A.units+1:=by first|rfl|simp[Around.under,Code.cUnits,Code.frames,Code.isFrame]
theorem dE.make{k:Nat}{A:ak}(r:dE (k+1) A)(C:Addr)(us:List Value)(kw:List (Str×Value)):dE k (A.under (.builtin "type.__call__" ⟨.ref C::us,kw⟩)):=⟨r.hd,by have:=r.dp;rw[a1w];omega,by have:=r.un;rw[a1u];omega⟩
theorem dE.depth{k:Nat}{A:ak}(r:dE k A):A.depth<recursionLimit:=by have:=r.dp;lia
theorem dE.units{k:Nat}{A:ak}(r:dE k A):A.units+64<cLine:=by have:=r.un;lia
def vw:TA:=λ_ H Q=>Q [] H
def VM(ta:TE)(tr:TA):TA:=λO H Q=>ta O H λx H1=>tr O H1 λxs H2=>Q (x::xs) H2
section
variable {X:Cx}{e:Expr}{es:List Expr}{te:TE}{t:TA}{pos:Pos}
theorem az:PA X [] vw:=λ_ _ _ _ H Q I h=>Calls.spliced_nil ⟨[],H,I,.nil,h⟩
theorem au(ha:PE X e te)(hr:PA X es t)(hs:starEach (e::es) X.env=(false,eval e X.env)::starEach es X.env:=by rfl):PA X (e::es) (VM te t):=by intro pos ay s O H Q I h;rw[hs];show wpAny _ _ (spliced ((false,eval e X.env)::backTo pos (starEach es X.env))) _ _ s;refine Calls.spliced_cons (ba (ha ay s O H _ I h) λu s1 ⟨x,H1,I1,r1,q1⟩=>?_);exact ba (hr pos ay s1 O H1 _ I1 q1) λus s2 ⟨xs,H2,I2,r2,q2⟩=>⟨x::xs,H2,I2,.cons r1 r2,q2⟩
end
abbrev Sp:=List V->Hp->VK->XK->Prop
abbrev kX:=List Env->Hp->ah->XK->Value->ah->Prop
structure vj(P:ai)(w:World)(K:ag)(mg:bV)(aA:Heap)(A:ak)(outer:List Env)(s:ah)(H:Hp):Prop where
 frames:A.frames=some outer
 mod:Mod K mg aA
 bs:∀b o,aA.get? b=some o->s.heap.get? b=some o/\H b=none
 mZ:aA.objs.size<=s.heap.objs.size
 kf:s.heap.FunFrames aA outer
 pV:∀b∈gb outer,H b=none
 bD:fc P w H s.heap
 bare:AllBare s.gens
def CE(outer:List Env)(P:ai)(w:World)(H:Hp)(s:ah)(Q:VK)(u:Value)(s':ah):Prop:=∃v H',s'.os=s.os/\AllBare s'.gens/\Un (gb outer) [] H H' s.heap s'.heap/\fc P w H' s'.heap/\RelV v u/\Q v H'
def CR(CX:kX)(outer:List Env)(P:ai)(w:World)(H:Hp)(s:ah)(Q:VK)(E:XK)(r:Result)(s':ah):Prop:=match r with | .ok (.ret u)=>CE outer P w H s Q u s' | .ok _=>False | .error e=>CX outer H s E e s'
structure iU(P:ai)(w:World)(K:ag)(mg:bV)(aA:Heap)(CX:kX)(k:Nat)(f:Addr)(fd:FuncData)(ps:List Str)(sp:Sp):Prop where
 len:∀vs H Q E,sp vs H Q E->vs.length=ps.length
 run:∀(A:ak)(outer:List Env)(s:ah)(H:Hp)(args:Args)(us:List Value)(vs:List V)(Q:VK)(E:XK),dE k A->vj P w K mg aA A outer s H->BindsTo s fd args (ps.zip us)->Vals vs us->sp vs H Q E->codeAny (model P w) A (.call (.ref f) args) (CR CX outer P w H s Q E) s
theorem vj.make{P:ai}{w:World}{K:ag}{mg:bV}{aA:Heap}{A:ak}{outer:List Env}{s:ah}{H:Hp}(e:vj P w K mg aA A outer s H)(C:Addr)(us:List Value)(kw:List (Str×Value)): vj P w K mg aA (A.under (.builtin "type.__call__" ⟨.ref C::us,kw⟩)) outer s H:=⟨by first|exact e.frames|(simpa[Around.under,Code.envs,Code.isFrame,pushEnvs]using e.frames),e.mod,e.bs,e.mZ,e.kf,e.pV,e.bD,e.bare⟩
section
variable {X:Cx}{ay:List (Addr×Obj)}{O:St}{H:Hp}{s s':ah}
theorem Inv.Rk(I:Inv X ay O H s):vj X.prog X.w X.K X.mg X.aA X.A X.stack s H:=⟨I.ok.frames,I.ok.mod,I.bs,gU I.ok.mZ I.sz,I.stack,I.L6,I.bD,I.bare⟩
theorem Inv.after{Q:VK}{u:Value}(I:Inv X ay O H s)(h:CE X.stack X.prog X.w H s Q u s'):EP X ay O Q u s':=by obtain⟨v,H',os,bare,un,bD,r,q⟩:=h;obtain⟨hh,g,d,t,Bv⟩:=s';obtain rfl:Bv=s.os:=os;exact⟨v,H',I.call (h':=hh) (g':=g) (d':=d) (t':=t) (ch:=[]) un bD bare (λb z=>absurd z (by simp)),r,q⟩
end
def VO(sp:Sp)(gc:List V)(E:XK)(t:TA):TE:=λO H Q=>t O H λvs H1=>sp (vs++gc) H1 Q E
inductive CM(C:Addr)(m:Str)(sp:Sp)(gc:List V)(E:XK)(t:TA)(O:St)(Q:VK)(x:V)(H1:Hp):Prop |mk (a:_)(dx:_)(fs:_)(h0:x= .ref a)(h1:H1 a=some (.ins C dx fs))(h2:fs.lookup m=none)(h3:t O H1 λvs H2=>sp (x::(vs++gc)) H2 Q E)
def KJ(C:Addr)(m:Str)(sp:Sp)(gc:List V)(E:XK)(ta:TE)(t:TA):TE:=λO H Q=>ta O H λx H1=>CM C m sp gc E t O Q x H1
def VE(C:Addr)(sp:Sp)(gc:List V)(E:XK)(t:TA):TE:=λO H Q=>t O H λvs H1=>∀x dx,H1 x=none->H1 dx=none->dx≠x->sp (.ref x::(vs++gc)) (upd (upd H1 dx (.own x)) x (.ins C dx [])) (λv H2=>v= .bN/\Q (.ref x) H2) E
def Binds(K:ag)(fd:FuncData)(ps:List Str)(ds:List Value):Prop:=∀(s:ah)(us:List Value),K.In s.heap->(us++ds).length=ps.length->BindsTo s fd ⟨us,[]⟩ (ps.zip (us++ds))
theorem Binds.all{K:ag}{fd:FuncData}{ps:List Str}(h:∀us:List Value,us.length=ps.length->bindArgs fd ⟨us,[]⟩=pure (ps.zip us)):Binds K fd ps []:=λs us _ hl=>by rw[qC]at hl⊢;exact .of_eq (h us hl)
def Passes(CX:kX)(X:Cx)(E:XK):Prop:=∀(ay:List (Addr×Obj))(O:St)(H:Hp)(s:ah)(e:Value)(s':ah),Inv X ay O H s->CX X.stack H s E e s'->X.xe e s'
section
variable {X:Cx}{CX:kX}{k:Nat}{f C:Addr}{fd:FuncData}{ps:List Str}{sp:Sp}{gc:List V}{ds:List Value}{E:XK}{x m:Str}{p pos apos:Pos}{e o:Expr}{es:List Expr}{ta:TE}{t:TA}
theorem FO{ay:List (Addr×Obj)}{O:St}{H:Hp}{s:ah}{Q:VK}{us:List Value}{vs:List V}(F:iU X.prog X.w X.K X.mg X.aA CX k f fd ps sp)(hr:dE k X.A)(hb:Binds X.K fd ps ds)(hd:Vals gc ds)(hx:Passes CX X E) (I:Inv X ay O H s)(r:Vals vs us)(h:sp (vs++gc) H Q E):wpAny (model X.prog X.w) X.A (call (.ref f) us) (EP X ay O Q) X.xe s:=by
 have r2:Vals (vs++gc) (us++ds):=r.append hd;have hl:(us++ds).length=ps.length:=by rw[<-r2.length];exact F.len _ _ _ _ h
 refine wpAny_call (CW (F.run X.A X.stack s H ⟨us,[]⟩ (us++ds) (vs++gc) Q E hr I.Rk (hb s us I.iD hl) r2 h) λr s' hq=>?_);cases r with |error e=>exact hx ay O H s e s' I hq |ok fl=>cases fl with |ret u=>exact I.after hq |next=>exact False.elim hq |brk=>exact False.elim hq |cont=>exact False.elim hq
theorem Yr(F:iU X.prog X.w X.K X.mg X.aA CX k f fd ps sp)(hr:dE k X.A)(hg:Gl X x)(hm:X.mg x=some (.ref f))(hk:PySem.W.keepIn X.K (.ref f)=true)(hb:Binds X.K fd ps ds)(hd:Vals gc ds)(hx:Passes CX X E) (ha:PA X (e::es) t)(jJ:(x==("__debug__":Str))=false:=by decide)(he:starEach (e::es) X.env=(false,eval e X.env)::starEach es X.env:=by rfl)(gC:(backTo pos (starEach es X.env)).any (·.1)=false:=by rfl): PE X (.Call (.Name x p) (e::es) [] pos) (VO sp gc E t):=by intro ay s O H Q I h;refine JL (BO I hg hm ?_ jJ);refine Ua (h₀:=X.aA) I.ok.mod.wD hk (ba (ha pos ay s O H _ I h) λus s1 ⟨vs,H1,I1,r,q⟩=>⟨I1.iD,?_⟩) he gC;exact FO F hr hb hd hx I1 r q
theorem Yl{pl:Sem Bool}(he:PE X o ta)(c:kv X.K C)(hm:Meth X.K C m f)(F:iU X.prog X.w X.K X.mg X.aA CX k f fd ps sp)(hr:dE k X.A)(hb:Binds X.K fd ps ds)(hd:Vals gc ds)(hx:Passes CX X E)(ha:PA X (e::es) t) (ib:starEach (e::es) X.env=(false,eval e X.env)::starEach es X.env:=by rfl)(gC:(backTo pos (starEach es X.env)).any (·.1)=false:=by rfl) (ht:eval (.Call (.Attribute o m apos) (e::es) [] pos) X.env=(do
 let ov<-eval o X.env
 standAt apos.atName
 let(f,first)<-holding [ov] (getMethod ov m pl)
 callWith pos f first (backTo pos (starEach (e::es) X.env)) (backToKw pos (keywordEach [] X.env))):=by rfl): PE X (.Call (.Attribute o m apos) (e::es) [] pos) (KJ C m sp gc E ta t):=by
 intro ay s O H Q I h;refine PySem.W.methodCall_KW (pl:=pl) (ba (he ay s O H _ I h) λu s1 ⟨x,H1,I1,rx,a,dx,fs,ex,ea,l,q⟩=>?_) ht;subst ex;obtain rfl:u=Value.ref a:=rx;refine QK I1 ea c hm l ?_;refine Ua (first:=[.ref a]) (h₀:=X.aA) I.ok.mod.wD hm.kp (ba (ha pos ay s1 O H1 _ I1 q) λus s2 ⟨vs,H2,I2,r,q2⟩=>⟨I2.iD,?_⟩) ib gC;exact FO (us:=.ref a::us) (vs:=.ref a::vs) F hr hb hd hx I2 (.cons Z r) q2
theorem Yk{pl:Sem Bool}(he:PE X o ta)(c:kv X.K C)(hm:Meth X.K C m f)(F:iU X.prog X.w X.K X.mg X.aA CX k f fd ps sp)(hr:dE k X.A)(hb:Binds X.K fd ps ds)(hd:Vals gc ds)(hx:Passes CX X E) (ht:eval (.Call (.Attribute o m apos) [] [] pos) X.env=(do
 let ov<-eval o X.env
 standAt apos.atName
 let(f,first)<-holding [ov] (getMethod ov m pl)
 callWith pos f first (backTo pos (starEach [] X.env)) (backToKw pos (keywordEach [] X.env))):=by rfl): PE X (.Call (.Attribute o m apos) [] [] pos) (KJ C m sp gc E ta vw):=by
 intro ay s O H Q I h;refine PySem.W.methodCall_KW (pl:=pl) (ba (he ay s O H _ I h) λu s1 ⟨x,H1,I1,rx,a,dx,fs,ex,ea,l,q⟩=>?_) ht;subst ex;obtain rfl:u=Value.ref a:=rx;refine QK I1 ea c hm l ?_;exact PySem.W.callWith_K0 (first:=[.ref a]) I1.iD hm.kp (FO (us:=[.ref a]) (vs:=[.ref a]) F hr hb hd hx I1 (.cons rfl .nil) q)
structure Mk(K:ag)(C f:Addr):Prop where
 makes:PySem.W.makesIn K C=true
 init:PySem.W.findIn K (.ref C) "__init__"=some (some (.ref f))
 fn:PySem.W.isFn K (.ref f)=true
 kp:PySem.W.keepIn K (.ref C)=true
theorem X0{ay:List (Addr×Obj)}{O:St}{H:Hp}{s:ah}{Q:VK}{us:List Value}{vs:List V}(M:Mk X.K C f)(F:iU X.prog X.w X.K X.mg X.aA CX k f fd ps sp)(hr:dE (k+1) X.A)(hb:Binds X.K fd ps ds)(hd:Vals gc ds) (hx:Passes CX X E)(I:Inv X ay O H s)(r:Vals vs us) (h:∀x dx,H x=none->H dx=none->dx≠x->sp (.ref x::(vs++gc)) (upd (upd H dx (.own x)) x (.ins C dx [])) (λv H2=>v= .bN/\Q (.ref x) H2) E): wpAny (model X.prog X.w) X.A (call (.ref C) us) (EP X ay O Q) X.xe s:=by
 have hq:=h (s.heap.objs.size+1) s.heap.objs.size (I.bD.fresh (Nat.le_succ _)) (I.bD.fresh (bf _)) (eQ (Ui _));have I2:=Inv.made (C:=C) I;have r2:Vals (V.ref (s.heap.objs.size+1)::(vs++gc)) (Value.ref (s.heap.objs.size+1)::(us++ds)):=.cons Z (r.append hd);have hl:(Value.ref (s.heap.objs.size+1)::us++ds).length=ps.length:=by have e:=r2.length;rw[F.len _ _ _ _ hq]at e;exact e.symm
 refine wpAny_call (a1v (f:=f) I.iD M.makes M.init (fN.mp M.fn) (CW (F.run _ X.stack _ _ ⟨Value.ref (s.heap.objs.size+1)::us,[]⟩ (Value.ref (s.heap.objs.size+1)::(us++ds)) _ _ E (hr.make C us []) (I2.Rk.make C us []) (hb _ (Value.ref (s.heap.objs.size+1)::us) I2.iD hl) r2 hq) λr s' kN=>?_));cases r with |error e=>exact hx ay O _ _ e s' I2 kN |ok fl=>cases fl with |ret u=>obtain⟨v,H',I3,rv,ev,q3⟩:=I2.after kN;subst ev;exact⟨rv,⟨V.ref (s.heap.objs.size+1),H',I3,Z,q3⟩⟩ |next=>exact False.elim kN |brk=>exact False.elim kN |cont=>exact False.elim kN
theorem Ym(M:Mk X.K C f)(F:iU X.prog X.w X.K X.mg X.aA CX k f fd ps sp)(hr:dE (k+1) X.A)(hg:Gl X x)(hm:X.mg x=some (.ref C))(hb:Binds X.K fd ps ds)(hd:Vals gc ds)(hx:Passes CX X E) (ha:PA X (e::es) t)(jJ:(x==("__debug__":Str))=false:=by decide)(he:starEach (e::es) X.env=(false,eval e X.env)::starEach es X.env:=by rfl)(gC:(backTo pos (starEach es X.env)).any (·.1)=false:=by rfl): PE X (.Call (.Name x p) (e::es) [] pos) (VE C sp gc E t):=by intro ay s O H Q I h;refine JL (BO I hg hm ?_ jJ);refine Ua (h₀:=X.aA) I.ok.mod.wD M.kp (ba (ha pos ay s O H _ I h) λus s1 ⟨vs,H1,I1,r,q⟩=>⟨I1.iD,?_⟩) he gC;exact X0 M F hr hb hd hx I1 r q
end
section
variable {X:Cx}{CX:kX}{k:Nat}{f C:Addr}{fd:FuncData}{ps ks:List Str}{sp:Sp}{E:XK}{x m:Str}{p pos apos abI:Pos}{e o:Expr}{es:List Expr}{kws:List Keyword}{te ta:TE}{t tk:TA}{nm:Option Str}
variable {g:List Value->List Value->List Value}{gV:List V->List V->List V}
end
structure bj(N P:List Str)(sc:Scope):Prop where
 kind:sc.kind= .function
 co:sc.isCoroutine=false
 gen:sc.isGenerator=false
 nd:N.Nodup
 pre:N.take P.length=P
 par:∀x∈P,sc.names.lookup x=some .local\/sc.names.lookup x=some .cell
 a0H:∀y∈sc.names,y.2≠ .free
theorem SD{kindOf:Str->Option NameKind}{x:Str}:∀{binds:List (Str×Value)}{m:bV},(∀v,(x,v)∉binds)->bindL kindOf binds m x=m x
 |[],_,_=>rfl |(n,v)::r,m,h=>by
  unfold bindL;rw[SD λw hw=>h w (xE _ hw)];split
  ·have:x≠n:=by rintro rfl;exact h v K6
   simp[this]
  ·rfl
theorem SF{kindOf:Str->Option NameKind}{x:Str}:∀{binds:List (Str×Value)}{m:bV},(∀v,(x,v)∉binds)->bindC kindOf binds m x=m x
 |[],_,_=>rfl |(n,v)::r,m,h=>by
  unfold bindC;rw[SF λw hw=>h w (xE _ hw)];split
  ·rfl
  ·have:x≠n:=by rintro rfl;exact h v K6
   simp[this]
theorem SE{kindOf:Str->Option NameKind}{x:Str}{v:Value}:∀{P:List Str}{vs:List Value}{i:Nat}{m:bV},P.Nodup->P[i]? =some x->vs[i]? =some v->kindOf x=some .local->bindL kindOf (P.zip vs) m x=some v |[],_,_,_,_,h,_,_=>by simp at h |_::_,[],_,_,_,_,h,_=>by simp at h |p::P,w::vs,0,m,nd,h1,h2,hk=>by simp at h1 h2;subst h1;subst h2;show bindL kindOf ((p,w)::P.zip vs) m p=_;unfold bindL;rw[SD λv hv=>(K4.mp nd).1 (Ak hv).1,bo hk];simp |p::P,w::vs,i+1,m,nd,h1,h2,hk=>by show bindL kindOf ((p,w)::P.zip vs) m x=_;unfold bindL;exact SE (i:=i) (K4.mp nd).2 (by simpa using h1) (by simpa using h2) hk
theorem SG{kindOf:Str->Option NameKind}{x:Str}{v:Value}:∀{P:List Str}{vs:List Value}{i:Nat}{m:bV},P.Nodup->P[i]? =some x->vs[i]? =some v->kindOf x≠some .local->bindC kindOf (P.zip vs) m x=some v |[],_,_,_,_,h,_,_=>by simp at h |_::_,[],_,_,_,_,h,_=>by simp at h |p::P,w::vs,0,m,nd,h1,h2,hk=>by simp at h1 h2;subst h1;subst h2;show bindC kindOf ((p,w)::P.zip vs) m p=_;unfold bindC;rw[SF λv hv=>(K4.mp nd).1 (Ak hv).1,bB hk];simp |p::P,w::vs,i+1,m,nd,h1,h2,hk=>by show bindC kindOf ((p,w)::P.zip vs) m x=_;unfold bindC;exact SG (i:=i) (K4.mp nd).2 (by simpa using h1) (by simpa using h2) hk
def start(N:List Str)(vs:List V):St:=vs.map some++List.replicate (N.length-vs.length) none
def jK(CX:kX)(P:ai)(w:World)(K:ag)(mg:bV)(aA:Heap)(N:List Str)(qual:Str)(scope:Scope)(f:Addr)(cd:Value)(A:ak)(outer:List Env)(s:ah)(H:Hp)(E:XK):Cx where
 prog:=P
 w:=w
 K:=K
 mg:=mg
 aA:=aA
 A:=A.deeper (envOfC qual scope s.heap.objs.size f cd)
 N:=N
 s₀:=s
 H₀:=H
 env:=envOfC qual scope s.heap.objs.size f cd
 outer:=outer
 stack:=envOfC qual scope s.heap.objs.size f cd::outer
 ex:=[]
 calm:=true
 fn:=λ_=>true
 pn:=[]
 xe:=λe s'=>wpAny (model P w) (A.deeper (envOfC qual scope s.heap.objs.size f cd)) (leaving (envOfC qual scope s.heap.objs.size f cd) e) (λ_ FH=>CX outer H s E e FH) (λe' FH=>CX outer H s E e' FH) s'
theorem Ss{sc:Scope}{n:Nat}{x:Str}(h:sc.names.lookup x=some .cell):∃c,(cellsFrom n sc.names []).lookup x=some c:=by have q:=U9 sc.names n [] (.inl h);exact Option.isSome_iff_exists.mp q
theorem PV{CX:kX}{P:ai}{w:World}{K:ag}{mg:bV}{aA:Heap}{N ps:List Str}{qual:Str}{scope:Scope}{f:Addr}{cd:Value}{A:ak}{outer:List Env}{s s1:ah}{H:Hp}{E:XK}{us:List Value}{vs:List V} (S:bj N ps scope)(hd:A.handled=none)(e0:vj P w K mg aA A outer s H)(hl:vs.length=ps.length)(r:Vals vs us) (x:InCallC s s.heap.objs.size (bindL (envOfC qual scope s.heap.objs.size f cd).kindOf (ps.zip us) λ_=>none) (cellsFrom (s.heap.objs.size+1) scope.names []) (bindC (envOfC qual scope s.heap.objs.size f cd).kindOf (ps.zip us) λ_=>none) s1): Inv (jK CX P w K mg aA N qual scope f cd A outer s H E) [] (start N vs) H s1:=by
 have gC:ps.length<=N.length:=by have:=congrArg List.length S.pre;rw[je]at this;lia
 obtain⟨h1,tk,rfl,hk⟩:=x.done;have tW:∀b:Addr,b∉(jK CX P w K mg aA N qual scope f cd A outer s H E).ex:=λb z=>absurd (show b∈([]:List Addr)from z) (by simp);refine⟨⟨e0.mod,S.kind,Z,Z,bf _,λy z c h1 h2=>?_,λy hy=>?_,λy c _ h=>?_,λ_=>hd,Around.frames_deeper e0.frames,.inr ⟨Z,Z⟩,λb z=>absurd z (tW b),e0.bs,e0.mZ,λb _ _=>tW b,λb z=>absurd z (tW b),e0.kf,e0.pV⟩,rfl,e0.bare,Un.kept hk,⟨_,x.toInCall.ns,λi y v h1 h2 h3=>?_⟩,λy c h=>⟨_,x.cell y c h⟩,e0.bD.fresh (bf _),λy c h=>?_,λp hp=>absurd (show p∈([]:List (Addr×Obj))from hp) (by simp),e0.bD.kept hk,?_⟩
 ·exact name_of_addr x.apart (D6 h1) (D6 h2)
 ·have hy:scope.names.lookup y=some .cell\/scope.names.lookup y=some .free:=hy
  rcases hy with hy|hy
  ·exact Ss hy
  ·exact absurd Z (S.a0H _ (D6 hy))
 ·exact K1 (x.above y c (D6 h))
 ·have hi:i<vs.length:=by
   unfold start at h2;by_cases hi:i<vs.length
   ·exact hi
   ·rw[m9 (by simpa using hi)]at h2
    rw[Ka]at h2;split at h2<;>cases h2
  have ha:vs[i]? =some v:=by unfold start at h2;rw[kZ (by simpa using hi),bX]at h2;cases e:vs[i]? with |none=>rw[e]at h2;cases h2 |some a=>rw[e]at h2;cases h2;rfl
  obtain⟨u,hu,rv⟩:=r.get ha;have hp:ps[i]? =some y:=by rw[<-S.pre,List.getElem?_take_of_lt aw];exact h1
  have OQ:ps.Nodup:=by rw[<-S.pre];exact S.nd.sublist (List.take_sublist _ _)
  refine⟨u,rv,?_⟩;rcases S.par y (gj hp)with k|k
  ·exact .inl ⟨k,SE OQ hp hu k⟩
  ·obtain⟨c,e⟩:=Ss (n:=s.heap.objs.size+1) k
   refine .inr ⟨.inl k,c,e,?_⟩;have q:=x.cell y c e;rw[SG OQ hp hu (by show scope.names.lookup y≠_;rw[k];decide)]at q;exact q
 ·exact e0.bD.fresh (K1 (x.above y c (D6 h)))
 ·unfold start
  show _=N.length;rw[cE,bL,xF]
  lia
theorem a5p{CX:kX}{P:ai}{w:World}{K:ag}{mg:bV}{aA:Heap}{k:Nat}{f:Addr}{name qual:Str}{params:Arguments}{body:List Stmt}{scope:Scope}{dV kV doc pm aM ct oc:Value}{an od:Option Addr} {hJ:Array (Option Value)}{N ps:List Str}{sp:Sp}(lk:K.lookup f=some ⟨oc,od,.func (PySem.W.fnOf name qual params body scope dV kV doc pm an aM ct),hJ⟩)(jo:PySem.W.codeIn K aM qual=true)(S:bj N ps scope) (len:∀vs H Q E,sp vs H Q E->vs.length=ps.length) (kP:∀(A:ak)(outer:List Env)(s:ah)(H:Hp)(vs:List V)(Q:VK)(E:XK),dE k (A.deeper (envOfC qual scope s.heap.objs.size f aM))->sp vs H Q E->∃t,gT (jK CX P w K mg aA N qual scope f aM A outer s H E) body t/\t {nx:=λ_ H'=>Q .bN H',rt:=Q} (start N vs) H): iU P w K mg aA CX (k+1) f (PySem.W.fnOf name qual params body scope dV kV doc pm an aM ct) ps sp:=by
 refine⟨len,λA outer s H args us vs Q E hr e0 hb r kM=>?_⟩;have hl:=len _ _ _ _ kM;have KX:K.In s.heap:=e0.mod.wD.keeps λb o e=>(e0.bs b o e).1;have lim:s.heap.NoLimit:=e0.mod.nolimit.keeps λb o e=>(e0.bs b o e).1;have ka:∀y∈ps.zip us,scope.names.lookup y.1=some .local\/(scope.names.lookup y.1=some .cell/\((cellsFrom (s.heap.objs.size+1) scope.names []).lookup y.1).isSome=true):=λ⟨n,v⟩ hy=>by
  rcases S.par n (Ak hy).1 with q|q
  ·exact .inl q
  ·exact .inr ⟨q,U9 _ _ _ (.inl q)⟩
 refine codeAny_call_function hr.depth (KX _ _ lk) Z S.co S.gen Z (PySem.W.codeRec_of KX jo) (hb _ _ _ _ ?_);refine wpAny_newFunctionEnv_cells S.kind ka λenv he s1 x=>?_;subst he;refine⟨lim.keeps x.toInCall.keep,codeAny_func ?_⟩;obtain⟨t,ht,hq⟩:=kP A outer s H vs Q E (hr.deeper _) kM;have I:Inv (jK CX P w K mg aA N qual scope f aM A outer s H E) [] (start N vs) H s1:=PV S hr.hd e0 hl r x;refine fU (ht [] s1 (start N vs) H _ I hq) (λfl s' hs=>?_) λe s' hs=>hs;have fin:∀{σ':St}{H':Hp}{v:V}{u:Value},Inv (jK CX P w K mg aA N qual scope f aM A outer s H E) [] σ' H' s'->RelV v u->Q v H'->CE outer P w H s Q u s':=λ{σ' H' v u} J rv q=>⟨v,H',J.os,J.bare,J.aA,J.bD,rv,q⟩;cases fl with |ret u=>obtain⟨v,σ',H',J,rv,q⟩:=hs;exact fin J rv q |next=>obtain⟨σ',H',J,q⟩:=hs;exact fin (v:=V.bN) (u:=Value.none) J Z q |brk=>obtain⟨_,_,_,q⟩:=hs;exact False.elim q |cont=>obtain⟨_,_,_,q⟩:=hs;exact False.elim q
section
variable {X:Cx}{x:Str}{p pos:Pos}{e:Expr}{es:List Expr}{t:TA}{id T:String}{r:List V->Hp->VK->Prop}
def AR(r:List V->Hp->VK->Prop)(t:TA):TE:=λO H Q=>t O H λvs H1=>r vs H1 Q
theorem eD(hc:fw X (.builtin id) r)(hg:Gl X x)(hm:X.mg x=none)(hv:bootBuiltins x=some (.builtin id))(ha:PA X (e::es) t)(hn:x≠"__name__":=by decide)(jJ:(x==("__debug__":Str))=false:=by decide) (he:starEach (e::es) X.env=(false,eval e X.env)::starEach es X.env:=by rfl)(gC:(backTo pos (starEach es X.env)).any (·.1)=false:=by rfl):PE X (.Call (.Name x p) (e::es) [] pos) (AR r t):=by intro ay s O H Q I h;refine JL (rE I hg hm hv ?_ hn jJ);exact PyProof.Rows.callWith_builtin1 (ba (ha pos ay s O H _ I h) λus s1 ⟨vs,H1,I1,r1,q1⟩=>hc ay s1 O H1 vs us Q I1 r1 q1) he gC
theorem gL(hc:fw X (.type T) r)(hg:Gl X x)(hm:X.mg x=none)(hv:bootBuiltins x=some (.type T))(ha:PA X (e::es) t)(hn:x≠"__name__":=by decide)(jJ:(x==("__debug__":Str))=false:=by decide) (he:starEach (e::es) X.env=(false,eval e X.env)::starEach es X.env:=by rfl)(gC:(backTo pos (starEach es X.env)).any (·.1)=false:=by rfl):PE X (.Call (.Name x p) (e::es) [] pos) (AR r t):=by intro ay s O H Q I h;refine JL (rE I hg hm hv ?_ hn jJ);exact Ag (ba (ha pos ay s O H _ I h) λus s1 ⟨vs,H1,I1,r1,q1⟩=>hc ay s1 O H1 vs us Q I1 r1 q1) he gC
end
end L2
namespace HT
open PySem PyProof.Rows
section
open PySem.SeqAt
open PySem.AutoSeq1 (wpAny_loadPart')
open PySem.MeetsSeq PySem.MeetsSeq2 PySem.MeetsSeq3
end
section
variable {prog:ai}{w:World}{A:ak}{E:Value->ah->Prop}{s:ah}
def bZ(n d:Nat):Option Int->Nat |none=>d |some v=>if v<0 then(v+(n:Int)).toNat else min v.toNat n
theorem Ny (n d:Nat):bZ n d none=d:=rfl
theorem EV(n d k:Nat):bZ n d (some (k:Int))=min k n:=by show(if(k:Int)<0 then((k:Int)+(n:Int)).toNat else min (k:Int).toNat n)=min k n;rw[bB aw,Um]
theorem WL(n d:Nat)(hd:d<=n)(o:Option Int):bZ n d o<=n:=by cases o with |none=>exact hd |some v=>
 show(if v<0 then(v+(n:Int)).toNat else min v.toNat n)<=n;by_cases hv:v<0
 ·rw[bo hv];lia
 ·rw[bB hv];exact Nat.min_le_right _ _
theorem Sq(v:Int)(n d:Nat):(if v<0 then max (v+(n:Int)) 0 else min v (n:Int))=((bZ n d (some v):Nat):Int):=by
 show(if v<0 then max (v+(n:Int)) 0 else min v (n:Int))=(((if v<0 then(v+(n:Int)).toNat else min v.toNat n):Nat):Int);by_cases hv:v<0
 ·simp only[bo hv];lia
 ·simp only[bB hv];lia
theorem a8w(lo hi:Option Int)(n:Nat):Builtin.Slice.sliceAdjust lo hi 1 (n:Int)=(((bZ n 0 lo:Nat):Int),((bZ n n hi:Nat):Int)):=by
 have h1:¬((1:Int)<0):=by lia
 unfold Builtin.Slice.sliceAdjust;simp only[h1,if_false];refine Prod.ext ?_ ?_
 ·cases lo with |none=>rfl |some v=>exact Sq v n 0
 ·cases hi with |none=>rfl |some v=>exact Sq v n n
theorem Ya(i j:Nat):Builtin.Slice.slicePlaces (i:Int) (j:Int) 1=j-i:=by
 unfold Builtin.Slice.slicePlaces;have h1:(1:Int)>0:=by lia
 simp only[h1,vn,Int.ediv_one];split<;>lia
theorem M0{v:Value}{o:Option Int}{Q:Option Int->ah->Prop}(p:IsPart v o)(h:Q o s):wpAny (model prog w) A (Builtin.Slice.slicePartIndex v) Q E s:=by cases p with |none=>exact slicePart_none h |int i t=>exact slicePart_int h
theorem Wi{sl:Addr}{vl vu:Value}{lo hi:Option Int}{n:Nat}{Q:Int×Int×Nat->ah->Prop}(hs:s.heap.IsSliceOf sl vl vu .none)(pl:IsPart vl lo)(pu:IsPart vu hi) (h:Q (((bZ n 0 lo:Nat):Int),1,bZ n n hi-bZ n 0 lo) s):wpAny (model prog w) A (Builtin.Slice.sliceApplied (.ref sl) (pure (n:Int))) Q E s:=by obtain⟨os,jn,nU,rX⟩:=id hs;unfold Builtin.Slice.sliceApplied Builtin.Slice.sliceFields;refine aP (aP (jx jn rX (x:=vl) Z (aP (jx jn rX (x:=vu) Z (aP (jx jn rX (x:=.none) Z (cg ?_)))))));refine aP (slicePart_none ?_);show wpAny _ _ (if((1:Int)==0)=true then _ else _) _ _ s;rw[bB aB];refine aP (M0 pl (aP (M0 pu (aP (cg ?_)))));show wpAny _ _ (match Builtin.Slice.sliceAdjust lo hi 1 (n:Int)with|(lo,hi)=>pure (lo,(1:Int),Builtin.Slice.slicePlaces lo hi 1)) _ _ s;rw[a8w lo hi n];show wpAny _ _ (pure (((bZ n 0 lo:Nat):Int),(1:Int),Builtin.Slice.slicePlaces ((bZ n 0 lo:Nat):Int) ((bZ n n hi:Nat):Int) 1)) _ _ s;rw[Ya];exact cg h
theorem Yb(xs:Array Value)(i k:Nat):((List.range k).filterMap λ(m:Nat)=>xs[((i:Int)+(m:Int)*1).toNat]?).toArray=((xs.toList.drop i).take k).toArray:=by
 have e:(λ(m:Nat)=>xs[((i:Int)+(m:Int)*1).toNat]?)=λm=>xs[i+m]?:=by
  funext m;have:((i:Int)+(m:Int)*1).toNat=i+m:=by lia
  rw[this]
 rw[e];have:=pick_run xs i k;rw[List.filterMap_map]at this;have e2:((λx=>xs[x]?)∘λx=>i+x)=λm=>xs[i+m]?:=rfl;rw[e2]at this;rw[this]
theorem a52{t sl:Addr}{items:Array Value}{vl vu:Value}{lo hi:Option Int}{Q:Value->ah->Prop}(ht:IsTup s.heap t items)(hs:s.heap.IsSliceOf sl vl vu .none)(pl:IsPart vl lo)(pu:IsPart vu hi) (hw:¬(bZ items.size 0 lo=0/\bZ items.size items.size hi=items.size)) (h:Q (.ref s.heap.objs.size) {s with heap:=s.heap.push {cls:=.type "tuple",data:=.seq ((items.toList.drop (bZ items.size 0 lo)).take (bZ items.size items.size hi-bZ items.size 0 lo)).toArray}}) (BW:items.size<=sizeLine):wpAny (model prog w) A (getItem (.ref t) (.ref sl)) Q E s:=by
 have BV:sizeOk (.seq ((items.toList.drop (bZ items.size 0 lo)).take (bZ items.size items.size hi-bZ items.size 0 lo)).toArray):=by show((items.toList.drop (bZ items.size 0 lo)).take (bZ items.size items.size hi-bZ items.size 0 lo)).toArray.size<=sizeLine;rw[dY,je,oH,Ax];omega
 have hj:bZ items.size items.size hi<=items.size:=WL _ _ (bf _) hi;obtain⟨os,jn,nU,rX⟩:=id hs;have hTs:s.TypeIs (.ref sl) "slice":=⟨os,jn,nU⟩;unfold getItem
 try with_reducible refine Ab ?_
 first|refine aP (cg ?_)|skip
 refine aP (wpAny_sequenceKey ht.typeIs aB ?_);refine aP (CV (name:=Str.ofString "__getitem__") ht.typeIs Ud (CU Ud ht.typeIs entry_tuple_getitem ?_ (args_tuple_getitem _ _)));show wpAny _ _ (Builtin.Tuple.tupleItemsOf (.ref t)>>=_) _ _ s;refine aP (tupleItemsOf_ ht ?_);refine aP (wpAny_typeOf hTs ?_);rw[bo aB];refine aP (Wi hs pl pu ?_);have jZ:¬((((bZ items.size 0 lo:Nat):Int)==0&&(1:Int)==1&&(bZ items.size items.size hi-bZ items.size 0 lo)==items.size)=true):=by intro q;rw[fG,fG]at q;have q1:((bZ items.size 0 lo:Nat):Int)=0:=eq_of_beq q.1.1;have q2:bZ items.size items.size hi-bZ items.size 0 lo=items.size:=eq_of_beq q.2;exact hw ⟨cj,cj⟩
 show wpAny _ _ (if(((bZ items.size 0 lo:Nat):Int)==0&&(1:Int)==1&&(bZ items.size items.size hi-bZ items.size 0 lo)==items.size)=true then _ else _) _ _ s;rw[bB jZ,Yb]
 first |exact aP (m:=Builtin.Tuple.tupleExact _) (oE (cg ⟨_,Z,cg h⟩) BV) |exact aP (m:=Builtin.Tuple.tupleExact _) (oE (aP (cg (cg ⟨_,Z,cg h⟩))) BV) |exact aP (aP (m:=Builtin.Tuple.tupleExact _) (oE (cg (cg ⟨_,Z,cg h⟩)) BV)) |exact aP (aP (m:=Builtin.Tuple.tupleExact _) (oE (cg ⟨_,Z,cg h⟩) BV))
end
end HT
namespace L2
open PySem PySem.Spec PyProof.Rows
abbrev TO:=St->Hp->(Option Int->Hp->Prop)->Prop
def PO(X:Cx)(e:Option Expr)(t:TO):Prop:=∀(ay:List (Addr×Obj))(s:ah)(O:St)(H:Hp)(Q:Option Int->Hp->Prop),Inv X ay O H s->t O H Q->wpAny (model X.prog X.w) X.A (evalPart e X.env) (λu s'=>∃o H',Inv X ay O H' s'/\IsPart u o/\Q o H') X.xe s
def Vz:TO:=λ_ H Q=>Q none H
inductive a8V(Q:Option Int->Hp->Prop)(x:V)(H1:Hp):Prop |mk (i:_)(h0:x= .int i)(h1:Q (some i) H1)
def Vu(t:TE):TO:=λO H Q=>t O H λx H1=>a8V Q x H1
section
variable {X:Cx}{e:Expr}{te:TE}{lo hi:Option Expr}{tl th:TO}{pos p2:Pos}
theorem vS:PO X none Vz:=by intro ay s O H Q I h;rw[evalPart_none];exact cg ⟨none,H,I,.none,h⟩
theorem vR(h:PE X e te):PO X (some e) (Vu te):=by intro ay s O H Q I hw;rw[evalPart_some];refine ba (h ay s O H _ I hw) λu s1 ⟨x,H1,I1,r1,q1⟩=>?_;obtain⟨i,rfl,q⟩:=q1;obtain⟨t,rfl⟩:=r1;exact⟨some i,H1,I1,.int i t,q⟩
def CJ(X:Cx)(r:V->Option Int->Option Int->Hp->VK->Prop):Prop:=∀(ay:List (Addr×Obj))(s:ah)(O:St)(H:Hp)(x:V)(v vl vu:Value)(lo hi:Option Int)(sl:Addr)(Q:VK),Inv X ay O H s->RelV x v->s.heap.IsSliceOf sl vl vu .none->IsPart vl lo->IsPart vu hi->r x lo hi H Q->∃T id,typeLookup (.type T) "__getitem__"=pure (some (.builtin id))/\s.TypeIs v T/\wpAny (model X.prog X.w) X.A (getItem v (.ref sl)) (EP X ay O Q) X.xe s
def Vs(r:V->Option Int->Option Int->Hp->VK->Prop)(te:TE)(tl th:TO):TE:=λO H Q=>te O H λx H1=>tl O H1 λl H2=>th O H2 λu H3=>r x l u H3 Q
theorem vT{r:V->Option Int->Option Int->Hp->VK->Prop}(hr:CJ X r)(he:PE X e te)(hl:PO X lo tl)(hu:PO X hi th):PE X (.Subscript e (.Slice lo hi none p2) pos) (Vs r te tl th):=by intro ay s O H Q I h;refine Subscript_ (ba (he ay s O H _ I h) λv s1 ⟨x,H1,I1,r1,q1⟩=>?_);refine wpAny_Slice (ba (hl ay s1 O H1 _ I1 q1) λvl s2 ⟨l,H2,I2,pl,q2⟩=>ba (hu ay s2 O H2 _ I2 q2) λvu s3 ⟨u,H3,I3,pu,q3⟩=>?_);rw[evalPart_none];refine cg ?_;have I4:Inv X ay O H3 {s3 with heap:=s3.heap.push {cls:=.type "slice",data:=.fields #[vl,vu,.none]}}:=I3.kept (t':=s3.toks) λb ob q=>cF _ q;obtain⟨T,id,hT,ht,hg⟩:=hr ay {s3 with heap:=s3.heap.push {cls:=.type "slice",data:=.fields #[vl,vu,.none]}} O H3 x v vl vu l u s3.heap.objs.size Q I4 r1 (Heap.IsSliceOf.new ..) pl pu q3;show wpAny (model X.prog X.w) X.A (subscriptTail e (.Slice lo hi none p2) v (.ref s3.heap.objs.size)) (EP X ay O Q) X.xe {s3 with heap:=s3.heap.push {cls:=.type "slice",data:=.fields #[vl,vu,.none]}};exact tail_any (ops:=[.ref s3.heap.objs.size,v]) ht hT hg (by with_unfolding_all rfl)
def kU(xs:List V)(lo hi:Option Int):List V:=(xs.drop (HT.bZ xs.length 0 lo)).take (HT.bZ xs.length xs.length hi-HT.bZ xs.length 0 lo)
theorem Sg(xs:List V)(lo hi:Option Int):(kU xs lo hi).length<=xs.length:=by
 unfold kU;rw[je,oH]
 lia
inductive aae(K:ag)(x:V)(lo:Option Int)(hi:Option Int)(H:Hp)(Q:VK):Prop |mk (a:_)(xs:_)(h0:x= .ref a)(h1:aU K H a xs)(h2:¬(HT.bZ xs.length 0 lo=0/\HT.bZ xs.length xs.length hi=xs.length))(h3:∀p,H p=none->Q (.ref p) (upd H p (.tup (kU xs lo hi))))
def XM(K:ag):V->Option Int->Option Int->Hp->VK->Prop:=λx lo hi H Q=>aae K x lo hi H Q
theorem Wj:CJ X (XM X.K):=by
 intro ay s O H x v vl vu lo hi sl Q I rx hs pl pu h;obtain⟨a,xs,rfl,hx,hw,q⟩:=h;cases rx;obtain⟨its,r,ht,hz⟩:=I.tuple hx;have hlen:its.toArray.size=xs.length:=by rw[dY];exact r.length.symm
 refine⟨"tuple",_,Ud.lookup,ht.typeIs,?_⟩;refine HT.a52 ht hs pl pu (by rw[hlen];exact hw) ?_ (by rw[hlen];exact hz);rw[hlen];refine⟨.ref s.heap.objs.size,_,I.laid (t':=s.toks) (o:=.tup (kU xs lo hi)) (λb ob q=>cF _ q) (bf _) ?_,Z,q _ (I.bD.fresh (bf _))⟩;exact⟨gU (Sg xs lo hi) hz,_,(r.drop (HT.bZ xs.length 0 lo)).take (HT.bZ xs.length xs.length hi-HT.bZ xs.length 0 lo),IsTup.new _ _⟩
end
def j4(n:Nat)(i:Int):Option Nat:=if 0<=i then(if i<n then some i.toNat else none)else if-(n:Int)<=i then some (i+n).toNat else none
def ft{α:Type}(xs:List α)(i:Int):Option α:=(j4 xs.length i).bind λj=>xs[j]?
theorem PL{n:Nat}{i:Int}{j:Nat}(h:j4 n i=some j):seqIndex? i n=some j/\j<n/\-(n:Int)<=i/\i<n:=by
 unfold j4 at h;by_cases h0:0<=i
 ·rw[bo h0]at h
  by_cases h1:i<n
  ·rw[bo h1]at h
   have e:i.toNat=j:=eO h;exact⟨by rw[seqIndex_of h0 h1,e],aw,aw,h1⟩
  ·rw[bB h1]at h;cases h
 ·rw[bB h0]at h
  by_cases h1:-(n:Int)<=i
  ·rw[bo h1]at h
   have e:(i+n).toNat=j:=eO h;exact⟨by rw[seqIndex_neg aw h1,e],aw,h1,aw⟩
  ·rw[bB h1]at h;cases h
theorem Jp{α:Type}{xs:List α}{i:Int}{v:α}(h:ft xs i=some v):∃j,seqIndex? i xs.length=some j/\xs[j]? =some v/\j<xs.length/\-(xs.length:Int)<=i/\i<xs.length:=by unfold ft at h;cases e:j4 xs.length i with |none=>rw[e]at h;cases h |some j=>rw[e]at h;obtain⟨h1,h2,h3,h4⟩:=PL e;exact⟨j,h1,h,h2,h3,h4⟩
theorem a8l{α:Type}{xs:List α}{j:Nat}{v:α}(h:xs[j]? =some v):ft xs (j:Int)=some v:=by
 have hj:j<xs.length:=(cv.mp h).1;have e:j4 xs.length (j:Int)=some j:=by unfold j4;rw[bo aw,bo aw];simp
 unfold ft;rw[e];exact h
def Tu(b:Expr):Prop:=∀o i,subscripted b false o i=operate [o,i] (getItem o i)
def qv(X:Cx)(r:R2):Prop:=∀(value slice:Expr)(ay:List (Addr×Obj))(s:ah)(O:St)(H:Hp)(x y:V)(v u:Value)(Q:VK),Inv X ay O H s->RelV x v->RelV y u->r x y H Q->subscripted slice false v u=operate [v,u] (getItem v u)->wpAny (model X.prog X.w) X.A (subscriptTail value slice v u) (EP X ay O Q) X.xe s
def TB(X:Cx)(id:String)(r:V->List V->Hp->VK->Prop):Prop:=∀(ay:List (Addr×Obj))(s:ah)(O:St)(H:Hp)(x:V)(xs:List V)(v:Value)(us:List Value)(Q:VK),Inv X ay O H s->RelV x v->Vals xs us->r x xs H Q->wpAny (model X.prog X.w) X.A (call (.builtin id) (v::us)) (EP X ay O Q) X.xe s
section
variable {X:Cx}{a b:Expr}{ta tb:TE}{pos:Pos}
theorem qv.or{r r':R2}(h:qv X r)(h':qv X r'):qv X (λx y H Q=>r x y H Q\/r' x y H Q):=by
 intro value slice ay s O H x y v u Q I rx ry q hs;rcases q with q|q
 ·exact h value slice ay s O H x y v u Q I rx ry q hs
 ·exact h' value slice ay s O H x y v u Q I rx ry q hs
theorem Oc{r:R2}(hr:qv X r)(ha:PE X a ta)(hb:PE X b tb)(hs:Tu b):PE X (.Subscript a b pos) (xQ r ta tb):=by intro ay s O H Q I h;exact Subscript_ (Jd ha hb I h λv u s2 x y H2 I2 rx ry q=>hr a b ay s2 O H2 x y v u Q I2 rx ry q (hs _ _))
inductive aao(K:ag)(x:V)(y:V)(H:Hp)(Q:VK):Prop |mk (p:_)(xs:_)(i:_)(v:_)(h0:x= .ref p)(h1:y= .int i)(h2:aK K H p xs)(h3:ft xs i=some v)(h4:Q v H)
def G6(K:ag):R2:=λx y H Q=>aao K x y H Q
inductive aam(K:ag)(x:V)(y:V)(H:Hp)(Q:VK):Prop |mk (p:_)(xs:_)(i:_)(v:_)(h0:x= .ref p)(h1:y= .int i)(h2:aU K H p xs)(h3:ft xs i=some v)(h4:Q v H)
def G4(K:ag):R2:=λx y H Q=>aam K x y H Q
inductive aan(x:V)(y:V)(H:Hp)(Q:VK):Prop |mk (z:_)(i:_)(c:_)(h0:x= .str z)(h1:y= .int i)(h2:z.length<=sizeLine)(h3:ft z.cps.toList i=some c)(h4:Q (.str ⟨#[c]⟩) H)
def XS:R2:=λx y H Q=>aan x y H Q
theorem a2t:qv X (G6 X.K):=by
 intro value slice ay s O H x y v u Q I rx ry h hs;obtain⟨p,xs,i,z,rfl,rfl,hq,he,q⟩:=h;cases rx;obtain⟨t,rfl⟩:=ry;obtain⟨its,r,pl,hz⟩:=I.list hq;obtain⟨j,h1,h2,h3,h4,h5⟩:=Jp he;obtain⟨w,ew,dG⟩:=r.get h2;have hl:=r.length;have hn:=uh;have fin:EP X ay O Q w s:=⟨z,H,I,dG,q⟩;by_cases h0:0<=i
 ·have hj:i.toNat=j:=by rw[seqIndex_of h0 h5]at h1;exact eO h1
  exact item_listR pl.isList h0 aw (by rw[hj];simpa using ew) fin hs
 ·have hj:(i+(its.toArray.size:Int)).toNat=j:=by rw[seqIndex_neg aw h4]at h1;rw[dY,<-hl];exact eO h1
  exact subscriptTail_builtinR (x:=w) pl.isList.typeIs slot_list_getitem.lookup (wpAny_getItem_list_neg (Q:=λr s'=>r=w/\EP X ay O Q r s') pl.isList aw (by rw[dY]<;>lia) aw (by rw[hj];simpa using ew) ⟨Z,fin⟩) hs
theorem a2r:qv X (G4 X.K):=by intro value slice ay s O H x y v u Q I rx ry h hs;obtain⟨p,xs,i,z,rfl,rfl,hq,he,q⟩:=h;cases rx;obtain⟨t,rfl⟩:=ry;obtain⟨its,r,pl,hz⟩:=I.tuple hq;obtain⟨j,h1,h2,h3,h4,h5⟩:=Jp he;obtain⟨w,ew,dG⟩:=r.get h2;have hl:=r.length;have hn:=uh;have fin:EP X ay O Q w s:=⟨z,H,I,dG,q⟩;exact subscriptTail_builtinR (x:=w) pl.typeIs slot_tuple_getitem.lookup (getItem_tuple (j:=j) (Q:=λr s'=>r=w/\EP X ay O Q r s') pl aw aw (by rw[dY,<-hl];exact h1) (by simpa using ew) ⟨Z,fin⟩) hs
theorem a2s:qv X XS:=by
 intro value slice ay s O H x y v u Q I rx ry h hs;obtain⟨z,i,c,rfl,rfl,hz,he,q⟩:=h;obtain⟨t,rfl⟩:=rx;obtain⟨t',rfl⟩:=ry;obtain⟨j,h1,h2,h3,h4,h5⟩:=Jp he;have hl:z.cps.toList.length=z.length:=by simp[Str.length]
 rw[hl]at h1 h4 h5;have hn:=uh;exact tail_any (typeIs_str s z t) slot_str_getitem.lookup (getItem_str (c:=c) (by have e1:decide (i< -(2^63:Int))=false:=dF aw;have e2:decide (i>=2^63)=false:=dF aw;rw[e1,e2,Bool.or_false]) (by rw[h1];simpa using h2) ⟨.str ⟨#[c]⟩,H,I.tok _,⟨_,Z⟩,q⟩) hs
theorem a1t(its:List Value)(n j:Nat)(u:Value):Obj.mapSeq (·.setIfInBounds j u) {cls:=.type "list",data:=.seq its.toArray n}={cls:=.type "list",data:=.seq (its.set j u).toArray n}:=by simp[Obj.mapSeq]
theorem Inv.lst{ay:List (Addr×Obj)}{O:St}{H:Hp}{s:ah}{p:Addr}{xs:List V}(I:Inv X ay O H s)(h:H p=some (.lst xs)): ∃(its:List Value)(n:Nat),Vals xs its/\s.heap.get? p=some {cls:=.type "list",data:=.seq its.toArray n}/\xs.length<=sizeLine:=by obtain⟨z,its,n,r,e⟩:=I.bD p _ h;exact⟨its,n,r,e,z⟩
theorem Inv.a1W{ay:List (Addr×Obj)}{O:St}{H:Hp}{s:ah}{p:Addr}{xs ys:List V}{its its':List Value}{n n':Nat}{f:Obj->Obj}(I:Inv X ay O H s)(h:H p=some (.lst xs)) (ho:s.heap.get? p=some {cls:=.type "list",data:=.seq its.toArray n})(hf:f {cls:=.type "list",data:=.seq its.toArray n}={cls:=.type "list",data:=.seq its'.toArray n'})(r:Vals ys its')(hz:ys.length<=sizeLine)(t:Nat): Inv X ay O (upd H p (.lst ys)) {s with heap:=s.heap.update p f,toks:=t}:=by
 have e:(s.heap.update p f).get? p=some {cls:=.type "list",data:=.seq its'.toArray n'}:=by rw[Kj f ho (by rw[hf]<;>rfl),hf]
 refine I.write (x:=p) (e:=p) (by rw[h];trivial) (.inl Z) (λb u hb q=>(Av _ _ (jy hb)).trans q) ⟨_,e⟩ ?_;exact⟨hz,its',n',r,e⟩
inductive aah(o:V)(i:V)(v:V)(H:Hp)(Q:Hp->Prop):Prop |mk (p:_)(xs:_)(k:_)(j:_)(h0:o= .ref p)(h1:i= .int k)(h2:H p=some (.lst xs))(h3:j4 xs.length k=some j)(h4:Q (upd H p (.lst (xs.set j v))))
def XQ:V->V->V->Hp->(Hp->Prop)->Prop:=λo i v H Q=>aah o i v H Q
theorem set_list:Tv X XQ:=by
 intro ay s O H o i v ov iv u Q I ro ri rv h;obtain⟨p,xs,k,j,rfl,rfl,hp,hj,q⟩:=h;cases ro;obtain⟨t,rfl⟩:=ri;obtain⟨its,n,r,ho,hz⟩:=I.lst hp;obtain⟨h1,h2,h3,h4⟩:=PL hj;have hl:=r.length;have hn:=uh;have I':Inv X ay O (upd H p (.lst (xs.set j v))) {s with heap:=s.heap.update p (Obj.mapSeq (·.setIfInBounds j u))}:=I.a1W hp ho (a1t its n j u) (r.set rv j) (by rw[vp];exact hz) s.toks;by_cases h0:0<=k
 ·have hk:k.toNat=j:=by rw[seqIndex_of h0 h4]at h1;exact eO h1
  exact PySem.W.ki_setAt ho h0 aw (by rw[dY,<-hl];exact h4) (by rw[hk];exact⟨_,I',q⟩)
 ·have hk:(k+(its.toArray.size:Int)).toNat=j:=by rw[seqIndex_neg aw h3]at h1;rw[dY,<-hl];exact eO h1
  exact PySem.W.ki_setBack ho aw (by rw[dY,<-hl];exact h3) aw (by rw[hk];exact⟨_,I',q⟩)
theorem Wg(lo hi:Option Int)(n:Nat):(sliceBounds lo hi none n).1=((HT.bZ n 0 lo:Nat):Int)/\(sliceBounds lo hi none n).2.1=((HT.bZ n n hi:Nat):Int)/\(sliceBounds lo hi none n).2.2=1:=by
 refine⟨?_,?_,Z⟩
 ·cases lo with |none=>simp[sliceBounds,HT.bZ] |some i=>
  simp only[sliceBounds,HT.bZ,Option.getD_none,show(1:Int)>0 by decide,vn];by_cases h:i<0
  ·simp only[h,vn]<;>lia
  ·simp only[h,if_false]<;>lia
 ·cases hi with |none=>simp[sliceBounds,HT.bZ] |some i=>
  simp only[sliceBounds,HT.bZ,Option.getD_none,show(1:Int)>0 by decide,vn];by_cases h:i<0
  ·simp only[h,vn]<;>lia
  ·simp only[h,if_false]<;>lia
theorem Wh(its:List Value)(lo hi:Option Int):slicePick its.toArray lo hi none=((its.drop (HT.bZ its.length 0 lo)).take (HT.bZ its.length its.length hi-HT.bZ its.length 0 lo)).toArray:=by obtain⟨h1,h2,h3⟩:=Wg lo hi its.toArray.size;unfold slicePick;rw[h1,h2,h3];simp only[sliceRange_one,pick_run,dY]<;>rfl
inductive aaf(K:ag)(x:V)(lo:Option Int)(hi:Option Int)(H:Hp)(Q:VK):Prop |mk (a:_)(xs:_)(h0:x= .ref a)(h1:aK K H a xs)(h2:∀p,H p=none->Q (.ref p) (upd H p (.lst (kU xs lo hi))))
def XN(K:ag):V->Option Int->Option Int->Hp->VK->Prop:=λx lo hi H Q=>aaf K x lo hi H Q
theorem Wm:CJ X (XN X.K):=by intro ay s O H x v vl vu lo hi sl Q I rx hs pl pu h;obtain⟨a,xs,rfl,hx,q⟩:=h;cases rx;obtain⟨its,r,ht,hz⟩:=I.list hx;have hlen:=r.length;refine⟨"list",_,slot_list_getitem.lookup,ht.isList.typeIs,?_⟩;refine wpAny_getItem_list_slice ht.isList hs pl pu .none (by simp) ?_ (by rw[dY]<;>lia);rw[Wh,<-hlen];refine⟨.ref s.heap.objs.size,_,I.laid (t':=s.toks) (o:=.lst (kU xs lo hi)) (λb ob q=>cF _ q) (bf _) ?_,Z,q _ (I.bD.fresh (bf _))⟩;exact⟨gU (Sg xs lo hi) hz,_,0,(r.drop (HT.bZ xs.length 0 lo)).take (HT.bZ xs.length xs.length hi-HT.bZ xs.length 0 lo),fj _ Z⟩
theorem a7X:fw X (.builtin "len") (λxs H Q=>∃p ys,xs=[.ref p]/\(aK X.K H p ys\/aU X.K H p ys)/\Q (.int ys.length) H):=by
 intro ay s O H xs us Q I r h;obtain⟨p,ys,rfl,hq,q⟩:=h;obtain⟨u,rfl,rx⟩:=vals1 r;cases rx;have hn:=uh;rcases hq with hq|hq
 ·obtain⟨its,r',pl,hz⟩:=I.list hq
  have hlen:=r'.length;exact Calls.call_len_list pl.isList (by simp only[dY]<;>lia) ⟨.int ys.length,H,I.tok _,⟨s.toks+1,by rw[dY,hlen]⟩,q⟩
 ·obtain⟨its,r',pl,hz⟩:=I.tuple hq
  have hlen:=r'.length;exact len_tuple pl (by simp only[dY]<;>lia) ⟨.int ys.length,H,I.tok _,⟨s.toks+1,by rw[dY,hlen]⟩,q⟩
theorem a7W:fw X (.builtin "len") (λxs H Q=>∃z,xs=[.str z]/\z.length<=sizeLine/\Q (.int z.length) H):=by intro ay s O H xs us Q I r h;obtain⟨z,rfl,hz,q⟩:=h;obtain⟨u,rfl,t,rfl⟩:=vals1 r;have hn:=uh;exact len_str aw ⟨.int z.length,H,I.tok _,⟨_,Z⟩,q⟩
theorem fw.or{f:Value}{r r':List V->Hp->VK->Prop}(h:fw X f r)(h':fw X f r'):fw X f (λxs H Q=>r xs H Q\/r' xs H Q):=by
 intro ay s O H xs us Q I rs q;rcases q with q|q
 ·exact h ay s O H xs us Q I rs q
 ·exact h' ay s O H xs us Q I rs q
theorem a7V:fw X (.type "list") (λxs H Q=>∃p ys,xs=[.ref p]/\(aK X.K H p ys\/aU X.K H p ys)/\∀l,H l=none->Q (.ref l) (upd H l (.lst ys))):=by
 intro ay s O H xs us Q I r h;obtain⟨p,ys,rfl,hq,q⟩:=h;obtain⟨u,rfl,rx⟩:=vals1 r;cases rx;have fin:∀(its:List Value),Vals ys its->ys.length<=sizeLine->∀(h':Heap)(c':Nat),(∀b o',s.heap.get? b=some o'->h'.get? b=some o')->h'.get? s.heap.objs.size=some {cls:=.type "list",dict:=none,data:=.seq its.toArray c',slots:=#[]}->EP X ay O Q (.ref s.heap.objs.size) {s with heap:=h'}:=λits r' hz h' c' kp e=>⟨.ref s.heap.objs.size,_,I.laid (t':=s.toks) kp (bf _) (show jv X.prog X.w _ h' _ (.lst ys)from⟨hz,its,c',r',e⟩),Z,q _ (I.bD.fresh (bf _))⟩;rcases hq with hq|hq
 ·obtain⟨its,r',pl,hz⟩:=I.list hq
  have hlen:=r'.length;obtain⟨o,ho,hc,n,hd⟩:=pl.isList;exact call_list_seq p (.inl Z) ho hc hd (λh' c' kp e=>fin its r' hz h' c' kp e) (by simp only[dY]<;>lia)
 ·obtain⟨its,r',pl,hz⟩:=I.tuple hq
  have hlen:=r'.length;obtain⟨o,ho,hc,n,hd⟩:=pl;exact call_list_seq p (.inr Z) ho hc hd (λh' c' kp e=>fin its r' hz h' c' kp e) (by simp only[dY]<;>lia)
theorem a7Q:fw X (.type "tuple") (λxs H Q=>∃p ys,xs=[.ref p]/\((aK X.K H p ys/\∀l,H l=none->Q (.ref l) (upd H l (.tup ys)))\/(aU X.K H p ys/\Q (.ref p) H))):=by
 intro ay s O H xs us Q I r h;obtain⟨p,ys,rfl,h⟩:=h;obtain⟨u,rfl,rx⟩:=vals1 r;cases rx;rcases h with⟨hq,q⟩|⟨hq,q⟩
 ·obtain⟨its,r',pl,hz⟩:=I.list hq
  have hlen:=r'.length;refine call_tuple_list pl.isList (λh' kp=>?_) (by simp only[dY]<;>lia);have I1:Inv X ay O H {s with heap:=h'}:=I.kept (t':=s.toks) kp;have I2:Inv X ay O (upd H h'.objs.size (.tup ys)) {s with heap:=h'.push {cls:=.type "tuple",data:=.seq its.toArray}}:=I1.laid (t':=s.toks) (λb o e=>cF _ e) (bf _) (show jv X.prog X.w _ _ _ (.tup ys)from⟨hz,its,r',IsTup.new _ _⟩);exact⟨.ref h'.objs.size,_,I2,Z,q _ (I1.bD.fresh (bf _))⟩
 ·obtain⟨its,r',pl,hz⟩:=I.tuple hq
  exact call_tuple_same pl ⟨.ref p,H,I,Z,q⟩
def Ks(K:ag)(T:String)(x:V)(H:Hp):Prop:=match x with | .str _=>T="str" | .int _=>T="int" | .ref p=>(T="list"/\∃xs,aK K H p xs)\/(T="tuple"/\∃o,K.lookup p=some o/\o.cls= .type "tuple"/\o.dict=none)\/ (T="dict"/\((∃eY,H p=some (.dK eY))\/∃eY,H p=some (.dT eY)))\/(T="set"/\∃S n,H p=some (.set S n)) |_=>False
theorem V5{ay:List (Addr×Obj)}{O:St}{H:Hp}{s:ah}{T:String}{x:V}{v:Value}(I:Inv X ay O H s)(r:RelV x v)(ty:Ks X.K T x H): s.TypeIs v T/\∀a,v= .ref a->∃ob,s.heap.get? a=some ob/\ob.dict=none:=by cases x with
 |str z=>obtain⟨t,rfl⟩:=r;cases(show T="str" from ty);exact⟨typeIs_str s z t,λ_ e=>nomatch e⟩ |int i=>obtain⟨t,rfl⟩:=r;cases(show T="int" from ty);exact⟨typeIs_int s i t,λ_ e=>nomatch e⟩ |ref p=>
  cases r;rcases ty with⟨rfl,xs,hq⟩|⟨rfl,o,hk,hc,hd⟩|⟨rfl,hk⟩|⟨rfl,S,n,hk⟩
  ·obtain⟨its,_,pl,_⟩:=I.list hq
   refine⟨pl.isList.typeIs,λa e=>?_⟩;cases e;obtain⟨o,n,e,c,hd,_⟩:=pl;exact⟨o,e,hd⟩
  ·refine⟨⟨o,I.iD p o hk,hc⟩,λa e=>?_⟩
   cases e;exact⟨o,I.iD _ o hk,hd⟩
  ·have z:∃o,s.heap.get? p=some o/\o.ExactDict:=by
    rcases hk with⟨eY,hk⟩|⟨eY,hk⟩
    ·obtain⟨_,_,_,_,o,_,_,e,ex,_⟩:=I.bD p _ hk
     exact⟨o,e,ex⟩
    ·obtain⟨_,_,_,_,o,_,_,e,ex,_⟩:=I.bD p _ hk
     exact⟨o,e,ex⟩
   obtain⟨o,e,ex⟩:=z;refine⟨⟨o,e,ex.1⟩,λa e2=>?_⟩;cases e2;exact⟨o,e,ex.2.1⟩
  ·obtain⟨o,_,_,_,e,ex,_⟩:=I.bD p _ hk
   refine⟨⟨o,e,ex.1⟩,λa e2=>?_⟩;cases e2;exact⟨o,e,ex.2.1⟩ |_=>exact False.elim ty
def xR(K:ag)(T:String)(r:V->List V->Hp->VK->Prop)(to:TE)(t:TA):TE:=λO H Q=>to O H λx H1=>Ks K T x H1/\t O H1 λxs H2=>r x xs H2 Q
variable {o e:Expr}{es:List Expr}{to:TE}{t:TA}{name:Str}{apos dW:Pos}{T id:String}{r:V->List V->Hp->VK->Prop}
theorem Br(pa:PlainAttrs T)(slot:Slot T name id)(Hl:typeOf (.builtin id)=pure (.type "method_descriptor"))(hm:TB X id r)(ho:PE X o to)(ha:PA X (e::es) t) (pU:attributeBase o name X.env (eval o X.env)=eval o X.env:=by rfl) (pP:((backTo dW (starEach (e::es) X.env)).all (λx=>!x.1)&&(backToKw dW (keywordEach [] X.env)).all (λx=>x.1.isSome) &&decide ((e::es).length+([]:List Keyword).length+(if([]:List Keyword).isEmpty then 0 else 1)<30))=true:=by rfl) (pL:(apos.endLine==dW.line)=true:=by rfl)(hs:starEach (e::es) X.env=(false,eval e X.env)::starEach es X.env:=by rfl)(pK:(backTo dW (starEach es X.env)).any (·.1)=false:=by rfl): PE X (.Call (.Attribute o name apos) (e::es) [] dW) (xR X.K T r to t):=by intro ay s O H Q I h;refine wpAny_Call_method_late pU pP pL Z (ba (ho ay s O H _ I h) λv s1 ⟨x,H1,I1,r1,ty,q1⟩=>?_);obtain⟨h1,h2⟩:=V5 I1 r1 ty;refine⟨T,id,pa,slot,Hl,h1,h2,?_⟩;have hA:=ha dW ay s1 O H1 _ I1 q1;rw[hs]at hA⊢;refine Calls.callWith_builtin (by show(false||(backTo dW (starEach es X.env)).any (·.1))=false;rw[pK]<;>rfl) (Calls.evalArgs_plain ?_);exact ba hA λus s2 ⟨vs,H2,I2,r2,q2⟩=>hm ay s2 O H2 x vs v us Q I2 r1 r2 q2
end
def JF(X:Cx)(id:String)(r:V->List V->Hp->VK->Prop):Prop:=∀(ay:List (Addr×Obj))(s:ah)(O:St)(H:Hp)(x:V)(xs:List V)(v:Value)(us:List Value)(Q:VK),Inv X ay O H s->RelV x v->Vals xs us->r x xs H Q->wpAny (model X.prog X.w) X.A (call (.builtin id) (v::us)) (EP X ay O Q) X.xe s
theorem Vals.one:∀{x:V}{us:List Value},Vals [x] us->∃u,us=[u]/\RelV x u |_,_,.cons r .nil=>⟨_,Z,r⟩
theorem Vals.eraseIdx:∀{xs:List V}{us:List Value}(i:Nat),Vals xs us->Vals (xs.eraseIdx i) (us.eraseIdx i) |_,_,_,.nil=>.nil |_,_,0,.cons _ t=>t |_,_,i+1,.cons r t=>.cons r (Vals.eraseIdx i t)
theorem Vals.rep{xs:List V}{us:List Value}(h:Vals xs us):∀k:Nat,Vals (List.replicate k xs).flatten (List.replicate k us).flatten |0=>.nil |k+1=>by rw[qB,qB,Df,Df];exact Vals.append h (Vals.rep h k)
theorem Pt{α:Type}:∀(l:List α)(i:Nat),(l.eraseIdx i).length<=l.length |[],_=>bf _ |_::_,0=>Nat.le_succ _ |_::r,i+1=>Nat.succ_le_succ (Pt r i)
theorem foldl_rep(its:List Value):∀(k:Nat)(acc:List Value),List.foldl (λx1 x2=>x1++x2) acc.toArray (List.replicate k its.toArray)=(acc++(List.replicate k its).flatten).toArray
 |0,acc=>by simp |k+1,acc=>by
  have e:acc.toArray++its.toArray=(acc++its).toArray:=by simp
  have e2:(acc++its)++(List.replicate k its).flatten=acc++(List.replicate (k+1) its).flatten:=by rw[qB,Df,Dg]
  rw[<-e2,<-foldl_rep its k (acc++its),<-e,qB,List.foldl_cons]
section
variable {X:Cx}{ay:List (Addr×Obj)}{O:St}{H:Hp}{s:ah}{l b:Addr}{xs ys zs:List V}
theorem Inv.GN{its its':List Value}{n:Nat}{f:Array Value->Array Value}{t':Nat}(I:Inv X ay O H s)(hH:H l=some (.lst xs)) (e:s.heap.get? l=some {cls:=.type "list",data:=.seq its.toArray n})(hf:f its.toArray=its'.toArray)(hv:Vals ys its')(hz:ys.length<=sizeLine): Inv X ay O (upd H l (.lst ys)) {s with heap:=s.heap.update l (Obj.mapSeq f),toks:=t'}:=by have q:=PySem.IsL.update e f;rw[hf]at q;refine I.write (x:=l) (e:=l) (by rw[hH];exact trivial) (.inl Z) (λb' u hb hu=>(Av s.heap (Obj.mapSeq f) (jy hb)).trans hu) ⟨_,q⟩ ?_;exact⟨hz,its',_,hv,q⟩
theorem Inv.BJ{its:List Value}{t':Nat}(I:Inv X ay O H s)(hv:Vals ys its)(hz:ys.length<=sizeLine): Inv X ay O (upd H s.heap.objs.size (.lst ys)) {s with heap:=s.heap.push {cls:=.type "list",data:=.seq its.toArray},toks:=t'}:=I.laid (λ_ _ q=>cF _ q) (bf _) ⟨hz,its,0,hv,fj _ Z⟩
theorem Inv.fresh(I:Inv X ay O H s):H s.heap.objs.size=none:=I.bD.fresh (bf _)
theorem Inv.yO(I:Inv X ay O H s)(hH:H l=some (.lst xs)):xs.length<=sizeLine/\∃(its:List Value)(n:Nat),Vals xs its/\xs.length=its.length/\s.heap.get? l=some {cls:=.type "list",data:=.seq its.toArray n}:=by obtain⟨z,its,n,r,e⟩:=I.bD l _ hH;exact⟨z,its,n,r,r.length,e⟩
theorem OF{n:Nat}(h:n<=sizeLine):Builtin.List.listTooLong n=false:=by unfold Builtin.List.listTooLong;exact dF aw
end
section
variable {X:Cx}
inductive aax(x:V)(vs:List V)(H:Hp)(Q:VK):Prop |mk (l:_)(xs:_)(y:_)(h0:x= .ref l)(h1:vs=[y])(h2:H l=some (.lst xs))(h3:xs.length<sizeLine)(h4:Q .bN (upd H l (.lst (xs++[y]))))
def O7:V->List V->Hp->VK->Prop:=λx vs H Q=>aax x vs H Q
theorem BG:JF X "list.append" O7:=by
 intro ay s O H x vs v us Q I rx rv h;obtain⟨l,xs,y,rfl,rfl,hH,hz,q⟩:=h;cases rx;obtain⟨u,rfl,ru⟩:=rv.one;obtain⟨z,its,n,r,hl,e⟩:=I.yO hH;refine Ac F.slot_list_append ⟨_,e,Z⟩ F.entry_list_append (F.args_list_append_2 _ _) (PySem.list_append l its.toArray n u (by rw[dY];lia)) ⟨e,?_⟩;refine⟨.bN,_,I.GN (its':=its++[u]) hH e (by simp) (r.append (.cons ru .nil)) ?_,Z,q⟩;rw[cE,List.length_singleton]
 lia
inductive aau(x:V)(vs:List V)(H:Hp)(Q:VK):Prop |mk (l:_)(b:_)(xs:_)(zs:_)(h0:x= .ref l)(h1:vs=[.ref b])(h2:H l=some (.lst xs))(h3:H b=some (.lst zs))(h4:xs.length+zs.length<=sizeLine)(h5:Q .bN (upd H l (.lst (xs++zs))))
def O6:V->List V->Hp->VK->Prop:=λx vs H Q=>aau x vs H Q
theorem a1i:JF X "list.extend" O6:=by
 intro ay s O H x vs v us Q I rx rv h;obtain⟨l,b,xs,zs,rfl,rfl,hH,hB,hz,q⟩:=h;cases rx;obtain⟨u,rfl,ru⟩:=rv.one;cases ru;obtain⟨z,its,n,r,hl,e⟩:=I.yO hH;obtain⟨z2,mI,n2,r2,rM,e2⟩:=I.yO hB;have BW:its.toArray.size+mI.toArray.size<=sizeLine:=by rw[dY,dY];lia
 have Hx:¬(!its.toArray.isEmpty&&Builtin.List.listTooLong (its.toArray.size+mI.toArray.size))=true:=by rw[OF BW,Bool.and_false];exact iX
 refine Ac F.slot_list_extend ⟨_,e,Z⟩ F.entry_list_extend (F.args_list_extend_2 _ _) (AutoSeq1.list_extend_list_list_0 l its.toArray n b mI.toArray n2 Hx (by rw[dY];lia) aw) ⟨e,e2,?_⟩;refine⟨.bN,_,I.GN (its':=its++mI) hH e (by simp) (r.append r2) ?_,Z,q⟩;rw[cE]
 lia
inductive aaj(x:V)(vs:List V)(H:Hp)(Q:VK):Prop |mk (l:_)(xs:_)(i:_)(k:_)(y:_)(h0:x= .ref l)(h1:vs=[.int i])(h2:H l=some (.lst xs))(h3:-(2^63)<=i)(h4:i<2^63)(h5:seqIndex? i xs.length=some k)(h6:xs[k]? =some y)(h7:Q y (upd H l (.lst (xs.eraseIdx k))))
def O5:V->List V->Hp->VK->Prop:=λx vs H Q=>aaj x vs H Q
theorem a1h:JF X "list.pop" O5:=by
 intro ay s O H x vs v us Q I rx rv h;obtain⟨l,xs,i,k,y,rfl,rfl,hH,h1,h2,hk,hy,q⟩:=h;cases rx;obtain⟨u,rfl,ru⟩:=rv.one;obtain⟨t,rfl⟩:=ru;obtain⟨z,its,n,r,hl,e⟩:=I.yO hH;obtain⟨w,hw,dG⟩:=r.get hy;refine Ac F.slot_list_pop ⟨_,e,Z⟩ F.entry_list_pop (F.args_list_pop_2 _ _) (MeetsSeq.list_pop_at l its.toArray n i t k w (fitsIndex_both h1 h2) (by rw[dY,<-hl];exact hk) (by rw[<-Array.getElem?_toList];exact hw) (by rw[dY];lia)) ⟨e,?_⟩;refine⟨y,_,I.GN (its':=its.eraseIdx k) hH e ?_ (r.eraseIdx k) ?_,dG,q⟩
 ·show its.toArray.eraseIdxIfInBounds k=(its.eraseIdx k).toArray
  rw[List.eraseIdxIfInBounds_toArray]
 ·have:=Pt xs k
  lia
inductive aai(x:V)(y:V)(H:Hp)(Q:VK):Prop |mk (l:_)(k:_)(xs:_)(h0:x= .ref l)(h1:y= .int k)(h2:H l=some (.lst xs))(h3:-(2^63)<=k)(h4:k<2^63)(h5:xs.length*k.toNat<=sizeLine)(h6:∀p,H p=none->Q (.ref p) (upd H p (.lst (List.replicate k.toNat xs).flatten)))
def XR:R2:=λx y H Q=>aai x y H Q
theorem len_rep{α:Type}(xs:List α)(k:Nat):(List.replicate k xs).flatten.length=k*xs.length:=by induction k with |zero=>simp |succ k ih=>rw[qB,Df,cE,ih,Nat.succ_mul,K2]
theorem YC:dg X (binaryOp .Mult) XR:=by
 intro ay s O H x y v u Q I rx ry h;obtain⟨l,k,xs,rfl,rfl,hH,h1,h2,hz,q⟩:=h;cases rx;obtain⟨t,rfl⟩:=ry;obtain⟨z,its,n,r,hl,e⟩:=I.yO hH;have hlen:its.toArray.size*k.toNat<=sizeLine:=by rw[dY,<-hl];exact hz
 have a42:¬its.toArray.size*k.toNat>(2^63-1)/8:=by
  have:(sizeLine:Nat)<=(2^63-1)/8:=by decide
  lia
 have a3P:¬(!Builtin.List.listFitsIndex k)=true:=by rw[fitsIndex_both h1 h2];exact iX
 have Hx:¬Builtin.List.listTooLong (its.toArray.size*k.toNat)=true:=by rw[OF hlen];exact iX
 have a3k:List.foldl (λx1 x2=>x1++x2) #[] (List.replicate (if its.toArray.isEmpty=true then 0 else k.toNat) its.toArray)=(List.replicate k.toNat its).flatten.toArray:=by
  have f0:∀m:Nat,List.foldl (λx1 x2=>x1++x2) #[] (List.replicate m its.toArray)=(List.replicate m its).flatten.toArray:=λm=>by have:=foldl_rep its m [];rw[List.nil_append]at this;exact this
  rw[f0];cases its with |nil=>simp |cons a r'=>rw[bB (by simp)]
 refine wpAny_binaryOp_repeat_ref (T:="list") (U:="int") aB ⟨_,e,Z⟩ (λs'=>typeIs_int s' k t) noFill_list_mul F.fills_int_mul F.slot_int_rmul repeat_list F.slot_int_index.lookup (Ac F.slot_int_rmul (typeIs_int s k t) F.entry_int_rmul (F.args_int_rmul_2 _ _) (int___rmul___int_list k t l its.toArray n) ⟨e,Z,⟨_,e,Z⟩,Ac F.slot_list_mul ⟨_,e,Z⟩ F.entry_list_mul (F.args_list_mul_2 _ _) (AutoListH.list___mul___list_int_3 l its.toArray n k t a3P a42 Hx) ⟨e,?_⟩⟩);rw[a3k];exact⟨.ref _,_,I.BJ (t':=s.toks) (r.rep k.toNat) (by rw[len_rep,Nat.mul_comm];exact hz),Z,q _ I.fresh⟩
end
section
variable {prog:ai}{w:World}{A:ak}{E:Value->ah->Prop}{s:ah}
end
section
variable {X:Cx}
end
end L2
namespace Att
open PySem PySem.W PySem.Calls PyProof.Rows
theorem a2E{P:Params}{h:Heap}:∀(ns:List Int)(vs:List Value),WellAll P h vs (ns.map WData.int)->IntsAre vs ns:=by intro ns;induction ns with |nil=>intro vs w;rw[List.map_nil]at w;cases w;exact .nil |cons n ns ih=>intro vs w;rw[An]at w;cases w with |cons a b=>cases a;exact .cons _ _ (ih _ b)
theorem Wx{l:OpenLaw}{n:Nat}(hn:l.most=some n){P:Params}{h:Heap}{args:List WData}{vals:List Value} (BZ:l.row.toRowW.claim.pre args=true)(Hj:WellAll P h vals args): ∃a vs ns,vals=[Value.ref a]/\args=[WData.list (ns.map WData.int)]/\h.get? a=some {cls:=.type "list",data:=.seq vs.toArray}/\IntsAre vs ns/\ns.length<=n:=by
 have hsh:WShape.hasAll [] args [.list .int]=true:=(pre_splitW BZ).1;have hc:l.pre.holds [] {args:=args}=true:=(pre_splitW BZ).2;obtain⟨d,r,rfl,h1,h2⟩:=hasAllW_cons hsh;obtain rfl:=hasAllW_nil h2;obtain⟨xs,rfl,h3⟩:=hasW_list h1;obtain⟨ns,rfl⟩:=items_int h3;have hlen:ns.length<=n:=by
  unfold OpenLaw.pre at hc;have h4:(WTm.not (.lt (.lit (.int (n:Int))) (.len (.arg 0)))).holds [] {args:=[.list (ns.map .int)]}=true:=by have h4:=(holds_andW hc).1;rw[hn]at h4;exact h4
  have h5:=condW_of h4 (w_not (w_lt w_lit (w_len_list (w_arg Z))));rw[bL]at h5;refine Nat.le_of_not_lt λq=>?_;have q':(n:Int)<((ns.length:Nat):Int):=by omega
  first |(rw[cm q']at h5;exact absurd h5 aB) |(simp at h5;omega)
 cases Hj with |cons w1 w2=>cases w2;cases w1 with |list ho a4f=>exact⟨_,_,ns,Z,Z,ho,a2E ns _ a4f,hlen⟩
theorem Y9(l:OpenLaw)(args:List WData):l.row.toRowW.claim.post args (.bool true) args=true:=postW_of (r:=l.row.toRowW) (X:=(true==true)) (show WShape.has [] (.bool true) .bool=true by first|rfl|decide|simp[WShape.has,WShape.arms,WShape.armsAll]) (show(WTm.eq .res (.lit (.bool true))).value [] {args:=args,res:=some (.bool true),after:=args}=some (.bool (true==true))from w_eq_bool (w_res Z) w_lit) rfl
theorem a8j{l:OpenLaw}{n:Nat}{q:ai}{loose:List Str}{XP:(bV)->Heap->Prop}{YP:World->Heap->Prop}{d:DefRec} (hn:l.most=some n)(zf:d.params.defaults=[]) (call:∀(w:World)(s₀ s₁:ah)(mg mb:bV)(fa:Addr)(o:Obj)(pm cd doc:Value)(a:Addr)(vs:List Value)(ns:List Int),Ground q loose [] XP w s₀ mg mb s₁.heap->YP w s₁.heap->s₁.heap.get? fa=some o->o.data= .func (docDef d.name d.params d.body d.scope pm cd doc)->s₁.heap.CodeRec cd d.name->mg d.name=some (.ref fa)->s₁.heap.get? a=some {cls:=.type "list",data:=.seq vs.toArray}->IntsAre vs ns->ns.length<=n->s₁.gens=#[]->codeAny (model l.prog w) callerA (.call (.ref fa) ⟨[.ref a],[]⟩) (λr s'=>r= .ok (.ret (.bool true))/\OldK s₁.heap s'.heap/\s'.os=s₁.os/\AllBare s'.gens) s₁): WalkO q loose XP YP l.row.toRowW d [] (λf vs=>PySem.call f vs):=by intro w s₀ s₁ mg mb G Y fa o pm cd doc dV kV ho hd jo hD za hg args vals as BZ abR hrd Hj hlo;obtain rfl:dV= .none:=Dflts.none hD zf;obtain rfl:kV= .none:=Dflts.noKw hD;obtain⟨a,vs,ns,rfl,rfl,Hs,hints,hlen⟩:=Wx hn BZ Hj;refine enter_call (CW (call w s₀ s₁ mg mb fa o pm cd doc a vs ns G Y ho (fd_plain hd) jo za Hs hints hlen hg) λr s' hq=>?_);obtain⟨rfl,h2,h3,h4⟩:=hq;exact⟨.inl ⟨.bool true,.bool true,[],Z,λ_=>rfl,.bool true,Y9 l _,λ_=>⟨List.Pairwise.nil,λ_ hm=>(nomatch hm)⟩⟩,h2,h3,h4⟩
section
variable {prog:ai}{w:World}{A:ak}{E:Value->ah->Prop}{s:ah}{K:Frag}
end
end Att
namespace L2
open PySem PySem.Spec PyProof.Rows
theorem Kr:∀{vs:List Value}{ns:List Int},IntsAre vs ns->Vals (ns.map V.int) vs |_,_,.nil=>.nil |_,_,.cons n t h=>.cons ⟨t,Z⟩ (Kr h)
def JE(H:Hp):Prop:=∀b,H b=none\/∃o xs,H b=some (.nZ o (.lst xs))
theorem a2g{P:ai}{w:World}{K:ag}{mg mb:bV}{CX:kX}{k:Nat}{fa a:Addr}{fd:FuncData}{x:Str}{sp:Sp}{s₁:ah}{vs:List Value}{ns:List Int} (KX:K.In s₁.heap)(Qe:s₁.heap.Ns mainGlobals mg)(hb:s₁.heap.Ns builtinsNs mb)(hbb:∀x:Str,x≠"__name__"->mb x=bootBuiltins x)(a3r:s₁.heap.NoLimit)(hg:s₁.gens=#[]) (ha:s₁.heap.get? a=some {cls:=.type "list",data:=.seq vs.toArray})(hi:IntsAre vs ns)(hl:ns.length<=sizeLine)(hr:dE k callerA) (F:∀aA:Heap,K.In aA->aA.Ns mainGlobals mg->iU P w K mg aA CX k fa fd [x] sp)(a48:∀(s:ah)(u:Value),BindsTo s fd ⟨[u],[]⟩ [(x,u)]) (kM:∀H:Hp,JE H->aK K H a (ns.map V.int)->sp [.ref a] H (λv _=>v= .bl true) λ_ _ _=>False) (HQ:∀H e s',CX [] H s₁ (λ_ _ _=>False) e s'->False): codeAny (model P w) callerA (.call (.ref fa) ⟨[.ref a],[]⟩) (λr s'=>r= .ok (.ret (.bool true))/\OldK s₁.heap s'.heap/\s'.os=s₁.os/\AllBare s'.gens) s₁:=by
 have rv:=Kr hi;have a29:=hi.length;have core:∀H:Hp,JE H->aK K H a (ns.map V.int)->fc P w H s₁.heap->(∀b,H b≠none->b=a)->(H a≠none->K.lookup a=none)->codeAny (model P w) callerA (.call (.ref fa) ⟨[.ref a],[]⟩) (λr s'=>r= .ok (.ret (.bool true))/\OldK s₁.heap s'.heap/\s'.os=s₁.os/\AllBare s'.gens) s₁:=by
  intro H hO hS bD hA hK;have SU:∀{b:Addr}{o:Obj},s₁.heap.get? b=some o->H b=none->(pO s₁.heap H).get? b=some o:=λe n=>a3I e n;have tW:∀{b:Addr}{o:Obj}{es:Array DictEntry}{ep:Nat},s₁.heap.get? b=some o->o.data= .dict es ep->H b=none:=λ{b o es ep} e d=>by cases q:H b with |none=>rfl |some u=>have e':b=a:=hA b (by rw[q];simp);subst e';rw[ha]at e;cases e;have d':Data.seq vs.toArray _=Data.dict es ep:=d;cases d'
  have BC:∀{b:Addr}{m:bV},s₁.heap.Ns b m->(pO s₁.heap H).Ns b m:=λ{b m} ⟨o,es,ep,e,d,r⟩=>⟨o,es,ep,SU e (tW e d),d,r⟩;have QE:K.In (pO s₁.heap H):=λb o e=>SU (KX b o e) (by cases q:H b with |none=>rfl |some u=>have e':b=a:=hA b (by rw[q];simp);subst e';rw[hK (by rw[q];simp)]at e;cases e);have hM:Mod K mg (pO s₁.heap H):=⟨QE,BC Qe,⟨mb,BC hb,hbb⟩,let⟨mc,h1,h2⟩:=a3r;⟨mc,BC h1,h2⟩⟩;have e0:vj P w K mg (pO s₁.heap H) callerA [] s₁ H:=⟨Z,hM,λb o e=>a0v e,Nat.le_of_eq (a3H _ _),trivial,λb hb=>absurd (show b∈([]:List Addr)from hb) (by simp),bD,.of_eq hg⟩;refine CW ((F _ QE (BC Qe)).run callerA [] s₁ H ⟨[.ref a],[]⟩ [.ref a] [.ref a] _ _ hr e0 (a48 s₁ (.ref a)) (.cons Z .nil) (kM H hO hS)) λr s' h=>?_;cases r with |error e=>exact(HQ H e s' h).elim |ok fl=>cases fl with |next=>exact False.elim h |brk=>exact False.elim h |cont=>exact False.elim h |ret u=>obtain⟨v,H',os,bare,un,a3d,r',q⟩:=h;have q':v= .bl true:=q;subst q';obtain rfl:u=Value.bool true:=r';refine⟨Z,OldK.of_keep λb o e=>?_,os,bare⟩;cases q:H b with |none=>exact un.keep b o e q (by intro z;exact absurd (show b∈([]:List Addr)from z) (by simp)) (by simp) |some u=>
   rcases hO b with z|⟨ob,xs,z⟩
   ·rw[q]at z;cases z
   ·have z2:=un.kg b ob _ z
    obtain⟨e1,_⟩:=bD b _ z;obtain⟨e2,_⟩:=a3d b _ z2;rw[e]at e1;cases e1;exact e2
 cases hk:K.lookup a with |some o=>have e:=KX a o hk;rw[ha]at e;cases e;refine core (λ_=>none) (λ_=>.inl Z) (.inr ⟨_,vs.toArray,_,hk,Z,Z,Z,by rw[dY,a29];exact hl,by simpa using rv⟩) (λb u z=>by have z':(none:Option HO)=some u:=z;cases z') (λb z=>absurd rfl z) λz=>absurd rfl z |none=>
  refine core (λb=>if b=a then some (.nZ {cls:=.type "list",data:=.seq vs.toArray} (.lst (ns.map V.int)))else none) (λb=>?_) (.inl (.inr ⟨{cls:=.type "list",data:=.seq vs.toArray},bo Z⟩)) (λb u z=>?_) (λb z=>?_) λ_=>hk
  ·by_cases hb:b=a
   ·exact .inr ⟨_,_,bo hb⟩
   ·exact .inl (bB hb)
  ·by_cases hb:b=a
   ·have z':=(bo hb).symm.trans z
    cases z';subst hb;exact⟨ha,by rw[bL];exact hl,vs,_,rv,ha⟩
   ·have z':=(bB hb).symm.trans z
    cases z'
  ·by_cases hb:b=a
   ·exact hb
   ·exact absurd (bB hb) z
theorem UI{l:PySem.W.OpenLaw}{n k:Nat}{q:ai}{loose:List Str}{XP:(bV)->Heap->Prop}{YP:World->Heap->Prop}{d:DefRec}{K:Params->ag}{CX:World->kX}{sp:World->Sp}{x:Str} (hn:l.most=some n)(wH:n<=sizeLine)(zf:d.params.defaults=[])(hr:dE k callerA) (hY:∀(w:World)(h:Heap),YP w h->(K w.params).In h) (F:∀(w:World)(mg:bV)(fa:Addr)(h:Heap),(K w.params).In h->h.Ns mainGlobals mg->mg d.name=some (.ref fa)->∃fd:FuncData,(∀(s:ah)(u:Value),BindsTo s fd ⟨[u],[]⟩ [(x,u)])/\∀aA:Heap,(K w.params).In aA->aA.Ns mainGlobals mg->iU l.prog w (K w.params) mg aA (CX w) k fa fd [x] (sp w)) (kM:∀(w:World)(H:Hp)(a:Addr)(ns:List Int),ns.length<=n->JE H->aK (K w.params) H a (ns.map V.int)->sp w [.ref a] H (λv _=>v= .bl true) λ_ _ _=>False) (HQ:∀(w:World)(H:Hp)(s:ah)(e:Value)(s':ah),CX w [] H s (λ_ _ _=>False) e s'->False): PySem.W.WalkO q loose XP YP l.row.toRowW d [] (λf vs=>PySem.call f vs):=by refine Att.a8j hn zf λw s₀ s₁ mg mb fa o pm cd doc a vs ns G Y ho hd jo za Hs hints hlen hg=>?_;have KX:=hY w _ Y;obtain⟨fd,hb,hF⟩:=F w mg fa _ KX G.T.g za;exact a2g KX G.T.g G.T.b G.T.builtins G.T.nolimit hg Hs hints (gU hlen wH) hr hF hb (λH hO hS=>kM w H a ns hlen hO hS) λH e s'=>HQ w H s₁ e s'
def inClass(s:Stmt)(j:Nat):Stmt:=match s with | .ClassDef _ _ _ body _ _ _ _ _ _ _=>body.getD j (.Pass ⟨0,0,0,0⟩) |_=>.Pass ⟨0,0,0,0⟩
def m5(s:Stmt):Arguments:=match s with | .FunctionDef _ a _ _ _ _ _ _ _ _=>a |_=>{posonlyargs:=[],args:=[],vararg:=none,kwonlyargs:=[],kw_defaults:=[],kwarg:=none,defaults:=[]}
def ie(s:Stmt):List Stmt:=match s with | .FunctionDef _ _ b _ _ _ _ _ _ _=>b |_=>[]
def aX(s:Stmt):Scope:=match s with | .FunctionDef _ _ _ _ _ _ sc _ _ _=>sc |_=>{kind:=.function,names:=[],isGenerator:=false,isCoroutine:=false}
abbrev ja:kX:=λ_ _ _ _ _ _=>False
abbrev E0:XK:=λ_ _ _=>False
theorem Bu{X:Cx}:Passes ja X E0:=λ_ _ _ _ _ _ _ h=>h.elim
structure m7(K:ag)(x qual:Str)(st:Stmt)(f:Addr)(fd:FuncData):Prop where
 ex:∃(oc:Value)(od:Option Addr)(kV doc pm:Value)(an:Option Addr)(aM ct:Value)(hJ:Array (Option Value)),fd=PySem.W.fnOf x qual (m5 st) (ie st) (aX st) .none kV doc pm an aM ct/\K.lookup f=some ⟨oc,od,.func fd,hJ⟩/\PySem.W.codeIn K aM qual=true
 kp:PySem.W.keepIn K (.ref f)=true
section
variable {P:ai}{w:World}{K:ag}{mg:bV}{aA:Heap}
theorem m7.ok{x qual:Str}{st:Stmt}{f:Addr}{fd:FuncData}{N ps:List Str}{k:Nat}{sp:Sp}(F:m7 K x qual st f fd)(S:bj N ps (aX st))(len:∀vs H Q E,sp vs H Q E->vs.length=ps.length) (kP:∀(aM:Value)(A:ak)(outer:List Env)(s:ah)(H:Hp)(vs:List V)(Q:VK)(E:XK),dE k (A.deeper (envOfC qual (aX st) s.heap.objs.size f aM))->sp vs H Q E->∃t,gT (jK ja P w K mg aA N qual (aX st) f aM A outer s H E).pq (ie st) t/\t {nx:=λ_ H'=>Q .bN H',rt:=Q} (start N vs) H):iU P w K mg aA ja (k+1) f fd ps sp:=by obtain⟨oc,od,kV,doc,pm,an,aM,ct,hJ,rfl,lk,jo⟩:=F.ex;refine a5p lk jo S len λA outer s H vs Q E hr kM=>?_;obtain⟨t,h,q⟩:=kP aM A outer s H vs Q E hr kM;exact⟨t,h.pq,q⟩
theorem m7.binds{x qual:Str}{st:Stmt}{f:Addr}{fd:FuncData}{ps:List Str}(F:m7 K x qual st f fd) (h:∀(kV doc pm:Value)(an:Option Addr)(aM ct:Value)(us:List Value),us.length=ps.length->bindArgs (PySem.W.fnOf x qual (m5 st) (ie st) (aX st) .none kV doc pm an aM ct) ⟨us,[]⟩=pure (ps.zip us)):Binds K fd ps []:=by obtain⟨oc,od,kV,doc,pm,an,aM,ct,hJ,rfl,lk,jo⟩:=F.ex;exact .all (h kV doc pm an aM ct)
theorem HS{x qual:Str}{st:Stmt}{f:Addr}{oc:Value}{od an:Option Addr}{hJ:Array (Option Value)}{kV doc pm aM ct:Value}(l:K.lookup f=some ⟨oc,od,.func (PySem.W.fnOf x qual (m5 st) (ie st) (aX st) .none kV doc pm an aM ct),hJ⟩) (c:PySem.W.codeIn K aM qual=true)(k:PySem.W.keepIn K (.ref f)=true):m7 K x qual st f (PySem.W.fnOf x qual (m5 st) (ie st) (aX st) .none kV doc pm an aM ct):=⟨⟨oc,od,kV,doc,pm,an,aM,ct,hJ,Z,l,c⟩,k⟩
end
section
variable {X:Cx}
theorem pv(i:Nat){x:Str}{pos:Pos}(hN:X.N[i]? =some x:=by rfl)(hv:Jv X.env.scope x:=by first|exact Or.inl rfl|exact Or.inr (Or.inl rfl)|exact Or.inr (Or.inr rfl))(hd:(x==("__debug__":Str))=false:=by decide) (jo:(x==("__classdict__":Str))=false:=by decide):PE X (.Name x pos) (KG i):=Yi hN hv hd jo
end
theorem aW{A B:Prop}(h:B):if false=true then A else B:=by rw[bB iX];exact h
theorem bK{A B:Prop}(h:A):if true=true then A else B:=by rw[bo rfl];exact h
theorem dJ{c A B:Prop}[Decidable c](h1:c->A)(h2:¬c->B):if c then A else B:=by
 by_cases h:c
 ·rw[bo h]
  exact h1 h
 ·rw[bB h]
  exact h2 h
def aH(H H':Hp):Prop:=∀b o,H b=some o->H' b=some o
theorem aH.refl(H:Hp):aH H H:=λ_ _ h=>h
theorem aH.trans{H H1 H2:Hp}(a:aH H H1)(b:aH H1 H2):aH H H2:=λc o h=>b c o (a c o h)
theorem aH.free{H H':Hp}(e:aH H H'){l:Addr}(h:H' l=Option.none):H l=Option.none:=by cases q:H l with |none=>rfl |some o=>rw[e l o q]at h;cases h
theorem aH.seq{K:ag}{H H':Hp}{a:Addr}{xs:List V}(e:aH H H')(h:aK K H a xs):aK K H' a xs:=by
 rcases h with(h|⟨o,h⟩)|h
 ·exact .inl (.inl (e _ _ h))
 ·exact .inl (.inr ⟨o,e _ _ h⟩)
 ·exact .inr h
def Wd (i:Int):Prop:=i.natAbs<2^5000
theorem Wd.bits{i:Int}(h:Wd i):Builtin.Int.intBits i<=2^20:=gU (PyProof.Rows.intBits_le h) aB
theorem Wd.log{i:Int}(h:Wd i):i.natAbs.log2<9000:=by
 by_cases e:i.natAbs=0
 ·rw[e];decide
 ·have h1:i.natAbs.log2<5000:=(Nat.log2_lt e).mpr h
  lia
section
variable {X:Cx}
theorem nM:dg X (binaryOp .FloorDiv) (rI (λ_ j=>0<j/\Wd j) λi j=>.int (i/j)):=yk λi j _ _ _ _ _ hc q=>by have h1:(0:Int)<j:=hc.1;exact floordiv_int aw (by rw[Ur i aw];exact q) (.inl (PyProof.noPylong_of_log2 hc.2.log))
theorem Ov:dg X (binaryOp .FloorDiv) (rI (λ_ j=>j≠0/\Wd j) λi j=>.int (i.fdiv j)):=yk λ_ _ _ _ _ _ _ hc q=>floordiv_int hc.1 q (.inl (PyProof.noPylong_of_log2 hc.2.log))
end
def vf(K:ag)(H:Hp)(x:V)(T:String):Prop:=match x with | .bN=>T="NoneType" | .bl _=>T="bool" | .int _=>T="int" | .str _=>T="str" | .ref a=>(T="list"/\∃xs,aK K H a xs)\/(T="tuple"/\∃xs,aU K H a xs) |_=>False
def gq(T n:String):Bool:=T==n||(T=="bool"&&n=="int")
def AL:List String:=["NoneType","bool","int","str","list","tuple"]
def xO:List String:=["bool","int","str","list","tuple"]
theorem PH{K:ag}{T n:String}(h1:T∈AL)(h2:n∈xO):PySem.W.kitOne K (.type T) (.type n)=some (gq T n):=by
 have all:AL.all (λT=>xO.all λn=>PySem.W.kitOne [] (.type T) (.type n)==some (gq T n))=true:=by decide+kernel
 have a1:=gW.mp all T h1;have a2:=gW.mp a1 n h2;have e:PySem.W.kitOne K (.type T) (.type n)=PySem.W.kitOne [] (.type T) (.type n):=by unfold PySem.W.kitOne PySem.W.kitCls PySem.W.subIn;rfl
 rw[e];exact fN.mp a2
section
variable {X:Cx}
theorem vf.mem{K:ag}{H:Hp}{x:V}{T:String}(h:vf K H x T):T∈AL:=by cases x with |bN=>cases(show T="NoneType" from h);decide |bl b=>cases(show T="bool" from h);decide |int b=>cases(show T="int" from h);decide |str b=>cases(show T="str" from h);decide |ref a=>rcases(show(T="list"/\∃xs,aK K H a xs)\/(T="tuple"/\∃xs,aU K H a xs)from h)with⟨e,_⟩|⟨e,_⟩<;>cases e<;>decide |_=>exact(show False from h).elim
theorem PJ{ay:List (Addr×Obj)}{s:ah}{O:St}{H:Hp}{x:V}{u:Value}{T:String}(I:Inv X ay O H s)(rx:RelV x u)(ty:vf X.K H x T): ∃P:Heap->Prop,PySem.W.KitX X.K u (.type T) P/\P s.heap/\u≠ .builtin "__main__.__loader__#opaque":=by cases x with
 |bN=>cases(show T="NoneType" from ty);cases(show u=Value.none from rx);exact⟨_,PySem.W.kitx_none,True.intro,λz=>nomatch z⟩ |bl b=>cases(show T="bool" from ty);cases(show u=Value.bool b from rx);exact⟨_,PySem.W.kitx_bool,True.intro,λz=>nomatch z⟩ |int b=>cases(show T="int" from ty);obtain⟨t,q⟩:=(show∃t,u=Value.int b t from rx);cases q;exact⟨_,PySem.W.kitx_int,True.intro,λz=>nomatch z⟩ |str b=>cases(show T="str" from ty);obtain⟨t,q⟩:=(show∃t,u=Value.str b t from rx);cases q;exact⟨_,PySem.W.kitx_str,True.intro,λz=>nomatch z⟩ |ref a=>
  cases(show u=Value.ref a from rx);rcases(show(T="list"/\∃xs,aK X.K H a xs)\/(T="tuple"/\∃xs,aU X.K H a xs)from ty)with⟨e,xs,hx⟩|⟨e,xs,hx⟩
  ·cases e
   obtain⟨its,r,⟨o,n,h1,h2,_⟩,_⟩:=I.list hx;exact⟨_,PySem.W.kitx_list,⟨o,h1,h2⟩,λz=>nomatch z⟩
  ·cases e
   obtain⟨its,r,⟨o,h1,h2,_⟩,_⟩:=I.tuple hx;exact⟨_,PySem.W.kitx_tuple,⟨o,h1,h2⟩,λz=>nomatch z⟩ |_=>exact(show False from ty).elim
inductive aaq(K:ag)(xs:List V)(H:Hp)(Q:VK):Prop |mk (x:_)(T:_)(n:_)(b:_)(h0:xs=[x,.ty n])(h1:vf K H x T)(h2:n∈xO)(h3:gq T n=b)(h4:Q (.bl b) H)
def G8(K:ag):List V->Hp->VK->Prop:=λxs H Q=>aaq K xs H Q
theorem a7Z:fw X (.builtin "isinstance") (G8 X.K):=by intro ay s O H xs us Q I r h;obtain⟨x,T,n,b,rfl,ty,hn,rfl,q⟩:=h;obtain⟨u,c,rfl,rx,rc⟩:=vals2 r;cases(show c=Value.type n from rc);obtain⟨P,acw,p,hx⟩:=PJ I rx ty;exact PySem.W.kia_one acw I.iD p (PH ty.mem hn) hx λtk=>⟨.bl (gq T n),H,I.tok _,Z,q⟩
inductive aap(K:ag)(xs:List V)(H:Hp)(Q:VK):Prop |mk (x:V)(T:String)(p:Addr)(ns:List String)(b:Bool)(h0:xs=[x,.ref p])(h1:H p=some (.tup (ns.map V.ty)))(h2:vf K H x T)(h3:(∀n∈ns,n∈xO))(h4:ns.any (gq T)=b)(h5:Q (.bl b) H)
def G7(K:ag):List V->Hp->VK->Prop:=λxs H Q=>aap K xs H Q
theorem PF{K:ag}{T:String}(h1:T∈AL):∀{ns:List String},(∀n∈ns,n∈xO)->PySem.W.kitAny K (.type T) (ns.map Value.type)=some (ns.any (gq T)) |[],_=>rfl |n::r,h=>by have e:=PH (K:=K) h1 (h n (K6 ..));have ih:=PF (K:=K) h1 (ns:=r) λm hm=>h m (xE _ hm);rw[An,PySem.W.kitAny,e,Dh];cases gq T n with |true=>rfl |false=>simpa using ih
theorem Kq:∀{ns:List String}{us:List Value},Vals (ns.map V.ty) us->us=ns.map Value.type |[],_,.nil=>rfl |n::r,_,.cons q t=>by cases(show _=Value.type n from q);rw[Kq t];rfl
theorem a7Y:fw X (.builtin "isinstance") (G7 X.K):=by intro ay s O H xs us Q I r h;obtain⟨x,T,p,ns,b,rfl,hp,ty,hn,rfl,q⟩:=h;obtain⟨u,c,rfl,rx,rc⟩:=vals2 r;cases(show c=Value.ref p from rc);obtain⟨P,acw,pp,hx⟩:=PJ I rx ty;obtain⟨_,its,rv,⟨cls,dd,dt,sl⟩,h1,h2,n,h3⟩:=(show jv X.prog X.w H s.heap p (.tup (ns.map V.ty))from I.bD p _ hp);simp only at h2 h3;subst h2 h3;have e:=Kq rv;subst e;exact PySem.W.kia_tup acw I.iD pp h1 (PF ty.mem hn) hx λtk=>⟨.bl _,H,I.tok _,Z,q⟩
end
mutual
def RD(K:ag)(H:Hp):V->aj->Prop |x,.none=>x= .bN |x,.bool b=>x= .bl b |x,.int i=>x= .int i |x,.str y=>x= .str y |x,.list ds=>∃a xs,x= .ref a/\aK K H a xs/\aJ K H xs ds |x,.tuple ds=>∃a xs,x= .ref a/\aU K H a xs/\aJ K H xs ds |_,.dict _=>False
def aJ (K:ag)(H:Hp):List V->List aj->Prop |xs,[]=>xs=[] |xs,d::ds=>∃y ys,xs=y::ys/\RD K H y d/\aJ K H ys ds
end
section
variable {X:Cx}
mutual
theorem RD.reads{ay:List (Addr×Obj)}{s:ah}{O:St}{H:Hp}(I:Inv X ay O H s):∀{x:V}{u:Value}(d:aj),RelV x u->RD X.K H x d->∃as,Reads s.heap u d as |x,u,.none,r,h=>by cases(show x= .bN from by simpa[RD]using h);cases(show u=Value.none from r);exact⟨_,.none⟩ |x,u,.bool b,r,h=>by cases(show x= .bl b from by simpa[RD]using h);cases(show u=Value.bool b from r);exact⟨_,.bool b⟩ |x,u,.int i,r,h=>by cases(show x= .int i from by simpa[RD]using h);obtain⟨t,q⟩:=(show∃t,u=Value.int i t from r);cases q;exact⟨_,.int i t⟩ |x,u,.str y,r,h=>by cases(show x= .str y from by simpa[RD]using h);obtain⟨t,q⟩:=(show∃t,u=Value.str y t from r);cases q;exact⟨_,.str y t⟩ |x,u,.list ds,r,h=>by rw[RD]at h;obtain⟨a,xs,rfl,hx,hd⟩:=h;cases(show u=Value.ref a from r);obtain⟨its,rv,⟨o,n,h1,h2,h3,h4⟩,_⟩:=I.list hx;obtain⟨as,q⟩:=aJ.reads I ds rv hd;exact⟨_,.list h1 h2 h4 (by simpa using q)⟩ |x,u,.tuple ds,r,h=>by rw[RD]at h;obtain⟨a,xs,rfl,hx,hd⟩:=h;cases(show u=Value.ref a from r);obtain⟨its,rv,⟨o,h1,h2,n,h4⟩,_⟩:=I.tuple hx;obtain⟨as,q⟩:=aJ.reads I ds rv hd;exact⟨_,.tuple h1 h2 h4 (by simpa using q)⟩ |x,u,.dict _,r,h=>by simp[RD]at h
theorem aJ.reads {ay:List (Addr×Obj)}{s:ah}{O:St}{H:Hp}(I:Inv X ay O H s):∀{xs:List V}{us:List Value}(ds:List aj),Vals xs us->aJ X.K H xs ds->∃as,ReadsAll s.heap us ds as |xs,us,[],r,h=>by cases(show xs=[]from by simpa[aJ]using h);cases r;exact⟨_,.nil⟩ |xs,us,d::ds,r,h=>by rw[aJ]at h;obtain⟨y,ys,rfl,h1,h2⟩:=h;cases r with |cons ra rb=>obtain⟨as,q⟩:=RD.reads I d ra h1;obtain⟨bs,q'⟩:=aJ.reads I ds rb h2;exact⟨_,.cons q q'⟩
end
inductive aav(K:ag)(x:V)(y:V)(H:Hp)(Q:VK):Prop |mk (d:_)(e:_)(h0:RD K H x d)(h1:RD K H y e)(h2:SeqAt.shaped d=true)(h3:SeqAt.shaped e=true)(h4:Q (.bl (PyData.eqv d e)) H)
def G9(K:ag):R2:=λx y H Q=>aav K x y H Q
inductive aak(K:ag)(x:V)(y:V)(H:Hp)(Q:VK):Prop |mk (d:_)(e:_)(h0:RD K H x d)(h1:RD K H y e)(h2:SeqAt.shaped d=true)(h3:SeqAt.shaped e=true)(h4:Q (.bl (!PyData.eqv d e)) H)
def G3(K:ag):R2:=λx y H Q=>aak K x y H Q
theorem YK(hu:X.A.units+64<cLine):dg X (compareOp .Eq) (G9 X.K):=by intro ay s O H x y v u Q I rx ry h;obtain⟨d,e,hd,he,sd,se,q⟩:=h;obtain⟨as,ra⟩:=RD.reads I d rx hd;obtain⟨bs,rb⟩:=RD.reads I e ry he;exact eq_dataH ra rb sd se hu ⟨.bl _,H,I,Z,q⟩
theorem YE(hu:X.A.units+64<cLine):dg X (compareOp .NotEq) (G3 X.K):=by intro ay s O H x y v u Q I rx ry h;obtain⟨d,e,hd,he,sd,se,q⟩:=h;obtain⟨as,ra⟩:=RD.reads I d rx hd;obtain⟨bs,rb⟩:=RD.reads I e ry he;exact ne_dataH ra rb sd se hu ⟨.bl _,H,I,Z,q⟩
end
theorem aH.new{H:Hp}{t:Addr}{o:HO}(ht:H t=none):aH H (upd H t o):=λb o' e=>by rw[aV (dU e ht)];exact e
structure Nw(H H':Hp)(p:Addr)(o:HO):Prop where
 no:H p=none
 at':H' p=some o
 same:aH H H'
 eq:H'=upd H p o
theorem Nw.of{H:Hp}{p:Addr}{o:HO}(h:H p=none):Nw H (upd H p o) p o:=⟨h,bQ,.new h,Z⟩
def CF:List Str:=["len","abs","min","max","range","isinstance","int","bool","str","tuple","list","any","all","sum","zip","enumerate","sorted","reversed","ord","chr","divmod","repr","dict","set"]
def bE (mg:bV):Prop:=∀x∈CF,mg x=none
theorem bE.at{mg:bV}(B:bE mg)(x:Str)(h:x∈CF:=by decide):mg x=none:=B x h
theorem eJ{α:Type}{C:List α->Prop}(h:∀a,C [a]):∀us:List α,us.length=1->C us |[_],_=>h _
theorem dC{α:Type}{C:List α->Prop}(h:∀a b,C [a,b]):∀us:List α,us.length=2->C us |[_,_],_=>h _ _
theorem kW{α:Type}{C:List α->Prop}(h:∀a b c,C [a,b,c]):∀us:List α,us.length=3->C us |[_,_,_],_=>h _ _ _
theorem sN{α:Type}{C:List α->Prop}(h:∀a b c d,C [a,b,c,d]):∀us:List α,us.length=4->C us |[_,_,_,_],_=>h _ _ _ _
theorem Jt{α:Type}{C:List α->Prop}(h:∀a b c d e,C [a,b,c,d,e]):∀us:List α,us.length=5->C us |[_,_,_,_,_],_=>h _ _ _ _ _
def QP(N P:List Str)(sc:Scope):Bool:=decide (sc.kind= .function)&& !sc.isCoroutine&& !sc.isGenerator&&decide N.Nodup&&decide (N.take P.length=P)&&P.all (λx=>decide (sc.names.lookup x=some .local\/sc.names.lookup x=some .cell))&&sc.names.all λy=>decide (y.2≠ .free)
theorem bw{N P:List Str}{sc:Scope}(h:QP N P sc=true):bj N P sc:=by unfold QP at h;simp only[fG,JN,Ut,gW]at h;obtain⟨⟨⟨⟨⟨⟨h1,h2⟩,h3⟩,h4⟩,h5⟩,h6⟩,h7⟩:=h;exact⟨h1,h2,h3,h4,h5,h6,h7⟩
structure FA(K:ag)(mg:bV)(x:Str)(st:Stmt):Prop where ex:∃f fd,mg x=some (.ref f)/\m7 K x x st f fd
def aF(P:ai)(w:World)(K:ag)(mg:bV)(aA:Heap)(x:Str)(k:Nat)(sp:Sp):Prop:=∃f fd ps,iU P w K mg aA ja k f fd ps sp/\mg x=some (.ref f)/\PySem.W.keepIn K (.ref f)=true/\Binds K fd ps []
section
variable {P:ai}{w:World}{K:ag}{mg:bV}{aA:Heap}
theorem a5C{h:Heap}{x:Str}{st:Stmt}{f:Addr}{oc:Value}{od an:Option Addr}{hJ:Array (Option Value)}{kV doc pm aM ct:Value}(X:K.In h)(G:h.Ns mainGlobals mg) (a:PySem.W.nsIn K mainGlobals x=some (some (.ref f))) (l:K.lookup f=some ⟨oc,od,.func (PySem.W.fnOf x x (m5 st) (ie st) (aX st) .none kV doc pm an aM ct),hJ⟩) (c:PySem.W.codeIn K aM x=true)(k:PySem.W.keepIn K (.ref f)=true):FA K mg x st:=⟨f,_,Af X G a,HS l c k⟩
theorem FA.has{x:Str}{st:Stmt}{N ps:List Str}{k:Nat}{sp:Sp}(F:FA K mg x st)(S:bj N ps (aX st))(len:∀vs H Q E,sp vs H Q E->vs.length=ps.length) (hb:∀(kV doc pm:Value)(an:Option Addr)(aM ct:Value)(us:List Value),us.length=ps.length->bindArgs (PySem.W.fnOf x x (m5 st) (ie st) (aX st) .none kV doc pm an aM ct) ⟨us,[]⟩=pure (ps.zip us)) (kP:∀(f:Addr)(aM:Value)(A:ak)(outer:List Env)(s:ah)(H:Hp)(vs:List V)(Q:VK)(E:XK),dE k (A.deeper (envOfC x (aX st) s.heap.objs.size f aM))->sp vs H Q E->∃t,gT (jK ja P w K mg aA N x (aX st) f aM A outer s H E).pq (ie st) t/\t {nx:=λ_ H'=>Q .bN H',rt:=Q} (start N vs) H):aF P w K mg aA x (k+1) sp:=by obtain⟨f,fd,hm,F⟩:=F.ex;exact⟨f,fd,ps,F.ok S len λaM A outer s H vs Q E=>kP f aM A outer s H vs Q E,hm,F.kp,F.binds hb⟩
end
section
variable {X:Cx}{k:Nat}{x:Str}{p pos:Pos}{e:Expr}{es:List Expr}{t:TA}{sp:Sp}
def KL(sp:Sp)(t:TA):TE:=λO H Q=>t O H λvs H1=>sp vs H1 Q E0
theorem ph(F:aF X.prog X.w X.K X.mg X.aA x k sp)(hr:dE k X.A)(hg:Gl X x)(ha:PA X (e::es) t)(jJ:(x==("__debug__":Str))=false:=by decide) (he:starEach (e::es) X.env=(false,eval e X.env)::starEach es X.env:=by rfl)(gC:(backTo pos (starEach es X.env)).any (·.1)=false:=by rfl): PE X (.Call (.Name x p) (e::es) [] pos) (KL sp t):=by
 obtain⟨f,fd,ps,F,hm,hk,hb⟩:=F;have h:=Yr (pos:=pos) (p:=p) F hr hg hm hk hb .nil Bu ha jJ he gC;intro ay s O H Q I hq;refine h ay s O H Q I ?_;have e1:(λ(vs:List V) H1=>sp (vs++[]) H1 Q E0)=λvs H1=>sp vs H1 Q E0:=by funext vs H1;rw[qC]
 show t O H λvs H1=>sp (vs++[]) H1 Q E0;rw[e1];exact hq
theorem pf{j:Nat}(F:aF X.prog X.w X.K X.mg X.aA x j sp)(hr:dE k X.A)(ha:PA X (e::es) t)(hjk:j<=k:=by decide)(hg:Gl X x:=by rfl)(jJ:(x==("__debug__":Str))=false:=by decide)(he:starEach (e::es) X.env=(false,eval e X.env)::starEach es X.env:=by rfl)(gC:(backTo pos (starEach es X.env)).any (·.1)=false:=by rfl):PE X (.Call (.Name x p) (e::es) [] pos) (KL sp t):=ph F (hr.mono hjk) hg ha jJ he gC
theorem bO:dg X (binaryOp .Mult) (rI (λi j=>IntMulOk i j) λi j=>.int (i*j)):=yk λ_ _ _ _ _ _ _ hc q=>mul_int q hc
theorem YJ:dg X (compareOp .Eq) (jV λi j=>.bl (decide (i=j))):=w6 λ_ _ _ _ _ _ _ q=>eq_int (by rw[Bool.beq_eq_decide_eq];exact q)
theorem YD:dg X (compareOp .NotEq) (jV λi j=>.bl (!decide (i=j))):=w6 λ_ _ _ _ _ _ _ q=>ne_int (by rw[bne,Bool.beq_eq_decide_eq];exact q)
theorem YL(hu:X.A.units+64<cLine):dg X (compareOp .Eq) (λx y H Q=>jV (λi j=>.bl (decide (i=j))) x y H Q\/G9 X.K x y H Q):=YJ.or (YK hu)
theorem YF(hu:X.A.units+64<cLine):dg X (compareOp .NotEq) (λx y H Q=>jV (λi j=>.bl (!decide (i=j))) x y H Q\/G3 X.K x y H Q):=YD.or (YE hu)
mutual
theorem eqv_refl:∀d:aj,d.canLay0=true->PyData.eqv d d=true | .none,_=>by simp[PyData.eqv] | .bool b,_=>by simp[PyData.eqv] | .int i,_=>by simp[PyData.eqv] | .str x,_=>by simp[PyData.eqv] | .list ds,h=>by simp only[PyData.eqv];exact eqvAll_refl ds (by simpa[PyData.canLay0]using h) | .tuple ds,h=>by simp only[PyData.eqv];exact eqvAll_refl ds (by simpa[PyData.canLay0]using h) | .dict _,h=>by simp[PyData.canLay0]at h
theorem eqvAll_refl:∀ds:List aj,PyData.canLayAll0 ds=true->PyData.eqvAll ds ds=true |[],_=>by simp[PyData.eqvAll] |d::ds,h=>by simp only[PyData.canLayAll0,fG]at h;simp only[PyData.eqvAll,fG];exact⟨eqv_refl d h.1,eqvAll_refl ds h.2⟩
end
theorem oY{K:ag}{H:Hp}(b:Bool):RD K H (.bl b) (.bool b):=by simp[RD]
theorem dN{K:ag}{H:Hp}(i:Int):RD K H (.int i) (.int i):=by simp[RD]
theorem cT{K:ag}{H:Hp}(x:Str):RD K H (.str x) (.str x):=by simp[RD]
theorem FX{K:ag}{H:Hp}:RD K H .bN .none:=by simp[RD]
theorem fA{K:ag}{H:Hp}{p:Addr}{xs:List V}{ds:List aj}(h:aU K H p xs)(r:aJ K H xs ds):RD K H (.ref p) (.tuple ds):=by rw[RD];exact⟨p,xs,Z,h,r⟩
theorem vO{K:ag}{H:Hp}{p:Addr}{xs:List V}{ds:List aj}(h:aK K H p xs)(r:aJ K H xs ds):RD K H (.ref p) (.list ds):=by rw[RD];exact⟨p,xs,Z,h,r⟩
theorem cH{K:ag}{H:Hp}:aJ K H [] []:=by simp[aJ]
theorem cf{K:ag}{H:Hp}{x:V}{xs:List V}{d:aj}{ds:List aj}(h:RD K H x d)(r:aJ K H xs ds):aJ K H (x::xs) (d::ds):=by rw[aJ];exact⟨x,xs,Z,h,r⟩
inductive a8Y(t:TS)(D:Ends)(O:St)(H:Hp):Prop |mk (JG:St->Hp->Prop)(h0:t {D with nx:=JG} O H)(h1:∀σ' H',JG σ' H'->D.nx σ' H')
def VD(t:TS):TS:=λD O H=>a8Y t D O H
theorem iM{st:Stmt}{t:TS}(h:PS X st t):PS X st (VD t):=by intro ay s O H D I hq;obtain⟨JG,q,m⟩:=hq;refine ba (h ay s O H _ I q) λf s1 q1=>?_;cases f with |next=>obtain⟨σ',H',I',q'⟩:=q1;exact⟨σ',H',I',m _ _ q'⟩ |brk=>exact q1 |cont=>exact q1 |ret u=>exact q1
end
def sO(K:ag)(xs:List Str):Prop:=∀x∈xs,PySem.W.nsIn K mainGlobals x=some none
theorem sO.nil{K:ag}:sO K []:=λ_ h=>nomatch h
theorem sO.cons{K:ag}{x:Str}{xs:List Str}(a:PySem.W.nsIn K mainGlobals x=some none)(r:sO K xs):sO K (x::xs):=λy hy=>by
 rcases dh.mp hy with e|e
 ·rw[e];exact a
 ·exact r y e
theorem a86{K:ag}{mg:bV}{h:Heap}(X:K.In h)(G:h.Ns mainGlobals mg)(a:sO K CF):bE mg:=λx hx=>PySem.W.mg_none_of X G (a x hx)
theorem a2f{l:PySem.W.OpenLaw}{q:ai}{loose:List Str}{XP:(bV)->Heap->Prop}{YP:World->Heap->Prop}{d:DefRec}{K:Params->ag}{k:Nat}{x:Str}{st:Stmt}(hn:l.most=some 63)(zf:d.params.defaults=[]) (hr:dE k callerA)(hY:∀(w:World)(h:Heap),YP w h->(K w.params).In h)(All:ag->(bV)->Prop) (F:∀(w:World)(mg:bV)(h:Heap),(K w.params).In h->h.Ns mainGlobals mg->All (K w.params) mg) (L:∀(K:ag)(mg:bV),All K mg->FA K mg d.name st) (hb:∀(kV doc pm:Value)(an:Option Addr)(aM ct u:Value),bindArgs (PySem.W.fnOf d.name d.name (m5 st) (ie st) (aX st) .none kV doc pm an aM ct) ⟨[u],[]⟩=pure [(x,u)]) (ok:∀(P:ai)(w:World)(K:ag)(mg:bV)(aA:Heap)(f:Addr)(fd:FuncData),All K mg->m7 K d.name d.name st f fd->iU P w K mg aA ja k f fd [x] (λvs H Q _=>∃(a:Addr)(ns:List Int),vs=[.ref a]/\aK K H a (ns.map V.int)/\ns.length<=63/\∀H',Q (.bl true) H')): PySem.W.WalkO q loose XP YP l.row.toRowW d [] (λf vs=>PySem.call f vs):=L2.UI (n:=63) (k:=k) (x:=x) (CX:=λ_=>ja) (sp:=λw=>λvs H Q _=>∃(a:Addr)(ns:List Int),vs=[.ref a]/\aK (K w.params) H a (ns.map V.int)/\ns.length<=63/\∀H',Q (.bl true) H') hn aB zf hr hY (λw mg fa h KX G za=>by
 have A:=F w mg h KX G;obtain⟨f,fd,hm,Fn⟩:=(L _ _ A).ex;have e:fa=f:=by rw[za]at hm;injection (eO hm)
 subst e;refine⟨fd,λs u=>?_,λaA _ _=>ok l.prog w _ mg aA fa fd A Fn⟩;obtain⟨oc,od,kV,doc,pm,an,aM,ct,hJ,rfl,lk,jo⟩:=Fn.ex;exact .of_eq (hb kV doc pm an aM ct u)) (λ_ _ a ns hl _ hS=>⟨a,ns,Z,hS,hl,λ_=>rfl⟩) λ_ _ _ _ _ z=>z
theorem J5{env:Env}:∀(ns:List (Str×NameKind))(cs:List (Str×Addr)),(∀x∈ns,x.2= .free->∃c,env.cells.lookup x.1=some c)->(∀x c,cs.lookup x=some c->env.cells.lookup x=some c)->∃cl,(forIn ns cs (λx r=>if(x.2==NameKind.free)=true then do let a<-cellOf env x.1;pure (ForInStep.yield ((x.1,a)::r))else pure (ForInStep.yield r)):Sem (List (Str×Addr)))=pure cl/\(∀x c,cl.lookup x=some c->env.cells.lookup x=some c)/\(∀x c,cs.lookup x=some c->∃c',cl.lookup x=some c')/\∀x∈ns,x.2= .free->∃c,cl.lookup x.1=some c
 |[],cs,_,h2=>⟨cs,Z,h2,λx c e=>⟨c,e⟩,λ_ h=>nomatch h⟩ |(n,k)::r,cs,h1,h2=>by
  by_cases hk:k= .free
  ·subst hk
   obtain⟨c,hc⟩:=h1 (n,.free) (.head _) rfl;have e1:cellOf env n=pure c:=by unfold cellOf;rw[show env.cells.lookup n=some c from hc]
   obtain⟨cl,a1,a2,a3,a4⟩:=J5 r ((n,c)::cs) (λx hx=>h1 x (.tail _ hx)) (λx d e=>by rw[jP]at e;cases z:x==n with |true=>rw[z]at e;cases e;rw[fN.mp z];exact hc |false=>rw[z]at e;exact h2 x d e);refine⟨cl,?_,a2,λx d e=>?_,λx hx hf=>?_⟩
   ·rw[Kc]
    show(do let r'<-(if(NameKind.free==NameKind.free)=true then do let a<-cellOf env n;pure (ForInStep.yield ((n,a)::cs))else pure (ForInStep.yield cs));_)=_;rw[bo (by rfl),e1];exact a1
   ·by_cases z:x==n
    ·exact a3 x c (by rw[jP,z])
    ·exact a3 x d (by rw[jP,Aw.mpr z];exact e)
   ·rcases dh.mp hx with rfl|hx
    ·exact a3 n c (by rw[jP,JO])
    ·exact a4 x hx hf
  ·obtain⟨cl,a1,a2,a3,a4⟩:=J5 r cs (λx hx=>h1 x (.tail _ hx)) h2
   refine⟨cl,?_,a2,a3,λx hx hf=>?_⟩
   ·rw[Kc]
    show(do let r'<-(if(k==NameKind.free)=true then do let a<-cellOf env n;pure (ForInStep.yield ((n,a)::cs))else pure (ForInStep.yield cs));_)=_;rw[bB (by simpa using hk)];exact a1
   ·rcases dh.mp hx with rfl|hx
    ·exact absurd hf hk
    ·exact a4 x hx hf
theorem J6{env:Env}{scope:Scope}(h1:∀x∈scope.names,x.2= .free->∃c,env.cells.lookup x.1=some c): ∃cl,closureFor scope env=pure cl/\(∀x c,cl.lookup x=some c->env.cells.lookup x=some c)/\∀x∈scope.names,x.2= .free->∃c,cl.lookup x.1=some c:=by
 obtain⟨cl,a1,a2,_,a4⟩:=J5 (env:=env) scope.names [] h1 (λx c e=>nomatch e);refine⟨cl,?_,a2,a4⟩;unfold closureFor;show(forIn scope.names ([]:List (Str×Addr)) (λ(x:Str×NameKind) r=>match x with|(name,kind)=>if(kind==NameKind.free)=true then do let a<-cellOf env name;pure (ForInStep.yield ((name,a)::r))else pure (ForInStep.yield r))>>=λr=>(pure r:Sem (List (Str×Addr))))=pure cl;have ef:(λ(x:Str×NameKind)(r:List (Str×Addr))=>match x with|(name,kind)=>(if(kind==NameKind.free)=true then do let a<-cellOf env name;pure (ForInStep.yield ((name,a)::r))else pure (ForInStep.yield r):Sem (ForInStep (List (Str×Addr))))) =λx r=>if(x.2==NameKind.free)=true then do let a<-cellOf env x.1;pure (ForInStep.yield ((x.1,a)::r))else pure (ForInStep.yield r):=by funext x r;obtain⟨n,k⟩:=x;rfl
 rw[ef,a1];rfl
theorem Pj{env:Env}(hk:env.scope.kind= .function){x:Str}(hx:env.kindOf x=some .cell):∀{names:List (Str×NameKind)},names.lookup x=some .free->(names.map λ(n,k)=>if(k==NameKind.free&&env.scope.kind== .function&&env.kindOf n==some .cell)then(n,NameKind.cell)else(n,k)).lookup x=some .cell |[],h=>nomatch h |(n,k)::r,h=>by have ih:=@Pj env hk x hx r;show List.lookup x ((if(k==NameKind.free&&env.scope.kind== .function&&env.kindOf n==some .cell)=true then(n,NameKind.cell)else(n,k))::_)=_;cases z:x==n with |true=>simp only[jP,z]at h;cases h;have e:=fN.mp z;subst e;rw[bo (by rw[hk,hx];rfl),jP,z] |false=>simp only[jP,z]at h;split<;>(simp only[jP,z];exact ih h)
def cR(X:Cx)(N:List Str)(scope:Scope)(cl:List (Str×Addr))(s:ah)(H:Hp)(fp:List Addr)(ay:List (Addr×Obj)):Cx:={prog:=X.prog,w:=X.w,K:=X.K,mg:=X.mg,aA:=X.aA,A:=X.A,N:=N,s₀:=s,H₀:=H,env:=compEnvC scope cl s.heap.objs.size X.env,outer:=X.stack,stack:=X.stack,ex:=fp,fn:=λ_=>false,calm:=X.calm,pn:=X.pn++ay,xe:=λ_ _=>False}
def stC(js:List (Option Nat))(O:St):St:=js.map λ|none=>none|some j=>(O[j]?).join
def zO(X:Cx)(N:List Str)(js:List (Option Nat))(scope:Scope):Bool:=N.length==js.length&&(N.zip js).all λp=>match p.2 with|none=>true|some j=>X.N[j]? ==some p.1&&scope.names.lookup p.1==some NameKind.free&&X.env.kindOf p.1==some NameKind.cell
def sL(X:Cx)(scope:Scope):Bool:=scope.kind== .function&&X.env.scope.kind== .function&&scope.names.all λx=>match x.2 with | .free=>X.env.kindOf x.1==some NameKind.cell | .cell=>false | .local=>scope.names.lookup x.1==some NameKind.local |_=>true
section
variable {X:Cx}{ay:List (Addr×Obj)}{O:St}{H:Hp}{s:ah}
theorem lookup_mem{α β:Type}[BEq α][LawfulBEq α]:∀{l:List (α×β)}{x:α}{b:β},l.lookup x=some b->(x,b)∈l |[],_,_,h=>nomatch h |(n,k)::r,x,b,h=>by rw[jP]at h;cases z:x==n with |true=>rw[z]at h;cases h;rw[fN.mp z];exact .head _ |false=>rw[z]at h;exact .tail _ (lookup_mem h)
theorem NW{env:Env}{x:Str}{k:NameKind}:∀{names:List (Str×NameKind)},(names.map λ(n,k)=>if(k==NameKind.free&&env.scope.kind== .function&&env.kindOf n==some .cell)then(n,NameKind.cell)else(n,k)).lookup x=some k->names.lookup x=some k\/(k= .cell/\names.lookup x=some .free) |[],h=>nomatch h |(n,k')::r,h=>by have ih:=@NW env x k r;have h':List.lookup x ((if(k'==NameKind.free&&env.scope.kind== .function&&env.kindOf n==some .cell)=true then(n,NameKind.cell)else(n,k'))::(r.map λ(n,k)=>if(k==NameKind.free&&env.scope.kind== .function&&env.kindOf n==some .cell)then(n,NameKind.cell)else(n,k)))=some k:=h;cases z:x==n with
 |true=>
  split at h'
  ·rename_i hc
   simp only[jP,z]at h';cases h';rw[fG,fG]at hc;have e:k'= .free:=fN.mp hc.1.1;subst e;exact .inr ⟨Z,by rw[jP,z]⟩
  ·simp only[jP,z]at h'
   cases h';exact .inl (by rw[jP,z]) |false=>
  rw[jP,z];refine ih ?_;split at h'
  ·simpa only[jP,z]using h'
  ·simpa only[jP,z]using h'
theorem Inv.comp{N:List Str}{js:List (Option Nat)}{scope:Scope}{cl:List (Str×Addr)}{fp:List Addr}{h':Heap}{tk:Nat}(I:Inv X ay O H s)(hN:zO X N js scope=true)(hS:sL X scope=true) (c1:∀x c,cl.lookup x=some c->X.env.cells.lookup x=some c)(c2:∀x∈scope.names,x.2= .free->∃c,cl.lookup x.1=some c)(hf:∀b∈fp,jw X ay H b)(hfl:∀b∈fp,b<s.heap.objs.size) (hn:h'.Ns s.heap.objs.size λ_=>none)(hk:∀b o,s.heap.get? b=some o->h'.get? b=some o):Inv (cR X N scope cl s H fp ay) [] (stC js O) H {s with heap:=h',toks:=tk}:=by
 unfold sL at hS;rw[fG,fG]at hS;obtain⟨⟨s1,s2⟩,s3⟩:=hS;have ka:scope.kind= .function:=fN.mp s1;have a3t:X.env.scope.kind= .function:=fN.mp s2;unfold zO at hN;rw[fG]at hN;obtain⟨n1,n2⟩:=hN;have hlen:N.length=js.length:=fN.mp n1;have Q4:∀x k,(relabel scope X.env).names.lookup x=some k->scope.names.lookup x=some k\/(k= .cell/\scope.names.lookup x=some .free):=λx k e=>NW e;have a0N:∀x,scope.names.lookup x≠some .cell:=λx e=>by have:=gW.mp s3 _ (lookup_mem e);exact iX this
 have QO:∀b∈(cR X N scope cl s H fp ay).fs,b∈X.env.locals::X.fs:=I.Dt;have ok:(cR X N scope cl s H fp ay).Ok:={
  mod:=I.ok.mod
  kind:=ka
  glob:=I.ok.glob
  blt:=I.ok.blt
  above:=bf _
  inj:=λx y c e1 e2=>I.ok.inj x y c (c1 x c e1) (c1 y c e2)
  has:=λx hx=>by
   have fr:scope.names.lookup x=some .free->∃c,cl.lookup x=some c:=λe=>c2 (x,.free) (lookup_mem e) rfl;rcases hx with e|e
   ·rcases Q4 x _ e with e|⟨_,e⟩
    ·exact absurd e (a0N x)
    ·exact fr e
   ·rcases Q4 x _ e with e|⟨z,_⟩
    ·exact fr e
    ·cases z
  uZ:=λx c e=>nomatch e
  hd:=I.ok.hd
  frames:=I.ok.frames
  vy:=.inl rfl
  Ck:=λb hb=>⟨eQ (hfl b hb),λx c e=>(hf b hb).2.2.2.2.1 x c (c1 x c e)⟩
  bs:=I.bs
  mZ:=gU I.ok.mZ I.sz
  tV:=λb o e hb=>by
   rcases(hf b hb).2.2.2.1 with z|z
   ·exact I.ok.tV b o e z
   ·exact absurd (fO (cA e) (gU I.ok.mZ z)) (Aj _)
  pY:=λb hb z=>by
   obtain⟨_,q1,q2,_⟩:=hf b hb;rcases dh.mp (QO b z)with e|e
   ·exact q1 e
   ·exact q2 e
  kf:=I.stack
  pV:=I.L6};refine⟨ok,Z,I.bare,Un.kept hk,⟨_,hn,λi x v e1 e2 e3=>?_⟩,λx c e=>?_,I.bD.fresh (bf _),λx c e=>I.kh x c (c1 x c e),λp hp=>?_,I.bD.kept hk,?_⟩
 ·have wX:(js.map λ|none=>none|some j=>(O[j]?).join)[i]? =some (some v):=e2
  rw[bX]at wX;cases hj:js[i]? with |none=>rw[hj]at wX;cases wX |some o=>rw[hj]at wX;cases o with |none=>cases wX |some j=>
   have hz:(N.zip js)[i]? =some (x,some j):=by rw[K8];exact⟨e1,hj⟩
   have Sr:=gW.mp n2 _ (gj hz);simp only[fG,fN]at Sr;obtain⟨⟨h1,h2⟩,h3⟩:=Sr;have Cq:(O[j]?).join=some v:=by simpa using wX
   have hσ:O[j]? =some (some v):=by cases q:O[j]? with |none=>rw[q]at Cq;cases Cq |some o=>
    rw[q]at Cq;have:o=some v:=by simpa using Cq
    rw[this]
   obtain⟨m,hm,hl⟩:=I.loc;obtain⟨u,r,l⟩:=hl j x v h1 hσ (.inr (.inl h3));refine⟨u,r,?_⟩;rcases l with⟨k,_⟩|⟨_,c,hc,nX⟩
   ·rw[h3]at k;cases k
   ·obtain⟨c',kb⟩:=c2 (x,.free) (lookup_mem h2) rfl
    have:=c1 x c' kb;rw[hc]at this;cases this;refine .inr ⟨.inl (Pj a3t h3 h2),c,kb,?_⟩;obtain⟨ob,ho,hd⟩:=nX;exact⟨ob,hk _ _ ho,hd⟩
 ·obtain⟨v,ob,ho,hd⟩:=I.cell x c (c1 x c e)
  exact⟨v,ob,hk _ _ ho,hd⟩
 ·have C2:p∈X.pn++ay:=by simpa[cR]using hp
  obtain⟨a1,a2,a3,a4,a5⟩:=I.pin p C2;refine⟨hk _ _ a1,a2,eQ (cA a1),λz=>?_,a5⟩;rcases dh.mp (QO p.1 z)with e|e
  ·exact a3 e
  ·exact a4 e
 ·show(js.map _).length=N.length
  rw[bL,hlen]
end
theorem Sn{prog:ai}{w:World}{A:ak}{R:Result->ah->Prop}{s:ah}{elt target iter:Expr}{ifs:List Expr}{scope:Scope}{pos:Pos}{it acc:Value}{env:Env}(I:Nat->ah->Prop) (turn:∀n s,I n s->wpAny (model prog w) A (pyNext it) (λr s₁=>match r with |none=>R (.ok .next) s₁ |some v=>wpAny (model prog w) A (letOwnedTupleGo target it v) (λ_ s₁=>wpAny (model prog w) A (assign target env v) (λ_ s₂=>wpAny (model prog w) A (forIn ifs true λc r=>if r=true then do let ok<-isTrue c env (eval c env);pure (ForInStep.yield ok)else pure (ForInStep.yield r)) (λok s₃=>if ok=true then wpAny (model prog w) A (eval elt env) (λx s₄=>wpAny (model prog w) A (call (.builtin "list.append") [acc,x]) (λ_ s₅=>∃m,m<n/\I m s₅) (λ_ _=>False) s₄) (λ_ _=>False) s₃ else∃m,m<n/\I m s₃) (λ_ _=>False) s₂) (λ_ _=>False) s₁) (λ_ _=>False) s₁) (λ_ _=>False) s) (n:Nat)(h:I n s):codeAny (model prog w) A (.compLoop (.ListComp elt [⟨target,iter,ifs,0⟩] scope pos) 0 it acc env) R s:=by refine codeAny_loop Z I (λn s hI=>?_) n h;show wpAny _ A ((compTurn (.ListComp elt [⟨target,iter,ifs,0⟩] scope pos) 0 it acc env).onRaise (λx=>do noteFrame x env;theTreesLotGoes x)) _ _ s;refine wpAny_noted ?_;rw[compTurn_list];refine aP (vk (aP (fU (turn n s hI) (λr s₁ h₁=>?_) λ_ _ h'=>h'.elim)));cases r with |none=>exact cg h₁ |some v=>refine aP (fU h₁ (λ_ KU h₁=>?_) λ_ _ h'=>h'.elim);refine aP (fU h₁ (λ_ s₂ h₂=>aP (fU h₂ (λok s₃ h₃=>?_) λ_ _ h'=>h'.elim)) λ_ _ h'=>h'.elim);cases ok with |false=>exact cg ⟨Z,h₃⟩ |true=>exact aP (aP (fU h₃ (λx s₄ h₄=>aP (fU h₄ (λ_ s₅ h₅=>cg (cg ⟨Z,h₅⟩)) λ_ _ h'=>h'.elim)) λ_ _ h'=>h'.elim))
def JC(X:Cx)(ifs:List Expr)(t:TT):Prop:=∀(ay:List (Addr×Obj))(s:ah)(O:St)(H:Hp)(Q:Bool->Hp->Prop),Inv X ay O H s->t O H Q->wpAny (model X.prog X.w) X.A (forIn ifs true λc r=>if r=true then do let ok<-isTrue c X.env (eval c X.env);pure (ForInStep.yield ok)else pure (ForInStep.yield r)) (TP X ay O Q) X.xe s
def jA:TT:=λ_ H Q=>Q true H
theorem fm{X:Cx}:JC X [] jA:=λ_ _ _ H _ I h=>wpAny_tests_nil ⟨H,I,h⟩
def ku(J:It)(g:TG)(tt:TT)(te:TE)(Q:VK)(D:Addr)(O:St)(H:Hp):Prop:=∃W:Nat->Nat->St->Hp->Prop,(∃m,W 0 m O H)/\∀i m σ' H',W i m σ' H'->(J.stop i H'/\Q (.ref D) H')\/(J.go i H'/\∀x H2,J.jf i H' x H2->g x σ' H2 λσ3 H3=>tt σ3 H3 λok H4=>if ok=true then te σ3 H4 λy H5=>∃ys,H5 D=some (.lst ys)/\ys.length<sizeLine/\∃m',m'<m/\W (i+1) m' σ3 (upd H5 D (.lst (ys++[y]))) else∃m',m'<m/\W (i+1) m' σ3 H4)
def KN(js:List (Option Nat))(wi:TI)(g:TG)(tt:TT)(te:TE):TE:=λO H Q=>wi O H λJ H1=>∀D H2,Nw H1 H2 D (.lst [])->ku J g tt te Q D (stC js O) H2
theorem fc.but{P:ai}{w:World}{H:Hp}{h h':Heap}{C:Addr}(ok:fc P w H h)(hn:H C=none)(hs:Heap.SameBut C h h'):fc P w H h':=λb ob e=>by
 refine(ok b ob e).nC (λc w' hc q=>(hs.2 c ?_).trans q) (λ_ q=>q) λ_ _ q=>q;rintro rfl;rcases hc with rfl|hc
 ·rw[hn]at e;cases e
 ·rw[hn]at hc;cases hc
set_option maxHeartbeats 1000000 in
theorem fS{X:Cx}{N:List Str}{js:List (Option Nat)}{elt tg iter:Expr}{ifs:List Expr}{scope:Scope}{pos:Pos}{wi:TI}{g:TG}{tt:TT}{te:TE}(hc:X.calm=true)(hN:zO X N js scope=true)(hS:sL X scope=true) (hi:PI X tg iter wi)(hg:∀cl s H fp ay,PG (cR X N scope cl s H fp ay) tg g)(ht:∀cl s H fp ay,JC (cR X N scope cl s H fp ay) ifs tt)(he:∀cl s H fp ay,PE (cR X N scope cl s H fp ay) elt te) (hs:∀x,foldedSetIterable iter X.env x=pure x:=by intro _;rfl):PE X (.ListComp elt [⟨tg,iter,ifs,0⟩] scope pos) (KN js wi g tt te):=by
 intro ay s O H Q I h;have mS:=hS;unfold sL at mS;rw[fG,fG]at mS;obtain⟨⟨k1,k2⟩,k3⟩:=mS;have ka:scope.kind= .function:=fN.mp k1;have rS:∀x∈scope.names,x.2= .free->∃c,X.env.cells.lookup x.1=some c:=λx hx e=>by have:=gW.mp k3 x hx;rw[e]at this;exact I.ok.has x.1 (.inl (fN.mp this))
 have nX:∀x∈scope.names,x.2≠ .cell:=λx hx e=>by have:=gW.mp k3 x hx;rw[e]at this;exact iX this
 have z9:∀x∈scope.names,x.2= .local->scope.names.lookup x.1=some .local:=λx hx e=>by have:=gW.mp k3 x hx;rw[e]at this;exact fN.mp this
 obtain⟨cl,zi,c1,c2⟩:=J6 rS;rw[eval_ListComp];refine TZ (use:=none) Z hs zi ka z9 (ba (hi ay s O H _ I h) λv s1 h1=>ba h1 λyS s2 h2=>?_);obtain⟨it,fp,tn,J,H2,e,I2,T,nG,f2,h2⟩:=h2;subst e;have hD:H2 s2.heap.objs.size=none:=I2.bD.fresh (bf _);obtain⟨W,⟨m0,w0⟩,turn⟩:=h2 _ _ (Nw.of hD);refine oE (TY nX (by intro y hy;simp at hy) (λh₁ rK rJ=>?_) ka);have mV:∀b∈fp,b<s2.heap.objs.size:=λb hb=>by obtain⟨o,e,_⟩:=T.obj _ _ nG b hb;exact cA e
 have I3:Inv X ay O (upd H2 s2.heap.objs.size (.lst [])) {s2 with heap:=s2.heap.push {cls:=.type "list",dict:=none,data:=.seq ([]:List Value).toArray}}:=I2.BJ (its:=[]) (t':=s2.toks) .nil (gH _);generalize sf:s2.heap.push {cls:=.type "list",dict:=none,data:=.seq ([]:List Value).toArray}=h3 at I3 rK rJ;have qI:h3.objs.size=s2.heap.objs.size+1:=by rw[<-sf,qD]
 have yR:∀b o,s2.heap.get? b=some o->h3.get? b=some o:=λb o e=>by rw[<-sf];exact cF _ e
 have f3:∀b∈fp,jw X ay (upd H2 s2.heap.objs.size (.lst [])) b:=λb hb=>⟨by rw[aV (eQ (mV b hb))];exact(f2 b hb).1,(f2 b hb).2⟩;have rF:∀b o,h3.get? b=some o->h₁.get? b=some o:=λb o e=>(rJ.2 b (eQ (cA e))).trans (cF _ e);have I4:Inv (cR X N scope cl {s2 with heap:=h3} (upd H2 s2.heap.objs.size (.lst [])) fp ay) [] (stC js O) (upd H2 s2.heap.objs.size (.lst [])) {s2 with heap:=h₁,toks:=s2.toks+([]:List (Str×Value)).length}:=I3.comp (s:={s2 with heap:=h3}) hN hS c1 c2 f3 (λb hb=>by show b<h3.objs.size;rw[qI];exact Ai (mV b hb)) (by simpa using rK) rF;have qJ:tn 0 h₁:=T.keep _ _ _ nG λb _ o e=>rF b o (yR b o e);have loop:codeAny (model X.prog X.w) X.A (.compLoop (.ListComp elt [⟨tg,iter,ifs,0⟩] scope pos) 0 (.ref it) (.ref s2.heap.objs.size) (compEnvC scope cl h3.objs.size X.env)) (compPost (model X.prog X.w) X.A X.xe none (EP X ay O Q) (.ref s2.heap.objs.size) h3.objs.size) {s2 with heap:=h₁,toks:=s2.toks+([]:List (Str×Value)).length}:=by
  refine Sn (λn s'=>∃i σ' H',Inv (cR X N scope cl {s2 with heap:=h3} (upd H2 s2.heap.objs.size (.lst [])) fp ay) [] σ' H' s'/\tn i s'.heap/\(∀b∈fp,H' b=none)/\W i n σ' H') ?_ m0 ⟨0,_,_,I4,qJ,λb hb=>(f3 b hb).1,w0⟩;rintro n s5 ⟨i,σ5,H5,I5,lG,o4,w5⟩;have jB:∀{H':Hp},(∀b∈fp,H' b=none)->∀b∈fp,jw (cR X N scope cl {s2 with heap:=h3} (upd H2 s2.heap.objs.size (.lst [])) fp ay) [] H' b:=λ{H'} hn b hb=>by
   obtain⟨_,q1,q2,q3,q4,q5⟩:=f3 b hb;refine⟨hn b hb,λz=>?_,I4.ok.pY b hb,.inl hb,λx c e=>q4 x c (c1 x c e),λp hp=>q5 p (by simpa[cR]using hp)⟩;have bP:b<h3.objs.size:=by rw[qI];exact Ai (mV b hb)
   exact eQ bP z
  rcases turn i n σ5 H5 w5 with⟨stop,qn⟩|⟨go,step⟩
  ·refine ba (T.done (cR X N scope cl {s2 with heap:=h3} (upd H2 s2.heap.objs.size (.lst [])) fp ay) rfl rfl rfl hc i [] s5 σ5 H5 _ I5 (jB o4) lG stop) λr s6 ⟨hr,I6⟩=>?_
   subst hr;obtain⟨m,hm,_⟩:=I6.loc;refine⟨m,hm,λh7 pI=>?_⟩;have u0:Un (gb X.stack) fp (upd H2 s2.heap.objs.size (.lst [])) H5 h3 s6.heap:=I6.aA;have ne:∀b o,h3.get? b=some o->b≠h3.objs.size:=λb o e=>eQ (cA e);have u:Un (gb X.stack) fp (upd H2 s2.heap.objs.size (.lst [])) H5 h3 h7:=⟨λb o e n hb hx=>(pI.2 b (ne b o e)).trans (u0.keep b o e n hb hx),λb o e n hb hx=>let⟨sl,q⟩:=u0.slot b o e n hb hx;⟨sl,(pI.2 b (ne b o e)).trans q⟩,u0.free,λb o e hx=>let⟨o',q⟩:=u0.there b o e hx;⟨o',(pI.2 b (ne b o e)).trans q⟩,u0.kA,u0.kg,u0.kB⟩;have I7:Inv X ay O H5 {s6 with heap:=h7}:=I3.zR (s':={s6 with heap:=h7}) (ch:=fp) I6.os u (I6.bD.but I6.free pI) I6.bare λb hb=>⟨(f3 b hb).2.2.2.1,(f3 b hb).2.1,(f3 b hb).2.2.2.2.1,(f3 b hb).2.2.2.2.2⟩;exact⟨.ref s2.heap.objs.size,H5,I7,Z,qn⟩
  ·refine ba (T.item (cR X N scope cl {s2 with heap:=h3} (upd H2 s2.heap.objs.size (.lst [])) fp ay) rfl rfl rfl hc i [] s5 σ5 H5 _ I5 (jB o4) lG go) λr s6 ⟨u,hr,h6⟩=>?_
   subst hr;refine ba h6 λ_ s7 ⟨x,H7,I7,r7,y7,kC,zt⟩=>?_;have A4:=I7.pinned (jB zt) (T.obj _ _ kC);refine ba (hg _ _ _ _ _ _ s7 σ5 H7 x u _ A4 r7 (step x H7 y7)) λ_ s8 ⟨σ8,H8,I8,q8⟩=>?_;refine ba (ht _ _ _ _ _ _ s8 σ8 H8 _ I8 q8) λok s9 ⟨H9,I9,q9⟩=>?_;have again:∀{s':ah}{σ7:St}{H7:Hp},Inv (cR X N scope cl {s2 with heap:=h3} (upd H2 s2.heap.objs.size (.lst [])) fp ay) ([]++p5 fp s7.heap) σ7 H7 s'->(∃m',m'<n/\W (i+1) m' σ7 H7)->∃m,m<n/\∃i σ' H',Inv (cR X N scope cl {s2 with heap:=h3} (upd H2 s2.heap.objs.size (.lst [])) fp ay) [] σ' H' s'/\tn i s'.heap/\(∀b∈fp,H' b=none)/\W i m σ' H':=λ{s' σ7 H7} J7 n7=>by obtain⟨m',hm,w7⟩:=n7;refine⟨m',hm,i+1,σ7,H7,J7.tm,T.keep _ _ _ kC λb hb o e=>(J7.pin (b,o) (gk _ (gk _ (nN hb e)))).1,λb hb=>?_,w7⟩;obtain⟨o,e,d⟩:=T.obj _ _ kC b hb;exact(J7.pin (b,o) (gk _ (gk _ (nN hb e)))).2.1
   cases ok with |false=>rw[bB iX]at q9⊢;exact again I9 q9 |true=>rw[bo rfl]at q9⊢;refine ba (he _ _ _ _ _ _ s9 σ8 H9 _ I9 q9) λyv jC ⟨y,iu,sS,Ga,ys,j6,hz,oP⟩=>?_;refine ba (BG _ jC σ8 iu (.ref s2.heap.objs.size) [y] (.ref s2.heap.objs.size) [yv] (λ_ ir=>∃m',m'<n/\W (i+1) m' σ8 ir) sS Z (.cons Ga .nil) ⟨_,ys,y,Z,Z,j6,hz,oP⟩) λ_ tL ⟨v11,ir,xn,XY,yf⟩=>?_;exact again xn yf
 exact U0 loop (T.self _ 0 _ _ _ qJ loop)
theorem J9:∀{bs:List Bool}{us:List Value},Vals (bs.map V.bl) us->us=bs.map Value.bool |[],_,.nil=>rfl |b::r,_,.cons q t=>by cases(show _=Value.bool b from q);rw[J9 t];rfl
section
variable {X:Cx}
theorem a81(hc:X.calm=true):fw X (.builtin "all") (λxs H Q=>∃(l:Addr)(bs:List Bool),xs=[.ref l]/\aK X.K H l (bs.map V.bl)/\Q (.bl (bs.all id)) H):=by
 intro ay s O H xs us Q I r h;obtain⟨l,bs,rfl,hl,q⟩:=h;obtain⟨u,rfl,ru⟩:=vals1 r;cases(show u=Value.ref l from ru);obtain⟨its,rv,pl,hz⟩:=I.list hl;have e:=J9 rv;subst e;have gE:=pl.isList;have bP:l<s.heap.objs.size:=by obtain⟨_,e,_⟩:=gE;exact cA e
 have hh:=I.ok.hd hc;refine call_all_walk (CQ gE ?_);refine⟨s.heap.objs.size,[s.heap.objs.size,l],[s.heap.objs.size],(bs.map Value.bool).toArray.size,_,_,λi=>(bs[i]?).getD true,Z,Walks.list (A:=X.A.in1) hh _ l (eQ bP) (bs.map Value.bool).toArray,⟨⟨_,fj _ Z,Z,Z⟩,gE.push _⟩,λi v s' Q' E' hP hQ=>?_,λh' tk hk=>?_⟩
 ·have mT:(bs.map Value.bool)[i]? =some v:=by simpa using hP
  rw[bX]at mT;cases e:bs[i]? with |none=>rw[e]at mT;cases mT |some b=>rw[e]at mT;cases mT;simp only[e,Option.getD_some]at hQ;exact qy hQ
 ·have e:((List.range (bs.map Value.bool).toArray.size).all λi=>(bs[i]?).getD true)=bs.all id:=by rw[dY,bL];exact LSm.range_all bs
  rw[e];exact⟨.bl _,H,I.kept (LSm.kept_iter hk),Z,q⟩
theorem a80(hc:X.calm=true):fw X (.builtin "any") (λxs H Q=>∃(l:Addr)(bs:List Bool),xs=[.ref l]/\aK X.K H l (bs.map V.bl)/\Q (.bl (bs.any id)) H):=by
 intro ay s O H xs us Q I r h;obtain⟨l,bs,rfl,hl,q⟩:=h;obtain⟨u,rfl,ru⟩:=vals1 r;cases(show u=Value.ref l from ru);obtain⟨its,rv,pl,hz⟩:=I.list hl;have e:=J9 rv;subst e;have gE:=pl.isList;have bP:l<s.heap.objs.size:=by obtain⟨_,e,_⟩:=gE;exact cA e
 have hh:=I.ok.hd hc;refine call_any_walk (CQ gE ?_);refine⟨s.heap.objs.size,[s.heap.objs.size,l],[s.heap.objs.size],(bs.map Value.bool).toArray.size,_,_,λi=>(bs[i]?).getD false,Z,Walks.list (A:=X.A.in1) hh _ l (eQ bP) (bs.map Value.bool).toArray,⟨⟨_,fj _ Z,Z,Z⟩,gE.push _⟩,λi v s' Q' E' hP hQ=>?_,λh' tk hk=>?_⟩
 ·have mT:(bs.map Value.bool)[i]? =some v:=by simpa using hP
  rw[bX]at mT;cases e:bs[i]? with |none=>rw[e]at mT;cases mT |some b=>rw[e]at mT;cases mT;simp only[e,Option.getD_some]at hQ;exact qy hQ
 ·have e:((List.range (bs.map Value.bool).toArray.size).any λi=>(bs[i]?).getD false)=bs.any id:=by rw[dY,bL];exact LSm.range_any bs
  rw[e];exact⟨.bl _,H,I.kept (LSm.kept_iter hk),Z,q⟩
end
theorem uY{J:It}{g:TG}{tt:TT}{te:TE}{Q:VK}{D:Addr}{O:St}{H:Hp}(n:Nat)(Pv:Nat->St->Hp->Prop)(h0:Pv 0 O H) (hs:∀i O H,i<n->Pv i O H->J.go i H/\∀x H2,J.jf i H x H2->g x O H2 λσ3 H3=>tt σ3 H3 λok H4=>if ok=true then te σ3 H4 λy H5=>∃ys,H5 D=some (.lst ys)/\ys.length<sizeLine/\∃m',m'<n-i/\m'=n-(i+1)/\i+1<=n/\Pv (i+1) σ3 (upd H5 D (.lst (ys++[y]))) else∃m',m'<n-i/\m'=n-(i+1)/\i+1<=n/\Pv (i+1) σ3 H4) (hd:∀O H,Pv n O H->J.stop n H/\Q (.ref D) H): ku J g tt te Q D O H:=by
 refine⟨λi m O H=>m=n-i/\i<=n/\Pv i O H,⟨n,by simp,gH _,h0⟩,?_⟩;rintro i m O H ⟨rfl,hi,p⟩;by_cases bP:i<n
 ·exact .inr (hs i O H bP p)
 ·have e:i=n:=by lia
  subst e;exact .inl (hd O H p)
section
variable {X:Cx} {tg:Expr}
theorem ixK(K:ag)(h:X.K=K):qv X (λx y H Q=>G6 K x y H Q\/G4 K x y H Q):=by subst h;exact a2t.or a2r
inductive aag(K:ag)(x:V)(lo:Option Int)(hi:Option Int)(H:Hp)(Q:VK):Prop |mk (a:_)(xs:_)(h0:x= .ref a)(h1:((aK K H a xs/\∀p H',Nw H H' p (.lst (kU xs lo hi))->Q (.ref p) H')\/ (aU K H a xs/\¬(HT.bZ xs.length 0 lo=0/\HT.bZ xs.length xs.length hi=xs.length)/\∀p H',Nw H H' p (.tup (kU xs lo hi))->Q (.ref p) H')))
def XO(K:ag):V->Option Int->Option Int->Hp->VK->Prop:=λx lo hi H Q=>aag K x lo hi H Q
theorem vG(K:ag)(h:X.K=K):CJ X (XO K):=by
 subst h;intro ay s O H x v vl vu lo hi sl Q I rx hs pl pu hq;obtain⟨a,xs,e,hq⟩:=hq;rcases hq with⟨h1,k⟩|⟨h1,h2,k⟩
 ·exact Wm ay s O H x v vl vu lo hi sl Q I rx hs pl pu ⟨a,xs,e,h1,λp hp=>k p _ (.of hp)⟩
 ·exact Wj ay s O H x v vl vu lo hi sl Q I rx hs pl pu ⟨a,xs,e,h1,h2,λp hp=>k p _ (.of hp)⟩
theorem a2a(K:ag)(h:X.K=K):fw X (.builtin "len") (λxs H Q=>∃p ys,xs=[.ref p]/\(aK K H p ys\/aU K H p ys)/\Q (.int ys.length) H):=by subst h;exact a7X
theorem a2y(K:ag)(h:X.K=K):fw X (.builtin "isinstance") (λxs H Q=>G8 K xs H Q\/G7 K xs H Q):=by subst h;exact a7Z.or a7Y
theorem cI(K:ag)(h:X.K=K)(hu:X.A.units+64<cLine):dg X (compareOp .Eq) (λx y H Q=>jV (λi j=>.bl (decide (i=j))) x y H Q\/G9 K x y H Q):=by subst h;exact YL hu
theorem gO(K:ag)(h:X.K=K)(hu:X.A.units+64<cLine):dg X (compareOp .NotEq) (λx y H Q=>jV (λi j=>.bl (!decide (i=j))) x y H Q\/G3 K x y H Q):=by subst h;exact YF hu
theorem qm(K:ag)(h:X.K=K)(hc:X.calm=true):fw X (.builtin "all") (λxs H Q=>∃(l:Addr)(bs:List Bool),xs=[.ref l]/\aK K H l (bs.map V.bl)/\Q (.bl (bs.all id)) H):=by subst h;exact a81 hc
theorem Td(K:ag)(h:X.K=K)(hc:X.calm=true):fw X (.builtin "any") (λxs H Q=>∃(l:Addr)(bs:List Bool),xs=[.ref l]/\aK K H l (bs.map V.bl)/\Q (.bl (bs.any id)) H):=by subst h;exact a80 hc
theorem BK(K:ag)(h:X.K=K):fw X (.type "list") (λxs H Q=>∃p ys,xs=[.ref p]/\(aK K H p ys\/aU K H p ys)/\∀l H',Nw H H' l (.lst ys)->Q (.ref l) H'):=by subst h;intro ay s O H xs us Q I r hq;obtain⟨p,ys,e,h1,k⟩:=hq;exact a7V ay s O H xs us Q I r ⟨p,ys,e,h1,λl hl=>k l _ (.of hl)⟩
theorem me(K:ag)(h:X.K=K):fw X (.type "tuple") (λxs H Q=>∃p ys,xs=[.ref p]/\((aK K H p ys/\∀l H',Nw H H' l (.tup ys)->Q (.ref l) H')\/(aU K H p ys/\Q (.ref p) H))):=by subst h;intro ay s O H xs us Q I r hq;obtain⟨p,ys,e,h1⟩:=hq;exact a7Q ay s O H xs us Q I r ⟨p,ys,e,h1.imp (λ⟨a,k⟩=>⟨a,λl hl=>k l _ (.of hl)⟩) id⟩
def Vq(t:TA):TE:=λO H Q=>t O H λxs H1=>xs.length<=sizeLine/\∀p H',Nw H1 H' p (.tup xs)->Q (.ref p) H'
def VF(t:TA):TE:=λO H Q=>t O H λxs H1=>xs.length<=sizeLine/\∀p H',Nw H1 H' p (.lst xs)->Q (.ref p) H'
theorem df{es:List Expr}{t:TA}{pos:Pos} {x1}(h:PA X es t):PE X (.Tuple es x1 pos) (Vq t):=by intro ay s O H Q I hq;refine wpAny_Tuple_spliced (ba (h pos ay s O H _ I hq) λus s1 ⟨xs,H1,I1,r,z,q⟩=>⟨by rw[<-r.length];exact z,?_⟩);have hf:H1 s1.heap.objs.size=none:=I1.bD.fresh (bf _);refine⟨.ref s1.heap.objs.size,upd H1 s1.heap.objs.size (.tup xs),I1.laid (t':=s1.toks) (λb u e=>cF _ e) (bf _) ?_,Z,q _ _ (.of hf)⟩;exact⟨z,us,r,⟨_,fj _ Z,Z,_,Z⟩⟩
theorem dj{es:List Expr}{t:TA}{pos:Pos}(h:PA X es t):PE X (.List es pos) (VF t):=by intro ay s O H Q I hq;refine wpAny_List_spliced (ba (h pos ay s O H _ I hq) λus s1 ⟨xs,H1,I1,r,z,q⟩=>⟨by rw[<-r.length];exact z,?_⟩);have hf:H1 s1.heap.objs.size=none:=I1.bD.fresh (bf _);refine⟨.ref s1.heap.objs.size,upd H1 s1.heap.objs.size (.lst xs),I1.laid (t':=s1.toks) (λb u e=>cF _ e) (bf _) ?_,Z,q _ _ (.of hf)⟩;exact⟨z,us,0,r,fj _ Z⟩
theorem p8(K:ag)(h:X.K=K){l:Expr}{tl:TE}(hl:PE X l tl):PI X tg l (Q6 K tl):=by subst h;exact Yf hl
theorem mC(K:ag)(h:X.K=K){l:Expr}{tl:TE}(hl:PE X l tl):PI X tg l (Q5 K tl):=by subst h;exact Yc hl
theorem cW(K:ag)(h:X.K=K){es:List Expr}{k:Nat}{t:oq}{n:Nat}{pos:Pos}(hc:X.calm=true)(hg:zZ X es t)(hn:(assignEach es X.env).length=n:=by rfl)(ib:(assignEach es X.env).findIdx? (·.1)=none:=by rfl): PG X (.Tuple es k pos) (zq K n t):=by subst h;exact Yg hc hg hn ib
theorem iP(K:ag)(h:X.K=K){o e:Expr}{to:TE}{t:TA}{apos dW:Pos}(ho:PE X o to)(ha:PA X [e] t) (pU:attributeBase o "append" X.env (eval o X.env)=eval o X.env:=by rfl) (pP:((backTo dW (starEach [e] X.env)).all (λx=>!x.1)&&(backToKw dW (keywordEach [] X.env)).all (λx=>x.1.isSome) &&decide ([e].length+([]:List Keyword).length+(if([]:List Keyword).isEmpty then 0 else 1)<30))=true:=by rfl) (pL:(apos.endLine==dW.line)=true:=by rfl)(hs:starEach [e] X.env=(false,eval e X.env)::starEach [] X.env:=by rfl)(pK:(backTo dW (starEach [] X.env)).any (·.1)=false:=by rfl): PE X (.Call (.Attribute o "append" apos) [e] [] dW) (xR K "list" O7 to t):=by subst h;exact Br Uc PySem.F.slot_list_append PySem.F.type_list_append BG ho ha pU pP pL hs pK
theorem AF{j:Nat}{x:V}{O:St}{H:Hp}{A B:St->Hp->Prop}(h:A (O.set j (some x)) H):g9 j x O H λσ3 H3=>jA σ3 H3 λok H4=>if ok=true then A σ3 H4 else B σ3 H4:=by show if true=true then A (O.set j (some x)) H else B (O.set j (some x)) H;rw[bo rfl];exact h
theorem yes{O:St}{H:Hp}{Q:Bool->Hp->Prop}(h:Q true H):jA O H Q:=h
end
theorem aK.go{K:ag}{H H':Hp}{a:Addr}{xs:List V}(s:aH H H')(h:aK K H a xs):aK K H' a xs:=h.imp (λr=>r.imp (s _ _) λ⟨o,e⟩=>⟨o,s _ _ e⟩) id
theorem aU.go{K:ag}{H H':Hp}{a:Addr}{xs:List V}(s:aH H H')(h:aU K H a xs):aU K H' a xs:=h.imp (λr=>r.imp (s _ _) λ⟨o,e⟩=>⟨o,s _ _ e⟩) id
mutual
theorem RD.mono{K:ag}{H H':Hp}(s:aH H H'):∀{x:V}(d:aj),RD K H x d->RD K H' x d |x,.none,h=>by simpa[RD]using h |x,.bool b,h=>by simpa[RD]using h |x,.int i,h=>by simpa[RD]using h |x,.str y,h=>by simpa[RD]using h |x,.list ds,h=>by rw[RD]at h⊢;obtain⟨a,xs,e,h1,h2⟩:=h;exact⟨a,xs,e,h1.go s,aJ.mono s ds h2⟩ |x,.tuple ds,h=>by rw[RD]at h⊢;obtain⟨a,xs,e,h1,h2⟩:=h;exact⟨a,xs,e,h1.go s,aJ.mono s ds h2⟩ |x,.dict _,h=>by simp[RD]at h
theorem aJ.mono {K:ag}{H H':Hp}(s:aH H H'):∀{xs:List V}(ds:List aj),aJ K H xs ds->aJ K H' xs ds |xs,[],h=>by simpa[aJ]using h |xs,d::ds,h=>by rw[aJ]at h⊢;obtain⟨y,ys,e,h1,h2⟩:=h;exact⟨y,ys,e,RD.mono s d h1,aJ.mono s ds h2⟩
end
section
variable {K:ag} {H H':Hp}
theorem aJ.nil_inv{xs:List V}(h:aJ K H xs []):xs=[]:=by simpa[aJ]using h
theorem aJ.cons_inv{xs:List V}{d:aj}{ds:List aj}(h:aJ K H xs (d::ds)):∃y ys,xs=y::ys/\RD K H y d/\aJ K H ys ds:=by rw[aJ]at h;exact h
theorem RD.cB{x:V}{ds:List aj}(h:RD K H x (.tuple ds)):∃a xs,x= .ref a/\aU K H a xs/\aJ K H xs ds:=by rw[RD]at h;exact h
theorem RD.lst_inv{x:V}{ds:List aj}(h:RD K H x (.list ds)):∃a xs,x= .ref a/\aK K H a xs/\aJ K H xs ds:=by rw[RD]at h;exact h
theorem RD.int_inv{x:V}{i:Int}(h:RD K H x (.int i)):x= .int i:=by rw[RD]at h;exact h
theorem RD.a87{x:V}{i:Bool}(h:RD K H x (.bool i)):x= .bl i:=by rw[RD]at h;exact h
theorem RD.str_inv{x:V}{i:Str}(h:RD K H x (.str i)):x= .str i:=by rw[RD]at h;exact h
theorem RD.Gr{x:V}(h:RD K H x .none):x= .bN:=by rw[RD]at h;exact h
theorem aJ.length:∀{xs:List V}{ds:List aj},aJ K H xs ds->xs.length=ds.length |xs,[],h=>by rw[h.nil_inv];rfl |xs,d::ds,h=>by obtain⟨y,ys,rfl,_,h2⟩:=h.cons_inv;rw[jQ,jQ,aJ.length h2]
theorem aJ.append:∀{xs ys:List V}{ds es:List aj},aJ K H xs ds->aJ K H ys es->aJ K H (xs++ys) (ds++es) |xs,ys,[],es,h,g=>by rw[h.nil_inv];exact g |xs,ys,d::ds,es,h,g=>by obtain⟨y,zs,rfl,h1,h2⟩:=h.cons_inv;exact cf h1 (aJ.append h2 g)
theorem aJ.get:∀(n:Nat){xs:List V}{ds:List aj}{d:aj},aJ K H xs ds->ds[n]? =some d->∃x,xs[n]? =some x/\RD K H x d
 |n,xs,[],d,h,e=>by simp at e |0,xs,d'::ds,d,h,e=>by
  obtain⟨y,zs,rfl,h1,h2⟩:=h.cons_inv;have e':d'=d:=by simpa using e
  subst e';exact⟨y,Z,h1⟩ |n+1,xs,d'::ds,d,h,e=>by obtain⟨y,zs,rfl,h1,h2⟩:=h.cons_inv;exact aJ.get n h2 (by simpa using e)
theorem aJ.get'(n:Nat){xs:List V}{ds:List aj}{x:V}(h:aJ K H xs ds)(e:xs[n]? =some x):∃d,ds[n]? =some d/\RD K H x d:=by
 have hl:n<ds.length:=by rw[<-h.length];exact(cv.mp e).1
 obtain⟨y,e1,r⟩:=h.get n (bu hl);rw[e]at e1;cases e1;exact⟨_,bu hl,r⟩
def jS:aj->String | .none=>"NoneType" | .bool _=>"bool" | .int _=>"int" | .str _=>"str" | .list _=>"list" | .tuple _=>"tuple" | .dict _=>"dict"
theorem RD.ty{x:V}:∀{d:aj},RD K H x d->vf K H x (jS d) | .none,h=>by rw[h.Gr];rfl | .bool b,h=>by rw[h.a87];rfl | .int b,h=>by rw[h.int_inv];rfl | .str b,h=>by rw[h.str_inv];rfl | .list ds,h=>by obtain⟨a,xs,rfl,h1,_⟩:=h.lst_inv;exact .inl ⟨Z,xs,h1⟩ | .tuple ds,h=>by obtain⟨a,xs,rfl,h1,_⟩:=h.cB;exact .inr ⟨Z,xs,h1⟩ | .dict _,h=>by simp[RD]at h
structure dM(n:Nat)(d:aj):Prop where
 lay:d.canLay0=true
 dep:d.depth<=n
def gf(n:Nat)(ds:List aj):Prop:=∀d∈ds,dM n d
theorem dM.le{n m:Nat}{d:aj}(h:dM n d)(l:n<=m):dM m d:=⟨h.lay,gU h.dep l⟩
theorem wc{n:Nat}:∀{ds:List aj},gf n ds↔(PyData.canLayAll0 ds=true/\PyData.depthAll ds<=n)
 |[]=>⟨λ_=>⟨Z,gH _⟩,λ_ _ h=>nomatch h⟩ |d::ds=>by
  have ih:=wc (n:=n) (ds:=ds);simp only[PyData.canLayAll0,PyData.depthAll,fG];constructor
  ·intro h
   have h1:=h d (.head _);have h2:=ih.mp λx hx=>h x (.tail _ hx);exact⟨⟨h1.lay,h2.1⟩,Nat.max_le.mpr ⟨h1.dep,h2.2⟩⟩
  ·rintro⟨⟨a,b⟩,c⟩ x hx
   have c':=Nat.max_le.mp c;rcases dh.mp hx with rfl|hx
   ·exact⟨a,c'.1⟩
   ·exact ih.mpr ⟨b,c'.2⟩ x hx
theorem gf.tup{n:Nat}{ds:List aj}(h:gf n ds):dM (n+1) (.tuple ds):=⟨by simpa[PyData.canLay0]using(wc.mp h).1,by simpa[PyData.depth]using(wc.mp h).2⟩
theorem gf.lst{n:Nat}{ds:List aj}(h:gf n ds):dM (n+1) (.list ds):=⟨by simpa[PyData.canLay0]using(wc.mp h).1,by simpa[PyData.depth]using(wc.mp h).2⟩
theorem dM.cB{n:Nat}{ds:List aj}(h:dM (n+1) (.tuple ds)):gf n ds:=wc.mpr ⟨by simpa[PyData.canLay0]using h.lay,by simpa[PyData.depth]using h.dep⟩
theorem dM.int{n:Nat}(i:Int):dM n (.int i):=⟨Z,gH _⟩
theorem gf.nil{n:Nat}:gf n []:=λ_ h=>nomatch h
theorem gf.cons{n:Nat}{d:aj}{ds:List aj}(h:dM n d)(g:gf n ds):gf n (d::ds):=λx hx=>by
 rcases dh.mp hx with rfl|hx
 ·exact h
 ·exact g x hx
theorem dM.shaped{n:Nat}{d:aj}(h:dM n d)(l:n<=64):SeqAt.shaped d=true:=by unfold SeqAt.shaped;rw[h.lay,kz];exact cm (gU h.dep l)
theorem dM.refl{n:Nat}{d:aj}(h:dM n d):PyData.eqv d d=true:=eqv_refl d h.lay
variable {p:Addr}{n m:Nat}{v:V}{vs:List V}{d:aj}{ds es:List aj}
end
section
variable {X:Cx}
end
end L2
namespace HT
open PySem PySem.Spec PyProof.Rows
section
variable {prog:ai}{w:World}{A:ak}{E:Value->ah->Prop}{s:ah}
end
end HT
namespace L2
open PySem PySem.Spec PyProof.Rows
section
variable {X:Cx}
end
def fr(H H':Hp):Hp:=λb=>match H b with|none=>H' b|some _=>none
theorem pW{H H':Hp}{b:Addr}{o:HO}:fr H H' b=some o↔H b=none/\H' b=some o:=by unfold fr;cases H b<;>simp
theorem a5k{H H':Hp}:aH (fr H H') H':=λb o e=>(pW.mp e).2
theorem HV{H H1 H2:Hp}(s:aH H1 H2):aH (fr H H1) (fr H H2):=λb o e=>pW.mpr ⟨(pW.mp e).1,s _ _ (pW.mp e).2⟩
theorem a5l{H H1 H2:Hp}(s:aH H H1):aH (fr H1 H2) (fr H H2):=λb o e=>pW.mpr ⟨s.free (pW.mp e).1,(pW.mp e).2⟩
def AQ(K:ag)(d:aj):TE:=λ_ H Q=>∀v H',aH H H'->RD K (fr H H') v d->Q v H'
def VG(K:ag)(ds:List aj):TA:=λ_ H Q=>∀vs H',aH H H'->aJ K (fr H H') vs ds->Q vs H'
def yQ(f:Expr->Option aj):List Expr->Option (List aj) |[]=>some [] |e::es=>match f e,yQ f es with |some d,some ds=>some (d::ds) |_,_=>none
def lit:Nat->Expr->Option aj
 |0,_=>none |_+1,.Constant .none _ _=>some .none |_+1,.Constant (.bool b) _ _=>some (.bool b) |_+1,.Constant (.int i) _ _=>some (.int i) |_+1,.Constant (.str x) _ _=>some (.str x) |n+1,.Tuple es _ _=>match yQ (lit n) es with |some ds=>if ds.length<=1000 then some (.tuple ds)else none |none=>none
 |n+1,.List es _=>match yQ (lit n) es with |some ds=>if ds.length<=1000 then some (.list ds)else none |none=>none
 |n+1,.UnaryOp .USub a _=>match lit n a with |some (.int i)=>some (.int (-i)) |_=>none
 |n+1,.BinOp a .Pow b _=>match lit n a,lit n b with |some (.int i),some (.int j)=>if 0<=j/\j<=1000000/\i.natAbs<2^64 then some (.int (i^j.toNat))else none |_,_=>none
 |_,_=>none
section
variable {X:Cx}
theorem Wa{e:Expr}{es:List Expr}{env:Env}(h:∀a b,e≠ .Starred a b):starEach (e::es) env=(false,eval e env)::starEach es env:=by cases e<;>first|rfl|exact absurd rfl (h _ _)
theorem a28{n:Nat}{e:Expr}{d:aj}(h:lit n e=some d):∀a b,e≠ .Starred a b:=by intro a b z;subst z;cases n<;>simp[lit]at h
theorem Of(K:ag)(f:Expr->Option aj)(hp:∀e d,f e=some d->∀a b,e≠ .Starred a b)(hf:∀e d,f e=some d->PE X e (AQ K d)):∀(es:List Expr)(ds:List aj),yQ f es=some ds->PA X es (VG K ds)
 |[],ds,h=>by cases h;intro pos ay s O H Q I hq;exact az pos ay s O H Q I (hq [] H (aH.refl H) cH) |e::es,ds,h=>by
  rw[yQ]at h;split at h
  ·rename_i d IV e1 e2
   cases h;intro pos ay s O H Q I hq;refine au (hf e d e1) (Of K f hp hf es IV e2) (Wa (hp e d e1)) pos ay s O H Q I ?_;intro v H1 s1 r1 vs H2 s2 r2;exact hq (v::vs) H2 (s1.trans s2) (cf (RD.mono (HV s2) _ r1) (aJ.mono (a5l s1) _ r2))
  ·cases h
theorem yi(K:ag)(hK:X.K=K):∀(n:Nat)(e:Expr)(d:aj),lit n e=some d->PE X e (AQ K d)
 |0,e,d,h=>by simp[lit]at h |n+1,e,d,h=>by
  have hA:=Of (X:=X) K (lit n) (λe d h=>a28 h) (λe d h=>yi K hK n e d h);unfold lit at h;split at h
  case h_1=>cases‹Nat.succ n=0›
  case h_2=>cases h;intro ay s O H Q I hq;exact fo ay s O H Q I (hq .bN H (aH.refl H) FX)
  case h_3=>cases h;intro ay s O H Q I hq;exact iO ay s O H Q I (hq (.bl _) H (aH.refl H) (oY _))
  case h_4=>cases h;intro ay s O H Q I hq;exact aD ay s O H Q I (hq (.int _) H (aH.refl H) (dN _))
  case h_5=>cases h;intro ay s O H Q I hq;exact fg ay s O H Q I (hq (.str _) H (aH.refl H) (cT _))
  case h_6=>
   rename_i m es _ _ hm;cases hm;split at h
   ·rename_i ds e1
    by_cases hl:ds.length<=1000
    ·rw[bo hl]at h
     cases h;intro ay s O H Q I hq;refine df (hA es ds e1) ay s O H Q I ?_;intro vs H1 s1 r1;refine⟨by rw[r1.length];exact gU hl aB,λp H' nw=>?_⟩;refine hq _ _ (s1.trans nw.same) (fA (aU.of (pW.mpr ⟨s1.free nw.no,nw.at'⟩)) (aJ.mono (HV nw.same) _ r1))
    ·rw[bB hl]at h;cases h
   ·cases h
  case h_7=>
   rename_i m es _ hm;cases hm;split at h
   ·rename_i ds e1
    by_cases hl:ds.length<=1000
    ·rw[bo hl]at h
     cases h;intro ay s O H Q I hq;refine dj (hA es ds e1) ay s O H Q I ?_;intro vs H1 s1 r1;refine⟨by rw[r1.length];exact gU hl aB,λp H' nw=>?_⟩;refine hq _ _ (s1.trans nw.same) (vO (aK.of (pW.mpr ⟨s1.free nw.no,nw.at'⟩)) (aJ.mono (HV nw.same) _ r1))
    ·rw[bB hl]at h;cases h
   ·cases h
  case h_8=>
   rename_i m a _ hm;cases hm;split at h
   ·rename_i i e1
    cases h;intro ay s O H Q I hq;refine mD md (yi K hK n a _ e1) ay s O H Q I ?_;intro v H1 s1 r1;exact⟨i,r1.int_inv,hq _ _ s1 (dN _)⟩
   ·cases h
  case h_9=>
   rename_i m a b _ hm;cases hm;split at h
   ·rename_i i j e1 e2
    by_cases hc:0<=j/\j<=1000000/\i.natAbs<2^64
    ·rw[bo hc]at h
     cases h;intro ay s O H Q I hq;refine aO tQ (yi K hK n a _ e1) (yi K hK n b _ e2) ay s O H Q I ?_;intro v H1 s1 r1 v2 H2 s2 r2;exact⟨i,j,r1.int_inv,r2.int_inv,hc,hq _ _ (s1.trans s2) (dN _)⟩
    ·rw[bB hc]at h;cases h
   ·cases h
  case h_10=>cases h
end
end L2
namespace L2
theorem cL{α:Type}{xs:List α}{i:Int}{v:α}(h0:0<=i)(h:xs[i.toNat]? =some v):ft xs i=some v:=by have hl:i.toNat<xs.length:=(cv.mp h).1;unfold ft j4;rw[bo h0,bo aw];exact h
end L2
namespace L2
open PySem PySem.Spec PyProof.Rows
theorem xZ(n:Nat)(h:n<=1000):n<=sizeLine:=gU h aB
structure Tx(X:Cx)(e:Expr)(t:TE):Prop where out:PE X e t
theorem Yn{X:Cx}(K:ag)(hK:X.K=K)(n:Nat)(e:Expr)(d:aj)(h:lit n e=some d):Tx X e (AQ K d):=⟨yi K hK n e d h⟩
section
variable {X:Cx}{p pos pos':Pos}{a b e:Expr}{es:List Expr}{ta tb te:TE}{t:TA}{x:Str}
theorem px(K:ag)(ha:PE X a ta)(hb:PE X b tb)(hK:X.K=K:=by rfl)(hp:Tu b:=by exact λ_ _=>rfl):PE X (.Subscript a b pos) (xQ (λx y H Q=>G6 K x y H Q\/G4 K x y H Q) ta tb):=Oc (ixK K hK) ha hb hp
theorem cP(K:ag)(B:bE X.mg)(ha:PA X (e::es) t)(hK:X.K=K:=by rfl)(hg:Gl X "isinstance":=by rfl)(he:starEach (e::es) X.env=(false,eval e X.env)::starEach es X.env:=by rfl)(gC:(backTo pos (starEach es X.env)).any (·.1)=false:=by rfl):PE X (.Call (.Name "isinstance" p) (e::es) [] pos) (AR (λxs H Q=>G8 K xs H Q\/G7 K xs H Q) t):=eD (a2y K hK) hg (B.at "isinstance") PyProof.Rows.boot_isinstance ha aB aB he gC
theorem dk(K:ag)(B:bE X.mg)(ha:PA X (e::es) t)(hK:X.K=K:=by rfl)(hg:Gl X "len":=by rfl)(he:starEach (e::es) X.env=(false,eval e X.env)::starEach es X.env:=by rfl)(gC:(backTo pos (starEach es X.env)).any (·.1)=false:=by rfl):PE X (.Call (.Name "len" p) (e::es) [] pos) (AR (λxs H Q=>∃p ys,xs=[.ref p]/\(aK K H p ys\/aU K H p ys)/\Q (.int ys.length) H) t):=eD (a2a K hK) hg (B.at "len") PySem.boot_len ha aB aB he gC
theorem pS(i:Nat)(hN:X.N.Nodup)(he:PE X e te)(hi:X.N[i]? =some x:=by rfl)(hx:Loc X.env.scope x:=by first|exact Or.inl rfl|exact Or.inr rfl)(hs:swapsWith e (some (.Name x pos')) pos.line X.env=pure false:=by rfl)(hf:X.fn x=true\/X.env.scope.names.lookup x=some .local:=by first|exact .inl rfl|exact .inr rfl|assumption):PS X (.Assign [.Name x pos'] e pos) (AU te (g9 i)):=Y7 hN hi hx he hs hf
theorem aY(i:Nat)(hN:X.N.Nodup)(hi:X.N[i]? =some x:=by rfl)(hx:Loc X.env.scope x:=by first|exact Or.inl rfl|exact Or.inr rfl)(hf:X.fn x=true\/X.env.scope.names.lookup x=some .local:=by first|exact .inl rfl|exact .inr rfl|assumption):PG X (.Name x pos) (g9 i):=Yh hN hi hx hf
theorem rj (a:Str):[a].Nodup:=by simp
theorem fY{a b:Str}(h:(a==b)=false):[a,b].Nodup:=by
 have:a≠b:=λz=>by rw[z,JO]at h;cases h
 simp[this]
theorem bR{n:Nat}(h:Nat.ble n 1000=true):n<=sizeLine:=xZ n (Nat.le_of_ble_eq_true h)
end
def GV(mg:bV)(x:Str)(v:V):Prop:=∃u,mg x=some u/\RelV v u
def GT(K:ag)(mg:bV)(x:Str)(vs:List V):Prop:=∃a,GV mg x (.ref a)/\∀H,aU K H a vs
theorem fC{X:Cx}{x:Str}{v:V}{pos:Pos}(hg:Gl X x)(h:GV X.mg x v)(hd:(x==("__debug__":Str))=false:=by decide):PE X (.Name x pos) (tC v):=by obtain⟨u,hm,r⟩:=h;exact Yo hg hm r hd
section
variable {K:ag} {mg:bV} {h:Heap}
theorem mU{x:Str}{i:Int}{t:Tok}(X:K.In h)(G:h.Ns mainGlobals mg)(a:PySem.W.nsIn K mainGlobals x=some (some (.int i t))):GV mg x (.int i):=⟨_,Af X G a,t,Z⟩
theorem QI{x:Str}{vs:List V}{b:Addr}{its:Array Value}{n:Nat}{od:Option Addr}{hJ:Array (Option Value)}(X:K.In h)(G:h.Ns mainGlobals mg)(a:PySem.W.nsIn K mainGlobals x=some (some (.ref b))) (l:K.lookup b=some ⟨.type "tuple",od,.seq its n,hJ⟩)(hz:its.size<=sizeLine)(r:Vals vs its.toList):GT K mg x vs:=⟨b,⟨_,Af X G a,Z⟩,λH=>.inr ⟨_,its,n,l,Z,Z,hz,r⟩⟩
end
section
variable {X:Cx}
end
theorem Sm{J:It}{xs:List V}{bs:List Bool}{te:TE}{Q:VK}{D:Addr}{H H0:Hp}(rest:St)(nw:Nw H H0 D (.lst []))(hl:xs.length=bs.length)(hz:xs.length<=1000) (go:∀i x H2,xs[i]? =some x->aH H H2->J.go i H2/\∀y H3,J.jf i H2 y H3->H3=H2/\y=x)(stop:∀H2,aH H H2->J.stop xs.length H2) (hs:∀(i:Nat)(x:V)(b:Bool)(H2:Hp)(Q':VK),xs[i]? =some x->bs[i]? =some b->aH H H2->(∀H3,aH H2 H3->Q' (.bl b) H3)->te (some x::rest) H2 Q') (hq:∀H',aH H H'->H' D=some (.lst (bs.map V.bl))->Q (.ref D) H'):ku J (g9 0) jA te Q D (none::rest) H0:=by
 have hD:=nw.no;refine uY xs.length (λi O H2=>aH H H2/\H2 D=some (.lst ((bs.take i).map V.bl))/\∃v,O=v::rest) ?_ ?_ ?_
 ·exact⟨nw.same,nw.at',none,Z⟩
 ·rintro i O H2 hi ⟨s2,d2,v,rfl⟩
  have C7:i<bs.length:=by rw[<-hl];exact hi
  have ex:=bu hi;have eb:=bu C7;obtain⟨g1,g2⟩:=go i _ H2 ex s2;refine⟨g1,λy H3 hy=>?_⟩;obtain⟨rfl,rfl⟩:=g2 y H3 hy;refine AF ?_;refine hs i _ _ _ _ ex eb s2 λH4 s4=>?_;refine⟨_,s4 _ _ d2,?_,xs.length-(i+1),aw,Z,aw,λb o e=>?_,?_,_,Z⟩
  ·rw[bL,je]
   have:(1000:Nat)<sizeLine:=by decide
   lia
  ·rw[aV (dU e hD)];exact s4 b o (s2 b o e)
  ·rw[bQ,kx,eb,jd];rfl
 ·rintro O H2 ⟨s2,d2,v,rfl⟩
  refine⟨stop H2 s2,hq H2 s2 ?_⟩;rw[d2,hl,xD]
theorem Cz{K:ag}{a:Addr}{xs:List V}{bs:List Bool}{te:TE}{Q:VK}{D:Addr}{H H0:Hp}(rest:St)(hx:aU K H a xs)(nw:Nw H H0 D (.lst []))(hl:xs.length=bs.length)(hz:xs.length<=1000) (hs:∀(i:Nat)(x:V)(b:Bool)(H2:Hp)(Q':VK),xs[i]? =some x->bs[i]? =some b->aH H H2->(∀H3,aH H2 H3->Q' (.bl b) H3)->te (some x::rest) H2 Q') (hq:∀H',aH H H'->H' D=some (.lst (bs.map V.bl))->Q (.ref D) H'):ku (sQ K a) (g9 0) jA te Q D (none::rest) H0:=Sm rest nw hl hz (λi x H2 e s=>⟨⟨xs,x,hx.go s,e⟩,λy H3 ⟨e3,y3⟩=>⟨e3,by have:=y3 _ (hx.go s);rw[e]at this;exact(eO this).symm⟩⟩) (λH2 s=>⟨xs,hx.go s,bf _⟩) hs hq
theorem P9{ds:List aj}{f:aj->Bool}{i:Nat}{b:Bool}(h:(ds.map f)[i]? =some b):∃d,ds[i]? =some d/\f d=b:=by rw[bX]at h;cases e:ds[i]? with |none=>rw[e]at h;cases h |some d=>rw[e]at h;exact⟨d,Z,eO h⟩
theorem all_map{ds:List aj}{f:aj->Bool}:(ds.map f).all id=ds.all f:=by rw[List.all_map];rfl
section
variable {X:Cx}
inductive aaw(K:ag)(x:V)(y:V)(H:Hp)(Q:VK):Prop |mk (a:_)(b:_)(xs:_)(ys:_)(h0:x= .ref a)(h1:y= .ref b)(h2:aK K H a xs)(h3:aK K H b ys)(h4:xs.length+ys.length<=sizeLine)(h5:∀p H',Nw H H' p (.lst (xs++ys))->Q (.ref p) H')
def XU(K:ag):R2:=λx y H Q=>aaw K x y H Q
theorem zP(K:ag)(hK:X.K=K):dg X (binaryOp .Add) (XU K):=by
 subst hK;intro ay s O H x y v u Q I rx ry h;obtain⟨a,b,xs,ys,rfl,rfl,ha,hb,hz,q⟩:=h;cases rx;cases ry;obtain⟨its,r1,p1,_⟩:=I.list ha;obtain⟨mI,r2,p2,_⟩:=I.list hb;obtain⟨⟨cls,dd,data,sl⟩,n,ho,hc,hdd,hd⟩:=id p1;obtain⟨⟨acg,dd2,data2,Wn⟩,n2,wG,uB,ac0,hd2⟩:=id p2;simp only at hc hd uB hd2;subst hc hd uB hd2;have e:its.toArray++mI.toArray=(its++mI).toArray:=by simp
 refine concat_meets ⟨_,ho,Z⟩ ⟨_,wG,Z⟩ noFill_list_add seq_list_add PySem.F.slot_list_add PySem.F.entry_list_add (PySem.F.args_list_add_2 _ _) (list_addW a b its.toArray mI.toArray n n2 dd dd2 sl Wn (by rw[dY,dY,<-r1.length,<-r2.length];exact hz)) ⟨ho,wG,?_⟩;rw[e];have nw:Nw H (upd H s.heap.objs.size (.lst (xs++ys))) s.heap.objs.size (.lst (xs++ys)):=.of (I.bD.fresh (bf _));refine⟨.ref s.heap.objs.size,_,I.laid (t':=s.toks) (o:=.lst (xs++ys)) (λb ob q=>cF _ q) (bf _) ?_,Z,q _ _ nw⟩;exact⟨by rw[cE];exact hz,_,0,r1.append r2,fj _ Z⟩
open Classical in
noncomputable def uN(h:Heap)(d:aj)(w:Value):Bool:=if q:∃e as,Reads h w e as then PyData.eqv q.choose d else false
theorem a6X{h:Heap}{d e:aj}{w:Value}{as:List Addr}(r:Reads h w e as):uN h d w=PyData.eqv e d:=by have q:∃e as,Reads h w e as:=⟨e,as,r⟩;unfold uN;rw[dif_pos q];obtain⟨as',r'⟩:=q.choose_spec;rw[(Reads.unique r' e as r).1]
theorem Ri{ay:List (Addr×Obj)}{s:ah}{O:St}{H:Hp}(I:Inv X ay O H s)(hu:X.A.units+65<cLine){x:V}{u:Value}{d:aj}(rx:RelV x u)(hd:RD X.K H x d)(sd:SeqAt.shaped d=true): ∀{xs:List V}{us:List Value}{ds:List aj},Vals xs us->aJ X.K H xs ds->(∀e∈ds,SeqAt.shaped e=true)->(∀w∈us,SeqAt.EqAt X.A.in1 s w u (uN s.heap d w))/\us.any (uN s.heap d)=ds.any λe=>PyData.eqv e d |xs,us,[],rv,h,_=>by cases h.nil_inv;cases rv;exact⟨λ_ h=>(fV h).elim,Z⟩ |xs,us,e::ds,rv,h,se=>by obtain⟨y,ys,rfl,h1,h2⟩:=h.cons_inv;cases rv with |cons ra rb=>
 rename_i w ws;obtain⟨as,q1⟩:=RD.reads I e ra h1;obtain⟨bs,q2⟩:=RD.reads I d rx hd;have key:SeqAt.EqAt X.A.in1 s w u (PyData.eqv e d):=SeqAt.eqAt_reads e d X.A.in1 s w u as bs q1 q2 (SeqAt.canLay_of_shaped (se e (.head _))) (SeqAt.canLay_of_shaped sd) (SeqAt.room_of_shaped (se e (.head _)) (by show X.A.units+1+64<cLine;omega));obtain⟨k1,k2⟩:=Ri I hu rx hd sd rb h2 (λe' he=>se e' (.tail _ he));have ew:uN s.heap d w=PyData.eqv e d:=a6X q1;refine⟨λz hz=>?_,?_⟩
 ·rcases dh.mp hz with rfl|hz
  ·rw[ew];exact key
  ·exact k1 z hz
 ·rw[Dh,Dh,ew,k2]
end
end L2
namespace L2
theorem dE.UZ{k:Nat}{A:PySem.Around}(r:dE k A):A.units+65<PySem.cLine:=by have:=r.un;lia
end L2
namespace L2
open PySem PySem.Spec PyProof.Rows
def jO(b:Bool)(h:Heap)(it l:Addr)(k:Nat):Prop:=match b with|true=>h.IsListIter it l k|false=>h.IsTupleIter it l k
def gR(b:Bool)(h:Heap)(l:Addr)(xs:Array Value):Prop:=match b with|true=>h.IsList l xs|false=>h.IsTuple l xs
def sJ(b:Bool):String:=match b with|true=>"list_iterator"|false=>"tuple_iterator"
theorem jO.to{b:Bool}{h g:Heap}{it l:Addr}{k:Nat}(x:jO b h it l k)(e:∀o,h.get? it=some o->g.get? it=some o):jO b g it l k:=by cases b<;>(obtain⟨o,ho,r⟩:=x;exact⟨o,e o ho,r⟩)
theorem gR.to{b:Bool}{h g:Heap}{l:Addr}{xs:Array Value}(x:gR b h l xs)(e:∀o,h.get? l=some o->g.get? l=some o):gR b g l xs:=by cases b<;>(obtain⟨o,ho,r⟩:=x;exact⟨o,e o ho,r⟩)
theorem jO.ob{b:Bool}{h:Heap}{it l:Addr}{k:Nat}(x:jO b h it l k):∃o,h.get? it=some o/\o.cls= .type (sJ b)/\∀v,o.data≠ .cell v:=by cases b<;>(obtain⟨o,ho,c,d⟩:=x;exact⟨o,ho,c,λv z=>by rw[d]at z;cases z⟩)
section
variable {prog:ai}{w:World}{A:ak}{E:Value->ah->Prop}{s:ah}
theorem wq{b:Bool}{l:Addr}{xs:Array Value}{Q:Value->ah->Prop}(x:gR b s.heap l xs) (q:Q (.ref s.heap.objs.size) {s with heap:=s.heap.push {cls:=.type (sJ b),data:=.fields #[.ref l,.int 0 0]}}):wpAny (model prog w) A (pyIter (.ref l)) Q E s:=by
 cases b
 ·exact wpAny_pyIter_tuple x q
 ·exact CQ x q
theorem a0x{it t:Addr}{k:Nat}{ts:Array Value}{x:Value}{Q:Value->ah->Prop}(hi:s.heap.IsTupleIter it t k)(ht:s.heap.IsTuple t ts)(hx:ts[k]? =some x) (q:∀g,g.IsTupleIter it t (k+1)->Heap.SameBut it s.heap g->Q x {s with heap:=g}):wpAny (model prog w) A (Builtin.SmallTypes.nextOf (.ref it)) Q E s:=by obtain⟨oi,kO,ci,di⟩:=id hi;obtain⟨ot,Hr,_,nt,dt⟩:=ht;unfold Builtin.SmallTypes.nextOf;refine aP (CV (name:=Str.ofString "__next__") hi.typeIs JW (CU JW hi.typeIs aaZ ?_ (ab0 _)));show wpAny _ _ (field (.ref it) 0>>=_) _ _ s;refine aP (jx kO di (x:=.ref t) Z ?_);show wpAny _ _ (if(Value.ref t==Value.none)=true then _ else _) _ _ s;rw[bB (show¬((Value.ref t==Value.none)=true)from iX)];show wpAny _ _ (field (.ref it) 1>>=_) _ _ s;refine aP (jx kO di (x:=.int k 0) Z ?_);show wpAny _ _ (seqItems? (.ref t)>>=_) _ _ s;refine aP (vm Hr dt ?_);simp only[Um,hx];refine aP (CP kO di (by simp) (cg ⟨x,Z,cg (q _ ?_ (Heap.SameBut.update ..))⟩));exact⟨_,Kj _ kO (Uh (D8 di _)),(Obj.cls_mapFields ..).trans ci,by rw[D8 di];simp[rawInt]⟩
theorem a73{it t:Addr}{k:Nat}{ts:Array Value}{Q:Value->ah->Prop}(hh:A.handled=none)(hi:s.heap.IsTupleIter it t k)(ht:s.heap.IsTuple t ts)(hx:ts[k]? =none) (q:∀g e,Heap.ExtBut it s.heap g->(∃o,g.get? e=some o/\o.cls= .type "StopIteration")->E (.ref e) {s with heap:=g}):wpAny (model prog w) A (Builtin.SmallTypes.nextOf (.ref it)) Q E s:=by
 obtain⟨oi,kO,ci,di⟩:=id hi;obtain⟨ot,Hr,_,nt,dt⟩:=ht;unfold Builtin.SmallTypes.nextOf;refine aP (CV (name:=Str.ofString "__next__") hi.typeIs JW (CU JW hi.typeIs aaZ ?_ (ab0 _)));show wpAny _ _ (field (.ref it) 0>>=_) _ _ s;refine aP (jx kO di (x:=.ref t) Z ?_);show wpAny _ _ (if(Value.ref t==Value.none)=true then _ else _) _ _ s;rw[bB (show¬((Value.ref t==Value.none)=true)from iX)];show wpAny _ _ (field (.ref it) 1>>=_) _ _ s;refine aP (jx kO di (x:=.int k 0) Z ?_);show wpAny _ _ (seqItems? (.ref t)>>=_) _ _ s;refine aP (vm Hr dt ?_);simp only[Um,hx];refine aP (Aa (aP (CP kO di (by simp) ?_)));show wpAny _ _ (newExc (.type "StopIteration") []>>=_) _ _ _;refine aP ?_;simp only[newExc,newTuple];refine aP (oE ?_ (by size_fits));refine aP (m:=firstArgMember _ _) (xu (a:=Value.none) (by first|rfl|(simp only[firstArgMember];rfl)) ?_);refine oE ?_ (by size_fits);simp only[raiseNew];refine aP (wpAny_handled ?_)
 first|rw[show A.in1.handled=none from hh]|rw[hh]
 exact aP (cg (wpAny_throw (q _ _ (((Heap.SameBut.update ..).extBut.push _).push _) ⟨_,fj _ Z,Z⟩)))
theorem BB{b:Bool}{it l:Addr}{k:Nat}{xs:Array Value}{x:Value}{Q:Value->ah->Prop}(hi:jO b s.heap it l k)(hl:gR b s.heap l xs)(hx:xs[k]? =some x) (q:∀g,jO b g it l (k+1)->Heap.SameBut it s.heap g->Q x {s with heap:=g}):wpAny (model prog w) A (Builtin.SmallTypes.nextOf (.ref it)) Q E s:=by
 cases b
 ·exact a0x hi hl hx q
 ·exact wpAny_nextOf_list_item hi hl hx q
theorem IB{b:Bool}{it l:Addr}{k:Nat}{xs:Array Value}{Q:Value->ah->Prop}(hh:A.handled=none)(hi:jO b s.heap it l k)(hl:gR b s.heap l xs)(hx:xs[k]? =none) (q:∀g e,Heap.ExtBut it s.heap g->(∃o,g.get? e=some o/\o.cls= .type "StopIteration")->E (.ref e) {s with heap:=g}):wpAny (model prog w) A (Builtin.SmallTypes.nextOf (.ref it)) Q E s:=by
 cases b
 ·exact a73 hh hi hl hx q
 ·exact wpAny_nextOf_list_end hh hi hl hx q
structure Zp(b1 b2:Bool)(h:Heap)(z TI TO i1 i2 l1 l2:Addr)(f0:Value)(k:Nat):Prop where
 zz:IsZip h z TI TO f0
 ti:IsPair h TI (.ref i1) (.ref i2)
 to:∃a b,IsPair h TO a b
 n1:jO b1 h i1 l1 k
 n2:jO b2 h i2 l2 k
theorem Ol{z TI TO:Addr}{Q:Bool->ah->Prop}(hz:IsZip s.heap z TI TO .none)(q:Q true s):wpAny (model prog w) A (Builtin.SmallTypes.ownedTupleIsFree (.ref z)) Q E s:=by unfold Builtin.SmallTypes.ownedTupleIsFree;exact aP (jx hz Z (x:=.none) Z (cg q))
theorem Uy{b1 b2:Bool}{z TI TO i1 i2 l1 l2:Addr}{k:Nat}{xs ys:Array Value}{x y:Value}{Q:Value->ah->Prop}(D:ZipApart z TI TO i1 i2 l1 l2)(acw:Zp b1 b2 s.heap z TI TO i1 i2 l1 l2 .none k) (rO:gR b1 s.heap l1 xs)(rM:gR b2 s.heap l2 ys)(hx:xs[k]? =some x)(hy:ys[k]? =some y) (q:∀g,Zp b1 b2 g z TI TO i1 i2 l1 l2 (rawInt s.heap.objs.size) (k+1)->IsPair g s.heap.objs.size x y->(∀c o,c≠z->c≠TO->c≠i1->c≠i2->s.heap.get? c=some o->g.get? c=some o)->Q (.ref s.heap.objs.size) {s with heap:=g}): wpAny (model prog w) A (Builtin.«zip.__next__» ⟨[.ref z],[]⟩) (λr s'=>∃v,r= .done (.ret v)/\Q v s') E s:=by
 obtain⟨hz,lV,⟨a,b,mR⟩,h1,h2⟩:=acw;show wpAny _ _ (field (.ref z) 2>>=_) _ _ _;refine aP (jx hz Z (x:=.bool false) Z ?_);show wpAny _ _ (field (.ref z) 3>>=_) _ _ _;refine aP (jx hz Z (x:=.ref TI) Z (aP (vm lV Z ?_)));show wpAny _ _ (Builtin.SmallTypes.ownedTupleIsFree (.ref z)>>=_) _ _ _;refine aP (Ol hz ?_);simp only[vn];refine aP (Aa (aP (jx hz Z (x:=.ref TO) Z (aP (A9 hz (by simp) λg1 z1 e1=>?_)))));replace z1:IsZip g1 z TI TO .ellipsis:=z1;refine aP ?_;simp only[List.zipIdx_cons,List.zipIdx_nil,Kc,List.forIn_nil];refine aP (aP (CS ?_));show wpAny _ _ (Builtin.SmallTypes.nextOf (.ref i1)>>=_) _ _ _;refine aP (BB (h1.to λo e=>e1.extBut _ _ D.i1z e) (rO.to λo e=>e1.extBut _ _ D.l1z e) hx λg2 n1 e2=>cg ?_);have t2:IsPair g2 TO a b:=e2.extBut _ _ D.TOi1 (e1.extBut _ _ D.TOz mR);refine aP (vm t2 Z (aP (TV t2 λg3 t3 e3=>?_)));replace t3:IsPair g3 TO x b:=t3;refine aP (wpAny_letGo (cg ?_));refine aP (aP (CS ?_));show wpAny _ _ (Builtin.SmallTypes.nextOf (.ref i2)>>=_) _ _ _;refine aP (BB (h2.to λo e=>e3.extBut _ _ D.TOi2.symm (e2.extBut _ _ D.i12.symm (e1.extBut _ _ D.i2z e))) (rM.to λo e=>e3.extBut _ _ D.l2TO (e2.extBut _ _ D.l2i1 (e1.extBut _ _ D.l2z e))) hy λg4 n2 e4=>cg ?_);have t4:IsPair g4 TO x b:=e4.extBut _ _ D.TOi2 t3;refine aP (vm t4 Z (aP (TV t4 λg5 t5 e5=>?_)));replace t5:IsPair g5 TO x y:=t5;refine aP (wpAny_letGo (cg (cg ?_)));refine aP (vm t5 Z (aP (wpAny_newTuple ?_)));have sz:g5.objs.size=s.heap.objs.size:=by rw[e5.1,e4.1,e3.1,e2.1,e1.1]
 have z5:IsZip g5 z TI TO .ellipsis:=e5.extBut _ _ D.TOz.symm (e4.extBut _ _ D.i2z.symm (e3.extBut _ _ D.TOz.symm (e2.extBut _ _ D.i1z.symm z1)));have kp:∀c o,c≠z->c≠TO->c≠i1->c≠i2->s.heap.get? c=some o->g5.get? c=some o:=λc o c1 c2 c3 c4 e=>e5.extBut _ _ c2 (e4.extBut _ _ c4 (e3.extBut _ _ c2 (e2.extBut _ _ c3 (e1.extBut _ _ c1 e))));have m1:jO b1 g5 i1 l1 (k+1):=n1.to λo e=>e5.extBut _ _ D.TOi1.symm (e4.extBut _ _ D.i12 (e3.extBut _ _ D.TOi1.symm e));have m2:jO b2 g5 i2 l2 (k+1):=n2.to λo e=>e5.extBut _ _ D.TOi2.symm e;have Dk:z<g5.objs.size:=cA z5;show wpAny _ _ (Builtin.SmallTypes.ownedTupleHandOut (.ref z) (.ref g5.objs.size)>>=_) _ _ _;refine aP ?_;unfold Builtin.SmallTypes.ownedTupleHandOut;have z6:IsZip (g5.push {cls:=.type "tuple",data:=.seq #[x,y]}) z TI TO .ellipsis:=cF _ z5;refine aP (A9 z6 (by simp) λg7 z7 e7=>?_);replace z7:IsZip g7 z TI TO (rawInt g5.objs.size):=z7;refine A9 z7 (by simp) λg8 z8 e8=>?_;replace z8:IsZip g8 z TI TO (rawInt g5.objs.size):=z8;have up:∀c o,c≠z->g5.get? c=some o->g8.get? c=some o:=λc o c1 e=>e8.extBut _ _ c1 (e7.extBut _ _ c1 (cF _ e));have t8:IsPair g8 g5.objs.size x y:=e8.extBut _ _ (D9 Dk) (e7.extBut _ _ (D9 Dk) (fj _ Z));rw[sz]at z8 t8;refine cg ⟨_,Z,?_⟩;show Q (.ref g5.objs.size) _;rw[sz];exact q g8 ⟨z8,up _ _ D.TIz (kp _ _ D.TIz D.TITO D.TIi1 D.TIi2 lV),⟨_,_,up _ _ D.TOz t5⟩,m1.to λo e=>up _ o D.i1z e,m2.to λo e=>up _ o D.i2z e⟩ t8 λc o c1 c2 c3 c4 e=>up c o c1 (kp c o c1 c2 c3 c4 e)
theorem Uz{b1 b2:Bool}{z TI TO i1 i2 l1 l2:Addr}{k:Nat}{xs ys:Array Value}{Q:Fin->ah->Prop}(hh:A.handled=none)(D:ZipApart z TI TO i1 i2 l1 l2)(acw:Zp b1 b2 s.heap z TI TO i1 i2 l1 l2 .none k) (rO:gR b1 s.heap l1 xs)(rM:gR b2 s.heap l2 ys)(uy:xs[k]? =none\/ys[k]? =none) (q:∀g e,(∀c o,c≠z->c≠TO->c≠i1->c≠i2->s.heap.get? c=some o->g.get? c=some o)->(∃o,g.get? e=some o/\o.cls= .type "StopIteration")->E (.ref e) {s with heap:=g}): wpAny (model prog w) A (Builtin.«zip.__next__» ⟨[.ref z],[]⟩) Q E s:=by obtain⟨hz,lV,⟨a,b,mR⟩,h1,h2⟩:=acw;show wpAny _ _ (field (.ref z) 2>>=_) _ _ _;refine aP (jx hz Z (x:=.bool false) Z ?_);show wpAny _ _ (field (.ref z) 3>>=_) _ _ _;refine aP (jx hz Z (x:=.ref TI) Z (aP (vm lV Z ?_)));show wpAny _ _ (Builtin.SmallTypes.ownedTupleIsFree (.ref z)>>=_) _ _ _;refine aP (Ol hz ?_);simp only[vn];refine aP (Aa (aP (jx hz Z (x:=.ref TO) Z (aP (A9 hz (by simp) λg1 z1 e1=>?_)))));replace z1:IsZip g1 z TI TO .ellipsis:=z1;refine aP ?_;simp only[List.zipIdx_cons,List.zipIdx_nil,Kc,List.forIn_nil];refine aP (aP (CS ?_));show wpAny _ _ (Builtin.SmallTypes.nextOf (.ref i1)>>=_) _ _ _;have j1:=h1.to λo e=>e1.extBut _ _ D.i1z e;have k1:=rO.to λo e=>e1.extBut _ _ D.l1z e;cases hx:xs[k]? with
 |none=>
  refine aP (IB hh j1 k1 hx λg2 er e2 ⟨oe,ur,uA⟩=>?_);have z2:IsZip g2 z TI TO .ellipsis:=e2 _ _ D.i1z.symm z1;have nz:er≠z:=λv=>by subst v;rw[z2]at ur;cases ur;simp at uA
  refine A9 z2 (by simp) λg3 _ e3=>q g3 er (λc o c1 _ c3 _ v=>e3.extBut _ _ c1 (e2 _ _ c3 (e1.extBut _ _ c1 v))) ⟨oe,e3.extBut _ _ nz ur,uA⟩ |some x=>
  have hy:ys[k]? =none:=by rcases uy with h|h;rw[hx]at h;cases h;exact h
  refine aP (BB j1 k1 hx λg2 n1 e2=>cg ?_);have t2:IsPair g2 TO a b:=e2.extBut _ _ D.TOi1 (e1.extBut _ _ D.TOz mR);refine aP (vm t2 Z (aP (TV t2 λg3 t3 e3=>?_)));refine aP (wpAny_letGo (cg ?_));refine aP (aP (CS ?_));show wpAny _ _ (Builtin.SmallTypes.nextOf (.ref i2)>>=_) _ _ _;refine aP (IB hh (h2.to λo e=>e3.extBut _ _ D.TOi2.symm (e2.extBut _ _ D.i12.symm (e1.extBut _ _ D.i2z e))) (rM.to λo e=>e3.extBut _ _ D.l2TO (e2.extBut _ _ D.l2i1 (e1.extBut _ _ D.l2z e))) hy λg4 er e4 ⟨oe,ur,uA⟩=>?_);have z4:IsZip g4 z TI TO .ellipsis:=e4 _ _ D.i2z.symm (e3.extBut _ _ D.TOz.symm (e2.extBut _ _ D.i1z.symm z1));have nz:er≠z:=λv=>by subst v;rw[z4]at ur;cases ur;simp at uA
  refine A9 z4 (by simp) λg5 _ e5=>q g5 er (λc o c1 c2 c3 c4 v=>e5.extBut _ _ c1 (e4 _ _ c4 (e3.extBut _ _ c2 (e2.extBut _ _ c3 (e1.extBut _ _ c1 v))))) ⟨oe,e5.extBut _ _ nz ur,uA⟩
abbrev AE(b1:Bool)(h:Heap)(l1:Addr):Heap:=h.push {cls:=.type (sJ b1),data:=.fields #[.ref l1,.int 0 0]}
abbrev AD(b1 b2:Bool)(h:Heap)(l1 l2:Addr):Heap:=(AE b1 h l1).push {cls:=.type (sJ b2),data:=.fields #[.ref l2,.int 0 0]}
abbrev AB(b1 b2:Bool)(h:Heap)(l1 l2:Addr):Heap:=(AD b1 b2 h l1 l2).push {cls:=.type "tuple",data:=.seq #[.ref h.objs.size,.ref (AE b1 h l1).objs.size]}
abbrev AA(b1 b2:Bool)(h:Heap)(l1 l2:Addr):Heap:=(AB b1 b2 h l1 l2).push {cls:=.type "tuple",data:=.seq #[.none,.none]}
abbrev vt(b1 b2:Bool)(h:Heap)(l1 l2:Addr):Heap:=(AA b1 b2 h l1 l2).push {cls:=.type "zip",data:=.fields #[.none,.bool false,.bool false,.ref (AD b1 b2 h l1 l2).objs.size,.ref (AB b1 b2 h l1 l2).objs.size]}
theorem Ux(b1 b2:Bool)(l1 l2:Addr)(xs ys:Array Value):Meets (Builtin.«zip.__new__» ⟨[.type "zip",.ref l1,.ref l2],[]⟩) (λ_ R s=>gR b1 s.heap l1 xs/\gR b2 s.heap l2 ys/\R (.ok (.ret (.ref (AA b1 b2 s.heap l1 l2).objs.size))) {s with heap:=vt b1 b2 s.heap l1 l2}):=.of_wp λprog w A R s h=>by
 obtain⟨hp,gg,d,tk,os⟩:=s;obtain⟨rO,rM,h⟩:=h;have Hm:=sub_zip;have hL1:gR b1 (Shared.heap ⟨hp,gg,d,tk,os⟩) l1 xs:=rO;have zm:gR b2 (Shared.heap ⟨hp.push {cls:=.type (sJ b1),data:=.fields #[.ref l1,.int 0 0]},gg,d,tk,os⟩) l2 ys:=rM.to λo e=>cF _ e
 wp_walk using wq hL1,wq zm;exact⟨_,Z,h⟩
theorem UA{b1 b2:Bool}{l1 l2:Addr}{xs ys:Array Value}{Q:Value->ah->Prop}(rO:gR b1 s.heap l1 xs)(rM:gR b2 s.heap l2 ys) (q:∀g,Zp b1 b2 g (s.heap.objs.size+4) (s.heap.objs.size+2) (s.heap.objs.size+3) s.heap.objs.size (s.heap.objs.size+1) l1 l2 .none 0->(∀c o,s.heap.get? c=some o->g.get? c=some o)->Q (.ref (s.heap.objs.size+4)) {s with heap:=g}): wpAny (model prog w) A (call (.type "zip") [.ref l1,.ref l2]) Q E s:=by
 refine callType_new PySem.F.called_zip aB (PySem.F.typeCall_zip_2 _ _) (PySem.F.newCall_zip_2 _ _) (λobj=>PySem.F.args_object_init_3 obj _ _) PySem.F.entry_zip_new (Ux b1 b2 l1 l2 xs ys) ⟨rO,rM,?_⟩;have z1:(AE b1 s.heap l1).objs.size=s.heap.objs.size+1:=qD ..;have z2:(AD b1 b2 s.heap l1 l2).objs.size=s.heap.objs.size+2:=by rw[qD,z1]
 have z3:(AB b1 b2 s.heap l1 l2).objs.size=s.heap.objs.size+3:=by rw[qD,z2]
 have z4:(AA b1 b2 s.heap l1 l2).objs.size=s.heap.objs.size+4:=by rw[qD,z3]
 have g5:(vt b1 b2 s.heap l1 l2).get? (AA b1 b2 s.heap l1 l2).objs.size=some _:=fj _ rfl;have g4:(vt b1 b2 s.heap l1 l2).get? (AB b1 b2 s.heap l1 l2).objs.size=some _:=cF _ (fj _ Z);have g3:(vt b1 b2 s.heap l1 l2).get? (AD b1 b2 s.heap l1 l2).objs.size=some _:=cF _ (cF _ (fj _ Z));have g2:(vt b1 b2 s.heap l1 l2).get? (AE b1 s.heap l1).objs.size=some _:=cF _ (cF _ (cF _ (fj _ Z)));have g1:(vt b1 b2 s.heap l1 l2).get? s.heap.objs.size=some _:=cF _ (cF _ (cF _ (cF _ (fj _ Z))));show _/\_;rw[z2,z3,z4]at g5;rw[z1,z2]at g3;rw[z3]at g4;rw[z1]at g2;rw[z4];refine⟨⟨_,g5,Z⟩,q _ ⟨g5,g3,⟨_,_,g4⟩,?_,?_⟩ λc o e=>cF _ (cF _ (cF _ (cF _ (cF _ e))))⟩
 ·cases b1<;>exact⟨_,g1,rfl,rfl⟩
 ·cases b2<;>exact⟨_,g2,rfl,rfl⟩
end
section
variable {X:Cx}{ay:List (Addr×Obj)}{O:St}{H:Hp}{s:ah}{h':Heap}
theorem Inv.xP{t':Nat}{fp:List Addr}(I:Inv X ay O H s)(k:∀b o,b∉fp->s.heap.get? b=some o->h'.get? b=some o)(hf:∀b∈fp,jw X ay H b):Inv X ay O H {s with heap:=h',toks:=t'}:=by
 have yE:∀b u,H b=some u->b∉fp:=λb u e z=>by rw[(hf b z).1]at e;cases e
 have hL:X.env.locals∉fp:=λz=>(hf _ z).2.1 rfl;refine I.step (g':=s.gens) (d':=s.drawn) (ch:=fp) (λb hb=>?_) (λb o _ _ hc e _=>k b o hc e) (λb o _ _ hc e _=>⟨o.slots,k b o hc e⟩) (λ_ _ _ _ n=>n) (λb o hc e=>⟨o,k b o hc e⟩) (λ_ _ e=>e) (λ_ _ _ e=>e) (λb ps e=>⟨#[],by rw[e];simp⟩) (λm hm=>?_) (λb u e=>?_) I.bare
 ·obtain⟨f0,f1,f2,f3,f4,f5⟩:=hf b hb
  exact⟨f3,f1,f4,f5⟩
 ·obtain⟨o,es,ep,ho,r⟩:=hm
  exact⟨o,es,ep,k _ o hL ho,r⟩
 ·refine(I.bD b u e).nC (λc v hc q=>k c v ?_ q) (λ_ q=>q) λ_ _ q=>q
  rcases hc with z|z
  ·rw[z];exact yE b u e
  ·exact yE c _ z
end
def eG(b:Bool)(K:ag)(H:Hp)(a:Addr)(xs:List V):Prop:=match b with|true=>aK K H a xs|false=>aU K H a xs
theorem eG.get{X:Cx}{ay:List (Addr×Obj)}{O:St}{H:Hp}{s:ah}{b:Bool}{a:Addr}{xs:List V}(I:Inv X ay O H s)(h:eG b X.K H a xs):∃its:List Value,Vals xs its/\gR b s.heap a its.toArray:=by
 cases b
 ·obtain⟨its,r,p,_⟩:=I.tuple h;exact⟨its,r,p⟩
 ·obtain⟨its,r,p,_⟩:=I.list h;exact⟨its,r,p.isList⟩
theorem eG.inj{X:Cx}{ay:List (Addr×Obj)}{O:St}{H:Hp}{s:ah}{b:Bool}{a:Addr}{xs ys:List V}(I:Inv X ay O H s)(h:eG b X.K H a xs)(g:eG b X.K H a ys):xs=ys:=by
 cases b
 ·exact I.Kx h g
 ·exact I.Pq h g
def sP(K:ag)(b1 b2:Bool)(l1 l2:Addr):It:=⟨λi H=>∃xs ys x y,eG b1 K H l1 xs/\eG b2 K H l2 ys/\xs[i]? =some x/\ys[i]? =some y,λi H v H'=>∃T x y,v= .ref T/\(∀xs,eG b1 K H l1 xs->xs[i]? =some x)/\(∀ys,eG b2 K H l2 ys->ys[i]? =some y)/\Nw H H' T (.tup [x,y]),λi H=>∃xs ys,eG b1 K H l1 xs/\eG b2 K H l2 ys/\(xs.length<=i\/ys.length<=i)⟩
theorem V8{P:ai}{w:World}{K:ag}{elts:List Expr}{kt:Nat}{pos:Pos}{b1 b2:Bool}{z TI TO i1 i2 l1 l2:Addr}(D:ZipApart z TI TO i1 i2 l1 l2): Turn P w K (.Tuple elts kt pos) (sP K b1 b2 l1 l2) [z,TI,TO,i1,i2] z (λi h=>Zp b1 b2 h z TI TO i1 i2 l1 l2 .none i) where
 mem:=by simp
 obj:=λi h st b hb=>by
  obtain⟨hz,lV,⟨a,c,mR⟩,h1,h2⟩:=st;simp only[dh,fV,jb]at hb;rcases hb with rfl|rfl|rfl|rfl|rfl
  ·exact⟨_,hz,λv e=>by cases e⟩
  ·exact⟨_,lV,λv e=>by cases e⟩
  ·exact⟨_,mR,λv e=>by cases e⟩
  ·obtain⟨o,e,_,n⟩:=h1.ob;exact⟨o,e,n⟩
  ·obtain⟨o,e,_,n⟩:=h2.ob;exact⟨o,e,n⟩
 keep:=λi h h' st k=>by obtain⟨hz,lV,⟨a,c,mR⟩,h1,h2⟩:=st;exact⟨k z (by simp) _ hz,k TI (by simp) _ lV,⟨a,c,k TO (by simp) _ mR⟩,h1.to λo e=>k i1 (by simp) o e,h2.to λo e=>k i2 (by simp) o e⟩
 item:=by
  intro X hP hw hK hc i ay s O H E I hf st hg;subst hP hw hK;obtain⟨xs,ys,x,y,q1,q2,e1,e2⟩:=hg;obtain⟨Hb,r1,p1⟩:=q1.get I;obtain⟨mI,r2,p2⟩:=q2.get I;obtain⟨u1,Hk,jD⟩:=r1.get e1;obtain⟨u2,hu2,oW⟩:=r2.get e2;have hT:s.TypeIs (.ref z) "zip":=⟨_,st.zz,Z⟩;unfold pyNext;refine aP (wpAny_attempt (CV (name:=Str.ofString "__next__") hT JV (CU JV hT PySem.F.entry_zip_next (Uy D st p1 p2 (x:=u1) (y:=u2) (by simpa using Hk) (by simpa using hu2) λg zg tg kp=>cg ?_) (PySem.F.args_zip_next_1 _))));refine⟨_,Z,?_⟩;refine wpAny_letOwnedTupleGo_zip zg.zz λg' Uw sb=>?_;have hs:=sb.extBut;have Dk:z<s.heap.objs.size:=cA st.zz;have nw:Nw H (upd H s.heap.objs.size (.tup [x,y])) s.heap.objs.size (.tup [x,y]):=.of (I.bD.fresh (bf _));have I1:Inv X ay O (upd H s.heap.objs.size (.tup [x,y])) {s with heap:=s.heap.push {cls:=.type "tuple",data:=.seq #[u1,u2]}}:=I.laid (t':=s.toks) (λb ob q=>cF _ q) (bf _) ⟨by show 2<=sizeLine;decide,[u1,u2],.cons jD (.cons oW .nil),⟨_,fj _ Z,Z,_,Z⟩⟩;have GJ:∀b∈[z,TI,TO,i1,i2],b<s.heap.objs.size:=λb hb=>by
   simp only[dh,fV,jb]at hb;obtain⟨hz,lV,⟨a,c,mR⟩,h1,h2⟩:=st;rcases hb with rfl|rfl|rfl|rfl|rfl
   ·exact cA hz
   ·exact cA lV
   ·exact cA mR
   ·obtain⟨o,e,_⟩:=h1.ob;exact cA e
   ·obtain⟨o,e,_⟩:=h2.ob;exact cA e
  have hn:∀b∈[z,TI,TO,i1,i2],upd H s.heap.objs.size (.tup [x,y]) b=none:=λb hb=>by rw[aV (eQ (GJ b hb))];exact(hf b hb).1
  have I2:Inv X ay O (upd H s.heap.objs.size (.tup [x,y])) {s with heap:=g'}:=Inv.xP (s:={s with heap:=s.heap.push {cls:=.type "tuple",data:=.seq #[u1,u2]}}) (t':=s.toks) (fp:=[z,TI,TO,i1,i2]) I1 (λb o hb e=>by
   have e:(s.heap.push {cls:=.type "tuple",data:=.seq #[u1,u2]}).get? b=some o:=e;have nz:b≠z:=λq=>hb (by simp[q]);rcases Heap.get?_push_cases e with⟨HH,rfl⟩|e'
   ·subst HH
    exact hs _ _ nz tg
   ·exact hs _ _ nz (kp b o nz (λq=>hb (by simp[q])) (λq=>hb (by simp[q])) (λq=>hb (by simp[q])) e')) (λb hb=>by obtain⟨f0,f1,f2,f3,f4,f5⟩:=hf b hb;exact⟨hn b hb,f1,f2,f3,f4,f5⟩);refine⟨.ref s.heap.objs.size,_,I2,Z,⟨s.heap.objs.size,x,y,Z,λzs hz=>?_,λzs hz=>?_,nw⟩,?_,hn⟩
  ·rw[eG.inj I hz q1];exact e1
  ·rw[eG.inj I hz q2];exact e2
  ·obtain⟨_,lV,⟨a,c,mR⟩,h1,h2⟩:=zg
   exact⟨Uw,hs _ _ D.TIz lV,⟨a,c,hs _ _ D.TOz mR⟩,h1.to λo e=>hs _ o D.i1z e,h2.to λo e=>hs _ o D.i2z e⟩
 done:=by intro X hP hw hK hc i ay s O H E I hf st hg;subst hP hw hK;obtain⟨xs,ys,q1,q2,uy⟩:=hg;obtain⟨Hb,r1,p1⟩:=q1.get I;obtain⟨mI,r2,p2⟩:=q2.get I;have hT:s.TypeIs (.ref z) "zip":=⟨_,st.zz,Z⟩;have l1:=r1.length;have l2:=r2.length;unfold pyNext;refine aP (wpAny_attempt (CV (name:=Str.ofString "__next__") hT JV (CU JV hT PySem.F.entry_zip_next (Uz (I.ok.hd hc) D st p1 p2 (uy.imp (λh=>by simp;lia) λh=>by simp;lia) λg e kp he=>?_) (PySem.F.args_zip_next_1 _))));obtain⟨o,ho,rY⟩:=he;refine aP (wpAny_isInstance (T:="StopIteration") (b:=true) ⟨o,ho,rY⟩ isSubtype_stop (cg ⟨Z,?_⟩));exact I.xP (t':=s.toks) (fp:=[z,TI,TO,i1,i2]) (λb o hb e=>kp b o (λq=>hb (by simp[q])) (λq=>hb (by simp[q])) (λq=>hb (by simp[q])) (λq=>hb (by simp[q])) e) hf
 self:=λ_ _ _ _ _ st h=>wpAny_pyIter_zip st.zz h
inductive aaB(K:ag)(b1:Bool)(b2:Bool)(R:It->Hp->Prop)(vs:List V)(H1:Hp):Prop |mk (l1:_)(l2:_)(h0:vs=[.ref l1,.ref l2])(h1:(∃xs,eG b1 K H1 l1 xs))(h2:(∃ys,eG b2 K H1 l2 ys))(h3:R (sP K b1 b2 l1 l2) H1)
def a2M(K:ag)(b1 b2:Bool)(ta:TA):TI:=λO H R=>ta O H λvs H1=>aaB K b1 b2 R vs H1
theorem jX(K:ag){X:Cx}(hK:X.K=K)(b1 b2:Bool){elts:List Expr}{kt:Nat}{tD:Pos}{a b:Expr}{ta:TA}{p pos:Pos}(hg:Gl X "zip")(hm:X.mg "zip"=none)(ha:PA X [a,b] ta)(hs:starEach [a,b] X.env=[(false,eval a X.env),(false,eval b X.env)]:=by rfl)(iR:starEach [b] X.env=[(false,eval b X.env)]:=by rfl): PI X (.Tuple elts kt tD) (.Call (.Name "zip" p) [a,b] [] pos) (a2M K b1 b2 ta):=by
 subst hK;intro ay s O H R I h;refine Call_ (rE I hg hm PyProof.Rows.boot_zip (Ag (ba (ha pos ay s O H _ I h) λus s1 ⟨vs,H1,I1,r1,q1⟩=>?_) (by rw[hs,iR]) (by rw[iR];rfl)));obtain⟨l1,l2,e,⟨xs,h1⟩,⟨ys,h2⟩,q⟩:=q1;subst e;obtain⟨u1,u2,rfl,jD,oW⟩:=vals2 r1;cases(show u1=Value.ref l1 from jD);cases(show u2=Value.ref l2 from oW);obtain⟨Hb,v1,p1⟩:=h1.get I1;obtain⟨mI,v2,p2⟩:=h2.get I1;have a1:l1<s1.heap.objs.size:=by cases b1<;>(obtain⟨o,e,_⟩:=p1;exact cA e)
 have a2:l2<s1.heap.objs.size:=by cases b2<;>(obtain⟨o,e,_⟩:=p2;exact cA e)
 refine UA p1 p2 λg zg kp=>wpAny_pyIter_zip zg.zz ?_;refine⟨_,_,_,_,H1,Z,I1.kept (t':=s1.toks) kp,V8 (zipApart_new a1 a2),zg,λc hc=>?_,q⟩;have hle:s1.heap.objs.size<=c:=by simp only[dh,fV,jb]at hc;rcases hc with rfl|rfl|rfl|rfl|rfl<;>first|exact bf _|exact Nat.le_add_right _ _
 exact I1.sj hle (I1.bD.fresh hle)
theorem eG.go{b:Bool}{K:ag}{H H':Hp}{a:Addr}{xs:List V}(s:aH H H')(h:eG b K H a xs):eG b K H' a xs:=by
 cases b
 ·exact aU.go s h
 ·exact aK.go s h
theorem a7G{K:ag}{b1 b2:Bool}{l1 l2:Addr}{xs ys:List V}{bs:List Bool}{te:TE}{Q:VK}{D:Addr}{H H0:Hp}{n:Nat}(rest:St)(hn:n=2)(h1:eG b1 K H l1 xs)(h2:eG b2 K H l2 ys)(nw:Nw H H0 D (.lst [])) (hl:min xs.length ys.length=bs.length)(hz:bs.length<=1000) (hs:∀(i:Nat)(x y:V)(b:Bool)(H2:Hp)(Q':VK),xs[i]? =some x->ys[i]? =some y->bs[i]? =some b->aH H H2->(∀H3,aH H2 H3->Q' (.bl b) H3)->te (some x::some y::rest) H2 Q') (hq:∀H',aH H H'->H' D=some (.lst (bs.map V.bl))->Q (.ref D) H'):ku (sP K b1 b2 l1 l2) (zq K n (uI (g9 0) (uI (g9 1) Cf))) jA te Q D (none::none::rest) H0:=by
 subst hn;have hD:=nw.no;refine uY bs.length (λi O H2=>aH H H2/\H2 D=some (.lst ((bs.take i).map V.bl))/\∃v v',O=v::v'::rest) ?_ ?_ ?_
 ·exact⟨nw.same,nw.at',none,none,Z⟩
 ·rintro i O H2 hi ⟨s2,d2,v,v',rfl⟩
  have hx:i<xs.length:=by lia
  have hy:i<ys.length:=by lia
  have ex:=bu hx;have ey:=bu hy;have eb:=bu hi;refine⟨⟨xs,ys,_,_,h1.go s2,h2.go s2,ex,ey⟩,λy' H3 kK=>?_⟩;obtain⟨T,x0,y0,rfl,k1,k2,n3⟩:=kK;have e1:=k1 _ (h1.go s2);have e2:=k2 _ (h2.go s2);rw[ex]at e1;rw[ey]at e2;cases e1;cases e2;refine⟨T,_,Z,aU.of n3.at',Z,_,_,Z,_,_,Z,Z,?_⟩;refine yes (bK ?_);refine hs i _ _ _ _ _ ex ey eb (s2.trans n3.same) λH4 s4=>?_;refine⟨_,s4 _ _ (n3.same _ _ d2),?_,bs.length-(i+1),aw,Z,aw,λb o e=>?_,?_,_,_,Z⟩
  ·rw[bL,je]
   have:(1000:Nat)<sizeLine:=by decide
   lia
  ·rw[aV (dU e hD)];exact s4 b o (n3.same b o (s2 b o e))
  ·rw[bQ,kx,eb,jd];rfl
 ·rintro O H2 ⟨s2,d2,v,v',rfl⟩
  refine⟨⟨xs,ys,h1.go s2,h2.go s2,aw⟩,hq H2 s2 ?_⟩;rw[d2,xD]
structure Fl(P:ai)(w:World)(outer:List Env)(H:Hp)(h₁:Heap)(ex:Addr)(H':Hp)(B h:Heap):Prop where
 un:Un (gb outer) [] H H' h₁ h
 bD:fc P w H' h
 k1:∀b o,h₁.get? b=some o->H b=none->b∉gb outer->B.get? b=some o
 k2:∀b o,H' b=some o->∃ob,B.get? b=some ob
 k3:∀b o,h₁.get? b=some o->b∉gb outer->∃ob,B.get? b=some ob
 fr:∀b∈gb outer,H' b=none
 nw:h₁.get? ex=none
 ne:H' ex=none
theorem Fl.step{P:ai}{w:World}{outer:List Env}{H H':Hp}{h₁ B h h':Heap}{ex:Addr}{aA:Heap}(F:Fl P w outer H h₁ ex H' B h)(st:B.StaysIn h)(gZ:B.StaysIn h')(up:h.UpToSlots h')(ff:h.FunFrames aA outer):Fl P w outer H h₁ ex H' B h':=by
 have slot:∀b o,h₁.get? b=some o->H b=none->b∈gb outer->∃sl,h'.get? b=some {o with slots:=sl}:=λb o e n hb=>by obtain⟨sl,e1⟩:=F.un.slot b o e n hb (by simp);obtain⟨_,o2,e2,hd⟩:=ff.mem hb;rw[e1]at e2;cases e2;obtain⟨DP,e3⟩:=up b _ e1 (λvs=>hd vs);exact⟨DP,e3⟩
 refine⟨⟨λb o e n hb _=>gZ b o (F.k1 b o e n hb),λb o e n hb _=>slot b o e n hb,F.un.free,λb o e hx=>?_,F.un.kA,F.un.kg,F.un.kB⟩,λb u e=>?_,F.k1,F.k2,F.k3,F.fr,F.nw,F.ne⟩
 ·by_cases hb:b∈gb outer
  ·obtain⟨_,o2,e2,hd⟩:=ff.mem hb
   obtain⟨sl,e3⟩:=up b o2 e2 hd;exact⟨_,e3⟩
  ·obtain⟨ob,e1⟩:=F.k3 b o e hb
   exact⟨ob,gZ b ob e1⟩
 ·refine(F.bD b u e).nC (λc v hc q=>?_) (λ_ q=>q) λ_ _ q=>q
  have inB:∃ob,B.get? c=some ob:=by
   rcases hc with z|z
   ·rw[z];exact F.k2 b u e
   ·exact F.k2 c _ z
  obtain⟨ob,e1⟩:=inB;have e2:=st c ob e1;rw[q]at e2;cases e2;exact gZ c _ e1
section
variable {P:ai}{w:World}{K:ag}{mg:bV}{aA:Heap}{N:List Str}{qual:Str}{scope:Scope}{f:Addr}{cd:Value}{A:ak}{outer:List Env}{s:ah}{H:Hp}{E:XK}{ay:List (Addr×Obj)}{O:St}{H1:Hp}{s1:ah}{h2:Heap}{ex:Addr}{cls:Value}{vs:List Value}
end
structure Exc(K:ag)(mg:bV)(x:Str)(C:Addr)(vb:List Value)(newId:String):Prop where
 at':mg x=some (.ref C)
 ok:PySem.W.excIn K C vb newId=true
theorem Exc.own{K:ag}{mg:bV}{x:Str}{C:Addr}{vb:List Value}{newId:String}{h:Heap}(e:Exc K mg x C vb newId)(X:K.In h):OwnCls x C vb newId mg h:=by
 refine⟨e.at',?_⟩;have q:=e.ok;unfold PySem.W.excIn at q;split at q
 ·rename_i dd cd sl ho
  split at q
  ·rename_i D2 bl a0 a1 a2 a3 nn a5 hm hs
   simp only[fN,fG,Ut]at q;obtain⟨⟨⟨⟨⟨r1,r2⟩,Qp⟩,ht⟩,bD⟩,Qf⟩:=q;subst r1 r2;obtain⟨c1,c2,c3,c4,c5,c6,c7,c8,c9,c10,c11⟩:=cd;dsimp only at hm Qp bD Qf;subst hm Qp;obtain⟨l⟩:=sl;simp only at hs;subst hs;exact⟨bl,c4,c1,c5,c2,c6,c7,c8,c9,c10,dd,a0,a1,a2,a3,a5,_,X _ _ ho,.of_isNs (PySem.W.isNs_of_in X bD),PySem.W.nsMap_none_of_in X bD Qf,PySem.W.tail_of_in X ht⟩
  ·cases q
 ·cases q
section
variable {X:Cx}{x:Str}{C:Addr}{vb:List Value}{newId Q3 B:String}{e:Expr}{t:TA}{np dW pos:Pos}
end
section
variable {M:Model}{A:ak}{Ex:Value->ah->Prop}
theorem a6Q{h:Heap}{g:Array GenState}{d:Drawn}{tk:Nat}{os:OsState}{e:Addr}{oe:Obj}{Q:Bool->ah->Prop}{C D N N':Addr}{nm OL q q':Str}{bs Sv bm Jc:List Value}{wL Qq:Bool}{sn LZ:List Str}{sub KW:List Value}{ab Ti:Bool}{col So:Option Bool}{dd Se:Option Addr}{k0 k1 k2 k3 k5 j0 j1 j2 j3 j5:Option Value}{newId a0V:String} (hC:h.get? C=some (excClassObj nm q C N bs bm wL sn sub ab col dd k0 k1 k2 k3 k5 newId))(hD:h.get? D=some (excClassObj OL q' D N' Sv Jc Qq LZ KW Ti So Se j0 j1 j2 j3 j5 a0V)) (he:h.get? e=some oe)(zh:oe.cls= .ref C)(hb:Jc.contains (.type "BaseException")=true)(hs:(Value.ref C::bm).contains (.ref D)=true) (hq:Q true ⟨h,g,d,tk,os⟩):wpAny M A (excMatches (.ref e) (.ref D)) Q Ex ⟨h,g,d,tk,os⟩:=by
 have hcB:(Value.ref D::Jc).contains (.type "BaseException")=true:=by rw[List.contains_cons,hb,Bool.or_true]
 have f:=tc_notTuple;unfold excMatches
 repeat (first|(with_reducible refine wpAny_loadPart_at he ?_;rw[zh])|with_reducible refine wpAny_loadPart_at hD ?_|(with_reducible refine wpAny_isSubtype_exc hD ?_;rw[hcB])|(with_reducible refine wpAny_isSubtype_exc hC ?_;rw[hs])|with_reducible refine wpAny_loadPart_at hC ?_|wp_step)
 exact hq
end
section
variable {X:Cx}{k:Nat}{x:Str}{p pos:Pos}{e:Expr}{es:List Expr}{t:TA}{sp:Sp}
end
abbrev Cx.hand(X:Cx)(ex:Addr):Cx:={X with A:=X.A.mark (some (.ref ex)),calm:=false,xe:=λ_ _=>False}
section
variable {X:Cx}{ay:List (Addr×Obj)}{O:St}{H:Hp}{s:ah}
theorem Inv.hand(I:Inv X ay O H s)(ex:Addr):Inv (X.hand ex) ay O H s:=⟨⟨I.ok.mod,I.ok.kind,I.ok.glob,I.ok.blt,I.ok.above,I.ok.inj,I.ok.has,I.ok.uZ,λh=>(iX h).elim,I.ok.frames,I.ok.vy,I.ok.Ck,I.ok.bs,I.ok.mZ,I.ok.tV,I.ok.pY,I.ok.kf,I.ok.pV⟩,I.os,I.bare,I.aA,I.loc,I.cell,I.free,I.kh,I.pin,I.bD,I.len⟩
theorem Inv.back{ex:Addr}(ok:X.Ok)(I:Inv (X.hand ex) ay O H s):Inv X ay O H s:=⟨ok,I.os,I.bare,I.aA,I.loc,I.cell,I.free,I.kh,I.pin,I.bD,I.len⟩
theorem V0{M:Model}{A:ak}{E:Value->ah->Prop}{i:Nat}{x:Str}{v:V}{pos:Pos}{Q:Unit->ah->Prop}(I:Inv X ay O H s)(hN:X.N.Nodup)(hi:X.N[i]? =some x)(hk:X.env.kindOf x=some .local)(hs:X.env.scope.names.lookup x=some .local) (hv:O[i]? =some (some v))(h:∀s',Inv X ay (O.set i none) H s'->Q () s'):wpAny M A (unbindBehindTheSuite X.env x pos) Q E s:=by
 obtain⟨m,hn,hl⟩:=id I.loc;have zh:(X.env.scope.kind== .class||(X.env.scope.kind== .module&&X.env.locals !=X.env.globals))=false:=by rw[I.ok.kind];rfl
 have C5:i<O.length:=by rw[I.len];exact(cv.mp hi).1
 have kj:=I.kj;obtain⟨u,r,look⟩:=hl i x v hi hv (.inl hs);have hm:m x=some u:=by
  rcases look with⟨_,e⟩|⟨k,_⟩
  ·exact e
  ·rcases k with k|k<;>(rw[hk]at k;cases k)
 unfold unbindBehindTheSuite;refine CS (wpAny_unbindName_local hk hn hm zh λh' u' Hv uj=>?_);obtain⟨oL,_,_,Qd,_⟩:=id hn;have tr:fc X.prog X.w H h':=λb ob e=>by
  refine(I.bD b ob e).nC (λc w' hc q=>(uj.2 c ?_).trans q) (λ_ q=>q) λ_ _ q=>q;rintro rfl;rcases hc with rfl|hc
  ·rw[I.free]at e;cases e
  ·rw[I.free]at hc;cases hc
 have lt:∀b o,X.s₀.heap.get? b=some o->b≠X.env.locals:=λb o e=>eQ (fO (cA e) I.ok.above);refine h _ ⟨I.ok,I.os,I.bare,⟨λb o e n hb hx=>(uj.2 b (lt b o e)).trans (I.aA.keep b o e n hb hx),λb o e n hb hx=>?_,I.aA.free,λb o e hx=>?_,I.aA.kA,I.aA.kg,I.aA.kB⟩,⟨_,Hv,λj y v' e1 e2 e3=>?_⟩,λy c e=>?_,I.free,I.kh,λp hp=>?_,tr,by simpa using I.len⟩
 ·obtain⟨sl,e1⟩:=I.aA.slot b o e n hb hx
  exact⟨sl,(uj.2 b (lt b o e)).trans e1⟩
 ·obtain⟨o',e1⟩:=I.aA.there b o e hx
  exact⟨o',(uj.2 b (lt b o e)).trans e1⟩
 ·by_cases hj:j=i
  ·subst hj
   rw[Aq C5]at e2;cases e2
  ·rw[K9 (jy hj)]at e2
   obtain⟨u2,r2,q⟩:=hl j y v' e1 e2 e3;refine⟨u2,r2,?_⟩;rcases q with⟨k,e⟩|⟨k,c,e,z⟩
   ·have:y≠x:=λe=>hj (Gs hN e1 (e▸hi))
    exact .inl ⟨k,by simp[this,e]⟩
   ·exact .inr ⟨k,c,e,z.sameBut uj (kj y c e)⟩
 ·obtain⟨w',z⟩:=I.cell y c e
  exact⟨w',z.sameBut uj (kj y c e)⟩
 ·obtain⟨e,n,ne,nf,d⟩:=I.pin p hp
  exact⟨(uj.2 p.1 ne).trans e,n,ne,nf,d⟩
end
def oy(X:Cx)(st:List Stmt)(t:TS):Prop:=∀(s:ah)(O:St)(H:Hp)(D:Ends),Inv X [] O H s->t D O H->wpAny (model X.prog X.w) X.A (execs st X.env) (SP X [] D) X.xe s
def Tw(X:Cx)(st:Stmt)(t:TS):Prop:=∀(s:ah)(O:St)(H:Hp)(D:Ends),Inv X [] O H s->t D O H->wpAny (model X.prog X.w) X.A (exec st X.env) (SP X [] D) X.xe s
theorem Inv.a8d{X:Cx}{ay:List (Addr×Obj)}{O:St}{H:Hp}{s:ah}(I:Inv X ay O H s):Inv X [] O H s:=⟨I.ok,I.os,I.bare,I.aA,I.loc,I.cell,I.free,I.kh,λp hp=>I.pin p (K7 _ (by simpa using hp)),I.bD,I.len⟩
theorem a5o{CX:kX}{P:ai}{w:World}{K:ag}{mg:bV}{aA:Heap}{k:Nat}{f:Addr}{name qual:Str}{params:Arguments}{body:List Stmt}{scope:Scope}{dV kV doc pm aM ct oc:Value}{an od:Option Addr} {hJ:Array (Option Value)}{N ps:List Str}{sp:Sp}(lk:K.lookup f=some ⟨oc,od,.func (PySem.W.fnOf name qual params body scope dV kV doc pm an aM ct),hJ⟩)(jo:PySem.W.codeIn K aM qual=true)(S:bj N ps scope) (len:∀vs H Q E,sp vs H Q E->vs.length=ps.length) (kP:∀(A:ak)(outer:List Env)(s:ah)(H:Hp)(vs:List V)(Q:VK)(E:XK),dE k (A.deeper (envOfC qual scope s.heap.objs.size f aM))->sp vs H Q E->∃t,oy (jK CX P w K mg aA N qual scope f aM A outer s H E) body t/\t {nx:=λ_ H'=>Q .bN H',rt:=Q} (start N vs) H): iU P w K mg aA CX (k+1) f (PySem.W.fnOf name qual params body scope dV kV doc pm an aM ct) ps sp:=by
 refine⟨len,λA outer s H args us vs Q E hr e0 hb r kM=>?_⟩;have hl:=len _ _ _ _ kM;have KX:K.In s.heap:=e0.mod.wD.keeps λb o e=>(e0.bs b o e).1;have lim:s.heap.NoLimit:=e0.mod.nolimit.keeps λb o e=>(e0.bs b o e).1;have ka:∀y∈ps.zip us,scope.names.lookup y.1=some .local\/(scope.names.lookup y.1=some .cell/\((cellsFrom (s.heap.objs.size+1) scope.names []).lookup y.1).isSome=true):=λ⟨n,v⟩ hy=>by
  rcases S.par n (Ak hy).1 with q|q
  ·exact .inl q
  ·exact .inr ⟨q,U9 _ _ _ (.inl q)⟩
 refine codeAny_call_function hr.depth (KX _ _ lk) Z S.co S.gen Z (PySem.W.codeRec_of KX jo) (hb _ _ _ _ ?_);refine wpAny_newFunctionEnv_cells S.kind ka λenv he s1 x=>?_;subst he;refine⟨lim.keeps x.toInCall.keep,codeAny_func ?_⟩;obtain⟨t,ht,hq⟩:=kP A outer s H vs Q E (hr.deeper _) kM;have I:Inv (jK CX P w K mg aA N qual scope f aM A outer s H E) [] (start N vs) H s1:=PV S hr.hd e0 hl r x;refine fU (ht s1 (start N vs) H _ I hq) (λfl s' hs=>?_) λe s' hs=>hs;have fin:∀{σ':St}{H':Hp}{v:V}{u:Value},Inv (jK CX P w K mg aA N qual scope f aM A outer s H E) [] σ' H' s'->RelV v u->Q v H'->CE outer P w H s Q u s':=λ{σ' H' v u} J rv q=>⟨v,H',J.os,J.bare,J.aA,J.bD,rv,q⟩;cases fl with |ret u=>obtain⟨v,σ',H',J,rv,q⟩:=hs;exact fin J rv q |next=>obtain⟨σ',H',J,q⟩:=hs;exact fin (v:=V.bN) (u:=Value.none) J Z q |brk=>obtain⟨_,_,_,q⟩:=hs;exact False.elim q |cont=>obtain⟨_,_,_,q⟩:=hs;exact False.elim q
def takes(K:ag)(C D:Addr):Prop:=PySem.W.mroIn K C (.ref D)=some true
section
variable {X:Cx}{i:Nat}{n y:Str}{Dc:Addr}{Jb:List Value}{newD:String}{body AW:List Stmt}{b0:Stmt}{np uo pos:Pos}{tb:XK->TS}{th:TS}{Cs:Addr->Prop}
end
end L2
namespace L2
open PySem PySem.Spec PyProof.Rows PySem.W Builtin.Getset_descriptor
section
variable {prog:ai}{w:World}{A:ak}{E:Value->ah->Prop}{h:Heap}{g:Array GenState}{d:Drawn}{t:Nat}{os:OsState}{K:Frag}{x C:Addr}{o:Obj}
end
end L2
namespace L2
open PySem PySem.Spec PyProof.Rows
section
variable {X:Cx}
end
abbrev Ja:List Value:=[.type "ValueError",.type "Exception",.type "BaseException",.type "object"]
abbrev OD:String:="ValueError.__new__"
theorem FA.a4b{P:ai}{w:World}{K:ag}{mg:bV}{aA:Heap}{x:Str}{st:Stmt}{N ps:List Str}{k:Nat}{sp:Sp}(F:FA K mg x st)(S:bj N ps (aX st))(len:∀vs H Q E,sp vs H Q E->vs.length=ps.length) (hb:∀(kV doc pm:Value)(an:Option Addr)(aM ct:Value)(us:List Value),us.length=ps.length->bindArgs (PySem.W.fnOf x x (m5 st) (ie st) (aX st) .none kV doc pm an aM ct) ⟨us,[]⟩=pure (ps.zip us)) (kP:∀(f:Addr)(aM:Value)(A:ak)(outer:List Env)(s:ah)(H:Hp)(vs:List V)(Q:VK)(E:XK),dE k (A.deeper (envOfC x (aX st) s.heap.objs.size f aM))->sp vs H Q E->∃t,oy (jK ja P w K mg aA N x (aX st) f aM A outer s H E) (ie st) t/\t {nx:=λ_ H'=>Q .bN H',rt:=Q} (start N vs) H):aF P w K mg aA x (k+1) sp:=by obtain⟨f,fd,hm,F⟩:=F.ex;have zj:=F.binds hb;have kp:=F.kp;obtain⟨oc,od,kV,doc,pm,an,aM,ct,hJ,rfl,lk,jo⟩:=F.ex;exact⟨f,_,ps,a5o lk jo S len λA outer s H vs Q E hr kM=>kP f aM A outer s H vs Q E hr kM,hm,kp,zj⟩
end L2
namespace Ar
theorem a53(a b:Int):Int.gcd b (a.fmod b)=Int.gcd a b:=by rw[Int.fmod_def,Int.gcd_sub_mul_left_right,Int.gcd_comm]
theorem QN{a b:Int}(h:0<b):Int.gcd b (a%b)=Int.gcd a b:=by rw[<-Int.fmod_eq_emod_of_nonneg a (Dj h)];exact a53 a b
def sg(p q:Int):Int:=if q<0 then-(Int.gcd p q:Int)else(Int.gcd p q:Int)
def lowP (p q:Int):Int:=p.fdiv (sg p q)
def gB (p q:Int):Int:=q.fdiv (sg p q)
theorem Ce{p q:Int}(h:q≠0):0<(Int.gcd p q:Int):=by
 have:Int.gcd p q≠0:=λz=>h (Int.gcd_eq_zero_iff.mp z).2
 lia
theorem y8{p q:Int}(h:q≠0):sg p q≠0:=by have:=Ce (p:=p) h;unfold sg;split<;>omega
theorem M5(p q:Int):sg p q∣p:=by
 unfold sg;split
 ·exact Int.neg_dvd.mpr (Int.gcd_dvd_left p q)
 ·exact Int.gcd_dvd_left p q
theorem M4(p q:Int):sg p q∣q:=by
 unfold sg;split
 ·exact Int.neg_dvd.mpr (Int.gcd_dvd_right p q)
 ·exact Int.gcd_dvd_right p q
theorem GO(p q:Int):sg p q*lowP p q=p:=by unfold lowP;rw[Int.fdiv_eq_ediv_of_dvd (M5 p q)];exact Int.mul_ediv_cancel' (M5 p q)
theorem BI(p q:Int):sg p q*gB p q=q:=by unfold gB;rw[Int.fdiv_eq_ediv_of_dvd (M4 p q)];exact Int.mul_ediv_cancel' (M4 p q)
theorem M6(p q:Int):(sg p q).natAbs=Int.gcd p q:=by unfold sg;split<;>lia
theorem a22{p q:Int}(h:q≠0):Int.gcd (lowP p q) (gB p q)=1:=by
 have e:Int.gcd (sg p q*lowP p q) (sg p q*gB p q)=(sg p q).natAbs*Int.gcd (lowP p q) (gB p q):=Int.gcd_mul_left _ _ _;rw[GO,BI,M6]at e;have g:=Ce (p:=p) h;have g':0<Int.gcd p q:=by lia
 have e':Int.gcd p q*1=Int.gcd p q*Int.gcd (lowP p q) (gB p q):=by lia
 exact(Nat.eq_of_mul_eq_mul_left g' e').symm
theorem a23{p q:Int}(h:q≠0):0<gB p q:=by
 have e:=BI p q;have g:=Ce (p:=p) h;by_cases hq:q<0
 ·have es:sg p q=-(Int.gcd p q:Int):=by unfold sg;rw[bo hq]
  rw[es]at e;refine Int.not_le.mp λhl=>?_;have:0<=-(Int.gcd p q:Int)*gB p q:=Uo aw hl
  lia
 ·have es:sg p q=(Int.gcd p q:Int):=by unfold sg;rw[bB hq]
  rw[es]at e;refine Int.not_le.mp λhl=>?_;have:(Int.gcd p q:Int)*gB p q<=0:=Int.mul_nonpos_of_nonneg_of_nonpos aw hl
  lia
theorem Th{s x y:Int}(hs:s≠0)(e:s*x=y):x.natAbs<=y.natAbs:=by rw[<-e,gm];exact Nat.le_mul_of_pos_left _ aw
theorem a24{p q:Int}(h:q≠0):(lowP p q).natAbs<=p.natAbs:=Th (y8 h) (GO p q)
theorem Pg{p q:Int}(h:q≠0):(gB p q).natAbs<=q.natAbs:=Th (y8 h) (BI p q)
theorem M1{p q:Int}(h:q≠0):(sg p q).natAbs<=q.natAbs:=by rw[M6];exact Nat.le_of_dvd aw (Int.gcd_dvd_natAbs_right p q)
end Ar
namespace Rt
open Rat
theorem BH{a b:Int}(hb:b≠0):Ar.lowP a b=(Rat.divInt a b).num/\Ar.gB a b=((Rat.divInt a b).den:Int):=by
 have hp:=Ar.a23 (p:=a) hb;have hc:=Ar.a22 (p:=a) hb;have a3X:(Ar.gB a b).natAbs≠0:=by lia
 have a41:(Ar.lowP a b).natAbs.Coprime (Ar.gB a b).natAbs:=hc;have e1:Rat.divInt a b=Rat.divInt (Ar.lowP a b) (Ar.gB a b):=by have h:=Rat.divInt_mul_left (a:=Ar.sg a b) (n:=Ar.lowP a b) (d:=Ar.gB a b) (Ar.y8 hb);rw[Ar.GO,Ar.BI]at h;exact h
 have e2:(⟨Ar.lowP a b,(Ar.gB a b).natAbs,a3X,a41⟩:Rat)=Rat.divInt (Ar.lowP a b) (((Ar.gB a b).natAbs:Nat):Int):=Rat.mk_eq_divInt;have e3:(((Ar.gB a b).natAbs:Nat):Int)=Ar.gB a b:=by lia
 rw[e3]at e2;rw[e1,<-e2];exact⟨Z,e3.symm⟩
theorem den_pos(r:Rat):(0:Int)<(r.den:Int):=by have:=r.den_pos;omega
theorem cop(r:Rat):Int.gcd r.num r.den=1:=by have:=r.reduced;simpa[Int.gcd,Nat.Coprime]using this
structure Bd(n:Nat)(r:Rat):Prop where
 num:r.num.natAbs<2^n
 den:r.den<2^n
theorem Bd.mono{n m:Nat}{r:Rat}(h:Bd n r)(l:n<=m):Bd m r:=⟨fO h.num (qA aB l),fO h.den (qA aB l)⟩
theorem mG{a b n m:Nat}(h:a<2^n)(g:b<2^m):a*b<2^(n+m):=by rw[Nat.pow_add];exact Nat.mul_lt_mul'' h g
theorem lN{n:Nat}{a b:Int}(hb:b≠0)(h1:a.natAbs<2^n)(h2:b.natAbs<2^n):Bd n (Rat.divInt a b):=by
 obtain⟨e1,e2⟩:=BH (a:=a) hb;have l1:=Ar.a24 (p:=a) hb;have l2:=Ar.Pg (p:=a) hb;refine⟨?_,?_⟩
 ·rw[<-e1];lia
 ·lia
theorem qi(r s:Rat):(r.den:Int)*(s.den:Int)≠0:=Int.ne_of_gt (gX (den_pos r) (den_pos s))
theorem add_div(r s:Rat):r+s=Rat.divInt (r.num*s.den+s.num*r.den) (r.den*s.den):=by have h:=Rat.divInt_add_divInt r.num s.num (d₁:=r.den) (d₂:=s.den) (by have:=den_pos r;lia) (by have:=den_pos s;lia);rw[sT,sT]at h;exact h
theorem W3(r s:Rat):r-s=Rat.divInt (r.num*s.den-s.num*r.den) (r.den*s.den):=by have h:=U6 r.num s.num (d₁:=r.den) (d₂:=s.den) (by have:=den_pos r;lia) (by have:=den_pos s;lia);rw[sT,sT]at h;exact h
theorem mul_div(r s:Rat):r*s=Rat.divInt (r.num*s.num) (r.den*s.den):=by have h:=Rat.divInt_mul_divInt r.num s.num (d₁:=r.den) (d₂:=s.den);rw[sT,sT]at h;exact h
section
variable {n m:Nat} {r s:Rat}
theorem a7A(h:Bd n r)(g:Bd m s):(r.num*s.den).natAbs<2^(n+m):=by rw[gm];exact mG h.num (by have:=g.den;omega)
theorem a7z(h:Bd n r)(g:Bd m s):(s.num*r.den).natAbs<2^(n+m):=by rw[gm,Nat.mul_comm];exact mG (by have:=h.den;lia) g.num
theorem J0(h:Bd n r)(g:Bd m s):((r.den:Int)*(s.den:Int)).natAbs<2^(n+m):=by rw[gm];exact mG (by have:=h.den;lia) (by have:=g.den;lia)
theorem Bd.add(h:Bd n r)(g:Bd m s):Bd (n+m+1) (r+s):=by
 rw[add_div];have h1:=a7A h g;have h2:=a7z h g;have h3:=J0 h g;have e:2^(n+m+1)=2^(n+m)+2^(n+m):=by rw[Nat.pow_succ];omega
 exact lN (qi r s) cj cj
theorem Bd.mul(h:Bd n r)(g:Bd m s):Bd (n+m) (r*s):=by rw[mul_div];exact lN (qi r s) (by rw[gm];exact mG h.num g.num) (J0 h g)
end
end Rt
namespace L2
open PySem PySem.Spec PyProof.Rows
def dX(H H':Hp):Prop:=∀b o,(∀xs,o≠ .lst xs)->H b=some o->H' b=some o
section
variable {K:ag} {H H' H2:Hp}
theorem dX.trans(a:dX H H')(b:dX H' H2):dX H H2:=λc o n e=>b c o n (a c o n e)
theorem dX.gY{D:Addr}{xs ys:List V}(h:H D=some (.lst xs)):dX H (upd H D (.lst ys)):=λb o n e=>by rw[aV (yF e h (n xs))];exact e
theorem aU.t{a:Addr}{xs:List V}(s:dX H H')(h:aU K H a xs):aU K H' a xs:=h.imp (λr=>r.imp (s _ _ λ_ z=>nomatch z) λ⟨o,e⟩=>⟨o,s _ _ (λ_ z=>nomatch z) e⟩) id
mutual
def dw:aj->Bool | .list _=>false | .dict _=>false | .tuple ds=>bM ds | .none=>true | .bool _=>true | .int _=>true | .str _=>true
def bM:List aj->Bool |[]=>true |d::ds=>dw d&&bM ds
end
theorem cu:∀{ds:List aj},bM ds=true↔∀d∈ds,dw d=true
 |[]=>⟨λ_ _ h=>(nomatch h),λ_=>by simp[bM]⟩ |d::ds=>by
  rw[bM,fG,cu (ds:=ds)];constructor
  ·rintro⟨a,b⟩ x hx
   rcases dh.mp hx with rfl|hx
   ·exact a
   ·exact b x hx
  ·intro h
   exact⟨h d (.head _),λx hx=>h x (.tail _ hx)⟩
theorem kI(ns:List Int):bM (ns.map PyData.int)=true:=cu.mpr λd hd=>by obtain⟨i,_,rfl⟩:=fW.mp hd;simp[dw]
mutual
theorem RD.t(s:dX H H'):∀{x:V}(d:aj),dw d=true->RD K H x d->RD K H' x d |x,.none,_,h=>by simpa[RD]using h |x,.bool b,_,h=>by simpa[RD]using h |x,.int i,_,h=>by simpa[RD]using h |x,.str y,_,h=>by simpa[RD]using h |x,.list ds,n,h=>by simp[dw]at n |x,.tuple ds,n,h=>by rw[RD]at h⊢;obtain⟨a,xs,e,h1,h2⟩:=h;exact⟨a,xs,e,h1.t s,aJ.t s ds (by simpa[dw]using n) h2⟩ |x,.dict _,_,h=>by simp[RD]at h
theorem aJ.t (s:dX H H'):∀{xs:List V}(ds:List aj),bM ds=true->aJ K H xs ds->aJ K H' xs ds |xs,[],_,h=>by simpa[aJ]using h |xs,d::ds,n,h=>by rw[aJ]at h⊢;rw[bM,fG]at n;obtain⟨y,ys,e,h1,h2⟩:=h;exact⟨y,ys,e,RD.t s d n.1 h1,aJ.t s ds n.2 h2⟩
end
theorem aJ.hZ:∀{xs:List V}{ns:List Int},aJ K H xs (ns.map PyData.int)->xs=ns.map V.int |xs,[],h=>h.nil_inv |xs,n::ns,h=>by obtain⟨y,ys,rfl,h1,h2⟩:=h.cons_inv;rw[h1.int_inv,aJ.hZ h2];rfl
theorem qS:∀(ns:List Int),aJ K H (ns.map V.int) (ns.map PyData.int) |[]=>cH |n::ns=>cf (dN n) (qS ns)
theorem J4{J:It}{xs:List V}{ds:List aj}{te:TE}{Q:VK}{D:Addr}{H0:Hp}(rest:St)(nw:Nw H H0 D (.lst []))(hl:xs.length=ds.length)(hz:xs.length<=1000)(hn:bM ds=true) (go:∀i x H2,xs[i]? =some x->aH H H2->J.go i H2/\∀y H3,J.jf i H2 y H3->H3=H2/\y=x)(stop:∀H2,aH H H2->J.stop xs.length H2) (hs:∀(i:Nat)(x:V)(d:aj)(H2:Hp)(Q':VK),xs[i]? =some x->ds[i]? =some d->aH H H2->(∀y H3,aH H2 H3->RD K H3 y d->Q' y H3)->te (some x::rest) H2 Q') (hq:∀H' ys,aH H H'->H' D=some (.lst ys)->aJ K H' ys ds->Q (.ref D) H'):ku J (g9 0) jA te Q D (none::rest) H0:=by
 have hD:=nw.no;refine uY xs.length (λi O H2=>aH H H2/\(∃ys,H2 D=some (.lst ys)/\aJ K H2 ys (ds.take i))/\∃v,O=v::rest) ?_ ?_ ?_
 ·exact⟨nw.same,⟨[],nw.at',cH⟩,none,Z⟩
 ·rintro i O H2 hi ⟨s2,⟨ys,d2,r2⟩,v,rfl⟩
  have C7:i<ds.length:=by rw[<-hl];exact hi
  have ex:=bu hi;have eb:=bu C7;obtain⟨g1,g2⟩:=go i _ H2 ex s2;refine⟨g1,λy H3 hy=>?_⟩;obtain⟨rfl,rfl⟩:=g2 y H3 hy;refine AF ?_;refine hs i _ _ _ _ ex eb s2 λz H4 s4 r4=>?_;have d4:=s4 _ _ d2;have len:=r2.length;rw[je]at len;refine⟨ys,d4,?_,xs.length-(i+1),aw,Z,aw,λb o e=>?_,⟨ys++[z],bQ,?_⟩,_,Z⟩
  ·have:(1000:Nat)<sizeLine:=by decide
   lia
  ·rw[aV (dU e hD)];exact s4 b o (s2 b o e)
  ·have t:dX H4 (upd H4 D (.lst (ys++[z]))):=.gY d4
   rw[kx,eb];have n1:bM (ds.take i)=true:=cu.mpr λd hd=>cu.mp hn d (Al hd);exact(aJ.t t _ n1 (aJ.mono s4 _ r2)).append (cf (RD.t t _ (cu.mp hn _ (xG C7)) r4) cH)
 ·rintro O H2 ⟨s2,⟨ys,d2,r2⟩,v,rfl⟩
  refine⟨stop H2 s2,hq H2 ys s2 d2 ?_⟩;rw[hl,xD]at r2;exact r2
theorem Cy{a:Addr}{xs:List V}{ds:List aj}{te:TE}{Q:VK}{D:Addr}{H0:Hp}(rest:St)(hx:aU K H a xs)(nw:Nw H H0 D (.lst []))(hl:xs.length=ds.length)(hz:xs.length<=1000)(hn:bM ds=true) (hs:∀(i:Nat)(x:V)(d:aj)(H2:Hp)(Q':VK),xs[i]? =some x->ds[i]? =some d->aH H H2->(∀y H3,aH H2 H3->RD K H3 y d->Q' y H3)->te (some x::rest) H2 Q') (hq:∀H' ys,aH H H'->H' D=some (.lst ys)->aJ K H' ys ds->Q (.ref D) H'):ku (sQ K a) (g9 0) jA te Q D (none::rest) H0:=J4 rest nw hl hz hn (λi x H2 e s=>⟨⟨xs,x,hx.go s,e⟩,λy H3 ⟨e3,y3⟩=>⟨e3,by have:=y3 _ (hx.go s);rw[e]at this;exact(eO this).symm⟩⟩) (λH2 s=>⟨xs,hx.go s,bf _⟩) hs hq
theorem Sj{a:Addr}{xs:List V}{ds:List aj}{te:TE}{Q:VK}{D:Addr}{H0:Hp}(rest:St)(hx:aK K H a xs)(nw:Nw H H0 D (.lst []))(hl:xs.length=ds.length)(hz:xs.length<=1000)(hn:bM ds=true) (hs:∀(i:Nat)(x:V)(d:aj)(H2:Hp)(Q':VK),xs[i]? =some x->ds[i]? =some d->aH H H2->(∀y H3,aH H2 H3->RD K H3 y d->Q' y H3)->te (some x::rest) H2 Q') (hq:∀H' ys,aH H H'->H' D=some (.lst ys)->aJ K H' ys ds->Q (.ref D) H'):ku (sR K a) (g9 0) jA te Q D (none::rest) H0:=J4 rest nw hl hz hn (λi x H2 e s=>⟨⟨xs,x,hx.go s,e⟩,λy H3 ⟨e3,y3⟩=>⟨e3,by have:=y3 _ (hx.go s);rw[e]at this;exact(eO this).symm⟩⟩) (λH2 s=>⟨xs,hx.go s,bf _⟩) hs hq
theorem Si{lo:Int}{n:Nat}{ds:List aj}{te:TE}{Q:VK}{D:Addr}{H0:Hp}(rest:St)(nw:Nw H H0 D (.lst []))(hl:n=ds.length)(hz:n<=1000)(hn:bM ds=true) (hs:∀(i:Nat)(d:aj)(H2:Hp)(Q':VK),ds[i]? =some d->aH H H2->(∀y H3,aH H2 H3->RD K H3 y d->Q' y H3)->te (some (.int (lo+i))::rest) H2 Q') (hq:∀H' ys,aH H H'->H' D=some (.lst ys)->aJ K H' ys ds->Q (.ref D) H'):ku (oz lo n) (g9 0) jA te Q D (none::rest) H0:=by
 have hx:∀i x,((List.range n).map λi:Nat=>V.int (lo+i))[i]? =some x->i<n/\x= .int (lo+i):=λi x e=>by rw[bX]at e;cases h:(List.range n)[i]? with |none=>rw[h]at e;cases e |some j=>rw[h]at e;obtain⟨h1,h2⟩:=cv.mp h;rw[vq]at h2;subst h2;exact⟨by simpa using h1,(eO e).symm⟩
 refine J4 (xs:=(List.range n).map λi:Nat=>V.int (lo+i)) rest nw (by simpa using hl) (by simpa using hz) hn (λi x H2 e s=>?_) (λH2 s=>?_) (λi x d H2 Q' e1 e2 s k=>?_) hq
 ·obtain⟨h1,rfl⟩:=hx i x e
  exact⟨h1,λy H3 ⟨e3,y3⟩=>⟨e3,y3⟩⟩
 ·show n<=_
  simp
 ·obtain⟨h1,rfl⟩:=hx i x e1
  exact hs i d H2 Q' e2 s k
theorem uX{b1 b2:Bool}{l1 l2:Addr}{xs ys:List V}{ds:List aj}{te:TE}{Q:VK}{D:Addr}{H0:Hp}{n:Nat}(rest:St)(wH:n=2)(h1:eG b1 K H l1 xs)(h2:eG b2 K H l2 ys)(nw:Nw H H0 D (.lst [])) (hl:min xs.length ys.length=ds.length)(hz:ds.length<=1000)(hn:bM ds=true) (hs:∀(i:Nat)(x y:V)(d:aj)(H2:Hp)(Q':VK),xs[i]? =some x->ys[i]? =some y->ds[i]? =some d->aH H H2->(∀z H3,aH H2 H3->RD K H3 z d->Q' z H3)->te (some x::some y::rest) H2 Q') (hq:∀H' zs,aH H H'->H' D=some (.lst zs)->aJ K H' zs ds->Q (.ref D) H'):ku (sP K b1 b2 l1 l2) (zq K n (uI (g9 0) (uI (g9 1) Cf))) jA te Q D (none::none::rest) H0:=by
 subst wH;have hD:=nw.no;refine uY ds.length (λi O H2=>aH H H2/\(∃zs,H2 D=some (.lst zs)/\aJ K H2 zs (ds.take i))/\∃v v',O=v::v'::rest) ?_ ?_ ?_
 ·exact⟨nw.same,⟨[],nw.at',cH⟩,none,none,Z⟩
 ·rintro i O H2 hi ⟨s2,⟨zs,d2,r2⟩,v,v',rfl⟩
  have hx:i<xs.length:=by lia
  have hy:i<ys.length:=by lia
  have ex:=bu hx;have ey:=bu hy;have eb:=bu hi;refine⟨⟨xs,ys,_,_,h1.go s2,h2.go s2,ex,ey⟩,λy' H3 kK=>?_⟩;obtain⟨T,x0,y0,rfl,k1,k2,n3⟩:=kK;have e1:=k1 _ (h1.go s2);have e2:=k2 _ (h2.go s2);rw[ex]at e1;rw[ey]at e2;cases e1;cases e2;refine⟨T,_,Z,aU.of n3.at',Z,_,_,Z,_,_,Z,Z,?_⟩;refine yes (bK ?_);refine hs i _ _ _ _ _ ex ey eb (s2.trans n3.same) λz H4 s4 r4=>?_;have gu:=n3.same.trans s4;have d4:=gu _ _ d2;have len:=r2.length;rw[je]at len;refine⟨zs,d4,?_,ds.length-(i+1),aw,Z,aw,λb o e=>?_,⟨zs++[z],bQ,?_⟩,_,_,Z⟩
  ·have:(1000:Nat)<sizeLine:=by decide
   lia
  ·rw[aV (dU e hD)];exact gu b o (s2 b o e)
  ·have t:dX H4 (upd H4 D (.lst (zs++[z]))):=.gY d4
   rw[kx,eb];have n1:bM (ds.take i)=true:=cu.mpr λd hd=>cu.mp hn d (Al hd);exact(aJ.t t _ n1 (aJ.mono gu _ r2)).append (cf (RD.t t _ (cu.mp hn _ (xG hi)) r4) cH)
 ·rintro O H2 ⟨s2,⟨zs,d2,r2⟩,v,v',rfl⟩
  refine⟨⟨xs,ys,h1.go s2,h2.go s2,aw⟩,hq H2 zs s2 d2 ?_⟩;rw[xD]at r2;exact r2
end
theorem PY:∀{ns:List Int}{us:List Value},Vals (ns.map V.int) us->(∀v∈us,∃a t,v=Value.int a t)/\numsOf us=ns
 |[],_,.nil=>⟨λ_ h=>(nomatch h),rfl⟩ |n::ns,_,.cons q r=>by
  obtain⟨t,rfl⟩:=(show∃t,_=Value.int n t from q);obtain⟨h1,h2⟩:=PY r;refine⟨λv hv=>?_,?_⟩
  ·rcases dh.mp hv with rfl|hv
   ·exact⟨n,t,Z⟩
   ·exact h1 v hv
  ·show n::numsOf _=_
   rw[h2]
section
variable {X:Cx}
theorem GF(K:ag)(hK:X.K=K)(hc:X.calm=true):fw X (.builtin "max") (λxs H Q=>∃(l:Addr)(ns:List Int),xs=[.ref l]/\aK K H l (ns.map V.int)/\ns≠[]/\∀M,M∈ns->(∀a∈ns,a<=M)->Q (.int M) H):=by
 subst hK;intro ay s O H xs us Q I r h;obtain⟨l,ns,rfl,hl,dH,q⟩:=h;obtain⟨u,rfl,ru⟩:=vals1 r;cases(show u=Value.ref l from ru);obtain⟨its,rv,pl,hz⟩:=I.list hl;obtain⟨a1,a2⟩:=PY rv;have all:AllInts its.toArray:=λv hv=>a1 v (by simpa using hv);obtain⟨ps,Qa⟩:=all.items;have e0:numsOf (intItems ps).toList=ns:=by rw[<-Qa];exact a2
 rw[nums_intItems]at e0;have hlen:ps.size=ns.length:=by rw[<-e0,bL,Ax]
 have uo:0<ps.size:=by rw[hlen];exact Ao.mpr dH
 refine max_intList (I.ok.hd hc) (by rw[<-Qa];exact pl.isList) uo λv h' tk hv hk=>?_;obtain⟨t,rfl⟩:=intItems_at hv;obtain⟨h1,h2⟩:=argBest_gt (numAt ps) (ps.size-1);refine⟨.int _,H,I.kept hk,⟨_,Z⟩,q _ ?_ λa ha=>?_⟩
 ·rw[numAt_eq,e0];exact getD_mem cj
 ·obtain⟨j,hj,rfl⟩:=mem_getD ha
  rw[<-e0,<-numAt_eq];exact h2 j cj
theorem PZ{ns:List Int}{us:List Value}(r:Vals (ns.map V.int) us){i:Nat}{v:Value}(h:us[i]? =some v):∃n t,ns[i]? =some n/\v=Value.int n t:=by
 have hl:=r.length;rw[bL]at hl;have hi:i<ns.length:=by rw[hl];exact(cv.mp h).1
 obtain⟨u,e,ru⟩:=r.get (i:=i) (x:=.int ns[i]) (by rw[bX,bu hi];rfl);rw[h]at e;cases e;obtain⟨t,rfl⟩:=(show∃t,v=Value.int ns[i] t from ru);exact⟨_,t,bu hi,Z⟩
theorem XJ(ns:List Int):((List.range ns.length).any λi=>((ns.map (· !=0))[i]?).getD false)=ns.any (· !=0):=by have:=LSm.range_any (ns.map (· !=0));rw[bL]at this;rw[this,List.any_map];rfl
theorem a8p(K:ag)(hK:X.K=K)(hc:X.calm=true):fw X (.builtin "any") (λxs H Q=>∃(l:Addr)(ns:List Int),xs=[.ref l]/\(aK K H l (ns.map V.int)\/aU K H l (ns.map V.int))/\Q (.bl (ns.any (· !=0))) H):=by
 subst hK;intro ay s O H xs us Q I r h;obtain⟨l,ns,rfl,hl,q⟩:=h;obtain⟨u,rfl,ru⟩:=vals1 r;cases(show u=Value.ref l from ru);have hh:=I.ok.hd hc;have fin:∀(its:List Value),Vals (ns.map V.int) its->((List.range its.toArray.size).any λi=>((ns.map (· !=0))[i]?).getD false)=ns.any (· !=0):=λits rv=>by rw[dY,<-rv.length,bL];exact XJ ns
 rcases hl with hl|hl
 ·obtain⟨its,rv,pl,hz⟩:=I.list hl
  have gE:=pl.isList;have bP:l<s.heap.objs.size:=by obtain⟨_,e,_⟩:=gE;exact cA e
  refine call_any_walk (CQ gE ?_);refine⟨s.heap.objs.size,[s.heap.objs.size,l],[s.heap.objs.size],its.toArray.size,_,_,λi=>((ns.map (· !=0))[i]?).getD false,Z,Walks.list (A:=X.A.in1) hh _ l (eQ bP) its.toArray,⟨⟨_,fj _ Z,Z,Z⟩,gE.push _⟩,λi v s' Q' E' hP hQ=>?_,λh' tk hk=>?_⟩
  ·obtain⟨n,t,e,rfl⟩:=PZ rv (i:=i) (v:=v) (by simpa using hP)
   simp only[bX,e]at hQ;exact truthy_int hQ
  ·rw[fin its rv]
   exact⟨.bl _,H,I.kept (LSm.kept_iter hk),Z,q⟩
 ·obtain⟨its,rv,pl,hz⟩:=I.tuple hl
  have gE:s.heap.IsTuple l its.toArray:=by obtain⟨⟨cls,dd,data,sl⟩,ho,kb,n,hd⟩:=pl;exact⟨_,ho,kb,by simpa using⟨n,hd⟩⟩
  have bP:l<s.heap.objs.size:=by obtain⟨_,e,_⟩:=gE;exact cA e
  refine call_any_walk (wpAny_pyIter_tuple gE ?_);refine⟨s.heap.objs.size,[s.heap.objs.size,l],[s.heap.objs.size],its.toArray.size,_,_,λi=>((ns.map (· !=0))[i]?).getD false,Z,Walks.tuple (A:=X.A.in1) hh _ l (eQ bP) its.toArray,⟨⟨_,fj _ Z,Z,Z⟩,gE.push _⟩,λi v s' Q' E' hP hQ=>?_,λh' tk hk=>?_⟩
  ·obtain⟨n,t,e,rfl⟩:=PZ rv (i:=i) (v:=v) (by simpa using hP)
   simp only[bX,e]at hQ;exact truthy_int hQ
  ·rw[fin its rv]
   exact⟨.bl _,H,I.kept (LSm.kept_iter hk),Z,q⟩
end
end L2
set_option maxHeartbeats 1000000
namespace Lw
open PySem PySem.Spec PyProof.Rows L2
def Tz(c m:Int):Prop:=0<=c/\0<=m/\m<2147483648
def gh(H:Hp)(p:Addr):Prop:=∃c m,H p=some (.lst [.int c,.int m])/\Tz c m
structure bF(p:Addr)(H H':Hp):Prop where
 bI:gh H' p
 same:∀b o,b≠p->H b=some o->H' b=some o
theorem bF.refl{p:Addr}{H:Hp}(h:gh H p):bF p H H:=⟨h,λ_ _ _ e=>e⟩
theorem bF.trans{p:Addr}{H H1 H2:Hp}(a:bF p H H1)(b:bF p H1 H2):bF p H H2:=⟨b.bI,λc o n e=>b.same c o n (a.same c o n e)⟩
theorem bF.upd{p:Addr}{H:Hp}{c m:Int}(h:Tz c m):bF p H (L2.upd H p (.lst [.int c,.int m])):=⟨⟨c,m,bQ,h⟩,λb o n e=>by rw[aV n];exact e⟩
theorem bF.fH{p:Addr}{H H':Hp}(h:gh H p)(s:aH H H'):bF p H H':=by obtain⟨c,m,e,ok⟩:=h;exact⟨⟨c,m,s _ _ e,ok⟩,λb o _ e=>s b o e⟩
theorem Ko{j:Int}(h0:0<=j)(h:j<=10^40):Wd j:=by
 have:j.natAbs<=10^40:=by lia
 exact xB this aQ
theorem gh.ne{H:Hp}{p:Addr}(h:gh H p):H p≠none:=by obtain⟨c,m,e,_⟩:=h;rw[e];exact λz=>nomatch z
theorem gh.a0Z{H:Hp}{p:Addr}{q:Addr}{o:HO}(h:gh H p)(e:H q=some o)(n:∀xs,o≠ .lst xs):q≠p:=by obtain⟨c,m,e',_⟩:=h;exact yF e e' (n _)
theorem bF.t{p:Addr}{H H':Hp}(bg:gh H p)(b:bF p H H'):dX H H':=λc o n e=>b.same c o (bg.a0Z e n) e
theorem bF.WK{p:Addr}{H0 H H':Hp}(s:aH H0 H)(hp:H0 p=none)(b:bF p H H'):aH H0 H':=λc o e=>b.same c o (dU e hp) (s c o e)
section
variable {K:ag}
theorem a7J{J:It}{te:TE}{Q:VK}{D p:Addr}{H H0:Hp}(n:Nat)(rest:L2.St)(nw:Nw H H0 D (.lst []))(bg:gh H p)(hn:n<=1000)(xv:Nat->V) (go:∀i H2,i<n->bF p H H2->J.go i H2/\∀y H3,J.jf i H2 y H3->H3=H2/\y=xv i)(stop:∀H2,bF p H H2->J.stop n H2)(Pz:Int->Prop) (hs:∀i H2 (Q':VK),i<n->bF p H H2->(∀z H3,Pz z->bF p H2 H3->Q' (.int z) H3)->te (some (xv i)::rest) H2 Q') (hq:∀H' (is:List Int),bF p H H'->H' D=some (.lst (is.map V.int))->is.length=n->(∀z∈is,Pz z)->Q (.ref D) H'):ku J (g9 0) jA te Q D (none::rest) H0:=by
 have zo:D≠p:=λe=>bg.ne (e▸nw.no);refine uY n (λi O H3=>bF p H H3/\(∃is:List Int,H3 D=some (.lst (is.map V.int))/\is.length=i/\∀z∈is,Pz z)/\∃v,O=v::rest) ?_ ?_ ?_
 ·exact⟨.fH bg nw.same,⟨[],nw.at',Z,λ_ h=>(fV h).elim⟩,none,Z⟩
 ·rintro i O H3 hi ⟨b3,⟨is,d3,li,pi⟩,v,rfl⟩
  obtain⟨g1,g2⟩:=go i H3 hi b3;refine⟨g1,λy H4 hy=>?_⟩;obtain⟨rfl,rfl⟩:=g2 y H4 hy;refine AF ?_;refine hs i _ _ hi b3 λz H5 pz b5=>?_;refine⟨_,b5.same _ _ zo d3,?_,n-(i+1),aw,Z,aw,?_,⟨is++[z],?_,?_,?_⟩,_,Z⟩
  ·rw[bL,li]
   have:(1000:Nat)<sizeLine:=by decide
   lia
  ·have zU:=b3.trans b5
   refine⟨?_,λb o n e=>?_⟩
   ·obtain⟨c,m,e,ok⟩:=zU.bI
    exact⟨c,m,by rw[aV zo.symm];exact e,ok⟩
   ·rw[aV (dU e nw.no)];exact zU.same b o n e
  ·rw[bQ,jd];rfl
  ·rw[cE,li];rfl
  ·intro y hy
   rcases jz.mp hy with h|h
   ·exact pi y h
   ·rw[fF.mp h];exact pz
 ·rintro O H3 ⟨b3,⟨is,d3,li,pi⟩,v,rfl⟩
  exact⟨stop H3 b3,hq H3 is b3 d3 li pi⟩
theorem a2F(ns:List Int){i:Int}(h0:0<=i)(h:i<ns.length):∃z,z∈ns/\ft (ns.map V.int) i=some (.int z):=by
 have hl:i.toNat<ns.length:=by omega
 exact⟨ns[i.toNat],xG hl,cL h0 (by rw[bX,bu hl];rfl)⟩
theorem Sk{J:It}{te:TE}{Q:VK}{D p:Addr}{H H0:Hp}(n:Nat)(rest:L2.St)(nw:Nw H H0 D (.lst []))(bg:gh H p)(hn:n<=1000)(xv:Nat->V) (go:∀i H2,i<n->bF p H H2->J.go i H2/\∀y H3,J.jf i H2 y H3->H3=H2/\y=xv i)(stop:∀H2,bF p H H2->J.stop n H2)(Pd:Nat->aj->Prop) (hs:∀i H2 (Q':VK),i<n->bF p H H2->(∀y d H3,Pd i d->dw d=true->RD K H3 y d->bF p H2 H3->Q' y H3)->te (some (xv i)::rest) H2 Q') (hq:∀H' ys ds,bF p H H'->H' D=some (.lst ys)->aJ K H' ys ds->ds.length=n->bM ds=true->(∀i d,ds[i]? =some d->Pd i d)->Q (.ref D) H'):ku J (g9 0) jA te Q D (none::rest) H0:=by
  have zo:D≠p:=λe=>bg.ne (e▸nw.no);refine uY n (λi O H3=>bF p H H3/\(∃ys ds,H3 D=some (.lst ys)/\aJ K H3 ys ds/\ds.length=i/\bM ds=true/\∀j d,ds[j]? =some d->Pd j d)/\∃v,O=v::rest) ?_ ?_ ?_
  ·exact⟨.fH bg nw.same,⟨[],[],nw.at',cH,Z,Z,λj d e=>by simp at e⟩,none,Z⟩
  · rintro i O H3 hi ⟨b3,⟨ys,ds,d3,r3,li,ni,pi⟩,v,rfl⟩
    obtain⟨g1,g2⟩:=go i H3 hi b3;refine⟨g1,λy H4 hy=>?_⟩;obtain⟨rfl,rfl⟩:=g2 y H4 hy;refine AF ?_;refine hs i _ _ hi b3 λz d H5 pz nz rz b5=>?_;have d5:=b5.same _ _ zo d3;have t:dX H5 (L2.upd H5 D (.lst (ys++[z]))):=.gY d5;refine⟨ys,d5,?_,n-(i+1),aw,Z,aw,?_,⟨ys++[z],ds++[d],bQ,?_,?_,?_,?_⟩,_,Z⟩
    · rw[r3.length,li]
      have:(1000:Nat)<sizeLine:=by decide
      lia
    · have zU:=b3.trans b5
      refine⟨?_,λb o n e=>?_⟩
      · obtain⟨c,m,e,ok⟩:=zU.bI
        exact⟨c,m,by rw[aV zo.symm];exact e,ok⟩
      ·rw[aV (dU e nw.no)];exact zU.same b o n e
    ·exact(aJ.t ((bF.t b3.bI b5).trans t) _ ni r3).append (cf (RD.t t _ nz rz) cH)
    ·rw[cE,li];rfl
    ·exact cu.mpr λx hx=>by
        rcases jz.mp hx with h|h
        ·exact cu.mp ni x h
        ·rw[fF.mp h];exact nz
    · intro j e he
      by_cases hj:j<ds.length
      · rw[kZ hj]at he
        exact pi j e he
      · have uw:j=ds.length:=by
          have:=(cv.mp he).1;rw[cE]at this;have:j<ds.length+1:=this
          lia
        subst uw;rw[m9 (bf _),Ah]at he;cases he;rw[li];exact pz
  · rintro O H3 ⟨b3,⟨ys,ds,d3,r3,li,ni,pi⟩,v,rfl⟩
    exact⟨stop H3 b3,hq H3 ys ds b3 d3 r3 li ni pi⟩
end
end Lw
namespace Ln
open PySem L2
def iH(i:Int):Int:=if i<0 then-i else i
theorem zV(i:Int):iH i=(i.natAbs:Int):=by unfold iH;split<;>lia
def aI(ns:List Int):Nat:=ns.foldr (λz m=>max z.natAbs m) 0
theorem GX:∀{ns:List Int}{z:Int},z∈ns->z.natAbs<=aI ns
 |n::ns,z,h=>by
  show z.natAbs<=max n.natAbs (aI ns);rcases dh.mp h with rfl|h
  ·exact Nat.le_max_left _ _
  ·exact gU (GX h) (Nat.le_max_right _ _)
theorem GW:∀{ns:List Int},ns≠[]->∃z∈ns,z.natAbs=aI ns
 |[],h=>absurd Z h |[n],_=>⟨n,.head _,by show n.natAbs=max n.natAbs 0;lia⟩ |n::m::ns,_=>by
  obtain⟨z,hz,e⟩:=GW (ns:=m::ns) (by simp);by_cases h:n.natAbs<=aI (m::ns)
  ·exact⟨z,.tail _ hz,by show _=max n.natAbs (aI (m::ns));lia⟩
  ·exact⟨n,.head _,by show _=max n.natAbs (aI (m::ns));lia⟩
theorem nT{ns:List Int}{m:Nat}(h:∀z∈ns,z.natAbs<=m):aI ns<=m:=by cases ns with |nil=>exact gH _ |cons a r=>obtain⟨z,hz,e⟩:=GW (ns:=a::r) (by simp);rw[<-e];exact h z hz
theorem a2b{ns:List Int}(h:∃z∈ns,z≠0):0<aI ns:=by
 obtain⟨z,hz,h0⟩:=h;have:=GX hz
 lia
theorem GU{ns:List Int}(dH:ns≠[]){M:Int}(h1:M∈ns.map iH)(h2:∀a∈ns.map iH,a<=M):M=(aI ns:Int):=by
 obtain⟨z,hz,e⟩:=fW.mp h1;obtain⟨y,hy,ey⟩:=GW dH;have a1:=GX hz;have a2:=h2 (iH y) (fW.mpr ⟨y,hy,Z⟩);rw[zV]at e a2
 lia
def kF(p q:Int):Int:=(2*(p.natAbs:Int)+q)/(2*q)
def iQ(p q:Int):Int:=if p>=0 then kF p q else-kF p q
structure xj(x p q:Int):Prop where
 lo:-q<=2*(x*q-p)
 hi:2*(x*q-p)<=q
 uL:2*(x*q-p)=q\/2*(x*q-p)=-q->p.natAbs<=(x*q).natAbs
theorem Wo{p q:Int}(hq:0<q):2*q*kF p q<=2*(p.natAbs:Int)+q/\2*(p.natAbs:Int)+q<2*q*kF p q+2*q:=by have h:=Int.mul_ediv_add_emod (2*(p.natAbs:Int)+q) (2*q);have h0:=oK (2*(p.natAbs:Int)+q) (show 2*q≠0 by omega);have h1:=t7 (2*(p.natAbs:Int)+q) (show 0<2*q by omega);unfold kF;constructor<;>omega
theorem Wq{p q:Int}(hq:0<q):0<=kF p q:=Int.ediv_nonneg aw aw
theorem near_is{p q:Int}(hq:0<q):xj (iQ p q) p q:=by
 obtain⟨h1,h2⟩:=Wo (p:=p) hq;have h0:=Wq (p:=p) hq;rw[xI,Kh q]at h1 h2;have hs0:0<=kF p q*q:=iW h0 (Dj hq);unfold iQ;split
 ·refine⟨?_,?_,λh=>?_⟩<;>(generalize kF p q*q=s at*;omega)
 ·refine⟨?_,?_,?_⟩<;>rw[Int.neg_mul]<;>(generalize kF p q*q=s at*;omega)
theorem yJ{x y q:Int}(hq:0<q)(h:x<y):x*q+q<=y*q:=by have:(x+1)*q<=y*q:=Up aw aw;rw[Int.add_mul,ky]at this;exact this
theorem a0X{x y p q:Int}(hq:0<q)(a:xj x p q)(b:xj y p q):x=y:=by
 have key:∀{x y:Int},xj x p q->xj y p q->¬x<y:=λ{x y} a b h=>by
  have g:=yJ hq h;have e1:=a.lo;have e2:=a.hi;have e3:=b.lo;have e4:=b.hi;have f1:=a.uL;have f2:=b.uL;have hx:x*q=0\/q<=x*q\/x*q<=-q:=by
   rcases Uq x 0 with h|h|h
   ·have:=yJ hq h;lia
   ·left;rw[h,Au]
   ·have:=yJ hq h;lia
  have hy:y*q=0\/q<=y*q\/y*q<=-q:=by
   rcases Uq y 0 with h|h|h
   ·have:=yJ hq h;lia
   ·left;rw[h,Au]
   ·have:=yJ hq h;lia
  generalize x*q=u at*;generalize y*q=v at*;have hu:=f1 aw;have hv:=f2 aw
  lia
 rcases Uq x y with h|h|h
 ·exact absurd h (key a b)
 ·exact h
 ·exact absurd h (key b a)
theorem a0Y{x p q:Int}(hq:0<q)(a:xj x p q):x=iQ p q:=a0X hq a (near_is hq)
theorem OO{q:Int}(hq:0<q):iQ 0 q=0:=(a0Y hq ⟨aw,aw,λh=>by lia⟩).symm
end Ln
namespace L2
open PySem PySem.Spec PyProof.Rows
abbrev Cp(b:Bool)(h:Heap)(l:Addr):Heap:=h.push {cls:=.type (sJ b),data:=.fields #[.ref l,.int 0 0]}
abbrev ID(b:Bool)(h:Heap)(l:Addr):Heap:=(Cp b h l).push {cls:=.type "enumerate",data:=.fields #[.none,.bool false,.ref h.objs.size,rawInt 0,.none,.none]}
theorem a74(b:Bool)(l:Addr)(xs:Array Value):Meets (Builtin.«enumerate.__new__» ⟨[.type "enumerate",.ref l],[]⟩) (λ_ R s=>gR b s.heap l xs/\R (.ok (.ret (.ref (Cp b s.heap l).objs.size))) {s with heap:=ID b s.heap l}):=.of_wp λprog w A R s h=>by
 obtain⟨hp,gg,d,tk,os⟩:=s;obtain⟨hl,h⟩:=h;have Hm:=sub_enumerate;have hL:gR b (Shared.heap ⟨hp,gg,d,tk,os⟩) l xs:=hl
 wp_walk using wq hL;refine wpAny_stack_any λst=>cg ?_;split
 ·rename_i c _ _ _ _ _
  cases(c==Value.type "enumerate")
  ·wp_walk using wq hL
   exact⟨_,Z,h⟩
  ·wp_walk using wq hL
   exact⟨_,Z,h⟩
 ·wp_walk using wq hL
  exact⟨_,Z,h⟩
section
variable {prog:ai}{w:World}{A:ak}{E:Value->ah->Prop}{s:ah}
theorem a75{b:Bool}{l:Addr}{xs:Array Value}{Q:Value->ah->Prop}(hl:gR b s.heap l xs) (q:∀g,IsEnum g (s.heap.objs.size+1) s.heap.objs.size 0 .none->jO b g s.heap.objs.size l 0->(∀c o,s.heap.get? c=some o->g.get? c=some o)->Q (.ref (s.heap.objs.size+1)) {s with heap:=g}): wpAny (model prog w) A (call (.type "enumerate") [.ref l]) Q E s:=by refine callType_new PySem.F.called_enumerate aB (PySem.F.typeCall_enumerate_1 _) (PySem.F.newCall_enumerate_1 _) (λobj=>PySem.F.args_object_init_2 obj _) PySem.F.entry_enumerate_new (a74 b l xs) ⟨hl,?_⟩;have z1:(Cp b s.heap l).objs.size=s.heap.objs.size+1:=qD ..;have g2:(ID b s.heap l).get? (Cp b s.heap l).objs.size=some _:=fj _ rfl;have g1:(ID b s.heap l).get? s.heap.objs.size=some _:=cF _ (fj _ Z);show _/\_;rw[z1]at g2⊢;refine⟨⟨_,g2,Z⟩,q _ g2 ?_ λc o e=>cF _ (cF _ e)⟩;cases b<;>exact⟨_,g1,rfl,rfl⟩
theorem RC{b:Bool}{it l:Addr}{xs:Array Value}(hh:A.handled=none)(ne:l≠it):Draws prog w A it [it,l] xs.size (λi x=>xs[i]? =some x) (λi h=>jO b h it l i/\gR b h l xs) where
 live:=λi h st=>by obtain⟨o,e,_⟩:=st.1.ob;exact⟨o,e⟩
 frame:=λi h h' st k=>⟨st.1.to λo e=>k it (by simp) o e,st.2.to λo e=>k l (by simp) o e⟩
 item:=λi s Q E hi st hQ=>BB st.1 st.2 (x:=xs[i]) (by simp[hi]) λg gi sb=>hQ _ g s.toks (by simp[hi]) ⟨gi,st.2.to λo e=>sb.extBut _ _ ne e⟩ sb
 done:=λs Q E st hE=>IB hh st.1 st.2 (by simp) λg e a b=>hE g e a b
end
def A2(K:ag)(b:Bool)(l:Addr):It:=⟨λi H=>∃xs x,eG b K H l xs/\xs[i]? =some x,λi H v H'=>∃T x,v= .ref T/\(∀xs,eG b K H l xs->xs[i]? =some x)/\Nw H H' T (.tup [.int i,x]),λi H=>∃xs,eG b K H l xs/\xs.length=i⟩
theorem Ve{P:ai}{w:World}{K:ag}{elts:List Expr}{kt:Nat}{pos:Pos}{b:Bool}{e it l:Addr}(D:e≠it): Turn P w K (.Tuple elts kt pos) (A2 K b l) [e,it] e (λi h=>(∃old,IsEnum h e it i old)/\jO b h it l i) where
 mem:=by simp
 obj:=λi h st c hc=>by
  obtain⟨⟨old,he⟩,h1⟩:=st;simp only[dh,fV,jb]at hc;rcases hc with rfl|rfl
  ·exact⟨_,he,λv e=>by cases e⟩
  ·obtain⟨o,e,_,n⟩:=h1.ob;exact⟨o,e,n⟩
 keep:=λi h h' st k=>by obtain⟨⟨old,he⟩,h1⟩:=st;exact⟨⟨old,k e (by simp) _ he⟩,h1.to λo q=>k it (by simp) o q⟩
 item:=by
  intro X hP hw hK hc i ay s O H E I hf st hg;subst hP hw hK;obtain⟨xs,x,q1,e1⟩:=hg;obtain⟨its,r1,p1⟩:=q1.get I;obtain⟨u1,Hk,jD⟩:=r1.get e1;obtain⟨⟨old,he⟩,h1⟩:=st;obtain⟨oi,kO,ci,_⟩:=h1.ob;have GY:∃o,s.heap.get? l=some o/\(o.cls= .type "list"\/o.cls= .type "tuple"):=by cases b<;>(obtain⟨o,ho,cc,_⟩:=p1;first|exact⟨o,ho,.inl cc⟩|exact⟨o,ho,.inr cc⟩)
  obtain⟨ol,uq,cl⟩:=GY;have nel:e≠l:=λz=>by subst z;rw[he]at uq;cases uq;rcases cl with h|h<;>simp at h
  have nil:l≠it:=λz=>by subst z;rw[kO]at uq;cases uq;rw[ci]at cl;cases b<;>(rcases cl with h|h<;>simp[sJ]at h)
  have bP:i<its.toArray.size:=by rw[dY,<-r1.length];exact(cv.mp e1).1
  refine wpAny_pyNext_enum_itemD (RC (I.ok.hd hc) nil) he ⟨h1,p1⟩ bP D (by simp[D,nel]) λy h' tk hPy ho ib hT BW kp=>⟨_,Z,?_⟩;have ey:y=u1:=by
   have a1:its.toArray[i]? =some y:=hPy;have a2:its.toArray[i]? =some u1:=by simpa using Hk
   rw[a1]at a2;exact eO a2
  subst ey;refine wpAny_letOwnedTupleGo_enum ho λg' he' sb=>?_;have hs:=sb.extBut;have elt:e<s.heap.objs.size:=cA he;have ilt:it<s.heap.objs.size:=cA kO;have nw:Nw H (upd H s.heap.objs.size (.tup [.int i,x])) s.heap.objs.size (.tup [.int i,x]):=.of (I.bD.fresh (bf _));have I1:Inv X ay O (upd H s.heap.objs.size (.tup [.int i,x])) {s with heap:=s.heap.push {cls:=.type "tuple",data:=.seq #[.int i tk,y]},toks:=tk+1}:=I.laid (t':=tk+1) (λb ob q=>cF _ q) (bf _) ⟨by show 2<=sizeLine;decide,[.int i tk,y],.cons ⟨tk,Z⟩ (.cons jD .nil),⟨_,fj _ Z,Z,_,Z⟩⟩;have GJ:∀c∈[e,it],c<s.heap.objs.size:=λc hc=>by
   simp only[dh,fV,jb]at hc;rcases hc with rfl|rfl
   ·exact elt
   ·exact ilt
  have hn:∀c∈[e,it],upd H s.heap.objs.size (.tup [.int i,x]) c=none:=λc hc=>by rw[aV (eQ (GJ c hc))];exact(hf c hc).1
  have I2:Inv X ay O (upd H s.heap.objs.size (.tup [.int i,x])) {s with heap:=g',toks:=tk+1}:=Inv.xP (s:={s with heap:=s.heap.push {cls:=.type "tuple",data:=.seq #[.int i tk,y]},toks:=tk+1}) (t':=tk+1) (fp:=[e,it]) I1 (λc o hc q=>by
   have q:(s.heap.push {cls:=.type "tuple",data:=.seq #[.int i tk,y]}).get? c=some o:=q;have nz:c≠e:=λz=>hc (by simp[z]);rcases Heap.get?_push_cases q with⟨HH,rfl⟩|q'
   ·subst HH
    exact hs _ _ nz hT
   ·exact hs _ _ nz (kp c o nz (λz=>hc (by simp[z])) q')) (λc hc=>by obtain⟨f0,f1,f2,f3,f4,f5⟩:=hf c hc;exact⟨hn c hc,f1,f2,f3,f4,f5⟩);refine⟨.ref s.heap.objs.size,_,I2,Z,⟨s.heap.objs.size,x,Z,λzs hz=>?_,nw⟩,⟨⟨_,by simpa using he'⟩,ib.1.to λo q=>hs _ o (jy D) q⟩,hn⟩;rw[eG.inj I hz q1];exact e1
 done:=by
  intro X hP hw hK hc i ay s O H E I hf st hg;subst hP hw hK;obtain⟨xs,q1,uy⟩:=hg;obtain⟨its,r1,p1⟩:=q1.get I;obtain⟨⟨old,he⟩,h1⟩:=st;obtain⟨oi,kO,ci,_⟩:=h1.ob;have GY:∃o,s.heap.get? l=some o/\(o.cls= .type "list"\/o.cls= .type "tuple"):=by cases b<;>(obtain⟨o,ho,cc,_⟩:=p1;first|exact⟨o,ho,.inl cc⟩|exact⟨o,ho,.inr cc⟩)
  obtain⟨ol,uq,cl⟩:=GY;have nil:l≠it:=λz=>by subst z;rw[kO]at uq;cases uq;rw[ci]at cl;cases b<;>(rcases cl with h|h<;>simp[sJ]at h)
  have hi:i=its.toArray.size:=by rw[dY,<-r1.length];exact uy.symm
  subst hi;refine wpAny_pyNext_enum_endD (RC (I.ok.hd hc) nil) he ⟨h1,p1⟩ λh' kp=>⟨Z,?_⟩;exact I.xP (t':=s.toks) (fp:=[e,it]) (λc o hc q=>kp c o (λz=>hc (by simp[z])) q) hf
 self:=λ_ _ _ _ _ st h=>by obtain⟨⟨old,he⟩,_⟩:=st;exact wpAny_pyIter_enum he h
inductive aaI(K:ag)(b:Bool)(R:It->Hp->Prop)(vs:List V)(H1:Hp):Prop |mk (l:_)(h0:vs=[.ref l])(h1:(∃xs,eG b K H1 l xs))(h2:R (A2 K b l) H1)
def a2R(K:ag)(b:Bool)(ta:TA):TI:=λO H R=>ta O H λvs H1=>aaI K b R vs H1
theorem Bq(K:ag){X:Cx}(hK:X.K=K)(b:Bool){elts:List Expr}{kt:Nat}{tD:Pos}{a:Expr}{ta:TA}{p pos:Pos}(hg:Gl X "enumerate")(hm:X.mg "enumerate"=none)(ha:PA X [a] ta)(hs:starEach [a] X.env=[(false,eval a X.env)]:=by rfl)(iR:starEach [] X.env=[]:=by rfl): PI X (.Tuple elts kt tD) (.Call (.Name "enumerate" p) [a] [] pos) (a2R K b ta):=by
 subst hK;intro ay s O H R I h;refine Call_ (rE I hg hm PyProof.Rows.boot_enumerate (Ag (ba (ha pos ay s O H _ I h) λus s1 ⟨vs,H1,I1,r1,q1⟩=>?_) (by rw[hs,iR]) (by rw[iR];rfl)));obtain⟨l,e,⟨xs,h1⟩,q⟩:=q1;subst e;obtain⟨u1,rfl,jD⟩:=vals1 r1;cases(show u1=Value.ref l from jD);obtain⟨Hb,v1,p1⟩:=h1.get I1;refine a75 p1 λg zg ig kp=>wpAny_pyIter_enum zg ?_;refine⟨_,_,_,_,H1,Z,I1.kept (t':=s1.toks) kp,Ve (D9 (Ui _)),⟨⟨_,zg⟩,ig⟩,λc hc=>?_,q⟩;have hle:s1.heap.objs.size<=c:=by simp only[dh,fV,jb]at hc;rcases hc with rfl|rfl<;>first|exact bf _|exact Nat.le_add_right _ _
 exact I1.sj hle (I1.bD.fresh hle)
theorem Cg{K:ag}{b:Bool}{a:Addr}{xs:List V}{g:TG}{tb:TS}{D:Ends}{O:St}{H:Hp}(Pv:Nat->St->Hp->Prop)(h0:Pv 0 O H)(hl:∀i O H,i<=xs.length->Pv i O H->eG b K H a xs) (hs:∀i x O H,xs[i]? =some x->Pv i O H->∀T H',Nw H H' T (.tup [.int i,x])->g (.ref T) O H' λσ2 H2=>tb {D with nx:=Pv (i+1),ct:=Pv (i+1),bk:=D.nx} σ2 H2)(hd:∀O H,Pv xs.length O H->D.nx O H): ∃W:Nat->Nat->St->Hp->Prop,(∃m,W 0 m O H)/\∀i m O H,W i m O H->((A2 K b a).stop i H/\D.nx O H)\/((A2 K b a).go i H/\∃N:St->Hp->Prop,(∀σ' H',N σ' H'->∃m',m'<m/\W (i+1) m' σ' H')/\∀x H',(A2 K b a).jf i H x H'->g x O H' λσ2 H2=>tb {D with nx:=N,ct:=N,bk:=D.nx} σ2 H2):=by
 refine⟨λi m O H=>m=xs.length-i/\i<=xs.length/\Pv i O H,⟨xs.length,by simp,gH _,h0⟩,?_⟩;rintro i m O H ⟨rfl,hi,p⟩;have q:=hl i O H hi p;by_cases bP:i<xs.length
 ·refine .inr ⟨⟨xs,xs[i],q,by simp[bP]⟩,Pv (i+1),λσ' H' p'=>⟨xs.length-(i+1),aw,Z,bP,p'⟩,λx H' y=>?_⟩
  obtain⟨T,z,rfl,ez,nw⟩:=y;exact hs i z O H (ez xs q) p T H' nw
 ·have e:i=xs.length:=by lia
  subst e;exact .inl ⟨⟨xs,q,Z⟩,hd O H p⟩
theorem QS{K:ag}{b1 b2:Bool}{a1 a2:Addr}{xs ys:List V}{g:TG}{tb:TS}{D:Ends}{O:St}{H:Hp}(n:Nat)(hn:n=min xs.length ys.length)(Pv:Nat->St->Hp->Prop)(h0:Pv 0 O H)(hl:∀i O H,i<=n->Pv i O H->eG b1 K H a1 xs/\eG b2 K H a2 ys) (hs:∀i x y O H,xs[i]? =some x->ys[i]? =some y->Pv i O H->∀T H',Nw H H' T (.tup [x,y])->g (.ref T) O H' λσ2 H2=>tb {D with nx:=Pv (i+1),ct:=Pv (i+1),bk:=D.nx} σ2 H2)(hd:∀O H,Pv n O H->D.nx O H): ∃W:Nat->Nat->St->Hp->Prop,(∃m,W 0 m O H)/\∀i m O H,W i m O H->((sP K b1 b2 a1 a2).stop i H/\D.nx O H)\/((sP K b1 b2 a1 a2).go i H/\∃N:St->Hp->Prop,(∀σ' H',N σ' H'->∃m',m'<m/\W (i+1) m' σ' H')/\∀x H',(sP K b1 b2 a1 a2).jf i H x H'->g x O H' λσ2 H2=>tb {D with nx:=N,ct:=N,bk:=D.nx} σ2 H2):=by
 refine⟨λi m O H=>m=n-i/\i<=n/\Pv i O H,⟨n,by simp,gH _,h0⟩,?_⟩;rintro i m O H ⟨rfl,hi,p⟩;obtain⟨q1,q2⟩:=hl i O H hi p;by_cases bP:i<n
 ·have l1:i<xs.length:=by lia
  have l2:i<ys.length:=by lia
  refine .inr ⟨⟨xs,ys,xs[i],ys[i],q1,q2,by simp[l1],by simp[l2]⟩,Pv (i+1),λσ' H' p'=>⟨n-(i+1),aw,Z,bP,p'⟩,λx H' y=>?_⟩;obtain⟨T,z1,z2,rfl,e1,e2,nw⟩:=y;exact hs i z1 z2 O H (e1 xs q1) (e2 ys q2) p T H' nw
 ·have e:i=n:=by lia
  subst e;exact .inl ⟨⟨xs,ys,q1,q2,aw⟩,hd O H p⟩
section
variable {X:Cx}
theorem Ys(K:ag)(h:X.K=K){o e:Expr}{to:TE}{t:TA}{apos dW:Pos}(ho:PE X o to)(ha:PA X [e] t) (pU:attributeBase o "pop" X.env (eval o X.env)=eval o X.env:=by rfl) (pP:((backTo dW (starEach [e] X.env)).all (λx=>!x.1)&&(backToKw dW (keywordEach [] X.env)).all (λx=>x.1.isSome) &&decide ([e].length+([]:List Keyword).length+(if([]:List Keyword).isEmpty then 0 else 1)<30))=true:=by rfl) (pL:(apos.endLine==dW.line)=true:=by rfl)(hs:starEach [e] X.env=(false,eval e X.env)::starEach [] X.env:=by rfl)(pK:(backTo dW (starEach [] X.env)).any (·.1)=false:=by rfl): PE X (.Call (.Attribute o "pop" apos) [e] [] dW) (xR K "list" O5 to t):=by subst h;exact Br Uc PySem.F.slot_list_pop PySem.F.type_list_pop a1h ho ha pU pP pL hs pK
end
set_option maxHeartbeats 1000000 in
theorem Bp{X:Cx}{N:List Str}{js:List (Option Nat)}{elt tg iter:Expr}{ifs:List Expr}{scope:Scope}{pos:Pos}{wi:TI}{g:TG}{tt:TT}{te:TE}{i0:Nat}{x0:Str}{vQ Li:Pos}(hNd:X.N.Nodup)(C6:X.N[i0]? =some x0)(Hi:Loc X.env.scope x0)(hc:X.calm=true)(hN:zO X N js scope=true)(hS:sL X scope=true) (hi:PI X tg iter wi)(hg:∀cl s H fp ay,PG (cR X N scope cl s H fp ay) tg g)(ht:∀cl s H fp ay,JC (cR X N scope cl s H fp ay) ifs tt)(he:∀cl s H fp ay,PE (cR X N scope cl s H fp ay) elt te) (hsw:swapsWith (.ListComp elt [⟨tg,iter,ifs,0⟩] scope pos) (some (.Name x0 vQ)) Li.line X.env=pure true:=by rfl)(hf0:X.fn x0=true\/X.env.scope.names.lookup x0=some .local:=by first|exact .inl rfl|exact .inr rfl) (hs:∀x,foldedSetIterable iter X.env x=pure x:=by intro _;rfl):PS X (.Assign [.Name x0 vQ] (.ListComp elt [⟨tg,iter,ifs,0⟩] scope pos) Li) (AU (KN js wi g tt te) (g9 i0)):=by
 intro ay s O H D0 I h;have mS:=hS;unfold sL at mS;rw[fG,fG]at mS;obtain⟨⟨k1,k2⟩,k3⟩:=mS;have ka:scope.kind= .function:=fN.mp k1;have rS:∀x∈scope.names,x.2= .free->∃c,X.env.cells.lookup x.1=some c:=λx hx e=>by have:=gW.mp k3 x hx;rw[e]at this;exact I.ok.has x.1 (.inl (fN.mp this))
 have nX:∀x∈scope.names,x.2≠ .cell:=λx hx e=>by have:=gW.mp k3 x hx;rw[e]at this;exact iX this
 have z9:∀x∈scope.names,x.2= .local->scope.names.lookup x.1=some .local:=λx hx e=>by have:=gW.mp k3 x hx;rw[e]at this;exact fN.mp this
 obtain⟨cl,zi,c1,c2⟩:=J6 rS;rw[exec_Assign_Name_used _ _ _ _ hsw];refine aP (vk (aP ?_));show wpAny _ X.A (do let _<-comprehension (.ListComp elt [⟨tg,iter,ifs,0⟩] scope pos) scope X.env _ (newList []) false (eval iter X.env) (some (assign (.Name x0 vQ) X.env))) _ _ s;refine aP (fU (TZ (use:=some (assign (.Name x0 vQ) X.env)) (Q:=λ_ s'=>SP X ay D0 .next s') Z hs zi ka z9 (ba (hi ay s O H _ I h) λv s1 h1=>ba h1 λyS s2 h2=>?_)) (λ_ s' hq=>cg (cg hq)) λ_ _ e=>e);obtain⟨it,fp,tn,J,H2,e,I2,T,nG,f2,h2⟩:=h2;subst e;have hD:H2 s2.heap.objs.size=none:=I2.bD.fresh (bf _);obtain⟨W,⟨m0,w0⟩,turn⟩:=h2 _ _ (Nw.of hD);refine oE (TY nX (by intro y hy;simp at hy) (λh₁ rK rJ=>?_) ka);have mV:∀b∈fp,b<s2.heap.objs.size:=λb hb=>by obtain⟨o,e,_⟩:=T.obj _ _ nG b hb;exact cA e
 have I3:Inv X ay O (upd H2 s2.heap.objs.size (.lst [])) {s2 with heap:=s2.heap.push {cls:=.type "list",dict:=none,data:=.seq ([]:List Value).toArray}}:=I2.BJ (its:=[]) (t':=s2.toks) .nil (gH _);generalize sf:s2.heap.push {cls:=.type "list",dict:=none,data:=.seq ([]:List Value).toArray}=h3 at I3 rK rJ;have qI:h3.objs.size=s2.heap.objs.size+1:=by rw[<-sf,qD]
 have yR:∀b o,s2.heap.get? b=some o->h3.get? b=some o:=λb o e=>by rw[<-sf];exact cF _ e
 have f3:∀b∈fp,jw X ay (upd H2 s2.heap.objs.size (.lst [])) b:=λb hb=>⟨by rw[aV (eQ (mV b hb))];exact(f2 b hb).1,(f2 b hb).2⟩;have rF:∀b o,h3.get? b=some o->h₁.get? b=some o:=λb o e=>(rJ.2 b (eQ (cA e))).trans (cF _ e);have I4:Inv (cR X N scope cl {s2 with heap:=h3} (upd H2 s2.heap.objs.size (.lst [])) fp ay) [] (stC js O) (upd H2 s2.heap.objs.size (.lst [])) {s2 with heap:=h₁,toks:=s2.toks+([]:List (Str×Value)).length}:=I3.comp (s:={s2 with heap:=h3}) hN hS c1 c2 f3 (λb hb=>by show b<h3.objs.size;rw[qI];exact Ai (mV b hb)) (by simpa using rK) rF;have qJ:tn 0 h₁:=T.keep _ _ _ nG λb _ o e=>rF b o (yR b o e);have loop:codeAny (model X.prog X.w) X.A (.compLoop (.ListComp elt [⟨tg,iter,ifs,0⟩] scope pos) 0 (.ref it) (.ref s2.heap.objs.size) (compEnvC scope cl h3.objs.size X.env)) (compPost (model X.prog X.w) X.A X.xe (some (assign (.Name x0 vQ) X.env)) (λ_ s'=>SP X ay D0 .next s') (.ref s2.heap.objs.size) h3.objs.size) {s2 with heap:=h₁,toks:=s2.toks+([]:List (Str×Value)).length}:=by
  refine Sn (λn s'=>∃i σ' H',Inv (cR X N scope cl {s2 with heap:=h3} (upd H2 s2.heap.objs.size (.lst [])) fp ay) [] σ' H' s'/\tn i s'.heap/\(∀b∈fp,H' b=none)/\W i n σ' H') ?_ m0 ⟨0,_,_,I4,qJ,λb hb=>(f3 b hb).1,w0⟩;rintro n s5 ⟨i,σ5,H5,I5,lG,o4,w5⟩;have jB:∀{H':Hp},(∀b∈fp,H' b=none)->∀b∈fp,jw (cR X N scope cl {s2 with heap:=h3} (upd H2 s2.heap.objs.size (.lst [])) fp ay) [] H' b:=λ{H'} hn b hb=>by
   obtain⟨_,q1,q2,q3,q4,q5⟩:=f3 b hb;refine⟨hn b hb,λz=>?_,I4.ok.pY b hb,.inl hb,λx c e=>q4 x c (c1 x c e),λp hp=>q5 p (by simpa[cR]using hp)⟩;have bP:b<h3.objs.size:=by rw[qI];exact Ai (mV b hb)
   exact eQ bP z
  rcases turn i n σ5 H5 w5 with⟨stop,qn⟩|⟨go,step⟩
  ·refine ba (T.done (cR X N scope cl {s2 with heap:=h3} (upd H2 s2.heap.objs.size (.lst [])) fp ay) rfl rfl rfl hc i [] s5 σ5 H5 _ I5 (jB o4) lG stop) λr s6 ⟨hr,I6⟩=>?_
   subst hr;obtain⟨m,hm,_⟩:=I6.loc;have u0:Un (gb X.stack) fp (upd H2 s2.heap.objs.size (.lst [])) H5 h3 s6.heap:=I6.aA;have I7:Inv X ay O H5 s6:=I3.zR (s':=s6) (ch:=fp) I6.os u0 I6.bD I6.bare λb hb=>⟨(f3 b hb).2.2.2.1,(f3 b hb).2.1,(f3 b hb).2.2.2.2.1,(f3 b hb).2.2.2.2.2⟩;have hC:jw X ay H5 h3.objs.size:=I3.sj (bf _) I6.free;show wpAny _ X.A (assign (.Name x0 vQ) X.env (.ref s2.heap.objs.size)) _ _ s6;refine wpAny_assign_Name (L3 I7 hNd C6 Hi (show RelV (.ref s2.heap.objs.size) (.ref s2.heap.objs.size)from Z) (λs8 I8 hsb=>?_) hf0);obtain⟨a,sb,ha⟩:=hsb;have hCa:h3.objs.size≠a:=by
    rcases ha with rfl|ha
    ·exact hC.2.1
    ·exact λz=>hC.2.2.2.2.1 x0 a ha z.symm
   refine⟨m,hm.sameBut sb hCa,λh9 hs9=>⟨_,H5,?_,qn⟩⟩;exact I8.xP (t':=s8.toks) (fp:=[h3.objs.size]) (λb o hb e=>hs9.extBut b o (λz=>hb (by simp[z])) e) λb hb=>by rw[fF.mp hb];exact hC
  ·refine ba (T.item (cR X N scope cl {s2 with heap:=h3} (upd H2 s2.heap.objs.size (.lst [])) fp ay) rfl rfl rfl hc i [] s5 σ5 H5 _ I5 (jB o4) lG go) λr s6 ⟨u,hr,h6⟩=>?_
   subst hr;refine ba h6 λ_ s7 ⟨x,H7,I7,r7,y7,kC,zt⟩=>?_;have A4:=I7.pinned (jB zt) (T.obj _ _ kC);refine ba (hg _ _ _ _ _ _ s7 σ5 H7 x u _ A4 r7 (step x H7 y7)) λ_ s8 ⟨σ8,H8,I8,q8⟩=>?_;refine ba (ht _ _ _ _ _ _ s8 σ8 H8 _ I8 q8) λok s9 ⟨H9,I9,q9⟩=>?_;have again:∀{s':ah}{σ7:St}{H7:Hp},Inv (cR X N scope cl {s2 with heap:=h3} (upd H2 s2.heap.objs.size (.lst [])) fp ay) ([]++p5 fp s7.heap) σ7 H7 s'->(∃m',m'<n/\W (i+1) m' σ7 H7)->∃m,m<n/\∃i σ' H',Inv (cR X N scope cl {s2 with heap:=h3} (upd H2 s2.heap.objs.size (.lst [])) fp ay) [] σ' H' s'/\tn i s'.heap/\(∀b∈fp,H' b=none)/\W i m σ' H':=λ{s' σ7 H7} J7 n7=>by obtain⟨m',hm,w7⟩:=n7;refine⟨m',hm,i+1,σ7,H7,J7.tm,T.keep _ _ _ kC λb hb o e=>(J7.pin (b,o) (gk _ (gk _ (nN hb e)))).1,λb hb=>?_,w7⟩;obtain⟨o,e,d⟩:=T.obj _ _ kC b hb;exact(J7.pin (b,o) (gk _ (gk _ (nN hb e)))).2.1
   cases ok with |false=>rw[bB iX]at q9⊢;exact again I9 q9 |true=>rw[bo rfl]at q9⊢;refine ba (he _ _ _ _ _ _ s9 σ8 H9 _ I9 q9) λyv jC ⟨y,iu,sS,Ga,ys,j6,hz,oP⟩=>?_;refine ba (BG _ jC σ8 iu (.ref s2.heap.objs.size) [y] (.ref s2.heap.objs.size) [yv] (λ_ ir=>∃m',m'<n/\W (i+1) m' σ8 ir) sS Z (.cons Ga .nil) ⟨_,ys,y,Z,Z,j6,hz,oP⟩) λ_ tL ⟨v11,ir,xn,XY,yf⟩=>?_;exact again xn yf
 exact U0 loop (T.self _ 0 _ _ _ qJ loop)
theorem oy.a7F{X:Cx}{st:Stmt}{rest:List Stmt}{t u:TS}(h1:Tw X st t)(h2:gT X rest u):oy X (st::rest) (Ds t u):=by intro s O H D I h;refine JK (ba (h1 s O H {D with nx:=u D} I h) λf s1 q=>?_);cases f with |next=>obtain⟨σ',H',I',q⟩:=q;exact h2 [] s1 σ' H' D I' q |ret v=>exact q |brk=>exact q |cont=>exact q
theorem Su:∀{zs:List Str}{us:List Value},Vals (zs.map V.str) us->CarriedAll us (zs.map PyData.str) |[],_,.nil=>.nil |z::zs,_,.cons q r=>by obtain⟨t,rfl⟩:=(show∃t,_=Value.str z t from q);exact .cons (.str z t) (Su r)
section
variable {X:Cx}
inductive aal(K:ag)(x:V)(vs:List V)(H:Hp)(Q:VK):Prop |mk (sep:Str)(l:Addr)(zs:List Str)(h0:x= .str sep)(h1:vs=[.ref l])(h2:aK K H l (zs.map V.str))(h3:(∀z∈zs,z.length<=8))(h4:sep.length<=8)(h5:zs.length<=1000)(h6:Q (.str (Txt.join sep zs)) H)
def rJoin(K:ag):V->List V->Hp->VK->Prop:=λx vs H Q=>aal K x vs H Q
theorem a1j(K:ag)(hK:X.K=K):TB X "str.join" (rJoin K):=by subst hK;intro ay s O H x vs v us Q I rx rv h;obtain⟨sep,l,zs,rfl,rfl,hl,hz,hs,hn,q⟩:=h;obtain⟨t,rfl⟩:=rx;obtain⟨u,rfl,ru⟩:=vals1 rv;cases(show u=Value.ref l from ru);obtain⟨its,r,pl,_⟩:=I.list hl;refine join_madeW (l:=zs) (g:=id) 8 pl.isList (by rw[List.map_id];exact Su r) (λa ha=>hz a ha) aw aw λt' k=>?_;rw[List.map_id];exact⟨.str _,H,I.tok _,⟨_,Z⟩,q⟩
theorem Yt(K:ag)(h:X.K=K){o e:Expr}{to:TE}{t:TA}{apos dW:Pos}(ho:PE X o to)(ha:PA X [e] t) (pU:attributeBase o "join" X.env (eval o X.env)=eval o X.env:=by rfl) (pP:((backTo dW (starEach [e] X.env)).all (λx=>!x.1)&&(backToKw dW (keywordEach [] X.env)).all (λx=>x.1.isSome) &&decide ([e].length+([]:List Keyword).length+(if([]:List Keyword).isEmpty then 0 else 1)<30))=true:=by rfl) (pL:(apos.endLine==dW.line)=true:=by rfl)(hs:starEach [e] X.env=(false,eval e X.env)::starEach [] X.env:=by rfl)(pK:(backTo dW (starEach [] X.env)).any (·.1)=false:=by rfl): PE X (.Call (.Attribute o "join" apos) [e] [] dW) (xR K "str" (rJoin K) to t):=by subst h;exact Br PySem.F.plainAttrs_str PySem.F.slot_str_join PySem.F.type_str_join (a1j X.K rfl) ho ha pU pP pL hs pK
end
section
variable {X:Cx}{ay:List (Addr×Obj)}{O:St}{H:Hp}{s:ah}
end
section
variable {X:Cx}
theorem a7T:fw X (.type "range") (λxs H Q=>∃n,xs=[.int n]/\∀p H',Nw H H' p (.vN 0 n)->Q (.ref p) H'):=by intro ay s O H xs us Q I r h;obtain⟨n,rfl,q⟩:=h;obtain⟨u,rfl,t,rfl⟩:=vals1 r;refine call_range_1 ?_;have hf:H s.heap.objs.size=none:=I.bD.fresh (bf _);refine⟨.ref s.heap.objs.size,upd H s.heap.objs.size (.vN 0 n),I.laid (t':=s.toks+1+1) (λb u e=>cF _ e) (bf _) ?_,Z,q _ _ (.of hf)⟩;exact⟨_,_,_,fj _ Z⟩
end
theorem W2:isSubtype (.type "range_iterator") (.type "reversed")=pure false:=by rw[isSubtype_type];kernel_rfl
section
variable {prog:ai}{w:World}{A:ak}{E:Value->ah->Prop}{s:ah}
abbrev yb(n:Nat):Obj:={cls:=.type "range_iterator",data:=.fields #[rawInt (0+((n:Int)-1)*1),rawInt (n:Int),rawInt (-1)]}
abbrev FN(n:Nat):Bool:=Builtin.Range.rangeFitsLong 0&&Builtin.Range.rangeFitsLong n&&Builtin.Range.rangeFitsLong 1&&Builtin.Range.rangeFitsLong (-1)&&Builtin.Range.rangeFitsLong (0-1)&&Builtin.Range.rangeFitsLong (Builtin.Range.rangeSize 0 n 1)
theorem NH{n:Nat}(h:n<2^62):FN n=true:=by unfold FN;rw[rangeSize_one];simp only[Builtin.Range.rangeFitsLong,fG,JN];split<;>lia
theorem Xy(r:Addr)(a b c:Int)(t u v:Tok)(hc0:¬(!(Builtin.Range.rangeFitsLong a&&Builtin.Range.rangeFitsLong b&&Builtin.Range.rangeFitsLong c&&Builtin.Range.rangeFitsLong (-c)&&Builtin.Range.rangeFitsLong (a-c)&&Builtin.Range.rangeFitsLong (Builtin.Range.rangeSize a b c)))=true):Meets (Builtin.«range.__reversed__» ⟨[.ref r],[]⟩) (λ_ R s=>s.heap.get? r=some {cls:=.type "range",dict:=none,data:=.fields #[.int a t,.int b u,.int c v],slots:=#[]}/\R (.ok (.ret (.ref s.heap.objs.size))) {s with heap:=s.heap.push {cls:=.type (if(Builtin.Range.rangeFitsLong a&&Builtin.Range.rangeFitsLong b&&Builtin.Range.rangeFitsLong c&&Builtin.Range.rangeFitsLong (-c)&&Builtin.Range.rangeFitsLong (a-c)&&Builtin.Range.rangeFitsLong (Builtin.Range.rangeSize a b c))=true then "range_iterator" else "longrange_iterator"),data:=.fields #[rawInt (a+(Builtin.Range.rangeSize a b c-1)*c),rawInt (Builtin.Range.rangeSize a b c),rawInt (-c)]},toks:=s.toks}):=.of_wp λprog w A R s h=>by
 obtain⟨hp,g,d,tk,os⟩:=s;obtain⟨hl,h⟩:=h
 wp_walk;exact⟨_,Z,h⟩
theorem a7R{l:Addr}{n:Nat}{t u v:Tok}{Q:Value->ah->Prop}(hn:n<2^62)(hl:s.heap.get? l=some {cls:=.type "range",data:=.fields #[.int 0 t,.int n u,.int 1 v]}) (h:Q (.ref s.heap.objs.size) {s with heap:=s.heap.push (yb n)}):wpAny (model prog w) A (call (.builtin "range.__reversed__") [.ref l]) Q E s:=by
 have hT:s.TypeIs (.ref l) "range":=⟨_,hl,Z⟩;refine Ac Us hT F.entry_range_reversed (F.args_range_reversed_1 _) (Xy l 0 n 1 t u v (by have:=NH hn;unfold FN at this;rw[this];decide)) ⟨hl,?_⟩;rw[bo (NH hn)];have e:Builtin.Range.rangeSize 0 n 1=n:=by rw[rangeSize_one];split<;>lia
 rw[e];exact h
theorem a7P{l:Addr}{n:Nat}{t u v:Tok}{Q₁:Value->ah->Prop}(hn:n<2^62)(hl:s.heap.get? l=some {cls:=.type "range",data:=.fields #[.int 0 t,.int n u,.int 1 v]}) (h:Q₁ (.ref s.heap.objs.size) {s with heap:=s.heap.push (yb n)}): codeAny (model prog w) A (.call (.builtin "reversed.__new__") ⟨[.type "reversed",.ref l],[]⟩) (wants Q₁ E) s:=by
 have hT:s.TypeIs (.ref l) "range":=⟨_,hl,Z⟩;refine codeAny_of_tree ?_;show wpAny _ A.in1 (do checkBuiltinCall "reversed.__new__" ⟨[.type "reversed",.ref l],[]⟩;again (.builtin "reversed.__new__" ⟨[.type "reversed",.ref l],[]⟩)) _ _ s;refine aP (xu (F.newCall_reversed_1 _) (cg ⟨plainId_quiet F.plain_reversed_new _,codeAny_builtin F.entry_reversed_new ?_⟩));rw[Around.under_plainId F.plain_reversed_new _];unfold Builtin.«reversed.__new__»;refine aP (xu (newClass_reversed _) ?_)
 try dsimp only
 refine aP (xu (a:=()) (by first|rfl|kernel_rfl) ?_);refine aP (xu (a:=()) (by first|rfl|kernel_rfl) ?_)
 try dsimp only
 refine aP (wpAny_specialOf hT Us.lookup ?_)
 try dsimp only
 refine aP (xu (Us.bind _) ?_)
 try dsimp only
 first |rw[bB (show¬((Value.builtin "range.__reversed__"==Value.none)=true)from iX)] |(show wpAny _ _ (if(Value.builtin "range.__reversed__"==Value.none)=true then _ else _) _ _ _;rw[bB (show¬((Value.builtin "range.__reversed__"==Value.none)=true)from iX)])
 refine aP (Aa ?_);refine aP (m:=runValue (.call (.builtin "range.__reversed__") ⟨[.ref l],[]⟩)) (show wpAny _ _ (call (.builtin "range.__reversed__") [.ref l]) _ _ _ from a7R hn hl ?_)
 first |exact cg h |exact aP (cg (cg h))
theorem a7S{l:Addr}{n:Nat}{t u v:Tok}{Q:Value->ah->Prop}(hn:n<2^62)(hl:s.heap.get? l=some {cls:=.type "range",data:=.fields #[.int 0 t,.int n u,.int 1 v]}) (h:Q (.ref s.heap.objs.size) {s with heap:=s.heap.push (yb n)}):wpAny (model prog w) A (call (.type "reversed") [.ref l]) Q E s:=by refine callType_other (U:="range_iterator") (Q₁:=λobj s₁=>obj= .ref s.heap.objs.size/\s₁={s with heap:=s.heap.push (yb n)}) aQ F.create_reversed ⟨_,_,F.mro_reversed⟩ F.made_reversed W2 (F.typeCall_reversed_1 _) (a7P hn hl ⟨Z,Z⟩) ?_;rintro obj s₁ ⟨rfl,rfl⟩;exact⟨⟨_,fj _ Z,Z⟩,h⟩
end
def A0(n:Nat):It:=⟨λi _=>i<n,λi H x H'=>H'=H/\x= .int ((n:Int)-1-i),λi _=>n<=i⟩
theorem Vb{P:ai}{w:World}{K:ag}{tg:Expr}(it:Addr)(n:Nat):Turn P w K tg (A0 n) [it] it (λi h=>IsRangeIter h it ((0+((n:Int)-1)*1)+(i:Nat)*(-1)) ((n:Int)-(i:Nat)) (-1)) where
 mem:=by simp
 obj:=λi h st b hb=>by
  have e:b=it:=by simpa using hb
  subst e;exact⟨_,st,λv z=>by have z':Data.fields _=Data.cell v:=z;cases z'⟩
 keep:=λi h h' st k=>k it (by simp) _ st
 item:=by
  intro X hP hw hK hc i ay s O H E I hf st hg;subst hP hw hK;obtain⟨f0,f1,f2,f3,f4,f5⟩:=hf it (by simp);have W:=Walks.range (prog:=X.prog) (w:=X.w) (I.ok.hd hc) it (0+((n:Int)-1)*1) (-1) n;refine W.item i s _ _ hg st λv h' tk hv gZ kk=>?_;obtain⟨t,rfl⟩:=hv;have I1:Inv X ay O H {s with heap:=h',toks:=tk}:=I.turned (λb o hb e=>kk b o (by simpa using hb) e) f0 f1 f3 f4 f5;refine⟨_,Z,zp (s:={s with heap:=h',toks:=tk}) (n:="range_iterator") gZ rfl rfl aB ⟨.int ((n:Int)-1-i),H,I1,⟨t,?_⟩,⟨Z,Z⟩,gZ,λb hb=>(hf b hb).1⟩⟩;have e:(0+((n:Int)-1)*1)+(i:Int)*(-1)=(n:Int)-1-i:=by lia
  rw[e]
 done:=by intro X hP hw hK hc i ay s O H E I hf st hg;subst hP hw hK;obtain⟨f0,f1,f2,f3,f4,f5⟩:=hf it (by simp);exact wpAny_pyNext_range_end (I.ok.hd hc) st (by have:n<=i:=hg;lia) λh' eb=>⟨Z,I.turned (t':=s.toks) (λb o hb e=>eb b o hb e) f0 f1 f3 f4 f5⟩
 self:=λ_ _ _ _ _ st h=>TX st h
inductive aaG(R:It->Hp->Prop)(vs:List V)(H1:Hp):Prop |mk (p:_)(n:_)(h0:vs=[.ref p])(h1:H1 p=some (.vN 0 n))(h2:0<=n)(h3:n<2^62)(h4:R (A0 n.toNat) H1)
def a2Q(ta:TA):TI:=λO H R=>ta O H λvs H1=>aaG R vs H1
theorem Ye{X:Cx}{tg:Expr}{a:Expr}{ta:TA}{p pos:Pos}(hg:Gl X "reversed")(hm:X.mg "reversed"=none)(ha:PA X [a] ta)(hs:starEach [a] X.env=[(false,eval a X.env)]:=by rfl)(iR:starEach [] X.env=[]:=by rfl): PI X tg (.Call (.Name "reversed" p) [a] [] pos) (a2Q ta):=by
 intro ay s O H R I h;refine Call_ (rE I hg hm PyProof.Rows.boot_reversed (Ag (ba (ha pos ay s O H _ I h) λus s1 ⟨vs,H1,I1,r1,q1⟩=>?_) (by rw[hs,iR]) (by rw[iR];rfl)));obtain⟨l,n,e,hl,n0,n1,q⟩:=q1;subst e;obtain⟨u1,rfl,jD⟩:=vals1 r1;cases(show u1=Value.ref l from jD);obtain⟨t,u,v,e⟩:∃t u v,s1.heap.get? l=some {cls:=.type "range",data:=.fields #[.int 0 t,.int n u,.int 1 v]}:=I1.bD l _ hl;obtain⟨m,rfl⟩:∃m:Nat,n=m:=⟨n.toNat,aw⟩;refine a7S aw e ?_;have hit:IsRangeIter (s1.heap.push (yb m)) s1.heap.objs.size ((0+((m:Int)-1)*1)+((0:Nat):Int)*(-1)) ((m:Int)-((0:Nat):Int)) (-1):=by
  have e1:(0+((m:Int)-1)*1)+((0:Nat):Int)*(-1)=0+((m:Int)-1)*1:=by lia
  have e2:(m:Int)-((0:Nat):Int)=m:=by lia
  rw[e1,e2];exact fj _ rfl
 refine TX hit ?_;refine⟨s1.heap.objs.size,[s1.heap.objs.size],_,_,H1,Z,I1.kept (t':=s1.toks) λb o e=>cF _ e,Vb _ m,hit,λb hb=>?_,q⟩;have e:b=s1.heap.objs.size:=by simpa using hb
 subst e;exact I1.sj (bf _) (I1.bD.fresh (bf _))
theorem a5n{n:Nat}{g:TG}{tb:TS}{D:Ends}{O:St}{H:Hp}(Pv:Nat->St->Hp->Prop)(h0:Pv 0 O H) (hs:∀i O H,i<n->Pv i O H->g (.int ((n:Int)-1-i)) O H λσ2 H2=>tb {D with nx:=Pv (i+1),ct:=Pv (i+1),bk:=D.nx} σ2 H2)(hd:∀O H,Pv n O H->D.nx O H): ∃W:Nat->Nat->St->Hp->Prop,(∃m,W 0 m O H)/\∀i m O H,W i m O H->((A0 n).stop i H/\D.nx O H)\/((A0 n).go i H/\∃N:St->Hp->Prop,(∀σ' H',N σ' H'->∃m',m'<m/\W (i+1) m' σ' H')/\∀x H',(A0 n).jf i H x H'->g x O H' λσ2 H2=>tb {D with nx:=N,ct:=N,bk:=D.nx} σ2 H2):=by
 refine⟨λi m O H=>m=n-i/\i<=n/\Pv i O H,⟨n,by simp,gH _,h0⟩,?_⟩;rintro i m O H ⟨rfl,hi,p⟩;by_cases bP:i<n
 ·refine .inr ⟨bP,Pv (i+1),λσ' H' q=>⟨n-(i+1),aw,Z,bP,q⟩,λx H' hy=>?_⟩
  obtain⟨rfl,rfl⟩:=hy;exact hs i O _ bP p
 ·have e:i=n:=by lia
  subst e;exact .inl ⟨bf _,hd O H p⟩
theorem Gd(K:ag){X:Cx}(hK:X.K=K){a:Expr}{ta:TE}(ha:PE X a ta)(he:∀whole,isTrue a X.env whole=(do let v<-whole;standAt a.pos;holding [v] (truthy v)):=by intro _;rfl): PT X a (λO H Q=>ta O H λx H'=>∃k,Jx K x H' k/\Q k H'):=by subst hK;exact Y2 ha he
end L2
namespace Cn
open Ln
def cY(ns ms:List Int):List Int:=(ns.zip ms).map λp=>p.1*(aI ms:Int)-p.2*(aI ns:Int)
theorem a1q{ns ms:List Int}{z:Int}(h:z∈cY ns ms):∃a b,a∈ns/\b∈ms/\z=a*(aI ms:Int)-b*(aI ns:Int):=by obtain⟨⟨a,b⟩,hp,rfl⟩:=fW.mp h;exact⟨a,b,(Ak hp).1,(Ak hp).2,Z⟩
theorem kJ{a b:Int}{m n:Nat}(h:a.natAbs<=m)(g:b.natAbs<=n):(a*b).natAbs<=m*n:=by rw[gm];exact oG h g
theorem Cw{ns ms:List Int}(h1:∀z∈ns,z.natAbs<=1000)(h2:∀z∈ms,z.natAbs<=1000):∀z∈cY ns ms,z.natAbs<=2000000:=λz hz=>by obtain⟨a,b,ha,hb,rfl⟩:=a1q hz;have l1:=nT h1;have l2:=nT h2;have e1:=kJ (b:=(aI ms:Int)) (n:=1000) (h1 a ha) cj;have e2:=kJ (b:=(aI ns:Int)) (n:=1000) (h2 b hb) cj;omega
def rQ(zs:List Int)(i:Nat):Nat:=aI (zs.take i)
theorem Py:∀(xs ys:List Int),aI (xs++ys)=max (aI xs) (aI ys) |[],ys=>by simp[aI] |x::xs,ys=>by show max x.natAbs (aI (xs++ys))=max (max x.natAbs (aI xs)) (aI ys);rw[Py xs ys];lia
theorem a3J{zs:List Int}{i:Nat}{z:Int}(h:zs[i]? =some z):rQ zs (i+1)=max (rQ zs i) z.natAbs:=by
 unfold rQ;rw[kx,h,Py];show max _ (max z.natAbs 0)=_
 lia
def ve(r:Rat):Rat:=if r.num<0 then-r else r
theorem a8y(r:Rat):(ve r).num=iH r.num:=by
 unfold ve iH;split
 ·rfl
 ·rfl
theorem a8A(r:Rat):(ve r).den=r.den:=by
 unfold ve;split
 ·rfl
 ·rfl
theorem a7s{a b:Int}(hb:0<b):0<=(Rat.divInt a b).num↔0<=a:=by rw[JR,xy hb]
theorem a8z{c L:Int}(hL:0<L):ve (Rat.divInt c L)=Rat.divInt (iH c) L:=by
 have h:=a7s (a:=c) hL;unfold ve iH;by_cases hc:c<0
 ·rw[bo hc,bo aw,Rat.neg_divInt]
 ·rw[bB hc,bB aw]
theorem Sa{a b L:Int}(hL:0<L):Rat.divInt a L<=Rat.divInt b L↔a<=b:=by
 rw[Rat.le_iff_sub_nonneg,U6 _ _ aw aw,xy (gX hL hL),<-Int.sub_mul];constructor
 ·intro h
  have:=Int.nonneg_of_mul_nonneg_left h hL
  lia
 ·intro h
  exact iW aw aw
theorem S9{a b L:Int}(hL:0<L):Rat.divInt a L<Rat.divInt b L↔a<b:=by rw[<-Rat.not_le,Sa hL];lia
theorem W0{a b l1 l2:Int}(h1:0<l1)(h2:0<l2):Rat.divInt b l2-Rat.divInt a l1=Rat.divInt (b*l1-a*l2) (l1*l2):=by rw[U6 _ _ aw aw,Kh l2 l1]
theorem a7B{j p q h L:Int}(hp:p≠0)(hh:h≠0)(e:p*L=h*q):Rat.divInt (j*j*q*q) (p*p)=Rat.divInt ((j*L)^2) (h^2):=by
 rw[Rat.divInt_eq_divInt_iff (Kf hp hp) (by rw[fy,fy,lg,ky];exact Kf hh hh)];have e2:(p*L)*(p*L)=(h*q)*(h*q):=by rw[e]
 rw[fy,fy,lg,ky,fy,fy,lg,ky];have a1:j*j*q*q*(h*h)=(j*j)*((h*q)*(h*q)):=by ac_rfl
 have a2:j*L*(j*L)*(p*p)=(j*j)*((p*L)*(p*L)):=by ac_rfl
 rw[a1,a2,e2]
end Cn
namespace Pn
def mn(a b:Rat):Rat:=if b<a then b else a
theorem fq(a b:Rat):mn a b<=a:=by
 unfold mn;split
 ·next h=>exact Ad h
 ·exact iI
theorem gP(a b:Rat):mn a b<=b:=by
 unfold mn;split
 ·exact iI
 ·next h=>exact oF.mp h
theorem lQ{a b c:Rat}(h1:c<=a)(h2:c<=b):c<=mn a b:=by unfold mn;split<;>assumption
theorem rA(a b:Rat):mn a b=a\/mn a b=b:=by
 unfold mn;split
 ·exact .inr rfl
 ·exact .inl rfl
theorem u9{a b c:Rat}(hc:c=a\/c=b)(h1:c<=a)(h2:c<=b):mn a b=c:=by
 rcases hc with rfl|rfl
 ·exact CZ (fq _ _) (lQ h1 h2)
 ·exact CZ (gP _ _) (lQ h1 h2)
theorem PC{a b c:Rat}(h:a<=b)(hc:0<=c):a<=b+c:=cy h (by have:=(Rat.add_le_add_left (c:=b)).mpr hc;rwa [Ae]at this)
section
variable (n:Nat)(own:Nat->Rat)(L:Nat->Option Nat)(r f:Int)
def Pz(g:Nat->Rat):Nat->Rat |0=>g n |k+1=>match L (n-(k+1))with |some m=>mn (g (n-(k+1))) (Pz g k+((f*(m:Int):Int):Rat)) |none=>g (n-(k+1))
def fl(g:Nat->Rat)(i:Nat):Rat:=Pz n L f g (n-i)
end
section
variable {n:Nat}{own g:Nat->Rat}{L:Nat->Option Nat}{r f:Int}
theorem sx:fl n L f g n=g n:=by unfold fl;rw[Ah];rfl
theorem o5{i m:Nat}(hi:i<n)(h:L i=some m):fl n L f g i=mn (g i) (fl n L f g (i+1)+((f*(m:Int):Int):Rat)):=by
 unfold fl;have e:n-i=(n-(i+1))+1:=by omega
 rw[e];show(match L (n-((n-(i+1))+1))with|some m=>_|none=>_)=_;have e2:n-((n-(i+1))+1)=i:=by omega
 rw[e2,h]
theorem pX{i:Nat}(hi:i<n)(h:L i=none):fl n L f g i=g i:=by
 unfold fl;have e:n-i=(n-(i+1))+1:=by lia
 rw[e];show(match L (n-((n-(i+1))+1))with|some m=>_|none=>_)=_;have e2:n-((n-(i+1))+1)=i:=by lia
 rw[e2,h]
theorem a1g{a:Int}{m:Nat}(h:0<=a):(0:Rat)<=((a*(m:Int):Int):Rat):=by have:((0:Int):Rat)<=((a*(m:Int):Int):Rat):=xx.mpr (iW h aw);exact this
theorem down{C:Nat->Prop}(hn:C n)(hs:∀i,i<n->C (i+1)->C i):∀i,i<=n->C i:=by
 have key:∀k,k<=n->C (n-k):=λk=>by induction k with |zero=>intro _;exact hn |succ k ih=>
  intro hk;refine hs _ cj ?_;have e:n-(k+1)+1=n-k:=by omega
  rw[e];exact ih cj
 intro i hi;have:=key (n-i) cj;have e:n-(n-i)=i:=by omega
 rwa [e]at this
end
open Rt
theorem yK{n:Nat}{a b:Rat}(h1:Bd n a)(h2:Bd n b):Bd n (mn a b):=by rcases rA a b with e|e<;>rw[e]<;>assumption
theorem qo{n:Nat}{q:Rat}{z:Int}(h:Bd n q)(hz:z.natAbs<2^24):Bd (n+25) (q+(z:Rat)):=by have b:Bd 24 (z:Rat):=⟨hz,by show 1<2^24;decide⟩;exact(h.add b).mono aw
theorem a5v{n b:Nat}{g:Nat->Rat}{L:Nat->Option Nat}{f:Int}(ho:∀i,i<=n->Bd b (g i))(hL:∀i m,L i=some m->(f*(m:Int)).natAbs<2^24):∀i,i<=n->Bd (b+25*(n-i)) (fl n L f g i):=by
 refine down ?_ λi hi ih=>?_
 ·rw[sx];exact(ho n (bf _)).mono aw
 ·cases h:L i with |none=>rw[pX hi h];exact(ho i aw).mono aw |some m=>rw[o5 hi h];exact yK ((ho i aw).mono aw) ((qo ih (hL i m h)).mono aw)
def lst(n:Nat)(g:Nat->Rat):List Rat:=(List.range (n+1)).map g
theorem uc(n:Nat)(g:Nat->Rat):(lst n g).length=n+1:=by simp[lst]
theorem ud{n:Nat}(g:Nat->Rat){i:Nat}(h:i<=n):(lst n g)[i]? =some (g i):=by unfold lst;rw[bX,bu (by simp;lia),vq];rfl
theorem a1V{n:Nat}{g g':Nat->Rat}{i:Nat}(h:∀k,k<=n->k≠i->g' k=g k):(lst n g).set i (g' i)=lst n g':=by
 apply As;intro k;by_cases hk:k<=n
 ·rw[ud g' hk,List.getElem?_set]
  by_cases e:i=k
  ·subst e;rw[bo rfl,bo (by rw[uc];lia)]
  ·rw[bB e,ud g hk,h k hk (λz=>e z.symm)]
 ·rw[m8 (by rw[vp,uc];lia),m8 (by rw[uc];lia)]
theorem GL{n:Nat}{g g':Nat->Rat}(h:∀k,k<=n->g' k=g k):lst n g=lst n g':=by
 apply As;intro k;by_cases hk:k<=n
 ·rw[ud g hk,ud g' hk,h k hk]
 ·rw[m8 (by rw[uc];lia),m8 (by rw[uc];lia)]
end Pn
namespace Ow
open Pn Cn Ln Rt
abbrev Itm:=Option (List Int × Int)
def topR(rate sp:Int):Rat:=Rat.divInt ((sp*rate)^2) 10000
def cornO(j:Int)(ns ms:List Int):Option Rat:=if aI (cY ns ms)=0 then none else some (Rat.divInt ((j*aI ns*aI ms)^2) ((aI (cY ns ms):Int)^2))
def mnO(a:Rat):Option Rat->Rat |none=>a |some c=>mn a c
def betR(j rate:Int):Itm->Itm->Rat |some (ns,sp),some (ms,sq)=>mnO (mn (topR rate sp) (topR rate sq)) (cornO j ns ms) |_,_=>0
def atO(os:List Itm)(i:Nat):Itm:=(os[i]?).join
def ownF(j rate:Int)(os:List Itm):Nat->Rat |0=>0 |i+1=>betR j rate (atO os i) (atO os (i+1))
def leadF(os:List Itm)(i:Nat):Option Nat:=(atO os i).map λq=>aI q.1
def ownL(j rate:Int)(os:List Itm):List Rat:=(List.range (os.length+1)).map (ownF j rate os)
theorem ng{os:List Itm}{i:Nat}{o:Itm}(h:os[i]? =some o):atO os i=o:=by unfold atO;rw[h];rfl
theorem Jm{os:List Itm}{i:Nat}(h:os.length<=i):atO os i=none:=by unfold atO;rw[m8 h];rfl
theorem xc(j rate:Int)(o:Itm):betR j rate o none=0:=by unfold betR;split<;>simp_all
theorem SH(j rate:Int)(o:Itm):betR j rate none o=0:=by unfold betR;split<;>simp_all
theorem Gi(j rate:Int)(os:List Itm):∀n,n=os.length->ownF j rate os n=0 |0,_=>rfl |n+1,h=>by show betR j rate (atO os n) (atO os (n+1))=0;rw[Jm (i:=n+1) aw];exact xc _ _ _
theorem Oh(j rate:Int)(os:List Itm):(ownL j rate os).length=os.length+1:=by simp[ownL]
theorem Oi(j rate:Int)(os:List Itm){i:Nat}(h:i<=os.length):(ownL j rate os)[i]? =some (ownF j rate os i):=by unfold ownL;rw[bX,bu (by simp;lia),vq];rfl
theorem Oj(j rate:Int){os:List Itm}(h:os≠[]):ownL j rate os=[0]++(List.range (os.length-1)).map (λi=>ownF j rate os (i+1))++[0]:=by
 have h0:0<os.length:=Ao.mpr h;apply As;intro i;by_cases hi:i<=os.length
 ·rw[Oi j rate os hi]
  rcases Nat.eq_zero_or_pos i with rfl|hp
  ·rfl
  ·by_cases hl:i=os.length
   ·rw[m9 (by simp;lia),hl,Gi j rate os _ rfl]
    have:os.length-([0]++List.map (λi=>ownF j rate os (i+1)) (List.range (os.length-1))).length=0:=by simp;lia
    rw[this];rfl
   ·rw[kZ (by simp;lia),m9 (by simp;lia),bX]
    have e:i-[(0:Rat)].length=i-1:=rfl;rw[e,bu (by simp;lia),vq];show some _=some (ownF j rate os (i-1+1));rw[Nat.sub_add_cancel hp]
 ·rw[m8 (by rw[Oh];lia),m8 (by simp;lia)]
theorem tE(rate sp:Int):0<=topR rate sp:=by
 unfold topR;rw[xy aB,fy,fy,lg,ky];rcases Int.le_total 0 (sp*rate)with h|h
 ·exact iW h h
 ·exact Uo h h
theorem Wb(a:Int):0<=a^2:=by
 rw[fy,fy,lg,ky];rcases Int.le_total 0 a with h|h
 ·exact iW h h
 ·exact Uo h h
theorem a7C{j:Int}{ns ms:List Int}{c:Rat}(h:cornO j ns ms=some c):0<=c:=by
 unfold cornO at h;split at h
 ·cases h
 ·next h0=>
  cases h;rw[xy]
  ·exact Wb _
  ·rw[fy,fy,lg,ky];exact gX aw aw
theorem a8a(j rate:Int)(o p:Itm):0<=betR j rate o p:=by
 unfold betR;split
 ·next ns sp ms sq=>
  have h:=lQ (tE rate sp) (tE rate sq);unfold mnO;split
  ·exact h
  ·next c e=>exact lQ h (a7C e)
 ·exact iI
theorem vZ(j rate:Int)(os:List Itm):∀i,0<=ownF j rate os i |0=>iI |i+1=>a8a _ _ _ _
def OkI(o:Itm):Prop:=∀ns sp,o=some (ns,sp)->(∀z∈ns,(z.natAbs:Int)<=100)/\1<=sp/\sp<=20
theorem Dz{a:Int}{m:Nat}(h:a.natAbs<=m):(a^2).natAbs<=m*m:=by rw[fy,fy,lg,ky];exact kJ h h
theorem oS{rate sp:Int}(h1:1<=sp)(h2:sp<=20)(h3:10<=rate)(h4:rate<=200):Bd 64 (topR rate sp):=by
 have kQ:(2:Nat)^64=18446744073709551616:=by decide
 have a:=Dz (kJ (a:=sp) (b:=rate) (m:=20) (n:=200) aw aw);exact lN aB (by rw[kQ];lia) aB
theorem J3{j:Int}{ns ms:List Int}{c:Rat}(h1:1<=j)(h2:j<=50)(hn:∀z∈ns,(z.natAbs:Int)<=100)(hm:∀z∈ms,(z.natAbs:Int)<=100)(h:cornO j ns ms=some c):Bd 64 c:=by
 have kQ:(2:Nat)^64=18446744073709551616:=by decide
 have cb:=Cw (λz hz=>by have:=hn z hz;lia) (λz hz=>by have:=hm z hz;lia) (ns:=ns) (ms:=ms);have hb:=nT cb;have l1:=nT (ns:=ns) (m:=100) λz hz=>by have:=hn z hz;lia
 have l2:=nT (ns:=ms) (m:=100) λz hz=>by have:=hm z hz;lia
 unfold cornO at h;split at h
 ·cases h
 ·next h0=>cases h;have a:=Dz (kJ (kJ (a:=j) (b:=(aI ns:Int)) (m:=50) (n:=100) aw aw) (b:=(aI ms:Int)) (n:=100) aw);have b:=Dz (a:=(aI (cY ns ms):Int)) (m:=2000000) aw;refine lN ?_ (by rw[kQ];lia) (by rw[kQ];lia);rw[fy,fy,lg,ky];exact Kf aw aw
theorem yK{n:Nat}{a b:Rat}(h1:Bd n a)(h2:Bd n b):Bd n (mn a b):=by rcases rA a b with e|e<;>rw[e]<;>assumption
theorem Km:Bd 64 (0:Rat):=⟨ aB,aB⟩
theorem a8b{j rate:Int}{o p:Itm}(h1:1<=j)(h2:j<=50)(h3:10<=rate)(h4:rate<=200)(ho:OkI o)(hp:OkI p):Bd 64 (betR j rate o p):=by
 unfold betR;split
 ·next ns sp ms sq=>
  obtain⟨a1,a2,a3⟩:=ho ns sp rfl;obtain⟨b1,b2,b3⟩:=hp ms sq rfl;have h:=yK (oS a2 a3 h3 h4) (oS b2 b3 h3 h4);unfold mnO;split
  ·exact h
  ·next c e=>exact yK h (J3 h1 h2 a1 b1 e)
 ·exact Km
def OkIs(os:List Itm):Prop:=∀i,OkI (atO os i)
theorem Gj{j rate:Int}{os:List Itm}(h1:1<=j)(h2:j<=50)(h3:10<=rate)(h4:rate<=200)(ho:OkIs os):∀i,Bd 64 (ownF j rate os i) |0=>Km |i+1=>a8b h1 h2 h3 h4 (ho i) (ho (i+1))
end Ow
namespace Wk
open PySem L2
def kn(pl ns:List Int):List Int:=List.zipWith (λa b=>a+b) pl ns
theorem vd{pl ns:List Int}(h:ns.length=pl.length):(kn pl ns).length=pl.length:=by unfold kn;rw[List.length_zipWith,h];exact Nat.min_self _
theorem Ju{pl ns:List Int}{i:Nat}{a b:Int}(h1:pl[i]? =some a)(h2:ns[i]? =some b):(kn pl ns)[i]? =some (a+b):=by unfold kn;rw[List.getElem?_zipWith,h1,h2]
structure jN(rs pl:List Int):Prop where
 len:pl.length=rs.length
 at':∀(i:Nat)(x r:Int),pl[i]? =some x->rs[i]? =some r->0<=x/\x<=r
end Wk
namespace L2
open PySem PySem.Spec PyProof.Rows
def JH(z:Str):It:=⟨λi _=>i<z.cps.size,λi H x H'=>H'=H/\∃c,z.cps.toList[i]? =some c/\x= .str ⟨#[c]⟩,λi _=>z.cps.size<=i⟩
theorem Va{P:ai}{w:World}{K:ag}{tg:Expr}(it:Addr)(z:Str)(t:Tok)(ty:String)(Hl:["enumerate","zip","dict_itemiterator","dict_reverseitemiterator","odict_iterator","itertools.zip_longest","itertools.pairwise"].contains ty=false) (W:∀A':ak,A'.handled=none->Walks P w A' it [it] [it] z.cps.size (SignAt z) (λi h=>h.IsStrIter it ty z t i)) (self:∀(A:ak)(i:Nat)(s:ah)(Q:Value->ah->Prop)(E:Value->ah->Prop),s.heap.IsStrIter it ty z t i->Q (.ref it) s->wpAny (model P w) A (pyIter (.ref it)) Q E s): Turn P w K tg (JH z) [it] it (λi h=>h.IsStrIter it ty z t i/\i<=z.cps.size) where
 mem:=by simp
 obj:=λi h st b hb=>by
  have e:b=it:=by simpa using hb
  subst e;obtain⟨⟨o,e,c,d⟩,_⟩:=st;exact⟨o,e,λv z=>by rw[d]at z;cases z⟩
 keep:=λi h h' st k=>⟨let⟨o,e,r⟩:=st.1;⟨o,k it (by simp) o e,r⟩,st.2⟩
 item:=by intro X hP hw hK hc i ay s O H E I hf st hg;subst hP hw hK;obtain⟨f0,f1,f2,f3,f4,f5⟩:=hf it (by simp);refine(W X.A (I.ok.hd hc)).item i s _ _ hg st.1 λv h' tk hv gZ kk=>?_;obtain⟨c,u,ec,rfl⟩:=hv;have I1:Inv X ay O H {s with heap:=h',toks:=tk}:=I.turned (λb o hb e=>kk b o (by simpa using hb) e) f0 f1 f3 f4 f5;obtain⟨o,e,cl,d⟩:=id gZ;exact⟨_,Z,zp (s:={s with heap:=h',toks:=tk}) e cl d Hl ⟨.str ⟨#[c]⟩,H,I1,⟨u,Z⟩,⟨Z,c,by simpa using ec,Z⟩,⟨gZ,hg⟩,λb hb=>(hf b hb).1⟩⟩
 done:=by intro X hP hw hK hc i ay s O H E I hf st hg;subst hP hw hK;obtain⟨f0,f1,f2,f3,f4,f5⟩:=hf it (by simp);obtain⟨st,hle⟩:=st;have ei:i=z.cps.size:=Nat.le_antisymm hle hg;subst ei;exact(W X.A (I.ok.hd hc)).done s _ _ st λh' tk eb=>⟨Z,I.turned (λb o hb e=>eb b o (by simpa using hb) e) f0 f1 f3 f4 f5⟩
 self:=λA i s Q E st h=>self A i s Q E st.1 h
section
variable {X:Cx} {tg:Expr}
inductive aaD(R:It->Hp->Prop)(x:V)(H1:Hp):Prop |mk (z:_)(h0:x= .str z)(h1:R (JH z) H1)
def a2N(tl:TE):TI:=λO H R=>tl O H λx H1=>aaD R x H1
theorem Yd{l:Expr}{tl:TE}(hl:PE X l tl):PI X tg l (a2N tl):=by
 intro ay s O H R I h;refine ba (hl ay s O H _ I h) λv s1 ⟨x,H1,I1,r1,q1⟩=>?_;obtain⟨z,e,q⟩:=q1;subst e;obtain⟨t,rfl⟩:=r1;have fin:∀ty,["enumerate","zip","dict_itemiterator","dict_reverseitemiterator","odict_iterator","itertools.zip_longest","itertools.pairwise"].contains ty=false->(∀A':ak,A'.handled=none->Walks X.prog X.w A' s1.heap.objs.size [s1.heap.objs.size] [s1.heap.objs.size] z.cps.size (SignAt z) (λi h=>h.IsStrIter s1.heap.objs.size ty z t i))->(∀(A:ak)(i:Nat)(s:ah)(Q:Value->ah->Prop)(E:Value->ah->Prop),s.heap.IsStrIter s1.heap.objs.size ty z t i->Q (.ref s1.heap.objs.size) s->wpAny (model X.prog X.w) A (pyIter (.ref s1.heap.objs.size)) Q E s)->JD X ay O tg R (.ref s1.heap.objs.size) {s1 with heap:=s1.heap.push {cls:=.type ty,data:=.fields #[.str z t,.int 0 0]}}:=λty h1 h2 h3=>by
  refine⟨s1.heap.objs.size,[s1.heap.objs.size],_,_,H1,Z,I1.kept (t':=s1.toks) λb o e=>cF _ e,Va _ z t ty h1 h2 h3,⟨⟨_,fj _ Z,Z,Z⟩,gH _⟩,λb hb=>?_,q⟩;have e:b=s1.heap.objs.size:=by simpa using hb
  subst e;exact I1.sj (bf _) (I1.bD.fresh (bf _))
 cases ha:z.cps.all (·<128)
 ·exact wpAny_pyIter_wide ha (fin "str_iterator" aB (λA' hA=>Walks.strWide hA _ z t) (λ_ _ _ _ _ st h=>wpAny_pyIter_striter_wide st h))
 ·exact wpAny_pyIter_ascii ha (fin "str_ascii_iterator" aB (λA' hA=>Walks.strAscii hA _ z t) (λ_ _ _ _ _ st h=>wpAny_pyIter_striter_ascii st h))
theorem a7H{z:Str}{f:Nat->Bool}{te:TE}{Q:VK}{D:Addr}{H H0:Hp}(rest:St)(nw:Nw H H0 D (.lst []))(hz:z.length<=1000) (hs:∀(c:Nat)(H2:Hp)(Q':VK),c∈z.cps.toList->aH H H2->(∀H3,aH H2 H3->Q' (.bl (f c)) H3)->te (some (.str ⟨#[c]⟩)::rest) H2 Q') (hq:∀H',aH H H'->H' D=some (.lst ((z.cps.toList.map f).map V.bl))->Q (.ref D) H'):ku (JH z) (g9 0) jA te Q D (none::rest) H0:=by
 have hl:z.cps.toList.length=z.cps.size:=by simp
 refine Sm (xs:=z.cps.toList.map λc=>V.str ⟨#[c]⟩) (bs:=z.cps.toList.map f) rest nw (by simp) (by simpa[Str.length]using hz) ?_ ?_ ?_ hq
 ·intro i x H2 ex s2
  rw[bX]at ex;cases ec:z.cps.toList[i]? with |none=>rw[ec]at ex;cases ex |some c=>rw[ec]at ex;cases ex;refine⟨by have:=(cv.mp ec).1;show i<z.cps.size;omega,λy H3 ⟨e3,c',qe,e⟩=>⟨e3,?_⟩⟩;rw[ec]at qe;cases qe;exact e
 ·intro H2 s2
  show z.cps.size<=(z.cps.toList.map _).length;rw[bL,hl];exact bf _
 ·intro i x b H2 Q' ex eb s2 kN
  rw[bX]at ex eb;cases ec:z.cps.toList[i]? with |none=>rw[ec]at ex;cases ex |some c=>rw[ec]at ex eb;cases ex;cases eb;exact hs c H2 Q' (gj ec) s2 kN
theorem YI:dg X (compareOp .In) (λx y H Q=>∃c j,x= .str ⟨#[c]⟩/\y= .str j/\Q (.bl (decide (c∈j.cps.toList))) H):=by intro ay s O H x y v u Q I rx ry h;obtain⟨c,j,rfl,rfl,q⟩:=h;refine YH ay s O H _ _ v u Q I rx ry ⟨_,_,Z,Z,?_⟩;rw[PySem.StrLaws.found_one];exact q
inductive aar(K:ag)(x:V)(y:V)(H:Hp)(Q:VK):Prop |mk (p:_)(xs:_)(d:_)(ds:_)(h0:y= .ref p)(h1:aU K H p xs)(h2:RD K H x d)(h3:aJ K H xs ds)(h4:SeqAt.shaped d=true)(h5:(∀e∈ds,SeqAt.shaped e=true))(h6:Q (.bl (ds.any λe=>PyData.eqv e d)) H)
def XT(K:ag):R2:=λx y H Q=>aar K x y H Q
theorem a2J(K:ag)(hK:X.K=K)(hu:X.A.units+65<cLine):dg X (compareOp .In) (XT K):=by
 subst hK;intro ay s O H x y v u Q I rx ry h;obtain⟨p,xs,d,ds,rfl,hx,hd,rX,sd,Ww,q⟩:=h;cases ry;obtain⟨its,r,pl,hz⟩:=I.tuple hx;obtain⟨k1,k2⟩:=Ri I hu rx hd sd r rX Ww;refine SeqAt.in_tupleAt (uN s.heap d) (show s.heap.IsTuple p its.toArray from pl) (λw hw=>k1 w (by simpa using hw)) ⟨.bl _,H,I,Z,?_⟩;have e:its.toArray.any (uN s.heap d)=ds.any λe=>PyData.eqv e d:=by rw[<-k2];simp
 rw[e];exact q
end
section
variable {X:Cx}
theorem vX(K:ag)(h:X.K=K){o e:Expr}{to:TE}{t:TA}{apos dW:Pos}(ho:PE X o to)(ha:PA X [e] t) (pU:attributeBase o "extend" X.env (eval o X.env)=eval o X.env:=by rfl) (pP:((backTo dW (starEach [e] X.env)).all (λx=>!x.1)&&(backToKw dW (keywordEach [] X.env)).all (λx=>x.1.isSome) &&decide ([e].length+([]:List Keyword).length+(if([]:List Keyword).isEmpty then 0 else 1)<30))=true:=by rfl) (pL:(apos.endLine==dW.line)=true:=by rfl)(hs:starEach [e] X.env=(false,eval e X.env)::starEach [] X.env:=by rfl)(pK:(backTo dW (starEach [] X.env)).any (·.1)=false:=by rfl): PE X (.Call (.Attribute o "extend" apos) [e] [] dW) (xR K "list" O6 to t):=by subst h;exact Br Uc PySem.F.slot_list_extend PySem.F.type_list_extend a1i ho ha pU pP pL hs pK
open PyProof
end
end L2
namespace L2
open PySem PySem.Spec PyProof.Rows
section
variable {K:ag} {H H' H2:Hp}
end
section
variable {X:Cx} {tg:Expr}
end
theorem Sl{K:ag}{b1 b2:Bool}{l1 l2:Addr}{xs ys:List V}{bs:List Bool}{te:TE}{Q:VK}{D:Addr}{H H0:Hp}{n:Nat}(rest:St)(hn:n=2)(h1:eG b1 K H l1 xs)(h2:eG b2 K H l2 ys)(nw:Nw H H0 D (.lst [])) (hl:min xs.length ys.length=bs.length)(hz:bs.length<=100000) (hs:∀(i:Nat)(x y:V)(b:Bool)(H2:Hp)(Q':VK),xs[i]? =some x->ys[i]? =some y->bs[i]? =some b->aH H H2->(∀H3,aH H2 H3->Q' (.bl b) H3)->te (some x::some y::rest) H2 Q') (hq:∀H',aH H H'->H' D=some (.lst (bs.map V.bl))->Q (.ref D) H'):ku (sP K b1 b2 l1 l2) (zq K n (uI (g9 0) (uI (g9 1) Cf))) jA te Q D (none::none::rest) H0:=by
 subst hn;have hD:=nw.no;refine uY bs.length (λi O H2=>aH H H2/\H2 D=some (.lst ((bs.take i).map V.bl))/\∃v v',O=v::v'::rest) ?_ ?_ ?_
 ·exact⟨nw.same,nw.at',none,none,Z⟩
 ·rintro i O H2 hi ⟨s2,d2,v,v',rfl⟩
  have hx:i<xs.length:=by lia
  have hy:i<ys.length:=by lia
  have ex:=bu hx;have ey:=bu hy;have eb:=bu hi;refine⟨⟨xs,ys,_,_,h1.go s2,h2.go s2,ex,ey⟩,λy' H3 kK=>?_⟩;obtain⟨T,x0,y0,rfl,k1,k2,n3⟩:=kK;have e1:=k1 _ (h1.go s2);have e2:=k2 _ (h2.go s2);rw[ex]at e1;rw[ey]at e2;cases e1;cases e2;refine⟨T,_,Z,aU.of n3.at',Z,_,_,Z,_,_,Z,Z,?_⟩;refine yes (bK ?_);refine hs i _ _ _ _ _ ex ey eb (s2.trans n3.same) λH4 s4=>?_;refine⟨_,s4 _ _ (n3.same _ _ d2),?_,bs.length-(i+1),aw,Z,aw,λb o e=>?_,?_,_,_,Z⟩
  ·rw[bL,je]
   have:(100000:Nat)<sizeLine:=by decide
   lia
  ·rw[aV (dU e hD)];exact s4 b o (n3.same b o (s2 b o e))
  ·rw[bQ,kx,eb,jd];rfl
 ·rintro O H2 ⟨s2,d2,v,v',rfl⟩
  refine⟨⟨xs,ys,h1.go s2,h2.go s2,aw⟩,hq H2 s2 ?_⟩;rw[d2,xD]
structure MA(K:ag)(C:Addr)(m qual:Str)(st:Stmt):Prop where ex:∃f fd,Meth K C m f/\m7 K m qual st f fd
def cZ(P:ai)(w:World)(K:ag)(mg:bV)(aA:Heap)(C:Addr)(m:Str)(k:Nat)(sp:Sp):Prop:=∃f fd ps,iU P w K mg aA ja k f fd ps sp/\Meth K C m f/\Binds K fd ps []
structure CA(K:ag)(mg:bV)(C:Addr)(x qual:Str)(st:Stmt):Prop where
 mgC:mg x=some (.ref C)
 ex:∃f fd,Mk K C f/\m7 K "__init__" qual st f fd
def CL(P:ai)(w:World)(K:ag)(mg:bV)(aA:Heap)(C:Addr)(x:Str)(k:Nat)(sp:Sp):Prop:=∃f fd ps,iU P w K mg aA ja k f fd ps sp/\Mk K C f/\Binds K fd ps []/\mg x=some (.ref C)
section
variable {P:ai}{w:World}{K:ag}{mg:bV}{aA:Heap}
theorem iC{C:Addr}{m qual:Str}{st:Stmt}{f:Addr}{oc:Value}{od an:Option Addr}{hJ:Array (Option Value)}{kV doc pm aM ct:Value} (a:PySem.W.findIn K (.ref C) m=some (some (.ref f)))(i:PySem.W.isFn K (.ref f)=true) (l:K.lookup f=some ⟨oc,od,.func (PySem.W.fnOf m qual (m5 st) (ie st) (aX st) .none kV doc pm an aM ct),hJ⟩) (c:PySem.W.codeIn K aM qual=true)(k:PySem.W.keepIn K (.ref f)=true):MA K C m qual st:=⟨f,_,⟨a,i,k⟩,HS l c k⟩
theorem a82{h:Heap}{C:Addr}{x qual:Str}{st:Stmt}{f:Addr}{oc:Value}{od an:Option Addr}{hJ:Array (Option Value)}{kV doc pm aM ct:Value}(X:K.In h)(G:h.Ns mainGlobals mg) (aC:PySem.W.nsIn K mainGlobals x=some (some (.ref C)))(mk:PySem.W.makesIn K C=true)(kc:PySem.W.keepIn K (.ref C)=true) (a:PySem.W.findIn K (.ref C) "__init__"=some (some (.ref f)))(i:PySem.W.isFn K (.ref f)=true) (l:K.lookup f=some ⟨oc,od,.func (PySem.W.fnOf "__init__" qual (m5 st) (ie st) (aX st) .none kV doc pm an aM ct),hJ⟩) (c:PySem.W.codeIn K aM qual=true)(k:PySem.W.keepIn K (.ref f)=true):CA K mg C x qual st:=⟨Af X G aC,f,_,⟨mk,a,i,kc⟩,HS l c k⟩
theorem MA.has{C:Addr}{m qual:Str}{st:Stmt}{N ps:List Str}{k:Nat}{sp:Sp}(F:MA K C m qual st)(S:bj N ps (aX st))(len:∀vs H Q E,sp vs H Q E->vs.length=ps.length) (hb:∀(kV doc pm:Value)(an:Option Addr)(aM ct:Value)(us:List Value),us.length=ps.length->bindArgs (PySem.W.fnOf m qual (m5 st) (ie st) (aX st) .none kV doc pm an aM ct) ⟨us,[]⟩=pure (ps.zip us)) (kP:∀(f:Addr)(aM:Value)(A:ak)(outer:List Env)(s:ah)(H:Hp)(vs:List V)(Q:VK)(E:XK),dE k (A.deeper (envOfC qual (aX st) s.heap.objs.size f aM))->sp vs H Q E->∃t,gT (jK ja P w K mg aA N qual (aX st) f aM A outer s H E).pq (ie st) t/\t {nx:=λ_ H'=>Q .bN H',rt:=Q} (start N vs) H):cZ P w K mg aA C m (k+1) sp:=by obtain⟨f,fd,hm,F⟩:=F.ex;exact⟨f,fd,ps,F.ok S len λaM A outer s H vs Q E=>kP f aM A outer s H vs Q E,hm,F.binds hb⟩
theorem CA.has{C:Addr}{x qual:Str}{st:Stmt}{N ps:List Str}{k:Nat}{sp:Sp}(F:CA K mg C x qual st)(S:bj N ps (aX st))(len:∀vs H Q E,sp vs H Q E->vs.length=ps.length) (hb:∀(kV doc pm:Value)(an:Option Addr)(aM ct:Value)(us:List Value),us.length=ps.length->bindArgs (PySem.W.fnOf "__init__" qual (m5 st) (ie st) (aX st) .none kV doc pm an aM ct) ⟨us,[]⟩=pure (ps.zip us)) (kP:∀(f:Addr)(aM:Value)(A:ak)(outer:List Env)(s:ah)(H:Hp)(vs:List V)(Q:VK)(E:XK),dE k (A.deeper (envOfC qual (aX st) s.heap.objs.size f aM))->sp vs H Q E->∃t,gT (jK ja P w K mg aA N qual (aX st) f aM A outer s H E).pq (ie st) t/\t {nx:=λ_ H'=>Q .bN H',rt:=Q} (start N vs) H):CL P w K mg aA C x (k+1) sp:=by obtain⟨f,fd,hm,F'⟩:=F.ex;exact⟨f,fd,ps,F'.ok S len λaM A outer s H vs Q E=>kP f aM A outer s H vs Q E,hm,F'.binds hb,F.mgC⟩
end
section
variable {X:Cx}{k:Nat}{x m:Str}{C:Addr}{p pos apos:Pos}{o e:Expr}{es:List Expr}{t:TA}{ta:TE}{sp:Sp}
inductive TJ(C:Addr)(m:Str)(sp:Sp)(t:TA)(O:St)(Q:VK)(x:V)(H1:Hp):Prop |mk (a:_)(dx:_)(fs:_)(h0:x= .ref a)(h1:H1 a=some (.ins C dx fs))(h2:fs.lookup m=none)(h3:t O H1 λvs H2=>sp (x::vs) H2 Q E0)
def KI(C:Addr)(m:Str)(sp:Sp)(ta:TE)(t:TA):TE:=λO H Q=>ta O H λx H1=>TJ C m sp t O Q x H1
theorem P1{O:St}{Q:VK}{x:V}{H1:Hp}:CM C m sp [] E0 t O Q x H1=TJ C m sp t O Q x H1:=by
 have e1:(λ(vs:List V) H1=>sp (x::(vs++[])) H1 Q E0)=λvs H1=>sp (x::vs) H1 Q E0:=by funext vs H1;rw[qC]
 refine propext ⟨λ⟨a,dx,fs,h0,h1,h2,h3⟩=>⟨a,dx,fs,h0,h1,h2,?_⟩,λ⟨a,dx,fs,h0,h1,h2,h3⟩=>⟨a,dx,fs,h0,h1,h2,?_⟩⟩
 ·rw[<-e1];exact h3
 ·rw[e1];exact h3
theorem p9{pl:Sem Bool}(F:cZ X.prog X.w X.K X.mg X.aA C m k sp)(c:kv X.K C)(hr:dE k X.A)(he:PE X o ta)(ha:PA X (e::es) t) (ib:starEach (e::es) X.env=(false,eval e X.env)::starEach es X.env:=by rfl)(gC:(backTo pos (starEach es X.env)).any (·.1)=false:=by rfl) (ht:eval (.Call (.Attribute o m apos) (e::es) [] pos) X.env=(do
 let ov<-eval o X.env
 standAt apos.atName
 let(f,first)<-holding [ov] (getMethod ov m pl)
 callWith pos f first (backTo pos (starEach (e::es) X.env)) (backToKw pos (keywordEach [] X.env))):=by rfl): PE X (.Call (.Attribute o m apos) (e::es) [] pos) (KI C m sp ta t):=by
 obtain⟨f,fd,ps,F,hm,hb⟩:=F;have h:=Yl (pos:=pos) (apos:=apos) (pl:=pl) he c hm F hr hb .nil Bu ha ib gC ht;intro ay s O H Q I hq;refine h ay s O H Q I ?_;show ta O H λx H1=>CM C m sp [] E0 t O Q x H1;simp only[P1];exact hq
theorem jY{pl:Sem Bool}(F:cZ X.prog X.w X.K X.mg X.aA C m k sp)(c:kv X.K C)(hr:dE k X.A)(he:PE X o ta) (ht:eval (.Call (.Attribute o m apos) [] [] pos) X.env=(do
 let ov<-eval o X.env
 standAt apos.atName
 let(f,first)<-holding [ov] (getMethod ov m pl)
 callWith pos f first (backTo pos (starEach [] X.env)) (backToKw pos (keywordEach [] X.env))):=by rfl): PE X (.Call (.Attribute o m apos) [] [] pos) (KI C m sp ta vw):=by
 obtain⟨f,fd,ps,F,hm,hb⟩:=F;have h:=Yk (pos:=pos) (apos:=apos) (pl:=pl) he c hm F hr hb .nil Bu ht;intro ay s O H Q I hq;refine h ay s O H Q I ?_;show ta O H λx H1=>CM C m sp [] E0 vw O Q x H1;simp only[P1];exact hq
def VC(C:Addr)(sp:Sp)(t:TA):TE:=λO H Q=>t O H λvs H1=>∀x dx,H1 x=none->H1 dx=none->dx≠x->sp (.ref x::vs) (upd (upd H1 dx (.own x)) x (.ins C dx [])) (λv H2=>v= .bN/\Q (.ref x) H2) E0
theorem Yj(F:CL X.prog X.w X.K X.mg X.aA C x k sp)(hr:dE (k+1) X.A)(hg:Gl X x)(ha:PA X (e::es) t)(jJ:(x==("__debug__":Str))=false:=by decide) (he:starEach (e::es) X.env=(false,eval e X.env)::starEach es X.env:=by rfl)(gC:(backTo pos (starEach es X.env)).any (·.1)=false:=by rfl): PE X (.Call (.Name x p) (e::es) [] pos) (VC C sp t):=by
 obtain⟨f,fd,ps,F,M,hb,hm⟩:=F;have h:=Ym (pos:=pos) (p:=p) M F hr hg hm hb .nil Bu ha jJ he gC;intro ay s O H Q I hq;refine h ay s O H Q I ?_;have e1:(λ(vs:List V) H1=>∀x dx,H1 x=none->H1 dx=none->dx≠x->sp (.ref x::(vs++[])) (upd (upd H1 dx (.own x)) x (.ins C dx [])) (λv H2=>v= .bN/\Q (.ref x) H2) E0) =λvs H1=>∀x dx,H1 x=none->H1 dx=none->dx≠x->sp (.ref x::vs) (upd (upd H1 dx (.own x)) x (.ins C dx [])) (λv H2=>v= .bN/\Q (.ref x) H2) E0:=by funext vs H1;rw[qC]
 show t O H λvs H1=>∀x dx,H1 x=none->H1 dx=none->dx≠x->sp (.ref x::(vs++[])) (upd (upd H1 dx (.own x)) x (.ins C dx [])) (λv H2=>v= .bN/\Q (.ref x) H2) E0;rw[e1];exact hq
inductive IAt(C:Addr)(x:Str)(Q:VK)(v:V)(H1:Hp):Prop |mk (a dx:Addr)(fs:List (Str×V))(u:V)(h0:v= .ref a)(h1:H1 a=some (.ins C dx fs))(h2:fs.lookup x=some u)(h3:Q u H1)
theorem cX(T:kv X.K C)(hn:j9 X.K C x)(he:PE X e ta)(hb:attributeBase e x X.env (eval e X.env)=eval e X.env:=by rfl): PE X (.Attribute e x pos) (λO H Q=>ta O H λv H1=>IAt C x Q v H1):=by intro ay s O H Q I h;refine a8i hb (ba (he ay s O H _ I h) λu s1 ⟨v,H1,I1,rx,a,dx,fs,w,ex,ea,l,q⟩=>?_);subst ex;obtain rfl:u=Value.ref a:=rx;exact QL I1 ea T hn l λu' s2 I2 ru=>⟨w,H1,I2,ru,q⟩
inductive aaL(C:Addr)(x:Str)(D:Ends)(O:St)(y v:V)(H2:Hp):Prop |mk (a dx:Addr)(fs:List (Str×V))(h0:v= .ref a)(h1:H2 a=some (.ins C dx fs))(h2:fs.length<1000)(h3:D.nx O (upd H2 a (.ins C dx (iZ x y fs))))
inductive aaM(C a:Addr)(x:Str)(D:Ends)(O:St)(z:V)(H3:Hp):Prop |mk (mY:Addr)(nY:List (Str×V))(h0:H3 a=some (.ins C mY nY))(h1:nY.length<1000)(h2:D.nx O (upd H3 a (.ins C mY (iZ x z nY))))
inductive aaN(C:Addr)(x:Str)(tv:TE)(rd:V->V->Hp->VK->Prop)(D:Ends)(O:St)(v:V)(H1:Hp):Prop |mk (a dx:Addr)(fs:List (Str×V))(u:V)(h0:v= .ref a)(h1:H1 a=some (.ins C dx fs))(h2:fs.lookup x=some u)(h3:tv O H1 λy H2=>rd u y H2 λz H3=>aaM C a x D O z H3)
theorem iB{value:Expr}{tv:TE}{pos':Pos}(T:kv X.K C)(hn:j9 X.K C x)(ha:PE X o ta)(hv:PE X value tv)(hs:swapsWith value (some (.Attribute o x pos')) pos.line X.env=pure false:=by rfl): PS X (.Assign [.Attribute o x pos'] value pos) (λD O H=>tv O H λy H1=>ta O H1 λv H2=>aaL C x D O y v H2):=by intro ay s O H D I h;refine plainObj_wpAny_Assign_Attribute (ba (hv ay s O H _ I h) λu s1 ⟨y,H1,I1,ry,q⟩=>ba (ha ay s1 O H1 _ I1 q) λov s2 ⟨v,H2,I2,rx,a,dx,fs,ex,ea,l,q2⟩=>?_) hs;subst ex;obtain rfl:ov=Value.ref a:=rx;exact M7 I2 ea T hn l ry λs3 I3=>⟨O,_,I3,q2⟩
theorem Y8{op:Operator}{rd:V->V->Hp->VK->Prop}{value:Expr}{tv:TE}{tD:Pos}(T:kv X.K C)(hn:j9 X.K C x)(ha:PE X o ta)(hv:PE X value tv)(hop:aaz X op rd): PS X (.AugAssign (.Attribute o x tD) op value pos) (λD O H=>ta O H λv H1=>aaN C x tv rd D O v H1):=by intro ay s O H D I h;refine wpAny_AugAssign_AttributeAny (ba (ha ay s O H _ I h) λov s1 ⟨v,H1,I1,rx,a,dx,fs,u,ex,ea,l,q⟩=>?_);subst ex;obtain rfl:ov=Value.ref a:=rx;refine QL I1 ea T hn l λu s2 I2 ru=>ba (hv ay s2 O H1 _ I2 q) λw3 s3 ⟨y,H2,I3,ry,q3⟩=>ba (hop ay s3 O H2 _ y u w3 _ I3 ru ry q3) λw4 s4 ⟨z,H3,I4,rz,mY,nY,kT,l',q4⟩=>?_;exact M7 I4 kT T hn l' rz λs5 I5=>⟨O,_,I5,q4⟩
end
def da(S:List Addr)(H H':Hp):Prop:=∀b o,H b=some o->b∉S->H' b=some o
theorem da.refl(S:List Addr)(H:Hp):da S H H:=λ_ _ e _=>e
theorem da.of{S:List Addr}{H H':Hp}(s:aH H H'):da S H H':=λb o e _=>s b o e
theorem da.trans{S:List Addr}{H H1 H2:Hp}(a:da S H H1)(b:da S H1 H2):da S H H2:=λc o e n=>b c o (a c o e n) n
theorem da.mono{S S':List Addr}{H H1:Hp}(h:∀x,x∈S->x∈S')(a:da S H H1):da S' H H1:=λc o e n=>a c o e λz=>n (h c z)
theorem CD{S:List Addr}{H:Hp}{a:Addr}{o:HO}(h:a∈S):da S H (upd H a o):=λb o' e n=>by have hb:b≠a:=λz=>n (by rw[z];exact h);rw[aV hb];exact e
def JJ:HO->Prop | .lst _=>True | .ins _ _ _=>True | .dK _=>True | .qH _=>True |_=>False
def cM(H H':Hp):Prop:=∀b o,¬JJ o->H b=some o->H' b=some o
section
variable {K:ag} {H H' H2:Hp}
theorem cM.refl:cM H H:=λ_ _ _ e=>e
theorem cM.trans(a:cM H H')(b:cM H' H2):cM H H2:=λc o n e=>b c o n (a c o n e)
theorem dX.v(s:dX H H'):cM H H':=λb o n e=>s b o (λxs z=>n (by rw[z];trivial)) e
theorem aH.v(s:aH H H'):cM H H':=λb o _ e=>s b o e
theorem da.v{S:List Addr}(s:da S H H')(h:∀x∈S,∀o,H x=some o->JJ o):cM H H':=λb o n e=>s b o e λz=>n (h b z o e)
theorem cM.upd{a:Addr}{o o':HO}(h:H a=some o)(m:JJ o):cM H (upd H a o'):=λb p n e=>by
 have hb:b≠a:=λz=>by rw[z,h]at e;cases e;exact n m
 rw[aV hb];exact e
theorem aU.v{a:Addr}{xs:List V}(s:cM H H')(h:aU K H a xs):aU K H' a xs:=h.imp (λr=>r.imp (s _ _ (λz=>z)) λ⟨o,e⟩=>⟨o,s _ _ (λz=>z) e⟩) id
mutual
theorem RD.v(s:cM H H'):∀{x:V}(d:aj),dw d=true->RD K H x d->RD K H' x d |x,.none,_,h=>by simpa[RD]using h |x,.bool b,_,h=>by simpa[RD]using h |x,.int i,_,h=>by simpa[RD]using h |x,.str y,_,h=>by simpa[RD]using h |x,.list ds,n,h=>by simp[dw]at n |x,.tuple ds,n,h=>by rw[RD]at h⊢;obtain⟨a,xs,e,h1,h2⟩:=h;exact⟨a,xs,e,h1.v s,aJ.v s ds (by simpa[dw]using n) h2⟩ |x,.dict _,_,h=>by simp[RD]at h
theorem aJ.v (s:cM H H'):∀{xs:List V}(ds:List aj),bM ds=true->aJ K H xs ds->aJ K H' xs ds |xs,[],_,h=>by simpa[aJ]using h |xs,d::ds,n,h=>by rw[aJ]at h⊢;rw[bM,fG]at n;obtain⟨y,ys,e,h1,h2⟩:=h;exact⟨y,ys,e,RD.v s d n.1 h1,aJ.v s ds n.2 h2⟩
end
end
abbrev jr(elt tg iter fk eZ:Expr)(scope:Scope)(pos:Pos):Expr:=.ListComp elt [⟨tg,iter,[],0⟩,⟨fk,eZ,[],0⟩] scope pos
theorem a7L(elt tg iter fk eZ:Expr)(scope:Scope)(pos:Pos)(it acc:Value)(env:Env): compTurn (jr elt tg iter fk eZ scope pos) 0 it acc env=(do standAt iter.pos match<-pyNext it with
 |none=>pure (.done .next) |some v=>
  letOwnedTupleGo tg it v
  assign tg env v
  let mut ok:=true
  for c in([]:List Expr) do if ok then ok<-isTrue c env (eval c env)
  if ok then
   let x<-eval eZ env
   standAt eZ.pos
   let x<-foldedSetIterable eZ env x
   let _<-runOwn (.compStart (jr elt tg iter fk eZ scope pos) 1 (<-holding [x] (pyIter x)) acc env) env
  again (.compLoop (jr elt tg iter fk eZ scope pos) 0 it acc env)):=by rfl
theorem a7K(elt tg iter fk eZ:Expr)(scope:Scope)(pos:Pos)(it acc:Value)(env:Env): compTurn (jr elt tg iter fk eZ scope pos) 1 it acc env=(do standAt eZ.pos match<-pyNext it with
 |none=>pure (.done .next) |some v=>
  letOwnedTupleGo fk it v
  assign fk env v
  (do let _<-call (.builtin "list.append") [acc,<-eval elt env])
  again (.compLoop (jr elt tg iter fk eZ scope pos) 1 it acc env)):=by rfl
section
variable {prog:ai}{w:World}{A:ak}{R:Result->ah->Prop}{s:ah}{elt tg iter fk eZ:Expr}{scope:Scope}{pos:Pos}{it acc:Value}{env:Env}
theorem a7N(I:Nat->ah->Prop) (turn:∀n s,I n s->wpAny (model prog w) A (pyNext it) (λr s₁=>match r with |none=>R (.ok .next) s₁ |some v=>wpAny (model prog w) A (letOwnedTupleGo fk it v) (λ_ s₁=>wpAny (model prog w) A (assign fk env v) (λ_ s₂=>wpAny (model prog w) A (eval elt env) (λx s₄=>wpAny (model prog w) A (call (.builtin "list.append") [acc,x]) (λ_ s₅=>∃m,m<n/\I m s₅) (λ_ _=>False) s₄) (λ_ _=>False) s₂) (λ_ _=>False) s₁) (λ_ _=>False) s₁) (λ_ _=>False) s) (n:Nat)(h:I n s):codeAny (model prog w) A (.compLoop (jr elt tg iter fk eZ scope pos) 1 it acc env) R s:=by refine codeAny_loop Z I (λn s hI=>?_) n h;show wpAny _ A ((compTurn (jr elt tg iter fk eZ scope pos) 1 it acc env).onRaise (λx=>do noteFrame x env;theTreesLotGoes x)) _ _ s;refine wpAny_noted ?_;rw[a7K];refine aP (vk (aP (fU (turn n s hI) (λr s₁ h₁=>?_) λ_ _ h'=>h'.elim)));cases r with |none=>exact cg h₁ |some v=>refine aP (fU h₁ (λ_ KU h₁=>?_) λ_ _ h'=>h'.elim);refine aP (fU h₁ (λ_ s₂ h₂=>?_) λ_ _ h'=>h'.elim);exact aP (aP (fU h₂ (λx s₄ h₄=>aP (fU h₄ (λ_ s₅ h₅=>cg (cg ⟨Z,h₅⟩)) λ_ _ h'=>h'.elim)) λ_ _ h'=>h'.elim))
theorem a7M(h0:codeAny (model prog w) A (.compLoop (jr elt tg iter fk eZ scope pos) 1 it acc env) R s) (h:wpAny (model prog w) A (pyIter it) (λPQ s'=>codeAny (model prog w) A (.compLoop (jr elt tg iter fk eZ scope pos) 1 PQ acc env) R s') (notedBy (model prog w) A env λx s'=>R (.error x) s') s): codeAny (model prog w) A (.compStart (jr elt tg iter fk eZ scope pos) 1 it acc env) R s:=by
 refine codeAny_of_tree ?_;show wpAny _ _ ((compStart (jr elt tg iter fk eZ scope pos) 1 it acc env).onRaise (λx=>do noteFrame x env;standAt theWindowsPlace)) _ _ s;refine wpAny_notedAt ?_;unfold compStart;show wpAny _ _ (ask>>=_) _ _ s;refine aP (wpAny_askSetting (wpAny_ite ?_));split
 ·first |exact aP (cg (cg (And.intro Z h0))) |exact cg (And.intro Z h0)
 ·first |exact aP (Aa (aP (vk (aP (fU h (λPQ s' h'=>cg ⟨Z,h'⟩) λ_ _ h'=>h')))))
theorem a7O(I:Nat->ah->Prop)(iR:∀x,foldedSetIterable eZ env x=pure x) (turn:∀n s,I n s->wpAny (model prog w) A (pyNext it) (λr s₁=>match r with |none=>R (.ok .next) s₁ |some v=>wpAny (model prog w) A (letOwnedTupleGo tg it v) (λ_ s₁=>wpAny (model prog w) A (assign tg env v) (λ_ s₂=>wpAny (model prog w) A (eval eZ env) (λx s₃=>wpAny (model prog w) A (pyIter x) (λBS s₄=>codeAny (model prog w) A (.compStart (jr elt tg iter fk eZ scope pos) 1 BS acc env) (λr s₅=>match r with| .ok _=>∃m,m<n/\I m s₅| .error _=>False) s₄) (λ_ _=>False) s₃) (λ_ _=>False) s₂) (λ_ _=>False) s₁) (λ_ _=>False) s₁) (λ_ _=>False) s) (n:Nat)(h:I n s):codeAny (model prog w) A (.compLoop (jr elt tg iter fk eZ scope pos) 0 it acc env) R s:=by refine codeAny_loop Z I (λn s hI=>?_) n h;show wpAny _ A ((compTurn (jr elt tg iter fk eZ scope pos) 0 it acc env).onRaise (λx=>do noteFrame x env;theTreesLotGoes x)) _ _ s;refine wpAny_noted ?_;rw[a7L];refine aP (vk (aP (fU (turn n s hI) (λr s₁ h₁=>?_) λ_ _ h'=>h'.elim)));cases r with |none=>exact cg h₁ |some v=>refine aP (fU h₁ (λ_ KU h₁=>?_) λ_ _ h'=>h'.elim);refine aP (fU h₁ (λ_ s₂ h₂=>?_) λ_ _ h'=>h'.elim);refine aP (wpAny_tests_nil ?_);simp only[vn];refine aP (fU h₂ (λx s₃ h₃=>?_) λ_ _ h'=>h'.elim);refine aP (vk (aP (xu (iR x) (aP (Ab (fU h₃ (λBS s₄ h₄=>?_) λ_ _ h'=>h'.elim))))));refine aP (wpAny_runOwn (CW h₄ λr s₅ h₅=>?_));cases r with |error e=>exact h₅.elim |ok f=>exact cg ⟨Z,h₅⟩
end
def aay(J:It)(g:TG)(te:TE)(D:Addr)(R:St->Hp->Prop)(O:St)(H:Hp):Prop:=∃W:Nat->Nat->St->Hp->Prop,(∃m,W 0 m O H)/\∀i m σ' H',W i m σ' H'->(J.stop i H'/\R σ' H')\/(J.go i H'/\∀x H2,J.jf i H' x H2->g x σ' H2 λσ3 H3=>te σ3 H3 λy H5=>∃ys,H5 D=some (.lst ys)/\ys.length<sizeLine/\∃m',m'<m/\W (i+1) m' σ3 (upd H5 D (.lst (ys++[y]))))
def TR(J:It)(g:TG)(oN:TI)(g2:TG)(te:TE)(Q:VK)(D:Addr)(O:St)(H:Hp):Prop:=∃W:Nat->Nat->St->Hp->Prop,(∃m,W 0 m O H)/\∀i m σ' H',W i m σ' H'->(J.stop i H'/\Q (.ref D) H')\/(J.go i H'/\∀x H2,J.jf i H' x H2->g x σ' H2 λσ3 H3=>oN σ3 H3 λJ2 H4=>aay J2 g2 te D (λσ5 H5=>∃m',m'<m/\W (i+1) m' σ5 H5) σ3 H4)
def VN(js:List (Option Nat))(wi:TI)(g:TG)(oN:TI)(g2:TG)(te:TE):TE:=λO H Q=>wi O H λJ H1=>∀D H2,Nw H1 H2 D (.lst [])->TR J g oN g2 te Q D (stC js O) H2
set_option maxHeartbeats 1000000 in
theorem Yp{X:Cx}{N:List Str}{js:List (Option Nat)}{elt tg iter fk eZ:Expr}{scope:Scope}{pos:Pos}{wi:TI}{g:TG}{oN:TI}{g2:TG}{te:TE}(hc:X.calm=true)(hN:zO X N js scope=true)(hS:sL X scope=true) (hi:PI X tg iter wi)(hg:∀cl s H fp ay,PG (cR X N scope cl s H fp ay) tg g)(ze:∀cl s H fp ay,PI (cR X N scope cl s H fp ay) fk eZ oN)(hg2:∀cl s H fp ay,PG (cR X N scope cl s H fp ay) fk g2)(he:∀cl s H fp ay,PE (cR X N scope cl s H fp ay) elt te) (hs:∀x,foldedSetIterable iter X.env x=pure x:=by intro _;rfl)(iR:∀env x,foldedSetIterable eZ env x=pure x:=by intro _ _;rfl):PE X (.ListComp elt [⟨tg,iter,[],0⟩,⟨fk,eZ,[],0⟩] scope pos) (VN js wi g oN g2 te):=by
 intro ay s O H Q I h;have mS:=hS;unfold sL at mS;rw[fG,fG]at mS;obtain⟨⟨k1,k2⟩,k3⟩:=mS;have ka:scope.kind= .function:=fN.mp k1;have rS:∀x∈scope.names,x.2= .free->∃c,X.env.cells.lookup x.1=some c:=λx hx e=>by have:=gW.mp k3 x hx;rw[e]at this;exact I.ok.has x.1 (.inl (fN.mp this))
 have nX:∀x∈scope.names,x.2≠ .cell:=λx hx e=>by have:=gW.mp k3 x hx;rw[e]at this;exact iX this
 have z9:∀x∈scope.names,x.2= .local->scope.names.lookup x.1=some .local:=λx hx e=>by have:=gW.mp k3 x hx;rw[e]at this;exact fN.mp this
 obtain⟨cl,zi,c1,c2⟩:=J6 rS;rw[eval_ListComp];refine TZ (use:=none) Z hs zi ka z9 (ba (hi ay s O H _ I h) λv s1 h1=>ba h1 λyS s2 h2=>?_);obtain⟨it,fp,tn,J,H2,e,I2,T,nG,f2,h2⟩:=h2;subst e;have hD:H2 s2.heap.objs.size=none:=I2.bD.fresh (bf _);obtain⟨W,⟨m0,w0⟩,turn⟩:=h2 _ _ (Nw.of hD);refine oE (TY nX (by intro y hy;simp at hy) (λh₁ rK rJ=>?_) ka);have mV:∀b∈fp,b<s2.heap.objs.size:=λb hb=>by obtain⟨o,e,_⟩:=T.obj _ _ nG b hb;exact cA e
 have I3:Inv X ay O (upd H2 s2.heap.objs.size (.lst [])) {s2 with heap:=s2.heap.push {cls:=.type "list",dict:=none,data:=.seq ([]:List Value).toArray}}:=I2.BJ (its:=[]) (t':=s2.toks) .nil (gH _);generalize sf:s2.heap.push {cls:=.type "list",dict:=none,data:=.seq ([]:List Value).toArray}=h3 at I3 rK rJ;have qI:h3.objs.size=s2.heap.objs.size+1:=by rw[<-sf,qD]
 have yR:∀b o,s2.heap.get? b=some o->h3.get? b=some o:=λb o e=>by rw[<-sf];exact cF _ e
 have f3:∀b∈fp,jw X ay (upd H2 s2.heap.objs.size (.lst [])) b:=λb hb=>⟨by rw[aV (eQ (mV b hb))];exact(f2 b hb).1,(f2 b hb).2⟩;have rF:∀b o,h3.get? b=some o->h₁.get? b=some o:=λb o e=>(rJ.2 b (eQ (cA e))).trans (cF _ e);have I4:Inv (cR X N scope cl {s2 with heap:=h3} (upd H2 s2.heap.objs.size (.lst [])) fp ay) [] (stC js O) (upd H2 s2.heap.objs.size (.lst [])) {s2 with heap:=h₁,toks:=s2.toks+([]:List (Str×Value)).length}:=I3.comp (s:={s2 with heap:=h3}) hN hS c1 c2 f3 (λb hb=>by show b<h3.objs.size;rw[qI];exact Ai (mV b hb)) (by simpa using rK) rF;have qJ:tn 0 h₁:=T.keep _ _ _ nG λb _ o e=>rF b o (yR b o e);have loop:codeAny (model X.prog X.w) X.A (.compLoop (jr elt tg iter fk eZ scope pos) 0 (.ref it) (.ref s2.heap.objs.size) (compEnvC scope cl h3.objs.size X.env)) (compPost (model X.prog X.w) X.A X.xe none (EP X ay O Q) (.ref s2.heap.objs.size) h3.objs.size) {s2 with heap:=h₁,toks:=s2.toks+([]:List (Str×Value)).length}:=by
  refine a7O (λn s'=>∃i σ' H',Inv (cR X N scope cl {s2 with heap:=h3} (upd H2 s2.heap.objs.size (.lst [])) fp ay) [] σ' H' s'/\tn i s'.heap/\(∀b∈fp,H' b=none)/\W i n σ' H') (iR _) ?_ m0 ⟨0,_,_,I4,qJ,λb hb=>(f3 b hb).1,w0⟩;rintro n s5 ⟨i,σ5,H5,I5,lG,o4,w5⟩;have jB:∀{H':Hp},(∀b∈fp,H' b=none)->∀b∈fp,jw (cR X N scope cl {s2 with heap:=h3} (upd H2 s2.heap.objs.size (.lst [])) fp ay) [] H' b:=λ{H'} hn b hb=>by
   obtain⟨_,q1,q2,q3,q4,q5⟩:=f3 b hb;refine⟨hn b hb,λz=>?_,I4.ok.pY b hb,.inl hb,λx c e=>q4 x c (c1 x c e),λp hp=>q5 p (by simpa[cR]using hp)⟩;have bP:b<h3.objs.size:=by rw[qI];exact Ai (mV b hb)
   exact eQ bP z
  rcases turn i n σ5 H5 w5 with⟨stop,qn⟩|⟨go,step⟩
  ·refine ba (T.done (cR X N scope cl {s2 with heap:=h3} (upd H2 s2.heap.objs.size (.lst [])) fp ay) rfl rfl rfl hc i [] s5 σ5 H5 _ I5 (jB o4) lG stop) λr s6 ⟨hr,I6⟩=>?_
   subst hr;obtain⟨m,hm,_⟩:=I6.loc;refine⟨m,hm,λh7 pI=>?_⟩;have u0:Un (gb X.stack) fp (upd H2 s2.heap.objs.size (.lst [])) H5 h3 s6.heap:=I6.aA;have ne:∀b o,h3.get? b=some o->b≠h3.objs.size:=λb o e=>eQ (cA e);have u:Un (gb X.stack) fp (upd H2 s2.heap.objs.size (.lst [])) H5 h3 h7:=⟨λb o e n hb hx=>(pI.2 b (ne b o e)).trans (u0.keep b o e n hb hx),λb o e n hb hx=>let⟨sl,q⟩:=u0.slot b o e n hb hx;⟨sl,(pI.2 b (ne b o e)).trans q⟩,u0.free,λb o e hx=>let⟨o',q⟩:=u0.there b o e hx;⟨o',(pI.2 b (ne b o e)).trans q⟩,u0.kA,u0.kg,u0.kB⟩;have I7:Inv X ay O H5 {s6 with heap:=h7}:=I3.zR (s':={s6 with heap:=h7}) (ch:=fp) I6.os u (I6.bD.but I6.free pI) I6.bare λb hb=>⟨(f3 b hb).2.2.2.1,(f3 b hb).2.1,(f3 b hb).2.2.2.2.1,(f3 b hb).2.2.2.2.2⟩;exact⟨.ref s2.heap.objs.size,H5,I7,Z,qn⟩
  ·refine ba (T.item (cR X N scope cl {s2 with heap:=h3} (upd H2 s2.heap.objs.size (.lst [])) fp ay) rfl rfl rfl hc i [] s5 σ5 H5 _ I5 (jB o4) lG go) λr s6 ⟨u,hr,h6⟩=>?_
   subst hr;refine ba h6 λ_ s7 ⟨x,H7,I7,r7,y7,kC,zt⟩=>?_;have A4:=I7.pinned (jB zt) (T.obj _ _ kC);refine ba (hg _ _ _ _ _ _ s7 σ5 H7 x u _ A4 r7 (step x H7 y7)) λ_ s8 ⟨σ8,H8,I8,q8⟩=>?_;have again:∀{s':ah}{σ7:St}{H7:Hp},Inv (cR X N scope cl {s2 with heap:=h3} (upd H2 s2.heap.objs.size (.lst [])) fp ay) ([]++p5 fp s7.heap) σ7 H7 s'->(∃m',m'<n/\W (i+1) m' σ7 H7)->∃m,m<n/\∃i σ' H',Inv (cR X N scope cl {s2 with heap:=h3} (upd H2 s2.heap.objs.size (.lst [])) fp ay) [] σ' H' s'/\tn i s'.heap/\(∀b∈fp,H' b=none)/\W i m σ' H':=λ{s' σ7 H7} J7 n7=>by obtain⟨m',hm,w7⟩:=n7;refine⟨m',hm,i+1,σ7,H7,J7.tm,T.keep _ _ _ kC λb hb o e=>(J7.pin (b,o) (gk _ (gk _ (nN hb e)))).1,λb hb=>?_,w7⟩;obtain⟨o,e,d⟩:=T.obj _ _ kC b hb;exact(J7.pin (b,o) (gk _ (gk _ (nN hb e)))).2.1
   refine ba (ze _ _ _ _ _ _ s8 σ8 H8 _ I8 q8) λv9 s9 h9=>ba h9 λabK jC uG=>?_;obtain⟨BS,HW,Vh,J2,iu,e2,sS,T2,Lf,wU,V,⟨k0,v0⟩,Vf⟩:=uG;subst e2;have Dv:∀{H':Hp},(∀b∈HW,H' b=none)->∀b∈HW,jw (cR X N scope cl {s2 with heap:=h3} (upd H2 s2.heap.objs.size (.lst [])) fp ay) ([]++p5 fp s7.heap) H' b:=λ{H'} hn b hb=>⟨hn b hb,(wU b hb).2⟩;have Ph:codeAny (model X.prog X.w) X.A (.compLoop (jr elt tg iter fk eZ scope pos) 1 (.ref BS) (.ref s2.heap.objs.size) (compEnvC scope cl h3.objs.size X.env)) (λr s₅=>match r with| .ok _=>∃m,m<n/\∃i σ' H',Inv (cR X N scope cl {s2 with heap:=h3} (upd H2 s2.heap.objs.size (.lst [])) fp ay) [] σ' H' s₅/\tn i s₅.heap/\(∀b∈fp,H' b=none)/\W i m σ' H'| .error _=>False) jC:=by
    refine a7N (λk s'=>∃i σ' H',Inv (cR X N scope cl {s2 with heap:=h3} (upd H2 s2.heap.objs.size (.lst [])) fp ay) ([]++p5 fp s7.heap) σ' H' s'/\Vh i s'.heap/\(∀b∈HW,H' b=none)/\V i k σ' H') ?_ k0 ⟨0,_,_,sS,Lf,λb hb=>(wU b hb).1,v0⟩;rintro k tL ⟨i2,Az,ir,xn,Le,QR,v11⟩;rcases Vf i2 k Az ir v11 with⟨W8,q2⟩|⟨go2,W9⟩
    ·refine ba (T2.done (cR X N scope cl {s2 with heap:=h3} (upd H2 s2.heap.objs.size (.lst [])) fp ay) rfl rfl rfl hc i2 _ tL Az ir _ xn (Dv QR) Le W8) λr gx ⟨hr,I12⟩=>?_
     subst hr;exact again I12 q2
    ·refine ba (T2.item (cR X N scope cl {s2 with heap:=h3} (upd H2 s2.heap.objs.size (.lst [])) fp ay) rfl rfl rfl hc i2 _ tL Az ir _ xn (Dv QR) Le go2) λr gx ⟨u2,hr,Cd⟩=>?_
     subst hr;refine ba Cd λ_ dR ⟨x2,A7,I13,XX,UD,Dw,a5m⟩=>?_;have aaS:=I13.pinned (Dv a5m) (T2.obj _ _ Dw);refine ba (hg2 _ _ _ _ _ _ dR Az A7 x2 u2 _ aaS XX (W9 x2 A7 UD)) λ_ iA ⟨Ay,CN,I14,Y0⟩=>?_;refine ba (he _ _ _ _ _ _ iA Ay CN _ I14 Y0) λyv kG ⟨y,A6,I15,XW,ys,j6,hz,UM⟩=>?_;refine ba (BG _ kG Ay A6 (.ref s2.heap.objs.size) [y] (.ref s2.heap.objs.size) [yv] (λ_ xo=>∃m',m'<k/\V (i2+1) m' Ay xo) I15 Z (.cons XW .nil) ⟨_,ys,y,Z,Z,j6,hz,UM⟩) λ_ jg ⟨v16,xo,JI,r16,XZ⟩=>?_;obtain⟨m',hm,UL⟩:=XZ;refine⟨m',hm,i2+1,Ay,xo,JI.tm,T2.keep _ _ _ Dw λb hb o e=>(JI.pin (b,o) (gk _ (gk _ (nN hb e)))).1,λb hb=>?_,UL⟩;obtain⟨o,e,d⟩:=T2.obj _ _ Dw b hb;exact(JI.pin (b,o) (gk _ (gk _ (nN hb e)))).2.1
   exact a7M Ph (T2.self _ 0 _ _ _ Lf Ph)
 exact U0 loop (T.self _ 0 _ _ _ qJ loop)
section
variable {K:ag}
theorem X9(n q:Nat):((List.range n).map λ_=>q).sum=n*q:=by induction n with |zero=>simp |succ n ih=>rw[List.range_succ,jd,List.sum_append,Nat.add_mul,Nat.one_mul,ih];simp
theorem a7I{a1 a2:Addr}{xs ys:List V}{b:Nat->Nat->Bool}{oN:TI}{te:TE}{Q:VK}{D:Addr}{H H0:Hp}(rest:St)(hx:aK K H a1 xs)(hy:aK K H a2 ys)(nw:Nw H H0 D (.lst []))(hz:xs.length*ys.length<=1000) (hw:∀x v H3 R,aH H H3->R (sR K a2) H3->oN (some x::v::rest) H3 R) (hs:∀i j x y H2 Q',xs[i]? =some x->ys[j]? =some y->aH H H2->(∀H3,aH H2 H3->Q' (.bl (b i j)) H3)->te (some x::some y::rest) H2 Q') (hq:∀H',aH H H'->H' D=some (.lst ((((List.range xs.length).flatMap λi=>(List.range ys.length).map λj=>b i j)).map V.bl))->Q (.ref D) H'):TR (sR K a1) (g9 0) oN (g9 1) te Q D (none::none::rest) H0:=by
 have hD:=nw.no;have line:(1000:Nat)<sizeLine:=by decide
 refine⟨λi m O H2=>m=xs.length-i/\i<=xs.length/\aH H H2/\H2 D=some (.lst ((((List.range i).flatMap λi=>(List.range ys.length).map λj=>b i j)).map V.bl))/\∃v v',O=v::v'::rest,⟨_,Z,gH _,nw.same,nw.at',none,none,Z⟩,?_⟩;rintro i m O H2 ⟨rfl,hi,s2,d2,v,v',rfl⟩;by_cases bP:i<xs.length
 ·refine .inr ⟨⟨xs,xs[i],hx.go s2,by simp[bP]⟩,λx H3 yl=>?_⟩
  obtain⟨e,yl⟩:=yl;subst e;have ex:=yl xs (hx.go s2);refine hw x v' _ _ s2 ?_;refine⟨λj k O H4=>k=ys.length-j/\j<=ys.length/\aH H H4/\H4 D=some (.lst ((((List.range i).flatMap λi=>(List.range ys.length).map λj=>b i j)++(List.range j).map (b i)).map V.bl))/\∃v',O=some x::v'::rest,⟨_,Z,gH _,s2,by simpa using d2,v',Z⟩,?_⟩;rintro j k O H4 ⟨rfl,hj,s4,d4,v',rfl⟩;by_cases Qj:j<ys.length
  ·refine .inr ⟨⟨ys,ys[j],hy.go s4,by simp[Qj]⟩,λy H5 yl=>?_⟩
   obtain⟨e,yl⟩:=yl;subst e;have ey:=yl ys (hy.go s4);refine hs i j x y _ _ ex ey s4 λH6 s6=>?_;have d6:=s6 _ _ d4;refine⟨_,d6,?_,ys.length-(j+1),cj,Z,cj,λq o e=>?_,?_,_,Z⟩
   ·have hl:(((List.range i).flatMap λi=>(List.range ys.length).map λj=>b i j)).length=i*ys.length:=by rw[List.length_flatMap];simp only[bL,kY];exact X9 _ _
    have h1:i*ys.length+j<xs.length*ys.length:=by have h2:(i+1)*ys.length<=xs.length*ys.length:=Nat.mul_le_mul_right _ bP;rw[Nat.add_mul,Nat.one_mul]at h2;omega
    rw[bL,cE,hl,bL,kY];omega
   ·rw[aV (dU e hD)];exact s6 _ _ (s4 _ _ e)
   ·rw[bQ,List.range_succ,jd,jd,jd,jd,Dg];rfl
  ·have e:j=ys.length:=by omega
   subst e;refine .inl ⟨⟨ys,hy.go s4,bf _⟩,xs.length-(i+1),cj,Z,cj,s4,?_,_,_,Z⟩;rw[List.range_succ,List.flatMap_append];simpa using d4
 ·have e:i=xs.length:=by omega
  subst e;exact .inl ⟨⟨xs,hx.go s2,bf _⟩,hq H2 s2 d2⟩
theorem a8q{n m:Nat}{b:Nat->Nat->Bool}:(((List.range n).flatMap λi=>(List.range m).map λj=>b i j)).any id=(List.range n).any λi=>(List.range m).any λj=>b i j:=by rw[List.any_flatMap];congr 1;funext i;rw[List.any_map];rfl
end
end L2
namespace Pn
section
variable {n:Nat}{own:Nat->Rat}{L:Nat->Option Nat}{r f:Int}
end
end Pn
namespace Ow
open Pn Ln Cn
end Ow
namespace Pn
section
variable {n:Nat}{own Oq:Nat->Rat}{L L':Nat->Option Nat}{r f:Int}
end
section
variable {n:Nat}{own Oq q:Nat->Rat}{L:Nat->Option Nat}{r f r' f':Int}
end
end Pn
namespace Ow
open Pn Ln Cn
end Ow
namespace Pn
section
variable {n:Nat}{own Oq:Nat->Rat}{L L':Nat->Option Nat}{r f:Int}{c:Nat}
end
end Pn
namespace Ow
open Pn
section
variable (j rate:Int)(os1 os2:List Itm)
end
end Ow
namespace Pn
section
variable {n:Nat}{own:Nat->Rat}{L:Nat->Option Nat}{r f:Int}
theorem HZ{g:Nat->Rat}{i:Nat}(hi:i<=n):fl n L f g i<=g i:=by
 rcases K0 i n with h|h
 ·cases e:L i with |none=>rw[pX h e];exact iI |some m=>rw[o5 h e];exact fq _ _
 ·have:i=n:=by lia
  subst this;rw[sx];exact iI
theorem a5t{g:Nat->Rat}(hf:0<=f)(h0:∀i,i<=n->0<=g i):∀i,i<=n->0<=fl n L f g i:=by
 refine down ?_ ?_
 ·rw[sx];exact h0 n (bf _)
 ·intro i hi ih
  cases e:L i with |none=>rw[pX hi e];exact h0 i aw |some m=>rw[o5 hi e];exact lQ (h0 i aw) (PC ih (a1g hf))
end
end Pn
namespace Rn
open Pn Rt Ln
open Ow (topR ownF leadF Itm OkIs)
theorem Cu{n:Nat}{a b:Int}(hb:b≠0)(h2:b.natAbs<2^n):(Rat.divInt a b).den<2^n:=by obtain⟨-,e⟩:=BH (a:=a) hb;have l2:=Ar.Pg (p:=a) hb;omega
structure Dd(D:Nat)(q:Rat):Prop where
 nn:0<=q
 den:q.den<2^D
theorem Dd.mono{D E:Nat}{q:Rat}(h:Dd D q)(l:D<=E):Dd E q:=⟨h.nn,fO h.den (qA aB l)⟩
theorem Dd.bd{D:Nat}{q:Rat}(h:Dd D q)(hl:q<=2000):Bd (D+11) q:=by
 have h1:=JR.mpr h.nn;have uF:¬((2000:Rat)<q):=oF.mpr hl;rw[CY]at uF;have e1:(2000:Rat).num=2000:=rfl;have e2:(2000:Rat).den=1:=rfl;rw[e1,e2]at uF;have h2:q.num<=2000*(q.den:Int):=by lia
 refine⟨?_,fO h.den (qA aB aw)⟩;have h3:=h.den;have h4:q.num.natAbs<=2000*q.den:=by lia
 have h5:(2:Nat)^(D+11)=2^D*2048:=by rw[Nat.pow_add]
 rw[h5];have h6:2000*q.den<2000*2^D:=Nat.mul_lt_mul_of_pos_left h3 aB
 lia
theorem Dd.mn{D:Nat}{a b:Rat}(h1:Dd D a)(h2:Dd D b):Dd D (mn a b):=by rcases rA a b with e|e<;>rw[e]<;>assumption
theorem Dd.add{D:Nat}{q:Rat}(h:Dd D q){z:Int}(hz:0<=z):Dd D (q+(z:Rat)):=by
 refine⟨PC h.nn (by have:=xx.mpr hz;exact this),?_⟩;rw[add_div,JS,JU];have e:(q.den:Int)*((1:Nat):Int)=(q.den:Int):=by lia
 rw[e];have hd:=q.den_pos;exact Cu aw (by have:=h.den;lia)
theorem S8{a b:Int}(ha:0<=a)(hb:0<b):0<=Rat.divInt a b:=(xy hb).mpr ha
theorem div_pos{a b:Int}(ha:0<a)(hb:0<b):0<Rat.divInt a b:=by
 have h0:=S8 (Dj ha) hb;refine JQ h0 λe=>?_;have h2:0<=Rat.divInt (-a) b:=by rw[<-Rat.neg_divInt,<-e];decide
 have:=(xy hb).mp h2
 lia
theorem Dd.mul{D m:Nat}{q:Rat}(h:Dd D q){a s:Int}(ha:0<=a)(hs:0<s)(hm:s.natAbs<2^m):Dd (D+m) (q*Rat.divInt a s):=by refine⟨Rat.mul_nonneg h.nn (S8 ha hs),?_⟩;have h1:(Rat.divInt a s).den<2^m:=Cu aw hm;rw[mul_div];have hd:=q.den_pos;have hd2:=(Rat.divInt a s).den_pos;refine Cu (qi _ _) ?_;rw[gm];exact mG (by have:=h.den;lia) aw
theorem Dp(rate sp:Int):Dd 14 (topR rate sp):=⟨Ow.tE _ _,Cu aB aB⟩
theorem AO{rate sp:Int}(h1:1<=sp)(h2:sp<=20)(h3:10<=rate)(h4:rate<=200):topR rate sp<=1600:=by
 have e:(1600:Rat)=Rat.divInt 16000000 10000:=by decide+kernel
 rw[e];refine(Cn.Sa aB).mpr ?_;have hp:sp*rate<=20*200:=Di h2 h4 aw aw;have C1:0<=sp*rate:=iW aw aw;rw[fy,fy,lg,ky];have:=Di hp hp C1 aB
 lia
theorem Yz{j rate:Int}{os:List Itm}(h1:1<=j)(h2:j<=50)(h3:10<=rate)(h4:rate<=200)(ho:OkIs os)(i:Nat):Dd 64 (ownF j rate os i):=⟨Ow.vZ _ _ _ _,(Ow.Gj h1 h2 h3 h4 ho i).den⟩
theorem a5u{D n:Nat}{g:Nat->Rat}{L:Nat->Option Nat}{f:Int}(hf:0<=f)(h:∀i,i<=n->Dd D (g i)):∀i,i<=n->Dd D (fl n L f g i):=by
 refine down ?_ ?_
 ·rw[sx];exact h n (bf _)
 ·intro i hi ih
  cases e:L i with |none=>rw[pX hi e];exact h i aw |some m=>rw[o5 hi e];exact(h i aw).mn (ih.add (iW hf aw))
theorem a89{j rate:Int}{o p:Itm}(h3:10<=rate)(h4:rate<=200)(ho:Ow.OkI o):Ow.betR j rate o p<=1600:=by cases o with |none=>rw[Ow.SH];decide+kernel |some q=>cases p with |none=>rw[Ow.xc];decide+kernel |some q'=>obtain⟨ns,sp⟩:=q;obtain⟨ms,sq⟩:=q';obtain⟨-,a1,a2⟩:=ho ns sp rfl;have ht:=AO a1 a2 h3 h4;show Ow.mnO (mn (topR rate sp) (topR rate sq)) (Ow.cornO j ns ms)<=1600;cases Ow.cornO j ns ms with |none=>exact cy (fq _ _) ht |some c=>exact cy (fq _ _) (cy (fq _ _) ht)
theorem Yx{j rate:Int}{os:List Itm}(h3:10<=rate)(h4:rate<=200)(ho:OkIs os):∀i,ownF j rate os i<=1600 |0=>by show(0:Rat)<=1600;decide+kernel |i+1=>a89 h3 h4 (ho i)
abbrev fM:=Option (Rat × Int × Int)
def jk(r f:Int)(pc top R:Rat)(left:Int):fM->Rat |none=>mn (mn (pc+(r:Rat)) top) (R+((f*(2*left-1):Int):Rat)) |some (sq,st,gn)=>mn (mn (mn (pc+(r:Rat)) top) (R+((f*(2*left-1):Int):Rat))) (sq*Rat.divInt (2*(st-gn-1)+1) (2*st))
def lO(r f:Int)(pc top R:Rat)(left:Int):fM->Rat |none=>mn (mn (pc+((2*r:Int):Rat)) top) (R+((2*f*(left-1):Int):Rat)) |some (sq,st,gn)=>mn (mn (mn (pc+((2*r:Int):Rat)) top) (R+((2*f*(left-1):Int):Rat))) (sq*Rat.divInt (st-gn-1) st)
def tT:fM->fM |none=>none |some (sq,st,gn)=>some (sq,st,gn+1)
def ou(D:Nat)(pc:Rat):fM->Prop |none=>True |some (sq,st,gn)=>0<=gn/\gn<=st/\st<=1000/\Dd D sq/\sq<=2000/\(st=0->pc=0)/\pc*(st:Rat)<=sq*((st-gn:Int):Rat)
def Halt(pc:Rat)(stp:fM):Prop:=stp≠none/\pc=0
theorem wo{D:Nat}{pc:Rat}{sq:Rat}{st gn:Int}(h:ou D pc (some (sq,st,gn)))(hp:0<=pc)(hn:¬Halt pc (some (sq,st,gn))):gn<st/\0<sq/\0<pc:=by
 obtain⟨g0,g1,g2,hd,hl,hz,hh⟩:=h;have yZ:0<pc:=JQ hp λe=>hn ⟨by simp,e.symm⟩;have ib:gn<st:=by
  rcases Ki gn st with h|h
  ·exact h
  ·have e:st-gn=0:=by lia
   rw[e]at hh;have e0:sq*((0:Int):Rat)=0:=Rat.mul_zero sq;rw[e0]at hh;exfalso;rcases Ki 0 st with h3|h3
   ·have h4:(0:Rat)<(st:Rat):=JT.mpr h3
    have h5:=Rat.mul_pos yZ h4;exact absurd (Std.lt_of_lt_of_le h5 hh) (Rat.lt_irrefl)
   ·rw[hz aw]at yZ;exact absurd yZ (Rat.lt_irrefl)
 refine⟨ib,?_,yZ⟩;refine JQ hd.nn λe=>?_;rw[<-e,Rat.zero_mul]at hh;have h4:(0:Rat)<(st:Rat):=JT.mpr (show(0:Int)<st by lia);exact absurd (Std.lt_of_lt_of_le (Rat.mul_pos yZ h4) hh) (Rat.lt_irrefl)
section
variable {D:Nat}{r f:Int}{pc top R:Rat}{left:Int}{stp:fM}
theorem Rp:lO r f pc top R left stp<=top:=by cases stp with |none=>exact cy (fq _ _) (gP _ _) |some q=>obtain⟨sq,st,gn⟩:=q;exact cy (fq _ _) (cy (fq _ _) (gP _ _))
theorem P6:jk r f pc top R left stp<=top:=by cases stp with |none=>exact cy (fq _ _) (gP _ _) |some q=>obtain⟨sq,st,gn⟩:=q;exact cy (fq _ _) (cy (fq _ _) (gP _ _))
theorem a70(hr:0<=r)(hf:0<=f)(hl:1<=left)(hp:Dd (D+10) pc)(ht:Dd (D+10) top)(hR:Dd (D+10) R)(hs:ou D pc stp)(hn:¬Halt pc stp):Dd (D+10) (lO r f pc top R left stp):=by have h1:=(hp.add (z:=2*r) aw).mn ht;have h2:=hR.add (z:=2*f*(left-1)) (iW aw aw);cases stp with |none=>exact h1.mn h2 |some q=>obtain⟨sq,st,gn⟩:=q;obtain⟨a,b,c⟩:=wo hs hp.nn hn;obtain⟨g0,g1,g2,hd,hl,hz,hh⟩:=hs;exact(h1.mn h2).mn (hd.mul (m:=10) aw aw aw)
theorem P8(hr:0<=r)(hf:0<=f)(hl:1<=left)(hp:Dd (D+10) pc)(ht:Dd (D+10) top)(hR:Dd (D+10) R)(hs:ou D pc stp)(hn:¬Halt pc stp):Dd (D+11) (jk r f pc top R left stp):=by have h1:=((hp.add (z:=r) aw).mn ht).mono (show D+10<=D+11 by lia);have h2:=(hR.add (z:=f*(2*left-1)) (iW aw aw)).mono (show D+10<=D+11 by lia);cases stp with |none=>exact h1.mn h2 |some q=>obtain⟨sq,st,gn⟩:=q;obtain⟨a,b,c⟩:=wo hs hp.nn hn;obtain⟨g0,g1,g2,hd,hl,hz,hh⟩:=hs;exact(h1.mn h2).mn (hd.mul (m:=11) aw aw aw)
theorem add_pos{x:Rat}{z:Int}(hx:0<=x)(hz:0<z):0<x+(z:Rat):=by have h1:((0:Int):Rat)<(z:Rat):=JT.mpr hz;have h2:x+((0:Int):Rat)<x+(z:Rat):=Rat.add_lt_add_left.mpr h1;rw[show((0:Int):Rat)=0 from Z,Ae]at h2;exact Std.lt_of_le_of_lt hx h2
theorem GB{a b:Rat}(ha:0<a)(hb:0<b):0<mn a b:=by rcases rA a b with e|e<;>rw[e]<;>assumption
theorem P7(hr:1<=r)(hf:1<=f)(hl:1<=left)(hp:0<=pc)(ht:0<top)(hR:0<=R)(hs:ou D pc stp)(hn:¬Halt pc stp):0<jk r f pc top R left stp:=by have h1:=GB (GB (add_pos hp (show 0<r by lia)) ht) (add_pos hR (show 0<f*(2*left-1)from gX aw aw));cases stp with |none=>exact h1 |some q=>obtain⟨sq,st,gn⟩:=q;obtain⟨a,b,c⟩:=wo hs hp hn;obtain⟨g0,g1,g2,hd,hl,hz,hh⟩:=hs;exact GB h1 (Rat.mul_pos b (div_pos aw aw))
theorem S7(a:Int):Rat.divInt a 1=(a:Rat):=by
 conv=>rhs;rw[<-sT (a:Rat)]
 rfl
theorem a7t{a s:Int}(hs:0<s):Rat.divInt a s*(s:Rat)=(a:Rat):=by
 have e:(s:Rat)=Rat.divInt s 1:=by rw[S7]
 rw[e,Rat.divInt_mul_divInt _ _,Int.mul_one,Kh a s];have e2:Rat.divInt (s*a) s=Rat.divInt (s*a) (s*1):=by rw[Int.mul_one]
 rw[e2,Rat.divInt_mul_left aw,S7]
theorem W7(hs:ou D pc stp)(hp:0<=pc)(hn:¬Halt pc stp):ou D (lO r f pc top R left stp) (tT stp):=by cases stp with |none=>trivial |some q=>
 obtain⟨sq,st,gn⟩:=q;obtain⟨a,b,c⟩:=wo hs hp hn;obtain⟨g0,g1,g2,hd,hl,hz,hh⟩:=hs;refine⟨aw,aw,g2,hd,hl,λe=>by lia,?_⟩;have h1:lO r f pc top R left (some (sq,st,gn))<=sq*Rat.divInt (st-gn-1) st:=gP _ _;have h2:(0:Rat)<=(st:Rat):=Rat.intCast_nonneg.mpr aw;have h3:=Rat.mul_le_mul_of_nonneg_right h1 h2;have h4:sq*Rat.divInt (st-gn-1) st*(st:Rat)=sq*((st-(gn+1):Int):Rat):=by
  rw[Rat.mul_assoc,a7t aw];congr 2
  lia
 rw[h4]at h3;exact h3
end
end Rn
namespace Rn
open Pn Rt Ln
section
variable {b top R A A' F F' r f p:Rat}
end
open Ow (Itm atO betR ownF leadF topR)
theorem a5s{m i:Nat}{g g':Nat->Rat}{L L':Nat->Option Nat}{f:Int}(hg:∀k,1<=k->k<=m->g' k=g (i+k))(hL:∀k,k<m->L' k=L (i+k)):∀k,k<=m->1<=k->fl m L' f g' k=fl (i+m) L f g (i+k):=by
 refine down ?_ ?_
 ·intro h;rw[sx,sx];exact hg m h (bf _)
 ·intro k hk ih h
  have e:=ih cj;cases hl:L (i+k)with |none=>rw[pX hk (by rw[hL k hk];exact hl),pX cj hl];exact hg k h cj |some c=>rw[o5 hk (by rw[hL k hk];exact hl),o5 cj hl,e,hg k h cj];rfl
theorem Jn(os:List Itm)(i k:Nat):atO (os.drop i) k=atO os (i+k):=by unfold atO;rw[sY]
theorem Yy(j rate:Int)(os:List Itm)(i k:Nat):ownF j rate (os.drop i) (k+1)=ownF j rate os (i+k+1):=by show betR j rate (atO (os.drop i) k) (atO (os.drop i) (k+1))=betR j rate (atO os (i+k)) (atO os (i+k+1));rw[Jn,Jn];rfl
theorem a2c(os:List Itm)(i k:Nat):leadF (os.drop i) k=leadF os (i+k):=by unfold leadF;rw[Jn]
theorem XC{f j rate:Int}{os:List Itm}{i:Nat}(h:i<os.length):fl (os.drop i).length (leadF (os.drop i)) f (ownF j rate (os.drop i)) 1=fl os.length (leadF os) f (ownF j rate os) (i+1):=by have hl:(os.drop i).length=os.length-i:=oH;have e:=a5s (m:=os.length-i) (i:=i) (g:=ownF j rate os) (g':=ownF j rate (os.drop i)) (L:=leadF os) (L':=leadF (os.drop i)) (f:=f) (λk h1 h2=>by obtain⟨k',rfl⟩:∃k',k=k'+1:=⟨k-1,cj⟩;exact Yy j rate os i k') (λk _=>a2c os i k) 1 cj (bf _);rw[hl,e,show i+(os.length-i)=os.length by omega]
end Rn
namespace L2
open PySem PySem.Spec PyProof.Rows
section
variable {X:Cx}
end
theorem a50{K:ag}{mg:bV}{x z:Str}{t:Tok}{h:Heap}(X:K.In h)(G:h.Ns mainGlobals mg)(a:PySem.W.nsIn K mainGlobals x=some (some (.str z t))):GV mg x (.str z):=⟨_,Af X G a,t,Z⟩
end L2
namespace Rn
open Pn Rt Ln
theorem a3S{D:Nat}{f:Int}{pc sq:Rat}{st gn:Int}(hs:ou D pc (some (sq,st,gn)))(hp:0<=pc)(hn:¬Halt pc (some (sq,st,gn)))(h2:sq<=((2*f*st:Int):Rat)): ∃a y:Rat,0<=a/\a<=(f:Rat)/\0<=y/\sq*Rat.divInt (2*(st-gn-1)+1) (2*st)=2*y+a/\sq*Rat.divInt (st-gn-1) st=2*y/\pc<=2*y+2*a:=by
 obtain⟨g1,g2,g3⟩:=wo hs hp hn;obtain⟨c0,c1,c2,hd,hl,hz,hh⟩:=hs;have s0:(0:Rat)<(st:Rat):=JT.mpr (show(0:Int)<st by omega);have n0:(0:Rat)<=((st-gn-1:Int):Rat):=xx.mpr (show(0:Int)<=st-gn-1 by omega);generalize en:st-gn-1=n at*;have eg:st-gn=n+1:=by omega
 rw[eg]at hh;simp only[Rat.divInt_eq_div,Rat.intCast_add,D5]at*;have e2:((2:Int):Rat)=2:=rfl;have e1:((1:Int):Rat)=1:=rfl;rw[e2]at*;rw[e1]at*;generalize(st:Rat)=s at*;generalize(n:Rat)=N at*;have ha:sq/(2*s)*(2*s)=sq:=by
  have:(2*s)≠0:=by grind
  grind
 generalize hA:sq/(2*s)=a at*;have a0:0<=a:=by refine U5 (c:=2*s) ?_ (by grind);rw[Rat.zero_mul,ha];exact Ad g2
 refine⟨a,a*N,a0,?_,Rat.mul_nonneg a0 n0,?_,?_,?_⟩
 ·refine U5 (c:=2*s) ?_ (by grind)
  grind
 ·rw[<-hA]
  grind
 ·rw[<-hA]
  grind
 ·refine U5 (c:=s) ?_ s0
  have e:(2*(a*N)+2*a)*s=sq*(N+1):=by rw[<-ha];grind
  rw[e];exact hh
theorem a0y{D:Nat}{r f:Int}{pc top R:Rat}{left:Int}{stp:fM}(hr:0<=r)(hf:0<=f)(hl:1<=left)(hp:0<=pc)(pt:pc<=top)(pR:pc<=R+((2*f*left:Int):Rat))(hs:ou D pc stp)(hn:¬Halt pc stp)(h2:∀a st gn,stp=some (a,st,gn)->a<=((2*f*st:Int):Rat)): jk r f pc top R left stp<=pc+(r:Rat)/\pc<=jk r f pc top R left stp+(f:Rat)/\jk r f pc top R left stp<=lO r f pc top R left stp+(f:Rat)/\lO r f pc top R left stp<=jk r f pc top R left stp+(r:Rat):=by
 have r0:(0:Rat)<=(r:Rat):=xx.mpr hr;have f0:(0:Rat)<=(f:Rat):=xx.mpr hf;have e2:((2:Int):Rat)=2:=rfl;have e1:((1:Int):Rat)=1:=rfl;have c1:((2*f*left:Int):Rat)=2*((f*left:Int):Rat):=by simp only[D5,e2];grind
 have c2:((f*(2*left-1):Int):Rat)=2*((f*left:Int):Rat)-(f:Rat):=by simp only[D5,Rat.intCast_sub,e2,e1];grind
 have c3:((2*f*(left-1):Int):Rat)=2*((f*left:Int):Rat)-2*(f:Rat):=by simp only[D5,Rat.intCast_sub,e2,e1];grind
 have c4:((2*r:Int):Rat)=2*(r:Rat):=by rw[D5];rfl
 rw[c1]at pR;have key:∀x y z w:Rat,(x=pc+(r:Rat)\/x=top\/x=R+(2*((f*left:Int):Rat)-(f:Rat)))->x<=pc+(r:Rat)->x<=top->x<=R+(2*((f*left:Int):Rat)-(f:Rat))->(y=pc+2*(r:Rat)\/y=top\/y=R+(2*((f*left:Int):Rat)-2*(f:Rat)))->y<=pc+2*(r:Rat)->y<=top->y<=R+(2*((f*left:Int):Rat)-2*(f:Rat))->pc<=x+(f:Rat)/\x<=y+(f:Rat)/\y<=x+(r:Rat):=by
  intro x y _ _ hx x1 x2 x3 hy y1 y2 y3;refine⟨?_,?_,?_⟩
  ·grind
  ·grind
  ·grind
 have m3:∀a b c:Rat,(mn (mn a b) c=a\/mn (mn a b) c=b\/mn (mn a b) c=c):=λa b c=>by
  rcases rA (mn a b) c with e|e
  ·rw[e];rcases rA a b with e|e
   ·exact .inl e
   ·exact .inr (.inl e)
  ·exact .inr (.inr e)
 have l1:∀a b c:Rat,mn (mn a b) c<=a:=λa b c=>cy (fq _ _) (fq _ _);have l2:∀a b c:Rat,mn (mn a b) c<=b:=λa b c=>cy (fq _ _) (gP _ _);have l3:∀a b c:Rat,mn (mn a b) c<=c:=λa b c=>gP _ _;have X:=key (mn (mn (pc+(r:Rat)) top) (R+(2*((f*left:Int):Rat)-(f:Rat)))) (mn (mn (pc+2*(r:Rat)) top) (R+(2*((f*left:Int):Rat)-2*(f:Rat)))) 0 0 (m3 _ _ _) (l1 _ _ _) (l2 _ _ _) (l3 _ _ _) (m3 _ _ _) (l1 _ _ _) (l2 _ _ _) (l3 _ _ _);cases stp with |none=>unfold jk lO;simp only[c2,c3,c4];exact⟨l1 _ _ _,X⟩ |some q=>
  obtain⟨sq,st,gn⟩:=q;obtain⟨a,y,a0,af,y0,e1,e2,py⟩:=a3S hs hp hn (h2 sq st gn Z);unfold jk lO;simp only[c2,c3,c4,e1,e2];have xl:=l1 (pc+(r:Rat)) top (R+(2*((f*left:Int):Rat)-(f:Rat)));clear l1 l2 l3 m3 key;generalize mn (mn (pc+(r:Rat)) top) (R+(2*((f*left:Int):Rat)-(f:Rat)))=x at*;generalize mn (mn (pc+2*(r:Rat)) top) (R+(2*((f*left:Int):Rat)-2*(f:Rat)))=z at*;have ml:=fq x (2*y+a);have mr:=gP x (2*y+a);have nl:=fq z (2*y);have nr:=gP z (2*y);have mc:=rA x (2*y+a);have nc:=rA z (2*y);generalize mn x (2*y+a)=u at*;generalize mn z (2*y)=v at*;obtain⟨X1,X2,X3⟩:=X;refine⟨?_,?_,?_,?_⟩
  ·grind
  ·grind
  ·grind
  ·grind
end Rn
namespace L2
open PySem PySem.Spec PyProof.Rows
theorem oy.Sh{X:Cx}{st:Stmt}{rest:List Stmt}{t u:TS}(h1:PS X st t)(h2:oy X rest u):oy X (st::rest) (Ds t u):=by intro s O H D I h;refine JK (fU (h1 [] s O H _ I h) (λf s1 q=>?_) λ_ _ x=>x);cases f with |next=>obtain⟨σ',H',I',q'⟩:=q;exact h2 s1 σ' H' D I' q' |brk=>exact q |cont=>exact q |ret v=>exact q
theorem Y5{X:Cx}{W5:List Stmt}:gT X W5 (λ_ _ _=>False):=λ_ _ _ _ _ _ h=>h.elim
theorem a7u(f:Array Value->Array Value)(o:Obj):(o.mapFields f).dict=o.dict:=by obtain⟨c,d,dt,sl⟩:=o;cases dt<;>rfl
def TrD(h B:Heap)(ex:Addr)(cls:Value)(dx:Option Addr)(fl:Value):Prop:=∃ob fs tb ot ts,h.get? ex=some ob/\ob.cls=cls/\ob.dict=dx/\ob.data= .fields fs/\fs[1]? =some (.ref tb)/\B.get? tb=none/\tb≠ex/\h.get? tb=some ot/\ot.data= .fields ts/\ts[3]? =some fl
def qx(B:Heap)(l:List Env)(ex:Addr)(cls:Value)(dx:Option Addr)(fl:Value)(h:Heap):Prop:=B.StaysIn h/\B.get? ex=none/\h.FunFrames B l/\TrD h B ex cls dx fl
theorem qx.there{B h:Heap}{l:List Env}{ex:Addr}{cls fl:Value}{dx:Option Addr}(x:qx B l ex cls dx fl h):∃ob,h.get? ex=some ob/\ob.cls=cls/\ob.dict=dx/\∃fs,ob.data= .fields fs:=by obtain⟨_,_,_,ob,fs,_,_,_,e,c,d,z,_⟩:=x;exact⟨ob,e,c,d,fs,z⟩
section
variable {M:Model}{A:ak}{E:Value->ah->Prop}{s:ah}{B:Heap}{env:Env}{outer:List Env}{L ex:Addr}{ob:Obj}{fs:Array Value}{head:Value}{nx:Bool}{Q:Unit->ah->Prop}{cls fl:Value}{dx:Option Addr}
theorem a6Z(hA:A.frames=some (env::outer))(ff:s.heap.FunFrames B (env::outer))(hL:env.frame=some L)(ho:s.heap.get? ex=some ob)(st:B.StaysIn s.heap)(hB:B.get? ex=none)(hd:ob.data= .fields fs)(hz:1<fs.size) (q:∀h',qx B (env::outer) ex ob.cls ob.dict (rawInt L) h'->s.heap.UpToSlots h'->Q () {s with heap:=h'}): wpAny M A (do let a<-frameOf env;let pl<-entryPlaceOf L nx;let b<-EntryCells.newEntry head a .none (rawInt L) .none pl;setField (.ref ex) 1 b) Q E s:=by
 have nfr:ex∉(env::outer).filterMap (·.frame):=λhm=>by obtain⟨_,o,e1,nf⟩:=ff.mem hm;rw[ho]at e1;cases e1;exact nf fs hd
 refine aP (wpAny_frameOf_fun hA ff hL λg1 k1=>aP (wpAny_entryPlaceOf λpl hp=>?_));unfold EntryCells.newEntry newFields;refine aP (oE ?_ (hp.sizeOk5 _ _ _ _ _));have o1:g1.get? ex=some ob:=(k1.2.1 ex nfr).trans ho;have AY:B.StaysIn g1:=λb o e=>(k1.2.1 b λhm=>by rw[(ff.mem hm).1]at e;cases e).trans (st b o e);generalize hT:({cls:=.type "traceback",dict:=none,data:=.fields ([head,.ref L,.none,rawInt L,.none]++(if pl.isEmpty then List.replicate 6 Value.none else pl)).toArray}:Obj)=T;have o2:(g1.push T).get? ex=some ob:=cF T o1;refine CP o2 hd hz (q _ ?_ ?_);all_goals have ne:g1.objs.size≠ex:=D9 (cA o1)
 all_goals have keep:∀b o,b≠ex->g1.get? b=some o->((g1.push T).update ex (Obj.mapFields (·.setIfInBounds 1 (Value.ref g1.objs.size)))).get? b=some o:=λb o nb e=>by rw[Av _ _ (jy nb)];exact cF _ e
 all_goals have qZ:∀b o,s.heap.get? b=some o->(∀vs,o.data≠ .fields vs)->b≠ex:=λb o e nf z=>by rw[z,ho]at e;cases e;exact nf fs hd
 ·have d3:=D8 hd (·.setIfInBounds 1 (Value.ref g1.objs.size))
  have o3:=Kj (Obj.mapFields (·.setIfInBounds 1 (Value.ref g1.objs.size))) o2 (Uh d3);refine⟨λb o e=>keep b o (λz=>by rw[z,hB]at e;cases e) (AY b o e),hB,ff.of_keeps λb o e nf=>?_,?_⟩
  ·obtain⟨sl,e1⟩:=k1.2.2 b o e
   exact⟨_,keep b _ (qZ b o e nf) e1,Z⟩
  ·refine⟨_,_,g1.objs.size,T,_,o3,Obj.cls_mapFields _ _,a7u _ _,d3,by simp[hz],AY.fresh,ne,?_,by rw[<-hT],?_⟩
   ·rw[Av _ _ (jy ne)];exact fj g1 (by rw[<-hT];rfl)
   ·first|(simp;done)|(rcases hp with rfl|⟨_,_,_,_,_,_,_,rfl⟩<;>simp)
 ·intro b o e nf
  obtain⟨sl,e1⟩:=k1.2.2 b o e;exact⟨sl,keep b _ (qZ b o e nf) e1⟩
theorem a0E(hA:A.frames=some (env::outer))(hL:env.frame=some L)(x:qx B (env::outer) ex cls dx .none s.heap) (q:∀h',qx B (env::outer) ex cls dx (rawInt L) h'->s.heap.UpToSlots h'->Q () {s with heap:=h'}):wpAny M A (noteFrame (.ref ex) env) Q E s:=by
 obtain⟨st,hB,ff,ob,fs,tb,ot,ts,ho,rfl,rfl,hd,h1,Cb,nt,ht,rW,h3⟩:=x;unfold noteFrame;simp only[hL];refine aP (jx ho hd h1 ?_);rw[bo (show(Value.ref tb !=Value.none)=true from by simp)];refine aP (jx ht rW h3 ?_);rw[bB (show¬((Value.none==rawInt L)=true)from by simp[rawInt])];refine aP (CP ht rW (Uv.mp h3).1 ?_);have other:∀b,b≠tb->(s.heap.update tb (Obj.mapFields (·.setIfInBounds 3 Value.none))).get? b=s.heap.get? b:=λb nb=>Av _ _ (jy nb);have qZ:∀b o,s.heap.get? b=some o->(∀vs,o.data≠ .fields vs)->b≠tb:=λb o e nf z=>by rw[z,ht]at e;cases e;exact nf ts rW
 refine a6Z (s:={s with heap:=s.heap.update tb (Obj.mapFields (·.setIfInBounds 3 Value.none))}) hA (ff.of_keeps λb o e nf=>⟨o,(other b (qZ b o e nf)).trans e,Z⟩) hL ((other ex (jy nt)).trans ho) (λb o e=>(other b λz=>by rw[z,Cb]at e;cases e).trans (st b o e)) hB hd (Uv.mp h1).1 λh' y up=>q h' y λb o e nf=>up b o ((other b (qZ b o e nf)).trans e) nf
theorem QU{l:List Env}(x:qx B l ex cls dx fl s.heap)(q:∀h',qx B l ex cls dx .none h'->s.heap.UpToSlots h'->Q () {s with heap:=h'}):wpAny M A (setFlight (.ref ex) none) Q E s:=by
 obtain⟨st,hB,ff,ob,fs,tb,ot,ts,ho,hc,hx,hd,h1,Cb,nt,ht,rW,h3⟩:=x;have z3:3<ts.size:=(Uv.mp h3).1;have other:∀b,b≠tb->(s.heap.update tb (Obj.mapFields (·.setIfInBounds 3 ((none:Option Addr).elim Value.none λf=>rawInt f)))).get? b=s.heap.get? b:=λb nb=>Av _ _ (jy nb);have qZ:∀b o,s.heap.get? b=some o->(∀vs,o.data≠ .fields vs)->b≠tb:=λb o e nf z=>by rw[z,ht]at e;cases e;exact nf ts rW
 unfold setFlight;refine aP (jx ho hd h1 ?_);rw[bo (show(Value.ref tb !=Value.none)=true from by simp)];refine CP ht rW z3 (q _ ⟨λb o e=>(other b λz=>by rw[z,Cb]at e;cases e).trans (st b o e),hB,ff.of_keeps λb o e nf=>⟨o,(other b (qZ b o e nf)).trans e,rfl⟩,?_⟩ λb o e nf=>⟨o.slots,(other b (qZ b o e nf)).trans e⟩);exact⟨ob,fs,tb,_,_,(other ex (jy nt)).trans ho,hc,hx,hd,h1,Cb,nt,Kj _ ht (Uh (D8 rW _)),D8 rW _,by simp[z3]⟩
end
end L2
namespace L2
open PySem PySem.Spec PyProof.Rows
open Builtin Builtin.ObjectAttr
section
variable {prog:ai}{w:World}{A:ak}{E:Value->ah->Prop}{s:ah}{K:ag}{x C:Addr}{ox:Obj}{fs:Array Value}{name:Str}{v:Value}{Q:Unit->ah->Prop}
end
end L2
namespace L2
open PySem PySem.Spec PyProof.Rows
section
variable {X:Cx}{o e value:Expr}{f:Str}{pos pos' tD:Pos}{ta tv:TE}
end
section
variable {prog:ai}{w:World}{A:ak}{E:Value->ah->Prop}{h:Heap}{g:Array GenState}{d:Drawn}{t:Nat}{os:OsState}
variable {nm q:Str}{C N fI:Addr}{bs bm vb:List Value}{wL:Bool}{sn:List Str}{sub:List Value}{ab:Bool}{col:Option Bool}{dd:Option Addr}{k0 k1 k2 k3 k5:Option Value}{B newId Q3:String}{mN:bV}{rest:List Value}{oI:Obj}
end
section
variable {M:Model}{A:ak}{E:Value->ah->Prop}{env:Env}{nm q:Str}{C N:Addr}{bs bm:List Value}{wL:Bool}{sn:List Str}{sub:List Value}{ab:Bool}{col:Option Bool}{dd:Option Addr}{k0 k1 k2 k3 k5:Option Value}{newId:String}
end
def TU(P:ai)(w:World):kX:=λouter H s E e s'=>∃(ex:Addr)(cls:Value)(dx:Option Addr)(H':Hp)(B:Heap),e= .ref ex/\s'.os=s.os/\AllBare s'.gens/\qx B outer ex cls dx .none s'.heap/\Fl P w outer H s.heap ex H' B s'.heap/\E cls dx H'
section
variable {P:ai}{w:World}{K:ag}{mg:bV}{aA:Heap}{N:List Str}{qual:Str}{scope:Scope}{f:Addr}{cd:Value}{A:ak}{outer:List Env}{s:ah}{H:Hp}{E:XK}{ay:List (Addr×Obj)}{O:St}{H1:Hp}{s1:ah}{ex:Addr}{C:Addr}{dx:Addr}
end
section
variable {X:Cx}{x:Str}{C fI:Addr}{vb:List Value}{newId Q3 B:String}{e:Expr}{t:TA}{np dW pos:Pos}{k:Nat}{fd:FuncData}{ps:List Str}{sp:Sp}
end
def CO(ex:Addr)(cls:Value)(dx:Option Addr)(h:Heap):Prop:=∃o,h.get? ex=some o/\o.cls=cls/\o.dict=dx/\∃fs,o.data= .fields fs
def ClsAt(K:ag)(C:Addr):Prop:=∀h,K.In h->∃nm q N bs tl wL sn sub ab col dd k0 k1 k2 k3 k5 newId,h.get? C=some (excClassObj nm q C N bs tl wL sn sub ab col dd k0 k1 k2 k3 k5 newId)
inductive a8T(i:Nat)(Cs:Addr->Prop)(tb:XK->TS)(th:TS)(D:Ends)(O:St)(H:Hp):Prop |mk (E:XK)(h0:tb E D O H)(h1:(∀cls dx H',E cls dx H'->∃C,cls= .ref C/\Cs C))(h2:∀(C ex:Addr)(dx:Option Addr)(σ':St)(H':Hp),σ'.length=O.length->E (.ref C) dx H'->H' ex=none->th {nx:=λσ2 H2=>D.nx (σ2.set i none) H2,rt:=D.rt,bk:=λσ2 H2=>D.bk (σ2.set i none) H2,ct:=λσ2 H2=>D.ct (σ2.set i none) H2} (σ'.set i (some (.ref ex))) (upd H' ex (.ext (CO ex (.ref C) dx))))
def Vr(i:Nat)(Cs:Addr->Prop)(tb:XK->TS)(th:TS):TS:=λD O H=>a8T i Cs tb th D O H
section
variable {X:Cx}{i:Nat}{n y:Str}{Dc:Addr}{Jb:List Value}{newD:String}{body AW:List Stmt}{b0:Stmt}{np uo pos:Pos}{tb:XK->TS}{th:TS}{Cs:Addr->Prop}
theorem Y6(ib:X.stack=X.env::X.outer)(hfr:X.env.frame=some X.env.locals)(hN:X.N.Nodup)(hi:X.N[i]? =some n)(hk:X.env.kindOf n=some .local)(hs:X.env.scope.names.lookup n=some .local) (hb:∀(E:XK)(xe:Value->ah->Prop),Passes (TU X.prog X.w) (X.jR xe) E->gT (X.jR xe) body (tb E)) (hg:Gl X y)(hy:Exc X.K X.mg y Dc Jb newD)(HI:Jb.contains (.type "BaseException")=true)(HP:∀C,Cs C->ClsAt X.K C/\takes X.K C Dc) (hh:∀ex,gT (X.hand ex) (b0::AW) th)(jJ:(y==("__debug__":Str))=false:=by decide): Tw X (.Try body [.ExceptHandler (some (.Name y np)) (some n) (b0::AW) uo] [] [] pos) (Vr i Cs tb th):=by
 intro s O H D I h;obtain⟨E,hq,rY,hth⟩:=h;refine wpAny_Try_except ?_;have ps:Passes (TU X.prog X.w) (X.jR λe s₁=>wpAny (model X.prog X.w) X.A (noteFrame e X.env) (λ_ s₂=>wpAny (model X.prog X.w) X.A (setFlight e none) (λ_ s₃=>wpAny (model X.prog X.w) X.A (handleBy e X.env [.ExceptHandler (some (.Name y np)) (some n) (b0::AW) uo]) (SP X [] D) X.xe s₃) X.xe s₂) X.xe s₁) E:=by
  intro Gg σ' H1 s1 ev s2 I1 hx;obtain⟨ex,cls,dx,H',B,rfl,ho,Qn,HY,F,hE⟩:=hx;obtain⟨C,rfl,hC⟩:=rY cls dx H' hE;have I0:Inv X [] σ' H1 s1:=I1.ny.a8d;obtain⟨Qb,g2,d2,t2,o2⟩:=s2;have a5q:qx B (X.env::X.outer) ex (.ref C) dx .none Qb:=by rw[<-ib];exact HY
  have hA:X.A.frames=some (X.env::X.outer):=by rw[<-ib];exact I0.ok.frames
  refine a0E (s:=⟨Qb,g2,d2,t2,o2⟩) hA hfr a5q λh4 C9 UY=>?_;refine QU C9 λh5 zv UX=>?_;have F4:=F.step HY.1 C9.1 UY HY.2.2.1;have ff4:h4.FunFrames B X.stack:=by rw[ib];exact C9.2.2.1
  have F5:=F4.step C9.1 zv.1 UX ff4;have ff5:h5.FunFrames B X.stack:=by rw[ib];exact zv.2.2.1
  have I5:Inv X [] σ' H' ⟨h5,g2,d2,t2,o2⟩:=I0.zR (s':=⟨h5,g2,d2,t2,o2⟩) ho F5.un F5.bD Qn (λb hb=>(fV hb).elim);refine wpAny_handleBy_cons (codeAny_handlers_test (BO (X:=X.hand ex) (I5.hand ex) hg hy.at' ?_ jJ)) (by intro q;cases q);obtain⟨eC,tk⟩:=HP C hC;obtain⟨nm,q,Nn,bs,tl,wL,sn,sub,ab,col,dd,k0,k1,k2,k3,k5,nw,oC⟩:=eC _ I5.iD;obtain⟨tl',Nn',OL,q',Sv,Qq,LZ,KW,Ti,So,Se,j0,j1,j2,j3,j5,mN',oD,ac5,abP,TL'⟩:=(hy.own I5.iD).obj;obtain⟨ob,hob,a3f,_⟩:=zv.there;have Hm:(Value.ref C::tl).contains (.ref Dc)=true:=by
   obtain⟨cd,ha,wM⟩:=Option.bind_eq_some_iff.mp tk;split at wM
   ·cases wM
   ·have hc:=eO wM
    unfold PySem.W.clsIn at ha;split at ha
    ·rename_i c1 c2 cd' c4 hl
     cases ha;have e1:=I5.iD _ _ hl;rw[show(Shared.heap ⟨h5,g2,d2,t2,o2⟩).get? C=some _ from oC]at e1;have e2:=eO e1;unfold excClassObj at e2;injection e2 with _ _ e3 _;injection e3 with e4;rw[<-e4]at hc;exact hc
    ·cases ha
  refine a6Q oC oD hob a3f (TL'.hasType HI) Hm ?_;refine codeAny_handlers_suite_as ?_;refine QU (s:=⟨h5,g2,d2,t2,o2⟩) zv λh6 QV UW=>?_;have F6:=F5.step zv.1 QV.1 UW ff5;have V4:Un (gb X.stack) [] H1 (upd H' ex (.ext (CO ex (.ref C) dx))) s1.heap h6:=by
   have nb:∀b u,H' b=some u->b≠ex:=λb u e z=>by rw[z,F6.ne]at e;cases e
   refine⟨F6.un.keep,F6.un.slot,λb o e n hx=>?_,F6.un.there,λb xs e=>?_,λb o u e=>?_,λb ps e=>?_⟩
   ·rw[aV (λz=>by rw[z,F6.nw]at e;cases e)];exact F6.un.free b o e n hx
   ·have:=F6.un.kA b xs e;rw[aV (nb b _ this)];exact this
   ·have:=F6.un.kg b o u e;rw[aV (nb b _ this)];exact this
   ·obtain⟨more,e1⟩:=F6.un.kB b ps e;exact⟨more,by rw[aV (nb b _ e1)];exact e1⟩
  have a3c:fc X.prog X.w (upd H' ex (.ext (CO ex (.ref C) dx))) h6:=λb u e=>by
   by_cases Qt:b=ex
   ·subst Qt
    rw[bQ]at e;cases e;obtain⟨o6,e6,c6⟩:=QV.there;exact⟨⟨o6,e6,c6⟩,⟨o6,e6⟩,λg1 g3 ⟨o7,e7,c7⟩ k=>⟨o7,k o7 e7,c7⟩⟩
   ·rw[aV Qt]at e
    refine(F6.bD b u e).nC (λc v hc q=>q) (λc q=>?_) λc xs q=>?_
    ·rw[aV (λz=>by rw[z,F6.ne]at q;cases q)];exact q
    ·rw[aV (λz=>by rw[z,F6.ne]at q;cases q)];exact q
  have I6:Inv X [] σ' (upd H' ex (.ext (CO ex (.ref C) dx))) ⟨h6,g2,d2,t2,o2⟩:=I0.zR (s':=⟨h6,g2,d2,t2,o2⟩) ho V4 a3c Qn (λb hb=>(fV hb).elim);refine vx (X:=X.hand ex) (I6.hand ex) hN hi (.inl hs) (v:=.ref ex) Z (λs7 I7=>?_) (.inr hs);refine fU (hh ex [] s7 _ _ _ I7 (hth C ex dx σ' H' (I0.len.trans I.len.symm) hE F.ne)) (λf s8 q=>?_) λe s8 q=>False.elim q;have un:∀(σ2:St)(H2:Hp)(Q:Unit->ah->Prop),Inv (X.hand ex) [] σ2 H2 s8->(∀s9,Inv X [] (σ2.set i none) H2 s9->Q () s9)->wpAny (model X.prog X.w) X.A (do bindName X.env n .none;unbindBehindTheSuite X.env n uo) Q X.xe s8:=λσ2 H2 Q I8 hq=>by
   have TK:=I8.back I0.ok;have bP:i<σ2.length:=by rw[TK.len];exact(cv.mp hi).1
   unfold bindName;refine aP (aP (Ab (wpAny_point (aP (vx TK hN hi (.inl hs) (v:=.bN) Z (λs9 I9=>wpAny_point ?_) (.inr hs))))));refine V0 I9 hN hi hk hs (v:=.bN) (Aq bP) λjC sS=>hq jC ?_;rw[K3]at sS;exact sS
  cases f with |next=>obtain⟨σ2,H2,I8,dq⟩:=q;exact un σ2 H2 _ I8 λs9 I9=>⟨_,H2,I9,dq⟩ |brk=>obtain⟨σ2,H2,I8,dq⟩:=q;exact un σ2 H2 _ I8 λs9 I9=>⟨_,H2,I9,dq⟩ |cont=>obtain⟨σ2,H2,I8,dq⟩:=q;exact un σ2 H2 _ I8 λs9 I9=>⟨_,H2,I9,dq⟩ |ret u=>obtain⟨v,σ2,H2,I8,r8,dq⟩:=q;exact un σ2 H2 _ I8 λs9 I9=>⟨v,_,H2,I9,r8,dq⟩
 refine fU (hb E _ ps [] s O H D (I.jR _) hq) (λf s1 q=>?_) λe s1 q=>q;have q':=q.ny;cases f with |next=>exact CT q' |brk=>exact q' |cont=>exact q' |ret u=>exact q'
end
end L2
namespace Lw
open PySem PySem.Spec PyProof.Rows L2 Ln Rt Cn Pn Wk Rn
open Ow (topR cornO mnO betR atO ownF leadF ownL OkI OkIs)
open Ow (Itm)
open Ow (topR)
def top(i:Nat):Stmt:=PySem.Challenge.pw_glidequeue_k46_whole_tapes_of_runners.main.body.getD i (.Pass ⟨0,0,0,0⟩)
abbrev E3:Stmt:=top 85
abbrev Fx:Stmt:=top 84
abbrev Ft:Stmt:=top 27
abbrev EZ:Stmt:=top 15
abbrev ER:Stmt:=top 97
abbrev EO:Stmt:=top 29
abbrev ES:Stmt:=top 26
abbrev EF:Stmt:=top 22
abbrev DZ:Stmt:=top 23
abbrev EM:Stmt:=top 24
abbrev EN:Stmt:=top 25
abbrev Fe:Stmt:=top 20
abbrev F8:Stmt:=top 19
abbrev EH:Stmt:=top 91
abbrev Fd:Stmt:=top 87
abbrev ET:Stmt:=top 86
abbrev EY:Stmt:=top 51
def jt:Str:="abcdefghijklmnopqrstuvwxyz"
abbrev EC:Stmt:=top 94
abbrev DT:Stmt:=top 30
abbrev DU:Stmt:=top 16
abbrev DV:Stmt:=top 40
abbrev Fq:Stmt:=top 37
abbrev EX:Stmt:=top 39
abbrev DX:Stmt:=top 38
abbrev DW:Stmt:=top 100
abbrev Fv:Stmt:=top 59
abbrev Bf:Stmt:=top 58
abbrev EB:Stmt:=top 21
abbrev E4:Stmt:=top 88
abbrev EL:Stmt:=top 89
abbrev EG:Stmt:=top 90
abbrev EA:Stmt:=top 92
abbrev EJ:Stmt:=top 93
abbrev F2:Stmt:=top 56
abbrev F0:Stmt:=top 55
abbrev Fz:Stmt:=top 54
abbrev F3:Stmt:=top 50
abbrev F1:Stmt:=top 42
abbrev EE:Stmt:=top 53
abbrev Fw:Stmt:=top 52
abbrev Fj:Stmt:=top 63
abbrev E2:Stmt:=top 62
abbrev ED:Stmt:=top 33
abbrev E6:Stmt:=top 31
abbrev Ea:Stmt:=top 32
abbrev Fs:Stmt:=top 82
abbrev DY:Stmt:=top 80
abbrev E7:Stmt:=top 79
abbrev Fh:Stmt:=top 78
abbrev E8:Stmt:=top 81
abbrev Fg:Stmt:=top 60
abbrev EW:Stmt:=top 95
abbrev Fi:Stmt:=top 64
abbrev Fp:Stmt:=top 76
abbrev Fy:Stmt:=top 77
abbrev EI:Stmt:=top 75
abbrev Fu:Stmt:=top 101
abbrev E5:Stmt:=top 98
abbrev E9:Stmt:=top 99
abbrev E1:Stmt:=top 102
abbrev Bg:Stmt:=top 103
abbrev Ff:Stmt:=top 107
abbrev Fo:Stmt:=top 104
abbrev F7:Stmt:=top 105
abbrev Fm:Stmt:=top 106
abbrev EU:Stmt:=top 108
abbrev oT:Stmt:=top 96
abbrev Eb:Stmt:=top 69
structure gd(K:ag)(C:Addr):Prop where
 cl:kv K C
 rn:j9 K C "machine"
 wx:j9 K C "begun_at"
 pC:j9 K C "done"
 jF:j9 K C "queue"
 rk:j9 K C "pace"
 yI:j9 K C "rate_now"
 Gx:j9 K C "side"
 OU:j9 K C "mark"
 wu:j9 K C "stopping"
abbrev Ef:Stmt:=inClass (top 68) 3
abbrev Ej:Stmt:=inClass (top 68) 4
abbrev Ee:Stmt:=inClass (top 68) 5
abbrev Ec:Stmt:=inClass (top 68) 7
abbrev Er:Stmt:=inClass (top 68) 8
abbrev Ei:Stmt:=inClass (top 68) 9
abbrev Ep:Stmt:=inClass (top 68) 10
abbrev Ek:Stmt:=inClass (top 68) 1
abbrev Em:Stmt:=inClass (top 68) 2
abbrev En:Stmt:=inClass (top 68) 0
abbrev Et:Stmt:=inClass (top 68) 11
abbrev Ey:Stmt:=inClass (top 68) 16
abbrev El:Stmt:=inClass (top 68) 15
abbrev Eh:Stmt:=inClass (top 68) 14
abbrev Eu:Stmt:=inClass (top 68) 13
abbrev Ew:Stmt:=inClass (top 68) 12
abbrev Ed:Stmt:=inClass (top 68) 21
abbrev Es:Stmt:=inClass (top 68) 19
abbrev Eg:Stmt:=inClass (top 68) 17
abbrev Eo:Stmt:=inClass (top 68) 18
abbrev EK:Stmt:=top 109
abbrev F9:Stmt:=top 110
def DG(K:ag):Sp:=λvs H Q _=>∃(a:Addr)(ns:List Int),vs=[.ref a]/\aK K H a (ns.map V.int)/\ns.length<=63/\∀H',Q (.bl true) H'
abbrev vI:Stmt:=top 111
structure Tr(K:ag)(mg:bV)(C:Addr):Prop where
 tc:gd K C
 init:CA K mg C "Runner" "Runner.__init__" En
 a1G:MA K C "place" "Runner.place" Ek
 a1I:MA K C "leads_to" "Runner.leads_to" Em
 a1E:MA K C "square" "Runner.square" Ef
 a1F:MA K C "rate" "Runner.rate" Ej
 a1A:MA K C "tool" "Runner.tool" Ee
 a1y:MA K C "waiting" "Runner.waiting" Ec
 a1J:MA K C "is_held" "Runner.is_held" Er
 a1D:MA K C "stands" "Runner.stands" Ei
 a1K:MA K C "is_halted" "Runner.is_halted" Ep
 a1N:MA K C "feed" "Runner.feed" Et
 a1P:MA K C "entries" "Runner.entries" Ew
 a1O:MA K C "entries_of_first" "Runner.entries_of_first" Eu
 a1C:MA K C "steps_of_first" "Runner.steps_of_first" Eh
 a1H:MA K C "next_square" "Runner.next_square" El
 a1Q:MA K C "end_first" "Runner.end_first" Ey
 a1B:MA K C "stops_in" "Runner.stops_in" Eg
 a1L:MA K C "hold" "Runner.hold" Eo
 a1M:MA K C "go" "Runner.go" Es
 a1z:MA K C "turn_rate" "Runner.turn_rate" Ed
structure All(K:ag)(mg:bV):Prop where
 B:bE mg
 uH:GT K mg "NOUGHT" [.int 0,.int 1]
 a55:GT K mg "SIDES" [.str "up",.str "down"]
 a56:GV mg "NOT_DUE" (.int 1)
 a54:GV mg "WRONG_TICKS" (.int 2)
 a5g:GV mg "ABOVE_TOP" (.int 3)
 a5c:GV mg "LEAST_RATE" (.int 10)
 a5e:GV mg "GREATEST_RATE" (.int 200)
 a5f:GV mg "FIRST_RATE" (.int 100)
 a57:GV mg "MOST_WAITING" (.int 20)
 a58:GV mg "MOST_STEPS" (.int 100)
 a5d:GV mg "GREATEST_SPEED" (.int 20)
 a59:GV mg "LONGEST_WAIT" (.int 1000)
 a5a:GV mg "LONGEST_NAME" (.int 8)
 a5b:GV mg "LETTERS" (.str jt)
 a60:FA K mg "is_whole" EZ
 a5Z:FA K mg "is_whole_within" DU
 a6a:FA K mg "is_fraction" F8
 a6c:FA K mg "fraction" Fe
 a5O:FA K mg "plus_whole" EB
 a5T:FA K mg "minus" EF
 a5H:FA K mg "times" DZ
 a68:FA K mg "is_less" EM
 a5W:FA K mg "least" EN
 a5U:FA K mg "lowest_terms" ES
 a6g:FA K mg "common_divisor" Ft
 a5X:FA K mg "lead_of" EO
 a5F:FA K mg "ways_of" DT
 a5L:FA K mg "stand_at" E6
 a5J:FA K mg "step_rows" Ea
 a5R:FA K mg "nearest" ED
 a6f:FA K mg "corner_square" Fq
 a5G:FA K mg "top_square" DX
 a64:FA K mg "is_rate" EX
 a6b:FA K mg "greatest_turn" DV
 a65:FA K mg "is_place" F1
 a69:FA K mg "is_item" F3
 a67:FA K mg "is_line" EY
 a5Q:FA K mg "place_behind" Fw
 a5S:FA K mg "moved" EE
 a6k:FA K mg "are_steps" Fz
 a63:FA K mg "is_short_item" F0
 a66:FA K mg "is_name" F2
 QX:FA K mg "own_bounds" Bf
 a6j:FA K mg "bound_between" Fv
 a5Y:FA K mg "kept_by_fall" Fg
 a5I:FA K mg "ticks_of" E2
 QY:FA K mg "are_enough" Fj
 a5K:FA K mg "step_entry" Fi
 a5N:FA K mg "reach_behind_first" Eb
 a5V:FA K mg "look" EI
 a6e:FA K mg "due_entries" Fp
 a6i:FA K mg "bounds_between" Fy
 a6d:FA K mg "fault_of_entry" Fh
 a62:FA K mg "is_step_with" E7
 a61:FA K mg "is_timed" DY
 a5M:FA K mg "square_of" E8
 a6h:FA K mg "can_meet" Fs
 a6K:FA K mg "_law_bag" Fx
 a6n:FA K mg "_law_take" E3
 a6u:FA K mg "_law_number" ET
 a6F:FA K mg "_law_frac" Fd
 a6o:FA K mg "_law_sum" E4
 a6A:FA K mg "_law_less" EL
 a6v:FA K mg "_law_min" EG
 a6w:FA K mg "_law_machine" EH
 a6s:FA K mg "_law_place" EA
 a6z:FA K mg "_law_line" EJ
 a6t:FA K mg "_law_other" EC
 a6C:FA K mg "_law_items" EW
 a6q:FA K mg "_law_sizes" oT
 a6B:FA K mg "_law_lead" ER
 a6p:FA K mg "_law_stand" E5
 a6r:FA K mg "_law_rows" E9
 a6l:FA K mg "_law_top" DW
 a6J:FA K mg "_law_bounds" Fu
 a6m:FA K mg "_law_ticks" E1
 Cj:FA K mg "_law_alike" Bg
 a6I:FA K mg "_law_due_entries" Fo
 a6D:FA K mg "_law_is_fraction" F7
 a6H:FA K mg "_law_entry_fault" Fm
 a6G:FA K mg "_law_fits" Ff
 a6y:FA K mg "_law_look" EU
 a6x:FA K mg "_law_looked" EK
 a6E:FA K mg "_law_held_tape" F9
 law:FA K mg "law" vI
 gl:∃cG,Exc K mg "GlideError" cG Ja OD
 rc:∃C,Tr K mg C
def zY(K:ag)(P:ai):Prop:=∀(w:World)(mg:bV)(aA:Heap)(f:Addr)(fd:FuncData),All K mg->m7 K "law" "law" vI f fd->iU P w K mg aA ja 14 f fd ["_law_script"] (DG K)
@[irreducible] noncomputable def KP:ag×ai:=Classical.epsilon λx=>¬zY x.1 x.2
@[irreducible] noncomputable def K:ag:=KP.1
@[irreducible] noncomputable def P:ai:=KP.2
theorem Vm(h:zY K P)(K':ag)(P':ai):zY K' P':=Classical.byContradiction λn=>by have e:=Classical.epsilon_spec (p:=λx:ag×ai=>¬zY x.1 x.2) ⟨(K',P'),n⟩;unfold K P KP at h;exact e h
end Lw
namespace Lw
open PySem PySem.Spec PyProof.Rows L2
section
variable {w:World} {mg:bV} {aA:Heap}
inductive a9c(vs:List V)(H:Hp)(Q:VK):Prop |mk (p:_)(many:_)(h0:vs=[.ref p,.int many])(h1:gh H p)(h2:1<=many)(h3:many<=10^40)(h4:∀d H',0<=d->d<many->bF p H H'->Q (.int d) H')
def mi:Sp:=λvs H Q _=>a9c vs H Q
theorem Mh:bj ["_law_bag_here","_law_many","_law_digit","_law_number_here","_law_room"] ["_law_bag_here","_law_many"] (aX E3):=bw aQ
theorem Z4(F:FA K mg "_law_take" E3)(B:bE mg):aF P w K mg aA "_law_take" 1 mi:=by
 refine F.has Mh (λvs H Q E h=>?_) (λ_ _ _ _ _ _=>dC λ_ _=>rfl) (λf aM A outer s H vs Q E hr h=>?_)
 ·obtain⟨p,many,rfl,_⟩:=h
  rfl
 ·obtain⟨p,many,rfl,⟨c,m,hp,ok⟩,h1,h2,k⟩:=h
  obtain⟨c0,m0,m1⟩:=id ok;have nd:=Mh.nd;refine⟨_,(aE (bp (bG mE (px K (pv 0) aD) aD (aZ _)) (aE (pS 2 nd (aO qY (px K (pv 0) aD) (pv 1))) (aE (eU (aO nM (px K (pv 0) aD) (pv 1)) (tP (pv 0) aD set_list)) (aG (aR (pv 2))))) bA) (aE (pS 3 nd aD) (aE (pS 4 nd aD) (aE (nK fe (bG jj (pv 4) (pv 1) (aZ _)) (aE (eU (aO qY (aO tQ (aO cQ (aO bO (px K (pv 0) aD) aD) aD) aD) aD) (tP (pv 0) aD set_list)) (aE (pS 3 nd (aO cQ (aO bO (pv 3) aD) (aO qY (aO bO (aO nM (px K (pv 0) aD) aD) aD) aD))) (aG (pS 4 nd (aO bO (pv 4) aD)))))) (aG (aR (aO qY (pv 3) (pv 1)))))))),?_⟩;refine⟨_,Z,.inl ⟨p,_,0,.int c,Z,Z,aK.of hp,Z,_,_,Z,Z,_,Z,?_⟩⟩;refine dJ (λhc=>?_) (λ_=>?_)
  ·refine⟨_,Z,.inl ⟨p,_,0,.int c,Z,Z,aK.of hp,Z,_,Z,_,_,Z,Z,h1,?_⟩⟩
   refine⟨_,Z,.inl ⟨p,_,0,.int c,Z,Z,aK.of hp,Z,_,Z,_,_,Z,Z,⟨h1,Ko aw h2⟩,?_⟩⟩;refine⟨_,Z,p,_,0,0,Z,Z,hp,Z,?_⟩;refine⟨_,Z,?_⟩;exact k _ _ (oK _ aw) (t7 _ aw) (bF.upd ⟨Int.ediv_nonneg c0 aw,m0,m1⟩)
  ·refine nu (λO H2=>∃(v:Option V)(n r:Int),O=[some (.ref p),some (.int many),v,some (.int n),some (.int r)]/\bF p H H2/\1<=r) (λO _=>match O with|[_,_,_,_,some (.int r)]=>(many-r).toNat|_=>0) ?_ ?_ ?_
   ·exact⟨none,0,1,Z,.refl ⟨c,m,hp,ok⟩,gI _⟩
   ·rintro O H2 ⟨v,n,r,rfl,bx,yW⟩
    obtain⟨c',m',C2,c0',m0',GG⟩:=id bx.bI;refine⟨_,Z,_,Z,_,_,Z,Z,_,Z,?_⟩;refine dJ (λhc=>?_) (λhc=>?_)
    ·have bP:r<many:=jc hc
     refine⟨_,Z,.inl ⟨p,_,1,.int m',Z,Z,aK.of C2,Z,_,_,Z,Z,.of_right (cC aB aB),_,_,Z,Z,_,_,Z,Z,⟨aB,aB,?_⟩,_,_,Z,Z,(by show(0:Int)<2147483629;decide),?_⟩⟩
     ·have kQ:(2:Nat)^64=18446744073709551616:=by decide
      rw[kQ];lia
     refine⟨_,Z,p,_,1,1,Z,Z,C2,Z,?_⟩;have g0:0<=((m'*48271+7919)^(5:Int).toNat)%2147483629:=oK _ aB;have g1:((m'*48271+7919)^(5:Int).toNat)%2147483629<2147483629:=t7 _ aB;have bx2:bF p H (L2.upd H2 p (.lst [.int c',.int (((m'*48271+7919)^(5:Int).toNat)%2147483629)])):=bx.trans (.upd ⟨c0',g0,Int.lt_trans g1 aB⟩);refine⟨_,Z,_,_,Z,Z,.of_right (cC aB aB),_,Z,.inl ⟨p,_,1,.int _,Z,Z,aK.of bQ,Z,_,_,Z,Z,⟨aB,Ko aB aB⟩,_,_,Z,Z,.of_right (cC aB aB),_,_,Z,Z,(by show(0:Int)<1073741789;decide),_,_,Z,Z,?_⟩⟩;refine⟨_,Z,_,_,Z,Z,.of_right (cC aB aB),?_⟩;refine⟨⟨v,_,_,Z,bx2,?_⟩,?_⟩
     ·lia
     ·show(many-r*1073741789).toNat<(many-r).toNat
      lia
    ·refine⟨_,Z,_,Z,_,_,Z,Z,h1,?_⟩
     exact k _ _ (oK _ aw) (t7 _ aw) bx
   ·rintro O H2 Q1 Q2 hq ⟨v1,e1,v2,e2,i,j,e3,e4,kk,e5,q⟩
    exact⟨v1,e1,v2,e2,i,j,e3,e4,kk,e5,hq _ _ q⟩
inductive aaa(K:ag)(vs:List V)(H:Hp)(Q:VK):Prop |mk (a:Addr)(ns:List Int)(at':Int)(h0:vs=[.ref a,.int at'])(h1:aK K H a (ns.map V.int))(h2:ns.length<=63)(h3:0<=at')(h4:at'<=100)(h5:∀p H',H p=none->gh H' p->aH H H'->Q (.ref p) H')
def LX(K:ag):Sp:=λvs H Q _=>aaa K vs H Q
theorem Nt:bj ["_law_script","_law_at","_law_cell","_law_mix","_law_k"] ["_law_script","_law_at"] (aX Fx):=bw aQ
theorem Q0{ns:List Int}{j:Nat}(h:j<ns.length):∃z,ft (ns.map V.int) (j:Int)=some (.int z):=⟨ns[j],a8l (by simp[h])⟩
theorem a0o(F:FA K mg "_law_bag" Fx)(B:bE mg):aF P w K mg aA "_law_bag" 1 (LX K):=by
 refine F.has Nt (λvs H Q E h=>?_) (λ_ _ _ _ _ _=>dC λ_ _=>rfl) (λf aM A outer s H vs Q E hr h=>?_)
 ·obtain⟨a,ns,at',rfl,_⟩:=h
  rfl
 ·obtain⟨a,ns,at',rfl,hS,hlen,h0,h1,k⟩:=h
  obtain⟨j,rfl⟩:∃j:Nat,at'=(j:Int):=⟨at'.toNat,aw⟩;have nd:=Nt.nd;refine⟨_,(aE (pS 2 nd aD) (aE (iM (bp (bG jj (pv 1) (dk K B (au (pv 0) az)) (aZ _)) (aG (pS 2 nd (eD (x:="abs") oo Z (B.at "abs") qz (au (px K (pv 0) (pv 1)) az)))) bA)) (aE (pS 3 nd (aO cQ (aO cQ (aO bO (aO bO aD (pv 1)) (pv 1)) (aO bO aD (pv 1))) aD)) (aE (gJ fe Z (p7 Z (B.at "range") (au (eD (x:="min") (J8 rfl) rfl (B.at "min") Ue (au (dk K B (au (pv 0) az)) (au aD az))) az)) (aY 4 nd) (aG (pS 3 nd (aO qY (aO tQ (aO cQ (aO cQ (aO bO (pv 3) aD) (aO qY (px K (pv 0) (pv 4)) aD)) (aO bO (pv 4) (pv 4))) aD) aD)))) (aE (iM (bp (bG jj (pv 2) (aO tQ aD aD) (aZ _)) (aG (pS 2 nd aD)) bA)) (aG (aR (dj (au (pv 2) (au (pv 3) az)))))))))),?_⟩;refine⟨λO H'=>H'=H/\∃c:Int,O=[some (.ref a),some (.int (j:Int)),some (.int c),none,none]/\0<=c,?_,?_⟩
  ·refine⟨_,Z,_,Z,a,_,Z,.inl hS,_,_,Z,Z,_,Z,?_⟩
   refine dJ (λhc=>?_) (λ_=>?_)
   ·have hj:(j:Int)<((ns.map V.int).length:Int):=jc hc
    rw[bL]at hj;obtain⟨z,hz⟩:=Q0 (ns:=ns) (j:=j) aw;refine⟨_,Z,_,Z,.inl ⟨a,_,_,_,Z,Z,hS,hz,z,Z,?_⟩⟩;exact⟨Z,_,Z,by split<;>lia⟩
   ·exact⟨Z,0,Z,gI _⟩
  rintro O H' ⟨rfl,c,rfl,c0⟩;refine⟨_,Z,_,_,Z,Z,.of_left (cC aB aB),_,Z,_,_,Z,Z,.of_right (cC aw aw),_,Z,_,_,Z,Z,.of_left (cC aB aB),_,_,Z,Z,_,_,Z,Z,?_⟩;refine⟨_,Z,a,_,Z,.inl hS,_,_,Z,_,Z,?_,?_,?_⟩
  ·split<;>lia
  ·split<;>(try rw[bL])<;>lia
  refine uJ (Pv:=λi O H2=>H2=H'/\∃(m:Int)(v:Option V),O=[some (.ref a),some (.int (j:Int)),some (.int c),some (.int m),v]/\0<=m/\m<2147483648) ?_ ?_ ?_
  ·refine⟨Z,_,none,Z,?_,?_⟩
   ·have:(0:Int)<=(j:Int)*(j:Int):=iW aw aw
    rw[xI];lia
   ·have:(j:Int)*(j:Int)<=100*100:=Di aw aw aw aw
    rw[xI];lia
  ·rintro i O H2 hi ⟨rfl,m,v,rfl,m0,m1⟩
   have HC:i<ns.length:=by rw[bL]at hi;split at hi<;>lia
   obtain⟨z,hz⟩:=Q0 (ns:=ns) (j:=i) HC;rw[<-Int.zero_add (i:Int)]at hz;have hz0:0<=z%2147483647:=oK _ aB;have BU:z%2147483647<2147483647:=t7 _ aB;have a3G:(0:Int)<=(0+(i:Int))*(0+(i:Int)):=iW aw aw;have ux:(0+(i:Int))*(0+(i:Int))<=100*100:=Di aw aw aw aw;refine⟨_,Z,_,_,Z,Z,.of_right (cC aB aB),_,Z,_,Z,.inl ⟨a,_,_,_,Z,Z,hS,hz,_,_,Z,Z,(by show(0:Int)<2147483647;decide),_,_,Z,Z,_,Z,_,Z,_,_,Z,Z,.of_right (cC aw aw),_,_,Z,Z,_,_,Z,Z,⟨aB,aB,?_⟩,_,_,Z,Z,(by show(0:Int)<2147483629;decide),?_⟩⟩
   ·have kQ:(2:Nat)^64=18446744073709551616:=by decide
    rw[kQ];generalize(0+(i:Int))*(0+(i:Int))=ii at a3G ux⊢;generalize z%2147483647=zz at hz0 BU⊢
    lia
   ·exact⟨Z,_,_,Z,oK _ aB,Int.lt_trans (t7 _ aB) aB⟩
  ·rintro O H2 ⟨rfl,m,v,rfl,m0,m1⟩
   refine⟨λO H3=>H3=H2/\∃c:Int,O=[some (.ref a),some (.int (j:Int)),some (.int c),some (.int m),v]/\0<=c,?_,?_⟩
   ·refine⟨_,Z,_,_,Z,Z,⟨aB,aB,aB⟩,_,_,Z,Z,_,Z,?_⟩
    refine dJ (λhc=>?_) (λ_=>?_)
    ·exact⟨Z,0,Z,gI _⟩
    ·exact⟨Z,c,Z,c0⟩
   rintro O H3 ⟨rfl,c,rfl,c0⟩;refine⟨_,Z,_,Z,(by show 2<=sizeLine;decide),λp H4 nw=>?_⟩;exact k p H4 nw.no ⟨c,m,nw.at',c0,m0,m1⟩ nw.same
inductive aa2(vs:List V)(H:Hp)(Q:VK):Prop |mk (a:Int)(b:Int)(h0:vs=[.int a,.int b])(h1:Q (.int (Int.gcd a b)) H)
def B8:Sp:=λvs H Q _=>aa2 vs H Q
inductive a9I(vs:List V)(H:Hp)(Q:VK):Prop |mk (a:Int)(b:Int)(h0:vs=[.int a,.int b])(h1:b≠0)(h2:Wd b)(h3:∀t H',Nw H H' t (.tup [.int (Ar.lowP a b),.int (Ar.gB a b)])->Q (.ref t) H')
def vD:Sp:=λvs H Q _=>a9I vs H Q
def jI(T:String):Bool:=gq T "int"&& !gq T "bool"
inductive a9Q(K:ag)(vs:List V)(H:Hp)(Q:VK):Prop |mk (v:_)(T:_)(h0:vs=[v])(h1:vf K H v T)(h2:Q (.bl (jI T)) H)
def lJ(K:ag):Sp:=λvs H Q _=>a9Q K vs H Q
theorem Nm:bj ["p","q","high","low"] ["p","q"] (aX Ft):=bw aQ
theorem a0j(F:FA K mg "common_divisor" Ft)(B:bE mg):aF P w K mg aA "common_divisor" 1 B8:=by
 refine F.has Nm (λvs H Q E h=>?_) (λ_ _ _ _ _ _=>dC λ_ _=>rfl) (λf aM A outer s H vs Q E hr h=>?_)
 ·obtain⟨a,b,rfl,_⟩:=h
  rfl
 ·obtain⟨a,b,rfl,k⟩:=h
  have nd:=Nm.nd;refine⟨_,(aE (p4 (i:=2) (j:=3) Z nd Z Z aB Z Z (au (eD (x:="abs") oo Z (B.at "abs") qz (au (pv 0) az)) (au (eD (x:="abs") oo rfl (B.at "abs") qz (au (pv 1) az)) az)) rfl) (aE (nK fe (bG (gO K Z hr.units) (pv 3) aD (aZ _)) (aG (p4 (i:=2) (j:=3) Z nd Z Z aB Z Z (au (pv 3) (au (aO qY (pv 2) (pv 3)) az)) Z))) (aG (aR (pv 2))))),?_⟩;refine⟨_,Z,_,Z,_,Z,_,Z,_,_,Z,?_⟩;refine nu (λO H2=>H2=H/\∃(x y:Int),O=[some (.int a),some (.int b),some (.int x),some (.int y)]/\0<=x/\0<=y/\Int.gcd x y=Int.gcd a b) (λO _=>match O with|[_,_,_,some (.int y)]=>y.natAbs|_=>0) ?_ ?_ ?_
  ·refine⟨Z,_,_,Z,by split<;>lia,by split<;>lia,?_⟩
   have h1:(if a<0 then-a else a).natAbs=a.natAbs:=by split<;>lia
   have h2:(if b<0 then-b else b).natAbs=b.natAbs:=by split<;>lia
   unfold Int.gcd;rw[h1,h2]
  ·rintro O H2 ⟨rfl,x,y,rfl,x0,y0,e⟩
   refine⟨_,Z,.inl ⟨_,_,Z,Z,_,Z,?_⟩⟩;refine dJ (λhc=>?_) (λhc=>?_)
   ·have hy:y≠0:=by simpa using hc
    have kK:0<y:=by lia
    refine⟨_,Z,_,Z,_,Z,_,_,Z,Z,kK,_,_,Z,?_⟩;refine⟨⟨Z,_,_,Z,y0,oK _ hy,(Ar.QN kK).trans e⟩,?_⟩;show(x%y).natAbs<y.natAbs;have:=oK x hy;have:=t7 x kK
    lia
   ·have hy:y=0:=by simpa using hc
    subst hy;refine⟨_,Z,?_⟩;rw[Int.gcd_zero_right]at e;have e2:x=((Int.gcd a b:Nat):Int):=by lia
    rw[e2];exact k
  ·rintro O H2 Q1 Q2 hq ⟨v1,e1,h⟩
   refine⟨v1,e1,?_⟩;rcases h with⟨i,j,e3,e4,kk,e5,q⟩|⟨d,e,r1,r2,s1,s2,kk,e5,q⟩
   ·exact .inl ⟨i,j,e3,e4,kk,e5,hq _ _ q⟩
   ·exact .inr ⟨d,e,r1,r2,s1,s2,kk,e5,hq _ _ q⟩
theorem N1:bj ["thing"] ["thing"] (aX EZ):=bw aQ
theorem ZX(F:FA K mg "is_whole" EZ)(B:bE mg):aF P w K mg aA "is_whole" 1 (lJ K):=by
 refine F.has N1 (λvs H Q E h=>?_) (λ_ _ _ _ _ _=>eJ λ_=>rfl) (λf aM A outer s H vs Q E hr h=>?_)
 ·obtain⟨v,T,rfl,_⟩:=h
  rfl
 ·obtain⟨v,T,rfl,ty,k⟩:=h
  have nd:=N1.nd;refine⟨_,(aG (aR (fX (cP K B (au (pv 0) (au (cJ (x:="int") (v:=.ty "int") Z (B.at "int") xA rfl) az))) (gz (vU (cP K B (au (pv 0) (au (cJ (x:="bool") (v:=.ty "bool") rfl (B.at "bool") PyProof.Rows.boot_bool rfl) az)))))))),?_⟩;refine⟨_,Z,.inl ⟨_,T,"int",_,Z,ty,aB,Z,_,Z,?_⟩⟩;unfold jI at k;refine dJ (λhc=>?_) (λhc=>?_)
  ·refine⟨_,Z,.inl ⟨_,T,"bool",_,Z,ty,aB,Z,_,Z,?_⟩⟩
   rw[hc,kz]at k;exact k
  ·rw[Aw.mpr hc,lj]at k
   exact k
open Ln
def hW(ns:List Int)(sp:Int):aj:=.tuple [.str "line",.tuple (ns.map PyData.int),.int sp]
theorem GS(ns:List Int)(sp:Int):dw (hW ns sp)=true:=by simp[hW,dw,bM,kI]
structure fb(ax:Nat)(m:Int)(ns:List Int):Prop where
 len:ns.length=ax
 bd:∀z∈ns,(z.natAbs:Int)<=m
 nz:∃z∈ns,z≠0
theorem fb.lead{ax:Nat}{m:Int}{ns:List Int}(h:fb ax m ns):0<aI ns/\(aI ns:Int)<=m:=by
 refine⟨a2b h.nz,?_⟩;have hm:0<=m:=by obtain⟨z,hz,_⟩:=h.nz;have:=h.bd z hz;lia
 have:=nT (ns:=ns) (m:=m.toNat) λz hz=>by have:=h.bd z hz;lia
 lia
theorem fb.ne{ax:Nat}{m:Int}{ns:List Int}(h:fb ax m ns):ns≠[]:=by obtain⟨z,hz,_⟩:=h.nz;intro e;subst e;cases hz
theorem lP{H:Hp}{v:V}{ns:List Int}{sp:Int}(h:RD K H v (hW ns sp)):∃a b,v= .ref a/\aU K H a [.str "line",.ref b,.int sp]/\aU K H b (ns.map V.int):=by obtain⟨a,xs,rfl,h1,h2⟩:=h.cB;obtain⟨x1,r1,rfl,e1,h2⟩:=h2.cons_inv;obtain⟨x2,r2,rfl,e2,h2⟩:=h2.cons_inv;obtain⟨x3,r3,rfl,e3,h2⟩:=h2.cons_inv;cases h2.nil_inv;cases e1.str_inv;cases e3.int_inv;obtain⟨b,ys,rfl,h3,h4⟩:=e2.cB;rw[h4.hZ]at h3;exact⟨a,b,Z,h1,h3⟩
inductive a9N(K:ag)(vs:List V)(H:Hp)(Q:VK):Prop |mk (v:_)(ns:_)(sp:_)(h0:vs=[v])(h1:RD K H v (hW ns sp))(h2:ns≠[])(h3:ns.length<=1000)(h4:∀H',aH H H'->Q (.int (aI ns)) H')
def kE(K:ag):Sp:=λvs H Q _=>a9N K vs H Q
theorem nO{ns:List Int}{f:Int->aj}{i:Nat}{d:aj}(h:(ns.map f)[i]? =some d):∃n,ns[i]? =some n/\f n=d:=by rw[bX]at h;cases e:ns[i]? with |none=>rw[e]at h;cases h |some n=>rw[e]at h;exact⟨n,Z,eO h⟩
theorem yL{ns:List Int}{i:Nat}{x:V}{n:Int}(h:(ns.map V.int)[i]? =some x)(e:ns[i]? =some n):x= .int n:=by rw[bX,e]at h;exact(eO h).symm
theorem MT:bj ["_law_line_here"] ["_law_line_here"] (aX ER):=bw aQ
theorem ZV(F:FA K mg "_law_lead" ER)(B:bE mg):aF P w K mg aA "_law_lead" 1 (kE K):=by
 refine F.has MT (λvs H Q E h=>?_) (λ_ _ _ _ _ _=>eJ λ_=>rfl) (λf aM A outer s H vs Q E hr h=>?_)
 ·obtain⟨v,ns,sp,rfl,_⟩:=h
  rfl
 ·obtain⟨v,ns,sp,rfl,rd,dH,hz,k⟩:=h
  have nd:=MT.nd;obtain⟨a,b,rfl,ha,hb⟩:=lP rd;refine⟨_,(aG (aR (eD (x:="max") (GF K Z Z) Z (B.at "max") JX (au (fS (N:=["_law_step"]) (js:=[none]) rfl rfl rfl (mC K rfl (px K (pv 0) aD)) (λ_ _ _ _ _=>(aY 0 (rj _))) (λ_ _ _ _ _=>fm) (λ_ _ _ _ _=>(eD (x:="abs") oo rfl (B.at "abs") qz (au (pv 0) az)))) az)))),?_⟩;refine⟨_,Z,.inr ⟨a,_,1,.ref b,Z,Z,ha,Z,b,Z,⟨_,hb⟩,λD H0 nw=>?_⟩⟩;refine Cy (K:=K) (xs:=ns.map V.int) (ds:=(ns.map iH).map PyData.int) [] hb nw (by simp) (by simpa using hz) (kI _) ?_ ?_
  ·intro i x d H2 Q' ex ed s2 hq
   obtain⟨m,em,rfl⟩:=nO ed;rw[bX]at em;cases en:ns[i]? with |none=>rw[en]at em;cases em |some n=>rw[en]at em;cases em;cases yL ex en;exact⟨_,Z,n,Z,hq _ _ (aH.refl _) (dN _)⟩
  ·intro H' ys s2 d2 r2
   rw[r2.hZ]at d2;refine⟨D,_,Z,aK.of d2,by simpa using dH,λM h1 h2=>?_⟩;rw[GU dH h1 h2];exact k H' s2
theorem MS:bj ["line"] ["line"] (aX EO):=bw aQ
theorem ZU(F:FA K mg "lead_of" EO)(B:bE mg):aF P w K mg aA "lead_of" 1 (kE K):=by
 refine F.has MS (λvs H Q E h=>?_) (λ_ _ _ _ _ _=>eJ λ_=>rfl) (λf aM A outer s H vs Q E hr h=>?_)
 ·obtain⟨v,ns,sp,rfl,_⟩:=h
  rfl
 ·obtain⟨v,ns,sp,rfl,rd,dH,hz,k⟩:=h
  have nd:=MS.nd;obtain⟨a,b,rfl,ha,hb⟩:=lP rd;refine⟨_,(aG (aR (eD (x:="max") (GF K Z Z) Z (B.at "max") JX (au (fS (N:=["step"]) (js:=[none]) rfl rfl rfl (mC K rfl (px K (pv 0) aD)) (λ_ _ _ _ _=>(aY 0 (rj _))) (λ_ _ _ _ _=>fm) (λ_ _ _ _ _=>(eD (x:="abs") oo rfl (B.at "abs") qz (au (pv 0) az)))) az)))),?_⟩;refine⟨_,Z,.inr ⟨a,_,1,.ref b,Z,Z,ha,Z,b,Z,⟨_,hb⟩,λD H0 nw=>?_⟩⟩;refine Cy (K:=K) (xs:=ns.map V.int) (ds:=(ns.map iH).map PyData.int) [] hb nw (by simp) (by simpa using hz) (kI _) ?_ ?_
  ·intro i x d H2 Q' ex ed s2 hq
   obtain⟨m,em,rfl⟩:=nO ed;rw[bX]at em;cases en:ns[i]? with |none=>rw[en]at em;cases em |some n=>rw[en]at em;cases em;cases yL ex en;exact⟨_,Z,n,Z,hq _ _ (aH.refl _) (dN _)⟩
  ·intro H' ys s2 d2 r2
   rw[r2.hZ]at d2;refine⟨D,_,Z,aK.of d2,by simpa using dH,λM h1 h2=>?_⟩;rw[GU dH h1 h2];exact k H' s2
end
end Lw
set_option exponentiation.threshold 6000
namespace Lw
open PySem PySem.Spec PyProof.Rows L2 Rt
section
variable {w:World} {mg:bV} {aA:Heap}
theorem MV:bj ["p","q","divisor"] ["p","q"] (aX ES):=bw aQ
theorem ZL(F:FA K mg "lowest_terms" ES)(B:bE mg)(HF:aF P w K mg aA "common_divisor" 1 B8):aF P w K mg aA "lowest_terms" 2 vD:=by
 refine F.has MV (λvs H Q E h=>?_) (λ_ _ _ _ _ _=>dC λ_ _=>rfl) (λf aM A outer s H vs Q E hr h=>?_)
 ·obtain⟨a,b,rfl,_⟩:=h
  rfl
 ·obtain⟨a,b,rfl,hb,wb,k⟩:=h
  have nd:=MV.nd;have sw:Wd (Ar.sg a b):=xB (Ar.M1 hb) wb;refine⟨_,(aE (pS 2 nd (pf HF hr (au (pv 0) (au (pv 1) az)))) (aE (iM (bp (bG jj (pv 1) aD (aZ _)) (aG (pS 2 nd (mD md (pv 2)))) bA)) (aG (aR (df (au (aO Ov (pv 0) (pv 2)) (au (aO Ov (pv 1) (pv 2)) az))))))),?_⟩;refine⟨_,Z,_,Z,a,b,Z,?_⟩;refine⟨λO H'=>H'=H/\O=[some (.int a),some (.int b),some (.int (Ar.sg a b))],?_,?_⟩
  ·refine⟨_,Z,_,_,Z,Z,_,Z,?_⟩
   refine dJ (λhc=>?_) (λhc=>?_)
   ·have hd:b<0:=jc hc
    refine⟨_,Z,_,Z,?_⟩;refine⟨Z,?_⟩;unfold Ar.sg;rw[bo hd];rfl
   ·have hd:¬b<0:=λz=>hc (cm z)
    refine⟨Z,?_⟩;unfold Ar.sg;rw[bB hd];rfl
  rintro O H' ⟨rfl,rfl⟩;refine⟨_,Z,_,Z,_,_,Z,Z,⟨Ar.y8 hb,sw⟩,_,Z,_,Z,_,_,Z,Z,⟨Ar.y8 hb,sw⟩,(by show 2<=sizeLine;decide),λt H4 nw=>?_⟩;exact k t H4 nw
def bc(K:ag)(H:Hp)(v:V)(r:Rat):Prop:=∃p,v= .ref p/\aU K H p [.int r.num,.int r.den]
theorem bc.go{H H':Hp}{v:V}{r:Rat}(h:bc K H v r)(s:aH H H'):bc K H' v r:=by obtain⟨p,e,q⟩:=h;exact⟨p,e,q.go s⟩
def cD(r:Rat):aj:=.tuple [.int r.num,.int r.den]
theorem bc.rd{H:Hp}{v:V}{r:Rat}(h:bc K H v r):RD K H v (cD r):=by obtain⟨p,rfl,q⟩:=h;exact fA q (cf (dN _) (cf (dN _) cH))
theorem G2(r:Rat):dM 1 (cD r):=gf.tup (.cons (.int _) (.cons (.int _) .nil))
theorem O3(r:Rat):SeqAt.shaped (cD r)=true:=(G2 r).shaped aB
theorem Rj{r s:Rat}(h:r=s):PyData.eqv (cD r) (cD s)=true:=by rw[h];exact(G2 s).refl
theorem iJ{n:Nat}{i:Int}(h:i.natAbs<2^n)(l:n<=5000):Wd i:=fO h (qA aB l)
theorem _root_.Rt.Bd.wn{r:Rat}(h:Bd 2000 r):Wd r.num:=iJ h.num aB
theorem _root_.Rt.Bd.wd{r:Rat}(h:Bd 2000 r):Wd (r.den:Int):=iJ (n:=2000) (by have:=h.den;omega) aB
theorem AH{r s:Rat}(h:Bd 2000 r)(g:Bd 2000 s):Wd ((r.den:Int)*(s.den:Int)):=iJ (n:=4000) (J0 h g) aB
theorem Bo{H':Hp}{t:Addr}{a b:Int}{r:Rat}(hb:b≠0)(e:r=Rat.divInt a b)(h:H' t=some (.tup [.int (Ar.lowP a b),.int (Ar.gB a b)])):bc K H' (.ref t) r:=by obtain⟨e1,e2⟩:=BH (a:=a) hb;rw[e1,e2,<-e]at h;exact⟨t,Z,aU.of h⟩
inductive a9y(op:Rat->Rat->Rat)(K:ag)(vs:List V)(H:Hp)(Q:VK):Prop |mk (v1:_)(v2:_)(r:_)(s:_)(h0:vs=[v1,v2])(h1:bc K H v1 r)(h2:bc K H v2 s)(h3:Bd 2000 r)(h4:Bd 2000 s)(h5:∀v H',bc K H' v (op r s)->aH H H'->Q v H')
def nI(op:Rat->Rat->Rat)(K:ag):Sp:=λvs H Q _=>a9y op K vs H Q
theorem MJ:bj ["one","other","p","q","r","s"] ["one","other"] (aX EF):=bw aQ
theorem ZI(F:FA K mg "minus" EF)(B:bE mg)(uv:aF P w K mg aA "lowest_terms" 2 vD):aF P w K mg aA "minus" 3 (nI (·-·) K):=by
 refine F.has MJ (λvs H Q E h=>?_) (λ_ _ _ _ _ _=>dC λ_ _=>rfl) (λf aM A outer s H vs Q E hr h=>?_)
 ·obtain⟨v1,v2,r,s,rfl,_⟩:=h
  rfl
 ·obtain⟨v1,v2,r,s,rfl,⟨p,rfl,hp⟩,⟨q,rfl,hq⟩,br,bs,k⟩:=h
  have nd:=MJ.nd;refine⟨_,(aE (eU (pv 0) (cW K Z (n:=2) Z (bC (aY 2 nd) (bC (aY 3 nd) cV)))) (aE (eU (pv 1) (cW K Z (n:=2) Z (bC (aY 4 nd) (bC (aY 5 nd) cV)))) (aG (aR (pf uv hr (au (aO gM (aO bO (pv 2) (pv 5)) (aO bO (pv 4) (pv 3))) (au (aO bO (pv 3) (pv 5)) az))))))),?_⟩;refine⟨_,Z,_,_,Z,hp,Z,_,_,Z,_,_,Z,Z,?_⟩;refine⟨_,Z,_,_,Z,hq,Z,_,_,Z,_,_,Z,Z,?_⟩;refine⟨_,Z,_,Z,_,_,Z,Z,iy br.wn.bits bs.wd.bits,_,Z,_,Z,_,_,Z,Z,iy bs.wn.bits br.wd.bits,_,_,Z,Z,_,Z,_,Z,_,_,Z,Z,iy br.wd.bits bs.wd.bits,?_⟩;exact⟨_,_,Z,qi r s,AH br bs,λt H' nw=>k _ _ (Bo (qi r s) (W3 r s) nw.at') nw.same⟩
theorem xr_dvd {a : Int} {b : Nat} {x : Rat} (hb : b ≠ 0) (hx : Rat.divInt a b = x) : ∃ g, a = x.num * g ∧ (b : Int) = x.den * g := by
  obtain ⟨g, _, p⟩ := Rat.divInt_num_den (z' := x.den_nz) (c := x.reduced) (by omega) hx
  exact ⟨g, p⟩
theorem xr_mul {r s x y : Rat} (hx : Rat.divInt r.num s.den = x) (hy : Rat.divInt s.num r.den = y) (m : r * s = Rat.divInt (r.num * s.num) (r.den * s.den)) : x.num * y.num = (r * s).num ∧ (y.den : Int) * x.den = (r * s).den := by
  obtain ⟨g, h1, h2⟩ := xr_dvd s.den_nz hx
  obtain ⟨h, h3, h4⟩ := xr_dvd r.den_nz hy
  have w : ∀ {q : Rat} {a b g h : Int}, q.num = a * g → q.den = b * h → a.natAbs.Coprime b.natAbs := fun {q a b g h} p z => by
    have c : Int.gcd q.num q.den = 1 := q.reduced
    rw [p, z, Int.gcd_eq_natAbs_gcd_natAbs, Int.natAbs_mul, Int.natAbs_mul] at c
    exact Nat.Coprime.coprime_mul_right_right (Nat.Coprime.coprime_mul_right c)
  have c : (x.num * y.num).natAbs.gcd (x.den * y.den) = 1 := by
    rw [Int.natAbs_mul]; exact Nat.Coprime.mul_left (Nat.Coprime.mul_right x.reduced (w h1 h4)) (Nat.Coprime.mul_right (w h3 h2) y.reduced)
  have e : r * s = x * y := by rw [m, ← hx, ← hy, Rat.divInt_mul_divInt, Int.mul_comm (s.den : Int)]
  rw [e, Rat.num_mul, Rat.den_mul, c, Nat.div_one, Nat.mul_comm x.den]
  exact ⟨(Int.ediv_one _).symm, rfl⟩
theorem Me:bj ["one","other","p","s","r","q"] ["one","other"] (aX DZ):=bw aQ
theorem Z1(F:FA K mg "times" DZ)(B:bE mg)(uv:aF P w K mg aA "lowest_terms" 2 vD):aF P w K mg aA "times" 3 (nI (·*·) K):=by
 refine F.has Me (λvs H Q E h=>?_) (λ_ _ _ _ _ _=>dC λ_ _=>rfl) (λf aM A outer s H vs Q E hr h=>?_)
 ·obtain⟨v1,v2,r,s,rfl,_⟩:=h
  rfl
 ·obtain⟨v1,v2,r,s,rfl,⟨p,rfl,hp⟩,⟨q,rfl,hq⟩,br,bs,k⟩:=h
  have nd:=Me.nd;have nr:=Int.ne_of_gt (den_pos r);have ns:=Int.ne_of_gt (den_pos s)
  refine ⟨_,(aE (eU (pf uv hr (au (px K (pv 0) aD) (au (px K (pv 1) aD) az))) (cW K Z (n:=2) Z (bC (aY 2 nd) (bC (aY 3 nd) cV)))) (aE (eU (pf uv hr (au (px K (pv 1) aD) (au (px K (pv 0) aD) az))) (cW K Z (n:=2) Z (bC (aY 4 nd) (bC (aY 5 nd) cV)))) (aG (aR (df (au (aO bO (pv 2) (pv 4)) (au (aO bO (pv 5) (pv 3)) az))))))),?_⟩
  refine ⟨_,rfl,Or.inr ⟨_,_,_,_,rfl,rfl,hp,rfl,_,rfl,Or.inr ⟨_,_,_,_,rfl,rfl,hq,rfl,_,_,rfl,ns,bs.wd,fun t1 H1 n1=>?_⟩⟩⟩
  obtain ⟨_,e,g1⟩:=Bo ns rfl n1.at';cases e
  refine ⟨_,_,rfl,g1,rfl,_,_,rfl,_,_,rfl,rfl,?_⟩
  refine ⟨_,rfl,Or.inr ⟨_,_,_,_,rfl,rfl,hq.go n1.same,rfl,_,rfl,Or.inr ⟨_,_,_,_,rfl,rfl,hp.go n1.same,rfl,_,_,rfl,nr,br.wd,fun t2 H2 n2=>?_⟩⟩⟩
  obtain ⟨_,e,g2⟩:=Bo nr rfl n2.at';cases e
  refine ⟨_,_,rfl,g2,rfl,_,_,rfl,_,_,rfl,rfl,?_⟩
  have b1:Bd 2000 _:=lN ns br.num (by have:=bs.den;omega)
  have b2:Bd 2000 _:=lN nr bs.num (by have:=br.den;omega)
  refine ⟨_,rfl,_,rfl,_,_,rfl,rfl,iy b1.wn.bits b2.wn.bits,_,rfl,_,rfl,_,_,rfl,rfl,iy b2.wd.bits b1.wd.bits,bR Z,fun t H' n=>k _ _ ⟨t,rfl,aU.of ?_⟩ (n1.same.trans (n2.same.trans n.same))⟩
  obtain ⟨e1,e2⟩:=xr_mul rfl rfl (mul_div r s)
  rw [← e1,← e2]; exact n.at'
inductive a9L(K:ag)(vs:List V)(H:Hp)(Q:VK):Prop |mk (v1:_)(v2:_)(r:_)(s:_)(h0:vs=[v1,v2])(h1:bc K H v1 r)(h2:bc K H v2 s)(h3:Bd 2000 r)(h4:Bd 2000 s)(h5:Q (.bl (decide (r<s))) H)
def lH(K:ag):Sp:=λvs H Q _=>a9L K vs H Q
theorem MQ:bj ["one","other","p","q","r","s"] ["one","other"] (aX EM):=bw aQ
theorem ZS(F:FA K mg "is_less" EM)(B:bE mg):aF P w K mg aA "is_less" 1 (lH K):=by
 refine F.has MQ (λvs H Q E h=>?_) (λ_ _ _ _ _ _=>dC λ_ _=>rfl) (λf aM A outer s H vs Q E hr h=>?_)
 ·obtain⟨v1,v2,r,s,rfl,_⟩:=h
  rfl
 ·obtain⟨v1,v2,r,s,rfl,⟨p,rfl,hp⟩,⟨q,rfl,hq⟩,br,bs,k⟩:=h
  have nd:=MQ.nd;refine⟨_,(aE (eU (pv 0) (cW K Z (n:=2) Z (bC (aY 2 nd) (bC (aY 3 nd) cV)))) (aE (eU (pv 1) (cW K Z (n:=2) Z (bC (aY 4 nd) (bC (aY 5 nd) cV)))) (aG (aR (eB jj (aO bO (pv 2) (pv 5)) (aO bO (pv 4) (pv 3)) (aZ _)))))),?_⟩;refine⟨_,Z,_,_,Z,hp,Z,_,_,Z,_,_,Z,Z,?_⟩;refine⟨_,Z,_,_,Z,hq,Z,_,_,Z,_,_,Z,Z,?_⟩;refine⟨_,Z,_,Z,_,_,Z,Z,iy br.wn.bits bs.wd.bits,_,Z,_,Z,_,_,Z,Z,iy bs.wn.bits br.wd.bits,_,_,Z,Z,?_⟩;have e:decide (r.num*(s.den:Int)<s.num*(r.den:Int))=decide (r<s):=by rw[oM,JM,JM,CY]
  show Q (.bl (decide (r.num*(s.den:Int)<s.num*(r.den:Int)))) H;rw[e];exact k
def eK(K:ag)(H:Hp):List V->List Rat->Prop |[],[]=>True |v::vs,r::rs=>bc K H v r/\Bd 2000 r/\eK K H vs rs |_,_=>False
theorem eK.go{H H':Hp}(s:aH H H'):∀{vs:List V}{rs:List Rat},eK K H vs rs->eK K H' vs rs |[],[],_=>trivial |v::vs,r::rs,h=>⟨h.1.go s,h.2.1,eK.go s h.2.2⟩ |[],_::_,h=>h.elim |_::_,[],h=>h.elim
theorem eK.length{H:Hp}:∀{vs:List V}{rs:List Rat},eK K H vs rs->vs.length=rs.length |[],[],_=>rfl |v::vs,r::rs,h=>by rw[jQ,jQ,eK.length h.2.2] |[],_::_,h=>h.elim |_::_,[],h=>h.elim
theorem eK.get{H:Hp}:∀{vs:List V}{rs:List Rat}{i:Nat}{v:V},eK K H vs rs->vs[i]? =some v->∃r,rs[i]? =some r/\bc K H v r/\Bd 2000 r
 |[],[],i,v,_,e=>by simp at e |v::vs,r::rs,0,v',h,e=>by
  have e':v=v':=by simpa using e
  subst e';exact⟨r,Z,h.1,h.2.1⟩ |v::vs,r::rs,i+1,v',h,e=>by obtain⟨r',e1,q⟩:=eK.get h.2.2 (show vs[i]? =some v' by simpa using e);exact⟨r',by simpa using e1,q⟩ |[],_::_,_,_,h,_=>h.elim |_::_,[],_,_,h,_=>h.elim
inductive a9M(K:ag)(vs:List V)(H:Hp)(Q:VK):Prop |mk (l:_)(xs:_)(rs:_)(h0:vs=[.ref l])(h1:aK K H l xs)(h2:eK K H xs rs)(h3:xs≠[])(h4:∀(i:Nat)(v:V)(r:Rat),xs[i]? =some v->rs[i]? =some r->(∀s∈rs,r<=s)->Q v H)
def kD(K:ag):Sp:=λvs H Q _=>a9M K vs H Q
theorem MR:bj ["some","best","one"] ["some"] (aX EN):=bw aQ
theorem ZT(F:FA K mg "least" EN)(B:bE mg)(pN:aF P w K mg aA "is_less" 1 (lH K)):aF P w K mg aA "least" 2 (kD K):=by
 refine F.has MR (λvs H Q E h=>?_) (λ_ _ _ _ _ _=>eJ λ_=>rfl) (λf aM A outer s H vs Q E hr h=>?_)
 ·obtain⟨l,xs,rs,rfl,_⟩:=h
  rfl
 ·obtain⟨l,xs,rs,rfl,hl,pJ,dH,k⟩:=h
  have nd:=MR.nd;refine⟨_,(aE (pS 1 nd (px K (pv 0) aD)) (aE (gJ fe Z (p8 K Z (pv 0)) (aY 2 nd) (aG (bp (bU (pf pN hr (au (pv 2) (au (pv 1) az)))) (aG (pS 1 nd (pv 2))) bA))) (aG (aR (pv 1))))),?_⟩;have hlen:=pJ.length;have h0:0<xs.length:=Ao.mpr dH;have e0:=bu h0;refine⟨_,Z,.inl ⟨l,xs,0,xs[0],Z,Z,hl,cL aB e0,?_⟩⟩;refine⟨_,Z,l,Z,⟨_,hl⟩,zu (K:=K) (a:=l) (xs:=xs) (λi O H2=>H2=H/\∃(j:Nat)(b:V)(r:Rat)(v:Option V),xs[j]? =some b/\rs[j]? =some r/\(∀(m:Nat)(s:Rat),m<i->rs[m]? =some s->r<=s)/\O=[some (.ref l),some b,v]) ?_ (λi O H2 _ h=>by rw[h.1];exact hl) ?_ ?_⟩
  ·obtain⟨r,e1,_⟩:=pJ.get e0
   exact⟨Z,0,_,r,none,e0,e1,λm s hm=>absurd hm (Nat.not_lt_zero _),Z⟩
  ·rintro i x O H2 hx ⟨rfl,j,b,r,v,eb,er,hm,rfl⟩
   obtain⟨t,et,rt,bt⟩:=pJ.get hx;obtain⟨r2,zx,rb,bb⟩:=pJ.get eb;rw[er]at zx;cases zx;refine⟨_,Z,_,Z,x,b,t,r,Z,rt,rb,bt,bb,_,Z,?_⟩;refine dJ (λhc=>?_) (λhc=>?_)
   ·have bP:t<r:=jc hc
    refine⟨_,Z,?_⟩;refine⟨Z,i,x,t,_,hx,et,λm s uu es=>?_,Z⟩;rcases JZ.mp uu with h|h
    ·exact cy (Ad bP) (hm m s h es)
    ·subst h
     rw[et]at es;cases es;exact iI
   ·have Hu:¬t<r:=λz=>hc (cm z)
    refine⟨Z,j,b,r,_,eb,er,λm s uu es=>?_,Z⟩;rcases JZ.mp uu with h|h
    ·exact hm m s h es
    ·subst h
     rw[et]at es;cases es;exact oF.mp Hu
  ·rintro O H2 ⟨rfl,j,b,r,v,eb,er,hm,rfl⟩
   refine⟨_,Z,k j b r eb er λs hs=>?_⟩;obtain⟨m,rL,em⟩:=Uj.mp hs;exact hm m s aw (by rw[bu rL,em])
inductive a9G(K:ag)(vs:List V)(H:Hp)(Q:VK):Prop |mk (a:_)(b:_)(h0:vs=[.int a,.int b])(h1:b≠0)(h2:Wd b)(h3:∀v H',bc K H' v (Rat.divInt a b)->aH H H'->Q v H')
def vC(K:ag):Sp:=λvs H Q _=>a9G K vs H Q
theorem Na:bj ["p","q"] ["p","q"] (aX Fe):=bw aQ
theorem a09(F:FA K mg "fraction" Fe)(B:bE mg)(mQ:aF P w K mg aA "is_whole" 1 (lJ K))(uv:aF P w K mg aA "lowest_terms" 2 vD):aF P w K mg aA "fraction" 3 (vC K):=by
 refine F.has Na (λvs H Q E h=>?_) (λ_ _ _ _ _ _=>dC λ_ _=>rfl) (λf aM A outer s H vs Q E hr h=>?_)
 ·obtain⟨a,b,rfl,_⟩:=h
  rfl
 ·obtain⟨a,b,rfl,hb,wb,k⟩:=h
  have nd:=Na.nd;refine⟨_,(aE (bp (PW.pt (fQ (cU (bU (pf mQ hr (au (pv 0) az)))) (iY (cU (bU (pf mQ hr (au (pv 1) az))))))) (aG jW) bA) (aE (bp (bG (cI K Z hr.units) (pv 1) aD (aZ _)) (aG jW) bA) (aG (aR (pf uv hr (au (pv 0) (au (pv 1) az))))))),?_⟩;have iw:jI "int"=true:=by decide
  refine⟨_,Z,_,"int",Z,Z,_,Z,?_⟩;rw[iw];refine aW ?_;refine⟨_,Z,_,"int",Z,Z,_,Z,?_⟩;rw[iw];refine aW ?_;refine⟨_,Z,.inl ⟨_,_,Z,Z,_,Z,?_⟩⟩;rw[dF hb];refine aW ?_;exact⟨_,Z,_,Z,_,_,Z,hb,wb,λt H' nw=>k _ _ (Bo hb Z nw.at') nw.same⟩
inductive a9R(K:ag)(vs:List V)(H:Hp)(Q:VK):Prop |mk (v:_)(r:_)(h0:vs=[v])(h1:bc K H v r)(h2:Q (.bl true) H)
def LN(K:ag):Sp:=λvs H Q _=>a9R K vs H Q
theorem N7:bj ["thing","p","q"] ["thing"] (aX F8):=bw aQ
theorem a00(F:FA K mg "is_fraction" F8)(B:bE mg)(mQ:aF P w K mg aA "is_whole" 1 (lJ K))(HF:aF P w K mg aA "common_divisor" 1 B8):aF P w K mg aA "is_fraction" 2 (LN K):=by
 refine F.has N7 (λvs H Q E h=>?_) (λ_ _ _ _ _ _=>eJ λ_=>rfl) (λf aM A outer s H vs Q E hr h=>?_)
 ·obtain⟨v,r,rfl,_⟩:=h
  rfl
 ·obtain⟨v,r,rfl,⟨p,rfl,hp⟩,k⟩:=h
  have nd:=N7.nd;refine⟨_,(aE (bp (PW.pt (fQ (cU (bU (cP K B (au (pv 0) (au (cJ (x:="tuple") (v:=.ty "tuple") Z (B.at "tuple") fh rfl) az))))) (iY (bG (gO K rfl hr.units) (dk K B (au (pv 0) az)) aD (aZ _))))) (aG (aR iO)) bA) (aE (eU (pv 0) (cW K Z (n:=2) Z (bC (aY 1 nd) (bC (aY 2 nd) cV)))) (aE (bp (PW.pt (fQ (cU (bU (pf mQ hr (au (pv 1) az)))) (iY (cU (bU (pf mQ hr (au (pv 2) az))))))) (aG (aR iO)) bA) (aG (aR (fX (eB mE (pv 2) aD (aZ _)) (gz (eB (cI K Z hr.units) (pf HF hr (au (pv 1) (au (pv 2) az))) aD (aZ _))))))))),?_⟩;have iw:jI "int"=true:=by decide
  have nA:gq "tuple" "tuple"=true:=by decide
  refine⟨_,Z,.inl ⟨_,"tuple","tuple",true,Z,.inr ⟨Z,_,hp⟩,aB,nA,_,Z,aW ?_⟩⟩;refine⟨_,Z,p,_,Z,.inr hp,.inl ⟨_,_,Z,Z,_,Z,aW ?_⟩⟩;refine⟨_,Z,p,_,Z,hp,Z,_,_,Z,_,_,Z,Z,?_⟩;refine⟨_,Z,_,"int",Z,Z,_,Z,?_⟩;rw[iw];refine aW ?_;refine⟨_,Z,_,"int",Z,Z,_,Z,?_⟩;rw[iw];refine aW ?_;refine⟨_,Z,_,_,Z,Z,_,Z,?_⟩;rw[cm (den_pos r)];refine bK ?_;refine⟨_,Z,_,Z,_,_,Z,.inl ⟨_,_,Z,Z,?_⟩⟩;rw[cop r];exact k
open Ln
def fE(rs:List Int)(r f j t:Int):aj:=.tuple [.tuple (rs.map PyData.int),.int r,.int f,.int j,.int t]
theorem nP(rs:List Int)(r f j t:Int):dw (fE rs r f j t)=true:=by simp[fE,dw,bM,kI]
theorem mH{H:Hp}{v:V}{rs:List Int}{r f j t:Int}(h:RD K H v (fE rs r f j t)):∃a b,v= .ref a/\aU K H a [.ref b,.int r,.int f,.int j,.int t]/\aU K H b (rs.map V.int):=by obtain⟨a,xs,rfl,h1,h2⟩:=h.cB;obtain⟨x1,r1,rfl,e1,h2⟩:=h2.cons_inv;obtain⟨x2,r2,rfl,e2,h2⟩:=h2.cons_inv;obtain⟨x3,r3,rfl,e3,h2⟩:=h2.cons_inv;obtain⟨x4,r4,rfl,e4,h2⟩:=h2.cons_inv;obtain⟨x5,r5,rfl,e5,h2⟩:=h2.cons_inv;cases h2.nil_inv;cases e2.int_inv;cases e3.int_inv;cases e4.int_inv;cases e5.int_inv;obtain⟨b,ys,rfl,h3,h4⟩:=e1.cB;rw[h4.hZ]at h3;exact⟨a,b,Z,h1,h3⟩
structure iT(rs:List Int)(r f j t:Int):Prop where
 len:rs.length=2\/rs.length=3
 rl:∀z∈rs,1<=z/\z<=100
 r1:1<=r/\r<=50
 f1:1<=f/\f<=50
 j1:1<=j/\j<=50
 t1:1<=t/\t<=100
inductive a9H(K:ag)(vs:List V)(H:Hp)(Q:VK):Prop |mk (p:_)(h0:vs=[.ref p])(h1:gh H p)(h2:∀v rs r f j t H',RD K H' v (fE rs r f j t)->iT rs r f j t->bF p H H'->Q v H')
def LM(K:ag):Sp:=λvs H Q _=>a9H K vs H Q
theorem ML:bj ["_law_bag_here","_law_kind","_law_most","_law_rails"] ["_law_bag_here"] (aX EH):=bw aQ
theorem ZK(F:FA K mg "_law_machine" EH)(B:bE mg)(dA:aF P w K mg aA "_law_take" 1 mi):aF P w K mg aA "_law_machine" 2 (LM K):=by
 refine F.has ML (λvs H Q E h=>?_) (λ_ _ _ _ _ _=>eJ λ_=>rfl) (λf aM A outer s H vs Q E hr h=>?_)
 ·obtain⟨p,rfl,_⟩:=h
  rfl
 ·obtain⟨p,rfl,bg,k⟩:=h
  have nd:=ML.nd;refine⟨_,(aE (pS 1 nd (pf dA hr (au (pv 0) (au aD az)))) (aE (pS 2 nd (px K (dj (au aD (au aD (au aD (au aD (au aD (au aD (au aD (au aD az))))))))) (pv 1))) (aE (pS 3 nd (gL (x:="tuple") (me K Z) Z (B.at "tuple") fh (au (fS (N:=["_law_axis","_law_bag_here","_law_most"]) (js:=[none,some 0,some 2]) rfl rfl rfl (p7 rfl (B.at "range") (au (aO cQ aD (pf dA hr (au (pv 0) (au aD az)))) az)) (λ_ _ _ _ _=>(aY 0 (show List.Nodup (["_law_axis","_law_bag_here","_law_most"]:List Str) by decide+kernel))) (λ_ _ _ _ _=>fm) (λ_ _ _ _ _=>(aO cQ aD (pf dA hr (au (pv 1) (au (pv 2) az)))))) az))) (aE (bp (bG (cI K Z hr.units) (pv 1) aD (aZ _)) (aG (aR (df (au (pv 3) (au (aO cQ aD (aO bO aD (pf dA hr (au (pv 0) (au aD az))))) (au (aO cQ aD (aO bO aD (pf dA hr (au (pv 0) (au aD az))))) (au (aO cQ aD (aO bO aD (pf dA hr (au (pv 0) (au aD az))))) (au aD az)))))))) bA) (aG (aR (df (au (pv 3) (au (aO cQ aD (pf dA hr (au (pv 0) (au aD az)))) (au (aO cQ aD (pf dA hr (au (pv 0) (au aD az)))) (au (aO cQ aD (pf dA hr (au (pv 0) (au aD az)))) (au (aO cQ aD (pf dA hr (au (pv 0) (au aD az)))) az)))))))))))),?_⟩;refine⟨_,Z,p,8,Z,bg,aB,aB,λkd H1 k0 k1 b1=>?_⟩;refine⟨bR Z,λl H2 nw=>?_⟩;have b2:bF p H1 H2:=.fH b1.bI nw.same;obtain⟨uL,mf,ef⟩:=a2F [100,100,100,60,60,20,5,100] k0 k1;have f1:1<=uL/\uL<=100:=by
   have h:∀z∈([100,100,100,60,60,20,5,100]:List Int),1<=z/\z<=100:=by decide
   exact h uL mf
  refine⟨_,Z,.inl ⟨l,_,_,_,Z,Z,aK.of nw.at',ef,?_⟩⟩;refine⟨_,Z,p,2,Z,b2.bI,aB,aB,λax H3 a0 a1 b3=>?_⟩;refine⟨_,_,Z,Z,_,Z,aw,aw,λD H4 n4=>?_⟩;refine a7J (J:=oz 0 (2+ax).toNat) (p:=p) (H:=H3) (2+ax).toNat _ n4 b3.bI aw (λi=>.int (0+(i:Int))) (λi H5 hi _=>⟨hi,λy H6 ⟨e,q⟩=>⟨e,q⟩⟩) (λH5 _=>bf _) (λz=>1<=z/\z<=100) ?_ ?_
  ·intro i H5 Q' hi b5 hq
   refine⟨_,Z,_,Z,p,uL,Z,b5.bI,f1.1,aw,λd H6 d0 d1 b6=>?_⟩;exact⟨_,_,Z,Z,hq _ _ aw b6⟩
  intro H5 is b5 d5 l5 SS;have sM:=b1.trans (b2.trans (b3.trans b5));refine⟨D,_,Z,.inl ⟨aK.of d5,λq H6 n6=>?_⟩⟩;have b6:bF p H5 H6:=.fH sM.bI n6.same;have q6:aU K H6 q (is.map V.int):=aU.of n6.at';refine⟨_,Z,.inl ⟨_,_,Z,Z,_,Z,?_⟩⟩;refine dJ (λhc=>?_) (λhc=>?_)
  ·refine⟨_,Z,_,Z,p,2,Z,b6.bI,aB,aB,λri H7 Xu Xt b7=>?_⟩
   refine⟨_,_,Z,Z,.of_left (cC aB aB),_,_,Z,Z,?_⟩;refine⟨_,Z,p,2,Z,b7.bI,aB,aB,λfa H8 fa0 fa1 b8=>?_⟩;refine⟨_,_,Z,Z,.of_left (cC aB aB),_,_,Z,Z,?_⟩;refine⟨_,Z,p,2,Z,b8.bI,aB,aB,λju H9 ju0 ju1 b9=>?_⟩;refine⟨_,_,Z,Z,.of_left (cC aB aB),_,_,Z,Z,?_⟩;refine⟨bR Z,λt iu pD=>?_⟩;have CI:bF p H9 iu:=.fH b9.bI pD.same;have SW:=b7.trans (b8.trans (b9.trans CI));have Y1:aU K iu q (is.map V.int):=aU.t (bF.t b6.bI SW) q6;exact k (.ref t) is (1+49*ri) (1+49*fa) (1+49*ju) 100 iu (fA (aU.of pD.at') (cf (fA Y1 (qS is)) (cf (dN _) (cf (dN _) (cf (dN _) (cf (dN _) cH)))))) ⟨aw,SS,aw,aw,aw,aw⟩ (sM.trans (b6.trans SW))
  ·refine⟨_,Z,_,Z,p,50,Z,b6.bI,aB,aB,λri H7 Xu Xt b7=>?_⟩
   refine⟨_,_,Z,Z,?_⟩;refine⟨_,Z,p,50,Z,b7.bI,aB,aB,λfa H8 fa0 fa1 b8=>?_⟩;refine⟨_,_,Z,Z,?_⟩;refine⟨_,Z,p,50,Z,b8.bI,aB,aB,λju H9 ju0 ju1 b9=>?_⟩;refine⟨_,_,Z,Z,?_⟩;refine⟨_,Z,p,100,Z,b9.bI,aB,aB,λti iu ti0 Dr CI=>?_⟩;refine⟨_,_,Z,Z,bR Z,λt ir jm=>?_⟩;have b11:bF p iu ir:=.fH CI.bI jm.same;have SV:=b7.trans (b8.trans (b9.trans (CI.trans b11)));have yf:aU K ir q (is.map V.int):=aU.t (bF.t b6.bI SV) q6;exact k (.ref t) is (1+ri) (1+fa) (1+ju) (1+ti) ir (fA (aU.of jm.at') (cf (fA yf (qS is)) (cf (dN _) (cf (dN _) (cf (dN _) (cf (dN _) cH)))))) ⟨aw,SS,aw,aw,aw,aw⟩ (sM.trans (b6.trans SV))
inductive a9W(K:ag)(vs:List V)(H:Hp)(Q:VK):Prop |mk (a:_)(b:_)(h0:vs=[.int a,.int b])(h1:0<b)(h2:Wd b)(h3:∀v H',bc K H' v (Rat.divInt a b)->aH H H'->Q v H')
def vF(K:ag):Sp:=λvs H Q _=>a9W K vs H Q
theorem N9:bj ["_law_p","_law_q","_law_one","_law_other_here"] ["_law_p","_law_q"] (aX Fd):=bw aQ
theorem a08(F:FA K mg "_law_frac" Fd)(B:bE mg):aF P w K mg aA "_law_frac" 1 (vF K):=by
 refine F.has N9 (λvs H Q E h=>?_) (λ_ _ _ _ _ _=>dC λ_ _=>rfl) (λf aM A outer s H vs Q E hr h=>?_)
 ·obtain⟨a,b,rfl,_⟩:=h
  rfl
 ·obtain⟨a,b,rfl,hb,wb,k⟩:=h
  have nd:=N9.nd;refine⟨_,(aE (p4 (i:=2) (j:=3) Z nd Z Z aB Z Z (au (eD (x:="abs") oo Z (B.at "abs") qz (au (pv 0) az)) (au (pv 1) az)) rfl) (aE (nK fe (bG mE (pv 3) aD (aZ _)) (aG (p4 (i:=2) (j:=3) Z nd Z Z aB Z Z (au (pv 3) (au (aO qY (pv 2) (pv 3)) az)) Z))) (aG (aR (df (au (aO nM (pv 0) (pv 2)) (au (aO nM (pv 1) (pv 2)) az))))))),?_⟩;refine⟨_,Z,_,Z,_,Z,_,_,Z,?_⟩;refine nu (λO H2=>H2=H/\∃(x y:Int),O=[some (.int a),some (.int b),some (.int x),some (.int y)]/\0<=x/\0<=y/\Int.gcd x y=Int.gcd a b) (λO _=>match O with|[_,_,_,some (.int y)]=>y.natAbs|_=>0) ?_ ?_ ?_
  ·refine⟨Z,_,_,Z,by split<;>lia,aw,?_⟩
   have h1:(if a<0 then-a else a).natAbs=a.natAbs:=by split<;>lia
   unfold Int.gcd;rw[h1]
  ·rintro O H2 ⟨rfl,x,y,rfl,x0,y0,e⟩
   refine⟨_,Z,_,_,Z,Z,_,Z,?_⟩;refine dJ (λhc=>?_) (λhc=>?_)
   ·have kK:0<y:=jc hc
    have hy:y≠0:=by lia
    refine⟨_,Z,_,Z,_,Z,_,_,Z,Z,kK,_,_,Z,?_⟩;refine⟨⟨Z,_,_,Z,y0,oK _ hy,(Ar.QN kK).trans e⟩,?_⟩;show(x%y).natAbs<y.natAbs;have:=oK x hy;have:=t7 x kK
    lia
   ·have hy:y=0:=by
     have:¬y>0:=λz=>hc (cm z)
     lia
    subst hy;rw[Int.gcd_zero_right]at e;have ex:x=((Int.gcd a b:Nat):Int):=by lia
    have zj:b≠0:=by lia
    have gp:=Ar.Ce (p:=a) zj;have es:Ar.sg a b=(Int.gcd a b:Int):=by unfold Ar.sg;rw[bB aw]
    have gw:Wd (Int.gcd a b:Int):=by rw[<-es];exact xB (Ar.M1 zj) wb
    obtain⟨e1,e2⟩:=BH (a:=a) zj;have f1:a/(Int.gcd a b:Int)=(Rat.divInt a b).num:=by rw[<-e1];unfold Ar.lowP;rw[es,Ur _ aw]
    have f2:b/(Int.gcd a b:Int)=((Rat.divInt a b).den:Int):=by rw[<-e2];unfold Ar.gB;rw[es,Ur _ aw]
    subst ex;refine⟨_,Z,_,Z,_,_,Z,Z,⟨gp,gw⟩,_,Z,_,Z,_,_,Z,Z,⟨gp,gw⟩,bR Z,λt H6 n6=>?_⟩;have Ta:=n6.at';simp only[f1,f2]at Ta;exact k _ _ ⟨t,Z,aU.of Ta⟩ n6.same
  ·rintro O H2 Q1 Q2 hq ⟨v1,e1,i,j,e3,e4,kk,e5,q⟩
   exact⟨v1,e1,i,j,e3,e4,kk,e5,hq _ _ q⟩
theorem MW:bj ["_law_thing"] ["_law_thing"] (aX ET):=bw aQ
theorem ZN(F:FA K mg "_law_number" ET)(B:bE mg):aF P w K mg aA "_law_number" 1 (lJ K):=by
 refine F.has MW (λvs H Q E h=>?_) (λ_ _ _ _ _ _=>eJ λ_=>rfl) (λf aM A outer s H vs Q E hr h=>?_)
 ·obtain⟨v,T,rfl,_⟩:=h
  rfl
 ·obtain⟨v,T,rfl,ty,k⟩:=h
  have nd:=MW.nd;refine⟨_,(aG (aR (fX (cP K B (au (pv 0) (au (cJ (x:="int") (v:=.ty "int") Z (B.at "int") xA rfl) az))) (gz (vU (cP K B (au (pv 0) (au (cJ (x:="bool") (v:=.ty "bool") rfl (B.at "bool") PyProof.Rows.boot_bool rfl) az)))))))),?_⟩;refine⟨_,Z,.inl ⟨_,T,"int",_,Z,ty,aB,Z,_,Z,?_⟩⟩;unfold jI at k;refine dJ (λhc=>?_) (λhc=>?_)
  ·refine⟨_,Z,.inl ⟨_,T,"bool",_,Z,ty,aB,Z,_,Z,?_⟩⟩
   rw[hc,kz]at k;exact k
  ·rw[Aw.mpr hc,lj]at k
   exact k
theorem Kt:gq "tuple" "tuple"=true:=by decide
theorem Kw:gq "list" "list"=true:=by decide
abbrev Itm:=Option (List Int × Int)
def itR(d:aj)(o:Itm):Prop:=(∃ns sp,d=hW ns sp/\o=some (ns,sp))\/∃w x,d= .tuple [.str w,x]/\(w="wait"\/w="tool"\/w="mark")/\dw x=true/\o=none
theorem itR.no{d:aj}{o:Itm}(h:itR d o):dw d=true:=by
 rcases h with⟨ns,sp,rfl,_⟩|⟨w,x,rfl,_,h,_⟩
 ·exact GS _ _
 ·simp[dw,bM,h]
theorem BR{H:Hp}{v:V}{d:aj}{o:Itm}(h:RD K H v d)(i:itR d o):∃a w ys,v= .ref a/\aU K H a (.str w::ys)/\(PyData.eqv (.str w) (.str "line")=o.isSome)/\SeqAt.shaped (.str w)=true:=by
 rcases i with⟨ns,sp,rfl,rfl⟩|⟨w,x,rfl,hw,_,rfl⟩
 ·obtain⟨a,b,rfl,h1,_⟩:=lP h
  exact⟨a,_,_,Z,h1,(by show PyData.eqv (.str "line") (.str "line")=true;decide+kernel),aQ⟩
 ·obtain⟨a,xs,rfl,h1,h2⟩:=h.cB
  obtain⟨x1,r1,rfl,e1,h2⟩:=h2.cons_inv;cases e1.str_inv;refine⟨a,w,r1,Z,h1,?_,?_⟩
  ·show PyData.eqv (.str w) (.str "line")=false
   rcases hw with rfl|rfl|rfl<;>decide+kernel
  ·rcases hw with rfl|rfl|rfl<;>decide+kernel
theorem BL:SeqAt.shaped (.str "line")=true:=by decide+kernel
theorem jH{d:aj}{ns:List Int}{sp:Int}(h:itR d (some (ns,sp))):d=hW ns sp:=by
 rcases h with⟨fJ,iK,e1,e2⟩|⟨_,_,_,_,_,e2⟩
 ·cases e2;exact e1
 ·cases e2
structure cw(ax:Nat)(ds:List aj)(os:List Itm):Prop where
 len:ds.length=os.length
 it:∀(i:Nat)(d:aj)(o:Itm),ds[i]? =some d->os[i]? =some o->itR d o
 ok:∀(i:Nat)(ns:List Int)(sp:Int),os[i]? =some (some (ns,sp))->fb ax 100 ns/\1<=sp/\sp<=20
theorem cw.nil{ax:Nat}:cw ax [] []:=⟨Z,λi d o e=>by simp at e,λi ns sp e=>by simp at e⟩
theorem qL{α:Type}{xs:List α}{x y:α}{j:Nat}(e:(xs++[x])[j]? =some y):xs[j]? =some y\/(j=xs.length/\y=x):=by
 by_cases hj:j<xs.length
 ·rw[kZ hj]at e;exact .inl e
 ·have uw:j=xs.length:=by
   have:=(cv.mp e).1;rw[cE]at this;have:j<xs.length+1:=this
   lia
  rw[uw,m9 (bf _),Ah]at e;exact .inr ⟨uw,(eO e).symm⟩
theorem cw.snoc{ax:Nat}{ds:List aj}{os:List Itm}{d:aj}{o:Itm}(h:cw ax ds os)(i:itR d o)(g:∀ns sp,o=some (ns,sp)->fb ax 100 ns/\1<=sp/\sp<=20):cw ax (ds++[d]) (os++[o]):=by
 have hl:=h.len;refine⟨by rw[cE,cE,h.len];rfl,λj d' o' e1 e2=>?_,λj ns sp e=>?_⟩
 ·rcases qL e1 with e1|⟨j1,rfl⟩
  ·rcases qL e2 with e2|⟨j2,rfl⟩
   ·exact h.it j d' o' e1 e2
   ·have:=(cv.mp e1).1;lia
  ·rcases qL e2 with e2|⟨j2,rfl⟩
   ·have:=(cv.mp e2).1;lia
   ·exact i
 ·rcases qL e with e|⟨_,e⟩
  ·exact h.ok j ns sp e
  ·exact g ns sp e.symm
theorem cw.no{ax:Nat}{ds:List aj}{os:List Itm}(h:cw ax ds os):bM ds=true:=cu.mpr λd hd=>by obtain⟨i,hi⟩:=vo.mp hd;have hl:=(cv.mp hi).1;exact(h.it i d _ hi (bu (by rw[<-h.len];exact hl))).no
theorem cw.get{ax:Nat}{ds:List aj}{os:List Itm}(h:cw ax ds os){i:Nat}{d:aj}(e:ds[i]? =some d):∃o,os[i]? =some o/\itR d o:=by have hl:=(cv.mp e).1;have e2:=bu (show i<os.length by rw[<-h.len];exact hl);exact⟨_,e2,h.it i d _ e e2⟩
theorem aJ.xY{H:Hp}{l:Addr}{ys:List V}{y:V}{ds:List aj}{d:aj}(dl:H l=some (.lst ys))(r:aJ K H ys ds)(rd:RD K H y d)(n1:bM ds=true)(n2:dw d=true):aJ K (L2.upd H l (.lst (ys++[y]))) (ys++[y]) (ds++[d]):=by have t:dX H (L2.upd H l (.lst (ys++[y]))):=.gY dl;exact(aJ.t t _ n1 r).append (cf (RD.t t _ n2 rd) cH)
inductive a9T(K:ag)(vs:List V)(H:Hp)(Q:VK):Prop |mk (v:_)(d:_)(o:_)(h0:vs=[v])(h1:RD K H v d)(h2:itR d o)(h3:Q (.bl o.isSome) H)
def qK(K:ag):Sp:=λvs H Q _=>a9T K vs H Q
theorem N0:bj ["item"] ["item"] (aX EY):=bw aQ
theorem a01(F:FA K mg "is_line" EY)(B:bE mg):aF P w K mg aA "is_line" 1 (qK K):=by
 refine F.has N0 (λvs H Q E h=>?_) (λ_ _ _ _ _ _=>eJ λ_=>rfl) (λf aM A outer s H vs Q E hr h=>?_)
 ·obtain⟨v,d,o,rfl,_⟩:=h
  rfl
 ·obtain⟨v,d,o,rfl,ri,it,k⟩:=h
  have nd:=N0.nd;refine⟨_,(aG (aR (eB (cI K Z hr.units) (px K (pv 0) aD) fg (aZ _)))),?_⟩;obtain⟨a,wd,ys,rfl,h1,ew,sw⟩:=BR ri it;refine⟨_,Z,.inr ⟨a,_,0,.str wd,Z,Z,h1,cL (gI 0) Z,.inr ⟨_,_,cT _,cT _,sw,BL,?_⟩⟩⟩;rw[ew];exact k
theorem KY{H:Hp}:∀{xs:List V}{zs:List Str},aJ K H xs (zs.map PyData.str)->xs=zs.map V.str |xs,[],h=>h.nil_inv |xs,n::ns,h=>by obtain⟨y,ys,rfl,h1,h2⟩:=h.cons_inv;rw[h1.str_inv,KY h2];rfl
theorem a8D:jt.cps.toList.length=26:=by decide+kernel
theorem MG:bj ["_law_bag_here","_law_kind","_law_letters"] ["_law_bag_here"] (aX EC):=bw aQ
theorem Jk{α:Type}{xs:List α}{x:α}(h:xs.getLast? =some x):ft xs (-1)=some x:=by
 unfold ft j4;have hl:xs≠[]:=by intro e;rw[e]at h;cases h
 have h0:0<xs.length:=Ao.mpr hl;rw[bB aB,bo aw];rw[Uk]at h;show xs[((-1:Int)+(xs.length:Int)).toNat]? =some x;have e:((-1:Int)+(xs.length:Int)).toNat=xs.length-1:=by lia
 rw[e];exact h
def UH(ns:List Int):aj:=.tuple (ns.map λz=>cD (Rat.divInt z (Ln.aI ns)))
theorem oZ(r:Rat):dw (cD r)=true:=by simp[cD,dw,bM]
theorem OH{α:Type}{f:α->aj}(h:∀a,dw (f a)=true)(l:List α):bM (l.map f)=true:=cu.mpr λd hd=>by obtain⟨a,_,rfl⟩:=fW.mp hd;exact h a
inductive a92(K:ag)(vs:List V)(H:Hp)(Q:VK):Prop |mk (v:_)(ns:_)(sp:_)(h0:vs=[v])(h1:RD K H v (hW ns sp))(h2:fb ns.length 1000 ns)(h3:ns.length<=1000)(h4:∀v' H',RD K H' v' (UH ns)->aH H H'->Q v' H')
def Lk(K:ag):Sp:=λvs H Q _=>a92 K vs H Q
theorem M8:bj ["line","lead"] ["line"] (aX DT):=bw aQ
theorem YW(F:FA K mg "ways_of" DT)(B:bE mg)(mO:aF P w K mg aA "lead_of" 1 (kE K))(rV:aF P w K mg aA "fraction" 3 (vC K)):aF P w K mg aA "ways_of" 4 (Lk K):=by
 refine F.has M8 (λvs H Q E h=>?_) (λ_ _ _ _ _ _=>eJ λ_=>rfl) (λf aM A outer s H vs Q E hr h=>?_)
 ·obtain⟨v,ns,sp,rfl,_⟩:=h
  rfl
 ·obtain⟨v,ns,sp,rfl,rd,ok,hz,k⟩:=h
  have nd:=M8.nd;refine⟨_,(aE (pS 1 nd (pf mO hr (au (pv 0) az))) (aG (aR (gL (x:="tuple") (me K Z) Z (B.at "tuple") fh (au (fS (N:=["step","lead"]) (js:=[none,some 1]) rfl rfl rfl (mC K rfl (px K (pv 0) aD)) (λ_ _ _ _ _=>(aY 0 (fY aB))) (λ_ _ _ _ _=>fm) (λ_ _ _ _ _=>(pf rV hr (au (pv 0) (au (pv 1) az))))) az))))),?_⟩;refine⟨_,Z,v,ns,sp,Z,rd,ok.ne,hz,λH1 s1=>?_⟩;obtain⟨a,b,rfl,ha,hb⟩:=lP (RD.mono s1 _ rd);obtain⟨lp,lm⟩:=ok.lead;refine⟨_,Z,.inr ⟨a,_,1,.ref b,Z,Z,ha,Z,b,Z,⟨_,hb⟩,λD H0 nw=>?_⟩⟩;refine Cy (K:=K) (xs:=ns.map V.int) (ds:=ns.map λz=>cD (Rat.divInt z (Ln.aI ns))) _ hb nw (by simp) (by simpa using hz) (OH (λ_=>oZ _) _) ?_ ?_
  ·intro i x d H2 Q' ex ed s2 hq
   obtain⟨n,en,rfl⟩:=nO ed;cases yL ex en;refine⟨_,Z,_,Z,n,_,Z,cj,iJ (n:=20) cj aB,λv3 H3 r3 s3=>?_⟩;exact hq _ _ s3 r3.rd
  ·intro H' ys s2 d2 r2
   refine⟨D,_,Z,.inl ⟨aK.of d2,λt H4 n4=>?_⟩⟩;exact k _ _ (fA (aU.of n4.at') (aJ.mono n4.same _ r2)) (s1.trans (s2.trans n4.same))
theorem nA:gq "tuple" "tuple"=true:=by decide
theorem UG(d:aj):(∃i,d= .int i/\jI (jS d)=true)\/(jI (jS d)=false/\∀i,d≠ .int i):=by cases d with |int i=>exact .inl ⟨i,Z,by simp[jS];decide⟩ |_=>exact .inr ⟨by simp[jS];decide,λ_ z=>nomatch z⟩
theorem Dn(d:aj):(∃ds,d= .tuple ds)\/(gq (jS d) "tuple"=false/\∀ds,d≠ .tuple ds):=by cases d with |tuple ds=>exact .inl ⟨ds,Z⟩ |_=>exact .inr ⟨by simp[jS];decide,λ_ z=>nomatch z⟩
def fZ(lo hi:Int):aj->Bool | .int i=>decide (lo<=i)&&decide (i<=hi) |_=>false
theorem a2H{lo hi:Int}{d:aj}(h:∀i,d≠ .int i):fZ lo hi d=false:=by cases d<;>first|rfl|exact absurd rfl (h _)
inductive a93(K:ag)(vs:List V)(H:Hp)(Q:VK):Prop |mk (v:_)(d:_)(lo:_)(hi:_)(h0:vs=[v,.int lo,.int hi])(h1:RD K H v d)(h2:Q (.bl (fZ lo hi d)) H)
def tK(K:ag):Sp:=λvs H Q _=>a93 K vs H Q
theorem M9:bj ["thing","low","high"] ["thing","low","high"] (aX DU):=bw aQ
theorem YV(F:FA K mg "is_whole_within" DU)(B:bE mg)(mQ:aF P w K mg aA "is_whole" 1 (lJ K)):aF P w K mg aA "is_whole_within" 2 (tK K):=by
 refine F.has M9 (λvs H Q E h=>?_) (λ_ _ _ _ _ _=>kW λ_ _ _=>rfl) (λf aM A outer s H vs Q E hr h=>?_)
 ·obtain⟨v,d,lo,hi,rfl,_⟩:=h
  rfl
 ·obtain⟨v,d,lo,hi,rfl,rd,k⟩:=h
  have nd:=M9.nd;refine⟨_,(aG (aR (fX (pf mQ hr (au (pv 0) az)) (gz (Yq Bw Bw (pv 1) (pv 0) (pv 2)))))),?_⟩;refine⟨_,Z,_,_,Z,rd.ty,_,Z,?_⟩;rcases UG d with⟨i,rfl,e⟩|⟨e,hn⟩
  ·cases rd.int_inv
   rw[e];refine bK ?_;have k:Q (.bl (decide (lo<=i)&&decide (i<=hi))) H:=k;refine⟨_,Z,_,Z,_,_,Z,Z,_,Z,?_⟩;refine dJ (λhc=>?_) (λhc=>?_)
   ·have kb:decide (lo<=i)=true:=hc
    rw[kb,kz]at k;exact⟨_,Z,_,_,Z,Z,k⟩
   ·have kb:decide (lo<=i)=false:=Aw.mpr hc
    rw[kb,lj]at k;exact k
  ·rw[e]
   refine aW ?_;rw[a2H hn]at k;exact k
open Cn
theorem Kl{ns ms:List Int}{i:Nat}{a b:Int}(h1:ns[i]? =some a)(h2:ms[i]? =some b):(cY ns ms)[i]? =some (a*(aI ms:Int)-b*(aI ns:Int)):=by unfold cY;rw[bX,(K8 (z:=(a,b))).mpr ⟨h1,h2⟩];rfl
def zN(j:Int)(ns ms:List Int):aj:=if aI (cY ns ms)=0 then .none else cD (Rat.divInt ((j*aI ns*aI ms)^2) ((aI (cY ns ms):Int)^2))
inductive aa5(K:ag)(vs:List V)(H:Hp)(Q:VK):Prop |mk (v:_)(v1:_)(v2:_)(rs:_)(r:_)(f:_)(j:_)(t:_)(ns:_)(ms:_)(dZ:_)(eR:_)(h0:vs=[v,v1,v2])(h1:RD K H v (fE rs r f j t))(h2:RD K H v1 (hW ns dZ))(h3:RD K H v2 (hW ms eR))(h4:fb ns.length 1000 ns)(h5:fb ns.length 1000 ms)(h6:ns.length<=1000)(h7:1<=j)(h8:j<=50)(h9:∀v' H',RD K H' v' (zN j ns ms)->aH H H'->Q v' H')
def DL(K:ag):Sp:=λvs H Q _=>aa5 K vs H Q
theorem zip2{ns ms:List Int}(h:ms.length=ns.length){i:Nat}{x y:V}(ex:(ns.map V.int)[i]? =some x)(ey:(ms.map V.int)[i]? =some y):∃a b,ns[i]? =some a/\ms[i]? =some b/\x= .int a/\y= .int b:=by rw[bX]at ex ey;cases e1:ns[i]? with |none=>rw[e1]at ex;cases ex |some a=>cases e2:ms[i]? with |none=>rw[e2]at ey;cases ey |some b=>rw[e1]at ex;rw[e2]at ey;exact⟨a,b,Z,Z,(eO ex).symm,(eO ey).symm⟩
inductive a95(K:ag)(vs:List V)(H:Hp)(Q:VK):Prop |mk (v1:_)(v2:_)(ns:_)(ms:_)(dZ:_)(eR:_)(h0:vs=[v1,v2])(h1:RD K H v1 (hW ns dZ))(h2:RD K H v2 (hW ms eR))(h3:fb ns.length 1000 ns)(h4:fb ns.length 1000 ms)(h5:ns.length<=1000)(h6:∀v' H',bc K H' v' (Rat.divInt (aI (cY ns ms)) ((aI ns:Int)*aI ms))->aH H H'->Q v' H')
def Lm(K:ag):Sp:=λvs H Q _=>a95 K vs H Q
theorem Ma:bj ["one","other","greatest","way","new_way","p","q","difference"] ["one","other"] (aX DV):=bw aQ
theorem YX(F:FA K mg "greatest_turn" DV)(B:bE mg)(Q8:aF P w K mg aA "ways_of" 4 (Lk K))(a3o:aF P w K mg aA "minus" 3 (nI (·-·) K))(pN:aF P w K mg aA "is_less" 1 (lH K)):aF P w K mg aA "greatest_turn" 5 (Lm K):=by
 refine F.has Ma (λvs H Q E h=>?_) (λ_ _ _ _ _ _=>dC λ_ _=>rfl) (λf aM A outer s H vs Q E hr h=>?_)
 ·obtain⟨v1,v2,ns,ms,dZ,eR,rfl,_⟩:=h
  rfl
 ·obtain⟨v1,v2,ns,ms,dZ,eR,rfl,ye,qU,dI,eX,hz,k⟩:=h
  have nd:=Ma.nd;obtain⟨lp1,lm1⟩:=dI.lead;obtain⟨lp2,GQ⟩:=eX.lead;have yU:ms.length<=1000:=by rw[eX.len];exact hz
  have a0t:fb ms.length 1000 ms:=⟨Z,eX.bd,eX.nz⟩;have cb:=Cw (λz hz=>by have:=dI.bd z hz;lia) (λz hz=>by have:=eX.bd z hz;lia) (ns:=ns) (ms:=ms);have L0:(0:Int)<(aI ns:Int)*aI ms:=gX aw aw;have Lb:((aI ns:Int)*aI ms).natAbs<=1000*1000:=kJ aw aw;have ach:(cY ns ms).length=ns.length:=by simp[cY,eX.len]
  have Qu:∀c:Int,c.natAbs<=2000000->Bd 2000 (Rat.divInt c ((aI ns:Int)*aI ms)):=λc hc=>(lN (n:=30) aw aw aw).mono aB;refine⟨_,(aE (pS 2 nd (df (au aD (au aD az)))) (aE (gJ fe Z (jX K Z false false Z (B.at "zip") (au (pf Q8 hr (au (pv 0) az)) (au (pf Q8 hr (au (pv 1) az)) az))) (cW K rfl (n:=2) rfl (bC (aY 3 nd) (bC (aY 4 nd) cV))) (aE (eU (pf a3o hr (au (pv 4) (au (pv 3) az))) (cW K Z (n:=2) Z (bC (aY 5 nd) (bC (aY 6 nd) cV)))) (aE (pS 7 nd (df (au (eD (x:="abs") oo Z (B.at "abs") qz (au (pv 5) az)) (au (pv 6) az)))) (aG (bp (bU (pf pN hr (au (pv 2) (au (pv 7) az)))) (aG (pS 2 nd (pv 7))) bA))))) (aG (aR (pv 2))))),?_⟩;refine⟨bR Z,λg0 H1 n1=>?_⟩;refine⟨_,Z,v1,ns,dZ,Z,RD.mono n1.same _ ye,dI,hz,λw1 H2 r2 s2=>?_⟩;have t2:=n1.same.trans s2;refine⟨_,Z,v2,ms,eR,Z,RD.mono t2 _ qU,a0t,yU,λw2 H3 r3 s3=>?_⟩;have t3:=t2.trans s3;obtain⟨c1,xs1,rfl,h1,q1⟩:=(RD.mono s3 _ r2).cB;obtain⟨c2,xs2,rfl,h2,q2⟩:=r3.cB;have l1:=q1.length;have l2:=q2.length;rw[bL]at l1 l2;refine⟨c1,c2,Z,⟨_,h1⟩,⟨_,h2⟩,?_⟩;refine QS (K:=K) (b1:=false) (b2:=false) (xs:=xs1) (ys:=xs2) ns.length (by rw[l1,l2,eX.len];lia) (λi O H4=>aH H3 H4/\∃g u1 u2 u3 u4 u5,bc K H4 g (Rat.divInt (rQ (cY ns ms) i) ((aI ns:Int)*aI ms))/\O=[some v1,some v2,some g,u1,u2,u3,u4,u5]) ?_ (λi O H4 _ h=>⟨h1.go h.1,h2.go h.1⟩) ?_ ?_
  ·refine⟨aH.refl _,.ref g0,none,none,none,none,none,⟨g0,Z,?_⟩,Z⟩
   have e0:Rat.divInt ((rQ (cY ns ms) 0:Nat):Int) ((aI ns:Int)*aI ms)=0:=by show Rat.divInt 0 _=0;exact Rat.zero_divInt _
   rw[e0];exact aU.of (s3 _ _ (s2 _ _ n1.at'))
  ·rintro i x y O H4 ex ey ⟨s4,g,u1,u2,u3,u4,u5,rg,rfl⟩ T H5 n5
   obtain⟨d1,e1,rx⟩:=q1.get' i ex;obtain⟨d2,e2,ry⟩:=q2.get' i ey;obtain⟨a,ea,rfl⟩:=nO e1;obtain⟨b,eb,rfl⟩:=nO e2;have qa:=dI.bd a (gj ea);have qb:=eX.bd b (gj eb);have cz:=Kl ea eb;have czb:=cb _ (gj cz);have t5:=s4.trans n5.same;refine⟨T,_,Z,aU.of n5.at',Z,_,_,Z,_,_,Z,Z,?_⟩;have lL:∀{H':Hp}{v:V}{r:Rat},RD K H' v (cD r)->bc K H' v r:=λ{H' v r} h=>by obtain⟨p,xs,rfl,h1,h2⟩:=h.cB;have:=h2.hZ (ns:=[r.num,r.den]);subst this;exact⟨p,Z,h1⟩
   refine⟨_,Z,_,Z,y,x,_,_,Z,lL (RD.mono t5 _ ry),lL (RD.mono t5 _ rx),(lN (n:=30) aw aw aw).mono aB,(lN (n:=30) aw aw aw).mono aB,λv6 H6 r6 s6=>?_⟩;have ed:Rat.divInt b (aI ms)-Rat.divInt a (aI ns)=Rat.divInt (b*aI ns-a*aI ms) ((aI ns:Int)*aI ms):=W0 aw aw;have r6:bc K H6 v6 (Rat.divInt b (aI ms)-Rat.divInt a (aI ns)):=r6;rw[ed]at r6;obtain⟨p6,rfl,h6⟩:=r6;refine⟨p6,_,Z,h6,Z,_,_,Z,_,_,Z,Z,?_⟩;refine⟨_,Z,_,Z,_,Z,bR Z,λdd H7 n7=>?_⟩;have mq:=s6.trans n7.same;have rD:bc K H7 (.ref dd) (Rat.divInt (((a*(aI ms:Int)-b*(aI ns:Int)).natAbs:Nat):Int) ((aI ns:Int)*aI ms)):=by
    have e:Rat.divInt (((a*(aI ms:Int)-b*(aI ns:Int)).natAbs:Nat):Int) ((aI ns:Int)*aI ms)=ve (Rat.divInt (b*aI ns-a*aI ms) ((aI ns:Int)*aI ms)):=by rw[a8z L0,zV];congr 1;lia
    rw[e];refine⟨dd,Z,?_⟩;rw[a8y,a8A];exact aU.of n7.at'
   have rG:bc K H7 g _:=(rg.go n5.same).go mq;have hG:rQ (cY ns ms) i<=2000000:=nT λz hz=>cb z (Al hz);refine⟨_,Z,_,Z,g,.ref dd,_,_,Z,rG,rD,Qu _ aw,Qu _ aw,_,Z,?_⟩;have hs:=a3J cz;refine dJ (λhc=>?_) (λhc=>?_)
   ·have bP:=(S9 L0).mp (jc hc)
    refine⟨_,Z,?_⟩;refine⟨t5.trans mq,_,_,_,_,_,_,?_,Z⟩;rw[hs,Nat.max_eq_right aw];exact rD
   ·have hge:¬_:=λz=>hc (cm ((S9 L0).mpr z))
    refine⟨t5.trans mq,_,_,_,_,_,_,?_,Z⟩;rw[hs,Nat.max_eq_left aw];exact rG
  ·rintro O H4 ⟨s4,g,u1,u2,u3,u4,u5,rg,rfl⟩
   refine⟨_,Z,k _ _ ?_ (t3.trans s4)⟩;have:rQ (cY ns ms) ns.length=aI (cY ns ms):=by unfold rQ;rw[xC aw]
   rw[this]at rg;exact rg
theorem Nk:bj ["machine","one","other","jump","p","q"] ["machine","one","other"] (aX Fq):=bw aQ
theorem a0h(F:FA K mg "corner_square" Fq)(B:bE mg)(a3L:aF P w K mg aA "greatest_turn" 5 (Lm K))(rV:aF P w K mg aA "fraction" 3 (vC K)):aF P w K mg aA "corner_square" 6 (DL K):=by
 refine F.has Nk (λvs H Q E h=>?_) (λ_ _ _ _ _ _=>kW λ_ _ _=>rfl) (λf aM A outer s H vs Q E hr h=>?_)
 ·obtain⟨v,v1,v2,rs,r,f',j,t,ns,ms,dZ,eR,rfl,_⟩:=h
  rfl
 ·obtain⟨v,v1,v2,rs,r,f',j,t,ns,ms,dZ,eR,rfl,rd,ye,qU,dI,eX,hz,j1,j2,k⟩:=h
  have nd:=Nk.nd;obtain⟨lp1,lm1⟩:=dI.lead;obtain⟨lp2,GQ⟩:=eX.lead;have L0:(0:Int)<(aI ns:Int)*aI ms:=gX aw aw;have Lb:((aI ns:Int)*aI ms).natAbs<=1000*1000:=kJ aw aw;have cb:=Cw (λz hz=>by have:=dI.bd z hz;lia) (λz hz=>by have:=eX.bd z hz;lia) (ns:=ns) (ms:=ms);have hH:=nT cb;refine⟨_,(aE (pS 3 nd (px K (pv 0) aD)) (aE (eU (pf a3L hr (au (pv 1) (au (pv 2) az))) (cW K Z (n:=2) Z (bC (aY 4 nd) (bC (aY 5 nd) cV)))) (aE (bp (bG (cI K Z hr.units) (pv 4) aD (aZ _)) (aG (aR fo)) bA) (aG (aR (pf rV hr (au (aO bO (aO bO (aO bO (pv 3) (pv 3)) (pv 5)) (pv 5)) (au (aO bO (pv 4) (pv 4)) az)))))))),?_⟩;obtain⟨am,bm,rfl,gD,lT⟩:=mH rd;refine⟨_,Z,.inr ⟨am,_,3,.int j,Z,Z,gD,Z,?_⟩⟩;refine⟨_,Z,_,Z,v1,v2,ns,ms,dZ,eR,Z,ye,qU,dI,eX,hz,λv3 H3 r3 s3=>?_⟩;obtain⟨Jh⟩:Nonempty (Bd 30 (Rat.divInt (aI (cY ns ms)) ((aI ns:Int)*aI ms))):=⟨lN (n:=30) aw aw aw⟩;have en:=sT (Rat.divInt (aI (cY ns ms)) ((aI ns:Int)*aI ms));obtain⟨R,hR⟩:∃R,Rat.divInt (aI (cY ns ms)) ((aI ns:Int)*aI ms)=R:=⟨_,Z⟩;rw[hR]at r3 Jh en;have dp:=den_pos R;have zM:R.num*((aI ns:Int)*aI ms)=aI (cY ns ms)*R.den:=by rw[<-hR]at en;have:=(Rat.divInt_eq_divInt_iff (by rw[hR];lia) aw).mp en;rw[hR]at this;exact this
  have nb:=Jh.num;have db:=Jh.den;obtain⟨p3,rfl,h3⟩:=r3;refine⟨p3,_,Z,h3,Z,_,_,Z,_,_,Z,Z,?_⟩;refine⟨_,Z,.inl ⟨_,_,Z,Z,_,Z,?_⟩⟩;refine dJ (λhc=>?_) (λhc=>?_)
  ·have h0:R.num=0:=by simpa using hc
   have hl:aI (cY ns ms)=0:=by
    rw[h0,Au]at zM;rcases Int.mul_eq_zero.mp zM.symm with h|h
    ·lia
    ·lia
   refine k .bN H3 ?_ s3;unfold zN;rw[bo hl];exact FX
  ·have h0:R.num≠0:=by simpa using hc
   have hl:aI (cY ns ms)≠0:=by
    intro z;rw[z]at zM;have:R.num*((aI ns:Int)*aI ms)=0:=by rw[zM];exact Au _
    rcases Int.mul_eq_zero.mp this with h|h
    ·exact h0 h
    ·lia
   have m1:(j*j).natAbs<=50*50:=kJ aw aw;have kQ:(2:Nat)^64=18446744073709551616:=by decide
   refine⟨_,Z,_,Z,_,_,Z,Z,.of_left (cC aw aw),_,Z,_,_,Z,Z,.of_left (cC aw aw),_,Z,_,_,Z,Z,.of_right (cC aw aw),?_⟩;refine⟨_,Z,_,Z,_,_,Z,Z,.of_left (cC aw aw),?_⟩;refine⟨_,_,Z,Kf h0 h0,?_,λv4 H4 r4 s4=>?_⟩
   ·refine iJ (n:=60) ?_ aB
    rw[gm];exact mG (n:=30) (m:=30) nb nb
   ·refine k _ _ ?_ (s3.trans s4)
    unfold zN;rw[bB hl];have e:=a7B (j:=j) (p:=R.num) (q:=R.den) (h:=aI (cY ns ms)) (L:=(aI ns:Int)*aI ms) h0 aw zM;rw[e,<-xI]at r4;exact r4.rd
def G1 (d:aj):Bool:=fZ 10 200 d
inductive a9n(K:ag)(vs:List V)(H:Hp)(Q:VK):Prop |mk (v:_)(d:_)(h0:vs=[v])(h1:RD K H v d)(h2:Q (.bl (G1 d)) H)
def B5(K:ag):Sp:=λvs H Q _=>a9n K vs H Q
theorem MZ:bj ["thing"] ["thing"] (aX EX):=bw aQ
theorem ZZ(F:FA K mg "is_rate" EX)(B:bE mg)(a4o:GV mg "LEAST_RATE" (.int 10))(a4q:GV mg "GREATEST_RATE" (.int 200))(pM:aF P w K mg aA "is_whole_within" 2 (tK K)):aF P w K mg aA "is_rate" 3 (B5 K):=by
 refine F.has MZ (λvs H Q E h=>?_) (λ_ _ _ _ _ _=>eJ λ_=>rfl) (λf aM A outer s H vs Q E hr h=>?_)
 ·obtain⟨v,d,rfl,_⟩:=h
  rfl
 ·obtain⟨v,d,rfl,rd,k⟩:=h
  have nd:=MZ.nd;refine⟨_,(aG (aR (pf pM hr (au (pv 0) (au (fC (x:="LEAST_RATE") Z a4o) (au (fC (x:="GREATEST_RATE") Z a4q) az)))))),?_⟩;exact⟨_,Z,v,d,10,200,Z,rd,k⟩
inductive a97(K:ag)(vs:List V)(H:Hp)(Q:VK):Prop |mk (v:_)(ns:_)(sp:_)(r:_)(h0:vs=[v,.int r])(h1:RD K H v (hW ns sp))(h2:1<=sp)(h3:sp<=20)(h4:10<=r)(h5:r<=200)(h6:∀v' H',bc K H' v' (Rat.divInt ((sp*r)^2) 10000)->aH H H'->Q v' H')
def vB(K:ag):Sp:=λvs H Q _=>a97 K vs H Q
theorem Lh(a b:Int):a*a*b*b=(a*b)^2:=by rw[fy,fy,lg,ky];ac_rfl
theorem XH{r:Int}(h1:10<=r)(h2:r<=200):G1 (.int r)=true:=by show(decide (10<=r)&&decide (r<=200))=true;rw[cm h1,cm h2];rfl
theorem Mc:bj ["line","rate","speed"] ["line","rate"] (aX DX):=bw aQ
theorem YZ(F:FA K mg "top_square" DX)(B:bE mg)(Hy:aF P w K mg aA "is_rate" 3 (B5 K))(rV:aF P w K mg aA "fraction" 3 (vC K)):aF P w K mg aA "top_square" 4 (vB K):=by
 refine F.has Mc (λvs H Q E h=>?_) (λ_ _ _ _ _ _=>dC λ_ _=>rfl) (λf aM A outer s H vs Q E hr h=>?_)
 ·obtain⟨v,ns,sp,r,rfl,_⟩:=h
  rfl
 ·obtain⟨v,ns,sp,r,rfl,rd,s1,s2,r1,r2,k⟩:=h
  have nd:=Mc.nd;refine⟨_,(aE (bp (cU (bU (pf Hy hr (au (pv 1) az)))) (aG jW) bA) (aE (pS 2 nd (px K (pv 0) aD)) (aG (aR (pf rV hr (au (aO bO (aO bO (aO bO (pv 2) (pv 2)) (pv 1)) (pv 1)) (au (aO bO aD aD) az))))))),?_⟩;refine⟨_,Z,_,.int r,Z,dN r,_,Z,?_⟩;rw[XH r1 r2];refine aW ?_;obtain⟨a,b,rfl,ha,hb⟩:=lP rd;refine⟨_,Z,.inr ⟨a,_,2,.int sp,Z,Z,ha,Z,?_⟩⟩;have m1:(sp*sp).natAbs<=20*20:=by rw[gm];exact oG aw aw
  refine⟨_,Z,_,Z,_,_,Z,Z,.of_left (cC aw aw),_,Z,_,_,Z,Z,.of_left (cC aw aw),_,Z,_,_,Z,Z,.of_right (cC aw aw),?_⟩;refine⟨_,_,Z,Z,.of_left (cC aB aB),?_⟩;refine⟨_,_,Z,aB,iJ (n:=20) aB aB,λv' H' r' s'=>k v' H' ?_ s'⟩;rw[Lh]at r';exact r'
inductive a96(K:ag)(vs:List V)(H:Hp)(Q:VK):Prop |mk (v:_)(ns:_)(sp:_)(r:_)(h0:vs=[v,.int r])(h1:RD K H v (hW ns sp))(h2:1<=sp)(h3:sp<=20)(h4:10<=r)(h5:r<=200)(h6:∀v' H',bc K H' v' (Rat.divInt ((sp*r)^2) 10000)->aH H H'->Q v' H')
def xU(K:ag):Sp:=λvs H Q _=>a96 K vs H Q
theorem Mb:bj ["_law_line_here","_law_rate"] ["_law_line_here","_law_rate"] (aX DW):=bw aQ
open Pn
open Ow (topR cornO mnO betR atO ownF leadF ownL OkI OkIs)
theorem y4(n:Nat)(h:n<=1000):n<sizeLine:=xB h aB
theorem lL{H:Hp}{v:V}{r:Rat}(h:RD K H v (cD r)):bc K H v r:=by obtain⟨p,xs,rfl,h1,h2⟩:=h.cB;have:=h2.hZ (ns:=[r.num,r.den]);subst this;exact⟨p,Z,h1⟩
theorem fb.up{ax:Nat}{ns:List Int}(h:fb ax 100 ns):fb ns.length 1000 ns:=⟨Z,λz hz=>by have:=h.bd z hz;lia,h.nz⟩
theorem cw.yz{ax:Nat}{ds:List aj}{os:List Itm}(h:cw ax ds os):OkIs os:=λi ns sp e=>by unfold atO at e;cases ho:os[i]? with |none=>rw[ho]at e;cases e |some o=>rw[ho]at e;have e':o=some (ns,sp):=e;subst e';obtain⟨a,b,c⟩:=h.ok i ns sp ho;exact⟨a.bd,b,c⟩
theorem wm{H:Hp}{a:Addr}(h:aU K H a [.int 0,.int 1]):bc K H (.ref a) 0:=⟨a,Z,h⟩
theorem a7D(j:Int)(ns ms:List Int):zN j ns ms=match cornO j ns ms with|none=>.none|some c=>cD c:=by unfold zN cornO;split<;>rfl
inductive aa8(K:ag)(vs:List V)(H:Hp)(Q:VK):Prop |mk (m:_)(v1:_)(v2:_)(rate:_)(rs:_)(r:_)(f:_)(j:_)(t:_)(d1:_)(d2:_)(o1:_)(o2:_)(ax:_)(h0:vs=[m,v1,v2,.int rate])(h1:RD K H m (fE rs r f j t))(h2:1<=j)(h3:j<=50)(h4:RD K H v1 d1)(h5:RD K H v2 d2)(h6:itR d1 o1)(h7:itR d2 o2)(h8:(∀ns sp,o1=some (ns,sp)->fb ax 100 ns/\1<=sp/\sp<=20))(h9:(∀ns sp,o2=some (ns,sp)->fb ax 100 ns/\1<=sp/\sp<=20))(uG:ax<=100)(HR:10<=rate)(Cd:rate<=200)(QH:∀v H',bc K H' v (betR j rate o1 o2)->aH H H'->Q v H')
def Ba(K:ag):Sp:=λvs H Q _=>aa8 K vs H Q
theorem Nq:bj ["machine","one","other","rate","squares","corner"] ["machine","one","other","rate"] (aX Fv):=bw aQ
theorem a0l(F:FA K mg "bound_between" Fv)(B:bE mg)(gN:GT K mg "NOUGHT" [.int 0,.int 1])(lU:aF P w K mg aA "is_line" 1 (qK K))(rH:aF P w K mg aA "top_square" 4 (vB K))(a40:aF P w K mg aA "corner_square" 6 (DL K))(wI:aF P w K mg aA "least" 2 (kD K)):aF P w K mg aA "bound_between" 7 (Ba K):=by
 obtain⟨aN,j7,gr⟩:=gN;refine F.has Nq (λvs H Q E h=>?_) (λ_ _ _ _ _ _=>sN λ_ _ _ _=>rfl) (λf aM A outer s H vs Q E hr h=>?_)
 ·obtain⟨m,v1,v2,rate,rs,r,f,j,t,d1,d2,o1,o2,ax,rfl,_⟩:=h
  rfl
 ·obtain⟨m,v1,v2,rate,rs,r,f,j,t,d1,d2,o1,o2,ax,rfl,rm,j1,j2,r1,r2,i1,i2,k1,k2,Qy,bS,bT,k⟩:=h
  have nd:=Nq.nd;refine⟨_,(aE (bp (PW.pt (fQ (cU (bU (pf lU hr (au (pv 1) az)))) (iY (cU (bU (pf lU hr (au (pv 2) az))))))) (aG (aR (fC (x:="NOUGHT") Z j7))) bA) (aE (pS 4 nd (dj (au (pf rH hr (au (pv 1) (au (pv 3) az))) (au (pf rH hr (au (pv 2) (au (pv 3) az))) az)))) (aE (pS 5 nd (pf a40 hr (au (pv 0) (au (pv 1) (au (pv 2) az))))) (aE (iM (bp (bG lM (pv 5) fo (aZ _)) (aG (e9 (iP K Z (pv 4) (au (pv 5) az)))) bA)) (aG (aR (pf wI hr (au (pv 4) az)))))))),?_⟩;refine⟨_,Z,v1,d1,o1,Z,r1,i1,_,Z,?_⟩;cases o1 with |none=>refine bK (bK ?_);have:=k _ H (wm (gr H)) (aH.refl _);exact this |some q1=>obtain⟨ns,sp⟩:=q1;refine aW ?_;refine⟨_,Z,v2,d2,o2,Z,r2,i2,_,Z,?_⟩;cases o2 with |none=>refine bK ?_;exact k _ H (wm (gr H)) (aH.refl _) |some q2=>obtain⟨ms,sq⟩:=q2;refine aW ?_;have e1:=jH i1;have e2:=jH i2;subst e1 e2;obtain⟨dI,a1,a2⟩:=k1 ns sp rfl;obtain⟨eX,b1,b2⟩:=k2 ms sq rfl;refine⟨_,Z,_,Z,v1,ns,sp,rate,Z,r1,a1,a2,bS,bT,λt1 H1 FR s1=>?_⟩;refine⟨_,Z,_,Z,v2,ms,sq,rate,Z,RD.mono s1 _ r2,b1,b2,bS,bT,λt2 H2 FQ s2=>?_⟩;refine⟨bR Z,λl H3 n3=>?_⟩;have t3:=s1.trans (s2.trans n3.same);have gA:fb ns.length 1000 ms:=⟨by rw[dI.len,eX.len],eX.up.bd,eX.nz⟩;refine⟨_,Z,_,Z,_,Z,m,v1,v2,rs,r,f,j,t,ns,ms,sp,sq,Z,RD.mono t3 _ rm,RD.mono t3 _ r1,RD.mono t3 _ r2,dI.up,gA,by rw[dI.len];lia,j1,j2,λc H4 rc s4=>?_⟩;have T1:Bd 2000 (topR rate sp):=(Ow.oS a1 a2 bS bT).mono aB;have T2:Bd 2000 (topR rate sq):=(Ow.oS b1 b2 bS bT).mono aB;have R1:bc K H4 t1 (topR rate sp):=((FR.go s2).go n3.same).go s4;have R2:bc K H4 t2 (topR rate sq):=(FQ.go n3.same).go s4;have t4:=t3.trans s4;rw[a7D]at rc;cases hc:cornO j ns ms with
   |none=>
    rw[hc]at rc;cases rc.Gr;refine⟨λO H5=>H5=H4/\O=[some m,some v1,some v2,some (.int rate),some (.ref l),some .bN],?_,?_⟩
    ·refine⟨_,Z,Z,_,Z,aW ?_⟩
     exact⟨Z,Z⟩
    rintro O H5 ⟨rfl,rfl⟩;refine⟨_,Z,l,[t1,t2],[topR rate sp,topR rate sq],Z,aK.of (s4 _ _ n3.at'),⟨R1,T1,R2,T2,trivial⟩,by simp,λi v q e1 e2 hq=>?_⟩;have uk:betR j rate (some (ns,sp)) (some (ms,sq))=q:=by
     show mnO (mn _ _) (cornO j ns ms)=q;rw[hc];refine u9 ?_ (hq _ (by simp)) (hq _ (by simp))
     match i,e2 with |0,e2=>cases e2;exact .inl rfl |1,e2=>cases e2;exact .inr rfl
    refine k v _ ?_ t4;rw[uk]
    match i,e1,e2 with |0,e1,e2=>cases e1;cases e2;exact R1 |1,e1,e2=>cases e1;cases e2;exact R2
   |some cq=>
    rw[hc]at rc;have Rc:bc K H4 c cq:=lL rc;have Tc:Bd 2000 cq:=(Ow.J3 j1 j2 dI.bd eX.bd hc).mono aB;have om:=s4 _ _ n3.at';have tU:dX H4 (L2.upd H4 l (.lst ([t1,t2]++[c]))):=.gY om;refine⟨λO H5=>H5=L2.upd H4 l (.lst ([t1,t2]++[c]))/\O=[some m,some v1,some v2,some (.int rate),some (.ref l),some c],?_,?_⟩
    ·obtain⟨pc,rfl,_⟩:=id Rc
     refine⟨_,Z,Z,_,Z,bK ?_⟩;refine⟨_,Z,.inl ⟨Z,_,aK.of om⟩,_,Z,l,[t1,t2],_,Z,Z,om,y4 _ (Nat.le_of_ble_eq_true Z),?_⟩;exact⟨Z,Z⟩
    rintro O H5 ⟨rfl,rfl⟩;have up:∀{v:V}{q:Rat},bc K H4 v q->bc K (L2.upd H4 l (.lst ([t1,t2]++[c]))) v q:=λ{v q} h=>lL (RD.t tU _ (oZ q) h.rd);refine⟨_,Z,l,[t1,t2,c],[topR rate sp,topR rate sq,cq],Z,aK.of bQ,⟨up R1,T1,up R2,T2,up Rc,Tc,trivial⟩,by simp,λi v q e1 e2 hq=>?_⟩;have uk:betR j rate (some (ns,sp)) (some (ms,sq))=q:=by
     show mnO (mn _ _) (cornO j ns ms)=q;rw[hc];show mn (mn _ _) cq=q;have h1:=hq _ (show topR rate sp∈[topR rate sp,topR rate sq,cq] by simp);have h2:=hq _ (show topR rate sq∈[topR rate sp,topR rate sq,cq] by simp);have h3:=hq _ (show cq∈[topR rate sp,topR rate sq,cq] by simp);refine u9 ?_ (lQ h1 h2) h3
     match i,e2 with |0,e2=>cases e2;exact .inl (u9 (.inl rfl) h1 h2).symm |1,e2=>cases e2;exact .inl (u9 (.inr rfl) h1 h2).symm |2,e2=>cases e2;exact .inr rfl
    have sU:aH H (L2.upd H4 l (.lst ([t1,t2]++[c]))):=λb o e=>by have h0:H2 l=none:=n3.no;have e2:=s2 b o (s1 b o e);rw[aV (dU e2 h0)];exact t4 b o e
    refine k v _ ?_ sU;rw[uk]
    match i,e1,e2 with |0,e1,e2=>cases e1;cases e2;exact up R1 |1,e1,e2=>cases e1;cases e2;exact up R2 |2,e1,e2=>cases e1;cases e2;exact up Rc
theorem pA(qs:List Rat):bM (qs.map cD)=true:=OH oZ qs
theorem aJ.DR{H:Hp}{l:Addr}{ys:List V}{y:V}{ds:List aj}{d:aj}{i:Nat}(dl:H l=some (.lst ys))(r:aJ K H ys ds)(rd:RD K H y d)(n1:bM ds=true)(n2:dw d=true):aJ K (L2.upd H l (.lst (ys.set i y))) (ys.set i y) (ds.set i d):=by have t:dX H (L2.upd H l (.lst (ys.set i y))):=.gY dl;have r':=aJ.t t _ n1 r;have Bm:=RD.t t _ n2 rd;clear r rd dl t;generalize L2.upd H l (.lst (ys.set i y))=H' at r' Bm;induction ds generalizing ys i with |nil=>cases r'.nil_inv;exact cH |cons d0 ds ih=>
 obtain⟨y0,yr,rfl,h1,h2⟩:=r'.cons_inv;have n1':bM ds=true:=by rw[bM,fG]at n1;exact n1.2
 cases i with |zero=>exact cf Bm h2 |succ i=>exact cf h1 (ih n1' h2)
theorem J1(xs:List V):kU xs (some 1) none=xs.drop 1:=by unfold kU;have e:HT.bZ xs.length 0 (some 1)=min 1 xs.length:=HT.EV _ _ 1;rw[e,HT.Ny];cases xs with |nil=>rfl |cons x xs=>
 have e2:min 1 (x::xs).length=1:=by simp
 rw[e2,xC (by simp)]
inductive a9C(K:ag)(vs:List V)(H:Hp)(Q:VK):Prop |mk (m:_)(iv:_)(rate:_)(rs:_)(r:_)(f:_)(j:_)(t:_)(ds:_)(os:_)(h0:vs=[m,iv,.int rate])(h1:RD K H m (fE rs r f j t))(h2:iT rs r f j t)(h3:RD K H iv (.tuple ds))(h4:cw rs.length ds os)(h5:ds.length<=100)(h6:10<=rate)(h7:rate<=200)(h8:∀l ys H',H l=none->H' l=some (.lst ys)->aJ K H' ys ((ownL j rate os).map cD)->aH H H'->Q (.ref l) H')
def DD(K:ag):Sp:=λvs H Q _=>a9C K vs H Q
theorem Be:bj ["machine","items","rate","between"] ["machine","items","rate"] (aX Bf):=bw aQ
theorem ZE(F:FA K mg "own_bounds" Bf)(B:bE mg)(gN:GT K mg "NOUGHT" [.int 0,.int 1])(HG:aF P w K mg aA "bound_between" 7 (Ba K)):aF P w K mg aA "own_bounds" 8 (DD K):=by
 obtain⟨aN,j7,gr⟩:=gN;refine F.has Be (λvs H Q E h=>?_) (λ_ _ _ _ _ _=>kW λ_ _ _=>rfl) (λf aM A outer s H vs Q E hr h=>?_)
 ·obtain⟨m,iv,rate,rs,r,f,j,t,ds,os,rfl,_⟩:=h
  rfl
 ·obtain⟨m,iv,rate,rs,r,f,j,t,ds,os,rfl,rm,aL,ri,row,hz,bS,bT,k⟩:=h
  have nd:=Be.nd;have rN:∀H',RD K H' (.ref aN) (cD 0):=λH'=>(wm (gr H')).rd;refine⟨_,(aE (bp (cU (Gd K Z (pv 1))) (aG (aR (dj (au (fC (x:="NOUGHT") Z j7) az)))) bA) (aE (Bp (i0:=3) nd Z (Or.inl Z) (N:=["one","other","machine","rate"]) (js:=[none,none,some 0,some 2]) Z Z Z (jX K Z false false Z (B.at "zip") (au (pv 1) (au (vT (vG K rfl) (pv 1) (vR aD) vS) az))) (λ_ _ _ _ _=>(cW K rfl (n:=2) rfl (bC (aY 0 (show List.Nodup (["one","other","machine","rate"]:List Str) by decide+kernel)) (bC (aY 1 (show List.Nodup (["one","other","machine","rate"]:List Str) by decide+kernel)) cV)))) (λ_ _ _ _ _=>fm) (λ_ _ _ _ _=>(pf HG hr (au (pv 2) (au (pv 0) (au (pv 1) (au (pv 3) az))))))) (aG (aR (aO (zP K Z) (aO (zP K Z) (dj (au (fC (x:="NOUGHT") Z j7) az)) (pv 3)) (dj (au (fC (x:="NOUGHT") Z j7) az))))))),?_⟩;obtain⟨ia,xs,rfl,hi,dP⟩:=ri.cB;have lx:=dP.length;have ll:=row.len;refine⟨_,Z,_,.inr (.inl ⟨_,hi,Z⟩),?_⟩;cases hd:xs with
  |nil=>
   subst hd;refine bK ?_;refine⟨bR Z,λl H1 n1=>?_⟩;refine k l [.ref aN] H1 n1.no n1.at' ?_ n1.same;have e:os=[]:=by
    have:os.length=0:=by rw[<-ll,<-lx];rfl
    exact De.mp this
   rw[e];exact cf (rN H1) cH |cons x0 xr=>
   refine aW ?_;have dH:os≠[]:=by intro e;rw[e]at ll;rw[hd]at lx;simp at ll lx;rw[ll]at lx;cases lx
   have Hi:0<xs.length:=by rw[hd];simp
   refine⟨_,Z,_,Z,1,Z,ia,xs,Z,.inr ⟨hi,?_,λtl H1 n1=>?_⟩⟩
   ·rintro⟨h1,_⟩
    have e:HT.bZ xs.length 0 (some 1)=min 1 xs.length:=HT.EV _ _ 1;rw[e]at h1
    lia
   refine⟨ia,tl,Z,⟨_,hi.go n1.same⟩,⟨_,aU.of n1.at'⟩,λD H2 n2=>?_⟩;have et:=n1.at';rw[J1]at et;have yt:∀(i:Nat)(o:Itm),os[i]? =some o->∀(ns:List Int)(sp:Int),o=some (ns,sp)->fb rs.length 100 ns/\1<=sp/\sp<=20:=λi o e ns sp e'=>row.ok i ns sp (by rw[e,e']);have lr:=aL.len;refine uX (K:=K) (b1:=false) (b2:=false) (xs:=xs) (ys:=xs.drop 1) (ds:=((List.range (os.length-1)).map (λi=>ownF j rate os (i+1))).map cD) _ Z (hi.go n1.same) (aU.of et) n2 (by rw[oH];simp;lia) (by simp;lia) (pA _) ?_ ?_
   ·intro i x y d H3 Q' ex ey ed s3 hq
    have dR:=n1.same.trans s3;rw[sY]at ey;obtain⟨d1,e1,r1⟩:=dP.get' i ex;obtain⟨d2,e2,r2⟩:=dP.get' (1+i) ey;obtain⟨o1,o9,i1⟩:=row.get e1;obtain⟨o2,lY,i2⟩:=row.get e2;have ze:1+i<os.length:=(cv.mp lY).1;have j8:d=cD (betR j rate o1 o2):=by rw[bX,bX,bu (by simp;lia),vq]at ed;have:=(eO ed).symm;rw[this];show cD (betR j rate (atO os i) (atO os (i+1)))=_;rw[Ow.ng o9,Ow.ng (show os[i+1]? =some o2 by rw[K2];exact lY)]
    subst j8;refine⟨_,Z,_,Z,_,Z,_,Z,m,x,y,rate,rs,r,f,j,t,d1,d2,o1,o2,rs.length,Z,RD.mono dR _ rm,aL.j1.1,aL.j1.2,RD.mono dR _ r1,RD.mono dR _ r2,i1,i2,yt _ _ o9,yt _ _ lY,aw,bS,bT,λv H4 rv s4=>?_⟩;exact hq _ _ s4 rv.rd
   ·intro H3 zs s3 d3 r3
    have lz:=r3.length;simp at lz;refine⟨bR Z,λl1 H4 n4=>?_⟩;refine⟨_,Z,l1,D,_,zs,Z,Z,aK.of n4.at',aK.of (n4.same _ _ d3),xZ _ (by simp;lia),λl2 H5 n5=>?_⟩;refine⟨bR Z,λl3 H6 n6=>?_⟩;refine⟨l2,l3,_,_,Z,Z,aK.of (n6.same _ _ n5.at'),aK.of n6.at',xZ _ (by simp;lia),λl H7 n7=>?_⟩;have jU:aH H H6:=n1.same.trans (s3.trans (n4.same.trans (n5.same.trans n6.same)));have nl:H l=none:=by cases e:H l with |none=>rfl |some o=>have:=jU _ _ e;rw[n7.no]at this;cases this
    refine k l _ H7 nl n7.at' ?_ (jU.trans n7.same);rw[Ow.Oj j rate dH,jd,jd];exact((cf (rN H7) cH).append (aJ.mono (n4.same.trans (n5.same.trans (n6.same.trans n7.same))) _ r3)).append (cf (rN H7) cH)
inductive a9A(K:ag)(vs:List V)(H:Hp)(Q:VK):Prop |mk (v:_)(r:_)(z:_)(h0:vs=[v,.int z])(h1:bc K H v r)(h2:Bd 2000 r)(h3:z.natAbs<2^24)(h4:∀v H',bc K H' v (r+(z:Rat))->aH H H'->Q v H')
def xV(K:ag):Sp:=λvs H Q _=>a9A K vs H Q
theorem xr_addz {r : Rat} {z : Int} (m : r + (z : Rat) = Rat.divInt (r.num * (1:Nat) + z * r.den) (r.den * (1:Nat))) : r.num + z * r.den = (r + (z : Rat)).num ∧ (r.den : Int) = (r + (z : Rat)).den := by
  have c : (r.num + z * r.den).natAbs.Coprime r.den := (Int.gcd_add_mul_right_left (r.den : Int) r.num z).trans r.reduced
  have e : r + (z : Rat) = ⟨r.num + z * r.den, r.den, r.den_nz, c⟩ := by
    rw [m, Rat.mk_eq_divInt, Int.natCast_one, Int.mul_one, Int.mul_one]
  rw [e]
  exact ⟨rfl, rfl⟩
theorem MF:bj ["one","more","p","q"] ["one","more"] (aX EB):=bw aQ
theorem Zz(F:FA K mg "plus_whole" EB)(B:bE mg):aF P w K mg aA "plus_whole" 4 (xV K):=by
 refine F.has MF (λvs H Q E h=>?_) (λ_ _ _ _ _ _=>dC λ_ _=>rfl) (λf aM A outer s H vs Q E hr h=>?_)
 ·obtain⟨v,r,z,rfl,_⟩:=h
  rfl
 ·obtain⟨v,r,z,rfl,rv,br,hz,k⟩:=h
  have nd:=MF.nd
  obtain ⟨p,rfl,hp⟩:=rv
  refine ⟨_,(aE (eU (pv 0) (cW K Z (n:=2) Z (bC (aY 2 nd) (bC (aY 3 nd) cV)))) (aG (aR (df (au (aO cQ (pv 2) (aO bO (pv 1) (pv 3))) (au (pv 3) az)))))),?_⟩
  refine ⟨_,rfl,_,_,rfl,hp,rfl,_,_,rfl,_,_,rfl,rfl,?_⟩
  have bz:Bd 24 (z:Rat):=⟨hz,by show 1<2^24;decide⟩
  obtain ⟨e1,e2⟩:=xr_addz (add_div r z)
  refine ⟨_,rfl,_,rfl,_,rfl,_,_,rfl,rfl,iy (bz.mono aB).wn.bits br.wd.bits,_,_,rfl,rfl,_,rfl,bR Z,fun t H' n=>k _ _ ⟨t,rfl,aU.of ?_⟩ n.same⟩
  rw [← e1,← e2]; exact n.at'
theorem PB{os:List Itm}{i:Nat}{ns:List Int}{sp:Int}(h:os[i]? =some (some (ns,sp))):leadF os i=some (aI ns):=by unfold leadF;rw[Ow.ng h];rfl
theorem a2d{os:List Itm}{i:Nat}(h:os[i]? =some none):leadF os i=none:=by unfold leadF;rw[Ow.ng h];rfl
theorem a2e{os:List Itm}(h:OkIs os){i m:Nat}(e:leadF os i=some m):m<=100:=by unfold leadF at e;cases ho:atO os i with |none=>rw[ho]at e;cases e |some q=>rw[ho]at e;cases e;obtain⟨a,_,_⟩:=h i q.1 q.2 ho;exact nT λz hz=>by have:=a z hz;lia
theorem UU{r:Int}{m:Nat}(h1:1<=r)(h2:r<=50)(h3:m<=100):(2*r*(m:Int)).natAbs<2^24:=by
 have kR:(2:Nat)^24=16777216:=by decide
 have:=kJ (a:=2*r) (b:=(m:Int)) (m:=100) (n:=100) aw aw;rw[kR];lia
theorem Mj:bj ["_law_one","_law_other_here"] ["_law_one","_law_other_here"] (aX E4):=bw aQ
theorem Z7(F:FA K mg "_law_sum" E4)(B:bE mg)(uD:aF P w K mg aA "_law_frac" 1 (vF K)):aF P w K mg aA "_law_sum" 2 (nI (·+·) K):=by
 refine F.has Mj (λvs H Q E h=>?_) (λ_ _ _ _ _ _=>dC λ_ _=>rfl) (λf aM A outer s H vs Q E hr h=>?_)
 ·obtain⟨v1,v2,r,s,rfl,_⟩:=h
  rfl
 ·obtain⟨v1,v2,r,s,rfl,⟨p,rfl,hp⟩,⟨q,rfl,hq⟩,br,bs,k⟩:=h
  have nd:=Mj.nd;refine⟨_,(aG (aR (pf uD hr (au (aO cQ (aO bO (px K (pv 0) aD) (px K (pv 1) aD)) (aO bO (px K (pv 1) aD) (px K (pv 0) aD))) (au (aO bO (px K (pv 0) aD) (px K (pv 1) aD)) az))))),?_⟩;refine⟨_,Z,.inr ⟨p,_,0,.int r.num,Z,Z,hp,Z,_,Z,.inr ⟨q,_,1,.int s.den,Z,Z,hq,Z,_,_,Z,Z,iy br.wn.bits bs.wd.bits,?_⟩⟩⟩;refine⟨_,Z,.inr ⟨q,_,0,.int s.num,Z,Z,hq,Z,_,Z,.inr ⟨p,_,1,.int r.den,Z,Z,hp,Z,_,_,Z,Z,iy bs.wn.bits br.wd.bits,?_⟩⟩⟩;refine⟨_,_,Z,Z,?_⟩;refine⟨_,Z,.inr ⟨p,_,1,.int r.den,Z,Z,hp,Z,_,Z,.inr ⟨q,_,1,.int s.den,Z,Z,hq,Z,_,_,Z,Z,iy br.wd.bits bs.wd.bits,?_⟩⟩⟩;refine⟨_,_,Z,gX (den_pos r) (den_pos s),AH br bs,λv H' r' s'=>k v H' ?_ s'⟩;show bc K H' v (r+s);rw[add_div];exact r'
theorem MP:bj ["_law_one","_law_other_here"] ["_law_one","_law_other_here"] (aX EL):=bw aQ
theorem ZR(F:FA K mg "_law_less" EL)(B:bE mg):aF P w K mg aA "_law_less" 1 (lH K):=by
 refine F.has MP (λvs H Q E h=>?_) (λ_ _ _ _ _ _=>dC λ_ _=>rfl) (λf aM A outer s H vs Q E hr h=>?_)
 ·obtain⟨v1,v2,r,s,rfl,_⟩:=h
  rfl
 ·obtain⟨v1,v2,r,s,rfl,⟨p,rfl,hp⟩,⟨q,rfl,hq⟩,br,bs,k⟩:=h
  have nd:=MP.nd;refine⟨_,(aG (aR (eB jj (aO bO (px K (pv 0) aD) (px K (pv 1) aD)) (aO bO (px K (pv 1) aD) (px K (pv 0) aD)) (aZ _)))),?_⟩;refine⟨_,Z,.inr ⟨p,_,0,.int r.num,Z,Z,hp,Z,_,Z,.inr ⟨q,_,1,.int s.den,Z,Z,hq,Z,_,_,Z,Z,iy br.wn.bits bs.wd.bits,?_⟩⟩⟩;refine⟨_,Z,.inr ⟨q,_,0,.int s.num,Z,Z,hq,Z,_,Z,.inr ⟨p,_,1,.int r.den,Z,Z,hp,Z,_,_,Z,Z,iy bs.wn.bits br.wd.bits,?_⟩⟩⟩;refine⟨_,_,Z,Z,?_⟩;have e:decide (r.num*(s.den:Int)<s.num*(r.den:Int))=decide (r<s):=by rw[oM,JM,JM,CY]
  show Q (.bl (decide (r.num*(s.den:Int)<s.num*(r.den:Int)))) H;rw[e];exact k
theorem MK:bj ["_law_some","_law_best","_law_one"] ["_law_some"] (aX EG):=bw aQ
theorem ZJ(F:FA K mg "_law_min" EG)(B:bE mg)(wO:aF P w K mg aA "_law_less" 1 (lH K)):aF P w K mg aA "_law_min" 2 (kD K):=by
 refine F.has MK (λvs H Q E h=>?_) (λ_ _ _ _ _ _=>eJ λ_=>rfl) (λf aM A outer s H vs Q E hr h=>?_)
 ·obtain⟨l,xs,rs,rfl,_⟩:=h
  rfl
 ·obtain⟨l,xs,rs,rfl,hl,pJ,dH,k⟩:=h
  have nd:=MK.nd;refine⟨_,(aE (pS 1 nd (px K (pv 0) aD)) (aE (gJ fe Z (p8 K Z (pv 0)) (aY 2 nd) (aG (bp (bU (pf wO hr (au (pv 2) (au (pv 1) az)))) (aG (pS 1 nd (pv 2))) bA))) (aG (aR (pv 1))))),?_⟩;have hlen:=pJ.length;have h0:0<xs.length:=Ao.mpr dH;have e0:=bu h0;refine⟨_,Z,.inl ⟨l,xs,0,xs[0],Z,Z,hl,cL aB e0,?_⟩⟩;refine⟨_,Z,l,Z,⟨_,hl⟩,zu (K:=K) (a:=l) (xs:=xs) (λi O H2=>H2=H/\∃(j:Nat)(b:V)(r:Rat)(v:Option V),xs[j]? =some b/\rs[j]? =some r/\(∀(m:Nat)(s:Rat),m<i->rs[m]? =some s->r<=s)/\O=[some (.ref l),some b,v]) ?_ (λi O H2 _ h=>by rw[h.1];exact hl) ?_ ?_⟩
  ·obtain⟨r,e1,_⟩:=pJ.get e0
   exact⟨Z,0,_,r,none,e0,e1,λm s hm=>absurd hm (Nat.not_lt_zero _),Z⟩
  ·rintro i x O H2 hx ⟨rfl,j,b,r,v,eb,er,hm,rfl⟩
   obtain⟨t,et,rt,bt⟩:=pJ.get hx;obtain⟨r2,zx,rb,bb⟩:=pJ.get eb;rw[er]at zx;cases zx;refine⟨_,Z,_,Z,x,b,t,r,Z,rt,rb,bt,bb,_,Z,?_⟩;refine dJ (λhc=>?_) (λhc=>?_)
   ·have bP:t<r:=jc hc
    refine⟨_,Z,?_⟩;refine⟨Z,i,x,t,_,hx,et,λm s uu es=>?_,Z⟩;rcases JZ.mp uu with h|h
    ·exact cy (Ad bP) (hm m s h es)
    ·subst h
     rw[et]at es;cases es;exact iI
   ·have Hu:¬t<r:=λz=>hc (cm z)
    refine⟨Z,j,b,r,_,eb,er,λm s uu es=>?_,Z⟩;rcases JZ.mp uu with h|h
    ·exact hm m s h es
    ·subst h
     rw[et]at es;cases es;exact oF.mp Hu
  ·rintro O H2 ⟨rfl,j,b,r,v,eb,er,hm,rfl⟩
   refine⟨_,Z,k j b r eb er λs hs=>?_⟩;obtain⟨m,rL,em⟩:=Uj.mp hs;exact hm m s aw (by rw[bu rL,em])
theorem YY(F:FA K mg "_law_top" DW)(B:bE mg)(uD:aF P w K mg aA "_law_frac" 1 (vF K)):aF P w K mg aA "_law_top" 2 (xU K):=by
 refine F.has Mb (λvs H Q E h=>?_) (λ_ _ _ _ _ _=>dC λ_ _=>rfl) (λf aM A outer s H vs Q E hr h=>?_)
 ·obtain⟨v,ns,sp,r,rfl,_⟩:=h
  rfl
 ·obtain⟨v,ns,sp,r,rfl,rd,s1,s2,r1,r2,k⟩:=h
  have nd:=Mb.nd;refine⟨_,(aG (aR (pf uD hr (au (aO bO (aO bO (aO bO (px K (pv 0) aD) (px K (pv 0) aD)) (pv 1)) (pv 1)) (au aD az))))),?_⟩;obtain⟨a,b,rfl,ha,hb⟩:=lP rd;have m1:(sp*sp).natAbs<=20*20:=by rw[gm];exact oG cj cj
  have m2:(sp*sp*r).natAbs<=400*200:=by rw[gm];exact oG cj cj
  refine⟨_,Z,.inr ⟨a,_,2,.int sp,Z,Z,ha,Z,_,Z,.inr ⟨a,_,2,.int sp,Z,Z,ha,Z,_,_,Z,Z,.of_left (cC cj cj),?_⟩⟩⟩;refine⟨_,Z,_,_,Z,Z,.of_left (cC cj cj),_,Z,_,_,Z,Z,.of_left (cC cj cj),?_⟩;refine⟨_,_,Z,aB,iJ (n:=20) aB aB,λv' H' r' s'=>k v' H' ?_ s'⟩;rw[Lh]at r';exact r'
theorem mn3{x y z q:Rat}(h:q=x\/q=y\/q=z)(h1:q<=x)(h2:q<=y)(h3:q<=z):mn (mn x y) z=q:=by
 refine CZ ?_ (lQ (lQ h1 h2) h3);rcases h with h|h|h
 ·rw[h];exact cy (fq _ _) (fq _ _)
 ·rw[h];exact cy (fq _ _) (gP _ _)
 ·rw[h];exact gP _ _
theorem nL:(2:Nat)^24=16777216:=by decide
theorem pF{n:Nat}{ns:List Int}(h:fb n 100 ns):aI ns<=100:=by have:=h.lead;lia
open Wk
def gK(pl:List Int):aj:=.tuple (pl.map PyData.int)
theorem jE(pl:List Int):dw (gK pl)=true:=by rw[gK,dw];exact kI pl
theorem Gf{H:Hp}{v:V}{pl:List Int}(h:RD K H v (gK pl)):∃a,v= .ref a/\aU K H a (pl.map V.int):=by obtain⟨a,xs,rfl,h1,h2⟩:=h.cB;rw[h2.hZ]at h1;exact⟨a,Z,h1⟩
theorem Ge{H:Hp}{a:Addr}{pl:List Int}(h:aU K H a (pl.map V.int)):RD K H (.ref a) (gK pl):=fA h (qS pl)
def ij(pl:List Int):Itm->List Int |none=>pl |some (ns,_)=>kn pl ns
theorem bF.putL{p l:Addr}{H H1:Hp}{xs:List V}(b:bF p H H1)(hp:l≠p)(nl:H l=none):bF p H (L2.upd H1 l (.lst xs)):=by
 refine⟨?_,λc o n e=>?_⟩
 ·obtain⟨c',m',e,ok⟩:=b.bI
  exact⟨c',m',by rw[aV hp.symm];exact e,ok⟩
 ·rw[aV (dU e nl)];exact b.same c o n e
inductive a9z(K:ag)(vs:List V)(H:Hp)(Q:VK):Prop |mk (p:_)(m:_)(rs:_)(r:_)(f:_)(j:_)(t:_)(h0:vs=[.ref p,m])(h1:gh H p)(h2:RD K H m (fE rs r f j t))(h3:iT rs r f j t)(h4:∀v pl H',RD K H' v (gK pl)->jN rs pl->bF p H H'->Q v H')
def LJ(K:ag):Sp:=λvs H Q _=>a9z K vs H Q
theorem ME:bj ["_law_bag_here","_law_machine_here"] ["_law_bag_here","_law_machine_here"] (aX EA):=bw aQ
theorem ZC(F:FA K mg "_law_place" EA)(B:bE mg)(dA:aF P w K mg aA "_law_take" 1 mi):aF P w K mg aA "_law_place" 2 (LJ K):=by
 refine F.has ME (λvs H Q E h=>?_) (λ_ _ _ _ _ _=>dC λ_ _=>rfl) (λf aM A outer s H vs Q E hr h=>?_)
 ·obtain⟨p,m,rs,r,f,j,t,rfl,_⟩:=h
  rfl
 ·obtain⟨p,m,rs,r,f,j,t,rfl,bg,rm,wa,k⟩:=h
  have nd:=ME.nd;refine⟨_,(aG (aR (gL (x:="tuple") (me K Z) Z (B.at "tuple") fh (au (fS (N:=["_law_rail","_law_bag_here"]) (js:=[none,some 0]) rfl rfl rfl (mC K rfl (px K (pv 1) aD)) (λ_ _ _ _ _=>(aY 0 (fY aB))) (λ_ _ _ _ _=>fm) (λ_ _ _ _ _=>(pf dA hr (au (pv 1) (au (aO cQ (pv 0) aD) az))))) az)))),?_⟩;obtain⟨ma,mb,rfl,gD,lT⟩:=mH rm;have lr:=wa.len;refine⟨_,Z,.inr ⟨ma,_,0,.ref mb,Z,Z,gD,cL (gI 0) Z,mb,Z,⟨_,lT⟩,λD H1 n1=>?_⟩⟩;refine Sk (K:=K) (J:=sQ K mb) (p:=p) (H:=H) rs.length _ n1 bg aw (λi=>.int (rs.getD i 0)) (λi H2 hi b2=>?_) (λH2 b2=>?_) (λi d=>∃z r,d= .int z/\rs[i]? =some r/\0<=z/\z<=r) ?_ ?_
  ·have Qh:=lT.t (bF.t bg b2)
   have e:(rs.map V.int)[i]? =some (.int (rs.getD i 0)):=by rw[bX,Kb,bu hi];rfl
   exact⟨⟨_,_,Qh,e⟩,λy H3 ⟨e3,y3⟩=>⟨e3,by have:=y3 _ Qh;rw[e]at this;exact(eO this).symm⟩⟩
  ·exact⟨_,lT.t (bF.t bg b2),by rw[bL];exact bf _⟩
  ·intro i H2 Q' hi b2 hq
   have er:rs[i]? =some (rs.getD i 0):=by rw[Kb,bu hi];rfl
   obtain⟨r0,r1⟩:=wa.rl _ (gj er);refine⟨_,Z,_,Z,_,_,Z,Z,p,_,Z,b2.bI,aw,aw,λz H3 z0 z1 b3=>?_⟩;exact hq _ _ _ ⟨z,_,Z,er,z0,aw⟩ Z (dN z) b3
  ·intro H2 ys ds b2 d2 r2 l2 nl pd
   have rX:∃pl:List Int,ds=pl.map PyData.int/\jN rs pl:=by
    have key:∀(ds:List aj),(∀d∈ds,∃z:Int,d= .int z)->∃pl:List Int,ds=pl.map PyData.int:=by intro ds;induction ds with |nil=>exact λ_=>⟨[],Z⟩ |cons d ds ih=>intro h;obtain⟨z,rfl⟩:=h d (.head _);obtain⟨pl,rfl⟩:=ih λx hx=>h x (.tail _ hx);exact⟨z::pl,Z⟩
    obtain⟨pl,rfl⟩:=key ds λd hd=>by obtain⟨i,hi⟩:=vo.mp hd;obtain⟨z,_,e,_⟩:=pd i d hi;exact⟨z,e⟩
    refine⟨pl,Z,by simpa using l2,λi x r e1 e2=>?_⟩;obtain⟨z,r',e,er,h0,h1⟩:=pd i (.int x) (by rw[bX,e1];rfl);cases e;rw[e2]at er;cases er;exact⟨h0,h1⟩
   obtain⟨pl,rfl,on⟩:=rX;refine⟨D,_,Z,.inl ⟨aK.of d2,λt H3 n3=>?_⟩⟩;have et:=n3.at';rw[r2.hZ]at et;exact k (.ref t) pl H3 (Ge (aU.of et)) on (b2.trans (.fH b2.bI n3.same))
inductive a9K(K:ag)(vs:List V)(H:Hp)(Q:VK):Prop |mk (p:_)(m:_)(rs:_)(r:_)(f:_)(j:_)(t:_)(x:_)(pl:_)(mo:_)(h0:vs=[.ref p,m,x,.int mo])(h1:gh H p)(h2:RD K H m (fE rs r f j t))(h3:iT rs r f j t)(h4:RD K H x (gK pl))(h5:jN rs pl)(h6:1<=mo)(h7:mo<=100)(h8:∀v ns sp H',RD K H' v (hW ns sp)->fb rs.length 100 ns->1<=sp->sp<=20->jN rs (kn pl ns)->bF p H H'->Q v H')
def DF(K:ag):Sp:=λvs H Q _=>a9K K vs H Q
def fM(rs pl is:List Int)(mo:Int):Prop:=∀(j:Nat)(z a r:Int),is[j]? =some z->pl[j]? =some a->rs[j]? =some r->0<=a+z/\a+z<=r/\(z.natAbs:Int)<=mo
theorem fM.on{rs pl is:List Int}{mo:Int}(h:fM rs pl is mo)(lp:pl.length=rs.length)(ls:is.length=pl.length):jN rs (kn pl is):=by
 refine⟨by rw[vd ls];exact lp,?_⟩;intro j x r ej o8;have hj:j<pl.length:=by have:=(cv.mp ej).1;rw[vd ls]at this;exact this
 have RF:=Ju (bu hj) (bu (show j<is.length by lia));rw[ej]at RF;have ej3:=eO RF;have:=h j _ _ r (bu (show j<is.length by lia)) (bu hj) o8
 lia
theorem fM.bd{rs pl is:List Int}{mo:Int}(h:fM rs pl is mo)(lp:pl.length=rs.length)(ls:is.length=pl.length):∀z∈is,(z.natAbs:Int)<=mo:=λz lR=>by obtain⟨j,hj⟩:=vo.mp lR;have Qj:=(cv.mp hj).1;exact(h j z _ _ hj (bu (show j<pl.length by lia)) (bu (show j<rs.length by lia))).2.2
theorem fM.snoc{rs pl is:List Int}{mo z a r:Int}(h:fM rs pl is mo)(ea:pl[is.length]? =some a)(er:rs[is.length]? =some r)(hz:0<=a+z/\a+z<=r/\(z.natAbs:Int)<=mo):fM rs pl (is++[z]) mo:=by
 intro j z' a' r' ej kT o8;by_cases hj:j<is.length
 ·rw[kZ hj]at ej
  exact h j z' a' r' ej kT o8
 ·have uw:j=is.length:=by
   have:=(cv.mp ej).1;rw[cE]at this;have:j<is.length+1:=this
   lia
  rw[uw,m9 (bf _),Ah]at ej;cases ej;rw[uw]at kT o8;rw[ea]at kT;rw[er]at o8;cases kT;cases o8;exact hz
theorem fM.set{rs pl is:List Int}{mo z a r:Int}{i:Nat}(h:fM rs pl is mo)(ea:pl[i]? =some a)(er:rs[i]? =some r)(hz:0<=a+z/\a+z<=r/\(z.natAbs:Int)<=mo):fM rs pl (is.set i z) mo:=by
 intro j z' a' r' ej kT o8;by_cases hj:j=i
 ·subst hj
  rw[ea]at kT;rw[er]at o8;cases kT;cases o8;have hl:j<is.length:=by have:=(cv.mp ej).1;rwa [vp]at this
  rw[Aq hl]at ej;cases ej;exact hz
 ·rw[K9 (jy hj)]at ej
  exact h j z' a' r' ej kT o8
theorem MN:bj ["_law_bag_here","_law_machine_here","_law_place_here","_law_most","_law_steps","_law_flat","_law_axis","_law_stand_here","_law_low","_law_high"] ["_law_bag_here","_law_machine_here","_law_place_here","_law_most"] (aX EJ):=bw aQ
theorem ZO(F:FA K mg "_law_line" EJ)(B:bE mg)(dA:aF P w K mg aA "_law_take" 1 mi):aF P w K mg aA "_law_line" 2 (DF K):=by
 refine F.has MN (λvs H Q E h=>?_) (λ_ _ _ _ _ _=>sN λ_ _ _ _=>rfl) (λfa aM A outer s H vs Q E hr h=>?_)
 ·obtain⟨p,m,rs,r,f,j,t,x,pl,mo,rfl,_⟩:=h
  rfl
 ·obtain⟨p,m,rs,r,f,j,t,x,pl,mo,rfl,bg,rm,wa,rx,on,P4,P2,k⟩:=h
  have nd:=MN.nd;refine⟨_,(aE (pS 4 nd (dj az)) (aE (pS 5 nd (pf dA hr (au (pv 0) (au aD az)))) (aE (gJ fe Z (Bq K Z false Z (B.at "enumerate") (au (pv 2) az)) (cW K rfl (n:=2) rfl (bC (aY 6 nd) (bC (aY 7 nd) cV))) (aE (pS 8 nd (eD (x:="max") (a7U Z) Z (B.at "max") JX (au aD (au (aO gM (pv 7) (pv 3)) az)))) (aE (pS 9 nd (eD (x:="min") (J8 Z) Z (B.at "min") Ue (au (px K (px K (pv 1) aD) (pv 6)) (au (aO cQ (pv 7) (pv 3)) az)))) (aE (e9 (iP K Z (pv 4) (au (aO gM (aO cQ (pv 8) (pf dA hr (au (pv 0) (au (aO cQ (aO gM (pv 9) (pv 8)) aD) az)))) (pv 7)) az))) (aG (bp (bG (cI K Z hr.units) (pv 5) (pv 6) (aZ _)) (aG (eU aD (tP (pv 4) (pv 6) set_list))) bA)))))) (aE (iM (bp (cU (bU (eD (x:="any") (a8p K Z Z) Z (B.at "any") Ug (au (pv 4) az)))) (aE (pS 6 nd (pf dA hr (au (pv 0) (au (dk K B (au (pv 4) az)) az)))) (aG (eU (aO gM aD (aO bO aD (gL (x:="int") zQ Z (B.at "int") xA (au (eB mE (px K (pv 2) (pv 6)) aD (aZ _)) az)))) (tP (pv 4) (pv 6) set_list)))) bA)) (aG (aR (df (au fg (au (gL (x:="tuple") (me K Z) Z (B.at "tuple") fh (au (pv 4) az)) (au (aO cQ aD (pf dA hr (au (pv 0) (au aD az)))) az)))))))))),?_⟩;have lr:=wa.len;have lp:=on.len;obtain⟨ma,mb,rfl,gD,lT⟩:=mH rm;obtain⟨xa,rfl,Hh⟩:=Gf rx;refine⟨bR Z,λl H1 n1=>?_⟩;have b1:bF p H H1:=.fH bg n1.same;have wC:l≠p:=λz=>bg.ne (z▸n1.no);refine⟨_,Z,p,4,Z,b1.bI,aB,aB,λfl H2 f0 f1 b2=>?_⟩;have T7:=b1.trans b2;have VU:=bF.t bg T7;refine⟨_,Z,xa,Z,⟨_,Hh.t VU⟩,Cg (K:=K) (b:=false) (a:=xa) (xs:=pl.map V.int) (λi O H3=>bF p H H3/\∃(is:List Int)(v1 v2 v3 v4:Option V),H3 l=some (.lst (is.map V.int))/\is.length=i/\fM rs pl is mo/\O=[some (.ref p),some (.ref ma),some (.ref xa),some (.int mo),some (.ref l),some (.int fl),v1,v2,v3,v4]) ?_ (λi O H3 _ h=>Hh.t (bF.t bg h.1)) ?_ ?_⟩
  ·exact⟨T7,[],none,none,none,none,b2.same _ _ wC n1.at',Z,λj z a r e=>by simp at e,Z⟩
  ·rintro i y O H3 hy ⟨b3,is,v1,v2,v3,v4,dl,li,hz,rfl⟩ T H4 n4
   rw[bX]at hy;obtain⟨a,ea,rfl⟩:=D7.mp hy;have Qk:i<pl.length:=(cv.mp ea).1;obtain⟨rl,er⟩:∃rl,rs[i]? =some rl:=⟨_,bu (show i<rs.length by lia)⟩;obtain⟨a0,a1⟩:=on.at' i a rl ea er;obtain⟨r0,r1⟩:=wa.rl rl (gj er);have b4:bF p H H4:=b3.trans (.fH b3.bI n4.same);have t4:=bF.t bg b4;have om:=n4.same _ _ dl;have atr:ft (rs.map V.int) (i:Int)=some (.int rl):=cL aw (by rw[bX];simp[er]);refine⟨T,_,Z,aU.of n4.at',Z,_,_,Z,_,_,Z,Z,?_⟩;refine⟨_,Z,_,Z,_,_,Z,Z,_,_,Z,?_⟩;obtain⟨low,a78,lo0,lo1,lo2⟩:∃low:Int,(if a-mo>0 then a-mo else 0)=low/\0<=low/\a-mo<=low/\low<=a:=⟨_,Z,by split<;>lia,by split<;>lia,by split<;>lia⟩;rw[a78];refine⟨_,Z,.inr ⟨ma,_,0,.ref mb,Z,Z,gD.t t4,Z,_,Z,.inr ⟨mb,_,_,.int rl,Z,Z,lT.t t4,atr,_,Z,_,Z,_,_,Z,Z,_,_,Z,?_⟩⟩⟩;obtain⟨hi,uP,hi0,hi1,ze⟩:∃hi:Int,(if a+mo<rl then a+mo else rl)=hi/\a<=hi/\hi<=rl/\hi<=a+mo:=⟨_,Z,by split<;>lia,by split<;>lia,by split<;>lia⟩;rw[uP];refine⟨_,Z,.inl ⟨Z,_,aK.of om⟩,?_⟩;refine⟨_,Z,_,Z,_,Z,_,Z,_,_,Z,Z,_,_,Z,Z,p,hi-low+1,Z,b4.bI,aw,aw,λd H5 d0 d1 b5=>?_⟩;refine⟨_,_,Z,Z,_,Z,_,_,Z,Z,l,_,_,Z,Z,b5.same _ _ wC om,?_,?_⟩
   ·rw[bL,li]
    have:(1000:Nat)<sizeLine:=by decide
    lia
   have b6:bF p H (L2.upd H5 l (.lst (is.map V.int++[.int (low+d-a)]))):=(b4.trans b5).putL wC n1.no;have e6:(L2.upd H5 l (.lst (is.map V.int++[.int (low+d-a)]))) l=some (.lst ((is++[low+d-a]).map V.int)):=by rw[bQ,jd];rfl
   generalize L2.upd H5 l (.lst (is.map V.int++[.int (low+d-a)]))=H6 at b6 e6⊢;rw[<-li]at ea er;have Lc:=hz.snoc ea er (z:=low+d-a) aw;refine⟨_,Z,_,Z,.inl ⟨_,_,Z,Z,_,Z,?_⟩⟩;refine dJ (λhc=>?_) (λhc=>?_)
   ·have ix:j4 ((is++[low+d-a]).map V.int).length (i:Int)=some i:=by unfold j4;rw[bo aw,bo (by rw[bL,cE];show(i:Int)<((is.length+1:Nat):Int);lia)];simp
    refine⟨_,Z,_,Z,l,_,_,_,Z,Z,e6,ix,?_⟩;refine⟨b6.putL wC n1.no,(is++[low+d-a]).set i 0,_,_,_,_,by rw[bQ,Am],by rw[vp,cE,li];rfl,?_,Z⟩;rw[li]at ea er;exact Lc.set ea er aw
   ·exact⟨b6,is++[low+d-a],_,_,_,_,e6,by rw[cE,li];rfl,Lc,Z⟩
  ·rintro O H3 ⟨b3,is,v1,v2,v3,v4,dl,li,hz,rfl⟩
   rw[bL]at li;have t3:=bF.t bg b3;refine⟨λO H4=>bF p H H4/\∃(is:List Int)(v1:Option V),H4 l=some (.lst (is.map V.int))/\fb rs.length 100 is/\jN rs (kn pl is)/\O=[some (.ref p),some (.ref ma),some (.ref xa),some (.int mo),some (.ref l),some (.int fl),v1,v2,v3,v4],?_,?_⟩
   ·refine⟨_,Z,l,is,Z,.inl (aK.of dl),_,Z,?_⟩
    cases ha:is.any (· !=0)with |false=>
     refine bK ?_;refine⟨_,Z,_,Z,l,_,Z,.inl (aK.of dl),p,_,Z,b3.bI,(by rw[bL];lia),(by rw[bL];lia),λax H4 a0 a1 b4=>?_⟩;rw[bL]at a1;have SX:=b3.trans b4;have Qy:ax.toNat<pl.length:=by lia
     have ea:=bu Qy;have er:=bu (show ax.toNat<rs.length by lia);obtain⟨q0,q1⟩:=on.at' _ _ _ ea er;obtain⟨r0,r1⟩:=wa.rl _ (gj er);have T9:ft (pl.map V.int) ax=some (.int pl[ax.toNat]):=cL a0 (by rw[bX,ea];rfl);generalize pl[ax.toNat]=qa at ea q0 q1 T9;generalize rs[ax.toNat]=qr at er q1 r0 r1;refine⟨_,Z,_,Z,.inr ⟨xa,_,_,_,Z,Z,Hh.t (bF.t bg SX),T9,?_⟩⟩;refine⟨_,_,Z,Z,.inr ⟨_,Z,?_⟩⟩;refine⟨_,_,Z,Z,.of_left (cC aB aB),_,_,Z,Z,?_⟩;obtain⟨y,ey,y1,y2,y3⟩:∃y:Int,(1-2*(if decide (qa>0)=true then 1 else 0):Int)=y/\y.natAbs=1/\0<=qa+y/\qa+y<=qr:=by
      by_cases h:qa>0
      ·rw[cm h];exact⟨-1,Z,Z,aw,aw⟩
      ·rw[dF h];exact⟨1,Z,Z,aw,aw⟩
     have om:=b4.same _ _ wC dl;have ix:j4 (is.map V.int).length ax=some ax.toNat:=by unfold j4;rw[bo a0,bo (by rw[bL];lia)]
     refine⟨_,Z,_,Z,l,_,_,_,Z,Z,om,ix,?_⟩;have st:=hz.set (i:=ax.toNat) ea er (z:=y) aw;have ls:(is.set ax.toNat y).length=pl.length:=by rw[vp];lia
     refine⟨SX.putL wC n1.no,is.set ax.toNat y,_,?_,⟨aw,λz lR=>?_,?_⟩,st.on lp ls,Z⟩
     ·rw[bQ,<-Am]
      simp only[ey]
     ·have:=st.bd lp ls z lR;lia
     ·exact⟨y,Uj.mpr ⟨ax.toNat,by rw[vp];lia,by rw[List.getElem_set_self]⟩,aw⟩ |true=>
     refine aW ?_;have ls:is.length=pl.length:=by lia
     refine⟨b3,is,_,dl,⟨aw,λz lR=>?_,?_⟩,hz.on lp ls,Z⟩
     ·have:=hz.bd lp ls z lR;lia
     ·obtain⟨z,lR,h0⟩:=sZ.mp ha
      exact⟨z,lR,by simpa using h0⟩
   rintro O H4 ⟨b4,is,v1,dl,ok,Bz,rfl⟩;refine⟨_,Z,l,_,Z,.inl ⟨aK.of dl,λq H5 n5=>?_⟩⟩;have b5:bF p H H5:=b4.trans (.fH b4.bI n5.same);have qp:q≠p:=λe=>b4.bI.ne (e▸n5.no);refine⟨_,Z,p,20,Z,b5.bI,aB,aB,λsp H6 p0 p1 b6=>?_⟩;refine⟨_,_,Z,Z,bR Z,λt H7 n7=>?_⟩;have b7:=b5.trans (b6.trans (.fH b6.bI n7.same));exact k (.ref t) is (1+sp) H7 (fA (aU.of n7.at') (cf (cT _) (cf (fA (aU.of (n7.same _ _ (b6.same _ _ qp n5.at'))) (qS is)) (cf (dN _) cH)))) ok aw aw Bz b7
def fT(z:Str):Prop:=∀c∈z.cps.toList,c<0x110000
theorem fT.app{a b:Str}(ha:fT a)(hb:fT b):fT (a++b):=λc hc=>by rw[Ub,Uu,jz]at hc;exact hc.elim (ha c) (hb c)
theorem fT.joined{sep:Str}(hs:fT sep):∀l:List Str,(∀a∈l,fT a)->fT (PySem.Str.join sep l) |[],_=>λc hc=>by simp[PySem.Str.join,PySem.Str.empty]at hc |[x],h=>h x (.head _) |x::y::r,h=>((h x (.head _)).app hs).app (fT.joined hs (y::r) λa ha=>h a (.tail _ ha))
theorem fT.join{sep:Str}{l:List Str}(hs:fT sep)(h:∀a∈l,fT a):fT (Txt.join sep l):=by show fT (Builtin.Str.glued sep l);rw[StrLaws.glued_eq_join];exact fT.joined hs l h
theorem YU{n:Nat}{z:Str}(h:fT z):dM n (.str z):=⟨by show PyData.strOk z=true;unfold PyData.strOk;rw[ab2];exact λc hc=>cm (h c (by simpa using hc)),gH _⟩
theorem YS{n:Nat}{z:Str}(h:dM n (.str z)):fT z:=λc hc=>by have q:PyData.strOk z=true:=h.lay;unfold PyData.strOk at q;rw[ab2]at q;exact jc (q c (by simpa using hc))
theorem Oy{z:Str}(h:z.cps.all (·<0x110000)=true):fT z:=YS (n:=0) ⟨h,gH _⟩
theorem KZ:∀(ds:List aj),(∀d∈ds,∃z:Str,d= .str z/\z.length=1/\fT z/\z.cps.toList.all (λc=>decide (97<=c)&&decide (c<=122))=true)->∃zs:List Str,ds=zs.map PyData.str/\∀z∈zs,z.length=1/\fT z/\z.cps.toList.all (λc=>decide (97<=c)&&decide (c<=122))=true |[],_=>⟨[],Z,λ_ h=>nomatch h⟩ |d::ds,h=>by obtain⟨z,rfl,e⟩:=h d (.head _);obtain⟨zs,rfl,q⟩:=KZ ds λx hx=>h x (.tail _ hx);exact⟨z::zs,Z,λy hy=>by
 rcases dh.mp hy with rfl|hy
 ·exact e
 ·exact q y hy⟩
theorem a8B:fT jt:=Oy aQ
def GI(c:Nat):Bool:=decide (97<=c)&&decide (c<=122)
def yH(s:Str):Bool:=(decide (1<=s.length)&&decide (s.length<=8))&&s.cps.toList.all GI
def Ou(w s:Str):Prop:=(w="tool"/\(s="up"\/s="down"))\/(w="mark"/\yH s=true)
def kr(d:aj):Prop:=(∃n,d= .tuple [.str "wait",.int n]/\1<=n/\n<=1000)\/∃w s,d= .tuple [.str w,.str s]/\(w="tool"\/w="mark")/\dM 0 (.str s)/\Ou w s
theorem QJ:∀l:List Str,(PySem.Str.join ("":Str) l).cps.toList=(l.map λz=>z.cps.toList).flatten
 |[]=>by simp[PySem.Str.join,PySem.Str.empty] |[x]=>by simp[PySem.Str.join] |x::y::r=>by
  show((x++("":Str))++PySem.Str.join ("":Str) (y::r)).cps.toList=_;rw[Ub,Ub,Uu,Uu,QJ (y::r)];have:(("":Str)).cps.toList=[]:=by decide+kernel
  rw[this];simp
theorem a1b{l:List Str}(h1:1<=l.length)(h8:l.length<=8)(h:∀z∈l,z.length=1/\z.cps.toList.all GI=true):yH (Txt.join ("":Str) l)=true:=by
 have e:(Txt.join ("":Str) l).cps.toList=(l.map λz=>z.cps.toList).flatten:=by show(Builtin.Str.glued ("":Str) l).cps.toList=_;rw[StrLaws.glued_eq_join];exact QJ l
 have el:(Txt.join ("":Str) l).length=l.length:=by
  show(Txt.join ("":Str) l).cps.size=_;rw[<-Ax,e,List.length_flatten,List.map_map];have:∀(l:List Str),(∀z∈l,z.length=1/\z.cps.toList.all GI=true)->(l.map (List.length∘λz=>z.cps.toList)).sum=l.length:=by intro l;induction l with |nil=>intro _;rfl |cons a r ih=>
   intro h;rw[An,List.sum_cons,ih λz hz=>h z (.tail _ hz),jQ];have:=(h a (.head _)).1;have e2:(List.length∘λz:Str=>z.cps.toList) a=1:=by show a.cps.toList.length=1;rw[Ax];exact this
   rw[e2,K2]
  exact this l h
 unfold yH;rw[el,e,cm h1,cm h8,kz,kz,gW];intro c hc;obtain⟨cs,nU,uB⟩:=List.mem_flatten.mp hc;obtain⟨z,hz,rfl⟩:=fW.mp nU;exact gW.mp (h z hz).2 c uB
theorem kr.it{d:aj}(h:kr d):itR d none:=by
 rcases h with⟨n,rfl,_⟩|⟨w,s,rfl,hw|hw,_⟩
 ·exact .inr ⟨_,_,Z,.inl Z,Z,Z⟩
 ·exact .inr ⟨_,_,Z,.inr (.inl hw),Z,Z⟩
 ·exact .inr ⟨_,_,Z,.inr (.inr hw),Z,Z⟩
inductive a9D(K:ag)(vs:List V)(H:Hp)(Q:VK):Prop |mk (p:Addr)(h0:vs=[.ref p])(h1:gh H p)(h2:∀v d H',RD K H' v d->kr d->bF p H H'->Q v H')
def LL(K:ag):Sp:=λvs H Q _=>a9D K vs H Q
theorem ZF(F:FA K mg "_law_other" EC)(B:bE mg)(dA:aF P w K mg aA "_law_take" 1 mi):aF P w K mg aA "_law_other" 2 (LL K):=by
 refine F.has MG (λvs H Q E h=>?_) (λ_ _ _ _ _ _=>eJ λ_=>rfl) (λf aM A outer s H vs Q E hr h=>?_)
 ·obtain⟨p,rfl,_⟩:=h
  rfl
 ·obtain⟨p,rfl,bg,k⟩:=h
  have nd:=MG.nd;refine⟨_,(aE (pS 1 nd (pf dA hr (au (pv 0) (au aD az)))) (aE (bp (bG (cI K Z hr.units) (pv 1) aD (aZ _)) (aG (aR (df (au fg (au (aO cQ aD (pf dA hr (au (pv 0) (au (px K (dj (au aD (au aD az))) (pf dA hr (au (pv 0) (au aD az)))) az)))) az))))) bA) (aE (bp (bG (cI K Z hr.units) (pv 1) aD (aZ _)) (aG (aR (df (au fg (au (px K (dj (au fg (au fg az))) (pf dA hr (au (pv 0) (au aD az)))) az))))) bA) (aE (pS 2 nd fg) (aG (aR (df (au fg (au (Yt K Z fg (au (fS (N:=["_law_turn","_law_letters","_law_bag_here"]) (js:=[none,some 2,some 0]) Z Z Z (p7 Z (B.at "range") (au (aO cQ aD (pf dA hr (au (pv 0) (au aD az)))) az)) (λ_ _ _ _ _=>(aY 0 (show List.Nodup (["_law_turn","_law_letters","_law_bag_here"]:List Str) by decide+kernel))) (λ_ _ _ _ _=>fm) (λ_ _ _ _ _=>(Oc a2s (pv 1) (pf dA hr (au (pv 2) (au aD az))) (λ_ _=>rfl)))) az)) az))))))))),?_⟩;refine⟨_,Z,p,3,Z,bg,aB,aB,λso H1 s0 s1 b1=>?_⟩;refine⟨_,Z,.inl ⟨_,_,Z,Z,_,Z,?_⟩⟩;refine dJ (λhc=>?_) (λhc=>?_)
  ·refine⟨_,Z,bR Z,λc H2' GA=>?_⟩
   have SY:bF p H1 H2':=.fH b1.bI GA.same;have cp:c≠p:=λz=>b1.bI.ne (z▸GA.no);refine⟨_,Z,p,2,Z,SY.bI,aB,aB,λi H3' i0 i1 Ji=>?_⟩;have hi:∃z:Int,ft ([.int 1000,.int 2]:List V) i=some (.int z)/\2<=z/\z<=1000:=by
    rcases(show i=0\/i=1 by lia)with rfl|rfl
    ·exact⟨1000,Z,aB,aB⟩
    ·exact⟨2,Z,aB,aB⟩
   obtain⟨z,ez,z2,ab3⟩:=hi;refine .inl ⟨c,_,_,_,Z,Z,aK.of (Ji.same _ _ cp GA.at'),ez,?_⟩;refine⟨p,z,Z,Ji.bI,aw,aw,λn H2 n0 n1 a8f=>?_⟩;have b2:=SY.trans (Ji.trans a8f);refine⟨_,_,Z,Z,bR Z,λt H3 n3=>?_⟩;exact k (.ref t) _ H3 (fA (aU.of n3.at') (cf (cT _) (cf (dN _) cH))) (.inl ⟨_,Z,aw,aw⟩) (b1.trans (b2.trans (.fH b2.bI n3.same)))
  refine⟨_,Z,.inl ⟨_,_,Z,Z,_,Z,?_⟩⟩;refine dJ (λhc=>?_) (λhc=>?_)
  ·refine⟨bR Z,λc H2 n2=>?_⟩
   have b2:bF p H1 H2:=.fH b1.bI n2.same;have cp:c≠p:=λz=>b1.bI.ne (z▸n2.no);refine⟨_,Z,p,2,Z,b2.bI,aB,aB,λi H3 i0 i1 b3=>?_⟩;have hi:∃z:Str,ft ([.str "up",.str "down"]:List V) i=some (.str z)/\dM 0 (.str z)/\Ou "tool" z:=by
    rcases(show i=0\/i=1 by lia)with rfl|rfl
    ·exact⟨"up",Z,⟨aQ,aQ⟩,.inl ⟨Z,.inl Z⟩⟩
    ·exact⟨"down",Z,⟨aQ,aQ⟩,.inl ⟨Z,.inr Z⟩⟩
   obtain⟨z,ez,YR,YM⟩:=hi;refine .inl ⟨c,_,_,_,Z,Z,aK.of (b3.same _ _ cp n2.at'),ez,bR Z,λt H4 n4=>?_⟩;exact k (.ref t) _ H4 (fA (aU.of n4.at') (cf (cT _) (cf (cT _) cH))) (.inr ⟨_,_,Z,.inl Z,YR,YM⟩) (b1.trans (b2.trans (b3.trans (.fH b3.bI n4.same))))
  refine⟨Z,?_⟩;refine⟨_,Z,p,8,Z,b1.bI,aB,aB,λn H2 n0 n1 b2=>?_⟩;refine⟨_,_,Z,Z,_,Z,aw,aw,λD H3 nD=>?_⟩;refine Sk (K:=K) (J:=oz 0 (1+n).toNat) (p:=p) (H:=H2) (1+n).toNat _ nD b2.bI aw (λi=>.int (0+(i:Int))) (λi H3 hi _=>⟨hi,λy H4 ⟨e,q⟩=>⟨e,q⟩⟩) (λH3 _=>bf _) (λ_ d=>∃z:Str,d= .str z/\z.length=1/\fT z/\z.cps.toList.all (λc=>decide (97<=c)&&decide (c<=122))=true) ?_ ?_
  ·intro i H3 Q' hi b3 hq
   refine⟨_,Z,_,Z,p,26,Z,b3.bI,aB,aB,λd H4 d0 d1 b4=>?_⟩;have hd:d.toNat<jt.cps.toList.length:=by rw[a8D];lia
   refine⟨jt,d,jt.cps.toList[d.toNat],Z,Z,aQ,cL d0 (bu hd),?_⟩;have dI:fT ⟨#[jt.cps.toList[d.toNat]]⟩:=λc hc=>by have kb:c=jt.cps.toList[d.toNat]:=fF.mp hc;rw[kb];exact a8B _ (xG hd)
   have eX:(⟨#[jt.cps.toList[d.toNat]]⟩:Str).cps.toList.all (λc=>decide (97<=c)&&decide (c<=122))=true:=by have:=gW.mp (show jt.cps.toList.all (λc=>decide (97<=c)&&decide (c<=122))=true by decide+kernel) _ (xG hd);show([jt.cps.toList[d.toNat]]:List Nat).all _=true;rw[Kd,List.all_nil,Kk];exact this
   exact hq _ _ _ ⟨_,Z,Z,dI,eX⟩ Z (cT _) b4
  ·intro H3 ys ds b3 d3 r3 l3 nl pd
   obtain⟨zs,rfl,hz⟩:=KZ ds λd hd=>by obtain⟨i,hi⟩:=vo.mp hd;exact pd i d hi
   rw[KY r3]at d3;rw[bL]at l3;refine⟨"",D,zs,Z,Z,aK.of d3,λz lR=>by rw[(hz z lR).1];decide,aB,aw,bR Z,λt H4 n4=>?_⟩;exact k (.ref t) _ H4 (fA (aU.of n4.at') (cf (cT _) (cf (cT _) cH))) (.inr ⟨_,_,Z,.inr Z,YU (fT.join (Oy aQ) λa ha=>(hz a ha).2.1),.inr ⟨Z,a1b aw aw λz lR=>⟨(hz z lR).1,(hz z lR).2.2⟩⟩⟩) (b1.trans (b2.trans (b3.trans (.fH b3.bI n4.same))))
open Ow (Itm)
theorem a1x{H:Hp}{v:V}{rs:List Int}{es:List aj}(h:RD K H v (.tuple (.tuple (rs.map PyData.int)::es))):∃a b ys,v= .ref a/\aU K H a (.ref b::ys)/\aU K H b (rs.map V.int):=by obtain⟨a,xs,rfl,h1,h2⟩:=h.cB;obtain⟨x1,r1,rfl,e1,h2⟩:=h2.cons_inv;obtain⟨b,ys,rfl,h3,h4⟩:=e1.cB;rw[h4.hZ]at h3;exact⟨a,b,r1,Z,h1,h3⟩
def fK(z:Str):aj->Bool | .str x=>x==z |_=>false
theorem qc(z:Str)(d:aj):PyData.eqv d (.str z)=fK z d:=by cases d<;>simp[PyData.eqv,fK]
theorem Rf(z:Str)(d:aj):PyData.eqv (.str z) d=fK z d:=by cases d<;>simp[PyData.eqv,fK];rw[oM];simp;exact eq_comm
theorem W6(d:aj):(∃z,d= .str z)\/(gq (jS d) "str"=false/\∀z,d≠ .str z):=by cases d with |str z=>exact .inl ⟨z,Z⟩ |_=>exact .inr ⟨by simp[jS];decide,λ_ z=>nomatch z⟩
theorem V6:gq "str" "str"=true:=by decide
def Hc(d:aj):Bool:=fK "up" d||fK "down" d
def we(c:Nat):Bool:=decide (97<=c)&&decide (c<=122)
def isNm:aj->Bool | .str x=>(decide (1<=x.length)&&decide (x.length<=8))&&x.cps.toList.all we |_=>false
def pH(wd v:aj):Bool:=if fK "wait" wd then fZ 1 1000 v else if fK "tool" wd then Hc v else fK "mark" wd&&isNm v
def yC:aj->Bool | .int i=>i !=0 |_=>true
def tS(n:Nat):aj->Bool | .tuple ds=>(ds.length==n&&ds.all (fZ (-100) 100))&&ds.any yC |_=>false
def ui(n:Nat):aj->Bool | .tuple [wd,a,b]=>fK "line" wd&&(tS n a&&fZ 1 20 b) | .tuple [wd,v]=>pH wd v |_=>false
def qM:aj->Bool | .str x=>decide (x.length<=900) |_=>true
def DQ:aj->Bool | .tuple ds=>ds.all qM |_=>true
inductive a94(f:aj->Bool)(K:ag)(vs:List V)(H:Hp)(Q:VK):Prop |mk (v:_)(d:_)(h0:vs=[v])(h1:RD K H v d)(h2:qM d=true)(h3:∀H',aH H H'->Q (.bl (f d)) H')
def Ll(f:aj->Bool)(K:ag):Sp:=λvs H Q _=>a94 f K vs H Q
theorem Wr{z:Str}(h:qM (.str z)=true):z.length<=900:=jc h
theorem OT(n:Nat):decide ((1:Int)<=(n:Int))=decide (1<=n):=by rw[oM];simp;omega
theorem a19(n:Nat):decide ((n:Int)<=8)=decide (n<=8):=by rw[oM];simp;omega
theorem a8r{l:List Nat}{f:Nat->Bool}:(l.map f).all id=l.all f:=by rw[List.all_map];rfl
theorem a8C:∀c<128,decide (c∈jt.cps.toList)=we c:=by decide+kernel
theorem a8F:∀c∈jt.cps.toList,c<128:=by decide+kernel
theorem a8E(c:Nat):decide (c∈jt.cps.toList)=we c:=by
 by_cases h:c<128
 ·exact a8C c h
 ·rw[dF (λhc=>h (a8F c hc)),we,dF (show¬c<=122 by omega),Bool.and_false]
theorem N4:bj ["thing"] ["thing"] (aX F2):=bw aQ
theorem a04(F:FA K mg "is_name" F2)(B:bE mg)(a4m:GV mg "LONGEST_NAME" (.int 8))(a4n:GV mg "LETTERS" (.str jt)):aF P w K mg aA "is_name" 1 (Ll isNm K):=by
 refine F.has N4 (λvs H Q E h=>?_) (λ_ _ _ _ _ _=>eJ λ_=>rfl) (λf aM A outer s H vs Q E hr h=>?_)
 ·obtain⟨v,d,rfl,_⟩:=h
  rfl
 ·obtain⟨v,d,rfl,rd,sh,k⟩:=h
  have nd:=N4.nd;refine⟨_,(aE (bp (PW.pt (fQ (cU (bU (cP K B (au (pv 0) (au (cJ (x:="str") (v:=.ty "str") Z (B.at "str") sW rfl) az))))) (iY (cU (Y3 Bw Bw aD (eD (x:="len") a7W rfl (B.at "len") PySem.boot_len (au (pv 0) az)) (fC (x:="LONGEST_NAME") rfl a4m)))))) (aG (aR iO)) bA) (aG (aR (eD (x:="all") (qm K Z Z) Z (B.at "all") sX (au (fS (N:=["letter"]) (js:=[none]) rfl rfl rfl (Yd (pv 0)) (λ_ _ _ _ _=>(aY 0 (rj _))) (λ_ _ _ _ _=>fm) (λ_ _ _ _ _=>(eB YI (pv 0) (fC (x:="LETTERS") rfl a4n) (by with_unfolding_all rfl)))) az))))),?_⟩;rcases W6 d with⟨z,rfl⟩|⟨ht,hn⟩
  ·refine⟨_,Z,.inl ⟨_,_,"str",true,Z,rd.ty,aB,V6,_,Z,aW ?_⟩⟩
   cases rd.str_inv;have hl:=Wr sh;have k:∀H',aH H H'->Q (.bl ((decide (1<=z.length)&&decide (z.length<=8))&&z.cps.toList.all we)) H':=k;refine⟨_,Z,z,Z,gU hl aB,_,_,Z,Z,_,Z,?_⟩;refine dJ (λh1=>?_) (λh1=>?_)
   ·rw[<-OT,show decide ((1:Int)<=(z.length:Int))=true from h1,kz]at k
    refine⟨_,_,Z,Z,_,Z,?_⟩;rw[a19];cases e8:decide (z.length<=8)with |false=>rw[e8,lj]at k;exact bK (k H (aH.refl _)) |true=>
     rw[e8,kz]at k;refine aW ⟨_,Z,z,Z,λD H0 nw=>?_⟩;refine a7H (f:=we) [] nw aw (λc H2 Q' hc s2 hq=>?_) (λH2 s2 d2=>?_)
     ·refine⟨_,Z,c,jt,Z,Z,?_⟩
      rw[a8E];exact hq _ (aH.refl _)
     ·refine⟨D,_,Z,aK.of d2,?_⟩
      rw[a8r];exact k H2 s2
   ·rw[<-OT,show decide ((1:Int)<=(z.length:Int))=false from Aw.mpr h1,lj,lj]at k
    exact⟨_,Z,bK (k H (aH.refl _))⟩
  ·have e:isNm d=false:=by cases d<;>first|rfl|exact absurd rfl (hn _)
   rw[e]at k;refine⟨_,Z,.inl ⟨_,_,"str",false,Z,rd.ty,aB,ht,_,Z,bK ?_⟩⟩;exact k H (aH.refl _)
inductive a9h(K:ag)(vs:List V)(H:Hp)(Q:VK):Prop |mk (x:_)(v:_)(wd:_)(d:_)(h0:vs=[x,v])(h1:RD K H x wd)(h2:RD K H v d)(h3:dM 8 wd)(h4:dM 8 d)(h5:qM d=true)(h6:∀H',aH H H'->Q (.bl (pH wd d)) H')
def Lv(K:ag):Sp:=λvs H Q _=>a9h K vs H Q
theorem mj{d:aj}(h:dM 8 d):SeqAt.shaped d=true:=h.shaped aB
theorem N2:bj ["word","value"] ["word","value"] (aX F0):=bw aQ
theorem a02(F:FA K mg "is_short_item" F0)(B:bE mg)(a4l:GV mg "LONGEST_WAIT" (.int 1000))(gS:GT K mg "SIDES" [.str "up",.str "down"])(pM:aF P w K mg aA "is_whole_within" 2 (tK K))(a3B:aF P w K mg aA "is_name" 1 (Ll isNm K)):aF P w K mg aA "is_short_item" 3 (Lv K):=by
 refine F.has N2 (λvs H Q E h=>?_) (λ_ _ _ _ _ _=>dC λ_ _=>rfl) (λf aM A outer s H vs Q E hr h=>?_)
 ·obtain⟨x,v,wd,d,rfl,_⟩:=h
  rfl
 ·obtain⟨x,v,wd,d,rfl,FL,rd,Gk,yx,sh,k⟩:=h
  have nd:=N2.nd;obtain⟨aS,a4j,Wc⟩:=gS;refine⟨_,(aE (bp (bG (cI K Z hr.units) (pv 0) fg (aZ _)) (aG (aR (pf pM hr (au (pv 1) (au aD (au (fC (x:="LONGEST_WAIT") Z a4l) az)))))) bA) (aE (bp (bG (cI K Z hr.units) (pv 0) fg (aZ _)) (aG (aR (eB (a2J K Z (hr.UZ)) (pv 1) (fC (x:="SIDES") Z a4j) (by with_unfolding_all rfl)))) bA) (aG (aR (fX (eB (cI K Z hr.units) (pv 0) fg (aZ _)) (gz (pf a3B hr (au (pv 1) az)))))))),?_⟩;have k:∀H',aH H H'->Q (.bl (if fK "wait" wd then fZ 1 1000 d else if fK "tool" wd then Hc d else fK "mark" wd&&isNm d)) H':=k;refine⟨_,Z,.inr ⟨_,_,FL,cT _,mj Gk,aQ,_,Z,?_⟩⟩;rw[qc];cases e1:fK "wait" wd with |true=>rw[e1,bo rfl]at k;exact bK ⟨_,Z,_,d,1,1000,Z,rd,k H (aH.refl _)⟩ |false=>rw[e1,bB iX]at k;refine aW ⟨_,Z,.inr ⟨_,_,FL,cT _,mj Gk,aQ,_,Z,?_⟩⟩;rw[qc];cases e2:fK "tool" wd with
   |true=>
    rw[e2,bo rfl]at k;refine bK ⟨_,Z,aS,_,d,[.str "up",.str "down"],Z,Wc H,rd,cf (cT _) (cf (cT _) cH),mj yx,?_,?_⟩
    ·intro e he
     rcases dh.mp he with rfl|he
     ·decide+kernel
     rcases dh.mp he with rfl|he
     ·decide+kernel
     ·exact(fV he).elim
    ·have e:([.str "up",.str "down"]:List aj).any (λe=>PyData.eqv e d)=Hc d:=by rw[Dh,Dh,List.any_nil,Rf,Rf,Bool.or_false];rfl
     rw[e];exact k H (aH.refl _) |false=>rw[e2,bB iX]at k;refine aW ⟨_,Z,.inr ⟨_,_,FL,cT _,mj Gk,aQ,_,Z,?_⟩⟩;rw[qc];cases e3:fK "mark" wd with |true=>rw[e3,kz]at k;exact bK ⟨_,Z,_,d,Z,rd,sh,k⟩ |false=>rw[e3,lj]at k;exact aW (k H (aH.refl _))
theorem a0w(i:Int):(!decide (i=0))=(i !=0):=by rw[oM];simp
theorem a2I{lo hi:Int}{d:aj}(h:fZ lo hi d=true):∃i,d= .int i:=by cases d<;>simp[fZ]at h;exact⟨_,Z⟩
theorem any_map'{ds:List aj}{f:aj->Bool}:(ds.map f).any id=ds.any f:=by rw[List.any_map];rfl
inductive a9g(K:ag)(vs:List V)(H:Hp)(Q:VK):Prop |mk (m:V)(v:V)(rs:List Int)(es:List aj)(d:aj)(h0:vs=[m,v])(h1:RD K H m ((.tuple (.tuple (rs.map PyData.int)::es))))(h2:RD K H v d)(h3:rs.length<=3)(h4:∀H',aH H H'->Q (.bl (tS rs.length d)) H')
def Lu(K:ag):Sp:=λvs H Q _=>a9g K vs H Q
theorem Nv:bj ["machine","thing","rails"] ["machine","thing"] (aX Fz):=bw aQ
theorem a0p(F:FA K mg "are_steps" Fz)(B:bE mg)(QA:GV mg "MOST_STEPS" (.int 100))(pM:aF P w K mg aA "is_whole_within" 2 (tK K)):aF P w K mg aA "are_steps" 3 (Lu K):=by
 refine F.has Nv (λvs H Q E h=>?_) (λ_ _ _ _ _ _=>dC λ_ _=>rfl) (λf aM A outer s H vs Q E hr h=>?_)
 ·obtain⟨m,v,rs,es,d,rfl,_⟩:=h
  rfl
 ·obtain⟨m,v,rs,es,d,rfl,rm,rd,l3,k⟩:=h
  have nd:=Nv.nd;refine⟨_,(aE (pS 2 nd (px K (pv 0) aD)) (aE (bp (PW.pt (fQ (cU (bU (cP K B (au (pv 1) (au (cJ (x:="tuple") (v:=.ty "tuple") Z (B.at "tuple") fh rfl) az))))) (iY (bG (gO K rfl hr.units) (dk K B (au (pv 1) az)) (dk K B (au (pv 2) az)) (aZ _))))) (aG (aR iO)) bA) (aE (bp (cU (bU (eD (x:="all") (qm K Z Z) Z (B.at "all") sX (au (fS (N:=["step"]) (js:=[none]) rfl rfl rfl (mC K rfl (pv 1)) (λ_ _ _ _ _=>(aY 0 (rj _))) (λ_ _ _ _ _=>fm) (λ_ _ _ _ _=>(pf pM hr (au (pv 0) (au (mD md (fC (x:="MOST_STEPS") rfl QA)) (au (fC (x:="MOST_STEPS") rfl QA) az)))))) az)))) (aG (aR iO)) bA) (aG (aR (eD (x:="any") (Td K Z Z) Z (B.at "any") Ug (au (fS (N:=["step"]) (js:=[none]) rfl rfl rfl (mC K rfl (pv 1)) (λ_ _ _ _ _=>(aY 0 (rj _))) (λ_ _ _ _ _=>fm) (λ_ _ _ _ _=>(eB (gO K rfl hr.units) (pv 0) aD (aZ _)))) az))))))),?_⟩;obtain⟨am,ar,ym,rfl,hm,har⟩:=a1x rm;refine⟨_,Z,.inr ⟨am,_,0,_,Z,Z,hm,cL (gI 0) Z,?_⟩⟩;rcases Dn d with⟨ds,rfl⟩|⟨ht,hn⟩
  ·refine⟨_,Z,.inl ⟨_,_,"tuple",true,Z,rd.ty,aB,nA,_,Z,aW ?_⟩⟩
   obtain⟨av,xs,rfl,hx,hd⟩:=rd.cB;have hl:=hd.length;refine⟨_,Z,av,_,Z,.inr hx,_,Z,ar,_,Z,.inr har,.inl ⟨_,_,Z,Z,_,Z,?_⟩⟩;have k:∀H',aH H H'->Q (.bl ((ds.length==rs.length&&ds.all (fZ (-100) 100))&&ds.any yC)) H':=k;have e0:(!decide ((xs.length:Int)=((rs.map V.int).length:Int)))= !(ds.length==rs.length):=by rw[hl,bL];congr 1;rw[oM];simp;lia
   rw[e0];cases e:(ds.length==rs.length)with |false=>rw[e,lj,lj]at k;exact bK (k H (aH.refl _)) |true=>
    rw[e,kz]at k;refine aW ?_;have el:ds.length=rs.length:=fN.mp e;refine⟨_,Z,av,Z,⟨_,hx⟩,λD H0 nw=>?_⟩;refine Cz (xs:=xs) (bs:=ds.map (fZ (-100) 100)) [] hx nw (by rw[bL,hl]) aw ?_ ?_
    ·intro i x b H2 Q' ex eb s2 hq
     obtain⟨d,ed,rfl⟩:=P9 eb;obtain⟨x',mW,rx⟩:=hd.get i ed;rw[ex]at mW;cases mW;exact⟨_,Z,_,Z,_,d,-100,100,Z,RD.mono s2 _ rx,hq _ (aH.refl _)⟩
    ·intro H2 s2 d2
     refine⟨D,_,Z,aK.of d2,_,Z,?_⟩;rw[all_map];cases e1:ds.all (fZ (-100) 100)with |false=>rw[e1,lj]at k;exact bK (k H2 s2) |true=>
      rw[e1,kz]at k;refine aW ⟨_,Z,av,Z,⟨_,hx.go s2⟩,λD2 H3 n3=>?_⟩;refine Cz (xs:=xs) (bs:=ds.map yC) [] (hx.go s2) n3 (by rw[bL,hl]) aw ?_ ?_
      ·intro i x b H4 Q' ex eb s4 hq
       obtain⟨d,ed,rfl⟩:=P9 eb;obtain⟨x',mW,rx⟩:=hd.get i ed;rw[ex]at mW;cases mW;obtain⟨z,rfl⟩:=a2I (gW.mp e1 d (gj ed));cases rx.int_inv;refine⟨_,Z,.inl ⟨_,_,Z,Z,?_⟩⟩;show Q' (.bl (!decide (z=0))) H4;rw[a0w];exact hq _ (aH.refl _)
      ·intro H4 s4 d4
       refine⟨D2,_,Z,aK.of d4,?_⟩;rw[any_map'];exact k H4 (s2.trans s4)
  ·have e:tS rs.length d=false:=by cases d<;>first|rfl|exact absurd rfl (hn _)
   rw[e]at k;refine⟨_,Z,.inl ⟨_,_,"tuple",false,Z,rd.ty,aB,ht,_,Z,bK ?_⟩⟩;exact k H (aH.refl _)
theorem item_cases(n:Nat)(d:aj):(∃wd a b,d= .tuple [wd,a,b])\/(∃wd v,d= .tuple [wd,v])\/(∃ds,d= .tuple ds/\ds.length≠3/\ds.length≠2/\ui n d=false)\/(gq (jS d) "tuple"=false/\ui n d=false):=by
 rcases Dn d with⟨ds,rfl⟩|⟨ht,hn⟩
 ·match ds with |[r,a,b]=>exact .inl ⟨r,a,b,Z⟩ |[r,a]=>exact .inr (.inl ⟨r,a,Z⟩) |[]=>exact .inr (.inr (.inl ⟨_,Z,by simp,by simp,by simp[ui]⟩)) |[_]=>exact .inr (.inr (.inl ⟨_,Z,by simp,by simp,by simp[ui]⟩)) |_::_::_::_::_=>exact .inr (.inr (.inl ⟨_,Z,by simp,by simp,by simp[ui]⟩))
 ·exact .inr (.inr (.inr ⟨ht,by cases d<;>first|rfl|exact absurd rfl (hn _)⟩))
inductive a9P(K:ag)(vs:List V)(H:Hp)(Q:VK):Prop |mk (m:V)(v:V)(rs:List Int)(es:List aj)(d:aj)(h0:vs=[m,v])(h1:RD K H m ((.tuple (.tuple (rs.map PyData.int)::es))))(h2:RD K H v d)(h3:rs.length<=3)(h4:dM 8 d)(h5:DQ d=true)(h6:∀H',aH H H'->Q (.bl (ui rs.length d)) H')
def B7(K:ag):Sp:=λvs H Q _=>a9P K vs H Q
theorem wg{ds:List aj}(h:dM 8 (.tuple ds)){d:aj}(hd:d∈ds):dM 8 d:=((dM.cB (n:=7) h) d hd).le aB
theorem Wt{ds:List aj}(h:DQ (.tuple ds)=true){d:aj}(hd:d∈ds):qM d=true:=gW.mp (show ds.all qM=true from h) d hd
theorem N5:bj ["machine","thing","word","steps","speed","value"] ["machine","thing"] (aX F3):=bw aQ
theorem a05(F:FA K mg "is_item" F3)(B:bE mg)(a4p:GV mg "GREATEST_SPEED" (.int 20))(pM:aF P w K mg aA "is_whole_within" 2 (tK K))(a4c:aF P w K mg aA "are_steps" 3 (Lu K))(a3z:aF P w K mg aA "is_short_item" 3 (Lv K)):aF P w K mg aA "is_item" 4 (B7 K):=by
 refine F.has N5 (λvs H Q E h=>?_) (λ_ _ _ _ _ _=>dC λ_ _=>rfl) (λf aM A outer s H vs Q E hr h=>?_)
 ·obtain⟨m,v,rs,es,d,rfl,_⟩:=h
  rfl
 ·obtain⟨m,v,rs,es,d,rfl,rm,rd,l3,yx,sh,k⟩:=h
  have nd:=N5.nd;refine⟨_,(aE (bp (cU (bU (cP K B (au (pv 1) (au (cJ (x:="tuple") (v:=.ty "tuple") Z (B.at "tuple") fh rfl) az))))) (aG (aR iO)) bA) (aE (bp (bG (cI K Z hr.units) (dk K B (au (pv 1) az)) aD (aZ _)) (aE (eU (pv 1) (cW K Z (n:=3) Z (bC (aY 2 nd) (bC (aY 3 nd) (bC (aY 4 nd) cV))))) (aG (aR (fX (eB (cI K Z hr.units) (pv 2) fg (aZ _)) (fX (pf a4c hr (au (pv 0) (au (pv 3) az))) (gz (pf pM hr (au (pv 4) (au aD (au (fC (x:="GREATEST_SPEED") Z a4p) az)))))))))) bA) (aE (bp (bG (cI K Z hr.units) (dk K B (au (pv 1) az)) aD (aZ _)) (aE (eU (pv 1) (cW K Z (n:=2) Z (bC (aY 2 nd) (bC (aY 5 nd) cV)))) (aG (aR (pf a3z hr (au (pv 2) (au (pv 5) az)))))) bA) (aG (aR iO))))),?_⟩;rcases item_cases rs.length d with⟨wd,a,b,rfl⟩|⟨wd,a,rfl⟩|⟨ds,rfl,h3,h2,hf⟩|⟨ht,hf⟩
  ·refine⟨_,Z,.inl ⟨_,_,"tuple",true,Z,rd.ty,aB,nA,_,Z,aW ?_⟩⟩
   obtain⟨p,xs,rfl,hx,hd⟩:=rd.cB;obtain⟨u1,ys,rfl,r1,hd⟩:=hd.cons_inv;obtain⟨u2,ys,rfl,r2,hd⟩:=hd.cons_inv;obtain⟨u3,ys,rfl,r3,hd⟩:=hd.cons_inv;cases hd.nil_inv;have k:∀H',aH H H'->Q (.bl (fK "line" wd&&(tS rs.length a&&fZ 1 20 b))) H':=k;refine⟨_,Z,p,_,Z,.inr hx,.inl ⟨_,_,Z,Z,_,Z,bK ?_⟩⟩;refine⟨_,Z,p,_,Z,hx,Z,_,_,Z,_,_,Z,_,_,Z,Z,?_⟩;refine⟨_,Z,.inr ⟨_,_,r1,cT _,mj (wg yx (by simp)),aQ,_,Z,?_⟩⟩;rw[qc];cases e1:fK "line" wd with |false=>rw[e1,lj]at k;exact aW (k H (aH.refl _)) |true=>rw[e1,kz]at k;refine bK ⟨_,Z,_,Z,_,_,rs,es,a,Z,rm,r2,l3,λH1 s1=>⟨_,Z,?_⟩⟩;cases e2:tS rs.length a with |false=>rw[e2,lj]at k;exact aW (k H1 s1) |true=>rw[e2,kz]at k;exact bK ⟨_,Z,_,b,1,20,Z,RD.mono s1 _ r3,k H1 s1⟩
  ·refine⟨_,Z,.inl ⟨_,_,"tuple",true,Z,rd.ty,aB,nA,_,Z,aW ?_⟩⟩
   obtain⟨p,xs,rfl,hx,hd⟩:=rd.cB;obtain⟨u1,ys,rfl,r1,hd⟩:=hd.cons_inv;obtain⟨u2,ys,rfl,r2,hd⟩:=hd.cons_inv;cases hd.nil_inv;have k:∀H',aH H H'->Q (.bl (pH wd a)) H':=k;refine⟨_,Z,p,_,Z,.inr hx,.inl ⟨_,_,Z,Z,_,Z,aW ?_⟩⟩;refine⟨_,Z,p,_,Z,.inr hx,.inl ⟨_,_,Z,Z,_,Z,bK ?_⟩⟩;refine⟨_,Z,p,_,Z,hx,Z,_,_,Z,_,_,Z,Z,?_⟩;exact⟨_,Z,_,Z,_,_,wd,a,Z,r1,r2,wg yx (by simp),wg yx (by simp),Wt sh (by simp),k⟩
  ·rw[hf]at k
   refine⟨_,Z,.inl ⟨_,_,"tuple",true,Z,rd.ty,aB,nA,_,Z,aW ?_⟩⟩;obtain⟨p,xs,rfl,hx,hd⟩:=rd.cB;have hl:=hd.length;refine⟨_,Z,p,_,Z,.inr hx,.inl ⟨_,_,Z,Z,_,Z,?_⟩⟩;rw[show decide ((xs.length:Int)=3)=false from dF aw];refine aW ⟨_,Z,p,_,Z,.inr hx,.inl ⟨_,_,Z,Z,_,Z,?_⟩⟩;rw[show decide ((xs.length:Int)=2)=false from dF aw];exact aW (k H (aH.refl _))
  ·rw[hf]at k
   refine⟨_,Z,.inl ⟨_,_,"tuple",false,Z,rd.ty,aB,ht,_,Z,bK ?_⟩⟩;exact k H (aH.refl _)
def Hd(rs:List Int):aj->Bool | .tuple es=>es.length==rs.length&&((es.zip rs).map λp=>fZ 0 p.2 p.1).all id |_=>false
inductive a9S(K:ag)(vs:List V)(H:Hp)(Q:VK):Prop |mk (m:V)(v:V)(rs:List Int)(ds:List aj)(d:aj)(h0:vs=[m,v])(h1:RD K H m (.tuple (.tuple (rs.map PyData.int)::ds)))(h2:RD K H v d)(h3:rs.length<=3)(h4:∀H',aH H H'->Q (.bl (Hd rs d)) H')
def DI(K:ag):Sp:=λvs H Q _=>a9S K vs H Q
theorem zip_get{es:List aj}{rs:List Int}{i:Nat}{b:Bool}(h:((es.zip rs).map λp=>fZ 0 p.2 p.1)[i]? =some b):∃e r,es[i]? =some e/\rs[i]? =some r/\fZ 0 r e=b:=by rw[bX]at h;cases q:(es.zip rs)[i]? with |none=>rw[q]at h;cases h |some p=>rw[q]at h;obtain⟨e1,e2⟩:=K8.mp q;exact⟨p.1,p.2,e1,e2,eO h⟩
theorem ints_get{rs:List Int}{i:Nat}{r:Int}(h:rs[i]? =some r):(rs.map V.int)[i]? =some (.int r):=by rw[bX,h];rfl
theorem N3:bj ["machine","thing","rails"] ["machine","thing"] (aX F1):=bw aQ
theorem a03(F:FA K mg "is_place" F1)(B:bE mg)(pM:aF P w K mg aA "is_whole_within" 2 (tK K)):aF P w K mg aA "is_place" 3 (DI K):=by
 refine F.has N3 (λvs H Q E h=>?_) (λ_ _ _ _ _ _=>dC λ_ _=>rfl) (λf aM A outer s H vs Q E hr h=>?_)
 ·obtain⟨m,v,rs,ds,d,rfl,_⟩:=h
  rfl
 ·obtain⟨m,v,rs,ds,d,rfl,rm,rd,l3,k⟩:=h
  have nd:=N3.nd;refine⟨_,(aE (pS 2 nd (px K (pv 0) aD)) (aE (bp (PW.pt (fQ (cU (bU (cP K B (au (pv 1) (au (cJ (x:="tuple") (v:=.ty "tuple") Z (B.at "tuple") fh rfl) az))))) (iY (bG (gO K rfl hr.units) (dk K B (au (pv 1) az)) (dk K B (au (pv 2) az)) (aZ _))))) (aG (aR iO)) bA) (aG (aR (eD (x:="all") (qm K Z Z) Z (B.at "all") sX (au (fS (N:=["number","rail"]) (js:=[none,none]) rfl rfl rfl (jX K rfl false false rfl (B.at "zip") (au (pv 1) (au (pv 2) az))) (λ_ _ _ _ _=>(cW K rfl (n:=2) rfl (bC (aY 0 (fY aB)) (bC (aY 1 (fY aB)) cV)))) (λ_ _ _ _ _=>fm) (λ_ _ _ _ _=>(pf pM hr (au (pv 0) (au aD (au (pv 1) az)))))) az)))))),?_⟩;obtain⟨am,xm,rfl,hm,hdm⟩:=rm.cB;obtain⟨yr,ym,rfl,r1,abZ⟩:=hdm.cons_inv;obtain⟨ar,xr,rfl,yW,hdr⟩:=r1.cB;cases hdr.hZ;refine⟨_,Z,.inr ⟨am,_,0,_,Z,Z,hm,cL (gI 0) Z,?_⟩⟩;rcases Dn d with⟨es,rfl⟩|⟨ht,hn⟩
  ·refine⟨_,Z,.inl ⟨_,_,"tuple",true,Z,rd.ty,aB,nA,_,Z,aW ?_⟩⟩
   obtain⟨av,xs,rfl,hx,hd⟩:=rd.cB;have hl:=hd.length;refine⟨_,Z,av,_,Z,.inr hx,_,Z,ar,_,Z,.inr yW,.inl ⟨_,_,Z,Z,_,Z,?_⟩⟩;have k:∀H',aH H H'->Q (.bl (es.length==rs.length&&((es.zip rs).map λp=>fZ 0 p.2 p.1).all id)) H':=k;have e0:(decide ((xs.length:Int)=((rs.map V.int).length:Int)))=(es.length==rs.length):=by rw[hl,bL,oM];simp;lia
   rw[e0];cases e:(es.length==rs.length)with |false=>rw[e,lj]at k;exact bK (k H (aH.refl _)) |true=>
    rw[e,kz]at k;refine aW ?_;have el:es.length=rs.length:=fN.mp e;refine⟨_,Z,_,Z,av,ar,Z,⟨_,hx⟩,⟨_,yW⟩,λD H0 nw=>?_⟩;refine a7G (b1:=false) (b2:=false) (xs:=xs) (ys:=rs.map V.int) (bs:=(es.zip rs).map λp=>fZ 0 p.2 p.1) [] rfl hx yW nw (by rw[bL,bL,List.length_zip,hl]) (by rw[bL,List.length_zip];lia) ?_ ?_
    ·intro i x y b H2 Q' ex ey eb s2 hq
     obtain⟨e',r,ee,er,rfl⟩:=zip_get eb;obtain⟨x',mW,rx⟩:=hd.get i ee;rw[ex]at mW;cases mW;rw[ints_get er]at ey;cases ey;exact⟨_,Z,_,Z,_,e',0,r,Z,RD.mono s2 _ rx,hq _ (aH.refl _)⟩
    ·intro H2 s2 d2
     exact⟨D,_,Z,aK.of d2,k H2 s2⟩
  ·have e:Hd rs d=false:=by cases d<;>first|rfl|exact absurd rfl (hn _)
   rw[e]at k;refine⟨_,Z,.inl ⟨_,_,"tuple",false,Z,rd.ty,aB,ht,_,Z,bK ?_⟩⟩;exact k H (aH.refl _)
inductive a9F(K:ag)(vs:List V)(H:Hp)(Q:VK):Prop |mk (pw:_)(b:_)(pl:_)(ns:_)(h0:vs=[pw,.ref b])(h1:RD K H pw (gK pl))(h2:aU K H b (ns.map V.int))(h3:ns.length=pl.length)(h4:pl.length<=1000)(h5:∀v' H',RD K H' v' (gK (kn pl ns))->aH H H'->Q v' H')
def B6(K:ag):Sp:=λvs H Q _=>a9F K vs H Q
theorem MI:bj ["place","steps"] ["place","steps"] (aX EE):=bw aQ
theorem ZH(F:FA K mg "moved" EE)(B:bE mg):aF P w K mg aA "moved" 1 (B6 K):=by
 refine F.has MI (λvs H Q E h=>?_) (λ_ _ _ _ _ _=>dC λ_ _=>rfl) (λf aM A outer s H vs Q E hr h=>?_)
 ·obtain⟨pw,b,pl,ns,rfl,_⟩:=h
  rfl
 ·obtain⟨pw,b,pl,ns,rfl,rp,hb,ln,hz,k⟩:=h
  have nd:=MI.nd;refine⟨_,(aG (aR (gL (x:="tuple") (me K Z) Z (B.at "tuple") fh (au (fS (N:=["number","step"]) (js:=[none,none]) rfl rfl rfl (jX K rfl false false rfl (B.at "zip") (au (pv 0) (au (pv 1) az))) (λ_ _ _ _ _=>(cW K rfl (n:=2) rfl (bC (aY 0 (fY aB)) (bC (aY 1 (fY aB)) cV)))) (λ_ _ _ _ _=>fm) (λ_ _ _ _ _=>(aO cQ (pv 0) (pv 1)))) az)))),?_⟩;obtain⟨pa,rfl,hp⟩:=Gf rp;refine⟨_,Z,_,Z,pa,b,Z,⟨_,hp⟩,⟨_,hb⟩,λD H1 n1=>?_⟩;refine uX (K:=K) (b1:=false) (b2:=false) (xs:=pl.map V.int) (ys:=ns.map V.int) (ds:=(kn pl ns).map PyData.int) [] rfl hp hb n1 (by simp[vd ln,ln]) (by rw[bL,vd ln];exact hz) (kI _) ?_ ?_
  ·intro i x y d H2 Q' ex ey ed s2 hq
   obtain⟨m,em,rfl⟩:=nO ed;rw[bX]at ex ey;cases e1:pl[i]? with |none=>rw[e1]at ex;cases ex |some u=>cases e2:ns[i]? with |none=>rw[e2]at ey;cases ey |some v=>rw[e1]at ex;rw[e2]at ey;cases ex;cases ey;rw[Ju e1 e2]at em;cases em;exact⟨_,Z,_,Z,_,_,Z,Z,hq _ _ (aH.refl _) (dN _)⟩
  ·intro H2 zs s2 d2 r2
   refine⟨D,_,Z,.inl ⟨aK.of d2,λt H3 n3=>?_⟩⟩;have et:=n3.at';rw[r2.hZ]at et;exact k (.ref t) H3 (Ge (aU.of et)) (s2.trans n3.same)
inductive aa9(K:ag)(vs:List V)(H:Hp)(Q:VK):Prop |mk (pw:_)(iv:_)(pl:_)(d:_)(o:_)(h0:vs=[pw,iv])(h1:RD K H pw (gK pl))(h2:RD K H iv d)(h3:itR d o)(h4:(∀ns sp,o=some (ns,sp)->ns.length=pl.length))(h5:pl.length<=1000)(h6:∀v' H',RD K H' v' (gK (ij pl o))->aH H H'->Q v' H')
def xW(K:ag):Sp:=λvs H Q _=>aa9 K vs H Q
theorem Nr:bj ["place","item"] ["place","item"] (aX Fw):=bw aQ
theorem a0m(F:FA K mg "place_behind" Fw)(B:bE mg)(lU:aF P w K mg aA "is_line" 1 (qK K))(Hw:aF P w K mg aA "moved" 1 (B6 K)):aF P w K mg aA "place_behind" 2 (xW K):=by
 refine F.has Nr (λvs H Q E h=>?_) (λ_ _ _ _ _ _=>dC λ_ _=>rfl) (λf aM A outer s H vs Q E hr h=>?_)
 ·obtain⟨pw,iv,pl,d,o,rfl,_⟩:=h
  rfl
 ·obtain⟨pw,iv,pl,d,o,rfl,rp,ri,it,hl,hz,k⟩:=h
  have nd:=Nr.nd;refine⟨_,(aG (aR (vV (bU (pf lU hr (au (pv 1) az))) (pf Hw hr (au (pv 0) (au (px K (pv 1) aD) az))) (pv 0)))),?_⟩;refine⟨_,Z,iv,d,o,Z,ri,it,_,Z,?_⟩;cases o with |some q=>obtain⟨ns,sp⟩:=q;refine bK ?_;have ed:=jH it;subst ed;obtain⟨a,b,rfl,ha,hb⟩:=lP ri;exact⟨_,Z,_,Z,.inr ⟨a,_,1,.ref b,Z,Z,ha,Z,pw,b,pl,ns,Z,rp,hb,hl ns sp Z,hz,λv' H' r s=>k v' H' r s⟩⟩ |none=>refine aW ?_;exact⟨_,Z,k pw H rp (aH.refl _)⟩
structure xk(n:Nat)(d:aj)(o:Itm):Prop where
 it:itR d o
 ln:∀ns sp,o=some (ns,sp)->fb n 100 ns/\1<=sp/\sp<=20
 ot:o=none->kr d
theorem a1a{z:Str}(h:yH z=true):isNm (.str z)=true:=h
theorem a8n:∀{ns:List Int},(∃z∈ns,z≠0)->(ns.map PyData.int).any yC=true:=λ{ns} ⟨z,hz,h⟩=>sZ.mpr ⟨.int z,fW.mpr ⟨z,hz,Z⟩,by show(z !=0)=true;simpa using h⟩
theorem a8u{ns:List Int}(h:∀z∈ns,(z.natAbs:Int)<=100):(ns.map PyData.int).all (fZ (-100) 100)=true:=by rw[gW];intro d hd;obtain⟨z,hz,rfl⟩:=fW.mp hd;have:=h z hz;show(decide (-100<=z)&&decide (z<=100))=true;rw[cm cj,cm cj];rfl
theorem xk.is{n:Nat}{d:aj}{o:Itm}(h:xk n d o):ui n d=true/\dM 8 d/\DQ d=true:=by cases o with
 |some q=>
  obtain⟨ns,sp⟩:=q;have ed:=jH h.it;subst ed;obtain⟨cn,s1,s2⟩:=h.ln ns sp rfl;refine⟨?_,?_,Z⟩
  ·show(fK "line" (.str "line")&&(tS n (.tuple (ns.map PyData.int))&&fZ 1 20 (.int sp)))=true
   have e1:fK "line" (.str "line")=true:=by decide+kernel
   have e2:tS n (.tuple (ns.map PyData.int))=true:=by show(((ns.map PyData.int).length==n&&(ns.map PyData.int).all (fZ (-100) 100))&&(ns.map PyData.int).any yC)=true;rw[a8u cn.bd,a8n cn.nz,bL,cn.len,JO];rfl
   have e3:fZ 1 20 (.int sp)=true:=by show(decide (1<=sp)&&decide (sp<=20))=true;rw[cm s1,cm s2];rfl
   rw[e1,e2,e3];rfl
  ·refine(gf.tup (n:=1) (.cons ⟨aQ,gH _⟩ (.cons (gf.tup (n:=0) λd hd=>?_) (.cons (.int _) .nil)))).le aB
   obtain⟨a,_,rfl⟩:=fW.mp hd;exact .int _ |none=>
  rcases h.ot rfl with⟨z,rfl,z1,z2⟩|⟨w,s,rfl,hw,yo,on⟩
  ·refine⟨?_,(gf.tup (n:=0) (.cons ⟨aQ,gH _⟩ (.cons (.int _) .nil))).le aB,Z⟩
   show pH (.str "wait") (.int z)=true;unfold pH;rw[bo aQ];show(decide (1<=z)&&decide (z<=1000))=true;rw[cm z1,cm z2];rfl
  ·have a2h:qM (.str s)=true:=by
    refine cm ?_;rcases on with⟨_,rfl|rfl⟩|⟨_,hn⟩
    ·decide+kernel
    ·decide+kernel
    ·unfold yH at hn
     simp only[fG,JN]at hn
     lia
   refine⟨?_,(gf.tup (n:=0) (.cons ?_ (.cons yo .nil))).le aB,?_⟩
   ·rcases on with⟨rfl,hs⟩|⟨rfl,hn⟩
    ·show pH (.str "tool") (.str s)=true
     unfold pH;rw[bB aQ,bo aQ];rcases hs with rfl|rfl<;>decide+kernel
    ·show pH (.str "mark") (.str s)=true
     unfold pH;rw[bB aQ,bB aQ];rw[a1a hn];decide+kernel
   ·rcases hw with rfl|rfl<;>exact⟨aQ,gH _⟩
   ·show([.str w,.str s]:List aj).all qM=true
    rw[Kd,Kd,List.all_nil,a2h];rcases hw with rfl|rfl<;>decide+kernel
def dQ(ti:Int)(q:Rat)(t:Int):Bool:=decide (ti*ti*(q.den:Int)<=t*t*q.num)
inductive aa0(K:ag)(vs:List V)(H:Hp)(Q:VK):Prop |mk (m:_)(sq:_)(t:_)(rs:_)(r:_)(f:_)(j:_)(ti:_)(q:_)(h0:vs=[m,sq,.int t])(h1:RD K H m (fE rs r f j ti))(h2:bc K H sq q)(h3:Bd 2000 q)(h4:1<=ti)(h5:ti<=100)(h6:0<=t)(h7:t.natAbs<2^2400)(h8:Q (.bl (dQ ti q t)) H)
def DK(K:ag):Sp:=λvs H Q _=>aa0 K vs H Q
theorem Ng:bj ["machine","square","t","p","q","ticks"] ["machine","square","t"] (aX Fj):=bw aQ
theorem Oz(F:FA K mg "are_enough" Fj)(B:bE mg):aF P w K mg aA "are_enough" 1 (DK K):=by
 refine F.has Ng (λvs H Q E h=>?_) (λ_ _ _ _ _ _=>kW λ_ _ _=>rfl) (λf aM A outer s H vs Q E hr h=>?_)
 ·obtain⟨m,sq,t,rs,r,f,j,ti,q,rfl,_⟩:=h
  rfl
 ·obtain⟨m,sq,t,rs,r,f,j,ti,q,rfl,rm,⟨p,rfl,hp⟩,bq,t1,t2,t0,tw,k⟩:=h
  have nd:=Ng.nd;refine⟨_,(aE (eU (pv 1) (cW K Z (n:=2) Z (bC (aY 3 nd) (bC (aY 4 nd) cV)))) (aE (pS 5 nd (px K (pv 0) aD)) (aG (aR (eB Bx (aO bO (aO bO (pv 2) (pv 2)) (pv 3)) (aO bO (aO bO (pv 5) (pv 5)) (pv 4)) (aZ _)))))),?_⟩;obtain⟨a,b,rfl,ha,hb⟩:=mH rm;have wt:Wd t:=iJ tw aB;have AG:Wd (t*t):=iJ (n:=4800) (by rw[gm];exact mG (n:=2400) (m:=2400) tw tw) aB;have m1:(ti*ti).natAbs<=100*100:=by rw[gm];exact oG cj cj
  refine⟨_,Z,_,_,Z,hp,Z,_,_,Z,_,_,Z,Z,?_⟩;refine⟨_,Z,.inr ⟨a,_,4,.int ti,Z,Z,ha,Z,?_⟩⟩;refine⟨_,Z,_,Z,_,_,Z,Z,iy wt.bits wt.bits,_,Z,_,_,Z,Z,iy AG.bits bq.wn.bits,?_⟩;refine⟨_,Z,_,Z,_,_,Z,Z,.of_left (cC cj cj),_,Z,_,_,Z,Z,.of_left (cC cj cj),?_⟩;exact⟨_,_,Z,Z,k⟩
theorem Rz{ti t:Int}{q:Rat}(hq:0<q.num)(h0:0<=t)(h:ti*ti*(q.den:Int)<=t):dQ ti q t=true:=by
 refine cm (Int.le_trans h ?_);by_cases ht:t=0
 ·subst ht;simp
 ·have e1:t*1<=t*t:=Kg aw h0
  have e2:t*t*1<=t*t*q.num:=Kg aw (iW h0 h0)
  lia
theorem Rx{ti:Int}{q:Rat}(h1:1<=ti):dQ ti q 0=false:=by
 refine dF λh=>?_;have:=gX (gX (show 0<ti by lia) (show 0<ti by lia)) (den_pos q);simp only[Au]at h
 lia
inductive a9a(K:ag)(vs:List V)(H:Hp)(Q:VK):Prop |mk (m:_)(sq:_)(rs:_)(r:_)(f:_)(j:_)(ti:_)(q:_)(h0:vs=[m,sq])(h1:RD K H m (fE rs r f j ti))(h2:bc K H sq q)(h3:Bd 2000 q)(h4:1<=ti)(h5:ti<=100)(h6:0<q.num)(h7:∀T,1<=T->T.natAbs<2^2400->dQ ti q T=true->dQ ti q (T-1)=false->Q (.int T) H)
def Lq(K:ag):Sp:=λvs H Q _=>a9a K vs H Q
theorem Mg:bj ["machine","square","enough","too_few","between"] ["machine","square"] (aX E2):=bw aQ
theorem Z3(F:FA K mg "ticks_of" E2)(B:bE mg)(zk:aF P w K mg aA "are_enough" 1 (DK K)):aF P w K mg aA "ticks_of" 2 (Lq K):=by
 refine F.has Mg (λvs H Q E h=>?_) (λ_ _ _ _ _ _=>dC λ_ _=>rfl) (λf aM A outer s H vs Q E hr h=>?_)
 ·obtain⟨m,sq,rs,r,f,j,ti,q,rfl,_⟩:=h
  rfl
 ·obtain⟨m,sq,rs,r,f,j,ti,q,rfl,rm,rq,bq,t1,t2,hq,k⟩:=h
  have nd:=Mg.nd;refine⟨_,(aE (pS 2 nd aD) (aE (nK fe (cU (bU (pf zk hr (au (pv 0) (au (pv 1) (au (pv 2) az)))))) (aG (pS 2 nd (aO bO aD (pv 2))))) (aE (pS 3 nd (aO nM (pv 2) aD)) (aE (nK fe (bG mE (aO gM (pv 2) (pv 3)) aD (aZ _)) (aE (pS 4 nd (aO nM (aO cQ (pv 3) (pv 2)) aD)) (aG (bp (bU (pf zk hr (au (pv 0) (au (pv 1) (au (pv 4) az))))) (aG (pS 2 nd (pv 4))) (aG (pS 3 nd (pv 4))))))) (aG (aR (pv 2))))))),?_⟩;have lim:(ti*ti*(q.den:Int)).natAbs<2^2399:=by
   have m1:(ti*ti).natAbs<=100*100:=by rw[gm];exact oG aw aw
   have hd:=bq.den;rw[gm];have:(q.den:Int).natAbs=q.den:=rfl;rw[this];have:=mG (n:=14) (m:=2000) (a:=(ti*ti).natAbs) (b:=q.den) (xB m1 aB) hd;exact fO this (qA aB aB)
  have p0:0<ti*ti*(q.den:Int):=gX (gX aw aw) (den_pos q);have e2:(2:Nat)^2400=2^2399*2:=Nat.pow_succ 2 2399;generalize hL:ti*ti*(q.den:Int)=L at lim p0;refine nu (λO H2=>H2=H/\∃(x:Int),O=[some m,some sq,some (.int x),none,none]/\1<=x/\x<=2*L/\dQ ti q (x/2)=false) (λO _=>match O with|[_,_,some (.int x),_,_]=>(L-x).toNat|_=>0) ?_ ?_ ?_
  ·exact⟨Z,1,Z,aw,aw,Rx t1⟩
  ·rintro O H2 ⟨rfl,x,rfl,x1,xL,hx⟩
   have xw:x.natAbs<2^2400:=by lia
   refine⟨_,Z,_,Z,_,Z,m,sq,x,rs,r,f,j,ti,q,Z,rm,rq,bq,t1,t2,aw,xw,_,Z,?_⟩;cases pT:dQ ti q x with
   |false=>
    have bP:x<L:=by
     by_cases bP:x<L
     ·exact bP
     ·rw[Rz hq aw aw]at pT;cases pT
    refine dJ (λhc=>?_) (λhc=>(hc Z).elim);refine⟨_,Z,_,_,Z,Z,.of_left (cC aB aB),?_⟩;refine⟨⟨Z,_,Z,aw,aw,?_⟩,?_⟩
    ·have:2*x/2=x:=by lia
     rw[this];exact pT
    ·show(L-2*x).toNat<(L-x).toNat
     lia |true=>
    refine dJ (λhc=>nomatch hc) (λhc=>?_);refine⟨_,Z,_,_,Z,Z,⟨aB,iJ (n:=2) aB aB⟩,?_⟩;refine nu (λO H3=>H3=H2/\∃(lo hi:Int)(v:Option V),O=[some m,some sq,some (.int hi),some (.int lo),v]/\0<=lo/\lo<hi/\hi<=2*L/\dQ ti q lo=false/\dQ ti q hi=true) (λO _=>match O with|[_,_,some (.int x),some (.int y),_]=>(x-y).toNat|_=>0) ?_ ?_ ?_
    ·exact⟨Z,x/2,x,none,Z,aw,aw,xL,hx,pT⟩
    ·rintro O H3 ⟨rfl,lo,hi,v,rfl,l0,lh,zm,zA,uP⟩
     refine⟨_,Z,_,Z,_,_,Z,Z,_,_,Z,Z,_,Z,?_⟩;refine dJ (λhc=>?_) (λhc=>?_)
     ·have Qm:hi-lo>1:=jc hc
      refine⟨_,Z,_,Z,_,_,Z,Z,_,_,Z,Z,⟨aB,iJ (n:=2) aB aB⟩,?_⟩;have mw:((lo+hi)/2).natAbs<2^2400:=by lia
      refine⟨_,Z,_,Z,_,Z,m,sq,(lo+hi)/2,rs,r,f,j,ti,q,Z,rm,rq,bq,t1,t2,aw,mw,_,Z,?_⟩;cases hm:dQ ti q ((lo+hi)/2)with
      |true=>
       refine bK ?_;refine⟨_,Z,⟨Z,lo,_,_,Z,l0,aw,aw,zA,hm⟩,?_⟩;show((lo+hi)/2-lo).toNat<(hi-lo).toNat
       lia |false=>
       refine aW ?_;refine⟨_,Z,⟨Z,_,hi,_,Z,aw,aw,zm,hm,uP⟩,?_⟩;show(hi-(lo+hi)/2).toNat<(hi-lo).toNat
       lia
     ·have hle:¬hi-lo>1:=λz=>hc (cm z)
      have e:lo=hi-1:=by lia
      subst e;exact⟨_,Z,k hi aw aw uP zA⟩
    ·rintro O H2 Q1 Q2 hq ⟨v1,e1,v2,e2,i,j,e3,e4,i2,j2,e5,e6,kk,e7,q⟩
     exact⟨v1,e1,v2,e2,i,j,e3,e4,i2,j2,e5,e6,kk,e7,hq _ _ q⟩
  ·rintro O H2 Q1 Q2 hq ⟨v1,e1,v2,e2,v3,e3,m',tJ,x',Xc,r',f',j',Vk,q',e4,h1,h2,h3,h4,h5,h6,h7,b,eb,q⟩
   exact⟨v1,e1,v2,e2,v3,e3,m',tJ,x',Xc,r',f',j',Vk,q',e4,h1,h2,h3,h4,h5,h6,h7,b,eb,hq _ _ q⟩
theorem Kn{j:Int}(h:j.natAbs<2^64):Wd j:=Nat.lt_trans h aQ
inductive a9E(vs:List V)(H:Hp)(Q:VK):Prop |mk (p:Int)(q:Int)(h0:vs=[.int p,.int q])(h1:0<q)(h2:q<=10^6)(h3:p.natAbs<=10^9)(h4:Q (.int (iQ p q)) H)
def DE:Sp:=λvs H Q _=>a9E vs H Q
theorem MH:bj ["p","q","size"] ["p","q"] (aX ED):=bw aQ
theorem ZG(F:FA K mg "nearest" ED)(B:bE mg):aF P w K mg aA "nearest" 1 DE:=by
 refine F.has MH (λvs H Q E h=>?_) (λ_ _ _ _ _ _=>dC λ_ _=>rfl) (λf aM A outer s H vs Q E hr h=>?_)
 ·obtain⟨p,q,rfl,_⟩:=h
  rfl
 ·obtain⟨p,q,rfl,q0,q1,p1,k⟩:=h
  have nd:=MH.nd;refine⟨_,(aE (pS 2 nd (aO nM (aO cQ (aO bO aD (eD (x:="abs") oo Z (B.at "abs") qz (au (pv 0) az))) (pv 1)) (aO bO aD (pv 1)))) (aG (aR (vV (bG Bx (pv 0) aD (aZ _)) (pv 2) (mD md (pv 2)))))),?_⟩;refine⟨_,Z,p,Z,_,_,Z,Z,.of_left (cC aB aB),_,Z,_,_,Z,Z,_,Z,_,_,Z,Z,.of_left (cC aB aB),_,_,Z,Z,⟨aw,Kn aw⟩,?_⟩;have e:(2*(if p<0 then-p else p)+q)/(2*q)=kF p q:=by unfold kF;rw[<-zV];rfl
  refine⟨_,Z,_,_,Z,Z,_,Z,?_⟩;unfold iQ at k;rw[<-e]at k;refine dJ (λhc=>?_) (λhc=>?_)
  ·have hp:p>=0:=jc hc
   rw[bo hp]at k;exact⟨_,Z,k⟩
  ·have hp:¬p>=0:=λz=>hc (cm z)
   rw[bB hp]at k;exact⟨_,Z,_,Z,k⟩
def xT(ns:List Int)(k:Int):aj:=.tuple ((ns.map λz=>iQ (k*z) (aI ns)).map PyData.int)
theorem O8{k z:Int}(h:k.natAbs<=10^6)(g:(z.natAbs:Int)<=1000):(k*z).natAbs<=10^9:=by rw[gm];exact gU (oG h (show z.natAbs<=1000 by lia)) aB
inductive a9f(K:ag)(vs:List V)(H:Hp)(Q:VK):Prop |mk (v:_)(ns:_)(sp:_)(k:_)(h0:vs=[v,.int k])(h1:RD K H v (hW ns sp))(h2:fb ns.length 1000 ns)(h3:ns.length<=1000)(h4:k.natAbs<=10^6)(h5:∀v' H',RD K H' v' (xT ns k)->aH H H'->Q v' H')
def AZ(K:ag):Sp:=λvs H Q _=>a9f K vs H Q
theorem Mm:bj ["line","k","lead"] ["line","k"] (aX E6):=bw aQ
theorem Z9(F:FA K mg "stand_at" E6)(B:bE mg)(mO:aF P w K mg aA "lead_of" 1 (kE K))(a3l:aF P w K mg aA "nearest" 1 DE):aF P w K mg aA "stand_at" 2 (AZ K):=by
 refine F.has Mm (λvs H Q E h=>?_) (λ_ _ _ _ _ _=>dC λ_ _=>rfl) (λf aM A outer s H vs Q E hr h=>?_)
 ·obtain⟨v,ns,sp,k,rfl,_⟩:=h
  rfl
 ·obtain⟨v,ns,sp,kk,rfl,rd,ok,hz,hk,k⟩:=h
  have nd:=Mm.nd;refine⟨_,(aE (pS 2 nd (pf mO hr (au (pv 0) az))) (aG (aR (gL (x:="tuple") (me K Z) Z (B.at "tuple") fh (au (fS (N:=["step","lead","k"]) (js:=[none,some 2,some 1]) rfl rfl rfl (mC K rfl (px K (pv 0) aD)) (λ_ _ _ _ _=>(aY 0 (show List.Nodup (["step","lead","k"]:List Str) by decide+kernel))) (λ_ _ _ _ _=>fm) (λ_ _ _ _ _=>(pf a3l hr (au (aO bO (pv 2) (pv 0)) (au (pv 1) az))))) az))))),?_⟩;refine⟨_,Z,v,ns,sp,Z,rd,ok.ne,hz,λH1 s1=>?_⟩;obtain⟨a,b,rfl,ha,hb⟩:=lP (RD.mono s1 _ rd);obtain⟨lp,lm⟩:=ok.lead;refine⟨_,Z,.inr ⟨a,_,1,.ref b,Z,Z,ha,Z,b,Z,⟨_,hb⟩,λD H0 nw=>?_⟩⟩;refine Cy (K:=K) (xs:=ns.map V.int) (ds:=(ns.map λz=>iQ (kk*z) (aI ns)).map PyData.int) _ hb nw (by simp) (by simpa using hz) (kI _) ?_ ?_
  ·intro i x d H2 Q' ex ed s2 hq
   rw[List.map_map]at ed;obtain⟨n,en,rfl⟩:=nO ed;cases yL ex en;refine⟨_,Z,_,Z,_,_,Z,Z,.of_left (cC aw aw),_,Z,_,_,Z,aw,aw,O8 hk (ok.bd n (gj en)),?_⟩;exact hq _ _ (aH.refl _) (dN _)
  ·intro H' ys s2 d2 r2
   refine⟨D,_,Z,.inl ⟨aK.of d2,λt H4 n4=>?_⟩⟩;exact k _ _ (fA (aU.of n4.at') (aJ.mono n4.same _ r2)) (s1.trans (s2.trans n4.same))
def fz(ns:List Int)(j:Nat):List Int:=ns.map λz=>iQ (((j:Int)+1)*z) (aI ns)-iQ ((j:Int)*z) (aI ns)
def iL(ns:List Int):List aj:=(List.range (aI ns)).map λj=>.tuple ((fz ns j).map PyData.int)
theorem yc(zs:List Int):dw (.tuple (zs.map PyData.int))=true:=by rw[dw];exact kI zs
theorem Bk(ns:List Int):bM (iL ns)=true:=cu.mpr λd hd=>by obtain⟨j,_,rfl⟩:=fW.mp hd;exact yc _
theorem Bl{ns:List Int}{i:Nat}(h:i<aI ns):(iL ns)[i]? =some (.tuple ((fz ns i).map PyData.int)):=by unfold iL;rw[bX,bu (by simpa using h),vq];rfl
theorem qP(ns:List Int):(iL ns).length=aI ns:=by simp[iL]
inductive a9l(K:ag)(vs:List V)(H:Hp)(Q:VK):Prop |mk (v:_)(ns:_)(sp:_)(h0:vs=[v])(h1:RD K H v (hW ns sp))(h2:fb ns.length 1000 ns)(h3:ns.length<=1000)(h4:∀l ys H',H l=none->H' l=some (.lst ys)->aJ K H' ys (iL ns)->aH H H'->Q (.ref l) H')
def B0(K:ag):Sp:=λvs H Q _=>a9l K vs H Q
theorem Mq:bj ["line","rows","before","k","behind"] ["line"] (aX Ea):=bw aQ
theorem Zl(F:FA K mg "step_rows" Ea)(B:bE mg)(mO:aF P w K mg aA "lead_of" 1 (kE K))(BX:aF P w K mg aA "stand_at" 2 (AZ K)):aF P w K mg aA "step_rows" 3 (B0 K):=by
 refine F.has Mq (λvs H Q E h=>?_) (λ_ _ _ _ _ _=>eJ λ_=>rfl) (λf aM A outer s H vs Q E hr h=>?_)
 ·obtain⟨v,ns,sp,rfl,_⟩:=h
  rfl
 ·obtain⟨v,ns,sp,rfl,rd,ok,hz,k⟩:=h
  have nd:=Mq.nd;obtain⟨lp,lm⟩:=ok.lead;refine⟨_,(aE (pS 1 nd (dj az)) (aE (pS 2 nd (pf BX hr (au (pv 0) (au aD az)))) (aE (gJ fe Z (Ob Z (B.at "range") (au aD (au (aO cQ (pf mO hr (au (pv 0) az)) aD) az))) (aY 3 nd) (aE (pS 4 nd (pf BX hr (au (pv 0) (au (pv 3) az)))) (aE (e9 (iP K Z (pv 1) (au (gL (x:="tuple") (me K Z) Z (B.at "tuple") fh (au (fS (N:=["new","old"]) (js:=[none,none]) rfl rfl rfl (jX K rfl false false rfl (B.at "zip") (au (pv 4) (au (pv 2) az))) (λ_ _ _ _ _=>(cW K rfl (n:=2) rfl (bC (aY 0 (fY aB)) (bC (aY 1 (fY aB)) cV)))) (λ_ _ _ _ _=>fm) (λ_ _ _ _ _=>(aO gM (pv 0) (pv 1)))) az)) az))) (aG (pS 2 nd (pv 4)))))) (aG (aR (pv 1)))))),?_⟩;refine⟨bR Z,λl H1 n1=>?_⟩;refine⟨_,Z,v,ns,sp,0,Z,RD.mono n1.same _ rd,ok,hz,aB,λu H2 ru s2=>?_⟩;have t2:=n1.same.trans s2;refine⟨_,Z,v,ns,sp,Z,RD.mono t2 _ rd,ok.ne,hz,λH3 s3=>?_⟩;refine⟨_,_,Z,Z,_,_,Z,⟨aw,aw,aw,aw⟩,?_⟩;have t3:=t2.trans s3;have e3:((aI ns:Int)+1-1).toNat=aI ns:=by lia
  refine uJ (Pv:=λi O H4=>aH H H4/\(∃ys,H4 l=some (.lst ys)/\aJ K H4 ys ((iL ns).take i))/\∃b v1 v2,RD K H4 b (xT ns i)/\O=[some v,some (.ref l),some b,v1,v2]) ?_ ?_ ?_
  ·exact⟨t3,⟨[],s3 _ _ (s2 _ _ n1.at'),cH⟩,u,none,none,RD.mono s3 _ ru,Z⟩
  ·rintro i O H4 hi ⟨t4,⟨ys,dl,ry⟩,b,v1,v2,rb,rfl⟩
   have HC:i<aI ns:=by lia
   refine⟨_,Z,_,Z,v,ns,sp,_,Z,RD.mono t4 _ rd,ok,hz,aw,λb2 H5 G0 s5=>?_⟩;refine⟨_,Z,.inl ⟨Z,_,aK.of (s5 _ _ dl)⟩,?_⟩;obtain⟨a1,xs1,rfl,h1,q1⟩:=G0.cB;have e1:=q1.hZ;subst e1;obtain⟨a0,xs0,rfl,h0,q0⟩:=(RD.mono s5 _ rb).cB;have e0:=q0.hZ;subst e0;refine⟨_,Z,_,Z,a1,a0,Z,⟨_,h1⟩,⟨_,h0⟩,λD H6 nw=>?_⟩;refine uX (K:=K) (b1:=false) (b2:=false) (ds:=(fz ns i).map PyData.int) [] rfl h1 h0 nw (by simp[fz]) (by simpa[fz]using hz) (kI _) ?_ ?_
   ·intro j x y d H7 Q' ex ey ed s7 hq
    obtain⟨m,em,rfl⟩:=nO ed;unfold fz at em;rw[bX]at em ex ey;rw[bX]at ex ey;cases en:ns[j]? with |none=>rw[en]at em;cases em |some n=>
     rw[en]at em ex ey;cases em;cases ex;cases ey;refine⟨_,Z,_,Z,_,_,Z,Z,?_⟩;have ee:(1:Int)+(i:Int)=(i:Int)+1:=by lia
     rw[ee];exact hq _ _ (aH.refl _) (dN _)
   ·intro H7 zs s7 d7 r7
    refine⟨D,_,Z,.inl ⟨aK.of d7,λt H8 n8=>?_⟩⟩;have mx:=s5.trans (s7.trans n8.same);have zJ:=mx _ _ dl;have len:=ry.length;rw[je,qP]at len;refine⟨l,ys,_,Z,Z,zJ,?_,?_⟩
    ·have:(1000:Nat)<sizeLine:=by decide
     lia
    refine⟨_,Z,?_⟩;have tt:dX H8 (L2.upd H8 l (.lst (ys++[.ref t]))):=.gY zJ;refine⟨λb o e=>?_,⟨_,bQ,?_⟩,_,_,_,?_,Z⟩
    ·rw[aV (dU e n1.no)];exact mx b o (t4 b o e)
    ·rw[kx,Bl HC]
     have nt:bM ((iL ns).take i)=true:=cu.mpr λd hd=>cu.mp (Bk ns) d (Al hd);exact(aJ.t tt _ nt (aJ.mono mx _ ry)).append (cf (RD.t tt _ (yc _) (fA (aU.of n8.at') (aJ.mono n8.same _ r7))) cH)
    ·have ee:(1:Int)+(i:Int)=((i+1:Nat):Int):=by lia
     rw[ee]at G0;exact RD.t tt _ (yc _) (RD.mono (s7.trans n8.same) _ G0)
  ·rintro O H4 ⟨t4,⟨ys,dl,ry⟩,b,v1,v2,rb,rfl⟩
   rw[e3,xC (by rw[qP];exact bf _)]at ry;exact⟨_,Z,k l ys H4 n1.no dl ry t4⟩
def jM(K:ag)(H:Hp)(v:V):Option Rat->Prop |none=>v= .bN |some q=>bc K H v q
theorem jM.go{H H':Hp}{v:V}:∀{o:Option Rat},jM K H v o->aH H H'->jM K H' v o |none,h,_=>h |some _,h,s=>bc.go h s
theorem bc.tt{H H':Hp}{v:V}{q:Rat}(h:bc K H v q)(s:dX H H'):bc K H' v q:=by obtain⟨a,rfl,h⟩:=h;exact⟨a,Z,h.t s⟩
def vh(n:Nat):Option Rat->Prop |none=>True |some q=>Bd n q
def rC(r f:Int)(e b:Option Rat):List Rat:=(0::e.toList.map λq=>q+((-f:Int):Rat))++b.toList.map λq=>q+((-r:Int):Rat)
def rP(r f:Int)(bd:Rat)(e b:Option Rat):List Rat:=(bd::e.toList.map λq=>q+(r:Rat))++b.toList.map λq=>q+(f:Rat)
def wA(r f:Int)(bd:Rat)(e b:Option Rat):Bool:=!((rC r f e b).any λl=>(rP r f bd e b).any λh=>decide (h<l))
theorem eK.tt{H H':Hp}(s:dX H H'):∀{vs:List V}{rs:List Rat},eK K H vs rs->eK K H' vs rs |[],[],_=>trivial |v::vs,q::rs,h=>⟨h.1.tt s,h.2.1,eK.tt s h.2.2⟩ |[],_::_,h=>h.elim |_::_,[],h=>h.elim
theorem eK.snoc{H:Hp}{v:V}{q:Rat}(hv:bc K H v q)(hb:Bd 2000 q):∀{vs:List V}{rs:List Rat},eK K H vs rs->eK K H (vs++[v]) (rs++[q]) |[],[],_=>⟨hv,hb,trivial⟩ |v::vs,q::rs,h=>⟨h.1,h.2.1,eK.snoc hv hb h.2.2⟩ |[],_::_,h=>h.elim |_::_,[],h=>h.elim
theorem Tb{α:Type}(l:List α)(p:α->Bool)(g:Nat->Bool)(h:∀i x,l[i]? =some x->g i=p x):(List.range l.length).any g=l.any p:=by
 rw[oM,sZ,sZ];refine⟨λ⟨i,hi,e⟩=>?_,λ⟨x,hx,e⟩=>?_⟩
 ·have hi:=List.mem_range.mp hi
  exact⟨l[i],xG hi,by rw[<-h i _ (bu hi)];exact e⟩
 ·obtain⟨i,hi⟩:=vo.mp hx
  exact⟨i,List.mem_range.mpr (cv.mp hi).1,by rw[h i x hi];exact e⟩
inductive aa6(K:ag)(vs:List V)(H:Hp)(Q:VK):Prop |mk (m:_)(bv:_)(ev:_)(gv:_)(rs:_)(r:_)(f:_)(j:_)(t:_)(bd:_)(e:_)(b:_)(h0:vs=[m,bv,ev,gv])(h1:RD K H m (fE rs r f j t))(h2:iT rs r f j t)(h3:bc K H bv bd)(h4:Bd 1900 bd)(h5:jM K H ev e)(h6:vh 1900 e)(h7:jM K H gv b)(h8:vh 1900 b)(h9:∀H',aH H H'->Q (.bl (wA r f bd e b)) H')
def B9(K:ag):Sp:=λvs H Q _=>aa6 K vs H Q
theorem Nl:bj ["machine","bound","ended","begun","rise","fall","lows","highs"] ["machine","bound","ended","begun"] (aX Fs):=bw aQ
theorem a0i(F:FA K mg "can_meet" Fs)(B:bE mg)(gN:GT K mg "NOUGHT" [.int 0,.int 1])(mK:aF P w K mg aA "plus_whole" 4 (xV K))(pN:aF P w K mg aA "is_less" 1 (lH K)):aF P w K mg aA "can_meet" 5 (B9 K):=by
 refine F.has Nl (λvs H Q E h=>?_) (λ_ _ _ _ _ _=>sN λ_ _ _ _=>rfl) (λfa aM A outer s H vs Q E hr h=>?_)
 ·obtain⟨m,bv,ev,gv,rs,r,f,j,t,bd,e,b,rfl,_⟩:=h
  rfl
 ·obtain⟨m,bv,ev,gv,rs,r,f,j,t,bd,e,b,rfl,rm,aL,Rb,bb,Re,be,Rg,bg,k⟩:=h
  have nd:=Nl.nd;obtain⟨aN,j7,gr⟩:=gN;refine⟨_,(aE (p4 (i:=4) (j:=5) Z nd Z Z aB Z Z (au (px K (pv 0) aD) (au (px K (pv 0) aD) az)) Z) (aE (pS 6 nd (dj (au (fC (x:="NOUGHT") Z j7) az))) (aE (pS 7 nd (dj (au (pv 1) az))) (aE (iM (bp (bG lM (pv 2) fo (aZ _)) (aE (e9 (iP K Z (pv 6) (au (pf mK hr (au (pv 2) (au (mD md (pv 5)) az))) az))) (aG (e9 (iP K Z (pv 7) (au (pf mK hr (au (pv 2) (au (pv 4) az))) az))))) bA)) (aE (iM (bp (bG lM (pv 3) fo (aZ _)) (aE (e9 (iP K Z (pv 6) (au (pf mK hr (au (pv 3) (au (mD md (pv 4)) az))) az))) (aG (e9 (iP K Z (pv 7) (au (pf mK hr (au (pv 3) (au (pv 5) az))) az))))) bA)) (aG (aR (vU (eD (x:="any") (Td K Z Z) Z (B.at "any") Ug (au (Yp (N:=["low","high","highs"]) (js:=[none,none,some 7]) rfl rfl rfl (p8 K rfl (pv 6)) (λ_ _ _ _ _=>(aY 0 (show List.Nodup (["low","high","highs"]:List Str) by decide+kernel))) (λ_ _ _ _ _=>(p8 K rfl (pv 2))) (λ_ _ _ _ _=>(aY 1 (show List.Nodup (["low","high","highs"]:List Str) by decide+kernel))) (λ_ _ _ _ _=>(pf pN hr (au (pv 1) (au (pv 0) az))))) az)))))))))),?_⟩;obtain⟨ma,mb,rfl,gD,lT⟩:=mH rm;have qV:=aL.r1;have lX:=aL.f1;refine⟨_,Z,.inr ⟨ma,_,1,.int r,Z,Z,gD,Z,_,Z,.inr ⟨ma,_,2,.int f,Z,Z,gD,Z,_,_,Z,?_⟩⟩⟩;refine⟨bR Z,λl1 H1 n1=>?_⟩;refine⟨_,Z,bR Z,λl2 H2 n2=>?_⟩;have l12:l1≠l2:=dU n1.at' n2.no;have OK:H l1=none:=n1.no;have OJ:H l2=none:=by cases e:H l2 with |none=>rfl |some o=>have:=n1.same _ _ e;rw[n2.no]at this;cases this
  have R0:∀H',bc K H' (.ref aN) 0:=λH'=>⟨aN,Z,gr H'⟩;have b0:Bd 2000 (0:Rat):=⟨aB,aB⟩;have s2:=n1.same.trans n2.same;have ap:∀{H3:Hp}{l:Addr}{xs:List V}{v:V},H l=none->aH H H3->aH H (L2.upd H3 l (.lst (xs++[v]))):=λ{H3 l xs v} hn s3=>λq o eq=>by rw[aV (dU eq hn)];exact s3 _ _ eq
  refine⟨λO H3=>aH H H3/\∃xs ys,H3 l1=some (.lst xs)/\H3 l2=some (.lst ys)/\eK K H3 xs (0::e.toList.map λq=>q+((-f:Int):Rat))/\eK K H3 ys (bd::e.toList.map λq=>q+(r:Rat))/\O=[some (.ref ma),some bv,some ev,some gv,some (.int r),some (.int f),some (.ref l1),some (.ref l2)],?_,?_⟩
  ·refine⟨_,Z,Z,_,Z,?_⟩
   have V1:eK K H2 [.ref aN] [0]:=⟨R0 _,b0,trivial⟩;have V2:eK K H2 [bv] [bd]:=⟨Rb.go s2,bb.mono aB,trivial⟩;cases e with |none=>have e0:ev= .bN:=Re;subst e0;exact aW ⟨s2,_,_,n2.same _ _ n1.at',n2.at',V1,V2,Z⟩ |some q=>
    have Re:bc K H ev q:=Re;have be:Bd 1900 q:=be;obtain⟨ae,e0,he⟩:=id Re;subst e0;refine bK ?_;have d1:=n2.same _ _ n1.at';refine⟨_,Z,.inl ⟨Z,_,aK.of d1⟩,?_⟩;refine⟨_,Z,_,Z,_,Z,.ref ae,q,_,Z,Re.go s2,be.mono aB,(by rw[nL];lia),λu1 H3 jD s3=>?_⟩;have zL:=s3 _ _ d1;refine⟨l1,_,u1,Z,Z,zL,bR Z,?_⟩;have t3:dX H3 (L2.upd H3 l1 (.lst ([.ref aN]++[u1]))):=.gY zL;have WS:=s2.trans s3;have Fc:=ap (l:=l1) (xs:=[.ref aN]) (v:=u1) OK WS;have d2:(L2.upd H3 l1 (.lst ([.ref aN]++[u1]))) l2=some (.lst [bv]):=by rw[aV l12.symm];exact s3 _ _ n2.at'
    have zK:(L2.upd H3 l1 (.lst ([.ref aN]++[u1]))) l1=some (.lst ([.ref aN]++[u1])):=bQ;have zX:eK K (L2.upd H3 l1 (.lst ([.ref aN]++[u1]))) ([.ref aN]++[u1]) ([0]++[q+((-f:Int):Rat)]):=(eK.snoc jD ((qo be (by rw[nL];lia)).mono aB) (V1.go s3)).tt t3;have zW:=(V2.go s3).tt t3;have Tq:=Re.go Fc;generalize L2.upd H3 l1 (.lst ([.ref aN]++[u1]))=H4 at Fc d2 zK zX zW Tq⊢;refine⟨_,Z,.inl ⟨Z,_,aK.of d2⟩,?_⟩;refine⟨_,Z,_,Z,.ref ae,q,_,Z,Tq,be.mono aB,(by rw[nL];lia),λu2 H5 oW s5=>?_⟩;have wY:=s5 _ _ d2;refine⟨l2,_,u2,Z,Z,wY,bR Z,?_⟩;have t5:dX H5 (L2.upd H5 l2 (.lst ([bv]++[u2]))):=.gY wY;exact⟨ap (l:=l2) OJ (Fc.trans s5),_,_,(aV l12).trans (s5 _ _ zK),bQ,(zX.go s5).tt t5,(eK.snoc oW ((qo be (by rw[nL];lia)).mono aB) (zW.go s5)).tt t5,Z⟩
  rintro O H3 ⟨s3,xs,ys,d1,d2,V1,V2,rfl⟩;have lx:=V1.length;have ly:=V2.length;have le:e.toList.length<=1:=by cases e<;>simp
  have BU:xs.length<=2:=by rw[lx,jQ,bL];lia
  have yU:ys.length<=2:=by rw[ly,jQ,bL];lia
  refine⟨λO H4=>aH H H4/\∃xs ys,H4 l1=some (.lst xs)/\H4 l2=some (.lst ys)/\eK K H4 xs (rC r f e b)/\eK K H4 ys (rP r f bd e b)/\O=[some (.ref ma),some bv,some ev,some gv,some (.int r),some (.int f),some (.ref l1),some (.ref l2)],?_,?_⟩
  ·refine⟨_,Z,Z,_,Z,?_⟩
   cases b with |none=>have e0:gv= .bN:=Rg;subst e0;exact aW ⟨s3,_,_,d1,d2,by unfold rC;simpa using V1,by unfold rP;simpa using V2,Z⟩ |some q=>
    have Rg:bc K H gv q:=Rg;have bg:Bd 1900 q:=bg;obtain⟨ae,e0,he⟩:=id Rg;subst e0;refine bK ?_;refine⟨_,Z,.inl ⟨Z,_,aK.of d1⟩,?_⟩;refine⟨_,Z,_,Z,_,Z,.ref ae,q,_,Z,Rg.go s3,bg.mono aB,(by rw[nL];lia),λu1 H4 jD s4=>?_⟩;have zL:=s4 _ _ d1;refine⟨l1,_,u1,Z,Z,zL,y4 _ aw,?_⟩;have t4:dX H4 (L2.upd H4 l1 (.lst (xs++[u1]))):=.gY zL;have WR:=s3.trans s4;have Fb:=ap (l:=l1) (xs:=xs) (v:=u1) OK WR;have wY:(L2.upd H4 l1 (.lst (xs++[u1]))) l2=some (.lst ys):=by rw[aV l12.symm];exact s4 _ _ d2
    have zK:(L2.upd H4 l1 (.lst (xs++[u1]))) l1=some (.lst (xs++[u1])):=bQ;have zX:=(eK.snoc jD ((qo bg (by rw[nL];lia)).mono aB) (V1.go s4)).tt t4;have zW:=(V2.go s4).tt t4;have Tp:=Rg.go Fb;generalize L2.upd H4 l1 (.lst (xs++[u1]))=H5 at Fb wY zK zX zW Tp⊢;refine⟨_,Z,.inl ⟨Z,_,aK.of wY⟩,?_⟩;refine⟨_,Z,_,Z,.ref ae,q,_,Z,Tp,bg.mono aB,(by rw[nL];lia),λu2 H6 oW s6=>?_⟩;have Sf:=s6 _ _ wY;refine⟨l2,_,u2,Z,Z,Sf,y4 _ aw,?_⟩;have t6:dX H6 (L2.upd H6 l2 (.lst (ys++[u2]))):=.gY Sf;exact⟨ap (l:=l2) OJ (Fb.trans s6),_,_,(aV l12).trans (s6 _ _ zK),bQ,(zX.go s6).tt t6,(eK.snoc oW ((qo bg (by rw[nL];lia)).mono aB) (zW.go s6)).tt t6,Z⟩
  rintro O H4 ⟨s4,xs,ys,d1,d2,V1,V2,rfl⟩;have lx:=V1.length;have ly:=V2.length;have lb:b.toList.length<=1:=by cases b<;>simp
  have BU:xs.length<=3:=by rw[lx];unfold rC;rw[cE,jQ,bL,bL];lia
  have yU:ys.length<=3:=by rw[ly];unfold rP;rw[cE,jQ,bL,bL];lia
  refine⟨_,Z,l1,Z,⟨_,aK.of d1⟩,λD H5 n5=>?_⟩;refine a7I (K:=K) (b:=λi j=>((rP r f bd e b)[j]?.bind λh=>(rC r f e b)[i]?.map λl=>decide (h<l)).getD false) _ (aK.of d1) (aK.of d2) n5 (gU (oG BU yU) aB) ?_ ?_ ?_
  ·intro x v H6 R s6 hR
   exact⟨_,Z,l2,Z,⟨_,aK.of (s6 _ _ d2)⟩,hR⟩
  ·intro i j' x y H6 Q' ex ey s6 hq
   obtain⟨l,el,Rl,bl⟩:=V1.get ex;obtain⟨h,eh,Rh,bh⟩:=V2.get ey;have hq:=hq H6 (aH.refl _);rw[el,eh]at hq;exact⟨_,Z,_,Z,y,x,h,l,Z,Rh.go s6,Rl.go s6,bh,bl,hq⟩
  ·intro H6 s6 d6
   refine⟨D,_,Z,aK.of d6,?_⟩;have ea:(((List.range xs.length).flatMap λi=>(List.range ys.length).map λj=>((rP r f bd e b)[j]?.bind λh=>(rC r f e b)[i]?.map λl=>decide (h<l)).getD false)).any id=(rC r f e b).any λl=>(rP r f bd e b).any λh=>decide (h<l):=by rw[a8q,lx,ly];refine Tb _ _ _ λi l el=>Tb _ _ _ λj' h eh=>?_;rw[el,eh];rfl
   rw[ea];exact⟨_,Z,k H6 (s4.trans s6)⟩
def AX(dG:List Int)(t:Int)(q:Rat):aj:=.tuple [.str "step",.tuple (dG.map PyData.int),.int t,cD q]
theorem xS{H:Hp}{v:V}{zs:List Int}{t:Int}{q:Rat}(h:RD K H v (AX zs t q)):∃a b c,v= .ref a/\aU K H a [.str "step",.ref b,.int t,c]/\aU K H b (zs.map V.int)/\bc K H c q:=by obtain⟨a,xs,rfl,hx,hd⟩:=h.cB;obtain⟨u1,ys,rfl,r1,hd⟩:=hd.cons_inv;obtain⟨u2,ys,rfl,r2,hd⟩:=hd.cons_inv;obtain⟨u3,ys,rfl,r3,hd⟩:=hd.cons_inv;obtain⟨u4,ys,rfl,r4,hd⟩:=hd.cons_inv;cases hd.nil_inv;cases r1.str_inv;cases r3.int_inv;obtain⟨b,bs,rfl,hb,hbs⟩:=r2.cB;rw[hbs.hZ]at hb;obtain⟨c,cs,rfl,hc,nU⟩:=r4.cB;obtain⟨c1,cr,rfl,e1,nU⟩:=nU.cons_inv;obtain⟨c2,cr,rfl,e2,nU⟩:=nU.cons_inv;cases nU.nil_inv;cases e1.int_inv;cases e2.int_inv;exact⟨a,b,_,Z,hx,hb,c,Z,hc⟩
inductive a98(K:ag)(vs:List V)(H:Hp)(Q:VK):Prop |mk (m:_)(sq:_)(rs:_)(r:_)(f:_)(j:_)(ti:_)(t:_)(q:_)(h0:vs=[m,.int t,sq])(h1:RD K H m (fE rs r f j ti))(h2:bc K H sq q)(h3:Bd 2000 q)(h4:1<=ti)(h5:ti<=100)(h6:0<q)(h7:1<=t)(h8:t.natAbs<2^2400)(h9:dQ ti q t=true)(uG:dQ ti q (t-1)=false)(HR:∀H',aH H H'->Q (.bl true) H')
def Lo(K:ag):Sp:=λvs H Q _=>a98 K vs H Q
theorem Md:bj ["machine","t","square"] ["machine","t","square"] (aX DY):=bw aQ
theorem Z0(F:FA K mg "is_timed" DY)(B:bE mg)(gN:GT K mg "NOUGHT" [.int 0,.int 1])(mQ:aF P w K mg aA "is_whole" 1 (lJ K))(a3C:aF P w K mg aA "is_fraction" 2 (LN K))(pN:aF P w K mg aA "is_less" 1 (lH K))(zk:aF P w K mg aA "are_enough" 1 (DK K)):aF P w K mg aA "is_timed" 3 (Lo K):=by
 refine F.has Md (λvs H Q E h=>?_) (λ_ _ _ _ _ _=>kW λ_ _ _=>rfl) (λfa aM A outer s H vs Q E hr h=>?_)
 ·obtain⟨m,sq,rs,r,f,j,ti,t,q,rfl,_⟩:=h
  rfl
 ·obtain⟨m,sq,rs,r,f,j,ti,t,q,rfl,rm,Rq,bq,Dr,KA,q0,t1,t2,qd,IC,k⟩:=h
  have nd:=Md.nd;obtain⟨aN,j7,gr⟩:=gN;refine⟨_,(aE (bp (PW.pt (fQ (cU (bU (pf mQ hr (au (pv 1) az)))) (fQ (bG jj (pv 1) aD (aZ _)) (fQ (cU (bU (pf a3C hr (au (pv 2) az)))) (iY (cU (bU (pf pN hr (au (fC (x:="NOUGHT") Z j7) (au (pv 2) az)))))))))) (aG (aR iO)) bA) (aG (aR (fX (pf zk hr (au (pv 0) (au (pv 2) (au (pv 1) az)))) (gz (vU (pf zk hr (au (pv 0) (au (pv 2) (au (aO gM (pv 1) aD) az)))))))))),?_⟩;refine⟨_,Z,_,_,Z,(dN (K:=K) (H:=H) t).ty,_,Z,?_⟩;rw[show jI (jS (.int t))=true from(by decide:jI "int"=true)];refine aW ⟨_,Z,_,_,Z,Z,_,Z,?_⟩;rw[dF cj];refine aW ?_;refine⟨_,Z,sq,q,Z,Rq,_,Z,aW ?_⟩;refine⟨_,Z,.ref aN,sq,0,q,Z,⟨aN,Z,gr H⟩,Rq,⟨aB,aB⟩,bq,_,Z,?_⟩;rw[cm q0];refine aW ?_;refine⟨_,Z,_,Z,_,Z,m,sq,t,rs,r,f,j,ti,q,Z,rm,Rq,bq,Dr,KA,cj,t2,?_⟩;rw[qd];refine⟨_,Z,bK ?_⟩;refine⟨_,Z,_,Z,_,Z,_,_,Z,Z,m,sq,t-1,rs,r,f,j,ti,q,Z,rm,Rq,bq,Dr,KA,cj,cj,?_⟩;rw[IC];exact⟨_,Z,k H (aH.refl _)⟩
inductive a9i(K:ag)(vs:List V)(H:Hp)(Q:VK):Prop |mk (v:_)(u:_)(zs:_)(t:_)(q:_)(h0:vs=[v,u])(h1:RD K H v (.tuple (zs.map PyData.int)))(h2:RD K H u (AX zs t q))(h3:zs.length<=1000)(h4:∀H',aH H H'->Q (.bl true) H')
def Lx(K:ag):Sp:=λvs H Q _=>a9i K vs H Q
theorem Mn:bj ["row","entry"] ["row","entry"] (aX E7):=bw aQ
theorem Z6(F:FA K mg "is_step_with" E7)(B:bE mg)(mQ:aF P w K mg aA "is_whole" 1 (lJ K)):aF P w K mg aA "is_step_with" 2 (Lx K):=by
 refine F.has Mn (λvs H Q E h=>?_) (λ_ _ _ _ _ _=>dC λ_ _=>rfl) (λfa aM A outer s H vs Q E hr h=>?_)
 ·obtain⟨v,u,zs,t,q,rfl,_⟩:=h
  rfl
 ·obtain⟨v,u,zs,t,q,rfl,rv,ru,lz,k⟩:=h
  have nd:=Mn.nd;refine⟨_,(aE (bp (PW.pt (fQ (cU (bU (cP K B (au (pv 1) (au (cJ (x:="tuple") (v:=.ty "tuple") Z (B.at "tuple") fh rfl) az))))) (fQ (bG (gO K rfl hr.units) (dk K B (au (pv 1) az)) aD (aZ _)) (iY (bG (gO K rfl hr.units) (px K (pv 1) aD) fg (aZ _)))))) (aG (aR iO)) bA) (aG (aR (fX (eB (cI K Z hr.units) (px K (pv 1) aD) (pv 0) (aZ _)) (gz (eD (x:="all") (qm K Z Z) Z (B.at "all") sX (au (fS (N:=["number"]) (js:=[none]) rfl rfl rfl (mC K rfl (px K (pv 1) aD)) (λ_ _ _ _ _=>(aY 0 (rj _))) (λ_ _ _ _ _=>fm) (λ_ _ _ _ _=>(pf mQ hr (au (pv 0) az)))) az))))))),?_⟩;obtain⟨a,b,c,rfl,h1,h2,h3⟩:=xS ru;refine⟨_,Z,.inl ⟨_,_,"tuple",true,Z,ru.ty,aB,nA,_,Z,aW ?_⟩⟩;refine⟨_,Z,a,_,Z,.inr h1,.inl ⟨_,_,Z,Z,_,Z,aW ?_⟩⟩;refine⟨_,Z,.inr ⟨a,_,0,.str "step",Z,Z,h1,Z,.inr ⟨_,_,cT _,cT _,aQ,aQ,_,Z,?_⟩⟩⟩;rw[qc,show fK "step" (.str "step")=true by decide+kernel];refine aW ?_;have ok:dM 1 (.tuple (zs.map PyData.int)):=gf.tup (n:=0) λd hd=>by obtain⟨i,_,rfl⟩:=fW.mp hd;exact .int i
  refine⟨_,Z,.inr ⟨a,_,1,.ref b,Z,Z,h1,Z,_,Z,.inr ⟨_,_,fA h2 (qS zs),rv,ok.shaped aB,ok.shaped aB,?_⟩⟩⟩;rw[ok.refl];refine⟨_,Z,bK ?_⟩;refine⟨_,Z,.inr ⟨a,_,1,.ref b,Z,Z,h1,Z,b,Z,⟨_,h2⟩,λD H2 n2=>?_⟩⟩;refine Cz (xs:=zs.map V.int) (bs:=zs.map λ_=>true) [] h2 n2 (by simp) (by simp;omega) ?_ ?_
  ·intro i x y H3 Q' ex ey s3 hq
   rw[bX]at ex ey;obtain⟨z,ez,rfl⟩:=D7.mp ex;rw[ez]at ey;cases ey;refine⟨_,Z,_,_,Z,(dN (K:=K) (H:=H3) z).ty,?_⟩;rw[show jI (jS (.int z))=true from(by decide:jI "int"=true)];exact hq _ (aH.refl _)
  ·intro H3 s3 d3
   refine⟨D,_,Z,aK.of d3,?_⟩;have e:(zs.map λ_=>true).all id=true:=gW.mpr λx hx=>by obtain⟨_,_,rfl⟩:=fW.mp hx;rfl
   rw[e];exact k H3 s3
def lZ(zs:List Int)(top:Rat):aj:=.tuple [.str "step",.tuple (zs.map PyData.int),cD top]
inductive a9Y(K:ag)(vs:List V)(H:Hp)(Q:VK):Prop |mk (m:_)(xv:_)(ev:_)(rs:_)(r:_)(f:_)(j:_)(ti:_)(h0:vs=[m,xv,ev])(h1:RD K H m (fE rs r f j ti))(h2:iT rs r f j ti)(h3:((∃d,RD K H xv d/\RD K H ev d/\kr d/\∀H',aH H H'->Q .bN H')\/ ∃zs top t q,RD K H xv (lZ zs top)/\RD K H ev (AX zs t q)/\zs.length<=1000/\Bd 2000 top/\Bd 2000 q/\0<q/\1<=t/\t.natAbs<2^2400/\dQ ti q t=true/\dQ ti q (t-1)=false/\∀H',aH H H'->Q (if top<q then .int 3 else .bN) H'))
def LR(K:ag):Sp:=λvs H Q _=>a9Y K vs H Q
theorem Nd:bj ["machine","expected","entry","word","row","top"] ["machine","expected","entry"] (aX Fh):=bw aQ
theorem a0b(F:FA K mg "fault_of_entry" Fh)(B:bE mg)(Qz:GV mg "NOT_DUE" (.int 1))(a4i:GV mg "WRONG_TICKS" (.int 2))(a4s:GV mg "ABOVE_TOP" (.int 3))(Hz:aF P w K mg aA "is_item" 4 (B7 K))(a3y:aF P w K mg aA "is_step_with" 2 (Lx K))(a3x:aF P w K mg aA "is_timed" 3 (Lo K))(pN:aF P w K mg aA "is_less" 1 (lH K)):aF P w K mg aA "fault_of_entry" 5 (LR K):=by
 refine F.has Nd (λvs H Q E h=>?_) (λ_ _ _ _ _ _=>kW λ_ _ _=>rfl) (λfa aM A outer s H vs Q E hr h=>?_)
 ·obtain⟨m,xv,ev,rs,r,f,j,ti,rfl,_⟩:=h
  rfl
 ·obtain⟨m,xv,ev,rs,r,f,j,ti,rfl,rm,aL,hc⟩:=h
  have nd:=Nd.nd;refine⟨_,(aE (bp (bG (gO K Z hr.units) (px K (pv 1) aD) fg (aZ _)) (aG (aR (vV (PW.pt (nJ (bU (pf Hz hr (au (pv 0) (au (pv 2) az)))) (qX (bG (cI K Z hr.units) (pv 2) (pv 1) (aZ _))))) fo (fC (x:="NOT_DUE") Z Qz)))) bA) (aE (eU (pv 1) (cW K Z (n:=3) Z (bC (aY 3 nd) (bC (aY 4 nd) (bC (aY 5 nd) cV))))) (aE (bp (cU (bU (pf a3y hr (au (pv 4) (au (pv 2) az))))) (aG (aR (fC (x:="NOT_DUE") Z Qz))) bA) (aE (bp (cU (bU (pf a3x hr (au (pv 0) (au (px K (pv 2) aD) (au (px K (pv 2) aD) az)))))) (aG (aR (fC (x:="WRONG_TICKS") Z a4i))) bA) (aG (aR (vV (bU (pf pN hr (au (pv 5) (au (px K (pv 2) aD) az)))) (fC (x:="ABOVE_TOP") Z a4s) fo))))))),?_⟩;rcases hc with⟨d,rx,re,eV,k⟩|⟨zs,top,t,q,rx,re,lz,bt,bq,q0,t1,t2,qd,IC,k⟩
  ·obtain⟨wd,u,rfl,hw⟩:∃wd u,d= .tuple [.str wd,u]/\fK "step" (.str wd)=false:=by
    rcases eV with⟨n,rfl,_,_⟩|⟨wd,z,rfl,hw,_,_⟩
    ·exact⟨"wait",_,Z,aQ⟩
    ·refine⟨wd,_,Z,?_⟩
     rcases hw with rfl|rfl<;>decide+kernel
   obtain⟨i1,i2,i3⟩:=xk.is (n:=rs.length) (d:=.tuple [.str wd,u]) (o:=none) ⟨eV.it,(λ_ _ z=>nomatch z),λ_=>eV⟩;obtain⟨a,xs,rfl,h1,hd⟩:=id rx.cB;obtain⟨u1,ys,rfl,e1,hd⟩:=hd.cons_inv;cases e1.str_inv;have lr:=aL.len;refine⟨_,Z,.inr ⟨a,_,0,.str wd,Z,Z,h1,cL (gI 0) Z,.inr ⟨_,_,cT _,cT _,mj (wg i2 (by simp)),aQ,_,Z,?_⟩⟩⟩;rw[qc,hw];refine bK ⟨_,Z,_,Z,m,ev,rs,[PyData.int r,.int f,.int j,.int ti],_,Z,rm,re,aw,i2,i3,λH1 s1=>?_⟩;rw[i1];refine⟨_,Z,bK ?_⟩;refine⟨_,Z,_,Z,.inr ⟨_,_,RD.mono s1 _ re,RD.mono s1 _ rx,mj i2,mj i2,_,Z,?_⟩⟩;rw[eqv_refl _ i2.lay];exact bK (k H1 s1)
  ·obtain⟨a,b,c,rfl,h1,h2,h3⟩:=xS re
   obtain⟨x,xs,rfl,g1,hd⟩:=id rx.cB;obtain⟨u1,ys,rfl,e1,hd⟩:=hd.cons_inv;obtain⟨u2,ys,rfl,e2,hd⟩:=hd.cons_inv;obtain⟨u3,ys,rfl,e3,hd⟩:=hd.cons_inv;cases hd.nil_inv;cases e1.str_inv;obtain⟨tp,ts,rfl,ht,kL⟩:=e3.cB;obtain⟨c1,cr,rfl,q1,kL⟩:=kL.cons_inv;obtain⟨c2,cr,rfl,q2,kL⟩:=kL.cons_inv;cases kL.nil_inv;cases q1.int_inv;cases q2.int_inv;have Rt':bc K H (.ref tp) top:=⟨tp,Z,ht⟩;refine⟨_,Z,.inr ⟨x,_,0,.str "step",Z,Z,g1,cL (gI 0) Z,.inr ⟨_,_,cT _,cT _,aQ,aQ,_,Z,?_⟩⟩⟩;rw[qc,show fK "step" (.str "step")=true by decide+kernel];refine aW ?_;refine⟨_,Z,x,_,Z,g1,Z,_,_,Z,_,_,Z,_,_,Z,Z,?_⟩;refine⟨_,Z,_,Z,u2,.ref a,zs,t,q,Z,e2,re,lz,λH1 s1=>⟨_,Z,aW ?_⟩⟩;refine⟨_,Z,_,Z,.inr ⟨a,_,2,.int t,Z,Z,h1.go s1,Z,_,Z,.inr ⟨a,_,3,c,Z,Z,h1.go s1,Z,?_⟩⟩⟩;refine⟨m,c,rs,r,f,j,ti,t,q,Z,RD.mono s1 _ rm,h3.go s1,bq,aL.t1.1,aL.t1.2,q0,t1,t2,qd,IC,λH2 s2=>⟨_,Z,aW ?_⟩⟩;have gx:=s1.trans s2;refine⟨_,Z,_,Z,.inr ⟨a,_,3,c,Z,Z,h1.go gx,Z,?_⟩⟩;refine⟨.ref tp,c,top,q,Z,Rt'.go gx,h3.go gx,bt,bq,_,Z,?_⟩;have k:=k H2 gx;by_cases bP:top<q
   ·rw[bo bP]at k
    rw[cm bP];exact bK k
   ·rw[bB bP]at k
    rw[dF bP];exact aW k
inductive a9j(K:ag)(vs:List V)(H:Hp)(Q:VK):Prop |mk (ev:_)(h0:vs=[ev])(h1:((∃d,RD K H ev d/\kr d/\Q .bN H)\/∃zs t q,RD K H ev (AX zs t q)/\∀v,bc K H v q->Q v H))
def Ly(K:ag):Sp:=λvs H Q _=>a9j K vs H Q
theorem Mo:bj ["entry"] ["entry"] (aX E8):=bw aQ
theorem Za(F:FA K mg "square_of" E8)(B:bE mg):aF P w K mg aA "square_of" 1 (Ly K):=by
 refine F.has Mo (λvs H Q E h=>?_) (λ_ _ _ _ _ _=>eJ λ_=>rfl) (λfa aM A outer s H vs Q E hr h=>?_)
 ·obtain⟨ev,rfl,_⟩:=h
  rfl
 ·obtain⟨ev,rfl,hc⟩:=h
  have nd:=Mo.nd;refine⟨_,(aG (aR (vV (bG (cI K Z hr.units) (px K (pv 0) aD) fg (aZ _)) (px K (pv 0) aD) fo))),?_⟩;rcases hc with⟨d,re,eV,k⟩|⟨zs,t,q,re,k⟩
  ·obtain⟨wd,u,rfl,hw,hs⟩:∃wd u,d= .tuple [.str wd,u]/\fK "step" (.str wd)=false/\SeqAt.shaped (.str wd)=true:=by
    rcases eV with⟨n,rfl,_,_⟩|⟨wd,z,rfl,hw,_,_⟩
    ·exact⟨"wait",_,Z,aQ,aQ⟩
    ·refine⟨wd,_,Z,?_⟩
     rcases hw with rfl|rfl<;>exact⟨aQ,aQ⟩
   obtain⟨a,xs,rfl,h1,hd⟩:=id re.cB;obtain⟨u1,ys,rfl,e1,hd⟩:=hd.cons_inv;cases e1.str_inv;refine⟨_,Z,.inr ⟨a,_,0,.str wd,Z,Z,h1,cL (gI 0) Z,.inr ⟨_,_,cT _,cT _,hs,aQ,_,Z,?_⟩⟩⟩;rw[qc,hw];exact aW k
  ·obtain⟨a,b,c,rfl,h1,h2,h3⟩:=xS re
   refine⟨_,Z,.inr ⟨a,_,0,.str "step",Z,Z,h1,Z,.inr ⟨_,_,cT _,cT _,aQ,aQ,_,Z,?_⟩⟩⟩;rw[qc,show fK "step" (.str "step")=true by decide+kernel];exact bK ⟨_,Z,.inr ⟨a,_,3,c,Z,Z,h1,Z,k _ h3⟩⟩
theorem Nc:bj ["machine","items","squares","fall","kept","i"] ["machine","items","squares"] (aX Fg):=bw aQ
def RowW(ds:List aj)(os:List Itm):Prop:=∀(i:Nat)(d:aj),os[i]? =some none->ds[i]? =some d->kr d
theorem RowW.snoc{ds:List aj}{os:List Itm}{d:aj}{o:Itm}(h:RowW ds os)(hl:ds.length=os.length)(hd:o=none->kr d):RowW (ds++[d]) (os++[o]):=by
 intro i x e1 e2;rcases qL e1 with h1|⟨h1,h1'⟩
 ·rcases qL e2 with h2|⟨h2,_⟩
  ·exact h i x h1 h2
  ·have:=(cv.mp h1).1;lia
 ·rcases qL e2 with h2|⟨_,uF⟩
  ·have:=(cv.mp h2).1;lia
  ·subst uF;exact hd h1'.symm
def qq(rs pl:List Int)(os:List Itm):Prop:=∀i,i<=os.length->jN rs ((os.take i).foldl ij pl)
theorem qq.nil{rs pl:List Int}(h:jN rs pl):qq rs pl []:=λi hi=>by simpa using h
theorem qq.snoc{rs pl:List Int}{os:List Itm}{o:Itm}(h:qq rs pl os)(g:jN rs (ij (os.foldl ij pl) o)):qq rs pl (os++[o]):=λi hi=>by
 rw[cE]at hi;by_cases c:i<=os.length
 ·rw[List.take_append_of_le_length c];exact h i c
 ·have e:i=(os++[o]).length:=by rw[cE];have:[o].length=1:=rfl;lia
  rw[e,xD,xH];exact g
inductive a9O(K:ag)(vs:List V)(H:Hp)(Q:VK):Prop |mk (p:_)(m:_)(rs:_)(r:_)(f:_)(j:_)(t:_)(fR:_)(pl:_)(many:_)(most:_)(h0:vs=[.ref p,m,fR,.int many,.int most])(h1:gh H p)(h2:RD K H m (fE rs r f j t))(h3:iT rs r f j t)(h4:RD K H fR (gK pl))(h5:jN rs pl)(h6:1<=many)(h7:many<=20)(h8:1<=most)(h9:most<=100)(uG:∀v ds os H',RD K H' v (.tuple ds)->cw rs.length ds os->RowW ds os->(ds.length:Int)<=many/\qq rs pl os->bF p H H'->Q v H')
def DH(K:ag):Sp:=λvs H Q _=>a9O K vs H Q
theorem MY:bj ["_law_bag_here","_law_machine_here","_law_place_here","_law_many","_law_most","_law_items_here","_law_straight","_law_turn"] ["_law_bag_here","_law_machine_here","_law_place_here","_law_many","_law_most"] (aX EW):=bw aQ
theorem ZY(F:FA K mg "_law_items" EW)(B:bE mg)(dA:aF P w K mg aA "_law_take" 1 mi)(a4K:aF P w K mg aA "_law_other" 2 (LL K))(a4O:aF P w K mg aA "_law_line" 2 (DF K)):aF P w K mg aA "_law_items" 3 (DH K):=by
 refine F.has MY (λvs H Q E h=>?_) (λ_ _ _ _ _ _=>Jt λ_ _ _ _ _=>rfl) (λfa aM A outer s H vs Q E hr h=>?_)
 ·obtain⟨p,m,rs,r,f,j,t,fR,pl,many,most,rfl,_⟩:=h
  rfl
 ·obtain⟨p,m,rs,r,f,j,t,fR,pl,many,most,rfl,bg,rm,aL,oX,on,my1,my2,P4,P2,k⟩:=h
  have nd:=MY.nd;refine⟨_,(aE (pS 5 nd (dj az)) (aE (pS 6 nd (pf dA hr (au (pv 0) (au aD az)))) (aE (gJ fe Z (p7 Z (B.at "range") (au (pf dA hr (au (pv 0) (au (aO cQ (pv 3) aD) az))) az)) (aY 7 nd) (aG (bp (bG (cI K Z hr.units) (pf dA hr (au (pv 0) (au (aO cQ aD (aO bO aD (gL (x:="int") zQ Z (B.at "int") xA (au (eB (cI K rfl hr.units) (pv 6) aD (aZ _)) az)))) az))) aD (aZ _)) (aG (e9 (iP K Z (pv 5) (au (pf a4K hr (au (pv 0) az)) az)))) (aE (e9 (iP K Z (pv 5) (au (pf a4O hr (au (pv 0) (au (pv 1) (au (pv 2) (au (pv 4) az))))) az))) (aG (pS 2 nd (gL (x:="tuple") (me K Z) Z (B.at "tuple") fh (au (fS (N:=["_law_stand_here","_law_step"]) (js:=[none,none]) rfl rfl rfl (jX K rfl false false rfl (B.at "zip") (au (pv 2) (au (px K (px K (pv 5) (mD md aD)) aD) az))) (λ_ _ _ _ _=>(cW K rfl (n:=2) rfl (bC (aY 0 (fY aB)) (bC (aY 1 (fY aB)) cV)))) (λ_ _ _ _ _=>fm) (λ_ _ _ _ _=>(aO cQ (pv 0) (pv 1)))) az)))))))) (aG (aR (gL (x:="tuple") (me K Z) Z (B.at "tuple") fh (au (pv 5) az))))))),?_⟩;have lr:=aL.len;have nm:=nP rs r f j t;refine⟨bR Z,λl H1 n1=>?_⟩;have b1:bF p H H1:=.fH bg n1.same;have lp:l≠p:=λz=>bg.ne (z▸n1.no);refine⟨_,Z,p,3,Z,b1.bI,aB,aB,λst H2 nH AY b2=>?_⟩;refine⟨_,Z,_,Z,_,_,Z,Z,p,many+1,Z,b2.bI,cj,cj,λcnt H3 c0 c1 b3=>?_⟩;have T5:=b1.trans (b2.trans b3);refine⟨_,Z,cj,cj,?_⟩;refine uJ (Pv:=λi O H4=>bF p H H4/\∃zs es qs fR mz v1,(qs.foldl ij pl=mz/\qq rs pl qs)/\H4 l=some (.lst zs)/\aJ K H4 zs es/\cw rs.length es qs/\RowW es qs/\es.length<=i/\RD K H4 fR (gK mz)/\jN rs mz/\O=[some (.ref p),some m,some fR,some (.int many),some (.int most),some (.ref l),some (.int st),v1]) ?_ ?_ ?_
  ·exact⟨T5,[],[],[],fR,pl,none,⟨Z,.nil on⟩,(b2.trans b3).same _ _ lp n1.at',cH,cw.nil,(λi d e=>by simp at e),bf _,RD.t (bF.t bg T5) _ (jE _) oX,on,Z⟩
  ·rintro i O H4 hi4 ⟨b4,zs,es,qs,fR,mz,v1,⟨zB,qQ⟩,dl,rz,row,dG,hl,oX,on,rfl⟩
   have lz:=rz.length;refine⟨_,Z,_,Z,.inl ⟨_,_,Z,Z,.inr ⟨_,Z,?_⟩⟩⟩;refine⟨_,_,Z,Z,.of_left (cC aB aB),_,_,Z,Z,?_⟩;refine⟨p,_,Z,b4.bI,(by split<;>omega),(by split<;>omega),λg H5 g0 g1 b5=>?_⟩;have Jg:=b4.trans b5;have Cr:=b5.same _ _ lp dl;have t5:=bF.t b4.bI b5;have ND:=aJ.t t5 _ row.no rz;have FT:=RD.t t5 _ (jE _) oX;refine .inl ⟨_,_,Z,Z,_,Z,?_⟩;refine dJ (λhc=>?_) (λhc=>?_)
   ·refine⟨_,Z,.inl ⟨Z,_,aK.of Cr⟩,?_⟩
    refine⟨_,Z,p,Z,b5.bI,λov d H6 ro ot b6=>?_⟩;have it:=ot.it;have uW:=b6.same _ _ lp Cr;have t6:=bF.t b5.bI b6;refine⟨l,zs,_,Z,Z,uW,y4 _ cj,?_⟩;have tu:dX H6 (L2.upd H6 l (.lst (zs++[ov]))):=.gY uW;refine⟨(Jg.trans b6).putL lp n1.no,_,_,_,_,mz,_,⟨by rw[xH,zB];rfl,qQ.snoc (by rw[zB];exact on)⟩,bQ,aJ.xY uW (aJ.t t6 _ row.no ND) ro row.no it.no,row.snoc it (λfJ iK e=>nomatch e),dG.snoc row.len (λ_=>ot),?_,RD.t (t6.trans tu) _ (jE _) FT,on,rfl⟩;rw[cE];show es.length+1<=i+1;omega
   ·refine⟨_,Z,.inl ⟨Z,_,aK.of Cr⟩,?_⟩
    have FU:=RD.t (bF.t bg Jg) _ nm rm;refine⟨_,Z,_,Z,_,Z,_,Z,p,m,rs,r,f,j,t,fR,mz,most,Z,b5.bI,FU,aL,FT,on,P4,P2,λlv ns sp H6 rl cn dZ eR Bz b6=>?_⟩;have uW:=b6.same _ _ lp Cr;have t6:=bF.t b5.bI b6;refine⟨l,zs,_,Z,Z,uW,y4 _ cj,?_⟩;have tu:dX H6 (L2.upd H6 l (.lst (zs++[lv]))):=.gY uW;have b7:bF p H (L2.upd H6 l (.lst (zs++[lv]))):=(Jg.trans b6).putL lp n1.no;have NC:=aJ.xY uW (aJ.t t6 _ row.no ND) rl row.no (GS _ _);have NN:=RD.t (t6.trans tu) _ (jE _) FT;have NS:=RD.t tu _ (GS _ _) rl;have sH:(L2.upd H6 l (.lst (zs++[lv]))) l=some (.lst (zs++[lv])):=bQ;generalize L2.upd H6 l (.lst (zs++[lv]))=H7 at b7 NC NN NS sH⊢;have Xk:cw rs.length (es++[hW ns sp]) (qs++[some (ns,sp)]):=row.snoc (.inl ⟨_,_,Z,Z⟩) λfJ iK e=>by cases e;exact⟨cn,dZ,eR⟩
    obtain⟨pa,rfl,C0⟩:=Gf NN;obtain⟨la,lb,rfl,hla,Qi⟩:=lP NS;have lpl:=on.len;refine⟨_,Z,_,Z,_,Z,.inl ⟨l,_,_,.ref la,Z,Z,aK.of sH,Jk (by simp),.inr ⟨la,_,1,.ref lb,Z,Z,hla,Z,pa,lb,Z,⟨_,C0⟩,⟨_,Qi⟩,λD H8 n8=>?_⟩⟩⟩;have lns:=cn.len;refine uX (K:=K) (b1:=false) (b2:=false) (xs:=mz.map V.int) (ys:=ns.map V.int) (ds:=(kn mz ns).map PyData.int) _ Z C0 Qi n8 (by rw[bL,bL,bL,vd cj];omega) (by rw[bL,vd cj];omega) (kI _) ?_ ?_
    ·intro q x y dd H9 Q' ex ey ed s9 hq
     rw[bX]at ex ey ed;obtain⟨x',mW,rfl⟩:=D7.mp ex;obtain⟨y',Iq,rfl⟩:=D7.mp ey;rw[Ju mW Iq]at ed;cases ed;exact⟨_,Z,_,Z,_,_,Z,Z,hq _ _ (aH.refl _) (dN _)⟩
    ·intro H9 ys s9 d9 r9
     refine⟨D,_,Z,.inl ⟨aK.of d9,λtp iu pD=>?_⟩⟩;have FC:=s9.trans pD.same;have RM:=pD.at';rw[r9.hZ]at RM;exact⟨b7.trans (.fH b7.bI FC),_,_,_,_,_,_,⟨by rw[xH,zB];rfl,qQ.snoc (by rw[zB];exact Bz)⟩,FC _ _ sH,aJ.mono FC _ NC,Xk,dG.snoc row.len (λe=>nomatch e),(by rw[cE];show es.length+1<=i+1;omega),Ge (aU.of RM),Bz,rfl⟩
  ·rintro O H4 ⟨b4,zs,es,qs,fR,mz,v1,⟨zB,qQ⟩,dl,rz,row,dG,hl,oX,on,rfl⟩
   refine⟨_,Z,l,_,Z,.inl ⟨aK.of dl,λtq H5 n5=>?_⟩⟩;exact k (.ref tq) es qs H5 (fA (aU.of n5.at') (aJ.mono n5.same _ rz)) row dG ⟨cj,qQ⟩ (b4.trans (.fH b4.bI n5.same))
def xg(ti:Int)(q:Rat)(T:Int):Prop:=1<=T/\dQ ti q T=true/\dQ ti q (T-1)=false
open Classical in
noncomputable def lC(ti:Int)(q:Rat):Int:=if h:∃T,xg ti q T then h.choose else 0
theorem Ry{ti:Int}{q:Rat}{s t:Int}(hq:0<=q.num)(h0:0<=s)(h:s<=t)(e:dQ ti q s=true):dQ ti q t=true:=by refine cm (Int.le_trans (jc e) ?_);exact Up (Di h h h0 aw) hq
theorem Vn{ti:Int}{q:Rat}{S T:Int}(hq:0<=q.num)(h1:xg ti q S)(h2:xg ti q T):S=T:=by
 obtain⟨a1,a2,a3⟩:=h1;obtain⟨b1,b2,b3⟩:=h2;by_cases h:S<=T-1
 ·have:=Ry hq aw h a2
  rw[b3]at this;cases this
 ·by_cases h':T<=S-1
  ·have:=Ry hq aw h' b2
   rw[a3]at this;cases this
  ·lia
theorem Dq{ti:Int}{q:Rat}{T:Int}(hq:0<=q.num)(h:xg ti q T):lC ti q=T:=by have hx:∃T,xg ti q T:=⟨T,h⟩;unfold lC;rw[dif_pos hx];exact Vn hq hx.choose_spec h
theorem Gq{q:Rat}(h:0<q):0<q.num:=by
 have h1:=JR.mpr (Ad h);have h2:q.num≠0:=λe=>by rw[Rat.num_eq_zero.mp e]at h;exact absurd h aB
 lia
noncomputable def mh(ti:Int)(zs:List Int)(q:Rat):aj:=.tuple [.str "step",.tuple (zs.map PyData.int),.int (lC ti q),cD q]
theorem L8(ti:Int)(zs:List Int)(q:Rat):dw (mh ti zs q)=true:=by simp[mh,dw,bM,kI,oZ]
inductive a9Z(K:ag)(vs:List V)(H:Hp)(Q:VK):Prop |mk (m:_)(rv:_)(sq:_)(rs:_)(r:_)(f:_)(j:_)(ti:_)(zs:_)(q:_)(h0:vs=[m,rv,sq])(h1:RD K H m (fE rs r f j ti))(h2:iT rs r f j ti)(h3:RD K H rv (.tuple (zs.map PyData.int)))(h4:bc K H sq q)(h5:Bd 2000 q)(h6:0<q)(h7:∀v H',RD K H' v (mh ti zs q)->aH H H'->Q v H')
def DJ(K:ag):Sp:=λvs H Q _=>a9Z K vs H Q
theorem Nf:bj ["machine","row","square"] ["machine","row","square"] (aX Fi):=bw aQ
theorem a0d(F:FA K mg "step_entry" Fi)(B:bE mg)(a2W:aF P w K mg aA "ticks_of" 2 (Lq K)):aF P w K mg aA "step_entry" 3 (DJ K):=by
 refine F.has Nf (λvs H Q E h=>?_) (λ_ _ _ _ _ _=>kW λ_ _ _=>rfl) (λf aM A outer s H vs Q E hr h=>?_)
 ·obtain⟨m,rv,sq,rs,r,f,j,ti,zs,q,rfl,_⟩:=h
  rfl
 ·obtain⟨m,rv,sq,rs,r,f,j,ti,zs,q,rfl,rm,aL,rr,Rq,bq,q0,k⟩:=h
  have nd:=Nf.nd;refine⟨_,(aG (aR (df (au fg (au (pv 1) (au (pf a2W hr (au (pv 0) (au (pv 2) az))) (au (pv 2) az))))))),?_⟩;have t1:=aL.t1;have qn:0<q.num:=Gq q0;refine⟨_,Z,_,Z,_,Z,m,sq,rs,r,f,j,ti,q,Z,rm,Rq,bq,t1.1,t1.2,qn,λT T1 _ T2 T3=>?_⟩;refine⟨_,Z,bR Z,λt H1 n1=>k (.ref t) H1 ?_ n1.same⟩;have e:=Dq aw ⟨T1,T2,T3⟩;unfold mh;rw[e];exact fA (aU.of n1.at') (cf (cT _) (cf (RD.mono n1.same _ rr) (cf (dN _) (cf (Rq.go n1.same).rd cH))))
theorem Ky{rate sp:Int}(h1:1<=sp)(h2:10<=rate):0<topR rate sp:=by
 have h0:=Ow.tE rate sp;refine JQ h0 λe=>?_;have hp:0<(sp*rate)^2:=by rw[fy,fy,lg,ky];exact gX (gX aw aw) (gX aw aw)
 have h2:0<=Rat.divInt (-((sp*rate)^2)) 10000:=by rw[<-Rat.neg_divInt];show 0<=-(topR rate sp);rw[<-e];decide
 have:=(xy aB).mp h2
 lia
def gQ(rate:Int)(ds:List aj)(os:List Itm)(i:Nat):List aj:=match os[i]? with |some (some (ns,sp))=>(List.range (aI ns)).map λk=>lZ (fz ns k) (topR rate sp) |_=>[ds.getD i .none]
def dv(rate:Int)(ds:List aj)(os:List Itm):Nat->List aj |0=>[] |i+1=>dv rate ds os i++gQ rate ds os i
def iG(j rate:Int)(os:List Itm)(i:Nat):List Rat:=match os[i]? with |some (some (ns,sp))=>ownF j rate os i::List.replicate (aI ns-1) (topR rate sp) |_=>[ownF j rate os i]
def ip(j rate:Int)(os:List Itm):Nat->List Rat |0=>[] |i+1=>ip j rate os i++iG j rate os i
theorem oj{rate:Int}{ds:List aj}{os:List Itm}{i:Nat}{ns:List Int}{sp:Int}(h:os[i]? =some (some (ns,sp))):gQ rate ds os i=(List.range (aI ns)).map λk=>lZ (fz ns k) (topR rate sp):=by unfold gQ;rw[h]
theorem sE{rate:Int}{ds:List aj}{os:List Itm}{i:Nat}{d:aj}(h:os[i]? =some none)(hd:ds[i]? =some d):gQ rate ds os i=[d]:=by unfold gQ;rw[h,Kb,hd];rfl
theorem vc{j rate:Int}{os:List Itm}{i:Nat}{ns:List Int}{sp:Int}(h:os[i]? =some (some (ns,sp))):iG j rate os i=ownF j rate os i::List.replicate (aI ns-1) (topR rate sp):=by unfold iG;rw[h]
theorem zS{j rate:Int}{os:List Itm}{i:Nat}(h:os[i]? =some none):iG j rate os i=[ownF j rate os i]:=by unfold iG;rw[h]
theorem RR(zs:List Int)(q:Rat):dw (lZ zs q)=true:=by
 have:bM (zs.map PyData.int)=true:=cu.mpr λd hd=>by obtain⟨i,_,rfl⟩:=fW.mp hd;rfl
 simp[lZ,dw,bM,this,cD]
theorem sG{n:Nat}{rate:Int}{ds:List aj}{os:List Itm}(row:cw n ds os):∀i,i<=os.length->(dv rate ds os i).length<=100*i/\bM (dv rate ds os i)=true
 |0,_=>⟨bf _,Z⟩ |i+1,h=>by
  have ll:=row.len;obtain⟨ih,ino⟩:=sG (rate:=rate) row i aw;obtain⟨o,eo⟩:∃o,os[i]? =some o:=⟨_,bu (show i<os.length by lia)⟩;have key:(gQ rate ds os i).length<=100/\bM (gQ rate ds os i)=true:=by cases o with |none=>obtain⟨d',ed⟩:∃d',ds[i]? =some d':=⟨_,bu (show i<ds.length by lia)⟩;rw[sE eo ed];have:=cu.mp row.no _ (gj ed);exact⟨by simp,by simp[bM,this]⟩ |some q=>obtain⟨ns,sp⟩:=q;obtain⟨cn,_,_⟩:=row.ok i ns sp eo;have:=pF cn;rw[oj eo,bL,kY];refine⟨aw,cu.mpr λd hd=>?_⟩;obtain⟨k,_,rfl⟩:=fW.mp hd;exact RR _ _
  refine⟨?_,?_⟩
  ·show(dv rate ds os i++gQ rate ds os i).length<=_
   rw[cE];lia
  ·refine cu.mpr λd hd=>?_
   rcases jz.mp hd with h1|h1
   ·exact cu.mp ino d h1
   ·exact cu.mp key.2 d h1
theorem m6{n:Nat}{j rate:Int}{ds:List aj}{os:List Itm}(row:cw n ds os):∀i,i<=os.length->(ip j rate os i).length=(dv rate ds os i).length |0,_=>rfl |i+1,h=>by have ll:=row.len;show(ip j rate os i++iG j rate os i).length=(dv rate ds os i++gQ rate ds os i).length;rw[cE,cE,m6 row i aw];obtain⟨o,eo⟩:∃o,os[i]? =some o:=⟨_,bu (show i<os.length by lia)⟩;cases o with |none=>obtain⟨d',ed⟩:∃d',ds[i]? =some d':=⟨_,bu (show i<ds.length by lia)⟩;rw[sE eo ed,zS eo];rfl |some q=>
 obtain⟨ns,sp⟩:=q;obtain⟨cn,_,_⟩:=row.ok i ns sp eo;have:=cn.lead;rw[oj eo,vc eo];simp
 lia
inductive aa4(K:ag)(vs:List V)(H:Hp)(Q:VK):Prop |mk (iv:_)(rate:_)(n:_)(ds:_)(os:_)(h0:vs=[iv,.int rate])(h1:RD K H iv (.tuple ds))(h2:cw n ds os)(h3:n<=3)(h4:ds.length<=30)(h5:10<=rate)(h6:rate<=200)(h7:∀l ys H',H l=none->H' l=some (.lst ys)->aJ K H' ys (dv rate ds os os.length)->aH H H'->Q (.ref l) H')
def LV(K:ag):Sp:=λvs H Q _=>aa4 K vs H Q
theorem Nj:bj ["items","rate","due","item","top"] ["items","rate"] (aX Fp):=bw aQ
theorem a0g(F:FA K mg "due_entries" Fp)(B:bE mg)(lU:aF P w K mg aA "is_line" 1 (qK K))(rH:aF P w K mg aA "top_square" 4 (vB K))(Ho:aF P w K mg aA "step_rows" 3 (B0 K)):aF P w K mg aA "due_entries" 5 (LV K):=by
 refine F.has Nj (λvs H Q E h=>?_) (λ_ _ _ _ _ _=>dC λ_ _=>rfl) (λfa aM A outer s H vs Q E hr h=>?_)
 ·obtain⟨iv,rate,n,ds,os,rfl,_⟩:=h
  rfl
 ·obtain⟨iv,rate,n,ds,os,rfl,ri,row,n3,hz,bS,bT,k⟩:=h
  have nd:=Nj.nd;refine⟨_,(aE (pS 2 nd (dj az)) (aE (gJ fe Z (mC K Z (pv 0)) (aY 3 nd) (aG (bp (bU (pf lU hr (au (pv 3) az))) (aE (pS 4 nd (pf rH hr (au (pv 3) (au (pv 1) az)))) (aG (e9 (vX K Z (pv 2) (au (fS (N:=["row","top"]) (js:=[none,some 4]) Z Z Z (p8 K Z (pf Ho hr (au (pv 3) az))) (λ_ _ _ _ _=>(aY 0 (fY aB))) (λ_ _ _ _ _=>fm) (λ_ _ _ _ _=>(df (au fg (au (pv 0) (au (pv 1) az)))))) az))))) (aG (e9 (iP K Z (pv 2) (au (pv 3) az))))))) (aG (aR (pv 2))))),?_⟩;have ll:=row.len;have kR:sizeLine=16777216:=by decide
  refine⟨bR Z,λD H2 n2=>?_⟩;have nD:=n2.no;obtain⟨ia,xs,rfl,hi,dP⟩:=ri.cB;have lx:=dP.length;refine⟨_,Z,ia,Z,⟨_,hi.go n2.same⟩,QT (K:=K) (a:=ia) (xs:=xs) (λi O H3=>aH H H3/\∃zs v1 v2,H3 D=some (.lst zs)/\aJ K H3 zs (dv rate ds os i)/\O=[some (.ref ia),some (.int rate),some (.ref D),v1,v2]) ⟨n2.same,[],none,none,n2.at',cH,Z⟩ (λi O H3 _ h=>hi.go h.1) ?_ ?_⟩
  ·rintro i y O H3 hy ⟨s3,zs,v1,v2,dz,rz,rfl⟩
   have C6:i<xs.length:=(cv.mp hy).1;obtain⟨d,ed,rd⟩:=dP.get' i hy;obtain⟨o,eo,it⟩:=row.get ed;have vP:=RD.mono s3 _ rd;obtain⟨tl,tn⟩:=sG (rate:=rate) row i aw;have lz:=rz.length;refine⟨_,Z,y,d,o,Z,vP,it,_,Z,?_⟩;cases o with
   |none=>
    refine aW ?_;refine⟨_,Z,.inl ⟨Z,_,aK.of dz⟩,_,Z,D,zs,_,Z,Z,dz,aw,?_⟩;refine⟨λb o e=>?_,_,_,_,bQ,?_,Z⟩
    ·rw[aV (dU e nD)];exact s3 b o e
    ·show aJ K _ _ (dv rate ds os i++gQ rate ds os i)
     rw[sE eo ed];exact aJ.xY dz rz vP tn it.no |some q=>
    obtain⟨ns,sp⟩:=q;refine bK ?_;have j8:=jH it;subst j8;obtain⟨cn,dZ,eR⟩:=row.ok i ns sp eo;have BP:=pF cn;refine⟨_,Z,_,Z,y,ns,sp,rate,Z,vP,dZ,eR,bS,bT,λtv H4 Rt4 s4=>?_⟩;have mX:=s4 _ _ dz;refine⟨_,Z,.inl ⟨Z,_,aK.of mX⟩,?_⟩;refine⟨_,Z,y,ns,sp,Z,RD.mono s4 _ vP,⟨Z,λz hz=>by have:=cn.bd z hz;lia,cn.nz⟩,by rw[cn.len];lia,λl3 y3 H6 ON sI yd s6=>?_⟩;have yM:=yd.length;rw[iL,bL,kY]at yM;refine⟨l3,Z,⟨_,aK.of sI⟩,λD2 H7 n7=>?_⟩;have nE:bM (gQ rate ds os i)=true:=by rw[oj eo];exact cu.mpr λd hd=>by obtain⟨k,_,rfl⟩:=fW.mp hd;exact RR _ _
    have lE:(gQ rate ds os i).length=aI ns:=by rw[oj eo,bL,kY]
    refine Sj (K:=K) (ds:=gQ rate ds os i) _ (aK.of sI) n7 (by rw[lE,yM]) aw nE ?_ ?_
    ·intro q x dd H8 Q' ex zE s8 hq
     have yX:q<aI ns:=by have:=(cv.mp ex).1;lia
     obtain⟨d3,e3,r3⟩:=yd.get' q ex;rw[iL,bX,oJ yX]at e3;cases e3;rw[oj eo,bX,oJ yX]at zE;cases zE;refine⟨_,Z,_,Z,bR Z,λt H9 n9=>?_⟩;refine hq _ _ n9.same (fA (aU.of n9.at') (cf (cT _) (cf (RD.mono (s8.trans n9.same) _ r3) (cf (Rt4.go ((s6.trans s8).trans n9.same)).rd cH))))
    ·intro H8 z8 s8 d8 r8
     have mx:=s4.trans (s6.trans s8);have zH:=mx _ _ dz;have l8:=r8.length;refine⟨D,D2,zs,z8,Z,Z,zH,d8,aw,?_⟩;have tu:dX H8 (L2.upd H8 D (.lst (zs++z8))):=.gY zH;refine⟨λb o e=>?_,_,_,_,bQ,?_,Z⟩
     ·rw[aV (dU e nD)];exact mx b o (s3 b o e)
     ·exact(aJ.t tu _ tn (aJ.mono mx _ rz)).append (aJ.t tu _ nE r8)
  ·rintro O H3 ⟨s3,zs,v1,v2,dz,rz,rfl⟩
   rw[lx,ll]at rz;exact⟨_,Z,k D zs H3 nD dz rz s3⟩
theorem a5r(n:Nat)(v:V):(List.replicate n [v]).flatten=List.replicate n v:=by induction n with |zero=>rfl |succ n ih=>rw[qB,Df,ih,qB];rfl
theorem NY{H:Hp}{v:V}{q:Rat}(h:bc K H v q):∀n,aJ K H (List.replicate n v) ((List.replicate n q).map cD) |0=>cH |n+1=>by rw[qB,qB,An];exact cf h.rd (NY h n)
inductive aab(K:ag)(vs:List V)(H:Hp)(Q:VK):Prop |mk (m:_)(iv:_)(rate:_)(rs:_)(r:_)(f:_)(j:_)(t:_)(ds:_)(os:_)(h0:vs=[m,iv,.int rate])(h1:RD K H m (fE rs r f j t))(h2:iT rs r f j t)(h3:RD K H iv (.tuple ds))(h4:cw rs.length ds os)(h5:ds.length<=30)(h6:10<=rate)(h7:rate<=200)(h8:∀l ys H',H l=none->H' l=some (.lst ys)->aJ K H' ys ((ip j rate os os.length++[ownF j rate os os.length]).map cD)->aH H H'->Q (.ref l) H')
def LY(K:ag):Sp:=λvs H Q _=>aab K vs H Q
theorem Nu:bj ["machine","items","rate","own","bounds","i","item"] ["machine","items","rate"] (aX Fy):=bw aQ
theorem a0n(F:FA K mg "bounds_between" Fy)(B:bE mg)(Hq:aF P w K mg aA "own_bounds" 8 (DD K))(lU:aF P w K mg aA "is_line" 1 (qK K))(rH:aF P w K mg aA "top_square" 4 (vB K))(mO:aF P w K mg aA "lead_of" 1 (kE K)):aF P w K mg aA "bounds_between" 9 (LY K):=by
 refine F.has Nu (λvs H Q E h=>?_) (λ_ _ _ _ _ _=>kW λ_ _ _=>rfl) (λfa aM A outer s H vs Q E hr h=>?_)
 ·obtain⟨m,iv,rate,rs,r,f,j,t,ds,os,rfl,_⟩:=h
  rfl
 ·obtain⟨m,iv,rate,rs,r,f,j,t,ds,os,rfl,rm,aL,ri,row,hz,bS,bT,k⟩:=h
  have nd:=Nu.nd;refine⟨_,(aE (pS 3 nd (pf Hq hr (au (pv 0) (au (pv 1) (au (pv 2) az))))) (aE (pS 4 nd (dj az)) (aE (gJ fe Z (Bq K Z false Z (B.at "enumerate") (au (pv 1) az)) (cW K rfl (n:=2) rfl (bC (aY 5 nd) (bC (aY 6 nd) cV))) (aE (e9 (iP K Z (pv 4) (au (px K (pv 3) (pv 5)) az))) (aG (bp (bU (pf lU hr (au (pv 6) az))) (aG (e9 (vX K Z (pv 4) (au (aO YC (dj (au (pf rH hr (au (pv 6) (au (pv 2) az))) az)) (aO gM (pf mO hr (au (pv 6) az)) aD)) az)))) bA)))) (aG (aR (aO (zP K Z) (pv 4) (dj (au (px K (pv 3) (mD md aD)) az)))))))),?_⟩;have ll:=row.len;have lr:=aL.len;have kR:sizeLine=16777216:=by decide
  refine⟨_,Z,_,Z,_,Z,m,iv,rate,rs,r,f,j,t,ds,os,Z,rm,aL,ri,row,aw,bS,bT,λl1 y1 H1 tY Ct NT s1=>?_⟩;have Pe:=NT.length;rw[bL,ownL,bL,kY]at Pe;have own:∀(c:Nat)(u:V)(H':Hp),c<=os.length->y1[c]? =some u->aH H1 H'->bc K H' u (ownF j rate os c):=by intro c u H' hc e t';obtain⟨d1,e1,r1⟩:=NT.get' c e;rw[bX,ownL,bX,oJ aw]at e1;cases e1;exact(lL r1).go t'
  refine⟨bR Z,λD H2 n2=>?_⟩;have nD:H D=none:=by cases e:H D with |none=>rfl |some o=>have:=s1 _ _ e;rw[n2.no]at this;cases this
  obtain⟨ia,xs,rfl,hi,dP⟩:=ri.cB;have lx:=dP.length;have nob:∀i,bM ((ip j rate os i).map cD)=true:=λi=>pA _;refine⟨_,Z,ia,Z,⟨_,hi.go (s1.trans n2.same)⟩,Cg (K:=K) (b:=false) (a:=ia) (xs:=xs) (λi O H3=>aH H1 H3/\∃zs v1 v2,H3 D=some (.lst zs)/\aJ K H3 zs ((ip j rate os i).map cD)/\O=[some m,some (.ref ia),some (.int rate),some (.ref l1),some (.ref D),v1,v2]) ⟨n2.same,[],none,none,n2.at',cH,Z⟩ (λi O H3 _ h=>hi.go (s1.trans h.1)) ?_ ?_⟩
  ·rintro i y O H3 hy ⟨s3,zs,v1,v2,dz,rz,rfl⟩ T H4 n4
   have C6:i<xs.length:=(cv.mp hy).1;obtain⟨d,ed,rd⟩:=dP.get' i hy;obtain⟨o,eo,it⟩:=row.get ed;have iA:=s3.trans n4.same;have s4:=s1.trans iA;have mX:=n4.same _ _ dz;have Bj:=aJ.mono n4.same _ rz;have FZ:=RD.mono s4 _ rd;have lz:=rz.length;rw[bL,m6 row i aw]at lz;have tl:=(sG (rate:=rate) row i aw).1;obtain⟨z0,sy⟩:∃z,y1[i]? =some z:=⟨_,bu (show i<y1.length by lia)⟩;have R0:=own i z0 H4 aw sy iA;have om:=iA _ _ Ct;refine⟨T,_,Z,aU.of n4.at',Z,_,_,Z,_,_,Z,Z,?_⟩;refine⟨_,Z,.inl ⟨Z,_,aK.of mX⟩,?_⟩;refine⟨_,Z,_,Z,.inl ⟨l1,_,_,z0,Z,Z,aK.of om,cL aw (by simpa using sy),?_⟩⟩;refine⟨D,zs,z0,Z,Z,mX,aw,?_⟩;have t5:dX H4 (L2.upd H4 D (.lst (zs++[z0]))):=.gY mX;have kG:aH H1 (L2.upd H4 D (.lst (zs++[z0]))):=λb o e=>by rw[aV (dU e n2.no)];exact iA b o e
   have d5:(L2.upd H4 D (.lst (zs++[z0]))) D=some (.lst (zs++[z0])):=bQ;have r5:aJ K (L2.upd H4 D (.lst (zs++[z0]))) (zs++[z0]) ((ip j rate os i++[ownF j rate os i]).map cD):=by rw[jd];exact aJ.xY mX Bj R0.rd (nob i) (oZ _)
   generalize L2.upd H4 D (.lst (zs++[z0]))=H5 at t5 kG d5 r5⊢;have s5:=s1.trans kG;have FY:=RD.mono s5 _ rd;refine⟨_,Z,y,d,o,Z,FY,it,_,Z,?_⟩;cases o with |none=>refine aW ⟨kG,_,_,_,d5,?_,Z⟩;show aJ K H5 _ ((ip j rate os i++iG j rate os i).map cD);rw[zS eo];exact r5 |some q=>
    obtain⟨ns,sp⟩:=q;refine bK ?_;have j8:=jH it;subst j8;obtain⟨cn,dZ,eR⟩:=row.ok i ns sp eo;have BP:=pF cn;have rO:=cn.lead;refine⟨_,Z,.inl ⟨Z,_,aK.of d5⟩,?_⟩;refine⟨_,Z,_,Z,y,ns,sp,rate,Z,FY,dZ,eR,bS,bT,λtv H6 Rt6 s6=>?_⟩;refine⟨bR Z,λlt H7 n7=>?_⟩;refine⟨_,Z,y,ns,sp,Z,RD.mono (s6.trans n7.same) _ FY,cn.ne,by rw[cn.len];lia,λH8 s8=>?_⟩;have d7:=s8 _ _ n7.at';have ek:((aI ns:Int)-1).toNat=aI ns-1:=by lia
    refine⟨_,_,Z,Z,lt,_,_,Z,Z,d7,aw,aw,by rw[ek];show 1*_<=_;lia,λlp nlp=>?_⟩;rw[ek,a5r];have n9:Nw H8 (L2.upd H8 lp (.lst (List.replicate (aI ns-1) tv))) lp (.lst (List.replicate (aI ns-1) tv)):=.of nlp;generalize L2.upd H8 lp (.lst (List.replicate (aI ns-1) tv))=H9 at n9⊢;have oU:=s6.trans (n7.same.trans (s8.trans n9.same));have d9:=oU _ _ d5;refine⟨D,lp,_,_,Z,Z,d9,n9.at',by rw[cE,xF];show _+1+_<=_;lia,?_⟩;have t9:dX H9 (L2.upd H9 D (.lst (zs++[z0]++List.replicate (aI ns-1) tv))):=.gY d9;refine⟨λb o e=>?_,_,_,_,bQ,?_,Z⟩
    ·rw[aV (dU e n2.no)];exact oU b o (kG b o e)
    ·show aJ K _ _ ((ip j rate os i++iG j rate os i).map cD)
     have eb:ip j rate os i++iG j rate os i=(ip j rate os i++[ownF j rate os i])++List.replicate (aI ns-1) (topR rate sp):=by rw[vc eo];simp
     rw[eb,jd];exact(aJ.t t9 _ (pA _) (aJ.mono oU _ r5)).append (aJ.t t9 _ (pA _) (NY (Rt6.go (n7.same.trans (s8.trans n9.same))) _))
  ·rintro O H3 ⟨s3,zs,v1,v2,dz,rz,rfl⟩
   rw[lx,ll]at rz;have lz:=rz.length;rw[bL,m6 row _ (bf _)]at lz;have tl:=(sG (rate:=rate) row _ (bf _)).1;obtain⟨z0,sy⟩:∃z,y1[os.length]? =some z:=⟨_,bu (show os.length<y1.length by lia)⟩;have R0:=own _ z0 H3 (bf _) sy s3;refine⟨_,Z,_,Z,1,Z,.inl ⟨l1,_,-1,z0,Z,Z,aK.of (s3 _ _ Ct),Jk (by rw[Uk,Pe];exact sy),?_⟩⟩;refine⟨bR Z,λl5 H4 n4=>?_⟩;refine⟨D,l5,_,_,Z,Z,aK.of (n4.same _ _ dz),aK.of n4.at',by show _+1<=_;lia,λl6 H5 n5=>?_⟩;have nl6:H l6=none:=by cases e:H l6 with |none=>rfl |some o=>have:=n4.same _ _ (s3 _ _ (s1 _ _ e));rw[n5.no]at this;cases this
   have FF:=n4.same.trans n5.same;refine k l6 _ H5 nl6 n5.at' ?_ (s1.trans (s3.trans FF));rw[jd];exact(aJ.mono FF _ rz).append (cf (R0.go FF).rd cH)
def jh(sq:Nat->Option Rat):Nat->Option Rat |0=>none |k+1=>sq k
def gG(j rate:Int)(os:List Itm):List Rat:=ip j rate os os.length++[ownF j rate os os.length]
def TN(ti:Int)(du e:aj):Option Rat->Prop |none=>e=du/\kr e |some q=>∃zs top,du=lZ zs top/\e=mh ti zs q/\q<=top/\0<q/\Bd 1900 q/\Bd 2000 top/\zs.length<=1000
structure nj(r f j ti rate:Int)(ds:List aj)(os:List Itm)(es:List aj)(sq:Nat->Option Rat):Prop where
 len:es.length=(dv rate ds os os.length).length
 ent:∀k e du,es[k]? =some e->(dv rate ds os os.length)[k]? =some du->TN ti du e (sq k)
 Iz:sq es.length=none
 meet:∀k b,(gG j rate os)[k]? =some b->wA r f b (jh sq k) (sq k)=true
theorem KC{ti:Int}{q:Rat}(h0:1<=ti):∀n:Nat,1<=n->dQ ti q (n:Int)=true->∃T:Int,T<=n/\xg ti q T |0,h,_=>by lia |n+1,_,h=>by cases e:dQ ti q (n:Int)with |false=>exact⟨((n+1:Nat):Int),gI _,aw,h,by rw[Int.natCast_add,Int.natCast_one,Int.add_sub_cancel];exact e⟩ |true=>
 by_cases hn:1<=n
 ·obtain⟨T,h1,h2⟩:=KC h0 n hn e
  exact⟨T,aw,h2⟩
 ·have hn:n=0:=by lia
  subst hn;have e:=jc e;have hp:0<ti*ti*(q.den:Int):=gX (gX aw aw) (by have:=q.den_pos;lia);simp at e
  lia
theorem Kz{ti:Int}{q:Rat}(h1:1<=ti)(h2:ti<=100)(q0:0<q)(bq:Bd 2000 q):1<=lC ti q/\(lC ti q).natAbs<2^2400/\dQ ti q (lC ti q)=true/\dQ ti q (lC ti q-1)=false:=by
 have hn:=Gq q0;have hd:=q.den_pos;have e:dQ ti q ((ti.toNat*q.den:Nat):Int)=true:=by
  refine cm ?_;have et:((ti.toNat*q.den:Nat):Int)=ti*(q.den:Int):=by rw[Int.natCast_mul,Int.toNat_of_nonneg aw]
  rw[et];have p1:0<=ti*ti*(q.den:Int):=iW (iW aw aw) aw;have:ti*(q.den:Int)*(ti*(q.den:Int))*q.num=(ti*ti*(q.den:Int))*((q.den:Int)*q.num):=by simp only[Kh,Int.mul_left_comm,xI]
  rw[this];have p2:1<=(q.den:Int)*q.num:=by
   have:0<(q.den:Int)*q.num:=gX aw hn
   lia
  have:=Kg p2 p1;rw[Int.mul_one]at this;exact this
 obtain⟨T,hT,tc⟩:=KC h1 (ti.toNat*q.den) (Nat.mul_pos aw hd) e;have eT:=Dq (Dj hn) tc;rw[eT];refine⟨tc.1,?_,tc.2.1,tc.2.2⟩;have b1:ti.toNat*q.den<128*2^2000:=Nat.mul_lt_mul_of_lt_of_le aw (K1 bq.den) (Nat.two_pow_pos _);have b2:128*2^2000<=2^2400:=by rw[show 128=2^7 from Z,<-Nat.pow_add];exact qA aB aB
 have:=tc.1
 lia
inductive a9J(K:ag)(vs:List V)(H:Hp)(Q:VK):Prop |mk (m:_)(iv:_)(rate:_)(tv:_)(rs:_)(r:_)(f:_)(j:_)(t:_)(ds:_)(os:_)(es:_)(sq:_)(h0:vs=[m,iv,.int rate,tv])(h1:RD K H m (fE rs r f j t))(h2:iT rs r f j t)(h3:RD K H iv (.tuple ds))(h4:cw rs.length ds os)(h5:ds.length<=30)(h6:10<=rate)(h7:rate<=200)(h8:RD K H tv (.list es))(h9:nj r f j t rate ds os es sq)(uG:∀H',aH H H'->Q .bN H')
def vE(K:ag):Sp:=λvs H Q _=>a9J K vs H Q
theorem SN{rs:List Int}{r f j t rate:Int}{ds:List aj}{os:List Itm}(aL:iT rs r f j t)(row:cw rs.length ds os)(bS:10<=rate)(bT:rate<=200):∀b∈gG j rate os,Bd 1900 b:=by
 have hB:=Ow.Gj aL.j1.1 aL.j1.2 bS bT row.yz;have key:∀i,i<=os.length->∀b∈ip j rate os i,Bd 1900 b:=by intro i;induction i with |zero=>intro _ b hb;exact(fV hb).elim |succ i ih=>
  intro hi b hb;rcases jz.mp hb with h1|h1
  ·exact ih aw b h1
  ·obtain⟨o,eo⟩:∃o,os[i]? =some o:=⟨_,bu (show i<os.length by lia)⟩
   cases o with |none=>rw[zS eo,fF]at h1;rw[h1];exact(hB i).mono aB |some q=>
    obtain⟨ns,sp⟩:=q;obtain⟨cn,dZ,eR⟩:=row.ok i ns sp eo;rw[vc eo]at h1;rcases dh.mp h1 with h1|h1
    ·rw[h1];exact(hB i).mono aB
    ·rw[(List.mem_replicate.mp h1).2];exact(Ow.oS dZ eR bS bT).mono aB
 intro b hb;rcases jz.mp hb with h1|h1
 ·exact key _ (bf _) b h1
 ·rw[fF.mp h1];exact(hB _).mono aB
theorem MM:bj ["machine","items","rate","thing","due","bounds","ended","at","expected","why","begun"] ["machine","items","rate","thing"] (aX EI):=bw aQ
theorem ZM(F:FA K mg "look" EI)(B:bE mg)(a3U:aF P w K mg aA "due_entries" 5 (LV K))(a47:aF P w K mg aA "bounds_between" 9 (LY K))(a3Q:aF P w K mg aA "fault_of_entry" 5 (LR K))(a33:aF P w K mg aA "square_of" 1 (Ly K))(Qs:aF P w K mg aA "can_meet" 5 (B9 K)):aF P w K mg aA "look" 10 (vE K):=by
 refine F.has MM (λvs H Q E h=>?_) (λ_ _ _ _ _ _=>sN λ_ _ _ _=>rfl) (λfa aM A outer s H vs Q E hr h=>?_)
 ·obtain⟨m,iv,rate,tv,rs,r,f,j,t,ds,os,es,sq,rfl,_⟩:=h
  rfl
 ·obtain⟨m,iv,rate,tv,rs,r,f,j,t,ds,os,es,sq,rfl,rm,aL,ri,row,hz,bS,bT,rt,tp,k⟩:=h
  have nd:=MM.nd;refine⟨_,(aE (bp (cU (bU (cP K B (au (pv 3) (au (cJ (x:="list") (v:=.ty "list") Z (B.at "list") iV rfl) az))))) (aG jW) bA) (aE (pS 4 nd (pf a3U hr (au (pv 1) (au (pv 2) az)))) (aE (pS 5 nd (pf a47 hr (au (pv 0) (au (pv 1) (au (pv 2) az))))) (aE (pS 6 nd fo) (aE (gJ fe Z (Bq K Z true Z (B.at "enumerate") (au (pv 4) az)) (cW K rfl (n:=2) rfl (bC (aY 7 nd) (bC (aY 8 nd) cV))) (aE (bp (bG (cI K Z hr.units) (pv 7) (dk K B (au (pv 3) az)) (aZ _)) (aG jW) bA) (aE (pS 9 nd (pf a3Q hr (au (pv 0) (au (pv 8) (au (px K (pv 3) (pv 7)) az))))) (aE (bp (bG lM (pv 9) fo (aZ _)) (aG jW) bA) (aE (pS 10 nd (pf a33 hr (au (px K (pv 3) (pv 7)) az))) (aE (bp (cU (bU (pf Qs hr (au (pv 0) (au (px K (pv 5) (pv 7)) (au (pv 6) (au (pv 10) az))))))) (aG jW) bA) (aG (pS 6 nd (pv 10))))))))) (aE (bp (bG mE (dk K B (au (pv 3) az)) (dk K B (au (pv 4) az)) (aZ _)) (aG jW) bA) (aG (bp (cU (bU (pf Qs hr (au (pv 0) (au (px K (pv 5) (mD md aD)) (au (pv 6) (au fo az))))))) (aG jW) bA)))))))),?_⟩;have ll:=row.len;have lr:=aL.len;have Jf:=SN aL row bS bT;refine⟨_,Z,.inl ⟨_,_,"list",true,Z,rt.ty,aB,(by decide:gq "list" "list"=true),_,Z,aW ?_⟩⟩;refine⟨_,Z,_,Z,iv,rate,rs.length,ds,os,Z,ri,row,aw,hz,bS,bT,λlD yD H1 nD dD rD s1=>?_⟩;refine⟨_,Z,_,Z,_,Z,m,iv,rate,rs,r,f,j,t,ds,os,Z,RD.mono s1 _ rm,aL,RD.mono s1 _ ri,row,hz,bS,bT,λlB yB H2 nB dB rB s2=>?_⟩;have gx:=s1.trans s2;obtain⟨ta,xt,rfl,ht,kL⟩:=rt.lst_inv;have lxt:=kL.length;have Pc:=rD.length;have wB:=rB.length;have PD:(gG j rate os).length=(dv rate ds os os.length).length+1:=by unfold gG;rw[cE,m6 row _ (bf _)];rfl
  rw[bL]at wB;have wB:yB.length=(dv rate ds os os.length).length+1:=by rw[wB];exact PD
  have dl:=(sG (rate:=rate) row _ (bf _)).1;have te:=tp.len;have bv:∀(c:Nat)(u:V)(H':Hp),yB[c]? =some u->aH H2 H'->∃b,(gG j rate os)[c]? =some b/\bc K H' u b/\Bd 1900 b:=by intro c u H' e sm;obtain⟨d1,e1,r1⟩:=rB.get' c e;rw[bX]at e1;obtain⟨b,eb,rfl⟩:=D7.mp e1;exact⟨b,eb,(lL r1).go sm,Jf b (gj eb)⟩
  have BA:∀c,c<es.length->vh 1900 (sq c):=λc hc=>by obtain⟨e,ee⟩:∃e,es[c]? =some e:=⟨_,bu hc⟩;obtain⟨du,ed⟩:∃d,(dv rate ds os os.length)[c]? =some d:=⟨_,bu aw⟩;have:=tp.ent c e du ee ed;cases hs:sq c with |none=>trivial |some q=>rw[hs]at this;obtain⟨_,_,_,_,_,_,b,_⟩:=this;exact b
  have yj:∀c,c<=es.length->vh 1900 (jh sq c):=λc hc=>by cases c with |zero=>trivial |succ c=>exact BA c aw
  refine⟨_,Z,lD,Z,⟨_,aK.of (s2 _ _ dD)⟩,Cg (K:=K) (b:=true) (a:=lD) (xs:=yD) (λi O H3=>aH H2 H3/\∃ev v1 v2 v3 v4,jM K H3 ev (jh sq i)/\O=[some m,some iv,some (.int rate),some (.ref ta),some (.ref lD),some (.ref lB),some ev,v1,v2,v3,v4]) ⟨aH.refl _,.bN,none,none,none,none,Z,Z⟩ (λi O H3 _ h=>aK.of (h.1 _ _ (s2 _ _ dD))) ?_ ?_⟩
  ·rintro i y O H3 hy ⟨s3,ev,v1,v2,v3,v4,oe,rfl⟩ T H4 n4
   have hiy:i<yD.length:=(cv.mp hy).1;obtain⟨du,edu,NX⟩:=rD.get' i hy;have HB:i<es.length:=by lia
   obtain⟨e,ee⟩:∃e,es[i]? =some e:=⟨_,bu HB⟩;obtain⟨x,ex,rx⟩:=kL.get i ee;have gu:=s3.trans n4.same;have gy:=gx.trans gu;have ent:=tp.ent i e du ee edu;have qk:∀{α:Type}{l:List α}{u:α},l[i]? =some u->ft l (i:Int)=some u:=λh=>cL aw (by simpa using h);obtain⟨ub,kS⟩:∃u,yB[i]? =some u:=⟨_,bu aw⟩;refine⟨T,_,Z,aU.of n4.at',Z,_,_,Z,_,_,Z,Z,?_⟩;refine⟨_,Z,_,Z,ta,_,Z,.inl (ht.go gy),.inl ⟨_,_,Z,Z,_,Z,?_⟩⟩;rw[dF (show¬((i:Int)=(xt.length:Int)) by lia)];refine aW ?_;refine⟨_,Z,_,Z,_,Z,_,Z,.inl ⟨ta,_,_,x,Z,Z,ht.go gy,qk ex,m,y,x,rs,r,f,j,t,Z,RD.mono gy _ rm,aL,?_⟩⟩;cases hs:sq i with |none=>rw[hs]at ent;obtain⟨rfl,eV⟩:=ent;refine .inl ⟨_,RD.mono (s2.trans gu) _ NX,RD.mono gy _ rx,eV,λH5 s5=>?_⟩;refine⟨_,Z,Z,_,Z,aW ?_⟩;have lK:=gy.trans s5;refine⟨_,Z,_,Z,.inl ⟨ta,_,_,x,Z,Z,ht.go lK,qk ex,x,Z,.inl ⟨_,RD.mono lK _ rx,eV,?_⟩⟩⟩;obtain⟨b,eb,Rb,bb⟩:=bv i ub H5 kS (gu.trans s5);have mt:=tp.meet i b eb;rw[hs]at mt;refine⟨_,Z,_,Z,_,Z,.inl ⟨lB,_,_,ub,Z,Z,aK.of ((gu.trans s5) _ _ dB),qk kS,_,Z,_,Z,m,ub,ev,.bN,rs,r,f,j,t,b,jh sq i,none,Z,RD.mono lK _ rm,aL,Rb,bb,oe.go (n4.same.trans s5),yj i aw,Z,trivial,λH6 s6=>?_⟩⟩;rw[mt];exact⟨_,Z,aW ⟨_,Z,(gu.trans s5).trans s6,.bN,_,_,_,_,by show jM K H6 .bN (sq i);rw[hs];rfl,Z⟩⟩ |some q=>rw[hs]at ent;obtain⟨zs,top,rfl,rfl,qt,q0,bq,bt,lz⟩:=ent;obtain⟨k1,k2,k3,k4⟩:=Kz (ti:=t) aL.t1.1 aL.t1.2 q0 (bq.mono aB);refine .inr ⟨zs,top,lC t q,q,RD.mono (s2.trans gu) _ NX,RD.mono gy _ rx,lz,bt,bq.mono aB,q0,k1,k2,k3,k4,λH5 s5=>?_⟩;rw[bB (oF.mpr qt)];refine⟨_,Z,Z,_,Z,aW ?_⟩;have lK:=gy.trans s5;refine⟨_,Z,_,Z,.inl ⟨ta,_,_,x,Z,Z,ht.go lK,qk ex,x,Z,.inr ⟨zs,_,q,RD.mono lK _ rx,λgv Rg=>?_⟩⟩⟩;obtain⟨b,eb,Rb,bb⟩:=bv i ub H5 kS (gu.trans s5);have mt:=tp.meet i b eb;rw[hs]at mt;refine⟨_,Z,_,Z,_,Z,.inl ⟨lB,_,_,ub,Z,Z,aK.of ((gu.trans s5) _ _ dB),qk kS,_,Z,_,Z,m,ub,ev,gv,rs,r,f,j,t,b,jh sq i,some q,Z,RD.mono lK _ rm,aL,Rb,bb,oe.go (n4.same.trans s5),yj i aw,Rg,bq,λH6 s6=>?_⟩⟩;rw[mt];exact⟨_,Z,aW ⟨_,Z,(gu.trans s5).trans s6,gv,_,_,_,_,by show jM K H6 gv (sq i);rw[hs];exact bc.go Rg s6,Z⟩⟩
  ·rintro O H3 ⟨s3,ev,v1,v2,v3,v4,oe,rfl⟩
   have vM:=gx.trans s3;have d3:=s3 _ _ (s2 _ _ dD);refine⟨_,Z,ta,_,Z,.inl (ht.go vM),_,Z,lD,_,Z,.inl (aK.of d3),_,_,Z,Z,_,Z,?_⟩;rw[dF (show¬((xt.length:Int)>(yD.length:Int)) by lia)];refine aW ?_;obtain⟨ub,kS⟩:∃u,yB[yD.length]? =some u:=⟨_,bu aw⟩;obtain⟨b,eb,Rb,bb⟩:=bv _ ub H3 kS s3;have mt:=tp.meet _ b eb;have e1:yD.length=es.length:=by lia
   rw[e1,tp.Iz]at mt;refine⟨_,Z,_,Z,1,Z,.inl ⟨lB,_,-1,ub,Z,Z,aK.of (s3 _ _ dB),Jk (by rw[Uk,wB,<-Pc];exact kS),_,Z,m,ub,ev,.bN,rs,r,f,j,t,b,jh sq es.length,none,Z,RD.mono vM _ rm,aL,Rb,bb,by rw[<-e1];exact oe,yj _ (bf _),Z,trivial,λH4 s4=>?_⟩⟩;rw[mt];exact⟨_,Z,aW (k H4 (vM.trans s4))⟩
inductive aa7(K:ag)(vs:List V)(H:Hp)(Q:VK):Prop |mk (m:_)(iv:_)(rate:_)(rs:_)(r:_)(f:_)(j:_)(t:_)(ds:_)(os:_)(h0:vs=[m,iv,.int rate])(h1:RD K H m (fE rs r f j t))(h2:iT rs r f j t)(h3:RD K H iv (.tuple ds))(h4:cw rs.length ds os)(h5:ds.length<=100)(h6:10<=rate)(h7:rate<=200)(h8:∀l ys H',H l=none->H' l=some (.lst ys)->aJ K H' ys ((ownL j rate os).map cD)->aH H H'->Q (.ref l) H')
def LW(K:ag):Sp:=λvs H Q _=>aa7 K vs H Q
def ji(j rate:Int)(os:List Itm)(i:Nat):List Rat:=(List.range (os.length+1)).map λk=>if k<=i then ownF j rate os k else 0
theorem vY(j rate:Int)(os:List Itm)(i:Nat){k:Nat}(h:k<=os.length):(ji j rate os i)[k]? =some (if k<=i then ownF j rate os k else 0):=by unfold ji;rw[bX,bu (by simp;lia),vq];rfl
theorem pj(j rate:Int)(os:List Itm)(i:Nat):(ji j rate os i).length=os.length+1:=by simp[ji]
theorem Og(j rate:Int)(os:List Itm)(i:Nat)(h:i+1<=os.length):(ji j rate os i).set (i+1) (ownF j rate os (i+1))=ji j rate os (i+1):=by
 apply As;intro k;by_cases hk:k<=os.length
 ·rw[vY j rate os (i+1) hk,List.getElem?_set]
  by_cases e:i+1=k
  ·subst e
   rw[bo Z,bo (by rw[pj];lia),bo (bf _)]
  ·rw[bB e,vY j rate os i hk]
   congr 1;by_cases h1:k<=i
   ·rw[bo h1,bo aw]
   ·rw[bB h1,bB aw]
 ·rw[m8 (by rw[vp,pj];lia),m8 (by rw[pj];lia)]
theorem YA(j rate:Int)(os:List Itm)(i:Nat)(h:i+1<=os.length)(e:ownF j rate os (i+1)=0):ji j rate os (i+1)=ji j rate os i:=by
 apply As;intro k;by_cases hk:k<=os.length
 ·rw[vY j rate os (i+1) hk,vY j rate os i hk]
  congr 1;by_cases h1:k<=i
  ·rw[bo h1,bo aw]
  ·rw[bB h1]
   by_cases h2:k=i+1
   ·subst h2;rw[bo (bf _),e]
   ·rw[bB aw]
 ·rw[m8 (by rw[pj];lia),m8 (by rw[pj];lia)]
theorem Np:bj ["_law_machine_here","_law_items_here","_law_rate","_law_found","_law_border","_law_one","_law_other_here","_law_a","_law_b","_law_gap","_law_corner"] ["_law_machine_here","_law_items_here","_law_rate"] (aX Fu):=bw aQ
theorem a0k(F:FA K mg "_law_bounds" Fu)(B:bE mg)(wQ:aF P w K mg aA "_law_lead" 1 (kE K))(Ca:aF P w K mg aA "_law_min" 2 (kD K))(wN:aF P w K mg aA "_law_top" 2 (xU K))(uD:aF P w K mg aA "_law_frac" 1 (vF K)):aF P w K mg aA "_law_bounds" 3 (LW K):=by
 refine F.has Np (λvs H Q E h=>?_) (λ_ _ _ _ _ _=>kW λ_ _ _=>rfl) (λf aM A outer s H vs Q E hr h=>?_)
 · obtain⟨m,iv,rate,rs,r,f,j,t,ds,os,rfl,_⟩:=h
   rfl
 · obtain⟨m,iv,rate,rs,r,f,j,t,ds,os,rfl,rm,aL,ri,row,hz,bS,bT,k⟩:=h
   have nd:=Np.nd;refine⟨_,(aE (Bp (i0:=3) nd Z (Or.inl Z) (N:=["_law_border"]) (js:=[none]) Z Z Z (p7 Z (B.at "range") (au (aO cQ (dk K B (au (pv 1) az)) aD) az)) (λ_ _ _ _ _=>(aY 0 (rj _))) (λ_ _ _ _ _=>fm) (λ_ _ _ _ _=>(df (au aD (au aD az))))) (aE (gJ fe Z (Ob Z (B.at "range") (au aD (au (dk K B (au (pv 1) az)) az))) (aY 4 nd) (aE (p4 (i:=5) (j:=6) Z nd Z Z aB Z Z (au (px K (pv 1) (aO gM (pv 4) aD)) (au (px K (pv 1) (pv 4)) az)) Z) (aG (bp (PW.pt (nJ (bG (cI K Z hr.units) (px K (pv 5) aD) fg (aZ _)) (qX (bG (cI K Z hr.units) (px K (pv 6) aD) fg (aZ _))))) (aE (eU (df (au (pf wQ hr (au (pv 5) az)) (au (pf wQ hr (au (pv 6) az)) az))) (cW K Z (n:=2) Z (bC (aY 7 nd) (bC (aY 8 nd) cV)))) (aE (pS 9 nd (eD (x:="max") (GF K Z Z) Z (B.at "max") JX (au (fS (N:=["_law_x","_law_y","_law_b","_law_a"]) (js:=[none,none,some 8,some 7]) rfl rfl rfl (jX K rfl false false rfl (B.at "zip") (au (px K (pv 5) aD) (au (px K (pv 6) aD) az))) (λ_ _ _ _ _=>(cW K rfl (n:=2) rfl (bC (aY 0 (show List.Nodup (["_law_x","_law_y","_law_b","_law_a"]:List Str) by decide+kernel)) (bC (aY 1 (show List.Nodup (["_law_x","_law_y","_law_b","_law_a"]:List Str) by decide+kernel)) cV)))) (λ_ _ _ _ _=>fm) (λ_ _ _ _ _=>(eD (x:="abs") oo rfl (B.at "abs") qz (au (aO gM (aO bO (pv 0) (pv 2)) (aO bO (pv 1) (pv 3))) az)))) az))) (aE (eU (pf Ca hr (au (dj (au (pf wN hr (au (pv 5) (au (pv 2) az))) (au (pf wN hr (au (pv 6) (au (pv 2) az))) az))) az)) (tP (pv 3) (pv 4) set_list)) (aG (bp (bG mE (pv 9) aD (aZ _)) (aE (pS 10 nd (pf uD hr (au (aO tQ (aO bO (aO bO (px K (pv 0) aD) (pv 7)) (pv 8)) aD) (au (aO tQ (pv 9) aD) az)))) (aG (eU (pf Ca hr (au (dj (au (px K (pv 3) (pv 4)) (au (pv 10) az))) az)) (tP (pv 3) (pv 4) set_list)))) bA))))) bA)))) (aG (aR (pv 3))))),?_⟩;obtain⟨ia,xs,rfl,hi,dP⟩:=ri.cB;obtain⟨ma,mb,rfl,gD,lT⟩:=mH rm;have lx:=dP.length;have ll:=row.len;have lr:=aL.len;refine⟨_,Z,ia,_,Z,.inr hi,_,_,Z,Z,_,Z,aw,aw,λD H1 n1=>?_⟩;have eN:((xs.length:Int)+1).toNat=os.length+1:=by lia
   rw[eN];refine Si (K:=K) (lo:=0) (n:=os.length+1) (ds:=(ji j rate os 0).map cD) _ n1 (by rw[bL,pj]) aw (pA _) ?_ ?_
   · intro i d H2 Q' ed s2 hq
     have Qk:i<=os.length:=by have:=(cv.mp ed).1;rw[bL,pj]at this;lia
     have e0:d=cD 0:=by
      rw[bX,vY j rate os 0 Qk]at ed;have:=(eO ed).symm;rw[this];congr 1;split
      · next h => have:i=0:=by lia
                  subst this;rfl
      ·rfl
     subst e0;refine⟨bR Z,λz H3 n3=>?_⟩;exact hq _ _ n3.same (bc.rd ⟨z,Z,aU.of n3.at'⟩)
   intro H2 ys s2 d2 r2;refine⟨_,Z,ia,_,Z,.inr (hi.go s2),_,_,Z,⟨aB,aB,aw,aw⟩,?_⟩;refine uJ (Pv:=λi O H5=>aH H H5/\∃(ys:List V)(v1 v2 v3 v4 v5 v6 v7:Option V),H5 D=some (.lst ys)/\aJ K H5 ys ((ji j rate os i).map cD)/\O=[some (.ref ma),some (.ref ia),some (.int rate),some (.ref D),v1,v2,v3,v4,v5,v6,v7]) ?_ ?_ ?_
   ·exact⟨s2,ys,none,none,none,none,none,none,none,d2,r2,Z⟩
   · rintro i O H5 hin ⟨s5,ys,v1,v2,v3,v4,v5,v6,v7,dl,qT,rfl⟩
     have wJ:i+1<os.length:=by lia
     have o9:=bu (show i<os.length by lia);have lY:=bu wJ;obtain⟨x1,wV⟩:∃x,xs[i]? =some x:=⟨_,bu (show i<xs.length by lia)⟩;obtain⟨x2,R5⟩:∃x,xs[i+1]? =some x:=⟨_,bu (show i+1<xs.length by lia)⟩;obtain⟨d1,e1,r1⟩:=dP.get' i wV;obtain⟨d2,e2,r2⟩:=dP.get' (i+1) R5;have i1:=row.it i d1 _ e1 o9;have i2:=row.it (i+1) d2 _ e2 lY;have C3:ownF j rate os (i+1)=betR j rate os[i] os[i+1]:=by show betR j rate (atO os i) (atO os (i+1))=_;rw[Ow.ng o9,Ow.ng lY]
     have IK:((1:Int)+(i:Int)-1).toNat=i:=by lia
     have IJ:((1:Int)+(i:Int)).toNat=i+1:=by lia
     have Jq:ft xs ((1:Int)+(i:Int)-1)=some x1:=cL aw (by rw[IK];exact wV);have at2:ft xs ((1:Int)+(i:Int))=some x2:=cL aw (by rw[IJ];exact R5);have Ql:=hi.go s5;obtain⟨a1,w1,y1,rfl,h1,ew1,VY⟩:=BR (RD.mono s5 _ r1) i1;obtain⟨a2,w2,y2,rfl,h2,ew2,VX⟩:=BR (RD.mono s5 _ r2) i2;have same:os[i]=none\/os[i+1]=none->aJ K H5 ys ((ji j rate os (i+1)).map cD):=λhn=>by
      rw[YA j rate os i aw]
      ·exact qT
      · rw[C3]
        rcases hn with e|e
        ·rw[e];exact Ow.SH _ _ _
        ·rw[e];exact Ow.xc _ _ _
     refine⟨_,Z,_,Z,_,_,Z,Z,.inr ⟨ia,_,_,_,Z,Z,Ql,Jq,_,Z,_,Z,.inr ⟨ia,_,_,_,Z,Z,Ql,at2,_,_,Z,?_⟩⟩⟩;refine⟨_,Z,.inr ⟨a1,_,0,.str w1,Z,Z,h1,cL (gI 0) Z,.inr ⟨_,_,cT _,cT _,VY,BL,_,Z,?_⟩⟩⟩;rw[ew1];cases Ht:os[i]with |none=>exact aW ⟨s5,ys,_,_,_,_,_,_,_,dl,same (.inl Ht),Z⟩ |some q1=>refine bK ?_;refine⟨_,Z,.inr ⟨a2,_,0,.str w2,Z,Z,h2,cL (gI 0) Z,.inr ⟨_,_,cT _,cT _,VX,BL,_,Z,?_⟩⟩⟩;rw[ew2];cases wG:os[i+1]with |none=>exact aW ⟨s5,ys,_,_,_,_,_,_,_,dl,same (.inr wG),Z⟩ |some q2=>
         refine bK ?_;obtain⟨ns,sp⟩:=q1;obtain⟨ms,sq⟩:=q2;rw[Ht]at i1 o9;rw[wG]at i2 lY;have ed1:=jH i1;have ed2:=jH i2;subst ed1 ed2;obtain⟨dI,p1,p2⟩:=row.ok i ns sp o9;obtain⟨eX,q1,q2⟩:=row.ok (i+1) ms sq lY;have T1:Bd 2000 (topR rate sp):=(Ow.oS p1 p2 bS bT).mono aB;have T2:Bd 2000 (topR rate sq):=(Ow.oS q1 q2 bS bT).mono aB;have l1:=pF dI;have l2:=pF eX;have lq1:=dI.lead.1;have jG:=eX.lead.1;have ln1:ns.length<=3:=by rw[dI.len];lia
         have ln2:ms.length<=3:=by rw[eX.len];lia
         have Pl:ms.length=ns.length:=by rw[dI.len,eX.len]
         refine⟨_,Z,_,ns,sp,Z,RD.mono s5 _ r1,dI.ne,aw,λH6 s6=>?_⟩;have Bh:=s5.trans s6;refine⟨_,Z,_,ms,sq,Z,RD.mono Bh _ r2,eX.ne,aw,λH7 s7=>?_⟩;refine⟨bR Z,λtq H7' Gy=>?_⟩;refine⟨tq,_,Z,aU.of Gy.at',Z,_,_,Z,_,_,Z,Z,?_⟩;have mq:=Bh.trans (s7.trans Gy.same);have WO:=s6.trans (s7.trans Gy.same);obtain⟨a1',b1,ea1,ha1,Qx⟩:=lP (RD.mono mq _ r1);obtain⟨a2',b2,ea2,ha2,Qw⟩:=lP (RD.mono mq _ r2);cases ea1;cases ea2;refine⟨_,Z,.inr ⟨a1,_,1,.ref b1,Z,Z,ha1,Z,_,Z,.inr ⟨a2,_,1,.ref b2,Z,Z,ha2,Z,b1,b2,Z,⟨_,Qx⟩,⟨_,Qw⟩,λD4 H8 n8=>?_⟩⟩⟩;refine uX (K:=K) (b1:=false) (b2:=false) (xs:=ns.map V.int) (ys:=ms.map V.int) (ds:=((cY ns ms).map iH).map PyData.int) _ Z Qx Qw n8 (by simp[cY]) (by simp[cY];lia) (kI _) ?_ ?_
         · intro i x y d H9 Q' ex ey ed s9 hq
           obtain⟨a,b,e1,e2,rfl,rfl⟩:=zip2 Pl ex ey;obtain⟨m,em,rfl⟩:=nO ed;rw[bX,Kl e1 e2]at em;cases em;have q1:=dI.bd a (gj e1);have q2:=eX.bd b (gj e2);refine⟨_,Z,_,Z,_,_,Z,Z,.of_left (cC aw aw),?_⟩;refine⟨_,Z,_,Z,_,_,Z,Z,.of_left (cC aw aw),?_⟩;exact⟨_,_,Z,Z,_,Z,hq _ _ (aH.refl _) (dN _)⟩
         intro H9 zs s9 d9 r9;rw[r9.hZ]at d9;have kj:cY ns ms≠[]:=by
          have hl:(cY ns ms).length=ns.length:=by simp[cY,Pl]
          intro e;rw[e]at hl;exact dI.ne (De.mp hl.symm)
         refine⟨D4,_,Z,aK.of d9,by simpa using kj,λM h1 h2=>?_⟩;have eM:=GU kj h1 h2;subst eM;have oU:=mq.trans s9;have WN:=WO.trans s9;refine⟨_,Z,_,Z,_,ns,sp,rate,Z,RD.mono oU _ r1,p1,p2,bS,bT,λt1 iu FR jC=>?_⟩;refine⟨_,Z,_,Z,_,ms,sq,rate,Z,RD.mono (oU.trans jC) _ r2,q1,q2,bS,bT,λt2 ir FQ tL=>?_⟩;refine⟨bR Z,λlm vi BE=>?_⟩;have R1:bc K vi t1 (topR rate sp):=(FR.go tL).go BE.same;have R2:bc K vi t2 (topR rate sq):=FQ.go BE.same;refine⟨lm,[t1,t2],[topR rate sp,topR rate sq],Z,aK.of BE.at',⟨R1,T1,R2,T2,trivial⟩,by simp,λc lv q ec1 RK hq=>?_⟩;have uk:mn (topR rate sp) (topR rate sq)=q:=by
          refine u9 ?_ (hq _ (by simp)) (hq _ (by simp))
          match c,RK with |0,e2=>cases e2;exact .inl rfl |1,e2=>cases e2;exact .inr rfl
         have rl:bc K vi lv (mn (topR rate sp) (topR rate sq)):=by
          rw[uk]
          match c,ec1,RK with |0,e1,e2=>cases e1;cases e2;exact R1 |1,e1,e2=>cases e1;cases e2;exact R2
         have WM:=jC.trans (tL.trans BE.same);have FD:=WN.trans WM;have IZ:=FD _ _ dl;have ly:=qT.length;rw[bL,pj]at ly;have PM:j4 ys.length ((1:Int)+(i:Int))=some (i+1):=by unfold j4;rw[bo aw,bo aw,IJ]
         refine⟨_,Z,_,Z,D,ys,_,_,Z,Z,IZ,PM,?_⟩;have FW:=aJ.DR (i:=i+1) IZ (aJ.mono FD _ qT) rl.rd (pA _) (oZ _);have sD:∀{o:HO},aH H (L2.upd vi D o):=λ{o} b o' e=>by rw[aV (dU e n1.no)];exact FD b o' (s5 b o' e)
         have tU:dX vi (L2.upd vi D (.lst (ys.set (i+1) lv))):=.gY IZ;refine⟨_,Z,_,_,Z,Z,_,Z,?_⟩;rw[Ht,wG]at C3;have cO:cornO j ns ms=if aI (cY ns ms)=0 then none else some (Rat.divInt ((j*aI ns*aI ms)^2) ((aI (cY ns ms):Int)^2)):=rfl;show if decide ((aI (cY ns ms):Int)>0)=true then _ else _;by_cases h0:aI (cY ns ms)=0
         · rw[dF aw]
           refine aW ?_;rw[bo h0]at cO;refine⟨sD,ys.set (i+1) lv,_,_,_,_,_,_,_,bQ,?_,Z⟩;rw[<-Am]at FW;have e:(ji j rate os i).set (i+1) (mn (topR rate sp) (topR rate sq))=ji j rate os (i+1):=by rw[<-Og j rate os i aw,C3];show _=List.set _ _ (mnO _ (cornO j ns ms));rw[cO];rfl
           rw[<-e];exact FW
         · rw[cm aw]
           refine bK ?_;rw[bB h0]at cO;have jl:(j*aI ns).natAbs<=50*100:=kJ (by have:=aL.j1;lia) aw;have jl2:(j*aI ns*aI ms).natAbs<=50*100*100:=kJ jl aw;have cb:=Cw (λz hz=>by have:=dI.bd z hz;lia) (λz hz=>by have:=eX.bd z hz;lia) (ns:=ns) (ms:=ms);have wM:=nT cb;have kQ:(2:Nat)^64=18446744073709551616:=by decide
           refine⟨_,Z,.inr ⟨ma,_,3,.int j,Z,Z,gD.go sD,Z,?_⟩⟩;refine⟨_,Z,_,_,Z,Z,.of_left (cC (by have:=aL.j1;lia) (by have:=aL.j1;lia)),_,Z,_,_,Z,Z,.of_right (cC aw aw),?_⟩;refine⟨_,_,Z,Z,⟨aB,aB,by rw[kQ];lia⟩,_,Z,_,_,Z,Z,⟨aB,aB,by rw[kQ];lia⟩,_,_,Z,?_,?_,λv6 A7 r6 dR=>?_⟩
           · show 0<(aI (cY ns ms):Int)^2
             rw[fy,fy,lg,ky];exact gX aw aw
           · refine iJ (n:=64) ?_ aB
             show((aI (cY ns ms):Int)^2).natAbs<_;rw[fy,fy,lg,ky,kQ];have:=kJ (a:=(aI (cY ns ms):Int)) (b:=(aI (cY ns ms):Int)) (m:=2000000) (n:=2000000) aw aw
             lia
           have Rc:bc K A7 v6 (Rat.divInt ((j*aI ns*aI ms)^2) ((aI (cY ns ms):Int)^2)):=r6;have Tc:Bd 2000 (Rat.divInt ((j*aI ns*aI ms)^2) ((aI (cY ns ms):Int)^2)):=(Ow.J3 aL.j1.1 aL.j1.2 dI.bd eX.bd cO).mono aB;generalize Rat.divInt ((j*aI ns*aI ms)^2) ((aI (cY ns ms):Int)^2)=cq at Rc Tc cO;have S5:=dR _ _ (bQ (H:=vi) (a:=D) (o:=.lst (ys.set (i+1) lv)));have at3:ft (ys.set (i+1) lv) ((1:Int)+(i:Int))=some lv:=cL aw (by rw[IJ,Aq aw]);have a8M:bc K A7 lv (mn (topR rate sp) (topR rate sq)):=lL (RD.mono dR _ (RD.t tU _ (oZ _) rl.rd));refine⟨_,Z,_,Z,.inl ⟨D,_,_,_,Z,Z,aK.of S5,at3,_,Z,?_⟩⟩;refine⟨bR Z,λGQ CN wy=>?_⟩;have Tt:=a8M.go wy.same;have Ts:=Rc.go wy.same;refine⟨GQ,[lv,v6],[mn (topR rate sp) (topR rate sq),cq],Z,aK.of wy.at',⟨Tt,Ow.yK T1 T2,Ts,Tc,trivial⟩,by simp,λc' lv2 q' a7d RJ kN=>?_⟩;have a38:mn (mn (topR rate sp) (topR rate sq)) cq=q':=by
            refine u9 ?_ (kN _ (by simp)) (kN _ (by simp))
            match c',RJ with |0,e2=>cases e2;exact .inl rfl |1,e2=>cases e2;exact .inr rfl
           have Xs:bc K CN lv2 (mn (mn (topR rate sp) (topR rate sq)) cq):=by
            rw[a38]
            match c',a7d,RJ with |0,e1,e2=>cases e1;cases e2;exact Tt |1,e1,e2=>cases e1;cases e2;exact Ts
           have S4:=wy.same _ _ S5;refine⟨_,Z,_,Z,D,_,_,_,Z,Z,S4,(by rw[vp];exact PM),?_⟩;have NZ:=aJ.DR (i:=i+1) S4 (aJ.mono (dR.trans wy.same) _ FW) Xs.rd (by rw[<-Am];exact pA _) (oZ _);refine⟨λb o' e=>by rw[aV (dU e n1.no)];exact wy.same b o' (dR b o' (sD b o' e)),_,_,_,_,_,_,_,_,bQ,?_,Z⟩;rw[K3,K3,<-Am]at NZ;have e:(ji j rate os i).set (i+1) (mn (mn (topR rate sp) (topR rate sq)) cq)=ji j rate os (i+1):=by rw[<-Og j rate os i aw,C3];show _=List.set _ _ (mnO _ (cornO j ns ms));rw[cO];rfl
           rw[<-e,K3];exact NZ
   · rintro O H5 ⟨s5,ys,v1,v2,v3,v4,v5,v6,v7,dl,qT,rfl⟩
     have e:ji j rate os ((xs.length:Int)-1).toNat=ownL j rate os:=by
      apply As;intro k;by_cases hk:k<=os.length
      · rw[vY j rate os _ hk,Ow.Oi j rate os hk]
        congr 1;split
        ·rfl
        · have:k=os.length:=by lia
          exact(Ow.Gi j rate os k this).symm
      ·rw[m8 (by rw[pj];lia),m8 (by rw[Ow.Oh];lia)]
     rw[e]at qT;exact⟨_,Z,k D ys H5 n1.no dl qT s5⟩
inductive a9e(K:ag)(vs:List V)(H:Hp)(Q:VK):Prop |mk (v:_)(ns:_)(sp:_)(k:_)(h0:vs=[v,.int k])(h1:RD K H v (hW ns sp))(h2:fb ns.length 1000 ns)(h3:ns.length<=1000)(h4:0<=k)(h5:k<=10^6)(h6:∀v' H',RD K H' v' (xT ns k)->aH H H'->Q v' H')
def Ls(K:ag):Sp:=λvs H Q _=>a9e K vs H Q
theorem a5B{k n q:Int}(hk:0<=k)(hq:0<q):(if n<0 then-((2*k*iH n+q)/(2*q))else(2*k*iH n+q)/(2*q))=iQ (k*n) q:=by
 have e:2*k*iH n=2*((k*n).natAbs:Int):=by rw[zV,gm,Int.natCast_mul,xI,Int.natAbs_of_nonneg hk]
 rw[e];show(if n<0 then-(kF (k*n) q)else kF (k*n) q)=iQ (k*n) q;rcases Ki n 0 with hn|hn
 ·rw[bo hn]
  rcases Ki 0 k with h0|h0
  ·have:k*n<0:=Int.mul_neg_of_pos_of_neg h0 hn
   unfold iQ;rw[bB aw]
  ·have e0:k=0:=by lia
   rw[e0,Au,OO hq];have:=OO hq;unfold iQ at this;rw[bo aw]at this
   lia
 ·rw[bB aw]
  have:0<=k*n:=iW hk hn;unfold iQ;rw[bo this]
theorem Ml:bj ["_law_line_here","_law_k","_law_lead_here","_law_found","_law_step","_law_far"] ["_law_line_here","_law_k"] (aX E5):=bw aQ
theorem Z8(F:FA K mg "_law_stand" E5)(B:bE mg)(wQ:aF P w K mg aA "_law_lead" 1 (kE K)):aF P w K mg aA "_law_stand" 2 (Ls K):=by
 refine F.has Ml (λvs H Q E h=>?_) (λ_ _ _ _ _ _=>dC λ_ _=>rfl) (λf aM A outer s H vs Q E hr h=>?_)
 ·obtain⟨v,ns,sp,k,rfl,_⟩:=h
  rfl
 ·obtain⟨v,ns,sp,kk,rfl,rd,ok,hz,hk,hk2,k⟩:=h
  have nd:=Ml.nd;refine⟨_,(aE (pS 2 nd (pf wQ hr (au (pv 0) az))) (aE (pS 3 nd (dj az)) (aE (gJ fe Z (mC K Z (px K (pv 0) aD)) (aY 4 nd) (aE (pS 5 nd (aO nM (aO cQ (aO bO (aO bO aD (pv 1)) (eD (x:="abs") oo Z (B.at "abs") qz (au (pv 4) az))) (pv 2)) (aO bO aD (pv 2)))) (aG (e9 (iP K Z (pv 3) (au (px K (dj (au (pv 5) (au (mD md (pv 5)) az))) (gL (x:="int") zQ Z (B.at "int") xA (au (eB jj (pv 4) aD (aZ _)) az))) az)))))) (aG (aR (gL (x:="tuple") (me K Z) Z (B.at "tuple") fh (au (pv 3) az))))))),?_⟩;refine⟨_,Z,v,ns,sp,Z,rd,ok.ne,hz,λH1 s1=>?_⟩;obtain⟨lp,lm⟩:=ok.lead;refine⟨bR Z,λl H2 n2=>?_⟩;obtain⟨a,b,rfl,ha,hb⟩:=lP (RD.mono (s1.trans n2.same) _ rd);refine⟨_,Z,.inr ⟨a,_,1,.ref b,Z,Z,ha,Z,b,Z,⟨_,hb⟩,QT (K:=K) (a:=b) (xs:=ns.map V.int) (λi O H3=>aH H1 H3/\aU K H3 b (ns.map V.int)/\H3 l=some (.lst (((ns.map λz=>iQ (kk*z) (aI ns)).take i).map V.int))/\∃v1 v2,O=[some (.ref a),some (.int kk),some (.int (aI ns)),some (.ref l),v1,v2]) ⟨n2.same,hb,n2.at',none,none,Z⟩ (λi O H3 _ h=>h.2.1) ?_ ?_⟩⟩
  ·rintro i x O H3 hx ⟨s3,Qv,dl,v1,v2,rfl⟩
   obtain⟨n,en⟩:∃n,ns[i]? =some n:=by rw[bX]at hx;cases e:ns[i]? with |none=>rw[e]at hx;cases hx |some n=>exact⟨n,Z⟩
   cases yL hx en;have nb:=ok.bd n (gj en);have hi:i<ns.length:=(cv.mp en).1;have ab:iH n=(n.natAbs:Int):=zV n;have pb:=O8 (k:=kk) (z:=n) aw nb;have eA:2*kk*iH n=2*((kk*n).natAbs:Int):=by rw[ab,gm,Int.natCast_mul,xI,Int.natAbs_of_nonneg hk]
   refine⟨_,Z,_,_,Z,Z,.of_left (cC aB aB),_,Z,_,Z,_,_,Z,Z,.of_left (cC aw aw),_,Z,_,_,Z,Z,_,Z,_,_,Z,Z,.of_left (cC aB aB),_,_,Z,Z,⟨aw,Kn aw⟩,?_⟩;have fn:=a5B (n:=n) hk (show(0:Int)<aI ns by lia);refine⟨_,Z,.inl ⟨Z,_,aK.of dl⟩,_,Z,_,Z,_,Z,bR Z,λc H4 n4=>?_⟩;refine⟨_,Z,_,_,Z,Z,.inr ⟨_,Z,?_⟩⟩;have OS:=n4.same _ _ dl;have hat:ft ([.int ((2*kk*iH n+(aI ns:Int))/(2*(aI ns:Int))),.int (-((2*kk*iH n+(aI ns:Int))/(2*(aI ns:Int))))]:List V) (if decide (n<0)=true then 1 else 0)=some (.int (iQ (kk*n) (aI ns))):=by
    rw[<-fn];by_cases hn:n<0
    ·rw[bo (cm hn),bo hn];rfl
    ·rw[bB (λz=>hn (jc z)),bB hn];rfl
   refine .inl ⟨c,_,_,_,Z,Z,aK.of n4.at',hat,?_⟩;refine⟨l,_,_,Z,Z,OS,?_,?_⟩
   ·have:(1000:Nat)<sizeLine:=by decide
    rw[bL,je,bL];lia
   refine⟨λb o e=>?_,aU.t (.gY OS) (Qv.go n4.same),?_,_,_,Z⟩
   ·rw[aV (dU e n2.no)];exact n4.same b o (s3 b o e)
   ·rw[bQ,kx,bX,en,jd];rfl
  ·rintro O H3 ⟨s3,Qv,dl,v1,v2,rfl⟩
   rw[xC (by simp)]at dl;refine⟨_,Z,l,_,Z,.inl ⟨aK.of dl,λt H4 n4=>?_⟩⟩;exact k _ _ (fA (aU.of n4.at') (qS _)) (s1.trans (s3.trans n4.same))
theorem Mp:bj ["_law_line_here","_law_stands","_law_found","_law_one","_law_other_here"] ["_law_line_here"] (aX E9):=bw aQ
inductive a9k(K:ag)(vs:List V)(H:Hp)(Q:VK):Prop |mk (v:_)(ns:_)(sp:_)(h0:vs=[v])(h1:RD K H v (hW ns sp))(h2:fb ns.length 100 ns)(h3:ns.length<=1000)(h4:∀l ys H',H l=none->H' l=some (.lst ys)->aJ K H' ys (iL ns)->aH H H'->Q (.ref l) H')
def DA(K:ag):Sp:=λvs H Q _=>a9k K vs H Q
def tH(ns:List Int):List aj:=(List.range (aI ns+1)).map λ(j:Nat)=>xT ns (j:Int)
theorem L9(ns:List Int):bM (tH ns)=true:=cu.mpr λd hd=>by obtain⟨j,_,rfl⟩:=fW.mp hd;exact yc _
theorem Du{ns:List Int}{i:Nat}(h:i<=aI ns):(tH ns)[i]? =some (xT ns (i:Int)):=by unfold tH;rw[bX,oJ aw];rfl
theorem a7y(xs:List V):kU xs (some 1) none=xs.drop 1:=by
 unfold kU;have e:HT.bZ xs.length 0 (some 1)=min 1 xs.length:=HT.EV _ _ 1;rw[e,HT.Ny];rcases K0 0 xs.length with h|h
 ·rw[show min 1 xs.length=1 by lia,xC]
  rw[oH];exact bf _
 ·have:xs=[]:=De.mp aw
  subst this;rfl
theorem Zk(F:FA K mg "_law_rows" E9)(B:bE mg)(wQ:aF P w K mg aA "_law_lead" 1 (kE K))(a4G:aF P w K mg aA "_law_stand" 2 (Ls K)):aF P w K mg aA "_law_rows" 3 (DA K):=by
 refine F.has Mp (λvs H Q E h=>?_) (λ_ _ _ _ _ _=>eJ λ_=>rfl) (λf aM A outer s H vs Q E hr h=>?_)
 ·obtain⟨v,ns,sp,rfl,_⟩:=h
  rfl
 ·obtain⟨v,ns,sp,rfl,rd,dI,hz,k⟩:=h
  have nd:=Mp.nd;obtain⟨lp,lm⟩:=dI.lead;have ok:fb ns.length 1000 ns:=⟨Z,λz hz=>by have:=dI.bd z hz;lia,dI.nz⟩;refine⟨_,(aE (Bp (i0:=1) nd Z (Or.inl Z) (N:=["_law_k","_law_line_here"]) (js:=[none,some 0]) Z Z Z (p7 Z (B.at "range") (au (aO cQ (pf wQ hr (au (pv 0) az)) aD) az)) (λ_ _ _ _ _=>(aY 0 (fY aB))) (λ_ _ _ _ _=>fm) (λ_ _ _ _ _=>(pf a4G hr (au (pv 1) (au (pv 0) az))))) (aE (pS 2 nd (dj az)) (aE (gJ fe Z (jX K Z true true Z (B.at "zip") (au (pv 1) (au (vT (vG K rfl) (pv 1) (vR aD) vS) az))) (cW K rfl (n:=2) rfl (bC (aY 3 nd) (bC (aY 4 nd) cV))) (aG (e9 (iP K Z (pv 2) (au (gL (x:="tuple") (me K Z) Z (B.at "tuple") fh (au (fS (N:=["_law_here","_law_there"]) (js:=[none,none]) rfl rfl rfl (jX K rfl false false rfl (B.at "zip") (au (pv 3) (au (pv 4) az))) (λ_ _ _ _ _=>(cW K rfl (n:=2) rfl (bC (aY 0 (fY aB)) (bC (aY 1 (fY aB)) cV)))) (λ_ _ _ _ _=>fm) (λ_ _ _ _ _=>(aO gM (pv 1) (pv 0)))) az)) az))))) (aG (aR (pv 2)))))),?_⟩;refine⟨_,Z,v,ns,sp,Z,rd,ok.ne,hz,λH1 s1=>?_⟩;refine⟨_,_,Z,Z,_,Z,aw,aw,λD H2 n2=>?_⟩;have e1:((aI ns:Int)+1).toNat=aI ns+1:=by lia
  rw[e1];have lS:(tH ns).length=aI ns+1:=by simp[tH]
  refine Si (K:=K) (ds:=tH ns) _ n2 lS.symm aw (L9 ns) ?_ ?_
  ·intro i d H3 Q' ed s3 hq
   have hi:i<aI ns+1:=by rw[<-lS];exact(cv.mp ed).1
   rw[Du aw]at ed;cases ed;refine⟨_,Z,_,Z,v,ns,sp,_,Z,RD.mono (s1.trans s3) _ rd,ok,hz,aw,aw,λu H4 ru s4=>hq u H4 s4 ?_⟩;have e0:(0:Int)+(i:Int)=i:=by lia
   rw[e0]at ru;exact ru
  intro H3 ys s3 d3 r3;have ly:=r3.length;rw[lS]at ly;refine⟨bR Z,λl H4 n4=>?_⟩;have nl:H l=none:=by cases e:H l with |none=>rfl |some o=>have:=(s1.trans s3) _ _ e;rw[n4.no]at this;cases this
  have d4:=n4.same _ _ d3;refine⟨_,Z,_,Z,_,Z,D,_,Z,.inl ⟨aK.of d4,λc H5 n5=>?_⟩⟩;have d5:=n5.same _ _ d4;have OV:=n5.at';rw[a7y]at OV;have r5:=aJ.mono (n4.same.trans n5.same) _ r3;refine⟨D,c,Z,⟨_,aK.of d5⟩,⟨_,aK.of n5.at'⟩,?_⟩;refine QS (K:=K) (b1:=true) (b2:=true) (xs:=ys) (ys:=ys.drop 1) (aI ns) (by rw[oH];lia) (λi O H6=>aH H3 H6/\H6 D=some (.lst ys)/\H6 c=some (.lst (ys.drop 1))/\aJ K H6 ys (tH ns)/\(∃zs,H6 l=some (.lst zs)/\aJ K H6 zs ((iL ns).take i))/\∃v1 v2,O=[some v,some (.ref D),some (.ref l),v1,v2]) ⟨n4.same.trans n5.same,d5,OV,r5,⟨[],n5.same _ _ n4.at',cH⟩,none,none,Z⟩ (λi O H6 _ h=>⟨aK.of h.2.1,aK.of h.2.2.1⟩) ?_ ?_
  ·rintro i x y O H6 ex ey ⟨s6,dD,dc,rD,⟨zs,dl,rz⟩,v1,v2,rfl⟩ T H7 n7
   have hi:i<aI ns:=by have:=(cv.mp ey).1;rw[oH]at this;lia
   obtain⟨dx,wW,rx⟩:=rD.get' i ex;rw[Du aw]at wW;cases wW;rw[sY]at ey;obtain⟨dy,RH,ry⟩:=rD.get' (1+i) ey;rw[Du aw]at RH;cases RH;obtain⟨a1,xs1,rfl,h1,q1⟩:=(RD.mono n7.same _ ry).cB;have e1:=q1.hZ;subst e1;obtain⟨a0,xs0,rfl,h0,q0⟩:=(RD.mono n7.same _ rx).cB;have e0:=q0.hZ;subst e0;refine⟨T,_,Z,aU.of n7.at',Z,_,_,Z,_,_,Z,Z,?_⟩;refine⟨_,Z,.inl ⟨Z,_,aK.of (n7.same _ _ dl)⟩,?_⟩;refine⟨_,Z,_,Z,a0,a1,Z,⟨_,h0⟩,⟨_,h1⟩,λD2 H8 nw=>?_⟩;refine uX (K:=K) (b1:=false) (b2:=false) (ds:=(fz ns i).map PyData.int) [] rfl h0 h1 nw (by simp[fz]) (by simpa[fz]using hz) (kI _) ?_ ?_
   ·intro j x y d H9 Q' ex ey ed s9 hq
    obtain⟨m,em,rfl⟩:=nO ed;unfold fz at em;rw[bX]at em ex ey;rw[bX]at ex ey;cases en:ns[j]? with |none=>rw[en]at em;cases em |some n=>
     rw[en]at em ex ey;cases em;cases ex;cases ey;refine⟨_,Z,_,Z,_,_,Z,Z,?_⟩;have ee:((1+i:Nat):Int)=(i:Int)+1:=by lia
     rw[ee];exact hq _ _ (aH.refl _) (dN _)
   ·intro H9 ws s9 d9 r9
    refine⟨D2,_,Z,.inl ⟨aK.of d9,λt iu pD=>?_⟩⟩;have vL:=n7.same.trans (s9.trans pD.same);have S6:=vL _ _ dl;have len:=rz.length;rw[je,qP]at len;refine⟨l,zs,_,Z,Z,S6,?_,?_⟩
    ·have:(1000:Nat)<sizeLine:=by decide
     lia
    have tt:dX iu (L2.upd iu l (.lst (zs++[.ref t]))):=.gY S6;have lD:D≠l:=λe=>by rw[<-e]at n4;have:=n4.no;rw[d3]at this;cases this
    have lc:c≠l:=λe=>by rw[e]at n5;have:=n5.no;rw[n4.at']at this;cases this
    refine⟨λb o e=>?_,?_,?_,?_,⟨_,bQ,?_⟩,_,_,Z⟩
    ·rw[aV (dU e n4.no)];exact vL b o (s6 b o e)
    ·rw[aV lD];exact vL _ _ dD
    ·rw[aV lc];exact vL _ _ dc
    ·exact aJ.t tt _ (L9 ns) (aJ.mono vL _ rD)
    ·rw[kx,Bl hi]
     have nt:bM ((iL ns).take i)=true:=cu.mpr λd hd=>cu.mp (Bk ns) d (Al hd);exact(aJ.t tt _ nt (aJ.mono vL _ rz)).append (cf (RD.t tt _ (yc _) (fA (aU.of pD.at') (aJ.mono pD.same _ r9))) cH)
  ·rintro O H6 ⟨s6,dD,dc,rD,⟨zs,dl,rz⟩,v1,v2,rfl⟩
   rw[xC (by rw[qP];exact bf _)]at rz;exact⟨_,Z,k l zs H6 nl dl rz ((s1.trans s3).trans s6)⟩
inductive a99(K:ag)(vs:List V)(H:Hp)(Q:VK):Prop |mk (m:_)(sq:_)(rs:_)(r:_)(f:_)(j:_)(ti:_)(q:_)(h0:vs=[m,sq])(h1:RD K H m (fE rs r f j ti))(h2:bc K H sq q)(h3:Bd 2000 q)(h4:1<=ti)(h5:ti<=100)(h6:0<q.num)(h7:∀T,1<=T->T.natAbs<2^2400->dQ ti q T=true->dQ ti q (T-1)=false->∀H',aH H H'->Q (.int T) H')
def Lp(K:ag):Sp:=λvs H Q _=>a99 K vs H Q
theorem Mf:bj ["_law_machine_here","_law_square","_law_wanted","_law_low","_law_high","_law_half"] ["_law_machine_here","_law_square"] (aX E1):=bw aQ
theorem Z2(F:FA K mg "_law_ticks" E1)(B:bE mg):aF P w K mg aA "_law_ticks" 1 (Lp K):=by
 refine F.has Mf (λvs H Q E h=>?_) (λ_ _ _ _ _ _=>dC λ_ _=>rfl) (λf aM A outer s H vs Q E hr h=>?_)
 · obtain⟨m,sq,rs,r,f,j,ti,q,rfl,_⟩:=h
   rfl
 · obtain⟨m,sq,rs,r,f,j,ti,q,rfl,rm,⟨p,rfl,hp⟩,bq,t1,t2,hq,k⟩:=h
   have nd:=Mf.nd;refine⟨_,(aE (pS 2 nd (aO bO (aO tQ (px K (pv 0) aD) aD) (px K (pv 1) aD))) (aE (eU (df (au aD (au aD az))) (cW K Z (n:=2) Z (bC (aY 3 nd) (bC (aY 4 nd) cV)))) (aE (nK fe (bG jj (aO bO (aO bO (pv 4) (pv 4)) (px K (pv 1) aD)) (pv 2) (aZ _)) (aG (p4 (i:=3) (j:=4) Z nd Z Z aB Z Z (au (pv 4) (au (aO bO aD (pv 4)) az)) Z))) (aE (nK fe (bG mE (aO gM (pv 4) (pv 3)) aD (aZ _)) (aE (pS 5 nd (aO nM (aO cQ (pv 3) (pv 4)) aD)) (aG (bp (bG jj (aO bO (aO bO (pv 5) (pv 5)) (px K (pv 1) aD)) (pv 2) (aZ _)) (aG (pS 3 nd (pv 5))) (aG (pS 4 nd (pv 5))))))) (aG (aR (pv 4))))))),?_⟩;obtain⟨a,b,rfl,ha,hb⟩:=mH rm;have m1:(ti*ti).natAbs<=100*100:=by rw[gm];exact oG aw aw
   have eP:ti^(2:Int).toNat=ti*ti:=by show ti^2=ti*ti;rw[fy,fy,lg,ky]
   have lim:(ti*ti*(q.den:Int)).natAbs<2^2399:=by have hd:=bq.den;rw[gm];have:(q.den:Int).natAbs=q.den:=rfl;rw[this];have:=mG (n:=14) (m:=2000) (a:=(ti*ti).natAbs) (b:=q.den) (xB m1 aB) hd;exact fO this (qA aB aB)
   have p0:0<ti*ti*(q.den:Int):=gX (gX aw aw) (den_pos q);have e2:(2:Nat)^2400=2^2399*2:=Nat.pow_succ 2 2399;have AG:∀{t:Int},t.natAbs<2^2400->Wd (t*t):=λ{t} tw=>iJ (n:=4800) (by rw[gm];exact mG (n:=2400) (m:=2400) tw tw) aB;have wt:∀{t:Int},t.natAbs<2^2400->Wd t:=λ{t} tw=>iJ tw aB;refine⟨_,Z,.inr ⟨a,_,4,.int ti,Z,Z,ha,Z,?_⟩⟩
   refine ⟨_, _, rfl, rfl, ⟨by decide, by decide, by have:(2:Nat)^64=18446744073709551616:=by decide
                                                     lia⟩,?_⟩;refine⟨_,Z,.inr ⟨p,_,1,.int q.den,Z,Z,hp,Z,?_⟩⟩;refine⟨_,_,Z,Z,by rw[eP];exact .of_left (cC aw aw),?_⟩;have eW:ti^(2:Int).toNat*(q.den:Int)=ti*ti*(q.den:Int):=by rw[eP]
   have RE:∀t:Int,decide (t*t*q.num<ti^(2:Int).toNat*(q.den:Int))= !dQ ti q t:=λt=>by unfold dQ;rw[eW,<-decide_not];exact decide_eq_decide.mpr aw
   refine⟨bR Z,λc0 H0 n0=>?_⟩;refine⟨c0,_,Z,aU.of n0.at',Z,_,_,Z,_,_,Z,Z,?_⟩;have C1:=hp.go n0.same;have k':∀T:Int,1<=T->T.natAbs<2^2400->dQ ti q T=true->dQ ti q (T-1)=false->Q (.int T) H0:=λT a1 a2 a3 a4=>(k T a1 a2 a3 a4) H0 n0.same;generalize hL:ti*ti*(q.den:Int)=L at lim p0;refine nu (λO H2=>H2=H0/\∃(lo x:Int),O=[some (.ref a),some (.ref p),some (.int (ti^(2:Int).toNat*(q.den:Int))),some (.int lo),some (.int x),none]/\0<=lo/\lo<x/\x<=2*L/\dQ ti q lo=false) (λO _=>match O with|[_,_,_,_,some (.int x),_]=>(L-x).toNat|_=>0) ?_ ?_ ?_
   ·exact⟨Z,0,1,Z,aw,aw,aw,Rx t1⟩
   · rintro O H2 ⟨rfl,lo,x,rfl,l0,lx,xL,hx⟩
     have xw:x.natAbs<2^2400:=by lia
     refine⟨_,Z,_,Z,_,_,Z,Z,iy (wt xw).bits (wt xw).bits,_,Z,.inr ⟨p,_,0,.int q.num,Z,Z,C1,Z,_,_,Z,Z,iy (AG xw).bits bq.wn.bits,?_⟩⟩;refine⟨_,Z,_,_,Z,Z,_,Z,?_⟩;show if decide (x*x*q.num<ti^(2:Int).toNat*(q.den:Int))=true then _ else _;rw[RE];cases pT:dQ ti q x with
     |false=>
       have bP:x<L:=by
        by_cases bP:x<L
        ·exact bP
        ·rw[Rz hq aw aw]at pT;cases pT
       refine bK ?_;refine⟨_,Z,_,Z,_,_,Z,Z,.of_left (cC aB aB),_,_,Z,?_⟩;refine⟨⟨Z,x,2*x,Z,aw,aw,aw,pT⟩,?_⟩;show(L-2*x).toNat<(L-x).toNat
       lia |true=>
       refine aW ?_;refine nu (λO H3=>H3=H2/\∃(lo hi:Int)(v:Option V),O=[some (.ref a),some (.ref p),some (.int (ti^(2:Int).toNat*(q.den:Int))),some (.int lo),some (.int hi),v]/\0<=lo/\lo<hi/\hi<=2*L/\dQ ti q lo=false/\dQ ti q hi=true) (λO _=>match O with|[_,_,_,some (.int y),some (.int x),_]=>(x-y).toNat|_=>0) ?_ ?_ ?_
       ·exact⟨Z,lo,x,none,Z,aw,aw,xL,hx,pT⟩
       · rintro O H3 ⟨rfl,lo,hi,v,rfl,l0,lh,zm,zA,uP⟩
         refine⟨_,Z,_,Z,_,_,Z,Z,_,_,Z,Z,_,Z,?_⟩;refine dJ (λhc=>?_) (λhc=>?_)
         · have Qm:hi-lo>1:=jc hc
           refine⟨_,Z,_,Z,_,_,Z,Z,_,_,Z,Z,⟨aB,iJ (n:=2) aB aB⟩,?_⟩;have mw:((lo+hi)/2).natAbs<2^2400:=by lia
           refine⟨_,Z,_,Z,_,_,Z,Z,iy (wt mw).bits (wt mw).bits,_,Z,.inr ⟨p,_,0,.int q.num,Z,Z,C1,Z,_,_,Z,Z,iy (AG mw).bits bq.wn.bits,?_⟩⟩;refine⟨_,Z,_,_,Z,Z,_,Z,?_⟩;show if decide ((lo+hi)/2*((lo+hi)/2)*q.num<ti^(2:Int).toNat*(q.den:Int))=true then _ else _;rw[RE];cases hm:dQ ti q ((lo+hi)/2)with
           |true=>
             refine aW ?_;refine⟨_,Z,⟨Z,lo,_,_,Z,l0,aw,aw,zA,hm⟩,?_⟩;show((lo+hi)/2-lo).toNat<(hi-lo).toNat
             lia |false=>
             refine bK ?_;refine⟨_,Z,⟨Z,_,hi,_,Z,aw,aw,zm,hm,uP⟩,?_⟩;show(hi-(lo+hi)/2).toNat<(hi-lo).toNat
             lia
         · have hle:¬hi-lo>1:=λz=>hc (cm z)
           have e:lo=hi-1:=by lia
           subst e;exact⟨_,Z,k' hi aw aw uP zA⟩
       · rintro O H2 Q1 Q2 hq ⟨v1,e1,v2,e2,i,j,e3,e4,i2,j2,e5,e6,kk,e7,q⟩
         exact⟨v1,e1,v2,e2,i,j,e3,e4,i2,j2,e5,e6,kk,e7,hq _ _ q⟩
   · rintro O H2 Q1 Q2 hq ⟨v1,e1,v2,e2,i,j,e3,e4,mo,v3,e5,h⟩
     refine⟨v1,e1,v2,e2,i,j,e3,e4,mo,v3,e5,?_⟩;rcases h with⟨a,xs,ii,x,f1,f2,f3,f4,i2,j2,g1,g2,g3,v4,g4,i3,j3,g5,g6,kk,g7,q⟩|⟨a,xs,ii,x,f1,f2,f3,f4,i2,j2,g1,g2,g3,v4,g4,i3,j3,g5,g6,kk,g7,q⟩
     ·exact .inl ⟨a,xs,ii,x,f1,f2,f3,f4,i2,j2,g1,g2,g3,v4,g4,i3,j3,g5,g6,kk,g7,hq _ _ q⟩
     ·exact .inr ⟨a,xs,ii,x,f1,f2,f3,f4,i2,j2,g1,g2,g3,v4,g4,i3,j3,g5,g6,kk,g7,hq _ _ q⟩
theorem Ku:gq "tuple" "list"=false:=by decide
theorem Kv:gq "list" "tuple"=false:=by decide
theorem Tf(n:Nat):(List.replicate n true).all id=true:=by induction n with |zero=>rfl |succ n ih=>rw[qB,Kd,ih];rfl
def TF(D:aj):Prop:=(∃z,D= .int z)\/∃s,D= .str s/\SeqAt.shaped (.str s)=true/\PyData.eqv (.str s) (.str s)=true
def Nx(A:aj->Prop)(D:aj):Prop:=TF D\/∃ds,(D= .tuple ds\/D= .list ds)/\ds.length<=100000/\∀x∈ds,A x
inductive aac(A:aj->Prop)(K:ag)(vs:List V)(H:Hp)(Q:VK):Prop |mk (v:_)(u:_)(D:_)(h0:vs=[v,u])(h1:RD K H v D)(h2:RD K H u D)(h3:A D)(h4:∀H',aH H H'->Q (.bl true) H')
def xX(A:aj->Prop)(K:ag):Sp:=λvs H Q _=>aac A K vs H Q
theorem DS:bj ["_law_found","_law_due"] ["_law_found","_law_due"] (aX Bg):=bw aQ
theorem a0q(F:FA K mg "_law_alike" Bg)(B:bE mg):aF P w K mg aA "_law_alike" 1 (xX (λ_=>False) K):=by
 refine F.has DS (λvs H Q E h=>?_) (λ_ _ _ _ _ _=>dC λ_ _=>rfl) (λf aM A outer s H vs Q E hr h=>?_)
 ·obtain⟨v,u,D,rfl,_,_,h,_⟩:=h
  exact h.elim
 ·obtain⟨v,u,D,rfl,_,_,h,_⟩:=h
  exact h.elim
theorem Gn{A:aj->Prop}{n:Nat}(hn:1<=n)(F:FA K mg "_law_alike" Bg)(B:bE mg)(rZ:aF P w K mg aA "_law_number" 1 (lJ K))(uE:aF P w K mg aA "_law_alike" n (xX A K)):aF P w K mg aA "_law_alike" (n+1) (xX (Nx A) K):=by
 refine F.has DS (λvs H Q E h=>?_) (λ_ _ _ _ _ _=>dC λ_ _=>rfl) (λf aM A' outer s H vs Q E hr h=>?_)
 ·obtain⟨v,u,D,rfl,_⟩:=h
  rfl
 ·obtain⟨v,u,D,rfl,rv,ru,hD,k⟩:=h
  have nd:=DS.nd;rcases hD with(⟨z,rfl⟩|⟨z,rfl,sh,eq⟩)|⟨ds,rfl|rfl,hz,hA⟩
  ·refine⟨_,(aE (bp (bU (cP K B (au (pv 1) (au (df (au (cJ (x:="list") (v:=.ty "list") Z (B.at "list") iV rfl) (au (cJ (x:="tuple") (v:=.ty "tuple") rfl (B.at "tuple") fh rfl) az))) az)))) (aE (bp (PW.pt (fQ (bG (gO K Z hr.units) (cP K B (au (pv 1) (au (cJ (x:="list") (v:=.ty "list") Z (B.at "list") iV rfl) az))) (cP K B (au (pv 0) (au (cJ (x:="list") (v:=.ty "list") rfl (B.at "list") iV rfl) az))) (aZ _)) (iY (bG (gO K rfl hr.units) (cP K B (au (pv 1) (au (cJ (x:="tuple") (v:=.ty "tuple") rfl (B.at "tuple") fh rfl) az))) (cP K B (au (pv 0) (au (cJ (x:="tuple") (v:=.ty "tuple") rfl (B.at "tuple") fh rfl) az))) (aZ _))))) (aG (aR iO)) bA) (aG (aR (fX (eB (cI K Z hr.units) (dk K B (au (pv 0) az)) (dk K B (au (pv 1) az)) (aZ _)) (gz (eD (x:="all") (qm K Z Z) Z (B.at "all") sX (au (fS (N:=["_law_one","_law_two"]) (js:=[none,none]) rfl rfl rfl (jX K rfl false false rfl (B.at "zip") (au (pv 0) (au (pv 1) az))) (λ_ _ _ _ _=>(cW K rfl (n:=2) rfl (bC (aY 0 (fY aB)) (bC (aY 1 (fY aB)) cV)))) (λ_ _ _ _ _=>fm) (λ_ _ _ _ _=>(ph uE (hr.mono aw) rfl (au (pv 0) (au (pv 1) az))))) az))))))) bA) (aE (bp (bU (cP K B (au (pv 1) (au (cJ (x:="str") (v:=.ty "str") Z (B.at "str") sW rfl) az)))) (aG (aR (fX (cP K B (au (pv 0) (au (cJ (x:="str") (v:=.ty "str") Z (B.at "str") sW rfl) az))) (gz (eB (cI K rfl hr.units) (pv 0) (pv 1) (aZ _)))))) bA) (aG (aR (fX (ph rZ (hr.mono aw) Z (au (pv 0) az)) (gz (eB (cI K Z hr.units) (pv 0) (pv 1) (aZ _)))))))),?_⟩
   cases rv.int_inv;cases ru.int_inv;refine⟨_,Z,bR Z,λtt H1 n1=>.inr ⟨_,"int",tt,["list","tuple"],_,Z,n1.at',Z,aB,Z,_,Z,aW ?_⟩⟩;refine⟨_,Z,.inl ⟨_,"int","str",_,Z,Z,aB,Z,_,Z,aW ?_⟩⟩;refine⟨_,Z,_,"int",Z,Z,_,Z,bK ?_⟩;refine⟨_,Z,_,Z,.inl ⟨_,_,Z,Z,?_⟩⟩;show Q (.bl (decide (z=z))) H1;rw[cm rfl];exact k H1 n1.same
  ·refine⟨_,(aE (bp (bU (cP K B (au (pv 1) (au (df (au (cJ (x:="list") (v:=.ty "list") Z (B.at "list") iV rfl) (au (cJ (x:="tuple") (v:=.ty "tuple") rfl (B.at "tuple") fh rfl) az))) az)))) (aE (bp (PW.pt (fQ (bG (gO K Z hr.units) (cP K B (au (pv 1) (au (cJ (x:="list") (v:=.ty "list") Z (B.at "list") iV rfl) az))) (cP K B (au (pv 0) (au (cJ (x:="list") (v:=.ty "list") rfl (B.at "list") iV rfl) az))) (aZ _)) (iY (bG (gO K rfl hr.units) (cP K B (au (pv 1) (au (cJ (x:="tuple") (v:=.ty "tuple") rfl (B.at "tuple") fh rfl) az))) (cP K B (au (pv 0) (au (cJ (x:="tuple") (v:=.ty "tuple") rfl (B.at "tuple") fh rfl) az))) (aZ _))))) (aG (aR iO)) bA) (aG (aR (fX (eB (cI K Z hr.units) (dk K B (au (pv 0) az)) (dk K B (au (pv 1) az)) (aZ _)) (gz (eD (x:="all") (qm K Z Z) Z (B.at "all") sX (au (fS (N:=["_law_one","_law_two"]) (js:=[none,none]) rfl rfl rfl (jX K rfl false false rfl (B.at "zip") (au (pv 0) (au (pv 1) az))) (λ_ _ _ _ _=>(cW K rfl (n:=2) rfl (bC (aY 0 (fY aB)) (bC (aY 1 (fY aB)) cV)))) (λ_ _ _ _ _=>fm) (λ_ _ _ _ _=>(ph uE (hr.mono aw) rfl (au (pv 0) (au (pv 1) az))))) az))))))) bA) (aE (bp (bU (cP K B (au (pv 1) (au (cJ (x:="str") (v:=.ty "str") Z (B.at "str") sW rfl) az)))) (aG (aR (fX (cP K B (au (pv 0) (au (cJ (x:="str") (v:=.ty "str") Z (B.at "str") sW rfl) az))) (gz (eB (cI K rfl hr.units) (pv 0) (pv 1) (aZ _)))))) bA) (aG (aR (fX (ph rZ (hr.mono aw) Z (au (pv 0) az)) (gz (eB (cI K Z hr.units) (pv 0) (pv 1) (aZ _)))))))),?_⟩
   cases rv.str_inv;cases ru.str_inv;refine⟨_,Z,bR Z,λtt H1 n1=>.inr ⟨_,"str",tt,["list","tuple"],_,Z,n1.at',Z,aB,Z,_,Z,aW ?_⟩⟩;refine⟨_,Z,.inl ⟨_,"str","str",_,Z,Z,aB,Z,_,Z,bK ?_⟩⟩;refine⟨_,Z,.inl ⟨_,"str","str",_,Z,Z,aB,Z,_,Z,bK ?_⟩⟩;refine⟨_,Z,_,Z,.inr ⟨_,_,cT _,cT _,sh,sh,?_⟩⟩;rw[eq];exact k H1 n1.same
  ·refine⟨_,(aE (bp (bU (cP K B (au (pv 1) (au (df (au (cJ (x:="list") (v:=.ty "list") Z (B.at "list") iV rfl) (au (cJ (x:="tuple") (v:=.ty "tuple") rfl (B.at "tuple") fh rfl) az))) az)))) (aE (bp (PW.pt (fQ (bG (gO K Z hr.units) (cP K B (au (pv 1) (au (cJ (x:="list") (v:=.ty "list") Z (B.at "list") iV rfl) az))) (cP K B (au (pv 0) (au (cJ (x:="list") (v:=.ty "list") rfl (B.at "list") iV rfl) az))) (aZ _)) (iY (bG (gO K rfl hr.units) (cP K B (au (pv 1) (au (cJ (x:="tuple") (v:=.ty "tuple") rfl (B.at "tuple") fh rfl) az))) (cP K B (au (pv 0) (au (cJ (x:="tuple") (v:=.ty "tuple") rfl (B.at "tuple") fh rfl) az))) (aZ _))))) (aG (aR iO)) bA) (aG (aR (fX (eB (cI K Z hr.units) (dk K B (au (pv 0) az)) (dk K B (au (pv 1) az)) (aZ _)) (gz (eD (x:="all") (qm K Z Z) Z (B.at "all") sX (au (fS (N:=["_law_one","_law_two"]) (js:=[none,none]) rfl rfl rfl (jX K rfl false false rfl (B.at "zip") (au (pv 0) (au (pv 1) az))) (λ_ _ _ _ _=>(cW K rfl (n:=2) rfl (bC (aY 0 (fY aB)) (bC (aY 1 (fY aB)) cV)))) (λ_ _ _ _ _=>fm) (λ_ _ _ _ _=>(ph uE (hr.mono aw) rfl (au (pv 0) (au (pv 1) az))))) az))))))) bA) (aE (bp (bU (cP K B (au (pv 1) (au (cJ (x:="str") (v:=.ty "str") Z (B.at "str") sW rfl) az)))) (aG (aR (fX (cP K B (au (pv 0) (au (cJ (x:="str") (v:=.ty "str") Z (B.at "str") sW rfl) az))) (gz (eB (cI K rfl hr.units) (pv 0) (pv 1) (aZ _)))))) bA) (aG (aR (fX (ph rZ (hr.mono aw) Z (au (pv 0) az)) (gz (eB (cI K Z hr.units) (pv 0) (pv 1) (aZ _)))))))),?_⟩
   obtain⟨va,xs,rfl,hV,dP⟩:=rv.cB;obtain⟨ua,ys,rfl,hU,j6⟩:=ru.cB;have lx:=dP.length;have ly:=j6.length;refine⟨_,Z,bR Z,λtt H1 n1=>.inr ⟨_,"tuple",tt,["list","tuple"],_,Z,n1.at',.inr ⟨Z,_,hU.go n1.same⟩,aB,Z,_,Z,bK ?_⟩⟩;have s1:=n1.same;refine⟨_,Z,.inl ⟨_,"tuple","list",_,Z,.inr ⟨Z,_,hU.go s1⟩,aB,Ku,_,Z,.inl ⟨_,"tuple","list",_,Z,.inr ⟨Z,_,hV.go s1⟩,aB,Ku,.inr ⟨.bool false,.bool false,oY _,oY _,Z,Z,_,Z,aW ?_⟩⟩⟩⟩;refine⟨_,Z,.inl ⟨_,"tuple","tuple",_,Z,.inr ⟨Z,_,hU.go s1⟩,aB,Kt,_,Z,.inl ⟨_,"tuple","tuple",_,Z,.inr ⟨Z,_,hV.go s1⟩,aB,Kt,.inr ⟨.bool true,.bool true,oY _,oY _,Z,Z,_,Z,aW ?_⟩⟩⟩⟩;refine⟨_,Z,va,_,Z,.inr (hV.go s1),_,Z,ua,_,Z,.inr (hU.go s1),.inl ⟨_,_,Z,Z,_,Z,?_⟩⟩;rw[cm (show(xs.length:Int)=(ys.length:Int) by lia)];refine bK ?_;refine⟨_,Z,_,Z,va,ua,Z,⟨_,hV.go s1⟩,⟨_,hU.go s1⟩,λD2 H2 n2=>?_⟩;refine Sl (K:=K) (b1:=false) (b2:=false) (xs:=xs) (ys:=ys) (bs:=List.replicate ds.length true) _ Z (hV.go s1) (hU.go s1) n2 (by rw[xF];lia) (by rw[xF];lia) ?_ ?_
   ·intro q x y b H3 Q' ex ey eb s3 hq
    have sA:b=true:=by
     rw[Ka]at eb;split at eb
     ·exact(eO eb).symm
     ·cases eb
    subst sA;have dR:=s1.trans s3;obtain⟨d1,e1,r1⟩:=dP.get' q ex;obtain⟨d2,e2,r2⟩:=j6.get' q ey;rw[e1]at e2;cases e2;exact⟨_,Z,_,Z,x,y,d1,Z,RD.mono dR _ r1,RD.mono dR _ r2,hA d1 (gj e1),λH4 s4=>hq H4 s4⟩
   ·intro H3 s3 d3
    refine⟨D2,_,Z,aK.of d3,?_⟩;rw[Tf];exact k H3 (s1.trans s3)
  ·refine⟨_,(aE (bp (bU (cP K B (au (pv 1) (au (df (au (cJ (x:="list") (v:=.ty "list") Z (B.at "list") iV rfl) (au (cJ (x:="tuple") (v:=.ty "tuple") rfl (B.at "tuple") fh rfl) az))) az)))) (aE (bp (PW.pt (fQ (bG (gO K Z hr.units) (cP K B (au (pv 1) (au (cJ (x:="list") (v:=.ty "list") Z (B.at "list") iV rfl) az))) (cP K B (au (pv 0) (au (cJ (x:="list") (v:=.ty "list") rfl (B.at "list") iV rfl) az))) (aZ _)) (iY (bG (gO K rfl hr.units) (cP K B (au (pv 1) (au (cJ (x:="tuple") (v:=.ty "tuple") rfl (B.at "tuple") fh rfl) az))) (cP K B (au (pv 0) (au (cJ (x:="tuple") (v:=.ty "tuple") rfl (B.at "tuple") fh rfl) az))) (aZ _))))) (aG (aR iO)) bA) (aG (aR (fX (eB (cI K Z hr.units) (dk K B (au (pv 0) az)) (dk K B (au (pv 1) az)) (aZ _)) (gz (eD (x:="all") (qm K Z Z) Z (B.at "all") sX (au (fS (N:=["_law_one","_law_two"]) (js:=[none,none]) rfl rfl rfl (jX K rfl true true rfl (B.at "zip") (au (pv 0) (au (pv 1) az))) (λ_ _ _ _ _=>(cW K rfl (n:=2) rfl (bC (aY 0 (fY aB)) (bC (aY 1 (fY aB)) cV)))) (λ_ _ _ _ _=>fm) (λ_ _ _ _ _=>(ph uE (hr.mono aw) rfl (au (pv 0) (au (pv 1) az))))) az))))))) bA) (aE (bp (bU (cP K B (au (pv 1) (au (cJ (x:="str") (v:=.ty "str") Z (B.at "str") sW rfl) az)))) (aG (aR (fX (cP K B (au (pv 0) (au (cJ (x:="str") (v:=.ty "str") Z (B.at "str") sW rfl) az))) (gz (eB (cI K rfl hr.units) (pv 0) (pv 1) (aZ _)))))) bA) (aG (aR (fX (ph rZ (hr.mono aw) Z (au (pv 0) az)) (gz (eB (cI K Z hr.units) (pv 0) (pv 1) (aZ _)))))))),?_⟩
   obtain⟨va,xs,rfl,hV,dP⟩:=rv.lst_inv;obtain⟨ua,ys,rfl,hU,j6⟩:=ru.lst_inv;have lx:=dP.length;have ly:=j6.length;refine⟨_,Z,bR Z,λtt H1 n1=>.inr ⟨_,"list",tt,["list","tuple"],_,Z,n1.at',.inl ⟨Z,_,hU.go n1.same⟩,aB,Z,_,Z,bK ?_⟩⟩;have s1:=n1.same;refine⟨_,Z,.inl ⟨_,"list","list",_,Z,.inl ⟨Z,_,hU.go s1⟩,aB,Kw,_,Z,.inl ⟨_,"list","list",_,Z,.inl ⟨Z,_,hV.go s1⟩,aB,Kw,.inr ⟨.bool true,.bool true,oY _,oY _,Z,Z,_,Z,aW ?_⟩⟩⟩⟩;refine⟨_,Z,.inl ⟨_,"list","tuple",_,Z,.inl ⟨Z,_,hU.go s1⟩,aB,Kv,_,Z,.inl ⟨_,"list","tuple",_,Z,.inl ⟨Z,_,hV.go s1⟩,aB,Kv,.inr ⟨.bool false,.bool false,oY _,oY _,Z,Z,_,Z,aW ?_⟩⟩⟩⟩;refine⟨_,Z,va,_,Z,.inl (hV.go s1),_,Z,ua,_,Z,.inl (hU.go s1),.inl ⟨_,_,Z,Z,_,Z,?_⟩⟩;rw[cm (show(xs.length:Int)=(ys.length:Int) by lia)];refine bK ?_;refine⟨_,Z,_,Z,va,ua,Z,⟨_,hV.go s1⟩,⟨_,hU.go s1⟩,λD2 H2 n2=>?_⟩;refine Sl (K:=K) (b1:=true) (b2:=true) (xs:=xs) (ys:=ys) (bs:=List.replicate ds.length true) _ Z (hV.go s1) (hU.go s1) n2 (by rw[xF];lia) (by rw[xF];lia) ?_ ?_
   ·intro q x y b H3 Q' ex ey eb s3 hq
    have sA:b=true:=by
     rw[Ka]at eb;split at eb
     ·exact(eO eb).symm
     ·cases eb
    subst sA;have dR:=s1.trans s3;obtain⟨d1,e1,r1⟩:=dP.get' q ex;obtain⟨d2,e2,r2⟩:=j6.get' q ey;rw[e1]at e2;cases e2;exact⟨_,Z,_,Z,x,y,d1,Z,RD.mono dR _ r1,RD.mono dR _ r2,hA d1 (gj e1),λH4 s4=>hq H4 s4⟩
   ·intro H3 s3 d3
    refine⟨D2,_,Z,aK.of d3,?_⟩;rw[Tf];exact k H3 (s1.trans s3)
theorem a8o{ls hs:List Rat}{lo hi:Rat}(l1:lo∈ls)(l2:∀l∈ls,l<=lo)(h1:hi∈hs)(h2:∀h∈hs,hi<=h):(ls.any λl=>hs.any λh=>decide (h<l))=decide (hi<lo):=by rw[oM,sZ,JN];refine⟨λ⟨l,hl,e⟩=>?_,λe=>⟨lo,l1,sZ.mpr ⟨hi,h1,cm e⟩⟩⟩;obtain⟨h,hh,e⟩:=sZ.mp e;have e:=jc e;exact Rat.not_le.mp λhle=>oF.mpr (cy (l2 l hl) (cy hle (h2 h hh))) e
theorem O2{H:Hp}{a:Addr}{z:Int}(h:aU K H a [.int z,.int 1]):bc K H (.ref a) (z:Rat):=by refine⟨a,Z,?_⟩;rw[JS,JU];exact h
theorem SQ{z:Int}(h:z.natAbs<=1000):Bd 2000 (z:Rat):=⟨by rw[JS];exact xB h (fO (by decide:1000<2^10) (qA aB aB)),by rw[JU];exact Nat.one_lt_two_pow aB⟩
def yA(e b:Option Rat)(i:Nat):Option Rat:=if i=0 then e else b
def qj(r f:Int)(i:Nat):Int:=if i=0 then f else r
def oQ(r f:Int)(i:Nat):Int:=if i=0 then r else f
def jG(r f:Int)(e b:Option Rat):Nat->List Rat |0=>[0] |i+1=>jG r f e b i++(yA e b i).toList.map λq=>q+((-(qj r f i):Int):Rat)
def mJ(r f:Int)(bd:Rat)(e b:Option Rat):Nat->List Rat |0=>[bd] |i+1=>mJ r f bd e b i++(yA e b i).toList.map λq=>q+(oQ r f i:Rat)
theorem Nb:bj ["_law_machine_here","_law_bound","_law_ahead","_law_behind","_law_low","_law_high","_law_square","_law_down","_law_up","_law_least_one"] ["_law_machine_here","_law_bound","_law_ahead","_law_behind"] (aX Ff):=bw aQ
theorem a0a(F:FA K mg "_law_fits" Ff)(B:bE mg)(QD:aF P w K mg aA "_law_sum" 2 (nI (·+·) K))(wO:aF P w K mg aA "_law_less" 1 (lH K))(Ca:aF P w K mg aA "_law_min" 2 (kD K)):aF P w K mg aA "_law_fits" 3 (B9 K):=by
 refine F.has Nb (λvs H Q E h=>?_) (λ_ _ _ _ _ _=>sN λ_ _ _ _=>rfl) (λfa aM A outer s H vs Q E hr h=>?_)
 ·obtain⟨m,bv,ev,gv,rs,r,f,j,t,bd,e,b,rfl,_⟩:=h
  rfl
 ·obtain⟨m,bv,ev,gv,rs,r,f,j,t,bd,e,b,rfl,rm,aL,Rb,bb,Re,be,Rg,bg,k⟩:=h
  have nd:=Nb.nd;refine⟨_,(aE (p4 (i:=4) (j:=5) Z nd Z Z aB Z Z (au (df (au aD (au aD az))) (au (pv 1) az)) Z) (aE (gJ fe Z (p8 K Z (dj (au (df (au (pv 2) (au (px K (pv 0) aD) (au (px K (pv 0) aD) az)))) (au (df (au (pv 3) (au (px K (pv 0) aD) (au (px K (pv 0) aD) az)))) az)))) (cW K Z (n:=3) Z (bC (aY 6 nd) (bC (aY 7 nd) (bC (aY 8 nd) cV)))) (aG (bp (bG lM (pv 6) fo (aZ _)) (aE (pS 9 nd (pf QD hr (au (pv 6) (au (df (au (mD md (pv 7)) (au aD az))) az)))) (aE (iM (bp (bU (pf wO hr (au (pv 4) (au (pv 9) az)))) (aG (pS 4 nd (pv 9))) bA)) (aG (pS 5 nd (pf Ca hr (au (dj (au (pv 5) (au (pf QD hr (au (pv 6) (au (df (au (pv 8) (au aD az))) az))) az))) az)))))) bA))) (aG (aR (vU (pf wO hr (au (pv 5) (au (pv 4) az)))))))),?_⟩;obtain⟨ma,mb,rfl,gD,lT⟩:=mH rm;have qV:=aL.r1;have lX:=aL.f1;refine⟨bR Z,λl0 H1 n1=>?_⟩;refine⟨_,Z,_,_,Z,?_⟩;have R0:bc K H1 (.ref l0) 0:=⟨l0,Z,aU.of n1.at'⟩;have b0:Bd 1950 (0:Rat):=⟨aB,aB⟩;refine⟨_,Z,_,Z,.inr ⟨ma,_,2,.int f,Z,Z,gD.go n1.same,Z,_,Z,.inr ⟨ma,_,1,.int r,Z,Z,gD.go n1.same,Z,?_⟩⟩⟩;refine⟨bR Z,λt0 H2 n2=>?_⟩;have s2:=n1.same.trans n2.same;refine⟨_,Z,_,Z,.inr ⟨ma,_,1,.int r,Z,Z,gD.go s2,Z,_,Z,.inr ⟨ma,_,2,.int f,Z,Z,gD.go s2,Z,?_⟩⟩⟩;refine⟨bR Z,λt1 H3 n3=>?_⟩;have s3:=s2.trans n3.same;refine⟨bR Z,λll H4 n4=>?_⟩;have s4:=s3.trans n4.same;have T0:H4 t0=some (.tup [ev,.int f,.int r]):=n4.same _ _ (n3.same _ _ n2.at');have T1:H4 t1=some (.tup [gv,.int r,.int f]):=n4.same _ _ n3.at';have dP:∀i x,([.ref t0,.ref t1]:List V)[i]? =some x->i<2/\∃ta sv,x= .ref ta/\H4 ta=some (.tup [sv,.int (qj r f i),.int (oQ r f i)])/\jM K H4 sv (yA e b i)/\vh 1900 (yA e b i):=by
   intro i x ex
   match i,ex with |0,ex=>cases ex;exact⟨aB,t0,ev,rfl,T0,Re.go s4,be⟩ |1,ex=>cases ex;exact⟨aB,t1,gv,rfl,T1,Rg.go s4,bg⟩
  have du:∀i,1<=qj r f i/\qj r f i<=50/\1<=oQ r f i/\oQ r f i<=50:=λi=>by unfold qj oQ;split<;>lia
  refine⟨ll,Z,⟨_,aK.of n4.at'⟩,zu (K:=K) (a:=ll) (xs:=[.ref t0,.ref t1]) (λi O H5=>aH H4 H5/\∃lv hv v6 v7 v8 v9 lo hi,bc K H5 lv lo/\bc K H5 hv hi/\Bd 1950 lo/\Bd 1950 hi/\lo∈jG r f e b i/\(∀l∈jG r f e b i,l<=lo)/\hi∈mJ r f bd e b i/\(∀h∈mJ r f bd e b i,hi<=h)/\O=[some (.ref ma),some bv,some ev,some gv,some lv,some hv,v6,v7,v8,v9]) ?_ (λi O H5 _ h=>aK.of (h.1 _ _ n4.at')) ?_ ?_⟩
  ·refine⟨aH.refl _,.ref l0,bv,none,none,none,none,0,bd,R0.go (n2.same.trans (n3.same.trans n4.same)),Rb.go s4,b0,bb.mono aB,by simp[jG],λl hl=>?_,by simp[mJ],λh hh=>?_,Z⟩
   ·have:l=0:=by simpa[jG]using hl
    rw[this];exact iI
   ·have:h=bd:=by simpa[mJ]using hh
    rw[this];exact iI
  ·rintro i x O H5 ex ⟨s5,lv,hv,v6,v7,v8,v9,lo,hi,Rl,Rh,bl,bh,m1,m2,m3,m4,rfl⟩
   obtain⟨ze,ta,sv,rfl,hT,oV,oB⟩:=dP i x ex;obtain⟨d1,d2,u1,u2⟩:=du i;refine⟨ta,_,Z,aU.of (s5 _ _ hT),Z,_,_,Z,_,_,Z,_,_,Z,Z,?_⟩;refine⟨_,Z,Z,_,Z,?_⟩;cases ho:yA e b i with
   |none=>
    rw[ho]at oV;have ev0:sv= .bN:=oV;subst ev0;refine aW ⟨s5,lv,hv,_,_,_,_,lo,hi,Rl,Rh,bl,bh,?_,λl hl=>m2 l ?_,?_,λh hh=>m4 h ?_,Z⟩
    ·simpa[jG,ho]using m1
    ·simpa[jG,ho]using hl
    ·simpa[mJ,ho]using m3
    ·simpa[mJ,ho]using hh |some q=>
    rw[ho]at oV oB;have oV:bc K H4 sv q:=oV;have oB:Bd 1900 q:=oB;obtain⟨sa,e0,_⟩:=id oV;subst e0;refine bK ?_;refine⟨_,Z,_,Z,_,Z,bR Z,λp1 H6 n6=>?_⟩;have Bh:=s5.trans n6.same;refine⟨.ref sa,.ref p1,q,_,Z,oV.go Bh,O2 (aU.of n6.at'),oB.mono aB,SQ aw,λv1 H7 R7 s7=>?_⟩;have Sx:Bd 1950 (q+((-(qj r f i):Int):Rat)):=(qo oB (by rw[nL];lia)).mono aB;have mq:=n6.same.trans s7;refine⟨λO H8=>aH H7 H8/\∃yN uf,bc K H8 yN uf/\Bd 1950 uf/\uf∈jG r f e b (i+1)/\(∀l∈jG r f e b (i+1),l<=uf)/\O=[some (.ref ma),some bv,some ev,some gv,some yN,some hv,some (.ref sa),some (.int (qj r f i)),some (.int (oQ r f i)),some v1],?_,?_⟩
    ·refine⟨_,Z,_,Z,lv,v1,lo,_,Z,Rl.go mq,R7,bl.mono aB,Sx.mono aB,_,Z,?_⟩
     have mem:∀l,l∈jG r f e b (i+1)↔l∈jG r f e b i\/l=q+((-(qj r f i):Int):Rat):=λl=>by simp[jG,ho]
     by_cases bP:lo<q+((-(qj r f i):Int):Rat)
     ·rw[cm bP]
      refine bK ⟨_,Z,aH.refl _,v1,_,R7,Sx,(mem _).mpr (.inr Z),λl hl=>?_,Z⟩;rcases(mem l).mp hl with h|h
      ·exact cy (m2 l h) (Ad bP)
      ·rw[h];exact iI
     ·rw[dF bP]
      refine aW ⟨aH.refl _,lv,lo,Rl.go mq,bl,(mem _).mpr (.inl m1),λl hl=>?_,Z⟩;rcases(mem l).mp hl with h|h
      ·exact m2 l h
      ·rw[h];exact oF.mp bP
    rintro O H8 ⟨s8,yN,uf,To,SA,GG,Pb,rfl⟩;have WQ:=mq.trans s8;refine⟨_,Z,_,Z,_,Z,bR Z,λp2 H9 n9=>?_⟩;have oU:=WQ.trans n9.same;refine⟨.ref sa,.ref p2,q,_,Z,oV.go (s5.trans oU),O2 (aU.of n9.at'),oB.mono aB,SQ aw,λv2 iu R10 jC=>?_⟩;have Sw:Bd 1950 (q+(oQ r f i:Rat)):=(qo oB (by rw[nL];lia)).mono aB;refine⟨bR Z,λlq ir jm=>?_⟩;have FE:=oU.trans (jC.trans jm.same);have Ra:=Rh.go FE;have Rc:=R10.go jm.same;refine⟨lq,[hv,v2],[hi,q+(oQ r f i:Rat)],Z,aK.of jm.at',⟨Ra,bh.mono aB,Rc,Sw.mono aB,trivial⟩,by simp,λc v q' e1 e2 hq=>?_⟩;have mem:∀l,l∈mJ r f bd e b (i+1)↔l∈mJ r f bd e b i\/l=q+(oQ r f i:Rat):=λl=>by simp[mJ,ho]
    have Qg:∀h∈mJ r f bd e b (i+1),q'<=h:=λh hh=>by
     rcases(mem h).mp hh with h1|h1
     ·exact cy (hq hi (by simp)) (m4 h h1)
     ·rw[h1];exact hq _ (by simp)
    have Nz:=n9.same.trans (jC.trans jm.same)
    match c,e1,e2 with |0,e1,e2=>cases e1;cases e2;exact⟨s5.trans FE,yN,hv,_,_,_,_,uf,hi,To.go Nz,Ra,SA,bh,GG,Pb,(mem _).mpr (.inl m3),Qg,rfl⟩ |1,e1,e2=>cases e1;cases e2;exact⟨s5.trans FE,yN,v2,_,_,_,_,uf,_,To.go Nz,Rc,SA,Sw,GG,Pb,(mem _).mpr (.inr rfl),Qg,rfl⟩
  ·rintro O H5 ⟨s5,lv,hv,v6,v7,v8,v9,lo,hi,Rl,Rh,bl,bh,m1,m2,m3,m4,rfl⟩
   refine⟨_,Z,_,Z,hv,lv,hi,lo,Z,Rh,Rl,bh.mono aB,bl.mono aB,_,Z,?_⟩;have e1:=a8o (ls:=rC r f e b) (hs:=rP r f bd e b) m1 m2 m3 m4;have:=k H5 (s4.trans s5);unfold wA at this;rw[e1]at this;exact this
def qO(zs:List Int):aj:=.tuple (zs.map PyData.int)
def gF(os:List Itm)(i:Nat):List aj:=match os[i]? with |some (some (ns,_))=>(List.range (aI ns)).map λk=>.tuple [.int i,qO (fz ns k)] |_=>[.tuple [.int i,.none]]
def eH(os:List Itm):Nat->List aj |0=>[] |i+1=>eH os i++gF os i
theorem uU{os:List Itm}{i:Nat}{ns:List Int}{sp:Int}(h:os[i]? =some (some (ns,sp))):gF os i=(List.range (aI ns)).map λk=>.tuple [.int i,qO (fz ns k)]:=by unfold gF;rw[h]
theorem uT{os:List Itm}{i:Nat}(h:os[i]? =some none):gF os i=[.tuple [.int i,.none]]:=by unfold gF;rw[h]
theorem WY(zs:List Int):dw (qO zs)=true:=by
 have:bM (zs.map PyData.int)=true:=cu.mpr λd hd=>by obtain⟨i,_,rfl⟩:=fW.mp hd;rfl
 simp[qO,dw,this]
theorem RX(os:List Itm)(i:Nat):bM (gF os i)=true:=by
 unfold gF;split
 ·exact cu.mpr λd hd=>by obtain⟨k,_,rfl⟩:=fW.mp hd;simp[dw,bM,WY]
 ·simp[dw,bM]
theorem RZ(os:List Itm):∀i,bM (eH os i)=true
 |0=>rfl |i+1=>cu.mpr λd hd=>by
  rcases jz.mp hd with h|h
  ·exact cu.mp (RZ os i) d h
  ·exact cu.mp (RX os i) d h
theorem uV{n:Nat}{rate:Int}{ds:List aj}{os:List Itm}(row:cw n ds os):∀i,i<=os.length->(eH os i).length=(dv rate ds os i).length |0,_=>rfl |i+1,h=>by have ll:=row.len;show(eH os i++gF os i).length=(dv rate ds os i++gQ rate ds os i).length;rw[cE,cE,uV row i aw];obtain⟨o,eo⟩:∃o,os[i]? =some o:=⟨_,bu (show i<os.length by lia)⟩;cases o with |none=>obtain⟨d',ed⟩:∃d',ds[i]? =some d':=⟨_,bu (show i<ds.length by lia)⟩;rw[sE eo ed,uT eo];rfl |some q=>obtain⟨ns,sp⟩:=q;rw[oj eo,uU eo,bL,bL]
inductive aa3(K:ag)(vs:List V)(H:Hp)(Q:VK):Prop |mk (iv:_)(n:_)(ds:_)(os:_)(h0:vs=[iv])(h1:RD K H iv (.tuple ds))(h2:cw n ds os)(h3:n<=3)(h4:ds.length<=30)(h5:∀l ys H',H l=none->H' l=some (.lst ys)->aJ K H' ys (eH os os.length)->aH H H'->Q (.ref l) H')
def LU(K:ag):Sp:=λvs H Q _=>aa3 K vs H Q
theorem Ni:bj ["_law_items_here","_law_found","_law_number_here","_law_item"] ["_law_items_here"] (aX Fo):=bw aQ
theorem a0f(F:FA K mg "_law_due_entries" Fo)(B:bE mg)(a4I:aF P w K mg aA "_law_rows" 3 (DA K)):aF P w K mg aA "_law_due_entries" 4 (LU K):=by
 refine F.has Ni (λvs H Q E h=>?_) (λ_ _ _ _ _ _=>eJ λ_=>rfl) (λfa aM A outer s H vs Q E hr h=>?_)
 ·obtain⟨iv,n,ds,os,rfl,_⟩:=h
  rfl
 ·obtain⟨iv,n,ds,os,rfl,ri,row,n3,hz,k⟩:=h
  have nd:=Ni.nd;refine⟨_,(aE (pS 1 nd (dj az)) (aE (gJ fe Z (Bq K Z false Z (B.at "enumerate") (au (pv 0) az)) (cW K rfl (n:=2) rfl (bC (aY 2 nd) (bC (aY 3 nd) cV))) (aG (bp (bG (cI K Z hr.units) (px K (pv 3) aD) fg (aZ _)) (aG (e9 (vX K Z (pv 1) (au (fS (N:=["_law_row","_law_number_here"]) (js:=[none,some 2]) Z Z Z (p8 K Z (pf a4I hr (au (pv 3) az))) (λ_ _ _ _ _=>(aY 0 (fY aB))) (λ_ _ _ _ _=>fm) (λ_ _ _ _ _=>(df (au (pv 1) (au (pv 0) az))))) az)))) (aG (e9 (iP K Z (pv 1) (au (df (au (pv 2) (au fo az))) az))))))) (aG (aR (pv 1))))),?_⟩;have ll:=row.len;have kR:sizeLine=16777216:=by decide
  refine⟨bR Z,λD H2 n2=>?_⟩;have nD:=n2.no;obtain⟨ia,xs,rfl,hi,dP⟩:=ri.cB;have lx:=dP.length;refine⟨_,Z,ia,Z,⟨_,hi.go n2.same⟩,Cg (K:=K) (b:=false) (a:=ia) (xs:=xs) (λi O H3=>aH H H3/\∃zs v1 v2,H3 D=some (.lst zs)/\aJ K H3 zs (eH os i)/\O=[some (.ref ia),some (.ref D),v1,v2]) ⟨n2.same,[],none,none,n2.at',cH,Z⟩ (λi O H3 _ h=>hi.go h.1) ?_ ?_⟩
  ·rintro i y O H3 hy ⟨s3,zs,v1,v2,dz,rz,rfl⟩ T H4 n4
   have C6:i<xs.length:=(cv.mp hy).1;obtain⟨d,ed,rd⟩:=dP.get' i hy;obtain⟨o,eo,it⟩:=row.get ed;have s4:=s3.trans n4.same;have FZ:=RD.mono s4 _ rd;have mX:=n4.same _ _ dz;have Bj:=aJ.mono n4.same _ rz;have tl:=(sG (rate:=100) row i aw).1;have tn:=RZ os i;have lz:=rz.length;rw[uV (rate:=100) row i aw]at lz;obtain⟨a,wd,yw,rfl,h1,ew,sw⟩:=BR FZ it;refine⟨T,_,Z,aU.of n4.at',Z,_,_,Z,_,_,Z,Z,?_⟩;refine⟨_,Z,.inr ⟨a,_,0,.str wd,Z,Z,h1,cL (gI 0) Z,.inr ⟨_,_,cT _,cT _,sw,BL,_,Z,?_⟩⟩⟩;rw[ew];cases o with
   |none=>
    refine aW ?_;refine⟨_,Z,.inl ⟨Z,_,aK.of mX⟩,?_⟩;refine⟨_,Z,bR Z,λt H5 n5=>?_⟩;have RO:=n5.same _ _ mX;refine⟨D,zs,_,Z,Z,RO,aw,?_⟩;refine⟨λb o e=>?_,_,_,_,bQ,?_,Z⟩
    ·rw[aV (dU e nD)];exact n5.same b o (s4 b o e)
    ·show aJ K _ _ (eH os i++gF os i)
     rw[uT eo];exact aJ.xY RO (aJ.mono n5.same _ Bj) (fA (aU.of n5.at') (cf (dN _) (cf FX cH))) tn (by simp[dw,bM]) |some q=>
    obtain⟨ns,sp⟩:=q;refine bK ?_;have j8:=jH it;subst j8;obtain⟨cn,dZ,eR⟩:=row.ok i ns sp eo;have BP:=pF cn;refine⟨_,Z,.inl ⟨Z,_,aK.of mX⟩,?_⟩;refine⟨_,Z,_,ns,sp,Z,FZ,⟨Z,cn.bd,cn.nz⟩,by rw[cn.len];lia,λl3 y3 H6 ON sI yd s6=>?_⟩;have yM:=yd.length;rw[iL,bL,kY]at yM;refine⟨l3,Z,⟨_,aK.of sI⟩,λD2 H7 n7=>?_⟩;have nE:=RX os i;have lE:(gF os i).length=aI ns:=by rw[uU eo,bL,kY]
    refine Sj (K:=K) (ds:=gF os i) _ (aK.of sI) n7 (by rw[lE,yM]) aw nE ?_ ?_
    ·intro q x dd H8 Q' ex zE s8 hq
     have yX:q<aI ns:=by have:=(cv.mp ex).1;lia
     obtain⟨d3,e3,r3⟩:=yd.get' q ex;rw[iL,bX,oJ yX]at e3;cases e3;rw[uU eo,bX,oJ yX]at zE;cases zE;refine⟨_,Z,_,Z,bR Z,λt H9 n9=>?_⟩;exact hq _ _ n9.same (fA (aU.of n9.at') (cf (dN _) (cf (RD.mono (s8.trans n9.same) _ r3) cH)))
    ·intro H8 z8 s8 d8 r8
     have mx:=s6.trans s8;have zH:=mx _ _ mX;have l8:=r8.length;refine⟨D,D2,zs,z8,Z,Z,zH,d8,aw,?_⟩;have tu:dX H8 (L2.upd H8 D (.lst (zs++z8))):=.gY zH;refine⟨λb o e=>?_,_,_,_,bQ,?_,Z⟩
     ·rw[aV (dU e nD)];exact mx b o (s4 b o e)
     ·exact(aJ.t tu _ tn (aJ.mono mx _ Bj)).append (aJ.t tu _ nE r8)
  ·rintro O H3 ⟨s3,zs,v1,v2,dz,rz,rfl⟩
   rw[lx,ll]at rz;exact⟨_,Z,k D zs H3 nD dz rz s3⟩
inductive a9U(K:ag)(vs:List V)(H:Hp)(Q:VK):Prop |mk (v:_)(r:_)(h0:vs=[v])(h1:bc K H v r)(h2:Bd 2000 r)(h3:∀H',aH H H'->Q (.bl true) H')
def LO(K:ag):Sp:=λvs H Q _=>a9U K vs H Q
theorem N6:bj ["_law_thing"] ["_law_thing"] (aX F7):=bw aQ
theorem a06(F:FA K mg "_law_is_fraction" F7)(B:bE mg)(rZ:aF P w K mg aA "_law_number" 1 (lJ K))(uD:aF P w K mg aA "_law_frac" 1 (vF K)):aF P w K mg aA "_law_is_fraction" 2 (LO K):=by
 refine F.has N6 (λvs H Q E h=>?_) (λ_ _ _ _ _ _=>eJ λ_=>rfl) (λfa aM A outer s H vs Q E hr h=>?_)
 ·obtain⟨v,r,rfl,_⟩:=h
  rfl
 ·obtain⟨v,r,rfl,Rr,br,k⟩:=h
  have nd:=N6.nd;refine⟨_,(aE (bp (PW.pt (fQ (cU (bU (cP K B (au (pv 0) (au (cJ (x:="tuple") (v:=.ty "tuple") Z (B.at "tuple") fh rfl) az))))) (fQ (bG (gO K rfl hr.units) (dk K B (au (pv 0) az)) aD (aZ _)) (iY (cU (bU (eD (x:="all") (qm K rfl rfl) rfl (B.at "all") sX (au (fS (N:=["_law_one"]) (js:=[none]) rfl rfl rfl (mC K rfl (pv 0)) (λ_ _ _ _ _=>(aY 0 (rj _))) (λ_ _ _ _ _=>fm) (λ_ _ _ _ _=>(pf rZ hr (au (pv 0) az)))) az)))))))) (aG (aR iO)) bA) (aG (aR (fX (eB mE (px K (pv 0) aD) aD (aZ _)) (gz (eB (cI K Z hr.units) (pf uD hr (au (px K (pv 0) aD) (au (px K (pv 0) aD) az))) (pv 0) (aZ _))))))),?_⟩;obtain⟨a,rfl,h1⟩:=id Rr;have hd:=r.den_pos;refine⟨_,Z,.inl ⟨_,_,"tuple",true,Z,Rr.rd.ty,aB,nA,_,Z,aW ?_⟩⟩;refine⟨_,Z,a,_,Z,.inr h1,.inl ⟨_,_,Z,Z,_,Z,aW ?_⟩⟩;refine⟨_,Z,a,Z,⟨_,h1⟩,λD H2 n2=>?_⟩;refine Cz (xs:=[.int r.num,.int r.den]) (bs:=[true,true]) [] h1 n2 Z (by simp) ?_ ?_
  ·intro i x y H3 Q' ex ey s3 hq
   obtain⟨z,rfl⟩:∃z,x= .int z:=by match i,ex with |0,ex=>cases ex;exact⟨_,rfl⟩ |1,ex=>cases ex;exact⟨_,rfl⟩
   have Iq:y=true:=by match i,ey with |0,ey=>cases ey;rfl |1,ey=>cases ey;rfl
   subst Iq;refine⟨_,Z,_,_,Z,(dN (K:=K) (H:=H3) z).ty,?_⟩;rw[show jI (jS (.int z))=true from(by decide:jI "int"=true)];exact hq _ (aH.refl _)
  intro H3 s3 d3;refine⟨D,_,Z,aK.of d3,_,Z,aW ?_⟩;refine⟨_,Z,.inr ⟨a,_,1,_,Z,Z,h1.go s3,Z,_,_,Z,Z,_,Z,?_⟩⟩;rw[cm (show(0:Int)<(r.den:Int) by lia)];refine bK ?_;refine⟨_,Z,.inr ⟨a,_,0,_,Z,Z,h1.go s3,Z,?_⟩⟩;refine⟨_,Z,.inr ⟨a,_,1,_,Z,Z,h1.go s3,Z,?_⟩⟩;refine⟨_,_,Z,aw,br.wd,λv H4 R4 s4=>?_⟩;rw[sT]at R4;refine⟨_,Z,.inr ⟨_,_,R4.rd,(Rr.go (s3.trans s4)).rd,O3 _,O3 _,?_⟩⟩;rw[Rj rfl];exact k H4 (s3.trans s4)
abbrev A1:aj->Prop:=Nx λ_=>False
abbrev A3:aj->Prop:=Nx (Nx A1)
theorem BN{z:Str}(h:SeqAt.shaped (.str z)=true):TF (.str z):=.inr ⟨z,Z,h,by simp[PyData.eqv]⟩
theorem YB{d:aj}(h:kr d):A3 d:=by
 rcases h with⟨n,rfl,_,_⟩|⟨wd,z,rfl,hw,ok,_⟩
 ·refine .inr ⟨_,.inl Z,by simp,λx hx=>.inl ?_⟩
  simp only[dh,fV,jb]at hx;rcases hx with rfl|rfl
  ·exact BN aQ
  ·exact .inl ⟨_,Z⟩
 ·refine .inr ⟨_,.inl Z,by simp,λx hx=>.inl ?_⟩
  simp only[dh,fV,jb]at hx;rcases hx with rfl|rfl
  ·rcases hw with rfl|rfl<;>exact BN aQ
  ·exact BN (ok.shaped aB)
theorem WX{zs:List Int}(h:zs.length<=1000):A3 (.tuple [.str "step",qO zs]):=by
 refine .inr ⟨_,.inl Z,by simp,λx hx=>?_⟩;simp only[dh,fV,jb]at hx;rcases hx with rfl|rfl
 ·exact .inl (BN aQ)
 ·refine .inr ⟨_,.inl Z,by rw[bL];lia,λx hx=>.inl ?_⟩
  obtain⟨i,_,rfl⟩:=fW.mp hx;exact .inl ⟨_,Z⟩
inductive aa1(K:ag)(vs:List V)(H:Hp)(Q:VK):Prop |mk (m:_)(iv:_)(rv:_)(rate:_)(ev:_)(rs:_)(r:_)(f:_)(j:_)(ti:_)(h0:vs=[m,iv,rv,.int rate,ev])(h1:RD K H m (fE rs r f j ti))(h2:iT rs r f j ti)(h3:((rv= .bN/\∃d,RD K H iv d/\RD K H ev d/\kr d/\∀H',aH H H'->Q (.int 0) H')\/ ∃ns sp zs q,RD K H iv (hW ns sp)/\1<=sp/\sp<=20/\10<=rate/\rate<=200/\RD K H rv (qO zs)/\RD K H ev (mh ti zs q)/\zs.length<=1000/\Bd 2000 q/\0<q/\∀H',aH H H'->Q (.int (if topR rate sp<q then 3 else 0)) H'))
def LS(K:ag):Sp:=λvs H Q _=>aa1 K vs H Q
theorem Nh:bj ["_law_machine_here","_law_item","_law_row","_law_rate","_law_entry","_law_t","_law_square"] ["_law_machine_here","_law_item","_law_row","_law_rate","_law_entry"] (aX Fm):=bw aQ
theorem a0e(F:FA K mg "_law_entry_fault" Fm)(B:bE mg)(uE:aF P w K mg aA "_law_alike" 4 (xX A3 K))(rZ:aF P w K mg aA "_law_number" 1 (lJ K))(a4Q:aF P w K mg aA "_law_is_fraction" 2 (LO K))(a4F:aF P w K mg aA "_law_ticks" 1 (Lp K))(wO:aF P w K mg aA "_law_less" 1 (lH K))(wN:aF P w K mg aA "_law_top" 2 (xU K)):aF P w K mg aA "_law_entry_fault" 5 (LS K):=by
 refine F.has Nh (λvs H Q E h=>?_) (λ_ _ _ _ _ _=>Jt λ_ _ _ _ _=>rfl) (λfa aM A outer s H vs Q E hr h=>?_)
 ·obtain⟨m,iv,rv,rate,ev,rs,r,f,j,ti,rfl,_⟩:=h
  rfl
 ·obtain⟨m,iv,rv,rate,ev,rs,r,f,j,ti,rfl,rm,aL,hc⟩:=h
  have nd:=Nh.nd;refine⟨_,(aE (bp (bG YG (pv 2) fo (aZ _)) (aG (aR (gL (x:="int") zQ Z (B.at "int") xA (au (vU (pf uE hr (au (pv 4) (au (pv 1) az)))) az)))) bA) (aE (bp (PW.pt (fQ (cU (bU (cP K B (au (pv 4) (au (cJ (x:="tuple") (v:=.ty "tuple") Z (B.at "tuple") fh rfl) az))))) (fQ (bG (gO K rfl hr.units) (dk K B (au (pv 4) az)) aD (aZ _)) (iY (cU (bU (pf uE hr (au (vT (vG K rfl) (pv 4) vS (vR aD)) (au (df (au fg (au (pv 2) az))) az))))))))) (aG (aR aD)) bA) (aE (eU (vT (vG K Z) (pv 4) (vR aD) vS) (cW K Z (n:=2) Z (bC (aY 5 nd) (bC (aY 6 nd) cV)))) (aE (bp (PW.pt (fQ (cU (bU (pf rZ hr (au (pv 5) az)))) (fQ (cU (bU (pf a4Q hr (au (pv 6) az)))) (fQ (bG jj (px K (pv 6) aD) aD (aZ _)) (iY (bG (gO K Z hr.units) (pv 5) (pf a4F hr (au (pv 0) (au (pv 6) az))) (aZ _))))))) (aG (aR aD)) bA) (aG (aR (aO bO aD (gL (x:="int") zQ Z (B.at "int") xA (au (pf wO hr (au (pf wN hr (au (pv 1) (au (pv 3) az))) (au (pv 6) az))) az))))))))),?_⟩;rcases hc with⟨rfl,d,ri,re,eV,k⟩|⟨ns,sp,zs,q,ri,dZ,eR,bS,bT,rr,re,lz,bq,q0,k⟩
  ·refine⟨_,Z,Z,_,Z,bK ?_⟩
   refine⟨_,Z,_,Z,ev,iv,d,Z,re,ri,YB eV,λH1 s1=>?_⟩;exact⟨_,Z,.inr ⟨_,Z,k H1 s1⟩⟩
  ·obtain⟨a,b,c,rfl,h1,h2,h3⟩:=xS re
   obtain⟨ra,WT,rfl,yW,_⟩:=id rr.cB;obtain⟨t1,t2,t3,t4⟩:=Kz (ti:=ti) aL.t1.1 aL.t1.2 q0 bq;refine⟨_,Z,Z,_,Z,aW ?_⟩;refine⟨_,Z,.inl ⟨_,_,"tuple",true,Z,re.ty,aB,nA,_,Z,aW ?_⟩⟩;refine⟨_,Z,a,_,Z,.inr h1,.inl ⟨_,_,Z,Z,_,Z,aW ?_⟩⟩;refine⟨_,Z,_,Z,a,_,Z,.inr ⟨h1,(by show¬(HT.bZ 4 0 none=0/\HT.bZ 4 4 (some 2)=4);decide),λp H1 n1=>?_⟩⟩;have n1:Nw H H1 p (.tup [.str "step",.ref b]):=n1;refine⟨_,Z,bR Z,λp2 H2 n2=>?_⟩;have s2:=n1.same.trans n2.same;refine⟨.ref p,.ref p2,.tuple [.str "step",qO zs],Z,fA (aU.of (n2.same _ _ n1.at')) (cf (cT _) (cf (fA (h2.go s2) (qS zs)) cH)),fA (aU.of n2.at') (cf (cT _) (cf (RD.mono s2 _ rr) cH)),WX lz,λH3 s3=>⟨_,Z,aW ?_⟩⟩;have vM:=s2.trans s3;refine⟨_,Z,_,Z,a,_,Z,.inr ⟨h1.go vM,(by show¬(HT.bZ 4 0 (some 2)=0/\HT.bZ 4 4 none=4);decide),λp3 H4 n4=>?_⟩⟩;have n4:Nw H3 H4 p3 (.tup [.int (lC ti q),c]):=n4;have gy:=vM.trans n4.same;refine⟨p3,_,Z,aU.of n4.at',Z,_,_,Z,_,_,Z,Z,?_⟩;refine⟨_,Z,_,_,Z,(dN (K:=K) (H:=H4) (lC ti q)).ty,_,Z,?_⟩;rw[show jI (jS (.int (lC ti q)))=true from(by decide:jI "int"=true)];refine aW ?_;have QF:=h3.go gy;refine⟨_,Z,c,q,Z,QF,bq,λH5 s5=>⟨_,Z,aW ?_⟩⟩;obtain⟨ca,rfl,hc⟩:=id (QF.go s5);refine⟨_,Z,.inr ⟨ca,_,0,_,Z,Z,hc,Z,_,_,Z,Z,_,Z,?_⟩⟩;have qn:=Gq q0;rw[dF (show¬q.num<1 by lia)];refine aW ?_;have lK:=gy.trans s5;refine⟨_,Z,_,Z,_,Z,m,.ref ca,rs,r,f,j,ti,q,Z,RD.mono lK _ rm,⟨ca,Z,hc⟩,bq,aL.t1.1,aL.t1.2,qn,λT T1 T2 T3 T4 H6 s6=>?_⟩;have eT:=Dq (Dj qn) ⟨T1,T3,T4⟩;refine .inl ⟨_,_,Z,Z,_,Z,?_⟩;rw[cm eT];refine aW ?_;have jU:=lK.trans s6;refine⟨_,Z,_,Z,iv,ns,sp,rate,Z,RD.mono jU _ ri,dZ,eR,bS,bT,λtv H7 R7 s7=>?_⟩;refine⟨_,Z,tv,.ref ca,topR rate sp,q,Z,R7,bc.go ⟨ca,Z,hc⟩ (s6.trans s7),(Ow.oS dZ eR bS bT).mono aB,bq,.inr ⟨_,Z,?_⟩⟩;refine⟨_,_,Z,Z,.of_left (cC aB aB),?_⟩;have k:=k H7 (jU.trans s7);by_cases bP:topR rate sp<q
   ·rw[bo bP]at k
    rw[cm bP];exact k
   ·rw[bB bP]at k
    rw[dF bP];exact k
theorem RY{n:Nat}{ds:List aj}{os:List Itm}(row:cw n ds os){i:Nat}(hi:i<os.length):1<=(gF os i).length:=by obtain⟨o,eo⟩:∃o,os[i]? =some o:=⟨_,bu hi⟩;cases o with |none=>rw[uT eo];exact bf _ |some q=>obtain⟨ns,sp⟩:=q;obtain⟨cn,_,_⟩:=row.ok i ns sp eo;have:=cn.lead;rw[uU eo,bL,kY];lia
theorem IX(os:List Itm){i k:Nat}(h:i<=k):(eH os i).length<=(eH os k).length:=by induction h with |refl=>exact bf _ |step _ ih=>refine gU ih ?_;show _<=(eH os _++gF os _).length;rw[cE];lia
theorem RQ{n0:Nat}{j rate:Int}{ds:List aj}{os:List Itm}(row:cw n0 ds os):∀n,n<=os.length->∀k,k<(eH os n).length->∃i c,i<n/\k=(eH os i).length+c/\c<(gF os i).length/\(eH os n)[k]? =(gF os i)[c]? /\(dv rate ds os n)[k]? =(gQ rate ds os i)[c]? /\(ip j rate os n)[k]? =(iG j rate os i)[c]?
 |0,_,k,h=>by simp[eH]at h |n+1,hn,k,h=>by
  have l1:=uV (rate:=rate) row n aw;have l2:=m6 (j:=j) (rate:=rate) row n aw;by_cases hk:k<(eH os n).length
  ·obtain⟨i,c,a1,a2,a3,a4,a5,a6⟩:=RQ (j:=j) (rate:=rate) row n aw k hk
   refine⟨i,c,aw,a2,a3,?_,?_,?_⟩
   ·rw[<-a4];exact kZ hk
   ·rw[<-a5];exact kZ aw
   ·rw[<-a6];exact kZ aw
  ·have h':k<(eH os n++gF os n).length:=h
   rw[cE]at h';refine⟨n,k-(eH os n).length,aw,aw,aw,?_,?_,?_⟩
   ·exact m9 aw
   ·rw[l1];exact m9 aw
   ·rw[l1,<-l2];exact m9 aw
structure At(j rate:Int)(ds:List aj)(os:List Itm)(k i c:Nat):Prop where
 hi:i<os.length
 ek:k=(eH os i).length+c
 hc:c<(gF os i).length
 dl:(eH os os.length)[k]? =(gF os i)[c]?
 du:(dv rate ds os os.length)[k]? =(gQ rate ds os i)[c]?
 bd:(gG j rate os)[k]? =(iG j rate os i)[c]?
theorem Jl{n0:Nat}{j rate:Int}{ds:List aj}{os:List Itm}(row:cw n0 ds os){k:Nat}(h:k<(eH os os.length).length):∃i c,At j rate ds os k i c:=by obtain⟨i,c,a1,a2,a3,a4,a5,a6⟩:=RQ (j:=j) (rate:=rate) row _ (bf _) k h;refine⟨i,c,a1,a2,a3,a4,a5,?_⟩;rw[<-a6];refine kZ ?_;rw[m6 (ds:=ds) row _ (bf _),<-uV row _ (bf _)];exact h
theorem At.num{j rate:Int}{ds:List aj}{os:List Itm}{k i c:Nat}(h:At j rate ds os k i c):∃rd,(eH os os.length)[k]? =some (.tuple [.int i,rd]):=by obtain⟨o,eo⟩:∃o,os[i]? =some o:=⟨_,bu h.hi⟩;have hc:=h.hc;rw[h.dl];cases o with
 |none=>
  rw[uT eo]at hc⊢;have:c=0:=by simpa using hc
  subst this;exact⟨_,Z⟩ |some q=>obtain⟨ns,sp⟩:=q;rw[uU eo]at hc⊢;rw[bL,kY]at hc;rw[bX,oJ hc];exact⟨_,Z⟩
theorem At.prev{n0:Nat}{j rate:Int}{ds:List aj}{os:List Itm}(row:cw n0 ds os){k i c i' c':Nat}(h:At j rate ds os (k+1) i c)(g:At j rate ds os k i' c'):(i'=i/\0<c)\/(i'+1=i/\c=0):=by
 have e1:=h.ek;have e2:=g.ek;have b1:=h.hc;have b2:=g.hc;have step:∀x,(eH os (x+1)).length=(eH os x).length+(gF os x).length:=λx=>by show(eH os x++gF os x).length=_;rw[cE]
 rcases Nat.lt_trichotomy i' i with bP|heq|Qm
 ·by_cases hs:i'+1=i
  ·subst hs
   rw[step]at e1;exact .inr ⟨Z,aw⟩
  ·have m1:=IX os (show i'+2<=i by lia)
   have s1:=step i';have s2:=step (i'+1);have ne:=RY row (show i'+1<os.length by have:=h.hi;lia);rw[show i'+2=i'+1+1 from Z,s2,s1]at m1
   lia
 ·subst heq
  exact .inl ⟨Z,aw⟩
 ·have m1:=IX os (show i+1<=i' by lia)
  rw[step]at m1
  lia
theorem Gh(j rate:Int)(os:List Itm):ownF j rate os os.length=0:=by cases h:os.length with |zero=>rfl |succ n=>show betR j rate (atO os n) (atO os (n+1))=0;rw[Ow.Jm (i:=n+1) aw,Ow.xc]
theorem Yw{j rate:Int}{os:List Itm}{i:Nat}(h:os[i]? =some none):ownF j rate os (i+1)=0:=by show betR j rate (atO os i) (atO os (i+1))=0;rw[Ow.ng h];rfl
theorem zT{j rate:Int}{os:List Itm}{i:Nat}(hi:i<os.length):(iG j rate os i)[0]? =some (ownF j rate os i):=by obtain⟨o,eo⟩:∃o,os[i]? =some o:=⟨_,bu hi⟩;cases o with |none=>rw[zS eo];rfl |some q=>obtain⟨ns,sp⟩:=q;rw[vc eo];rfl
theorem SK{j rate:Int}{os:List Itm}{i c:Nat}{ns:List Int}{sp:Int}(eo:os[i]? =some (some (ns,sp)))(h0:0<c)(hc:c<aI ns):(iG j rate os i)[c]? =some (topR rate sp):=by rw[vc eo];obtain⟨c',rfl⟩:∃c',c=c'+1:=⟨c-1,aw⟩;rw[List.getElem?_cons_succ,Ka,bo aw]
theorem a7l{d:aj}{zs:List Int}{top:Rat}(h:kr d):d≠lZ zs top:=λe=>by rcases h with⟨n,rfl,_,_⟩|⟨wd,z,rfl,_⟩<;>simp[lZ]at e
theorem a2w{d:aj}{zs:List Int}{top:Rat}(h:itR d none):d≠lZ zs top:=λe=>by
 rcases h with⟨ns,sp,_,h⟩|⟨wd,x,rfl,_,_,_⟩
 ·cases h
 ·simp[lZ]at e
theorem nj.kind{n0:Nat}{r f j ti rate:Int}{ds:List aj}{os:List Itm}{es:List aj}{sq:Nat->Option Rat}(tp:nj r f j ti rate ds os es sq)(row:cw n0 ds os){k i c:Nat}(a:At j rate ds os k i c){e:aj}(ee:es[k]? =some e): (os[i]? =some none/\c=0/\(eH os os.length)[k]? =some (.tuple [.int i,.none])/\sq k=none/\ds[i]? =some e/\kr e)\/ ∃ns sp q,os[i]? =some (some (ns,sp))/\c<aI ns/\(eH os os.length)[k]? =some (.tuple [.int i,qO (fz ns c)])/\sq k=some q/\e=mh ti (fz ns c) q/\q<=topR rate sp/\0<q/\Bd 1900 q:=by have ll:=row.len;obtain⟨o,eo⟩:∃o,os[i]? =some o:=⟨_,bu a.hi⟩;have hc:=a.hc;cases o with
 |none=>
  obtain⟨d',ed⟩:∃d',ds[i]? =some d':=⟨_,bu (show i<ds.length by have:=a.hi;lia)⟩;rw[uT eo]at hc;have h0:c=0:=by simpa using hc
  subst h0;have e1:=a.dl;rw[uT eo]at e1;have e2:=a.du;rw[sE eo ed]at e2;have en:=tp.ent k e d' ee e2;cases hs:sq k with |none=>rw[hs]at en;obtain⟨rfl,eV⟩:=en;exact .inl ⟨eo,Z,e1,Z,ed,eV⟩ |some q=>rw[hs]at en;obtain⟨zs,top,h,_⟩:=en;exact(a2w (row.it i d' none ed eo) h).elim
 |some p=>obtain⟨ns,sp⟩:=p;rw[uU eo,bL,kY]at hc;have e1:=a.dl;rw[uU eo,bX,oJ hc]at e1;have e2:=a.du;rw[oj eo,bX,oJ hc]at e2;have en:=tp.ent k e _ ee e2;cases hs:sq k with |none=>rw[hs]at en;obtain⟨rfl,eV⟩:=en;exact(a7l eV rfl).elim |some q=>
  rw[hs]at en;obtain⟨zs,top,h,rfl,qt,q0,bq,_,_⟩:=en;have hz:zs=fz ns c/\top=topR rate sp:=by
   simp only[lZ,PyData.tuple.injEq,List.cons.injEq,true_and,and_true,cD]at h;obtain⟨h1,h2,h3⟩:=h;refine⟨?_,?_⟩
   ·exact(List.map_inj_right (f:=PyData.int) (λx y e=>by injection e)).mp h1.symm
   ·refine Rat.ext ?_ ?_
    ·injection h2 with h2;exact h2.symm
    ·injection h3 with h3;lia
  obtain⟨rfl,rfl⟩:=hz;exact .inr ⟨ns,sp,q,eo,hc,e1,Z,Z,qt,q0,bq⟩
theorem nj.Sz{n0:Nat}{r f j ti rate:Int}{ds:List aj}{os:List Itm}{es:List aj}{sq:Nat->Option Rat}(tp:nj r f j ti rate ds os es sq)(row:cw n0 ds os){k i c:Nat}(a:At j rate ds os k i c)(hk:k<es.length)(h:jh sq k=none):(gG j rate os)[k]? =some 0:=by have te:=tp.len;have RW:=uV (rate:=rate) row _ (bf os.length);rw[a.bd];cases k with
 |zero=>
  have e:=a.ek;have c0:c=0:=by lia
  have i0:i=0:=by
   by_cases hi:i=0
   ·exact hi
   ·have m:=IX os (show 1<=i by lia)
    have:=RY row (show 0<os.length by have:=a.hi;lia);have:(eH os 1).length=(gF os 0).length:=by show([]++gF os 0).length=_;rfl
    lia
  subst c0 i0;exact zT a.hi |succ k=>
  have h:sq k=none:=h;obtain⟨i',c',a'⟩:=Jl (j:=j) (rate:=rate) row (show k<(eH os os.length).length by lia);obtain⟨e,ee⟩:∃e,es[k]? =some e:=⟨_,bu aw⟩;rcases tp.kind row a' ee with⟨eo,c0,_⟩|⟨ns,sp,q,_,_,_,hq,_⟩
  ·rcases a.prev row a' with⟨rfl,hc⟩|⟨rfl,rfl⟩
   ·have:=a.hc
    rw[uT eo]at this;simp at this;lia
   ·rw[zT a.hi,Yw eo]
  ·rw[h]at hq;cases hq
theorem nj.Sy{n0:Nat}{r f j ti rate:Int}{ds:List aj}{os:List Itm}{es:List aj}{sq:Nat->Option Rat}(tp:nj r f j ti rate ds os es sq)(row:cw n0 ds os){k i c:Nat}(a:At j rate ds os (k+1) i c)(hk:k+1<es.length):∃i' rd,(eH os os.length)[k]? =some (.tuple [.int (i':Nat),rd])/\(i'=i->∃ns sp,os[i]? =some (some (ns,sp))/\(gG j rate os)[k+1]? =some (topR rate sp))/\(i'≠i->(gG j rate os)[k+1]? =some (ownF j rate os i)):=by
 have te:=tp.len;have RW:=uV (rate:=rate) row _ (bf os.length);obtain⟨i',c',a'⟩:=Jl (j:=j) (rate:=rate) row (show k<(eH os os.length).length by lia);obtain⟨rd,e1⟩:=a'.num;refine⟨i',rd,e1,λh=>?_,λh=>?_⟩
 ·rcases a.prev row a' with⟨_,hc⟩|⟨h2,_⟩
  ·obtain⟨e,ee⟩:∃e,es[k+1]? =some e:=⟨_,bu hk⟩
   rcases tp.kind row a ee with⟨_,c0,_⟩|⟨ns,sp,q,eo,hl,_⟩
   ·lia
   ·exact⟨ns,sp,eo,by rw[a.bd];exact SK eo hc hl⟩
  ·lia
 ·rcases a.prev row a' with⟨h2,_⟩|⟨_,rfl⟩
  ·exact(h h2).elim
  ·rw[a.bd];exact zT a.hi
theorem MX:bj ["_law_machine_here","_law_items_here","_law_rate","_law_tape","_law_due","_law_bounds_here","_law_ahead","_law_at","_law_behind","_law_bound","_law_number_here","_law_row","_law_why"] ["_law_machine_here","_law_items_here","_law_rate","_law_tape"] (aX EU):=bw aQ
theorem ZP(F:FA K mg "_law_look" EU)(B:bE mg)(a4U:aF P w K mg aA "_law_due_entries" 4 (LU K))(a4V:aF P w K mg aA "_law_bounds" 3 (LW K))(a4T:aF P w K mg aA "_law_entry_fault" 5 (LS K))(wN:aF P w K mg aA "_law_top" 2 (xU K))(a4S:aF P w K mg aA "_law_fits" 3 (B9 K)):aF P w K mg aA "_law_look" 6 (vE K):=by
 refine F.has MX (λvs H Q E h=>?_) (λ_ _ _ _ _ _=>sN λ_ _ _ _=>rfl) (λfa aM A outer s H vs Q E hr h=>?_)
 ·obtain⟨m,iv,rate,tv,rs,r,f,j,t,ds,os,es,sq,rfl,_⟩:=h
  rfl
 ·obtain⟨m,iv,rate,tv,rs,r,f,j,t,ds,os,es,sq,rfl,rm,aL,ri,row,hz,bS,bT,rt,tp,k⟩:=h
  have nd:=MX.nd;refine⟨_,(aE (bp (cU (bU (cP K B (au (pv 3) (au (cJ (x:="list") (v:=.ty "list") Z (B.at "list") iV rfl) az))))) (aG (aR (df (au aD (au aD az))))) bA) (aE (pS 4 nd (pf a4U hr (au (pv 1) az))) (aE (pS 5 nd (pf a4V hr (au (pv 0) (au (pv 1) (au (pv 2) az))))) (aE (pS 6 nd fo) (aE (gJ fe Z (p7 Z (B.at "range") (au (aO cQ (dk K B (au (pv 3) az)) aD) az)) (aY 7 nd) (aE (eU (df (au fo (au (df (au aD (au aD az))) az))) (cW K Z (n:=2) Z (bC (aY 8 nd) (bC (aY 9 nd) cV)))) (aE (iM (bp (bG (cI K Z hr.units) (pv 7) (dk K B (au (pv 3) az)) (aZ _)) (aG (bp (bG jj (pv 7) (dk K B (au (pv 4) az)) (aZ _)) (aG (aR (df (au (pv 7) (au aD az))))) bA)) (aE (bp (bG Bx (pv 7) (dk K B (au (pv 4) az)) (aZ _)) (aG (aR (df (au (pv 7) (au aD az))))) bA) (aE (eU (px K (pv 4) (pv 7)) (cW K Z (n:=2) Z (bC (aY 10 nd) (bC (aY 11 nd) cV)))) (aE (pS 12 nd (pf a4T hr (au (pv 0) (au (px K (pv 1) (pv 10)) (au (pv 11) (au (pv 2) (au (px K (pv 3) (pv 7)) az))))))) (aE (bp (bG mE (pv 12) aD (aZ _)) (aG (aR (df (au (pv 7) (au (pv 12) az))))) bA) (aE (iM (bp (bG lM (pv 11) fo (aZ _)) (aG (pS 8 nd (px K (px K (pv 3) (pv 7)) aD))) bA)) (aG (bp (bG lM (pv 6) fo (aZ _)) (aE (pS 9 nd (px K (pv 5) (pv 10))) (aG (bp (bG (cI K Z hr.units) (px K (px K (pv 4) (aO gM (pv 7) aD)) aD) (pv 10) (aZ _)) (aG (pS 9 nd (pf wN hr (au (px K (pv 1) (pv 10)) (au (pv 2) az))))) bA))) bA))))))))) (aE (bp (cU (bU (pf a4S hr (au (pv 0) (au (pv 9) (au (pv 6) (au (pv 8) az))))))) (aG (aR (df (au (pv 7) (au aD az))))) bA) (aG (pS 6 nd (pv 8))))))) (aG (aR fo))))))),?_⟩;have ll:=row.len;have lr:=aL.len;have Jf:=SN aL row bS bT;refine⟨_,Z,.inl ⟨_,_,"list",true,Z,rt.ty,aB,(by decide:gq "list" "list"=true),_,Z,aW ?_⟩⟩;refine⟨_,Z,iv,rs.length,ds,os,Z,ri,row,aw,hz,λlD yD H1 nD dD rD s1=>?_⟩;refine⟨_,Z,_,Z,_,Z,m,iv,rate,rs,r,f,j,t,ds,os,Z,RD.mono s1 _ rm,aL,RD.mono s1 _ ri,row,aw,bS,bT,λlB yB H2 nB dB rB s2=>?_⟩;have gx:=s1.trans s2;obtain⟨ta,xt,rfl,ht,kL⟩:=rt.lst_inv;obtain⟨ia,xi,rfl,zd,HA⟩:=ri.cB;have lxt:=kL.length;have Pc:=rD.length;have wB:=rB.length;rw[bL,ownL,bL,kY]at wB;have RW:=uV (rate:=rate) row _ (bf os.length);have dl:=(sG (rate:=rate) row _ (bf _)).1;have te:=tp.len;have kR:sizeLine=16777216:=by decide
  have PD:(gG j rate os).length=es.length+1:=by unfold gG;rw[cE,m6 (ds:=ds) row _ (bf _),te];rfl
  have own:∀(c:Nat)(u:V)(H':Hp),c<=os.length->yB[c]? =some u->aH H2 H'->bc K H' u (ownF j rate os c):=by intro c u H' hc e t';obtain⟨d1,e1,r1⟩:=rB.get' c e;rw[bX,ownL,bX,oJ aw]at e1;cases e1;exact(lL r1).go t'
  have BA:∀c,c<=es.length->vh 1900 (sq c):=λc hc=>by
   by_cases uA:c=es.length
   ·rw[uA,tp.Iz];trivial
   obtain⟨e,ee⟩:∃e,es[c]? =some e:=⟨_,bu aw⟩;obtain⟨du,ed⟩:∃d,(dv rate ds os os.length)[c]? =some d:=⟨_,bu aw⟩;have:=tp.ent c e du ee ed;cases hs:sq c with |none=>trivial |some q=>rw[hs]at this;obtain⟨_,_,_,_,_,_,b,_⟩:=this;exact b
  have yj:∀c,c<=es.length->vh 1900 (jh sq c):=λc hc=>by cases c with |zero=>trivial |succ c=>exact BA c aw
  refine⟨_,Z,ta,_,Z,.inl (ht.go gx),_,_,Z,Z,_,Z,aw,aw,?_⟩;have eN:((xt.length:Int)+1).toNat=es.length+1:=by lia
  rw[eN];refine uJ (Pv:=λi O H3=>aH H2 H3/\∃av v1 v2 v3 v4 v5 v6,jM K H3 av (jh sq i)/\O=[some m,some (.ref ia),some (.int rate),some (.ref ta),some (.ref lD),some (.ref lB),some av,v1,v2,v3,v4,v5,v6]) ?_ ?_ ?_
  ·exact⟨aH.refl _,.bN,none,none,none,none,none,none,Z,Z⟩
  ·rintro i O H3 hi ⟨s3,av,v1,v2,v3,v4,v5,v6,oa,rfl⟩
   have qk:∀{α:Type}{l:List α}{u:α},l[i]? =some u->ft l (0+(i:Int))=some u:=λh=>cL aw (by rw[Int.zero_add];simpa using h);refine⟨bR Z,λz0 H40 OX=>?_⟩;refine⟨bR Z,λz1 H4 Gz=>?_⟩;refine⟨z1,_,Z,aU.of Gz.at',Z,_,_,Z,_,_,Z,Z,?_⟩;have OW:=OX.same.trans Gz.same;have gu:=s3.trans OW;have gy:=gx.trans gu;have R0:bc K H4 (.ref z0) 0:=⟨z0,Z,aU.of (Gz.same _ _ OX.at')⟩;have pk:=oa.go OW;refine⟨λO H5=>aH H4 H5/\∃gv bv b oP qE Kp,jM K H5 gv (sq i)/\bc K H5 bv b/\(gG j rate os)[i]? =some b/\O=[some m,some (.ref ia),some (.int rate),some (.ref ta),some (.ref lD),some (.ref lB),some av,some (.int (0+(i:Int))),some gv,some bv,oP,qE,Kp],?_,?_⟩
   ·refine⟨_,Z,_,Z,ta,_,Z,.inl (ht.go gy),.inl ⟨_,_,Z,Z,_,Z,?_⟩⟩
    by_cases HB:i=es.length
    ·rw[cm (show(0+(i:Int)=(xt.length:Int)) by lia)]
     refine bK ?_;refine⟨_,Z,_,Z,lD,_,Z,.inl (aK.of ((s2.trans gu) _ _ dD)),_,_,Z,Z,_,Z,?_⟩;rw[dF (show¬(0+(i:Int)<(yD.length:Int)) by lia)];refine aW ⟨aH.refl _,.bN,.ref z0,0,_,_,_,by rw[HB,tp.Iz];rfl,R0,?_,Z⟩;have hl:(ip j rate os os.length).length=i:=by rw[m6 (ds:=ds) (rate:=rate) row _ (bf _)];lia
     unfold gG;rw[m9 aw,hl,Ah,Gh];rfl
    ·rw[dF (show¬(0+(i:Int)=(xt.length:Int)) by lia)]
     refine aW ?_;have zc:i<es.length:=by lia
     obtain⟨ix,c,jL⟩:=Jl (j:=j) (rate:=rate) row (show i<(eH os os.length).length by lia);obtain⟨e,ee⟩:∃e,es[i]? =some e:=⟨_,bu zc⟩;obtain⟨x,ex,rx⟩:=kL.get i ee;refine⟨_,Z,_,Z,lD,_,Z,.inl (aK.of ((s2.trans gu) _ _ dD)),_,_,Z,Z,_,Z,?_⟩;rw[dF (show¬((yD.length:Int)<=0+(i:Int)) by lia)];refine aW ?_;have knd:=tp.kind row jL ee;obtain⟨rd,IH⟩:=jL.num;obtain⟨y,ey,ry⟩:=rD.get i IH;obtain⟨ya,ys,rfl,yV,j6⟩:=(RD.mono (s2.trans gu) _ ry).cB;obtain⟨u1,yr,rfl,e1,j6⟩:=j6.cons_inv;obtain⟨rv,yr,rfl,e2,j6⟩:=j6.cons_inv;cases j6.nil_inv;cases e1.int_inv;obtain⟨dx,wW⟩:∃d,ds[ix]? =some d:=⟨_,bu (by have:=jL.hi;lia)⟩;obtain⟨xv,exv,NG⟩:=HA.get ix wW;refine⟨_,Z,_,Z,.inl ⟨lD,_,_,.ref ya,Z,Z,aK.of ((s2.trans gu) _ _ dD),qk ey,ya,_,Z,yV,Z,_,_,Z,_,_,Z,Z,?_⟩⟩;refine⟨_,Z,_,Z,_,Z,.inr ⟨ia,_,_,xv,Z,Z,zd.go gy,cL aw (by simpa using exv),?_⟩⟩;refine⟨_,Z,_,Z,_,Z,_,Z,.inl ⟨ta,_,_,x,Z,Z,ht.go gy,qk ex,?_⟩⟩;refine⟨m,xv,rv,rate,x,rs,r,f,j,t,Z,RD.mono gy _ rm,aL,?_⟩;rcases knd with⟨eo,c0,zD,hs,iS,eV⟩|⟨ns,sp,q,eo,rY,zD,hs,rfl,qt,q0,bq⟩
     ·rw[IH]at zD
      cases zD;cases e2.Gr;rw[wW]at iS;cases iS;refine .inl ⟨Z,_,RD.mono gy _ NG,RD.mono gy _ rx,eV,λH6 s6=>?_⟩;refine⟨_,Z,_,_,Z,Z,_,Z,aW ?_⟩;refine⟨λO H7=>H7=H6/\O=[some m,some (.ref ia),some (.int rate),some (.ref ta),some (.ref lD),some (.ref lB),some av,some (.int (0+(i:Int))),some .bN,some (.ref z0),some (.int (ix:Int)),some .bN,some (.int 0)],⟨_,Z,Z,_,Z,aW ⟨Z,Z⟩⟩,?_⟩;rintro O H7 ⟨rfl,rfl⟩;have OG:jM K H7 .bN (sq i):=by rw[hs];rfl
      cases hp:jh sq i with |none=>rw[hp]at pk;have ea:av= .bN:=pk;subst ea;refine⟨_,Z,Z,_,Z,aW ?_⟩;exact⟨s6,.bN,.ref z0,0,_,_,_,OG,R0.go s6,tp.Sz row jL zc hp,Z⟩ |some q'=>cases zb:i with |zero=>rw[zb]at hp;cases hp |succ kk=>
       subst zb;rw[hp]at pk;obtain⟨aa,ea,_⟩:=id (show bc K H4 av q' from pk);subst ea;refine⟨_,Z,Z,_,Z,bK ?_⟩;have my:=gu.trans s6;have jU:=gx.trans my;obtain⟨ub,kS⟩:∃u,yB[ix]? =some u:=⟨_,bu (by have:=jL.hi;lia)⟩;have Ro:=own ix ub H7 (by have:=jL.hi;lia) kS my;refine⟨_,Z,_,Z,.inl ⟨lB,_,_,ub,Z,Z,aK.of (my _ _ dB),cL aw (by simpa using kS),?_⟩⟩;obtain⟨i',Bm,IG,b1,b2⟩:=tp.Sy row jL zc;obtain⟨yp,Ip,FI⟩:=rD.get kk IG;obtain⟨xJ,UC,rfl,hyp,hyps⟩:=(RD.mono (s2.trans my) _ FI).cB;obtain⟨u1,yr,rfl,Iw,hyps⟩:=hyps.cons_inv;cases Iw.int_inv;refine⟨_,Z,_,Z,_,_,Z,Z,.inl ⟨lD,_,_,.ref xJ,Z,Z,aK.of ((s2.trans my) _ _ dD),cL aw (by rw[show(0+((kk+1:Nat):Int)-1).toNat=kk by lia];exact Ip),?_⟩⟩;refine .inr ⟨xJ,_,0,.int (i':Int),Z,Z,hyp,cL (gI 0) Z,?_⟩;refine⟨_,Z,.inl ⟨_,_,Z,Z,_,Z,?_⟩⟩;by_cases ux:i'=ix
       ·rw[cm (show((i':Int)=(ix:Int)) by lia)]
        obtain⟨fJ,iK,eF,sA⟩:=b1 ux;obtain⟨Gm,DN,DM⟩:=row.ok ix fJ iK eF;obtain⟨mY,zC⟩:∃d,ds[ix]? =some d:=⟨_,bu (by have:=jL.hi;lia)⟩;obtain⟨xv',Ir,FK⟩:=HA.get ix zC;have zF:=jH (row.it ix mY _ zC eF);subst zF;refine bK ⟨_,Z,_,Z,.inr ⟨ia,_,_,xv',Z,Z,zd.go jU,cL aw (by simpa using Ir),?_⟩⟩;refine⟨_,Z,xv',fJ,iK,rate,Z,RD.mono jU _ FK,DN,DM,bS,bT,λqG H7 R7 s7=>?_⟩;exact⟨s6.trans s7,.bN,qG,_,_,_,_,jM.go OG s7,R7,sA,Z⟩
       ·rw[dF (show¬((i':Int)=(ix:Int)) by lia)]
        exact aW ⟨s6,.bN,ub,_,_,_,_,OG,Ro,b2 ux,Z⟩
     ·rw[IH]at zD
      cases zD;have zF:=jH (row.it ix dx _ wW eo);subst zF;obtain⟨cn,dZ,eR⟩:=row.ok ix ns sp eo;obtain⟨ra,WT,rfl,hra,_⟩:=id e2.cB;refine .inr ⟨ns,sp,fz ns c,q,RD.mono gy _ NG,dZ,eR,bS,bT,e2,RD.mono gy _ rx,by unfold fz;rw[bL,cn.len];lia,bq.mono aB,q0,λH6 s6=>?_⟩;rw[bB (oF.mpr qt)];refine⟨_,Z,_,_,Z,Z,_,Z,aW ?_⟩;obtain⟨kT,sA,qe,rfl,k1,k2,k3⟩:=xS (RD.mono (gy.trans s6) _ rx);refine⟨λO H7=>H7=H6/\O=[some m,some (.ref ia),some (.int rate),some (.ref ta),some (.ref lD),some (.ref lB),some av,some (.int (0+(i:Int))),some qe,some (.ref z0),some (.int (ix:Int)),some (.ref ra),some (.int 0)],?_,?_⟩
      ·refine⟨_,Z,Z,_,Z,bK ?_⟩
       refine⟨_,Z,_,Z,.inl ⟨ta,_,_,.ref kT,Z,Z,ht.go (gy.trans s6),qk ex,.inr ⟨kT,_,3,qe,Z,Z,k1,Z,Z,Z⟩⟩⟩
      rintro O H7 ⟨rfl,rfl⟩;have OG:jM K H7 qe (sq i):=by rw[hs];exact k3
      cases hp:jh sq i with |none=>rw[hp]at pk;have ea:av= .bN:=pk;subst ea;refine⟨_,Z,Z,_,Z,aW ?_⟩;exact⟨s6,qe,.ref z0,0,_,_,_,OG,R0.go s6,tp.Sz row jL zc hp,Z⟩ |some q'=>cases zb:i with |zero=>rw[zb]at hp;cases hp |succ kk=>
       subst zb;rw[hp]at pk;obtain⟨aa,ea,_⟩:=id (show bc K H4 av q' from pk);subst ea;refine⟨_,Z,Z,_,Z,bK ?_⟩;have my:=gu.trans s6;have jU:=gx.trans my;obtain⟨ub,kS⟩:∃u,yB[ix]? =some u:=⟨_,bu (by have:=jL.hi;lia)⟩;have Ro:=own ix ub H7 (by have:=jL.hi;lia) kS my;refine⟨_,Z,_,Z,.inl ⟨lB,_,_,ub,Z,Z,aK.of (my _ _ dB),cL aw (by simpa using kS),?_⟩⟩;obtain⟨i',Bm,IG,b1,b2⟩:=tp.Sy row jL zc;obtain⟨yp,Ip,FI⟩:=rD.get kk IG;obtain⟨xJ,UC,rfl,hyp,hyps⟩:=(RD.mono (s2.trans my) _ FI).cB;obtain⟨u1,yr,rfl,Iw,hyps⟩:=hyps.cons_inv;cases Iw.int_inv;refine⟨_,Z,_,Z,_,_,Z,Z,.inl ⟨lD,_,_,.ref xJ,Z,Z,aK.of ((s2.trans my) _ _ dD),cL aw (by rw[show(0+((kk+1:Nat):Int)-1).toNat=kk by lia];exact Ip),?_⟩⟩;refine .inr ⟨xJ,_,0,.int (i':Int),Z,Z,hyp,cL (gI 0) Z,?_⟩;refine⟨_,Z,.inl ⟨_,_,Z,Z,_,Z,?_⟩⟩;by_cases ux:i'=ix
       ·rw[cm (show((i':Int)=(ix:Int)) by lia)]
        obtain⟨fJ,iK,eF,sA⟩:=b1 ux;obtain⟨Gm,DN,DM⟩:=row.ok ix fJ iK eF;obtain⟨mY,zC⟩:∃d,ds[ix]? =some d:=⟨_,bu (by have:=jL.hi;lia)⟩;obtain⟨xv',Ir,FK⟩:=HA.get ix zC;have zF:=jH (row.it ix mY _ zC eF);subst zF;refine bK ⟨_,Z,_,Z,.inr ⟨ia,_,_,xv',Z,Z,zd.go jU,cL aw (by simpa using Ir),?_⟩⟩;refine⟨_,Z,xv',fJ,iK,rate,Z,RD.mono jU _ FK,DN,DM,bS,bT,λqG H7 R7 s7=>?_⟩;exact⟨s6.trans s7,qe,qG,_,_,_,_,jM.go OG s7,R7,sA,Z⟩
       ·rw[dF (show¬((i':Int)=(ix:Int)) by lia)]
        exact aW ⟨s6,qe,ub,_,_,_,_,OG,Ro,b2 ux,Z⟩
   ·rintro O H5 ⟨s5,gv,bv,b,oP,qE,Kp,og,Rb,eb,rfl⟩
    have lK:=gy.trans s5;have mt:=tp.meet i b eb;refine⟨_,Z,_,Z,_,Z,_,Z,m,bv,av,gv,rs,r,f,j,t,b,jh sq i,sq i,Z,RD.mono lK _ rm,aL,Rb,Jf b (gj eb),pk.go s5,yj i aw,og,BA i aw,λH6 s6=>?_⟩;rw[mt];exact⟨_,Z,aW ⟨_,Z,(gu.trans s5).trans s6,gv,_,_,_,_,_,_,og.go s6,Z⟩⟩
  ·rintro O H3 ⟨s3,av,v1,v2,v3,v4,v5,v6,oa,rfl⟩
   exact k H3 (gx.trans s3)
def pairD(p:Int×Int):aj:=.tuple [.int p.1,.int p.2]
def tF:List (Int×Int):=[(6,10),(4,20),(8,5),(3,30),(10,4),(5,12),(2,60),(6,10)]
inductive a9d(K:ag)(vs:List V)(H:Hp)(Q:VK):Prop |mk (p:_)(fi:_)(h0:vs=[.ref p,.bl fi])(h1:gh H p)(h2:∀t many most H',aU K H' t [.int many,.int most]->1<=many->many<=20->1<=most->most<=100->bF p H H'->Q (.ref t) H')
def Lr(K:ag):Sp:=λvs H Q _=>a9d K vs H Q
theorem Mi:bj ["_law_bag_here","_law_first","_law_kind"] ["_law_bag_here","_law_first"] (aX oT):=bw aQ
def AV:Expr:=match(ie oT)with|[_,_,_,.Return (some (.Subscript e _ _)) _]=>e|_=>.Constant .none 0 ⟨0,0,0,0⟩
theorem VW:lit 4 AV=some (.list (tF.map pairD)):=by kernel_rfl
def P5(e:Expr):List Stmt:=match ie oT with|[a,b,c,.Return (some (.Subscript _ i p)) q]=>[a,b,c,.Return (some (.Subscript e i p)) q]|r=>r
theorem a1o:P5 AV=ie oT:=by kernel_rfl
theorem VV{f:Addr}{aM:Value}{A:ak}{outer:List Env}{s:ah}{H:Hp}{p:Addr}{fi:Bool}{Q:VK}{E:XK}(e:Expr)(hr:dE 1 (A.deeper (envOfC "_law_sizes" (aX oT) s.heap.objs.size f aM))) (he:Tx (jK ja P w K mg aA ["_law_bag_here","_law_first","_law_kind"] "_law_sizes" (aX oT) f aM A outer s H E).pq e (AQ K (.list (tF.map pairD)))) (B:bE mg)(dA:aF P w K mg aA "_law_take" 1 mi)(bg:gh H p)(k:∀t many most H',aU K H' t [.int many,.int most]->1<=many->many<=20->1<=most->most<=100->bF p H H'->Q (.ref t) H'): ∃t,gT (jK ja P w K mg aA ["_law_bag_here","_law_first","_law_kind"] "_law_sizes" (aX oT) f aM A outer s H E).pq (P5 e) t/\t {nx:=λ_ H'=>Q .bN H',rt:=Q} (start ["_law_bag_here","_law_first","_law_kind"] [.ref p,.bl fi]) H:=by
 have nd:=Mi.nd;refine⟨_,(aE (pS 2 nd (pf dA hr (au (pv 0) (au aD az)))) (aE (bp (PW.pt (nJ (bU (pv 1)) (qX (bG (cI K Z hr.units) (pv 2) aD (aZ _))))) (aG (aR (df (au aD (au aD az))))) bA) (aE (bp (PW.pt (nJ (bU (pv 1)) (qX (bG (cI K Z hr.units) (pv 2) aD (aZ _))))) (aG (aR (df (au aD (au aD az))))) bA) (aG (aR (px K he.out (pv 2))))))),?_⟩;refine⟨_,Z,p,8,Z,bg,aB,aB,λkd H1 k0 k1 b1=>?_⟩;have tb:∀{H2:Hp}{t:Addr}{x y:Int},Nw H1 H2 t (.tup [.int x,.int y])->1<=x->x<=20->1<=y->y<=100->Q (.ref t) H2:=λn2 h1 h2 h3 h4=>k _ _ _ _ (aU.of n2.at') h1 h2 h3 h4 (b1.trans (.fH b1.bI n2.same));have fin:∀(v:V)(H2:Hp),aH H1 H2->RD K (fr H1 H2) v (.list (tF.map pairD))->∃l xs t x y,v= .ref l/\aK K H2 l xs/\ft xs kd=some (.ref t)/\aU K H2 t [.int x,.int y]/\1<=x/\x<=20/\1<=y/\y<=100:=λv H2 s2 r2=>by
  obtain⟨l,xs,rfl,hx,hd⟩:=(RD.mono a5k _ r2).lst_inv;have hl:=hd.length;have hk:kd.toNat<tF.length:=by show kd.toNat<8;omega
  obtain⟨y,ey,ry⟩:=hd.get kd.toNat (show(tF.map pairD)[kd.toNat]? =some (pairD tF[kd.toNat]) by rw[bX,bu hk];rfl);have hb:∀q∈tF,1<=q.1/\q.1<=20/\1<=q.2/\q.2<=100:=by decide
  obtain⟨h1,h2,h3,h4⟩:=hb _ (xG hk);obtain⟨t,zs,rfl,ht,hz⟩:=ry.cB;obtain⟨z1,zr,rfl,e1,hz⟩:=hz.cons_inv;obtain⟨z2,zr,rfl,e2,hz⟩:=hz.cons_inv;cases hz.nil_inv;cases e1.int_inv;cases e2.int_inv;exact⟨l,xs,t,_,_,Z,hx,cL k0 ey,ht,h1,h2,h3,h4⟩
 refine⟨_,Z,_,Z,?_⟩;refine dJ (λhf=>?_) (λhf=>?_)
 ·refine⟨_,Z,.inl ⟨_,_,Z,Z,_,Z,?_⟩⟩
  refine dJ (λhc=>?_) (λhc=>?_)
  ·exact⟨bR Z,λt H2 n2=>tb n2 aB aB aB aB⟩
  refine⟨_,Z,_,Z,?_⟩;refine dJ (λhf=>?_) (λC8=>absurd hf C8);refine⟨_,Z,.inl ⟨_,_,Z,Z,_,Z,?_⟩⟩;refine dJ (λhc=>?_) (λhc=>?_)
  ·exact⟨bR Z,λt H2 n2=>tb n2 aB aB aB aB⟩
  intro v H2 s2 r2;obtain⟨l,xs,t,x,y,rfl,hx,ht,hT,h1,h2,h3,h4⟩:=fin v H2 s2 r2;exact⟨_,Z,.inl ⟨l,_,_,_,Z,Z,hx,ht,k _ _ _ _ hT h1 h2 h3 h4 (b1.trans (.fH b1.bI s2))⟩⟩
 ·refine⟨_,Z,_,Z,?_⟩
  refine dJ (λC8=>absurd C8 hf) (λC8=>?_);intro v H2 s2 r2;obtain⟨l,xs,t,x,y,rfl,hx,ht,hT,h1,h2,h3,h4⟩:=fin v H2 s2 r2;exact⟨_,Z,.inl ⟨l,_,_,_,Z,Z,hx,ht,k _ _ _ _ hT h1 h2 h3 h4 (b1.trans (.fH b1.bI s2))⟩⟩
theorem Z5(F:FA K mg "_law_sizes" oT)(B:bE mg)(dA:aF P w K mg aA "_law_take" 1 mi):aF P w K mg aA "_law_sizes" 2 (Lr K):=by
 refine F.has Mi (λvs H Q E h=>?_) (λ_ _ _ _ _ _=>dC λ_ _=>rfl) (λf aM A outer s H vs Q E hr h=>?_)
 ·obtain⟨p,fi,rfl,_⟩:=h
  rfl
 ·obtain⟨p,fi,rfl,bg,k⟩:=h
  rw[<-a1o];exact VV AV hr (Yn K Z 4 AV _ VW) B dA bg k
inductive a9B(K:ag)(vs:List V)(H:Hp)(Q:VK):Prop |mk (m:_)(iv:_)(rate:_)(rs:_)(r:_)(f:_)(j:_)(t:_)(ds:_)(os:_)(h0:vs=[m,iv,.int rate])(h1:RD K H m (fE rs r f j t))(h2:iT rs r f j t)(h3:RD K H iv (.list ds))(h4:cw rs.length ds os)(h5:ds.length<=100)(h6:10<=rate)(h7:rate<=200)(h8:∀l ys H',H l=none->H' l=some (.lst ys)->aJ K H' ys ((ownL j rate os).map cD)->aH H H'->Q (.ref l) H')
def LK(K:ag):Sp:=λvs H Q _=>a9B K vs H Q
theorem ZD(F:FA K mg "own_bounds" Bf)(B:bE mg)(gN:GT K mg "NOUGHT" [.int 0,.int 1])(HG:aF P w K mg aA "bound_between" 7 (Ba K)):aF P w K mg aA "own_bounds" 8 (LK K):=by
 obtain⟨aN,j7,gr⟩:=gN;refine F.has Be (λvs H Q E h=>?_) (λ_ _ _ _ _ _=>kW λ_ _ _=>rfl) (λf aM A outer s H vs Q E hr h=>?_)
 ·obtain⟨m,iv,rate,rs,r,f,j,t,ds,os,rfl,_⟩:=h
  rfl
 ·obtain⟨m,iv,rate,rs,r,f,j,t,ds,os,rfl,rm,aL,ri,row,hz,bS,bT,k⟩:=h
  have nd:=Be.nd;have rN:∀H',RD K H' (.ref aN) (cD 0):=λH'=>(wm (gr H')).rd;refine⟨_,(aE (bp (cU (Gd K Z (pv 1))) (aG (aR (dj (au (fC (x:="NOUGHT") Z j7) az)))) bA) (aE (Bp (i0:=3) nd Z (Or.inl Z) (N:=["one","other","machine","rate"]) (js:=[none,none,some 0,some 2]) Z Z Z (jX K Z true true Z (B.at "zip") (au (pv 1) (au (vT (vG K rfl) (pv 1) (vR aD) vS) az))) (λ_ _ _ _ _=>(cW K rfl (n:=2) rfl (bC (aY 0 (show List.Nodup (["one","other","machine","rate"]:List Str) by decide+kernel)) (bC (aY 1 (show List.Nodup (["one","other","machine","rate"]:List Str) by decide+kernel)) cV)))) (λ_ _ _ _ _=>fm) (λ_ _ _ _ _=>(pf HG hr (au (pv 2) (au (pv 0) (au (pv 1) (au (pv 3) az))))))) (aG (aR (aO (zP K Z) (aO (zP K Z) (dj (au (fC (x:="NOUGHT") Z j7) az)) (pv 3)) (dj (au (fC (x:="NOUGHT") Z j7) az))))))),?_⟩;obtain⟨ia,xs,rfl,hi,dP⟩:=ri.lst_inv;have lx:=dP.length;have ll:=row.len;refine⟨_,Z,_,.inl ⟨_,hi,Z⟩,?_⟩;cases hd:xs with
  |nil=>
   subst hd;refine bK ?_;refine⟨bR Z,λl H1 n1=>?_⟩;refine k l [.ref aN] H1 n1.no n1.at' ?_ n1.same;have e:os=[]:=by
    have:os.length=0:=by rw[<-ll,<-lx];rfl
    exact De.mp this
   rw[e];exact cf (rN H1) cH |cons x0 xr=>
   refine aW ?_;have dH:os≠[]:=by intro e;rw[e]at ll;rw[hd]at lx;simp at ll lx;rw[ll]at lx;cases lx
   have Hi:0<xs.length:=by rw[hd];simp
   refine⟨_,Z,_,Z,1,Z,ia,xs,Z,.inl ⟨hi,λtl H1 n1=>?_⟩⟩;refine⟨ia,tl,Z,⟨_,hi.go n1.same⟩,⟨_,aK.of n1.at'⟩,λD H2 n2=>?_⟩;have et:=n1.at';rw[J1]at et;have yt:∀(i:Nat)(o:Itm),os[i]? =some o->∀(ns:List Int)(sp:Int),o=some (ns,sp)->fb rs.length 100 ns/\1<=sp/\sp<=20:=λi o e ns sp e'=>row.ok i ns sp (by rw[e,e']);have lr:=aL.len;refine uX (K:=K) (b1:=true) (b2:=true) (xs:=xs) (ys:=xs.drop 1) (ds:=((List.range (os.length-1)).map (λi=>ownF j rate os (i+1))).map cD) _ Z (hi.go n1.same) (aK.of et) n2 (by rw[oH];simp;lia) (by simp;lia) (pA _) ?_ ?_
   ·intro i x y d H3 Q' ex ey ed s3 hq
    have dR:=n1.same.trans s3;rw[sY]at ey;obtain⟨d1,e1,r1⟩:=dP.get' i ex;obtain⟨d2,e2,r2⟩:=dP.get' (1+i) ey;obtain⟨o1,o9,i1⟩:=row.get e1;obtain⟨o2,lY,i2⟩:=row.get e2;have ze:1+i<os.length:=(cv.mp lY).1;have j8:d=cD (betR j rate o1 o2):=by rw[bX,bX,bu (by simp;lia),vq]at ed;have:=(eO ed).symm;rw[this];show cD (betR j rate (atO os i) (atO os (i+1)))=_;rw[Ow.ng o9,Ow.ng (show os[i+1]? =some o2 by rw[K2];exact lY)]
    subst j8;refine⟨_,Z,_,Z,_,Z,_,Z,m,x,y,rate,rs,r,f,j,t,d1,d2,o1,o2,rs.length,Z,RD.mono dR _ rm,aL.j1.1,aL.j1.2,RD.mono dR _ r1,RD.mono dR _ r2,i1,i2,yt _ _ o9,yt _ _ lY,aw,bS,bT,λv H4 rv s4=>?_⟩;exact hq _ _ s4 rv.rd
   ·intro H3 zs s3 d3 r3
    have lz:=r3.length;simp at lz;refine⟨bR Z,λl1 H4 n4=>?_⟩;refine⟨_,Z,l1,D,_,zs,Z,Z,aK.of n4.at',aK.of (n4.same _ _ d3),xZ _ (by simp;lia),λl2 H5 n5=>?_⟩;refine⟨bR Z,λl3 H6 n6=>?_⟩;refine⟨l2,l3,_,_,Z,Z,aK.of (n6.same _ _ n5.at'),aK.of n6.at',xZ _ (by simp;lia),λl H7 n7=>?_⟩;have jU:aH H H6:=n1.same.trans (s3.trans (n4.same.trans (n5.same.trans n6.same)));have nl:H l=none:=by cases e:H l with |none=>rfl |some o=>have:=jU _ _ e;rw[n7.no]at this;cases this
    refine k l _ H7 nl n7.at' ?_ (jU.trans n7.same);rw[Ow.Oj j rate dH,jd,jd];exact((cf (rN H7) cH).append (aJ.mono (n4.same.trans (n5.same.trans (n6.same.trans n7.same))) _ r3)).append (cf (rN H7) cH)
inductive a9X(K:ag)(vs:List V)(H:Hp)(Q:VK):Prop |mk (m:_)(iv:_)(l:_)(ys:_)(rs:_)(r:_)(f:_)(j:_)(t:_)(ds:_)(os:_)(g:_)(h0:vs=[m,iv,.ref l])(h1:RD K H m (fE rs r f j t))(h2:iT rs r f j t)(h3:RD K H iv (.list ds))(h4:cw rs.length ds os)(h5:ds.length<=30)(h6:H l=some (.lst ys))(h7:aJ K H ys ((lst os.length g).map cD))(h8:(∀i,i<=os.length->Bd 900 (g i)))(h9:∀l ys H',H l=none->H' l=some (.lst ys)->aJ K H' ys ((lst os.length (fl os.length (leadF os) (2*f) g)).map cD)->aH H H'->Q (.ref l) H')
def LQ(K:ag):Sp:=λvs H Q _=>a9X K vs H Q
theorem a0c(F:FA K mg "kept_by_fall" Fg)(B:bE mg)(lU:aF P w K mg aA "is_line" 1 (qK K))(mO:aF P w K mg aA "lead_of" 1 (kE K))(mK:aF P w K mg aA "plus_whole" 4 (xV K))(wI:aF P w K mg aA "least" 2 (kD K)):aF P w K mg aA "kept_by_fall" 5 (LQ K):=by
 refine F.has Nc (λvs H Q E h=>?_) (λ_ _ _ _ _ _=>kW λ_ _ _=>rfl) (λfa aM A outer s H vs Q E hr h=>?_)
 · obtain⟨m,iv,l,ys,rs,r,f,j,t,ds,os,g,rfl,_⟩:=h
   rfl
 · obtain⟨m,iv,l,ys,rs,r,f,j,t,ds,os,g,rfl,rm,aL,ri,row,hz,dl,qT,bg,k⟩:=h
   have nd:=Nc.nd;refine⟨_,(aE (pS 3 nd (px K (pv 0) aD)) (aE (pS 4 nd (gL (x:="list") (BK K Z) Z (B.at "list") iV (au (pv 2) az))) (aE (gJ fe Z (Ye Z (B.at "reversed") (au (gL (x:="range") a7T rfl (B.at "range") PyProof.Rows.boot_range (au (dk K B (au (pv 1) az)) az)) az)) (aY 5 nd) (aG (bp (bU (pf lU hr (au (px K (pv 1) (pv 5)) az))) (aG (eU (pf wI hr (au (dj (au (px K (pv 4) (pv 5)) (au (pf mK hr (au (px K (pv 4) (aO cQ (pv 5) aD)) (au (aO bO (aO bO aD (pv 3)) (pf mO hr (au (px K (pv 1) (pv 5)) az))) az))) az))) az)) (tP (pv 4) (pv 5) set_list))) bA))) (aG (aR (pv 4)))))),?_⟩;obtain⟨ma,mb,rfl,gD,lT⟩:=mH rm;obtain⟨ia,xs,rfl,hi,dP⟩:=ri.lst_inv;have lx:=dP.length;have ll:=row.len;have lr:=aL.len;have hL:∀i m,leadF os i=some m->(2*f*(m:Int)).natAbs<2^24:=λi m e=>UU aL.f1.1 aL.f1.2 (a2e row.yz e);have FB:∀i,i<=os.length->Bd 1700 (fl os.length (leadF os) (2*f) g i):=λi hi=>(a5v bg hL i hi).mono aw;refine⟨_,Z,.inr ⟨ma,_,2,.int f,Z,Z,gD,Z,?_⟩⟩;refine⟨_,Z,l,ys,Z,.inl (aK.of dl),λD H1 n1=>?_⟩;refine⟨_,Z,ia,_,Z,.inl (hi.go n1.same),_,Z,λpr H2 n2=>?_⟩;refine⟨pr,_,Z,n2.at',aw,aw,?_⟩;have eN:((xs.length:Int)).toNat=os.length:=by lia
   rw[eN];refine a5n (Pv:=λi O H5=>aH H H5/\∃zs v1,H5 D=some (.lst zs)/\aJ K H5 zs ((lst os.length λk=>if os.length<=k+i then fl os.length (leadF os) (2*f) g k else g k).map cD)/\O=[some (.ref ma),some (.ref ia),some (.ref l),some (.int f),some (.ref D),v1]) ?_ ?_ ?_
   · refine⟨n1.same.trans n2.same,ys,none,n2.same _ _ n1.at',?_,Z⟩
     rw[GL (g:=λk=>if os.length<=k+0 then fl os.length (leadF os) (2*f) g k else g k) (g':=g)]
     ·exact aJ.mono (n1.same.trans n2.same) _ qT
     · intro k hk
       show g k=if os.length<=k+0 then _ else g k;split
       · next h => have:k=os.length:=by lia
                   subst this;exact sx.symm
       ·rfl
   · rintro i O H3 hin ⟨s3,zs,v1,dz,rz,rfl⟩
     obtain⟨x,hx⟩:∃x,xs[os.length-1-i]? =some x:=⟨_,bu (show os.length-1-i<xs.length by lia)⟩;generalize hc:os.length-1-i=c at hx;have rY:c<os.length:=by lia
     have eI:((os.length:Int)-1-(i:Int))=(c:Int):=by lia
     rw[eI];obtain⟨d,ed,rd⟩:=dP.get' c hx;obtain⟨o,eo,it⟩:=row.get ed;have lz:=rz.length;rw[bL,uc]at lz;have T8:ft xs (c:Int)=some x:=cL aw (by simpa using hx);refine⟨_,Z,_,Z,.inl ⟨ia,_,_,_,Z,Z,hi.go s3,T8,?_⟩⟩;refine⟨x,d,o,Z,RD.mono s3 _ rd,it,_,Z,?_⟩;cases o with
     |none=>
       refine aW ?_;refine⟨s3,zs,_,dz,?_,Z⟩;rw[GL (g:=λk=>if os.length<=k+(i+1)then fl os.length (leadF os) (2*f) g k else g k) (g':=λk=>if os.length<=k+i then fl os.length (leadF os) (2*f) g k else g k)]
       ·exact rz
       · intro k _
         show(if os.length<=k+i then _ else g k)=if os.length<=k+(i+1)then _ else g k;by_cases h1:os.length<=k+i
         ·rw[bo h1,bo aw]
         · rw[bB h1]
           by_cases h2:k=c
           ·subst h2;rw[bo aw,pX rY (a2d eo)]
           ·rw[bB aw] |some q=>
       obtain⟨ns,sp⟩:=q;refine bK ?_;have j8:=jH it;subst j8;obtain⟨cn,_,_⟩:=row.ok c ns sp eo;obtain⟨z1,QZ⟩:∃z,zs[c+1]? =some z:=⟨_,bu (show c+1<zs.length by lia)⟩;obtain⟨z0,sy⟩:∃z,zs[c]? =some z:=⟨_,bu (show c<zs.length by lia)⟩;have R1:bc K H3 z1 (fl os.length (leadF os) (2*f) g (c+1)):=by
        obtain⟨d1,e1,r1⟩:=rz.get' (c+1) QZ;rw[bX,ud _ (show c+1<=os.length by lia)]at e1;cases e1;have:os.length<=c+1+i:=by lia
        simp only[bo this]at r1;exact lL r1
       have R0:bc K H3 z0 (g c):=by
        obtain⟨d1,e1,r1⟩:=rz.get' c sy;rw[bX,ud _ (show c<=os.length by lia)]at e1;cases e1;have:¬os.length<=c+i:=by lia
        simp only[bB this]at r1;exact lL r1
       have IK:((c:Int)+1).toNat=c+1:=by lia
       have Jq:ft zs ((c:Int)+1)=some z1:=cL aw (by rw[IK];exact QZ);have jL:ft zs (c:Int)=some z0:=cL aw (by simpa using sy);refine⟨_,Z,_,Z,.inl ⟨D,_,_,_,Z,Z,aK.of dz,jL,?_⟩⟩;refine⟨_,Z,_,Z,_,_,Z,Z,.inl ⟨D,_,_,_,Z,Z,aK.of dz,Jq,?_⟩⟩;refine⟨_,Z,_,_,Z,Z,.of_left (cC aB aB),?_⟩;refine⟨_,Z,_,Z,.inl ⟨ia,_,_,_,Z,Z,hi.go s3,T8,?_⟩⟩;refine⟨x,ns,sp,Z,RD.mono s3 _ rd,cn.ne,by rw[cn.len];lia,λH4 s4=>?_⟩;have lX:=aL.f1;refine⟨_,_,Z,Z,.of_left (cC aw aw),?_⟩;have us:=hL c _ (PB eo);refine⟨z1,_,_,Z,R1.go s4,(FB (c+1) aw).mono aB,us,λu H5 ru s5=>?_⟩;refine⟨bR Z,λl2 H6 n6=>?_⟩;have qN:=s4.trans (s5.trans n6.same);have Tn:=R0.go qN;have Ru:=ru.go n6.same;have B1:Bd 2000 (g c):=(bg _ aw).mono aB;have B2:Bd 2000 (fl os.length (leadF os) (2*f) g (c+1)+((2*f*(aI ns:Int):Int):Rat)):=(qo (FB (c+1) aw) us).mono aB;refine⟨l2,[z0,u],[_,_],Z,aK.of n6.at',⟨Tn,B1,Ru,B2,trivial⟩,by simp,λc' v q e1 e2 hq=>?_⟩;have uk:mn (g c) (fl os.length (leadF os) (2*f) g (c+1)+((2*f*(aI ns:Int):Int):Rat))=q:=by
        refine u9 ?_ (hq _ (by simp)) (hq _ (by simp))
        match c',e2 with |0,e2=>cases e2;exact .inl rfl |1,e2=>cases e2;exact .inr rfl
       have Rv:bc K H6 v q:=by match c',e1,e2 with |0,e1,e2=>cases e1;cases e2;exact Tn |1,e1,e2=>cases e1;cases e2;exact Ru
       have RN:=qN _ _ dz;have ix0:j4 zs.length (c:Int)=some c:=by unfold j4;rw[bo aw,bo aw];simp
       refine⟨_,Z,_,Z,D,zs,_,_,Z,Z,RN,ix0,?_⟩;refine⟨λb o e=>?_,_,_,bQ,?_,Z⟩
       ·rw[aV (dU e n1.no)];exact qN b o (s3 b o e)
       · have h:=aJ.DR (i:=c) RN (aJ.mono qN _ rz) Rv.rd (pA _) (oZ _)
         rw[<-Am]at h;have e:(lst os.length λk=>if os.length<=k+i then fl os.length (leadF os) (2*f) g k else g k).set c q=lst os.length λk=>if os.length<=k+(i+1)then fl os.length (leadF os) (2*f) g k else g k:=by
          rw[<-a1V (g:=λk=>if os.length<=k+i then fl os.length (leadF os) (2*f) g k else g k) (g':=λk=>if os.length<=k+(i+1)then fl os.length (leadF os) (2*f) g k else g k) (i:=c)]
          · have:os.length<=c+(i+1):=by lia
            simp only[bo this];rw[o5 rY (PB eo),uk]
          · intro k _ hk
            show(if os.length<=k+(i+1)then _ else g k)=if os.length<=k+i then _ else g k;by_cases h1:os.length<=k+i
            ·rw[bo h1,bo aw]
            ·rw[bB h1,bB aw]
         rw[e]at h;exact h
   · rintro O H3 ⟨s3,zs,v1,dz,rz,rfl⟩
     rw[GL (g:=λk=>if os.length<=k+os.length then fl os.length (leadF os) (2*f) g k else g k) (g':=fl os.length (leadF os) (2*f) g) (λk hk=>by show _=if os.length<=k+os.length then _ else _;rw[bo aw])]at rz;exact⟨_,Z,k D zs H3 n1.no dz rz s3⟩
def qR(f j rate:Int)(os:List Itm):Rat:=fl os.length (leadF os) (2*f) (ownF j rate os) 1
inductive a9m(K:ag)(vs:List V)(H:Hp)(Q:VK):Prop |mk (m:_)(iv:_)(rate:_)(rs:_)(r:_)(f:_)(j:_)(t:_)(ds:_)(os:_)(h0:vs=[m,iv,.int rate])(h1:RD K H m (fE rs r f j t))(h2:iT rs r f j t)(h3:RD K H iv (.list ds))(h4:cw rs.length ds os)(h5:ds.length<=30)(h6:1<=ds.length)(h7:10<=rate)(h8:rate<=200)(h9:∀v H',bc K H' v (qR f j rate os)->aH H H'->Q v H')
def DB(K:ag):Sp:=λvs H Q _=>a9m K vs H Q
theorem Mr:bj ["machine","items","rate"] ["machine","items","rate"] (aX Eb):=bw aQ
theorem Zy(F:FA K mg "reach_behind_first" Eb)(B:bE mg)(Hq:aF P w K mg aA "own_bounds" 8 (LK K))(a3v:aF P w K mg aA "kept_by_fall" 5 (LQ K)):aF P w K mg aA "reach_behind_first" 9 (DB K):=by
 refine F.has Mr (λvs H Q E h=>?_) (λ_ _ _ _ _ _=>kW λ_ _ _=>rfl) (λfa aM A outer s H vs Q E hr h=>?_)
 ·obtain⟨m,iv,rate,rs,r,f,j,t,ds,os,rfl,_⟩:=h
  rfl
 ·obtain⟨m,iv,rate,rs,r,f,j,t,ds,os,rfl,rm,aL,ri,row,hz,h1,bS,bT,k⟩:=h
  have nd:=Mr.nd;refine⟨_,(aG (aR (px K (pf a3v hr (au (pv 0) (au (pv 1) (au (pf Hq hr (au (pv 0) (au (pv 1) (au (pv 2) az)))) az)))) aD))),?_⟩;have ll:=row.len;have hB:=Ow.Gj aL.j1.1 aL.j1.2 bS bT row.yz;refine⟨_,Z,_,Z,_,Z,_,Z,_,Z,m,iv,rate,rs,r,f,j,t,ds,os,Z,rm,aL,ri,row,aw,bS,bT,λl1 y1 H1 tY d1 r1 s1=>?_⟩;refine⟨m,iv,l1,y1,rs,r,f,j,t,ds,os,ownF j rate os,Z,RD.mono s1 _ rm,aL,RD.mono s1 _ ri,row,hz,d1,r1,λi _=>(hB i).mono aB,λl2 y2 H2 tX d2 r2 s2=>?_⟩;have ly:=r2.length;rw[bL,uc]at ly;obtain⟨z,ez⟩:∃z,y2[1]? =some z:=⟨_,bu (show 1<y2.length by lia)⟩;refine .inl ⟨l2,_,1,z,Z,Z,aK.of d2,cL aB ez,?_⟩;obtain⟨d,ed,rd⟩:=r2.get' 1 ez;rw[bX,ud _ (show 1<=os.length by lia)]at ed;cases ed;exact k z H2 (lL rd) (s1.trans s2)
open Rn
def fP(m b d q p r s k t:V):List (Str×V):=[("machine",m),("begun_at",b),("done",d),("queue",q),("pace",p),("rate_now",r),("side",s),("mark",k),("stopping",t)]
structure bW where
 rs:List Int
 r:Int
 f:Int
 j:Int
 t:Int
abbrev bW.D(M:bW):aj:=fE M.rs M.r M.f M.j M.t
abbrev bW.Ok(M:bW):Prop:=iT M.rs M.r M.f M.j M.t
structure bJ where
 pl:List Int
 dn:Nat
 ds:List aj
 os:List Itm
 pc:Rat
 rate:Int
 side:Str
 mark:Str
 stp:Rn.fM
def xh(K:ag)(H:Hp)(v:V):Rn.fM->Prop |none=>v= .bN |some (sq,st,gn)=>∃a u,v= .ref a/\aU K H a [u,.int st,.int gn]/\bc K H u sq
structure ck(M:bW)(D:Nat)(S:bJ):Prop where
 row:cw M.rs.length S.ds S.os
 rw:RowW S.ds S.os
 len:S.ds.length<=20
 bS:10<=S.rate
 bT:S.rate<=200
 dn:S.dn=0\/∃ns sp,S.os[0]? =some (some (ns,sp))/\S.dn<aI ns
 pl:S.pl.length=M.rs.length
 pd:Dd (D+10) S.pc
 pm:S.pc<=1600
 stp:ou D S.pc S.stp
 D1:64<=D
 D2:D<=1500
structure cN(K:ag)(C:Addr)(H:Hp)(a q:Addr)(M:bW)(S:bJ):Prop where
 ob:∃dx mv bv cK tv,H a=some (.ins C dx (fP mv bv (.int S.dn) (.ref q) cK (.int S.rate) (.str S.side) (.str S.mark) tv))/\RD K H mv M.D/\RD K H bv (gK S.pl)/\bc K H cK S.pc/\xh K H tv S.stp
 qu:∃ys,H q=some (.lst ys)/\aJ K H ys S.ds
theorem bc.v{H H':Hp}{v:V}{q:Rat}(s:cM H H')(h:bc K H v q):bc K H' v q:=by obtain⟨p,rfl,hp⟩:=h;exact⟨p,Z,aU.v s hp⟩
theorem xh.v{H H':Hp}{v:V}{t:Rn.fM}(s:cM H H')(h:xh K H v t):xh K H' v t:=by cases t with |none=>exact h |some q=>obtain⟨sq,st,gn⟩:=q;obtain⟨a,u,rfl,h1,h2⟩:=h;exact⟨a,u,Z,aU.v s h1,bc.v s h2⟩
theorem cN.go{C:Addr}{H H':Hp}{a q:Addr}{M:bW}{S:bJ}(h:cN K C H a q M S)(hn:bM S.ds=true)(s:cM H H')(ea:∀o,H a=some o->H' a=some o)(eq:∀o,H q=some o->H' q=some o):cN K C H' a q M S:=by obtain⟨⟨dx,mv,bv,cK,tv,e,r1,r2,r3,r4⟩,ys,uO,rq⟩:=h;exact⟨⟨dx,mv,bv,cK,tv,ea _ e,RD.v s _ (nP _ _ _ _ _) r1,RD.v s _ (jE _) r2,r3.v s,r4.v s⟩,ys,eq _ uO,aJ.v s _ hn rq⟩
theorem cN.same{C:Addr}{H H':Hp}{a q:Addr}{M:bW}{S:bJ}(h:cN K C H a q M S)(hn:bM S.ds=true)(s:aH H H'):cN K C H' a q M S:=h.go hn s.v (λo e=>s _ _ e) (λo e=>s _ _ e)
theorem cN.ne{C:Addr}{H:Hp}{a q:Addr}{M:bW}{S:bJ}(h:cN K C H a q M S):a≠q:=by obtain⟨⟨dx,mv,bv,cK,tv,e,_⟩,ys,uO,_⟩:=h;exact yF e uO (by intro z;cases z)
theorem cN.v{C:Addr}{H H':Hp}{a q:Addr}{M:bW}{S:bJ}(h:cN K C H a q M S)(b:da [a,q] H H'):cM H H':=by
 obtain⟨⟨dx,mv,bv,cK,tv,e,_⟩,ys,uO,_⟩:=h;refine b.v λx hx o eo=>?_;simp only[dh,fV,jb]at hx;rcases hx with rfl|rfl
 ·rw[e]at eo;cases eo;trivial
 ·rw[uO]at eo;cases eo;trivial
inductive a9b(K:ag)(C:Addr)(G:bW->bJ->Hp->VK->Prop)(vs:List V)(H:Hp)(Q:VK):Prop |mk (a:_)(q:_)(M:_)(D:_)(S:_)(h0:vs=[.ref a])(h1:cN K C H a q M S)(h2:ck M D S)(h3:M.Ok)(h4:G M S H Q)
def iz(K:ag)(C:Addr)(G:bW->bJ->Hp->VK->Prop):Sp:=λvs H Q _=>a9b K C G vs H Q
theorem WB:bj ["self"] ["self"] (aX Ef):=bw aQ
def gSq(K:ag):bW->bJ->Hp->VK->Prop:=λ_ S H Q=>∀v,bc K H v S.pc->Q v H
theorem Ze{C:Addr}(F:MA K C "square" "Runner.square" Ef)(TC:gd K C):cZ P w K mg aA C "square" 1 (iz K C (gSq K)):=by
 refine F.has WB (λvs H Q E h=>?_) (λ_ _ _ _ _ _=>eJ λ_=>rfl) (λf aM A outer s H vs Q E hr h=>?_)
 ·obtain⟨a,q,M,D,S,rfl,_⟩:=h
  rfl
 ·obtain⟨a,q,M,D,S,rfl,R,ok,aL,k⟩:=h
  obtain⟨dx,mv,bv,cK,tv,e,r1,r2,r3,r4⟩:=R.ob;exact⟨_,(aG (aR (cX TC.cl TC.rk (pv 0)))),_,Z,a,dx,_,_,Z,e,Z,k cK r3⟩
theorem WD:bj ["self"] ["self"] (aX Ej):=bw aQ
theorem Zi{C:Addr}(F:MA K C "rate" "Runner.rate" Ej)(TC:gd K C):cZ P w K mg aA C "rate" 1 (iz K C λ_ S H Q=>Q (.int S.rate) H):=by
 refine F.has WD (λvs H Q E h=>?_) (λ_ _ _ _ _ _=>eJ λ_=>rfl) (λf aM A outer s H vs Q E hr h=>?_)
 ·obtain⟨a,q,M,D,S,rfl,_⟩:=h
  rfl
 ·obtain⟨a,q,M,D,S,rfl,R,ok,aL,k⟩:=h
  obtain⟨dx,mv,bv,cK,tv,e,r1,r2,r3,r4⟩:=R.ob;exact⟨_,(aG (aR (cX TC.cl TC.yI (pv 0)))),_,Z,a,dx,_,_,Z,e,Z,k⟩
theorem WA:bj ["self"] ["self"] (aX Ee):=bw aQ
theorem Zd{C:Addr}(F:MA K C "tool" "Runner.tool" Ee)(TC:gd K C):cZ P w K mg aA C "tool" 1 (iz K C λ_ S H Q=>Q (.str S.side) H):=by
 refine F.has WA (λvs H Q E h=>?_) (λ_ _ _ _ _ _=>eJ λ_=>rfl) (λf aM A outer s H vs Q E hr h=>?_)
 ·obtain⟨a,q,M,D,S,rfl,_⟩:=h
  rfl
 ·obtain⟨a,q,M,D,S,rfl,R,ok,aL,k⟩:=h
  obtain⟨dx,mv,bv,cK,tv,e,r1,r2,r3,r4⟩:=R.ob;exact⟨_,(aG (aR (cX TC.cl TC.Gx (pv 0)))),_,Z,a,dx,_,_,Z,e,Z,k⟩
theorem Wy:bj ["self"] ["self"] (aX Ec):=bw aQ
theorem Zb{C:Addr}(F:MA K C "waiting" "Runner.waiting" Ec)(TC:gd K C)(B:bE mg):cZ P w K mg aA C "waiting" 1 (iz K C λ_ S H Q=>∀l ys H',H l=none->H' l=some (.lst ys)->aJ K H' ys S.ds->aH H H'->Q (.ref l) H'):=by
 refine F.has Wy (λvs H Q E h=>?_) (λ_ _ _ _ _ _=>eJ λ_=>rfl) (λf aM A outer s H vs Q E hr h=>?_)
 ·obtain⟨a,q,M,D,S,rfl,_⟩:=h
  rfl
 ·obtain⟨a,q,M,D,S,rfl,R,ok,aL,k⟩:=h
  obtain⟨dx,mv,bv,cK,tv,e,r1,r2,r3,r4⟩:=R.ob;obtain⟨ys,eq,rq⟩:=R.qu;refine⟨_,(aG (aR (gL (x:="list") (BK K Z) Z (B.at "list") iV (au (cX TC.cl TC.jF (pv 0)) az)))),_,Z,a,dx,_,_,Z,e,Z,q,ys,Z,.inl (aK.of eq),λl H1 n1=>?_⟩;exact k l ys H1 n1.no n1.at' (aJ.mono n1.same _ rq) n1.same
theorem WI:bj ["self"] ["self"] (aX Er):=bw aQ
theorem Zs{C:Addr}(F:MA K C "is_held" "Runner.is_held" Er)(TC:gd K C):cZ P w K mg aA C "is_held" 1 (iz K C λ_ S H Q=>Q (.bl S.stp.isSome) H):=by
 refine F.has WI (λvs H Q E h=>?_) (λ_ _ _ _ _ _=>eJ λ_=>rfl) (λf aM A outer s H vs Q E hr h=>?_)
 ·obtain⟨a,q,M,D,S,rfl,_⟩:=h
  rfl
 ·obtain⟨a,q,M,D,S,rfl,R,ok,aL,k⟩:=h
  obtain⟨dx,mv,bv,cK,tv,e,r1,r2,r3,r4⟩:=R.ob;refine⟨_,(aG (aR (eB lM (cX TC.cl TC.wu (pv 0)) fo (aZ _)))),_,Z,a,dx,_,_,Z,e,Z,?_⟩;cases hs:S.stp with |none=>rw[hs]at r4 k;cases(show tv= .bN from r4);exact⟨Z,k⟩ |some z=>rw[hs]at r4 k;obtain⟨sq,st,gn⟩:=z;obtain⟨b,u,rfl,_⟩:=r4;exact⟨Z,k⟩
theorem XI(q:Rat):PyData.eqv (cD q) (cD 0)=decide (q=0):=by
 by_cases h:q=0
 ·rw[cm h];exact Rj h
 ·rw[dF h]
  cases e:PyData.eqv (cD q) (cD 0)with |false=>rfl |true=>
   exfalso;apply h;have e':(PyData.eqv (.int q.num) (.int (0:Rat).num)&&(PyData.eqv (.int (q.den:Int)) (.int ((0:Rat).den:Int))&&true))=true:=e;rw[Kk,fG]at e';obtain⟨a,b⟩:=e';have h1:q.num=(0:Rat).num:=by simpa[PyData.eqv]using a
   have h2:(q.den:Int)=((0:Rat).den:Int):=by simpa[PyData.eqv]using b
   exact Rat.ext h1 aw
theorem WC:bj ["self"] ["self"] (aX Ei):=bw aQ
theorem Zh{C:Addr}(F:MA K C "stands" "Runner.stands" Ei)(TC:gd K C)(gN:GT K mg "NOUGHT" [.int 0,.int 1]):cZ P w K mg aA C "stands" 1 (iz K C λ_ S H Q=>Q (.bl (decide (S.pc=0))) H):=by
 obtain⟨aN,j7,gr⟩:=gN;refine F.has WC (λvs H Q E h=>?_) (λ_ _ _ _ _ _=>eJ λ_=>rfl) (λf aM A outer s H vs Q E hr h=>?_)
 ·obtain⟨a,q,M,D,S,rfl,_⟩:=h
  rfl
 ·obtain⟨a,q,M,D,S,rfl,R,ok,aL,k⟩:=h
  obtain⟨dx,mv,bv,cK,tv,e,r1,r2,r3,r4⟩:=R.ob;refine⟨_,(aG (aR (eB (cI K Z hr.units) (cX TC.cl TC.rk (pv 0)) (fC (x:="NOUGHT") rfl j7) (aZ _)))),_,Z,a,dx,_,_,Z,e,Z,.inr ⟨_,_,r3.rd,(wm (gr H)).rd,Z,Z,?_⟩⟩;rw[XI];exact k
theorem WH:bj ["self"] ["self"] (aX Ep):=bw aQ
theorem Zr{C:Addr}(F:MA K C "is_halted" "Runner.is_halted" Ep)(TC:gd K C)(zl:cZ P w K mg aA C "is_held" 1 (iz K C λ_ S H Q=>Q (.bl S.stp.isSome) H))(HK:cZ P w K mg aA C "stands" 1 (iz K C λ_ S H Q=>Q (.bl (decide (S.pc=0))) H)):cZ P w K mg aA C "is_halted" 2 (iz K C λ_ S H Q=>Q (.bl (S.stp.isSome&&decide (S.pc=0))) H):=by
 refine F.has WH (λvs H Q E h=>?_) (λ_ _ _ _ _ _=>eJ λ_=>rfl) (λf aM A outer s H vs Q E hr h=>?_)
 ·obtain⟨a,q,M,D,S,rfl,_⟩:=h
  rfl
 ·obtain⟨a,q,M,D,S,rfl,R,ok,aL,k⟩:=h
  obtain⟨dx,mv,bv,cK,tv,e,r1,r2,r3,r4⟩:=R.ob;refine⟨_,(aG (aR (fX (jY zl TC.cl (hr.mono aB) (pv 0)) (gz (jY HK TC.cl (hr.mono aB) (pv 0)))))),_,Z,a,dx,_,Z,e,Z,a,q,M,D,S,Z,R,ok,aL,_,Z,?_⟩;cases hs:S.stp.isSome with |false=>rw[hs]at k;exact aW k |true=>rw[hs]at k;refine bK ⟨_,Z,a,dx,_,Z,e,Z,a,q,M,D,S,Z,R,ok,aL,?_⟩;exact k
def La(ns:List Int)(k:Int):List Int:=ns.map λz=>iQ (k*z) (aI ns)
def yh(S:bJ):List Int:=if S.dn=0 then S.pl else match S.os[0]? with |some (some (ns,_))=>kn S.pl (La ns S.dn) |_=>S.pl
def si(S:bJ):List Int:=S.os.foldl ij S.pl
theorem SJ{n:Nat}{pl:List Int}{o:Itm}(h:pl.length=n)(ho:∀ns sp,o=some (ns,sp)->ns.length=n):(ij pl o).length=n:=by cases o with |none=>exact h |some q=>obtain⟨ns,sp⟩:=q;show(kn pl ns).length=n;rw[vd (by rw[ho ns sp Z,h])];exact h
theorem HX{n:Nat}:∀(os:List Itm)(pl:List Int),pl.length=n->(∀o∈os,∀ns sp,o=some (ns,sp)->ns.length=n)->(os.foldl ij pl).length=n |[],pl,h,_=>h |o::os,pl,h,ho=>HX os (ij pl o) (SJ h (ho o (.head _))) λx hx=>ho x (.tail _ hx)
theorem ck.yo{M:bW}{D:Nat}{S:bJ}(h:ck M D S):∀o∈S.os,∀ns sp,o=some (ns,sp)->ns.length=M.rs.length:=λo ho ns sp e=>by obtain⟨i,hi⟩:=vo.mp ho;rw[e]at hi;exact(h.row.ok i ns sp hi).1.len
theorem ck.first{M:bW}{D:Nat}{S:bJ}(h:ck M D S)(hn:S.dn≠0):∃ns sp,S.os[0]? =some (some (ns,sp))/\S.dn<aI ns:=by
 rcases h.dn with e|e
 ·exact(hn e).elim
 ·exact e
theorem WE:bj ["self"] ["self"] (aX Ek):=bw aQ
theorem Zj{C:Addr}(F:MA K C "place" "Runner.place" Ek)(TC:gd K C)(Hw:aF P w K mg aA "moved" 1 (B6 K))(BX:aF P w K mg aA "stand_at" 2 (AZ K)):cZ P w K mg aA C "place" 3 (iz K C λ_ S H Q=>∀v H',RD K H' v (gK (yh S))->aH H H'->Q v H'):=by
 refine F.has WE (λvs H Q E h=>?_) (λ_ _ _ _ _ _=>eJ λ_=>rfl) (λf aM A outer s H vs Q E hr h=>?_)
 ·obtain⟨a,q,M,D,S,rfl,_⟩:=h
  rfl
 ·obtain⟨a,q,M,D,S,rfl,R,ok,aL,k⟩:=h
  obtain⟨dx,mv,bv,cK,tv,e,r1,r2,r3,r4⟩:=R.ob;obtain⟨ys,eq,rq⟩:=R.qu;refine⟨_,(aE (bp (bG (cI K Z hr.units) (cX TC.cl TC.pC (pv 0)) aD (aZ _)) (aG (aR (cX TC.cl TC.wx (pv 0)))) bA) (aG (aR (pf Hw hr (au (cX TC.cl TC.wx (pv 0)) (au (pf BX hr (au (px K (cX TC.cl TC.jF (pv 0)) aD) (au (cX TC.cl TC.pC (pv 0)) az))) az)))))),_,Z,a,dx,_,_,Z,e,Z,.inl ⟨_,_,Z,Z,_,Z,?_⟩⟩;by_cases h0:S.dn=0
  ·rw[cm aw]
   have ep:yh S=S.pl:=by unfold yh;rw[bo h0]
   rw[ep]at k;exact bK ⟨_,Z,a,dx,_,_,Z,e,Z,k bv H r2 (aH.refl _)⟩
  ·rw[dF aw]
   refine aW ?_;obtain⟨ns,sp,eo,hd⟩:=ok.first h0;obtain⟨cn,dZ,eR⟩:=ok.row.ok 0 ns sp eo;have ep:yh S=kn S.pl (La ns S.dn):=by unfold yh;rw[bB h0,eo]
   rw[ep]at k;have ll:=ok.row.len;have C4:0<S.os.length:=(cv.mp eo).1;obtain⟨d,ed⟩:∃d,S.ds[0]? =some d:=⟨_,bu (show 0<S.ds.length by lia)⟩;obtain⟨y,ey,ry⟩:=rq.get 0 ed;have it:=ok.row.it 0 d _ ed eo;have j8:=jH it;subst j8;have BP:=pF cn;have lr:=aL.len;refine⟨_,Z,a,dx,_,_,Z,e,Z,?_⟩;refine⟨_,Z,a,dx,_,_,Z,e,Z,.inl ⟨q,_,0,y,Z,Z,aK.of eq,cL (gI 0) ey,?_⟩⟩;refine⟨_,Z,a,dx,_,_,Z,e,Z,y,ns,sp,_,Z,ry,⟨Z,λz hz=>by have:=cn.bd z hz;lia,cn.nz⟩,by rw[cn.len];lia,aw,λu H1 ru s1=>?_⟩;obtain⟨b,xs,rfl,hb,hx⟩:=ru.cB;rw[hx.hZ]at hb;exact⟨bv,b,S.pl,_,Z,RD.mono s1 _ r2,hb,by rw[bL,cn.len,ok.pl],by rw[ok.pl];lia,λv H2 rv s2=>k v H2 rv (s1.trans s2)⟩
theorem Mw:bj ["self","here","item"] ["self"] (aX Em):=bw aQ
theorem Zn{C:Addr}(F:MA K C "leads_to" "Runner.leads_to" Em)(TC:gd K C)(yY:aF P w K mg aA "place_behind" 2 (xW K)):cZ P w K mg aA C "leads_to" 3 (iz K C λ_ S H Q=>∀v H',RD K H' v (gK (si S))->aH H H'->Q v H'):=by
 refine F.has Mw (λvs H Q E h=>?_) (λ_ _ _ _ _ _=>eJ λ_=>rfl) (λf aM A outer s H vs Q E hr h=>?_)
 ·obtain⟨a,q,M,D,S,rfl,_⟩:=h
  rfl
 ·obtain⟨a,q,M,D,S,rfl,R,ok,aL,k⟩:=h
  obtain⟨dx,mv,bv,cK,tv,e,r1,r2,r3,r4⟩:=R.ob;obtain⟨ys,eq,rq⟩:=R.qu;have nd:=Mw.nd;have ll:=ok.row.len;have ly:=rq.length;have lr:=aL.len;refine⟨_,(aE (pS 1 nd (cX TC.cl TC.wx (pv 0))) (aE (gJ fe Z (p8 K Z (cX TC.cl TC.jF (pv 0))) (aY 2 nd) (aG (pS 1 nd (pf yY hr (au (pv 1) (au (pv 2) az)))))) (aG (aR (pv 1))))),_,Z,a,dx,_,_,Z,e,Z,_,Z,a,dx,_,_,Z,e,Z,q,Z,⟨_,aK.of eq⟩,?_⟩;refine zu (K:=K) (a:=q) (xs:=ys) (λi O H1=>aH H H1/\∃hv v2,RD K H1 hv (gK ((S.os.take i).foldl ij S.pl))/\O=[some (.ref a),some hv,v2]) ⟨aH.refl _,bv,none,r2,Z⟩ (λi O H1 _ h=>aK.of (h.1 _ _ eq)) ?_ ?_
  ·rintro i x O H1 hx ⟨s1,hv,v2,rh,rfl⟩
   obtain⟨d,ed,rd⟩:=rq.get' i hx;obtain⟨o,eo,it⟩:=ok.row.get ed;have lp:((S.os.take i).foldl ij S.pl).length=M.rs.length:=HX _ _ ok.pl λo ho=>ok.yo o (Al ho);refine⟨_,Z,_,Z,hv,x,_,d,o,Z,rh,RD.mono s1 _ rd,it,λns sp e'=>by rw[lp];exact ok.yo o (gj eo) ns sp e',aw,λv H2 rv s2=>?_⟩;refine⟨s1.trans s2,v,_,?_,Z⟩;rw[kx,eo,xH];exact rv
  ·rintro O H1 ⟨s1,hv,v2,rh,rfl⟩
   rw[ly,ll,xD]at rh;exact⟨_,Z,k hv H1 rh s1⟩
structure Mv(a q:Addr)(H:Hp)(q':Addr)(H':Hp):Prop where
 but:da [a,q] H H'
 nq:q'=q\/H q'=none
theorem WG:bj ["self","machine","place"] ["self","machine","place"] (aX En):=bw aQ
def nH(pl:List Int):bJ:=⟨pl,0,[],[],0,100,"up","",none⟩
inductive a9r(K:ag)(C:Addr)(vs:List V)(H:Hp)(Q:VK):Prop |mk (a:_)(dx:_)(mv:_)(tO:_)(M:_)(pl:_)(h0:vs=[.ref a,mv,tO])(h1:H a=some (.ins C dx []))(h2:RD K H mv (bW.D M))(h3:RD K H tO (gK pl))(h4:∀q H',cN K C H' a q M (nH pl)->H q=none->da [a] H H'->Q .bN H')
def LC(K:ag)(C:Addr):Sp:=λvs H Q _=>a9r K C vs H Q
theorem Zo{C:Addr}(F:CA K mg C "Runner" "Runner.__init__" En)(TC:gd K C)(gN:GT K mg "NOUGHT" [.int 0,.int 1])(a4r:GV mg "FIRST_RATE" (.int 100)):CL P w K mg aA C "Runner" 1 (LC K C):=by
 obtain⟨aN,j7,gr⟩:=gN;refine F.has WG (λvs H Q E h=>?_) (λ_ _ _ _ _ _=>kW λ_ _ _=>rfl) (λf aM A outer s H vs Q E hr h=>?_)
 ·obtain⟨a,dx,mv,tO,M,pl,rfl,_⟩:=h
  rfl
 ·obtain⟨a,dx,mv,tO,M,pl,rfl,e,rm,rp,k⟩:=h
  refine⟨_,(aE (iB TC.cl TC.rn (pv 0) (pv 1)) (aE (iB TC.cl TC.wx (pv 0) (pv 2)) (aE (iB TC.cl TC.pC (pv 0) aD) (aE (iB TC.cl TC.jF (pv 0) (dj az)) (aE (iB TC.cl TC.rk (pv 0) (fC (x:="NOUGHT") rfl j7)) (aE (iB TC.cl TC.yI (pv 0) (fC (x:="FIRST_RATE") rfl a4r)) (aE (iB TC.cl TC.Gx (pv 0) fg) (aE (iB TC.cl TC.OU (pv 0) fg) (aG (iB TC.cl TC.wu (pv 0) fo)))))))))),?_⟩;refine⟨_,Z,_,Z,a,dx,_,Z,e,aB,?_⟩;refine⟨_,Z,_,Z,a,dx,_,Z,bQ,by show 1<1000;decide,?_⟩;refine⟨_,Z,a,dx,_,Z,bQ,by show 2<1000;decide,?_⟩;refine⟨bR Z,λq H1 n1=>?_⟩;have aq:a≠q:=λz=>by have:=n1.no;rw[<-z,bQ]at this;cases this
  have e1:=n1.same _ _ (bQ (a:=a));refine⟨_,Z,a,dx,_,Z,e1,by show 3<1000;decide,?_⟩;refine⟨_,Z,a,dx,_,Z,bQ,by show 4<1000;decide,?_⟩;refine⟨_,Z,a,dx,_,Z,bQ,by show 5<1000;decide,?_⟩;refine⟨_,Z,a,dx,_,Z,bQ,by show 6<1000;decide,?_⟩;refine⟨_,Z,a,dx,_,Z,bQ,by show 7<1000;decide,?_⟩;refine⟨_,Z,a,dx,_,Z,bQ,by show 8<1000;decide,?_⟩;have key:∀X:Hp,(∀b,b≠a->X b=H1 b)->Q .bN (L2.upd X a (.ins C dx (fP mv tO (.int 0) (.ref q) (.ref aN) (.int 100) (.str "up") (.str "") .bN))):=by
   intro X hX;have bt:da [a] H (L2.upd X a (.ins C dx (fP mv tO (.int 0) (.ref q) (.ref aN) (.int 100) (.str "up") (.str "") .bN))):=λb o eb hb=>by have ha:b≠a:=λz=>hb (by rw[z];exact .head _);rw[aV ha,hX b ha];exact n1.same _ _ (by rw[aV ha,aV ha,aV ha];exact eb)
   have sv:=bt.v λx hx o eo=>by rw[fF]at hx;rw[hx,e]at eo;cases eo;trivial
   refine k q _ ⟨⟨dx,mv,tO,.ref aN,.bN,bQ,RD.v sv _ (nP _ _ _ _ _) rm,RD.v sv _ (jE _) rp,wm (gr _),Z⟩,[],?_,cH⟩ ?_ bt
   ·rw[aV aq.symm,hX q aq.symm];exact n1.at'
   ·have:=n1.no
    rw[aV aq.symm,aV aq.symm,aV aq.symm]at this;exact this
  exact key _ (λb hb=>by rw[aV hb,aV hb,aV hb,aV hb,aV hb])
theorem Xl{M:bW}{pl:List Int}(hp:pl.length=M.rs.length):ck M 64 (nH pl):=⟨.nil,λi d e=>by simp[nH]at e,by simp[nH],(show(10:Int)<=100 by decide),(show(100:Int)<=200 by decide),.inl rfl,hp,⟨(show(0:Rat)<=0 by decide),(show(0:Rat).den<2^74 by decide+kernel)⟩,(show(0:Rat)<=1600 by decide+kernel),trivial,aB,aB⟩
theorem YQ{rs pl:List Int}(h:jN rs pl):Hd rs (gK pl)=true:=by show((pl.map PyData.int).length==rs.length&&(((pl.map PyData.int).zip rs).map λp=>fZ 0 p.2 p.1).all id)=true;rw[bL,h.len,JO,kz,gW];intro b hb;obtain⟨⟨d,r⟩,hm,rfl⟩:=fW.mp hb;obtain⟨i,hi⟩:=vo.mp hm;obtain⟨e1,e2⟩:=(K8 (z:=(d,r))).mp hi;rw[bX]at e1;cases e:pl[i]? with |none=>rw[e]at e1;cases e1 |some x=>rw[e]at e1;cases e1;obtain⟨a1,a2⟩:=h.at' i x r e e2;show(decide (0<=x)&&decide (x<=r))=true;rw[cm a1,cm a2];rfl
def lW(S:bJ)(d:aj)(o:Itm):bJ:={S with ds:=S.ds++[d],os:=S.os++[o]}
theorem ck.uK{M:bW}{D:Nat}{S:bJ}{d:aj}{o:Itm}(h:ck M D S)(it:xk M.rs.length d o)(hl:S.ds.length<20):ck M D (lW S d o):=by
 have ll:=h.row.len;refine⟨h.row.snoc it.it it.ln,RowW.snoc h.rw ll it.ot,by show(S.ds++[d]).length<=20;rw[cE];show _+1<=20;lia,h.bS,h.bT,?_,h.pl,h.pd,h.pm,h.stp,h.D1,h.D2⟩;rcases h.dn with e|⟨ns,sp,e,e2⟩
 ·exact .inl e
 ·refine .inr ⟨ns,sp,?_,e2⟩
  show(S.os++[o])[0]? =_;rw[kZ (cv.mp e).1];exact e
theorem My:bj ["self","item"] ["self","item"] (aX Et):=bw aQ
inductive a9u(K:ag)(C:Addr)(vs:List V)(H:Hp)(Q:VK):Prop |mk (a:_)(q:_)(M:_)(D:_)(S:_)(v:_)(d:_)(o:_)(h0:vs=[.ref a,v])(h1:cN K C H a q M S)(h2:ck M D S)(h3:M.Ok)(h4:RD K H v d)(h5:xk M.rs.length d o)(h6:jN M.rs (ij (si S) o))(h7:S.ds.length<20)(h8:∀H',cN K C H' a q M (lW S d o)->da [a,q] H H'->Q (.int (S.ds.length+1:Nat)) H')
def LG(K:ag)(C:Addr):Sp:=λvs H Q _=>a9u K C vs H Q
theorem Zu{C:Addr}(F:MA K C "feed" "Runner.feed" Et)(TC:gd K C)(B:bE mg)(a4k:GV mg "MOST_WAITING" (.int 20))(Hz:aF P w K mg aA "is_item" 4 (B7 K))(a3A:aF P w K mg aA "is_place" 3 (DI K))(yY:aF P w K mg aA "place_behind" 2 (xW K))(a4A:cZ P w K mg aA C "leads_to" 3 (iz K C λ_ S H Q=>∀v H',RD K H' v (gK (si S))->aH H H'->Q v H')):cZ P w K mg aA C "feed" 5 (LG K C):=by
 refine F.has My (λvs H Q E h=>?_) (λ_ _ _ _ _ _=>dC λ_ _=>rfl) (λf aM A outer s H vs Q E hr h=>?_)
 ·obtain⟨a,q,M,D,S,v,d,o,rfl,_⟩:=h
  rfl
 ·obtain⟨a,q,M,D,S,v,d,o,rfl,R,ok,aL,rd,it,yn,hl,k⟩:=h
  obtain⟨dx,mv,bv,cK,tv,e,r1,r2,r3,r4⟩:=R.ob;obtain⟨ys,eq,rq⟩:=R.qu;have nd:=My.nd;have lr:=aL.len;have ly:=rq.length;obtain⟨i1,i2,i3⟩:=it.is;refine⟨_,(aE (bp (cU (bU (pf Hz hr (au (cX TC.cl TC.rn (pv 0)) (au (pv 1) az))))) (aG jW) bA) (aE (bp (cU (bU (pf a3A hr (au (cX TC.cl TC.rn (pv 0)) (au (pf yY hr (au (jY a4A TC.cl (hr.mono aB) (pv 0)) (au (pv 1) az))) az))))) (aG jW) bA) (aE (bp (bG Bx (dk K B (au (cX TC.cl TC.jF (pv 0)) az)) (fC (x:="MOST_WAITING") rfl a4k) (aZ _)) (aG jW) bA) (aE (e9 (iP K Z (cX TC.cl TC.jF (pv 0)) (au (pv 1) az))) (aG (aR (dk K B (au (cX TC.cl TC.jF (pv 0)) az)))))))),?_⟩;refine⟨_,Z,a,dx,_,_,Z,e,Z,_,Z,mv,v,M.rs,_,d,Z,r1,rd,aw,i2,i3,λH1 s1=>⟨_,Z,?_⟩⟩;rw[i1];refine aW ?_;have e1:=s1 _ _ e;have R1:=R.same ok.row.no s1;refine⟨_,Z,a,dx,_,_,Z,e1,Z,?_⟩;refine⟨_,Z,a,dx,_,Z,e1,Z,a,q,M,D,S,Z,R1,ok,aL,λg H2 rg s2=>?_⟩;have gx:=s1.trans s2;have gl:(si S).length=M.rs.length:=HX _ _ ok.pl ok.yo;refine⟨_,Z,g,v,si S,d,o,Z,rg,RD.mono gx _ rd,it.it,λns sp e'=>by rw[gl];exact(it.ln ns sp e').1.len,aw,λu H3 ru s3=>?_⟩;have dR:=gx.trans s3;refine⟨mv,u,M.rs,_,_,Z,RD.mono dR _ r1,ru,aw,λH4 s4=>⟨_,Z,?_⟩⟩;rw[YQ yn];refine aW ?_;have iA:=dR.trans s4;have e4:=iA _ _ e;have eq4:=iA _ _ eq;refine⟨_,Z,a,dx,_,_,Z,e4,Z,q,_,Z,.inl (aK.of eq4),_,_,Z,Z,_,Z,?_⟩;rw[show decide ((ys.length:Int)>=20)=false from dF aw];refine aW ?_;have kR:sizeLine=16777216:=by decide
  refine⟨_,Z,a,dx,_,_,Z,e4,Z,.inl ⟨Z,_,aK.of eq4⟩,_,Z,q,ys,_,Z,Z,eq4,aw,?_⟩;have aq:=R.ne;have tu:cM H4 (L2.upd H4 q (.lst (ys++[v]))):=.upd eq4 trivial;have e5:(L2.upd H4 q (.lst (ys++[v]))) a=some (.ins C dx (fP mv bv (.int S.dn) (.ref q) cK (.int S.rate) (.str S.side) (.str S.mark) tv)):=by rw[aV aq];exact e4
  refine⟨_,Z,a,dx,_,_,Z,e5,Z,q,_,Z,.inl (aK.of bQ),?_⟩;have sv:cM H (L2.upd H4 q (.lst (ys++[v]))):=iA.v.trans tu;have el:((ys++[v]).length:Int)=((S.ds.length+1:Nat):Int):=by rw[cE,ly];rfl
  rw[el];refine k _ ⟨⟨dx,mv,bv,cK,tv,e5,RD.v sv _ (nP _ _ _ _ _) r1,RD.v sv _ (jE _) r2,r3.v sv,r4.v sv⟩,_,bQ,?_⟩ λb o' eb hb=>?_
  ·exact(aJ.v sv _ ok.row.no rq).append (cf (RD.v sv _ it.it.no rd) cH)
  ·have wM:b≠q:=λz=>hb (by rw[z];simp)
   rw[aV wM];exact iA _ _ eb
def iE(S:bJ):bJ:=match S.os with |o::os=>{S with pl:=ij S.pl o,ds:=S.ds.tail,os:=os,dn:=0} |[]=>S
theorem cw.tail{n:Nat}{d:aj}{ds:List aj}{o:Itm}{os:List Itm}(h:cw n (d::ds) (o::os)):cw n ds os:=⟨by have:=h.len;simpa using this,λi d' o' e1 e2=>h.it (i+1) d' o' (by simpa using e1) (by simpa using e2),λi ns sp e=>h.ok (i+1) ns sp (by simpa using e)⟩
theorem RowW.tail{d:aj}{ds:List aj}{o:Itm}{os:List Itm}(h:RowW (d::ds) (o::os)):RowW ds os:=λi d' e1 e2=>h (i+1) d' (by simpa using e1) (by simpa using e2)
structure ko(M:bW)(D:Nat)(S:bJ):Prop where
 row:cw M.rs.length S.ds S.os
 rw:RowW S.ds S.os
 len:S.ds.length<=20
 bS:10<=S.rate
 bT:S.rate<=200
 pl:S.pl.length=M.rs.length
 pd:Dd (D+10) S.pc
 pm:S.pc<=1600
 stp:ou D S.pc S.stp
 D1:64<=D
 D2:D<=1500
theorem ck.raw{M:bW}{D:Nat}{S:bJ}(h:ck M D S):ko M D S:=⟨h.row,h.rw,h.len,h.bS,h.bT,h.pl,h.pd,h.pm,h.stp,h.D1,h.D2⟩
theorem ko.ok{M:bW}{D:Nat}{S:bJ}(h:ko M D S)(hd:S.dn=0\/∃ns sp,S.os[0]? =some (some (ns,sp))/\S.dn<aI ns):ck M D S:=⟨h.row,h.rw,h.len,h.bS,h.bT,hd,h.pl,h.pd,h.pm,h.stp,h.D1,h.D2⟩
theorem ko.end{M:bW}{D:Nat}{S:bJ}(h:ko M D S)(hn:S.os≠[]):ck M D (iE S):=by obtain⟨pl,dn,ds,os,pc,rate,side,mark,stp⟩:=S;cases os with |nil=>exact(hn Z).elim |cons o os=>have ll:=h.row.len;cases ds with |nil=>simp at ll |cons d ds=>
 refine⟨h.row.tail,h.rw.tail,?_,h.bS,h.bT,.inl Z,?_,h.pd,h.pm,h.stp,h.D1,h.D2⟩
 ·have:=h.len
  simp only[jQ]at this;show ds.length<=20
  lia
 ·exact SJ h.pl λns sp e=>(h.row.ok 0 ns sp (by rw[<-e];rfl)).1.len
theorem a7x(xs:List V):kU xs (some 1) none=xs.drop 1:=J1 xs
theorem MC:bj ["self"] ["self"] (aX Ey):=bw aQ
inductive a9x(K:ag)(C:Addr)(vs:List V)(H:Hp)(Q:VK):Prop |mk (a:_)(q:_)(M:_)(D:_)(S:_)(h0:vs=[.ref a])(h1:cN K C H a q M S)(h2:ko M D S)(h3:M.Ok)(h4:S.os≠[])(h5:∀q' H',cN K C H' a q' M (iE S)->H q'=none->da [a] H H'->Q .bN H')
def DC(K:ag)(C:Addr):Sp:=λvs H Q _=>a9x K C vs H Q
theorem Zx{C:Addr}(F:MA K C "end_first" "Runner.end_first" Ey)(TC:gd K C)(yY:aF P w K mg aA "place_behind" 2 (xW K)):cZ P w K mg aA C "end_first" 3 (DC K C):=by
 refine F.has MC (λvs H Q E h=>?_) (λ_ _ _ _ _ _=>eJ λ_=>rfl) (λf aM A outer s H vs Q E hr h=>?_)
 ·obtain⟨a,q,M,D,S,rfl,_⟩:=h
  rfl
 ·obtain⟨a,q,M,D,S,rfl,R,ok,aL,hn,k⟩:=h
  obtain⟨dx,mv,bv,cK,tv,e,r1,r2,r3,r4⟩:=R.ob;obtain⟨ys,eq,rq⟩:=R.qu;have aq:=R.ne;have nd:=MC.nd;have lr:=aL.len;have ll:=ok.row.len;refine⟨_,(aE (iB TC.cl TC.wx (pv 0) (pf yY hr (au (cX TC.cl TC.wx (pv 0)) (au (px K (cX TC.cl TC.jF (pv 0)) aD) az)))) (aE (iB TC.cl TC.jF (pv 0) (vT (vG K rfl) (cX TC.cl TC.jF (pv 0)) (vR aD) vS)) (aG (iB TC.cl TC.pC (pv 0) aD)))),?_⟩;obtain⟨pl,dn,ds,os,pc,rate,side,mark,stp⟩:=S;cases os with |nil=>exact(hn Z).elim |cons o os=>cases ds with |nil=>simp at ll |cons d ds=>
   obtain⟨y,yr,rfl,ry,rr⟩:=rq.cons_inv;have it:itR d o:=ok.row.it 0 d o Z rfl;have lp:pl.length=M.rs.length:=ok.pl;refine⟨_,Z,a,dx,_,_,Z,e,Z,?_⟩;refine⟨_,Z,a,dx,_,_,Z,e,Z,.inl ⟨q,_,0,y,Z,Z,aK.of eq,cL (gI 0) Z,?_⟩⟩;refine⟨bv,y,pl,d,o,Z,r2,ry,it,λns sp e'=>by rw[lp];exact(ok.row.ok 0 ns sp (by rw[<-e'];rfl)).1.len,aw,λu H1 ru s1=>?_⟩;have e1:=s1 _ _ e;refine⟨_,Z,a,dx,_,Z,e1,by show 9<1000;decide,?_⟩;have eq1:(L2.upd H1 a (.ins C dx (fP mv u (.int dn) (.ref q) cK (.int rate) (.str side) (.str mark) tv))) q=some (.lst (y::yr)):=by rw[aV aq.symm];exact s1 _ _ eq
   refine⟨_,Z,a,dx,_,_,Z,bQ,Z,_,Z,q,_,Z,.inl ⟨aK.of eq1,λq' H2 n2=>?_⟩⟩;have e2:=n2.same _ _ (bQ (a:=a));refine⟨_,Z,a,dx,_,Z,e2,by show 9<1000;decide,?_⟩;refine⟨_,Z,a,dx,_,Z,bQ,by show 9<1000;decide,?_⟩;have Jr:a≠q':=λz=>by have:=n2.no;rw[<-z,bQ]at this;cases this
   have key:∀X:Hp,(∀b,b≠a->X b=H2 b)->Q .bN (L2.upd X a (.ins C dx (fP mv u (.int 0) (.ref q') cK (.int rate) (.str side) (.str mark) tv))):=by
    intro X hX;have bt:da [a] H (L2.upd X a (.ins C dx (fP mv u (.int 0) (.ref q') cK (.int rate) (.str side) (.str mark) tv))):=λb o' eb hb=>by have ha:b≠a:=λz=>hb (by rw[z];exact .head _);rw[aV ha,hX b ha];exact n2.same _ _ (by rw[aV ha];exact s1 _ _ eb)
    have sv:=bt.v λx hx o' eo=>by rw[fF]at hx;rw[hx,e]at eo;cases eo;trivial
    have VZ:cM H1 (L2.upd X a (.ins C dx (fP mv u (.int 0) (.ref q') cK (.int rate) (.str side) (.str mark) tv))):=λb o' nb eb=>by
     have ha:b≠a:=λz=>by rw[z,e1]at eb;cases eb;exact nb trivial
     rw[aV ha,hX b ha];exact n2.same _ _ (by rw[aV ha];exact eb)
    have kN:=n2.at';rw[a7x]at kN;refine k q' _ ⟨⟨dx,mv,u,cK,tv,bQ,RD.v sv _ (nP _ _ _ _ _) r1,RD.v VZ _ (jE _) ru,r3.v sv,r4.v sv⟩,yr,?_,?_⟩ ?_ bt
    ·rw[aV Jr.symm,hX q' Jr.symm];exact kN
    ·exact aJ.v sv _ ok.row.tail.no rr
    ·cases e':H q' with |none=>rfl |some o'=>have h1:=s1 _ _ e';have h2:=n2.no;rw[aV Jr.symm,h1]at h2;cases h2
   exact key _ (λb hb=>by rw[aV hb])
theorem mn4{x y z u q:Rat}(h:q=x\/q=y\/q=z\/q=u)(h1:q<=x)(h2:q<=y)(h3:q<=z)(h4:q<=u):mn (mn (mn x y) z) u=q:=by
 refine CZ ?_ (lQ (lQ (lQ h1 h2) h3) h4);rcases h with h|h|h|h
 ·rw[h];exact cy (fq _ _) (cy (fq _ _) (fq _ _))
 ·rw[h];exact cy (fq _ _) (cy (fq _ _) (gP _ _))
 ·rw[h];exact cy (fq _ _) (gP _ _)
 ·rw[h];exact gP _ _
theorem Px{H:Hp}{Q:VK}{l:Addr}{u1 u2 u3:V}{x y z:Rat}(dl:H l=some (.lst [u1,u2,u3]))(R1:bc K H u1 x)(R2:bc K H u2 y)(R3:bc K H u3 z)(b1:Bd 2000 x)(b2:Bd 2000 y)(b3:Bd 2000 z)(k:∀v,bc K H v (mn (mn x y) z)->Q v H):kD K [.ref l] H Q E0:=by
 refine⟨l,[u1,u2,u3],[x,y,z],Z,aK.of dl,⟨R1,b1,R2,b2,R3,b3,trivial⟩,by simp,λc v q e1 e2 hq=>k v ?_⟩;have e:mn (mn x y) z=q:=by
  refine mn3 ?_ (hq _ (by simp)) (hq _ (by simp)) (hq _ (by simp))
  match c,e2 with |0,e2=>cases e2;exact .inl rfl |1,e2=>cases e2;exact .inr (.inl rfl) |2,e2=>cases e2;exact .inr (.inr rfl)
 rw[e]
 match c,e1,e2 with |0,e1,e2=>cases e1;cases e2;exact R1 |1,e1,e2=>cases e1;cases e2;exact R2 |2,e1,e2=>cases e1;cases e2;exact R3
theorem Pw{H:Hp}{Q:VK}{l:Addr}{u1 u2 u3 u4:V}{x y z t:Rat}(dl:H l=some (.lst [u1,u2,u3,u4]))(R1:bc K H u1 x)(R2:bc K H u2 y)(R3:bc K H u3 z)(R4:bc K H u4 t)(b1:Bd 2000 x)(b2:Bd 2000 y)(b3:Bd 2000 z)(b4:Bd 2000 t)(k:∀v,bc K H v (mn (mn (mn x y) z) t)->Q v H):kD K [.ref l] H Q E0:=by
 refine⟨l,[u1,u2,u3,u4],[x,y,z,t],Z,aK.of dl,⟨R1,b1,R2,b2,R3,b3,R4,b4,trivial⟩,by simp,λc v q e1 e2 hq=>k v ?_⟩;have e:mn (mn (mn x y) z) t=q:=by
  refine mn4 ?_ (hq _ (by simp)) (hq _ (by simp)) (hq _ (by simp)) (hq _ (by simp))
  match c,e2 with |0,e2=>cases e2;exact .inl rfl |1,e2=>cases e2;exact .inr (.inl rfl) |2,e2=>cases e2;exact .inr (.inr (.inl rfl)) |3,e2=>cases e2;exact .inr (.inr (.inr rfl))
 rw[e]
 match c,e1,e2 with |0,e1,e2=>cases e1;cases e2;exact R1 |1,e1,e2=>cases e1;cases e2;exact R2 |2,e1,e2=>cases e1;cases e2;exact R3 |3,e1,e2=>cases e1;cases e2;exact R4
theorem Cv{D:Nat}{q:Rat}{z:Int}(h:Dd D q)(hl:q<=1600)(hz:0<=z)(yU:z<2^24)(hD:D<=1700):Bd 2000 (q+(z:Rat)):=by have b:Bd (D+11) q:=h.bd (cy hl aQ);exact(qo b aw).mono aw
theorem Mu:bj ["self","top","reach","left","rise","fall","middles","ends","square","steps","gone","still"] ["self","top","reach","left"] (aX El):=bw aQ
def Gp(M:bW)(S:bJ)(top R:Rat)(left:Int):bJ:={S with pc:=lO M.r M.f S.pc top R left S.stp,stp:=tT S.stp}
inductive a9q(K:ag)(C:Addr)(vs:List V)(H:Hp)(Q:VK):Prop |mk (a:_)(q:_)(M:_)(D:_)(S:_)(tv:_)(Rv:_)(top:_)(R:_)(left:_)(h0:vs=[.ref a,tv,Rv,.int left])(h1:cN K C H a q M S)(h2:ck M D S)(h3:M.Ok)(h4:bc K H tv top)(h5:Dd 14 top)(h6:top<=1600)(h7:bc K H Rv R)(h8:Dd 64 R)(h9:R<=1600)(uG:1<=left)(HR:left<=100)(Cd:¬Halt S.pc S.stp)(QH:∀v H',bc K H' v (jk M.r M.f S.pc top R left S.stp)->cN K C H' a q M (Gp M S top R left)->da [a] H H'->Q v H')
def LB(K:ag)(C:Addr):Sp:=λvs H Q _=>a9q K C vs H Q
theorem Zm{C:Addr}(F:MA K C "next_square" "Runner.next_square" El)(TC:gd K C)(mK:aF P w K mg aA "plus_whole" 4 (xV K))(Q9:aF P w K mg aA "times" 3 (nI (·*·) K))(rV:aF P w K mg aA "fraction" 3 (vC K))(wI:aF P w K mg aA "least" 2 (kD K))(zl:cZ P w K mg aA C "is_held" 1 (iz K C λ_ S H Q=>Q (.bl S.stp.isSome) H)):cZ P w K mg aA C "next_square" 5 (LB K C):=by
 refine F.has Mu (λvs H Q E h=>?_) (λ_ _ _ _ _ _=>sN λ_ _ _ _=>rfl) (λf aM A outer s H vs Q E hr h=>?_)
 ·obtain⟨a,q,M,D,S,tv,Rv,top,R,left,rfl,_⟩:=h
  rfl
 ·obtain⟨a,q,M,D,S,tv,Rv,top,R,left,rfl,R0,ok,aL,rt,td,tl,rR,Rd,Rl,l1,l2,nh,k⟩:=h
  obtain⟨dx,mv,bv,cK,sv,e,r1,r2,r3,r4⟩:=R0.ob;obtain⟨ys,eq,rq⟩:=R0.qu;have aq:=R0.ne;have nd:=Mu.nd;have qV:=aL.r1;have lX:=aL.f1;have D1:=ok.D1;have D2:=ok.D2;have kR:(2:Int)^24=16777216:=by decide
  obtain⟨ma,mb,rfl,gD,lT⟩:=mH r1;refine⟨_,(aE (p4 (i:=4) (j:=5) Z nd Z Z aB Z Z (au (px K (cX TC.cl TC.rn (pv 0)) aD) (au (px K (cX TC.cl TC.rn (pv 0)) aD) az)) rfl) (aE (pS 6 nd (dj (au (pf mK hr (au (cX TC.cl TC.rk (pv 0)) (au (pv 4) az))) (au (pv 1) (au (pf mK hr (au (pv 2) (au (aO bO (pv 5) (aO gM (aO bO aD (pv 3)) aD)) az))) az))))) (aE (pS 7 nd (dj (au (pf mK hr (au (cX TC.cl TC.rk (pv 0)) (au (aO bO aD (pv 4)) az))) (au (pv 1) (au (pf mK hr (au (pv 2) (au (aO bO (aO bO aD (pv 5)) (aO gM (pv 3) aD)) az))) az))))) (aE (iM (bp (bU (jY zl TC.cl (hr.mono aB) (pv 0))) (aE (eU (cX TC.cl TC.wu (pv 0)) (cW K rfl (n:=3) rfl (bC (aY 8 nd) (bC (aY 9 nd) (bC (aY 10 nd) cV))))) (aE (pS 11 nd (aO gM (aO gM (pv 9) (pv 10)) aD)) (aE (e9 (iP K Z (pv 6) (au (pf Q9 hr (au (pv 8) (au (pf rV hr (au (aO cQ (aO bO aD (pv 11)) aD) (au (aO bO aD (pv 9)) az))) az))) az))) (aE (e9 (iP K Z (pv 7) (au (pf Q9 hr (au (pv 8) (au (pf rV hr (au (pv 11) (au (pv 9) az))) az))) az))) (aG (iB TC.cl TC.wu (pv 0) (df (au (pv 8) (au (pv 9) (au (aO cQ (pv 10) aD) az)))))))))) bA)) (aE (iB TC.cl TC.rk (pv 0) (pf wI hr (au (pv 7) az))) (aG (aR (pf wI hr (au (pv 6) az))))))))),?_⟩;refine⟨_,Z,a,dx,_,_,Z,e,Z,.inr ⟨ma,_,1,.int M.r,Z,Z,gD,Z,?_⟩⟩;refine⟨_,Z,a,dx,_,_,Z,e,Z,.inr ⟨ma,_,2,.int M.f,Z,Z,gD,Z,_,_,Z,?_⟩⟩;have fl1:(M.f*(2*left-1)).natAbs<=50*200:=by rw[gm];exact oG aw aw
  have a5y:0<=M.f*(2*left-1):=iW aw aw;have fl2:(2*M.f*(left-1)).natAbs<=100*100:=by rw[gm];exact oG aw aw
  have a5x:0<=2*M.f*(left-1):=iW aw aw;have Od:Bd 2000 S.pc:=(ok.pd.bd (cy ok.pm aQ)).mono aw;have RB:Bd 2000 R:=(Rd.bd (cy Rl aQ)).mono aB;have tB:Bd 2000 top:=(td.bd (cy tl aQ)).mono aB;have B1:Bd 2000 (S.pc+(M.r:Rat)):=Cv ok.pd ok.pm aw aw aw;have B2:Bd 2000 (R+((M.f*(2*left-1):Int):Rat)):=Cv Rd Rl a5y aw aw;have B3:Bd 2000 (S.pc+((2*M.r:Int):Rat)):=Cv ok.pd ok.pm aw aw aw;have B4:Bd 2000 (R+((2*M.f*(left-1):Int):Rat)):=Cv Rd Rl a5x aw aw;refine⟨_,Z,a,dx,_,_,Z,e,Z,_,Z,cK,_,_,Z,r3,Od,aw,λu1 H1 jD s1=>?_⟩;refine⟨_,Z,_,Z,_,Z,_,Z,_,_,Z,Z,.of_left (cC aB aB),_,_,Z,Z,_,_,Z,Z,.of_left (cC aw aw),Rv,_,_,Z,rR.go s1,RB,aw,λu2 H2 oW s2=>?_⟩;refine⟨bR Z,λlm H3 n3=>?_⟩;have dR:=s1.trans (s2.trans n3.same);refine⟨_,Z,a,dx,_,_,Z,dR _ _ e,Z,_,Z,_,_,Z,Z,.of_left (cC aB aB),cK,_,_,Z,r3.go dR,Od,aw,λu3 H4 X5 s4=>?_⟩;have iA:=dR.trans s4;refine⟨_,Z,_,Z,_,Z,_,_,Z,Z,.of_left (cC aB aB),_,Z,_,_,Z,Z,_,_,Z,Z,.of_left (cC aw aw),Rv,_,_,Z,rR.go iA,RB,aw,λu4 H5 X4 s5=>?_⟩;refine⟨bR Z,λle H6 n6=>?_⟩;have jg:=iA.trans (s5.trans n6.same);have qN:=s4.trans (s5.trans n6.same);have e6:=jg _ _ e;have R6:=R0.same ok.row.no jg;have U1:=jD.go (s2.trans (n3.same.trans qN));have U2:=oW.go (n3.same.trans qN);have U3:=X5.go (s5.trans n6.same);have U4:=X4.go n6.same;have T6:=rt.go jg;have dm:=qN _ _ n3.at';have de:=n6.at';have Js:a≠lm:=λz=>by have:=n3.no;rw[<-z,(s1.trans s2) _ _ e]at this;cases this
  have Tg:a≠le:=λz=>by have:=n6.no;rw[<-z,(iA.trans s5) _ _ e]at this;cases this
  have Po:lm≠le:=λz=>by have:=n6.no;rw[<-z,(s4.trans s5) _ _ n3.at']at this;cases this
  have nlm:H lm=none:=by cases e':H lm with |none=>rfl |some o=>have:=(s1.trans s2) _ _ e';rw[n3.no]at this;cases this
  have nle:H le=none:=by cases e':H le with |none=>rfl |some o=>have:=(iA.trans s5) _ _ e';rw[n6.no]at this;cases this
  refine⟨λO H7=>∃tG w8 w9 oP qE um ue,O=[some (.ref a),some tv,some Rv,some (.int left),some (.int M.r),some (.int M.f),some (.ref lm),some (.ref le),w8,w9,oP,qE]/\da [a,lm,le] H6 H7/\H7 a=some (.ins C dx (fP (.ref ma) bv (.int S.dn) (.ref q) cK (.int S.rate) (.str S.side) (.str S.mark) tG))/\xh K H7 tG (tT S.stp)/\H7 lm=some (.lst um)/\H7 le=some (.lst ue)/\(∀H8 Q',cM H7 H8->H8 lm=some (.lst um)->(∀v,bc K H8 v (jk M.r M.f S.pc top R left S.stp)->Q' v H8)->kD K [.ref lm] H8 Q' E0)/\(∀H8 Q',cM H7 H8->H8 le=some (.lst ue)->(∀v,bc K H8 v (lO M.r M.f S.pc top R left S.stp)->Q' v H8)->kD K [.ref le] H8 Q' E0),?_,?_⟩
  ·refine⟨_,Z,a,dx,_,Z,e6,Z,a,q,M,D,S,Z,R6,ok,aL,_,Z,?_⟩
   cases hs:S.stp with |none=>rw[hs]at r4;refine aW ⟨sv,_,_,_,_,_,_,Z,da.refl _ _,e6,r4,dm,de,λH8 Q' sV d8 kq=>Px d8 (U1.v sV) (T6.v sV) (U2.v sV) B1 tB B2 kq,λH8 Q' sV d8 kq=>Px d8 (U3.v sV) (T6.v sV) (U4.v sV) B3 tB B4 kq⟩ |some z=>
    obtain⟨sq,st,gn⟩:=z;rw[hs]at r4;have sk:=ok.stp;rw[hs]at sk nh;obtain⟨g1,g2,g3⟩:=wo sk ok.pd.nn nh;obtain⟨gn0,gn1,AY,Dy,Dx,_,_⟩:=sk;obtain⟨ta,su,rfl,hta,hsu⟩:=r4;refine bK ?_;have a2Y:=hta.go jg;have Hn:=hsu.go jg;have Lg:Bd 2000 sq:=(Dy.bd Dx).mono aw;refine⟨_,Z,a,dx,_,_,Z,e6,Z,ta,_,Z,a2Y,Z,_,_,Z,_,_,Z,_,_,Z,Z,?_⟩;refine⟨_,Z,_,Z,_,_,Z,Z,_,_,Z,Z,?_⟩;have kR:sizeLine=16777216:=by decide
    refine⟨_,Z,.inl ⟨Z,_,aK.of dm⟩,_,Z,_,Z,_,_,Z,Z,.of_left (cC aB aB),_,_,Z,Z,_,Z,_,_,Z,Z,.of_left (cC aB aB),_,_,Z,aw,iJ (n:=64) aw aB,λfv H7 rf s7=>?_⟩;have fB:Bd 2000 (Rat.divInt (2*(st-gn-1)+1) (2*st)):=(lN (n:=12) aw aw aw).mono aB;have fB2:Bd 2000 (Rat.divInt (st-gn-1) st):=(lN (n:=12) aw aw aw).mono aB;have pB:Bd 2000 (sq*Rat.divInt (2*(st-gn-1)+1) (2*st)):=((Dy.bd Dx).mul (lN (n:=12) aw aw aw)).mono aw;have Yv:Bd 2000 (sq*Rat.divInt (st-gn-1) st):=((Dy.bd Dx).mul (lN (n:=12) aw aw aw)).mono aw;refine⟨su,fv,sq,_,Z,Hn.go s7,rf,Lg,fB,λx1 H8 WV s8=>?_⟩;have vK:=s7.trans s8;have RU:=vK _ _ dm;refine⟨lm,_,_,Z,Z,RU,by show 3<sizeLine;lia,?_⟩;have v8:cM H8 (L2.upd H8 lm (.lst ([u1,tv,u2]++[x1]))):=.upd RU trivial;have Sb:(L2.upd H8 lm (.lst ([u1,tv,u2]++[x1]))) le=some (.lst [u3,tv,u4]):=by rw[aV Po.symm];exact vK _ _ de
    refine⟨_,Z,.inl ⟨Z,_,aK.of Sb⟩,_,Z,_,Z,_,Z,_,_,Z,aw,iJ (n:=64) aw aB,λgv H9 rg s9=>?_⟩;refine⟨su,gv,sq,_,Z,((Hn.go vK).v v8).go s9,rg,Lg,fB2,λx2 iu WU jC=>?_⟩;have vJ:=s9.trans jC;have Sd:=vJ _ _ Sb;refine⟨le,_,_,Z,Z,Sd,by show 3<sizeLine;lia,?_⟩;have v10:cM iu (L2.upd iu le (.lst ([u3,tv,u4]++[x2]))):=.upd Sd trivial;refine⟨_,Z,_,Z,_,Z,_,_,Z,Z,bR Z,λtn ir jm=>?_⟩;have UP:cM H6 iu:=(vK.v.trans v8).trans vJ.v;have UO:cM H6 ir:=(UP.trans v10).trans jm.same.v;have e8:(L2.upd H8 lm (.lst ([u1,tv,u2]++[x1]))) a=some (.ins C dx (fP (.ref ma) bv (.int S.dn) (.ref q) cK (.int S.rate) (.str S.side) (.str S.mark) (.ref ta))):=by rw[aV Js];exact vK _ _ e6
    have RL:ir a=some (.ins C dx (fP (.ref ma) bv (.int S.dn) (.ref q) cK (.int S.rate) (.str S.side) (.str S.mark) (.ref ta))):=jm.same _ _ (by rw[aV Tg];exact vJ _ _ e8);refine⟨_,Z,a,dx,_,Z,RL,by show 9<1000;decide,?_⟩;have AK:cM ir (L2.upd ir a (.ins C dx (fP (.ref ma) bv (.int S.dn) (.ref q) cK (.int S.rate) (.str S.side) (.str S.mark) (.ref tn)))):=.upd RL trivial;have tj:=UO.trans AK;have UN:=(((v8.trans vJ.v).trans v10).trans jm.same.v).trans AK;have UR:=(v10.trans jm.same.v).trans AK;refine⟨.ref tn,_,_,_,_,[u1,tv,u2,x1],[u3,tv,u4,x2],Z,λb o' eb hb=>?_,bQ,⟨tn,su,Z,aU.v AK (aU.of jm.at'),Hn.v tj⟩,?_,?_,λH' Q' sV d' kq=>?_,λH' Q' sV d' kq=>?_⟩
    ·have ha:b≠a:=λz=>hb (by rw[z];simp)
     have hlm:b≠lm:=λz=>hb (by rw[z];simp);have hle:b≠le:=λz=>hb (by rw[z];simp);rw[aV ha];exact jm.same _ _ (by rw[aV hle];exact vJ _ _ (by rw[aV hlm];exact vK _ _ eb))
    ·rw[aV Js.symm]
     exact jm.same _ _ (by rw[aV Po];exact vJ _ _ bQ)
    ·rw[aV Tg.symm]
     exact jm.same _ _ bQ
    ·exact Pw d' ((U1.v tj).v sV) ((T6.v tj).v sV) ((U2.v tj).v sV) ((WV.v UN).v sV) B1 tB B2 pB kq
    ·exact Pw d' ((U3.v tj).v sV) ((T6.v tj).v sV) ((U4.v tj).v sV) ((WU.v UR).v sV) B3 tB B4 Yv kq
  ·rintro O H7 ⟨tG,w8,w9,oP,qE,um,ue,rfl,bt,e7,kC,dm7,de7,km,ke⟩
   refine⟨_,Z,?_⟩;dsimp only[vw];refine ke H7 _ .refl de7 λpe Xj=>?_;refine⟨_,Z,a,dx,_,Z,e7,by show 9<1000;decide,?_⟩;have v8:cM H7 (L2.upd H7 a (.ins C dx (fP (.ref ma) bv (.int S.dn) (.ref q) pe (.int S.rate) (.str S.side) (.str S.mark) tG))):=.upd e7 trivial;refine⟨_,Z,?_⟩;dsimp only[vw];refine km _ _ v8 (by rw[aV Js.symm];exact dm7) λv rv=>?_;have bH:da [a] H (L2.upd H7 a (.ins C dx (fP (.ref ma) bv (.int S.dn) (.ref q) pe (.int S.rate) (.str S.side) (.str S.mark) tG))):=λb o' eb hb=>by
    have ha:b≠a:=λz=>hb (by rw[z];simp);rw[aV ha];refine bt b o' (jg _ _ eb) λhm=>?_;simp only[dh,fV,jb]at hm;rcases hm with h|h|h
    ·exact ha h
    ·rw[h,nlm]at eb;cases eb
    ·rw[h,nle]at eb;cases eb
   have vH:cM H (L2.upd H7 a (.ins C dx (fP (.ref ma) bv (.int S.dn) (.ref q) pe (.int S.rate) (.str S.side) (.str S.mark) tG))):=bH.v λx hx o' eo=>by rw[fF]at hx;rw[hx,e]at eo;cases eo;trivial
   refine k v _ rv ⟨⟨dx,.ref ma,bv,pe,tG,bQ,RD.v vH _ (nP _ _ _ _ _) r1,RD.v vH _ (jE _) r2,Xj.v v8,kC.v v8⟩,ys,bH _ _ eq (by rw[fF];exact aq.symm),aJ.v vH _ ok.row.no rq⟩ bH
end
end Lw
set_option maxHeartbeats 2000000
namespace Lw
open PySem PySem.Spec PyProof.Rows L2 Rt Ln Cn Pn Wk Rn
open Ow (topR cornO mnO betR atO ownF leadF ownL OkI OkIs)
section
variable {w:World} {mg:bV} {aA:Heap}
noncomputable def dS(M:bW)(S:bJ):Rat:=qR M.f M.j S.rate S.os
noncomputable def ug(M:bW)(S:bJ)(ns:List Int)(sp:Int):Rat:=jk M.r M.f S.pc (topR S.rate sp) (dS M S) ((aI ns:Int)-S.dn) S.stp
noncomputable def nR(M:bW)(S:bJ)(ns:List Int)(sp:Int):aj:=mh M.t (fz ns S.dn) (ug M S ns sp)
noncomputable def fu(M:bW)(S:bJ)(ns:List Int)(sp:Int):bJ:={Gp M S (topR S.rate sp) (dS M S) ((aI ns:Int)-S.dn)with dn:=S.dn+1}
def fD(ns:List Int)(S:bJ):bJ:=if S.dn=aI ns then iE S else S
def cS(d:aj)(S:bJ):bJ:=match d with | .tuple [.str w,.str s]=>if w="tool" then{S with side:=s}else if w="mark" then{S with mark:=s}else S |_=>S
inductive One(M:bW):bJ->aj->bJ->Prop |line {S:bJ}{ns:List Int}{sp:Int}:S.os[0]? =some (some (ns,sp))->¬Halt S.pc S.stp->One M S (nR M S ns sp) (fD ns (fu M S ns sp)) |eV {S:bJ}{d:aj}:S.os[0]? =some none->S.ds[0]? =some d->¬Halt S.pc S.stp->One M S d (iE (cS d S))
inductive Run(M:bW):bJ->List aj->bJ->Prop |nil (S:bJ):Run M S [] S |cons {S S1 S2:bJ}{e:aj}{es:List aj}:One M S e S1->Run M S1 es S2->Run M S (e::es) S2
theorem Run.trans{M:bW}{S S1 S2:bJ}{es fs:List aj}(h:Run M S es S1)(g:Run M S1 fs S2):Run M S (es++fs) S2:=by induction h with |nil=>exact g |cons o _ ih=>exact .cons o (ih g)
theorem Run.snoc{M:bW}{S S1 S2:bJ}{es:List aj}{e:aj}(h:Run M S es S1)(g:One M S1 e S2):Run M S (es++[e]) S2:=h.trans (.cons g (.nil _))
theorem Bc{M:bW}{D:Nat}{S:bJ}(h:ko M D S)(d:aj):ko M D (cS d S)/\(cS d S).os=S.os/\(cS d S).ds=S.ds/\(cS d S).dn=S.dn/\(cS d S).pl=S.pl:=by
 unfold cS;split
 ·split
  ·exact⟨⟨h.row,h.rw,h.len,h.bS,h.bT,h.pl,h.pd,h.pm,h.stp,h.D1,h.D2⟩,Z,Z,Z,Z⟩
  ·split
   ·exact⟨⟨h.row,h.rw,h.len,h.bS,h.bT,h.pl,h.pd,h.pm,h.stp,h.D1,h.D2⟩,Z,Z,Z,Z⟩
   ·exact⟨h,Z,Z,Z,Z⟩
 ·exact⟨h,Z,Z,Z,Z⟩
theorem Bn{M:bW}{D:Nat}{S:bJ}(h:ko M D S)(aL:M.Ok)(hn:S.os≠[]):Dd 64 (dS M S)/\dS M S<=1600:=by
 have h1:1<=S.os.length:=by cases e:S.os with|nil=>exact(hn e).elim|cons _ _=>simp
 refine⟨a5u (by have:=aL.f1;lia) (λi _=>Yz aL.j1.1 aL.j1.2 h.bS h.bT h.row.yz i) 1 h1,?_⟩;exact cy (HZ h1) (Yx h.bS h.bT h.row.yz 1)
theorem GP{M:bW}{D:Nat}{S:bJ}{ns:List Int}{sp:Int}(h:ko M D S)(aL:M.Ok)(eo:S.os[0]? =some (some (ns,sp)))(hd:S.dn<aI ns)(nh:¬Halt S.pc S.stp):ko M D (fu M S ns sp):=by
 have hn:S.os≠[]:=λe=>by rw[e]at eo;simp at eo
 obtain⟨R1,R2⟩:=Bn h aL hn;obtain⟨cn,s1,s2⟩:=h.row.ok 0 ns sp eo;have D1:=h.D1;have qV:=aL.r1;have lX:=aL.f1;refine⟨h.row,h.rw,h.len,h.bS,h.bT,h.pl,?_,?_,?_,h.D1,h.D2⟩
 ·exact a70 aw aw aw h.pd ((Dp _ _).mono aw) (R1.mono aw) h.stp nh
 ·exact cy Rp (AO s1 s2 h.bS h.bT)
 ·exact W7 h.stp h.pd.nn nh
theorem One.ok{M:bW}{D:Nat}{S S1:bJ}{e:aj}(h:ck M D S)(aL:M.Ok)(o:One M S e S1):ck M D S1:=by cases o with
 |@line ns sp eo nh=>
  have hd:S.dn<aI ns:=by
   rcases h.dn with e|⟨fJ,iK,e1,e2⟩
   ·rw[e];exact(h.row.ok 0 ns sp eo).1.lead.1
   ·rw[eo]at e1;cases e1;exact e2
  have raw:=GP h.raw aL eo hd nh;have hn:S.os≠[]:=λe=>by rw[e]at eo;simp at eo
  unfold fD;split
  ·exact raw.end hn
  ·next dH=>
   refine raw.ok (.inr ⟨ns,sp,eo,?_⟩);have:(fu M S ns sp).dn=S.dn+1:=rfl
   lia |eV eo ed nh=>obtain⟨h1,h2,_⟩:=Bc h.raw e;refine h1.end ?_;rw[h2];intro z;rw[z]at eo;simp at eo
theorem Run.ok{M:bW}{D:Nat}{S S1:bJ}{es:List aj}(h:ck M D S)(aL:M.Ok)(r:Run M S es S1):ck M D S1:=by induction r with |nil=>exact h |cons o _ ih=>exact ih (o.ok h aL)
theorem One.no{M:bW}{D:Nat}{S S1:bJ}{e:aj}(h:ck M D S)(o:One M S e S1):dw e=true:=by cases o with |line _ _=>exact L8 _ _ _ |eV eo ed _=>exact cu.mp h.row.no _ (gj ed)
theorem Run.no{M:bW}{D:Nat}{S S1:bJ}{es:List aj}(h:ck M D S)(aL:M.Ok)(r:Run M S es S1):bM es=true:=by induction r with |nil=>rfl |cons o _ ih=>rw[bM,fG];exact⟨o.no h,ih (o.ok h aL)⟩
theorem BQ{b:Bool}{A B A' B':Prop}(h1:A->A')(h2:B->B'):(if b=true then A else B)->(if b=true then A' else B'):=by
 cases b
 ·exact h2
 ·exact h1
theorem Mt:bj ["self","most","line","lead","rows","top","reach","told","middle"] ["self","most"] (aX Eh):=bw aQ
inductive a9p(K:ag)(C:Addr)(vs:List V)(H:Hp)(Q:VK):Prop |mk (a:_)(q:_)(M:_)(D:_)(S:_)(ns:_)(sp:_)(most:_)(h0:vs=[.ref a,.int most])(h1:cN K C H a q M S)(h2:ck M D S)(h3:M.Ok)(h4:S.os[0]? =some (some (ns,sp)))(h5:¬Halt S.pc S.stp)(h6:1<=most)(h7:most<=1000)(h8:∀l ys es S' q' H',H l=none->H' l=some (.lst ys)->aJ K H' ys es->Run M S es S'->1<=es.length->(es.length:Int)<=most->cN K C H' a q' M S'->Mv a q H q' H'->l≠q'->Q (.ref l) H')
def LA(K:ag)(C:Addr):Sp:=λvs H Q _=>a9p K C vs H Q
theorem Zg{C:Addr}(F:MA K C "steps_of_first" "Runner.steps_of_first" Eh)(TC:gd K C)(B:bE mg)(mO:aF P w K mg aA "lead_of" 1 (kE K))(Ho:aF P w K mg aA "step_rows" 3 (B0 K))(rH:aF P w K mg aA "top_square" 4 (vB K))(a37:aF P w K mg aA "reach_behind_first" 9 (DB K))(a32:aF P w K mg aA "step_entry" 3 (DJ K))(HL:cZ P w K mg aA C "is_halted" 2 (iz K C λ_ S H Q=>Q (.bl (S.stp.isSome&&decide (S.pc=0))) H))(a4z:cZ P w K mg aA C "next_square" 5 (LB K C))(HN:cZ P w K mg aA C "end_first" 3 (DC K C)):cZ P w K mg aA C "steps_of_first" 10 (LA K C):=by
 refine F.has Mt (λvs H Q E h=>?_) (λ_ _ _ _ _ _=>dC λ_ _=>rfl) (λf aM A outer s H vs Q E hr h=>?_)
 ·obtain⟨a,q,M,D,S,ns,sp,most,rfl,_⟩:=h
  rfl
 ·obtain⟨a,q,M,D,S,ns,sp,most,rfl,R0,ok,aL,eo,nh,m1,m2,k⟩:=h
  obtain⟨dx,mv,bv,cK,tv,e,r1,r2,r3,r4⟩:=R0.ob;obtain⟨ys,eq,rq⟩:=R0.qu;have aq:=R0.ne;have nd:=Mt.nd;have lr:=aL.len;have qV:=aL.r1;have lX:=aL.f1;have ll:=ok.row.len;have wR:=ok.len;have C4:0<S.os.length:=(cv.mp eo).1;have dH:S.os≠[]:=λz=>by rw[z]at C4;exact absurd C4 aB
  obtain⟨d,ed⟩:∃d,S.ds[0]? =some d:=⟨_,bu (show 0<S.ds.length by lia)⟩;obtain⟨y,ey,ry⟩:=rq.get 0 ed;have j8:=jH (ok.row.it 0 d _ ed eo);subst j8;obtain⟨cn,dZ,eR⟩:=ok.row.ok 0 ns sp eo;have Gm:fb ns.length 1000 ns:=⟨Z,λz hz=>by have:=cn.bd z hz;lia,cn.nz⟩;have abz:=cn.lead.1;have BP:=pF cn;have ON:ns.length<=3:=by rw[cn.len];lia
  have hd0:S.dn<aI ns:=by
   rcases ok.dn with e'|⟨fJ,iK,e1,e2⟩
   ·lia
   ·rw[eo]at e1;cases e1;exact e2
  obtain⟨Rd,Rl⟩:=Bn ok.raw aL dH;refine⟨_,(aE (pS 2 nd (px K (cX TC.cl TC.jF (pv 0)) aD)) (aE (pS 3 nd (pf mO hr (au (pv 2) az))) (aE (pS 4 nd (pf Ho hr (au (pv 2) az))) (aE (pS 5 nd (pf rH hr (au (pv 2) (au (cX TC.cl TC.yI (pv 0)) az)))) (aE (pS 6 nd (pf a37 hr (au (cX TC.cl TC.rn (pv 0)) (au (cX TC.cl TC.jF (pv 0)) (au (cX TC.cl TC.yI (pv 0)) az))))) (aE (pS 7 nd (dj az)) (aE (iM (nK fe (PW.pt (nJ (bG jj (dk K B (au (pv 7) az)) (pv 1) (aZ _)) (nJ (bG jj (cX TC.cl TC.pC (pv 0)) (pv 3) (aZ _)) (qX (cU (bU (jY HL TC.cl (hr.mono aB) (pv 0)))))))) (aE (pS 8 nd (p9 a4z TC.cl (hr.mono aB) (pv 0) (au (pv 5) (au (pv 6) (au (aO gM (pv 3) (cX TC.cl TC.pC (pv 0))) az))))) (aE (e9 (iP K Z (pv 7) (au (pf a32 hr (au (cX TC.cl TC.rn (pv 0)) (au (px K (pv 4) (cX TC.cl TC.pC (pv 0))) (au (pv 8) az)))) az))) (aG (Y8 TC.cl TC.pC (pv 0) aD a2A)))))) (aE (iM (bp (bG (cI K Z hr.units) (cX TC.cl TC.pC (pv 0)) (pv 3) (aZ _)) (aG (e9 (jY HN TC.cl (hr.mono aB) (pv 0)))) bA)) (aG (aR (pv 7))))))))))),?_⟩;refine⟨_,Z,a,dx,_,_,Z,e,Z,.inl ⟨q,_,0,y,Z,Z,aK.of eq,cL (gI 0) ey,?_⟩⟩;refine⟨_,Z,y,ns,sp,Z,ry,cn.ne,aw,λH1 s1=>?_⟩;refine⟨_,Z,y,ns,sp,Z,RD.mono s1 _ ry,Gm,aw,λnQ yr H2 nlr RV NR s2=>?_⟩;have gx:=s1.trans s2;refine⟨_,Z,_,Z,a,dx,_,_,Z,gx _ _ e,Z,y,ns,sp,S.rate,Z,RD.mono gx _ ry,dZ,eR,ok.bS,ok.bT,λtx H3 X8 s3=>?_⟩;have dR:=gx.trans s3;have e3:=dR _ _ e;refine⟨_,Z,a,dx,_,_,Z,e3,Z,_,Z,a,dx,_,_,Z,e3,Z,_,Z,a,dx,_,_,Z,e3,Z,mv,.ref q,S.rate,M.rs,M.r,M.f,M.j,M.t,S.ds,S.os,Z,RD.mono dR _ r1,aL,vO (aK.of (dR _ _ eq)) (aJ.mono dR _ rq),ok.row,aw,aw,ok.bS,ok.bT,λtN H4 Xe s4=>?_⟩;have iA:=dR.trans s4;refine⟨bR Z,λl H5 n5=>?_⟩;have kG:=iA.trans n5.same;have NA:aH H2 H5:=s3.trans (s4.trans n5.same);have nl:H l=none:=by cases e':H l with |none=>rfl |some o=>have:=iA _ _ e';rw[n5.no]at this;cases this
  have OM:H nQ=none:=by cases e':H nQ with |none=>rfl |some o=>have:=s1 _ _ e';rw[nlr]at this;cases this
  have al:a≠l:=λz=>by rw[<-z,e]at nl;cases nl
  have ql:q≠l:=λz=>by rw[<-z,eq]at nl;cases nl
  have Te:a≠nQ:=λz=>by rw[<-z,e]at OM;cases OM
  have llr:l≠nQ:=λz=>by have:=n5.no;rw[z,(s3.trans s4) _ _ RV]at this;cases this
  have UB:=NR.length;rw[qP]at UB;have td:=Dp S.rate sp;have tl:=AO dZ eR ok.bS ok.bT;have tp:=Ky dZ ok.bS;have a0B:fD ns S=S:=by unfold fD;rw[bB aw]
  have kR:sizeLine=16777216:=by decide
  refine⟨λO H6=>∃T es us w8,O=[some (.ref a),some (.int most),some y,some (.int (aI ns)),some (.ref nQ),some tx,some tN,some (.ref l),w8]/\da [a,l] H5 H6/\cN K C H6 a q M T/\ko M D T/\T.os=S.os/\T.ds=S.ds/\T.rate=S.rate/\T.dn<=aI ns/\1<=es.length/\(es.length:Int)<=most/\H6 l=some (.lst us)/\aJ K H6 us es/\bM es=true/\Run M S es (fD ns T),?_,?_⟩
  ·refine nu (λO H6=>∃T es us w8,O=[some (.ref a),some (.int most),some y,some (.int (aI ns)),some (.ref nQ),some tx,some tN,some (.ref l),w8]/\da [a,l] H5 H6/\cN K C H6 a q M T/\ko M D T/\T.os=S.os/\T.ds=S.ds/\T.rate=S.rate/\T.dn=S.dn+es.length/\T.dn<=aI ns/\(es.length:Int)<=most/\H6 l=some (.lst us)/\aJ K H6 us es/\bM es=true/\Run M S es (fD ns T)/\(es=[]->¬Halt T.pc T.stp)) (λ_ H6=>match H6 l with|some (.lst us)=>2000-us.length|_=>0) ?_ ?_ ?_
   ·exact⟨S,[],[],none,Z,da.refl _ _,R0.same ok.row.no kG,ok.raw,Z,Z,Z,Z,aw,by simp;lia,n5.at',cH,Z,by rw[a0B];exact .nil _,λ_=>nh⟩
   ·rintro O H6 ⟨T,es,us,w8,rfl,bt,RT,raw,fL,iS,jq,oh,Qo,pQ,dl,rd,jZ,run,hnh⟩
    have lu:=rd.length;obtain⟨uQ,mv6,bv6,Yu,V7,e6,t1,t2,t3,t4⟩:=RT.ob;have Dm:cM H5 H6:=bt.v λx hx o' eF=>by
     simp only[dh,fV,jb]at hx;rcases hx with rfl|rfl
     ·rw[kG _ _ e]at eF;cases eF;trivial
     ·rw[n5.at']at eF;cases eF;trivial
    have nos:bM T.ds=true:=by rw[iS];exact ok.row.no
    have wV:1<=es.length->∃T' pZ lA AI,[some (.ref a),some (.int most),some y,some (.int (aI ns)),some (.ref nQ),some tx,some tN,some (.ref l),w8]=[some (.ref a),some (.int most),some y,some (.int (aI ns)),some (.ref nQ),some tx,some tN,some (.ref l),AI]/\da [a,l] H5 H6/\cN K C H6 a q M T'/\ko M D T'/\T'.os=S.os/\T'.ds=S.ds/\T'.rate=S.rate/\T'.dn<=aI ns/\1<=pZ.length/\(pZ.length:Int)<=most/\H6 l=some (.lst lA)/\aJ K H6 lA pZ/\bM pZ=true/\Run M S pZ (fD ns T'):=λh1=>⟨T,es,us,w8,Z,bt,RT,raw,fL,iS,jq,Qo,h1,pQ,dl,rd,jZ,run⟩;refine⟨_,Z,l,us,Z,.inl (aK.of dl),_,Z,_,_,Z,Z,_,Z,?_⟩;show if decide ((us.length:Int)<most)=true then _ else _;by_cases c1:(us.length:Int)<most
    ·rw[cm c1]
     refine bK ?_;refine⟨_,Z,a,uQ,_,_,Z,e6,Z,_,Z,_,_,Z,Z,_,Z,?_⟩;show if decide ((T.dn:Int)<(aI ns:Int))=true then _ else _;by_cases c2:T.dn<aI ns
     ·rw[cm aw]
      refine bK ?_;have OA:ck M D T:=raw.ok (.inr ⟨ns,sp,by rw[fL];exact eo,c2⟩);have a0A:fD ns T=T:=by unfold fD;rw[bB aw]
      refine⟨_,Z,a,uQ,_,Z,e6,Z,a,q,M,D,T,Z,RT,OA,aL,_,Z,?_⟩;by_cases c3:Halt T.pc T.stp
      ·have hb:(T.stp.isSome&&decide (T.pc=0))=true:=by obtain⟨h1,h2⟩:=c3;rw[cm h2,Kk];cases hs:T.stp with |none=>exact(h1 hs).elim |some _=>rfl
       rw[hb];refine aW ?_;refine wV ?_;cases es with |nil=>exact(hnh Z c3).elim |cons _ _=>simp
      ·have hb:(T.stp.isSome&&decide (T.pc=0))=false:=by cases hs:T.stp with |none=>rfl |some _=>show decide (T.pc=0)=false;exact dF λh2=>c3 ⟨by rw[hs];simp,h2⟩
       rw[hb];refine bK ?_;have rT:dS M T=dS M S:=by unfold dS;rw[fL,jq]
       refine⟨_,Z,a,uQ,_,Z,e6,Z,?_⟩;refine⟨_,Z,_,Z,_,Z,_,Z,a,uQ,_,_,Z,e6,Z,_,_,Z,Z,?_⟩;have X7:bc K H6 tx (topR S.rate sp):=((X8.go s4).go n5.same).v Dm;have Xd:bc K H6 tN (dS M S):=(Xe.go n5.same).v Dm;refine⟨a,q,M,D,T,tx,tN,topR S.rate sp,dS M S,_,Z,RT,OA,aL,X7,td,tl,Xd,Rd,Rl,aw,aw,c3,λmid H7 Xn R7 b7=>?_⟩;obtain⟨sC,mF,CB,Bs,AM,e7',KQ,VT,VS,VR⟩:=R7.ob;have e7:H7 a=some (.ins C sC (fP mF CB (.int T.dn) (.ref q) Bs (.int T.rate) (.str T.side) (.str T.mark) AM)):=e7';have AJ:cM H6 H7:=b7.v λx hx o' eF=>by rw[fF]at hx;rw[hx,e6]at eF;cases eF;trivial
       have sH:=b7 _ _ dl (by rw[fF];exact al.symm);have a7q:=NA _ _ RV;have a7p:=bt _ _ a7q (by simp;exact⟨Te.symm,llr.symm⟩);have a7o:=b7 _ _ a7p (by rw[fF];exact Te.symm);have Xq:aJ K H7 yr (iL ns):=aJ.v AJ _ (Bk ns) (aJ.v Dm _ (Bk ns) (aJ.mono NA _ NR));obtain⟨rv,R9⟩:∃rv,yr[T.dn]? =some rv:=⟨_,bu (show T.dn<yr.length by lia)⟩;obtain⟨dr,RI,XE⟩:=Xq.get' T.dn R9;rw[Bl c2]at RI;cases RI;have mB:Bd 2000 (jk M.r M.f T.pc (topR S.rate sp) (dS M S) ((aI ns:Int)-T.dn) T.stp):=by have D1:=raw.D1;have D2:=raw.D2;exact((P8 aw aw aw raw.pd (td.mono aw) (Rd.mono aw) raw.stp c3).bd (cy P6 (cy tl aQ))).mono aw
       have mP:0<jk M.r M.f T.pc (topR S.rate sp) (dS M S) ((aI ns:Int)-T.dn) T.stp:=P7 qV.1 lX.1 aw raw.pd.nn tp Rd.nn raw.stp c3;refine⟨_,Z,.inl ⟨Z,_,aK.of sH⟩,?_⟩;refine⟨_,Z,a,sC,_,_,Z,e7,Z,?_⟩;refine⟨_,Z,_,Z,a,sC,_,_,Z,e7,Z,.inl ⟨nQ,_,_,_,Z,Z,aK.of a7o,cL (show(0:Int)<=(T.dn:Int) by lia) (by simpa using R9),?_⟩⟩;refine⟨_,Z,mF,rv,mid,M.rs,M.r,M.f,M.j,M.t,fz ns T.dn,_,Z,KQ,aL,XE,Xn,mB,mP,λent H8 XA s8=>?_⟩;have zJ:=s8 _ _ sH;refine⟨l,us,_,Z,Z,zJ,aw,?_⟩;have e8:(L2.upd H8 l (.lst (us++[ent]))) a=some (.ins C sC (fP mF CB (.int T.dn) (.ref q) Bs (.int T.rate) (.str T.side) (.str T.mark) AM)):=by rw[aV al];exact s8 _ _ e7
       refine⟨_,Z,a,sC,_,_,Z,e8,Z,_,_,Z,Z,sC,_,e8,by show 9<1000;decide,?_⟩;have vl:cM H8 (L2.upd H8 l (.lst (us++[ent]))):=.upd zJ trivial;have va:cM (L2.upd H8 l (.lst (us++[ent]))) (L2.upd (L2.upd H8 l (.lst (us++[ent]))) a (.ins C sC (fP mF CB (.int ((T.dn:Int)+1)) (.ref q) Bs (.int T.rate) (.str T.side) (.str T.mark) AM))):=.upd e8 trivial;have v7:=(s8.v.trans vl).trans va;have eS:fu M T ns sp={Gp M T (topR S.rate sp) (dS M S) ((aI ns:Int)-T.dn)with dn:=T.dn+1}:=by unfold fu;rw[rT,jq]
       have eE:nR M T ns sp=mh M.t (fz ns T.dn) (jk M.r M.f T.pc (topR S.rate sp) (dS M S) ((aI ns:Int)-T.dn) T.stp):=by unfold nR ug;rw[rT,jq]
       have a3b:One M T (nR M T ns sp) (fD ns (fu M T ns sp)):=.line (by rw[fL];exact eo) c3;obtain⟨yq,eq7,Xf⟩:=R7.qu;have Gu:bM (es++[nR M T ns sp])=true:=cu.mpr λd hd=>by
        rcases jz.mp hd with h|h
        ·exact cu.mp jZ d h
        ·rw[fF]at h;rw[h];exact L8 _ _ _
       have q7l:q≠l:=ql;refine⟨⟨fu M T ns sp,es++[nR M T ns sp],us++[ent],_,Z,λb o' eb hb=>?_,?_,GP raw aL (by rw[fL];exact eo) c2 c3,fL,iS,jq,?_,?_,?_,?_,?_,?_,?_,λz=>by simp at z⟩,?_⟩
       ·have ha:b≠a:=λz=>hb (by rw[z];simp)
        have gE:b≠l:=λz=>hb (by rw[z];simp);rw[aV ha,aV gE];exact s8 _ _ (b7 _ _ (bt _ _ eb hb) (by rw[fF];exact ha))
       ·rw[eS]
        refine⟨⟨sC,mF,CB,Bs,AM,?_,RD.v v7 _ (nP _ _ _ _ _) KQ,RD.v v7 _ (jE _) VT,VS.v v7,VR.v v7⟩,yq,?_,aJ.v v7 _ nos Xf⟩
        ·exact bQ
        ·rw[aV aq.symm,aV ql];exact s8 _ _ eq7
       ·show T.dn+1=_
        rw[cE];show _=_+(_+1);lia
       ·show T.dn+1<=_
        lia
       ·rw[cE];show((es.length+1:Nat):Int)<=most;lia
       ·rw[aV al.symm,bQ]
       ·refine aJ.v va _ Gu (aJ.v vl _ Gu ?_)
        have r7:aJ K H8 us es:=aJ.mono s8 _ (aJ.v AJ _ jZ rd);refine r7.append (cf ?_ cH);rw[eE];exact XA
       ·exact Gu
       ·rw[a0A]at run
        exact run.snoc a3b
       ·show(match(L2.upd (L2.upd H8 l (.lst (us++[ent]))) a _) l with|some (.lst us)=>2000-us.length|_=>0)<(match H6 l with|some (.lst us)=>2000-us.length|_=>0)
        rw[aV al.symm,bQ,dl];show 2000-(us++[ent]).length<2000-us.length;rw[cE];show 2000-(us.length+1)<_
        lia
     ·rw[dF aw]
      refine aW ?_;exact wV aw
    ·rw[dF c1]
     refine aW ?_;exact wV aw
   ·rintro O H6 Q1 Q2 hq ⟨v1,f1,l',lA,f2,f3,v2,f4,i1,i2,f5,f6,b1,f7,h⟩
    refine⟨v1,f1,l',lA,f2,f3,v2,f4,i1,i2,f5,f6,b1,f7,BQ ?_ (hq _ _) h⟩;rintro⟨v3,f8,a',mY,nY,u',f9,wU,Io,v4,f12,i3,i4,f13,f14,b2,Im,h⟩;refine⟨v3,f8,a',mY,nY,u',f9,wU,Io,v4,f12,i3,i4,f13,f14,b2,Im,BQ ?_ (hq _ _) h⟩;rintro⟨v5,Il,a2,uR,HU,Ik,Ij,Ii,a3,q3,M3,D3,S3,Ih,Ig,Ie,Ic,b3,Ib,h⟩;exact⟨v5,Il,a2,uR,HU,Ik,Ij,Ii,a3,q3,M3,D3,S3,Ih,Ig,Ie,Ic,b3,Ib,hq _ _ h⟩
  ·rintro O H6 ⟨T,es,us,w8,rfl,bt,RT,raw,fL,iS,jq,Qo,h1,pQ,dl,rd,jZ,run⟩
   obtain⟨uQ,mv6,bv6,Yu,V7,e6,t1,t2,t3,t4⟩:=RT.ob;have a3m:T.os≠[]:=by rw[fL];exact dH
   have bH:∀{H7:Hp},da [a] H6 H7->da [a,q] H H7:=λ{H7} b7 b o' eb hb=>by
    have ha:b≠a:=λz=>hb (by rw[z];simp);refine b7 _ _ (bt _ _ (kG _ _ eb) λhm=>?_) (by rw[fF];exact ha);simp only[dh,fV,jb]at hm;rcases hm with h|h
    ·exact ha h
    ·rw[h,nl]at eb;cases eb
   refine⟨λO H7=>∃q' AI,O=[some (.ref a),some (.int most),some y,some (.int (aI ns)),some (.ref nQ),some tx,some tN,some (.ref l),AI]/\cN K C H7 a q' M (fD ns T)/\Mv a q H q' H7/\l≠q'/\∃lA,H7 l=some (.lst lA)/\aJ K H7 lA es,?_,?_⟩
   ·refine⟨_,Z,a,uQ,_,_,Z,e6,Z,_,Z,.inl ⟨_,_,Z,Z,_,Z,?_⟩⟩
    show if decide ((T.dn:Int)=(aI ns:Int))=true then _ else _;by_cases c:T.dn=aI ns
    ·rw[cm aw]
     refine bK ?_;refine⟨_,Z,a,uQ,_,Z,e6,Z,a,q,M,D,T,Z,RT,raw,aL,a3m,λq' H7 R7 nq b7=>?_⟩;have AJ:cM H6 H7:=b7.v λx hx o' eF=>by rw[fF]at hx;rw[hx,e6]at eF;cases eF;trivial
     refine⟨q',_,Z,by unfold fD;rw[bo c];exact R7,⟨bH b7,.inr ?_⟩,λz=>?_,us,b7 _ _ dl (by rw[fF];exact al.symm),aJ.v AJ _ jZ rd⟩
     ·cases e':H q' with |none=>rfl |some o'=>
      have h5:=kG _ _ e';by_cases ha:q'=a
      ·rw[ha,e6]at nq;cases nq
      ·by_cases gE:q'=l
       ·rw[gE,nl]at e';cases e'
       ·have:=bt _ _ h5 (by simp;exact⟨ha,gE⟩)
        rw[nq]at this;cases this
     ·rw[<-z,dl]at nq;cases nq
    ·rw[dF aw]
     refine aW ?_;exact⟨q,_,Z,by unfold fD;rw[bB c];exact RT,⟨bH (da.refl _ _),.inl Z⟩,ql.symm,us,dl,rd⟩
   ·rintro O H7 ⟨q',AI,rfl,R7,mF,lq,lA,sH,XF⟩
    exact⟨_,Z,k l lA es (fD ns T) q' H7 nl sH XF run h1 pQ R7 mF lq⟩
theorem Mv.trans{a q q1 q2:Addr}{H H1 H2:Hp}(m1:Mv a q H q1 H1)(m2:Mv a q1 H1 q2 H2)(ha:H1 a≠none):Mv a q H q2 H2:=by
 refine⟨λb o e hb=>?_,?_⟩
 ·refine m2.but _ _ (m1.but _ _ e hb) λhm=>?_
  simp only[dh,fV,jb]at hm hb;rcases hm with h|h
  ·exact hb (.inl h)
  ·rcases m1.nq with h1|h1
   ·exact hb (.inr (h.trans h1))
   ·rw[<-h]at h1;rw[h1]at e;cases e
 ·rcases m2.nq with h|h
  ·rw[h];exact m1.nq
  ·cases e:H q2 with |none=>exact .inr rfl |some o=>
   by_cases h1:q2=q
   ·exact .inl h1
   ·by_cases h2:q2=a
    ·rw[h2]at h;exact(ha h).elim
    ·have:=m1.but _ _ e (by simp;exact⟨h2,h1⟩)
     rw[h]at this;cases this
inductive a9v(K:ag)(C:Addr)(vs:List V)(H:Hp)(Q:VK):Prop |mk (a:_)(q:_)(M:_)(D:_)(S:_)(most:_)(h0:vs=[.ref a,.int most])(h1:cN K C H a q M S)(h2:ck M D S)(h3:M.Ok)(h4:S.os≠[])(h5:¬Halt S.pc S.stp)(h6:1<=most)(h7:most<=1000)(h8:∀l ys es S' q' H',H l=none->H' l=some (.lst ys)->aJ K H' ys es->Run M S es S'->1<=es.length->(es.length:Int)<=most->cN K C H' a q' M S'->Mv a q H q' H'->l≠q'->Q (.ref l) H')
def LH(K:ag)(C:Addr):Sp:=λvs H Q _=>a9v K C vs H Q
theorem Mz:bj ["self","most","item"] ["self","most"] (aX Eu):=bw aQ
theorem Zv{C:Addr}(F:MA K C "entries_of_first" "Runner.entries_of_first" Eu)(TC:gd K C)(lU:aF P w K mg aA "is_line" 1 (qK K))(a4y:cZ P w K mg aA C "steps_of_first" 10 (LA K C))(HN:cZ P w K mg aA C "end_first" 3 (DC K C)):cZ P w K mg aA C "entries_of_first" 11 (LH K C):=by
 refine F.has Mz (λvs H Q E h=>?_) (λ_ _ _ _ _ _=>dC λ_ _=>rfl) (λf aM A outer s H vs Q E hr h=>?_)
 · obtain⟨a,q,M,D,S,most,rfl,_⟩:=h
   rfl
 · obtain⟨a,q,M,D,S,most,rfl,R0,ok,aL,dH,nh,m1,m2,k⟩:=h
   obtain⟨dx,mv,bv,cK,tv,e,r1,r2,r3,r4⟩:=R0.ob;obtain⟨ys,eq,rq⟩:=R0.qu;have aq:=R0.ne;have nd:=Mz.nd;have ll:=ok.row.len;have C4:0<S.os.length:=by cases h:S.os with|nil=>exact(dH h).elim|cons _ _=>simp
   obtain⟨d,ed⟩:∃d,S.ds[0]? =some d:=⟨_,bu (show 0<S.ds.length by lia)⟩;obtain⟨y,ey,ry⟩:=rq.get 0 ed;obtain⟨o,eo,it⟩:=ok.row.get ed;refine⟨_,(aE (pS 2 nd (px K (cX TC.cl TC.jF (pv 0)) aD)) (aE (bp (bU (pf lU hr (au (pv 2) az))) (aG (aR (p9 a4y TC.cl (hr.mono aB) (pv 0) (au (pv 1) az)))) bA) (aE (iM (bp (bG (cI K Z hr.units) (px K (pv 2) aD) fg (aZ _)) (aG (iB TC.cl TC.Gx (pv 0) (px K (pv 2) aD))) bA)) (aE (iM (bp (bG (cI K Z hr.units) (px K (pv 2) aD) fg (aZ _)) (aG (iB TC.cl TC.OU (pv 0) (px K (pv 2) aD))) bA)) (aE (e9 (jY HN TC.cl (hr.mono aB) (pv 0))) (aG (aR (dj (au (pv 2) az))))))))),?_⟩;refine⟨_,Z,a,dx,_,_,Z,e,Z,.inl ⟨q,_,0,y,Z,Z,aK.of eq,cL (gI 0) ey,?_⟩⟩;refine⟨_,Z,y,d,o,Z,ry,it,_,Z,?_⟩;cases o with |some z=>obtain⟨ns,sp⟩:=z;refine bK ?_;exact⟨_,Z,a,dx,_,Z,e,Z,_,Z,a,q,M,D,S,ns,sp,most,Z,R0,ok,aL,eo,nh,m1,m2,k⟩ |none=>
     refine aW ?_;have eV:=ok.rw 0 d eo ed;have wd:∃z u ya yr,d= .tuple [.str z,u]/\y= .ref ya/\aU K H ya (.str z::[yr])/\RD K H yr u/\SeqAt.shaped (.str z)=true:=by
      rcases eV with⟨n,rfl,_⟩|⟨w',s',rfl,hw,_⟩
      · obtain⟨ya,xs,rfl,h1,h2⟩:=ry.cB
        obtain⟨x1,rr,rfl,e1,h2⟩:=h2.cons_inv;obtain⟨x2,rr,rfl,e2,h2⟩:=h2.cons_inv;cases h2.nil_inv;cases e1.str_inv;exact⟨_,_,ya,x2,Z,Z,h1,e2,aQ⟩
      · obtain⟨ya,xs,rfl,h1,h2⟩:=ry.cB
        obtain⟨x1,rr,rfl,e1,h2⟩:=h2.cons_inv;obtain⟨x2,rr,rfl,e2,h2⟩:=h2.cons_inv;cases h2.nil_inv;cases e1.str_inv;exact⟨_,_,ya,x2,Z,Z,h1,e2,by rcases hw with rfl|rfl<;>decide+kernel⟩
     obtain⟨z,u,ya,yr,rfl,rfl,yV,NF,sz⟩:=wd;have tU:SeqAt.shaped (.str "tool")=true:=by decide+kernel
     have tM:SeqAt.shaped (.str "mark")=true:=by decide+kernel
     have eqT:∀(x y:Str),PyData.eqv (.str x) (.str y)=decide (x=y):=λx y=>by show(x==y)=decide (x=y);rw[oM];simp
     refine⟨λO H1=>O=[some (.ref a),some (.int most),some (.ref ya)]/\da [a] H H1/\H1 a=some (.ins C dx (fP mv bv (.int S.dn) (.ref q) cK (.int S.rate) (.str (if z="tool" then(cS (.tuple [.str z,u]) S).side else S.side)) (.str S.mark) tv)),?_,?_⟩
     · refine⟨_,Z,.inr ⟨ya,_,0,.str z,Z,Z,yV,cL (gI 0) Z,.inr ⟨_,_,cT _,cT _,sz,tU,_,Z,?_⟩⟩⟩
       rw[eqT];by_cases c:z="tool"
       · rw[cm c]
         refine bK ?_;have hu:∃s',u= .str s':=by
          rcases eV with⟨n,h,_⟩|⟨w',s',h,hw,_⟩
          ·cases h;exact absurd c aQ
          ·cases h;exact⟨_,rfl⟩
         obtain⟨s',rfl⟩:=hu;cases NF.str_inv;refine⟨_,Z,.inr ⟨ya,_,1,.str s',Z,Z,yV,cL aB Z,_,Z,a,dx,_,Z,e,by show 9<1000;decide,?_⟩⟩;refine⟨Z,CD (by simp),?_⟩;rw[bo c];have es:(cS (.tuple [.str z,.str s']) S).side=s':=by unfold cS;simp only[bo c]
         rw[es];exact bQ
       · rw[dF c]
         refine aW ⟨Z,da.refl _ _,?_⟩;rw[bB c];exact e
     rintro O H1 ⟨rfl,b1,e1⟩;have UT:cM H H1:=b1.v λx hx o' eF=>by rw[fF]at hx;rw[hx,e]at eF;cases eF;trivial
     have Q7:=aU.v UT yV;refine⟨λO H2=>O=[some (.ref a),some (.int most),some (.ref ya)]/\da [a] H H2/\H2 a=some (.ins C dx (fP mv bv (.int S.dn) (.ref q) cK (.int S.rate) (.str (cS (.tuple [.str z,u]) S).side) (.str (cS (.tuple [.str z,u]) S).mark) tv)),?_,?_⟩
     · refine⟨_,Z,.inr ⟨ya,_,0,.str z,Z,Z,Q7,cL (gI 0) Z,.inr ⟨_,_,cT _,cT _,sz,tM,_,Z,?_⟩⟩⟩
       rw[eqT];by_cases c:z="mark"
       · rw[cm c]
         refine bK ?_;have nt:¬z="tool":=by rw[c];decide+kernel
         rw[bB nt]at e1;have hu:∃s',u= .str s':=by
          rcases eV with⟨n,h,_⟩|⟨w',s',h,hw,_⟩
          ·cases h;exact absurd c aQ
          ·cases h;exact⟨_,rfl⟩
         obtain⟨s',rfl⟩:=hu;cases NF.str_inv;refine⟨_,Z,.inr ⟨ya,_,1,.str s',Z,Z,Q7,cL aB Z,_,Z,a,dx,_,Z,e1,by show 9<1000;decide,?_⟩⟩;refine⟨Z,b1.trans (CD (by simp)),?_⟩;have es:(cS (.tuple [.str z,.str s']) S).side=S.side/\(cS (.tuple [.str z,.str s']) S).mark=s':=by constructor<;>(unfold cS;simp only[bB nt,bo c])
         rw[es.1,es.2];exact bQ
       · rw[dF c]
         refine aW ⟨Z,b1,?_⟩;have em:(cS (.tuple [.str z,u]) S).mark=S.mark:=by
          unfold cS;split
          · next h => cases h;split
                      ·rfl
                      ·first|rfl|rw[bB c]
          ·rfl
         have es:(if z="tool" then(cS (.tuple [.str z,u]) S).side else S.side)=(cS (.tuple [.str z,u]) S).side:=by
          by_cases c2:z="tool"
          ·rw[bo c2]
          · rw[bB c2]
            unfold cS;split
            ·next h=>cases h;first|rfl|rw[bB c2,bB c]
            ·rfl
         rw[es]at e1;rw[em];exact e1
     rintro O H2 ⟨rfl,b2,e2⟩;have xM:cM H H2:=b2.v λx hx o' eF=>by rw[fF]at hx;rw[hx,e]at eF;cases eF;trivial
     obtain⟨O1,Bv,IV,dn',mz⟩:=Bc ok.raw (.tuple [.str z,u]);have fx:(cS (.tuple [.str z,u]) S).pc=S.pc/\(cS (.tuple [.str z,u]) S).rate=S.rate/\(cS (.tuple [.str z,u]) S).stp=S.stp:=by
      unfold cS;split
      · split
        ·exact⟨Z,Z,Z⟩
        ·split<;>exact⟨Z,Z,Z⟩
      ·exact⟨Z,Z,Z⟩
     have R2:cN K C H2 a q M (cS (.tuple [.str z,u]) S):=by
      refine⟨⟨dx,mv,bv,cK,tv,?_,RD.v xM _ (nP _ _ _ _ _) r1,?_,?_,?_⟩,ys,b2 _ _ eq (by rw[fF];exact aq.symm),?_⟩
      ·rw[dn',fx.2.1];exact e2
      ·rw[mz];exact RD.v xM _ (jE _) r2
      ·rw[fx.1];exact r3.v xM
      ·rw[fx.2.2];exact r4.v xM
      ·rw[IV];exact aJ.v xM _ ok.row.no rq
     refine⟨_,Z,a,dx,_,Z,e2,Z,a,q,M,D,_,Z,R2,O1,aL,by rw[Bv];exact dH,λq' H3 R3 nq b3=>?_⟩;have Jj:=b2.trans b3;have US:cM H H3:=Jj.v λx hx o' eF=>by rw[fF]at hx;rw[hx,e]at eF;cases eF;trivial
     have nq0:H q'=none:=by cases e':H q' with |none=>rfl |some o'=>
        by_cases ha:q'=a
        ·rw[ha,e2]at nq;cases nq
        · have:=b2 _ _ e' (by rw[fF];exact ha)
          rw[nq]at this;cases this
     refine⟨_,Z,bR Z,λl H4 n4=>?_⟩;have nl:H l=none:=by cases e':H l with |none=>rfl |some o'=>
        by_cases ha:l=a
        · obtain⟨dx3,_,_,_,_,e3,_⟩:=R3.ob
          have:=n4.no;rw[ha,e3]at this;cases this
        · have:=Jj _ _ e' (by rw[fF];exact ha)
          rw[n4.no]at this;cases this
     have okS:ck M D (iE (cS (.tuple [.str z,u]) S)):=O1.end (by rw[Bv];exact dH);refine k l [.ref ya] [.tuple [.str z,u]] _ q' H4 nl n4.at' (cf (RD.v (US.trans n4.same.v) _ (cu.mp ok.row.no _ (gj ed)) ry) cH) (.cons (.eV eo ed nh) (.nil _)) (by simp) (by simpa using m1) (R3.same okS.row.no n4.same) ⟨λb o' eb hb=>n4.same _ _ (Jj _ _ eb (by rw[fF];intro h;exact hb (by rw[h];simp))),.inr nq0⟩ ?_;intro h;have:=n4.no;obtain⟨yq,eq3,_⟩:=R3.qu;rw[h,eq3]at this;cases this
inductive a9w(K:ag)(C:Addr)(vs:List V)(H:Hp)(Q:VK):Prop |mk (a:_)(q:_)(M:_)(D:_)(S:_)(n:_)(h0:vs=[.ref a,.int n])(h1:cN K C H a q M S)(h2:ck M D S)(h3:M.Ok)(h4:0<=n)(h5:n<=1000)(h6:∀l ys es S' q' H',H l=none->H' l=some (.lst ys)->aJ K H' ys es->Run M S es S'->(es.length:Int)<=n->((es.length:Int)=n\/S'.os=[]\/Halt S'.pc S'.stp)->cN K C H' a q' M S'->Mv a q H q' H'->l≠q'->Q (.ref l) H')
def LI(K:ag)(C:Addr):Sp:=λvs H Q _=>a9w K C vs H Q
theorem MB:bj ["self","n","told"] ["self","n"] (aX Ew):=bw aQ
theorem Zw{C:Addr}(F:MA K C "entries" "Runner.entries" Ew)(TC:gd K C)(B:bE mg)(HL:cZ P w K mg aA C "is_halted" 2 (iz K C λ_ S H Q=>Q (.bl (S.stp.isSome&&decide (S.pc=0))) H))(a4C:cZ P w K mg aA C "entries_of_first" 11 (LH K C)):cZ P w K mg aA C "entries" 12 (LI K C):=by
 refine F.has MB (λvs H Q E h=>?_) (λ_ _ _ _ _ _=>dC λ_ _=>rfl) (λf aM A outer s H vs Q E hr h=>?_)
 ·obtain⟨a,q,M,D,S,n,rfl,_⟩:=h
  rfl
 ·obtain⟨a,q,M,D,S,n,rfl,R0,ok,aL,n0,n1,k⟩:=h
  have nd:=MB.nd;refine⟨_,(aE (pS 2 nd (dj az)) (aE (iM (nK fe (PW.pt (nJ (bG jj (dk K B (au (pv 2) az)) (pv 1) (aZ _)) (nJ (Gd K Z (cX TC.cl TC.jF (pv 0))) (qX (cU (bU (jY HL TC.cl (hr.mono aB) (pv 0)))))))) (aG (e9 (vX K Z (pv 2) (au (p9 a4C TC.cl (hr.mono aB) (pv 0) (au (aO gM (pv 1) (dk K B (au (pv 2) az))) az)) az)))))) (aG (aR (pv 2))))),?_⟩;refine⟨bR Z,λl H1 nw=>?_⟩;obtain⟨dx,mv,bv,cK,tv,e,r1,r2,r3,r4⟩:=R0.ob;obtain⟨ys,eq,rq⟩:=R0.qu;have al:a≠l:=λz=>by have:=nw.no;rw[<-z,e]at this;cases this
  have ql:q≠l:=λz=>by have:=nw.no;rw[<-z,eq]at this;cases this
  have hq0:H q≠none:=by rw[eq];simp
  have ha0:H a≠none:=by rw[e];simp
  refine⟨λO H2=>∃es S' q' us,O=[some (.ref a),some (.int n),some (.ref l)]/\cN K C H2 a q' M S'/\H2 l=some (.lst us)/\aJ K H2 us es/\Run M S es S'/\(es.length:Int)<=n/\((es.length:Int)=n\/S'.os=[]\/Halt S'.pc S'.stp)/\Mv a q H q' H2/\l≠q',?_,?_⟩
  ·refine nu (λO H2=>∃es S' q' us,O=[some (.ref a),some (.int n),some (.ref l)]/\cN K C H2 a q' M S'/\H2 l=some (.lst us)/\aJ K H2 us es/\Run M S es S'/\(es.length:Int)<=n/\Mv a q H q' H2/\l≠q') (λ_ H2=>match H2 l with|some (.lst us)=>2000-us.length|_=>0) ?_ ?_ ?_
   ·exact⟨[],S,q,[],Z,R0.same ok.row.no nw.same,nw.at',cH,.nil _,by simpa using n0,⟨.of nw.same,.inl rfl⟩,ql.symm⟩
   ·rintro O H2 ⟨es,S',q',us,rfl,R2,dl,rd,run,pQ,wz,lq⟩
    have kH:=run.ok ok aL;have jZ:=run.no ok aL;have lu:=rd.length;obtain⟨uR,mv2,bv2,abm,tv2,e2,t1,t2,t3,t4⟩:=R2.ob;obtain⟨yq,eq2,Xg⟩:=R2.qu;have GH:=Xg.length;have Pp:=kH.row.len;refine⟨_,Z,l,us,Z,.inl (aK.of dl),_,Z,_,_,Z,Z,_,Z,?_⟩;show if decide ((us.length:Int)<n)=true then _ else _;by_cases c1:(us.length:Int)<n
    ·rw[cm c1]
     refine bK ?_;refine⟨_,Z,a,uR,_,_,Z,e2,Z,_,.inl ⟨_,aK.of eq2,Z⟩,?_⟩;cases jn:S'.os with |nil=>have:yq=[]:=De.mp (by rw[GH,Pp,jn];rfl);subst this;refine aW ?_;exact⟨es,S',q',us,Z,R2,dl,rd,run,pQ,.inr (.inl jn),wz,lq⟩ |cons o os=>
      have dH:S'.os≠[]:=by rw[jn];simp
      have:∃y yr,yq=y::yr:=by cases yq with |nil=>rw[Pp,jn]at GH;simp at GH |cons y yr=>exact⟨y,yr,Z⟩
      obtain⟨y,yr,rfl⟩:=this;refine bK ?_;refine⟨_,Z,a,uR,_,Z,e2,Z,a,q',M,D,S',Z,R2,kH,aL,_,Z,?_⟩;by_cases c3:Halt S'.pc S'.stp
      ·have hb:(S'.stp.isSome&&decide (S'.pc=0))=true:=by obtain⟨h1,h2⟩:=c3;rw[cm h2,Kk];cases hs:S'.stp with |none=>exact(h1 hs).elim |some _=>rfl
       rw[hb];exact aW ⟨es,S',q',us,Z,R2,dl,rd,run,pQ,.inr (.inr c3),wz,lq⟩
      ·have hb:(S'.stp.isSome&&decide (S'.pc=0))=false:=by cases hs:S'.stp with |none=>rfl |some _=>show decide (S'.pc=0)=false;exact dF λh2=>c3 ⟨by rw[hs];simp,h2⟩
       rw[hb];refine bK ?_;refine⟨_,Z,.inl ⟨Z,_,aK.of dl⟩,?_⟩;refine⟨_,Z,a,uR,_,Z,e2,Z,_,Z,_,Z,l,us,Z,.inl (aK.of dl),_,_,Z,Z,?_⟩;refine⟨a,q',M,D,S',_,Z,R2,kH,aL,dH,c3,aw,aw,λl2 y2 fs S2 q2 H3 tX IY qU y9 f1 f2 R3 BF jG=>?_⟩;have UQ:=R2.v BF.but;have sI:=BF.but _ _ dl (by simp;exact⟨al.symm,lq⟩);have vP:=aJ.v UQ _ jZ rd;have ly2:=qU.length;have kR:sizeLine=16777216:=by decide
       refine⟨l,l2,us,y2,Z,Z,sI,IY,aw,?_⟩;have vu:cM H3 (L2.upd H3 l (.lst (us++y2))):=.upd sI trivial;have a3i:=y9.no kH aL;have eX:=y9.ok kH aL;have Pf:l≠q2:=λz=>by
        rcases BF.nq with h|h
        ·exact lq (z.trans h)
        ·rw[<-z,dl]at h;cases h
       refine⟨⟨es++fs,S2,q2,us++y2,Z,R3.go eX.row.no vu (λo' eF=>by rw[aV al];exact eF) (λo' eF=>by rw[aV Pf.symm];exact eF),bQ,(aJ.v vu _ jZ vP).append (aJ.v vu _ a3i qU),run.trans y9,by rw[cE];lia,?_,Pf⟩,?_⟩
       ·have m:=wz.trans BF (by rw[e2];simp)
        exact⟨λb o' eb hb=>by
         have gE:b≠l:=λz=>by have:=nw.no;rw[<-z,eb]at this;cases this
         rw[aV gE];exact m.but _ _ eb hb,m.nq⟩
       ·show(match(L2.upd H3 l (.lst (us++y2))) l with|some (.lst us)=>2000-us.length|_=>0)<(match H2 l with|some (.lst us)=>2000-us.length|_=>0)
        rw[bQ,dl];show 2000-(us++y2).length<2000-us.length;rw[cE]
        lia
    ·rw[dF c1]
     refine aW ?_;exact⟨es,S',q',us,Z,R2,dl,rd,run,pQ,.inl aw,wz,lq⟩
   ·rintro O H6 Q1 Q2 hq ⟨v1,f1,l',lA,f2,f3,v2,f4,i1,i2,f5,f6,b1,f7,h⟩
    refine⟨v1,f1,l',lA,f2,f3,v2,f4,i1,i2,f5,f6,b1,f7,BQ ?_ (hq _ _) h⟩;rintro⟨v3,f8,a',mY,nY,u',f9,wU,Io,b2,Im,h⟩;refine⟨v3,f8,a',mY,nY,u',f9,wU,Io,b2,Im,BQ ?_ (hq _ _) h⟩;rintro⟨v5,Il,a2,uR,HU,Ik,Ij,Ii,a3,q3,M3,D3,S3,Ih,Ig,Ie,Ic,b3,Ib,h⟩;exact⟨v5,Il,a2,uR,HU,Ik,Ij,Ii,a3,q3,M3,D3,S3,Ih,Ig,Ie,Ic,b3,Ib,hq _ _ h⟩
  ·rintro O H2 ⟨es,S',q',us,rfl,R2,dl,rd,run,pQ,uy,wz,lq⟩
   exact⟨_,Z,k l us es S' q' H2 nw.no dl rd run pQ uy R2 wz lq⟩
theorem cN.Gb{C:Addr}{H:Hp}{a q dx:Addr}{M:bW}{S S':bJ}{mv bv cK tv:V}(R:cN K C H a q M S)(e:H a=some (.ins C dx (fP mv bv (.int S.dn) (.ref q) cK (.int S.rate) (.str S.side) (.str S.mark) tv))){CC Bt qG:V}(hn:bM S.ds=true)(hd:S'.ds=S.ds) (r1:RD K H mv M.D)(r2:RD K H CC (gK S'.pl))(r3:bc K H Bt S'.pc)(r4:xh K H qG S'.stp):cN K C (L2.upd H a (.ins C dx (fP mv CC (.int S'.dn) (.ref q) Bt (.int S'.rate) (.str S'.side) (.str S'.mark) qG))) a q M S':=by
 have v:cM H (L2.upd H a (.ins C dx (fP mv CC (.int S'.dn) (.ref q) Bt (.int S'.rate) (.str S'.side) (.str S'.mark) qG))):=.upd e trivial;obtain⟨ys,eq,rq⟩:=R.qu;refine⟨⟨dx,mv,CC,Bt,qG,bQ,RD.v v _ (nP _ _ _ _ _) r1,RD.v v _ (jE _) r2,r3.v v,r4.v v⟩,ys,?_,?_⟩
 ·rw[aV R.ne.symm];exact eq
 ·rw[hd];exact aJ.v v _ hn rq
theorem Wz:bj ["self","rate"] ["self","rate"] (aX Ed):=bw aQ
inductive a9o(K:ag)(C:Addr)(vs:List V)(H:Hp)(Q:VK):Prop |mk (a:_)(q:_)(M:_)(D:_)(S:_)(rate:_)(h0:vs=[.ref a,.int rate])(h1:cN K C H a q M S)(h2:ck M D S)(h3:M.Ok)(h4:10<=rate)(h5:rate<=200)(h6:S.pc=0)(h7:∀H',cN K C H' a q M {S with rate:=rate}->da [a] H H'->Q (.int rate) H')
def Lz(K:ag)(C:Addr):Sp:=λvs H Q _=>a9o K C vs H Q
theorem Zc{C:Addr}(F:MA K C "turn_rate" "Runner.turn_rate" Ed)(TC:gd K C)(Hy:aF P w K mg aA "is_rate" 3 (B5 K))(HK:cZ P w K mg aA C "stands" 1 (iz K C λ_ S H Q=>Q (.bl (decide (S.pc=0))) H)):cZ P w K mg aA C "turn_rate" 4 (Lz K C):=by
 refine F.has Wz (λvs H Q E h=>?_) (λ_ _ _ _ _ _=>dC λ_ _=>rfl) (λf aM A outer s H vs Q E hr h=>?_)
 ·obtain⟨a,q,M,D,S,rate,rfl,_⟩:=h
  rfl
 ·obtain⟨a,q,M,D,S,rate,rfl,R,ok,aL,h1,h2,hp,k⟩:=h
  obtain⟨dx,mv,bv,cK,tv,e,r1,r2,r3,r4⟩:=R.ob;refine⟨_,(aE (bp (cU (bU (pf Hy hr (au (pv 1) az)))) (aG jW) bA) (aE (bp (cU (bU (jY HK TC.cl (hr.mono aB) (pv 0)))) (aG jW) bA) (aE (iB TC.cl TC.yI (pv 0) (pv 1)) (aG (aR (pv 1)))))),?_⟩;refine⟨_,Z,_,.int rate,Z,dN _,_,Z,?_⟩;have er:G1 (.int rate)=true:=by show(decide (10<=rate)&&decide (rate<=200))=true;rw[cm h1,cm h2];rfl
  rw[er];refine aW ?_;refine⟨_,Z,a,dx,_,Z,e,Z,a,q,M,D,S,Z,R,ok,aL,_,Z,?_⟩;rw[cm hp];refine aW ?_;refine⟨_,Z,_,Z,a,dx,_,Z,e,by show 9<1000;decide,?_⟩;exact⟨_,Z,k _ (R.Gb (S':={S with rate:=rate}) e ok.row.no rfl r1 r2 r3 r4) (CD (by simp))⟩
theorem WJ:bj ["self"] ["self"] (aX Es):=bw aQ
inductive a9t(K:ag)(C:Addr)(vs:List V)(H:Hp)(Q:VK):Prop |mk (a:_)(q:_)(M:_)(D:_)(S:_)(h0:vs=[.ref a])(h1:cN K C H a q M S)(h2:ck M D S)(h3:∀H',cN K C H' a q M {S with stp:=none}->da [a] H H'->Q (.int (S.ds.length:Nat)) H')
def LF(K:ag)(C:Addr):Sp:=λvs H Q _=>a9t K C vs H Q
theorem Zt{C:Addr}(F:MA K C "go" "Runner.go" Es)(TC:gd K C)(B:bE mg):cZ P w K mg aA C "go" 1 (LF K C):=by
 refine F.has WJ (λvs H Q E h=>?_) (λ_ _ _ _ _ _=>eJ λ_=>rfl) (λf aM A outer s H vs Q E hr h=>?_)
 ·obtain⟨a,q,M,D,S,rfl,_⟩:=h
  rfl
 ·obtain⟨a,q,M,D,S,rfl,R,ok,k⟩:=h
  obtain⟨dx,mv,bv,cK,tv,e,r1,r2,r3,r4⟩:=R.ob;obtain⟨ys,eq,rq⟩:=R.qu;refine⟨_,(aE (iB TC.cl TC.wu (pv 0) fo) (aG (aR (dk K B (au (cX TC.cl TC.jF (pv 0)) az))))),?_⟩;refine⟨_,Z,a,dx,_,Z,e,by show 9<1000;decide,?_⟩;have uO:(L2.upd H a (.ins C dx (fP mv bv (.int S.dn) (.ref q) cK (.int S.rate) (.str S.side) (.str S.mark) .bN))) q=some (.lst ys):=by rw[aV R.ne.symm];exact eq
  refine⟨_,Z,a,dx,_,_,Z,bQ,Z,q,_,Z,.inl (aK.of uO),?_⟩;rw[rq.length];exact k _ (R.Gb (S':={S with stp:=none}) e ok.row.no rfl r1 r2 r3 rfl) (CD (by simp))
def jT(f:Int)(pc:Rat):Int:=(pc.num+2*f*(pc.den:Int)-1)/(2*f*(pc.den:Int))
theorem L4{f:Int}(hf:1<=f){pc:Rat}(h:0<=pc):(0<=jT f pc)/\(jT f pc=0->pc=0)/\pc<=((2*f*jT f pc:Int):Rat)/\(pc<=1600->jT f pc<=1000):=by
 have hn:=JR.mpr h;have hd:0<2*f*(pc.den:Int):=gX aw (den_pos pc);have hd1:2*(pc.den:Int)<=2*f*(pc.den:Int):=by
  have:2*1*(pc.den:Int)<=2*f*(pc.den:Int):=Up aw aw
  lia
 unfold jT;generalize hD:2*f*(pc.den:Int)=dd at hd hd1;have q1:=Int.mul_ediv_add_emod (pc.num+dd-1) dd;have q2:=oK (pc.num+dd-1) (show dd≠0 by lia);have q3:=t7 (pc.num+dd-1) hd;have q0:0<=(pc.num+dd-1)/dd:=Int.ediv_nonneg aw aw;generalize hQ:(pc.num+dd-1)/dd=Q at q0 q1;generalize(pc.num+dd-1)%dd=R at q1 q2 q3;have hle:pc.num<=dd*Q:=by lia
 refine⟨q0,λe=>?_,?_,λhm=>?_⟩
 ·rw[e,Ke]at hle
  have:pc.num=0:=by lia
  exact Rat.num_eq_zero.mp this
 ·refine oF.mp λbP=>?_
  rw[CY,JS,JU]at bP;have e1:2*f*Q*(pc.den:Int)=dd*Q:=by rw[<-hD,Int.mul_right_comm]
  rw[e1]at bP
  lia
 ·have uF:¬((1600:Rat)<pc):=oF.mpr hm
  rw[CY]at uF;have e1:(1600:Rat).num=1600:=rfl;have e2:(1600:Rat).den=1:=rfl;rw[e1,e2]at uF;have h3:pc.num<=1600*(pc.den:Int):=by lia
  refine Int.not_lt.mp λbP=>?_;have h4:dd*1001<=dd*Q:=Kg aw aw
  lia
theorem Ms:bj ["self","p","q","in_one"] ["self"] (aX Eg):=bw aQ
theorem Zf{C:Addr}(F:MA K C "stops_in" "Runner.stops_in" Eg)(TC:gd K C):cZ P w K mg aA C "stops_in" 1 (iz K C λM S H Q=>Q (.int (jT M.f S.pc)) H):=by
 refine F.has Ms (λvs H Q E h=>?_) (λ_ _ _ _ _ _=>eJ λ_=>rfl) (λf aM A outer s H vs Q E hr h=>?_)
 ·obtain⟨a,q,M,D,S,rfl,_⟩:=h
  rfl
 ·obtain⟨a,q,M,D,S,rfl,R,ok,aL,k⟩:=h
  obtain⟨dx,mv,bv,cK,tv,e,r1,r2,⟨pa,rfl,C0⟩,r4⟩:=R.ob;have nd:=Ms.nd;have lX:=aL.f1;obtain⟨ma,mb,rfl,gD,lT⟩:=mH r1;have bd:Bd 1600 S.pc:=(ok.pd.bd (cy ok.pm aQ)).mono (by have:=ok.D2;lia);have hd:0<2*M.f*(S.pc.den:Int):=gX aw (den_pos S.pc);have wd:Wd (2*M.f*(S.pc.den:Int)):=by
   refine iJ (n:=1700) ?_ aB;rw[gm];have h1:(2*M.f).natAbs<2^7:=by lia
   have:=mG h1 bd.den;exact fO this (qA aB aB)
  refine⟨_,(aE (eU (cX TC.cl TC.rk (pv 0)) (cW K rfl (n:=2) rfl (bC (aY 1 nd) (bC (aY 2 nd) cV)))) (aE (pS 3 nd (aO bO (aO bO aD (px K (cX TC.cl TC.rn (pv 0)) aD)) (pv 2))) (aG (aR (aO nM (aO gM (aO cQ (pv 1) (pv 3)) aD) (pv 3)))))),?_⟩;refine⟨_,Z,a,dx,_,_,Z,e,Z,pa,_,Z,C0,Z,_,_,Z,_,_,Z,Z,?_⟩;refine⟨_,Z,a,dx,_,_,Z,e,Z,.inr ⟨ma,_,2,.int M.f,Z,Z,gD,Z,_,_,Z,Z,.of_left (cC aB aB),?_⟩⟩;refine⟨_,Z,_,_,Z,Z,.of_left (cC aw aw),?_⟩;refine⟨_,Z,_,Z,_,_,Z,Z,_,_,Z,Z,_,Z,_,_,Z,Z,⟨hd,wd⟩,?_⟩;exact k
theorem Mx:bj ["self","steps"] ["self"] (aX Eo):=bw aQ
def mL(M:bW)(S:bJ):bJ:=match S.stp with |none=>{S with stp:=some (S.pc,jT M.f S.pc,0)} |some _=>S
inductive a9s(K:ag)(C:Addr)(vs:List V)(H:Hp)(Q:VK):Prop |mk (a:_)(q:_)(M:_)(D:_)(S:_)(h0:vs=[.ref a])(h1:cN K C H a q M S)(h2:ck M D S)(h3:M.Ok)(h4:∀H',cN K C H' a q M (mL M S)->da [a] H H'->Q (.int (jT M.f S.pc)) H')
def LD(K:ag)(C:Addr):Sp:=λvs H Q _=>a9s K C vs H Q
theorem ck.hold{M:bW}{D:Nat}{S:bJ}(h:ck M D S)(aL:M.Ok)(hD:D<=1490):ck M (D+10) (mL M S):=by have D1:=h.D1;unfold mL;cases hs:S.stp with |some z=>show ck M (D+10) S;have st:=h.stp;refine⟨h.row,h.rw,h.len,h.bS,h.bT,h.dn,h.pl,h.pd.mono aw,h.pm,?_,aw,aw⟩;rw[hs]at st⊢;obtain⟨sq,gZ,gn⟩:=z;obtain⟨a1,a2,a3,a4,a5⟩:=st;exact⟨a1,a2,a3,a4.mono aw,a5⟩ |none=>obtain⟨z1,z2,z3,z4⟩:=L4 aL.f1.1 h.pd.nn;refine⟨h.row,h.rw,h.len,h.bS,h.bT,h.dn,h.pl,h.pd.mono aw,h.pm,?_,aw,aw⟩;refine⟨gI _,z1,z4 h.pm,h.pd,cy h.pm aQ,z2,?_⟩;show S.pc*(jT M.f S.pc:Rat)<=S.pc*((jT M.f S.pc-0:Int):Rat);rw[Int.sub_zero];exact iI
theorem Zq{C:Addr}(F:MA K C "hold" "Runner.hold" Eo)(TC:gd K C)(a4x:cZ P w K mg aA C "stops_in" 1 (iz K C λM S H Q=>Q (.int (jT M.f S.pc)) H))(zl:cZ P w K mg aA C "is_held" 1 (iz K C λ_ S H Q=>Q (.bl S.stp.isSome) H)):cZ P w K mg aA C "hold" 2 (LD K C):=by
 refine F.has Mx (λvs H Q E h=>?_) (λ_ _ _ _ _ _=>eJ λ_=>rfl) (λf aM A outer s H vs Q E hr h=>?_)
 ·obtain⟨a,q,M,D,S,rfl,_⟩:=h
  rfl
 ·obtain⟨a,q,M,D,S,rfl,R,ok,aL,k⟩:=h
  obtain⟨dx,mv,bv,cK,tv,e,r1,r2,r3,r4⟩:=R.ob;have nd:=Mx.nd;refine⟨_,(aE (pS 1 nd (jY a4x TC.cl (hr.mono aB) (pv 0))) (aE (iM (bp (cU (bU (jY zl TC.cl (hr.mono aB) (pv 0)))) (aG (iB TC.cl TC.wu (pv 0) (df (au (cX TC.cl TC.rk (pv 0)) (au (pv 1) (au aD az)))))) bA)) (aG (aR (pv 1))))),?_⟩;refine⟨_,Z,a,dx,_,Z,e,Z,a,q,M,D,S,Z,R,ok,aL,?_⟩;refine⟨λO H1=>O=[some (.ref a),some (.int (jT M.f S.pc))]/\cN K C H1 a q M (mL M S)/\da [a] H H1,?_,?_⟩
  ·refine⟨_,Z,a,dx,_,Z,e,Z,a,q,M,D,S,Z,R,ok,aL,_,Z,?_⟩
   cases hs:S.stp with |some z=>refine aW ⟨Z,?_,da.refl _ _⟩;unfold mL;rw[hs];exact R |none=>
    refine bK ?_;refine⟨_,Z,a,dx,_,_,Z,e,Z,_,Z,bR Z,λt H1 n1=>?_⟩;have e1:=n1.same _ _ e;refine⟨_,Z,a,dx,_,Z,e1,by show 9<1000;decide,?_⟩;have eh:mL M S={S with stp:=some (S.pc,jT M.f S.pc,0)}:=by unfold mL;rw[hs]
    refine⟨Z,?_,λb o' eb hb=>?_⟩
    ·rw[eh]
     exact(R.same ok.row.no n1.same).Gb (S':={S with stp:=some (S.pc,jT M.f S.pc,0)}) e1 ok.row.no rfl (RD.mono n1.same _ r1) (RD.mono n1.same _ r2) (r3.go n1.same) ⟨t,cK,Z,aU.of n1.at',r3.go n1.same⟩
    ·have ha:b≠a:=λz=>hb (by rw[z];simp)
     rw[aV ha];exact n1.same _ _ eb
  ·rintro O H1 ⟨rfl,R1,b1⟩
   exact⟨_,Z,k H1 R1 b1⟩
end
end Lw
set_option maxHeartbeats 1000000
namespace Lw
open PySem PySem.Spec PyProof.Rows L2 Rt Ln Wk
section
variable {w:World} {mg:bV} {aA:Heap}
end
end Lw
namespace Lw
open PySem PySem.Spec PyProof.Rows L2 Rt Ln Wk Pn
open Ow (topR)
section
end
section
variable {w:World} {mg:bV} {aA:Heap}
end
end Lw
set_option maxHeartbeats 2000000
namespace Lw
open PySem PySem.Spec PyProof.Rows L2 Rt Ln Cn Pn Wk Rn
open Ow (topR cornO mnO betR atO ownF leadF ownL OkI OkIs)
section
variable {w:World} {mg:bV} {aA:Heap}
structure W4(K:ag)(C:Addr)(M:bW)(ds:List aj)(p x Wl Fl:Addr)(H0:Hp)(H:Hp)(q:Addr)(S:bJ)(m:Nat)(es:List aj):Prop where
 b0:gh H0 p
 bI:bF p H0 H
 run:cN K C H x q M S
 wl:∃ws,H Wl=some (.lst ws)/\aJ K H ws (ds.drop m)
 fl:∃us,H Fl=some (.lst us)/\aJ K H us es
 nx:H0 x=none
 nq:H0 q=none
 nw:H0 Wl=none
 nf:H0 Fl=none
 qw:q≠Wl
 qf:q≠Fl
 wf:Wl≠Fl
section
variable {C:Addr}{M:bW}{ds:List aj}{p x Wl Fl:Addr}{H0 H H':Hp}{q q':Addr}{S S':bJ}{m:Nat}{es fs:List aj}
theorem W4.xp(h:W4 K C M ds p x Wl Fl H0 H q S m es):x≠p/\q≠p/\Wl≠p/\Fl≠p:=by have hp:=h.b0.ne;exact⟨λe=>hp (e▸h.nx),λe=>hp (e▸h.nq),λe=>hp (e▸h.nw),λe=>hp (e▸h.nf)⟩
theorem W4.xl(h:W4 K C M ds p x Wl Fl H0 H q S m es):x≠Wl/\x≠Fl/\x≠q:=by obtain⟨dx,_,_,_,_,e,_⟩:=h.run.ob;obtain⟨ws,ew,_⟩:=h.wl;obtain⟨us,eu,_⟩:=h.fl;exact⟨yF e ew (by intro z;cases z),yF e eu (by intro z;cases z),h.run.ne⟩
theorem W4.bg(h:W4 K C M ds p x Wl Fl H0 H q S m es):gh H p:=h.bI.bI
theorem a8e{p:Addr}(bg:gh H p)(b:bF p H H'):cM H H':=(bF.t bg b).v
theorem W4.draw(h:W4 K C M ds p x Wl Fl H0 H q S m es)(b:bF p H H')(nS:bM S.ds=true)(nD:bM ds=true)(nE:bM es=true):W4 K C M ds p x Wl Fl H0 H' q S m es:=by obtain⟨h1,h2,h3,h4⟩:=h.xp;have v:=a8e h.bg b;obtain⟨ws,ew,dG⟩:=h.wl;obtain⟨us,eu,ru⟩:=h.fl;refine⟨h.b0,h.bI.trans b,h.run.go nS v (λo e=>b.same _ _ h1 e) (λo e=>b.same _ _ h2 e),⟨ws,b.same _ _ h3 ew,aJ.v v _ ?_ dG⟩,⟨us,b.same _ _ h4 eu,aJ.v v _ nE ru⟩,h.nx,h.nq,h.nw,h.nf,h.qw,h.qf,h.wf⟩;exact cu.mpr λd hd=>cu.mp nD d (K5 hd)
theorem W4.same(h:W4 K C M ds p x Wl Fl H0 H q S m es)(s:aH H H')(nS:bM S.ds=true)(nD:bM ds=true)(nE:bM es=true):W4 K C M ds p x Wl Fl H0 H' q S m es:=h.draw (.fH h.bg s) nS nD nE
theorem W4.mv(h:W4 K C M ds p x Wl Fl H0 H q S m es)(mv:Mv x q H q' H')(R:cN K C H' x q' M S')(nD:bM ds=true)(nE:bM es=true):W4 K C M ds p x Wl Fl H0 H' q' S' m es:=by
 obtain⟨h1,h2,h3,h4⟩:=h.xp;obtain⟨g1,g2,g3⟩:=h.xl;have v:=h.run.v mv.but;obtain⟨ws,ew,dG⟩:=h.wl;obtain⟨us,eu,ru⟩:=h.fl;obtain⟨c,mm,eb,yy⟩:=h.bg;have bt:bF p H H'->bF p H0 H':=λb=>h.bI.trans b;have pb:H' p=some (.lst [.int c,.int mm]):=mv.but _ _ eb (by simp;exact⟨h1.symm,h2.symm⟩);have uM:=mv.but _ _ ew (by simp;exact⟨g1.symm,h.qw.symm⟩);have Cm:=mv.but _ _ eu (by simp;exact⟨g2.symm,h.qf.symm⟩);refine⟨h.b0,⟨⟨c,mm,pb,yy⟩,λb o n e=>?_⟩,R,⟨ws,uM,aJ.v v _ ?_ dG⟩,⟨us,Cm,aJ.v v _ nE ru⟩,h.nx,?_,h.nw,h.nf,?_,?_,h.wf⟩
 ·refine mv.but _ _ (h.bI.same _ _ n e) λhm=>?_
  simp only[dh,fV,jb]at hm;rcases hm with z|z
  ·rw[z,h.nx]at e;cases e
  ·rw[z,h.nq]at e;cases e
 ·exact cu.mpr λd hd=>cu.mp nD d (K5 hd)
 ·rcases mv.nq with z|z
  ·rw[z];exact h.nq
  ·cases e:H0 q' with |none=>rfl |some o=>
   by_cases hp:q'=p
   ·rw[hp,eb]at z;cases z
   ·have:=h.bI.same _ _ hp e
    rw[z]at this;cases this
 ·intro z
  rcases mv.nq with y|y
  ·exact h.qw (y.symm.trans z)
  ·rw[z,ew]at y;cases y
 ·intro z
  rcases mv.nq with y|y
  ·exact h.qf (y.symm.trans z)
  ·rw[z,eu]at y;cases y
theorem W4.ext(h:W4 K C M ds p x Wl Fl H0 H q S m es)(nS:bM S.ds=true)(nD:bM ds=true)(nE:bM es=true)(nF:bM fs=true){us ys:List V}(eu:H Fl=some (.lst us))(ry:aJ K H ys fs):W4 K C M ds p x Wl Fl H0 (L2.upd H Fl (.lst (us++ys))) q S m (es++fs):=by obtain⟨h1,h2,h3,h4⟩:=h.xp;obtain⟨g1,g2,g3⟩:=h.xl;obtain⟨ws,ew,dG⟩:=h.wl;obtain⟨lA,Cm,ru⟩:=h.fl;rw[eu]at Cm;cases Cm;have v:cM H (L2.upd H Fl (.lst (us++ys))):=.upd eu trivial;obtain⟨c,mm,eb,yy⟩:=h.bg;refine⟨h.b0,⟨⟨c,mm,by rw[aV h4.symm];exact eb,yy⟩,λb o n e=>by rw[aV (dU e h.nf)];exact h.bI.same _ _ n e⟩,h.run.go nS v (λo e=>by rw[aV g2];exact e) (λo e=>by rw[aV h.qf];exact e),⟨ws,by rw[aV h.wf];exact ew,aJ.v v _ ?_ dG⟩,⟨_,bQ,(aJ.v v _ nE ru).append (aJ.v v _ nF ry)⟩,h.nx,h.nq,h.nw,h.nf,h.qw,h.qf,h.wf⟩;exact cu.mpr λd hd=>cu.mp nD d (K5 hd)
theorem W4.pop(h:W4 K C M ds p x Wl Fl H0 H q S m es)(nS:bM S.ds=true)(nD:bM ds=true)(nE:bM es=true){y:V}{ys:List V}(ew:H Wl=some (.lst (y::ys))):W4 K C M ds p x Wl Fl H0 (L2.upd H Wl (.lst ys)) q S (m+1) es/\∃d,ds[m]? =some d/\RD K H y d:=by
 obtain⟨h1,h2,h3,h4⟩:=h.xp;obtain⟨g1,g2,g3⟩:=h.xl;obtain⟨ws,uM,dG⟩:=h.wl;obtain⟨us,eu,ru⟩:=h.fl;rw[ew]at uM;cases uM;have hm:m<ds.length:=by
  rcases K0 m ds.length with c|c
  ·exact c
  ·rw[List.drop_eq_nil_of_le c]at dG
   cases dG.nil_inv
 rw[List.drop_eq_getElem_cons hm]at dG;obtain⟨y',ys',ee,ry,rr⟩:=dG.cons_inv;cases ee;have v:cM H (L2.upd H Wl (.lst ys)):=.upd ew trivial;obtain⟨c,mm,eb,yy⟩:=h.bg;refine⟨⟨h.b0,⟨⟨c,mm,by rw[aV h3.symm];exact eb,yy⟩,λb o n e=>by rw[aV (dU e h.nw)];exact h.bI.same _ _ n e⟩,h.run.go nS v (λo e=>by rw[aV g1];exact e) (λo e=>by rw[aV h.qw];exact e),⟨_,bQ,aJ.v v _ ?_ rr⟩,⟨us,by rw[aV h.wf.symm];exact eu,aJ.v v _ nE ru⟩,h.nx,h.nq,h.nw,h.nf,h.qw,h.qf,h.wf⟩,_,bu hm,ry⟩;exact cu.mpr λd hd=>cu.mp nD d (K5 hd)
end
def y6:aj->aj | .tuple [.str w,row,t,s]=>if PyData.eqv (.str w) (.str "step")then row else .tuple [.str w,row,t,s] |d=>d
theorem Ws(a b c:aj):y6 (.tuple [.str "step",a,b,c])=a:=by show(if PyData.eqv (.str "step") (.str "step")=true then a else PyData.tuple [.str "step",a,b,c])=a;rw[bo aQ]
def ki(ds:List aj)(os:List Itm)(i:Nat):List aj:=match os[i]? with |some (some (ns,_))=>iL ns |_=>[ds.getD i .none]
def zI(ds:List aj)(os:List Itm):Nat->List aj |0=>[] |i+1=>zI ds os i++ki ds os i
def qh(ds:List aj)(os:List Itm)(i k:Nat):List aj:=zI ds os i++(ki ds os i).take k
structure Inv2(pl:List Int)(ds:List aj)(os:List Itm)(m i k:Nat)(T:bJ):Prop where
 iS:T.ds=(ds.take m).drop i
 fL:T.os=(os.take m).drop i
 oh:T.dn=k
 kl:k=0\/∃ns sp,i<m/\os[i]? =some (some (ns,sp))/\k<aI ns
 zy:T.pl=(os.take i).foldl ij pl
 im:i<=m
 ml:m<=os.length
 j1:T.os=[]->T.pc=0
 j2:T.os[0]? =some none->T.pc=0
theorem Rw{r f:Int}{pc top R:Rat}{left:Int}{stp:Rn.fM}:lO r f pc top R left stp<=R+((2*f*(left-1):Int):Rat):=by cases stp with |none=>exact gP _ _ |some q=>obtain⟨sq,st,gn⟩:=q;exact cy (fq _ _) (gP _ _)
theorem RS{α:Type}{l:List α}{i:Nat}{x:α}(h:l[i]? =some x):l.drop i=x::l.drop (i+1):=by have hl:i<l.length:=(cv.mp h).1;rw[List.drop_eq_getElem_cons hl];rw[bu hl]at h;cases h;rfl
theorem Rm{M:bW}{D:Nat}{T:bJ}{ns:List Int}{sp:Int}(h:ck M D T)(aL:M.Ok)(eo:T.os[0]? =some (some (ns,sp)))(nh:¬Halt T.pc T.stp)(hd:T.dn+1=aI ns)(hn:T.os[1]? =none\/T.os[1]? =some none):(fu M T ns sp).pc=0:=by
 have qV:=aL.r1;have lX:=aL.f1;have D1:=h.D1;have dH:T.os≠[]:=λe=>by rw[e]at eo;simp at eo
 have hl:1<=T.os.length:=by have:=(cv.mp eo).1;lia
 have nn:=(GP h.raw aL eo aw nh).pd.nn;refine CZ ?_ nn;refine cy Rw ?_;have e1:2*M.f*((aI ns:Int)-(T.dn:Int)-1)=0:=by rw[show(aI ns:Int)-(T.dn:Int)-1=0 by lia,Ke]
 rw[e1];have e0:dS M T+((0:Int):Rat)=dS M T:=Ae _;rw[e0];refine cy (HZ hl) ?_;show betR M.j T.rate (atO T.os 0) (atO T.os 1)<=0;have ea:atO T.os 1=none:=by unfold atO;rcases hn with e|e<;>rw[e]<;>rfl
 rw[ea,Ow.xc];exact iI
theorem YO{M:bW}{D:Nat}{pl:List Int}{ds:List aj}{os:List Itm}(aL:M.Ok)(row:cw M.rs.length ds os)(dG:RowW ds os){m i k:Nat}{T T1:bJ}{e:aj}(ok:ck M D T)(h:Inv2 pl ds os m i k T)(o:One M T e T1): ∃i' k',Inv2 pl ds os m i' k' T1/\qh ds os i' k'=qh ds os i k++[y6 e]:=by
 have ll:=row.len;have hn:T.os≠[]:=by intro z;cases o with |line e1 _=>rw[z]at e1;simp at e1 |eV e1 _ _=>rw[z]at e1;simp at e1
 have rL:=h.ml;have lt:(os.take m).length=m:=by rw[je];lia
 have ltd:(ds.take m).length=m:=by rw[je];lia
 have im:i<m:=by
  rcases K0 i m with c|c
  ·exact c
  ·exact(hn (by rw[h.fL,List.drop_eq_nil_of_le aw])).elim
 obtain⟨x,ex⟩:∃x,os[i]? =some x:=⟨_,bu (show i<os.length by lia)⟩;obtain⟨d,ed⟩:∃d,ds[i]? =some d:=⟨_,bu (show i<ds.length by lia)⟩;have ext:(os.take m)[i]? =some x:=by rw[Ap,bo im];exact ex
 have edt:(ds.take m)[i]? =some d:=by rw[Ap,bo im];exact ed
 have fL:T.os=x::(os.take m).drop (i+1):=by rw[h.fL];exact RS ext
 have iS:T.ds=d::(ds.take m).drop (i+1):=by rw[h.iS];exact RS edt
 have O9:(os.take (i+1)).foldl ij pl=ij T.pl x:=by rw[kx,ex,xH,h.zy];rfl
 have OC:∀(l:List Itm),l=(os.take m).drop (i+1)->T.os[1]? =l[0]?:=λl e=>by rw[fL,e];rfl
 cases o with |@line ns sp e1 nh=>
  have zG:=e1;rw[fL]at zG;cases zG;have cn:=(row.ok i ns sp ex).1;have lp:=cn.lead.1;have hk:k<aI ns:=by
   rcases h.kl with z|⟨fJ,iK,_,z1,z2⟩
   ·lia
   ·rw[ex]at z1;cases z1;exact z2
  have eL:ki ds os i=iL ns:=by unfold ki;rw[ex]
  have es:y6 (nR M T ns sp)= .tuple ((fz ns k).map PyData.int):=by unfold nR mh;rw[h.oh,Ws]
  have up:qh ds os i (k+1)=qh ds os i k++[y6 (nR M T ns sp)]:=by unfold qh;rw[kx,eL,Bl hk,es,Dg];rfl
  have IW:(fu M T ns sp).dn=k+1:=by show T.dn+1=_;rw[h.oh]
  unfold fD;by_cases c:k+1=aI ns
  ·refine⟨i+1,0,?_,?_⟩
   ·rw[bo (by rw[IW];exact c)]
    have IM:iE (fu M T ns sp)={fu M T ns sp with dn:=0,pl:=ij T.pl (some (ns,sp)),ds:=(ds.take m).drop (i+1),os:=(os.take m).drop (i+1)}:=by unfold iE;have eF:(fu M T ns sp).os=some (ns,sp)::(os.take m).drop (i+1):=fL;have j8:(fu M T ns sp).ds=d::(ds.take m).drop (i+1):=iS;simp only[eF,j8];rfl
    rw[IM];refine⟨Z,Z,Z,.inl Z,O9.symm,aw,rL,λz=>?_,λz=>?_⟩
    ·exact Rm ok aL e1 nh (by rw[h.oh];exact c) (.inl (by rw[OC _ rfl];rw[show(os.take m).drop (i+1)=[]from z];rfl))
    ·exact Rm ok aL e1 nh (by rw[h.oh];exact c) (.inr (by rw[OC _ rfl];exact z))
   ·rw[<-up]
    unfold qh;rw[List.take_zero,qC,c,eL,xC (by rw[qP];exact bf _),<-eL];rfl
  ·refine⟨i,k+1,?_,up⟩
   rw[bB (by rw[IW];exact c)];refine⟨h.iS,h.fL,IW,.inr ⟨ns,sp,im,ex,aw⟩,h.zy,h.im,rL,λz=>(hn z).elim,λz=>?_⟩;have z':T.os[0]? =some none:=z;rw[e1]at z';cases z' |eV e1 e2 nh=>
  have zG:=e1;rw[fL]at zG;cases zG;rw[iS]at e2;cases e2;have k0:k=0:=by
   rcases h.kl with z|⟨fJ,iK,_,z1,z2⟩
   ·exact z
   ·rw[ex]at z1;cases z1
  subst k0;have p0:=h.j2 e1;refine⟨i+1,0,?_,?_⟩
  ·obtain⟨h1,s1,s2,s3,s4⟩:=Bc ok.raw e
   have Lj:(cS e T).pc=T.pc:=by
    unfold cS;split
    ·split
     ·rfl
     ·split<;>rfl
    ·rfl
   have IM:iE (cS e T)={cS e T with pl:=ij T.pl none,ds:=(ds.take m).drop (i+1),os:=(os.take m).drop (i+1),dn:=0}:=by unfold iE;rw[s1,fL];simp only[s2,s4,iS];rfl
   rw[IM];exact⟨Z,Z,Z,.inl Z,O9.symm,aw,rL,λ_=>Lj.trans p0,λ_=>Lj.trans p0⟩
  ·unfold qh
   rw[List.take_zero,qC,List.take_zero,qC];show zI ds os i++ki ds os i=_;have eE:ki ds os i=[e]:=by unfold ki;rw[ex,Kb,ed];rfl
   have es:y6 e=e:=by rcases dG i e ex ed with⟨n,rfl,_⟩|⟨w',s',rfl,_⟩<;>rfl
   rw[eE,es]
theorem Inv2.uK{pl:List Int}{ds:List aj}{os:List Itm}{m i k:Nat}{T:bJ}{d:aj}{o:Itm}(h:Inv2 pl ds os m i k T)(ll:ds.length=os.length)(ed:ds[m]? =some d)(eo:os[m]? =some o):Inv2 pl ds os (m+1) i k (lW T d o):=by
 have im:=h.im;have hm:m<os.length:=(cv.mp eo).1;have lt:(os.take m).length=m:=by rw[je];lia
 have ltd:(ds.take m).length=m:=by rw[je];lia
 refine⟨?_,?_,h.oh,?_,h.zy,aw,hm,λz=>?_,λz=>?_⟩
 ·show T.ds++[d]=_
  rw[kx,ed,ab1 aw,h.iS];rfl
 ·show T.os++[o]=_
  rw[kx,eo,ab1 aw,h.fL];rfl
 ·rcases h.kl with z|⟨ns,sp,z0,z1,z2⟩
  ·exact .inl z
  ·exact .inr ⟨ns,sp,aw,z1,z2⟩
 ·exfalso
  have z':T.os++[o]=[]:=z;simp at z'
 ·have z':(T.os++[o])[0]? =some none:=z
  cases hT:T.os with |nil=>exact h.j1 hT |cons a r=>rw[hT]at z';exact h.j2 (by rw[hT];exact z')
theorem Inv2.goal{pl:List Int}{ds:List aj}{os:List Itm}{m i k:Nat}{T:bJ}(h:Inv2 pl ds os m i k T):si T=(os.take m).foldl ij pl:=by
 unfold si;rw[h.fL,h.zy];have e:os.take i=(os.take m).take i:=by rw[List.take_take];congr 1;have:=h.im;lia
 rw[e,<-xH,List.take_append_drop]
end
section
theorem GD{r f:Int}{b x:Rat}{e g:Option Rat}(x0:0<=x)(xb:x<=b)(he:∀q,e=some q->q<=x+(f:Rat)/\x<=q+(r:Rat))(hg:∀q,g=some q->q<=x+(r:Rat)/\x<=q+(f:Rat)):wA r f b e g=true:=by
 have sub:∀{a c:Rat}{z:Int},a<=c+(z:Rat)->a+((-z:Int):Rat)<=c:=λ{a c z} h=>by have:=U7 (c:=((-z:Int):Rat))|>.mpr h;rw[Rat.add_assoc,<-Rat.intCast_add,Int.add_right_neg]at this;have z0:c+((0:Int):Rat)=c:=Ae _;rw[z0]at this;exact this
 unfold wA;rw[Ut,Aw];intro h;obtain⟨l,hl,h⟩:=sZ.mp h;obtain⟨u,hu,h⟩:=sZ.mp h;have h:=jc h;have l1:l<=x:=by
  rcases jz.mp hl with hl|hl
  ·rcases dh.mp hl with rfl|hl
   ·exact x0
   ·obtain⟨q,hq,rfl⟩:=fW.mp hl
    exact sub (he q (JY.mp hq)).1
  ·obtain⟨q,hq,rfl⟩:=fW.mp hl
   exact sub (hg q (JY.mp hq)).1
 have u1:x<=u:=by
  rcases jz.mp hu with hu|hu
  ·rcases dh.mp hu with rfl|hu
   ·exact xb
   ·obtain⟨q,hq,rfl⟩:=fW.mp hu
    exact(he q (JY.mp hq)).2
  ·obtain⟨q,hq,rfl⟩:=fW.mp hu
   exact(hg q (JY.mp hq)).2
 exact oF.mpr (cy l1 u1) h
theorem IT{n0:Nat}{rate:Int}{ds:List aj}{os:List Itm}(row:cw n0 ds os){i c:Nat}(hc:c<(gQ rate ds os i).length):∀n,i<n->n<=os.length->(dv rate ds os n)[(dv rate ds os i).length+c]? =(gQ rate ds os i)[c]?
 |0,h,_=>by lia |n+1,h,hn=>by
  show(dv rate ds os n++gQ rate ds os n)[_]? =_;by_cases e:i=n
  ·subst e
   rw[m9 aw,Nat.add_sub_cancel_left]
  ·have ih:=IT row hc n aw aw
   have hl:(dv rate ds os i).length+c<(dv rate ds os n).length:=by rw[bu hc]at ih;exact(cv.mp ih).1
   rw[kZ hl];exact ih
theorem SR{n0:Nat}{j rate:Int}{ds:List aj}{os:List Itm}(row:cw n0 ds os){i c:Nat}(hc:c<(iG j rate os i).length):∀n,i<n->n<=os.length->(ip j rate os n)[(dv rate ds os i).length+c]? =(iG j rate os i)[c]?
 |0,h,_=>by lia |n+1,h,hn=>by
  show(ip j rate os n++iG j rate os n)[_]? =_;by_cases e:i=n
  ·subst e
   rw[<-m6 (j:=j) row i aw,m9 aw,Nat.add_sub_cancel_left]
  ·have ih:=SR row hc n aw aw
   have hl:(dv rate ds os i).length+c<(ip j rate os n).length:=by rw[bu hc]at ih;exact(cv.mp ih).1
   rw[kZ hl];exact ih
theorem SO{n0:Nat}{j rate:Int}{ds:List aj}{os:List Itm}(row:cw n0 ds os){i c:Nat}(hi:i<os.length)(hc:c<(iG j rate os i).length):(gG j rate os)[(dv rate ds os i).length+c]? =(iG j rate os i)[c]?:=by
 have h:=SR row hc os.length hi (bf _);have hl:(dv rate ds os i).length+c<(ip j rate os os.length).length:=by rw[bu hc]at h;exact(cv.mp h).1
 unfold gG;rw[kZ hl];exact h
theorem a8c{n0:Nat}{j rate:Int}{ds:List aj}{os:List Itm}(row:cw n0 ds os):(gG j rate os)[(dv rate ds os os.length).length]? =some 0:=by unfold gG;rw[m9 (by rw[m6 (ds:=ds) row _ (bf _)];exact bf _),m6 (ds:=ds) row _ (bf _),Ah,Gh];rfl
theorem mnm{a a' b b':Rat}(h1:a'<=a)(h2:b'<=b):mn a' b'<=mn a b:=lQ (cy (fq _ _) h1) (cy (gP _ _) h2)
theorem a5w{n m:Nat}{g g':Nat->Rat}{L L':Nat->Option Nat}{f:Int}(hf:0<=f)(nm:n<=m)(hg:∀k,k<n->g k=g' k)(h0:g n=0)(nn:∀i,i<=m->0<=g' i)(hL:∀k,k<n->L k=L' k):∀k,k<=n->fl n L f g k<=fl m L' f g' k:=by
 refine down ?_ ?_
 ·rw[sx,h0];exact a5t hf nn n nm
 ·intro k hk ih
  cases hl:L' k with |none=>rw[pX hk (by rw[hL k hk];exact hl),pX aw hl,hg k hk];exact iI |some c=>rw[o5 hk (by rw[hL k hk];exact hl),o5 aw hl,hg k hk];exact mnm iI (U7.mpr ih)
theorem Jo(os ro:List Itm){k:Nat}(h:k<os.length):atO (os++ro) k=atO os k:=by unfold atO;rw[kZ h]
theorem XD(M:bW)(aL:M.Ok)(rate:Int)(os ro:List Itm)(h:1<=os.length):qR M.f M.j rate os<=qR M.f M.j rate (os++ro):=by
 have lX:=aL.f1;unfold qR;refine a5w aw (by rw[cE];lia) (λk hk=>?_) (Ow.Gi _ _ _ _ Z) (λi _=>Ow.vZ _ _ _ i) (λk hk=>?_) 1 h
 ·cases k with |zero=>rfl |succ k=>show betR _ _ (atO os k) (atO os (k+1))=betR _ _ (atO (os++ro) k) (atO (os++ro) (k+1));rw[Jo os ro hk,Jo os ro (show k<os.length by lia)]
 ·unfold leadF
  rw[Jo os ro hk]
structure iq(M:bW)(rate:Int)(pl:List Int)(ds:List aj)(os:List Itm)(m i k:Nat)(T:bJ)(es:List aj)(sq:Nat->Option Rat):Prop where
 i2:Inv2 pl ds os m i k T
 rt:T.rate=rate
 len:es.length=(dv rate ds os i).length+k
 ent:∀c e du,es[c]? =some e->(dv rate ds os os.length)[c]? =some du->TN M.t du e (sq c)
 out:∀c,es.length<=c->sq c=none
 meet:∀c b,c<es.length->(gG M.j rate os)[c]? =some b->wA M.r M.f b (jh sq c) (sq c)=true
 pb:∀b,(gG M.j rate os)[es.length]? =some b->T.pc<=b
 pv:∀q,jh sq es.length=some q->q<=T.pc+(M.f:Rat)/\T.pc<=q+(M.r:Rat)
 pt:∀ns sp,T.os[0]? =some (some (ns,sp))->T.pc<=topR rate sp/\T.pc<=dS M T+((2*M.f*((aI ns:Int)-T.dn):Int):Rat)
 hs:∀a st gn,T.stp=some (a,st,gn)->a<=((2*M.f*st:Int):Rat)
end
section
theorem SM{n0:Nat}{j rate:Int}{ds:List aj}{os:List Itm}(row:cw n0 ds os):∀b∈gG j rate os,0<=b:=by
 have key:∀i,i<=os.length->∀b∈ip j rate os i,0<=b:=by intro i;induction i with |zero=>intro _ b hb;exact(fV hb).elim |succ i ih=>
  intro hi b hb;rcases jz.mp hb with h1|h1
  ·exact ih aw b h1
  ·obtain⟨o,eo⟩:∃o,os[i]? =some o:=⟨_,bu (show i<os.length by lia)⟩
   cases o with |none=>rw[zS eo,fF]at h1;rw[h1];exact Ow.vZ _ _ _ _ |some q=>
    obtain⟨ns,sp⟩:=q;rw[vc eo]at h1;rcases dh.mp h1 with h1|h1
    ·rw[h1];exact Ow.vZ _ _ _ _
    ·rw[(List.mem_replicate.mp h1).2];exact Ow.tE _ _
 intro b hb;rcases jz.mp hb with h1|h1
 ·exact key _ (bf _) b h1
 ·rw[fF.mp h1];exact Ow.vZ _ _ _ _
theorem RP{n:Nat}{rate:Int}{ds:List aj}{os:List Itm}(row:cw n ds os):∀i,i<=os.length->(zI ds os i).length=(dv rate ds os i).length |0,_=>rfl |i+1,h=>by have ll:=row.len;show(zI ds os i++ki ds os i).length=(dv rate ds os i++gQ rate ds os i).length;rw[cE,cE,RP row i aw];obtain⟨o,eo⟩:∃o,os[i]? =some o:=⟨_,bu (show i<os.length by lia)⟩;cases o with
 |none=>
  obtain⟨d',ed⟩:∃d',ds[i]? =some d':=⟨_,bu (show i<ds.length by lia)⟩;rw[sE eo ed];have:(ki ds os i).length=1:=by unfold ki;rw[eo];rfl
  rw[this];rfl |some q=>
  obtain⟨ns,sp⟩:=q;rw[oj eo,bL,kY];have:(ki ds os i).length=aI ns:=by unfold ki;rw[eo,qP]
  rw[this]
theorem Inv2.up{n:Nat}{rate:Int}{pl:List Int}{ds:List aj}{os:List Itm}{m i k:Nat}{T:bJ}(row:cw n ds os)(h:Inv2 pl ds os m i k T):(qh ds os i k).length=(dv rate ds os i).length+k:=by
 have im:=h.im;have ml:=h.ml;unfold qh;rw[cE,RP (rate:=rate) row i aw,je];rcases h.kl with z|⟨ns,sp,z0,z1,z2⟩
 ·lia
 ·have:(ki ds os i).length=aI ns:=by unfold ki;rw[z1,qP]
  lia
theorem Inv2.len{pl:List Int}{ds:List aj}{os:List Itm}{m i k:Nat}{T:bJ}(h:Inv2 pl ds os m i k T):T.os.length=m-i:=by
 rw[h.fL,oH,je];have:=h.ml
 lia
def gr(sq:Nat->Option Rat)(n:Nat)(o:Option Rat):Nat->Option Rat:=λc=>if c=n then o else sq c
theorem tI{sq:Nat->Option Rat}{n:Nat}{o:Option Rat}{c:Nat}(h:c≠n):gr sq n o c=sq c:=bB h
theorem vz{sq:Nat->Option Rat}{n:Nat}{o:Option Rat}:gr sq n o n=o:=bo rfl
theorem prev_lt{sq:Nat->Option Rat}{n:Nat}{o:Option Rat}{c:Nat}(h:c<=n):jh (gr sq n o) c=jh sq c:=by cases c with |zero=>rfl |succ c=>exact tI aw
theorem O0{M:bW}{D:Nat}{S:bJ}(h:ck M D S)(aL:M.Ok)(hn:S.os≠[]):0<=dS M S:=(Bn h.raw aL hn).1.nn
theorem YN{M:bW}{D:Nat}{rate:Int}{pl:List Int}{ds:List aj}{os:List Itm}(aL:M.Ok)(row:cw M.rs.length ds os)(dG:RowW ds os){m i k:Nat}{T T1:bJ}{e:aj}{es:List aj}{sq:Nat->Option Rat}(ok:ck M D T)(h:iq M rate pl ds os m i k T es sq)(o:One M T e T1): ∃i' k' tJ,iq M rate pl ds os m i' k' T1 (es++[e]) tJ:=by
 have qV:=aL.r1;have lX:=aL.f1;have ll:=row.len;have i2:=h.i2;have im:=i2.im;have ml:=i2.ml;obtain⟨i',k',h1,e1⟩:=YO aL row dG ok i2 o;have L:=congrArg List.length e1;rw[cE,i2.up (rate:=rate) row,h1.up (rate:=rate) row,List.length_singleton,<-h.len]at L;have pE:(es++[e]).length=es.length+1:=by simp
 have QM:∀c x,(es++[e])[c]? =some x->(es[c]? =some x/\c<es.length)\/(c=es.length/\x=e):=λc x hx=>by
  rcases qL hx with h|⟨h1,h2⟩
  ·exact .inl ⟨h,(cv.mp h).1⟩
  ·exact .inr ⟨h1,h2⟩
 have L1:=i2.len;have TH:=h1.len;cases o with
 |@line ns sp eo nh=>
  have D1:=ok.D1;have D2:=ok.D2;have dH:T.os≠[]:=λz=>by rw[z]at eo;simp at eo
  have hlen:1<=T.os.length:=by have:=(cv.mp eo).1;lia
  have ii:i<m:=by lia
  have eoi:os[i]? =some (some (ns,sp)):=by rw[i2.fL,sY,Ap,bo aw]at eo;exact eo
  obtain⟨cn,dZ,eR⟩:=row.ok i ns sp eoi;have ek:T.dn=k:=i2.oh;have hd:T.dn<aI ns:=by
   rcases ok.dn with z|⟨fJ,iK,z1,z2⟩
   ·have:=cn.lead;lia
   ·rw[eo]at z1;cases z1;exact z2
  obtain⟨Y4,yg⟩:=h.pt ns sp eo;have p0:=ok.pd.nn;have jq:=h.rt;obtain⟨A,Bb,Cc,TQ⟩:=a0y (D:=D) (r:=M.r) (f:=M.f) (pc:=T.pc) (top:=topR T.rate sp) (R:=dS M T) (left:=(aI ns:Int)-T.dn) (stp:=T.stp) aw aw aw p0 (by rw[jq];exact Y4) yg ok.stp nh h.hs;have em:ug M T ns sp=jk M.r M.f T.pc (topR T.rate sp) (dS M T) ((aI ns:Int)-T.dn) T.stp:=rfl;obtain⟨R1,R2⟩:=Bn ok.raw aL dH;have mdd:=P8 (D:=D) (r:=M.r) (f:=M.f) (pc:=T.pc) (top:=topR T.rate sp) (R:=dS M T) (left:=(aI ns:Int)-T.dn) (stp:=T.stp) aw aw aw ok.pd ((Dp _ _).mono aw) (R1.mono aw) ok.stp nh;have P0:ug M T ns sp<=topR T.rate sp:=P6;have Vj:=AO dZ eR ok.bS ok.bT;have mbd:Bd 1900 (ug M T ns sp):=(mdd.bd (cy P0 (cy Vj aQ))).mono aw;have a1k:0<ug M T ns sp:=P7 qV.1 lX.1 aw p0 (Ky dZ ok.bS) R1.nn ok.stp nh;rw[<-em]at A Bb Cc TQ;generalize a77:ug M T ns sp=mid at*;generalize IE:lO M.r M.f T.pc (topR T.rate sp) (dS M T) ((aI ns:Int)-T.dn) T.stp=en at*;have RA:en<=topR T.rate sp:=by rw[<-IE];exact Rp
  have IA:en<=dS M T+((2*M.f*((aI ns:Int)-T.dn-1):Int):Rat):=by rw[<-IE];exact Rw
  have hN:(fu M T ns sp).pc=en/\(fu M T ns sp).rate=T.rate/\(fu M T ns sp).stp=tT T.stp/\(fu M T ns sp).os=T.os/\(fu M T ns sp).dn=T.dn+1:=⟨IE,Z,Z,Z,Z⟩;have HJ:(fD ns (fu M T ns sp)).pc=en/\(fD ns (fu M T ns sp)).rate=T.rate/\(fD ns (fu M T ns sp)).stp=tT T.stp/\((T.dn+1=aI ns/\(fD ns (fu M T ns sp)).os=T.os.tail/\(fD ns (fu M T ns sp)).dn=0)\/(T.dn+1≠aI ns/\(fD ns (fu M T ns sp)).os=T.os/\(fD ns (fu M T ns sp)).dn=T.dn+1)):=by
   obtain⟨n1,n2,n3,n4,n5⟩:=hN;unfold fD;by_cases c:T.dn+1=aI ns
   ·rw[bo (by rw[n5];exact c)]
    unfold iE;rw[n4];cases jn:T.os with |nil=>exact(dH jn).elim |cons x tl=>exact⟨n1,n2,n3,.inl ⟨c,Z,Z⟩⟩
   ·rw[bB (by rw[n5];exact c)]
    exact⟨n1,n2,n3,.inr ⟨c,n4,n5⟩⟩
  obtain⟨t1,t2,t3,t4⟩:=HJ;have idx:(dv rate ds os i).length+k=es.length:=h.len.symm;have lI:(gQ rate ds os i).length=aI ns:=by rw[oj eoi,bL,kY]
  have lB:(iG M.j rate os i).length=aI ns:=by rw[vc eoi,jQ,xF];lia
  have IU:(dv rate ds os os.length)[es.length]? =some (lZ (fz ns k) (topR rate sp)):=by rw[<-idx,IT row aw os.length aw (bf _),oj eoi,bX,oJ aw];rfl
  have Oo:dS M T<=betR M.j T.rate (atO T.os 0) (atO T.os 1):=HZ hlen;refine⟨i',k',gr sq es.length (some mid),h1,t2.trans jq,by rw[pE];lia,λc x du hx uz=>?_,λc hc=>?_,λc b hc hb=>?_,λb hb=>?_,λq hq=>?_,λfJ iK e'=>?_,λa' st gn e'=>?_⟩
  ·rcases QM c x hx with⟨g1,g2⟩|⟨g1,g2⟩
   ·rw[tI aw];exact h.ent c x du g1 uz
   ·subst g1 g2
    rw[IU]at uz;cases uz;rw[vz];refine⟨fz ns k,topR rate sp,Z,?_,by rw[<-jq];exact P0,a1k,mbd,(Ow.oS dZ eR (by rw[<-jq];exact ok.bS) (by rw[<-jq];exact ok.bT)).mono aB,by unfold fz;rw[bL,cn.len];have:=aL.len;lia⟩;unfold nR;rw[ek,a77]
  ·rw[pE]at hc
   rw[tI aw];exact h.out c aw
  ·rw[pE]at hc
   by_cases g:c=es.length
   ·subst g
    rw[prev_lt (bf _),vz];exact GD p0 (h.pb b hb) h.pv λq e=>by cases e;exact⟨A,Bb⟩
   ·rw[prev_lt aw,tI g]
    exact h.meet c b aw hb
  ·rw[pE]at hb
   rw[t1];rcases t4 with⟨c1,c2,c3⟩|⟨c1,c2,c3⟩
   ·have ei:i'=i+1:=by rw[c2,List.length_tail]at TH;have:=h1.im;lia
    have Co:k'=0:=by rw[<-h1.oh];exact c3
    have qd:en<=betR M.j T.rate (atO T.os 0) (atO T.os 1):=by
     refine cy IA ?_;have e0:2*M.f*((aI ns:Int)-T.dn-1)=0:=by rw[show(aI ns:Int)-T.dn-1=0 by lia,Ke]
     rw[e0];have z0:dS M T+((0:Int):Rat)=dS M T:=Ae _;rw[z0];exact Oo
    have a0:atO T.os 0=atO os i:=by unfold atO;rw[eo,eoi]
    have Om:betR M.j T.rate (atO T.os 0) (atO T.os 1)<=ownF M.j rate os (i+1):=by
     by_cases him:i+1<m
     ·have a1:atO T.os 1=atO os (i+1):=by unfold atO;rw[i2.fL,sY,Ap,bo him]
      rw[a0,a1,jq];exact iI
     ·have a1:atO T.os 1=none:=Ow.Jm aw
      rw[a1,Ow.xc];exact Ow.vZ _ _ _ _
    by_cases wJ:i+1<os.length
    ·have:=SO (j:=M.j) (rate:=rate) row (i:=i+1) (c:=0) wJ (by obtain⟨o',eF⟩:∃o,os[i+1]? =some o:=⟨_,bu wJ⟩;have:=zT (j:=M.j) (rate:=rate) wJ;exact(cv.mp this).1);rw[zT wJ]at this;rw[<-L,ei,Co,this]at hb;cases hb;exact cy qd Om
    ·have RG:i+1=os.length:=by lia
     rw[<-L,ei,Co,RG,Nat.add_zero,a8c row]at hb;cases hb;refine cy qd (cy Om ?_);rw[RG,Gh];exact iI
   ·have ei:i'=i:=by rw[c2]at TH;have:=h1.im;lia
    have Co:k'=k+1:=by rw[<-h1.oh,c3,ek]
    have:=SO (j:=M.j) (rate:=rate) row (i:=i) (c:=k+1) aw aw;rw[SK eoi aw aw]at this;rw[<-L,ei,Co,this]at hb;cases hb;rw[<-jq];exact RA
  ·rw[pE]at hq
   have hq:gr sq es.length (some mid) es.length=some q:=hq;rw[vz]at hq;cases hq;rw[t1];exact⟨Cc,TQ⟩
  ·rw[t1]
   have rN:dS M (fD ns (fu M T ns sp))=qR M.f M.j T.rate (fD ns (fu M T ns sp)).os:=by unfold dS;rw[t2]
   rcases t4 with⟨c1,c2,c3⟩|⟨c1,c2,c3⟩
   ·have qd:en<=dS M T:=by
     refine cy IA ?_;have e0:2*M.f*((aI ns:Int)-T.dn-1)=0:=by rw[show(aI ns:Int)-T.dn-1=0 by lia,Ke]
     rw[e0];have z0:dS M T+((0:Int):Rat)=dS M T:=Ae _;rw[z0];exact iI
    rw[c2,List.getElem?_tail]at e';have QG:1<T.os.length:=(cv.mp e').1;have a0:atO T.os 0=some (ns,sp):=Ow.ng eo;have a1:atO T.os 1=some (fJ,iK):=Ow.ng e';refine⟨?_,?_⟩
    ·refine cy qd (cy Oo ?_)
     rw[a0,a1,<-jq];show Ow.mnO (mn (topR T.rate sp) (topR T.rate iK)) (Ow.cornO M.j ns fJ)<=_;cases Ow.cornO M.j ns fJ with |none=>exact gP _ _ |some cc=>exact cy (fq _ _) (gP _ _)
    ·refine cy qd ?_
     have lf:leadF T.os 1=some (aI fJ):=by unfold leadF;rw[a1];rfl
     have e2:dS M T=mn (ownF M.j T.rate T.os 1) (fl T.os.length (leadF T.os) (2*M.f) (ownF M.j T.rate T.os) 2+((2*M.f*(aI fJ:Int):Int):Rat)):=o5 QG lf;rw[e2,rN,c2,c3];have e3:qR M.f M.j T.rate T.os.tail=fl T.os.length (leadF T.os) (2*M.f) (ownF M.j T.rate T.os) 2:=by unfold qR;rw[<-List.drop_one];exact XC QG
     rw[e3];refine cy (gP _ _) ?_;have:((aI fJ:Int)-((0:Nat):Int))=(aI fJ:Int):=by lia
     rw[this];exact iI
   ·rw[c2]at e'
    rw[eo]at e';cases e';refine⟨by rw[<-jq];exact RA,?_⟩;rw[rN,c2,c3];have:(aI ns:Int)-((T.dn+1:Nat):Int)=(aI ns:Int)-T.dn-1:=by lia
    rw[this];exact IA
  ·rw[t3]at e'
   cases ib:T.stp with |none=>rw[ib]at e';cases e' |some z=>obtain⟨z1,z2,z3⟩:=z;rw[ib]at e';cases e';exact h.hs _ _ _ ib
 |eV eo ed nh=>
  have dH:T.os≠[]:=λz=>by rw[z]at eo;simp at eo
  have hlen:1<=T.os.length:=by have:=(cv.mp eo).1;lia
  have ii:i<m:=by lia
  have eoi:os[i]? =some none:=by rw[i2.fL,sY,Ap,bo aw]at eo;exact eo
  have II:ds[i]? =some e:=by rw[i2.iS,sY,Ap,bo aw]at ed;exact ed
  have Oe:=i2.j2 eo;have k0:k=0:=by
   rcases i2.kl with z|⟨fJ,iK,_,z1,z2⟩
   ·exact z
   ·rw[eoi]at z1;cases z1
  subst k0;obtain⟨_,s1,s2,s3,s4⟩:=Bc ok.raw e;have sp:(cS e T).pc=T.pc/\(cS e T).rate=T.rate/\(cS e T).stp=T.stp:=by
   unfold cS;split
   ·split
    ·exact⟨Z,Z,Z⟩
    ·split<;>exact⟨Z,Z,Z⟩
   ·exact⟨Z,Z,Z⟩
  have HJ:(iE (cS e T)).pc=T.pc/\(iE (cS e T)).rate=T.rate/\(iE (cS e T)).stp=T.stp:=by unfold iE;rw[s1];cases jn:T.os with |nil=>exact(dH jn).elim |cons x tl=>exact sp
  obtain⟨t1,t2,t3⟩:=HJ;have dI:=(One.eV (M:=M) eo ed nh).ok ok aL;have idx:(dv rate ds os i).length+0=es.length:=h.len.symm;have IU:(dv rate ds os os.length)[es.length]? =some e:=by rw[<-idx,IT row (by rw[sE eoi II];simp) os.length aw (bf _),sE eoi II];rfl
  refine⟨i',k',gr sq es.length none,h1,t2.trans h.rt,by rw[pE];lia,λc x du hx uz=>?_,λc hc=>?_,λc b hc hb=>?_,λb hb=>?_,λq hq=>?_,λfJ iK e'=>?_,λa' st gn e'=>h.hs a' st gn (by rw[<-t3];exact e')⟩
  ·rcases QM c x hx with⟨g1,g2⟩|⟨g1,g2⟩
   ·rw[tI aw];exact h.ent c x du g1 uz
   ·subst g1 g2
    rw[IU]at uz;cases uz;rw[vz];exact⟨Z,dG i _ eoi II⟩
  ·rw[pE]at hc
   rw[tI aw];exact h.out c aw
  ·rw[pE]at hc
   by_cases g:c=es.length
   ·subst g
    rw[prev_lt (bf _),vz];exact GD ok.pd.nn (h.pb b hb) h.pv λq e=>by cases e
   ·rw[prev_lt aw,tI g]
    exact h.meet c b aw hb
  ·rw[t1,Oe]
   exact SM row b (gj hb)
  ·rw[pE]at hq
   have hq:gr sq es.length none es.length=some q:=hq;rw[vz]at hq;cases hq
  ·rw[t1,Oe]
   refine⟨Ow.tE _ _,?_⟩;have a3n:(iE (cS e T)).os≠[]:=λz=>by rw[z]at e';simp at e'
   have r1:=O0 dI aL a3n;have hd:(0:Int)<=(aI fJ:Int)-((iE (cS e T)).dn:Int):=by
    rcases dI.dn with z|⟨n2,p2,z1,z2⟩
    ·lia
    ·rw[e']at z1;cases z1;lia
   have:(0:Rat)<=((2*M.f*((aI fJ:Int)-((iE (cS e T)).dn:Int)):Int):Rat):=xx.mpr (show(0:Int)<=_ from iW aw hd);grind
theorem NI{M:bW}{D:Nat}{rate:Int}{pl:List Int}{ds:List aj}{os:List Itm}(aL:M.Ok)(row:cw M.rs.length ds os)(dG:RowW ds os){m:Nat}{T T1:bJ}{fs:List aj}(r:Run M T fs T1):∀{i k:Nat}{es:List aj}{sq:Nat->Option Rat},ck M D T->iq M rate pl ds os m i k T es sq->∃i' k' tJ,iq M rate pl ds os m i' k' T1 (es++fs) tJ:=by induction r with |nil=>intro i k es sq _ h;exact⟨i,k,sq,by rw[qC];exact h⟩ |cons o _ ih=>intro i k es sq ok h;obtain⟨i1,k1,sq1,h1⟩:=YN aL row dG ok h o;obtain⟨i2,k2,vA,h2⟩:=ih (o.ok ok aL) h1;exact⟨i2,k2,vA,by rw[Dg]at h2;exact h2⟩
theorem iq.uK{M:bW}{D:Nat}{rate:Int}{pl:List Int}{ds:List aj}{os:List Itm}{m i k:Nat}{T:bJ}{es:List aj}{sq:Nat->Option Rat}{d:aj}{o:Itm}(aL:M.Ok)(ok:ck M D T)(h:iq M rate pl ds os m i k T es sq)(ll:ds.length=os.length)(ed:ds[m]? =some d)(eo:os[m]? =some o)(cn:ck M D (lW T d o)):iq M rate pl ds os (m+1) i k (lW T d o) es sq:=by have lX:=aL.f1;refine⟨h.i2.uK ll ed eo,h.rt,h.len,h.ent,h.out,h.meet,h.pb,h.pv,λns sp e=>?_,h.hs⟩;show T.pc<=_/\T.pc<=_;cases hT:T.os with
 |nil=>
  have p0:=h.i2.j1 hT;rw[p0];refine⟨Ow.tE _ _,?_⟩;have dH:(lW T d o).os≠[]:=by show T.os++[o]≠[];simp
  have r1:=O0 cn aL dH;have hd:(0:Int)<=(aI ns:Int)-((lW T d o).dn:Int):=by
   rcases cn.dn with z|⟨n2,p2,z1,z2⟩
   ·lia
   ·rw[e]at z1;cases z1;lia
  have:(0:Rat)<=((2*M.f*((aI ns:Int)-((lW T d o).dn:Int)):Int):Rat):=xx.mpr (show(0:Int)<=_ from iW aw hd);grind |cons x tl=>
  have e0:T.os[0]? =some (some (ns,sp)):=by have e':(T.os++[o])[0]? =some (some (ns,sp)):=e;rw[hT]at e'⊢;exact e'
  obtain⟨a1,a2⟩:=h.pt ns sp e0;refine⟨a1,cy a2 ?_⟩;have:dS M T<=dS M (lW T d o):=XD M aL T.rate T.os [o] (by rw[hT];simp);have e2:(lW T d o).dn=T.dn:=rfl;rw[e2];exact U7.mpr this
theorem iq.go{M:bW}{rate:Int}{pl:List Int}{ds:List aj}{os:List Itm}{m i k:Nat}{T:bJ}{es:List aj}{sq:Nat->Option Rat}(h:iq M rate pl ds os m i k T es sq)(s:Rn.fM)(hs:∀a st gn,s=some (a,st,gn)->a<=((2*M.f*st:Int):Rat)):iq M rate pl ds os m i k {T with stp:=s} es sq:=⟨⟨h.i2.iS,h.i2.fL,h.i2.oh,h.i2.kl,h.i2.zy,h.i2.im,h.i2.ml,h.i2.j1,h.i2.j2⟩,h.rt,h.len,h.ent,h.out,h.meet,h.pb,h.pv,h.pt,hs⟩
theorem iq.hold{M:bW}{D:Nat}{rate:Int}{pl:List Int}{ds:List aj}{os:List Itm}{m i k:Nat}{T:bJ}{es:List aj}{sq:Nat->Option Rat}(aL:M.Ok)(ok:ck M D T)(h:iq M rate pl ds os m i k T es sq):iq M rate pl ds os m i k (mL M T) es sq:=by unfold mL;cases hs:T.stp with |some z=>exact h |none=>refine h.go _ λa st gn e=>?_;cases e;exact(L4 aL.f1.1 ok.pd.nn).2.2.1
theorem iq.end{M:bW}{rate:Int}{pl:List Int}{ds:List aj}{os:List Itm}{i k:Nat}{T:bJ}{es:List aj}{sq:Nat->Option Rat}(row:cw M.rs.length ds os)(h:iq M rate pl ds os os.length i k T es sq)(he:T.os=[]):nj M.r M.f M.j M.t rate ds os es sq:=by
 have L:=h.i2.len;rw[he]at L;have im:=h.i2.im;have ei:i=os.length:=by simp at L;lia
 subst ei;have k0:k=0:=by
  rcases h.i2.kl with z|⟨_,_,z,_⟩
  ·exact z
  ·lia
 subst k0;have len:=h.len;rw[Nat.add_zero]at len;refine⟨len,h.ent,h.out _ (bf _),λc b hb=>?_⟩;by_cases hc:c<es.length
 ·exact h.meet c b hc hb
 ·have hl:(gG M.j rate os).length=es.length+1:=by unfold gG;rw[cE,m6 (ds:=ds) row _ (bf _),len];rfl
  have rY:=(cv.mp hb).1;have ec:c=es.length:=by lia
  subst ec;rw[h.out _ (bf _)];have p0:=h.i2.j1 he;refine GD (x:=T.pc) (by rw[p0];exact iI) (h.pb b hb) h.pv λq e=>by cases e
end
end Lw
set_option maxHeartbeats 1000000
namespace Lw
open PySem PySem.Spec PyProof.Rows L2 Rt Ln Cn Pn
open Ow (topR cornO mnO betR atO ownF leadF ownL OkI OkIs)
section
variable {w:World} {mg:bV} {aA:Heap}
theorem L7(ti:Int)(zs:List Int)(q:Rat):dM 7 (mh ti zs q):=by
 have h1:dM 1 (.tuple (zs.map PyData.int)):=gf.tup (n:=0) λd hd=>by obtain⟨i,_,rfl⟩:=fW.mp hd;exact .int i
 have hs:gf 1 [.str "step",.tuple (zs.map PyData.int),.int (lC ti q),cD q]:=λd hd=>by
  simp only[dh,fV,jb]at hd;rcases hd with rfl|rfl|rfl|rfl
  ·exact⟨aQ,aQ⟩
  ·exact h1
  ·exact .int _
  ·exact G2 _
 exact hs.tup.le aB
theorem Ot{d:aj}(h:kr d):dM 7 d:=by
 rcases h with⟨n,rfl,_,_⟩|⟨wd,z,rfl,hw,ok,_⟩
 ·have hs:gf 0 [.str "wait",.int n]:=λd hd=>by
   simp only[dh,fV,jb]at hd;rcases hd with rfl|rfl
   ·exact⟨aQ,aQ⟩
   ·exact .int _
  exact hs.tup.le aB
 ·have hs:gf 0 [.str wd,.str z]:=λd hd=>by
   simp only[dh,fV,jb]at hd;rcases hd with rfl|rfl
   ·rcases hw with rfl|rfl<;>exact⟨aQ,aQ⟩
   ·exact ok
  exact hs.tup.le aB
theorem nj.wg{r f j ti rate:Int}{ds:List aj}{os:List Itm}{es:List aj}{sq:Nat->Option Rat}(tp:nj r f j ti rate ds os es sq):dM 8 (.list es):=gf.lst (n:=7) λd hd=>by obtain⟨k,hk⟩:=vo.mp hd;have hl:=(cv.mp hk).1;obtain⟨du,ed⟩:∃u,(dv rate ds os os.length)[k]? =some u:=⟨_,bu (by have:=tp.len;lia)⟩;have en:=tp.ent k d du hk ed;cases hs:sq k with |none=>rw[hs]at en;exact Ot en.2 |some q=>rw[hs]at en;obtain⟨zs,top,_,rfl,_⟩:=en;exact L7 _ _ _
theorem MO:bj ["_law_machine_here","_law_items_here","_law_rate","_law_tape","_law_kept","_law_found","e","_law_others"] ["_law_machine_here","_law_items_here","_law_rate","_law_tape"] (aX EK):=bw aQ
theorem ZQ{cG:Addr}(F:FA K mg "_law_looked" EK)(B:bE mg)(hG:Exc K mg "GlideError" cG Ja OD)(a3p:aF P w K mg aA "look" 10 (vE K)):aF P w K mg aA "_law_looked" 11 (vE K):=by
 refine F.a4b MO (λvs H Q E h=>?_) (λ_ _ _ _ _ _=>sN λ_ _ _ _=>rfl) (λf aM A outer s H vs Q E hr h=>?_)
 ·obtain⟨m,iv,rate,tv,rs,r,f,j,t,ds,os,es,sq,rfl,_⟩:=h
  rfl
 ·obtain⟨m,iv,rate,tv,rs,r,f,j,t,ds,os,es,sq,rfl,rm,aL,ri,row,hz,bS,bT,rt,tp,k⟩:=h
  have nd:=MO.nd;have hy:=hG;have HI:(Ja).contains (.type "BaseException")=true:=by decide
  have HP:∀C',(λ_=>False:Addr->Prop) C'->ClsAt K C'/\takes K C' cG:=λC' e=>e.elim;have ok:=tp.wg;obtain⟨ta,xt,rfl,ht,kL⟩:=id rt.lst_inv;refine⟨_,(oy.Sh (pS 4 nd (vV (bU (cP K B (au (pv 3) (au (cJ (x:="list") (v:=.ty "list") Z (B.at "list") iV rfl) az)))) (gL (x:="list") (BK K rfl) rfl (B.at "list") iV (au (pv 3) az)) fo)) (oy.Sh (pS 5 nd fo) (oy.a7F (Y6 (i:=6) Z Z nd Z Z Z (λE xe hp=>(aG (bp (bG lM (pf a3p hr (au (pv 0) (au (pv 1) (au (pv 2) (au (pv 3) az))))) fo (aZ _)) (aG (pS 5 nd fg)) bA))) Z hy HI HP (λex=>Y5)) (aE (bp (PW.pt (nJ (bG lM (pv 4) fo (aZ _)) (qX (bG (gO K Z hr.units) (pv 3) (pv 4) (aZ _))))) (aG (aR fg)) bA) (aG (aR (pv 5))))))),?_⟩;refine⟨_,Z,.inl ⟨_,_,"list",true,Z,rt.ty,aB,(by decide:gq "list" "list"=true),_,Z,bK ?_⟩⟩;refine⟨_,Z,ta,_,Z,.inl ht,λl1 H1 n1=>?_⟩;refine⟨λcls dx H'=>False,?_,λcls dx H' h=>h.elim,λC' ex dx σ' H' hl h hex=>h.elim⟩;have s1:=n1.same;refine⟨_,Z,_,Z,_,Z,_,Z,m,iv,rate,.ref ta,rs,r,f,j,t,ds,os,es,sq,Z,RD.mono s1 _ rm,aL,RD.mono s1 _ ri,row,hz,bS,bT,RD.mono s1 _ rt,tp,λH2 s2=>?_⟩;refine⟨Z,_,Z,aW ?_⟩;have FG:=s1.trans s2;refine⟨_,Z,Z,_,Z,bK ?_⟩;refine⟨_,Z,_,Z,.inr ⟨_,_,RD.mono FG _ rt,vO (aK.of (s2 _ _ n1.at')) (aJ.mono FG _ kL),mj ok,mj ok,_,Z,?_⟩⟩;rw[eqv_refl _ ok.lay];exact aW ⟨_,Z,k H2 FG⟩
end
end Lw
set_option maxHeartbeats 4000000
namespace Lw
open PySem PySem.Spec PyProof.Rows L2 Rt Ln Cn Pn Wk Rn
open Ow (topR cornO mnO betR atO ownF leadF ownL OkI OkIs)
section
variable {w:World} {mg:bV} {aA:Heap}
theorem Wv(n:Nat):seqIndex? 0 (n+1)=some 0:=by unfold seqIndex?;simp
theorem Run.stp{M:bW}{S S1:bJ}{es:List aj}(r:Run M S es S1)(h:S.stp=none):S1.stp=none:=by induction r with |nil=>exact h |cons o _ ih=>apply ih;cases o with
 |line _ _=>
  unfold fD iE;split
  ·split<;>(show tT _=none;rw[h];rfl)
  ·show tT _=none;rw[h];rfl |eV _ _ _=>
  have hs:∀(d:aj)(T:bJ),(cS d T).stp=T.stp:=λd T=>by
   unfold cS;split
   ·split
    ·rfl
    ·split<;>rfl
   ·rfl
  unfold iE;split
  ·exact(hs _ _).trans h
  ·exact(hs _ _).trans h
structure A8(M:bW)(pl:List Int)(ds:List aj)(os:List Itm):Prop where
 aL:M.Ok
 row:cw M.rs.length ds os
 rw:RowW ds os
 rr:qq M.rs pl os
 len:ds.length<=20
theorem ck.up{M:bW}{D:Nat}{S:bJ}(h:ck M D S)(hD:D<=1490):ck M (D+10) S:=by have D1:=h.D1;refine⟨h.row,h.rw,h.len,h.bS,h.bT,h.dn,h.pl,h.pd.mono aw,h.pm,?_,aw,aw⟩;have st:=h.stp;cases hs:S.stp with |none=>trivial |some z=>rw[hs]at st;obtain⟨sq,gZ,gn⟩:=z;obtain⟨a1,a2,a3,a4,a5⟩:=st;exact⟨a1,a2,a3,a4.mono aw,a5⟩
theorem ck.go{M:bW}{D:Nat}{S:bJ}(h:ck M D S):ck M D {S with stp:=none}:=⟨h.row,h.rw,h.len,h.bS,h.bT,h.dn,h.pl,h.pd,h.pm,trivial,h.D1,h.D2⟩
theorem ck.rate{M:bW}{D:Nat}{S:bJ}(h:ck M D S){rate:Int}(h1:10<=rate)(h2:rate<=200):ck M D {S with rate:=rate}:=⟨h.row,h.rw,h.len,h1,h2,h.dn,h.pl,h.pd,h.pm,h.stp,h.D1,h.D2⟩
theorem aH.but{S:List Addr}{H0 H H':Hp}(s:aH H0 H)(b:da S H H')(hn:∀x∈S,H0 x=none):aH H0 H':=λb' o e=>b _ _ (s _ _ e) (λhm=>by rw[hn _ hm]at e;cases e)
theorem aH.none{H0 H:Hp}{x:Addr}(s:aH H0 H)(h:H x=none):H0 x=none:=by cases e:H0 x with |none=>rfl |some o=>have:=s _ _ e;rw[h]at this;cases this
theorem a6W{l:List aj}:PyData.eqv (.list l) (.list [])=l.isEmpty:=by cases l<;>simp[PyData.eqv,PyData.eqvAll]
theorem WZ{M:bW}{D:Nat}{S S1:bJ}{es:List aj}(r:Run M S es S1):ck M D S->M.Ok->∀e∈es,dM 7 e:=by induction r with |nil=>intro _ _ e he;cases he |cons o _ ih=>
 intro h aL e he;rcases dh.mp he with rfl|he
 ·cases o with |line _ _=>exact L7 _ _ _ |eV eo ed _=>exact Ot (h.rw 0 _ eo ed)
 ·exact ih (o.ok h aL) aL e he
structure G5(K:ag)(C:Addr)(M:bW)(rate:Int)(pl:List Int)(ds:List aj)(os:List Itm)(p x Wl Fl:Addr)(H0:Hp)(D:Nat)(H:Hp)(q:Addr)(S:bJ)(m:Nat)(es:List aj):Prop where
 w:W4 K C M ds p x Wl Fl H0 H q S m es
 ok:ck M D S
 inv:∃i k sq,iq M rate pl ds os m i k S es sq
 no:bM es=true
section
variable {C:Addr}{M:bW}{rate:Int}{pl:List Int}{ds:List aj}{os:List Itm}{p x Wl Fl:Addr}{H0 H H':Hp}{D:Nat}{q q':Addr}{S S':bJ}{m i k:Nat}{es fs:List aj}
theorem QW(cx:A8 M pl ds os)(inv:Inv2 pl ds os m i k S){d:aj}(ed:ds[m]? =some d):∃o,os[m]? =some o/\xk M.rs.length d o/\jN M.rs (ij (si S) o)/\S.ds.length<20:=by
 have ll:=cx.row.len;have GZ:=cx.len;obtain⟨o,eo,it⟩:=cx.row.get ed;have hm:m<ds.length:=(cv.mp ed).1;refine⟨o,eo,⟨it,λns sp e=>cx.row.ok m ns sp (by rw[eo,e]),λe=>cx.rw m d (by rw[eo,e]) ed⟩,?_,?_⟩
 ·rw[inv.goal]
  have:=cx.rr (m+1) aw;rw[kx,eo,xH]at this;exact this
 ·rw[inv.iS,oH,je];lia
theorem G5.draw(cx:A8 M pl ds os)(h:G5 K C M rate pl ds os p x Wl Fl H0 D H q S m es)(b:bF p H H'):G5 K C M rate pl ds os p x Wl Fl H0 D H' q S m es:=⟨h.w.draw b h.ok.row.no cx.row.no h.no,h.ok,h.inv,h.no⟩
theorem Hf{sq:Nat->Option Rat}(cx:A8 M pl ds os)(h:iq M rate pl ds os m i k S es sq):es.length<=2100:=by
 have ll:=cx.row.len;have GZ:=cx.len;have im:=h.i2.im;have ml:=h.i2.ml;have d1:=(sG (rate:=rate) cx.row i aw).1;have:=h.len;rcases h.i2.kl with z|⟨ns,sp,z,z1,z2⟩
 ·lia
 ·have:=pF (cx.row.ok i ns sp z1).1
  lia
theorem G5.run(cx:A8 M pl ds os)(h:G5 K C M rate pl ds os p x Wl Fl H0 D H q S m es)(r:Run M S fs S')(mv:Mv x q H q' H')(R:cN K C H' x q' M S'){ys:List V}(ry:aJ K H' ys fs):bM fs=true/\ck M D S'/\W4 K C M ds p x Wl Fl H0 H' q' S' m es/\(∀us,H' Fl=some (.lst us)->G5 K C M rate pl ds os p x Wl Fl H0 D (L2.upd H' Fl (.lst (us++ys))) q' S' m (es++fs)):=by have kH:=r.ok h.ok cx.aL;have nf:=r.no h.ok cx.aL;have w':=h.w.mv mv R cx.row.no h.no;refine⟨nf,kH,w',λus eu=>?_⟩;obtain⟨i,k,sq,inv⟩:=h.inv;obtain⟨i',k',tJ,a2D⟩:=NI cx.aL cx.row cx.rw r h.ok inv;refine⟨w'.ext kH.row.no cx.row.no h.no nf eu ry,kH,⟨i',k',tJ,a2D⟩,?_⟩;exact cu.mpr λd hd=>(jz.mp hd).elim (cu.mp h.no d) (cu.mp nf d)
end
inductive a9V(K:ag)(vs:List V)(H:Hp)(Q:VK):Prop |mk (p:_)(mv:_)(fR:_)(iv:_)(rate:_)(rs:_)(r:_)(f:_)(j:_)(ti:_)(pl:_)(ds:_)(os:_)(h0:vs=[.ref p,mv,fR,iv,.int rate])(h1:gh H p)(h2:RD K H mv (fE rs r f j ti))(h3:iT rs r f j ti)(h4:RD K H fR (gK pl))(h5:jN rs pl)(h6:RD K H iv (.tuple ds))(h7:cw rs.length ds os)(h8:RowW ds os)(h9:qq rs pl os)(uG:ds.length<=20)(HR:10<=rate)(Cd:rate<=200)(QH:∀v es sq H',RD K H' v (.list es)->nj r f j ti rate ds os es sq->bF p H H'->Q v H')
def LP(K:ag):Sp:=λvs H Q _=>a9V K vs H Q
theorem N8:bj ["_law_bag_here","_law_machine_here","_law_place_here","_law_items_here","_law_rate","_law_runner","_law_waits","_law_found","_law_turn","_law_kind","_law_item","_law_more"] ["_law_bag_here","_law_machine_here","_law_place_here","_law_items_here","_law_rate"] (aX F9):=bw aQ
theorem a07{C:Addr}(F:FA K mg "_law_held_tape" F9)(TC:gd K C)(B:bE mg)(dA:aF P w K mg aA "_law_take" 1 mi)(a4v:CL P w K mg aA C "Runner" 1 (LC K C))(a4w:cZ P w K mg aA C "turn_rate" 4 (Lz K C))(QC:cZ P w K mg aA C "feed" 5 (LG K C))(a4B:cZ P w K mg aA C "hold" 2 (LD K C))(QB:cZ P w K mg aA C "go" 1 (LF K C))(HM:cZ P w K mg aA C "entries" 12 (LI K C)):aF P w K mg aA "_law_held_tape" 13 (LP K):=by
 refine F.has N8 (λvs H Q E h=>?_) (λ_ _ _ _ _ _=>Jt λ_ _ _ _ _=>rfl) (λfa aM A outer s H vs Q E hr h=>?_)
 ·obtain⟨p,mv,fR,iv,rate,rs,r,f,j,ti,pl,ds,os,rfl,_⟩:=h
  rfl
 ·obtain⟨p,mv,fR,iv,rate,rs,r,f,j,ti,pl,ds,os,rfl,bg,rm,aL,oX,on,ri,row,dG,qQ,hl,bS,bT,kk⟩:=h
  have nd:=N8.nd;refine⟨_,(aE (pS 5 nd (Yj a4v (hr.mono aB) Z (au (pv 1) (au (pv 2) az)))) (aE (e9 (p9 a4w TC.cl (hr.mono aB) (pv 5) (au (pv 4) az))) (aE (pS 6 nd (gL (x:="list") (BK K Z) Z (B.at "list") iV (au (pv 3) az))) (aE (pS 7 nd (dj az)) (aE (gJ fe Z (p7 Z (B.at "range") (au aD az)) (aY 8 nd) (aE (pS 9 nd (pf dA hr (au (pv 0) (au aD az)))) (aG (bp (PW.pt (nJ (bG jj (pv 9) aD (aZ _)) (qX (bG mE (dk K B (au (pv 6) az)) aD (aZ _))))) (aG (e9 (p9 QC TC.cl (hr.mono aB) (pv 5) (au (Ys K Z (pv 6) (au aD az)) az)))) (aG (bp (bG (cI K Z hr.units) (pv 9) aD (aZ _)) (aG (e9 (jY a4B TC.cl (hr.mono aB) (pv 5)))) (aG (bp (bG (cI K Z hr.units) (pv 9) aD (aZ _)) (aG (e9 (jY QB TC.cl (hr.mono aB) (pv 5)))) (aG (e9 (vX K Z (pv 7) (au (p9 HM TC.cl (hr.mono aB) (pv 5) (au (aO cQ aD (pf dA hr (au (pv 0) (au aD az)))) az)) az)))))))))))) (aE (gJ fe Z (p8 K Z (pv 6)) (aY 10 nd) (aG (e9 (p9 QC TC.cl (hr.mono aB) (pv 5) (au (pv 10) az))))) (aE (e9 (jY QB TC.cl (hr.mono aB) (pv 5))) (aE (pS 11 nd (p9 HM TC.cl (hr.mono aB) (pv 5) (au aD az))) (aE (iM (nK fe (bG (gO K Z hr.units) (pv 11) (dj az) (aZ _)) (aE (e9 (vX K Z (pv 7) (au (pv 11) az))) (aG (pS 11 nd (p9 HM TC.cl (hr.mono aB) (pv 5) (au aD az))))))) (aG (aR (pv 7)))))))))))),?_⟩;have ll:=row.len;have lr3:=aL.len;obtain⟨ia,xs,rfl,zd,dP⟩:=ri.cB;have lx:=dP.length;refine⟨_,Z,_,Z,λx dx nx Gw Gv=>⟨x,dx,mv,fR,⟨rs,r,f,j,ti⟩,pl,Z,bQ,?_,?_,λq A6 JB nq sM=>⟨Z,?_⟩⟩⟩
  ·exact RD.mono (aH.new Gw|>.trans (aH.new (by rw[aV Gv.symm];exact nx))) _ rm
  ·exact RD.mono (aH.new Gw|>.trans (aH.new (by rw[aV Gv.symm];exact nx))) _ oX
  have sm:aH H (L2.upd (L2.upd H dx (.own x)) x (.ins C dx [])):=aH.new Gw|>.trans (aH.new (by rw[aV Gv.symm];exact nx));have kG:aH H A6:=aH.but sm sM (by simpa using nx);have a0C:H q=none:=aH.none sm nq;generalize hM:(⟨rs,r,f,j,ti⟩:bW)=M at JB;have gA:M.Ok:=by rw[<-hM];exact aL
  have IL:M.rs=rs:=by rw[<-hM]
  have cx:A8 M pl ds os:=⟨gA,by rw[IL];exact row,dG,by rw[IL];exact qQ,aw⟩;have nD:=cx.row.no;have OB:ck M 64 (nH pl):=Xl (by rw[IL];exact on.len);obtain⟨IS,_,_,_,_,e15,_⟩:=id JB.ob;refine⟨_,Z,x,IS,_,Z,e15,Z,_,Z,x,q,M,64,nH pl,rate,Z,JB,OB,gA,bS,bT,Z,λxo JA b16=>?_⟩;have jg:aH H xo:=aH.but kG b16 (by simpa using nx);have dI:ck M 64 {nH pl with rate:=rate}:=OB.rate bS bT;refine⟨_,Z,ia,xs,Z,.inr (zd.go jg),λWl H17 u7=>?_⟩;refine⟨bR Z,λFl H18 u6=>?_⟩;have Bi:=jg.trans u7.same;have NB:=Bi.trans u6.same;have R18:=JA.same dI.row.no (u7.same.trans u6.same);have nW:H Wl=none:=aH.none jg u7.no;have nF:H Fl=none:=aH.none Bi u6.no;have qW:q≠Wl:=λz=>by obtain⟨_,e',_⟩:=JA.qu;have:=u7.no;rw[<-z,e']at this;cases this
  have qF:q≠Fl:=λz=>by obtain⟨_,e',_⟩:=(JA.same dI.row.no u7.same).qu;have:=u6.no;rw[<-z,e']at this;cases this
  have WF:Wl≠Fl:=λz=>by have:=u6.no;rw[<-z,u7.at']at this;cases this
  have a2C:iq M rate pl ds os 0 0 0 {nH pl with rate:=rate} [] (λ_=>none):=⟨⟨Z,Z,Z,.inl rfl,Z,bf _,gH _,λ_=>rfl,λ_=>rfl⟩,Z,Z,(λc e du he=>by simp at he),(λ_ _=>rfl),(λc b hc=>absurd hc (Nat.not_lt_zero _)),(λb hb=>SM cx.row b (gj hb)),(λq hq=>by cases hq),(λns sp e=>by cases e),(λ_ _ _ e=>by cases e)⟩;have g0:G5 K C M rate pl ds os p x Wl Fl H 64 H18 q {nH pl with rate:=rate} 0 []:=⟨⟨bg,.fH bg NB,R18,⟨xs,u6.same _ _ u7.at',aJ.mono NB _ dP⟩,⟨[],u6.at',cH⟩,nx,a0C,nW,nF,qW,qF,WF⟩,dI,⟨0,0,_,a2C⟩,Z⟩;refine⟨60,Z,aB,aB,uJ (Pv:=λc O nk=>∃v8 v9,O=[some (.ref p),some mv,some fR,some (.ref ia),some (.int rate),some (.ref x),some (.ref Wl),some (.ref Fl),v8,v9,none,none]/\∃q S m es,G5 K C M rate pl ds os p x Wl Fl H (64+10*c) nk q S m es) ?_ ?_ ?_⟩
  ·exact⟨_,_,Z,_,_,_,_,g0⟩
  ·rintro c O nk hc ⟨v8,v9,rfl,q,S,m,es,g⟩
   have kb:c<60:=by simpa using hc
   have hD:64+10*c<=1490:=by lia
   refine⟨_,Z,p,6,Z,g.w.bg,aB,aB,λkd A5 k0 k1 xf=>?_⟩;have g1:=g.draw cx xf;have up:∀{H':Hp}{q:Addr}{S:bJ}{m:Nat}{es:List aj},G5 K C M rate pl ds os p x Wl Fl H (64+10*c) H' q S m es->G5 K C M rate pl ds os p x Wl Fl H (64+10*(c+1)) H' q S m es:=λg=>⟨g.w,g.ok.up hD,g.inv,g.no⟩;obtain⟨uS,_,_,_,_,qg,_⟩:=id g1.w.run.ob;refine⟨_,Z,_,_,Z,Z,_,Z,?_⟩;refine dJ (λhc1=>?_) (λhc1=>?_)
   ·obtain⟨ws,ew,rws⟩:=g1.w.wl
    refine⟨_,Z,Wl,ws,Z,.inl (aK.of ew),_,_,Z,Z,_,Z,?_⟩;refine dJ (λuB=>?_) (λuB=>?_)
    ·have hlen:(ws.length:Int)>0:=jc uB
     obtain⟨y,ys,rfl⟩:∃y ys,ws=y::ys:=by cases ws with |nil=>simp at hlen |cons y ys=>exact⟨y,ys,Z⟩
     obtain⟨w2,d,ed,FJ⟩:=g1.w.pop g1.ok.row.no nD g1.no ew;obtain⟨_,_,_,inv1⟩:=g1.inv;obtain⟨o,eo,it,yn,wR⟩:=QW cx inv1.i2 ed;refine⟨_,Z,x,uS,_,Z,qg,Z,?_⟩;refine⟨_,Z,.inl ⟨Z,_,aK.of ew⟩,Wl,_,0,0,y,Z,Z,ew,aB,aB,Wv _,Z,?_⟩;have vW:cM A5 (L2.upd A5 Wl (.lst ys)):=.upd ew trivial;refine⟨x,q,M,64+10*c,S,y,d,o,Z,w2.run,g1.ok,gA,RD.v vW _ it.it.no FJ,it,yn,wR,λH3 R3 b3=>?_⟩;have yu:=g1.ok.uK it wR;exact⟨_,_,Z,q,lW S d o,m+1,es,up ⟨w2.mv ⟨b3,.inl Z⟩ R3 nD g1.no,yu,⟨_,_,_,inv1.uK gA g1.ok cx.row.len ed eo yu⟩,g1.no⟩⟩
    ·refine⟨_,Z,.inl ⟨_,_,Z,Z,_,Z,?_⟩⟩
     refine dJ (λ_=>?_) (λ_=>?_)
     ·refine⟨_,Z,x,uS,_,Z,qg,Z,x,q,M,64+10*c,S,Z,g1.w.run,g1.ok,gA,λH3 R3 b3=>?_⟩
      obtain⟨_,_,_,inv1⟩:=g1.inv;exact⟨_,_,Z,q,mL M S,m,es,g1.w.mv ⟨b3.mono (by simp),.inl rfl⟩ R3 nD g1.no,g1.ok.hold gA hD,⟨_,_,_,inv1.hold gA g1.ok⟩,g1.no⟩
     refine⟨_,Z,.inl ⟨_,_,Z,Z,_,Z,?_⟩⟩;refine dJ (λ_=>?_) (λ_=>?_)
     ·refine⟨_,Z,x,uS,_,Z,qg,Z,x,q,M,64+10*c,S,Z,g1.w.run,g1.ok,λH3 R3 b3=>?_⟩
      obtain⟨_,_,_,inv1⟩:=g1.inv;exact⟨_,_,Z,q,{S with stp:=none},m,es,up ⟨g1.w.mv ⟨b3.mono (by simp),.inl rfl⟩ R3 nD g1.no,g1.ok.go,⟨_,_,_,inv1.go none (λ_ _ _ e=>by cases e)⟩,g1.no⟩⟩
     obtain⟨us,eu,ru⟩:=g1.w.fl;refine⟨_,Z,.inl ⟨Z,_,aK.of eu⟩,?_⟩;refine⟨_,Z,x,uS,_,Z,qg,Z,?_⟩;refine⟨_,Z,p,9,Z,g1.w.bg,aB,aB,λn H6 n0 n1 b6=>?_⟩;have g6:=g1.draw cx b6;refine⟨_,_,Z,Z,x,q,M,64+10*c,S,1+n,Z,g6.w.run,g6.ok,gA,aw,aw,λl ys fs S' q' H7 nl dl rd run len _ R7 mF lq=>?_⟩;obtain⟨nf,ok7,w7,gg⟩:=g6.run cx run mF R7 rd;obtain⟨xN,zw,FP⟩:=w7.fl;have ly:=rd.length;have lu:=FP.length;obtain⟨_,_,_,He⟩:=g6.inv;have l2:=Hf cx He;have kR:sizeLine=16777216:=by decide
     refine⟨Fl,l,xN,ys,Z,Z,zw,dl,aw,?_⟩;exact⟨_,_,Z,q',S',m,es++fs,up (gg xN zw)⟩
   ·refine⟨_,Z,.inl ⟨_,_,Z,Z,_,Z,?_⟩⟩
    refine dJ (λ_=>?_) (λ_=>?_)
    ·refine⟨_,Z,x,uS,_,Z,qg,Z,x,q,M,64+10*c,S,Z,g1.w.run,g1.ok,gA,λH3 R3 b3=>?_⟩
     obtain⟨_,_,_,inv1⟩:=g1.inv;exact⟨_,_,Z,q,mL M S,m,es,g1.w.mv ⟨b3.mono (by simp),.inl rfl⟩ R3 nD g1.no,g1.ok.hold gA hD,⟨_,_,_,inv1.hold gA g1.ok⟩,g1.no⟩
    refine⟨_,Z,.inl ⟨_,_,Z,Z,_,Z,?_⟩⟩;refine dJ (λ_=>?_) (λ_=>?_)
    ·refine⟨_,Z,x,uS,_,Z,qg,Z,x,q,M,64+10*c,S,Z,g1.w.run,g1.ok,λH3 R3 b3=>?_⟩
     obtain⟨_,_,_,inv1⟩:=g1.inv;exact⟨_,_,Z,q,{S with stp:=none},m,es,up ⟨g1.w.mv ⟨b3.mono (by simp),.inl rfl⟩ R3 nD g1.no,g1.ok.go,⟨_,_,_,inv1.go none (λ_ _ _ e=>by cases e)⟩,g1.no⟩⟩
    obtain⟨us,eu,ru⟩:=g1.w.fl;refine⟨_,Z,.inl ⟨Z,_,aK.of eu⟩,?_⟩;refine⟨_,Z,x,uS,_,Z,qg,Z,?_⟩;refine⟨_,Z,p,9,Z,g1.w.bg,aB,aB,λn H6 n0 n1 b6=>?_⟩;have g6:=g1.draw cx b6;refine⟨_,_,Z,Z,x,q,M,64+10*c,S,1+n,Z,g6.w.run,g6.ok,gA,aw,aw,λl ys fs S' q' H7 nl dl rd run len _ R7 mF lq=>?_⟩;obtain⟨nf,ok7,w7,gg⟩:=g6.run cx run mF R7 rd;obtain⟨xN,zw,FP⟩:=w7.fl;have ly:=rd.length;have lu:=FP.length;obtain⟨_,_,_,He⟩:=g6.inv;have l2:=Hf cx He;have kR:sizeLine=16777216:=by decide
    refine⟨Fl,l,xN,ys,Z,Z,zw,dl,aw,?_⟩;exact⟨_,_,Z,q',S',m,es++fs,up (gg xN zw)⟩
  rintro O nk ⟨v8,v9,rfl,q,S,m,es,g⟩;have g:G5 K C M rate pl ds os p x Wl Fl H 664 nk q S m es:=g;obtain⟨i',k',We,inv⟩:=g.inv;obtain⟨ws,ew,rws⟩:=g.w.wl;have rL:=inv.i2.ml;have lws:=rws.length;rw[oH]at lws;refine⟨_,Z,Wl,Z,⟨_,aK.of ew⟩,zu (K:=K) (a:=Wl) (xs:=ws) (λc O nk=>∃v10,O=[some (.ref p),some mv,some fR,some (.ref ia),some (.int rate),some (.ref x),some (.ref Wl),some (.ref Fl),v8,v9,v10,none]/\nk Wl=some (.lst ws)/\∃S,W4 K C M ds p x Wl Fl H nk q S m es/\ck M 664 S/\iq M rate pl ds os (m+c) i' k' S es We) ⟨_,Z,ew,S,g.w,g.ok,inv⟩ (λc O nk _ h=>by obtain⟨_,_,e,_⟩:=h;exact aK.of e) ?_ ?_⟩
  ·rintro c y O nk hy ⟨v10,rfl,Iu,S,nv,wk,yT⟩
   obtain⟨ws',uM,WW⟩:=nv.wl;rw[Iu]at uM;cases uM;obtain⟨d,ed,FJ⟩:=WW.get' c hy;rw[sY]at ed;obtain⟨o,eo,it,yn,wR⟩:=QW cx yT.i2 ed;obtain⟨IQ,_,_,_,_,IP,_⟩:=id nv.run.ob;refine⟨_,Z,x,IQ,_,Z,IP,Z,_,Z,x,q,M,664,S,y,d,o,Z,nv.run,wk,gA,FJ,it,yn,wR,λA5 Jz xf=>?_⟩;have a1f:Mv x q nk q A5:=⟨xf,.inl Z⟩;have yu:=wk.uK it wR;refine⟨_,Z,xf _ _ Iu (by simp;exact⟨(nv.xl).1.symm,nv.qw.symm⟩),lW S d o,nv.mv a1f Jz nD g.no,yu,yT.uK gA wk cx.row.len ed eo yu⟩
  rintro O nk ⟨v10,rfl,Iu,S,nv,wk,yT⟩;have emn:m+ws.length=os.length:=by lia
  rw[emn]at yT;obtain⟨IQ,_,_,_,_,IP,_⟩:=id nv.run.ob;refine⟨_,Z,x,IQ,_,Z,IP,Z,x,q,M,664,S,Z,nv.run,wk,λA5 Jz xf=>?_⟩;have tf:=nv.mv (S':={S with stp:=none}) ⟨xf.mono (by simp),.inl rfl⟩ Jz nD g.no;have wj:=wk.go;have PX:=yT.go none (λ_ _ _ e=>by cases e);generalize hS0:({S with stp:=none}:bJ)=S0 at tf wj PX;have Wf:S0.stp=none:=by rw[<-hS0]
  obtain⟨IS,_,_,_,_,qg,_⟩:=id tf.run.ob;have told:∀{fs:List aj}{S':bJ},Run M S0 fs S'->∃i k sq,iq M rate pl ds os os.length i k S' (es++fs) sq/\(es++fs).length<=2100/\¬Halt S'.pc S'.stp:=by intro fs S' run;obtain⟨i2,k2,vA,inv2⟩:=NI gA cx.row dG run wj PX;exact⟨i2,k2,vA,inv2,Hf cx inv2,λh=>h.1 (run.stp Wf)⟩
  refine⟨_,Z,x,IS,_,Z,qg,Z,x,q,M,664,S0,100,Z,tf.run,wj,gA,aB,aB,λl1 y1 fs1 S1 q1 H21 tY Ct ye NJ abG a72 R21 a1e lq1=>?_⟩;have UK:=tf.mv a1e R21 nD g.no;have l1n:H l1=none:=by cases e':H l1 with |none=>rfl |some o'=>
   by_cases hp:l1=p
   ·obtain⟨c,mm,eb,_⟩:=tf.bg
    rw[hp,eb]at tY;cases tY
   ·have:=tf.bI.same _ _ hp e'
    rw[tY]at this;cases this
  have l1F:l1≠Fl:=λz=>by obtain⟨us,eu,_⟩:=tf.fl;rw[z,eu]at tY;cases tY
  refine⟨λO oA=>∃q' S' fs qE,O=[some (.ref p),some mv,some fR,some (.ref ia),some (.int rate),some (.ref x),some (.ref Wl),some (.ref Fl),v8,v9,v10,qE]/\W4 K C M ds p x Wl Fl H oA q' S' m (es++fs)/\Run M S0 fs S'/\S'.os=[],?_,?_⟩
  ·refine nu (λO oA=>∃q' S' fs gs l ys,O=[some (.ref p),some mv,some fR,some (.ref ia),some (.int rate),some (.ref x),some (.ref Wl),some (.ref Fl),v8,v9,v10,some (.ref l)]/\W4 K C M ds p x Wl Fl H oA q' S' m (es++fs)/\Run M S0 (fs++gs) S'/\oA l=some (.lst ys)/\aJ K oA ys gs/\(gs=[]->S'.os=[])/\l≠Fl/\H l=none) (λ_ oA=>match oA Fl with|some (.lst us)=>5000-us.length|_=>0) ?_ ?_ ?_
   ·refine⟨q1,S1,[],fs1,l1,y1,Z,by rw[qC];exact UK,NJ,Ct,ye,λz=>?_,l1F,l1n⟩
    rcases a72 with h|h|h
    ·rw[z]at h;simp at h
    ·exact h
    ·obtain⟨_,_,_,_,_,nh⟩:=told NJ
     exact(nh h).elim
   ·rintro O oA ⟨q',S',fs,gs,l,ys,rfl,xK,run,dl,rl,hgs,lF,ln⟩
    obtain⟨i2,k2,vA,inv2,Pu,nh2⟩:=told run;have kH:=run.ok wj gA;have jZ:=run.no wj gA;have noF:bM fs=true:=cu.mpr λd hd=>cu.mp jZ d (K7 _ hd);have noG:bM gs=true:=cu.mpr λd hd=>cu.mp jZ d (gk _ hd);have OI:bM (es++fs)=true:=cu.mpr λd hd=>(jz.mp hd).elim (cu.mp g.no d) (cu.mp noF d);rw[cE,cE]at Pu;have ly:=rl.length;refine⟨_,Z,bR Z,λle TM tZ=>?_⟩;have YT:dM 8 (.list gs):=gf.lst (n:=7) λd hd=>WZ run wj gA d (gk _ hd);refine .inr ⟨.list gs,.list [],vO (aK.of (tZ.same _ _ dl)) (aJ.mono tZ.same _ rl),vO (aK.of tZ.at') cH,mj YT,Z,_,Z,?_⟩;rw[a6W];have Dl:=xK.same tZ.same kH.row.no nD OI;have a7r:=tZ.same _ _ dl;have Xr:=aJ.mono tZ.same _ rl;cases hf:gs with |nil=>subst hf;refine aW ?_;rw[qC]at run;exact⟨q',S',fs,_,Z,Dl,run,hgs Z⟩ |cons f0 fr=>
     rw[<-hf];have dH:gs≠[]:=by rw[hf];simp
     have uo:0<gs.length:=Ao.mpr dH;rw[show(!gs.isEmpty)=true by rw[hf];rfl];refine bK ?_;have kR:sizeLine=16777216:=by decide
     obtain⟨us,eu,ru⟩:=Dl.fl;have lu:=ru.length;rw[cE]at lu;refine⟨_,Z,.inl ⟨Z,_,aK.of eu⟩,_,Z,Fl,l,us,ys,Z,Z,eu,a7r,aw,?_⟩;have oO:=Dl.ext kH.row.no nD OI noG eu Xr;have Iv:(L2.upd TM Fl (.lst (us++ys))) Fl=some (.lst (us++ys)):=bQ;rw[Dg]at oO;generalize L2.upd TM Fl (.lst (us++ys))=H25 at oO Iv⊢;obtain⟨a7k,_,_,_,_,e25,_⟩:=id oO.run.ob;refine⟨_,Z,x,a7k,_,Z,e25,Z,x,q',M,664,S',100,Z,oO.run,kH,gA,aB,aB,λl2 y2 hs S2 q2 TL tX IY qU y9 abF a71 R26 OZ jG=>?_⟩;have tW:bM (es++(fs++gs))=true:=cu.mpr λd hd=>(jz.mp hd).elim (cu.mp g.no d) (cu.mp jZ d);have UJ:=oO.mv OZ R26 nD tW;have run':=run.trans y9;have a6V:TL Fl=some (.lst (us++ys)):=OZ.but _ _ Iv (by simp;exact⟨(oO.xl).2.1.symm,oO.qf.symm⟩);refine⟨⟨q2,S2,fs++gs,hs,l2,y2,Z,UJ,run',IY,qU,λz=>?_,λz=>?_,?_⟩,?_⟩
     ·rcases a71 with h|h|h
      ·rw[z]at h;simp at h
      ·exact h
      ·obtain⟨_,_,_,_,_,nh⟩:=told run'
       exact(nh h).elim
     ·rw[z,Iv]at tX;cases tX
     ·cases e':H l2 with |none=>rfl |some o'=>
      by_cases hp:l2=p
      ·obtain⟨c,mm,eb,_⟩:=oO.bg
       rw[hp,eb]at tX;cases tX
      ·have:=oO.bI.same _ _ hp e'
       rw[tX]at this;cases this
     ·obtain⟨us0,R8,ru0⟩:=xK.fl
      have:=tZ.same _ _ R8;rw[eu]at this;cases this;show(match TL Fl with|some (.lst us)=>5000-us.length|_=>0)<(match oA Fl with|some (.lst us)=>5000-us.length|_=>0);rw[a6V,R8];show 5000-(us++ys).length<5000-us.length;rw[cE]
      lia
   ·rintro O H6 Q1 Q2 hq ⟨v1,f1,sm,h⟩
    refine⟨v1,f1,sm,λe' H' n'=>?_⟩;rcases h e' H' n' with⟨i1,i2,g1,g2,b1,g3,g4⟩|⟨d1,d2,g1,g2,g3,g4,b1,g5,g6⟩
    ·exact .inl ⟨i1,i2,g1,g2,b1,g3,hq _ _ g4⟩
    ·exact .inr ⟨d1,d2,g1,g2,g3,g4,b1,g5,hq _ _ g6⟩
  rintro O oA ⟨q',S',fs,qE,rfl,xK,run,jn⟩;obtain⟨i2,k2,vA,inv2,Pu,nh2⟩:=told run;have tp:=inv2.end cx.row jn;obtain⟨us,eu,ru⟩:=xK.fl;refine⟨_,Z,kk _ (es++fs) vA _ (vO (aK.of eu) ru) ?_ xK.bI⟩;rw[<-hM]at tp;exact tp
theorem MU:bj ["_law_script","_law_k","_law_bag_here","_law_machine_here","_law_place_here","_law_many","_law_most","_law_rate","_law_items_here","_law_tape"] ["_law_script"] (aX vI):=bw aQ
theorem ZW{f:Addr}{fd:FuncData}(F:m7 K "law" "law" vI f fd)(B:bE mg)(a4W:aF P w K mg aA "_law_bag" 1 (LX K))(dA:aF P w K mg aA "_law_take" 1 mi)(a4L:aF P w K mg aA "_law_machine" 2 (LM K))(a4H:aF P w K mg aA "_law_sizes" 2 (Lr K))(a4J:aF P w K mg aA "_law_place" 2 (LJ K))(a4P:aF P w K mg aA "_law_items" 3 (DH K))(a4R:aF P w K mg aA "_law_held_tape" 13 (LP K))(a4N:aF P w K mg aA "_law_look" 6 (vE K))(a4M:aF P w K mg aA "_law_looked" 11 (vE K)):iU P w K mg aA ja 14 f fd ["_law_script"] (DG K):=by
 refine F.ok MU (λvs H Q E h=>?_) (λaM A outer s H vs Q E hr h=>?_)
 ·obtain⟨a,ns,rfl,_⟩:=h
  rfl
 ·obtain⟨a,ns,rfl,hS,hlen,k⟩:=h
  have nd:=MU.nd;refine⟨_,(aE (gJ fe Z (p7 Z (B.at "range") (au (aO cQ (eD (x:="min") (J8 rfl) rfl (B.at "min") Ue (au aD (au (dk K B (au (pv 0) az)) az))) aD) az)) (aY 1 nd) (aE (pS 2 nd (pf a4W hr (au (pv 0) (au (pv 1) az)))) (aE (pS 3 nd (pf a4L hr (au (pv 2) az))) (aE (pS 4 nd (pf a4J hr (au (pv 2) (au (pv 3) az)))) (aE (eU (pf a4H hr (au (pv 2) (au (eB (cI K Z hr.units) (pv 1) aD (aZ _)) az))) (cW K Z (n:=2) Z (bC (aY 5 nd) (bC (aY 6 nd) cV)))) (aE (pS 7 nd (px K (dj (au aD (au aD (au aD (au (aO cQ aD (pf dA hr (au (pv 2) (au aD az)))) az))))) (pf dA hr (au (pv 2) (au aD az))))) (aE (pS 8 nd (pf a4P hr (au (pv 2) (au (pv 3) (au (pv 4) (au (pv 5) (au (pv 6) az))))))) (aE (pS 9 nd (pf a4R hr (au (pv 2) (au (pv 3) (au (pv 4) (au (pv 8) (au (pv 7) az))))))) (aG (bp (PW.pt (fQ (bG lM (pf a4N hr (au (pv 3) (au (pv 8) (au (pv 7) (au (pv 9) az))))) fo (aZ _)) (iY (bG lM (pf a4M hr (au (pv 3) (au (pv 8) (au (pv 7) (au (pv 9) az))))) fo (aZ _))))) (aG (aR iO)) bA)))))))))) (aG (aR iO))),?_⟩;refine⟨_,Z,a,_,Z,.inl hS,_,_,Z,_,_,Z,Z,_,Z,?_,?_,?_⟩
  ·split<;>lia
  ·split<;>(try rw[bL])<;>lia
  have hN:((if((ns.map V.int).length:Int)<2 then((ns.map V.int).length:Int)else 2)+1).toNat<=32:=by split<;>lia
  refine uJ (Pv:=λi O H2=>aH H H2/\∃v1 v2 v3 v4 v5 v6 v7 v8 v9,O=[some (.ref a),v1,v2,v3,v4,v5,v6,v7,v8,v9]) ?_ ?_ ?_
  ·exact⟨aH.refl _,none,none,none,none,none,none,none,none,none,Z⟩
  ·rintro i O H2 hi ⟨s2,v1,v2,v3,v4,v5,v6,v7,v8,v9,rfl⟩
   have hi8:i<32:=fO hi hN;refine⟨_,Z,_,Z,a,ns,_,Z,s2.seq hS,hlen,aw,aw,λp H3 np bg3 s3=>?_⟩;refine⟨_,Z,p,Z,bg3,λmv rs r f j ti H4 rm aL b4=>?_⟩;have nm:=nP rs r f j ti;refine⟨_,Z,_,Z,p,mv,rs,r,f,j,ti,Z,b4.bI,rm,aL,λfR pl H5 oX on b5=>?_⟩;have FU:=RD.t (bF.t b4.bI b5) _ nm rm;refine⟨_,Z,_,Z,.inl ⟨_,_,Z,Z,?_⟩⟩;refine⟨p,_,Z,b5.bI,λt many most H6 hT m1 m2 m3 m4 b6=>?_⟩;refine⟨t,_,Z,hT,Z,_,_,Z,_,_,Z,Z,?_⟩;have t6:=bF.t b5.bI b6;have Xo:=RD.t t6 _ nm FU;have Xh:=RD.t t6 _ (jE _) oX;refine⟨_,Z,p,191,Z,b6.bI,aB,aB,λrt H7 r0 r1 b7=>?_⟩;refine⟨_,_,Z,Z,bR Z,λc H8 n8=>?_⟩;have b8:bF p H7 H8:=.fH b7.bI n8.same;have cp:c≠p:=λe=>b7.bI.ne (e▸n8.no);refine⟨_,Z,p,4,Z,b8.bI,aB,aB,λix H9 i0 i1 b9=>?_⟩;have hm:∃rate:Int,ft [V.int 10,V.int 200,V.int 100,V.int (10+rt)] ix=some (V.int rate)/\10<=rate/\rate<=200:=by
    rcases(show ix=0\/ix=1\/ix=2\/ix=3 by lia)with rfl|rfl|rfl|rfl
    ·exact⟨10,Z,aw,aw⟩
    ·exact⟨200,Z,aw,aw⟩
    ·exact⟨100,Z,aw,aw⟩
    ·exact⟨10+rt,Z,aw,aw⟩
   obtain⟨rate,er,bS,bT⟩:=hm;refine .inl ⟨c,_,ix,_,Z,Z,aK.of (b9.same _ _ cp n8.at'),er,?_⟩;have CG:=b7.trans (b8.trans b9);have t9:=bF.t b6.bI CG;have NO:=RD.t t9 _ nm Xo;have NM:=RD.t t9 _ (jE _) Xh;refine⟨_,Z,_,Z,_,Z,_,Z,_,Z,p,mv,rs,r,f,j,ti,fR,pl,many,most,Z,CG.bI,NO,aL,NM,on,m1,m2,m3,m4,λiv ds os CN ri row dG hl CH=>?_⟩;obtain⟨hl,qQ⟩:=hl;have KS:=bF.t CG.bI CH;have NQ:=RD.t KS _ nm NO;have Xi:=RD.t KS _ (jE _) NM;have GZ:ds.length<=20:=by lia
   refine⟨_,Z,_,Z,_,Z,_,Z,_,Z,p,mv,fR,iv,rate,rs,r,f,j,ti,pl,ds,os,Z,CH.bI,NQ,aL,Xi,on,ri,row,dG,qQ,GZ,bS,bT,λtv es sq A6 NK tp sM=>?_⟩;have KR:=bF.t CH.bI sM;have NP:=RD.t KR _ nm NQ;have noD:dw (.tuple ds)=true:=by have:=row.no;simpa[dw]using this
   have NU:=RD.t KR _ noD ri;have sF:aH H2 A6:=(b4.trans (b5.trans (b6.trans (CG.trans (CH.trans sM))))).WK s3 np;refine⟨_,Z,_,Z,_,Z,_,Z,mv,iv,rate,tv,rs,r,f,j,ti,ds,os,es,sq,Z,NP,aL,NU,row,aw,bS,bT,NK,tp,λxo jg=>?_⟩;refine⟨Z,_,Z,aW ?_⟩;refine⟨_,Z,_,Z,_,Z,_,Z,mv,iv,rate,tv,rs,r,f,j,ti,ds,os,es,sq,Z,RD.mono jg _ NP,aL,RD.mono jg _ NU,row,aw,bS,bT,RD.mono jg _ NK,tp,λH17 Bi=>?_⟩;refine⟨Z,_,Z,aW ?_⟩;exact⟨s2.trans (sF.trans (jg.trans Bi)),_,_,_,_,_,_,_,_,_,Z⟩
  ·rintro O H2 ⟨s2,v1,v2,v3,v4,v5,v6,v7,v8,v9,rfl⟩
   exact k _
end
end Lw
namespace Lw
open PySem PySem.Spec PyProof.Rows L2
theorem a6R{K:ag}{mg:bV}{h:Heap}{x:Str}{c:Addr}{bm:List Value}{nw:String}(X:K.In h)(G:h.Ns mainGlobals mg)(a:PySem.W.nsIn K mainGlobals x=some (some (.ref c)))(q:PySem.W.excIn K c bm nw=true):Exc K mg x c bm nw:=⟨Af X G a,q⟩
theorem a8s:zY K P:=by intro w mg aA f fd A F;have tk:aF P w K mg aA "_law_take" 1 mi:=Z4 A.a6n A.B;have cd:aF P w K mg aA "common_divisor" 1 B8:=a0j A.a6g A.B;have lt:aF P w K mg aA "lowest_terms" 2 vD:=ZL A.a5U A.B cd;have iw:aF P w K mg aA "is_whole" 1 (lJ K):=ZX A.a60 A.B;have ww:aF P w K mg aA "is_whole_within" 2 (tK K):=YV A.a5Z A.B iw;have fn:aF P w K mg aA "fraction" 3 (vC K):=a09 A.a6c A.B iw lt;have ld:aF P w K mg aA "lead_of" 1 (kE K):=ZU A.a5X A.B;have ls:aF P w K mg aA "is_less" 1 (lH K):=ZS A.a68 A.B;have cp:aF P w K mg aA "corner_square" 6 (DL K):=a0h A.a6f A.B (YX A.a6b A.B (YW A.a5F A.B ld fn) (ZI A.a5T A.B lt) ls) fn;have PU:aF P w K mg aA "is_rate" 3 (B5 K):=ZZ A.a64 A.B A.a5c A.a5e ww;have tp:aF P w K mg aA "top_square" 4 (vB K):=YZ A.a5G A.B PU fn;have wF:aF P w K mg aA "is_line" 1 (qK K):=a01 A.a67 A.B;have lst:aF P w K mg aA "least" 2 (kD K):=ZT A.a5W A.B ls;have SI:aF P w K mg aA "bound_between" 7 (Ba K):=a0l A.a6j A.B A.uH wF tp cp lst;have own:aF P w K mg aA "own_bounds" 8 (DD K):=ZE A.QX A.B A.uH SI;have pw:aF P w K mg aA "plus_whole" 4 (xV K):=Zz A.a5O A.B;have nr:aF P w K mg aA "nearest" 1 DE:=ZG A.a5R A.B;have L5:aF P w K mg aA "stand_at" 2 (AZ K):=Z9 A.a5L A.B ld nr;have sr:aF P w K mg aA "step_rows" 3 (B0 K):=Zl A.a5J A.B ld L5;have ent:aF P w K mg aA "step_entry" 3 (DJ K):=a0d A.a5K A.B (Z3 A.a5I A.B (Oz A.QY A.B));have ln:aF P w K mg aA "_law_line" 2 (DF K):=ZO A.a6z A.B tk;have its:aF P w K mg aA "_law_items" 3 (DH K):=ZY A.a6C A.B tk (ZF A.a6t A.B tk) ln;have PN:aF P w K mg aA "is_item" 4 (B7 K):=a05 A.a69 A.B A.a5d ww (a0p A.a6k A.B A.a58 ww) (a02 A.a63 A.B A.a59 A.a55 ww (a04 A.a66 A.B A.a5a A.a5b));have isp:aF P w K mg aA "is_place" 3 (DI K):=a03 A.a65 A.B ww;have OY:aF P w K mg aA "moved" 1 (B6 K):=ZH A.a5S A.B;have Je:aF P w K mg aA "place_behind" 2 (xW K):=a0m A.a5Q A.B wF OY;have Vi:aF P w K mg aA "times" 3 (nI (·*·) K):=Z1 A.a5H A.B lt;have XG:aF P w K mg aA "reach_behind_first" 9 (DB K):=Zy A.a5N A.B (ZD A.QX A.B A.uH SI) (a0c A.a5Y A.B wF ld pw lst);obtain⟨C,R⟩:=A.rc;have TC:=R.tc;have FV:=Zs (w:=w) (mg:=mg) (aA:=aA) R.a1J TC;have NL:=Zh (w:=w) (aA:=aA) R.a1D TC A.uH;have NV:=Zr R.a1K TC FV NL;have Xp:=Zn R.a1I TC Je;have Xx:=Zu R.a1N TC A.B A.a57 PN isp Je Xp;have Xm:=Zm R.a1H TC pw Vi fn lst FV;have ref:=Zx R.a1Q TC Je;have Xb:=Zg R.a1C TC A.B ld sr tp XG ent NV Xm ref;have Xz:=Zv R.a1O TC wF Xb ref;have XB:=Zw R.a1P TC A.B NV Xz;have Xa:=Zf (w:=w) (mg:=mg) (aA:=aA) R.a1B TC;have Xv:=Zq R.a1L TC Xa FV;have Xw:=Zt (w:=w) (aA:=aA) R.a1M TC A.B;have X6:=Zc R.a1z TC PU NL;have oX:=Zj R.a1G TC OY L5;have rwt:=Zb (w:=w) (aA:=aA) R.a1y TC A.B;have rsq:=Ze (w:=w) (mg:=mg) (aA:=aA) R.a1E TC;have rrt:=Zi (w:=w) (mg:=mg) (aA:=aA) R.a1F TC;have rto:=Zd (w:=w) (mg:=mg) (aA:=aA) R.a1A TC;obtain⟨cG,hG⟩:=A.gl;have led:aF P w K mg aA "_law_lead" 1 (kE K):=ZV A.a6B A.B;have lrw:aF P w K mg aA "_law_rows" 3 (DA K):=Zk A.a6r A.B led (Z8 A.a6p A.B led);have BM:aF P w K mg aA "_law_frac" 1 (vF K):=a08 A.a6F A.B;have GR:aF P w K mg aA "_law_less" 1 (lH K):=ZR A.a6A A.B;have Pm:aF P w K mg aA "_law_min" 2 (kD K):=ZJ A.a6v A.B GR;have lsm:aF P w K mg aA "_law_sum" 2 (nI (·+·) K):=Z7 A.a6o A.B BM;have GK:aF P w K mg aA "_law_top" 2 (xU K):=YY A.a6l A.B BM;have yP:aF P w K mg aA "_law_number" 1 (lJ K):=ZN A.a6u A.B;have alk:aF P w K mg aA "_law_alike" 4 (xX A3 K):=Gn aB A.Cj A.B yP (Gn aB A.Cj A.B yP (Gn aB A.Cj A.B yP (a0q A.Cj A.B)));exact ZW F A.B (a0o A.a6K A.B) tk (ZK A.a6w A.B tk) (Z5 A.a6q A.B tk) (ZC A.a6s A.B tk) its (a07 A.a6E TC A.B tk (Zo R.init TC A.uH A.a5f) X6 Xx Xv Xw XB) (ZP A.a6y A.B (a0f A.a6I A.B lrw) (a0k A.a6J A.B led Pm GK BM) (a0e A.a6H A.B alk yP (a06 A.a6D A.B yP BM) (Z2 A.a6m A.B) GR GK) GK (a0a A.a6G A.B lsm GR Pm)) (ZQ A.a6x A.B hG (ZM A.a5V A.B (a0g A.a6e A.B wF tp sr) (a0n A.a6i A.B own wF tp ld) (a0b A.a6d A.B A.a56 A.a54 A.a5g PN (Z6 A.a62 A.B iw) (Z0 A.a61 A.B A.uH iw (a00 A.a6a A.B iw cd) ls (Oz A.QY A.B)) ls) (Za A.a5M A.B) (a0i A.a6h A.B A.uH pw ls)))
theorem a8t{P:ai}{w:World}{K:ag}{mg:bV}{aA:Heap}{f:Addr}{fd:FuncData}(A:All K mg)(F:m7 K "law" "law" vI f fd):iU P w K mg aA ja 14 f fd ["_law_script"] (DG K):=Vm a8s K P w mg aA f fd A F
end Lw
def PySem.W.Fast.tw12497236079054840123:PySem.Program:=PySem.Challenge.pw_glidequeue_k46_whole_tapes_of_runners
theorem PySem.W.Fast.te12497236079054840123:PySem.Challenge.pw_glidequeue_k46_whole_tapes_of_runners=PySem.W.Fast.tw12497236079054840123:=rfl
local macro_rules|`(command|universe $x:ident)=>return Lean.mkNullNode (<-((x.getId.toString.splitOn "_").drop 1).toArray.mapM fun i=>`(command|theorem $(Lean.mkIdent (`_root_.PySem.W.Fast++Lean.Name.mkSimple s!"tw{(`PySem.Challenge.cw_glidequeue_k46_whole_tapes_of_runners_holds++Lean.Name.mkSimple ((match i.front with|'h'=>"heap"|'t'=>"tree"|'v'=>"view"|'s'=>"sts"|'e'=>"env"|_=>"o")++"_"++(i.drop 1).toString)).hash}")):ident:True:=True.intro))
universe t_h985_t984_t899_t816_v39_t740_t654_h39_t430_t484_s900_o976_t241_t975_o900_s485_t226_s744_o817_t211_s817_o744_t189_s364_s293_o485_o431_s431_t152_o364_t137_o916_o968_o966_o293_o918_o598_t363_o961_t115_o759_o959_o757_o603_o975_o605_o984_o973_o982_o596_s242_t292_o870_s976_o868_o880_o878_o649_o873_o947_o802_o858_o463_o800_o945_o242_o933_o930_o928_o489_o906_o391_o577_o904_o809_o575_t85_o875_o954_o498_o461_o356_o406_o354_o952_o771_o778_o404_o769_o764_o762_o776_o227_o393_o398_o500_o430_o428_o647_o212_o456_o658_o935_o856_o190_o372_o454_o899_o781_o396_o449_o168_o783_o897_o153_o807_o940_o591_o425_o138_o938_o444_o589_o790_o584_o437_o116_o278_t100_o442_o788_o439_t70_o582_o351_o276_o925_o674_o101_o349_o645_o923_o470_o468_o346_o370_t167_o308_o301_o423_o447_o285_o71_o306_o344_o676_o379_o299_o863_o283_o816_o971_o866_o49_o420_o612_o619_o832_o377_o626_o86_o477_o950_o315_o814_o861_o683_o336_o617_o830_o624_o475_o752_o313_o957_o892_o512_o341_o601_o887_o484_o594_o750_o837_o568_o334_o890_o610_o329_o270_o339_o482_o363_o755_o292_o322_o263_o633_o825_o327_o853_o980_o570_o563_s168_o184_o290_o268_o851_o320_o885_o631_o182_o823_o418_o797_o261_o361_o547_o648_o913_o839_o386_o697_o549_o112_o244_o459_o964_o195_o384
open PySem PySem.W PyProof.Rows
set_option maxRecDepth 100000 in
set_option maxHeartbeats 0 in
theorem PySem.Challenge.cw_glidequeue_k46_whole_tapes_of_runners_holds : PySem.Challenge.rw_glidequeue_k46_whole_tapes_of_runners.Holds := by
 w_on; o_law; k_head; (case hw=>w_witness2)
 k_fill
 refine L2.a2f (l:=PySem.Challenge.rw_glidequeue_k46_whole_tapes_of_runners) (k:=14) (x:="_law_script") (st:=Lw.vI) rfl rfl ⟨rfl,by decide,by decide⟩ (fun w h Y=>PySem.W.kIn_of Y) Lw.All ?F (fun _ _ A=>A.law) (fun _ _ _ _ _ _ _=>rfl) (fun _ _ _ _ _ _ _ A F=>Lw.a8t A F)
 case F=>
  intro w mg h KX G
  refine⟨L2.a86 KX G ?b,?x1,?x2,?x3,?x4,?x5,?x6,?x7,?x8,?x9,?x10,?x11,?x12,?x13,?x14,?x15,?x16,?x17,?x18,?x20,?x21,?x22,?x23,?x24,?x25,?x26,?x27,?x28,?x29,?x30,?x31,?x32,?x33,?x34,?x35,?x36,?x37,?x38,?x39,?x40,?x41,?x42,?x43,?x44,?x45,?x46,?x47,?x48,?x49,?x50,?x51,?x52,?x53,?x54,?x55,?x56,?x57,?x58,?x59,?x60,?x61,?x62,?x63,?x64,?x65,?x66,?x67,?x68,?x69,?x70,?x71,?x72,?x73,?x74,?x75,?x76,?x77,?x78,?x79,?x80,?x81,?x82,?x83,?x84,?x85,?x86,?x87,?x88⟩
  case b=>(unfold L2.CF; repeat (refine L2.sO.cons ?z ?_; (case z=>k_is))); exact L2.sO.nil
  case x1=>refine' L2.QI KX G ?a ?l ?z ?r; (case a=>k_is); (case l=>k_is); (case z=>decide); (case r=>exact .cons ⟨_,rfl⟩ (.cons ⟨_,rfl⟩ .nil))
  case x2=>refine' L2.QI KX G ?a ?l ?z ?r; (case a=>k_is); (case l=>k_is); (case z=>decide); (case r=>exact .cons ⟨_,rfl⟩ (.cons ⟨_,rfl⟩ .nil))
  case x3=>(refine' L2.mU KX G ?z; (case z=>k_is))
  case x4=>(refine' L2.mU KX G ?z; (case z=>k_is))
  case x5=>(refine' L2.mU KX G ?z; (case z=>k_is))
  case x6=>(refine' L2.mU KX G ?z; (case z=>k_is))
  case x7=>(refine' L2.mU KX G ?z; (case z=>k_is))
  case x8=>(refine' L2.mU KX G ?z; (case z=>k_is))
  case x9=>(refine' L2.mU KX G ?z; (case z=>k_is))
  case x10=>(refine' L2.mU KX G ?z; (case z=>k_is))
  case x11=>(refine' L2.mU KX G ?z; (case z=>k_is))
  case x12=>(refine' L2.mU KX G ?z; (case z=>k_is))
  case x13=>(refine' L2.mU KX G ?z; (case z=>k_is))
  case x14=>(refine' L2.a50 KX G ?z; (case z=>k_is))
  case x87=>(refine' ⟨_,Lw.a6R KX G ?a2 ?q2⟩; (case a2=>k_is); (case q2=>k_exc))
  case x88=>
   refine' Exists.intro _ (Lw.Tr.mk (Lw.gd.mk (L2.kv.mk ?pg ?hd ?po ?sa) ?n1 ?n2 ?n3 ?n4 ?n5 ?n6 ?n7 ?n8 ?n9) (L2.a82 KX G ?aC ?mk ?kc ?ia ?ii ?il ?ic ?ik) (L2.iC ?a0 ?i0 ?l0 ?c0 ?k0) (L2.iC ?a1 ?i1 ?l1 ?c1 ?k1) (L2.iC ?a2 ?i2 ?l2 ?c2 ?k2) (L2.iC ?a3 ?i3 ?l3 ?c3 ?k3) (L2.iC ?a4 ?i4 ?l4 ?c4 ?k4) (L2.iC ?a5 ?i5 ?l5 ?c5 ?k5) (L2.iC ?a6 ?i6 ?l6 ?c6 ?k6) (L2.iC ?a7 ?i7 ?l7 ?c7 ?k7) (L2.iC ?a8 ?i8 ?l8 ?c8 ?k8) (L2.iC ?a9 ?i9 ?l9 ?c9 ?k9) (L2.iC ?a10 ?i10 ?l10 ?c10 ?k10) (L2.iC ?a11 ?i11 ?l11 ?c11 ?k11) (L2.iC ?a12 ?i12 ?l12 ?c12 ?k12) (L2.iC ?a13 ?i13 ?l13 ?c13 ?k13) (L2.iC ?a14 ?i14 ?l14 ?c14 ?k14) (L2.iC ?a15 ?i15 ?l15 ?c15 ?k15) (L2.iC ?a16 ?i16 ?l16 ?c16 ?k16) (L2.iC ?a17 ?i17 ?l17 ?c17 ?k17) (L2.iC ?a18 ?i18 ?l18 ?c18 ?k18))
   (case aC=>k_is)
   case n1 | n2 | n3 | n4 | n5 | n6 | n7 | n8 | n9=>(unfold L2.j9; k_is)
   case pg | hd | po | sa | mk | kc | ia | ii | il | ic | ik | a0 | i0 | l0 | c0 | k0 | a1 | i1 | l1 | c1 | k1 | a2 | i2 | l2 | c2 | k2 | a3 | i3 | l3 | c3 | k3 | a4 | i4 | l4 | c4 | k4 | a5 | i5 | l5 | c5 | k5 | a6 | i6 | l6 | c6 | k6 | a7 | i7 | l7 | c7 | k7 | a8 | i8 | l8 | c8 | k8 | a9 | i9 | l9 | c9 | k9 | a10 | i10 | l10 | c10 | k10 | a11 | i11 | l11 | c11 | k11 | a12 | i12 | l12 | c12 | k12 | a13 | i13 | l13 | c13 | k13 | a14 | i14 | l14 | c14 | k14 | a15 | i15 | l15 | c15 | k15 | a16 | i16 | l16 | c16 | k16 | a17 | i17 | l17 | c17 | k17 | a18 | i18 | l18 | c18 | k18=>k_is
  all_goals (refine' L2.a5C KX G ?a ?l ?c ?k; (case a=>k_is); (case l=>k_is); (case c=>k_is); (case k=>k_is))
#print axioms PySem.Challenge.cw_glidequeue_k46_whole_tapes_of_runners_holds
