import PyProof.Rows.All
import Wide.All
import OpenK.AllK
import Wide.FinOn
import Lean
import PyProof.EqAt
import PyProof.EqKinds
import PyProof.TupleCall
import PySem.Challenge.RW_glidequeue_k55_fed_at_a_desk
set_option Elab.async false
set_option linter.all false
set_option maxRecDepth 100000
noncomputable section
local macro_rules|`(command|def $i:declId $s:optDeclSig $v:declVal)=>`(command|noncomputable def $i:declId $s:optDeclSig $v:declVal)
local macro_rules|`(command|abbrev $i:declId $s:optDeclSig $v:declVal)=>`(command|noncomputable abbrev $i:declId $s:optDeclSig $v:declVal)
local macro_rules|`(tactic|trivial)=>`(tactic|first|exact Or.inl rfl|exact Or.inr rfl|exact Or.inr (Or.inl rfl)|exact Or.inr (Or.inr rfl)|assumption|exact fun _=>rfl|exact fun _ _=>rfl)
theorem r8_(h:True:=by rfl):True:=h
theorem q8_(h:True:=by decide):True:=h
theorem d8_(h:True:=by first|exact .inl rfl|exact .inr rfl|assumption):True:=h
theorem f8_(h:True:=by trivial):True:=h
theorem v8_(h:True:=by with_unfolding_all rfl):True:=h
theorem k8_(h:True:=by first|exact Or.inl rfl|exact Or.inr (Or.inl rfl)|exact Or.inr (Or.inr rfl)):True:=h
theorem z8_(h:True:=by first|exact Or.inl rfl|exact Or.inr rfl):True:=h
abbrev bf:=PySem.Str->Option PySem.Value
theorem ay{p:Prop}(h:autoParam (p) q8_._auto_1):p:=h
theorem aI{p:Prop}(h:p:=by decide+kernel):p:=h
theorem au {p:Prop} (h:p:=by lia):p:=h
theorem bo{p:Prop}(h:p:=by omega):p:=h
theorem Z {α : Sort _} {a : α}:a=a:=rfl
abbrev aa:=PySem.W.Frag
abbrev ae:=PySem.Shared
abbrev af:=PySem.Program
abbrev ah:=PySem.PyData
abbrev ai:=PySem.Around
abbrev aA:=@PySem.wpAny_bind
abbrev aR:=@if_pos
abbrev aU:=@if_neg
abbrev bj:=@Nat.le_refl
abbrev bw:=@PySem.wpAny_pure
abbrev bA:=@List.length_map
abbrev bK:=@List.getElem?_map
abbrev bL:=@PySem.Heap.get?_push_of_some
abbrev bN:=@PySem.Heap.lt_size
abbrev bR:=@decide_eq_true
abbrev bS:=@List.mem_cons
abbrev cH:=@List.mem_map
abbrev cI:=@List.getElem?_eq_getElem
abbrev cJ:=@PySem.intBits_le_64
abbrev cK:=@PySem.Heap.get?_push_size
abbrev cS:=@List.mem_singleton
abbrev cW:=@Option.some.inj
abbrev dc:=@Bool.false_ne_true
abbrev dr:=@beq_iff_eq
abbrev du:=@Bool.and_eq_true
abbrev dy:=@PySem.strLen_append
abbrev dA:=@Nat.ne_of_lt
abbrev dB:=@List.size_toArray
abbrev dM:=@decide_eq_false
abbrev dN:=@List.getElem?_eq_some_iff
abbrev dS:=@Nat.zero_le
abbrev eS:=@List.not_mem_nil
abbrev fb:=@Nat.lt_of_lt_of_le
abbrev fc:=@Nat.le_trans
abbrev fg:=@List.mem_of_getElem?
abbrev fh:=@List.all_eq_true
abbrev fG:=@Int.pow_succ
abbrev fH:=@Int.le_refl
abbrev fP:=@PySem.wpAny_mono
abbrev fQ:=@List.length_append
abbrev gb:=@List.length_cons
abbrev gc:=@Bool.true_and
abbrev gf:=@Bool.false_and
abbrev gy:=@PyProof.Rows.boot_str
abbrev gH:=@PySem.wpAny_holding
abbrev gI:=@PySem.wpAny_field
abbrev gJ:=@PyProof.Rows.boot_tuple
abbrev iK:=@Rat.le_refl
abbrev iL:=@Ne.symm
abbrev iM:=@List.mem_filterMap
abbrev iO:=@List.mem_append
abbrev iP:=@List.lookup_cons
abbrev je:=@PySem.PassesOwn.never
abbrev jf:=@List.mem_append_right
abbrev jg:=@List.map_append
abbrev jh:=@Bool.eq_iff_iff
abbrev jC:=@PyProof.Rows.boot_isinstance
abbrev jR:=@or_false
abbrev jS:=@of_decide_eq_true
abbrev jT:=@congrArg
abbrev jU:=@Array.length_toList
abbrev kR:=@Rat.le_trans
abbrev lS:=@PySem.wpAny_truthy_bool
abbrev lT:=@PySem.wpAny_newObj_type
abbrev lU:=@Nat.lt_trans
abbrev lV:=@List.append_nil
abbrev lW:=@Int.pow_zero
abbrev lX:=@Int.one_mul
abbrev lY:=@PySem.Heap.size_push
abbrev lZ:=@Array.toList_append
abbrev nc:=@PyProof.Rows.boot_abs
abbrev ng:=@Nat.lt_irrefl
abbrev nh:=@Int.emod_nonneg
abbrev ow:=@PySem.wpAny_call
abbrev oy:=@PySem.StrLaws.glued_eq_join
abbrev oz:=@Rat.not_lt
abbrev oA:=@PySem.W.mg_of
abbrev oB:=@PySem.Str.cps_append
abbrev oE:=@List.mem_iff_getElem?
abbrev oF:=@List.getElem?_zip_eq_some
abbrev oG:=@List.getElem?_eq_none
abbrev oH:=@PySem.IntMulOk.of_bits
abbrev oJ:=@Int.natAbs_mul
abbrev qw:=@PySem.wpAny_standAt
abbrev qx:=@PySem.wpAny_seqItems
abbrev qy:=@PySem.wpAny_loadPart_at
abbrev qz:=@if_true
abbrev qA:=@PyProof.Rows.callWith_type1
abbrev qB:=@Nat.ne_of_gt
abbrev qC:=@List.of_mem_zip
abbrev qD:=@List.map_cons
abbrev qE:=@Int.mul_pos
abbrev qF:=@Int.emod_lt_of_pos
abbrev sT:=@PySem.wpAny_passesOwn
abbrev sV:=@PySem.sizeLine_eq
abbrev sW:=@PySem.call_meets
abbrev sX:=@PySem.W.hideAll_get
abbrev sY:=@PySem.W.Looks.here
abbrev sZ:=@PyProof.Rows.boot_all
abbrev t6:=@Nat.pow_succ
abbrev t7:=@Nat.pow_le_pow_right
abbrev t9:=@List.mem_cons_of_mem
abbrev tf:=@List.length_take
abbrev tm:=@List.length_singleton
abbrev tq:=@List.any_cons
abbrev tw:=@List.all_cons
abbrev tD:=@Bool.not_eq_true'
abbrev vT:=@PySem.wpAny_setField_rec
abbrev vU:=@PySem.wpAny_pyIter_list
abbrev vV:=@PySem.wpAny_of_eq
abbrev vW:=@PySem.wpAny_execs_nil
abbrev vX:=@PySem.wpAny_Call_Name_kw
abbrev vY:=@PySem.typeIs_str
abbrev vZ:=@decide_eq_true_iff
abbrev wc:=@decide_eq_true_eq
abbrev we:=@PySem.codeAny_mono
abbrev wg:=@beq_self_eq_true
abbrev wj:=@Rat.num_divInt_den
abbrev wk:=@Rat.lt_iff
abbrev wm:=@Rat.le_antisymm
abbrev wo:=@PySem.F.plainAttrs_str
abbrev wt:=@PySem.F.excBase_ValueError
abbrev wu:=@Option.map_eq_some_iff
abbrev wx:=@List.take_succ
abbrev wy:=@List.take_length
abbrev wz:=@List.map_map
abbrev wA:=@List.length_pos_iff
abbrev wB:=@List.getElem_mem
abbrev wC:=@List.getElem?_append_left
abbrev wD:=@Int.mul_nonneg
abbrev wF:=@Int.mul_assoc
abbrev wG:=@PySem.Heap.get?_update_other
abbrev wH:=@Bool.eq_false_iff
abbrev wI:=@Bool.and_false
abbrev zK:=@PySem.wpAny_specialOf
abbrev zL:=@PySem.wpAny_setField
abbrev zM:=@PySem.wpAny_onRaise
abbrev zN:=@PySem.wpAny_call_entry
abbrev zO:=@PySem.wpAny_callSpecial?_slot
abbrev zP:=@PySem.wpAny_attempt
abbrev zQ:=@PySem.W.looks_findIn
abbrev zR:=@PySem.codeAny_call_builtin
abbrev zS:=@PyProof.Rows.assignInOrder_cons
abbrev zT:=@Rat.num_intCast
abbrev zU:=@Rat.den_intCast
abbrev zV:=@PySem.mem_of_lookup
abbrev zW:=@PySem.W.callWith_K
abbrev zX:=@PySem.Obj.data_mapFields
abbrev zY:=@Nat.mul_le_mul
abbrev zZ:=@Nat.lt_of_le_of_lt
abbrev A0:=@Nat.le_of_lt
abbrev A1:=@List.take_of_length_le
abbrev A2:=@List.mem_of_mem_take
abbrev A3:=@List.map_set
abbrev A4:=@List.getElem_range
abbrev A5:=@List.getElem?_append_right
abbrev A6:=@Int.mul_one
abbrev A7:=@PySem.Heap.get?_update_self
abbrev G5:=@PySem.wpAny_pyIter_rangeiter
abbrev G6:=@PySem.wpAny_isSubtype_exc
abbrev G7:=@PySem.intText_digits
abbrev G8:=@PySem.codeAny_builtin
abbrev G9:=@beq_eq_false_iff_ne
abbrev Ga:=@PySem.Str.empty_append
abbrev Gb:=@Rat.le_of_lt
abbrev Gd:=@Rat.divInt_nonneg_iff_of_pos_right
abbrev Ge:=@PySem.W.cellsFrom_some
abbrev Gf:=@PySem.Str.append_assoc
abbrev Gg:=@PySem.F.slot_zip_next
abbrev Gh:=@PySem.F.slot_tuple_iterator_next
abbrev Gi:=@PySem.F.excAttr_ValueError
abbrev Gj:=@PyProof.Rows.boot_max
abbrev Gk:=@Nat.lt_succ_of_lt
abbrev Gm:=@List.nodup_cons
abbrev Gp:=@List.mem_cons_self
abbrev Gq:=@List.mem_append_left
abbrev Gr:=@List.length_set
abbrev Gs:=@List.length_drop
abbrev Gu:=@List.getElem?_set_self
abbrev Gv:=@List.forIn_cons
abbrev Gw:=@List.ext_getElem?
abbrev Gx:=@List.all_nil
abbrev Gy:=@List.all_map
abbrev Gz:=@Int.mul_ne_zero
abbrev GB:=@Int.fdiv_eq_ediv_of_nonneg
abbrev GC:=@PySem.Calls.evalArgs_plain
abbrev GF:=@Bool.and_true
abbrev GG:=@Array.getElem?_eq_some_iff
abbrev GH:=@Array.getElem?_eq_getElem
abbrev Px:=@PySem.wpAny_updateSeq_pair
abbrev Py:=@PySem.wpAny_pyNext_range_end
abbrev PB:=@PySem.wpAny_newFunctionEnv_cells
abbrev PD:=@ne_true_of_eq_false
abbrev PF:=@PySem.int_text_length_le10
abbrev PH:=@PySem.codeAny_call_function
abbrev PK:=@Rat.mk_eq_divInt
abbrev PL:=@Rat.divInt_sub_divInt
abbrev PM:=@Rat.divInt_eq_divInt_iff
abbrev PN:=@PySem.ofString_length
abbrev PQ:=@PySem.W.plainGet_of
abbrev PR:=@PySem.W.of_hideAll
abbrev PU:=@PySem.W.looks_clsIn
abbrev PV:=@PySem.W.hideAll_none
abbrev PX:=@PySem.W.codeRec_of
abbrev PY:=@PySem.W.any_some
abbrev PZ:=@PySem.F.slot_tuple_add
abbrev Q0:=@PySem.F.plainAttrs_list
abbrev Q3:=@PySem.F.entry_tuple_add
abbrev Q4:=@PySem.F.args_tuple_add_2
abbrev Q5:=@PyProof.noPylong_of_log2
abbrev Q6:=@PyProof.Rows.slot_tuple_getitem
abbrev Q7:=@PyProof.Rows.boot_min
abbrev Q8:=@PyProof.Rows.boot_list
abbrev Q9:=@PyProof.Rows.boot_any
abbrev Qa:=@PySem.Obj.isFreed_of_fields
abbrev Qb:=@Nat.toDigits_of_lt_base
abbrev Qc:=@Nat.mul_le_mul_right
abbrev Qd:=@Nat.lt_succ_self
abbrev Qe:=@Nat.le_of_ble_eq_true
abbrev Qf:=@List.map_reverse
abbrev Qg:=@List.length_eq_zero_iff
abbrev Qh:=@List.getLastD_eq_getLast?
abbrev Qi:=@List.getLast?_eq_some_getLast
abbrev Qj:=@List.getElem?_set_ne
abbrev Qk:=@List.foldl_append
abbrev Ql:=@List.filterMap_cons
abbrev Qm:=@List.contains_cons
abbrev Qn:=@List.append_assoc
abbrev Qo:=@List.any_eq_true
abbrev Qp:=@Int.toNat_natCast
abbrev Qq:=@Int.natAbs_natCast
abbrev Qr:=@Int.mul_nonneg_of_nonpos_of_nonpos
abbrev Qs:=@Int.fmod_eq_emod_of_nonneg
abbrev Qt:=@PySem.Heap.get?_push_cases
abbrev Qu:=@PySem.F.slot_range_reversed
abbrev Qv:=@Bool.beq_eq_decide_eq
abbrev Qw:=@Array.getElem?_toList
abbrev Qx:=@Array.all_eq_true_iff_forall_mem
abbrev Qy:=@PySem.Around.under_plainId
abbrev a89:=@PySem.F.entry_tuple_iterator_next
abbrev a8a:=@PySem.F.args_tuple_iterator_next_1
namespace _L
open PySem PySem.Spec PyProof.Rows
abbrev Key:=Sum Int Str
def Ma:Key->Value->Bool | .inl k,v=>Value.isInt k v | .inr x,v=>Value.isStrOf x v
def YX(w:World):Key->Int | .inl k=>hashInt k | .inr x=>hashStr w x
theorem mB:∀{k:Key}{v:Value},Ma k v=true->(∃i t,k=Sum.inl i/\v=Value.int i t)\/(∃x t,k=Sum.inr x/\v=Value.str x t) | .inl i,v,h=>by obtain⟨t,e⟩:=Value.isInt_shape (k:=i) (v:=v) h;exact .inl ⟨i,t,Z,e⟩ | .inr x,v,h=>by obtain⟨t,e⟩:=Value.isStrOf_shape (x:=x) (v:=v) h;exact .inr ⟨x,t,Z,e⟩
theorem YW(a b:Int):decide ((Sum.inl a:Key)=Sum.inl b)=(a==b):=by
 by_cases e:a=b
 ·subst e;simp
 ·have h:¬(Sum.inl a:Key)=Sum.inl b:=λq=>e (Sum.inl.inj q)
  rw[dM h];exact(G9.mpr e).symm
theorem YT(a b:Str):decide ((Sum.inr a:Key)=Sum.inr b)=decide (a=b):=by
 by_cases e:a=b
 ·subst e;simp
 ·have h:¬(Sum.inr a:Key)=Sum.inr b:=λq=>e (Sum.inr.inj q)
  rw[dM h,dM e]
theorem YV(a:Int)(b:Str):decide ((Sum.inl a:Key)=Sum.inr b)=false:=dM (λq=>nomatch q)
theorem YU(a:Str)(b:Int):decide ((Sum.inr a:Key)=Sum.inl b)=false:=dM (λq=>nomatch q)
def Dw(prog:af)(w:World):PySem.KeyKind prog w Key where
 is:=Ma
 hash:=YX w
 inj:=λv a b ha hb=>by
  rcases mB ha with⟨i,t,rfl,rfl⟩|⟨x,t,rfl,rfl⟩
  ·rcases mB hb with⟨j,u,rfl,e⟩|⟨y,u,rfl,e⟩
   ·injection e with e1 _;rw[e1]
   ·exact nomatch e
  ·rcases mB hb with⟨j,u,rfl,e⟩|⟨y,u,rfl,e⟩
   ·exact nomatch e
   ·injection e with e1 _;rw[e1]
 byValue:=λk v h=>by rcases mB h with⟨i,t,rfl,rfl⟩|⟨x,t,rfl,rfl⟩<;>rfl
 pyHash:=λhv h=>by
  rcases mB hv with⟨i,t,rfl,rfl⟩|⟨x,t,rfl,rfl⟩
  ·exact wpAny_pyHash_int h
  ·exact wpAny_pyHash_str h
 eqBool:=λhu hv h=>by
  rcases mB hu with⟨i,t,rfl,rfl⟩|⟨x,t,rfl,rfl⟩
  ·rcases mB hv with⟨j,u,rfl,rfl⟩|⟨y,u,rfl,rfl⟩
   ·rw[YW]at h;exact wpAny_eqBool_int h
   ·rw[YV]at h;exact SeqAt.EqAt.int_str i t y u _ _ _ _ h
  ·rcases mB hv with⟨j,u,rfl,rfl⟩|⟨y,u,rfl,rfl⟩
   ·rw[YU]at h;exact SeqAt.EqAt.str_int x t j u _ _ _ _ h
   ·rw[YT]at h;exact wpAny_eqBool_str h
 «strs»:=λk x t v h=>by
  rcases mB h with⟨i,u,rfl,e⟩|⟨y,u,rfl,e⟩
  ·exact nomatch e
  ·injection e with e1 _
   subst e1;cases v<;>rfl
inductive V where |aY|bl (b:Bool)|int (i:Int)|str (x:Str)|j9 (b:Array UInt8)|yT (b:UInt64)|ref (a:Addr)|ty (n:String) deriving DecidableEq
def RelV:V->Value->Prop | .aY,u=>u=Value.none | .bl b,u=>u=Value.bool b | .int i,u=>∃t,u=Value.int i t | .str x,u=>∃t,u=Value.str x t | .j9 b,u=>∃t,u=Value.bytes b t | .yT b,u=>∃t,u=Value.float b t | .ref a,u=>u=Value.ref a | .ty n,u=>u=Value.type n
abbrev Vals:List V->List Value->Prop:=Paired RelV
theorem Vals.length{xs:List V}{us:List Value}(r:Vals xs us):xs.length=us.length:=Paired.length r
theorem Vals.get:∀{xs:List V}{us:List Value}{i:Nat}{x:V},Vals xs us->xs[i]? =some x->∃u,us[i]? =some u/\RelV x u |_,_,_,_,.nil,e=>by simp at e |_,_,0,_,.cons r _,e=>by simp at e;subst e;exact⟨_,rfl,r⟩ |_,_,i+1,x,.cons _ t,e=>by obtain⟨u,h1,h2⟩:=Vals.get (i:=i) (x:=x) t (by simpa using e);exact⟨u,by simpa using h1,h2⟩
theorem Vals.set{x:V}{u:Value}(r:RelV x u):∀{xs:List V}{us:List Value}(i:Nat),Vals xs us->Vals (xs.set i x) (us.set i u) |_,_,_,.nil=>.nil |_,_,0,.cons _ t=>.cons r t |_,_,i+1,.cons q t=>.cons q (Vals.set r i t)
theorem Vals.append:∀{xs ys:List V}{us ws:List Value},Vals xs us->Vals ys ws->Vals (xs++ys) (us++ws) |_,_,_,_,.nil,s=>s |_,_,_,_,.cons r t,s=>.cons r (Vals.append t s)
theorem Vals.take:∀{xs:List V}{us:List Value}(n:Nat),Vals xs us->Vals (xs.take n) (us.take n) |_,_,0,_=>.nil |_,_,_+1,.nil=>.nil |_,_,n+1,.cons r t=>.cons r (Vals.take n t)
theorem Vals.drop:∀{xs:List V}{us:List Value}(n:Nat),Vals xs us->Vals (xs.drop n) (us.drop n) |_,_,0,r=>r |_,_,_+1,.nil=>.nil |_,_,n+1,.cons _ t=>Vals.drop n t
def lQ:Option V->Option Value->Prop |some v,some u=>RelV v u |none,none=>True |_,_=>False
def KV{κ:Type}:List (κ×V)->List (κ×Value)->Prop:=Paired λ(p:κ×V)(q:κ×Value)=>p.1=q.1/\RelV p.2 q.2
def kV:Key->V | .inl i=>.int i | .inr x=>.str x
inductive HO where /--a list -/ |lst (xs:List V) /--a tuple (never changes) -/ |tup (xs:List V) /--a dict QI keys are ints and texts; one QI keys are tuples of ints and texts (qH empty one is both) -/ |dK (cU:List (Key×V))|dT (cU:List (List Key×V)) /--a set of ints: its members,its size -/ |set (S:Int->Bool)(n:Nat) /--an instance of qH class at C,its dict at dx,its attributes -/ |ins (C dx:Addr)(fs:List (Str×V)) /--qH dict of qH instance at x -/ |own (x:Addr) /--qH dict of an exception -/ |xd (fs:List (Str×V)) /--a bound method,f of x -/ |met (f x:Addr) /--a range object lo,lo+1,.. below hi -/ |p8 (lo hi:Int) /--a Rp a8g is known to qH object (qH a8s; a dict while a loop walks it): read,never written while it is so -/ |kI (o:Obj)(u:HO) /--a code a8A table -/ |m3 (ps:Array Value) /--any other Rp,by what is true of its one object (a def of a8z own: a9w a S n:=HO.ext λh=>..) -/ |ext (φ:Heap->Prop)
abbrev Hp:=Addr->Option HO
def upd(H:Hp)(a:Addr)(o:HO):Hp:=λb=>if b=a then some o else H b
theorem bU{H:Hp}{a:Addr}{o:HO}:upd H a o a=some o:=by unfold upd;rw[aR rfl]
theorem bh{H:Hp}{a b:Addr}{o:HO}(h:b≠a):upd H a o b=H b:=by unfold upd;rw[aU h]
theorem nM{H:Hp}{a b:Addr}{o u:HO}(h:H a=some o)(h':H b=some u)(d:o≠u):a≠b:=by intro e;subst e;rw[h]at h';exact d (cW h')
theorem fv{H:Hp}{a b:Addr}{o:HO}(h:H a=some o)(h':H b=none):a≠b:=by intro e;subst e;rw[h]at h';cases h'
section
variable (P:af) (w:World)
def eR(H:Hp)(h:Heap)(a:Addr):HO->Prop | .lst xs=>xs.length<=sizeLine/\∃(its:List Value)(n:Nat),Vals xs its/\h.get? a=some {cls:=.type "list",data:=.seq its.toArray n} | .tup xs=>xs.length<=sizeLine/\∃its:List Value,Vals xs its/\IsTup h a its.toArray | .dK cU=>cU.length<=sizeLine/\(a==sysModules)=false/\∃vs,KV cU vs/\h.DictOf (Dw P w) a vs | .dT cU=>cU.length<=sizeLine/\(a==sysModules)=false/\∃xs:List (List Key×Addr×Value),Paired (λ(p:List Key×V)(q:List Key×Addr×Value)=>p.1=q.1/\H q.2.1=some (.tup (p.1.map kV))/\RelV p.2 q.2.2) cU xs/\∃o es ep,h.get? a=some o/\o.ExactDict/\o.data= .dict es ep/\es.toList=xs.map (entryOfKey (tupleKind (Dw P w)))/\(xs.map (·.1)).Nodup | .set S n=>h.SetOf (intKind P w) a S n | .ins C dx fs=>H dx=some (.own a)/\fs.length<=1000/\dx≠a/\h.get? a=some (PySem.W.instObj C dx)/\∃mA,h.Ns1 dx mA/\(∀f,lQ (fs.lookup f) (mA f))/\PySem.Within mA (fs.map (·.1)) | .own _=>∃o,h.get? a=some o | .xd fs=>∃mA,h.Ns1 a mA/\∀f,lQ (fs.lookup f) (mA f) | .p8 lo hi=>∃t u v,h.get? a=some {cls:=.type "range",data:=.fields #[.int lo t,.int hi u,.int 1 v]} | .kI o u=>h.get? a=some o/\eR H h a u | .m3 ps=>h.get? a=some {cls:=.none,data:=.fields ps} | .met f x=>h.get? a=some (PySem.W.methodObj (.ref f) (.ref x)) | .ext φ=>φ h/\(∃o,h.get? a=some o)/\∀h1 h2:Heap,φ h1->(∀o,h1.get? a=some o->h2.get? a=some o)->φ h2
def da(H:Hp)(h:Heap):Prop:=∀a o,H a=some o->eR P w H h a o
end
section
variable {P:af}{w:World}{H H':Hp}{h h':Heap}{a:Addr}{o:HO}
theorem eR.lt(x:eR P w H h a o):a<h.objs.size:=by cases o with |lst xs=>obtain⟨_,_,_,_,e⟩:=x;exact bN e |tup xs=>obtain⟨_,_,_,p⟩:=x;exact p.lt |dK cU=>obtain⟨_,_,_,_,o,_,_,e,_⟩:=x;exact bN e |dT cU=>obtain⟨_,_,_,_,o,_,_,e,_⟩:=x;exact bN e |set S n=>obtain⟨o,_,_,_,e,_⟩:=x;exact bN e |ins C dx fs=>obtain⟨_,_,_,e,_⟩:=x;exact bN e |own y=>obtain⟨_,e⟩:=x;exact bN e |xd fs=>obtain⟨_,⟨_,_,_,e,_⟩,_⟩:=x;exact bN e |p8 lo hi=>obtain⟨_,_,_,e⟩:=x;exact bN e |kI ob u=>obtain⟨e,_⟩:=x;exact bN e |m3 ps=>exact bN (show h.get? a=some _ from x) |met f y=>exact bN (show h.get? a=some _ from x) |ext φ=>obtain⟨_,⟨_,e⟩,_⟩:=x;exact bN e
theorem Paired.LO{α β:Type}{F G:α->β->Prop}:∀{l₁:List α}{l₂:List β},Paired F l₁ l₂->(∀a b,F a b->G a b)->Paired G l₁ l₂ |_,_,.nil,_=>.nil |_,_,.cons r t,f=>.cons (f _ _ r) (Paired.LO t f)
theorem eR.jY(x:eR P w H h a o)(k:∀b u,(b=a\/H b=some (.own a))->h.get? b=some u->h'.get? b=some u) (ho:∀b,H b=some (.own a)->H' b=some (.own a))(ht:∀b xs,H b=some (.tup xs)->H' b=some (.tup xs)):eR P w H' h' a o:=by induction o with |lst xs=>obtain⟨z,its,n,r,e⟩:=x;exact⟨z,its,n,r,k _ _ (.inl Z) e⟩ |tup xs=>obtain⟨z,its,r,ob,e,c⟩:=x;exact⟨z,its,r,ob,k _ _ (.inl Z) e,c⟩ |dK cU=>obtain⟨z,y,vs,r,ob,es,ep,e,c⟩:=x;exact⟨z,y,vs,r,ob,es,ep,k _ _ (.inl Z) e,c⟩ |dT cU=>obtain⟨z,y,xs,r,ob,es,ep,e,c⟩:=x;exact⟨z,y,xs,Paired.LO r λp q z=>⟨z.1,ht _ _ z.2.1,z.2.2⟩,ob,es,ep,k _ _ (.inl Z) e,c⟩ |set S n=>obtain⟨ob,es,ep,t,e,c⟩:=x;exact⟨ob,es,ep,t,k _ _ (.inl Z) e,c⟩ |ins C dx fs=>obtain⟨d,z,ne,e,mA,⟨od,es,ep,e2,c⟩,r⟩:=x;exact⟨ho _ d,z,ne,k _ _ (.inl Z) e,mA,⟨od,es,ep,k _ _ (.inr d) e2,c⟩,r⟩ |own y=>obtain⟨ob,e⟩:=x;exact⟨ob,k _ _ (.inl Z) e⟩ |xd fs=>obtain⟨mA,⟨od,es,ep,e,c⟩,r⟩:=x;exact⟨mA,⟨od,es,ep,k _ _ (.inl Z) e,c⟩,r⟩ |p8 lo hi=>obtain⟨t,u,v,e⟩:=x;exact⟨t,u,v,k _ _ (.inl Z) e⟩ |kI ob u ih=>obtain⟨e,q⟩:=x;exact⟨k _ _ (.inl Z) e,ih q⟩ |m3 ps=>have e:h.get? a=some {cls:=.none,data:=.fields ps}:=x;show h'.get? a=some {cls:=.none,data:=.fields ps};exact k a _ (.inl Z) e |met f y=>have e:h.get? a=some (PySem.W.methodObj (.ref f) (.ref y)):=x;show h'.get? a=some (PySem.W.methodObj (.ref f) (.ref y));exact k a _ (.inl Z) e |ext φ=>obtain⟨p,⟨o,e⟩,st⟩:=x;exact⟨st _ _ p λo q=>k _ _ (.inl Z) q,⟨o,k _ _ (.inl Z) e⟩,st⟩
theorem da.lt(x:da P w H h)(e:H a=some o):a<h.objs.size:=(x a o e).lt
theorem da.fresh(x:da P w H h)(e:h.objs.size<=a):H a=none:=by cases q:H a with |none=>rfl |some u=>exact absurd (fb (x.lt q) e) (ng _)
theorem da.kept(x:da P w H h)(k:∀b u,h.get? b=some u->h'.get? b=some u):da P w H h':=λa o e=>(x a o e).jY (λb u _ q=>k b u q) (λ_ q=>q) λ_ _ q=>q
theorem da.laid(x:da P w H h)(k:∀b u,h.get? b=some u->h'.get? b=some u)(hp:h.objs.size<=a)(new:eR P w (upd H a o) h' a o):da P w (upd H a o) h':=λb u e=>by
 have hn:=x.fresh hp;by_cases hb:b=a
 ·subst hb;rw[bU]at e;cases e;exact new
 ·rw[bh hb]at e
  exact(x b u e).jY (λc v _ q=>k c v q) (λc q=>by rw[bh (fv q hn)];exact q) λc xs q=>by rw[bh (fv q hn)];exact q
end
def Rd(H:Hp)(a:Addr)(u:HO):Prop:=H a=some u\/∃o,H a=some (.kI o u)
theorem Rd.ok{P:af}{w:World}{H:Hp}{h:Heap}{a:Addr}{u:HO}(r:Rd H a u)(x:da P w H h):eR P w H h a u:=by
 rcases r with r|⟨o,r⟩
 ·exact x a u r
 ·obtain⟨_,q⟩:=x a _ r
  exact q
def zI:Option HO->Prop |some (.lst _)=>True |some (.dK _)=>True |some (.dT _)=>True |some (.set _ _)=>True |some (.ins _ _ _)=>True |some (.ext _)=>True |_=>False
section
variable {P:af}{w:World}{H:Hp}{h h':Heap}{x e:Addr}{o':HO}
theorem da.write(ok:da P w H h)(mu:zI (H x))(he:e=x\/H e=some (.own x))(k:∀b u,b≠e->h.get? b=some u->h'.get? b=some u)(rV:∃u,h'.get? e=some u) (new:eR P w (upd H x o') h' x o'):da P w (upd H x o') h':=λb u q=>by
 have Lq:∀c y,H c=some (.own y)->c≠x:=λc y r z=>by subst z;rw[r]at mu;exact mu
 have Xp:∀c xs,H c=some (.tup xs)->c≠x:=λc xs r z=>by subst z;rw[r]at mu;exact mu
 by_cases hb:b=x
 ·subst hb;rw[bU]at q;cases q;exact new
 ·rw[bh hb]at q
  by_cases pU:b=e
  ·have q':H b=some (.own x):=by
    rcases he with z|z
    ·exact absurd (pU.trans z) hb
    ·rw[pU];exact z
   rw[q]at q';cases q';obtain⟨v,hv⟩:=rV;exact⟨v,by rw[pU];exact hv⟩
  ·refine(ok b u q).jY (λc v hc r=>k c v ?_ r) (λc r=>by rw[bh (Lq c b r)];exact r) λc xs r=>by rw[bh (Xp c xs r)];exact r
   rcases hc with rfl|hc
   ·exact pU
   ·rintro rfl
    rcases he with z|z
    ·exact Lq c b hc z
    ·rw[hc]at z;cases z;exact hb rfl
end
structure Un(fs ex:List Addr)(H H':Hp)(h h':Heap):Prop where
 keep:∀b o,h.get? b=some o->H b=none->b∉fs->b∉ex->h'.get? b=some o
 slot:∀b o,h.get? b=some o->H b=none->b∈fs->b∉ex->∃sl,h'.get? b=some {o with slots:=sl}
 free:∀b o,h.get? b=some o->H b=none->b∉ex->H' b=none
 there:∀b o,h.get? b=some o->b∉ex->∃o',h'.get? b=some o'
 hZ:∀b xs,H b=some (.tup xs)->H' b=some (.tup xs)
 gX:∀b o u,H b=some (.kI o u)->H' b=some (.kI o u)
 ib:∀b ps,H b=some (.m3 ps)->∃more,H' b=some (.m3 (ps++more))
section
variable {fs rZ ex iG:List Addr}{H H1 H2:Hp}{h h1 h2 h':Heap}{a x e:Addr}{o:HO}
theorem Un.any(u:Un fs ex H H1 h h1){b:Addr}{ob:Obj}(q:h.get? b=some ob)(n:H b=none)(hx:b∉ex):∃sl,h1.get? b=some {ob with slots:=sl}:=by
 by_cases hb:b∈fs
 ·exact u.slot b ob q n hb hx
 ·exact⟨ob.slots,u.keep b ob q n hb hx⟩
theorem Un.kept(k:∀b u,h.get? b=some u->h'.get? b=some u):Un fs ex H H h h':=⟨λb ob q _ _ _=>k b ob q,λb ob q _ _ _=>⟨ob.slots,k b ob q⟩,λ_ _ _ n _=>n,λb ob q _=>⟨ob,k b ob q⟩,λ_ _ q=>q,λ_ _ _ q=>q,λ_ ps q=>⟨#[],by rw[q];simp⟩⟩
theorem Un.refl:Un fs ex H H h h:=Un.kept λ_ _ q=>q
theorem Un.laid(k:∀b u,h.get? b=some u->h'.get? b=some u)(hp:h.objs.size<=a)(hn:H a=none):Un fs ex H (upd H a o) h h' where
 keep:=λb u q _ _ _=>k b u q
 slot:=λb u q _ _ _=>⟨u.slots,k b u q⟩
 free:=λb u q n _=>by rw[bh (dA (fb (bN q) hp))];exact n
 there:=λb u q _=>⟨u,k b u q⟩
 hZ:=λb xs q=>by rw[bh (fv q hn)];exact q
 gX:=λb u xs q=>by rw[bh (fv q hn)];exact q
 ib:=λb ps q=>⟨#[],by rw[bh (fv q hn),q];simp⟩
theorem Un.write(mu:zI (H x))(he:e=x\/H e=some (.own x))(k:∀b u,b≠e->h.get? b=some u->h'.get? b=some u)(rV:∃u,h'.get? e=some u):Un fs ex H (upd H x o) h h':=by
 have hx:∀b,H b=none->b≠x:=λb n z=>by subst z;rw[n]at mu;exact mu
 have hb:∀b,H b=none->b≠e:=λb n z=>by
  subst z;rcases he with r|r
  ·exact hx b n r
  ·rw[n]at r;cases r
 have hm:∀b u,H b=some u->¬zI (some u)->b≠x:=λb u q nm z=>by subst z;rw[q]at mu;exact nm mu
 refine⟨λb u q n _ _=>k b u (hb b n) q,λb u q n _ _=>⟨u.slots,k b u (hb b n) q⟩,λb u q n _=>by rw[bh (hx b n)];exact n,λb u q _=>?_,λb xs q=>by rw[bh (hm b _ q λz=>z)];exact q,λb u xs q=>by rw[bh (hm b _ q λz=>z)];exact q,λb ps q=>⟨#[],by rw[bh (hm b _ q λz=>z),q];simp⟩⟩;by_cases pU:b=e
 ·subst pU;exact rV
 ·exact⟨u,k b u pU q⟩
end
def wW(h:Heap)(H:Hp):List Addr:=(List.range h.objs.size).filter λa=>(H a).isSome
def mF(h:Heap)(H:Hp):Heap:=PySem.W.hideAll h (wW h H)
theorem a0q(h:Heap)(H:Hp):(mF h H).objs.size=h.objs.size:=PySem.W.hideAll_size _ _
theorem a0r{h:Heap}{H:Hp}{b:Addr}{o:Obj}(e:h.get? b=some o)(n:H b=none):(mF h H).get? b=some o:=sX _ e λhm=>by have q:(H b).isSome=true:=(List.mem_filter.mp hm).2;rw[n]at q;simp at q
theorem Xf{h:Heap}{H:Hp}{b:Addr}{o:Obj}(e:(mF h H).get? b=some o):h.get? b=some o/\H b=none:=by have e':h.get? b=some o:=PR (wW h H) e;refine⟨e',?_⟩;cases q:H b with |none=>rfl |some x=>have hm:b∈wW h H:=List.mem_filter.mpr ⟨List.mem_range.mpr (bN e'),by simp[q]⟩;have z:(mF h H).get? b=none:=PV (wW h H) hm;rw[z]at e;cases e
structure Mod(K:aa)(mg:bf)(ao:Heap):Prop where
 kz:K.In ao
 glob:ao.Ns mainGlobals mg
 blt:∃mb,ao.Ns builtinsNs mb/\∀x:Str,x≠"__name__"->mb x=bootBuiltins x
 nolimit:ao.NoLimit
structure Cx where
 prog:af
 w:World
 K:aa
 mg:bf
 ao:Heap
 A:ai
 N:List Str
 s₀:ae
 H₀:Hp
 env:Env
 outer:List Env
 stack:List Env
 ex:List Addr
 fn:Str->Bool
 calm:Bool
 pn:List (Addr×Obj)
 xe:Value->ae->Prop
def cR(l:List Env):List Addr:=l.filterMap (·.frame)
abbrev Cx.fs(X:Cx):List Addr:=cR X.outer
def zB(sc:Scope)(x:Str):Prop:=sc.names.lookup x=some .local\/sc.names.lookup x=some .cell\/sc.names.lookup x=some .free
def Loc(sc:Scope)(x:Str):Prop:=sc.names.lookup x=some .local\/sc.names.lookup x=some .cell
def Look(env:Env)(h:Heap)(m:bf)(x:Str)(u:Value):Prop:=(env.kindOf x=some .local/\m x=some u)\/((env.kindOf x=some .cell\/env.kindOf x=some .free)/\∃c,env.cells.lookup x=some c/\h.IsCell c (some u))
structure Cx.Ok(X:Cx):Prop where
 mod:Mod X.K X.mg X.ao
 kind:X.env.scope.kind= .function
 glob:X.env.globals=mainGlobals
 blt:X.env.builtins=builtinsNs
 above:X.s₀.heap.objs.size<=X.env.locals
 inj:∀x y c,X.env.cells.lookup x=some c->X.env.cells.lookup y=some c->x=y
 has:∀x,(X.env.kindOf x=some .cell\/X.env.kindOf x=some .free)->∃c,X.env.cells.lookup x=some c
 og:∀x c,X.fn x=true->X.env.cells.lookup x=some c->X.s₀.heap.objs.size<=c
 hd:X.calm=true->X.A.handled=none
 frames:X.A.frames=some X.stack
 oP:X.stack=X.outer\/(X.stack=X.env::X.outer/\X.env.frame=some X.env.locals)
 vt:∀b∈X.ex,b≠X.env.locals/\∀x c,X.env.cells.lookup x=some c->c≠b
 bs:∀b o,X.ao.get? b=some o->X.s₀.heap.get? b=some o/\X.H₀ b=none
 jx:X.ao.objs.size<=X.s₀.heap.objs.size
 nK:∀b o,X.ao.get? b=some o->b∉X.ex
 mM:∀b∈X.ex,b∉X.fs
 gW:X.s₀.heap.FunFrames X.ao X.outer
 kJ:∀b∈X.fs,X.H₀ b=none
structure Inv(X:Cx)(pins:List (Addr×Obj))(O:List (Option V))(H:Hp)(s:ae):Prop where
 ok:X.Ok
 os:s.os=X.s₀.os
 bare:AllBare s.gens
 ao:Un X.fs X.ex X.H₀ H X.s₀.heap s.heap
 loc:∃m,s.heap.Ns X.env.locals m/\∀(i:Nat)(x:Str)(v:V),X.N[i]? =some x->O[i]? =some (some v)->zB X.env.scope x->∃u,RelV v u/\Look X.env s.heap m x u
 cell:∀x c,X.env.cells.lookup x=some c->∃v,s.heap.IsCell c v
 free:H X.env.locals=none
 iE:∀x c,X.env.cells.lookup x=some c->H c=none
 pin:∀p∈X.pn++pins,s.heap.get? p.1=some p.2/\H p.1=none/\p.1≠X.env.locals/\p.1∉X.fs/\∀v,p.2.data≠ .cell v
 aW:da X.prog X.w H s.heap
 len:O.length=X.N.length
section
variable {X:Cx}{pins:List (Addr×Obj)}{O:List (Option V)}{H H':Hp}{s:ae}{h':Heap}
theorem Cx.Ok.Xw(ok:X.Ok){b:Addr}{o:Obj}(e:X.ao.get? b=some o):b∉X.fs:=λhb=>by have:=(ok.gW.mem hb).1;rw[e]at this;cases this
theorem Inv.bs(I:Inv X pins O H s):∀b o,X.ao.get? b=some o->s.heap.get? b=some o/\H b=none:=λb o e=>⟨I.ao.keep b o (I.ok.bs b o e).1 (I.ok.bs b o e).2 (I.ok.Xw e) (I.ok.nK b o e),I.ao.free b o (I.ok.bs b o e).1 (I.ok.bs b o e).2 (I.ok.nK b o e)⟩
theorem Inv.bk(I:Inv X pins O H s):∀b o,X.ao.get? b=some o->s.heap.get? b=some o:=λb o e=>(I.bs b o e).1
theorem Inv.mod(I:Inv X pins O H s):Mod X.K X.mg X.ao:=I.ok.mod
theorem Inv.dE(I:Inv X pins O H s):X.K.In s.heap:=I.ok.mod.kz.keeps I.bk
theorem Inv.lt(I:Inv X pins O H s):X.env.locals<s.heap.objs.size:=let⟨_,hn,_⟩:=I.loc;hn.lt
theorem Inv.sz(I:Inv X pins O H s):X.s₀.heap.objs.size<=s.heap.objs.size:=fc I.ok.above (A0 I.lt)
theorem Inv.Xu(I:Inv X pins O H s){a:Addr}(h:s.heap.objs.size<=a):a∉X.fs:=λhb=>by obtain⟨_,o,ho,_⟩:=I.ok.gW.mem hb;exact absurd (fb (bN ho) (fc I.sz h)) (ng _)
theorem Inv.j8(I:Inv X pins O H s):∀x c,X.env.cells.lookup x=some c->c≠X.env.locals:=λx c e z=>by obtain⟨v,o,ho,hd⟩:=I.cell x c e;obtain⟨m,⟨o',es,ep,kC,pR,_⟩,_⟩:=I.loc;rw[z,kC]at ho;cases ho;rw[pR]at hd;cases hd
theorem Inv.gW(I:Inv X pins O H s):s.heap.FunFrames X.ao X.outer:=by
 have all:∀(l:List Env),(∀b∈cR l,b∈X.fs)->X.s₀.heap.FunFrames X.ao l->s.heap.FunFrames X.ao l:=by intro l;induction l with |nil=>intro _ _;trivial |cons env r ih=>intro hs hl;obtain⟨hk,⟨L,o,hf,hn,ho,hd⟩,hr⟩:=hl;have hL:L∈X.fs:=hs L (by unfold cR;rw[Ql,hf];exact Gp);obtain⟨sl,e⟩:=I.ao.slot L o ho (I.ok.kJ L hL) hL λz=>I.ok.mM L z hL;exact⟨hk,⟨L,_,hf,hn,e,hd⟩,ih (λb hb=>hs b (by unfold cR;rw[Ql,hf];exact t9 _ hb)) hr⟩
 exact all X.outer (λ_ hb=>hb) I.ok.gW
theorem Inv.stack(I:Inv X pins O H s):s.heap.FunFrames X.ao X.stack:=by
 rcases I.ok.oP with e|⟨e,hf⟩
 ·rw[e];exact I.gW
 ·rw[e]
  obtain⟨m,hn,_⟩:=I.loc;refine .cons (by rw[I.ok.kind];decide) hf hn ?_ I.gW;exact Heap.get?_none_of_le (fc I.ok.jx I.ok.above)
theorem Inv.Ai(I:Inv X pins O H s):∀b∈cR X.stack,b∈X.env.locals::X.fs:=λb hb=>by
 rcases I.ok.oP with e|⟨e,hf⟩
 ·rw[e]at hb;exact t9 _ hb
 ·rw[e]at hb
  unfold cR at hb;rw[Ql,hf]at hb;exact hb
theorem Inv.qJ(I:Inv X pins O H s):∀b∈cR X.stack,H b=none:=λb hb=>by
 rcases bS.mp (I.Ai b hb)with e|hb
 ·rw[e];exact I.free
 ·obtain⟨_,o,ho,_⟩:=I.ok.gW.mem hb
  exact I.ao.free b o ho (I.ok.kJ b hb) λz=>I.ok.mM b z hb
theorem Inv.step{g':Array GenState}{t':Nat}{d':Drawn}{ch:List Addr}(I:Inv X pins O H s) (jL:∀b∈ch,(b∈X.ex\/X.s₀.heap.objs.size<=b)/\b≠X.env.locals/\(∀x c,X.env.cells.lookup x=some c->c≠b)/\∀p∈X.pn++pins,p.1≠b) (keep:∀b o,b≠X.env.locals->b∉X.fs->b∉ch->s.heap.get? b=some o->H b=none->h'.get? b=some o) (slot:∀b o,b≠X.env.locals->b∈X.fs->b∉ch->s.heap.get? b=some o->H b=none->∃sl,h'.get? b=some {o with slots:=sl})(free:∀b o,b∉ch->s.heap.get? b=some o->H b=none->H' b=none) (there:∀b o,b∉ch->s.heap.get? b=some o->∃o',h'.get? b=some o') (hZ:∀b xs,H b=some (.tup xs)->H' b=some (.tup xs))(gX:∀b o u,H b=some (.kI o u)->H' b=some (.kI o u))(ib:∀b ps,H b=some (.m3 ps)->∃more,H' b=some (.m3 (ps++more))) (ns:∀m,s.heap.Ns X.env.locals m->h'.Ns X.env.locals m)(aW:da X.prog X.w H' h')(hg:AllBare g'): Inv X pins O H' {s with heap:=h',gens:=g',drawn:=d',toks:=t'}:=by
 have Lz:∀b o,X.s₀.heap.get? b=some o->b≠X.env.locals:=λb o e=>dA (fb (bN e) I.ok.above);have xV:∀b o,X.s₀.heap.get? b=some o->b∉X.ex->b∉ch:=λb o e hx hb=>by
  rcases(jL b hb).1 with z|z
  ·exact hx z
  ·exact absurd (fb (bN e) z) (ng _)
 have cellK:∀x c,X.env.cells.lookup x=some c->∀v,s.heap.IsCell c v->h'.IsCell c v:=λx c e v ⟨o,ho,hd⟩=>by
  have uE:c∉ch:=λz=>(jL c z).2.2.1 x c e rfl;by_cases hc:c∈X.fs
  ·obtain⟨sl,q⟩:=slot c o (I.j8 x c e) hc uE ho (I.iE x c e)
   exact⟨_,q,hd⟩
  ·exact⟨o,keep c o (I.j8 x c e) hc uE ho (I.iE x c e),hd⟩
 refine⟨I.ok,I.os,hg,⟨λb o e n hb hx=>?_,λb o e n hb hx=>?_,λb o e n hx=>?_,λb o e hx=>?_,λb xs e=>hZ b xs (I.ao.hZ b xs e),λb o xs e=>gX b o xs (I.ao.gX b o xs e),λb ps e=>?_⟩,?_,λx c e=>?_,?_,λx c e=>?_,λp hp=>?_,aW,I.len⟩
 ·exact keep b o (Lz b o e) hb (xV b o e hx) (I.ao.keep b o e n hb hx) (I.ao.free b o e n hx)
 ·obtain⟨sl,e1⟩:=I.ao.slot b o e n hb hx
  obtain⟨AD,e2⟩:=slot b _ (Lz b o e) hb (xV b o e hx) e1 (I.ao.free b o e n hx);exact⟨AD,e2⟩
 ·obtain⟨o',e1⟩:=I.ao.there b o e hx
  exact free b o' (xV b o e hx) e1 (I.ao.free b o e n hx)
 ·obtain⟨o',e1⟩:=I.ao.there b o e hx
  exact there b o' (xV b o e hx) e1
 ·obtain⟨m1,e1⟩:=I.ao.ib b ps e
  obtain⟨m2,e2⟩:=ib b _ e1;exact⟨m1++m2,by rw[e2,Array.append_assoc]⟩
 ·obtain⟨m,hn,hl⟩:=I.loc
  refine⟨m,ns m hn,λi x v e1 e2 e3=>?_⟩;obtain⟨u,r,l⟩:=hl i x v e1 e2 e3;refine⟨u,r,?_⟩;rcases l with l|⟨k,c,e,z⟩
  ·exact .inl l
  ·exact .inr ⟨k,c,e,cellK x c e _ z⟩
 ·obtain⟨v,z⟩:=I.cell x c e
  exact⟨v,cellK x c e v z⟩
 ·obtain⟨m,⟨o,_,_,ho,_⟩,_⟩:=I.loc
  exact free _ o (λz=>(jL _ z).2.1 Z) ho I.free
 ·obtain⟨v,o,ho,hd⟩:=I.cell x c e
  exact free c o (λz=>(jL c z).2.2.1 x c e Z) ho (I.iE x c e)
 ·obtain⟨e,n,ne,nf,d⟩:=I.pin p hp
  have uE:p.1∉ch:=λz=>(jL p.1 z).2.2.2 p hp rfl;exact⟨keep p.1 p.2 ne nf uE e n,free p.1 p.2 uE e n,ne,nf,d⟩
theorem Inv.un{t':Nat}(I:Inv X pins O H s)(u:Un X.fs [] H H' s.heap h')(aW:da X.prog X.w H' h'):Inv X pins O H' {s with heap:=h',toks:=t'}:=by obtain⟨m,⟨o,es,ep,ho,r⟩,_⟩:=id I.loc;obtain⟨sl,hL⟩:=u.any ho I.free (by simp);exact I.step (g':=s.gens) (d':=s.drawn) (ch:=[]) (λ_ z=>nomatch z) (λb o _ hb _ e n=>u.keep b o e n hb (by simp)) (λb o _ hb _ e n=>u.slot b o e n hb (by simp)) (λb o _ e n=>u.free b o e n (by simp)) (λb o _ e=>u.there b o e (by simp)) u.hZ u.gX u.ib (λm' hm=>by obtain⟨o',yW,Ff,kC,r'⟩:=hm;rw[ho]at kC;cases kC;exact⟨_,yW,Ff,hL,r'⟩) aW I.bare
theorem Inv.call{g':Array GenState}{t':Nat}{d':Drawn}{ch:List Addr}(I:Inv X pins O H s)(u:Un (cR X.stack) ch H H' s.heap h')(aW:da X.prog X.w H' h')(hg:AllBare g') (jL:∀b∈ch,(b∈X.ex\/X.s₀.heap.objs.size<=b)/\b≠X.env.locals/\(∀x c,X.env.cells.lookup x=some c->c≠b)/\∀p∈X.pn++pins,p.1≠b): Inv X pins O H' {s with heap:=h',gens:=g',drawn:=d',toks:=t'}:=by obtain⟨m,⟨o,es,ep,ho,r⟩,_⟩:=id I.loc;obtain⟨sl,hL⟩:=u.any ho I.free λz=>(jL _ z).2.1 rfl;exact I.step (ch:=ch) jL (λb o hL hb hc e n=>u.keep b o e n (λz=>(bS.mp (I.Ai b z)).elim hL hb) hc) (λb o _ _ hc e n=>u.any e n hc) (λb o hc e n=>u.free b o e n hc) (λb o hc e=>u.there b o e hc) u.hZ u.gX u.ib (λm' hm=>by obtain⟨o',yW,Ff,kC,r'⟩:=hm;rw[ho]at kC;cases kC;exact⟨_,yW,Ff,hL,r'⟩) aW hg
theorem Inv.turned{t':Nat}{it:Addr}(I:Inv X pins O H s)(k:∀b o,b≠it->s.heap.get? b=some o->h'.get? b=some o)(hn:H it=none)(hL:it≠X.env.locals) (h1:it∈X.ex\/X.s₀.heap.objs.size<=it)(h2:∀x c,X.env.cells.lookup x=some c->c≠it)(h3:∀p∈X.pn++pins,p.1≠it):Inv X pins O H {s with heap:=h',toks:=t'}:=by
 have uC:∀b u,H b=some u->b≠it:=λb u e z=>by rw[z,hn]at e;cases e
 refine I.step (g':=s.gens) (d':=s.drawn) (ch:=[it]) (λb hb=>?_) (λb o _ _ hc e _=>k b o (λz=>hc (by simp[z])) e) (λb o _ _ hc e _=>⟨o.slots,k b o (λz=>hc (by simp[z])) e⟩) (λ_ _ _ _ n=>n) (λb o hc e=>⟨o,k b o (λz=>hc (by simp[z])) e⟩) (λ_ _ e=>e) (λ_ _ _ e=>e) (λb ps e=>⟨#[],by rw[e];simp⟩) (λm hm=>?_) (λb u e=>?_) I.bare
 ·have e:b=it:=by simpa using hb
  subst e;exact⟨h1,hL,h2,h3⟩
 ·obtain⟨o,es,ep,ho,r⟩:=hm
  exact⟨o,es,ep,k _ o (iL hL) ho,r⟩
 ·refine(I.aW b u e).jY (λc v hc q=>k c v ?_ q) (λ_ q=>q) λ_ _ q=>q
  rcases hc with z|z
  ·rw[z];exact uC b u e
  ·exact uC c _ z
theorem Inv.tok(I:Inv X pins O H s)(t:Nat):Inv X pins O H {s with toks:=t}:=I.un (h':=s.heap) (t':=t) Un.refl I.aW
theorem Inv.kept{t':Nat}(I:Inv X pins O H s)(k:∀b u,s.heap.get? b=some u->h'.get? b=some u):Inv X pins O H {s with heap:=h',toks:=t'}:=I.un (Un.kept k) (I.aW.kept k)
theorem Inv.laid{a:Addr}{o:HO}{t':Nat}(I:Inv X pins O H s)(k:∀b u,s.heap.get? b=some u->h'.get? b=some u)(hp:s.heap.objs.size<=a)(new:eR X.prog X.w (upd H a o) h' a o): Inv X pins O (upd H a o) {s with heap:=h',toks:=t'}:=I.un (Un.laid k hp (I.aW.fresh hp)) (I.aW.laid k hp new)
theorem Inv.write{x e:Addr}{o:HO}{t':Nat}(I:Inv X pins O H s)(mu:zI (H x))(he:e=x\/H e=some (.own x))(k:∀b u,b≠e->s.heap.get? b=some u->h'.get? b=some u)(rV:∃u,h'.get? e=some u) (new:eR X.prog X.w (upd H x o) h' x o):Inv X pins O (upd H x o) {s with heap:=h',toks:=t'}:=I.un (Un.write mu he k rV) (I.aW.write mu he k rV new)
theorem Inv.KD{CL:List (Addr×Obj)}(I:Inv X pins O H s)(h:∀p∈CL,s.heap.get? p.1=some p.2/\H p.1=none/\p.1≠X.env.locals/\p.1∉X.fs/\∀v,p.2.data≠ .cell v):Inv X CL O H s:=⟨I.ok,I.os,I.bare,I.ao,I.loc,I.cell,I.free,I.iE,λp hp=>(iO.mp hp).elim (λz=>I.pin p (Gq _ z)) (h p),I.aW,I.len⟩
theorem Di{N:List Str}(hN:N.Nodup){i j:Nat}{x:Str}(a:N[i]? =some x)(b:N[j]? =some x):i=j:=by obtain⟨h1,e1⟩:=dN.mp a;obtain⟨h2,e2⟩:=dN.mp b;exact(List.getElem_inj hN).mp (e1.trans e2.symm)
theorem Hw{M:Model}{A:ai}{E:Value->ae->Prop}{i:Nat}{x:Str}{v:V}{u:Value}{Q:Unit->ae->Prop}(I:Inv X pins O H s)(hN:X.N.Nodup)(hi:X.N[i]? =some x)(hx:Loc X.env.scope x)(r:RelV v u) (h:∀s',Inv X pins (O.set i (some v)) H s'->(∃a,Heap.SameBut a s.heap s'.heap/\(a=X.env.locals\/X.env.cells.lookup x=some a))->Q () s')(hf:autoParam (X.fn x=true\/X.env.scope.names.lookup x=some .local) d8_._auto_1):wpAny M A (storeName X.env x u) Q E s:=by
 obtain⟨m,hn,hl⟩:=id I.loc;have vg:(X.env.scope.kind== .class||(X.env.scope.kind== .module&&X.env.locals !=X.env.globals))=false:=by rw[I.ok.kind];rfl
 have yA:i<O.length:=by rw[I.len];exact(dN.mp hi).1
 have j8:=I.j8;have tracked:∀{a:Addr}{h':Heap},(∃o,s.heap.get? a=some o/\H a=none)->Heap.SameBut a s.heap h'->da X.prog X.w H h':=λ{a h'} ha hs b ob e=>by
  obtain⟨_,_,rT⟩:=ha;refine(I.aW b ob e).jY (λc w' hc q=>(hs.2 c ?_).trans q) (λ_ q=>q) λ_ _ q=>q;rintro rfl;rcases hc with rfl|hc
  ·rw[rT]at e;cases e
  ·rw[rT]at hc;cases hc
 rcases hx with hk|hk
 ·refine wpAny_storeName_local hk hn (λh' uV hs=>?_) vg
  obtain⟨oL,_,_,Mw,_⟩:=id hn;refine h _ ⟨I.ok,I.os,I.bare,⟨λb o e n hb hx=>?_,λb o e n hb hx=>?_,I.ao.free,λb o e hx=>?_,I.ao.hZ,I.ao.gX,I.ao.ib⟩,⟨_,uV,λj y v' e1 e2 e3=>?_⟩,λy c e=>?_,I.free,I.iE,λp hp=>?_,tracked ⟨oL,Mw,I.free⟩ hs,by simpa using I.len⟩ ⟨_,hs,.inl rfl⟩
  ·exact(hs.2 b (dA (fb (bN e) I.ok.above))).trans (I.ao.keep b o e n hb hx)
  ·obtain⟨sl,e1⟩:=I.ao.slot b o e n hb hx
   exact⟨sl,(hs.2 b (dA (fb (bN e) I.ok.above))).trans e1⟩
  ·obtain⟨o',e1⟩:=I.ao.there b o e hx
   exact⟨o',(hs.2 b (dA (fb (bN e) I.ok.above))).trans e1⟩
  ·by_cases hj:j=i
   ·subst hj
    rw[hi]at e1;cases e1;rw[Gu yA]at e2;cases e2;exact⟨u,r,.inl ⟨hk,by simp⟩⟩
   ·rw[Qj (iL hj)]at e2
    obtain⟨u',r',q⟩:=hl j y v' e1 e2 e3;refine⟨u',r',?_⟩;rcases q with⟨k,e⟩|⟨k,c,e,z⟩
    ·refine .inl ⟨k,?_⟩
     have:y≠x:=λe=>hj (Di hN e1 (e▸hi));simp[this,e]
    ·exact .inr ⟨k,c,e,z.sameBut hs (j8 y c e)⟩
  ·obtain⟨w',z⟩:=I.cell y c e
   exact⟨w',z.sameBut hs (j8 y c e)⟩
  ·obtain⟨e,n,ne,nf,d⟩:=I.pin p hp
   exact⟨(hs.2 p.1 ne).trans e,n,ne,nf,d⟩
 ·have El:X.fn x=true:=by
   rcases hf with z|z
   ·exact z
   ·rw[z]at hk;cases hk
  obtain⟨c,hc⟩:=I.ok.has x (.inl hk);obtain⟨w',z⟩:=I.cell x c hc;refine wpAny_storeName_cell I.ok.kind hk hc z (λh' gE hs=>?_);obtain⟨oc,Mv,ZT⟩:=id z;refine h {s with heap:=h'} ⟨I.ok,I.os,I.bare,⟨λb o e n hb hx=>?_,λb o e n hb hx=>?_,I.ao.free,λb o e hx=>?_,I.ao.hZ,I.ao.gX,I.ao.ib⟩,⟨m,hn.sameBut hs (iL (j8 x c hc)),λj y v' e1 e2 e3=>?_⟩,λy c' e=>?_,I.free,I.iE,λp hp=>?_,tracked ⟨oc,Mv,I.iE x c hc⟩ hs,by simpa using I.len⟩ ⟨c,hs,.inr hc⟩
  ·exact(hs.2 b (dA (fb (bN e) (I.ok.og x c El hc)))).trans (I.ao.keep b o e n hb hx)
  ·obtain⟨sl,e1⟩:=I.ao.slot b o e n hb hx
   exact⟨sl,(hs.2 b (dA (fb (bN e) (I.ok.og x c El hc)))).trans e1⟩
  ·obtain⟨o',e1⟩:=I.ao.there b o e hx
   exact⟨o',(hs.2 b (dA (fb (bN e) (I.ok.og x c El hc)))).trans e1⟩
  ·by_cases hj:j=i
   ·subst hj
    rw[hi]at e1;cases e1;rw[Gu yA]at e2;cases e2;exact⟨u,r,.inr ⟨.inl hk,c,hc,gE⟩⟩
   ·rw[Qj (iL hj)]at e2
    obtain⟨u',r',q⟩:=hl j y v' e1 e2 e3;refine⟨u',r',?_⟩;rcases q with q|⟨k,c',e,z'⟩
    ·exact .inl q
    ·refine .inr ⟨k,c',e,z'.sameBut hs ?_⟩
     rintro rfl;exact hj (Di hN e1 (I.ok.inj _ _ _ e hc▸hi))
  ·by_cases MG:c'=c
   ·subst MG;exact⟨_,gE⟩
   ·obtain⟨w2,z2⟩:=I.cell y c' e
    exact⟨w2,z2.sameBut hs MG⟩
  ·obtain⟨e,n,ne,nf,d⟩:=I.pin p hp
   refine⟨(hs.2 p.1 ?_).trans e,n,ne,nf,d⟩;intro q;rw[q,Mv]at e;have q':oc=p.2:=cW e;exact d w' (by rw[<-q'];exact ZT)
theorem qI{M:Model}{A:ai}{E:Value->ae->Prop}{i:Nat}{x:Str}{v:V}{u:Value}{Q:Unit->ae->Prop}(I:Inv X pins O H s)(hN:X.N.Nodup)(hi:X.N[i]? =some x)(hx:Loc X.env.scope x)(r:RelV v u) (h:∀s',Inv X pins (O.set i (some v)) H s'->Q () s')(hf:autoParam (X.fn x=true\/X.env.scope.names.lookup x=some .local) d8_._auto_1):wpAny M A (storeName X.env x u) Q E s:=Hw I hN hi hx r (λs' I' _=>h s' I') hf
theorem Inv.zo{s':ae}{ch:List Addr}(I:Inv X pins O H s)(ho:s'.os=s.os)(u:Un (cR X.stack) ch H H' s.heap s'.heap)(aW:da X.prog X.w H' s'.heap)(hg:AllBare s'.gens) (jL:∀b∈ch,(b∈X.ex\/X.s₀.heap.objs.size<=b)/\b≠X.env.locals/\(∀x c,X.env.cells.lookup x=some c->c≠b)/\∀p∈X.pn++pins,p.1≠b):Inv X pins O H' s':=by obtain⟨h',g',d',t',o'⟩:=s';have e:o'=s.os:=ho;subst e;exact I.call (g':=g') (t':=t') (d':=d') u aW hg jL
end
abbrev XK:=Value->Option Addr->Hp->Prop
abbrev St:=List (Option V)
abbrev VK:=V->Hp->Prop
abbrev TE:=St->Hp->VK->Prop
abbrev TT:=St->Hp->(Bool->Hp->Prop)->Prop
abbrev TA:=St->Hp->(List V->Hp->Prop)->Prop
structure Ends where
 nx:St->Hp->Prop
 rt:VK
 bk:St->Hp->Prop:=λ_ _=>False
 ct:St->Hp->Prop:=λ_ _=>False
abbrev TS:=Ends->St->Hp->Prop
def EP(X:Cx)(pins:List (Addr×Obj))(O:St)(Q:VK)(u:Value)(s':ae):Prop:=∃v H',Inv X pins O H' s'/\RelV v u/\Q v H'
def TP(X:Cx)(pins:List (Addr×Obj))(O:St)(Q:Bool->Hp->Prop)(b:Bool)(s':ae):Prop:=∃H',Inv X pins O H' s'/\Q b H'
def AP(X:Cx)(pins:List (Addr×Obj))(O:St)(Q:List V->Hp->Prop)(us:List Value)(s':ae):Prop:=∃vs H',Inv X pins O H' s'/\Vals vs us/\Q vs H'
def SP(X:Cx)(pins:List (Addr×Obj))(D:Ends)(f:Flow)(s':ae):Prop:=match f with | .next=>∃σ' H',Inv X pins σ' H' s'/\D.nx σ' H' | .brk=>∃σ' H',Inv X pins σ' H' s'/\D.bk σ' H' | .cont=>∃σ' H',Inv X pins σ' H' s'/\D.ct σ' H' | .ret u=>∃v σ' H',Inv X pins σ' H' s'/\RelV v u/\D.rt v H'
def PE(X:Cx)(e:Expr)(t:TE):Prop:=∀(pins:List (Addr×Obj))(s:ae)(O:St)(H:Hp)(Q:VK),Inv X pins O H s->t O H Q->wpAny (model X.prog X.w) X.A (eval e X.env) (EP X pins O Q) X.xe s
def PT(X:Cx)(e:Expr)(t:TT):Prop:=∀(pins:List (Addr×Obj))(s:ae)(O:St)(H:Hp)(Q:Bool->Hp->Prop),Inv X pins O H s->t O H Q->wpAny (model X.prog X.w) X.A (isTrue e X.env (eval e X.env)) (TP X pins O Q) X.xe s
def PW(X:Cx)(e:Expr)(t:TT):Prop:=∀(whole:Sem Value)(pins:List (Addr×Obj))(s:ae)(O:St)(H:Hp)(Q:Bool->Hp->Prop),Inv X pins O H s->t O H Q->wpAny (model X.prog X.w) X.A (isTrue e X.env whole) (TP X pins O Q) X.xe s
theorem PW.pt{X:Cx}{e:Expr}{t:TT}(h:PW X e t):PT X e t:=h _
def PA(X:Cx)(es:List Expr)(t:TA):Prop:=∀(pos:Pos)(pins:List (Addr×Obj))(s:ae)(O:St)(H:Hp)(Q:List V->Hp->Prop),Inv X pins O H s->t O H Q->wpAny (model X.prog X.w) X.A (spliced (backTo pos (starEach es X.env))) (AP X pins O Q) X.xe s
def PS(X:Cx)(st:Stmt)(t:TS):Prop:=∀(pins:List (Addr×Obj))(s:ae)(O:St)(H:Hp)(D:Ends),Inv X pins O H s->t D O H->wpAny (model X.prog X.w) X.A (exec st X.env) (SP X pins D) X.xe s
def eY(X:Cx)(st:List Stmt)(t:TS):Prop:=∀(pins:List (Addr×Obj))(s:ae)(O:St)(H:Hp)(D:Ends),Inv X pins O H s->t D O H->wpAny (model X.prog X.w) X.A (execs st X.env) (SP X pins D) X.xe s
theorem aV{α:Type}{t:Sem α}{Q Q':α->ae->Prop}{M:Model}{A:ai}{E:Value->ae->Prop}{s:ae}(h:wpAny M A t Q E s)(hQ:∀a s,Q a s->Q' a s):wpAny M A t Q' E s:=fP h hQ λ_ _ x=>x
section
variable {X:Cx}
inductive a62(i:Nat)(O:St)(H:Hp)(Q:VK):Prop |mk (v:_)(h0:O[i]? =some (some v))(h1:Q v H)
def Hh(i:Nat):TE:=λO H Q=>a62 i O H Q
def tC (v:V):TE:=λ_ H Q=>Q v H
theorem KG{i:Nat}{x:Str}{pos:Pos}(hN:X.N[i]? =some x)(hv:zB X.env.scope x)(hd:autoParam ((x==("__debug__":Str))=false) q8_._auto_1)(e9:autoParam ((x==("__classdict__":Str))=false) q8_._auto_1):PE X (.Name x pos) (Hh i):=by
 intro pins s O H Q I h;obtain⟨v,e,h⟩:=h;obtain⟨m,hn,hl⟩:=I.loc;obtain⟨u,r,l⟩:=hl i x v hN e hv;have fin:EP X pins O Q u s:=⟨v,H,I,r,h⟩;rcases l with⟨hk,hm⟩|⟨hk,c,hc,nT⟩
 ·exact wpAny_Name (wpAny_loadName_local I.ok.kind hk hn hm fin) hd
 ·rcases hk with hk|hk
  ·exact wpAny_Name (wpAny_loadName_cell I.ok.kind hk hc nT fin) hd
  ·exact wpAny_Name (wpAny_loadName_free I.ok.kind hk hc nT fin e9) hd
theorem aB{i j pos}:PE X (.Constant (.int i) j pos) (tC (.int i)):=λ_ _ _ H _ I h=>wpAny_Constant_int ⟨.int i,H,I.tok _,⟨_,Z⟩,h⟩
theorem gB{b j pos}:PE X (.Constant (.bool b) j pos) (tC (.bl b)):=λ_ _ _ H _ I h=>Constant_bool ⟨.bl b,H,I,Z,h⟩
theorem gj{j pos}:PE X (.Constant .none j pos) (tC .aY):=λ_ _ _ H _ I h=>Constant_none ⟨.aY,H,I,Z,h⟩
theorem bq{x j pos}:PE X (.Constant (.str x) j pos) (tC (.str x)):=λ_ _ _ H _ I h=>Calls.Constant_str ⟨.str x,H,I.tok _,⟨_,Z⟩,h⟩
def Gl(X:Cx)(x:Str):Prop:=X.env.kindOf x=some .globalImplicit
theorem mz{E:Value->ae->Prop}{pins:List (Addr×Obj)}{s:ae}{O:St}{H:Hp}{x:Str}{u:Value}{pos:Pos}{Q:Value->ae->Prop}(I:Inv X pins O H s)(hg:Gl X x)(hm:X.mg x=some u)(h:Q u s) (hd:autoParam ((x==("__debug__":Str))=false) q8_._auto_1):wpAny (model X.prog X.w) X.A (eval (.Name x pos) X.env) Q E s:=Calls.Name_function_global I.ok.kind hg (Calls.loadGlobal_global (by rw[I.ok.glob];exact I.mod.glob.keeps I.bk) hm h) hd
theorem lD{E:Value->ae->Prop}{pins:List (Addr×Obj)}{s:ae}{O:St}{H:Hp}{x:Str}{u:Value}{pos:Pos}{Q:Value->ae->Prop}(I:Inv X pins O H s)(hg:Gl X x)(hm:X.mg x=none)(hv:bootBuiltins x=some u)(h:Q u s) (hn:autoParam (x≠"__name__") q8_._auto_1)(hd:autoParam ((x==("__debug__":Str))=false) q8_._auto_1):wpAny (model X.prog X.w) X.A (eval (.Name x pos) X.env) Q E s:=by obtain⟨mb,h1,h2⟩:=I.mod.blt;exact Calls.Name_function_global I.ok.kind hg (Calls.loadGlobal_builtin (by rw[I.ok.glob];exact I.mod.glob.keeps I.bk) hm (by rw[I.ok.blt];exact h1.keeps I.bk) ((h2 x hn).trans hv) h) hd
theorem V7{x:Str}{v:V}{u:Value}{pos:Pos}(hg:Gl X x)(hm:X.mg x=some u)(r:RelV v u)(hd:autoParam ((x==("__debug__":Str))=false) q8_._auto_1):PE X (.Name x pos) (tC v):=λ_ _ _ H _ I h=>mz I hg hm ⟨v,H,I,r,h⟩ hd
theorem ki{x:Str}{v:V}{u:Value}{pos:Pos}(hg:Gl X x)(hm:X.mg x=none)(hv:bootBuiltins x=some u)(r:RelV v u)(hn:autoParam (x≠"__name__") q8_._auto_1)(hd:autoParam ((x==("__debug__":Str))=false) q8_._auto_1):PE X (.Name x pos) (tC v):=λ_ _ _ H _ I h=>lD I hg hm hv ⟨v,H,I,r,h⟩ hn hd
variable {a b:Expr}{ta tb:TE}{pos:Pos}
def PC(X:Cx)(op:CmpOp)(a b:Expr)(t:TE):Prop:=∀(pins:List (Addr×Obj))(s:ae)(O:St)(H:Hp)(Q:VK),Inv X pins O H s->t O H Q->wpAny (model X.prog X.w) X.A (eval a X.env) (λv s₁=>wpAny (model X.prog X.w) X.A (eval b X.env) (λu s₂=>wpAny (model X.prog X.w) X.A (compareOp op v u) (EP X pins O Q) X.xe s₂) X.xe s₁) X.xe s
inductive ItB(Q:Bool->Hp->Prop)(x:V)(H1:Hp):Prop |mk (c:_)(h0:x= .bl c)(h1:Q c H1)
def tB(t:TE):TT:=λO H Q=>t O H λx H1=>ItB Q x H1
theorem Kt{op:CmpOp}{t:TE}(h:PC X op a b t)(h1:behindInMarks op b=false:=by first|exact a8B _ ay ay|rfl):PT X (.Compare a [op] [b] pos) (tB t):=by intro pins s O H Q I hw;refine wpAny_isTrue_Compare1 (aV (h pins s O H _ I hw) λv s1 h1=>aV h1 λu s2 h2=>aV h2 λc s3 ⟨x,H1,I1,r1,q1⟩=>?_) h1;obtain⟨d,rfl,q⟩:=q1;cases r1;exact lS ⟨H1,I1,q⟩
theorem cC{e:Expr}{t:TE}(h:PE X e t)(he:autoParam (∀whole,isTrue e X.env whole=(do let v<-whole;standAt e.pos;holding [v] (truthy v))) f8_._auto_1):PT X e (tB t):=by intro pins s O H Q I hw;refine isTrue_plain (aV (h pins s O H _ I hw) λv s1 ⟨x,H1,I1,r1,q1⟩=>?_) (he _);obtain⟨d,rfl,q⟩:=q1;cases r1;exact lS ⟨H1,I1,q⟩
variable {tA xb:TT} {rest:List Expr}
def Ht(t u:TT):TT:=λO H Q=>t O H λc H1=>if c=true then u O H1 Q else Q false H1
def Hk(t u:TT):TT:=λO H Q=>t O H λc H1=>if c=true then Q true H1 else u O H1 Q
def RN(t:TT):TT:=λO H Q=>t O H λc H1=>Q (!c) H1
theorem CG(ha:PT X a tA):PW X (.BoolOp .And [a] pos) tA:=by intro wh pins s O H Q I h;refine isTrue_and (aV (ha pins s O H Q I h) λc s1 e=>?_);cases c with |true=>exact isTrue_and_nil e |false=>exact e
theorem ip(ha:PT X a tA):PW X (.BoolOp .Or [a] pos) tA:=by intro wh pins s O H Q I h;refine isTrue_or (aV (ha pins s O H Q I h) λc s1 e=>?_);cases c with |false=>exact isTrue_or_nil e |true=>exact e
theorem CH(ha:PT X a tA)(hb:PW X (.BoolOp .And (b::rest) pos) xb):PW X (.BoolOp .And (a::b::rest) pos) (Ht tA xb):=by intro wh pins s O H Q I h;refine isTrue_and (aV (ha pins s O H _ I h) λc s1 ⟨H1,I1,q1⟩=>?_);cases c with |true=>exact hb wh pins s1 O H1 Q I1 q1 |false=>exact⟨H1,I1,q1⟩
theorem iq(ha:PT X a tA)(hb:PW X (.BoolOp .Or (b::rest) pos) xb):PW X (.BoolOp .Or (a::b::rest) pos) (Hk tA xb):=by intro wh pins s O H Q I h;refine isTrue_or (aV (ha pins s O H _ I h) λc s1 ⟨H1,I1,q1⟩=>?_);cases c with |true=>exact⟨H1,I1,q1⟩ |false=>exact hb wh pins s1 O H1 Q I1 q1
theorem df(ha:PT X a tA):PT X (.UnaryOp .Not a pos) (RN tA):=by intro pins s O H Q I h;exact isTrue_not (ha pins s O H (λc H1=>Q (!c) H1) I h)
inductive a6c(tb:TE)(O:St)(Q:VK)(x:V)(H1:Hp):Prop |mk (c:_)(h0:x= .bl c)(h1:if c=true then tb O H1 Q else Q (.bl false) H1)
def S7(ta tb:TE):TE:=λO H Q=>ta O H λx H1=>a6c tb O Q x H1
inductive a68(Q:VK)(x:V)(H1:Hp):Prop |mk (c:_)(h0:x= .bl c)(h1:Q (.bl (!c)) H1)
def RM(ta:TE):TE:=λO H Q=>ta O H λx H1=>a68 Q x H1
theorem qQ{op}{t:TE}(h:PE X a t):PE X (.BoolOp op [a] pos) t:=λpins s O H Q I hw=>BoolOp_one (h pins s O H Q I hw)
theorem qS(ha:PE X a ta)(hb:PE X (.BoolOp .And (b::rest) pos) tb):PE X (.BoolOp .And (a::b::rest) pos) (S7 ta tb):=by intro pins s O H Q I h;refine BoolOp_and (aV (ha pins s O H _ I h) λv s1 ⟨x,H1,I1,r1,q1⟩=>?_);obtain⟨c,rfl,q1⟩:=q1;cases r1;refine lS ?_;cases c with |true=>exact hb pins s1 O H1 Q I1 q1 |false=>exact⟨.bl false,H1,I1,Z,q1⟩
theorem V3(ha:PE X a ta):PE X (.UnaryOp .Not a pos) (RM ta):=by intro pins s O H Q I h;refine UnaryOp_ (aV (ha pins s O H _ I h) λv s1 ⟨x,H1,I1,r1,q1⟩=>?_);obtain⟨c,rfl,q1⟩:=q1;cases r1;exact not_of (lS ⟨.bl (!c),H1,I1,Z,q1⟩)
def RY(t:TT)(ta tb:TE):TE:=λO H Q=>t O H λc H1=>if c=true then ta O H1 Q else tb O H1 Q
theorem gM{c:Expr}(hc:PT X c tA)(ha:PE X a ta)(hb:PE X b tb):PE X (.IfExp c a b pos) (RY tA ta tb):=by intro pins s O H Q I h;refine wpAny_IfExp (aV (hc pins s O H _ I h) λd s1 ⟨H1,I1,q1⟩=>?_);cases d with |true=>exact ha pins s1 O H1 Q I1 q1 |false=>exact hb pins s1 O H1 Q I1 q1
end
def aG(K:aa)(H:Hp)(a:Addr)(xs:List V):Prop:=Rd H a (.lst xs)\/ ∃(o:Obj)(its:Array Value)(n:Nat),K.lookup a=some o/\o.cls= .type "list"/\o.dict=none/\o.data= .seq its n/\its.size<=sizeLine/\Vals xs its.toList
def aP(K:aa)(H:Hp)(a:Addr)(xs:List V):Prop:=Rd H a (.tup xs)\/ ∃(o:Obj)(its:Array Value)(n:Nat),K.lookup a=some o/\o.cls= .type "tuple"/\o.data= .seq its n/\its.size<=sizeLine/\Vals xs its.toList
def a5F:Value->Option V | .none=>some .aY | .bool b=>some (.bl b) | .int i _=>some (.int i) | .str x _=>some (.str x) | .bytes b _=>some (.j9 b) | .float b _=>some (.yT b) | .ref a=>some (.ref a) | .type n=>some (.ty n) |_=>none
theorem RelV.abs{x:V}{u:Value}(r:RelV x u):a5F u=some x:=by cases x with |aY=>cases r;rfl |bl _=>cases r;rfl |int _=>obtain⟨t,rfl⟩:=r;rfl |str _=>obtain⟨t,rfl⟩:=r;rfl |j9 _=>obtain⟨t,rfl⟩:=r;rfl |yT _=>obtain⟨t,rfl⟩:=r;rfl |ref _=>cases r;rfl |ty _=>cases r;rfl
theorem RelV.inj{x y:V}{u:Value}(r:RelV x u)(q:RelV y u):x=y:=cW (r.abs.symm.trans q.abs)
theorem Vals.inj:∀{xs ys:List V}{us:List Value},Vals xs us->Vals ys us->xs=ys |_,_,_,.nil,.nil=>rfl |_,_,_,.cons r t,.cons r' t'=>by rw[r.inj r',Vals.inj t t']
section
variable {X:Cx}{pins:List (Addr×Obj)}{O:St}{H:Hp}{s:ae}{a:Addr}{xs ys:List V}
theorem aG.of{K:aa}(h:H a=some (.lst xs)):aG K H a xs:=.inl (.inl h)
theorem aP.of{K:aa}(h:H a=some (.tup xs)):aP K H a xs:=.inl (.inl h)
theorem Inv.list(I:Inv X pins O H s)(h:aG X.K H a xs):∃its:List Value,Vals xs its/\PlainL s.heap a its.toArray/\xs.length<=sizeLine:=by
 rcases h with h|⟨o,its,n,hk,hc,hd,hs,hz,r⟩
 ·obtain⟨z,its,n,r,e⟩:=h.ok I.aW
  exact⟨its,r,⟨_,n,e,Z,Z,Z⟩,z⟩
 ·refine⟨its.toList,r,⟨o,n,I.dE a o hk,hc,hd,by simpa using hs⟩,?_⟩
  have e:=r.length;simp only[jU]at e
  lia
theorem Inv.tuple(I:Inv X pins O H s)(h:aP X.K H a xs):∃its:List Value,Vals xs its/\IsTup s.heap a its.toArray/\xs.length<=sizeLine:=by
 rcases h with h|⟨o,its,n,hk,hc,hs,hz,r⟩
 ·obtain⟨z,its,r,p⟩:=h.ok I.aW
  exact⟨its,r,p,z⟩
 ·refine⟨its.toList,r,⟨o,I.dE a o hk,hc,n,by simpa using hs⟩,?_⟩
  have e:=r.length;simp only[jU]at e
  lia
theorem Inv.LX(I:Inv X pins O H s)(h:aG X.K H a xs)(h':aG X.K H a ys):xs=ys:=by
 obtain⟨its,r,⟨o,n,e,_,_,d⟩,_⟩:=I.list h;obtain⟨its',r',⟨o',n',e',_,_,d'⟩,_⟩:=I.list h';rw[e]at e';cases e';rw[d]at d';injection d' with d1 _;have:its=its':=by simpa using jT Array.toList d1
 subst this;exact r.inj r'
theorem Inv.GZ(I:Inv X pins O H s)(h:aP X.K H a xs)(h':aP X.K H a ys):xs=ys:=by
 obtain⟨its,r,⟨o,e,_,n,d⟩,_⟩:=I.tuple h;obtain⟨its',r',⟨o',e',_,n',d'⟩,_⟩:=I.tuple h';rw[e]at e';cases e';rw[d]at d';injection d' with d1 _;have:its=its':=by simpa using jT Array.toList d1
 subst this;exact r.inj r'
end
abbrev Cx.iQ(X:Cx)(E:Value->ae->Prop):Cx:={X with xe:=E}
abbrev Cx.pH(X:Cx):Cx:=X.iQ λ_ _=>False
theorem Cx.Ok.iQ{X:Cx}(ok:X.Ok)(E:Value->ae->Prop):(X.iQ E).Ok:=⟨ok.mod,ok.kind,ok.glob,ok.blt,ok.above,ok.inj,ok.has,ok.og,ok.hd,ok.frames,ok.oP,ok.vt,ok.bs,ok.jx,ok.nK,ok.mM,ok.gW,ok.kJ⟩
theorem Cx.Ok.kS{X:Cx}{E:Value->ae->Prop}(ok:(X.iQ E).Ok):X.Ok:=⟨ok.mod,ok.kind,ok.glob,ok.blt,ok.above,ok.inj,ok.has,ok.og,ok.hd,ok.frames,ok.oP,ok.vt,ok.bs,ok.jx,ok.nK,ok.mM,ok.gW,ok.kJ⟩
section
variable {X:Cx}{pins:List (Addr×Obj)}{O:St}{H:Hp}{s:ae}{E:Value->ae->Prop}
theorem Inv.iQ(I:Inv X pins O H s)(E:Value->ae->Prop):Inv (X.iQ E) pins O H s:=⟨I.ok.iQ E,I.os,I.bare,I.ao,I.loc,I.cell,I.free,I.iE,I.pin,I.aW,I.len⟩
theorem Inv.kS(I:Inv (X.iQ E) pins O H s):Inv X pins O H s:=⟨I.ok.kS,I.os,I.bare,I.ao,I.loc,I.cell,I.free,I.iE,I.pin,I.aW,I.len⟩
theorem SP.kS{D:Ends}{f:Flow}{s':ae}(h:SP (X.iQ E) pins D f s'):SP X pins D f s':=by cases f with |next=>obtain⟨σ',H',I,q⟩:=h;exact⟨σ',H',I.kS,q⟩ |brk=>obtain⟨σ',H',I,q⟩:=h;exact⟨σ',H',I.kS,q⟩ |cont=>obtain⟨σ',H',I,q⟩:=h;exact⟨σ',H',I.kS,q⟩ |ret u=>obtain⟨v,σ',H',I,r,q⟩:=h;exact⟨v,σ',H',I.kS,r,q⟩
theorem eY.pH{st:List Stmt}{t:TS}(h:eY X.pH st t):eY X st t:=λpins s O H D I hw=>fP (h pins s O H D (I.iQ _) hw) (λ_ _ q=>q.kS) λ_ _ z=>False.elim z
end
section
variable {X:Cx}{st:Stmt}{rest:List Stmt}{t u:TS}{e:Expr}{te:TE}{pos:Pos}
def RP:TS:=λD O H=>D.nx O H
def Hj(t u:TS):TS:=λD O H=>t {D with nx:=u D} O H
theorem bD:eY X [] RP:=λ_ _ O H _ I h=>vW ⟨O,H,I,h⟩
theorem aE(h1:PS X st t)(h2:eY X rest u):eY X (st::rest) (Hj t u):=by intro pins s O H D I h;refine wpAny_execs_cons (aV (h1 pins s O H {D with nx:=u D} I h) λf s1 q=>?_);cases f with |next=>obtain⟨σ',H',I',q⟩:=q;exact h2 pins s1 σ' H' D I' q |ret v=>exact q |brk=>exact q |cont=>exact q
theorem aH(h1:PS X st t):eY X [st] t:=by intro pins s O H D I h;refine wpAny_execs_cons (aV (h1 pins s O H D I h) λf s1 q=>?_);cases f with |next=>exact vW q |ret v=>exact q |brk=>exact q |cont=>exact q
theorem Inv.quiet{pins:List (Addr×Obj)}{O:St}{H:Hp}{s:ae}(I:Inv X pins O H s):interactive X.env=false:=by simp[interactive,I.ok.kind]
def S2(te:TE):TS:=λD O H=>te O H λ_ H1=>D.nx O H1
theorem ug(he:PE X e te)(hs:autoParam (swapsWith e none pos.line X.env=pure false) r8_._auto_1):PS X (.Expr e pos) (S2 te):=by intro pins s O H D I h;exact wpAny_Expr_any (aV (he pins s O H _ I h) λv s1 ⟨x,H1,I1,r1,q1⟩=>⟨O,H1,I1,q1⟩) I.quiet hs
def RG(te:TE):TS:=λD O H=>te O H D.rt
theorem aQ(he:PE X e te):PS X (.Return (some e) pos) (RG te):=by intro pins s O H D I h;exact wpAny_Return_some (aV (he pins s O H _ I h) λv s1 ⟨x,H1,I1,r1,q1⟩=>⟨x,O,H1,I1,r1,q1⟩)
def Ho(c:TT)(t u:TS):TS:=λD O H=>c O H λb H1=>if b=true then t D O H1 else u D O H1
theorem bB{c:Expr}{a b:List Stmt}{tc:TT}(hc:PT X c tc)(ha:eY X a t)(hb:eY X b u):PS X (.If c a b pos) (Ho tc t u):=by intro pins s O H D I h;refine wpAny_If (aV (hc pins s O H _ I h) λd s1 ⟨H1,I1,q1⟩=>?_);cases d with |true=>exact ha pins s1 O H1 D I1 q1 |false=>exact hb pins s1 O H1 D I1 q1
def Hl:TS:=λ_ _ _=>False
theorem ph:PS X st Hl:=λ_ _ _ _ _ _ h=>h.elim
theorem xF{Sh:List Stmt}:eY X Sh Hl:=λ_ _ _ _ _ _ h=>h.elim
end
abbrev TG:=V->St->Hp->(St->Hp->Prop)->Prop
abbrev lP:=List V->St->Hp->(St->Hp->Prop)->Prop
def PG(X:Cx)(target:Expr)(t:TG):Prop:=∀(pins:List (Addr×Obj))(s:ae)(O:St)(H:Hp)(v:V)(u:Value)(Q:St->Hp->Prop),Inv X pins O H s->RelV v u->t v O H Q->wpAny (model X.prog X.w) X.A (assign target X.env u) (λ_ s'=>∃σ' H',Inv X pins σ' H' s'/\Q σ' H') X.xe s
def vL(X:Cx)(ts:List Expr)(t:lP):Prop:=∀(pins:List (Addr×Obj))(s:ae)(O:St)(H:Hp)(vs:List V)(us:List Value)(Q:St->Hp->Prop),Inv X pins O H s->Vals vs us->t vs O H Q->wpAny (model X.prog X.w) X.A (assignInOrder ((assignEach ts X.env).map (·.2)) us) (λ_ s'=>∃σ' H',Inv X pins σ' H' s'/\Q σ' H') X.xe s
abbrev FU:=V->V->V->Hp->(Hp->Prop)->Prop
def Pe(X:Cx)(t:FU):Prop:=∀(pins:List (Addr×Obj))(s:ae)(O:St)(H:Hp)(o i v:V)(ov iv u:Value)(Q:Hp->Prop),Inv X pins O H s->RelV o ov->RelV i iv->RelV v u->t o i v H Q->wpAny (model X.prog X.w) X.A (setItem ov iv u) (λ_ s'=>∃H',Inv X pins O H' s'/\Q H') X.xe s
section
variable {X:Cx} {pos:Pos}
def fY(i:Nat):TG:=λv O H Q=>Q (O.set i (some v)) H
theorem V0{i:Nat}{x:Str}(hN:X.N.Nodup)(hi:X.N[i]? =some x)(hx:Loc X.env.scope x)(hf:autoParam (X.fn x=true\/X.env.scope.names.lookup x=some .local) d8_._auto_1):PG X (.Name x pos) (fY i):=by intro pins s O H v u Q I r h;exact wpAny_assign_Name (qI I hN hi hx r (λs' I'=>⟨_,H,I',h⟩) hf)
def EU:lP:=λvs O H Q=>vs=[]/\Q O H
inductive a7Z(t:TG)(u:lP)(vs:List V)(O:St)(H:Hp)(Q:St->Hp->Prop):Prop |mk (v:_)(r:_)(h0:vs=v::r)(h1:t v O H λσ' H'=>u r σ' H' Q)
def vn(t:TG)(u:lP):lP:=λvs O H Q=>a7Z t u vs O H Q
theorem dU:vL X [] EU:=by intro pins s O H vs us Q I r h;obtain⟨e,h⟩:=h;subst e;cases r;exact assignInOrder_nil ⟨O,H,I,h⟩
theorem bP{e:Expr}{es:List Expr}{t:TG}{u:lP}(h1:PG X e t)(h2:vL X es u) (hs:autoParam ((assignEach (e::es) X.env).map (·.2)=assign e X.env::(assignEach es X.env).map (·.2)) r8_._auto_1):vL X (e::es) (vn t u):=by intro pins s O H vs us Q I r h;obtain⟨v,vr,e1,h⟩:=h;subst e1;cases r with |cons r rr=>rw[hs];refine zS (aV (h1 pins s O H _ _ _ I r h) λ_ s1 ⟨σ1,H1,I1,q1⟩=>?_);exact h2 pins s1 σ1 H1 _ _ Q I1 rr q1
inductive a7X(K:aa)(n:Nat)(t:lP)(v:V)(O:St)(H:Hp)(Q:St->Hp->Prop):Prop |mk (a:_)(xs:_)(h0:v= .ref a)(h1:aP K H a xs)(h2:xs.length=n)(h3:t xs O H Q)
def yN(K:aa)(n:Nat)(t:lP):TG:=λv O H Q=>a7X K n t v O H Q
theorem UZ{es:List Expr}{k:Nat}{t:lP}{n:Nat}(hc:X.calm=true)(h:vL X es t) (hn:autoParam ((assignEach es X.env).length=n) r8_._auto_1)(fk:autoParam ((assignEach es X.env).findIdx? (·.1)=none) r8_._auto_1):PG X (.Tuple es k pos) (yN X.K n t):=by intro pins s O H v u Q I r hw;obtain⟨a,xs,e1,hq,hl,hw⟩:=hw;subst e1;cases r;obtain⟨its,rv,ht,hz⟩:=I.tuple hq;refine assign_Tuple_tuple (I.ok.hd hc) ht (by simp[hn,<-hl,rv.length]) fk λh' hx=>?_;have I1:Inv X pins O H {s with heap:=h'}:=I.kept (t':=s.toks) λb o e=>hx b o (dA (bN e)) e;exact h pins _ O H xs _ Q I1 (by simpa using rv) hw
def a2B(to ti:TE)(t:FU):TG:=λv O H Q=>to O H λo H1=>ti O H1 λi H2=>t o i v H2 λH3=>Q O H3
theorem pA{o i:Expr}{to ti:TE}{t:FU}(ho:PE X o to)(hi:PE X i ti)(hs:Pe X t) (ha:∀v,assign (.Subscript o i pos) X.env v=(do
 let ov<-holding [v] (eval o X.env)
 let iv<-holding [v,ov] (eval i X.env)
 standAt pos
 holding [v,ov,iv] (setItem ov iv v)
 release [v,ov,iv] []):=by intro _;rfl):PG X (.Subscript o i pos) (a2B to ti t):=by
 intro pins s O H v u Q I r h;rw[ha];refine aA (gH (aV (ho pins s O H _ I h) λov s1 ⟨x,H1,I1,r1,q1⟩=>?_));refine aA (gH (aV (hi pins s1 O H1 _ I1 q1) λiv s2 ⟨y,H2,I2,r2,q2⟩=>?_));refine aA (qw (aA (gH (aV (hs pins s2 O H2 x y v ov iv u _ I2 r1 r2 r q2) λ_ s3 ⟨H3,I3,q3⟩=>?_))));exact wpAny_release ⟨O,H3,I3,q3⟩
def xf(te:TE)(g:TG):TS:=λD O H=>te O H λx H1=>g x O H1 D.nx
theorem eD{tg e:Expr}{te:TE}{g:TG}(he:PE X e te)(hg:PG X tg g)(hs:autoParam (swapsWithSole [tg] e pos.line X.env=pure false) r8_._auto_1)(hw:autoParam (swappedStores [tg] e X.env=pure none) r8_._auto_1) (h1:autoParam ((assignEach [tg] X.env).map (·.2)=[assign tg X.env]) r8_._auto_1):PS X (.Assign [tg] e pos) (xf te g):=by intro pins s O H D I h;refine wpAny_Assign_stores (aV (he pins s O H _ I h) λv s1 ⟨x,H1,I1,r1,q1⟩=>?_) hs hw;rw[h1];exact aV (hg pins s1 O H1 x v _ I1 r1 q1) λ_ s2 q=>q
theorem Ku{i:Nat}{x:Str}{e:Expr}{te:TE}{pos':Pos}(hN:X.N.Nodup)(hi:X.N[i]? =some x)(hx:Loc X.env.scope x)(he:PE X e te)(hs:autoParam (swapsWith e (some (.Name x pos')) pos.line X.env=pure false) r8_._auto_1)(hf:autoParam (X.fn x=true\/X.env.scope.names.lookup x=some .local) d8_._auto_1): PS X (.Assign [.Name x pos'] e pos) (xf te (fY i)):=by intro pins s O H D I h;refine wpAny_Assign_Name (aV (he pins s O H _ I h) λv s1 ⟨y,H1,I1,r1,q1⟩=>?_) hs;exact qI I1 hN hi hx r1 (λs2 I2=>⟨_,H1,I2,q1⟩) hf
inductive a66(i:Nat)(j:Nat)(D:Ends)(O:St)(vs:List V)(H1:Hp):Prop |mk (v:_)(w:_)(h0:vs=[v,w])(h1:D.nx ((O.set i (some v)).set j (some w)) H1)
def RK(i j:Nat)(ta:TA):TS:=λD O H=>ta O H λvs H1=>a66 i j D O vs H1
theorem xH{i j:Nat}{x y:Str}{a b:Expr}{ta:TA}{px py pt:Pos} {kt k2 CI}(hc:X.calm=true)(hN:X.N.Nodup)(hi:X.N[i]? =some x)(hj:X.N[j]? =some y)(hij:i≠j) (hx:X.env.scope.names.lookup x=some .local)(hy:X.env.scope.names.lookup y=some .local)(ha:PA X [a,b] ta) (hw:swappedStores [.Tuple [.Name x px,.Name y py] kt pt] (.Tuple [a,b] k2 CI) X.env=pure (some [x,y])) (hs:autoParam (swapsWithSole [.Tuple [.Name x px,.Name y py] kt pt] (.Tuple [a,b] k2 CI) pos.line X.env=pure false) r8_._auto_1): PS X (.Assign [.Tuple [.Name x px,.Name y py] kt pt] (.Tuple [a,b] k2 CI) pos) (RK i j ta):=by
 intro pins s O H D I h;rw[exec_Assign_arm];refine aA (qw ?_);rw[hs];refine aA (bw ?_);rw[aU ay];refine aA (Tuple_ (aV (ha _ pins s O H _ I h) λus s1 ⟨vs,H1,I1,r1,q1⟩=>?_));obtain⟨v,w,e1,q1⟩:=q1;subst e1;obtain⟨u1,u2,rfl,rv,kX⟩:∃u1 u2,us=[u1,u2]/\RelV v u1/\RelV w u2:=by cases r1 with |cons p q=>cases q with |cons p' q'=>cases q';exact⟨_,_,Z,p,p'⟩
 refine lT ?_ (by show 2<=sizeLine;decide);have I2:Inv X pins O H1 {s1 with heap:=s1.heap.push {cls:=.type "tuple",data:=.seq [u1,u2].toArray}}:=I1.kept (t':=s1.toks) λb o e=>bL _ e;rw[hw];refine aA (bw ?_);show wpAny (model X.prog X.w) X.A (do rule "assign.swapped-stores";let items<-unpackItems (.ref s1.heap.objs.size) 2 none;assignInOrder [λv=>bindName X.env y v,λv=>bindName X.env x v] items.reverse;pure Flow.next) _ _ _;refine aA (wpAny_rule (aA (unpackItems_tuple (items:=#[u1,u2]) (I.ok.hd hc) (IsTup.new s1.heap _) λh' Zw=>?_)));have I3:=I2.kept (h':=h') (t':=s1.toks) λb o e=>Zw b o (dA (bN e)) e;show wpAny _ _ (assignInOrder [λv=>bindName X.env y v,λv=>bindName X.env x v] [u2,u1]>>=λ_=>pure Flow.next) _ _ _;refine aA (zS (wpAny_bindName (qI I3 hN hj (.inl hy) kX (λs2 I4=>?_) (.inr hy))));refine zS (wpAny_bindName (qI I4 hN hi (.inl hx) rv (λs3 I5=>assignInOrder_nil (bw ?_)) (.inr hx)));rw[List.set_comm _ _ (iL hij)]at I5;exact⟨_,H1,I5,q1⟩
def Hg(c:TT)(tb:TS):TS:=λD O H=>∃W:Nat->St->Hp->Prop,(∃m,W m O H)/\∀m O H,W m O H->c O H λb H1=>if b=true then∃N:St->Hp->Prop,(∀σ' H',N σ' H'->∃m',m'<m/\W m' σ' H')/\tb {D with nx:=N,ct:=N,bk:=D.nx} O H1 else D.nx O H1
theorem xG{c:Expr}{body:List Stmt}{tc:TT}{tb:TS}(hp:PassesOwn (model X.prog X.w) X.A X.env X.xe)(hc:PT X c tc)(hb:eY X body tb):PS X (.While c body [] pos) (Hg tc tb):=by intro pins s O H D I h;obtain⟨W,⟨m0,w0⟩,turn⟩:=h;refine wpAny_While (codeAny_whileLoop (λn s'=>∃σ' H',Inv X pins σ' H' s'/\W n σ' H') ?_ m0 ⟨O,H,I,w0⟩);rintro n s1 ⟨σ1,H1,I1,w1⟩;refine sT hp (aV (hc pins s1 σ1 H1 _ I1 (turn n σ1 H1 w1)) λb s2 ⟨H2,I2,q2⟩=>?_);cases b with
 |true=>obtain⟨N,hN,q2⟩:=q2;rw[aR rfl];refine sT hp (aV (hb pins s2 σ1 H2 _ I2 q2) λf s3 q3=>?_);cases f with |next=>obtain⟨σ3,H3,I3,n3⟩:=q3;obtain⟨m',hm,w3⟩:=hN σ3 H3 n3;exact⟨m',hm,σ3,H3,I3,w3⟩ |cont=>obtain⟨σ3,H3,I3,n3⟩:=q3;obtain⟨m',hm,w3⟩:=hN σ3 H3 n3;exact⟨m',hm,σ3,H3,I3,w3⟩ |brk=>exact q3 |ret v=>exact q3
 |false=>rw[aU dc];exact vW ⟨σ1,H2,I2,q2⟩
end
structure It where
 go:Nat->Hp->Prop
 hV:Nat->Hp->V->Hp->Prop
 stop:Nat->Hp->Prop
def jz(X:Cx)(pins:List (Addr×Obj))(H:Hp)(b:Addr):Prop:=H b=none/\b≠X.env.locals/\b∉X.fs/\(b∈X.ex\/X.s₀.heap.objs.size<=b)/\(∀x c,X.env.cells.lookup x=some c->c≠b)/\∀p∈X.pn++pins,p.1≠b
theorem Inv.lK{X:Cx}{pins:List (Addr×Obj)}{O:St}{H H':Hp}{s:ae}{b:Addr}(I:Inv X pins O H s)(hb:s.heap.objs.size<=b)(hn:H' b=none):jz X pins H' b:=by
 refine⟨hn,qB (fb I.lt hb),I.Xu hb,.inr (fc I.sz hb),λx c e z=>?_,λp hp z=>?_⟩
 ·obtain⟨v,q⟩:=I.cell x c e
  exact absurd (fb q.lt (by rw[z];exact hb)) (ng _)
 ·exact absurd (fb (bN (I.pin p hp).1) (by rw[z];exact hb)) (ng _)
structure Turn(P:af)(w:World)(K:aa)(tg:Expr)(J:It)(fp:List Addr)(it:Addr)(tn:Nat->Heap->Prop):Prop where
 mem:it∈fp
 obj:∀i h,tn i h->∀b∈fp,∃o,h.get? b=some o/\∀v,o.data≠ .cell v
 keep:∀i h h',tn i h->(∀b∈fp,∀o,h.get? b=some o->h'.get? b=some o)->tn i h'
 item:∀(X:Cx),X.prog=P->X.w=w->X.K=K->X.calm=true->∀(i:Nat)(pins:List (Addr×Obj))(s:ae)(O:St)(H:Hp)(E:Value->ae->Prop),Inv X pins O H s->(∀b∈fp,jz X pins H b)->tn i s.heap->J.go i H->wpAny (model P w) X.A (pyNext (.ref it)) (λr s1=>∃u,r=some u/\wpAny (model P w) X.A (letOwnedTupleGo tg (.ref it) u) (λ_ s2=>∃x H',Inv X pins O H' s2/\RelV x u/\J.hV i H x H'/\tn (i+1) s2.heap/\∀b∈fp,H' b=none) E s1) E s
 done:∀(X:Cx),X.prog=P->X.w=w->X.K=K->X.calm=true->∀(i:Nat)(pins:List (Addr×Obj))(s:ae)(O:St)(H:Hp)(E:Value->ae->Prop),Inv X pins O H s->(∀b∈fp,jz X pins H b)->tn i s.heap->J.stop i H->wpAny (model P w) X.A (pyNext (.ref it)) (λr s1=>r=none/\Inv X pins O H s1) E s
 self:∀(A:ai)(i:Nat)(s:ae)(Q:Value->ae->Prop)(E:Value->ae->Prop),tn i s.heap->Q (.ref it) s->wpAny (model P w) A (pyIter (.ref it)) Q E s
abbrev TI:=St->Hp->(It->Hp->Prop)->Prop
def zG(X:Cx)(pins:List (Addr×Obj))(O:St)(tg:Expr)(R:It->Hp->Prop)(yf:Value)(s2:ae):Prop:=∃(it:Addr)(fp:List Addr)(tn:Nat->Heap->Prop)(J:It)(H':Hp),yf= .ref it/\Inv X pins O H' s2/\Turn X.prog X.w X.K tg J fp it tn/\tn 0 s2.heap/\(∀b∈fp,jz X pins H' b)/\R J H'
def PI(X:Cx)(tg iter:Expr)(wi:TI):Prop:=∀(pins:List (Addr×Obj))(s:ae)(O:St)(H:Hp)(R:It->Hp->Prop),Inv X pins O H s->wi O H R->wpAny (model X.prog X.w) X.A (eval iter X.env) (λv s1=>wpAny (model X.prog X.w) X.A (pyIter v) (zG X pins O tg R) X.xe s1) X.xe s
theorem rY{M:Model}{A:ai}{E:Value->ae->Prop}{s:ae}{tg:Expr}{it:Addr}{u:Value}{o:Obj}{n:String}{vs:Array Value}{Q:Unit->ae->Prop}(ho:s.heap.get? it=some o)(hc:o.cls= .type n)(hd:o.data= .fields vs) (hn:["enumerate","zip","dict_itemiterator","dict_reverseitemiterator","odict_iterator","itertools.zip_longest","itertools.pairwise"].contains n=false)(hQ:Q () s):wpAny M A (letOwnedTupleGo tg (.ref it) u) Q E s:=by unfold letOwnedTupleGo;cases tg<;>first |exact bw hQ |(cases u<;>first
        |exact bw hQ
        | (refine aA (wpAny_load ho ?_)
           rw[hc,hd];show wpAny M A (if(["enumerate","zip","dict_itemiterator","dict_reverseitemiterator","odict_iterator","itertools.zip_longest","itertools.pairwise"].contains n&&vs[0]? ==some (rawInt _))=true then _ else _) Q E s;rw[aU (by intro h;rw[hn,gf]at h;cases h)];exact bw hQ))
def sN(K:aa)(a:Addr):It:=⟨λi H=>∃xs x,aG K H a xs/\xs[i]? =some x,λi H x H'=>H'=H/\∀xs,aG K H a xs->xs[i]? =some x,λi H=>∃xs,aG K H a xs/\xs.length<=i⟩
def vO(K:aa)(a:Addr):It:=⟨λi H=>∃xs x,aP K H a xs/\xs[i]? =some x,λi H x H'=>H'=H/\∀xs,aP K H a xs->xs[i]? =some x,λi H=>∃xs,aP K H a xs/\xs.length<=i⟩
def mV(lo:Int)(n:Nat):It:=⟨λi _=>i<n,λi H x H'=>H'=H/\x= .int (lo+i),λi _=>n<=i⟩
theorem Rb{P:af}{w:World}{K:aa}{tg:Expr}(a it:Addr):Turn P w K tg (sN K a) [it] it (λi h=>h.IsListIter it a i) where
 mem:=by simp
 obj:=λi h st b hb=>by
  have e:b=it:=by simpa using hb
  subst e;obtain⟨o,e,c,d⟩:=st;exact⟨o,e,λv z=>by rw[d]at z;cases z⟩
 keep:=λi h h' st k=>st.at λo e=>k it (by simp) o e
 item:=by intro X hP hw hK hc i pins s O H E I hf st hg;subst hP hw hK;obtain⟨xs,x,hq,hx⟩:=hg;obtain⟨its,rv,p,hz⟩:=I.list hq;obtain⟨u,hu,ru⟩:=rv.get hx;obtain⟨f0,f1,f2,f3,f4,f5⟩:=hf it (by simp);refine wpAny_pyNext_list_item st p.isList (x:=u) (by simpa using hu) λh' fi sb=>?_;have I1:Inv X pins O H {s with heap:=h'}:=I.turned (t':=s.toks) (λb o hb e=>(sb.2 b hb).trans e) f0 f1 f3 f4 f5;obtain⟨o,e,c,d⟩:=id fi;exact⟨u,Z,rY (s:={s with heap:=h'}) e c d ay ⟨x,H,I1,ru,⟨Z,λys hy=>by rw[I.LX hy hq];exact hx⟩,fi,λb hb=>(hf b hb).1⟩⟩
 done:=by intro X hP hw hK hc i pins s O H E I hf st hg;subst hP hw hK;obtain⟨xs,hq,hx⟩:=hg;obtain⟨its,rv,p,hz⟩:=I.list hq;obtain⟨f0,f1,f2,f3,f4,f5⟩:=hf it (by simp);have hl:=rv.length;exact wpAny_pyNext_list_end (I.ok.hd hc) st p.isList (by simp;lia) λh' eb=>⟨Z,I.turned (t':=s.toks) (λb o hb e=>eb b o hb e) f0 f1 f3 f4 f5⟩
 self:=λ_ _ _ _ _ st h=>wpAny_pyIter_listiter st h
theorem R6{P:af}{w:World}{K:aa}{tg:Expr}(a it:Addr):Turn P w K tg (vO K a) [it] it (λi h=>h.IsTupleIter it a i) where
 mem:=by simp
 obj:=λi h st b hb=>by
  have e:b=it:=by simpa using hb
  subst e;obtain⟨o,e,c,d⟩:=st;exact⟨o,e,λv z=>by rw[d]at z;cases z⟩
 keep:=λi h h' st k=>st.at λo e=>k it (by simp) o e
 item:=by intro X hP hw hK hc i pins s O H E I hf st hg;subst hP hw hK;obtain⟨xs,x,hq,hx⟩:=hg;obtain⟨its,rv,p,hz⟩:=I.tuple hq;obtain⟨u,hu,ru⟩:=rv.get hx;obtain⟨f0,f1,f2,f3,f4,f5⟩:=hf it (by simp);refine wpAny_pyNext_tuple_item st (show s.heap.IsTuple a its.toArray from p) (x:=u) (by simpa using hu) λh' fi sb=>?_;have I1:Inv X pins O H {s with heap:=h'}:=I.turned (t':=s.toks) (λb o hb e=>(sb.2 b hb).trans e) f0 f1 f3 f4 f5;obtain⟨o,e,c,d⟩:=id fi;exact⟨u,Z,rY (s:={s with heap:=h'}) e c d ay ⟨x,H,I1,ru,⟨Z,λys hy=>by rw[I.GZ hy hq];exact hx⟩,fi,λb hb=>(hf b hb).1⟩⟩
 done:=by intro X hP hw hK hc i pins s O H E I hf st hg;subst hP hw hK;obtain⟨xs,hq,hx⟩:=hg;obtain⟨its,rv,p,hz⟩:=I.tuple hq;obtain⟨f0,f1,f2,f3,f4,f5⟩:=hf it (by simp);have hl:=rv.length;exact wpAny_pyNext_tuple_end (I.ok.hd hc) st (show s.heap.IsTuple a its.toArray from p) (by simp;lia) λh' eb=>⟨Z,I.turned (t':=s.toks) (λb o hb e=>eb b o hb e) f0 f1 f3 f4 f5⟩
 self:=λ_ _ _ _ _ st h=>wpAny_pyIter_tupleiter st h
theorem R9{P:af}{w:World}{K:aa}{tg:Expr}(it:Addr)(lo:Int)(n:Nat):Turn P w K tg (mV lo n) [it] it (λi h=>IsRangeIter h it (lo+(i:Nat)*1) ((n:Int)-(i:Nat)) 1) where
 mem:=by simp
 obj:=λi h st b hb=>by
  have e:b=it:=by simpa using hb
  subst e;exact⟨_,st,λv z=>by have z':Data.fields _=Data.cell v:=z;cases z'⟩
 keep:=λi h h' st k=>k it (by simp) _ st
 item:=by intro X hP hw hK hc i pins s O H E I hf st hg;subst hP hw hK;obtain⟨f0,f1,f2,f3,f4,f5⟩:=hf it (by simp);have W:=Walks.range (prog:=X.prog) (w:=X.w) (I.ok.hd hc) it lo 1 n;refine W.item i s _ _ hg st λv h' tk hv fi kk=>?_;obtain⟨t,rfl⟩:=hv;have I1:Inv X pins O H {s with heap:=h',toks:=tk}:=I.turned (λb o hb e=>kk b o (by simpa using hb) e) f0 f1 f3 f4 f5;refine⟨_,Z,rY (s:={s with heap:=h',toks:=tk}) (n:="range_iterator") fi rfl rfl ay ⟨.int (lo+i),H,I1,⟨t,?_⟩,⟨Z,Z⟩,fi,λb hb=>(hf b hb).1⟩⟩;rw[A6]
 done:=by intro X hP hw hK hc i pins s O H E I hf st hg;subst hP hw hK;obtain⟨f0,f1,f2,f3,f4,f5⟩:=hf it (by simp);exact Py (I.ok.hd hc) st (by have:n<=i:=hg;lia) λh' eb=>⟨Z,I.turned (t':=s.toks) (λb o hb e=>eb b o hb e) f0 f1 f3 f4 f5⟩
 self:=λ_ _ _ _ _ st h=>G5 st h
section
variable {X:Cx} {tg:Expr}
inductive a7V(K:aa)(R:It->Hp->Prop)(x:V)(H1:Hp):Prop |mk (a:_)(h0:x= .ref a)(h1:(∃xs,aG K H1 a xs))(h2:R (sN K a) H1)
def Mn(K:aa)(tl:TE):TI:=λO H R=>tl O H λx H1=>a7V K R x H1
inductive a7P(K:aa)(R:It->Hp->Prop)(x:V)(H1:Hp):Prop |mk (a:_)(h0:x= .ref a)(h1:(∃xs,aP K H1 a xs))(h2:R (vO K a) H1)
def Mm(K:aa)(tl:TE):TI:=λO H R=>tl O H λx H1=>a7P K R x H1
theorem UX{l:Expr}{tl:TE}(hl:PE X l tl):PI X tg l (Mn X.K tl):=by
 intro pins s O H R I h;refine aV (hl pins s O H _ I h) λv s1 ⟨x,H1,I1,r1,q1⟩=>?_;obtain⟨a,e,⟨xs,hq⟩,q⟩:=q1;subst e;cases r1;obtain⟨its,rv,p,hz⟩:=I1.list hq;refine vU p.isList ?_;refine⟨s1.heap.objs.size,[s1.heap.objs.size],_,_,H1,Z,I1.kept (t':=s1.toks) λb o e=>bL _ e,Rb a _,⟨_,cK _ Z,Z,Z⟩,λb hb=>?_,q⟩;have e:b=s1.heap.objs.size:=by simpa using hb
 subst e;exact I1.lK (bj _) (I1.aW.fresh (bj _))
theorem US{l:Expr}{tl:TE}(hl:PE X l tl):PI X tg l (Mm X.K tl):=by
 intro pins s O H R I h;refine aV (hl pins s O H _ I h) λv s1 ⟨x,H1,I1,r1,q1⟩=>?_;obtain⟨a,e,⟨xs,hq⟩,q⟩:=q1;subst e;cases r1;obtain⟨its,rv,p,hz⟩:=I1.tuple hq;refine wpAny_pyIter_tuple (show s1.heap.IsTuple a its.toArray from p) ?_;refine⟨s1.heap.objs.size,[s1.heap.objs.size],_,_,H1,Z,I1.kept (t':=s1.toks) λb o e=>bL _ e,R6 a _,⟨_,cK _ Z,Z,Z⟩,λb hb=>?_,q⟩;have e:b=s1.heap.objs.size:=by simpa using hb
 subst e;exact I1.lK (bj _) (I1.aW.fresh (bj _))
theorem Kl{pins:List (Addr×Obj)}{O:St}{H:Hp}{s:ae}{R:It->Hp->Prop}{E:Value->ae->Prop}{lo hi:Int}{t u v:Tok}{tk:Nat}(I:Inv X pins O H s)(h1:-(2^62)<=lo)(h2:lo<2^62)(h3:-(2^62)<=hi)(h4:hi<2^62) (q:R (mV lo (hi-lo).toNat) H):wpAny (model X.prog X.w) X.A (pyIter (.ref s.heap.objs.size)) (zG X pins O tg R) E {s with heap:=s.heap.push {cls:=.type "range",data:=.fields #[.int lo t,.int hi u,.int 1 v]},toks:=tk}:=by
 refine wpAny_pyIter_range (IsRange.new ..) (small_one h1 h2 h3 h4) ?_;have I1:Inv X pins O H {s with heap:=s.heap.push {cls:=.type "range",data:=.fields #[.int lo t,.int hi u,.int 1 v]},toks:=tk}:=I.kept λb o e=>bL _ e;refine⟨(s.heap.push {cls:=.type "range",data:=.fields #[.int lo t,.int hi u,.int 1 v]}).objs.size,[(s.heap.push {cls:=.type "range",data:=.fields #[.int lo t,.int hi u,.int 1 v]}).objs.size],_,_,H,Z,I1.kept (t':=tk) λb o e=>bL _ e,R9 _ lo (hi-lo).toNat,?_,λb hb=>?_,q⟩
 ·have e1:lo+((0:Nat):Int)*1=lo:=by simp
  have e2:(((hi-lo).toNat:Nat):Int)-((0:Nat):Int)=Builtin.Range.rangeSize lo hi 1:=by rw[rangeSize_one];split<;>lia
  show IsRangeIter _ _ (lo+((0:Nat):Int)*1) ((((hi-lo).toNat:Nat):Int)-((0:Nat):Int)) 1;rw[e1,e2];exact cK _ rfl
 ·have e:b=(s.heap.push {cls:=.type "range",data:=.fields #[.int lo t,.int hi u,.int 1 v]}).objs.size:=by simpa using hb
  subst e;exact I1.lK (bj _) (I1.aW.fresh (bj _))
inductive a7T(R:It->Hp->Prop)(vs:List V)(H1:Hp):Prop |mk (j:Int)(h0:vs=[.int j])(h1:-(2^62)<=j)(h2:j<2^62)(h3:R (mV 0 j.toNat) H1)
def Zo(ta:TA):TI:=λO H R=>ta O H λvs H1=>a7T R vs H1
inductive a7S(R:It->Hp->Prop)(vs:List V)(H1:Hp):Prop |mk (i:Int)(j:Int)(h0:vs=[.int i,.int j])(h1:(-(2^62)<=i/\i<2^62/\-(2^62)<=j/\j<2^62))(h2:R (mV i (j-i).toNat) H1)
def Zn(ta:TA):TI:=λO H R=>ta O H λvs H1=>a7S R vs H1
theorem pj{a:Expr}{ta:TA}{p pos:Pos}(hg:Gl X "range")(hm:X.mg "range"=none)(ha:PA X [a] ta)(hs:autoParam (starEach [a] X.env=[(false,eval a X.env)]) r8_._auto_1):PI X tg (.Call (.Name "range" p) [a] [] pos) (Zo ta):=by intro pins s O H R I h;refine Call_ (lD I hg hm boot_range (qA (aV (ha pos pins s O H _ I h) λus s1 ⟨vs,H1,I1,r1,q1⟩=>?_) hs Z));obtain⟨j,e,q1,q2,q⟩:=q1;subst e;cases r1 with |cons r rr=>cases rr;obtain⟨t,rfl⟩:=r;exact call_range_1 (Kl I1 au au q1 q2 (by simpa using q))
theorem UW{a b:Expr}{ta:TA}{p pos:Pos}(hg:Gl X "range")(hm:X.mg "range"=none)(ha:PA X [a,b] ta)(hs:autoParam (starEach [a,b] X.env=[(false,eval a X.env),(false,eval b X.env)]) r8_._auto_1)(fL:autoParam (starEach [b] X.env=[(false,eval b X.env)]) r8_._auto_1): PI X tg (.Call (.Name "range" p) [a,b] [] pos) (Zn ta):=by intro pins s O H R I h;refine Call_ (lD I hg hm boot_range (qA (aV (ha pos pins s O H _ I h) λus s1 ⟨vs,H1,I1,r1,q1⟩=>?_) (by rw[hs,fL]) (by rw[fL];rfl)));obtain⟨i,j,e,⟨q1,q2,q3,q4⟩,q⟩:=q1;subst e;cases r1 with |cons r rr=>cases rr with |cons r' rr=>cases rr;obtain⟨t,rfl⟩:=r;obtain⟨t',rfl⟩:=r';exact call_range_2 (Kl I1 q1 q2 q3 q4 q)
def RZ(wi:TI)(g:TG)(tb:TS):TS:=λD O H=>wi O H λJ H1=>∃W:Nat->Nat->St->Hp->Prop,(∃m,W 0 m O H1)/\∀i m O H,W i m O H->(J.stop i H/\D.nx O H)\/(J.go i H/\∃N:St->Hp->Prop,(∀σ' H',N σ' H'->∃m',m'<m/\W (i+1) m' σ' H')/\∀x H',J.hV i H x H'->g x O H' λσ2 H2=>tb {D with nx:=N,ct:=N,bk:=D.nx} σ2 H2)
def qP(fp:List Addr)(h:Heap):List (Addr×Obj):=fp.filterMap λb=>(h.get? b).map λo=>(b,o)
theorem rE{fp:List Addr}{h:Heap}{b:Addr}{o:Obj}(hb:b∈fp)(e:h.get? b=some o):(b,o)∈qP fp h:=iM.mpr ⟨b,hb,by rw[e];rfl⟩
theorem Xe{fp:List Addr}{h:Heap}{p:Addr×Obj}(hp:p∈qP fp h):p.1∈fp/\h.get? p.1=some p.2:=by obtain⟨b,hb,e⟩:=iM.mp hp;cases q:h.get? b with |none=>rw[q]at e;cases e |some o=>rw[q]at e;have e':(b,o)=p:=cW e;subst e';exact⟨hb,q⟩
theorem Inv.pinned{pins:List (Addr×Obj)}{O:St}{H:Hp}{s:ae}{fp:List Addr}(I:Inv X pins O H s)(hf:∀b∈fp,jz X pins H b)(ho:∀b∈fp,∃o,s.heap.get? b=some o/\∀v,o.data≠ .cell v):Inv X (pins++qP fp s.heap) O H s:=I.KD λp hp=>(iO.mp hp).elim (λz=>I.pin p (jf _ z)) λz=>by obtain⟨hb,e⟩:=Xe z;obtain⟨f0,f1,f2,_⟩:=hf p.1 hb;obtain⟨o,e',d⟩:=ho p.1 hb;rw[e]at e';cases e';exact⟨e,f0,f1,f2,d⟩
theorem Inv.tH{pins pl:List (Addr×Obj)}{O:St}{H:Hp}{s:ae}(I:Inv X (pins++pl) O H s):Inv X pins O H s:=I.KD λp hp=>I.pin p (jf _ (Gq _ hp))
theorem kg{iter:Expr}{body:List Stmt}{wi:TI}{g:TG}{tb:TS}{pos:Pos}(hp:PassesOwn (model X.prog X.w) X.A X.env X.xe)(hc:X.calm=true)(hi:PI X tg iter wi)(hg:PG X tg g)(hb:eY X body tb) (hs:autoParam (∀x,foldedSetIterable iter X.env x=pure x) f8_._auto_1):PS X (.For tg iter body [] pos) (RZ wi g tb):=by
 intro pins s O H D I h;refine wpAny_For (aV (hi pins s O H _ I h) λv s1 h1=>aV h1 λyf s2 h2=>?_) hs;obtain⟨it,fp,tn,J,H2,e,I2,T,oS,f2,W,⟨m0,w0⟩,turn⟩:=h2;subst e;have jZ:∀{H':Hp},(∀b∈fp,H' b=none)->∀b∈fp,jz X pins H' b:=λhn b hb=>⟨hn b hb,(f2 b hb).2⟩;refine codeAny_forLoop_any (λn s'=>∃i σ' H',Inv X pins σ' H' s'/\tn i s'.heap/\(∀b∈fp,H' b=none)/\W i n σ' H') ?_ m0 ⟨0,O,H2,I2,oS,λb hb=>(f2 b hb).1,w0⟩;rintro n s3 ⟨i,σ3,H3,I3,Hx,yQ,w3⟩;rcases turn i n σ3 H3 w3 with⟨stop,qn⟩|⟨go,N,hN,step⟩
 ·refine sT hp (aV (T.done X Z Z Z hc i pins s3 σ3 H3 X.xe I3 (jZ yQ) Hx stop) λr s4 ⟨hr,I4⟩=>?_)
  subst hr;exact vW ⟨σ3,H3,I4,qn⟩
 ·refine sT hp (aV (T.item X Z Z Z hc i pins s3 σ3 H3 X.xe I3 (jZ yQ) Hx go) λr s4 ⟨u,hr,h4⟩=>?_)
  subst hr;refine sT hp (aV h4 λ_ s5 ⟨x,H5,I5,r5,y5,m5,kK⟩=>?_);have I5':=I5.pinned (jZ kK) (T.obj _ _ m5);refine sT hp (aV (hg _ s5 σ3 H5 x u _ I5' r5 (step x H5 y5)) λ_ s6 ⟨σ6,H6,I6,q6⟩=>?_);refine sT hp (aV (hb _ s6 σ6 H6 _ I6 q6) λf s7 q7=>?_);have again:∀{σ7:St}{H7:Hp},Inv X (pins++qP fp s5.heap) σ7 H7 s7->N σ7 H7->∃m,m<n/\∃i σ' H',Inv X pins σ' H' s7/\tn i s7.heap/\(∀b∈fp,H' b=none)/\W i m σ' H':=λ{σ7 H7} I7 n7=>by obtain⟨m',hm,w7⟩:=hN σ7 H7 n7;refine⟨m',hm,i+1,σ7,H7,I7.tH,T.keep _ _ _ m5 λb hb o e=>(I7.pin (b,o) (jf _ (jf _ (rE hb e)))).1,λb hb=>?_,w7⟩;obtain⟨o,e,d⟩:=T.obj _ _ m5 b hb;exact(I7.pin (b,o) (jf _ (jf _ (rE hb e)))).2.1
  cases f with |next=>obtain⟨σ7,H7,I7,n7⟩:=q7;exact again I7 n7 |cont=>obtain⟨σ7,H7,I7,n7⟩:=q7;exact again I7 n7 |brk=>obtain⟨σ7,H7,I7,q7⟩:=q7;exact⟨σ7,H7,I7.tH,q7⟩ |ret v=>obtain⟨x7,σ7,H7,I7,r7,q7⟩:=q7;exact⟨x7,σ7,H7,I7.tH,r7,q7⟩
end
theorem Nd{K:aa}{a:Addr}{xs:List V}{g:TG}{tb:TS}{D:Ends}{O:St}{H:Hp}(Pv:Nat->St->Hp->Prop)(h0:Pv 0 O H)(hl:∀i O H,i<=xs.length->Pv i O H->aG K H a xs) (hs:∀i x O H,xs[i]? =some x->Pv i O H->g x O H λσ2 H2=>tb {D with nx:=Pv (i+1),ct:=Pv (i+1),bk:=D.nx} σ2 H2)(hd:∀O H,Pv xs.length O H->D.nx O H): ∃W:Nat->Nat->St->Hp->Prop,(∃m,W 0 m O H)/\∀i m O H,W i m O H->((sN K a).stop i H/\D.nx O H)\/((sN K a).go i H/\∃N:St->Hp->Prop,(∀σ' H',N σ' H'->∃m',m'<m/\W (i+1) m' σ' H')/\∀x H',(sN K a).hV i H x H'->g x O H' λσ2 H2=>tb {D with nx:=N,ct:=N,bk:=D.nx} σ2 H2):=by
 refine⟨λi m O H=>m=xs.length-i/\i<=xs.length/\Pv i O H,⟨xs.length,by simp,dS _,h0⟩,?_⟩;rintro i m O H ⟨rfl,hi,p⟩;have q:=hl i O H hi p;by_cases bT:i<xs.length
 ·refine .inr ⟨⟨xs,xs[i],q,by simp[bT]⟩,Pv (i+1),λσ' H' p'=>⟨xs.length-(i+1),au,Z,bT,p'⟩,λx H' y=>?_⟩
  obtain⟨e,y⟩:=y;subst e;exact hs i x O _ (y xs q) p
 ·have e:i=xs.length:=by lia
  subst e;exact .inl ⟨⟨xs,q,bj _⟩,hd O H p⟩
theorem yR{lo:Int}{n:Nat}{g:TG}{tb:TS}{D:Ends}{O:St}{H:Hp}(Pv:Nat->St->Hp->Prop)(h0:Pv 0 O H) (hs:∀i O H,i<n->Pv i O H->g (.int (lo+i)) O H λσ2 H2=>tb {D with nx:=Pv (i+1),ct:=Pv (i+1),bk:=D.nx} σ2 H2)(hd:∀O H,Pv n O H->D.nx O H): ∃W:Nat->Nat->St->Hp->Prop,(∃m,W 0 m O H)/\∀i m O H,W i m O H->((mV lo n).stop i H/\D.nx O H)\/((mV lo n).go i H/\∃N:St->Hp->Prop,(∀σ' H',N σ' H'->∃m',m'<m/\W (i+1) m' σ' H')/\∀x H',(mV lo n).hV i H x H'->g x O H' λσ2 H2=>tb {D with nx:=N,ct:=N,bk:=D.nx} σ2 H2):=by
 refine⟨λi m O H=>m=n-i/\i<=n/\Pv i O H,⟨n,by simp,dS _,h0⟩,?_⟩;rintro i m O H ⟨rfl,hi,p⟩;by_cases bT:i<n
 ·refine .inr ⟨bT,Pv (i+1),λσ' H' p'=>⟨n-(i+1),au,Z,bT,p'⟩,λx H' y=>?_⟩
  obtain⟨e,y⟩:=y;subst e y;exact hs i O _ bT p
 ·have e:i=n:=by lia
  subst e;exact .inl ⟨bj _,hd O H p⟩
theorem wR{c:TT}{tb:TS}{D:Ends}{O:St}{H:Hp}(Pv:St->Hp->Prop)(μ:St->Hp->Nat)(h0:Pv O H) (hs:∀O H,Pv O H->c O H λb H1=>if b=true then tb {D with nx:=λσ' H'=>Pv σ' H'/\μ σ' H'<μ O H,ct:=λσ' H'=>Pv σ' H'/\μ σ' H'<μ O H,bk:=D.nx} O H1 else D.nx O H1) (mono:∀O H Q Q',(∀b H1,Q b H1->Q' b H1)->c O H Q->c O H Q'):Hg c tb D O H:=by refine⟨λm O H=>m=μ O H/\Pv O H,⟨_,Z,h0⟩,?_⟩;rintro m O H ⟨rfl,p⟩;refine mono O H _ _ (λb H1 q=>?_) (hs O H p);cases b with |true=>exact⟨_,λσ' H' ⟨p',l⟩=>⟨_,l,Z,p'⟩,q⟩ |false=>exact q
abbrev R2:=V->V->Hp->VK->Prop
def cf(X:Cx)(f:Value->Value->Sem Value)(r:R2):Prop:=∀(pins:List (Addr×Obj))(s:ae)(O:St)(H:Hp)(x y:V)(v u:Value)(Q:VK),Inv X pins O H s->RelV x v->RelV y u->r x y H Q->wpAny (model X.prog X.w) X.A (f v u) (EP X pins O Q) X.xe s
def FR(X:Cx)(f:Value->Sem Value)(r:V->Hp->VK->Prop):Prop:=∀(pins:List (Addr×Obj))(s:ae)(O:St)(H:Hp)(x:V)(v:Value)(Q:VK),Inv X pins O H s->RelV x v->r x H Q->wpAny (model X.prog X.w) X.A (f v) (EP X pins O Q) X.xe s
def dI(X:Cx)(f:Value)(r:List V->Hp->VK->Prop):Prop:=∀(pins:List (Addr×Obj))(s:ae)(O:St)(H:Hp)(xs:List V)(us:List Value)(Q:VK),Inv X pins O H s->Vals xs us->r xs H Q->wpAny (model X.prog X.w) X.A (call f us) (EP X pins O Q) X.xe s
def a5Q(X:Cx)(r:V->Hp->(Bool->Hp->Prop)->Prop):Prop:=∀(pins:List (Addr×Obj))(s:ae)(O:St)(H:Hp)(x:V)(v:Value)(Q:Bool->Hp->Prop),Inv X pins O H s->RelV x v->r x H Q->wpAny (model X.prog X.w) X.A (truthy v) (TP X pins O Q) X.xe s
def tL(r:R2)(ta tb:TE):TE:=λO H Q=>ta O H λx H1=>tb O H1 λy H2=>r x y H2 Q
def Rx(r:V->Hp->VK->Prop)(ta:TE):TE:=λO H Q=>ta O H λx H1=>r x H1 Q
inductive IrI(C:Int->Int->Prop)(g:Int->Int->V)(x:V)(y:V)(H:Hp)(Q:VK):Prop |mk (i:_)(j:_)(h0:x= .int i)(h1:y= .int j)(h2:C i j)(h3:Q (g i j) H)
def rI(C:Int->Int->Prop)(g:Int->Int->V):R2:=λx y H Q=>IrI C g x y H Q
inductive a7H(g:Int->Int->V)(x:V)(y:V)(H:Hp)(Q:VK):Prop |mk (i:_)(j:_)(h0:x= .int i)(h1:y= .int j)(h2:Q (g i j) H)
def iS(g:Int->Int->V):R2:=λx y H Q=>a7H g x y H Q
inductive IrU(g:Int->V)(x:V)(H:Hp)(Q:VK):Prop |mk (i:_)(h0:x= .int i)(h1:Q (g i) H)
def rU(g:Int->V):V->Hp->VK->Prop:=λx H Q=>IrU g x H Q
section
variable {X:Cx}{a b c:Expr}{ta tb tc:TE}{pos:Pos}
theorem FF(ha:PE X a ta)(hb:PE X b tb){pins:List (Addr×Obj)}{s:ae}{O:St}{H:Hp}{R:V->V->Hp->Prop}(I:Inv X pins O H s) (h:ta O H λx H1=>tb O H1 λy H2=>R x y H2){Q:Value->ae->Prop}{f:Value->Value->Sem Value} (hf:∀v u s2 x y H2,Inv X pins O H2 s2->RelV x v->RelV y u->R x y H2->wpAny (model X.prog X.w) X.A (f v u) Q X.xe s2): wpAny (model X.prog X.w) X.A (eval a X.env) (λv s₁=>wpAny (model X.prog X.w) X.A (eval b X.env) (λu s₂=>wpAny (model X.prog X.w) X.A (f v u) Q X.xe s₂) X.xe s₁) X.xe s:=by refine aV (ha pins s O H _ I h) λv s1 ⟨x,H1,I1,r1,q1⟩=>?_;refine aV (hb pins s1 O H1 _ I1 q1) λu s2 ⟨y,H2,I2,r2,q2⟩=>?_;exact hf v u s2 x y H2 I2 r1 r2 q2
theorem aK{op:Operator}{r:R2}(ho:cf X (binaryOp op) r)(ha:PE X a ta)(hb:PE X b tb):PE X (.BinOp a op b pos) (tL r ta tb):=by intro pins s O H Q I h;exact wpAny_BinOp (FF ha hb I h λv u s2 x y H2 I2 rx ry q=>ho pins s2 O H2 x y v u Q I2 rx ry q)
theorem kh{op:UnaryOp}{r:V->Hp->VK->Prop}(ho:FR X (unaryOp op) r)(ha:PE X a ta):PE X (.UnaryOp op a pos) (Rx r ta):=by intro pins s O H Q I h;exact UnaryOp_ (aV (ha pins s O H _ I h) λv s1 ⟨x,H1,I1,r1,q1⟩=>ho pins s1 O H1 x v Q I1 r1 q1)
theorem uv{f:Value->Value->Sem Value}{C:Int->Int->Prop}{g:Int->Int->Int} (rule:∀(i j:Int)(t u:Tok)(s:ae)(Q:Value->ae->Prop)(E:Value->ae->Prop),C i j->Q (.int (g i j) s.toks) {s with toks:=s.toks+1}->wpAny (model X.prog X.w) X.A (f (.int i t) (.int j u)) Q E s): cf X f (rI C λi j=>.int (g i j)):=by intro pins s O H x y v u Q I rx ry h;obtain⟨i,j,rfl,rfl,hc,q⟩:=h;obtain⟨t,rfl⟩:=rx;obtain⟨t',rfl⟩:=ry;exact rule i j t t' s _ _ hc ⟨.int (g i j),H,I.tok _,⟨_,Z⟩,q⟩
theorem L9{f:Value->Value->Sem Value}{g:Int->Int->Int} (rule:∀(i j:Int)(t u:Tok)(s:ae)(Q:Value->ae->Prop)(E:Value->ae->Prop),Q (.int (g i j) s.toks) {s with toks:=s.toks+1}->wpAny (model X.prog X.w) X.A (f (.int i t) (.int j u)) Q E s): cf X f (iS λi j=>.int (g i j)):=by intro pins s O H x y v u Q I rx ry h;obtain⟨i,j,rfl,rfl,q⟩:=h;obtain⟨t,rfl⟩:=rx;obtain⟨t',rfl⟩:=ry;exact rule i j t t' s _ _ ⟨.int (g i j),H,I.tok _,⟨_,Z⟩,q⟩
theorem qX{f:Value->Value->Sem Value}{g:Int->Int->Bool} (rule:∀(i j:Int)(t u:Tok)(s:ae)(Q:Value->ae->Prop)(E:Value->ae->Prop),Q (.bool (g i j)) s->wpAny (model X.prog X.w) X.A (f (.int i t) (.int j u)) Q E s): cf X f (iS λi j=>.bl (g i j)):=by intro pins s O H x y v u Q I rx ry h;obtain⟨i,j,rfl,rfl,q⟩:=h;obtain⟨t,rfl⟩:=rx;obtain⟨t',rfl⟩:=ry;exact rule i j t t' s _ _ ⟨.bl (g i j),H,I,Z,q⟩
def a88(i j:Int):Prop:=0<=j/\j<=1000000/\i.natAbs<2^64
theorem dg:cf X (binaryOp .Add) (iS λi j=>.int (i+j)):=L9 λ_ _ _ _ _ _ _ q=>add_int q
theorem kl:cf X (binaryOp .Sub) (iS λi j=>.int (i-j)):=L9 λ_ _ _ _ _ _ _ q=>sub_int q
theorem me:cf X (binaryOp .Mod) (rI (λ_ j=>0<j) λi j=>.int (i%j)):=uv λi j _ _ _ _ _ hc q=>by have h1:(0:Int)<j:=hc;exact mod_int' au (by rw[Qs i au];exact q)
theorem uu:cf X (binaryOp .Pow) (rI a88 λi j=>.int (i^j.toNat)):=uv λ_ _ _ _ _ _ _ hc q=>pow_int_small hc.1 hc.2.1 hc.2.2 q
theorem QV{f:Value->Sem Value}{g:Int->Int} (rule:∀(i:Int)(t:Tok)(s:ae)(Q:Value->ae->Prop)(E:Value->ae->Prop),Q (.int (g i) s.toks) {s with toks:=s.toks+1}->wpAny (model X.prog X.w) X.A (f (.int i t)) Q E s): FR X f (rU λi=>.int (g i)):=by intro pins s O H x v Q I rx h;obtain⟨i,rfl,q⟩:=h;obtain⟨t,rfl⟩:=rx;exact rule i t s _ _ ⟨.int (g i),H,I.tok _,⟨_,Z⟩,q⟩
theorem jV:FR X (unaryOp .USub) (rU λi=>.int (-i)):=QV λ_ _ _ _ _ q=>neg_int q
end
def ID:V->V->Bool | .aY,.aY=>true| .aY,.int _=>true| .int _,.aY=>true| .aY,.bl _=>true| .bl _,.aY=>true| .aY,.str _=>true| .str _,.aY=>true | .int _,.int _=>true| .bl _,.bl _=>true| .str _,.str _=>true| .j9 _,.j9 _=>true | .int _,.str _=>true| .str _,.int _=>true| .bl _,.str _=>true| .str _,.bl _=>true |_,_=>false
def Ut:R2:=λx y H Q=>ID x y=true/\Q (.bl (decide (x=y))) H
def Um:R2:=λx y H Q=>ID x y=true/\Q (.bl (!decide (x=y))) H
theorem Od{i j:Int}:decide (V.int i=V.int j)=(i==j):=by rw[jh];simp
theorem Of{i j:Bool}:decide (V.bl i=V.bl j)=(i==j):=by rw[jh];simp
theorem Oc{i j:Str}:decide (V.str i=V.str j)=(i==j):=by rw[jh];simp
theorem Oe{i j:Array UInt8}:decide (V.j9 i=V.j9 j)=(i.toList==j.toList):=by rw[jh];cases i;cases j;simp
section
variable {X:Cx}{a b c:Expr}{ta tb tc:TE}{pos:Pos}
theorem cZ{pins:List (Addr×Obj)}{O:St}{H:Hp}{s:ae}{Q:VK}{k k':Bool}(I:Inv X pins O H s)(q:Q (.bl k) H)(e:k=k'):EP X pins O Q (.bool k') s:=by subst e;exact⟨.bl k,H,I,Z,q⟩
theorem qW:cf X (compareOp .Eq) Ut:=by intro pins s O H x y v u Q I rx ry h;obtain⟨hs,q⟩:=h;cases x with
 |aY=>cases rx;cases y with |aY=>cases ry;exact PySem.EqNone.eq_none_none (cZ I q (by simp)) |bl j=>cases ry;exact PySem.EqNone.eq_none_bool (cZ I q (by simp)) |int j=>obtain⟨t',rfl⟩:=ry;exact PySem.EqNone.eq_none_int (cZ I q (by simp)) |str j=>obtain⟨t',rfl⟩:=ry;exact PySem.EqNone.eq_none_str (cZ I q (by simp)) |_=>exact absurd (show false=true from hs) dc
 |bl i=>cases rx;cases y with |aY=>cases ry;exact PySem.EqNone.eq_bool_none (cZ I q (by simp)) |bl j=>cases ry;exact eq_bool (cZ I q Of) |str j=>obtain⟨t',rfl⟩:=ry;exact PySem.EqMixed.eq_bool_str (cZ I q (by simp)) |_=>exact absurd (show false=true from hs) dc
 |int i=>obtain⟨t,rfl⟩:=rx;cases y with |aY=>cases ry;exact PySem.EqNone.eq_int_none (cZ I q (by simp)) |int j=>obtain⟨t',rfl⟩:=ry;exact eq_int (cZ I q Od) |str j=>obtain⟨t',rfl⟩:=ry;exact PySem.EqMixed.eq_int_str (cZ I q (by simp)) |_=>exact absurd (show false=true from hs) dc
 |str i=>obtain⟨t,rfl⟩:=rx;cases y with |aY=>cases ry;exact PySem.EqNone.eq_str_none (cZ I q (by simp)) |bl j=>cases ry;exact PySem.EqMixed.eq_str_bool (cZ I q (by simp)) |int j=>obtain⟨t',rfl⟩:=ry;exact PySem.EqMixed.eq_str_int (cZ I q (by simp)) |str j=>obtain⟨t',rfl⟩:=ry;exact eq_str (cZ I q Oc) |_=>exact absurd (show false=true from hs) dc
 |j9 i=>obtain⟨t,rfl⟩:=rx;cases y with |j9 j=>obtain⟨t',rfl⟩:=ry;exact PySem.W.eq_bytes (cZ I q Oe) |_=>exact absurd (show false=true from hs) dc
 |_=>cases y<;>exact absurd (show false=true from hs) dc
theorem md:cf X (compareOp .NotEq) Um:=by intro pins s O H x y v u Q I rx ry h;obtain⟨hs,q⟩:=h;cases x with
 |aY=>cases rx;cases y with |aY=>cases ry;exact PySem.EqNone.ne_none_none (cZ I q (by simp)) |bl j=>cases ry;exact PySem.EqNone.ne_none_bool (cZ I q (by simp)) |int j=>obtain⟨t',rfl⟩:=ry;exact PySem.EqNone.ne_none_int (cZ I q (by simp)) |str j=>obtain⟨t',rfl⟩:=ry;exact PySem.EqNone.ne_none_str (cZ I q (by simp)) |_=>exact absurd (show false=true from hs) dc
 |bl i=>cases rx;cases y with |aY=>cases ry;exact PySem.EqNone.ne_bool_none (cZ I q (by simp)) |bl j=>cases ry;exact ne_bool (cZ I q (jT not Of)) |str j=>obtain⟨t',rfl⟩:=ry;exact PySem.EqMixed.ne_bool_str (cZ I q (by simp)) |_=>exact absurd (show false=true from hs) dc
 |int i=>obtain⟨t,rfl⟩:=rx;cases y with |aY=>cases ry;exact PySem.EqNone.ne_int_none (cZ I q (by simp)) |int j=>obtain⟨t',rfl⟩:=ry;exact ne_int (cZ I q (jT not Od)) |str j=>obtain⟨t',rfl⟩:=ry;exact PySem.EqMixed.ne_int_str (cZ I q (by simp)) |_=>exact absurd (show false=true from hs) dc
 |str i=>obtain⟨t,rfl⟩:=rx;cases y with |aY=>cases ry;exact PySem.EqNone.ne_str_none (cZ I q (by simp)) |bl j=>cases ry;exact PySem.EqMixed.ne_str_bool (cZ I q (by simp)) |int j=>obtain⟨t',rfl⟩:=ry;exact PySem.EqMixed.ne_str_int (cZ I q (by simp)) |str j=>obtain⟨t',rfl⟩:=ry;exact ne_str (cZ I q (jT not Oc)) |_=>exact absurd (show false=true from hs) dc
 |j9 i=>obtain⟨t,rfl⟩:=rx;cases y with |j9 j=>obtain⟨t',rfl⟩:=ry;exact PySem.W.ne_bytes (cZ I q (jT not Oe)) |_=>exact absurd (show false=true from hs) dc
 |_=>cases y<;>exact absurd (show false=true from hs) dc
theorem pB:cf X (compareOp .Lt) (iS λi j=>.bl (decide (i<j))):=qX λ_ _ _ _ _ _ _ q=>lt_int q
theorem qU:cf X (compareOp .LtE) (iS λi j=>.bl (decide (i<=j))):=qX λ_ _ _ _ _ _ _ q=>le_int q
theorem L7:cf X (compareOp .Gt) (iS λi j=>.bl (decide (j<i))):=qX λ_ _ _ _ _ _ _ q=>gt_int q
theorem CW:cf X (compareOp .GtE) (iS λi j=>.bl (decide (j<=i))):=qX λ_ _ _ _ _ _ _ q=>ge_int q
theorem Vr:cf X (compareOp .In) (λx y H Q=>∃i j,x= .str i/\y= .str j/\Q (.bl (!(Builtin.Str.occurrences j i 0 j.length 1).isEmpty)) H):=by intro pins s O H x y v u Q I rx ry h;obtain⟨i,j,rfl,rfl,q⟩:=h;obtain⟨t,rfl⟩:=rx;obtain⟨t',rfl⟩:=ry;exact in_str (cZ I q Z)
theorem xO:cf X (compareOp .Is) (λx y H Q=>y= .aY/\Q (.bl (decide (x= .aY))) H):=by intro pins s O H x y v u Q I rx ry h;obtain⟨rfl,q⟩:=h;cases ry;refine is_none_gen (cZ I q ?_);cases x<;>first |(cases rx;rfl) |(obtain⟨t,rfl⟩:=rx;rfl)
theorem L5:cf X (compareOp .IsNot) (λx y H Q=>y= .aY/\Q (.bl (!decide (x= .aY))) H):=by intro pins s O H x y v u Q I rx ry h;obtain⟨rfl,q⟩:=h;cases ry;refine isnot_none_gen (cZ I q ?_);cases x<;>first |(cases rx;rfl) |(obtain⟨t,rfl⟩:=rx;rfl)
theorem cf.or{f:Value->Value->Sem Value}{r r':R2}(h:cf X f r)(h':cf X f r'):cf X f (λx y H Q=>r x y H Q\/r' x y H Q):=by
 intro pins s O H x y v u Q I rx ry q;rcases q with q|q
 ·exact h pins s O H x y v u Q I rx ry q
 ·exact h' pins s O H x y v u Q I rx ry q
theorem bC(b:Expr){op:CmpOp}(h:autoParam (op≠ .In) q8_._auto_1)(h2:autoParam (op≠ .NotIn) q8_._auto_1):behindInMarks op b=false:=by
 have e1:(op==CmpOp.In)=false:=by cases op<;>first|rfl|exact absurd rfl h
 have e2:(op==CmpOp.NotIn)=false:=by cases op<;>first|rfl|exact absurd rfl h2
 cases b<;>simp[behindInMarks,e1,e2]
theorem jE{op:CmpOp}{r:R2}(ho:cf X (compareOp op) r)(ha:PE X a ta)(hb:PE X b tb)(hm:behindInMarks op b=false):PE X (.Compare a [op] [b] pos) (tL r ta tb):=by intro pins s O H Q I h;exact wpAny_Compare1 (FF ha hb I h λv u s2 x y H2 I2 rx ry q=>ho pins s2 O H2 x y v u Q I2 rx ry q) hm
inductive a64(Q:Bool->Hp->Prop)(x:V)(H':Hp):Prop |mk (k:_)(h0:x= .bl k)(h1:Q k H')
def Hi(t:TE):TT:=λO H Q=>t O H λx H'=>a64 Q x H'
theorem bI{op:CmpOp}{r:R2}(ho:cf X (compareOp op) r)(ha:PE X a ta)(hb:PE X b tb)(hm:behindInMarks op b=false):PT X (.Compare a [op] [b] pos) (Hi (tL r ta tb)):=by intro pins s O H Q I h;refine wpAny_isTrue_Compare1 (aV (ha pins s O H _ I h) λv s1 ⟨x,H1,I1,r1,q1⟩=>aV (hb pins s1 O H1 _ I1 q1) λu s2 ⟨y,H2,I2,r2,q2⟩=>aV (ho pins s2 O H2 x y v u _ I2 r1 r2 q2) λc s3 ⟨z,H3,I3,r3,k,e,q3⟩=>?_) hm;subst e;cases r3;exact lS ⟨H3,I3,q3⟩
inductive a6a(r':R2)(tc:TE)(O:St)(Q:VK)(y:V)(z:V)(H3:Hp):Prop |mk (k:_)(h0:z= .bl k)(h1:(if k=true then tc O H3 λw' H4=>r' y w' H4 Q else Q (.bl false) H3))
def Hs(r r':R2)(ta tb tc:TE):TE:=λO H Q=>ta O H λx H1=>tb O H1 λy H2=>r x y H2 λz H3=>a6a r' tc O Q y z H3
theorem KJ{op pC:CmpOp}{r r':R2}(ho:cf X (compareOp op) r)(kC:cf X (compareOp pC) r')(ha:PE X a ta)(hb:PE X b tb)(hc:PE X c tc) (hm:autoParam (lastMarks [op,pC] [b,c]=false) v8_._auto_1):PE X (.Compare a [op,pC] [b,c] pos) (Hs r r' ta tb tc):=by intro pins s O H Q I h;refine Compare_chain (aV (ha pins s O H _ I h) λv s1 ⟨x,H1,I1,r1,q1⟩=>chain_link (aV (hb pins s1 O H1 _ I1 q1) λu s2 ⟨y,H2,I2,r2,q2⟩=>aV (ho pins s2 O H2 x y v u _ I2 r1 r2 q2) λd s3 ⟨z,H3,I3,r3,k,e,q3⟩=>?_)) hm;subst e;cases r3;refine lS ?_;cases k with |false=>exact ite_ff ⟨.bl false,H3,I3,Z,q3⟩ |true=>exact ite_tt (chain_last (aV (hc pins s3 O H3 _ I3 q3) λw' s4 ⟨z',H4,I4,r4,q4⟩=>kC pins s4 O H4 y z' u w' Q I4 r2 r4 q4))
theorem UD{op pC:CmpOp}{r r':R2}(ho:cf X (compareOp op) r)(kC:cf X (compareOp pC) r')(ha:PE X a ta)(hb:PE X b tb)(hc:PE X c tc) (hm:autoParam (lastMarks [op,pC] [b,c]=false) v8_._auto_1):PT X (.Compare a [op,pC] [b,c] pos) (Hi (Hs r r' ta tb tc)):=by intro pins s O H Q I h;refine isTrue_chain (aV (ha pins s O H _ I h) λv s1 ⟨x,H1,I1,r1,q1⟩=>test_link (aV (hb pins s1 O H1 _ I1 q1) λu s2 ⟨y,H2,I2,r2,q2⟩=>aV (ho pins s2 O H2 x y v u _ I2 r1 r2 q2) λd s3 ⟨z,H3,I3,r3,k,e,q3⟩=>?_)) hm;subst e;cases r3;refine lS ?_;cases k with |false=>obtain⟨k',e',q'⟩:=q3;cases e';exact ite_ff ⟨H3,I3,q'⟩ |true=>refine ite_tt (test_last (aV (hc pins s3 O H3 _ I3 q3) λw' s4 ⟨z',H4,I4,r4,q4⟩=>aV (kC pins s4 O H4 y z' u w' _ I4 r2 r4 q4) λd' s5 ⟨z2,H5,I5,r5,k2,e2,q5⟩=>?_));subst e2;cases r5;exact lS ⟨H5,I5,q5⟩
def FT(K:aa)(x:V)(H:Hp)(k:Bool):Prop:=match x with | .aY=>k=false | .bl b=>k=b | .int i=>k=(i !=0) | .str y=>y.length<=sizeLine/\k=((y.length:Int) !=0) | .j9 y=>y.size<=sizeLine/\k=((y.size:Int) !=0) | .ref p=>(∃xs,aG K H p xs/\k= !xs.isEmpty)\/(∃xs,aP K H p xs/\k= !xs.isEmpty)\/∃cU,H p=some (.dK cU)/\k= !cU.isEmpty |_=>False
theorem Za{κ:Type}{cU:List (κ×V)}{vs:List (κ×Value)}(r:KV cU vs):(!vs.isEmpty)= !cU.isEmpty:=by cases r<;>rfl
theorem Mf{xs:List V}{its:List Value}(r:Vals xs its):(!its.toArray.isEmpty)= !xs.isEmpty:=by cases r<;>simp
theorem pJ:(sizeLine:Nat)<2^63:=by rw[sV];decide
theorem Rh:a5Q X (λx H Q=>∃k,FT X.K x H k/\Q k H):=by intro pins s O H x v Q I rx h;obtain⟨k,e,q⟩:=h;have hl:=pJ;have hs:sizeLine=16777216:=sV;cases x with |aY=>cases rx;have e':k=false:=e;subst e';exact truthy_none ⟨H,I,q⟩ |bl b=>cases rx;have e':k=b:=e;subst e';exact lS ⟨H,I,q⟩ |int i=>obtain⟨t,rfl⟩:=rx;have e':k=(i !=0):=e;subst e';exact PySem.P.truthy_int ⟨H,I,q⟩ |str y=>obtain⟨t,rfl⟩:=rx;obtain⟨hy,e'⟩:y.length<=sizeLine/\k=((y.length:Int) !=0):=e;subst e';exact PySem.P.truthy_str au ⟨H,I.tok _,q⟩ |j9 y=>obtain⟨t,rfl⟩:=rx;obtain⟨hy,e'⟩:y.size<=sizeLine/\k=((y.size:Int) !=0):=e;subst e';exact PySem.W.truthy_bytes au ⟨H,I.tok _,q⟩ |ref p=>
 cases rx;have e':(∃xs,aG X.K H p xs/\k= !xs.isEmpty)\/(∃xs,aP X.K H p xs/\k= !xs.isEmpty)\/∃cU,H p=some (.dK cU)/\k= !cU.isEmpty:=e;rcases e' with⟨xs,hx,e'⟩|⟨xs,hx,e'⟩|⟨cU,hx,e'⟩
 ·subst e'
  obtain⟨its,r,pl,hz⟩:=I.list hx;have hlen:=r.length;exact wpAny_truthy_list pl.isList (by simp only[dB];lia) ⟨H,I.tok _,by rw[Mf r];exact q⟩
 ·subst e'
  obtain⟨its,r,pl,hz⟩:=I.tuple hx;have hlen:=r.length;exact truthy_tuple pl (by simp only[dB];lia) ⟨H,I.tok _,by rw[Mf r];exact q⟩
 ·subst e'
  obtain⟨hz,hS,vs,r,m⟩:cU.length<=sizeLine/\(p==sysModules)=false/\∃vs,KV cU vs/\s.heap.DictOf (Dw X.prog X.w) p vs:=I.aW p _ hx;have hlen:cU.length=vs.length:=Paired.length r;exact wpAny_truthy_dict hS m au ⟨H,I.tok _,by rw[Za r];exact q⟩ |_=>exact(show False from e).elim
theorem UC(ha:PE X a ta)(he:∀whole,isTrue a X.env whole=(do let v<-whole;standAt a.pos;holding [v] (truthy v))): PT X a (λO H Q=>ta O H λx H'=>∃k,FT X.K x H' k/\Q k H'):=by intro pins s O H Q I h;exact isTrue_plain (aV (ha pins s O H _ I h) λv s1 ⟨x,H1,I1,r1,q1⟩=>Rh pins s1 O H1 x v Q I1 r1 q1) (he _)
theorem iU:cf X (binaryOp .Add) (λx y H Q=>∃i j,x= .str i/\y= .str j/\i.length+j.length<=sizeLine/\Q (.str (i++j)) H):=by intro pins s O H x y v u Q I rx ry h;obtain⟨i,j,rfl,rfl,hz,q⟩:=h;obtain⟨t,rfl⟩:=rx;obtain⟨t',rfl⟩:=ry;exact add_str (λt' tk=>⟨.str (i++j),H,I.tok _,⟨_,Z⟩,q⟩) hz
theorem vals1{x:V}{us:List Value}(r:Vals [x] us):∃u,us=[u]/\RelV x u:=by cases r with |cons r1 r2=>cases r2;exact⟨_,rfl,r1⟩
theorem vals2{x y:V}{us:List Value}(r:Vals [x,y] us):∃u w',us=[u,w']/\RelV x u/\RelV y w':=by cases r with |cons r1 r2=>cases r2 with |cons r3 r4=>cases r4;exact⟨_,_,rfl,r1,r3⟩
theorem lN:dI X (.builtin "abs") (λxs H Q=>∃i,xs=[.int i]/\Q (.int (if i<0 then-i else i)) H):=by intro pins s O H xs us Q I r h;obtain⟨i,rfl,q⟩:=h;obtain⟨u,rfl,t,rfl⟩:=vals1 r;exact call_abs_int λu tk=>⟨.int (if i<0 then-i else i),H,I.tok _,⟨_,Z⟩,q⟩
theorem a4Y(hc:X.calm=true):dI X (.builtin "max") (λxs H Q=>∃i j,xs=[.int i,.int j]/\Q (.int (if j>i then j else i)) H):=by
 intro pins s O H xs us Q I r h;obtain⟨i,j,rfl,q⟩:=h;obtain⟨u,w',rfl,⟨t,rfl⟩,⟨t',rfl⟩⟩:=vals2 r;refine max_two_ints (I.ok.hd hc) λh' tk k=>⟨_,H,I.kept k,?_,q⟩;by_cases hj:j>i
 ·rw[aR hj,aR hj];exact⟨_,Z⟩
 ·rw[aU hj,aU hj];exact⟨_,Z⟩
theorem Fy(hc:X.calm=true):dI X (.builtin "min") (λxs H Q=>∃i j,xs=[.int i,.int j]/\Q (.int (if j<i then j else i)) H):=by
 intro pins s O H xs us Q I r h;obtain⟨i,j,rfl,q⟩:=h;obtain⟨u,w',rfl,⟨t,rfl⟩,⟨t',rfl⟩⟩:=vals2 r;refine min_two_ints (I.ok.hd hc) λh' tk k=>⟨_,H,I.kept k,?_,q⟩;by_cases hj:j<i
 ·rw[aR hj,aR hj];exact⟨_,Z⟩
 ·rw[aU hj,aU hj];exact⟨_,Z⟩
end
structure qp(h:Heap)(x dx C:Addr)(mA:bf):Prop where
 obj:h.get? x=some (PySem.W.instObj C dx)
 ns:h.Ns1 dx mA
 ne:dx≠x
theorem LU{h:Heap}{dx:Addr}{mA:bf}(n:h.Ns1 dx mA):∃od,h.get? dx=some od/\∀name,PySem.W.lookIn name od=some (mA name):=by
 obtain⟨o,es,ep,ho,hd,hk,_,hm⟩:=n;refine⟨o,ho,λname=>?_⟩;have e:=hm name;unfold nsFind findBy at e;rw[<-Array.find?_toList]at e;unfold PySem.W.lookIn;rw[hd];dsimp only;split
 ·rename_i y q
  rw[q]at e;exact jT some e
 ·rename_i q
  rw[q]at e;have a:es.toList.any (·.refKey)=false:=by rw[List.any_eq_false];intro y hy;obtain⟨z,t,a0a⟩:=hk y (Array.mem_toList_iff.mp hy);simp[DictEntry.refKey,a0a]
  have a':¬es.toList.any (·.refKey)=true:=by rw[a];exact dc
  rw[aU a'];exact jT some e
theorem qp.look{h:Heap}{x dx C:Addr}{mA:bf}(I:qp h x dx C mA):∃od,PySem.W.InstAt h x (PySem.W.instObj C dx) C (some od)/\∀name,PySem.W.lookIn name od=some (mA name):=let⟨od,ho,hl⟩:=LU I.ns
 ⟨od,⟨I.obj,Z,Z,ho⟩,hl⟩
section
variable {prog:af}{w:World}{A:ai}{E:Value->ae->Prop}{s:ae}{K:aa}{x dx C f:Addr}{mA:bf}{name:Str}{v:Value}
theorem get_map{expr:Bool}{Q:Value->ae->Prop}(X:K.In s.heap)(I:qp s.heap x dx C mA)(hg:PySem.W.plainGet K C name=true)(hh:PySem.W.hasDictIn K C=true) (ha:PySem.W.findIn K (.ref C) name=some none)(hv:mA name=some v)(yo:PySem.W.handedIn v=true)(h:Q v {s with toks:=s.toks+1}): wpAny (model prog w) A (getAttr (.ref x) name expr) Q E s:=by obtain⟨od,J,hl⟩:=I.look;exact PySem.W.get_value X J (PQ hg).1 (PySem.W.findObj_own hh ha Z (by rw[hl,hv])) yo h
theorem a2f{pl:Sem Bool}{Q:Value×List Value->ae->Prop}(X:K.In s.heap)(I:qp s.heap x dx C mA)(hg:PySem.W.plainGet K C name=true) (hf:PySem.W.findIn K (.ref C) name=some (some (.ref f)))(ht:PySem.W.isFn K (.ref f)=true)(hv:mA name=none)(h:Q (.ref f,[.ref x]) s): wpAny (model prog w) A (getMethod (.ref x) name pl) Q E s:=by obtain⟨od,J,hl⟩:=I.look;exact PySem.W.method_fn X J (PQ hg).1 (PQ hg).2 hf (dr.mp ht) (by show(PySem.W.lookIn name od).map (·.isSome)=some false;rw[hl,hv];rfl) h
theorem SR{ns:List Str}{Q:Unit->ae->Prop}(X:K.In s.heap)(I:qp s.heap x dx C mA) (hs:PySem.W.findIn K (.ref C) "__setattr__"=some (some (.builtin "object.__setattr__")))(hp:PySem.W.plainOver K C=true)(ht:PySem.W.takerIn K C name=some none)(hh:PySem.W.hasDictIn K C=true) (hw:PySem.Within mA ns)(hsz:ns.length<=sizeLine) (h:∀h',qp h' x dx C (λy=>if y=name then some v else mA y)->Heap.SameBut dx s.heap h'->Q () {s with heap:=h',toks:=s.toks+2}): wpAny (model prog w) A (setAttr (.ref x) name v) Q E s:=by obtain⟨od,J,hl⟩:=I.look;refine PySem.W.set_plain X J hs (PySem.W.osa_open (s:={s with toks:=s.toks+1}) (r:=none) X J hp ht λb=>?_);obtain⟨cd,hc,pR⟩:=PY hh;have hx:s.heap.get? x=some ⟨.ref C,some dx,.plain,#[]⟩:=I.obj;refine aA (bw (aA (aA (wpAny_loadPart hx (aA (sY (s:={s with toks:=s.toks+1}) (PU X hc) ?_))))));rw[pR];refine bw (a:=some dx) (aA (bw (aA ?_)));refine wpAny_nsSet1 (s:={s with toks:=s.toks+1}) I.ns λh' rR fL=>?_;obtain⟨oD,esD,epD,ZW,hdD,hcD⟩:=rR.count (PySem.Within.cons name v hw);refine aA (wpAny_lookBehind ZW (by rw[hdD];exact pastItsLine_dict (fc hcD (by rw[gb];lia))) ?_);exact bw (h _ ⟨(fL.2 _ (iL I.ne)).trans I.obj,rR,I.ne⟩ fL)
theorem Yb{R:Result->ae->Prop}{vs:List Value}{kw:List (Str×Value)}(X:K.In s.heap)(hm:PySem.W.makesIn K C=true) (hi:PySem.W.findIn K (.ref C) "__init__"=some (some (.ref f)))(hf:PySem.W.typeIn K (.ref f)=some (.type "function")) (h:codeAny (model prog w) (A.under (.builtin "type.__call__" ⟨.ref C::vs,kw⟩)) (.call (.ref f) ⟨.ref (s.heap.objs.size+1)::vs,kw⟩) (PySem.W.InitBack (s.heap.objs.size+1) R) {s with heap:=(s.heap.push PySem.W.emptyDict).push (PySem.W.instObj C s.heap.objs.size)}): codeAny (model prog w) A (.call (.ref C) ⟨vs,kw⟩) R s:=by obtain⟨hh,g,d,t,os⟩:=s;exact PySem.W.make_core (PySem.W.makes_of X hm) (PySem.W.looks_findIn X hi) (λself=>PySem.W.bind_fn X self hf) (.inl Z) h
end
def gK(f:Str)(v:V):List (Str×V)->List (Str×V) |[]=>[(f,v)] |(g,x)::r=>if g=f then(g,v)::r else(g,x)::gK f v r
theorem LS(f g:Str)(v:V):∀fs:List (Str×V),(gK f v fs).lookup g=if g=f then some v else fs.lookup g
 |[]=>by
  show List.lookup g [(f,v)]=_;by_cases h:g=f
  ·have hb:(g==f)=true:=dr.mpr h
   simp only[List.lookup,hb,aR h]
  ·have hb:(g==f)=false:=G9.mpr h
   simp only[List.lookup,hb,aU h] |(k,x)::r=>by
  have ih:=LS f g v r;rw[show gK f v ((k,x)::r)=(if k=f then(k,v)::r else(k,x)::gK f v r)from rfl];by_cases hk:k=f
  ·rw[aR hk]
   by_cases h:g=k
   ·have hb:(g==k)=true:=dr.mpr h
    simp only[List.lookup,hb,aR (h.trans hk)]
   ·have hb:(g==k)=false:=G9.mpr h
    simp only[List.lookup,hb,aU (λe:g=f=>h (e.trans hk.symm))]
  ·rw[aU hk]
   by_cases h:g=k
   ·have hb:(g==k)=true:=dr.mpr h
    simp only[List.lookup,hb,aU (λe:g=f=>hk (h.symm.trans e))]
   ·have hb:(g==k)=false:=G9.mpr h
    simp only[List.lookup,hb];exact ih
theorem DM(f:Str)(v:V):∀fs:List (Str×V),f∈(gK f v fs).map (·.1)/\∀g,g∈fs.map (·.1)->g∈(gK f v fs).map (·.1)
 |[]=>⟨by simp[gK],λg h=>by simp at h⟩ |(k,x)::r=>by
  obtain⟨i1,i2⟩:=DM f v r;rw[show gK f v ((k,x)::r)=(if k=f then(k,v)::r else(k,x)::gK f v r)from rfl];by_cases hk:k=f
  ·rw[aR hk]
   subst hk;exact⟨by simp,λg h=>by simpa using h⟩
  ·rw[aU hk]
   refine⟨?_,λg h=>?_⟩
   ·rw[qD]
    exact t9 _ i1
   ·rw[qD]at h⊢
    rcases bS.mp h with e|e
    ·exact bS.mpr (.inl e)
    ·exact t9 _ (i2 g e)
theorem M0(f:Str)(v:V):∀fs:List (Str×V),(gK f v fs).length<=fs.length+1
 |[]=>by simp[gK] |(k,x)::r=>by
  have ih:=M0 f v r;rw[show gK f v ((k,x)::r)=(if k=f then(k,v)::r else(k,x)::gK f v r)from rfl];by_cases hk:k=f
  ·rw[aR hk,gb,gb];lia
  ·rw[aU hk,gb,gb];lia
theorem lQ.some_of{v:V}{o:Option Value}(r:lQ (some v) o):∃u,o=some u/\RelV v u:=by cases o with |none=>exact(show False from r).elim |some u=>exact⟨u,Z,r⟩
theorem lQ.none_of{o:Option Value}(r:lQ none o):o=none:=by cases o with |none=>rfl |some u=>exact(show False from r).elim
theorem a0X{v:V}{u:Value}(r:RelV v u):PySem.W.handedIn u=true:=by cases v with |aY=>cases(show u=Value.none from r);rfl |bl b=>cases(show u=Value.bool b from r);rfl |int i=>obtain⟨t,e⟩:=(show∃t,u=Value.int i t from r);cases e;rfl |str x=>obtain⟨t,e⟩:=(show∃t,u=Value.str x t from r);cases e;rfl |j9 b=>obtain⟨t,e⟩:=(show∃t,u=Value.bytes b t from r);cases e;rfl |yT b=>obtain⟨t,e⟩:=(show∃t,u=Value.float b t from r);cases e;rfl |ref a=>cases(show u=Value.ref a from r);rfl |ty n=>cases(show u=Value.type n from r);rfl
section
variable {P:af}{w:World}{H H':Hp}{h h':Heap}{a C dx:Addr}{fs rZ:List (Str×V)}
theorem DT(aW:da P w H h)(e:H a=some (.ins C dx fs)):∃mA,qp h a dx C mA/\(∀f,lQ (fs.lookup f) (mA f))/\PySem.Within mA (fs.map (·.1))/\fs.length<=1000/\H dx=some (.own a):=by obtain⟨d,z,ne,ob,mA,n,r,q⟩:=(show eR P w H h a (.ins C dx fs)from aW a _ e);exact⟨mA,⟨ob,n,ne⟩,r,q,z,d⟩
end
structure hU(K:aa)(C:Addr):Prop where
 pg:PySem.W.plainGet K C Str.empty=true
 hd:PySem.W.hasDictIn K C=true
 po:PySem.W.plainOver K C=true
 sa:PySem.W.findIn K (.ref C) "__setattr__"=some (some (.builtin "object.__setattr__"))
theorem hU.get{K:aa}{C:Addr}(c:hU K C)(f:Str):PySem.W.plainGet K C f=true:=c.pg
def gu(K:aa)(C:Addr)(f:Str):Prop:=PySem.W.findIn K (.ref C) f=some none
theorem gu.Rr{K:aa}{C:Addr}{f:Str}(n:gu K C f):PySem.W.takerIn K C f=some none:=by unfold PySem.W.takerIn;rw[show PySem.W.findIn K (.ref C) f=some none from n];rfl
structure Meth(K:aa)(C:Addr)(m:Str)(f:Addr):Prop where
 at_:PySem.W.findIn K (.ref C) m=some (some (.ref f))
 fn:PySem.W.isFn K (.ref f)=true
 kp:PySem.W.keepIn K (.ref f)=true
section
variable {X:Cx}{pins:List (Addr×Obj)}{O:St}{H:Hp}{s:ae}{a C dx:Addr}{fs:List (Str×V)}{f:Str}{v:V}{A:ai}{E:Value->ae->Prop}
theorem a2e{b:Bool}{Q:Value->ae->Prop}(I:Inv X pins O H s)(e:H a=some (.ins C dx fs))(c:hU X.K C)(n:gu X.K C f)(l:fs.lookup f=some v) (h:∀u s',Inv X pins O H s'->RelV v u->Q u s'):wpAny (model X.prog X.w) A (getAttr (.ref a) f b) Q E s:=by obtain⟨mA,a9E,r,_,_,_⟩:=DT I.aW e;obtain⟨u,hu,ru⟩:=lQ.some_of (v:=v) (o:=mA f) (by rw[<-l];exact r f);exact get_map I.dE a9E (c.get f) c.hd n hu (a0X ru) (h u _ (I.tok _) ru)
theorem MW{m:Str}{g:Addr}{pl:Sem Bool}{Q:Value×List Value->ae->Prop}(I:Inv X pins O H s)(e:H a=some (.ins C dx fs))(c:hU X.K C)(k:Meth X.K C m g)(l:fs.lookup m=none) (h:Q (.ref g,[.ref a]) s):wpAny (model X.prog X.w) A (getMethod (.ref a) m pl) Q E s:=by obtain⟨mA,a9E,r,_,_,_⟩:=DT I.aW e;have hn:mA m=none:=lQ.none_of (by rw[<-l];exact r m);exact a2f I.dE a9E (c.get m) k.at_ k.fn hn h
theorem SQ{y:V}{u:Value}{Q:Unit->ae->Prop}(I:Inv X pins O H s)(e:H a=some (.ins C dx fs))(c:hU X.K C)(n:gu X.K C f)(hl:fs.length<1000)(ry:RelV y u) (h:∀s',Inv X pins O (upd H a (.ins C dx (gK f y fs))) s'->Q () s'):wpAny (model X.prog X.w) A (setAttr (.ref a) f u) Q E s:=by
 obtain⟨mA,a9E,r,wi,_,ho⟩:=DT I.aW e;have hz:(fs.map (·.1)).length<=sizeLine:=by rw[bA,sV];lia
 refine SR I.dE a9E c.sa c.po n.Rr c.hd wi hz λh' O' sb=>h _ ?_;have hd:∃o,h'.get? dx=some o:=let⟨o,_,_,e',_⟩:=O'.ns;⟨o,e'⟩;refine I.write (x:=a) (e:=dx) (by rw[e];exact True.intro) (.inr ho) (λb q hb z=>(sb.2 b hb).trans z) hd ?_;refine⟨by rw[bh a9E.ne];exact ho,?_,a9E.ne,O'.obj,_,O'.ns,λg=>?_,λg hg=>?_⟩
 ·have:=M0 f y fs;lia
 ·show lQ ((gK f y fs).lookup g) (if g=f then some u else mA g)
  rw[LS];by_cases q:g=f
  ·rw[aR q,aR q];exact ry
  ·rw[aU q,aU q];exact r g
 ·by_cases q:g=f
  ·rw[q];exact(DM f y fs).1
  ·refine(DM f y fs).2 g (wi g λz=>hg ?_)
   show(if g=f then some u else mA g)=none;rw[aU q];exact z
theorem Inv.made(I:Inv X pins O H s):Inv X pins O (upd (upd H s.heap.objs.size (.own (s.heap.objs.size+1))) (s.heap.objs.size+1) (.ins C s.heap.objs.size [])) {s with heap:=(s.heap.push PySem.W.emptyDict).push (PySem.W.instObj C s.heap.objs.size)}:=by
 have e1:(s.heap.push PySem.W.emptyDict).get? s.heap.objs.size=some PySem.W.emptyDict:=cK s.heap rfl;have e2:((s.heap.push PySem.W.emptyDict).push (PySem.W.instObj C s.heap.objs.size)).get? (s.heap.objs.size+1)=some (PySem.W.instObj C s.heap.objs.size):=by have:=cK (s.heap.push PySem.W.emptyDict) (o:=PySem.W.instObj C s.heap.objs.size) rfl;rwa [lY]at this
 have e3:(s.heap.push PySem.W.emptyDict).Ns s.heap.objs.size (λ_=>none):=⟨PySem.W.emptyDict,#[],_,e1,Z,(λe he=>absurd he (by simp)),λ_=>rfl⟩;have I1:=I.laid (a:=s.heap.objs.size) (o:=.own (s.heap.objs.size+1)) (h':=s.heap.push PySem.W.emptyDict) (t':=s.toks) (λb u q=>bL _ q) (bj _) ⟨_,e1⟩;refine I1.laid (a:=s.heap.objs.size+1) (o:=.ins C s.heap.objs.size []) (t':=s.toks) (λb u q=>bL _ q) (Nat.le_of_eq (lY _ _)) ?_;have ne:s.heap.objs.size≠s.heap.objs.size+1:=dA (Qd _);refine⟨by rw[bh ne,bU],dS _,ne,e2,λ_=>none,(Heap.Ns1.of_empty e3).at λo q=>bL _ q,λ_=>True.intro,λy hy=>absurd rfl hy⟩
theorem OV{prog:af}{w:World}{env:Env}{e:Expr}{f:Str}{pos:Pos}{s:ae}{Q:Value->ae->Prop}(hb:attributeBase e f env (eval e env)=eval e env) (h:wpAny (model prog w) A (eval e env) (λo s₁=>wpAny (model prog w) A (getAttr o f true) Q E s₁) E s):wpAny (model prog w) A (eval (.Attribute e f pos) env) Q E s:=Attribute_any_ h (by rw[arm_eval_Attribute,hb])
end
section
variable {X:Cx}{o e value:Expr}{f:Str}{pos pos' oO:Pos}{ta tv:TE}
end
section
variable {X:Cx}{pins:List (Addr×Obj)}{O:St}{H:Hp}{s:ae}{A:ai}{E:Value->ae->Prop}{Q:Value->ae->Prop}{c:Value}{b:Bool}
end
structure cu(k:Nat)(A:ai):Prop where
 hd:A.handled=none
 dp:A.depth+3*k+5<recursionLimit
 un:A.units+16*k+200<cLine
theorem cu.mono{j k:Nat}{A:ai}(r:cu k A)(h:j<=k):cu j A:=⟨r.hd,by have:=r.dp;lia,by have:=r.un;lia⟩
theorem cu.deeper{k:Nat}{A:ai}(r:cu (k+1) A)(env:Env):cu k (A.deeper env):=⟨r.hd,by have:=r.dp;show A.depth+1+3*k+5<_;lia,by have:=r.un;show A.units+3+16*k+200<_;lia⟩
theorem Yc{A:ai}{C:Addr}{us:List Value}{kw:List (Str×Value)}:(A.under (.builtin "type.__call__" ⟨.ref C::us,kw⟩)).depth=A.depth+1:=by first|rfl|simp[Around.under,Code.weight,Code.isCreation,Code.isGuard,Code.isCaller,Code.frames,Code.isFrame,guardIds]
theorem Ya{A:ai}{C:Addr}{us:List Value}{kw:List (Str×Value)}:(A.under (.builtin "type.__call__" ⟨.ref C::us,kw⟩)).units=A.units+1:=by first|rfl|simp[Around.under,Code.cUnits,Code.frames,Code.isFrame]
theorem cu.make{k:Nat}{A:ai}(r:cu (k+1) A)(C:Addr)(us:List Value)(kw:List (Str×Value)):cu k (A.under (.builtin "type.__call__" ⟨.ref C::us,kw⟩)):=⟨r.hd,by have:=r.dp;rw[Yc];omega,by have:=r.un;rw[Ya];omega⟩
theorem cu.depth{k:Nat}{A:ai}(r:cu k A):A.depth<recursionLimit:=by have:=r.dp;lia
theorem cu.units{k:Nat}{A:ai}(r:cu k A):A.units+64<cLine:=by have:=r.un;lia
def x6:TA:=λ_ H Q=>Q [] H
def S4(ta:TE)(tr:TA):TA:=λO H Q=>ta O H λx H1=>tr O H1 λxs H2=>Q (x::xs) H2
section
variable {X:Cx}{e:Expr}{es:List Expr}{te:TE}{t:TA}{pos:Pos}
theorem aw:PA X [] x6:=λ_ _ _ _ H Q I h=>Calls.spliced_nil ⟨[],H,I,.nil,h⟩
theorem ak(ha:PE X e te)(hr:PA X es t)(hs:autoParam (starEach (e::es) X.env=(false,eval e X.env)::starEach es X.env) r8_._auto_1):PA X (e::es) (S4 te t):=by intro pos pins s O H Q I h;rw[hs];show wpAny _ _ (spliced ((false,eval e X.env)::backTo pos (starEach es X.env))) _ _ s;refine Calls.spliced_cons (aV (ha pins s O H _ I h) λu s1 ⟨x,H1,I1,r1,q1⟩=>?_);exact aV (hr pos pins s1 O H1 _ I1 q1) λus s2 ⟨xs,H2,I2,r2,q2⟩=>⟨x::xs,H2,I2,.cons r1 r2,q2⟩
end
abbrev Sp:=List V->Hp->VK->XK->Prop
abbrev iJ:=List Env->Hp->ae->XK->Value->ae->Prop
structure mY(P:af)(w:World)(K:aa)(mg:bf)(ao:Heap)(A:ai)(outer:List Env)(s:ae)(H:Hp):Prop where
 frames:A.frames=some outer
 mod:Mod K mg ao
 bs:∀b o,ao.get? b=some o->s.heap.get? b=some o/\H b=none
 jx:ao.objs.size<=s.heap.objs.size
 gW:s.heap.FunFrames ao outer
 kJ:∀b∈cR outer,H b=none
 aW:da P w H s.heap
 bare:AllBare s.gens
def CE(outer:List Env)(P:af)(w:World)(H:Hp)(s:ae)(Q:VK)(u:Value)(s':ae):Prop:=∃v H',s'.os=s.os/\AllBare s'.gens/\Un (cR outer) [] H H' s.heap s'.heap/\da P w H' s'.heap/\RelV v u/\Q v H'
def CR(CX:iJ)(outer:List Env)(P:af)(w:World)(H:Hp)(s:ae)(Q:VK)(E:XK)(r:Result)(s':ae):Prop:=match r with | .ok (.ret u)=>CE outer P w H s Q u s' | .ok _=>False | .error e=>CX outer H s E e s'
structure f9(P:af)(w:World)(K:aa)(mg:bf)(ao:Heap)(CX:iJ)(k:Nat)(f:Addr)(fd:FuncData)(ps:List Str)(sp:Sp):Prop where
 len:∀vs H Q E,sp vs H Q E->vs.length=ps.length
 run:∀(A:ai)(outer:List Env)(s:ae)(H:Hp)(args:Args)(us:List Value)(vs:List V)(Q:VK)(E:XK),cu k A->mY P w K mg ao A outer s H->BindsTo s fd args (ps.zip us)->Vals vs us->sp vs H Q E->codeAny (model P w) A (.call (.ref f) args) (CR CX outer P w H s Q E) s
theorem mY.make{P:af}{w:World}{K:aa}{mg:bf}{ao:Heap}{A:ai}{outer:List Env}{s:ae}{H:Hp}(e:mY P w K mg ao A outer s H)(C:Addr)(us:List Value)(kw:List (Str×Value)): mY P w K mg ao (A.under (.builtin "type.__call__" ⟨.ref C::us,kw⟩)) outer s H:=⟨by first|exact e.frames|(simpa[Around.under,Code.envs,Code.isFrame,pushEnvs]using e.frames),e.mod,e.bs,e.jx,e.gW,e.kJ,e.aW,e.bare⟩
section
variable {X:Cx}{pins:List (Addr×Obj)}{O:St}{H:Hp}{s s':ae}
theorem Inv.yY(I:Inv X pins O H s):mY X.prog X.w X.K X.mg X.ao X.A X.stack s H:=⟨I.ok.frames,I.ok.mod,I.bs,fc I.ok.jx I.sz,I.stack,I.qJ,I.aW,I.bare⟩
theorem Inv.after{Q:VK}{u:Value}(I:Inv X pins O H s)(h:CE X.stack X.prog X.w H s Q u s'):EP X pins O Q u s':=by obtain⟨v,H',os,bare,un,aW,r,q⟩:=h;obtain⟨hh,g,d,t,qT⟩:=s';obtain rfl:qT=s.os:=os;exact⟨v,H',I.call (h':=hh) (g':=g) (d':=d) (t':=t) (ch:=[]) un aW bare (λb z=>absurd z (by simp)),r,q⟩
end
def S6(sp:Sp)(f7:List V)(E:XK)(t:TA):TE:=λO H Q=>t O H λvs H1=>sp (vs++f7) H1 Q E
inductive sP(C:Addr)(m:Str)(sp:Sp)(f7:List V)(E:XK)(t:TA)(O:St)(Q:VK)(x:V)(H1:Hp):Prop |mk (a:_)(dx:_)(fs:_)(h0:x= .ref a)(h1:H1 a=some (.ins C dx fs))(h2:fs.lookup m=none)(h3:t O H1 λvs H2=>sp (x::(vs++f7)) H2 Q E)
def Hn(C:Addr)(m:Str)(sp:Sp)(f7:List V)(E:XK)(ta:TE)(t:TA):TE:=λO H Q=>ta O H λx H1=>sP C m sp f7 E t O Q x H1
def RT(C:Addr)(sp:Sp)(f7:List V)(E:XK)(t:TA):TE:=λO H Q=>t O H λvs H1=>∀x dx,H1 x=none->H1 dx=none->dx≠x->sp (.ref x::(vs++f7)) (upd (upd H1 dx (.own x)) x (.ins C dx [])) (λv H2=>v= .aY/\Q (.ref x) H2) E
def Binds(K:aa)(fd:FuncData)(ps:List Str)(ds:List Value):Prop:=∀(s:ae)(us:List Value),K.In s.heap->(us++ds).length=ps.length->BindsTo s fd ⟨us,[]⟩ (ps.zip (us++ds))
theorem Binds.all{K:aa}{fd:FuncData}{ps:List Str}(h:∀us:List Value,us.length=ps.length->bindArgs fd ⟨us,[]⟩=pure (ps.zip us)):Binds K fd ps []:=λs us _ hl=>by rw[lV]at hl⊢;exact .of_eq (h us hl)
def Passes(CX:iJ)(X:Cx)(E:XK):Prop:=∀(pins:List (Addr×Obj))(O:St)(H:Hp)(s:ae)(e:Value)(s':ae),Inv X pins O H s->CX X.stack H s E e s'->X.xe e s'
section
variable {X:Cx}{CX:iJ}{k:Nat}{f C:Addr}{fd:FuncData}{ps:List Str}{sp:Sp}{f7:List V}{ds:List Value}{E:XK}{x m:Str}{p pos apos:Pos}{e o:Expr}{es:List Expr}{ta:TE}{t:TA}
theorem xD{pins:List (Addr×Obj)}{O:St}{H:Hp}{s:ae}{Q:VK}{us:List Value}{vs:List V}(F:f9 X.prog X.w X.K X.mg X.ao CX k f fd ps sp)(hr:cu k X.A)(hb:Binds X.K fd ps ds)(hd:Vals f7 ds)(hx:Passes CX X E) (I:Inv X pins O H s)(r:Vals vs us)(h:sp (vs++f7) H Q E):wpAny (model X.prog X.w) X.A (call (.ref f) us) (EP X pins O Q) X.xe s:=by
 have r2:Vals (vs++f7) (us++ds):=r.append hd;have hl:(us++ds).length=ps.length:=by rw[<-r2.length];exact F.len _ _ _ _ h
 refine ow (we (F.run X.A X.stack s H ⟨us,[]⟩ (us++ds) (vs++f7) Q E hr I.yY (hb s us I.dE hl) r2 h) λr s' hq=>?_);cases r with |error e=>exact hx pins O H s e s' I hq |ok fl=>cases fl with |ret u=>exact I.after hq |next=>exact False.elim hq |brk=>exact False.elim hq |cont=>exact False.elim hq
theorem Vc(F:f9 X.prog X.w X.K X.mg X.ao CX k f fd ps sp)(hr:cu k X.A)(hg:Gl X x)(hm:X.mg x=some (.ref f))(hk:PySem.W.keepIn X.K (.ref f)=true)(hb:Binds X.K fd ps ds)(hd:Vals f7 ds)(hx:Passes CX X E) (ha:PA X (e::es) t)(fz:autoParam ((x==("__debug__":Str))=false) q8_._auto_1)(he:autoParam (starEach (e::es) X.env=(false,eval e X.env)::starEach es X.env) r8_._auto_1)(dR:autoParam ((backTo pos (starEach es X.env)).any (·.1)=false) r8_._auto_1): PE X (.Call (.Name x p) (e::es) [] pos) (S6 sp f7 E t):=by intro pins s O H Q I h;refine vX (mz I hg hm ?_ fz);refine zW (h₀:=X.ao) I.ok.mod.kz hk (aV (ha pos pins s O H _ I h) λus s1 ⟨vs,H1,I1,r,q⟩=>⟨I1.dE,?_⟩) he dR;exact xD F hr hb hd hx I1 r q
theorem KI{pl:Sem Bool}(he:PE X o ta)(c:hU X.K C)(hm:Meth X.K C m f)(F:f9 X.prog X.w X.K X.mg X.ao CX k f fd ps sp)(hr:cu k X.A)(hb:Binds X.K fd ps ds)(hd:Vals f7 ds)(hx:Passes CX X E)(ha:PA X (e::es) t) (fk:autoParam (starEach (e::es) X.env=(false,eval e X.env)::starEach es X.env) r8_._auto_1)(dR:autoParam ((backTo pos (starEach es X.env)).any (·.1)=false) r8_._auto_1) (ht:eval (.Call (.Attribute o m apos) (e::es) [] pos) X.env=(do
 let ov<-eval o X.env
 standAt apos.atName
 let(f,first)<-holding [ov] (getMethod ov m pl)
 callWith pos f first (backTo pos (starEach (e::es) X.env)) (backToKw pos (keywordEach [] X.env))):=by rfl): PE X (.Call (.Attribute o m apos) (e::es) [] pos) (Hn C m sp f7 E ta t):=by
 intro pins s O H Q I h;refine PySem.W.methodCall_KW (pl:=pl) (aV (he pins s O H _ I h) λu s1 ⟨x,H1,I1,rx,a,dx,fs,ex,ea,l,q⟩=>?_) ht;subst ex;obtain rfl:u=Value.ref a:=rx;refine MW I1 ea c hm l ?_;refine zW (first:=[.ref a]) (h₀:=X.ao) I.ok.mod.kz hm.kp (aV (ha pos pins s1 O H1 _ I1 q) λus s2 ⟨vs,H2,I2,r,q2⟩=>⟨I2.dE,?_⟩) fk dR;exact xD (us:=.ref a::us) (vs:=.ref a::vs) F hr hb hd hx I2 (.cons Z r) q2
theorem V4{pl:Sem Bool}(he:PE X o ta)(c:hU X.K C)(hm:Meth X.K C m f)(F:f9 X.prog X.w X.K X.mg X.ao CX k f fd ps sp)(hr:cu k X.A)(hb:Binds X.K fd ps ds)(hd:Vals f7 ds)(hx:Passes CX X E) (ht:eval (.Call (.Attribute o m apos) [] [] pos) X.env=(do
 let ov<-eval o X.env
 standAt apos.atName
 let(f,first)<-holding [ov] (getMethod ov m pl)
 callWith pos f first (backTo pos (starEach [] X.env)) (backToKw pos (keywordEach [] X.env))):=by rfl): PE X (.Call (.Attribute o m apos) [] [] pos) (Hn C m sp f7 E ta x6):=by
 intro pins s O H Q I h;refine PySem.W.methodCall_KW (pl:=pl) (aV (he pins s O H _ I h) λu s1 ⟨x,H1,I1,rx,a,dx,fs,ex,ea,l,q⟩=>?_) ht;subst ex;obtain rfl:u=Value.ref a:=rx;refine MW I1 ea c hm l ?_;exact PySem.W.callWith_K0 (first:=[.ref a]) I1.dE hm.kp (xD (us:=[.ref a]) (vs:=[.ref a]) F hr hb hd hx I1 (.cons rfl .nil) q)
structure Mk(K:aa)(C f:Addr):Prop where
 makes:PySem.W.makesIn K C=true
 init:PySem.W.findIn K (.ref C) "__init__"=some (some (.ref f))
 fn:PySem.W.isFn K (.ref f)=true
 kp:PySem.W.keepIn K (.ref C)=true
theorem Tz{pins:List (Addr×Obj)}{O:St}{H:Hp}{s:ae}{Q:VK}{us:List Value}{vs:List V}(M:Mk X.K C f)(F:f9 X.prog X.w X.K X.mg X.ao CX k f fd ps sp)(hr:cu (k+1) X.A)(hb:Binds X.K fd ps ds)(hd:Vals f7 ds) (hx:Passes CX X E)(I:Inv X pins O H s)(r:Vals vs us) (h:∀x dx,H x=none->H dx=none->dx≠x->sp (.ref x::(vs++f7)) (upd (upd H dx (.own x)) x (.ins C dx [])) (λv H2=>v= .aY/\Q (.ref x) H2) E): wpAny (model X.prog X.w) X.A (call (.ref C) us) (EP X pins O Q) X.xe s:=by
 have hq:=h (s.heap.objs.size+1) s.heap.objs.size (I.aW.fresh (Nat.le_succ _)) (I.aW.fresh (bj _)) (dA (Qd _));have I2:=Inv.made (C:=C) I;have r2:Vals (V.ref (s.heap.objs.size+1)::(vs++f7)) (Value.ref (s.heap.objs.size+1)::(us++ds)):=.cons Z (r.append hd);have hl:(Value.ref (s.heap.objs.size+1)::us++ds).length=ps.length:=by have e:=r2.length;rw[F.len _ _ _ _ hq]at e;exact e.symm
 refine ow (Yb (f:=f) I.dE M.makes M.init (dr.mp M.fn) (we (F.run _ X.stack _ _ ⟨Value.ref (s.heap.objs.size+1)::us,[]⟩ (Value.ref (s.heap.objs.size+1)::(us++ds)) _ _ E (hr.make C us []) (I2.yY.make C us []) (hb _ (Value.ref (s.heap.objs.size+1)::us) I2.dE hl) r2 hq) λr s' ju=>?_));cases r with |error e=>exact hx pins O _ _ e s' I2 ju |ok fl=>cases fl with |ret u=>obtain⟨v,H',I3,rv,ev,q3⟩:=I2.after ju;subst ev;exact⟨rv,⟨V.ref (s.heap.objs.size+1),H',I3,Z,q3⟩⟩ |next=>exact False.elim ju |brk=>exact False.elim ju |cont=>exact False.elim ju
theorem V5(M:Mk X.K C f)(F:f9 X.prog X.w X.K X.mg X.ao CX k f fd ps sp)(hr:cu (k+1) X.A)(hg:Gl X x)(hm:X.mg x=some (.ref C))(hb:Binds X.K fd ps ds)(hd:Vals f7 ds)(hx:Passes CX X E) (ha:PA X (e::es) t)(fz:autoParam ((x==("__debug__":Str))=false) q8_._auto_1)(he:autoParam (starEach (e::es) X.env=(false,eval e X.env)::starEach es X.env) r8_._auto_1)(dR:autoParam ((backTo pos (starEach es X.env)).any (·.1)=false) r8_._auto_1): PE X (.Call (.Name x p) (e::es) [] pos) (RT C sp f7 E t):=by intro pins s O H Q I h;refine vX (mz I hg hm ?_ fz);refine zW (h₀:=X.ao) I.ok.mod.kz M.kp (aV (ha pos pins s O H _ I h) λus s1 ⟨vs,H1,I1,r,q⟩=>⟨I1.dE,?_⟩) he dR;exact Tz M F hr hb hd hx I1 r q
end
section
variable {X:Cx}{CX:iJ}{k:Nat}{f C:Addr}{fd:FuncData}{ps ks:List Str}{sp:Sp}{E:XK}{x m:Str}{p pos apos a8S:Pos}{e o:Expr}{es:List Expr}{kws:List Keyword}{te ta:TE}{t tk:TA}{nm:Option Str}
variable {g:List Value->List Value->List Value}{gV:List V->List V->List V}
end
structure bc(N P:List Str)(sc:Scope):Prop where
 kind:sc.kind= .function
 co:sc.isCoroutine=false
 gen:sc.isGenerator=false
 nd:N.Nodup
 pre:N.take P.length=P
 par:∀x∈P,sc.names.lookup x=some .local\/sc.names.lookup x=some .cell
 Xv:∀y∈sc.names,y.2≠ .free
theorem OJ{kindOf:Str->Option NameKind}{x:Str}:∀{binds:List (Str×Value)}{m:bf},(∀v,(x,v)∉binds)->bindL kindOf binds m x=m x
 |[],_,_=>rfl |(n,v)::r,m,h=>by
  unfold bindL;rw[OJ λw hw=>h w (t9 _ hw)];split
  ·have:x≠n:=by rintro rfl;exact h v Gp
   simp[this]
  ·rfl
theorem OL{kindOf:Str->Option NameKind}{x:Str}:∀{binds:List (Str×Value)}{m:bf},(∀v,(x,v)∉binds)->bindC kindOf binds m x=m x
 |[],_,_=>rfl |(n,v)::r,m,h=>by
  unfold bindC;rw[OL λw hw=>h w (t9 _ hw)];split
  ·rfl
  ·have:x≠n:=by rintro rfl;exact h v Gp
   simp[this]
theorem OK{kindOf:Str->Option NameKind}{x:Str}{v:Value}:∀{P:List Str}{vs:List Value}{i:Nat}{m:bf},P.Nodup->P[i]? =some x->vs[i]? =some v->kindOf x=some .local->bindL kindOf (P.zip vs) m x=some v |[],_,_,_,_,h,_,_=>by simp at h |_::_,[],_,_,_,_,h,_=>by simp at h |p::P,w::vs,0,m,nd,h1,h2,hk=>by simp at h1 h2;subst h1;subst h2;show bindL kindOf ((p,w)::P.zip vs) m p=_;unfold bindL;rw[OJ λv hv=>(Gm.mp nd).1 (qC hv).1,aR hk];simp |p::P,w::vs,i+1,m,nd,h1,h2,hk=>by show bindL kindOf ((p,w)::P.zip vs) m x=_;unfold bindL;exact OK (i:=i) (Gm.mp nd).2 (by simpa using h1) (by simpa using h2) hk
theorem OM{kindOf:Str->Option NameKind}{x:Str}{v:Value}:∀{P:List Str}{vs:List Value}{i:Nat}{m:bf},P.Nodup->P[i]? =some x->vs[i]? =some v->kindOf x≠some .local->bindC kindOf (P.zip vs) m x=some v |[],_,_,_,_,h,_,_=>by simp at h |_::_,[],_,_,_,_,h,_=>by simp at h |p::P,w::vs,0,m,nd,h1,h2,hk=>by simp at h1 h2;subst h1;subst h2;show bindC kindOf ((p,w)::P.zip vs) m p=_;unfold bindC;rw[OL λv hv=>(Gm.mp nd).1 (qC hv).1,aU hk];simp |p::P,w::vs,i+1,m,nd,h1,h2,hk=>by show bindC kindOf ((p,w)::P.zip vs) m x=_;unfold bindC;exact OM (i:=i) (Gm.mp nd).2 (by simpa using h1) (by simpa using h2) hk
def start(N:List Str)(vs:List V):St:=vs.map some++List.replicate (N.length-vs.length) none
def fB(CX:iJ)(P:af)(w:World)(K:aa)(mg:bf)(ao:Heap)(N:List Str)(qual:Str)(scope:Scope)(f:Addr)(cd:Value)(A:ai)(outer:List Env)(s:ae)(H:Hp)(E:XK):Cx where
 prog:=P
 w:=w
 K:=K
 mg:=mg
 ao:=ao
 A:=A.deeper (envOfC qual scope s.heap.objs.size f cd)
 N:=N
 s₀:=s
 H₀:=H
 env:=envOfC qual scope s.heap.objs.size f cd
 outer:=outer
 stack:=envOfC qual scope s.heap.objs.size f cd::outer
 ex:=[]
 calm:=true
 fn:=λ_=>true
 pn:=[]
 xe:=λe s'=>wpAny (model P w) (A.deeper (envOfC qual scope s.heap.objs.size f cd)) (leaving (envOfC qual scope s.heap.objs.size f cd) e) (λ_ Cd=>CX outer H s E e Cd) (λe' Cd=>CX outer H s E e' Cd) s'
theorem OD{sc:Scope}{n:Nat}{x:Str}(h:sc.names.lookup x=some .cell):∃c,(cellsFrom n sc.names []).lookup x=some c:=by have q:=Ge sc.names n [] (.inl h);exact Option.isSome_iff_exists.mp q
theorem DS{CX:iJ}{P:af}{w:World}{K:aa}{mg:bf}{ao:Heap}{N ps:List Str}{qual:Str}{scope:Scope}{f:Addr}{cd:Value}{A:ai}{outer:List Env}{s s1:ae}{H:Hp}{E:XK}{us:List Value}{vs:List V} (S:bc N ps scope)(hd:A.handled=none)(e0:mY P w K mg ao A outer s H)(hl:vs.length=ps.length)(r:Vals vs us) (x:InCallC s s.heap.objs.size (bindL (envOfC qual scope s.heap.objs.size f cd).kindOf (ps.zip us) λ_=>none) (cellsFrom (s.heap.objs.size+1) scope.names []) (bindC (envOfC qual scope s.heap.objs.size f cd).kindOf (ps.zip us) λ_=>none) s1): Inv (fB CX P w K mg ao N qual scope f cd A outer s H E) [] (start N vs) H s1:=by
 have dR:ps.length<=N.length:=by have:=jT List.length S.pre;rw[tf]at this;lia
 obtain⟨h1,tk,rfl,hk⟩:=x.done;have uB:∀b:Addr,b∉(fB CX P w K mg ao N qual scope f cd A outer s H E).ex:=λb z=>absurd (show b∈([]:List Addr)from z) (by simp);refine⟨⟨e0.mod,S.kind,Z,Z,bj _,λy z c h1 h2=>?_,λy hy=>?_,λy c _ h=>?_,λ_=>hd,Around.frames_deeper e0.frames,.inr ⟨Z,Z⟩,λb z=>absurd z (uB b),e0.bs,e0.jx,λb _ _=>uB b,λb z=>absurd z (uB b),e0.gW,e0.kJ⟩,rfl,e0.bare,Un.kept hk,⟨_,x.toInCall.ns,λi y v h1 h2 h3=>?_⟩,λy c h=>⟨_,x.cell y c h⟩,e0.aW.fresh (bj _),λy c h=>?_,λp hp=>absurd (show p∈([]:List (Addr×Obj))from hp) (by simp),e0.aW.kept hk,?_⟩
 ·exact name_of_addr x.apart (zV h1) (zV h2)
 ·have hy:scope.names.lookup y=some .cell\/scope.names.lookup y=some .free:=hy
  rcases hy with hy|hy
  ·exact OD hy
  ·exact absurd Z (S.Xv _ (zV hy))
 ·exact A0 (x.above y c (zV h))
 ·have hi:i<vs.length:=by
   unfold start at h2;by_cases hi:i<vs.length
   ·exact hi
   ·rw[A5 (by simpa using hi)]at h2
    rw[List.getElem?_replicate]at h2;split at h2<;>cases h2
  have ha:vs[i]? =some v:=by unfold start at h2;rw[wC (by simpa using hi),bK]at h2;cases e:vs[i]? with |none=>rw[e]at h2;cases h2 |some a=>rw[e]at h2;cases h2;rfl
  obtain⟨u,hu,rv⟩:=r.get ha;have hp:ps[i]? =some y:=by rw[<-S.pre,List.getElem?_take_of_lt au];exact h1
  have LA:ps.Nodup:=by rw[<-S.pre];exact S.nd.sublist (List.take_sublist _ _)
  refine⟨u,rv,?_⟩;rcases S.par y (fg hp)with k|k
  ·exact .inl ⟨k,OK LA hp hu k⟩
  ·obtain⟨c,e⟩:=OD (n:=s.heap.objs.size+1) k
   refine .inr ⟨.inl k,c,e,?_⟩;have q:=x.cell y c e;rw[OM LA hp hu (by show scope.names.lookup y≠_;rw[k];decide)]at q;exact q
 ·exact e0.aW.fresh (A0 (x.above y c (zV h)))
 ·unfold start
  show _=N.length;rw[fQ,bA,List.length_replicate]
  lia
theorem Nf{CX:iJ}{P:af}{w:World}{K:aa}{mg:bf}{ao:Heap}{k:Nat}{f:Addr}{name qual:Str}{params:Arguments}{body:List Stmt}{scope:Scope}{dV kV doc pm aF ct oc:Value}{an od:Option Addr} {dX:Array (Option Value)}{N ps:List Str}{sp:Sp}(lk:K.lookup f=some ⟨oc,od,.func (PySem.W.fnOf name qual params body scope dV kV doc pm an aF ct),dX⟩)(e9:PySem.W.codeIn K aF qual=true)(S:bc N ps scope) (len:∀vs H Q E,sp vs H Q E->vs.length=ps.length) (fA:∀(A:ai)(outer:List Env)(s:ae)(H:Hp)(vs:List V)(Q:VK)(E:XK),cu k (A.deeper (envOfC qual scope s.heap.objs.size f aF))->sp vs H Q E->∃t,eY (fB CX P w K mg ao N qual scope f aF A outer s H E) body t/\t {nx:=λ_ H'=>Q .aY H',rt:=Q} (start N vs) H): f9 P w K mg ao CX (k+1) f (PySem.W.fnOf name qual params body scope dV kV doc pm an aF ct) ps sp:=by
 refine⟨len,λA outer s H args us vs Q E hr e0 hb r eP=>?_⟩;have hl:=len _ _ _ _ eP;have KX:K.In s.heap:=e0.mod.kz.keeps λb o e=>(e0.bs b o e).1;have lim:s.heap.NoLimit:=e0.mod.nolimit.keeps λb o e=>(e0.bs b o e).1;have kE:∀y∈ps.zip us,scope.names.lookup y.1=some .local\/(scope.names.lookup y.1=some .cell/\((cellsFrom (s.heap.objs.size+1) scope.names []).lookup y.1).isSome=true):=λ⟨n,v⟩ hy=>by
  rcases S.par n (qC hy).1 with q|q
  ·exact .inl q
  ·exact .inr ⟨q,Ge _ _ _ (.inl q)⟩
 refine PH hr.depth (KX _ _ lk) Z S.co S.gen Z (PX KX e9) (hb _ _ _ _ ?_);refine PB S.kind kE λenv he s1 x=>?_;subst he;refine⟨lim.keeps x.toInCall.keep,codeAny_func ?_⟩;obtain⟨t,ht,hq⟩:=fA A outer s H vs Q E (hr.deeper _) eP;have I:Inv (fB CX P w K mg ao N qual scope f aF A outer s H E) [] (start N vs) H s1:=DS S hr.hd e0 hl r x;refine fP (ht [] s1 (start N vs) H _ I hq) (λfl s' hs=>?_) λe s' hs=>hs;have fin:∀{σ':St}{H':Hp}{v:V}{u:Value},Inv (fB CX P w K mg ao N qual scope f aF A outer s H E) [] σ' H' s'->RelV v u->Q v H'->CE outer P w H s Q u s':=λ{σ' H' v u} J rv q=>⟨v,H',J.os,J.bare,J.ao,J.aW,rv,q⟩;cases fl with |ret u=>obtain⟨v,σ',H',J,rv,q⟩:=hs;exact fin J rv q |next=>obtain⟨σ',H',J,q⟩:=hs;exact fin (v:=V.aY) (u:=Value.none) J Z q |brk=>obtain⟨_,_,_,q⟩:=hs;exact False.elim q |cont=>obtain⟨_,_,_,q⟩:=hs;exact False.elim q
section
variable {X:Cx}{x:Str}{p pos:Pos}{e:Expr}{es:List Expr}{t:TA}{id T:String}{r:List V->Hp->VK->Prop}
def x9(r:List V->Hp->VK->Prop)(t:TA):TE:=λO H Q=>t O H λvs H1=>r vs H1 Q
theorem ck(hc:dI X (.builtin id) r)(hg:Gl X x)(hm:X.mg x=none)(hv:bootBuiltins x=some (.builtin id))(ha:PA X (e::es) t)(hn:autoParam (x≠"__name__") q8_._auto_1)(fz:autoParam ((x==("__debug__":Str))=false) q8_._auto_1) (he:autoParam (starEach (e::es) X.env=(false,eval e X.env)::starEach es X.env) r8_._auto_1)(dR:autoParam ((backTo pos (starEach es X.env)).any (·.1)=false) r8_._auto_1):PE X (.Call (.Name x p) (e::es) [] pos) (x9 r t):=by intro pins s O H Q I h;refine vX (lD I hg hm hv ?_ hn fz);exact PyProof.Rows.callWith_builtin1 (aV (ha pos pins s O H _ I h) λus s1 ⟨vs,H1,I1,r1,q1⟩=>hc pins s1 O H1 vs us Q I1 r1 q1) he dR
theorem cT(hc:dI X (.type T) r)(hg:Gl X x)(hm:X.mg x=none)(hv:bootBuiltins x=some (.type T))(ha:PA X (e::es) t)(hn:autoParam (x≠"__name__") q8_._auto_1)(fz:autoParam ((x==("__debug__":Str))=false) q8_._auto_1) (he:autoParam (starEach (e::es) X.env=(false,eval e X.env)::starEach es X.env) r8_._auto_1)(dR:autoParam ((backTo pos (starEach es X.env)).any (·.1)=false) r8_._auto_1):PE X (.Call (.Name x p) (e::es) [] pos) (x9 r t):=by intro pins s O H Q I h;refine vX (lD I hg hm hv ?_ hn fz);exact qA (aV (ha pos pins s O H _ I h) λus s1 ⟨vs,H1,I1,r1,q1⟩=>hc pins s1 O H1 vs us Q I1 r1 q1) he dR
end
end _L
namespace _H
open PySem PyProof.Rows
section
open PySem.SeqAt
open PySem.AutoSeq1 (wpAny_loadPart')
open PySem.MeetsSeq PySem.MeetsSeq2 PySem.MeetsSeq3
end
section
variable {prog:af}{w:World}{A:ai}{E:Value->ae->Prop}{s:ae}
theorem a4S{t b:Addr}{vs ws:List Value}{Q:Value->ae->Prop}(ht:IsTup s.heap t vs.toArray)(hb:IsTup s.heap b ws.toArray)(hv:vs≠[]) (h1:ws=[]->Q (.ref t) s)(h2:ws≠[]->Q (.ref s.heap.objs.size) {s with heap:=s.heap.push {cls:=.type "tuple",data:=.seq (vs++ws).toArray}}) (hsz:vs.length+ws.length<=sizeLine):wpAny (model prog w) A (binaryOp .Add (.ref t) (.ref b)) Q E s:=by
 obtain⟨⟨cls,dd,data,sl⟩,ho,hc,n,hd⟩:=id ht;obtain⟨⟨Oz,sC,data2,nA⟩,lF,fm,n2,hd2⟩:=id hb;simp only at hc hd fm hd2;subst hc hd fm hd2;have e:vs.toArray++ws.toArray=(vs++ws).toArray:=by simp
 by_cases hw:ws=[]
 ·exact concat_meets ⟨_,ho,Z⟩ ⟨_,lF,Z⟩ noFill_tuple_add seq_tuple_add PZ Q3 (Q4 _ _) (tuple_addW1 t b vs.toArray ws.toArray n n2 dd sC sl nA (by simpa using hv) (by simp[hw])) ⟨ho,lF,h1 hw⟩
 ·refine concat_meets ⟨_,ho,Z⟩ ⟨_,lF,Z⟩ noFill_tuple_add seq_tuple_add PZ Q3 (Q4 _ _) (tuple_addW2 t b vs.toArray ws.toArray n n2 dd sC sl nA (by simpa using hv) (by simpa using hw) (by rw[dB,dB];exact hsz)) ⟨ho,lF,?_⟩;rw[e];exact h2 hw
def bQ(n d:Nat):Option Int->Nat |none=>d |some v=>if v<0 then(v+(n:Int)).toNat else min v.toNat n
theorem BA (n d:Nat):bQ n d none=d:=rfl
theorem BB(n d k:Nat):bQ n d (some (k:Int))=min k n:=by show(if(k:Int)<0 then((k:Int)+(n:Int)).toNat else min (k:Int).toNat n)=min k n;rw[aU au,Qp]
theorem Tg(n d:Nat)(hd:d<=n)(o:Option Int):bQ n d o<=n:=by cases o with |none=>exact hd |some v=>
 show(if v<0 then(v+(n:Int)).toNat else min v.toNat n)<=n;by_cases hv:v<0
 ·rw[aR hv];lia
 ·rw[aU hv];exact Nat.min_le_right _ _
theorem Fw(v:Int)(n d:Nat):(if v<0 then max (v+(n:Int)) 0 else min v (n:Int))=((bQ n d (some v):Nat):Int):=by
 show(if v<0 then max (v+(n:Int)) 0 else min v (n:Int))=(((if v<0 then(v+(n:Int)).toNat else min v.toNat n):Nat):Int);by_cases hv:v<0
 ·simp only[aR hv];lia
 ·simp only[aU hv];lia
theorem a5A(lo hi:Option Int)(n:Nat):Builtin.Slice.sliceAdjust lo hi 1 (n:Int)=(((bQ n 0 lo:Nat):Int),((bQ n n hi:Nat):Int)):=by
 have h1:¬((1:Int)<0):=by lia
 unfold Builtin.Slice.sliceAdjust;simp only[h1,if_false];refine Prod.ext ?_ ?_
 ·cases lo with |none=>rfl |some v=>exact Fw v n 0
 ·cases hi with |none=>rfl |some v=>exact Fw v n n
theorem UP(i j:Nat):Builtin.Slice.slicePlaces (i:Int) (j:Int) 1=j-i:=by
 unfold Builtin.Slice.slicePlaces;have h1:(1:Int)>0:=by lia
 simp only[h1,qz,Int.ediv_one];split<;>lia
theorem Iy{v:Value}{o:Option Int}{Q:Option Int->ae->Prop}(p:IsPart v o)(h:Q o s):wpAny (model prog w) A (Builtin.Slice.slicePartIndex v) Q E s:=by cases p with |none=>exact slicePart_none h |int i t=>exact slicePart_int h
theorem SG{sl:Addr}{vl vu:Value}{lo hi:Option Int}{n:Nat}{Q:Int×Int×Nat->ae->Prop}(hs:s.heap.IsSliceOf sl vl vu .none)(pl:IsPart vl lo)(pu:IsPart vu hi) (h:Q (((bQ n 0 lo:Nat):Int),1,bQ n n hi-bQ n 0 lo) s):wpAny (model prog w) A (Builtin.Slice.sliceApplied (.ref sl) (pure (n:Int))) Q E s:=by obtain⟨os,uT,yE,nS⟩:=id hs;unfold Builtin.Slice.sliceApplied Builtin.Slice.sliceFields;refine aA (aA (gI uT nS (x:=vl) Z (aA (gI uT nS (x:=vu) Z (aA (gI uT nS (x:=.none) Z (bw ?_)))))));refine aA (slicePart_none ?_);show wpAny _ _ (if((1:Int)==0)=true then _ else _) _ _ s;rw[aU ay];refine aA (Iy pl (aA (Iy pu (aA (bw ?_)))));show wpAny _ _ (match Builtin.Slice.sliceAdjust lo hi 1 (n:Int)with|(lo,hi)=>pure (lo,(1:Int),Builtin.Slice.slicePlaces lo hi 1)) _ _ s;rw[a5A lo hi n];show wpAny _ _ (pure (((bQ n 0 lo:Nat):Int),(1:Int),Builtin.Slice.slicePlaces ((bQ n 0 lo:Nat):Int) ((bQ n n hi:Nat):Int) 1)) _ _ s;rw[UP];exact bw h
theorem UR(xs:Array Value)(i k:Nat):((List.range k).filterMap λ(m:Nat)=>xs[((i:Int)+(m:Int)*1).toNat]?).toArray=((xs.toList.drop i).take k).toArray:=by
 have e:(λ(m:Nat)=>xs[((i:Int)+(m:Int)*1).toNat]?)=λm=>xs[i+m]?:=by
  funext m;have:((i:Int)+(m:Int)*1).toNat=i+m:=by lia
  rw[this]
 rw[e];have:=pick_run xs i k;rw[List.filterMap_map]at this;have e2:((λx=>xs[x]?)∘λx=>i+x)=λm=>xs[i+m]?:=rfl;rw[e2]at this;rw[this]
theorem a2g{t sl:Addr}{items:Array Value}{vl vu:Value}{lo hi:Option Int}{Q:Value->ae->Prop}(ht:IsTup s.heap t items)(hs:s.heap.IsSliceOf sl vl vu .none)(pl:IsPart vl lo)(pu:IsPart vu hi) (hw:¬(bQ items.size 0 lo=0/\bQ items.size items.size hi=items.size)) (h:Q (.ref s.heap.objs.size) {s with heap:=s.heap.push {cls:=.type "tuple",data:=.seq ((items.toList.drop (bQ items.size 0 lo)).take (bQ items.size items.size hi-bQ items.size 0 lo)).toArray}}) (hsz:items.size<=sizeLine):wpAny (model prog w) A (getItem (.ref t) (.ref sl)) Q E s:=by
 have yp:sizeOk (.seq ((items.toList.drop (bQ items.size 0 lo)).take (bQ items.size items.size hi-bQ items.size 0 lo)).toArray):=by show((items.toList.drop (bQ items.size 0 lo)).take (bQ items.size items.size hi-bQ items.size 0 lo)).toArray.size<=sizeLine;rw[dB,tf,Gs,jU];omega
 have hj:bQ items.size items.size hi<=items.size:=Tg _ _ (bj _) hi;obtain⟨os,uT,yE,nS⟩:=id hs;have hTs:s.TypeIs (.ref sl) "slice":=⟨os,uT,yE⟩;unfold getItem
 try with_reducible refine gH ?_
 first|refine aA (bw ?_)|skip
 refine aA (wpAny_sequenceKey ht.typeIs ay ?_);refine aA (zO (name:=Str.ofString "__getitem__") ht.typeIs Q6 (zN Q6 ht.typeIs entry_tuple_getitem ?_ (args_tuple_getitem _ _)));show wpAny _ _ (Builtin.Tuple.tupleItemsOf (.ref t)>>=_) _ _ s;refine aA (tupleItemsOf_ ht ?_);refine aA (wpAny_typeOf hTs ?_);rw[aR ay];refine aA (SG hs pl pu ?_);have ZX:¬((((bQ items.size 0 lo:Nat):Int)==0&&(1:Int)==1&&(bQ items.size items.size hi-bQ items.size 0 lo)==items.size)=true):=by intro q;rw[du,du]at q;have q1:((bQ items.size 0 lo:Nat):Int)=0:=eq_of_beq q.1.1;have q2:bQ items.size items.size hi-bQ items.size 0 lo=items.size:=eq_of_beq q.2;exact hw ⟨bo,bo⟩
 show wpAny _ _ (if(((bQ items.size 0 lo:Nat):Int)==0&&(1:Int)==1&&(bQ items.size items.size hi-bQ items.size 0 lo)==items.size)=true then _ else _) _ _ s;rw[aU ZX,UR]
 first |exact aA (m:=Builtin.Tuple.tupleExact _) (lT (bw ⟨_,Z,bw h⟩) yp) |exact aA (m:=Builtin.Tuple.tupleExact _) (lT (aA (bw (bw ⟨_,Z,bw h⟩))) yp) |exact aA (aA (m:=Builtin.Tuple.tupleExact _) (lT (bw (bw ⟨_,Z,bw h⟩)) yp)) |exact aA (aA (m:=Builtin.Tuple.tupleExact _) (lT (bw ⟨_,Z,bw h⟩) yp))
end
end _H
namespace _L
open PySem PySem.Spec PyProof.Rows
abbrev TO:=St->Hp->(Option Int->Hp->Prop)->Prop
def PO(X:Cx)(e:Option Expr)(t:TO):Prop:=∀(pins:List (Addr×Obj))(s:ae)(O:St)(H:Hp)(Q:Option Int->Hp->Prop),Inv X pins O H s->t O H Q->wpAny (model X.prog X.w) X.A (evalPart e X.env) (λu s'=>∃o H',Inv X pins O H' s'/\IsPart u o/\Q o H') X.xe s
def RO:TO:=λ_ H Q=>Q none H
inductive a65(Q:Option Int->Hp->Prop)(x:V)(H1:Hp):Prop |mk (i:_)(h0:x= .int i)(h1:Q (some i) H1)
def RJ(t:TE):TO:=λO H Q=>t O H λx H1=>a65 Q x H1
section
variable {X:Cx}{e:Expr}{te:TE}{lo hi:Option Expr}{tl th:TO}{pos p2:Pos}
theorem ui:PO X none RO:=by intro pins s O H Q I h;rw[evalPart_none];exact bw ⟨none,H,I,.none,h⟩
theorem uh(h:PE X e te):PO X (some e) (RJ te):=by intro pins s O H Q I hw;rw[evalPart_some];refine aV (h pins s O H _ I hw) λu s1 ⟨x,H1,I1,r1,q1⟩=>?_;obtain⟨i,rfl,q⟩:=q1;obtain⟨t,rfl⟩:=r1;exact⟨some i,H1,I1,.int i t,q⟩
def zC(X:Cx)(r:V->Option Int->Option Int->Hp->VK->Prop):Prop:=∀(pins:List (Addr×Obj))(s:ae)(O:St)(H:Hp)(x:V)(v vl vu:Value)(lo hi:Option Int)(sl:Addr)(Q:VK),Inv X pins O H s->RelV x v->s.heap.IsSliceOf sl vl vu .none->IsPart vl lo->IsPart vu hi->r x lo hi H Q->∃T id,typeLookup (.type T) "__getitem__"=pure (some (.builtin id))/\s.TypeIs v T/\wpAny (model X.prog X.w) X.A (getItem v (.ref sl)) (EP X pins O Q) X.xe s
def RF(r:V->Option Int->Option Int->Hp->VK->Prop)(te:TE)(tl th:TO):TE:=λO H Q=>te O H λx H1=>tl O H1 λl H2=>th O H2 λu H3=>r x l u H3 Q
theorem uk{r:V->Option Int->Option Int->Hp->VK->Prop}(hr:zC X r)(he:PE X e te)(hl:PO X lo tl)(hu:PO X hi th):PE X (.Subscript e (.Slice lo hi none p2) pos) (RF r te tl th):=by intro pins s O H Q I h;refine Subscript_ (aV (he pins s O H _ I h) λv s1 ⟨x,H1,I1,r1,q1⟩=>?_);refine wpAny_Slice (aV (hl pins s1 O H1 _ I1 q1) λvl s2 ⟨l,H2,I2,pl,q2⟩=>aV (hu pins s2 O H2 _ I2 q2) λvu s3 ⟨u,H3,I3,pu,q3⟩=>?_);rw[evalPart_none];refine bw ?_;have I4:Inv X pins O H3 {s3 with heap:=s3.heap.push {cls:=.type "slice",data:=.fields #[vl,vu,.none]}}:=I3.kept (t':=s3.toks) λb ob q=>bL _ q;obtain⟨T,id,hT,ht,hg⟩:=hr pins {s3 with heap:=s3.heap.push {cls:=.type "slice",data:=.fields #[vl,vu,.none]}} O H3 x v vl vu l u s3.heap.objs.size Q I4 r1 (Heap.IsSliceOf.new ..) pl pu q3;show wpAny (model X.prog X.w) X.A (subscriptTail e (.Slice lo hi none p2) v (.ref s3.heap.objs.size)) (EP X pins O Q) X.xe {s3 with heap:=s3.heap.push {cls:=.type "slice",data:=.fields #[vl,vu,.none]}};exact tail_any (ops:=[.ref s3.heap.objs.size,v]) ht hT hg (by with_unfolding_all rfl)
def j7(xs:List V)(lo hi:Option Int):List V:=(xs.drop (_H.bQ xs.length 0 lo)).take (_H.bQ xs.length xs.length hi-_H.bQ xs.length 0 lo)
theorem Om(xs:List V)(lo hi:Option Int):(j7 xs lo hi).length<=xs.length:=by
 unfold j7;rw[tf,Gs]
 lia
inductive a7p(K:aa)(x:V)(lo:Option Int)(hi:Option Int)(H:Hp)(Q:VK):Prop |mk (a:_)(xs:_)(h0:x= .ref a)(h1:aP K H a xs)(h2:¬(_H.bQ xs.length 0 lo=0/\_H.bQ xs.length xs.length hi=xs.length))(h3:∀p,H p=none->Q (.ref p) (upd H p (.tup (j7 xs lo hi))))
def Ui(K:aa):V->Option Int->Option Int->Hp->VK->Prop:=λx lo hi H Q=>a7p K x lo hi H Q
theorem SH:zC X (Ui X.K):=by
 intro pins s O H x v vl vu lo hi sl Q I rx hs pl pu h;obtain⟨a,xs,rfl,hx,hw,q⟩:=h;cases rx;obtain⟨its,r,ht,hz⟩:=I.tuple hx;have hlen:its.toArray.size=xs.length:=by rw[dB];exact r.length.symm
 refine⟨"tuple",_,Q6.lookup,ht.typeIs,?_⟩;refine _H.a2g ht hs pl pu (by rw[hlen];exact hw) ?_ (by rw[hlen];exact hz);rw[hlen];refine⟨.ref s.heap.objs.size,_,I.laid (t':=s.toks) (o:=.tup (j7 xs lo hi)) (λb ob q=>bL _ q) (bj _) ?_,Z,q _ (I.aW.fresh (bj _))⟩;exact⟨fc (Om xs lo hi) hz,_,(r.drop (_H.bQ xs.length 0 lo)).take (_H.bQ xs.length xs.length hi-_H.bQ xs.length 0 lo),IsTup.new _ _⟩
theorem Vals.Dk{xs:List V}{us:List Value}(r:Vals xs us):us=[]↔xs=[]:=by cases r with |nil=>simp |cons _ _=>simp
end
def gq(n:Nat)(i:Int):Option Nat:=if 0<=i then(if i<n then some i.toNat else none)else if-(n:Int)<=i then some (i+n).toNat else none
def eg{α:Type}(xs:List α)(i:Int):Option α:=(gq xs.length i).bind λj=>xs[j]?
theorem Mc{n:Nat}{i:Int}{j:Nat}(h:gq n i=some j):seqIndex? i n=some j/\j<n/\-(n:Int)<=i/\i<n:=by
 unfold gq at h;by_cases h0:0<=i
 ·rw[aR h0]at h
  by_cases h1:i<n
  ·rw[aR h1]at h
   have e:i.toNat=j:=cW h;exact⟨by rw[seqIndex_of h0 h1,e],au,au,h1⟩
  ·rw[aU h1]at h;cases h
 ·rw[aU h0]at h
  by_cases h1:-(n:Int)<=i
  ·rw[aR h1]at h
   have e:(i+n).toNat=j:=cW h;exact⟨by rw[seqIndex_neg au h1,e],au,h1,au⟩
  ·rw[aU h1]at h;cases h
theorem FL{α:Type}{xs:List α}{i:Int}{v:α}(h:eg xs i=some v):∃j,seqIndex? i xs.length=some j/\xs[j]? =some v/\j<xs.length/\-(xs.length:Int)<=i/\i<xs.length:=by unfold eg at h;cases e:gq xs.length i with |none=>rw[e]at h;cases h |some j=>rw[e]at h;obtain⟨h1,h2,h3,h4⟩:=Mc e;exact⟨j,h1,h,h2,h3,h4⟩
theorem a5n{α:Type}{xs:List α}{j:Nat}{v:α}(h:xs[j]? =some v):eg xs (j:Int)=some v:=by
 have hj:j<xs.length:=(dN.mp h).1;have e:gq xs.length (j:Int)=some j:=by unfold gq;rw[aR au,aR au];simp
 unfold eg;rw[e];exact h
def Pc(b:Expr):Prop:=∀o i,subscripted b false o i=operate [o,i] (getItem o i)
def mU(X:Cx)(r:R2):Prop:=∀(value slice:Expr)(pins:List (Addr×Obj))(s:ae)(O:St)(H:Hp)(x y:V)(v u:Value)(Q:VK),Inv X pins O H s->RelV x v->RelV y u->r x y H Q->subscripted slice false v u=operate [v,u] (getItem v u)->wpAny (model X.prog X.w) X.A (subscriptTail value slice v u) (EP X pins O Q) X.xe s
def oq(X:Cx)(id:String)(r:V->List V->Hp->VK->Prop):Prop:=∀(pins:List (Addr×Obj))(s:ae)(O:St)(H:Hp)(x:V)(xs:List V)(v:Value)(us:List Value)(Q:VK),Inv X pins O H s->RelV x v->Vals xs us->r x xs H Q->wpAny (model X.prog X.w) X.A (call (.builtin id) (v::us)) (EP X pins O Q) X.xe s
section
variable {X:Cx}{a b:Expr}{ta tb:TE}{pos:Pos}
theorem mU.or{r r':R2}(h:mU X r)(h':mU X r'):mU X (λx y H Q=>r x y H Q\/r' x y H Q):=by
 intro value slice pins s O H x y v u Q I rx ry q hs;rcases q with q|q
 ·exact h value slice pins s O H x y v u Q I rx ry q hs
 ·exact h' value slice pins s O H x y v u Q I rx ry q hs
theorem CO{r:R2}(hr:mU X r)(ha:PE X a ta)(hb:PE X b tb)(hs:Pc b):PE X (.Subscript a b pos) (tL r ta tb):=by intro pins s O H Q I h;exact Subscript_ (FF ha hb I h λv u s2 x y H2 I2 rx ry q=>hr a b pins s2 O H2 x y v u Q I2 rx ry q (hs _ _))
inductive a7z(K:aa)(x:V)(y:V)(H:Hp)(Q:VK):Prop |mk (p:_)(xs:_)(i:_)(v:_)(h0:x= .ref p)(h1:y= .int i)(h2:aG K H p xs)(h3:eg xs i=some v)(h4:Q v H)
def Cw(K:aa):R2:=λx y H Q=>a7z K x y H Q
inductive a7x(K:aa)(x:V)(y:V)(H:Hp)(Q:VK):Prop |mk (p:_)(xs:_)(i:_)(v:_)(h0:x= .ref p)(h1:y= .int i)(h2:aP K H p xs)(h3:eg xs i=some v)(h4:Q v H)
def Cv(K:aa):R2:=λx y H Q=>a7x K x y H Q
inductive a7y(x:V)(y:V)(H:Hp)(Q:VK):Prop |mk (z:_)(i:_)(c:_)(h0:x= .str z)(h1:y= .int i)(h2:z.length<=sizeLine)(h3:eg z.cps.toList i=some c)(h4:Q (.str ⟨#[c]⟩) H)
def Uo:R2:=λx y H Q=>a7y x y H Q
theorem Z4:mU X (Cw X.K):=by
 intro value slice pins s O H x y v u Q I rx ry h hs;obtain⟨p,xs,i,z,rfl,rfl,hq,he,q⟩:=h;cases rx;obtain⟨t,rfl⟩:=ry;obtain⟨its,r,pl,hz⟩:=I.list hq;obtain⟨j,h1,h2,h3,h4,h5⟩:=FL he;obtain⟨w,ew,kX⟩:=r.get h2;have hl:=r.length;have hn:=pJ;have fin:EP X pins O Q w s:=⟨z,H,I,kX,q⟩;by_cases h0:0<=i
 ·have hj:i.toNat=j:=by rw[seqIndex_of h0 h5]at h1;exact cW h1
  exact item_listR pl.isList h0 au (by rw[hj];simpa using ew) fin hs
 ·have hj:(i+(its.toArray.size:Int)).toNat=j:=by rw[seqIndex_neg au h4]at h1;rw[dB,<-hl];exact cW h1
  exact subscriptTail_builtinR (x:=w) pl.isList.typeIs slot_list_getitem.lookup (wpAny_getItem_list_neg (Q:=λr s'=>r=w/\EP X pins O Q r s') pl.isList au (by rw[dB]<;>lia) au (by rw[hj];simpa using ew) ⟨Z,fin⟩) hs
theorem Z3:mU X (Cv X.K):=by intro value slice pins s O H x y v u Q I rx ry h hs;obtain⟨p,xs,i,z,rfl,rfl,hq,he,q⟩:=h;cases rx;obtain⟨t,rfl⟩:=ry;obtain⟨its,r,pl,hz⟩:=I.tuple hq;obtain⟨j,h1,h2,h3,h4,h5⟩:=FL he;obtain⟨w,ew,kX⟩:=r.get h2;have hl:=r.length;have hn:=pJ;have fin:EP X pins O Q w s:=⟨z,H,I,kX,q⟩;exact subscriptTail_builtinR (x:=w) pl.typeIs slot_tuple_getitem.lookup (getItem_tuple (j:=j) (Q:=λr s'=>r=w/\EP X pins O Q r s') pl au au (by rw[dB,<-hl];exact h1) (by simpa using ew) ⟨Z,fin⟩) hs
theorem Mb:mU X Uo:=by
 intro value slice pins s O H x y v u Q I rx ry h hs;obtain⟨z,i,c,rfl,rfl,hz,he,q⟩:=h;obtain⟨t,rfl⟩:=rx;obtain⟨t',rfl⟩:=ry;obtain⟨j,h1,h2,h3,h4,h5⟩:=FL he;have hl:z.cps.toList.length=z.length:=by simp[Str.length]
 rw[hl]at h1 h4 h5;have hn:=pJ;exact tail_any (vY s z t) slot_str_getitem.lookup (getItem_str (c:=c) (by have e1:decide (i< -(2^63:Int))=false:=dM au;have e2:decide (i>=2^63)=false:=dM au;rw[e1,e2,Bool.or_false]) (by rw[h1];simpa using h2) ⟨.str ⟨#[c]⟩,H,I.tok _,⟨_,Z⟩,q⟩) hs
theorem Y9(its:List Value)(n j:Nat)(u:Value):Obj.mapSeq (·.setIfInBounds j u) {cls:=.type "list",data:=.seq its.toArray n}={cls:=.type "list",data:=.seq (its.set j u).toArray n}:=by simp[Obj.mapSeq]
theorem Inv.lst{pins:List (Addr×Obj)}{O:St}{H:Hp}{s:ae}{p:Addr}{xs:List V}(I:Inv X pins O H s)(h:H p=some (.lst xs)): ∃(its:List Value)(n:Nat),Vals xs its/\s.heap.get? p=some {cls:=.type "list",data:=.seq its.toArray n}/\xs.length<=sizeLine:=by obtain⟨z,its,n,r,e⟩:=I.aW p _ h;exact⟨its,n,r,e,z⟩
theorem Inv.Yu{pins:List (Addr×Obj)}{O:St}{H:Hp}{s:ae}{p:Addr}{xs ys:List V}{its its':List Value}{n n':Nat}{f:Obj->Obj}(I:Inv X pins O H s)(h:H p=some (.lst xs)) (ho:s.heap.get? p=some {cls:=.type "list",data:=.seq its.toArray n})(hf:f {cls:=.type "list",data:=.seq its.toArray n}={cls:=.type "list",data:=.seq its'.toArray n'})(r:Vals ys its')(hz:ys.length<=sizeLine)(t:Nat): Inv X pins O (upd H p (.lst ys)) {s with heap:=s.heap.update p f,toks:=t}:=by
 have e:(s.heap.update p f).get? p=some {cls:=.type "list",data:=.seq its'.toArray n'}:=by rw[A7 f ho (by rw[hf]<;>rfl),hf]
 refine I.write (x:=p) (e:=p) (by rw[h];trivial) (.inl Z) (λb u hb q=>(wG _ _ (iL hb)).trans q) ⟨_,e⟩ ?_;exact⟨hz,its',n',r,e⟩
inductive a7s(o:V)(i:V)(v:V)(H:Hp)(Q:Hp->Prop):Prop |mk (p:_)(xs:_)(k:_)(j:_)(h0:o= .ref p)(h1:i= .int k)(h2:H p=some (.lst xs))(h3:gq xs.length k=some j)(h4:Q (upd H p (.lst (xs.set j v))))
def Ul:V->V->V->Hp->(Hp->Prop)->Prop:=λo i v H Q=>a7s o i v H Q
theorem set_list:Pe X Ul:=by
 intro pins s O H o i v ov iv u Q I ro ri rv h;obtain⟨p,xs,k,j,rfl,rfl,hp,hj,q⟩:=h;cases ro;obtain⟨t,rfl⟩:=ri;obtain⟨its,n,r,ho,hz⟩:=I.lst hp;obtain⟨h1,h2,h3,h4⟩:=Mc hj;have hl:=r.length;have hn:=pJ;have I':Inv X pins O (upd H p (.lst (xs.set j v))) {s with heap:=s.heap.update p (Obj.mapSeq (·.setIfInBounds j u))}:=I.Yu hp ho (Y9 its n j u) (r.set rv j) (by rw[Gr];exact hz) s.toks;by_cases h0:0<=k
 ·have hk:k.toNat=j:=by rw[seqIndex_of h0 h4]at h1;exact cW h1
  exact PySem.W.ki_setAt ho h0 au (by rw[dB,<-hl];exact h4) (by rw[hk];exact⟨_,I',q⟩)
 ·have hk:(k+(its.toArray.size:Int)).toNat=j:=by rw[seqIndex_neg au h3]at h1;rw[dB,<-hl];exact cW h1
  exact PySem.W.ki_setBack ho au (by rw[dB,<-hl];exact h3) au (by rw[hk];exact⟨_,I',q⟩)
theorem SD(lo hi:Option Int)(n:Nat):(sliceBounds lo hi none n).1=((_H.bQ n 0 lo:Nat):Int)/\(sliceBounds lo hi none n).2.1=((_H.bQ n n hi:Nat):Int)/\(sliceBounds lo hi none n).2.2=1:=by
 refine⟨?_,?_,Z⟩
 ·cases lo with |none=>simp[sliceBounds,_H.bQ] |some i=>
  simp only[sliceBounds,_H.bQ,Option.getD_none,show(1:Int)>0 by decide,qz];by_cases h:i<0
  ·simp only[h,qz]<;>lia
  ·simp only[h,if_false]<;>lia
 ·cases hi with |none=>simp[sliceBounds,_H.bQ] |some i=>
  simp only[sliceBounds,_H.bQ,Option.getD_none,show(1:Int)>0 by decide,qz];by_cases h:i<0
  ·simp only[h,qz]<;>lia
  ·simp only[h,if_false]<;>lia
theorem SE(its:List Value)(lo hi:Option Int):slicePick its.toArray lo hi none=((its.drop (_H.bQ its.length 0 lo)).take (_H.bQ its.length its.length hi-_H.bQ its.length 0 lo)).toArray:=by obtain⟨h1,h2,h3⟩:=SD lo hi its.toArray.size;unfold slicePick;rw[h1,h2,h3];simp only[sliceRange_one,pick_run,dB]<;>rfl
inductive a7q(K:aa)(x:V)(lo:Option Int)(hi:Option Int)(H:Hp)(Q:VK):Prop |mk (a:_)(xs:_)(h0:x= .ref a)(h1:aG K H a xs)(h2:∀p,H p=none->Q (.ref p) (upd H p (.lst (j7 xs lo hi))))
def Uj(K:aa):V->Option Int->Option Int->Hp->VK->Prop:=λx lo hi H Q=>a7q K x lo hi H Q
theorem SI:zC X (Uj X.K):=by intro pins s O H x v vl vu lo hi sl Q I rx hs pl pu h;obtain⟨a,xs,rfl,hx,q⟩:=h;cases rx;obtain⟨its,r,ht,hz⟩:=I.list hx;have hlen:=r.length;refine⟨"list",_,slot_list_getitem.lookup,ht.isList.typeIs,?_⟩;refine wpAny_getItem_list_slice ht.isList hs pl pu .none (by simp) ?_ (by rw[dB]<;>lia);rw[SE,<-hlen];refine⟨.ref s.heap.objs.size,_,I.laid (t':=s.toks) (o:=.lst (j7 xs lo hi)) (λb ob q=>bL _ q) (bj _) ?_,Z,q _ (I.aW.fresh (bj _))⟩;exact⟨fc (Om xs lo hi) hz,_,0,(r.drop (_H.bQ xs.length 0 lo)).take (_H.bQ xs.length xs.length hi-_H.bQ xs.length 0 lo),cK _ Z⟩
def nV:V->Bool | .aY=>true | .bl _=>true | .int _=>true | .str _=>true |_=>false
def nY:V->V->Bool | .aY,.aY=>true | .bl a,.bl b=>a==b | .bl a,.int b=>(if a then 1 else 0)==b | .int a,.bl b=>a==(if b then 1 else 0) | .int a,.int b=>a==b | .str a,.str b=>a==b |_,_=>false
theorem a4f{A:ai}{s:ae}{y x:V}{u v:Value}(ry:RelV y u)(rx:RelV x v)(fy:nV y=true)(fx:nV x=true):SeqAt.EqAt A s u v (nY y x):=by cases y with
 |aY=>cases ry;cases x with |aY=>cases rx;exact SeqAt.EqAt.same _ |bl b=>cases rx;exact SeqAt.EqAt.none_bool b |int b=>obtain⟨t,rfl⟩:=rx;exact SeqAt.EqAt.none_int b t |str b=>obtain⟨t,rfl⟩:=rx;exact SeqAt.EqAt.none_str b t |_=>exact absurd (show false=true from fx) dc
 |bl a=>cases ry;cases x with |aY=>cases rx;exact SeqAt.EqAt.bool_none a |bl b=>cases rx;exact SeqAt.EqAt.bool_bool a b |int b=>obtain⟨t,rfl⟩:=rx;exact SeqAt.EqAt.bool_int a b t |str b=>obtain⟨t,rfl⟩:=rx;exact SeqAt.EqAt.bool_str a b t |_=>exact absurd (show false=true from fx) dc
 |int a=>obtain⟨t',rfl⟩:=ry;cases x with |aY=>cases rx;exact SeqAt.EqAt.int_none a t' |bl b=>cases rx;exact SeqAt.EqAt.int_bool a t' b |int b=>obtain⟨t,rfl⟩:=rx;exact SeqAt.EqAt.int_int a t' b t |str b=>obtain⟨t,rfl⟩:=rx;exact SeqAt.EqAt.int_str a t' b t |_=>exact absurd (show false=true from fx) dc
 |str a=>obtain⟨t',rfl⟩:=ry;cases x with |aY=>cases rx;exact SeqAt.EqAt.str_none a t' |bl b=>cases rx;exact SeqAt.EqAt.str_bool a t' b |int b=>obtain⟨t,rfl⟩:=rx;exact SeqAt.EqAt.str_int a t' b t |str b=>obtain⟨t,rfl⟩:=rx;exact SeqAt.EqAt.str_str a t' b t |_=>exact absurd (show false=true from fx) dc
 |_=>exact absurd (show false=true from fy) dc
def mO(x:V)(u:Value):Bool:=match u with | .none=>nY .aY x | .bool b=>nY (.bl b) x | .int i _=>nY (.int i) x | .str z _=>nY (.str z) x |_=>false
theorem NM{x y:V}{u:Value}(r:RelV y u)(f:nV y=true):mO x u=nY y x:=by cases y with |aY=>cases r;rfl |bl b=>cases r;rfl |int i=>obtain⟨t,rfl⟩:=r;rfl |str z=>obtain⟨t,rfl⟩:=r;rfl |_=>exact absurd (show false=true from f) dc
theorem FO{x:V}:∀{xs:List V}{us:List Value},Vals xs us->xs.all nV=true->us.any (mO x)=xs.any λy=>nY y x |_,_,.nil,_=>rfl |y::xs,u::us,.cons r t,f=>by rw[tw,du]at f;rw[tq,tq,NM r f.1,FO t f.2]
theorem Dx{A:ai}{s:ae}{x:V}{v:Value}(rx:RelV x v)(fx:nV x=true):∀{xs:List V}{us:List Value},Vals xs us->xs.all nV=true->∀u∈us,SeqAt.EqAt A s u v (mO x u)
 |_,_,.nil,_=>λu hu=>by cases hu |y::xs,u::us,.cons r t,f=>λu' hu=>by
  rw[tw,du]at f;rcases bS.mp hu with rfl|hu
  ·rw[NM r f.1];exact a4f r rx f.1 fx
  ·exact Dx rx fx t f.2 u' hu
def yj(x:V)(xs:List V):Bool:=xs.any λy=>nY y x
inductive a7G(K:aa)(neg:Bool)(x:V)(y:V)(H:Hp)(Q:VK):Prop |mk (p:_)(xs:_)(h0:y= .ref p)(h1:(aG K H p xs\/aP K H p xs))(h2:nV x=true)(h3:xs.all nV=true)(h4:Q (.bl (if neg then !yj x xs else yj x xs)) H)
def Kr(K:aa)(neg:Bool):R2:=λx y H Q=>a7G K neg x y H Q
theorem Vn:cf X (compareOp .NotIn) (Kr X.K true):=by
 intro pins s O H x y v u Q I rx ry h;obtain⟨p,xs,rfl,hq,fx,fs,q⟩:=h;cases ry;rcases hq with hq|hq
 ·obtain⟨its,r,pl,hz⟩:=I.list hq
  refine SeqAt.notIn_listAt (mO x) pl.isList (λw hw=>Dx rx fx r fs w (by simpa using hw)) ⟨.bl _,H,I,Z,?_⟩;rw[show its.toArray.any (mO x)=its.any (mO x) by simp,FO r fs];exact q
 ·obtain⟨its,r,pl,hz⟩:=I.tuple hq
  refine SeqAt.notIn_tupleAt (mO x) pl (λw hw=>Dx rx fx r fs w (by simpa using hw)) ⟨.bl _,H,I,Z,?_⟩;rw[show its.toArray.any (mO x)=its.any (mO x) by simp,FO r fs];exact q
theorem a51:dI X (.builtin "len") (λxs H Q=>∃p ys,xs=[.ref p]/\(aG X.K H p ys\/aP X.K H p ys)/\Q (.int ys.length) H):=by
 intro pins s O H xs us Q I r h;obtain⟨p,ys,rfl,hq,q⟩:=h;obtain⟨u,rfl,rx⟩:=vals1 r;cases rx;have hn:=pJ;rcases hq with hq|hq
 ·obtain⟨its,r',pl,hz⟩:=I.list hq
  have hlen:=r'.length;exact Calls.call_len_list pl.isList (by simp only[dB]<;>lia) ⟨.int ys.length,H,I.tok _,⟨s.toks+1,by rw[dB,hlen]⟩,q⟩
 ·obtain⟨its,r',pl,hz⟩:=I.tuple hq
  have hlen:=r'.length;exact len_tuple pl (by simp only[dB]<;>lia) ⟨.int ys.length,H,I.tok _,⟨s.toks+1,by rw[dB,hlen]⟩,q⟩
theorem a50:dI X (.builtin "len") (λxs H Q=>∃z,xs=[.str z]/\z.length<=sizeLine/\Q (.int z.length) H):=by intro pins s O H xs us Q I r h;obtain⟨z,rfl,hz,q⟩:=h;obtain⟨u,rfl,t,rfl⟩:=vals1 r;have hn:=pJ;exact len_str au ⟨.int z.length,H,I.tok _,⟨_,Z⟩,q⟩
theorem dI.or{f:Value}{r r':List V->Hp->VK->Prop}(h:dI X f r)(h':dI X f r'):dI X f (λxs H Q=>r xs H Q\/r' xs H Q):=by
 intro pins s O H xs us Q I rs q;rcases q with q|q
 ·exact h pins s O H xs us Q I rs q
 ·exact h' pins s O H xs us Q I rs q
theorem a4Z:dI X (.type "list") (λxs H Q=>∃p ys,xs=[.ref p]/\(aG X.K H p ys\/aP X.K H p ys)/\∀l,H l=none->Q (.ref l) (upd H l (.lst ys))):=by
 intro pins s O H xs us Q I r h;obtain⟨p,ys,rfl,hq,q⟩:=h;obtain⟨u,rfl,rx⟩:=vals1 r;cases rx;have fin:∀(its:List Value),Vals ys its->ys.length<=sizeLine->∀(h':Heap)(c':Nat),(∀b o',s.heap.get? b=some o'->h'.get? b=some o')->h'.get? s.heap.objs.size=some {cls:=.type "list",dict:=none,data:=.seq its.toArray c',slots:=#[]}->EP X pins O Q (.ref s.heap.objs.size) {s with heap:=h'}:=λits r' hz h' c' kp e=>⟨.ref s.heap.objs.size,_,I.laid (t':=s.toks) kp (bj _) (show eR X.prog X.w _ h' _ (.lst ys)from⟨hz,its,c',r',e⟩),Z,q _ (I.aW.fresh (bj _))⟩;rcases hq with hq|hq
 ·obtain⟨its,r',pl,hz⟩:=I.list hq
  have hlen:=r'.length;obtain⟨o,ho,hc,n,hd⟩:=pl.isList;exact call_list_seq p (.inl Z) ho hc hd (λh' c' kp e=>fin its r' hz h' c' kp e) (by simp only[dB]<;>lia)
 ·obtain⟨its,r',pl,hz⟩:=I.tuple hq
  have hlen:=r'.length;obtain⟨o,ho,hc,n,hd⟩:=pl;exact call_list_seq p (.inr Z) ho hc hd (λh' c' kp e=>fin its r' hz h' c' kp e) (by simp only[dB]<;>lia)
theorem a4U:dI X (.type "tuple") (λxs H Q=>∃p ys,xs=[.ref p]/\((aG X.K H p ys/\∀l,H l=none->Q (.ref l) (upd H l (.tup ys)))\/(aP X.K H p ys/\Q (.ref p) H))):=by
 intro pins s O H xs us Q I r h;obtain⟨p,ys,rfl,h⟩:=h;obtain⟨u,rfl,rx⟩:=vals1 r;cases rx;rcases h with⟨hq,q⟩|⟨hq,q⟩
 ·obtain⟨its,r',pl,hz⟩:=I.list hq
  have hlen:=r'.length;refine call_tuple_list pl.isList (λh' kp=>?_) (by simp only[dB]<;>lia);have I1:Inv X pins O H {s with heap:=h'}:=I.kept (t':=s.toks) kp;have I2:Inv X pins O (upd H h'.objs.size (.tup ys)) {s with heap:=h'.push {cls:=.type "tuple",data:=.seq its.toArray}}:=I1.laid (t':=s.toks) (λb o e=>bL _ e) (bj _) (show eR X.prog X.w _ _ _ (.tup ys)from⟨hz,its,r',IsTup.new _ _⟩);exact⟨.ref h'.objs.size,_,I2,Z,q _ (I1.aW.fresh (bj _))⟩
 ·obtain⟨its,r',pl,hz⟩:=I.tuple hq
  exact call_tuple_same pl ⟨.ref p,H,I,Z,q⟩
def Ac(K:aa)(T:String)(x:V)(H:Hp):Prop:=match x with | .str _=>T="str" | .int _=>T="int" | .ref p=>(T="list"/\∃xs,aG K H p xs)\/(T="tuple"/\∃o,K.lookup p=some o/\o.cls= .type "tuple"/\o.dict=none)\/ (T="dict"/\((∃cU,H p=some (.dK cU))\/∃cU,H p=some (.dT cU)))\/(T="set"/\∃S n,H p=some (.set S n)) |_=>False
theorem GW{pins:List (Addr×Obj)}{O:St}{H:Hp}{s:ae}{T:String}{x:V}{v:Value}(I:Inv X pins O H s)(r:RelV x v)(ty:Ac X.K T x H): s.TypeIs v T/\∀a,v= .ref a->∃ob,s.heap.get? a=some ob/\ob.dict=none:=by cases x with
 |str z=>obtain⟨t,rfl⟩:=r;cases(show T="str" from ty);exact⟨vY s z t,λ_ e=>nomatch e⟩ |int i=>obtain⟨t,rfl⟩:=r;cases(show T="int" from ty);exact⟨typeIs_int s i t,λ_ e=>nomatch e⟩ |ref p=>
  cases r;rcases ty with⟨rfl,xs,hq⟩|⟨rfl,o,hk,hc,hd⟩|⟨rfl,hk⟩|⟨rfl,S,n,hk⟩
  ·obtain⟨its,_,pl,_⟩:=I.list hq
   refine⟨pl.isList.typeIs,λa e=>?_⟩;cases e;obtain⟨o,n,e,c,hd,_⟩:=pl;exact⟨o,e,hd⟩
  ·refine⟨⟨o,I.dE p o hk,hc⟩,λa e=>?_⟩
   cases e;exact⟨o,I.dE _ o hk,hd⟩
  ·have z:∃o,s.heap.get? p=some o/\o.ExactDict:=by
    rcases hk with⟨cU,hk⟩|⟨cU,hk⟩
    ·obtain⟨_,_,_,_,o,_,_,e,ex,_⟩:=I.aW p _ hk
     exact⟨o,e,ex⟩
    ·obtain⟨_,_,_,_,o,_,_,e,ex,_⟩:=I.aW p _ hk
     exact⟨o,e,ex⟩
   obtain⟨o,e,ex⟩:=z;refine⟨⟨o,e,ex.1⟩,λa e2=>?_⟩;cases e2;exact⟨o,e,ex.2.1⟩
  ·obtain⟨o,_,_,_,e,ex,_⟩:=I.aW p _ hk
   refine⟨⟨o,e,ex.1⟩,λa e2=>?_⟩;cases e2;exact⟨o,e,ex.2.1⟩ |_=>exact False.elim ty
def m4(K:aa)(T:String)(r:V->List V->Hp->VK->Prop)(to:TE)(t:TA):TE:=λO H Q=>to O H λx H1=>Ac K T x H1/\t O H1 λxs H2=>r x xs H2 Q
variable {o e:Expr}{es:List Expr}{to:TE}{t:TA}{name:Str}{apos bF:Pos}{T id:String}{r:V->List V->Hp->VK->Prop}
theorem nE(pa:PlainAttrs T)(slot:Slot T name id)(DZ:typeOf (.builtin id)=pure (.type "method_descriptor"))(hm:oq X id r)(ho:PE X o to)(ha:PA X (e::es) t) (fX:autoParam (attributeBase o name X.env (eval o X.env)=eval o X.env) r8_._auto_1) (fW:autoParam (((backTo bF (starEach (e::es) X.env)).all (λx=>!x.1)&&(backToKw bF (keywordEach [] X.env)).all (λx=>x.1.isSome) &&decide ((e::es).length+([]:List Keyword).length+(if([]:List Keyword).isEmpty then 0 else 1)<30))=true) r8_._auto_1) (fV:autoParam ((apos.endLine==bF.line)=true) r8_._auto_1)(hs:autoParam (starEach (e::es) X.env=(false,eval e X.env)::starEach es X.env) r8_._auto_1)(fU:autoParam ((backTo bF (starEach es X.env)).any (·.1)=false) r8_._auto_1): PE X (.Call (.Attribute o name apos) (e::es) [] bF) (m4 X.K T r to t):=by intro pins s O H Q I h;refine wpAny_Call_method_late fX fW fV Z (aV (ho pins s O H _ I h) λv s1 ⟨x,H1,I1,r1,ty,q1⟩=>?_);obtain⟨h1,h2⟩:=GW I1 r1 ty;refine⟨T,id,pa,slot,DZ,h1,h2,?_⟩;have hA:=ha bF pins s1 O H1 _ I1 q1;rw[hs]at hA⊢;refine Calls.callWith_builtin (by show(false||(backTo bF (starEach es X.env)).any (·.1))=false;rw[fU]<;>rfl) (GC ?_);exact aV hA λus s2 ⟨vs,H2,I2,r2,q2⟩=>hm pins s2 O H2 x vs v us Q I2 r1 r2 q2
end
def MtM(X:Cx)(id:String)(r:V->List V->Hp->VK->Prop):Prop:=∀(pins:List (Addr×Obj))(s:ae)(O:St)(H:Hp)(x:V)(xs:List V)(v:Value)(us:List Value)(Q:VK),Inv X pins O H s->RelV x v->Vals xs us->r x xs H Q->wpAny (model X.prog X.w) X.A (call (.builtin id) (v::us)) (EP X pins O Q) X.xe s
theorem Vals.one:∀{x:V}{us:List Value},Vals [x] us->∃u,us=[u]/\RelV x u |_,_,.cons r .nil=>⟨_,Z,r⟩
section
variable {X:Cx}{pins:List (Addr×Obj)}{O:St}{H:Hp}{s:ae}{l b:Addr}{xs ys zs:List V}
theorem Inv.Yw{its its':List Value}{n:Nat}{f:Array Value->Array Value}{t':Nat}(I:Inv X pins O H s)(hH:H l=some (.lst xs)) (e:s.heap.get? l=some {cls:=.type "list",data:=.seq its.toArray n})(hf:f its.toArray=its'.toArray)(hv:Vals ys its')(hz:ys.length<=sizeLine): Inv X pins O (upd H l (.lst ys)) {s with heap:=s.heap.update l (Obj.mapSeq f),toks:=t'}:=by have q:=PySem.IsL.update e f;rw[hf]at q;refine I.write (x:=l) (e:=l) (by rw[hH];exact trivial) (.inl Z) (λb' u hb hu=>(wG s.heap (Obj.mapSeq f) (iL hb)).trans hu) ⟨_,q⟩ ?_;exact⟨hz,its',_,hv,q⟩
theorem Inv.LW{its:List Value}{t':Nat}(I:Inv X pins O H s)(hv:Vals ys its)(hz:ys.length<=sizeLine): Inv X pins O (upd H s.heap.objs.size (.lst ys)) {s with heap:=s.heap.push {cls:=.type "list",data:=.seq its.toArray},toks:=t'}:=I.laid (λ_ _ q=>bL _ q) (bj _) ⟨hz,its,0,hv,cK _ Z⟩
theorem Inv.Yv(I:Inv X pins O H s)(hH:H l=some (.lst xs)):xs.length<=sizeLine/\∃(its:List Value)(n:Nat),Vals xs its/\xs.length=its.length/\s.heap.get? l=some {cls:=.type "list",data:=.seq its.toArray n}:=by obtain⟨z,its,n,r,e⟩:=I.aW l _ hH;exact⟨z,its,n,r,r.length,e⟩
end
section
variable {X:Cx}
inductive a7N(x:V)(vs:List V)(H:Hp)(Q:VK):Prop |mk (l:_)(xs:_)(y:_)(h0:x= .ref l)(h1:vs=[y])(h2:H l=some (.lst xs))(h3:xs.length<sizeLine)(h4:Q .aY (upd H l (.lst (xs++[y]))))
def Ks:V->List V->Hp->VK->Prop:=λx vs H Q=>a7N x vs H Q
theorem Du:MtM X "list.append" Ks:=by
 intro pins s O H x vs v us Q I rx rv h;obtain⟨l,xs,y,rfl,rfl,hH,hz,q⟩:=h;cases rx;obtain⟨u,rfl,ru⟩:=rv.one;obtain⟨z,its,n,r,hl,e⟩:=I.Yv hH;refine sW F.slot_list_append ⟨_,e,Z⟩ F.entry_list_append (F.args_list_append_2 _ _) (PySem.list_append l its.toArray n u (by rw[dB];lia)) ⟨e,?_⟩;refine⟨.aY,_,I.Yw (its':=its++[u]) hH e (by simp) (r.append (.cons ru .nil)) ?_,Z,q⟩;rw[fQ,tm]
 lia
end
section
variable {prog:af}{w:World}{A:ai}{E:Value->ae->Prop}{s:ae}
end
section
variable {X:Cx}
end
end _L
namespace _AA
open PySem PySem.W PySem.Calls PyProof.Rows
theorem Zc{P:Params}{h:Heap}:∀(ns:List Int)(vs:List Value),WellAll P h vs (ns.map WData.int)->IntsAre vs ns:=by intro ns;induction ns with |nil=>intro vs w;rw[List.map_nil]at w;cases w;exact .nil |cons n ns ih=>intro vs w;rw[qD]at w;cases w with |cons a b=>cases a;exact .cons _ _ (ih _ b)
theorem SV{l:OpenLaw}{n:Nat}(hn:l.most=some n){P:Params}{h:Heap}{args:List WData}{vals:List Value} (yx:l.row.toRowW.claim.pre args=true)(pM:WellAll P h vals args): ∃a vs ns,vals=[Value.ref a]/\args=[WData.list (ns.map WData.int)]/\h.get? a=some {cls:=.type "list",data:=.seq vs.toArray}/\IntsAre vs ns/\ns.length<=n:=by
 have ZK:WShape.hasAll [] args [.list .int]=true:=(pre_splitW yx).1;have hc:l.pre.holds [] {args:=args}=true:=(pre_splitW yx).2;obtain⟨d,r,rfl,h1,h2⟩:=hasAllW_cons ZK;obtain rfl:=hasAllW_nil h2;obtain⟨xs,rfl,h3⟩:=hasW_list h1;obtain⟨ns,rfl⟩:=items_int h3;have hlen:ns.length<=n:=by
  unfold OpenLaw.pre at hc;have h4:(WTm.not (.lt (.lit (.int (n:Int))) (.len (.arg 0)))).holds [] {args:=[.list (ns.map .int)]}=true:=by have h4:=(holds_andW hc).1;rw[hn]at h4;exact h4
  have h5:=condW_of h4 (w_not (w_lt w_lit (w_len_list (w_arg Z))));rw[bA]at h5;refine Nat.le_of_not_lt λq=>?_;have q':(n:Int)<((ns.length:Nat):Int):=by omega
  first |(rw[bR q']at h5;exact absurd h5 ay) |(simp at h5;omega)
 cases pM with |cons w1 w2=>cases w2;cases w1 with |list ho a0Z=>exact⟨_,_,ns,Z,Z,ho,Zc ns _ a0Z,hlen⟩
theorem UJ(l:OpenLaw)(args:List WData):l.row.toRowW.claim.post args (.bool true) args=true:=postW_of (r:=l.row.toRowW) (X:=(true==true)) (show WShape.has [] (.bool true) .bool=true by first|rfl|decide|simp[WShape.has,WShape.arms,WShape.armsAll]) (show(WTm.eq .res (.lit (.bool true))).value [] {args:=args,res:=some (.bool true),after:=args}=some (.bool (true==true))from w_eq_bool (w_res Z) w_lit) rfl
theorem a5l{l:OpenLaw}{n:Nat}{q:af}{loose:List Str}{XP:(bf)->Heap->Prop}{YP:World->Heap->Prop}{d:DefRec} (hn:l.most=some n)(vd:d.params.defaults=[]) (call:∀(w:World)(s₀ s₁:ae)(mg mb:bf)(fa:Addr)(o:Obj)(pm cd doc:Value)(a:Addr)(vs:List Value)(ns:List Int),Ground q loose [] XP w s₀ mg mb s₁.heap->YP w s₁.heap->s₁.heap.get? fa=some o->o.data= .func (docDef d.name d.params d.body d.scope pm cd doc)->s₁.heap.CodeRec cd d.name->mg d.name=some (.ref fa)->s₁.heap.get? a=some {cls:=.type "list",data:=.seq vs.toArray}->IntsAre vs ns->ns.length<=n->s₁.gens=#[]->codeAny (model l.prog w) callerA (.call (.ref fa) ⟨[.ref a],[]⟩) (λr s'=>r= .ok (.ret (.bool true))/\OldK s₁.heap s'.heap/\s'.os=s₁.os/\AllBare s'.gens) s₁): WalkO q loose XP YP l.row.toRowW d [] (λf vs=>PySem.call f vs):=by intro w s₀ s₁ mg mb G Y fa o pm cd doc dV kV ho hd e9 hD uW hg args vals as yx a92 hrd pM hlo;obtain rfl:dV= .none:=Dflts.none hD vd;obtain rfl:kV= .none:=Dflts.noKw hD;obtain⟨a,vs,ns,rfl,rfl,Ea,hints,hlen⟩:=SV hn yx pM;refine enter_call (we (call w s₀ s₁ mg mb fa o pm cd doc a vs ns G Y ho (fd_plain hd) e9 uW Ea hints hlen hg) λr s' hq=>?_);obtain⟨rfl,h2,h3,h4⟩:=hq;exact⟨.inl ⟨.bool true,.bool true,[],Z,λ_=>rfl,.bool true,UJ l _,λ_=>⟨List.Pairwise.nil,λ_ hm=>(nomatch hm)⟩⟩,h2,h3,h4⟩
section
variable {prog:af}{w:World}{A:ai}{E:Value->ae->Prop}{s:ae}{K:Frag}
end
end _AA
namespace _L
open PySem PySem.Spec PyProof.Rows
theorem GU:∀{vs:List Value}{ns:List Int},IntsAre vs ns->Vals (ns.map V.int) vs |_,_,.nil=>.nil |_,_,.cons n t h=>.cons ⟨t,Z⟩ (GU h)
def FY(H:Hp):Prop:=∀b,H b=none\/∃o xs,H b=some (.kI o (.lst xs))
theorem YR{P:af}{w:World}{K:aa}{mg mb:bf}{CX:iJ}{k:Nat}{fa a:Addr}{fd:FuncData}{x:Str}{sp:Sp}{s₁:ae}{vs:List Value}{ns:List Int} (KX:K.In s₁.heap)(Mx:s₁.heap.Ns mainGlobals mg)(hb:s₁.heap.Ns builtinsNs mb)(hbb:∀x:Str,x≠"__name__"->mb x=bootBuiltins x)(a04:s₁.heap.NoLimit)(hg:s₁.gens=#[]) (ha:s₁.heap.get? a=some {cls:=.type "list",data:=.seq vs.toArray})(hi:IntsAre vs ns)(hl:ns.length<=sizeLine)(hr:cu k callerA) (F:∀ao:Heap,K.In ao->ao.Ns mainGlobals mg->f9 P w K mg ao CX k fa fd [x] sp)(a0O:∀(s:ae)(u:Value),BindsTo s fd ⟨[u],[]⟩ [(x,u)]) (eP:∀H:Hp,FY H->aG K H a (ns.map V.int)->sp [.ref a] H (λv _=>v= .bl true) λ_ _ _=>False) (EK:∀H e s',CX [] H s₁ (λ_ _ _=>False) e s'->False): codeAny (model P w) callerA (.call (.ref fa) ⟨[.ref a],[]⟩) (λr s'=>r= .ok (.ret (.bool true))/\OldK s₁.heap s'.heap/\s'.os=s₁.os/\AllBare s'.gens) s₁:=by
 have rv:=GU hi;have YL:=hi.length;have core:∀H:Hp,FY H->aG K H a (ns.map V.int)->da P w H s₁.heap->(∀b,H b≠none->b=a)->(H a≠none->K.lookup a=none)->codeAny (model P w) callerA (.call (.ref fa) ⟨[.ref a],[]⟩) (λr s'=>r= .ok (.ret (.bool true))/\OldK s₁.heap s'.heap/\s'.os=s₁.os/\AllBare s'.gens) s₁:=by
  intro H hO hS aW hA hK;have OQ:∀{b:Addr}{o:Obj},s₁.heap.get? b=some o->H b=none->(mF s₁.heap H).get? b=some o:=λe n=>a0r e n;have uB:∀{b:Addr}{o:Obj}{es:Array DictEntry}{ep:Nat},s₁.heap.get? b=some o->o.data= .dict es ep->H b=none:=λ{b o es ep} e d=>by cases q:H b with |none=>rfl |some u=>have e':b=a:=hA b (by rw[q];simp);subst e';rw[ha]at e;cases e;have d':Data.seq vs.toArray _=Data.dict es ep:=d;cases d'
  have xU:∀{b:Addr}{m:bf},s₁.heap.Ns b m->(mF s₁.heap H).Ns b m:=λ{b m} ⟨o,es,ep,e,d,r⟩=>⟨o,es,ep,OQ e (uB e d),d,r⟩;have MP:K.In (mF s₁.heap H):=λb o e=>OQ (KX b o e) (by cases q:H b with |none=>rfl |some u=>have e':b=a:=hA b (by rw[q];simp);subst e';rw[hK (by rw[q];simp)]at e;cases e);have hM:Mod K mg (mF s₁.heap H):=⟨MP,xU Mx,⟨mb,xU hb,hbb⟩,let⟨mc,h1,h2⟩:=a04;⟨mc,xU h1,h2⟩⟩;have e0:mY P w K mg (mF s₁.heap H) callerA [] s₁ H:=⟨Z,hM,λb o e=>Xf e,Nat.le_of_eq (a0q _ _),trivial,λb hb=>absurd (show b∈([]:List Addr)from hb) (by simp),aW,.of_eq hg⟩;refine we ((F _ MP (xU Mx)).run callerA [] s₁ H ⟨[.ref a],[]⟩ [.ref a] [.ref a] _ _ hr e0 (a0O s₁ (.ref a)) (.cons Z .nil) (eP H hO hS)) λr s' h=>?_;cases r with |error e=>exact(EK H e s' h).elim |ok fl=>cases fl with |next=>exact False.elim h |brk=>exact False.elim h |cont=>exact False.elim h |ret u=>obtain⟨v,H',os,bare,un,ZS,r',q⟩:=h;have q':v= .bl true:=q;subst q';obtain rfl:u=Value.bool true:=r';refine⟨Z,OldK.of_keep λb o e=>?_,os,bare⟩;cases q:H b with |none=>exact un.keep b o e q (by intro z;exact absurd (show b∈([]:List Addr)from z) (by simp)) (by simp) |some u=>
   rcases hO b with z|⟨ob,xs,z⟩
   ·rw[q]at z;cases z
   ·have z2:=un.gX b ob _ z
    obtain⟨e1,_⟩:=aW b _ z;obtain⟨e2,_⟩:=ZS b _ z2;rw[e]at e1;cases e1;exact e2
 cases hk:K.lookup a with |some o=>have e:=KX a o hk;rw[ha]at e;cases e;refine core (λ_=>none) (λ_=>.inl Z) (.inr ⟨_,vs.toArray,_,hk,Z,Z,Z,by rw[dB,YL];exact hl,by simpa using rv⟩) (λb u z=>by have z':(none:Option HO)=some u:=z;cases z') (λb z=>absurd rfl z) λz=>absurd rfl z |none=>
  refine core (λb=>if b=a then some (.kI {cls:=.type "list",data:=.seq vs.toArray} (.lst (ns.map V.int)))else none) (λb=>?_) (.inl (.inr ⟨{cls:=.type "list",data:=.seq vs.toArray},aR Z⟩)) (λb u z=>?_) (λb z=>?_) λ_=>hk
  ·by_cases hb:b=a
   ·exact .inr ⟨_,_,aR hb⟩
   ·exact .inl (aU hb)
  ·by_cases hb:b=a
   ·have z':=(aR hb).symm.trans z
    cases z';subst hb;exact⟨ha,by rw[bA];exact hl,vs,_,rv,ha⟩
   ·have z':=(aU hb).symm.trans z
    cases z'
  ·by_cases hb:b=a
   ·exact hb
   ·exact absurd (aU hb) z
theorem QN{l:PySem.W.OpenLaw}{n k:Nat}{q:af}{loose:List Str}{XP:(bf)->Heap->Prop}{YP:World->Heap->Prop}{d:DefRec}{K:Params->aa}{CX:World->iJ}{sp:World->Sp}{x:Str} (hn:l.most=some n)(rR:n<=sizeLine)(vd:d.params.defaults=[])(hr:cu k callerA) (hY:∀(w:World)(h:Heap),YP w h->(K w.params).In h) (F:∀(w:World)(mg:bf)(fa:Addr)(h:Heap),(K w.params).In h->h.Ns mainGlobals mg->mg d.name=some (.ref fa)->∃fd:FuncData,(∀(s:ae)(u:Value),BindsTo s fd ⟨[u],[]⟩ [(x,u)])/\∀ao:Heap,(K w.params).In ao->ao.Ns mainGlobals mg->f9 l.prog w (K w.params) mg ao (CX w) k fa fd [x] (sp w)) (eP:∀(w:World)(H:Hp)(a:Addr)(ns:List Int),ns.length<=n->FY H->aG (K w.params) H a (ns.map V.int)->sp w [.ref a] H (λv _=>v= .bl true) λ_ _ _=>False) (EK:∀(w:World)(H:Hp)(s:ae)(e:Value)(s':ae),CX w [] H s (λ_ _ _=>False) e s'->False): PySem.W.WalkO q loose XP YP l.row.toRowW d [] (λf vs=>PySem.call f vs):=by refine _AA.a5l hn vd λw s₀ s₁ mg mb fa o pm cd doc a vs ns G Y ho hd e9 uW Ea hints hlen hg=>?_;have KX:=hY w _ Y;obtain⟨fd,hb,hF⟩:=F w mg fa _ KX G.T.g uW;exact YR KX G.T.g G.T.b G.T.builtins G.T.nolimit hg Ea hints (fc hlen rR) hr hF hb (λH hO hS=>eP w H a ns hlen hO hS) λH e s'=>EK w H s₁ e s'
def inClass(s:Stmt)(j:Nat):Stmt:=match s with | .ClassDef _ _ _ body _ _ _ _ _ _ _=>body.getD j (.Pass ⟨0,0,0,0⟩) |_=>.Pass ⟨0,0,0,0⟩
def j6(s:Stmt):Arguments:=match s with | .FunctionDef _ a _ _ _ _ _ _ _ _=>a |_=>{posonlyargs:=[],args:=[],vararg:=none,kwonlyargs:=[],kw_defaults:=[],kwarg:=none,defaults:=[]}
def eQ(s:Stmt):List Stmt:=match s with | .FunctionDef _ _ b _ _ _ _ _ _ _=>b |_=>[]
def aM(s:Stmt):Scope:=match s with | .FunctionDef _ _ _ _ _ _ sc _ _ _=>sc |_=>{kind:=.function,names:=[],isGenerator:=false,isCoroutine:=false}
abbrev g9:iJ:=λ_ _ _ _ _ _=>False
abbrev E0:XK:=λ_ _ _=>False
theorem ur{X:Cx}:Passes g9 X E0:=λ_ _ _ _ _ _ _ h=>h.elim
structure iI(K:aa)(x qual:Str)(st:Stmt)(f:Addr)(fd:FuncData):Prop where
 ex:∃(oc:Value)(od:Option Addr)(kV doc pm:Value)(an:Option Addr)(aF ct:Value)(dX:Array (Option Value)),fd=PySem.W.fnOf x qual (j6 st) (eQ st) (aM st) .none kV doc pm an aF ct/\K.lookup f=some ⟨oc,od,.func fd,dX⟩/\PySem.W.codeIn K aF qual=true
 kp:PySem.W.keepIn K (.ref f)=true
section
variable {P:af}{w:World}{K:aa}{mg:bf}{ao:Heap}
theorem iI.ok{x qual:Str}{st:Stmt}{f:Addr}{fd:FuncData}{N ps:List Str}{k:Nat}{sp:Sp}(F:iI K x qual st f fd)(S:bc N ps (aM st))(len:∀vs H Q E,sp vs H Q E->vs.length=ps.length) (fA:∀(aF:Value)(A:ai)(outer:List Env)(s:ae)(H:Hp)(vs:List V)(Q:VK)(E:XK),cu k (A.deeper (envOfC qual (aM st) s.heap.objs.size f aF))->sp vs H Q E->∃t,eY (fB g9 P w K mg ao N qual (aM st) f aF A outer s H E).pH (eQ st) t/\t {nx:=λ_ H'=>Q .aY H',rt:=Q} (start N vs) H):f9 P w K mg ao g9 (k+1) f fd ps sp:=by obtain⟨oc,od,kV,doc,pm,an,aF,ct,dX,rfl,lk,e9⟩:=F.ex;refine Nf lk e9 S len λA outer s H vs Q E hr eP=>?_;obtain⟨t,h,q⟩:=fA aF A outer s H vs Q E hr eP;exact⟨t,h.pH,q⟩
theorem iI.binds{x qual:Str}{st:Stmt}{f:Addr}{fd:FuncData}{ps:List Str}(F:iI K x qual st f fd) (h:∀(kV doc pm:Value)(an:Option Addr)(aF ct:Value)(us:List Value),us.length=ps.length->bindArgs (PySem.W.fnOf x qual (j6 st) (eQ st) (aM st) .none kV doc pm an aF ct) ⟨us,[]⟩=pure (ps.zip us)):Binds K fd ps []:=by obtain⟨oc,od,kV,doc,pm,an,aF,ct,dX,rfl,lk,e9⟩:=F.ex;exact .all (h kV doc pm an aF ct)
theorem yO{x qual:Str}{st:Stmt}{f:Addr}{oc:Value}{od an:Option Addr}{dX:Array (Option Value)}{kV doc pm aF ct:Value}(l:K.lookup f=some ⟨oc,od,.func (PySem.W.fnOf x qual (j6 st) (eQ st) (aM st) .none kV doc pm an aF ct),dX⟩) (c:PySem.W.codeIn K aF qual=true)(k:PySem.W.keepIn K (.ref f)=true):iI K x qual st f (PySem.W.fnOf x qual (j6 st) (eQ st) (aM st) .none kV doc pm an aF ct):=⟨⟨oc,od,kV,doc,pm,an,aF,ct,dX,Z,l,c⟩,k⟩
end
section
variable {X:Cx}
theorem pv(i:Nat){x:Str}{pos:Pos}(hN:autoParam (X.N[i]? =some x) r8_._auto_1)(hv:autoParam (zB X.env.scope x) k8_._auto_1)(hd:autoParam ((x==("__debug__":Str))=false) q8_._auto_1) (e9:autoParam ((x==("__classdict__":Str))=false) q8_._auto_1):PE X (.Name x pos) (Hh i):=KG hN hv hd e9
end
theorem aZ{A B:Prop}(h:B):if false=true then A else B:=by rw[aU dc];exact h
theorem bE{A B:Prop}(h:A):if true=true then A else B:=by rw[aR rfl];exact h
theorem dZ{c A B:Prop}[Decidable c](h1:c->A)(h2:¬c->B):if c then A else B:=by
 by_cases h:c
 ·rw[aR h]
  exact h1 h
 ·rw[aU h]
  exact h2 h
def az(H H':Hp):Prop:=∀b o,H b=some o->H' b=some o
theorem az.refl(H:Hp):az H H:=λ_ _ h=>h
theorem az.trans{H H1 H2:Hp}(a:az H H1)(b:az H1 H2):az H H2:=λc o h=>b c o (a c o h)
theorem az.free{H H':Hp}(e:az H H'){l:Addr}(h:H' l=Option.none):H l=Option.none:=by cases q:H l with |none=>rfl |some o=>rw[e l o q]at h;cases h
theorem az.seq{K:aa}{H H':Hp}{a:Addr}{xs:List V}(e:az H H')(h:aG K H a xs):aG K H' a xs:=by
 rcases h with(h|⟨o,h⟩)|h
 ·exact .inl (.inl (e _ _ h))
 ·exact .inl (.inr ⟨o,e _ _ h⟩)
 ·exact .inr h
def Wd (i:Int):Prop:=i.natAbs<2^5000
theorem Wd.bits{i:Int}(h:Wd i):Builtin.Int.intBits i<=2^20:=fc (PyProof.Rows.intBits_le h) ay
theorem Wd.log{i:Int}(h:Wd i):i.natAbs.log2<9000:=by
 by_cases e:i.natAbs=0
 ·rw[e];decide
 ·have h1:i.natAbs.log2<5000:=(Nat.log2_lt e).mpr h
  lia
section
variable {X:Cx}
theorem qV:cf X (binaryOp .FloorDiv) (rI (λ_ j=>0<j/\Wd j) λi j=>.int (i/j)):=uv λi j _ _ _ _ _ hc q=>by have h1:(0:Int)<j:=hc.1;exact floordiv_int au (by rw[GB i au];exact q) (.inl (Q5 hc.2.log))
theorem L8:cf X (binaryOp .FloorDiv) (rI (λ_ j=>j≠0/\Wd j) λi j=>.int (i.fdiv j)):=uv λ_ _ _ _ _ _ _ hc q=>floordiv_int hc.1 q (.inl (Q5 hc.2.log))
end
def ql(K:aa)(H:Hp)(x:V)(T:String):Prop:=match x with | .aY=>T="NoneType" | .bl _=>T="bool" | .int _=>T="int" | .str _=>T="str" | .ref a=>(T="list"/\∃xs,aG K H a xs)\/(T="tuple"/\∃xs,aP K H a xs) |_=>False
def hW(T n:String):Bool:=T==n||(T=="bool"&&n=="int")
def wU:List String:=["NoneType","bool","int","str","list","tuple"]
def tI:List String:=["bool","int","str","list","tuple"]
theorem M8{K:aa}{T n:String}(h1:T∈wU)(h2:n∈tI):PySem.W.kitOne K (.type T) (.type n)=some (hW T n):=by
 have all:wU.all (λT=>tI.all λn=>PySem.W.kitOne [] (.type T) (.type n)==some (hW T n))=true:=by decide+kernel
 have a1:=fh.mp all T h1;have a2:=fh.mp a1 n h2;have e:PySem.W.kitOne K (.type T) (.type n)=PySem.W.kitOne [] (.type T) (.type n):=by unfold PySem.W.kitOne PySem.W.kitCls PySem.W.subIn;rfl
 rw[e];exact dr.mp a2
section
variable {X:Cx}
theorem ql.mem{K:aa}{H:Hp}{x:V}{T:String}(h:ql K H x T):T∈wU:=by cases x with |aY=>cases(show T="NoneType" from h);decide |bl b=>cases(show T="bool" from h);decide |int b=>cases(show T="int" from h);decide |str b=>cases(show T="str" from h);decide |ref a=>rcases(show(T="list"/\∃xs,aG K H a xs)\/(T="tuple"/\∃xs,aP K H a xs)from h)with⟨e,_⟩|⟨e,_⟩<;>cases e<;>decide |_=>exact(show False from h).elim
theorem M9{pins:List (Addr×Obj)}{s:ae}{O:St}{H:Hp}{x:V}{u:Value}{T:String}(I:Inv X pins O H s)(rx:RelV x u)(ty:ql X.K H x T): ∃P:Heap->Prop,PySem.W.KitX X.K u (.type T) P/\P s.heap/\u≠ .builtin "__main__.__loader__#opaque":=by cases x with
 |aY=>cases(show T="NoneType" from ty);cases(show u=Value.none from rx);exact⟨_,PySem.W.kitx_none,True.intro,λz=>nomatch z⟩ |bl b=>cases(show T="bool" from ty);cases(show u=Value.bool b from rx);exact⟨_,PySem.W.kitx_bool,True.intro,λz=>nomatch z⟩ |int b=>cases(show T="int" from ty);obtain⟨t,q⟩:=(show∃t,u=Value.int b t from rx);cases q;exact⟨_,PySem.W.kitx_int,True.intro,λz=>nomatch z⟩ |str b=>cases(show T="str" from ty);obtain⟨t,q⟩:=(show∃t,u=Value.str b t from rx);cases q;exact⟨_,PySem.W.kitx_str,True.intro,λz=>nomatch z⟩ |ref a=>
  cases(show u=Value.ref a from rx);rcases(show(T="list"/\∃xs,aG X.K H a xs)\/(T="tuple"/\∃xs,aP X.K H a xs)from ty)with⟨e,xs,hx⟩|⟨e,xs,hx⟩
  ·cases e
   obtain⟨its,r,⟨o,n,h1,h2,_⟩,_⟩:=I.list hx;exact⟨_,PySem.W.kitx_list,⟨o,h1,h2⟩,λz=>nomatch z⟩
  ·cases e
   obtain⟨its,r,⟨o,h1,h2,_⟩,_⟩:=I.tuple hx;exact⟨_,PySem.W.kitx_tuple,⟨o,h1,h2⟩,λz=>nomatch z⟩ |_=>exact(show False from ty).elim
inductive a7B(K:aa)(xs:List V)(H:Hp)(Q:VK):Prop |mk (x:_)(T:_)(n:_)(b:_)(h0:xs=[x,.ty n])(h1:ql K H x T)(h2:n∈tI)(h3:hW T n=b)(h4:Q (.bl b) H)
def Cz(K:aa):List V->Hp->VK->Prop:=λxs H Q=>a7B K xs H Q
theorem a53:dI X (.builtin "isinstance") (Cz X.K):=by intro pins s O H xs us Q I r h;obtain⟨x,T,n,b,rfl,ty,hn,rfl,q⟩:=h;obtain⟨u,c,rfl,rx,rc⟩:=vals2 r;cases(show c=Value.type n from rc);obtain⟨P,a9D,p,hx⟩:=M9 I rx ty;exact PySem.W.kia_one a9D I.dE p (M8 ty.mem hn) hx λtk=>⟨.bl (hW T n),H,I.tok _,Z,q⟩
inductive a7A(K:aa)(xs:List V)(H:Hp)(Q:VK):Prop |mk (x:V)(T:String)(p:Addr)(ns:List String)(b:Bool)(h0:xs=[x,.ref p])(h1:H p=some (.tup (ns.map V.ty)))(h2:ql K H x T)(h3:(∀n∈ns,n∈tI))(h4:ns.any (hW T)=b)(h5:Q (.bl b) H)
def Cy(K:aa):List V->Hp->VK->Prop:=λxs H Q=>a7A K xs H Q
theorem M7{K:aa}{T:String}(h1:T∈wU):∀{ns:List String},(∀n∈ns,n∈tI)->PySem.W.kitAny K (.type T) (ns.map Value.type)=some (ns.any (hW T)) |[],_=>rfl |n::r,h=>by have e:=M8 (K:=K) h1 (h n (Gp ..));have ih:=M7 (K:=K) h1 (ns:=r) λm hm=>h m (t9 _ hm);rw[qD,PySem.W.kitAny,e,tq];cases hW T n with |true=>rfl |false=>simpa using ih
theorem GR:∀{ns:List String}{us:List Value},Vals (ns.map V.ty) us->us=ns.map Value.type |[],_,.nil=>rfl |n::r,_,.cons q t=>by cases(show _=Value.type n from q);rw[GR t];rfl
theorem a52:dI X (.builtin "isinstance") (Cy X.K):=by intro pins s O H xs us Q I r h;obtain⟨x,T,p,ns,b,rfl,hp,ty,hn,rfl,q⟩:=h;obtain⟨u,c,rfl,rx,rc⟩:=vals2 r;cases(show c=Value.ref p from rc);obtain⟨P,a9D,pp,hx⟩:=M9 I rx ty;obtain⟨_,its,rv,⟨cls,dd,dt,sl⟩,h1,h2,n,h3⟩:=(show eR X.prog X.w H s.heap p (.tup (ns.map V.ty))from I.aW p _ hp);simp only at h2 h3;subst h2 h3;have e:=GR rv;subst e;exact PySem.W.kia_tup a9D I.dE pp h1 (M7 ty.mem hn) hx λtk=>⟨.bl _,H,I.tok _,Z,q⟩
end
mutual
def RD(K:aa)(H:Hp):V->ah->Prop |x,.none=>x= .aY |x,.bool b=>x= .bl b |x,.int i=>x= .int i |x,.str y=>x= .str y |x,.list ds=>∃a xs,x= .ref a/\aG K H a xs/\aJ K H xs ds |x,.tuple ds=>∃a xs,x= .ref a/\aP K H a xs/\aJ K H xs ds |_,.dict _=>False
def aJ (K:aa)(H:Hp):List V->List ah->Prop |xs,[]=>xs=[] |xs,d::ds=>∃y ys,xs=y::ys/\RD K H y d/\aJ K H ys ds
end
section
variable {X:Cx}
mutual
theorem RD.reads{pins:List (Addr×Obj)}{s:ae}{O:St}{H:Hp}(I:Inv X pins O H s):∀{x:V}{u:Value}(d:ah),RelV x u->RD X.K H x d->∃as,Reads s.heap u d as |x,u,.none,r,h=>by cases(show x= .aY from by simpa[RD]using h);cases(show u=Value.none from r);exact⟨_,.none⟩ |x,u,.bool b,r,h=>by cases(show x= .bl b from by simpa[RD]using h);cases(show u=Value.bool b from r);exact⟨_,.bool b⟩ |x,u,.int i,r,h=>by cases(show x= .int i from by simpa[RD]using h);obtain⟨t,q⟩:=(show∃t,u=Value.int i t from r);cases q;exact⟨_,.int i t⟩ |x,u,.str y,r,h=>by cases(show x= .str y from by simpa[RD]using h);obtain⟨t,q⟩:=(show∃t,u=Value.str y t from r);cases q;exact⟨_,.str y t⟩ |x,u,.list ds,r,h=>by rw[RD]at h;obtain⟨a,xs,rfl,hx,hd⟩:=h;cases(show u=Value.ref a from r);obtain⟨its,rv,⟨o,n,h1,h2,h3,h4⟩,_⟩:=I.list hx;obtain⟨as,q⟩:=aJ.reads I ds rv hd;exact⟨_,.list h1 h2 h4 (by simpa using q)⟩ |x,u,.tuple ds,r,h=>by rw[RD]at h;obtain⟨a,xs,rfl,hx,hd⟩:=h;cases(show u=Value.ref a from r);obtain⟨its,rv,⟨o,h1,h2,n,h4⟩,_⟩:=I.tuple hx;obtain⟨as,q⟩:=aJ.reads I ds rv hd;exact⟨_,.tuple h1 h2 h4 (by simpa using q)⟩ |x,u,.dict _,r,h=>by simp[RD]at h
theorem aJ.reads {pins:List (Addr×Obj)}{s:ae}{O:St}{H:Hp}(I:Inv X pins O H s):∀{xs:List V}{us:List Value}(ds:List ah),Vals xs us->aJ X.K H xs ds->∃as,ReadsAll s.heap us ds as |xs,us,[],r,h=>by cases(show xs=[]from by simpa[aJ]using h);cases r;exact⟨_,.nil⟩ |xs,us,d::ds,r,h=>by rw[aJ]at h;obtain⟨y,ys,rfl,h1,h2⟩:=h;cases r with |cons ra rb=>obtain⟨as,q⟩:=RD.reads I d ra h1;obtain⟨bs,q'⟩:=aJ.reads I ds rb h2;exact⟨_,.cons q q'⟩
end
inductive a7J(K:aa)(x:V)(y:V)(H:Hp)(Q:VK):Prop |mk (d:_)(e:_)(h0:RD K H x d)(h1:RD K H y e)(h2:SeqAt.shaped d=true)(h3:SeqAt.shaped e=true)(h4:Q (.bl (PyData.eqv d e)) H)
def CB(K:aa):R2:=λx y H Q=>a7J K x y H Q
inductive a7u(K:aa)(x:V)(y:V)(H:Hp)(Q:VK):Prop |mk (d:_)(e:_)(h0:RD K H x d)(h1:RD K H y e)(h2:SeqAt.shaped d=true)(h3:SeqAt.shaped e=true)(h4:Q (.bl (!PyData.eqv d e)) H)
def Cu(K:aa):R2:=λx y H Q=>a7u K x y H Q
theorem Vt(hu:X.A.units+64<cLine):cf X (compareOp .Eq) (CB X.K):=by intro pins s O H x y v u Q I rx ry h;obtain⟨d,e,hd,he,sd,se,q⟩:=h;obtain⟨as,ra⟩:=RD.reads I d rx hd;obtain⟨bs,rb⟩:=RD.reads I e ry he;exact eq_dataH ra rb sd se hu ⟨.bl _,H,I,Z,q⟩
theorem Vp(hu:X.A.units+64<cLine):cf X (compareOp .NotEq) (Cu X.K):=by intro pins s O H x y v u Q I rx ry h;obtain⟨d,e,hd,he,sd,se,q⟩:=h;obtain⟨as,ra⟩:=RD.reads I d rx hd;obtain⟨bs,rb⟩:=RD.reads I e ry he;exact ne_dataH ra rb sd se hu ⟨.bl _,H,I,Z,q⟩
end
theorem az.new{H:Hp}{t:Addr}{o:HO}(ht:H t=none):az H (upd H t o):=λb o' e=>by rw[bh (fv e ht)];exact e
structure Nw(H H':Hp)(p:Addr)(o:HO):Prop where
 no:H p=none
 at':H' p=some o
 same:az H H'
 eq:H'=upd H p o
theorem Nw.of{H:Hp}{p:Addr}{o:HO}(h:H p=none):Nw H (upd H p o) p o:=⟨h,bU,.new h,Z⟩
def zq:List Str:=["len","abs","min","max","range","isinstance","int","bool","str","tuple","list","any","all","sum","zip","enumerate","sorted","reversed","ord","chr","divmod","repr","dict","set"]
def bu (mg:bf):Prop:=∀x∈zq,mg x=none
theorem bu.at{mg:bf}(B:bu mg)(x:Str)(h:autoParam (x∈zq) q8_._auto_1):mg x=none:=B x h
theorem cE{α:Type}{C:List α->Prop}(h:∀a,C [a]):∀us:List α,us.length=1->C us |[_],_=>h _
theorem dj{α:Type}{C:List α->Prop}(h:∀a b,C [a,b]):∀us:List α,us.length=2->C us |[_,_],_=>h _ _
theorem lO{α:Type}{C:List α->Prop}(h:∀a b c,C [a,b,c]):∀us:List α,us.length=3->C us |[_,_,_],_=>h _ _ _
theorem P4{α:Type}{C:List α->Prop}(h:∀a b c d,C [a,b,c,d]):∀us:List α,us.length=4->C us |[_,_,_,_],_=>h _ _ _ _
theorem al5{α:Type}{C:List α->Prop}(h:∀a b c d e,C [a,b,c,d,e]):∀us:List α,us.length=5->C us |[_,_,_,_,_],_=>h _ _ _ _ _
def N7(N P:List Str)(sc:Scope):Bool:=decide (sc.kind= .function)&& !sc.isCoroutine&& !sc.isGenerator&&decide N.Nodup&&decide (N.take P.length=P)&&P.all (λx=>decide (sc.names.lookup x=some .local\/sc.names.lookup x=some .cell))&&sc.names.all λy=>decide (y.2≠ .free)
theorem bp{N P:List Str}{sc:Scope}(h:N7 N P sc=true):bc N P sc:=by unfold N7 at h;simp only[du,wc,tD,fh]at h;obtain⟨⟨⟨⟨⟨⟨h1,h2⟩,h3⟩,h4⟩,h5⟩,h6⟩,h7⟩:=h;exact⟨h1,h2,h3,h4,h5,h6,h7⟩
structure FA(K:aa)(mg:bf)(x:Str)(st:Stmt):Prop where ex:∃f fd,mg x=some (.ref f)/\iI K x x st f fd
def aD(P:af)(w:World)(K:aa)(mg:bf)(ao:Heap)(x:Str)(k:Nat)(sp:Sp):Prop:=∃f fd ps,f9 P w K mg ao g9 k f fd ps sp/\mg x=some (.ref f)/\PySem.W.keepIn K (.ref f)=true/\Binds K fd ps []
section
variable {P:af}{w:World}{K:aa}{mg:bf}{ao:Heap}
theorem a30{h:Heap}{x:Str}{st:Stmt}{f:Addr}{oc:Value}{od an:Option Addr}{dX:Array (Option Value)}{kV doc pm aF ct:Value}(X:K.In h)(G:h.Ns mainGlobals mg) (a:PySem.W.nsIn K mainGlobals x=some (some (.ref f))) (l:K.lookup f=some ⟨oc,od,.func (PySem.W.fnOf x x (j6 st) (eQ st) (aM st) .none kV doc pm an aF ct),dX⟩) (c:PySem.W.codeIn K aF x=true)(k:PySem.W.keepIn K (.ref f)=true):FA K mg x st:=⟨f,_,oA X G a,yO l c k⟩
theorem FA.has{x:Str}{st:Stmt}{N ps:List Str}{k:Nat}{sp:Sp}(F:FA K mg x st)(S:bc N ps (aM st))(len:∀vs H Q E,sp vs H Q E->vs.length=ps.length) (hb:∀(kV doc pm:Value)(an:Option Addr)(aF ct:Value)(us:List Value),us.length=ps.length->bindArgs (PySem.W.fnOf x x (j6 st) (eQ st) (aM st) .none kV doc pm an aF ct) ⟨us,[]⟩=pure (ps.zip us)) (fA:∀(f:Addr)(aF:Value)(A:ai)(outer:List Env)(s:ae)(H:Hp)(vs:List V)(Q:VK)(E:XK),cu k (A.deeper (envOfC x (aM st) s.heap.objs.size f aF))->sp vs H Q E->∃t,eY (fB g9 P w K mg ao N x (aM st) f aF A outer s H E).pH (eQ st) t/\t {nx:=λ_ H'=>Q .aY H',rt:=Q} (start N vs) H):aD P w K mg ao x (k+1) sp:=by obtain⟨f,fd,hm,F⟩:=F.ex;exact⟨f,fd,ps,F.ok S len λaF A outer s H vs Q E=>fA f aF A outer s H vs Q E,hm,F.kp,F.binds hb⟩
end
section
variable {X:Cx}{k:Nat}{x:Str}{p pos:Pos}{e:Expr}{es:List Expr}{t:TA}{sp:Sp}
def Hq(sp:Sp)(t:TA):TE:=λO H Q=>t O H λvs H1=>sp vs H1 Q E0
theorem Va(F:aD X.prog X.w X.K X.mg X.ao x k sp)(hr:cu k X.A)(hg:Gl X x)(ha:PA X (e::es) t)(fz:autoParam ((x==("__debug__":Str))=false) q8_._auto_1) (he:autoParam (starEach (e::es) X.env=(false,eval e X.env)::starEach es X.env) r8_._auto_1)(dR:autoParam ((backTo pos (starEach es X.env)).any (·.1)=false) r8_._auto_1): PE X (.Call (.Name x p) (e::es) [] pos) (Hq sp t):=by
 obtain⟨f,fd,ps,F,hm,hk,hb⟩:=F;have h:=Vc (pos:=pos) (p:=p) F hr hg hm hk hb .nil ur ha fz he dR;intro pins s O H Q I hq;refine h pins s O H Q I ?_;have e1:(λ(vs:List V) H1=>sp (vs++[]) H1 Q E0)=λvs H1=>sp vs H1 Q E0:=by funext vs H1;rw[lV]
 show t O H λvs H1=>sp (vs++[]) H1 Q E0;rw[e1];exact hq
theorem pf{j:Nat}(F:aD X.prog X.w X.K X.mg X.ao x j sp)(hr:cu k X.A)(ha:PA X (e::es) t)(hjk:autoParam (j<=k) q8_._auto_1)(hg:autoParam (Gl X x) r8_._auto_1)(fz:autoParam ((x==("__debug__":Str))=false) q8_._auto_1)(he:autoParam (starEach (e::es) X.env=(false,eval e X.env)::starEach es X.env) r8_._auto_1)(dR:autoParam ((backTo pos (starEach es X.env)).any (·.1)=false) r8_._auto_1):PE X (.Call (.Name x p) (e::es) [] pos) (Hq sp t):=Va F (hr.mono hjk) hg ha fz he dR
theorem bV:cf X (binaryOp .Mult) (rI (λi j=>IntMulOk i j) λi j=>.int (i*j)):=uv λ_ _ _ _ _ _ _ hc q=>mul_int q hc
theorem Vs:cf X (compareOp .Eq) (iS λi j=>.bl (decide (i=j))):=qX λ_ _ _ _ _ _ _ q=>eq_int (by rw[Qv];exact q)
theorem Vo:cf X (compareOp .NotEq) (iS λi j=>.bl (!decide (i=j))):=qX λ_ _ _ _ _ _ _ q=>ne_int (by rw[bne,Qv];exact q)
theorem Vu(hu:X.A.units+64<cLine):cf X (compareOp .Eq) (λx y H Q=>iS (λi j=>.bl (decide (i=j))) x y H Q\/CB X.K x y H Q):=Vs.or (Vt hu)
theorem Vq(hu:X.A.units+64<cLine):cf X (compareOp .NotEq) (λx y H Q=>iS (λi j=>.bl (!decide (i=j))) x y H Q\/Cu X.K x y H Q):=Vo.or (Vp hu)
mutual
theorem eqv_refl:∀d:ah,d.canLay0=true->PyData.eqv d d=true | .none,_=>by simp[PyData.eqv] | .bool b,_=>by simp[PyData.eqv] | .int i,_=>by simp[PyData.eqv] | .str x,_=>by simp[PyData.eqv] | .list ds,h=>by simp only[PyData.eqv];exact eqvAll_refl ds (by simpa[PyData.canLay0]using h) | .tuple ds,h=>by simp only[PyData.eqv];exact eqvAll_refl ds (by simpa[PyData.canLay0]using h) | .dict _,h=>by simp[PyData.canLay0]at h
theorem eqvAll_refl:∀ds:List ah,PyData.canLayAll0 ds=true->PyData.eqvAll ds ds=true |[],_=>by simp[PyData.eqvAll] |d::ds,h=>by simp only[PyData.canLayAll0,du]at h;simp only[PyData.eqvAll,du];exact⟨eqv_refl d h.1,eqvAll_refl ds h.2⟩
end
theorem U9{K:aa}{H:Hp}(b:Bool):RD K H (.bl b) (.bool b):=by simp[RD]
theorem eu{K:aa}{H:Hp}(i:Int):RD K H (.int i) (.int i):=by simp[RD]
theorem bO{K:aa}{H:Hp}(x:Str):RD K H (.str x) (.str x):=by simp[RD]
theorem qM{K:aa}{H:Hp}:RD K H .aY .none:=by simp[RD]
theorem eZ{K:aa}{H:Hp}{p:Addr}{xs:List V}{ds:List ah}(h:aP K H p xs)(r:aJ K H xs ds):RD K H (.ref p) (.tuple ds):=by rw[RD];exact⟨p,xs,Z,h,r⟩
theorem Cq{K:aa}{H:Hp}{p:Addr}{xs:List V}{ds:List ah}(h:aG K H p xs)(r:aJ K H xs ds):RD K H (.ref p) (.list ds):=by rw[RD];exact⟨p,xs,Z,h,r⟩
theorem de{K:aa}{H:Hp}:aJ K H [] []:=by simp[aJ]
theorem cj{K:aa}{H:Hp}{x:V}{xs:List V}{d:ah}{ds:List ah}(h:RD K H x d)(r:aJ K H xs ds):aJ K H (x::xs) (d::ds):=by rw[aJ];exact⟨x,xs,Z,h,r⟩
inductive a69(t:TS)(D:Ends)(O:St)(H:Hp):Prop |mk (G0:St->Hp->Prop)(h0:t {D with nx:=G0} O H)(h1:∀σ' H',G0 σ' H'->D.nx σ' H')
def RS(t:TS):TS:=λD O H=>a69 t D O H
theorem ke{st:Stmt}{t:TS}(h:PS X st t):PS X st (RS t):=by intro pins s O H D I hq;obtain⟨G0,q,m⟩:=hq;refine aV (h pins s O H _ I q) λf s1 q1=>?_;cases f with |next=>obtain⟨σ',H',I',q'⟩:=q1;exact⟨σ',H',I',m _ _ q'⟩ |brk=>exact q1 |cont=>exact q1 |ret u=>exact q1
end
def oo(K:aa)(xs:List Str):Prop:=∀x∈xs,PySem.W.nsIn K mainGlobals x=some none
theorem oo.nil{K:aa}:oo K []:=λ_ h=>nomatch h
theorem oo.cons{K:aa}{x:Str}{xs:List Str}(a:PySem.W.nsIn K mainGlobals x=some none)(r:oo K xs):oo K (x::xs):=λy hy=>by
 rcases bS.mp hy with e|e
 ·rw[e];exact a
 ·exact r y e
theorem a5d{K:aa}{mg:bf}{h:Heap}(X:K.In h)(G:h.Ns mainGlobals mg)(a:oo K zq):bu mg:=λx hx=>PySem.W.mg_none_of X G (a x hx)
theorem Fv{env:Env}:∀(ns:List (Str×NameKind))(cs:List (Str×Addr)),(∀x∈ns,x.2= .free->∃c,env.cells.lookup x.1=some c)->(∀x c,cs.lookup x=some c->env.cells.lookup x=some c)->∃cl,(forIn ns cs (λx r=>if(x.2==NameKind.free)=true then do let a<-cellOf env x.1;pure (ForInStep.yield ((x.1,a)::r))else pure (ForInStep.yield r)):Sem (List (Str×Addr)))=pure cl/\(∀x c,cl.lookup x=some c->env.cells.lookup x=some c)/\(∀x c,cs.lookup x=some c->∃c',cl.lookup x=some c')/\∀x∈ns,x.2= .free->∃c,cl.lookup x.1=some c
 |[],cs,_,h2=>⟨cs,Z,h2,λx c e=>⟨c,e⟩,λ_ h=>nomatch h⟩ |(n,k)::r,cs,h1,h2=>by
  by_cases hk:k= .free
  ·subst hk
   obtain⟨c,hc⟩:=h1 (n,.free) (.head _) rfl;have e1:cellOf env n=pure c:=by unfold cellOf;rw[show env.cells.lookup n=some c from hc]
   obtain⟨cl,a1,a2,a3,a4⟩:=Fv r ((n,c)::cs) (λx hx=>h1 x (.tail _ hx)) (λx d e=>by rw[iP]at e;cases z:x==n with |true=>rw[z]at e;cases e;rw[dr.mp z];exact hc |false=>rw[z]at e;exact h2 x d e);refine⟨cl,?_,a2,λx d e=>?_,λx hx hf=>?_⟩
   ·rw[Gv]
    show(do let r'<-(if(NameKind.free==NameKind.free)=true then do let a<-cellOf env n;pure (ForInStep.yield ((n,a)::cs))else pure (ForInStep.yield cs));_)=_;rw[aR (by rfl),e1];exact a1
   ·by_cases z:x==n
    ·exact a3 x c (by rw[iP,z])
    ·exact a3 x d (by rw[iP,wH.mpr z];exact e)
   ·rcases bS.mp hx with rfl|hx
    ·exact a3 n c (by rw[iP,wg])
    ·exact a4 x hx hf
  ·obtain⟨cl,a1,a2,a3,a4⟩:=Fv r cs (λx hx=>h1 x (.tail _ hx)) h2
   refine⟨cl,?_,a2,a3,λx hx hf=>?_⟩
   ·rw[Gv]
    show(do let r'<-(if(k==NameKind.free)=true then do let a<-cellOf env n;pure (ForInStep.yield ((n,a)::cs))else pure (ForInStep.yield cs));_)=_;rw[aU (by simpa using hk)];exact a1
   ·rcases bS.mp hx with rfl|hx
    ·exact absurd hf hk
    ·exact a4 x hx hf
theorem OA{env:Env}{scope:Scope}(h1:∀x∈scope.names,x.2= .free->∃c,env.cells.lookup x.1=some c): ∃cl,closureFor scope env=pure cl/\(∀x c,cl.lookup x=some c->env.cells.lookup x=some c)/\∀x∈scope.names,x.2= .free->∃c,cl.lookup x.1=some c:=by
 obtain⟨cl,a1,a2,_,a4⟩:=Fv (env:=env) scope.names [] h1 (λx c e=>nomatch e);refine⟨cl,?_,a2,a4⟩;unfold closureFor;show(forIn scope.names ([]:List (Str×Addr)) (λ(x:Str×NameKind) r=>match x with|(name,kind)=>if(kind==NameKind.free)=true then do let a<-cellOf env name;pure (ForInStep.yield ((name,a)::r))else pure (ForInStep.yield r))>>=λr=>(pure r:Sem (List (Str×Addr))))=pure cl;have ef:(λ(x:Str×NameKind)(r:List (Str×Addr))=>match x with|(name,kind)=>(if(kind==NameKind.free)=true then do let a<-cellOf env name;pure (ForInStep.yield ((name,a)::r))else pure (ForInStep.yield r):Sem (ForInStep (List (Str×Addr))))) =λx r=>if(x.2==NameKind.free)=true then do let a<-cellOf env x.1;pure (ForInStep.yield ((x.1,a)::r))else pure (ForInStep.yield r):=by funext x r;obtain⟨n,k⟩:=x;rfl
 rw[ef,a1];rfl
theorem LR{env:Env}(hk:env.scope.kind= .function){x:Str}(hx:env.kindOf x=some .cell):∀{names:List (Str×NameKind)},names.lookup x=some .free->(names.map λ(n,k)=>if(k==NameKind.free&&env.scope.kind== .function&&env.kindOf n==some .cell)then(n,NameKind.cell)else(n,k)).lookup x=some .cell |[],h=>nomatch h |(n,k)::r,h=>by have ih:=@LR env hk x hx r;show List.lookup x ((if(k==NameKind.free&&env.scope.kind== .function&&env.kindOf n==some .cell)=true then(n,NameKind.cell)else(n,k))::_)=_;cases z:x==n with |true=>simp only[iP,z]at h;cases h;have e:=dr.mp z;subst e;rw[aR (by rw[hk,hx];rfl),iP,z] |false=>simp only[iP,z]at h;split<;>(simp only[iP,z];exact ih h)
def eJ(X:Cx)(N:List Str)(scope:Scope)(cl:List (Str×Addr))(s:ae)(H:Hp)(fp:List Addr)(pins:List (Addr×Obj)):Cx:={prog:=X.prog,w:=X.w,K:=X.K,mg:=X.mg,ao:=X.ao,A:=X.A,N:=N,s₀:=s,H₀:=H,env:=compEnvC scope cl s.heap.objs.size X.env,outer:=X.stack,stack:=X.stack,ex:=fp,fn:=λ_=>false,calm:=X.calm,pn:=X.pn++pins,xe:=λ_ _=>False}
def stC(js:List (Option Nat))(O:St):St:=js.map λ|none=>none|some j=>(O[j]?).join
def zm(X:Cx)(N:List Str)(js:List (Option Nat))(scope:Scope):Bool:=N.length==js.length&&(N.zip js).all λp=>match p.2 with|none=>true|some j=>X.N[j]? ==some p.1&&scope.names.lookup p.1==some NameKind.free&&X.env.kindOf p.1==some NameKind.cell
def sF(X:Cx)(scope:Scope):Bool:=scope.kind== .function&&X.env.scope.kind== .function&&scope.names.all λx=>match x.2 with | .free=>X.env.kindOf x.1==some NameKind.cell | .cell=>false | .local=>scope.names.lookup x.1==some NameKind.local |_=>true
section
variable {X:Cx}{pins:List (Addr×Obj)}{O:St}{H:Hp}{s:ae}
theorem lookup_mem{α β:Type}[BEq α][LawfulBEq α]:∀{l:List (α×β)}{x:α}{b:β},l.lookup x=some b->(x,b)∈l |[],_,_,h=>nomatch h |(n,k)::r,x,b,h=>by rw[iP]at h;cases z:x==n with |true=>rw[z]at h;cases h;rw[dr.mp z];exact .head _ |false=>rw[z]at h;exact .tail _ (lookup_mem h)
theorem Kf{env:Env}{x:Str}{k:NameKind}:∀{names:List (Str×NameKind)},(names.map λ(n,k)=>if(k==NameKind.free&&env.scope.kind== .function&&env.kindOf n==some .cell)then(n,NameKind.cell)else(n,k)).lookup x=some k->names.lookup x=some k\/(k= .cell/\names.lookup x=some .free) |[],h=>nomatch h |(n,k')::r,h=>by have ih:=@Kf env x k r;have h':List.lookup x ((if(k'==NameKind.free&&env.scope.kind== .function&&env.kindOf n==some .cell)=true then(n,NameKind.cell)else(n,k'))::(r.map λ(n,k)=>if(k==NameKind.free&&env.scope.kind== .function&&env.kindOf n==some .cell)then(n,NameKind.cell)else(n,k)))=some k:=h;cases z:x==n with
 |true=>
  split at h'
  ·rename_i hc
   simp only[iP,z]at h';cases h';rw[du,du]at hc;have e:k'= .free:=dr.mp hc.1.1;subst e;exact .inr ⟨Z,by rw[iP,z]⟩
  ·simp only[iP,z]at h'
   cases h';exact .inl (by rw[iP,z]) |false=>
  rw[iP,z];refine ih ?_;split at h'
  ·simpa only[iP,z]using h'
  ·simpa only[iP,z]using h'
theorem Inv.comp{N:List Str}{js:List (Option Nat)}{scope:Scope}{cl:List (Str×Addr)}{fp:List Addr}{h':Heap}{tk:Nat}(I:Inv X pins O H s)(hN:zm X N js scope=true)(hS:sF X scope=true) (c1:∀x c,cl.lookup x=some c->X.env.cells.lookup x=some c)(c2:∀x∈scope.names,x.2= .free->∃c,cl.lookup x.1=some c)(hf:∀b∈fp,jz X pins H b)(hfl:∀b∈fp,b<s.heap.objs.size) (hn:h'.Ns s.heap.objs.size λ_=>none)(hk:∀b o,s.heap.get? b=some o->h'.get? b=some o):Inv (eJ X N scope cl s H fp pins) [] (stC js O) H {s with heap:=h',toks:=tk}:=by
 unfold sF at hS;rw[du,du]at hS;obtain⟨⟨s1,s2⟩,s3⟩:=hS;have kE:scope.kind= .function:=dr.mp s1;have a09:X.env.scope.kind= .function:=dr.mp s2;unfold zm at hN;rw[du]at hN;obtain⟨n1,n2⟩:=hN;have hlen:N.length=js.length:=dr.mp n1;have Ml:∀x k,(relabel scope X.env).names.lookup x=some k->scope.names.lookup x=some k\/(k= .cell/\scope.names.lookup x=some .free):=λx k e=>Kf e;have Xx:∀x,scope.names.lookup x≠some .cell:=λx e=>by have:=fh.mp s3 _ (lookup_mem e);exact dc this
 have N6:∀b∈(eJ X N scope cl s H fp pins).fs,b∈X.env.locals::X.fs:=I.Ai;have ok:(eJ X N scope cl s H fp pins).Ok:={
  mod:=I.ok.mod
  kind:=kE
  glob:=I.ok.glob
  blt:=I.ok.blt
  above:=bj _
  inj:=λx y c e1 e2=>I.ok.inj x y c (c1 x c e1) (c1 y c e2)
  has:=λx hx=>by
   have fr:scope.names.lookup x=some .free->∃c,cl.lookup x=some c:=λe=>c2 (x,.free) (lookup_mem e) rfl;rcases hx with e|e
   ·rcases Ml x _ e with e|⟨_,e⟩
    ·exact absurd e (Xx x)
    ·exact fr e
   ·rcases Ml x _ e with e|⟨z,_⟩
    ·exact fr e
    ·cases z
  og:=λx c e=>nomatch e
  hd:=I.ok.hd
  frames:=I.ok.frames
  oP:=.inl rfl
  vt:=λb hb=>⟨dA (hfl b hb),λx c e=>(hf b hb).2.2.2.2.1 x c (c1 x c e)⟩
  bs:=I.bs
  jx:=fc I.ok.jx I.sz
  nK:=λb o e hb=>by
   rcases(hf b hb).2.2.2.1 with z|z
   ·exact I.ok.nK b o e z
   ·exact absurd (fb (bN e) (fc I.ok.jx z)) (ng _)
  mM:=λb hb z=>by
   obtain⟨_,q1,q2,_⟩:=hf b hb;rcases bS.mp (N6 b z)with e|e
   ·exact q1 e
   ·exact q2 e
  gW:=I.stack
  kJ:=I.qJ};refine⟨ok,Z,I.bare,Un.kept hk,⟨_,hn,λi x v e1 e2 e3=>?_⟩,λx c e=>?_,I.aW.fresh (bj _),λx c e=>I.iE x c (c1 x c e),λp hp=>?_,I.aW.kept hk,?_⟩
 ·have sA:(js.map λ|none=>none|some j=>(O[j]?).join)[i]? =some (some v):=e2
  rw[bK]at sA;cases hj:js[i]? with |none=>rw[hj]at sA;cases sA |some o=>rw[hj]at sA;cases o with |none=>cases sA |some j=>
   have hz:(N.zip js)[i]? =some (x,some j):=by rw[oF];exact⟨e1,hj⟩
   have OB:=fh.mp n2 _ (fg hz);simp only[du,dr]at OB;obtain⟨⟨h1,h2⟩,h3⟩:=OB;have ze:(O[j]?).join=some v:=by simpa using sA
   have hσ:O[j]? =some (some v):=by cases q:O[j]? with |none=>rw[q]at ze;cases ze |some o=>
    rw[q]at ze;have:o=some v:=by simpa using ze
    rw[this]
   obtain⟨m,hm,hl⟩:=I.loc;obtain⟨u,r,l⟩:=hl j x v h1 hσ (.inr (.inl h3));refine⟨u,r,?_⟩;rcases l with⟨k,_⟩|⟨_,c,hc,nT⟩
   ·rw[h3]at k;cases k
   ·obtain⟨c',gE⟩:=c2 (x,.free) (lookup_mem h2) rfl
    have:=c1 x c' gE;rw[hc]at this;cases this;refine .inr ⟨.inl (LR a09 h3 h2),c,gE,?_⟩;obtain⟨ob,ho,hd⟩:=nT;exact⟨ob,hk _ _ ho,hd⟩
 ·obtain⟨v,ob,ho,hd⟩:=I.cell x c (c1 x c e)
  exact⟨v,ob,hk _ _ ho,hd⟩
 ·have rQ:p∈X.pn++pins:=by simpa[eJ]using hp
  obtain⟨a1,a2,a3,a4,a5⟩:=I.pin p rQ;refine⟨hk _ _ a1,a2,dA (bN a1),λz=>?_,a5⟩;rcases bS.mp (N6 p.1 z)with e|e
  ·exact a3 e
  ·exact a4 e
 ·show(js.map _).length=N.length
  rw[bA,hlen]
end
theorem Ox{prog:af}{w:World}{A:ai}{R:Result->ae->Prop}{s:ae}{elt target iter:Expr}{ifs:List Expr}{scope:Scope}{pos:Pos}{it acc:Value}{env:Env}(I:Nat->ae->Prop) (turn:∀n s,I n s->wpAny (model prog w) A (pyNext it) (λr s₁=>match r with |none=>R (.ok .next) s₁ |some v=>wpAny (model prog w) A (letOwnedTupleGo target it v) (λ_ s₁=>wpAny (model prog w) A (assign target env v) (λ_ s₂=>wpAny (model prog w) A (forIn ifs true λc r=>if r=true then do let ok<-isTrue c env (eval c env);pure (ForInStep.yield ok)else pure (ForInStep.yield r)) (λok s₃=>if ok=true then wpAny (model prog w) A (eval elt env) (λx s₄=>wpAny (model prog w) A (call (.builtin "list.append") [acc,x]) (λ_ s₅=>∃m,m<n/\I m s₅) (λ_ _=>False) s₄) (λ_ _=>False) s₃ else∃m,m<n/\I m s₃) (λ_ _=>False) s₂) (λ_ _=>False) s₁) (λ_ _=>False) s₁) (λ_ _=>False) s) (n:Nat)(h:I n s):codeAny (model prog w) A (.compLoop (.ListComp elt [⟨target,iter,ifs,0⟩] scope pos) 0 it acc env) R s:=by refine codeAny_loop Z I (λn s hI=>?_) n h;show wpAny _ A ((compTurn (.ListComp elt [⟨target,iter,ifs,0⟩] scope pos) 0 it acc env).onRaise (λx=>do noteFrame x env;theTreesLotGoes x)) _ _ s;refine wpAny_noted ?_;rw[compTurn_list];refine aA (qw (aA (fP (turn n s hI) (λr s₁ h₁=>?_) λ_ _ h'=>h'.elim)));cases r with |none=>exact bw h₁ |some v=>refine aA (fP h₁ (λ_ a8o h₁=>?_) λ_ _ h'=>h'.elim);refine aA (fP h₁ (λ_ s₂ h₂=>aA (fP h₂ (λok s₃ h₃=>?_) λ_ _ h'=>h'.elim)) λ_ _ h'=>h'.elim);cases ok with |false=>exact bw ⟨Z,h₃⟩ |true=>exact aA (aA (fP h₃ (λx s₄ h₄=>aA (fP h₄ (λ_ s₅ h₅=>bw (bw ⟨Z,h₅⟩)) λ_ _ h'=>h'.elim)) λ_ _ h'=>h'.elim))
def FX(X:Cx)(ifs:List Expr)(t:TT):Prop:=∀(pins:List (Addr×Obj))(s:ae)(O:St)(H:Hp)(Q:Bool->Hp->Prop),Inv X pins O H s->t O H Q->wpAny (model X.prog X.w) X.A (forIn ifs true λc r=>if r=true then do let ok<-isTrue c X.env (eval c X.env);pure (ForInStep.yield ok)else pure (ForInStep.yield r)) (TP X pins O Q) X.xe s
def jj:TT:=λ_ H Q=>Q true H
theorem cX{X:Cx}:FX X [] jj:=λ_ _ _ H _ I h=>wpAny_tests_nil ⟨H,I,h⟩
def jQ(J:It)(g:TG)(tt:TT)(te:TE)(Q:VK)(D:Addr)(O:St)(H:Hp):Prop:=∃W:Nat->Nat->St->Hp->Prop,(∃m,W 0 m O H)/\∀i m σ' H',W i m σ' H'->(J.stop i H'/\Q (.ref D) H')\/(J.go i H'/\∀x H2,J.hV i H' x H2->g x σ' H2 λσ3 H3=>tt σ3 H3 λok H4=>if ok=true then te σ3 H4 λy H5=>∃ys,H5 D=some (.lst ys)/\ys.length<sizeLine/\∃m',m'<m/\W (i+1) m' σ3 (upd H5 D (.lst (ys++[y]))) else∃m',m'<m/\W (i+1) m' σ3 H4)
def Hr(js:List (Option Nat))(wi:TI)(g:TG)(tt:TT)(te:TE):TE:=λO H Q=>wi O H λJ H1=>∀D H2,Nw H1 H2 D (.lst [])->jQ J g tt te Q D (stC js O) H2
theorem da.but{P:af}{w:World}{H:Hp}{h h':Heap}{C:Addr}(ok:da P w H h)(hn:H C=none)(hs:Heap.SameBut C h h'):da P w H h':=λb ob e=>by
 refine(ok b ob e).jY (λc w' hc q=>(hs.2 c ?_).trans q) (λ_ q=>q) λ_ _ q=>q;rintro rfl;rcases hc with rfl|hc
 ·rw[hn]at e;cases e
 ·rw[hn]at hc;cases hc
set_option maxHeartbeats 1000000 in
theorem dD{X:Cx}{N:List Str}{js:List (Option Nat)}{elt tg iter:Expr}{ifs:List Expr}{scope:Scope}{pos:Pos}{wi:TI}{g:TG}{tt:TT}{te:TE}(hc:X.calm=true)(hN:zm X N js scope=true)(hS:sF X scope=true) (hi:PI X tg iter wi)(hg:∀cl s H fp pins,PG (eJ X N scope cl s H fp pins) tg g)(ht:∀cl s H fp pins,FX (eJ X N scope cl s H fp pins) ifs tt)(he:∀cl s H fp pins,PE (eJ X N scope cl s H fp pins) elt te) (hs:autoParam (∀x,foldedSetIterable iter X.env x=pure x) f8_._auto_1):PE X (.ListComp elt [⟨tg,iter,ifs,0⟩] scope pos) (Hr js wi g tt te):=by
 intro pins s O H Q I h;have mI:=hS;unfold sF at mI;rw[du,du]at mI;obtain⟨⟨k1,k2⟩,k3⟩:=mI;have kE:scope.kind= .function:=dr.mp k1;have rT:∀x∈scope.names,x.2= .free->∃c,X.env.cells.lookup x.1=some c:=λx hx e=>by have:=fh.mp k3 x hx;rw[e]at this;exact I.ok.has x.1 (.inl (dr.mp this))
 have nT:∀x∈scope.names,x.2≠ .cell:=λx hx e=>by have:=fh.mp k3 x hx;rw[e]at this;exact dc this
 have Ed:∀x∈scope.names,x.2= .local->scope.names.lookup x.1=some .local:=λx hx e=>by have:=fh.mp k3 x hx;rw[e]at this;exact dr.mp this
 obtain⟨cl,Er,c1,c2⟩:=OA rT;rw[eval_ListComp];refine wpAny_comprehension_free (use:=none) Z hs Er kE Ed (aV (hi pins s O H _ I h) λv s1 h1=>aV h1 λyf s2 h2=>?_);obtain⟨it,fp,tn,J,H2,e,I2,T,oS,f2,h2⟩:=h2;subst e;have hD:H2 s2.heap.objs.size=none:=I2.aW.fresh (bj _);obtain⟨W,⟨m0,w0⟩,turn⟩:=h2 _ _ (Nw.of hD);refine lT (wpAny_newFunctionEnv nT (by intro y hy;simp at hy) (λh₁ uU uR=>?_) kE);have pW:∀b∈fp,b<s2.heap.objs.size:=λb hb=>by obtain⟨o,e,_⟩:=T.obj _ _ oS b hb;exact bN e
 have I3:Inv X pins O (upd H2 s2.heap.objs.size (.lst [])) {s2 with heap:=s2.heap.push {cls:=.type "list",dict:=none,data:=.seq ([]:List Value).toArray}}:=I2.LW (its:=[]) (t':=s2.toks) .nil (dS _);generalize vk:s2.heap.push {cls:=.type "list",dict:=none,data:=.seq ([]:List Value).toArray}=h3 at I3 uU uR;have tM:h3.objs.size=s2.heap.objs.size+1:=by rw[<-vk,lY]
 have DN:∀b o,s2.heap.get? b=some o->h3.get? b=some o:=λb o e=>by rw[<-vk];exact bL _ e
 have f3:∀b∈fp,jz X pins (upd H2 s2.heap.objs.size (.lst [])) b:=λb hb=>⟨by rw[bh (dA (pW b hb))];exact(f2 b hb).1,(f2 b hb).2⟩;have uL:∀b o,h3.get? b=some o->h₁.get? b=some o:=λb o e=>(uR.2 b (dA (bN e))).trans (bL _ e);have I4:Inv (eJ X N scope cl {s2 with heap:=h3} (upd H2 s2.heap.objs.size (.lst [])) fp pins) [] (stC js O) (upd H2 s2.heap.objs.size (.lst [])) {s2 with heap:=h₁,toks:=s2.toks+([]:List (Str×Value)).length}:=I3.comp (s:={s2 with heap:=h3}) hN hS c1 c2 f3 (λb hb=>by show b<h3.objs.size;rw[tM];exact Gk (pW b hb)) (by simpa using uU) uL;have tN:tn 0 h₁:=T.keep _ _ _ oS λb _ o e=>uL b o (DN b o e);have loop:codeAny (model X.prog X.w) X.A (.compLoop (.ListComp elt [⟨tg,iter,ifs,0⟩] scope pos) 0 (.ref it) (.ref s2.heap.objs.size) (compEnvC scope cl h3.objs.size X.env)) (compPost (model X.prog X.w) X.A X.xe none (EP X pins O Q) (.ref s2.heap.objs.size) h3.objs.size) {s2 with heap:=h₁,toks:=s2.toks+([]:List (Str×Value)).length}:=by
  refine Ox (λn s'=>∃i σ' H',Inv (eJ X N scope cl {s2 with heap:=h3} (upd H2 s2.heap.objs.size (.lst [])) fp pins) [] σ' H' s'/\tn i s'.heap/\(∀b∈fp,H' b=none)/\W i n σ' H') ?_ m0 ⟨0,_,_,I4,tN,λb hb=>(f3 b hb).1,w0⟩;rintro n s5 ⟨i,σ5,H5,I5,m5,kK,w5⟩;have jZ:∀{H':Hp},(∀b∈fp,H' b=none)->∀b∈fp,jz (eJ X N scope cl {s2 with heap:=h3} (upd H2 s2.heap.objs.size (.lst [])) fp pins) [] H' b:=λ{H'} hn b hb=>by
   obtain⟨_,q1,q2,q3,q4,q5⟩:=f3 b hb;refine⟨hn b hb,λz=>?_,I4.ok.mM b hb,.inl hb,λx c e=>q4 x c (c1 x c e),λp hp=>q5 p (by simpa[eJ]using hp)⟩;have bT:b<h3.objs.size:=by rw[tM];exact Gk (pW b hb)
   exact dA bT z
  rcases turn i n σ5 H5 w5 with⟨stop,qn⟩|⟨go,step⟩
  ·refine aV (T.done (eJ X N scope cl {s2 with heap:=h3} (upd H2 s2.heap.objs.size (.lst [])) fp pins) rfl rfl rfl hc i [] s5 σ5 H5 _ I5 (jZ kK) m5 stop) λr s6 ⟨hr,I6⟩=>?_
   subst hr;obtain⟨m,hm,_⟩:=I6.loc;refine⟨m,hm,λh7 yt=>?_⟩;have u0:Un (cR X.stack) fp (upd H2 s2.heap.objs.size (.lst [])) H5 h3 s6.heap:=I6.ao;have ne:∀b o,h3.get? b=some o->b≠h3.objs.size:=λb o e=>dA (bN e);have u:Un (cR X.stack) fp (upd H2 s2.heap.objs.size (.lst [])) H5 h3 h7:=⟨λb o e n hb hx=>(yt.2 b (ne b o e)).trans (u0.keep b o e n hb hx),λb o e n hb hx=>let⟨sl,q⟩:=u0.slot b o e n hb hx;⟨sl,(yt.2 b (ne b o e)).trans q⟩,u0.free,λb o e hx=>let⟨o',q⟩:=u0.there b o e hx;⟨o',(yt.2 b (ne b o e)).trans q⟩,u0.hZ,u0.gX,u0.ib⟩;have I7:Inv X pins O H5 {s6 with heap:=h7}:=I3.zo (s':={s6 with heap:=h7}) (ch:=fp) I6.os u (I6.aW.but I6.free yt) I6.bare λb hb=>⟨(f3 b hb).2.2.2.1,(f3 b hb).2.1,(f3 b hb).2.2.2.2.1,(f3 b hb).2.2.2.2.2⟩;exact⟨.ref s2.heap.objs.size,H5,I7,Z,qn⟩
  ·refine aV (T.item (eJ X N scope cl {s2 with heap:=h3} (upd H2 s2.heap.objs.size (.lst [])) fp pins) rfl rfl rfl hc i [] s5 σ5 H5 _ I5 (jZ kK) m5 go) λr s6 ⟨u,hr,h6⟩=>?_
   subst hr;refine aV h6 λ_ s7 ⟨x,H7,I7,r7,y7,oQ,EW⟩=>?_;have G1:=I7.pinned (jZ EW) (T.obj _ _ oQ);refine aV (hg _ _ _ _ _ _ s7 σ5 H7 x u _ G1 r7 (step x H7 y7)) λ_ s8 ⟨σ8,H8,I8,q8⟩=>?_;refine aV (ht _ _ _ _ _ _ s8 σ8 H8 _ I8 q8) λok s9 ⟨H9,I9,q9⟩=>?_;have again:∀{s':ae}{σ7:St}{H7:Hp},Inv (eJ X N scope cl {s2 with heap:=h3} (upd H2 s2.heap.objs.size (.lst [])) fp pins) ([]++qP fp s7.heap) σ7 H7 s'->(∃m',m'<n/\W (i+1) m' σ7 H7)->∃m,m<n/\∃i σ' H',Inv (eJ X N scope cl {s2 with heap:=h3} (upd H2 s2.heap.objs.size (.lst [])) fp pins) [] σ' H' s'/\tn i s'.heap/\(∀b∈fp,H' b=none)/\W i m σ' H':=λ{s' σ7 H7} J7 n7=>by obtain⟨m',hm,w7⟩:=n7;refine⟨m',hm,i+1,σ7,H7,J7.tH,T.keep _ _ _ oQ λb hb o e=>(J7.pin (b,o) (jf _ (jf _ (rE hb e)))).1,λb hb=>?_,w7⟩;obtain⟨o,e,d⟩:=T.obj _ _ oQ b hb;exact(J7.pin (b,o) (jf _ (jf _ (rE hb e)))).2.1
   cases ok with |false=>rw[aU dc]at q9⊢;exact again I9 q9 |true=>rw[aR rfl]at q9⊢;refine aV (he _ _ _ _ _ _ s9 σ8 H9 _ I9 q9) λyv kW ⟨y,fF,sQ,CD,ys,yk,hz,oK⟩=>?_;refine aV (Du _ kW σ8 fF (.ref s2.heap.objs.size) [y] (.ref s2.heap.objs.size) [yv] (λ_ gv=>∃m',m'<n/\W (i+1) m' σ8 gv) sQ Z (.cons CD .nil) ⟨_,ys,y,Z,Z,yk,hz,oK⟩) λ_ nB ⟨v11,gv,G2,Uy,CF⟩=>?_;exact again G2 CF
 exact codeAny_compStart_list loop (T.self _ 0 _ _ _ tN loop)
theorem Fz:∀{bs:List Bool}{us:List Value},Vals (bs.map V.bl) us->us=bs.map Value.bool |[],_,.nil=>rfl |b::r,_,.cons q t=>by cases(show _=Value.bool b from q);rw[Fz t];rfl
section
variable {X:Cx}
theorem a57(hc:X.calm=true):dI X (.builtin "all") (λxs H Q=>∃(l:Addr)(bs:List Bool),xs=[.ref l]/\aG X.K H l (bs.map V.bl)/\Q (.bl (bs.all id)) H):=by
 intro pins s O H xs us Q I r h;obtain⟨l,bs,rfl,hl,q⟩:=h;obtain⟨u,rfl,ru⟩:=vals1 r;cases(show u=Value.ref l from ru);obtain⟨its,rv,pl,hz⟩:=I.list hl;have e:=Fz rv;subst e;have iD:=pl.isList;have bT:l<s.heap.objs.size:=by obtain⟨_,e,_⟩:=iD;exact bN e
 have hh:=I.ok.hd hc;refine call_all_walk (vU iD ?_);refine⟨s.heap.objs.size,[s.heap.objs.size,l],[s.heap.objs.size],(bs.map Value.bool).toArray.size,_,_,λi=>(bs[i]?).getD true,Z,Walks.list (A:=X.A.in1) hh _ l (dA bT) (bs.map Value.bool).toArray,⟨⟨_,cK _ Z,Z,Z⟩,iD.push _⟩,λi v s' Q' E' hP hQ=>?_,λh' tk hk=>?_⟩
 ·have kG:(bs.map Value.bool)[i]? =some v:=by simpa using hP
  rw[bK]at kG;cases e:bs[i]? with |none=>rw[e]at kG;cases kG |some b=>rw[e]at kG;cases kG;simp only[e,Option.getD_some]at hQ;exact lS hQ
 ·have e:((List.range (bs.map Value.bool).toArray.size).all λi=>(bs[i]?).getD true)=bs.all id:=by rw[dB,bA];exact LSm.range_all bs
  rw[e];exact⟨.bl _,H,I.kept (LSm.kept_iter hk),Z,q⟩
theorem a56(hc:X.calm=true):dI X (.builtin "any") (λxs H Q=>∃(l:Addr)(bs:List Bool),xs=[.ref l]/\aG X.K H l (bs.map V.bl)/\Q (.bl (bs.any id)) H):=by
 intro pins s O H xs us Q I r h;obtain⟨l,bs,rfl,hl,q⟩:=h;obtain⟨u,rfl,ru⟩:=vals1 r;cases(show u=Value.ref l from ru);obtain⟨its,rv,pl,hz⟩:=I.list hl;have e:=Fz rv;subst e;have iD:=pl.isList;have bT:l<s.heap.objs.size:=by obtain⟨_,e,_⟩:=iD;exact bN e
 have hh:=I.ok.hd hc;refine call_any_walk (vU iD ?_);refine⟨s.heap.objs.size,[s.heap.objs.size,l],[s.heap.objs.size],(bs.map Value.bool).toArray.size,_,_,λi=>(bs[i]?).getD false,Z,Walks.list (A:=X.A.in1) hh _ l (dA bT) (bs.map Value.bool).toArray,⟨⟨_,cK _ Z,Z,Z⟩,iD.push _⟩,λi v s' Q' E' hP hQ=>?_,λh' tk hk=>?_⟩
 ·have kG:(bs.map Value.bool)[i]? =some v:=by simpa using hP
  rw[bK]at kG;cases e:bs[i]? with |none=>rw[e]at kG;cases kG |some b=>rw[e]at kG;cases kG;simp only[e,Option.getD_some]at hQ;exact lS hQ
 ·have e:((List.range (bs.map Value.bool).toArray.size).any λi=>(bs[i]?).getD false)=bs.any id:=by rw[dB,bA];exact LSm.range_any bs
  rw[e];exact⟨.bl _,H,I.kept (LSm.kept_iter hk),Z,q⟩
end
theorem sE{J:It}{g:TG}{tt:TT}{te:TE}{Q:VK}{D:Addr}{O:St}{H:Hp}(n:Nat)(Pv:Nat->St->Hp->Prop)(h0:Pv 0 O H) (hs:∀i O H,i<n->Pv i O H->J.go i H/\∀x H2,J.hV i H x H2->g x O H2 λσ3 H3=>tt σ3 H3 λok H4=>if ok=true then te σ3 H4 λy H5=>∃ys,H5 D=some (.lst ys)/\ys.length<sizeLine/\∃m',m'<n-i/\m'=n-(i+1)/\i+1<=n/\Pv (i+1) σ3 (upd H5 D (.lst (ys++[y]))) else∃m',m'<n-i/\m'=n-(i+1)/\i+1<=n/\Pv (i+1) σ3 H4) (hd:∀O H,Pv n O H->J.stop n H/\Q (.ref D) H): jQ J g tt te Q D O H:=by
 refine⟨λi m O H=>m=n-i/\i<=n/\Pv i O H,⟨n,by simp,dS _,h0⟩,?_⟩;rintro i m O H ⟨rfl,hi,p⟩;by_cases bT:i<n
 ·exact .inr (hs i O H bT p)
 ·have e:i=n:=by lia
  subst e;exact .inl (hd O H p)
section
variable {X:Cx} {tg:Expr}
theorem Z5(K:aa)(h:X.K=K):mU X (λx y H Q=>Cw K x y H Q\/Cv K x y H Q):=by subst h;exact Z4.or Z3
inductive a7r(K:aa)(x:V)(lo:Option Int)(hi:Option Int)(H:Hp)(Q:VK):Prop |mk (a:_)(xs:_)(h0:x= .ref a)(h1:((aG K H a xs/\∀p H',Nw H H' p (.lst (j7 xs lo hi))->Q (.ref p) H')\/ (aP K H a xs/\¬(_H.bQ xs.length 0 lo=0/\_H.bQ xs.length xs.length hi=xs.length)/\∀p H',Nw H H' p (.tup (j7 xs lo hi))->Q (.ref p) H')))
def Uk(K:aa):V->Option Int->Option Int->Hp->VK->Prop:=λx lo hi H Q=>a7r K x lo hi H Q
theorem tV(K:aa)(h:X.K=K):zC X (Uk K):=by
 subst h;intro pins s O H x v vl vu lo hi sl Q I rx hs pl pu hq;obtain⟨a,xs,e,hq⟩:=hq;rcases hq with⟨h1,k⟩|⟨h1,h2,k⟩
 ·exact SI pins s O H x v vl vu lo hi sl Q I rx hs pl pu ⟨a,xs,e,h1,λp hp=>k p _ (.of hp)⟩
 ·exact SH pins s O H x v vl vu lo hi sl Q I rx hs pl pu ⟨a,xs,e,h1,h2,λp hp=>k p _ (.of hp)⟩
theorem YM(K:aa)(h:X.K=K):dI X (.builtin "len") (λxs H Q=>∃p ys,xs=[.ref p]/\(aG K H p ys\/aP K H p ys)/\Q (.int ys.length) H):=by subst h;exact a51
theorem Z8(K:aa)(h:X.K=K):dI X (.builtin "isinstance") (λxs H Q=>Cz K xs H Q\/Cy K xs H Q):=by subst h;exact a53.or a52
theorem dv(K:aa)(h:X.K=K)(hu:X.A.units+64<cLine):cf X (compareOp .Eq) (λx y H Q=>iS (λi j=>.bl (decide (i=j))) x y H Q\/CB K x y H Q):=by subst h;exact Vu hu
theorem mr(K:aa)(h:X.K=K)(hu:X.A.units+64<cLine):cf X (compareOp .NotEq) (λx y H Q=>iS (λi j=>.bl (!decide (i=j))) x y H Q\/Cu K x y H Q):=by subst h;exact Vq hu
theorem qj(K:aa)(h:X.K=K)(hc:X.calm=true):dI X (.builtin "all") (λxs H Q=>∃(l:Addr)(bs:List Bool),xs=[.ref l]/\aG K H l (bs.map V.bl)/\Q (.bl (bs.all id)) H):=by subst h;exact a57 hc
theorem a5t(K:aa)(h:X.K=K)(hc:X.calm=true):dI X (.builtin "any") (λxs H Q=>∃(l:Addr)(bs:List Bool),xs=[.ref l]/\aG K H l (bs.map V.bl)/\Q (.bl (bs.any id)) H):=by subst h;exact a56 hc
theorem DF(K:aa)(h:X.K=K):dI X (.type "list") (λxs H Q=>∃p ys,xs=[.ref p]/\(aG K H p ys\/aP K H p ys)/\∀l H',Nw H H' l (.lst ys)->Q (.ref l) H'):=by subst h;intro pins s O H xs us Q I r hq;obtain⟨p,ys,e,h1,k⟩:=hq;exact a4Z pins s O H xs us Q I r ⟨p,ys,e,h1,λl hl=>k l _ (.of hl)⟩
theorem ji(K:aa)(h:X.K=K):dI X (.type "tuple") (λxs H Q=>∃p ys,xs=[.ref p]/\((aG K H p ys/\∀l H',Nw H H' l (.tup ys)->Q (.ref l) H')\/(aP K H p ys/\Q (.ref p) H))):=by subst h;intro pins s O H xs us Q I r hq;obtain⟨p,ys,e,h1⟩:=hq;exact a4U pins s O H xs us Q I r ⟨p,ys,e,h1.imp (λ⟨a,k⟩=>⟨a,λl hl=>k l _ (.of hl)⟩) id⟩
def Ry(t:TA):TE:=λO H Q=>t O H λxs H1=>xs.length<=sizeLine/\∀p H',Nw H1 H' p (.tup xs)->Q (.ref p) H'
def RU(t:TA):TE:=λO H Q=>t O H λxs H1=>xs.length<=sizeLine/\∀p H',Nw H1 H' p (.lst xs)->Q (.ref p) H'
theorem eE{es:List Expr}{t:TA}{pos:Pos} {x1}(h:PA X es t):PE X (.Tuple es x1 pos) (Ry t):=by intro pins s O H Q I hq;refine wpAny_Tuple_spliced (aV (h pos pins s O H _ I hq) λus s1 ⟨xs,H1,I1,r,z,q⟩=>⟨by rw[<-r.length];exact z,?_⟩);have hf:H1 s1.heap.objs.size=none:=I1.aW.fresh (bj _);refine⟨.ref s1.heap.objs.size,upd H1 s1.heap.objs.size (.tup xs),I1.laid (t':=s1.toks) (λb u e=>bL _ e) (bj _) ?_,Z,q _ _ (.of hf)⟩;exact⟨z,us,r,⟨_,cK _ Z,Z,_,Z⟩⟩
theorem ft{es:List Expr}{t:TA}{pos:Pos}(h:PA X es t):PE X (.List es pos) (RU t):=by intro pins s O H Q I hq;refine wpAny_List_spliced (aV (h pos pins s O H _ I hq) λus s1 ⟨xs,H1,I1,r,z,q⟩=>⟨by rw[<-r.length];exact z,?_⟩);have hf:H1 s1.heap.objs.size=none:=I1.aW.fresh (bj _);refine⟨.ref s1.heap.objs.size,upd H1 s1.heap.objs.size (.lst xs),I1.laid (t':=s1.toks) (λb u e=>bL _ e) (bj _) ?_,Z,q _ _ (.of hf)⟩;exact⟨z,us,0,r,cK _ Z⟩
theorem pk(K:aa)(h:X.K=K){l:Expr}{tl:TE}(hl:PE X l tl):PI X tg l (Mn K tl):=by subst h;exact UX hl
theorem jn(K:aa)(h:X.K=K){l:Expr}{tl:TE}(hl:PE X l tl):PI X tg l (Mm K tl):=by subst h;exact US hl
theorem dW(K:aa)(h:X.K=K){es:List Expr}{k:Nat}{t:lP}{n:Nat}{pos:Pos}(hc:X.calm=true)(hg:vL X es t)(hn:autoParam ((assignEach es X.env).length=n) r8_._auto_1)(fk:autoParam ((assignEach es X.env).findIdx? (·.1)=none) r8_._auto_1): PG X (.Tuple es k pos) (yN K n t):=by subst h;exact UZ hc hg hn fk
theorem uq(K:aa)(h:X.K=K){o e:Expr}{to:TE}{t:TA}{apos bF:Pos}(ho:PE X o to)(ha:PA X [e] t) (fX:autoParam (attributeBase o "append" X.env (eval o X.env)=eval o X.env) r8_._auto_1) (fW:autoParam (((backTo bF (starEach [e] X.env)).all (λx=>!x.1)&&(backToKw bF (keywordEach [] X.env)).all (λx=>x.1.isSome) &&decide ([e].length+([]:List Keyword).length+(if([]:List Keyword).isEmpty then 0 else 1)<30))=true) r8_._auto_1) (fV:autoParam ((apos.endLine==bF.line)=true) r8_._auto_1)(hs:autoParam (starEach [e] X.env=(false,eval e X.env)::starEach [] X.env) r8_._auto_1)(fU:autoParam ((backTo bF (starEach [] X.env)).any (·.1)=false) r8_._auto_1): PE X (.Call (.Attribute o "append" apos) [e] [] bF) (m4 K "list" Ks to t):=by subst h;exact nE Q0 PySem.F.slot_list_append PySem.F.type_list_append Du ho ha fX fW fV hs fU
theorem wO{j:Nat}{x:V}{O:St}{H:Hp}{A B:St->Hp->Prop}(h:A (O.set j (some x)) H):fY j x O H λσ3 H3=>jj σ3 H3 λok H4=>if ok=true then A σ3 H4 else B σ3 H4:=by show if true=true then A (O.set j (some x)) H else B (O.set j (some x)) H;rw[aR rfl];exact h
theorem yes{O:St}{H:Hp}{Q:Bool->Hp->Prop}(h:Q true H):jj O H Q:=h
end
theorem aG.go{K:aa}{H H':Hp}{a:Addr}{xs:List V}(s:az H H')(h:aG K H a xs):aG K H' a xs:=h.imp (λr=>r.imp (s _ _) λ⟨o,e⟩=>⟨o,s _ _ e⟩) id
theorem aP.go{K:aa}{H H':Hp}{a:Addr}{xs:List V}(s:az H H')(h:aP K H a xs):aP K H' a xs:=h.imp (λr=>r.imp (s _ _) λ⟨o,e⟩=>⟨o,s _ _ e⟩) id
mutual
theorem RD.mono{K:aa}{H H':Hp}(s:az H H'):∀{x:V}(d:ah),RD K H x d->RD K H' x d |x,.none,h=>by simpa[RD]using h |x,.bool b,h=>by simpa[RD]using h |x,.int i,h=>by simpa[RD]using h |x,.str y,h=>by simpa[RD]using h |x,.list ds,h=>by rw[RD]at h⊢;obtain⟨a,xs,e,h1,h2⟩:=h;exact⟨a,xs,e,h1.go s,aJ.mono s ds h2⟩ |x,.tuple ds,h=>by rw[RD]at h⊢;obtain⟨a,xs,e,h1,h2⟩:=h;exact⟨a,xs,e,h1.go s,aJ.mono s ds h2⟩ |x,.dict _,h=>by simp[RD]at h
theorem aJ.mono {K:aa}{H H':Hp}(s:az H H'):∀{xs:List V}(ds:List ah),aJ K H xs ds->aJ K H' xs ds |xs,[],h=>by simpa[aJ]using h |xs,d::ds,h=>by rw[aJ]at h⊢;obtain⟨y,ys,e,h1,h2⟩:=h;exact⟨y,ys,e,RD.mono s d h1,aJ.mono s ds h2⟩
end
section
variable {K:aa} {H H':Hp}
theorem aJ.nil_inv{xs:List V}(h:aJ K H xs []):xs=[]:=by simpa[aJ]using h
theorem aJ.cons_inv{xs:List V}{d:ah}{ds:List ah}(h:aJ K H xs (d::ds)):∃y ys,xs=y::ys/\RD K H y d/\aJ K H ys ds:=by rw[aJ]at h;exact h
theorem RD.cg{x:V}{ds:List ah}(h:RD K H x (.tuple ds)):∃a xs,x= .ref a/\aP K H a xs/\aJ K H xs ds:=by rw[RD]at h;exact h
theorem RD.lst_inv{x:V}{ds:List ah}(h:RD K H x (.list ds)):∃a xs,x= .ref a/\aG K H a xs/\aJ K H xs ds:=by rw[RD]at h;exact h
theorem RD.int_inv{x:V}{i:Int}(h:RD K H x (.int i)):x= .int i:=by rw[RD]at h;exact h
theorem RD.a5e{x:V}{i:Bool}(h:RD K H x (.bool i)):x= .bl i:=by rw[RD]at h;exact h
theorem RD.str_inv{x:V}{i:Str}(h:RD K H x (.str i)):x= .str i:=by rw[RD]at h;exact h
theorem RD.Dh{x:V}(h:RD K H x .none):x= .aY:=by rw[RD]at h;exact h
theorem aJ.length:∀{xs:List V}{ds:List ah},aJ K H xs ds->xs.length=ds.length |xs,[],h=>by rw[h.nil_inv];rfl |xs,d::ds,h=>by obtain⟨y,ys,rfl,_,h2⟩:=h.cons_inv;rw[gb,gb,aJ.length h2]
theorem aJ.append:∀{xs ys:List V}{ds es:List ah},aJ K H xs ds->aJ K H ys es->aJ K H (xs++ys) (ds++es) |xs,ys,[],es,h,g=>by rw[h.nil_inv];exact g |xs,ys,d::ds,es,h,g=>by obtain⟨y,zs,rfl,h1,h2⟩:=h.cons_inv;exact cj h1 (aJ.append h2 g)
theorem aJ.take:∀(n:Nat){xs:List V}{ds:List ah},aJ K H xs ds->aJ K H (xs.take n) (ds.take n) |0,xs,ds,h=>by rw[List.take_zero,List.take_zero];exact de |n+1,xs,[],h=>by rw[h.nil_inv];exact de |n+1,xs,d::ds,h=>by obtain⟨y,zs,rfl,h1,h2⟩:=h.cons_inv;exact cj h1 (aJ.take n h2)
theorem aJ.get:∀(n:Nat){xs:List V}{ds:List ah}{d:ah},aJ K H xs ds->ds[n]? =some d->∃x,xs[n]? =some x/\RD K H x d
 |n,xs,[],d,h,e=>by simp at e |0,xs,d'::ds,d,h,e=>by
  obtain⟨y,zs,rfl,h1,h2⟩:=h.cons_inv;have e':d'=d:=by simpa using e
  subst e';exact⟨y,Z,h1⟩ |n+1,xs,d'::ds,d,h,e=>by obtain⟨y,zs,rfl,h1,h2⟩:=h.cons_inv;exact aJ.get n h2 (by simpa using e)
theorem aJ.get'(n:Nat){xs:List V}{ds:List ah}{x:V}(h:aJ K H xs ds)(e:xs[n]? =some x):∃d,ds[n]? =some d/\RD K H x d:=by
 have hl:n<ds.length:=by rw[<-h.length];exact(dN.mp e).1
 obtain⟨y,e1,r⟩:=h.get n (cI hl);rw[e]at e1;cases e1;exact⟨_,cI hl,r⟩
def jW:ah->String | .none=>"NoneType" | .bool _=>"bool" | .int _=>"int" | .str _=>"str" | .list _=>"list" | .tuple _=>"tuple" | .dict _=>"dict"
theorem RD.ty{x:V}:∀{d:ah},RD K H x d->ql K H x (jW d) | .none,h=>by rw[h.Dh];rfl | .bool b,h=>by rw[h.a5e];rfl | .int b,h=>by rw[h.int_inv];rfl | .str b,h=>by rw[h.str_inv];rfl | .list ds,h=>by obtain⟨a,xs,rfl,h1,_⟩:=h.lst_inv;exact .inl ⟨Z,xs,h1⟩ | .tuple ds,h=>by obtain⟨a,xs,rfl,h1,_⟩:=h.cg;exact .inr ⟨Z,xs,h1⟩ | .dict _,h=>by simp[RD]at h
structure cF(n:Nat)(d:ah):Prop where
 lay:d.canLay0=true
 dep:d.depth<=n
def fZ(n:Nat)(ds:List ah):Prop:=∀d∈ds,cF n d
theorem cF.le{n m:Nat}{d:ah}(h:cF n d)(l:n<=m):cF m d:=⟨h.lay,fc h.dep l⟩
theorem xP{n:Nat}:∀{ds:List ah},fZ n ds↔(PyData.canLayAll0 ds=true/\PyData.depthAll ds<=n)
 |[]=>⟨λ_=>⟨Z,dS _⟩,λ_ _ h=>nomatch h⟩ |d::ds=>by
  have ih:=xP (n:=n) (ds:=ds);simp only[PyData.canLayAll0,PyData.depthAll,du];constructor
  ·intro h
   have h1:=h d (.head _);have h2:=ih.mp λx hx=>h x (.tail _ hx);exact⟨⟨h1.lay,h2.1⟩,Nat.max_le.mpr ⟨h1.dep,h2.2⟩⟩
  ·rintro⟨⟨a,b⟩,c⟩ x hx
   have c':=Nat.max_le.mp c;rcases bS.mp hx with rfl|hx
   ·exact⟨a,c'.1⟩
   ·exact ih.mpr ⟨b,c'.2⟩ x hx
theorem fZ.tup{n:Nat}{ds:List ah}(h:fZ n ds):cF (n+1) (.tuple ds):=⟨by simpa[PyData.canLay0]using(xP.mp h).1,by simpa[PyData.depth]using(xP.mp h).2⟩
theorem cF.cg{n:Nat}{ds:List ah}(h:cF (n+1) (.tuple ds)):fZ n ds:=xP.mpr ⟨by simpa[PyData.canLay0]using h.lay,by simpa[PyData.depth]using h.dep⟩
theorem cF.int{n:Nat}(i:Int):cF n (.int i):=⟨Z,dS _⟩
theorem cF.aY{n:Nat}:cF n .none:=⟨Z,dS _⟩
theorem fZ.nil{n:Nat}:fZ n []:=λ_ h=>nomatch h
theorem fZ.cons{n:Nat}{d:ah}{ds:List ah}(h:cF n d)(g:fZ n ds):fZ n (d::ds):=λx hx=>by
 rcases bS.mp hx with rfl|hx
 ·exact h
 ·exact g x hx
theorem cF.shaped{n:Nat}{d:ah}(h:cF n d)(l:n<=64):SeqAt.shaped d=true:=by unfold SeqAt.shaped;rw[h.lay,gc];exact bR (fc h.dep l)
theorem cF.refl{n:Nat}{d:ah}(h:cF n d):PyData.eqv d d=true:=eqv_refl d h.lay
def del(H:Hp)(p:Addr):Hp:=λb=>if b=p then none else H b
theorem Ob{H:Hp}{p b:Addr}{o:HO}:del H p b=some o↔b≠p/\H b=some o:=by
 unfold del;by_cases e:b=p
 ·rw[aR e];simp[e]
 ·rw[aU e];simp[e]
variable {p:Addr}{n m:Nat}{v:V}{vs:List V}{d:ah}{ds es:List ah}
end
section
variable {X:Cx}
end
end _L
namespace _H
open PySem PySem.Spec PyProof.Rows
section
variable {prog:af}{w:World}{A:ai}{E:Value->ae->Prop}{s:ae}
end
end _H
namespace _L
open PySem PySem.Spec PyProof.Rows
section
variable {X:Cx}
end
def fr(H H':Hp):Hp:=λb=>match H b with|none=>H' b|some _=>none
theorem mJ{H H':Hp}{b:Addr}{o:HO}:fr H H' b=some o↔H b=none/\H' b=some o:=by unfold fr;cases H b<;>simp
theorem a2D{H H':Hp}:az (fr H H') H':=λb o e=>(mJ.mp e).2
theorem EV{H H1 H2:Hp}(s:az H1 H2):az (fr H H1) (fr H H2):=λb o e=>mJ.mpr ⟨(mJ.mp e).1,s _ _ (mJ.mp e).2⟩
theorem a2E{H H1 H2:Hp}(s:az H H1):az (fr H1 H2) (fr H H2):=λb o e=>mJ.mpr ⟨s.free (mJ.mp e).1,(mJ.mp e).2⟩
def x8(K:aa)(d:ah):TE:=λ_ H Q=>∀v H',az H H'->RD K (fr H H') v d->Q v H'
def RV(K:aa)(ds:List ah):TA:=λ_ H Q=>∀vs H',az H H'->aJ K (fr H H') vs ds->Q vs H'
def uK(f:Expr->Option ah):List Expr->Option (List ah) |[]=>some [] |e::es=>match f e,uK f es with |some d,some ds=>some (d::ds) |_,_=>none
def lit:Nat->Expr->Option ah
 |0,_=>none |_+1,.Constant .none _ _=>some .none |_+1,.Constant (.bool b) _ _=>some (.bool b) |_+1,.Constant (.int i) _ _=>some (.int i) |_+1,.Constant (.str x) _ _=>some (.str x) |n+1,.Tuple es _ _=>match uK (lit n) es with |some ds=>if ds.length<=1000 then some (.tuple ds)else none |none=>none
 |n+1,.List es _=>match uK (lit n) es with |some ds=>if ds.length<=1000 then some (.list ds)else none |none=>none
 |n+1,.UnaryOp .USub a _=>match lit n a with |some (.int i)=>some (.int (-i)) |_=>none
 |n+1,.BinOp a .Pow b _=>match lit n a,lit n b with |some (.int i),some (.int j)=>if 0<=j/\j<=1000000/\i.natAbs<2^64 then some (.int (i^j.toNat))else none |_,_=>none
 |_,_=>none
section
variable {X:Cx}
theorem So{e:Expr}{es:List Expr}{env:Env}(h:∀a b,e≠ .Starred a b):starEach (e::es) env=(false,eval e env)::starEach es env:=by cases e<;>first|rfl|exact absurd rfl (h _ _)
theorem YI{n:Nat}{e:Expr}{d:ah}(h:lit n e=some d):∀a b,e≠ .Starred a b:=by intro a b z;subst z;cases n<;>simp[lit]at h
theorem KP(K:aa)(f:Expr->Option ah)(hp:∀e d,f e=some d->∀a b,e≠ .Starred a b)(hf:∀e d,f e=some d->PE X e (x8 K d)):∀(es:List Expr)(ds:List ah),uK f es=some ds->PA X es (RV K ds)
 |[],ds,h=>by cases h;intro pos pins s O H Q I hq;exact aw pos pins s O H Q I (hq [] H (az.refl H) de) |e::es,ds,h=>by
  rw[uK]at h;split at h
  ·rename_i d nZ e1 e2
   cases h;intro pos pins s O H Q I hq;refine ak (hf e d e1) (KP K f hp hf es nZ e2) (So (hp e d e1)) pos pins s O H Q I ?_;intro v H1 s1 r1 vs H2 s2 r2;exact hq (v::vs) H2 (s1.trans s2) (cj (RD.mono (EV s2) _ r1) (aJ.mono (a2E s1) _ r2))
  ·cases h
theorem um(K:aa)(hK:X.K=K):∀(n:Nat)(e:Expr)(d:ah),lit n e=some d->PE X e (x8 K d)
 |0,e,d,h=>by simp[lit]at h |n+1,e,d,h=>by
  have hA:=KP (X:=X) K (lit n) (λe d h=>YI h) (λe d h=>um K hK n e d h);unfold lit at h;split at h
  case h_1=>cases‹Nat.succ n=0›
  case h_2=>cases h;intro pins s O H Q I hq;exact gj pins s O H Q I (hq .aY H (az.refl H) qM)
  case h_3=>cases h;intro pins s O H Q I hq;exact gB pins s O H Q I (hq (.bl _) H (az.refl H) (U9 _))
  case h_4=>cases h;intro pins s O H Q I hq;exact aB pins s O H Q I (hq (.int _) H (az.refl H) (eu _))
  case h_5=>cases h;intro pins s O H Q I hq;exact bq pins s O H Q I (hq (.str _) H (az.refl H) (bO _))
  case h_6=>
   rename_i m es _ _ hm;cases hm;split at h
   ·rename_i ds e1
    by_cases hl:ds.length<=1000
    ·rw[aR hl]at h
     cases h;intro pins s O H Q I hq;refine eE (hA es ds e1) pins s O H Q I ?_;intro vs H1 s1 r1;refine⟨by rw[r1.length];exact fc hl ay,λp H' nw=>?_⟩;refine hq _ _ (s1.trans nw.same) (eZ (aP.of (mJ.mpr ⟨s1.free nw.no,nw.at'⟩)) (aJ.mono (EV nw.same) _ r1))
    ·rw[aU hl]at h;cases h
   ·cases h
  case h_7=>
   rename_i m es _ hm;cases hm;split at h
   ·rename_i ds e1
    by_cases hl:ds.length<=1000
    ·rw[aR hl]at h
     cases h;intro pins s O H Q I hq;refine ft (hA es ds e1) pins s O H Q I ?_;intro vs H1 s1 r1;refine⟨by rw[r1.length];exact fc hl ay,λp H' nw=>?_⟩;refine hq _ _ (s1.trans nw.same) (Cq (aG.of (mJ.mpr ⟨s1.free nw.no,nw.at'⟩)) (aJ.mono (EV nw.same) _ r1))
    ·rw[aU hl]at h;cases h
   ·cases h
  case h_8=>
   rename_i m a _ hm;cases hm;split at h
   ·rename_i i e1
    cases h;intro pins s O H Q I hq;refine kh jV (um K hK n a _ e1) pins s O H Q I ?_;intro v H1 s1 r1;exact⟨i,r1.int_inv,hq _ _ s1 (eu _)⟩
   ·cases h
  case h_9=>
   rename_i m a b _ hm;cases hm;split at h
   ·rename_i i j e1 e2
    by_cases hc:0<=j/\j<=1000000/\i.natAbs<2^64
    ·rw[aR hc]at h
     cases h;intro pins s O H Q I hq;refine aK uu (um K hK n a _ e1) (um K hK n b _ e2) pins s O H Q I ?_;intro v H1 s1 r1 v2 H2 s2 r2;exact⟨i,j,r1.int_inv,r2.int_inv,hc,hq _ _ (s1.trans s2) (eu _)⟩
    ·rw[aU hc]at h;cases h
   ·cases h
  case h_10=>cases h
end
end _L
namespace _L
theorem cN{α:Type}{xs:List α}{i:Int}{v:α}(h0:0<=i)(h:xs[i.toNat]? =some v):eg xs i=some v:=by have hl:i.toNat<xs.length:=(dN.mp h).1;unfold eg gq;rw[aR h0,aR au];exact h
end _L
namespace _L
open PySem PySem.Spec PyProof.Rows
theorem tT(n:Nat)(h:n<=1000):n<=sizeLine:=fc h ay
structure Pg(X:Cx)(e:Expr)(t:TE):Prop where out:PE X e t
theorem V6{X:Cx}(K:aa)(hK:X.K=K)(n:Nat)(e:Expr)(d:ah)(h:lit n e=some d):Pg X e (x8 K d):=⟨um K hK n e d h⟩
section
variable {X:Cx}{p pos pos':Pos}{a b e:Expr}{es:List Expr}{ta tb te:TE}{t:TA}{x:Str}
theorem px(K:aa)(ha:PE X a ta)(hb:PE X b tb)(hK:autoParam (X.K=K) r8_._auto_1)(hp:Pc b:=by exact λ_ _=>rfl):PE X (.Subscript a b pos) (tL (λx y H Q=>Cw K x y H Q\/Cv K x y H Q) ta tb):=CO (Z5 K hK) ha hb hp
theorem lj(K:aa)(B:bu X.mg)(ha:PA X (e::es) t)(hK:autoParam (X.K=K) r8_._auto_1)(hg:autoParam (Gl X "isinstance") r8_._auto_1)(he:autoParam (starEach (e::es) X.env=(false,eval e X.env)::starEach es X.env) r8_._auto_1)(dR:autoParam ((backTo pos (starEach es X.env)).any (·.1)=false) r8_._auto_1):PE X (.Call (.Name "isinstance" p) (e::es) [] pos) (x9 (λxs H Q=>Cz K xs H Q\/Cy K xs H Q) t):=ck (Z8 K hK) hg (B.at "isinstance") jC ha ay ay he dR
theorem eF(K:aa)(B:bu X.mg)(ha:PA X (e::es) t)(hK:autoParam (X.K=K) r8_._auto_1)(hg:autoParam (Gl X "len") r8_._auto_1)(he:autoParam (starEach (e::es) X.env=(false,eval e X.env)::starEach es X.env) r8_._auto_1)(dR:autoParam ((backTo pos (starEach es X.env)).any (·.1)=false) r8_._auto_1):PE X (.Call (.Name "len" p) (e::es) [] pos) (x9 (λxs H Q=>∃p ys,xs=[.ref p]/\(aG K H p ys\/aP K H p ys)/\Q (.int ys.length) H) t):=ck (YM K hK) hg (B.at "len") PySem.boot_len ha ay ay he dR
theorem pS(i:Nat)(hN:X.N.Nodup)(he:PE X e te)(hi:autoParam (X.N[i]? =some x) r8_._auto_1)(hx:autoParam (Loc X.env.scope x) z8_._auto_1)(hs:autoParam (swapsWith e (some (.Name x pos')) pos.line X.env=pure false) r8_._auto_1)(hf:autoParam (X.fn x=true\/X.env.scope.names.lookup x=some .local) d8_._auto_1):PS X (.Assign [.Name x pos'] e pos) (xf te (fY i)):=Ku hN hi hx he hs hf
theorem ba(i:Nat)(hN:X.N.Nodup)(hi:autoParam (X.N[i]? =some x) r8_._auto_1)(hx:autoParam (Loc X.env.scope x) z8_._auto_1)(hf:autoParam (X.fn x=true\/X.env.scope.names.lookup x=some .local) d8_._auto_1):PG X (.Name x pos) (fY i):=V0 hN hi hx hf
theorem gD (a:Str):[a].Nodup:=by simp
theorem gm{a b:Str}(h:(a==b)=false):[a,b].Nodup:=by
 have:a≠b:=λz=>by rw[z,wg]at h;cases h
 simp[this]
theorem bW{n:Nat}(h:Nat.ble n 1000=true):n<=sizeLine:=tT n (Qe h)
end
def GV(mg:bf)(x:Str)(v:V):Prop:=∃u,mg x=some u/\RelV v u
def GT(K:aa)(mg:bf)(x:Str)(vs:List V):Prop:=∃a,GV mg x (.ref a)/\∀H,aP K H a vs
theorem cD{X:Cx}{x:Str}{v:V}{pos:Pos}(hg:Gl X x)(h:GV X.mg x v)(hd:autoParam ((x==("__debug__":Str))=false) q8_._auto_1):PE X (.Name x pos) (tC v):=by obtain⟨u,hm,r⟩:=h;exact V7 hg hm r hd
section
variable {K:aa} {mg:bf} {h:Heap}
theorem jw{x:Str}{i:Int}{t:Tok}(X:K.In h)(G:h.Ns mainGlobals mg)(a:PySem.W.nsIn K mainGlobals x=some (some (.int i t))):GV mg x (.int i):=⟨_,oA X G a,t,Z⟩
theorem ER{x:Str}{vs:List V}{b:Addr}{its:Array Value}{n:Nat}{od:Option Addr}{dX:Array (Option Value)}(X:K.In h)(G:h.Ns mainGlobals mg)(a:PySem.W.nsIn K mainGlobals x=some (some (.ref b))) (l:K.lookup b=some ⟨.type "tuple",od,.seq its n,dX⟩)(hz:its.size<=sizeLine)(r:Vals vs its.toList):GT K mg x vs:=⟨b,⟨_,oA X G a,Z⟩,λH=>.inr ⟨_,its,n,l,Z,Z,hz,r⟩⟩
end
section
variable {X:Cx}
theorem Xt(K:aa)(h:X.K=K):cf X (compareOp .NotIn) (Kr K true):=by subst h;exact Vn
end
theorem Ov{J:It}{xs:List V}{bs:List Bool}{te:TE}{Q:VK}{D:Addr}{H H0:Hp}(rest:St)(nw:Nw H H0 D (.lst []))(hl:xs.length=bs.length)(hz:xs.length<=1000) (go:∀i x H2,xs[i]? =some x->az H H2->J.go i H2/\∀y H3,J.hV i H2 y H3->H3=H2/\y=x)(stop:∀H2,az H H2->J.stop xs.length H2) (hs:∀(i:Nat)(x:V)(b:Bool)(H2:Hp)(Q':VK),xs[i]? =some x->bs[i]? =some b->az H H2->(∀H3,az H2 H3->Q' (.bl b) H3)->te (some x::rest) H2 Q') (hq:∀H',az H H'->H' D=some (.lst (bs.map V.bl))->Q (.ref D) H'):jQ J (fY 0) jj te Q D (none::rest) H0:=by
 have hD:=nw.no;refine sE xs.length (λi O H2=>az H H2/\H2 D=some (.lst ((bs.take i).map V.bl))/\∃v,O=v::rest) ?_ ?_ ?_
 ·exact⟨nw.same,nw.at',none,Z⟩
 ·rintro i O H2 hi ⟨s2,d2,v,rfl⟩
  have yC:i<bs.length:=by rw[<-hl];exact hi
  have ex:=cI hi;have eb:=cI yC;obtain⟨g1,g2⟩:=go i _ H2 ex s2;refine⟨g1,λy H3 hy=>?_⟩;obtain⟨rfl,rfl⟩:=g2 y H3 hy;refine wO ?_;refine hs i _ _ _ _ ex eb s2 λH4 s4=>?_;refine⟨_,s4 _ _ d2,?_,xs.length-(i+1),au,Z,au,λb o e=>?_,?_,_,Z⟩
  ·rw[bA,tf]
   have:(1000:Nat)<sizeLine:=by decide
   lia
  ·rw[bh (fv e hD)];exact s4 b o (s2 b o e)
  ·rw[bU,wx,eb,jg];rfl
 ·rintro O H2 ⟨s2,d2,v,rfl⟩
  refine⟨stop H2 s2,hq H2 s2 ?_⟩;rw[d2,hl,wy]
theorem zj{K:aa}{a:Addr}{xs:List V}{bs:List Bool}{te:TE}{Q:VK}{D:Addr}{H H0:Hp}(rest:St)(hx:aP K H a xs)(nw:Nw H H0 D (.lst []))(hl:xs.length=bs.length)(hz:xs.length<=1000) (hs:∀(i:Nat)(x:V)(b:Bool)(H2:Hp)(Q':VK),xs[i]? =some x->bs[i]? =some b->az H H2->(∀H3,az H2 H3->Q' (.bl b) H3)->te (some x::rest) H2 Q') (hq:∀H',az H H'->H' D=some (.lst (bs.map V.bl))->Q (.ref D) H'):jQ (vO K a) (fY 0) jj te Q D (none::rest) H0:=Ov rest nw hl hz (λi x H2 e s=>⟨⟨xs,x,hx.go s,e⟩,λy H3 ⟨e3,y3⟩=>⟨e3,by have:=y3 _ (hx.go s);rw[e]at this;exact(cW this).symm⟩⟩) (λH2 s=>⟨xs,hx.go s,bj _⟩) hs hq
theorem y6{ds:List ah}{f:ah->Bool}{i:Nat}{b:Bool}(h:(ds.map f)[i]? =some b):∃d,ds[i]? =some d/\f d=b:=by rw[bK]at h;cases e:ds[i]? with |none=>rw[e]at h;cases h |some d=>rw[e]at h;exact⟨d,Z,cW h⟩
theorem all_map{ds:List ah}{f:ah->Bool}:(ds.map f).all id=ds.all f:=by rw[Gy];rfl
section
variable {X:Cx}
inductive a7M(K:aa)(x:V)(y:V)(H:Hp)(Q:VK):Prop |mk (a:_)(b:_)(xs:_)(ys:_)(h0:x= .ref a)(h1:y= .ref b)(h2:aG K H a xs)(h3:aG K H b ys)(h4:xs.length+ys.length<=sizeLine)(h5:∀p H',Nw H H' p (.lst (xs++ys))->Q (.ref p) H')
def Uv(K:aa):R2:=λx y H Q=>a7M K x y H Q
theorem sG(K:aa)(hK:X.K=K):cf X (binaryOp .Add) (Uv K):=by
 subst hK;intro pins s O H x y v u Q I rx ry h;obtain⟨a,b,xs,ys,rfl,rfl,ha,hb,hz,q⟩:=h;cases rx;cases ry;obtain⟨its,r1,p1,_⟩:=I.list ha;obtain⟨nP,r2,p2,_⟩:=I.list hb;obtain⟨⟨cls,dd,data,sl⟩,n,ho,hc,hdd,hd⟩:=id p1;obtain⟨⟨Oz,sC,data2,nA⟩,n2,lF,fm,a99,hd2⟩:=id p2;simp only at hc hd fm hd2;subst hc hd fm hd2;have e:its.toArray++nP.toArray=(its++nP).toArray:=by simp
 refine concat_meets ⟨_,ho,Z⟩ ⟨_,lF,Z⟩ noFill_list_add seq_list_add PySem.F.slot_list_add PySem.F.entry_list_add (PySem.F.args_list_add_2 _ _) (list_addW a b its.toArray nP.toArray n n2 dd sC sl nA (by rw[dB,dB,<-r1.length,<-r2.length];exact hz)) ⟨ho,lF,?_⟩;rw[e];have nw:Nw H (upd H s.heap.objs.size (.lst (xs++ys))) s.heap.objs.size (.lst (xs++ys)):=.of (I.aW.fresh (bj _));refine⟨.ref s.heap.objs.size,_,I.laid (t':=s.toks) (o:=.lst (xs++ys)) (λb ob q=>bL _ q) (bj _) ?_,Z,q _ _ nw⟩;exact⟨by rw[fQ];exact hz,_,0,r1.append r2,cK _ Z⟩
open Classical in
noncomputable def pZ(h:Heap)(d:ah)(w:Value):Bool:=if q:∃e as,Reads h w e as then PyData.eqv q.choose d else false
theorem a4e{h:Heap}{d e:ah}{w:Value}{as:List Addr}(r:Reads h w e as):pZ h d w=PyData.eqv e d:=by have q:∃e as,Reads h w e as:=⟨e,as,r⟩;unfold pZ;rw[dif_pos q];obtain⟨as',r'⟩:=q.choose_spec;rw[(Reads.unique r' e as r).1]
theorem NK{pins:List (Addr×Obj)}{s:ae}{O:St}{H:Hp}(I:Inv X pins O H s)(hu:X.A.units+65<cLine){x:V}{u:Value}{d:ah}(rx:RelV x u)(hd:RD X.K H x d)(sd:SeqAt.shaped d=true): ∀{xs:List V}{us:List Value}{ds:List ah},Vals xs us->aJ X.K H xs ds->(∀e∈ds,SeqAt.shaped e=true)->(∀w∈us,SeqAt.EqAt X.A.in1 s w u (pZ s.heap d w))/\us.any (pZ s.heap d)=ds.any λe=>PyData.eqv e d |xs,us,[],rv,h,_=>by cases h.nil_inv;cases rv;exact⟨λ_ h=>(eS h).elim,Z⟩ |xs,us,e::ds,rv,h,se=>by obtain⟨y,ys,rfl,h1,h2⟩:=h.cons_inv;cases rv with |cons ra rb=>
 rename_i w ws;obtain⟨as,q1⟩:=RD.reads I e ra h1;obtain⟨bs,q2⟩:=RD.reads I d rx hd;have key:SeqAt.EqAt X.A.in1 s w u (PyData.eqv e d):=SeqAt.eqAt_reads e d X.A.in1 s w u as bs q1 q2 (SeqAt.canLay_of_shaped (se e (.head _))) (SeqAt.canLay_of_shaped sd) (SeqAt.room_of_shaped (se e (.head _)) (by show X.A.units+1+64<cLine;omega));obtain⟨k1,k2⟩:=NK I hu rx hd sd rb h2 (λe' he=>se e' (.tail _ he));have ew:pZ s.heap d w=PyData.eqv e d:=a4e q1;refine⟨λz hz=>?_,?_⟩
 ·rcases bS.mp hz with rfl|hz
  ·rw[ew];exact key
  ·exact k1 z hz
 ·rw[tq,tq,ew,k2]
end
end _L
namespace _L
theorem cu.QT{k:Nat}{A:PySem.Around}(r:cu k A):A.units+65<PySem.cLine:=by have:=r.un;lia
end _L
namespace _L
open PySem PySem.Spec PyProof.Rows
def iH(b:Bool)(h:Heap)(it l:Addr)(k:Nat):Prop:=match b with|true=>h.IsListIter it l k|false=>h.IsTupleIter it l k
def fC(b:Bool)(h:Heap)(l:Addr)(xs:Array Value):Prop:=match b with|true=>h.IsList l xs|false=>h.IsTuple l xs
def oa(b:Bool):String:=match b with|true=>"list_iterator"|false=>"tuple_iterator"
theorem iH.to{b:Bool}{h g:Heap}{it l:Addr}{k:Nat}(x:iH b h it l k)(e:∀o,h.get? it=some o->g.get? it=some o):iH b g it l k:=by cases b<;>(obtain⟨o,ho,r⟩:=x;exact⟨o,e o ho,r⟩)
theorem fC.to{b:Bool}{h g:Heap}{l:Addr}{xs:Array Value}(x:fC b h l xs)(e:∀o,h.get? l=some o->g.get? l=some o):fC b g l xs:=by cases b<;>(obtain⟨o,ho,r⟩:=x;exact⟨o,e o ho,r⟩)
theorem iH.ob{b:Bool}{h:Heap}{it l:Addr}{k:Nat}(x:iH b h it l k):∃o,h.get? it=some o/\o.cls= .type (oa b)/\∀v,o.data≠ .cell v:=by cases b<;>(obtain⟨o,ho,c,d⟩:=x;exact⟨o,ho,c,λv z=>by rw[d]at z;cases z⟩)
section
variable {prog:af}{w:World}{A:ai}{E:Value->ae->Prop}{s:ae}
theorem rA{b:Bool}{l:Addr}{xs:Array Value}{Q:Value->ae->Prop}(x:fC b s.heap l xs) (q:Q (.ref s.heap.objs.size) {s with heap:=s.heap.push {cls:=.type (oa b),data:=.fields #[.ref l,.int 0 0]}}):wpAny (model prog w) A (pyIter (.ref l)) Q E s:=by
 cases b
 ·exact wpAny_pyIter_tuple x q
 ·exact vU x q
theorem Xj{it t:Addr}{k:Nat}{ts:Array Value}{x:Value}{Q:Value->ae->Prop}(hi:s.heap.IsTupleIter it t k)(ht:s.heap.IsTuple t ts)(hx:ts[k]? =some x) (q:∀g,g.IsTupleIter it t (k+1)->Heap.SameBut it s.heap g->Q x {s with heap:=g}):wpAny (model prog w) A (Builtin.SmallTypes.nextOf (.ref it)) Q E s:=by obtain⟨oi,iC,ci,di⟩:=id hi;obtain⟨ot,E9,_,nt,dt⟩:=ht;unfold Builtin.SmallTypes.nextOf;refine aA (zO (name:=Str.ofString "__next__") hi.typeIs Gh (zN Gh hi.typeIs a89 ?_ (a8a _)));show wpAny _ _ (field (.ref it) 0>>=_) _ _ s;refine aA (gI iC di (x:=.ref t) Z ?_);show wpAny _ _ (if(Value.ref t==Value.none)=true then _ else _) _ _ s;rw[aU (show¬((Value.ref t==Value.none)=true)from dc)];show wpAny _ _ (field (.ref it) 1>>=_) _ _ s;refine aA (gI iC di (x:=.int k 0) Z ?_);show wpAny _ _ (seqItems? (.ref t)>>=_) _ _ s;refine aA (qx E9 dt ?_);simp only[Qp,hx];refine aA (zL iC di (by simp) (bw ⟨x,Z,bw (q _ ?_ (Heap.SameBut.update ..))⟩));exact⟨_,A7 _ iC (Qa (zX di _)),(Obj.cls_mapFields ..).trans ci,by rw[zX di];simp[rawInt]⟩
theorem a4i{it t:Addr}{k:Nat}{ts:Array Value}{Q:Value->ae->Prop}(hh:A.handled=none)(hi:s.heap.IsTupleIter it t k)(ht:s.heap.IsTuple t ts)(hx:ts[k]? =none) (q:∀g e,Heap.ExtBut it s.heap g->(∃o,g.get? e=some o/\o.cls= .type "StopIteration")->E (.ref e) {s with heap:=g}):wpAny (model prog w) A (Builtin.SmallTypes.nextOf (.ref it)) Q E s:=by
 obtain⟨oi,iC,ci,di⟩:=id hi;obtain⟨ot,E9,_,nt,dt⟩:=ht;unfold Builtin.SmallTypes.nextOf;refine aA (zO (name:=Str.ofString "__next__") hi.typeIs Gh (zN Gh hi.typeIs a89 ?_ (a8a _)));show wpAny _ _ (field (.ref it) 0>>=_) _ _ s;refine aA (gI iC di (x:=.ref t) Z ?_);show wpAny _ _ (if(Value.ref t==Value.none)=true then _ else _) _ _ s;rw[aU (show¬((Value.ref t==Value.none)=true)from dc)];show wpAny _ _ (field (.ref it) 1>>=_) _ _ s;refine aA (gI iC di (x:=.int k 0) Z ?_);show wpAny _ _ (seqItems? (.ref t)>>=_) _ _ s;refine aA (qx E9 dt ?_);simp only[Qp,hx];refine aA (wpAny_rule (aA (zL iC di (by simp) ?_)));show wpAny _ _ (newExc (.type "StopIteration") []>>=_) _ _ _;refine aA ?_;simp only[newExc,newTuple];refine aA (lT ?_ (by size_fits));refine aA (m:=firstArgMember _ _) (vV (a:=Value.none) (by first|rfl|(simp only[firstArgMember];rfl)) ?_);refine lT ?_ (by size_fits);simp only[raiseNew];refine aA (wpAny_handled ?_)
 first|rw[show A.in1.handled=none from hh]|rw[hh]
 exact aA (bw (wpAny_throw (q _ _ (((Heap.SameBut.update ..).extBut.push _).push _) ⟨_,cK _ Z,Z⟩)))
theorem xT{b:Bool}{it l:Addr}{k:Nat}{xs:Array Value}{x:Value}{Q:Value->ae->Prop}(hi:iH b s.heap it l k)(hl:fC b s.heap l xs)(hx:xs[k]? =some x) (q:∀g,iH b g it l (k+1)->Heap.SameBut it s.heap g->Q x {s with heap:=g}):wpAny (model prog w) A (Builtin.SmallTypes.nextOf (.ref it)) Q E s:=by
 cases b
 ·exact Xj hi hl hx q
 ·exact wpAny_nextOf_list_item hi hl hx q
theorem Fg{b:Bool}{it l:Addr}{k:Nat}{xs:Array Value}{Q:Value->ae->Prop}(hh:A.handled=none)(hi:iH b s.heap it l k)(hl:fC b s.heap l xs)(hx:xs[k]? =none) (q:∀g e,Heap.ExtBut it s.heap g->(∃o,g.get? e=some o/\o.cls= .type "StopIteration")->E (.ref e) {s with heap:=g}):wpAny (model prog w) A (Builtin.SmallTypes.nextOf (.ref it)) Q E s:=by
 cases b
 ·exact a4i hh hi hl hx q
 ·exact wpAny_nextOf_list_end hh hi hl hx q
structure Zp(b1 b2:Bool)(h:Heap)(z TI TO i1 i2 l1 l2:Addr)(f0:Value)(k:Nat):Prop where
 zz:IsZip h z TI TO f0
 ti:IsPair h TI (.ref i1) (.ref i2)
 to:∃a b,IsPair h TO a b
 n1:iH b1 h i1 l1 k
 n2:iH b2 h i2 l2 k
theorem KS{z TI TO:Addr}{Q:Bool->ae->Prop}(hz:IsZip s.heap z TI TO .none)(q:Q true s):wpAny (model prog w) A (Builtin.SmallTypes.ownedTupleIsFree (.ref z)) Q E s:=by unfold Builtin.SmallTypes.ownedTupleIsFree;exact aA (gI hz Z (x:=.none) Z (bw q))
theorem QC{b1 b2:Bool}{z TI TO i1 i2 l1 l2:Addr}{k:Nat}{xs ys:Array Value}{x y:Value}{Q:Value->ae->Prop}(D:ZipApart z TI TO i1 i2 l1 l2)(a9D:Zp b1 b2 s.heap z TI TO i1 i2 l1 l2 .none k) (kD:fC b1 s.heap l1 xs)(mE:fC b2 s.heap l2 ys)(hx:xs[k]? =some x)(hy:ys[k]? =some y) (q:∀g,Zp b1 b2 g z TI TO i1 i2 l1 l2 (rawInt s.heap.objs.size) (k+1)->IsPair g s.heap.objs.size x y->(∀c o,c≠z->c≠TO->c≠i1->c≠i2->s.heap.get? c=some o->g.get? c=some o)->Q (.ref s.heap.objs.size) {s with heap:=g}): wpAny (model prog w) A (Builtin.«zip.__next__» ⟨[.ref z],[]⟩) (λr s'=>∃v,r= .done (.ret v)/\Q v s') E s:=by
 obtain⟨hz,jM,⟨a,b,kF⟩,h1,h2⟩:=a9D;show wpAny _ _ (field (.ref z) 2>>=_) _ _ _;refine aA (gI hz Z (x:=.bool false) Z ?_);show wpAny _ _ (field (.ref z) 3>>=_) _ _ _;refine aA (gI hz Z (x:=.ref TI) Z (aA (qx jM Z ?_)));show wpAny _ _ (Builtin.SmallTypes.ownedTupleIsFree (.ref z)>>=_) _ _ _;refine aA (KS hz ?_);simp only[qz];refine aA (wpAny_rule (aA (gI hz Z (x:=.ref TO) Z (aA (vT hz (by simp) λg1 z1 e1=>?_)))));replace z1:IsZip g1 z TI TO .ellipsis:=z1;refine aA ?_;simp only[List.zipIdx_cons,List.zipIdx_nil,Gv,List.forIn_nil];refine aA (aA (zM ?_));show wpAny _ _ (Builtin.SmallTypes.nextOf (.ref i1)>>=_) _ _ _;refine aA (xT (h1.to λo e=>e1.extBut _ _ D.i1z e) (kD.to λo e=>e1.extBut _ _ D.l1z e) hx λg2 n1 e2=>bw ?_);have t2:IsPair g2 TO a b:=e2.extBut _ _ D.TOi1 (e1.extBut _ _ D.TOz kF);refine aA (qx t2 Z (aA (Px t2 λg3 t3 e3=>?_)));replace t3:IsPair g3 TO x b:=t3;refine aA (wpAny_letGo (bw ?_));refine aA (aA (zM ?_));show wpAny _ _ (Builtin.SmallTypes.nextOf (.ref i2)>>=_) _ _ _;refine aA (xT (h2.to λo e=>e3.extBut _ _ D.TOi2.symm (e2.extBut _ _ D.i12.symm (e1.extBut _ _ D.i2z e))) (mE.to λo e=>e3.extBut _ _ D.l2TO (e2.extBut _ _ D.l2i1 (e1.extBut _ _ D.l2z e))) hy λg4 n2 e4=>bw ?_);have t4:IsPair g4 TO x b:=e4.extBut _ _ D.TOi2 t3;refine aA (qx t4 Z (aA (Px t4 λg5 t5 e5=>?_)));replace t5:IsPair g5 TO x y:=t5;refine aA (wpAny_letGo (bw (bw ?_)));refine aA (qx t5 Z (aA (wpAny_newTuple ?_)));have sz:g5.objs.size=s.heap.objs.size:=by rw[e5.1,e4.1,e3.1,e2.1,e1.1]
 have z5:IsZip g5 z TI TO .ellipsis:=e5.extBut _ _ D.TOz.symm (e4.extBut _ _ D.i2z.symm (e3.extBut _ _ D.TOz.symm (e2.extBut _ _ D.i1z.symm z1)));have kp:∀c o,c≠z->c≠TO->c≠i1->c≠i2->s.heap.get? c=some o->g5.get? c=some o:=λc o c1 c2 c3 c4 e=>e5.extBut _ _ c2 (e4.extBut _ _ c4 (e3.extBut _ _ c2 (e2.extBut _ _ c3 (e1.extBut _ _ c1 e))));have m1:iH b1 g5 i1 l1 (k+1):=n1.to λo e=>e5.extBut _ _ D.TOi1.symm (e4.extBut _ _ D.i12 (e3.extBut _ _ D.TOi1.symm e));have m2:iH b2 g5 i2 l2 (k+1):=n2.to λo e=>e5.extBut _ _ D.TOi2.symm e;have A8:z<g5.objs.size:=bN z5;show wpAny _ _ (Builtin.SmallTypes.ownedTupleHandOut (.ref z) (.ref g5.objs.size)>>=_) _ _ _;refine aA ?_;unfold Builtin.SmallTypes.ownedTupleHandOut;have z6:IsZip (g5.push {cls:=.type "tuple",data:=.seq #[x,y]}) z TI TO .ellipsis:=bL _ z5;refine aA (vT z6 (by simp) λg7 z7 e7=>?_);replace z7:IsZip g7 z TI TO (rawInt g5.objs.size):=z7;refine vT z7 (by simp) λg8 z8 e8=>?_;replace z8:IsZip g8 z TI TO (rawInt g5.objs.size):=z8;have up:∀c o,c≠z->g5.get? c=some o->g8.get? c=some o:=λc o c1 e=>e8.extBut _ _ c1 (e7.extBut _ _ c1 (bL _ e));have t8:IsPair g8 g5.objs.size x y:=e8.extBut _ _ (qB A8) (e7.extBut _ _ (qB A8) (cK _ Z));rw[sz]at z8 t8;refine bw ⟨_,Z,?_⟩;show Q (.ref g5.objs.size) _;rw[sz];exact q g8 ⟨z8,up _ _ D.TIz (kp _ _ D.TIz D.TITO D.TIi1 D.TIi2 jM),⟨_,_,up _ _ D.TOz t5⟩,m1.to λo e=>up _ o D.i1z e,m2.to λo e=>up _ o D.i2z e⟩ t8 λc o c1 c2 c3 c4 e=>up c o c1 (kp c o c1 c2 c3 c4 e)
theorem QD{b1 b2:Bool}{z TI TO i1 i2 l1 l2:Addr}{k:Nat}{xs ys:Array Value}{Q:Fin->ae->Prop}(hh:A.handled=none)(D:ZipApart z TI TO i1 i2 l1 l2)(a9D:Zp b1 b2 s.heap z TI TO i1 i2 l1 l2 .none k) (kD:fC b1 s.heap l1 xs)(mE:fC b2 s.heap l2 ys)(vc:xs[k]? =none\/ys[k]? =none) (q:∀g e,(∀c o,c≠z->c≠TO->c≠i1->c≠i2->s.heap.get? c=some o->g.get? c=some o)->(∃o,g.get? e=some o/\o.cls= .type "StopIteration")->E (.ref e) {s with heap:=g}): wpAny (model prog w) A (Builtin.«zip.__next__» ⟨[.ref z],[]⟩) Q E s:=by obtain⟨hz,jM,⟨a,b,kF⟩,h1,h2⟩:=a9D;show wpAny _ _ (field (.ref z) 2>>=_) _ _ _;refine aA (gI hz Z (x:=.bool false) Z ?_);show wpAny _ _ (field (.ref z) 3>>=_) _ _ _;refine aA (gI hz Z (x:=.ref TI) Z (aA (qx jM Z ?_)));show wpAny _ _ (Builtin.SmallTypes.ownedTupleIsFree (.ref z)>>=_) _ _ _;refine aA (KS hz ?_);simp only[qz];refine aA (wpAny_rule (aA (gI hz Z (x:=.ref TO) Z (aA (vT hz (by simp) λg1 z1 e1=>?_)))));replace z1:IsZip g1 z TI TO .ellipsis:=z1;refine aA ?_;simp only[List.zipIdx_cons,List.zipIdx_nil,Gv,List.forIn_nil];refine aA (aA (zM ?_));show wpAny _ _ (Builtin.SmallTypes.nextOf (.ref i1)>>=_) _ _ _;have j1:=h1.to λo e=>e1.extBut _ _ D.i1z e;have k1:=kD.to λo e=>e1.extBut _ _ D.l1z e;cases hx:xs[k]? with
 |none=>
  refine aA (Fg hh j1 k1 hx λg2 er e2 ⟨oe,pN,vh⟩=>?_);have z2:IsZip g2 z TI TO .ellipsis:=e2 _ _ D.i1z.symm z1;have nz:er≠z:=λv=>by subst v;rw[z2]at pN;cases pN;simp at vh
  refine vT z2 (by simp) λg3 _ e3=>q g3 er (λc o c1 _ c3 _ v=>e3.extBut _ _ c1 (e2 _ _ c3 (e1.extBut _ _ c1 v))) ⟨oe,e3.extBut _ _ nz pN,vh⟩ |some x=>
  have hy:ys[k]? =none:=by rcases vc with h|h;rw[hx]at h;cases h;exact h
  refine aA (xT j1 k1 hx λg2 n1 e2=>bw ?_);have t2:IsPair g2 TO a b:=e2.extBut _ _ D.TOi1 (e1.extBut _ _ D.TOz kF);refine aA (qx t2 Z (aA (Px t2 λg3 t3 e3=>?_)));refine aA (wpAny_letGo (bw ?_));refine aA (aA (zM ?_));show wpAny _ _ (Builtin.SmallTypes.nextOf (.ref i2)>>=_) _ _ _;refine aA (Fg hh (h2.to λo e=>e3.extBut _ _ D.TOi2.symm (e2.extBut _ _ D.i12.symm (e1.extBut _ _ D.i2z e))) (mE.to λo e=>e3.extBut _ _ D.l2TO (e2.extBut _ _ D.l2i1 (e1.extBut _ _ D.l2z e))) hy λg4 er e4 ⟨oe,pN,vh⟩=>?_);have z4:IsZip g4 z TI TO .ellipsis:=e4 _ _ D.i2z.symm (e3.extBut _ _ D.TOz.symm (e2.extBut _ _ D.i1z.symm z1));have nz:er≠z:=λv=>by subst v;rw[z4]at pN;cases pN;simp at vh
  refine vT z4 (by simp) λg5 _ e5=>q g5 er (λc o c1 c2 c3 c4 v=>e5.extBut _ _ c1 (e4 _ _ c4 (e3.extBut _ _ c2 (e2.extBut _ _ c3 (e1.extBut _ _ c1 v))))) ⟨oe,e5.extBut _ _ nz pN,vh⟩
abbrev wN(b1:Bool)(h:Heap)(l1:Addr):Heap:=h.push {cls:=.type (oa b1),data:=.fields #[.ref l1,.int 0 0]}
abbrev wM(b1 b2:Bool)(h:Heap)(l1 l2:Addr):Heap:=(wN b1 h l1).push {cls:=.type (oa b2),data:=.fields #[.ref l2,.int 0 0]}
abbrev wL(b1 b2:Bool)(h:Heap)(l1 l2:Addr):Heap:=(wM b1 b2 h l1 l2).push {cls:=.type "tuple",data:=.seq #[.ref h.objs.size,.ref (wN b1 h l1).objs.size]}
abbrev wK(b1 b2:Bool)(h:Heap)(l1 l2:Addr):Heap:=(wL b1 b2 h l1 l2).push {cls:=.type "tuple",data:=.seq #[.none,.none]}
abbrev qG(b1 b2:Bool)(h:Heap)(l1 l2:Addr):Heap:=(wK b1 b2 h l1 l2).push {cls:=.type "zip",data:=.fields #[.none,.bool false,.bool false,.ref (wM b1 b2 h l1 l2).objs.size,.ref (wL b1 b2 h l1 l2).objs.size]}
theorem QB(b1 b2:Bool)(l1 l2:Addr)(xs ys:Array Value):Meets (Builtin.«zip.__new__» ⟨[.type "zip",.ref l1,.ref l2],[]⟩) (λ_ R s=>fC b1 s.heap l1 xs/\fC b2 s.heap l2 ys/\R (.ok (.ret (.ref (wK b1 b2 s.heap l1 l2).objs.size))) {s with heap:=qG b1 b2 s.heap l1 l2}):=.of_wp λprog w A R s h=>by
 obtain⟨hp,gg,d,tk,os⟩:=s;obtain⟨kD,mE,h⟩:=h;have E2:=sub_zip;have hL1:fC b1 (Shared.heap ⟨hp,gg,d,tk,os⟩) l1 xs:=kD;have rX:fC b2 (Shared.heap ⟨hp.push {cls:=.type (oa b1),data:=.fields #[.ref l1,.int 0 0]},gg,d,tk,os⟩) l2 ys:=mE.to λo e=>bL _ e
 wp_walk using rA hL1,rA rX;exact⟨_,Z,h⟩
theorem QE{b1 b2:Bool}{l1 l2:Addr}{xs ys:Array Value}{Q:Value->ae->Prop}(kD:fC b1 s.heap l1 xs)(mE:fC b2 s.heap l2 ys) (q:∀g,Zp b1 b2 g (s.heap.objs.size+4) (s.heap.objs.size+2) (s.heap.objs.size+3) s.heap.objs.size (s.heap.objs.size+1) l1 l2 .none 0->(∀c o,s.heap.get? c=some o->g.get? c=some o)->Q (.ref (s.heap.objs.size+4)) {s with heap:=g}): wpAny (model prog w) A (call (.type "zip") [.ref l1,.ref l2]) Q E s:=by
 refine callType_new PySem.F.called_zip ay (PySem.F.typeCall_zip_2 _ _) (PySem.F.newCall_zip_2 _ _) (λobj=>PySem.F.args_object_init_3 obj _ _) PySem.F.entry_zip_new (QB b1 b2 l1 l2 xs ys) ⟨kD,mE,?_⟩;have z1:(wN b1 s.heap l1).objs.size=s.heap.objs.size+1:=lY ..;have z2:(wM b1 b2 s.heap l1 l2).objs.size=s.heap.objs.size+2:=by rw[lY,z1]
 have z3:(wL b1 b2 s.heap l1 l2).objs.size=s.heap.objs.size+3:=by rw[lY,z2]
 have z4:(wK b1 b2 s.heap l1 l2).objs.size=s.heap.objs.size+4:=by rw[lY,z3]
 have g5:(qG b1 b2 s.heap l1 l2).get? (wK b1 b2 s.heap l1 l2).objs.size=some _:=cK _ rfl;have g4:(qG b1 b2 s.heap l1 l2).get? (wL b1 b2 s.heap l1 l2).objs.size=some _:=bL _ (cK _ Z);have g3:(qG b1 b2 s.heap l1 l2).get? (wM b1 b2 s.heap l1 l2).objs.size=some _:=bL _ (bL _ (cK _ Z));have g2:(qG b1 b2 s.heap l1 l2).get? (wN b1 s.heap l1).objs.size=some _:=bL _ (bL _ (bL _ (cK _ Z)));have g1:(qG b1 b2 s.heap l1 l2).get? s.heap.objs.size=some _:=bL _ (bL _ (bL _ (bL _ (cK _ Z))));show _/\_;rw[z2,z3,z4]at g5;rw[z1,z2]at g3;rw[z3]at g4;rw[z1]at g2;rw[z4];refine⟨⟨_,g5,Z⟩,q _ ⟨g5,g3,⟨_,_,g4⟩,?_,?_⟩ λc o e=>bL _ (bL _ (bL _ (bL _ (bL _ e))))⟩
 ·cases b1<;>exact⟨_,g1,rfl,rfl⟩
 ·cases b2<;>exact⟨_,g2,rfl,rfl⟩
end
section
variable {X:Cx}{pins:List (Addr×Obj)}{O:St}{H:Hp}{s:ae}{h':Heap}
theorem Inv.tJ{t':Nat}{fp:List Addr}(I:Inv X pins O H s)(k:∀b o,b∉fp->s.heap.get? b=some o->h'.get? b=some o)(hf:∀b∈fp,jz X pins H b):Inv X pins O H {s with heap:=h',toks:=t'}:=by
 have uC:∀b u,H b=some u->b∉fp:=λb u e z=>by rw[(hf b z).1]at e;cases e
 have hL:X.env.locals∉fp:=λz=>(hf _ z).2.1 rfl;refine I.step (g':=s.gens) (d':=s.drawn) (ch:=fp) (λb hb=>?_) (λb o _ _ hc e _=>k b o hc e) (λb o _ _ hc e _=>⟨o.slots,k b o hc e⟩) (λ_ _ _ _ n=>n) (λb o hc e=>⟨o,k b o hc e⟩) (λ_ _ e=>e) (λ_ _ _ e=>e) (λb ps e=>⟨#[],by rw[e];simp⟩) (λm hm=>?_) (λb u e=>?_) I.bare
 ·obtain⟨f0,f1,f2,f3,f4,f5⟩:=hf b hb
  exact⟨f3,f1,f4,f5⟩
 ·obtain⟨o,es,ep,ho,r⟩:=hm
  exact⟨o,es,ep,k _ o hL ho,r⟩
 ·refine(I.aW b u e).jY (λc v hc q=>k c v ?_ q) (λ_ q=>q) λ_ _ q=>q
  rcases hc with z|z
  ·rw[z];exact uC b u e
  ·exact uC c _ z
end
def dG(b:Bool)(K:aa)(H:Hp)(a:Addr)(xs:List V):Prop:=match b with|true=>aG K H a xs|false=>aP K H a xs
theorem dG.get{X:Cx}{pins:List (Addr×Obj)}{O:St}{H:Hp}{s:ae}{b:Bool}{a:Addr}{xs:List V}(I:Inv X pins O H s)(h:dG b X.K H a xs):∃its:List Value,Vals xs its/\fC b s.heap a its.toArray:=by
 cases b
 ·obtain⟨its,r,p,_⟩:=I.tuple h;exact⟨its,r,p⟩
 ·obtain⟨its,r,p,_⟩:=I.list h;exact⟨its,r,p.isList⟩
theorem dG.inj{X:Cx}{pins:List (Addr×Obj)}{O:St}{H:Hp}{s:ae}{b:Bool}{a:Addr}{xs ys:List V}(I:Inv X pins O H s)(h:dG b X.K H a xs)(g:dG b X.K H a ys):xs=ys:=by
 cases b
 ·exact I.GZ h g
 ·exact I.LX h g
def qr(K:aa)(b1 b2:Bool)(l1 l2:Addr):It:=⟨λi H=>∃xs ys x y,dG b1 K H l1 xs/\dG b2 K H l2 ys/\xs[i]? =some x/\ys[i]? =some y,λi H v H'=>∃T x y,v= .ref T/\(∀xs,dG b1 K H l1 xs->xs[i]? =some x)/\(∀ys,dG b2 K H l2 ys->ys[i]? =some y)/\Nw H H' T (.tup [x,y]),λi H=>∃xs ys,dG b1 K H l1 xs/\dG b2 K H l2 ys/\(xs.length<=i\/ys.length<=i)⟩
theorem QZ{P:af}{w:World}{K:aa}{elts:List Expr}{kt:Nat}{pos:Pos}{b1 b2:Bool}{z TI TO i1 i2 l1 l2:Addr}(D:ZipApart z TI TO i1 i2 l1 l2): Turn P w K (.Tuple elts kt pos) (qr K b1 b2 l1 l2) [z,TI,TO,i1,i2] z (λi h=>Zp b1 b2 h z TI TO i1 i2 l1 l2 .none i) where
 mem:=by simp
 obj:=λi h st b hb=>by
  obtain⟨hz,jM,⟨a,c,kF⟩,h1,h2⟩:=st;simp only[bS,eS,jR]at hb;rcases hb with rfl|rfl|rfl|rfl|rfl
  ·exact⟨_,hz,λv e=>by cases e⟩
  ·exact⟨_,jM,λv e=>by cases e⟩
  ·exact⟨_,kF,λv e=>by cases e⟩
  ·obtain⟨o,e,_,n⟩:=h1.ob;exact⟨o,e,n⟩
  ·obtain⟨o,e,_,n⟩:=h2.ob;exact⟨o,e,n⟩
 keep:=λi h h' st k=>by obtain⟨hz,jM,⟨a,c,kF⟩,h1,h2⟩:=st;exact⟨k z (by simp) _ hz,k TI (by simp) _ jM,⟨a,c,k TO (by simp) _ kF⟩,h1.to λo e=>k i1 (by simp) o e,h2.to λo e=>k i2 (by simp) o e⟩
 item:=by
  intro X hP hw hK hc i pins s O H E I hf st hg;subst hP hw hK;obtain⟨xs,ys,x,y,q1,q2,e1,e2⟩:=hg;obtain⟨DP,r1,p1⟩:=q1.get I;obtain⟨nP,r2,p2⟩:=q2.get I;obtain⟨u1,DY,m8⟩:=r1.get e1;obtain⟨u2,Zz,Cj⟩:=r2.get e2;have hT:s.TypeIs (.ref z) "zip":=⟨_,st.zz,Z⟩;unfold pyNext;refine aA (zP (zO (name:=Str.ofString "__next__") hT Gg (zN Gg hT PySem.F.entry_zip_next (QC D st p1 p2 (x:=u1) (y:=u2) (by simpa using DY) (by simpa using Zz) λg zg tg kp=>bw ?_) (PySem.F.args_zip_next_1 _))));refine⟨_,Z,?_⟩;refine wpAny_letOwnedTupleGo_zip zg.zz λg' Qz sb=>?_;have hs:=sb.extBut;have A8:z<s.heap.objs.size:=bN st.zz;have nw:Nw H (upd H s.heap.objs.size (.tup [x,y])) s.heap.objs.size (.tup [x,y]):=.of (I.aW.fresh (bj _));have I1:Inv X pins O (upd H s.heap.objs.size (.tup [x,y])) {s with heap:=s.heap.push {cls:=.type "tuple",data:=.seq #[u1,u2]}}:=I.laid (t':=s.toks) (λb ob q=>bL _ q) (bj _) ⟨by show 2<=sizeLine;decide,[u1,u2],.cons m8 (.cons Cj .nil),⟨_,cK _ Z,Z,_,Z⟩⟩;have Dz:∀b∈[z,TI,TO,i1,i2],b<s.heap.objs.size:=λb hb=>by
   simp only[bS,eS,jR]at hb;obtain⟨hz,jM,⟨a,c,kF⟩,h1,h2⟩:=st;rcases hb with rfl|rfl|rfl|rfl|rfl
   ·exact bN hz
   ·exact bN jM
   ·exact bN kF
   ·obtain⟨o,e,_⟩:=h1.ob;exact bN e
   ·obtain⟨o,e,_⟩:=h2.ob;exact bN e
  have hn:∀b∈[z,TI,TO,i1,i2],upd H s.heap.objs.size (.tup [x,y]) b=none:=λb hb=>by rw[bh (dA (Dz b hb))];exact(hf b hb).1
  have I2:Inv X pins O (upd H s.heap.objs.size (.tup [x,y])) {s with heap:=g'}:=Inv.tJ (s:={s with heap:=s.heap.push {cls:=.type "tuple",data:=.seq #[u1,u2]}}) (t':=s.toks) (fp:=[z,TI,TO,i1,i2]) I1 (λb o hb e=>by
   have e:(s.heap.push {cls:=.type "tuple",data:=.seq #[u1,u2]}).get? b=some o:=e;have nz:b≠z:=λq=>hb (by simp[q]);rcases Qt e with⟨Es,rfl⟩|e'
   ·subst Es
    exact hs _ _ nz tg
   ·exact hs _ _ nz (kp b o nz (λq=>hb (by simp[q])) (λq=>hb (by simp[q])) (λq=>hb (by simp[q])) e')) (λb hb=>by obtain⟨f0,f1,f2,f3,f4,f5⟩:=hf b hb;exact⟨hn b hb,f1,f2,f3,f4,f5⟩);refine⟨.ref s.heap.objs.size,_,I2,Z,⟨s.heap.objs.size,x,y,Z,λzs hz=>?_,λzs hz=>?_,nw⟩,?_,hn⟩
  ·rw[dG.inj I hz q1];exact e1
  ·rw[dG.inj I hz q2];exact e2
  ·obtain⟨_,jM,⟨a,c,kF⟩,h1,h2⟩:=zg
   exact⟨Qz,hs _ _ D.TIz jM,⟨a,c,hs _ _ D.TOz kF⟩,h1.to λo e=>hs _ o D.i1z e,h2.to λo e=>hs _ o D.i2z e⟩
 done:=by intro X hP hw hK hc i pins s O H E I hf st hg;subst hP hw hK;obtain⟨xs,ys,q1,q2,vc⟩:=hg;obtain⟨DP,r1,p1⟩:=q1.get I;obtain⟨nP,r2,p2⟩:=q2.get I;have hT:s.TypeIs (.ref z) "zip":=⟨_,st.zz,Z⟩;have l1:=r1.length;have l2:=r2.length;unfold pyNext;refine aA (zP (zO (name:=Str.ofString "__next__") hT Gg (zN Gg hT PySem.F.entry_zip_next (QD (I.ok.hd hc) D st p1 p2 (vc.imp (λh=>by simp;lia) λh=>by simp;lia) λg e kp he=>?_) (PySem.F.args_zip_next_1 _))));obtain⟨o,ho,lI⟩:=he;refine aA (wpAny_isInstance (T:="StopIteration") (b:=true) ⟨o,ho,lI⟩ isSubtype_stop (bw ⟨Z,?_⟩));exact I.tJ (t':=s.toks) (fp:=[z,TI,TO,i1,i2]) (λb o hb e=>kp b o (λq=>hb (by simp[q])) (λq=>hb (by simp[q])) (λq=>hb (by simp[q])) (λq=>hb (by simp[q])) e) hf
 self:=λ_ _ _ _ _ st h=>wpAny_pyIter_zip st.zz h
inductive a7O(K:aa)(b1:Bool)(b2:Bool)(R:It->Hp->Prop)(vs:List V)(H1:Hp):Prop |mk (l1:_)(l2:_)(h0:vs=[.ref l1,.ref l2])(h1:(∃xs,dG b1 K H1 l1 xs))(h2:(∃ys,dG b2 K H1 l2 ys))(h3:R (qr K b1 b2 l1 l2) H1)
def Zk(K:aa)(b1 b2:Bool)(ta:TA):TI:=λO H R=>ta O H λvs H1=>a7O K b1 b2 R vs H1
theorem kZ(K:aa){X:Cx}(hK:X.K=K)(b1 b2:Bool){elts:List Expr}{kt:Nat}{oO:Pos}{a b:Expr}{ta:TA}{p pos:Pos}(hg:Gl X "zip")(hm:X.mg "zip"=none)(ha:PA X [a,b] ta)(hs:autoParam (starEach [a,b] X.env=[(false,eval a X.env),(false,eval b X.env)]) r8_._auto_1)(fL:autoParam (starEach [b] X.env=[(false,eval b X.env)]) r8_._auto_1): PI X (.Tuple elts kt oO) (.Call (.Name "zip" p) [a,b] [] pos) (Zk K b1 b2 ta):=by
 subst hK;intro pins s O H R I h;refine Call_ (lD I hg hm PyProof.Rows.boot_zip (qA (aV (ha pos pins s O H _ I h) λus s1 ⟨vs,H1,I1,r1,q1⟩=>?_) (by rw[hs,fL]) (by rw[fL];rfl)));obtain⟨l1,l2,e,⟨xs,h1⟩,⟨ys,h2⟩,q⟩:=q1;subst e;obtain⟨u1,u2,rfl,m8,Cj⟩:=vals2 r1;cases(show u1=Value.ref l1 from m8);cases(show u2=Value.ref l2 from Cj);obtain⟨DP,v1,p1⟩:=h1.get I1;obtain⟨nP,v2,p2⟩:=h2.get I1;have a1:l1<s1.heap.objs.size:=by cases b1<;>(obtain⟨o,e,_⟩:=p1;exact bN e)
 have a2:l2<s1.heap.objs.size:=by cases b2<;>(obtain⟨o,e,_⟩:=p2;exact bN e)
 refine QE p1 p2 λg zg kp=>wpAny_pyIter_zip zg.zz ?_;refine⟨_,_,_,_,H1,Z,I1.kept (t':=s1.toks) kp,QZ (zipApart_new a1 a2),zg,λc hc=>?_,q⟩;have hle:s1.heap.objs.size<=c:=by simp only[bS,eS,jR]at hc;rcases hc with rfl|rfl|rfl|rfl|rfl<;>first|exact bj _|exact Nat.le_add_right _ _
 exact I1.lK hle (I1.aW.fresh hle)
theorem dG.go{b:Bool}{K:aa}{H H':Hp}{a:Addr}{xs:List V}(s:az H H')(h:dG b K H a xs):dG b K H' a xs:=by
 cases b
 ·exact aP.go s h
 ·exact aG.go s h
theorem Ot{K:aa}{b1 b2:Bool}{l1 l2:Addr}{xs ys:List V}{bs:List Bool}{te:TE}{Q:VK}{D:Addr}{H H0:Hp}{n:Nat}(rest:St)(hn:n=2)(h1:dG b1 K H l1 xs)(h2:dG b2 K H l2 ys)(nw:Nw H H0 D (.lst [])) (hl:min xs.length ys.length=bs.length)(hz:bs.length<=1000) (hs:∀(i:Nat)(x y:V)(b:Bool)(H2:Hp)(Q':VK),xs[i]? =some x->ys[i]? =some y->bs[i]? =some b->az H H2->(∀H3,az H2 H3->Q' (.bl b) H3)->te (some x::some y::rest) H2 Q') (hq:∀H',az H H'->H' D=some (.lst (bs.map V.bl))->Q (.ref D) H'):jQ (qr K b1 b2 l1 l2) (yN K n (vn (fY 0) (vn (fY 1) EU))) jj te Q D (none::none::rest) H0:=by
 subst hn;have hD:=nw.no;refine sE bs.length (λi O H2=>az H H2/\H2 D=some (.lst ((bs.take i).map V.bl))/\∃v v',O=v::v'::rest) ?_ ?_ ?_
 ·exact⟨nw.same,nw.at',none,none,Z⟩
 ·rintro i O H2 hi ⟨s2,d2,v,v',rfl⟩
  have hx:i<xs.length:=by lia
  have hy:i<ys.length:=by lia
  have ex:=cI hx;have ey:=cI hy;have eb:=cI hi;refine⟨⟨xs,ys,_,_,h1.go s2,h2.go s2,ex,ey⟩,λy' H3 kA=>?_⟩;obtain⟨T,x0,y0,rfl,k1,k2,n3⟩:=kA;have e1:=k1 _ (h1.go s2);have e2:=k2 _ (h2.go s2);rw[ex]at e1;rw[ey]at e2;cases e1;cases e2;refine⟨T,_,Z,aP.of n3.at',Z,_,_,Z,_,_,Z,Z,?_⟩;refine yes (bE ?_);refine hs i _ _ _ _ _ ex ey eb (s2.trans n3.same) λH4 s4=>?_;refine⟨_,s4 _ _ (n3.same _ _ d2),?_,bs.length-(i+1),au,Z,au,λb o e=>?_,?_,_,_,Z⟩
  ·rw[bA,tf]
   have:(1000:Nat)<sizeLine:=by decide
   lia
  ·rw[bh (fv e hD)];exact s4 b o (n3.same b o (s2 b o e))
  ·rw[bU,wx,eb,jg];rfl
 ·rintro O H2 ⟨s2,d2,v,v',rfl⟩
  refine⟨⟨xs,ys,h1.go s2,h2.go s2,au⟩,hq H2 s2 ?_⟩;rw[d2,wy]
theorem eR.there{P:af}{w:World}{H:Hp}{h:Heap}{a:Addr}{o:HO}(x:eR P w H h a o):∃ob,h.get? a=some ob:=by induction o with |lst xs=>obtain⟨_,_,_,_,e⟩:=x;exact⟨_,e⟩ |tup xs=>obtain⟨_,_,_,ob,e,_⟩:=x;exact⟨ob,e⟩ |dK cU=>obtain⟨_,_,_,_,ob,_,_,e,_⟩:=x;exact⟨ob,e⟩ |dT cU=>obtain⟨_,_,_,_,ob,_,_,e,_⟩:=x;exact⟨ob,e⟩ |set S n=>obtain⟨ob,_,_,_,e,_⟩:=x;exact⟨ob,e⟩ |ins C dx fs=>obtain⟨_,_,_,e,_⟩:=x;exact⟨_,e⟩ |own y=>exact x |xd fs=>obtain⟨_,⟨ob,_,_,e,_⟩,_⟩:=x;exact⟨ob,e⟩ |p8 lo hi=>obtain⟨_,_,_,e⟩:=x;exact⟨_,e⟩ |kI ob u=>exact⟨_,x.1⟩ |m3 ps=>exact⟨_,x⟩ |met f y=>exact⟨_,x⟩ |ext φ=>exact x.2.1
structure Fl(P:af)(w:World)(outer:List Env)(H:Hp)(h₁:Heap)(ex:Addr)(H':Hp)(B h:Heap):Prop where
 un:Un (cR outer) [] H H' h₁ h
 aW:da P w H' h
 k1:∀b o,h₁.get? b=some o->H b=none->b∉cR outer->B.get? b=some o
 k2:∀b o,H' b=some o->∃ob,B.get? b=some ob
 k3:∀b o,h₁.get? b=some o->b∉cR outer->∃ob,B.get? b=some ob
 fr:∀b∈cR outer,H' b=none
 nw:h₁.get? ex=none
 ne:H' ex=none
theorem Fl.step{P:af}{w:World}{outer:List Env}{H H':Hp}{h₁ B h h':Heap}{ex:Addr}{ao:Heap}(F:Fl P w outer H h₁ ex H' B h)(st:B.StaysIn h)(fi:B.StaysIn h')(up:h.UpToSlots h')(ff:h.FunFrames ao outer):Fl P w outer H h₁ ex H' B h':=by
 have slot:∀b o,h₁.get? b=some o->H b=none->b∈cR outer->∃sl,h'.get? b=some {o with slots:=sl}:=λb o e n hb=>by obtain⟨sl,e1⟩:=F.un.slot b o e n hb (by simp);obtain⟨_,o2,e2,hd⟩:=ff.mem hb;rw[e1]at e2;cases e2;obtain⟨AD,e3⟩:=up b _ e1 (λvs=>hd vs);exact⟨AD,e3⟩
 refine⟨⟨λb o e n hb _=>fi b o (F.k1 b o e n hb),λb o e n hb _=>slot b o e n hb,F.un.free,λb o e hx=>?_,F.un.hZ,F.un.gX,F.un.ib⟩,λb u e=>?_,F.k1,F.k2,F.k3,F.fr,F.nw,F.ne⟩
 ·by_cases hb:b∈cR outer
  ·obtain⟨_,o2,e2,hd⟩:=ff.mem hb
   obtain⟨sl,e3⟩:=up b o2 e2 hd;exact⟨_,e3⟩
  ·obtain⟨ob,e1⟩:=F.k3 b o e hb
   exact⟨ob,fi b ob e1⟩
 ·refine(F.aW b u e).jY (λc v hc q=>?_) (λ_ q=>q) λ_ _ q=>q
  have Zh:∃ob,B.get? c=some ob:=by
   rcases hc with z|z
   ·rw[z];exact F.k2 b u e
   ·exact F.k2 c _ z
  obtain⟨ob,e1⟩:=Zh;have e2:=st c ob e1;rw[q]at e2;cases e2;exact fi c _ e1
section
variable {P:af}{w:World}{K:aa}{mg:bf}{ao:Heap}{N:List Str}{qual:Str}{scope:Scope}{f:Addr}{cd:Value}{A:ai}{outer:List Env}{s:ae}{H:Hp}{E:XK}{pins:List (Addr×Obj)}{O:St}{H1:Hp}{s1:ae}{h2:Heap}{ex:Addr}{cls:Value}{vs:List Value}
end
structure Exc(K:aa)(mg:bf)(x:Str)(C:Addr)(dJ:List Value)(newId:String):Prop where
 at':mg x=some (.ref C)
 ok:PySem.W.excIn K C dJ newId=true
theorem Exc.own{K:aa}{mg:bf}{x:Str}{C:Addr}{dJ:List Value}{newId:String}{h:Heap}(e:Exc K mg x C dJ newId)(X:K.In h):OwnCls x C dJ newId mg h:=by
 refine⟨e.at',?_⟩;have q:=e.ok;unfold PySem.W.excIn at q;split at q
 ·rename_i dd cd sl ho
  split at q
  ·rename_i D2 bl a0 a1 a2 a3 nn a5 hm hs
   simp only[dr,du,tD]at q;obtain⟨⟨⟨⟨⟨r1,r2⟩,vf⟩,ht⟩,aW⟩,pO⟩:=q;subst r1 r2;obtain⟨c1,c2,c3,c4,c5,c6,c7,c8,c9,c10,c11⟩:=cd;dsimp only at hm vf aW pO;subst hm vf;obtain⟨l⟩:=sl;simp only at hs;subst hs;exact⟨bl,c4,c1,c5,c2,c6,c7,c8,c9,c10,dd,a0,a1,a2,a3,a5,_,X _ _ ho,.of_isNs (PySem.W.isNs_of_in X aW),PySem.W.nsMap_none_of_in X aW pO,PySem.W.tail_of_in X ht⟩
  ·cases q
 ·cases q
section
variable {X:Cx}{x:Str}{C:Addr}{dJ:List Value}{newId rL B:String}{e:Expr}{t:TA}{np bF pos:Pos}
def RI(E:XK)(cls:Value)(t:TA):TS:=λ_ O H=>t O H λvs H1=>vs.length<=sizeLine/\E cls none H1
theorem uf{E:XK}(hx:∀pins O H s h2 ex vs,Inv X pins O H s->Heap.MadeExcOf s.heap h2 ex (.ref C) vs->E (.ref C) none H->X.xe (.ref ex) {s with heap:=h2})(EC:Exc X.K X.mg x C dJ newId)(FB:ExcBaseFacts B newId rL dJ)(hh:X.A.handled=none)(hg:Gl X x)(ha:PA X [e] t) (he:autoParam (starEach [e] X.env=[(false,eval e X.env)]) r8_._auto_1)(hd:autoParam ((x==("__debug__":Str))=false) q8_._auto_1): PS X (.Raise (some (.Call (.Name x np) [e] [] bF)) none pos) (RI E (.ref C) t):=by intro pins s O H D I h;obtain⟨tl,Nn,nm,q,bs,hdct,sn,sub,ab,col,dd,k0,k1,k2,k3,k5,mN,hC,hN,pO,T⟩:=(EC.own I.ok.mod.kz).obj;refine wpAny_Raise_call_subT (C:=C) (nm:=nm) (q:=q) (N:=Nn) (bs:=bs) (bm:=tl) (hdct:=hdct) (sn:=sn) (sub:=sub) (ab:=ab) (col:=col) (dd:=dd) (k0:=k0) (k1:=k1) (k2:=k2) (k3:=k3) (k5:=k5) FB (mN:=mN) (T.hasType FB.hasBase) hh (by rw[he];rfl) pO (mz I hg EC.at' ⟨Z,?_⟩ hd);have hA:=ha bF pins s O H _ I h;rw[he]at hA⊢;refine GC (aV hA λus s2 ⟨vs,H1,I1,r1,z,w1⟩=>⟨Z,by rw[<-r1.length];exact z,I1.bk _ _ hC,hN.keeps I1.bk,T.keeps I1.bk,λh' ex hm=>hx pins O H1 s2 h' ex us I1 hm w1⟩)
end
section
variable {M:Model}{A:ai}{Ex:Value->ae->Prop}
theorem a45{h:Heap}{g:Array GenState}{d:Drawn}{tk:Nat}{os:OsState}{e:Addr}{oe:Obj}{Q:Bool->ae->Prop}{C D N N':Addr}{nm Lx q q':Str}{bs OI bm FE:List Value}{hdct MF:Bool}{sn Iv:List Str}{sub Hu:List Value}{ab P6:Bool}{col Oy:Option Bool}{dd Og:Option Addr}{k0 k1 k2 k3 k5 j0 j1 j2 j3 j5:Option Value}{newId XA:String} (hC:h.get? C=some (excClassObj nm q C N bs bm hdct sn sub ab col dd k0 k1 k2 k3 k5 newId))(hD:h.get? D=some (excClassObj Lx q' D N' OI FE MF Iv Hu P6 Oy Og j0 j1 j2 j3 j5 XA)) (he:h.get? e=some oe)(vg:oe.cls= .ref C)(hb:FE.contains (.type "BaseException")=true)(hs:(Value.ref C::bm).contains (.ref D)=true) (hq:Q true ⟨h,g,d,tk,os⟩):wpAny M A (excMatches (.ref e) (.ref D)) Q Ex ⟨h,g,d,tk,os⟩:=by
 have hcB:(Value.ref D::FE).contains (.type "BaseException")=true:=by rw[Qm,hb,Bool.or_true]
 have f:=tc_notTuple;unfold excMatches
 repeat (first|(with_reducible refine qy he ?_;rw[vg])|with_reducible refine qy hD ?_|(with_reducible refine G6 hD ?_;rw[hcB])|(with_reducible refine G6 hC ?_;rw[hs])|with_reducible refine qy hC ?_|wp_step)
 exact hq
end
section
variable {X:Cx}{k:Nat}{x:Str}{p pos:Pos}{e:Expr}{es:List Expr}{t:TA}{sp:Sp}
end
abbrev Cx.hand(X:Cx)(ex:Addr):Cx:={X with A:=X.A.mark (some (.ref ex)),calm:=false,xe:=λ_ _=>False}
section
variable {X:Cx}{pins:List (Addr×Obj)}{O:St}{H:Hp}{s:ae}
theorem Inv.hand(I:Inv X pins O H s)(ex:Addr):Inv (X.hand ex) pins O H s:=⟨⟨I.ok.mod,I.ok.kind,I.ok.glob,I.ok.blt,I.ok.above,I.ok.inj,I.ok.has,I.ok.og,λh=>(dc h).elim,I.ok.frames,I.ok.oP,I.ok.vt,I.ok.bs,I.ok.jx,I.ok.nK,I.ok.mM,I.ok.gW,I.ok.kJ⟩,I.os,I.bare,I.ao,I.loc,I.cell,I.free,I.iE,I.pin,I.aW,I.len⟩
theorem Inv.back{ex:Addr}(ok:X.Ok)(I:Inv (X.hand ex) pins O H s):Inv X pins O H s:=⟨ok,I.os,I.bare,I.ao,I.loc,I.cell,I.free,I.iE,I.pin,I.aW,I.len⟩
theorem QU{M:Model}{A:ai}{E:Value->ae->Prop}{i:Nat}{x:Str}{v:V}{pos:Pos}{Q:Unit->ae->Prop}(I:Inv X pins O H s)(hN:X.N.Nodup)(hi:X.N[i]? =some x)(hk:X.env.kindOf x=some .local)(hs:X.env.scope.names.lookup x=some .local) (hv:O[i]? =some (some v))(h:∀s',Inv X pins (O.set i none) H s'->Q () s'):wpAny M A (unbindBehindTheSuite X.env x pos) Q E s:=by
 obtain⟨m,hn,hl⟩:=id I.loc;have vg:(X.env.scope.kind== .class||(X.env.scope.kind== .module&&X.env.locals !=X.env.globals))=false:=by rw[I.ok.kind];rfl
 have yA:i<O.length:=by rw[I.len];exact(dN.mp hi).1
 have j8:=I.j8;obtain⟨u,r,look⟩:=hl i x v hi hv (.inl hs);have hm:m x=some u:=by
  rcases look with⟨_,e⟩|⟨k,_⟩
  ·exact e
  ·rcases k with k|k<;>(rw[hk]at k;cases k)
 unfold unbindBehindTheSuite;refine zM (wpAny_unbindName_local hk hn hm vg λh' u' uV jK=>?_);obtain⟨oL,_,_,Mw,_⟩:=id hn;have tr:da X.prog X.w H h':=λb ob e=>by
  refine(I.aW b ob e).jY (λc w' hc q=>(jK.2 c ?_).trans q) (λ_ q=>q) λ_ _ q=>q;rintro rfl;rcases hc with rfl|hc
  ·rw[I.free]at e;cases e
  ·rw[I.free]at hc;cases hc
 have lt:∀b o,X.s₀.heap.get? b=some o->b≠X.env.locals:=λb o e=>dA (fb (bN e) I.ok.above);refine h _ ⟨I.ok,I.os,I.bare,⟨λb o e n hb hx=>(jK.2 b (lt b o e)).trans (I.ao.keep b o e n hb hx),λb o e n hb hx=>?_,I.ao.free,λb o e hx=>?_,I.ao.hZ,I.ao.gX,I.ao.ib⟩,⟨_,uV,λj y v' e1 e2 e3=>?_⟩,λy c e=>?_,I.free,I.iE,λp hp=>?_,tr,by simpa using I.len⟩
 ·obtain⟨sl,e1⟩:=I.ao.slot b o e n hb hx
  exact⟨sl,(jK.2 b (lt b o e)).trans e1⟩
 ·obtain⟨o',e1⟩:=I.ao.there b o e hx
  exact⟨o',(jK.2 b (lt b o e)).trans e1⟩
 ·by_cases hj:j=i
  ·subst hj
   rw[Gu yA]at e2;cases e2
  ·rw[Qj (iL hj)]at e2
   obtain⟨u2,r2,q⟩:=hl j y v' e1 e2 e3;refine⟨u2,r2,?_⟩;rcases q with⟨k,e⟩|⟨k,c,e,z⟩
   ·have:y≠x:=λe=>hj (Di hN e1 (e▸hi))
    exact .inl ⟨k,by simp[this,e]⟩
   ·exact .inr ⟨k,c,e,z.sameBut jK (j8 y c e)⟩
 ·obtain⟨w',z⟩:=I.cell y c e
  exact⟨w',z.sameBut jK (j8 y c e)⟩
 ·obtain⟨e,n,ne,nf,d⟩:=I.pin p hp
  exact⟨(jK.2 p.1 ne).trans e,n,ne,nf,d⟩
end
def vK(X:Cx)(st:List Stmt)(t:TS):Prop:=∀(s:ae)(O:St)(H:Hp)(D:Ends),Inv X [] O H s->t D O H->wpAny (model X.prog X.w) X.A (execs st X.env) (SP X [] D) X.xe s
def Pf(X:Cx)(st:Stmt)(t:TS):Prop:=∀(s:ae)(O:St)(H:Hp)(D:Ends),Inv X [] O H s->t D O H->wpAny (model X.prog X.w) X.A (exec st X.env) (SP X [] D) X.xe s
theorem vK.one{X:Cx}{st:Stmt}{t:TS}(h:Pf X st t):vK X [st] t:=by intro s O H D I q;refine wpAny_execs_cons (aV (h s O H D I q) λf s1 q=>?_);cases f with |next=>exact vW q |ret v=>exact q |brk=>exact q |cont=>exact q
theorem Inv.a5k{X:Cx}{pins:List (Addr×Obj)}{O:St}{H:Hp}{s:ae}(I:Inv X pins O H s):Inv X [] O H s:=⟨I.ok,I.os,I.bare,I.ao,I.loc,I.cell,I.free,I.iE,λp hp=>I.pin p (Gq _ (by simpa using hp)),I.aW,I.len⟩
theorem a2M{CX:iJ}{P:af}{w:World}{K:aa}{mg:bf}{ao:Heap}{k:Nat}{f:Addr}{name qual:Str}{params:Arguments}{body:List Stmt}{scope:Scope}{dV kV doc pm aF ct oc:Value}{an od:Option Addr} {dX:Array (Option Value)}{N ps:List Str}{sp:Sp}(lk:K.lookup f=some ⟨oc,od,.func (PySem.W.fnOf name qual params body scope dV kV doc pm an aF ct),dX⟩)(e9:PySem.W.codeIn K aF qual=true)(S:bc N ps scope) (len:∀vs H Q E,sp vs H Q E->vs.length=ps.length) (fA:∀(A:ai)(outer:List Env)(s:ae)(H:Hp)(vs:List V)(Q:VK)(E:XK),cu k (A.deeper (envOfC qual scope s.heap.objs.size f aF))->sp vs H Q E->∃t,vK (fB CX P w K mg ao N qual scope f aF A outer s H E) body t/\t {nx:=λ_ H'=>Q .aY H',rt:=Q} (start N vs) H): f9 P w K mg ao CX (k+1) f (PySem.W.fnOf name qual params body scope dV kV doc pm an aF ct) ps sp:=by
 refine⟨len,λA outer s H args us vs Q E hr e0 hb r eP=>?_⟩;have hl:=len _ _ _ _ eP;have KX:K.In s.heap:=e0.mod.kz.keeps λb o e=>(e0.bs b o e).1;have lim:s.heap.NoLimit:=e0.mod.nolimit.keeps λb o e=>(e0.bs b o e).1;have kE:∀y∈ps.zip us,scope.names.lookup y.1=some .local\/(scope.names.lookup y.1=some .cell/\((cellsFrom (s.heap.objs.size+1) scope.names []).lookup y.1).isSome=true):=λ⟨n,v⟩ hy=>by
  rcases S.par n (qC hy).1 with q|q
  ·exact .inl q
  ·exact .inr ⟨q,Ge _ _ _ (.inl q)⟩
 refine PH hr.depth (KX _ _ lk) Z S.co S.gen Z (PX KX e9) (hb _ _ _ _ ?_);refine PB S.kind kE λenv he s1 x=>?_;subst he;refine⟨lim.keeps x.toInCall.keep,codeAny_func ?_⟩;obtain⟨t,ht,hq⟩:=fA A outer s H vs Q E (hr.deeper _) eP;have I:Inv (fB CX P w K mg ao N qual scope f aF A outer s H E) [] (start N vs) H s1:=DS S hr.hd e0 hl r x;refine fP (ht s1 (start N vs) H _ I hq) (λfl s' hs=>?_) λe s' hs=>hs;have fin:∀{σ':St}{H':Hp}{v:V}{u:Value},Inv (fB CX P w K mg ao N qual scope f aF A outer s H E) [] σ' H' s'->RelV v u->Q v H'->CE outer P w H s Q u s':=λ{σ' H' v u} J rv q=>⟨v,H',J.os,J.bare,J.ao,J.aW,rv,q⟩;cases fl with |ret u=>obtain⟨v,σ',H',J,rv,q⟩:=hs;exact fin J rv q |next=>obtain⟨σ',H',J,q⟩:=hs;exact fin (v:=V.aY) (u:=Value.none) J Z q |brk=>obtain⟨_,_,_,q⟩:=hs;exact False.elim q |cont=>obtain⟨_,_,_,q⟩:=hs;exact False.elim q
def ExcAt(ex:Addr)(cls:Value)(h:Heap):Prop:=∃o,h.get? ex=some o/\o.cls=cls
def takes(K:aa)(C D:Addr):Prop:=PySem.W.mroIn K C (.ref D)=some true
section
variable {X:Cx}{i:Nat}{n y:Str}{Dc:Addr}{FC:List Value}{newD:String}{body xg:List Stmt}{b0:Stmt}{np rP pos:Pos}{tb:XK->TS}{th:TS}{Cs:Addr->Prop}
end
end _L
namespace _L
open PySem PySem.Spec PyProof.Rows PySem.W Builtin.Getset_descriptor
section
variable {prog:af}{w:World}{A:ai}{E:Value->ae->Prop}{h:Heap}{g:Array GenState}{d:Drawn}{t:Nat}{os:OsState}{K:Frag}{x C:Addr}{o:Obj}
theorem Ny{M:Model}(h1:h.get? x=some o)(h2:o.cls= .ref C):Looks M h (typeOf (.ref x)) (.ref C):=h2▸(Looks.ld h1).andThen .now
structure jd(K:Frag)(C:Addr):Prop where
 ga:findIn K (.ref C) "__getattribute__"=some (some (.builtin "BaseException.__getattribute__"))
 gx:findIn K (.ref C) "__getattr__"=some none
 cl:findIn K (.ref C) "__class__"=some (some (.builtin "object.__class__"))
 gt:specialIn K (.builtin "object.__class__") "__get__"=some (some (.builtin "getset_descriptor.__get__"))
 tk:takesIn K (.builtin "object.__class__")=some true
 ob:mroIn K C (.type "object")=some true
 be:mroIn K C (.type "BaseException")=some true
 is:hasDictIn K C=true
theorem YE{M:Model}(X:K.In h)(k:jd K C):Looks M h (Builtin.ObjectAttr.find (.ref x) (.ref C) "__class__") (.bind (.builtin "getset_descriptor.__get__") (.builtin "object.__class__")):=by have L1:=zQ (M:=M) X k.cl;have _L:Looks M h (Builtin.ObjectAttr.getOf (some (.builtin "object.__class__"))) (some (.builtin "getset_descriptor.__get__")):=looks_specialIn X k.gt;have L3:=looks_takesIn (M:=M) X k.tk;unfold Builtin.ObjectAttr.find;refine L1.andThen (_L.andThen ?_);have L4:Looks M h (Builtin.ObjectAttr.dataDescriptor? (some (.builtin "object.__class__")) (some (.builtin "getset_descriptor.__get__"))) (some (.builtin "getset_descriptor.__get__",.builtin "object.__class__")):=L3.andThen .now;exact L4.andThen (Looks.tag .now)
theorem MY{M:Model}{LC:Value}{Q:Unit->ae->Prop}(X:K.In h)(k:jd K C)(L0:Looks M h (typeOf (.ref x)) (.ref C))(hq:Q () ⟨h,g,d,t,os⟩): wpAny M A (checkBuiltinCall "BaseException.__getattribute__" ⟨[.ref x,LC],[]⟩) Q E ⟨h,g,d,t,os⟩:=by
 have hk:builtinKind "BaseException.__getattribute__"=some .slot:=by decide+kernel
 have eP:splitId "BaseException.__getattribute__"=some ("BaseException","__getattribute__"):=by decide+kernel
 have ha:=PySem.F.args_bexc_ga (.ref x) LC;have L1:=looks_mroIn (M:=M) X k.be;simp only[checkBuiltinCall,hk,eP];refine aA ?_;unfold isInstance;refine aA (L0.at (L1.at ?_))
 repeat (first|assumption|wp_step)
theorem get_cls{R:Result->ae->Prop}{tp:Value}(X:K.In h)(k:jd K C)(L0:Looks (model prog w) h (typeOf (.ref x)) (.ref C))(hq:R (.ok (.ret (.ref C))) ⟨h,g,d,t,os⟩): codeAny (model prog w) A (.call (.builtin "getset_descriptor.__get__") ⟨[.builtin "object.__class__",.ref x,tp],[]⟩) R ⟨h,g,d,t,os⟩:=by
 have L1:=looks_mroIn (M:=model prog w) X k.ob;refine zR KF.slot_gs.plain KF.entry_gs (KF.slot_gs.check _ _ _ _ _ _ _ _ KF.type_class (KF.args_gs _ _ _) ?_);unfold Builtin.«getset_descriptor.__get__»descrGet;rw[dga_obj];refine aA (bw ?_);unfold descrGetter descrCheckInstance descrNameAndClass isInstance;simp only[KF.owner_class];repeat lk
 refine⟨Code.quiet_builtin _ aI,G8 KF.entry_class ?_⟩;unfold Builtin.«object.__class__»shownTypeOf;repeat lk
 exact hq
theorem a2j{tk:Tok}{Q:Fin->ae->Prop}(X:K.In h)(k:jd K C)(L0:Looks (model prog w) h (typeOf (.ref x)) (.ref C)) (hq:Q (.done (.ret (.ref C))) ⟨h,g,d,t,os⟩):wpAny (model prog w) A (Builtin.«object.__getattribute__» ⟨[.ref x,.str "__class__" tk],[]⟩) Q E ⟨h,g,d,t,os⟩:=by have L1:=YE (M:=model prog w) (x:=x) X k;refine aA (bw (aA (bw (aA (L0.at (aA (L1.at ?_)))))));show wpAny _ _ (Builtin.ObjectAttr.bindTo _ _ (.ref x) (.ref C)) _ _ _;unfold Builtin.ObjectAttr.bindTo;show wpAny _ _ (holding [_] (call (.builtin "getset_descriptor.__get__") [.builtin "object.__class__",.ref x,.ref C])>>=_) _ _ _;exact aA (gH (ow (get_cls X k L0 (bw hq))))
theorem a4M{Q:Option Value->ae->Prop}(X:K.In h)(k:jd K C)(L0:Looks (model prog w) h (typeOf (.ref x)) (.ref C)) (hq:Q (some (.ref C)) ⟨h,g,d,t+1,os⟩):wpAny (model prog w) A (getAttr? (.ref x) "__class__") Q E ⟨h,g,d,t,os⟩:=by
 have L1:=zQ (M:=model prog w) X k.ga;have _L:=zQ (M:=model prog w) X k.gx;have f3:=Gi.ga.bind (.ref x);have DU:(Value.builtin "BaseException.__getattribute__"==Value.builtin "object.__getattribute__")=false:=by decide+kernel
 unfold getAttr? getAttrBy? getAttrBy;refine aA (wpAny_mkText (aA (zP (gH (aA (L0.at (aA (L1.at ?_))))))));show wpAny _ _ (if(onTheHeap (Value.ref C)&&Value.builtin "BaseException.__getattribute__"==Value.builtin "object.__getattribute__")=true then _ else _) _ _ _;rw[DU,wI,aU ay];unfold getAttrByItsOwn hookBefore;refine aA ?_;show wpAny _ _ (typeLookup (.ref C) "__getattr__") _ _ _;refine _L.at (aA (zP (gH ?_)));unfold callGetattribute;show wpAny _ _ (boundAndCalled _ _ _) _ _ _;unfold boundAndCalled;rw[f3];refine aA (bw (ow ?_));refine zR Gi.ga.plain PySem.F.entry_bexc_ga (MY X k L0 (a2j X k L0 ?_));exact handed_on Z (bw hq)
theorem M6(k:jd K C):KitX K (.ref x) (.ref C) (ExcAt x (.ref C)) where
 ty:=λM h _ p=>by obtain⟨o,h1,h2⟩:=p;exact Ny h1 h2
 it:=λ_ _ X _=>by
  obtain⟨cd,hc,_⟩:=any_some k.is;unfold clsIn at hc;split at hc
  ·rename_i c1 d1 cd1 sl1 ho
   intro A' Q' E' s' kk q;unfold isType loadHead;exact aA (wpAny_loadPart (kk _ _ (X _ _ ho)) (bw q))
  ·cases hc
 ne:=λh tp dd its n sl X ZC=>by
  obtain⟨cd,hc,_⟩:=any_some k.is;refine wH.mpr λq=>?_;have e:C=tp:=Value.ref.inj (dr.mp q);subst e;unfold clsIn at hc;split at hc
  ·rename_i c1 d1 cd1 sl1 ho
   cases(X _ _ ho).symm.trans ZC
  ·cases hc
 ca:=λ{prog w A E Q s} X p q=>by obtain⟨o,h1,h2⟩:=p;obtain⟨h0,g0,d0,t0,os0⟩:=s;exact a4M X k (Ny h1 h2) q
end
end _L
namespace _L
open PySem PySem.Spec PyProof.Rows
def a4N:V->Option Value | .ref D=>some (.ref D) | .ty n=>some (.type n) |_=>none
theorem GS:∀{Ds:List Addr}{us:List Value},Vals (Ds.map V.ref) us->us=Ds.map Value.ref |[],_,.nil=>rfl |n::r,_,.cons q t=>by cases(show _=Value.ref n from q);rw[GS t];rfl
section
variable {X:Cx}
end
theorem a5c:bootBuiltins "ValueError"=some (.type "ValueError"):=by kernel_rfl
@[reducible]def gF:List Value:=[.type "ValueError",.type "Exception",.type "BaseException",.type "object"]
@[reducible]def gO:String:="ValueError.__new__"
theorem FA.a0S{P:af}{w:World}{K:aa}{mg:bf}{ao:Heap}{x:Str}{st:Stmt}{N ps:List Str}{k:Nat}{sp:Sp}(F:FA K mg x st)(S:bc N ps (aM st))(len:∀vs H Q E,sp vs H Q E->vs.length=ps.length) (hb:∀(kV doc pm:Value)(an:Option Addr)(aF ct:Value)(us:List Value),us.length=ps.length->bindArgs (PySem.W.fnOf x x (j6 st) (eQ st) (aM st) .none kV doc pm an aF ct) ⟨us,[]⟩=pure (ps.zip us)) (fA:∀(f:Addr)(aF:Value)(A:ai)(outer:List Env)(s:ae)(H:Hp)(vs:List V)(Q:VK)(E:XK),cu k (A.deeper (envOfC x (aM st) s.heap.objs.size f aF))->sp vs H Q E->∃t,vK (fB g9 P w K mg ao N x (aM st) f aF A outer s H E) (eQ st) t/\t {nx:=λ_ H'=>Q .aY H',rt:=Q} (start N vs) H):aD P w K mg ao x (k+1) sp:=by obtain⟨f,fd,hm,F⟩:=F.ex;have pT:=F.binds hb;have kp:=F.kp;obtain⟨oc,od,kV,doc,pm,an,aF,ct,dX,rfl,lk,e9⟩:=F.ex;exact⟨f,_,ps,a2M lk e9 S len λA outer s H vs Q E hr eP=>fA f aF A outer s H vs Q E hr eP,hm,kp,pT⟩
end _L
namespace _A
theorem a2i(a b:Int):Int.gcd b (a.fmod b)=Int.gcd a b:=by rw[Int.fmod_def,Int.gcd_sub_mul_left_right,Int.gcd_comm]
theorem MX{a b:Int}(h:0<b):Int.gcd b (a%b)=Int.gcd a b:=by rw[<-Qs a (Int.le_of_lt h)];exact a2i a b
def sg(p q:Int):Int:=if q<0 then-(Int.gcd p q:Int)else(Int.gcd p q:Int)
def lowP (p q:Int):Int:=p.fdiv (sg p q)
def fj (p q:Int):Int:=q.fdiv (sg p q)
theorem yL{p q:Int}(h:q≠0):0<(Int.gcd p q:Int):=by
 have:Int.gcd p q≠0:=λz=>h (Int.gcd_eq_zero_iff.mp z).2
 lia
theorem tX{p q:Int}(h:q≠0):sg p q≠0:=by have:=yL (p:=p) h;unfold sg;split<;>omega
theorem IB(p q:Int):sg p q∣p:=by
 unfold sg;split
 ·exact Int.neg_dvd.mpr (Int.gcd_dvd_left p q)
 ·exact Int.gcd_dvd_left p q
theorem IA(p q:Int):sg p q∣q:=by
 unfold sg;split
 ·exact Int.neg_dvd.mpr (Int.gcd_dvd_right p q)
 ·exact Int.gcd_dvd_right p q
theorem DB(p q:Int):sg p q*lowP p q=p:=by unfold lowP;rw[Int.fdiv_eq_ediv_of_dvd (IB p q)];exact Int.mul_ediv_cancel' (IB p q)
theorem ya(p q:Int):sg p q*fj p q=q:=by unfold fj;rw[Int.fdiv_eq_ediv_of_dvd (IA p q)];exact Int.mul_ediv_cancel' (IA p q)
theorem IC(p q:Int):(sg p q).natAbs=Int.gcd p q:=by unfold sg;split<;>lia
theorem YA{p q:Int}(h:q≠0):Int.gcd (lowP p q) (fj p q)=1:=by
 have e:Int.gcd (sg p q*lowP p q) (sg p q*fj p q)=(sg p q).natAbs*Int.gcd (lowP p q) (fj p q):=Int.gcd_mul_left _ _ _;rw[DB,ya,IC]at e;have g:=yL (p:=p) h;have g':0<Int.gcd p q:=by lia
 have e':Int.gcd p q*1=Int.gcd p q*Int.gcd (lowP p q) (fj p q):=by lia
 exact(Nat.eq_of_mul_eq_mul_left g' e').symm
theorem YB{p q:Int}(h:q≠0):0<fj p q:=by
 have e:=ya p q;have g:=yL (p:=p) h;by_cases hq:q<0
 ·have es:sg p q=-(Int.gcd p q:Int):=by unfold sg;rw[aR hq]
  rw[es]at e;refine Int.not_le.mp λhl=>?_;have:0<=-(Int.gcd p q:Int)*fj p q:=Qr au hl
  lia
 ·have es:sg p q=(Int.gcd p q:Int):=by unfold sg;rw[aU hq]
  rw[es]at e;refine Int.not_le.mp λhl=>?_;have:(Int.gcd p q:Int)*fj p q<=0:=Int.mul_nonpos_of_nonneg_of_nonpos au hl
  lia
theorem P5{s x y:Int}(hs:s≠0)(e:s*x=y):x.natAbs<=y.natAbs:=by rw[<-e,oJ];exact Nat.le_mul_of_pos_left _ au
theorem YD{p q:Int}(h:q≠0):(lowP p q).natAbs<=p.natAbs:=P5 (tX h) (DB p q)
theorem YC{p q:Int}(h:q≠0):(fj p q).natAbs<=q.natAbs:=P5 (tX h) (ya p q)
theorem Iz{p q:Int}(h:q≠0):(sg p q).natAbs<=q.natAbs:=by rw[IC];exact Nat.le_of_dvd au (Int.gcd_dvd_natAbs_right p q)
end _A
namespace _d
open Rat
theorem DA{a b:Int}(hb:b≠0):_A.lowP a b=(Rat.divInt a b).num/\_A.fj a b=((Rat.divInt a b).den:Int):=by
 have hp:=_A.YB (p:=a) hb;have hc:=_A.YA (p:=a) hb;have a0D:(_A.fj a b).natAbs≠0:=by lia
 have a0I:(_A.lowP a b).natAbs.Coprime (_A.fj a b).natAbs:=hc;have e1:Rat.divInt a b=Rat.divInt (_A.lowP a b) (_A.fj a b):=by have h:=Rat.divInt_mul_left (a:=_A.sg a b) (n:=_A.lowP a b) (d:=_A.fj a b) (_A.tX hb);rw[_A.DB,_A.ya]at h;exact h
 have e2:(⟨_A.lowP a b,(_A.fj a b).natAbs,a0D,a0I⟩:Rat)=Rat.divInt (_A.lowP a b) (((_A.fj a b).natAbs:Nat):Int):=PK;have e3:(((_A.fj a b).natAbs:Nat):Int)=_A.fj a b:=by lia
 rw[e3]at e2;rw[e1,<-e2];exact⟨Z,e3.symm⟩
theorem den_pos(r:Rat):(0:Int)<(r.den:Int):=by have:=r.den_pos;omega
structure Bd(n:Nat)(r:Rat):Prop where
 num:r.num.natAbs<2^n
 den:r.den<2^n
theorem Bd.mono{n m:Nat}{r:Rat}(h:Bd n r)(l:n<=m):Bd m r:=⟨fb h.num (t7 ay l),fb h.den (t7 ay l)⟩
theorem uH{a b n m:Nat}(h:a<2^n)(g:b<2^m):a*b<2^(n+m):=by rw[Nat.pow_add];exact Nat.mul_lt_mul'' h g
theorem pF{n:Nat}{a b:Int}(hb:b≠0)(h1:a.natAbs<2^n)(h2:b.natAbs<2^n):Bd n (Rat.divInt a b):=by
 obtain⟨e1,e2⟩:=DA (a:=a) hb;have l1:=_A.YD (p:=a) hb;have l2:=_A.YC (p:=a) hb;refine⟨?_,?_⟩
 ·rw[<-e1];lia
 ·lia
theorem Fs(r s:Rat):(r.den:Int)*(s.den:Int)≠0:=Int.ne_of_gt (qE (den_pos r) (den_pos s))
theorem add_div(r s:Rat):r+s=Rat.divInt (r.num*s.den+s.num*r.den) (r.den*s.den):=by have h:=Rat.divInt_add_divInt r.num s.num (d₁:=r.den) (d₂:=s.den) (by have:=den_pos r;lia) (by have:=den_pos s;lia);rw[wj,wj]at h;exact h
theorem Sf(r s:Rat):r-s=Rat.divInt (r.num*s.den-s.num*r.den) (r.den*s.den):=by have h:=PL r.num s.num (d₁:=r.den) (d₂:=s.den) (by have:=den_pos r;lia) (by have:=den_pos s;lia);rw[wj,wj]at h;exact h
section
variable {n m:Nat} {r s:Rat}
theorem a4D(h:Bd n r)(g:Bd m s):(r.num*s.den).natAbs<2^(n+m):=by rw[oJ];exact uH h.num (by have:=g.den;omega)
theorem a4C(h:Bd n r)(g:Bd m s):(s.num*r.den).natAbs<2^(n+m):=by rw[oJ,Nat.mul_comm];exact uH (by have:=h.den;lia) g.num
theorem Oa(h:Bd n r)(g:Bd m s):((r.den:Int)*(s.den:Int)).natAbs<2^(n+m):=by rw[oJ];exact uH (by have:=h.den;lia) (by have:=g.den;lia)
theorem Bd.add(h:Bd n r)(g:Bd m s):Bd (n+m+1) (r+s):=by
 rw[add_div];have h1:=a4D h g;have h2:=a4C h g;have h3:=Oa h g;have e:2^(n+m+1)=2^(n+m)+2^(n+m):=by rw[t6];omega
 exact pF (Fs r s) bo bo
end
end _d
namespace _L
open PySem PySem.Spec PyProof.Rows
def gG(H H':Hp):Prop:=∀b o,(∀xs,o≠ .lst xs)->H b=some o->H' b=some o
section
variable {K:aa} {H H' H2:Hp}
theorem gG.trans(a:gG H H')(b:gG H' H2):gG H H2:=λc o n e=>b c o n (a c o n e)
theorem gG.tG{D:Addr}{xs ys:List V}(h:H D=some (.lst xs)):gG H (upd H D (.lst ys)):=λb o n e=>by rw[bh (nM e h (n xs))];exact e
theorem aP.t{a:Addr}{xs:List V}(s:gG H H')(h:aP K H a xs):aP K H' a xs:=h.imp (λr=>r.imp (s _ _ λ_ z=>nomatch z) λ⟨o,e⟩=>⟨o,s _ _ (λ_ z=>nomatch z) e⟩) id
mutual
def eX:ah->Bool | .list _=>false | .dict _=>false | .tuple ds=>cy ds | .none=>true | .bool _=>true | .int _=>true | .str _=>true
def cy:List ah->Bool |[]=>true |d::ds=>eX d&&cy ds
end
theorem gP:∀{ds:List ah},cy ds=true↔∀d∈ds,eX d=true
 |[]=>⟨λ_ _ h=>(nomatch h),λ_=>by simp[cy]⟩ |d::ds=>by
  rw[cy,du,gP (ds:=ds)];constructor
  ·rintro⟨a,b⟩ x hx
   rcases bS.mp hx with rfl|hx
   ·exact a
   ·exact b x hx
  ·intro h
   exact⟨h d (.head _),λx hx=>h x (.tail _ hx)⟩
theorem kr(ns:List Int):cy (ns.map PyData.int)=true:=gP.mpr λd hd=>by obtain⟨i,_,rfl⟩:=cH.mp hd;simp[eX]
mutual
theorem RD.t(s:gG H H'):∀{x:V}(d:ah),eX d=true->RD K H x d->RD K H' x d |x,.none,_,h=>by simpa[RD]using h |x,.bool b,_,h=>by simpa[RD]using h |x,.int i,_,h=>by simpa[RD]using h |x,.str y,_,h=>by simpa[RD]using h |x,.list ds,n,h=>by simp[eX]at n |x,.tuple ds,n,h=>by rw[RD]at h⊢;obtain⟨a,xs,e,h1,h2⟩:=h;exact⟨a,xs,e,h1.t s,aJ.t s ds (by simpa[eX]using n) h2⟩ |x,.dict _,_,h=>by simp[RD]at h
theorem aJ.t (s:gG H H'):∀{xs:List V}(ds:List ah),cy ds=true->aJ K H xs ds->aJ K H' xs ds |xs,[],_,h=>by simpa[aJ]using h |xs,d::ds,n,h=>by rw[aJ]at h⊢;rw[cy,du]at n;obtain⟨y,ys,e,h1,h2⟩:=h;exact⟨y,ys,e,RD.t s d n.1 h1,aJ.t s ds n.2 h2⟩
end
theorem aJ.eO:∀{xs:List V}{ns:List Int},aJ K H xs (ns.map PyData.int)->xs=ns.map V.int |xs,[],h=>h.nil_inv |xs,n::ns,h=>by obtain⟨y,ys,rfl,h1,h2⟩:=h.cons_inv;rw[h1.int_inv,aJ.eO h2];rfl
theorem nC:∀(ns:List Int),aJ K H (ns.map V.int) (ns.map PyData.int) |[]=>de |n::ns=>cj (eu n) (nC ns)
theorem Oq{J:It}{xs:List V}{ds:List ah}{te:TE}{Q:VK}{D:Addr}{H0:Hp}(rest:St)(nw:Nw H H0 D (.lst []))(hl:xs.length=ds.length)(hz:xs.length<=1000)(hn:cy ds=true) (go:∀i x H2,xs[i]? =some x->az H H2->J.go i H2/\∀y H3,J.hV i H2 y H3->H3=H2/\y=x)(stop:∀H2,az H H2->J.stop xs.length H2) (hs:∀(i:Nat)(x:V)(d:ah)(H2:Hp)(Q':VK),xs[i]? =some x->ds[i]? =some d->az H H2->(∀y H3,az H2 H3->RD K H3 y d->Q' y H3)->te (some x::rest) H2 Q') (hq:∀H' ys,az H H'->H' D=some (.lst ys)->aJ K H' ys ds->Q (.ref D) H'):jQ J (fY 0) jj te Q D (none::rest) H0:=by
 have hD:=nw.no;refine sE xs.length (λi O H2=>az H H2/\(∃ys,H2 D=some (.lst ys)/\aJ K H2 ys (ds.take i))/\∃v,O=v::rest) ?_ ?_ ?_
 ·exact⟨nw.same,⟨[],nw.at',de⟩,none,Z⟩
 ·rintro i O H2 hi ⟨s2,⟨ys,d2,r2⟩,v,rfl⟩
  have yC:i<ds.length:=by rw[<-hl];exact hi
  have ex:=cI hi;have eb:=cI yC;obtain⟨g1,g2⟩:=go i _ H2 ex s2;refine⟨g1,λy H3 hy=>?_⟩;obtain⟨rfl,rfl⟩:=g2 y H3 hy;refine wO ?_;refine hs i _ _ _ _ ex eb s2 λz H4 s4 r4=>?_;have d4:=s4 _ _ d2;have len:=r2.length;rw[tf]at len;refine⟨ys,d4,?_,xs.length-(i+1),au,Z,au,λb o e=>?_,⟨ys++[z],bU,?_⟩,_,Z⟩
  ·have:(1000:Nat)<sizeLine:=by decide
   lia
  ·rw[bh (fv e hD)];exact s4 b o (s2 b o e)
  ·have t:gG H4 (upd H4 D (.lst (ys++[z]))):=.tG d4
   rw[wx,eb];have n1:cy (ds.take i)=true:=gP.mpr λd hd=>gP.mp hn d (A2 hd);exact(aJ.t t _ n1 (aJ.mono s4 _ r2)).append (cj (RD.t t _ (gP.mp hn _ (wB yC)) r4) de)
 ·rintro O H2 ⟨s2,⟨ys,d2,r2⟩,v,rfl⟩
  refine⟨stop H2 s2,hq H2 ys s2 d2 ?_⟩;rw[hl,wy]at r2;exact r2
theorem o9{a:Addr}{xs:List V}{ds:List ah}{te:TE}{Q:VK}{D:Addr}{H0:Hp}(rest:St)(hx:aP K H a xs)(nw:Nw H H0 D (.lst []))(hl:xs.length=ds.length)(hz:xs.length<=1000)(hn:cy ds=true) (hs:∀(i:Nat)(x:V)(d:ah)(H2:Hp)(Q':VK),xs[i]? =some x->ds[i]? =some d->az H H2->(∀y H3,az H2 H3->RD K H3 y d->Q' y H3)->te (some x::rest) H2 Q') (hq:∀H' ys,az H H'->H' D=some (.lst ys)->aJ K H' ys ds->Q (.ref D) H'):jQ (vO K a) (fY 0) jj te Q D (none::rest) H0:=Oq rest nw hl hz hn (λi x H2 e s=>⟨⟨xs,x,hx.go s,e⟩,λy H3 ⟨e3,y3⟩=>⟨e3,by have:=y3 _ (hx.go s);rw[e]at this;exact(cW this).symm⟩⟩) (λH2 s=>⟨xs,hx.go s,bj _⟩) hs hq
theorem vD{a:Addr}{xs:List V}{ds:List ah}{te:TE}{Q:VK}{D:Addr}{H0:Hp}(rest:St)(hx:aG K H a xs)(nw:Nw H H0 D (.lst []))(hl:xs.length=ds.length)(hz:xs.length<=1000)(hn:cy ds=true) (hs:∀(i:Nat)(x:V)(d:ah)(H2:Hp)(Q':VK),xs[i]? =some x->ds[i]? =some d->az H H2->(∀y H3,az H2 H3->RD K H3 y d->Q' y H3)->te (some x::rest) H2 Q') (hq:∀H' ys,az H H'->H' D=some (.lst ys)->aJ K H' ys ds->Q (.ref D) H'):jQ (sN K a) (fY 0) jj te Q D (none::rest) H0:=Oq rest nw hl hz hn (λi x H2 e s=>⟨⟨xs,x,hx.go s,e⟩,λy H3 ⟨e3,y3⟩=>⟨e3,by have:=y3 _ (hx.go s);rw[e]at this;exact(cW this).symm⟩⟩) (λH2 s=>⟨xs,hx.go s,bj _⟩) hs hq
theorem qe{b1 b2:Bool}{l1 l2:Addr}{xs ys:List V}{ds:List ah}{te:TE}{Q:VK}{D:Addr}{H0:Hp}{n:Nat}(rest:St)(rR:n=2)(h1:dG b1 K H l1 xs)(h2:dG b2 K H l2 ys)(nw:Nw H H0 D (.lst [])) (hl:min xs.length ys.length=ds.length)(hz:ds.length<=1000)(hn:cy ds=true) (hs:∀(i:Nat)(x y:V)(d:ah)(H2:Hp)(Q':VK),xs[i]? =some x->ys[i]? =some y->ds[i]? =some d->az H H2->(∀z H3,az H2 H3->RD K H3 z d->Q' z H3)->te (some x::some y::rest) H2 Q') (hq:∀H' zs,az H H'->H' D=some (.lst zs)->aJ K H' zs ds->Q (.ref D) H'):jQ (qr K b1 b2 l1 l2) (yN K n (vn (fY 0) (vn (fY 1) EU))) jj te Q D (none::none::rest) H0:=by
 subst rR;have hD:=nw.no;refine sE ds.length (λi O H2=>az H H2/\(∃zs,H2 D=some (.lst zs)/\aJ K H2 zs (ds.take i))/\∃v v',O=v::v'::rest) ?_ ?_ ?_
 ·exact⟨nw.same,⟨[],nw.at',de⟩,none,none,Z⟩
 ·rintro i O H2 hi ⟨s2,⟨zs,d2,r2⟩,v,v',rfl⟩
  have hx:i<xs.length:=by lia
  have hy:i<ys.length:=by lia
  have ex:=cI hx;have ey:=cI hy;have eb:=cI hi;refine⟨⟨xs,ys,_,_,h1.go s2,h2.go s2,ex,ey⟩,λy' H3 kA=>?_⟩;obtain⟨T,x0,y0,rfl,k1,k2,n3⟩:=kA;have e1:=k1 _ (h1.go s2);have e2:=k2 _ (h2.go s2);rw[ex]at e1;rw[ey]at e2;cases e1;cases e2;refine⟨T,_,Z,aP.of n3.at',Z,_,_,Z,_,_,Z,Z,?_⟩;refine yes (bE ?_);refine hs i _ _ _ _ _ ex ey eb (s2.trans n3.same) λz H4 s4 r4=>?_;have C9:=n3.same.trans s4;have d4:=C9 _ _ d2;have len:=r2.length;rw[tf]at len;refine⟨zs,d4,?_,ds.length-(i+1),au,Z,au,λb o e=>?_,⟨zs++[z],bU,?_⟩,_,_,Z⟩
  ·have:(1000:Nat)<sizeLine:=by decide
   lia
  ·rw[bh (fv e hD)];exact C9 b o (s2 b o e)
  ·have t:gG H4 (upd H4 D (.lst (zs++[z]))):=.tG d4
   rw[wx,eb];have n1:cy (ds.take i)=true:=gP.mpr λd hd=>gP.mp hn d (A2 hd);exact(aJ.t t _ n1 (aJ.mono C9 _ r2)).append (cj (RD.t t _ (gP.mp hn _ (wB hi)) r4) de)
 ·rintro O H2 ⟨s2,⟨zs,d2,r2⟩,v,v',rfl⟩
  refine⟨⟨xs,ys,h1.go s2,h2.go s2,au⟩,hq H2 zs s2 d2 ?_⟩;rw[wy]at r2;exact r2
end
theorem Mg:∀{ns:List Int}{us:List Value},Vals (ns.map V.int) us->(∀v∈us,∃a t,v=Value.int a t)/\numsOf us=ns
 |[],_,.nil=>⟨λ_ h=>(nomatch h),rfl⟩ |n::ns,_,.cons q r=>by
  obtain⟨t,rfl⟩:=(show∃t,_=Value.int n t from q);obtain⟨h1,h2⟩:=Mg r;refine⟨λv hv=>?_,?_⟩
  ·rcases bS.mp hv with rfl|hv
   ·exact⟨n,t,Z⟩
   ·exact h1 v hv
  ·show n::numsOf _=_
   rw[h2]
section
variable {X:Cx}
theorem Dy(K:aa)(hK:X.K=K)(hc:X.calm=true):dI X (.builtin "max") (λxs H Q=>∃(l:Addr)(ns:List Int),xs=[.ref l]/\aG K H l (ns.map V.int)/\ns≠[]/\∀M,M∈ns->(∀a∈ns,a<=M)->Q (.int M) H):=by
 subst hK;intro pins s O H xs us Q I r h;obtain⟨l,ns,rfl,hl,cm,q⟩:=h;obtain⟨u,rfl,ru⟩:=vals1 r;cases(show u=Value.ref l from ru);obtain⟨its,rv,pl,hz⟩:=I.list hl;obtain⟨a1,a2⟩:=Mg rv;have all:AllInts its.toArray:=λv hv=>a1 v (by simpa using hv);obtain⟨ps,Mt⟩:=all.items;have e0:numsOf (intItems ps).toList=ns:=by rw[<-Mt];exact a2
 rw[nums_intItems]at e0;have hlen:ps.size=ns.length:=by rw[<-e0,bA,jU]
 have rP:0<ps.size:=by rw[hlen];exact wA.mpr cm
 refine max_intList (I.ok.hd hc) (by rw[<-Mt];exact pl.isList) rP λv h' tk hv hk=>?_;obtain⟨t,rfl⟩:=intItems_at hv;obtain⟨h1,h2⟩:=argBest_gt (numAt ps) (ps.size-1);refine⟨.int _,H,I.kept hk,⟨_,Z⟩,q _ ?_ λa ha=>?_⟩
 ·rw[numAt_eq,e0];exact getD_mem bo
 ·obtain⟨j,hj,rfl⟩:=mem_getD ha
  rw[<-e0,<-numAt_eq];exact h2 j bo
theorem Mi{ns:List Int}{us:List Value}(r:Vals (ns.map V.int) us){i:Nat}{v:Value}(h:us[i]? =some v):∃n t,ns[i]? =some n/\v=Value.int n t:=by
 have hl:=r.length;rw[bA]at hl;have hi:i<ns.length:=by rw[hl];exact(dN.mp h).1
 obtain⟨u,e,ru⟩:=r.get (i:=i) (x:=.int ns[i]) (by rw[bK,cI hi];rfl);rw[h]at e;cases e;obtain⟨t,rfl⟩:=(show∃t,v=Value.int ns[i] t from ru);exact⟨_,t,cI hi,Z⟩
theorem Ug(ns:List Int):((List.range ns.length).any λi=>((ns.map (· !=0))[i]?).getD false)=ns.any (· !=0):=by have:=LSm.range_any (ns.map (· !=0));rw[bA]at this;rw[this,List.any_map];rfl
theorem P1(K:aa)(hK:X.K=K)(hc:X.calm=true):dI X (.builtin "any") (λxs H Q=>∃(l:Addr)(ns:List Int),xs=[.ref l]/\(aG K H l (ns.map V.int)\/aP K H l (ns.map V.int))/\Q (.bl (ns.any (· !=0))) H):=by
 subst hK;intro pins s O H xs us Q I r h;obtain⟨l,ns,rfl,hl,q⟩:=h;obtain⟨u,rfl,ru⟩:=vals1 r;cases(show u=Value.ref l from ru);have hh:=I.ok.hd hc;have fin:∀(its:List Value),Vals (ns.map V.int) its->((List.range its.toArray.size).any λi=>((ns.map (· !=0))[i]?).getD false)=ns.any (· !=0):=λits rv=>by rw[dB,<-rv.length,bA];exact Ug ns
 rcases hl with hl|hl
 ·obtain⟨its,rv,pl,hz⟩:=I.list hl
  have iD:=pl.isList;have bT:l<s.heap.objs.size:=by obtain⟨_,e,_⟩:=iD;exact bN e
  refine call_any_walk (vU iD ?_);refine⟨s.heap.objs.size,[s.heap.objs.size,l],[s.heap.objs.size],its.toArray.size,_,_,λi=>((ns.map (· !=0))[i]?).getD false,Z,Walks.list (A:=X.A.in1) hh _ l (dA bT) its.toArray,⟨⟨_,cK _ Z,Z,Z⟩,iD.push _⟩,λi v s' Q' E' hP hQ=>?_,λh' tk hk=>?_⟩
  ·obtain⟨n,t,e,rfl⟩:=Mi rv (i:=i) (v:=v) (by simpa using hP)
   simp only[bK,e]at hQ;exact truthy_int hQ
  ·rw[fin its rv]
   exact⟨.bl _,H,I.kept (LSm.kept_iter hk),Z,q⟩
 ·obtain⟨its,rv,pl,hz⟩:=I.tuple hl
  have iD:s.heap.IsTuple l its.toArray:=by obtain⟨⟨cls,dd,data,sl⟩,ho,gE,n,hd⟩:=pl;exact⟨_,ho,gE,by simpa using⟨n,hd⟩⟩
  have bT:l<s.heap.objs.size:=by obtain⟨_,e,_⟩:=iD;exact bN e
  refine call_any_walk (wpAny_pyIter_tuple iD ?_);refine⟨s.heap.objs.size,[s.heap.objs.size,l],[s.heap.objs.size],its.toArray.size,_,_,λi=>((ns.map (· !=0))[i]?).getD false,Z,Walks.tuple (A:=X.A.in1) hh _ l (dA bT) its.toArray,⟨⟨_,cK _ Z,Z,Z⟩,iD.push _⟩,λi v s' Q' E' hP hQ=>?_,λh' tk hk=>?_⟩
  ·obtain⟨n,t,e,rfl⟩:=Mi rv (i:=i) (v:=v) (by simpa using hP)
   simp only[bK,e]at hQ;exact truthy_int hQ
  ·rw[fin its rv]
   exact⟨.bl _,H,I.kept (LSm.kept_iter hk),Z,q⟩
end
end _L
set_option maxHeartbeats 1000000
namespace _c
open PySem PySem.Spec PyProof.Rows _L
def Ph(c m:Int):Prop:=0<=c/\0<=m/\m<2147483648
def fO(H:Hp)(p:Addr):Prop:=∃c m,H p=some (.lst [.int c,.int m])/\Ph c m
structure bG(p:Addr)(H H':Hp):Prop where
 bJ:fO H' p
 same:∀b o,b≠p->H b=some o->H' b=some o
theorem bG.refl{p:Addr}{H:Hp}(h:fO H p):bG p H H:=⟨h,λ_ _ _ e=>e⟩
theorem bG.trans{p:Addr}{H H1 H2:Hp}(a:bG p H H1)(b:bG p H1 H2):bG p H H2:=⟨b.bJ,λc o n e=>b.same c o n (a.same c o n e)⟩
theorem bG.upd{p:Addr}{H:Hp}{c m:Int}(h:Ph c m):bG p H (_L.upd H p (.lst [.int c,.int m])):=⟨⟨c,m,bU,h⟩,λb o n e=>by rw[bh n];exact e⟩
theorem bG.eV{p:Addr}{H H':Hp}(h:fO H p)(s:az H H'):bG p H H':=by obtain⟨c,m,e,ok⟩:=h;exact⟨⟨c,m,s _ _ e,ok⟩,λb o _ e=>s b o e⟩
theorem GP{j:Int}(h0:0<=j)(h:j<=10^40):Wd j:=by
 have:j.natAbs<=10^40:=by lia
 exact zZ this aI
theorem fO.ne{H:Hp}{p:Addr}(h:fO H p):H p≠none:=by obtain⟨c,m,e,_⟩:=h;rw[e];exact λz=>nomatch z
theorem fO.XC{H:Hp}{p:Addr}{q:Addr}{o:HO}(h:fO H p)(e:H q=some o)(n:∀xs,o≠ .lst xs):q≠p:=by obtain⟨c,m,e',_⟩:=h;exact nM e e' (n _)
theorem bG.t{p:Addr}{H H':Hp}(bg:fO H p)(b:bG p H H'):gG H H':=λc o n e=>b.same c o (bg.XC e n) e
theorem bG.Te{p:Addr}{H0 H H':Hp}(s:az H0 H)(hp:H0 p=none)(b:bG p H H'):az H0 H':=λc o e=>b.same c o (fv e hp) (s c o e)
section
variable {K:aa}
theorem Fu{J:It}{te:TE}{Q:VK}{D p:Addr}{H H0:Hp}(n:Nat)(rest:_L.St)(nw:Nw H H0 D (.lst []))(bg:fO H p)(hn:n<=1000)(xv:Nat->V) (go:∀i H2,i<n->bG p H H2->J.go i H2/\∀y H3,J.hV i H2 y H3->H3=H2/\y=xv i)(stop:∀H2,bG p H H2->J.stop n H2)(Pz:Int->Prop) (hs:∀i H2 (Q':VK),i<n->bG p H H2->(∀z H3,Pz z->bG p H2 H3->Q' (.int z) H3)->te (some (xv i)::rest) H2 Q') (hq:∀H' (is:List Int),bG p H H'->H' D=some (.lst (is.map V.int))->is.length=n->(∀z∈is,Pz z)->Q (.ref D) H'):jQ J (fY 0) jj te Q D (none::rest) H0:=by
 have vm:D≠p:=λe=>bg.ne (e▸nw.no);refine sE n (λi O H3=>bG p H H3/\(∃is:List Int,H3 D=some (.lst (is.map V.int))/\is.length=i/\∀z∈is,Pz z)/\∃v,O=v::rest) ?_ ?_ ?_
 ·exact⟨.eV bg nw.same,⟨[],nw.at',Z,λ_ h=>(eS h).elim⟩,none,Z⟩
 ·rintro i O H3 hi ⟨b3,⟨is,d3,li,pi⟩,v,rfl⟩
  obtain⟨g1,g2⟩:=go i H3 hi b3;refine⟨g1,λy H4 hy=>?_⟩;obtain⟨rfl,rfl⟩:=g2 y H4 hy;refine wO ?_;refine hs i _ _ hi b3 λz H5 pz b5=>?_;refine⟨_,b5.same _ _ vm d3,?_,n-(i+1),au,Z,au,?_,⟨is++[z],?_,?_,?_⟩,_,Z⟩
  ·rw[bA,li]
   have:(1000:Nat)<sizeLine:=by decide
   lia
  ·have vE:=b3.trans b5
   refine⟨?_,λb o n e=>?_⟩
   ·obtain⟨c,m,e,ok⟩:=vE.bJ
    exact⟨c,m,by rw[bh vm.symm];exact e,ok⟩
   ·rw[bh (fv e nw.no)];exact vE.same b o n e
  ·rw[bU,jg];rfl
  ·rw[fQ,li];rfl
  ·intro y hy
   rcases iO.mp hy with h|h
   ·exact pi y h
   ·rw[cS.mp h];exact pz
 ·rintro O H3 ⟨b3,⟨is,d3,li,pi⟩,v,rfl⟩
  exact⟨stop H3 b3,hq H3 is b3 d3 li pi⟩
theorem Mh(ns:List Int){i:Int}(h0:0<=i)(h:i<ns.length):∃z,z∈ns/\eg (ns.map V.int) i=some (.int z):=by
 have hl:i.toNat<ns.length:=by omega
 exact⟨ns[i.toNat],wB hl,cN h0 (by rw[bK,cI hl];rfl)⟩
theorem Oo{J:It}{te:TE}{Q:VK}{D p:Addr}{H H0:Hp}(n:Nat)(rest:_L.St)(nw:Nw H H0 D (.lst []))(bg:fO H p)(hn:n<=1000)(xv:Nat->V) (go:∀i H2,i<n->bG p H H2->J.go i H2/\∀y H3,J.hV i H2 y H3->H3=H2/\y=xv i)(stop:∀H2,bG p H H2->J.stop n H2)(Pd:Nat->ah->Prop) (hs:∀i H2 (Q':VK),i<n->bG p H H2->(∀y d H3,Pd i d->eX d=true->RD K H3 y d->bG p H2 H3->Q' y H3)->te (some (xv i)::rest) H2 Q') (hq:∀H' ys ds,bG p H H'->H' D=some (.lst ys)->aJ K H' ys ds->ds.length=n->cy ds=true->(∀i d,ds[i]? =some d->Pd i d)->Q (.ref D) H'):jQ J (fY 0) jj te Q D (none::rest) H0:=by
  have vm:D≠p:=λe=>bg.ne (e▸nw.no);refine sE n (λi O H3=>bG p H H3/\(∃ys ds,H3 D=some (.lst ys)/\aJ K H3 ys ds/\ds.length=i/\cy ds=true/\∀j d,ds[j]? =some d->Pd j d)/\∃v,O=v::rest) ?_ ?_ ?_
  ·exact⟨.eV bg nw.same,⟨[],[],nw.at',de,Z,Z,λj d e=>by simp at e⟩,none,Z⟩
  · rintro i O H3 hi ⟨b3,⟨ys,ds,d3,r3,li,ni,pi⟩,v,rfl⟩
    obtain⟨g1,g2⟩:=go i H3 hi b3;refine⟨g1,λy H4 hy=>?_⟩;obtain⟨rfl,rfl⟩:=g2 y H4 hy;refine wO ?_;refine hs i _ _ hi b3 λz d H5 pz nz rz b5=>?_;have d5:=b5.same _ _ vm d3;have t:gG H5 (_L.upd H5 D (.lst (ys++[z]))):=.tG d5;refine⟨ys,d5,?_,n-(i+1),au,Z,au,?_,⟨ys++[z],ds++[d],bU,?_,?_,?_,?_⟩,_,Z⟩
    · rw[r3.length,li]
      have:(1000:Nat)<sizeLine:=by decide
      lia
    · have vE:=b3.trans b5
      refine⟨?_,λb o n e=>?_⟩
      · obtain⟨c,m,e,ok⟩:=vE.bJ
        exact⟨c,m,by rw[bh vm.symm];exact e,ok⟩
      ·rw[bh (fv e nw.no)];exact vE.same b o n e
    ·exact(aJ.t ((bG.t b3.bJ b5).trans t) _ ni r3).append (cj (RD.t t _ nz rz) de)
    ·rw[fQ,li];rfl
    ·exact gP.mpr λx hx=>by
        rcases iO.mp hx with h|h
        ·exact gP.mp ni x h
        ·rw[cS.mp h];exact nz
    · intro j e he
      by_cases hj:j<ds.length
      · rw[wC hj]at he
        exact pi j e he
      · have pQ:j=ds.length:=by
          have:=(dN.mp he).1;rw[fQ]at this;have:j<ds.length+1:=this
          lia
        subst pQ;rw[A5 (bj _),Nat.sub_self]at he;cases he;rw[li];exact pz
  · rintro O H3 ⟨b3,⟨ys,ds,d3,r3,li,ni,pi⟩,v,rfl⟩
    exact⟨stop H3 b3,hq H3 ys ds b3 d3 r3 li ni pi⟩
end
end _c
namespace _l
open PySem _L
def jO(i:Int):Int:=if i<0 then-i else i
theorem FP(i:Int):jO i=(i.natAbs:Int):=by unfold jO;split<;>lia
def aL(ns:List Int):Nat:=ns.foldr (λz m=>max z.natAbs m) 0
theorem DJ:∀{ns:List Int}{z:Int},z∈ns->z.natAbs<=aL ns
 |n::ns,z,h=>by
  show z.natAbs<=max n.natAbs (aL ns);rcases bS.mp h with rfl|h
  ·exact Nat.le_max_left _ _
  ·exact fc (DJ h) (Nat.le_max_right _ _)
theorem DI:∀{ns:List Int},ns≠[]->∃z∈ns,z.natAbs=aL ns
 |[],h=>absurd Z h |[n],_=>⟨n,.head _,by show n.natAbs=max n.natAbs 0;lia⟩ |n::m::ns,_=>by
  obtain⟨z,hz,e⟩:=DI (ns:=m::ns) (by simp);by_cases h:n.natAbs<=aL (m::ns)
  ·exact⟨z,.tail _ hz,by show _=max n.natAbs (aL (m::ns));lia⟩
  ·exact⟨n,.head _,by show _=max n.natAbs (aL (m::ns));lia⟩
theorem lC{ns:List Int}{m:Nat}(h:∀z∈ns,z.natAbs<=m):aL ns<=m:=by cases ns with |nil=>exact dS _ |cons a r=>obtain⟨z,hz,e⟩:=DI (ns:=a::r) (by simp);rw[<-e];exact h z hz
theorem YO{ns:List Int}(h:∃z∈ns,z≠0):0<aL ns:=by
 obtain⟨z,hz,h0⟩:=h;have:=DJ hz
 lia
theorem DH{ns:List Int}(cm:ns≠[]){M:Int}(h1:M∈ns.map jO)(h2:∀a∈ns.map jO,a<=M):M=(aL ns:Int):=by
 obtain⟨z,hz,e⟩:=cH.mp h1;obtain⟨y,hy,ey⟩:=DI cm;have a1:=DJ hz;have a2:=h2 (jO y) (cH.mpr ⟨y,hy,Z⟩);rw[FP]at e a2
 lia
def xq(p q:Int):Int:=(2*(p.natAbs:Int)+q)/(2*q)
def uD(p q:Int):Int:=if p>=0 then xq p q else-xq p q
end _l
namespace _L
open PySem PySem.Spec PyProof.Rows
abbrev yZ(b:Bool)(h:Heap)(l:Addr):Heap:=h.push {cls:=.type (oa b),data:=.fields #[.ref l,.int 0 0]}
abbrev Fh(b:Bool)(h:Heap)(l:Addr):Heap:=(yZ b h l).push {cls:=.type "enumerate",data:=.fields #[.none,.bool false,.ref h.objs.size,rawInt 0,.none,.none]}
theorem a4j(b:Bool)(l:Addr)(xs:Array Value):Meets (Builtin.«enumerate.__new__» ⟨[.type "enumerate",.ref l],[]⟩) (λ_ R s=>fC b s.heap l xs/\R (.ok (.ret (.ref (yZ b s.heap l).objs.size))) {s with heap:=Fh b s.heap l}):=.of_wp λprog w A R s h=>by
 obtain⟨hp,gg,d,tk,os⟩:=s;obtain⟨hl,h⟩:=h;have E2:=sub_enumerate;have hL:fC b (Shared.heap ⟨hp,gg,d,tk,os⟩) l xs:=hl
 wp_walk using rA hL;refine wpAny_stack_any λst=>bw ?_;split
 ·rename_i c _ _ _ _ _
  cases(c==Value.type "enumerate")
  ·wp_walk using rA hL
   exact⟨_,Z,h⟩
  ·wp_walk using rA hL
   exact⟨_,Z,h⟩
 ·wp_walk using rA hL
  exact⟨_,Z,h⟩
section
variable {prog:af}{w:World}{A:ai}{E:Value->ae->Prop}{s:ae}
theorem a4k{b:Bool}{l:Addr}{xs:Array Value}{Q:Value->ae->Prop}(hl:fC b s.heap l xs) (q:∀g,IsEnum g (s.heap.objs.size+1) s.heap.objs.size 0 .none->iH b g s.heap.objs.size l 0->(∀c o,s.heap.get? c=some o->g.get? c=some o)->Q (.ref (s.heap.objs.size+1)) {s with heap:=g}): wpAny (model prog w) A (call (.type "enumerate") [.ref l]) Q E s:=by refine callType_new PySem.F.called_enumerate ay (PySem.F.typeCall_enumerate_1 _) (PySem.F.newCall_enumerate_1 _) (λobj=>PySem.F.args_object_init_2 obj _) PySem.F.entry_enumerate_new (a4j b l xs) ⟨hl,?_⟩;have z1:(yZ b s.heap l).objs.size=s.heap.objs.size+1:=lY ..;have g2:(Fh b s.heap l).get? (yZ b s.heap l).objs.size=some _:=cK _ rfl;have g1:(Fh b s.heap l).get? s.heap.objs.size=some _:=bL _ (cK _ Z);show _/\_;rw[z1]at g2⊢;refine⟨⟨_,g2,Z⟩,q _ g2 ?_ λc o e=>bL _ (bL _ e)⟩;cases b<;>exact⟨_,g1,rfl,rfl⟩
theorem NQ{b:Bool}{it l:Addr}{xs:Array Value}(hh:A.handled=none)(ne:l≠it):Draws prog w A it [it,l] xs.size (λi x=>xs[i]? =some x) (λi h=>iH b h it l i/\fC b h l xs) where
 live:=λi h st=>by obtain⟨o,e,_⟩:=st.1.ob;exact⟨o,e⟩
 frame:=λi h h' st k=>⟨st.1.to λo e=>k it (by simp) o e,st.2.to λo e=>k l (by simp) o e⟩
 item:=λi s Q E hi st hQ=>xT st.1 st.2 (x:=xs[i]) (by simp[hi]) λg gi sb=>hQ _ g s.toks (by simp[hi]) ⟨gi,st.2.to λo e=>sb.extBut _ _ ne e⟩ sb
 done:=λs Q E st hE=>Fg hh st.1 st.2 (by simp) λg e a b=>hE g e a b
end
def vP(K:aa)(b:Bool)(l:Addr):It:=⟨λi H=>∃xs x,dG b K H l xs/\xs[i]? =some x,λi H v H'=>∃T x,v= .ref T/\(∀xs,dG b K H l xs->xs[i]? =some x)/\Nw H H' T (.tup [.int i,x]),λi H=>∃xs,dG b K H l xs/\xs.length=i⟩
theorem Rf{P:af}{w:World}{K:aa}{elts:List Expr}{kt:Nat}{pos:Pos}{b:Bool}{e it l:Addr}(D:e≠it): Turn P w K (.Tuple elts kt pos) (vP K b l) [e,it] e (λi h=>(∃old,IsEnum h e it i old)/\iH b h it l i) where
 mem:=by simp
 obj:=λi h st c hc=>by
  obtain⟨⟨old,he⟩,h1⟩:=st;simp only[bS,eS,jR]at hc;rcases hc with rfl|rfl
  ·exact⟨_,he,λv e=>by cases e⟩
  ·obtain⟨o,e,_,n⟩:=h1.ob;exact⟨o,e,n⟩
 keep:=λi h h' st k=>by obtain⟨⟨old,he⟩,h1⟩:=st;exact⟨⟨old,k e (by simp) _ he⟩,h1.to λo q=>k it (by simp) o q⟩
 item:=by
  intro X hP hw hK hc i pins s O H E I hf st hg;subst hP hw hK;obtain⟨xs,x,q1,e1⟩:=hg;obtain⟨its,r1,p1⟩:=q1.get I;obtain⟨u1,DY,m8⟩:=r1.get e1;obtain⟨⟨old,he⟩,h1⟩:=st;obtain⟨oi,iC,ci,_⟩:=h1.ob;have DL:∃o,s.heap.get? l=some o/\(o.cls= .type "list"\/o.cls= .type "tuple"):=by cases b<;>(obtain⟨o,ho,cc,_⟩:=p1;first|exact⟨o,ho,.inl cc⟩|exact⟨o,ho,.inr cc⟩)
  obtain⟨ol,mD,cl⟩:=DL;have XB:e≠l:=λz=>by subst z;rw[he]at mD;cases mD;rcases cl with h|h<;>simp at h
  have nil:l≠it:=λz=>by subst z;rw[iC]at mD;cases mD;rw[ci]at cl;cases b<;>(rcases cl with h|h<;>simp[oa]at h)
  have bT:i<its.toArray.size:=by rw[dB,<-r1.length];exact(dN.mp e1).1
  refine wpAny_pyNext_enum_itemD (NQ (I.ok.hd hc) nil) he ⟨h1,p1⟩ bT D (by simp[D,XB]) λy h' tk hPy ho fk hT hsz kp=>⟨_,Z,?_⟩;have ey:y=u1:=by
   have a1:its.toArray[i]? =some y:=hPy;have a2:its.toArray[i]? =some u1:=by simpa using DY
   rw[a1]at a2;exact cW a2
  subst ey;refine wpAny_letOwnedTupleGo_enum ho λg' En sb=>?_;have hs:=sb.extBut;have elt:e<s.heap.objs.size:=bN he;have Zj:it<s.heap.objs.size:=bN iC;have nw:Nw H (upd H s.heap.objs.size (.tup [.int i,x])) s.heap.objs.size (.tup [.int i,x]):=.of (I.aW.fresh (bj _));have I1:Inv X pins O (upd H s.heap.objs.size (.tup [.int i,x])) {s with heap:=s.heap.push {cls:=.type "tuple",data:=.seq #[.int i tk,y]},toks:=tk+1}:=I.laid (t':=tk+1) (λb ob q=>bL _ q) (bj _) ⟨by show 2<=sizeLine;decide,[.int i tk,y],.cons ⟨tk,Z⟩ (.cons m8 .nil),⟨_,cK _ Z,Z,_,Z⟩⟩;have Dz:∀c∈[e,it],c<s.heap.objs.size:=λc hc=>by
   simp only[bS,eS,jR]at hc;rcases hc with rfl|rfl
   ·exact elt
   ·exact Zj
  have hn:∀c∈[e,it],upd H s.heap.objs.size (.tup [.int i,x]) c=none:=λc hc=>by rw[bh (dA (Dz c hc))];exact(hf c hc).1
  have I2:Inv X pins O (upd H s.heap.objs.size (.tup [.int i,x])) {s with heap:=g',toks:=tk+1}:=Inv.tJ (s:={s with heap:=s.heap.push {cls:=.type "tuple",data:=.seq #[.int i tk,y]},toks:=tk+1}) (t':=tk+1) (fp:=[e,it]) I1 (λc o hc q=>by
   have q:(s.heap.push {cls:=.type "tuple",data:=.seq #[.int i tk,y]}).get? c=some o:=q;have nz:c≠e:=λz=>hc (by simp[z]);rcases Qt q with⟨Es,rfl⟩|q'
   ·subst Es
    exact hs _ _ nz hT
   ·exact hs _ _ nz (kp c o nz (λz=>hc (by simp[z])) q')) (λc hc=>by obtain⟨f0,f1,f2,f3,f4,f5⟩:=hf c hc;exact⟨hn c hc,f1,f2,f3,f4,f5⟩);refine⟨.ref s.heap.objs.size,_,I2,Z,⟨s.heap.objs.size,x,Z,λzs hz=>?_,nw⟩,⟨⟨_,by simpa using En⟩,fk.1.to λo q=>hs _ o (iL D) q⟩,hn⟩;rw[dG.inj I hz q1];exact e1
 done:=by
  intro X hP hw hK hc i pins s O H E I hf st hg;subst hP hw hK;obtain⟨xs,q1,vc⟩:=hg;obtain⟨its,r1,p1⟩:=q1.get I;obtain⟨⟨old,he⟩,h1⟩:=st;obtain⟨oi,iC,ci,_⟩:=h1.ob;have DL:∃o,s.heap.get? l=some o/\(o.cls= .type "list"\/o.cls= .type "tuple"):=by cases b<;>(obtain⟨o,ho,cc,_⟩:=p1;first|exact⟨o,ho,.inl cc⟩|exact⟨o,ho,.inr cc⟩)
  obtain⟨ol,mD,cl⟩:=DL;have nil:l≠it:=λz=>by subst z;rw[iC]at mD;cases mD;rw[ci]at cl;cases b<;>(rcases cl with h|h<;>simp[oa]at h)
  have hi:i=its.toArray.size:=by rw[dB,<-r1.length];exact vc.symm
  subst hi;refine wpAny_pyNext_enum_endD (NQ (I.ok.hd hc) nil) he ⟨h1,p1⟩ λh' kp=>⟨Z,?_⟩;exact I.tJ (t':=s.toks) (fp:=[e,it]) (λc o hc q=>kp c o (λz=>hc (by simp[z])) q) hf
 self:=λ_ _ _ _ _ st h=>by obtain⟨⟨old,he⟩,_⟩:=st;exact wpAny_pyIter_enum he h
inductive a7W(K:aa)(b:Bool)(R:It->Hp->Prop)(vs:List V)(H1:Hp):Prop |mk (l:_)(h0:vs=[.ref l])(h1:(∃xs,dG b K H1 l xs))(h2:R (vP K b l) H1)
def Zr(K:aa)(b:Bool)(ta:TA):TI:=λO H R=>ta O H λvs H1=>a7W K b R vs H1
theorem UY(K:aa){X:Cx}(hK:X.K=K)(b:Bool){elts:List Expr}{kt:Nat}{oO:Pos}{a:Expr}{ta:TA}{p pos:Pos}(hg:Gl X "enumerate")(hm:X.mg "enumerate"=none)(ha:PA X [a] ta)(hs:autoParam (starEach [a] X.env=[(false,eval a X.env)]) r8_._auto_1)(fL:autoParam (starEach [] X.env=[]) r8_._auto_1): PI X (.Tuple elts kt oO) (.Call (.Name "enumerate" p) [a] [] pos) (Zr K b ta):=by
 subst hK;intro pins s O H R I h;refine Call_ (lD I hg hm PyProof.Rows.boot_enumerate (qA (aV (ha pos pins s O H _ I h) λus s1 ⟨vs,H1,I1,r1,q1⟩=>?_) (by rw[hs,fL]) (by rw[fL];rfl)));obtain⟨l,e,⟨xs,h1⟩,q⟩:=q1;subst e;obtain⟨u1,rfl,m8⟩:=vals1 r1;cases(show u1=Value.ref l from m8);obtain⟨DP,v1,p1⟩:=h1.get I1;refine a4k p1 λg zg ig kp=>wpAny_pyIter_enum zg ?_;refine⟨_,_,_,_,H1,Z,I1.kept (t':=s1.toks) kp,Rf (qB (Qd _)),⟨⟨_,zg⟩,ig⟩,λc hc=>?_,q⟩;have hle:s1.heap.objs.size<=c:=by simp only[bS,eS,jR]at hc;rcases hc with rfl|rfl<;>first|exact bj _|exact Nat.le_add_right _ _
 exact I1.lK hle (I1.aW.fresh hle)
theorem a2J{K:aa}{b:Bool}{a:Addr}{xs:List V}{g:TG}{tb:TS}{D:Ends}{O:St}{H:Hp}(Pv:Nat->St->Hp->Prop)(h0:Pv 0 O H)(hl:∀i O H,i<=xs.length->Pv i O H->dG b K H a xs) (hs:∀i x O H,xs[i]? =some x->Pv i O H->∀T H',Nw H H' T (.tup [.int i,x])->g (.ref T) O H' λσ2 H2=>tb {D with nx:=Pv (i+1),ct:=Pv (i+1),bk:=D.nx} σ2 H2)(hd:∀O H,Pv xs.length O H->D.nx O H): ∃W:Nat->Nat->St->Hp->Prop,(∃m,W 0 m O H)/\∀i m O H,W i m O H->((vP K b a).stop i H/\D.nx O H)\/((vP K b a).go i H/\∃N:St->Hp->Prop,(∀σ' H',N σ' H'->∃m',m'<m/\W (i+1) m' σ' H')/\∀x H',(vP K b a).hV i H x H'->g x O H' λσ2 H2=>tb {D with nx:=N,ct:=N,bk:=D.nx} σ2 H2):=by
 refine⟨λi m O H=>m=xs.length-i/\i<=xs.length/\Pv i O H,⟨xs.length,by simp,dS _,h0⟩,?_⟩;rintro i m O H ⟨rfl,hi,p⟩;have q:=hl i O H hi p;by_cases bT:i<xs.length
 ·refine .inr ⟨⟨xs,xs[i],q,by simp[bT]⟩,Pv (i+1),λσ' H' p'=>⟨xs.length-(i+1),au,Z,bT,p'⟩,λx H' y=>?_⟩
  obtain⟨T,z,rfl,ez,nw⟩:=y;exact hs i z O H (ez xs q) p T H' nw
 ·have e:i=xs.length:=by lia
  subst e;exact .inl ⟨⟨xs,q,Z⟩,hd O H p⟩
theorem a2G{K:aa}{b1 b2:Bool}{a1 a2:Addr}{xs ys:List V}{g:TG}{tb:TS}{D:Ends}{O:St}{H:Hp}(n:Nat)(hn:n=min xs.length ys.length)(Pv:Nat->St->Hp->Prop)(h0:Pv 0 O H)(hl:∀i O H,i<=n->Pv i O H->dG b1 K H a1 xs/\dG b2 K H a2 ys) (hs:∀i x y O H,xs[i]? =some x->ys[i]? =some y->Pv i O H->∀T H',Nw H H' T (.tup [x,y])->g (.ref T) O H' λσ2 H2=>tb {D with nx:=Pv (i+1),ct:=Pv (i+1),bk:=D.nx} σ2 H2)(hd:∀O H,Pv n O H->D.nx O H): ∃W:Nat->Nat->St->Hp->Prop,(∃m,W 0 m O H)/\∀i m O H,W i m O H->((qr K b1 b2 a1 a2).stop i H/\D.nx O H)\/((qr K b1 b2 a1 a2).go i H/\∃N:St->Hp->Prop,(∀σ' H',N σ' H'->∃m',m'<m/\W (i+1) m' σ' H')/\∀x H',(qr K b1 b2 a1 a2).hV i H x H'->g x O H' λσ2 H2=>tb {D with nx:=N,ct:=N,bk:=D.nx} σ2 H2):=by
 refine⟨λi m O H=>m=n-i/\i<=n/\Pv i O H,⟨n,by simp,dS _,h0⟩,?_⟩;rintro i m O H ⟨rfl,hi,p⟩;obtain⟨q1,q2⟩:=hl i O H hi p;by_cases bT:i<n
 ·have l1:i<xs.length:=by lia
  have l2:i<ys.length:=by lia
  refine .inr ⟨⟨xs,ys,xs[i],ys[i],q1,q2,by simp[l1],by simp[l2]⟩,Pv (i+1),λσ' H' p'=>⟨n-(i+1),au,Z,bT,p'⟩,λx H' y=>?_⟩;obtain⟨T,z1,z2,rfl,e1,e2,nw⟩:=y;exact hs i z1 z2 O H (e1 xs q1) (e2 ys q2) p T H' nw
 ·have e:i=n:=by lia
  subst e;exact .inl ⟨⟨xs,ys,q1,q2,au⟩,hd O H p⟩
section
variable {X:Cx}
end
set_option maxHeartbeats 1000000 in
theorem CJ{X:Cx}{N:List Str}{js:List (Option Nat)}{elt tg iter:Expr}{ifs:List Expr}{scope:Scope}{pos:Pos}{wi:TI}{g:TG}{tt:TT}{te:TE}{i0:Nat}{x0:Str}{qN HA:Pos}(hNd:X.N.Nodup)(MC:X.N[i0]? =some x0)(yl:Loc X.env.scope x0)(hc:X.calm=true)(hN:zm X N js scope=true)(hS:sF X scope=true) (hi:PI X tg iter wi)(hg:∀cl s H fp pins,PG (eJ X N scope cl s H fp pins) tg g)(ht:∀cl s H fp pins,FX (eJ X N scope cl s H fp pins) ifs tt)(he:∀cl s H fp pins,PE (eJ X N scope cl s H fp pins) elt te) (ZE:autoParam (swapsWith (.ListComp elt [⟨tg,iter,ifs,0⟩] scope pos) (some (.Name x0 qN)) HA.line X.env=pure true) r8_._auto_1)(hf0:X.fn x0=true\/X.env.scope.names.lookup x0=some .local:=by first|exact .inl rfl|exact .inr rfl) (hs:autoParam (∀x,foldedSetIterable iter X.env x=pure x) f8_._auto_1):PS X (.Assign [.Name x0 qN] (.ListComp elt [⟨tg,iter,ifs,0⟩] scope pos) HA) (xf (Hr js wi g tt te) (fY i0)):=by
 intro pins s O H D0 I h;have mI:=hS;unfold sF at mI;rw[du,du]at mI;obtain⟨⟨k1,k2⟩,k3⟩:=mI;have kE:scope.kind= .function:=dr.mp k1;have rT:∀x∈scope.names,x.2= .free->∃c,X.env.cells.lookup x.1=some c:=λx hx e=>by have:=fh.mp k3 x hx;rw[e]at this;exact I.ok.has x.1 (.inl (dr.mp this))
 have nT:∀x∈scope.names,x.2≠ .cell:=λx hx e=>by have:=fh.mp k3 x hx;rw[e]at this;exact dc this
 have Ed:∀x∈scope.names,x.2= .local->scope.names.lookup x.1=some .local:=λx hx e=>by have:=fh.mp k3 x hx;rw[e]at this;exact dr.mp this
 obtain⟨cl,Er,c1,c2⟩:=OA rT;rw[exec_Assign_Name_used _ _ _ _ ZE];refine aA (qw (aA ?_));show wpAny _ X.A (do let _<-comprehension (.ListComp elt [⟨tg,iter,ifs,0⟩] scope pos) scope X.env _ (newList []) false (eval iter X.env) (some (assign (.Name x0 qN) X.env))) _ _ s;refine aA (fP (wpAny_comprehension_free (use:=some (assign (.Name x0 qN) X.env)) (Q:=λ_ s'=>SP X pins D0 .next s') Z hs Er kE Ed (aV (hi pins s O H _ I h) λv s1 h1=>aV h1 λyf s2 h2=>?_)) (λ_ s' hq=>bw (bw hq)) λ_ _ e=>e);obtain⟨it,fp,tn,J,H2,e,I2,T,oS,f2,h2⟩:=h2;subst e;have hD:H2 s2.heap.objs.size=none:=I2.aW.fresh (bj _);obtain⟨W,⟨m0,w0⟩,turn⟩:=h2 _ _ (Nw.of hD);refine lT (wpAny_newFunctionEnv nT (by intro y hy;simp at hy) (λh₁ uU uR=>?_) kE);have pW:∀b∈fp,b<s2.heap.objs.size:=λb hb=>by obtain⟨o,e,_⟩:=T.obj _ _ oS b hb;exact bN e
 have I3:Inv X pins O (upd H2 s2.heap.objs.size (.lst [])) {s2 with heap:=s2.heap.push {cls:=.type "list",dict:=none,data:=.seq ([]:List Value).toArray}}:=I2.LW (its:=[]) (t':=s2.toks) .nil (dS _);generalize vk:s2.heap.push {cls:=.type "list",dict:=none,data:=.seq ([]:List Value).toArray}=h3 at I3 uU uR;have tM:h3.objs.size=s2.heap.objs.size+1:=by rw[<-vk,lY]
 have DN:∀b o,s2.heap.get? b=some o->h3.get? b=some o:=λb o e=>by rw[<-vk];exact bL _ e
 have f3:∀b∈fp,jz X pins (upd H2 s2.heap.objs.size (.lst [])) b:=λb hb=>⟨by rw[bh (dA (pW b hb))];exact(f2 b hb).1,(f2 b hb).2⟩;have uL:∀b o,h3.get? b=some o->h₁.get? b=some o:=λb o e=>(uR.2 b (dA (bN e))).trans (bL _ e);have I4:Inv (eJ X N scope cl {s2 with heap:=h3} (upd H2 s2.heap.objs.size (.lst [])) fp pins) [] (stC js O) (upd H2 s2.heap.objs.size (.lst [])) {s2 with heap:=h₁,toks:=s2.toks+([]:List (Str×Value)).length}:=I3.comp (s:={s2 with heap:=h3}) hN hS c1 c2 f3 (λb hb=>by show b<h3.objs.size;rw[tM];exact Gk (pW b hb)) (by simpa using uU) uL;have tN:tn 0 h₁:=T.keep _ _ _ oS λb _ o e=>uL b o (DN b o e);have loop:codeAny (model X.prog X.w) X.A (.compLoop (.ListComp elt [⟨tg,iter,ifs,0⟩] scope pos) 0 (.ref it) (.ref s2.heap.objs.size) (compEnvC scope cl h3.objs.size X.env)) (compPost (model X.prog X.w) X.A X.xe (some (assign (.Name x0 qN) X.env)) (λ_ s'=>SP X pins D0 .next s') (.ref s2.heap.objs.size) h3.objs.size) {s2 with heap:=h₁,toks:=s2.toks+([]:List (Str×Value)).length}:=by
  refine Ox (λn s'=>∃i σ' H',Inv (eJ X N scope cl {s2 with heap:=h3} (upd H2 s2.heap.objs.size (.lst [])) fp pins) [] σ' H' s'/\tn i s'.heap/\(∀b∈fp,H' b=none)/\W i n σ' H') ?_ m0 ⟨0,_,_,I4,tN,λb hb=>(f3 b hb).1,w0⟩;rintro n s5 ⟨i,σ5,H5,I5,m5,kK,w5⟩;have jZ:∀{H':Hp},(∀b∈fp,H' b=none)->∀b∈fp,jz (eJ X N scope cl {s2 with heap:=h3} (upd H2 s2.heap.objs.size (.lst [])) fp pins) [] H' b:=λ{H'} hn b hb=>by
   obtain⟨_,q1,q2,q3,q4,q5⟩:=f3 b hb;refine⟨hn b hb,λz=>?_,I4.ok.mM b hb,.inl hb,λx c e=>q4 x c (c1 x c e),λp hp=>q5 p (by simpa[eJ]using hp)⟩;have bT:b<h3.objs.size:=by rw[tM];exact Gk (pW b hb)
   exact dA bT z
  rcases turn i n σ5 H5 w5 with⟨stop,qn⟩|⟨go,step⟩
  ·refine aV (T.done (eJ X N scope cl {s2 with heap:=h3} (upd H2 s2.heap.objs.size (.lst [])) fp pins) rfl rfl rfl hc i [] s5 σ5 H5 _ I5 (jZ kK) m5 stop) λr s6 ⟨hr,I6⟩=>?_
   subst hr;obtain⟨m,hm,_⟩:=I6.loc;have u0:Un (cR X.stack) fp (upd H2 s2.heap.objs.size (.lst [])) H5 h3 s6.heap:=I6.ao;have I7:Inv X pins O H5 s6:=I3.zo (s':=s6) (ch:=fp) I6.os u0 I6.aW I6.bare λb hb=>⟨(f3 b hb).2.2.2.1,(f3 b hb).2.1,(f3 b hb).2.2.2.2.1,(f3 b hb).2.2.2.2.2⟩;have hC:jz X pins H5 h3.objs.size:=I3.lK (bj _) I6.free;show wpAny _ X.A (assign (.Name x0 qN) X.env (.ref s2.heap.objs.size)) _ _ s6;refine wpAny_assign_Name (Hw I7 hNd MC yl (show RelV (.ref s2.heap.objs.size) (.ref s2.heap.objs.size)from Z) (λs8 I8 ZL=>?_) hf0);obtain⟨a,sb,ha⟩:=ZL;have hCa:h3.objs.size≠a:=by
    rcases ha with rfl|ha
    ·exact hC.2.1
    ·exact λz=>hC.2.2.2.2.1 x0 a ha z.symm
   refine⟨m,hm.sameBut sb hCa,λh9 ZM=>⟨_,H5,?_,qn⟩⟩;exact I8.tJ (t':=s8.toks) (fp:=[h3.objs.size]) (λb o hb e=>ZM.extBut b o (λz=>hb (by simp[z])) e) λb hb=>by rw[cS.mp hb];exact hC
  ·refine aV (T.item (eJ X N scope cl {s2 with heap:=h3} (upd H2 s2.heap.objs.size (.lst [])) fp pins) rfl rfl rfl hc i [] s5 σ5 H5 _ I5 (jZ kK) m5 go) λr s6 ⟨u,hr,h6⟩=>?_
   subst hr;refine aV h6 λ_ s7 ⟨x,H7,I7,r7,y7,oQ,EW⟩=>?_;have G1:=I7.pinned (jZ EW) (T.obj _ _ oQ);refine aV (hg _ _ _ _ _ _ s7 σ5 H7 x u _ G1 r7 (step x H7 y7)) λ_ s8 ⟨σ8,H8,I8,q8⟩=>?_;refine aV (ht _ _ _ _ _ _ s8 σ8 H8 _ I8 q8) λok s9 ⟨H9,I9,q9⟩=>?_;have again:∀{s':ae}{σ7:St}{H7:Hp},Inv (eJ X N scope cl {s2 with heap:=h3} (upd H2 s2.heap.objs.size (.lst [])) fp pins) ([]++qP fp s7.heap) σ7 H7 s'->(∃m',m'<n/\W (i+1) m' σ7 H7)->∃m,m<n/\∃i σ' H',Inv (eJ X N scope cl {s2 with heap:=h3} (upd H2 s2.heap.objs.size (.lst [])) fp pins) [] σ' H' s'/\tn i s'.heap/\(∀b∈fp,H' b=none)/\W i m σ' H':=λ{s' σ7 H7} J7 n7=>by obtain⟨m',hm,w7⟩:=n7;refine⟨m',hm,i+1,σ7,H7,J7.tH,T.keep _ _ _ oQ λb hb o e=>(J7.pin (b,o) (jf _ (jf _ (rE hb e)))).1,λb hb=>?_,w7⟩;obtain⟨o,e,d⟩:=T.obj _ _ oQ b hb;exact(J7.pin (b,o) (jf _ (jf _ (rE hb e)))).2.1
   cases ok with |false=>rw[aU dc]at q9⊢;exact again I9 q9 |true=>rw[aR rfl]at q9⊢;refine aV (he _ _ _ _ _ _ s9 σ8 H9 _ I9 q9) λyv kW ⟨y,fF,sQ,CD,ys,yk,hz,oK⟩=>?_;refine aV (Du _ kW σ8 fF (.ref s2.heap.objs.size) [y] (.ref s2.heap.objs.size) [yv] (λ_ gv=>∃m',m'<n/\W (i+1) m' σ8 gv) sQ Z (.cons CD .nil) ⟨_,ys,y,Z,Z,yk,hz,oK⟩) λ_ nB ⟨v11,gv,G2,Uy,CF⟩=>?_;exact again G2 CF
 exact codeAny_compStart_list loop (T.self _ 0 _ _ _ tN loop)
theorem Fx:∀{zs:List Str}{us:List Value},Vals (zs.map V.str) us->CarriedAll us (zs.map PyData.str) |[],_,.nil=>.nil |z::zs,_,.cons q r=>by obtain⟨t,rfl⟩:=(show∃t,_=Value.str z t from q);exact .cons (.str z t) (Fx r)
section
variable {X:Cx}
end
section
variable {X:Cx}{pins:List (Addr×Obj)}{O:St}{H:Hp}{s:ae}
end
section
variable {X:Cx}
theorem a4X:dI X (.type "range") (λxs H Q=>∃n,xs=[.int n]/\∀p H',Nw H H' p (.p8 0 n)->Q (.ref p) H'):=by intro pins s O H xs us Q I r h;obtain⟨n,rfl,q⟩:=h;obtain⟨u,rfl,t,rfl⟩:=vals1 r;refine call_range_1 ?_;have hf:H s.heap.objs.size=none:=I.aW.fresh (bj _);refine⟨.ref s.heap.objs.size,upd H s.heap.objs.size (.p8 0 n),I.laid (t':=s.toks+1+1) (λb u e=>bL _ e) (bj _) ?_,Z,q _ _ (.of hf)⟩;exact⟨_,_,_,cK _ Z⟩
end
theorem Sd:isSubtype (.type "range_iterator") (.type "reversed")=pure false:=by rw[isSubtype_type];kernel_rfl
section
variable {prog:af}{w:World}{A:ai}{E:Value->ae->Prop}{s:ae}
abbrev uc(n:Nat):Obj:={cls:=.type "range_iterator",data:=.fields #[rawInt (0+((n:Int)-1)*1),rawInt (n:Int),rawInt (-1)]}
abbrev Ci(n:Nat):Bool:=Builtin.Range.rangeFitsLong 0&&Builtin.Range.rangeFitsLong n&&Builtin.Range.rangeFitsLong 1&&Builtin.Range.rangeFitsLong (-1)&&Builtin.Range.rangeFitsLong (0-1)&&Builtin.Range.rangeFitsLong (Builtin.Range.rangeSize 0 n 1)
theorem K7{n:Nat}(h:n<2^62):Ci n=true:=by unfold Ci;rw[rangeSize_one];simp only[Builtin.Range.rangeFitsLong,du,wc];split<;>lia
theorem U6(r:Addr)(a b c:Int)(t u v:Tok)(hc0:¬(!(Builtin.Range.rangeFitsLong a&&Builtin.Range.rangeFitsLong b&&Builtin.Range.rangeFitsLong c&&Builtin.Range.rangeFitsLong (-c)&&Builtin.Range.rangeFitsLong (a-c)&&Builtin.Range.rangeFitsLong (Builtin.Range.rangeSize a b c)))=true):Meets (Builtin.«range.__reversed__» ⟨[.ref r],[]⟩) (λ_ R s=>s.heap.get? r=some {cls:=.type "range",dict:=none,data:=.fields #[.int a t,.int b u,.int c v],slots:=#[]}/\R (.ok (.ret (.ref s.heap.objs.size))) {s with heap:=s.heap.push {cls:=.type (if(Builtin.Range.rangeFitsLong a&&Builtin.Range.rangeFitsLong b&&Builtin.Range.rangeFitsLong c&&Builtin.Range.rangeFitsLong (-c)&&Builtin.Range.rangeFitsLong (a-c)&&Builtin.Range.rangeFitsLong (Builtin.Range.rangeSize a b c))=true then "range_iterator" else "longrange_iterator"),data:=.fields #[rawInt (a+(Builtin.Range.rangeSize a b c-1)*c),rawInt (Builtin.Range.rangeSize a b c),rawInt (-c)]},toks:=s.toks}):=.of_wp λprog w A R s h=>by
 obtain⟨hp,g,d,tk,os⟩:=s;obtain⟨hl,h⟩:=h
 wp_walk;exact⟨_,Z,h⟩
theorem a4V{l:Addr}{n:Nat}{t u v:Tok}{Q:Value->ae->Prop}(hn:n<2^62)(hl:s.heap.get? l=some {cls:=.type "range",data:=.fields #[.int 0 t,.int n u,.int 1 v]}) (h:Q (.ref s.heap.objs.size) {s with heap:=s.heap.push (uc n)}):wpAny (model prog w) A (call (.builtin "range.__reversed__") [.ref l]) Q E s:=by
 have hT:s.TypeIs (.ref l) "range":=⟨_,hl,Z⟩;refine sW Qu hT F.entry_range_reversed (F.args_range_reversed_1 _) (U6 l 0 n 1 t u v (by have:=K7 hn;unfold Ci at this;rw[this];decide)) ⟨hl,?_⟩;rw[aR (K7 hn)];have e:Builtin.Range.rangeSize 0 n 1=n:=by rw[rangeSize_one];split<;>lia
 rw[e];exact h
theorem a4I{l:Addr}{n:Nat}{t u v:Tok}{Q₁:Value->ae->Prop}(hn:n<2^62)(hl:s.heap.get? l=some {cls:=.type "range",data:=.fields #[.int 0 t,.int n u,.int 1 v]}) (h:Q₁ (.ref s.heap.objs.size) {s with heap:=s.heap.push (uc n)}): codeAny (model prog w) A (.call (.builtin "reversed.__new__") ⟨[.type "reversed",.ref l],[]⟩) (wants Q₁ E) s:=by
 have hT:s.TypeIs (.ref l) "range":=⟨_,hl,Z⟩;refine codeAny_of_tree ?_;show wpAny _ A.in1 (do checkBuiltinCall "reversed.__new__" ⟨[.type "reversed",.ref l],[]⟩;again (.builtin "reversed.__new__" ⟨[.type "reversed",.ref l],[]⟩)) _ _ s;refine aA (vV (F.newCall_reversed_1 _) (bw ⟨plainId_quiet F.plain_reversed_new _,G8 F.entry_reversed_new ?_⟩));rw[Qy F.plain_reversed_new _];unfold Builtin.«reversed.__new__»;refine aA (vV (newClass_reversed _) ?_)
 try dsimp only
 refine aA (vV (a:=()) (by first|rfl|kernel_rfl) ?_);refine aA (vV (a:=()) (by first|rfl|kernel_rfl) ?_)
 try dsimp only
 refine aA (zK hT Qu.lookup ?_)
 try dsimp only
 refine aA (vV (Qu.bind _) ?_)
 try dsimp only
 first |rw[aU (show¬((Value.builtin "range.__reversed__"==Value.none)=true)from dc)] |(show wpAny _ _ (if(Value.builtin "range.__reversed__"==Value.none)=true then _ else _) _ _ _;rw[aU (show¬((Value.builtin "range.__reversed__"==Value.none)=true)from dc)])
 refine aA (wpAny_rule ?_);refine aA (m:=runValue (.call (.builtin "range.__reversed__") ⟨[.ref l],[]⟩)) (show wpAny _ _ (call (.builtin "range.__reversed__") [.ref l]) _ _ _ from a4V hn hl ?_)
 first |exact bw h |exact aA (bw (bw h))
theorem a4W{l:Addr}{n:Nat}{t u v:Tok}{Q:Value->ae->Prop}(hn:n<2^62)(hl:s.heap.get? l=some {cls:=.type "range",data:=.fields #[.int 0 t,.int n u,.int 1 v]}) (h:Q (.ref s.heap.objs.size) {s with heap:=s.heap.push (uc n)}):wpAny (model prog w) A (call (.type "reversed") [.ref l]) Q E s:=by refine callType_other (U:="range_iterator") (Q₁:=λobj s₁=>obj= .ref s.heap.objs.size/\s₁={s with heap:=s.heap.push (uc n)}) aI F.create_reversed ⟨_,_,F.mro_reversed⟩ F.made_reversed Sd (F.typeCall_reversed_1 _) (a4I hn hl ⟨Z,Z⟩) ?_;rintro obj s₁ ⟨rfl,rfl⟩;exact⟨⟨_,cK _ Z,Z⟩,h⟩
end
def vN(n:Nat):It:=⟨λi _=>i<n,λi H x H'=>H'=H/\x= .int ((n:Int)-1-i),λi _=>n<=i⟩
theorem R8{P:af}{w:World}{K:aa}{tg:Expr}(it:Addr)(n:Nat):Turn P w K tg (vN n) [it] it (λi h=>IsRangeIter h it ((0+((n:Int)-1)*1)+(i:Nat)*(-1)) ((n:Int)-(i:Nat)) (-1)) where
 mem:=by simp
 obj:=λi h st b hb=>by
  have e:b=it:=by simpa using hb
  subst e;exact⟨_,st,λv z=>by have z':Data.fields _=Data.cell v:=z;cases z'⟩
 keep:=λi h h' st k=>k it (by simp) _ st
 item:=by
  intro X hP hw hK hc i pins s O H E I hf st hg;subst hP hw hK;obtain⟨f0,f1,f2,f3,f4,f5⟩:=hf it (by simp);have W:=Walks.range (prog:=X.prog) (w:=X.w) (I.ok.hd hc) it (0+((n:Int)-1)*1) (-1) n;refine W.item i s _ _ hg st λv h' tk hv fi kk=>?_;obtain⟨t,rfl⟩:=hv;have I1:Inv X pins O H {s with heap:=h',toks:=tk}:=I.turned (λb o hb e=>kk b o (by simpa using hb) e) f0 f1 f3 f4 f5;refine⟨_,Z,rY (s:={s with heap:=h',toks:=tk}) (n:="range_iterator") fi rfl rfl ay ⟨.int ((n:Int)-1-i),H,I1,⟨t,?_⟩,⟨Z,Z⟩,fi,λb hb=>(hf b hb).1⟩⟩;have e:(0+((n:Int)-1)*1)+(i:Int)*(-1)=(n:Int)-1-i:=by lia
  rw[e]
 done:=by intro X hP hw hK hc i pins s O H E I hf st hg;subst hP hw hK;obtain⟨f0,f1,f2,f3,f4,f5⟩:=hf it (by simp);exact Py (I.ok.hd hc) st (by have:n<=i:=hg;lia) λh' eb=>⟨Z,I.turned (t':=s.toks) (λb o hb e=>eb b o hb e) f0 f1 f3 f4 f5⟩
 self:=λ_ _ _ _ _ st h=>G5 st h
inductive a7U(R:It->Hp->Prop)(vs:List V)(H1:Hp):Prop |mk (p:_)(n:_)(h0:vs=[.ref p])(h1:H1 p=some (.p8 0 n))(h2:0<=n)(h3:n<2^62)(h4:R (vN n.toNat) H1)
def Zq(ta:TA):TI:=λO H R=>ta O H λvs H1=>a7U R vs H1
theorem UT{X:Cx}{tg:Expr}{a:Expr}{ta:TA}{p pos:Pos}(hg:Gl X "reversed")(hm:X.mg "reversed"=none)(ha:PA X [a] ta)(hs:autoParam (starEach [a] X.env=[(false,eval a X.env)]) r8_._auto_1)(fL:autoParam (starEach [] X.env=[]) r8_._auto_1): PI X tg (.Call (.Name "reversed" p) [a] [] pos) (Zq ta):=by
 intro pins s O H R I h;refine Call_ (lD I hg hm PyProof.Rows.boot_reversed (qA (aV (ha pos pins s O H _ I h) λus s1 ⟨vs,H1,I1,r1,q1⟩=>?_) (by rw[hs,fL]) (by rw[fL];rfl)));obtain⟨l,n,e,hl,n0,n1,q⟩:=q1;subst e;obtain⟨u1,rfl,m8⟩:=vals1 r1;cases(show u1=Value.ref l from m8);obtain⟨t,u,v,e⟩:∃t u v,s1.heap.get? l=some {cls:=.type "range",data:=.fields #[.int 0 t,.int n u,.int 1 v]}:=I1.aW l _ hl;obtain⟨m,rfl⟩:∃m:Nat,n=m:=⟨n.toNat,au⟩;refine a4W au e ?_;have hit:IsRangeIter (s1.heap.push (uc m)) s1.heap.objs.size ((0+((m:Int)-1)*1)+((0:Nat):Int)*(-1)) ((m:Int)-((0:Nat):Int)) (-1):=by
  have e1:(0+((m:Int)-1)*1)+((0:Nat):Int)*(-1)=0+((m:Int)-1)*1:=by lia
  have e2:(m:Int)-((0:Nat):Int)=m:=by lia
  rw[e1,e2];exact cK _ rfl
 refine G5 hit ?_;refine⟨s1.heap.objs.size,[s1.heap.objs.size],_,_,H1,Z,I1.kept (t':=s1.toks) λb o e=>bL _ e,R8 _ m,hit,λb hb=>?_,q⟩;have e:b=s1.heap.objs.size:=by simpa using hb
 subst e;exact I1.lK (bj _) (I1.aW.fresh (bj _))
theorem a2I{n:Nat}{g:TG}{tb:TS}{D:Ends}{O:St}{H:Hp}(Pv:Nat->St->Hp->Prop)(h0:Pv 0 O H) (hs:∀i O H,i<n->Pv i O H->g (.int ((n:Int)-1-i)) O H λσ2 H2=>tb {D with nx:=Pv (i+1),ct:=Pv (i+1),bk:=D.nx} σ2 H2)(hd:∀O H,Pv n O H->D.nx O H): ∃W:Nat->Nat->St->Hp->Prop,(∃m,W 0 m O H)/\∀i m O H,W i m O H->((vN n).stop i H/\D.nx O H)\/((vN n).go i H/\∃N:St->Hp->Prop,(∀σ' H',N σ' H'->∃m',m'<m/\W (i+1) m' σ' H')/\∀x H',(vN n).hV i H x H'->g x O H' λσ2 H2=>tb {D with nx:=N,ct:=N,bk:=D.nx} σ2 H2):=by
 refine⟨λi m O H=>m=n-i/\i<=n/\Pv i O H,⟨n,by simp,dS _,h0⟩,?_⟩;rintro i m O H ⟨rfl,hi,p⟩;by_cases bT:i<n
 ·refine .inr ⟨bT,Pv (i+1),λσ' H' q=>⟨n-(i+1),au,Z,bT,q⟩,λx H' hy=>?_⟩
  obtain⟨rfl,rfl⟩:=hy;exact hs i O _ bT p
 ·have e:i=n:=by lia
  subst e;exact .inl ⟨bj _,hd O H p⟩
theorem xE(K:aa){X:Cx}(hK:X.K=K){a:Expr}{ta:TE}(ha:PE X a ta)(he:autoParam (∀whole,isTrue a X.env whole=(do let v<-whole;standAt a.pos;holding [v] (truthy v))) f8_._auto_1): PT X a (λO H Q=>ta O H λx H'=>∃k,FT K x H' k/\Q k H'):=by subst hK;exact UC ha he
inductive a7L(K:aa)(x:V)(y:V)(H:Hp)(Q:VK):Prop |mk (a:_)(b:_)(xs:_)(ys:_)(h0:x= .ref a)(h1:y= .ref b)(h2:aP K H a xs)(h3:aP K H b ys)(h4:xs.length+ys.length<=sizeLine)(h5:∀c H',az H H'->aP K H' c (xs++ys)->Q (.ref c) H')
def Uu(K:aa):R2:=λx y H Q=>a7L K x y H Q
section
variable {X:Cx}
theorem OF(K:aa)(hK:X.K=K):cf X (binaryOp .Add) (Uu K):=by
 subst hK;intro pins s O H x y v u Q I rx ry h;obtain⟨a,b,xs,ys,rfl,rfl,ha,hb,hz,q⟩:=h;cases rx;cases ry;obtain⟨its,r1,p1,_⟩:=I.tuple ha;obtain⟨nP,r2,p2,_⟩:=I.tuple hb;by_cases e0:xs=[]
 ·subst e0
  have i0:its=[]:=r1.Dk.mpr rfl;subst i0;obtain⟨⟨cls,dd,data,sl⟩,ho,hc,n,hd⟩:=id p1;obtain⟨⟨Oz,sC,data2,nA⟩,lF,fm,n2,hd2⟩:=id p2;simp only at hc hd fm hd2;subst hc hd fm hd2;exact concat_meets ⟨_,ho,Z⟩ ⟨_,lF,Z⟩ noFill_tuple_add seq_tuple_add PZ Q3 (Q4 _ _) (tuple_addW0 a b _ nP.toArray n n2 dd sC sl nA (by simp)) ⟨ho,lF,⟨.ref b,H,I,Z,q _ _ (az.refl H) hb⟩⟩
 ·refine _H.a4S p1 p2 (λz=>e0 (r1.Dk.mp z)) (λz=>⟨.ref a,H,I,Z,?_⟩) (λz=>?_) (by rw[<-r1.length,<-r2.length];exact hz)
  ·have e1:ys=[]:=r2.Dk.mp z
   subst e1;exact q _ _ (az.refl H) (by rw[lV];exact ha)
  ·have hf:H s.heap.objs.size=none:=I.aW.fresh (bj _)
   have nw:Nw H (upd H s.heap.objs.size (.tup (xs++ys))) s.heap.objs.size (.tup (xs++ys)):=.of hf;refine⟨.ref s.heap.objs.size,_,I.laid (t':=s.toks) (o:=.tup (xs++ys)) (λb ob q=>bL _ q) (bj _) ?_,Z,q _ _ nw.same (aP.of nw.at')⟩;exact⟨by rw[fQ];exact hz,_,r1.append r2,IsTup.new _ _⟩
end
theorem a4B(xs:List V)(k:Nat):j7 xs none (some (k:Int))=xs.take k:=by unfold j7;rw[_H.BA,_H.BB];simp
theorem Oj(xs:List V):j7 xs none (some (-1))=xs.take (xs.length-1):=by
 unfold j7;have e:=_H.Fw (-1) xs.length xs.length;rw[_H.BA];have e2:_H.bQ xs.length xs.length (some (-1))=xs.length-1:=by simp at e;omega
 rw[e2];simp
section
variable {X:Cx}
open PyProof
end
end _L
namespace _L
open PySem PySem.Spec PyProof.Rows
section
variable {K:aa} {H H' H2:Hp}
end
def sO(lo:Int)(n:Nat):It:=⟨λi _=>i<n,λi H x H'=>H'=H/\x= .int (lo-i),λi _=>n<=i⟩
theorem Rg{P:af}{w:World}{K:aa}{tg:Expr}(it:Addr)(lo:Int)(n:Nat):Turn P w K tg (sO lo n) [it] it (λi h=>IsRangeIter h it (lo+(i:Nat)*(-1)) ((n:Int)-(i:Nat)) (-1)) where
 mem:=by simp
 obj:=λi h st b hb=>by
  have e:b=it:=by simpa using hb
  subst e;exact⟨_,st,λv z=>by have z':Data.fields _=Data.cell v:=z;cases z'⟩
 keep:=λi h h' st k=>k it (by simp) _ st
 item:=by
  intro X hP hw hK hc i pins s O H E I hf st hg;subst hP hw hK;obtain⟨f0,f1,f2,f3,f4,f5⟩:=hf it (by simp);have W:=Walks.range (prog:=X.prog) (w:=X.w) (I.ok.hd hc) it lo (-1) n;refine W.item i s _ _ hg st λv h' tk hv fi kk=>?_;obtain⟨t,rfl⟩:=hv;have I1:Inv X pins O H {s with heap:=h',toks:=tk}:=I.turned (λb o hb e=>kk b o (by simpa using hb) e) f0 f1 f3 f4 f5;refine⟨_,Z,rY (s:={s with heap:=h',toks:=tk}) (n:="range_iterator") fi rfl rfl ay ⟨.int (lo-i),H,I1,⟨t,?_⟩,⟨Z,Z⟩,fi,λb hb=>(hf b hb).1⟩⟩;have e:lo+(i:Int)*(-1)=lo-i:=by lia
  rw[e]
 done:=by intro X hP hw hK hc i pins s O H E I hf st hg;subst hP hw hK;obtain⟨f0,f1,f2,f3,f4,f5⟩:=hf it (by simp);exact Py (I.ok.hd hc) st (by have:n<=i:=hg;lia) λh' eb=>⟨Z,I.turned (t':=s.toks) (λb o hb e=>eb b o hb e) f0 f1 f3 f4 f5⟩
 self:=λ_ _ _ _ _ st h=>G5 st h
theorem Sy{a b:Int}(ha:-(2^62)<=a)(ha':a<2^62)(hb:-(2^62)<=b)(mG:b<2^62):Builtin.Range.small a b (-1)=true:=by unfold Builtin.Range.small Builtin.Range.rangeSize;rw[aU ay,show(-(-1):Int)=1 by decide,Int.ediv_one];simp only[Builtin.Range.rangeFitsLong,du,Bool.or_eq_true,wc,dr,show¬((-1:Int)>0) by decide,if_false];split<;>lia
theorem SJ(a b:Int):Builtin.Range.rangeSize a b (-1)=(((a-b).toNat:Nat):Int):=by unfold Builtin.Range.rangeSize;rw[aU ay,show(-(-1):Int)=1 by decide,Int.ediv_one];split<;>lia
inductive a7R(R:It->Hp->Prop)(vs:List V)(H1:Hp):Prop |mk (i:Int)(j:Int)(h0:vs=[.int i,.int j,.int (-1)])(h1:(-(2^62)<=i/\i<2^62/\-(2^62)<=j/\j<2^62))(h2:R (sO i (i-j).toNat) H1)
def Zm(ta:TA):TI:=λO H R=>ta O H λvs H1=>a7R R vs H1
section
variable {X:Cx} {tg:Expr}
theorem Ue{pins:List (Addr×Obj)}{O:St}{H:Hp}{s:ae}{R:It->Hp->Prop}{E:Value->ae->Prop}{lo hi:Int}{t u v:Tok}{tk:Nat}(I:Inv X pins O H s)(h1:-(2^62)<=lo)(h2:lo<2^62)(h3:-(2^62)<=hi)(h4:hi<2^62) (q:R (sO lo (lo-hi).toNat) H):wpAny (model X.prog X.w) X.A (pyIter (.ref s.heap.objs.size)) (zG X pins O tg R) E {s with heap:=s.heap.push {cls:=.type "range",data:=.fields #[.int lo t,.int hi u,.int (-1) v]},toks:=tk}:=by
 refine wpAny_pyIter_range (IsRange.new ..) (Sy h1 h2 h3 h4) ?_;have I1:Inv X pins O H {s with heap:=s.heap.push {cls:=.type "range",data:=.fields #[.int lo t,.int hi u,.int (-1) v]},toks:=tk}:=I.kept λb o e=>bL _ e;refine⟨(s.heap.push {cls:=.type "range",data:=.fields #[.int lo t,.int hi u,.int (-1) v]}).objs.size,[(s.heap.push {cls:=.type "range",data:=.fields #[.int lo t,.int hi u,.int (-1) v]}).objs.size],_,_,H,Z,I1.kept (t':=tk) λb o e=>bL _ e,Rg _ lo (lo-hi).toNat,?_,λb hb=>?_,q⟩
 ·have e1:lo+((0:Nat):Int)*(-1)=lo:=by simp
  have e2:(((lo-hi).toNat:Nat):Int)-((0:Nat):Int)=Builtin.Range.rangeSize lo hi (-1):=by rw[SJ];lia
  show IsRangeIter _ _ (lo+((0:Nat):Int)*(-1)) ((((lo-hi).toNat:Nat):Int)-((0:Nat):Int)) (-1);rw[e1,e2];exact cK _ rfl
 ·have e:b=(s.heap.push {cls:=.type "range",data:=.fields #[.int lo t,.int hi u,.int (-1) v]}).objs.size:=by simpa using hb
  subst e;exact I1.lK (bj _) (I1.aW.fresh (bj _))
theorem UU{a b c:Expr}{ta:TA}{p pos:Pos}(hg:Gl X "range")(hm:X.mg "range"=none)(ha:PA X [a,b,c] ta)(hs:autoParam (starEach [a,b,c] X.env=[(false,eval a X.env),(false,eval b X.env),(false,eval c X.env)]) r8_._auto_1)(fL:autoParam (starEach [b,c] X.env=[(false,eval b X.env),(false,eval c X.env)]) r8_._auto_1): PI X tg (.Call (.Name "range" p) [a,b,c] [] pos) (Zm ta):=by intro pins s O H R I h;refine Call_ (lD I hg hm boot_range (qA (aV (ha pos pins s O H _ I h) λus s1 ⟨vs,H1,I1,r1,q1⟩=>?_) (by rw[hs,fL]) (by rw[fL];rfl)));obtain⟨i,j,e,⟨q1,q2,q3,q4⟩,q⟩:=q1;subst e;cases r1 with |cons r rr=>cases rr with |cons r' rr=>cases rr with |cons UA rr=>cases rr;obtain⟨t,rfl⟩:=r;obtain⟨t',rfl⟩:=r';obtain⟨t'',rfl⟩:=UA;exact call_range_3 ay (Ue I1 q1 q2 q3 q4 q) (Or.inl (PyProof.noPylong_small au))
theorem a2K{lo:Int}{n:Nat}{g:TG}{tb:TS}{D:Ends}{O:St}{H:Hp}(Pv:Nat->St->Hp->Prop)(h0:Pv 0 O H) (hs:∀i O H,i<n->Pv i O H->g (.int (lo-i)) O H λσ2 H2=>tb {D with nx:=Pv (i+1),ct:=Pv (i+1),bk:=D.nx} σ2 H2)(hd:∀O H,Pv n O H->D.nx O H): ∃W:Nat->Nat->St->Hp->Prop,(∃m,W 0 m O H)/\∀i m O H,W i m O H->((sO lo n).stop i H/\D.nx O H)\/((sO lo n).go i H/\∃N:St->Hp->Prop,(∀σ' H',N σ' H'->∃m',m'<m/\W (i+1) m' σ' H')/\∀x H',(sO lo n).hV i H x H'->g x O H' λσ2 H2=>tb {D with nx:=N,ct:=N,bk:=D.nx} σ2 H2):=by
 refine⟨λi m O H=>m=n-i/\i<=n/\Pv i O H,⟨n,by simp,dS _,h0⟩,?_⟩;rintro i m O H ⟨rfl,hi,hp⟩;by_cases h:i<n
 ·refine .inr ⟨h,Pv (i+1),λσ' H' rQ=>⟨n-(i+1),au,Z,au,rQ⟩,?_⟩
  rintro x H' ⟨rfl,rfl⟩;exact hs i O H' h hp
 ·have e:i=n:=by lia
  subst e;exact .inl ⟨bj _,hd O H hp⟩
end
structure MA(K:aa)(C:Addr)(m qual:Str)(st:Stmt):Prop where ex:∃f fd,Meth K C m f/\iI K m qual st f fd
def cV(P:af)(w:World)(K:aa)(mg:bf)(ao:Heap)(C:Addr)(m:Str)(k:Nat)(sp:Sp):Prop:=∃f fd ps,f9 P w K mg ao g9 k f fd ps sp/\Meth K C m f/\Binds K fd ps []
structure CA(K:aa)(mg:bf)(C:Addr)(x qual:Str)(st:Stmt):Prop where
 Y6:mg x=some (.ref C)
 ex:∃f fd,Mk K C f/\iI K "__init__" qual st f fd
def sL(P:af)(w:World)(K:aa)(mg:bf)(ao:Heap)(C:Addr)(x:Str)(k:Nat)(sp:Sp):Prop:=∃f fd ps,f9 P w K mg ao g9 k f fd ps sp/\Mk K C f/\Binds K fd ps []/\mg x=some (.ref C)
section
variable {P:af}{w:World}{K:aa}{mg:bf}{ao:Heap}
theorem jo{C:Addr}{m qual:Str}{st:Stmt}{f:Addr}{oc:Value}{od an:Option Addr}{dX:Array (Option Value)}{kV doc pm aF ct:Value} (a:PySem.W.findIn K (.ref C) m=some (some (.ref f)))(i:PySem.W.isFn K (.ref f)=true) (l:K.lookup f=some ⟨oc,od,.func (PySem.W.fnOf m qual (j6 st) (eQ st) (aM st) .none kV doc pm an aF ct),dX⟩) (c:PySem.W.codeIn K aF qual=true)(k:PySem.W.keepIn K (.ref f)=true):MA K C m qual st:=⟨f,_,⟨a,i,k⟩,yO l c k⟩
theorem OH{h:Heap}{C:Addr}{x qual:Str}{st:Stmt}{f:Addr}{oc:Value}{od an:Option Addr}{dX:Array (Option Value)}{kV doc pm aF ct:Value}(X:K.In h)(G:h.Ns mainGlobals mg) (aC:PySem.W.nsIn K mainGlobals x=some (some (.ref C)))(mk:PySem.W.makesIn K C=true)(kc:PySem.W.keepIn K (.ref C)=true) (a:PySem.W.findIn K (.ref C) "__init__"=some (some (.ref f)))(i:PySem.W.isFn K (.ref f)=true) (l:K.lookup f=some ⟨oc,od,.func (PySem.W.fnOf "__init__" qual (j6 st) (eQ st) (aM st) .none kV doc pm an aF ct),dX⟩) (c:PySem.W.codeIn K aF qual=true)(k:PySem.W.keepIn K (.ref f)=true):CA K mg C x qual st:=⟨oA X G aC,f,_,⟨mk,a,i,kc⟩,yO l c k⟩
theorem MA.has{C:Addr}{m qual:Str}{st:Stmt}{N ps:List Str}{k:Nat}{sp:Sp}(F:MA K C m qual st)(S:bc N ps (aM st))(len:∀vs H Q E,sp vs H Q E->vs.length=ps.length) (hb:∀(kV doc pm:Value)(an:Option Addr)(aF ct:Value)(us:List Value),us.length=ps.length->bindArgs (PySem.W.fnOf m qual (j6 st) (eQ st) (aM st) .none kV doc pm an aF ct) ⟨us,[]⟩=pure (ps.zip us)) (fA:∀(f:Addr)(aF:Value)(A:ai)(outer:List Env)(s:ae)(H:Hp)(vs:List V)(Q:VK)(E:XK),cu k (A.deeper (envOfC qual (aM st) s.heap.objs.size f aF))->sp vs H Q E->∃t,eY (fB g9 P w K mg ao N qual (aM st) f aF A outer s H E).pH (eQ st) t/\t {nx:=λ_ H'=>Q .aY H',rt:=Q} (start N vs) H):cV P w K mg ao C m (k+1) sp:=by obtain⟨f,fd,hm,F⟩:=F.ex;exact⟨f,fd,ps,F.ok S len λaF A outer s H vs Q E=>fA f aF A outer s H vs Q E,hm,F.binds hb⟩
theorem CA.has{C:Addr}{x qual:Str}{st:Stmt}{N ps:List Str}{k:Nat}{sp:Sp}(F:CA K mg C x qual st)(S:bc N ps (aM st))(len:∀vs H Q E,sp vs H Q E->vs.length=ps.length) (hb:∀(kV doc pm:Value)(an:Option Addr)(aF ct:Value)(us:List Value),us.length=ps.length->bindArgs (PySem.W.fnOf "__init__" qual (j6 st) (eQ st) (aM st) .none kV doc pm an aF ct) ⟨us,[]⟩=pure (ps.zip us)) (fA:∀(f:Addr)(aF:Value)(A:ai)(outer:List Env)(s:ae)(H:Hp)(vs:List V)(Q:VK)(E:XK),cu k (A.deeper (envOfC qual (aM st) s.heap.objs.size f aF))->sp vs H Q E->∃t,eY (fB g9 P w K mg ao N qual (aM st) f aF A outer s H E).pH (eQ st) t/\t {nx:=λ_ H'=>Q .aY H',rt:=Q} (start N vs) H):sL P w K mg ao C x (k+1) sp:=by obtain⟨f,fd,hm,F'⟩:=F.ex;exact⟨f,fd,ps,F'.ok S len λaF A outer s H vs Q E=>fA f aF A outer s H vs Q E,hm,F'.binds hb,F.Y6⟩
end
section
variable {X:Cx}{k:Nat}{x m:Str}{C:Addr}{p pos apos:Pos}{o e:Expr}{es:List Expr}{t:TA}{ta:TE}{sp:Sp}
inductive Pm(C:Addr)(m:Str)(sp:Sp)(t:TA)(O:St)(Q:VK)(x:V)(H1:Hp):Prop |mk (a:_)(dx:_)(fs:_)(h0:x= .ref a)(h1:H1 a=some (.ins C dx fs))(h2:fs.lookup m=none)(h3:t O H1 λvs H2=>sp (x::vs) H2 Q E0)
def Hm(C:Addr)(m:Str)(sp:Sp)(ta:TE)(t:TA):TE:=λO H Q=>ta O H λx H1=>Pm C m sp t O Q x H1
theorem LK{O:St}{Q:VK}{x:V}{H1:Hp}:sP C m sp [] E0 t O Q x H1=Pm C m sp t O Q x H1:=by
 have e1:(λ(vs:List V) H1=>sp (x::(vs++[])) H1 Q E0)=λvs H1=>sp (x::vs) H1 Q E0:=by funext vs H1;rw[lV]
 refine propext ⟨λ⟨a,dx,fs,h0,h1,h2,h3⟩=>⟨a,dx,fs,h0,h1,h2,?_⟩,λ⟨a,dx,fs,h0,h1,h2,h3⟩=>⟨a,dx,fs,h0,h1,h2,?_⟩⟩
 ·rw[<-e1];exact h3
 ·rw[e1];exact h3
theorem qR{pl:Sem Bool}(F:cV X.prog X.w X.K X.mg X.ao C m k sp)(c:hU X.K C)(hr:cu k X.A)(he:PE X o ta)(ha:PA X (e::es) t) (fk:autoParam (starEach (e::es) X.env=(false,eval e X.env)::starEach es X.env) r8_._auto_1)(dR:autoParam ((backTo pos (starEach es X.env)).any (·.1)=false) r8_._auto_1) (ht:eval (.Call (.Attribute o m apos) (e::es) [] pos) X.env=(do
 let ov<-eval o X.env
 standAt apos.atName
 let(f,first)<-holding [ov] (getMethod ov m pl)
 callWith pos f first (backTo pos (starEach (e::es) X.env)) (backToKw pos (keywordEach [] X.env))):=by rfl): PE X (.Call (.Attribute o m apos) (e::es) [] pos) (Hm C m sp ta t):=by
 obtain⟨f,fd,ps,F,hm,hb⟩:=F;have h:=KI (pos:=pos) (apos:=apos) (pl:=pl) he c hm F hr hb .nil ur ha fk dR ht;intro pins s O H Q I hq;refine h pins s O H Q I ?_;show ta O H λx H1=>sP C m sp [] E0 t O Q x H1;simp only[LK];exact hq
theorem iT{pl:Sem Bool}(F:cV X.prog X.w X.K X.mg X.ao C m k sp)(c:hU X.K C)(hr:cu k X.A)(he:PE X o ta) (ht:eval (.Call (.Attribute o m apos) [] [] pos) X.env=(do
 let ov<-eval o X.env
 standAt apos.atName
 let(f,first)<-holding [ov] (getMethod ov m pl)
 callWith pos f first (backTo pos (starEach [] X.env)) (backToKw pos (keywordEach [] X.env))):=by rfl): PE X (.Call (.Attribute o m apos) [] [] pos) (Hm C m sp ta x6):=by
 obtain⟨f,fd,ps,F,hm,hb⟩:=F;have h:=V4 (pos:=pos) (apos:=apos) (pl:=pl) he c hm F hr hb .nil ur ht;intro pins s O H Q I hq;refine h pins s O H Q I ?_;show ta O H λx H1=>sP C m sp [] E0 x6 O Q x H1;simp only[LK];exact hq
def RR(C:Addr)(sp:Sp)(t:TA):TE:=λO H Q=>t O H λvs H1=>∀x dx,H1 x=none->H1 dx=none->dx≠x->sp (.ref x::vs) (upd (upd H1 dx (.own x)) x (.ins C dx [])) (λv H2=>v= .aY/\Q (.ref x) H2) E0
theorem KH(F:sL X.prog X.w X.K X.mg X.ao C x k sp)(hr:cu (k+1) X.A)(hg:Gl X x)(ha:PA X (e::es) t)(fz:autoParam ((x==("__debug__":Str))=false) q8_._auto_1) (he:autoParam (starEach (e::es) X.env=(false,eval e X.env)::starEach es X.env) r8_._auto_1)(dR:autoParam ((backTo pos (starEach es X.env)).any (·.1)=false) r8_._auto_1): PE X (.Call (.Name x p) (e::es) [] pos) (RR C sp t):=by
 obtain⟨f,fd,ps,F,M,hb,hm⟩:=F;have h:=V5 (pos:=pos) (p:=p) M F hr hg hm hb .nil ur ha fz he dR;intro pins s O H Q I hq;refine h pins s O H Q I ?_;have e1:(λ(vs:List V) H1=>∀x dx,H1 x=none->H1 dx=none->dx≠x->sp (.ref x::(vs++[])) (upd (upd H1 dx (.own x)) x (.ins C dx [])) (λv H2=>v= .aY/\Q (.ref x) H2) E0) =λvs H1=>∀x dx,H1 x=none->H1 dx=none->dx≠x->sp (.ref x::vs) (upd (upd H1 dx (.own x)) x (.ins C dx [])) (λv H2=>v= .aY/\Q (.ref x) H2) E0:=by funext vs H1;rw[lV]
 show t O H λvs H1=>∀x dx,H1 x=none->H1 dx=none->dx≠x->sp (.ref x::(vs++[])) (upd (upd H1 dx (.own x)) x (.ins C dx [])) (λv H2=>v= .aY/\Q (.ref x) H2) E0;rw[e1];exact hq
inductive IAt(C:Addr)(x:Str)(Q:VK)(v:V)(H1:Hp):Prop |mk (a dx:Addr)(fs:List (Str×V))(u:V)(h0:v= .ref a)(h1:H1 a=some (.ins C dx fs))(h2:fs.lookup x=some u)(h3:Q u H1)
theorem dQ(T:hU X.K C)(hn:gu X.K C x)(he:PE X e ta)(hb:autoParam (attributeBase e x X.env (eval e X.env)=eval e X.env) r8_._auto_1): PE X (.Attribute e x pos) (λO H Q=>ta O H λv H1=>IAt C x Q v H1):=by intro pins s O H Q I h;refine OV hb (aV (he pins s O H _ I h) λu s1 ⟨v,H1,I1,rx,a,dx,fs,w,ex,ea,l,q⟩=>?_);subst ex;obtain rfl:u=Value.ref a:=rx;exact a2e I1 ea T hn l λu' s2 I2 ru=>⟨w,H1,I2,ru,q⟩
inductive a80(C:Addr)(x:Str)(D:Ends)(O:St)(y v:V)(H2:Hp):Prop |mk (a dx:Addr)(fs:List (Str×V))(h0:v= .ref a)(h1:H2 a=some (.ins C dx fs))(h2:fs.length<1000)(h3:D.nx O (upd H2 a (.ins C dx (gK x y fs))))
theorem ir{value:Expr}{tv:TE}{pos':Pos}(T:hU X.K C)(hn:gu X.K C x)(ha:PE X o ta)(hv:PE X value tv)(hs:autoParam (swapsWith value (some (.Attribute o x pos')) pos.line X.env=pure false) r8_._auto_1): PS X (.Assign [.Attribute o x pos'] value pos) (λD O H=>tv O H λy H1=>ta O H1 λv H2=>a80 C x D O y v H2):=by intro pins s O H D I h;refine plainObj_wpAny_Assign_Attribute (aV (hv pins s O H _ I h) λu s1 ⟨y,H1,I1,ry,q⟩=>aV (ha pins s1 O H1 _ I1 q) λov s2 ⟨v,H2,I2,rx,a,dx,fs,ex,ea,l,q2⟩=>?_) hs;subst ex;obtain rfl:ov=Value.ref a:=rx;exact SQ I2 ea T hn l ry λs3 I3=>⟨O,_,I3,q2⟩
end
def cB(S:List Addr)(H H':Hp):Prop:=∀b o,H b=some o->b∉S->H' b=some o
theorem cB.refl(S:List Addr)(H:Hp):cB S H H:=λ_ _ e _=>e
theorem cB.of{S:List Addr}{H H':Hp}(s:az H H'):cB S H H':=λb o e _=>s b o e
theorem cB.trans{S:List Addr}{H H1 H2:Hp}(a:cB S H H1)(b:cB S H1 H2):cB S H H2:=λc o e n=>b c o (a c o e n) n
def G3:HO->Prop | .lst _=>True | .ins _ _ _=>True | .dK _=>True | .m3 _=>True |_=>False
def eK(H H':Hp):Prop:=∀b o,¬G3 o->H b=some o->H' b=some o
section
variable {K:aa} {H H' H2:Hp}
theorem eK.trans(a:eK H H')(b:eK H' H2):eK H H2:=λc o n e=>b c o n (a c o n e)
theorem gG.v(s:gG H H'):eK H H':=λb o n e=>s b o (λxs z=>n (by rw[z];trivial)) e
theorem az.v(s:az H H'):eK H H':=λb o _ e=>s b o e
theorem cB.v{S:List Addr}(s:cB S H H')(h:∀x∈S,∀o,H x=some o->G3 o):eK H H':=λb o n e=>s b o e λz=>n (h b z o e)
theorem eK.upd{a:Addr}{o o':HO}(h:H a=some o)(m:G3 o):eK H (upd H a o'):=λb p n e=>by
 have hb:b≠a:=λz=>by rw[z,h]at e;cases e;exact n m
 rw[bh hb];exact e
theorem aP.v{a:Addr}{xs:List V}(s:eK H H')(h:aP K H a xs):aP K H' a xs:=h.imp (λr=>r.imp (s _ _ (λz=>z)) λ⟨o,e⟩=>⟨o,s _ _ (λz=>z) e⟩) id
mutual
theorem RD.v(s:eK H H'):∀{x:V}(d:ah),eX d=true->RD K H x d->RD K H' x d |x,.none,_,h=>by simpa[RD]using h |x,.bool b,_,h=>by simpa[RD]using h |x,.int i,_,h=>by simpa[RD]using h |x,.str y,_,h=>by simpa[RD]using h |x,.list ds,n,h=>by simp[eX]at n |x,.tuple ds,n,h=>by rw[RD]at h⊢;obtain⟨a,xs,e,h1,h2⟩:=h;exact⟨a,xs,e,h1.v s,aJ.v s ds (by simpa[eX]using n) h2⟩ |x,.dict _,_,h=>by simp[RD]at h
theorem aJ.v (s:eK H H'):∀{xs:List V}(ds:List ah),cy ds=true->aJ K H xs ds->aJ K H' xs ds |xs,[],_,h=>by simpa[aJ]using h |xs,d::ds,n,h=>by rw[aJ]at h⊢;rw[cy,du]at n;obtain⟨y,ys,e,h1,h2⟩:=h;exact⟨y,ys,e,RD.v s d n.1 h1,aJ.v s ds n.2 h2⟩
end
end
section
variable {X:Cx}
end
theorem EO{K:aa}{mg:bf}{x z:Str}{t:Tok}{h:Heap}(X:K.In h)(G:h.Ns mainGlobals mg)(a:PySem.W.nsIn K mainGlobals x=some (some (.str z t))):GV mg x (.str z):=⟨_,oA X G a,t,Z⟩
end _L
set_option exponentiation.threshold 6000
namespace _L
open PySem PySem.Spec PyProof.Rows
section
variable {X:Cx}
theorem gY:dI X (.type "str") (λxs H Q=>(∃i,xs=[.int i]/\i.natAbs.log2<1920/\Q (.str (toString i)) H)\/∃z,xs=[.str z]/\Q (.str z) H):=by
 intro pins s O H xs us Q I r h;rcases h with⟨i,rfl,hz,q⟩|⟨z,rfl,q⟩
 ·obtain⟨u,rfl,t,rfl⟩:=vals1 r
  exact PySem.P.str_of_int hz ⟨.str _,H,I.tok _,⟨_,Z⟩,q⟩
 ·obtain⟨u,rfl,t,rfl⟩:=vals1 r
  exact PySem.P.str_of_str ⟨.str _,H,I,⟨_,Z⟩,q⟩
def Us(x:V)(H:Hp)(Q:VK):Prop:=(∃i,x= .int i/\i.natAbs.log2<1920/\Q (.str (toString i)) H)\/∃z,x= .str z/\z.length<=sizeLine/\Q (.str z) H
theorem la{e:Expr}{te:TE}{pos:Pos}(h:PE X e te):PE X (.FormattedValue e (-1) none pos) (λO H Q=>te O H λx H'=>Us x H' Q):=by
 intro pins s O H Q I ht;refine wpAny_FormattedValue_plain (aV (h pins s O H _ I ht) λv s1 ⟨x,H1,I1,r1,q1⟩=>?_);rcases q1 with⟨i,rfl,hz,q⟩|⟨z,rfl,hz,q⟩
 ·obtain⟨t,rfl⟩:=r1
  exact wpAny_formatField_int hz ⟨.str _,H1,I1.tok _,⟨_,Z⟩,q⟩
 ·obtain⟨t,rfl⟩:=r1
  exact wpAny_formatField_str ⟨.str _,H1,I1,⟨_,Z⟩,q⟩ ⟨.str _,H1,I1.tok _,⟨_,Z⟩,q⟩ hz
abbrev TJ:=Str->St->Hp->VK->Prop
def PJ(X:Cx)(es:List Expr)(t:TJ):Prop:=∀(pins:List (Addr×Obj))(s:ae)(O:St)(H:Hp)(Q:VK)(acc:Str),Inv X pins O H s->t acc O H Q->Joins (model X.prog X.w) X.A X.xe (evalEach es X.env) acc (λout s₁=>out.length<=sizeLine/\EP X pins O Q (.str out s₁.toks) {s₁ with toks:=s₁.toks+1}) s
theorem uj:PJ X [] (λacc O H Q=>acc.length<=sizeLine/\Q (.str acc) H):=by intro pins s O H Q acc I h;exact⟨h.1,.str _,H,I.tok _,⟨_,Z⟩,h.2⟩
theorem gL{e:Expr}{es:List Expr}{te:TE}{tj:TJ}(h:PE X e te)(hj:PJ X es tj)(he:autoParam (evalEach (e::es) X.env=eval e X.env::evalEach es X.env) r8_._auto_1): PJ X (e::es) (λacc O H Q=>te O H λx H'=>∃y,x= .str y/\(acc++y).length<=sizeLine/\tj (acc++y) O H' Q):=by intro pins s O H Q acc I ht;rw[he];refine aV (h pins s O H _ I ht) λv s1 ⟨x,H1,I1,r1,q1⟩=>?_;obtain⟨y,rfl,hl,q⟩:=q1;obtain⟨t,rfl⟩:=r1;exact⟨y,t,Z,hl,hj pins s1 O H1 Q _ I1 q⟩
theorem uo{e1 e2:Expr}{es:List Expr}{t:TJ}{pos:Pos}(h:PJ X (e1::e2::es) t):PE X (.JoinedStr (e1::e2::es) pos) (λO H Q=>t Str.empty O H Q):=λpins s O H Q I ht=>wpAny_JoinedStr (h pins s O H Q _ I ht)
theorem ye(sep:Str){B:Nat}:∀(zs:List Str),(∀z∈zs,z.length<=B)->(Txt.join sep zs).length<=zs.length*(B+sep.length)
 |[],_=>dS _ |a::r,h=>by
  show(Builtin.Str.glued sep (a::r)).length<=_;rw[oy,len_join_cons];have:=sumLen_le_of_bound id B (a::r) h;rw[List.map_id]at this;rw[gb]at this⊢;have e1:(r.length+1)*(B+sep.length)=B*(r.length+1)+(r.length*sep.length+sep.length):=by rw[Nat.mul_add,Nat.mul_comm (r.length+1) B,Nat.add_mul r.length 1 sep.length,Nat.one_mul]
  lia
inductive a7v(K:aa)(x:V)(vs:List V)(H:Hp)(Q:VK):Prop |mk (sep:Str)(l:Addr)(zs:List Str)(h0:x= .str sep)(h1:vs=[.ref l])(h2:aG K H l (zs.map V.str))(h3:(∀z∈zs,z.length<=4000))(h4:sep.length<=8)(h5:zs.length<=1000)(h6:Q (.str (Txt.join sep zs)) H)
def Kq(K:aa):V->List V->Hp->VK->Prop:=λx vs H Q=>a7v K x vs H Q
theorem Y1(K:aa)(hK:X.K=K):oq X "str.join" (Kq K):=by subst hK;intro pins s O H x vs v us Q I rx rv h;obtain⟨sep,l,zs,rfl,rfl,hl,hz,hs,hn,q⟩:=h;obtain⟨t,rfl⟩:=rx;obtain⟨u,rfl,ru⟩:=vals1 rv;cases(show u=Value.ref l from ru);obtain⟨its,r,pl,_⟩:=I.list hl;have E1:=sumLen_le_of_bound id 4000 zs hz;rw[List.map_id]at E1;have h1:zs.length*sep.length<=1000*8:=zY hn hs;refine join_list (ys:=zs) pl.isList (StrsAre.of_carried (Fx r)) au λt' k=>?_;exact⟨.str _,H,I.tok _,⟨_,Z⟩,q⟩
theorem m9(K:aa)(h:X.K=K){o e:Expr}{to:TE}{t:TA}{apos bF:Pos}(ho:PE X o to)(ha:PA X [e] t) (fX:autoParam (attributeBase o "join" X.env (eval o X.env)=eval o X.env) r8_._auto_1) (fW:autoParam (((backTo bF (starEach [e] X.env)).all (λx=>!x.1)&&(backToKw bF (keywordEach [] X.env)).all (λx=>x.1.isSome) &&decide ([e].length+([]:List Keyword).length+(if([]:List Keyword).isEmpty then 0 else 1)<30))=true) r8_._auto_1) (fV:autoParam ((apos.endLine==bF.line)=true) r8_._auto_1)(hs:autoParam (starEach [e] X.env=(false,eval e X.env)::starEach [] X.env) r8_._auto_1)(fU:autoParam ((backTo bF (starEach [] X.env)).any (·.1)=false) r8_._auto_1): PE X (.Call (.Attribute o "join" apos) [e] [] bF) (m4 K "str" (Kq K) to t):=by subst h;exact nE wo PySem.F.slot_str_join PySem.F.type_str_join (Y1 X.K rfl) ho ha fX fW fV hs fU
theorem GX{i:Int}(h:i.natAbs<10^40):(Str.ofString (toString i)).length<=41:=by rw[PN];exact PF (k:=40) ay h
theorem kx{i:Int}(h:i.natAbs<10^40):i.natAbs.log2<1920:=by
 by_cases h0:i.natAbs=0
 ·rw[h0];decide
 ·exact(Nat.log2_lt h0).mpr (lU h ay)
theorem OG:∀(l:List (Str×Tok)),Vals ((l.map (·.1)).map V.str) (strValues l) |[]=>.nil |(z,t)::l=>.cons ⟨t,Z⟩ (OG l)
theorem split_len(x y:Str):(Txt.split x y).length<=x.length+2:=by
 unfold Txt.split;split
 ·simp
 ·split
  ·simp
  ·have e1:=StrLaws.occ_length_le x y 0 x.length (x.length+1)
   rw[length_partsBetween];omega
inductive a7o(x:V)(vs:List V)(H:Hp)(Q:VK):Prop |mk (z y:Str)(h0:x= .str z)(h1:vs=[.str y])(h2:(y.length==0)=false)(h3:z.length+2<=sizeLine)(h4:∀p H',Nw H H' p (.lst ((Txt.split z y).map V.str))->Q (.ref p) H')
def Ko:V->List V->Hp->VK->Prop:=λx vs H Q=>a7o x vs H Q
theorem XZ:oq X "str.split" Ko:=by
 intro pins s O H x0 vs v us Q I rx rv h;obtain⟨x,y,rfl,rfl,hy,hz,q⟩:=h;obtain⟨t,rfl⟩:=rx;obtain⟨u0,rfl,u,rfl⟩:=vals1 rv;have key:∀(l:List (Str×Tok))(k:Nat),l.map (·.1)=Txt.split x y->EP X pins O Q (.ref s.heap.objs.size) {s with toks:=k,heap:=s.heap.push {cls:=.type "list",data:=.seq (strValues l).toArray}}:=λl k e=>by have nw:Nw H (upd H s.heap.objs.size (.lst ((Txt.split x y).map V.str))) s.heap.objs.size (.lst ((Txt.split x y).map V.str)):=.of (I.aW.fresh (bj _));refine⟨.ref s.heap.objs.size,_,I.laid (t':=k) (o:=.lst ((Txt.split x y).map V.str)) (λb ob q=>bL _ q) (bj _) ?_,Z,q _ _ nw⟩;have:=split_len x y;exact⟨by rw[bA];omega,_,0,by rw[<-e];exact OG l,cK _ Z⟩
 cases h1:(decide (x.length<y.length)||decide (Builtin.Str.strKind x<Builtin.Str.strKind y))
 ·cases hf:(Builtin.Str.occurrences x y 0 x.length (x.length+1)).isEmpty
  ·have e1:=StrLaws.occ_length_le x y 0 x.length (x.length+1)
   refine sW F.slot_str_split (vY _ _ _) F.entry_str_split (F.args_str_split_2 _ _) (meets_str_split_sep x y t u h1 hy hf bo (by rw[length_partsBetween];omega)) ?_;show wants _ _ _ {s with toks:=_,heap:=s.heap.push {cls:=.type "list",data:=.seq (strsFrom s.toks (Builtin.Str.partsBetween x (Builtin.Str.occurrences x y 0 x.length (x.length+1)) y.length)).toArray}};rw[strsFrom_eq];exact key (numbered s.toks _) _ ((numbered_texts _ _).trans ((aU (PD h1)).trans (aU (PD hf))).symm)
  ·exact sW F.slot_str_split (vY _ _ _) F.entry_str_split (F.args_str_split_2 _ _) (meets_str_split_not_found x y t u h1 hy hf) (key [(x,t)] s.toks ((aU (PD h1)).trans (aR hf)).symm)
 ·exact sW F.slot_str_split (vY _ _ _) F.entry_str_split (F.args_str_split_2 _ _) (meets_str_split_cannot_occur x y t u h1) (key [(x,t)] s.toks (aR h1).symm)
theorem CP(K:aa)(h:X.K=K){o e:Expr}{to:TE}{t:TA}{apos bF:Pos}(ho:PE X o to)(ha:PA X [e] t) (fX:autoParam (attributeBase o "split" X.env (eval o X.env)=eval o X.env) r8_._auto_1) (fW:autoParam (((backTo bF (starEach [e] X.env)).all (λx=>!x.1)&&(backToKw bF (keywordEach [] X.env)).all (λx=>x.1.isSome) &&decide ([e].length+([]:List Keyword).length+(if([]:List Keyword).isEmpty then 0 else 1)<30))=true) r8_._auto_1) (fV:autoParam ((apos.endLine==bF.line)=true) r8_._auto_1)(hs:autoParam (starEach [e] X.env=(false,eval e X.env)::starEach [] X.env) r8_._auto_1)(fU:autoParam ((backTo bF (starEach [] X.env)).any (·.1)=false) r8_._auto_1): PE X (.Call (.Attribute o "split" apos) [e] [] bF) (m4 K "str" Ko to t):=by subst h;exact nE wo PySem.F.slot_str_split PySem.F.type_str_split XZ ho ha fX fW fV hs fU
inductive a7t(x:V)(vs:List V)(H:Hp)(Q:VK):Prop |mk (z y:Str)(h0:x= .str z)(h1:vs=[.str y])(h3:z.length<=sizeLine)(h4:Q (.str (Txt.removeprefix z y)) H)
def Kp:V->List V->Hp->VK->Prop:=λx vs H Q=>a7t x vs H Q
theorem Y0:oq X "str.removeprefix" Kp:=by intro pins s O H x0 vs v us Q I rx rv h;obtain⟨x,y,rfl,rfl,hz,q⟩:=h;obtain⟨t,rfl⟩:=rx;obtain⟨u0,rfl,u,rfl⟩:=vals1 rv;exact SC.removeprefix (λt' k=>⟨.str _,H,I.kept (t':=k) (λ_ _ e=>e),⟨_,Z⟩,q⟩) (hsz:=hz)
theorem Vf(K:aa)(h:X.K=K){o e:Expr}{to:TE}{t:TA}{apos bF:Pos}(ho:PE X o to)(ha:PA X [e] t) (fX:autoParam (attributeBase o "removeprefix" X.env (eval o X.env)=eval o X.env) r8_._auto_1) (fW:autoParam (((backTo bF (starEach [e] X.env)).all (λx=>!x.1)&&(backToKw bF (keywordEach [] X.env)).all (λx=>x.1.isSome) &&decide ([e].length+([]:List Keyword).length+(if([]:List Keyword).isEmpty then 0 else 1)<30))=true) r8_._auto_1) (fV:autoParam ((apos.endLine==bF.line)=true) r8_._auto_1)(hs:autoParam (starEach [e] X.env=(false,eval e X.env)::starEach [] X.env) r8_._auto_1)(fU:autoParam ((backTo bF (starEach [] X.env)).any (·.1)=false) r8_._auto_1): PE X (.Call (.Attribute o "removeprefix" apos) [e] [] bF) (m4 K "str" Kp to t):=by subst h;exact nE wo PySem.F.slot_str_removeprefix PySem.F.type_str_removeprefix Y0 ho ha fX fW fV hs fU
inductive a7E(xs:List V)(H:Hp)(Q:VK):Prop |mk (z:Str)(n:Int)(h0:xs=[.str z])(h1:PySem.intText? z=some n)(h2:z.length<=640)(h3:Q (.int n) H)
theorem a54:dI X (.type "int") (λxs H Q=>a7E xs H Q):=by intro pins s O H xs us Q I r h;obtain⟨z,n,rfl,hn,hl,q⟩:=h;obtain⟨u,rfl,t,rfl⟩:=vals1 r;exact PySem.W.KIN.call_text hn hl ⟨.int _,H,I.tok _,⟨_,Z⟩,q⟩
inductive a7Y(K:aa)(t1 t2:TG)(v:V)(O:St)(H:Hp)(Q:St->Hp->Prop):Prop |mk (a:Addr)(x:V)(xs:List V)(h0:v= .ref a)(h1:aG K H a (x::xs))(h2:xs.length<=16000)(h3:∀p H',Nw H H' p (.lst xs)->t1 x O H' λσ1 H1=>t2 (.ref p) σ1 H1 Q)
def a2C(K:aa)(t1 t2:TG):TG:=λv O H Q=>a7Y K t1 t2 v O H Q
theorem CN(K:aa)(hK:X.K=K){e1 e2:Expr}{k:Nat}{t1 t2:TG}{sp pos:Pos}(hc:X.calm=true)(h1:PG X e1 t1)(h2:PG X e2 t2) (hs:autoParam (assignEach [e1,.Starred e2 sp] X.env=[(false,assign e1 X.env),(true,assign e2 X.env)]) r8_._auto_1):PG X (.Tuple [e1,.Starred e2 sp] k pos) (a2C K t1 t2):=by subst hK;intro pins s O H v u Q I r hw;obtain⟨a,x,xs,e,hq,hl,hw⟩:=hw;subst e;cases r;obtain⟨its,rv,ht,hz⟩:=I.list hq;have hh:X.A.handled=none:=I.ok.hd hc;have uX:=ht.isList;cases rv with |cons r1 rr=>
 rename_i ux fR;have hlen:=rr.length;have bT:a≠s.heap.objs.size:=by obtain⟨o,ho,_⟩:=uX;exact dA (bN ho)
 rw[assign_Tuple];refine aA (qw ?_);unfold unpack;rw[hs];refine aA (gH ?_);show wpAny _ _ (unpackItems (.ref a) 2 (some 1)) _ _ _;unfold unpackItems;refine aA ?_;unfold notIterableAtAll;refine aA (zK uX.typeIs slot_list_iter.lookup ?_);refine bw ?_;simp only[Bool.false_eq_true,if_false];refine aA (gH (vU uX ?_));have sz:(ux::fR).toArray.size=xs.length+1:=by rw[dB,gb,hlen]
 refine aA (gH (PySem.W.kun_draw bT 1 0 _ _ ⟨_,cK _ Z,Z,Z⟩ (uX.push _) bo λh₁ Eh Mr=>?_));have Mz:h₁.IsList a (ux::fR).toArray:=(uX.push _).extBut Mr.extBut bT;rw[Nat.zero_add]at Eh;have a0g:=Eh;obtain⟨oi,iC,_⟩:=a0g;have a03:=Mz;obtain⟨ol,mD,_⟩:=a03;rw[aU (by simp)];refine aA (gH (PySem.W.kun_collect (s:={s with heap:=h₁}) (T:="list_iterator") (.inr (.inr (.inl rfl))) (Walks.list (A:=X.A.in1) hh s.heap.objs.size a bT (ux::fR).toArray) (λj u st=>st.1.typeIs) (k:=1) bo ⟨Eh,Mz⟩ (bN iC) (bN mD) (λh₂ tk hk=>?_) (by rw[sV];omega)));have ea:(ux::fR).toArray.toList.drop 1=fR:=by simp
 rw[ea];show wpAny _ _ (if fR.length<2-1-1 then _ else _) _ _ _;rw[aU bo];show wpAny _ _ (newList (fR.take (fR.length-(2-1-1)))>>=λd=>pure ((ux::fR).toArray.toList.take 1++[d]++fR.drop (fR.length-(2-1-1)))) _ _ _;have eb:fR.take (fR.length-(2-1-1))=fR:=A1 bo;have ec:fR.drop (fR.length-(2-1-1))=[]:=List.drop_eq_nil_of_le bo;rw[eb,ec];have he:Heap.ExtBut s.heap.objs.size s.heap h₂:=λb o hb e=>hk b o hb (Mr.extBut b o hb (bL _ e));refine aA (wpAny_newList (s:={s with heap:=h₂,toks:=tk}) (bw ?_) ?_)
 ·have I2:Inv X pins O H {s with heap:=h₂,toks:=tk}:=I.kept (t':=tk) λb o e=>he b o (dA (bN e)) e
  have nw:Nw H (upd H h₂.objs.size (.lst xs)) h₂.objs.size (.lst xs):=.of (I2.aW.fresh (bj _));have I3:Inv X pins O (upd H h₂.objs.size (.lst xs)) {s with heap:=h₂.push {cls:=.type "list",data:=.seq fR.toArray},toks:=tk}:=I2.laid (t':=tk) (o:=.lst xs) (λb ob q=>bL _ q) (bj _) ⟨by rw[gb]at hz;omega,fR,0,rr,cK _ rfl⟩;show wpAny _ _ (assignInOrder (assign e1 X.env::[assign e2 X.env]) (ux::[Value.ref h₂.objs.size])) _ _ _;refine zS (aV (h1 pins _ O _ _ _ _ I3 r1 (hw _ _ nw)) λ_ s1 ⟨σ1,H1,I1,q1⟩=>?_);refine zS (aV (h2 pins s1 σ1 H1 (.ref h₂.objs.size) _ _ I1 Z q1) λ_ s2 ⟨σ2,H2,I2,q2⟩=>?_);exact assignInOrder_nil ⟨σ2,H2,I2,q2⟩
 ·rw[<-hlen,sV];omega
end
def sM(z:Str):It:=⟨λi _=>i<z.cps.size,λi H x H'=>H'=H/\∃c,z.cps.toList[i]? =some c/\x= .str ⟨#[c]⟩,λi _=>z.cps.size<=i⟩
theorem R7{P:af}{w:World}{K:aa}{tg:Expr}(it:Addr)(z:Str)(t:Tok)(ty:String)(DZ:["enumerate","zip","dict_itemiterator","dict_reverseitemiterator","odict_iterator","itertools.zip_longest","itertools.pairwise"].contains ty=false) (W:∀A':ai,A'.handled=none->Walks P w A' it [it] [it] z.cps.size (SignAt z) (λi h=>h.IsStrIter it ty z t i)) (self:∀(A:ai)(i:Nat)(s:ae)(Q:Value->ae->Prop)(E:Value->ae->Prop),s.heap.IsStrIter it ty z t i->Q (.ref it) s->wpAny (model P w) A (pyIter (.ref it)) Q E s): Turn P w K tg (sM z) [it] it (λi h=>h.IsStrIter it ty z t i/\i<=z.cps.size) where
 mem:=by simp
 obj:=λi h st b hb=>by
  have e:b=it:=by simpa using hb
  subst e;obtain⟨⟨o,e,c,d⟩,_⟩:=st;exact⟨o,e,λv z=>by rw[d]at z;cases z⟩
 keep:=λi h h' st k=>⟨let⟨o,e,r⟩:=st.1;⟨o,k it (by simp) o e,r⟩,st.2⟩
 item:=by intro X hP hw hK hc i pins s O H E I hf st hg;subst hP hw hK;obtain⟨f0,f1,f2,f3,f4,f5⟩:=hf it (by simp);refine(W X.A (I.ok.hd hc)).item i s _ _ hg st.1 λv h' tk hv fi kk=>?_;obtain⟨c,u,ec,rfl⟩:=hv;have I1:Inv X pins O H {s with heap:=h',toks:=tk}:=I.turned (λb o hb e=>kk b o (by simpa using hb) e) f0 f1 f3 f4 f5;obtain⟨o,e,cl,d⟩:=id fi;exact⟨_,Z,rY (s:={s with heap:=h',toks:=tk}) e cl d DZ ⟨.str ⟨#[c]⟩,H,I1,⟨u,Z⟩,⟨Z,c,by simpa using ec,Z⟩,⟨fi,hg⟩,λb hb=>(hf b hb).1⟩⟩
 done:=by intro X hP hw hK hc i pins s O H E I hf st hg;subst hP hw hK;obtain⟨f0,f1,f2,f3,f4,f5⟩:=hf it (by simp);obtain⟨st,hle⟩:=st;have ei:i=z.cps.size:=Nat.le_antisymm hle hg;subst ei;exact(W X.A (I.ok.hd hc)).done s _ _ st λh' tk eb=>⟨Z,I.turned (λb o hb e=>eb b o (by simpa using hb) e) f0 f1 f3 f4 f5⟩
 self:=λA i s Q E st h=>self A i s Q E st.1 h
section
variable {X:Cx} {tg:Expr}
inductive a7Q(R:It->Hp->Prop)(x:V)(H1:Hp):Prop |mk (z:_)(h0:x= .str z)(h1:R (sM z) H1)
def Zl(tl:TE):TI:=λO H R=>tl O H λx H1=>a7Q R x H1
theorem CM{l:Expr}{tl:TE}(hl:PE X l tl):PI X tg l (Zl tl):=by
 intro pins s O H R I h;refine aV (hl pins s O H _ I h) λv s1 ⟨x,H1,I1,r1,q1⟩=>?_;obtain⟨z,e,q⟩:=q1;subst e;obtain⟨t,rfl⟩:=r1;have fin:∀ty,["enumerate","zip","dict_itemiterator","dict_reverseitemiterator","odict_iterator","itertools.zip_longest","itertools.pairwise"].contains ty=false->(∀A':ai,A'.handled=none->Walks X.prog X.w A' s1.heap.objs.size [s1.heap.objs.size] [s1.heap.objs.size] z.cps.size (SignAt z) (λi h=>h.IsStrIter s1.heap.objs.size ty z t i))->(∀(A:ai)(i:Nat)(s:ae)(Q:Value->ae->Prop)(E:Value->ae->Prop),s.heap.IsStrIter s1.heap.objs.size ty z t i->Q (.ref s1.heap.objs.size) s->wpAny (model X.prog X.w) A (pyIter (.ref s1.heap.objs.size)) Q E s)->zG X pins O tg R (.ref s1.heap.objs.size) {s1 with heap:=s1.heap.push {cls:=.type ty,data:=.fields #[.str z t,.int 0 0]}}:=λty h1 h2 h3=>by
  refine⟨s1.heap.objs.size,[s1.heap.objs.size],_,_,H1,Z,I1.kept (t':=s1.toks) λb o e=>bL _ e,R7 _ z t ty h1 h2 h3,⟨⟨_,cK _ Z,Z,Z⟩,dS _⟩,λb hb=>?_,q⟩;have e:b=s1.heap.objs.size:=by simpa using hb
  subst e;exact I1.lK (bj _) (I1.aW.fresh (bj _))
 cases ha:z.cps.all (·<128)
 ·exact wpAny_pyIter_wide ha (fin "str_iterator" ay (λA' hA=>Walks.strWide hA _ z t) (λ_ _ _ _ _ st h=>wpAny_pyIter_striter_wide st h))
 ·exact wpAny_pyIter_ascii ha (fin "str_ascii_iterator" ay (λA' hA=>Walks.strAscii hA _ z t) (λ_ _ _ _ _ st h=>wpAny_pyIter_striter_ascii st h))
theorem Ou{z:Str}{f:Nat->Bool}{te:TE}{Q:VK}{D:Addr}{H H0:Hp}(rest:St)(nw:Nw H H0 D (.lst []))(hz:z.length<=1000) (hs:∀(c:Nat)(H2:Hp)(Q':VK),c∈z.cps.toList->az H H2->(∀H3,az H2 H3->Q' (.bl (f c)) H3)->te (some (.str ⟨#[c]⟩)::rest) H2 Q') (hq:∀H',az H H'->H' D=some (.lst ((z.cps.toList.map f).map V.bl))->Q (.ref D) H'):jQ (sM z) (fY 0) jj te Q D (none::rest) H0:=by
 have hl:z.cps.toList.length=z.cps.size:=by simp
 refine Ov (xs:=z.cps.toList.map λc=>V.str ⟨#[c]⟩) (bs:=z.cps.toList.map f) rest nw (by simp) (by simpa[Str.length]using hz) ?_ ?_ ?_ hq
 ·intro i x H2 ex s2
  rw[bK]at ex;cases ec:z.cps.toList[i]? with |none=>rw[ec]at ex;cases ex |some c=>rw[ec]at ex;cases ex;refine⟨by have:=(dN.mp ec).1;show i<z.cps.size;omega,λy H3 ⟨e3,c',NS,e⟩=>⟨e3,?_⟩⟩;rw[ec]at NS;cases NS;exact e
 ·intro H2 s2
  show z.cps.size<=(z.cps.toList.map _).length;rw[bA,hl];exact bj _
 ·intro i x b H2 Q' ex eb s2 ju
  rw[bK]at ex eb;cases ec:z.cps.toList[i]? with |none=>rw[ec]at ex;cases ex |some c=>rw[ec]at ex eb;cases ex;cases eb;exact hs c H2 Q' (fg ec) s2 ju
theorem L6:cf X (compareOp .In) (λx y H Q=>∃c j,x= .str ⟨#[c]⟩/\y= .str j/\Q (.bl (decide (c∈j.cps.toList))) H):=by intro pins s O H x y v u Q I rx ry h;obtain⟨c,j,rfl,rfl,q⟩:=h;refine Vr pins s O H _ _ v u Q I rx ry ⟨_,_,Z,Z,?_⟩;rw[PySem.StrLaws.found_one];exact q
inductive a7F(K:aa)(x:V)(y:V)(H:Hp)(Q:VK):Prop |mk (p:_)(xs:_)(d:_)(ds:_)(h0:y= .ref p)(h1:aP K H p xs)(h2:RD K H x d)(h3:aJ K H xs ds)(h4:SeqAt.shaped d=true)(h5:(∀e∈ds,SeqAt.shaped e=true))(h6:Q (.bl (ds.any λe=>PyData.eqv e d)) H)
def Ur(K:aa):R2:=λx y H Q=>a7F K x y H Q
theorem Zg(K:aa)(hK:X.K=K)(hu:X.A.units+65<cLine):cf X (compareOp .In) (Ur K):=by
 subst hK;intro pins s O H x y v u Q I rx ry h;obtain⟨p,xs,d,ds,rfl,hx,hd,nS,sd,SU,q⟩:=h;cases ry;obtain⟨its,r,pl,hz⟩:=I.tuple hx;obtain⟨k1,k2⟩:=NK I hu rx hd sd r nS SU;refine SeqAt.in_tupleAt (pZ s.heap d) (show s.heap.IsTuple p its.toArray from pl) (λw hw=>k1 w (by simpa using hw)) ⟨.bl _,H,I,Z,?_⟩;have e:its.toArray.any (pZ s.heap d)=ds.any λe=>PyData.eqv e d:=by rw[<-k2];simp
 rw[e];exact q
end
theorem Tu:typeLookup (.type "list_reverseiterator") "__len__"=pure none:=by rw[typeLookup_type,builtinLookup_eq_fast];kernel_rfl
theorem Tw:typeLookup (.type "list_reverseiterator") "__length_hint__"=pure (some (.builtin "list_reverseiterator.__length_hint__")):=by rw[typeLookup_type,builtinLookup_eq_fast];kernel_rfl
section
variable {prog:af}{w:World}{A:ai}{E:Value->ae->Prop}{s:ae}
def zE(I l:Addr)(its:Array Value)(i:Nat)(s:ae):Prop:=i<=its.size/\s.heap.IsRevIter I l ((its.size:Int)-1-(i:Int))/\s.heap.IsList l its
theorem Ts(hh:A.handled=none)(I l:Addr)(cm:l≠I)(its:Array Value): WalksS prog w A I [I,l] [I] Eq its.size (λi v=>its[its.size-1-i]? =some v) (zE I l its) where
 sub:=λb hb=>bS.mpr (.inl (cS.mp hb))
 grefl:=λ_=>rfl
 gtrans:=λ_ _ _=>Eq.trans
 frame:=λi s h' tk x _ hk=>⟨x.1,x.2.1.at λo e=>hk I (by simp) o e,x.2.2.at λo e=>hk l (by simp) o e⟩
 item:=λi s Q E hi x hQ=>by
  have e:(its.size:Int)-1-(i:Int)=((its.size-1-i:Nat):Int):=by omega
  have hit:=x.2.1;rw[e]at hit;refine wpAny_pyNext_rev_item hit x.2.2 (GH (i:=its.size-1-i) bo) λh' a0i jK=>?_;refine hQ _ {s with heap:=h'} (GH bo) ⟨hi,?_,x.2.2.at λo eo=>(jK.2 l cm).trans eo⟩ ⟨λb o hb eo=>jK.extBut b o (λz=>hb (cS.mpr z)) eo,Z,Z,Z,bj _⟩;have e2:((its.size-1-i:Nat):Int)-1=(its.size:Int)-1-((i+1:Nat):Int):=by omega
  rw[<-e2];exact a0i
 done:=λs Q E x hQ=>by have hit:=x.2.1;rw[show(its.size:Int)-1-(its.size:Int)=-1 by omega]at hit;exact wpAny_pyNext_rev_end hh hit λh' En=>hQ {s with heap:=h'} ⟨λb o hb eo=>En b o (λz=>hb (cS.mpr z)) eo,Z,Z,Z,bj _⟩
 self:=λ_ _ _ _ x hQ=>wpAny_pyIter_revIter x.2.1 hQ
theorem Tx{I l:Addr}{its:Array Value}{Q:List Value->ae->Prop}(hh:A.handled=none)(cm:l≠I)(x:zE I l its 0 s)(hI:I<s.heap.objs.size)(hl:l<s.heap.objs.size)(hn:its.size<=sizeLine) (hQ:∀s' acc,Moved [I] Eq s s'->ItemsOf (λi v=>its[its.size-1-i]? =some v) acc its.size->Q acc.toList s'):wpAny (model prog w) A (collect (.ref I)) Q E s:=by
 have W:=Ts (prog:=prog) (w:=w) (A:=A.in1) hh I l cm its;have hT:∀{i s},zE I l its i s->s.TypeIs (.ref I) "list_reverseiterator":=λy=>y.2.1.typeIs;obtain⟨S,hS⟩:∃S,s.heap.objs.size=S:=⟨_,Z⟩;let nw:Obj:={cls:=.type "list",data:=.seq ([]:List Value).toArray};have MM:S≠I:=qB (hS▸hI);have hSl:S≠l:=qB (hS▸hl);have hSf:S∉[I,l]:=by simp[MM,hSl]
 have sf:Builtin.List.listSameRef (.ref S) (.ref I)=false:=by simp[Builtin.List.listSameRef,MM]
 have y:=W.frame 0 s (s.heap.push nw) s.toks x (bj _) λb _ o e=>bL _ e;have aS:(s.heap.push nw).get? S=some nw:=by rw[<-hS];exact cK _ rfl
 unfold collect;apply aA;apply wpAny_runValue;apply G8 F.entry_proto_collect;rw[Qy F.plain_proto_collect _];apply aA (m:=newList []);refine lT ?_;rw[hS];refine bw ⟨plainId_quiet F.plain_list_iadd _,G8 F.entry_list_iadd ?_⟩;rw[Qy F.plain_list_iadd _];show wpAny _ A.in1 (Builtin.List.listExtendWith (.ref S) (.ref I) (.ref S)) _ _ _;unfold Builtin.List.listExtendWith;apply aA;apply wpAny_typeOf (hT y);rw[aU (by rw[sf];decide)];apply aA;apply W.self 0 _ _ _ y;apply aA;apply gH;unfold Builtin.List.listLengthHint;apply aA;apply zK (hT y) Tu;apply aA (m:=specialOf (Value.ref I) (Str.ofString "__length_hint__"));apply zK (hT y) Tw
 (generalize MD:("list_reverseiterator.__length_hint__":String)=z0;wp_delta;rw[show splitId z0=some ("list_reverseiterator","__length_hint__")from by subst MD;decide+kernel];subst MD);apply aA;apply wpAny_isInstance (b:=true) (hT y) (by rw[isSubtype_type];kernel_rfl);apply bw;rw[aU ay];refine bw ⟨plainId_quiet F.plain_extend_loop _,codeAny_extend_loopS W hn _ hSf _ its.size 0 _ _ _ Z (dS _) y aS (ItemsOf.nil _) λs' a5D c' hm mI rW=>?_⟩;apply aA (m:=load S);apply wpAny_load mI;exact bw (hQ s' a5D (Moved.drop_new (o:=nw) (tk:=s.toks) (hS▸hm) (bj _)) rW)
theorem Tt(sep:Str):∀(ps:List (Str×Tok)),JoinOk sep (ps.map (·.1))=true->Gives (PySem.joinTail sep (strValues ps)) (joinMade sep ps) |[],h=>gives_joinTail sep [] ((tD _).mp h) |[p],h=>gives_joinTail sep [p] ((tD _).mp h) |p::q::r,h=>gives_joinTail sep (p::q::r) ((tD _).mp h)
theorem Tv{I l:Addr}{its:Array Value}{zs:List Str}{sep:Str}{t:Tok}{Q:Value->ae->Prop}(hh:A.handled=none)(cm:l≠I)(x:zE I l its 0 s)(hI:I<s.heap.objs.size)(hl:l<s.heap.objs.size) (hz:StrsAre its.toList zs)(hn:its.size<=sizeLine)(aW:(zs.map (·.length)).sum+zs.length*sep.length<=16777216) (hQ:∀h' t' k,(∀b o,b≠I->s.heap.get? b=some o->h'.get? b=some o)->Q (.str (Txt.join sep zs.reverse) t') {s with heap:=h',toks:=k}): wpAny (model prog w) A (call (.builtin "str.join") [.str sep t,.ref I]) Q E s:=by
 have hT:s.TypeIs (.ref I) "list_reverseiterator":=x.2.1.typeIs;apply ow;refine zR F.slot_str_join.plain F.entry_str_join (F.slot_str_join.check _ _ _ _ _ _ _ _ (vY _ _ _) (F.args_str_join_2 _ _) ?_);rw[join_tree_other];refine aA (wpAny_typeOf hT ?_);show wpAny _ A.in1 ((pyIter (.ref I)).tryCatch _>>=λit=>collect it>>=λvs=>PySem.joinTail sep vs) _ _ s;refine aA (wpAny_tryCatch (wpAny_pyIter_revIter x.2.1 ?_));refine aA (Tx hh cm x hI hl hn λs' acc hm rW=>?_);have ea:acc.toList=its.toList.reverse:=by
  refine Gw λj=>?_;by_cases hj:j<its.size
  ·have h1:=rW.2 j _ (GH (by rw[rW.1];exact hj))
   rw[List.getElem?_reverse (by simpa using hj),jU,Qw,Qw];exact(GH (by rw[rW.1];exact hj)).trans h1.symm
  ·exact(oG (by rw[jU,rW.1];omega)).trans (oG (by rw[List.length_reverse,jU];omega)).symm
 obtain⟨ps,hv,ht⟩:=strsAre_values hz;have ev:strValues ps.reverse=acc.toList:=by rw[ea,hv];unfold strValues;rw[Qf]
 have et:(ps.reverse).map (·.1)=zs.reverse:=by rw[Qf,ht]
 have ok:JoinOk sep (ps.reverse.map (·.1))=true:=joinOk_of (by rw[et,Qf,List.sum_reverse,List.length_reverse];exact aW);rw[<-ev];have Xc:=(tD _).mp ok;have post:(Txt.join sep (ps.reverse.map (·.1))).length<=sizeLine/\∀t' k,Q (.str (Txt.join sep (ps.reverse.map (·.1))) t') {s' with toks:=k}:=by
  refine⟨joinFit_length Xc,λt' k=>?_⟩;rw[et];have e:({s' with toks:=k}:ae)={s with heap:=s'.heap,toks:=k}:=by rcases s' with⟨a,b,c,d,f⟩;have e1:_=b:=hm.gens;have e2:c=_:=hm.drawn;have e3:f=_:=hm.os;subst e1 e2 e3;rfl
  rw[e];exact hQ _ t' k λb o hb eo=>hm.heap b o (λz=>hb (cS.mp z)) eo
 exact Tt sep ps.reverse ok prog w A (wants Q E) s' (post_join ps.reverse post)
end
section
variable {X:Cx}
inductive a7w(K:aa)(x:V)(vs:List V)(H:Hp)(Q:VK):Prop |mk (sep:Str)(l:Addr)(zs:List Str)(h0:x= .str sep)(h1:vs=[.ref l])(h2:aG K H l (zs.map V.str))(h3:(∀z∈zs,z.length<=4000))(h4:sep.length<=8)(h5:zs.length<=1000)(h6:Q (.str (Txt.join sep zs.reverse)) H)
def RW(K:aa)(to:TE)(t:TA):TE:=λO H Q=>to O H λx H1=>Ac K "str" x H1/\t O H1 λvs H2=>a7w K x vs H2 Q
theorem Vg(K:aa)(h:X.K=K){o a:Expr}{to:TE}{t:TA}{apos bF p pos:Pos}(hg:Gl X "reversed")(hm:X.mg "reversed"=none)(ho:PE X o to)(ha:PA X [a] t)(hc:autoParam (X.calm=true) r8_._auto_1) (fX:autoParam (attributeBase o "join" X.env (eval o X.env)=eval o X.env) r8_._auto_1) (fW:autoParam (((backTo bF (starEach [.Call (.Name "reversed" p) [a] [] pos] X.env)).all (λx=>!x.1)&&(backToKw bF (keywordEach [] X.env)).all (λx=>x.1.isSome) &&decide ([Expr.Call (.Name "reversed" p) [a] [] pos].length+([]:List Keyword).length+(if([]:List Keyword).isEmpty then 0 else 1)<30))=true) r8_._auto_1) (fV:autoParam ((apos.endLine==bF.line)=true) r8_._auto_1)(hs:autoParam (starEach [.Call (.Name "reversed" p) [a] [] pos] X.env=(false,eval (.Call (.Name "reversed" p) [a] [] pos) X.env)::starEach [] X.env) r8_._auto_1) (fU:autoParam ((backTo bF (starEach [] X.env)).any (·.1)=false) r8_._auto_1)(ZN:autoParam (starEach [a] X.env=[(false,eval a X.env)]) r8_._auto_1)(fL:autoParam (starEach [] X.env=[]) r8_._auto_1): PE X (.Call (.Attribute o "join" apos) [.Call (.Name "reversed" p) [a] [] pos] [] bF) (RW K to t):=by
 subst h;intro pins s O H Q I h;refine wpAny_Call_method_late fX fW fV Z (aV (ho pins s O H _ I h) λv s1 ⟨x,H1,I1,r1,ty,q1⟩=>?_);obtain⟨h1,h2⟩:=GW I1 r1 ty;refine⟨"str","str.join",wo,PySem.F.slot_str_join,PySem.F.type_str_join,h1,h2,?_⟩;rw[hs];refine Calls.callWith_builtin (by show(false||(backTo bF (starEach [] X.env)).any (·.1))=false;rw[fU]<;>rfl) (GC ?_);show wpAny _ _ (spliced ((false,eval (.Call (.Name "reversed" p) [a] [] pos) X.env)::backTo bF (starEach [] X.env))) _ _ s1;refine Calls.spliced_cons ?_;refine Call_ (lD I1 hg hm PyProof.Rows.boot_reversed (qA (aV (ha pos pins s1 O H1 _ I1 q1) λus s2 ⟨vs,H2,I2,r2,q2⟩=>?_) (by rw[ZN,fL]) (by rw[fL];rfl)));obtain⟨sep,l,zs,rfl,rfl,hl,hz,hb,hn,q⟩:=q2;obtain⟨tk,rfl⟩:=r1;obtain⟨u,rfl,ru⟩:=vals1 r2;cases(show u=Value.ref l from ru);obtain⟨its,r,pl,_⟩:=I2.list hl;have hlen:=r.length;rw[bA]at hlen;have E1:=sumLen_le_of_bound id 4000 zs hz;rw[List.map_id]at E1;have hle:zs.length*sep.length<=1000*8:=zY hn hb;refine call_reversed_list pl.isList ?_;have fresh:=I2.aW.fresh (bj s2.heap.objs.size);have I3:Inv X pins O H2 {s2 with heap:=s2.heap.push (revObj l ((its.toArray.size:Int)-1))}:=I2.kept (t':=s2.toks) λb o e=>bL _ e;obtain⟨f0,f1,f2,f3,f4,f5⟩:=I2.lK (pins:=pins) (bj s2.heap.objs.size) fresh;refine Calls.spliced_nil ?_;have cm:l≠s2.heap.objs.size:=λz=>by obtain⟨o,ho,_⟩:=pl.isList;exact absurd (bN ho) (by rw[z];exact ng _)
 have mE:l<s2.heap.objs.size:=by obtain⟨o,ho,_⟩:=pl.isList;exact bN ho
 have bT:∀{b},b<=s2.heap.objs.size->b<(s2.heap.push (revObj l ((its.toArray.size:Int)-1))).objs.size:=λ{b} e=>by rw[lY];exact Nat.lt_succ_of_le e
 refine Tv (its:=its.toArray) (zs:=zs) (I2.ok.hd hc) cm ⟨dS _,⟨_,cK _ Z,Z,by show Data.fields _=Data.fields _;simp⟩,Heap.IsList.at pl.isList λo e=>bL _ e⟩ (bT (bj _)) (bT (A0 mE)) (StrsAre.of_carried (Fx r)) (by rw[dB,<-hlen,sV];omega) bo λh' t' k kk=>?_;exact⟨.str _,H2,I3.turned (t':=k) kk f0 f1 f3 f4 f5,⟨_,Z⟩,q⟩
inductive a7l(x:V)(vs:List V)(H:Hp)(Q:VK):Prop |mk (z:Str)(i:Int)(h0:x= .str z)(h1:vs=[.int i])(h3:PadOk i=true)(h4:Q (.str (Txt.zfill z i)) H)
def Km:V->List V->Hp->VK->Prop:=λx vs H Q=>a7l x vs H Q
theorem XX:oq X "str.zfill" Km:=by intro pins s O H x0 vs v us Q I rx rv h;obtain⟨x,i,rfl,rfl,hp,q⟩:=h;obtain⟨t,rfl⟩:=rx;obtain⟨u0,rfl,u,rfl⟩:=vals1 rv;exact SC.zfill hp λt' k=>⟨.str _,H,I.tok k,⟨_,Z⟩,q⟩
theorem Vd(K:aa)(h:X.K=K){o e:Expr}{to:TE}{t:TA}{apos bF:Pos}(ho:PE X o to)(ha:PA X [e] t) (fX:autoParam (attributeBase o "zfill" X.env (eval o X.env)=eval o X.env) r8_._auto_1) (fW:autoParam (((backTo bF (starEach [e] X.env)).all (λx=>!x.1)&&(backToKw bF (keywordEach [] X.env)).all (λx=>x.1.isSome) &&decide ([e].length+([]:List Keyword).length+(if([]:List Keyword).isEmpty then 0 else 1)<30))=true) r8_._auto_1) (fV:autoParam ((apos.endLine==bF.line)=true) r8_._auto_1)(hs:autoParam (starEach [e] X.env=(false,eval e X.env)::starEach [] X.env) r8_._auto_1)(fU:autoParam ((backTo bF (starEach [] X.env)).any (·.1)=false) r8_._auto_1): PE X (.Call (.Attribute o "zfill" apos) [e] [] bF) (m4 K "str" Km to t):=by subst h;exact nE wo PySem.F.slot_str_zfill PySem.F.type_str_zfill XX ho ha fX fW fV hs fU
inductive a7n(x:V)(vs:List V)(H:Hp)(Q:VK):Prop |mk (z y:Str)(h0:x= .str z)(h1:vs=[.str y])(h4:Q (.bl (Txt.startswith z y)) H)
def Kn:V->List V->Hp->VK->Prop:=λx vs H Q=>a7n x vs H Q
theorem XY:oq X "str.startswith" Kn:=by intro pins s O H x0 vs v us Q I rx rv h;obtain⟨x,y,rfl,rfl,q⟩:=h;obtain⟨t,rfl⟩:=rx;obtain⟨u0,rfl,u,rfl⟩:=vals1 rv;exact SC.startswith ⟨.bl _,H,I,Z,q⟩
theorem Ve(K:aa)(h:X.K=K){o e:Expr}{to:TE}{t:TA}{apos bF:Pos}(ho:PE X o to)(ha:PA X [e] t) (fX:autoParam (attributeBase o "startswith" X.env (eval o X.env)=eval o X.env) r8_._auto_1) (fW:autoParam (((backTo bF (starEach [e] X.env)).all (λx=>!x.1)&&(backToKw bF (keywordEach [] X.env)).all (λx=>x.1.isSome) &&decide ([e].length+([]:List Keyword).length+(if([]:List Keyword).isEmpty then 0 else 1)<30))=true) r8_._auto_1) (fV:autoParam ((apos.endLine==bF.line)=true) r8_._auto_1)(hs:autoParam (starEach [e] X.env=(false,eval e X.env)::starEach [] X.env) r8_._auto_1)(fU:autoParam ((backTo bF (starEach [] X.env)).any (·.1)=false) r8_._auto_1): PE X (.Call (.Attribute o "startswith" apos) [e] [] bF) (m4 K "str" Kn to t):=by subst h;exact nE wo PySem.F.slot_str_startswith PySem.F.type_str_startswith XY ho ha fX fW fV hs fU
inductive a7K(xs:List V)(H:Hp)(Q:VK):Prop |mk (i j:Int)(h0:xs=[.int i,.int j])(h1:0<j)(h2:Wd j)(h3:∀p H',Nw H H' p (.tup [.int (i/j),.int (i%j)])->Q (.ref p) H')
theorem a55:dI X (.builtin "divmod") (λxs H Q=>a7K xs H Q):=by intro pins s O H xs us Q I r h;obtain⟨i,j,rfl,h1,h2,q⟩:=h;obtain⟨u,w',rfl,⟨t,rfl⟩,⟨t',rfl⟩⟩:=vals2 r;refine divmod_int bo ?_ (.inl (Q5 h2.log));rw[GB i bo,Qs i bo];have hn:H s.heap.objs.size=none:=I.aW.fresh (bj _);refine⟨.ref s.heap.objs.size,upd H s.heap.objs.size (.tup [.int (i/j),.int (i%j)]),?_,Z,q _ _ (Nw.of hn)⟩;exact I.laid (λb o e=>bL _ e) (bj _) ⟨by show 2<=sizeLine;decide,[.int (i/j) s.toks,.int (i%j) (s.toks+1)],.cons ⟨_,Z⟩ (.cons ⟨_,Z⟩ .nil),_,cK s.heap Z,Z,0,Z⟩
end
theorem a2H{z:Str}{g:TG}{tb:TS}{D:Ends}{O:St}{H:Hp}(Pv:Nat->St->Hp->Prop)(h0:Pv 0 O H) (hs:∀i c O H,z.cps.toList[i]? =some c->Pv i O H->g (.str ⟨#[c]⟩) O H λσ2 H2=>tb {D with nx:=Pv (i+1),ct:=Pv (i+1),bk:=D.nx} σ2 H2)(hd:∀O H,Pv z.cps.size O H->D.nx O H): ∃W:Nat->Nat->St->Hp->Prop,(∃m,W 0 m O H)/\∀i m O H,W i m O H->((sM z).stop i H/\D.nx O H)\/((sM z).go i H/\∃N:St->Hp->Prop,(∀σ' H',N σ' H'->∃m',m'<m/\W (i+1) m' σ' H')/\∀x H',(sM z).hV i H x H'->g x O H' λσ2 H2=>tb {D with nx:=N,ct:=N,bk:=D.nx} σ2 H2):=by
 refine⟨λi m O H=>m=z.cps.size-i/\i<=z.cps.size/\Pv i O H,⟨z.cps.size,by simp,dS _,h0⟩,?_⟩;rintro i m O H ⟨rfl,hi,p⟩;by_cases bT:i<z.cps.size
 ·refine .inr ⟨bT,Pv (i+1),λσ' H' q=>⟨z.cps.size-(i+1),bo,Z,bT,q⟩,λx H' hy=>?_⟩
  obtain⟨rfl,c,hc,rfl⟩:=hy;exact hs i c O _ hc p
 ·have e:i=z.cps.size:=by omega
  subst e;exact .inl ⟨bj _,hd O H p⟩
end _L
namespace _T
open PySem PySem.Spec PyProof.Rows PySem.NumText
def Free(c:Nat)(z:Str):Prop:=c∉z.cps.toList
def gl(c:Nat):List (List Nat)->List Nat |[]=>[] |[x]=>x |x::y::r=>x++c::gl c (y::r)
theorem ES(c:Nat):∀zs:List Str,(PySem.Str.join ⟨#[c]⟩ zs).cps.toList=gl c (zs.map λz=>z.cps.toList) |[]=>by simp[PySem.Str.join,PySem.Str.empty,gl] |[x]=>rfl |x::y::r=>by show((x++⟨#[c]⟩)++PySem.Str.join ⟨#[c]⟩ (y::r)).cps.toList=_;rw[oB,oB,lZ,lZ,ES c (y::r)];show(x.cps.toList++[c])++gl c _=x.cps.toList++c::gl c _;rw[Qn];rfl
theorem Ol{c:Nat}:∀{a b r s:List Nat},c∉a->c∉b->a++c::r=b++c::s->a=b/\r=s |[],[],r,s,_,_,e=>by simpa using e |[],y::b,r,s,_,h,e=>by simp at e;exact(h (by rw[e.1];exact .head _)).elim |x::a,[],r,s,h,_,e=>by simp at e;exact(h (by rw[<-e.1];exact .head _)).elim |x::a,y::b,r,s,h1,h2,e=>by simp only[List.cons_append,List.cons.injEq]at e;obtain⟨e1,e2⟩:=Ol (λz=>h1 (.tail _ z)) (λz=>h2 (.tail _ z)) e.2;exact⟨by rw[e.1,e1],e2⟩
theorem MV{c:Nat}:∀{as bs:List (List Nat)},as≠[]->bs≠[]->(∀a∈as,c∉a)->(∀b∈bs,c∉b)->gl c as=gl c bs->as=bs
 |[],_,h,_,_,_,_=>(h Z).elim |_,[],_,h,_,_,_=>(h Z).elim |[a],[b],_,_,_,_,e=>by rw[show a=b from e] |[a],b::b'::r,_,_,ha,_,e=>by
  have:c∈a:=by rw[show a=b++c::gl c (b'::r)from e];simp
  exact(ha a (.head _) this).elim |a::a'::r,[b],_,_,_,hb,e=>by
  have:c∈b:=by rw[<-show a++c::gl c (a'::r)=b from e];simp
  exact(hb b (.head _) this).elim |a::a'::r,b::b'::s,_,_,ha,hb,e=>by obtain⟨e1,e2⟩:=Ol (ha a (.head _)) (hb b (.head _)) (show a++c::gl c (a'::r)=b++c::gl c (b'::s)from e);rw[e1,MV (by simp) (by simp) (λx hx=>ha x (.tail _ hx)) (λx hx=>hb x (.tail _ hx)) e2]
theorem vB{x y:Str}(h:x.cps.toList=y.cps.toList):x=y:=PySem.Str.ext' (Array.toList_inj.mp h)
theorem map_inj:∀{xs ys:List Str},xs.map (λz=>z.cps.toList)=ys.map (λz=>z.cps.toList)->xs=ys |[],[],_=>rfl |[],y::ys,h=>by simp at h |x::xs,[],h=>by simp at h |x::xs,y::ys,h=>by simp only[qD,List.cons.injEq]at h;rw[vB h.1,map_inj h.2]
theorem HB(x y:Str):Txt.split x y≠[]:=by
 unfold Txt.split;split
 ·simp
 ·split
  ·simp
  ·rw[StrLaws.partsBetween_eq]
   obtain⟨p,r,e⟩:=StrLaws.partsFrom_ne x y.length 0 (Builtin.Str.occurrences x y 0 x.length (x.length+1));rw[e];simp
theorem HC{c:Nat}{zs:List Str}(cm:zs≠[])(hf:∀z∈zs,Free c z):Txt.split (Txt.join ⟨#[c]⟩ zs) ⟨#[c]⟩=zs:=by
 have e:=StrLaws.join_split (Txt.join ⟨#[c]⟩ zs) ⟨#[c]⟩;have fr:=StrLaws.split_free (Txt.join ⟨#[c]⟩ zs) c;have e2:Txt.join ⟨#[c]⟩ zs=PySem.Str.join ⟨#[c]⟩ zs:=oy _ _;have e3:=jT (λz:Str=>z.cps.toList) (e.trans e2);simp only[ES]at e3;refine map_inj (MV (by simpa using HB _ _) (by simpa using cm) (λa ha=>?_) (λb hb=>?_) e3)
 ·obtain⟨z,hz,rfl⟩:=cH.mp ha
  exact fr z hz
 ·obtain⟨z,hz,rfl⟩:=cH.mp hb
  exact hf z hz
def numS(i:Int):Str:=Str.ofString (toString i)
def isFig(c:Nat):Bool:=decide (48<=c)&&decide (c<=57)
def figs(z:Str):List Nat:=match z.cps.toList with |45::r=>r |l=>l
def numIn? (z:Str):Option Int:=bif (figs z).isEmpty|| !(figs z).all isFig then none else bif decide ((figs z)[0]? =some 48)&& !decide (z="0")then none else intText? z
theorem si{cs:List Nat}(h:cs.all isFig=true):AllDigits cs:=λc hc=>by have:=fh.mp h c hc;simpa[isFig]using this
theorem O8{cs:List Nat}(h:AllDigits cs):cs.all isFig=true:=fh.mpr λc hc=>by have:=h c hc;simpa[isFig]using this
theorem lM(m:Nat):(numS (m:Int)).cps.toList=(Nat.toDigits 10 m).map Char.toNat:=PySem.W.KIN.signs_num m
theorem vA(m:Nat):(numS (Int.negSucc m)).cps.toList=45::(Nat.toDigits 10 (m+1)).map Char.toNat:=by unfold numS;rw[signs_ofString];show("-"++Nat.repr (m+1)).toList.map Char.toNat=_;rw[String.toList_append,jg,Nat.toList_repr];rfl
theorem kP(m:Nat):AllDigits ((Nat.toDigits 10 m).map Char.toNat):=λc hc=>by obtain⟨ch,jL,e⟩:=cH.mp hc;have r:=digit_range (Nat.isDigit_of_mem_toDigits ay ay jL);rw[<-e];exact r
theorem zh(m:Nat):(Nat.toDigits 10 m).map Char.toNat≠[]:=λe=>by have h:=toDigits_len_ge 10 m;rw[List.map_eq_nil_iff.mp e]at h;exact absurd h ay
theorem a4A:∀d:Nat,d<10->d≠0->(Nat.digitChar d).toNat≠48:=by decide
theorem M3(m:Nat)(h0:m≠0):((Nat.toDigits 10 m).map Char.toNat)[0]? ≠some 48:=by induction m using Nat.strongRecOn with |_ m ih=>
 by_cases h:m<10
 ·rw[Qb h]
  simpa using a4A m h h0
 ·have hm:m%10<10:=Nat.mod_lt m ay
  have t:Nat.toDigits 10 (m/10)++Nat.toDigits 10 (m%10)=Nat.toDigits 10 (10*(m/10)+m%10):=Nat.toDigits_append_toDigits ay bo hm;rw[Nat.div_add_mod]at t;rw[<-t,jg,wC (wA.mpr (zh _))];exact ih (m/10) bo bo
theorem a4y(m:Nat):((Nat.toDigits 10 m).map Char.toNat).head? ≠some 45:=λe=>by have:=kP m 45 (List.mem_of_mem_head? e);omega
theorem a2T{z:Str}{l:List Nat}(h:z.cps.toList=l)(hh:l.head? ≠some 45):figs z=l:=by
 unfold figs;rw[h];split
 ·simp at hh
 ·rfl
theorem a2V(m:Nat):figs (numS (m:Int))=(Nat.toDigits 10 m).map Char.toNat:=a2T (lM m) (a4y m)
theorem a2U(m:Nat):figs (numS (Int.negSucc m))=(Nat.toDigits 10 (m+1)).map Char.toNat:=by unfold figs;rw[vA];rfl
theorem NR(m:Nat):((Nat.toDigits 10 m).map Char.toNat).isEmpty=false:=by have:=zh m;cases h:(Nat.toDigits 10 m).map Char.toNat with |nil=>exact(this h).elim |cons=>rfl
theorem De{i:Int}(hl:(numS i).length<=4300):numIn? (numS i)=some i:=by unfold numIn?;cases i with
 |ofNat m=>
  have ef:figs (numS (Int.ofNat m))=(Nat.toDigits 10 m).map Char.toNat:=a2V m;have ec:(numS (Int.ofNat m)).cps.toList=(Nat.toDigits 10 m).map Char.toNat:=lM m;have e:=G7 (x:=numS (Int.ofNat m)) (by rw[ec];exact kP m) (by rw[ec];exact zh m) hl;rw[ec,PySem.W.KIN.val_back]at e;rw[ef,O8 (kP m),NR,e];have h2:(decide (((Nat.toDigits 10 m).map Char.toNat)[0]? =some 48)&& !decide (numS (Int.ofNat m)="0"))=false:=by
   by_cases h0:m=0
   ·subst h0;decide+kernel
   ·rw[dM (M3 m h0)];rfl
  rw[h2];rfl |negSucc m=>have e:=intText_neg (x:=numS (Int.negSucc m)) (vA m) (kP (m+1)) (zh (m+1)) hl;rw[PySem.W.KIN.val_back]at e;rw[a2U,O8 (kP (m+1)),NR,dM (M3 (m+1) bo),e];exact jT some (Int.negSucc_eq m).symm
theorem nG{i:Int}{c:Nat}(h:c≠45)(h1:c<48):Free c (numS i):=λhc=>by cases i with |ofNat m=>rw[show(numS (Int.ofNat m)).cps.toList=_ from lM m]at hc;have:=kP m c hc;omega |negSucc m=>
 rw[vA]at hc;rcases bS.mp hc with e|hc
 ·exact h e
 ·have:=kP (m+1) c hc
  omega
theorem Zd{z:Str}(h1:figs z≠[])(h2:(figs z).all isFig=true)(hl:z.length<=4300):∃n,intText? z=some n:=by
 unfold figs at h1 h2;split at h1
 ·rename_i r h
  rw[h]at h2;exact⟨_,intText_neg h (si h2) h1 hl⟩
 ·rename_i h
  split at h2
  ·rename_i r h'
   exact(h r h').elim
  ·exact⟨_,G7 (si h2) h1 hl⟩
theorem TZ(z:Str):(Txt.removeprefix z "-").cps.toList=figs z:=by
 rw[StrLaws.removeprefix_eq];have e1:(Str.ofString "-").cps.toList=[45]:=by decide+kernel
 have e2:(Str.ofString "-").length=1:=by decide+kernel
 have hn:z.cps.toList.length=z.length:=by simp[Str.length]
 rw[e2,StrLaws.subAt_eq,e1,e2,List.drop_zero];unfold figs;cases hz:z.cps.toList with |nil=>rw[hz]at hn;have h0:z.length=0:=hn.symm;rw[aU (by simp)];exact hz |cons a r=>
  rw[hz]at hn;simp only[gb]at hn;by_cases ha:a=45
  ·subst ha
   rw[aR (by simp;omega)];show((List.drop 1 (45::r)).take _).toArray.toList=r;rw[List.drop_one,List.tail_cons,A1 bo]
  ·rw[aU (by simp;intro _;exact λe=>ha (by simpa using e))]
   rw[hz];split
   ·rename_i h;simp at h;exact(ha h.1).elim
   ·rfl
end _T
namespace _N
open PySem PySem.Spec PyProof.Rows PySem.NumText _T
def kj:Nat->Nat->List Char |0,_=>[] |e+1,r=>kj e (r/10)++[(r%10).digitChar]
theorem O9:∀e m:Nat,10^e<=m->Nat.toDigits 10 m=Nat.toDigits 10 (m/10^e)++kj e (m%10^e)
 |0,m,_=>by simp[kj] |e+1,m,h=>by
  have hp:0<10^e:=Nat.pow_pos ay;have h10:10<=m:=by rw[t6]at h;omega
  have hd:10^e<=m/10:=by rw[Nat.le_div_iff_mul_le ay];rw[t6]at h;exact h
  rw[Nat.toDigits_of_base_le ay h10,O9 e (m/10) hd,Nat.div_div_eq_div_mul,<-Nat.pow_succ',Qn];show _=_++(kj e (m%10^(e+1)/10)++[(m%10^(e+1)%10).digitChar]);rw[Nat.pow_succ',Nat.mod_mul_right_div_self,Nat.mod_mul_right_mod]
theorem KL:∀e:Nat,kj e 0=List.replicate e '0' |0=>rfl |e+1=>by show kj e 0++['0']=_;rw[KL e,List.replicate_succ']
theorem KN:∀e r:Nat,r<10^(e+1)->kj (e+1) r=List.replicate (e+1-(Nat.toDigits 10 r).length) '0'++Nat.toDigits 10 r
 |0,r,h=>by have h:r<10:=h;rw[Qb h];show[]++[(r%10).digitChar]=_;rw[Nat.mod_eq_of_lt h];rfl |e+1,r,h=>by
  show kj (e+1) (r/10)++[(r%10).digitChar]=_;by_cases hr:r<10
  ·rw[Nat.div_eq_of_lt hr,KL,Nat.mod_eq_of_lt hr,Qb hr]
   simp
  ·have hd:r/10<10^(e+1):=by rw[Nat.div_lt_iff_lt_mul ay,<-t6];exact h
   rw[KN e (r/10) hd,Nat.toDigits_of_base_le (b:=10) (n:=r) ay bo,fQ,Qn];have:e+1+1-((Nat.toDigits 10 (r/10)).length+[(r%10).digitChar].length)=e+1-(Nat.toDigits 10 (r/10)).length:=by simp
   rw[this]
theorem GJ(r:Nat)(h:r<10^64):(Txt.zfill (numS (r:Int)) 64).cps.toList=(kj 64 r).map Char.toNat:=by
 have ec:=lM r;have el:(numS (r:Int)).length=(Nat.toDigits 10 r).length:=by show(numS (r:Int)).cps.size=_;rw[<-jU,ec,bA]
 rw[KN 63 r h,jg,List.map_replicate];unfold Txt.zfill;split
 ·rename_i hl
  have:64-(Nat.toDigits 10 r).length=0:=by omega
  show(numS (r:Int)).cps.toList=_;rw[ec,show 63+1-(Nat.toDigits 10 r).length=0 by omega];rfl
 ·rename_i hl
  have hd:=kP r;have h0:∀c,(numS (r:Int)).cps[0]? =some c->48<=c:=λc e=>by rw[<-Qw,ec]at e;exact(hd c (fg e)).1
  have hz:zfilled (numS (r:Int)) ((64:Int).toNat-(numS (r:Int)).length)=Builtin.Str.padded (numS (r:Int)) ((64:Int).toNat-(numS (r:Int)).length) 0 48:=by
   unfold zfilled;split
   ·rename_i e;exact absurd (h0 _ e) ay
   ·rename_i e;exact absurd (h0 _ e) ay
   ·rfl
  rw[hz];show(Array.replicate _ 48++(numS (r:Int)).cps++Array.replicate 0 48).toList=_;rw[lZ,lZ,Array.toList_replicate,ec,el];simp
theorem Xn(m:Nat)(h:10^64<=m):numS (m:Int)=numS ((m/10^64:Nat):Int)++Txt.zfill (numS ((m%10^64:Nat):Int)) 64:=by refine vB ?_;rw[oB,lZ,lM,lM,GJ _ (Nat.mod_lt _ (Nat.pow_pos ay)),<-jg,<-O9 64 m h]
theorem Xl{i:Int}(h:i<0):numS i="-"++numS (-i):=by obtain⟨m,rfl⟩:∃m:Nat,i=Int.negSucc m:=⟨(-i-1).toNat,bo⟩;refine vB ?_;rw[oB,lZ,vA,show-Int.negSucc m=((m+1:Nat):Int)from Z,lM];rfl
theorem QF{r:Nat}(h:r<10^64):(Txt.zfill (numS (r:Int)) 64).length=64:=by
 show(Txt.zfill (numS (r:Int)) 64).cps.size=64;rw[<-jU,GJ r h,bA];have:∀e r,(kj e r).length=e:=λe=>by induction e with |zero=>intro r;rfl |succ e ih=>intro r;show(kj e (r/10)++[_]).length=_;rw[fQ,ih];rfl
 exact this 64 r
def cat(zs:List Str):Str:=Txt.join "" zs
theorem a4T:cat []=Str.empty:=by unfold cat Txt.join;rw[oy];rfl
theorem OE(z:Str)(zs:List Str):cat (z::zs)=z++cat zs:=by unfold cat Txt.join;rw[oy,oy];cases zs with |nil=>exact(Str.append_empty z).symm |cons y r=>show(z++"")++PySem.Str.join "" (y::r)=_;rw[show(Str.ofString "")=Str.empty from by decide+kernel,Str.append_empty]
structure Wr(N r:Nat)(zs:List Str):Prop where
 e:numS (N:Int)=numS (r:Int)++cat zs.reverse
 d:r=N/(10^64)^zs.length
 l:∀z∈zs,z.length<=64
 b:zs.length=0\/(10^64)^zs.length<=N
theorem Wr.nil(N:Nat):Wr N N []:=⟨by rw[show([]:List Str).reverse=[]from Z,a4T,Str.append_empty],by simp,λ_ h=>by simp at h,.inl rfl⟩
theorem Wr.step{N r:Nat}{zs:List Str}(h:Wr N r zs)(hr:10^64<=r):Wr N (r/10^64) (zs++[Txt.zfill (numS ((r%10^64:Nat):Int)) 64]):=by
 have hm:r%10^64<10^64:=Nat.mod_lt _ (Nat.pow_pos ay);refine⟨?_,?_,λz hz=>?_,.inr ?_⟩
 ·rw[List.reverse_append,List.reverse_cons,List.reverse_nil,List.nil_append,List.singleton_append,OE,<-Str.append_assoc,<-Xn r hr]
  exact h.e
 ·rw[fQ,tm,t6 (10^64) zs.length,<-Nat.div_div_eq_div_mul,<-h.d]
 ·rcases iO.mp hz with hz|hz
  ·exact h.l z hz
  ·rw[cS.mp hz,QF hm];exact bj _
 ·rw[fQ,tm,t6 (10^64) zs.length,Nat.mul_comm]
  have h2:=h.d;generalize(10^64)^zs.length=B at*;rw[h2]at hr;by_cases hB:B=0
  ·subst hB;simp
  ·exact(Nat.le_div_iff_mul_le (Nat.pos_of_ne_zero hB)).mp hr
theorem Wr.len{N r:Nat}{zs:List Str}(h:Wr N r zs)(hN:N<10^540):zs.length<=8:=by
 rcases h.b with e|e
 ·omega
 ·rw[<-Nat.pow_mul]at e
  have:=(Nat.pow_lt_pow_iff_right (a:=10) ay).mp (zZ e hN);omega
theorem LZ{m:Nat}(h:m<10^540):((m:Nat):Int).natAbs.log2<1920:=by
 rw[Qq];by_cases h0:m=0
 ·rw[h0];decide
 ·exact(Nat.log2_lt h0).mpr (lU h aI)
theorem YK{i:Int}(h:i.natAbs<10^540):(numS i).length<=541:=by show(Str.ofString (toString i)).length<=541;rw[PN];exact PF (k:=540) ay h
theorem a5E{i:Int}(h:¬i<0):((i.natAbs:Nat):Int)=i:=by omega
theorem abs_neg{i:Int}(h:i<0):((i.natAbs:Nat):Int)=-i:=by omega
theorem a4t(cs:List Nat)(c:Nat):digitsVal (cs++[c])=digitsVal cs*10+(c-48):=by unfold digitsVal;rw[Qk];rfl
theorem O3{cs:List Nat}{i c:Nat}(h:cs[i]? =some c):digitsVal (cs.take (i+1))=digitsVal (cs.take i)*10+(c-48):=by rw[List.take_add_one,h];exact a4t _ _
theorem O4{cs:List Nat}(h:AllDigits cs):∀i,digitsVal (cs.take i)<10^i |0=>by simp[digitsVal] |i+1=>by have ih:=O4 h i;rw[t6];cases hc:cs[i]? with |none=>rw[List.take_add_one,hc];simp;omega |some c=>have:=h c (fg hc);rw[O3 hc];omega
theorem S8(z:Str):Txt.startswith z "-"=decide (z.cps.toList.head? =some 45):=by
 have e1:(Str.ofString "-").cps.toList=[45]:=by decide+kernel
 have e2:(Str.ofString "-").length=1:=by decide+kernel
 have hn:z.cps.toList.length=z.length:=by simp[Str.length]
 unfold Txt.startswith;rw[e2,StrLaws.subAt_eq,e1,e2,List.drop_zero,<-hn];cases z.cps.toList with |nil=>rfl |cons c r=>simp[Qv]
theorem Xk{z y:Str}{n:Int}(ef:y.cps.toList=figs z)(h1:figs z≠[])(h2:(figs z).all isFig=true)(hl:z.length<=4300)(hn:intText? z=some n): n=if Txt.startswith z "-"=true then-((digitsVal y.cps.toList:Nat):Int)else((digitsVal y.cps.toList:Nat):Int):=by
 rw[S8,ef];unfold figs at*;split at h1
 ·rename_i r h
  rw[h]at h2;have e:=intText_neg h (si h2) h1 hl;rw[hn]at e;rw[h];simpa using e
 ·rename_i h
  split at h2
  ·rename_i r h'
   exact(h r h').elim
  ·have e:=G7 (si h2) h1 hl
   rw[hn]at e;have hh:z.cps.toList.head? ≠some 45:=λz'=>by cases hz:z.cps.toList with |nil=>rw[hz]at z';cases z' |cons c r=>rw[hz]at z';cases z';exact h r hz
   rw[dM hh];simpa using e
theorem QY{c:Nat}(h1:48<=c)(h2:c<=57):intText? ⟨#[c]⟩=some ((c-48:Nat):Int):=by have e:=G7 (x:=⟨#[c]⟩) (λa ha=>by rw[cS.mp ha];exact⟨h1,h2⟩) (by simp) (by show 1<=4300;decide);rw[e];show some (((0*10+(c-48):Nat):Nat):Int)=_;rw[Nat.zero_mul,Nat.zero_add]
end _N
namespace _C
open _l
def cA(ns ms:List Int):List Int:=(ns.zip ms).map λp=>p.1*(aL ms:Int)-p.2*(aL ns:Int)
theorem Y7{ns ms:List Int}{z:Int}(h:z∈cA ns ms):∃a b,a∈ns/\b∈ms/\z=a*(aL ms:Int)-b*(aL ns:Int):=by obtain⟨⟨a,b⟩,hp,rfl⟩:=cH.mp h;exact⟨a,b,(qC hp).1,(qC hp).2,Z⟩
theorem iX{a b:Int}{m n:Nat}(h:a.natAbs<=m)(g:b.natAbs<=n):(a*b).natAbs<=m*n:=by rw[oJ];exact zY h g
theorem zi{ns ms:List Int}(h1:∀z∈ns,z.natAbs<=1000)(h2:∀z∈ms,z.natAbs<=1000):∀z∈cA ns ms,z.natAbs<=2000000:=λz hz=>by obtain⟨a,b,ha,hb,rfl⟩:=Y7 hz;have l1:=lC h1;have l2:=lC h2;have e1:=iX (b:=(aL ms:Int)) (n:=1000) (h1 a ha) bo;have e2:=iX (b:=(aL ns:Int)) (n:=1000) (h2 b hb) bo;omega
def nR(zs:List Int)(i:Nat):Nat:=aL (zs.take i)
theorem M4:∀(xs ys:List Int),aL (xs++ys)=max (aL xs) (aL ys) |[],ys=>by simp[aL] |x::xs,ys=>by show max x.natAbs (aL (xs++ys))=max (max x.natAbs (aL xs)) (aL ys);rw[M4 xs ys];lia
theorem a0s{zs:List Int}{i:Nat}{z:Int}(h:zs[i]? =some z):nR zs (i+1)=max (nR zs i) z.natAbs:=by
 unfold nR;rw[wx,h,M4];show max _ (max z.natAbs 0)=_
 lia
def qk(r:Rat):Rat:=if r.num<0 then-r else r
theorem a5G(r:Rat):(qk r).num=jO r.num:=by
 unfold qk jO;split
 ·rfl
 ·rfl
theorem a5I(r:Rat):(qk r).den=r.den:=by
 unfold qk;split
 ·rfl
 ·rfl
theorem a4v{a b:Int}(hb:0<b):0<=(Rat.divInt a b).num↔0<=a:=by rw[Rat.num_nonneg,Gd hb]
theorem a5H{c L:Int}(hL:0<L):qk (Rat.divInt c L)=Rat.divInt (jO c) L:=by
 have h:=a4v (a:=c) hL;unfold qk jO;by_cases hc:c<0
 ·rw[aR hc,aR au,Rat.neg_divInt]
 ·rw[aU hc,aU au]
theorem a4w{a b L:Int}(hL:0<L):Rat.divInt a L<=Rat.divInt b L↔a<=b:=by
 rw[Rat.le_iff_sub_nonneg,PL _ _ au au,Gd (qE hL hL),<-Int.sub_mul];constructor
 ·intro h
  have:=Int.nonneg_of_mul_nonneg_left h hL
  lia
 ·intro h
  exact wD au au
theorem O7{a b L:Int}(hL:0<L):Rat.divInt a L<Rat.divInt b L↔a<b:=by rw[<-Rat.not_le,a4w hL];lia
theorem Sb{a b l1 l2:Int}(h1:0<l1)(h2:0<l2):Rat.divInt b l2-Rat.divInt a l1=Rat.divInt (b*l1-a*l2) (l1*l2):=by rw[PL _ _ au au,Int.mul_comm l2 l1]
theorem a4F{j p q h L:Int}(hp:p≠0)(hh:h≠0)(e:p*L=h*q):Rat.divInt (j*j*q*q) (p*p)=Rat.divInt ((j*L)^2) (h^2):=by
 rw[PM (Gz hp hp) (by rw[fG,fG,lW,lX];exact Gz hh hh)];have e2:(p*L)*(p*L)=(h*q)*(h*q):=by rw[e]
 rw[fG,fG,lW,lX,fG,fG,lW,lX];have a1:j*j*q*q*(h*h)=(j*j)*((h*q)*(h*q)):=by ac_rfl
 have a2:j*L*(j*L)*(p*p)=(j*j)*((p*L)*(p*L)):=by ac_rfl
 rw[a1,a2,e2]
end _C
namespace _P
def mn(a b:Rat):Rat:=if b<a then b else a
theorem xY(a b:Rat):mn a b<=a:=by
 unfold mn;split
 ·next h=>exact Gb h
 ·exact iK
theorem uI(a b:Rat):mn a b<=b:=by
 unfold mn;split
 ·exact iK
 ·next h=>exact oz.mp h
theorem ky{a b c:Rat}(h1:c<=a)(h2:c<=b):c<=mn a b:=by unfold mn;split<;>assumption
theorem xZ(a b:Rat):mn a b=a\/mn a b=b:=by
 unfold mn;split
 ·exact .inr rfl
 ·exact .inl rfl
theorem pI{a b c:Rat}(hc:c=a\/c=b)(h1:c<=a)(h2:c<=b):mn a b=c:=by
 rcases hc with rfl|rfl
 ·exact wm (xY _ _) (ky h1 h2)
 ·exact wm (uI _ _) (ky h1 h2)
theorem rH{a b c:Rat}(h:a<=b)(hc:0<=c):a<=b+c:=kR h (by have:=(Rat.add_le_add_left (c:=b)).mpr hc;rwa [Rat.add_zero]at this)
theorem add_r{a b c:Rat}(h:a<=b):a+c<=b+c:=Rat.add_le_add_right.mpr h
section
variable (n:Nat)(own:Nat->Rat)(L:Nat->Option Nat)(r f:Int)
def Rz:Nat->Rat |0=>own 0 |i+1=>match L i with |some m=>mn (own (i+1)) (Rz i+((r*(m:Int):Int):Rat)) |none=>own (i+1)
def Pz(g:Nat->Rat):Nat->Rat |0=>g n |k+1=>match L (n-(k+1))with |some m=>mn (g (n-(k+1))) (Pz g k+((f*(m:Int):Int):Rat)) |none=>g (n-(k+1))
def fl(g:Nat->Rat)(i:Nat):Rat:=Pz n L f g (n-i)
def gz(i:Nat):Rat:=fl n L f (Rz own L r) i
end
section
variable {n:Nat}{own g:Nat->Rat}{L:Nat->Option Nat}{r f:Int}
theorem nW:fl n L f g n=g n:=by unfold fl;rw[Nat.sub_self];rfl
theorem nX{i m:Nat}(hi:i<n)(h:L i=some m):fl n L f g i=mn (g i) (fl n L f g (i+1)+((f*(m:Int):Int):Rat)):=by
 unfold fl;have e:n-i=(n-(i+1))+1:=by omega
 rw[e];show(match L (n-((n-(i+1))+1))with|some m=>_|none=>_)=_;have e2:n-((n-(i+1))+1)=i:=by omega
 rw[e2,h]
theorem pX{i:Nat}(hi:i<n)(h:L i=none):fl n L f g i=g i:=by
 unfold fl;have e:n-i=(n-(i+1))+1:=by lia
 rw[e];show(match L (n-((n-(i+1))+1))with|some m=>_|none=>_)=_;have e2:n-((n-(i+1))+1)=i:=by lia
 rw[e2,h]
theorem Kx:gz n own L r f n=Rz own L r n:=nW
theorem xI{i m:Nat}(hi:i<n)(h:L i=some m):gz n own L r f i=mn (Rz own L r i) (gz n own L r f (i+1)+((f*(m:Int):Int):Rat)):=nX hi h
theorem Kw{i:Nat}(hi:i<n)(h:L i=none):gz n own L r f i=Rz own L r i:=pX hi h
theorem jP{i m:Nat}(h:L i=some m):Rz own L r (i+1)=mn (own (i+1)) (Rz own L r i+((r*(m:Int):Int):Rat)):=by show(match L i with|some m=>_|none=>_)=_;rw[h]
theorem mS{i:Nat}(h:L i=none):Rz own L r (i+1)=own (i+1):=by show(match L i with|some m=>_|none=>_)=_;rw[h]
theorem zD(i:Nat):Rz own L r i<=own i:=by cases i with |zero=>exact iK |succ i=>cases h:L i with |none=>rw[mS h];exact iK |some m=>rw[jP h];exact xY _ _
theorem Ky{i:Nat}(hi:i<=n):gz n own L r f i<=Rz own L r i:=by
 rcases Nat.lt_or_eq_of_le hi with hi|rfl
 ·cases h:L i with |none=>rw[Kw hi h];exact iK |some m=>rw[xI hi h];exact xY _ _
 ·rw[Kx];exact iK
theorem UM{i:Nat}(hi:i<=n):gz n own L r f i<=own i:=kR (Ky hi) (zD i)
theorem UO{i m:Nat}(hi:i<n)(h:L i=some m):gz n own L r f i<=gz n own L r f (i+1)+((f*(m:Int):Int):Rat):=by rw[xI hi h];exact uI _ _
theorem rC{a:Int}{m:Nat}(h:0<=a):(0:Rat)<=((a*(m:Int):Int):Rat):=by have:((0:Int):Rat)<=((a*(m:Int):Int):Rat):=Rat.intCast_le_intCast.mpr (wD h au);exact this
theorem UL{i m:Nat}(hi:i<n)(h:L i=some m)(hr:0<=r)(hf:0<=f):gz n own L r f (i+1)<=gz n own L r f i+((r*(m:Int):Int):Rat):=by
 have h1:gz n own L r f (i+1)<=Rz own L r i+((r*(m:Int):Int):Rat):=by refine kR (Ky hi) ?_;rw[jP h];exact uI _ _
 rw[xI hi h];rcases xZ (Rz own L r i) (gz n own L r f (i+1)+((f*(m:Int):Int):Rat))with e|e
 ·rw[e];exact h1
 ·rw[e];exact rH (rH iK (rC hf)) (rC hr)
theorem P7(hr:0<=r)(h0:∀i,i<=n->0<=own i):∀i,i<=n->0<=Rz own L r i |0,hi=>h0 0 hi |i+1,hi=>by cases h:L i with |none=>rw[mS h];exact h0 _ hi |some m=>rw[jP h];exact ky (h0 _ hi) (rH (P7 hr h0 i au) (rC hr))
theorem down{C:Nat->Prop}(hn:C n)(hs:∀i,i<n->C (i+1)->C i):∀i,i<=n->C i:=by
 have key:∀k,k<=n->C (n-k):=λk=>by induction k with |zero=>intro _;exact hn |succ k ih=>
  intro hk;refine hs _ bo ?_;have e:n-(k+1)+1=n-k:=by omega
  rw[e];exact ih bo
 intro i hi;have:=key (n-i) bo;have e:n-(n-i)=i:=by omega
 rwa [e]at this
structure Keeps(n:Nat)(own:Nat->Rat)(L:Nat->Option Nat)(r f:Int)(q:Nat->Rat):Prop where
 own:∀i,i<=n->q i<=own i
 rise:∀i m,i<n->L i=some m->q (i+1)<=q i+((r*(m:Int):Int):Rat)
 Nt:∀i m,i<n->L i=some m->q i<=q (i+1)+((f*(m:Int):Int):Rat)
theorem UN(hr:0<=r)(hf:0<=f):Keeps n own L r f (gz n own L r f):=⟨λi hi=>UM hi,λi m hi h=>UL hi h hr hf,λi m hi h=>UO hi h⟩
theorem yd{q:Nat->Rat}(k:Keeps n own L r f q):∀i,i<=n->q i<=Rz own L r i |0,hi=>k.own 0 hi |i+1,hi=>by cases h:L i with |none=>rw[mS h];exact k.own _ hi |some m=>rw[jP h];exact ky (k.own _ hi) (kR (k.rise i m au h) (add_r (yd k i au)))
theorem YY{q:Nat->Rat}(k:Keeps n own L r f q):∀i,i<=n->q i<=gz n own L r f i:=by
 refine down ?_ λi hi ih=>?_
 ·rw[Kx];exact yd k n (bj _)
 ·cases h:L i with |none=>rw[Kw hi h];exact yd k i au |some m=>rw[xI hi h];exact ky (yd k i au) (kR (k.Nt i m hi h) (add_r ih))
theorem UK{q:Nat->Rat}(hr:0<=r)(hf:0<=f)(k:Keeps n own L r f q)(g:∀q',Keeps n own L r f q'->∀i,i<=n->q' i<=q i):∀i,i<=n->q i=gz n own L r f i:=λi hi=>wm (YY k i hi) (g _ (UN hr hf) i hi)
end
open _d
theorem uJ{n:Nat}{a b:Rat}(h1:Bd n a)(h2:Bd n b):Bd n (mn a b):=by rcases xZ a b with e|e<;>rw[e]<;>assumption
theorem sI{n:Nat}{q:Rat}{z:Int}(h:Bd n q)(hz:z.natAbs<2^24):Bd (n+25) (q+(z:Rat)):=by have b:Bd 24 (z:Rat):=⟨hz,by show 1<2^24;decide⟩;exact(h.add b).mono au
theorem vJ{b:Nat}{own:Nat->Rat}{L:Nat->Option Nat}{r:Int}(ho:∀i,Bd b (own i))(hL:∀i m,L i=some m->(r*(m:Int)).natAbs<2^24):∀i,Bd (b+25*i) (Rz own L r i) |0=>ho 0 |i+1=>by cases h:L i with |none=>rw[mS h];exact(ho _).mono au |some m=>rw[jP h];exact uJ ((ho _).mono au) ((sI (vJ ho hL i) (hL i m h)).mono au)
theorem EY{n b:Nat}{g:Nat->Rat}{L:Nat->Option Nat}{f:Int}(ho:∀i,i<=n->Bd b (g i))(hL:∀i m,L i=some m->(f*(m:Int)).natAbs<2^24):∀i,i<=n->Bd (b+25*(n-i)) (fl n L f g i):=by
 refine down ?_ λi hi ih=>?_
 ·rw[nW];exact(ho n (bj _)).mono au
 ·cases h:L i with |none=>rw[pX hi h];exact(ho i au).mono au |some m=>rw[nX hi h];exact uJ ((ho i au).mono au) ((sI ih (hL i m h)).mono au)
def lst(n:Nat)(g:Nat->Rat):List Rat:=(List.range (n+1)).map g
theorem jH(n:Nat)(g:Nat->Rat):(lst n g).length=n+1:=by simp[lst]
theorem jq{n:Nat}(g:Nat->Rat){i:Nat}(h:i<=n):(lst n g)[i]? =some (g i):=by unfold lst;rw[bK,cI (by simp;lia),A4];rfl
theorem y9{n:Nat}{g g':Nat->Rat}{i:Nat}(h:∀k,k<=n->k≠i->g' k=g k):(lst n g).set i (g' i)=lst n g':=by
 apply Gw;intro k;by_cases hk:k<=n
 ·rw[jq g' hk,List.getElem?_set]
  by_cases e:i=k
  ·subst e;rw[aR rfl,aR (by rw[jH];lia)]
  ·rw[aU e,jq g hk,h k hk (λz=>e z.symm)]
 ·rw[oG (by rw[Gr,jH];lia),oG (by rw[jH];lia)]
theorem jI{n:Nat}{g g':Nat->Rat}(h:∀k,k<=n->g' k=g k):lst n g=lst n g':=by
 apply Gw;intro k;by_cases hk:k<=n
 ·rw[jq g hk,jq g' hk,h k hk]
 ·rw[oG (by rw[jH];lia),oG (by rw[jH];lia)]
end _P
namespace _O
open _P _C _l _d
abbrev Itm:=Option (List Int × Int)
def topR(rate sp:Int):Rat:=Rat.divInt ((sp*rate)^2) 10000
def cornO(j:Int)(ns ms:List Int):Option Rat:=if aL (cA ns ms)=0 then none else some (Rat.divInt ((j*aL ns*aL ms)^2) ((aL (cA ns ms):Int)^2))
def mnO(a:Rat):Option Rat->Rat |none=>a |some c=>mn a c
def betR(j rate:Int):Itm->Itm->Rat |some (ns,sp),some (ms,sq)=>mnO (mn (topR rate sp) (topR rate sq)) (cornO j ns ms) |_,_=>0
def atO(os:List Itm)(i:Nat):Itm:=(os[i]?).join
def ownF(j rate:Int)(os:List Itm):Nat->Rat |0=>0 |i+1=>betR j rate (atO os i) (atO os (i+1))
def leadF(os:List Itm)(i:Nat):Option Nat:=(atO os i).map λq=>aL q.1
def ownL(j rate:Int)(os:List Itm):List Rat:=(List.range (os.length+1)).map (ownF j rate os)
theorem sH{os:List Itm}{i:Nat}{o:Itm}(h:os[i]? =some o):atO os i=o:=by unfold atO;rw[h];rfl
theorem a5m{os:List Itm}{i:Nat}(h:os.length<=i):atO os i=none:=by unfold atO;rw[oG h];rfl
theorem OO(j rate:Int)(o:Itm):betR j rate o none=0:=by unfold betR;split<;>simp_all
theorem a5g(j rate:Int)(o:Itm):betR j rate none o=0:=by unfold betR;split<;>simp_all
theorem KU(j rate:Int)(os:List Itm):∀n,n=os.length->ownF j rate os n=0 |0,_=>rfl |n+1,h=>by show betR j rate (atO os n) (atO os (n+1))=0;rw[a5m (i:=n+1) au];exact OO _ _ _
theorem Vj(j rate:Int)(os:List Itm):(ownL j rate os).length=os.length+1:=by simp[ownL]
theorem Vk(j rate:Int)(os:List Itm){i:Nat}(h:i<=os.length):(ownL j rate os)[i]? =some (ownF j rate os i):=by unfold ownL;rw[bK,cI (by simp;lia),A4];rfl
theorem KR(j rate:Int){os:List Itm}(h:os≠[]):ownL j rate os=[0]++(List.range (os.length-1)).map (λi=>ownF j rate os (i+1))++[0]:=by
 have h0:0<os.length:=wA.mpr h;apply Gw;intro i;by_cases hi:i<=os.length
 ·rw[Vk j rate os hi]
  rcases Nat.eq_zero_or_pos i with rfl|hp
  ·rfl
  ·by_cases hl:i=os.length
   ·rw[A5 (by simp;lia),hl,KU j rate os _ rfl]
    have:os.length-([0]++List.map (λi=>ownF j rate os (i+1)) (List.range (os.length-1))).length=0:=by simp;lia
    rw[this];rfl
   ·rw[wC (by simp;lia),A5 (by simp;lia),bK]
    have e:i-[(0:Rat)].length=i-1:=rfl;rw[e,cI (by simp;lia),A4];show some _=some (ownF j rate os (i-1+1));rw[Nat.sub_add_cancel hp]
 ·rw[oG (by rw[Vj];lia),oG (by simp;lia)]
theorem Hc(rate sp:Int):0<=topR rate sp:=by
 unfold topR;rw[Gd ay,fG,fG,lW,lX];rcases Int.le_total 0 (sp*rate)with h|h
 ·exact wD h h
 ·exact Qr h h
theorem Sr(a:Int):0<=a^2:=by
 rw[fG,fG,lW,lX];rcases Int.le_total 0 a with h|h
 ·exact wD h h
 ·exact Qr h h
theorem a4G{j:Int}{ns ms:List Int}{c:Rat}(h:cornO j ns ms=some c):0<=c:=by
 unfold cornO at h;split at h
 ·cases h
 ·next h0=>
  cases h;rw[Gd]
  ·exact Sr _
  ·rw[fG,fG,lW,lX];exact qE au au
theorem a5h(j rate:Int)(o p:Itm):0<=betR j rate o p:=by
 unfold betR;split
 ·next ns sp ms sq=>
  have h:=ky (Hc rate sp) (Hc rate sq);unfold mnO;split
  ·exact h
  ·next c e=>exact ky h (a4G e)
 ·exact iK
theorem Vl(j rate:Int)(os:List Itm):∀i,0<=ownF j rate os i |0=>iK |i+1=>a5h _ _ _ _
def OkI(o:Itm):Prop:=∀ns sp,o=some (ns,sp)->(∀z∈ns,(z.natAbs:Int)<=100)/\1<=sp/\sp<=20
theorem Ak{a:Int}{m:Nat}(h:a.natAbs<=m):(a^2).natAbs<=m*m:=by rw[fG,fG,lW,lX];exact iX h h
theorem wX{rate sp:Int}(h1:1<=sp)(h2:sp<=20)(h3:10<=rate)(h4:rate<=200):Bd 64 (topR rate sp):=by
 have jv:(2:Nat)^64=18446744073709551616:=by decide
 have a:=Ak (iX (a:=sp) (b:=rate) (m:=20) (n:=200) au au);exact pF ay (by rw[jv];lia) ay
theorem Ft{j:Int}{ns ms:List Int}{c:Rat}(h1:1<=j)(h2:j<=50)(hn:∀z∈ns,(z.natAbs:Int)<=100)(hm:∀z∈ms,(z.natAbs:Int)<=100)(h:cornO j ns ms=some c):Bd 64 c:=by
 have jv:(2:Nat)^64=18446744073709551616:=by decide
 have cb:=zi (λz hz=>by have:=hn z hz;lia) (λz hz=>by have:=hm z hz;lia) (ns:=ns) (ms:=ms);have hb:=lC cb;have l1:=lC (ns:=ns) (m:=100) λz hz=>by have:=hn z hz;lia
 have l2:=lC (ns:=ms) (m:=100) λz hz=>by have:=hm z hz;lia
 unfold cornO at h;split at h
 ·cases h
 ·next h0=>cases h;have a:=Ak (iX (iX (a:=j) (b:=(aL ns:Int)) (m:=50) (n:=100) au au) (b:=(aL ms:Int)) (n:=100) au);have b:=Ak (a:=(aL (cA ns ms):Int)) (m:=2000000) au;refine pF ?_ (by rw[jv];lia) (by rw[jv];lia);rw[fG,fG,lW,lX];exact Gz au au
theorem uJ{n:Nat}{a b:Rat}(h1:Bd n a)(h2:Bd n b):Bd n (mn a b):=by rcases xZ a b with e|e<;>rw[e]<;>assumption
theorem A9:Bd 64 (0:Rat):=⟨ ay,ay⟩
theorem a5i{j rate:Int}{o p:Itm}(h1:1<=j)(h2:j<=50)(h3:10<=rate)(h4:rate<=200)(ho:OkI o)(hp:OkI p):Bd 64 (betR j rate o p):=by
 unfold betR;split
 ·next ns sp ms sq=>
  obtain⟨a1,a2,a3⟩:=ho ns sp rfl;obtain⟨b1,b2,b3⟩:=hp ms sq rfl;have h:=uJ (wX a2 a3 h3 h4) (wX b2 b3 h3 h4);unfold mnO;split
  ·exact h
  ·next c e=>exact uJ h (Ft h1 h2 a1 b1 e)
 ·exact A9
def OkIs(os:List Itm):Prop:=∀i,OkI (atO os i)
theorem CS{j rate:Int}{os:List Itm}(h1:1<=j)(h2:j<=50)(h3:10<=rate)(h4:rate<=200)(ho:OkIs os):∀i,Bd 64 (ownF j rate os i) |0=>A9 |i+1=>a5i h1 h2 h3 h4 (ho i) (ho (i+1))
end _O
namespace _W
open PySem _L
def ja(pl ns:List Int):List Int:=List.zipWith (λa b=>a+b) pl ns
theorem zA{pl ns:List Int}(h:ns.length=pl.length):(ja pl ns).length=pl.length:=by unfold ja;rw[List.length_zipWith,h];exact Nat.min_self _
theorem a5C{pl ns:List Int}{i:Nat}{a b:Int}(h1:pl[i]? =some a)(h2:ns[i]? =some b):(ja pl ns)[i]? =some (a+b):=by unfold ja;rw[List.getElem?_zipWith,h1,h2]
def gC(rs pl:List Int):Bool:=(pl.zip rs).all λp=>decide (0<=p.1)&&decide (p.1<=p.2)
structure fE(rs pl:List Int):Prop where
 len:pl.length=rs.length
 at':∀(i:Nat)(x r:Int),pl[i]? =some x->rs[i]? =some r->0<=x/\x<=r
theorem Vz{rs pl:List Int}(h:pl.length=rs.length):gC rs pl=true↔fE rs pl:=by
 unfold gC;rw[fh];constructor
 ·intro a
  refine⟨h,λi x r e1 e2=>?_⟩;have:=a (x,r) (fg ((oF (z:=(x,r))).mpr ⟨e1,e2⟩));rw[du,vZ,vZ]at this;exact this
 ·rintro a ⟨x,r⟩ hp
  obtain⟨i,hi⟩:=oE.mp hp;obtain⟨e1,e2⟩:=(oF (z:=(x,r))).mp hi;have:=a.at' i x r e1 e2;rw[du,vZ,vZ];exact this
end _W
namespace _P
section
variable {n:Nat}{own:Nat->Rat}{L:Nat->Option Nat}{r f:Int}
end
end _P
namespace _O
open _P _l _C
end _O
namespace _P
section
variable {n:Nat}{own KW:Nat->Rat}{L L':Nat->Option Nat}{r f:Int}
end
section
variable {n:Nat}{own KW q:Nat->Rat}{L:Nat->Option Nat}{r f r' f':Int}
end
end _P
namespace _O
open _P _l _C
end _O
namespace _P
section
variable {n:Nat}{own KW:Nat->Rat}{L L':Nat->Option Nat}{r f:Int}{c:Nat}
end
end _P
namespace _O
open _P
section
variable (j rate:Int) (os1 CV:List Itm)
end
end _O
namespace _P
section
variable {n:Nat}{own:Nat->Rat}{L:Nat->Option Nat}{r f:Int}
theorem Nh{g:Nat->Rat}{i:Nat}(hi:i<=n):fl n L f g i<=g i:=by
 rcases Nat.lt_or_ge i n with h|h
 ·cases e:L i with |none=>rw[pX h e];exact iK |some m=>rw[nX h e];exact xY _ _
 ·have:i=n:=by lia
  subst this;rw[nW];exact iK
theorem Ng{g:Nat->Rat}(hf:0<=f)(h0:∀i,i<=n->0<=g i):∀i,i<=n->0<=fl n L f g i:=by
 refine down ?_ ?_
 ·rw[nW];exact h0 n (bj _)
 ·intro i hi ih
  cases e:L i with |none=>rw[pX hi e];exact h0 i au |some m=>rw[nX hi e];exact ky (h0 i au) (rH ih (rC hf))
theorem a5W(hr:0<=r)(hf:0<=f):∀i,i<=n->Rz (fl n L f own) L r i=gz n own L r f i:=by
 refine UK hr hf ⟨λi hi=>kR (zD i) (Nh hi),λi m hi h=>?_,λi m hi h=>?_⟩ ?_
 ·rw[jP h];exact uI _ _
 ·rw[jP h]
  rcases xZ (fl n L f own (i+1)) (Rz (fl n L f own) L r i+((r*(m:Int):Int):Rat))with e|e
  ·rw[e]
   refine kR (zD i) ?_;rw[nX hi h];exact uI _ _
  ·rw[e]
   exact rH (rH iK (rC hr)) (rC hf)
 ·intro q' k
  have h1:∀i,i<=n->q' i<=fl n L f own i:=by
   refine down ?_ ?_
   ·rw[nW];exact k.own n (bj _)
   ·intro i hi ih
    cases e:L i with |none=>rw[pX hi e];exact k.own i au |some m=>rw[nX hi e];exact ky (k.own i au) (kR (k.Nt i m hi e) (add_r ih))
  intro i;induction i with |zero=>exact λhi=>h1 0 hi |succ i ih=>intro hi;cases e:L i with |none=>rw[mS e];exact h1 _ hi |some m=>rw[jP e];exact ky (h1 _ hi) (kR (k.rise i m au e) (add_r (ih au)))
theorem a2P{g:Nat->Rat}(hf:0<=f)(h0:∀i,i<=n->0<=g i)(hg:g 0=0):fl n L f g 0=g 0:=wm (Nh (dS _)) (by rw[hg];exact Ng hf h0 0 (dS _))
theorem a5V{g:Nat->Rat}(hr:0<=r)(h0:∀i,i<=n->0<=g i)(hg:g n=0):Rz g L r n=g n:=wm (zD n) (by rw[hg];exact P7 hr h0 n (bj _))
end
end _P
namespace _R
open _P _d _l
open _O (topR ownF leadF Itm OkIs)
structure Dd(D:Nat)(q:Rat):Prop where
 nn:0<=q
 den:q.den<2^D
theorem Dd.mono{D E:Nat}{q:Rat}(h:Dd D q)(l:D<=E):Dd E q:=⟨h.nn,fb h.den (t7 ay l)⟩
theorem Dd.bd{D:Nat}{q:Rat}(h:Dd D q)(hl:q<=2000):Bd (D+11) q:=by
 have h1:=Rat.num_nonneg.mpr h.nn;have pV:¬((2000:Rat)<q):=oz.mpr hl;rw[wk]at pV;have e1:(2000:Rat).num=2000:=rfl;have e2:(2000:Rat).den=1:=rfl;rw[e1,e2]at pV;have h2:q.num<=2000*(q.den:Int):=by lia
 refine⟨?_,fb h.den (t7 ay au)⟩;have h3:=h.den;have h4:q.num.natAbs<=2000*q.den:=by lia
 have h5:(2:Nat)^(D+11)=2^D*2048:=by rw[Nat.pow_add]
 rw[h5];have h6:2000*q.den<2000*2^D:=Nat.mul_lt_mul_of_pos_left h3 ay
 lia
abbrev qo:=Option (Rat × Int × Int)
def a5U(D:Nat)(pc:Rat):qo->Prop |none=>True |some (sq,st,gn)=>0<=gn/\gn<=st/\st<=1000/\Dd D sq/\sq<=2000/\(st=0->pc=0)/\pc*(st:Rat)<=sq*((st-gn:Int):Rat)
def Halt(pc:Rat)(ek:qo):Prop:=ek≠none/\pc=0
section
variable {D:Nat}{r f:Int}{pc top R:Rat}{left:Int}{ek:qo}
end
end _R
namespace _L
open PySem PySem.Spec PyProof.Rows
theorem a4z(f:Array Value->Array Value)(o:Obj):(o.mapFields f).dict=o.dict:=by obtain⟨c,d,dt,sl⟩:=o;cases dt<;>rfl
def TrD(h B:Heap)(ex:Addr)(cls:Value)(dx:Option Addr)(fl:Value):Prop:=∃ob fs tb ot ts,h.get? ex=some ob/\ob.cls=cls/\ob.dict=dx/\ob.data= .fields fs/\fs[1]? =some (.ref tb)/\B.get? tb=none/\tb≠ex/\h.get? tb=some ot/\ot.data= .fields ts/\ts[3]? =some fl/\fs[2]? =some .none
def jc(B:Heap)(l:List Env)(ex:Addr)(cls:Value)(dx:Option Addr)(fl:Value)(h:Heap):Prop:=B.StaysIn h/\B.get? ex=none/\h.FunFrames B l/\TrD h B ex cls dx fl
theorem jc.there{B h:Heap}{l:List Env}{ex:Addr}{cls fl:Value}{dx:Option Addr}(x:jc B l ex cls dx fl h):∃ob,h.get? ex=some ob/\ob.cls=cls/\ob.dict=dx/\∃fs,ob.data= .fields fs/\fs[2]? =some .none:=by obtain⟨_,_,_,ob,fs,_,_,_,e,c,d,z,_,_,_,_,_,_,z2⟩:=x;exact⟨ob,e,c,d,fs,z,z2⟩
section
variable {M:Model}{A:ai}{E:Value->ae->Prop}{s:ae}{B:Heap}{env:Env}{outer:List Env}{L ex:Addr}{ob:Obj}{fs:Array Value}{head:Value}{nx:Bool}{Q:Unit->ae->Prop}{cls fl:Value}{dx:Option Addr}
theorem NP(hA:A.frames=some (env::outer))(ff:s.heap.FunFrames B (env::outer))(hL:env.frame=some L)(ho:s.heap.get? ex=some ob)(st:B.StaysIn s.heap)(hB:B.get? ex=none)(hd:ob.data= .fields fs)(hz:1<fs.size)(fm:fs[2]? =some .none) (q:∀h',jc B (env::outer) ex ob.cls ob.dict (rawInt L) h'->s.heap.UpToSlots h'->Q () {s with heap:=h'}): wpAny M A (do let a<-frameOf env;let pl<-entryPlaceOf L nx;let b<-EntryCells.newEntry head a .none (rawInt L) .none pl;setField (.ref ex) 1 b) Q E s:=by
 have ku:ex∉(env::outer).filterMap (·.frame):=λhm=>by obtain⟨_,o,e1,nf⟩:=ff.mem hm;rw[ho]at e1;cases e1;exact nf fs hd
 refine aA (wpAny_frameOf_fun hA ff hL λg1 k1=>aA (wpAny_entryPlaceOf λpl hp=>?_));unfold EntryCells.newEntry newFields;refine aA (lT ?_ (hp.sizeOk5 _ _ _ _ _));have o1:g1.get? ex=some ob:=(k1.2.1 ex ku).trans ho;have Hy:B.StaysIn g1:=λb o e=>(k1.2.1 b λhm=>by rw[(ff.mem hm).1]at e;cases e).trans (st b o e);generalize hT:({cls:=.type "traceback",dict:=none,data:=.fields ([head,.ref L,.none,rawInt L,.none]++(if pl.isEmpty then List.replicate 6 Value.none else pl)).toArray}:Obj)=T;have o2:(g1.push T).get? ex=some ob:=bL T o1;refine zL o2 hd hz (q _ ?_ ?_);all_goals have ne:g1.objs.size≠ex:=qB (bN o1)
 all_goals have keep:∀b o,b≠ex->g1.get? b=some o->((g1.push T).update ex (Obj.mapFields (·.setIfInBounds 1 (Value.ref g1.objs.size)))).get? b=some o:=λb o nb e=>by rw[wG _ _ (iL nb)];exact bL _ e
 all_goals have nJ:∀b o,s.heap.get? b=some o->(∀vs,o.data≠ .fields vs)->b≠ex:=λb o e nf z=>by rw[z,ho]at e;cases e;exact nf fs hd
 ·have d3:=zX hd (·.setIfInBounds 1 (Value.ref g1.objs.size))
  have o3:=A7 (Obj.mapFields (·.setIfInBounds 1 (Value.ref g1.objs.size))) o2 (Qa d3);refine⟨λb o e=>keep b o (λz=>by rw[z,hB]at e;cases e) (Hy b o e),hB,ff.of_keeps λb o e nf=>?_,?_⟩
  ·obtain⟨sl,e1⟩:=k1.2.2 b o e
   exact⟨_,keep b _ (nJ b o e nf) e1,Z⟩
  ·refine⟨_,_,g1.objs.size,T,_,o3,Obj.cls_mapFields _ _,a4z _ _,d3,by simp[hz],Hy.fresh,ne,?_,by rw[<-hT],?_⟩
   ·rw[wG _ _ (iL ne)];exact cK g1 (by rw[<-hT];rfl)
   ·refine⟨?_,by simpa using fm⟩
    first|(simp;done)|(rcases hp with rfl|⟨_,_,_,_,_,_,_,rfl⟩<;>simp)
 ·intro b o e nf
  obtain⟨sl,e1⟩:=k1.2.2 b o e;exact⟨sl,keep b _ (nJ b o e nf) e1⟩
theorem Xs(hA:A.frames=some (env::outer))(ff:s.heap.FunFrames B (env::outer))(hL:env.frame=some L)(ho:s.heap.get? ex=some ob)(st:B.StaysIn s.heap)(hB:B.get? ex=none)(hd:ob.data= .fields fs)(h1:fs[1]? =some .none)(fm:fs[2]? =some .none) (q:∀h',jc B (env::outer) ex ob.cls ob.dict (rawInt L) h'->s.heap.UpToSlots h'->Q () {s with heap:=h'}):wpAny M A (noteFrame (.ref ex) env) Q E s:=by unfold noteFrame;simp only[hL];refine aA (gI ho hd h1 ?_);rw[aU ay];exact NP hA ff hL ho st hB hd (GG.mp h1).1 fm q
theorem Lr(hA:A.frames=some (env::outer))(hL:env.frame=some L)(x:jc B (env::outer) ex cls dx .none s.heap) (q:∀h',jc B (env::outer) ex cls dx (rawInt L) h'->s.heap.UpToSlots h'->Q () {s with heap:=h'}):wpAny M A (noteFrame (.ref ex) env) Q E s:=by
 obtain⟨st,hB,ff,ob,fs,tb,ot,ts,ho,rfl,rfl,hd,h1,yK,nt,ht,lH,h3,fm⟩:=x;unfold noteFrame;simp only[hL];refine aA (gI ho hd h1 ?_);rw[aR (show(Value.ref tb !=Value.none)=true from by simp)];refine aA (gI ht lH h3 ?_);rw[aU (show¬((Value.none==rawInt L)=true)from by simp[rawInt])];refine aA (zL ht lH (GG.mp h3).1 ?_);have other:∀b,b≠tb->(s.heap.update tb (Obj.mapFields (·.setIfInBounds 3 Value.none))).get? b=s.heap.get? b:=λb nb=>wG _ _ (iL nb);have nJ:∀b o,s.heap.get? b=some o->(∀vs,o.data≠ .fields vs)->b≠tb:=λb o e nf z=>by rw[z,ht]at e;cases e;exact nf ts lH
 refine NP (s:={s with heap:=s.heap.update tb (Obj.mapFields (·.setIfInBounds 3 Value.none))}) hA (ff.of_keeps λb o e nf=>⟨o,(other b (nJ b o e nf)).trans e,Z⟩) hL ((other ex (iL nt)).trans ho) (λb o e=>(other b λz=>by rw[z,yK]at e;cases e).trans (st b o e)) hB hd (GG.mp h1).1 fm λh' y up=>q h' y λb o e nf=>up b o ((other b (nJ b o e nf)).trans e) nf
theorem yU{l:List Env}(x:jc B l ex cls dx fl s.heap)(q:∀h',jc B l ex cls dx .none h'->s.heap.UpToSlots h'->Q () {s with heap:=h'}):wpAny M A (setFlight (.ref ex) none) Q E s:=by
 obtain⟨st,hB,ff,ob,fs,tb,ot,ts,ho,hc,hx,hd,h1,yK,nt,ht,lH,h3,fm⟩:=x;have z3:3<ts.size:=(GG.mp h3).1;have other:∀b,b≠tb->(s.heap.update tb (Obj.mapFields (·.setIfInBounds 3 ((none:Option Addr).elim Value.none λf=>rawInt f)))).get? b=s.heap.get? b:=λb nb=>wG _ _ (iL nb);have nJ:∀b o,s.heap.get? b=some o->(∀vs,o.data≠ .fields vs)->b≠tb:=λb o e nf z=>by rw[z,ht]at e;cases e;exact nf ts lH
 unfold setFlight;refine aA (gI ho hd h1 ?_);rw[aR (show(Value.ref tb !=Value.none)=true from by simp)];refine zL ht lH z3 (q _ ⟨λb o e=>(other b λz=>by rw[z,yK]at e;cases e).trans (st b o e),hB,ff.of_keeps λb o e nf=>⟨o,(other b (nJ b o e nf)).trans e,rfl⟩,?_⟩ λb o e nf=>⟨o.slots,(other b (nJ b o e nf)).trans e⟩);exact⟨ob,fs,tb,_,_,(other ex (iL nt)).trans ho,hc,hx,hd,h1,yK,nt,A7 _ ht (Qa (zX lH _)),zX lH _,by simp[z3],fm⟩
theorem M1(hA:A.frames=some (env::outer))(ff:s.heap.FunFrames B (env::outer))(hL:env.frame=some L)(ho:s.heap.get? ex=some ob)(st:B.StaysIn s.heap)(hB:B.get? ex=none)(hd:ob.data= .fields fs)(h1:fs[1]? =some .none)(fm:fs[2]? =some .none) (q:∀h',jc B outer ex ob.cls ob.dict .none h'->s.heap.UpToSlots h'->Q () {s with heap:=h'}):wpAny M A (leaving env (.ref ex)) Q E s:=by unfold leaving;refine aA (Xs hA ff hL ho st hB hd h1 fm λh1 x1 u1=>yU x1 λh2 x2 u2=>q h2 ?_ (u1.trans u2));obtain⟨a,b,⟨_,_,c⟩,d⟩:=x2;exact⟨a,b,c,d⟩
theorem YN(hA:A.frames=some (env::outer))(hL:env.frame=some L)(x:jc B (env::outer) ex cls dx .none s.heap) (q:∀h',jc B outer ex cls dx .none h'->s.heap.UpToSlots h'->Q () {s with heap:=h'}):wpAny M A (leaving env (.ref ex)) Q E s:=by unfold leaving;refine aA (Lr hA hL x λh1 x1 u1=>yU x1 λh2 x2 u2=>q h2 ?_ (u1.trans u2));obtain⟨a,b,⟨_,_,c⟩,d⟩:=x2;exact⟨a,b,c,d⟩
end
end _L
namespace _L
open PySem PySem.Spec PyProof.Rows
open Builtin Builtin.ObjectAttr
def oM:List Value:=[.type "ValueError",.type "Exception",.type "BaseException",.type "object"]
def mi:List Value->Bool | .ref _::r=>mi r |l=>l==oM
theorem U7(self:Value){l:List Value}(e:mi l=true):refuseLoop self "__setattr__" l=pure ():=by induction l with |nil=>simp[mi,oM]at e |cons v r ih=>cases v with |ref c=>rw[refuseLoop_ref];exact ih (by simpa[mi]using e) |_=>have e':=dr.mp (show(_==oM)=true from e);rw[e'];exact PySem.F.store_ValueError.passes self
theorem a0Q{t:String}(ht:(oM.contains (.type t))=true):∀{l:List Value},mi l=true->l.contains (.type t)=true |l,e=>by induction l with |nil=>simp[mi,oM]at e |cons v r ih=>cases v with |ref c=>rw[Qm,ih (by simpa[mi]using e),Bool.or_true] |_=>have e':=dr.mp (show(_==oM)=true from e);rw[e'];exact ht
def KY(K:aa)(C:Addr):Bool:=(PySem.W.clsIn K C).any λcd=>mi cd.mro
section
variable {prog:af}{w:World}{A:ai}{E:Value->ae->Prop}{s:ae}{K:aa}{x C:Addr}{ox:Obj}{fs:Array Value}{name:Str}{v:Value}{Q:Unit->ae->Prop}
theorem SS(X:K.In s.heap)(hx:s.heap.get? x=some ox)(hc:ox.cls= .ref C)(hd:ox.dict=none)(hf:ox.data= .fields fs) (hs:PySem.W.findIn K (.ref C) "__setattr__"=some (some (.builtin "object.__setattr__")))(hp:KY K C=true)(ht:PySem.W.takerIn K C name=some none)(hh:PySem.W.hasDictIn K C=true) (h:∀h',h'.get? x=some {ox with dict:=some s.heap.objs.size}->h'.Ns1 s.heap.objs.size (λy=>if y=name then some v else none)->(∀b o,b≠x->s.heap.get? b=some o->h'.get? b=some o)->Q () {s with heap:=h',toks:=s.toks+2}): wpAny (model prog w) A (setAttr (.ref x) name v) Q E s:=by
 have I:PySem.W.InstAt s.heap x ox C none:=⟨hx,hc,by unfold PySem.W.notCls;rw[hf],by rw[hd];trivial⟩;refine PySem.W.set_plain X I hs ?_;have SF:=PySem.F.store_object;obtain⟨cd,e9,ho⟩:=PY hp;have ne:cd.mro.isEmpty=false:=by cases q:cd.mro with|nil=>rw[q]at ho;simp[mi,oM]at ho|cons _ _=>rfl
 have sub:PySem.W.Looks (model prog w) s.heap (isInstance (.ref x) (.type "object")) true:=I.type.andThen (PySem.W.looks_mroIn X (by unfold PySem.W.mroIn;rw[e9,Option.bind_some,aU (by rw[ne];decide),a0Q ay ho]));refine zR SF.slot.plain SF.entry (@PySem.W.check_slot (model prog w) _ _ {s with toks:=s.toks+1} "object.__setattr__" "object" "__setattr__" (.ref x) [.str name s.toks,v] [] _ SF.kind SF.split sub (SF.args (.ref x) (.str name s.toks) v) ?_);obtain⟨attr,ha,hr⟩:=Option.bind_eq_some_iff.mp ht;have hm:PySem.W.Looks (model prog w) s.heap (mroOf (.ref C)) cd.mro:=(PU X e9).andThen .now;have L3:PySem.W.Looks (model prog w) s.heap (storeTaker? attr) none:=by cases attr with |none=>exact .now |some a=>obtain⟨b,hb,e⟩:=wu.mp hr;refine(PySem.W.looks_takesIn X hb).andThen ?_;cases b with |false=>exact .now |true=>cases e
 rw[PySem.W.osa_eq,refuse_eq];refine aA (aA (sY (s:={s with toks:=s.toks+1}) I.type (aA (sY (s:={s with toks:=s.toks+1}) hm ?_))));rw[U7 _ ho];refine bw (aA (sY (s:={s with toks:=s.toks+1}) I.type (aA (sY (s:={s with toks:=s.toks+1}) (PySem.W.looks_findIn X ha) (aA (sY (s:={s with toks:=s.toks+1}) L3 ?_))))));obtain⟨cd2,fm,hd2⟩:=PY hh;refine aA (bw (aA (aA (wpAny_loadPart (s:={s with toks:=s.toks+1}) hx ?_))));rw[hc];refine aA (sY (s:={s with toks:=s.toks+1}) (PU X fm) ?_);rw[hd2,hd,hf];rw[aU ay];show wpAny _ _ (if(!true|| !typeHasDict (Value.ref C))=true then _ else _) _ _ _;rw[aU (by simp[typeHasDict])];have x1:(s.heap.push {cls:=.type "dict",data:=.dict #[]}).get? x=some ox:=bL _ hx;have nx:x≠s.heap.objs.size:=dA (bN hx);refine aA (wpAny_alloc' (aA (wpAny_update' x1 (bw ?_))));have gd:((s.heap.push {cls:=.type "dict",data:=.dict #[]}).update x λo=>{cls:=o.cls,dict:=some s.heap.objs.size,data:=o.data,slots:=o.slots}).get? s.heap.objs.size=some {cls:=.type "dict",data:=.dict #[]}:=(Heap.get?_update_ne _ _ _ _ nx.symm).trans (Heap.get?_push_at Z rfl);have n0:((s.heap.push {cls:=.type "dict",data:=.dict #[]}).update x λo=>{cls:=o.cls,dict:=some s.heap.objs.size,data:=o.data,slots:=o.slots}).Ns s.heap.objs.size (λ_=>none):=⟨_,#[],_,gd,Z,(λe he=>absurd he (by simp)),λ_=>rfl⟩;show wpAny _ _ (storeInDict s.heap.objs.size (.str name s.toks) name v) _ _ _;unfold storeInDict newKeyGuard;refine aA (bw (aA (wpAny_nsSet1 (Heap.Ns1.of_empty n0) λh2 n2 sb=>?_)));obtain⟨oD,esD,epD,e1,e2,e3⟩:=n2.count (PySem.Within.cons name v PySem.Within.nil);refine aA (wpAny_lookBehind e1 (by rw[e2];exact pastItsLine_dict (fc e3 (by rw[gb,List.length_nil,sV];lia))) ?_);refine bw (h h2 ?_ n2 λb o nb e=>?_)
 ·refine(sb.2 x nx).trans (A7 _ x1 ?_)
  obtain⟨oc,od,D7,dX⟩:=ox;cases hf;rfl
 ·exact(sb.2 b (dA (bN e))).trans ((Heap.get?_update_ne _ _ _ _ nb).trans (bL _ e))
end
end _L
namespace _L
open PySem PySem.Spec PyProof.Rows
def qt(ex C:Addr)(h:Heap):Prop:=∃ob fs,h.get? ex=some ob/\ob.cls= .ref C/\ob.dict=none/\ob.data= .fields fs/\fs[1]? =some .none/\fs[2]? =some .none
def mX(ex C dx:Addr)(h:Heap):Prop:=∃ob fs,h.get? ex=some ob/\ob.cls= .ref C/\ob.dict=some dx/\ob.data= .fields fs/\fs[1]? =some .none/\fs[2]? =some .none
structure FQ(K:aa)(C:Addr)(f:Str):Prop where
 sa:PySem.W.findIn K (.ref C) "__setattr__"=some (some (.builtin "object.__setattr__"))
 ov:KY K C=true
 tk:PySem.W.takerIn K C f=some none
 hd:PySem.W.hasDictIn K C=true
inductive a7k(K:aa)(f:Str)(D:Ends)(O:St)(y:V)(x:V)(H2:Hp):Prop |mk (ex:_)(C:_)(h0:x= .ref ex)(h1:H2 ex=some (.ext (qt ex C)))(h2:FQ K C f)(h3:∀dx,H2 dx=none->dx≠ex->D.nx O (upd (upd H2 dx (.xd [(f,y)])) ex (.ext (mX ex C dx))))
def Tf(K:aa)(ta tv:TE)(f:Str):TS:=λD O H=>tv O H λy H1=>ta O H1 λx H2=>a7k K f D O y x H2
section
variable {X:Cx}{o e value:Expr}{f:Str}{pos pos' oO:Pos}{ta tv:TE}
theorem UE(K:aa)(hK:X.K=K)(ha:PE X o ta)(hv:PE X value tv)(hs:autoParam (swapsWith value (some (.Attribute o f pos')) pos.line X.env=pure false) r8_._auto_1):PS X (.Assign [.Attribute o f pos'] value pos) (Tf K ta tv f):=by
 subst hK;intro pins s O H D I h;refine plainObj_wpAny_Assign_Attribute (aV (hv pins s O H _ I h) λu s1 ⟨y,H1,I1,ry,q⟩=>aV (ha pins s1 O H1 _ I1 q) λov s2 ⟨x,H2,I2,rx,ex,C,e1,ee,xc,q2⟩=>?_) hs;subst e1;obtain rfl:ov=Value.ref ex:=rx;obtain⟨⟨ob,fs,g1,g2,g3,g4,g5,g6⟩,_,_⟩:=(show eR X.prog X.w H2 s2.heap ex (.ext (qt ex C))from I2.aW ex _ ee);refine SS I2.dE g1 g2 g3 g4 xc.sa xc.ov xc.tk xc.hd λh' k1 k2 k3=>?_;have ne:s2.heap.objs.size≠ex:=qB (bN g1);have fr:H2 s2.heap.objs.size=none:=I2.aW.fresh (bj _);obtain⟨oD,es,ep,d1,d2⟩:=id k2;have hmD:(s2.heap.push oD).get? s2.heap.objs.size=some oD:=cK _ (by obtain⟨oc,od,D7,dX⟩:=oD;have:D7= .dict es ep:=d2.1;subst this;rfl);have Ep:eR X.prog X.w (upd H2 s2.heap.objs.size (.xd [(f,y)])) (s2.heap.push oD) s2.heap.objs.size (.xd [(f,y)]):=by
  refine⟨_,k2.at λo e=>?_,λg=>?_⟩
  ·rw[d1]at e;cases e;exact hmD
  ·by_cases q:g=f
   ·subst q
    simp only[List.lookup,wg,qz];exact ry
   ·have:(g==f)=false:=by simpa using q
    simp only[List.lookup,this,aU q];trivial
 have J1:=I2.laid (a:=s2.heap.objs.size) (o:=.xd [(f,y)]) (h':=s2.heap.push oD) (t':=s2.toks+2) (λb u q=>bL _ q) (bj _) Ep;have J2:=J1.write (x:=ex) (e:=ex) (o:=.ext (mX ex C s2.heap.objs.size)) (h':=h') (t':=s2.toks+2) (by rw[bh ne.symm,ee];trivial) (.inl Z) (λb u nb e=>by
  rcases Qt e with⟨rfl,rfl⟩|e
  ·exact d1
  ·exact k3 b u nb e) ⟨_,k1⟩ ⟨⟨_,fs,k1,g2,Z,g4,g5,g6⟩,⟨_,k1⟩,λh1 h2 ⟨km,rZ,z1,z2⟩ k=>⟨km,rZ,k _ z1,z2⟩⟩;exact⟨O,_,J2,q2 _ fr ne⟩
end
abbrev NB(rest:List Value):Obj:={cls:=.type "tuple",data:=.seq rest.toArray}
abbrev Fb(C t:Addr):Obj:={cls:=.ref C,data:=.fields #[.ref t,.none,.none,.none,.bool false,.none]}
abbrev kN(h:Heap)(C:Addr)(rest:List Value):Heap:=(h.push (NB rest)).push (Fb C h.objs.size)
section
variable {prog:af}{w:World}{A:ai}{E:Value->ae->Prop}{h:Heap}{g:Array GenState}{d:Drawn}{t:Nat}{os:OsState}
variable {nm q:Str}{C N fI:Addr}{bs bm dJ:List Value}{hdct:Bool}{sn:List Str}{sub:List Value}{ab:Bool}{col:Option Bool}{dd:Option Addr}{k0 k1 k2 k3 k5:Option Value}{B newId rL:String}{mN:bf}{rest:List Value}{oI:Obj}
theorem NC:(kN h C rest).get? (h.objs.size+1)=some (Fb C h.objs.size):=by have:=cK (h.push (NB rest)) (o:=Fb C h.objs.size) rfl;rwa [lY]at this
theorem su{b:Addr}{o:Obj}(e:h.get? b=some o):(kN h C rest).get? b=some o:=bL _ (bL _ e)
theorem Rq(F:ExcBaseFacts B newId rL dJ)(T:OwnTail h dJ bm){Q:Fin->ae->Prop}(hC:h.get? C=some (excClassObj nm q C N bs bm hdct sn sub ab col dd k0 k1 k2 k3 k5 newId))(hn:h.Ns N mN)(hi:mN "__init__"=some (.ref fI)) (hf:h.get? fI=some oI)(Em:oI.cls= .type "function")(hz:rest.length<=sizeLine) (hq:wpAny (model prog w) A (call (.ref fI) (.ref (h.objs.size+1)::rest)) (λr s'=>r= .none/\Q (.done (.ret (.ref (h.objs.size+1)))) s') E ⟨kN h C rest,g,d,t,os⟩): wpAny (model prog w) A (Builtin.«type.__call__» ⟨.ref C::rest,[]⟩) Q E ⟨h,g,d,t,os⟩:=by
 repeat (first|with_reducible refine qy hC ?_|with_reducible refine wpAny_madeBy_exc hC ?_|wp_step)
 refine codeAny_call_builtin_code (Code.quiet_builtin _ F.quiet) (wpAny_check_new_subT F T hC (codeAny_exc_new_subT F T hC ?_ hz));show wpAny _ _ _ _ _ _;have c1:=su (C:=C) (rest:=rest) hC;have f1:=su (C:=C) (rest:=rest) hf;have n1:(kN h C rest).Ns N mN:=let⟨o,es,ep,e,r⟩:=hn;⟨o,es,ep,su e,r⟩;have x1:=NC (h:=h) (C:=C) (rest:=rest);have cc:(Value.ref C::bm).contains (.ref C)=true:=by simp
 have T1:=T.keeps (h':=kN h C rest) λb o e=>su e;unfold isInstance
 repeat (first|with_reducible refine qy x1 ?_|(with_reducible refine G6 c1 ?_;rw[cc])|wp_step)
 show wpAny _ _ (typeLookup (.ref C) _) _ _ _;refine wpAny_typeLookup_tail c1 n1 T1 F.mroIs F.init.lookup ?_;rw[hi];refine gH (aA ?_);unfold bindSpecial;refine aA (wpAny_typeOf (T:="function") ⟨_,f1,Em⟩ ?_);rw[aR ay];refine bw (aA (fP hq (λr s' ⟨e,z⟩=>?_) λ_ _ z=>z));subst e
 wp_walk;exact z
theorem a58(F:ExcBaseFacts B newId rL dJ)(T:OwnTail h dJ bm){Q:Value->ae->Prop}(hC:h.get? C=some (excClassObj nm q C N bs bm hdct sn sub ab col dd k0 k1 k2 k3 k5 newId))(hn:h.Ns N mN)(hi:mN "__init__"=some (.ref fI)) (hf:h.get? fI=some oI)(Em:oI.cls= .type "function")(hz:rest.length<=sizeLine) (hq:wpAny (model prog w) (A.under (.builtin "type.__call__" ⟨.ref C::rest,[]⟩)) (call (.ref fI) (.ref (h.objs.size+1)::rest)) (λr s'=>r= .none/\Q (.ref (h.objs.size+1)) s') E ⟨kN h C rest,g,d,t,os⟩): wpAny (model prog w) A (call (.ref C) rest) Q E ⟨h,g,d,t,os⟩:=by
 have f1:=tc_lookup;have f2:=tc_bind (.ref C);have hT:(⟨h,g,d,t,os⟩:ae).TypeIs (.ref C) "type":=⟨_,hC,Z⟩;refine ow (codeAny_of_tree ?_);show wpAny _ _ (callAny (.ref C) _) _ _ _
 repeat (any_goals (first|assumption|with_reducible refine qy hC ?_|wp_step))
 refine⟨Z,codeAny_call_builtin_at (Code.quiet_builtin _ aI) entry_typeCall (wpAny_check_type_call_sub hC (Rq F T hC hn hi hf Em hz ?_))⟩;exact hq
end
section
variable {M:Model}{A:ai}{E:Value->ae->Prop}{env:Env}{nm q:Str}{C N:Addr}{bs bm:List Value}{hdct:Bool}{sn:List Str}{sub:List Value}{ab:Bool}{col:Option Bool}{dd:Option Addr}{k0 k1 k2 k3 k5:Option Value}{newId:String}
theorem Uh{s:ae}{x:Sem Value}{Q:Flow->ae->Prop}(hb:bm.contains (.type "BaseException")=true)(hh:A.handled=none) (h:wpAny M A x (λv s1=>∃e oe fs,v= .ref e/\s1.heap.get? C=some (excClassObj nm q C N bs bm hdct sn sub ab col dd k0 k1 k2 k3 k5 newId)/\s1.heap.get? e=some oe/\oe.cls= .ref C/\oe.data= .fields fs/\fs[1]? =some .none/\E (.ref e) s1) E s): wpAny M A (raiseStmt env (some x) none) Q E s:=by
 have cb:(Value.ref C::bm).contains (.type "BaseException")=true:=by rw[Qm,hb,Bool.or_true]
 unfold raiseStmt;refine aA (fP h (λv s1 ⟨e,oe,fs,ev,hC,he,hc,lH,h1,hE⟩=>?_) λ_ _ z=>z);subst ev;obtain⟨hp,g,d,tk,os⟩:=s1;obtain⟨oc,odd,D7,dX⟩:=oe;cases hc;cases lH
 repeat (first|with_reducible refine qy he ?_|with_reducible refine qy hC ?_|(with_reducible refine G6 hC ?_;rw[cb])|rw[h1]|wp_step)
 exact wpAny_raiseNew_none hh hE
end
def jB(P:af)(w:World):iJ:=λouter H s E e s'=>∃(ex:Addr)(cls:Value)(dx:Option Addr)(H':Hp)(B:Heap),e= .ref ex/\s'.os=s.os/\AllBare s'.gens/\jc B outer ex cls dx .none s'.heap/\Fl P w outer H s.heap ex H' B s'.heap/\E cls dx H'
theorem Fq{H:Hp}{p:Addr}:del H p p=none:=by unfold del;rw[aR rfl]
theorem qd{H:Hp}{p b:Addr}(h:b≠p):del H p b=H b:=by unfold del;rw[aU h]
theorem da.del{P:af}{w:World}{H:Hp}{h:Heap}{p:Addr}{φ:Heap->Prop}(ok:da P w H h)(e:H p=some (.ext φ)):da P w (del H p) h:=λb u q=>by
 obtain⟨nb,q⟩:=Ob.mp q;refine(ok b u q).jY (λ_ _ _ z=>z) (λc z=>?_) λc xs z=>?_
 ·rw[qd (λy=>by rw[y,e]at z;cases z)];exact z
 ·rw[qd (λy=>by rw[y,e]at z;cases z)];exact z
section
variable {P:af}{w:World}{K:aa}{mg:bf}{ao:Heap}{N:List Str}{qual:Str}{scope:Scope}{f:Addr}{cd:Value}{A:ai}{outer:List Env}{s:ae}{H:Hp}{E:XK}{pins:List (Addr×Obj)}{O:St}{H1:Hp}{s1:ae}{ex:Addr}{C:Addr}{dx:Addr}
theorem QH(I:Inv (fB (jB P w) P w K mg ao N qual scope f cd A outer s H E) pins O H1 s1)(hx:H1 ex=some (.ext (mX ex C dx)))(hs:s.heap.objs.size<=ex)(q:E (.ref C) (some dx) (del H1 ex)): (fB (jB P w) P w K mg ao N qual scope f cd A outer s H E).xe (.ref ex) s1:=by
 have fk:s1.heap.FunFrames ao (envOfC qual scope s.heap.objs.size f cd::outer):=I.stack;have rS:∀env∈(envOfC qual scope s.heap.objs.size f cd::outer),∀b,env.frame=some b->b∈ex::cR (envOfC qual scope s.heap.objs.size f cd::outer):=λenv he b hb=>.tail _ (iM.mpr ⟨env,he,hb⟩);have hB:(PySem.W.hideAll s1.heap (ex::cR (envOfC qual scope s.heap.objs.size f cd::outer))).StaysIn s1.heap:=λb o e=>PR _ e;obtain⟨⟨ob,fs,g1,g2,g3,g4,g5,g6⟩,_,_⟩:=(show eR P w H1 s1.heap ex (.ext (mX ex C dx))from I.aW ex _ hx);have nw:s.heap.get? ex=none:=Heap.get?_none_of_le hs;have ku:∀b o,s.heap.get? b=some o->b∉cR outer->b∉ex::cR (envOfC qual scope s.heap.objs.size f cd::outer):=λb o e hb hm=>by
  rcases bS.mp hm with rfl|hm
  ·rw[nw]at e;cases e
  obtain⟨env,he,hf⟩:=iM.mp hm;rcases bS.mp he with rfl|he
  ·have e1:s.heap.objs.size=b:=cW hf
   have h1:=bN e;rw[<-e1]at h1;exact absurd h1 (ng _)
  ·exact hb (iM.mpr ⟨env,he,hf⟩)
 have Dl:∀b u,H1 b=some u->(∀φ,u≠ .ext φ)->del H1 ex b=some u:=λb u e n=>by rw[qd (λz=>by rw[z,hx]at e;exact n _ (cW e).symm)];exact e
 have F0:Fl P w outer H s.heap ex (del H1 ex) (PySem.W.hideAll s1.heap (ex::cR (envOfC qual scope s.heap.objs.size f cd::outer))) s1.heap:=by
  refine⟨⟨I.ao.keep,I.ao.slot,λb o e n hb=>?_,I.ao.there,λb xs e=>Dl b _ (I.ao.hZ b xs e) (λ_ z=>nomatch z),λb o u e=>Dl b _ (I.ao.gX b o u e) (λ_ z=>nomatch z),λb ps e=>?_⟩,I.aW.del hx,λb o e n hb=>sX _ (I.ao.keep b o e n hb (eS)) (ku b o e hb),λb o e=>?_,λb o e hb=>?_,λb hb=>?_,nw,Fq⟩
  ·by_cases z:b=ex
   ·rw[z];exact Fq
   ·rw[qd z];exact I.ao.free b o e n hb
  ·obtain⟨more,e1⟩:=I.ao.ib b ps e
   exact⟨more,Dl b _ e1 (λ_ z=>nomatch z)⟩
  ·obtain⟨nb,e⟩:=Ob.mp e
   obtain⟨km,e1⟩:=(I.aW b o e).there;refine⟨km,sX _ e1 λhm=>?_⟩;rcases bS.mp hm with z|hm
   ·exact nb z
   ·rw[I.qJ b hm]at e
    cases e
  ·obtain⟨km,e1⟩:=I.ao.there b o e (eS)
   exact⟨km,sX _ e1 (ku b o e hb)⟩
  ·obtain⟨env,he,hf⟩:=iM.mp hb
   have e1:=I.qJ b (iM.mpr ⟨env,.tail _ he,hf⟩);by_cases z:b=ex
   ·rw[z];exact Fq
   ·rw[qd z];exact e1
 show wpAny (model P w) (A.deeper (envOfC qual scope s.heap.objs.size f cd)) (leaving (envOfC qual scope s.heap.objs.size f cd) (.ref ex)) _ _ _;refine M1 (L:=s.heap.objs.size) I.ok.frames (PySem.W.funFrames_hide fk rS) Z g1 hB (PV _ (.head _)) g4 g5 g6 λh' x1 x2=>?_;exact⟨ex,.ref C,some dx,del H1 ex,_,Z,I.os,I.bare,by rw[g2,g3]at x1;exact x1,F0.step hB x1.1 x2 fk.2.2,q⟩
end
def F9(K:aa)(C fI:Addr)(dJ:List Value)(newId:String):Bool:=match K.lookup C with |some ⟨.type "type",_,.cls cd,sl⟩=>(match cd.mro,sl.toList with | .ref C'::bm,[_,_,_,_,some (.builtin n),_]=>C'==C&&n==newId&& !cd.hasDel&&PySem.W.tailIn K dJ bm&&PySem.W.nsOkIn K cd.ns&&(PySem.W.nsIn K cd.ns "__init__"==some (some (.ref fI))) |_,_=>false) |_=>false
structure qv(K:aa)(mg:bf)(x:Str)(C fI:Addr)(dJ:List Value)(newId:String):Prop where
 at':mg x=some (.ref C)
 ok:F9 K C fI dJ newId=true
theorem Xq{K:aa}{h:Heap}{N:Addr}{m:bf}{n:Str}{v:Value}(X:K.In h)(G:h.Ns N m)(e:PySem.W.nsIn K N n=some (some v)):m n=some v:=by
 obtain⟨o,es,ep,ho,hd,_,hf⟩:=G;unfold PySem.W.nsIn at e;split at e
 ·rename_i c d yW n' sl q
  have z:=X _ _ q;rw[ho]at z;cases z;cases hd;split at e
  ·rename_i en he
   cases e;rw[<-hf];unfold nsFind findBy;rw[<-Array.find?_toList,he];rfl
  ·split at e<;>cases e
 ·cases e
theorem qv.own{K:aa}{mg:bf}{x:Str}{C fI:Addr}{dJ:List Value}{newId:String}{h:Heap}(e:qv K mg x C fI dJ newId)(X:K.In h): ∃tl N nm q bs hdct sn sub ab col dd k0 k1 k2 k3 k5 mN,h.get? C=some (excClassObj nm q C N bs tl hdct sn sub ab col dd k0 k1 k2 k3 k5 newId)/\h.Ns N mN/\mN "__init__"=some (.ref fI)/\OwnTail h dJ tl:=by
 have q:=e.ok;unfold F9 at q;split at q
 ·rename_i dd cd sl ho
  split at q
  ·rename_i D2 bl a0 a1 a2 a3 nn a5 hm hs
   simp only[dr,du,tD]at q;obtain⟨⟨⟨⟨⟨r1,r2⟩,vf⟩,ht⟩,aW⟩,pO⟩:=q;subst r1 r2;obtain⟨c1,c2,c3,c4,c5,c6,c7,c8,c9,c10,c11⟩:=cd;dsimp only at hm vf aW pO;subst hm vf;obtain⟨l⟩:=sl;simp only at hs;subst hs;have G:=Heap.Ns.of_isNs (PySem.W.isNs_of_in X aW);exact⟨bl,c4,c1,c5,c2,c6,c7,c8,c9,c10,dd,a0,a1,a2,a3,a5,_,X _ _ ho,G,Xq X G pO,PySem.W.tail_of_in X ht⟩
  ·cases q
 ·cases q
def fnAt(K:aa)(f:Addr):Bool:=match K.lookup f with |some o=>o.cls== .type "function" |none=>false
theorem a2N{K:aa}{h:Heap}{f:Addr}(X:K.In h)(e:fnAt K f=true):∃o,h.get? f=some o/\o.cls= .type "function":=by
 unfold fnAt at e;split at e
 ·rename_i o ho
  exact⟨o,X _ _ ho,dr.mp e⟩
 ·cases e
def RH(E:XK)(C:Addr)(sp:Sp)(t:TA):TS:=λ_ O H=>t O H λvs H1=>vs.length<=sizeLine/\∀ex,H1 ex=none->sp (.ref ex::vs) (upd H1 ex (.ext (qt ex C))) (λv H2=>v= .aY/\∃dx,H2 ex=some (.ext (mX ex C dx))/\E (.ref C) (some dx) (del H2 ex)) (λ_ _ _=>False)
section
variable {X:Cx}{x:Str}{C fI:Addr}{dJ:List Value}{newId rL B:String}{e:Expr}{t:TA}{np bF pos:Pos}{k:Nat}{fd:FuncData}{ps:List Str}{sp:Sp}
theorem UH{E:XK}(hx:∀pins O H s ex dx,Inv X pins O H s->H ex=some (.ext (mX ex C dx))->X.s₀.heap.objs.size<=ex->E (.ref C) (some dx) (del H ex)->X.xe (.ref ex) s) (EC:qv X.K X.mg x C fI dJ newId)(FB:ExcBaseFacts B newId rL dJ)(hh:X.A.handled=none)(F:f9 X.prog X.w X.K X.mg X.ao g9 k fI fd ps sp)(hr:cu (k+1) X.A)(hb:Binds X.K fd ps [])(hf:fnAt X.K fI=true)(hg:Gl X x)(ha:PA X [e] t) (he:autoParam (starEach [e] X.env=[(false,eval e X.env)]) r8_._auto_1)(hd:autoParam ((x==("__debug__":Str))=false) q8_._auto_1): PS X (.Raise (some (.Call (.Name x np) [e] [] bF)) none pos) (RH E C sp t):=by
 intro pins s O H D I h;obtain⟨tl,Nn,nm,q,bs,hdct,sn,sub,ab,col,dd,k0,k1,k2,k3,k5,mN,hC,hN,hi,T⟩:=EC.own I.ok.mod.kz;have hA:=ha bF pins s O H _ I h;rw[arm_exec_Raise];refine aA (qw (Uh (C:=C) (nm:=nm) (q:=q) (N:=Nn) (bs:=bs) (bm:=tl) (hdct:=hdct) (sn:=sn) (sub:=sub) (ab:=ab) (col:=col) (dd:=dd) (k0:=k0) (k1:=k1) (k2:=k2) (k3:=k3) (k5:=k5) (newId:=newId) (T.hasType FB.hasBase) hh (aA (fP (wpAny_Call_ofName (mz I hg EC.at' ?_ hd)) (λv s3 h3=>aA (qw (bw h3))) λ_ _ z=>z))));unfold callWith;rw[he]at hA⊢;refine aA (gH (fP (GC (Q:=λ(a:Args) s2=>a.kw=[]/\AP X pins O (λvs H1=>vs.length<=sizeLine/\∀ex,H1 ex=none->sp (.ref ex::vs) (upd H1 ex (.ext (qt ex C))) (λv H2=>v= .aY/\∃dx,H2 ex=some (.ext (mX ex C dx))/\E (.ref C) (some dx) (del H2 ex)) (λ_ _ _=>False)) a.pos s2) (aV hA λus s2 z=>⟨Z,z⟩)) (λa s2 z=>aA (qw ?_)) λ_ _ z=>z));obtain⟨us,akw⟩:=a;obtain⟨hkw,vs,H1,I1,r1,z1,w1⟩:=z;obtain rfl:akw=[]:=hkw;have C2:=I1.bk _ _ hC;have T2:=T.keeps I1.bk;have N2:=hN.keeps I1.bk;obtain⟨oI,f1,f2⟩:=a2N I1.dE hf;have Yt:us.length<=sizeLine:=by rw[<-r1.length];exact z1
 obtain⟨hp,g,d,tk,os⟩:=s2;rw[show(backTo bF [(false,eval e X.env)]).any (·.1)=false from rfl];refine aA (wpAny_keeperOf_exc C2 ?_);have I1':Inv X pins O H1 ⟨kN hp C us,g,d,tk,os⟩:=I1.kept (t':=tk) (h':=kN hp C us) λb u e=>su e;have xa:=NC (h:=hp) (C:=C) (rest:=us);have fx:H1 (hp.objs.size+1)=none:=I1.aW.fresh (Nat.le_succ _);have I2:Inv X pins O (upd H1 (hp.objs.size+1) (.ext (qt (hp.objs.size+1) C))) ⟨kN hp C us,g,d,tk,os⟩:=by refine I1.laid (a:=hp.objs.size+1) (o:=.ext (qt (hp.objs.size+1) C)) (h':=kN hp C us) (t':=tk) (λb u e=>su e) (Nat.le_succ _) ?_;exact⟨⟨_,_,xa,Z,Z,Z,Z,Z⟩,⟨_,xa⟩,λh1 h2 ⟨km,rZ,y1,y2⟩ k=>⟨km,rZ,k _ y1,y2⟩⟩
 have hq:=w1 (hp.objs.size+1) fx;have r2:Vals (V.ref (hp.objs.size+1)::vs) (Value.ref (hp.objs.size+1)::us):=.cons Z r1;have hl:(Value.ref (hp.objs.size+1)::us++[]).length=ps.length:=by have e:=r2.length;rw[F.len _ _ _ _ hq]at e;rw[lV];exact e.symm
 have bt:=hb ⟨kN hp C us,g,d,tk,os⟩ (Value.ref (hp.objs.size+1)::us) I2.dE hl;rw[lV]at bt;refine aA (a58 FB T2 C2 N2 hi f1 f2 Yt (ow (we (F.run _ X.stack _ _ ⟨Value.ref (hp.objs.size+1)::us,[]⟩ (Value.ref (hp.objs.size+1)::us) _ _ (λ_ _ _=>False) (hr.make C us []) (I2.yY.make C us []) bt r2 hq) λr s' ju=>?_)));cases r with |error e=>exact False.elim ju |ok fl=>cases fl with |ret u=>obtain⟨v,H',I3,rv,ev,dx,ed,q3⟩:=I2.after ju;subst ev;refine⟨rv,aA (gH (wpAny_point (bw ?_)))⟩;obtain⟨⟨ob,fs,g1,g2,g3,g4,g5,g6⟩,_,_⟩:=(show eR X.prog X.w H' s'.heap _ (.ext (mX (hp.objs.size+1) C dx))from I3.aW _ _ ed);exact⟨_,ob,fs,Z,I3.bk _ _ hC,g1,g2,g4,g5,hx pins O H' s' _ dx I3 ed (fc I1.sz (Nat.le_succ _)) q3⟩ |next=>exact False.elim ju |brk=>exact False.elim ju |cont=>exact False.elim ju
end
def jA(ex:Addr)(cls:Value)(dx:Option Addr)(h:Heap):Prop:=∃o,h.get? ex=some o/\o.cls=cls/\o.dict=dx/\∃fs,o.data= .fields fs/\fs[2]? =some .none
def ClsAt(K:aa)(C:Addr):Prop:=∀h,K.In h->∃nm q N bs tl hdct sn sub ab col dd k0 k1 k2 k3 k5 newId,h.get? C=some (excClassObj nm q C N bs tl hdct sn sub ab col dd k0 k1 k2 k3 k5 newId)
theorem qv.cls{K:aa}{mg:bf}{x:Str}{C fI:Addr}{dJ:List Value}{newId:String}(e:qv K mg x C fI dJ newId):ClsAt K C:=λh X=>by obtain⟨tl,N,nm,q,bs,hdct,sn,sub,ab,col,dd,k0,k1,k2,k3,k5,mN,hC,_⟩:=e.own X;exact⟨nm,q,N,bs,tl,hdct,sn,sub,ab,col,dd,k0,k1,k2,k3,k5,newId,hC⟩
theorem Exc.cls{K:aa}{mg:bf}{x:Str}{C:Addr}{dJ:List Value}{newId:String}(e:Exc K mg x C dJ newId):ClsAt K C:=λh X=>by obtain⟨tl,N,nm,q,bs,hdct,sn,sub,ab,col,dd,k0,k1,k2,k3,k5,mN,hC,_⟩:=(e.own X).obj;exact⟨nm,q,N,bs,tl,hdct,sn,sub,ab,col,dd,k0,k1,k2,k3,k5,newId,hC⟩
inductive a63(i:Nat)(Cs:Addr->Prop)(tb:XK->TS)(th:TS)(D:Ends)(O:St)(H:Hp):Prop |mk (E:XK)(h0:tb E D O H)(h1:(∀cls dx H',E cls dx H'->∃C,cls= .ref C/\Cs C))(h2:∀(C ex:Addr)(dx:Option Addr)(σ':St)(H':Hp),σ'.length=O.length->E (.ref C) dx H'->H' ex=none->th {nx:=λσ2 H2=>D.nx (σ2.set i none) H2,rt:=D.rt,bk:=λσ2 H2=>D.bk (σ2.set i none) H2,ct:=λσ2 H2=>D.ct (σ2.set i none) H2} (σ'.set i (some (.ref ex))) (upd H' ex (.ext (jA ex (.ref C) dx))))
def RA(i:Nat)(Cs:Addr->Prop)(tb:XK->TS)(th:TS):TS:=λD O H=>a63 i Cs tb th D O H
section
variable {X:Cx}{i:Nat}{n y:Str}{Dc:Addr}{FC:List Value}{newD:String}{body xg:List Stmt}{b0:Stmt}{np rP pos:Pos}{tb:XK->TS}{th:TS}{Cs:Addr->Prop}
theorem UG(fk:X.stack=X.env::X.outer)(hfr:X.env.frame=some X.env.locals)(hN:X.N.Nodup)(hi:X.N[i]? =some n)(hk:X.env.kindOf n=some .local)(hs:X.env.scope.names.lookup n=some .local) (hb:∀(E:XK)(xe:Value->ae->Prop),Passes (jB X.prog X.w) (X.iQ xe) E->eY (X.iQ xe) body (tb E)) (hg:Gl X y)(hy:Exc X.K X.mg y Dc FC newD)(Et:FC.contains (.type "BaseException")=true)(EJ:∀C,Cs C->ClsAt X.K C/\takes X.K C Dc) (hh:∀ex,eY (X.hand ex) (b0::xg) th)(fz:autoParam ((y==("__debug__":Str))=false) q8_._auto_1): Pf X (.Try body [.ExceptHandler (some (.Name y np)) (some n) (b0::xg) rP] [] [] pos) (RA i Cs tb th):=by
 intro s O H D I h;obtain⟨E,hq,lI,ZD⟩:=h;refine wpAny_Try_except ?_;have ps:Passes (jB X.prog X.w) (X.iQ λe s₁=>wpAny (model X.prog X.w) X.A (noteFrame e X.env) (λ_ s₂=>wpAny (model X.prog X.w) X.A (setFlight e none) (λ_ s₃=>wpAny (model X.prog X.w) X.A (handleBy e X.env [.ExceptHandler (some (.Name y np)) (some n) (b0::xg) rP]) (SP X [] D) X.xe s₃) X.xe s₂) X.xe s₁) E:=by
  intro CL σ' H1 s1 ev s2 I1 hx;obtain⟨ex,cls,dx,H',B,rfl,ho,ME,mK,F,hE⟩:=hx;obtain⟨C,rfl,hC⟩:=lI cls dx H' hE;have I0:Inv X [] σ' H1 s1:=I1.kS.a5k;obtain⟨Mu,g2,d2,t2,o2⟩:=s2;have a2O:jc B (X.env::X.outer) ex (.ref C) dx .none Mu:=by rw[<-fk];exact mK
  have hA:X.A.frames=some (X.env::X.outer):=by rw[<-fk];exact I0.ok.frames
  refine Lr (s:=⟨Mu,g2,d2,t2,o2⟩) hA hfr a2O λh4 yD QS=>?_;refine yU yD λh5 vo QR=>?_;have F4:=F.step mK.1 yD.1 QS mK.2.2.1;have ff4:h4.FunFrames B X.stack:=by rw[fk];exact yD.2.2.1
  have F5:=F4.step yD.1 vo.1 QR ff4;have ff5:h5.FunFrames B X.stack:=by rw[fk];exact vo.2.2.1
  have I5:Inv X [] σ' H' ⟨h5,g2,d2,t2,o2⟩:=I0.zo (s':=⟨h5,g2,d2,t2,o2⟩) ho F5.un F5.aW ME (λb hb=>(eS hb).elim);refine wpAny_handleBy_cons (codeAny_handlers_test (mz (X:=X.hand ex) (I5.hand ex) hg hy.at' ?_ fz)) (by intro q;cases q);obtain⟨eC,tk⟩:=EJ C hC;obtain⟨nm,q,Nn,bs,tl,hdct,sn,sub,ab,col,dd,k0,k1,k2,k3,k5,nw,oC⟩:=eC _ I5.dE;obtain⟨tl',Nn',Lx,q',OI,MF,Iv,Hu,P6,Oy,Og,j0,j1,j2,j3,j5,mN',oD,a9e,a8X,TL'⟩:=(hy.own I5.dE).obj;obtain⟨ob,ZV,ZU,_⟩:=vo.there;have E2:(Value.ref C::tl).contains (.ref Dc)=true:=by
   obtain⟨cd,ha,mG⟩:=Option.bind_eq_some_iff.mp tk;split at mG
   ·cases mG
   ·have hc:=cW mG
    unfold PySem.W.clsIn at ha;split at ha
    ·rename_i c1 c2 cd' c4 hl
     cases ha;have e1:=I5.dE _ _ hl;rw[show(Shared.heap ⟨h5,g2,d2,t2,o2⟩).get? C=some _ from oC]at e1;have e2:=cW e1;unfold excClassObj at e2;injection e2 with _ _ e3 _;injection e3 with e4;rw[<-e4]at hc;exact hc
    ·cases ha
  refine a45 oC oD ZV ZU (TL'.hasType Et) E2 ?_;refine codeAny_handlers_suite_as ?_;refine yU (s:=⟨h5,g2,d2,t2,o2⟩) vo λh6 Ni QQ=>?_;have F6:=F5.step vo.1 Ni.1 QQ ff5;have QW:Un (cR X.stack) [] H1 (upd H' ex (.ext (jA ex (.ref C) dx))) s1.heap h6:=by
   have nb:∀b u,H' b=some u->b≠ex:=λb u e z=>by rw[z,F6.ne]at e;cases e
   refine⟨F6.un.keep,F6.un.slot,λb o e n hx=>?_,F6.un.there,λb xs e=>?_,λb o u e=>?_,λb ps e=>?_⟩
   ·rw[bh (λz=>by rw[z,F6.nw]at e;cases e)];exact F6.un.free b o e n hx
   ·have:=F6.un.hZ b xs e;rw[bh (nb b _ this)];exact this
   ·have:=F6.un.gX b o u e;rw[bh (nb b _ this)];exact this
   ·obtain⟨more,e1⟩:=F6.un.ib b ps e;exact⟨more,by rw[bh (nb b _ e1)];exact e1⟩
  have ZR:da X.prog X.w (upd H' ex (.ext (jA ex (.ref C) dx))) h6:=λb u e=>by
   by_cases MH:b=ex
   ·subst MH
    rw[bU]at e;cases e;obtain⟨o6,e6,c6⟩:=Ni.there;exact⟨⟨o6,e6,c6⟩,⟨o6,e6⟩,λg1 g3 ⟨o7,e7,c7⟩ k=>⟨o7,k o7 e7,c7⟩⟩
   ·rw[bh MH]at e
    refine(F6.aW b u e).jY (λc v hc q=>q) (λc q=>?_) λc xs q=>?_
    ·rw[bh (λz=>by rw[z,F6.ne]at q;cases q)];exact q
    ·rw[bh (λz=>by rw[z,F6.ne]at q;cases q)];exact q
  have I6:Inv X [] σ' (upd H' ex (.ext (jA ex (.ref C) dx))) ⟨h6,g2,d2,t2,o2⟩:=I0.zo (s':=⟨h6,g2,d2,t2,o2⟩) ho QW ZR ME (λb hb=>(eS hb).elim);refine qI (X:=X.hand ex) (I6.hand ex) hN hi (.inl hs) (v:=.ref ex) Z (λs7 I7=>?_) (.inr hs);refine fP (hh ex [] s7 _ _ _ I7 (ZD C ex dx σ' H' (I0.len.trans I.len.symm) hE F.ne)) (λf s8 q=>?_) λe s8 q=>False.elim q;have un:∀(σ2:St)(H2:Hp)(Q:Unit->ae->Prop),Inv (X.hand ex) [] σ2 H2 s8->(∀s9,Inv X [] (σ2.set i none) H2 s9->Q () s9)->wpAny (model X.prog X.w) X.A (do bindName X.env n .none;unbindBehindTheSuite X.env n rP) Q X.xe s8:=λσ2 H2 Q I8 hq=>by
   have Pq:=I8.back I0.ok;have bT:i<σ2.length:=by rw[Pq.len];exact(dN.mp hi).1
   unfold bindName;refine aA (aA (gH (wpAny_point (aA (qI Pq hN hi (.inl hs) (v:=.aY) Z (λs9 I9=>wpAny_point ?_) (.inr hs))))));refine QU I9 hN hi hk hs (v:=.aY) (Gu bT) λkW sQ=>hq kW ?_;rw[List.set_set]at sQ;exact sQ
  cases f with |next=>obtain⟨σ2,H2,I8,dq⟩:=q;exact un σ2 H2 _ I8 λs9 I9=>⟨_,H2,I9,dq⟩ |brk=>obtain⟨σ2,H2,I8,dq⟩:=q;exact un σ2 H2 _ I8 λs9 I9=>⟨_,H2,I9,dq⟩ |cont=>obtain⟨σ2,H2,I8,dq⟩:=q;exact un σ2 H2 _ I8 λs9 I9=>⟨_,H2,I9,dq⟩ |ret u=>obtain⟨v,σ2,H2,I8,r8,dq⟩:=q;exact un σ2 H2 _ I8 λs9 I9=>⟨v,_,H2,I9,r8,dq⟩
 refine fP (hb E _ ps [] s O H D (I.iQ _) hq) (λf s1 q=>?_) λe s1 q=>q;have q':=q.kS;cases f with |next=>exact vW q' |brk=>exact q' |cont=>exact q' |ret u=>exact q'
end
end _L
namespace _L
open PySem PySem.Spec PyProof.Rows PySem.W
section
variable {prog:af}{w:World}{A:ai}{E:Value->ae->Prop}{h:Heap}{g:Array GenState}{d:Drawn}{t:Nat}{os:OsState}{K:Frag}{x C:Addr}{ox:Obj}{od:Obj}{f:Str}{v:Value}
theorem a46{b:Bool}{Q:Value->ae->Prop}(X:K.In h)(k:jd K C)(I:InstAt h x ox C (some od))(ha:findIn K (.ref C) f=some none)(hl:lookIn f od=some (some v))(hv:handedIn v=true) (hq:Q v ⟨h,g,d,t+1,os⟩):wpAny (model prog w) A (getAttr (.ref x) f b) Q E ⟨h,g,d,t,os⟩:=by
 have L0:=I.type (M:=model prog w);have L1:=zQ (M:=model prog w) X k.ga;have _L:=zQ (M:=model prog w) X k.gx;have L3:=looks_find (M:=model prog w) X I (findObj_own k.is ha Z hl);have f3:=Gi.ga.bind (.ref x);have DU:(Value.builtin "BaseException.__getattribute__"==Value.builtin "object.__getattribute__")=false:=by decide+kernel
 have yl:(b&&onTheHeap (Value.builtin "BaseException.__getattribute__"))=false:=by cases b<;>rfl
 unfold getAttr getAttrBy;refine aA (wpAny_mkText (gH (aA (L0.at (aA (L1.at ?_))))));show wpAny _ _ (if(onTheHeap (Value.ref C)&&Value.builtin "BaseException.__getattribute__"==Value.builtin "object.__getattribute__")=true then _ else _) _ _ _;rw[DU,wI,aU ay];unfold getAttrByItsOwn hookBefore;refine aA ?_;show wpAny _ _ (typeLookup (.ref C) "__getattr__") _ _ _;refine _L.at (aA (zP (gH ?_)));unfold callGetattribute;rw[yl,aU ay];unfold boundAndCalled;rw[f3];refine aA (bw (ow ?_));refine zR Gi.ga.plain PySem.F.entry_bexc_ga (MY X k L0 ?_);refine aA (bw (aA (bw (aA (L0.at (aA (L3.at ?_)))))));exact bw (handed_on hv hq)
end
inductive a61(K:Frag)(f:Str)(Q:VK)(x:V)(H1:Hp):Prop |mk (ex:_)(C:_)(dx:_)(fs:_)(i:_)(h0:x= .ref ex)(h1:H1 ex=some (.ext (jA ex (.ref C) (some dx))))(h2:H1 dx=some (.xd fs))(h3:jd K C)(h4:findIn K (.ref C) f=some none)(h5:fs.lookup f=some (.int i))(h6:Q (.int i) H1)
def Rw(K:Frag)(ta:TE)(f:Str):TE:=λO H Q=>ta O H λx H1=>a61 K f Q x H1
section
variable {X:Cx}{e:Expr}{f:Str}{pos:Pos}{ta:TE}
theorem V1(K:Frag)(hK:X.K=K)(he:PE X e ta)(hb:autoParam (attributeBase e f X.env (eval e X.env)=eval e X.env) r8_._auto_1):PE X (.Attribute e f pos) (Rw K ta f):=by subst hK;intro pins s O H Q I h;refine OV hb (aV (he pins s O H _ I h) λu s1 ⟨x,H1,I1,rx,ex,C,dx,fs,i,ee,h1,h2,k,ha,hl,q⟩=>?_);subst ee;obtain rfl:u=Value.ref ex:=rx;obtain⟨⟨o,o1,o2,o3,rZ,o4,o5⟩,_,_⟩:=(show eR X.prog X.w H1 s1.heap ex (.ext (jA ex (.ref C) (some dx)))from I1.aW ex _ h1);obtain⟨mA,n1,n2⟩:=(show eR X.prog X.w H1 s1.heap dx (.xd fs)from I1.aW dx _ h2);obtain⟨od,e1,e2⟩:=LU n1;have r:=n2 f;rw[hl]at r;cases em:mA f with |none=>rw[em]at r;exact r.elim |some v=>rw[em]at r;obtain⟨t,rfl⟩:=(show∃t,v=Value.int i t from r);have J:InstAt s1.heap ex o C (some od):=⟨o1,o2,by unfold notCls;rw[o4],by rw[o3];exact e1⟩;obtain⟨hp,g,d,tk,os⟩:=s1;exact a46 I1.dE k J ha (by rw[e2,em]) Z ⟨.int i,H1,I1.tok _,⟨t,Z⟩,q⟩
inductive a7D(K:Frag)(xs:List V)(H:Hp)(Q:VK):Prop |mk (ex:Addr)(C:Addr)(dx:Option Addr)(c:V)(cv:Value)(b:Bool)(h0:xs=[.ref ex,c])(h1:H ex=some (.ext (jA ex (.ref C) dx)))(h2:jd K C)(h3:a4N c=some cv)(h4:kitOne K (.ref C) cv=some b)(h5:Q (.bl b) H)
def Uq(K:Frag):List V->Hp->VK->Prop:=λxs H Q=>a7D K xs H Q
inductive a7C(K:Frag)(xs:List V)(H:Hp)(Q:VK):Prop |mk (ex:Addr)(C:Addr)(p:Addr)(dx:Option Addr)(Ds:List Addr)(b:Bool)(h0:xs=[.ref ex,.ref p])(h1:H ex=some (.ext (jA ex (.ref C) dx)))(h2:jd K C)(h3:H p=some (.tup (Ds.map V.ref)))(h4:kitAny K (.ref C) (Ds.map Value.ref)=some b)(h5:Q (.bl b) H)
def Up(K:Frag):List V->Hp->VK->Prop:=λxs H Q=>a7C K xs H Q
theorem jt(K:Frag)(hK:X.K=K):dI X (.builtin "isinstance") (λxs H Q=>Uq K xs H Q\/Up K xs H Q):=by
 subst hK;intro pins s O H xs us Q I r h;rcases h with⟨ex,C,dx,c,cv,b,rfl,he,k,hc,kb,q⟩|⟨ex,C,p,dx,Ds,b,rfl,he,k,hp,kb,q⟩
 ·obtain⟨u,v,rfl,rx,rc⟩:=vals2 r
  cases(show u=Value.ref ex from rx);have hv:v=cv:=by cases c with |ref D=>cases(show v=Value.ref D from rc);exact cW hc |ty n=>cases(show v=Value.type n from rc);exact cW hc |_=>cases hc
  subst hv;obtain⟨o,o1,o2,_⟩:=(I.aW ex _ he).1;exact kia_one (M6 k) I.dE ⟨o,o1,o2⟩ kb (λz=>nomatch z) λtk=>⟨.bl b,H,I.tok _,rfl,q⟩
 ·obtain⟨u,v,rfl,rx,rc⟩:=vals2 r
  cases(show u=Value.ref ex from rx);cases(show v=Value.ref p from rc);obtain⟨o,o1,o2,_⟩:=(I.aW ex _ he).1;obtain⟨_,its,rv,⟨cls,dd,dt,sl⟩,h1,h2,n,h3⟩:=(show eR X.prog X.w H s.heap p (.tup (Ds.map V.ref))from I.aW p _ hp);simp only at h2 h3;subst h2 h3;have e:=GS rv;subst e;exact kia_tup (M6 k) I.dE ⟨o,o1,o2⟩ h1 kb (λz=>nomatch z) λtk=>⟨.bl b,H,I.tok _,rfl,q⟩
end
end _L
namespace _L
open PySem PySem.Spec PyProof.Rows
section
variable {X:Cx}{k:Nat}{x:Str}{p pos:Pos}{e:Expr}{es:List Expr}{t:TA}{sp:Sp}
end
theorem a4O{K:aa}{mg:bf}{h:Heap}{x:Str}{C fI:Addr}{dJ:List Value}{newId:String}(X:K.In h)(G:h.Ns mainGlobals mg)(a:PySem.W.nsIn K mainGlobals x=some (some (.ref C)))(k:F9 K C fI dJ newId=true):qv K mg x C fI dJ newId:=⟨oA X G a,k⟩
structure jb(k:Nat)(A:ai):Prop where
 dp:A.depth+3*k+5<recursionLimit
 un:A.units+16*k+200<cLine
theorem jb.mono{j k:Nat}{A:ai}(r:jb k A)(h:j<=k):jb j A:=⟨by have:=r.dp;lia,by have:=r.un;lia⟩
theorem jb.units{k:Nat}{A:ai}(r:jb k A):A.units+64<cLine:=by have:=r.un;lia
theorem cu.mark{k:Nat}{A:ai}(r:cu k A)(v:Option Value):jb k (A.mark v):=⟨r.dp,r.un⟩
theorem jb.deeper{k:Nat}{A:ai}(r:jb (k+1) A)(env:Env):jb k (A.deeper env):=⟨by have:=r.dp;show A.depth+1+3*k+5<_;lia,by have:=r.un;show A.units+3+16*k+200<_;lia⟩
abbrev sD(P:af)(w:World)(K:aa)(mg:bf)(ao:Heap)(N:List Str)(qual:Str)(scope:Scope)(f:Addr)(cd:Value)(A:ai)(outer:List Env)(s:ae)(H:Hp):Cx:={(fB g9 P w K mg ao N qual scope f cd A outer s H (λ_ _ _=>False))with calm:=false,xe:=λ_ _=>False}
def Pu(P:af)(w:World)(K:aa)(mg:bf)(ao:Heap)(k:Nat)(f:Addr)(fd:FuncData)(ps:List Str)(sp:Sp):Prop:=(∀vs H Q E,sp vs H Q E->vs.length=ps.length)/\∀(A:ai)(outer:List Env)(s:ae)(H:Hp)(args:Args)(us:List Value)(vs:List V)(Q:VK),jb k A->mY P w K mg ao A outer s H->BindsTo s fd args (ps.zip us)->Vals vs us->sp vs H Q (λ_ _ _=>False)->codeAny (model P w) A (.call (.ref f) args) (λr s'=>match r with| .ok (.ret u)=>CE outer P w H s Q u s'|_=>False) s
theorem a2L{P:af}{w:World}{K:aa}{mg:bf}{ao:Heap}{k:Nat}{f:Addr}{name qual:Str}{params:Arguments}{body:List Stmt}{scope:Scope}{dV kV doc pm aF ct oc:Value}{an od:Option Addr} {dX:Array (Option Value)}{N ps:List Str}{sp:Sp}(lk:K.lookup f=some ⟨oc,od,.func (PySem.W.fnOf name qual params body scope dV kV doc pm an aF ct),dX⟩)(e9:PySem.W.codeIn K aF qual=true)(S:bc N ps scope)(len:∀vs H Q E,sp vs H Q E->vs.length=ps.length) (fA:∀(A:ai)(outer:List Env)(s:ae)(H:Hp)(vs:List V)(Q:VK),jb k (A.deeper (envOfC qual scope s.heap.objs.size f aF))->sp vs H Q (λ_ _ _=>False)->∃t,eY (sD P w K mg ao N qual scope f aF A outer s H) body t/\t {nx:=λ_ H'=>Q .aY H',rt:=Q} (start N vs) H): Pu P w K mg ao (k+1) f (PySem.W.fnOf name qual params body scope dV kV doc pm an aF ct) ps sp:=by
 refine⟨len,λA outer s H args us vs Q hr e0 hb r eP=>?_⟩;have hl:=len _ _ _ _ eP;have KX:K.In s.heap:=e0.mod.kz.keeps λb o e=>(e0.bs b o e).1;have lim:s.heap.NoLimit:=e0.mod.nolimit.keeps λb o e=>(e0.bs b o e).1;have hk:∀y∈ps.zip us,scope.names.lookup y.1=some .local\/(scope.names.lookup y.1=some .cell/\((cellsFrom (s.heap.objs.size+1) scope.names []).lookup y.1).isSome=true):=λ⟨n,v⟩ hy=>by
  rcases S.par n (qC hy).1 with q|q
  ·exact .inl q
  ·exact .inr ⟨q,Ge _ _ _ (.inl q)⟩
 refine PH (by have:=hr.dp;lia) (KX _ _ lk) Z S.co S.gen Z (PX KX e9) (hb _ _ _ _ ?_);refine PB S.kind hk λenv he s1 x=>?_;subst he;refine⟨lim.keeps x.toInCall.keep,codeAny_func ?_⟩;obtain⟨t,ht,hq⟩:=fA A outer s H vs Q (hr.deeper _) eP;have e1:mY P w K mg ao {A with handled:=none} outer s H:=⟨e0.frames,e0.mod,e0.bs,e0.jx,e0.gW,e0.kJ,e0.aW,e0.bare⟩;have I:=DS (CX:=g9) (A:={A with handled:=none}) (E:=λ_ _ _=>False) S rfl e1 hl r x;have J:Inv (sD P w K mg ao N qual scope f aF A outer s H) [] (start N vs) H s1:=⟨⟨I.ok.mod,I.ok.kind,I.ok.glob,I.ok.blt,I.ok.above,I.ok.inj,I.ok.has,I.ok.og,λh=>(dc h).elim,Around.frames_deeper e0.frames,I.ok.oP,I.ok.vt,I.ok.bs,I.ok.jx,I.ok.nK,I.ok.mM,I.ok.gW,I.ok.kJ⟩,I.os,I.bare,I.ao,I.loc,I.cell,I.free,I.iE,I.pin,I.aW,I.len⟩;refine fP (ht [] s1 (start N vs) H _ J hq) (λfl s' hs=>?_) λe s' hs=>hs.elim;cases fl with |ret u=>obtain⟨v,σ',H',J',rv,q⟩:=hs;exact⟨v,H',J'.os,J'.bare,J'.ao,J'.aW,rv,q⟩ |next=>obtain⟨σ',H',J',q⟩:=hs;exact⟨V.aY,H',J'.os,J'.bare,J'.ao,J'.aW,Z,q⟩ |brk=>obtain⟨_,_,_,q⟩:=hs;exact False.elim q |cont=>obtain⟨_,_,_,q⟩:=hs;exact False.elim q
def zJ(P:af)(w:World)(K:aa)(mg:bf)(ao:Heap)(x:Str)(k:Nat)(sp:Sp):Prop:=∃f fd ps,Pu P w K mg ao k f fd ps sp/\mg x=some (.ref f)/\PySem.W.keepIn K (.ref f)=true/\Binds K fd ps []
theorem FA.a0R{P:af}{w:World}{K:aa}{mg:bf}{ao:Heap}{x:Str}{st:Stmt}{N ps:List Str}{k:Nat}{sp:Sp}(F:FA K mg x st)(S:bc N ps (aM st))(len:∀vs H Q E,sp vs H Q E->vs.length=ps.length) (hb:∀(kV doc pm:Value)(an:Option Addr)(aF ct:Value)(us:List Value),us.length=ps.length->bindArgs (PySem.W.fnOf x x (j6 st) (eQ st) (aM st) .none kV doc pm an aF ct) ⟨us,[]⟩=pure (ps.zip us)) (fA:∀(f:Addr)(aF:Value)(A:ai)(outer:List Env)(s:ae)(H:Hp)(vs:List V)(Q:VK),jb k (A.deeper (envOfC x (aM st) s.heap.objs.size f aF))->sp vs H Q (λ_ _ _=>False)->∃t,eY (sD P w K mg ao N x (aM st) f aF A outer s H) (eQ st) t/\t {nx:=λ_ H'=>Q .aY H',rt:=Q} (start N vs) H):zJ P w K mg ao x (k+1) sp:=by obtain⟨f,fd,hm,F⟩:=F.ex;have pT:=F.binds hb;have kp:=F.kp;obtain⟨oc,od,kV,doc,pm,an,aF,ct,dX,rfl,lk,e9⟩:=F.ex;exact⟨f,_,ps,a2L lk e9 S len λA outer s H vs Q hr eP=>fA f aF A outer s H vs Q hr eP,hm,kp,pT⟩
section
variable {X:Cx}{k:Nat}{x:Str}{p pos:Pos}{e:Expr}{es:List Expr}{t:TA}{sp:Sp}
def S1(sp:Sp)(t:TA):TE:=λO H Q=>t O H λvs H1=>sp vs H1 Q (λ_ _ _=>False)
theorem V9(F:zJ X.prog X.w X.K X.mg X.ao x k sp)(hr:jb k X.A)(hg:Gl X x)(ha:PA X (e::es) t)(fz:autoParam ((x==("__debug__":Str))=false) q8_._auto_1) (he:autoParam (starEach (e::es) X.env=(false,eval e X.env)::starEach es X.env) r8_._auto_1)(dR:autoParam ((backTo pos (starEach es X.env)).any (·.1)=false) r8_._auto_1):PE X (.Call (.Name x p) (e::es) [] pos) (S1 sp t):=by
 obtain⟨f,fd,ps,F,hm,hk,hb⟩:=F;intro pins s O H Q I h;refine vX (mz I hg hm ?_ fz);refine zW (h₀:=X.ao) I.ok.mod.kz hk (aV (ha pos pins s O H _ I h) λus s1 ⟨vs,H1,I1,r,q⟩=>⟨I1.dE,?_⟩) he dR;have hl:(us++[]).length=ps.length:=by rw[lV,<-r.length];exact F.1 _ _ _ _ q
 have bt:=hb s1 us I1.dE hl;rw[lV]at bt;refine ow (we (F.2 X.A X.stack s1 H1 ⟨us,[]⟩ us vs Q hr I1.yY bt r q) λr s' hq=>?_);cases r with |error e=>exact hq.elim |ok fl=>cases fl with |ret u=>exact I1.after hq |next=>exact hq.elim |brk=>exact hq.elim |cont=>exact hq.elim
end
section
variable {P:af}{w:World}{K:aa}{mg:bf}{ao:Heap}{N:List Str}{qual:Str}{scope:Scope}{f:Addr}{cd:Value}{A:ai}{outer:List Env}{s:ae}{H:Hp}{E E0:XK}
theorem CQ(he:∀cls dx H',E cls dx H'->E0 cls dx H'):Passes (jB P w) (fB (jB P w) P w K mg ao N qual scope f cd A outer s H E0) E:=by
 intro pins O H1 s1 e s2 I hx;obtain⟨ex,cls,dx,H',B,rfl,ho,hg,mK,F,q⟩:=hx;have mK:jc B (envOfC qual scope s.heap.objs.size f cd::outer) ex cls dx .none s2.heap:=mK;show wpAny (model P w) (A.deeper (envOfC qual scope s.heap.objs.size f cd)) (leaving (envOfC qual scope s.heap.objs.size f cd) (.ref ex)) _ _ _;refine YN (L:=s.heap.objs.size) I.ok.frames Z mK λh' x1 x2=>?_;have F2:=F.step mK.1 x1.1 x2 mK.2.2.1;have sub:∀b,b∈cR outer->b∈cR (envOfC qual scope s.heap.objs.size f cd::outer):=λb hb=>by obtain⟨env,h1,h2⟩:=iM.mp hb;exact iM.mpr ⟨env,.tail _ h1,h2⟩
 have ku:∀b o,s.heap.get? b=some o->b∉cR outer->b∉cR (envOfC qual scope s.heap.objs.size f cd::outer):=λb o e hb hm=>by
  obtain⟨env,h1,h2⟩:=iM.mp hm;rcases bS.mp h1 with z|h1
  ·subst z
   have e1:s.heap.objs.size=b:=cW h2;have e2:=bN e;rw[<-e1]at e2;exact absurd e2 (ng _)
  ·exact hb (iM.mpr ⟨env,h1,h2⟩)
 have nx:∀b:Addr,b∉([]:List Addr):=λ_=>eS;refine⟨ex,cls,dx,H',B,Z,ho.trans I.os,hg,x1,⟨⟨λb o e n hb _=>?_,λb o e n hb _=>?_,λb o e n _=>?_,λb o e _=>?_,λb xs e=>?_,λb o u e=>?_,λb ps e=>?_⟩,F2.aW,λb o e n hb=>?_,F2.k2,λb o e hb=>?_,λb hb=>F2.fr b (sub b hb),?_,F2.ne⟩,he _ _ _ q⟩
 ·exact F2.un.keep b o (I.ao.keep b o e n hb (nx b)) (I.ao.free b o e n (nx b)) (ku b o e hb) (nx b)
 ·obtain⟨sl,e1⟩:=I.ao.slot b o e n hb (nx b)
  obtain⟨nA,e2⟩:=F2.un.slot b _ e1 (I.ao.free b o e n (nx b)) (sub b hb) (nx b);exact⟨nA,e2⟩
 ·obtain⟨sl,e1⟩:=I.ao.any e n (nx b)
  exact F2.un.free b _ e1 (I.ao.free b o e n (nx b)) (nx b)
 ·obtain⟨o1,e1⟩:=I.ao.there b o e (nx b)
  exact F2.un.there b o1 e1 (nx b)
 ·exact F2.un.hZ b xs (I.ao.hZ b xs e)
 ·exact F2.un.gX b o u (I.ao.gX b o u e)
 ·obtain⟨m1,e1⟩:=I.ao.ib b ps e
  obtain⟨m2,e2⟩:=F2.un.ib b _ e1;exact⟨m1++m2,by rw[<-Array.append_assoc];exact e2⟩
 ·exact F2.k1 b o (I.ao.keep b o e n hb (nx b)) (I.ao.free b o e n (nx b)) (ku b o e hb)
 ·obtain⟨o1,e1⟩:=I.ao.there b o e (nx b)
  exact F2.k3 b o1 e1 (ku b o e hb)
 ·cases e:s.heap.get? ex with |none=>rfl |some o=>obtain⟨o1,e1⟩:=I.ao.there ex o e (nx ex);rw[F2.nw]at e1;cases e1
end
end _L
namespace _L
open PySem PySem.Spec PyProof.Rows
open Builtin Builtin.ObjectAttr
section
variable {prog:af}{w:World}{A:ai}{E:Value->ae->Prop}{s:ae}{K:aa}{x C dx:Addr}{ox:Obj}{fs:Array Value}{name:Str}{v:Value}{Q:Unit->ae->Prop}{mA:bf}{ks:List Str}
end
section
variable {X:Cx}{o e value:Expr}{f:Str}{pos pos' oO:Pos}{ta tv:TE}
end
end _L
namespace _L
open PySem PySem.Spec PyProof.Rows
def mT(P:af)(w:World)(K:aa)(mg:bf)(ao:Heap)(C:Addr)(m:Str)(k:Nat)(sp:Sp):Prop:=∃f fd ps,f9 P w K mg ao (jB P w) k f fd ps sp/\Meth K C m f/\Binds K fd ps []
section
variable {P:af}{w:World}{K:aa}{mg:bf}{ao:Heap}
theorem iI.X9{m qual:Str}{st:Stmt}{f:Addr}{fd:FuncData}{N ps:List Str}{k:Nat}{sp:Sp}(F:iI K m qual st f fd)(S:bc N ps (aM st))(len:∀vs H Q E,sp vs H Q E->vs.length=ps.length) (fA:∀(aF:Value)(A:ai)(outer:List Env)(s:ae)(H:Hp)(vs:List V)(Q:VK)(E:XK),cu k (A.deeper (envOfC qual (aM st) s.heap.objs.size f aF))->sp vs H Q E->∃t,eY (fB (jB P w) P w K mg ao N qual (aM st) f aF A outer s H E) (eQ st) t/\t {nx:=λ_ H'=>Q .aY H',rt:=Q} (start N vs) H):f9 P w K mg ao (jB P w) (k+1) f fd ps sp:=by obtain⟨oc,od,kV,doc,pm,an,aF,ct,dX,rfl,lk,e9⟩:=F.ex;exact Nf lk e9 S len λA outer s H vs Q E hr eP=>fA aF A outer s H vs Q E hr eP
theorem MA.Eu{C:Addr}{m qual:Str}{st:Stmt}{N ps:List Str}{k:Nat}{sp:Sp}(F:MA K C m qual st)(S:bc N ps (aM st))(len:∀vs H Q E,sp vs H Q E->vs.length=ps.length) (hb:∀(kV doc pm:Value)(an:Option Addr)(aF ct:Value)(us:List Value),us.length=ps.length->bindArgs (PySem.W.fnOf m qual (j6 st) (eQ st) (aM st) .none kV doc pm an aF ct) ⟨us,[]⟩=pure (ps.zip us)) (fA:∀(f:Addr)(aF:Value)(A:ai)(outer:List Env)(s:ae)(H:Hp)(vs:List V)(Q:VK)(E:XK),cu k (A.deeper (envOfC qual (aM st) s.heap.objs.size f aF))->sp vs H Q E->∃t,eY (fB (jB P w) P w K mg ao N qual (aM st) f aF A outer s H E) (eQ st) t/\t {nx:=λ_ H'=>Q .aY H',rt:=Q} (start N vs) H):mT P w K mg ao C m (k+1) sp:=by obtain⟨f,fd,hm,F⟩:=F.ex;exact⟨f,fd,ps,F.X9 S len λaF A outer s H vs Q E=>fA f aF A outer s H vs Q E,hm,F.binds hb⟩
end
section
variable {X:Cx}{k:Nat}{x m:Str}{C:Addr}{p pos apos:Pos}{o e:Expr}{es:List Expr}{t:TA}{ta:TE}{sp:Sp}{E:XK}
inductive Pl(C:Addr)(m:Str)(sp:Sp)(E:XK)(t:TA)(O:St)(Q:VK)(x:V)(H1:Hp):Prop |mk (a:Addr)(dx:Addr)(fs:List (Str×V))(h0:x= .ref a)(h1:H1 a=some (.ins C dx fs))(h2:fs.lookup m=none)(h3:t O H1 λvs H2=>sp (x::vs) H2 Q E)
def RQ(C:Addr)(m:Str)(sp:Sp)(E:XK)(ta:TE)(t:TA):TE:=λO H Q=>ta O H λx H1=>Pl C m sp E t O Q x H1
theorem Y3{O:St}{Q:VK}{x:V}{H1:Hp}:sP C m sp [] E t O Q x H1=Pl C m sp E t O Q x H1:=by
 have e1:(λ(vs:List V) H1=>sp (x::(vs++[])) H1 Q E)=λvs H1=>sp (x::vs) H1 Q E:=by funext vs H1;rw[lV]
 refine propext ⟨λ⟨a,dx,fs,h0,h1,h2,h3⟩=>⟨a,dx,fs,h0,h1,h2,?_⟩,λ⟨a,dx,fs,h0,h1,h2,h3⟩=>⟨a,dx,fs,h0,h1,h2,?_⟩⟩
 ·rw[<-e1];exact h3
 ·rw[e1];exact h3
theorem xM{pl:Sem Bool}(F:mT X.prog X.w X.K X.mg X.ao C m k sp)(hp:Passes (jB X.prog X.w) X E)(c:hU X.K C)(hr:cu k X.A)(he:PE X o ta)(ha:PA X (e::es) t) (fk:autoParam (starEach (e::es) X.env=(false,eval e X.env)::starEach es X.env) r8_._auto_1)(dR:autoParam ((backTo pos (starEach es X.env)).any (·.1)=false) r8_._auto_1) (ht:eval (.Call (.Attribute o m apos) (e::es) [] pos) X.env=(do
 let ov<-eval o X.env
 standAt apos.atName
 let(f,first)<-holding [ov] (getMethod ov m pl)
 callWith pos f first (backTo pos (starEach (e::es) X.env)) (backToKw pos (keywordEach [] X.env))):=by rfl): PE X (.Call (.Attribute o m apos) (e::es) [] pos) (RQ C m sp E ta t):=by
 obtain⟨f,fd,ps,F,hm,hb⟩:=F;have h:=KI (pos:=pos) (apos:=apos) (pl:=pl) he c hm F hr hb .nil hp ha fk dR ht;intro pins s O H Q I hq;refine h pins s O H Q I ?_;show ta O H λx H1=>sP C m sp [] E t O Q x H1;simp only[Y3];exact hq
end
end _L
namespace _L
open PySem PySem.Spec PyProof.Rows SeqAt
section
variable {X:Cx}{k:Nat}{x:Str}{p pos:Pos}{e:Expr}{es:List Expr}{t:TA}{sp:Sp}{E:XK}
inductive a83(X:Cx)(i:Nat)(CX:iJ)(E:XK)(t:TA)(O:St)(H:Hp)(Q:VK):Prop |mk (f:Addr)(fd:FuncData)(ps:List Str)(k:Nat)(sp:Sp)(h0:O[i]? =some (some (.ref f)))(h1:f9 X.prog X.w X.K X.mg X.ao CX k f fd ps sp)(h2:PySem.W.keepIn X.K (.ref f)=true)(h3:Binds X.K fd ps [])(h4:cu k X.A)(h5:t O H λvs H1=>sp vs H1 Q E)
theorem Vb(i:Nat){CX:iJ}(hp:Passes CX X E)(hN:autoParam (X.N[i]? =some x) r8_._auto_1)(hv:autoParam (zB X.env.scope x) k8_._auto_1)(ha:PA X (e::es) t)(hd:autoParam ((x==("__debug__":Str))=false) q8_._auto_1) (e9:autoParam ((x==("__classdict__":Str))=false) q8_._auto_1)(he:autoParam (starEach (e::es) X.env=(false,eval e X.env)::starEach es X.env) r8_._auto_1)(dR:autoParam ((backTo pos (starEach es X.env)).any (·.1)=false) r8_._auto_1): PE X (.Call (.Name x p) (e::es) [] pos) (λO H Q=>a83 X i CX E t O H Q):=by intro pins s O H Q I h;obtain⟨f,fd,ps,k,sp,h0,F,hk,hb,hr,ht⟩:=h;refine vX (aV (KG (pos:=p) hN hv hd e9 pins s O H (λv H'=>v= .ref f/\H'=H) I ⟨_,h0,Z,Z⟩) λu s1 ⟨v,H1,I1,rv,e1,e2⟩=>?_);subst e1 e2;cases(show u=Value.ref f from rv);refine zW (h₀:=X.ao) I1.ok.mod.kz hk (aV (ha pos pins s1 O H1 _ I1 ht) λus s2 ⟨vs,H2,I2,r,q⟩=>⟨I2.dE,?_⟩) he dR;refine xD F hr hb .nil hp I2 r ?_;rw[lV];exact q
end
section
variable {X:Cx}
theorem Ab:∀{bs:List Bool}{us:List Value},Vals (bs.map V.bl) us->us=bs.map Value.bool |[],_,.nil=>rfl |b::bs,_,.cons q r=>by cases(show _=Value.bool b from q);rw[Ab r];rfl
def pL:Value->Bool | .bool b=>b |_=>false
theorem NL{bs:List Bool}(A:ai)(s:ae):∀y,y∈(bs.map Value.bool).toArray->EqAt A s y (.bool true) (pL y):=λy hy=>by obtain⟨b,_,rfl⟩:=cH.mp (List.mem_toArray.mp hy);have:=EqAt.bool_bool (A:=A) (s:=s) b true;cases b<;>exact this
theorem a4E(bs:List Bool):(bs.map Value.bool).countP pL=bs.count true:=by induction bs with |nil=>rfl |cons b r ih=>cases b<;>simp[List.countP_cons,pL,ih,List.count_cons]
inductive Pp(K:aa)(x:V)(vs:List V)(H:Hp)(Q:VK):Prop |mk (l:Addr)(bs:List Bool)(h0:x= .ref l)(h1:vs=[.bl true])(h2:aG K H l (bs.map V.bl))(h3:Q (.int (bs.count true:Nat)) H)
theorem Y4(K:aa)(hK:X.K=K):oq X "list.count" (λx vs H Q=>Pp K x vs H Q):=by subst hK;intro pins s O H x vs v us Q I rx rv h;obtain⟨l,bs,rfl,rfl,hl,q⟩:=h;cases rx;obtain⟨u,rfl,ru⟩:=vals1 rv;cases(show u=Value.bool true from ru);obtain⟨its,r,pl,_⟩:=I.list hl;rw[Ab r]at pl;obtain⟨⟨cls,dd,data,sl⟩,ho,hc,n,hd⟩:=id pl.isList;simp only at hc hd;subst hc hd;refine sW PySem.F.slot_list_count ⟨_,ho,Z⟩ PySem.F.entry_list_count (PySem.F.args_list_count_2 _ _) (list_countAt l _ n dd sl (.bool true) pL) ⟨ho,NL _ _,?_⟩;rw[show(bs.map Value.bool).toArray.toList=bs.map Value.bool from Z,a4E];exact⟨.int _,H,I.tok _,⟨_,Z⟩,q⟩
inductive Po(K:aa)(x:V)(vs:List V)(H:Hp)(Q:VK):Prop |mk (l:Addr)(bs:List Bool)(j:Nat)(h0:x= .ref l)(h1:vs=[.bl true])(h2:aG K H l (bs.map V.bl))(h3:bs[j]? =some true)(h4:∀m,m<j->bs[m]? =some false)(h5:j<1000)(h6:Q (.int (j:Nat)) H)
theorem Y2(K:aa)(hK:X.K=K):oq X "list.index" (λx vs H Q=>Po K x vs H Q):=by
 subst hK;intro pins s O H x vs v us Q I rx rv h;obtain⟨l,bs,j,rfl,rfl,hl,hj,hm,a9h,q⟩:=h;cases rx;obtain⟨u,rfl,ru⟩:=vals1 rv;cases(show u=Value.bool true from ru);obtain⟨its,r,pl,_⟩:=I.list hl;rw[Ab r]at pl;obtain⟨⟨cls,dd,data,sl⟩,ho,hc,n,hd⟩:=id pl.isList;simp only at hc hd;subst hc hd;have hjl:=(dN.mp hj);obtain⟨hj1,pQ⟩:=hjl;refine sW PySem.F.slot_list_index ⟨_,ho,Z⟩ PySem.F.entry_list_index (PySem.F.args_list_index_2 _ _) (list_indexAt l _ n dd sl (.bool true) pL j (by simpa using hj1) au ?_ (λm hm1 yy=>?_)) ⟨ho,NL _ _,⟨.int _,H,I.tok _,⟨_,Z⟩,q⟩⟩
 ·simp[pQ,pL]
 ·have:=hm m yy
  obtain⟨h1,h2⟩:=dN.mp this;simp[h2,pL]
theorem Vi(K:aa)(h:X.K=K){o e:Expr}{to:TE}{t:TA}{apos bF:Pos}(ho:PE X o to)(ha:PA X [e] t) (fX:autoParam (attributeBase o "count" X.env (eval o X.env)=eval o X.env) r8_._auto_1) (fW:autoParam (((backTo bF (starEach [e] X.env)).all (λx=>!x.1)&&(backToKw bF (keywordEach [] X.env)).all (λx=>x.1.isSome) &&decide ([e].length+([]:List Keyword).length+(if([]:List Keyword).isEmpty then 0 else 1)<30))=true) r8_._auto_1) (fV:autoParam ((apos.endLine==bF.line)=true) r8_._auto_1)(hs:autoParam (starEach [e] X.env=(false,eval e X.env)::starEach [] X.env) r8_._auto_1)(fU:autoParam ((backTo bF (starEach [] X.env)).any (·.1)=false) r8_._auto_1): PE X (.Call (.Attribute o "count" apos) [e] [] bF) (m4 K "list" (λx vs H Q=>Pp K x vs H Q) to t):=by subst h;exact nE Q0 PySem.F.slot_list_count PySem.F.type_list_count (Y4 X.K rfl) ho ha fX fW fV hs fU
theorem Vh(K:aa)(h:X.K=K){o e:Expr}{to:TE}{t:TA}{apos bF:Pos}(ho:PE X o to)(ha:PA X [e] t) (fX:autoParam (attributeBase o "index" X.env (eval o X.env)=eval o X.env) r8_._auto_1) (fW:autoParam (((backTo bF (starEach [e] X.env)).all (λx=>!x.1)&&(backToKw bF (keywordEach [] X.env)).all (λx=>x.1.isSome) &&decide ([e].length+([]:List Keyword).length+(if([]:List Keyword).isEmpty then 0 else 1)<30))=true) r8_._auto_1) (fV:autoParam ((apos.endLine==bF.line)=true) r8_._auto_1)(hs:autoParam (starEach [e] X.env=(false,eval e X.env)::starEach [] X.env) r8_._auto_1)(fU:autoParam ((backTo bF (starEach [] X.env)).any (·.1)=false) r8_._auto_1): PE X (.Call (.Attribute o "index" apos) [e] [] bF) (m4 K "list" (λx vs H Q=>Po K x vs H Q) to t):=by subst h;exact nE Q0 PySem.F.slot_list_index PySem.F.type_list_index (Y2 X.K rfl) ho ha fX fW fV hs fU
end
end _L
namespace _L
open PySem PySem.Spec PyProof.Rows PySem.W
section
variable {P:af}{w:World}{K:Frag}{mg:bf}{ao:Heap}{N:List Str}{qual:Str}{scope:Scope}{f:Addr}{cd:Value}{cl:List (Str×Addr)}{A:ai}{outer:List Env}{s:ae}{H:Hp}{E E0:XK}
end
section
variable {X:Cx}{x:Str}{p pos:Pos}{E:XK}
end
section
variable {X:Cx}{pins:List (Addr×Obj)}{O:St}{H:Hp}{s:ae}{pr:Arguments}{bd:Expr}{sc:Scope}{Yx:Pos}{cl:List (Str×Addr)}{T c:Addr}{q:Str}
end
section
variable {X:Cx}{k:Nat}{x:Str}{p pos Yx:Pos}{pr:Arguments}{bd:Expr}{sc:Scope}{sp:SpH}{T c:Addr}{q:Str}{N:List Str}
end
section
variable {P:af}{w:World}{K:Frag}{mg:bf}{ao:Heap}
end
end _L
namespace _L
open PySem PySem.Spec PyProof.Rows
section
variable {P:af}{w:World}{K:aa}{mg:bf}{ao:Heap}{N:List Str}{qual:Str}{scope:Scope}{f:Addr}{cd:Value}{A:ai}{outer:List Env}{s:ae}{H:Hp}{E:XK}{pins:List (Addr×Obj)}{O:St}{H1:Hp}{s1:ae}{ex:Addr}{C:Addr}{dx:Addr}{φ:Heap->Prop}{cls:Value}{dxo:Option Addr}{h2:Heap}{vs:List Value}
theorem tE(I:Inv (fB (jB P w) P w K mg ao N qual scope f cd A outer s H E) pins O H1 s1)(hx:Heap.MadeExcOf s1.heap h2 ex cls vs)(q:E cls none H1):(fB (jB P w) P w K mg ao N qual scope f cd A outer s H E).xe (.ref ex) {s1 with heap:=h2}:=by
 obtain⟨t,e1,_⟩:=hx.there;have hf:H1 ex=none:=by cases e:H1 ex with |none=>rfl |some o=>obtain⟨ob,e2⟩:=(I.aW ex o e).there;rw[hx.new]at e2;cases e2
 have nw:s.heap.get? ex=none:=by cases e:s.heap.get? ex with |none=>rfl |some o=>obtain⟨ob,e2⟩:=I.ao.there ex o e (eS);rw[hx.new]at e2;cases e2
 have I2:=I.kept (t':=s1.toks) hx.keeps;have fk:h2.FunFrames ao (envOfC qual scope s.heap.objs.size f cd::outer):=I2.stack;have rS:∀env∈(envOfC qual scope s.heap.objs.size f cd::outer),∀b,env.frame=some b->b∈ex::cR (envOfC qual scope s.heap.objs.size f cd::outer):=λenv he b hb=>.tail _ (iM.mpr ⟨env,he,hb⟩);have hB:(PySem.W.hideAll h2 (ex::cR (envOfC qual scope s.heap.objs.size f cd::outer))).StaysIn h2:=λb o e=>PR _ e;have ku:∀b o,s.heap.get? b=some o->b∉cR outer->b∉ex::cR (envOfC qual scope s.heap.objs.size f cd::outer):=λb o e hb hm=>by
  rcases bS.mp hm with rfl|hm
  ·rw[nw]at e;cases e
  obtain⟨env,he,hf⟩:=iM.mp hm;rcases bS.mp he with rfl|he
  ·have e1:s.heap.objs.size=b:=cW hf
   have h1:=bN e;rw[<-e1]at h1;exact absurd h1 (ng _)
  ·exact hb (iM.mpr ⟨env,he,hf⟩)
 have F0:Fl P w outer H s.heap ex H1 (PySem.W.hideAll h2 (ex::cR (envOfC qual scope s.heap.objs.size f cd::outer))) h2:=by
  refine⟨I2.ao,I2.aW,λb o e n hb=>sX _ (I2.ao.keep b o e n hb (eS)) (ku b o e hb),λb o e=>?_,λb o e hb=>?_,λb hb=>?_,nw,hf⟩
  ·obtain⟨km,e1⟩:=(I2.aW b o e).there
   refine⟨km,sX _ e1 λhm=>?_⟩;rcases bS.mp hm with z|hm
   ·rw[z,hf]at e;cases e
   ·rw[I2.qJ b hm]at e
    cases e
  ·obtain⟨km,e1⟩:=I2.ao.there b o e (eS)
   exact⟨km,sX _ e1 (ku b o e hb)⟩
  ·obtain⟨env,he,hf⟩:=iM.mp hb
   exact I2.qJ b (iM.mpr ⟨env,.tail _ he,hf⟩)
 show wpAny (model P w) (A.deeper (envOfC qual scope s.heap.objs.size f cd)) (leaving (envOfC qual scope s.heap.objs.size f cd) (.ref ex)) _ _ _;refine M1 (L:=s.heap.objs.size) I.ok.frames (PySem.W.funFrames_hide fk rS) Z e1 hB (PV _ (.head _)) Z Z Z λh' x1 x2=>?_;exact⟨ex,cls,none,H1,_,Z,I.os,I.bare,x1,F0.step hB x1.1 x2 fk.2.2,q⟩
end
section
variable {X:Cx} {sc:Scope}
end
section
variable {κ : Type} [DecidableEq κ]
end
section
variable {P:af}{w:World}{H:Hp}{h:Heap}{a:Addr}
end
section
variable {X:Cx}{pins:List (Addr×Obj)}{O:St}{H:Hp}{s:ae}{a:Addr}{y v:V}{u r:Value}{o:Option V}{A:ai}{E:Value->ae->Prop}
end
section
variable {X:Cx}{pins:List (Addr×Obj)}{O:St}{H:Hp}{s:ae}{a:Addr}{cU:List (Key×V)}{k:Key}{u:Value}{A:ai}{E:Value->ae->Prop}
end
def Pk(i:Expr):Prop:=∀ov iv,subscripted i false ov iv=operate [ov,iv] (getItem ov iv)
theorem Sg{prog:af}{w:World}{A:ai}{E:Value->ae->Prop}{s:ae}{env:Env}{value slice:Expr}{pos:Pos}{T id:String}{Q:Value->ae->Prop} (hl:typeLookup (.type T) "__getitem__"=pure (some (.builtin id)))(hs:Pk slice) (h:wpAny (model prog w) A (eval value env) (λo s₁=>wpAny (model prog w) A (eval slice env) (λi s₂=>s₂.TypeIs o T/\wpAny (model prog w) A (getItem o i) Q E s₂) E s₁) E s): wpAny (model prog w) A (eval (.Subscript value slice pos) env) Q E s:=by
 refine Subscript_ (fP h (λo s₁ h₁=>fP h₁ (λi s₂ h₂=>?_) λ_ _ x=>x) λ_ _ x=>x);obtain⟨hT,h₂⟩:=h₂;unfold subscriptTail;refine aA ?_;rw[getitemInPython_of_ne hT.not_modules];refine aA (zK hT hl ?_);have fin:wpAny (model prog w) A (subscripted slice false o i) (λr s₃=>wpAny (model prog w) A (letTemporaryGo value o r>>=λ_=>pure r) Q E s₃) E s₂:=by rw[hs o i];exact wpAny_operating (fP h₂ (λr s₃ h₃=>aA (wpAny_letTemporaryGo (bw h₃))) λ_ _ x=>x)
 first |exact bw (aA fin) |exact aA (bw (aA fin)) |exact aA fin
section
variable {X:Cx}{o i e value:Expr}{pos pos' oO:Pos}{td ty tv:TE}
end
section
variable {X:Cx} {pos:Pos}
end
section
variable {X:Cx}{pins:List (Addr×Obj)}{O:St}{H:Hp}{s:ae}{a:Addr}{y d:V}{u r:Value}{o:Option V}{A:ai}{E:Value->ae->Prop}
end
section
variable {X:Cx}{o e f:Expr}{apos bF:Pos}{td ty tx:TE}
end
section
variable {X:Cx}{pins:List (Addr×Obj)}{O:St}{H:Hp}{s:ae}{a:Addr}{cU:List (Key×V)}{A:ai}{E:Value->ae->Prop}
end
section
variable {X:Cx}{pins:List (Addr×Obj)}{O:St}{H:Hp}{s:ae}{a:Addr}{y:V}{u:Value}{A:ai}{E:Value->ae->Prop}
end
end _L
namespace _L
open PySem PySem.Spec PyProof.Rows PySem.W
structure GD(w:World)(K:Frag)(mg:bf)(x:Str)(a:Addr):Prop where
 at':mg x=some (.ref a)
 ob:∃es n,K.lookup a=some ⟨.type "dict",none,.dict es n,#[]⟩/\KeysLit w.params es.toList
 lo:(a==sysModules)=false
theorem a2h{w:World}{K:Frag}{mg:bf}{x:Str}{a:Addr}{h:Heap}{es:Array DictEntry}{n:Nat}(X:K.In h)(G:h.Ns mainGlobals mg)(e:nsIn K mainGlobals x=some (some (.ref a)))(hl:K.lookup a=some ⟨.type "dict",none,.dict es n,#[]⟩)(hk:KeysLit w.params es.toList)(lo:(a==sysModules)=false):GD w K mg x a:=⟨mg_of X G e,⟨es,n,hl,hk⟩,lo⟩
section
variable {X:Cx}{i:Expr}{x:Str}{a:Addr}{pos p:Pos}{ty:TE}
inductive a81(K:Frag)(a:Addr)(Q:VK)(y:V)(H:Hp):Prop |mk (z:Str)(r:Option Value)(h0:y= .str z)(h1:nsIn K a z=some r)(h2:Q (.bl r.isSome) H)
theorem KO(G:GD X.w X.K X.mg x a)(hg:Gl X x)(hi:PE X i ty)(fz:autoParam ((x==("__debug__":Str))=false) q8_._auto_1):PC X .In i (.Name x p) (λO H Q=>ty O H λy H1=>a81 X.K a Q y H1):=by intro pins s O H Q I h;obtain⟨es,n,hl,hk⟩:=G.ob;refine aV (hi pins s O H _ I h) λiv s1 ⟨y,H1,I1,ry,z,r,ey,e,q⟩=>mz I1 hg G.at' ?_ fz;subst ey;obtain⟨t,rfl⟩:=ry;refine wpAny_in_of (strKind_is X.prog X.w z t) G.lo (mapOf_K (prog:=X.prog) I1.dE hl hk) ?_;rw[find_K hl e];exact⟨.bl r.isSome,H1,I1.tok _,Z,q⟩
inductive a82(K:Frag)(a:Addr)(Q:VK)(y:V)(H:Hp):Prop |mk (z:Str)(u:Value)(v:V)(h0:y= .str z)(h1:nsIn K a z=some (some u))(h2:RelV v u)(h3:Q v H)
theorem V8(G:GD X.w X.K X.mg x a)(hg:Gl X x)(hi:PE X i ty)(hs:Pk i)(fz:autoParam ((x==("__debug__":Str))=false) q8_._auto_1):PE X (.Subscript (.Name x p) i pos) (λO H Q=>ty O H λy H1=>a82 X.K a Q y H1):=by intro pins s O H Q I h;obtain⟨es,n,hl,hk⟩:=G.ob;refine Sg PySem.F.slot_dict_getitem.lookup hs (mz I hg G.at' ?_ fz);refine aV (hi pins s O H _ I h) λiv s1 ⟨y,H1,I1,ry,z,u,v,ey,e,rv,q⟩=>?_;subst ey;obtain⟨t,rfl⟩:=ry;have hm:=mapOf_K (prog:=X.prog) (w:=X.w) I1.dE hl hk;exact⟨hm.typeIs,wpAny_getItem_of (strKind_is X.prog X.w z t) hm (find_K hl e) ⟨v,H1,I1.tok _,rv,q⟩⟩
end
theorem YQ{l:OpenLaw}{q:af}{loose:List Str}{XP:(bf)->Heap->Prop}{YP:World->Heap->Prop}{d:DefRec}{K:Params->Frag}{k:Nat}{x:Str}{st:Stmt}(hn:l.most=some 63)(vd:d.params.defaults=[]) (hr:cu k callerA)(hY:∀(w:World)(h:Heap),YP w h->(K w.params).In h)(All:World->Frag->(bf)->Prop) (F:∀(w:World)(mg:bf)(h:Heap),(K w.params).In h->h.Ns mainGlobals mg->All w (K w.params) mg) (L:∀(w:World)(K:Frag)(mg:bf),All w K mg->FA K mg d.name st) (hb:∀(kV doc pm:Value)(an:Option Addr)(aF ct u:Value),bindArgs (fnOf d.name d.name (j6 st) (eQ st) (aM st) .none kV doc pm an aF ct) ⟨[u],[]⟩=pure [(x,u)]) (ok:∀(P:af)(w:World)(K:Frag)(mg:bf)(ao:Heap)(f:Addr)(fd:FuncData),All w K mg->iI K d.name d.name st f fd->f9 P w K mg ao g9 k f fd [x] (λvs H Q _=>∃(a:Addr)(ns:List Int),vs=[.ref a]/\aG K H a (ns.map V.int)/\ns.length<=63/\∀H',Q (.bl true) H')): WalkO q loose XP YP l.row.toRowW d [] (λf vs=>PySem.call f vs):=_L.QN (n:=63) (k:=k) (x:=x) (CX:=λ_=>g9) (sp:=λw=>λvs H Q _=>∃(a:Addr)(ns:List Int),vs=[.ref a]/\aG (K w.params) H a (ns.map V.int)/\ns.length<=63/\∀H',Q (.bl true) H') hn ay vd hr hY (λw mg fa h KX G uW=>by
 have A:=F w mg h KX G;obtain⟨f,fd,hm,Fn⟩:=(L _ _ _ A).ex;have e:fa=f:=by rw[uW]at hm;injection (cW hm)
 subst e;refine⟨fd,λs u=>?_,λao _ _=>ok l.prog w _ mg ao fa fd A Fn⟩;obtain⟨oc,od,kV,doc,pm,an,aF,ct,dX,rfl,lk,e9⟩:=Fn.ex;exact .of_eq (hb kV doc pm an aF ct u)) (λ_ _ a ns hl _ hS=>⟨a,ns,Z,hS,hl,λ_=>rfl⟩) λ_ _ _ _ _ z=>z
end _L
namespace _L
open PySem PySem.Spec PyProof.Rows
inductive a67(tb:TE)(O:St)(Q:VK)(x:V)(H1:Hp):Prop |mk (z:Str)(h0:x= .str z)(h1:z.length<=16777216)(h2:if z="" then tb O H1 Q else Q (.str z) H1)
def RL(ta tb:TE):TE:=λO H Q=>ta O H λx H1=>a67 tb O Q x H1
theorem Si{z:Str}(h:z.length=0):z="":=_T.vB (by have:z.cps.size=0:=h;rw[Array.eq_empty_of_size_eq_zero this];rfl)
theorem V2{X:Cx}{a b:Expr}{rest:List Expr}{pos:Pos}{ta tb:TE}(ha:PE X a ta)(hb:PE X (.BoolOp .Or (b::rest) pos) tb):PE X (.BoolOp .Or (a::b::rest) pos) (RL ta tb):=by
 intro pins s O H Q I h;refine BoolOp_or (aV (ha pins s O H _ I h) λv s1 ⟨x,H1,I1,r1,q1⟩=>?_);obtain⟨z,rfl,hl,q1⟩:=q1;obtain⟨t,rfl⟩:=(show∃t,v=Value.str z t from r1);refine P.truthy_str bo ?_;by_cases e:z=""
 ·rw[aR e]at q1
  subst e;exact hb pins _ O H1 Q (I1.tok _) q1
 ·rw[aU e]at q1
  have:((z.length:Int) !=0)=true:=by rw[bne_iff_ne];intro h0;exact e (Si bo)
  rw[this];exact⟨.str z,H1,I1.tok _,⟨t,Z⟩,q1⟩
end _L
namespace _c
open PySem PySem.Spec PyProof.Rows _L
def top(i:Nat):Stmt:=PySem.Challenge.pw_glidequeue_k55_fed_at_a_desk.main.body.getD i (.Pass ⟨0,0,0,0⟩)
section
variable {P:af}{w:World}{K:aa}{mg:bf}{ao:Heap}
inductive a6l(vs:List V)(H:Hp)(Q:VK):Prop |mk (p:_)(many:_)(h0:vs=[.ref p,.int many])(h1:fO H p)(h2:1<=many)(h3:many<=10^40)(h4:∀d H',0<=d->d<many->bG p H H'->Q (.int d) H')
def ny:Sp:=λvs H Q _=>a6l vs H Q
abbrev AK:Stmt:=top 109
theorem IL:bc ["_law_bag_here","_law_many","_law_digit","_law_number","_law_room"] ["_law_bag_here","_law_many"] (aM AK):=bp aI
theorem VM(F:FA K mg "_law_take" AK)(B:bu mg):aD P w K mg ao "_law_take" 1 ny:=by
 refine F.has IL (λvs H Q E h=>?_) (λ_ _ _ _ _ _=>dj λ_ _=>rfl) (λf aF A outer s H vs Q E hr h=>?_)
 ·obtain⟨p,many,rfl,_⟩:=h
  rfl
 ·obtain⟨p,many,rfl,⟨c,m,hp,ok⟩,h1,h2,k⟩:=h
  obtain⟨c0,m0,m1⟩:=id ok;have nd:=IL.nd;refine⟨_,(aE (bB (bI L7 (px K (pv 0) aB) aB (bC _)) (aE (pS 2 nd (aK me (px K (pv 0) aB) (pv 1))) (aE (eD (aK qV (px K (pv 0) aB) (pv 1)) (pA (pv 0) aB set_list)) (aH (aQ (pv 2))))) bD) (aE (pS 3 nd aB) (aE (pS 4 nd aB) (aE (xG je (bI pB (pv 4) (pv 1) (bC _)) (aE (eD (aK me (aK uu (aK dg (aK bV (px K (pv 0) aB) aB) aB) aB) aB) (pA (pv 0) aB set_list)) (aE (pS 3 nd (aK dg (aK bV (pv 3) aB) (aK me (aK bV (aK qV (px K (pv 0) aB) aB) aB) aB))) (aH (pS 4 nd (aK bV (pv 4) aB)))))) (aH (aQ (aK me (pv 3) (pv 1)))))))),?_⟩;refine⟨_,Z,.inl ⟨p,_,0,.int c,Z,Z,aG.of hp,Z,_,_,Z,Z,_,Z,?_⟩⟩;refine dZ (λhc=>?_) (λ_=>?_)
  ·refine⟨_,Z,.inl ⟨p,_,0,.int c,Z,Z,aG.of hp,Z,_,Z,_,_,Z,Z,h1,?_⟩⟩
   refine⟨_,Z,.inl ⟨p,_,0,.int c,Z,Z,aG.of hp,Z,_,Z,_,_,Z,Z,⟨h1,GP au h2⟩,?_⟩⟩;refine⟨_,Z,p,_,0,0,Z,Z,hp,Z,?_⟩;refine⟨_,Z,?_⟩;exact k _ _ (nh _ au) (qF _ au) (bG.upd ⟨Int.ediv_nonneg c0 au,m0,m1⟩)
  ·refine wR (λO H2=>∃(v:Option V)(n r:Int),O=[some (.ref p),some (.int many),v,some (.int n),some (.int r)]/\bG p H H2/\1<=r) (λO _=>match O with|[_,_,_,_,some (.int r)]=>(many-r).toNat|_=>0) ?_ ?_ ?_
   ·exact⟨none,0,1,Z,.refl ⟨c,m,hp,ok⟩,fH _⟩
   ·rintro O H2 ⟨v,n,r,rfl,bx,yu⟩
    obtain⟨c',m',rQ,c0',m0',m1'⟩:=id bx.bJ;refine⟨_,Z,_,Z,_,_,Z,Z,_,Z,?_⟩;refine dZ (λhc=>?_) (λhc=>?_)
    ·have bT:r<many:=jS hc
     refine⟨_,Z,.inl ⟨p,_,1,.int m',Z,Z,aG.of rQ,Z,_,_,Z,Z,.of_right (cJ ay ay),_,_,Z,Z,_,_,Z,Z,⟨ay,ay,?_⟩,_,_,Z,Z,(by show(0:Int)<2147483629;decide),?_⟩⟩
     ·have jv:(2:Nat)^64=18446744073709551616:=by decide
      rw[jv];lia
     refine⟨_,Z,p,_,1,1,Z,Z,rQ,Z,?_⟩;have g0:0<=((m'*48271+7919)^(3:Int).toNat)%2147483629:=nh _ ay;have g1:((m'*48271+7919)^(3:Int).toNat)%2147483629<2147483629:=qF _ ay;have bx2:bG p H (_L.upd H2 p (.lst [.int c',.int (((m'*48271+7919)^(3:Int).toNat)%2147483629)])):=bx.trans (.upd ⟨c0',g0,Int.lt_trans g1 ay⟩);refine⟨_,Z,_,_,Z,Z,.of_right (cJ ay ay),_,Z,.inl ⟨p,_,1,.int _,Z,Z,aG.of bU,Z,_,_,Z,Z,⟨ay,GP ay ay⟩,_,_,Z,Z,.of_right (cJ ay ay),_,_,Z,Z,(by show(0:Int)<1073741789;decide),_,_,Z,Z,?_⟩⟩;refine⟨_,Z,_,_,Z,Z,.of_right (cJ ay ay),?_⟩;refine⟨⟨v,_,_,Z,bx2,?_⟩,?_⟩
     ·lia
     ·show(many-r*1073741789).toNat<(many-r).toNat
      lia
    ·refine⟨_,Z,_,Z,_,_,Z,Z,h1,?_⟩
     exact k _ _ (nh _ au) (qF _ au) bx
   ·rintro O H2 Q1 Q2 hq ⟨v1,e1,v2,e2,i,j,e3,e4,kk,e5,q⟩
    exact⟨v1,e1,v2,e2,i,j,e3,e4,kk,e5,hq _ _ q⟩
inductive a7h(K:aa)(vs:List V)(H:Hp)(Q:VK):Prop |mk (a:Addr)(ns:List Int)(at':Int)(h0:vs=[.ref a,.int at'])(h1:aG K H a (ns.map V.int))(h2:ns.length<=63)(h3:0<=at')(h4:at'<=100)(h5:∀p H',H p=none->fO H' p->az H H'->Q (.ref p) H')
def Iq(K:aa):Sp:=λvs H Q _=>a7h K vs H Q
abbrev BX:Stmt:=top 108
theorem JR:bc ["_law_script","_law_at","_law_cell","_law_mix","_law_k"] ["_law_script","_law_at"] (aM BX):=bp aI
theorem Mj{ns:List Int}{j:Nat}(h:j<ns.length):∃z,eg (ns.map V.int) (j:Int)=some (.int z):=⟨ns[j],a5n (by simp[h])⟩
theorem X1(F:FA K mg "_law_bag" BX)(B:bu mg):aD P w K mg ao "_law_bag" 1 (Iq K):=by
 refine F.has JR (λvs H Q E h=>?_) (λ_ _ _ _ _ _=>dj λ_ _=>rfl) (λf aF A outer s H vs Q E hr h=>?_)
 ·obtain⟨a,ns,at',rfl,_⟩:=h
  rfl
 ·obtain⟨a,ns,at',rfl,hS,hlen,h0,h1,k⟩:=h
  obtain⟨j,rfl⟩:∃j:Nat,at'=(j:Int):=⟨at'.toNat,au⟩;have nd:=JR.nd;refine⟨_,(aE (pS 2 nd aB) (aE (ke (bB (bI pB (pv 1) (eF K B (ak (pv 0) aw)) (bC _)) (aH (pS 2 nd (ck (x:="abs") lN Z (B.at "abs") nc (ak (px K (pv 0) (pv 1)) aw)))) bD)) (aE (pS 3 nd (aK dg (aK dg (aK bV (aK bV aB (pv 1)) (pv 1)) (aK bV aB (pv 1))) aB)) (aE (kg je Z (pj Z (B.at "range") (ak (ck (x:="min") (Fy rfl) rfl (B.at "min") Q7 (ak (eF K B (ak (pv 0) aw)) (ak aB aw))) aw)) (ba 4 nd) (aH (pS 3 nd (aK me (aK uu (aK dg (aK dg (aK bV (pv 3) aB) (aK me (px K (pv 0) (pv 4)) aB)) (aK bV (pv 4) (pv 4))) aB) aB)))) (aE (ke (bB (bI pB (pv 2) (aK uu aB aB) (bC _)) (aH (pS 2 nd aB)) bD)) (aH (aQ (ft (ak (pv 2) (ak (pv 3) aw)))))))))),?_⟩;refine⟨λO H'=>H'=H/\∃c:Int,O=[some (.ref a),some (.int (j:Int)),some (.int c),none,none]/\0<=c,?_,?_⟩
  ·refine⟨_,Z,_,Z,a,_,Z,.inl hS,_,_,Z,Z,_,Z,?_⟩
   refine dZ (λhc=>?_) (λ_=>?_)
   ·have hj:(j:Int)<((ns.map V.int).length:Int):=jS hc
    rw[bA]at hj;obtain⟨z,hz⟩:=Mj (ns:=ns) (j:=j) au;refine⟨_,Z,_,Z,.inl ⟨a,_,_,_,Z,Z,hS,hz,z,Z,?_⟩⟩;exact⟨Z,_,Z,by split<;>lia⟩
   ·exact⟨Z,0,Z,fH _⟩
  rintro O H' ⟨rfl,c,rfl,c0⟩;refine⟨_,Z,_,_,Z,Z,.of_left (cJ ay ay),_,Z,_,_,Z,Z,.of_right (cJ au au),_,Z,_,_,Z,Z,.of_left (cJ ay ay),_,_,Z,Z,_,_,Z,Z,?_⟩;refine⟨_,Z,a,_,Z,.inl hS,_,_,Z,_,Z,?_,?_,?_⟩
  ·split<;>lia
  ·split<;>(try rw[bA])<;>lia
  refine yR (Pv:=λi O H2=>H2=H'/\∃(m:Int)(v:Option V),O=[some (.ref a),some (.int (j:Int)),some (.int c),some (.int m),v]/\0<=m/\m<2147483648) ?_ ?_ ?_
  ·refine⟨Z,_,none,Z,?_,?_⟩
   ·have:(0:Int)<=(j:Int)*(j:Int):=wD au au
    rw[wF];lia
   ·have:(j:Int)*(j:Int)<=100*100:=Int.mul_le_mul au au au au
    rw[wF];lia
  ·rintro i O H2 hi ⟨rfl,m,v,rfl,m0,m1⟩
   have va:i<ns.length:=by rw[bA]at hi;split at hi<;>lia
   obtain⟨z,hz⟩:=Mj (ns:=ns) (j:=i) va;rw[<-Int.zero_add (i:Int)]at hz;have Zu:0<=z%2147483647:=nh _ ay;have Zt:z%2147483647<2147483647:=qF _ ay;have a0o:(0:Int)<=(0+(i:Int))*(0+(i:Int)):=wD au au;have hii:(0+(i:Int))*(0+(i:Int))<=100*100:=Int.mul_le_mul au au au au;refine⟨_,Z,_,_,Z,Z,.of_right (cJ ay ay),_,Z,_,Z,.inl ⟨a,_,_,_,Z,Z,hS,hz,_,_,Z,Z,(by show(0:Int)<2147483647;decide),_,_,Z,Z,_,Z,_,Z,_,_,Z,Z,.of_right (cJ au au),_,_,Z,Z,_,_,Z,Z,⟨ay,ay,?_⟩,_,_,Z,Z,(by show(0:Int)<2147483629;decide),?_⟩⟩
   ·have jv:(2:Nat)^64=18446744073709551616:=by decide
    rw[jv];generalize(0+(i:Int))*(0+(i:Int))=ii at a0o hii⊢;generalize z%2147483647=zz at Zu Zt⊢
    lia
   ·exact⟨Z,_,_,Z,nh _ ay,Int.lt_trans (qF _ ay) ay⟩
  ·rintro O H2 ⟨rfl,m,v,rfl,m0,m1⟩
   refine⟨λO H3=>H3=H2/\∃c:Int,O=[some (.ref a),some (.int (j:Int)),some (.int c),some (.int m),v]/\0<=c,?_,?_⟩
   ·refine⟨_,Z,_,_,Z,Z,⟨ay,ay,ay⟩,_,_,Z,Z,_,Z,?_⟩
    refine dZ (λhc=>?_) (λ_=>?_)
    ·exact⟨Z,0,Z,fH _⟩
    ·exact⟨Z,c,Z,c0⟩
   rintro O H3 ⟨rfl,c,rfl,c0⟩;refine⟨_,Z,_,Z,(by show 2<=sizeLine;decide),λp H4 nw=>?_⟩;exact k p H4 nw.no ⟨c,m,nw.at',c0,m0,m1⟩ nw.same
inductive a7a(vs:List V)(H:Hp)(Q:VK):Prop |mk (a:Int)(b:Int)(h0:vs=[.int a,.int b])(h1:Q (.int (Int.gcd a b)) H)
def Ay:Sp:=λvs H Q _=>a7a vs H Q
inductive a6R(vs:List V)(H:Hp)(Q:VK):Prop |mk (a:Int)(b:Int)(h0:vs=[.int a,.int b])(h1:b≠0)(h2:Wd b)(h3:∀t H',Nw H H' t (.tup [.int (_A.lowP a b),.int (_A.fj a b)])->Q (.ref t) H')
def xl:Sp:=λvs H Q _=>a6R vs H Q
def uP(T:String):Bool:=hW T "int"&& !hW T "bool"
inductive a71(K:aa)(vs:List V)(H:Hp)(Q:VK):Prop |mk (v:_)(T:_)(h0:vs=[v])(h1:ql K H v T)(h2:Q (.bl (uP T)) H)
def xp(K:aa):Sp:=λvs H Q _=>a71 K vs H Q
abbrev BU:Stmt:=top 47
theorem JO:bc ["p","q","high","low"] ["p","q"] (aM BU):=bp aI
theorem WY(F:FA K mg "common_divisor" BU)(B:bu mg):aD P w K mg ao "common_divisor" 1 Ay:=by
 refine F.has JO (λvs H Q E h=>?_) (λ_ _ _ _ _ _=>dj λ_ _=>rfl) (λf aF A outer s H vs Q E hr h=>?_)
 ·obtain⟨a,b,rfl,_⟩:=h
  rfl
 ·obtain⟨a,b,rfl,k⟩:=h
  have nd:=JO.nd;refine⟨_,(aE (xH (i:=2) (j:=3) Z nd Z Z ay Z Z (ak (ck (x:="abs") lN Z (B.at "abs") nc (ak (pv 0) aw)) (ak (ck (x:="abs") lN rfl (B.at "abs") nc (ak (pv 1) aw)) aw)) rfl) (aE (xG je (bI (mr K Z hr.units) (pv 3) aB (bC _)) (aH (xH (i:=2) (j:=3) Z nd Z Z ay Z Z (ak (pv 3) (ak (aK me (pv 2) (pv 3)) aw)) Z))) (aH (aQ (pv 2))))),?_⟩;refine⟨_,Z,_,Z,_,Z,_,Z,_,_,Z,?_⟩;refine wR (λO H2=>H2=H/\∃(x y:Int),O=[some (.int a),some (.int b),some (.int x),some (.int y)]/\0<=x/\0<=y/\Int.gcd x y=Int.gcd a b) (λO _=>match O with|[_,_,_,some (.int y)]=>y.natAbs|_=>0) ?_ ?_ ?_
  ·refine⟨Z,_,_,Z,by split<;>lia,by split<;>lia,?_⟩
   have h1:(if a<0 then-a else a).natAbs=a.natAbs:=by split<;>lia
   have h2:(if b<0 then-b else b).natAbs=b.natAbs:=by split<;>lia
   unfold Int.gcd;rw[h1,h2]
  ·rintro O H2 ⟨rfl,x,y,rfl,x0,y0,e⟩
   refine⟨_,Z,.inl ⟨_,_,Z,Z,_,Z,?_⟩⟩;refine dZ (λhc=>?_) (λhc=>?_)
   ·have hy:y≠0:=by simpa using hc
    have kA:0<y:=by lia
    refine⟨_,Z,_,Z,_,Z,_,_,Z,Z,kA,_,_,Z,?_⟩;refine⟨⟨Z,_,_,Z,y0,nh _ hy,(_A.MX kA).trans e⟩,?_⟩;show(x%y).natAbs<y.natAbs;have:=nh x hy;have:=qF x kA
    lia
   ·have hy:y=0:=by simpa using hc
    subst hy;refine⟨_,Z,?_⟩;rw[Int.gcd_zero_right]at e;have e2:x=((Int.gcd a b:Nat):Int):=by lia
    rw[e2];exact k
  ·rintro O H2 Q1 Q2 hq ⟨v1,e1,h⟩
   refine⟨v1,e1,?_⟩;rcases h with⟨i,j,e3,e4,kk,e5,q⟩|⟨d,e,r1,r2,s1,s2,kk,e5,q⟩
   ·exact .inl ⟨i,j,e3,e4,kk,e5,hq _ _ q⟩
   ·exact .inr ⟨d,e,r1,r2,s1,s2,kk,e5,hq _ _ q⟩
open _T (numS)
def vM (i:Int):Prop:=i.natAbs<10^540
inductive a6I(vs:List V)(H:Hp)(Q:VK):Prop |mk (i:_)(h0:vs=[.int i])(h1:vM i)(h2:∀H',az H H'->Q (.str (numS i)) H')
def m6:Sp:=λvs H Q _=>a6I vs H Q
theorem Lu{ds:List ah}{d:ah}(h:cy ds=true)(i:eX d=true):cy (ds++[d])=true:=gP.mpr λx hx=>(iO.mp hx).elim (gP.mp h x) λz=>by rw[cS.mp z];exact i
abbrev AQ:Stmt:=top 80
theorem IT:bc ["number","rest","parts","low","written"] ["number"] (aM AQ):=bp aI
theorem VR(F:FA K mg "show_number" AQ)(B:bu mg)(MK:GV mg "PART" (.int 10000000000000000000000000000000000000000000000000000000000000000))(a15:GV mg "PART_FIGURES" (.int 64)):aD P w K mg ao "show_number" 1 m6:=by
 refine F.has IT (λvs H Q E h=>?_) (λ_ _ _ _ _ _=>cE λ_=>rfl) (λf aF A outer s H vs Q E hr h=>?_)
 · obtain⟨i,rfl,_⟩:=h
   rfl
 · obtain⟨i,rfl,hn,k⟩:=h
   have nd:=IT.nd;refine⟨_,(aE (pS 1 nd (ck (x:="abs") lN Z (B.at "abs") nc (ak (pv 0) aw))) (aE (pS 2 nd (ft aw)) (aE (xG je (bI CW (pv 1) (cD (x:="PART") Z MK) (bC _)) (aE (eD (ck (x:="divmod") a55 Z (B.at "divmod") PyProof.Rows.boot_divmod (ak (pv 1) (ak (cD (x:="PART") rfl MK) aw))) (dW K rfl (n:=2) rfl (bP (ba 1 nd) (bP (ba 3 nd) dU)))) (aH (ug (uq K Z (pv 2) (ak (Vd K Z (cT (x:="str") gY Z (B.at "str") gy (ak (pv 3) aw)) (ak (cD (x:="PART_FIGURES") rfl a15) aw)) aw)))))) (aE (ug (uq K Z (pv 2) (ak (cT (x:="str") gY Z (B.at "str") gy (ak (pv 1) aw)) aw))) (aE (pS 4 nd (Vg K Z Z (B.at "reversed") bq (ak (pv 2) aw))) (aH (aQ (gM (bI pB (pv 0) aB (bC _)) (uo (gL bq (gL (la (pv 4)) uj))) (pv 4))))))))),?_⟩;refine⟨_,Z,i,Z,?_⟩;rw[show(if i<0 then-i else i)=((i.natAbs:Nat):Int) by split<;>omega];refine⟨bW Z,λl H1 n1=>?_⟩;refine wR (λO H2=>az H H2/\∃(r:Nat)(zs:List Str)(v3 v4:Option V),O=[some (.int i),some (.int r),some (.ref l),v3,v4]/\H2 l=some (.lst (zs.map V.str))/\_N.Wr i.natAbs r zs) (λO _=>match O with|[_,some (.int y),_,_,_]=>y.natAbs|_=>0) ?_ ?_ ?_
   ·exact⟨n1.same,_,[],_,_,Z,n1.at',_N.Wr.nil _⟩
   · rintro O H2 ⟨s2,r,zs,v3,v4,rfl,dl,wr⟩
     refine⟨_,Z,_,_,Z,Z,_,Z,?_⟩;have eB:(10000000000000000000000000000000000000000000000000000000000000000:Int)=((10^64:Nat):Int):=by decide+kernel
     rw[eB];have len:=wr.len hn
     have ll : (zs.map V.str).length < sizeLine := by rw[bA];have:(8:Nat)<sizeLine:=by decide
                                                      omega
     have nl:H l=none:=n1.no;have put:∀(H3:Hp)(z:Str),az H2 H3->az H (upd H3 l (.lst (zs.map V.str++[.str z]))):=λH3 z s3 b o e=>by
      have hb:b≠l:=λy=>by rw[y,nl]at e;cases e
      rw[bh hb];exact s3 _ _ (s2 _ _ e)
     refine dZ (λhc=>?_) (λhc=>?_)
     · have hr:10^64<=r:=by have:=jS hc;omega
       have hm:r%10^64<10^64:=Nat.mod_lt _ (Nat.pow_pos ay);refine⟨_,Z,_,_,Z,aI,by show(10^64:Nat)<2^5000;decide+kernel,λt H3 n3=>?_⟩;refine⟨_,_,Z,aP.of n3.at',Z,_,_,Z,_,_,Z,Z,?_⟩;have em:(((r:Nat):Int)%((10^64:Nat):Int))=((r%10^64:Nat):Int):=rfl;have ed:(((r:Nat):Int)/((10^64:Nat):Int))=((r/10^64:Nat):Int):=rfl;have lg:=_N.LZ (lU hm (by decide+kernel:10^64<10^540));refine⟨_,Z,.inl ⟨Z,_,aG.of (n3.same _ _ dl)⟩,_,Z,.inl ⟨_,Z,lg,Z,⟨_,_,Z,Z,aI,⟨l,_,_,Z,Z,n3.same _ _ dl,ll,?_⟩⟩⟩⟩;refine⟨⟨put H3 _ n3.same,r/10^64,zs++[Txt.zfill (numS ((r%10^64:Nat):Int)) 64],_,_,Z,?_,wr.step hr⟩,?_⟩
       ·rw[bU,jg];rfl
       · show((r/10^64:Nat):Int).natAbs<((r:Nat):Int).natAbs
         have:r/10^64<r:=Nat.div_lt_self bo ay;omega
     · have hr:r<10^64:=by have:=(mt bR) hc;omega
       have lg:=_N.LZ (lU hr (by decide+kernel:10^64<10^540));have lr:(numS (r:Int)).length<=64:=by show(numS (r:Int)).cps.size<=64;rw[<-jU,_T.lM,bA];exact(Nat.length_toDigits_le_iff ay ay).mpr hr
       refine⟨_,Z,.inl ⟨Z,_,aG.of dl⟩,_,Z,.inl ⟨_,Z,lg,⟨l,_,_,Z,Z,dl,ll,?_⟩⟩⟩;refine⟨Z,_,Z,⟨"",l,zs++[numS (r:Int)],Z,Z,aG.of (by rw[bU,jg];rfl),λz hz=>?_,aI,by rw[fQ,tm];omega,?_⟩⟩
       · rcases iO.mp hz with hz|hz
         ·have:=wr.l z hz;omega
         ·rw[cS.mp hz];omega
       have ew:Txt.join "" (zs++[numS (r:Int)]).reverse=numS (i.natAbs:Int):=by rw[List.reverse_append,List.reverse_cons,List.reverse_nil,List.nil_append,List.singleton_append];exact(_N.OE _ _).trans wr.e.symm
       rw[ew];have j4:sizeLine=16777216:=by decide
       have l0:(numS (i.natAbs:Int)).length<=541:=_N.YK (by rw[Qq];exact hn);have e0:Str.empty.length=0:=by decide+kernel
       have e1:Str.length "-"=1:=by decide+kernel
       refine⟨_,Z,_,_,Z,Z,_,Z,?_⟩;have fin:=k _ (put H2 (numS (r:Int)) (az.refl _));refine dZ (λhi=>?_) (λhi=>?_)
       · have hi:=jS hi
         refine⟨_,Z,by simp only[dy];omega,_,Z,.inr ⟨_,Z,bo,_,Z,by simp only[dy];omega,by simp only[dy];omega,?_⟩⟩;rw[Ga,_N.abs_neg hi,<-_N.Xl hi];exact fin
       · have hi:=(mt bR) hi
         rw[_N.a5E hi];exact⟨_,Z,fin⟩
   · rintro O H2 Q1 Q2 hq h
     obtain⟨v1,e1,i1,j1,e2,e3,kk,e4,q⟩:=h;exact⟨v1,e1,i1,j1,e2,e3,kk,e4,hq _ _ q⟩
abbrev BG:Stmt:=top 14
theorem JA:bc ["thing"] ["thing"] (aM BG):=bp aI
theorem WD(F:FA K mg "is_whole" BG)(B:bu mg):aD P w K mg ao "is_whole" 1 (xp K):=by
 refine F.has JA (λvs H Q E h=>?_) (λ_ _ _ _ _ _=>cE λ_=>rfl) (λf aF A outer s H vs Q E hr h=>?_)
 ·obtain⟨v,T,rfl,_⟩:=h
  rfl
 ·obtain⟨v,T,rfl,ty,k⟩:=h
  have nd:=JA.nd;refine⟨_,(aH (aQ (qS (lj K B (ak (pv 0) (ak (ki (x:="int") (v:=.ty "int") Z (B.at "int") PyProof.Rows.boot_int rfl) aw))) (qQ (V3 (lj K B (ak (pv 0) (ak (ki (x:="bool") (v:=.ty "bool") rfl (B.at "bool") PyProof.Rows.boot_bool rfl) aw)))))))),?_⟩;refine⟨_,Z,.inl ⟨_,T,"int",_,Z,ty,ay,Z,_,Z,?_⟩⟩;unfold uP at k;refine dZ (λhc=>?_) (λhc=>?_)
  ·refine⟨_,Z,.inl ⟨_,T,"bool",_,Z,ty,ay,Z,_,Z,?_⟩⟩
   rw[hc,gc]at k;exact k
  ·rw[wH.mpr hc,gf]at k
   exact k
open _l
def dh(ns:List Int)(sp:Int):ah:=.tuple [.str "line",.tuple (ns.map PyData.int),.int sp]
theorem YJ(ns:List Int)(sp:Int):eX (dh ns sp)=true:=by simp[dh,eX,cy,kr]
structure eL(ax:Nat)(m:Int)(ns:List Int):Prop where
 len:ns.length=ax
 bd:∀z∈ns,(z.natAbs:Int)<=m
 nz:∃z∈ns,z≠0
theorem eL.lead{ax:Nat}{m:Int}{ns:List Int}(h:eL ax m ns):0<aL ns/\(aL ns:Int)<=m:=by
 refine⟨YO h.nz,?_⟩;have hm:0<=m:=by obtain⟨z,hz,_⟩:=h.nz;have:=h.bd z hz;lia
 have:=lC (ns:=ns) (m:=m.toNat) λz hz=>by have:=h.bd z hz;lia
 lia
theorem eL.ne{ax:Nat}{m:Int}{ns:List Int}(h:eL ax m ns):ns≠[]:=by obtain⟨z,hz,_⟩:=h.nz;intro e;subst e;cases hz
theorem lB{H:Hp}{v:V}{ns:List Int}{sp:Int}(h:RD K H v (dh ns sp)):∃a b,v= .ref a/\aP K H a [.str "line",.ref b,.int sp]/\aP K H b (ns.map V.int):=by obtain⟨a,xs,rfl,h1,h2⟩:=h.cg;obtain⟨x1,r1,rfl,e1,h2⟩:=h2.cons_inv;obtain⟨x2,r2,rfl,e2,h2⟩:=h2.cons_inv;obtain⟨x3,r3,rfl,e3,h2⟩:=h2.cons_inv;cases h2.nil_inv;cases e1.str_inv;cases e3.int_inv;obtain⟨b,ys,rfl,h3,h4⟩:=e2.cg;rw[h4.eO]at h3;exact⟨a,b,Z,h1,h3⟩
inductive a6U(K:aa)(vs:List V)(H:Hp)(Q:VK):Prop |mk (v:_)(ns:_)(sp:_)(h0:vs=[v])(h1:RD K H v (dh ns sp))(h2:ns≠[])(h3:ns.length<=1000)(h4:∀H',az H H'->Q (.int (aL ns)) H')
def m7(K:aa):Sp:=λvs H Q _=>a6U K vs H Q
theorem kv{ns:List Int}{f:Int->ah}{i:Nat}{d:ah}(h:(ns.map f)[i]? =some d):∃n,ns[i]? =some n/\f n=d:=by rw[bK]at h;cases e:ns[i]? with |none=>rw[e]at h;cases h |some n=>rw[e]at h;exact⟨n,Z,cW h⟩
theorem y4{ns:List Int}{i:Nat}{x:V}{n:Int}(h:(ns.map V.int)[i]? =some x)(e:ns[i]? =some n):x= .int n:=by rw[bK,e]at h;exact(cW h).symm
abbrev Bu:Stmt:=top 49
theorem Jp:bc ["line"] ["line"] (aM Bu):=bp aI
theorem WA(F:FA K mg "lead_of" Bu)(B:bu mg):aD P w K mg ao "lead_of" 1 (m7 K):=by
 refine F.has Jp (λvs H Q E h=>?_) (λ_ _ _ _ _ _=>cE λ_=>rfl) (λf aF A outer s H vs Q E hr h=>?_)
 ·obtain⟨v,ns,sp,rfl,_⟩:=h
  rfl
 ·obtain⟨v,ns,sp,rfl,rd,cm,hz,k⟩:=h
  have nd:=Jp.nd;obtain⟨a,b,rfl,ha,hb⟩:=lB rd;refine⟨_,(aH (aQ (ck (x:="max") (Dy K Z Z) Z (B.at "max") Gj (ak (dD (N:=["step"]) (js:=[none]) rfl rfl rfl (jn K rfl (px K (pv 0) aB)) (λ_ _ _ _ _=>(ba 0 (gD _))) (λ_ _ _ _ _=>cX) (λ_ _ _ _ _=>(ck (x:="abs") lN rfl (B.at "abs") nc (ak (pv 0) aw)))) aw)))),?_⟩;refine⟨_,Z,.inr ⟨a,_,1,.ref b,Z,Z,ha,Z,b,Z,⟨_,hb⟩,λD H0 nw=>?_⟩⟩;refine o9 (K:=K) (xs:=ns.map V.int) (ds:=(ns.map jO).map PyData.int) [] hb nw (by simp) (by simpa using hz) (kr _) ?_ ?_
  ·intro i x d H2 Q' ex ed s2 hq
   obtain⟨m,em,rfl⟩:=kv ed;rw[bK]at em;cases en:ns[i]? with |none=>rw[en]at em;cases em |some n=>rw[en]at em;cases em;cases y4 ex en;exact⟨_,Z,n,Z,hq _ _ (az.refl _) (eu _)⟩
  ·intro H' ys s2 d2 r2
   rw[r2.eO]at d2;refine⟨D,_,Z,aG.of d2,by simpa using cm,λM h1 h2=>?_⟩;rw[DH cm h1 h2];exact k H' s2
open _d
abbrev Bw:Stmt:=top 46
theorem Js:bc ["p","q","divisor"] ["p","q"] (aM Bw):=bp aI
theorem Wu(F:FA K mg "lowest_terms" Bw)(B:bu mg)(a0J:aD P w K mg ao "common_divisor" 1 Ay):aD P w K mg ao "lowest_terms" 2 xl:=by
 refine F.has Js (λvs H Q E h=>?_) (λ_ _ _ _ _ _=>dj λ_ _=>rfl) (λf aF A outer s H vs Q E hr h=>?_)
 ·obtain⟨a,b,rfl,_⟩:=h
  rfl
 ·obtain⟨a,b,rfl,hb,wb,k⟩:=h
  have nd:=Js.nd;have sw:Wd (_A.sg a b):=zZ (_A.Iz hb) wb;refine⟨_,(aE (pS 2 nd (pf a0J hr (ak (pv 0) (ak (pv 1) aw)))) (aE (ke (bB (bI pB (pv 1) aB (bC _)) (aH (pS 2 nd (kh jV (pv 2)))) bD)) (aH (aQ (eE (ak (aK L8 (pv 0) (pv 2)) (ak (aK L8 (pv 1) (pv 2)) aw))))))),?_⟩;refine⟨_,Z,_,Z,a,b,Z,?_⟩;refine⟨λO H'=>H'=H/\O=[some (.int a),some (.int b),some (.int (_A.sg a b))],?_,?_⟩
  ·refine⟨_,Z,_,_,Z,Z,_,Z,?_⟩
   refine dZ (λhc=>?_) (λhc=>?_)
   ·have hd:b<0:=jS hc
    refine⟨_,Z,_,Z,?_⟩;refine⟨Z,?_⟩;unfold _A.sg;rw[aR hd];rfl
   ·have hd:¬b<0:=λz=>hc (bR z)
    refine⟨Z,?_⟩;unfold _A.sg;rw[aU hd];rfl
  rintro O H' ⟨rfl,rfl⟩;refine⟨_,Z,_,Z,_,_,Z,Z,⟨_A.tX hb,sw⟩,_,Z,_,Z,_,_,Z,Z,⟨_A.tX hb,sw⟩,(by show 2<=sizeLine;decide),λt H4 nw=>?_⟩;exact k t H4 nw
def bM(K:aa)(H:Hp)(v:V)(r:Rat):Prop:=∃p,v= .ref p/\aP K H p [.int r.num,.int r.den]
theorem bM.go{H H':Hp}{v:V}{r:Rat}(h:bM K H v r)(s:az H H'):bM K H' v r:=by obtain⟨p,e,q⟩:=h;exact⟨p,e,q.go s⟩
def cx(r:Rat):ah:=.tuple [.int r.num,.int r.den]
theorem bM.rd{H:Hp}{v:V}{r:Rat}(h:bM K H v r):RD K H v (cx r):=by obtain⟨p,rfl,q⟩:=h;exact eZ q (cj (eu _) (cj (eu _) de))
theorem Ud(r:Rat):cF 1 (cx r):=fZ.tup (.cons (.int _) (.cons (.int _) .nil))
theorem eqR{r s:Rat}(h:r=s):PyData.eqv (cx r) (cx s)=true:=by rw[h];exact(Ud s).refl
theorem nj{n:Nat}{i:Int}(h:i.natAbs<2^n)(l:n<=5000):Wd i:=fb h (t7 ay l)
theorem _root_._d.Bd.wn{r:Rat}(h:Bd 2000 r):Wd r.num:=nj h.num ay
theorem _root_._d.Bd.wd{r:Rat}(h:Bd 2000 r):Wd (r.den:Int):=nj (n:=2000) (by have:=h.den;omega) ay
theorem QK{r s:Rat}(h:Bd 2000 r)(g:Bd 2000 s):Wd ((r.den:Int)*(s.den:Int)):=nj (n:=4000) (Oa h g) ay
theorem Kk{H':Hp}{t:Addr}{a b:Int}{r:Rat}(hb:b≠0)(e:r=Rat.divInt a b)(h:H' t=some (.tup [.int (_A.lowP a b),.int (_A.fj a b)])):bM K H' (.ref t) r:=by obtain⟨e1,e2⟩:=DA (a:=a) hb;rw[e1,e2,<-e]at h;exact⟨t,Z,aP.of h⟩
inductive a6z(op:Rat->Rat->Rat)(K:aa)(vs:List V)(H:Hp)(Q:VK):Prop |mk (v1:_)(v2:_)(r:_)(s:_)(h0:vs=[v1,v2])(h1:bM K H v1 r)(h2:bM K H v2 s)(h3:Bd 2000 r)(h4:Bd 2000 s)(h5:∀v H',bM K H' v (op r s)->az H H'->Q v H')
def HV(op:Rat->Rat->Rat)(K:aa):Sp:=λvs H Q _=>a6z op K vs H Q
abbrev Bo:Stmt:=top 42
theorem Jj:bc ["one","other","p","q","r","s"] ["one","other"] (aM Bo):=bp aI
theorem Wq(F:FA K mg "minus" Bo)(B:bu mg)(Eg:aD P w K mg ao "lowest_terms" 2 xl):aD P w K mg ao "minus" 3 (HV (·-·) K):=by
 refine F.has Jj (λvs H Q E h=>?_) (λ_ _ _ _ _ _=>dj λ_ _=>rfl) (λf aF A outer s H vs Q E hr h=>?_)
 ·obtain⟨v1,v2,r,s,rfl,_⟩:=h
  rfl
 ·obtain⟨v1,v2,r,s,rfl,⟨p,rfl,hp⟩,⟨q,rfl,hq⟩,br,bs,k⟩:=h
  have nd:=Jj.nd;refine⟨_,(aE (eD (pv 0) (dW K Z (n:=2) Z (bP (ba 2 nd) (bP (ba 3 nd) dU)))) (aE (eD (pv 1) (dW K Z (n:=2) Z (bP (ba 4 nd) (bP (ba 5 nd) dU)))) (aH (aQ (pf Eg hr (ak (aK kl (aK bV (pv 2) (pv 5)) (aK bV (pv 4) (pv 3))) (ak (aK bV (pv 3) (pv 5)) aw))))))),?_⟩;refine⟨_,Z,_,_,Z,hp,Z,_,_,Z,_,_,Z,Z,?_⟩;refine⟨_,Z,_,_,Z,hq,Z,_,_,Z,_,_,Z,Z,?_⟩;refine⟨_,Z,_,Z,_,_,Z,Z,oH br.wn.bits bs.wd.bits,_,Z,_,Z,_,_,Z,Z,oH bs.wn.bits br.wd.bits,_,_,Z,Z,_,Z,_,Z,_,_,Z,Z,oH br.wd.bits bs.wd.bits,?_⟩;exact⟨_,_,Z,Fs r s,QK br bs,λt H' nw=>k _ _ (Kk (Fs r s) (Sf r s) nw.at') nw.same⟩
inductive a6S(K:aa)(vs:List V)(H:Hp)(Q:VK):Prop |mk (v1:_)(v2:_)(r:_)(s:_)(h0:vs=[v1,v2])(h1:bM K H v1 r)(h2:bM K H v2 s)(h3:Bd 2000 r)(h4:Bd 2000 s)(h5:Q (.bl (decide (r<s))) H)
def xn(K:aa):Sp:=λvs H Q _=>a6S K vs H Q
abbrev Br:Stmt:=top 44
theorem Jm:bc ["one","other","p","q","r","s"] ["one","other"] (aM Br):=bp aI
theorem Wx(F:FA K mg "is_less" Br)(B:bu mg):aD P w K mg ao "is_less" 1 (xn K):=by
 refine F.has Jm (λvs H Q E h=>?_) (λ_ _ _ _ _ _=>dj λ_ _=>rfl) (λf aF A outer s H vs Q E hr h=>?_)
 ·obtain⟨v1,v2,r,s,rfl,_⟩:=h
  rfl
 ·obtain⟨v1,v2,r,s,rfl,⟨p,rfl,hp⟩,⟨q,rfl,hq⟩,br,bs,k⟩:=h
  have nd:=Jm.nd;refine⟨_,(aE (eD (pv 0) (dW K Z (n:=2) Z (bP (ba 2 nd) (bP (ba 3 nd) dU)))) (aE (eD (pv 1) (dW K Z (n:=2) Z (bP (ba 4 nd) (bP (ba 5 nd) dU)))) (aH (aQ (jE pB (aK bV (pv 2) (pv 5)) (aK bV (pv 4) (pv 3)) (bC _)))))),?_⟩;refine⟨_,Z,_,_,Z,hp,Z,_,_,Z,_,_,Z,Z,?_⟩;refine⟨_,Z,_,_,Z,hq,Z,_,_,Z,_,_,Z,Z,?_⟩;refine⟨_,Z,_,Z,_,_,Z,Z,oH br.wn.bits bs.wd.bits,_,Z,_,Z,_,_,Z,Z,oH bs.wn.bits br.wd.bits,_,_,Z,Z,?_⟩;have e:decide (r.num*(s.den:Int)<s.num*(r.den:Int))=decide (r<s):=by rw[jh,vZ,vZ,wk]
  show Q (.bl (decide (r.num*(s.den:Int)<s.num*(r.den:Int)))) H;rw[e];exact k
def om(K:aa)(H:Hp):List V->List Rat->Prop |[],[]=>True |v::vs,r::rs=>bM K H v r/\Bd 2000 r/\om K H vs rs |_,_=>False
theorem om.length{H:Hp}:∀{vs:List V}{rs:List Rat},om K H vs rs->vs.length=rs.length |[],[],_=>rfl |v::vs,r::rs,h=>by rw[gb,gb,om.length h.2.2] |[],_::_,h=>h.elim |_::_,[],h=>h.elim
theorem om.get{H:Hp}:∀{vs:List V}{rs:List Rat}{i:Nat}{v:V},om K H vs rs->vs[i]? =some v->∃r,rs[i]? =some r/\bM K H v r/\Bd 2000 r
 |[],[],i,v,_,e=>by simp at e |v::vs,r::rs,0,v',h,e=>by
  have e':v=v':=by simpa using e
  subst e';exact⟨r,Z,h.1,h.2.1⟩ |v::vs,r::rs,i+1,v',h,e=>by obtain⟨r',e1,q⟩:=om.get h.2.2 (show vs[i]? =some v' by simpa using e);exact⟨r',by simpa using e1,q⟩ |[],_::_,_,_,h,_=>h.elim |_::_,[],_,_,h,_=>h.elim
inductive a6T(K:aa)(vs:List V)(H:Hp)(Q:VK):Prop |mk (l:_)(xs:_)(rs:_)(h0:vs=[.ref l])(h1:aG K H l xs)(h2:om K H xs rs)(h3:xs≠[])(h4:∀(i:Nat)(v:V)(r:Rat),xs[i]? =some v->rs[i]? =some r->(∀s∈rs,r<=s)->Q v H)
def tP(K:aa):Sp:=λvs H Q _=>a6T K vs H Q
abbrev Bs:Stmt:=top 45
theorem Jn:bc ["some","best","one"] ["some"] (aM Bs):=bp aI
theorem Wy(F:FA K mg "least" Bs)(B:bu mg)(Ei:aD P w K mg ao "is_less" 1 (xn K)):aD P w K mg ao "least" 2 (tP K):=by
 refine F.has Jn (λvs H Q E h=>?_) (λ_ _ _ _ _ _=>cE λ_=>rfl) (λf aF A outer s H vs Q E hr h=>?_)
 ·obtain⟨l,xs,rs,rfl,_⟩:=h
  rfl
 ·obtain⟨l,xs,rs,rfl,hl,lE,cm,k⟩:=h
  have nd:=Jn.nd;refine⟨_,(aE (pS 1 nd (px K (pv 0) aB)) (aE (kg je Z (pk K Z (pv 0)) (ba 2 nd) (aH (bB (cC (pf Ei hr (ak (pv 2) (ak (pv 1) aw)))) (aH (pS 1 nd (pv 2))) bD))) (aH (aQ (pv 1))))),?_⟩;have hlen:=lE.length;have h0:0<xs.length:=wA.mpr cm;have e0:=cI h0;refine⟨_,Z,.inl ⟨l,xs,0,xs[0],Z,Z,hl,cN ay e0,?_⟩⟩;refine⟨_,Z,l,Z,⟨_,hl⟩,Nd (K:=K) (a:=l) (xs:=xs) (λi O H2=>H2=H/\∃(j:Nat)(b:V)(r:Rat)(v:Option V),xs[j]? =some b/\rs[j]? =some r/\(∀(m:Nat)(s:Rat),m<i->rs[m]? =some s->r<=s)/\O=[some (.ref l),some b,v]) ?_ (λi O H2 _ h=>by rw[h.1];exact hl) ?_ ?_⟩
  ·obtain⟨r,e1,_⟩:=lE.get e0
   exact⟨Z,0,_,r,none,e0,e1,λm s hm=>absurd hm (Nat.not_lt_zero _),Z⟩
  ·rintro i x O H2 hx ⟨rfl,j,b,r,v,eb,er,hm,rfl⟩
   obtain⟨t,et,rt,bt⟩:=lE.get hx;obtain⟨r2,NH,rb,bb⟩:=lE.get eb;rw[er]at NH;cases NH;refine⟨_,Z,_,Z,x,b,t,r,Z,rt,rb,bt,bb,_,Z,?_⟩;refine dZ (λhc=>?_) (λhc=>?_)
   ·have bT:t<r:=jS hc
    refine⟨_,Z,?_⟩;refine⟨Z,i,x,t,_,hx,et,λm s Ef es=>?_,Z⟩;rcases Nat.lt_succ_iff_lt_or_eq.mp Ef with h|h
    ·exact kR (Gb bT) (hm m s h es)
    ·subst h
     rw[et]at es;cases es;exact iK
   ·have ZY:¬t<r:=λz=>hc (bR z)
    refine⟨Z,j,b,r,_,eb,er,λm s Ef es=>?_,Z⟩;rcases Nat.lt_succ_iff_lt_or_eq.mp Ef with h|h
    ·exact hm m s h es
    ·subst h
     rw[et]at es;cases es;exact oz.mp ZY
  ·rintro O H2 ⟨rfl,j,b,r,v,eb,er,hm,rfl⟩
   refine⟨_,Z,k j b r eb er λs hs=>?_⟩;obtain⟨m,hml,em⟩:=List.mem_iff_getElem.mp hs;exact hm m s au (by rw[cI hml,em])
inductive a6O(K:aa)(vs:List V)(H:Hp)(Q:VK):Prop |mk (a:_)(b:_)(h0:vs=[.int a,.int b])(h1:b≠0)(h2:Wd b)(h3:∀v H',bM K H' v (Rat.divInt a b)->az H H'->Q v H')
def tO(K:aa):Sp:=λvs H Q _=>a6O K vs H Q
abbrev BN:Stmt:=top 40
theorem JH:bc ["p","q"] ["p","q"] (aM BN):=bp aI
theorem WR(F:FA K mg "fraction" BN)(B:bu mg)(yB:aD P w K mg ao "is_whole" 1 (xp K))(Eg:aD P w K mg ao "lowest_terms" 2 xl):aD P w K mg ao "fraction" 3 (tO K):=by
 refine F.has JH (λvs H Q E h=>?_) (λ_ _ _ _ _ _=>dj λ_ _=>rfl) (λf aF A outer s H vs Q E hr h=>?_)
 ·obtain⟨a,b,rfl,_⟩:=h
  rfl
 ·obtain⟨a,b,rfl,hb,wb,k⟩:=h
  have nd:=JH.nd;refine⟨_,(aE (bB (PW.pt (iq (df (cC (pf yB hr (ak (pv 0) aw)))) (ip (df (cC (pf yB hr (ak (pv 1) aw))))))) (aH ph) bD) (aE (bB (bI (dv K Z hr.units) (pv 1) aB (bC _)) (aH ph) bD) (aH (aQ (pf Eg hr (ak (pv 0) (ak (pv 1) aw))))))),?_⟩;have iw:uP "int"=true:=by decide
  refine⟨_,Z,_,"int",Z,Z,_,Z,?_⟩;rw[iw];refine aZ ?_;refine⟨_,Z,_,"int",Z,Z,_,Z,?_⟩;rw[iw];refine aZ ?_;refine⟨_,Z,.inl ⟨_,_,Z,Z,_,Z,?_⟩⟩;rw[dM hb];refine aZ ?_;exact⟨_,Z,_,Z,_,_,Z,hb,wb,λt H' nw=>k _ _ (Kk hb Z nw.at') nw.same⟩
def iA(rs:List Int)(r f j t:Int):ah:=.tuple [.tuple (rs.map PyData.int),.int r,.int f,.int j,.int t]
theorem iY(rs:List Int)(r f j t:Int):eX (iA rs r f j t)=true:=by simp[iA,eX,cy,kr]
theorem my{H:Hp}{v:V}{rs:List Int}{r f j t:Int}(h:RD K H v (iA rs r f j t)):∃a b,v= .ref a/\aP K H a [.ref b,.int r,.int f,.int j,.int t]/\aP K H b (rs.map V.int):=by obtain⟨a,xs,rfl,h1,h2⟩:=h.cg;obtain⟨x1,r1,rfl,e1,h2⟩:=h2.cons_inv;obtain⟨x2,r2,rfl,e2,h2⟩:=h2.cons_inv;obtain⟨x3,r3,rfl,e3,h2⟩:=h2.cons_inv;obtain⟨x4,r4,rfl,e4,h2⟩:=h2.cons_inv;obtain⟨x5,r5,rfl,e5,h2⟩:=h2.cons_inv;cases h2.nil_inv;cases e2.int_inv;cases e3.int_inv;cases e4.int_inv;cases e5.int_inv;obtain⟨b,ys,rfl,h3,h4⟩:=e1.cg;rw[h4.eO]at h3;exact⟨a,b,Z,h1,h3⟩
structure kQ(rs:List Int)(r f j t:Int):Prop where
 len:rs.length=2\/rs.length=3
 rl:∀z∈rs,1<=z/\z<=100
 r1:1<=r/\r<=50
 f1:1<=f/\f<=50
 j1:1<=j/\j<=50
 t1:1<=t/\t<=100
inductive a6Q(K:aa)(vs:List V)(H:Hp)(Q:VK):Prop |mk (p:_)(h0:vs=[.ref p])(h1:fO H p)(h2:∀v rs r f j t H',RD K H' v (iA rs r f j t)->kQ rs r f j t->bG p H H'->Q v H')
def Ia(K:aa):Sp:=λvs H Q _=>a6Q K vs H Q
inductive a76(K:aa)(vs:List V)(H:Hp)(Q:VK):Prop |mk (a:_)(b:_)(h0:vs=[.int a,.int b])(h1:0<b)(h2:Wd b)(h3:∀v H',bM K H' v (Rat.divInt a b)->az H H'->Q v H')
def Ij(K:aa):Sp:=λvs H Q _=>a76 K vs H Q
abbrev BM:Stmt:=top 118
theorem JG:bc ["_law_p","_law_q","_law_one","_law_other"] ["_law_p","_law_q"] (aM BM):=bp aI
theorem WQ(F:FA K mg "_law_frac" BM)(B:bu mg):aD P w K mg ao "_law_frac" 1 (Ij K):=by
 refine F.has JG (λvs H Q E h=>?_) (λ_ _ _ _ _ _=>dj λ_ _=>rfl) (λf aF A outer s H vs Q E hr h=>?_)
 ·obtain⟨a,b,rfl,_⟩:=h
  rfl
 ·obtain⟨a,b,rfl,hb,wb,k⟩:=h
  have nd:=JG.nd;refine⟨_,(aE (xH (i:=2) (j:=3) Z nd Z Z ay Z Z (ak (ck (x:="abs") lN Z (B.at "abs") nc (ak (pv 0) aw)) (ak (pv 1) aw)) rfl) (aE (xG je (bI L7 (pv 3) aB (bC _)) (aH (xH (i:=2) (j:=3) Z nd Z Z ay Z Z (ak (pv 3) (ak (aK me (pv 2) (pv 3)) aw)) Z))) (aH (aQ (eE (ak (aK qV (pv 0) (pv 2)) (ak (aK qV (pv 1) (pv 2)) aw))))))),?_⟩;refine⟨_,Z,_,Z,_,Z,_,_,Z,?_⟩;refine wR (λO H2=>H2=H/\∃(x y:Int),O=[some (.int a),some (.int b),some (.int x),some (.int y)]/\0<=x/\0<=y/\Int.gcd x y=Int.gcd a b) (λO _=>match O with|[_,_,_,some (.int y)]=>y.natAbs|_=>0) ?_ ?_ ?_
  ·refine⟨Z,_,_,Z,by split<;>lia,au,?_⟩
   have h1:(if a<0 then-a else a).natAbs=a.natAbs:=by split<;>lia
   unfold Int.gcd;rw[h1]
  ·rintro O H2 ⟨rfl,x,y,rfl,x0,y0,e⟩
   refine⟨_,Z,_,_,Z,Z,_,Z,?_⟩;refine dZ (λhc=>?_) (λhc=>?_)
   ·have kA:0<y:=jS hc
    have hy:y≠0:=by lia
    refine⟨_,Z,_,Z,_,Z,_,_,Z,Z,kA,_,_,Z,?_⟩;refine⟨⟨Z,_,_,Z,y0,nh _ hy,(_A.MX kA).trans e⟩,?_⟩;show(x%y).natAbs<y.natAbs;have:=nh x hy;have:=qF x kA
    lia
   ·have hy:y=0:=by
     have:¬y>0:=λz=>hc (bR z)
     lia
    subst hy;rw[Int.gcd_zero_right]at e;have ex:x=((Int.gcd a b:Nat):Int):=by lia
    have pT:b≠0:=by lia
    have gp:=_A.yL (p:=a) pT;have es:_A.sg a b=(Int.gcd a b:Int):=by unfold _A.sg;rw[aU au]
    have gw:Wd (Int.gcd a b:Int):=by rw[<-es];exact zZ (_A.Iz pT) wb
    obtain⟨e1,e2⟩:=DA (a:=a) pT;have f1:a/(Int.gcd a b:Int)=(Rat.divInt a b).num:=by rw[<-e1];unfold _A.lowP;rw[es,GB _ au]
    have f2:b/(Int.gcd a b:Int)=((Rat.divInt a b).den:Int):=by rw[<-e2];unfold _A.fj;rw[es,GB _ au]
    subst ex;refine⟨_,Z,_,Z,_,_,Z,Z,⟨gp,gw⟩,_,Z,_,Z,_,_,Z,Z,⟨gp,gw⟩,bW Z,λt H6 n6=>?_⟩;have OY:=n6.at';simp only[f1,f2]at OY;exact k _ _ ⟨t,Z,aP.of OY⟩ n6.same
  ·rintro O H2 Q1 Q2 hq ⟨v1,e1,i,j,e3,e4,kk,e5,q⟩
   exact⟨v1,e1,i,j,e3,e4,kk,e5,hq _ _ q⟩
abbrev Itm:=Option (List Int × Int)
def itR(d:ah)(o:Itm):Prop:=(∃ns sp,d=dh ns sp/\o=some (ns,sp))\/∃w x,d= .tuple [.str w,x]/\(w="wait"\/w="tool"\/w="mark")/\eX x=true/\o=none
theorem itR.no{d:ah}{o:Itm}(h:itR d o):eX d=true:=by
 rcases h with⟨ns,sp,rfl,_⟩|⟨w,x,rfl,_,h,_⟩
 ·exact YJ _ _
 ·simp[eX,cy,h]
theorem rK{H:Hp}{v:V}{d:ah}{o:Itm}(h:RD K H v d)(i:itR d o):∃a w ys,v= .ref a/\aP K H a (.str w::ys)/\(PyData.eqv (.str w) (.str "line")=o.isSome)/\SeqAt.shaped (.str w)=true:=by
 rcases i with⟨ns,sp,rfl,rfl⟩|⟨w,x,rfl,hw,_,rfl⟩
 ·obtain⟨a,b,rfl,h1,_⟩:=lB h
  exact⟨a,_,_,Z,h1,(by show PyData.eqv (.str "line") (.str "line")=true;decide+kernel),aI⟩
 ·obtain⟨a,xs,rfl,h1,h2⟩:=h.cg
  obtain⟨x1,r1,rfl,e1,h2⟩:=h2.cons_inv;cases e1.str_inv;refine⟨a,w,r1,Z,h1,?_,?_⟩
  ·show PyData.eqv (.str w) (.str "line")=false
   rcases hw with rfl|rfl|rfl<;>decide+kernel
  ·rcases hw with rfl|rfl|rfl<;>decide+kernel
theorem nN:SeqAt.shaped (.str "line")=true:=by decide+kernel
theorem jr{d:ah}{ns:List Int}{sp:Int}(h:itR d (some (ns,sp))):d=dh ns sp:=by
 rcases h with⟨Xr,Sx,e1,e2⟩|⟨_,_,_,_,_,e2⟩
 ·cases e2;exact e1
 ·cases e2
structure gs(ax:Nat)(ds:List ah)(os:List Itm):Prop where
 len:ds.length=os.length
 it:∀(i:Nat)(d:ah)(o:Itm),ds[i]? =some d->os[i]? =some o->itR d o
 ok:∀(i:Nat)(ns:List Int)(sp:Int),os[i]? =some (some (ns,sp))->eL ax 100 ns/\1<=sp/\sp<=20
theorem gs.nil{ax:Nat}:gs ax [] []:=⟨Z,λi d o e=>by simp at e,λi ns sp e=>by simp at e⟩
theorem oX{α:Type}{xs:List α}{x y:α}{j:Nat}(e:(xs++[x])[j]? =some y):xs[j]? =some y\/(j=xs.length/\y=x):=by
 by_cases hj:j<xs.length
 ·rw[wC hj]at e;exact .inl e
 ·have pQ:j=xs.length:=by
   have:=(dN.mp e).1;rw[fQ]at this;have:j<xs.length+1:=this
   lia
  rw[pQ,A5 (bj _),Nat.sub_self]at e;exact .inr ⟨pQ,(cW e).symm⟩
theorem gs.snoc{ax:Nat}{ds:List ah}{os:List Itm}{d:ah}{o:Itm}(h:gs ax ds os)(i:itR d o)(g:∀ns sp,o=some (ns,sp)->eL ax 100 ns/\1<=sp/\sp<=20):gs ax (ds++[d]) (os++[o]):=by
 have hl:=h.len;refine⟨by rw[fQ,fQ,h.len];rfl,λj d' o' e1 e2=>?_,λj ns sp e=>?_⟩
 ·rcases oX e1 with e1|⟨j1,rfl⟩
  ·rcases oX e2 with e2|⟨j2,rfl⟩
   ·exact h.it j d' o' e1 e2
   ·have:=(dN.mp e1).1;lia
  ·rcases oX e2 with e2|⟨j2,rfl⟩
   ·have:=(dN.mp e2).1;lia
   ·exact i
 ·rcases oX e with e|⟨_,e⟩
  ·exact h.ok j ns sp e
  ·exact g ns sp e.symm
theorem gs.no{ax:Nat}{ds:List ah}{os:List Itm}(h:gs ax ds os):cy ds=true:=gP.mpr λd hd=>by obtain⟨i,hi⟩:=oE.mp hd;have hl:=(dN.mp hi).1;exact(h.it i d _ hi (cI (by rw[<-h.len];exact hl))).no
theorem gs.get{ax:Nat}{ds:List ah}{os:List Itm}(h:gs ax ds os){i:Nat}{d:ah}(e:ds[i]? =some d):∃o,os[i]? =some o/\itR d o:=by have hl:=(dN.mp e).1;have e2:=cI (show i<os.length by rw[<-h.len];exact hl);exact⟨_,e2,h.it i d _ e e2⟩
inductive a73(K:aa)(vs:List V)(H:Hp)(Q:VK):Prop |mk (v:_)(d:_)(o:_)(h0:vs=[v])(h1:RD K H v d)(h2:itR d o)(h3:Q (.bl o.isSome) H)
def qK(K:aa):Sp:=λvs H Q _=>a73 K vs H Q
abbrev BF:Stmt:=top 32
theorem Jy:bc ["item"] ["item"] (aM BF):=bp aI
theorem WI(F:FA K mg "is_line" BF)(B:bu mg):aD P w K mg ao "is_line" 1 (qK K):=by
 refine F.has Jy (λvs H Q E h=>?_) (λ_ _ _ _ _ _=>cE λ_=>rfl) (λf aF A outer s H vs Q E hr h=>?_)
 ·obtain⟨v,d,o,rfl,_⟩:=h
  rfl
 ·obtain⟨v,d,o,rfl,ri,it,k⟩:=h
  have nd:=Jy.nd;refine⟨_,(aH (aQ (jE (dv K Z hr.units) (px K (pv 0) aB) bq (bC _)))),?_⟩;obtain⟨a,wd,ys,rfl,h1,ew,sw⟩:=rK ri it;refine⟨_,Z,.inr ⟨a,_,0,.str wd,Z,Z,h1,cN (fH 0) Z,.inr ⟨_,_,bO _,bO _,sw,nN,?_⟩⟩⟩;rw[ew];exact k
theorem jX{H:Hp}:∀{xs:List V}{zs:List Str},aJ K H xs (zs.map PyData.str)->xs=zs.map V.str |xs,[],h=>h.nil_inv |xs,n::ns,h=>by obtain⟨y,ys,rfl,h1,h2⟩:=h.cons_inv;rw[h1.str_inv,jX h2];rfl
def gZ:Str:="abcdefghijklmnopqrstuvwxyz"
theorem a5L:gZ.cps.toList.length=26:=by decide+kernel
theorem OW{α:Type}{xs:List α}{x:α}(h:xs.getLast? =some x):eg xs (-1)=some x:=by
 unfold eg gq;have hl:xs≠[]:=by intro e;rw[e]at h;cases h
 have h0:0<xs.length:=wA.mpr hl;rw[aU ay,aR au];rw[List.getLast?_eq_getElem?]at h;show xs[((-1:Int)+(xs.length:Int)).toNat]? =some x;have e:((-1:Int)+(xs.length:Int)).toNat=xs.length-1:=by lia
 rw[e];exact h
def QM(ns:List Int):ah:=.tuple (ns.map λz=>cx (Rat.divInt z (_l.aL ns)))
theorem pe(r:Rat):eX (cx r)=true:=by simp[cx,eX,cy]
theorem Ls{α:Type}{f:α->ah}(h:∀a,eX (f a)=true)(l:List α):cy (l.map f)=true:=gP.mpr λd hd=>by obtain⟨a,_,rfl⟩:=cH.mp hd;exact h a
inductive a6e(K:aa)(vs:List V)(H:Hp)(Q:VK):Prop |mk (v:_)(ns:_)(sp:_)(h0:vs=[v])(h1:RD K H v (dh ns sp))(h2:eL ns.length 1000 ns)(h3:ns.length<=1000)(h4:∀v' H',RD K H' v' (QM ns)->az H H'->Q v' H')
def HF(K:aa):Sp:=λvs H Q _=>a6e K vs H Q
abbrev AF:Stmt:=top 50
theorem IG:bc ["line","lead"] ["line"] (aM AF):=bp aI
theorem VH(F:FA K mg "ways_of" AF)(B:bu mg)(pP:aD P w K mg ao "lead_of" 1 (m7 K))(vb:aD P w K mg ao "fraction" 3 (tO K)):aD P w K mg ao "ways_of" 4 (HF K):=by
 refine F.has IG (λvs H Q E h=>?_) (λ_ _ _ _ _ _=>cE λ_=>rfl) (λf aF A outer s H vs Q E hr h=>?_)
 ·obtain⟨v,ns,sp,rfl,_⟩:=h
  rfl
 ·obtain⟨v,ns,sp,rfl,rd,ok,hz,k⟩:=h
  have nd:=IG.nd;refine⟨_,(aE (pS 1 nd (pf pP hr (ak (pv 0) aw))) (aH (aQ (cT (x:="tuple") (ji K Z) Z (B.at "tuple") gJ (ak (dD (N:=["step","lead"]) (js:=[none,some 1]) rfl rfl rfl (jn K rfl (px K (pv 0) aB)) (λ_ _ _ _ _=>(ba 0 (gm ay))) (λ_ _ _ _ _=>cX) (λ_ _ _ _ _=>(pf vb hr (ak (pv 0) (ak (pv 1) aw))))) aw))))),?_⟩;refine⟨_,Z,v,ns,sp,Z,rd,ok.ne,hz,λH1 s1=>?_⟩;obtain⟨a,b,rfl,ha,hb⟩:=lB (RD.mono s1 _ rd);obtain⟨lp,lm⟩:=ok.lead;refine⟨_,Z,.inr ⟨a,_,1,.ref b,Z,Z,ha,Z,b,Z,⟨_,hb⟩,λD H0 nw=>?_⟩⟩;refine o9 (K:=K) (xs:=ns.map V.int) (ds:=ns.map λz=>cx (Rat.divInt z (_l.aL ns))) _ hb nw (by simp) (by simpa using hz) (Ls (λ_=>pe _) _) ?_ ?_
  ·intro i x d H2 Q' ex ed s2 hq
   obtain⟨n,en,rfl⟩:=kv ed;cases y4 ex en;refine⟨_,Z,_,Z,n,_,Z,bo,nj (n:=20) bo ay,λv3 H3 r3 s3=>?_⟩;exact hq _ _ s3 r3.rd
  ·intro H' ys s2 d2 r2
   refine⟨D,_,Z,.inl ⟨aG.of d2,λt H4 n4=>?_⟩⟩;exact k _ _ (eZ (aP.of n4.at') (aJ.mono n4.same _ r2)) (s1.trans (s2.trans n4.same))
theorem nk:hW "tuple" "tuple"=true:=by decide
theorem QJ(d:ah):(∃i,d= .int i/\uP (jW d)=true)\/(uP (jW d)=false/\∀i,d≠ .int i):=by cases d with |int i=>exact .inl ⟨i,Z,by simp[jW];decide⟩ |_=>exact .inr ⟨by simp[jW];decide,λ_ z=>nomatch z⟩
theorem tK(d:ah):(∃ds,d= .tuple ds)\/(hW (jW d) "tuple"=false/\∀ds,d≠ .tuple ds):=by cases d with |tuple ds=>exact .inl ⟨ds,Z⟩ |_=>exact .inr ⟨by simp[jW];decide,λ_ z=>nomatch z⟩
def cw(lo hi:Int):ah->Bool | .int i=>decide (lo<=i)&&decide (i<=hi) |_=>false
theorem Ze{lo hi:Int}{d:ah}(h:∀i,d≠ .int i):cw lo hi d=false:=by cases d<;>first|rfl|exact absurd rfl (h _)
inductive a6f(K:aa)(vs:List V)(H:Hp)(Q:VK):Prop |mk (v:_)(d:_)(lo:_)(hi:_)(h0:vs=[v,.int lo,.int hi])(h1:RD K H v d)(h2:Q (.bl (cw lo hi d)) H)
def kT(K:aa):Sp:=λvs H Q _=>a6f K vs H Q
abbrev AG:Stmt:=top 15
theorem IH:bc ["thing","low","high"] ["thing","low","high"] (aM AG):=bp aI
theorem VG(F:FA K mg "is_whole_within" AG)(B:bu mg)(yB:aD P w K mg ao "is_whole" 1 (xp K)):aD P w K mg ao "is_whole_within" 2 (kT K):=by
 refine F.has IH (λvs H Q E h=>?_) (λ_ _ _ _ _ _=>lO λ_ _ _=>rfl) (λf aF A outer s H vs Q E hr h=>?_)
 ·obtain⟨v,d,lo,hi,rfl,_⟩:=h
  rfl
 ·obtain⟨v,d,lo,hi,rfl,rd,k⟩:=h
  have nd:=IH.nd;refine⟨_,(aH (aQ (qS (pf yB hr (ak (pv 0) aw)) (qQ (KJ qU qU (pv 1) (pv 0) (pv 2)))))),?_⟩;refine⟨_,Z,_,_,Z,rd.ty,_,Z,?_⟩;rcases QJ d with⟨i,rfl,e⟩|⟨e,hn⟩
  ·cases rd.int_inv
   rw[e];refine bE ?_;have k:Q (.bl (decide (lo<=i)&&decide (i<=hi))) H:=k;refine⟨_,Z,_,Z,_,_,Z,Z,_,Z,?_⟩;refine dZ (λhc=>?_) (λhc=>?_)
   ·have gE:decide (lo<=i)=true:=hc
    rw[gE,gc]at k;exact⟨_,Z,_,_,Z,Z,k⟩
   ·have gE:decide (lo<=i)=false:=wH.mpr hc
    rw[gE,gf]at k;exact k
  ·rw[e]
   refine aZ ?_;rw[Ze hn]at k;exact k
open _C
theorem GI{ns ms:List Int}{i:Nat}{a b:Int}(h1:ns[i]? =some a)(h2:ms[i]? =some b):(cA ns ms)[i]? =some (a*(aL ms:Int)-b*(aL ns:Int)):=by unfold cA;rw[bK,(oF (z:=(a,b))).mpr ⟨h1,h2⟩];rfl
def vC(j:Int)(ns ms:List Int):ah:=if aL (cA ns ms)=0 then .none else cx (Rat.divInt ((j*aL ns*aL ms)^2) ((aL (cA ns ms):Int)^2))
inductive a7d(K:aa)(vs:List V)(H:Hp)(Q:VK):Prop |mk (v:_)(v1:_)(v2:_)(rs:_)(r:_)(f:_)(j:_)(t:_)(ns:_)(ms:_)(eT:_)(iR:_)(h0:vs=[v,v1,v2])(h1:RD K H v (iA rs r f j t))(h2:RD K H v1 (dh ns eT))(h3:RD K H v2 (dh ms iR))(h4:eL ns.length 1000 ns)(h5:eL ns.length 1000 ms)(h6:ns.length<=1000)(h7:1<=j)(h8:j<=50)(h9:∀v' H',RD K H' v' (vC j ns ms)->az H H'->Q v' H')
def Az(K:aa):Sp:=λvs H Q _=>a7d K vs H Q
theorem zip2{ns ms:List Int}(h:ms.length=ns.length){i:Nat}{x y:V}(ex:(ns.map V.int)[i]? =some x)(ey:(ms.map V.int)[i]? =some y):∃a b,ns[i]? =some a/\ms[i]? =some b/\x= .int a/\y= .int b:=by rw[bK]at ex ey;cases e1:ns[i]? with |none=>rw[e1]at ex;cases ex |some a=>cases e2:ms[i]? with |none=>rw[e2]at ey;cases ey |some b=>rw[e1]at ex;rw[e2]at ey;exact⟨a,b,Z,Z,(cW ex).symm,(cW ey).symm⟩
inductive a6h(K:aa)(vs:List V)(H:Hp)(Q:VK):Prop |mk (v1:_)(v2:_)(ns:_)(ms:_)(eT:_)(iR:_)(h0:vs=[v1,v2])(h1:RD K H v1 (dh ns eT))(h2:RD K H v2 (dh ms iR))(h3:eL ns.length 1000 ns)(h4:eL ns.length 1000 ms)(h5:ns.length<=1000)(h6:∀v' H',bM K H' v' (Rat.divInt (aL (cA ns ms)) ((aL ns:Int)*aL ms))->az H H'->Q v' H')
def HH(K:aa):Sp:=λvs H Q _=>a6h K vs H Q
abbrev AH:Stmt:=top 60
theorem II:bc ["one","other","greatest","way","new_way","p","q","difference"] ["one","other"] (aM AH):=bp aI
theorem VI(F:FA K mg "greatest_turn" AH)(B:bu mg)(Mo:aD P w K mg ao "ways_of" 4 (HF K))(a01:aD P w K mg ao "minus" 3 (HV (·-·) K))(Ei:aD P w K mg ao "is_less" 1 (xn K)):aD P w K mg ao "greatest_turn" 5 (HH K):=by
 refine F.has II (λvs H Q E h=>?_) (λ_ _ _ _ _ _=>dj λ_ _=>rfl) (λf aF A outer s H vs Q E hr h=>?_)
 ·obtain⟨v1,v2,ns,ms,eT,iR,rfl,_⟩:=h
  rfl
 ·obtain⟨v1,v2,ns,ms,eT,iR,rfl,Ct,Cr,eU,dY,hz,k⟩:=h
  have nd:=II.nd;obtain⟨Yz,YG⟩:=eU.lead;obtain⟨Yy,YF⟩:=dY.lead;have Zs:ms.length<=1000:=by rw[dY.len];exact hz
  have Xa:eL ms.length 1000 ms:=⟨Z,dY.bd,dY.nz⟩;have cb:=zi (λz hz=>by have:=eU.bd z hz;lia) (λz hz=>by have:=dY.bd z hz;lia) (ns:=ns) (ms:=ms);have L0:(0:Int)<(aL ns:Int)*aL ms:=qE au au;have Lb:((aL ns:Int)*aL ms).natAbs<=1000*1000:=iX au au;have a9m:(cA ns ms).length=ns.length:=by simp[cA,dY.len]
  have MI:∀c:Int,c.natAbs<=2000000->Bd 2000 (Rat.divInt c ((aL ns:Int)*aL ms)):=λc hc=>(pF (n:=30) au au au).mono ay;refine⟨_,(aE (pS 2 nd (eE (ak aB (ak aB aw)))) (aE (kg je Z (kZ K Z false false Z (B.at "zip") (ak (pf Mo hr (ak (pv 0) aw)) (ak (pf Mo hr (ak (pv 1) aw)) aw))) (dW K rfl (n:=2) rfl (bP (ba 3 nd) (bP (ba 4 nd) dU))) (aE (eD (pf a01 hr (ak (pv 4) (ak (pv 3) aw))) (dW K Z (n:=2) Z (bP (ba 5 nd) (bP (ba 6 nd) dU)))) (aE (pS 7 nd (eE (ak (ck (x:="abs") lN Z (B.at "abs") nc (ak (pv 5) aw)) (ak (pv 6) aw)))) (aH (bB (cC (pf Ei hr (ak (pv 2) (ak (pv 7) aw)))) (aH (pS 2 nd (pv 7))) bD))))) (aH (aQ (pv 2))))),?_⟩;refine⟨bW Z,λg0 H1 n1=>?_⟩;refine⟨_,Z,v1,ns,eT,Z,RD.mono n1.same _ Ct,eU,hz,λw1 H2 r2 s2=>?_⟩;have t2:=n1.same.trans s2;refine⟨_,Z,v2,ms,iR,Z,RD.mono t2 _ Cr,Xa,Zs,λw2 H3 r3 s3=>?_⟩;have t3:=t2.trans s3;obtain⟨c1,xs1,rfl,h1,q1⟩:=(RD.mono s3 _ r2).cg;obtain⟨c2,xs2,rfl,h2,q2⟩:=r3.cg;have l1:=q1.length;have l2:=q2.length;rw[bA]at l1 l2;refine⟨c1,c2,Z,⟨_,h1⟩,⟨_,h2⟩,?_⟩;refine a2G (K:=K) (b1:=false) (b2:=false) (xs:=xs1) (ys:=xs2) ns.length (by rw[l1,l2,dY.len];lia) (λi O H4=>az H3 H4/\∃g u1 u2 u3 u4 u5,bM K H4 g (Rat.divInt (nR (cA ns ms) i) ((aL ns:Int)*aL ms))/\O=[some v1,some v2,some g,u1,u2,u3,u4,u5]) ?_ (λi O H4 _ h=>⟨h1.go h.1,h2.go h.1⟩) ?_ ?_
  ·refine⟨az.refl _,.ref g0,none,none,none,none,none,⟨g0,Z,?_⟩,Z⟩
   have e0:Rat.divInt ((nR (cA ns ms) 0:Nat):Int) ((aL ns:Int)*aL ms)=0:=by show Rat.divInt 0 _=0;exact Rat.zero_divInt _
   rw[e0];exact aP.of (s3 _ _ (s2 _ _ n1.at'))
  ·rintro i x y O H4 ex ey ⟨s4,g,u1,u2,u3,u4,u5,rg,rfl⟩ T H5 n5
   obtain⟨d1,e1,rx⟩:=q1.get' i ex;obtain⟨d2,e2,ry⟩:=q2.get' i ey;obtain⟨a,ea,rfl⟩:=kv e1;obtain⟨b,eb,rfl⟩:=kv e2;have qa:=eU.bd a (fg ea);have qb:=dY.bd b (fg eb);have cz:=GI ea eb;have czb:=cb _ (fg cz);have t5:=s4.trans n5.same;refine⟨T,_,Z,aP.of n5.at',Z,_,_,Z,_,_,Z,Z,?_⟩;have jm:∀{H':Hp}{v:V}{r:Rat},RD K H' v (cx r)->bM K H' v r:=λ{H' v r} h=>by obtain⟨p,xs,rfl,h1,h2⟩:=h.cg;have:=h2.eO (ns:=[r.num,r.den]);subst this;exact⟨p,Z,h1⟩
   refine⟨_,Z,_,Z,y,x,_,_,Z,jm (RD.mono t5 _ ry),jm (RD.mono t5 _ rx),(pF (n:=30) au au au).mono ay,(pF (n:=30) au au au).mono ay,λv6 H6 r6 s6=>?_⟩;have ed:Rat.divInt b (aL ms)-Rat.divInt a (aL ns)=Rat.divInt (b*aL ns-a*aL ms) ((aL ns:Int)*aL ms):=Sb au au;have r6:bM K H6 v6 (Rat.divInt b (aL ms)-Rat.divInt a (aL ns)):=r6;rw[ed]at r6;obtain⟨p6,rfl,h6⟩:=r6;refine⟨p6,_,Z,h6,Z,_,_,Z,_,_,Z,Z,?_⟩;refine⟨_,Z,_,Z,_,Z,bW Z,λdd H7 n7=>?_⟩;have C8:=s6.trans n7.same;have rD:bM K H7 (.ref dd) (Rat.divInt (((a*(aL ms:Int)-b*(aL ns:Int)).natAbs:Nat):Int) ((aL ns:Int)*aL ms)):=by
    have e:Rat.divInt (((a*(aL ms:Int)-b*(aL ns:Int)).natAbs:Nat):Int) ((aL ns:Int)*aL ms)=qk (Rat.divInt (b*aL ns-a*aL ms) ((aL ns:Int)*aL ms)):=by rw[a5H L0,FP];congr 1;lia
    rw[e];refine⟨dd,Z,?_⟩;rw[a5G,a5I];exact aP.of n7.at'
   have rG:bM K H7 g _:=(rg.go n5.same).go C8;have hG:nR (cA ns ms) i<=2000000:=lC λz hz=>cb z (A2 hz);refine⟨_,Z,_,Z,g,.ref dd,_,_,Z,rG,rD,MI _ au,MI _ au,_,Z,?_⟩;have hs:=a0s cz;refine dZ (λhc=>?_) (λhc=>?_)
   ·have bT:=(O7 L0).mp (jS hc)
    refine⟨_,Z,?_⟩;refine⟨t5.trans C8,_,_,_,_,_,_,?_,Z⟩;rw[hs,Nat.max_eq_right au];exact rD
   ·have hge:¬_:=λz=>hc (bR ((O7 L0).mpr z))
    refine⟨t5.trans C8,_,_,_,_,_,_,?_,Z⟩;rw[hs,Nat.max_eq_left au];exact rG
  ·rintro O H4 ⟨s4,g,u1,u2,u3,u4,u5,rg,rfl⟩
   refine⟨_,Z,k _ _ ?_ (t3.trans s4)⟩;have:nR (cA ns ms) ns.length=aL (cA ns ms):=by unfold nR;rw[A1 au]
   rw[this]at rg;exact rg
abbrev BS:Stmt:=top 57
theorem JM:bc ["machine","one","other","jump","p","q"] ["machine","one","other"] (aM BS):=bp aI
theorem WW(F:FA K mg "corner_square" BS)(B:bu mg)(a0w:aD P w K mg ao "greatest_turn" 5 (HH K))(vb:aD P w K mg ao "fraction" 3 (tO K)):aD P w K mg ao "corner_square" 6 (Az K):=by
 refine F.has JM (λvs H Q E h=>?_) (λ_ _ _ _ _ _=>lO λ_ _ _=>rfl) (λf aF A outer s H vs Q E hr h=>?_)
 ·obtain⟨v,v1,v2,rs,r,f',j,t,ns,ms,eT,iR,rfl,_⟩:=h
  rfl
 ·obtain⟨v,v1,v2,rs,r,f',j,t,ns,ms,eT,iR,rfl,rd,Ct,Cr,eU,dY,hz,j1,j2,k⟩:=h
  have nd:=JM.nd;obtain⟨Yz,YG⟩:=eU.lead;obtain⟨Yy,YF⟩:=dY.lead;have L0:(0:Int)<(aL ns:Int)*aL ms:=qE au au;have Lb:((aL ns:Int)*aL ms).natAbs<=1000*1000:=iX au au;have cb:=zi (λz hz=>by have:=eU.bd z hz;lia) (λz hz=>by have:=dY.bd z hz;lia) (ns:=ns) (ms:=ms);have hH:=lC cb;refine⟨_,(aE (pS 3 nd (px K (pv 0) aB)) (aE (eD (pf a0w hr (ak (pv 1) (ak (pv 2) aw))) (dW K Z (n:=2) Z (bP (ba 4 nd) (bP (ba 5 nd) dU)))) (aE (bB (bI (dv K Z hr.units) (pv 4) aB (bC _)) (aH (aQ gj)) bD) (aH (aQ (pf vb hr (ak (aK bV (aK bV (aK bV (pv 3) (pv 3)) (pv 5)) (pv 5)) (ak (aK bV (pv 4) (pv 4)) aw)))))))),?_⟩;obtain⟨am,bm,rfl,gr,iZ⟩:=my rd;refine⟨_,Z,.inr ⟨am,_,3,.int j,Z,Z,gr,Z,?_⟩⟩;refine⟨_,Z,_,Z,v1,v2,ns,ms,eT,iR,Z,Ct,Cr,eU,dY,hz,λv3 H3 r3 s3=>?_⟩;obtain⟨FH⟩:Nonempty (Bd 30 (Rat.divInt (aL (cA ns ms)) ((aL ns:Int)*aL ms))):=⟨pF (n:=30) au au au⟩;have en:=wj (Rat.divInt (aL (cA ns ms)) ((aL ns:Int)*aL ms));obtain⟨R,hR⟩:∃R,Rat.divInt (aL (cA ns ms)) ((aL ns:Int)*aL ms)=R:=⟨_,Z⟩;rw[hR]at r3 FH en;have dp:=den_pos R;have vz:R.num*((aL ns:Int)*aL ms)=aL (cA ns ms)*R.den:=by rw[<-hR]at en;have:=(PM (by rw[hR];lia) au).mp en;rw[hR]at this;exact this
  have nb:=FH.num;have db:=FH.den;obtain⟨p3,rfl,h3⟩:=r3;refine⟨p3,_,Z,h3,Z,_,_,Z,_,_,Z,Z,?_⟩;refine⟨_,Z,.inl ⟨_,_,Z,Z,_,Z,?_⟩⟩;refine dZ (λhc=>?_) (λhc=>?_)
  ·have h0:R.num=0:=by simpa using hc
   have hl:aL (cA ns ms)=0:=by
    rw[h0,Int.zero_mul]at vz;rcases Int.mul_eq_zero.mp vz.symm with h|h
    ·lia
    ·lia
   refine k .aY H3 ?_ s3;unfold vC;rw[aR hl];exact qM
  ·have h0:R.num≠0:=by simpa using hc
   have hl:aL (cA ns ms)≠0:=by
    intro z;rw[z]at vz;have:R.num*((aL ns:Int)*aL ms)=0:=by rw[vz];exact Int.zero_mul _
    rcases Int.mul_eq_zero.mp this with h|h
    ·exact h0 h
    ·lia
   have m1:(j*j).natAbs<=50*50:=iX au au;have jv:(2:Nat)^64=18446744073709551616:=by decide
   refine⟨_,Z,_,Z,_,_,Z,Z,.of_left (cJ au au),_,Z,_,_,Z,Z,.of_left (cJ au au),_,Z,_,_,Z,Z,.of_right (cJ au au),?_⟩;refine⟨_,Z,_,Z,_,_,Z,Z,.of_left (cJ au au),?_⟩;refine⟨_,_,Z,Gz h0 h0,?_,λv4 H4 r4 s4=>?_⟩
   ·refine nj (n:=60) ?_ ay
    rw[oJ];exact uH (n:=30) (m:=30) nb nb
   ·refine k _ _ ?_ (s3.trans s4)
    unfold vC;rw[aU hl];have e:=a4F (j:=j) (p:=R.num) (q:=R.den) (h:=aL (cA ns ms)) (L:=(aL ns:Int)*aL ms) h0 au vz;rw[e,<-wF]at r4;exact r4.rd
def Ki (d:ah):Bool:=cw 10 200 d
inductive a6u(K:aa)(vs:List V)(H:Hp)(Q:VK):Prop |mk (v:_)(d:_)(h0:vs=[v])(h1:RD K H v d)(h2:Q (.bl (Ki d)) H)
def An(K:aa):Sp:=λvs H Q _=>a6u K vs H Q
abbrev BE:Stmt:=top 59
theorem Jx:bc ["thing"] ["thing"] (aM BE):=bp aI
theorem WH(F:FA K mg "is_rate" BE)(B:bu mg)(a1m:GV mg "LEAST_RATE" (.int 10))(a1n:GV mg "GREATEST_RATE" (.int 200))(gU:aD P w K mg ao "is_whole_within" 2 (kT K)):aD P w K mg ao "is_rate" 3 (An K):=by
 refine F.has Jx (λvs H Q E h=>?_) (λ_ _ _ _ _ _=>cE λ_=>rfl) (λf aF A outer s H vs Q E hr h=>?_)
 ·obtain⟨v,d,rfl,_⟩:=h
  rfl
 ·obtain⟨v,d,rfl,rd,k⟩:=h
  have nd:=Jx.nd;refine⟨_,(aH (aQ (pf gU hr (ak (pv 0) (ak (cD (x:="LEAST_RATE") Z a1m) (ak (cD (x:="GREATEST_RATE") Z a1n) aw)))))),?_⟩;exact⟨_,Z,v,d,10,200,Z,rd,k⟩
inductive a6i(K:aa)(vs:List V)(H:Hp)(Q:VK):Prop |mk (v:_)(ns:_)(sp:_)(r:_)(h0:vs=[v,.int r])(h1:RD K H v (dh ns sp))(h2:1<=sp)(h3:sp<=20)(h4:10<=r)(h5:r<=200)(h6:∀v' H',bM K H' v' (Rat.divInt ((sp*r)^2) 10000)->az H H'->Q v' H')
def Al(K:aa):Sp:=λvs H Q _=>a6i K vs H Q
theorem Sv(a b:Int):a*a*b*b=(a*b)^2:=by rw[fG,fG,lW,lX];ac_rfl
theorem Ub{r:Int}(h1:10<=r)(h2:r<=200):Ki (.int r)=true:=by show(decide (10<=r)&&decide (r<=200))=true;rw[bR h1,bR h2];rfl
abbrev AI:Stmt:=top 58
theorem IJ:bc ["line","rate","speed"] ["line","rate"] (aM AI):=bp aI
theorem VJ(F:FA K mg "top_square" AI)(B:bu mg)(a0k:aD P w K mg ao "is_rate" 3 (An K))(vb:aD P w K mg ao "fraction" 3 (tO K)):aD P w K mg ao "top_square" 4 (Al K):=by
 refine F.has IJ (λvs H Q E h=>?_) (λ_ _ _ _ _ _=>dj λ_ _=>rfl) (λf aF A outer s H vs Q E hr h=>?_)
 ·obtain⟨v,ns,sp,r,rfl,_⟩:=h
  rfl
 ·obtain⟨v,ns,sp,r,rfl,rd,s1,s2,r1,r2,k⟩:=h
  have nd:=IJ.nd;refine⟨_,(aE (bB (df (cC (pf a0k hr (ak (pv 1) aw)))) (aH ph) bD) (aE (pS 2 nd (px K (pv 0) aB)) (aH (aQ (pf vb hr (ak (aK bV (aK bV (aK bV (pv 2) (pv 2)) (pv 1)) (pv 1)) (ak (aK bV aB aB) aw))))))),?_⟩;refine⟨_,Z,_,.int r,Z,eu r,_,Z,?_⟩;rw[Ub r1 r2];refine aZ ?_;obtain⟨a,b,rfl,ha,hb⟩:=lB rd;refine⟨_,Z,.inr ⟨a,_,2,.int sp,Z,Z,ha,Z,?_⟩⟩;have m1:(sp*sp).natAbs<=20*20:=by rw[oJ];exact zY au au
  refine⟨_,Z,_,Z,_,_,Z,Z,.of_left (cJ au au),_,Z,_,_,Z,Z,.of_left (cJ au au),_,Z,_,_,Z,Z,.of_right (cJ au au),?_⟩;refine⟨_,_,Z,Z,.of_left (cJ ay ay),?_⟩;refine⟨_,_,Z,ay,nj (n:=20) ay ay,λv' H' r' s'=>k v' H' ?_ s'⟩;rw[Sv]at r';exact r'
open _P
open _O (topR cornO mnO betR atO ownF leadF ownL OkI OkIs)
theorem Sz(n:Nat)(h:n<=1000):n<sizeLine:=zZ h ay
theorem jm{H:Hp}{v:V}{r:Rat}(h:RD K H v (cx r)):bM K H v r:=by obtain⟨p,xs,rfl,h1,h2⟩:=h.cg;have:=h2.eO (ns:=[r.num,r.den]);subst this;exact⟨p,Z,h1⟩
theorem eL.up{ax:Nat}{ns:List Int}(h:eL ax 100 ns):eL ns.length 1000 ns:=⟨Z,λz hz=>by have:=h.bd z hz;lia,h.nz⟩
theorem gs.lq{ax:Nat}{ds:List ah}{os:List Itm}(h:gs ax ds os):OkIs os:=λi ns sp e=>by unfold atO at e;cases ho:os[i]? with |none=>rw[ho]at e;cases e |some o=>rw[ho]at e;have e':o=some (ns,sp):=e;subst e';obtain⟨a,b,c⟩:=h.ok i ns sp ho;exact⟨a.bd,b,c⟩
theorem uA{H:Hp}{a:Addr}(h:aP K H a [.int 0,.int 1]):bM K H (.ref a) 0:=⟨a,Z,h⟩
theorem a4H(j:Int)(ns ms:List Int):vC j ns ms=match cornO j ns ms with|none=>.none|some c=>cx c:=by unfold vC cornO;split<;>rfl
inductive a7f(K:aa)(vs:List V)(H:Hp)(Q:VK):Prop |mk (m:_)(v1:_)(v2:_)(rate:_)(rs:_)(r:_)(f:_)(j:_)(t:_)(d1:_)(d2:_)(o1:_)(o2:_)(ax:_)(h0:vs=[m,v1,v2,.int rate])(h1:RD K H m (iA rs r f j t))(h2:1<=j)(h3:j<=50)(h4:RD K H v1 d1)(h5:RD K H v2 d2)(h6:itR d1 o1)(h7:itR d2 o2)(h8:(∀ns sp,o1=some (ns,sp)->eL ax 100 ns/\1<=sp/\sp<=20))(h9:(∀ns sp,o2=some (ns,sp)->eL ax 100 ns/\1<=sp/\sp<=20))(h10:ax<=100)(h11:10<=rate)(EN:rate<=200)(h13:∀v H',bM K H' v (betR j rate o1 o2)->az H H'->Q v H')
def AA(K:aa):Sp:=λvs H Q _=>a7f K vs H Q
abbrev BV:Stmt:=top 63
theorem JP:bc ["machine","one","other","rate","squares","corner"] ["machine","one","other","rate"] (aM BV):=bp aI
theorem WZ(F:FA K mg "bound_between" BV)(B:bu mg)(gN:GT K mg "NOUGHT" [.int 0,.int 1])(lG:aD P w K mg ao "is_line" 1 (qK K))(Mp:aD P w K mg ao "top_square" 4 (Al K))(a0H:aD P w K mg ao "corner_square" 6 (Az K))(uY:aD P w K mg ao "least" 2 (tP K)):aD P w K mg ao "bound_between" 7 (AA K):=by
 obtain⟨aN,mH,nu⟩:=gN;refine F.has JP (λvs H Q E h=>?_) (λ_ _ _ _ _ _=>P4 λ_ _ _ _=>rfl) (λf aF A outer s H vs Q E hr h=>?_)
 ·obtain⟨m,v1,v2,rate,rs,r,f,j,t,d1,d2,o1,o2,ax,rfl,_⟩:=h
  rfl
 ·obtain⟨m,v1,v2,rate,rs,r,f,j,t,d1,d2,o1,o2,ax,rfl,rm,j1,j2,r1,r2,i1,i2,k1,k2,hax,fT,fS,k⟩:=h
  have nd:=JP.nd;refine⟨_,(aE (bB (PW.pt (iq (df (cC (pf lG hr (ak (pv 1) aw)))) (ip (df (cC (pf lG hr (ak (pv 2) aw))))))) (aH (aQ (cD (x:="NOUGHT") Z mH))) bD) (aE (pS 4 nd (ft (ak (pf Mp hr (ak (pv 1) (ak (pv 3) aw))) (ak (pf Mp hr (ak (pv 2) (ak (pv 3) aw))) aw)))) (aE (pS 5 nd (pf a0H hr (ak (pv 0) (ak (pv 1) (ak (pv 2) aw))))) (aE (ke (bB (bI L5 (pv 5) gj (bC _)) (aH (ug (uq K Z (pv 4) (ak (pv 5) aw)))) bD)) (aH (aQ (pf uY hr (ak (pv 4) aw)))))))),?_⟩;refine⟨_,Z,v1,d1,o1,Z,r1,i1,_,Z,?_⟩;cases o1 with |none=>refine bE (bE ?_);have:=k _ H (uA (nu H)) (az.refl _);exact this |some q1=>obtain⟨ns,sp⟩:=q1;refine aZ ?_;refine⟨_,Z,v2,d2,o2,Z,r2,i2,_,Z,?_⟩;cases o2 with |none=>refine bE ?_;exact k _ H (uA (nu H)) (az.refl _) |some q2=>obtain⟨ms,sq⟩:=q2;refine aZ ?_;have e1:=jr i1;have e2:=jr i2;subst e1 e2;obtain⟨eU,a1,a2⟩:=k1 ns sp rfl;obtain⟨dY,b1,b2⟩:=k2 ms sq rfl;refine⟨_,Z,_,Z,v1,ns,sp,rate,Z,r1,a1,a2,fT,fS,λt1 H1 TK s1=>?_⟩;refine⟨_,Z,_,Z,v2,ms,sq,rate,Z,RD.mono s1 _ r2,b1,b2,fT,fS,λt2 H2 TH s2=>?_⟩;refine⟨bW Z,λl H3 n3=>?_⟩;have t3:=s1.trans (s2.trans n3.same);have jF:eL ns.length 1000 ms:=⟨by rw[eU.len,dY.len],dY.up.bd,dY.nz⟩;refine⟨_,Z,_,Z,_,Z,m,v1,v2,rs,r,f,j,t,ns,ms,sp,sq,Z,RD.mono t3 _ rm,RD.mono t3 _ r1,RD.mono t3 _ r2,eU.up,jF,by rw[eU.len];lia,j1,j2,λc H4 rc s4=>?_⟩;have T1:Bd 2000 (topR rate sp):=(_O.wX a1 a2 fT fS).mono ay;have T2:Bd 2000 (topR rate sq):=(_O.wX b1 b2 fT fS).mono ay;have R1:bM K H4 t1 (topR rate sp):=((TK.go s2).go n3.same).go s4;have R2:bM K H4 t2 (topR rate sq):=(TH.go n3.same).go s4;have t4:=t3.trans s4;rw[a4H]at rc;cases hc:cornO j ns ms with
   |none=>
    rw[hc]at rc;cases rc.Dh;refine⟨λO H5=>H5=H4/\O=[some m,some v1,some v2,some (.int rate),some (.ref l),some .aY],?_,?_⟩
    ·refine⟨_,Z,Z,_,Z,aZ ?_⟩
     exact⟨Z,Z⟩
    rintro O H5 ⟨rfl,rfl⟩;refine⟨_,Z,l,[t1,t2],[topR rate sp,topR rate sq],Z,aG.of (s4 _ _ n3.at'),⟨R1,T1,R2,T2,trivial⟩,by simp,λi v q e1 e2 hq=>?_⟩;have kB:betR j rate (some (ns,sp)) (some (ms,sq))=q:=by
     show mnO (mn _ _) (cornO j ns ms)=q;rw[hc];refine pI ?_ (hq _ (by simp)) (hq _ (by simp))
     match i,e2 with |0,e2=>cases e2;exact .inl rfl |1,e2=>cases e2;exact .inr rfl
    refine k v _ ?_ t4;rw[kB]
    match i,e1,e2 with |0,e1,e2=>cases e1;cases e2;exact R1 |1,e1,e2=>cases e1;cases e2;exact R2
   |some cq=>
    rw[hc]at rc;have Rc:bM K H4 c cq:=jm rc;have Tc:Bd 2000 cq:=(_O.Ft j1 j2 eU.bd dY.bd hc).mono ay;have Fp:=s4 _ _ n3.at';have tU:gG H4 (_L.upd H4 l (.lst ([t1,t2]++[c]))):=.tG Fp;refine⟨λO H5=>H5=_L.upd H4 l (.lst ([t1,t2]++[c]))/\O=[some m,some v1,some v2,some (.int rate),some (.ref l),some c],?_,?_⟩
    ·obtain⟨pc,rfl,_⟩:=id Rc
     refine⟨_,Z,Z,_,Z,bE ?_⟩;refine⟨_,Z,.inl ⟨Z,_,aG.of Fp⟩,_,Z,l,[t1,t2],_,Z,Z,Fp,Sz _ (Qe Z),?_⟩;exact⟨Z,Z⟩
    rintro O H5 ⟨rfl,rfl⟩;have up:∀{v:V}{q:Rat},bM K H4 v q->bM K (_L.upd H4 l (.lst ([t1,t2]++[c]))) v q:=λ{v q} h=>jm (RD.t tU _ (pe q) h.rd);refine⟨_,Z,l,[t1,t2,c],[topR rate sp,topR rate sq,cq],Z,aG.of bU,⟨up R1,T1,up R2,T2,up Rc,Tc,trivial⟩,by simp,λi v q e1 e2 hq=>?_⟩;have kB:betR j rate (some (ns,sp)) (some (ms,sq))=q:=by
     show mnO (mn _ _) (cornO j ns ms)=q;rw[hc];show mn (mn _ _) cq=q;have h1:=hq _ (show topR rate sp∈[topR rate sp,topR rate sq,cq] by simp);have h2:=hq _ (show topR rate sq∈[topR rate sp,topR rate sq,cq] by simp);have h3:=hq _ (show cq∈[topR rate sp,topR rate sq,cq] by simp);refine pI ?_ (ky h1 h2) h3
     match i,e2 with |0,e2=>cases e2;exact .inl (pI (.inl rfl) h1 h2).symm |1,e2=>cases e2;exact .inl (pI (.inr rfl) h1 h2).symm |2,e2=>cases e2;exact .inr rfl
    have sU:az H (_L.upd H4 l (.lst ([t1,t2]++[c]))):=λb o e=>by have h0:H2 l=none:=n3.no;have e2:=s2 b o (s1 b o e);rw[bh (fv e2 h0)];exact t4 b o e
    refine k v _ ?_ sU;rw[kB]
    match i,e1,e2 with |0,e1,e2=>cases e1;cases e2;exact up R1 |1,e1,e2=>cases e1;cases e2;exact up R2 |2,e1,e2=>cases e1;cases e2;exact up Rc
theorem rn(qs:List Rat):cy (qs.map cx)=true:=Ls pe qs
theorem aJ.xt{H:Hp}{l:Addr}{ys:List V}{y:V}{ds:List ah}{d:ah}{i:Nat}(dl:H l=some (.lst ys))(r:aJ K H ys ds)(rd:RD K H y d)(n1:cy ds=true)(n2:eX d=true):aJ K (_L.upd H l (.lst (ys.set i y))) (ys.set i y) (ds.set i d):=by have t:gG H (_L.upd H l (.lst (ys.set i y))):=.tG dl;have r':=aJ.t t _ n1 r;have Kh:=RD.t t _ n2 rd;clear r rd dl t;generalize _L.upd H l (.lst (ys.set i y))=H' at r' Kh;induction ds generalizing ys i with |nil=>cases r'.nil_inv;exact de |cons d0 ds ih=>
 obtain⟨y0,yr,rfl,h1,h2⟩:=r'.cons_inv;have XR:cy ds=true:=by rw[cy,du]at n1;exact n1.2
 cases i with |zero=>exact cj Kh h2 |succ i=>exact cj h1 (ih XR h2)
theorem Oi(xs:List V):j7 xs (some 1) none=xs.drop 1:=by unfold j7;have e:_H.bQ xs.length 0 (some 1)=min 1 xs.length:=_H.BB _ _ 1;rw[e,_H.BA];cases xs with |nil=>rfl |cons x xs=>
 have e2:min 1 (x::xs).length=1:=by simp
 rw[e2,A1 (by simp)]
inductive a6E(K:aa)(vs:List V)(H:Hp)(Q:VK):Prop |mk (m:_)(iv:_)(rate:_)(rs:_)(r:_)(f:_)(j:_)(t:_)(ds:_)(os:_)(h0:vs=[m,iv,.int rate])(h1:RD K H m (iA rs r f j t))(h2:kQ rs r f j t)(h3:RD K H iv (.tuple ds))(h4:gs rs.length ds os)(h5:ds.length<=100)(h6:10<=rate)(h7:rate<=200)(h8:∀l ys H',H l=none->H' l=some (.lst ys)->aJ K H' ys ((ownL j rate os).map cx)->az H H'->Q (.ref l) H')
def As(K:aa):Sp:=λvs H Q _=>a6E K vs H Q
abbrev Bg:Stmt:=top 62
theorem Jb:bc ["machine","items","rate","between"] ["machine","items","rate"] (aM Bg):=bp aI
theorem Wg(F:FA K mg "own_bounds" Bg)(B:bu mg)(gN:GT K mg "NOUGHT" [.int 0,.int 1])(a0N:aD P w K mg ao "bound_between" 7 (AA K)):aD P w K mg ao "own_bounds" 8 (As K):=by
 obtain⟨aN,mH,nu⟩:=gN;refine F.has Jb (λvs H Q E h=>?_) (λ_ _ _ _ _ _=>lO λ_ _ _=>rfl) (λf aF A outer s H vs Q E hr h=>?_)
 ·obtain⟨m,iv,rate,rs,r,f,j,t,ds,os,rfl,_⟩:=h
  rfl
 ·obtain⟨m,iv,rate,rs,r,f,j,t,ds,os,rfl,rm,aO,ri,row,hz,fT,fS,k⟩:=h
  have nd:=Jb.nd;have rN:∀H',RD K H' (.ref aN) (cx 0):=λH'=>(uA (nu H')).rd;refine⟨_,(aE (bB (df (xE K Z (pv 1))) (aH (aQ (ft (ak (cD (x:="NOUGHT") Z mH) aw)))) bD) (aE (CJ (i0:=3) nd Z (Or.inl Z) (N:=["one","other","machine","rate"]) (js:=[none,none,some 0,some 2]) Z Z Z (kZ K Z false false Z (B.at "zip") (ak (pv 1) (ak (uk (tV K rfl) (pv 1) (uh aB) ui) aw))) (λ_ _ _ _ _=>(dW K rfl (n:=2) rfl (bP (ba 0 (show List.Nodup (["one","other","machine","rate"]:List Str) by decide+kernel)) (bP (ba 1 (show List.Nodup (["one","other","machine","rate"]:List Str) by decide+kernel)) dU)))) (λ_ _ _ _ _=>cX) (λ_ _ _ _ _=>(pf a0N hr (ak (pv 2) (ak (pv 0) (ak (pv 1) (ak (pv 3) aw))))))) (aH (aQ (aK (sG K Z) (aK (sG K Z) (ft (ak (cD (x:="NOUGHT") Z mH) aw)) (pv 3)) (ft (ak (cD (x:="NOUGHT") Z mH) aw))))))),?_⟩;obtain⟨ia,xs,rfl,hi,gQ⟩:=ri.cg;have lx:=gQ.length;have ll:=row.len;refine⟨_,Z,_,.inr (.inl ⟨_,hi,Z⟩),?_⟩;cases hd:xs with
  |nil=>
   subst hd;refine bE ?_;refine⟨bW Z,λl H1 n1=>?_⟩;refine k l [.ref aN] H1 n1.no n1.at' ?_ n1.same;have e:os=[]:=by
    have:os.length=0:=by rw[<-ll,<-lx];rfl
    exact Qg.mp this
   rw[e];exact cj (rN H1) de |cons x0 xr=>
   refine aZ ?_;have cm:os≠[]:=by intro e;rw[e]at ll;rw[hd]at lx;simp at ll lx;rw[ll]at lx;cases lx
   have yl:0<xs.length:=by rw[hd];simp
   refine⟨_,Z,_,Z,1,Z,ia,xs,Z,.inr ⟨hi,?_,λtl H1 n1=>?_⟩⟩
   ·rintro⟨h1,_⟩
    have e:_H.bQ xs.length 0 (some 1)=min 1 xs.length:=_H.BB _ _ 1;rw[e]at h1
    lia
   refine⟨ia,tl,Z,⟨_,hi.go n1.same⟩,⟨_,aP.of n1.at'⟩,λD H2 n2=>?_⟩;have et:=n1.at';rw[Oi]at et;have uw:∀(i:Nat)(o:Itm),os[i]? =some o->∀(ns:List Int)(sp:Int),o=some (ns,sp)->eL rs.length 100 ns/\1<=sp/\sp<=20:=λi o e ns sp e'=>row.ok i ns sp (by rw[e,e']);have lr:=aO.len;refine qe (K:=K) (b1:=false) (b2:=false) (xs:=xs) (ys:=xs.drop 1) (ds:=((List.range (os.length-1)).map (λi=>ownF j rate os (i+1))).map cx) _ Z (hi.go n1.same) (aP.of et) n2 (by rw[Gs];simp;lia) (by simp;lia) (rn _) ?_ ?_
   ·intro i x y d H3 Q' ex ey ed s3 hq
    have jD:=n1.same.trans s3;rw[List.getElem?_drop]at ey;obtain⟨d1,e1,r1⟩:=gQ.get' i ex;obtain⟨d2,e2,r2⟩:=gQ.get' (1+i) ey;obtain⟨o1,vy,i1⟩:=row.get e1;obtain⟨o2,qc,i2⟩:=row.get e2;have hi2:1+i<os.length:=(dN.mp qc).1;have dw:d=cx (betR j rate o1 o2):=by rw[bK,bK,cI (by simp;lia),A4]at ed;have:=(cW ed).symm;rw[this];show cx (betR j rate (atO os i) (atO os (i+1)))=_;rw[_O.sH vy,_O.sH (show os[i+1]? =some o2 by rw[Nat.add_comm];exact qc)]
    subst dw;refine⟨_,Z,_,Z,_,Z,_,Z,m,x,y,rate,rs,r,f,j,t,d1,d2,o1,o2,rs.length,Z,RD.mono jD _ rm,aO.j1.1,aO.j1.2,RD.mono jD _ r1,RD.mono jD _ r2,i1,i2,uw _ _ vy,uw _ _ qc,au,fT,fS,λv H4 rv s4=>?_⟩;exact hq _ _ s4 rv.rd
   ·intro H3 zs s3 d3 r3
    have lz:=r3.length;simp at lz;refine⟨bW Z,λl1 H4 n4=>?_⟩;refine⟨_,Z,l1,D,_,zs,Z,Z,aG.of n4.at',aG.of (n4.same _ _ d3),tT _ (by simp;lia),λl2 H5 n5=>?_⟩;refine⟨bW Z,λl3 H6 n6=>?_⟩;refine⟨l2,l3,_,_,Z,Z,aG.of (n6.same _ _ n5.at'),aG.of n6.at',tT _ (by simp;lia),λl H7 n7=>?_⟩;have K2:az H H6:=n1.same.trans (s3.trans (n4.same.trans (n5.same.trans n6.same)));have nl:H l=none:=by cases e:H l with |none=>rfl |some o=>have:=K2 _ _ e;rw[n7.no]at this;cases this
    refine k l _ H7 nl n7.at' ?_ (K2.trans n7.same);rw[_O.KR j rate cm,jg,jg];exact((cj (rN H7) de).append (aJ.mono (n4.same.trans (n5.same.trans (n6.same.trans n7.same))) _ r3)).append (cj (rN H7) de)
inductive a6D(K:aa)(vs:List V)(H:Hp)(Q:VK):Prop |mk (v:_)(r:_)(z:_)(h0:vs=[v,.int z])(h1:bM K H v r)(h2:Bd 2000 r)(h3:z.natAbs<2^24)(h4:∀v H',bM K H' v (r+(z:Rat))->az H H'->Q v H')
def xh(K:aa):Sp:=λvs H Q _=>a6D K vs H Q
theorem QG{r:Rat}{z:Int}(m:r+(z:Rat)=Rat.divInt (r.num*(1:Nat)+z*r.den) (r.den*(1:Nat))):r.num+z*r.den=(r+(z:Rat)).num/\(r.den:Int)=(r+(z:Rat)).den:=by
 have c:(r.num+z*r.den).natAbs.Coprime r.den:=(Int.gcd_add_mul_right_left (r.den:Int) r.num z).trans r.reduced;have e:r+(z:Rat)=⟨r.num+z*r.den,r.den,r.den_nz,c⟩:=by rw[m,PK,Int.natCast_one,A6,A6]
 rw[e];exact⟨Z,Z⟩
abbrev Bf:Stmt:=top 41
theorem Ja:bc ["one","more","p","q"] ["one","more"] (aM Bf):=bp aI
theorem Wb(F:FA K mg "plus_whole" Bf)(B:bu mg):aD P w K mg ao "plus_whole" 4 (xh K):=by
 refine F.has Ja (λvs H Q E h=>?_) (λ_ _ _ _ _ _=>dj λ_ _=>rfl) (λf aF A outer s H vs Q E hr h=>?_)
 ·obtain⟨v,r,z,rfl,_⟩:=h
  rfl
 ·obtain⟨v,r,z,rfl,⟨p,rfl,hp⟩,br,hz,k⟩:=h
  have nd:=Ja.nd;refine⟨_,(aE (eD (pv 0) (dW K Z (n:=2) Z (bP (ba 2 nd) (bP (ba 3 nd) dU)))) (aH (aQ (eE (ak (aK dg (pv 2) (aK bV (pv 1) (pv 3))) (ak (pv 3) aw)))))),?_⟩;refine⟨_,Z,_,_,Z,hp,Z,_,_,Z,_,_,Z,Z,?_⟩;have bz:Bd 24 (z:Rat):=⟨hz,by show 1<2^24;decide⟩;obtain⟨e1,e2⟩:=QG (add_div r z);refine⟨_,Z,_,Z,_,Z,_,_,Z,Z,oH (bz.mono ay).wn.bits br.wd.bits,_,_,Z,Z,_,Z,(by show 2<=sizeLine;decide),λt H' n=>k _ _ ⟨t,Z,aP.of ?_⟩ n.same⟩;rw[<-e1,<-e2];exact n.at'
theorem nO{os:List Itm}{i:Nat}{ns:List Int}{sp:Int}(h:os[i]? =some (some (ns,sp))):leadF os i=some (aL ns):=by unfold leadF;rw[_O.sH h];rfl
theorem yb{os:List Itm}{i:Nat}(h:os[i]? =some none):leadF os i=none:=by unfold leadF;rw[_O.sH h];rfl
theorem pK{os:List Itm}(h:OkIs os){i m:Nat}(e:leadF os i=some m):m<=100:=by unfold leadF at e;cases ho:atO os i with |none=>rw[ho]at e;cases e |some q=>rw[ho]at e;cases e;obtain⟨a,_,_⟩:=h i q.1 q.2 ho;exact lC λz hz=>by have:=a z hz;lia
theorem oN{r:Int}{m:Nat}(h1:1<=r)(h2:r<=50)(h3:m<=100):(2*r*(m:Int)).natAbs<2^24:=by
 have j4:(2:Nat)^24=16777216:=by decide
 have:=iX (a:=2*r) (b:=(m:Int)) (m:=100) (n:=100) au au;rw[j4];lia
inductive a6t(K:aa)(vs:List V)(H:Hp)(Q:VK):Prop |mk (m:_)(iv:_)(l:_)(ys:_)(rs:_)(r:_)(f:_)(j:_)(t:_)(ds:_)(os:_)(g:_)(h0:vs=[m,iv,.ref l])(h1:RD K H m (iA rs r f j t))(h2:kQ rs r f j t)(h3:RD K H iv (.tuple ds))(h4:gs rs.length ds os)(h5:ds.length<=30)(h6:H l=some (.lst ys))(h7:aJ K H ys ((lst os.length g).map cx))(h8:(∀i,Bd 64 (g i)))(h9:∀l ys H',H l=none->H' l=some (.lst ys)->aJ K H' ys ((lst os.length (Rz g (leadF os) (2*r))).map cx)->az H H'->Q (.ref l) H')
def HQ(K:aa):Sp:=λvs H Q _=>a6t K vs H Q
abbrev AW:Stmt:=top 65
theorem IY:bc ["machine","items","squares","rise","kept","i","item"] ["machine","items","squares"] (aM AW):=bp aI
theorem W4(F:FA K mg "kept_by_rise" AW)(B:bu mg)(lG:aD P w K mg ao "is_line" 1 (qK K))(pP:aD P w K mg ao "lead_of" 1 (m7 K))(E6:aD P w K mg ao "plus_whole" 4 (xh K))(uY:aD P w K mg ao "least" 2 (tP K)):aD P w K mg ao "kept_by_rise" 5 (HQ K):=by
 refine F.has IY (λvs H Q E h=>?_) (λ_ _ _ _ _ _=>lO λ_ _ _=>rfl) (λf aF A outer s H vs Q E hr h=>?_)
 · obtain⟨m,iv,l,ys,rs,r,f,j,t,ds,os,g,rfl,_⟩:=h
   rfl
 · obtain⟨m,iv,l,ys,rs,r,f,j,t,ds,os,g,rfl,rm,aO,ri,row,hz,dl,Cp,bg,k⟩:=h
   have nd:=IY.nd;refine⟨_,(aE (pS 3 nd (px K (pv 0) aB)) (aE (pS 4 nd (cT (x:="list") (DF K Z) Z (B.at "list") Q8 (ak (pv 2) aw))) (aE (kg je Z (UY K Z false Z (B.at "enumerate") (ak (pv 1) aw)) (dW K rfl (n:=2) rfl (bP (ba 5 nd) (bP (ba 6 nd) dU))) (aH (bB (cC (pf lG hr (ak (pv 6) aw))) (aH (eD (pf uY hr (ak (ft (ak (px K (pv 4) (aK dg (pv 5) aB)) (ak (pf E6 hr (ak (px K (pv 4) (pv 5)) (ak (aK bV (aK bV aB (pv 3)) (pf pP hr (ak (pv 6) aw))) aw))) aw))) aw)) (pA (pv 4) (aK dg (pv 5) aB) set_list))) bD))) (aH (aQ (pv 4)))))),?_⟩;obtain⟨ma,mb,rfl,gr,iZ⟩:=my rm;obtain⟨ia,xs,rfl,hi,gQ⟩:=ri.cg;have lx:=gQ.length;have ll:=row.len;have lr:=aO.len;have hL:∀i m,leadF os i=some m->(2*r*(m:Int)).natAbs<2^24:=λi m e=>oN aO.r1.1 aO.r1.2 (pK row.lq e);have RB:∀i,i<=30->Bd 900 (Rz g (leadF os) (2*r) i):=λi hi=>(vJ bg hL i).mono bo;refine⟨_,Z,.inr ⟨ma,_,1,.int r,Z,Z,gr,Z,?_⟩⟩;refine⟨_,Z,l,ys,Z,.inl (aG.of dl),λD H1 n1=>?_⟩;refine⟨_,Z,ia,Z,⟨_,hi.go n1.same⟩,a2J (K:=K) (b:=false) (a:=ia) (xs:=xs) (λi O H2=>az H H2/\∃zs v1 v2,H2 D=some (.lst zs)/\aJ K H2 zs ((lst os.length λk=>if k<=i then Rz g (leadF os) (2*r) k else g k).map cx)/\O=[some (.ref ma),some (.ref ia),some (.ref l),some (.int r),some (.ref D),v1,v2]) ?_ (λi O H2 _ h=>hi.go h.1) ?_ ?_⟩
   · refine⟨n1.same,ys,none,none,n1.at',?_,Z⟩
     rw[jI (g:=λk=>if k<=0 then Rz g (leadF os) (2*r) k else g k) (g':=g)]
     ·exact aJ.mono n1.same _ Cp
     · intro k _
       show g k=if k<=0 then Rz g (leadF os) (2*r) k else g k;split
       · next h => have:k=0:=by omega
                   subst this;rfl
       ·rfl
   · rintro i y O H2 hy ⟨s2,zs,v1,v2,dz,rz,rfl⟩ T H3 n3
     have MC:i<xs.length:=(dN.mp hy).1;obtain⟨d,ed,rd⟩:=gQ.get' i hy;obtain⟨o,eo,it⟩:=row.get ed;have s3:=s2.trans n3.same;have lz:=rz.length;rw[bA,jH]at lz;refine⟨T,_,Z,aP.of n3.at',Z,_,_,Z,_,_,Z,Z,?_⟩;refine⟨_,Z,y,d,o,Z,RD.mono s3 _ rd,it,_,Z,?_⟩;cases o with
     |none=>
       refine aZ ?_;refine⟨s3,zs,_,_,n3.same _ _ dz,?_,Z⟩;rw[jI (g:=λk=>if k<=i+1 then Rz g (leadF os) (2*r) k else g k) (g':=λk=>if k<=i then Rz g (leadF os) (2*r) k else g k)]
       ·exact aJ.mono n3.same _ rz
       · intro k _
         show(if k<=i then Rz g (leadF os) (2*r) k else g k)=if k<=i+1 then Rz g (leadF os) (2*r) k else g k;by_cases h1:k<=i
         ·rw[aR h1,aR bo]
         · rw[aU h1]
           by_cases h2:k=i+1
           ·subst h2;rw[aR (bj _),mS (yb eo)]
           ·rw[aU bo] |some q=>
       obtain⟨ns,sp⟩:=q;refine bE ?_;have dw:=jr it;subst dw;obtain⟨eG,_,_⟩:=row.ok i ns sp eo;have Fj:=n3.same _ _ dz;have Ce:=aJ.mono n3.same _ rz;obtain⟨z1,kL⟩:∃z,zs[i+1]? =some z:=⟨_,cI (show i+1<zs.length by omega)⟩;obtain⟨z0,kM⟩:∃z,zs[i]? =some z:=⟨_,cI (show i<zs.length by omega)⟩;have R1:bM K H3 z1 (g (i+1)):=by
        obtain⟨d1,e1,r1⟩:=Ce.get' (i+1) kL;rw[bK,jq _ (show i+1<=os.length by omega)]at e1;cases e1;have:¬(i+1<=i):=by omega
        simp only[aU this]at r1;exact jm r1
       have R0:bM K H3 z0 (Rz g (leadF os) (2*r) i):=by obtain⟨d1,e1,r1⟩:=Ce.get' i kM;rw[bK,jq _ (show i<=os.length by omega)]at e1;cases e1;simp only[aR (bj i)]at r1;exact jm r1
       have sy:((i:Int)+1).toNat=i+1:=by omega
       have qh:eg zs ((i:Int)+1)=some z1:=cN bo (by rw[sy];exact kL);have qi:eg zs (i:Int)=some z0:=cN bo (by simpa using kM);refine⟨_,Z,_,Z,_,_,Z,Z,.inl ⟨D,_,_,_,Z,Z,aG.of Fj,qh,?_⟩⟩;refine⟨_,Z,_,Z,.inl ⟨D,_,_,_,Z,Z,aG.of Fj,qi,?_⟩⟩;refine⟨_,Z,_,_,Z,Z,.of_left (cJ ay ay),?_⟩;refine⟨_,Z,y,ns,sp,Z,RD.mono s3 _ rd,eG.ne,by rw[eG.len];omega,λH4 s4=>?_⟩;have Uw:=aO.r1;refine⟨_,_,Z,Z,.of_left (cJ bo bo),?_⟩;have us:=hL i _ (nO eo);refine⟨z0,_,_,Z,R0.go s4,(RB i bo).mono ay,us,λu H5 ru s5=>?_⟩;refine⟨bW Z,λl2 H6 n6=>?_⟩;have fq:=s4.trans (s5.trans n6.same);have P8:=R1.go fq;have Ru:=ru.go n6.same;have B1:Bd 2000 (g (i+1)):=(bg _).mono ay;have B2:Bd 2000 (Rz g (leadF os) (2*r) i+((2*r*(aL ns:Int):Int):Rat)):=(sI (RB i bo) us).mono ay;refine⟨l2,[z1,u],[_,_],Z,aG.of n6.at',⟨P8,B1,Ru,B2,trivial⟩,by simp,λc v q e1 e2 hq=>?_⟩;have kB:mn (g (i+1)) (Rz g (leadF os) (2*r) i+((2*r*(aL ns:Int):Int):Rat))=q:=by
        refine pI ?_ (hq _ (by simp)) (hq _ (by simp))
        match c,e2 with |0,e2=>cases e2;exact .inl rfl |1,e2=>cases e2;exact .inr rfl
       have Rv:bM K H6 v q:=by match c,e1,e2 with |0,e1,e2=>cases e1;cases e2;exact P8 |1,e1,e2=>cases e1;cases e2;exact Ru
       have kO:=fq _ _ Fj;have Z6:gq zs.length ((i:Int)+1)=some (i+1):=by unfold gq;rw[aR bo,aR bo,sy]
       refine⟨_,Z,_,Z,_,_,Z,Z,D,zs,_,_,Z,Z,kO,Z6,?_⟩;refine⟨λb o e=>?_,_,_,_,bU,?_,Z⟩
       ·rw[bh (fv e n1.no)];exact fq b o (s3 b o e)
       · have h:=aJ.xt (i:=i+1) kO (aJ.mono fq _ Ce) Rv.rd (rn _) (pe _)
         rw[<-A3]at h;have e:(lst os.length λk=>if k<=i then Rz g (leadF os) (2*r) k else g k).set (i+1) q=lst os.length λk=>if k<=i+1 then Rz g (leadF os) (2*r) k else g k:=by
          rw[<-y9 (g:=λk=>if k<=i then Rz g (leadF os) (2*r) k else g k) (g':=λk=>if k<=i+1 then Rz g (leadF os) (2*r) k else g k) (i:=i+1)]
          · simp only[aR (bj (i+1))]
            rw[jP (nO eo),kB]
          · intro k _ hk
            show(if k<=i+1 then _ else _)=if k<=i then _ else _;by_cases h1:k<=i
            ·rw[aR h1,aR bo]
            ·rw[aU h1,aU bo]
         rw[e]at h;exact h
   · rintro O H2 ⟨s2,zs,v1,v2,dz,rz,rfl⟩
     rw[jI (g:=λk=>if k<=xs.length then Rz g (leadF os) (2*r) k else g k) (g':=Rz g (leadF os) (2*r)) (λk hk=>by show _=if k<=xs.length then _ else _;rw[aR bo])]at rz;exact⟨_,Z,k D zs H2 n1.no dz rz s2⟩
theorem DK{n:Nat}{ns:List Int}(h:eL n 100 ns):aL ns<=100:=by have:=h.lead;lia
open _W
def cM(pl:List Int):ah:=.tuple (pl.map PyData.int)
theorem iz(pl:List Int):eX (cM pl)=true:=by rw[cM,eX];exact kr pl
theorem UQ{H:Hp}{v:V}{pl:List Int}(h:RD K H v (cM pl)):∃a,v= .ref a/\aP K H a (pl.map V.int):=by obtain⟨a,xs,rfl,h1,h2⟩:=h.cg;rw[h2.eO]at h1;exact⟨a,Z,h1⟩
theorem Kz{H:Hp}{a:Addr}{pl:List Int}(h:aP K H a (pl.map V.int)):RD K H (.ref a) (cM pl):=eZ h (nC pl)
def dF(pl:List Int):Itm->List Int |none=>pl |some (ns,_)=>ja pl ns
inductive a6C(K:aa)(vs:List V)(H:Hp)(Q:VK):Prop |mk (p:_)(m:_)(rs:_)(r:_)(f:_)(j:_)(t:_)(h0:vs=[.ref p,m])(h1:fO H p)(h2:RD K H m (iA rs r f j t))(h3:kQ rs r f j t)(h4:∀v pl H',RD K H' v (cM pl)->fE rs pl->bG p H H'->Q v H')
def Aq(K:aa):Sp:=λvs H Q _=>a6C K vs H Q
abbrev Be:Stmt:=top 111
theorem J9:bc ["_law_bag_here","_law_machine_here"] ["_law_bag_here","_law_machine_here"] (aM Be):=bp aI
theorem Wf(F:FA K mg "_law_place" Be)(B:bu mg)(eH:aD P w K mg ao "_law_take" 1 ny):aD P w K mg ao "_law_place" 2 (Aq K):=by
 refine F.has J9 (λvs H Q E h=>?_) (λ_ _ _ _ _ _=>dj λ_ _=>rfl) (λf aF A outer s H vs Q E hr h=>?_)
 ·obtain⟨p,m,rs,r,f,j,t,rfl,_⟩:=h
  rfl
 ·obtain⟨p,m,rs,r,f,j,t,rfl,bg,rm,Ld,k⟩:=h
  have nd:=J9.nd;refine⟨_,(aH (aQ (cT (x:="tuple") (ji K Z) Z (B.at "tuple") gJ (ak (dD (N:=["_law_rail","_law_bag_here"]) (js:=[none,some 0]) rfl rfl rfl (jn K rfl (px K (pv 1) aB)) (λ_ _ _ _ _=>(ba 0 (gm ay))) (λ_ _ _ _ _=>cX) (λ_ _ _ _ _=>(pf eH hr (ak (pv 1) (ak (aK dg (pv 0) aB) aw))))) aw)))),?_⟩;obtain⟨ma,mb,rfl,gr,iZ⟩:=my rm;have lr:=Ld.len;refine⟨_,Z,.inr ⟨ma,_,0,.ref mb,Z,Z,gr,cN (fH 0) Z,mb,Z,⟨_,iZ⟩,λD H1 n1=>?_⟩⟩;refine Oo (K:=K) (J:=vO K mb) (p:=p) (H:=H) rs.length _ n1 bg au (λi=>.int (rs.getD i 0)) (λi H2 hi b2=>?_) (λH2 b2=>?_) (λi d=>∃z r,d= .int z/\rs[i]? =some r/\0<=z/\z<=r) ?_ ?_
  ·have yy:=iZ.t (bG.t bg b2)
   have e:(rs.map V.int)[i]? =some (.int (rs.getD i 0)):=by rw[bK,List.getD_eq_getElem?_getD,cI hi];rfl
   exact⟨⟨_,_,yy,e⟩,λy H3 ⟨e3,y3⟩=>⟨e3,by have:=y3 _ yy;rw[e]at this;exact(cW this).symm⟩⟩
  ·exact⟨_,iZ.t (bG.t bg b2),by rw[bA];exact bj _⟩
  ·intro i H2 Q' hi b2 hq
   have er:rs[i]? =some (rs.getD i 0):=by rw[List.getD_eq_getElem?_getD,cI hi];rfl
   obtain⟨r0,r1⟩:=Ld.rl _ (fg er);refine⟨_,Z,_,Z,_,_,Z,Z,p,_,Z,b2.bJ,au,au,λz H3 z0 z1 b3=>?_⟩;exact hq _ _ _ ⟨z,_,Z,er,z0,au⟩ Z (eu z) b3
  ·intro H2 ys ds b2 d2 r2 l2 nl pd
   have nS:∃pl:List Int,ds=pl.map PyData.int/\fE rs pl:=by
    have key:∀(ds:List ah),(∀d∈ds,∃z:Int,d= .int z)->∃pl:List Int,ds=pl.map PyData.int:=by intro ds;induction ds with |nil=>exact λ_=>⟨[],Z⟩ |cons d ds ih=>intro h;obtain⟨z,rfl⟩:=h d (.head _);obtain⟨pl,rfl⟩:=ih λx hx=>h x (.tail _ hx);exact⟨z::pl,Z⟩
    obtain⟨pl,rfl⟩:=key ds λd hd=>by obtain⟨i,hi⟩:=oE.mp hd;obtain⟨z,_,e,_⟩:=pd i d hi;exact⟨z,e⟩
    refine⟨pl,Z,by simpa using l2,λi x r e1 e2=>?_⟩;obtain⟨z,r',e,er,h0,h1⟩:=pd i (.int x) (by rw[bK,e1];rfl);cases e;rw[e2]at er;cases er;exact⟨h0,h1⟩
   obtain⟨pl,rfl,on⟩:=nS;refine⟨D,_,Z,.inl ⟨aG.of d2,λt H3 n3=>?_⟩⟩;have et:=n3.at';rw[r2.eO]at et;exact k (.ref t) pl H3 (Kz (aP.of et)) on (b2.trans (.eV b2.bJ n3.same))
open _O (Itm)
theorem Ye{H:Hp}{v:V}{rs:List Int}{es:List ah}(h:RD K H v (.tuple (.tuple (rs.map PyData.int)::es))):∃a b ys,v= .ref a/\aP K H a (.ref b::ys)/\aP K H b (rs.map V.int):=by obtain⟨a,xs,rfl,h1,h2⟩:=h.cg;obtain⟨x1,r1,rfl,e1,h2⟩:=h2.cons_inv;obtain⟨b,ys,rfl,h3,h4⟩:=e1.cg;rw[h4.eO]at h3;exact⟨a,b,r1,Z,h1,h3⟩
def fw(z:Str):ah->Bool | .str x=>x==z |_=>false
theorem yX(z:Str)(d:ah):PyData.eqv d (.str z)=fw z d:=by cases d<;>simp[PyData.eqv,fw]
theorem NJ(z:Str)(d:ah):PyData.eqv (.str z) d=fw z d:=by cases d<;>simp[PyData.eqv,fw];rw[jh];simp;exact eq_comm
theorem Sj(d:ah):(∃z,d= .str z)\/(hW (jW d) "str"=false/\∀z,d≠ .str z):=by cases d with |str z=>exact .inl ⟨z,Z⟩ |_=>exact .inr ⟨by simp[jW];decide,λ_ z=>nomatch z⟩
theorem QX:hW "str" "str"=true:=by decide
def DR(d:ah):Bool:=fw "up" d||fw "down" d
def rf(c:Nat):Bool:=decide (97<=c)&&decide (c<=122)
def isNm:ah->Bool | .str x=>(decide (1<=x.length)&&decide (x.length<=8))&&x.cps.toList.all rf |_=>false
def mC(wd v:ah):Bool:=if fw "wait" wd then cw 1 1000 v else if fw "tool" wd then DR v else fw "mark" wd&&isNm v
def pG:ah->Bool | .int i=>i !=0 |_=>true
def ml(n:Nat):ah->Bool | .tuple ds=>(ds.length==n&&ds.all (cw (-100) 100))&&ds.any pG |_=>false
def iB(n:Nat):ah->Bool | .tuple [wd,a,b]=>fw "line" wd&&(ml n a&&cw 1 20 b) | .tuple [wd,v]=>mC wd v |_=>false
def fK:ah->Bool | .str x=>decide (x.length<=900) |_=>true
def oZ:ah->Bool | .tuple ds=>ds.all fK |_=>true
inductive a6g(f:ah->Bool)(K:aa)(vs:List V)(H:Hp)(Q:VK):Prop |mk (v:_)(d:_)(h0:vs=[v])(h1:RD K H v d)(h2:fK d=true)(h3:∀H',az H H'->Q (.bl (f d)) H')
def HG(f:ah->Bool)(K:aa):Sp:=λvs H Q _=>a6g f K vs H Q
theorem SM{z:Str}(h:fK (.str z)=true):z.length<=900:=jS h
theorem LB(n:Nat):decide ((1:Int)<=(n:Int))=decide (1<=n):=by rw[jh];simp;omega
theorem XF(n:Nat):decide ((n:Int)<=8)=decide (n<=8):=by rw[jh];simp;omega
theorem P2{l:List Nat}{f:Nat->Bool}:(l.map f).all id=l.all f:=by rw[Gy];rfl
theorem a5K:∀c<128,decide (c∈gZ.cps.toList)=rf c:=by decide+kernel
theorem a5N:∀c∈gZ.cps.toList,c<128:=by decide+kernel
theorem a5M(c:Nat):decide (c∈gZ.cps.toList)=rf c:=by
 by_cases h:c<128
 ·exact a5K c h
 ·rw[dM (λhc=>h (a5N c hc)),rf,dM (show¬c<=122 by omega),wI]
abbrev BJ:Stmt:=top 37
theorem JD:bc ["thing"] ["thing"] (aM BJ):=bp aI
theorem WM(F:FA K mg "is_name" BJ)(B:bu mg)(a1k:GV mg "LONGEST_NAME" (.int 8))(a1l:GV mg "LETTERS" (.str gZ)):aD P w K mg ao "is_name" 1 (HG isNm K):=by
 refine F.has JD (λvs H Q E h=>?_) (λ_ _ _ _ _ _=>cE λ_=>rfl) (λf aF A outer s H vs Q E hr h=>?_)
 ·obtain⟨v,d,rfl,_⟩:=h
  rfl
 ·obtain⟨v,d,rfl,rd,sh,k⟩:=h
  have nd:=JD.nd;refine⟨_,(aE (bB (PW.pt (iq (df (cC (lj K B (ak (pv 0) (ak (ki (x:="str") (v:=.ty "str") Z (B.at "str") gy rfl) aw))))) (ip (df (UD qU qU aB (ck (x:="len") a50 rfl (B.at "len") PySem.boot_len (ak (pv 0) aw)) (cD (x:="LONGEST_NAME") rfl a1k)))))) (aH (aQ gB)) bD) (aH (aQ (ck (x:="all") (qj K Z Z) Z (B.at "all") sZ (ak (dD (N:=["letter"]) (js:=[none]) rfl rfl rfl (CM (pv 0)) (λ_ _ _ _ _=>(ba 0 (gD _))) (λ_ _ _ _ _=>cX) (λ_ _ _ _ _=>(jE L6 (pv 0) (cD (x:="LETTERS") rfl a1l) (by with_unfolding_all rfl)))) aw))))),?_⟩;rcases Sj d with⟨z,rfl⟩|⟨ht,hn⟩
  ·refine⟨_,Z,.inl ⟨_,_,"str",true,Z,rd.ty,ay,QX,_,Z,aZ ?_⟩⟩
   cases rd.str_inv;have hl:=SM sh;have k:∀H',az H H'->Q (.bl ((decide (1<=z.length)&&decide (z.length<=8))&&z.cps.toList.all rf)) H':=k;refine⟨_,Z,z,Z,fc hl ay,_,_,Z,Z,_,Z,?_⟩;refine dZ (λh1=>?_) (λh1=>?_)
   ·rw[<-LB,show decide ((1:Int)<=(z.length:Int))=true from h1,gc]at k
    refine⟨_,_,Z,Z,_,Z,?_⟩;rw[XF];cases e8:decide (z.length<=8)with |false=>rw[e8,gf]at k;exact bE (k H (az.refl _)) |true=>
     rw[e8,gc]at k;refine aZ ⟨_,Z,z,Z,λD H0 nw=>?_⟩;refine Ou (f:=rf) [] nw au (λc H2 Q' hc s2 hq=>?_) (λH2 s2 d2=>?_)
     ·refine⟨_,Z,c,gZ,Z,Z,?_⟩
      rw[a5M];exact hq _ (az.refl _)
     ·refine⟨D,_,Z,aG.of d2,?_⟩
      rw[P2];exact k H2 s2
   ·rw[<-LB,show decide ((1:Int)<=(z.length:Int))=false from wH.mpr h1,gf,gf]at k
    exact⟨_,Z,bE (k H (az.refl _))⟩
  ·have e:isNm d=false:=by cases d<;>first|rfl|exact absurd rfl (hn _)
   rw[e]at k;refine⟨_,Z,.inl ⟨_,_,"str",false,Z,rd.ty,ay,ht,_,Z,bE ?_⟩⟩;exact k H (az.refl _)
inductive a6p(K:aa)(vs:List V)(H:Hp)(Q:VK):Prop |mk (x:_)(v:_)(wd:_)(d:_)(h0:vs=[x,v])(h1:RD K H x wd)(h2:RD K H v d)(h3:cF 8 wd)(h4:cF 8 d)(h5:fK d=true)(h6:∀H',az H H'->Q (.bl (mC wd d)) H')
def HL(K:aa):Sp:=λvs H Q _=>a6p K vs H Q
theorem tW{d:ah}(h:cF 8 d):SeqAt.shaped d=true:=h.shaped ay
abbrev BH:Stmt:=top 36
theorem JB:bc ["word","value"] ["word","value"] (aM BH):=bp aI
theorem WK(F:FA K mg "is_short_item" BH)(B:bu mg)(a1i:GV mg "LONGEST_WAIT" (.int 1000))(gS:GT K mg "SIDES" [.str "up",.str "down"])(gU:aD P w K mg ao "is_whole_within" 2 (kT K))(a0l:aD P w K mg ao "is_name" 1 (HG isNm K)):aD P w K mg ao "is_short_item" 3 (HL K):=by
 refine F.has JB (λvs H Q E h=>?_) (λ_ _ _ _ _ _=>dj λ_ _=>rfl) (λf aF A outer s H vs Q E hr h=>?_)
 ·obtain⟨x,v,wd,d,rfl,_⟩:=h
  rfl
 ·obtain⟨x,v,wd,d,rfl,Cg,rd,CZ,pE,sh,k⟩:=h
  have nd:=JB.nd;obtain⟨aS,a13,Su⟩:=gS;refine⟨_,(aE (bB (bI (dv K Z hr.units) (pv 0) bq (bC _)) (aH (aQ (pf gU hr (ak (pv 1) (ak aB (ak (cD (x:="LONGEST_WAIT") Z a1i) aw)))))) bD) (aE (bB (bI (dv K Z hr.units) (pv 0) bq (bC _)) (aH (aQ (jE (Zg K Z (hr.QT)) (pv 1) (cD (x:="SIDES") Z a13) (by with_unfolding_all rfl)))) bD) (aH (aQ (qS (jE (dv K Z hr.units) (pv 0) bq (bC _)) (qQ (pf a0l hr (ak (pv 1) aw)))))))),?_⟩;have k:∀H',az H H'->Q (.bl (if fw "wait" wd then cw 1 1000 d else if fw "tool" wd then DR d else fw "mark" wd&&isNm d)) H':=k;refine⟨_,Z,.inr ⟨_,_,Cg,bO _,tW CZ,aI,_,Z,?_⟩⟩;rw[yX];cases e1:fw "wait" wd with |true=>rw[e1,aR rfl]at k;exact bE ⟨_,Z,_,d,1,1000,Z,rd,k H (az.refl _)⟩ |false=>rw[e1,aU dc]at k;refine aZ ⟨_,Z,.inr ⟨_,_,Cg,bO _,tW CZ,aI,_,Z,?_⟩⟩;rw[yX];cases e2:fw "tool" wd with
   |true=>
    rw[e2,aR rfl]at k;refine bE ⟨_,Z,aS,_,d,[.str "up",.str "down"],Z,Su H,rd,cj (bO _) (cj (bO _) de),tW pE,?_,?_⟩
    ·intro e he
     rcases bS.mp he with rfl|he
     ·decide+kernel
     rcases bS.mp he with rfl|he
     ·decide+kernel
     ·exact(eS he).elim
    ·have e:([.str "up",.str "down"]:List ah).any (λe=>PyData.eqv e d)=DR d:=by rw[tq,tq,List.any_nil,NJ,NJ,Bool.or_false];rfl
     rw[e];exact k H (az.refl _) |false=>rw[e2,aU dc]at k;refine aZ ⟨_,Z,.inr ⟨_,_,Cg,bO _,tW CZ,aI,_,Z,?_⟩⟩;rw[yX];cases e3:fw "mark" wd with |true=>rw[e3,gc]at k;exact bE ⟨_,Z,_,d,Z,rd,sh,k⟩ |false=>rw[e3,gf]at k;exact aZ (k H (az.refl _))
theorem Xi(i:Int):(!decide (i=0))=(i !=0):=by rw[jh];simp
theorem Zf{lo hi:Int}{d:ah}(h:cw lo hi d=true):∃i,d= .int i:=by cases d<;>simp[cw]at h;exact⟨_,Z⟩
theorem any_map'{ds:List ah}{f:ah->Bool}:(ds.map f).any id=ds.any f:=by rw[List.any_map];rfl
inductive a6n(K:aa)(vs:List V)(H:Hp)(Q:VK):Prop |mk (m:V)(v:V)(rs:List Int)(es:List ah)(d:ah)(h0:vs=[m,v])(h1:RD K H m ((.tuple (.tuple (rs.map PyData.int)::es))))(h2:RD K H v d)(h3:rs.length<=3)(h4:∀H',az H H'->Q (.bl (ml rs.length d)) H')
def HJ(K:aa):Sp:=λvs H Q _=>a6n K vs H Q
abbrev C0:Stmt:=top 35
theorem JS:bc ["machine","thing","rails"] ["machine","thing"] (aM C0):=bp aI
theorem X3(F:FA K mg "are_steps" C0)(B:bu mg)(ML:GV mg "MOST_STEPS" (.int 100))(gU:aD P w K mg ao "is_whole_within" 2 (kT K)):aD P w K mg ao "are_steps" 3 (HJ K):=by
 refine F.has JS (λvs H Q E h=>?_) (λ_ _ _ _ _ _=>dj λ_ _=>rfl) (λf aF A outer s H vs Q E hr h=>?_)
 ·obtain⟨m,v,rs,es,d,rfl,_⟩:=h
  rfl
 ·obtain⟨m,v,rs,es,d,rfl,rm,rd,l3,k⟩:=h
  have nd:=JS.nd;refine⟨_,(aE (pS 2 nd (px K (pv 0) aB)) (aE (bB (PW.pt (iq (df (cC (lj K B (ak (pv 1) (ak (ki (x:="tuple") (v:=.ty "tuple") Z (B.at "tuple") gJ rfl) aw))))) (ip (bI (mr K rfl hr.units) (eF K B (ak (pv 1) aw)) (eF K B (ak (pv 2) aw)) (bC _))))) (aH (aQ gB)) bD) (aE (bB (df (cC (ck (x:="all") (qj K Z Z) Z (B.at "all") sZ (ak (dD (N:=["step"]) (js:=[none]) rfl rfl rfl (jn K rfl (pv 1)) (λ_ _ _ _ _=>(ba 0 (gD _))) (λ_ _ _ _ _=>cX) (λ_ _ _ _ _=>(pf gU hr (ak (pv 0) (ak (kh jV (cD (x:="MOST_STEPS") rfl ML)) (ak (cD (x:="MOST_STEPS") rfl ML) aw)))))) aw)))) (aH (aQ gB)) bD) (aH (aQ (ck (x:="any") (a5t K Z Z) Z (B.at "any") Q9 (ak (dD (N:=["step"]) (js:=[none]) rfl rfl rfl (jn K rfl (pv 1)) (λ_ _ _ _ _=>(ba 0 (gD _))) (λ_ _ _ _ _=>cX) (λ_ _ _ _ _=>(jE (mr K rfl hr.units) (pv 0) aB (bC _)))) aw))))))),?_⟩;obtain⟨am,ar,ym,rfl,hm,har⟩:=Ye rm;refine⟨_,Z,.inr ⟨am,_,0,_,Z,Z,hm,cN (fH 0) Z,?_⟩⟩;rcases tK d with⟨ds,rfl⟩|⟨ht,hn⟩
  ·refine⟨_,Z,.inl ⟨_,_,"tuple",true,Z,rd.ty,ay,nk,_,Z,aZ ?_⟩⟩
   obtain⟨av,xs,rfl,hx,hd⟩:=rd.cg;have hl:=hd.length;refine⟨_,Z,av,_,Z,.inr hx,_,Z,ar,_,Z,.inr har,.inl ⟨_,_,Z,Z,_,Z,?_⟩⟩;have k:∀H',az H H'->Q (.bl ((ds.length==rs.length&&ds.all (cw (-100) 100))&&ds.any pG)) H':=k;have e0:(!decide ((xs.length:Int)=((rs.map V.int).length:Int)))= !(ds.length==rs.length):=by rw[hl,bA];congr 1;rw[jh];simp;lia
   rw[e0];cases e:(ds.length==rs.length)with |false=>rw[e,gf,gf]at k;exact bE (k H (az.refl _)) |true=>
    rw[e,gc]at k;refine aZ ?_;have el:ds.length=rs.length:=dr.mp e;refine⟨_,Z,av,Z,⟨_,hx⟩,λD H0 nw=>?_⟩;refine zj (xs:=xs) (bs:=ds.map (cw (-100) 100)) [] hx nw (by rw[bA,hl]) au ?_ ?_
    ·intro i x b H2 Q' ex eb s2 hq
     obtain⟨d,ed,rfl⟩:=y6 eb;obtain⟨x',iG,rx⟩:=hd.get i ed;rw[ex]at iG;cases iG;exact⟨_,Z,_,Z,_,d,-100,100,Z,RD.mono s2 _ rx,hq _ (az.refl _)⟩
    ·intro H2 s2 d2
     refine⟨D,_,Z,aG.of d2,_,Z,?_⟩;rw[all_map];cases e1:ds.all (cw (-100) 100)with |false=>rw[e1,gf]at k;exact bE (k H2 s2) |true=>
      rw[e1,gc]at k;refine aZ ⟨_,Z,av,Z,⟨_,hx.go s2⟩,λD2 H3 n3=>?_⟩;refine zj (xs:=xs) (bs:=ds.map pG) [] (hx.go s2) n3 (by rw[bA,hl]) au ?_ ?_
      ·intro i x b H4 Q' ex eb s4 hq
       obtain⟨d,ed,rfl⟩:=y6 eb;obtain⟨x',iG,rx⟩:=hd.get i ed;rw[ex]at iG;cases iG;obtain⟨z,rfl⟩:=Zf (fh.mp e1 d (fg ed));cases rx.int_inv;refine⟨_,Z,.inl ⟨_,_,Z,Z,?_⟩⟩;show Q' (.bl (!decide (z=0))) H4;rw[Xi];exact hq _ (az.refl _)
      ·intro H4 s4 d4
       refine⟨D2,_,Z,aG.of d4,?_⟩;rw[any_map'];exact k H4 (s2.trans s4)
  ·have e:ml rs.length d=false:=by cases d<;>first|rfl|exact absurd rfl (hn _)
   rw[e]at k;refine⟨_,Z,.inl ⟨_,_,"tuple",false,Z,rd.ty,ay,ht,_,Z,bE ?_⟩⟩;exact k H (az.refl _)
theorem item_cases(n:Nat)(d:ah):(∃wd a b,d= .tuple [wd,a,b])\/(∃wd v,d= .tuple [wd,v])\/(∃ds,d= .tuple ds/\ds.length≠3/\ds.length≠2/\iB n d=false)\/(hW (jW d) "tuple"=false/\iB n d=false):=by
 rcases tK d with⟨ds,rfl⟩|⟨ht,hn⟩
 ·match ds with |[r,a,b]=>exact .inl ⟨r,a,b,Z⟩ |[r,a]=>exact .inr (.inl ⟨r,a,Z⟩) |[]=>exact .inr (.inr (.inl ⟨_,Z,by simp,by simp,by simp[iB]⟩)) |[_]=>exact .inr (.inr (.inl ⟨_,Z,by simp,by simp,by simp[iB]⟩)) |_::_::_::_::_=>exact .inr (.inr (.inl ⟨_,Z,by simp,by simp,by simp[iB]⟩))
 ·exact .inr (.inr (.inr ⟨ht,by cases d<;>first|rfl|exact absurd rfl (hn _)⟩))
inductive a6Y(K:aa)(vs:List V)(H:Hp)(Q:VK):Prop |mk (m:V)(v:V)(rs:List Int)(es:List ah)(d:ah)(h0:vs=[m,v])(h1:RD K H m ((.tuple (.tuple (rs.map PyData.int)::es))))(h2:RD K H v d)(h3:rs.length<=3)(h4:cF 8 d)(h5:oZ d=true)(h6:∀H',az H H'->Q (.bl (iB rs.length d)) H')
def xo(K:aa):Sp:=λvs H Q _=>a6Y K vs H Q
theorem D5{ds:List ah}(h:cF 8 (.tuple ds)){d:ah}(hd:d∈ds):cF 8 d:=((cF.cg (n:=7) h) d hd).le ay
theorem SN{ds:List ah}(h:oZ (.tuple ds)=true){d:ah}(hd:d∈ds):fK d=true:=fh.mp (show ds.all fK=true from h) d hd
abbrev BL:Stmt:=top 31
theorem JF:bc ["machine","thing","word","steps","speed","value"] ["machine","thing"] (aM BL):=bp aI
theorem WO(F:FA K mg "is_item" BL)(B:bu mg)(Ey:GV mg "GREATEST_SPEED" (.int 20))(gU:aD P w K mg ao "is_whole_within" 2 (kT K))(a0T:aD P w K mg ao "are_steps" 3 (HJ K))(a0j:aD P w K mg ao "is_short_item" 3 (HL K)):aD P w K mg ao "is_item" 4 (xo K):=by
 refine F.has JF (λvs H Q E h=>?_) (λ_ _ _ _ _ _=>dj λ_ _=>rfl) (λf aF A outer s H vs Q E hr h=>?_)
 ·obtain⟨m,v,rs,es,d,rfl,_⟩:=h
  rfl
 ·obtain⟨m,v,rs,es,d,rfl,rm,rd,l3,pE,sh,k⟩:=h
  have nd:=JF.nd;refine⟨_,(aE (bB (df (cC (lj K B (ak (pv 1) (ak (ki (x:="tuple") (v:=.ty "tuple") Z (B.at "tuple") gJ rfl) aw))))) (aH (aQ gB)) bD) (aE (bB (bI (dv K Z hr.units) (eF K B (ak (pv 1) aw)) aB (bC _)) (aE (eD (pv 1) (dW K Z (n:=3) Z (bP (ba 2 nd) (bP (ba 3 nd) (bP (ba 4 nd) dU))))) (aH (aQ (qS (jE (dv K Z hr.units) (pv 2) bq (bC _)) (qS (pf a0T hr (ak (pv 0) (ak (pv 3) aw))) (qQ (pf gU hr (ak (pv 4) (ak aB (ak (cD (x:="GREATEST_SPEED") Z Ey) aw)))))))))) bD) (aE (bB (bI (dv K Z hr.units) (eF K B (ak (pv 1) aw)) aB (bC _)) (aE (eD (pv 1) (dW K Z (n:=2) Z (bP (ba 2 nd) (bP (ba 5 nd) dU)))) (aH (aQ (pf a0j hr (ak (pv 2) (ak (pv 5) aw)))))) bD) (aH (aQ gB))))),?_⟩;rcases item_cases rs.length d with⟨wd,a,b,rfl⟩|⟨wd,a,rfl⟩|⟨ds,rfl,h3,h2,hf⟩|⟨ht,hf⟩
  ·refine⟨_,Z,.inl ⟨_,_,"tuple",true,Z,rd.ty,ay,nk,_,Z,aZ ?_⟩⟩
   obtain⟨p,xs,rfl,hx,hd⟩:=rd.cg;obtain⟨u1,ys,rfl,r1,hd⟩:=hd.cons_inv;obtain⟨u2,ys,rfl,r2,hd⟩:=hd.cons_inv;obtain⟨u3,ys,rfl,r3,hd⟩:=hd.cons_inv;cases hd.nil_inv;have k:∀H',az H H'->Q (.bl (fw "line" wd&&(ml rs.length a&&cw 1 20 b))) H':=k;refine⟨_,Z,p,_,Z,.inr hx,.inl ⟨_,_,Z,Z,_,Z,bE ?_⟩⟩;refine⟨_,Z,p,_,Z,hx,Z,_,_,Z,_,_,Z,_,_,Z,Z,?_⟩;refine⟨_,Z,.inr ⟨_,_,r1,bO _,tW (D5 pE (by simp)),aI,_,Z,?_⟩⟩;rw[yX];cases e1:fw "line" wd with |false=>rw[e1,gf]at k;exact aZ (k H (az.refl _)) |true=>rw[e1,gc]at k;refine bE ⟨_,Z,_,Z,_,_,rs,es,a,Z,rm,r2,l3,λH1 s1=>⟨_,Z,?_⟩⟩;cases e2:ml rs.length a with |false=>rw[e2,gf]at k;exact aZ (k H1 s1) |true=>rw[e2,gc]at k;exact bE ⟨_,Z,_,b,1,20,Z,RD.mono s1 _ r3,k H1 s1⟩
  ·refine⟨_,Z,.inl ⟨_,_,"tuple",true,Z,rd.ty,ay,nk,_,Z,aZ ?_⟩⟩
   obtain⟨p,xs,rfl,hx,hd⟩:=rd.cg;obtain⟨u1,ys,rfl,r1,hd⟩:=hd.cons_inv;obtain⟨u2,ys,rfl,r2,hd⟩:=hd.cons_inv;cases hd.nil_inv;have k:∀H',az H H'->Q (.bl (mC wd a)) H':=k;refine⟨_,Z,p,_,Z,.inr hx,.inl ⟨_,_,Z,Z,_,Z,aZ ?_⟩⟩;refine⟨_,Z,p,_,Z,.inr hx,.inl ⟨_,_,Z,Z,_,Z,bE ?_⟩⟩;refine⟨_,Z,p,_,Z,hx,Z,_,_,Z,_,_,Z,Z,?_⟩;exact⟨_,Z,_,Z,_,_,wd,a,Z,r1,r2,D5 pE (by simp),D5 pE (by simp),SN sh (by simp),k⟩
  ·rw[hf]at k
   refine⟨_,Z,.inl ⟨_,_,"tuple",true,Z,rd.ty,ay,nk,_,Z,aZ ?_⟩⟩;obtain⟨p,xs,rfl,hx,hd⟩:=rd.cg;have hl:=hd.length;refine⟨_,Z,p,_,Z,.inr hx,.inl ⟨_,_,Z,Z,_,Z,?_⟩⟩;rw[show decide ((xs.length:Int)=3)=false from dM au];refine aZ ⟨_,Z,p,_,Z,.inr hx,.inl ⟨_,_,Z,Z,_,Z,?_⟩⟩;rw[show decide ((xs.length:Int)=2)=false from dM au];exact aZ (k H (az.refl _))
  ·rw[hf]at k
   refine⟨_,Z,.inl ⟨_,_,"tuple",false,Z,rd.ty,ay,ht,_,Z,bE ?_⟩⟩;exact k H (az.refl _)
def yi(rs:List Int):ah->Bool | .tuple es=>es.length==rs.length&&((es.zip rs).map λp=>cw 0 p.2 p.1).all id |_=>false
inductive a72(K:aa)(vs:List V)(H:Hp)(Q:VK):Prop |mk (m:V)(v:V)(rs:List Int)(ds:List ah)(d:ah)(h0:vs=[m,v])(h1:RD K H m (.tuple (.tuple (rs.map PyData.int)::ds)))(h2:RD K H v d)(h3:rs.length<=3)(h4:∀H',az H H'->Q (.bl (yi rs d)) H')
def tR(K:aa):Sp:=λvs H Q _=>a72 K vs H Q
theorem zip_get{es:List ah}{rs:List Int}{i:Nat}{b:Bool}(h:((es.zip rs).map λp=>cw 0 p.2 p.1)[i]? =some b):∃e r,es[i]? =some e/\rs[i]? =some r/\cw 0 r e=b:=by rw[bK]at h;cases q:(es.zip rs)[i]? with |none=>rw[q]at h;cases h |some p=>rw[q]at h;obtain⟨e1,e2⟩:=oF.mp q;exact⟨p.1,p.2,e1,e2,cW h⟩
theorem ints_get{rs:List Int}{i:Nat}{r:Int}(h:rs[i]? =some r):(rs.map V.int)[i]? =some (.int r):=by rw[bK,h];rfl
abbrev BI:Stmt:=top 22
theorem JC:bc ["machine","thing","rails"] ["machine","thing"] (aM BI):=bp aI
theorem WL(F:FA K mg "is_place" BI)(B:bu mg)(gU:aD P w K mg ao "is_whole_within" 2 (kT K)):aD P w K mg ao "is_place" 3 (tR K):=by
 refine F.has JC (λvs H Q E h=>?_) (λ_ _ _ _ _ _=>dj λ_ _=>rfl) (λf aF A outer s H vs Q E hr h=>?_)
 ·obtain⟨m,v,rs,ds,d,rfl,_⟩:=h
  rfl
 ·obtain⟨m,v,rs,ds,d,rfl,rm,rd,l3,k⟩:=h
  have nd:=JC.nd;refine⟨_,(aE (pS 2 nd (px K (pv 0) aB)) (aE (bB (PW.pt (iq (df (cC (lj K B (ak (pv 1) (ak (ki (x:="tuple") (v:=.ty "tuple") Z (B.at "tuple") gJ rfl) aw))))) (ip (bI (mr K rfl hr.units) (eF K B (ak (pv 1) aw)) (eF K B (ak (pv 2) aw)) (bC _))))) (aH (aQ gB)) bD) (aH (aQ (ck (x:="all") (qj K Z Z) Z (B.at "all") sZ (ak (dD (N:=["number","rail"]) (js:=[none,none]) rfl rfl rfl (kZ K rfl false false rfl (B.at "zip") (ak (pv 1) (ak (pv 2) aw))) (λ_ _ _ _ _=>(dW K rfl (n:=2) rfl (bP (ba 0 (gm ay)) (bP (ba 1 (gm ay)) dU)))) (λ_ _ _ _ _=>cX) (λ_ _ _ _ _=>(pf gU hr (ak (pv 0) (ak aB (ak (pv 1) aw)))))) aw)))))),?_⟩;obtain⟨am,xm,rfl,hm,hdm⟩:=rm.cg;obtain⟨yr,ym,rfl,r1,a98⟩:=hdm.cons_inv;obtain⟨ar,xr,rfl,yu,hdr⟩:=r1.cg;cases hdr.eO;refine⟨_,Z,.inr ⟨am,_,0,_,Z,Z,hm,cN (fH 0) Z,?_⟩⟩;rcases tK d with⟨es,rfl⟩|⟨ht,hn⟩
  ·refine⟨_,Z,.inl ⟨_,_,"tuple",true,Z,rd.ty,ay,nk,_,Z,aZ ?_⟩⟩
   obtain⟨av,xs,rfl,hx,hd⟩:=rd.cg;have hl:=hd.length;refine⟨_,Z,av,_,Z,.inr hx,_,Z,ar,_,Z,.inr yu,.inl ⟨_,_,Z,Z,_,Z,?_⟩⟩;have k:∀H',az H H'->Q (.bl (es.length==rs.length&&((es.zip rs).map λp=>cw 0 p.2 p.1).all id)) H':=k;have e0:(decide ((xs.length:Int)=((rs.map V.int).length:Int)))=(es.length==rs.length):=by rw[hl,bA,jh];simp;lia
   rw[e0];cases e:(es.length==rs.length)with |false=>rw[e,gf]at k;exact bE (k H (az.refl _)) |true=>
    rw[e,gc]at k;refine aZ ?_;have el:es.length=rs.length:=dr.mp e;refine⟨_,Z,_,Z,av,ar,Z,⟨_,hx⟩,⟨_,yu⟩,λD H0 nw=>?_⟩;refine Ot (b1:=false) (b2:=false) (xs:=xs) (ys:=rs.map V.int) (bs:=(es.zip rs).map λp=>cw 0 p.2 p.1) [] rfl hx yu nw (by rw[bA,bA,List.length_zip,hl]) (by rw[bA,List.length_zip];lia) ?_ ?_
    ·intro i x y b H2 Q' ex ey eb s2 hq
     obtain⟨e',r,ee,er,rfl⟩:=zip_get eb;obtain⟨x',iG,rx⟩:=hd.get i ee;rw[ex]at iG;cases iG;rw[ints_get er]at ey;cases ey;exact⟨_,Z,_,Z,_,e',0,r,Z,RD.mono s2 _ rx,hq _ (az.refl _)⟩
    ·intro H2 s2 d2
     exact⟨D,_,Z,aG.of d2,k H2 s2⟩
  ·have e:yi rs d=false:=by cases d<;>first|rfl|exact absurd rfl (hn _)
   rw[e]at k;refine⟨_,Z,.inl ⟨_,_,"tuple",false,Z,rd.ty,ay,ht,_,Z,bE ?_⟩⟩;exact k H (az.refl _)
inductive a6M(K:aa)(vs:List V)(H:Hp)(Q:VK):Prop |mk (pw:_)(b:_)(pl:_)(ns:_)(h0:vs=[pw,.ref b])(h1:RD K H pw (cM pl))(h2:aP K H b (ns.map V.int))(h3:ns.length=pl.length)(h4:pl.length<=1000)(h5:∀v' H',RD K H' v' (cM (ja pl ns))->az H H'->Q v' H')
def xk(K:aa):Sp:=λvs H Q _=>a6M K vs H Q
abbrev Bm:Stmt:=top 34
theorem Jh:bc ["place","steps"] ["place","steps"] (aM Bm):=bp aI
theorem Wn(F:FA K mg "moved" Bm)(B:bu mg):aD P w K mg ao "moved" 1 (xk K):=by
 refine F.has Jh (λvs H Q E h=>?_) (λ_ _ _ _ _ _=>dj λ_ _=>rfl) (λf aF A outer s H vs Q E hr h=>?_)
 ·obtain⟨pw,b,pl,ns,rfl,_⟩:=h
  rfl
 ·obtain⟨pw,b,pl,ns,rfl,rp,hb,ln,hz,k⟩:=h
  have nd:=Jh.nd;refine⟨_,(aH (aQ (cT (x:="tuple") (ji K Z) Z (B.at "tuple") gJ (ak (dD (N:=["number","step"]) (js:=[none,none]) rfl rfl rfl (kZ K rfl false false rfl (B.at "zip") (ak (pv 0) (ak (pv 1) aw))) (λ_ _ _ _ _=>(dW K rfl (n:=2) rfl (bP (ba 0 (gm ay)) (bP (ba 1 (gm ay)) dU)))) (λ_ _ _ _ _=>cX) (λ_ _ _ _ _=>(aK dg (pv 0) (pv 1)))) aw)))),?_⟩;obtain⟨pa,rfl,hp⟩:=UQ rp;refine⟨_,Z,_,Z,pa,b,Z,⟨_,hp⟩,⟨_,hb⟩,λD H1 n1=>?_⟩;refine qe (K:=K) (b1:=false) (b2:=false) (xs:=pl.map V.int) (ys:=ns.map V.int) (ds:=(ja pl ns).map PyData.int) [] rfl hp hb n1 (by simp[zA ln,ln]) (by rw[bA,zA ln];exact hz) (kr _) ?_ ?_
  ·intro i x y d H2 Q' ex ey ed s2 hq
   obtain⟨m,em,rfl⟩:=kv ed;rw[bK]at ex ey;cases e1:pl[i]? with |none=>rw[e1]at ex;cases ex |some u=>cases e2:ns[i]? with |none=>rw[e2]at ey;cases ey |some v=>rw[e1]at ex;rw[e2]at ey;cases ex;cases ey;rw[a5C e1 e2]at em;cases em;exact⟨_,Z,_,Z,_,_,Z,Z,hq _ _ (az.refl _) (eu _)⟩
  ·intro H2 zs s2 d2 r2
   refine⟨D,_,Z,.inl ⟨aG.of d2,λt H3 n3=>?_⟩⟩;have et:=n3.at';rw[r2.eO]at et;exact k (.ref t) H3 (Kz (aP.of et)) (s2.trans n3.same)
inductive a7g(K:aa)(vs:List V)(H:Hp)(Q:VK):Prop |mk (pw:_)(iv:_)(pl:_)(d:_)(o:_)(h0:vs=[pw,iv])(h1:RD K H pw (cM pl))(h2:RD K H iv d)(h3:itR d o)(h4:(∀ns sp,o=some (ns,sp)->ns.length=pl.length))(h5:pl.length<=1000)(h6:∀v' H',RD K H' v' (cM (dF pl o))->az H H'->Q v' H')
def oU(K:aa):Sp:=λvs H Q _=>a7g K vs H Q
abbrev BW:Stmt:=top 33
theorem JQ:bc ["place","item"] ["place","item"] (aM BW):=bp aI
theorem X0(F:FA K mg "place_behind" BW)(B:bu mg)(lG:aD P w K mg ao "is_line" 1 (qK K))(Ee:aD P w K mg ao "moved" 1 (xk K)):aD P w K mg ao "place_behind" 2 (oU K):=by
 refine F.has JQ (λvs H Q E h=>?_) (λ_ _ _ _ _ _=>dj λ_ _=>rfl) (λf aF A outer s H vs Q E hr h=>?_)
 ·obtain⟨pw,iv,pl,d,o,rfl,_⟩:=h
  rfl
 ·obtain⟨pw,iv,pl,d,o,rfl,rp,ri,it,hl,hz,k⟩:=h
  have nd:=JQ.nd;refine⟨_,(aH (aQ (gM (cC (pf lG hr (ak (pv 1) aw))) (pf Ee hr (ak (pv 0) (ak (px K (pv 1) aB) aw))) (pv 0)))),?_⟩;refine⟨_,Z,iv,d,o,Z,ri,it,_,Z,?_⟩;cases o with |some q=>obtain⟨ns,sp⟩:=q;refine bE ?_;have ed:=jr it;subst ed;obtain⟨a,b,rfl,ha,hb⟩:=lB ri;exact⟨_,Z,_,Z,.inr ⟨a,_,1,.ref b,Z,Z,ha,Z,pw,b,pl,ns,Z,rp,hb,hl ns sp Z,hz,λv' H' r s=>k v' H' r s⟩⟩ |none=>refine aZ ?_;exact⟨_,Z,k pw H rp (az.refl _)⟩
end
end _c
namespace _c
open PySem PySem.Spec PyProof.Rows _L _l _W
open _T (numS numIn? figs isFig Free)
section
variable {P:af}{w:World}{K:aa}{mg:bf}{ao:Heap}
def oV:Option Int->V |some i=>.int i |none=>.aY
def oD:Option Int->ah |some i=>.int i |none=>.none
def sj:Str:="0123456789"
theorem a2W:∀c<128,decide (c∈sj.cps.toList)=isFig c:=by decide+kernel
theorem a2Y:∀c∈sj.cps.toList,c<128:=by decide+kernel
theorem a2X(c:Nat):decide (c∈sj.cps.toList)=isFig c:=by
 by_cases h:c<128
 ·exact a2W c h
 ·rw[dM (λhc=>h (a2Y c hc)),isFig,dM (show¬c<=57 by omega),wI]
inductive a6o(vs:List V)(H:Hp)(Q:VK):Prop |mk (y:Str)(h0:vs=[.str y])(h1:PySem.NumText.AllDigits y.cps.toList)(h2:y.length<=640)(h3:Q (.int ((PySem.NumText.digitsVal y.cps.toList:Nat):Int)) H)
def HK:Sp:=λvs H Q _=>a6o vs H Q
abbrev AL:Stmt:=top 89
theorem IM:bc ["figures","size","figure"] ["figures"] (aM AL):=bp aI
theorem VN(F:FA K mg "size_of" AL)(B:bu mg):aD P w K mg ao "size_of" 1 HK:=by
 refine F.has IM (λvs H Q E h=>?_) (λ_ _ _ _ _ _=>cE λ_=>rfl) (λf aF A outer s H vs Q E hr h=>?_)
 ·obtain⟨y,rfl,_⟩:=h
  rfl
 ·obtain⟨y,rfl,hd,hl,k⟩:=h
  have nd:=IM.nd;refine⟨_,(aE (pS 1 nd aB) (aE (kg je Z (CM (pv 0)) (ba 2 nd) (aH (pS 1 nd (aK dg (aK bV aB (pv 1)) (cT (x:="int") a54 Z (B.at "int") PyProof.Rows.boot_int (ak (pv 2) aw)))))) (aH (aQ (pv 1))))),?_⟩;have hsz:y.cps.size=y.cps.toList.length:=jU.symm;have oK:Wd (10:Int):=by show(10:Nat)<2^5000;decide+kernel
  refine⟨_,Z,y,Z,?_⟩;refine a2H (Pv:=λi O H'=>H'=H/\∃v2,O=[some (.str y),some (.int ((PySem.NumText.digitsVal (y.cps.toList.take i):Nat):Int)),v2]) ?_ ?_ ?_
  ·exact⟨Z,_,Z⟩
  ·rintro i c O H2 hc ⟨rfl,v2,rfl⟩
   obtain⟨c1,c2⟩:=hd c (fg hc);have hi:i<640:=by have:=(dN.mp hc).1;have e:y.length=y.cps.size:=rfl;omega
   have wv:Wd ((PySem.NumText.digitsVal (y.cps.toList.take i):Nat):Int):=by show Int.natAbs _<2^5000;rw[Qq];exact lU (fb (_N.O4 hd i) (t7 ay (A0 hi))) aI
   have ei:=_N.QY c1 c2;refine⟨_,Z,_,_,Z,Z,oH oK.bits wv.bits,_,Z,⟨_,_,Z,ei,by show 1<=640;decide,_,_,Z,Z,?_⟩⟩;refine⟨Z,some (.str ⟨#[c]⟩),?_⟩;rw[_N.O3 hc];show[some (.str y),some (V.int (10*_+_)),_]=_;rw[Int.natCast_add,Int.natCast_mul,Int.mul_comm];rfl
  ·rintro O H2 ⟨rfl,v2,rfl⟩
   refine⟨_,Z,?_⟩;rw[hsz,wy];exact k
inductive a6J(vs:List V)(H:Hp)(Q:VK):Prop |mk (z:Str)(h0:vs=[.str z])(h1:z.length<=640)(h2:∀H',az H H'->Q (oV (numIn? z)) H')
def xj:Sp:=λvs H Q _=>a6J vs H Q
abbrev Bl:Stmt:=top 88
theorem Jg:bc ["word","figures","size"] ["word"] (aM Bl):=bp aI
theorem Wj(F:FA K mg "number_in" Bl)(B:bu mg)(a1r:GV mg "FIGURES" (.str sj))(ZG:aD P w K mg ao "size_of" 1 HK):aD P w K mg ao "number_in" 2 xj:=by
 refine F.has Jg (λvs H Q E h=>?_) (λ_ _ _ _ _ _=>cE λ_=>rfl) (λf aF A outer s H vs Q E hr h=>?_)
 ·obtain⟨z,rfl,_⟩:=h
  rfl
 ·obtain⟨z,rfl,hl,k⟩:=h
  have nd:=Jg.nd;have j4:sizeLine=16777216:=by decide
  refine⟨_,(aE (pS 1 nd (Vf K Z (pv 0) (ak bq aw))) (aE (bB (PW.pt (iq (bI qW (pv 1) bq (bC _)) (ip (df (cC (ck (x:="all") (qj K Z Z) Z (B.at "all") sZ (ak (dD (N:=["sign"]) (js:=[none]) rfl rfl rfl (CM (pv 1)) (λ_ _ _ _ _=>(ba 0 (gD _))) (λ_ _ _ _ _=>cX) (λ_ _ _ _ _=>(jE L6 (pv 0) (cD (x:="FIGURES") rfl a1r) (by with_unfolding_all rfl)))) aw))))))) (aH (aQ gj)) bD) (aE (bB (PW.pt (CH (bI qW (CO Mb (pv 1) aB (λ_ _=>rfl)) bq (bC _)) (CG (bI md (pv 0) bq (bC _))))) (aH (aQ gj)) bD) (aE (pS 2 nd (pf ZG hr (ak (pv 1) aw))) (aH (aQ (gM (cC (Ve K Z (pv 0) (ak bq aw))) (kh jV (pv 2)) (pv 2)))))))),?_⟩;refine⟨_,Z,Z,z,"-",Z,Z,bo,?_⟩;have ef:=_T.TZ z;generalize hz:Txt.removeprefix z "-"=y at ef;unfold numIn? at k;rw[<-ef]at k;have hly:y.length<=z.length:=by
   have e1:y.cps.toList.length=(figs z).length:=by rw[ef]
   have e2:(figs z).length<=z.cps.toList.length:=by
    unfold figs;split
    ·rename_i h;rw[h];simp
    ·rename_i h _;exact bj _
   simpa[Str.length]using fc (Nat.le_of_eq e1) e2
  refine⟨_,Z,Z,_,Z,?_⟩;refine dZ (λh0=>?_) (λh0=>?_)
  ·have hy:y="":=by simpa using h0
   rw[hy]at k;exact bE (k H (az.refl _))
  ·have hy:y≠"":=by simpa using h0
   have cm:y.cps.toList≠[]:=λe=>hy (_T.vB (by rw[e];rfl));have he:y.cps.toList.isEmpty=false:=by cases h:y.cps.toList with|nil=>exact(cm h).elim|cons=>rfl
   rw[he,Bool.false_or]at k;refine⟨_,Z,y,Z,λD H0 nw=>?_⟩;refine Ou (f:=isFig) [] nw bo (λc H2 Q' hc s2 hq=>?_) (λH2 s2 d2=>?_)
   ·refine⟨_,Z,c,sj,Z,Z,?_⟩
    rw[a2X];exact hq _ (az.refl _)
   ·refine⟨D,_,Z,aG.of d2,?_⟩
    rw[P2];refine⟨_,Z,?_⟩;cases hf:y.cps.toList.all isFig with |false=>rw[hf]at k;exact bE (k H2 s2) |true=>rw[hf]at k;refine aZ ?_;obtain⟨n,hn⟩:=_T.Zd (z:=z) (by rw[<-ef];exact cm) (by rw[<-ef];exact hf) bo;rw[hn]at k;have nv:=_N.Xk ef (by rw[<-ef];exact cm) (by rw[<-ef];exact hf) bo hn;cases hc:y.cps.toList with |nil=>exact(cm hc).elim |cons c r=>
     refine⟨_,Z,y,0,c,Z,Z,bo,cN (fH 0) (by rw[hc];rfl),Z,_,Z,?_⟩;have e0:decide (y.cps.toList[0]? =some 48)=decide (V.str ⟨#[c]⟩=V.str "0"):=by
      rw[hc,jh];simp only[wc];refine⟨λh=>?_,λh=>?_⟩
      ·have h:c=48:=by simpa using h
       rw[h];decide+kernel
      ·have h:(⟨#[c]⟩:Str)="0":=by simpa using h
       have h2:[c]=[48]:=(jT (λz:Str=>z.cps.toList) h).trans aI;simpa using h2
     rw[e0]at k;have e1:(!decide (z="0"))= !decide (V.str z=V.str "0"):=by simp
     rw[e1]at k;cases h1:decide (V.str ⟨#[c]⟩=V.str "0")with
     |true=>rw[h1,gc]at k;refine bE ⟨_,Z,Z,_,Z,?_⟩;cases h2: !decide (V.str z=V.str "0")with |true=>rw[h2]at k;exact bE (k H2 s2) |false=>rw[h2]at k;refine aZ ⟨_,Z,y,Z,_T.si hf,bo,?_⟩;have fin:=k H2 s2;refine⟨_,Z,Z,z,"-",Z,Z,?_⟩;refine⟨_,Z,?_⟩;cases hs:Txt.startswith z "-" with |true=>rw[nv,aR hs]at fin;exact bE ⟨_,Z,_,Z,fin⟩ |false=>rw[nv,aU (by rw[hs];decide)]at fin;exact aZ ⟨_,Z,fin⟩
     |false=>rw[h1,gf]at k;refine aZ ⟨_,Z,y,Z,_T.si hf,bo,?_⟩;have fin:=k H2 s2;refine⟨_,Z,Z,z,"-",Z,Z,?_⟩;refine⟨_,Z,?_⟩;cases hs:Txt.startswith z "-" with |true=>rw[nv,aR hs]at fin;exact bE ⟨_,Z,_,Z,fin⟩ |false=>rw[nv,aU (by rw[hs];decide)]at fin;exact aZ ⟨_,Z,fin⟩
inductive a6G(K:aa)(vs:List V)(H:Hp)(Q:VK):Prop |mk (l:Addr)(zs:List Str)(h0:vs=[.ref l])(h1:aG K H l (zs.map V.str))(h2:zs.length<=1000)(h3:(∀z∈zs,z.length<=640))(h4:∀p H',az H H'->H p=none->H' p=some (.lst (zs.map λz=>oV (numIn? z)))->Q (.ref p) H')
def xi(K:aa):Sp:=λvs H Q _=>a6G K vs H Q
theorem xS{H:Hp}(o:Option Int):RD K H (oV o) (oD o):=by cases o with |none=>exact qM |some i=>exact eu _
theorem Xg{H:Hp}{v:V}{o:Option Int}(h:RD K H v (oD o)):v=oV o:=by cases o with |none=>exact h.Dh |some i=>exact h.int_inv
theorem Li{H:Hp}:∀{xs:List V}{zs:List Str},aJ K H xs (zs.map λz=>oD (numIn? z))->xs=zs.map λz=>oV (numIn? z) |xs,[],h=>h.nil_inv |xs,n::ns,h=>by obtain⟨y,ys,rfl,h1,h2⟩:=h.cons_inv;rw[Xg h1,Li h2];rfl
theorem Xh(zs:List Str):cy (zs.map λz=>oD (numIn? z))=true:=gP.mpr λd hd=>by obtain⟨z,_,rfl⟩:=cH.mp hd;cases numIn? z<;>rfl
abbrev Bi:Stmt:=top 87
theorem Jd:bc ["words"] ["words"] (aM Bi):=bp aI
theorem Wi(F:FA K mg "numbers_in" Bi)(B:bu mg)(Ec:aD P w K mg ao "number_in" 2 xj):aD P w K mg ao "numbers_in" 3 (xi K):=by
 refine F.has Jd (λvs H Q E h=>?_) (λ_ _ _ _ _ _=>cE λ_=>rfl) (λf aF A outer s H vs Q E hr h=>?_)
 ·obtain⟨l,zs,rfl,_⟩:=h
  rfl
 ·obtain⟨l,zs,rfl,hl,hn,hz,k⟩:=h
  have nd:=Jd.nd;refine⟨_,(aH (aQ (dD (N:=["word"]) (js:=[none]) Z Z Z (pk K Z (pv 0)) (λ_ _ _ _ _=>(ba 0 (gD _))) (λ_ _ _ _ _=>cX) (λ_ _ _ _ _=>(pf Ec hr (ak (pv 0) aw)))))),?_⟩;refine⟨_,Z,l,Z,⟨_,hl⟩,λD H1 n1=>?_⟩;refine vD (K:=K) (ds:=zs.map λz=>oD (numIn? z)) _ hl n1 (by simp) (by simp;omega) (Xh _) ?_ ?_
  ·intro i x d H2 Q' ex ed s2 hq
   rw[bK]at ex ed;obtain⟨z,ez,rfl⟩:=wu.mp ex;rw[ez]at ed;cases ed;exact⟨_,Z,z,Z,hz z (fg ez),λH3 s3=>hq _ _ s3 (xS _)⟩
  ·intro H2 ys s2 d2 r2
   rw[Li r2]at d2;exact k D H2 s2 n1.no d2
def qm(z:Str):Prop:=∀c∈z.cps.toList,c<0x110000
theorem D3{n:Nat}{z:Str}(h:qm z):cF n (.str z):=⟨by show PyData.strOk z=true;unfold PyData.strOk;rw[Qx];exact λc hc=>bR (h c (by simpa using hc)),dS _⟩
theorem MT{c x:Nat}:∀{as:List (List Nat)}{a:List Nat},a∈as->x∈a->x∈_T.gl c as
 |[],a,h,_=>nomatch h |[b],a,h,hx=>by rw[cS.mp h]at hx;exact hx |b::d::r,a,h,hx=>by
  show x∈b++c::_T.gl c (d::r);rcases bS.mp h with rfl|h
  ·exact Gq _ hx
  ·exact jf _ (.tail _ (MT h hx))
theorem MU{c:Nat}:∀{as:List (List Nat)}{a:List Nat},a∈as->a.length<=(_T.gl c as).length
 |[],a,h=>nomatch h |[b],a,h=>by rw[cS.mp h];exact bj _ |b::d::r,a,h=>by
  show a.length<=(b++c::_T.gl c (d::r)).length;rw[fQ,gb];rcases bS.mp h with rfl|h
  ·omega
  ·have:=MU (c:=c) h;omega
theorem HD(z:Str)(c:Nat):_T.gl c ((Txt.split z ⟨#[c]⟩).map λy=>y.cps.toList)=z.cps.toList:=by rw[<-_T.ES,StrLaws.join_split]
theorem Sw{z y:Str}{c:Nat}(h:qm z)(hy:y∈Txt.split z ⟨#[c]⟩):qm y:=λx hx=>h x (by rw[<-HD z c];exact MT (cH.mpr ⟨y,hy,Z⟩) hx)
theorem split_le{z y:Str}{c:Nat}(hy:y∈Txt.split z ⟨#[c]⟩):y.length<=z.length:=by have:=MU (c:=c) (cH.mpr ⟨y,hy,Z⟩:y.cps.toList∈(Txt.split z ⟨#[c]⟩).map λy=>y.cps.toList);rw[HD]at this;simpa[Str.length]using this
theorem oT:(" ":Str)=⟨#[32]⟩:=by decide+kernel
def nI (z:Str):ah:=oD (numIn? z)
def fo:List Str->ah |[]=>.none |w::rest=>if w="line" then(match rest with |[]=>.none |r::rs=>.tuple [.str w,.tuple (((r::rs).map nI).take rs.length),((r::rs).map nI).getLastD .none]) else match rest with |[r]=>.tuple [.str w,if w="wait" then nI r else .str r] |_=>.none
def rJ(n:Nat)(z:Str):ah:=bif iB n (fo (Txt.split z " "))then fo (Txt.split z " ")else .none
theorem Lh{H:Hp}:∀(zs:List Str),aJ K H (zs.map λz=>oV (numIn? z)) (zs.map nI) |[]=>by simp[aJ] |z::zs=>by rw[qD,qD,aJ];exact⟨_,_,Z,xS _,Lh zs⟩
theorem p9{H:Hp}{x:V}{xs:List V}{d:ah}{ds:List ah}(h:RD K H x d)(r:aJ K H xs ds):aJ K H (x::xs) (d::ds):=by rw[aJ];exact⟨_,_,Z,h,r⟩
theorem Co{H:Hp}:aJ K H [] []:=by simp[aJ]
theorem Dn{n:Nat}(z:Str):cF n (nI z):=by unfold nI;cases numIn? z with |none=>exact .aY |some i=>exact .int i
theorem LG(z:Str):fK (nI z)=true:=by unfold nI;cases numIn? z<;>rfl
theorem Hf:fo ["line"]= .none:=by unfold fo;dsimp only;rw[aR rfl]
theorem Af{r:Str}{rs:List Str}:fo ("line"::r::rs)= .tuple [.str "line",.tuple (((r::rs).map nI).take rs.length),((r::rs).map nI).getLastD .none]:=by unfold fo;dsimp only;rw[aR rfl]
theorem wZ{w r:Str}(h:w≠"line"):fo [w,r]= .tuple [.str w,if w="wait" then nI r else .str r]:=by unfold fo;dsimp only;rw[aU h]
theorem Ae{w:Str}{ws:List Str}(h:w≠"line")(hl:ws.length≠1):fo (w::ws)= .none:=by
 unfold fo;dsimp only;rw[aU h];split
 ·exact(hl Z).elim
 ·rfl
theorem Ro{ws:List Str}(h:∀w∈ws,qm w/\w.length<=640):cF 8 (fo ws)/\oZ (fo ws)=true:=by cases ws with |nil=>exact⟨.aY,Z⟩ |cons w rest=>
 obtain⟨hw,hl⟩:=h w (.head _);have sw:fK (.str w)=true:=bR bo;by_cases hx:w="line"
 ·subst hx
  cases rest with |nil=>rw[Hf];exact⟨.aY,Z⟩ |cons r rs=>
   rw[Af];have hm:∀d∈(r::rs).map nI,cF 0 d:=λd hd=>by obtain⟨z,_,rfl⟩:=cH.mp hd;exact Dn z
   have MB:cF 0 (((r::rs).map nI).getLastD .none)/\fK (((r::rs).map nI).getLastD .none)=true:=by rw[Qh];cases e:((r::rs).map nI).getLast? with |none=>exact⟨.aY,Z⟩ |some d=>obtain⟨z,_,rfl⟩:=cH.mp (List.mem_of_getLast? e);exact⟨Dn z,LG z⟩
   have hs:fZ 2 [.str "line",.tuple (((r::rs).map nI).take rs.length),((r::rs).map nI).getLastD .none]:=λd hd=>by
    simp only[bS,eS,jR]at hd;rcases hd with rfl|rfl|rfl
    ·exact D3 hw
    ·exact(fZ.tup (n:=0) λd hd=>hm d (A2 hd)).le ay
    ·exact MB.1.le ay
   refine⟨hs.tup.le ay,?_⟩;show[_,_,_].all fK=true;simp only[tw,Gx,GF,sw,MB.2];rfl
 ·match rest,h with
  |[],_=>rw[Ae hx (by simp)];exact⟨.aY,Z⟩ |[r],h=>
   rw[wZ hx];obtain⟨hr,hlr⟩:=h r (.tail _ (.head _));have hv:cF 0 (if w="wait" then nI r else .str r)/\fK (if w="wait" then nI r else .str r)=true:=by
    split
    ·exact⟨Dn r,LG r⟩
    ·exact⟨D3 hr,bR bo⟩
   have hs:fZ 1 [.str w,if w="wait" then nI r else .str r]:=λd hd=>by
    simp only[bS,eS,jR]at hd;rcases hd with rfl|rfl
    ·exact D3 hw
    ·exact hv.1.le ay
   refine⟨hs.tup.le ay,?_⟩;show[_,_].all fK=true;simp only[tw,Gx,GF,sw,hv.2] |_::_::_,_=>rw[Ae hx (by simp)];exact⟨.aY,Z⟩
inductive a6X(K:aa)(vs:List V)(H:Hp)(Q:VK):Prop |mk (m:V)(rs:List Int)(es:List ah)(z:Str)(h0:vs=[m,.str z])(h1:RD K H m (.tuple (.tuple (rs.map PyData.int)::es)))(h2:cy es=true)(h3:rs.length<=3)(h4:z.length<=600)(h5:qm z)(h6:∀v H',az H H'->RD K H' v (rJ rs.length z)->Q v H')
def Ax(K:aa):Sp:=λvs H Q _=>a6X K vs H Q
abbrev BD:Stmt:=top 86
theorem Jw:bc ["machine","row","word","rest","thing","numbers"] ["machine","row"] (aM BD):=bp aI
theorem WE(F:FA K mg "item_in" BD)(B:bu mg)(Ec:aD P w K mg ao "number_in" 2 xj)(Eb:aD P w K mg ao "numbers_in" 3 (xi K))(Ej:aD P w K mg ao "is_item" 4 (xo K)):aD P w K mg ao "item_in" 5 (Ax K):=by
 refine F.has Jw (λvs H Q E h=>?_) (λ_ _ _ _ _ _=>dj λ_ _=>rfl) (λf aF A outer s H vs Q E hr h=>?_)
 ·obtain⟨m,rs,es,z,rfl,_⟩:=h
  rfl
 ·obtain⟨m,rs,es,z,rfl,rm,ne,l3,hz,tz,k⟩:=h
  have nd:=Jw.nd;have j4:sizeLine=16777216:=by decide
  have pM:∀y∈Txt.split z " ",qm y/\y.length<=640:=λy hy=>by rw[oT]at hy;have:=split_le hy;exact⟨Sw tz hy,bo⟩
  have rO:=split_len z " ";refine⟨_,(aE (eD (CP K Z (pv 1) (ak bq aw)) (CN K Z Z (ba 2 nd) (ba 3 nd))) (aE (pS 4 nd gj) (aE (ke (bB (bI qW (pv 2) bq (bC _)) (aE (pS 5 nd (pf Eb hr (ak (pv 3) aw))) (aH (pS 4 nd (gM (xE K Z (pv 5)) (eE (ak (pv 2) (ak (cT (x:="tuple") (ji K Z) Z (B.at "tuple") gJ (ak (uk (tV K rfl) (pv 5) ui (uh (kh jV aB))) aw)) (ak (px K (pv 5) (kh jV aB)) aw)))) gj)))) (aH (bB (bI qW (eF K B (ak (pv 3) aw)) aB (bC _)) (aH (pS 4 nd (eE (ak (pv 2) (ak (gM (bI qW (pv 2) bq (bC _)) (pf Ec hr (ak (px K (pv 3) aB) aw)) (px K (pv 3) aB)) aw))))) bD)))) (aH (aQ (gM (cC (pf Ej hr (ak (pv 0) (ak (pv 4) aw)))) (pv 4) gj)))))),?_⟩;refine⟨_,Z,Z,z," ",Z,Z,aI,bo,λl H1 n1=>?_⟩;obtain⟨x,ws,ew⟩:∃x ws,Txt.split z " "=x::ws:=by cases e:Txt.split z " " with |nil=>exact(_T.HB _ _ e).elim |cons x ws=>exact⟨x,ws,Z⟩
  unfold rJ at k;rw[ew]at n1 pM rO k;rw[gb]at rO;refine⟨l,.str x,ws.map V.str,Z,aG.of n1.at',by rw[bA];omega,λp H2 n2=>?_⟩;have s2:=n1.same.trans n2.same;have yn:∀y∈ws,y.length<=640:=λy hy=>(pM y (.tail _ hy)).2;refine⟨λO H3=>∃t w5,O=[some m,some (.str z),some (.str x),some (.ref p),some t,w5]/\az H H3/\RD K H3 t (fo (x::ws)),?_,?_⟩
  ·refine⟨_,Z,Z,_,Z,?_⟩
   refine dZ (λh0=>?_) (λh0=>?_)
   ·have hx:x="line":=by simpa using h0
    subst hx;refine⟨_,Z,p,ws,Z,aG.of n2.at',bo,yn,λq H3 s3 nq e3=>?_⟩;refine⟨_,Z,!(ws.map λz=>oV (numIn? z)).isEmpty,.inl ⟨_,aG.of e3,Z⟩,?_⟩;cases ws with |nil=>refine aZ ⟨.aY,_,Z,s2.trans s3,?_⟩;rw[Hf];exact qM |cons r ub=>
     refine bE ⟨_,Z,?_⟩;refine⟨_,Z,1,Z,_,Z,q,_,Z,.inl ⟨aG.of e3,λq2 H4 n4=>?_⟩⟩;rw[Oj]at n4;have XO:=n4.at';refine⟨q2,_,Z,.inl ⟨aG.of XO,λq3 H5 n5=>?_⟩⟩;obtain⟨v,ev⟩:∃v,((r::ub).map λz=>oV (numIn? z)).getLast? =some v:=⟨_,Qi (by simp)⟩;have e5:=n5.same _ _ (n4.same _ _ e3);refine⟨_,Z,1,Z,.inl ⟨q,_,-1,v,Z,Z,aG.of e5,OW ev,?_⟩⟩;refine⟨by show 3<=sizeLine;omega,λq6 H6 n6=>?_⟩;have s6:=(((s2.trans s3).trans n4.same).trans n5.same).trans n6.same;refine⟨_,_,Z,s6,?_⟩;rw[Af];have el:((r::ub).map nI).getLastD .none=oD (numIn? ((r::ub).getLast (by simp))):=by rw[Qh,List.getLast?_map,Qi (by simp)];rfl
     have evv:v=oV (numIn? ((r::ub).getLast (by simp))):=by rw[List.getLast?_map,Qi (by simp)]at ev;exact(cW ev).symm
     refine eZ (aP.of n6.at') (p9 (bO _) (p9 ?_ (p9 ?_ Co)))
     ·refine eZ (aP.of (n6.same _ _ n5.at')) ?_
      rw[bA,gb,Nat.add_sub_cancel];exact(Lh (r::ub)).take _
     ·rw[el,evv];exact xS _
   ·have hx:x≠"line":=by simpa using h0
    refine⟨_,Z,p,_,Z,.inl (aG.of n2.at'),Z,_,Z,?_⟩;refine dZ (λh1=>?_) (λh1=>?_)
    ·have kD:ws.length=1:=by have h1:=jS h1;rw[bA]at h1;injection h1 with h1;omega
     match ws,kD,n2,yn,k with
     |[r],_,n2,yn,k=>
      refine⟨_,Z,_,Z,Z,_,Z,?_⟩;refine dZ (λh2=>?_) (λh2=>?_)
      ·have DV:x="wait":=by simpa using h2
       refine⟨_,Z,.inl ⟨p,_,0,.str r,Z,Z,aG.of n2.at',Z,?_⟩⟩;refine⟨r,Z,yn r (.head _),λH3 s3=>?_⟩;refine⟨by show 2<=sizeLine;omega,λq6 H6 n6=>?_⟩;refine⟨_,_,Z,(s2.trans s3).trans n6.same,?_⟩;rw[wZ hx,aR DV];exact eZ (aP.of n6.at') (p9 (bO _) (p9 (xS _) Co))
      ·have DV:x≠"wait":=by simpa using h2
       refine⟨_,Z,.inl ⟨p,_,0,.str r,Z,Z,aG.of n2.at',Z,?_⟩⟩;refine⟨by show 2<=sizeLine;omega,λq6 H6 n6=>?_⟩;refine⟨_,_,Z,s2.trans n6.same,?_⟩;rw[wZ hx,aU DV];exact eZ (aP.of n6.at') (p9 (bO _) (p9 (bO _) Co))
    ·have kD:ws.length≠1:=λe=>h1 (bR (by rw[bA,e];rfl))
     refine⟨.aY,_,Z,s2,?_⟩;rw[Ae hx kD];exact qM
  ·rintro O H3 ⟨t,w5,rfl,s3,rt⟩
   have ok:=Ro (ws:=x::ws) pM;refine⟨_,Z,_,Z,m,t,rs,es,fo (x::ws),Z,RD.mono s3 _ rm,rt,l3,ok.1,ok.2,λH4 s4=>⟨_,Z,?_⟩⟩;cases hi:iB rs.length (fo (x::ws))with |true=>rw[hi]at k;exact bE ⟨_,Z,k _ _ (s3.trans s4) (RD.mono s4 _ rt)⟩ |false=>rw[hi]at k;exact aZ (k _ _ (s3.trans s4) qM)
end
end _c
set_option maxHeartbeats 2000000
namespace _c
open PySem PySem.Spec PyProof.Rows _L _l _W
open _T (numS numIn? figs isFig Free)
section
variable {P:af}{w:World}{K:aa}{mg:bf}{ao:Heap}
def tF:ah->Str | .int i=>numS i | .str z=>z |_=>Str.empty
def jG(ns:List Int):Str:=Txt.join " " (ns.map numS)
def lJ(a b:Int):Str:=if b=1 then numS a else numS a++"/"++numS b
def cY:ah->Str | .tuple [.str _,.tuple xs,.int sp]=>"line "++Txt.join " " (xs.map tF)++" "++numS sp | .tuple [.str w,u]=>w++" "++tF u |_=>Str.empty
def Nm (i:Int):Prop:=i.natAbs<10^40
def mR(w:Str):Prop:=w="wait"\/w="tool"\/w="mark"
def vG(w:Str):Prop:=w="tool"\/w="mark"
theorem vG.ok{w:Str}(h:vG w):mR w:=.inr h
theorem vG.ne{w:Str}(h:vG w):decide (w="wait")=false:=by rcases h with rfl|rfl<;>decide+kernel
def TI(d:ah):Prop:=(∃ns sp,d=dh ns sp/\ns.length<=3/\(∀n∈ns,Nm n)/\Nm sp)\/(∃w i,d= .tuple [.str w,.int i]/\mR w/\Nm i)\/∃w z,d= .tuple [.str w,.str z]/\vG w/\z.length<=100
theorem Y8(ns:List Int):(ns.map PyData.int).map tF=ns.map numS:=by rw[wz];rfl
theorem yg(ns:List Int)(sp:Int):cY (dh ns sp)="line "++jG ns++" "++numS sp:=by show Str.ofString "line "++Txt.join " " ((ns.map PyData.int).map tF)++" "++numS sp=_;rw[Y8];rfl
theorem fu{i:Int}(h:Nm i):(numS i).length<=41:=GX h
theorem D8{ns:List Int}(h:∀n∈ns,Nm n)(hl:ns.length<=3):(jG ns).length<=126:=by
 have:=ye " " (B:=41) (ns.map numS) (λz hz=>by obtain⟨n,hn,rfl⟩:=cH.mp hz;exact fu (h n hn));rw[bA]at this;have e:Str.length " "=1:=by decide+kernel
 rw[e]at this;unfold jG
 lia
theorem wQ{w:Str}(h:mR w):w.length=4:=by rcases h with rfl|rfl|rfl<;>decide+kernel
theorem uO{d:ah}(h:TI d):(cY d).length<=400:=by
 have e1:Str.length " "=1:=by decide+kernel
 have e2:Str.length "line "=5:=by decide+kernel
 rcases h with⟨ns,sp,rfl,hl,hb,hs⟩|⟨w,i,rfl,hw,hi⟩|⟨w,z,rfl,hw,hz⟩
 ·rw[yg]
  have h1:=D8 hb hl;have h2:=fu hs;simp only[dy]
  lia
 ·show(w++" "++numS i).length<=400
  have h2:=fu hi;have h3:=wQ hw;simp only[dy]
  lia
 ·show(w++" "++z).length<=400
  have h3:=wQ hw.ok;simp only[dy]
  lia
theorem TI.nw{w z:Str}(h:TI (.tuple [.str w,.str z])):decide (w="wait")=false:=by
 rcases h with⟨ns,sp,e,_⟩|⟨w',i,e,_⟩|⟨w',z',e,hw,_⟩
 ·unfold dh at e;cases e
 ·cases e
 ·cases e;exact hw.ne
theorem Nm.l{i:Int}(h:Nm i):vM i:=lU h aI
theorem QO:SeqAt.shaped (.str "wait")=true:=by decide+kernel
theorem rF:SeqAt.shaped (.str "line")=true:=by decide+kernel
theorem vw(x y:Str):PyData.eqv (.str x) (.str y)=decide (x=y):=by show(x==y)=decide (x=y);rw[jh];simp
theorem Ad{H:Hp}{v:V}{d:ah}(h:RD K H v d)(i:TI d):(∃ns sp a b,d=dh ns sp/\v= .ref a/\aP K H a [.str "line",.ref b,.int sp]/\RD K H (.ref b) (.tuple (ns.map PyData.int))/\ns.length<=3/\(∀n∈ns,Nm n)/\Nm sp)\/∃w u a y,d= .tuple [.str w,u]/\mR w/\v= .ref a/\aP K H a [.str w,y]/\RD K H y u/\((∃i,u= .int i/\y= .int i/\Nm i)\/∃z,u= .str z/\y= .str z/\z.length<=100):=by
 rcases i with⟨ns,sp,rfl,hl,hb,hs⟩|⟨w,i,rfl,hw,hi⟩|⟨w,z,rfl,hw,hz⟩
 ·obtain⟨a,xs,rfl,h1,h2⟩:=h.cg
  obtain⟨x1,r,rfl,e1,h2⟩:=h2.cons_inv;obtain⟨x2,r,rfl,e2,h2⟩:=h2.cons_inv;obtain⟨x3,r,rfl,e3,h2⟩:=h2.cons_inv;cases h2.nil_inv;cases e1.str_inv;cases e3.int_inv;obtain⟨b,ys,rfl,_,_⟩:=id e2.cg;exact .inl ⟨ns,sp,a,b,Z,Z,h1,e2,hl,hb,hs⟩
 ·obtain⟨a,xs,rfl,h1,h2⟩:=h.cg
  obtain⟨x1,r,rfl,e1,h2⟩:=h2.cons_inv;obtain⟨x2,r,rfl,e2,h2⟩:=h2.cons_inv;cases h2.nil_inv;cases e1.str_inv;cases e2.int_inv;exact .inr ⟨w,_,a,_,Z,hw,Z,h1,e2,.inl ⟨i,Z,Z,hi⟩⟩
 ·obtain⟨a,xs,rfl,h1,h2⟩:=h.cg
  obtain⟨x1,r,rfl,e1,h2⟩:=h2.cons_inv;obtain⟨x2,r,rfl,e2,h2⟩:=h2.cons_inv;cases h2.nil_inv;cases e1.str_inv;cases e2.str_inv;exact .inr ⟨w,_,a,_,Z,hw.ok,Z,h1,e2,.inr ⟨z,Z,Z,hz⟩⟩
theorem Aa{w:Str}(h:mR w):SeqAt.shaped (.str w)=true:=by rcases h with rfl|rfl|rfl<;>decide+kernel
theorem GN{w:Str}(h:mR w):decide (w="line")=false/\decide (w="step")=false:=by rcases h with rfl|rfl|rfl<;>decide+kernel
inductive a6H(K:aa)(vs:List V)(H:Hp)(Q:VK):Prop |mk (v:_)(ns:_)(h0:vs=[v])(h1:RD K H v (.tuple (ns.map PyData.int)))(h2:ns.length<=3)(h3:(∀n∈ns,Nm n))(h4:∀H',az H H'->Q (.str (jG ns)) H')
def Au(K:aa):Sp:=λvs H Q _=>a6H K vs H Q
theorem nL(zs:List Str):cy (zs.map PyData.str)=true:=gP.mpr λd hd=>by obtain⟨z,_,rfl⟩:=cH.mp hd;rfl
abbrev AO:Stmt:=top 81
theorem IS:bc ["numbers"] ["numbers"] (aM AO):=bp aI
theorem VQ(F:FA K mg "show_numbers" AO)(B:bu mg)(gR:aD P w K mg ao "show_number" 1 m6):aD P w K mg ao "show_numbers" 2 (Au K):=by
 refine F.has IS (λvs H Q E h=>?_) (λ_ _ _ _ _ _=>cE λ_=>rfl) (λf aF A outer s H vs Q E hr h=>?_)
 ·obtain⟨v,ns,rfl,_⟩:=h
  rfl
 ·obtain⟨v,ns,rfl,rv,hl,hb,k⟩:=h
  have nd:=IS.nd;refine⟨_,(aH (aQ (m9 K Z bq (ak (dD (N:=["number"]) (js:=[none]) Z Z Z (jn K Z (pv 0)) (λ_ _ _ _ _=>(ba 0 (gD _))) (λ_ _ _ _ _=>cX) (λ_ _ _ _ _=>(pf gR hr (ak (pv 0) aw)))) aw)))),?_⟩;obtain⟨a,xs,rfl,h1,h2⟩:=rv.cg;rw[h2.eO]at h1;refine⟨Z,?_⟩;refine⟨_,Z,a,Z,⟨_,h1⟩,λD H1 n1=>?_⟩;refine o9 (K:=K) (ds:=(ns.map numS).map PyData.str) _ h1 n1 (by simp) (by simp;lia) (nL _) ?_ ?_
  ·intro i x d H2 Q' ex ed s2 hq
   rw[bK]at ex;obtain⟨n,en,rfl⟩:=wu.mp ex;rw[bK,bK,en]at ed;cases ed;have hn:=hb n (fg en);exact⟨_,Z,n,Z,hn.l,λH3 s3=>hq _ _ s3 (bO _)⟩
  ·intro H2 zs s2 d2 r2
   rw[jX r2]at d2;refine⟨" ",D,ns.map numS,Z,Z,aG.of d2,λz hz=>?_,aI,by rw[bA];lia,k _ s2⟩;obtain⟨n,hn,rfl⟩:=cH.mp hz;have:=fu (hb n hn)
   lia
inductive a70(K:aa)(vs:List V)(H:Hp)(Q:VK):Prop |mk (v:_)(d:_)(h0:vs=[v])(h1:RD K H v d)(h2:TI d)(h3:(∀b:Bool,(b=true↔∃ns sp,d=dh ns sp)->Q (.bl b) H))
def Ig(K:aa):Sp:=λvs H Q _=>a70 K vs H Q
theorem He{w:Str}{u:ah}(h:mR w):¬∃ns sp,PyData.tuple [.str w,u]=dh ns sp:=by rintro⟨ns,sp,e⟩;unfold dh at e;injection e with e;injection e with e1 e2;injection e2 with e2 e3;cases e3
abbrev JV:Stmt:=top 32
theorem Jz:bc ["item"] ["item"] (aM JV):=bp aI
theorem WJ(F:FA K mg "is_line" JV)(B:bu mg):aD P w K mg ao "is_line" 1 (Ig K):=by
 refine F.has Jz (λvs H Q E h=>?_) (λ_ _ _ _ _ _=>cE λ_=>rfl) (λf aF A outer s H vs Q E hr h=>?_)
 ·obtain⟨v,d,rfl,_⟩:=h
  rfl
 ·obtain⟨v,d,rfl,rv,ti,k⟩:=h
  have nd:=Jz.nd;refine⟨_,(aH (aQ (jE (dv K Z hr.units) (px K (pv 0) aB) bq (bC _)))),?_⟩;rcases Ad rv ti with⟨ns,sp,a,b,rfl,rfl,h1,_⟩|⟨w,u,a,y,rfl,hw,rfl,h1,_⟩
  ·refine⟨_,Z,.inr ⟨a,_,0,.str "line",Z,Z,h1,cN (fH 0) Z,.inr ⟨_,_,bO _,bO _,rF,rF,?_⟩⟩⟩
   rw[vw,bR rfl];exact k true ⟨λ_=>⟨_,_,Z⟩,λ_=>rfl⟩
  ·refine⟨_,Z,.inr ⟨a,_,0,.str w,Z,Z,h1,cN (fH 0) Z,.inr ⟨_,_,bO _,bO _,Aa hw,rF,?_⟩⟩⟩
   rw[vw,(GN hw).1];exact k false ⟨λz=>(by cases z),λz=>(He hw z).elim⟩
inductive a6W(K:aa)(vs:List V)(H:Hp)(Q:VK):Prop |mk (v:_)(d:_)(h0:vs=[v])(h1:RD K H v d)(h2:TI d)(h3:∀H',az H H'->Q (.str (cY d)) H')
def tQ(K:aa):Sp:=λvs H Q _=>a6W K vs H Q
abbrev AR:Stmt:=top 83
theorem IU:bc ["item","word","steps","speed","value"] ["item"] (aM AR):=bp aI
theorem VS(F:FA K mg "show_item" AR)(B:bu mg)(lG:aD P w K mg ao "is_line" 1 (Ig K))(E3:aD P w K mg ao "show_numbers" 2 (Au K))(gR:aD P w K mg ao "show_number" 1 m6):aD P w K mg ao "show_item" 3 (tQ K):=by
 refine F.has IU (λvs H Q E h=>?_) (λ_ _ _ _ _ _=>cE λ_=>rfl) (λf aF A outer s H vs Q E hr h=>?_)
 ·obtain⟨v,d,rfl,_⟩:=h
  rfl
 ·obtain⟨v,d,rfl,rv,ti,k⟩:=h
  have nd:=IU.nd;have j4:sizeLine=16777216:=by decide
  have e1:Str.length " "=1:=by decide+kernel
  have e2:Str.length "line"=4:=by decide+kernel
  have e0:Str.empty.length=0:=by decide+kernel
  refine⟨_,(aE (bB (cC (pf lG hr (ak (pv 0) aw))) (aE (eD (pv 0) (dW K Z (n:=3) Z (bP (ba 1 nd) (bP (ba 2 nd) (bP (ba 3 nd) dU))))) (aH (aQ (uo (gL (la (pv 1)) (gL bq (gL (la (pf E3 hr (ak (pv 2) aw))) (gL bq (gL (la (pf gR hr (ak (pv 3) aw))) uj))))))))) bD) (aE (eD (pv 0) (dW K Z (n:=2) Z (bP (ba 1 nd) (bP (ba 4 nd) dU)))) (aH (aQ (gM (bI (dv K Z hr.units) (pv 1) bq (bC _)) (uo (gL (la (pv 1)) (gL bq (gL (la (pf gR hr (ak (pv 4) aw))) uj)))) (uo (gL (la (pv 1)) (gL bq (gL (la (pv 4)) uj))))))))),?_⟩;refine⟨_,Z,v,d,Z,rv,ti,λb hb=>⟨_,Z,?_⟩⟩;rcases Ad rv ti with⟨ns,sp,a,b',rfl,rfl,h1,r2,hl,hn,hs⟩|⟨w,u,a,y,rfl,hw,rfl,h1,ry,hv⟩
  ·cases(hb.mpr ⟨_,_,rfl⟩)
   refine bE ?_;have a2c:=D8 hn hl;have EM:=fu hs;refine⟨_,Z,a,_,Z,h1,Z,_,_,Z,_,_,Z,_,_,Z,Z,?_⟩;refine⟨_,Z,.inr ⟨"line",Z,au,_,Z,by simp only[dy];lia,?_⟩⟩;refine⟨_,Z,by simp only[dy];lia,?_⟩;refine⟨_,Z,.ref b',ns,Z,r2,hl,hn,λH1 s1=>.inr ⟨_,Z,au,_,Z,by simp only[dy];lia,?_⟩⟩;refine⟨_,Z,by simp only[dy];lia,?_⟩;refine⟨_,Z,sp,Z,hs.l,λH2 s2=>.inr ⟨_,Z,au,_,Z,by simp only[dy];lia,?_⟩⟩;refine⟨by simp only[dy];lia,?_⟩;have e:Str.empty++"line"++" "++jG ns++" "++numS sp=cY (dh ns sp):=by
    rw[yg,Ga];have:(Str.ofString "line"++Str.ofString " ")=Str.ofString "line ":=by decide+kernel
    rw[this]
   have:=k H2 (s1.trans s2);rw[<-e]at this;exact this
  ·have mG:b=false:=by cases b with |false=>rfl |true=>exact(He hw (hb.mp Z)).elim
   subst mG;refine aZ ?_;have w4:=wQ hw;refine⟨_,Z,a,_,Z,h1,Z,_,_,Z,_,_,Z,Z,?_⟩;have eA:Str.empty++w++" "++tF u=cY (.tuple [.str w,u]):=by rw[Ga];rcases hv with⟨i,rfl,_⟩|⟨z,rfl,_⟩<;>rfl
   rw[<-eA]at k;refine⟨_,Z,.inr ⟨_,_,bO _,bO _,Aa hw,QO,_,Z,?_⟩⟩;rw[vw];rcases hv with⟨i,rfl,rfl,hi⟩|⟨z,rfl,rfl,hz⟩
   ·have EM:=fu hi
    have fin:∀H',az H H'->Q (.str (Str.empty++w++" "++numS i)) H':=k;have l1:(Str.empty++w).length<=sizeLine:=by simp only[dy];lia
    have l2:(Str.empty++w++" ").length<=sizeLine:=by simp only[dy];lia
    have l3:(Str.empty++w++" "++numS i).length<=sizeLine:=by simp only[dy];lia
    cases hw1:decide (w="wait")with |true=>exact bE ⟨_,Z,.inr ⟨w,Z,au,_,Z,l1,⟨_,Z,l2,⟨_,Z,i,Z,hi.l,λH2 s2=>.inr ⟨_,Z,au,_,Z,l3,l3,fin H2 s2⟩⟩⟩⟩⟩ |false=>exact aZ ⟨_,Z,.inr ⟨w,Z,au,_,Z,l1,⟨_,Z,l2,⟨_,Z,.inl ⟨i,Z,kx hi,_,Z,l3,l3,fin H (az.refl _)⟩⟩⟩⟩⟩
   ·rw[ti.nw]
    refine aZ ⟨_,Z,.inr ⟨w,Z,au,_,Z,by simp only[dy];lia,?_⟩⟩;refine⟨_,Z,by simp only[dy];lia,?_⟩;refine⟨_,Z,.inr ⟨z,Z,au,_,Z,by simp only[dy];lia,?_⟩⟩;exact⟨by simp only[dy];lia,k H (az.refl _)⟩
theorem sz:sizeLine=16777216:=by decide
theorem eT:Str.length " "=1:=by decide+kernel
theorem Ir:Str.empty.length=0:=by decide+kernel
inductive a6V(K:aa)(vs:List V)(H:Hp)(Q:VK):Prop |mk (v:_)(ds:_)(h0:vs=[v])(h1:RD K H v (.list ds))(h2:(∀d∈ds,TI d))(h3:cy ds=true)(h4:ds.length<=30)(h5:∀H',az H H'->Q (.str (Txt.join "\n" (ds.map cY))) H')
def Ic(K:aa):Sp:=λvs H Q _=>a6V K vs H Q
abbrev AS:Stmt:=top 84
theorem IV:bc ["items"] ["items"] (aM AS):=bp aI
theorem VT(F:FA K mg "show_items" AS)(B:bu mg)(ZI:aD P w K mg ao "show_item" 3 (tQ K)):aD P w K mg ao "show_items" 4 (Ic K):=by
 refine F.has IV (λvs H Q E h=>?_) (λ_ _ _ _ _ _=>cE λ_=>rfl) (λf aF A outer s H vs Q E hr h=>?_)
 ·obtain⟨v,ds,rfl,_⟩:=h
  rfl
 ·obtain⟨v,ds,rfl,rv,ti,no,hl,k⟩:=h
  have nd:=IV.nd;refine⟨_,(aH (aQ (m9 K Z bq (ak (dD (N:=["item"]) (js:=[none]) Z Z Z (pk K Z (pv 0)) (λ_ _ _ _ _=>(ba 0 (gD _))) (λ_ _ _ _ _=>cX) (λ_ _ _ _ _=>(pf ZI hr (ak (pv 0) aw)))) aw)))),?_⟩;obtain⟨a,xs,rfl,h1,h2⟩:=rv.lst_inv;have lx:=h2.length;refine⟨Z,?_⟩;refine⟨_,Z,a,Z,⟨_,h1⟩,λD H1 n1=>?_⟩;refine vD (K:=K) (ds:=(ds.map cY).map PyData.str) _ h1 n1 (by simp;exact lx) au (nL _) ?_ ?_
  ·intro i x d H2 Q' ex ed s2 hq
   obtain⟨d',dw,rx⟩:=h2.get' i ex;rw[bK,bK,dw]at ed;cases ed;exact⟨_,Z,x,d',Z,RD.mono s2 _ rx,ti d' (fg dw),λH3 s3=>hq _ _ s3 (bO _)⟩
  ·intro H2 zs s2 d2 r2
   rw[jX r2]at d2;refine⟨"\n",D,ds.map cY,Z,Z,aG.of d2,λz hz=>?_,aI,by rw[bA];lia,k _ s2⟩;obtain⟨d,hd,rfl⟩:=cH.mp hz;have:=uO (ti d hd)
   lia
def lR (i:Int):Prop:=i.natAbs<10^540
theorem rj{i:Int}(h:lR i):(numS i).length<=541:=by show(Str.ofString (toString i)).length<=541;rw[PN];exact PF (k:=540) ay h
theorem DD{i:Int}(h:lR i):i.natAbs.log2<1920:=by
 by_cases h0:i.natAbs=0
 ·rw[h0];decide
 ·exact(Nat.log2_lt h0).mpr (lU h aI)
inductive a74(K:aa)(vs:List V)(H:Hp)(Q:VK):Prop |mk (v:_)(a:_)(b:_)(h0:vs=[v])(h1:RD K H v (.tuple [.int a,.int b]))(h2:lR a)(h3:lR b)(h4:Q (.str (lJ a b)) H)
def Ih(K:aa):Sp:=λvs H Q _=>a74 K vs H Q
inductive a75(K:aa)(vs:List V)(H:Hp)(Q:VK):Prop |mk (v:_)(a:_)(b:_)(h0:vs=[v])(h1:RD K H v (.tuple [.int a,.int b]))(h2:lR a)(h3:lR b)(h4:∀H',az H H'->Q (.str (lJ a b)) H')
def Ii(K:aa):Sp:=λvs H Q _=>a75 K vs H Q
theorem GY{H:Hp}{v:V}{a b:Int}(h:RD K H v (.tuple [.int a,.int b])):∃p,v= .ref p/\aP K H p [.int a,.int b]:=by obtain⟨p,xs,rfl,h1,h2⟩:=h.cg;obtain⟨x1,r,rfl,e1,h2⟩:=h2.cons_inv;obtain⟨x2,r,rfl,e2,h2⟩:=h2.cons_inv;cases h2.nil_inv;cases e1.int_inv;cases e2.int_inv;exact⟨p,Z,h1⟩
theorem AB:Str.length "/"=1:=by decide+kernel
theorem N9{a b:Int}(ha:lR a)(hb:lR b):(lJ a b).length<=1100:=by
 have h1:=rj ha;have h2:=rj hb;have h3:=AB;unfold lJ;split
 ·lia
 ·simp only[dy];lia
abbrev AU:Stmt:=top 82
theorem IW:bc ["one","p","q"] ["one"] (aM AU):=bp aI
theorem VU(F:FA K mg "show_fraction" AU)(B:bu mg)(gR:aD P w K mg ao "show_number" 1 m6):aD P w K mg ao "show_fraction" 2 (Ii K):=by
 refine F.has IW (λvs H Q E h=>?_) (λ_ _ _ _ _ _=>cE λ_=>rfl) (λf aF A outer s H vs Q E hr h=>?_)
 ·obtain⟨v,a,b,rfl,_⟩:=h
  rfl
 ·obtain⟨v,a,b,rfl,rv,na,nb,k⟩:=h
  have nd:=IW.nd;refine⟨_,(aE (eD (pv 0) (dW K Z (n:=2) Z (bP (ba 1 nd) (bP (ba 2 nd) dU)))) (aH (aQ (gM (bI (dv K Z hr.units) (pv 2) aB (bC _)) (pf gR hr (ak (pv 1) aw)) (uo (gL (la (pf gR hr (ak (pv 1) aw))) (gL bq (gL (la (pf gR hr (ak (pv 2) aw))) uj)))))))),?_⟩;obtain⟨p,rfl,h1⟩:=GY rv;have l1:=rj na;have l2:=rj nb;have LD:vM a:=na;have XE:vM b:=nb;have hs:=sz;have h0:=Ir;have rO:=AB;refine⟨_,Z,p,_,Z,h1,Z,_,_,Z,_,_,Z,Z,?_⟩;refine⟨_,Z,.inl ⟨_,_,Z,Z,_,Z,?_⟩⟩;by_cases hb:b=1
  ·rw[bR hb]
   refine bE ⟨_,Z,a,Z,LD,λH1 s1=>?_⟩;have:=k H1 s1;unfold lJ at this;rw[aR hb]at this;exact this
  ·rw[dM hb]
   refine aZ ⟨_,Z,a,Z,LD,λH1 s1=>.inr ⟨_,Z,au,_,Z,by simp only[dy];lia,?_⟩⟩;refine⟨_,Z,by simp only[dy];lia,?_⟩;refine⟨_,Z,b,Z,XE,λH2 s2=>.inr ⟨_,Z,au,_,Z,by simp only[dy];lia,?_⟩⟩;refine⟨by simp only[dy];lia,?_⟩;have:=k H2 (s1.trans s2);unfold lJ at this;rw[aU hb]at this;have e:Str.empty++numS a++"/"++numS b=numS a++"/"++numS b:=by rw[Ga]
   rw[<-e]at this;exact this
abbrev Bz:Stmt:=top 115
theorem Ju:bc ["_law_one"] ["_law_one"] (aM Bz):=bp aI
theorem Ww(F:FA K mg "_law_fraction_text" Bz)(B:bu mg):aD P w K mg ao "_law_fraction_text" 1 (Ih K):=by
 refine F.has Ju (λvs H Q E h=>?_) (λ_ _ _ _ _ _=>cE λ_=>rfl) (λf aF A outer s H vs Q E hr h=>?_)
 ·obtain⟨v,a,b,rfl,_⟩:=h
  rfl
 ·obtain⟨v,a,b,rfl,rv,na,nb,k⟩:=h
  have nd:=Ju.nd;refine⟨_,(aH (aQ (gM (bI (dv K Z hr.units) (px K (pv 0) aB) aB (bC _)) (cT (x:="str") gY Z (B.at "str") gy (ak (px K (pv 0) aB) aw)) (aK iU (aK iU (cT (x:="str") gY rfl (B.at "str") gy (ak (px K (pv 0) aB) aw)) bq) (cT (x:="str") gY rfl (B.at "str") gy (ak (px K (pv 0) aB) aw)))))),?_⟩;obtain⟨p,rfl,h1⟩:=GY rv;have l1:=rj na;have l2:=rj nb;have hs:=sz;have rO:=AB;refine⟨_,Z,.inr ⟨p,_,1,.int b,Z,Z,h1,Z,.inl ⟨_,_,Z,Z,_,Z,?_⟩⟩⟩;by_cases hb:b=1
  ·rw[bR hb]
   refine bE ⟨_,Z,.inr ⟨p,_,0,.int a,Z,Z,h1,Z,.inl ⟨a,Z,DD na,?_⟩⟩⟩;unfold lJ at k;rw[aR hb]at k;exact k
  ·rw[dM hb]
   refine aZ ⟨_,Z,.inr ⟨p,_,0,.int a,Z,Z,h1,Z,.inl ⟨a,Z,DD na,?_⟩⟩⟩;refine⟨_,_,Z,Z,by change (numS a).length+_<=_;lia,?_⟩;refine⟨_,Z,.inr ⟨p,_,1,.int b,Z,Z,h1,Z,.inl ⟨b,Z,DD nb,?_⟩⟩⟩;refine⟨_,_,Z,Z,by simp only[dy];change (numS a).length+_+(numS b).length<=_;lia,?_⟩;unfold lJ at k;rw[aU hb]at k;exact k
abbrev Bx:Stmt:=top 114
theorem Jt:bc ["_law_item_here"] ["_law_item_here"] (aM Bx):=bp aI
theorem Wv(F:FA K mg "_law_item_text" Bx)(B:bu mg):aD P w K mg ao "_law_item_text" 1 (tQ K):=by
 refine F.has Jt (λvs H Q E h=>?_) (λ_ _ _ _ _ _=>cE λ_=>rfl) (λf aF A outer s H vs Q E hr h=>?_)
 ·obtain⟨v,d,rfl,_⟩:=h
  rfl
 ·obtain⟨v,d,rfl,rv,ti,k⟩:=h
  have nd:=Jt.nd;refine⟨_,(aE (bB (bI (dv K Z hr.units) (px K (pv 0) aB) bq (bC _)) (aH (aQ (aK iU (aK iU (aK iU bq (m9 K Z bq (ak (dD (N:=["_law_step"]) (js:=[none]) Z Z Z (jn K Z (px K (pv 0) aB)) (λ_ _ _ _ _=>(ba 0 (gD _))) (λ_ _ _ _ _=>cX) (λ_ _ _ _ _=>(cT (x:="str") gY Z (B.at "str") gy (ak (pv 0) aw)))) aw))) bq) (cT (x:="str") gY rfl (B.at "str") gy (ak (px K (pv 0) aB) aw))))) bD) (aH (aQ (aK iU (aK iU (px K (pv 0) aB) bq) (cT (x:="str") gY Z (B.at "str") gy (ak (px K (pv 0) aB) aw)))))),?_⟩;have hs:=sz;have MQ:=eT;have h5:Str.length "line "=5:=by decide+kernel
  rcases Ad rv ti with⟨ns,sp,a,b,rfl,rfl,h1,r2,hl,hn,eP⟩|⟨w,u,a,y,rfl,hw,rfl,h1,ry,hv⟩
  ·refine⟨_,Z,.inr ⟨a,_,0,.str "line",Z,Z,h1,cN (fH 0) Z,.inr ⟨_,_,bO _,bO _,rF,rF,_,Z,?_⟩⟩⟩
   rw[vw,bR rfl];refine bE ?_;have a2c:=D8 hn hl;have EM:=fu eP;obtain⟨b',xs,e',g1,g2⟩:=r2.cg;cases e';rw[g2.eO]at g1;refine⟨Z,?_⟩;refine⟨_,Z,.inr ⟨a,_,1,.ref b,Z,Z,h1,cN ay Z,b,Z,⟨_,g1⟩,λD H1 n1=>?_⟩⟩;refine o9 (K:=K) (ds:=(ns.map numS).map PyData.str) _ g1 n1 (by simp) (by simp;lia) (nL _) ?_ ?_
   ·intro i x d H2 Q' ex ed s2 hq
    rw[bK]at ex;obtain⟨n,en,rfl⟩:=wu.mp ex;rw[bK,bK,en]at ed;cases ed;have hn:=hn n (fg en);exact⟨_,Z,.inl ⟨n,Z,kx hn,hq _ _ (az.refl _) (bO _)⟩⟩
   ·intro H2 zs s2 d2 r2
    rw[jX r2]at d2;refine⟨" ",D,ns.map numS,Z,Z,aG.of d2,λz hz=>?_,aI,by rw[bA];lia,?_⟩
    ·obtain⟨n,uV,rfl⟩:=cH.mp hz
     have:=fu (hn n uV)
     lia
    refine⟨_,_,Z,Z,by change _+(jG ns).length<=_;lia,?_⟩;refine⟨_,_,Z,Z,by simp only[dy];change _+(jG ns).length+_<=_;lia,?_⟩;refine⟨_,Z,.inr ⟨a,_,2,.int sp,Z,Z,h1.go s2,cN ay Z,.inl ⟨sp,Z,kx eP,?_⟩⟩⟩;refine⟨_,_,Z,Z,by simp only[dy];change _+(jG ns).length+_+(numS sp).length<=_;lia,?_⟩;have:=k H2 s2;rw[yg]at this;exact this
  ·refine⟨_,Z,.inr ⟨a,_,0,.str w,Z,Z,h1,cN (fH 0) Z,.inr ⟨_,_,bO _,bO _,Aa hw,rF,_,Z,?_⟩⟩⟩
   rw[vw,(GN hw).1];refine aZ ?_;have w4:=wQ hw;have fin:=k H (az.refl _);refine⟨_,Z,.inr ⟨a,_,0,.str w,Z,Z,h1,cN (fH 0) Z,?_⟩⟩;refine⟨_,_,Z,Z,au,?_⟩;refine⟨_,Z,.inr ⟨a,_,1,y,Z,Z,h1,cN ay Z,?_⟩⟩;rcases hv with⟨i,rfl,rfl,hi⟩|⟨z,rfl,rfl,hz⟩
   ·have EM:=fu hi
    exact .inl ⟨i,Z,kx hi,_,_,Z,Z,by simp only[dy];change _+(numS i).length<=_;lia,fin⟩
   ·exact .inr ⟨z,Z,_,_,Z,Z,by simp only[dy];lia,fin⟩
end
end _c
set_option maxHeartbeats 1000000
namespace _c
open PySem PySem.Spec PyProof.Rows _L _d _l _W
section
variable {P:af}{w:World}{K:aa}{mg:bf}{ao:Heap}
def dH(z:Str):Prop:=∀c∈z.cps.toList,c<0x110000
theorem dH.app{a b:Str}(ha:dH a)(hb:dH b):dH (a++b):=λc hc=>by rw[oB,lZ,iO]at hc;exact hc.elim (ha c) (hb c)
theorem dH.joined{sep:Str}(hs:dH sep):∀l:List Str,(∀a∈l,dH a)->dH (PySem.Str.join sep l) |[],_=>λc hc=>by simp[PySem.Str.join,PySem.Str.empty]at hc |[x],h=>h x (.head _) |x::y::r,h=>((h x (.head _)).app hs).app (dH.joined hs (y::r) λa ha=>h a (.tail _ ha))
theorem dH.join{sep:Str}{l:List Str}(hs:dH sep)(h:∀a∈l,dH a):dH (Txt.join sep l):=by show dH (Builtin.Str.glued sep l);rw[oy];exact dH.joined hs l h
theorem VD{n:Nat}{z:Str}(h:dH z):cF n (.str z):=⟨by show PyData.strOk z=true;unfold PyData.strOk;rw[Qx];exact λc hc=>bR (h c (by simpa using hc)),dS _⟩
theorem Lc{n:Nat}{z:Str}(h:cF n (.str z)):dH z:=λc hc=>by have q:PyData.strOk z=true:=h.lay;unfold PyData.strOk at q;rw[Qx]at q;exact jS (q c (by simpa using hc))
theorem pD{z:Str}(h:z.cps.all (·<0x110000)=true):dH z:=Lc (n:=0) ⟨h,dS _⟩
theorem Hv:∀(ds:List ah),(∀d∈ds,∃z:Str,d= .str z/\z.length=1/\dH z/\z.cps.toList.all (λc=>decide (97<=c)&&decide (c<=122))=true)->∃zs:List Str,ds=zs.map PyData.str/\∀z∈zs,z.length=1/\dH z/\z.cps.toList.all (λc=>decide (97<=c)&&decide (c<=122))=true |[],_=>⟨[],Z,λ_ h=>nomatch h⟩ |d::ds,h=>by obtain⟨z,rfl,e⟩:=h d (.head _);obtain⟨zs,rfl,q⟩:=Hv ds λx hx=>h x (.tail _ hx);exact⟨z::zs,Z,λy hy=>by
 rcases bS.mp hy with rfl|hy
 ·exact e
 ·exact q y hy⟩
theorem a5J:dH gZ:=pD aI
def y8(c:Nat):Bool:=decide (97<=c)&&decide (c<=122)
def mw(s:Str):Bool:=(decide (1<=s.length)&&decide (s.length<=8))&&s.cps.toList.all y8
def CT(w s:Str):Prop:=(w="tool"/\(s="up"\/s="down"))\/(w="mark"/\mw s=true)
def sJ(d:ah):Prop:=(∃n,d= .tuple [.str "wait",.int n]/\1<=n/\n<=1000)\/∃w s,d= .tuple [.str w,.str s]/\(w="tool"\/w="mark")/\cF 0 (.str s)/\CT w s
theorem MS:∀l:List Str,(PySem.Str.join ("":Str) l).cps.toList=(l.map λz=>z.cps.toList).flatten
 |[]=>by simp[PySem.Str.join,PySem.Str.empty] |[x]=>by simp[PySem.Str.join] |x::y::r=>by
  show((x++("":Str))++PySem.Str.join ("":Str) (y::r)).cps.toList=_;rw[oB,oB,lZ,lZ,MS (y::r)];have:(("":Str)).cps.toList=[]:=by decide+kernel
  rw[this];simp
theorem XH{l:List Str}(h1:1<=l.length)(h8:l.length<=8)(h:∀z∈l,z.length=1/\z.cps.toList.all y8=true):mw (Txt.join ("":Str) l)=true:=by
 have e:(Txt.join ("":Str) l).cps.toList=(l.map λz=>z.cps.toList).flatten:=by show(Builtin.Str.glued ("":Str) l).cps.toList=_;rw[oy];exact MS l
 have el:(Txt.join ("":Str) l).length=l.length:=by
  show(Txt.join ("":Str) l).cps.size=_;rw[<-jU,e,List.length_flatten,wz];have:∀(l:List Str),(∀z∈l,z.length=1/\z.cps.toList.all y8=true)->(l.map (List.length∘λz=>z.cps.toList)).sum=l.length:=by intro l;induction l with |nil=>intro _;rfl |cons a r ih=>
   intro h;rw[qD,List.sum_cons,ih λz hz=>h z (.tail _ hz),gb];have:=(h a (.head _)).1;have e2:(List.length∘λz:Str=>z.cps.toList) a=1:=by show a.cps.toList.length=1;rw[jU];exact this
   rw[e2,Nat.add_comm]
  exact this l h
 unfold mw;rw[el,e,bR h1,bR h8,gc,gc,fh];intro c hc;obtain⟨cs,yE,fm⟩:=List.mem_flatten.mp hc;obtain⟨z,hz,rfl⟩:=cH.mp yE;exact fh.mp (h z hz).2 c fm
theorem sJ.it{d:ah}(h:sJ d):itR d none:=by
 rcases h with⟨n,rfl,_⟩|⟨w,s,rfl,hw|hw,_⟩
 ·exact .inr ⟨_,_,Z,.inl Z,Z,Z⟩
 ·exact .inr ⟨_,_,Z,.inr (.inl hw),Z,Z⟩
 ·exact .inr ⟨_,_,Z,.inr (.inr hw),Z,Z⟩
open _O (Itm)
structure hJ(n:Nat)(d:ah)(o:Itm):Prop where
 it:itR d o
 ln:∀ns sp,o=some (ns,sp)->eL n 100 ns/\1<=sp/\sp<=20
 ot:o=none->sJ d
theorem XG{z:Str}(h:mw z=true):isNm (.str z)=true:=h
theorem a5s:∀{ns:List Int},(∃z∈ns,z≠0)->(ns.map PyData.int).any pG=true:=λ{ns} ⟨z,hz,h⟩=>Qo.mpr ⟨.int z,cH.mpr ⟨z,hz,Z⟩,by show(z !=0)=true;simpa using h⟩
theorem a5x{ns:List Int}(h:∀z∈ns,(z.natAbs:Int)<=100):(ns.map PyData.int).all (cw (-100) 100)=true:=by rw[fh];intro d hd;obtain⟨z,hz,rfl⟩:=cH.mp hd;have:=h z hz;show(decide (-100<=z)&&decide (z<=100))=true;rw[bR bo,bR bo];rfl
theorem hJ.is{n:Nat}{d:ah}{o:Itm}(h:hJ n d o):iB n d=true/\cF 8 d/\oZ d=true:=by cases o with
 |some q=>
  obtain⟨ns,sp⟩:=q;have ed:=jr h.it;subst ed;obtain⟨eG,s1,s2⟩:=h.ln ns sp rfl;refine⟨?_,?_,Z⟩
  ·show(fw "line" (.str "line")&&(ml n (.tuple (ns.map PyData.int))&&cw 1 20 (.int sp)))=true
   have e1:fw "line" (.str "line")=true:=by decide+kernel
   have e2:ml n (.tuple (ns.map PyData.int))=true:=by show(((ns.map PyData.int).length==n&&(ns.map PyData.int).all (cw (-100) 100))&&(ns.map PyData.int).any pG)=true;rw[a5x eG.bd,a5s eG.nz,bA,eG.len,wg];rfl
   have e3:cw 1 20 (.int sp)=true:=by show(decide (1<=sp)&&decide (sp<=20))=true;rw[bR s1,bR s2];rfl
   rw[e1,e2,e3];rfl
  ·refine(fZ.tup (n:=1) (.cons ⟨aI,dS _⟩ (.cons (fZ.tup (n:=0) λd hd=>?_) (.cons (.int _) .nil)))).le ay
   obtain⟨a,_,rfl⟩:=cH.mp hd;exact .int _ |none=>
  rcases h.ot rfl with⟨z,rfl,z1,z2⟩|⟨w,s,rfl,hw,nF,on⟩
  ·refine⟨?_,(fZ.tup (n:=0) (.cons ⟨aI,dS _⟩ (.cons (.int _) .nil))).le ay,Z⟩
   show mC (.str "wait") (.int z)=true;unfold mC;rw[aR aI];show(decide (1<=z)&&decide (z<=1000))=true;rw[bR z1,bR z2];rfl
  ·have YS:fK (.str s)=true:=by
    refine bR ?_;rcases on with⟨_,rfl|rfl⟩|⟨_,hn⟩
    ·decide+kernel
    ·decide+kernel
    ·unfold mw at hn
     simp only[du,wc]at hn
     lia
   refine⟨?_,(fZ.tup (n:=0) (.cons ?_ (.cons nF .nil))).le ay,?_⟩
   ·rcases on with⟨rfl,hs⟩|⟨rfl,hn⟩
    ·show mC (.str "tool") (.str s)=true
     unfold mC;rw[aU aI,aR aI];rcases hs with rfl|rfl<;>decide+kernel
    ·show mC (.str "mark") (.str s)=true
     unfold mC;rw[aU aI,aU aI];rw[XG hn];decide+kernel
   ·rcases hw with rfl|rfl<;>exact⟨aI,dS _⟩
   ·show([.str w,.str s]:List ah).all fK=true
    rw[tw,tw,Gx,YS];rcases hw with rfl|rfl<;>decide+kernel
abbrev Bq:Stmt:=top 110
theorem Jl:bc ["_law_bag_here","_law_axes","_law_far","_law_rails","_law_bounds"] ["_law_bag_here"] (aM Bq):=bp aI
theorem Wt(F:FA K mg "_law_machine" Bq)(B:bu mg)(eH:aD P w K mg ao "_law_take" 1 ny):aD P w K mg ao "_law_machine" 2 (Ia K):=by
 refine F.has Jl (λvs H Q E h=>?_) (λ_ _ _ _ _ _=>cE λ_=>rfl) (λf aF A outer s H vs Q E hr h=>?_)
 ·obtain⟨p,rfl,_⟩:=h
  rfl
 ·obtain⟨p,rfl,bg,k⟩:=h
  have nd:=Jl.nd;refine⟨_,(aE (pS 1 nd (aK dg aB (pf eH hr (ak (pv 0) (ak aB aw))))) (aE (pS 2 nd (px K (ft (ak aB (ak aB aw))) (pf eH hr (ak (pv 0) (ak aB aw))))) (aE (pS 3 nd (cT (x:="tuple") (ji K Z) Z (B.at "tuple") gJ (ak (dD (N:=["_law_axis","_law_bag_here","_law_far"]) (js:=[none,some 0,some 2]) rfl rfl rfl (pj rfl (B.at "range") (ak (pv 1) aw)) (λ_ _ _ _ _=>(ba 0 (show List.Nodup (["_law_axis","_law_bag_here","_law_far"]:List Str) by decide+kernel))) (λ_ _ _ _ _=>cX) (λ_ _ _ _ _=>(aK dg aB (pf eH hr (ak (pv 1) (ak (pv 2) aw)))))) aw))) (aE (pS 4 nd (cT (x:="tuple") (ji K Z) Z (B.at "tuple") gJ (ak (dD (N:=["_law_k","_law_bag_here"]) (js:=[none,some 0]) rfl rfl rfl (pj rfl (B.at "range") (ak aB aw)) (λ_ _ _ _ _=>(ba 0 (gm ay))) (λ_ _ _ _ _=>cX) (λ_ _ _ _ _=>(aK dg aB (pf eH hr (ak (pv 1) (ak aB aw)))))) aw))) (aH (aQ (aK (OF K Z) (aK (OF K Z) (eE (ak (pv 3) aw)) (pv 4)) (eE (ak (aK dg aB (pf eH hr (ak (pv 0) (ak aB aw)))) aw))))))))),?_⟩;refine⟨_,Z,p,2,Z,bg,ay,ay,λt0 H1 t00 t01 b1=>?_⟩;refine⟨_,_,Z,Z,?_⟩;refine⟨bW Z,λl H2 nw=>?_⟩;have b2:bG p H1 H2:=.eV b1.bJ nw.same;have DE:l≠p:=λe=>b1.bJ.ne (e▸nw.no);refine⟨_,Z,p,2,Z,b2.bJ,ay,ay,λi H3 i0 i1 b3=>?_⟩;obtain⟨yV,mf,ef⟩:=Mh [100,20] i0 i1;have f1:1<=yV/\yV<=100:=by
   rcases bS.mp mf with rfl|mf
   ·exact⟨ay,ay⟩
   rcases bS.mp mf with rfl|mf
   ·exact⟨ay,ay⟩
   ·exact(eS mf).elim
  refine .inl ⟨l,_,_,_,Z,Z,aG.of (b3.same _ _ DE nw.at'),ef,?_⟩;refine⟨_,Z,_,Z,au,au,λD H4 n4=>?_⟩;have hN:(2+t0).toNat<=1000:=by lia
  refine Fu (2+t0).toNat [some (.ref p),some (.int yV)] n4 b3.bJ hN (λi=>.int (0+(i:Int))) (λi H5 hi b5=>⟨hi,λy H6 ⟨e1,e2⟩=>⟨e1,e2⟩⟩) (λH5 b5=>bj _) (λz=>1<=z/\z<=100) ?_ ?_
  ·intro i H5 Q' hi b5 hq
   refine⟨_,Z,_,Z,p,yV,Z,b5.bJ,f1.1,au,λz H6 z0 z1 b6=>?_⟩;exact⟨_,_,Z,Z,hq _ _ ⟨au,au⟩ b6⟩
  intro H5 rs b5 d5 lr pr;refine⟨D,_,Z,.inl ⟨aG.of d5,λq H6 n6=>?_⟩⟩;have b6:bG p H5 H6:=.eV b5.bJ n6.same;refine⟨3,Z,ay,ay,λD2 H7 n7=>?_⟩;refine Fu 3 [some (.ref p)] n7 b6.bJ ay (λi=>.int (0+(i:Int))) (λi H8 hi b8=>⟨hi,λy H9 ⟨e1,e2⟩=>⟨e1,e2⟩⟩) (λH8 b8=>bj _) (λz=>1<=z/\z<=50) ?_ ?_
  ·intro i H8 Q' hi b8 hq
   refine⟨_,Z,p,50,Z,b8.bJ,ay,ay,λz H9 z0 z1 b9=>?_⟩;exact⟨_,_,Z,Z,hq _ _ ⟨au,au⟩ b9⟩
  intro H8 bs b8 d8 lb pb;refine⟨D2,_,Z,.inl ⟨aG.of d8,λq2 H9 n9=>?_⟩⟩;have b9:bG p H8 H9:=.eV b8.bJ n9.same;refine⟨_,Z,bW Z,λt1 fF iW=>?_⟩;have fN:bG p H9 fF:=.eV b9.bJ iW.same
  match bs,lb,pb,n9 with |[x1,x2,x3],_,pb,n9=>have p1:=pb x1 (.head _);have p2:=pb x2 (.tail _ (.head _));have p3:=pb x3 (.tail _ (.tail _ (.head _)));refine⟨_,Z,t1,q2,_,_,Z,Z,aP.of iW.at',aP.of (iW.same _ _ n9.at'),bW Z,λv1 gv nB a11=>?_⟩;have zx:bG p fF gv:=.eV fN.bJ nB;refine⟨_,Z,p,100,Z,zx.bJ,ay,ay,λz sS z0 z1 zw=>?_⟩;refine⟨_,_,Z,Z,bW Z,λt2 sR Dq=>?_⟩;have oh:bG p sS sR:=.eV zw.bJ Dq.same;refine⟨v1,t2,_,_,Z,Z,(aP.t (bG.t zx.bJ zw) a11).go Dq.same,aP.of Dq.at',bW Z,λv2 vQ jk a14=>?_⟩;have qf:bG p sR vQ:=.eV oh.bJ jk;have sq:aP K vQ q (rs.map V.int):=aP.t (bG.t b6.bJ (b8.trans (b9.trans (fN.trans (zx.trans (zw.trans (oh.trans qf))))))) (aP.of n6.at');refine k (.ref v2) rs x1 x2 x3 (1+z) vQ (eZ a14 (cj (eZ sq (nC rs)) (cj (eu _) (cj (eu _) (cj (eu _) (cj (eu _) de)))))) ⟨au,pr,p1,p2,p3,au⟩ (b1.trans (b2.trans (b3.trans (b5.trans (b6.trans (b8.trans (b9.trans (fN.trans (zx.trans (zw.trans (oh.trans qf)))))))))))
inductive a6L(vs:List V)(H:Hp)(Q:VK):Prop |mk (p:_)(h0:vs=[.ref p])(h1:fO H p)(h2:∀z H',cF 0 (.str z)->mw z=true->bG p H H'->Q (.str z) H')
def HY(K:aa):Sp:=λvs H Q _=>a6L vs H Q
abbrev Bk:Stmt:=top 112
theorem Jf:bc ["_law_bag_here"] ["_law_bag_here"] (aM Bk):=bp aI
theorem Wm(F:FA K mg "_law_name" Bk)(B:bu mg)(eH:aD P w K mg ao "_law_take" 1 ny):aD P w K mg ao "_law_name" 2 (HY K):=by
 refine F.has Jf (λvs H Q E h=>?_) (λ_ _ _ _ _ _=>cE λ_=>rfl) (λf aF A outer s H vs Q E hr h=>?_)
 ·obtain⟨p,rfl,_⟩:=h
  rfl
 ·obtain⟨p,rfl,bg,k⟩:=h
  have nd:=Jf.nd;refine⟨_,(aH (aQ (m9 K Z bq (ak (dD (N:=["_law_k","_law_bag_here"]) (js:=[none,some 0]) Z Z Z (pj Z (B.at "range") (ak (aK dg aB (pf eH hr (ak (pv 0) (ak aB aw)))) aw)) (λ_ _ _ _ _=>(ba 0 (gm ay))) (λ_ _ _ _ _=>cX) (λ_ _ _ _ _=>(CO Mb bq (pf eH hr (ak (pv 1) (ak aB aw))) (λ_ _=>rfl)))) aw)))),?_⟩;refine⟨Z,?_⟩;refine⟨_,Z,p,8,Z,bg,ay,ay,λn H1 n0 n1 b1=>?_⟩;refine⟨_,_,Z,Z,_,Z,bo,bo,λD H2 nD=>?_⟩;refine Oo (K:=K) (J:=mV 0 (1+n).toNat) (p:=p) (H:=H1) (1+n).toNat _ nD b1.bJ bo (λi=>.int (0+(i:Int))) (λi H3 hi _=>⟨hi,λy H4 ⟨e,q⟩=>⟨e,q⟩⟩) (λH3 _=>bj _) (λ_ d=>∃z:Str,d= .str z/\z.length=1/\dH z/\z.cps.toList.all (λc=>decide (97<=c)&&decide (c<=122))=true) ?_ ?_
  ·intro i H3 Q' hi b3 hq
   refine⟨_,Z,p,26,Z,b3.bJ,ay,ay,λd H4 d0 d1 b4=>?_⟩;have hd:d.toNat<gZ.cps.toList.length:=by rw[a5L];omega
   refine⟨gZ,d,gZ.cps.toList[d.toNat],Z,Z,aI,cN d0 (cI hd),?_⟩;have eU:dH ⟨#[gZ.cps.toList[d.toNat]]⟩:=λc hc=>by have gE:c=gZ.cps.toList[d.toNat]:=cS.mp hc;rw[gE];exact a5J _ (wB hd)
   have dY:(⟨#[gZ.cps.toList[d.toNat]]⟩:Str).cps.toList.all (λc=>decide (97<=c)&&decide (c<=122))=true:=by have:=fh.mp (show gZ.cps.toList.all (λc=>decide (97<=c)&&decide (c<=122))=true by decide+kernel) _ (wB hd);show([gZ.cps.toList[d.toNat]]:List Nat).all _=true;rw[tw,Gx,GF];exact this
   exact hq _ _ _ ⟨_,Z,Z,eU,dY⟩ Z (bO _) b4
  ·intro H3 ys ds b3 d3 r3 l3 nl pd
   obtain⟨zs,rfl,hz⟩:=Hv ds λd hd=>by obtain⟨i,hi⟩:=oE.mp hd;exact pd i d hi
   rw[jX r3]at d3;rw[bA]at l3;refine⟨"",D,zs,Z,Z,aG.of d3,λz rM=>by rw[(hz z rM).1];decide,ay,bo,?_⟩;exact k _ _ (VD (dH.join (pD aI) λa ha=>(hz a ha).2.1)) (XH bo bo λz rM=>⟨(hz z rM).1,(hz z rM).2.2⟩) (b1.trans b3)
inductive a6Z(K:aa)(vs:List V)(H:Hp)(Q:VK):Prop |mk (p:Addr)(ax:Nat)(h0:vs=[.ref p,.int ax])(h1:fO H p)(h2:1<=ax)(h3:ax<=3)(h4:∀v d o H',RD K H' v d->hJ ax d o->bG p H H'->Q v H')
def Ie(K:aa):Sp:=λvs H Q _=>a6Z K vs H Q
theorem hJ.CU{n:Nat}{d:ah}(h:sJ d):hJ n d none:=⟨h.it,(λ_ _ z=>nomatch z),λ_=>h⟩
abbrev BC:Stmt:=top 113
theorem Jv:bc ["_law_bag_here","_law_axes","_law_sort","_law_speed","_law_most","_law_steps"] ["_law_bag_here","_law_axes"] (aM BC):=bp aI
theorem WG(F:FA K mg "_law_item" BC)(B:bu mg)(eH:aD P w K mg ao "_law_take" 1 ny)(a1J:aD P w K mg ao "_law_name" 2 (HY K)):aD P w K mg ao "_law_item" 3 (Ie K):=by
 refine F.has Jv (λvs H Q E h=>?_) (λ_ _ _ _ _ _=>dj λ_ _=>rfl) (λf aF A outer s H vs Q E hr h=>?_)
 ·obtain⟨p,ax,rfl,_⟩:=h
  rfl
 ·obtain⟨p,ax,rfl,bg,ax1,ax2,k⟩:=h
  have nd:=Jv.nd;refine⟨_,(aE (pS 2 nd (pf eH hr (ak (pv 0) (ak aB aw)))) (aE (bB (bI (dv K Z hr.units) (pv 2) aB (bC _)) (aH (aQ (eE (ak bq (ak (aK dg aB (pf eH hr (ak (pv 0) (ak aB aw)))) aw))))) bD) (aE (bB (bI (dv K Z hr.units) (pv 2) aB (bC _)) (aH (aQ (eE (ak bq (ak (px K (ft (ak bq (ak bq aw))) (pf eH hr (ak (pv 0) (ak aB aw)))) aw))))) bD) (aE (bB (bI (dv K Z hr.units) (pv 2) aB (bC _)) (aH (aQ (eE (ak bq (ak (pf a1J hr (ak (pv 0) aw)) aw))))) bD) (aE (pS 3 nd (aK dg aB (pf eH hr (ak (pv 0) (ak aB aw))))) (aE (pS 4 nd (px K (ft (ak aB (ak aB (ak aB aw)))) (pf eH hr (ak (pv 0) (ak aB aw))))) (aE (CJ (i0:=5) nd Z (Or.inl Z) (N:=["_law_axis","_law_most","_law_bag_here"]) (js:=[none,some 4,some 0]) Z Z Z (pj Z (B.at "range") (ak (pv 1) aw)) (λ_ _ _ _ _=>(ba 0 (show List.Nodup (["_law_axis","_law_most","_law_bag_here"]:List Str) by decide+kernel))) (λ_ _ _ _ _=>cX) (λ_ _ _ _ _=>(aK kl (pf eH hr (ak (pv 2) (ak (aK dg (aK bV aB (pv 1)) aB) aw))) (pv 1)))) (aE (ke (bB (df (cC (ck (x:="any") (P1 K Z Z) Z (B.at "any") Q9 (ak (pv 5) aw)))) (aH (eD aB (pA (pv 5) (pf eH hr (ak (pv 0) (ak (pv 1) aw))) set_list))) bD)) (aH (aQ (eE (ak bq (ak (cT (x:="tuple") (ji K Z) Z (B.at "tuple") gJ (ak (pv 5) aw)) (ak (pv 3) aw)))))))))))))),?_⟩;refine⟨_,Z,p,6,Z,bg,ay,ay,λso H1 s0 s1 b1=>?_⟩;refine⟨_,Z,.inl ⟨_,_,Z,Z,_,Z,?_⟩⟩;refine dZ (λhc=>?_) (λhc=>?_)
  ·refine⟨_,Z,p,1000,Z,b1.bJ,ay,ay,λn H2 n0 n1 b2=>?_⟩
   refine⟨_,_,Z,Z,bW Z,λt H3 n3=>?_⟩;exact k (.ref t) _ none H3 (eZ (aP.of n3.at') (cj (bO _) (cj (eu _) de))) (.CU (.inl ⟨_,Z,bo,bo⟩)) (b1.trans (b2.trans (.eV b2.bJ n3.same)))
  refine⟨_,Z,.inl ⟨_,_,Z,Z,_,Z,?_⟩⟩;refine dZ (λhc=>?_) (λhc=>?_)
  ·refine⟨bW Z,λc H2 n2=>?_⟩
   have b2:bG p H1 H2:=.eV b1.bJ n2.same;have cp:c≠p:=λz=>b1.bJ.ne (z▸n2.no);refine⟨_,Z,p,2,Z,b2.bJ,ay,ay,λi H3 i0 i1 b3=>?_⟩;have hi:∃z:Str,eg ([.str "up",.str "down"]:List V) i=some (.str z)/\cF 0 (.str z)/\CT "tool" z:=by
    rcases(show i=0\/i=1 by omega)with rfl|rfl
    ·exact⟨"up",Z,⟨aI,aI⟩,.inl ⟨Z,.inl Z⟩⟩
    ·exact⟨"down",Z,⟨aI,aI⟩,.inl ⟨Z,.inr Z⟩⟩
   obtain⟨z,ez,CY,Vx⟩:=hi;refine .inl ⟨c,_,_,_,Z,Z,aG.of (b3.same _ _ cp n2.at'),ez,bW Z,λt H4 n4=>?_⟩;exact k (.ref t) _ none H4 (eZ (aP.of n4.at') (cj (bO _) (cj (bO _) de))) (.CU (.inr ⟨_,_,Z,.inl Z,CY,Vx⟩)) (b1.trans (b2.trans (b3.trans (.eV b3.bJ n4.same))))
  refine⟨_,Z,.inl ⟨_,_,Z,Z,_,Z,?_⟩⟩;refine dZ (λhc=>?_) (λhc=>?_)
  ·refine⟨_,Z,p,Z,b1.bJ,λz H2 CY nz b2=>⟨bW Z,λt H3 n3=>?_⟩⟩
   exact k (.ref t) _ none H3 (eZ (aP.of n3.at') (cj (bO _) (cj (bO _) de))) (.CU (.inr ⟨_,_,Z,.inr Z,CY,.inr ⟨Z,nz⟩⟩)) (b1.trans (b2.trans (.eV b2.bJ n3.same)))
  refine⟨_,Z,p,20,Z,b1.bJ,ay,ay,λsp H2 p0 p1 b2=>?_⟩;refine⟨_,_,Z,Z,?_⟩;refine⟨bW Z,λc H3 n3=>?_⟩;have b3:bG p H2 H3:=.eV b2.bJ n3.same;have cp:c≠p:=λz=>b2.bJ.ne (z▸n3.no);refine⟨_,Z,p,3,Z,b3.bJ,ay,ay,λi H4 i0 i1 b4=>?_⟩;have hm:∃m:Int,eg ([.int 3,.int 20,.int 100]:List V) i=some (.int m)/\1<=m/\m<=100:=by
   rcases(show i=0\/i=1\/i=2 by omega)with rfl|rfl|rfl
   ·exact⟨3,Z,ay,ay⟩
   ·exact⟨20,Z,ay,ay⟩
   ·exact⟨100,Z,ay,ay⟩
  obtain⟨m,em,m1,m2⟩:=hm;refine .inl ⟨c,_,_,_,Z,Z,aG.of (b4.same _ _ cp n3.at'),em,?_⟩;have qf:=b1.trans (b2.trans (b3.trans b4));refine⟨_,Z,_,Z,bo,bo,λD H5 nD=>?_⟩;refine Fu (J:=mV 0 ax) (p:=p) (H:=H4) ax _ nD qf.bJ bo (λi=>.int (0+(i:Int))) (λi H3 hi _=>⟨hi,λy H4 ⟨e,q⟩=>⟨e,q⟩⟩) (λH3 _=>bj _) (λz=>(z.natAbs:Int)<=m) ?_ ?_
  ·intro i H6 Q' hi b6 hq
   refine⟨_,Z,_,Z,_,_,Z,Z,.of_left (cJ ay ay),_,_,Z,Z,p,2*m+1,Z,b6.bJ,bo,bo,λd H7 d0 d1 b7=>?_⟩;exact⟨_,Z,_,_,Z,Z,hq _ _ bo b7⟩
  intro H6 is b6 d6 l6 OP;have FJ:=qf.trans b6;have lp:D≠p:=λz=>qf.bJ.ne (z▸nD.no);have nl:H D=none:=by cases e:H D with |none=>rfl |some o=>have:=qf.same _ _ lp e;rw[nD.no]at this;cases this
  refine⟨λO H7=>bG p H H7/\∃(is:List Int),H7 D=some (.lst (is.map V.int))/\eL ax 100 is/\O=[some (.ref p),some (.int ax),some (.int so),some (.int (1+sp)),some (.int m),some (.ref D)],?_,?_⟩
  ·refine⟨_,Z,D,is,Z,.inl (aG.of d6),_,Z,?_⟩
   cases ha:is.any (· !=0)with |false=>
    refine bE ?_;refine⟨_,Z,_,Z,_,Z,p,(ax:Int),Z,FJ.bJ,bo,bo,λix H7 i0 i1 b7=>?_⟩;have d7:=b7.same _ _ lp d6;refine⟨D,_,ix,ix.toNat,Z,Z,d7,?_,?_⟩
    ·unfold gq;rw[aR i0,aR (by rw[bA,l6];exact i1)]
    refine⟨?_,is.set ix.toNat 1,?_,⟨?_,?_,?_⟩,Z⟩
    ·have OS:=FJ.trans b7
     refine⟨?_,λb o n e=>?_⟩
     ·obtain⟨c',m',e,ok⟩:=OS.bJ
      exact⟨c',m',by rw[bh lp.symm];exact e,ok⟩
     ·rw[bh (fv e nl)];exact OS.same b o n e
    ·rw[bU,A3]
    ·rw[Gr];exact l6
    ·intro z hz
     rcases List.mem_or_eq_of_mem_set hz with h|h
     ·have:=OP z h;omega
     ·rw[h];decide
    ·exact⟨1,List.mem_iff_getElem.mpr ⟨ix.toNat,by rw[Gr];omega,by rw[List.getElem_set_self]⟩,ay⟩ |true=>refine aZ ?_;refine⟨FJ,is,d6,⟨l6,λz hz=>by have:=OP z hz;omega,?_⟩,Z⟩;obtain⟨z,hz,h0⟩:=Qo.mp ha;exact⟨z,hz,by simpa using h0⟩
  rintro O H7 ⟨b7,is,d7,ok,rfl⟩;refine⟨_,Z,D,_,Z,.inl ⟨aG.of d7,λq H8 n8=>?_⟩⟩;refine⟨_,Z,bW Z,λt H9 n9=>?_⟩;refine k (.ref t) (dh is (1+sp)) (some (is,1+sp)) H9 (eZ (aP.of n9.at') (cj (bO _) (cj (eZ (aP.of (n9.same _ _ n8.at')) (nC is)) (cj (eu _) de)))) ⟨.inl ⟨is,_,Z,Z⟩,λns sp e=>by cases e;exact⟨ok,bo,bo⟩,λz=>nomatch z⟩ (b7.trans (.eV b7.bJ (n8.same.trans n9.same)))
end
end _c
set_option maxHeartbeats 2000000
namespace _c
open PySem PySem.Spec PyProof.Rows _L _l _W
open _T (numS numIn? figs isFig Free)
open _O (Itm)
section
variable {P:af}{w:World}{K:aa}{mg:bf}{ao:Heap}
theorem uM(sep a:Str)(as:List Str)(h:as≠[]):Txt.join sep (a::as)=a++sep++Txt.join sep as:=by show Builtin.Str.glued sep (a::as)=a++sep++Builtin.Str.glued sep as;rw[oy,oy];cases as with |nil=>exact(h Z).elim |cons b r=>rfl
theorem join_snoc(sep b:Str):∀(as:List Str),as≠[]->Txt.join sep (as++[b])=Txt.join sep as++sep++b |[],h=>(h Z).elim |[a],_=>rfl |a::c::r,_=>by have e:=join_snoc sep b (c::r) (by simp);rw[List.cons_append,uM sep a (c::r++[b]) (by simp),e,uM sep a (c::r) (by simp)];simp only[Gf]
theorem DG(ns:List Int)(sp:Int)(h:ns≠[]):cY (dh ns sp)=Txt.join ⟨#[32]⟩ ("line"::(ns.map numS++[numS sp])):=by
 have hn:ns.map numS≠[]:=by simpa using h
 rw[yg,<-oT,uM _ _ _ (by simp),join_snoc _ _ _ hn];have e:("line ":Str)="line"++" ":=by decide+kernel
 rw[e];unfold jG;simp only[Gf]
theorem yP{c:Nat}{a b:Str}(ha:Free c a)(hb:Free c b):Free c (a++b):=λh=>by rw[oB,lZ,iO]at h;exact h.elim ha hb
theorem N8{c:Nat}{sep:Str}(hs:Free c sep):∀l:List Str,(∀a∈l,Free c a)->Free c (Txt.join sep l) |[],_=>λh=>by have e:(Txt.join sep []).cps.toList=[]:=rfl;rw[e]at h;cases h |[x],h=>h x (.head _) |x::y::r,h=>by rw[uM _ _ _ (by simp)];exact yP (yP (h x (.head _)) hs) (N8 hs (y::r) λa ha=>h a (.tail _ ha))
theorem D9(i:Int):dH (numS i):=λc hc=>by cases i with |ofNat m=>rw[show(numS (Int.ofNat m)).cps.toList=_ from _T.lM m]at hc;have:=_T.kP m c hc;omega |negSucc m=>
 rw[_T.vA]at hc;rcases bS.mp hc with e|hc
 ·omega
 ·have:=_T.kP (m+1) c hc
  omega
structure mW(n:Nat)(d:ah):Prop where
 rt:rJ n (cY d)=d
 len:(cY d).length<=400
 ok:qm (cY d)
 fr:Free 10 (cY d)
 ti:TI d
 pE:cF 8 d
theorem jN{c:Nat}{z:Str}(h:(z.cps.toList.all λx=>x !=c)=true):Free c z:=λhc=>by have:=fh.mp h c hc;simp at this
theorem XI{c:Nat}{z:Str}(h:mw z=true)(hc:c<97):Free c z:=λh'=>by unfold mw at h;rw[du]at h;have:=fh.mp h.2 c h';unfold y8 at this;simp at this;omega
theorem KZ{c:Nat}{w s:Str}(h:CT w s)(hc:c=10\/c=32):Free c s:=by
 rcases h with⟨_,rfl|rfl⟩|⟨_,hn⟩
 ·rcases hc with rfl|rfl<;>exact jN aI
 ·rcases hc with rfl|rfl<;>exact jN aI
 ·exact XI hn bo
theorem Dp{i:Int}(h:i.natAbs<10^40):nI (numS i)= .int i:=by unfold nI;have:(numS i).length<=41:=GX h;rw[_T.De bo];rfl
theorem XN{ns:List Int}(h:∀z∈ns,z.natAbs<10^40):(ns.map numS).map nI=ns.map PyData.int:=by rw[wz];exact List.map_congr_left λz hz=>Dp (h z hz)
theorem Me{n:Nat}{d:ah}{ws:List Str}(e:cY d=Txt.join ⟨#[32]⟩ ws)(hn:ws≠[])(hf:∀z∈ws,Free 32 z)(ht:fo ws=d)(hi:iB n d=true):rJ n (cY d)=d:=by unfold rJ;rw[e,oT,_T.HC hn hf,ht,hi];rfl
theorem hJ.tx{n:Nat}{d:ah}{o:Itm}(h:hJ n d o)(n1:1<=n)(n3:n<=3):mW n d:=by have hi:=h.is.1;have eT:dH (" ":Str):=pD aI;have N5:Free 10 (" ":Str):=jN aI;cases o with
 |some q=>
  obtain⟨ns,sp⟩:=q;have ed:=jr h.it;subst ed;obtain⟨eG,s1,s2⟩:=h.ln ns sp rfl;have hb:∀z∈ns,z.natAbs<10^40:=λz hz=>by have:=eG.bd z hz;omega
  have hs:sp.natAbs<10^40:=by omega
  have cm:ns≠[]:=λe=>by rw[e]at eG;have:=eG.len;simp at this;omega
  have ti:TI (dh ns sp):=.inl ⟨ns,sp,Z,by rw[eG.len];exact n3,hb,hs⟩;refine⟨Me (DG ns sp cm) (by simp) (λz hz=>?_) ?_ hi,uO ti,?_,?_,ti,h.is.2.1⟩
  ·rcases bS.mp hz with rfl|hz
   ·exact jN aI
   ·rcases iO.mp hz with hz|hz
    ·obtain⟨i,_,rfl⟩:=cH.mp hz
     exact _T.nG ay ay
    ·rw[cS.mp hz];exact _T.nG ay ay
  ·obtain⟨x,xs,rfl⟩:∃x xs,ns=x::xs:=by cases ns with|nil=>exact(cm rfl).elim|cons x xs=>exact⟨x,xs,rfl⟩
   have e1:(x::xs).map numS++[numS sp]=numS x::(xs.map numS++[numS sp]):=rfl;have e2:(numS x::(xs.map numS++[numS sp])).map nI=(x::xs).map PyData.int++[.int sp]:=by rw[<-e1,jg,XN hb];show _++[nI (numS sp)]=_;rw[Dp hs]
   rw[e1,Af,e2,fQ,bA,tm,List.take_left' (by simp),Qh,List.getLast?_append,List.getLast?_singleton];rfl
  ·rw[DG ns sp cm,<-oT]
   refine dH.join eT λa ha=>?_;rcases bS.mp ha with rfl|ha
   ·exact pD aI
   ·rcases iO.mp ha with ha|ha
    ·obtain⟨i,_,rfl⟩:=cH.mp ha
     exact D9 i
    ·rw[cS.mp ha];exact D9 sp
  ·rw[DG ns sp cm,<-oT]
   refine N8 N5 _ λa ha=>?_;rcases bS.mp ha with rfl|ha
   ·exact jN aI
   ·rcases iO.mp ha with ha|ha
    ·obtain⟨i,_,rfl⟩:=cH.mp ha
     exact _T.nG ay ay
    ·rw[cS.mp ha];exact _T.nG ay ay |none=>
  have key:∀(w y:Str)(u:ah),d= .tuple [.str w,u]->cY d=w++" "++y->w≠"line"->(if w="wait" then nI y else .str y)=u->Free 32 w->Free 32 y->Free 10 w->Free 10 y->dH w->dH y->TI d->mW n d:=λw y u e1 e2 hw hu f1 f2 f3 f4 o1 o2 ti=>by
   have ej:cY d=Txt.join ⟨#[32]⟩ [w,y]:=by rw[e2,<-oT];rfl
   refine⟨Me ej (by simp) (λz hz=>?_) ?_ hi,uO ti,?_,?_,ti,h.is.2.1⟩
   ·simp only[bS,eS,jR]at hz
    rcases hz with rfl|rfl
    ·exact f1
    ·exact f2
   ·rw[wZ hw,hu,e1]
   ·rw[e2];exact(o1.app eT).app o2
   ·rw[e2];exact yP (yP f3 N5) f4
  rcases h.ot rfl with⟨z,rfl,z1,z2⟩|⟨w,s,rfl,hw,nF,on⟩
  ·have hb:z.natAbs<10^40:=by omega
   exact key "wait" (numS z) (.int z) Z Z aI (by rw[aR Z,Dp hb]) (jN aI) (_T.nG ay ay) (jN aI) (_T.nG ay ay) (pD aI) (D9 z) (.inr (.inl ⟨_,_,Z,.inl Z,hb⟩))
  ·have hl:s.length<=100:=by
    rcases on with⟨_,rfl|rfl⟩|⟨_,hn⟩
    ·decide+kernel
    ·decide+kernel
    ·unfold mw at hn
     simp only[du,wc]at hn;omega
   have cm:w≠"line"/\w≠"wait"/\Free 32 w/\Free 10 w/\dH w:=by
    rcases hw with rfl|rfl
    ·exact⟨aI,aI,jN aI,jN aI,pD aI⟩
    ·exact⟨aI,aI,jN aI,jN aI,pD aI⟩
   exact key w s (.str s) Z Z cm.1 (by rw[aU cm.2.1]) cm.2.2.1 (KZ on (.inr Z)) cm.2.2.2.1 (KZ on (.inl Z)) cm.2.2.2.2 (Lc nF) (.inr (.inr ⟨_,_,Z,hw,hl⟩))
theorem mW.ne{n:Nat}{d:ah}(h:mW n d):d≠ .none:=by rcases h.ti with⟨ns,sp,rfl,_⟩|⟨w,i,rfl,_⟩|⟨w,z,rfl,_⟩<;>exact λz=>nomatch z
end
end _c
set_option maxHeartbeats 1000000
namespace _c
open PySem PySem.Spec PyProof.Rows _L _d _l _C _P
open _O (topR cornO mnO betR atO ownF leadF ownL OkI OkIs)
section
variable {P:af}{w:World}{K:aa}{mg:bf}{ao:Heap}
inductive a78(K:aa)(vs:List V)(H:Hp)(Q:VK):Prop |mk (m:_)(iv:_)(l:_)(ys:_)(rs:_)(r:_)(f:_)(j:_)(t:_)(ds:_)(os:_)(g:_)(h0:vs=[m,iv,.ref l])(h1:RD K H m (iA rs r f j t))(h2:kQ rs r f j t)(h3:RD K H iv (.tuple ds))(h4:gs rs.length ds os)(h5:ds.length<=30)(h6:H l=some (.lst ys))(h7:aJ K H ys ((lst os.length g).map cx))(h8:(∀i,i<=os.length->Bd 900 (g i)))(h9:∀l ys H',H l=none->H' l=some (.lst ys)->aJ K H' ys ((lst os.length (fl os.length (leadF os) (2*f) g)).map cx)->az H H'->Q (.ref l) H')
def Il(K:aa):Sp:=λvs H Q _=>a78 K vs H Q
abbrev BP:Stmt:=top 66
theorem JJ:bc ["machine","items","squares","fall","kept","i"] ["machine","items","squares"] (aM BP):=bp aI
theorem WT(F:FA K mg "kept_by_fall" BP)(B:bu mg)(lG:aD P w K mg ao "is_line" 1 (qK K))(pP:aD P w K mg ao "lead_of" 1 (m7 K))(E6:aD P w K mg ao "plus_whole" 4 (xh K))(uY:aD P w K mg ao "least" 2 (tP K)):aD P w K mg ao "kept_by_fall" 5 (Il K):=by
 refine F.has JJ (λvs H Q E h=>?_) (λ_ _ _ _ _ _=>lO λ_ _ _=>rfl) (λfa aF A outer s H vs Q E hr h=>?_)
 · obtain⟨m,iv,l,ys,rs,r,f,j,t,ds,os,g,rfl,_⟩:=h
   rfl
 · obtain⟨m,iv,l,ys,rs,r,f,j,t,ds,os,g,rfl,rm,aO,ri,row,hz,dl,Cp,bg,k⟩:=h
   have nd:=JJ.nd;refine⟨_,(aE (pS 3 nd (px K (pv 0) aB)) (aE (pS 4 nd (cT (x:="list") (DF K Z) Z (B.at "list") Q8 (ak (pv 2) aw))) (aE (kg je Z (UT Z (B.at "reversed") (ak (cT (x:="range") a4X rfl (B.at "range") PyProof.Rows.boot_range (ak (eF K B (ak (pv 1) aw)) aw)) aw)) (ba 5 nd) (aH (bB (cC (pf lG hr (ak (px K (pv 1) (pv 5)) aw))) (aH (eD (pf uY hr (ak (ft (ak (px K (pv 4) (pv 5)) (ak (pf E6 hr (ak (px K (pv 4) (aK dg (pv 5) aB)) (ak (aK bV (aK bV aB (pv 3)) (pf pP hr (ak (px K (pv 1) (pv 5)) aw))) aw))) aw))) aw)) (pA (pv 4) (pv 5) set_list))) bD))) (aH (aQ (pv 4)))))),?_⟩;obtain⟨ma,mb,rfl,gr,iZ⟩:=my rm;obtain⟨ia,xs,rfl,hi,gQ⟩:=ri.cg;have lx:=gQ.length;have ll:=row.len;have lr:=aO.len;have hL:∀i m,leadF os i=some m->(2*f*(m:Int)).natAbs<2^24:=λi m e=>oN aO.f1.1 aO.f1.2 (pK row.lq e);have FB:∀i,i<=os.length->Bd 1700 (fl os.length (leadF os) (2*f) g i):=λi hi=>(EY bg hL i hi).mono au;refine⟨_,Z,.inr ⟨ma,_,2,.int f,Z,Z,gr,Z,?_⟩⟩;refine⟨_,Z,l,ys,Z,.inl (aG.of dl),λD H1 n1=>?_⟩;refine⟨_,Z,ia,_,Z,.inr (hi.go n1.same),_,Z,λpr H2 n2=>?_⟩;refine⟨pr,_,Z,n2.at',au,au,?_⟩;have eN:((xs.length:Int)).toNat=os.length:=by lia
   rw[eN];refine a2I (Pv:=λi O H5=>az H H5/\∃zs v1,H5 D=some (.lst zs)/\aJ K H5 zs ((lst os.length λk=>if os.length<=k+i then fl os.length (leadF os) (2*f) g k else g k).map cx)/\O=[some (.ref ma),some (.ref ia),some (.ref l),some (.int f),some (.ref D),v1]) ?_ ?_ ?_
   · refine⟨n1.same.trans n2.same,ys,none,n2.same _ _ n1.at',?_,Z⟩
     rw[jI (g:=λk=>if os.length<=k+0 then fl os.length (leadF os) (2*f) g k else g k) (g':=g)]
     ·exact aJ.mono (n1.same.trans n2.same) _ Cp
     · intro k hk
       show g k=if os.length<=k+0 then _ else g k;split
       · next h => have:k=os.length:=by lia
                   subst this;exact nW.symm
       ·rfl
   · rintro i O H3 rS ⟨s3,zs,v1,dz,rz,rfl⟩
     obtain⟨x,hx⟩:∃x,xs[os.length-1-i]? =some x:=⟨_,cI (show os.length-1-i<xs.length by lia)⟩;generalize hc:os.length-1-i=c at hx;have lI:c<os.length:=by lia
     have eI:((os.length:Int)-1-(i:Int))=(c:Int):=by lia
     rw[eI];obtain⟨d,ed,rd⟩:=gQ.get' c hx;obtain⟨o,eo,it⟩:=row.get ed;have lz:=rz.length;rw[bA,jH]at lz;have oj:eg xs (c:Int)=some x:=cN au (by simpa using hx);refine⟨_,Z,_,Z,.inr ⟨ia,_,_,_,Z,Z,hi.go s3,oj,?_⟩⟩;refine⟨x,d,o,Z,RD.mono s3 _ rd,it,_,Z,?_⟩;cases o with
     |none=>
       refine aZ ?_;refine⟨s3,zs,_,dz,?_,Z⟩;rw[jI (g:=λk=>if os.length<=k+(i+1)then fl os.length (leadF os) (2*f) g k else g k) (g':=λk=>if os.length<=k+i then fl os.length (leadF os) (2*f) g k else g k)]
       ·exact rz
       · intro k _
         show(if os.length<=k+i then _ else g k)=if os.length<=k+(i+1)then _ else g k;by_cases h1:os.length<=k+i
         ·rw[aR h1,aR au]
         · rw[aU h1]
           by_cases h2:k=c
           ·subst h2;rw[aR au,pX lI (yb eo)]
           ·rw[aU au] |some q=>
       obtain⟨ns,sp⟩:=q;refine bE ?_;have dw:=jr it;subst dw;obtain⟨eG,_,_⟩:=row.ok c ns sp eo;obtain⟨z1,kL⟩:∃z,zs[c+1]? =some z:=⟨_,cI (show c+1<zs.length by lia)⟩;obtain⟨z0,kM⟩:∃z,zs[c]? =some z:=⟨_,cI (show c<zs.length by lia)⟩;have R1:bM K H3 z1 (fl os.length (leadF os) (2*f) g (c+1)):=by
        obtain⟨d1,e1,r1⟩:=rz.get' (c+1) kL;rw[bK,jq _ (show c+1<=os.length by lia)]at e1;cases e1;have:os.length<=c+1+i:=by lia
        simp only[aR this]at r1;exact jm r1
       have R0:bM K H3 z0 (g c):=by
        obtain⟨d1,e1,r1⟩:=rz.get' c kM;rw[bK,jq _ (show c<=os.length by lia)]at e1;cases e1;have:¬os.length<=c+i:=by lia
        simp only[aU this]at r1;exact jm r1
       have sy:((c:Int)+1).toNat=c+1:=by lia
       have qh:eg zs ((c:Int)+1)=some z1:=cN au (by rw[sy];exact kL);have qi:eg zs (c:Int)=some z0:=cN au (by simpa using kM);refine⟨_,Z,_,Z,.inl ⟨D,_,_,_,Z,Z,aG.of dz,qi,?_⟩⟩;refine⟨_,Z,_,Z,_,_,Z,Z,.inl ⟨D,_,_,_,Z,Z,aG.of dz,qh,?_⟩⟩;refine⟨_,Z,_,_,Z,Z,.of_left (cJ ay ay),?_⟩;refine⟨_,Z,_,Z,.inr ⟨ia,_,_,_,Z,Z,hi.go s3,oj,?_⟩⟩;refine⟨x,ns,sp,Z,RD.mono s3 _ rd,eG.ne,by rw[eG.len];lia,λH4 s4=>?_⟩;have Nx:=aO.f1;refine⟨_,_,Z,Z,.of_left (cJ au au),?_⟩;have us:=hL c _ (nO eo);refine⟨z1,_,_,Z,R1.go s4,(FB (c+1) au).mono ay,us,λu H5 ru s5=>?_⟩;refine⟨bW Z,λl2 H6 n6=>?_⟩;have fq:=s4.trans (s5.trans n6.same);have P9:=R0.go fq;have Ru:=ru.go n6.same;have B1:Bd 2000 (g c):=(bg _ au).mono ay;have B2:Bd 2000 (fl os.length (leadF os) (2*f) g (c+1)+((2*f*(aL ns:Int):Int):Rat)):=(sI (FB (c+1) au) us).mono ay;refine⟨l2,[z0,u],[_,_],Z,aG.of n6.at',⟨P9,B1,Ru,B2,trivial⟩,by simp,λc' v q e1 e2 hq=>?_⟩;have kB:mn (g c) (fl os.length (leadF os) (2*f) g (c+1)+((2*f*(aL ns:Int):Int):Rat))=q:=by
        refine pI ?_ (hq _ (by simp)) (hq _ (by simp))
        match c',e2 with |0,e2=>cases e2;exact .inl rfl |1,e2=>cases e2;exact .inr rfl
       have Rv:bM K H6 v q:=by match c',e1,e2 with |0,e1,e2=>cases e1;cases e2;exact P9 |1,e1,e2=>cases e1;cases e2;exact Ru
       have kO:=fq _ _ dz;have uN:gq zs.length (c:Int)=some c:=by unfold gq;rw[aR au,aR au];simp
       refine⟨_,Z,_,Z,D,zs,_,_,Z,Z,kO,uN,?_⟩;refine⟨λb o e=>?_,_,_,bU,?_,Z⟩
       ·rw[bh (fv e n1.no)];exact fq b o (s3 b o e)
       · have h:=aJ.xt (i:=c) kO (aJ.mono fq _ rz) Rv.rd (rn _) (pe _)
         rw[<-A3]at h;have e:(lst os.length λk=>if os.length<=k+i then fl os.length (leadF os) (2*f) g k else g k).set c q=lst os.length λk=>if os.length<=k+(i+1)then fl os.length (leadF os) (2*f) g k else g k:=by
          rw[<-y9 (g:=λk=>if os.length<=k+i then fl os.length (leadF os) (2*f) g k else g k) (g':=λk=>if os.length<=k+(i+1)then fl os.length (leadF os) (2*f) g k else g k) (i:=c)]
          · have:os.length<=c+(i+1):=by lia
            simp only[aR this];rw[nX lI (nO eo),kB]
          · intro k _ hk
            show(if os.length<=k+(i+1)then _ else g k)=if os.length<=k+i then _ else g k;by_cases h1:os.length<=k+i
            ·rw[aR h1,aR au]
            ·rw[aU h1,aU au]
         rw[e]at h;exact h
   · rintro O H3 ⟨s3,zs,v1,dz,rz,rfl⟩
     rw[jI (g:=λk=>if os.length<=k+os.length then fl os.length (leadF os) (2*f) g k else g k) (g':=fl os.length (leadF os) (2*f) g) (λk hk=>by show _=if os.length<=k+os.length then _ else _;rw[aR au])]at rz;exact⟨_,Z,k D zs H3 n1.no dz rz s3⟩
def qO(r f j rate:Int)(os:List Itm):Nat->Rat:=gz os.length (ownF j rate os) (leadF os) (2*r) (2*f)
def iu(r f j rate:Int)(os:List Itm):List Rat:=lst os.length (qO r f j rate os)
inductive a6B(K:aa)(vs:List V)(H:Hp)(Q:VK):Prop |mk (m:_)(iv:_)(rate:_)(rs:_)(r:_)(f:_)(j:_)(t:_)(ds:_)(os:_)(h0:vs=[m,iv,.int rate])(h1:RD K H m (iA rs r f j t))(h2:kQ rs r f j t)(h3:RD K H iv (.tuple ds))(h4:gs rs.length ds os)(h5:ds.length<=30)(h6:10<=rate)(h7:rate<=200)(h8:∀l ys H',H l=none->H' l=some (.lst ys)->aJ K H' ys ((iu r f j rate os).map cx)->az H H'->Q (.ref l) H')
def Ap(K:aa):Sp:=λvs H Q _=>a6B K vs H Q
abbrev Bc:Stmt:=top 64
theorem J8:bc ["machine","items","rate","risen"] ["machine","items","rate"] (aM Bc):=bp aI
theorem We(F:FA K mg "plan_of" Bc)(B:bu mg)(ZP:aD P w K mg ao "own_bounds" 8 (As K))(a0b:aD P w K mg ao "kept_by_rise" 5 (HQ K))(a0c:aD P w K mg ao "kept_by_fall" 5 (Il K)):aD P w K mg ao "plan_of" 9 (Ap K):=by
 refine F.has J8 (λvs H Q E h=>?_) (λ_ _ _ _ _ _=>lO λ_ _ _=>rfl) (λfa aF A outer s H vs Q E hr h=>?_)
 ·obtain⟨m,iv,rate,rs,r,f,j,t,ds,os,rfl,_⟩:=h
  rfl
 ·obtain⟨m,iv,rate,rs,r,f,j,t,ds,os,rfl,rm,aO,ri,row,hz,fT,fS,k⟩:=h
  have nd:=J8.nd;refine⟨_,(aE (pS 3 nd (pf a0b hr (ak (pv 0) (ak (pv 1) (ak (pf ZP hr (ak (pv 0) (ak (pv 1) (ak (pv 2) aw)))) aw))))) (aH (aQ (pf a0c hr (ak (pv 0) (ak (pv 1) (ak (pv 3) aw))))))),?_⟩;have ll:=row.len;have hB:=_O.CS aO.j1.1 aO.j1.2 fT fS row.lq;have hL:∀i m,leadF os i=some m->(2*r*(m:Int)).natAbs<2^24:=λi m e=>oN aO.r1.1 aO.r1.2 (pK row.lq e);refine⟨_,Z,_,Z,_,Z,_,Z,_,Z,m,iv,rate,rs,r,f,j,t,ds,os,Z,rm,aO,ri,row,bo,fT,fS,λl1 y1 H1 nl1 d1 r1 s1=>?_⟩;refine⟨m,iv,l1,y1,rs,r,f,j,t,ds,os,ownF j rate os,Z,RD.mono s1 _ rm,aO,RD.mono s1 _ ri,row,hz,d1,r1,hB,λl2 y2 H2 nl2 d2 r2 s2=>?_⟩;have gh:=s1.trans s2;refine⟨_,Z,_,Z,_,Z,m,iv,l2,y2,rs,r,f,j,t,ds,os,_,Z,RD.mono gh _ rm,aO,RD.mono gh _ ri,row,hz,d2,r2,λi hi=>(vJ hB hL i).mono bo,λl3 y3 H3 Xz d3 r3 s3=>?_⟩;have nl:H l3=none:=by cases e:H l3 with |none=>rfl |some o=>have:=gh _ _ e;rw[Xz]at this;cases this
  exact k l3 y3 H3 nl d3 r3 (gh.trans s3)
open _W
def RowW(ds:List ah)(os:List Itm):Prop:=∀(i:Nat)(d:ah),os[i]? =some none->ds[i]? =some d->sJ d
theorem RowW.snoc{ds:List ah}{os:List Itm}{d:ah}{o:Itm}(h:RowW ds os)(hl:ds.length=os.length)(hd:o=none->sJ d):RowW (ds++[d]) (os++[o]):=by
 intro i x e1 e2;rcases oX e1 with h1|⟨h1,MQ⟩
 ·rcases oX e2 with h2|⟨h2,_⟩
  ·exact h i x h1 h2
  ·have:=(dN.mp h1).1;lia
 ·rcases oX e2 with h2|⟨_,pV⟩
  ·have:=(dN.mp h2).1;lia
  ·subst pV;exact hd MQ.symm
theorem QL{j:Int}(h:j.natAbs<2^64):Wd j:=lU h aI
inductive a6K(vs:List V)(H:Hp)(Q:VK):Prop |mk (p:Int)(q:Int)(h0:vs=[.int p,.int q])(h1:0<q)(h2:q<=10^6)(h3:p.natAbs<=10^9)(h4:Q (.int (uD p q)) H)
def Av:Sp:=λvs H Q _=>a6K vs H Q
abbrev Bj:Stmt:=top 53
theorem Je:bc ["p","q","size"] ["p","q"] (aM Bj):=bp aI
theorem Wl(F:FA K mg "nearest" Bj)(B:bu mg):aD P w K mg ao "nearest" 1 Av:=by
 refine F.has Je (λvs H Q E h=>?_) (λ_ _ _ _ _ _=>dj λ_ _=>rfl) (λf aF A outer s H vs Q E hr h=>?_)
 ·obtain⟨p,q,rfl,_⟩:=h
  rfl
 ·obtain⟨p,q,rfl,q0,q1,p1,k⟩:=h
  have nd:=Je.nd;refine⟨_,(aE (pS 2 nd (aK qV (aK dg (aK bV aB (ck (x:="abs") lN Z (B.at "abs") nc (ak (pv 0) aw))) (pv 1)) (aK bV aB (pv 1)))) (aH (aQ (gM (bI CW (pv 0) aB (bC _)) (pv 2) (kh jV (pv 2)))))),?_⟩;refine⟨_,Z,p,Z,_,_,Z,Z,.of_left (cJ ay ay),_,Z,_,_,Z,Z,_,Z,_,_,Z,Z,.of_left (cJ ay ay),_,_,Z,Z,⟨au,QL au⟩,?_⟩;have e:(2*(if p<0 then-p else p)+q)/(2*q)=xq p q:=by unfold xq;rw[<-FP];rfl
  refine⟨_,Z,_,_,Z,Z,_,Z,?_⟩;unfold uD at k;rw[<-e]at k;refine dZ (λhc=>?_) (λhc=>?_)
  ·have hp:p>=0:=jS hc
   rw[aR hp]at k;exact⟨_,Z,k⟩
  ·have hp:¬p>=0:=λz=>hc (bR z)
   rw[aU hp]at k;exact⟨_,Z,_,Z,k⟩
def Sq(ns:List Int)(k:Int):ah:=.tuple ((ns.map λz=>uD (k*z) (aL ns)).map PyData.int)
theorem UI{k z:Int}(h:k.natAbs<=10^6)(g:(z.natAbs:Int)<=1000):(k*z).natAbs<=10^9:=by rw[oJ];exact fc (zY h (show z.natAbs<=1000 by lia)) ay
inductive a6m(K:aa)(vs:List V)(H:Hp)(Q:VK):Prop |mk (v:_)(ns:_)(sp:_)(k:_)(h0:vs=[v,.int k])(h1:RD K H v (dh ns sp))(h2:eL ns.length 1000 ns)(h3:ns.length<=1000)(h4:k.natAbs<=10^6)(h5:∀v' H',RD K H' v' (Sq ns k)->az H H'->Q v' H')
def Am(K:aa):Sp:=λvs H Q _=>a6m K vs H Q
abbrev AM:Stmt:=top 51
theorem IP:bc ["line","k","lead"] ["line","k"] (aM AM):=bp aI
theorem VP(F:FA K mg "stand_at" AM)(B:bu mg)(pP:aD P w K mg ao "lead_of" 1 (m7 K))(ZZ:aD P w K mg ao "nearest" 1 Av):aD P w K mg ao "stand_at" 2 (Am K):=by
 refine F.has IP (λvs H Q E h=>?_) (λ_ _ _ _ _ _=>dj λ_ _=>rfl) (λf aF A outer s H vs Q E hr h=>?_)
 ·obtain⟨v,ns,sp,k,rfl,_⟩:=h
  rfl
 ·obtain⟨v,ns,sp,kk,rfl,rd,ok,hz,hk,k⟩:=h
  have nd:=IP.nd;refine⟨_,(aE (pS 2 nd (pf pP hr (ak (pv 0) aw))) (aH (aQ (cT (x:="tuple") (ji K Z) Z (B.at "tuple") gJ (ak (dD (N:=["step","lead","k"]) (js:=[none,some 2,some 1]) rfl rfl rfl (jn K rfl (px K (pv 0) aB)) (λ_ _ _ _ _=>(ba 0 (show List.Nodup (["step","lead","k"]:List Str) by decide+kernel))) (λ_ _ _ _ _=>cX) (λ_ _ _ _ _=>(pf ZZ hr (ak (aK bV (pv 2) (pv 0)) (ak (pv 1) aw))))) aw))))),?_⟩;refine⟨_,Z,v,ns,sp,Z,rd,ok.ne,hz,λH1 s1=>?_⟩;obtain⟨a,b,rfl,ha,hb⟩:=lB (RD.mono s1 _ rd);obtain⟨lp,lm⟩:=ok.lead;refine⟨_,Z,.inr ⟨a,_,1,.ref b,Z,Z,ha,Z,b,Z,⟨_,hb⟩,λD H0 nw=>?_⟩⟩;refine o9 (K:=K) (xs:=ns.map V.int) (ds:=(ns.map λz=>uD (kk*z) (aL ns)).map PyData.int) _ hb nw (by simp) (by simpa using hz) (kr _) ?_ ?_
  ·intro i x d H2 Q' ex ed s2 hq
   rw[wz]at ed;obtain⟨n,en,rfl⟩:=kv ed;cases y4 ex en;refine⟨_,Z,_,Z,_,_,Z,Z,.of_left (cJ au au),_,Z,_,_,Z,au,au,UI hk (ok.bd n (fg en)),?_⟩;exact hq _ _ (az.refl _) (eu _)
  ·intro H' ys s2 d2 r2
   refine⟨D,_,Z,.inl ⟨aG.of d2,λt H4 n4=>?_⟩⟩;exact k _ _ (eZ (aP.of n4.at') (aJ.mono n4.same _ r2)) (s1.trans (s2.trans n4.same))
open Classical in
theorem xK{rs:List Int}{r f j t rate:Int}{ds:List ah}{os:List Itm}(aO:kQ rs r f j t)(row:gs rs.length ds os)(hz:ds.length<=30)(fT:10<=rate)(fS:rate<=200):∀i,i<=os.length->Bd 1700 (qO r f j rate os i):=λi hi=>by have ll:=row.len;have hB:=_O.CS aO.j1.1 aO.j1.2 fT fS row.lq;have hL:∀i m,leadF os i=some m->(2*r*(m:Int)).natAbs<2^24:=λi m e=>oN aO.r1.1 aO.r1.2 (pK row.lq e);have rX:∀i m,leadF os i=some m->(2*f*(m:Int)).natAbs<2^24:=λi m e=>oN aO.f1.1 aO.f1.2 (pK row.lq e);exact(EY (b:=900) (λi hi=>(vJ hB hL i).mono au) rX i hi).mono au
open _R
def kY(m b d q p r s k t:V):List (Str×V):=[("machine",m),("begun_at",b),("done",d),("queue",q),("pace",p),("rate_now",r),("side",s),("mark",k),("stopping",t)]
structure fD(K:aa)(C:Addr):Prop where
 cl:hU K C
 mx:gu K C "machine"
 uG:gu K C "begun_at"
 xX:gu K C "done"
 lA:gu K C "queue"
 xW:gu K C "pace"
 LF:gu K C "rate_now"
 XJ:gu K C "side"
 XM:gu K C "mark"
 Dm:gu K C "stopping"
structure bX where
 rs:List Int
 r:Int
 f:Int
 j:Int
 t:Int
abbrev bX.D(M:bX):ah:=iA M.rs M.r M.f M.j M.t
abbrev bX.Ok(M:bX):Prop:=kQ M.rs M.r M.f M.j M.t
structure bZ where
 pl:List Int
 dn:Nat
 ds:List ah
 os:List Itm
 pc:Rat
 rate:Int
 side:Str
 mark:Str
 ek:_R.qo
def vI(K:aa)(H:Hp)(v:V):_R.qo->Prop |none=>v= .aY |some (sq,st,gn)=>∃a u,v= .ref a/\aP K H a [u,.int st,.int gn]/\bM K H u sq
structure dm(M:bX)(D:Nat)(S:bZ):Prop where
 row:gs M.rs.length S.ds S.os
 rw:RowW S.ds S.os
 len:S.ds.length<=20
 fT:10<=S.rate
 fS:S.rate<=200
 dn:S.dn=0\/∃ns sp,S.os[0]? =some (some (ns,sp))/\S.dn<aL ns
 pl:S.pl.length=M.rs.length
 pd:Dd (D+10) S.pc
 pm:S.pc<=1600
 ek:a5U D S.pc S.ek
 D1:64<=D
 D2:D<=1500
structure cP(K:aa)(C:Addr)(H:Hp)(a q:Addr)(M:bX)(S:bZ):Prop where
 ob:∃dx mv bv cQ tv,H a=some (.ins C dx (kY mv bv (.int S.dn) (.ref q) cQ (.int S.rate) (.str S.side) (.str S.mark) tv))/\RD K H mv M.D/\RD K H bv (cM S.pl)/\bM K H cQ S.pc/\vI K H tv S.ek
 qu:∃ys,H q=some (.lst ys)/\aJ K H ys S.ds
theorem bM.v{H H':Hp}{v:V}{q:Rat}(s:eK H H')(h:bM K H v q):bM K H' v q:=by obtain⟨p,rfl,hp⟩:=h;exact⟨p,Z,aP.v s hp⟩
theorem vI.v{H H':Hp}{v:V}{t:_R.qo}(s:eK H H')(h:vI K H v t):vI K H' v t:=by cases t with |none=>exact h |some q=>obtain⟨sq,st,gn⟩:=q;obtain⟨a,u,rfl,h1,h2⟩:=h;exact⟨a,u,Z,aP.v s h1,bM.v s h2⟩
theorem cP.go{C:Addr}{H H':Hp}{a q:Addr}{M:bX}{S:bZ}(h:cP K C H a q M S)(hn:cy S.ds=true)(s:eK H H')(ea:∀o,H a=some o->H' a=some o)(eq:∀o,H q=some o->H' q=some o):cP K C H' a q M S:=by obtain⟨⟨dx,mv,bv,cQ,tv,e,r1,r2,r3,r4⟩,ys,vx,rq⟩:=h;exact⟨⟨dx,mv,bv,cQ,tv,ea _ e,RD.v s _ (iY _ _ _ _ _) r1,RD.v s _ (iz _) r2,r3.v s,r4.v s⟩,ys,eq _ vx,aJ.v s _ hn rq⟩
theorem cP.same{C:Addr}{H H':Hp}{a q:Addr}{M:bX}{S:bZ}(h:cP K C H a q M S)(hn:cy S.ds=true)(s:az H H'):cP K C H' a q M S:=h.go hn s.v (λo e=>s _ _ e) (λo e=>s _ _ e)
theorem cP.ne{C:Addr}{H:Hp}{a q:Addr}{M:bX}{S:bZ}(h:cP K C H a q M S):a≠q:=by obtain⟨⟨dx,mv,bv,cQ,tv,e,_⟩,ys,vx,_⟩:=h;exact nM e vx (by intro z;cases z)
theorem cP.v{C:Addr}{H H':Hp}{a q:Addr}{M:bX}{S:bZ}(h:cP K C H a q M S)(b:cB [a,q] H H'):eK H H':=by
 obtain⟨⟨dx,mv,bv,cQ,tv,e,_⟩,ys,vx,_⟩:=h;refine b.v λx hx o eo=>?_;simp only[bS,eS,jR]at hx;rcases hx with rfl|rfl
 ·rw[e]at eo;cases eo;trivial
 ·rw[vx]at eo;cases eo;trivial
inductive a6k(K:aa)(C:Addr)(G:bX->bZ->Hp->VK->Prop)(vs:List V)(H:Hp)(Q:VK):Prop |mk (a:_)(q:_)(M:_)(D:_)(S:_)(h0:vs=[.ref a])(h1:cP K C H a q M S)(h2:dm M D S)(h3:M.Ok)(h4:G M S H Q)
def fJ(K:aa)(C:Addr)(G:bX->bZ->Hp->VK->Prop):Sp:=λvs H Q _=>a6k K C G vs H Q
abbrev B0:Stmt:=inClass (top 74) 4
theorem SY:bc ["self"] ["self"] (aM B0):=bp aI
theorem VZ{C:Addr}(F:MA K C "rate" "Runner.rate" B0)(TC:fD K C):cV P w K mg ao C "rate" 1 (fJ K C λ_ S H Q=>Q (.int S.rate) H):=by
 refine F.has SY (λvs H Q E h=>?_) (λ_ _ _ _ _ _=>cE λ_=>rfl) (λf aF A outer s H vs Q E hr h=>?_)
 ·obtain⟨a,q,M,D,S,rfl,_⟩:=h
  rfl
 ·obtain⟨a,q,M,D,S,rfl,R,ok,aO,k⟩:=h
  obtain⟨dx,mv,bv,cQ,tv,e,r1,r2,r3,r4⟩:=R.ob;exact⟨_,(aH (aQ (dQ TC.cl TC.LF (pv 0)))),_,Z,a,dx,_,_,Z,e,Z,k⟩
abbrev AX:Stmt:=inClass (top 74) 7
theorem SW:bc ["self"] ["self"] (aM AX):=bp aI
theorem VW{C:Addr}(F:MA K C "waiting" "Runner.waiting" AX)(TC:fD K C)(B:bu mg):cV P w K mg ao C "waiting" 1 (fJ K C λ_ S H Q=>∀l ys H',H l=none->H' l=some (.lst ys)->aJ K H' ys S.ds->az H H'->Q (.ref l) H'):=by
 refine F.has SW (λvs H Q E h=>?_) (λ_ _ _ _ _ _=>cE λ_=>rfl) (λf aF A outer s H vs Q E hr h=>?_)
 ·obtain⟨a,q,M,D,S,rfl,_⟩:=h
  rfl
 ·obtain⟨a,q,M,D,S,rfl,R,ok,aO,k⟩:=h
  obtain⟨dx,mv,bv,cQ,tv,e,r1,r2,r3,r4⟩:=R.ob;obtain⟨ys,eq,rq⟩:=R.qu;refine⟨_,(aH (aQ (cT (x:="list") (DF K Z) Z (B.at "list") Q8 (ak (dQ TC.cl TC.lA (pv 0)) aw)))),_,Z,a,dx,_,_,Z,e,Z,q,ys,Z,.inl (aG.of eq),λl H1 n1=>?_⟩;exact k l ys H1 n1.no n1.at' (aJ.mono n1.same _ rq) n1.same
abbrev B8:Stmt:=inClass (top 74) 8
theorem T6:bc ["self"] ["self"] (aM B8):=bp aI
theorem W8{C:Addr}(F:MA K C "is_held" "Runner.is_held" B8)(TC:fD K C):cV P w K mg ao C "is_held" 1 (fJ K C λ_ S H Q=>Q (.bl S.ek.isSome) H):=by
 refine F.has T6 (λvs H Q E h=>?_) (λ_ _ _ _ _ _=>cE λ_=>rfl) (λf aF A outer s H vs Q E hr h=>?_)
 ·obtain⟨a,q,M,D,S,rfl,_⟩:=h
  rfl
 ·obtain⟨a,q,M,D,S,rfl,R,ok,aO,k⟩:=h
  obtain⟨dx,mv,bv,cQ,tv,e,r1,r2,r3,r4⟩:=R.ob;refine⟨_,(aH (aQ (jE L5 (dQ TC.cl TC.Dm (pv 0)) gj (bC _)))),_,Z,a,dx,_,_,Z,e,Z,?_⟩;cases hs:S.ek with |none=>rw[hs]at r4 k;cases(show tv= .aY from r4);exact⟨Z,k⟩ |some z=>rw[hs]at r4 k;obtain⟨sq,st,gn⟩:=z;obtain⟨b,u,rfl,_⟩:=r4;exact⟨Z,k⟩
theorem Uc(q:Rat):PyData.eqv (cx q) (cx 0)=decide (q=0):=by
 by_cases h:q=0
 ·rw[bR h];exact eqR h
 ·rw[dM h]
  cases e:PyData.eqv (cx q) (cx 0)with |false=>rfl |true=>
   exfalso;apply h;have e':(PyData.eqv (.int q.num) (.int (0:Rat).num)&&(PyData.eqv (.int (q.den:Int)) (.int ((0:Rat).den:Int))&&true))=true:=e;rw[GF,du]at e';obtain⟨a,b⟩:=e';have h1:q.num=(0:Rat).num:=by simpa[PyData.eqv]using a
   have h2:(q.den:Int)=((0:Rat).den:Int):=by simpa[PyData.eqv]using b
   exact Rat.ext h1 au
abbrev AZ:Stmt:=inClass (top 74) 9
theorem SX:bc ["self"] ["self"] (aM AZ):=bp aI
theorem VY{C:Addr}(F:MA K C "stands" "Runner.stands" AZ)(TC:fD K C)(gN:GT K mg "NOUGHT" [.int 0,.int 1]):cV P w K mg ao C "stands" 1 (fJ K C λ_ S H Q=>Q (.bl (decide (S.pc=0))) H):=by
 obtain⟨aN,mH,nu⟩:=gN;refine F.has SX (λvs H Q E h=>?_) (λ_ _ _ _ _ _=>cE λ_=>rfl) (λf aF A outer s H vs Q E hr h=>?_)
 ·obtain⟨a,q,M,D,S,rfl,_⟩:=h
  rfl
 ·obtain⟨a,q,M,D,S,rfl,R,ok,aO,k⟩:=h
  obtain⟨dx,mv,bv,cQ,tv,e,r1,r2,r3,r4⟩:=R.ob;refine⟨_,(aH (aQ (jE (dv K Z hr.units) (dQ TC.cl TC.xW (pv 0)) (cD (x:="NOUGHT") rfl mH) (bC _)))),_,Z,a,dx,_,_,Z,e,Z,.inr ⟨_,_,r3.rd,(uA (nu H)).rd,Z,Z,?_⟩⟩;rw[Uc];exact k
abbrev B7:Stmt:=inClass (top 74) 10
theorem T5:bc ["self"] ["self"] (aM B7):=bp aI
theorem W7{C:Addr}(F:MA K C "is_halted" "Runner.is_halted" B7)(TC:fD K C)(ED:cV P w K mg ao C "is_held" 1 (fJ K C λ_ S H Q=>Q (.bl S.ek.isSome) H))(a1y:cV P w K mg ao C "stands" 1 (fJ K C λ_ S H Q=>Q (.bl (decide (S.pc=0))) H)):cV P w K mg ao C "is_halted" 2 (fJ K C λ_ S H Q=>Q (.bl (S.ek.isSome&&decide (S.pc=0))) H):=by
 refine F.has T5 (λvs H Q E h=>?_) (λ_ _ _ _ _ _=>cE λ_=>rfl) (λf aF A outer s H vs Q E hr h=>?_)
 ·obtain⟨a,q,M,D,S,rfl,_⟩:=h
  rfl
 ·obtain⟨a,q,M,D,S,rfl,R,ok,aO,k⟩:=h
  obtain⟨dx,mv,bv,cQ,tv,e,r1,r2,r3,r4⟩:=R.ob;refine⟨_,(aH (aQ (qS (iT ED TC.cl (hr.mono ay) (pv 0)) (qQ (iT a1y TC.cl (hr.mono ay) (pv 0)))))),_,Z,a,dx,_,Z,e,Z,a,q,M,D,S,Z,R,ok,aO,_,Z,?_⟩;cases hs:S.ek.isSome with |false=>rw[hs]at k;exact aZ k |true=>rw[hs]at k;refine bE ⟨_,Z,a,dx,_,Z,e,Z,a,q,M,D,S,Z,R,ok,aO,?_⟩;exact k
def Aj(ns:List Int)(k:Int):List Int:=ns.map λz=>uD (k*z) (aL ns)
def iy(S:bZ):List Int:=if S.dn=0 then S.pl else match S.os[0]? with |some (some (ns,_))=>ja S.pl (Aj ns S.dn) |_=>S.pl
def cn(S:bZ):List Int:=S.os.foldl dF S.pl
theorem zr{n:Nat}{pl:List Int}{o:Itm}(h:pl.length=n)(ho:∀ns sp,o=some (ns,sp)->ns.length=n):(dF pl o).length=n:=by cases o with |none=>exact h |some q=>obtain⟨ns,sp⟩:=q;show(ja pl ns).length=n;rw[zA (by rw[ho ns sp Z,h])];exact h
theorem yS{n:Nat}:∀(os:List Itm)(pl:List Int),pl.length=n->(∀o∈os,∀ns sp,o=some (ns,sp)->ns.length=n)->(os.foldl dF pl).length=n |[],pl,h,_=>h |o::os,pl,h,ho=>yS os (dF pl o) (zr h (ho o (.head _))) λx hx=>ho x (.tail _ hx)
theorem dm.nF{M:bX}{D:Nat}{S:bZ}(h:dm M D S):∀o∈S.os,∀ns sp,o=some (ns,sp)->ns.length=M.rs.length:=λo ho ns sp e=>by obtain⟨i,hi⟩:=oE.mp ho;rw[e]at hi;exact(h.row.ok i ns sp hi).1.len
theorem dm.first{M:bX}{D:Nat}{S:bZ}(h:dm M D S)(hn:S.dn≠0):∃ns sp,S.os[0]? =some (some (ns,sp))/\S.dn<aL ns:=by
 rcases h.dn with e|e
 ·exact(hn e).elim
 ·exact e
abbrev B3:Stmt:=inClass (top 74) 1
theorem T3:bc ["self"] ["self"] (aM B3):=bp aI
theorem W0{C:Addr}(F:MA K C "place" "Runner.place" B3)(TC:fD K C)(Ee:aD P w K mg ao "moved" 1 (xk K))(ZF:aD P w K mg ao "stand_at" 2 (Am K)):cV P w K mg ao C "place" 3 (fJ K C λ_ S H Q=>∀v H',RD K H' v (cM (iy S))->az H H'->Q v H'):=by
 refine F.has T3 (λvs H Q E h=>?_) (λ_ _ _ _ _ _=>cE λ_=>rfl) (λf aF A outer s H vs Q E hr h=>?_)
 ·obtain⟨a,q,M,D,S,rfl,_⟩:=h
  rfl
 ·obtain⟨a,q,M,D,S,rfl,R,ok,aO,k⟩:=h
  obtain⟨dx,mv,bv,cQ,tv,e,r1,r2,r3,r4⟩:=R.ob;obtain⟨ys,eq,rq⟩:=R.qu;refine⟨_,(aE (bB (bI (dv K Z hr.units) (dQ TC.cl TC.xX (pv 0)) aB (bC _)) (aH (aQ (dQ TC.cl TC.uG (pv 0)))) bD) (aH (aQ (pf Ee hr (ak (dQ TC.cl TC.uG (pv 0)) (ak (pf ZF hr (ak (px K (dQ TC.cl TC.lA (pv 0)) aB) (ak (dQ TC.cl TC.xX (pv 0)) aw))) aw)))))),_,Z,a,dx,_,_,Z,e,Z,.inl ⟨_,_,Z,Z,_,Z,?_⟩⟩;by_cases h0:S.dn=0
  ·rw[bR au]
   have ep:iy S=S.pl:=by unfold iy;rw[aR h0]
   rw[ep]at k;exact bE ⟨_,Z,a,dx,_,_,Z,e,Z,k bv H r2 (az.refl _)⟩
  ·rw[dM au]
   refine aZ ?_;obtain⟨ns,sp,eo,hd⟩:=ok.first h0;obtain⟨eG,eT,iR⟩:=ok.row.ok 0 ns sp eo;have ep:iy S=ja S.pl (Aj ns S.dn):=by unfold iy;rw[aU h0,eo]
   rw[ep]at k;have ll:=ok.row.len;have hl0:0<S.os.length:=(dN.mp eo).1;obtain⟨d,ed⟩:∃d,S.ds[0]? =some d:=⟨_,cI (show 0<S.ds.length by lia)⟩;obtain⟨y,ey,ry⟩:=rq.get 0 ed;have it:=ok.row.it 0 d _ ed eo;have dw:=jr it;subst dw;have a8Q:=DK eG;have lr:=aO.len;refine⟨_,Z,a,dx,_,_,Z,e,Z,?_⟩;refine⟨_,Z,a,dx,_,_,Z,e,Z,.inl ⟨q,_,0,y,Z,Z,aG.of eq,cN (fH 0) ey,?_⟩⟩;refine⟨_,Z,a,dx,_,_,Z,e,Z,y,ns,sp,_,Z,ry,⟨Z,λz hz=>by have:=eG.bd z hz;lia,eG.nz⟩,by rw[eG.len];lia,au,λu H1 ru s1=>?_⟩;obtain⟨b,xs,rfl,hb,hx⟩:=ru.cg;rw[hx.eO]at hb;exact⟨bv,b,S.pl,_,Z,RD.mono s1 _ r2,hb,by rw[bA,eG.len,ok.pl],by rw[ok.pl];lia,λv H2 rv s2=>k v H2 rv (s1.trans s2)⟩
abbrev B4:Stmt:=inClass (top 74) 2
theorem J0:bc ["self","here","item"] ["self"] (aM B4):=bp aI
theorem W3{C:Addr}(F:MA K C "leads_to" "Runner.leads_to" B4)(TC:fD K C)(E7:aD P w K mg ao "place_behind" 2 (oU K)):cV P w K mg ao C "leads_to" 3 (fJ K C λ_ S H Q=>∀v H',RD K H' v (cM (cn S))->az H H'->Q v H'):=by
 refine F.has J0 (λvs H Q E h=>?_) (λ_ _ _ _ _ _=>cE λ_=>rfl) (λf aF A outer s H vs Q E hr h=>?_)
 ·obtain⟨a,q,M,D,S,rfl,_⟩:=h
  rfl
 ·obtain⟨a,q,M,D,S,rfl,R,ok,aO,k⟩:=h
  obtain⟨dx,mv,bv,cQ,tv,e,r1,r2,r3,r4⟩:=R.ob;obtain⟨ys,eq,rq⟩:=R.qu;have nd:=J0.nd;have ll:=ok.row.len;have ly:=rq.length;have lr:=aO.len;refine⟨_,(aE (pS 1 nd (dQ TC.cl TC.uG (pv 0))) (aE (kg je Z (pk K Z (dQ TC.cl TC.lA (pv 0))) (ba 2 nd) (aH (pS 1 nd (pf E7 hr (ak (pv 1) (ak (pv 2) aw)))))) (aH (aQ (pv 1))))),_,Z,a,dx,_,_,Z,e,Z,_,Z,a,dx,_,_,Z,e,Z,q,Z,⟨_,aG.of eq⟩,?_⟩;refine Nd (K:=K) (a:=q) (xs:=ys) (λi O H1=>az H H1/\∃hv v2,RD K H1 hv (cM ((S.os.take i).foldl dF S.pl))/\O=[some (.ref a),some hv,v2]) ⟨az.refl _,bv,none,r2,Z⟩ (λi O H1 _ h=>aG.of (h.1 _ _ eq)) ?_ ?_
  ·rintro i x O H1 hx ⟨s1,hv,v2,rh,rfl⟩
   obtain⟨d,ed,rd⟩:=rq.get' i hx;obtain⟨o,eo,it⟩:=ok.row.get ed;have lp:((S.os.take i).foldl dF S.pl).length=M.rs.length:=yS _ _ ok.pl λo ho=>ok.nF o (A2 ho);refine⟨_,Z,_,Z,hv,x,_,d,o,Z,rh,RD.mono s1 _ rd,it,λns sp e'=>by rw[lp];exact ok.nF o (fg eo) ns sp e',au,λv H2 rv s2=>?_⟩;refine⟨s1.trans s2,v,_,?_,Z⟩;rw[wx,eo,Qk];exact rv
  ·rintro O H1 ⟨s1,hv,v2,rh,rfl⟩
   rw[ly,ll,wy]at rh;exact⟨_,Z,k hv H1 rh s1⟩
abbrev B5:Stmt:=inClass (top 74) 0
theorem T4:bc ["self","machine","place"] ["self","machine","place"] (aM B5):=bp aI
def ij(pl:List Int):bZ:=⟨pl,0,[],[],0,100,"up","",none⟩
inductive a6v(K:aa)(C:Addr)(vs:List V)(H:Hp)(Q:VK):Prop |mk (a:_)(dx:_)(mv:_)(f6:_)(M:_)(pl:_)(h0:vs=[.ref a,mv,f6])(h1:H a=some (.ins C dx []))(h2:RD K H mv (bX.D M))(h3:RD K H f6 (cM pl))(h4:∀q H',cP K C H' a q M (ij pl)->H q=none->cB [a] H H'->Q .aY H')
def HR(K:aa)(C:Addr):Sp:=λvs H Q _=>a6v K C vs H Q
theorem W5{C:Addr}(F:CA K mg C "Runner" "Runner.__init__" B5)(TC:fD K C)(gN:GT K mg "NOUGHT" [.int 0,.int 1])(a1q:GV mg "FIRST_RATE" (.int 100)):sL P w K mg ao C "Runner" 1 (HR K C):=by
 obtain⟨aN,mH,nu⟩:=gN;refine F.has T4 (λvs H Q E h=>?_) (λ_ _ _ _ _ _=>lO λ_ _ _=>rfl) (λf aF A outer s H vs Q E hr h=>?_)
 ·obtain⟨a,dx,mv,f6,M,pl,rfl,_⟩:=h
  rfl
 ·obtain⟨a,dx,mv,f6,M,pl,rfl,e,rm,rp,k⟩:=h
  refine⟨_,(aE (ir TC.cl TC.mx (pv 0) (pv 1)) (aE (ir TC.cl TC.uG (pv 0) (pv 2)) (aE (ir TC.cl TC.xX (pv 0) aB) (aE (ir TC.cl TC.lA (pv 0) (ft aw)) (aE (ir TC.cl TC.xW (pv 0) (cD (x:="NOUGHT") rfl mH)) (aE (ir TC.cl TC.LF (pv 0) (cD (x:="FIRST_RATE") rfl a1q)) (aE (ir TC.cl TC.XJ (pv 0) bq) (aE (ir TC.cl TC.XM (pv 0) bq) (aH (ir TC.cl TC.Dm (pv 0) gj)))))))))),?_⟩;refine⟨_,Z,_,Z,a,dx,_,Z,e,ay,?_⟩;refine⟨_,Z,_,Z,a,dx,_,Z,bU,by show 1<1000;decide,?_⟩;refine⟨_,Z,a,dx,_,Z,bU,by show 2<1000;decide,?_⟩;refine⟨bW Z,λq H1 n1=>?_⟩;have aq:a≠q:=λz=>by have:=n1.no;rw[<-z,bU]at this;cases this
  have e1:=n1.same _ _ (bU (a:=a));refine⟨_,Z,a,dx,_,Z,e1,by show 3<1000;decide,?_⟩;refine⟨_,Z,a,dx,_,Z,bU,by show 4<1000;decide,?_⟩;refine⟨_,Z,a,dx,_,Z,bU,by show 5<1000;decide,?_⟩;refine⟨_,Z,a,dx,_,Z,bU,by show 6<1000;decide,?_⟩;refine⟨_,Z,a,dx,_,Z,bU,by show 7<1000;decide,?_⟩;refine⟨_,Z,a,dx,_,Z,bU,by show 8<1000;decide,?_⟩;have key:∀X:Hp,(∀b,b≠a->X b=H1 b)->Q .aY (_L.upd X a (.ins C dx (kY mv f6 (.int 0) (.ref q) (.ref aN) (.int 100) (.str "up") (.str "") .aY))):=by
   intro X hX;have bt:cB [a] H (_L.upd X a (.ins C dx (kY mv f6 (.int 0) (.ref q) (.ref aN) (.int 100) (.str "up") (.str "") .aY))):=λb o eb hb=>by have ha:b≠a:=λz=>hb (by rw[z];exact .head _);rw[bh ha,hX b ha];exact n1.same _ _ (by rw[bh ha,bh ha,bh ha];exact eb)
   have sv:=bt.v λx hx o eo=>by rw[cS]at hx;rw[hx,e]at eo;cases eo;trivial
   refine k q _ ⟨⟨dx,mv,f6,.ref aN,.aY,bU,RD.v sv _ (iY _ _ _ _ _) rm,RD.v sv _ (iz _) rp,uA (nu _),Z⟩,[],?_,de⟩ ?_ bt
   ·rw[bh aq.symm,hX q aq.symm];exact n1.at'
   ·have:=n1.no
    rw[bh aq.symm,bh aq.symm,bh aq.symm]at this;exact this
  exact key _ (λb hb=>by rw[bh hb,bh hb,bh hb,bh hb,bh hb])
theorem TX{M:bX}{pl:List Int}(hp:pl.length=M.rs.length):dm M 64 (ij pl):=⟨.nil,λi d e=>by simp[ij]at e,by simp[ij],(show(10:Int)<=100 by decide),(show(100:Int)<=200 by decide),.inl rfl,hp,⟨(show(0:Rat)<=0 by decide),(show(0:Rat).den<2^74 by decide+kernel)⟩,(show(0:Rat)<=1600 by decide+kernel),trivial,ay,ay⟩
theorem La{rs pl:List Int}(h:fE rs pl):yi rs (cM pl)=true:=by show((pl.map PyData.int).length==rs.length&&(((pl.map PyData.int).zip rs).map λp=>cw 0 p.2 p.1).all id)=true;rw[bA,h.len,wg,gc,fh];intro b hb;obtain⟨⟨d,r⟩,hm,rfl⟩:=cH.mp hb;obtain⟨i,hi⟩:=oE.mp hm;obtain⟨e1,e2⟩:=(oF (z:=(d,r))).mp hi;rw[bK]at e1;cases e:pl[i]? with |none=>rw[e]at e1;cases e1 |some x=>rw[e]at e1;cases e1;obtain⟨a1,a2⟩:=h.at' i x r e e2;show(decide (0<=x)&&decide (x<=r))=true;rw[bR a1,bR a2];rfl
def lL(S:bZ)(d:ah)(o:Itm):bZ:={S with ds:=S.ds++[d],os:=S.os++[o]}
theorem dm.sk{M:bX}{D:Nat}{S:bZ}{d:ah}{o:Itm}(h:dm M D S)(it:hJ M.rs.length d o)(hl:S.ds.length<20):dm M D (lL S d o):=by
 have ll:=h.row.len;refine⟨h.row.snoc it.it it.ln,RowW.snoc h.rw ll it.ot,by show(S.ds++[d]).length<=20;rw[fQ];show _+1<=20;lia,h.fT,h.fS,?_,h.pl,h.pd,h.pm,h.ek,h.D1,h.D2⟩;rcases h.dn with e|⟨ns,sp,e,e2⟩
 ·exact .inl e
 ·refine .inr ⟨ns,sp,?_,e2⟩
  show(S.os++[o])[0]? =_;rw[wC (dN.mp e).1];exact e
abbrev B9:Stmt:=inClass (top 74) 11
theorem J4:bc ["self","item"] ["self","item"] (aM B9):=bp aI
def a4Q(s:Stmt):List Stmt:=match s with | .ClassDef _ _ _ b _ _ _ _ _ _ _=>b |_=>[]
abbrev AE:Stmt:=(a4Q (top 5)).getD 0 (.Pass ⟨0,0,0,0⟩)
theorem IE:bc ["self","at"] ["self","at"] (aM AE):=bp aI
inductive a6d(K:aa)(vs:List V)(H:Hp)(Q:VK):Prop |mk (ex:_)(C:_)(y:_)(h0:vs=[.ref ex,y])(h1:H ex=some (.ext (qt ex C)))(h2:FQ K C "at")(h3:∀dx,H dx=none->dx≠ex->Q .aY (_L.upd (_L.upd H dx (.xd [("at",y)])) ex (.ext (mX ex C dx))))
def HE(K:aa):Sp:=λvs H Q _=>a6d K vs H Q
theorem VF{f:Addr}{fd:FuncData}(F:iI K "__init__" "OffRails.__init__" AE f fd):f9 P w K mg ao g9 1 f fd ["self","at"] (HE K):=by
 refine F.ok IE (λvs H Q E h=>?_) (λaF A outer s H vs Q E hr h=>?_)
 ·obtain⟨ex,C,y,rfl,_⟩:=h
  rfl
 ·obtain⟨ex,C,y,rfl,e1,xc,k⟩:=h
  have nd:=IE.nd;refine⟨_,(aH (UE K Z (pv 0) (pv 1))),?_⟩;exact⟨_,Z,_,Z,ex,C,Z,e1,xc,k⟩
structure Pj(K:aa)(mg:bf)(C fI:Addr):Prop where
 e:qv K mg "OffRails" C fI gF gO
 i:PySem.W.findIn K (.ref C) "__init__"=some (some (.ref fI))
 x:FQ K C "at"
 f:fnAt K fI=true
 fn:∃fd,iI K "__init__" "OffRails.__init__" AE fI fd
structure jy where
 n:Addr
 o:Addr
 f:Addr
 m:Addr
 r:Addr
 i:Addr
structure zF(K:aa)(mg:bf)(R:jy):Prop where
 n:Exc K mg "NoItem" R.n gF gO
 o:Pj K mg R.o R.i
 f:Exc K mg "Full" R.f gF gO
 m:Exc K mg "Moving" R.m gF gO
 r:Exc K mg "NoRate" R.r gF gO
theorem Z9{rs pl:List Int}(h:pl.length=rs.length):yi rs (cM pl)=gC rs pl:=by show((pl.map PyData.int).length==rs.length&&(((pl.map PyData.int).zip rs).map λp=>cw 0 p.2 p.1).all id)=_;rw[bA,h,wg,gc,List.zip_map_left,wz,Gy];rfl
inductive a6x(K:aa)(C:Addr)(R:jy)(vs:List V)(H:Hp)(Q:VK)(E:XK):Prop |mk (a:_)(q:_)(M:_)(D:_)(S:_)(v:_)(d:_)(h0:vs=[.ref a,v])(h1:cP K C H a q M S)(h2:dm M D S)(h3:M.Ok)(h4:RD K H v d)(h5:cF 8 d)(h6:oZ d=true)(h7:((iB M.rs.length d=false/\∀H',az H H'->E (.ref R.n) none H')\/∃o,hJ M.rs.length d o/\(gC M.rs (dF (cn S) o)=false->∀H' dx,az H H'->H' dx=some (.xd [("at",.int (S.ds.length:Int))])->E (.ref R.o) (some dx) H')/\(gC M.rs (dF (cn S) o)=true->S.ds.length=20->∀H',az H H'->E (.ref R.f) none H')/\(gC M.rs (dF (cn S) o)=true->S.ds.length<20->∀H',cP K C H' a q M (lL S d o)->cB [a,q] H H'->Q (.int (S.ds.length+1:Nat)) H')))
def Ao(K:aa)(C:Addr)(R:jy):Sp:=λvs H Q E=>a6x K C R vs H Q E
theorem W9{C:Addr}{R:jy}(F:MA K C "feed" "Runner.feed" B9)(TC:fD K C)(B:bu mg)(X:zF K mg R)(a1g:GV mg "MOST_WAITING" (.int 20))(Ej:aD P w K mg ao "is_item" 4 (xo K))(uZ:aD P w K mg ao "is_place" 3 (tR K))(E7:aD P w K mg ao "place_behind" 2 (oU K))(EB:cV P w K mg ao C "leads_to" 3 (fJ K C λ_ S H Q=>∀v H',RD K H' v (cM (cn S))->az H H'->Q v H')):mT P w K mg ao C "feed" 5 (Ao K C R):=by
 have OC:=X.o;obtain⟨fd,FI⟩:=OC.fn;have a21:=X.n;have a22:=X.f;have a20:=OC.e;have a1S:f9 P w K mg ao g9 1 R.i fd ["self","at"] (HE K):=VF FI;have a2b:Binds K fd ["self","at"] []:=FI.binds (λ_ _ _ _ _ _=>dj λ_ _=>rfl);have a1Z:=OC.f;refine F.Eu J4 (λvs H Q E h=>?_) (λ_ _ _ _ _ _=>dj λ_ _=>rfl) (λf aF A outer s H vs Q E hr h=>?_)
 ·obtain⟨a,q,M,D,S,v,d,rfl,_⟩:=h
  rfl
 ·obtain⟨a,q,M,D,S,v,d,rfl,Ra,ok,aO,rd,i2,i3,kk⟩:=h
  obtain⟨dx,mv,bv,cQ,tv,e,r1,r2,r3,r4⟩:=Ra.ob;obtain⟨ys,eq,rq⟩:=Ra.qu;have nd:=J4.nd;have lr:=aO.len;have ly:=rq.length;refine⟨_,(aE (bB (df (cC (pf Ej hr (ak (dQ TC.cl TC.mx (pv 0)) (ak (pv 1) aw))))) (aH (uf (λ_ _ _ _ _ _ _ I m q=>tE I m q) a21 wt hr.hd Z (ak bq aw))) bD) (aE (bB (df (cC (pf uZ hr (ak (dQ TC.cl TC.mx (pv 0)) (ak (pf E7 hr (ak (iT EB TC.cl (hr.mono ay) (pv 0)) (ak (pv 1) aw))) aw))))) (aH (UH (λ_ _ _ _ _ _ I a b q=>QH I a b q) a20 wt hr.hd a1S (hr.mono ay) a2b a1Z Z (ak (eF K B (ak (dQ TC.cl TC.lA (pv 0)) aw)) aw))) bD) (aE (bB (bI CW (eF K B (ak (dQ TC.cl TC.lA (pv 0)) aw)) (cD (x:="MOST_WAITING") rfl a1g) (bC _)) (aH (uf (λ_ _ _ _ _ _ _ I m q=>tE I m q) a22 wt hr.hd Z (ak bq aw))) bD) (aE (ug (uq K Z (dQ TC.cl TC.lA (pv 0)) (ak (pv 1) aw))) (aH (aQ (eF K B (ak (dQ TC.cl TC.lA (pv 0)) aw)))))))),?_⟩;refine⟨_,Z,a,dx,_,_,Z,e,Z,_,Z,mv,v,M.rs,_,d,Z,r1,rd,au,i2,i3,λH1 s1=>⟨_,Z,?_⟩⟩;rcases kk with⟨i1,kn⟩|⟨o,it,ko,kf,kd⟩
  ·rw[i1]
   exact bE ⟨bW Z,kn _ s1⟩
  rw[it.is.1];refine aZ ?_;have e1:=s1 _ _ e;have R1:=Ra.same ok.row.no s1;refine⟨_,Z,a,dx,_,_,Z,e1,Z,?_⟩;refine⟨_,Z,a,dx,_,Z,e1,Z,a,q,M,D,S,Z,R1,ok,aO,λg H2 rg s2=>?_⟩;have gh:=s1.trans s2;have gl:(cn S).length=M.rs.length:=yS _ _ ok.pl ok.nF;have bl:(dF (cn S) o).length=M.rs.length:=zr gl λns sp eo=>(it.ln ns sp eo).1.len;refine⟨_,Z,g,v,cn S,d,o,Z,rg,RD.mono gh _ rd,it.it,λns sp e'=>by rw[gl];exact(it.ln ns sp e').1.len,au,λu H3 ru s3=>?_⟩;have jD:=gh.trans s3;refine⟨mv,u,M.rs,_,_,Z,RD.mono jD _ r1,ru,au,λH4 s4=>⟨_,Z,?_⟩⟩;rw[Z9 bl];have jk:=jD.trans s4;have e4:=jk _ _ e;have eq4:=jk _ _ eq;cases ho:gC M.rs (dF (cn S) o)with
  |false=>
   refine bE ?_;refine⟨_,Z,a,dx,_,_,Z,e4,Z,q,_,Z,.inl (aG.of eq4),bW Z,λex fx=>?_⟩;refine⟨ex,R.o,_,Z,bU,OC.x,λdd Nj ne=>⟨Z,dd,bU,?_⟩⟩;have fdx:H4 dd=none:=by rw[bh ne]at Nj;exact Nj
   rw[ly];refine ko ho _ dd (λb o' eb=>?_) ?_
   ·have e5:=jk b o' eb
    have nb:b≠ex:=fv e5 fx;have gm:b≠dd:=fv e5 fdx;rw[qd nb,bh nb,bh gm,bh nb];exact e5
   ·rw[qd ne,bh ne,bU] |true=>
   refine aZ ?_;refine⟨_,Z,a,dx,_,_,Z,e4,Z,q,_,Z,.inl (aG.of eq4),_,_,Z,Z,_,Z,?_⟩;by_cases nU:S.ds.length=20
   ·rw[show decide ((ys.length:Int)>=20)=true from bR au]
    exact bE ⟨bW Z,kf ho nU _ jk⟩
   have yc:=ok.len;rw[show decide ((ys.length:Int)>=20)=false from dM au];refine aZ ?_;have j4:sizeLine=16777216:=by decide
   refine⟨_,Z,a,dx,_,_,Z,e4,Z,.inl ⟨Z,_,aG.of eq4⟩,_,Z,q,ys,_,Z,Z,eq4,au,?_⟩;have aq:=Ra.ne;have tu:eK H4 (_L.upd H4 q (.lst (ys++[v]))):=.upd eq4 trivial;have e5:(_L.upd H4 q (.lst (ys++[v]))) a=some (.ins C dx (kY mv bv (.int S.dn) (.ref q) cQ (.int S.rate) (.str S.side) (.str S.mark) tv)):=by rw[bh aq];exact e4
   refine⟨_,Z,a,dx,_,_,Z,e5,Z,q,_,Z,.inl (aG.of bU),?_⟩;have sv:eK H (_L.upd H4 q (.lst (ys++[v]))):=jk.v.trans tu;have el:((ys++[v]).length:Int)=((S.ds.length+1:Nat):Int):=by rw[fQ,ly];rfl
   rw[el];refine kd ho au _ ⟨⟨dx,mv,bv,cQ,tv,e5,RD.v sv _ (iY _ _ _ _ _) r1,RD.v sv _ (iz _) r2,r3.v sv,r4.v sv⟩,_,bU,?_⟩ λb o' eb hb=>?_
   ·exact(aJ.v sv _ ok.row.no rq).append (cj (RD.v sv _ it.it.no rd) de)
   ·have mG:b≠q:=λz=>hb (by rw[z];simp)
    rw[bh mG];exact jk _ _ eb
end
end _c
set_option maxHeartbeats 2000000
namespace _c
open PySem PySem.Spec PyProof.Rows _L _d _l _C _P _W _R
open _O (topR cornO mnO betR atO ownF leadF ownL OkI OkIs)
section
variable {P:af}{w:World}{K:aa}{mg:bf}{ao:Heap}
theorem cP.UB{C:Addr}{H:Hp}{a q dx:Addr}{M:bX}{S S':bZ}{mv bv cQ tv:V}(R:cP K C H a q M S)(e:H a=some (.ins C dx (kY mv bv (.int S.dn) (.ref q) cQ (.int S.rate) (.str S.side) (.str S.mark) tv))){zp xN wV:V}(hn:cy S.ds=true)(hd:S'.ds=S.ds) (r1:RD K H mv M.D)(r2:RD K H zp (cM S'.pl))(r3:bM K H xN S'.pc)(r4:vI K H wV S'.ek):cP K C (_L.upd H a (.ins C dx (kY mv zp (.int S'.dn) (.ref q) xN (.int S'.rate) (.str S'.side) (.str S'.mark) wV))) a q M S':=by
 have v:eK H (_L.upd H a (.ins C dx (kY mv zp (.int S'.dn) (.ref q) xN (.int S'.rate) (.str S'.side) (.str S'.mark) wV))):=.upd e trivial;obtain⟨ys,eq,rq⟩:=R.qu;refine⟨⟨dx,mv,zp,xN,wV,bU,RD.v v _ (iY _ _ _ _ _) r1,RD.v v _ (iz _) r2,r3.v v,r4.v v⟩,ys,?_,?_⟩
 ·rw[bh R.ne.symm];exact eq
 ·rw[hd];exact aJ.v v _ hn rq
def ie(f:Int)(pc:Rat):Int:=(pc.num+2*f*(pc.den:Int)-1)/(2*f*(pc.den:Int))
theorem Sk{f:Int}(hf:1<=f){pc:Rat}(h:0<=pc):(0<=ie f pc)/\(ie f pc=0->pc=0)/\pc<=((2*f*ie f pc:Int):Rat)/\(pc<=1600->ie f pc<=1000):=by
 have hn:=Rat.num_nonneg.mpr h;have hd:0<2*f*(pc.den:Int):=qE au (den_pos pc);have Ep:2*(pc.den:Int)<=2*f*(pc.den:Int):=by
  have:2*1*(pc.den:Int)<=2*f*(pc.den:Int):=Int.mul_le_mul_of_nonneg_right au au
  lia
 unfold ie;generalize hD:2*f*(pc.den:Int)=dd at hd Ep;have q1:=Int.mul_ediv_add_emod (pc.num+dd-1) dd;have q2:=nh (pc.num+dd-1) (show dd≠0 by lia);have q3:=qF (pc.num+dd-1) hd;have q0:0<=(pc.num+dd-1)/dd:=Int.ediv_nonneg au au;generalize hQ:(pc.num+dd-1)/dd=Q at q0 q1;generalize(pc.num+dd-1)%dd=R at q1 q2 q3;have hle:pc.num<=dd*Q:=by lia
 refine⟨q0,λe=>?_,?_,λhm=>?_⟩
 ·rw[e,Int.mul_zero]at hle
  have:pc.num=0:=by lia
  exact Rat.num_eq_zero.mp this
 ·refine oz.mp λbT=>?_
  rw[wk,zT,zU]at bT;have e1:2*f*Q*(pc.den:Int)=dd*Q:=by rw[<-hD,Int.mul_right_comm]
  rw[e1]at bT
  lia
 ·have pV:¬((1600:Rat)<pc):=oz.mpr hm
  rw[wk]at pV;have e1:(1600:Rat).num=1600:=rfl;have e2:(1600:Rat).den=1:=rfl;rw[e1,e2]at pV;have h3:pc.num<=1600*(pc.den:Int):=by lia
  refine Int.not_lt.mp λbT=>?_;have h4:dd*1001<=dd*Q:=Int.mul_le_mul_of_nonneg_left au au
  lia
abbrev AY:Stmt:=inClass (top 74) 17
theorem IZ:bc ["self","p","q","in_one"] ["self"] (aM AY):=bp aI
theorem VX{C:Addr}(F:MA K C "stops_in" "Runner.stops_in" AY)(TC:fD K C):cV P w K mg ao C "stops_in" 1 (fJ K C λM S H Q=>Q (.int (ie M.f S.pc)) H):=by
 refine F.has IZ (λvs H Q E h=>?_) (λ_ _ _ _ _ _=>cE λ_=>rfl) (λf aF A outer s H vs Q E hr h=>?_)
 ·obtain⟨a,q,M,D,S,rfl,_⟩:=h
  rfl
 ·obtain⟨a,q,M,D,S,rfl,R,ok,aO,k⟩:=h
  obtain⟨dx,mv,bv,cQ,tv,e,r1,r2,⟨pa,rfl,uS⟩,r4⟩:=R.ob;have nd:=IZ.nd;have Nx:=aO.f1;obtain⟨ma,mb,rfl,gr,iZ⟩:=my r1;have bd:Bd 1600 S.pc:=(ok.pd.bd (kR ok.pm aI)).mono (by have:=ok.D2;lia);have hd:0<2*M.f*(S.pc.den:Int):=qE au (den_pos S.pc);have wd:Wd (2*M.f*(S.pc.den:Int)):=by
   refine nj (n:=1700) ?_ ay;rw[oJ];have h1:(2*M.f).natAbs<2^7:=by lia
   have:=uH h1 bd.den;exact fb this (t7 ay ay)
  refine⟨_,(aE (eD (dQ TC.cl TC.xW (pv 0)) (dW K rfl (n:=2) rfl (bP (ba 1 nd) (bP (ba 2 nd) dU)))) (aE (pS 3 nd (aK bV (aK bV aB (px K (dQ TC.cl TC.mx (pv 0)) aB)) (pv 2))) (aH (aQ (aK qV (aK kl (aK dg (pv 1) (pv 3)) aB) (pv 3)))))),?_⟩;refine⟨_,Z,a,dx,_,_,Z,e,Z,pa,_,Z,uS,Z,_,_,Z,_,_,Z,Z,?_⟩;refine⟨_,Z,a,dx,_,_,Z,e,Z,.inr ⟨ma,_,2,.int M.f,Z,Z,gr,Z,_,_,Z,Z,.of_left (cJ ay ay),?_⟩⟩;refine⟨_,Z,_,_,Z,Z,.of_left (cJ au au),?_⟩;refine⟨_,Z,_,Z,_,_,Z,Z,_,_,Z,Z,_,Z,_,_,Z,Z,⟨hd,wd⟩,?_⟩;exact k
abbrev B6:Stmt:=inClass (top 74) 18
theorem J3:bc ["self","steps"] ["self"] (aM B6):=bp aI
def gT(M:bX)(S:bZ):bZ:=match S.ek with |none=>{S with ek:=some (S.pc,ie M.f S.pc,0)} |some _=>S
inductive a6w(K:aa)(C:Addr)(vs:List V)(H:Hp)(Q:VK):Prop |mk (a:_)(q:_)(M:_)(D:_)(S:_)(h0:vs=[.ref a])(h1:cP K C H a q M S)(h2:dm M D S)(h3:M.Ok)(h4:∀H',cP K C H' a q M (gT M S)->cB [a] H H'->Q (.int (ie M.f S.pc)) H')
def HS(K:aa)(C:Addr):Sp:=λvs H Q _=>a6w K C vs H Q
theorem dm.hold{M:bX}{D:Nat}{S:bZ}(h:dm M D S)(aO:M.Ok)(hD:D<=1490):dm M (D+10) (gT M S):=by have D1:=h.D1;unfold gT;cases hs:S.ek with |some z=>show dm M (D+10) S;have st:=h.ek;refine⟨h.row,h.rw,h.len,h.fT,h.fS,h.dn,h.pl,h.pd.mono au,h.pm,?_,au,au⟩;rw[hs]at st⊢;obtain⟨sq,fi,gn⟩:=z;obtain⟨a1,a2,a3,a4,a5⟩:=st;exact⟨a1,a2,a3,a4.mono au,a5⟩ |none=>obtain⟨z1,z2,z3,z4⟩:=Sk aO.f1.1 h.pd.nn;refine⟨h.row,h.rw,h.len,h.fT,h.fS,h.dn,h.pl,h.pd.mono au,h.pm,?_,au,au⟩;refine⟨fH _,z1,z4 h.pm,h.pd,kR h.pm aI,z2,?_⟩;show S.pc*(ie M.f S.pc:Rat)<=S.pc*((ie M.f S.pc-0:Int):Rat);rw[Int.sub_zero];exact iK
theorem W6{C:Addr}(F:MA K C "hold" "Runner.hold" B6)(TC:fD K C)(a1x:cV P w K mg ao C "stops_in" 1 (fJ K C λM S H Q=>Q (.int (ie M.f S.pc)) H))(ED:cV P w K mg ao C "is_held" 1 (fJ K C λ_ S H Q=>Q (.bl S.ek.isSome) H)):cV P w K mg ao C "hold" 2 (HS K C):=by
 refine F.has J3 (λvs H Q E h=>?_) (λ_ _ _ _ _ _=>cE λ_=>rfl) (λf aF A outer s H vs Q E hr h=>?_)
 ·obtain⟨a,q,M,D,S,rfl,_⟩:=h
  rfl
 ·obtain⟨a,q,M,D,S,rfl,R,ok,aO,k⟩:=h
  obtain⟨dx,mv,bv,cQ,tv,e,r1,r2,r3,r4⟩:=R.ob;have nd:=J3.nd;refine⟨_,(aE (pS 1 nd (iT a1x TC.cl (hr.mono ay) (pv 0))) (aE (ke (bB (df (cC (iT ED TC.cl (hr.mono ay) (pv 0)))) (aH (ir TC.cl TC.Dm (pv 0) (eE (ak (dQ TC.cl TC.xW (pv 0)) (ak (pv 1) (ak aB aw)))))) bD)) (aH (aQ (pv 1))))),?_⟩;refine⟨_,Z,a,dx,_,Z,e,Z,a,q,M,D,S,Z,R,ok,aO,?_⟩;refine⟨λO H1=>O=[some (.ref a),some (.int (ie M.f S.pc))]/\cP K C H1 a q M (gT M S)/\cB [a] H H1,?_,?_⟩
  ·refine⟨_,Z,a,dx,_,Z,e,Z,a,q,M,D,S,Z,R,ok,aO,_,Z,?_⟩
   cases hs:S.ek with |some z=>refine aZ ⟨Z,?_,cB.refl _ _⟩;unfold gT;rw[hs];exact R |none=>
    refine bE ?_;refine⟨_,Z,a,dx,_,_,Z,e,Z,_,Z,bW Z,λt H1 n1=>?_⟩;have e1:=n1.same _ _ e;refine⟨_,Z,a,dx,_,Z,e1,by show 9<1000;decide,?_⟩;have eh:gT M S={S with ek:=some (S.pc,ie M.f S.pc,0)}:=by unfold gT;rw[hs]
    refine⟨Z,?_,λb o' eb hb=>?_⟩
    ·rw[eh]
     exact(R.same ok.row.no n1.same).UB (S':={S with ek:=some (S.pc,ie M.f S.pc,0)}) e1 ok.row.no rfl (RD.mono n1.same _ r1) (RD.mono n1.same _ r2) (r3.go n1.same) ⟨t,cQ,Z,aP.of n1.at',r3.go n1.same⟩
    ·have ha:b≠a:=λz=>hb (by rw[z];simp)
     rw[bh ha];exact n1.same _ _ eb
  ·rintro O H1 ⟨rfl,R1,b1⟩
   exact⟨_,Z,k H1 R1 b1⟩
theorem KA{M:bX}{D:Nat}{S:bZ}(ok:dm M D S):(iy S).length=M.rs.length:=by
 unfold iy;split
 ·exact ok.pl
 ·split
  ·next ns sp eo=>rw[zA (by rw[ok.pl];simp[Aj];exact(ok.row.ok 0 ns sp eo).1.len)];exact ok.pl
  ·exact ok.pl
def o8(S:bZ):bZ:={S with pl:=iy S,dn:=0,ds:=[],os:=[]}
theorem dm.drop{M:bX}{D:Nat}{S:bZ}(h:dm M D S):dm M D (o8 S):=⟨.nil,λi d e=>by simp[o8]at e,by simp[o8],h.fT,h.fS,.inl rfl,KA h,h.pd,h.pm,h.ek,h.D1,h.D2⟩
theorem a0Y{pc:Rat}{t:_R.qo}:(t.isSome&&decide (pc=0))=true↔Halt pc t:=by unfold Halt;cases t with |none=>simp |some z=>simp
abbrev Ba:Stmt:=inClass (top 74) 20
theorem J5:bc ["self","dropped"] ["self"] (aM Ba):=bp aI
inductive a6y(K:aa)(C:Addr)(vs:List V)(H:Hp)(Q:VK):Prop |mk (a:_)(q:_)(M:_)(D:_)(S:_)(h0:vs=[.ref a])(h1:cP K C H a q M S)(h2:dm M D S)(h3:M.Ok)(h4:Halt S.pc S.ek)(h5:∀q' H',cP K C H' a q' M (o8 S)->H q'=none->cB [a] H H'->Q (.int (S.ds.length:Nat)) H')
def HU(K:aa)(C:Addr):Sp:=λvs H Q E=>a6y K C vs H Q
theorem Wa{C:Addr}(F:MA K C "drop" "Runner.drop" Ba)(TC:fD K C)(B:bu mg)(a1A:cV P w K mg ao C "is_halted" 2 (fJ K C λ_ S H Q=>Q (.bl (S.ek.isSome&&decide (S.pc=0))) H))(EA:cV P w K mg ao C "place" 3 (fJ K C λ_ S H Q=>∀v H',RD K H' v (cM (iy S))->az H H'->Q v H')):cV P w K mg ao C "drop" 5 (HU K C):=by
 refine F.has J5 (λvs H Q E h=>?_) (λ_ _ _ _ _ _=>cE λ_=>rfl) (λf aF A outer s H vs Q E hr h=>?_)
 ·obtain⟨a,q,M,D,S,rfl,_⟩:=h
  rfl
 ·obtain⟨a,q,M,D,S,rfl,Ra,ok,aO,hH,k2⟩:=h
  obtain⟨dx,mv,bv,cQ,tv,e,r1,r2,r3,r4⟩:=Ra.ob;obtain⟨ys,eq,rq⟩:=Ra.qu;have aq:=Ra.ne;have nd:=J5.nd;have ly:=rq.length;refine⟨_,(aE (bB (df (cC (iT a1A TC.cl (hr.mono ay) (pv 0)))) (aH ph) bD) (aE (pS 1 nd (eF K B (ak (dQ TC.cl TC.lA (pv 0)) aw))) (aE (ir TC.cl TC.uG (pv 0) (iT EA TC.cl (hr.mono ay) (pv 0))) (aE (ir TC.cl TC.xX (pv 0) aB) (aE (ir TC.cl TC.lA (pv 0) (ft aw)) (aH (aQ (pv 1)))))))),?_⟩;refine⟨_,Z,a,dx,_,Z,e,Z,a,q,M,D,S,Z,Ra,ok,aO,_,Z,?_⟩;rw[a0Y.mpr hH];refine aZ ?_;refine⟨_,Z,a,dx,_,_,Z,e,Z,q,_,Z,.inl (aG.of eq),?_⟩;refine⟨_,Z,a,dx,_,Z,e,Z,a,q,M,D,S,Z,Ra,ok,aO,λu H1 ru s1=>?_⟩;have e1:=s1 _ _ e;refine⟨_,Z,a,dx,_,Z,e1,by show 9<1000;decide,?_⟩;refine⟨_,Z,a,dx,_,Z,bU,by show 9<1000;decide,?_⟩;refine⟨bW Z,λq' H2 n2=>?_⟩;have e2:=n2.same _ _ (bU (a:=a));refine⟨_,Z,a,dx,_,Z,e2,by show 9<1000;decide,?_⟩;have zy:a≠q':=λz=>by have:=n2.no;rw[<-z,bU]at this;cases this
  have key:∀X:Hp,(∀b,b≠a->X b=H2 b)->Q (.int (S.ds.length:Nat)) (_L.upd X a (.ins C dx (kY mv u (.int 0) (.ref q') cQ (.int S.rate) (.str S.side) (.str S.mark) tv))):=by
   intro X hX;have EN:∀b o',b≠a->H1 b=some o'->H2 b=some o':=λb o' ha eb=>n2.same _ _ (by rw[bh ha,bh ha];exact eb);have bt:cB [a] H (_L.upd X a (.ins C dx (kY mv u (.int 0) (.ref q') cQ (.int S.rate) (.str S.side) (.str S.mark) tv))):=λb o' eb hb=>by have ha:b≠a:=λz=>hb (by rw[z];exact .head _);rw[bh ha,hX b ha];exact EN _ _ ha (s1 _ _ eb)
   have sv:=bt.v λx hx o' eo=>by rw[cS]at hx;rw[hx,e]at eo;cases eo;trivial
   have Sa:eK H1 (_L.upd X a (.ins C dx (kY mv u (.int 0) (.ref q') cQ (.int S.rate) (.str S.side) (.str S.mark) tv))):=λb o' nb eb=>by
    have ha:b≠a:=λz=>by rw[z,e1]at eb;cases eb;exact nb trivial
    rw[bh ha,hX b ha];exact EN _ _ ha eb
   refine k2 q' _ ⟨⟨dx,mv,u,cQ,tv,bU,RD.v sv _ (iY _ _ _ _ _) r1,RD.v Sa _ (iz _) ru,r3.v sv,r4.v sv⟩,[],?_,de⟩ ?_ bt
   ·rw[bh zy.symm,hX q' zy.symm];exact n2.at'
   ·cases e':H q' with |none=>rfl |some o'=>have h1:=s1 _ _ e';have h2:=n2.no;rw[bh zy.symm,bh zy.symm,h1]at h2;cases h2
  refine⟨_,Z,?_⟩;rw[ly];exact key _ (λb hb=>rfl)
end
end _c
set_option maxHeartbeats 1000000
namespace _c
open PySem PySem.Spec PyProof.Rows _L _d _l _C _P
open _O (topR cornO mnO betR atO ownF leadF ownL OkI OkIs)
section
variable {P:af}{w:World}{K:aa}{mg:bf}{ao:Heap}
theorem QA{z:Int}(h:z.natAbs<2^24):Bd 100 (z:Rat):=⟨by rw[zT];exact lU h ay,by rw[zU];decide⟩
theorem Kj{H:Hp}{a:Addr}{z:Int}(h:aP K H a [.int z,.int 1]):bM K H (.ref a) (z:Rat):=⟨a,Z,by rw[zT,zU];exact h⟩
theorem a5B(r:Rat)(n:Int):(r+(n:Rat)).num=r.num+n*r.den/\(r+(n:Rat)).den=r.den:=by
 have c:(r.num+n*r.den).natAbs.Coprime r.den:=by have h:=Int.gcd_add_mul_right_left (r.den:Int) r.num n;exact h.trans r.reduced
 have e:r+(n:Rat)=⟨r.num+n*r.den,r.den,r.den_nz,c⟩:=by
  rw[PK,add_div,zT,zU];congr 1
  ·simp
  ·simp
 rw[e];exact⟨Z,Z⟩
theorem LL{a b:Rat}(h:a<b):mn a b=a:=by unfold mn;rw[aU (oz.mpr (Gb h))]
theorem Dv{a b:Rat}(h:¬a<b):mn a b=b:=by
 unfold mn;split
 ·rfl
 ·next h2=>exact wm (oz.mp h2) (oz.mp h)
theorem LM(a b:Rat):mn a b=mn b a:=by
 by_cases h:a<b
 ·rw[LL h,Dv (oz.mpr (Gb h))]
 ·rw[Dv h]
  unfold mn;rw[aU h]
inductive a6P(K:aa)(vs:List V)(H:Hp)(Q:VK):Prop |mk (v1:_)(v2:_)(r:_)(s:_)(h0:vs=[v1,v2])(h1:bM K H v1 r)(h2:bM K H v2 s)(h3:Bd 2000 r)(h4:Bd 2000 s)(h5:∀v,bM K H v (mn r s)->Q v H)
def Aw(K:aa):Sp:=λvs H Q _=>a6P K vs H Q
abbrev Bp:Stmt:=top 119
theorem Jk:bc ["_law_one","_law_other"] ["_law_one","_law_other"] (aM Bp):=bp aI
theorem Ws(F:FA K mg "_law_min" Bp)(B:bu mg):aD P w K mg ao "_law_min" 1 (Aw K):=by
 refine F.has Jk (λvs H Q E h=>?_) (λ_ _ _ _ _ _=>dj λ_ _=>rfl) (λf aF A outer s H vs Q E hr h=>?_)
 ·obtain⟨v1,v2,r,s,rfl,_⟩:=h
  rfl
 ·obtain⟨v1,v2,r,s,rfl,⟨p,rfl,hp⟩,⟨q,rfl,hq⟩,br,bs,k⟩:=h
  have nd:=Jk.nd;refine⟨_,(aH (aQ (gM (bI pB (aK bV (px K (pv 0) aB) (px K (pv 1) aB)) (aK bV (px K (pv 1) aB) (px K (pv 0) aB)) (bC _)) (pv 0) (pv 1)))),?_⟩;refine⟨_,Z,.inr ⟨p,_,0,.int r.num,Z,Z,hp,Z,_,Z,.inr ⟨q,_,1,.int s.den,Z,Z,hq,Z,_,_,Z,Z,oH br.wn.bits bs.wd.bits,?_⟩⟩⟩;refine⟨_,Z,.inr ⟨q,_,0,.int s.num,Z,Z,hq,Z,_,Z,.inr ⟨p,_,1,.int r.den,Z,Z,hp,Z,_,_,Z,Z,oH bs.wn.bits br.wd.bits,?_⟩⟩⟩;refine⟨_,_,Z,Z,_,Z,?_⟩;refine dZ (λhc=>?_) (λhc=>?_)
  ·have h:r<s:=(wk r s).mpr (jS hc)
   refine⟨_,Z,k _ ?_⟩;rw[LL h];exact⟨p,Z,hp⟩
  ·have h:¬r<s:=λz=>hc (bR ((wk r s).mp z))
   refine⟨_,Z,k _ ?_⟩;rw[Dv h];exact⟨q,Z,hq⟩
inductive a6N(K:aa)(vs:List V)(H:Hp)(Q:VK):Prop |mk (v1:_)(r:_)(n:_)(h0:vs=[v1,.int n])(h1:bM K H v1 r)(h2:Bd 2000 r)(h3:n.natAbs<2^24)(h4:∀v H',bM K H' v (r+(n:Rat))->az H H'->Q v H')
def HZ(K:aa):Sp:=λvs H Q _=>a6N K vs H Q
abbrev Bn:Stmt:=top 120
theorem Ji:bc ["_law_one","_law_number"] ["_law_one","_law_number"] (aM Bn):=bp aI
theorem Wo(F:FA K mg "_law_more" Bn)(B:bu mg):aD P w K mg ao "_law_more" 1 (HZ K):=by
 refine F.has Ji (λvs H Q E h=>?_) (λ_ _ _ _ _ _=>dj λ_ _=>rfl) (λf aF A outer s H vs Q E hr h=>?_)
 ·obtain⟨v1,r,n,rfl,_⟩:=h
  rfl
 ·obtain⟨v1,r,n,rfl,⟨p,rfl,hp⟩,br,bn,k⟩:=h
  have nd:=Ji.nd;refine⟨_,(aH (aQ (eE (ak (aK dg (px K (pv 0) aB) (aK bV (pv 1) (px K (pv 0) aB))) (ak (px K (pv 0) aB) aw))))),?_⟩;have jv:(2:Nat)^24<2^63:=by decide
  refine⟨_,Z,.inr ⟨p,_,0,.int r.num,Z,Z,hp,Z,_,Z,_,Z,.inr ⟨p,_,1,.int r.den,Z,Z,hp,Z,_,_,Z,Z,.of_left (cJ au au),?_⟩⟩⟩;refine⟨_,_,Z,Z,?_⟩;refine⟨_,Z,.inr ⟨p,_,1,.int r.den,Z,Z,hp,Z,?_⟩⟩;refine⟨bW Z,λq H1 n1=>k _ _ ⟨q,Z,?_⟩ n1.same⟩;have:=a5B r n;rw[this.1,this.2];exact aP.of n1.at'
abbrev Bt:Stmt:=top 121
theorem Jo:bc ["_law_item_here"] ["_law_item_here"] (aM Bt):=bp aI
theorem Wz(F:FA K mg "_law_lead" Bt)(B:bu mg):aD P w K mg ao "_law_lead" 1 (m7 K):=by
 refine F.has Jo (λvs H Q E h=>?_) (λ_ _ _ _ _ _=>cE λ_=>rfl) (λf aF A outer s H vs Q E hr h=>?_)
 ·obtain⟨v,ns,sp,rfl,_⟩:=h
  rfl
 ·obtain⟨v,ns,sp,rfl,rd,cm,hz,k⟩:=h
  have nd:=Jo.nd;obtain⟨a,b,rfl,ha,hb⟩:=lB rd;refine⟨_,(aH (aQ (gM (bI (dv K Z hr.units) (px K (pv 0) aB) bq (bC _)) (ck (x:="max") (Dy K Z Z) Z (B.at "max") Gj (ak (dD (N:=["_law_step"]) (js:=[none]) rfl rfl rfl (jn K rfl (px K (pv 0) aB)) (λ_ _ _ _ _=>(ba 0 (gD _))) (λ_ _ _ _ _=>cX) (λ_ _ _ _ _=>(ck (x:="abs") lN rfl (B.at "abs") nc (ak (pv 0) aw)))) aw)) aB))),?_⟩;refine⟨_,Z,.inr ⟨a,_,0,.str "line",Z,Z,ha,Z,.inr ⟨_,_,bO _,bO _,nN,nN,_,Z,?_⟩⟩⟩;refine bE ?_;refine⟨_,Z,.inr ⟨a,_,1,.ref b,Z,Z,ha,Z,b,Z,⟨_,hb⟩,λD H0 nw=>?_⟩⟩;refine o9 (K:=K) (xs:=ns.map V.int) (ds:=(ns.map jO).map PyData.int) [] hb nw (by simp) (by simpa using hz) (kr _) ?_ ?_
  ·intro i x d H2 Q' ex ed s2 hq
   obtain⟨m,em,rfl⟩:=kv ed;rw[bK]at em;cases en:ns[i]? with |none=>rw[en]at em;cases em |some n=>rw[en]at em;cases em;cases y4 ex en;exact⟨_,Z,n,Z,hq _ _ (az.refl _) (eu _)⟩
  ·intro H' ys s2 d2 r2
   rw[r2.eO]at d2;refine⟨D,_,Z,aG.of d2,by simpa using cm,λM h1 h2=>?_⟩;rw[DH cm h1 h2];exact k H' s2
theorem Hd(sp:Int):topR 100 sp=((sp*sp:Int):Rat):=by
 show Rat.divInt ((sp*100)^2) 10000=_;rw[<-wj ((sp*sp:Int):Rat),zT,zU];refine(PM ay ay).mpr ?_;rw[fG,fG,lW];simp only[lX,A6];have:sp*100*(sp*100)=sp*sp*10000:=by rw[wF,Int.mul_left_comm 100,<-wF,<-wF];lia
 rw[this];exact A6 _
theorem Hz{a b:Int}(h0:0<=a)(h:a<=b):((a*a:Int):Rat)<=((b*b:Int):Rat):=Rat.intCast_le_intCast.mpr (Int.mul_le_mul h h h0 au)
theorem SA{a b:Int}(ha:0<=a)(hb:0<=b):((((if b<a then b else a)*(if b<a then b else a):Int)):Rat)=mn (topR 100 a) (topR 100 b):=by
 rw[Hd,Hd];refine(pI ?_ ?_ ?_).symm
 ·split
  ·exact .inr rfl
  ·exact .inl rfl
 ·split
  ·exact Hz hb au
  ·exact iK
 ·split
  ·exact iK
  ·exact Hz ha au
inductive a6F(K:aa)(vs:List V)(H:Hp)(Q:VK):Prop |mk (m:_)(x:_)(y:_)(rs:_)(r:_)(f:_)(j:_)(t:_)(d1:_)(d2:_)(o1:_)(o2:_)(h0:vs=[m,x,y])(h1:RD K H m (iA rs r f j t))(h2:kQ rs r f j t)(h3:RD K H x d1)(h4:RD K H y d2)(h5:itR d1 o1)(h6:itR d2 o2)(h7:(∀ns sp,o1=some (ns,sp)->eL rs.length 100 ns/\1<=sp/\sp<=20))(h8:(∀ns sp,o2=some (ns,sp)->eL rs.length 100 ns/\1<=sp/\sp<=20))(h9:∀v H',bM K H' v (betR j 100 o1 o2)->az H H'->Q v H')
def HX(K:aa):Sp:=λvs H Q _=>a6F K vs H Q
abbrev Bh:Stmt:=top 122
theorem Jc:bc ["_law_machine_here","_law_one","_law_other","_law_a","_law_b","_law_gap","_law_slow"] ["_law_machine_here","_law_one","_law_other"] (aM Bh):=bp aI
theorem Wh(F:FA K mg "_law_own_bound" Bh)(B:bu mg)(vj:aD P w K mg ao "_law_lead" 1 (m7 K))(yI:aD P w K mg ao "_law_min" 1 (Aw K))(a1N:aD P w K mg ao "_law_frac" 1 (Ij K)):aD P w K mg ao "_law_own_bound" 2 (HX K):=by
 refine F.has Jc (λvs H Q E h=>?_) (λ_ _ _ _ _ _=>lO λ_ _ _=>rfl) (λf aF A outer s H vs Q E hr h=>?_)
 ·obtain⟨m,x,y,rs,r,f,j,t,d1,d2,o1,o2,rfl,_⟩:=h
  rfl
 ·obtain⟨m,x,y,rs,r,f,j,t,d1,d2,o1,o2,rfl,rm,aO,r1,r2,i1,i2,Vw,Vv,k⟩:=h
  have nd:=Jc.nd;refine⟨_,(aE (bB (PW.pt (iq (bI (mr K Z hr.units) (px K (pv 1) aB) bq (bC _)) (ip (bI (mr K Z hr.units) (px K (pv 2) aB) bq (bC _))))) (aH (aQ (eE (ak aB (ak aB aw))))) bD) (aE (pS 3 nd (pf vj hr (ak (pv 1) aw))) (aE (pS 4 nd (pf vj hr (ak (pv 2) aw))) (aE (pS 5 nd (ck (x:="max") (Dy K Z Z) Z (B.at "max") Gj (ak (dD (N:=["_law_x","_law_y","_law_b","_law_a"]) (js:=[none,none,some 4,some 3]) rfl rfl rfl (kZ K rfl false false rfl (B.at "zip") (ak (px K (pv 1) aB) (ak (px K (pv 2) aB) aw))) (λ_ _ _ _ _=>(dW K rfl (n:=2) rfl (bP (ba 0 (show List.Nodup (["_law_x","_law_y","_law_b","_law_a"]:List Str) by decide+kernel)) (bP (ba 1 (show List.Nodup (["_law_x","_law_y","_law_b","_law_a"]:List Str) by decide+kernel)) dU)))) (λ_ _ _ _ _=>cX) (λ_ _ _ _ _=>(ck (x:="abs") lN rfl (B.at "abs") nc (ak (aK kl (aK bV (pv 0) (pv 2)) (aK bV (pv 1) (pv 3))) aw)))) aw))) (aE (pS 6 nd (ck (x:="min") (Fy Z) Z (B.at "min") Q7 (ak (px K (pv 1) aB) (ak (px K (pv 2) aB) aw)))) (aE (bB (bI (dv K Z hr.units) (pv 5) aB (bC _)) (aH (aQ (eE (ak (aK bV (pv 6) (pv 6)) (ak aB aw))))) bD) (aH (aQ (pf yI hr (ak (eE (ak (aK bV (pv 6) (pv 6)) (ak aB aw))) (ak (pf a1N hr (ak (aK uu (aK bV (aK bV (px K (pv 0) aB) (pv 3)) (pv 4)) aB) (ak (aK bV (pv 5) (pv 5)) aw))) aw))))))))))),?_⟩;obtain⟨ma,mb,rfl,gr,iZ⟩:=my rm;obtain⟨a1,w1,y1,rfl,h1,Fe,Ah⟩:=rK r1 i1;obtain⟨a2,w2,y2,rfl,h2,ew2,S9⟩:=rK r2 i2;refine⟨_,Z,.inr ⟨a1,_,0,.str w1,Z,Z,h1,cN (fH 0) Z,.inr ⟨_,_,bO _,bO _,Ah,nN,_,Z,?_⟩⟩⟩;rw[Fe];cases o1 with |none=>refine bE ?_;refine⟨bW Z,λz H3 n3=>k _ _ ?_ n3.same⟩;rw[_O.a5g];exact⟨z,Z,aP.of n3.at'⟩ |some q1=>refine aZ ?_;refine⟨_,Z,.inr ⟨a2,_,0,.str w2,Z,Z,h2,cN (fH 0) Z,.inr ⟨_,_,bO _,bO _,S9,nN,_,Z,?_⟩⟩⟩;rw[ew2];cases o2 with |none=>refine bE ?_;refine⟨bW Z,λz H3 n3=>k _ _ ?_ n3.same⟩;rw[_O.OO];exact⟨z,Z,aP.of n3.at'⟩ |some q2=>
   refine aZ ?_;obtain⟨ns,sp⟩:=q1;obtain⟨ms,sq⟩:=q2;have ed1:=jr i1;have ed2:=jr i2;subst ed1 ed2;obtain⟨eU,p1,p2⟩:=Vw ns sp rfl;obtain⟨dY,q1,q2⟩:=Vv ms sq rfl;have lr:=aO.len;have l1:=DK eU;have l2:=DK dY;have ln1:ns.length<=3:=by rw[eU.len];lia
   have ln2:ms.length<=3:=by rw[dY.len];lia
   have LV:ms.length=ns.length:=by rw[eU.len,dY.len]
   refine⟨_,Z,_,ns,sp,Z,r1,eU.ne,au,λH6 s6=>?_⟩;refine⟨_,Z,_,ms,sq,Z,RD.mono s6 _ r2,dY.ne,au,λH7 s7=>?_⟩;have C7:=s6.trans s7;obtain⟨a1',b1,ea1,yH,MJ⟩:=lB (RD.mono C7 _ r1);obtain⟨a2',b2,zd,yG,yF⟩:=lB (RD.mono C7 _ r2);cases ea1;cases zd;refine⟨_,Z,.inr ⟨a1,_,1,.ref b1,Z,Z,yH,Z,_,Z,.inr ⟨a2,_,1,.ref b2,Z,Z,yG,Z,b1,b2,Z,⟨_,MJ⟩,⟨_,yF⟩,λD4 H8 n8=>?_⟩⟩⟩;refine qe (K:=K) (b1:=false) (b2:=false) (xs:=ns.map V.int) (ys:=ms.map V.int) (ds:=((cA ns ms).map jO).map PyData.int) _ Z MJ yF n8 (by simp[cA]) (by simp[cA];lia) (kr _) ?_ ?_
   ·intro i x y d H9 Q' ex ey ed s9 hq
    obtain⟨a,b,e1,e2,rfl,rfl⟩:=zip2 LV ex ey;obtain⟨m,em,rfl⟩:=kv ed;rw[bK,GI e1 e2]at em;cases em;have q1:=eU.bd a (fg e1);have q2:=dY.bd b (fg e2);refine⟨_,Z,_,Z,_,_,Z,Z,.of_left (cJ au au),?_⟩;refine⟨_,Z,_,Z,_,_,Z,Z,.of_left (cJ au au),?_⟩;exact⟨_,_,Z,Z,_,Z,hq _ _ (az.refl _) (eu _)⟩
   intro H9 zs s9 d9 r9;rw[r9.eO]at d9;have j8:cA ns ms≠[]:=by
    have hl:(cA ns ms).length=ns.length:=by simp[cA,LV]
    intro e;rw[e]at hl;exact eU.ne (Qg.mp hl.symm)
   refine⟨D4,_,Z,aG.of d9,by simpa using j8,λM h1 h2=>?_⟩;have eM:=DH j8 h1 h2;subst eM;have p7:=C7.trans s9;have yH:=yH.go s9;have yG:=yG.go s9;refine⟨_,Z,.inr ⟨a1,_,2,.int sp,Z,Z,yH,Z,_,Z,.inr ⟨a2,_,2,.int sq,Z,Z,yG,Z,_,_,Z,?_⟩⟩⟩;have es:=SA (a:=sp) (b:=sq) au au;generalize rO:(if sq<sp then sq else sp)=sl at es⊢;have sl1:1<=sl/\sl<=20:=by rw[<-rO];split<;>lia
   have cO:cornO j ns ms=if aL (cA ns ms)=0 then none else some (Rat.divInt ((j*aL ns*aL ms)^2) ((aL (cA ns ms):Int)^2)):=rfl;have hB:betR j 100 (some (ns,sp)) (some (ms,sq))=mnO (mn (topR 100 sp) (topR 100 sq)) (cornO j ns ms):=rfl;rw[hB,<-es]at k;refine⟨_,Z,.inl ⟨_,_,Z,Z,_,Z,?_⟩⟩;by_cases h0:aL (cA ns ms)=0
   ·rw[bR au]
    refine bE ?_;rw[aR h0]at cO;rw[cO]at k;refine⟨_,Z,_,Z,_,_,Z,Z,.of_left (cJ au au),?_⟩;refine⟨bW Z,λz H3 n3=>k _ _ (Kj (aP.of n3.at')) (p7.trans n3.same)⟩
   ·rw[dM au]
    refine aZ ?_;rw[aU h0]at cO;rw[cO]at k;have jl:(j*aL ns).natAbs<=50*100:=iX (by have:=aO.j1;lia) au;have Z2:(j*aL ns*aL ms).natAbs<=50*100*100:=iX jl au;have cb:=zi (λz hz=>by have:=eU.bd z hz;lia) (λz hz=>by have:=dY.bd z hz;lia) (ns:=ns) (ms:=ms);have mG:=lC cb;have jv:(2:Nat)^64=18446744073709551616:=by decide
    refine⟨_,Z,_,Z,_,_,Z,Z,.of_left (cJ au au),?_⟩;refine⟨bW Z,λz H3 n3=>?_⟩;refine⟨_,Z,.inr ⟨ma,_,3,.int j,Z,Z,gr.go (p7.trans n3.same),Z,?_⟩⟩;refine⟨_,Z,_,_,Z,Z,.of_left (cJ (by have:=aO.j1;lia) (by have:=aO.j1;lia)),_,Z,_,_,Z,Z,.of_right (cJ au au),?_⟩;refine⟨_,_,Z,Z,⟨ay,ay,by rw[jv];lia⟩,?_⟩;have qq:(aL (cA ns ms):Int)*(aL (cA ns ms):Int)=(aL (cA ns ms):Int)^2:=by rw[fG,fG,lW,lX]
    refine⟨_,Z,_,Z,_,_,Z,Z,.of_left (cJ au au),?_⟩;rw[qq];refine⟨_,_,Z,?_,?_,λv6 sR r6 jD=>?_⟩
    ·rw[<-qq];exact qE au au
    ·refine nj (n:=64) ?_ ay
     rw[<-qq,jv];have:=iX (a:=(aL (cA ns ms):Int)) (b:=(aL (cA ns ms):Int)) (m:=2000000) (n:=2000000) au au
     lia
    have Rc:bM K sR v6 (Rat.divInt ((j*aL ns*aL ms)^2) ((aL (cA ns ms):Int)^2)):=r6;have Tc:Bd 2000 (Rat.divInt ((j*aL ns*aL ms)^2) ((aL (cA ns ms):Int)^2)):=(_O.Ft aO.j1.1 aO.j1.2 eU.bd dY.bd cO).mono ay;have bs:Bd 2000 ((sl*sl:Int):Rat):=(QA (by
     have:=iX (a:=sl) (b:=sl) (m:=20) (n:=20) au au
     lia)).mono ay;exact⟨.ref z,v6,_,_,Z,(Kj (aP.of n3.at')).go jD,Rc,bs,Tc,λv rv=>k v sR rv (p7.trans (n3.same.trans jD))⟩
inductive a6A(K:aa)(vs:List V)(H:Hp)(Q:VK):Prop |mk (m:_)(iv:_)(rs:_)(r:_)(f:_)(j:_)(t:_)(ds:_)(os:_)(h0:vs=[m,iv])(h1:RD K H m (iA rs r f j t))(h2:kQ rs r f j t)(h3:RD K H iv (.list ds))(h4:gs rs.length ds os)(h5:ds.length<=30)(h6:∀l ys H',H l=none->H' l=some (.lst ys)->aJ K H' ys ((iu r f j 100 os).map cx)->az H H'->Q (.ref l) H')
def HW(K:aa):Sp:=λvs H Q _=>a6A K vs H Q
abbrev Bb:Stmt:=top 123
theorem J6:bc ["_law_machine_here","_law_items","_law_found","_law_border","_law_from_behind","_law_from_ahead"] ["_law_machine_here","_law_items"] (aM Bb):=bp aI
theorem Wc(F:FA K mg "_law_plan" Bb)(B:bu mg)(a1I:aD P w K mg ao "_law_own_bound" 2 (HX K))(MN:aD P w K mg ao "_law_more" 1 (HZ K))(vj:aD P w K mg ao "_law_lead" 1 (m7 K))(yI:aD P w K mg ao "_law_min" 1 (Aw K)):aD P w K mg ao "_law_plan" 3 (HW K):=by
 refine F.has J6 (λvs H Q E h=>?_) (λ_ _ _ _ _ _=>dj λ_ _=>rfl) (λfa aF A outer s H vs Q E hr h=>?_)
 · obtain⟨m,iv,rs,r,f,j,t,ds,os,rfl,_⟩:=h
   rfl
 · obtain⟨m,iv,rs,r,f,j,t,ds,os,rfl,rm,aO,ri,row,hz,k⟩:=h
   have nd:=J6.nd;refine⟨_,(aE (pS 2 nd (aK (sG K Z) (aK (sG K Z) (ft (ak (eE (ak aB (ak aB aw))) aw)) (dD (N:=["_law_one","_law_other","_law_machine_here"]) (js:=[none,none,some 0]) Z Z Z (kZ K Z true true Z (B.at "zip") (ak (pv 1) (ak (uk (tV K rfl) (pv 1) (uh aB) ui) aw))) (λ_ _ _ _ _=>(dW K rfl (n:=2) rfl (bP (ba 0 (show List.Nodup (["_law_one","_law_other","_law_machine_here"]:List Str) by decide+kernel)) (bP (ba 1 (show List.Nodup (["_law_one","_law_other","_law_machine_here"]:List Str) by decide+kernel)) dU)))) (λ_ _ _ _ _=>cX) (λ_ _ _ _ _=>(pf a1I hr (ak (pv 2) (ak (pv 0) (ak (pv 1) aw))))))) (ft (ak (eE (ak aB (ak aB aw))) aw)))) (aE (pS 2 nd (uk (tV K Z) (pv 2) ui (uh (aK dg (eF K B (ak (pv 1) aw)) aB)))) (aE (kg je Z (UU Z (B.at "range") (ak (aK kl (eF K B (ak (pv 1) aw)) aB) (ak aB (ak (kh jV aB) aw)))) (ba 3 nd) (aH (bB (bI (dv K Z hr.units) (px K (px K (pv 1) (pv 3)) aB) bq (bC _)) (aE (pS 4 nd (pf MN hr (ak (px K (pv 2) (aK dg (pv 3) aB)) (ak (aK bV (aK bV aB (px K (pv 0) aB)) (pf vj hr (ak (px K (pv 1) (pv 3)) aw))) aw)))) (aH (eD (pf yI hr (ak (pv 4) (ak (px K (pv 2) (pv 3)) aw))) (pA (pv 2) (pv 3) set_list)))) bD))) (aE (kg je Z (UW Z (B.at "range") (ak aB (ak (eF K B (ak (pv 1) aw)) aw))) (ba 3 nd) (aH (bB (bI (dv K Z hr.units) (px K (px K (pv 1) (aK kl (pv 3) aB)) aB) bq (bC _)) (aE (pS 5 nd (pf MN hr (ak (px K (pv 2) (aK kl (pv 3) aB)) (ak (aK bV (aK bV aB (px K (pv 0) aB)) (pf vj hr (ak (px K (pv 1) (aK kl (pv 3) aB)) aw))) aw)))) (aH (eD (pf yI hr (ak (pv 5) (ak (px K (pv 2) (pv 3)) aw))) (pA (pv 2) (pv 3) set_list)))) bD))) (aH (aQ (pv 2))))))),?_⟩;have ll:=row.len;have Uw:=aO.r1;have Nx:=aO.f1;have lr:=aO.len;obtain⟨ma,mb,rfl,gr,iZ⟩:=my rm;obtain⟨ia,xs,rfl,hi,gQ⟩:=ri.lst_inv;have lx:=gQ.length;refine⟨bW Z,λt0 H1 n1=>?_⟩;refine⟨bW Z,λl0 H2 n2=>?_⟩;have K3:=n1.same.trans n2.same;refine⟨_,Z,_,Z,1,Z,ia,xs,Z,.inl ⟨hi.go K3,λtl H3 n3=>?_⟩⟩;have xB:=K3.trans n3.same;refine⟨ia,tl,Z,⟨_,hi.go xB⟩,⟨_,aG.of n3.at'⟩,λD0 H4 n4=>?_⟩;have et:=n3.at';rw[Oi]at et;have uw:∀(i:Nat)(o:Itm),os[i]? =some o->∀(ns:List Int)(sp:Int),o=some (ns,sp)->eL rs.length 100 ns/\1<=sp/\sp<=20:=λi o e ns sp e'=>row.ok i ns sp (by rw[e,e']);refine qe (K:=K) (b1:=true) (b2:=true) (xs:=xs) (ys:=xs.drop 1) (ds:=((List.range (os.length-1)).map (λi=>ownF j 100 os (i+1))).map cx) _ Z (hi.go xB) (aG.of et) n4 (by rw[Gs];simp;lia) (by simp;lia) (rn _) ?_ ?_
   · intro i x y d H5 Q' ex ey ed s5 hq
     have u9:=xB.trans s5;rw[List.getElem?_drop]at ey;obtain⟨d1,e1,r1⟩:=gQ.get' i ex;obtain⟨d2,e2,r2⟩:=gQ.get' (1+i) ey;obtain⟨o1,vy,i1⟩:=row.get e1;obtain⟨o2,qc,i2⟩:=row.get e2;have hi2:1+i<os.length:=(dN.mp qc).1;have dw:d=cx (betR j 100 o1 o2):=by rw[bK,bK,cI (by simp;lia),A4]at ed;have:=(cW ed).symm;rw[this];show cx (betR j 100 (atO os i) (atO os (i+1)))=_;rw[_O.sH vy,_O.sH (show os[i+1]? =some o2 by rw[Nat.add_comm];exact qc)]
     subst dw;exact⟨_,Z,_,Z,_,Z,.ref ma,x,y,rs,r,f,j,t,d1,d2,o1,o2,Z,RD.mono u9 _ rm,aO,RD.mono u9 _ r1,RD.mono u9 _ r2,i1,i2,uw _ _ vy,uw _ _ qc,λv H6 rv s6=>hq _ _ s6 rv.rd⟩
   intro H5 wJ s5 d5 r5;have Yr:=r5.length;simp at Yr;have u9:=xB.trans s5;refine⟨l0,D0,_,wJ,Z,Z,aG.of (s5 _ _ (n3.same _ _ n2.at')),aG.of d5,tT _ (by simp;lia),λl2 H6 n6=>?_⟩;refine⟨bW Z,λt1 H7 n7=>?_⟩;refine⟨bW Z,λl3 H8 n8=>?_⟩;refine⟨l2,l3,_,_,Z,Z,aG.of (n8.same _ _ (n7.same _ _ n6.at')),aG.of n8.at',tT _ (by simp;lia),λl4 H9 n9=>?_⟩;have p7:=n6.same.trans (n7.same.trans (n8.same.trans n9.same));have Cc:=u9.trans p7;refine⟨_,Z,_,Z,ia,xs,Z,.inl (hi.go Cc),_,_,Z,Z,_,Z,l4,_,Z,.inl ⟨aG.of n9.at',λD fF iW=>?_⟩⟩;have s1:az H fF:=Cc.trans iW.same;have nD:H D=none:=by cases e:H D with |none=>rfl |some o=>have:=Cc _ _ e;rw[iW.no]at this;cases this
   have hB:=_O.CS (rate:=100) aO.j1.1 aO.j1.2 ay ay row.lq;have hN:=_O.Vl j 100 os;have h0:ownF j 100 os 0=0:=rfl;have hn:=_O.KU j 100 os os.length rfl;have z0:RD K fF (.ref t0) (cx 0):=(show bM K fF (.ref t0) 0 from⟨t0,Z,aP.of (iW.same _ _ (p7 _ _ (s5 _ _ (n3.same _ _ (n2.same _ _ n1.at')))))⟩).rd;have z1:RD K fF (.ref t1) (cx 0):=(show bM K fF (.ref t1) 0 from⟨t1,Z,aP.of (iW.same _ _ (n9.same _ _ (n8.same _ _ n7.at')))⟩).rd;have r1:aJ K fF (([V.ref t0]++wJ++[V.ref t1]).take (xs.length+1)) ((ownL j 100 os).map cx):=by
    by_cases cm:os=[]
    · have e0:os.length=0:=by rw[cm];rfl
      have ez:wJ=[]:=Qg.mp au;have ex:xs.length=0:=by lia
      rw[ez,ex,cm];exact cj z0 de
    · have h1:0<os.length:=wA.mpr cm
      rw[A1 (by simp;lia),_O.KR j 100 cm,jg,jg];exact((cj z0 de).append (aJ.mono (p7.trans iW.same) _ r5)).append (cj z1 de)
   have d1:=iW.at';rw[show((xs.length:Int)+1)=((xs.length+1:Nat):Int)from Z,a4B]at d1;generalize([V.ref t0]++wJ++[V.ref t1]).take (xs.length+1)=y1 at r1 d1;generalize hg:ownF j 100 os=g at hB hN h0 hn;have Uz:aJ K fF y1 ((lst os.length g).map cx):=by rw[<-hg];exact r1
   have hL:∀i m,leadF os i=some m->(2*f*(m:Int)).natAbs<2^24:=λi m e=>oN aO.f1.1 aO.f1.2 (pK row.lq e);have rX:∀i m,leadF os i=some m->(2*r*(m:Int)).natAbs<2^24:=λi m e=>oN aO.r1.1 aO.r1.2 (pK row.lq e);have FB:∀i,i<=os.length->Bd 900 (fl os.length (leadF os) (2*f) g i):=λi hi=>(EY (λi _=>hB i) hL i hi).mono au;have FZ:=a2P (n:=os.length) (L:=leadF os) (f:=2*f) (g:=g) au (λi _=>hN i) h0;have FN:=Ng (n:=os.length) (L:=leadF os) (f:=2*f) (g:=g) au (λi _=>hN i);refine⟨_,Z,ia,_,Z,.inl (hi.go s1),_,_,Z,Z,_,Z,_,_,Z,⟨au,au,ay,ay⟩,?_⟩;have eN:((xs.length:Int)-1-0).toNat=os.length-1:=by lia
   rw[eN];refine a2K (Pv:=λi O H5=>az H H5/\∃zs v1 v2 v3,H5 D=some (.lst zs)/\aJ K H5 zs ((lst os.length λk=>if os.length<=k+i then fl os.length (leadF os) (2*f) g k else g k).map cx)/\O=[some (.ref ma),some (.ref ia),some (.ref D),v1,v2,v3]) ?_ ?_ ?_
   · refine⟨s1,y1,none,none,none,d1,?_,Z⟩
     rw[jI (g:=λk=>if os.length<=k+0 then fl os.length (leadF os) (2*f) g k else g k) (g':=g)]
     ·exact Uz
     · intro k hk
       show g k=if os.length<=k+0 then _ else g k;split
       · next h => have:k=os.length:=by lia
                   subst this;exact nW.symm
       ·rfl
   · rintro i O H3 rS ⟨s3,zs,v1,v2,v3,dz,rz,rfl⟩
     obtain⟨x,hx⟩:∃x,xs[os.length-1-i]? =some x:=⟨_,cI (show os.length-1-i<xs.length by lia)⟩;generalize hc:os.length-1-i=c at hx;have lI:c<os.length:=by lia
     have eI:((xs.length:Int)-1-(i:Int))=(c:Int):=by lia
     rw[eI];obtain⟨d,ed,rd⟩:=gQ.get' c hx;obtain⟨o,eo,it⟩:=row.get ed;have lz:=rz.length;rw[bA,jH]at lz;have oj:eg xs (c:Int)=some x:=cN au (by simpa using hx);obtain⟨a,wd,yw,rfl,h1,ew,sw⟩:=rK (RD.mono s3 _ rd) it;refine⟨_,Z,_,Z,.inl ⟨ia,_,_,_,Z,Z,hi.go s3,oj,.inr ⟨a,_,0,.str wd,Z,Z,h1,cN (fH 0) Z,.inr ⟨_,_,bO _,bO _,sw,nN,_,Z,?_⟩⟩⟩⟩;rw[ew];cases o with
     |none=>
       refine aZ ?_;refine⟨s3,zs,_,_,_,dz,?_,Z⟩;rw[jI (g:=λk=>if os.length<=k+(i+1)then fl os.length (leadF os) (2*f) g k else g k) (g':=λk=>if os.length<=k+i then fl os.length (leadF os) (2*f) g k else g k)]
       ·exact rz
       · intro k _
         show(if os.length<=k+i then _ else g k)=if os.length<=k+(i+1)then _ else g k;by_cases h1:os.length<=k+i
         ·rw[aR h1,aR au]
         · rw[aU h1]
           by_cases h2:k=c
           ·subst h2;rw[aR au,pX lI (yb eo)]
           ·rw[aU au] |some q=>
       obtain⟨ns,sp⟩:=q;refine bE ?_;have dw:=jr it;subst dw;obtain⟨eG,_,_⟩:=row.ok c ns sp eo;obtain⟨z1,kL⟩:∃z,zs[c+1]? =some z:=⟨_,cI (show c+1<zs.length by lia)⟩;obtain⟨z0,kM⟩:∃z,zs[c]? =some z:=⟨_,cI (show c<zs.length by lia)⟩;have R1:bM K H3 z1 (fl os.length (leadF os) (2*f) g (c+1)):=by
        obtain⟨d1,e1,r1⟩:=rz.get' (c+1) kL;rw[bK,jq _ (show c+1<=os.length by lia)]at e1;cases e1;have:os.length<=c+1+i:=by lia
        simp only[aR this]at r1;exact jm r1
       have R0:bM K H3 z0 (g c):=by
        obtain⟨d1,e1,r1⟩:=rz.get' c kM;rw[bK,jq _ (show c<=os.length by lia)]at e1;cases e1;have:¬os.length<=c+i:=by lia
        simp only[aU this]at r1;exact jm r1
       have sy:((c:Int)+1).toNat=c+1:=by lia
       have qh:eg zs ((c:Int)+1)=some z1:=cN au (by rw[sy];exact kL);have qi:eg zs (c:Int)=some z0:=cN au (by simpa using kM);refine⟨_,Z,_,Z,_,_,Z,Z,.inl ⟨D,_,_,_,Z,Z,aG.of dz,qh,?_⟩⟩;refine⟨_,Z,.inr ⟨ma,_,2,.int f,Z,Z,gr.go s3,Z,_,_,Z,Z,.of_left (cJ ay ay),?_⟩⟩;refine⟨_,Z,_,Z,.inl ⟨ia,_,_,_,Z,Z,hi.go s3,oj,?_⟩⟩;refine⟨_,ns,sp,Z,RD.mono s3 _ rd,eG.ne,by rw[eG.len];lia,λH4 s4=>?_⟩;refine⟨_,_,Z,Z,.of_left (cJ au au),?_⟩;have us:=hL c _ (nO eo);refine⟨z1,_,_,Z,R1.go s4,(FB (c+1) au).mono ay,us,λu H6 ru s5=>?_⟩;have fq:=s4.trans s5;have Fi:=fq _ _ dz;refine⟨_,Z,_,Z,_,Z,.inl ⟨D,_,_,_,Z,Z,aG.of Fi,qi,?_⟩⟩;have B1:Bd 2000 (g c):=(hB _).mono ay;have B2:Bd 2000 (fl os.length (leadF os) (2*f) g (c+1)+((2*f*(aL ns:Int):Int):Rat)):=(sI (FB (c+1) au) us).mono ay;refine⟨u,z0,_,_,Z,ru,R0.go fq,B2,B1,λv rv=>?_⟩;rw[LM]at rv;generalize kB:mn (g c) (fl os.length (leadF os) (2*f) g (c+1)+((2*f*(aL ns:Int):Int):Rat))=q at rv;have Rv:bM K H6 v q:=rv;have kO:=fq _ _ dz;have uN:gq zs.length (c:Int)=some c:=by unfold gq;rw[aR au,aR au];simp
       refine⟨_,Z,_,Z,D,zs,_,_,Z,Z,kO,uN,?_⟩;refine⟨λb o e=>?_,_,_,_,_,bU,?_,Z⟩
       ·rw[bh (fv e nD)];exact fq b o (s3 b o e)
       · have h:=aJ.xt (i:=c) kO (aJ.mono fq _ rz) Rv.rd (rn _) (pe _)
         rw[<-A3]at h;have e:(lst os.length λk=>if os.length<=k+i then fl os.length (leadF os) (2*f) g k else g k).set c q=lst os.length λk=>if os.length<=k+(i+1)then fl os.length (leadF os) (2*f) g k else g k:=by
          rw[<-y9 (g:=λk=>if os.length<=k+i then fl os.length (leadF os) (2*f) g k else g k) (g':=λk=>if os.length<=k+(i+1)then fl os.length (leadF os) (2*f) g k else g k) (i:=c)]
          · have:os.length<=c+(i+1):=by lia
            simp only[aR this];rw[nX lI (nO eo),kB]
          · intro k _ hk
            show(if os.length<=k+(i+1)then _ else g k)=if os.length<=k+i then _ else g k;by_cases h1:os.length<=k+i
            ·rw[aR h1,aR au]
            ·rw[aU h1,aU au]
         rw[e]at h;exact h
   · rintro O H3 ⟨s3,zs,v1,v2,v3,dz,rz,rfl⟩
     generalize hG:fl os.length (leadF os) (2*f) g=G at FB FZ FN rz;have Gn:G os.length=0:=by rw[<-hG,nW];exact hn
     have Tp:aJ K H3 zs ((lst os.length G).map cx):=by
      rw[jI (g:=λk=>if os.length<=k+(os.length-1)then G k else g k) (g':=G)]at rz
      ·exact rz
      · intro k hk
        show G k=if os.length<=k+(os.length-1)then _ else _;split
        ·rfl
        · next h => have:k=0:=by lia
                    subst this;exact FZ
     have RB:∀i,i<=os.length->Bd 1700 (Rz (λi=>if i<=os.length then G i else 0) (leadF os) (2*r) i):=λi hi=>(vJ (b:=900) (λi=>by
      by_cases h:i<=os.length
      ·simp only[aR h];exact FB i h
      ·simp only[aU h];exact(_O.A9).mono ay) rX i).mono au;have RE:∀i,i<=os.length->Rz (λi=>if i<=os.length then G i else 0) (leadF os) (2*r) i=Rz G (leadF os) (2*r) i:=by
      intro i;induction i with |zero=>intro _;show(if 0<=os.length then G 0 else 0)=G 0;rw[aR (dS _)] |succ i ih=>intro hi;have e:(if i+1<=os.length then G (i+1)else 0)=G (i+1):=aR hi;cases hl:leadF os i with |none=>rw[mS hl,mS hl];exact e |some m=>rw[jP hl,jP hl,ih au];show mn (if i+1<=os.length then G (i+1)else 0) _=_;rw[e]
     have Pb:∀i,i<=os.length->Bd 1700 (Rz G (leadF os) (2*r) i):=λi hi=>by rw[<-RE i hi];exact RB i hi
     refine⟨_,Z,ia,_,Z,.inl (hi.go s3),_,_,Z,⟨ay,ay,au,au⟩,?_⟩;have eN2:((xs.length:Int)-1).toNat=os.length-1:=by lia
     rw[eN2];refine yR (Pv:=λi O H5=>az H H5/\∃zs v1 v2 v3,H5 D=some (.lst zs)/\aJ K H5 zs ((lst os.length λk=>if k<=i then Rz G (leadF os) (2*r) k else G k).map cx)/\O=[some (.ref ma),some (.ref ia),some (.ref D),v1,v2,v3]) ?_ ?_ ?_
     · refine⟨s3,zs,v1,v2,v3,dz,?_,Z⟩
       rw[jI (g:=λk=>if k<=0 then Rz G (leadF os) (2*r) k else G k) (g':=G)]
       ·exact Tp
       · intro k _
         show G k=if k<=0 then Rz G (leadF os) (2*r) k else G k;split
         · next h => have:k=0:=by lia
                     subst this;rfl
         ·rfl
     · rintro i O H3 rS ⟨s3,zs,v1,v2,v3,dz,rz,rfl⟩
       have lI:i+1<os.length:=by lia
       obtain⟨x,hx⟩:∃x,xs[i]? =some x:=⟨_,cI (show i<xs.length by lia)⟩;have eI:((1:Int)+(i:Int)-1)=(i:Int):=by lia
       obtain⟨d,ed,rd⟩:=gQ.get' i hx;obtain⟨o,eo,it⟩:=row.get ed;have lz:=rz.length;rw[bA,jH]at lz;have oj:eg xs ((1:Int)+(i:Int)-1)=some x:=by rw[eI];exact cN au (by simpa using hx)
       obtain⟨a,wd,yw,rfl,h1,ew,sw⟩:=rK (RD.mono s3 _ rd) it;refine⟨_,Z,_,Z,_,_,Z,Z,.inl ⟨ia,_,_,_,Z,Z,hi.go s3,oj,.inr ⟨a,_,0,.str wd,Z,Z,h1,cN (fH 0) Z,.inr ⟨_,_,bO _,bO _,sw,nN,_,Z,?_⟩⟩⟩⟩;rw[ew];cases o with
       |none=>
         refine aZ ?_;refine⟨s3,zs,_,_,_,dz,?_,Z⟩;rw[jI (g:=λk=>if k<=i+1 then Rz G (leadF os) (2*r) k else G k) (g':=λk=>if k<=i then Rz G (leadF os) (2*r) k else G k)]
         ·exact rz
         · intro k _
           show(if k<=i then _ else G k)=if k<=i+1 then _ else G k;by_cases h1:k<=i
           ·rw[aR h1,aR au]
           · rw[aU h1]
             by_cases h2:k=i+1
             ·subst h2;rw[aR au,mS (yb eo)]
             ·rw[aU au] |some q=>
         obtain⟨ns,sp⟩:=q;refine bE ?_;have dw:=jr it;subst dw;obtain⟨eG,_,_⟩:=row.ok i ns sp eo;obtain⟨z1,kL⟩:∃z,zs[i]? =some z:=⟨_,cI (show i<zs.length by lia)⟩;obtain⟨z0,kM⟩:∃z,zs[i+1]? =some z:=⟨_,cI (show i+1<zs.length by lia)⟩;have R1:bM K H3 z1 (Rz G (leadF os) (2*r) i):=by obtain⟨d1,e1,r1⟩:=rz.get' i kL;rw[bK,jq _ (show i<=os.length by lia)]at e1;cases e1;simp only[aR (bj i)]at r1;exact jm r1
         have R0:bM K H3 z0 (G (i+1)):=by
          obtain⟨d1,e1,r1⟩:=rz.get' (i+1) kM;rw[bK,jq _ (show i+1<=os.length by lia)]at e1;cases e1;have:¬i+1<=i:=by lia
          simp only[aU this]at r1;exact jm r1
         have NT:((1:Int)+(i:Int)).toNat=i+1:=by lia
         have qh:eg zs ((1:Int)+(i:Int)-1)=some z1:=by rw[eI];exact cN au (by simpa using kL)
         have qi:eg zs ((1:Int)+(i:Int))=some z0:=cN au (by rw[NT];exact kM);refine⟨_,Z,_,Z,_,_,Z,Z,.inl ⟨D,_,_,_,Z,Z,aG.of dz,qh,?_⟩⟩;refine⟨_,Z,.inr ⟨ma,_,1,.int r,Z,Z,gr.go s3,Z,_,_,Z,Z,.of_left (cJ ay ay),?_⟩⟩;refine⟨_,Z,_,Z,_,_,Z,Z,.inl ⟨ia,_,_,_,Z,Z,hi.go s3,oj,?_⟩⟩;refine⟨_,ns,sp,Z,RD.mono s3 _ rd,eG.ne,by rw[eG.len];lia,λH4 s4=>?_⟩;refine⟨_,_,Z,Z,.of_left (cJ au au),?_⟩;have us:=rX i _ (nO eo);refine⟨z1,_,_,Z,R1.go s4,(Pb i au).mono ay,us,λu H6 ru s5=>?_⟩;have fq:=s4.trans s5;have Fi:=fq _ _ dz;refine⟨_,Z,_,Z,_,Z,.inl ⟨D,_,_,_,Z,Z,aG.of Fi,qi,?_⟩⟩;have B1:Bd 2000 (G (i+1)):=(FB _ au).mono ay;have B2:Bd 2000 (Rz G (leadF os) (2*r) i+((2*r*(aL ns:Int):Int):Rat)):=(sI (Pb i au) us).mono ay;refine⟨u,z0,_,_,Z,ru,R0.go fq,B2,B1,λv rv=>?_⟩;rw[LM]at rv;generalize kB:mn (G (i+1)) (Rz G (leadF os) (2*r) i+((2*r*(aL ns:Int):Int):Rat))=q at rv;have Rv:bM K H6 v q:=rv;have kO:=fq _ _ dz;have uN:gq zs.length ((1:Int)+(i:Int))=some (i+1):=by unfold gq;rw[aR au,aR au,NT]
         refine⟨_,Z,_,Z,D,zs,_,_,Z,Z,kO,uN,?_⟩;refine⟨λb o e=>?_,_,_,_,_,bU,?_,Z⟩
         ·rw[bh (fv e nD)];exact fq b o (s3 b o e)
         · have h:=aJ.xt (i:=i+1) kO (aJ.mono fq _ rz) Rv.rd (rn _) (pe _)
           rw[<-A3]at h;have e:(lst os.length λk=>if k<=i then Rz G (leadF os) (2*r) k else G k).set (i+1) q=lst os.length λk=>if k<=i+1 then Rz G (leadF os) (2*r) k else G k:=by
            rw[<-y9 (g:=λk=>if k<=i then Rz G (leadF os) (2*r) k else G k) (g':=λk=>if k<=i+1 then Rz G (leadF os) (2*r) k else G k) (i:=i+1)]
            · simp only[aR (bj (i+1))]
              rw[jP (nO eo),kB]
            · intro k _ hk
              show(if k<=i+1 then _ else G k)=if k<=i then _ else G k;by_cases h1:k<=i
              ·rw[aR h1,aR au]
              ·rw[aU h1,aU au]
           rw[e]at h;exact h
     · rintro O H4 ⟨s4,zs,v1,v2,v3,dz,rz,rfl⟩
       refine⟨_,Z,k D zs H4 nD dz ?_ s4⟩;have e:iu r f j 100 os=lst os.length λk=>if k<=os.length-1 then Rz G (leadF os) (2*r) k else G k:=by
        refine(jI λk hk=>?_);show(if k<=os.length-1 then Rz G (leadF os) (2*r) k else G k)=qO r f j 100 os k;have e1:Rz G (leadF os) (2*r) k=qO r f j 100 os k:=by rw[<-hG,<-hg];exact a5W au au k hk
        split
        ·exact e1
        ·next h=>
          have:k=os.length:=by lia
          subst this;rw[<-e1];exact(a5V au FN Gn).symm
       rw[e];exact rz
open _W _R
open _T (numS)
inductive a7j(K:aa)(C:Addr)(G:Addr->Addr->bX->bZ->Hp->VK->Prop)(vs:List V)(H:Hp)(Q:VK):Prop |mk (a:_)(q:_)(M:_)(D:_)(S:_)(h0:vs=[.ref a])(h1:cP K C H a q M S)(h2:dm M D S)(h3:M.Ok)(h4:G a q M S H Q)
def ka(K:aa)(C:Addr)(G:Addr->Addr->bX->bZ->Hp->VK->Prop):Sp:=λvs H Q _=>a7j K C G vs H Q
def N3(K:aa)(C:Addr):Addr->Addr->bX->bZ->Hp->VK->Prop:=λa q M S H Q=>S.pc=0/\∀H',cP K C H' a q M (gT M S)->cB [a] H H'->Q (.str "0") H'
abbrev C5:Stmt:=top 93
theorem T9:bc ["runner"] ["runner"] (aM C5):=bp aI
theorem Sl(f:Int)(h:1<=f):ie f 0=0:=by show((0:Rat).num+2*f*((0:Rat).den:Int)-1)/(2*f*((0:Rat).den:Int))=0;rw[show(0:Rat).num=0 from Z,show((0:Rat).den:Int)=1 from rfl];exact Int.ediv_eq_zero_of_lt au au
theorem X7{C:Addr}(F:FA K mg "answer_hold" C5)(B:bu mg)(gR:aD P w K mg ao "show_number" 1 m6)(TC:fD K C)(a1B:cV P w K mg ao C "hold" 2 (HS K C)):aD P w K mg ao "answer_hold" 3 (ka K C (N3 K C)):=by
 refine F.has T9 (λvs H Q E h=>?_) (λ_ _ _ _ _ _=>cE λ_=>rfl) (λf aF A outer s H vs Q E hr h=>?_)
 ·obtain⟨a,q,M,D,S,rfl,_⟩:=h
  rfl
 ·obtain⟨a,q,M,D,S,rfl,R,ok,aO,p0,k⟩:=h
  obtain⟨dx,mv,bv,cQ,tv,e,r1,r2,r3,r4⟩:=R.ob;refine⟨_,(aH (aQ (pf gR hr (ak (iT a1B TC.cl (hr.mono ay) (pv 0)) aw)))),_,Z,a,dx,_,Z,e,Z,a,q,M,D,S,Z,R,ok,aO,λH' R' b'=>?_⟩;rw[p0,Sl _ aO.f1.1];exact⟨0,Z,(by show(0:Nat)<10^540;decide+kernel),λH2 s2=>k H2 (R'.same (by unfold gT;split<;>exact ok.row.no) s2) (b'.trans (.of s2))⟩
def N4(K:aa)(C:Addr):Addr->Addr->bX->bZ->Hp->VK->Prop:=λa q M S H Q=>Halt S.pc S.ek/\∀q' H',cP K C H' a q' M (o8 S)->H q'=none->cB [a] H H'->Q (.str (numS (S.ds.length:Nat))) H'
abbrev C6:Stmt:=top 95
theorem Ta:bc ["runner"] ["runner"] (aM C6):=bp aI
theorem X8{C:Addr}(F:FA K mg "answer_drop" C6)(B:bu mg)(gR:aD P w K mg ao "show_number" 1 m6)(TC:fD K C)(a1C:cV P w K mg ao C "drop" 5 (HU K C)):aD P w K mg ao "answer_drop" 6 (ka K C (N4 K C)):=by
 refine F.has Ta (λvs H Q E h=>?_) (λ_ _ _ _ _ _=>cE λ_=>rfl) (λf aF A outer s H vs Q E hr h=>?_)
 ·obtain⟨a,q,M,D,S,rfl,_⟩:=h
  rfl
 ·obtain⟨a,q,M,D,S,rfl,R,ok,aO,hH,k⟩:=h
  obtain⟨dx,mv,bv,cQ,tv,e,r1,r2,r3,r4⟩:=R.ob;refine⟨_,(aH (aQ (pf gR hr (ak (iT a1C TC.cl (hr.mono ay) (pv 0)) aw)))),_,Z,a,dx,_,Z,e,Z,a,q,M,D,S,Z,R,ok,aO,hH,λq' H' R' nq b'=>?_⟩;have hl:=ok.len;exact⟨_,Z,Nm.l (show Nm _ by show Int.natAbs _<10^40;omega),λH2 s2=>k q' H2 (R'.same Z s2) nq (b'.trans (.of s2))⟩
def N1:Addr->Addr->bX->bZ->Hp->VK->Prop:=λ_ _ _ S H Q=>(∀n∈iy S,Nm n)/\∀H',az H H'->Q (.str (jG (iy S))) H'
abbrev C4:Stmt:=top 96
theorem T8:bc ["runner"] ["runner"] (aM C4):=bp aI
theorem X6{C:Addr}(F:FA K mg "answer_place" C4)(TC:fD K C)(E3:aD P w K mg ao "show_numbers" 2 (Au K))(EA:cV P w K mg ao C "place" 3 (fJ K C λ_ S H Q=>∀v H',RD K H' v (cM (iy S))->az H H'->Q v H')):aD P w K mg ao "answer_place" 4 (ka K C N1):=by
 refine F.has T8 (λvs H Q E h=>?_) (λ_ _ _ _ _ _=>cE λ_=>rfl) (λf aF A outer s H vs Q E hr h=>?_)
 ·obtain⟨a,q,M,D,S,rfl,_⟩:=h
  rfl
 ·obtain⟨a,q,M,D,S,rfl,R,ok,aO,hn,k⟩:=h
  obtain⟨dx,mv,bv,cQ,tv,e,r1,r2,r3,r4⟩:=R.ob;have lr:=aO.len;have lp:=KA ok;exact⟨_,(aH (aQ (pf E3 hr (ak (iT EA TC.cl (hr.mono ay) (pv 0)) aw)))),_,Z,a,dx,_,Z,e,Z,a,q,M,D,S,Z,R,ok,aO,λv H1 rv s1=>⟨v,iy S,Z,rv,au,hn,λH2 s2=>k _ (s1.trans s2)⟩⟩
def kq(z:Str):Str:=if z="" then "none" else z
def ET:Addr->Addr->bX->bZ->Hp->VK->Prop:=λ_ _ _ S H Q=>(∀d∈S.ds,TI d)/\∀H',az H H'->Q (.str (kq (Txt.join "\n" (S.ds.map cY)))) H'
abbrev BZ:Stmt:=top 99
theorem T7:bc ["runner"] ["runner"] (aM BZ):=bp aI
theorem X2{C:Addr}(F:FA K mg "answer_waits" BZ)(TC:fD K C)(a1e:GV mg "NOTHING" (.str "none"))(ZH:aD P w K mg ao "show_items" 4 (Ic K))(Ez:cV P w K mg ao C "waiting" 1 (fJ K C λ_ S H Q=>∀l ys H',H l=none->H' l=some (.lst ys)->aJ K H' ys S.ds->az H H'->Q (.ref l) H')):aD P w K mg ao "answer_waits" 5 (ka K C ET):=by
 refine F.has T7 (λvs H Q E h=>?_) (λ_ _ _ _ _ _=>cE λ_=>rfl) (λf aF A outer s H vs Q E hr h=>?_)
 ·obtain⟨a,q,M,D,S,rfl,_⟩:=h
  rfl
 ·obtain⟨a,q,M,D,S,rfl,R,ok,aO,hn,k⟩:=h
  obtain⟨dx,mv,bv,cQ,tv,e,r1,r2,r3,r4⟩:=R.ob;have hl:=ok.len;refine⟨_,(aH (aQ (V2 (pf ZH hr (ak (iT Ez TC.cl (hr.mono ay) (pv 0)) aw)) (qQ (cD (x:="NOTHING") Z a1e))))),?_⟩;refine⟨_,Z,a,dx,_,Z,e,Z,a,q,M,D,S,Z,R,ok,aO,λl ys H1 nl el rl s1=>?_⟩;refine⟨.ref l,S.ds,Z,Cq (aG.of el) rl,hn,ok.row.no,au,λH2 s2=>?_⟩;have hj:=ye "\n" (B:=400) (S.ds.map cY) (λz hz=>by obtain⟨d,hd,rfl⟩:=cH.mp hz;exact uO (hn d hd));have n1:Str.length "\n"=1:=by decide+kernel
  rw[n1,bA]at hj;have pQ:S.ds.length*(400+1)<=20*401:=Qc _ hl;have k2:=k H2 (s1.trans s2);unfold kq at k2;refine⟨_,Z,au,?_⟩;split
  ·next e0=>rw[aR e0]at k2;exact k2
  ·next e0=>rw[aU e0]at k2;exact k2
def ue (q:Rat):Str:=lJ q.num q.den
theorem KQ:2^1700<10^540:=by decide+kernel
theorem zt{q:Rat}(h:Bd 1700 q):lR q.num/\lR q.den:=⟨lU h.num KQ,lU (show(q.den:Int).natAbs<2^1700 from h.den) KQ⟩
def CK(r f j rate:Int)(os:List Itm):Str:=Txt.join " " ((iu r f j rate os).map ue)
def N0:Addr->Addr->bX->bZ->Hp->VK->Prop:=λ_ _ M S H Q=>∀H',az H H'->Q (.str (CK M.r M.f M.j S.rate S.os)) H'
theorem xJ{r f j rate:Int}{os:List Itm}{i:Nat}{q:Rat}(h:(iu r f j rate os)[i]? =some q):i<=os.length/\q=qO r f j rate os i:=by
 have hl:i<(iu r f j rate os).length:=(dN.mp h).1;have e:(iu r f j rate os).length=os.length+1:=jH _ _;have h2:i<=os.length:=by lia
 refine⟨h2,?_⟩;have:=jq (qO r f j rate os) h2;exact cW (h.symm.trans this)
abbrev C3:Stmt:=top 100
theorem JU:bc ["runner","plan"] ["runner"] (aM C3):=bp aI
theorem X5{C:Addr}(F:FA K mg "answer_plan" C3)(B:bu mg)(TC:fD K C)(ZO:aD P w K mg ao "plan_of" 9 (Ap K))(ZJ:aD P w K mg ao "show_fraction" 2 (Ii K))(Ez:cV P w K mg ao C "waiting" 1 (fJ K C λ_ S H Q=>∀l ys H',H l=none->H' l=some (.lst ys)->aJ K H' ys S.ds->az H H'->Q (.ref l) H'))(a1z:cV P w K mg ao C "rate" 1 (fJ K C λ_ S H Q=>Q (.int S.rate) H)):aD P w K mg ao "answer_plan" 10 (ka K C N0):=by
 refine F.has JU (λvs H Q E h=>?_) (λ_ _ _ _ _ _=>cE λ_=>rfl) (λf aF A outer s H vs Q E hr h=>?_)
 ·obtain⟨a,q,M,D,S,rfl,_⟩:=h
  rfl
 ·obtain⟨a,q,M,D,S,rfl,R,ok,aO,k⟩:=h
  obtain⟨dx,mv,bv,cQ,tv,e,r1,r2,r3,r4⟩:=R.ob;have hl:=ok.len;have nd:=JU.nd;refine⟨_,(aE (pS 1 nd (pf ZO hr (ak (dQ TC.cl TC.mx (pv 0)) (ak (cT (x:="tuple") (ji K rfl) rfl (B.at "tuple") gJ (ak (iT Ez TC.cl (hr.mono ay) (pv 0)) aw)) (ak (iT a1z TC.cl (hr.mono ay) (pv 0)) aw))))) (aH (aQ (m9 K Z bq (ak (dD (N:=["square"]) (js:=[none]) Z Z Z (pk K Z (pv 1)) (λ_ _ _ _ _=>(ba 0 (gD _))) (λ_ _ _ _ _=>cX) (λ_ _ _ _ _=>(pf ZJ hr (ak (pv 0) aw)))) aw))))),?_⟩;refine⟨_,Z,a,dx,_,_,Z,e,Z,?_⟩;refine⟨_,Z,a,dx,_,Z,e,Z,a,q,M,D,S,Z,R,ok,aO,λl ys H1 nl el rl s1=>?_⟩;refine⟨l,ys,Z,.inl ⟨aG.of el,λt H2 n2=>?_⟩⟩;have s2:=s1.trans n2.same;have e2:=s2 _ _ e;refine⟨_,Z,a,dx,_,Z,e2,Z,a,q,M,D,S,Z,R.same ok.row.no s2,ok,aO,?_⟩;refine⟨mv,.ref t,S.rate,M.rs,M.r,M.f,M.j,M.t,S.ds,S.os,Z,RD.mono s2 _ r1,aO,eZ (aP.of n2.at') (aJ.mono n2.same _ rl),ok.row,au,ok.fT,ok.fS,λp zs H3 np ep rp s3=>?_⟩;refine⟨Z,?_⟩;have lz:=rp.length;have lp:(iu M.r M.f M.j S.rate S.os).length=S.os.length+1:=jH _ _;have ll:=ok.row.len;rw[bA,lp]at lz;refine⟨_,Z,p,Z,⟨_,aG.of ep⟩,λD2 H4 n4=>?_⟩;refine vD (K:=K) (ds:=((iu M.r M.f M.j S.rate S.os).map ue).map PyData.str) _ (aG.of ep) n4 (by rw[bA,bA,lp];exact lz) au (nL _) ?_ ?_
  ·intro i x d H5 Q' ex ed s5 hq
   obtain⟨d',dw,rx⟩:=rp.get' i ex;rw[bK]at dw;rw[bK,bK]at ed;cases eq:(iu M.r M.f M.j S.rate S.os)[i]? with |none=>rw[eq]at dw;cases dw |some qq=>rw[eq]at dw ed;cases dw;cases ed;obtain⟨hi,rfl⟩:=xJ eq;obtain⟨n1,n2⟩:=zt (xK aO ok.row au ok.fT ok.fS i hi);exact⟨_,Z,x,_,_,Z,RD.mono s5 _ rx,n1,n2,λH6 s6=>hq _ _ s6 (bO _)⟩
  ·intro H5 ws s5 d5 r5
   rw[jX r5]at d5;refine⟨" ",D2,_,Z,Z,aG.of d5,λz hz=>?_,aI,by rw[bA,lp];lia,k _ (s2.trans (s3.trans s5))⟩;obtain⟨qq,hq,rfl⟩:=cH.mp hz;obtain⟨i,hi⟩:=oE.mp hq;obtain⟨va,rfl⟩:=xJ hi;obtain⟨n1,n2⟩:=zt (xK aO ok.row au ok.fT ok.fS i va);have:=N9 n1 n2;show(lJ _ _).length<=_
   lia
def nQ:ah->Bool | .tuple ds=>(ds.length==2||ds.length==3)&&ds.all (cw 1 100) |_=>false
def jJ:ah->Bool | .tuple [r,a,b,c,t]=>nQ r&&cw 1 100 t&&[a,b,c].all (cw 1 50) |_=>false
theorem Zi(n:Nat):yj (.int n) [.int 2,.int 3]=(n==2||n==3):=by
 show((2:Int)==n||((3:Int)==n||false))=_;rw[Bool.or_false];congr 1
 ·rw[jh];simp;lia
 ·rw[jh];simp;lia
inductive a7c(f:ah->Bool)(K:aa)(vs:List V)(H:Hp)(Q:VK):Prop |mk (v:_)(d:_)(h0:vs=[v])(h1:RD K H v d)(h2:∀H',az H H'->Q (.bl (f d)) H')
def tS(f:ah->Bool)(K:aa):Sp:=λvs H Q _=>a7c f K vs H Q
abbrev C1:Stmt:=top 23
theorem JT:bc ["thing"] ["thing"] (aM C1):=bp aI
theorem X4(F:FA K mg "are_rails" C1)(B:bu mg)(g1:GT K mg "AXES" [.int 2,.int 3])(a1j:GV mg "LONGEST_RAIL" (.int 100))(gU:aD P w K mg ao "is_whole_within" 2 (kT K)):aD P w K mg ao "are_rails" 3 (tS nQ K):=by
 refine F.has JT (λvs H Q E h=>?_) (λ_ _ _ _ _ _=>cE λ_=>rfl) (λf aF A outer s H vs Q E hr h=>?_)
 ·obtain⟨v,d,rfl,_⟩:=h
  rfl
 ·obtain⟨v,d,rfl,rd,k⟩:=h
  have nd:=JT.nd;obtain⟨aX,a1s,Ss⟩:=g1;refine⟨_,(aE (bB (PW.pt (iq (df (cC (lj K B (ak (pv 0) (ak (ki (x:="tuple") (v:=.ty "tuple") Z (B.at "tuple") gJ rfl) aw))))) (ip (bI (Xt K rfl) (eF K B (ak (pv 0) aw)) (cD (x:="AXES") rfl a1s) (by with_unfolding_all rfl))))) (aH (aQ gB)) bD) (aH (aQ (ck (x:="all") (qj K Z Z) Z (B.at "all") sZ (ak (dD (N:=["rail"]) (js:=[none]) rfl rfl rfl (jn K rfl (pv 0)) (λ_ _ _ _ _=>(ba 0 (gD _))) (λ_ _ _ _ _=>cX) (λ_ _ _ _ _=>(pf gU hr (ak (pv 0) (ak aB (ak (cD (x:="LONGEST_RAIL") rfl a1j) aw)))))) aw))))),?_⟩;rcases tK d with⟨ds,rfl⟩|⟨ht,hn⟩
  ·refine⟨_,Z,.inl ⟨_,_,"tuple",true,Z,rd.ty,ay,nk,_,Z,aZ ?_⟩⟩
   obtain⟨p,xs,rfl,hx,hd⟩:=rd.cg;have hl:=hd.length;refine⟨_,Z,p,_,Z,.inr hx,aX,_,Z,.inr (Ss H),Z,Z,_,Z,?_⟩;have k:∀H',az H H'->Q (.bl ((ds.length==2||ds.length==3)&&ds.all (cw 1 100))) H':=k;show if(!yj (.int xs.length) [.int 2,.int 3])=true then _ else _;rw[Zi,hl];cases e23:(ds.length==2||ds.length==3)with |false=>rw[e23,gf]at k;exact bE (k H (az.refl _)) |true=>
    rw[e23,gc]at k;refine aZ ?_;have l3:ds.length<=3:=by rw[Bool.or_eq_true,dr,dr]at e23;lia
    refine⟨_,Z,p,Z,⟨_,hx⟩,λD H0 nw=>?_⟩;refine zj (xs:=xs) (bs:=ds.map (cw 1 100)) [] hx nw (by rw[bA,hl]) au ?_ ?_
    ·intro i x b H2 Q' ex eb s2 hq
     obtain⟨d,ed,rfl⟩:=y6 eb;obtain⟨x',iG,rx⟩:=hd.get i ed;rw[ex]at iG;cases iG;exact⟨_,Z,_,d,1,100,Z,RD.mono s2 _ rx,hq _ (az.refl _)⟩
    ·intro H2 s2 d2
     refine⟨D,_,Z,aG.of d2,?_⟩;rw[all_map];exact k H2 s2
  ·have e:nQ d=false:=by cases d<;>first|rfl|exact absurd rfl (hn _)
   rw[e]at k;refine⟨_,Z,.inl ⟨_,_,"tuple",false,Z,rd.ty,ay,ht,_,Z,bE ?_⟩⟩;exact k H (az.refl _)
theorem Yf(d:ah):(∃r a b c t,d= .tuple [r,a,b,c,t])\/(∃ds,d= .tuple ds/\ds.length≠5/\jJ d=false)\/(hW (jW d) "tuple"=false/\jJ d=false):=by
 rcases tK d with⟨ds,rfl⟩|⟨ht,hn⟩
 ·match ds with |[r,a,b,c,t]=>exact .inl ⟨r,a,b,c,t,Z⟩ |[]=>exact .inr (.inl ⟨_,Z,by simp,by simp[jJ]⟩) |[_]=>exact .inr (.inl ⟨_,Z,by simp,by simp[jJ]⟩) |[_,_]=>exact .inr (.inl ⟨_,Z,by simp,by simp[jJ]⟩) |[_,_,_]=>exact .inr (.inl ⟨_,Z,by simp,by simp[jJ]⟩) |[_,_,_,_]=>exact .inr (.inl ⟨_,Z,by simp,by simp[jJ]⟩) |_::_::_::_::_::_::_=>exact .inr (.inl ⟨_,Z,by simp,by simp[jJ]⟩)
 ·exact .inr (.inr ⟨ht,by cases d<;>first|rfl|exact absurd rfl (hn _)⟩)
abbrev BK:Stmt:=top 21
theorem JE:bc ["thing","rails","rise","fall","jump","ticks"] ["thing"] (aM BK):=bp aI
theorem WN(F:FA K mg "is_machine" BK)(B:bu mg)(a1h:GV mg "MOST_TICKS" (.int 100))(a1o:GV mg "GREATEST_CHANGE" (.int 50))(gU:aD P w K mg ao "is_whole_within" 2 (kT K))(a0U:aD P w K mg ao "are_rails" 3 (tS nQ K)):aD P w K mg ao "is_machine" 4 (tS jJ K):=by
 refine F.has JE (λvs H Q E h=>?_) (λ_ _ _ _ _ _=>cE λ_=>rfl) (λf aF A outer s H vs Q E hr h=>?_)
 ·obtain⟨v,d,rfl,_⟩:=h
  rfl
 ·obtain⟨v,d,rfl,rd,k⟩:=h
  have nd:=JE.nd;refine⟨_,(aE (bB (PW.pt (iq (df (cC (lj K B (ak (pv 0) (ak (ki (x:="tuple") (v:=.ty "tuple") Z (B.at "tuple") gJ rfl) aw))))) (ip (bI (mr K rfl hr.units) (eF K B (ak (pv 0) aw)) aB (bC _))))) (aH (aQ gB)) bD) (aE (eD (pv 0) (dW K Z (n:=5) Z (bP (ba 1 nd) (bP (ba 2 nd) (bP (ba 3 nd) (bP (ba 4 nd) (bP (ba 5 nd) dU))))))) (aE (bB (PW.pt (iq (df (cC (pf a0U hr (ak (pv 1) aw)))) (ip (df (cC (pf gU hr (ak (pv 5) (ak aB (ak (cD (x:="MOST_TICKS") Z a1h) aw))))))))) (aH (aQ gB)) bD) (aH (aQ (ck (x:="all") (qj K Z Z) Z (B.at "all") sZ (ak (dD (N:=["change"]) (js:=[none]) rfl rfl rfl (jn K rfl (eE (ak (pv 2) (ak (pv 3) (ak (pv 4) aw))))) (λ_ _ _ _ _=>(ba 0 (gD _))) (λ_ _ _ _ _=>cX) (λ_ _ _ _ _=>(pf gU hr (ak (pv 0) (ak aB (ak (cD (x:="GREATEST_CHANGE") rfl a1o) aw)))))) aw))))))),?_⟩;rcases Yf d with⟨r,a,b,c,t,rfl⟩|⟨ds,rfl,hl,hf⟩|⟨ht,hf⟩
  ·refine⟨_,Z,.inl ⟨_,_,"tuple",true,Z,rd.ty,ay,nk,_,Z,aZ ?_⟩⟩
   obtain⟨p,xs,rfl,hx,hd⟩:=rd.cg;obtain⟨u1,ys,rfl,r1,hd⟩:=hd.cons_inv;obtain⟨u2,ys,rfl,r2,hd⟩:=hd.cons_inv;obtain⟨u3,ys,rfl,r3,hd⟩:=hd.cons_inv;obtain⟨u4,ys,rfl,r4,hd⟩:=hd.cons_inv;obtain⟨u5,ys,rfl,r5,hd⟩:=hd.cons_inv;cases hd.nil_inv;have k:∀H',az H H'->Q (.bl (nQ r&&cw 1 100 t&&[a,b,c].all (cw 1 50))) H':=k;refine⟨_,Z,p,_,Z,.inr hx,.inl ⟨_,_,Z,Z,_,Z,aZ ?_⟩⟩;refine⟨_,Z,p,_,Z,hx,Z,_,_,Z,_,_,Z,_,_,Z,_,_,Z,_,_,Z,Z,?_⟩;refine⟨_,Z,_,r,Z,r1,λH1 s1=>⟨_,Z,?_⟩⟩;cases e1:nQ r with |false=>rw[e1,gf,gf]at k;exact bE (k H1 s1) |true=>rw[e1,gc]at k;refine aZ ?_;refine⟨_,Z,_,t,1,100,Z,RD.mono s1 _ r5,_,Z,?_⟩;cases e2:cw 1 100 t with |false=>rw[e2,gf]at k;exact bE (k H1 s1) |true=>
    rw[e2,gc]at k;refine aZ ?_;refine⟨_,Z,_,Z,_,Z,bW Z,λq H2 nq=>?_⟩;have s2:=s1.trans nq.same;refine⟨q,Z,⟨_,aP.of nq.at'⟩,λD H0 nw=>?_⟩;have hd3:aJ K H2 [u2,u3,u4] [a,b,c]:=cj (RD.mono s2 _ r2) (cj (RD.mono s2 _ r3) (cj (RD.mono s2 _ r4) de));refine zj (xs:=[u2,u3,u4]) (bs:=[a,b,c].map (cw 1 50)) [] (aP.of nq.at') nw Z (Qe Z) ?_ ?_
    ·intro i x b' H3 Q' ex eb s3 hq
     obtain⟨d,ed,rfl⟩:=y6 eb;obtain⟨x',iG,rx⟩:=hd3.get i ed;rw[ex]at iG;cases iG;exact⟨_,Z,_,d,1,50,Z,RD.mono s3 _ rx,hq _ (az.refl _)⟩
    ·intro H3 s3 d3
     refine⟨D,_,Z,aG.of d3,?_⟩;rw[all_map];exact k H3 (s2.trans s3)
  ·rw[hf]at k
   refine⟨_,Z,.inl ⟨_,_,"tuple",true,Z,rd.ty,ay,nk,_,Z,aZ ?_⟩⟩;obtain⟨p,xs,rfl,hx,hd⟩:=rd.cg;refine⟨_,Z,p,_,Z,.inr hx,.inl ⟨_,_,Z,Z,_,Z,?_⟩⟩;have e:(!decide ((xs.length:Int)=5))=true:=by rw[hd.length];simp;lia
   rw[e];exact bE (k H (az.refl _))
  ·rw[hf]at k
   refine⟨_,Z,.inl ⟨_,_,"tuple",false,Z,rd.ty,ay,ht,_,Z,bE ?_⟩⟩;exact k H (az.refl _)
structure mZ(K:aa)(D:Addr):Prop where
 cl:hU K D
 mx:gu K D "machine"
 uF:gu K D "runner"
def vS(K:aa)(D:Addr)(H:Hp)(a r:Addr)(M:bX):Prop:=∃dx mv,H a=some (.ins D dx [("machine",mv),("runner",.ref r)])/\RD K H mv M.D
theorem Yd{rs:List Int}{r f j t:Int}(h:kQ rs r f j t):jJ (iA rs r f j t)=true:=by
 show(nQ (.tuple (rs.map PyData.int))&&cw 1 100 (.int t)&&[PyData.int r,.int f,.int j].all (cw 1 50))=true;have h1:nQ (.tuple (rs.map PyData.int))=true:=by show(((rs.map PyData.int).length==2||(rs.map PyData.int).length==3)&&(rs.map PyData.int).all (cw 1 100))=true;rw[bA,du,Bool.or_eq_true,dr,dr];refine⟨h.len,fh.mpr λd hd=>?_⟩;obtain⟨z,hz,rfl⟩:=cH.mp hd;have:=h.rl z hz;show(decide (1<=z)&&decide (z<=100))=true;rw[bR this.1,bR this.2];rfl
 have q:∀{lo hi z:Int},lo<=z/\z<=hi->cw lo hi (.int z)=true:=λ{lo hi z} h=>by show(decide (lo<=z)&&decide (z<=hi))=true;rw[bR h.1,bR h.2];rfl
 rw[h1,q h.t1];show(cw 1 50 (.int r)&&(cw 1 50 (.int f)&&(cw 1 50 (.int j)&&true)))=true;rw[q h.r1,q h.f1,q h.j1];rfl
abbrev BR:Stmt:=inClass (top 105) 0
theorem JL:bc ["self","machine","place"] ["self","machine","place"] (aM BR):=bp aI
inductive a7b(K:aa)(C:Addr)(D:Addr)(vs:List V)(H:Hp)(Q:VK):Prop |mk (a:_)(dx:_)(mv:_)(f6:_)(M:_)(pl:_)(h0:vs=[.ref a,mv,f6])(h1:H a=some (.ins D dx []))(h2:RD K H mv (bX.D M))(h3:RD K H f6 (cM pl))(h4:M.Ok)(h5:fE M.rs pl)(h6:∀r q H',vS K D H' a r M->cP K C H' r q M (ij pl)->H r=none->H q=none->cB [a] H H'->Q .aY H')
def Io(K:aa)(C D:Addr):Sp:=λvs H Q _=>a7b K C D vs H Q
theorem WV{C D:Addr}(F:CA K mg D "Desk" "Desk.__init__" BR)(TC:mZ K D)(a0m:aD P w K mg ao "is_machine" 4 (tS jJ K))(uZ:aD P w K mg ao "is_place" 3 (tR K))(a1w:sL P w K mg ao C "Runner" 1 (HR K C)):sL P w K mg ao D "Desk" 5 (Io K C D):=by
 refine F.has JL (λvs H Q E h=>?_) (λ_ _ _ _ _ _=>lO λ_ _ _=>rfl) (λf aF A outer s H vs Q E hr h=>?_)
 ·obtain⟨a,dx,mv,f6,M,pl,rfl,_⟩:=h
  rfl
 ·obtain⟨a,dx,mv,f6,M,pl,rfl,e,rm,rp,aO,iV,k⟩:=h
  have nd:=JL.nd;have lr:=aO.len;refine⟨_,(aE (bB (df (cC (pf a0m hr (ak (pv 1) aw)))) (aH ph) bD) (aE (bB (df (cC (pf uZ hr (ak (pv 1) (ak (pv 2) aw))))) (aH ph) bD) (aE (ir TC.cl TC.mx (pv 0) (pv 1)) (aH (ir TC.cl TC.uF (pv 0) (KH a1w (hr.mono ay) rfl (ak (pv 1) (ak (pv 2) aw)))))))),?_⟩;refine⟨_,Z,mv,_,Z,rm,λH1 s1=>⟨_,Z,?_⟩⟩;rw[Yd aO];refine aZ ?_;refine⟨_,Z,_,Z,mv,f6,M.rs,_,_,Z,RD.mono s1 _ rm,RD.mono s1 _ rp,au,λH2 s2=>⟨_,Z,?_⟩⟩;rw[La iV];refine aZ ?_;have gh:=s1.trans s2;have e2:=gh _ _ e;refine⟨_,Z,_,Z,a,dx,_,Z,e2,ay,?_⟩;have v2:eK H (_L.upd H2 a (.ins D dx [("machine",mv)])):=gh.v.trans (.upd e2 trivial);refine⟨_,Z,_,Z,λr rx lE E4 ne=>?_⟩;have ar:a≠r:=λz=>by rw[<-z,bU]at lE;cases lE
  have P0:a≠rx:=λz=>by rw[<-z,bU]at E4;cases E4
  have s3:az (_L.upd H2 a (.ins D dx [("machine",mv)])) (_L.upd (_L.upd (_L.upd H2 a (.ins D dx [("machine",mv)])) rx (.own r)) r (.ins C rx [])):=(az.new E4).trans (az.new (by rw[bh ne.symm];exact lE));have v3:=v2.trans s3.v;refine⟨r,rx,mv,f6,M,pl,Z,bU,RD.v v3 _ (iY _ _ _ _ _) rm,RD.v v3 _ (iz _) rp,λq H3 R3 nq bt=>⟨Z,?_⟩⟩;have nr:H r=none:=by cases e':H r with |none=>rfl |some o=>rw[bh ar.symm,gh _ _ e']at lE;cases lE
  have rk:q≠a:=λz=>by rw[z,bh ar,bh P0,bU]at nq;cases nq
  have Dg:H q=none:=by cases e':H q with |none=>rfl |some o=>
   have h1:(_L.upd H2 a (.ins D dx [("machine",mv)])) q=some o:=by rw[bh rk];exact gh _ _ e'
   cases(s3 _ _ h1).symm.trans nq
  have e3:=bt a _ (by rw[bh ar,bh P0];exact bU) (λz=>ar (cS.mp z));refine⟨_,Z,a,dx,_,Z,e3,by show 1<1000;decide,?_⟩;have v4:eK H3 (_L.upd H3 a (.ins D dx [("machine",mv),("runner",.ref r)])):=.upd e3 trivial;have bH:cB [a] H (_L.upd H3 a (.ins D dx [("machine",mv),("runner",.ref r)])):=λb o eb hb=>by
   have ha:b≠a:=λz=>hb (by rw[z];exact .head _);have hbr:b≠r:=λz=>by rw[z,nr]at eb;cases eb
   rw[bh ha];refine bt b o (s3 _ _ (by rw[bh ha];exact gh _ _ eb)) (λz=>hbr (cS.mp z))
  have vH:=bH.v λx hx o eo=>by rw[cS]at hx;rw[hx,e]at eo;cases eo;trivial
  refine k r q _ ⟨dx,mv,bU,RD.v vH _ (iY _ _ _ _ _) rm⟩ ?_ nr Dg bH;exact R3.go Z v4 (λo eo=>by rw[bh ar.symm];exact eo) (λo eo=>by rw[bh rk];exact eo)
inductive a7i(D:Addr)(z:Str)(sp:Sp)(vs:List V)(H:Hp)(Q:VK):Prop |mk (a:_)(r:_)(dx:_)(mv:_)(h0:vs=[.ref a,.str z])(h1:H a=some (.ins D dx [("machine",mv),("runner",.ref r)]))(h2:∀H' E',az H H'->sp [.ref r] H' Q E')
def oW(D:Addr)(z:Str)(sp:Sp):Sp:=λvs H Q _=>a7i D z sp vs H Q
abbrev xx:Stmt:=inClass (top 105) 1
theorem xu:bc ["self","text","word","rest","answer","item"] ["self","text"] (aM xx):=bp aI
theorem uy{D gA:Addr}{z fn:Str}{n:Nat}{sp:Sp}(F:MA K D "say" "Desk.say" xx)(B:bu mg)(TC:mZ K D)(GA:GD w K mg "ANSWERS" gA)(hz:Txt.split z " "=[z])(hl:z.length<=100)(hG:PySem.W.nsIn K gA z=some (mg fn))(hap:aD P w K mg ao fn n sp):cV P w K mg ao D "say" (n+1) (oW D z sp):=by
 refine F.has xu (λvs H Q E h=>?_) (λ_ _ _ _ _ _=>dj λ_ _=>rfl) (λf0 aF A outer s H vs Q E hr h=>?_)
 ·obtain⟨a,r,dx,mv,rfl,_⟩:=h
  rfl
 ·obtain⟨a,r,dx,mv,rfl,ea,k⟩:=h
  obtain⟨f,fd,ps,Fo,hm,hk,hb⟩:=hap;rw[hm]at hG;have nd:=xu.nd;have j4:sizeLine=16777216:=by decide
  refine⟨_,(aE (bB (df (cC (lj K B (ak (pv 1) (ak (ki (x:="str") (v:=.ty "str") Z (B.at "str") gy rfl) aw))))) (aH ph) bD) (aE (eD (CP K Z (pv 1) (ak bq aw)) (CN K Z Z (ba 2 nd) (ba 3 nd))) (aE (bB (PW.pt (CH (Kt (KO GA Z (pv 2)) (by with_unfolding_all rfl)) (CG (df (xE K Z (pv 3)))))) (aE (pS 4 nd (V8 GA Z (pv 2) (λ_ _=>rfl))) (aH (aQ (Vb 4 ur (ha:=(ak (dQ TC.cl TC.uF (pv 0)) aw)))))) bD) xF))),?_⟩;refine⟨_,Z,.inl ⟨_,"str","str",true,Z,Z,ay,ay,_,Z,aZ ?_⟩⟩;refine⟨_,Z,Z,z," ",Z,Z,aI,au,λl H1 n1=>?_⟩;rw[hz]at n1;refine⟨l,.str z,[],Z,aG.of n1.at',ay,λp H2 n2=>?_⟩;have s2:=n1.same.trans n2.same;refine⟨_,Z,z,_,Z,hG,true,Z,bE ?_⟩;refine⟨_,Z,false,.inl ⟨_,aG.of n2.at',Z⟩,bE ?_⟩;refine⟨_,Z,z,_,.ref f,Z,hG,Z,?_⟩;exact⟨f,fd,ps,n,_,Z,Fo,hk,hb,hr.mono au,_,Z,a,dx,_,_,Z,s2 _ _ ea,Z,k H2 _ s2⟩
end
end _c
namespace _c
open PySem PySem.Spec PyProof.Rows _L _d _l _C _P _W _R
open _O (topR cornO mnO betR atO ownF leadF ownL OkI OkIs)
open _T (numS numIn? Free)
section
variable {P:af}{w:World}{K:aa}{mg:bf}{ao:Heap}
def dP(a b:List Int):List Int:=(a.zip b).map λp=>p.1-p.2
def vR(K:aa)(C:Addr)(R:jy)(a q:Addr)(M:bX)(S:bZ)(d:ah)(H:Hp)(Q:VK)(E:XK):Prop:=(iB M.rs.length d=false/\∀H',az H H'->E (.ref R.n) none H')\/∃o,hJ M.rs.length d o/\(gC M.rs (dF (cn S) o)=false->∀H' dx,az H H'->H' dx=some (.xd [("at",.int (S.ds.length:Int))])->E (.ref R.o) (some dx) H')/\(gC M.rs (dF (cn S) o)=true->S.ds.length=20->∀H',az H H'->E (.ref R.f) none H')/\(gC M.rs (dF (cn S) o)=true->S.ds.length<20->∀H',cP K C H' a q M (lL S d o)->cB [a,q] H H'->Q (.str (numS (S.ds.length+1:Nat))) H')
theorem vR.go{C:Addr}{R:jy}{a q:Addr}{M:bX}{S:bZ}{d:ah}{H H1:Hp}{Q:VK}{E:XK}(h:vR K C R a q M S d H Q E)(s:az H H1):vR K C R a q M S d H1 Q E:=by
 rcases h with⟨h1,h2⟩|⟨o,h1,h2,h3,h4⟩
 ·exact .inl ⟨h1,λH' s'=>h2 H' (s.trans s')⟩
 ·refine .inr ⟨o,h1,λa1 H' dx s'=>h2 a1 H' dx (s.trans s'),λa1 a2 H' s'=>h3 a1 a2 H' (s.trans s'),λa1 a2 H' R' b'=>h4 a1 a2 H' R' λb o' eb hb=>b' b o' (s b o' eb) hb⟩
theorem Lk{n:Nat}(h:n<=20):((n+1:Nat):Int).natAbs.log2<1920:=kx (show((n+1:Nat):Int).natAbs<10^40 by omega)
theorem Ll{n:Nat}(h:n<=20):vM ((n+1:Nat):Int):=Nm.l (show((n+1:Nat):Int).natAbs<10^40 by omega)
def toS(ns:List Int)(sp:Int):Str:=Txt.join " " ("to"::(ns.map numS++[numS sp]))
theorem Xo{ns:List Int}(h:∀n∈ns,Nm n):(ns.map numS).map (λz=>oV (numIn? z))=ns.map V.int:=by rw[wz];refine List.map_congr_left λn hn=>?_;show oV (numIn? (numS n))=_;rw[_T.De (by have:=fu (h n hn);lia)];rfl
theorem qY{rs pl:List Int}(h:fE rs pl)(hr:∀z∈rs,1<=z/\z<=100):∀n∈pl,0<=n/\n<=100:=λn hn=>by
 obtain⟨i,hi⟩:=oE.mp hn;have hl:i<rs.length:=by rw[<-h.len];exact(dN.mp hi).1
 have e:=cI hl;have:=h.at' i n _ hi e;have:=hr _ (wB hl)
 lia
theorem LY(ns:List Int)(sp:Int):cF 8 (dh ns sp)/\oZ (dh ns sp)=true:=by refine⟨(fZ.tup (n:=1) (.cons ⟨aI,dS _⟩ (.cons (fZ.tup (n:=0) λd hd=>?_) (.cons (.int _) .nil)))).le ay,Z⟩;obtain⟨a,_,rfl⟩:=cH.mp hd;exact .int _
abbrev AN:Stmt:=inClass (top 105) 2
theorem IQ:bc ["self","words","numbers","place","steps"] ["self","words"] (aM AN):=bp aI
inductive a6r(K:aa)(C:Addr)(D:Addr)(R:jy)(vs:List V)(H:Hp)(Q:VK)(E:XK):Prop |mk (a:_)(r:_)(q:_)(M:_)(D':_)(S:_)(l:_)(ns:_)(sp:_)(h0:vs=[.ref a,.ref l])(h1:vS K D H a r M)(h2:cP K C H r q M S)(h3:dm M D' S)(h4:M.Ok)(h5:aG K H l ((ns.map numS++[numS sp]).map V.str))(h6:fE M.rs ns)(h7:1<=sp)(h8:sp<=20)(h9:vR K C R r q M S (dh (dP ns (cn S)) sp) H Q E)
def HN(K:aa)(C D:Addr)(R:jy):Sp:=λvs H Q E=>a6r K C D R vs H Q E
theorem VO{C D:Addr}{R:jy}(F:MA K D "say_to" "Desk.say_to" AN)(TC:mZ K D)(RC:fD K C)(B:bu mg)(gR:aD P w K mg ao "show_number" 1 m6)(Ey:GV mg "GREATEST_SPEED" (.int 20)){cL:Addr}(yJ:Exc K mg "NoLine" cL gF gO)(Eb:aD P w K mg ao "numbers_in" 3 (xi K))(uZ:aD P w K mg ao "is_place" 3 (tR K))(gU:aD P w K mg ao "is_whole_within" 2 (kT K))(EB:cV P w K mg ao C "leads_to" 3 (fJ K C λ_ S H Q=>∀v H',RD K H' v (cM (cn S))->az H H'->Q v H'))(EE:mT P w K mg ao C "feed" 5 (Ao K C R)):mT P w K mg ao D "say_to" 6 (HN K C D R):=by
 refine F.Eu IQ (λvs H Q E h=>?_) (λ_ _ _ _ _ _=>dj λ_ _=>rfl) (λf0 aF A outer s H vs Q E hr h=>?_)
 ·obtain⟨a,r,q,M,D',S,l,ns,sp,rfl,_⟩:=h
  rfl
 ·obtain⟨a,r,q,M,D',S,l,ns,sp,rfl,⟨dx,mv,ea,rm⟩,Ra,ok,aO,hl,iV,eT,iR,fe⟩:=h
  have nd:=IQ.nd;have lr:=aO.len;have ln:=iV.len;have nb:=qY iV aO.rl;have nm:∀n∈ns,Nm n:=λn hn=>by have:=nb n hn;show n.natAbs<10^40;lia
  have sm:Nm sp:=by show sp.natAbs<10^40;lia
  refine⟨_,(aE (pS 2 nd (pf Eb hr (ak (pv 1) aw))) (aE (pS 3 nd (cT (x:="tuple") (ji K Z) Z (B.at "tuple") gJ (ak (uk (tV K rfl) (pv 2) ui (uh (kh jV aB))) aw))) (aE (bB (PW.pt (iq (df (cC (pf uZ hr (ak (dQ TC.cl TC.mx (pv 0)) (ak (pv 3) aw))))) (ip (df (cC (pf gU hr (ak (px K (pv 2) (kh jV aB)) (ak aB (ak (cD (x:="GREATEST_SPEED") rfl Ey) aw))))))))) (aH (uf (λ_ _ _ _ _ _ _ I m q=>tE I m q) yJ wt hr.hd Z (ak bq aw))) bD) (aE (pS 4 nd (cT (x:="tuple") (ji K Z) Z (B.at "tuple") gJ (ak (dD (N:=["number","begun"]) (js:=[none,none]) rfl rfl rfl (kZ K rfl false false rfl (B.at "zip") (ak (pv 3) (ak (iT EB RC.cl (hr.mono ay) (dQ TC.cl TC.uF (pv 0))) aw))) (λ_ _ _ _ _=>(dW K rfl (n:=2) rfl (bP (ba 0 (gm ay)) (bP (ba 1 (gm ay)) dU)))) (λ_ _ _ _ _=>cX) (λ_ _ _ _ _=>(aK kl (pv 0) (pv 1)))) aw))) (aH (aQ (pf gR hr (ak (xM EE (CQ λ_ _ _ z=>z) RC.cl (hr.mono ay) (dQ TC.cl TC.uF (pv 0)) (ak (eE (ak bq (ak (pv 4) (ak (px K (pv 2) (kh jV aB)) aw)))) aw)) aw)))))))),?_⟩;refine⟨_,Z,l,_,Z,hl,by simp;lia,λz hz=>?_,λp H1 s1 np d1=>?_⟩
  ·rcases iO.mp hz with hz|hz
   ·obtain⟨n,hn,rfl⟩:=cH.mp hz
    have:=fu (nm n hn);lia
   ·rw[cS.mp hz]
    have:=fu sm;lia
  rw[jg,Xo nm,show[numS sp].map (λz=>oV (numIn? z))=[V.int sp] by show[oV (numIn? (numS sp))]=_;rw[_T.De (by have:=fu sm;lia)];rfl]at d1;have cl:=Oj (ns.map V.int++[V.int sp]);rw[fQ,bA,tm,Nat.add_sub_cancel,List.take_left' (by rw[bA])]at cl;refine⟨_,Z,_,Z,_,Z,p,_,Z,.inl ⟨aG.of d1,λl2 H2 n2=>?_⟩⟩;have d2:=n2.at';rw[show(-(1:Int))=-1 from Z,cl]at d2;refine⟨l2,_,Z,.inl ⟨aG.of d2,λt H3 n3=>?_⟩⟩;have s3:=s1.trans (n2.same.trans n3.same);have zc:=s3 _ _ ea;have rt:RD K H3 (.ref t) (cM ns):=eZ (aP.of n3.at') (nC ns);refine⟨_,Z,a,dx,_,_,Z,zc,Z,_,Z,mv,.ref t,M.rs,_,_,Z,RD.mono s3 _ rm,rt,au,λH4 s4=>⟨_,Z,?_⟩⟩;rw[La iV];refine aZ ?_;have xy:=s3.trans s4;have O6:H4 p=some (.lst (ns.map V.int++[V.int sp])):=s4 _ _ (n3.same _ _ (n2.same _ _ d1));have OX:eg (ns.map V.int++[V.int sp]) (-1)=some (.int sp):=OW (by simp);refine⟨_,Z,_,Z,.inl ⟨p,_,-1,.int sp,Z,Z,aG.of O6,OX,_,.int sp,1,20,Z,eu _,_,Z,?_⟩⟩;rw[show cw 1 20 (.int sp)=true by show(decide (1<=sp)&&decide (sp<=20))=true;rw[bR eT,bR iR];rfl];refine aZ ?_;have zb:=xy _ _ ea;obtain⟨rx,TY,Ua,TQ,TB,er,_⟩:=Ra.ob;have er4:=xy _ _ er;have R4:=Ra.same ok.row.no xy;refine⟨_,Z,_,Z,a,dx,_,_,Z,zb,Z,r,rx,_,Z,er4,Z,r,q,M,D',S,Z,R4,ok,aO,λg H5 rg s5=>?_⟩;obtain⟨ga,gx,rfl,hg,hgx⟩:=rg.cg;rw[hgx.eO]at hg;have gl:(cn S).length=M.rs.length:=yS _ _ ok.pl ok.nF;have Mq:aP K H5 t (ns.map V.int):=aP.of (s5 _ _ (s4 _ _ n3.at'));refine⟨t,ga,Z,⟨_,Mq⟩,⟨_,hg⟩,λD2 H6 n6=>?_⟩;refine qe (K:=K) (b1:=false) (b2:=false) (xs:=ns.map V.int) (ys:=(cn S).map V.int) (ds:=(dP ns (cn S)).map PyData.int) _ Z Mq hg n6 (by simp[dP]) (by simp[dP];lia) (kr _) ?_ ?_
  ·intro i x y d H7 Q' ex ey ed s7 hq
   obtain⟨u,v,e1,e2,rfl,rfl⟩:=zip2 au ex ey;obtain⟨m,em,rfl⟩:=kv ed;unfold dP at em;rw[bK,(oF (z:=(u,v))).mpr ⟨e1,e2⟩]at em;cases em;exact⟨_,Z,_,Z,_,_,Z,Z,hq _ _ (az.refl _) (eu _)⟩
  intro H7 zs s7 d7 r7;rw[r7.eO]at d7;refine⟨D2,_,Z,.inl ⟨aG.of d7,λtt H8 n8=>?_⟩⟩;have JY:=s5.trans (s7.trans n8.same);have s8:=xy.trans JY;refine⟨_,Z,a,dx,_,_,Z,s8 _ _ ea,Z,r,rx,_,Z,s8 _ _ er,Z,?_⟩;refine⟨_,Z,_,Z,_,Z,.inl ⟨p,_,-1,.int sp,Z,Z,aG.of (JY _ _ O6),OX,bW Z,λtu H9 n9=>?_⟩⟩;have s9:=s8.trans n9.same;have rl:RD K H9 (.ref tu) (dh (dP ns (cn S)) sp):=eZ (aP.of n9.at') (cj (bO _) (cj (eZ (aP.of (n9.same _ _ n8.at')) (nC _)) (cj (eu _) de)));obtain⟨o1,o2⟩:=LY (dP ns (cn S)) sp;refine⟨r,q,M,D',S,.ref tu,_,Z,Ra.same ok.row.no s9,ok,aO,rl,o1,o2,?_⟩;rcases fe.go s9 with⟨h1,h2⟩|⟨o,h1,h2,h3,h4⟩
  ·exact .inl ⟨h1,h2⟩
  ·exact .inr ⟨o,h1,h2,h3,λa1 a2 H' R' b'=>⟨_,Z,Ll au,λH2 t2=>h4 a1 a2 H2 (R'.same (Lu ok.row.no h1.it.no) t2) (b'.trans (.of t2))⟩⟩
theorem Rm{ws:List Str}{d:ah}(h:fo ws=d)(hd:d≠ .none):∃z y rest ds,ws=z::y::rest/\d= .tuple (.str z::ds):=by
 subst h
 match ws with
 |[]=>exact(hd Z).elim |[z]=>exact(hd (by unfold fo;dsimp only;split<;>rfl)).elim |z::y::rest=>
  refine⟨z,y,rest,?_⟩;unfold fo at hd⊢;dsimp only at hd⊢;split
  ·exact⟨_,Z,Z⟩
  ·next hz=>
   rw[aU hz]at hd
   match rest,hd with |[],_=>exact⟨_,Z,Z⟩ |_::_,hd=>exact(hd Z).elim
def FW (z:Str):Prop:=z = "line" \/ mR z
theorem mW.word{n:Nat}{d:ah}(h:mW n d):∃z y rest,Txt.split (cY d) " "=z::y::rest/\FW z:=by
 have e:=h.rt;unfold rJ at e;have e2:fo (Txt.split (cY d) " ")=d:=by cases hc:iB n (fo (Txt.split (cY d) " "))with |true=>rw[hc]at e;exact e |false=>rw[hc]at e;exact(h.ne e.symm).elim
 obtain⟨z,y,rest,ds,hw,hd⟩:=Rm e2 h.ne;refine⟨z,y,rest,hw,?_⟩;rcases h.ti with⟨ns,sp,rfl,_⟩|⟨w,i,rfl,hw,_⟩|⟨w,y,rfl,hw,_⟩
 ·cases hd;exact .inl rfl
 ·cases hd;exact .inr hw
 ·cases hd;exact .inr hw.ok
inductive a6q(K:aa)(C:Addr)(D:Addr)(R:jy)(vs:List V)(H:Hp)(Q:VK)(E:XK):Prop |mk (a:_)(r:_)(q:_)(M:_)(D':_)(S:_)(z:_)(d:_)(h0:vs=[.ref a,.str z])(h1:vS K D H a r M)(h2:cP K C H r q M S)(h3:dm M D' S)(h4:M.Ok)(h5:(mW M.rs.length d/\z=cY d\/∃ns sp,z=toS ns sp/\fE M.rs ns/\1<=sp/\sp<=20/\d=dh (dP ns (cn S)) sp))(h6:vR K C R r q M S d H Q E)
def HM(K:aa)(C D:Addr)(R:jy):Sp:=λvs H Q E=>a6q K C D R vs H Q E
structure zH(K:aa)(gA:Addr):Prop where
 line:PySem.W.nsIn K gA "line"=some none
 wait:PySem.W.nsIn K gA "wait"=some none
 Ri:∃v,PySem.W.nsIn K gA "tool"=some (some v)
 mark:∃v,PySem.W.nsIn K gA "mark"=some (some v)
 to:PySem.W.nsIn K gA "to"=some none
theorem a5v{ta tb:TT}{O:_L.St}{H:Hp}{Q:Bool->Hp->Prop}(h1:∀Q':Bool->Hp->Prop,(∀c,Q' c H)->ta O H Q')(h2:∀Q':Bool->Hp->Prop,Q' false H->tb O H Q')(k:Q false H):Ht ta tb O H Q:=h1 _ λc=>by cases c with |true=>exact h2 _ k |false=>exact k
structure RwW(y:Str):Prop where
 sh:SeqAt.shaped (.str y)=true
 n1:PyData.eqv (.str y) (.str "to")=false
 n2:PyData.eqv (.str y) (.str "steps")=false
 n3:PyData.eqv (.str y) (.str "rate")=false
theorem Tq{y:Str}(h:FW y):RwW y:=by rcases h with rfl|rfl|rfl|rfl<;>exact⟨aI,aI,aI,aI⟩
theorem qL:SeqAt.shaped (.str "to")=true/\SeqAt.shaped (.str "steps")=true/\SeqAt.shaped (.str "rate")=true/\PyData.eqv (.str "to") (.str "to")=true:=by decide+kernel
theorem zH.row{gA:Addr}(h:zH K gA){y:Str}(hy:FW y):∃ov,PySem.W.nsIn K gA y=some ov:=by
 rcases hy with rfl|rfl|rfl|rfl
 ·exact⟨_,h.line⟩
 ·exact⟨_,h.wait⟩
 ·exact⟨_,h.Ri.choose_spec⟩
 ·exact⟨_,h.mark.choose_spec⟩
theorem GQ{y:Str}(h:mR y):fK (.str y)=true:=by rcases h with rfl|rfl|rfl<;>decide+kernel
theorem TI.sh{d:ah}(h:TI d):oZ d=true:=by
 rcases h with⟨ns,sp,rfl,_⟩|⟨y,i,rfl,hw,_⟩|⟨y,z,rfl,hw,zl⟩
 ·exact(LY ns sp).2
 ·show(fK (.str y)&&(fK (.int i)&&true))=true
  rw[GQ hw];rfl
 ·show(fK (.str y)&&(fK (.str z)&&true))=true
  rw[GQ hw.ok,show fK (.str z)=true from bR au];rfl
theorem Rj{ns:List Int}{sp:Int}:Txt.split (toS ns sp) " "=("to":Str)::(ns.map numS++[numS sp]):=by
 unfold toS;rw[oT];refine _T.HC (by simp) λz hz=>?_;rcases bS.mp hz with rfl|hz
 ·exact jN aI
 ·rcases iO.mp hz with hz|hz
  ·obtain⟨i,_,rfl⟩:=cH.mp hz
   exact _T.nG ay ay
  ·rw[cS.mp hz];exact _T.nG ay ay
theorem Rk{ns:List Int}{sp:Int}(h:∀n∈ns,Nm n)(hs:Nm sp)(hl:ns.length<=3):(toS ns sp).length<=400:=by
 have:=ye " " (B:=41) ("to"::(ns.map numS++[numS sp])) (λz hz=>by
  rcases bS.mp hz with rfl|hz
  ·decide+kernel
  ·rcases iO.mp hz with hz|hz
   ·obtain⟨i,hi,rfl⟩:=cH.mp hz
    exact fu (h i hi)
   ·rw[cS.mp hz];exact fu hs);rw[eT,gb,fQ,bA,tm]at this;unfold toS;have:(ns.length+1+1)*(41+1)<=5*42:=Qc _ au
 lia
theorem VV{C D gA:Addr}{R:jy}(F:MA K D "say" "Desk.say" xx)(TC:mZ K D)(RC:fD K C)(B:bu mg)(gR:aD P w K mg ao "show_number" 1 m6)(GA:GD w K mg "ANSWERS" gA)(NA:zH K gA){cL:Addr}(yJ:Exc K mg "NoLine" cL gF gO)(a0h:aD P w K mg ao "item_in" 5 (Ax K))(a24:mT P w K mg ao D "say_to" 6 (HN K C D R))(EE:mT P w K mg ao C "feed" 5 (Ao K C R)):mT P w K mg ao D "say" 7 (HM K C D R):=by
 refine F.Eu xu (λvs H Q E h=>?_) (λ_ _ _ _ _ _=>dj λ_ _=>rfl) (λf0 aF A outer s H vs Q E hr h=>?_)
 ·obtain⟨a,r,q,M,D',S,z,d,rfl,_⟩:=h
  rfl
 ·obtain⟨a,r,q,M,D',S,z,d,rfl,⟨dx,mv,ea,rm⟩,Ra,ok,aO,hz,fe⟩:=h
  have nd:=xu.nd;have lr:=aO.len;have j4:sizeLine=16777216:=by decide
  refine⟨_,(aE (bB (df (cC (lj K B (ak (pv 1) (ak (ki (x:="str") (v:=.ty "str") Z (B.at "str") gy rfl) aw))))) (aH (uf (λ_ _ _ _ _ _ _ I m q=>tE I m q) yJ wt hr.hd Z (ak bq aw))) bD) (aE (eD (CP K Z (pv 1) (ak bq aw)) (CN K Z Z (ba 2 nd) (ba 3 nd))) (aE (bB (PW.pt (CH (Kt (KO GA Z (pv 2)) (by with_unfolding_all rfl)) (CG (df (xE K Z (pv 3)))))) xF bD) (aE (bB (bI (dv K Z hr.units) (pv 2) bq (bC _)) (aH (aQ (xM a24 (CQ λ_ _ _ z=>z) TC.cl (hr.mono ay) (pv 0) (ak (pv 3) aw)))) bD) (aE (bB (bI (dv K Z hr.units) (pv 2) bq (bC _)) xF bD) (aE (bB (bI (dv K Z hr.units) (pv 2) bq (bC _)) xF bD) (aE (pS 5 nd (pf a0h hr (ak (dQ TC.cl TC.mx (pv 0)) (ak (pv 1) aw)))) (aE (bB (bI xO (pv 5) gj (bC _)) (aH (uf (λ_ _ _ _ _ _ _ I m q=>tE I m q) yJ wt hr.hd Z (ak bq aw))) bD) (aH (aQ (pf gR hr (ak (xM EE (CQ λ_ _ _ z=>z) RC.cl (hr.mono ay) (dQ TC.cl TC.uF (pv 0)) (ak (pv 5) aw)) aw)))))))))))),?_⟩;refine⟨_,Z,.inl ⟨_,"str","str",true,Z,Z,ay,ay,_,Z,aZ ?_⟩⟩;have a9f:(16777216:Nat)=sizeLine:=j4.symm;rcases hz with⟨tx,rfl⟩|⟨ns,sp,rfl,iV,eT,iR,rfl⟩
  ·obtain⟨y,y2,GK,hs,hy⟩:=tx.word
   obtain⟨ov,ZQ⟩:=NA.row hy;generalize eys:y2::GK=ys at hs;have W:=Tq hy;have hl:=tx.len;have yk:ys.length<=1000:=by
    have:=split_len (cY d) " ";rw[hs,gb]at this
    lia
   refine⟨_,Z,Z,_," ",Z,Z,aI,au,λl H1 n1=>?_⟩;rw[hs]at n1;refine⟨l,.str y,ys.map V.str,Z,aG.of n1.at',by rw[bA];lia,λp H2 n2=>?_⟩;have s2:=n1.same.trans n2.same;unfold fY;dsimp only;unfold Hj Ho;dsimp only;refine a5v (λQ' hq=>⟨_,Z,y,ov,Z,ZQ,_,Z,hq _⟩) (λQ' hq=>⟨_,Z,true,.inl ⟨_,aG.of n2.at',by rw[<-eys];rfl⟩,hq⟩) ?_;refine aZ ?_;refine⟨_,Z,.inr ⟨_,_,bO _,bO _,W.sh,qL.1,_,Z,?_⟩⟩;rw[W.n1];refine aZ ⟨_,Z,.inr ⟨_,_,bO _,bO _,W.sh,qL.2.1,_,Z,?_⟩⟩;rw[W.n2];refine aZ ⟨_,Z,.inr ⟨_,_,bO _,bO _,W.sh,qL.2.2.1,_,Z,?_⟩⟩;rw[W.n3];refine aZ ?_;refine⟨_,Z,a,dx,_,_,Z,s2 _ _ ea,Z,_,Z,mv,M.rs,_,_,Z,RD.mono s2 _ rm,Z,au,au,tx.ok,λv H3 s3 rv=>?_⟩;rw[tx.rt]at rv;have xA:=s2.trans s3;have nv:v≠ .aY:=λe=>by rw[e]at rv;rcases tx.ti with⟨ns,sp,rfl,_⟩|⟨w,i,rfl,_⟩|⟨w,z,rfl,_⟩<;>(obtain⟨p,xs,e,_⟩:=rv.cg;cases e)
   refine⟨_,Z,Z,_,Z,?_⟩;rw[dM nv];refine aZ ?_;obtain⟨rx,TY,Ua,TQ,TB,er,_⟩:=Ra.ob;refine⟨_,Z,a,dx,_,_,Z,xA _ _ ea,Z,r,rx,_,Z,xA _ _ er,Z,_,Z,?_⟩;refine⟨r,q,M,D',S,v,d,Z,Ra.same ok.row.no xA,ok,aO,rv,tx.pE,tx.ti.sh,?_⟩;rcases fe.go xA with⟨h1,h2⟩|⟨o,h1,h2,h3,h4⟩
   ·exact .inl ⟨h1,h2⟩
   ·exact .inr ⟨o,h1,h2,h3,λa1 a2 H' R' b'=>⟨_,Z,Ll au,λH2 t2=>h4 a1 a2 H2 (R'.same (Lu ok.row.no h1.it.no) t2) (b'.trans (.of t2))⟩⟩
  ·have nb:=qY iV aO.rl
   have ln:=iV.len;have nm:∀n∈ns,Nm n:=λn hn=>by have:=nb n hn;show n.natAbs<10^40;lia
   have sm:Nm sp:=by show sp.natAbs<10^40;lia
   have hl:=Rk nm sm au;refine⟨_,Z,Z,_," ",Z,Z,aI,au,λl H1 n1=>?_⟩;rw[Rj]at n1;refine⟨l,.str "to",(ns.map numS++[numS sp]).map V.str,Z,aG.of n1.at',by simp;lia,λp H2 n2=>?_⟩;have s2:=n1.same.trans n2.same;refine⟨_,Z,"to",_,Z,NA.to,false,Z,aZ ?_⟩;refine⟨_,Z,.inr ⟨_,_,bO _,bO _,qL.1,qL.1,_,Z,?_⟩⟩;rw[qL.2.2.2];refine bE ?_;refine⟨_,Z,a,dx,_,Z,s2 _ _ ea,Z,_,Z,a,r,q,M,D',S,p,ns,sp,Z,⟨dx,mv,s2 _ _ ea,RD.mono s2 _ rm⟩,Ra.same ok.row.no s2,ok,aO,aG.of n2.at',iV,eT,iR,fe.go s2⟩
end
open _T (numS numIn? Free)
section
variable {P:af}{w:World}{K:aa}{mg:bf}{ao:Heap}
structure CC where
 g:Addr
 c0:Addr
 c1:Addr
 c2:Addr
 c3:Addr
 c4:Addr
 c5:Addr
 c6:Addr
 c7:Addr
 c8:Addr
 c9:Addr
 c10:Addr
structure KC(K:aa)(X:CC)(C:Addr)(b0 b1 b2 b3 b4 b5 b6 b7 b8 b9 fN:Bool):Prop where
 tk:takes K C X.g
 k:jd K C
 i0:PySem.W.kitOne K (.ref C) (.ref X.c0)=some b0
 i1:PySem.W.kitOne K (.ref C) (.ref X.c1)=some b1
 i2:PySem.W.kitOne K (.ref C) (.ref X.c2)=some b2
 i3:PySem.W.kitOne K (.ref C) (.ref X.c3)=some b3
 i4:PySem.W.kitOne K (.ref C) (.ref X.c4)=some b4
 i5:PySem.W.kitOne K (.ref C) (.ref X.c5)=some b5
 i6:PySem.W.kitOne K (.ref C) (.ref X.c6)=some b6
 i7:PySem.W.kitOne K (.ref C) (.ref X.c7)=some b7
 i8:PySem.W.kitOne K (.ref C) (.ref X.c8)=some b8
 i9:PySem.W.kitOne K (.ref C) (.ref X.c9)=some b9
 i10:PySem.W.kitOne K (.ref C) (.ref X.c10)=some fN
 ve:PySem.W.kitOne K (.ref C) (.type "ValueError")=some true
structure G4(mg:bf)(X:CC):Prop where
 h0:GV mg "NoFraction" (.ref X.c0)
 h1:GV mg "NoRate" (.ref X.c1)
 h2:GV mg "NoItem" (.ref X.c2)
 h3:GV mg "OffRails" (.ref X.c3)
 h4:GV mg "Full" (.ref X.c4)
 h5:GV mg "Moving" (.ref X.c5)
 h6:GV mg "NoTape" (.ref X.c6)
 h7:GV mg "NoText" (.ref X.c7)
 h8:GV mg "NoMachine" (.ref X.c8)
 h9:GV mg "NoPlace" (.ref X.c9)
 h10:GV mg "NoLine" (.ref X.c10)
 v:mg "ValueError"=none
def mQ:List Str:=["fraction","rate","item","off","full","moving","tape","text","machine","place","line"]
inductive a7e(K:aa)(X:CC)(vs:List V)(H:Hp)(Q:VK):Prop |mk (ex:Addr)(C:Addr)(dx:Option Addr)(b0:Bool)(b1:Bool)(b2:Bool)(b3:Bool)(b4:Bool)(b5:Bool)(b6:Bool)(b7:Bool)(b8:Bool)(b9:Bool)(fN:Bool)(j:Nat)(z:Str)(h0:vs=[.ref ex])(h1:H ex=some (.ext (jA ex (.ref C) dx)))(h2:KC K X C b0 b1 b2 b3 b4 b5 b6 b7 b8 b9 fN)(h3:[b0,b1,b2,b3,b4,b5,b6,b7,b8,b9,fN].count true=1)(h4:[b0,b1,b2,b3,b4,b5,b6,b7,b8,b9,fN][j]? =some true)(h5:(∀m:Nat,m<j->[b0,b1,b2,b3,b4,b5,b6,b7,b8,b9,fN][m]? =some false))(h6:mQ[j]? =some z)(h7:∀H',az H H'->Q (.str ("refused "++z)) H')
def Ip(K:aa)(X:CC):Sp:=λvs H Q _=>a7e K X vs H Q
abbrev kU:Stmt:=top 116
theorem JN:bc ["_law_e","_law_some","_law_names"] ["_law_e"] (aM kU):=bp aI
theorem a4K{j:Nat}{z:Str}(h:mQ[j]? =some z):j<1000/\z.length<=100:=by
 have hm:=fg h;refine⟨by have:=(dN.mp h).1;have e:mQ.length=11:=rfl;lia,?_⟩;have:∀y∈mQ,y.length<=100:=by decide+kernel
 exact this z hm
def zk:Expr:=match eQ kU with|_::_::_:: .Assign _ e _::_=>e|_=>.Constant .none 0 ⟨0,0,0,0⟩
theorem a4P:lit 4 zk=some (.list (mQ.map PyData.str)):=by kernel_rfl
def LN(e:Expr):List Stmt:=match eQ kU with|a::b::c:: .Assign ts _ p::r=>a::b::c:: .Assign ts e p::r|r=>r
theorem Y5:LN zk=eQ kU:=by kernel_rfl
theorem a4L{X:CC}{f:Addr}{aF:Value}{A:ai}{outer:List Env}{s:ae}{H:Hp}{Q:VK}(e:Expr)(hr:jb 0 (A.deeper (envOfC "_law_class" (aM kU) s.heap.objs.size f aF))) (he:Pg (sD P w K mg ao ["_law_e","_law_some","_law_names"] "_law_class" (aM kU) f aF A outer s H) e (x8 K (.list (mQ.map PyData.str)))) (jK:∀x l,swapsWith e (some x) l (sD P w K mg ao ["_law_e","_law_some","_law_names"] "_law_class" (aM kU) f aF A outer s H).env=pure false)(B:bu mg)(N:G4 mg X) {ex C:Addr}{dx:Option Addr}{b0 b1 b2 b3 b4 b5 b6 b7 b8 b9 fN:Bool}{j:Nat}{z:Str}(e1:H ex=some (.ext (jA ex (.ref C) dx)))(kc:KC K X C b0 b1 b2 b3 b4 b5 b6 b7 b8 b9 fN)(cnt:[b0,b1,b2,b3,b4,b5,b6,b7,b8,b9,fN].count true=1)(o2:[b0,b1,b2,b3,b4,b5,b6,b7,b8,b9,fN][j]? =some true)(o3:∀m:Nat,m<j->[b0,b1,b2,b3,b4,b5,b6,b7,b8,b9,fN][m]? =some false)(o5:mQ[j]? =some z)(k:∀H',az H H'->Q (.str ("refused "++z)) H'): ∃t,eY (sD P w K mg ao ["_law_e","_law_some","_law_names"] "_law_class" (aM kU) f aF A outer s H) (LN e) t/\t {nx:=λ_ H'=>Q .aY H',rt:=Q} (start ["_law_e","_law_some","_law_names"] [.ref ex]) H:=by
 have nd:=JN.nd;have a1d:=N.h0;have a18:=N.h1;have a1c:=N.h2;have Ew:=N.h3;have a1p:=N.h4;have a1f:=N.h5;have a17:=N.h6;have a16:=N.h7;have a1a:=N.h8;have a19:=N.h9;have a1b:=N.h10;have a12:=N.v;have j4:sizeLine=16777216:=by decide
 refine⟨_,(aE (pS 1 nd (ft (ak (ck (x:="isinstance") (jt K Z) Z (B.at "isinstance") jC (ak (pv 0) (ak (cD (x:="NoFraction") rfl a1d) aw))) (ak (ck (x:="isinstance") (jt K rfl) rfl (B.at "isinstance") jC (ak (pv 0) (ak (cD (x:="NoRate") rfl a18) aw))) (ak (ck (x:="isinstance") (jt K rfl) rfl (B.at "isinstance") jC (ak (pv 0) (ak (cD (x:="NoItem") rfl a1c) aw))) (ak (ck (x:="isinstance") (jt K rfl) rfl (B.at "isinstance") jC (ak (pv 0) (ak (cD (x:="OffRails") rfl Ew) aw))) aw)))))) (aE (pS 1 nd (aK (sG K Z) (pv 1) (ft (ak (ck (x:="isinstance") (jt K Z) Z (B.at "isinstance") jC (ak (pv 0) (ak (cD (x:="Full") rfl a1p) aw))) (ak (ck (x:="isinstance") (jt K rfl) rfl (B.at "isinstance") jC (ak (pv 0) (ak (cD (x:="Moving") rfl a1f) aw))) (ak (ck (x:="isinstance") (jt K rfl) rfl (B.at "isinstance") jC (ak (pv 0) (ak (cD (x:="NoTape") rfl a17) aw))) (ak (ck (x:="isinstance") (jt K rfl) rfl (B.at "isinstance") jC (ak (pv 0) (ak (cD (x:="NoText") rfl a16) aw))) aw))))))) (aE (pS 1 nd (aK (sG K Z) (pv 1) (ft (ak (ck (x:="isinstance") (jt K Z) Z (B.at "isinstance") jC (ak (pv 0) (ak (cD (x:="NoMachine") rfl a1a) aw))) (ak (ck (x:="isinstance") (jt K rfl) rfl (B.at "isinstance") jC (ak (pv 0) (ak (cD (x:="NoPlace") rfl a19) aw))) (ak (ck (x:="isinstance") (jt K rfl) rfl (B.at "isinstance") jC (ak (pv 0) (ak (cD (x:="NoLine") rfl a1b) aw))) aw)))))) (aE (Ku (i:=2) nd Z (Or.inl Z) he.out (jK _ _)) (aE (bB (PW.pt (iq (bI (mr K Z hr.units) (Vi K Z (pv 1) (ak gB aw)) aB (bC _)) (ip (df (cC (ck (x:="isinstance") (jt K Z) Z (B.at "isinstance") jC (ak (pv 0) (ak (ki (x:="ValueError") (v:=.ty "ValueError") rfl a12 a5c rfl) aw)))))))) (aH (aQ bq)) bD) (aH (aQ (aK iU bq (px K (pv 2) (Vh K Z (pv 1) (ak gB aw))))))))))),?_⟩;refine⟨_,Z,.inl ⟨ex,C,dx,.ref X.c0,.ref X.c0,b0,Z,e1,kc.k,Z,kc.i0,?_⟩⟩;refine⟨_,Z,.inl ⟨ex,C,dx,.ref X.c1,.ref X.c1,b1,Z,e1,kc.k,Z,kc.i1,?_⟩⟩;refine⟨_,Z,.inl ⟨ex,C,dx,.ref X.c2,.ref X.c2,b2,Z,e1,kc.k,Z,kc.i2,?_⟩⟩;refine⟨_,Z,.inl ⟨ex,C,dx,.ref X.c3,.ref X.c3,b3,Z,e1,kc.k,Z,kc.i3,?_⟩⟩;refine⟨bW Z,λl1 H1 n1=>?_⟩;have e2:=n1.same _ _ e1;refine⟨_,Z,?_⟩;refine⟨_,Z,.inl ⟨ex,C,dx,.ref X.c4,.ref X.c4,b4,Z,e2,kc.k,Z,kc.i4,?_⟩⟩;refine⟨_,Z,.inl ⟨ex,C,dx,.ref X.c5,.ref X.c5,b5,Z,e2,kc.k,Z,kc.i5,?_⟩⟩;refine⟨_,Z,.inl ⟨ex,C,dx,.ref X.c6,.ref X.c6,b6,Z,e2,kc.k,Z,kc.i6,?_⟩⟩;refine⟨_,Z,.inl ⟨ex,C,dx,.ref X.c7,.ref X.c7,b7,Z,e2,kc.k,Z,kc.i7,?_⟩⟩;refine⟨bW Z,λl2 H2 n2=>?_⟩;refine⟨l1,l2,_,_,Z,Z,aG.of (n2.same _ _ n1.at'),aG.of n2.at',by show 8<=_;lia,λl3 H3 n3=>?_⟩;have s3:=n1.same.trans (n2.same.trans n3.same);have e3:=s3 _ _ e1;refine⟨_,Z,?_⟩;refine⟨_,Z,.inl ⟨ex,C,dx,.ref X.c8,.ref X.c8,b8,Z,e3,kc.k,Z,kc.i8,?_⟩⟩;refine⟨_,Z,.inl ⟨ex,C,dx,.ref X.c9,.ref X.c9,b9,Z,e3,kc.k,Z,kc.i9,?_⟩⟩;refine⟨_,Z,.inl ⟨ex,C,dx,.ref X.c10,.ref X.c10,fN,Z,e3,kc.k,Z,kc.i10,?_⟩⟩;refine⟨bW Z,λl4 H4 n4=>?_⟩;refine⟨l3,l4,_,_,Z,Z,aG.of (n4.same _ _ n3.at'),aG.of n4.at',by show 11<=_;lia,λl5 H5 n5=>?_⟩;have hl5:aG K H5 l5 ([b0,b1,b2,b3,b4,b5,b6,b7,b8,b9,fN].map V.bl):=aG.of n5.at';have s5:=s3.trans (n4.same.trans n5.same);intro l6v H6 LH r6;obtain⟨l6,xs6,rfl,Zv,hd6⟩:=(RD.mono a2D _ r6).lst_inv;cases jX hd6;have s6:=s5.trans LH;have yz:=hl5.go LH;have e6:=s6 _ _ e1;refine⟨_,Z,.inl ⟨Z,_,yz⟩,l5,_,Z,Z,yz,.inl ⟨_,_,Z,Z,_,Z,?_⟩⟩;rw[show(!decide (((([b0,b1,b2,b3,b4,b5,b6,b7,b8,b9,fN].count true:Nat)):Int)=1))=false by rw[cnt];rfl];refine aZ ?_;refine⟨_,Z,.inl ⟨ex,C,dx,.ty "ValueError",.type "ValueError",true,Z,e6,kc.k,Z,kc.ve,_,Z,aZ ?_⟩⟩;obtain⟨j1,z1⟩:=a4K o5;have o6:(mQ.map V.str)[j]? =some (.str z):=by rw[bK,o5];rfl
 refine⟨_,Z,_,Z,.inl ⟨Z,_,yz⟩,l5,_,j,Z,Z,yz,o2,o3,j1,?_⟩;refine .inl ⟨l6,mQ.map V.str,_,_,Z,Z,Zv,cN au o6,?_⟩;refine⟨_,_,Z,Z,?_,k _ s6⟩;have e8:Str.length "refused "=8:=by decide+kernel
 lia
theorem WX{X:CC}(F:FA K mg "_law_class" kU)(B:bu mg)(N:G4 mg X):zJ P w K mg ao "_law_class" 1 (Ip K X):=by
 refine F.a0R JN (λvs H Q E h=>?_) (λ_ _ _ _ _ _=>cE λ_=>rfl) (λf aF A outer s H vs Q hr h=>?_)
 ·obtain⟨ex,C,dx,b0,b1,b2,b3,b4,b5,b6,b7,b8,b9,fN,j,z,rfl,_⟩:=h
  rfl
 ·obtain⟨ex,C,dx,b0,b1,b2,b3,b4,b5,b6,b7,b8,b9,fN,j,z,rfl,e1,kc,cnt,o2,o3,o5,k⟩:=h
  rw[<-Y5];exact a4L zk hr (V6 K Z 4 zk _ a4P) (λ_ _=>rfl) B N e1 kc cnt o2 o3 o5 k
end
open _T (numS numIn? Free)
section
variable {P:af}{w:World}{K:aa}{mg:bf}{ao:Heap}
structure FV(K:aa)(mg:bf)(X:CC):Prop where
 g:Exc K mg "GlideError" X.g gF gO
 n:G4 mg X
 k2:KC K X X.c2 false false true false false false false false false false false
 k3:KC K X X.c3 false false false true false false false false false false false
 k4:KC K X X.c4 false false false false true false false false false false false
 at3:PySem.W.findIn K (.ref X.c3) "at"=some none
def refOf(X:CC)(i:Addr):jy:=⟨X.c2,X.c3,X.c4,X.c5,X.c1,i⟩
def lu(n:Nat):Str:="refused off"++(" "++numS (n:Int))
def a5S(K:aa)(C r q:Addr)(M:bX)(S:bZ)(d:ah)(H:Hp)(Q:VK):Prop:=(iB M.rs.length d=false/\∀H',az H H'->Q (.str "refused item") H')\/∃o,hJ M.rs.length d o/\(gC M.rs (dF (cn S) o)=false->∀H',az H H'->Q (.str (lu S.ds.length)) H')/\(gC M.rs (dF (cn S) o)=true->S.ds.length=20->∀H',az H H'->Q (.str "refused full") H')/\(gC M.rs (dF (cn S) o)=true->S.ds.length<20->∀H',cP K C H' r q M (lL S d o)->cB [r,q] H H'->Q (.str (numS (S.ds.length+1:Nat))) H')
inductive a6j(K:aa)(C:Addr)(D:Addr)(vs:List V)(H:Hp)(Q:VK):Prop |mk (a:_)(r:_)(q:_)(M:_)(D':_)(S:_)(z:_)(d:_)(h0:vs=[.ref a,.str z])(h1:vS K D H a r M)(h2:cP K C H r q M S)(h3:dm M D' S)(h4:M.Ok)(h5:(mW M.rs.length d/\z=cY d\/∃ns sp,z=toS ns sp/\fE M.rs ns/\1<=sp/\sp<=20/\d=dh (dP ns (cn S)) sp))(h6:a5S K C r q M S d H Q)
def HI(K:aa)(C D:Addr):Sp:=λvs H Q _=>a6j K C D vs H Q
theorem a2S:∀m:Nat,m<2->[false,false,true,false,false,false,false,false,false,false,false][m]? =some false:=by decide
theorem a2R:∀m:Nat,m<3->[false,false,false,true,false,false,false,false,false,false,false][m]? =some false:=by decide
theorem a2Q:∀m:Nat,m<4->[false,false,false,false,true,false,false,false,false,false,false][m]? =some false:=by decide
abbrev AJ:Stmt:=top 117
theorem IK:bc ["_law_desk","_law_text","_law_e"] ["_law_desk","_law_text"] (aM AJ):=bp aI
theorem VL{C D:Addr}{X:CC}{i:Addr}(F:FA K mg "_law_told" AJ)(B:bu mg)(DC:mZ K D)(EX:FV K mg X)(RX:zF K mg (refOf X i))(a29:mT P w K mg ao D "say" 7 (HM K C D (refOf X i)))(a1P:zJ P w K mg ao "_law_class" 1 (Ip K X)):aD P w K mg ao "_law_told" 8 (HI K C D):=by
 refine F.a0S IK (λvs H Q E h=>?_) (λ_ _ _ _ _ _=>dj λ_ _=>rfl) (λf aF A outer s H vs Q E hr h=>?_)
 ·obtain⟨a,r,q,M,D',S,z,d,rfl,_⟩:=h
  rfl
 ·obtain⟨a,r,q,M,D',S,z,d,rfl,dk,Ra,ok,aO,hz,k⟩:=h
  have nd:=IK.nd;have hy:=EX.g;have Ew:=EX.n.h3;have Et:(gF).contains (.type "BaseException")=true:=by decide
  have EJ:∀C',(C'=X.c2\/C'=X.c3\/C'=X.c4)->ClsAt K C'/\takes K C' X.g:=λC' e=>by
   rcases e with rfl|rfl|rfl
   ·exact⟨RX.n.cls,EX.k2.tk⟩
   ·exact⟨RX.o.e.cls,EX.k3.tk⟩
   ·exact⟨RX.f.cls,EX.k4.tk⟩
  refine⟨_,(vK.one (UG (i:=2) Z Z nd Z Z Z (λE xe hp=>(aH (aQ (xM a29 hp DC.cl (hr.mono ay) (pv 0) (ak (pv 1) aw))))) Z hy Et EJ (λex=>(aH (aQ (aK iU (V9 a1P ((hr.mark _).mono ay) Z (ak (pv 2) aw)) (gM (cC (ck (x:="isinstance") (jt K Z) Z (B.at "isinstance") jC (ak (pv 2) (ak (cD (x:="OffRails") rfl Ew) aw)))) (aK iU bq (cT (x:="str") gY rfl (B.at "str") gy (ak (V1 K rfl (pv 2)) aw))) bq))))))),?_⟩;obtain⟨O2,mv,ea,rm⟩:=id dk;refine⟨λcls dx H'=>az H H'/\((cls= .ref X.c2/\∀ou,az H ou->Q (.str "refused item") ou)\/(cls= .ref X.c3/\(∃d',dx=some d'/\H' d'=some (.xd [("at",.int (S.ds.length:Int))]))/\∀ou,az H ou->Q (.str (lu S.ds.length)) ou)\/(cls= .ref X.c4/\∀ou,az H ou->Q (.str "refused full") ou)),?_,λcls dx H' h=>?_,?_⟩
  ·refine⟨_,Z,a,O2,_,Z,ea,Z,_,Z,a,r,q,M,D',S,z,d,Z,dk,Ra,ok,aO,hz,?_⟩
   rcases k with⟨h1,h2⟩|⟨o,h1,h2,h3,h4⟩
   ·exact .inl ⟨h1,λH' s'=>⟨s',.inl ⟨Z,h2⟩⟩⟩
   ·exact .inr ⟨o,h1,λa1 H' dx s' e'=>⟨s',.inr (.inl ⟨Z,⟨dx,Z,e'⟩,h2 a1⟩)⟩,λa1 a2 H' s'=>⟨s',.inr (.inr ⟨Z,h3 a1 a2⟩)⟩,h4⟩
  ·rcases h.2 with⟨e,_⟩|⟨e,_⟩|⟨e,_⟩
   ·exact⟨_,e,.inl Z⟩
   ·exact⟨_,e,.inr (.inl Z)⟩
   ·exact⟨_,e,.inr (.inr Z)⟩
  ·rintro C' ex dx σ' H' hl ⟨sm,hE⟩ hex
   have hl3:σ'.length=3:=hl
   match σ',hl3 with
   |[u1,u2,u3],_=>
    have e1:(_L.upd H' ex (.ext (jA ex (.ref C') dx))) ex=some (.ext (jA ex (.ref C') dx)):=bU;have sn:=sm.trans (az.new (o:=.ext (jA ex (.ref C') dx)) hex);rcases hE with⟨eC,kk⟩|⟨eC,⟨d',ed,pR⟩,kk⟩|⟨eC,kk⟩
    ·cases eC
     refine⟨_,Z,ex,X.c2,dx,_,_,_,_,_,_,_,_,_,_,_,2,"item",Z,e1,EX.k2,ay,Z,a2S,Z,λH2 s2=>?_⟩;refine⟨_,Z,.inl ⟨ex,X.c2,dx,.ref X.c3,.ref X.c3,false,Z,s2 _ _ e1,EX.k2.k,Z,EX.k2.i3,_,Z,aZ ?_⟩⟩;refine⟨_,_,Z,Z,aI,?_⟩;have:=kk H2 (sn.trans s2);rw[show(Str.ofString "refused item")=Str.ofString "refused "++Str.ofString "item"++Str.ofString "" by decide+kernel]at this;exact this
    ·cases eC
     refine⟨_,Z,ex,X.c3,dx,_,_,_,_,_,_,_,_,_,_,_,3,"off",Z,e1,EX.k3,ay,Z,a2R,Z,λH2 s2=>?_⟩;have a93:=ok.len;have nm:Nm (S.ds.length:Int):=by show Int.natAbs _<10^40;lia
     have ln:=fu nm;have j4:sizeLine=16777216:=by decide
     have l1:Str.length " "=1:=eT;refine⟨_,Z,.inl ⟨ex,X.c3,dx,.ref X.c3,.ref X.c3,true,Z,s2 _ _ e1,EX.k3.k,Z,EX.k3.i3,_,Z,bE ?_⟩⟩;subst ed;have XD:d'≠ex:=λz=>by rw[z,hex]at pR;cases pR
     refine⟨_,Z,ex,X.c3,d',_,(S.ds.length:Int),Z,s2 _ _ e1,s2 _ _ (by rw[bh XD];exact pR),EX.k3.k,EX.at3,Z,?_⟩;refine .inl ⟨_,Z,kx nm,_,_,Z,Z,?_,_,_,Z,Z,?_,?_⟩
     ·show Str.length " "+(numS (S.ds.length:Int)).length<=_
      lia
     ·have e0:Str.length "refused "=8:=by decide+kernel
      have e1':Str.length "off"=3:=by decide+kernel
      simp only[dy];change Str.length "refused "+Str.length "off"+(Str.length " "+(numS (S.ds.length:Int)).length)<=_;rw[e0,e1',l1];lia
     ·have:=kk H2 (sn.trans s2)
      unfold lu at this;rw[show(Str.ofString "refused off")=Str.ofString "refused "++Str.ofString "off" by decide+kernel]at this;exact this
    ·cases eC
     refine⟨_,Z,ex,X.c4,dx,_,_,_,_,_,_,_,_,_,_,_,4,"full",Z,e1,EX.k4,ay,Z,a2Q,Z,λH2 s2=>?_⟩;refine⟨_,Z,.inl ⟨ex,X.c4,dx,.ref X.c3,.ref X.c3,false,Z,s2 _ _ e1,EX.k4.k,Z,EX.k4.i3,_,Z,aZ ?_⟩⟩;refine⟨_,_,Z,Z,aI,?_⟩;have:=kk H2 (sn.trans s2);rw[show(Str.ofString "refused full")=Str.ofString "refused "++Str.ofString "full"++Str.ofString "" by decide+kernel]at this;exact this
end
open _T (numS numIn? Free)
section
variable {P:af}{w:World}{K:aa}{mg:bf}{ao:Heap}
abbrev Bv:Stmt:=top 124
theorem Jq:bc ["_law_place_here","_law_item_here"] ["_law_place_here","_law_item_here"] (aM Bv):=bp aI
theorem WB(F:FA K mg "_law_leads" Bv)(B:bu mg):aD P w K mg ao "_law_leads" 1 (oU K):=by
 refine F.has Jq (λvs H Q E h=>?_) (λ_ _ _ _ _ _=>dj λ_ _=>rfl) (λf aF A outer s H vs Q E hr h=>?_)
 ·obtain⟨pw,iv,pl,d,o,rfl,_⟩:=h
  rfl
 ·obtain⟨pw,iv,pl,d,o,rfl,rp,ri,it,hl,hz,k⟩:=h
  have nd:=Jq.nd;refine⟨_,(aE (bB (bI (mr K Z hr.units) (px K (pv 1) aB) bq (bC _)) (aH (aQ (pv 0))) bD) (aH (aQ (cT (x:="tuple") (ji K Z) Z (B.at "tuple") gJ (ak (dD (N:=["_law_at","_law_step"]) (js:=[none,none]) rfl rfl rfl (kZ K rfl false false rfl (B.at "zip") (ak (pv 0) (ak (px K (pv 1) aB) aw))) (λ_ _ _ _ _=>(dW K rfl (n:=2) rfl (bP (ba 0 (gm ay)) (bP (ba 1 (gm ay)) dU)))) (λ_ _ _ _ _=>cX) (λ_ _ _ _ _=>(aK dg (pv 0) (pv 1)))) aw))))),?_⟩;obtain⟨a1,w1,y1,rfl,h1,Fe,Ah⟩:=rK ri it;refine⟨_,Z,.inr ⟨a1,_,0,.str w1,Z,Z,h1,cN (fH 0) Z,.inr ⟨_,_,bO _,bO _,Ah,nN,_,Z,?_⟩⟩⟩;rw[Fe];cases o with |none=>refine bE ?_;exact⟨_,Z,k pw H rp (az.refl _)⟩ |some q=>
   obtain⟨ns,sp⟩:=q;refine aZ ?_;have ed:=jr it;subst ed;have lns:=hl ns sp rfl;obtain⟨pa,px,rfl,hp,E5⟩:=rp.cg;rw[E5.eO]at hp;obtain⟨a,b,e1,ha,hb⟩:=lB ri;cases e1;refine⟨_,Z,_,Z,.inr ⟨a1,_,1,.ref b,Z,Z,ha,Z,pa,b,Z,⟨_,hp⟩,⟨_,hb⟩,λD2 H6 n6=>?_⟩⟩;refine qe (K:=K) (b1:=false) (b2:=false) (xs:=pl.map V.int) (ys:=ns.map V.int) (ds:=(ja pl ns).map PyData.int) _ Z hp hb n6 (by simp[ja]) (by simp[ja];lia) (kr _) ?_ ?_
   ·intro i x y d H7 Q' ex ey ed s7 hq
    obtain⟨u,v,e1,e2,rfl,rfl⟩:=zip2 au ex ey;obtain⟨m,em,rfl⟩:=kv ed;unfold ja at em;rw[List.getElem?_zipWith,e1,e2]at em;cases em;exact⟨_,Z,_,Z,_,_,Z,Z,hq _ _ (az.refl _) (eu _)⟩
   intro H7 zs s7 d7 r7;rw[r7.eO]at d7;exact⟨D2,_,Z,.inl ⟨aG.of d7,λtt H8 n8=>k _ _ (eZ (aP.of n8.at') (nC _)) (s7.trans n8.same)⟩⟩
theorem to_eq{ns:List Int}{sp:Int}(h:ns≠[]):toS ns sp=("to ":Str)++Txt.join " " (ns.map numS)++" "++numS sp:=by
 have hn:ns.map numS≠[]:=by simpa using h
 unfold toS;rw[uM _ _ _ (by simp),join_snoc _ _ _ hn];have e:("to ":Str)="to"++" ":=by decide+kernel
 rw[e];simp only[Gf]
def Lj(ns:List Int):Bool:=ns.any (· !=0)
def Pa(K:aa)(M:bX)(here:List Int)(H:Hp)(z:Str)(iv:V):Prop:=(∃d o,hJ M.rs.length d o/\z=cY d/\RD K H iv d)\/∃ns sp,z=toS ns sp/\fE M.rs ns/\1<=sp/\sp<=20/\((Lj (dP ns here)=true/\RD K H iv (dh (dP ns here) sp))\/(Lj (dP ns here)=false/\iv= .aY))
inductive a6s(K:aa)(vs:List V)(H:Hp)(Q:VK):Prop |mk (p:_)(m:_)(hv:_)(M:_)(here:_)(h0:vs=[.ref p,m,hv])(h1:fO H p)(h2:RD K H m (bX.D M))(h3:M.Ok)(h4:RD K H hv (cM here))(h5:fE M.rs here)(h6:∀t z iv H',aP K H' t [.str z,iv]->Pa K M here H' z iv->bG p H H'->Q (.ref t) H')
def HP(K:aa):Sp:=λvs H Q _=>a6s K vs H Q
abbrev AV:Stmt:=top 125
theorem IX:bc ["_law_bag_here","_law_machine_here","_law_here","_law_how","_law_same","_law_item_here","_law_there","_law_speed","_law_text","_law_steps"] ["_law_bag_here","_law_machine_here","_law_here"] (aM AV):=bp aI
theorem W2(F:FA K mg "_law_row" AV)(B:bu mg)(eH:aD P w K mg ao "_law_take" 1 ny)(a1L:aD P w K mg ao "_law_item" 3 (Ie K))(EH:aD P w K mg ao "_law_item_text" 1 (tQ K))(EF:aD P w K mg ao "_law_place" 2 (Aq K)):aD P w K mg ao "_law_row" 4 (HP K):=by
 refine F.has IX (λvs H Q E h=>?_) (λ_ _ _ _ _ _=>lO λ_ _ _=>rfl) (λf aF A outer s H vs Q E hr h=>?_)
 ·obtain⟨p,m,hv,M,here,rfl,_⟩:=h
  rfl
 ·obtain⟨p,m,hv,M,here,rfl,bg,rm,aO,rh,iV,k⟩:=h
  have nd:=IX.nd;have lr:=aO.len;refine⟨_,(aE (pS 3 nd (pf eH hr (ak (pv 0) (ak aB aw)))) (aE (pS 4 nd (jE (dv K Z hr.units) (pf eH hr (ak (pv 0) (ak aB aw))) aB (bC _))) (aE (pS 5 nd (pf a1L hr (ak (pv 0) (ak (eF K B (ak (px K (pv 1) aB) aw)) aw)))) (aE (bB (bI (dv K Z hr.units) (pv 3) aB (bC _)) (aH (aQ (eE (ak (pf EH hr (ak (pv 5) aw)) (ak (pv 5) aw))))) bD) (aE (ke (pS 6 nd (gM (cC (pv 4)) (pv 2) (pf EF hr (ak (pv 0) (ak (pv 1) aw)))))) (aE (pS 7 nd (aK dg aB (pf eH hr (ak (pv 0) (ak aB aw))))) (aE (pS 8 nd (aK iU (aK iU (aK iU bq (m9 K Z bq (ak (dD (N:=["_law_at"]) (js:=[none]) Z Z Z (jn K Z (pv 6)) (λ_ _ _ _ _=>(ba 0 (gD _))) (λ_ _ _ _ _=>cX) (λ_ _ _ _ _=>(cT (x:="str") gY Z (B.at "str") gy (ak (pv 0) aw)))) aw))) bq) (cT (x:="str") gY rfl (B.at "str") gy (ak (pv 7) aw)))) (aE (pS 9 nd (cT (x:="tuple") (ji K Z) Z (B.at "tuple") gJ (ak (dD (N:=["_law_one","_law_other"]) (js:=[none,none]) rfl rfl rfl (kZ K rfl false false rfl (B.at "zip") (ak (pv 6) (ak (pv 2) aw))) (λ_ _ _ _ _=>(dW K rfl (n:=2) rfl (bP (ba 0 (gm ay)) (bP (ba 1 (gm ay)) dU)))) (λ_ _ _ _ _=>cX) (λ_ _ _ _ _=>(aK kl (pv 0) (pv 1)))) aw))) (aH (aQ (eE (ak (pv 8) (ak (gM (cC (ck (x:="any") (P1 K Z Z) Z (B.at "any") Q9 (ak (pv 9) aw))) (eE (ak bq (ak (pv 9) (ak (pv 7) aw)))) gj) aw))))))))))))),?_⟩;refine⟨_,Z,p,3,Z,bg,ay,ay,λhow H1 a8W a8V b1=>?_⟩;refine⟨_,Z,p,8,Z,b1.bJ,ay,ay,λsm H2 sm0 sm1 b2=>?_⟩;refine .inl ⟨_,_,Z,Z,?_⟩;have t2:=((bG.t bg (b1.trans b2)).v);obtain⟨ma,mb,rfl,gr,iZ⟩:=my (RD.v t2 _ (iY _ _ _ _ _) rm);refine⟨_,Z,_,Z,.inr ⟨ma,_,0,.ref mb,Z,Z,gr,cN (fH 0) Z,mb,_,Z,.inr iZ,?_⟩⟩;rw[bA];refine⟨p,M.rs.length,Z,b2.bJ,au,au,λiv d o H3 ri it b3=>?_⟩;refine⟨_,Z,.inl ⟨_,_,Z,Z,_,Z,?_⟩⟩;have tx:=it.tx au au;refine dZ (λ_=>?_) (λ_=>?_)
  ·refine⟨_,Z,iv,d,Z,ri,tx.ti,λH4 s4=>?_⟩
   refine⟨_,Z,bW Z,λt H5 n5=>?_⟩;have b5:bG p H3 H5:=.eV b3.bJ (s4.trans n5.same);exact k t _ iv H5 (aP.of n5.at') (.inl ⟨d,o,it,Z,RD.mono (s4.trans n5.same) _ ri⟩) (b1.trans (b2.trans (b3.trans b5)))
  have FK:=b1.trans (b2.trans b3);have v3:=(bG.t bg FK).v;have U0:=RD.v v3 _ (iY _ _ _ _ _) rm;have ud:=RD.v v3 _ (iz _) rh;refine⟨λO H4=>bG p H H4/\∃tv ns,RD K H4 tv (cM ns)/\fE M.rs ns/\O=[some (.ref p),some (.ref ma),some hv,some (.int how),some (.bl (decide (sm=0))),some iv,some tv,none,none,none],?_,?_⟩
  ·refine⟨_,Z,_,Z,?_⟩
   refine dZ (λ_=>?_) (λ_=>?_)
   ·exact⟨_,Z,FK,hv,here,ud,iV,Z⟩
   ·exact⟨_,Z,_,Z,p,_,M.rs,M.r,M.f,M.j,M.t,Z,b3.bJ,U0,aO,λv pl H4 rv VB b4=>⟨FK.trans b4,v,pl,rv,VB,Z⟩⟩
  rintro O H4 ⟨b4,tv,ns,rt,mh,rfl⟩;refine⟨_,Z,p,20,Z,b4.bJ,ay,ay,λsp H5 Ir a8p b5=>⟨_,_,Z,Z,?_⟩⟩;have v5:=(bG.t b4.bJ b5).v;have TF:=RD.v v5 _ (iz _) rt;obtain⟨ta,txs,rfl,uQ,ZA⟩:=TF.cg;rw[ZA.eO]at uQ;have ln:=mh.len;have nb:=qY mh aO.rl;have nm:∀n∈ns,Nm n:=λn hn=>by have:=nb n hn;show n.natAbs<10^40;lia
  have Iw:Nm (1+sp):=by show(1+sp).natAbs<10^40;lia
  refine⟨Z,?_⟩;have Xy:ns≠[]:=λe=>by rw[e]at ln;simp at ln;lia
  have j4:sizeLine=16777216:=by decide
  have jl:=ye " " (B:=41) (ns.map numS) (λz hz=>by obtain⟨n,hn,rfl⟩:=cH.mp hz;exact fu (nm n hn));rw[eT,bA]at jl;have Z2:ns.length*(41+1)<=3*42:=Qc _ au;have sl:=fu Iw;have t3:Str.length "to "=3:=by decide+kernel
  refine⟨_,Z,ta,Z,⟨_,uQ⟩,λD H6 n6=>?_⟩;refine o9 (K:=K) (ds:=(ns.map numS).map PyData.str) _ uQ n6 (by simp) (by simp;lia) (nL _) ?_ ?_
  ·intro i x d H7 Q' ex ed s7 hq
   rw[bK]at ex;obtain⟨n,en,rfl⟩:=wu.mp ex;rw[bK,bK,en]at ed;cases ed;have hn:=nm n (fg en);exact⟨_,Z,.inl ⟨n,Z,kx hn,hq _ _ (az.refl _) (bO _)⟩⟩
  intro H7 ws s7 d7 r7;rw[jX r7]at d7;refine⟨" ",D,ns.map numS,Z,Z,aG.of d7,λz hz=>?_,aI,by rw[bA];lia,?_⟩
  ·obtain⟨n,hn,rfl⟩:=cH.mp hz
   have:=fu (nm n hn)
   lia
  refine⟨_,_,Z,Z,by rw[t3];lia,_,_,Z,Z,by simp only[dy];rw[t3,eT];lia,?_⟩;refine⟨_,Z,.inl ⟨_,Z,kx Iw,_,_,Z,Z,?_,?_⟩⟩
  ·simp only[dy]
   rw[t3,eT];change _+(numS (1+sp)).length<=_
   lia
  have ez:("to ":Str)++Txt.join " " (ns.map numS)++" "++numS (1+sp)=toS ns (1+sp):=(to_eq Xy).symm;have NU:bG p H5 H7:=.eV b5.bJ s7;have OT:=b4.trans (b5.trans NU);have v7:=(bG.t bg OT).v;have U3:=RD.v v7 _ (iz _) rh;obtain⟨ha,gQ,rfl,Ek,hhx⟩:=U3.cg;rw[hhx.eO]at Ek;have lh:=iV.len;refine⟨_,Z,_,Z,ta,ha,Z,⟨_,uQ.go s7⟩,⟨_,Ek⟩,λD2 H8 n8=>?_⟩;refine qe (K:=K) (b1:=false) (b2:=false) (xs:=ns.map V.int) (ys:=here.map V.int) (ds:=(dP ns here).map PyData.int) _ Z (uQ.go s7) Ek n8 (by simp[dP]) (by simp[dP];lia) (kr _) ?_ ?_
  ·intro i x y d H9 Q' ex ey ed s9 hq
   obtain⟨u,v,e1,e2,rfl,rfl⟩:=zip2 au ex ey;obtain⟨m,em,rfl⟩:=kv ed;unfold dP at em;rw[bK,(oF (z:=(u,v))).mpr ⟨e1,e2⟩]at em;cases em;exact⟨_,Z,_,Z,_,_,Z,Z,hq _ _ (az.refl _) (eu _)⟩
  intro H9 zs s9 d9 r9;rw[r9.eO]at d9;refine⟨D2,_,Z,.inl ⟨aG.of d9,λtt fF iW=>?_⟩⟩;have FG:bG p H7 fF:=.eV NU.bJ (s9.trans iW.same);have OU:=OT.trans FG;refine⟨_,Z,_,Z,tt,dP ns here,Z,.inr (aP.of iW.at'),_,Z,?_⟩;cases hz:(dP ns here).any (· !=0)with |true=>refine bE ?_;refine⟨_,Z,_,Z,bW Z,λt2 gv Dr=>?_⟩;refine⟨bW Z,λAg sS rB=>?_⟩;have To:=Dr.same.trans rB.same;refine k Ag _ (.ref t2) sS (aP.of rB.at') (.inr ⟨ns,1+sp,ez,mh,au,au,.inl ⟨hz,?_⟩⟩) (OU.trans (.eV FG.bJ To));exact RD.mono rB.same _ (eZ (aP.of Dr.at') (cj (bO _) (cj (eZ (aP.of (Dr.same _ _ iW.at')) (nC _)) (cj (eu _) de)))) |false=>refine aZ ?_;refine⟨bW Z,λAg sS rB=>?_⟩;exact k Ag _ .aY sS (aP.of rB.at') (.inr ⟨ns,1+sp,ez,mh,au,au,.inr ⟨hz,Z⟩⟩) (OU.trans (.eV FG.bJ rB.same))
def mP(M:bX)(here:List Int)(n:Nat)(o:Itm):Str:=if gC M.rs (dF here o)=true then(if n=20 then "refused full" else numS (n+1:Nat))else lu n
theorem Xd(n:Nat):("refused off ":Str)++numS (n:Int)=lu n:=by
 unfold lu;have e:("refused off ":Str)="refused off"++" ":=by decide+kernel
 rw[e,Gf]
def Fm(M:bX)(here:List Int)(n:Nat):Option Itm->Str |none=>"refused item" |some o=>mP M here n o
inductive a79(K:aa)(vs:List V)(H:Hp)(Q:VK):Prop |mk (m:_)(hv:_)(wl:_)(iv:_)(M:_)(here:_)(ys:_)(x:_)(h0:vs=[m,hv,.ref wl,iv])(h1:RD K H m (bX.D M))(h2:M.Ok)(h3:RD K H hv (cM here))(h4:here.length=M.rs.length)(h5:aG K H wl ys)(h6:ys.length<=20)(h7:((x=none/\iv= .aY)\/∃d o,x=some o/\RD K H iv d/\hJ M.rs.length d o))(h8:∀H',az H H'->Q (.str (Fm M here ys.length x)) H')
def Im(K:aa):Sp:=λvs H Q _=>a79 K vs H Q
abbrev BQ:Stmt:=top 126
theorem JK:bc ["_law_machine_here","_law_here","_law_waits","_law_item_here"] ["_law_machine_here","_law_here","_law_waits","_law_item_here"] (aM BQ):=bp aI
theorem WU(F:FA K mg "_law_due" BQ)(B:bu mg)(EG:aD P w K mg ao "_law_leads" 1 (oU K)):aD P w K mg ao "_law_due" 2 (Im K):=by
 refine F.has JK (λvs H Q E h=>?_) (λ_ _ _ _ _ _=>P4 λ_ _ _ _=>rfl) (λf aF A outer s H vs Q E hr h=>?_)
 ·obtain⟨m,hv,wl,iv,M,here,ys,x,rfl,_⟩:=h
  rfl
 ·obtain⟨m,hv,wl,iv,M,here,ys,x,rfl,rm,aO,rh,lh,hw,yc,hk,k⟩:=h
  have nd:=JK.nd;have lr:=aO.len;refine⟨_,(aE (bB (bI xO (pv 3) gj (bC _)) (aH (aQ bq)) bD) (aE (bB (df (cC (ck (x:="all") (qj K Z Z) Z (B.at "all") sZ (ak (dD (N:=["_law_at","_law_rail"]) (js:=[none,none]) rfl rfl rfl (kZ K rfl false false rfl (B.at "zip") (ak (pf EG hr (ak (pv 1) (ak (pv 3) aw))) (ak (px K (pv 0) aB) aw))) (λ_ _ _ _ _=>(dW K rfl (n:=2) rfl (bP (ba 0 (gm ay)) (bP (ba 1 (gm ay)) dU)))) (λ_ _ _ _ _=>cX) (λ_ _ _ _ _=>(KJ qU qU aB (pv 0) (pv 1)))) aw)))) (aH (aQ (aK iU bq (cT (x:="str") gY Z (B.at "str") gy (ak (eF K B (ak (pv 2) aw)) aw))))) bD) (aE (bB (bI (dv K Z hr.units) (eF K B (ak (pv 2) aw)) aB (bC _)) (aH (aQ bq)) bD) (aH (aQ (cT (x:="str") gY Z (B.at "str") gy (ak (aK dg (eF K B (ak (pv 2) aw)) aB) aw))))))),?_⟩;rcases hk with⟨rfl,rfl⟩|⟨d,o,rfl,ri,it⟩
  ·refine⟨_,Z,Z,_,Z,?_⟩
   rw[bR rfl];exact bE (k H (az.refl _))
  have k:∀H',az H H'->Q (.str (mP M here ys.length o)) H':=k;have nv:iv≠ .aY:=λe=>by subst e;rcases(it.tx au au).ti with⟨ns,sp,rfl,_⟩|⟨w,i,rfl,_⟩|⟨w,z,rfl,_⟩<;>(obtain⟨p,xs,e,_⟩:=ri.cg;cases e)
  refine⟨_,Z,Z,_,Z,?_⟩;rw[dM nv];refine aZ ?_;have bl:(dF here o).length=M.rs.length:=zr lh λns sp eo=>(it.ln ns sp eo).1.len;refine⟨_,Z,_,Z,hv,iv,here,d,o,Z,rh,ri,it.it,λns sp e'=>by rw[lh];exact(it.ln ns sp e').1.len,au,λu H1 ru s1=>?_⟩;obtain⟨ma,mb,rfl,gr,iZ⟩:=my (RD.mono s1 _ rm);obtain⟨ua,fR,rfl,DX,Zy⟩:=ru.cg;rw[Zy.eO]at DX;refine⟨_,Z,.inr ⟨ma,_,0,.ref mb,Z,Z,gr,cN (fH 0) Z,ua,mb,Z,⟨_,DX⟩,⟨_,iZ⟩,λD H2 n2=>?_⟩⟩;refine Ot (b1:=false) (b2:=false) (xs:=(dF here o).map V.int) (ys:=M.rs.map V.int) (bs:=((dF here o).zip M.rs).map λp=>decide (0<=p.1)&&decide (p.1<=p.2)) [] rfl DX iZ n2 (by simp) (by simp;lia) ?_ ?_
  ·intro i x y b H3 Q' ex ey eb s3 hq
   obtain⟨u,v,e1,e2,rfl,rfl⟩:=zip2 au ex ey;rw[bK,(oF (z:=(u,v))).mpr ⟨e1,e2⟩]at eb;cases eb;refine⟨_,Z,_,_,Z,Z,_,Z,?_⟩;refine dZ (λhc=>?_) (λhc=>?_)
   ·have gE:decide (0<=u)=true:=hc
    refine⟨_,Z,_,_,Z,Z,?_⟩;have:=hq H3 (az.refl _);dsimp only at this;rw[gE,gc]at this;exact this
   ·have gE:decide (0<=u)=false:=wH.mpr hc
    have:=hq H3 (az.refl _);dsimp only at this;rw[gE,gf]at this;exact this
  intro H3 s3 d3;have jD:=s1.trans s3;have k3:=k H3 jD;unfold mP at k3;have DW:=hw.go jD;have j4:sizeLine=16777216:=by decide
  refine⟨D,_,Z,aG.of d3,_,Z,?_⟩;rw[Gy];show if(!gC M.rs (dF here o))=true then _ else _;have nm:Nm (ys.length:Int):=by show Int.natAbs _<10^40;lia
  cases ho:gC M.rs (dF here o)with
  |false=>
   rw[ho,aU ay]at k3;refine bE ?_;have sl:=fu nm;have e12:Str.length "refused off "=12:=by decide+kernel
   refine⟨_,Z,wl,ys,Z,.inl DW,.inl ⟨_,Z,kx nm,_,_,Z,Z,?_,?_⟩⟩
   ·change _+(numS (ys.length:Int)).length<=_
    rw[e12];lia
   ·rw[<-Xd]at k3
    exact k3 |true=>
   rw[ho,aR rfl]at k3;refine aZ ?_;refine⟨_,Z,wl,ys,Z,.inl DW,.inl ⟨_,_,Z,Z,_,Z,?_⟩⟩;by_cases nU:ys.length=20
   ·rw[aR nU]at k3
    rw[bR au];exact bE k3
   ·rw[aU nU]at k3
    rw[dM au];refine aZ ?_;exact⟨_,Z,wl,ys,Z,.inl DW,_,_,Z,Z,.inl ⟨_,Z,Lk yc,k3⟩⟩
end
open _T (numS numIn? Free)
section
variable {P:af}{w:World}{K:aa}{mg:bf}{ao:Heap}
structure FD(K:aa)(C D:Addr)(M:bX)(p a r:Addr)(m:V)(H:Hp)(q:Addr)(S:bZ):Prop where
 bg:fO H p
 dk:vS K D H a r M
 ra:cP K C H r q M S
 ms:RD K H m M.D
 pq:p≠q
theorem zu{H:Hp}{p:Addr}(h:fO H p):∃xs,H p=some (.lst xs):=by obtain⟨c,m,e,_⟩:=h;exact⟨_,e⟩
section
variable {C D:Addr}{M:bX}{p a r q:Addr}{m:V}{H H':Hp}{S:bZ}
theorem FD.kinds(h:FD K C D M p a r m H q S):p≠a/\p≠r/\a≠r/\a≠q/\r≠q:=by obtain⟨xs,ep⟩:=zu h.bg;obtain⟨dx,mv,ea,_⟩:=h.dk;obtain⟨rx,Dt,bv,cQ,tv,er,_⟩:=h.ra.ob;obtain⟨ys,eq,_⟩:=h.ra.qu;refine⟨nM ep ea (by intro z;cases z),nM ep er (by intro z;cases z),nM ea er (by intro z;injection z with _ _ z;cases z),nM ea eq (by intro z;cases z),nM er eq (by intro z;cases z)⟩
theorem FD.move{S':bZ}(h:FD K C D M p a r m H q S)(v:eK H H')(bg:fO H' p)(ea:∀o,H a=some o->H' a=some o)(ra:cP K C H' r q M S'):FD K C D M p a r m H' q S':=by obtain⟨dx,mv,e,rm⟩:=h.dk;exact⟨bg,⟨dx,mv,ea _ e,RD.v v _ (iY _ _ _ _ _) rm⟩,ra,RD.v v _ (iY _ _ _ _ _) h.ms,h.pq⟩
theorem FD.same(h:FD K C D M p a r m H q S)(no:cy S.ds=true)(s:az H H'):FD K C D M p a r m H' q S:=h.move s.v (bG.eV h.bg s).bJ (λo e=>s _ _ e) (h.ra.same no s)
theorem FD.draw(h:FD K C D M p a r m H q S)(no:cy S.ds=true)(b:bG p H H'):FD K C D M p a r m H' q S:=by obtain⟨k1,k2,_⟩:=h.kinds;exact h.move (bG.t h.bg b).v b.bJ (λo e=>b.same _ _ k1.symm e) (h.ra.go no (bG.t h.bg b).v (λo e=>b.same _ _ k2.symm e) (λo e=>b.same _ _ h.pq.symm e))
theorem FD.sk{S':bZ}(h:FD K C D M p a r m H q S)(ra:cP K C H' r q M S')(b:cB [r,q] H H'):FD K C D M p a r m H' q S':=by
 obtain⟨k1,k2,k3,k4,k5⟩:=h.kinds;have hp:p∉[r,q]:=by
  intro z;rcases bS.mp z with z|z
  ·exact k2 z
  ·exact h.pq (cS.mp z)
 refine h.move (h.ra.v b) ?_ (λo e=>b _ _ e ?_) ra
 ·obtain⟨c,m',e,ok⟩:=h.bg
  exact⟨c,m',b _ _ e hp,ok⟩
 ·intro z
  rcases bS.mp z with z|z
  ·exact k3 z
  ·exact k4 (cS.mp z)
end
end
open _T (numS numIn? Free)
section
variable {P:af}{w:World}{K:aa}{mg:bf}{ao:Heap}
theorem Se{a b:List Int}{z:Int}(h:z∈dP a b):∃u v,u∈a/\v∈b/\z=u-v:=by obtain⟨⟨u,v⟩,hp,rfl⟩:=cH.mp h;obtain⟨h1,h2⟩:=qC hp;exact⟨u,v,h1,h2,Z⟩
theorem TV{M:bX}{here:List Int}{H:Hp}{z:Str}{iv:V}(aO:M.Ok)(mj:fE M.rs here)(h:Pa K M here H z iv):∃d x,(mW M.rs.length d/\z=cY d\/∃ns sp,z=toS ns sp/\fE M.rs ns/\1<=sp/\sp<=20/\d=dh (dP ns here) sp)/\((x=none/\iv= .aY/\iB M.rs.length d=false)\/∃o,x=some o/\RD K H iv d/\hJ M.rs.length d o):=by
 have lr:=aO.len;rcases h with⟨d,o,it,rfl,ri⟩|⟨ns,sp,rfl,mh,s1,s2,h⟩
 ·exact⟨d,some o,.inl ⟨it.tx au au,Z⟩,.inr ⟨o,Z,ri,it⟩⟩
 ·rcases h with⟨nz,ri⟩|⟨nz,rfl⟩
  ·refine⟨_,some (some (dP ns here,sp)),.inr ⟨ns,sp,Z,mh,s1,s2,Z⟩,.inr ⟨_,Z,ri,⟨.inl ⟨_,_,Z,Z⟩,λXr Sx e=>?_,λe=>nomatch e⟩⟩⟩
   cases e;refine⟨⟨?_,λz hz=>?_,?_⟩,s1,s2⟩
   ·have h1:=mh.len
    have h2:=mj.len;unfold dP;rw[bA,List.length_zip];lia
   ·obtain⟨u,v,hu,hv,rfl⟩:=Se hz
    have:=qY mh aO.rl u hu;have:=qY mj aO.rl v hv
    lia
   ·obtain⟨z,hz,h0⟩:=Qo.mp nz
    exact⟨z,hz,by simpa using h0⟩
  ·refine⟨_,none,.inr ⟨ns,sp,Z,mh,s1,s2,Z⟩,.inl ⟨Z,Z,?_⟩⟩
   show(fw "line" (.str "line")&&(ml M.rs.length (.tuple ((dP ns here).map PyData.int))&&cw 1 20 (.int sp)))=false;have e:ml M.rs.length (.tuple ((dP ns here).map PyData.int))=false:=by
    show((((dP ns here).map PyData.int).length==M.rs.length&&((dP ns here).map PyData.int).all (cw (-100) 100))&&((dP ns here).map PyData.int).any pG)=false;have:((dP ns here).map PyData.int).any pG=false:=by rw[List.any_map];exact nz
    rw[this,wI]
   rw[e,gf,wI]
theorem Xm{z:Str}(h:z.cps.toList.head? =some 114)(n:Nat):z≠numS (n:Int):=λe=>by
 rw[e,show(numS (n:Int)).cps.toList=_ from _T.lM n]at h;have hm:=List.mem_of_mem_head? h;have:=_T.kP n 114 hm
 lia
theorem Lg(n:Nat):(lu n).cps.toList.head? =some 114:=by
 unfold lu;rw[oB,lZ];have e:(Str.ofString "refused off").cps.toList=[114,101,102,117,115,101,100,32,111,102,102]:=by decide+kernel
 rw[e];rfl
theorem a4u{M:bX}{here:List Int}{n:Nat}{x:Option Itm}(h:∀o,x=some o->gC M.rs (dF here o)=true->n=20):(Fm M here n x).cps.toList.head? =some 114:=by cases x with |none=>show(Str.ofString "refused item").cps.toList.head? =some 114;decide+kernel |some o=>
 show(mP M here n o).cps.toList.head? =some 114;unfold mP;split
 ·next ho=>rw[aR (h o Z ho)];decide+kernel
 ·exact Lg n
theorem Vm{ta tb:TT}{O:_L.St}{H:Hp}{Q:Bool->Hp->Prop}(h1:∀Q':Bool->Hp->Prop,(∀c,Q' c H)->ta O H Q')(h2:∀Q':Bool->Hp->Prop,(∀c,Q' c H)->tb O H Q')(k:∀c,Q c H):Hk ta tb O H Q:=h1 _ λc=>by cases c with |true=>exact k true |false=>exact h2 _ k
theorem MR(S:bZ)(d:ah)(o:Itm):cn (lL S d o)=dF (cn S) o:=by show(S.os++[o]).foldl dF S.pl=_;rw[Qk];rfl
def dC(S:bZ)(ds:List ah)(os:List Itm):bZ:={S with ds:=ds,os:=os}
inductive a77(K:aa)(C:Addr)(D:Addr)(vs:List V)(H:Hp)(Q:VK):Prop |mk (p:_)(a:_)(m:_)(hv:_)(n:_)(r:_)(q:_)(M:_)(D':_)(S:_)(h0:vs=[.ref p,.ref a,m,hv,.int n])(h1:FD K C D M p a r m H q S)(h2:dm M D' S)(h3:M.Ok)(h4:RD K H hv (cM (cn S)))(h5:fE M.rs (cn S))(h6:S.ds=[])(h7:S.os=[])(h8:S.rate=100)(h9:0<=n)(h10:n<=40)(h11:∀wl ys ds os H',FD K C D M p a r m H' q (dC S ds os)->dm M D' (dC S ds os)->H' wl=some (.lst ys)->ys.length=ds.length->cB [p,r,q] H H'->Q (.ref wl) H')
def Ik(K:aa)(C D:Addr):Sp:=λvs H Q _=>a77 K C D vs H Q
abbrev BO:Stmt:=top 127
theorem JI:bc ["_law_bag_here","_law_desk","_law_machine_here","_law_here","_law_many","_law_waits","_law_k","_law_text","_law_item_here","_law_due_here","_law_squares","_law_shown"] ["_law_bag_here","_law_desk","_law_machine_here","_law_here","_law_many"] (aM BO):=bp aI
theorem WS{C D:Addr}(F:FA K mg "_law_all_fed" BO)(B:bu mg)(DC:mZ K D)(a1G:aD P w K mg ao "_law_row" 4 (HP K))(a1O:aD P w K mg ao "_law_due" 2 (Im K))(a1F:aD P w K mg ao "_law_told" 8 (HI K C D))(EG:aD P w K mg ao "_law_leads" 1 (oU K))(a1H:aD P w K mg ao "_law_plan" 3 (HW K))(a1M:aD P w K mg ao "_law_fraction_text" 1 (Ih K))(EH:aD P w K mg ao "_law_item_text" 1 (tQ K))(a25:cV P w K mg ao D "say" 11 (oW D "plan" (ka K C N0)))(EI:cV P w K mg ao D "say" 6 (oW D "waits" (ka K C ET))):aD P w K mg ao "_law_all_fed" 12 (Ik K C D):=by
 refine F.has JI (λvs H Q E h=>?_) (λ_ _ _ _ _ _=>al5 λ_ _ _ _ _=>rfl) (λf aF A outer s H vs Q E hr h=>?_)
 ·obtain⟨p,a,m,hv,n,r,q,M,D',S,rfl,_⟩:=h
  rfl
 ·obtain⟨p,a,m,Zx,n,r,q,M,D',S0,rfl,mL,Lf,aO,U5,VC,ed0,eo0,er0,n0,n40,k⟩:=h
  have nd:=JI.nd;have lr:=aO.len;refine⟨_,(aE (pS 5 nd (ft aw)) (aE (kg je Z (pj Z (B.at "range") (ak (pv 4) aw)) (ba 6 nd) (aE (eD (pf a1G hr (ak (pv 0) (ak (pv 2) (ak (pv 3) aw)))) (dW K Z (n:=2) Z (bP (ba 7 nd) (bP (ba 8 nd) dU)))) (aE (pS 9 nd (pf a1O hr (ak (pv 2) (ak (pv 3) (ak (pv 5) (ak (pv 8) aw)))))) (aE (ke (bB (bI md (pf a1F hr (ak (pv 1) (ak (pv 7) aw))) (pv 9) (bC _)) (aH (aQ gj)) bD)) (aE (ke (bB (bI qW (pv 9) (cT (x:="str") gY Z (B.at "str") gy (ak (aK dg (eF K B (ak (pv 5) aw)) aB) aw)) (bC _)) (aE (ug (uq K Z (pv 5) (ak (pv 8) aw))) (aH (pS 3 nd (pf EG hr (ak (pv 3) (ak (pv 8) aw)))))) bD)) (aE (ke (bB (PW.pt (iq (bI (dv K Z hr.units) (aK me (pv 6) aB) aB (bC _)) (ip (bI (dv K Z hr.units) (pv 6) (aK kl (pv 4) aB) (bC _))))) (aE (CJ (i0:=10) nd Z (Or.inl Z) (N:=["_law_one"]) (js:=[none]) Z Z Z (pk K Z (pf a1H hr (ak (pv 2) (ak (pv 5) aw)))) (λ_ _ _ _ _=>(ba 0 (gD _))) (λ_ _ _ _ _=>cX) (λ_ _ _ _ _=>(pf a1M hr (ak (pv 0) aw)))) (aH (bB (bI md (qR a25 DC.cl (hr.mono ay) (pv 1) (ak bq aw)) (m9 K Z bq (ak (pv 10) aw)) (bC _)) (aH (aQ gj)) bD))) bD)) (aE (pS 11 nd (m9 K Z bq (ak (dD (N:=["_law_one"]) (js:=[none]) Z Z Z (pk K Z (pv 5)) (λ_ _ _ _ _=>(ba 0 (gD _))) (λ_ _ _ _ _=>cX) (λ_ _ _ _ _=>(pf EH hr (ak (pv 0) aw)))) aw))) (aH (bB (bI md (qR EI DC.cl (hr.mono ay) (pv 1) (ak bq aw)) (gM (bI md (pv 11) bq (bC _)) (pv 11) bq) (bC _)) (aH (aQ gj)) bD))))))))) (aH (aQ (pv 5))))),?_⟩;refine⟨bW Z,λwl H1 n1=>?_⟩;have nw:=n1.no;refine⟨_,Z,_,Z,au,au,?_⟩;refine yR (Pv:=λi O H2=>∃ds os hv ys v6 v7 v8 v9 v10 v11,O=[some (.ref p),some (.ref a),some m,some hv,some (.int n),some (.ref wl),v6,v7,v8,v9,v10,v11]/\FD K C D M p a r m H2 q (dC S0 ds os)/\dm M D' (dC S0 ds os)/\RD K H2 hv (cM (cn (dC S0 ds os)))/\fE M.rs (cn (dC S0 ds os))/\H2 wl=some (.lst ys)/\aJ K H2 ys ds/\(∀d∈ds,TI d)/\cB [p,r,q] H H2) ?_ ?_ ?_
  ·have e0:dC S0 [] []=S0:=by cases S0;cases ed0;cases eo0;rfl
   refine⟨[],[],Zx,[],none,none,none,none,none,none,Z,?_,?_,?_,?_,n1.at',de,(λd hd=>nomatch hd),λb o eb _=>n1.same _ _ eb⟩
   ·rw[e0];exact mL.same Lf.row.no n1.same
   ·rw[e0];exact Lf
   ·rw[e0];exact RD.mono n1.same _ U5
   ·rw[e0];exact VC
  ·rintro i O H2 hi ⟨ds,os,hv,ys,v6,v7,v8,v9,v10,v11,rfl,fd,ok,rh,mj,ew,kX,ti,fr⟩
   generalize hS:dC S0 ds os=S at fd ok rh mj;have z9:S.ds=ds:=by rw[<-hS];rfl
   have eos:S.os=os:=by rw[<-hS];rfl
   have no:=ok.row.no;have yc:=ok.len;have ly:=kX.length;rw[z9]at yc no;refine⟨_,Z,_,Z,_,Z,p,m,hv,M,_,Z,fd.bg,fd.ms,aO,rh,mj,λt z iv H3 ht Kg b3=>?_⟩;refine⟨t,_,Z,ht,Z,_,_,Z,_,_,Z,Z,?_⟩;have EZ:=fd.draw (by rw[z9];exact no) b3;have v3:=(bG.t fd.bg b3).v;have pw:wl≠p:=λe=>by obtain⟨xs,ex⟩:=zu mL.bg;rw[<-e,nw]at ex;cases ex
   have Fd:=b3.same _ _ pw ew;have K6:=aJ.v v3 _ no kX;have ud:=RD.v v3 _ (iz _) rh;obtain⟨d,x,Ms,hx⟩:=TV aO mj Kg;have gl:=mj.len;refine⟨_,Z,_,Z,_,Z,_,Z,m,hv,wl,iv,M,_,ys,x,Z,EZ.ms,aO,ud,gl,aG.of Fd,au,?_,λH4 s4=>?_⟩
   ·rcases hx with⟨h1,h2,_⟩|⟨o,h1,h2,h3⟩
    ·exact .inl ⟨h1,h2⟩
    ·exact .inr ⟨d,o,h1,h2,h3⟩
   have Lo:cy S.ds=true:=by rw[z9];exact no
   have vq:=EZ.same Lo s4;have yQ:cB [p,r,q] H H3:=λb o eb hb=>b3.same _ _ (λz=>hb (by rw[z];exact .head _)) (fr _ _ eb hb);have Na:cB [p,r,q] H H4:=λb o eb hb=>s4 _ _ (yQ _ _ eb hb);have NF:=s4 _ _ Fd;have K5:=aJ.mono s4 _ K6;have Kd:=RD.mono s4 _ ud;generalize Eo:Fm M (cn S) ys.length x=fM;refine⟨λO H5=>O=[some (.ref p),some (.ref a),some m,some hv,some (.int n),some (.ref wl),some (.int (0+(i:Int))),some (.str z),some iv,some (.str fM),v10,v11]/\∃S5,FD K C D M p a r m H5 q S5/\dm M D' S5/\H5 wl=some (.lst ys)/\aJ K H5 ys ds/\RD K H5 hv (cM (cn S))/\cB [p,r,q] H H5/\((fM.cps.toList.head? =some 114/\S5=S)\/∃o,S5=lL S d o/\RD K H5 iv d/\hJ M.rs.length d o/\fE M.rs (dF (cn S) o)/\fM=numS (ys.length+1:Nat)),?_,?_⟩
   ·have ls:ys.length=S.ds.length:=by rw[z9];exact ly
    have fin:∀{H5:Hp},az H4 H5->fM.cps.toList.head? =some 114->∃S5,FD K C D M p a r m H5 q S5/\dm M D' S5/\H5 wl=some (.lst ys)/\aJ K H5 ys ds/\RD K H5 hv (cM (cn S))/\cB [p,r,q] H H5/\((fM.cps.toList.head? =some 114/\S5=S)\/∃o,S5=lL S d o/\RD K H5 iv d/\hJ M.rs.length d o/\fE M.rs (dF (cn S) o)/\fM=numS (ys.length+1:Nat)):=λ{H5} s5 hh=>⟨S,vq.same Lo s5,ok,s5 _ _ NF,aJ.mono s5 _ K5,RD.mono s5 _ Kd,λb o eb hb=>s5 _ _ (Na _ _ eb hb),.inl ⟨hh,Z⟩⟩;refine⟨_,Z,_,Z,a,r,q,M,D',S,z,d,Z,vq.dk,vq.ra,ok,aO,Ms,?_⟩;rcases hx with⟨rfl,h2,h3⟩|⟨o,rfl,h2,h3⟩
    ·have e1:fM="refused item":=Eo.symm
     refine .inl ⟨h3,λH5 s5=>?_⟩;refine⟨_,Z,Z,_,Z,?_⟩;rw[show(!decide (V.str (Str.ofString "refused item")=V.str fM))=false by rw[e1,bR rfl];rfl];refine aZ ⟨Z,?_⟩;exact fin s5 (by rw[<-Eo];exact a4u λo h _=>nomatch h)
    ·have e1:mP M (cn S) ys.length o=fM:=Eo
     refine .inr ⟨o,h3,λho H5 s5=>?_,λho nU H5 s5=>?_,λho nU H5 R5 b5=>?_⟩
     ·have e2:fM=lu S.ds.length:=by rw[<-e1,ls];unfold mP;rw[ho,aU ay]
      refine⟨_,Z,Z,_,Z,?_⟩;rw[show(!decide (V.str (lu S.ds.length)=V.str fM))=false by rw[e2,bR rfl];rfl];refine aZ ⟨Z,?_⟩;exact fin s5 (by rw[e2];exact Lg _)
     ·have e2:fM="refused full":=by rw[<-e1,ls];unfold mP;rw[ho,aR Z,aR nU]
      refine⟨_,Z,Z,_,Z,?_⟩;rw[show(!decide (V.str (Str.ofString "refused full")=V.str fM))=false by rw[e2,bR rfl];rfl];refine aZ ⟨Z,?_⟩;exact fin s5 (by rw[e2];decide+kernel)
     ·have e2:fM=numS (S.ds.length+1:Nat):=by rw[<-e1,ls];unfold mP;rw[ho,aR Z,aU au]
      refine⟨_,Z,Z,_,Z,?_⟩;rw[show(!decide (V.str (numS (S.ds.length+1:Nat))=V.str fM))=false by rw[e2,bR rfl];rfl];have v5:=vq.ra.v b5;obtain⟨k1,k2,k3,k4,k5⟩:=mL.kinds;have wr:wl∉[r,q]:=λz=>by
       rcases bS.mp z with z|z
       ·obtain⟨rx,Dt,bv,cQ,tv,er,_⟩:=mL.ra.ob
        rw[<-z,nw]at er;cases er
       ·obtain⟨yq,eq,_⟩:=mL.ra.qu
        rw[<-cS.mp z,nw]at eq;cases eq
      have bl:(dF (cn S) o).length=M.rs.length:=zr gl λns sp eo=>(h3.ln ns sp eo).1.len;refine aZ ⟨Z,lL S d o,vq.sk R5 b5,ok.sk h3 nU,b5 _ _ NF wr,aJ.v v5 _ no K5,RD.v v5 _ (iz _) Kd,λb o' eb hb=>b5 _ _ (Na _ _ eb hb) (λz=>hb (.tail _ z)),.inr ⟨o,Z,?_,h3,(Vz bl).mp ho,by rw[ls,e2]⟩⟩;exact RD.v v5 _ h3.it.no (RD.mono s4 _ h2)
   rintro O H5 ⟨rfl,S5,vp,xQ,sx,Cf,Cm,kK,hc⟩;refine⟨λO H6=>∃ds os hv ys v10 v11,O=[some (.ref p),some (.ref a),some m,some hv,some (.int n),some (.ref wl),some (.int (0+(i:Int))),some (.str z),some iv,some (.str fM),v10,v11]/\FD K C D M p a r m H6 q (dC S0 ds os)/\dm M D' (dC S0 ds os)/\RD K H6 hv (cM (cn (dC S0 ds os)))/\fE M.rs (cn (dC S0 ds os))/\H6 wl=some (.lst ys)/\aJ K H6 ys ds/\(∀d∈ds,TI d)/\cB [p,r,q] H H6,?_,?_⟩
   ·refine⟨_,Z,_,Z,wl,ys,Z,.inl (aG.of sx),_,_,Z,Z,.inl ⟨_,Z,Lk au,Z,_,Z,?_⟩⟩
    rcases hc with⟨hh,rfl⟩|⟨o,rfl,Kb,it,Vy,ed⟩
    ·rw[show decide (V.str fM=V.str (Str.ofString (toString ((ys.length:Int)+1))))=false from dM λe=>Xm hh (ys.length+1) (by injection e)]
     refine aZ ⟨ds,os,hv,ys,v10,v11,Z,?_,?_,?_,?_,sx,Cf,ti,kK⟩
     ·rw[hS];exact vp
     ·rw[hS];exact xQ
     ·rw[hS];exact Cm
     ·rw[hS];exact mj
    ·rw[show decide (V.str fM=V.str (Str.ofString (toString ((ys.length:Int)+1))))=true from bR (by rw[ed];rfl)]
     refine bE ?_;have j4:sizeLine=16777216:=by decide
     refine⟨_,Z,.inl ⟨Z,_,aG.of sx⟩,_,Z,wl,ys,_,Z,Z,sx,au,?_⟩;have tu:eK H5 (_L.upd H5 wl (.lst (ys++[iv]))):=.upd sx trivial;refine⟨_,Z,_,Z,hv,iv,cn S,d,o,Z,RD.v tu _ (iz _) Cm,RD.v tu _ it.it.no Kb,it.it,λns sp e'=>by rw[gl];exact(it.ln ns sp e').1.len,au,λu H7 ru s7=>?_⟩;obtain⟨xs,ep⟩:=zu mL.bg;have wp:p≠wl:=λe=>by rw[e,nw]at ep;cases ep
     obtain⟨O2,mv0,ea0,_⟩:=mL.dk;have wa:a≠wl:=λe=>by rw[e,nw]at ea0;cases ea0
     obtain⟨rx0,a8F,bv0,pc0,tv0,NI,_⟩:=mL.ra.ob;have wr:r≠wl:=λe=>by rw[e,nw]at NI;cases NI
     obtain⟨yq0,NN,_⟩:=mL.ra.qu;have wq:q≠wl:=λe=>by rw[e,nw]at NN;cases NN
     have Lv:=xQ.row.no;have pY:FD K C D M p a r m (_L.upd H5 wl (.lst (ys++[iv]))) q (lL S d o):=vp.move tu (by obtain⟨c,m',e,VE⟩:=vp.bg;exact⟨c,m',by rw[bh wp];exact e,VE⟩) (λo' e=>by rw[bh wa];exact e) (vp.ra.go Lv tu (λo' e=>by rw[bh wr];exact e) (λo' e=>by rw[bh wq];exact e));have eW:lL S d o=dC S0 (ds++[d]) (os++[o]):=by rw[<-hS];rfl
     refine⟨ds++[d],os++[o],u,ys++[iv],v10,v11,Z,?_,?_,?_,?_,s7 _ _ bU,?_,?_,λb o' eb hb=>s7 _ _ ?_⟩
     ·rw[<-eW];exact pY.same Lv s7
     ·rw[<-eW];exact xQ
     ·rw[<-eW,MR];exact ru
     ·rw[<-eW,MR];exact Vy
     ·exact(aJ.mono s7 _ (aJ.v tu _ no Cf)).append (cj (RD.mono s7 _ (RD.v tu _ it.it.no Kb)) de)
     ·intro d1 h1
      rcases iO.mp h1 with h1|h1
      ·exact ti d1 h1
      ·rw[cS.mp h1];exact(it.tx au au).ti
     ·have yF:b≠wl:=λe=>by rw[e,nw]at eb;cases eb
      rw[bh yF];exact kK _ _ eb hb
   clear hc Cf Cm sx vp xQ kK hx Ms ud K6 Fd EZ Kg;rintro O H6 ⟨ds,os,hv,ys,v10,v11,rfl,pY,mq,U4,VA,Fc,xC,wY,fr6⟩;have l6:=mq.len;have YH:=mq.row.len;have Dj:=mq.row.no;have Ys:=xC.length;have l6':ds.length<=20:=l6;have a8M:ds.length=os.length:=YH;obtain⟨zf,LJ,za,a8u⟩:=pY.dk;refine⟨λO H7=>∃v10,O=[some (.ref p),some (.ref a),some m,some hv,some (.int n),some (.ref wl),some (.int (0+(i:Int))),some (.str z),some iv,some (.str fM),v10,v11]/\az H6 H7,?_,?_⟩
   ·refine Vm (λQ' hq=>⟨_,Z,_,_,Z,Z,ay,.inl ⟨_,_,Z,Z,_,Z,hq _⟩⟩) (λQ' hq=>⟨_,Z,_,Z,_,_,Z,Z,.inl ⟨_,_,Z,Z,_,Z,hq _⟩⟩) (λc=>?_)
    cases c with |false=>exact aZ ⟨_,Z,az.refl _⟩ |true=>
     refine bE ?_;refine⟨_,Z,_,Z,m,.ref wl,M.rs,M.r,M.f,M.j,M.t,ds,os,Z,pY.ms,aO,Cq (aG.of Fc) xC,mq.row,au,λl zs H7 nl el rl s7=>?_⟩;have lp:(iu M.r M.f M.j 100 os).length=os.length+1:=jH _ _;have lz:=rl.length;rw[bA,lp]at lz;refine⟨l,Z,⟨_,aG.of el⟩,λD2 H8 n8=>?_⟩;refine vD (K:=K) (ds:=((iu M.r M.f M.j 100 os).map ue).map PyData.str) _ (aG.of el) n8 (by rw[bA,bA,lp];exact lz) au (nL _) ?_ ?_
     ·intro i x d H9 Q' ex ed s9 hq
      obtain⟨d',dw,rx⟩:=rl.get' i ex;rw[bK]at dw;rw[bK,bK]at ed;cases eq:(iu M.r M.f M.j 100 os)[i]? with |none=>rw[eq]at dw;cases dw |some qq=>rw[eq]at dw ed;cases dw;cases ed;obtain⟨hi,rfl⟩:=xJ eq;obtain⟨n1,n2⟩:=zt (xK (rate:=100) aO mq.row au ay ay i hi);exact⟨_,Z,x,_,_,Z,RD.mono s9 _ rx,n1,n2,hq _ _ (az.refl _) (bO _)⟩
     intro H9 ws s9 d9 r9;rw[jX r9]at d9;have p4:=s7.trans s9;refine⟨_,Z,a,zf,_,Z,p4 _ _ za,Z,a,r,zf,LJ,Z,p4 _ _ za,λfF E' kW=>?_⟩;have u7:=p4.trans kW;refine⟨r,q,M,D',_,Z,pY.ra.same Dj u7,mq,aO,λgv nB=>?_⟩;have p5:=u7.trans nB;refine⟨Z,_,Z," ",D2,_,Z,Z,aG.of (nB _ _ (kW _ _ d9)),λz hz=>?_,aI,by rw[bA,lp];lia,?_⟩
     ·obtain⟨qq,hq,rfl⟩:=cH.mp hz
      obtain⟨i,hi⟩:=oE.mp hq;obtain⟨va,rfl⟩:=xJ hi;obtain⟨n1,n2⟩:=zt (xK (rate:=100) aO mq.row au ay ay i va);exact fc (N9 n1 n2) ay
     refine⟨Z,_,Z,?_⟩;have er:(dC S0 ds os).rate=100:=er0;rw[er];rw[show(!decide (V.str (CK M.r M.f M.j 100 (dC S0 ds os).os)=V.str (Txt.join (Str.ofString " ") ((iu M.r M.f M.j 100 os).map ue))))=false by rw[bR (show V.str (CK M.r M.f M.j 100 (dC S0 ds os).os)=V.str (Txt.join (Str.ofString " ") ((iu M.r M.f M.j 100 os).map ue))from rfl)];rfl];exact aZ ⟨_,Z,p5⟩
   rintro O H7 ⟨v10,rfl,s7⟩;have ND:=s7 _ _ Fc;have Tr:=aJ.mono s7 _ xC;refine⟨Z,?_⟩;refine⟨_,Z,wl,Z,⟨_,aG.of ND⟩,λD2 H8 n8=>?_⟩;refine vD (K:=K) (ds:=(ds.map cY).map PyData.str) _ (aG.of ND) n8 (by rw[bA,bA];exact Ys) au (nL _) ?_ ?_
   ·intro i x d H9 Q' ex ed s9 hq
    obtain⟨d',dw,rx⟩:=Tr.get' i ex;rw[bK,bK,dw]at ed;cases ed;exact⟨_,Z,x,d',Z,RD.mono s9 _ rx,wY d' (fg dw),λH3 s3=>hq _ _ s3 (bO _)⟩
   intro H9 ws s9 d9 r9;rw[jX r9]at d9;refine⟨"\n",D2,ds.map cY,Z,Z,aG.of d9,λz hz=>?_,aI,by rw[bA];lia,?_⟩
   ·obtain⟨d,hd,rfl⟩:=cH.mp hz
    have:=uO (wY d hd)
    lia
   have p4:=s7.trans s9;refine⟨_,Z,a,zf,_,Z,p4 _ _ za,Z,a,r,zf,LJ,Z,p4 _ _ za,λfF E' kW=>?_⟩;have u7:=p4.trans kW;refine⟨r,q,M,D',_,Z,pY.ra.same Dj u7,mq,aO,wY,λgv nB=>?_⟩;have p5:=u7.trans nB;generalize hz:Txt.join (Str.ofString "\n") (ds.map cY)=zz;have rM:Txt.join (Str.ofString "\n") ((dC S0 ds os).ds.map cY)=zz:=hz;rw[rM];refine⟨_,Z,Z,_,Z,?_⟩;have fin:∃nZ qT yo GL w6 w7 w8 w9 oK QP,[some (.ref p),some (.ref a),some m,some hv,some (.int n),some (.ref wl),some (.int (0+(i:Int))),some (.str z),some iv,some (.str fM),v10,some (.str zz)]=[some (.ref p),some (.ref a),some m,some yo,some (.int n),some (.ref wl),w6,w7,w8,w9,oK,QP]/\FD K C D M p a r m gv q (dC S0 nZ qT)/\dm M D' (dC S0 nZ qT)/\RD K gv yo (cM (cn (dC S0 nZ qT)))/\fE M.rs (cn (dC S0 nZ qT))/\gv wl=some (.lst GL)/\aJ K gv GL nZ/\(∀d∈nZ,TI d)/\cB [p,r,q] H gv:=⟨ds,os,hv,ys,_,_,_,_,_,_,Z,pY.same Dj p5,mq,RD.mono p5 _ U4,VA,p5 _ _ Fc,aJ.mono p5 _ xC,wY,λb o eb hb=>p5 _ _ (fr6 _ _ eb hb)⟩;by_cases e0:zz=""
   ·rw[show(!decide (V.str zz=V.str (Str.ofString "")))=false by rw[bR (by rw[e0])];rfl]
    refine aZ ⟨Z,_,Z,?_⟩;rw[show(!decide (V.str (kq zz)=V.str (Str.ofString "none")))=false by rw[bR (show V.str (kq zz)=V.str (Str.ofString "none") by unfold kq;rw[aR e0])];rfl];exact aZ fin
   ·rw[show(!decide (V.str zz=V.str (Str.ofString "")))=true by rw[dM (λe=>e0 (by injection e))];rfl];refine bE ⟨_,Z,Z,_,Z,?_⟩;rw[show(!decide (V.str (kq zz)=V.str zz))=false by rw[bR (show V.str (kq zz)=V.str zz by unfold kq;rw[aU e0])];rfl];exact aZ fin
  ·rintro O H2 ⟨ds,os,hv,ys,v6,v7,v8,v9,v10,v11,rfl,fd,ok,rh,mj,ew,kX,ti,fr⟩
   exact⟨_,Z,k wl ys ds os H2 fd ok ew kX.length fr⟩
end
end _c
set_option maxHeartbeats 2000000
namespace _c
open PySem PySem.Spec PyProof.Rows _L _d _l _C _P _W _R
open _O (topR cornO mnO betR atO ownF leadF ownL OkI OkIs)
open _T (numS numIn? Free)
section
variable {P:af}{w:World}{K:aa}{mg:bf}{ao:Heap}
section
variable {C D:Addr}{M:bX}{p a r q:Addr}{m:V}{H H':Hp}{S:bZ}
theorem FD.v(h:FD K C D M p a r m H q S)(b:cB [p,r,q] H H'):eK H H':=by
 obtain⟨xs,ep⟩:=zu h.bg;obtain⟨rx,Dt,bv,cQ,tv,er,_⟩:=h.ra.ob;obtain⟨ys,eq,_⟩:=h.ra.qu;refine b.v λx hx o eo=>?_;simp only[bS,eS,jR]at hx;rcases hx with rfl|rfl|rfl
 ·rw[ep]at eo;cases eo;trivial
 ·rw[er]at eo;cases eo;trivial
 ·rw[eq]at eo;cases eo;trivial
theorem FD.v1(h:FD K C D M p a r m H q S)(b:cB [r] H H'):eK H H':=h.v λx o e hx=>b x o e λz=>hx (.tail _ (by rw[cS.mp z];exact .head _))
theorem FD.one{S':bZ}(h:FD K C D M p a r m H q S)(ra:cP K C H' r q M S')(b:cB [r] H H'):FD K C D M p a r m H' q S':=h.sk ra λx o e hx=>b x o e λz=>hx (by rw[cS.mp z];exact .head _)
theorem FD.drop{S':bZ}{q':Addr}(h:FD K C D M p a r m H q S)(ra:cP K C H' r q' M S')(nq:H q'=none)(b:cB [r] H H'):FD K C D M p a r m H' q' S':=by
 obtain⟨k1,k2,k3,k4,k5⟩:=h.kinds;obtain⟨dx,mv,e,rm⟩:=h.dk;have v:=h.v1 b;refine⟨?_,⟨dx,mv,b _ _ e λz=>k3 (cS.mp z),RD.v v _ (iY _ _ _ _ _) rm⟩,ra,RD.v v _ (iY _ _ _ _ _) h.ms,λz=>?_⟩
 ·obtain⟨c,m',e',ok⟩:=h.bg
  exact⟨c,m',b _ _ e' λz=>k2 (cS.mp z),ok⟩
 ·obtain⟨c,m',e',ok⟩:=h.bg
  rw[z,nq]at e';cases e'
theorem xw{Ha Hb:Hp}{L:List Addr}(s:az H Ha)(b:cB L Ha Hb)(hn:∀x∈L,H x=none):az H Hb:=λx o e=>b x o (s x o e) λz=>by rw[hn x z]at e;cases e
end
def Ib(K:aa):Sp:=λvs H Q _=>∃(a:Addr)(ns:List Int),vs=[.ref a]/\aG K H a (ns.map V.int)/\ns.length<=63/\∀H',Q (.bl true) H'
abbrev tY:Stmt:=top 128
theorem Jr:bc ["_law_script","_law_at","_law_bag_here","_law_many","_law_machine_here","_law_place_here","_law_desk","_law_waits"] ["_law_script"] (aM tY):=bp aI
theorem WC{C D:Addr}{f:Addr}{fd:FuncData}(F:iI K "law" "law" tY f fd)(B:bu mg)(DC:mZ K D)(a1Q:aD P w K mg ao "_law_bag" 1 (Iq K))(eH:aD P w K mg ao "_law_take" 1 ny)(a1K:aD P w K mg ao "_law_machine" 2 (Ia K))(EF:aD P w K mg ao "_law_place" 2 (Aq K))(a23:sL P w K mg ao D "Desk" 5 (Io K C D))(MO:aD P w K mg ao "_law_all_fed" 12 (Ik K C D))(a27:cV P w K mg ao D "say" 4 (oW D "hold" (ka K C (N3 K C))))(a28:cV P w K mg ao D "say" 7 (oW D "drop" (ka K C (N4 K C))))(EI:cV P w K mg ao D "say" 6 (oW D "waits" (ka K C ET)))(a26:cV P w K mg ao D "say" 5 (oW D "place" (ka K C N1))):f9 P w K mg ao g9 13 f fd ["_law_script"] (Ib K):=by
 refine F.ok Jr (λvs H Q E h=>?_) (λaF A outer s H vs Q E hr h=>?_)
 ·obtain⟨a,ns,rfl,_⟩:=h
  rfl
 ·obtain⟨a,ns,rfl,hS,hlen,k⟩:=h
  have nd:=Jr.nd;refine⟨_,(aE (kg je Z (pj Z (B.at "range") (ak (ck (x:="max") (a4Y rfl) rfl (B.at "max") Gj (ak aB (ak (ck (x:="min") (Fy rfl) rfl (B.at "min") Q7 (ak aB (ak (eF K B (ak (pv 0) aw)) aw))) aw))) aw)) (ba 1 nd) (aE (pS 2 nd (pf a1Q hr (ak (pv 0) (ak (pv 1) aw)))) (aE (pS 3 nd (px K (ft (ak (aK dg aB (pf eH hr (ak (pv 2) (ak aB aw)))) (ak (aK dg aB (pf eH hr (ak (pv 2) (ak aB aw)))) (ak aB aw)))) (pf eH hr (ak (pv 2) (ak aB aw))))) (aE (pS 4 nd (pf a1K hr (ak (pv 2) aw))) (aE (pS 5 nd (pf EF hr (ak (pv 2) (ak (pv 4) aw)))) (aE (pS 6 nd (KH a23 (hr.mono ay) Z (ak (pv 4) (ak (pv 5) aw)))) (aE (pS 7 nd (pf MO hr (ak (pv 2) (ak (pv 6) (ak (pv 4) (ak (pv 5) (ak (pv 3) aw))))))) (aE (bB (PW.pt (iq (bI xO (pv 7) gj (bC _)) (ip (bI md (qR a27 DC.cl (hr.mono ay) (pv 6) (ak bq aw)) bq (bC _))))) (aH (aQ gB)) bD) (aE (bB (PW.pt (iq (bI md (qR a28 DC.cl (hr.mono ay) (pv 6) (ak bq aw)) (cT (x:="str") gY Z (B.at "str") gy (ak (eF K B (ak (pv 7) aw)) aw)) (bC _)) (ip (bI md (qR EI DC.cl (hr.mono ay) (pv 6) (ak bq aw)) bq (bC _))))) (aH (aQ gB)) bD) (aE (bB (bI xO (pf MO hr (ak (pv 2) (ak (pv 6) (ak (pv 4) (ak (pv 5) (ak aB aw)))))) gj (bC _)) (aH (aQ gB)) bD) (aH (bB (bI md (qR a26 DC.cl (hr.mono ay) (pv 6) (ak bq aw)) (m9 K Z bq (ak (dD (N:=["_law_one"]) (js:=[none]) Z Z Z (jn K Z (pv 5)) (λ_ _ _ _ _=>(ba 0 (gD _))) (λ_ _ _ _ _=>cX) (λ_ _ _ _ _=>(cT (x:="str") gY Z (B.at "str") gy (ak (pv 0) aw)))) aw)) (bC _)) (aH (aQ gB)) bD)))))))))))) (aH (aQ gB))),?_⟩;refine⟨_,Z,a,_,Z,.inl hS,_,_,Z,_,_,Z,_,Z,?_,?_,?_⟩
  ·split<;>(try split)<;>lia
  ·split<;>(try split)<;>(try rw[bA])<;>lia
  have hN:(if(if((ns.map V.int).length:Int)<4 then((ns.map V.int).length:Int)else 4)>1 then(if((ns.map V.int).length:Int)<4 then((ns.map V.int).length:Int)else 4)else 1).toNat<=4:=by split<;>(try split)<;>lia
  refine yR (Pv:=λi O H2=>az H H2/\∃v1 v2 v3 v4 v5 v6 v7,O=[some (.ref a),v1,v2,v3,v4,v5,v6,v7]) ?_ ?_ ?_
  ·exact⟨az.refl _,none,none,none,none,none,none,none,Z⟩
  ·rintro i O H2 hi ⟨s2,v1,v2,v3,v4,v5,v6,v7,rfl⟩
   have hi8:i<4:=fb hi hN;refine⟨_,Z,_,Z,a,ns,_,Z,s2.seq hS,hlen,au,au,λp H3 np bg3 s3=>?_⟩;refine⟨_,Z,p,25,Z,bg3,ay,ay,λt1 H4 t10 t11 b4=>⟨_,_,Z,Z,?_⟩⟩;refine⟨_,Z,p,8,Z,b4.bJ,ay,ay,λt2 H5 t20 t21 b5=>⟨_,_,Z,Z,?_⟩⟩;refine⟨bW Z,λl H6 n6=>?_⟩;have b6:bG p H5 H6:=.eV b5.bJ n6.same;have DE:l≠p:=λe=>b5.bJ.ne (e▸n6.no);refine⟨_,Z,p,3,Z,b6.bJ,ay,ay,λix H7 i0 i1 b7=>?_⟩;obtain⟨many,mm,em⟩:=Mh [2+t1,2+t2,36] i0 i1;have LP:0<=many/\many<=40:=by
    rcases bS.mp mm with rfl|mm
    ·lia
    rcases bS.mp mm with rfl|mm
    ·lia
    rcases bS.mp mm with rfl|mm
    ·lia
    ·exact(eS mm).elim
   refine .inl ⟨l,_,_,_,Z,Z,aG.of (b7.same _ _ DE n6.at'),em,?_⟩;refine⟨_,Z,p,Z,b7.bJ,λm rs r f' j t H8 rm aO b8=>?_⟩;refine⟨_,Z,_,Z,p,m,rs,r,f',j,t,Z,b8.bJ,rm,aO,λf6 pl H9 rp iV b9=>?_⟩;have E8:H p=none:=by cases e:H p with |none=>rfl |some o=>exact absurd (s2 _ _ e) (by rw[np];exact λz=>nomatch z)
   have JW:az H H9:=bG.Te (s2.trans s3) E8 (b4.trans (b5.trans (b6.trans (b7.trans (b8.trans b9)))));have Ck:RD K H9 m (bX.D ⟨rs,r,f',j,t⟩):=RD.v (bG.t b8.bJ b9).v _ (iY _ _ _ _ _) rm;generalize hM:(⟨rs,r,f',j,t⟩:bX)=M at Ck;have jF:M.Ok:=by rw[<-hM];exact aO
   have qZ:fE M.rs pl:=by rw[<-hM];exact iV
   refine⟨_,Z,_,Z,λx dx hx hdx ne=>?_⟩;have tZ:az H9 (_L.upd (_L.upd H9 dx (.own x)) x (.ins D dx [])):=(az.new hdx).trans (az.new (by rw[bh ne.symm];exact hx));refine⟨x,dx,m,f6,M,pl,Z,bU,RD.mono tZ _ Ck,RD.mono tZ _ rp,jF,qZ,λr' q fF dk R nr nq bt=>⟨Z,?_⟩⟩;have u6:az H9 fF:=λb o eb=>bt b o (tZ b o eb) λz=>by rw[cS.mp z,hx]at eb;cases eb
   have Df:H9 r'=none:=by cases e:H9 r' with |none=>rfl |some o=>rw[tZ _ _ e]at nr;cases nr
   have Lp:H9 q=none:=by cases e:H9 q with |none=>rfl |some o=>rw[tZ _ _ e]at nq;cases nq
   have nH:∀{b:Addr},H9 b=none->H b=none:=λ{b} h=>by cases e:H b with |none=>rfl |some o=>rw[JW _ _ e]at h;cases h
   have pq:p≠q:=λz=>b9.bJ.ne (by rw[z];exact Lp);have Nr:FD K C D M p x r' m fF q (ij pl):=⟨(bG.eV b9.bJ u6).bJ,dk,R,RD.mono u6 _ Ck,pq⟩;have Xb:dm M 64 (ij pl):=TX qZ.len;refine⟨_,Z,_,Z,_,Z,_,Z,_,Z,p,x,m,f6,many,r',q,M,64,ij pl,Z,Nr,Xb,jF,RD.mono u6 _ rp,qZ,Z,Z,Z,LP.1,LP.2,λwl ys ds os gv F8 xR NG a07 Nc=>?_⟩;have Tj:az H gv:=xw (JW.trans u6) Nc λb hb=>by
    simp only[bS,eS,jR]at hb;rcases hb with rfl|rfl|rfl
    ·exact E8
    ·exact nH Df
    ·exact nH Lp
   have TU:RD K gv f6 (cM pl):=RD.v (Nr.v Nc) _ (iz _) (RD.mono u6 _ rp);refine⟨_,Z,Z,_,Z,?_⟩;rw[dM (λz=>nomatch z)];refine aZ ?_;obtain⟨O1,XW,ea1,_⟩:=F8.dk;refine⟨_,Z,x,O1,_,Z,ea1,Z,x,r',O1,XW,Z,ea1,λsS E' gh=>?_⟩;have F7:=F8.same xR.row.no gh;refine⟨r',q,M,64,_,Z,F7.ra,xR,jF,Z,λsR R13 oh=>⟨Z,_,Z,?_⟩⟩;rw[bR rfl];refine aZ ?_;have Nq:=F7.one R13 oh;have D6:=xR.hold jF ay;have a1T:Halt (gT M (dC (ij pl) ds os)).pc (gT M (dC (ij pl) ds os)).ek:=⟨(λz=>nomatch z),rfl⟩;obtain⟨O0,XU,zd,_⟩:=Nq.dk;refine⟨_,Z,x,O0,_,Z,zd,Z,x,r',O0,XU,Z,zd,λvQ E' jk=>?_⟩;have F3:=Nq.same D6.row.no jk;refine⟨r',q,M,_,_,Z,F3.ra,D6,jF,a1T,λq' H15 R15 rk zv=>?_⟩;have Np:=F3.drop R15 rk zv;have uz:=D6.drop;have GO:wl∉[r']:=λz=>by obtain⟨rx,Dt,bv,cQ,tv,er,_⟩:=F8.ra.ob;rw[<-cS.mp z,NG]at er;cases er
   have a48:H15 wl=some (.lst ys):=zv _ _ (jk _ _ (oh _ _ (gh _ _ NG) GO)) GO;have ll:=xR.len;have ll':ds.length<=20:=ll;refine⟨_,Z,wl,ys,Z,.inl (aG.of a48),.inl ⟨_,Z,kx (show Nm _ by show Int.natAbs _<10^40;lia),Z,_,Z,?_⟩⟩;rw[show(!decide (V.str (numS (((gT M (dC (ij pl) ds os)).ds.length:Nat):Int))=V.str (Str.ofString (toString (ys.length:Int)))))=false by rw[a07,bR (show V.str (numS (((gT M (dC (ij pl) ds os)).ds.length:Nat):Int))=V.str (Str.ofString (toString (ds.length:Int)))from Z)];rfl];refine aZ ?_;obtain⟨NZ,XT,zc,_⟩:=Np.dk;refine⟨_,Z,x,NZ,_,Z,zc,Z,x,r',NZ,XT,Z,zc,λH16 E' Cb=>?_⟩;have Nl:=Np.same uz.row.no Cb;refine⟨r',q',M,_,_,Z,Nl.ra,uz,jF,(λd hd=>nomatch hd),λPt Ca=>⟨rfl,_,rfl,?_⟩⟩;rw[show(!decide (V.str (kq (Txt.join (Str.ofString "\n") ((o8 (gT M (dC (ij pl) ds os))).ds.map cY)))=V.str (Str.ofString "none")))=false by
    have e0:kq (Txt.join (Str.ofString "\n") ([]:List Str))=Str.ofString "none":=by decide+kernel
    have e1:V.str (kq (Txt.join (Str.ofString "\n") ((o8 (gT M (dC (ij pl) ds os))).ds.map cY)))=V.str (Str.ofString "none"):=jT V.str e0;rw[bR e1];rfl];refine aZ ?_;have F1:=Nl.same uz.row.no Ca;generalize vi:o8 (gT M (dC (ij pl) ds os))=S3 at F1 uz;have NV:S3.pl=pl:=by rw[<-vi];rfl
   have e3d:S3.dn=0:=by rw[<-vi];rfl
   have e3s:S3.ds=[]:=by rw[<-vi];rfl
   have NW:S3.os=[]:=by rw[<-vi];rfl
   have e3r:S3.rate=100:=by rw[<-vi];rfl
   have NX:cn S3=pl:=by unfold cn;rw[NW,NV];rfl
   have vr:∀{Ha Hb:Hp}{q0:Addr}{S0:bZ},FD K C D M p x r' m Ha q0 S0->cB [r'] Ha Hb->RD K Ha f6 (cM pl)->RD K Hb f6 (cM pl):=λfd b rd=>RD.v (fd.v1 b) _ (iz _) rd;have K9:RD K Pt f6 (cM pl):=RD.mono Ca _ (RD.mono Cb _ (vr F3 zv (RD.mono jk _ (vr F7 oh (RD.mono gh _ TU)))));have My:∀b∈[r'],H b=none:=λb hb=>by rw[cS.mp hb];exact nH Df
   have JX:az H vQ:=(xw (Tj.trans gh) oh My).trans jk;have Ti:az H Pt:=((xw JX zv My).trans Cb).trans Ca;have Dg:H q'=none:=by cases e:H q' with |none=>rfl |some o=>rw[JX _ _ e]at rk;cases rk
   refine⟨_,Z,_,Z,_,Z,_,Z,p,x,m,f6,3,r',q',M,_,S3,Z,F1,uz,jF,by rw[NX];exact K9,by rw[NX];exact qZ,e3s,NW,e3r,ay,ay,λwl2 GK O5 CV Pr Nk Le a9i a94 Nb=>?_⟩;refine⟨Z,_,Z,?_⟩;rw[dM (λz=>nomatch z)];refine aZ ?_;have TR:RD K Pr f6 (cM pl):=RD.v (F1.v Nb) _ (iz _) K9;have Th:az H Pr:=xw Ti Nb λb hb=>by
    simp only[bS,eS,jR]at hb;rcases hb with rfl|rfl|rfl
    ·exact E8
    ·exact nH Df
    ·exact Dg
   have nb:=qY qZ jF.rl;have nm:∀n∈pl,Nm n:=λn hn=>by have:=nb n hn;show n.natAbs<10^40;lia
   have NO:iy (dC S3 O5 CV)=pl:=by unfold iy;rw[aR (show(dC S3 O5 CV).dn=0 from e3d)];exact NV
   obtain⟨NY,XS,zb,_⟩:=Nk.dk;refine⟨_,Z,x,NY,_,Z,zb,Z,x,r',NY,XS,Z,zb,λH19 E' K0=>?_⟩;refine⟨r',q',M,_,_,Z,Nk.ra.same Le.row.no K0,Le,jF,by rw[NO];exact nm,λH20 Tn=>?_⟩;rw[NO];have K1:=K0.trans Tn;obtain⟨pa,pxs,rfl,uS,E5⟩:=(RD.mono K1 _ TR).cg;rw[E5.eO]at uS;have lr:=jF.len;have LQ:=qZ.len;refine⟨Z,?_⟩;refine⟨_,Z,pa,Z,⟨_,uS⟩,λD2 H21 XQ=>?_⟩;refine o9 (K:=K) (ds:=(pl.map numS).map PyData.str) _ uS XQ (by simp) (by simp;lia) (nL _) ?_ ?_
   ·intro i x d H22 Q' ex ed JZ hq
    rw[bK]at ex;obtain⟨n,en,rfl⟩:=wu.mp ex;rw[bK,bK,en]at ed;cases ed;have hn:=nm n (fg en);exact⟨_,Z,.inl ⟨n,Z,kx hn,hq _ _ (az.refl _) (bO _)⟩⟩
   intro H22 ws JZ Oh Ux;rw[jX Ux]at Oh;refine⟨" ",D2,pl.map numS,Z,Z,aG.of Oh,λz hz=>?_,aI,by rw[bA];lia,Z,_,Z,?_⟩
   ·obtain⟨n,hn,rfl⟩:=cH.mp hz
    have:=fu (nm n hn)
    lia
   rw[show(!decide (V.str (jG pl)=V.str (Txt.join (Str.ofString " ") (pl.map numS))))=false by rw[bR (show V.str (jG pl)=V.str (Txt.join (Str.ofString " ") (pl.map numS))from Z)];rfl];exact aZ ⟨Th.trans (K1.trans JZ),_,_,_,_,_,_,_,Z⟩
  ·rintro O H2 ⟨_,v1,v2,v3,v4,v5,v6,v7,rfl⟩
   exact k H2
end
end _c
set_option maxHeartbeats 1000000
namespace _c
open PySem PySem.Spec PyProof.Rows _L
theorem Rl{K:aa}{C:Addr}{f:Str}(h:PySem.W.findIn K (.ref C) f=some none):PySem.W.takerIn K C f=some none:=by unfold PySem.W.takerIn;rw[h];rfl
theorem kH{K:aa}{mg:bf}{h:Heap}{x:Str}{c:Addr}(X:K.In h)(G:h.Ns mainGlobals mg)(a:PySem.W.nsIn K mainGlobals x=some (some (.ref c))):GV mg x (.ref c):=⟨_,oA X G a,Z⟩
theorem sr{K:aa}{mg:bf}{h:Heap}{x:Str}{c:Addr}{bm:List Value}{nw:String}(X:K.In h)(G:h.Ns mainGlobals mg)(a:PySem.W.nsIn K mainGlobals x=some (some (.ref c)))(q:PySem.W.excIn K c bm nw=true):Exc K mg x c bm nw:=⟨oA X G a,q⟩
theorem a4J{K:aa}{mg:bf}{h:Heap}{cG c0 c1 c2 c3 c4 c5 c6 c7 c8 c9 c10 i:Addr}(X:K.In h)(G:h.Ns mainGlobals mg)(ag:PySem.W.nsIn K mainGlobals "GlideError"=some (some (.ref cG)))(qg:PySem.W.excIn K cG gF gO=true) (h0:PySem.W.nsIn K mainGlobals "NoFraction"=some (some (.ref c0)))(h1:PySem.W.nsIn K mainGlobals "NoRate"=some (some (.ref c1)))(h2:PySem.W.nsIn K mainGlobals "NoItem"=some (some (.ref c2)))(h3:PySem.W.nsIn K mainGlobals "OffRails"=some (some (.ref c3)))(h4:PySem.W.nsIn K mainGlobals "Full"=some (some (.ref c4)))(h5:PySem.W.nsIn K mainGlobals "Moving"=some (some (.ref c5)))(h6:PySem.W.nsIn K mainGlobals "NoTape"=some (some (.ref c6)))(h7:PySem.W.nsIn K mainGlobals "NoText"=some (some (.ref c7)))(h8:PySem.W.nsIn K mainGlobals "NoMachine"=some (some (.ref c8)))(h9:PySem.W.nsIn K mainGlobals "NoPlace"=some (some (.ref c9)))(h10:PySem.W.nsIn K mainGlobals "NoLine"=some (some (.ref c10)))(v:PySem.W.nsIn K mainGlobals "ValueError"=some none) (q2:PySem.W.excIn K c2 gF gO=true)(q4:PySem.W.excIn K c4 gF gO=true)(q5:PySem.W.excIn K c5 gF gO=true)(q1:PySem.W.excIn K c1 gF gO=true)(q10:PySem.W.excIn K c10 gF gO=true)(o:Pj K mg c3 i)(at3:PySem.W.findIn K (.ref c3) "at"=some none) (kat:takes K c2 cG)(Z1:jd K c2)(kai0:PySem.W.kitOne K (.ref c2) (.ref c0)=some false)(kai1:PySem.W.kitOne K (.ref c2) (.ref c1)=some false)(kai2:PySem.W.kitOne K (.ref c2) (.ref c2)=some true)(kai3:PySem.W.kitOne K (.ref c2) (.ref c3)=some false)(kai4:PySem.W.kitOne K (.ref c2) (.ref c4)=some false)(kai5:PySem.W.kitOne K (.ref c2) (.ref c5)=some false)(kai6:PySem.W.kitOne K (.ref c2) (.ref c6)=some false)(kai7:PySem.W.kitOne K (.ref c2) (.ref c7)=some false)(kai8:PySem.W.kitOne K (.ref c2) (.ref c8)=some false)(kai9:PySem.W.kitOne K (.ref c2) (.ref c9)=some false)(kai10:PySem.W.kitOne K (.ref c2) (.ref c10)=some false)(kav:PySem.W.kitOne K (.ref c2) (.type "ValueError")=some true) (kbt:takes K c3 cG)(Z0:jd K c3)(kbi0:PySem.W.kitOne K (.ref c3) (.ref c0)=some false)(kbi1:PySem.W.kitOne K (.ref c3) (.ref c1)=some false)(kbi2:PySem.W.kitOne K (.ref c3) (.ref c2)=some false)(kbi3:PySem.W.kitOne K (.ref c3) (.ref c3)=some true)(kbi4:PySem.W.kitOne K (.ref c3) (.ref c4)=some false)(kbi5:PySem.W.kitOne K (.ref c3) (.ref c5)=some false)(kbi6:PySem.W.kitOne K (.ref c3) (.ref c6)=some false)(kbi7:PySem.W.kitOne K (.ref c3) (.ref c7)=some false)(kbi8:PySem.W.kitOne K (.ref c3) (.ref c8)=some false)(kbi9:PySem.W.kitOne K (.ref c3) (.ref c9)=some false)(kbi10:PySem.W.kitOne K (.ref c3) (.ref c10)=some false)(kbv:PySem.W.kitOne K (.ref c3) (.type "ValueError")=some true) (kct:takes K c4 cG)(YZ:jd K c4)(kci0:PySem.W.kitOne K (.ref c4) (.ref c0)=some false)(kci1:PySem.W.kitOne K (.ref c4) (.ref c1)=some false)(kci2:PySem.W.kitOne K (.ref c4) (.ref c2)=some false)(kci3:PySem.W.kitOne K (.ref c4) (.ref c3)=some false)(kci4:PySem.W.kitOne K (.ref c4) (.ref c4)=some true)(kci5:PySem.W.kitOne K (.ref c4) (.ref c5)=some false)(kci6:PySem.W.kitOne K (.ref c4) (.ref c6)=some false)(kci7:PySem.W.kitOne K (.ref c4) (.ref c7)=some false)(kci8:PySem.W.kitOne K (.ref c4) (.ref c8)=some false)(kci9:PySem.W.kitOne K (.ref c4) (.ref c9)=some false)(kci10:PySem.W.kitOne K (.ref c4) (.ref c10)=some false)(kcv:PySem.W.kitOne K (.ref c4) (.type "ValueError")=some true) :∃X i,FV K mg X/\zF K mg (refOf X i)/\Exc K mg "NoLine" X.c10 gF gO:=⟨⟨cG,c0,c1,c2,c3,c4,c5,c6,c7,c8,c9,c10⟩,i,⟨sr X G ag qg,⟨kH X G h0,kH X G h1,kH X G h2,kH X G h3,kH X G h4,kH X G h5,kH X G h6,kH X G h7,kH X G h8,kH X G h9,kH X G h10,PySem.W.mg_none_of X G v⟩,⟨kat,Z1,kai0,kai1,kai2,kai3,kai4,kai5,kai6,kai7,kai8,kai9,kai10,kav⟩,⟨kbt,Z0,kbi0,kbi1,kbi2,kbi3,kbi4,kbi5,kbi6,kbi7,kbi8,kbi9,kbi10,kbv⟩,⟨kct,YZ,kci0,kci1,kci2,kci3,kci4,kci5,kci6,kci7,kci8,kci9,kci10,kcv⟩,at3⟩,⟨sr X G h2 q2,o,sr X G h4 q4,sr X G h5 q5,sr X G h1 q1⟩,sr X G h10 q10⟩
theorem vF{K:aa}{mg:bf}{h:Heap}{a:Addr}{v:Value}{fn z:Str}(X:K.In h)(G:h.Ns mainGlobals mg)(e1:PySem.W.nsIn K mainGlobals fn=some (some v))(e2:PySem.W.nsIn K a z=some (some v)):PySem.W.nsIn K a z=some (mg fn):=by rw[e2,oA X G e1]
theorem Nz{K:aa}{a:Addr}{v:Value}{fn z:Str}(e1:PySem.W.nsIn K mainGlobals fn=some (some v))(e2:PySem.W.nsIn K a z=some (some v)):∃v,PySem.W.nsIn K a z=some (some v):=⟨v,e2⟩
structure Pw(K:aa)(mg:bf)(C D:Addr):Prop where
 tc:fD K C
 init:CA K mg C "Runner" "Runner.__init__" B5
 Yk:MA K C "place" "Runner.place" B3
 Yl:MA K C "leads_to" "Runner.leads_to" B4
 Yj:MA K C "rate" "Runner.rate" B0
 Yg:MA K C "waiting" "Runner.waiting" AX
 Ym:MA K C "is_held" "Runner.is_held" B8
 Yi:MA K C "stands" "Runner.stands" AZ
 Yn:MA K C "is_halted" "Runner.is_halted" B7
 Yp:MA K C "feed" "Runner.feed" B9
 Yh:MA K C "stops_in" "Runner.stops_in" AY
 Yo:MA K C "hold" "Runner.hold" B6
 Yq:MA K C "drop" "Runner.drop" Ba
 td:mZ K D
 a4x:CA K mg D "Desk" "Desk.__init__" BR
 say:MA K D "say" "Desk.say" xx
 Tb:MA K D "say_to" "Desk.say_to" AN
structure All(w:World)(K:aa)(mg:bf):Prop where
 B:bu mg
 yM:GT K mg "NOUGHT" [.int 0,.int 1]
 a2k:GT K mg "SIDES" [.str "up",.str "down"]
 a2A:GT K mg "AXES" [.int 2,.int 3]
 a2m:GV mg "PART" (.int 10000000000000000000000000000000000000000000000000000000000000000)
 a2l:GV mg "PART_FIGURES" (.int 64)
 a2s:GV mg "LONGEST_RAIL" (.int 100)
 a2x:GV mg "GREATEST_CHANGE" (.int 50)
 a2p:GV mg "MOST_TICKS" (.int 100)
 a2q:GV mg "MOST_STEPS" (.int 100)
 MZ:GV mg "GREATEST_SPEED" (.int 20)
 a2r:GV mg "LONGEST_WAIT" (.int 1000)
 a2t:GV mg "LONGEST_NAME" (.int 8)
 a2v:GV mg "LEAST_RATE" (.int 10)
 a2w:GV mg "GREATEST_RATE" (.int 200)
 a2y:GV mg "FIRST_RATE" (.int 100)
 a2o:GV mg "MOST_WAITING" (.int 20)
 a2u:GV mg "LETTERS" (.str gZ)
 a2z:GV mg "FIGURES" (.str sj)
 a2n:GV mg "NOTHING" (.str "none")
 ans:∃a,GD w K mg "ANSWERS" a/\PySem.W.nsIn K a "hold"=some (mg "answer_hold")/\PySem.W.nsIn K a "drop"=some (mg "answer_drop")/\PySem.W.nsIn K a "place"=some (mg "answer_place")/\PySem.W.nsIn K a "waits"=some (mg "answer_waits")/\PySem.W.nsIn K a "plan"=some (mg "answer_plan")/\zH K a
 cls:∃X i,FV K mg X/\zF K mg (refOf X i)/\Exc K mg "NoLine" X.c10 gF gO
 dk:∃C D,Pw K mg C D
 law:FA K mg "law" tY
 a3q:FA K mg "is_whole" BG
 a3p:FA K mg "is_whole_within" AG
 a3v:FA K mg "is_machine" BK
 a3t:FA K mg "is_place" BI
 a3E:FA K mg "are_rails" C1
 a3x:FA K mg "is_item" BL
 Nv:FA K mg "is_line" BF
 a3c:FA K mg "place_behind" BW
 a3h:FA K mg "moved" Bm
 a3D:FA K mg "are_steps" C0
 a3r:FA K mg "is_short_item" BH
 a3u:FA K mg "is_name" BJ
 a3z:FA K mg "fraction" BN
 a3a:FA K mg "plus_whole" Bf
 a3i:FA K mg "minus" Bo
 a3w:FA K mg "is_less" Br
 a3k:FA K mg "least" Bs
 a3j:FA K mg "lowest_terms" Bw
 a3B:FA K mg "common_divisor" BU
 a3l:FA K mg "lead_of" Bu
 a31:FA K mg "ways_of" AF
 a33:FA K mg "stand_at" AM
 a3g:FA K mg "nearest" Bj
 a3A:FA K mg "corner_square" BS
 a32:FA K mg "top_square" AI
 a3s:FA K mg "is_rate" BE
 a3y:FA K mg "greatest_turn" AH
 a3d:FA K mg "own_bounds" Bg
 a3C:FA K mg "bound_between" BV
 a3b:FA K mg "plan_of" Bc
 a3m:FA K mg "kept_by_rise" AW
 a3n:FA K mg "kept_by_fall" BP
 a39:FA K mg "show_fraction" AU
 a36:FA K mg "show_number" AQ
 a35:FA K mg "show_numbers" AO
 a38:FA K mg "show_item" AR
 a37:FA K mg "show_items" AS
 a3o:FA K mg "item_in" BD
 a3e:FA K mg "numbers_in" Bi
 a34:FA K mg "size_of" AL
 a3f:FA K mg "number_in" Bl
 a3I:FA K mg "answer_hold" C5
 a3J:FA K mg "answer_drop" C6
 a3H:FA K mg "answer_place" C4
 a3F:FA K mg "answer_waits" BZ
 a3G:FA K mg "answer_plan" C3
 a42:FA K mg "_law_bag" BX
 a3L:FA K mg "_law_take" AK
 a3T:FA K mg "_law_machine" Bq
 a3O:FA K mg "_law_place" Be
 a3Q:FA K mg "_law_name" Bk
 a3X:FA K mg "_law_item" BC
 a3W:FA K mg "_law_item_text" Bx
 a3Y:FA K mg "_law_fraction_text" Bz
 a41:FA K mg "_law_class" kU
 a3K:FA K mg "_law_told" AJ
 a3Z:FA K mg "_law_frac" BM
 a3S:FA K mg "_law_min" Bp
 a3R:FA K mg "_law_more" Bn
 a3V:FA K mg "_law_lead" Bt
 a3P:FA K mg "_law_own_bound" Bh
 a3N:FA K mg "_law_plan" Bb
 a3U:FA K mg "_law_leads" Bv
 a3M:FA K mg "_law_row" AV
 a40:FA K mg "_law_due" BQ
 a43:FA K mg "_law_all_fed" BO
theorem a5w{P:af}{w:World}{K:aa}{mg:bf}{ao:Heap}{f:Addr}{fd:FuncData}(A:All w K mg)(F:iI K "law" "law" tY f fd):f9 P w K mg ao g9 13 f fd ["_law_script"] (Ib K):=by obtain⟨gA,GA,hGh,hGd,hGp,hGw,hGl,NA⟩:=A.ans;obtain⟨X,i,EX,RX,EL⟩:=A.cls;obtain⟨C,D,R⟩:=A.dk;have TC:=R.tc;have tk:aD P w K mg ao "_law_take" 1 ny:=VM A.a3L A.B;have cd:aD P w K mg ao "common_divisor" 1 Ay:=WY A.a3B A.B;have lt:aD P w K mg ao "lowest_terms" 2 xl:=Wu A.a3j A.B cd;have iw:aD P w K mg ao "is_whole" 1 (xp K):=WD A.a3q A.B;have ww:aD P w K mg ao "is_whole_within" 2 (kT K):=VG A.a3p A.B iw;have fn:aD P w K mg ao "fraction" 3 (tO K):=WR A.a3z A.B iw lt;have ld:aD P w K mg ao "lead_of" 1 (m7 K):=WA A.a3l A.B;have ls:aD P w K mg ao "is_less" 1 (xn K):=Wx A.a3w A.B;have cp:aD P w K mg ao "corner_square" 6 (Az K):=WW A.a3A A.B (VI A.a3y A.B (VH A.a31 A.B ld fn) (Wq A.a3i A.B lt) ls) fn;have Zb:aD P w K mg ao "is_rate" 3 (An K):=WH A.a3s A.B A.a2v A.a2w ww;have tp:aD P w K mg ao "top_square" 4 (Al K):=VJ A.a32 A.B Zb fn;have yh:aD P w K mg ao "is_line" 1 (qK K):=WI A.Nv A.B;have lst:aD P w K mg ao "least" 2 (tP K):=Wy A.a3k A.B ls;have bet:aD P w K mg ao "bound_between" 7 (AA K):=WZ A.a3C A.B A.yM yh tp cp lst;have own:aD P w K mg ao "own_bounds" 8 (As K):=Wg A.a3d A.B A.yM bet;have pw:aD P w K mg ao "plus_whole" 4 (xh K):=Wb A.a3a A.B;have pl:aD P w K mg ao "plan_of" 9 (Ap K):=We A.a3b A.B own (W4 A.a3m A.B yh ld pw lst) (WT A.a3n A.B yh ld pw lst);have nr:aD P w K mg ao "nearest" 1 Av:=Wl A.a3g A.B;have Sn:aD P w K mg ao "stand_at" 2 (Am K):=VP A.a33 A.B ld nr;have Md:aD P w K mg ao "is_item" 4 (xo K):=WO A.a3x A.B A.MZ ww (X3 A.a3D A.B A.a2q ww) (WK A.a3r A.B A.a2r A.a2k ww (WM A.a3u A.B A.a2t A.a2u));have DQ:aD P w K mg ao "is_place" 3 (tR K):=WL A.a3t A.B ww;have im:aD P w K mg ao "is_machine" 4 (tS jJ K):=WN A.a3v A.B A.a2p A.a2x ww (X4 A.a3E A.B A.a2A A.a2s ww);have LI:aD P w K mg ao "moved" 1 (xk K):=Wn A.a3h A.B;have ON:aD P w K mg ao "place_behind" 2 (oU K):=X0 A.a3c A.B yh LI;have Kc:=W8 (P:=P) (w:=w) (mg:=mg) (ao:=ao) R.Ym TC;have TM:=VY (P:=P) (w:=w) (ao:=ao) R.Yi TC A.yM;have U2:=W7 R.Yn TC Kc TM;have Ka:=W3 R.Yl TC ON;have TL:=VX (P:=P) (w:=w) (mg:=mg) (ao:=ao) R.Yh TC;have U1:=W6 R.Yo TC TL Kc;have K8:=W0 R.Yk TC LI Sn;have U8:=Wa R.Yq TC A.B U2 K8;have K4:=VW (P:=P) (w:=w) (ao:=ao) R.Yg TC A.B;have TN:=VZ (P:=P) (w:=w) (mg:=mg) (ao:=ao) R.Yj TC;have Ke:=W9 R.Yp TC A.B RX A.a2o Md DQ ON Ka;have Ly:aD P w K mg ao "number_in" 2 xj:=Wj A.a3f A.B A.a2z (VN A.a34 A.B);have Lm:aD P w K mg ao "numbers_in" 3 (xi K):=Wi A.a3e A.B Ly;have Z7:aD P w K mg ao "item_in" 5 (Ax K):=WE A.a3o A.B Ly Lm Md;have oY:aD P w K mg ao "show_number" 1 m6:=VR A.a36 A.B A.a2m A.a2l;have Iu:=VQ (P:=P) (w:=w) (ao:=ao) A.a35 A.B oY;have SK:=VT (P:=P) (w:=w) (ao:=ao) A.a37 A.B (VS A.a38 A.B (WJ A.Nv A.B) Iu oY);have SO:=VU (P:=P) (w:=w) (ao:=ao) A.a39 A.B oY;have lit:=Wv (P:=P) (w:=w) (ao:=ao) A.a3W A.B;have a5q:=uy R.say A.B R.td GA (z:="hold") aI aI hGh (X7 A.a3I A.B oY TC U1);have a5r:=uy R.say A.B R.td GA (z:="drop") aI aI hGd (X8 A.a3J A.B oY TC U8);have a5o:=uy R.say A.B R.td GA (z:="place") aI aI hGp (X6 A.a3H TC Iu K8);have OZ:=uy R.say A.B R.td GA (z:="waits") aI aI hGw (X2 A.a3F TC A.a2n SK K4);have a5p:=uy R.say A.B R.td GA (z:="plan") aI aI hGl (X5 A.a3G A.B TC pl SO K4 TN);have Sm:=VO R.Tb R.td TC A.B oY A.MZ EL Lm DQ ww Ka Ke;have Td:=VV R.say R.td TC A.B oY GA NA EL Z7 Sm Ke;have told:=VL A.a3K A.B R.td EX RX Td (WX A.a41 A.B EX.n);have M5:=WB (P:=P) (w:=w) (ao:=ao) A.a3U A.B;have Kv:=Wf A.a3O A.B tk;have row:=W2 A.a3M A.B tk (WG A.a3X A.B tk (Wm A.a3Q A.B tk)) lit Kv;have mn:=Ws (P:=P) (w:=w) (ao:=ao) A.a3S A.B;have lx:=Wz (P:=P) (w:=w) (ao:=ao) A.a3V A.B;have LQ:=Wc A.a3N A.B (Wh A.a3P A.B lx mn (WQ A.a3Z A.B)) (Wo A.a3R A.B) lx mn;have sk:=WS A.a43 A.B R.td row (WU A.a40 A.B M5) told M5 LQ (Ww A.a3Y A.B) lit a5p OZ;exact WC F A.B R.td (X1 A.a42 A.B) tk (Wt A.a3T A.B tk) Kv (WV R.a4x R.td im DQ (W5 R.init TC A.yM A.a2y)) sk a5q a5r OZ a5o
end _c
end
set_option maxHeartbeats 1000000
set_option exponentiation.threshold 6000
def PySem.W.Fast.tw18202652765771256201:PySem.Program:=PySem.Challenge.pw_glidequeue_k55_fed_at_a_desk
theorem PySem.W.Fast.te18202652765771256201:PySem.Challenge.pw_glidequeue_k55_fed_at_a_desk=PySem.W.Fast.tw18202652765771256201:=rfl
local macro_rules|`(command|universe $x:ident)=>return Lean.mkNullNode (<-((x.getId.toString.splitOn "_").drop 1).toArray.mapM fun i=>`(command|theorem $(Lean.mkIdent (`_root_.PySem.W.Fast++Lean.Name.mkSimple s!"tw{(`PySem.Challenge.cw_glidequeue_k55_fed_at_a_desk_holds++Lean.Name.mkSimple ((match i.front with|'h'=>"heap"|'t'=>"tree"|'v'=>"view"|'s'=>"sts"|'e'=>"env"|_=>"o")++"_"++(i.drop 1).toString)).hash}")):ident:True:=True.intro))
universe t_h39_t962_t904_t906_v39_t753_t497_t488_t1045_t411_h1088_t340_t274_o1046_o963_s498_t234_t827_s1046_o909_o905_o828_s963_t219_o757_s412_t204_s757_o498_t182_o489_s909_o412_s275_t667_t160_o341_s341_t145_s235_o275_t130_o1085_o1082_o1080_s828_o1087_o1072_o1015_o1070_o996_o936_o1017_o618_o1057_t108_o611_o616_o609_o931_o1062_o929_o934_o998_o235_o1055_o939_o983_t93_o772_o662_o1077_o267_o402_o590_o502_o588_o269_o404_o1075_o474_o287_o810_o941_o220_o472_o770_o451_o289_o808_s905_o1060_o467_o978_o981_o441_o465_o274_o801_o682_o313_o439_o820_o311_o272_o881_o680_o818_o453_o399_o205_o1024_o791_o883_o1022_o183_t78_o803_o446_o924_o971_o922_o789_o444_o161_o281_o969_o604_o948_o354_o279_o1003_o349_o602_o653_o597_o384_o131_o325_o1067_o1001_o660_o651_o331_o595_o320_o993_o323_o109_o991_o946_o356_o318_o397_o1065_o420_o94_o671_o658_o418_o481_o460_o950_o394_o308_o1050_o333_o377_o988_o79_o306_o689_o392_o363_o427_o347_o632_o64_o639_o1052_o696_o986_o425_o904_o1031_o518_o614_o796_o976_o488_o777_o389_o479_o49_o368_s489_o902_o765_o630_o458_o486_o303_o637_o784_o625_o794_o775_o694_o340_t63_o382_o361_o497_o897_o1029_o411_o763_s161_o782_o906_o623_o261_o387_t1087_o495_o646_o815_o913_o827_o876_o370_o607_o263_o256_o1036_o148_o878_o375_o338_o177_o813_o409_o254_o146_o752_o301_o268_o175_o825_o1010_o731_o661_o644_o962_s109_o871_o576_o434_o850_o432_o1008_o437_o581_o188_o296_o864_o768_o743_o75_o703_o843_o91_o541_o180_o202_o806_o199_o960_o729_o848_o836_o125_o569_s183_o128_o463_o285_o890_o166_o967_o114_o548_o1045_o555_o895_o76_o106_o158_o217_o143_o247_o232_o197_o736_o862_o855_o869_o841_o834_o857_o352_o179_o53_o477_o99_o1038_o123_o136_o210_o201_o127_o151_o416_o927_o359_o470_o484_o449_o59_o225_o84_o69_o240_o947_o1043_o345_o708_o546_o246_o532_o553_o702_o133_o96_o547_o90_o66_o222_o237_o60_o603_o974_o81_o835_o185_o163_o111_o207_o231_o105_o142_o216_o849_o596_o787_o799_o1061_o1027_o776_o888_o526_o294_o645_o951_o582_o638_o362_o889_o336_o380_o882_o213_o663_o1051_h46_o1016_o456_o124_o624_o1086_o628_o1002_o723_o589_o780_o863_o930_o795_o593_s49_o920_o944_o617_o198_o631_o709_o688_o681_o940_o568_o659_o652_o923_o575_o561_o176_o935_o610_o480_o398_o376_o118_o72_o403_o243_o1020_o102_o45_o509_o419_o407_t47_o373_o173_o493_o366_o823_o259_o692_o761_o1013_o423_o600_o664_o1076_o674_o1056_o273_o452_o355_o856_o312_o1023_o87_o383_o255_o410_o809_o280_o339_o842_o819_o997_o348_o970_o459_o982_o987_o440_o487_o952_o393_o319_o1071_o169_o332_o1037_o1030_o802_o870_o228_o992_o790_o302_o307_o139_o324_o916_o117_o1081_o826_o154_o56_o191_o771_o426_o977_o783_o1066_o295_o388_o473_o369_o1044_o262_o466_o288_o961_o1009_o764_o433_o496_o903_o814_o877_o445_o896_o656_s64_o61_e41_o195_o282
open PySem PySem.W PyProof.Rows
set_option maxRecDepth 100000 in
set_option maxHeartbeats 0 in
theorem PySem.Challenge.cw_glidequeue_k55_fed_at_a_desk_holds : PySem.Challenge.rw_glidequeue_k55_fed_at_a_desk.Holds := by
 w_on; o_law; k_head; (case hw=>w_witness2)
 k_fill
 refine _L.YQ (l:=PySem.Challenge.rw_glidequeue_k55_fed_at_a_desk) (k:=13) (x:="_law_script") (st:=_c.tY) rfl rfl ⟨rfl,by decide,by decide⟩ (fun w h Y=>PySem.W.kIn_of Y) _c.All ?F (fun _ _ _ A=>A.law) (fun _ _ _ _ _ _ _=>rfl) (fun _ _ _ _ _ _ _ A F=>_c.a5w A F)
 case F=>
  intro w mg h KX G
  refine⟨_L.a5d KX G ?b,?t1,?t2,?t3,?gp0,?gp1,?gi0,?gi1,?gi2,?gi3,?gi4,?gi5,?gi6,?gi7,?gi8,?gi9,?gi10,?gs0,?gs1,?gs2,?an,?cl,?dk,?fl,?ff0,?ff1,?ff2,?ff3,?ff4,?ff5,?ff6,?ff7,?ff8,?ff9,?ff10,?ff11,?ff12,?ff13,?ff14,?ff15,?ff16,?ff17,?ff18,?ff19,?ff20,?ff21,?ff22,?ff23,?ff24,?ff25,?ff26,?ff27,?ff28,?ff29,?ff30,?ff31,?ff32,?ff33,?ff34,?ff35,?ff36,?ff37,?ff38,?ff39,?ff40,?ff41,?ff42,?ff43,?ff44,?ff45,?ff46,?ff47,?ff48,?ff49,?ff50,?ff51,?ff52,?ff53,?ff54,?ff55,?ff56,?ff57,?ff58,?ff59,?ff60,?ff61,?ff62,?ff63,?ff64,?fz0⟩
  case b=>(unfold _L.zq; repeat (refine _L.oo.cons ?z ?_; (case z=>k_is))); exact _L.oo.nil
  case t1=>refine' _L.ER KX G ?a ?l ?z ?r; (case a=>k_is); (case l=>k_is); (case z=>decide); (case r=>exact .cons ⟨_,rfl⟩ (.cons ⟨_,rfl⟩ .nil))
  case t2=>refine' _L.ER KX G ?a ?l ?z ?r; (case a=>k_is); (case l=>k_is); (case z=>decide); (case r=>exact .cons ⟨_,rfl⟩ (.cons ⟨_,rfl⟩ .nil))
  case t3=>refine' _L.ER KX G ?a ?l ?z ?r; (case a=>k_is); (case l=>k_is); (case z=>decide); (case r=>exact .cons ⟨_,rfl⟩ (.cons ⟨_,rfl⟩ .nil))
  case gp0=>(refine' _L.jw KX G ?z; (case z=>k_is))
  case gp1=>(refine' _L.jw KX G ?z; (case z=>k_is))
  case gi0=>(refine' _L.jw KX G ?z; (case z=>k_is))
  case gi1=>(refine' _L.jw KX G ?z; (case z=>k_is))
  case gi2=>(refine' _L.jw KX G ?z; (case z=>k_is))
  case gi3=>(refine' _L.jw KX G ?z; (case z=>k_is))
  case gi4=>(refine' _L.jw KX G ?z; (case z=>k_is))
  case gi5=>(refine' _L.jw KX G ?z; (case z=>k_is))
  case gi6=>(refine' _L.jw KX G ?z; (case z=>k_is))
  case gi7=>(refine' _L.jw KX G ?z; (case z=>k_is))
  case gi8=>(refine' _L.jw KX G ?z; (case z=>k_is))
  case gi9=>(refine' _L.jw KX G ?z; (case z=>k_is))
  case gi10=>(refine' _L.jw KX G ?z; (case z=>k_is))
  case gs0=>(refine' _L.EO KX G ?z; (case z=>k_is))
  case gs1=>(refine' _L.EO KX G ?z; (case z=>k_is))
  case gs2=>(refine' _L.EO KX G ?z; (case z=>k_is))
  case an=>
   refine' ⟨_,_L.a2h KX G ?ga ?gl ?gk ?go,_c.vF KX G ?e10 ?e20,_c.vF KX G ?e11 ?e21,_c.vF KX G ?e12 ?e22,_c.vF KX G ?e13 ?e23,_c.vF KX G ?e14 ?e24,⟨?na0,?na1,_c.Nz (fn:="answer_tool") ?ea0 ?eb0,_c.Nz (fn:="answer_mark") ?ea1 ?eb1,?na4⟩⟩
   case ga=>k_is
   case gl=>k_is
   case go=>decide
   case e10=>k_is
   case e20=>k_is
   case e11=>k_is
   case e21=>k_is
   case e12=>k_is
   case e22=>k_is
   case e13=>k_is
   case e23=>k_is
   case e14=>k_is
   case e24=>k_is
   case gk=>
    show KeysLit _ (_::_)
    repeat (first | exact trivial | refine And.intro ⟨_,_,rfl,rfl⟩ ?_)
   case ea0=>k_is
   case eb0=>k_is
   case ea1=>k_is
   case eb1=>k_is
   case na0 | na1 | na4=>k_is
  case cl=>
   refine' _c.a4J KX G ?ag ?qg ?h0 ?h1 ?h2 ?h3 ?h4 ?h5 ?h6 ?h7 ?h8 ?h9 ?h10 ?vv ?q2 ?q4 ?q5 ?q1 ?q10 ⟨_L.a4O KX G ?oa1 ?oq1,?oi1,⟨?ox1,?ox2,_c.Rl ?ox3,?ox4⟩,?off,_,_L.yO ?ol ?oc ?okk⟩ ?at3 ?kat ⟨?kak1,?kak2,?kak3,?kak4,?kak5,?kak6,?kak7,?kak8⟩ ?kai0 ?kai1 ?kai2 ?kai3 ?kai4 ?kai5 ?kai6 ?kai7 ?kai8 ?kai9 ?kai10 ?kav ?kbt ⟨?kbk1,?kbk2,?kbk3,?kbk4,?kbk5,?kbk6,?kbk7,?kbk8⟩ ?kbi0 ?kbi1 ?kbi2 ?kbi3 ?kbi4 ?kbi5 ?kbi6 ?kbi7 ?kbi8 ?kbi9 ?kbi10 ?kbv ?kct ⟨?kck1,?kck2,?kck3,?kck4,?kck5,?kck6,?kck7,?kck8⟩ ?kci0 ?kci1 ?kci2 ?kci3 ?kci4 ?kci5 ?kci6 ?kci7 ?kci8 ?kci9 ?kci10 ?kcv
   case ag | h0 | h1 | h2 | h3 | h4 | h5 | h6 | h7 | h8 | h9 | h10 | vv=>k_is
   case oa1=>k_is
   case oi1=>k_is
   case ox1=>k_is
   case ox3=>k_is
   case ox4=>k_is
   case ol=>k_is
   case oc=>k_is
   case okk=>k_is
   case at3=>k_is
   case qg | q2 | q4 | q5 | q1 | q10=>k_exc
   case oq1=>kernel_rfl
   case ox2=>kernel_rfl
   case off=>kernel_rfl
   case kat=>(show PySem.W.mroIn _ _ _=_; k_is)
   case kbt=>(show PySem.W.mroIn _ _ _=_; k_is)
   case kct=>(show PySem.W.mroIn _ _ _=_; k_is)
   case kak1 | kak2 | kak3 | kak4 | kak5 | kak6 | kak7 | kak8 | kbk1 | kbk2 | kbk3 | kbk4 | kbk5 | kbk6 | kbk7 | kbk8 | kck1 | kck2 | kck3 | kck4 | kck5 | kck6 | kck7 | kck8=>k_is
   case kai0 | kai1 | kai2 | kai3 | kai4 | kai5 | kai6 | kai7 | kai8 | kai9 | kai10 | kbi0 | kbi1 | kbi2 | kbi3 | kbi4 | kbi5 | kbi6 | kbi7 | kbi8 | kbi9 | kbi10 | kci0 | kci1 | kci2 | kci3 | kci4 | kci5 | kci6 | kci7 | kci8 | kci9 | kci10 | kav | kbv | kcv=>kit_is
  case dk=>
   refine' ⟨_,_,_c.Pw.mk (_c.fD.mk (_L.hU.mk ?pg ?hd ?po ?sa) ?n1 ?n2 ?n3 ?n4 ?n5 ?n6 ?n7 ?n8 ?n9) (_L.OH KX G ?aC ?mk ?kc ?ia ?iii ?il ?ic ?ik) (_L.jo ?a0 ?i0 ?l0 ?c0 ?k0) (_L.jo ?a1 ?i1 ?l1 ?c1 ?k1) (_L.jo ?a2 ?i2 ?l2 ?c2 ?k2) (_L.jo ?a3 ?i3 ?l3 ?c3 ?k3) (_L.jo ?a4 ?i4 ?l4 ?c4 ?k4) (_L.jo ?a5 ?i5 ?l5 ?c5 ?k5) (_L.jo ?a6 ?i6 ?l6 ?c6 ?k6) (_L.jo ?a7 ?i7 ?l7 ?c7 ?k7) (_L.jo ?a8 ?i8 ?l8 ?c8 ?k8) (_L.jo ?a9 ?i9 ?l9 ?c9 ?k9) (_L.jo ?a10 ?i10 ?l10 ?c10 ?k10) (_c.mZ.mk (_L.hU.mk ?dpg ?dhd ?dpo ?dsa) ?d1 ?d2) (_L.OH KX G ?daC ?dmk ?dkc ?dia ?dii ?dil ?dic ?dik) (_L.jo ?sa0 ?si0 ?sl0 ?sc0 ?sk0) (_L.jo ?sa1 ?si1 ?sl1 ?sc1 ?sk1)⟩
   (case aC=>k_is)
   (case daC=>k_is)
   case n1 | n2 | n3 | n4 | n5 | n6 | n7 | n8 | n9 | d1 | d2=>(unfold _L.gu; k_is)
   case pg | hd | po | sa | mk | kc | ia | iii | il | ic | ik | dpg | dhd | dpo | dsa | dmk | dkc | dia | dii | dil | dic | dik | sa0 | si0 | sl0 | sc0 | sk0 | sa1 | si1 | sl1 | sc1 | sk1 | a0 | i0 | l0 | c0 | k0 | a1 | i1 | l1 | c1 | k1 | a2 | i2 | l2 | c2 | k2 | a3 | i3 | l3 | c3 | k3 | a4 | i4 | l4 | c4 | k4 | a5 | i5 | l5 | c5 | k5 | a6 | i6 | l6 | c6 | k6 | a7 | i7 | l7 | c7 | k7 | a8 | i8 | l8 | c8 | k8 | a9 | i9 | l9 | c9 | k9 | a10 | i10 | l10 | c10 | k10=>k_is
  all_goals (refine' _L.a30 KX G ?a ?l ?c ?k; (case a=>k_is); (case l=>k_is); (case c=>k_is); (case k=>k_is))
#print axioms PySem.Challenge.cw_glidequeue_k55_fed_at_a_desk_holds
