import PyProof.Rows.All
import Wide.All
import OpenK.AllK
import Wide.FinOn
import Lean
import PyProof.EqAt
import PyProof.EqKinds
import PyProof.TupleCall
import PySem.Challenge.RW_glidequeue_k37_fed
set_option Elab.async false
set_option linter.all false
set_option maxRecDepth 100000
abbrev bJ:=PySem.Str->Option PySem.Value
theorem aA{p:Prop}(h:p:=by decide):p:=h
theorem aW{p:Prop}(h:p:=by decide+kernel):p:=h
theorem au {p:Prop} (h:p:=by lia):p:=h
theorem fh{p:Prop}(h:p:=by omega):p:=h
theorem Z {α : Sort _} {a : α}:a=a:=rfl
abbrev aa:=PySem.W.Frag
abbrev ae:=PySem.Shared
abbrev ah:=PySem.Program
abbrev ai:=PySem.PyData
abbrev aj:=PySem.Around
abbrev aK:=@PySem.wpAny_bind
abbrev bf:=@if_neg
abbrev bh:=@if_pos
abbrev bK:=@Nat.le_refl
abbrev bL:=@List.mem_cons
abbrev cf:=@PySem.wpAny_pure
abbrev cm:=@PySem.intBits_le_64
abbrev cn:=@List.getElem?_eq_getElem
abbrev cx:=@List.length_map
abbrev cy:=@PySem.Heap.get?_push_of_some
abbrev cC:=@PySem.Heap.lt_size
abbrev cE:=@List.not_mem_nil
abbrev cH:=@List.mem_singleton
abbrev cI:=@List.getElem?_map
abbrev cP:=@decide_eq_true
abbrev dv:=@or_false
abbrev dQ:=@Option.some.inj
abbrev e9:=@Ne.symm
abbrev eg:=@List.size_toArray
abbrev eh:=@List.getElem?_eq_some_iff
abbrev eV:=@PySem.Heap.get?_push_size
abbrev fg:=@Rat.le_trans
abbrev fk:=@decide_eq_false
abbrev fq:=@Bool.and_eq_true
abbrev fz:=@beq_iff_eq
abbrev fA:=@Nat.ne_of_lt
abbrev fC:=@List.length_append
abbrev fW:=@PyProof.Rows.boot_tuple
abbrev fX:=@Int.pow_succ
abbrev fY:=@Int.natAbs_mul
abbrev gy:=@Nat.zero_le
abbrev gz:=@Nat.lt_of_lt_of_le
abbrev gI:=@List.mem_of_getElem?
abbrev gM:=@Nat.le_trans
abbrev gO:=@Int.le_refl
abbrev ip:=@PySem.PassesOwn.never
abbrev iM:=@PySem.wpAny_mono
abbrev iO:=@PySem.IntMulOk.of_bits
abbrev j7:=@Int.mul_pos
abbrev jd:=@List.lookup_cons
abbrev je:=@List.all_eq_true
abbrev jw:=@PySem.wpAny_field
abbrev jL:=@of_decide_eq_true
abbrev jM:=@List.length_cons
abbrev jN:=@Int.mul_nonneg
abbrev kB:=@PyProof.Rows.boot_list
abbrev kC:=@List.mem_map
abbrev kD:=@List.mem_filterMap
abbrev kE:=@Bool.true_and
abbrev kF:=@Bool.false_ne_true
abbrev kS:=@Int.one_mul
abbrev kU:=@Bool.false_and
abbrev lT:=@List.mem_cons_of_mem
abbrev lU:=@List.mem_append_right
abbrev lV:=@List.getElem?_eq_none
abbrev lW:=@Int.pow_zero
abbrev mE:=@PySem.wpAny_holding
abbrev mF:=@Nat.mul_le_mul
abbrev oU:=@PyProof.Rows.boot_str
abbrev oV:=@Nat.lt_irrefl
abbrev oW:=@List.map_cons
abbrev oX:=@List.map_append
abbrev oY:=@List.length_take
abbrev oZ:=@Bool.eq_iff_iff
abbrev qD:=@PySem.wpAny_truthy_bool
abbrev qE:=@PySem.wpAny_newObj_type
abbrev qF:=@PyProof.Rows.boot_abs
abbrev qG:=@Nat.lt_of_le_of_lt
abbrev qH:=@List.take_succ
abbrev qI:=@Int.emod_nonneg
abbrev qJ:=@PySem.Heap.size_push
abbrev sT:=@PySem.wpAny_call
abbrev sW:=@if_true
abbrev sX:=@decide_eq_true_iff
abbrev sY:=@PySem.call_meets
abbrev tj:=@Rat.num_divInt_den
abbrev tm:=@Rat.le_refl
abbrev tD:=@PyProof.Rows.boot_all
abbrev tE:=@Nat.pow_le_pow_right
abbrev tF:=@List.nodup_cons
abbrev tG:=@List.mem_iff_getElem?
abbrev tH:=@List.ext_getElem?
abbrev vv:=@PySem.wpAny_seqItems
abbrev vw:=@PySem.wpAny_loadPart_at
abbrev vx:=@PySem.mem_of_lookup
abbrev vy:=@PySem.W.mg_of
abbrev vz:=@PyProof.Rows.boot_isinstance
abbrev vB:=@List.replicate_succ
abbrev vF:=@List.mem_append
abbrev vG:=@List.length_set
abbrev vI:=@List.getElem_range
abbrev vJ:=@List.append_nil
abbrev vK:=@List.any_cons
abbrev vL:=@Int.mul_assoc
abbrev vM:=@Int.emod_lt_of_pos
abbrev y9:=@PySem.wpAny_standAt
abbrev yb:=@PySem.wpAny_passesOwn
abbrev yc:=@PySem.codeAny_mono
abbrev yd:=@Rat.divInt_nonneg_iff_of_pos_right
abbrev ye:=@PySem.W.hideAll_get
abbrev yf:=@PySem.W.Looks.here
abbrev yg:=@PyProof.Rows.callWith_type1
abbrev yh:=@List.take_length
abbrev yi:=@List.length_drop
abbrev yj:=@List.getElem?_append_left
abbrev yk:=@Bool.eq_false_iff
abbrev AE:=@PySem.wpAny_setField_rec
abbrev AF:=@PySem.wpAny_of_eq
abbrev AG:=@PySem.wpAny_execs_nil
abbrev AH:=@PySem.wpAny_Call_Name_kw
abbrev AI:=@decide_eq_true_eq
abbrev AJ:=@PySem.F.plainAttrs_list
abbrev AK:=@Nat.ne_of_gt
abbrev AL:=@Nat.le_of_ble_eq_true
abbrev AM:=@List.of_mem_zip
abbrev AN:=@List.map_set
abbrev AO:=@List.length_replicate
abbrev AQ:=@List.length_eq_zero_iff
abbrev AR:=@List.getElem?_zip_eq_some
abbrev AS:=@List.getElem?_set_self
abbrev AU:=@List.getElem?_append_right
abbrev AV:=@List.find?_cons
abbrev AW:=@Int.zero_mul
abbrev AX:=@PySem.Heap.get?_update_other
abbrev AY:=@Array.length_toList
abbrev DR:=@PySem.wpAny_setField
abbrev DS:=@PySem.wpAny_pyIter_list
abbrev DT:=@PySem.wpAny_onRaise
abbrev DU:=@PySem.wpAny_loadPart'
abbrev DV:=@PySem.wpAny_call_entry
abbrev DW:=@PySem.wpAny_callSpecial?_slot
abbrev DX:=@PySem.wpAny_attempt
abbrev DY:=@PySem.sizeLine_eq
abbrev DZ:=@PySem.W.looks_findIn
abbrev E1:=@beq_self_eq_true
abbrev E2:=@beq_eq_false_iff_ne
abbrev E3:=@Rat.le_antisymm
abbrev E4:=@PyProof.Rows.boot_max
abbrev E5:=@PySem.Obj.data_mapFields
abbrev E6:=@Nat.le_succ
abbrev E7:=@List.take_of_length_le
abbrev E8:=@List.mem_of_mem_take
abbrev E9:=@List.length_nil
abbrev Ea:=@List.getElem_mem
abbrev Eb:=@List.getElem?_zipWith
abbrev Ec:=@List.forIn_cons
abbrev Ed:=@List.flatten_cons
abbrev Ee:=@Int.mul_le_mul
abbrev Ef:=@PySem.Heap.get?_update_self
abbrev Eg:=@Array.toList_append
abbrev Ly:=@PySem.wpAny_pyIter_rangeiter
abbrev Lz:=@PySem.wpAny_isSubtype_exc
abbrev LB:=@PySem.codeAny_call_builtin
abbrev LC:=@PySem.codeAmong.eq_def
abbrev LD:=@Std.lt_of_le_of_ne
abbrev LF:=@Rat.le_of_lt
abbrev LH:=@PySem.F.slot_zip_next
abbrev LJ:=@PySem.F.slot_tuple_iterator_next
abbrev LK:=@PySem.F.excAttr_ValueError
abbrev LL:=@PyProof.Rows.boot_int
abbrev LM:=@Nat.sub_self
abbrev LN:=@Nat.lt_trans
abbrev LO:=@Nat.lt_succ_of_lt
abbrev LP:=@Nat.lt_succ_iff_lt_or_eq
abbrev LQ:=@Nat.le_of_lt
abbrev LR:=@Nat.add_comm
abbrev LS:=@List.set_set
abbrev LU:=@List.mem_cons_self
abbrev LV:=@List.length_pos_iff
abbrev LW:=@List.getElem?_set_ne
abbrev LX:=@List.all_map
abbrev LY:=@List.all_cons
abbrev LZ:=@Int.toNat_natCast
abbrev M0:=@Int.mul_ne_zero
abbrev M1:=@Int.mul_comm
abbrev M4:=@Int.lt_or_le
abbrev M5:=@Int.le_of_lt
abbrev M6:=@Bool.not_eq_true'
abbrev M7:=@Bool.and_true
abbrev M8:=@Bool.and_false
abbrev M9:=@Array.getElem?_eq_some_iff
abbrev W8:=@PySem.wpAny_updateSeq_pair
abbrev W9:=@PySem.wpAny_pyNext_range_end
abbrev Wa:=@PySem.wpAny_newFunctionEnv
abbrev Wb:=@PySem.SeqAt.canLay_of_shaped
abbrev Wc:=@Rat.intCast_lt_intCast
abbrev We:=@Rat.divInt_sub_divInt
abbrev Wf:=@Rat.divInt_mul_divInt
abbrev Wg:=@PySem.W.plainGet_of
abbrev Wh:=@PySem.W.of_hideAll
abbrev Wi:=@PySem.W.looks_clsIn
abbrev Wj:=@PySem.W.hideAll_none
abbrev Wl:=@PySem.W.callWith_K
abbrev Wm:=@PySem.W.any_some
abbrev Wn:=@PySem.Str.cps_append
abbrev Wo:=@PySem.F.slot_tuple_add
abbrev Wq:=@PySem.F.excBase_ValueError
abbrev Wr:=@PySem.F.entry_tuple_add
abbrev Ws:=@PySem.F.args_tuple_add_2
abbrev Wt:=@PyProof.Rows.slot_tuple_getitem
abbrev Wu:=@PyProof.Rows.boot_min
abbrev Wv:=@PyProof.Rows.boot_bool
abbrev Ww:=@PyProof.Rows.boot_any
abbrev Wx:=@Option.map_eq_some_iff
abbrev Wy:=@PySem.Obj.isFreed_of_fields
abbrev Wz:=@Nat.lt_succ_self
abbrev WA:=@List.mem_iff_getElem
abbrev WB:=@List.mem_append_left
abbrev WC:=@List.getElem?_replicate
abbrev WD:=@List.getD_eq_getElem?_getD
abbrev WE:=@List.filterMap_cons
abbrev WH:=@List.contains_cons
abbrev WI:=@Int.mul_nonneg_of_nonpos_of_nonpos
abbrev WJ:=@Int.lt_trichotomy
abbrev WK:=@Int.fdiv_eq_ediv_of_nonneg
abbrev WL:=@PySem.Heap.get?_push_cases
abbrev WM:=@PySem.F.slot_range_reversed
abbrev WN:=@PySem.Calls.evalArgs_plain
abbrev ae4:=@PySem.F.entry_tuple_iterator_next
abbrev ae5:=@PySem.F.args_tuple_iterator_next_1
abbrev ae6:=@Int.mul_le_mul_of_nonneg_right
abbrev ae7:=@Int.mul_le_mul_of_nonneg_left
abbrev ae8:=@Array.all_eq_true_iff_forall_mem
namespace L2
open PySem PySem.Spec PyProof.Rows
abbrev Key:=Sum Int Str
def xb:Key->Value->Bool | .inl k,v=>Value.isInt k v | .inr x,v=>Value.isStrOf x v
def a4G(w:World):Key->Int | .inl k=>hashInt k | .inr x=>hashStr w x
theorem pR:∀{k:Key}{v:Value},xb k v=true->(∃i t,k=Sum.inl i/\v=Value.int i t)\/(∃x t,k=Sum.inr x/\v=Value.str x t) | .inl i,v,h=>by obtain⟨t,e⟩:=Value.isInt_shape (k:=i) (v:=v) h;exact .inl ⟨i,t,Z,e⟩ | .inr x,v,h=>by obtain⟨t,e⟩:=Value.isStrOf_shape (x:=x) (v:=v) h;exact .inr ⟨x,t,Z,e⟩
theorem a4F(i:Int)(t:Tok):xb (.inl i) (.int i t)=true:=by simp[xb,Value.isInt]
theorem a4E(x:Str)(t:Tok):xb (.inr x) (.str x t)=true:=by simp[xb,Value.isStrOf]
theorem a4D(a b:Int):decide ((Sum.inl a:Key)=Sum.inl b)=(a==b):=by
 by_cases e:a=b
 ·subst e;simp
 ·have h:¬(Sum.inl a:Key)=Sum.inl b:=λq=>e (Sum.inl.inj q)
  rw[fk h];exact(E2.mpr e).symm
theorem a4A(a b:Str):decide ((Sum.inr a:Key)=Sum.inr b)=decide (a=b):=by
 by_cases e:a=b
 ·subst e;simp
 ·have h:¬(Sum.inr a:Key)=Sum.inr b:=λq=>e (Sum.inr.inj q)
  rw[fk h,fk e]
theorem a4C(a:Int)(b:Str):decide ((Sum.inl a:Key)=Sum.inr b)=false:=fk (λq=>nomatch q)
theorem a4B(a:Str)(b:Int):decide ((Sum.inr a:Key)=Sum.inl b)=false:=fk (λq=>nomatch q)
def jC(prog:ah)(w:World):PySem.KeyKind prog w Key where
 is:=xb
 hash:=a4G w
 inj:=λv a b ha hb=>by
  rcases pR ha with⟨i,t,rfl,rfl⟩|⟨x,t,rfl,rfl⟩
  ·rcases pR hb with⟨j,u,rfl,e⟩|⟨y,u,rfl,e⟩
   ·injection e with e1 _;rw[e1]
   ·exact nomatch e
  ·rcases pR hb with⟨j,u,rfl,e⟩|⟨y,u,rfl,e⟩
   ·exact nomatch e
   ·injection e with e1 _;rw[e1]
 byValue:=λk v h=>by rcases pR h with⟨i,t,rfl,rfl⟩|⟨x,t,rfl,rfl⟩<;>rfl
 pyHash:=λhv h=>by
  rcases pR hv with⟨i,t,rfl,rfl⟩|⟨x,t,rfl,rfl⟩
  ·exact wpAny_pyHash_int h
  ·exact wpAny_pyHash_str h
 eqBool:=λhu hv h=>by
  rcases pR hu with⟨i,t,rfl,rfl⟩|⟨x,t,rfl,rfl⟩
  ·rcases pR hv with⟨j,u,rfl,rfl⟩|⟨y,u,rfl,rfl⟩
   ·rw[a4D]at h;exact wpAny_eqBool_int h
   ·rw[a4C]at h;exact SeqAt.EqAt.int_str i t y u _ _ _ _ h
  ·rcases pR hv with⟨j,u,rfl,rfl⟩|⟨y,u,rfl,rfl⟩
   ·rw[a4B]at h;exact SeqAt.EqAt.str_int x t j u _ _ _ _ h
   ·rw[a4A]at h;exact wpAny_eqBool_str h
 «strs»:=λk x t v h=>by
  rcases pR h with⟨i,u,rfl,e⟩|⟨y,u,rfl,e⟩
  ·exact nomatch e
  ·injection e with e1 _
   subst e1;cases v<;>rfl
theorem a3I(prog:ah)(w:World)(i:Int)(t:Tok):(jC prog w).is (.inl i) (.int i t)=true:=a4F i t
theorem a3H(prog:ah)(w:World)(x:Str)(t:Tok):(jC prog w).is (.inr x) (.str x t)=true:=a4E x t
inductive V where |bB|bl (b:Bool)|int (i:Int)|str (x:Str)|xS (b:Array UInt8)|CZ (b:UInt64)|ref (a:Addr)|ty (n:String) deriving DecidableEq
def RelV:V->Value->Prop | .bB,u=>u=Value.none | .bl b,u=>u=Value.bool b | .int i,u=>∃t,u=Value.int i t | .str x,u=>∃t,u=Value.str x t | .xS b,u=>∃t,u=Value.bytes b t | .CZ b,u=>∃t,u=Value.float b t | .ref a,u=>u=Value.ref a | .ty n,u=>u=Value.type n
abbrev Vals:List V->List Value->Prop:=Paired RelV
theorem Vals.length{xs:List V}{us:List Value}(r:Vals xs us):xs.length=us.length:=Paired.length r
theorem Vals.get:∀{xs:List V}{us:List Value}{i:Nat}{x:V},Vals xs us->xs[i]? =some x->∃u,us[i]? =some u/\RelV x u |_,_,_,_,.nil,e=>by simp at e |_,_,0,_,.cons r _,e=>by simp at e;subst e;exact⟨_,rfl,r⟩ |_,_,i+1,x,.cons _ t,e=>by obtain⟨u,h1,h2⟩:=Vals.get (i:=i) (x:=x) t (by simpa using e);exact⟨u,by simpa using h1,h2⟩
theorem Vals.set{x:V}{u:Value}(r:RelV x u):∀{xs:List V}{us:List Value}(i:Nat),Vals xs us->Vals (xs.set i x) (us.set i u) |_,_,_,.nil=>.nil |_,_,0,.cons _ t=>.cons r t |_,_,i+1,.cons q t=>.cons q (Vals.set r i t)
theorem Vals.append:∀{xs ys:List V}{us ws:List Value},Vals xs us->Vals ys ws->Vals (xs++ys) (us++ws) |_,_,_,_,.nil,s=>s |_,_,_,_,.cons r t,s=>.cons r (Vals.append t s)
theorem Vals.take:∀{xs:List V}{us:List Value}(n:Nat),Vals xs us->Vals (xs.take n) (us.take n) |_,_,0,_=>.nil |_,_,_+1,.nil=>.nil |_,_,n+1,.cons r t=>.cons r (Vals.take n t)
theorem Vals.drop:∀{xs:List V}{us:List Value}(n:Nat),Vals xs us->Vals (xs.drop n) (us.drop n) |_,_,0,r=>r |_,_,_+1,.nil=>.nil |_,_,n+1,.cons _ t=>Vals.drop n t
def jI:Option V->Option Value->Prop |some v,some u=>RelV v u |none,none=>True |_,_=>False
def KV{κ:Type}:List (κ×V)->List (κ×Value)->Prop:=Paired λ(p:κ×V)(q:κ×Value)=>p.1=q.1/\RelV p.2 q.2
def kV:Key->V | .inl i=>.int i | .inr x=>.str x
inductive HO where /--a list -/ |lst (xs:List V) /--a tuple (never changes) -/ |tup (xs:List V) /--a dict WY keys are ints and texts; one WY keys are tuples of ints and texts (vR empty one is both) -/ |dK (aQ:List (Key×V))|dT (aQ:List (List Key×V)) /--a set of ints: its members,its size -/ |set (S:Int->Bool)(n:Nat) /--an instance of vR class at C,its dict at dx,its attributes -/ |ins (C dx:Addr)(fs:List (Str×V)) /--vR dict of vR instance at x -/ |own (x:Addr) /--vR dict of an exception -/ |xd (fs:List (Str×V)) /--a bound method,f of x -/ |met (f x:Addr) /--a range object lo,lo+1,.. below hi -/ |u7 (lo hi:Int) /--a vQ aek is known to vR object (vR Fc; a dict while a loop walks it): read,never written while it is so -/ |nc (o:Obj)(u:HO) /--a code aey table -/ |eZ (ps:Array Value) /--any other vQ,by what is true of its one object (a def of aex own: afA a S n:=HO.ext λh=>..) -/ |ext (φ:Heap->Prop)
abbrev Hp:=Addr->Option HO
def upd(H:Hp)(a:Addr)(o:HO):Hp:=λb=>if b=a then some o else H b
theorem bo:upd H a o a=some o:=by unfold upd;rw[bh rfl]
theorem aO(h:b≠a):upd H a o b=H b:=by unfold upd;rw[bf h]
theorem zo{H:Hp}{a b:Addr}{o u:HO}(h:H a=some o)(h':H b=some u)(d:o≠u):a≠b:=by intro e;subst e;rw[h]at h';exact d (dQ h')
theorem fT{H:Hp}{a b:Addr}{o:HO}(h:H a=some o)(h':H b=none):a≠b:=by intro e;subst e;rw[h]at h';cases h'
section
variable (P:ah) (w:World)
def fe(H:Hp)(h:Heap)(a:Addr):HO->Prop | .lst xs=>xs.length<=sizeLine/\∃(its:List Value)(n:Nat),Vals xs its/\h.get? a=some {cls:=.type "list",data:=.seq its.toArray n} | .tup xs=>xs.length<=sizeLine/\∃its:List Value,Vals xs its/\IsTup h a its.toArray | .dK aQ=>aQ.length<=sizeLine/\(a==sysModules)=false/\∃vs,KV aQ vs/\h.DictOf (jC P w) a vs | .dT aQ=>aQ.length<=sizeLine/\(a==sysModules)=false/\∃xs:List (List Key×Addr×Value),Paired (λ(p:List Key×V)(q:List Key×Addr×Value)=>p.1=q.1/\H q.2.1=some (.tup (p.1.map kV))/\RelV p.2 q.2.2) aQ xs/\∃o es ep,h.get? a=some o/\o.ExactDict/\o.data= .dict es ep/\es.toList=xs.map (entryOfKey (tupleKind (jC P w)))/\(xs.map (·.1)).Nodup | .set S n=>h.SetOf (intKind P w) a S n | .ins C dx fs=>H dx=some (.own a)/\fs.length<=1000/\dx≠a/\h.get? a=some (PySem.W.instObj C dx)/\∃mA,h.Ns1 dx mA/\(∀f,jI (fs.lookup f) (mA f))/\PySem.Within mA (fs.map (·.1)) | .own _=>∃o,h.get? a=some o | .xd fs=>∃mA,h.Ns1 a mA/\∀f,jI (fs.lookup f) (mA f) | .u7 lo hi=>∃t u v,h.get? a=some {cls:=.type "range",data:=.fields #[.int lo t,.int hi u,.int 1 v]} | .nc o u=>h.get? a=some o/\fe H h a u | .eZ ps=>h.get? a=some {cls:=.none,data:=.fields ps} | .met f x=>h.get? a=some (PySem.W.methodObj (.ref f) (.ref x)) | .ext φ=>φ h/\(∃o,h.get? a=some o)/\∀h1 h2:Heap,φ h1->(∀o,h1.get? a=some o->h2.get? a=some o)->φ h2
def dN(H:Hp)(h:Heap):Prop:=∀a o,H a=some o->fe P w H h a o
end
section
variable {P:ah}{w:World}{H H':Hp}{h h':Heap}{a:Addr}{o:HO}
theorem fe.lt(x:fe P w H h a o):a<h.objs.size:=by cases o with |lst xs=>obtain⟨_,_,_,_,e⟩:=x;exact cC e |tup xs=>obtain⟨_,_,_,p⟩:=x;exact p.lt |dK aQ=>obtain⟨_,_,_,_,o,_,_,e,_⟩:=x;exact cC e |dT aQ=>obtain⟨_,_,_,_,o,_,_,e,_⟩:=x;exact cC e |set S n=>obtain⟨o,_,_,_,e,_⟩:=x;exact cC e |ins C dx fs=>obtain⟨_,_,_,e,_⟩:=x;exact cC e |own y=>obtain⟨_,e⟩:=x;exact cC e |xd fs=>obtain⟨_,⟨_,_,_,e,_⟩,_⟩:=x;exact cC e |u7 lo hi=>obtain⟨_,_,_,e⟩:=x;exact cC e |nc ob u=>obtain⟨e,_⟩:=x;exact cC e |eZ ps=>exact cC (show h.get? a=some _ from x) |met f y=>exact cC (show h.get? a=some _ from x) |ext φ=>obtain⟨_,⟨_,e⟩,_⟩:=x;exact cC e
theorem Paired.IG{α β:Type}{F G:α->β->Prop}:∀{l₁:List α}{l₂:List β},Paired F l₁ l₂->(∀a b,F a b->G a b)->Paired G l₁ l₂ |_,_,.nil,_=>.nil |_,_,.cons r t,f=>.cons (f _ _ r) (Paired.IG t f)
theorem fe.lX(x:fe P w H h a o)(k:∀b u,(b=a\/H b=some (.own a))->h.get? b=some u->h'.get? b=some u) (ho:∀b,H b=some (.own a)->H' b=some (.own a))(ht:∀b xs,H b=some (.tup xs)->H' b=some (.tup xs)):fe P w H' h' a o:=by induction o with |lst xs=>obtain⟨z,its,n,r,e⟩:=x;exact⟨z,its,n,r,k _ _ (.inl Z) e⟩ |tup xs=>obtain⟨z,its,r,ob,e,c⟩:=x;exact⟨z,its,r,ob,k _ _ (.inl Z) e,c⟩ |dK aQ=>obtain⟨z,y,vs,r,ob,es,ep,e,c⟩:=x;exact⟨z,y,vs,r,ob,es,ep,k _ _ (.inl Z) e,c⟩ |dT aQ=>obtain⟨z,y,xs,r,ob,es,ep,e,c⟩:=x;exact⟨z,y,xs,Paired.IG r λp q z=>⟨z.1,ht _ _ z.2.1,z.2.2⟩,ob,es,ep,k _ _ (.inl Z) e,c⟩ |set S n=>obtain⟨ob,es,ep,t,e,c⟩:=x;exact⟨ob,es,ep,t,k _ _ (.inl Z) e,c⟩ |ins C dx fs=>obtain⟨d,z,ne,e,mA,⟨od,es,ep,e2,c⟩,r⟩:=x;exact⟨ho _ d,z,ne,k _ _ (.inl Z) e,mA,⟨od,es,ep,k _ _ (.inr d) e2,c⟩,r⟩ |own y=>obtain⟨ob,e⟩:=x;exact⟨ob,k _ _ (.inl Z) e⟩ |xd fs=>obtain⟨mA,⟨od,es,ep,e,c⟩,r⟩:=x;exact⟨mA,⟨od,es,ep,k _ _ (.inl Z) e,c⟩,r⟩ |u7 lo hi=>obtain⟨t,u,v,e⟩:=x;exact⟨t,u,v,k _ _ (.inl Z) e⟩ |nc ob u ih=>obtain⟨e,q⟩:=x;exact⟨k _ _ (.inl Z) e,ih q⟩ |eZ ps=>have e:h.get? a=some {cls:=.none,data:=.fields ps}:=x;show h'.get? a=some {cls:=.none,data:=.fields ps};exact k a _ (.inl Z) e |met f y=>have e:h.get? a=some (PySem.W.methodObj (.ref f) (.ref y)):=x;show h'.get? a=some (PySem.W.methodObj (.ref f) (.ref y));exact k a _ (.inl Z) e |ext φ=>obtain⟨p,⟨o,e⟩,st⟩:=x;exact⟨st _ _ p λo q=>k _ _ (.inl Z) q,⟨o,k _ _ (.inl Z) e⟩,st⟩
theorem dN.lt(x:dN P w H h)(e:H a=some o):a<h.objs.size:=(x a o e).lt
theorem dN.fresh(x:dN P w H h)(e:h.objs.size<=a):H a=none:=by cases q:H a with |none=>rfl |some u=>exact absurd (gz (x.lt q) e) (oV _)
theorem dN.kept(x:dN P w H h)(k:∀b u,h.get? b=some u->h'.get? b=some u):dN P w H h':=λa o e=>(x a o e).lX (λb u _ q=>k b u q) (λ_ q=>q) λ_ _ q=>q
theorem dN.laid(x:dN P w H h)(k:∀b u,h.get? b=some u->h'.get? b=some u)(hp:h.objs.size<=a)(new:fe P w (upd H a o) h' a o):dN P w (upd H a o) h':=λb u e=>by
 have hn:=x.fresh hp;by_cases hb:b=a
 ·subst hb;rw[bo]at e;cases e;exact new
 ·rw[aO hb]at e
  exact(x b u e).lX (λc v _ q=>k c v q) (λc q=>by rw[aO (fT q hn)];exact q) λc xs q=>by rw[aO (fT q hn)];exact q
end
def Rd(H:Hp)(a:Addr)(u:HO):Prop:=H a=some u\/∃o,H a=some (.nc o u)
theorem Rd.ok{P:ah}(r:Rd H a u)(x:dN P w H h):fe P w H h a u:=by
 rcases r with r|⟨o,r⟩
 ·exact x a u r
 ·obtain⟨_,q⟩:=x a _ r
  exact q
def Aw:Option HO->Prop |some (.lst _)=>True |some (.dK _)=>True |some (.dT _)=>True |some (.set _ _)=>True |some (.ins _ _ _)=>True |some (.ext _)=>True |_=>False
section
variable {P:ah}{w:World}{H:Hp}{h h':Heap}{x e:Addr}{o':HO}
theorem dN.write(ok:dN P w H h)(mu:Aw (H x))(he:e=x\/H e=some (.own x))(k:∀b u,b≠e->h.get? b=some u->h'.get? b=some u)(xt:∃u,h'.get? e=some u) (new:fe P w (upd H x o') h' x o'):dN P w (upd H x o') h':=λb u q=>by
 have QC:∀c y,H c=some (.own y)->c≠x:=λc y r z=>by subst z;rw[r]at mu;exact mu
 have a38:∀c xs,H c=some (.tup xs)->c≠x:=λc xs r z=>by subst z;rw[r]at mu;exact mu
 by_cases hb:b=x
 ·subst hb;rw[bo]at q;cases q;exact new
 ·rw[aO hb]at q
  by_cases uQ:b=e
  ·have q':H b=some (.own x):=by
    rcases he with z|z
    ·exact absurd (uQ.trans z) hb
    ·rw[uQ];exact z
   rw[q]at q';cases q';obtain⟨v,hv⟩:=xt;exact⟨v,by rw[uQ];exact hv⟩
  ·refine(ok b u q).lX (λc v hc r=>k c v ?_ r) (λc r=>by rw[aO (QC c b r)];exact r) λc xs r=>by rw[aO (a38 c xs r)];exact r
   rcases hc with rfl|hc
   ·exact uQ
   ·rintro rfl
    rcases he with z|z
    ·exact QC c b hc z
    ·rw[hc]at z;cases z;exact hb rfl
end
structure Un(fs ex:List Addr)(H H':Hp)(h h':Heap):Prop where
 keep:∀b o,h.get? b=some o->H b=none->b∉fs->b∉ex->h'.get? b=some o
 slot:∀b o,h.get? b=some o->H b=none->b∈fs->b∉ex->∃sl,h'.get? b=some {o with slots:=sl}
 free:∀b o,h.get? b=some o->H b=none->b∉ex->H' b=none
 there:∀b o,h.get? b=some o->b∉ex->∃o',h'.get? b=some o'
 jQ:∀b xs,H b=some (.tup xs)->H' b=some (.tup xs)
 jG:∀b o u,H b=some (.nc o u)->H' b=some (.nc o u)
 jx:∀b ps,H b=some (.eZ ps)->∃more,H' b=some (.eZ (ps++more))
section
variable {fs fs' ex qq:List Addr}{H H1 H2:Hp}{h h1 h2 h':Heap}{a x e:Addr}{o:HO}
theorem Un.any(u:Un fs ex H H1 h h1){b:Addr}{ob:Obj}(q:h.get? b=some ob)(n:H b=none)(hx:b∉ex):∃sl,h1.get? b=some {ob with slots:=sl}:=by
 by_cases hb:b∈fs
 ·exact u.slot b ob q n hb hx
 ·exact⟨ob.slots,u.keep b ob q n hb hx⟩
theorem Un.kept(k:∀b u,h.get? b=some u->h'.get? b=some u):Un fs ex H H h h':=⟨λb ob q _ _ _=>k b ob q,λb ob q _ _ _=>⟨ob.slots,k b ob q⟩,λ_ _ _ n _=>n,λb ob q _=>⟨ob,k b ob q⟩,λ_ _ q=>q,λ_ _ _ q=>q,λ_ ps q=>⟨#[],by rw[q];simp⟩⟩
theorem Un.refl:Un fs ex H H h h:=Un.kept λ_ _ q=>q
theorem Un.laid(k:∀b u,h.get? b=some u->h'.get? b=some u)(hp:h.objs.size<=a)(hn:H a=none):Un fs ex H (upd H a o) h h' where
 keep:=λb u q _ _ _=>k b u q
 slot:=λb u q _ _ _=>⟨u.slots,k b u q⟩
 free:=λb u q n _=>by rw[aO (fA (gz (cC q) hp))];exact n
 there:=λb u q _=>⟨u,k b u q⟩
 jQ:=λb xs q=>by rw[aO (fT q hn)];exact q
 jG:=λb u xs q=>by rw[aO (fT q hn)];exact q
 jx:=λb ps q=>⟨#[],by rw[aO (fT q hn),q];simp⟩
theorem Un.write(mu:Aw (H x))(he:e=x\/H e=some (.own x))(k:∀b u,b≠e->h.get? b=some u->h'.get? b=some u)(xt:∃u,h'.get? e=some u):Un fs ex H (upd H x o) h h':=by
 have hx:∀b,H b=none->b≠x:=λb n z=>by subst z;rw[n]at mu;exact mu
 have hb:∀b,H b=none->b≠e:=λb n z=>by
  subst z;rcases he with r|r
  ·exact hx b n r
  ·rw[n]at r;cases r
 have hm:∀b u,H b=some u->¬Aw (some u)->b≠x:=λb u q nm z=>by subst z;rw[q]at mu;exact nm mu
 refine⟨λb u q n _ _=>k b u (hb b n) q,λb u q n _ _=>⟨u.slots,k b u (hb b n) q⟩,λb u q n _=>by rw[aO (hx b n)];exact n,λb u q _=>?_,λb xs q=>by rw[aO (hm b _ q λz=>z)];exact q,λb u xs q=>by rw[aO (hm b _ q λz=>z)];exact q,λb ps q=>⟨#[],by rw[aO (hm b _ q λz=>z),q];simp⟩⟩;by_cases uQ:b=e
 ·subst uQ;exact xt
 ·exact⟨u,k b u uQ q⟩
end
def Bg(h:Heap)(H:Hp):List Addr:=(List.range h.objs.size).filter λa=>(H a).isSome
def oh(h:Heap)(H:Hp):Heap:=PySem.W.hideAll h (Bg h H)
theorem a6i(h:Heap)(H:Hp):(oh h H).objs.size=h.objs.size:=PySem.W.hideAll_size _ _
theorem a6j(e:h.get? b=some o)(n:H b=none):(oh h H).get? b=some o:=ye _ e λhm=>by have q:(H b).isSome=true:=(List.mem_filter.mp hm).2;rw[n]at q;simp at q
theorem a33(e:(oh h H).get? b=some o):h.get? b=some o/\H b=none:=by have e':h.get? b=some o:=Wh (Bg h H) e;refine⟨e',?_⟩;cases q:H b with |none=>rfl |some x=>have hm:b∈Bg h H:=List.mem_filter.mpr ⟨List.mem_range.mpr (cC e'),by simp[q]⟩;have z:(oh h H).get? b=none:=Wj (Bg h H) hm;rw[z]at e;cases e
structure Mod(K:aa)(mg:bJ)(ay:Heap):Prop where
 o8:K.In ay
 glob:ay.Ns mainGlobals mg
 blt:∃mb,ay.Ns builtinsNs mb/\∀x:Str,x≠"__name__"->mb x=bootBuiltins x
 nolimit:ay.NoLimit
structure Cx where
 prog:ah
 w:World
 K:aa
 mg:bJ
 ay:Heap
 A:aj
 N:List Str
 s₀:ae
 H₀:Hp
 env:Env
 outer:List Env
 stack:List Env
 ex:List Addr
 fn:Str->Bool
 calm:Bool
 pn:List (Addr×Obj)
 xe:Value->ae->Prop
def cX(l:List Env):List Addr:=l.filterMap (·.frame)
abbrev Cx.fs(X:Cx):List Addr:=cX X.outer
def DC(sc:Scope)(x:Str):Prop:=sc.names.lookup x=some .local\/sc.names.lookup x=some .cell\/sc.names.lookup x=some .free
def Loc(sc:Scope)(x:Str):Prop:=sc.names.lookup x=some .local\/sc.names.lookup x=some .cell
def Look(env:Env)(h:Heap)(m:bJ)(x:Str)(u:Value):Prop:=(env.kindOf x=some .local/\m x=some u)\/((env.kindOf x=some .cell\/env.kindOf x=some .free)/\∃c,env.cells.lookup x=some c/\h.IsCell c (some u))
structure Cx.Ok(X:Cx):Prop where
 mod:Mod X.K X.mg X.ay
 kind:X.env.scope.kind= .function
 glob:X.env.globals=mainGlobals
 blt:X.env.builtins=builtinsNs
 above:X.s₀.heap.objs.size<=X.env.locals
 inj:∀x y c,X.env.cells.lookup x=some c->X.env.cells.lookup y=some c->x=y
 has:∀x,(X.env.kindOf x=some .cell\/X.env.kindOf x=some .free)->∃c,X.env.cells.lookup x=some c
 sL:∀x c,X.fn x=true->X.env.cells.lookup x=some c->X.s₀.heap.objs.size<=c
 hd:X.calm=true->X.A.handled=none
 frames:X.A.frames=some X.stack
 vV:X.stack=X.outer\/(X.stack=X.env::X.outer/\X.env.frame=some X.env.locals)
 D6:∀b∈X.ex,b≠X.env.locals/\∀x c,X.env.cells.lookup x=some c->c≠b
 bs:∀b o,X.ay.get? b=some o->X.s₀.heap.get? b=some o/\X.H₀ b=none
 my:X.ay.objs.size<=X.s₀.heap.objs.size
 uq:∀b o,X.ay.get? b=some o->b∉X.ex
 si:∀b∈X.ex,b∉X.fs
 jF:X.s₀.heap.FunFrames X.ay X.outer
 ou:∀b∈X.fs,X.H₀ b=none
structure Inv(X:Cx)(aw:List (Addr×Obj))(O:List (Option V))(H:Hp)(s:ae):Prop where
 ok:X.Ok
 os:s.os=X.s₀.os
 bare:AllBare s.gens
 ay:Un X.fs X.ex X.H₀ H X.s₀.heap s.heap
 loc:∃m,s.heap.Ns X.env.locals m/\∀(i:Nat)(x:Str)(v:V),X.N[i]? =some x->O[i]? =some (some v)->DC X.env.scope x->∃u,RelV v u/\Look X.env s.heap m x u
 cell:∀x c,X.env.cells.lookup x=some c->∃v,s.heap.IsCell c v
 free:H X.env.locals=none
 ki:∀x c,X.env.cells.lookup x=some c->H c=none
 pin:∀p∈X.pn++aw,s.heap.get? p.1=some p.2/\H p.1=none/\p.1≠X.env.locals/\p.1∉X.fs/\∀v,p.2.data≠ .cell v
 aY:dN X.prog X.w H s.heap
 len:O.length=X.N.length
section
variable {X:Cx}{aw:List (Addr×Obj)}{O:List (Option V)}{H H':Hp}{s:ae}{h':Heap}
theorem Cx.Ok.a3g(ok:X.Ok){b:Addr}{o:Obj}(e:X.ay.get? b=some o):b∉X.fs:=λhb=>by have:=(ok.jF.mem hb).1;rw[e]at this;cases this
theorem Inv.bs(I:Inv X aw O H s):∀b o,X.ay.get? b=some o->s.heap.get? b=some o/\H b=none:=λb o e=>⟨I.ay.keep b o (I.ok.bs b o e).1 (I.ok.bs b o e).2 (I.ok.a3g e) (I.ok.uq b o e),I.ay.free b o (I.ok.bs b o e).1 (I.ok.bs b o e).2 (I.ok.uq b o e)⟩
theorem Inv.bk(I:Inv X aw O H s):∀b o,X.ay.get? b=some o->s.heap.get? b=some o:=λb o e=>(I.bs b o e).1
theorem Inv.mod(I:Inv X aw O H s):Mod X.K X.mg X.ay:=I.ok.mod
theorem Inv.fV(I:Inv X aw O H s):X.K.In s.heap:=I.ok.mod.o8.keeps I.bk
theorem Inv.lt(I:Inv X aw O H s):X.env.locals<s.heap.objs.size:=let⟨_,hn,_⟩:=I.loc;hn.lt
theorem Inv.sz(I:Inv X aw O H s):X.s₀.heap.objs.size<=s.heap.objs.size:=gM I.ok.above (LQ I.lt)
theorem Inv.QF(I:Inv X aw O H s){a:Addr}(h:s.heap.objs.size<=a):a∉X.fs:=λhb=>by obtain⟨_,o,ho,_⟩:=I.ok.jF.mem hb;exact absurd (gz (cC ho) (gM I.sz h)) (oV _)
theorem Inv.kl(I:Inv X aw O H s):∀x c,X.env.cells.lookup x=some c->c≠X.env.locals:=λx c e z=>by obtain⟨v,o,ho,hd⟩:=I.cell x c e;obtain⟨m,⟨o',es,ep,mT,xu,_⟩,_⟩:=I.loc;rw[z,mT]at ho;cases ho;rw[xu]at hd;cases hd
theorem Inv.jF(I:Inv X aw O H s):s.heap.FunFrames X.ay X.outer:=by
 have all:∀(l:List Env),(∀b∈cX l,b∈X.fs)->X.s₀.heap.FunFrames X.ay l->s.heap.FunFrames X.ay l:=by intro l;induction l with |nil=>intro _ _;trivial |cons env r ih=>intro hs hl;obtain⟨hk,⟨L,o,hf,hn,ho,hd⟩,hr⟩:=hl;have hL:L∈X.fs:=hs L (by unfold cX;rw[WE,hf];exact LU);obtain⟨sl,e⟩:=I.ay.slot L o ho (I.ok.ou L hL) hL λz=>I.ok.si L z hL;exact⟨hk,⟨L,_,hf,hn,e,hd⟩,ih (λb hb=>hs b (by unfold cX;rw[WE,hf];exact lT _ hb)) hr⟩
 exact all X.outer (λ_ hb=>hb) I.ok.jF
theorem Inv.stack(I:Inv X aw O H s):s.heap.FunFrames X.ay X.stack:=by
 rcases I.ok.vV with e|⟨e,hf⟩
 ·rw[e];exact I.jF
 ·rw[e]
  obtain⟨m,hn,_⟩:=I.loc;refine .cons (by rw[I.ok.kind];decide) hf hn ?_ I.jF;exact Heap.get?_none_of_le (gM I.ok.my I.ok.above)
theorem Inv.yF(I:Inv X aw O H s):∀b∈cX X.stack,b∈X.env.locals::X.fs:=λb hb=>by
 rcases I.ok.vV with e|⟨e,hf⟩
 ·rw[e]at hb;exact lT _ hb
 ·rw[e]at hb
  unfold cX at hb;rw[WE,hf]at hb;exact hb
theorem Inv.vU(I:Inv X aw O H s):∀b∈cX X.stack,H b=none:=λb hb=>by
 rcases bL.mp (I.yF b hb)with e|hb
 ·rw[e];exact I.free
 ·obtain⟨_,o,ho,_⟩:=I.ok.jF.mem hb
  exact I.ay.free b o ho (I.ok.ou b hb) λz=>I.ok.si b z hb
theorem Inv.step{g':Array GenState}{t':Nat}{d':Drawn}{ch:List Addr}(I:Inv X aw O H s) (om:∀b∈ch,(b∈X.ex\/X.s₀.heap.objs.size<=b)/\b≠X.env.locals/\(∀x c,X.env.cells.lookup x=some c->c≠b)/\∀p∈X.pn++aw,p.1≠b) (keep:∀b o,b≠X.env.locals->b∉X.fs->b∉ch->s.heap.get? b=some o->H b=none->h'.get? b=some o) (slot:∀b o,b≠X.env.locals->b∈X.fs->b∉ch->s.heap.get? b=some o->H b=none->∃sl,h'.get? b=some {o with slots:=sl})(free:∀b o,b∉ch->s.heap.get? b=some o->H b=none->H' b=none) (there:∀b o,b∉ch->s.heap.get? b=some o->∃o',h'.get? b=some o') (jQ:∀b xs,H b=some (.tup xs)->H' b=some (.tup xs))(jG:∀b o u,H b=some (.nc o u)->H' b=some (.nc o u))(jx:∀b ps,H b=some (.eZ ps)->∃more,H' b=some (.eZ (ps++more))) (ns:∀m,s.heap.Ns X.env.locals m->h'.Ns X.env.locals m)(aY:dN X.prog X.w H' h')(hg:AllBare g'): Inv X aw O H' {s with heap:=h',gens:=g',drawn:=d',toks:=t'}:=by
 have QN:∀b o,X.s₀.heap.get? b=some o->b≠X.env.locals:=λb o e=>fA (gz (cC e) I.ok.above);have BZ:∀b o,X.s₀.heap.get? b=some o->b∉X.ex->b∉ch:=λb o e hx hb=>by
  rcases(om b hb).1 with z|z
  ·exact hx z
  ·exact absurd (gz (cC e) z) (oV _)
 have cellK:∀x c,X.env.cells.lookup x=some c->∀v,s.heap.IsCell c v->h'.IsCell c v:=λx c e v ⟨o,ho,hd⟩=>by
  have zp:c∉ch:=λz=>(om c z).2.2.1 x c e rfl;by_cases hc:c∈X.fs
  ·obtain⟨sl,q⟩:=slot c o (I.kl x c e) hc zp ho (I.ki x c e)
   exact⟨_,q,hd⟩
  ·exact⟨o,keep c o (I.kl x c e) hc zp ho (I.ki x c e),hd⟩
 refine⟨I.ok,I.os,hg,⟨λb o e n hb hx=>?_,λb o e n hb hx=>?_,λb o e n hx=>?_,λb o e hx=>?_,λb xs e=>jQ b xs (I.ay.jQ b xs e),λb o xs e=>jG b o xs (I.ay.jG b o xs e),λb ps e=>?_⟩,?_,λx c e=>?_,?_,λx c e=>?_,λp hp=>?_,aY,I.len⟩
 ·exact keep b o (QN b o e) hb (BZ b o e hx) (I.ay.keep b o e n hb hx) (I.ay.free b o e n hx)
 ·obtain⟨sl,e1⟩:=I.ay.slot b o e n hb hx
  obtain⟨F8,e2⟩:=slot b _ (QN b o e) hb (BZ b o e hx) e1 (I.ay.free b o e n hx);exact⟨F8,e2⟩
 ·obtain⟨o',e1⟩:=I.ay.there b o e hx
  exact free b o' (BZ b o e hx) e1 (I.ay.free b o e n hx)
 ·obtain⟨o',e1⟩:=I.ay.there b o e hx
  exact there b o' (BZ b o e hx) e1
 ·obtain⟨m1,e1⟩:=I.ay.jx b ps e
  obtain⟨m2,e2⟩:=jx b _ e1;exact⟨m1++m2,by rw[e2,Array.append_assoc]⟩
 ·obtain⟨m,hn,hl⟩:=I.loc
  refine⟨m,ns m hn,λi x v e1 e2 e3=>?_⟩;obtain⟨u,r,l⟩:=hl i x v e1 e2 e3;refine⟨u,r,?_⟩;rcases l with l|⟨k,c,e,z⟩
  ·exact .inl l
  ·exact .inr ⟨k,c,e,cellK x c e _ z⟩
 ·obtain⟨v,z⟩:=I.cell x c e
  exact⟨v,cellK x c e v z⟩
 ·obtain⟨m,⟨o,_,_,ho,_⟩,_⟩:=I.loc
  exact free _ o (λz=>(om _ z).2.1 Z) ho I.free
 ·obtain⟨v,o,ho,hd⟩:=I.cell x c e
  exact free c o (λz=>(om c z).2.2.1 x c e Z) ho (I.ki x c e)
 ·obtain⟨e,n,ne,nf,d⟩:=I.pin p hp
  have zp:p.1∉ch:=λz=>(om p.1 z).2.2.2 p hp rfl;exact⟨keep p.1 p.2 ne nf zp e n,free p.1 p.2 zp e n,ne,nf,d⟩
theorem Inv.un(I:Inv X aw O H s)(u:Un X.fs [] H H' s.heap h')(aY:dN X.prog X.w H' h'):Inv X aw O H' {s with heap:=h',toks:=t'}:=by obtain⟨m,⟨o,es,ep,ho,r⟩,_⟩:=id I.loc;obtain⟨sl,hL⟩:=u.any ho I.free (by simp);exact I.step (g':=s.gens) (d':=s.drawn) (ch:=[]) (λ_ z=>nomatch z) (λb o _ hb _ e n=>u.keep b o e n hb (by simp)) (λb o _ hb _ e n=>u.slot b o e n hb (by simp)) (λb o _ e n=>u.free b o e n (by simp)) (λb o _ e=>u.there b o e (by simp)) u.jQ u.jG u.jx (λm' hm=>by obtain⟨o',oz,Kd,mT,r'⟩:=hm;rw[ho]at mT;cases mT;exact⟨_,oz,Kd,hL,r'⟩) aY I.bare
theorem Inv.call(I:Inv X aw O H s)(u:Un (cX X.stack) ch H H' s.heap h')(aY:dN X.prog X.w H' h')(hg:AllBare g') (om:∀b∈ch,(b∈X.ex\/X.s₀.heap.objs.size<=b)/\b≠X.env.locals/\(∀x c,X.env.cells.lookup x=some c->c≠b)/\∀p∈X.pn++aw,p.1≠b): Inv X aw O H' {s with heap:=h',gens:=g',drawn:=d',toks:=t'}:=by obtain⟨m,⟨o,es,ep,ho,r⟩,_⟩:=id I.loc;obtain⟨sl,hL⟩:=u.any ho I.free λz=>(om _ z).2.1 rfl;exact I.step (ch:=ch) om (λb o hL hb hc e n=>u.keep b o e n (λz=>(bL.mp (I.yF b z)).elim hL hb) hc) (λb o _ _ hc e n=>u.any e n hc) (λb o hc e n=>u.free b o e n hc) (λb o hc e=>u.there b o e hc) u.jQ u.jG u.jx (λm' hm=>by obtain⟨o',oz,Kd,mT,r'⟩:=hm;rw[ho]at mT;cases mT;exact⟨_,oz,Kd,hL,r'⟩) aY hg
theorem Inv.turned{it:Addr}(I:Inv X aw O H s)(k:∀b o,b≠it->s.heap.get? b=some o->h'.get? b=some o)(hn:H it=none)(hL:it≠X.env.locals) (h1:it∈X.ex\/X.s₀.heap.objs.size<=it)(h2:∀x c,X.env.cells.lookup x=some c->c≠it)(h3:∀p∈X.pn++aw,p.1≠it):Inv X aw O H {s with heap:=h',toks:=t'}:=by
 have zm:∀b u,H b=some u->b≠it:=λb u e z=>by rw[z,hn]at e;cases e
 refine I.step (g':=s.gens) (d':=s.drawn) (ch:=[it]) (λb hb=>?_) (λb o _ _ hc e _=>k b o (λz=>hc (by simp[z])) e) (λb o _ _ hc e _=>⟨o.slots,k b o (λz=>hc (by simp[z])) e⟩) (λ_ _ _ _ n=>n) (λb o hc e=>⟨o,k b o (λz=>hc (by simp[z])) e⟩) (λ_ _ e=>e) (λ_ _ _ e=>e) (λb ps e=>⟨#[],by rw[e];simp⟩) (λm hm=>?_) (λb u e=>?_) I.bare
 ·have e:b=it:=by simpa using hb
  subst e;exact⟨h1,hL,h2,h3⟩
 ·obtain⟨o,es,ep,ho,r⟩:=hm
  exact⟨o,es,ep,k _ o (e9 hL) ho,r⟩
 ·refine(I.aY b u e).lX (λc v hc q=>k c v ?_ q) (λ_ q=>q) λ_ _ q=>q
  rcases hc with z|z
  ·rw[z];exact zm b u e
  ·exact zm c _ z
theorem Inv.tok(I:Inv X aw O H s)(t:Nat):Inv X aw O H {s with toks:=t}:=I.un (h':=s.heap) (t':=t) Un.refl I.aY
theorem Inv.kept(I:Inv X aw O H s)(k:∀b u,s.heap.get? b=some u->h'.get? b=some u):Inv X aw O H {s with heap:=h',toks:=t'}:=I.un (Un.kept k) (I.aY.kept k)
theorem Inv.laid{a:Addr}{o:HO}{t':Nat}(I:Inv X aw O H s)(k:∀b u,s.heap.get? b=some u->h'.get? b=some u)(hp:s.heap.objs.size<=a)(new:fe X.prog X.w (upd H a o) h' a o): Inv X aw O (upd H a o) {s with heap:=h',toks:=t'}:=I.un (Un.laid k hp (I.aY.fresh hp)) (I.aY.laid k hp new)
theorem Inv.write(I:Inv X aw O H s)(mu:Aw (H x))(he:e=x\/H e=some (.own x))(k:∀b u,b≠e->s.heap.get? b=some u->h'.get? b=some u)(xt:∃u,h'.get? e=some u) (new:fe X.prog X.w (upd H x o) h' x o):Inv X aw O (upd H x o) {s with heap:=h',toks:=t'}:=I.un (Un.write mu he k xt) (I.aY.write mu he k xt new)
theorem Inv.Q8(I:Inv X aw O H s)(h:∀p∈HR,s.heap.get? p.1=some p.2/\H p.1=none/\p.1≠X.env.locals/\p.1∉X.fs/\∀v,p.2.data≠ .cell v):Inv X HR O H s:=⟨I.ok,I.os,I.bare,I.ay,I.loc,I.cell,I.free,I.ki,λp hp=>(vF.mp hp).elim (λz=>I.pin p (WB _ z)) (h p),I.aY,I.len⟩
theorem Im{N:List Str}(hN:N.Nodup){i j:Nat}{x:Str}(a:N[i]? =some x)(b:N[j]? =some x):i=j:=by obtain⟨h1,e1⟩:=eh.mp a;obtain⟨h2,e2⟩:=eh.mp b;exact(List.getElem_inj hN).mp (e1.trans e2.symm)
theorem MU{M:Model}{A:aj}{E:Value->ae->Prop}{i:Nat}{x:Str}{v:V}{u:Value}{Q:Unit->ae->Prop}(I:Inv X aw O H s)(hN:X.N.Nodup)(hi:X.N[i]? =some x)(hx:Loc X.env.scope x)(r:RelV v u) (h:∀s',Inv X aw (O.set i (some v)) H s'->(∃a,Heap.SameBut a s.heap s'.heap/\(a=X.env.locals\/X.env.cells.lookup x=some a))->Q () s')(hf:X.fn x=true\/X.env.scope.names.lookup x=some .local:=by first|exact .inl rfl|exact .inr rfl|assumption):wpAny M A (storeName X.env x u) Q E s:=by
 obtain⟨m,hn,hl⟩:=id I.loc;have zP:(X.env.scope.kind== .class||(X.env.scope.kind== .module&&X.env.locals !=X.env.globals))=false:=by rw[I.ok.kind];rfl
 have CH:i<O.length:=by rw[I.len];exact(eh.mp hi).1
 have kl:=I.kl;have tracked:∀{a:Addr}{h':Heap},(∃o,s.heap.get? a=some o/\H a=none)->Heap.SameBut a s.heap h'->dN X.prog X.w H h':=λ{a h'} ha hs b ob e=>by
  obtain⟨_,_,xq⟩:=ha;refine(I.aY b ob e).lX (λc w' hc q=>(hs.2 c ?_).trans q) (λ_ q=>q) λ_ _ q=>q;rintro rfl;rcases hc with rfl|hc
  ·rw[xq]at e;cases e
  ·rw[xq]at hc;cases hc
 rcases hx with hk|hk
 ·refine wpAny_storeName_local hk hn (λh' Jm hs=>?_) zP
  obtain⟨oL,_,_,Sq,_⟩:=id hn;refine h _ ⟨I.ok,I.os,I.bare,⟨λb o e n hb hx=>?_,λb o e n hb hx=>?_,I.ay.free,λb o e hx=>?_,I.ay.jQ,I.ay.jG,I.ay.jx⟩,⟨_,Jm,λj y v' e1 e2 e3=>?_⟩,λy c e=>?_,I.free,I.ki,λp hp=>?_,tracked ⟨oL,Sq,I.free⟩ hs,by simpa using I.len⟩ ⟨_,hs,.inl rfl⟩
  ·exact(hs.2 b (fA (gz (cC e) I.ok.above))).trans (I.ay.keep b o e n hb hx)
  ·obtain⟨sl,e1⟩:=I.ay.slot b o e n hb hx
   exact⟨sl,(hs.2 b (fA (gz (cC e) I.ok.above))).trans e1⟩
  ·obtain⟨o',e1⟩:=I.ay.there b o e hx
   exact⟨o',(hs.2 b (fA (gz (cC e) I.ok.above))).trans e1⟩
  ·by_cases hj:j=i
   ·subst hj
    rw[hi]at e1;cases e1;rw[AS CH]at e2;cases e2;exact⟨u,r,.inl ⟨hk,by simp⟩⟩
   ·rw[LW (e9 hj)]at e2
    obtain⟨u',r',q⟩:=hl j y v' e1 e2 e3;refine⟨u',r',?_⟩;rcases q with⟨k,e⟩|⟨k,c,e,z⟩
    ·refine .inl ⟨k,?_⟩
     have:y≠x:=λe=>hj (Im hN e1 (e▸hi));simp[this,e]
    ·exact .inr ⟨k,c,e,z.sameBut hs (kl y c e)⟩
  ·obtain⟨w',z⟩:=I.cell y c e
   exact⟨w',z.sameBut hs (kl y c e)⟩
  ·obtain⟨e,n,ne,nf,d⟩:=I.pin p hp
   exact⟨(hs.2 p.1 ne).trans e,n,ne,nf,d⟩
 ·have rQ:X.fn x=true:=by
   rcases hf with z|z
   ·exact z
   ·rw[z]at hk;cases hk
  obtain⟨c,hc⟩:=I.ok.has x (.inl hk);obtain⟨w',z⟩:=I.cell x c hc;refine wpAny_storeName_cell I.ok.kind hk hc z (λh' iV hs=>?_);obtain⟨oc,So,a5J⟩:=id z;refine h {s with heap:=h'} ⟨I.ok,I.os,I.bare,⟨λb o e n hb hx=>?_,λb o e n hb hx=>?_,I.ay.free,λb o e hx=>?_,I.ay.jQ,I.ay.jG,I.ay.jx⟩,⟨m,hn.sameBut hs (e9 (kl x c hc)),λj y v' e1 e2 e3=>?_⟩,λy c' e=>?_,I.free,I.ki,λp hp=>?_,tracked ⟨oc,So,I.ki x c hc⟩ hs,by simpa using I.len⟩ ⟨c,hs,.inr hc⟩
  ·exact(hs.2 b (fA (gz (cC e) (I.ok.sL x c rQ hc)))).trans (I.ay.keep b o e n hb hx)
  ·obtain⟨sl,e1⟩:=I.ay.slot b o e n hb hx
   exact⟨sl,(hs.2 b (fA (gz (cC e) (I.ok.sL x c rQ hc)))).trans e1⟩
  ·obtain⟨o',e1⟩:=I.ay.there b o e hx
   exact⟨o',(hs.2 b (fA (gz (cC e) (I.ok.sL x c rQ hc)))).trans e1⟩
  ·by_cases hj:j=i
   ·subst hj
    rw[hi]at e1;cases e1;rw[AS CH]at e2;cases e2;exact⟨u,r,.inr ⟨.inl hk,c,hc,iV⟩⟩
   ·rw[LW (e9 hj)]at e2
    obtain⟨u',r',q⟩:=hl j y v' e1 e2 e3;refine⟨u',r',?_⟩;rcases q with q|⟨k,c',e,z'⟩
    ·exact .inl q
    ·refine .inr ⟨k,c',e,z'.sameBut hs ?_⟩
     rintro rfl;exact hj (Im hN e1 (I.ok.inj _ _ _ e hc▸hi))
  ·by_cases SG:c'=c
   ·subst SG;exact⟨_,iV⟩
   ·obtain⟨w2,z2⟩:=I.cell y c' e
    exact⟨w2,z2.sameBut hs SG⟩
  ·obtain⟨e,n,ne,nf,d⟩:=I.pin p hp
   refine⟨(hs.2 p.1 ?_).trans e,n,ne,nf,d⟩;intro q;rw[q,So]at e;have q':oc=p.2:=dQ e;exact d w' (by rw[<-q'];exact a5J)
theorem vT{M:Model}{A:aj}{E:Value->ae->Prop}{i:Nat}{x:Str}{v:V}{u:Value}{Q:Unit->ae->Prop}(I:Inv X aw O H s)(hN:X.N.Nodup)(hi:X.N[i]? =some x)(hx:Loc X.env.scope x)(r:RelV v u) (h:∀s',Inv X aw (O.set i (some v)) H s'->Q () s')(hf:X.fn x=true\/X.env.scope.names.lookup x=some .local:=by first|exact .inl rfl|exact .inr rfl|assumption):wpAny M A (storeName X.env x u) Q E s:=MU I hN hi hx r (λs' I' _=>h s' I') hf
theorem Inv.Dt(I:Inv X aw O H s)(ho:s'.os=s.os)(u:Un (cX X.stack) ch H H' s.heap s'.heap)(aY:dN X.prog X.w H' s'.heap)(hg:AllBare s'.gens) (om:∀b∈ch,(b∈X.ex\/X.s₀.heap.objs.size<=b)/\b≠X.env.locals/\(∀x c,X.env.cells.lookup x=some c->c≠b)/\∀p∈X.pn++aw,p.1≠b):Inv X aw O H' s':=by obtain⟨h',g',d',t',o'⟩:=s';have e:o'=s.os:=ho;subst e;exact I.call (g':=g') (t':=t') (d':=d') u aY hg om
end
abbrev XK:=Value->Option Addr->Hp->Prop
abbrev St:=List (Option V)
abbrev VK:=V->Hp->Prop
abbrev TE:=St->Hp->VK->Prop
abbrev TT:=St->Hp->(Bool->Hp->Prop)->Prop
abbrev TA:=St->Hp->(List V->Hp->Prop)->Prop
structure Ends where
 nx:St->Hp->Prop
 rt:VK
 bk:St->Hp->Prop:=λ_ _=>False
 ct:St->Hp->Prop:=λ_ _=>False
abbrev TS:=Ends->St->Hp->Prop
def EP(X:Cx)(aw:List (Addr×Obj))(O:St)(Q:VK)(u:Value)(s':ae):Prop:=∃v H',Inv X aw O H' s'/\RelV v u/\Q v H'
def TP(X:Cx)(aw:List (Addr×Obj))(O:St)(Q:Bool->Hp->Prop)(b:Bool)(s':ae):Prop:=∃H',Inv X aw O H' s'/\Q b H'
def AP(X:Cx)(aw:List (Addr×Obj))(O:St)(Q:List V->Hp->Prop)(us:List Value)(s':ae):Prop:=∃vs H',Inv X aw O H' s'/\Vals vs us/\Q vs H'
def SP(X:Cx)(aw:List (Addr×Obj))(D:Ends)(f:Flow)(s':ae):Prop:=match f with | .next=>∃σ' H',Inv X aw σ' H' s'/\D.nx σ' H' | .brk=>∃σ' H',Inv X aw σ' H' s'/\D.bk σ' H' | .cont=>∃σ' H',Inv X aw σ' H' s'/\D.ct σ' H' | .ret u=>∃v σ' H',Inv X aw σ' H' s'/\RelV v u/\D.rt v H'
def PE(X:Cx)(e:Expr)(t:TE):Prop:=∀(aw:List (Addr×Obj))(s:ae)(O:St)(H:Hp)(Q:VK),Inv X aw O H s->t O H Q->wpAny (model X.prog X.w) X.A (eval e X.env) (EP X aw O Q) X.xe s
def PT(X:Cx)(e:Expr)(t:TT):Prop:=∀(aw:List (Addr×Obj))(s:ae)(O:St)(H:Hp)(Q:Bool->Hp->Prop),Inv X aw O H s->t O H Q->wpAny (model X.prog X.w) X.A (isTrue e X.env (eval e X.env)) (TP X aw O Q) X.xe s
def PW(X:Cx)(e:Expr)(t:TT):Prop:=∀(whole:Sem Value)(aw:List (Addr×Obj))(s:ae)(O:St)(H:Hp)(Q:Bool->Hp->Prop),Inv X aw O H s->t O H Q->wpAny (model X.prog X.w) X.A (isTrue e X.env whole) (TP X aw O Q) X.xe s
theorem PW.pt{t:TT}(h:PW X e t):PT X e t:=h _
def PA(X:Cx)(es:List Expr)(t:TA):Prop:=∀(pos:Pos)(aw:List (Addr×Obj))(s:ae)(O:St)(H:Hp)(Q:List V->Hp->Prop),Inv X aw O H s->t O H Q->wpAny (model X.prog X.w) X.A (spliced (backTo pos (starEach es X.env))) (AP X aw O Q) X.xe s
def PS(X:Cx)(st:Stmt)(t:TS):Prop:=∀(aw:List (Addr×Obj))(s:ae)(O:St)(H:Hp)(D:Ends),Inv X aw O H s->t D O H->wpAny (model X.prog X.w) X.A (exec st X.env) (SP X aw D) X.xe s
def ie(X:Cx)(st:List Stmt)(t:TS):Prop:=∀(aw:List (Addr×Obj))(s:ae)(O:St)(H:Hp)(D:Ends),Inv X aw O H s->t D O H->wpAny (model X.prog X.w) X.A (execs st X.env) (SP X aw D) X.xe s
theorem bc{α:Type}{t:Sem α}{Q Q':α->ae->Prop}{M:Model}{A:aj}{E:Value->ae->Prop}{s:ae}(h:wpAny M A t Q E s)(hQ:∀a s,Q a s->Q' a s):wpAny M A t Q' E s:=iM h hQ λ_ _ x=>x
section
variable {X:Cx}
inductive abV(i:Nat)(O:St)(H:Hp)(Q:VK):Prop |mk (v:_)(h0:O[i]? =some (some v))(h1:Q v H)
def kY(i:Nat):TE:=λO H Q=>abV i O H Q
def tC (v:V):TE:=λ_ H Q=>Q v H
theorem Qa(hN:X.N[i]? =some x)(hv:DC X.env.scope x)(hd:(x==("__debug__":Str))=false:=by decide)(gF:(x==("__classdict__":Str))=false:=by decide):PE X (.Name x pos) (kY i):=by
 intro aw s O H Q I h;obtain⟨v,e,h⟩:=h;obtain⟨m,hn,hl⟩:=I.loc;obtain⟨u,r,l⟩:=hl i x v hN e hv;have fin:EP X aw O Q u s:=⟨v,H,I,r,h⟩;rcases l with⟨hk,hm⟩|⟨hk,c,hc,mU⟩
 ·exact wpAny_Name (wpAny_loadName_local I.ok.kind hk hn hm fin) hd
 ·rcases hk with hk|hk
  ·exact wpAny_Name (wpAny_loadName_cell I.ok.kind hk hc mU fin) hd
  ·exact wpAny_Name (wpAny_loadName_free I.ok.kind hk hc mU fin gF) hd
theorem aD{i j pos}:PE X (.Constant (.int i) j pos) (tC (.int i)):=λ_ _ _ H _ I h=>wpAny_Constant_int ⟨.int i,H,I.tok _,⟨_,Z⟩,h⟩
theorem gC{b j pos}:PE X (.Constant (.bool b) j pos) (tC (.bl b)):=λ_ _ _ H _ I h=>Constant_bool ⟨.bl b,H,I,Z,h⟩
theorem jV{j pos}:PE X (.Constant .none j pos) (tC .bB):=λ_ _ _ H _ I h=>Constant_none ⟨.bB,H,I,Z,h⟩
theorem aV{x j pos}:PE X (.Constant (.str x) j pos) (tC (.str x)):=λ_ _ _ H _ I h=>Calls.Constant_str ⟨.str x,H,I.tok _,⟨_,Z⟩,h⟩
def Gl(X:Cx)(x:Str):Prop:=X.env.kindOf x=some .globalImplicit
theorem uA{E:Value->ae->Prop}{aw:List (Addr×Obj)}{s:ae}{O:St}{H:Hp}{x:Str}{u:Value}{pos:Pos}{Q:Value->ae->Prop}(I:Inv X aw O H s)(hg:Gl X x)(hm:X.mg x=some u)(h:Q u s) (hd:(x==("__debug__":Str))=false:=by decide):wpAny (model X.prog X.w) X.A (eval (.Name x pos) X.env) Q E s:=Calls.Name_function_global I.ok.kind hg (Calls.loadGlobal_global (by rw[I.ok.glob];exact I.mod.glob.keeps I.bk) hm h) hd
theorem pQ{E:Value->ae->Prop}{aw:List (Addr×Obj)}{s:ae}{O:St}{H:Hp}{x:Str}{u:Value}{pos:Pos}{Q:Value->ae->Prop}(I:Inv X aw O H s)(hg:Gl X x)(hm:X.mg x=none)(hv:bootBuiltins x=some u)(h:Q u s) (hn:x≠"__name__":=by decide)(hd:(x==("__debug__":Str))=false:=by decide):wpAny (model X.prog X.w) X.A (eval (.Name x pos) X.env) Q E s:=by obtain⟨mb,h1,h2⟩:=I.mod.blt;exact Calls.Name_function_global I.ok.kind hg (Calls.loadGlobal_builtin (by rw[I.ok.glob];exact I.mod.glob.keeps I.bk) hm (by rw[I.ok.blt];exact h1.keeps I.bk) ((h2 x hn).trans hv) h) hd
theorem a0X{v:V}(hg:Gl X x)(hm:X.mg x=some u)(r:RelV v u)(hd:(x==("__debug__":Str))=false:=by decide):PE X (.Name x pos) (tC v):=λ_ _ _ H _ I h=>uA I hg hm ⟨v,H,I,r,h⟩ hd
theorem dy{v:V}(hg:Gl X x)(hm:X.mg x=none)(hv:bootBuiltins x=some u)(r:RelV v u)(hn:x≠"__name__":=by decide)(hd:(x==("__debug__":Str))=false:=by decide):PE X (.Name x pos) (tC v):=λ_ _ _ H _ I h=>pQ I hg hm hv ⟨v,H,I,r,h⟩ hn hd
variable {a b:Expr}{ta tb:TE}{pos:Pos}
inductive ItB(Q:Bool->Hp->Prop)(x:V)(H1:Hp):Prop |mk (c:_)(h0:x= .bl c)(h1:Q c H1)
def tB(t:TE):TT:=λO H Q=>t O H λx H1=>ItB Q x H1
theorem cV{t:TE}(h:PE X e t)(he:∀whole,isTrue e X.env whole=(do let v<-whole;standAt e.pos;holding [v] (truthy v)):=by intro _;rfl):PT X e (tB t):=by intro aw s O H Q I hw;refine isTrue_plain (bc (h aw s O H _ I hw) λv s1 ⟨x,H1,I1,r1,q1⟩=>?_) (he _);obtain⟨d,rfl,q⟩:=q1;cases r1;exact qD ⟨H1,I1,q⟩
variable {tA Bm:TT} {rest:List Expr}
def Y3(t u:TT):TT:=λO H Q=>t O H λc H1=>if c=true then u O H1 Q else Q false H1
def XO(t u:TT):TT:=λO H Q=>t O H λc H1=>if c=true then Q true H1 else u O H1 Q
def XR(t:TT):TT:=λO H Q=>t O H λc H1=>Q (!c) H1
theorem uc(ha:PT X a tA):PW X (.BoolOp .And [a] pos) tA:=by intro wh aw s O H Q I h;refine isTrue_and (bc (ha aw s O H Q I h) λc s1 e=>?_);cases c with |true=>exact isTrue_and_nil e |false=>exact e
theorem mH(ha:PT X a tA):PW X (.BoolOp .Or [a] pos) tA:=by intro wh aw s O H Q I h;refine isTrue_or (bc (ha aw s O H Q I h) λc s1 e=>?_);cases c with |false=>exact isTrue_or_nil e |true=>exact e
theorem pF(ha:PT X a tA)(hb:PW X (.BoolOp .And (b::rest) pos) Bm):PW X (.BoolOp .And (a::b::rest) pos) (Y3 tA Bm):=by intro wh aw s O H Q I h;refine isTrue_and (bc (ha aw s O H _ I h) λc s1 ⟨H1,I1,q1⟩=>?_);cases c with |true=>exact hb wh aw s1 O H1 Q I1 q1 |false=>exact⟨H1,I1,q1⟩
theorem m5(ha:PT X a tA)(hb:PW X (.BoolOp .Or (b::rest) pos) Bm):PW X (.BoolOp .Or (a::b::rest) pos) (XO tA Bm):=by intro wh aw s O H Q I h;refine isTrue_or (bc (ha aw s O H _ I h) λc s1 ⟨H1,I1,q1⟩=>?_);cases c with |true=>exact⟨H1,I1,q1⟩ |false=>exact hb wh aw s1 O H1 Q I1 q1
theorem fD(ha:PT X a tA):PT X (.UnaryOp .Not a pos) (XR tA):=by intro aw s O H Q I h;exact isTrue_not (ha aw s O H (λc H1=>Q (!c) H1) I h)
inductive ac5(tb:TE)(O:St)(Q:VK)(x:V)(H1:Hp):Prop |mk (c:_)(h0:x= .bl c)(h1:if c=true then tb O H1 Q else Q (.bl false) H1)
def Y2(ta tb:TE):TE:=λO H Q=>ta O H λx H1=>ac5 tb O Q x H1
inductive ac0(Q:VK)(x:V)(H1:Hp):Prop |mk (c:_)(h0:x= .bl c)(h1:Q (.bl (!c)) H1)
def XQ(ta:TE):TE:=λO H Q=>ta O H λx H1=>ac0 Q x H1
theorem j9{op}{t:TE}(h:PE X a t):PE X (.BoolOp op [a] pos) t:=λaw s O H Q I hw=>BoolOp_one (h aw s O H Q I hw)
theorem iR(ha:PE X a ta)(hb:PE X (.BoolOp .And (b::rest) pos) tb):PE X (.BoolOp .And (a::b::rest) pos) (Y2 ta tb):=by intro aw s O H Q I h;refine BoolOp_and (bc (ha aw s O H _ I h) λv s1 ⟨x,H1,I1,r1,q1⟩=>?_);obtain⟨c,rfl,q1⟩:=q1;cases r1;refine qD ?_;cases c with |true=>exact hb aw s1 O H1 Q I1 q1 |false=>exact⟨.bl false,H1,I1,Z,q1⟩
theorem Qb(ha:PE X a ta):PE X (.UnaryOp .Not a pos) (XQ ta):=by intro aw s O H Q I h;refine UnaryOp_ (bc (ha aw s O H _ I h) λv s1 ⟨x,H1,I1,r1,q1⟩=>?_);obtain⟨c,rfl,q1⟩:=q1;cases r1;exact not_of (qD ⟨.bl (!c),H1,I1,Z,q1⟩)
def XX(t:TT)(ta tb:TE):TE:=λO H Q=>t O H λc H1=>if c=true then ta O H1 Q else tb O H1 Q
theorem Qe(hc:PT X c tA)(ha:PE X a ta)(hb:PE X b tb):PE X (.IfExp c a b pos) (XX tA ta tb):=by intro aw s O H Q I h;refine wpAny_IfExp (bc (hc aw s O H _ I h) λd s1 ⟨H1,I1,q1⟩=>?_);cases d with |true=>exact ha aw s1 O H1 Q I1 q1 |false=>exact hb aw s1 O H1 Q I1 q1
end
def aH(K:aa)(H:Hp)(a:Addr)(xs:List V):Prop:=Rd H a (.lst xs)\/ ∃(o:Obj)(its:Array Value)(n:Nat),K.lookup a=some o/\o.cls= .type "list"/\o.dict=none/\o.data= .seq its n/\its.size<=sizeLine/\Vals xs its.toList
def aR(K:aa)(H:Hp)(a:Addr)(xs:List V):Prop:=Rd H a (.tup xs)\/ ∃(o:Obj)(its:Array Value)(n:Nat),K.lookup a=some o/\o.cls= .type "tuple"/\o.data= .seq its n/\its.size<=sizeLine/\Vals xs its.toList
def aby:Value->Option V | .none=>some .bB | .bool b=>some (.bl b) | .int i _=>some (.int i) | .str x _=>some (.str x) | .bytes b _=>some (.xS b) | .float b _=>some (.CZ b) | .ref a=>some (.ref a) | .type n=>some (.ty n) |_=>none
theorem RelV.abs(r:RelV x u):aby u=some x:=by cases x with |bB=>cases r;rfl |bl _=>cases r;rfl |int _=>obtain⟨t,rfl⟩:=r;rfl |str _=>obtain⟨t,rfl⟩:=r;rfl |xS _=>obtain⟨t,rfl⟩:=r;rfl |CZ _=>obtain⟨t,rfl⟩:=r;rfl |ref _=>cases r;rfl |ty _=>cases r;rfl
theorem RelV.inj{x y:V}{u:Value}(r:RelV x u)(q:RelV y u):x=y:=dQ (r.abs.symm.trans q.abs)
theorem Vals.inj:∀{xs ys:List V}{us:List Value},Vals xs us->Vals ys us->xs=ys |_,_,_,.nil,.nil=>rfl |_,_,_,.cons r t,.cons r' t'=>by rw[r.inj r',Vals.inj t t']
section
variable {X:Cx}{aw:List (Addr×Obj)}{O:St}{H:Hp}{s:ae}{a:Addr}{xs ys:List V}
theorem aH.of{K:aa}(h:H a=some (.lst xs)):aH K H a xs:=.inl (.inl h)
theorem aR.of{K:aa}(h:H a=some (.tup xs)):aR K H a xs:=.inl (.inl h)
theorem Inv.list(I:Inv X aw O H s)(h:aH X.K H a xs):∃its:List Value,Vals xs its/\PlainL s.heap a its.toArray/\xs.length<=sizeLine:=by
 rcases h with h|⟨o,its,n,hk,hc,hd,hs,hz,r⟩
 ·obtain⟨z,its,n,r,e⟩:=h.ok I.aY
  exact⟨its,r,⟨_,n,e,Z,Z,Z⟩,z⟩
 ·refine⟨its.toList,r,⟨o,n,I.fV a o hk,hc,hd,by simpa using hs⟩,?_⟩
  have e:=r.length;simp only[AY]at e
  lia
theorem Inv.tuple(I:Inv X aw O H s)(h:aR X.K H a xs):∃its:List Value,Vals xs its/\IsTup s.heap a its.toArray/\xs.length<=sizeLine:=by
 rcases h with h|⟨o,its,n,hk,hc,hs,hz,r⟩
 ·obtain⟨z,its,r,p⟩:=h.ok I.aY
  exact⟨its,r,p,z⟩
 ·refine⟨its.toList,r,⟨o,I.fV a o hk,hc,n,by simpa using hs⟩,?_⟩
  have e:=r.length;simp only[AY]at e
  lia
theorem Inv.RF(I:Inv X aw O H s)(h:aH X.K H a xs)(h':aH X.K H a ys):xs=ys:=by
 obtain⟨its,r,⟨o,n,e,_,_,d⟩,_⟩:=I.list h;obtain⟨its',r',⟨o',n',e',_,_,d'⟩,_⟩:=I.list h';rw[e]at e';cases e';rw[d]at d';injection d' with d1 _;have:its=its':=by simpa using congrArg Array.toList d1
 subst this;exact r.inj r'
theorem Inv.My(I:Inv X aw O H s)(h:aR X.K H a xs)(h':aR X.K H a ys):xs=ys:=by
 obtain⟨its,r,⟨o,e,_,n,d⟩,_⟩:=I.tuple h;obtain⟨its',r',⟨o',e',_,n',d'⟩,_⟩:=I.tuple h';rw[e]at e';cases e';rw[d]at d';injection d' with d1 _;have:its=its':=by simpa using congrArg Array.toList d1
 subst this;exact r.inj r'
end
abbrev Cx.jf(X:Cx)(E:Value->ae->Prop):Cx:={X with xe:=E}
abbrev Cx.pO(X:Cx):Cx:=X.jf λ_ _=>False
theorem Cx.Ok.jf{X:Cx}(ok:X.Ok)(E:Value->ae->Prop):(X.jf E).Ok:=⟨ok.mod,ok.kind,ok.glob,ok.blt,ok.above,ok.inj,ok.has,ok.sL,ok.hd,ok.frames,ok.vV,ok.D6,ok.bs,ok.my,ok.uq,ok.si,ok.jF,ok.ou⟩
theorem Cx.Ok.nI{X:Cx}{E:Value->ae->Prop}(ok:(X.jf E).Ok):X.Ok:=⟨ok.mod,ok.kind,ok.glob,ok.blt,ok.above,ok.inj,ok.has,ok.sL,ok.hd,ok.frames,ok.vV,ok.D6,ok.bs,ok.my,ok.uq,ok.si,ok.jF,ok.ou⟩
section
variable {X:Cx}{aw:List (Addr×Obj)}{O:St}{H:Hp}{s:ae}{E:Value->ae->Prop}
theorem Inv.jf(I:Inv X aw O H s)(E:Value->ae->Prop):Inv (X.jf E) aw O H s:=⟨I.ok.jf E,I.os,I.bare,I.ay,I.loc,I.cell,I.free,I.ki,I.pin,I.aY,I.len⟩
theorem Inv.nI(I:Inv (X.jf E) aw O H s):Inv X aw O H s:=⟨I.ok.nI,I.os,I.bare,I.ay,I.loc,I.cell,I.free,I.ki,I.pin,I.aY,I.len⟩
theorem SP.nI{D:Ends}(h:SP (X.jf E) aw D f s'):SP X aw D f s':=by cases f with |next=>obtain⟨σ',H',I,q⟩:=h;exact⟨σ',H',I.nI,q⟩ |brk=>obtain⟨σ',H',I,q⟩:=h;exact⟨σ',H',I.nI,q⟩ |cont=>obtain⟨σ',H',I,q⟩:=h;exact⟨σ',H',I.nI,q⟩ |ret u=>obtain⟨v,σ',H',I,r,q⟩:=h;exact⟨v,σ',H',I.nI,r,q⟩
theorem ie.pO{st:List Stmt}{t:TS}(h:ie X.pO st t):ie X st t:=λaw s O H D I hw=>iM (h aw s O H D (I.jf _) hw) (λ_ _ q=>q.nI) λ_ _ z=>False.elim z
end
section
variable {X:Cx}{st:Stmt}{rest:List Stmt}{t u:TS}{e:Expr}{te:TE}{pos:Pos}
def Bl:TS:=λD O H=>D.nx O H
def Bk(t u:TS):TS:=λD O H=>t {D with nx:=u D} O H
theorem bU:ie X [] Bl:=λ_ _ O H _ I h=>AG ⟨O,H,I,h⟩
theorem aE(h1:PS X st t)(h2:ie X rest u):ie X (st::rest) (Bk t u):=by intro aw s O H D I h;refine wpAny_execs_cons (bc (h1 aw s O H {D with nx:=u D} I h) λf s1 q=>?_);cases f with |next=>obtain⟨σ',H',I',q⟩:=q;exact h2 aw s1 σ' H' D I' q |ret v=>exact q |brk=>exact q |cont=>exact q
theorem aL(h1:PS X st t):ie X [st] t:=by intro aw s O H D I h;refine wpAny_execs_cons (bc (h1 aw s O H D I h) λf s1 q=>?_);cases f with |next=>exact AG q |ret v=>exact q |brk=>exact q |cont=>exact q
theorem Inv.quiet{aw:List (Addr×Obj)}{O:St}{H:Hp}{s:ae}(I:Inv X aw O H s):interactive X.env=false:=by simp[interactive,I.ok.kind]
def XZ(te:TE):TS:=λD O H=>te O H λ_ H1=>D.nx O H1
theorem iA(he:PE X e te)(hs:swapsWith e none pos.line X.env=pure false:=by rfl):PS X (.Expr e pos) (XZ te):=by intro aw s O H D I h;exact wpAny_Expr_any (bc (he aw s O H _ I h) λv s1 ⟨x,H1,I1,r1,q1⟩=>⟨O,H1,I1,q1⟩) I.quiet hs
def MH(te:TE):TS:=λD O H=>te O H D.rt
theorem aX(he:PE X e te):PS X (.Return (some e) pos) (MH te):=by intro aw s O H D I h;exact wpAny_Return_some (bc (he aw s O H _ I h) λv s1 ⟨x,H1,I1,r1,q1⟩=>⟨x,O,H1,I1,r1,q1⟩)
def EH(c:TT)(t u:TS):TS:=λD O H=>c O H λb H1=>if b=true then t D O H1 else u D O H1
theorem bR(hc:PT X c tc)(ha:ie X a t)(hb:ie X b u):PS X (.If c a b pos) (EH tc t u):=by intro aw s O H D I h;refine wpAny_If (bc (hc aw s O H _ I h) λd s1 ⟨H1,I1,q1⟩=>?_);cases d with |true=>exact ha aw s1 O H1 D I1 q1 |false=>exact hb aw s1 O H1 D I1 q1
def XS:TS:=λ_ _ _=>False
theorem HQ:PS X st XS:=λ_ _ _ _ _ _ h=>h.elim
end
abbrev TG:=V->St->Hp->(St->Hp->Prop)->Prop
abbrev oP:=List V->St->Hp->(St->Hp->Prop)->Prop
def PG(X:Cx)(target:Expr)(t:TG):Prop:=∀(aw:List (Addr×Obj))(s:ae)(O:St)(H:Hp)(v:V)(u:Value)(Q:St->Hp->Prop),Inv X aw O H s->RelV v u->t v O H Q->wpAny (model X.prog X.w) X.A (assign target X.env u) (λ_ s'=>∃σ' H',Inv X aw σ' H' s'/\Q σ' H') X.xe s
def Av(X:Cx)(ts:List Expr)(t:oP):Prop:=∀(aw:List (Addr×Obj))(s:ae)(O:St)(H:Hp)(vs:List V)(us:List Value)(Q:St->Hp->Prop),Inv X aw O H s->Vals vs us->t vs O H Q->wpAny (model X.prog X.w) X.A (assignInOrder ((assignEach ts X.env).map (·.2)) us) (λ_ s'=>∃σ' H',Inv X aw σ' H' s'/\Q σ' H') X.xe s
abbrev Lj:=V->V->V->Hp->(Hp->Prop)->Prop
def VT(X:Cx)(t:Lj):Prop:=∀(aw:List (Addr×Obj))(s:ae)(O:St)(H:Hp)(o i v:V)(ov iv u:Value)(Q:Hp->Prop),Inv X aw O H s->RelV o ov->RelV i iv->RelV v u->t o i v H Q->wpAny (model X.prog X.w) X.A (setItem ov iv u) (λ_ s'=>∃H',Inv X aw O H' s'/\Q H') X.xe s
abbrev Vy:=V->V->Hp->VK->Prop
def PIp(X:Cx)(op:Operator)(t:Vy):Prop:=∀(aw:List (Addr×Obj))(s:ae)(O:St)(H:Hp)(x y:V)(v u:Value)(Q:VK),Inv X aw O H s->RelV x v->RelV y u->t x y H Q->wpAny (model X.prog X.w) X.A (inplaceOp op v u) (EP X aw O Q) X.xe s
section
variable {X:Cx} {pos:Pos}
def fo(i:Nat):TG:=λv O H Q=>Q (O.set i (some v)) H
theorem a0P(hN:X.N.Nodup)(hi:X.N[i]? =some x)(hx:Loc X.env.scope x)(hf:X.fn x=true\/X.env.scope.names.lookup x=some .local:=by first|exact .inl rfl|exact .inr rfl|assumption):PG X (.Name x pos) (fo i):=by intro aw s O H v u Q I r h;exact wpAny_assign_Name (vT I hN hi hx r (λs' I'=>⟨_,H,I',h⟩) hf)
def rZ:oP:=λvs O H Q=>vs=[]/\Q O H
inductive adR(t:TG)(u:oP)(vs:List V)(O:St)(H:Hp)(Q:St->Hp->Prop):Prop |mk (v:_)(r:_)(h0:vs=v::r)(h1:t v O H λσ' H'=>u r σ' H' Q)
def kh(t:TG)(u:oP):oP:=λvs O H Q=>adR t u vs O H Q
theorem eu:Av X [] rZ:=by intro aw s O H vs us Q I r h;obtain⟨e,h⟩:=h;subst e;cases r;exact assignInOrder_nil ⟨O,H,I,h⟩
theorem bZ{t:TG}(h1:PG X e t)(h2:Av X es u) (hs:(assignEach (e::es) X.env).map (·.2)=assign e X.env::(assignEach es X.env).map (·.2):=by rfl):Av X (e::es) (kh t u):=by intro aw s O H vs us Q I r h;obtain⟨v,vr,e1,h⟩:=h;subst e1;cases r with |cons r rr=>rw[hs];refine assignInOrder_cons (bc (h1 aw s O H _ _ _ I r h) λ_ s1 ⟨σ1,H1,I1,q1⟩=>?_);exact h2 aw s1 σ1 H1 _ _ Q I1 rr q1
inductive adQ(K:aa)(n:Nat)(t:oP)(v:V)(O:St)(H:Hp)(Q:St->Hp->Prop):Prop |mk (a:_)(xs:_)(h0:v= .ref a)(h1:aR K H a xs)(h2:xs.length=n)(h3:t xs O H Q)
def qi(K:aa)(n:Nat)(t:oP):TG:=λv O H Q=>adQ K n t v O H Q
theorem a0O{k:Nat}{t:oP}(hc:X.calm=true)(h:Av X es t) (hn:(assignEach es X.env).length=n:=by rfl)(gD:(assignEach es X.env).findIdx? (·.1)=none:=by rfl):PG X (.Tuple es k pos) (qi X.K n t):=by intro aw s O H v u Q I r hw;obtain⟨a,xs,e1,hq,hl,hw⟩:=hw;subst e1;cases r;obtain⟨its,rv,ht,hz⟩:=I.tuple hq;refine assign_Tuple_tuple (I.ok.hd hc) ht (by simp[hn,<-hl,rv.length]) gD λh' hx=>?_;have I1:Inv X aw O H {s with heap:=h'}:=I.kept (t':=s.toks) λb o e=>hx b o (fA (cC e)) e;exact h aw _ O H xs _ Q I1 (by simpa using rv) hw
def a87(to ti:TE)(t:Lj):TG:=λv O H Q=>to O H λo H1=>ti O H1 λi H2=>t o i v H2 λH3=>Q O H3
theorem ug{to:TE}{t:Lj}(ho:PE X o to)(hi:PE X i ti)(hs:VT X t) (ha:∀v,assign (.Subscript o i pos) X.env v=(do
 let ov<-holding [v] (eval o X.env)
 let iv<-holding [v,ov] (eval i X.env)
 standAt pos
 holding [v,ov,iv] (setItem ov iv v)
 release [v,ov,iv] []):=by intro _;rfl):PG X (.Subscript o i pos) (a87 to ti t):=by
 intro aw s O H v u Q I r h;rw[ha];refine aK (mE (bc (ho aw s O H _ I h) λov s1 ⟨x,H1,I1,r1,q1⟩=>?_));refine aK (mE (bc (hi aw s1 O H1 _ I1 q1) λiv s2 ⟨y,H2,I2,r2,q2⟩=>?_));refine aK (y9 (aK (mE (bc (hs aw s2 O H2 x y v ov iv u _ I2 r1 r2 r q2) λ_ s3 ⟨H3,I3,q3⟩=>?_))));exact wpAny_release ⟨O,H3,I3,q3⟩
def yD(te:TE)(g:TG):TS:=λD O H=>te O H λx H1=>g x O H1 D.nx
theorem fZ(he:PE X e te)(hg:PG X tg g)(hs:swapsWithSole [tg] e pos.line X.env=pure false:=by rfl)(hw:swappedStores [tg] e X.env=pure none:=by rfl) (h1:(assignEach [tg] X.env).map (·.2)=[assign tg X.env]:=by rfl):PS X (.Assign [tg] e pos) (yD te g):=by intro aw s O H D I h;refine wpAny_Assign_stores (bc (he aw s O H _ I h) λv s1 ⟨x,H1,I1,r1,q1⟩=>?_) hs hw;rw[h1];exact bc (hg aw s1 O H1 x v _ I1 r1 q1) λ_ s2 q=>q
theorem a0w(hN:X.N.Nodup)(hi:X.N[i]? =some x)(hx:Loc X.env.scope x)(he:PE X e te)(hs:swapsWith e (some (.Name x pos')) pos.line X.env=pure false:=by rfl)(hf:X.fn x=true\/X.env.scope.names.lookup x=some .local:=by first|exact .inl rfl|exact .inr rfl|assumption): PS X (.Assign [.Name x pos'] e pos) (yD te (fo i)):=by intro aw s O H D I h;refine wpAny_Assign_Name (bc (he aw s O H _ I h) λv s1 ⟨y,H1,I1,r1,q1⟩=>?_) hs;exact vT I1 hN hi hx r1 (λs2 I2=>⟨_,H1,I2,q1⟩) hf
inductive abZ(i:Nat)(j:Nat)(D:Ends)(O:St)(vs:List V)(H1:Hp):Prop |mk (v:_)(w:_)(h0:vs=[v,w])(h1:D.nx ((O.set i (some v)).set j (some w)) H1)
def XN(i j:Nat)(ta:TA):TS:=λD O H=>ta O H λvs H1=>abZ i j D O vs H1
theorem pG{px pt:Pos}{kt k2 HP}(hc:X.calm=true)(hN:X.N.Nodup)(hi:X.N[i]? =some x)(hj:X.N[j]? =some y)(hij:i≠j) (hx:X.env.scope.names.lookup x=some .local)(hy:X.env.scope.names.lookup y=some .local)(ha:PA X [a,b] ta) (hw:swappedStores [.Tuple [.Name x px,.Name y py] kt pt] (.Tuple [a,b] k2 HP) X.env=pure (some [x,y])) (hs:swapsWithSole [.Tuple [.Name x px,.Name y py] kt pt] (.Tuple [a,b] k2 HP) pos.line X.env=pure false:=by rfl): PS X (.Assign [.Tuple [.Name x px,.Name y py] kt pt] (.Tuple [a,b] k2 HP) pos) (XN i j ta):=by
 intro aw s O H D I h;rw[exec_Assign_arm];refine aK (y9 ?_);rw[hs];refine aK (cf ?_);rw[bf aA];refine aK (Tuple_ (bc (ha _ aw s O H _ I h) λus s1 ⟨vs,H1,I1,r1,q1⟩=>?_));obtain⟨v,w,e1,q1⟩:=q1;subst e1;obtain⟨u1,u2,rfl,rv,jg⟩:∃u1 u2,us=[u1,u2]/\RelV v u1/\RelV w u2:=by cases r1 with |cons p q=>cases q with |cons p' q'=>cases q';exact⟨_,_,Z,p,p'⟩
 refine qE ?_ (by show 2<=sizeLine;decide);have I2:Inv X aw O H1 {s1 with heap:=s1.heap.push {cls:=.type "tuple",data:=.seq [u1,u2].toArray}}:=I1.kept (t':=s1.toks) λb o e=>cy _ e;rw[hw];refine aK (cf ?_);show wpAny (model X.prog X.w) X.A (do rule "assign.swapped-stores";let items<-unpackItems (.ref s1.heap.objs.size) 2 none;assignInOrder [λv=>bindName X.env y v,λv=>bindName X.env x v] items.reverse;pure Flow.next) _ _ _;refine aK (wpAny_rule (aK (unpackItems_tuple (items:=#[u1,u2]) (I.ok.hd hc) (IsTup.new s1.heap _) λh' hx'=>?_)));have I3:=I2.kept (h':=h') (t':=s1.toks) λb o e=>hx' b o (fA (cC e)) e;show wpAny _ _ (assignInOrder [λv=>bindName X.env y v,λv=>bindName X.env x v] [u2,u1]>>=λ_=>pure Flow.next) _ _ _;refine aK (assignInOrder_cons (wpAny_bindName (vT I3 hN hj (.inl hy) jg (λs2 I4=>?_) (.inr hy))));refine assignInOrder_cons (wpAny_bindName (vT I4 hN hi (.inl hx) rv (λs3 I5=>assignInOrder_nil (cf ?_)) (.inr hx)));rw[List.set_comm _ _ (e9 hij)]at I5;exact⟨_,H1,I5,q1⟩
inductive adG(f:Int->Int->Int)(x:V)(y:V)(H:Hp)(Q:VK):Prop |mk (i:_)(j:_)(h0:x= .int i)(h1:y= .int j)(h2:Q (.int (f i j)) H)
def ipI(f:Int->Int->Int):Vy:=λx y H Q=>adG f x y H Q
theorem a4W:PIp X .Add (ipI λi j=>i+j):=by intro aw s O H x y v u Q I r1 r2 h;obtain⟨i,j,e1,e2,q⟩:=h;subst e1;subst e2;obtain⟨t,rfl⟩:=r1;obtain⟨t',rfl⟩:=r2;exact iadd_int ⟨.int _,H,I.tok _,⟨_,Z⟩,q⟩
def ME(c:TT)(tb:TS):TS:=λD O H=>∃W:Nat->St->Hp->Prop,(∃m,W m O H)/\∀m O H,W m O H->c O H λb H1=>if b=true then∃N:St->Hp->Prop,(∀σ' H',N σ' H'->∃m',m'<m/\W m' σ' H')/\tb {D with nx:=N,ct:=N,bk:=D.nx} O H1 else D.nx O H1
theorem nS(hp:PassesOwn (model X.prog X.w) X.A X.env X.xe)(hc:PT X c tc)(hb:ie X body tb):PS X (.While c body [] pos) (ME tc tb):=by intro aw s O H D I h;obtain⟨W,⟨m0,w0⟩,turn⟩:=h;refine wpAny_While (codeAny_whileLoop (λn s'=>∃σ' H',Inv X aw σ' H' s'/\W n σ' H') ?_ m0 ⟨O,H,I,w0⟩);rintro n s1 ⟨σ1,H1,I1,w1⟩;refine yb hp (bc (hc aw s1 σ1 H1 _ I1 (turn n σ1 H1 w1)) λb s2 ⟨H2,I2,q2⟩=>?_);cases b with
 |true=>obtain⟨N,hN,q2⟩:=q2;rw[bh rfl];refine yb hp (bc (hb aw s2 σ1 H2 _ I2 q2) λf s3 q3=>?_);cases f with |next=>obtain⟨σ3,H3,I3,n3⟩:=q3;obtain⟨m',hm,w3⟩:=hN σ3 H3 n3;exact⟨m',hm,σ3,H3,I3,w3⟩ |cont=>obtain⟨σ3,H3,I3,n3⟩:=q3;obtain⟨m',hm,w3⟩:=hN σ3 H3 n3;exact⟨m',hm,σ3,H3,I3,w3⟩ |brk=>exact q3 |ret v=>exact q3
 |false=>rw[bf kF];exact AG ⟨σ1,H2,I2,q2⟩
end
structure It where
 go:Nat->Hp->Prop
 jO:Nat->Hp->V->Hp->Prop
 stop:Nat->Hp->Prop
def lS(X:Cx)(aw:List (Addr×Obj))(H:Hp)(b:Addr):Prop:=H b=none/\b≠X.env.locals/\b∉X.fs/\(b∈X.ex\/X.s₀.heap.objs.size<=b)/\(∀x c,X.env.cells.lookup x=some c->c≠b)/\∀p∈X.pn++aw,p.1≠b
theorem Inv.qj{X:Cx}{aw:List (Addr×Obj)}{O:St}{H H':Hp}{s:ae}{b:Addr}(I:Inv X aw O H s)(hb:s.heap.objs.size<=b)(hn:H' b=none):lS X aw H' b:=by
 refine⟨hn,AK (gz I.lt hb),I.QF hb,.inr (gM I.sz hb),λx c e z=>?_,λp hp z=>?_⟩
 ·obtain⟨v,q⟩:=I.cell x c e
  exact absurd (gz q.lt (by rw[z];exact hb)) (oV _)
 ·exact absurd (gz (cC (I.pin p hp).1) (by rw[z];exact hb)) (oV _)
structure Turn(P:ah)(w:World)(K:aa)(tg:Expr)(J:It)(fp:List Addr)(it:Addr)(tn:Nat->Heap->Prop):Prop where
 mem:it∈fp
 obj:∀i h,tn i h->∀b∈fp,∃o,h.get? b=some o/\∀v,o.data≠ .cell v
 keep:∀i h h',tn i h->(∀b∈fp,∀o,h.get? b=some o->h'.get? b=some o)->tn i h'
 item:∀(X:Cx),X.prog=P->X.w=w->X.K=K->X.calm=true->∀(i:Nat)(aw:List (Addr×Obj))(s:ae)(O:St)(H:Hp)(E:Value->ae->Prop),Inv X aw O H s->(∀b∈fp,lS X aw H b)->tn i s.heap->J.go i H->wpAny (model P w) X.A (pyNext (.ref it)) (λr s1=>∃u,r=some u/\wpAny (model P w) X.A (letOwnedTupleGo tg (.ref it) u) (λ_ s2=>∃x H',Inv X aw O H' s2/\RelV x u/\J.jO i H x H'/\tn (i+1) s2.heap/\∀b∈fp,H' b=none) E s1) E s
 done:∀(X:Cx),X.prog=P->X.w=w->X.K=K->X.calm=true->∀(i:Nat)(aw:List (Addr×Obj))(s:ae)(O:St)(H:Hp)(E:Value->ae->Prop),Inv X aw O H s->(∀b∈fp,lS X aw H b)->tn i s.heap->J.stop i H->wpAny (model P w) X.A (pyNext (.ref it)) (λr s1=>r=none/\Inv X aw O H s1) E s
 self:∀(A:aj)(i:Nat)(s:ae)(Q:Value->ae->Prop)(E:Value->ae->Prop),tn i s.heap->Q (.ref it) s->wpAny (model P w) A (pyIter (.ref it)) Q E s
abbrev TI:=St->Hp->(It->Hp->Prop)->Prop
def DK(X:Cx)(aw:List (Addr×Obj))(O:St)(tg:Expr)(R:It->Hp->Prop)(Co:Value)(s2:ae):Prop:=∃(it:Addr)(fp:List Addr)(tn:Nat->Heap->Prop)(J:It)(H':Hp),Co= .ref it/\Inv X aw O H' s2/\Turn X.prog X.w X.K tg J fp it tn/\tn 0 s2.heap/\(∀b∈fp,lS X aw H' b)/\R J H'
def PI(X:Cx)(tg iter:Expr)(wi:TI):Prop:=∀(aw:List (Addr×Obj))(s:ae)(O:St)(H:Hp)(R:It->Hp->Prop),Inv X aw O H s->wi O H R->wpAny (model X.prog X.w) X.A (eval iter X.env) (λv s1=>wpAny (model X.prog X.w) X.A (pyIter v) (DK X aw O tg R) X.xe s1) X.xe s
theorem xB{M:Model}{A:aj}{E:Value->ae->Prop}{s:ae}{tg:Expr}{it:Addr}{u:Value}{o:Obj}{n:String}{vs:Array Value}{Q:Unit->ae->Prop}(ho:s.heap.get? it=some o)(hc:o.cls= .type n)(hd:o.data= .fields vs) (hn:["enumerate","zip","dict_itemiterator","dict_reverseitemiterator","odict_iterator","itertools.zip_longest","itertools.pairwise"].contains n=false)(hQ:Q () s):wpAny M A (letOwnedTupleGo tg (.ref it) u) Q E s:=by unfold letOwnedTupleGo;cases tg<;>first |exact cf hQ |(cases u<;>first
        |exact cf hQ
        | (refine aK (wpAny_load ho ?_)
           rw[hc,hd];show wpAny M A (if(["enumerate","zip","dict_itemiterator","dict_reverseitemiterator","odict_iterator","itertools.zip_longest","itertools.pairwise"].contains n&&vs[0]? ==some (rawInt _))=true then _ else _) Q E s;rw[bf (by intro h;rw[hn,kU]at h;cases h)];exact cf hQ))
def sQ(K:aa)(a:Addr):It:=⟨λi H=>∃xs x,aH K H a xs/\xs[i]? =some x,λi H x H'=>H'=H/\∀xs,aH K H a xs->xs[i]? =some x,λi H=>∃xs,aH K H a xs/\xs.length<=i⟩
def qB(K:aa)(a:Addr):It:=⟨λi H=>∃xs x,aR K H a xs/\xs[i]? =some x,λi H x H'=>H'=H/\∀xs,aR K H a xs->xs[i]? =some x,λi H=>∃xs,aR K H a xs/\xs.length<=i⟩
def oQ(lo:Int)(n:Nat):It:=⟨λi _=>i<n,λi H x H'=>H'=H/\x= .int (lo+i),λi _=>n<=i⟩
theorem Xs{P:ah}{w:World}{K:aa}{tg:Expr}(a it:Addr):Turn P w K tg (sQ K a) [it] it (λi h=>h.IsListIter it a i) where
 mem:=by simp
 obj:=λi h st b hb=>by
  have e:b=it:=by simpa using hb
  subst e;obtain⟨o,e,c,d⟩:=st;exact⟨o,e,λv z=>by rw[d]at z;cases z⟩
 keep:=λi h h' st k=>st.at λo e=>k it (by simp) o e
 item:=by intro X hP hw hK hc i aw s O H E I hf st hg;subst hP hw hK;obtain⟨xs,x,hq,hx⟩:=hg;obtain⟨its,rv,p,hz⟩:=I.list hq;obtain⟨u,hu,ru⟩:=rv.get hx;obtain⟨f0,f1,f2,f3,f4,f5⟩:=hf it (by simp);refine wpAny_pyNext_list_item st p.isList (x:=u) (by simpa using hu) λh' gZ sb=>?_;have I1:Inv X aw O H {s with heap:=h'}:=I.turned (t':=s.toks) (λb o hb e=>(sb.2 b hb).trans e) f0 f1 f3 f4 f5;obtain⟨o,e,c,d⟩:=id gZ;exact⟨u,Z,xB (s:={s with heap:=h'}) e c d aA ⟨x,H,I1,ru,⟨Z,λys hy=>by rw[I.RF hy hq];exact hx⟩,gZ,λb hb=>(hf b hb).1⟩⟩
 done:=by intro X hP hw hK hc i aw s O H E I hf st hg;subst hP hw hK;obtain⟨xs,hq,hx⟩:=hg;obtain⟨its,rv,p,hz⟩:=I.list hq;obtain⟨f0,f1,f2,f3,f4,f5⟩:=hf it (by simp);have hl:=rv.length;exact wpAny_pyNext_list_end (I.ok.hd hc) st p.isList (by simp;lia) λh' eb=>⟨Z,I.turned (t':=s.toks) (λb o hb e=>eb b o hb e) f0 f1 f3 f4 f5⟩
 self:=λ_ _ _ _ _ st h=>wpAny_pyIter_listiter st h
theorem Xo{P:ah}{w:World}{K:aa}{tg:Expr}(a it:Addr):Turn P w K tg (qB K a) [it] it (λi h=>h.IsTupleIter it a i) where
 mem:=by simp
 obj:=λi h st b hb=>by
  have e:b=it:=by simpa using hb
  subst e;obtain⟨o,e,c,d⟩:=st;exact⟨o,e,λv z=>by rw[d]at z;cases z⟩
 keep:=λi h h' st k=>st.at λo e=>k it (by simp) o e
 item:=by intro X hP hw hK hc i aw s O H E I hf st hg;subst hP hw hK;obtain⟨xs,x,hq,hx⟩:=hg;obtain⟨its,rv,p,hz⟩:=I.tuple hq;obtain⟨u,hu,ru⟩:=rv.get hx;obtain⟨f0,f1,f2,f3,f4,f5⟩:=hf it (by simp);refine wpAny_pyNext_tuple_item st (show s.heap.IsTuple a its.toArray from p) (x:=u) (by simpa using hu) λh' gZ sb=>?_;have I1:Inv X aw O H {s with heap:=h'}:=I.turned (t':=s.toks) (λb o hb e=>(sb.2 b hb).trans e) f0 f1 f3 f4 f5;obtain⟨o,e,c,d⟩:=id gZ;exact⟨u,Z,xB (s:={s with heap:=h'}) e c d aA ⟨x,H,I1,ru,⟨Z,λys hy=>by rw[I.My hy hq];exact hx⟩,gZ,λb hb=>(hf b hb).1⟩⟩
 done:=by intro X hP hw hK hc i aw s O H E I hf st hg;subst hP hw hK;obtain⟨xs,hq,hx⟩:=hg;obtain⟨its,rv,p,hz⟩:=I.tuple hq;obtain⟨f0,f1,f2,f3,f4,f5⟩:=hf it (by simp);have hl:=rv.length;exact wpAny_pyNext_tuple_end (I.ok.hd hc) st (show s.heap.IsTuple a its.toArray from p) (by simp;lia) λh' eb=>⟨Z,I.turned (t':=s.toks) (λb o hb e=>eb b o hb e) f0 f1 f3 f4 f5⟩
 self:=λ_ _ _ _ _ st h=>wpAny_pyIter_tupleiter st h
theorem Xr{P:ah}{w:World}{K:aa}{tg:Expr}(it:Addr)(lo:Int)(n:Nat):Turn P w K tg (oQ lo n) [it] it (λi h=>IsRangeIter h it (lo+(i:Nat)*1) ((n:Int)-(i:Nat)) 1) where
 mem:=by simp
 obj:=λi h st b hb=>by
  have e:b=it:=by simpa using hb
  subst e;exact⟨_,st,λv z=>by have z':Data.fields _=Data.cell v:=z;cases z'⟩
 keep:=λi h h' st k=>k it (by simp) _ st
 item:=by intro X hP hw hK hc i aw s O H E I hf st hg;subst hP hw hK;obtain⟨f0,f1,f2,f3,f4,f5⟩:=hf it (by simp);have W:=Walks.range (prog:=X.prog) (w:=X.w) (I.ok.hd hc) it lo 1 n;refine W.item i s _ _ hg st λv h' tk hv gZ kk=>?_;obtain⟨t,rfl⟩:=hv;have I1:Inv X aw O H {s with heap:=h',toks:=tk}:=I.turned (λb o hb e=>kk b o (by simpa using hb) e) f0 f1 f3 f4 f5;refine⟨_,Z,xB (s:={s with heap:=h',toks:=tk}) (n:="range_iterator") gZ rfl rfl aA ⟨.int (lo+i),H,I1,⟨t,?_⟩,⟨Z,Z⟩,gZ,λb hb=>(hf b hb).1⟩⟩;rw[Int.mul_one]
 done:=by intro X hP hw hK hc i aw s O H E I hf st hg;subst hP hw hK;obtain⟨f0,f1,f2,f3,f4,f5⟩:=hf it (by simp);exact W9 (I.ok.hd hc) st (by have:n<=i:=hg;lia) λh' eb=>⟨Z,I.turned (t':=s.toks) (λb o hb e=>eb b o hb e) f0 f1 f3 f4 f5⟩
 self:=λ_ _ _ _ _ st h=>Ly st h
section
variable {X:Cx} {tg:Expr}
inductive adO(K:aa)(R:It->Hp->Prop)(x:V)(H1:Hp):Prop |mk (a:_)(h0:x= .ref a)(h1:(∃xs,aH K H1 a xs))(h2:R (sQ K a) H1)
def Se(K:aa)(tl:TE):TI:=λO H R=>tl O H λx H1=>adO K R x H1
inductive adI(K:aa)(R:It->Hp->Prop)(x:V)(H1:Hp):Prop |mk (a:_)(h0:x= .ref a)(h1:(∃xs,aR K H1 a xs))(h2:R (qB K a) H1)
def Sd(K:aa)(tl:TE):TI:=λO H R=>tl O H λx H1=>adI K R x H1
theorem a0M(hl:PE X l tl):PI X tg l (Se X.K tl):=by
 intro aw s O H R I h;refine bc (hl aw s O H _ I h) λv s1 ⟨x,H1,I1,r1,q1⟩=>?_;obtain⟨a,e,⟨xs,hq⟩,q⟩:=q1;subst e;cases r1;obtain⟨its,rv,p,hz⟩:=I1.list hq;refine DS p.isList ?_;refine⟨s1.heap.objs.size,[s1.heap.objs.size],_,_,H1,Z,I1.kept (t':=s1.toks) λb o e=>cy _ e,Xs a _,⟨_,eV _ Z,Z,Z⟩,λb hb=>?_,q⟩;have e:b=s1.heap.objs.size:=by simpa using hb
 subst e;exact I1.qj (bK _) (I1.aY.fresh (bK _))
theorem a0I(hl:PE X l tl):PI X tg l (Sd X.K tl):=by
 intro aw s O H R I h;refine bc (hl aw s O H _ I h) λv s1 ⟨x,H1,I1,r1,q1⟩=>?_;obtain⟨a,e,⟨xs,hq⟩,q⟩:=q1;subst e;cases r1;obtain⟨its,rv,p,hz⟩:=I1.tuple hq;refine wpAny_pyIter_tuple (show s1.heap.IsTuple a its.toArray from p) ?_;refine⟨s1.heap.objs.size,[s1.heap.objs.size],_,_,H1,Z,I1.kept (t':=s1.toks) λb o e=>cy _ e,Xo a _,⟨_,eV _ Z,Z,Z⟩,λb hb=>?_,q⟩;have e:b=s1.heap.objs.size:=by simpa using hb
 subst e;exact I1.qj (bK _) (I1.aY.fresh (bK _))
theorem PR{aw:List (Addr×Obj)}{O:St}{H:Hp}{s:ae}{R:It->Hp->Prop}{E:Value->ae->Prop}{lo hi:Int}{t u v:Tok}{tk:Nat}(I:Inv X aw O H s)(h1:-(2^62)<=lo)(h2:lo<2^62)(h3:-(2^62)<=hi)(h4:hi<2^62) (q:R (oQ lo (hi-lo).toNat) H):wpAny (model X.prog X.w) X.A (pyIter (.ref s.heap.objs.size)) (DK X aw O tg R) E {s with heap:=s.heap.push {cls:=.type "range",data:=.fields #[.int lo t,.int hi u,.int 1 v]},toks:=tk}:=by
 refine wpAny_pyIter_range (IsRange.new ..) (small_one h1 h2 h3 h4) ?_;have I1:Inv X aw O H {s with heap:=s.heap.push {cls:=.type "range",data:=.fields #[.int lo t,.int hi u,.int 1 v]},toks:=tk}:=I.kept λb o e=>cy _ e;refine⟨(s.heap.push {cls:=.type "range",data:=.fields #[.int lo t,.int hi u,.int 1 v]}).objs.size,[(s.heap.push {cls:=.type "range",data:=.fields #[.int lo t,.int hi u,.int 1 v]}).objs.size],_,_,H,Z,I1.kept (t':=tk) λb o e=>cy _ e,Xr _ lo (hi-lo).toNat,?_,λb hb=>?_,q⟩
 ·have e1:lo+((0:Nat):Int)*1=lo:=by simp
  have e2:(((hi-lo).toNat:Nat):Int)-((0:Nat):Int)=Builtin.Range.rangeSize lo hi 1:=by rw[rangeSize_one];split<;>lia
  show IsRangeIter _ _ (lo+((0:Nat):Int)*1) ((((hi-lo).toNat:Nat):Int)-((0:Nat):Int)) 1;rw[e1,e2];exact eV _ rfl
 ·have e:b=(s.heap.push {cls:=.type "range",data:=.fields #[.int lo t,.int hi u,.int 1 v]}).objs.size:=by simpa using hb
  subst e;exact I1.qj (bK _) (I1.aY.fresh (bK _))
inductive adM(R:It->Hp->Prop)(vs:List V)(H1:Hp):Prop |mk (j:Int)(h0:vs=[.int j])(h1:-(2^62)<=j)(h2:j<2^62)(h3:R (oQ 0 j.toNat) H1)
def a5a(ta:TA):TI:=λO H R=>ta O H λvs H1=>adM R vs H1
inductive adL(R:It->Hp->Prop)(vs:List V)(H1:Hp):Prop |mk (i:Int)(j:Int)(h0:vs=[.int i,.int j])(h1:(-(2^62)<=i/\i<2^62/\-(2^62)<=j/\j<2^62))(h2:R (oQ i (j-i).toNat) H1)
def a59(ta:TA):TI:=λO H R=>ta O H λvs H1=>adL R vs H1
theorem yY(hg:Gl X "range")(hm:X.mg "range"=none)(ha:PA X [a] ta)(hs:starEach [a] X.env=[(false,eval a X.env)]:=by rfl):PI X tg (.Call (.Name "range" p) [a] [] pos) (a5a ta):=by intro aw s O H R I h;refine Call_ (pQ I hg hm boot_range (yg (bc (ha pos aw s O H _ I h) λus s1 ⟨vs,H1,I1,r1,q1⟩=>?_) hs Z));obtain⟨j,e,q1,q2,q⟩:=q1;subst e;cases r1 with |cons r rr=>cases rr;obtain⟨t,rfl⟩:=r;exact call_range_1 (PR I1 au au q1 q2 (by simpa using q))
theorem Q9(hg:Gl X "range")(hm:X.mg "range"=none)(ha:PA X [a,b] ta)(hs:starEach [a,b] X.env=[(false,eval a X.env),(false,eval b X.env)]:=by rfl)(jn:starEach [b] X.env=[(false,eval b X.env)]:=by rfl): PI X tg (.Call (.Name "range" p) [a,b] [] pos) (a59 ta):=by intro aw s O H R I h;refine Call_ (pQ I hg hm boot_range (yg (bc (ha pos aw s O H _ I h) λus s1 ⟨vs,H1,I1,r1,q1⟩=>?_) (by rw[hs,jn]) (by rw[jn];rfl)));obtain⟨i,j,e,⟨q1,q2,q3,q4⟩,q⟩:=q1;subst e;cases r1 with |cons r rr=>cases rr with |cons r' rr=>cases rr;obtain⟨t,rfl⟩:=r;obtain⟨t',rfl⟩:=r';exact call_range_2 (PR I1 q1 q2 q3 q4 q)
def XY(wi:TI)(g:TG)(tb:TS):TS:=λD O H=>wi O H λJ H1=>∃W:Nat->Nat->St->Hp->Prop,(∃m,W 0 m O H1)/\∀i m O H,W i m O H->(J.stop i H/\D.nx O H)\/(J.go i H/\∃N:St->Hp->Prop,(∀σ' H',N σ' H'->∃m',m'<m/\W (i+1) m' σ' H')/\∀x H',J.jO i H x H'->g x O H' λσ2 H2=>tb {D with nx:=N,ct:=N,bk:=D.nx} σ2 H2)
def wz(fp:List Addr)(h:Heap):List (Addr×Obj):=fp.filterMap λb=>(h.get? b).map λo=>(b,o)
theorem wW(hb:b∈fp)(e:h.get? b=some o):(b,o)∈wz fp h:=kD.mpr ⟨b,hb,by rw[e];rfl⟩
theorem a32(hp:p∈wz fp h):p.1∈fp/\h.get? p.1=some p.2:=by obtain⟨b,hb,e⟩:=kD.mp hp;cases q:h.get? b with |none=>rw[q]at e;cases e |some o=>rw[q]at e;have e':(b,o)=p:=dQ e;subst e';exact⟨hb,q⟩
theorem Inv.pinned{aw:List (Addr×Obj)}{O:St}{H:Hp}{s:ae}{fp:List Addr}(I:Inv X aw O H s)(hf:∀b∈fp,lS X aw H b)(ho:∀b∈fp,∃o,s.heap.get? b=some o/\∀v,o.data≠ .cell v):Inv X (aw++wz fp s.heap) O H s:=I.Q8 λp hp=>(vF.mp hp).elim (λz=>I.pin p (lU _ z)) λz=>by obtain⟨hb,e⟩:=a32 z;obtain⟨f0,f1,f2,_⟩:=hf p.1 hb;obtain⟨o,e',d⟩:=ho p.1 hb;rw[e]at e';cases e';exact⟨e,f0,f1,f2,d⟩
theorem Inv.yt{aw pl:List (Addr×Obj)}{O:St}{H:Hp}{s:ae}(I:Inv X (aw++pl) O H s):Inv X aw O H s:=I.Q8 λp hp=>I.pin p (lU _ (WB _ hp))
theorem m6(hp:PassesOwn (model X.prog X.w) X.A X.env X.xe)(hc:X.calm=true)(hi:PI X tg iter wi)(hg:PG X tg g)(hb:ie X body tb) (hs:∀x,foldedSetIterable iter X.env x=pure x:=by intro _;rfl):PS X (.For tg iter body [] pos) (XY wi g tb):=by
 intro aw s O H D I h;refine wpAny_For (bc (hi aw s O H _ I h) λv s1 h1=>bc h1 λCo s2 h2=>?_) hs;obtain⟨it,fp,tn,J,H2,e,I2,T,tQ,f2,W,⟨m0,w0⟩,turn⟩:=h2;subst e;have mG:∀{H':Hp},(∀b∈fp,H' b=none)->∀b∈fp,lS X aw H' b:=λhn b hb=>⟨hn b hb,(f2 b hb).2⟩;refine codeAny_forLoop_any (λn s'=>∃i σ' H',Inv X aw σ' H' s'/\tn i s'.heap/\(∀b∈fp,H' b=none)/\W i n σ' H') ?_ m0 ⟨0,O,H2,I2,tQ,λb hb=>(f2 b hb).1,w0⟩;rintro n s3 ⟨i,σ3,H3,I3,MY,Tx,w3⟩;rcases turn i n σ3 H3 w3 with⟨stop,qn⟩|⟨go,N,hN,step⟩
 ·refine yb hp (bc (T.done X Z Z Z hc i aw s3 σ3 H3 X.xe I3 (mG Tx) MY stop) λr s4 ⟨hr,I4⟩=>?_)
  subst hr;exact AG ⟨σ3,H3,I4,qn⟩
 ·refine yb hp (bc (T.item X Z Z Z hc i aw s3 σ3 H3 X.xe I3 (mG Tx) MY go) λr s4 ⟨u,hr,h4⟩=>?_)
  subst hr;refine yb hp (bc h4 λ_ s5 ⟨x,H5,I5,r5,y5,pk,uU⟩=>?_);have I5':=I5.pinned (mG uU) (T.obj _ _ pk);refine yb hp (bc (hg _ s5 σ3 H5 x u _ I5' r5 (step x H5 y5)) λ_ s6 ⟨σ6,H6,I6,q6⟩=>?_);refine yb hp (bc (hb _ s6 σ6 H6 _ I6 q6) λf s7 q7=>?_);have again:∀{σ7:St}{H7:Hp},Inv X (aw++wz fp s5.heap) σ7 H7 s7->N σ7 H7->∃m,m<n/\∃i σ' H',Inv X aw σ' H' s7/\tn i s7.heap/\(∀b∈fp,H' b=none)/\W i m σ' H':=λ{σ7 H7} I7 n7=>by obtain⟨m',hm,w7⟩:=hN σ7 H7 n7;refine⟨m',hm,i+1,σ7,H7,I7.yt,T.keep _ _ _ pk λb hb o e=>(I7.pin (b,o) (lU _ (lU _ (wW hb e)))).1,λb hb=>?_,w7⟩;obtain⟨o,e,d⟩:=T.obj _ _ pk b hb;exact(I7.pin (b,o) (lU _ (lU _ (wW hb e)))).2.1
  cases f with |next=>obtain⟨σ7,H7,I7,n7⟩:=q7;exact again I7 n7 |cont=>obtain⟨σ7,H7,I7,n7⟩:=q7;exact again I7 n7 |brk=>obtain⟨σ7,H7,I7,q7⟩:=q7;exact⟨σ7,H7,I7.yt,q7⟩ |ret v=>obtain⟨x7,σ7,H7,I7,r7,q7⟩:=q7;exact⟨x7,σ7,H7,I7.yt,r7,q7⟩
end
theorem JR{K:aa}{a:Addr}{xs:List V}{g:TG}{tb:TS}{D:Ends}{O:St}{H:Hp}(Pv:Nat->St->Hp->Prop)(h0:Pv 0 O H)(hl:∀i O H,i<=xs.length->Pv i O H->aH K H a xs) (hs:∀i x O H,xs[i]? =some x->Pv i O H->g x O H λσ2 H2=>tb {D with nx:=Pv (i+1),ct:=Pv (i+1),bk:=D.nx} σ2 H2)(hd:∀O H,Pv xs.length O H->D.nx O H): ∃W:Nat->Nat->St->Hp->Prop,(∃m,W 0 m O H)/\∀i m O H,W i m O H->((sQ K a).stop i H/\D.nx O H)\/((sQ K a).go i H/\∃N:St->Hp->Prop,(∀σ' H',N σ' H'->∃m',m'<m/\W (i+1) m' σ' H')/\∀x H',(sQ K a).jO i H x H'->g x O H' λσ2 H2=>tb {D with nx:=N,ct:=N,bk:=D.nx} σ2 H2):=by
 refine⟨λi m O H=>m=xs.length-i/\i<=xs.length/\Pv i O H,⟨xs.length,by simp,gy _,h0⟩,?_⟩;rintro i m O H ⟨rfl,hi,p⟩;have q:=hl i O H hi p;by_cases cJ:i<xs.length
 ·refine .inr ⟨⟨xs,xs[i],q,by simp[cJ]⟩,Pv (i+1),λσ' H' p'=>⟨xs.length-(i+1),au,Z,cJ,p'⟩,λx H' y=>?_⟩
  obtain⟨e,y⟩:=y;subst e;exact hs i x O _ (y xs q) p
 ·have e:i=xs.length:=by lia
  subst e;exact .inl ⟨⟨xs,q,bK _⟩,hd O H p⟩
theorem a89{K:aa}{a:Addr}{xs:List V}{g:TG}{tb:TS}{D:Ends}{O:St}{H:Hp}(Pv:Nat->St->Hp->Prop)(h0:Pv 0 O H)(hl:∀i O H,i<=xs.length->Pv i O H->aR K H a xs) (hs:∀i x O H,xs[i]? =some x->Pv i O H->g x O H λσ2 H2=>tb {D with nx:=Pv (i+1),ct:=Pv (i+1),bk:=D.nx} σ2 H2)(hd:∀O H,Pv xs.length O H->D.nx O H): ∃W:Nat->Nat->St->Hp->Prop,(∃m,W 0 m O H)/\∀i m O H,W i m O H->((qB K a).stop i H/\D.nx O H)\/((qB K a).go i H/\∃N:St->Hp->Prop,(∀σ' H',N σ' H'->∃m',m'<m/\W (i+1) m' σ' H')/\∀x H',(qB K a).jO i H x H'->g x O H' λσ2 H2=>tb {D with nx:=N,ct:=N,bk:=D.nx} σ2 H2):=by
 refine⟨λi m O H=>m=xs.length-i/\i<=xs.length/\Pv i O H,⟨xs.length,by simp,gy _,h0⟩,?_⟩;rintro i m O H ⟨rfl,hi,p⟩;have q:=hl i O H hi p;by_cases cJ:i<xs.length
 ·refine .inr ⟨⟨xs,xs[i],q,by simp[cJ]⟩,Pv (i+1),λσ' H' p'=>⟨xs.length-(i+1),fh,Z,cJ,p'⟩,λx H' y=>?_⟩
  obtain⟨e,y⟩:=y;subst e;exact hs i x O _ (y xs q) p
 ·have e:i=xs.length:=by omega
  subst e;exact .inl ⟨⟨xs,q,bK _⟩,hd O H p⟩
theorem CY{lo:Int}{n:Nat}{g:TG}{tb:TS}{D:Ends}{O:St}{H:Hp}(Pv:Nat->St->Hp->Prop)(h0:Pv 0 O H) (hs:∀i O H,i<n->Pv i O H->g (.int (lo+i)) O H λσ2 H2=>tb {D with nx:=Pv (i+1),ct:=Pv (i+1),bk:=D.nx} σ2 H2)(hd:∀O H,Pv n O H->D.nx O H): ∃W:Nat->Nat->St->Hp->Prop,(∃m,W 0 m O H)/\∀i m O H,W i m O H->((oQ lo n).stop i H/\D.nx O H)\/((oQ lo n).go i H/\∃N:St->Hp->Prop,(∀σ' H',N σ' H'->∃m',m'<m/\W (i+1) m' σ' H')/\∀x H',(oQ lo n).jO i H x H'->g x O H' λσ2 H2=>tb {D with nx:=N,ct:=N,bk:=D.nx} σ2 H2):=by
 refine⟨λi m O H=>m=n-i/\i<=n/\Pv i O H,⟨n,by simp,gy _,h0⟩,?_⟩;rintro i m O H ⟨rfl,hi,p⟩;by_cases cJ:i<n
 ·refine .inr ⟨cJ,Pv (i+1),λσ' H' p'=>⟨n-(i+1),au,Z,cJ,p'⟩,λx H' y=>?_⟩
  obtain⟨e,y⟩:=y;subst e y;exact hs i O _ cJ p
 ·have e:i=n:=by lia
  subst e;exact .inl ⟨bK _,hd O H p⟩
theorem nH{D:Ends}(Pv:St->Hp->Prop)(μ:St->Hp->Nat)(h0:Pv O H) (hs:∀O H,Pv O H->c O H λb H1=>if b=true then tb {D with nx:=λσ' H'=>Pv σ' H'/\μ σ' H'<μ O H,ct:=λσ' H'=>Pv σ' H'/\μ σ' H'<μ O H,bk:=D.nx} O H1 else D.nx O H1) (mono:∀O H Q Q',(∀b H1,Q b H1->Q' b H1)->c O H Q->c O H Q'):ME c tb D O H:=by refine⟨λm O H=>m=μ O H/\Pv O H,⟨_,Z,h0⟩,?_⟩;rintro m O H ⟨rfl,p⟩;refine mono O H _ _ (λb H1 q=>?_) (hs O H p);cases b with |true=>exact⟨_,λσ' H' ⟨p',l⟩=>⟨_,l,Z,p'⟩,q⟩ |false=>exact q
abbrev R2:=V->V->Hp->VK->Prop
def dF(X:Cx)(f:Value->Value->Sem Value)(r:R2):Prop:=∀(aw:List (Addr×Obj))(s:ae)(O:St)(H:Hp)(x y:V)(v u:Value)(Q:VK),Inv X aw O H s->RelV x v->RelV y u->r x y H Q->wpAny (model X.prog X.w) X.A (f v u) (EP X aw O Q) X.xe s
def Lh(X:Cx)(f:Value->Sem Value)(r:V->Hp->VK->Prop):Prop:=∀(aw:List (Addr×Obj))(s:ae)(O:St)(H:Hp)(x:V)(v:Value)(Q:VK),Inv X aw O H s->RelV x v->r x H Q->wpAny (model X.prog X.w) X.A (f v) (EP X aw O Q) X.xe s
def fJ(X:Cx)(f:Value)(r:List V->Hp->VK->Prop):Prop:=∀(aw:List (Addr×Obj))(s:ae)(O:St)(H:Hp)(xs:List V)(us:List Value)(Q:VK),Inv X aw O H s->Vals xs us->r xs H Q->wpAny (model X.prog X.w) X.A (call f us) (EP X aw O Q) X.xe s
def abH(X:Cx)(r:V->Hp->(Bool->Hp->Prop)->Prop):Prop:=∀(aw:List (Addr×Obj))(s:ae)(O:St)(H:Hp)(x:V)(v:Value)(Q:Bool->Hp->Prop),Inv X aw O H s->RelV x v->r x H Q->wpAny (model X.prog X.w) X.A (truthy v) (TP X aw O Q) X.xe s
def nL(r:R2)(ta tb:TE):TE:=λO H Q=>ta O H λx H1=>tb O H1 λy H2=>r x y H2 Q
def MF(r:V->Hp->VK->Prop)(ta:TE):TE:=λO H Q=>ta O H λx H1=>r x H1 Q
inductive IrI(C:Int->Int->Prop)(g:Int->Int->V)(x:V)(y:V)(H:Hp)(Q:VK):Prop |mk (i:_)(j:_)(h0:x= .int i)(h1:y= .int j)(h2:C i j)(h3:Q (g i j) H)
def rI(C:Int->Int->Prop)(g:Int->Int->V):R2:=λx y H Q=>IrI C g x y H Q
inductive adx(g:Int->Int->V)(x:V)(y:V)(H:Hp)(Q:VK):Prop |mk (i:_)(j:_)(h0:x= .int i)(h1:y= .int j)(h2:Q (g i j) H)
def kI(g:Int->Int->V):R2:=λx y H Q=>adx g x y H Q
inductive IrU(g:Int->V)(x:V)(H:Hp)(Q:VK):Prop |mk (i:_)(h0:x= .int i)(h1:Q (g i) H)
def rU(g:Int->V):V->Hp->VK->Prop:=λx H Q=>IrU g x H Q
section
variable {X:Cx}{a b c:Expr}{ta tb tc:TE}{pos:Pos}
theorem KH(ha:PE X a ta)(hb:PE X b tb){aw:List (Addr×Obj)}{s:ae}{O:St}{H:Hp}{R:V->V->Hp->Prop}(I:Inv X aw O H s) (h:ta O H λx H1=>tb O H1 λy H2=>R x y H2){Q:Value->ae->Prop}{f:Value->Value->Sem Value} (hf:∀v u s2 x y H2,Inv X aw O H2 s2->RelV x v->RelV y u->R x y H2->wpAny (model X.prog X.w) X.A (f v u) Q X.xe s2): wpAny (model X.prog X.w) X.A (eval a X.env) (λv s₁=>wpAny (model X.prog X.w) X.A (eval b X.env) (λu s₂=>wpAny (model X.prog X.w) X.A (f v u) Q X.xe s₂) X.xe s₁) X.xe s:=by refine bc (ha aw s O H _ I h) λv s1 ⟨x,H1,I1,r1,q1⟩=>?_;refine bc (hb aw s1 O H1 _ I1 q1) λu s2 ⟨y,H2,I2,r2,q2⟩=>?_;exact hf v u s2 x y H2 I2 r1 r2 q2
theorem aG(ho:dF X (binaryOp op) r)(ha:PE X a ta)(hb:PE X b tb):PE X (.BinOp a op b pos) (nL r ta tb):=by intro aw s O H Q I h;exact wpAny_BinOp (KH ha hb I h λv u s2 x y H2 I2 rx ry q=>ho aw s2 O H2 x y v u Q I2 rx ry q)
theorem wA(ho:Lh X (unaryOp op) r)(ha:PE X a ta):PE X (.UnaryOp op a pos) (MF r ta):=by intro aw s O H Q I h;exact UnaryOp_ (bc (ha aw s O H _ I h) λv s1 ⟨x,H1,I1,r1,q1⟩=>ho aw s1 O H1 x v Q I1 r1 q1)
theorem zc{f:Value->Value->Sem Value}{C:Int->Int->Prop}{g:Int->Int->Int} (rule:∀(i j:Int)(t u:Tok)(s:ae)(Q:Value->ae->Prop)(E:Value->ae->Prop),C i j->Q (.int (g i j) s.toks) {s with toks:=s.toks+1}->wpAny (model X.prog X.w) X.A (f (.int i t) (.int j u)) Q E s): dF X f (rI C λi j=>.int (g i j)):=by intro aw s O H x y v u Q I rx ry h;obtain⟨i,j,rfl,rfl,hc,q⟩:=h;obtain⟨t,rfl⟩:=rx;obtain⟨t',rfl⟩:=ry;exact rule i j t t' s _ _ hc ⟨.int (g i j),H,I.tok _,⟨_,Z⟩,q⟩
theorem Qw{f:Value->Value->Sem Value}{g:Int->Int->Int} (rule:∀(i j:Int)(t u:Tok)(s:ae)(Q:Value->ae->Prop)(E:Value->ae->Prop),Q (.int (g i j) s.toks) {s with toks:=s.toks+1}->wpAny (model X.prog X.w) X.A (f (.int i t) (.int j u)) Q E s): dF X f (kI λi j=>.int (g i j)):=by intro aw s O H x y v u Q I rx ry h;obtain⟨i,j,rfl,rfl,q⟩:=h;obtain⟨t,rfl⟩:=rx;obtain⟨t',rfl⟩:=ry;exact rule i j t t' s _ _ ⟨.int (g i j),H,I.tok _,⟨_,Z⟩,q⟩
theorem wG{f:Value->Value->Sem Value}{g:Int->Int->Bool} (rule:∀(i j:Int)(t u:Tok)(s:ae)(Q:Value->ae->Prop)(E:Value->ae->Prop),Q (.bool (g i j)) s->wpAny (model X.prog X.w) X.A (f (.int i t) (.int j u)) Q E s): dF X f (kI λi j=>.bl (g i j)):=by intro aw s O H x y v u Q I rx ry h;obtain⟨i,j,rfl,rfl,q⟩:=h;obtain⟨t,rfl⟩:=rx;obtain⟨t',rfl⟩:=ry;exact rule i j t t' s _ _ ⟨.bl (g i j),H,I,Z,q⟩
def ae3(i j:Int):Prop:=0<=j/\j<=1000000/\i.natAbs<2^64
theorem dc:dF X (binaryOp .Add) (kI λi j=>.int (i+j)):=Qw λ_ _ _ _ _ _ _ q=>add_int q
theorem gc:dF X (binaryOp .Sub) (kI λi j=>.int (i-j)):=Qw λ_ _ _ _ _ _ _ q=>sub_int q
theorem pK:dF X (binaryOp .Mod) (rI (λ_ j=>0<j) λi j=>.int (i%j)):=zc λi j _ _ _ _ _ hc q=>by have h1:(0:Int)<j:=hc;exact mod_int' au (by rw[Int.fmod_eq_emod_of_nonneg i au];exact q)
theorem wD:dF X (binaryOp .Pow) (rI ae3 λi j=>.int (i^j.toNat)):=zc λ_ _ _ _ _ _ _ hc q=>pow_int_small hc.1 hc.2.1 hc.2.2 q
theorem Xj{f:Value->Sem Value}{g:Int->Int} (rule:∀(i:Int)(t:Tok)(s:ae)(Q:Value->ae->Prop)(E:Value->ae->Prop),Q (.int (g i) s.toks) {s with toks:=s.toks+1}->wpAny (model X.prog X.w) X.A (f (.int i t)) Q E s): Lh X f (rU λi=>.int (g i)):=by intro aw s O H x v Q I rx h;obtain⟨i,rfl,q⟩:=h;obtain⟨t,rfl⟩:=rx;exact rule i t s _ _ ⟨.int (g i),H,I.tok _,⟨_,Z⟩,q⟩
theorem vO:Lh X (unaryOp .USub) (rU λi=>.int (-i)):=Xj λ_ _ _ _ _ q=>neg_int q
theorem JV{aw:List (Addr×Obj)}{O:St}{H:Hp}{s:ae}{Q:VK}{k k':Bool}(I:Inv X aw O H s)(q:Q (.bl k) H)(e:k=k'):EP X aw O Q (.bool k') s:=by subst e;exact⟨.bl k,H,I,Z,q⟩
theorem kJ:dF X (compareOp .Lt) (kI λi j=>.bl (decide (i<j))):=wG λ_ _ _ _ _ _ _ q=>lt_int q
theorem wF:dF X (compareOp .LtE) (kI λi j=>.bl (decide (i<=j))):=wG λ_ _ _ _ _ _ _ q=>le_int q
theorem uh:dF X (compareOp .Gt) (kI λi j=>.bl (decide (j<i))):=wG λ_ _ _ _ _ _ _ q=>gt_int q
theorem Ic:dF X (compareOp .GtE) (kI λi j=>.bl (decide (j<=i))):=wG λ_ _ _ _ _ _ _ q=>ge_int q
theorem a1t:dF X (compareOp .In) (λx y H Q=>∃i j,x= .str i/\y= .str j/\Q (.bl (!(Builtin.Str.occurrences j i 0 j.length 1).isEmpty)) H):=by intro aw s O H x y v u Q I rx ry h;obtain⟨i,j,rfl,rfl,q⟩:=h;obtain⟨t,rfl⟩:=rx;obtain⟨t',rfl⟩:=ry;exact in_str (JV I q Z)
theorem a1s:dF X (compareOp .Is) (λx y H Q=>y= .bB/\Q (.bl (decide (x= .bB))) H):=by intro aw s O H x y v u Q I rx ry h;obtain⟨rfl,q⟩:=h;cases ry;refine is_none_gen (JV I q ?_);cases x<;>first |(cases rx;rfl) |(obtain⟨t,rfl⟩:=rx;rfl)
theorem zb:dF X (compareOp .IsNot) (λx y H Q=>y= .bB/\Q (.bl (!decide (x= .bB))) H):=by intro aw s O H x y v u Q I rx ry h;obtain⟨rfl,q⟩:=h;cases ry;refine isnot_none_gen (JV I q ?_);cases x<;>first |(cases rx;rfl) |(obtain⟨t,rfl⟩:=rx;rfl)
theorem dF.or(h:dF X f r)(h':dF X f r'):dF X f (λx y H Q=>r x y H Q\/r' x y H Q):=by
 intro aw s O H x y v u Q I rx ry q;rcases q with q|q
 ·exact h aw s O H x y v u Q I rx ry q
 ·exact h' aw s O H x y v u Q I rx ry q
theorem bI(b:Expr){op:CmpOp}(h:op≠ .In:=by decide)(h2:op≠ .NotIn:=by decide):behindInMarks op b=false:=by
 have e1:(op==CmpOp.In)=false:=by cases op<;>first|rfl|exact absurd rfl h
 have e2:(op==CmpOp.NotIn)=false:=by cases op<;>first|rfl|exact absurd rfl h2
 cases b<;>simp[behindInMarks,e1,e2]
theorem fE(ho:dF X (compareOp op) r)(ha:PE X a ta)(hb:PE X b tb)(hm:behindInMarks op b=false):PE X (.Compare a [op] [b] pos) (nL r ta tb):=by intro aw s O H Q I h;exact wpAny_Compare1 (KH ha hb I h λv u s2 x y H2 I2 rx ry q=>ho aw s2 O H2 x y v u Q I2 rx ry q) hm
inductive abX(Q:Bool->Hp->Prop)(x:V)(H':Hp):Prop |mk (k:_)(h0:x= .bl k)(h1:Q k H')
def MG(t:TE):TT:=λO H Q=>t O H λx H'=>abX Q x H'
theorem cu(ho:dF X (compareOp op) r)(ha:PE X a ta)(hb:PE X b tb)(hm:behindInMarks op b=false):PT X (.Compare a [op] [b] pos) (MG (nL r ta tb)):=by intro aw s O H Q I h;refine wpAny_isTrue_Compare1 (bc (ha aw s O H _ I h) λv s1 ⟨x,H1,I1,r1,q1⟩=>bc (hb aw s1 O H1 _ I1 q1) λu s2 ⟨y,H2,I2,r2,q2⟩=>bc (ho aw s2 O H2 x y v u _ I2 r1 r2 q2) λc s3 ⟨z,H3,I3,r3,k,e,q3⟩=>?_) hm;subst e;cases r3;exact qD ⟨H3,I3,q3⟩
inductive ac3(r':R2)(tc:TE)(O:St)(Q:VK)(y:V)(z:V)(H3:Hp):Prop |mk (k:_)(h0:z= .bl k)(h1:(if k=true then tc O H3 λw' H4=>r' y w' H4 Q else Q (.bl false) H3))
def MO(r r':R2)(ta tb tc:TE):TE:=λO H Q=>ta O H λx H1=>tb O H1 λy H2=>r x y H2 λz H3=>ac3 r' tc O Q y z H3
theorem Qf(ho:dF X (compareOp op) r)(mT:dF X (compareOp ui) r')(ha:PE X a ta)(hb:PE X b tb)(hc:PE X c tc) (hm:lastMarks [op,ui] [b,c]=false:=by with_unfolding_all rfl):PE X (.Compare a [op,ui] [b,c] pos) (MO r r' ta tb tc):=by intro aw s O H Q I h;refine Compare_chain (bc (ha aw s O H _ I h) λv s1 ⟨x,H1,I1,r1,q1⟩=>chain_link (bc (hb aw s1 O H1 _ I1 q1) λu s2 ⟨y,H2,I2,r2,q2⟩=>bc (ho aw s2 O H2 x y v u _ I2 r1 r2 q2) λd s3 ⟨z,H3,I3,r3,k,e,q3⟩=>?_)) hm;subst e;cases r3;refine qD ?_;cases k with |false=>exact ite_ff ⟨.bl false,H3,I3,Z,q3⟩ |true=>exact ite_tt (chain_last (bc (hc aw s3 O H3 _ I3 q3) λw' s4 ⟨z',H4,I4,r4,q4⟩=>mT aw s4 O H4 y z' u w' Q I4 r2 r4 q4))
theorem a0t(ho:dF X (compareOp op) r)(mT:dF X (compareOp ui) r')(ha:PE X a ta)(hb:PE X b tb)(hc:PE X c tc) (hm:lastMarks [op,ui] [b,c]=false:=by with_unfolding_all rfl):PT X (.Compare a [op,ui] [b,c] pos) (MG (MO r r' ta tb tc)):=by intro aw s O H Q I h;refine isTrue_chain (bc (ha aw s O H _ I h) λv s1 ⟨x,H1,I1,r1,q1⟩=>test_link (bc (hb aw s1 O H1 _ I1 q1) λu s2 ⟨y,H2,I2,r2,q2⟩=>bc (ho aw s2 O H2 x y v u _ I2 r1 r2 q2) λd s3 ⟨z,H3,I3,r3,k,e,q3⟩=>?_)) hm;subst e;cases r3;refine qD ?_;cases k with |false=>obtain⟨k',e',q'⟩:=q3;cases e';exact ite_ff ⟨H3,I3,q'⟩ |true=>refine ite_tt (test_last (bc (hc aw s3 O H3 _ I3 q3) λw' s4 ⟨z',H4,I4,r4,q4⟩=>bc (mT aw s4 O H4 y z' u w' _ I4 r2 r4 q4) λd' s5 ⟨z2,H5,I5,r5,k2,e2,q5⟩=>?_));subst e2;cases r5;exact qD ⟨H5,I5,q5⟩
def Li(K:aa)(x:V)(H:Hp)(k:Bool):Prop:=match x with | .bB=>k=false | .bl b=>k=b | .int i=>k=(i !=0) | .str y=>y.length<=sizeLine/\k=((y.length:Int) !=0) | .xS y=>y.size<=sizeLine/\k=((y.size:Int) !=0) | .ref p=>(∃xs,aH K H p xs/\k= !xs.isEmpty)\/(∃xs,aR K H p xs/\k= !xs.isEmpty)\/∃aQ,H p=some (.dK aQ)/\k= !aQ.isEmpty |_=>False
theorem a4U{κ:Type}{aQ:List (κ×V)}{vs:List (κ×Value)}(r:KV aQ vs):(!vs.isEmpty)= !aQ.isEmpty:=by cases r<;>rfl
theorem S5(r:Vals xs its):(!its.toArray.isEmpty)= !xs.isEmpty:=by cases r<;>simp
theorem uz:(sizeLine:Nat)<2^63:=by rw[DY];decide
theorem Xv:abH X (λx H Q=>∃k,Li X.K x H k/\Q k H):=by intro aw s O H x v Q I rx h;obtain⟨k,e,q⟩:=h;have hl:=uz;have hs:sizeLine=16777216:=DY;cases x with |bB=>cases rx;have e':k=false:=e;subst e';exact truthy_none ⟨H,I,q⟩ |bl b=>cases rx;have e':k=b:=e;subst e';exact qD ⟨H,I,q⟩ |int i=>obtain⟨t,rfl⟩:=rx;have e':k=(i !=0):=e;subst e';exact PySem.P.truthy_int ⟨H,I,q⟩ |str y=>obtain⟨t,rfl⟩:=rx;obtain⟨hy,e'⟩:y.length<=sizeLine/\k=((y.length:Int) !=0):=e;subst e';exact PySem.P.truthy_str au ⟨H,I.tok _,q⟩ |xS y=>obtain⟨t,rfl⟩:=rx;obtain⟨hy,e'⟩:y.size<=sizeLine/\k=((y.size:Int) !=0):=e;subst e';exact PySem.W.truthy_bytes au ⟨H,I.tok _,q⟩ |ref p=>
 cases rx;have e':(∃xs,aH X.K H p xs/\k= !xs.isEmpty)\/(∃xs,aR X.K H p xs/\k= !xs.isEmpty)\/∃aQ,H p=some (.dK aQ)/\k= !aQ.isEmpty:=e;rcases e' with⟨xs,hx,e'⟩|⟨xs,hx,e'⟩|⟨aQ,hx,e'⟩
 ·subst e'
  obtain⟨its,r,pl,hz⟩:=I.list hx;have hlen:=r.length;exact wpAny_truthy_list pl.isList (by simp only[eg];lia) ⟨H,I.tok _,by rw[S5 r];exact q⟩
 ·subst e'
  obtain⟨its,r,pl,hz⟩:=I.tuple hx;have hlen:=r.length;exact truthy_tuple pl (by simp only[eg];lia) ⟨H,I.tok _,by rw[S5 r];exact q⟩
 ·subst e'
  obtain⟨hz,hS,vs,r,m⟩:aQ.length<=sizeLine/\(p==sysModules)=false/\∃vs,KV aQ vs/\s.heap.DictOf (jC X.prog X.w) p vs:=I.aY p _ hx;have hlen:aQ.length=vs.length:=Paired.length r;exact wpAny_truthy_dict hS m au ⟨H,I.tok _,by rw[a4U r];exact q⟩ |_=>exact(show False from e).elim
theorem a0s(ha:PE X a ta)(he:∀whole,isTrue a X.env whole=(do let v<-whole;standAt a.pos;holding [v] (truthy v))): PT X a (λO H Q=>ta O H λx H'=>∃k,Li X.K x H' k/\Q k H'):=by intro aw s O H Q I h;exact isTrue_plain (bc (ha aw s O H _ I h) λv s1 ⟨x,H1,I1,r1,q1⟩=>Xv aw s1 O H1 x v Q I1 r1 q1) (he _)
theorem Qv:dF X (binaryOp .Add) (λx y H Q=>∃i j,x= .str i/\y= .str j/\i.length+j.length<=sizeLine/\Q (.str (i++j)) H):=by intro aw s O H x y v u Q I rx ry h;obtain⟨i,j,rfl,rfl,hz,q⟩:=h;obtain⟨t,rfl⟩:=rx;obtain⟨t',rfl⟩:=ry;exact add_str (λt' tk=>⟨.str (i++j),H,I.tok _,⟨_,Z⟩,q⟩) hz
theorem vals1(r:Vals [x] us):∃u,us=[u]/\RelV x u:=by cases r with |cons r1 r2=>cases r2;exact⟨_,rfl,r1⟩
theorem vals2(r:Vals [x,y] us):∃u w',us=[u,w']/\RelV x u/\RelV y w':=by cases r with |cons r1 r2=>cases r2 with |cons r3 r4=>cases r4;exact⟨_,_,rfl,r1,r3⟩
theorem oM:fJ X (.builtin "abs") (λxs H Q=>∃i,xs=[.int i]/\Q (.int (if i<0 then-i else i)) H):=by intro aw s O H xs us Q I r h;obtain⟨i,rfl,q⟩:=h;obtain⟨u,rfl,t,rfl⟩:=vals1 r;exact call_abs_int λu tk=>⟨.int (if i<0 then-i else i),H,I.tok _,⟨_,Z⟩,q⟩
theorem V5(hc:X.calm=true):fJ X (.builtin "max") (λxs H Q=>∃i j,xs=[.int i,.int j]/\Q (.int (if j>i then j else i)) H):=by
 intro aw s O H xs us Q I r h;obtain⟨i,j,rfl,q⟩:=h;obtain⟨u,w',rfl,⟨t,rfl⟩,⟨t',rfl⟩⟩:=vals2 r;refine max_two_ints (I.ok.hd hc) λh' tk k=>⟨_,H,I.kept k,?_,q⟩;by_cases hj:j>i
 ·rw[bh hj,bh hj];exact⟨_,Z⟩
 ·rw[bf hj,bf hj];exact⟨_,Z⟩
theorem Kz(hc:X.calm=true):fJ X (.builtin "min") (λxs H Q=>∃i j,xs=[.int i,.int j]/\Q (.int (if j<i then j else i)) H):=by
 intro aw s O H xs us Q I r h;obtain⟨i,j,rfl,q⟩:=h;obtain⟨u,w',rfl,⟨t,rfl⟩,⟨t',rfl⟩⟩:=vals2 r;refine min_two_ints (I.ok.hd hc) λh' tk k=>⟨_,H,I.kept k,?_,q⟩;by_cases hj:j<i
 ·rw[bh hj,bh hj];exact⟨_,Z⟩
 ·rw[bf hj,bf hj];exact⟨_,Z⟩
theorem V6:fJ X (.type "int") (λxs H Q=>(∃i,xs=[.int i]/\Q (.int i) H)\/∃k,xs=[.bl k]/\Q (.int (if k then 1 else 0)) H):=by
 intro aw s O H xs us Q I r h;rcases h with⟨i,rfl,q⟩|⟨k,rfl,q⟩
 ·obtain⟨u,rfl,t,rfl⟩:=vals1 r
  exact call_int_int ⟨.int i,H,I,⟨_,Z⟩,q⟩
 ·obtain⟨u,rfl,r1⟩:=vals1 r
  cases r1;exact call_int_bool ⟨.int (if k then 1 else 0),H,I.tok _,⟨_,Z⟩,q⟩
end
structure vn(h:Heap)(x dx C:Addr)(mA:bJ):Prop where
 obj:h.get? x=some (PySem.W.instObj C dx)
 ns:h.Ns1 dx mA
 ne:dx≠x
theorem Rx{h:Heap}{dx:Addr}{mA:bJ}(n:h.Ns1 dx mA):∃od,h.get? dx=some od/\∀name,PySem.W.lookIn name od=some (mA name):=by
 obtain⟨o,es,ep,ho,hd,hk,_,hm⟩:=n;refine⟨o,ho,λname=>?_⟩;have e:=hm name;unfold nsFind findBy at e;rw[<-Array.find?_toList]at e;unfold PySem.W.lookIn;rw[hd];dsimp only;split
 ·rename_i y q
  rw[q]at e;exact congrArg some e
 ·rename_i q
  rw[q]at e;have a:es.toList.any (·.refKey)=false:=by rw[List.any_eq_false];intro y hy;obtain⟨z,t,a64⟩:=hk y (Array.mem_toList_iff.mp hy);simp[DictEntry.refKey,a64]
  have a':¬es.toList.any (·.refKey)=true:=by rw[a];exact kF
  rw[bf a'];exact congrArg some e
theorem vn.look(I:vn h x dx C mA):∃od,PySem.W.InstAt h x (PySem.W.instObj C dx) C (some od)/\∀name,PySem.W.lookIn name od=some (mA name):=let⟨od,ho,hl⟩:=Rx I.ns
 ⟨od,⟨I.obj,Z,Z,ho⟩,hl⟩
section
variable {prog:ah}{w:World}{A:aj}{E:Value->ae->Prop}{s:ae}{K:aa}{x dx C f:Addr}{mA:bJ}{name:Str}{v:Value}
theorem get_map{expr:Bool}{Q:Value->ae->Prop}(X:K.In s.heap)(I:vn s.heap x dx C mA)(hg:PySem.W.plainGet K C name=true)(hh:PySem.W.hasDictIn K C=true) (ha:PySem.W.findIn K (.ref C) name=some none)(hv:mA name=some v)(hv':PySem.W.handedIn v=true)(h:Q v {s with toks:=s.toks+1}): wpAny (model prog w) A (getAttr (.ref x) name expr) Q E s:=by obtain⟨od,J,hl⟩:=I.look;exact PySem.W.get_value X J (Wg hg).1 (PySem.W.findObj_own hh ha Z (by rw[hl,hv])) hv' h
theorem a7R{pl:Sem Bool}{Q:Value×List Value->ae->Prop}(X:K.In s.heap)(I:vn s.heap x dx C mA)(hg:PySem.W.plainGet K C name=true) (hf:PySem.W.findIn K (.ref C) name=some (some (.ref f)))(ht:PySem.W.isFn K (.ref f)=true)(hv:mA name=none)(h:Q (.ref f,[.ref x]) s): wpAny (model prog w) A (getMethod (.ref x) name pl) Q E s:=by obtain⟨od,J,hl⟩:=I.look;exact PySem.W.method_fn X J (Wg hg).1 (Wg hg).2 hf (fz.mp ht) (by show(PySem.W.lookIn name od).map (·.isSome)=some false;rw[hl,hv];rfl) h
theorem YM{ns:List Str}{Q:Unit->ae->Prop}(X:K.In s.heap)(I:vn s.heap x dx C mA) (hs:PySem.W.findIn K (.ref C) "__setattr__"=some (some (.builtin "object.__setattr__")))(hp:PySem.W.plainOver K C=true)(ht:PySem.W.takerIn K C name=some none)(hh:PySem.W.hasDictIn K C=true) (hw:PySem.Within mA ns)(hsz:ns.length<=sizeLine) (h:∀h',vn h' x dx C (λy=>if y=name then some v else mA y)->Heap.SameBut dx s.heap h'->Q () {s with heap:=h',toks:=s.toks+2}): wpAny (model prog w) A (setAttr (.ref x) name v) Q E s:=by obtain⟨od,J,hl⟩:=I.look;refine PySem.W.set_plain X J hs (PySem.W.osa_open (s:={s with toks:=s.toks+1}) (r:=none) X J hp ht λb=>?_);obtain⟨cd,hc,xu⟩:=Wm hh;have hx:s.heap.get? x=some ⟨.ref C,some dx,.plain,#[]⟩:=I.obj;refine aK (cf (aK (aK (wpAny_loadPart hx (aK (yf (s:={s with toks:=s.toks+1}) (Wi X hc) ?_))))));rw[xu];refine cf (a:=some dx) (aK (cf (aK ?_)));refine wpAny_nsSet1 (s:={s with toks:=s.toks+1}) I.ns λh' CD jn=>?_;obtain⟨oD,esD,epD,hoD,hdD,hcD⟩:=CD.count (PySem.Within.cons name v hw);refine aK (wpAny_lookBehind hoD (by rw[hdD];exact pastItsLine_dict (gM hcD (by rw[jM];lia))) ?_);exact cf (h _ ⟨(jn.2 _ (e9 I.ne)).trans I.obj,CD,I.ne⟩ jn)
theorem a3N{R:Result->ae->Prop}{vs:List Value}{kw:List (Str×Value)}(X:K.In s.heap)(hm:PySem.W.makesIn K C=true) (hi:PySem.W.findIn K (.ref C) "__init__"=some (some (.ref f)))(hf:PySem.W.typeIn K (.ref f)=some (.type "function")) (h:codeAny (model prog w) (A.under (.builtin "type.__call__" ⟨.ref C::vs,kw⟩)) (.call (.ref f) ⟨.ref (s.heap.objs.size+1)::vs,kw⟩) (PySem.W.InitBack (s.heap.objs.size+1) R) {s with heap:=(s.heap.push PySem.W.emptyDict).push (PySem.W.instObj C s.heap.objs.size)}): codeAny (model prog w) A (.call (.ref C) ⟨vs,kw⟩) R s:=by obtain⟨hh,g,d,t,os⟩:=s;exact PySem.W.make_core (PySem.W.makes_of X hm) (PySem.W.looks_findIn X hi) (λself=>PySem.W.bind_fn X self hf) (.inl Z) h
end
def jh(f:Str)(v:V):List (Str×V)->List (Str×V) |[]=>[(f,v)] |(g,x)::r=>if g=f then(g,v)::r else(g,x)::jh f v r
theorem Rw(f g:Str)(v:V):∀fs:List (Str×V),(jh f v fs).lookup g=if g=f then some v else fs.lookup g
 |[]=>by
  show List.lookup g [(f,v)]=_;by_cases h:g=f
  ·have hb:(g==f)=true:=fz.mpr h
   simp only[List.lookup,hb,bh h]
  ·have hb:(g==f)=false:=E2.mpr h
   simp only[List.lookup,hb,bf h] |(k,x)::r=>by
  have ih:=Rw f g v r;rw[show jh f v ((k,x)::r)=(if k=f then(k,v)::r else(k,x)::jh f v r)from rfl];by_cases hk:k=f
  ·rw[bh hk]
   by_cases h:g=k
   ·have hb:(g==k)=true:=fz.mpr h
    simp only[List.lookup,hb,bh (h.trans hk)]
   ·have hb:(g==k)=false:=E2.mpr h
    simp only[List.lookup,hb,bf (λe:g=f=>h (e.trans hk.symm))]
  ·rw[bf hk]
   by_cases h:g=k
   ·have hb:(g==k)=true:=fz.mpr h
    simp only[List.lookup,hb,bf (λe:g=f=>hk (h.symm.trans e))]
   ·have hb:(g==k)=false:=E2.mpr h
    simp only[List.lookup,hb];exact ih
theorem IY(f:Str)(v:V):∀fs:List (Str×V),f∈(jh f v fs).map (·.1)/\∀g,g∈fs.map (·.1)->g∈(jh f v fs).map (·.1)
 |[]=>⟨by simp[jh],λg h=>by simp at h⟩ |(k,x)::r=>by
  obtain⟨i1,i2⟩:=IY f v r;rw[show jh f v ((k,x)::r)=(if k=f then(k,v)::r else(k,x)::jh f v r)from rfl];by_cases hk:k=f
  ·rw[bh hk]
   subst hk;exact⟨by simp,λg h=>by simpa using h⟩
  ·rw[bf hk]
   refine⟨?_,λg h=>?_⟩
   ·rw[oW]
    exact lT _ i1
   ·rw[oW]at h⊢
    rcases bL.mp h with e|e
    ·exact bL.mpr (.inl e)
    ·exact lT _ (i2 g e)
theorem RG(f:Str)(v:V):∀fs:List (Str×V),(jh f v fs).length<=fs.length+1
 |[]=>by simp[jh] |(k,x)::r=>by
  have ih:=RG f v r;rw[show jh f v ((k,x)::r)=(if k=f then(k,v)::r else(k,x)::jh f v r)from rfl];by_cases hk:k=f
  ·rw[bh hk,jM,jM];lia
  ·rw[bf hk,jM,jM];lia
theorem jI.some_of{v:V}(r:jI (some v) o):∃u,o=some u/\RelV v u:=by cases o with |none=>exact(show False from r).elim |some u=>exact⟨u,Z,r⟩
theorem jI.none_of(r:jI none o):o=none:=by cases o with |none=>rfl |some u=>exact(show False from r).elim
theorem a6L{v:V}(r:RelV v u):PySem.W.handedIn u=true:=by cases v with |bB=>cases(show u=Value.none from r);rfl |bl b=>cases(show u=Value.bool b from r);rfl |int i=>obtain⟨t,e⟩:=(show∃t,u=Value.int i t from r);cases e;rfl |str x=>obtain⟨t,e⟩:=(show∃t,u=Value.str x t from r);cases e;rfl |xS b=>obtain⟨t,e⟩:=(show∃t,u=Value.bytes b t from r);cases e;rfl |CZ b=>obtain⟨t,e⟩:=(show∃t,u=Value.float b t from r);cases e;rfl |ref a=>cases(show u=Value.ref a from r);rfl |ty n=>cases(show u=Value.type n from r);rfl
section
variable {P:ah}{w:World}{H H':Hp}{h h':Heap}{a C dx:Addr}{fs fs':List (Str×V)}
theorem J6(aY:dN P w H h)(e:H a=some (.ins C dx fs)):∃mA,vn h a dx C mA/\(∀f,jI (fs.lookup f) (mA f))/\PySem.Within mA (fs.map (·.1))/\fs.length<=1000/\H dx=some (.own a):=by obtain⟨d,z,ne,ob,mA,n,r,q⟩:=(show fe P w H h a (.ins C dx fs)from aY a _ e);exact⟨mA,⟨ob,n,ne⟩,r,q,z,d⟩
end
structure ky(K:aa)(C:Addr):Prop where
 pg:PySem.W.plainGet K C Str.empty=true
 hd:PySem.W.hasDictIn K C=true
 po:PySem.W.plainOver K C=true
 sa:PySem.W.findIn K (.ref C) "__setattr__"=some (some (.builtin "object.__setattr__"))
theorem ky.get{K:aa}{C:Addr}(c:ky K C)(f:Str):PySem.W.plainGet K C f=true:=c.pg
def jt(K:aa)(C:Addr)(f:Str):Prop:=PySem.W.findIn K (.ref C) f=some none
theorem jt.XG{K:aa}(n:jt K C f):PySem.W.takerIn K C f=some none:=by unfold PySem.W.takerIn;rw[show PySem.W.findIn K (.ref C) f=some none from n];rfl
structure Meth(K:aa)(C:Addr)(m:Str)(f:Addr):Prop where
 at_:PySem.W.findIn K (.ref C) m=some (some (.ref f))
 fn:PySem.W.isFn K (.ref f)=true
 kp:PySem.W.keepIn K (.ref f)=true
section
variable {X:Cx}{aw:List (Addr×Obj)}{O:St}{H:Hp}{s:ae}{a C dx:Addr}{fs:List (Str×V)}{f:Str}{v:V}{A:aj}{E:Value->ae->Prop}
theorem Th{b:Bool}{Q:Value->ae->Prop}(I:Inv X aw O H s)(e:H a=some (.ins C dx fs))(c:ky X.K C)(n:jt X.K C f)(l:fs.lookup f=some v) (h:∀u s',Inv X aw O H s'->RelV v u->Q u s'):wpAny (model X.prog X.w) A (getAttr (.ref a) f b) Q E s:=by obtain⟨mA,afI,r,_,_,_⟩:=J6 I.aY e;obtain⟨u,hu,ru⟩:=jI.some_of (v:=v) (o:=mA f) (by rw[<-l];exact r f);exact get_map I.fV afI (c.get f) c.hd n hu (a6L ru) (h u _ (I.tok _) ru)
theorem Tg{m:Str}{g:Addr}{pl:Sem Bool}{Q:Value×List Value->ae->Prop}(I:Inv X aw O H s)(e:H a=some (.ins C dx fs))(c:ky X.K C)(k:Meth X.K C m g)(l:fs.lookup m=none) (h:Q (.ref g,[.ref a]) s):wpAny (model X.prog X.w) A (getMethod (.ref a) m pl) Q E s:=by obtain⟨mA,afI,r,_,_,_⟩:=J6 I.aY e;have hn:mA m=none:=jI.none_of (by rw[<-l];exact r m);exact a7R I.fV afI (c.get m) k.at_ k.fn hn h
theorem NM{y:V}{u:Value}{Q:Unit->ae->Prop}(I:Inv X aw O H s)(e:H a=some (.ins C dx fs))(c:ky X.K C)(n:jt X.K C f)(hl:fs.length<1000)(ry:RelV y u) (h:∀s',Inv X aw O (upd H a (.ins C dx (jh f y fs))) s'->Q () s'):wpAny (model X.prog X.w) A (setAttr (.ref a) f u) Q E s:=by
 obtain⟨mA,afI,r,wi,_,ho⟩:=J6 I.aY e;have hz:(fs.map (·.1)).length<=sizeLine:=by rw[cx,DY];lia
 refine YM I.fV afI c.sa c.po n.XG c.hd wi hz λh' O' sb=>h _ ?_;have hd:∃o,h'.get? dx=some o:=let⟨o,_,_,e',_⟩:=O'.ns;⟨o,e'⟩;refine I.write (x:=a) (e:=dx) (by rw[e];exact True.intro) (.inr ho) (λb q hb z=>(sb.2 b hb).trans z) hd ?_;refine⟨by rw[aO afI.ne];exact ho,?_,afI.ne,O'.obj,_,O'.ns,λg=>?_,λg hg=>?_⟩
 ·have:=RG f y fs;lia
 ·show jI ((jh f y fs).lookup g) (if g=f then some u else mA g)
  rw[Rw];by_cases q:g=f
  ·rw[bh q,bh q];exact ry
  ·rw[bf q,bf q];exact r g
 ·by_cases q:g=f
  ·rw[q];exact(IY f y fs).1
  ·refine(IY f y fs).2 g (wi g λz=>hg ?_)
   show(if g=f then some u else mA g)=none;rw[bf q];exact z
theorem Inv.made(I:Inv X aw O H s):Inv X aw O (upd (upd H s.heap.objs.size (.own (s.heap.objs.size+1))) (s.heap.objs.size+1) (.ins C s.heap.objs.size [])) {s with heap:=(s.heap.push PySem.W.emptyDict).push (PySem.W.instObj C s.heap.objs.size)}:=by
 have e1:(s.heap.push PySem.W.emptyDict).get? s.heap.objs.size=some PySem.W.emptyDict:=eV s.heap rfl;have e2:((s.heap.push PySem.W.emptyDict).push (PySem.W.instObj C s.heap.objs.size)).get? (s.heap.objs.size+1)=some (PySem.W.instObj C s.heap.objs.size):=by have:=eV (s.heap.push PySem.W.emptyDict) (o:=PySem.W.instObj C s.heap.objs.size) rfl;rwa [qJ]at this
 have e3:(s.heap.push PySem.W.emptyDict).Ns s.heap.objs.size (λ_=>none):=⟨PySem.W.emptyDict,#[],_,e1,Z,(λe he=>absurd he (by simp)),λ_=>rfl⟩;have I1:=I.laid (a:=s.heap.objs.size) (o:=.own (s.heap.objs.size+1)) (h':=s.heap.push PySem.W.emptyDict) (t':=s.toks) (λb u q=>cy _ q) (bK _) ⟨_,e1⟩;refine I1.laid (a:=s.heap.objs.size+1) (o:=.ins C s.heap.objs.size []) (t':=s.toks) (λb u q=>cy _ q) (Nat.le_of_eq (qJ _ _)) ?_;have ne:s.heap.objs.size≠s.heap.objs.size+1:=fA (Wz _);refine⟨by rw[aO ne,bo],gy _,ne,e2,λ_=>none,(Heap.Ns1.of_empty e3).at λo q=>cy _ q,λ_=>True.intro,λy hy=>absurd rfl hy⟩
theorem Vn{prog:ah}{w:World}{env:Env}{e:Expr}{f:Str}{pos:Pos}{s:ae}{Q:Value->ae->Prop}(hb:attributeBase e f env (eval e env)=eval e env) (h:wpAny (model prog w) A (eval e env) (λo s₁=>wpAny (model prog w) A (getAttr o f true) Q E s₁) E s):wpAny (model prog w) A (eval (.Attribute e f pos) env) Q E s:=Attribute_any_ h (by rw[arm_eval_Attribute,hb])
end
def adF(X:Cx)(op:Operator)(rd:V->V->Hp->VK->Prop):Prop:=∀(aw:List (Addr×Obj))(s:ae)(O:St)(H:Hp)(x y:V)(u v:Value)(Q:VK),Inv X aw O H s->RelV x u->RelV y v->rd x y H Q->wpAny (model X.prog X.w) X.A (inplaceOp op u v) (EP X aw O Q) X.xe s
section
variable {X:Cx}{o e value:Expr}{f:Str}{pos pos' p9:Pos}{ta tv:TE}
end
section
variable {X:Cx}{aw:List (Addr×Obj)}{O:St}{H:Hp}{s:ae}{A:aj}{E:Value->ae->Prop}{Q:Value->ae->Prop}{c:Value}{b:Bool}
end
structure cN(k:Nat)(A:aj):Prop where
 hd:A.handled=none
 dp:A.depth+3*k+5<recursionLimit
 un:A.units+16*k+200<cLine
theorem cN.mono{k:Nat}(r:cN k A)(h:j<=k):cN j A:=⟨r.hd,by have:=r.dp;lia,by have:=r.un;lia⟩
theorem cN.deeper{k:Nat}(r:cN (k+1) A)(env:Env):cN k (A.deeper env):=⟨r.hd,by have:=r.dp;show A.depth+1+3*k+5<_;lia,by have:=r.un;show A.units+3+16*k+200<_;lia⟩
theorem a3O{A:aj}{C:Addr}{us:List Value}{kw:List (Str×Value)}:(A.under (.builtin "type.__call__" ⟨.ref C::us,kw⟩)).depth=A.depth+1:=by first|rfl|simp[Around.under,Code.weight,Code.isCreation,Code.isGuard,Code.isCaller,Code.frames,Code.isFrame,guardIds]
theorem a3M{A:aj}{C:Addr}{us:List Value}{kw:List (Str×Value)}:(A.under (.builtin "type.__call__" ⟨.ref C::us,kw⟩)).units=A.units+1:=by first|rfl|simp[Around.under,Code.cUnits,Code.frames,Code.isFrame]
theorem cN.make{k:Nat}(r:cN (k+1) A)(C:Addr)(us:List Value)(kw:List (Str×Value)):cN k (A.under (.builtin "type.__call__" ⟨.ref C::us,kw⟩)):=⟨r.hd,by have:=r.dp;rw[a3O];omega,by have:=r.un;rw[a3M];omega⟩
theorem cN.depth{k:Nat}(r:cN k A):A.depth<recursionLimit:=by have:=r.dp;lia
theorem cN.units{k:Nat}(r:cN k A):A.units+64<cLine:=by have:=r.un;lia
def kG:TA:=λ_ H Q=>Q [] H
def tO(ta:TE)(tr:TA):TA:=λO H Q=>ta O H λx H1=>tr O H1 λxs H2=>Q (x::xs) H2
section
variable {X:Cx}{e:Expr}{es:List Expr}{te:TE}{t:TA}{pos:Pos}
theorem az:PA X [] kG:=λ_ _ _ _ H Q I h=>Calls.spliced_nil ⟨[],H,I,.nil,h⟩
theorem ao(ha:PE X e te)(hr:PA X es t)(hs:starEach (e::es) X.env=(false,eval e X.env)::starEach es X.env:=by rfl):PA X (e::es) (tO te t):=by intro pos aw s O H Q I h;rw[hs];show wpAny _ _ (spliced ((false,eval e X.env)::backTo pos (starEach es X.env))) _ _ s;refine Calls.spliced_cons (bc (ha aw s O H _ I h) λu s1 ⟨x,H1,I1,r1,q1⟩=>?_);exact bc (hr pos aw s1 O H1 _ I1 q1) λus s2 ⟨xs,H2,I2,r2,q2⟩=>⟨x::xs,H2,I2,.cons r1 r2,q2⟩
end
abbrev Sp:=List V->Hp->VK->XK->Prop
abbrev kz:=List Env->Hp->ae->XK->Value->ae->Prop
structure oT(P:ah)(w:World)(K:aa)(mg:bJ)(ay:Heap)(A:aj)(outer:List Env)(s:ae)(H:Hp):Prop where
 frames:A.frames=some outer
 mod:Mod K mg ay
 bs:∀b o,ay.get? b=some o->s.heap.get? b=some o/\H b=none
 my:ay.objs.size<=s.heap.objs.size
 jF:s.heap.FunFrames ay outer
 ou:∀b∈cX outer,H b=none
 aY:dN P w H s.heap
 bare:AllBare s.gens
def CE(outer:List Env)(P:ah)(w:World)(H:Hp)(s:ae)(Q:VK)(u:Value)(s':ae):Prop:=∃v H',s'.os=s.os/\AllBare s'.gens/\Un (cX outer) [] H H' s.heap s'.heap/\dN P w H' s'.heap/\RelV v u/\Q v H'
def CR(CX:kz)(outer:List Env)(P:ah)(w:World)(H:Hp)(s:ae)(Q:VK)(E:XK)(r:Result)(s':ae):Prop:=match r with | .ok (.ret u)=>CE outer P w H s Q u s' | .ok _=>False | .error e=>CX outer H s E e s'
structure gY(P:ah)(w:World)(K:aa)(mg:bJ)(ay:Heap)(CX:kz)(k:Nat)(f:Addr)(fd:FuncData)(ps:List Str)(sp:Sp):Prop where
 len:∀vs H Q E,sp vs H Q E->vs.length=ps.length
 run:∀(A:aj)(outer:List Env)(s:ae)(H:Hp)(args:Args)(us:List Value)(vs:List V)(Q:VK)(E:XK),cN k A->oT P w K mg ay A outer s H->BindsTo s fd args (ps.zip us)->Vals vs us->sp vs H Q E->codeAny (model P w) A (.call (.ref f) args) (CR CX outer P w H s Q E) s
theorem oT.make{P:ah}{K:aa}(e:oT P w K mg ay A outer s H)(C:Addr)(us:List Value)(kw:List (Str×Value)): oT P w K mg ay (A.under (.builtin "type.__call__" ⟨.ref C::us,kw⟩)) outer s H:=⟨by first|exact e.frames|(simpa[Around.under,Code.envs,Code.isFrame,pushEnvs]using e.frames),e.mod,e.bs,e.my,e.jF,e.ou,e.aY,e.bare⟩
section
variable {X:Cx}{aw:List (Addr×Obj)}{O:St}{H:Hp}{s s':ae}
theorem Inv.A9(I:Inv X aw O H s):oT X.prog X.w X.K X.mg X.ay X.A X.stack s H:=⟨I.ok.frames,I.ok.mod,I.bs,gM I.ok.my I.sz,I.stack,I.vU,I.aY,I.bare⟩
theorem Inv.after(I:Inv X aw O H s)(h:CE X.stack X.prog X.w H s Q u s'):EP X aw O Q u s':=by obtain⟨v,H',os,bare,un,aY,r,q⟩:=h;obtain⟨hh,g,d,t,gb⟩:=s';obtain rfl:gb=s.os:=os;exact⟨v,H',I.call (h':=hh) (g':=g) (d':=d) (t':=t) (ch:=[]) un aY bare (λb z=>absurd z (by simp)),r,q⟩
end
def Y1(sp:Sp)(gL:List V)(E:XK)(t:TA):TE:=λO H Q=>t O H λvs H1=>sp (vs++gL) H1 Q E
inductive xX(C:Addr)(m:Str)(sp:Sp)(gL:List V)(E:XK)(t:TA)(O:St)(Q:VK)(x:V)(H1:Hp):Prop |mk (a:_)(dx:_)(fs:_)(h0:x= .ref a)(h1:H1 a=some (.ins C dx fs))(h2:fs.lookup m=none)(h3:t O H1 λvs H2=>sp (x::(vs++gL)) H2 Q E)
def MJ(C:Addr)(m:Str)(sp:Sp)(gL:List V)(E:XK)(ta:TE)(t:TA):TE:=λO H Q=>ta O H λx H1=>xX C m sp gL E t O Q x H1
def XW(C:Addr)(sp:Sp)(gL:List V)(E:XK)(t:TA):TE:=λO H Q=>t O H λvs H1=>∀x dx,H1 x=none->H1 dx=none->dx≠x->sp (.ref x::(vs++gL)) (upd (upd H1 dx (.own x)) x (.ins C dx [])) (λv H2=>v= .bB/\Q (.ref x) H2) E
def Binds(K:aa)(fd:FuncData)(ps:List Str)(ds:List Value):Prop:=∀(s:ae)(us:List Value),K.In s.heap->(us++ds).length=ps.length->BindsTo s fd ⟨us,[]⟩ (ps.zip (us++ds))
theorem Binds.all{K:aa}(h:∀us:List Value,us.length=ps.length->bindArgs fd ⟨us,[]⟩=pure (ps.zip us)):Binds K fd ps []:=λs us _ hl=>by rw[vJ]at hl⊢;exact .of_eq (h us hl)
def Passes(CX:kz)(X:Cx)(E:XK):Prop:=∀(aw:List (Addr×Obj))(O:St)(H:Hp)(s:ae)(e:Value)(s':ae),Inv X aw O H s->CX X.stack H s E e s'->X.xe e s'
section
variable {X:Cx}{CX:kz}{k:Nat}{f C:Addr}{fd:FuncData}{ps:List Str}{sp:Sp}{gL:List V}{ds:List Value}{E:XK}{x m:Str}{p pos apos:Pos}{e o:Expr}{es:List Expr}{ta:TE}{t:TA}
theorem Hd{aw:List (Addr×Obj)}{O:St}{H:Hp}{s:ae}{Q:VK}{us:List Value}{vs:List V}(F:gY X.prog X.w X.K X.mg X.ay CX k f fd ps sp)(hr:cN k X.A)(hb:Binds X.K fd ps ds)(hd:Vals gL ds)(hx:Passes CX X E) (I:Inv X aw O H s)(r:Vals vs us)(h:sp (vs++gL) H Q E):wpAny (model X.prog X.w) X.A (call (.ref f) us) (EP X aw O Q) X.xe s:=by
 have r2:Vals (vs++gL) (us++ds):=r.append hd;have hl:(us++ds).length=ps.length:=by rw[<-r2.length];exact F.len _ _ _ _ h
 refine sT (yc (F.run X.A X.stack s H ⟨us,[]⟩ (us++ds) (vs++gL) Q E hr I.A9 (hb s us I.fV hl) r2 h) λr s' hq=>?_);cases r with |error e=>exact hx aw O H s e s' I hq |ok fl=>cases fl with |ret u=>exact I.after hq |next=>exact False.elim hq |brk=>exact False.elim hq |cont=>exact False.elim hq
theorem a17(F:gY X.prog X.w X.K X.mg X.ay CX k f fd ps sp)(hr:cN k X.A)(hg:Gl X x)(hm:X.mg x=some (.ref f))(hk:PySem.W.keepIn X.K (.ref f)=true)(hb:Binds X.K fd ps ds)(hd:Vals gL ds)(hx:Passes CX X E) (ha:PA X (e::es) t)(jq:(x==("__debug__":Str))=false:=by decide)(he:starEach (e::es) X.env=(false,eval e X.env)::starEach es X.env:=by rfl)(gE:(backTo pos (starEach es X.env)).any (·.1)=false:=by rfl): PE X (.Call (.Name x p) (e::es) [] pos) (Y1 sp gL E t):=by intro aw s O H Q I h;refine AH (uA I hg hm ?_ jq);refine Wl (h₀:=X.ay) I.ok.mod.o8 hk (bc (ha pos aw s O H _ I h) λus s1 ⟨vs,H1,I1,r,q⟩=>⟨I1.fV,?_⟩) he gE;exact Hd F hr hb hd hx I1 r q
theorem Qc(he:PE X o ta)(c:ky X.K C)(hm:Meth X.K C m f)(F:gY X.prog X.w X.K X.mg X.ay CX k f fd ps sp)(hr:cN k X.A)(hb:Binds X.K fd ps ds)(hd:Vals gL ds)(hx:Passes CX X E)(ha:PA X (e::es) t) (gD:starEach (e::es) X.env=(false,eval e X.env)::starEach es X.env:=by rfl)(gE:(backTo pos (starEach es X.env)).any (·.1)=false:=by rfl) (ht:eval (.Call (.Attribute o m apos) (e::es) [] pos) X.env=(do
 let ov<-eval o X.env
 standAt apos.atName
 let(f,first)<-holding [ov] (getMethod ov m pl)
 callWith pos f first (backTo pos (starEach (e::es) X.env)) (backToKw pos (keywordEach [] X.env))):=by rfl): PE X (.Call (.Attribute o m apos) (e::es) [] pos) (MJ C m sp gL E ta t):=by
 intro aw s O H Q I h;refine PySem.W.methodCall_KW (pl:=pl) (bc (he aw s O H _ I h) λu s1 ⟨x,H1,I1,rx,a,dx,fs,ex,ea,l,q⟩=>?_) ht;subst ex;obtain rfl:u=Value.ref a:=rx;refine Tg I1 ea c hm l ?_;refine Wl (first:=[.ref a]) (h₀:=X.ay) I.ok.mod.o8 hm.kp (bc (ha pos aw s1 O H1 _ I1 q) λus s2 ⟨vs,H2,I2,r,q2⟩=>⟨I2.fV,?_⟩) gD gE;exact Hd (us:=.ref a::us) (vs:=.ref a::vs) F hr hb hd hx I2 (.cons Z r) q2
theorem a0U(he:PE X o ta)(c:ky X.K C)(hm:Meth X.K C m f)(F:gY X.prog X.w X.K X.mg X.ay CX k f fd ps sp)(hr:cN k X.A)(hb:Binds X.K fd ps ds)(hd:Vals gL ds)(hx:Passes CX X E) (ht:eval (.Call (.Attribute o m apos) [] [] pos) X.env=(do
 let ov<-eval o X.env
 standAt apos.atName
 let(f,first)<-holding [ov] (getMethod ov m pl)
 callWith pos f first (backTo pos (starEach [] X.env)) (backToKw pos (keywordEach [] X.env))):=by rfl): PE X (.Call (.Attribute o m apos) [] [] pos) (MJ C m sp gL E ta kG):=by
 intro aw s O H Q I h;refine PySem.W.methodCall_KW (pl:=pl) (bc (he aw s O H _ I h) λu s1 ⟨x,H1,I1,rx,a,dx,fs,ex,ea,l,q⟩=>?_) ht;subst ex;obtain rfl:u=Value.ref a:=rx;refine Tg I1 ea c hm l ?_;exact PySem.W.callWith_K0 (first:=[.ref a]) I1.fV hm.kp (Hd (us:=[.ref a]) (vs:=[.ref a]) F hr hb hd hx I1 (.cons rfl .nil) q)
structure Mk(K:aa)(C f:Addr):Prop where
 makes:PySem.W.makesIn K C=true
 init:PySem.W.findIn K (.ref C) "__init__"=some (some (.ref f))
 fn:PySem.W.isFn K (.ref f)=true
 kp:PySem.W.keepIn K (.ref C)=true
theorem Zl{aw:List (Addr×Obj)}{O:St}{H:Hp}{s:ae}{Q:VK}{us:List Value}{vs:List V}(M:Mk X.K C f)(F:gY X.prog X.w X.K X.mg X.ay CX k f fd ps sp)(hr:cN (k+1) X.A)(hb:Binds X.K fd ps ds)(hd:Vals gL ds) (hx:Passes CX X E)(I:Inv X aw O H s)(r:Vals vs us) (h:∀x dx,H x=none->H dx=none->dx≠x->sp (.ref x::(vs++gL)) (upd (upd H dx (.own x)) x (.ins C dx [])) (λv H2=>v= .bB/\Q (.ref x) H2) E): wpAny (model X.prog X.w) X.A (call (.ref C) us) (EP X aw O Q) X.xe s:=by
 have hq:=h (s.heap.objs.size+1) s.heap.objs.size (I.aY.fresh (E6 _)) (I.aY.fresh (bK _)) (fA (Wz _));have I2:=Inv.made (C:=C) I;have r2:Vals (V.ref (s.heap.objs.size+1)::(vs++gL)) (Value.ref (s.heap.objs.size+1)::(us++ds)):=.cons Z (r.append hd);have hl:(Value.ref (s.heap.objs.size+1)::us++ds).length=ps.length:=by have e:=r2.length;rw[F.len _ _ _ _ hq]at e;exact e.symm
 refine sT (a3N (f:=f) I.fV M.makes M.init (fz.mp M.fn) (yc (F.run _ X.stack _ _ ⟨Value.ref (s.heap.objs.size+1)::us,[]⟩ (Value.ref (s.heap.objs.size+1)::(us++ds)) _ _ E (hr.make C us []) (I2.A9.make C us []) (hb _ (Value.ref (s.heap.objs.size+1)::us) I2.fV hl) r2 hq) λr s' hW=>?_));cases r with |error e=>exact hx aw O _ _ e s' I2 hW |ok fl=>cases fl with |ret u=>obtain⟨v,H',I3,rv,ev,q3⟩:=I2.after hW;subst ev;exact⟨rv,⟨V.ref (s.heap.objs.size+1),H',I3,Z,q3⟩⟩ |next=>exact False.elim hW |brk=>exact False.elim hW |cont=>exact False.elim hW
theorem a0V(M:Mk X.K C f)(F:gY X.prog X.w X.K X.mg X.ay CX k f fd ps sp)(hr:cN (k+1) X.A)(hg:Gl X x)(hm:X.mg x=some (.ref C))(hb:Binds X.K fd ps ds)(hd:Vals gL ds)(hx:Passes CX X E) (ha:PA X (e::es) t)(jq:(x==("__debug__":Str))=false:=by decide)(he:starEach (e::es) X.env=(false,eval e X.env)::starEach es X.env:=by rfl)(gE:(backTo pos (starEach es X.env)).any (·.1)=false:=by rfl): PE X (.Call (.Name x p) (e::es) [] pos) (XW C sp gL E t):=by intro aw s O H Q I h;refine AH (uA I hg hm ?_ jq);refine Wl (h₀:=X.ay) I.ok.mod.o8 M.kp (bc (ha pos aw s O H _ I h) λus s1 ⟨vs,H1,I1,r,q⟩=>⟨I1.fV,?_⟩) he gE;exact Zl M F hr hb hd hx I1 r q
end
section
variable {X:Cx}{CX:kz}{k:Nat}{f C:Addr}{fd:FuncData}{ps ks:List Str}{sp:Sp}{E:XK}{x m:Str}{p pos apos aeS:Pos}{e o:Expr}{es:List Expr}{kws:List Keyword}{te ta:TE}{t tk:TA}{nm:Option Str}
variable {g:List Value->List Value->List Value}{gV:List V->List V->List V}
end
structure bG(N P:List Str)(sc:Scope):Prop where
 kind:sc.kind= .function
 co:sc.isCoroutine=false
 gen:sc.isGenerator=false
 nd:N.Nodup
 pre:N.take P.length=P
 par:∀x∈P,sc.names.lookup x=some .local\/sc.names.lookup x=some .cell
 a3f:∀y∈sc.names,y.2≠ .free
theorem Vb{kindOf:Str->Option NameKind}{x:Str}:∀{binds:List (Str×Value)}{m:bJ},(∀v,(x,v)∉binds)->bindL kindOf binds m x=m x
 |[],_,_=>rfl |(n,v)::r,m,h=>by
  unfold bindL;rw[Vb λw hw=>h w (lT _ hw)];split
  ·have:x≠n:=by rintro rfl;exact h v LU
   simp[this]
  ·rfl
theorem Vd{kindOf:Str->Option NameKind}{x:Str}:∀{binds:List (Str×Value)}{m:bJ},(∀v,(x,v)∉binds)->bindC kindOf binds m x=m x
 |[],_,_=>rfl |(n,v)::r,m,h=>by
  unfold bindC;rw[Vd λw hw=>h w (lT _ hw)];split
  ·rfl
  ·have:x≠n:=by rintro rfl;exact h v LU
   simp[this]
theorem Vc{kindOf:Str->Option NameKind}{x:Str}{v:Value}:∀{P:List Str}{vs:List Value}{i:Nat}{m:bJ},P.Nodup->P[i]? =some x->vs[i]? =some v->kindOf x=some .local->bindL kindOf (P.zip vs) m x=some v |[],_,_,_,_,h,_,_=>by simp at h |_::_,[],_,_,_,_,h,_=>by simp at h |p::P,w::vs,0,m,nd,h1,h2,hk=>by simp at h1 h2;subst h1;subst h2;show bindL kindOf ((p,w)::P.zip vs) m p=_;unfold bindL;rw[Vb λv hv=>(tF.mp nd).1 (AM hv).1,bh hk];simp |p::P,w::vs,i+1,m,nd,h1,h2,hk=>by show bindL kindOf ((p,w)::P.zip vs) m x=_;unfold bindL;exact Vc (i:=i) (tF.mp nd).2 (by simpa using h1) (by simpa using h2) hk
theorem Ve{kindOf:Str->Option NameKind}{x:Str}{v:Value}:∀{P:List Str}{vs:List Value}{i:Nat}{m:bJ},P.Nodup->P[i]? =some x->vs[i]? =some v->kindOf x≠some .local->bindC kindOf (P.zip vs) m x=some v |[],_,_,_,_,h,_,_=>by simp at h |_::_,[],_,_,_,_,h,_=>by simp at h |p::P,w::vs,0,m,nd,h1,h2,hk=>by simp at h1 h2;subst h1;subst h2;show bindC kindOf ((p,w)::P.zip vs) m p=_;unfold bindC;rw[Vd λv hv=>(tF.mp nd).1 (AM hv).1,bf hk];simp |p::P,w::vs,i+1,m,nd,h1,h2,hk=>by show bindC kindOf ((p,w)::P.zip vs) m x=_;unfold bindC;exact Ve (i:=i) (tF.mp nd).2 (by simpa using h1) (by simpa using h2) hk
def start(N:List Str)(vs:List V):St:=vs.map some++List.replicate (N.length-vs.length) none
def iK(CX:kz)(P:ah)(w:World)(K:aa)(mg:bJ)(ay:Heap)(N:List Str)(qual:Str)(scope:Scope)(f:Addr)(cd:Value)(A:aj)(outer:List Env)(s:ae)(H:Hp)(E:XK):Cx where
 prog:=P
 w:=w
 K:=K
 mg:=mg
 ay:=ay
 A:=A.deeper (envOfC qual scope s.heap.objs.size f cd)
 N:=N
 s₀:=s
 H₀:=H
 env:=envOfC qual scope s.heap.objs.size f cd
 outer:=outer
 stack:=envOfC qual scope s.heap.objs.size f cd::outer
 ex:=[]
 calm:=true
 fn:=λ_=>true
 pn:=[]
 xe:=λe s'=>wpAny (model P w) (A.deeper (envOfC qual scope s.heap.objs.size f cd)) (leaving (envOfC qual scope s.heap.objs.size f cd) e) (λ_ tZ=>CX outer H s E e tZ) (λe' tZ=>CX outer H s E e' tZ) s'
theorem V1{sc:Scope}{n:Nat}{x:Str}(h:sc.names.lookup x=some .cell):∃c,(cellsFrom n sc.names []).lookup x=some c:=by have q:=PySem.W.cellsFrom_some sc.names n [] (.inl h);exact Option.isSome_iff_exists.mp q
theorem S6{CX:kz}{P:ah}{w:World}{K:aa}{mg:bJ}{ay:Heap}{N ps:List Str}{qual:Str}{scope:Scope}{f:Addr}{cd:Value}{A:aj}{outer:List Env}{s s1:ae}{H:Hp}{E:XK}{us:List Value}{vs:List V} (S:bG N ps scope)(hd:A.handled=none)(e0:oT P w K mg ay A outer s H)(hl:vs.length=ps.length)(r:Vals vs us) (x:InCallC s s.heap.objs.size (bindL (envOfC qual scope s.heap.objs.size f cd).kindOf (ps.zip us) λ_=>none) (cellsFrom (s.heap.objs.size+1) scope.names []) (bindC (envOfC qual scope s.heap.objs.size f cd).kindOf (ps.zip us) λ_=>none) s1): Inv (iK CX P w K mg ay N qual scope f cd A outer s H E) [] (start N vs) H s1:=by
 have gE:ps.length<=N.length:=by have:=congrArg List.length S.pre;rw[oY]at this;lia
 obtain⟨h1,tk,rfl,hk⟩:=x.done;have ur:∀b:Addr,b∉(iK CX P w K mg ay N qual scope f cd A outer s H E).ex:=λb z=>absurd (show b∈([]:List Addr)from z) (by simp);refine⟨⟨e0.mod,S.kind,Z,Z,bK _,λy z c h1 h2=>?_,λy hy=>?_,λy c _ h=>?_,λ_=>hd,Around.frames_deeper e0.frames,.inr ⟨Z,Z⟩,λb z=>absurd z (ur b),e0.bs,e0.my,λb _ _=>ur b,λb z=>absurd z (ur b),e0.jF,e0.ou⟩,rfl,e0.bare,Un.kept hk,⟨_,x.toInCall.ns,λi y v h1 h2 h3=>?_⟩,λy c h=>⟨_,x.cell y c h⟩,e0.aY.fresh (bK _),λy c h=>?_,λp hp=>absurd (show p∈([]:List (Addr×Obj))from hp) (by simp),e0.aY.kept hk,?_⟩
 ·exact name_of_addr x.apart (vx h1) (vx h2)
 ·have hy:scope.names.lookup y=some .cell\/scope.names.lookup y=some .free:=hy
  rcases hy with hy|hy
  ·exact V1 hy
  ·exact absurd Z (S.a3f _ (vx hy))
 ·exact LQ (x.above y c (vx h))
 ·have hi:i<vs.length:=by
   unfold start at h2;by_cases hi:i<vs.length
   ·exact hi
   ·rw[AU (by simpa using hi)]at h2
    rw[WC]at h2;split at h2<;>cases h2
  have ha:vs[i]? =some v:=by unfold start at h2;rw[yj (by simpa using hi),cI]at h2;cases e:vs[i]? with |none=>rw[e]at h2;cases h2 |some a=>rw[e]at h2;cases h2;rfl
  obtain⟨u,hu,rv⟩:=r.get ha;have hp:ps[i]? =some y:=by rw[<-S.pre,List.getElem?_take_of_lt au];exact h1
  have QO:ps.Nodup:=by rw[<-S.pre];exact S.nd.sublist (List.take_sublist _ _)
  refine⟨u,rv,?_⟩;rcases S.par y (gI hp)with k|k
  ·exact .inl ⟨k,Vc QO hp hu k⟩
  ·obtain⟨c,e⟩:=V1 (n:=s.heap.objs.size+1) k
   refine .inr ⟨.inl k,c,e,?_⟩;have q:=x.cell y c e;rw[Ve QO hp hu (by show scope.names.lookup y≠_;rw[k];decide)]at q;exact q
 ·exact e0.aY.fresh (LQ (x.above y c (vx h)))
 ·unfold start
  show _=N.length;rw[fC,cx,AO]
  lia
theorem JS{P:ah}{K:aa}{k:Nat}{kV:Value}(lk:K.lookup f=some ⟨oc,od,.func (PySem.W.fnOf name qual params body scope dV kV doc pm an aP ct),fR⟩)(gF:PySem.W.codeIn K aP qual=true)(S:bG N ps scope) (len:∀vs H Q E,sp vs H Q E->vs.length=ps.length) (iW:∀(A:aj)(outer:List Env)(s:ae)(H:Hp)(vs:List V)(Q:VK)(E:XK),cN k (A.deeper (envOfC qual scope s.heap.objs.size f aP))->sp vs H Q E->∃t,ie (iK CX P w K mg ay N qual scope f aP A outer s H E) body t/\t {nx:=λ_ H'=>Q .bB H',rt:=Q} (start N vs) H): gY P w K mg ay CX (k+1) f (PySem.W.fnOf name qual params body scope dV kV doc pm an aP ct) ps sp:=by
 refine⟨len,λA outer s H args us vs Q E hr e0 hb r jm=>?_⟩;have hl:=len _ _ _ _ jm;have KX:K.In s.heap:=e0.mod.o8.keeps λb o e=>(e0.bs b o e).1;have lim:s.heap.NoLimit:=e0.mod.nolimit.keeps λb o e=>(e0.bs b o e).1;have pX:∀y∈ps.zip us,scope.names.lookup y.1=some .local\/(scope.names.lookup y.1=some .cell/\((cellsFrom (s.heap.objs.size+1) scope.names []).lookup y.1).isSome=true):=λ⟨n,v⟩ hy=>by
  rcases S.par n (AM hy).1 with q|q
  ·exact .inl q
  ·exact .inr ⟨q,PySem.W.cellsFrom_some _ _ _ (.inl q)⟩
 refine codeAny_call_function hr.depth (KX _ _ lk) Z S.co S.gen Z (PySem.W.codeRec_of KX gF) (hb _ _ _ _ ?_);refine wpAny_newFunctionEnv_cells S.kind pX λenv he s1 x=>?_;subst he;refine⟨lim.keeps x.toInCall.keep,codeAny_func ?_⟩;obtain⟨t,ht,hq⟩:=iW A outer s H vs Q E (hr.deeper _) jm;have I:Inv (iK CX P w K mg ay N qual scope f aP A outer s H E) [] (start N vs) H s1:=S6 S hr.hd e0 hl r x;refine iM (ht [] s1 (start N vs) H _ I hq) (λfl s' hs=>?_) λe s' hs=>hs;have fin:∀{σ':St}{H':Hp}{v:V}{u:Value},Inv (iK CX P w K mg ay N qual scope f aP A outer s H E) [] σ' H' s'->RelV v u->Q v H'->CE outer P w H s Q u s':=λ{σ' H' v u} J rv q=>⟨v,H',J.os,J.bare,J.ay,J.aY,rv,q⟩;cases fl with |ret u=>obtain⟨v,σ',H',J,rv,q⟩:=hs;exact fin J rv q |next=>obtain⟨σ',H',J,q⟩:=hs;exact fin (v:=V.bB) (u:=Value.none) J Z q |brk=>obtain⟨_,_,_,q⟩:=hs;exact False.elim q |cont=>obtain⟨_,_,_,q⟩:=hs;exact False.elim q
section
variable {X:Cx}{x:Str}{p pos:Pos}{e:Expr}{es:List Expr}{t:TA}{id T:String}{r:List V->Hp->VK->Prop}
def yC(r:List V->Hp->VK->Prop)(t:TA):TE:=λO H Q=>t O H λvs H1=>r vs H1 Q
theorem dM(hc:fJ X (.builtin id) r)(hg:Gl X x)(hm:X.mg x=none)(hv:bootBuiltins x=some (.builtin id))(ha:PA X (e::es) t)(hn:x≠"__name__":=by decide)(jq:(x==("__debug__":Str))=false:=by decide) (he:starEach (e::es) X.env=(false,eval e X.env)::starEach es X.env:=by rfl)(gE:(backTo pos (starEach es X.env)).any (·.1)=false:=by rfl):PE X (.Call (.Name x p) (e::es) [] pos) (yC r t):=by intro aw s O H Q I h;refine AH (pQ I hg hm hv ?_ hn jq);exact PyProof.Rows.callWith_builtin1 (bc (ha pos aw s O H _ I h) λus s1 ⟨vs,H1,I1,r1,q1⟩=>hc aw s1 O H1 vs us Q I1 r1 q1) he gE
theorem gQ(hc:fJ X (.type T) r)(hg:Gl X x)(hm:X.mg x=none)(hv:bootBuiltins x=some (.type T))(ha:PA X (e::es) t)(hn:x≠"__name__":=by decide)(jq:(x==("__debug__":Str))=false:=by decide) (he:starEach (e::es) X.env=(false,eval e X.env)::starEach es X.env:=by rfl)(gE:(backTo pos (starEach es X.env)).any (·.1)=false:=by rfl):PE X (.Call (.Name x p) (e::es) [] pos) (yC r t):=by intro aw s O H Q I h;refine AH (pQ I hg hm hv ?_ hn jq);exact yg (bc (ha pos aw s O H _ I h) λus s1 ⟨vs,H1,I1,r1,q1⟩=>hc aw s1 O H1 vs us Q I1 r1 q1) he gE
end
end L2
namespace HT
open PySem PyProof.Rows
section
open PySem.SeqAt
open PySem.AutoSeq1 (wpAny_loadPart')
open PySem.MeetsSeq PySem.MeetsSeq2 PySem.MeetsSeq3
end
section
variable {prog:ah}{w:World}{A:aj}{E:Value->ae->Prop}{s:ae}
theorem aaH{t b:Addr}{vs ws:List Value}{Q:Value->ae->Prop}(ht:IsTup s.heap t vs.toArray)(hb:IsTup s.heap b ws.toArray)(hv:vs≠[]) (h1:ws=[]->Q (.ref t) s)(h2:ws≠[]->Q (.ref s.heap.objs.size) {s with heap:=s.heap.push {cls:=.type "tuple",data:=.seq (vs++ws).toArray}}) (hsz:vs.length+ws.length<=sizeLine):wpAny (model prog w) A (binaryOp .Add (.ref t) (.ref b)) Q E s:=by
 obtain⟨⟨cls,dd,data,sl⟩,ho,hc,n,hd⟩:=id ht;obtain⟨⟨UT,xQ,data2,qP⟩,kN,mi,n2,hd2⟩:=id hb;simp only at hc hd mi hd2;subst hc hd mi hd2;have e:vs.toArray++ws.toArray=(vs++ws).toArray:=by simp
 by_cases hw:ws=[]
 ·exact concat_meets ⟨_,ho,Z⟩ ⟨_,kN,Z⟩ noFill_tuple_add seq_tuple_add Wo Wr (Ws _ _) (tuple_addW1 t b vs.toArray ws.toArray n n2 dd xQ sl qP (by simpa using hv) (by simp[hw])) ⟨ho,kN,h1 hw⟩
 ·refine concat_meets ⟨_,ho,Z⟩ ⟨_,kN,Z⟩ noFill_tuple_add seq_tuple_add Wo Wr (Ws _ _) (tuple_addW2 t b vs.toArray ws.toArray n n2 dd xQ sl qP (by simpa using hv) (by simpa using hw) (by rw[eg,eg];exact hsz)) ⟨ho,kN,?_⟩;rw[e];exact h2 hw
def cB(n d:Nat):Option Int->Nat |none=>d |some v=>if v<0 then(v+(n:Int)).toNat else min v.toNat n
theorem P6 (n d:Nat):cB n d none=d:=rfl
theorem Gx(n d k:Nat):cB n d (some (k:Int))=min k n:=by show(if(k:Int)<0 then((k:Int)+(n:Int)).toNat else min (k:Int).toNat n)=min k n;rw[bf au,LZ]
theorem Zd(n d:Nat)(hd:d<=n)(o:Option Int):cB n d o<=n:=by cases o with |none=>exact hd |some v=>
 show(if v<0 then(v+(n:Int)).toNat else min v.toNat n)<=n;by_cases hv:v<0
 ·rw[bh hv];lia
 ·rw[bf hv];exact Nat.min_le_right _ _
theorem UX(v:Int)(n d:Nat):(if v<0 then max (v+(n:Int)) 0 else min v (n:Int))=((cB n d (some v):Nat):Int):=by
 show(if v<0 then max (v+(n:Int)) 0 else min v (n:Int))=(((if v<0 then(v+(n:Int)).toNat else min v.toNat n):Nat):Int);by_cases hv:v<0
 ·simp only[bh hv];lia
 ·simp only[bf hv];lia
theorem abv(lo hi:Option Int)(n:Nat):Builtin.Slice.sliceAdjust lo hi 1 (n:Int)=(((cB n 0 lo:Nat):Int),((cB n n hi:Nat):Int)):=by
 have h1:¬((1:Int)<0):=by lia
 unfold Builtin.Slice.sliceAdjust;simp only[h1,if_false];refine Prod.ext ?_ ?_
 ·cases lo with |none=>rfl |some v=>exact UX v n 0
 ·cases hi with |none=>rfl |some v=>exact UX v n n
theorem a0C(i j:Nat):Builtin.Slice.slicePlaces (i:Int) (j:Int) 1=j-i:=by
 unfold Builtin.Slice.slicePlaces;have h1:(1:Int)>0:=by lia
 simp only[h1,sW,Int.ediv_one];split<;>lia
theorem NH{v:Value}{o:Option Int}{Q:Option Int->ae->Prop}(p:IsPart v o)(h:Q o s):wpAny (model prog w) A (Builtin.Slice.slicePartIndex v) Q E s:=by cases p with |none=>exact slicePart_none h |int i t=>exact slicePart_int h
theorem Yz{sl:Addr}{vl vu:Value}{lo hi:Option Int}{n:Nat}{Q:Int×Int×Nat->ae->Prop}(hs:s.heap.IsSliceOf sl vl vu .none)(pl:IsPart vl lo)(pu:IsPart vu hi) (h:Q (((cB n 0 lo:Nat):Int),1,cB n n hi-cB n 0 lo) s):wpAny (model prog w) A (Builtin.Slice.sliceApplied (.ref sl) (pure (n:Int))) Q E s:=by obtain⟨os,jE,CM,rS⟩:=id hs;unfold Builtin.Slice.sliceApplied Builtin.Slice.sliceFields;refine aK (aK (jw jE rS (x:=vl) Z (aK (jw jE rS (x:=vu) Z (aK (jw jE rS (x:=.none) Z (cf ?_)))))));refine aK (slicePart_none ?_);show wpAny _ _ (if((1:Int)==0)=true then _ else _) _ _ s;rw[bf aA];refine aK (NH pl (aK (NH pu (aK (cf ?_)))));show wpAny _ _ (match Builtin.Slice.sliceAdjust lo hi 1 (n:Int)with|(lo,hi)=>pure (lo,(1:Int),Builtin.Slice.slicePlaces lo hi 1)) _ _ s;rw[abv lo hi n];show wpAny _ _ (pure (((cB n 0 lo:Nat):Int),(1:Int),Builtin.Slice.slicePlaces ((cB n 0 lo:Nat):Int) ((cB n n hi:Nat):Int) 1)) _ _ s;rw[a0C];exact cf h
theorem a0H(xs:Array Value)(i k:Nat):((List.range k).filterMap λ(m:Nat)=>xs[((i:Int)+(m:Int)*1).toNat]?).toArray=((xs.toList.drop i).take k).toArray:=by
 have e:(λ(m:Nat)=>xs[((i:Int)+(m:Int)*1).toNat]?)=λm=>xs[i+m]?:=by
  funext m;have:((i:Int)+(m:Int)*1).toNat=i+m:=by lia
  rw[this]
 rw[e];have:=pick_run xs i k;rw[List.filterMap_map]at this;have e2:((λx=>xs[x]?)∘λx=>i+x)=λm=>xs[i+m]?:=rfl;rw[e2]at this;rw[this]
theorem a7S{t sl:Addr}{items:Array Value}{vl vu:Value}{lo hi:Option Int}{Q:Value->ae->Prop}(ht:IsTup s.heap t items)(hs:s.heap.IsSliceOf sl vl vu .none)(pl:IsPart vl lo)(pu:IsPart vu hi) (hw:¬(cB items.size 0 lo=0/\cB items.size items.size hi=items.size)) (h:Q (.ref s.heap.objs.size) {s with heap:=s.heap.push {cls:=.type "tuple",data:=.seq ((items.toList.drop (cB items.size 0 lo)).take (cB items.size items.size hi-cB items.size 0 lo)).toArray}}) (hsz:items.size<=sizeLine):wpAny (model prog w) A (getItem (.ref t) (.ref sl)) Q E s:=by
 have Ct:sizeOk (.seq ((items.toList.drop (cB items.size 0 lo)).take (cB items.size items.size hi-cB items.size 0 lo)).toArray):=by show((items.toList.drop (cB items.size 0 lo)).take (cB items.size items.size hi-cB items.size 0 lo)).toArray.size<=sizeLine;rw[eg,oY,yi,AY];omega
 have hj:cB items.size items.size hi<=items.size:=Zd _ _ (bK _) hi;obtain⟨os,jE,CM,rS⟩:=id hs;have CN:s.TypeIs (.ref sl) "slice":=⟨os,jE,CM⟩;unfold getItem
 try with_reducible refine mE ?_
 first|refine aK (cf ?_)|skip
 refine aK (wpAny_sequenceKey ht.typeIs aA ?_);refine aK (DW (name:=Str.ofString "__getitem__") ht.typeIs Wt (DV Wt ht.typeIs entry_tuple_getitem ?_ (args_tuple_getitem _ _)));show wpAny _ _ (Builtin.Tuple.tupleItemsOf (.ref t)>>=_) _ _ s;refine aK (tupleItemsOf_ ht ?_);refine aK (wpAny_typeOf CN ?_);rw[bh aA];refine aK (Yz hs pl pu ?_);have lI:¬((((cB items.size 0 lo:Nat):Int)==0&&(1:Int)==1&&(cB items.size items.size hi-cB items.size 0 lo)==items.size)=true):=by intro q;rw[fq,fq]at q;have q1:((cB items.size 0 lo:Nat):Int)=0:=eq_of_beq q.1.1;have q2:cB items.size items.size hi-cB items.size 0 lo=items.size:=eq_of_beq q.2;exact hw ⟨fh,fh⟩
 show wpAny _ _ (if(((cB items.size 0 lo:Nat):Int)==0&&(1:Int)==1&&(cB items.size items.size hi-cB items.size 0 lo)==items.size)=true then _ else _) _ _ s;rw[bf lI,a0H]
 first |exact aK (m:=Builtin.Tuple.tupleExact _) (qE (cf ⟨_,Z,cf h⟩) Ct) |exact aK (m:=Builtin.Tuple.tupleExact _) (qE (aK (cf (cf ⟨_,Z,cf h⟩))) Ct) |exact aK (aK (m:=Builtin.Tuple.tupleExact _) (qE (cf (cf ⟨_,Z,cf h⟩)) Ct)) |exact aK (aK (m:=Builtin.Tuple.tupleExact _) (qE (cf ⟨_,Z,cf h⟩) Ct))
end
end HT
namespace L2
open PySem PySem.Spec PyProof.Rows
abbrev TO:=St->Hp->(Option Int->Hp->Prop)->Prop
def PO(X:Cx)(e:Option Expr)(t:TO):Prop:=∀(aw:List (Addr×Obj))(s:ae)(O:St)(H:Hp)(Q:Option Int->Hp->Prop),Inv X aw O H s->t O H Q->wpAny (model X.prog X.w) X.A (evalPart e X.env) (λu s'=>∃o H',Inv X aw O H' s'/\IsPart u o/\Q o H') X.xe s
def EF:TO:=λ_ H Q=>Q none H
inductive abY(Q:Option Int->Hp->Prop)(x:V)(H1:Hp):Prop |mk (i:_)(h0:x= .int i)(h1:Q (some i) H1)
def ED(t:TE):TO:=λO H Q=>t O H λx H1=>abY Q x H1
section
variable {X:Cx}{e:Expr}{te:TE}{lo hi:Option Expr}{tl th:TO}{pos p2:Pos}
theorem qW:PO X none EF:=by intro aw s O H Q I h;rw[evalPart_none];exact cf ⟨none,H,I,.none,h⟩
theorem qV(h:PE X e te):PO X (some e) (ED te):=by intro aw s O H Q I hw;rw[evalPart_some];refine bc (h aw s O H _ I hw) λu s1 ⟨x,H1,I1,r1,q1⟩=>?_;obtain⟨i,rfl,q⟩:=q1;obtain⟨t,rfl⟩:=r1;exact⟨some i,H1,I1,.int i t,q⟩
def DF(X:Cx)(r:V->Option Int->Option Int->Hp->VK->Prop):Prop:=∀(aw:List (Addr×Obj))(s:ae)(O:St)(H:Hp)(x:V)(v vl vu:Value)(lo hi:Option Int)(sl:Addr)(Q:VK),Inv X aw O H s->RelV x v->s.heap.IsSliceOf sl vl vu .none->IsPart vl lo->IsPart vu hi->r x lo hi H Q->∃T id,typeLookup (.type T) "__getitem__"=pure (some (.builtin id))/\s.TypeIs v T/\wpAny (model X.prog X.w) X.A (getItem v (.ref sl)) (EP X aw O Q) X.xe s
def EB(r:V->Option Int->Option Int->Hp->VK->Prop)(te:TE)(tl th:TO):TE:=λO H Q=>te O H λx H1=>tl O H1 λl H2=>th O H2 λu H3=>r x l u H3 Q
theorem qX(hr:DF X r)(he:PE X e te)(hl:PO X lo tl)(hu:PO X hi th):PE X (.Subscript e (.Slice lo hi none p2) pos) (EB r te tl th):=by intro aw s O H Q I h;refine Subscript_ (bc (he aw s O H _ I h) λv s1 ⟨x,H1,I1,r1,q1⟩=>?_);refine wpAny_Slice (bc (hl aw s1 O H1 _ I1 q1) λvl s2 ⟨l,H2,I2,pl,q2⟩=>bc (hu aw s2 O H2 _ I2 q2) λvu s3 ⟨u,H3,I3,pu,q3⟩=>?_);rw[evalPart_none];refine cf ?_;have I4:Inv X aw O H3 {s3 with heap:=s3.heap.push {cls:=.type "slice",data:=.fields #[vl,vu,.none]}}:=I3.kept (t':=s3.toks) λb ob q=>cy _ q;obtain⟨T,id,hT,ht,hg⟩:=hr aw {s3 with heap:=s3.heap.push {cls:=.type "slice",data:=.fields #[vl,vu,.none]}} O H3 x v vl vu l u s3.heap.objs.size Q I4 r1 (Heap.IsSliceOf.new ..) pl pu q3;show wpAny (model X.prog X.w) X.A (subscriptTail e (.Slice lo hi none p2) v (.ref s3.heap.objs.size)) (EP X aw O Q) X.xe {s3 with heap:=s3.heap.push {cls:=.type "slice",data:=.fields #[vl,vu,.none]}};exact tail_any (ops:=[.ref s3.heap.objs.size,v]) ht hT hg (by with_unfolding_all rfl)
def lO(xs:List V)(lo hi:Option Int):List V:=(xs.drop (HT.cB xs.length 0 lo)).take (HT.cB xs.length xs.length hi-HT.cB xs.length 0 lo)
theorem UH(xs:List V)(lo hi:Option Int):(lO xs lo hi).length<=xs.length:=by
 unfold lO;rw[oY,yi]
 lia
inductive adg(K:aa)(x:V)(lo:Option Int)(hi:Option Int)(H:Hp)(Q:VK):Prop |mk (a:_)(xs:_)(h0:x= .ref a)(h1:aR K H a xs)(h2:¬(HT.cB xs.length 0 lo=0/\HT.cB xs.length xs.length hi=xs.length))(h3:∀p,H p=none->Q (.ref p) (upd H p (.tup (lO xs lo hi))))
def a0b(K:aa):V->Option Int->Option Int->Hp->VK->Prop:=λx lo hi H Q=>adg K x lo hi H Q
theorem YA:DF X (a0b X.K):=by
 intro aw s O H x v vl vu lo hi sl Q I rx hs pl pu h;obtain⟨a,xs,rfl,hx,hw,q⟩:=h;cases rx;obtain⟨its,r,ht,hz⟩:=I.tuple hx;have hlen:its.toArray.size=xs.length:=by rw[eg];exact r.length.symm
 refine⟨"tuple",_,Wt.lookup,ht.typeIs,?_⟩;refine HT.a7S ht hs pl pu (by rw[hlen];exact hw) ?_ (by rw[hlen];exact hz);rw[hlen];refine⟨.ref s.heap.objs.size,_,I.laid (t':=s.toks) (o:=.tup (lO xs lo hi)) (λb ob q=>cy _ q) (bK _) ?_,Z,q _ (I.aY.fresh (bK _))⟩;exact⟨gM (UH xs lo hi) hz,_,(r.drop (HT.cB xs.length 0 lo)).take (HT.cB xs.length xs.length hi-HT.cB xs.length 0 lo),IsTup.new _ _⟩
theorem Vals.Ip(r:Vals xs us):us=[]↔xs=[]:=by cases r with |nil=>simp |cons _ _=>simp
end
def jD(n:Nat)(i:Int):Option Nat:=if 0<=i then(if i<n then some i.toNat else none)else if-(n:Int)<=i then some (i+n).toNat else none
def fP{α:Type}(xs:List α)(i:Int):Option α:=(jD xs.length i).bind λj=>xs[j]?
theorem RW(h:jD n i=some j):seqIndex? i n=some j/\j<n/\-(n:Int)<=i/\i<n:=by
 unfold jD at h;by_cases h0:0<=i
 ·rw[bh h0]at h
  by_cases h1:i<n
  ·rw[bh h1]at h
   have e:i.toNat=j:=dQ h;exact⟨by rw[seqIndex_of h0 h1,e],au,au,h1⟩
  ·rw[bf h1]at h;cases h
 ·rw[bf h0]at h
  by_cases h1:-(n:Int)<=i
  ·rw[bh h1]at h
   have e:(i+n).toNat=j:=dQ h;exact⟨by rw[seqIndex_neg au h1,e],au,h1,au⟩
  ·rw[bf h1]at h;cases h
theorem KW{v:α}(h:fP xs i=some v):∃j,seqIndex? i xs.length=some j/\xs[j]? =some v/\j<xs.length/\-(xs.length:Int)<=i/\i<xs.length:=by unfold fP at h;cases e:jD xs.length i with |none=>rw[e]at h;cases h |some j=>rw[e]at h;obtain⟨h1,h2,h3,h4⟩:=RW e;exact⟨j,h1,h,h2,h3,h4⟩
theorem abl{α:Type}{xs:List α}{j:Nat}{v:α}(h:xs[j]? =some v):fP xs (j:Int)=some v:=by
 have hj:j<xs.length:=(eh.mp h).1;have e:jD xs.length (j:Int)=some j:=by unfold jD;rw[bh au,bh au];simp
 unfold fP;rw[e];exact h
def VS(b:Expr):Prop:=∀o i,subscripted b false o i=operate [o,i] (getItem o i)
def qA(X:Cx)(r:R2):Prop:=∀(value slice:Expr)(aw:List (Addr×Obj))(s:ae)(O:St)(H:Hp)(x y:V)(v u:Value)(Q:VK),Inv X aw O H s->RelV x v->RelV y u->r x y H Q->subscripted slice false v u=operate [v,u] (getItem v u)->wpAny (model X.prog X.w) X.A (subscriptTail value slice v u) (EP X aw O Q) X.xe s
def Ax(X:Cx)(id:String)(r:V->List V->Hp->VK->Prop):Prop:=∀(aw:List (Addr×Obj))(s:ae)(O:St)(H:Hp)(x:V)(xs:List V)(v:Value)(us:List Value)(Q:VK),Inv X aw O H s->RelV x v->Vals xs us->r x xs H Q->wpAny (model X.prog X.w) X.A (call (.builtin id) (v::us)) (EP X aw O Q) X.xe s
section
variable {X:Cx}{a b:Expr}{ta tb:TE}{pos:Pos}
theorem qA.or(h:qA X r)(h':qA X r'):qA X (λx y H Q=>r x y H Q\/r' x y H Q):=by
 intro value slice aw s O H x y v u Q I rx ry q hs;rcases q with q|q
 ·exact h value slice aw s O H x y v u Q I rx ry q hs
 ·exact h' value slice aw s O H x y v u Q I rx ry q hs
theorem Qd(hr:qA X r)(ha:PE X a ta)(hb:PE X b tb)(hs:VS b):PE X (.Subscript a b pos) (nL r ta tb):=by intro aw s O H Q I h;exact Subscript_ (KH ha hb I h λv u s2 x y H2 I2 rx ry q=>hr a b aw s2 O H2 x y v u Q I2 rx ry q (hs _ _))
inductive adq(K:aa)(x:V)(y:V)(H:Hp)(Q:VK):Prop |mk (p:_)(xs:_)(i:_)(v:_)(h0:x= .ref p)(h1:y= .int i)(h2:aH K H p xs)(h3:fP xs i=some v)(h4:Q v H)
def Hz(K:aa):R2:=λx y H Q=>adq K x y H Q
inductive ado(K:aa)(x:V)(y:V)(H:Hp)(Q:VK):Prop |mk (p:_)(xs:_)(i:_)(v:_)(h0:x= .ref p)(h1:y= .int i)(h2:aR K H p xs)(h3:fP xs i=some v)(h4:Q v H)
def Hy(K:aa):R2:=λx y H Q=>ado K x y H Q
inductive adp(x:V)(y:V)(H:Hp)(Q:VK):Prop |mk (z:_)(i:_)(c:_)(h0:x= .str z)(h1:y= .int i)(h2:z.length<=sizeLine)(h3:fP z.cps.toList i=some c)(h4:Q (.str ⟨#[c]⟩) H)
def a0f:R2:=λx y H Q=>adp x y H Q
theorem a4L:qA X (Hz X.K):=by
 intro value slice aw s O H x y v u Q I rx ry h hs;obtain⟨p,xs,i,z,rfl,rfl,hq,he,q⟩:=h;cases rx;obtain⟨t,rfl⟩:=ry;obtain⟨its,r,pl,hz⟩:=I.list hq;obtain⟨j,h1,h2,h3,h4,h5⟩:=KW he;obtain⟨w,ew,jg⟩:=r.get h2;have hl:=r.length;have hn:=uz;have fin:EP X aw O Q w s:=⟨z,H,I,jg,q⟩;by_cases h0:0<=i
 ·have hj:i.toNat=j:=by rw[seqIndex_of h0 h5]at h1;exact dQ h1
  exact item_listR pl.isList h0 au (by rw[hj];simpa using ew) fin hs
 ·have hj:(i+(its.toArray.size:Int)).toNat=j:=by rw[seqIndex_neg au h4]at h1;rw[eg,<-hl];exact dQ h1
  exact subscriptTail_builtinR (x:=w) pl.isList.typeIs slot_list_getitem.lookup (wpAny_getItem_list_neg (Q:=λr s'=>r=w/\EP X aw O Q r s') pl.isList au (by rw[eg]<;>lia) au (by rw[hj];simpa using ew) ⟨Z,fin⟩) hs
theorem a4J:qA X (Hy X.K):=by intro value slice aw s O H x y v u Q I rx ry h hs;obtain⟨p,xs,i,z,rfl,rfl,hq,he,q⟩:=h;cases rx;obtain⟨t,rfl⟩:=ry;obtain⟨its,r,pl,hz⟩:=I.tuple hq;obtain⟨j,h1,h2,h3,h4,h5⟩:=KW he;obtain⟨w,ew,jg⟩:=r.get h2;have hl:=r.length;have hn:=uz;have fin:EP X aw O Q w s:=⟨z,H,I,jg,q⟩;exact subscriptTail_builtinR (x:=w) pl.typeIs slot_tuple_getitem.lookup (getItem_tuple (j:=j) (Q:=λr s'=>r=w/\EP X aw O Q r s') pl au au (by rw[eg,<-hl];exact h1) (by simpa using ew) ⟨Z,fin⟩) hs
theorem a4K:qA X a0f:=by
 intro value slice aw s O H x y v u Q I rx ry h hs;obtain⟨z,i,c,rfl,rfl,hz,he,q⟩:=h;obtain⟨t,rfl⟩:=rx;obtain⟨t',rfl⟩:=ry;obtain⟨j,h1,h2,h3,h4,h5⟩:=KW he;have hl:z.cps.toList.length=z.length:=by simp[Str.length]
 rw[hl]at h1 h4 h5;have hn:=uz;exact tail_any (typeIs_str s z t) slot_str_getitem.lookup (getItem_str (c:=c) (by have e1:decide (i< -(2^63:Int))=false:=fk au;have e2:decide (i>=2^63)=false:=fk au;rw[e1,e2,Bool.or_false]) (by rw[h1];simpa using h2) ⟨.str ⟨#[c]⟩,H,I.tok _,⟨_,Z⟩,q⟩) hs
theorem a3L(its:List Value)(n j:Nat)(u:Value):Obj.mapSeq (·.setIfInBounds j u) {cls:=.type "list",data:=.seq its.toArray n}={cls:=.type "list",data:=.seq (its.set j u).toArray n}:=by simp[Obj.mapSeq]
theorem Inv.lst{aw:List (Addr×Obj)}{O:St}{H:Hp}{s:ae}{p:Addr}{xs:List V}(I:Inv X aw O H s)(h:H p=some (.lst xs)): ∃(its:List Value)(n:Nat),Vals xs its/\s.heap.get? p=some {cls:=.type "list",data:=.seq its.toArray n}/\xs.length<=sizeLine:=by obtain⟨z,its,n,r,e⟩:=I.aY p _ h;exact⟨its,n,r,e,z⟩
theorem Inv.a4a{aw:List (Addr×Obj)}{O:St}{H:Hp}{s:ae}{p:Addr}{xs ys:List V}{its its':List Value}{n n':Nat}{f:Obj->Obj}(I:Inv X aw O H s)(h:H p=some (.lst xs)) (ho:s.heap.get? p=some {cls:=.type "list",data:=.seq its.toArray n})(hf:f {cls:=.type "list",data:=.seq its.toArray n}={cls:=.type "list",data:=.seq its'.toArray n'})(r:Vals ys its')(hz:ys.length<=sizeLine)(t:Nat): Inv X aw O (upd H p (.lst ys)) {s with heap:=s.heap.update p f,toks:=t}:=by
 have e:(s.heap.update p f).get? p=some {cls:=.type "list",data:=.seq its'.toArray n'}:=by rw[Ef f ho (by rw[hf]<;>rfl),hf]
 refine I.write (x:=p) (e:=p) (by rw[h];trivial) (.inl Z) (λb u hb q=>(AX _ _ (e9 hb)).trans q) ⟨_,e⟩ ?_;exact⟨hz,its',n',r,e⟩
inductive adj(o:V)(i:V)(v:V)(H:Hp)(Q:Hp->Prop):Prop |mk (p:_)(xs:_)(k:_)(j:_)(h0:o= .ref p)(h1:i= .int k)(h2:H p=some (.lst xs))(h3:jD xs.length k=some j)(h4:Q (upd H p (.lst (xs.set j v))))
def a0d:V->V->V->Hp->(Hp->Prop)->Prop:=λo i v H Q=>adj o i v H Q
theorem set_list:VT X a0d:=by
 intro aw s O H o i v ov iv u Q I ro ri rv h;obtain⟨p,xs,k,j,rfl,rfl,hp,hj,q⟩:=h;cases ro;obtain⟨t,rfl⟩:=ri;obtain⟨its,n,r,ho,hz⟩:=I.lst hp;obtain⟨h1,h2,h3,h4⟩:=RW hj;have hl:=r.length;have hn:=uz;have I':Inv X aw O (upd H p (.lst (xs.set j v))) {s with heap:=s.heap.update p (Obj.mapSeq (·.setIfInBounds j u))}:=I.a4a hp ho (a3L its n j u) (r.set rv j) (by rw[vG];exact hz) s.toks;by_cases h0:0<=k
 ·have hk:k.toNat=j:=by rw[seqIndex_of h0 h4]at h1;exact dQ h1
  exact PySem.W.ki_setAt ho h0 au (by rw[eg,<-hl];exact h4) (by rw[hk];exact⟨_,I',q⟩)
 ·have hk:(k+(its.toArray.size:Int)).toNat=j:=by rw[seqIndex_neg au h3]at h1;rw[eg,<-hl];exact dQ h1
  exact PySem.W.ki_setBack ho au (by rw[eg,<-hl];exact h3) au (by rw[hk];exact⟨_,I',q⟩)
theorem Yx(lo hi:Option Int)(n:Nat):(sliceBounds lo hi none n).1=((HT.cB n 0 lo:Nat):Int)/\(sliceBounds lo hi none n).2.1=((HT.cB n n hi:Nat):Int)/\(sliceBounds lo hi none n).2.2=1:=by
 refine⟨?_,?_,Z⟩
 ·cases lo with |none=>simp[sliceBounds,HT.cB] |some i=>
  simp only[sliceBounds,HT.cB,Option.getD_none,show(1:Int)>0 by decide,sW];by_cases h:i<0
  ·simp only[h,sW]<;>lia
  ·simp only[h,if_false]<;>lia
 ·cases hi with |none=>simp[sliceBounds,HT.cB] |some i=>
  simp only[sliceBounds,HT.cB,Option.getD_none,show(1:Int)>0 by decide,sW];by_cases h:i<0
  ·simp only[h,sW]<;>lia
  ·simp only[h,if_false]<;>lia
theorem Yy(its:List Value)(lo hi:Option Int):slicePick its.toArray lo hi none=((its.drop (HT.cB its.length 0 lo)).take (HT.cB its.length its.length hi-HT.cB its.length 0 lo)).toArray:=by obtain⟨h1,h2,h3⟩:=Yx lo hi its.toArray.size;unfold slicePick;rw[h1,h2,h3];simp only[sliceRange_one,pick_run,eg]<;>rfl
inductive adh(K:aa)(x:V)(lo:Option Int)(hi:Option Int)(H:Hp)(Q:VK):Prop |mk (a:_)(xs:_)(h0:x= .ref a)(h1:aH K H a xs)(h2:∀p,H p=none->Q (.ref p) (upd H p (.lst (lO xs lo hi))))
def a0c(K:aa):V->Option Int->Option Int->Hp->VK->Prop:=λx lo hi H Q=>adh K x lo hi H Q
theorem YB:DF X (a0c X.K):=by intro aw s O H x v vl vu lo hi sl Q I rx hs pl pu h;obtain⟨a,xs,rfl,hx,q⟩:=h;cases rx;obtain⟨its,r,ht,hz⟩:=I.list hx;have hlen:=r.length;refine⟨"list",_,slot_list_getitem.lookup,ht.isList.typeIs,?_⟩;refine wpAny_getItem_list_slice ht.isList hs pl pu .none (by simp) ?_ (by rw[eg]<;>lia);rw[Yy,<-hlen];refine⟨.ref s.heap.objs.size,_,I.laid (t':=s.toks) (o:=.lst (lO xs lo hi)) (λb ob q=>cy _ q) (bK _) ?_,Z,q _ (I.aY.fresh (bK _))⟩;exact⟨gM (UH xs lo hi) hz,_,0,(r.drop (HT.cB xs.length 0 lo)).take (HT.cB xs.length xs.length hi-HT.cB xs.length 0 lo),eV _ Z⟩
theorem aaO:fJ X (.builtin "len") (λxs H Q=>∃p ys,xs=[.ref p]/\(aH X.K H p ys\/aR X.K H p ys)/\Q (.int ys.length) H):=by
 intro aw s O H xs us Q I r h;obtain⟨p,ys,rfl,hq,q⟩:=h;obtain⟨u,rfl,rx⟩:=vals1 r;cases rx;have hn:=uz;rcases hq with hq|hq
 ·obtain⟨its,r',pl,hz⟩:=I.list hq
  have hlen:=r'.length;exact Calls.call_len_list pl.isList (by simp only[eg]<;>lia) ⟨.int ys.length,H,I.tok _,⟨s.toks+1,by rw[eg,hlen]⟩,q⟩
 ·obtain⟨its,r',pl,hz⟩:=I.tuple hq
  have hlen:=r'.length;exact len_tuple pl (by simp only[eg]<;>lia) ⟨.int ys.length,H,I.tok _,⟨s.toks+1,by rw[eg,hlen]⟩,q⟩
theorem aaN:fJ X (.builtin "len") (λxs H Q=>∃z,xs=[.str z]/\z.length<=sizeLine/\Q (.int z.length) H):=by intro aw s O H xs us Q I r h;obtain⟨z,rfl,hz,q⟩:=h;obtain⟨u,rfl,t,rfl⟩:=vals1 r;have hn:=uz;exact len_str au ⟨.int z.length,H,I.tok _,⟨_,Z⟩,q⟩
theorem fJ.or(h:fJ X f r)(h':fJ X f r'):fJ X f (λxs H Q=>r xs H Q\/r' xs H Q):=by
 intro aw s O H xs us Q I rs q;rcases q with q|q
 ·exact h aw s O H xs us Q I rs q
 ·exact h' aw s O H xs us Q I rs q
theorem aaM:fJ X (.type "list") (λxs H Q=>∃p ys,xs=[.ref p]/\(aH X.K H p ys\/aR X.K H p ys)/\∀l,H l=none->Q (.ref l) (upd H l (.lst ys))):=by
 intro aw s O H xs us Q I r h;obtain⟨p,ys,rfl,hq,q⟩:=h;obtain⟨u,rfl,rx⟩:=vals1 r;cases rx;have fin:∀(its:List Value),Vals ys its->ys.length<=sizeLine->∀(h':Heap)(c':Nat),(∀b o',s.heap.get? b=some o'->h'.get? b=some o')->h'.get? s.heap.objs.size=some {cls:=.type "list",dict:=none,data:=.seq its.toArray c',slots:=#[]}->EP X aw O Q (.ref s.heap.objs.size) {s with heap:=h'}:=λits r' hz h' c' kp e=>⟨.ref s.heap.objs.size,_,I.laid (t':=s.toks) kp (bK _) (show fe X.prog X.w _ h' _ (.lst ys)from⟨hz,its,c',r',e⟩),Z,q _ (I.aY.fresh (bK _))⟩;rcases hq with hq|hq
 ·obtain⟨its,r',pl,hz⟩:=I.list hq
  have hlen:=r'.length;obtain⟨o,ho,hc,n,hd⟩:=pl.isList;exact call_list_seq p (.inl Z) ho hc hd (λh' c' kp e=>fin its r' hz h' c' kp e) (by simp only[eg]<;>lia)
 ·obtain⟨its,r',pl,hz⟩:=I.tuple hq
  have hlen:=r'.length;obtain⟨o,ho,hc,n,hd⟩:=pl;exact call_list_seq p (.inr Z) ho hc hd (λh' c' kp e=>fin its r' hz h' c' kp e) (by simp only[eg]<;>lia)
theorem aaI:fJ X (.type "tuple") (λxs H Q=>∃p ys,xs=[.ref p]/\((aH X.K H p ys/\∀l,H l=none->Q (.ref l) (upd H l (.tup ys)))\/(aR X.K H p ys/\Q (.ref p) H))):=by
 intro aw s O H xs us Q I r h;obtain⟨p,ys,rfl,h⟩:=h;obtain⟨u,rfl,rx⟩:=vals1 r;cases rx;rcases h with⟨hq,q⟩|⟨hq,q⟩
 ·obtain⟨its,r',pl,hz⟩:=I.list hq
  have hlen:=r'.length;refine call_tuple_list pl.isList (λh' kp=>?_) (by simp only[eg]<;>lia);have I1:Inv X aw O H {s with heap:=h'}:=I.kept (t':=s.toks) kp;have I2:Inv X aw O (upd H h'.objs.size (.tup ys)) {s with heap:=h'.push {cls:=.type "tuple",data:=.seq its.toArray}}:=I1.laid (t':=s.toks) (λb o e=>cy _ e) (bK _) (show fe X.prog X.w _ _ _ (.tup ys)from⟨hz,its,r',IsTup.new _ _⟩);exact⟨.ref h'.objs.size,_,I2,Z,q _ (I1.aY.fresh (bK _))⟩
 ·obtain⟨its,r',pl,hz⟩:=I.tuple hq
  exact call_tuple_same pl ⟨.ref p,H,I,Z,q⟩
def Et(K:aa)(T:String)(x:V)(H:Hp):Prop:=match x with | .str _=>T="str" | .int _=>T="int" | .ref p=>(T="list"/\∃xs,aH K H p xs)\/(T="tuple"/\∃o,K.lookup p=some o/\o.cls= .type "tuple"/\o.dict=none)\/ (T="dict"/\((∃aQ,H p=some (.dK aQ))\/∃aQ,H p=some (.dT aQ)))\/(T="set"/\∃S n,H p=some (.set S n)) |_=>False
theorem Mr{aw:List (Addr×Obj)}{O:St}{H:Hp}{s:ae}{T:String}{x:V}{v:Value}(I:Inv X aw O H s)(r:RelV x v)(ty:Et X.K T x H): s.TypeIs v T/\∀a,v= .ref a->∃ob,s.heap.get? a=some ob/\ob.dict=none:=by cases x with
 |str z=>obtain⟨t,rfl⟩:=r;cases(show T="str" from ty);exact⟨typeIs_str s z t,λ_ e=>nomatch e⟩ |int i=>obtain⟨t,rfl⟩:=r;cases(show T="int" from ty);exact⟨typeIs_int s i t,λ_ e=>nomatch e⟩ |ref p=>
  cases r;rcases ty with⟨rfl,xs,hq⟩|⟨rfl,o,hk,hc,hd⟩|⟨rfl,hk⟩|⟨rfl,S,n,hk⟩
  ·obtain⟨its,_,pl,_⟩:=I.list hq
   refine⟨pl.isList.typeIs,λa e=>?_⟩;cases e;obtain⟨o,n,e,c,hd,_⟩:=pl;exact⟨o,e,hd⟩
  ·refine⟨⟨o,I.fV p o hk,hc⟩,λa e=>?_⟩
   cases e;exact⟨o,I.fV _ o hk,hd⟩
  ·have z:∃o,s.heap.get? p=some o/\o.ExactDict:=by
    rcases hk with⟨aQ,hk⟩|⟨aQ,hk⟩
    ·obtain⟨_,_,_,_,o,_,_,e,ex,_⟩:=I.aY p _ hk
     exact⟨o,e,ex⟩
    ·obtain⟨_,_,_,_,o,_,_,e,ex,_⟩:=I.aY p _ hk
     exact⟨o,e,ex⟩
   obtain⟨o,e,ex⟩:=z;refine⟨⟨o,e,ex.1⟩,λa e2=>?_⟩;cases e2;exact⟨o,e,ex.2.1⟩
  ·obtain⟨o,_,_,_,e,ex,_⟩:=I.aY p _ hk
   refine⟨⟨o,e,ex.1⟩,λa e2=>?_⟩;cases e2;exact⟨o,e,ex.2.1⟩ |_=>exact False.elim ty
def MP(K:aa)(T:String)(r:V->List V->Hp->VK->Prop)(to:TE):TE:=λO H Q=>to O H λx H1=>Et K T x H1/\r x [] H1 Q
def tP(K:aa)(T:String)(r:V->List V->Hp->VK->Prop)(to:TE)(t:TA):TE:=λO H Q=>to O H λx H1=>Et K T x H1/\t O H1 λxs H2=>r x xs H2 Q
variable {o e:Expr}{es:List Expr}{to:TE}{t:TA}{name:Str}{apos cD:Pos}{T id:String}{r:V->List V->Hp->VK->Prop}
theorem a18(pa:PlainAttrs T)(slot:Slot T name id)(zI:typeOf (.builtin id)=pure (.type "method_descriptor"))(hm:Ax X id r)(ho:PE X o to) (jr:attributeBase o name X.env (eval o X.env)=eval o X.env:=by rfl)(jo:(apos.endLine==cD.line)=true:=by rfl):PE X (.Call (.Attribute o name apos) [] [] cD) (MP X.K T r to):=by intro aw s O H Q I h;refine wpAny_Call_method0_late jr jo (bc (ho aw s O H _ I h) λv s1 ⟨x,H1,I1,r1,ty,q1⟩=>?_);obtain⟨h1,h2⟩:=Mr I1 r1 ty;exact⟨T,id,pa,slot,zI,h1,h2,Calls.callWith_builtin Z (PySem.evalArgs_none (hm aw s1 O H1 x [] v [] Q I1 r1 .nil q1))⟩
theorem wB(pa:PlainAttrs T)(slot:Slot T name id)(zI:typeOf (.builtin id)=pure (.type "method_descriptor"))(hm:Ax X id r)(ho:PE X o to)(ha:PA X (e::es) t) (jr:attributeBase o name X.env (eval o X.env)=eval o X.env:=by rfl) (lJ:((backTo cD (starEach (e::es) X.env)).all (λx=>!x.1)&&(backToKw cD (keywordEach [] X.env)).all (λx=>x.1.isSome) &&decide ((e::es).length+([]:List Keyword).length+(if([]:List Keyword).isEmpty then 0 else 1)<30))=true:=by rfl) (jo:(apos.endLine==cD.line)=true:=by rfl)(hs:starEach (e::es) X.env=(false,eval e X.env)::starEach es X.env:=by rfl)(lG:(backTo cD (starEach es X.env)).any (·.1)=false:=by rfl): PE X (.Call (.Attribute o name apos) (e::es) [] cD) (tP X.K T r to t):=by intro aw s O H Q I h;refine wpAny_Call_method_late jr lJ jo Z (bc (ho aw s O H _ I h) λv s1 ⟨x,H1,I1,r1,ty,q1⟩=>?_);obtain⟨h1,h2⟩:=Mr I1 r1 ty;refine⟨T,id,pa,slot,zI,h1,h2,?_⟩;have hA:=ha cD aw s1 O H1 _ I1 q1;rw[hs]at hA⊢;refine Calls.callWith_builtin (by show(false||(backTo cD (starEach es X.env)).any (·.1))=false;rw[lG]<;>rfl) (WN ?_);exact bc hA λus s2 ⟨vs,H2,I2,r2,q2⟩=>hm aw s2 O H2 x vs v us Q I2 r1 r2 q2
end
def DL(X:Cx)(id:String)(r:V->List V->Hp->VK->Prop):Prop:=∀(aw:List (Addr×Obj))(s:ae)(O:St)(H:Hp)(x:V)(xs:List V)(v:Value)(us:List Value)(Q:VK),Inv X aw O H s->RelV x v->Vals xs us->r x xs H Q->wpAny (model X.prog X.w) X.A (call (.builtin id) (v::us)) (EP X aw O Q) X.xe s
theorem Vals.one:∀{x:V}{us:List Value},Vals [x] us->∃u,us=[u]/\RelV x u |_,_,.cons r .nil=>⟨_,Z,r⟩
theorem Vals.zero:∀{us:List Value},Vals [] us->us=[] |_,.nil=>rfl
theorem Vals.eraseIdx:∀{xs:List V}{us:List Value}(i:Nat),Vals xs us->Vals (xs.eraseIdx i) (us.eraseIdx i) |_,_,_,.nil=>.nil |_,_,0,.cons _ t=>t |_,_,i+1,.cons r t=>.cons r (Vals.eraseIdx i t)
theorem Vals.rep{xs:List V}{us:List Value}(h:Vals xs us):∀k:Nat,Vals (List.replicate k xs).flatten (List.replicate k us).flatten |0=>.nil |k+1=>by rw[vB,vB,Ed,Ed];exact Vals.append h (Vals.rep h k)
theorem RI{α:Type}:∀(l:List α)(i:Nat),(l.eraseIdx i).length<=l.length |[],_=>bK _ |_::_,0=>E6 _ |_::r,i+1=>Nat.succ_le_succ (RI r i)
theorem foldl_rep(its:List Value):∀(k:Nat)(acc:List Value),List.foldl (λx1 x2=>x1++x2) acc.toArray (List.replicate k its.toArray)=(acc++(List.replicate k its).flatten).toArray
 |0,acc=>by simp |k+1,acc=>by
  have e:acc.toArray++its.toArray=(acc++its).toArray:=by simp
  have e2:(acc++its)++(List.replicate k its).flatten=acc++(List.replicate (k+1) its).flatten:=by rw[vB,Ed,List.append_assoc]
  rw[<-e2,<-foldl_rep its k (acc++its),<-e,vB,List.foldl_cons]
section
variable {X:Cx}{aw:List (Addr×Obj)}{O:St}{H:Hp}{s:ae}{l b:Addr}{xs ys zs:List V}
theorem Inv.C8{its its':List Value}{n:Nat}{f:Array Value->Array Value}{t':Nat}(I:Inv X aw O H s)(hH:H l=some (.lst xs)) (e:s.heap.get? l=some {cls:=.type "list",data:=.seq its.toArray n})(hf:f its.toArray=its'.toArray)(hv:Vals ys its')(hz:ys.length<=sizeLine): Inv X aw O (upd H l (.lst ys)) {s with heap:=s.heap.update l (Obj.mapSeq f),toks:=t'}:=by have q:=PySem.IsL.update e f;rw[hf]at q;refine I.write (x:=l) (e:=l) (by rw[hH];exact trivial) (.inl Z) (λb' u hb hu=>(AX s.heap (Obj.mapSeq f) (e9 hb)).trans hu) ⟨_,q⟩ ?_;exact⟨hz,its',_,hv,q⟩
theorem Inv.RC(I:Inv X aw O H s)(hv:Vals ys its)(hz:ys.length<=sizeLine): Inv X aw O (upd H s.heap.objs.size (.lst ys)) {s with heap:=s.heap.push {cls:=.type "list",data:=.seq its.toArray},toks:=t'}:=I.laid (λ_ _ q=>cy _ q) (bK _) ⟨hz,its,0,hv,eV _ Z⟩
theorem Inv.zw(I:Inv X aw O H s)(hH:H l=some (.lst xs)):xs.length<=sizeLine/\∃(its:List Value)(n:Nat),Vals xs its/\xs.length=its.length/\s.heap.get? l=some {cls:=.type "list",data:=.seq its.toArray n}:=by obtain⟨z,its,n,r,e⟩:=I.aY l _ hH;exact⟨z,its,n,r,r.length,e⟩
theorem a3d(h:n<=sizeLine):Builtin.List.listTooLong n=false:=by unfold Builtin.List.listTooLong;exact fk au
end
section
variable {X:Cx}
inductive adE(x:V)(vs:List V)(H:Hp)(Q:VK):Prop |mk (l:_)(xs:_)(y:_)(h0:x= .ref l)(h1:vs=[y])(h2:H l=some (.lst xs))(h3:xs.length<sizeLine)(h4:Q .bB (upd H l (.lst (xs++[y]))))
def Q0:V->List V->Hp->VK->Prop:=λx vs H Q=>adE x vs H Q
theorem IC:DL X "list.append" Q0:=by
 intro aw s O H x vs v us Q I rx rv h;obtain⟨l,xs,y,rfl,rfl,hH,hz,q⟩:=h;cases rx;obtain⟨u,rfl,ru⟩:=rv.one;obtain⟨z,its,n,r,hl,e⟩:=I.zw hH;refine sY F.slot_list_append ⟨_,e,Z⟩ F.entry_list_append (F.args_list_append_2 _ _) (PySem.list_append l its.toArray n u (by rw[eg];lia)) ⟨e,?_⟩;refine⟨.bB,_,I.C8 (its':=its++[u]) hH e (by simp) (r.append (.cons ru .nil)) ?_,Z,q⟩;rw[fC,List.length_singleton]
 lia
inductive adz(x:V)(vs:List V)(H:Hp)(Q:VK):Prop |mk (l:_)(b:_)(xs:_)(zs:_)(h0:x= .ref l)(h1:vs=[.ref b])(h2:H l=some (.lst xs))(h3:H b=some (.lst zs))(h4:xs.length+zs.length<=sizeLine)(h5:Q .bB (upd H l (.lst (xs++zs))))
def PV:V->List V->Hp->VK->Prop:=λx vs H Q=>adz x vs H Q
theorem a3z:DL X "list.extend" PV:=by
 intro aw s O H x vs v us Q I rx rv h;obtain⟨l,b,xs,zs,rfl,rfl,hH,hB,hz,q⟩:=h;cases rx;obtain⟨u,rfl,ru⟩:=rv.one;cases ru;obtain⟨z,its,n,r,hl,e⟩:=I.zw hH;obtain⟨z2,lF,n2,r2,rL,e2⟩:=I.zw hB;have hsz:its.toArray.size+lF.toArray.size<=sizeLine:=by rw[eg,eg];lia
 have a5Y:¬(!its.toArray.isEmpty&&Builtin.List.listTooLong (its.toArray.size+lF.toArray.size))=true:=by rw[a3d hsz,M8];exact kF
 refine sY F.slot_list_extend ⟨_,e,Z⟩ F.entry_list_extend (F.args_list_extend_2 _ _) (AutoSeq1.list_extend_list_list_0 l its.toArray n b lF.toArray n2 a5Y (by rw[eg];lia) au) ⟨e,e2,?_⟩;refine⟨.bB,_,I.C8 (its':=its++lF) hH e (by simp) (r.append r2) ?_,Z,q⟩;rw[fC]
 lia
inductive adl(x:V)(vs:List V)(H:Hp)(Q:VK):Prop |mk (l:_)(xs:_)(i:_)(k:_)(y:_)(h0:x= .ref l)(h1:vs=[.int i])(h2:H l=some (.lst xs))(h3:-(2^63)<=i)(h4:i<2^63)(h5:seqIndex? i xs.length=some k)(h6:xs[k]? =some y)(h7:Q y (upd H l (.lst (xs.eraseIdx k))))
def PU:V->List V->Hp->VK->Prop:=λx vs H Q=>adl x vs H Q
theorem a3y:DL X "list.pop" PU:=by
 intro aw s O H x vs v us Q I rx rv h;obtain⟨l,xs,i,k,y,rfl,rfl,hH,h1,h2,hk,hy,q⟩:=h;cases rx;obtain⟨u,rfl,ru⟩:=rv.one;obtain⟨t,rfl⟩:=ru;obtain⟨z,its,n,r,hl,e⟩:=I.zw hH;obtain⟨w,hw,jg⟩:=r.get hy;refine sY F.slot_list_pop ⟨_,e,Z⟩ F.entry_list_pop (F.args_list_pop_2 _ _) (MeetsSeq.list_pop_at l its.toArray n i t k w (fitsIndex_both h1 h2) (by rw[eg,<-hl];exact hk) (by rw[<-Array.getElem?_toList];exact hw) (by rw[eg];lia)) ⟨e,?_⟩;refine⟨y,_,I.C8 (its':=its.eraseIdx k) hH e ?_ (r.eraseIdx k) ?_,jg,q⟩
 ·show its.toArray.eraseIdxIfInBounds k=(its.eraseIdx k).toArray
  rw[List.eraseIdxIfInBounds_toArray]
 ·have:=RI xs k
  lia
inductive adB(x:V)(vs:List V)(H:Hp)(Q:VK):Prop |mk (l:_)(xs:_)(h0:x= .ref l)(h1:vs=[])(h2:H l=some (.lst xs))(h3:Q .bB (upd H l (.lst [])))
def PX:V->List V->Hp->VK->Prop:=λx vs H Q=>adB x vs H Q
theorem a3A:DL X "list.clear" PX:=by intro aw s O H x vs v us Q I rx rv h;obtain⟨l,xs,rfl,rfl,hH,q⟩:=h;cases rx;have hus:=rv.zero;subst hus;obtain⟨z,its,n,r,hl,e⟩:=I.zw hH;refine sY F.slot_list_clear ⟨_,e,Z⟩ F.entry_list_clear (F.args_list_clear_1 _) (AutoSeq1.list_clear_list_0 l its.toArray n (by rw[eg];lia)) ⟨e,?_⟩;exact⟨.bB,_,I.C8 (its':=[]) (ys:=[]) hH e Z .nil (gy _),Z,q⟩
theorem len_rep{α:Type}(xs:List α)(k:Nat):(List.replicate k xs).flatten.length=k*xs.length:=by induction k with |zero=>simp |succ k ih=>rw[vB,Ed,fC,ih,Nat.succ_mul,LR]
end
section
variable {prog:ah}{w:World}{A:aj}{E:Value->ae->Prop}{s:ae}
end
section
variable {X:Cx}
end
end L2
namespace Att
open PySem PySem.W PySem.Calls PyProof.Rows
theorem a4Z{P:Params}:∀(ns:List Int)(vs:List Value),WellAll P h vs (ns.map WData.int)->IntsAre vs ns:=by intro ns;induction ns with |nil=>intro vs w;rw[List.map_nil]at w;cases w;exact .nil |cons n ns ih=>intro vs w;rw[oW]at w;cases w with |cons a b=>cases a;exact .cons _ _ (ih _ b)
theorem YT{l:OpenLaw}{n:Nat}(hn:l.most=some n){P:Params}{h:Heap}{args:List WData}{vals:List Value} (Cy:l.row.toRowW.claim.pre args=true)(Ja:WellAll P h vals args): ∃a vs ns,vals=[Value.ref a]/\args=[WData.list (ns.map WData.int)]/\h.get? a=some {cls:=.type "list",data:=.seq vs.toArray}/\IntsAre vs ns/\ns.length<=n:=by
 have hsh:WShape.hasAll [] args [.list .int]=true:=(pre_splitW Cy).1;have hc:l.pre.holds [] {args:=args}=true:=(pre_splitW Cy).2;obtain⟨d,r,rfl,h1,h2⟩:=hasAllW_cons hsh;obtain rfl:=hasAllW_nil h2;obtain⟨xs,rfl,h3⟩:=hasW_list h1;obtain⟨ns,rfl⟩:=items_int h3;have hlen:ns.length<=n:=by
  unfold OpenLaw.pre at hc;have h4:(WTm.not (.lt (.lit (.int (n:Int))) (.len (.arg 0)))).holds [] {args:=[.list (ns.map .int)]}=true:=by have h4:=(holds_andW hc).1;rw[hn]at h4;exact h4
  have h5:=condW_of h4 (w_not (w_lt w_lit (w_len_list (w_arg Z))));rw[cx]at h5;refine Nat.le_of_not_lt λq=>?_;have q':(n:Int)<((ns.length:Nat):Int):=by omega
  first |(rw[cP q']at h5;exact absurd h5 aA) |(simp at h5;omega)
 cases Ja with |cons w1 w2=>cases w2;cases w1 with |list ho JA=>exact⟨_,_,ns,Z,Z,ho,a4Z ns _ JA,hlen⟩
theorem a0A(l:OpenLaw)(args:List WData):l.row.toRowW.claim.post args (.bool true) args=true:=postW_of (r:=l.row.toRowW) (X:=(true==true)) (show WShape.has [] (.bool true) .bool=true by first|rfl|decide|simp[WShape.has,WShape.arms,WShape.armsAll]) (show(WTm.eq .res (.lit (.bool true))).value [] {args:=args,res:=some (.bool true),after:=args}=some (.bool (true==true))from w_eq_bool (w_res Z) w_lit) rfl
theorem abi{l:OpenLaw}{n:Nat}{q:ah}{loose:List Str}{XP:(bJ)->Heap->Prop}{YP:World->Heap->Prop}{d:DefRec} (hn:l.most=some n)(uO:d.params.defaults=[]) (call:∀(w:World)(s₀ s₁:ae)(mg mb:bJ)(fa:Addr)(o:Obj)(pm cd doc:Value)(a:Addr)(vs:List Value)(ns:List Int),Ground q loose [] XP w s₀ mg mb s₁.heap->YP w s₁.heap->s₁.heap.get? fa=some o->o.data= .func (docDef d.name d.params d.body d.scope pm cd doc)->s₁.heap.CodeRec cd d.name->mg d.name=some (.ref fa)->s₁.heap.get? a=some {cls:=.type "list",data:=.seq vs.toArray}->IntsAre vs ns->ns.length<=n->s₁.gens=#[]->codeAny (model l.prog w) callerA (.call (.ref fa) ⟨[.ref a],[]⟩) (λr s'=>r= .ok (.ret (.bool true))/\OldK s₁.heap s'.heap/\s'.os=s₁.os/\AllBare s'.gens) s₁): WalkO q loose XP YP l.row.toRowW d [] (λf vs=>PySem.call f vs):=by intro w s₀ s₁ mg mb G Y fa o pm cd doc dV kV ho hd gF hD Jp hg args vals as Cy af3 hrd Ja hlo;obtain rfl:dV= .none:=Dflts.none hD uO;obtain rfl:kV= .none:=Dflts.noKw hD;obtain⟨a,vs,ns,rfl,rfl,Ji,hints,hlen⟩:=YT hn Cy Ja;refine enter_call (yc (call w s₀ s₁ mg mb fa o pm cd doc a vs ns G Y ho (fd_plain hd) gF Jp Ji hints hlen hg) λr s' hq=>?_);obtain⟨rfl,h2,h3,h4⟩:=hq;exact⟨.inl ⟨.bool true,.bool true,[],Z,λ_=>rfl,.bool true,a0A l _,λ_=>⟨List.Pairwise.nil,λ_ hm=>(nomatch hm)⟩⟩,h2,h3,h4⟩
section
variable {prog:ah}{w:World}{A:aj}{E:Value->ae->Prop}{s:ae}{K:Frag}
end
end Att
namespace L2
open PySem PySem.Spec PyProof.Rows
theorem Mi:∀{vs:List Value}{ns:List Int},IntsAre vs ns->Vals (ns.map V.int) vs |_,_,.nil=>.nil |_,_,.cons n t h=>.cons ⟨t,Z⟩ (Mi h)
def inClass(s:Stmt)(j:Nat):Stmt:=match s with | .ClassDef _ _ _ body _ _ _ _ _ _ _=>body.getD j (.Pass ⟨0,0,0,0⟩) |_=>.Pass ⟨0,0,0,0⟩
def kO(s:Stmt):Arguments:=match s with | .FunctionDef _ a _ _ _ _ _ _ _ _=>a |_=>{posonlyargs:=[],args:=[],vararg:=none,kwonlyargs:=[],kw_defaults:=[],kwarg:=none,defaults:=[]}
def gU(s:Stmt):List Stmt:=match s with | .FunctionDef _ _ b _ _ _ _ _ _ _=>b |_=>[]
def aZ(s:Stmt):Scope:=match s with | .FunctionDef _ _ _ _ _ _ sc _ _ _=>sc |_=>{kind:=.function,names:=[],isGenerator:=false,isCoroutine:=false}
abbrev ij:kz:=λ_ _ _ _ _ _=>False
abbrev E0:XK:=λ_ _ _=>False
theorem BP:Passes ij X E0:=λ_ _ _ _ _ _ _ h=>h.elim
structure j4(K:aa)(x qual:Str)(st:Stmt)(f:Addr)(fd:FuncData):Prop where
 ex:∃(oc:Value)(od:Option Addr)(kV doc pm:Value)(an:Option Addr)(aP ct:Value)(fR:Array (Option Value)),fd=PySem.W.fnOf x qual (kO st) (gU st) (aZ st) .none kV doc pm an aP ct/\K.lookup f=some ⟨oc,od,.func fd,fR⟩/\PySem.W.codeIn K aP qual=true
 kp:PySem.W.keepIn K (.ref f)=true
section
variable {P:ah}{w:World}{K:aa}{mg:bJ}{ay:Heap}
theorem j4.ok{st:Stmt}{k:Nat}(F:j4 K x qual st f fd)(S:bG N ps (aZ st))(len:∀vs H Q E,sp vs H Q E->vs.length=ps.length) (iW:∀(aP:Value)(A:aj)(outer:List Env)(s:ae)(H:Hp)(vs:List V)(Q:VK)(E:XK),cN k (A.deeper (envOfC qual (aZ st) s.heap.objs.size f aP))->sp vs H Q E->∃t,ie (iK ij P w K mg ay N qual (aZ st) f aP A outer s H E).pO (gU st) t/\t {nx:=λ_ H'=>Q .bB H',rt:=Q} (start N vs) H):gY P w K mg ay ij (k+1) f fd ps sp:=by obtain⟨oc,od,kV,doc,pm,an,aP,ct,fR,rfl,lk,gF⟩:=F.ex;refine JS lk gF S len λA outer s H vs Q E hr jm=>?_;obtain⟨t,h,q⟩:=iW aP A outer s H vs Q E hr jm;exact⟨t,h.pO,q⟩
theorem j4.binds{st:Stmt}(F:j4 K x qual st f fd) (h:∀(kV doc pm:Value)(an:Option Addr)(aP ct:Value)(us:List Value),us.length=ps.length->bindArgs (PySem.W.fnOf x qual (kO st) (gU st) (aZ st) .none kV doc pm an aP ct) ⟨us,[]⟩=pure (ps.zip us)):Binds K fd ps []:=by obtain⟨oc,od,kV,doc,pm,an,aP,ct,fR,rfl,lk,gF⟩:=F.ex;exact .all (h kV doc pm an aP ct)
theorem zZ{st:Stmt}{kV:Value}(l:K.lookup f=some ⟨oc,od,.func (PySem.W.fnOf x qual (kO st) (gU st) (aZ st) .none kV doc pm an aP ct),fR⟩) (c:PySem.W.codeIn K aP qual=true)(k:PySem.W.keepIn K (.ref f)=true):j4 K x qual st f (PySem.W.fnOf x qual (kO st) (gU st) (aZ st) .none kV doc pm an aP ct):=⟨⟨oc,od,kV,doc,pm,an,aP,ct,fR,Z,l,c⟩,k⟩
end
section
variable {X:Cx}
theorem pv(i:Nat){x:Str}{pos:Pos}(hN:X.N[i]? =some x:=by rfl)(hv:DC X.env.scope x:=by first|exact Or.inl rfl|exact Or.inr (Or.inl rfl)|exact Or.inr (Or.inr rfl))(hd:(x==("__debug__":Str))=false:=by decide) (gF:(x==("__classdict__":Str))=false:=by decide):PE X (.Name x pos) (kY i):=Qa hN hv hd gF
end
theorem bN{A B:Prop}(h:B):if false=true then A else B:=by rw[bf kF];exact h
theorem cg{A B:Prop}(h:A):if true=true then A else B:=by rw[bh rfl];exact h
theorem eQ{c A B:Prop}[Decidable c](h1:c->A)(h2:¬c->B):if c then A else B:=by
 by_cases h:c
 ·rw[bh h]
  exact h1 h
 ·rw[bf h]
  exact h2 h
def aF(H H':Hp):Prop:=∀b o,H b=some o->H' b=some o
theorem aF.refl(H:Hp):aF H H:=λ_ _ h=>h
theorem aF.trans(a:aF H H1)(b:aF H1 H2):aF H H2:=λc o h=>b c o (a c o h)
theorem aF.seq{K:aa}(e:aF H H')(h:aH K H a xs):aH K H' a xs:=by
 rcases h with(h|⟨o,h⟩)|h
 ·exact .inl (.inl (e _ _ h))
 ·exact .inl (.inr ⟨o,e _ _ h⟩)
 ·exact .inr h
def Wd (i:Int):Prop:=i.natAbs<2^5000
theorem Wd.bits(h:Wd i):Builtin.Int.intBits i<=2^20:=gM (PyProof.Rows.intBits_le h) aA
theorem Wd.log(h:Wd i):i.natAbs.log2<9000:=by
 by_cases e:i.natAbs=0
 ·rw[e];decide
 ·have h1:i.natAbs.log2<5000:=(Nat.log2_lt e).mpr h
  lia
section
variable {X:Cx}
theorem mI:dF X (binaryOp .FloorDiv) (rI (λ_ j=>0<j/\Wd j) λi j=>.int (i/j)):=zc λi j _ _ _ _ _ hc q=>by have h1:(0:Int)<j:=hc.1;exact floordiv_int au (by rw[WK i au];exact q) (.inl (PyProof.noPylong_of_log2 hc.2.log))
theorem Qu:dF X (binaryOp .FloorDiv) (rI (λ_ j=>j≠0/\Wd j) λi j=>.int (i.fdiv j)):=zc λ_ _ _ _ _ _ _ hc q=>floordiv_int hc.1 q (.inl (PyProof.noPylong_of_log2 hc.2.log))
end
def vk(K:aa)(H:Hp)(x:V)(T:String):Prop:=match x with | .bB=>T="NoneType" | .bl _=>T="bool" | .int _=>T="int" | .str _=>T="str" | .ref a=>(T="list"/\∃xs,aH K H a xs)\/(T="tuple"/\∃xs,aR K H a xs) |_=>False
def j8(T n:String):Bool:=T==n||(T=="bool"&&n=="int")
def Bf:List String:=["NoneType","bool","int","str","list","tuple"]
def yu:List String:=["bool","int","str","list","tuple"]
theorem RU{K:aa}(h1:T∈Bf)(h2:n∈yu):PySem.W.kitOne K (.type T) (.type n)=some (j8 T n):=by
 have all:Bf.all (λT=>yu.all λn=>PySem.W.kitOne [] (.type T) (.type n)==some (j8 T n))=true:=by decide+kernel
 have a1:=je.mp all T h1;have a2:=je.mp a1 n h2;have e:PySem.W.kitOne K (.type T) (.type n)=PySem.W.kitOne [] (.type T) (.type n):=by unfold PySem.W.kitOne PySem.W.kitCls PySem.W.subIn;rfl
 rw[e];exact fz.mp a2
section
variable {X:Cx}
theorem vk.mem{K:aa}(h:vk K H x T):T∈Bf:=by cases x with |bB=>cases(show T="NoneType" from h);decide |bl b=>cases(show T="bool" from h);decide |int b=>cases(show T="int" from h);decide |str b=>cases(show T="str" from h);decide |ref a=>rcases(show(T="list"/\∃xs,aH K H a xs)\/(T="tuple"/\∃xs,aR K H a xs)from h)with⟨e,_⟩|⟨e,_⟩<;>cases e<;>decide |_=>exact(show False from h).elim
theorem RV{aw:List (Addr×Obj)}{s:ae}{O:St}{H:Hp}{x:V}{u:Value}{T:String}(I:Inv X aw O H s)(rx:RelV x u)(ty:vk X.K H x T): ∃P:Heap->Prop,PySem.W.KitX X.K u (.type T) P/\P s.heap/\u≠ .builtin "__main__.__loader__#opaque":=by cases x with
 |bB=>cases(show T="NoneType" from ty);cases(show u=Value.none from rx);exact⟨_,PySem.W.kitx_none,True.intro,λz=>nomatch z⟩ |bl b=>cases(show T="bool" from ty);cases(show u=Value.bool b from rx);exact⟨_,PySem.W.kitx_bool,True.intro,λz=>nomatch z⟩ |int b=>cases(show T="int" from ty);obtain⟨t,q⟩:=(show∃t,u=Value.int b t from rx);cases q;exact⟨_,PySem.W.kitx_int,True.intro,λz=>nomatch z⟩ |str b=>cases(show T="str" from ty);obtain⟨t,q⟩:=(show∃t,u=Value.str b t from rx);cases q;exact⟨_,PySem.W.kitx_str,True.intro,λz=>nomatch z⟩ |ref a=>
  cases(show u=Value.ref a from rx);rcases(show(T="list"/\∃xs,aH X.K H a xs)\/(T="tuple"/\∃xs,aR X.K H a xs)from ty)with⟨e,xs,hx⟩|⟨e,xs,hx⟩
  ·cases e
   obtain⟨its,r,⟨o,n,h1,h2,_⟩,_⟩:=I.list hx;exact⟨_,PySem.W.kitx_list,⟨o,h1,h2⟩,λz=>nomatch z⟩
  ·cases e
   obtain⟨its,r,⟨o,h1,h2,_⟩,_⟩:=I.tuple hx;exact⟨_,PySem.W.kitx_tuple,⟨o,h1,h2⟩,λz=>nomatch z⟩ |_=>exact(show False from ty).elim
inductive adt(K:aa)(xs:List V)(H:Hp)(Q:VK):Prop |mk (x:_)(T:_)(n:_)(b:_)(h0:xs=[x,.ty n])(h1:vk K H x T)(h2:n∈yu)(h3:j8 T n=b)(h4:Q (.bl b) H)
def HK(K:aa):List V->Hp->VK->Prop:=λxs H Q=>adt K xs H Q
theorem aaQ:fJ X (.builtin "isinstance") (HK X.K):=by intro aw s O H xs us Q I r h;obtain⟨x,T,n,b,rfl,ty,hn,rfl,q⟩:=h;obtain⟨u,c,rfl,rx,rc⟩:=vals2 r;cases(show c=Value.type n from rc);obtain⟨P,afH,p,hx⟩:=RV I rx ty;exact PySem.W.kia_one afH I.fV p (RU ty.mem hn) hx λtk=>⟨.bl (j8 T n),H,I.tok _,Z,q⟩
inductive ads(K:aa)(xs:List V)(H:Hp)(Q:VK):Prop |mk (x:V)(T:String)(p:Addr)(ns:List String)(b:Bool)(h0:xs=[x,.ref p])(h1:H p=some (.tup (ns.map V.ty)))(h2:vk K H x T)(h3:(∀n∈ns,n∈yu))(h4:ns.any (j8 T)=b)(h5:Q (.bl b) H)
def HH(K:aa):List V->Hp->VK->Prop:=λxs H Q=>ads K xs H Q
theorem RS{K:aa}{T:String}(h1:T∈Bf):∀{ns:List String},(∀n∈ns,n∈yu)->PySem.W.kitAny K (.type T) (ns.map Value.type)=some (ns.any (j8 T)) |[],_=>rfl |n::r,h=>by have e:=RU (K:=K) h1 (h n (LU ..));have ih:=RS (K:=K) h1 (ns:=r) λm hm=>h m (lT _ hm);rw[oW,PySem.W.kitAny,e,vK];cases j8 T n with |true=>rfl |false=>simpa using ih
theorem Mg:∀{ns:List String}{us:List Value},Vals (ns.map V.ty) us->us=ns.map Value.type |[],_,.nil=>rfl |n::r,_,.cons q t=>by cases(show _=Value.type n from q);rw[Mg t];rfl
theorem aaP:fJ X (.builtin "isinstance") (HH X.K):=by intro aw s O H xs us Q I r h;obtain⟨x,T,p,ns,b,rfl,hp,ty,hn,rfl,q⟩:=h;obtain⟨u,c,rfl,rx,rc⟩:=vals2 r;cases(show c=Value.ref p from rc);obtain⟨P,afH,pp,hx⟩:=RV I rx ty;obtain⟨_,its,rv,⟨cls,dd,dt,sl⟩,h1,h2,n,h3⟩:=(show fe X.prog X.w H s.heap p (.tup (ns.map V.ty))from I.aY p _ hp);simp only at h2 h3;subst h2 h3;have e:=Mg rv;subst e;exact PySem.W.kia_tup afH I.fV pp h1 (RS ty.mem hn) hx λtk=>⟨.bl _,H,I.tok _,Z,q⟩
end
mutual
def RD(K:aa)(H:Hp):V->ai->Prop |x,.none=>x= .bB |x,.bool b=>x= .bl b |x,.int i=>x= .int i |x,.str y=>x= .str y |x,.list ds=>∃a xs,x= .ref a/\aH K H a xs/\aJ K H xs ds |x,.tuple ds=>∃a xs,x= .ref a/\aR K H a xs/\aJ K H xs ds |_,.dict _=>False
def aJ (K:aa)(H:Hp):List V->List ai->Prop |xs,[]=>xs=[] |xs,d::ds=>∃y ys,xs=y::ys/\RD K H y d/\aJ K H ys ds
end
section
variable {X:Cx}
mutual
theorem RD.reads{aw:List (Addr×Obj)}{s:ae}{O:St}{H:Hp}(I:Inv X aw O H s):∀{x:V}{u:Value}(d:ai),RelV x u->RD X.K H x d->∃as,Reads s.heap u d as |x,u,.none,r,h=>by cases(show x= .bB from by simpa[RD]using h);cases(show u=Value.none from r);exact⟨_,.none⟩ |x,u,.bool b,r,h=>by cases(show x= .bl b from by simpa[RD]using h);cases(show u=Value.bool b from r);exact⟨_,.bool b⟩ |x,u,.int i,r,h=>by cases(show x= .int i from by simpa[RD]using h);obtain⟨t,q⟩:=(show∃t,u=Value.int i t from r);cases q;exact⟨_,.int i t⟩ |x,u,.str y,r,h=>by cases(show x= .str y from by simpa[RD]using h);obtain⟨t,q⟩:=(show∃t,u=Value.str y t from r);cases q;exact⟨_,.str y t⟩ |x,u,.list ds,r,h=>by rw[RD]at h;obtain⟨a,xs,rfl,hx,hd⟩:=h;cases(show u=Value.ref a from r);obtain⟨its,rv,⟨o,n,h1,h2,h3,h4⟩,_⟩:=I.list hx;obtain⟨as,q⟩:=aJ.reads I ds rv hd;exact⟨_,.list h1 h2 h4 (by simpa using q)⟩ |x,u,.tuple ds,r,h=>by rw[RD]at h;obtain⟨a,xs,rfl,hx,hd⟩:=h;cases(show u=Value.ref a from r);obtain⟨its,rv,⟨o,h1,h2,n,h4⟩,_⟩:=I.tuple hx;obtain⟨as,q⟩:=aJ.reads I ds rv hd;exact⟨_,.tuple h1 h2 h4 (by simpa using q)⟩ |x,u,.dict _,r,h=>by simp[RD]at h
theorem aJ.reads {aw:List (Addr×Obj)}{s:ae}{O:St}{H:Hp}(I:Inv X aw O H s):∀{xs:List V}{us:List Value}(ds:List ai),Vals xs us->aJ X.K H xs ds->∃as,ReadsAll s.heap us ds as |xs,us,[],r,h=>by cases(show xs=[]from by simpa[aJ]using h);cases r;exact⟨_,.nil⟩ |xs,us,d::ds,r,h=>by rw[aJ]at h;obtain⟨y,ys,rfl,h1,h2⟩:=h;cases r with |cons ra rb=>obtain⟨as,q⟩:=RD.reads I d ra h1;obtain⟨bs,q'⟩:=aJ.reads I ds rb h2;exact⟨_,.cons q q'⟩
end
inductive adA(K:aa)(x:V)(y:V)(H:Hp)(Q:VK):Prop |mk (d:_)(e:_)(h0:RD K H x d)(h1:RD K H y e)(h2:SeqAt.shaped d=true)(h3:SeqAt.shaped e=true)(h4:Q (.bl (PyData.eqv d e)) H)
def HL(K:aa):R2:=λx y H Q=>adA K x y H Q
inductive adm(K:aa)(x:V)(y:V)(H:Hp)(Q:VK):Prop |mk (d:_)(e:_)(h0:RD K H x d)(h1:RD K H y e)(h2:SeqAt.shaped d=true)(h3:SeqAt.shaped e=true)(h4:Q (.bl (!PyData.eqv d e)) H)
def Hx(K:aa):R2:=λx y H Q=>adm K x y H Q
theorem a1w(hu:X.A.units+64<cLine):dF X (compareOp .Eq) (HL X.K):=by intro aw s O H x y v u Q I rx ry h;obtain⟨d,e,hd,he,sd,se,q⟩:=h;obtain⟨as,ra⟩:=RD.reads I d rx hd;obtain⟨bs,rb⟩:=RD.reads I e ry he;exact eq_dataH ra rb sd se hu ⟨.bl _,H,I,Z,q⟩
theorem a1q(hu:X.A.units+64<cLine):dF X (compareOp .NotEq) (Hx X.K):=by intro aw s O H x y v u Q I rx ry h;obtain⟨d,e,hd,he,sd,se,q⟩:=h;obtain⟨as,ra⟩:=RD.reads I d rx hd;obtain⟨bs,rb⟩:=RD.reads I e ry he;exact ne_dataH ra rb sd se hu ⟨.bl _,H,I,Z,q⟩
end
theorem aF.new{t:Addr}(ht:H t=none):aF H (upd H t o):=λb o' e=>by rw[aO (fT e ht)];exact e
structure Nw(H H':Hp)(p:Addr)(o:HO):Prop where
 no:H p=none
 at':H' p=some o
 same:aF H H'
 eq:H'=upd H p o
theorem Nw.of(h:H p=none):Nw H (upd H p o) p o:=⟨h,bo,.new h,Z⟩
def Du:List Str:=["len","abs","min","max","range","isinstance","int","bool","str","tuple","list","any","all","sum","zip","enumerate","sorted","reversed","ord","chr","divmod","repr","dict","set"]
def bV (mg:bJ):Prop:=∀x∈Du,mg x=none
theorem bV.at(B:bV mg)(x:Str)(h:x∈Du:=by decide):mg x=none:=B x h
theorem fH{α:Type}{C:List α->Prop}(h:∀a,C [a]):∀us:List α,us.length=1->C us |[_],_=>h _
theorem dJ{α:Type}{C:List α->Prop}(h:∀a b,C [a,b]):∀us:List α,us.length=2->C us |[_,_],_=>h _ _
theorem oN{α:Type}{C:List α->Prop}(h:∀a b c,C [a,b,c]):∀us:List α,us.length=3->C us |[_,_,_],_=>h _ _ _
theorem Le{α:Type}{C:List α->Prop}(h:∀a b c d,C [a,b,c,d]):∀us:List α,us.length=4->C us |[_,_,_,_],_=>h _ _ _ _
def Tv(N P:List Str)(sc:Scope):Bool:=decide (sc.kind= .function)&& !sc.isCoroutine&& !sc.isGenerator&&decide N.Nodup&&decide (N.take P.length=P)&&P.all (λx=>decide (sc.names.lookup x=some .local\/sc.names.lookup x=some .cell))&&sc.names.all λy=>decide (y.2≠ .free)
theorem bQ{P:List Str}(h:Tv N P sc=true):bG N P sc:=by unfold Tv at h;simp only[fq,AI,M6,je]at h;obtain⟨⟨⟨⟨⟨⟨h1,h2⟩,h3⟩,h4⟩,h5⟩,h6⟩,h7⟩:=h;exact⟨h1,h2,h3,h4,h5,h6,h7⟩
structure FA(K:aa)(mg:bJ)(x:Str)(st:Stmt):Prop where ex:∃f fd,mg x=some (.ref f)/\j4 K x x st f fd
def aI(P:ah)(w:World)(K:aa)(mg:bJ)(ay:Heap)(x:Str)(k:Nat)(sp:Sp):Prop:=∃f fd ps,gY P w K mg ay ij k f fd ps sp/\mg x=some (.ref f)/\PySem.W.keepIn K (.ref f)=true/\Binds K fd ps []
section
variable {P:ah}{w:World}{K:aa}{mg:bJ}{ay:Heap}
theorem a8q{st:Stmt}{kV:Value}(X:K.In h)(G:h.Ns mainGlobals mg) (a:PySem.W.nsIn K mainGlobals x=some (some (.ref f))) (l:K.lookup f=some ⟨oc,od,.func (PySem.W.fnOf x x (kO st) (gU st) (aZ st) .none kV doc pm an aP ct),fR⟩) (c:PySem.W.codeIn K aP x=true)(k:PySem.W.keepIn K (.ref f)=true):FA K mg x st:=⟨f,_,vy X G a,zZ l c k⟩
theorem FA.has{st:Stmt}{k:Nat}(F:FA K mg x st)(S:bG N ps (aZ st))(len:∀vs H Q E,sp vs H Q E->vs.length=ps.length) (hb:∀(kV doc pm:Value)(an:Option Addr)(aP ct:Value)(us:List Value),us.length=ps.length->bindArgs (PySem.W.fnOf x x (kO st) (gU st) (aZ st) .none kV doc pm an aP ct) ⟨us,[]⟩=pure (ps.zip us)) (iW:∀(f:Addr)(aP:Value)(A:aj)(outer:List Env)(s:ae)(H:Hp)(vs:List V)(Q:VK)(E:XK),cN k (A.deeper (envOfC x (aZ st) s.heap.objs.size f aP))->sp vs H Q E->∃t,ie (iK ij P w K mg ay N x (aZ st) f aP A outer s H E).pO (gU st) t/\t {nx:=λ_ H'=>Q .bB H',rt:=Q} (start N vs) H):aI P w K mg ay x (k+1) sp:=by obtain⟨f,fd,hm,F⟩:=F.ex;exact⟨f,fd,ps,F.ok S len λaP A outer s H vs Q E=>iW f aP A outer s H vs Q E,hm,F.kp,F.binds hb⟩
end
section
variable {X:Cx}{k:Nat}{x:Str}{p pos:Pos}{e:Expr}{es:List Expr}{t:TA}{sp:Sp}
def ML(sp:Sp)(t:TA):TE:=λO H Q=>t O H λvs H1=>sp vs H1 Q E0
theorem pI(F:aI X.prog X.w X.K X.mg X.ay x k sp)(hr:cN k X.A)(hg:Gl X x)(ha:PA X (e::es) t)(jq:(x==("__debug__":Str))=false:=by decide) (he:starEach (e::es) X.env=(false,eval e X.env)::starEach es X.env:=by rfl)(gE:(backTo pos (starEach es X.env)).any (·.1)=false:=by rfl): PE X (.Call (.Name x p) (e::es) [] pos) (ML sp t):=by
 obtain⟨f,fd,ps,F,hm,hk,hb⟩:=F;have h:=a17 (pos:=pos) (p:=p) F hr hg hm hk hb .nil BP ha jq he gE;intro aw s O H Q I hq;refine h aw s O H Q I ?_;have e1:(λ(vs:List V) H1=>sp (vs++[]) H1 Q E0)=λvs H1=>sp vs H1 Q E0:=by funext vs H1;rw[vJ]
 show t O H λvs H1=>sp (vs++[]) H1 Q E0;rw[e1];exact hq
theorem pf(F:aI X.prog X.w X.K X.mg X.ay x j sp)(hr:cN k X.A)(ha:PA X (e::es) t)(hjk:j<=k:=by decide)(hg:Gl X x:=by rfl)(jq:(x==("__debug__":Str))=false:=by decide)(he:starEach (e::es) X.env=(false,eval e X.env)::starEach es X.env:=by rfl)(gE:(backTo pos (starEach es X.env)).any (·.1)=false:=by rfl):PE X (.Call (.Name x p) (e::es) [] pos) (ML sp t):=pI F (hr.mono hjk) hg ha jq he gE
theorem bM:dF X (binaryOp .Mult) (rI (λi j=>IntMulOk i j) λi j=>.int (i*j)):=zc λ_ _ _ _ _ _ _ hc q=>mul_int q hc
theorem a1v:dF X (compareOp .Eq) (kI λi j=>.bl (decide (i=j))):=wG λ_ _ _ _ _ _ _ q=>eq_int (by rw[Bool.beq_eq_decide_eq];exact q)
theorem a1p:dF X (compareOp .NotEq) (kI λi j=>.bl (!decide (i=j))):=wG λ_ _ _ _ _ _ _ q=>ne_int (by rw[bne,Bool.beq_eq_decide_eq];exact q)
theorem a1x(hu:X.A.units+64<cLine):dF X (compareOp .Eq) (λx y H Q=>kI (λi j=>.bl (decide (i=j))) x y H Q\/HL X.K x y H Q):=a1v.or (a1w hu)
theorem a1r(hu:X.A.units+64<cLine):dF X (compareOp .NotEq) (λx y H Q=>kI (λi j=>.bl (!decide (i=j))) x y H Q\/Hx X.K x y H Q):=a1p.or (a1q hu)
mutual
theorem eqv_refl:∀d:ai,d.canLay0=true->PyData.eqv d d=true | .none,_=>by simp[PyData.eqv] | .bool b,_=>by simp[PyData.eqv] | .int i,_=>by simp[PyData.eqv] | .str x,_=>by simp[PyData.eqv] | .list ds,h=>by simp only[PyData.eqv];exact eqvAll_refl ds (by simpa[PyData.canLay0]using h) | .tuple ds,h=>by simp only[PyData.eqv];exact eqvAll_refl ds (by simpa[PyData.canLay0]using h) | .dict _,h=>by simp[PyData.canLay0]at h
theorem eqvAll_refl:∀ds:List ai,PyData.canLayAll0 ds=true->PyData.eqvAll ds ds=true |[],_=>by simp[PyData.eqvAll] |d::ds,h=>by simp only[PyData.canLayAll0,fq]at h;simp only[PyData.eqvAll,fq];exact⟨eqv_refl d h.1,eqvAll_refl ds h.2⟩
end
theorem lg{K:aa}(b:Bool):RD K H (.bl b) (.bool b):=by simp[RD]
theorem dU{K:aa}(i:Int):RD K H (.int i) (.int i):=by simp[RD]
theorem cM{K:aa}(x:Str):RD K H (.str x) (.str x):=by simp[RD]
theorem PJ{K:aa}:RD K H .bB .none:=by simp[RD]
theorem gA{K:aa}{H:Hp}{p:Addr}{xs:List V}{ds:List ai}(h:aR K H p xs)(r:aJ K H xs ds):RD K H (.ref p) (.tuple ds):=by rw[RD];exact⟨p,xs,Z,h,r⟩
theorem jS{K:aa}{H:Hp}{p:Addr}{xs:List V}{ds:List ai}(h:aH K H p xs)(r:aJ K H xs ds):RD K H (.ref p) (.list ds):=by rw[RD];exact⟨p,xs,Z,h,r⟩
theorem cU{K:aa}:aJ K H [] []:=by simp[aJ]
theorem bW{K:aa}{H:Hp}{x:V}{xs:List V}{d:ai}{ds:List ai}(h:RD K H x d)(r:aJ K H xs ds):aJ K H (x::xs) (d::ds):=by rw[aJ];exact⟨x,xs,Z,h,r⟩
inductive ac1(t:TS)(D:Ends)(O:St)(H:Hp):Prop |mk (Lp:St->Hp->Prop)(h0:t {D with nx:=Lp} O H)(h1:∀σ' H',Lp σ' H'->D.nx σ' H')
def XU(t:TS):TS:=λD O H=>ac1 t D O H
theorem hJ{st:Stmt}{t:TS}(h:PS X st t):PS X st (XU t):=by intro aw s O H D I hq;obtain⟨Lp,q,m⟩:=hq;refine bc (h aw s O H _ I q) λf s1 q1=>?_;cases f with |next=>obtain⟨σ',H',I',q'⟩:=q1;exact⟨σ',H',I',m _ _ q'⟩ |brk=>exact q1 |cont=>exact q1 |ret u=>exact q1
end
def sP(K:aa)(xs:List Str):Prop:=∀x∈xs,PySem.W.nsIn K mainGlobals x=some none
theorem sP.nil{K:aa}:sP K []:=λ_ h=>nomatch h
theorem sP.cons{K:aa}{x:Str}{xs:List Str}(a:PySem.W.nsIn K mainGlobals x=some none)(r:sP K xs):sP K (x::xs):=λy hy=>by
 rcases bL.mp hy with e|e
 ·rw[e];exact a
 ·exact r y e
theorem ab1{K:aa}{mg:bJ}{h:Heap}(X:K.In h)(G:h.Ns mainGlobals mg)(a:sP K Du):bV mg:=λx hx=>PySem.W.mg_none_of X G (a x hx)
theorem Ky{env:Env}:∀(ns:List (Str×NameKind))(cs:List (Str×Addr)),(∀x∈ns,x.2= .free->∃c,env.cells.lookup x.1=some c)->(∀x c,cs.lookup x=some c->env.cells.lookup x=some c)->∃cl,(forIn ns cs (λx r=>if(x.2==NameKind.free)=true then do let a<-cellOf env x.1;pure (ForInStep.yield ((x.1,a)::r))else pure (ForInStep.yield r)):Sem (List (Str×Addr)))=pure cl/\(∀x c,cl.lookup x=some c->env.cells.lookup x=some c)/\(∀x c,cs.lookup x=some c->∃c',cl.lookup x=some c')/\∀x∈ns,x.2= .free->∃c,cl.lookup x.1=some c
 |[],cs,_,h2=>⟨cs,Z,h2,λx c e=>⟨c,e⟩,λ_ h=>nomatch h⟩ |(n,k)::r,cs,h1,h2=>by
  by_cases hk:k= .free
  ·subst hk
   obtain⟨c,hc⟩:=h1 (n,.free) (.head _) rfl;have e1:cellOf env n=pure c:=by unfold cellOf;rw[show env.cells.lookup n=some c from hc]
   obtain⟨cl,a1,a2,a3,a4⟩:=Ky r ((n,c)::cs) (λx hx=>h1 x (.tail _ hx)) (λx d e=>by rw[jd]at e;cases z:x==n with |true=>rw[z]at e;cases e;rw[fz.mp z];exact hc |false=>rw[z]at e;exact h2 x d e);refine⟨cl,?_,a2,λx d e=>?_,λx hx hf=>?_⟩
   ·rw[Ec]
    show(do let r'<-(if(NameKind.free==NameKind.free)=true then do let a<-cellOf env n;pure (ForInStep.yield ((n,a)::cs))else pure (ForInStep.yield cs));_)=_;rw[bh (by rfl),e1];exact a1
   ·by_cases z:x==n
    ·exact a3 x c (by rw[jd,z])
    ·exact a3 x d (by rw[jd,yk.mpr z];exact e)
   ·rcases bL.mp hx with rfl|hx
    ·exact a3 n c (by rw[jd,E1])
    ·exact a4 x hx hf
  ·obtain⟨cl,a1,a2,a3,a4⟩:=Ky r cs (λx hx=>h1 x (.tail _ hx)) h2
   refine⟨cl,?_,a2,a3,λx hx hf=>?_⟩
   ·rw[Ec]
    show(do let r'<-(if(k==NameKind.free)=true then do let a<-cellOf env n;pure (ForInStep.yield ((n,a)::cs))else pure (ForInStep.yield cs));_)=_;rw[bf (by simpa using hk)];exact a1
   ·rcases bL.mp hx with rfl|hx
    ·exact absurd hf hk
    ·exact a4 x hx hf
theorem UW(h1:∀x∈scope.names,x.2= .free->∃c,env.cells.lookup x.1=some c): ∃cl,closureFor scope env=pure cl/\(∀x c,cl.lookup x=some c->env.cells.lookup x=some c)/\∀x∈scope.names,x.2= .free->∃c,cl.lookup x.1=some c:=by
 obtain⟨cl,a1,a2,_,a4⟩:=Ky (env:=env) scope.names [] h1 (λx c e=>nomatch e);refine⟨cl,?_,a2,a4⟩;unfold closureFor;show(forIn scope.names ([]:List (Str×Addr)) (λ(x:Str×NameKind) r=>match x with|(name,kind)=>if(kind==NameKind.free)=true then do let a<-cellOf env name;pure (ForInStep.yield ((name,a)::r))else pure (ForInStep.yield r))>>=λr=>(pure r:Sem (List (Str×Addr))))=pure cl;have ef:(λ(x:Str×NameKind)(r:List (Str×Addr))=>match x with|(name,kind)=>(if(kind==NameKind.free)=true then do let a<-cellOf env name;pure (ForInStep.yield ((name,a)::r))else pure (ForInStep.yield r):Sem (ForInStep (List (Str×Addr))))) =λx r=>if(x.2==NameKind.free)=true then do let a<-cellOf env x.1;pure (ForInStep.yield ((x.1,a)::r))else pure (ForInStep.yield r):=by funext x r;obtain⟨n,k⟩:=x;rfl
 rw[ef,a1];rfl
theorem Rr{env:Env}(hk:env.scope.kind= .function){x:Str}(hx:env.kindOf x=some .cell):∀{names:List (Str×NameKind)},names.lookup x=some .free->(names.map λ(n,k)=>if(k==NameKind.free&&env.scope.kind== .function&&env.kindOf n==some .cell)then(n,NameKind.cell)else(n,k)).lookup x=some .cell |[],h=>nomatch h |(n,k)::r,h=>by have ih:=@Rr env hk x hx r;show List.lookup x ((if(k==NameKind.free&&env.scope.kind== .function&&env.kindOf n==some .cell)=true then(n,NameKind.cell)else(n,k))::_)=_;cases z:x==n with |true=>simp only[jd,z]at h;cases h;have e:=fz.mp z;subst e;rw[bh (by rw[hk,hx];rfl),jd,z] |false=>simp only[jd,z]at h;split<;>(simp only[jd,z];exact ih h)
def gh(X:Cx)(N:List Str)(scope:Scope)(cl:List (Str×Addr))(s:ae)(H:Hp)(fp:List Addr)(aw:List (Addr×Obj)):Cx:={prog:=X.prog,w:=X.w,K:=X.K,mg:=X.mg,ay:=X.ay,A:=X.A,N:=N,s₀:=s,H₀:=H,env:=compEnvC scope cl s.heap.objs.size X.env,outer:=X.stack,stack:=X.stack,ex:=fp,fn:=λ_=>false,calm:=X.calm,pn:=X.pn++aw,xe:=λ_ _=>False}
def stC(js:List (Option Nat))(O:St):St:=js.map λ|none=>none|some j=>(O[j]?).join
def Dq(X:Cx)(N:List Str)(js:List (Option Nat))(scope:Scope):Bool:=N.length==js.length&&(N.zip js).all λp=>match p.2 with|none=>true|some j=>X.N[j]? ==some p.1&&scope.names.lookup p.1==some NameKind.free&&X.env.kindOf p.1==some NameKind.cell
def xR(X:Cx)(scope:Scope):Bool:=scope.kind== .function&&X.env.scope.kind== .function&&scope.names.all λx=>match x.2 with | .free=>X.env.kindOf x.1==some NameKind.cell | .cell=>false | .local=>scope.names.lookup x.1==some NameKind.local |_=>true
section
variable {X:Cx}{aw:List (Addr×Obj)}{O:St}{H:Hp}{s:ae}
theorem lookup_mem{α β:Type}[BEq α][LawfulBEq α]:∀{l:List (α×β)}{x:α}{b:β},l.lookup x=some b->(x,b)∈l |[],_,_,h=>nomatch h |(n,k)::r,x,b,h=>by rw[jd]at h;cases z:x==n with |true=>rw[z]at h;cases h;rw[fz.mp z];exact .head _ |false=>rw[z]at h;exact .tail _ (lookup_mem h)
theorem Px{env:Env}{x:Str}{k:NameKind}:∀{names:List (Str×NameKind)},(names.map λ(n,k)=>if(k==NameKind.free&&env.scope.kind== .function&&env.kindOf n==some .cell)then(n,NameKind.cell)else(n,k)).lookup x=some k->names.lookup x=some k\/(k= .cell/\names.lookup x=some .free) |[],h=>nomatch h |(n,k')::r,h=>by have ih:=@Px env x k r;have h':List.lookup x ((if(k'==NameKind.free&&env.scope.kind== .function&&env.kindOf n==some .cell)=true then(n,NameKind.cell)else(n,k'))::(r.map λ(n,k)=>if(k==NameKind.free&&env.scope.kind== .function&&env.kindOf n==some .cell)then(n,NameKind.cell)else(n,k)))=some k:=h;cases z:x==n with
 |true=>
  split at h'
  ·rename_i hc
   simp only[jd,z]at h';cases h';rw[fq,fq]at hc;have e:k'= .free:=fz.mp hc.1.1;subst e;exact .inr ⟨Z,by rw[jd,z]⟩
  ·simp only[jd,z]at h'
   cases h';exact .inl (by rw[jd,z]) |false=>
  rw[jd,z];refine ih ?_;split at h'
  ·simpa only[jd,z]using h'
  ·simpa only[jd,z]using h'
theorem Inv.comp(I:Inv X aw O H s)(hN:Dq X N js scope=true)(hS:xR X scope=true) (c1:∀x c,cl.lookup x=some c->X.env.cells.lookup x=some c)(c2:∀x∈scope.names,x.2= .free->∃c,cl.lookup x.1=some c)(hf:∀b∈fp,lS X aw H b)(hfl:∀b∈fp,b<s.heap.objs.size) (hn:h'.Ns s.heap.objs.size λ_=>none)(hk:∀b o,s.heap.get? b=some o->h'.get? b=some o):Inv (gh X N scope cl s H fp aw) [] (stC js O) H {s with heap:=h',toks:=tk}:=by
 unfold xR at hS;rw[fq,fq]at hS;obtain⟨⟨s1,s2⟩,s3⟩:=hS;have pX:scope.kind= .function:=fz.mp s1;have a63:X.env.scope.kind= .function:=fz.mp s2;unfold Dq at hN;rw[fq]at hN;obtain⟨n1,n2⟩:=hN;have hlen:N.length=js.length:=fz.mp n1;have Sa:∀x k,(relabel scope X.env).names.lookup x=some k->scope.names.lookup x=some k\/(k= .cell/\scope.names.lookup x=some .free):=λx k e=>Px e;have a3j:∀x,scope.names.lookup x≠some .cell:=λx e=>by have:=je.mp s3 _ (lookup_mem e);exact kF this
 have Tt:∀b∈(gh X N scope cl s H fp aw).fs,b∈X.env.locals::X.fs:=I.yF;have ok:(gh X N scope cl s H fp aw).Ok:={
  mod:=I.ok.mod
  kind:=pX
  glob:=I.ok.glob
  blt:=I.ok.blt
  above:=bK _
  inj:=λx y c e1 e2=>I.ok.inj x y c (c1 x c e1) (c1 y c e2)
  has:=λx hx=>by
   have fr:scope.names.lookup x=some .free->∃c,cl.lookup x=some c:=λe=>c2 (x,.free) (lookup_mem e) rfl;rcases hx with e|e
   ·rcases Sa x _ e with e|⟨_,e⟩
    ·exact absurd e (a3j x)
    ·exact fr e
   ·rcases Sa x _ e with e|⟨z,_⟩
    ·exact fr e
    ·cases z
  sL:=λx c e=>nomatch e
  hd:=I.ok.hd
  frames:=I.ok.frames
  vV:=.inl rfl
  D6:=λb hb=>⟨fA (hfl b hb),λx c e=>(hf b hb).2.2.2.2.1 x c (c1 x c e)⟩
  bs:=I.bs
  my:=gM I.ok.my I.sz
  uq:=λb o e hb=>by
   rcases(hf b hb).2.2.2.1 with z|z
   ·exact I.ok.uq b o e z
   ·exact absurd (gz (cC e) (gM I.ok.my z)) (oV _)
  si:=λb hb z=>by
   obtain⟨_,q1,q2,_⟩:=hf b hb;rcases bL.mp (Tt b z)with e|e
   ·exact q1 e
   ·exact q2 e
  jF:=I.stack
  ou:=I.vU};refine⟨ok,Z,I.bare,Un.kept hk,⟨_,hn,λi x v e1 e2 e3=>?_⟩,λx c e=>?_,I.aY.fresh (bK _),λx c e=>I.ki x c (c1 x c e),λp hp=>?_,I.aY.kept hk,?_⟩
 ·have xJ:(js.map λ|none=>none|some j=>(O[j]?).join)[i]? =some (some v):=e2
  rw[cI]at xJ;cases hj:js[i]? with |none=>rw[hj]at xJ;cases xJ |some o=>rw[hj]at xJ;cases o with |none=>cases xJ |some j=>
   have hz:(N.zip js)[i]? =some (x,some j):=by rw[AR];exact⟨e1,hj⟩
   have V0:=je.mp n2 _ (gI hz);simp only[fq,fz]at V0;obtain⟨⟨h1,h2⟩,h3⟩:=V0;have Dj:(O[j]?).join=some v:=by simpa using xJ
   have hσ:O[j]? =some (some v):=by cases q:O[j]? with |none=>rw[q]at Dj;cases Dj |some o=>
    rw[q]at Dj;have:o=some v:=by simpa using Dj
    rw[this]
   obtain⟨m,hm,hl⟩:=I.loc;obtain⟨u,r,l⟩:=hl j x v h1 hσ (.inr (.inl h3));refine⟨u,r,?_⟩;rcases l with⟨k,_⟩|⟨_,c,hc,mU⟩
   ·rw[h3]at k;cases k
   ·obtain⟨c',iV⟩:=c2 (x,.free) (lookup_mem h2) rfl
    have:=c1 x c' iV;rw[hc]at this;cases this;refine .inr ⟨.inl (Rr a63 h3 h2),c,iV,?_⟩;obtain⟨ob,ho,hd⟩:=mU;exact⟨ob,hk _ _ ho,hd⟩
 ·obtain⟨v,ob,ho,hd⟩:=I.cell x c (c1 x c e)
  exact⟨v,ob,hk _ _ ho,hd⟩
 ·have xk:p∈X.pn++aw:=by simpa[gh]using hp
  obtain⟨a1,a2,a3,a4,a5⟩:=I.pin p xk;refine⟨hk _ _ a1,a2,fA (cC a1),λz=>?_,a5⟩;rcases bL.mp (Tt p.1 z)with e|e
  ·exact a3 e
  ·exact a4 e
 ·show(js.map _).length=N.length
  rw[cx,hlen]
end
theorem UQ{prog:ah}{w:World}{A:aj}{R:Result->ae->Prop}{s:ae}{elt target iter:Expr}{ifs:List Expr}{scope:Scope}{pos:Pos}{it acc:Value}{env:Env}(I:Nat->ae->Prop) (turn:∀n s,I n s->wpAny (model prog w) A (pyNext it) (λr s₁=>match r with |none=>R (.ok .next) s₁ |some v=>wpAny (model prog w) A (letOwnedTupleGo target it v) (λ_ s₁=>wpAny (model prog w) A (assign target env v) (λ_ s₂=>wpAny (model prog w) A (forIn ifs true λc r=>if r=true then do let ok<-isTrue c env (eval c env);pure (ForInStep.yield ok)else pure (ForInStep.yield r)) (λok s₃=>if ok=true then wpAny (model prog w) A (eval elt env) (λx s₄=>wpAny (model prog w) A (call (.builtin "list.append") [acc,x]) (λ_ s₅=>∃m,m<n/\I m s₅) (λ_ _=>False) s₄) (λ_ _=>False) s₃ else∃m,m<n/\I m s₃) (λ_ _=>False) s₂) (λ_ _=>False) s₁) (λ_ _=>False) s₁) (λ_ _=>False) s) (n:Nat)(h:I n s):codeAny (model prog w) A (.compLoop (.ListComp elt [⟨target,iter,ifs,0⟩] scope pos) 0 it acc env) R s:=by refine codeAny_loop Z I (λn s hI=>?_) n h;show wpAny _ A ((compTurn (.ListComp elt [⟨target,iter,ifs,0⟩] scope pos) 0 it acc env).onRaise (λx=>do noteFrame x env;theTreesLotGoes x)) _ _ s;refine wpAny_noted ?_;rw[compTurn_list];refine aK (y9 (aK (iM (turn n s hI) (λr s₁ h₁=>?_) λ_ _ h'=>h'.elim)));cases r with |none=>exact cf h₁ |some v=>refine aK (iM h₁ (λ_ aem h₁=>?_) λ_ _ h'=>h'.elim);refine aK (iM h₁ (λ_ s₂ h₂=>aK (iM h₂ (λok s₃ h₃=>?_) λ_ _ h'=>h'.elim)) λ_ _ h'=>h'.elim);cases ok with |false=>exact cf ⟨Z,h₃⟩ |true=>exact aK (aK (iM h₃ (λx s₄ h₄=>aK (iM h₄ (λ_ s₅ h₅=>cf (cf ⟨Z,h₅⟩)) λ_ _ h'=>h'.elim)) λ_ _ h'=>h'.elim))
def Lm(X:Cx)(ifs:List Expr)(t:TT):Prop:=∀(aw:List (Addr×Obj))(s:ae)(O:St)(H:Hp)(Q:Bool->Hp->Prop),Inv X aw O H s->t O H Q->wpAny (model X.prog X.w) X.A (forIn ifs true λc r=>if r=true then do let ok<-isTrue c X.env (eval c X.env);pure (ForInStep.yield ok)else pure (ForInStep.yield r)) (TP X aw O Q) X.xe s
def ir:TT:=λ_ H Q=>Q true H
theorem fL:Lm X [] ir:=λ_ _ _ H _ I h=>wpAny_tests_nil ⟨H,I,h⟩
def j6(J:It)(g:TG)(tt:TT)(te:TE)(Q:VK)(D:Addr)(O:St)(H:Hp):Prop:=∃W:Nat->Nat->St->Hp->Prop,(∃m,W 0 m O H)/\∀i m σ' H',W i m σ' H'->(J.stop i H'/\Q (.ref D) H')\/(J.go i H'/\∀x H2,J.jO i H' x H2->g x σ' H2 λσ3 H3=>tt σ3 H3 λok H4=>if ok=true then te σ3 H4 λy H5=>∃ys,H5 D=some (.lst ys)/\ys.length<sizeLine/\∃m',m'<m/\W (i+1) m' σ3 (upd H5 D (.lst (ys++[y]))) else∃m',m'<m/\W (i+1) m' σ3 H4)
def MN(js:List (Option Nat))(wi:TI)(g:TG)(tt:TT)(te:TE):TE:=λO H Q=>wi O H λJ H1=>∀D H2,Nw H1 H2 D (.lst [])->j6 J g tt te Q D (stC js O) H2
theorem dN.but{P:ah}(ok:dN P w H h)(hn:H C=none)(hs:Heap.SameBut C h h'):dN P w H h':=λb ob e=>by
 refine(ok b ob e).lX (λc w' hc q=>(hs.2 c ?_).trans q) (λ_ q=>q) λ_ _ q=>q;rintro rfl;rcases hc with rfl|hc
 ·rw[hn]at e;cases e
 ·rw[hn]at hc;cases hc
set_option maxHeartbeats 1000000 in
theorem gB{X:Cx}{N:List Str}{js:List (Option Nat)}{elt tg iter:Expr}{ifs:List Expr}{scope:Scope}{pos:Pos}{wi:TI}{g:TG}{tt:TT}{te:TE}(hc:X.calm=true)(hN:Dq X N js scope=true)(hS:xR X scope=true) (hi:PI X tg iter wi)(hg:∀cl s H fp aw,PG (gh X N scope cl s H fp aw) tg g)(ht:∀cl s H fp aw,Lm (gh X N scope cl s H fp aw) ifs tt)(he:∀cl s H fp aw,PE (gh X N scope cl s H fp aw) elt te) (hs:∀x,foldedSetIterable iter X.env x=pure x:=by intro _;rfl):PE X (.ListComp elt [⟨tg,iter,ifs,0⟩] scope pos) (MN js wi g tt te):=by
 intro aw s O H Q I h;have uR:=hS;unfold xR at uR;rw[fq,fq]at uR;obtain⟨⟨k1,k2⟩,k3⟩:=uR;have pX:scope.kind= .function:=fz.mp k1;have xq:∀x∈scope.names,x.2= .free->∃c,X.env.cells.lookup x.1=some c:=λx hx e=>by have:=je.mp k3 x hx;rw[e]at this;exact I.ok.has x.1 (.inl (fz.mp this))
 have mU:∀x∈scope.names,x.2≠ .cell:=λx hx e=>by have:=je.mp k3 x hx;rw[e]at this;exact kF this
 have Jl:∀x∈scope.names,x.2= .local->scope.names.lookup x.1=some .local:=λx hx e=>by have:=je.mp k3 x hx;rw[e]at this;exact fz.mp this
 obtain⟨cl,Jx,c1,c2⟩:=UW xq;rw[eval_ListComp];refine wpAny_comprehension_free (use:=none) Z hs Jx pX Jl (bc (hi aw s O H _ I h) λv s1 h1=>bc h1 λCo s2 h2=>?_);obtain⟨it,fp,tn,J,H2,e,I2,T,tQ,f2,h2⟩:=h2;subst e;have hD:H2 s2.heap.objs.size=none:=I2.aY.fresh (bK _);obtain⟨W,⟨m0,w0⟩,turn⟩:=h2 _ _ (Nw.of hD);refine qE (Wa mU (by intro y hy;simp at hy) (λh₁ zN zJ=>?_) pX);have uV:∀b∈fp,b<s2.heap.objs.size:=λb hb=>by obtain⟨o,e,_⟩:=T.obj _ _ tQ b hb;exact cC e
 have I3:Inv X aw O (upd H2 s2.heap.objs.size (.lst [])) {s2 with heap:=s2.heap.push {cls:=.type "list",dict:=none,data:=.seq ([]:List Value).toArray}}:=I2.RC (its:=[]) (t':=s2.toks) .nil (gy _);generalize zU:s2.heap.push {cls:=.type "list",dict:=none,data:=.seq ([]:List Value).toArray}=h3 at I3 zN zJ;have yE:h3.objs.size=s2.heap.objs.size+1:=by rw[<-zU,qJ]
 have J0:∀b o,s2.heap.get? b=some o->h3.get? b=some o:=λb o e=>by rw[<-zU];exact cy _ e
 have f3:∀b∈fp,lS X aw (upd H2 s2.heap.objs.size (.lst [])) b:=λb hb=>⟨by rw[aO (fA (uV b hb))];exact(f2 b hb).1,(f2 b hb).2⟩;have zB:∀b o,h3.get? b=some o->h₁.get? b=some o:=λb o e=>(zJ.2 b (fA (cC e))).trans (cy _ e);have I4:Inv (gh X N scope cl {s2 with heap:=h3} (upd H2 s2.heap.objs.size (.lst [])) fp aw) [] (stC js O) (upd H2 s2.heap.objs.size (.lst [])) {s2 with heap:=h₁,toks:=s2.toks+([]:List (Str×Value)).length}:=I3.comp (s:={s2 with heap:=h3}) hN hS c1 c2 f3 (λb hb=>by show b<h3.objs.size;rw[yE];exact LO (uV b hb)) (by simpa using zN) zB;have yG:tn 0 h₁:=T.keep _ _ _ tQ λb _ o e=>zB b o (J0 b o e);have loop:codeAny (model X.prog X.w) X.A (.compLoop (.ListComp elt [⟨tg,iter,ifs,0⟩] scope pos) 0 (.ref it) (.ref s2.heap.objs.size) (compEnvC scope cl h3.objs.size X.env)) (compPost (model X.prog X.w) X.A X.xe none (EP X aw O Q) (.ref s2.heap.objs.size) h3.objs.size) {s2 with heap:=h₁,toks:=s2.toks+([]:List (Str×Value)).length}:=by
  refine UQ (λn s'=>∃i σ' H',Inv (gh X N scope cl {s2 with heap:=h3} (upd H2 s2.heap.objs.size (.lst [])) fp aw) [] σ' H' s'/\tn i s'.heap/\(∀b∈fp,H' b=none)/\W i n σ' H') ?_ m0 ⟨0,_,_,I4,yG,λb hb=>(f3 b hb).1,w0⟩;rintro n s5 ⟨i,σ5,H5,I5,pk,uU,w5⟩;have mG:∀{H':Hp},(∀b∈fp,H' b=none)->∀b∈fp,lS (gh X N scope cl {s2 with heap:=h3} (upd H2 s2.heap.objs.size (.lst [])) fp aw) [] H' b:=λ{H'} hn b hb=>by
   obtain⟨_,q1,q2,q3,q4,q5⟩:=f3 b hb;refine⟨hn b hb,λz=>?_,I4.ok.si b hb,.inl hb,λx c e=>q4 x c (c1 x c e),λp hp=>q5 p (by simpa[gh]using hp)⟩;have cJ:b<h3.objs.size:=by rw[yE];exact LO (uV b hb)
   exact fA cJ z
  rcases turn i n σ5 H5 w5 with⟨stop,qn⟩|⟨go,step⟩
  ·refine bc (T.done (gh X N scope cl {s2 with heap:=h3} (upd H2 s2.heap.objs.size (.lst [])) fp aw) rfl rfl rfl hc i [] s5 σ5 H5 _ I5 (mG uU) pk stop) λr s6 ⟨hr,I6⟩=>?_
   subst hr;obtain⟨m,hm,_⟩:=I6.loc;refine⟨m,hm,λh7 Cv=>?_⟩;have u0:Un (cX X.stack) fp (upd H2 s2.heap.objs.size (.lst [])) H5 h3 s6.heap:=I6.ay;have ne:∀b o,h3.get? b=some o->b≠h3.objs.size:=λb o e=>fA (cC e);have u:Un (cX X.stack) fp (upd H2 s2.heap.objs.size (.lst [])) H5 h3 h7:=⟨λb o e n hb hx=>(Cv.2 b (ne b o e)).trans (u0.keep b o e n hb hx),λb o e n hb hx=>let⟨sl,q⟩:=u0.slot b o e n hb hx;⟨sl,(Cv.2 b (ne b o e)).trans q⟩,u0.free,λb o e hx=>let⟨o',q⟩:=u0.there b o e hx;⟨o',(Cv.2 b (ne b o e)).trans q⟩,u0.jQ,u0.jG,u0.jx⟩;have I7:Inv X aw O H5 {s6 with heap:=h7}:=I3.Dt (s':={s6 with heap:=h7}) (ch:=fp) I6.os u (I6.aY.but I6.free Cv) I6.bare λb hb=>⟨(f3 b hb).2.2.2.1,(f3 b hb).2.1,(f3 b hb).2.2.2.2.1,(f3 b hb).2.2.2.2.2⟩;exact⟨.ref s2.heap.objs.size,H5,I7,Z,qn⟩
  ·refine bc (T.item (gh X N scope cl {s2 with heap:=h3} (upd H2 s2.heap.objs.size (.lst [])) fp aw) rfl rfl rfl hc i [] s5 σ5 H5 _ I5 (mG uU) pk go) λr s6 ⟨u,hr,h6⟩=>?_
   subst hr;refine bc h6 λ_ s7 ⟨x,H7,I7,r7,y7,pj,JQ⟩=>?_;have Ls:=I7.pinned (mG JQ) (T.obj _ _ pj);refine bc (hg _ _ _ _ _ _ s7 σ5 H7 x u _ Ls r7 (step x H7 y7)) λ_ s8 ⟨σ8,H8,I8,q8⟩=>?_;refine bc (ht _ _ _ _ _ _ s8 σ8 H8 _ I8 q8) λok s9 ⟨H9,I9,q9⟩=>?_;have again:∀{s':ae}{σ7:St}{H7:Hp},Inv (gh X N scope cl {s2 with heap:=h3} (upd H2 s2.heap.objs.size (.lst [])) fp aw) ([]++wz fp s7.heap) σ7 H7 s'->(∃m',m'<n/\W (i+1) m' σ7 H7)->∃m,m<n/\∃i σ' H',Inv (gh X N scope cl {s2 with heap:=h3} (upd H2 s2.heap.objs.size (.lst [])) fp aw) [] σ' H' s'/\tn i s'.heap/\(∀b∈fp,H' b=none)/\W i m σ' H':=λ{s' σ7 H7} J7 n7=>by obtain⟨m',hm,w7⟩:=n7;refine⟨m',hm,i+1,σ7,H7,J7.yt,T.keep _ _ _ pj λb hb o e=>(J7.pin (b,o) (lU _ (lU _ (wW hb e)))).1,λb hb=>?_,w7⟩;obtain⟨o,e,d⟩:=T.obj _ _ pj b hb;exact(J7.pin (b,o) (lU _ (lU _ (wW hb e)))).2.1
   cases ok with |false=>rw[bf kF]at q9⊢;exact again I9 q9 |true=>rw[bh rfl]at q9⊢;refine bc (he _ _ _ _ _ _ s9 σ8 H9 _ I9 q9) λyv m3 ⟨y,jc,xY,yW,ys,pU,hz,kW⟩=>?_;refine bc (IC _ m3 σ8 jc (.ref s2.heap.objs.size) [y] (.ref s2.heap.objs.size) [yv] (λ_ iL=>∃m',m'<n/\W (i+1) m' σ8 iL) xY Z (.cons yW .nil) ⟨_,ys,y,Z,Z,pU,hz,kW⟩) λ_ wu ⟨v11,iL,Lu,HM,yX⟩=>?_;exact again Lu yX
 exact codeAny_compStart_list loop (T.self _ 0 _ _ _ yG loop)
theorem KA:∀{bs:List Bool}{us:List Value},Vals (bs.map V.bl) us->us=bs.map Value.bool |[],_,.nil=>rfl |b::r,_,.cons q t=>by cases(show _=Value.bool b from q);rw[KA t];rfl
section
variable {X:Cx}
theorem aaS(hc:X.calm=true):fJ X (.builtin "all") (λxs H Q=>∃(l:Addr)(bs:List Bool),xs=[.ref l]/\aH X.K H l (bs.map V.bl)/\Q (.bl (bs.all id)) H):=by
 intro aw s O H xs us Q I r h;obtain⟨l,bs,rfl,hl,q⟩:=h;obtain⟨u,rfl,ru⟩:=vals1 r;cases(show u=Value.ref l from ru);obtain⟨its,rv,pl,hz⟩:=I.list hl;have e:=KA rv;subst e;have eR:=pl.isList;have cJ:l<s.heap.objs.size:=by obtain⟨_,e,_⟩:=eR;exact cC e
 have hh:=I.ok.hd hc;refine call_all_walk (DS eR ?_);refine⟨s.heap.objs.size,[s.heap.objs.size,l],[s.heap.objs.size],(bs.map Value.bool).toArray.size,_,_,λi=>(bs[i]?).getD true,Z,Walks.list (A:=X.A.in1) hh _ l (fA cJ) (bs.map Value.bool).toArray,⟨⟨_,eV _ Z,Z,Z⟩,eR.push _⟩,λi v s' Q' E' hP hQ=>?_,λh' tk hk=>?_⟩
 ·have mX:(bs.map Value.bool)[i]? =some v:=by simpa using hP
  rw[cI]at mX;cases e:bs[i]? with |none=>rw[e]at mX;cases mX |some b=>rw[e]at mX;cases mX;simp only[e,Option.getD_some]at hQ;exact qD hQ
 ·have e:((List.range (bs.map Value.bool).toArray.size).all λi=>(bs[i]?).getD true)=bs.all id:=by rw[eg,cx];exact LSm.range_all bs
  rw[e];exact⟨.bl _,H,I.kept (LSm.kept_iter hk),Z,q⟩
theorem aaR(hc:X.calm=true):fJ X (.builtin "any") (λxs H Q=>∃(l:Addr)(bs:List Bool),xs=[.ref l]/\aH X.K H l (bs.map V.bl)/\Q (.bl (bs.any id)) H):=by
 intro aw s O H xs us Q I r h;obtain⟨l,bs,rfl,hl,q⟩:=h;obtain⟨u,rfl,ru⟩:=vals1 r;cases(show u=Value.ref l from ru);obtain⟨its,rv,pl,hz⟩:=I.list hl;have e:=KA rv;subst e;have eR:=pl.isList;have cJ:l<s.heap.objs.size:=by obtain⟨_,e,_⟩:=eR;exact cC e
 have hh:=I.ok.hd hc;refine call_any_walk (DS eR ?_);refine⟨s.heap.objs.size,[s.heap.objs.size,l],[s.heap.objs.size],(bs.map Value.bool).toArray.size,_,_,λi=>(bs[i]?).getD false,Z,Walks.list (A:=X.A.in1) hh _ l (fA cJ) (bs.map Value.bool).toArray,⟨⟨_,eV _ Z,Z,Z⟩,eR.push _⟩,λi v s' Q' E' hP hQ=>?_,λh' tk hk=>?_⟩
 ·have mX:(bs.map Value.bool)[i]? =some v:=by simpa using hP
  rw[cI]at mX;cases e:bs[i]? with |none=>rw[e]at mX;cases mX |some b=>rw[e]at mX;cases mX;simp only[e,Option.getD_some]at hQ;exact qD hQ
 ·have e:((List.range (bs.map Value.bool).toArray.size).any λi=>(bs[i]?).getD false)=bs.any id:=by rw[eg,cx];exact LSm.range_any bs
  rw[e];exact⟨.bl _,H,I.kept (LSm.kept_iter hk),Z,q⟩
end
theorem sH{D:Addr}(n:Nat)(Pv:Nat->St->Hp->Prop)(h0:Pv 0 O H) (hs:∀i O H,i<n->Pv i O H->J.go i H/\∀x H2,J.jO i H x H2->g x O H2 λσ3 H3=>tt σ3 H3 λok H4=>if ok=true then te σ3 H4 λy H5=>∃ys,H5 D=some (.lst ys)/\ys.length<sizeLine/\∃m',m'<n-i/\m'=n-(i+1)/\i+1<=n/\Pv (i+1) σ3 (upd H5 D (.lst (ys++[y]))) else∃m',m'<n-i/\m'=n-(i+1)/\i+1<=n/\Pv (i+1) σ3 H4) (hd:∀O H,Pv n O H->J.stop n H/\Q (.ref D) H): j6 J g tt te Q D O H:=by
 refine⟨λi m O H=>m=n-i/\i<=n/\Pv i O H,⟨n,by simp,gy _,h0⟩,?_⟩;rintro i m O H ⟨rfl,hi,p⟩;by_cases cJ:i<n
 ·exact .inr (hs i O H cJ p)
 ·have e:i=n:=by lia
  subst e;exact .inl (hd O H p)
section
variable {X:Cx} {tg:Expr}
theorem ixK(K:aa)(h:X.K=K):qA X (λx y H Q=>Hz K x y H Q\/Hy K x y H Q):=by subst h;exact a4L.or a4J
inductive adi(K:aa)(x:V)(lo:Option Int)(hi:Option Int)(H:Hp)(Q:VK):Prop |mk (a:_)(xs:_)(h0:x= .ref a)(h1:((aH K H a xs/\∀p H',Nw H H' p (.lst (lO xs lo hi))->Q (.ref p) H')\/ (aR K H a xs/\¬(HT.cB xs.length 0 lo=0/\HT.cB xs.length xs.length hi=xs.length)/\∀p H',Nw H H' p (.tup (lO xs lo hi))->Q (.ref p) H')))
def Hv(K:aa):V->Option Int->Option Int->Hp->VK->Prop:=λx lo hi H Q=>adi K x lo hi H Q
theorem qO(K:aa)(h:X.K=K):DF X (Hv K):=by
 subst h;intro aw s O H x v vl vu lo hi sl Q I rx hs pl pu hq;obtain⟨a,xs,e,hq⟩:=hq;rcases hq with⟨h1,k⟩|⟨h1,h2,k⟩
 ·exact YB aw s O H x v vl vu lo hi sl Q I rx hs pl pu ⟨a,xs,e,h1,λp hp=>k p _ (.of hp)⟩
 ·exact YA aw s O H x v vl vu lo hi sl Q I rx hs pl pu ⟨a,xs,e,h1,h2,λp hp=>k p _ (.of hp)⟩
theorem a4o(K:aa)(h:X.K=K):fJ X (.builtin "len") (λxs H Q=>∃p ys,xs=[.ref p]/\(aH K H p ys\/aR K H p ys)/\Q (.int ys.length) H):=by subst h;exact aaO
theorem a4R(K:aa)(h:X.K=K):fJ X (.builtin "isinstance") (λxs H Q=>HK K xs H Q\/HH K xs H Q):=by subst h;exact aaQ.or aaP
theorem cY(K:aa)(h:X.K=K)(hu:X.A.units+64<cLine):dF X (compareOp .Eq) (λx y H Q=>kI (λi j=>.bl (decide (i=j))) x y H Q\/HL K x y H Q):=by subst h;exact a1x hu
theorem jB(K:aa)(h:X.K=K)(hu:X.A.units+64<cLine):dF X (compareOp .NotEq) (λx y H Q=>kI (λi j=>.bl (!decide (i=j))) x y H Q\/Hx K x y H Q):=by subst h;exact a1r hu
theorem qy(K:aa)(h:X.K=K)(hc:X.calm=true):fJ X (.builtin "all") (λxs H Q=>∃(l:Addr)(bs:List Bool),xs=[.ref l]/\aH K H l (bs.map V.bl)/\Q (.bl (bs.all id)) H):=by subst h;exact aaS hc
theorem Vq(K:aa)(h:X.K=K)(hc:X.calm=true):fJ X (.builtin "any") (λxs H Q=>∃(l:Addr)(bs:List Bool),xs=[.ref l]/\aH K H l (bs.map V.bl)/\Q (.bl (bs.any id)) H):=by subst h;exact aaR hc
theorem Ce(K:aa)(h:X.K=K):fJ X (.type "list") (λxs H Q=>∃p ys,xs=[.ref p]/\(aH K H p ys\/aR K H p ys)/\∀l H',Nw H H' l (.lst ys)->Q (.ref l) H'):=by subst h;intro aw s O H xs us Q I r hq;obtain⟨p,ys,e,h1,k⟩:=hq;exact aaM aw s O H xs us Q I r ⟨p,ys,e,h1,λl hl=>k l _ (.of hl)⟩
theorem kX(K:aa)(h:X.K=K):fJ X (.type "tuple") (λxs H Q=>∃p ys,xs=[.ref p]/\((aH K H p ys/\∀l H',Nw H H' l (.tup ys)->Q (.ref l) H')\/(aR K H p ys/\Q (.ref p) H))):=by subst h;intro aw s O H xs us Q I r hq;obtain⟨p,ys,e,h1⟩:=hq;exact aaI aw s O H xs us Q I r ⟨p,ys,e,h1.imp (λ⟨a,k⟩=>⟨a,λl hl=>k l _ (.of hl)⟩) id⟩
def Bj(t:TA):TE:=λO H Q=>t O H λxs H1=>xs.length<=sizeLine/\∀p H',Nw H1 H' p (.tup xs)->Q (.ref p) H'
def MK(t:TA):TE:=λO H Q=>t O H λxs H1=>xs.length<=sizeLine/\∀p H',Nw H1 H' p (.lst xs)->Q (.ref p) H'
theorem ck{t:TA}{x1}(h:PA X es t):PE X (.Tuple es x1 pos) (Bj t):=by intro aw s O H Q I hq;refine wpAny_Tuple_spliced (bc (h pos aw s O H _ I hq) λus s1 ⟨xs,H1,I1,r,z,q⟩=>⟨by rw[<-r.length];exact z,?_⟩);have hf:H1 s1.heap.objs.size=none:=I1.aY.fresh (bK _);refine⟨.ref s1.heap.objs.size,upd H1 s1.heap.objs.size (.tup xs),I1.laid (t':=s1.toks) (λb u e=>cy _ e) (bK _) ?_,Z,q _ _ (.of hf)⟩;exact⟨z,us,r,⟨_,eV _ Z,Z,_,Z⟩⟩
theorem cK{t:TA}(h:PA X es t):PE X (.List es pos) (MK t):=by intro aw s O H Q I hq;refine wpAny_List_spliced (bc (h pos aw s O H _ I hq) λus s1 ⟨xs,H1,I1,r,z,q⟩=>⟨by rw[<-r.length];exact z,?_⟩);have hf:H1 s1.heap.objs.size=none:=I1.aY.fresh (bK _);refine⟨.ref s1.heap.objs.size,upd H1 s1.heap.objs.size (.lst xs),I1.laid (t':=s1.toks) (λb u e=>cy _ e) (bK _) ?_,Z,q _ _ (.of hf)⟩;exact⟨z,us,0,r,eV _ Z⟩
theorem yZ(K:aa)(h:X.K=K){l:Expr}{tl:TE}(hl:PE X l tl):PI X tg l (Se K tl):=by subst h;exact a0M hl
theorem pH(K:aa)(h:X.K=K){l:Expr}{tl:TE}(hl:PE X l tl):PI X tg l (Sd K tl):=by subst h;exact a0I hl
theorem eG(K:aa)(h:X.K=K){es:List Expr}{k:Nat}{t:oP}{n:Nat}{pos:Pos}(hc:X.calm=true)(hg:Av X es t)(hn:(assignEach es X.env).length=n:=by rfl)(gD:(assignEach es X.env).findIdx? (·.1)=none:=by rfl): PG X (.Tuple es k pos) (qi K n t):=by subst h;exact a0O hc hg hn gD
theorem jW(K:aa)(h:X.K=K){o e:Expr}{to:TE}{t:TA}{apos cD:Pos}(ho:PE X o to)(ha:PA X [e] t) (jr:attributeBase o "append" X.env (eval o X.env)=eval o X.env:=by rfl) (lJ:((backTo cD (starEach [e] X.env)).all (λx=>!x.1)&&(backToKw cD (keywordEach [] X.env)).all (λx=>x.1.isSome) &&decide ([e].length+([]:List Keyword).length+(if([]:List Keyword).isEmpty then 0 else 1)<30))=true:=by rfl) (jo:(apos.endLine==cD.line)=true:=by rfl)(hs:starEach [e] X.env=(false,eval e X.env)::starEach [] X.env:=by rfl)(lG:(backTo cD (starEach [] X.env)).any (·.1)=false:=by rfl): PE X (.Call (.Attribute o "append" apos) [e] [] cD) (tP K "list" Q0 to t):=by subst h;exact wB AJ PySem.F.slot_list_append PySem.F.type_list_append IC ho ha jr lJ jo hs lG
theorem B7{j:Nat}{x:V}{O:St}{H:Hp}{A B:St->Hp->Prop}(h:A (O.set j (some x)) H):fo j x O H λσ3 H3=>ir σ3 H3 λok H4=>if ok=true then A σ3 H4 else B σ3 H4:=by show if true=true then A (O.set j (some x)) H else B (O.set j (some x)) H;rw[bh rfl];exact h
theorem yes(h:Q true H):ir O H Q:=h
end
theorem aH.go{K:aa}(s:aF H H')(h:aH K H a xs):aH K H' a xs:=h.imp (λr=>r.imp (s _ _) λ⟨o,e⟩=>⟨o,s _ _ e⟩) id
theorem aR.go{K:aa}(s:aF H H')(h:aR K H a xs):aR K H' a xs:=h.imp (λr=>r.imp (s _ _) λ⟨o,e⟩=>⟨o,s _ _ e⟩) id
mutual
theorem RD.mono{K:aa}{H H':Hp}(s:aF H H'):∀{x:V}(d:ai),RD K H x d->RD K H' x d |x,.none,h=>by simpa[RD]using h |x,.bool b,h=>by simpa[RD]using h |x,.int i,h=>by simpa[RD]using h |x,.str y,h=>by simpa[RD]using h |x,.list ds,h=>by rw[RD]at h⊢;obtain⟨a,xs,e,h1,h2⟩:=h;exact⟨a,xs,e,h1.go s,aJ.mono s ds h2⟩ |x,.tuple ds,h=>by rw[RD]at h⊢;obtain⟨a,xs,e,h1,h2⟩:=h;exact⟨a,xs,e,h1.go s,aJ.mono s ds h2⟩ |x,.dict _,h=>by simp[RD]at h
theorem aJ.mono {K:aa}{H H':Hp}(s:aF H H'):∀{xs:List V}(ds:List ai),aJ K H xs ds->aJ K H' xs ds |xs,[],h=>by simpa[aJ]using h |xs,d::ds,h=>by rw[aJ]at h⊢;obtain⟨y,ys,e,h1,h2⟩:=h;exact⟨y,ys,e,RD.mono s d h1,aJ.mono s ds h2⟩
end
section
variable {K:aa} {H H':Hp}
theorem aJ.nil_inv(h:aJ K H xs []):xs=[]:=by simpa[aJ]using h
theorem aJ.cons_inv(h:aJ K H xs (d::ds)):∃y ys,xs=y::ys/\RD K H y d/\aJ K H ys ds:=by rw[aJ]at h;exact h
theorem RD.dS(h:RD K H x (.tuple ds)):∃a xs,x= .ref a/\aR K H a xs/\aJ K H xs ds:=by rw[RD]at h;exact h
theorem RD.lst_inv(h:RD K H x (.list ds)):∃a xs,x= .ref a/\aH K H a xs/\aJ K H xs ds:=by rw[RD]at h;exact h
theorem RD.int_inv(h:RD K H x (.int i)):x= .int i:=by rw[RD]at h;exact h
theorem RD.ab3(h:RD K H x (.bool i)):x= .bl i:=by rw[RD]at h;exact h
theorem RD.str_inv(h:RD K H x (.str i)):x= .str i:=by rw[RD]at h;exact h
theorem RD.QE(h:RD K H x .none):x= .bB:=by rw[RD]at h;exact h
theorem aJ.length:∀{xs:List V}{ds:List ai},aJ K H xs ds->xs.length=ds.length |xs,[],h=>by rw[h.nil_inv];rfl |xs,d::ds,h=>by obtain⟨y,ys,rfl,_,h2⟩:=h.cons_inv;rw[jM,jM,aJ.length h2]
theorem aJ.append:∀{xs ys:List V}{ds es:List ai},aJ K H xs ds->aJ K H ys es->aJ K H (xs++ys) (ds++es) |xs,ys,[],es,h,g=>by rw[h.nil_inv];exact g |xs,ys,d::ds,es,h,g=>by obtain⟨y,zs,rfl,h1,h2⟩:=h.cons_inv;exact bW h1 (aJ.append h2 g)
theorem aJ.drop:∀(n:Nat){xs:List V}{ds:List ai},aJ K H xs ds->aJ K H (xs.drop n) (ds.drop n) |0,xs,ds,h=>h |n+1,xs,[],h=>by rw[h.nil_inv];exact cU |n+1,xs,d::ds,h=>by obtain⟨y,zs,rfl,h1,h2⟩:=h.cons_inv;exact aJ.drop n h2
theorem aJ.get:∀(n:Nat){xs:List V}{ds:List ai}{d:ai},aJ K H xs ds->ds[n]? =some d->∃x,xs[n]? =some x/\RD K H x d
 |n,xs,[],d,h,e=>by simp at e |0,xs,d'::ds,d,h,e=>by
  obtain⟨y,zs,rfl,h1,h2⟩:=h.cons_inv;have e':d'=d:=by simpa using e
  subst e';exact⟨y,Z,h1⟩ |n+1,xs,d'::ds,d,h,e=>by obtain⟨y,zs,rfl,h1,h2⟩:=h.cons_inv;exact aJ.get n h2 (by simpa using e)
theorem aJ.get'(n:Nat){xs:List V}{ds:List ai}{x:V}(h:aJ K H xs ds)(e:xs[n]? =some x):∃d,ds[n]? =some d/\RD K H x d:=by
 have hl:n<ds.length:=by rw[<-h.length];exact(eh.mp e).1
 obtain⟨y,e1,r⟩:=h.get n (cn hl);rw[e]at e1;cases e1;exact⟨_,cn hl,r⟩
def nK:ai->String | .none=>"NoneType" | .bool _=>"bool" | .int _=>"int" | .str _=>"str" | .list _=>"list" | .tuple _=>"tuple" | .dict _=>"dict"
theorem RD.ty{x:V}:∀{d:ai},RD K H x d->vk K H x (nK d) | .none,h=>by rw[h.QE];rfl | .bool b,h=>by rw[h.ab3];rfl | .int b,h=>by rw[h.int_inv];rfl | .str b,h=>by rw[h.str_inv];rfl | .list ds,h=>by obtain⟨a,xs,rfl,h1,_⟩:=h.lst_inv;exact .inl ⟨Z,xs,h1⟩ | .tuple ds,h=>by obtain⟨a,xs,rfl,h1,_⟩:=h.dS;exact .inr ⟨Z,xs,h1⟩ | .dict _,h=>by simp[RD]at h
structure cZ(n:Nat)(d:ai):Prop where
 lay:d.canLay0=true
 dep:d.depth<=n
def gu(n:Nat)(ds:List ai):Prop:=∀d∈ds,cZ n d
theorem cZ.le(h:cZ n d)(l:n<=m):cZ m d:=⟨h.lay,gM h.dep l⟩
theorem rj{n:Nat}:∀{ds:List ai},gu n ds↔(PyData.canLayAll0 ds=true/\PyData.depthAll ds<=n)
 |[]=>⟨λ_=>⟨Z,gy _⟩,λ_ _ h=>nomatch h⟩ |d::ds=>by
  have ih:=rj (n:=n) (ds:=ds);simp only[PyData.canLayAll0,PyData.depthAll,fq];constructor
  ·intro h
   have h1:=h d (.head _);have h2:=ih.mp λx hx=>h x (.tail _ hx);exact⟨⟨h1.lay,h2.1⟩,Nat.max_le.mpr ⟨h1.dep,h2.2⟩⟩
  ·rintro⟨⟨a,b⟩,c⟩ x hx
   have c':=Nat.max_le.mp c;rcases bL.mp hx with rfl|hx
   ·exact⟨a,c'.1⟩
   ·exact ih.mpr ⟨b,c'.2⟩ x hx
theorem gu.tup(h:gu n ds):cZ (n+1) (.tuple ds):=⟨by simpa[PyData.canLay0]using(rj.mp h).1,by simpa[PyData.depth]using(rj.mp h).2⟩
theorem gu.lst{n:Nat}{ds:List ai}(h:gu n ds):cZ (n+1) (.list ds):=⟨by simpa[PyData.canLay0]using(rj.mp h).1,by simpa[PyData.depth]using(rj.mp h).2⟩
theorem cZ.dS(h:cZ (n+1) (.tuple ds)):gu n ds:=rj.mpr ⟨by simpa[PyData.canLay0]using h.lay,by simpa[PyData.depth]using h.dep⟩
theorem cZ.int(i:Int):cZ n (.int i):=⟨Z,gy _⟩
theorem gu.nil:gu n []:=λ_ h=>nomatch h
theorem gu.cons{n:Nat}{d:ai}{ds:List ai}(h:cZ n d)(g:gu n ds):gu n (d::ds):=λx hx=>by
 rcases bL.mp hx with rfl|hx
 ·exact h
 ·exact g x hx
theorem cZ.shaped(h:cZ n d)(l:n<=64):SeqAt.shaped d=true:=by unfold SeqAt.shaped;rw[h.lay,kE];exact cP (gM h.dep l)
theorem cZ.refl(h:cZ n d):PyData.eqv d d=true:=eqv_refl d h.lay
def del(H:Hp)(p:Addr):Hp:=λb=>if b=p then none else H b
theorem UB:del H p b=some o↔b≠p/\H b=some o:=by
 unfold del;by_cases e:b=p
 ·rw[bh e];simp[e]
 ·rw[bf e];simp[e]
variable {p:Addr}{n m:Nat}{v:V}{vs:List V}{d:ai}{ds es:List ai}
end
section
variable {X:Cx}
end
end L2
namespace HT
open PySem PySem.Spec PyProof.Rows
section
variable {prog:ah}{w:World}{A:aj}{E:Value->ae->Prop}{s:ae}
end
end HT
namespace L2
open PySem PySem.Spec PyProof.Rows
section
variable {X:Cx}
end
end L2
namespace L2
theorem dC{v:α}(h0:0<=i)(h:xs[i.toNat]? =some v):fP xs i=some v:=by have hl:i.toNat<xs.length:=(eh.mp h).1;unfold fP jD;rw[bh h0,bh au];exact h
end L2
namespace L2
open PySem PySem.Spec PyProof.Rows
theorem yL(n:Nat)(h:n<=1000):n<=sizeLine:=gM h aA
section
variable {X:Cx}{p pos pos':Pos}{a b e:Expr}{es:List Expr}{ta tb te:TE}{t:TA}{x:Str}
theorem px(K:aa)(ha:PE X a ta)(hb:PE X b tb)(hK:X.K=K:=by rfl)(hp:VS b:=by exact λ_ _=>rfl):PE X (.Subscript a b pos) (nL (λx y H Q=>Hz K x y H Q\/Hy K x y H Q) ta tb):=Qd (ixK K hK) ha hb hp
theorem dX(K:aa)(B:bV X.mg)(ha:PA X (e::es) t)(hK:X.K=K:=by rfl)(hg:Gl X "isinstance":=by rfl)(he:starEach (e::es) X.env=(false,eval e X.env)::starEach es X.env:=by rfl)(gE:(backTo pos (starEach es X.env)).any (·.1)=false:=by rfl):PE X (.Call (.Name "isinstance" p) (e::es) [] pos) (yC (λxs H Q=>HK K xs H Q\/HH K xs H Q) t):=dM (a4R K hK) hg (B.at "isinstance") vz ha aA aA he gE
theorem eL(K:aa)(B:bV X.mg)(ha:PA X (e::es) t)(hK:X.K=K:=by rfl)(hg:Gl X "len":=by rfl)(he:starEach (e::es) X.env=(false,eval e X.env)::starEach es X.env:=by rfl)(gE:(backTo pos (starEach es X.env)).any (·.1)=false:=by rfl):PE X (.Call (.Name "len" p) (e::es) [] pos) (yC (λxs H Q=>∃p ys,xs=[.ref p]/\(aH K H p ys\/aR K H p ys)/\Q (.int ys.length) H) t):=dM (a4o K hK) hg (B.at "len") PySem.boot_len ha aA aA he gE
theorem pS(i:Nat)(hN:X.N.Nodup)(he:PE X e te)(hi:X.N[i]? =some x:=by rfl)(hx:Loc X.env.scope x:=by first|exact Or.inl rfl|exact Or.inr rfl)(hs:swapsWith e (some (.Name x pos')) pos.line X.env=pure false:=by rfl)(hf:X.fn x=true\/X.env.scope.names.lookup x=some .local:=by first|exact .inl rfl|exact .inr rfl|assumption):PS X (.Assign [.Name x pos'] e pos) (yD te (fo i)):=a0w hN hi hx he hs hf
theorem bp(i:Nat)(hN:X.N.Nodup)(hi:X.N[i]? =some x:=by rfl)(hx:Loc X.env.scope x:=by first|exact Or.inl rfl|exact Or.inr rfl)(hf:X.fn x=true\/X.env.scope.names.lookup x=some .local:=by first|exact .inl rfl|exact .inr rfl|assumption):PG X (.Name x pos) (fo i):=a0P hN hi hx hf
theorem uu (a:Str):[a].Nodup:=by simp
theorem fF{a b:Str}(h:(a==b)=false):[a,b].Nodup:=by
 have:a≠b:=λz=>by rw[z,E1]at h;cases h
 simp[this]
theorem bT{n:Nat}(h:Nat.ble n 1000=true):n<=sizeLine:=yL n (AL h)
end
def GV(mg:bJ)(x:Str)(v:V):Prop:=∃u,mg x=some u/\RelV v u
def GT(K:aa)(mg:bJ)(x:Str)(vs:List V):Prop:=∃a,GV mg x (.ref a)/\∀H,aR K H a vs
theorem fm{v:V}(hg:Gl X x)(h:GV X.mg x v)(hd:(x==("__debug__":Str))=false:=by decide):PE X (.Name x pos) (tC v):=by obtain⟨u,hm,r⟩:=h;exact a0X hg hm r hd
section
variable {K:aa} {mg:bJ} {h:Heap}
theorem rY{t:Tok}(X:K.In h)(G:h.Ns mainGlobals mg)(a:PySem.W.nsIn K mainGlobals x=some (some (.int i t))):GV mg x (.int i):=⟨_,vy X G a,t,Z⟩
theorem Ta(X:K.In h)(G:h.Ns mainGlobals mg)(a:PySem.W.nsIn K mainGlobals x=some (some (.ref b))) (l:K.lookup b=some ⟨.type "tuple",od,.seq its n,fR⟩)(hz:its.size<=sizeLine)(r:Vals vs its.toList):GT K mg x vs:=⟨b,⟨_,vy X G a,Z⟩,λH=>.inr ⟨_,its,n,l,Z,Z,hz,r⟩⟩
end
section
variable {X:Cx}
end
theorem Kx{J:It}{xs:List V}{bs:List Bool}{te:TE}{Q:VK}{D:Addr}{H H0:Hp}(rest:St)(nw:Nw H H0 D (.lst []))(hl:xs.length=bs.length)(hz:xs.length<=1000) (go:∀i x H2,xs[i]? =some x->aF H H2->J.go i H2/\∀y H3,J.jO i H2 y H3->H3=H2/\y=x)(stop:∀H2,aF H H2->J.stop xs.length H2) (hs:∀(i:Nat)(x:V)(b:Bool)(H2:Hp)(Q':VK),xs[i]? =some x->bs[i]? =some b->aF H H2->(∀H3,aF H2 H3->Q' (.bl b) H3)->te (some x::rest) H2 Q') (hq:∀H',aF H H'->H' D=some (.lst (bs.map V.bl))->Q (.ref D) H'):j6 J (fo 0) ir te Q D (none::rest) H0:=by
 have hD:=nw.no;refine sH xs.length (λi O H2=>aF H H2/\H2 D=some (.lst ((bs.take i).map V.bl))/\∃v,O=v::rest) ?_ ?_ ?_
 ·exact⟨nw.same,nw.at',none,Z⟩
 ·rintro i O H2 hi ⟨s2,d2,v,rfl⟩
  have xp:i<bs.length:=by rw[<-hl];exact hi
  have ex:=cn hi;have eb:=cn xp;obtain⟨g1,g2⟩:=go i _ H2 ex s2;refine⟨g1,λy H3 hy=>?_⟩;obtain⟨rfl,rfl⟩:=g2 y H3 hy;refine B7 ?_;refine hs i _ _ _ _ ex eb s2 λH4 s4=>?_;refine⟨_,s4 _ _ d2,?_,xs.length-(i+1),au,Z,au,λb o e=>?_,?_,_,Z⟩
  ·rw[cx,oY]
   have:(1000:Nat)<sizeLine:=by decide
   lia
  ·rw[aO (fT e hD)];exact s4 b o (s2 b o e)
  ·rw[bo,qH,eb,oX];rfl
 ·rintro O H2 ⟨s2,d2,v,rfl⟩
  refine⟨stop H2 s2,hq H2 s2 ?_⟩;rw[d2,hl,yh]
theorem UN{K:aa}{bs:List Bool}{D:Addr}(rest:St)(hx:aR K H a xs)(nw:Nw H H0 D (.lst []))(hl:xs.length=bs.length)(hz:xs.length<=1000) (hs:∀(i:Nat)(x:V)(b:Bool)(H2:Hp)(Q':VK),xs[i]? =some x->bs[i]? =some b->aF H H2->(∀H3,aF H2 H3->Q' (.bl b) H3)->te (some x::rest) H2 Q') (hq:∀H',aF H H'->H' D=some (.lst (bs.map V.bl))->Q (.ref D) H'):j6 (qB K a) (fo 0) ir te Q D (none::rest) H0:=Kx rest nw hl hz (λi x H2 e s=>⟨⟨xs,x,hx.go s,e⟩,λy H3 ⟨e3,y3⟩=>⟨e3,by have:=y3 _ (hx.go s);rw[e]at this;exact(dQ this).symm⟩⟩) (λH2 s=>⟨xs,hx.go s,bK _⟩) hs hq
theorem aax{K:aa}{bs:List Bool}{D:Addr}(rest:St)(hx:aH K H a xs)(nw:Nw H H0 D (.lst []))(hl:xs.length=bs.length)(hz:xs.length<=1000) (hs:∀(i:Nat)(x:V)(b:Bool)(H2:Hp)(Q':VK),xs[i]? =some x->bs[i]? =some b->aF H H2->(∀H3,aF H2 H3->Q' (.bl b) H3)->te (some x::rest) H2 Q') (hq:∀H',aF H H'->H' D=some (.lst (bs.map V.bl))->Q (.ref D) H'):j6 (sQ K a) (fo 0) ir te Q D (none::rest) H0:=Kx rest nw hl hz (λi x H2 e s=>⟨⟨xs,x,hx.go s,e⟩,λy H3 ⟨e3,y3⟩=>⟨e3,by have:=y3 _ (hx.go s);rw[e]at this;exact(dQ this).symm⟩⟩) (λH2 s=>⟨xs,hx.go s,bK _⟩) hs hq
theorem Ri{ds:List ai}{f:ai->Bool}{i:Nat}{b:Bool}(h:(ds.map f)[i]? =some b):∃d,ds[i]? =some d/\f d=b:=by rw[cI]at h;cases e:ds[i]? with |none=>rw[e]at h;cases h |some d=>rw[e]at h;exact⟨d,Z,dQ h⟩
theorem all_map{ds:List ai}{f:ai->Bool}:(ds.map f).all id=ds.all f:=by rw[LX];rfl
section
variable {X:Cx}
inductive adD(K:aa)(x:V)(y:V)(H:Hp)(Q:VK):Prop |mk (a:_)(b:_)(xs:_)(ys:_)(h0:x= .ref a)(h1:y= .ref b)(h2:aH K H a xs)(h3:aH K H b ys)(h4:xs.length+ys.length<=sizeLine)(h5:∀p H',Nw H H' p (.lst (xs++ys))->Q (.ref p) H')
def PZ(K:aa):R2:=λx y H Q=>adD K x y H Q
theorem ku(K:aa)(hK:X.K=K):dF X (binaryOp .Add) (PZ K):=by
 subst hK;intro aw s O H x y v u Q I rx ry h;obtain⟨a,b,xs,ys,rfl,rfl,ha,hb,hz,q⟩:=h;cases rx;cases ry;obtain⟨its,r1,p1,_⟩:=I.list ha;obtain⟨lF,r2,p2,_⟩:=I.list hb;obtain⟨⟨cls,dd,data,sl⟩,n,ho,hc,hdd,hd⟩:=id p1;obtain⟨⟨UT,xQ,data2,qP⟩,n2,kN,mi,afa,hd2⟩:=id p2;simp only at hc hd mi hd2;subst hc hd mi hd2;have e:its.toArray++lF.toArray=(its++lF).toArray:=by simp
 refine concat_meets ⟨_,ho,Z⟩ ⟨_,kN,Z⟩ noFill_list_add seq_list_add PySem.F.slot_list_add PySem.F.entry_list_add (PySem.F.args_list_add_2 _ _) (list_addW a b its.toArray lF.toArray n n2 dd xQ sl qP (by rw[eg,eg,<-r1.length,<-r2.length];exact hz)) ⟨ho,kN,?_⟩;rw[e];have nw:Nw H (upd H s.heap.objs.size (.lst (xs++ys))) s.heap.objs.size (.lst (xs++ys)):=.of (I.aY.fresh (bK _));refine⟨.ref s.heap.objs.size,_,I.laid (t':=s.toks) (o:=.lst (xs++ys)) (λb ob q=>cy _ q) (bK _) ?_,Z,q _ _ nw⟩;exact⟨by rw[fC];exact hz,_,0,r1.append r2,eV _ Z⟩
open Classical in
noncomputable def uX(h:Heap)(d:ai)(w:Value):Bool:=if q:∃e as,Reads h w e as then PyData.eqv q.choose d else false
theorem a9H{h:Heap}{d e:ai}{w:Value}{as:List Addr}(r:Reads h w e as):uX h d w=PyData.eqv e d:=by have q:∃e as,Reads h w e as:=⟨e,as,r⟩;unfold uX;rw[dif_pos q];obtain⟨as',r'⟩:=q.choose_spec;rw[(Reads.unique r' e as r).1]
theorem U7{aw:List (Addr×Obj)}{s:ae}{O:St}{H:Hp}(I:Inv X aw O H s)(hu:X.A.units+65<cLine){x:V}{u:Value}{d:ai}(rx:RelV x u)(hd:RD X.K H x d)(sd:SeqAt.shaped d=true): ∀{xs:List V}{us:List Value}{ds:List ai},Vals xs us->aJ X.K H xs ds->(∀e∈ds,SeqAt.shaped e=true)->(∀w∈us,SeqAt.EqAt X.A.in1 s w u (uX s.heap d w))/\us.any (uX s.heap d)=ds.any λe=>PyData.eqv e d |xs,us,[],rv,h,_=>by cases h.nil_inv;cases rv;exact⟨λ_ h=>(cE h).elim,Z⟩ |xs,us,e::ds,rv,h,se=>by obtain⟨y,ys,rfl,h1,h2⟩:=h.cons_inv;cases rv with |cons ra rb=>
 rename_i w ws;obtain⟨as,q1⟩:=RD.reads I e ra h1;obtain⟨bs,q2⟩:=RD.reads I d rx hd;have key:SeqAt.EqAt X.A.in1 s w u (PyData.eqv e d):=SeqAt.eqAt_reads e d X.A.in1 s w u as bs q1 q2 (Wb (se e (.head _))) (Wb sd) (SeqAt.room_of_shaped (se e (.head _)) (by show X.A.units+1+64<cLine;omega));obtain⟨k1,k2⟩:=U7 I hu rx hd sd rb h2 (λe' he=>se e' (.tail _ he));have ew:uX s.heap d w=PyData.eqv e d:=a9H q1;refine⟨λz hz=>?_,?_⟩
 ·rcases bL.mp hz with rfl|hz
  ·rw[ew];exact key
  ·exact k1 z hz
 ·rw[vK,vK,ew,k2]
end
end L2
namespace L2
theorem cN.Xh{k:Nat}{A:PySem.Around}(r:cN k A):A.units+65<PySem.cLine:=by have:=r.un;lia
end L2
namespace L2
open PySem PySem.Spec PyProof.Rows
def kx(b:Bool)(h:Heap)(it l:Addr)(k:Nat):Prop:=match b with|true=>h.IsListIter it l k|false=>h.IsTupleIter it l k
def hZ(b:Bool)(h:Heap)(l:Addr)(xs:Array Value):Prop:=match b with|true=>h.IsList l xs|false=>h.IsTuple l xs
def sJ(b:Bool):String:=match b with|true=>"list_iterator"|false=>"tuple_iterator"
theorem kx.to{it:Addr}{k:Nat}(x:kx b h it l k)(e:∀o,h.get? it=some o->g.get? it=some o):kx b g it l k:=by cases b<;>(obtain⟨o,ho,r⟩:=x;exact⟨o,e o ho,r⟩)
theorem hZ.to(x:hZ b h l xs)(e:∀o,h.get? l=some o->g.get? l=some o):hZ b g l xs:=by cases b<;>(obtain⟨o,ho,r⟩:=x;exact⟨o,e o ho,r⟩)
theorem kx.ob{it:Addr}{k:Nat}(x:kx b h it l k):∃o,h.get? it=some o/\o.cls= .type (sJ b)/\∀v,o.data≠ .cell v:=by cases b<;>(obtain⟨o,ho,c,d⟩:=x;exact⟨o,ho,c,λv z=>by rw[d]at z;cases z⟩)
section
variable {prog:ah}{w:World}{A:aj}{E:Value->ae->Prop}{s:ae}
theorem wN{b:Bool}{l:Addr}{xs:Array Value}{Q:Value->ae->Prop}(x:hZ b s.heap l xs) (q:Q (.ref s.heap.objs.size) {s with heap:=s.heap.push {cls:=.type (sJ b),data:=.fields #[.ref l,.int 0 0]}}):wpAny (model prog w) A (pyIter (.ref l)) Q E s:=by
 cases b
 ·exact wpAny_pyIter_tuple x q
 ·exact DS x q
theorem a36{it t:Addr}{k:Nat}{ts:Array Value}{x:Value}{Q:Value->ae->Prop}(hi:s.heap.IsTupleIter it t k)(ht:s.heap.IsTuple t ts)(hx:ts[k]? =some x) (q:∀g,g.IsTupleIter it t (k+1)->Heap.SameBut it s.heap g->Q x {s with heap:=g}):wpAny (model prog w) A (Builtin.SmallTypes.nextOf (.ref it)) Q E s:=by obtain⟨oi,lH,ci,di⟩:=id hi;obtain⟨ot,Jh,_,nt,dt⟩:=ht;unfold Builtin.SmallTypes.nextOf;refine aK (DW (name:=Str.ofString "__next__") hi.typeIs LJ (DV LJ hi.typeIs ae4 ?_ (ae5 _)));show wpAny _ _ (field (.ref it) 0>>=_) _ _ s;refine aK (jw lH di (x:=.ref t) Z ?_);show wpAny _ _ (if(Value.ref t==Value.none)=true then _ else _) _ _ s;rw[bf (show¬((Value.ref t==Value.none)=true)from kF)];show wpAny _ _ (field (.ref it) 1>>=_) _ _ s;refine aK (jw lH di (x:=.int k 0) Z ?_);show wpAny _ _ (seqItems? (.ref t)>>=_) _ _ s;refine aK (vv Jh dt ?_);simp only[LZ,hx];refine aK (DR lH di (by simp) (cf ⟨x,Z,cf (q _ ?_ (Heap.SameBut.update ..))⟩));exact⟨_,Ef _ lH (Wy (E5 di _)),(Obj.cls_mapFields ..).trans ci,by rw[E5 di];simp[rawInt]⟩
theorem a9O{it t:Addr}{k:Nat}{ts:Array Value}{Q:Value->ae->Prop}(hh:A.handled=none)(hi:s.heap.IsTupleIter it t k)(ht:s.heap.IsTuple t ts)(hx:ts[k]? =none) (q:∀g e,Heap.ExtBut it s.heap g->(∃o,g.get? e=some o/\o.cls= .type "StopIteration")->E (.ref e) {s with heap:=g}):wpAny (model prog w) A (Builtin.SmallTypes.nextOf (.ref it)) Q E s:=by
 obtain⟨oi,lH,ci,di⟩:=id hi;obtain⟨ot,Jh,_,nt,dt⟩:=ht;unfold Builtin.SmallTypes.nextOf;refine aK (DW (name:=Str.ofString "__next__") hi.typeIs LJ (DV LJ hi.typeIs ae4 ?_ (ae5 _)));show wpAny _ _ (field (.ref it) 0>>=_) _ _ s;refine aK (jw lH di (x:=.ref t) Z ?_);show wpAny _ _ (if(Value.ref t==Value.none)=true then _ else _) _ _ s;rw[bf (show¬((Value.ref t==Value.none)=true)from kF)];show wpAny _ _ (field (.ref it) 1>>=_) _ _ s;refine aK (jw lH di (x:=.int k 0) Z ?_);show wpAny _ _ (seqItems? (.ref t)>>=_) _ _ s;refine aK (vv Jh dt ?_);simp only[LZ,hx];refine aK (wpAny_rule (aK (DR lH di (by simp) ?_)));show wpAny _ _ (newExc (.type "StopIteration") []>>=_) _ _ _;refine aK ?_;simp only[newExc,newTuple];refine aK (qE ?_ (by size_fits));refine aK (m:=firstArgMember _ _) (AF (a:=Value.none) (by first|rfl|(simp only[firstArgMember];rfl)) ?_);refine qE ?_ (by size_fits);simp only[raiseNew];refine aK (wpAny_handled ?_)
 first|rw[show A.in1.handled=none from hh]|rw[hh]
 exact aK (cf (wpAny_throw (q _ _ (((Heap.SameBut.update ..).extBut.push _).push _) ⟨_,eV _ Z,Z⟩)))
theorem BW{b:Bool}{it l:Addr}{k:Nat}{xs:Array Value}{x:Value}{Q:Value->ae->Prop}(hi:kx b s.heap it l k)(hl:hZ b s.heap l xs)(hx:xs[k]? =some x) (q:∀g,kx b g it l (k+1)->Heap.SameBut it s.heap g->Q x {s with heap:=g}):wpAny (model prog w) A (Builtin.SmallTypes.nextOf (.ref it)) Q E s:=by
 cases b
 ·exact a36 hi hl hx q
 ·exact wpAny_nextOf_list_item hi hl hx q
theorem Kg{b:Bool}{it l:Addr}{k:Nat}{xs:Array Value}{Q:Value->ae->Prop}(hh:A.handled=none)(hi:kx b s.heap it l k)(hl:hZ b s.heap l xs)(hx:xs[k]? =none) (q:∀g e,Heap.ExtBut it s.heap g->(∃o,g.get? e=some o/\o.cls= .type "StopIteration")->E (.ref e) {s with heap:=g}):wpAny (model prog w) A (Builtin.SmallTypes.nextOf (.ref it)) Q E s:=by
 cases b
 ·exact a9O hh hi hl hx q
 ·exact wpAny_nextOf_list_end hh hi hl hx q
structure Zp(b1 b2:Bool)(h:Heap)(z TI TO i1 i2 l1 l2:Addr)(f0:Value)(k:Nat):Prop where
 zz:IsZip h z TI TO f0
 ti:IsPair h TI (.ref i1) (.ref i2)
 to:∃a b,IsPair h TO a b
 n1:kx b1 h i1 l1 k
 n2:kx b2 h i2 l2 k
theorem Qm{z TI TO:Addr}{Q:Bool->ae->Prop}(hz:IsZip s.heap z TI TO .none)(q:Q true s):wpAny (model prog w) A (Builtin.SmallTypes.ownedTupleIsFree (.ref z)) Q E s:=by unfold Builtin.SmallTypes.ownedTupleIsFree;exact aK (jw hz Z (x:=.none) Z (cf q))
theorem WR{b1 b2:Bool}{z TI TO i1 i2 l1 l2:Addr}{k:Nat}{xs ys:Array Value}{x y:Value}{Q:Value->ae->Prop}(D:ZipApart z TI TO i1 i2 l1 l2)(afH:Zp b1 b2 s.heap z TI TO i1 i2 l1 l2 .none k) (uM:hZ b1 s.heap l1 xs)(rL:hZ b2 s.heap l2 ys)(hx:xs[k]? =some x)(hy:ys[k]? =some y) (q:∀g,Zp b1 b2 g z TI TO i1 i2 l1 l2 (rawInt s.heap.objs.size) (k+1)->IsPair g s.heap.objs.size x y->(∀c o,c≠z->c≠TO->c≠i1->c≠i2->s.heap.get? c=some o->g.get? c=some o)->Q (.ref s.heap.objs.size) {s with heap:=g}): wpAny (model prog w) A (Builtin.«zip.__next__» ⟨[.ref z],[]⟩) (λr s'=>∃v,r= .done (.ret v)/\Q v s') E s:=by
 obtain⟨hz,mj,⟨a,b,mW⟩,h1,h2⟩:=afH;show wpAny _ _ (field (.ref z) 2>>=_) _ _ _;refine aK (jw hz Z (x:=.bool false) Z ?_);show wpAny _ _ (field (.ref z) 3>>=_) _ _ _;refine aK (jw hz Z (x:=.ref TI) Z (aK (vv mj Z ?_)));show wpAny _ _ (Builtin.SmallTypes.ownedTupleIsFree (.ref z)>>=_) _ _ _;refine aK (Qm hz ?_);simp only[sW];refine aK (wpAny_rule (aK (jw hz Z (x:=.ref TO) Z (aK (AE hz (by simp) λg1 z1 e1=>?_)))));replace z1:IsZip g1 z TI TO .ellipsis:=z1;refine aK ?_;simp only[List.zipIdx_cons,List.zipIdx_nil,Ec,List.forIn_nil];refine aK (aK (DT ?_));show wpAny _ _ (Builtin.SmallTypes.nextOf (.ref i1)>>=_) _ _ _;refine aK (BW (h1.to λo e=>e1.extBut _ _ D.i1z e) (uM.to λo e=>e1.extBut _ _ D.l1z e) hx λg2 n1 e2=>cf ?_);have t2:IsPair g2 TO a b:=e2.extBut _ _ D.TOi1 (e1.extBut _ _ D.TOz mW);refine aK (vv t2 Z (aK (W8 t2 λg3 t3 e3=>?_)));replace t3:IsPair g3 TO x b:=t3;refine aK (wpAny_letGo (cf ?_));refine aK (aK (DT ?_));show wpAny _ _ (Builtin.SmallTypes.nextOf (.ref i2)>>=_) _ _ _;refine aK (BW (h2.to λo e=>e3.extBut _ _ D.TOi2.symm (e2.extBut _ _ D.i12.symm (e1.extBut _ _ D.i2z e))) (rL.to λo e=>e3.extBut _ _ D.l2TO (e2.extBut _ _ D.l2i1 (e1.extBut _ _ D.l2z e))) hy λg4 n2 e4=>cf ?_);have t4:IsPair g4 TO x b:=e4.extBut _ _ D.TOi2 t3;refine aK (vv t4 Z (aK (W8 t4 λg5 t5 e5=>?_)));replace t5:IsPair g5 TO x y:=t5;refine aK (wpAny_letGo (cf (cf ?_)));refine aK (vv t5 Z (aK (wpAny_newTuple ?_)));have sz:g5.objs.size=s.heap.objs.size:=by rw[e5.1,e4.1,e3.1,e2.1,e1.1]
 have z5:IsZip g5 z TI TO .ellipsis:=e5.extBut _ _ D.TOz.symm (e4.extBut _ _ D.i2z.symm (e3.extBut _ _ D.TOz.symm (e2.extBut _ _ D.i1z.symm z1)));have kp:∀c o,c≠z->c≠TO->c≠i1->c≠i2->s.heap.get? c=some o->g5.get? c=some o:=λc o c1 c2 c3 c4 e=>e5.extBut _ _ c2 (e4.extBut _ _ c4 (e3.extBut _ _ c2 (e2.extBut _ _ c3 (e1.extBut _ _ c1 e))));have m1:kx b1 g5 i1 l1 (k+1):=n1.to λo e=>e5.extBut _ _ D.TOi1.symm (e4.extBut _ _ D.i12 (e3.extBut _ _ D.TOi1.symm e));have m2:kx b2 g5 i2 l2 (k+1):=n2.to λo e=>e5.extBut _ _ D.TOi2.symm e;have Eh:z<g5.objs.size:=cC z5;show wpAny _ _ (Builtin.SmallTypes.ownedTupleHandOut (.ref z) (.ref g5.objs.size)>>=_) _ _ _;refine aK ?_;unfold Builtin.SmallTypes.ownedTupleHandOut;have z6:IsZip (g5.push {cls:=.type "tuple",data:=.seq #[x,y]}) z TI TO .ellipsis:=cy _ z5;refine aK (AE z6 (by simp) λg7 z7 e7=>?_);replace z7:IsZip g7 z TI TO (rawInt g5.objs.size):=z7;refine AE z7 (by simp) λg8 z8 e8=>?_;replace z8:IsZip g8 z TI TO (rawInt g5.objs.size):=z8;have up:∀c o,c≠z->g5.get? c=some o->g8.get? c=some o:=λc o c1 e=>e8.extBut _ _ c1 (e7.extBut _ _ c1 (cy _ e));have t8:IsPair g8 g5.objs.size x y:=e8.extBut _ _ (AK Eh) (e7.extBut _ _ (AK Eh) (eV _ Z));rw[sz]at z8 t8;refine cf ⟨_,Z,?_⟩;show Q (.ref g5.objs.size) _;rw[sz];exact q g8 ⟨z8,up _ _ D.TIz (kp _ _ D.TIz D.TITO D.TIi1 D.TIi2 mj),⟨_,_,up _ _ D.TOz t5⟩,m1.to λo e=>up _ o D.i1z e,m2.to λo e=>up _ o D.i2z e⟩ t8 λc o c1 c2 c3 c4 e=>up c o c1 (kp c o c1 c2 c3 c4 e)
theorem WS{b1 b2:Bool}{z TI TO i1 i2 l1 l2:Addr}{k:Nat}{xs ys:Array Value}{Q:Fin->ae->Prop}(hh:A.handled=none)(D:ZipApart z TI TO i1 i2 l1 l2)(afH:Zp b1 b2 s.heap z TI TO i1 i2 l1 l2 .none k) (uM:hZ b1 s.heap l1 xs)(rL:hZ b2 s.heap l2 ys)(qc:xs[k]? =none\/ys[k]? =none) (q:∀g e,(∀c o,c≠z->c≠TO->c≠i1->c≠i2->s.heap.get? c=some o->g.get? c=some o)->(∃o,g.get? e=some o/\o.cls= .type "StopIteration")->E (.ref e) {s with heap:=g}): wpAny (model prog w) A (Builtin.«zip.__next__» ⟨[.ref z],[]⟩) Q E s:=by obtain⟨hz,mj,⟨a,b,mW⟩,h1,h2⟩:=afH;show wpAny _ _ (field (.ref z) 2>>=_) _ _ _;refine aK (jw hz Z (x:=.bool false) Z ?_);show wpAny _ _ (field (.ref z) 3>>=_) _ _ _;refine aK (jw hz Z (x:=.ref TI) Z (aK (vv mj Z ?_)));show wpAny _ _ (Builtin.SmallTypes.ownedTupleIsFree (.ref z)>>=_) _ _ _;refine aK (Qm hz ?_);simp only[sW];refine aK (wpAny_rule (aK (jw hz Z (x:=.ref TO) Z (aK (AE hz (by simp) λg1 z1 e1=>?_)))));replace z1:IsZip g1 z TI TO .ellipsis:=z1;refine aK ?_;simp only[List.zipIdx_cons,List.zipIdx_nil,Ec,List.forIn_nil];refine aK (aK (DT ?_));show wpAny _ _ (Builtin.SmallTypes.nextOf (.ref i1)>>=_) _ _ _;have j1:=h1.to λo e=>e1.extBut _ _ D.i1z e;have k1:=uM.to λo e=>e1.extBut _ _ D.l1z e;cases hx:xs[k]? with
 |none=>
  refine aK (Kg hh j1 k1 hx λg2 er e2 ⟨oe,uJ,zQ⟩=>?_);have z2:IsZip g2 z TI TO .ellipsis:=e2 _ _ D.i1z.symm z1;have nz:er≠z:=λv=>by subst v;rw[z2]at uJ;cases uJ;simp at zQ
  refine AE z2 (by simp) λg3 _ e3=>q g3 er (λc o c1 _ c3 _ v=>e3.extBut _ _ c1 (e2 _ _ c3 (e1.extBut _ _ c1 v))) ⟨oe,e3.extBut _ _ nz uJ,zQ⟩ |some x=>
  have hy:ys[k]? =none:=by rcases qc with h|h;rw[hx]at h;cases h;exact h
  refine aK (BW j1 k1 hx λg2 n1 e2=>cf ?_);have t2:IsPair g2 TO a b:=e2.extBut _ _ D.TOi1 (e1.extBut _ _ D.TOz mW);refine aK (vv t2 Z (aK (W8 t2 λg3 t3 e3=>?_)));refine aK (wpAny_letGo (cf ?_));refine aK (aK (DT ?_));show wpAny _ _ (Builtin.SmallTypes.nextOf (.ref i2)>>=_) _ _ _;refine aK (Kg hh (h2.to λo e=>e3.extBut _ _ D.TOi2.symm (e2.extBut _ _ D.i12.symm (e1.extBut _ _ D.i2z e))) (rL.to λo e=>e3.extBut _ _ D.l2TO (e2.extBut _ _ D.l2i1 (e1.extBut _ _ D.l2z e))) hy λg4 er e4 ⟨oe,uJ,zQ⟩=>?_);have z4:IsZip g4 z TI TO .ellipsis:=e4 _ _ D.i2z.symm (e3.extBut _ _ D.TOz.symm (e2.extBut _ _ D.i1z.symm z1));have nz:er≠z:=λv=>by subst v;rw[z4]at uJ;cases uJ;simp at zQ
  refine AE z4 (by simp) λg5 _ e5=>q g5 er (λc o c1 c2 c3 c4 v=>e5.extBut _ _ c1 (e4 _ _ c4 (e3.extBut _ _ c2 (e2.extBut _ _ c3 (e1.extBut _ _ c1 v))))) ⟨oe,e5.extBut _ _ nz uJ,zQ⟩
abbrev B6(b1:Bool)(h:Heap)(l1:Addr):Heap:=h.push {cls:=.type (sJ b1),data:=.fields #[.ref l1,.int 0 0]}
abbrev B5(b1 b2:Bool)(h:Heap)(l1 l2:Addr):Heap:=(B6 b1 h l1).push {cls:=.type (sJ b2),data:=.fields #[.ref l2,.int 0 0]}
abbrev B0(b1 b2:Bool)(h:Heap)(l1 l2:Addr):Heap:=(B5 b1 b2 h l1 l2).push {cls:=.type "tuple",data:=.seq #[.ref h.objs.size,.ref (B6 b1 h l1).objs.size]}
abbrev AZ(b1 b2:Bool)(h:Heap)(l1 l2:Addr):Heap:=(B0 b1 b2 h l1 l2).push {cls:=.type "tuple",data:=.seq #[.none,.none]}
abbrev vN(b1 b2:Bool)(h:Heap)(l1 l2:Addr):Heap:=(AZ b1 b2 h l1 l2).push {cls:=.type "zip",data:=.fields #[.none,.bool false,.bool false,.ref (B5 b1 b2 h l1 l2).objs.size,.ref (B0 b1 b2 h l1 l2).objs.size]}
theorem WQ(b1 b2:Bool)(l1 l2:Addr)(xs ys:Array Value):Meets (Builtin.«zip.__new__» ⟨[.type "zip",.ref l1,.ref l2],[]⟩) (λ_ R s=>hZ b1 s.heap l1 xs/\hZ b2 s.heap l2 ys/\R (.ok (.ret (.ref (AZ b1 b2 s.heap l1 l2).objs.size))) {s with heap:=vN b1 b2 s.heap l1 l2}):=.of_wp λprog w A R s h=>by
 obtain⟨hp,gg,d,tk,os⟩:=s;obtain⟨uM,rL,h⟩:=h;have Jb:=sub_zip;have hL1:hZ b1 (Shared.heap ⟨hp,gg,d,tk,os⟩) l1 xs:=uM;have zT:hZ b2 (Shared.heap ⟨hp.push {cls:=.type (sJ b1),data:=.fields #[.ref l1,.int 0 0]},gg,d,tk,os⟩) l2 ys:=rL.to λo e=>cy _ e
 wp_walk using wN hL1,wN zT;exact⟨_,Z,h⟩
theorem WT{b1 b2:Bool}{l1 l2:Addr}{xs ys:Array Value}{Q:Value->ae->Prop}(uM:hZ b1 s.heap l1 xs)(rL:hZ b2 s.heap l2 ys) (q:∀g,Zp b1 b2 g (s.heap.objs.size+4) (s.heap.objs.size+2) (s.heap.objs.size+3) s.heap.objs.size (s.heap.objs.size+1) l1 l2 .none 0->(∀c o,s.heap.get? c=some o->g.get? c=some o)->Q (.ref (s.heap.objs.size+4)) {s with heap:=g}): wpAny (model prog w) A (call (.type "zip") [.ref l1,.ref l2]) Q E s:=by
 refine callType_new PySem.F.called_zip aA (PySem.F.typeCall_zip_2 _ _) (PySem.F.newCall_zip_2 _ _) (λobj=>PySem.F.args_object_init_3 obj _ _) PySem.F.entry_zip_new (WQ b1 b2 l1 l2 xs ys) ⟨uM,rL,?_⟩;have z1:(B6 b1 s.heap l1).objs.size=s.heap.objs.size+1:=qJ ..;have z2:(B5 b1 b2 s.heap l1 l2).objs.size=s.heap.objs.size+2:=by rw[qJ,z1]
 have z3:(B0 b1 b2 s.heap l1 l2).objs.size=s.heap.objs.size+3:=by rw[qJ,z2]
 have z4:(AZ b1 b2 s.heap l1 l2).objs.size=s.heap.objs.size+4:=by rw[qJ,z3]
 have g5:(vN b1 b2 s.heap l1 l2).get? (AZ b1 b2 s.heap l1 l2).objs.size=some _:=eV _ rfl;have g4:(vN b1 b2 s.heap l1 l2).get? (B0 b1 b2 s.heap l1 l2).objs.size=some _:=cy _ (eV _ Z);have g3:(vN b1 b2 s.heap l1 l2).get? (B5 b1 b2 s.heap l1 l2).objs.size=some _:=cy _ (cy _ (eV _ Z));have g2:(vN b1 b2 s.heap l1 l2).get? (B6 b1 s.heap l1).objs.size=some _:=cy _ (cy _ (cy _ (eV _ Z)));have g1:(vN b1 b2 s.heap l1 l2).get? s.heap.objs.size=some _:=cy _ (cy _ (cy _ (cy _ (eV _ Z))));show _/\_;rw[z2,z3,z4]at g5;rw[z1,z2]at g3;rw[z3]at g4;rw[z1]at g2;rw[z4];refine⟨⟨_,g5,Z⟩,q _ ⟨g5,g3,⟨_,_,g4⟩,?_,?_⟩ λc o e=>cy _ (cy _ (cy _ (cy _ (cy _ e))))⟩
 ·cases b1<;>exact⟨_,g1,rfl,rfl⟩
 ·cases b2<;>exact⟨_,g2,rfl,rfl⟩
end
section
variable {X:Cx}{aw:List (Addr×Obj)}{O:St}{H:Hp}{s:ae}{h':Heap}
theorem Inv.yz{t':Nat}{fp:List Addr}(I:Inv X aw O H s)(k:∀b o,b∉fp->s.heap.get? b=some o->h'.get? b=some o)(hf:∀b∈fp,lS X aw H b):Inv X aw O H {s with heap:=h',toks:=t'}:=by
 have zm:∀b u,H b=some u->b∉fp:=λb u e z=>by rw[(hf b z).1]at e;cases e
 have hL:X.env.locals∉fp:=λz=>(hf _ z).2.1 rfl;refine I.step (g':=s.gens) (d':=s.drawn) (ch:=fp) (λb hb=>?_) (λb o _ _ hc e _=>k b o hc e) (λb o _ _ hc e _=>⟨o.slots,k b o hc e⟩) (λ_ _ _ _ n=>n) (λb o hc e=>⟨o,k b o hc e⟩) (λ_ _ e=>e) (λ_ _ _ e=>e) (λb ps e=>⟨#[],by rw[e];simp⟩) (λm hm=>?_) (λb u e=>?_) I.bare
 ·obtain⟨f0,f1,f2,f3,f4,f5⟩:=hf b hb
  exact⟨f3,f1,f4,f5⟩
 ·obtain⟨o,es,ep,ho,r⟩:=hm
  exact⟨o,es,ep,k _ o hL ho,r⟩
 ·refine(I.aY b u e).lX (λc v hc q=>k c v ?_ q) (λ_ q=>q) λ_ _ q=>q
  rcases hc with z|z
  ·rw[z];exact zm b u e
  ·exact zm c _ z
end
def fi(b:Bool)(K:aa)(H:Hp)(a:Addr)(xs:List V):Prop:=match b with|true=>aH K H a xs|false=>aR K H a xs
theorem fi.get{X:Cx}{aw:List (Addr×Obj)}{O:St}{H:Hp}{s:ae}{b:Bool}{a:Addr}{xs:List V}(I:Inv X aw O H s)(h:fi b X.K H a xs):∃its:List Value,Vals xs its/\hZ b s.heap a its.toArray:=by
 cases b
 ·obtain⟨its,r,p,_⟩:=I.tuple h;exact⟨its,r,p⟩
 ·obtain⟨its,r,p,_⟩:=I.list h;exact⟨its,r,p.isList⟩
theorem fi.inj{X:Cx}{aw:List (Addr×Obj)}{O:St}{H:Hp}{s:ae}{b:Bool}{a:Addr}{xs ys:List V}(I:Inv X aw O H s)(h:fi b X.K H a xs)(g:fi b X.K H a ys):xs=ys:=by
 cases b
 ·exact I.My h g
 ·exact I.RF h g
def ny(K:aa)(b1 b2:Bool)(l1 l2:Addr):It:=⟨λi H=>∃xs ys x y,fi b1 K H l1 xs/\fi b2 K H l2 ys/\xs[i]? =some x/\ys[i]? =some y,λi H v H'=>∃T x y,v= .ref T/\(∀xs,fi b1 K H l1 xs->xs[i]? =some x)/\(∀ys,fi b2 K H l2 ys->ys[i]? =some y)/\Nw H H' T (.tup [x,y]),λi H=>∃xs ys,fi b1 K H l1 xs/\fi b2 K H l2 ys/\(xs.length<=i\/ys.length<=i)⟩
theorem Xn{P:ah}{w:World}{K:aa}{elts:List Expr}{kt:Nat}{pos:Pos}{b1 b2:Bool}{z TI TO i1 i2 l1 l2:Addr}(D:ZipApart z TI TO i1 i2 l1 l2): Turn P w K (.Tuple elts kt pos) (ny K b1 b2 l1 l2) [z,TI,TO,i1,i2] z (λi h=>Zp b1 b2 h z TI TO i1 i2 l1 l2 .none i) where
 mem:=by simp
 obj:=λi h st b hb=>by
  obtain⟨hz,mj,⟨a,c,mW⟩,h1,h2⟩:=st;simp only[bL,cE,dv]at hb;rcases hb with rfl|rfl|rfl|rfl|rfl
  ·exact⟨_,hz,λv e=>by cases e⟩
  ·exact⟨_,mj,λv e=>by cases e⟩
  ·exact⟨_,mW,λv e=>by cases e⟩
  ·obtain⟨o,e,_,n⟩:=h1.ob;exact⟨o,e,n⟩
  ·obtain⟨o,e,_,n⟩:=h2.ob;exact⟨o,e,n⟩
 keep:=λi h h' st k=>by obtain⟨hz,mj,⟨a,c,mW⟩,h1,h2⟩:=st;exact⟨k z (by simp) _ hz,k TI (by simp) _ mj,⟨a,c,k TO (by simp) _ mW⟩,h1.to λo e=>k i1 (by simp) o e,h2.to λo e=>k i2 (by simp) o e⟩
 item:=by
  intro X hP hw hK hc i aw s O H E I hf st hg;subst hP hw hK;obtain⟨xs,ys,x,y,q1,q2,e1,e2⟩:=hg;obtain⟨J3,r1,p1⟩:=q1.get I;obtain⟨lF,r2,p2⟩:=q2.get I;obtain⟨u1,gr,lb⟩:=r1.get e1;obtain⟨u2,hu2,u6⟩:=r2.get e2;have hT:s.TypeIs (.ref z) "zip":=⟨_,st.zz,Z⟩;unfold pyNext;refine aK (DX (DW (name:=Str.ofString "__next__") hT LH (DV LH hT PySem.F.entry_zip_next (WR D st p1 p2 (x:=u1) (y:=u2) (by simpa using gr) (by simpa using hu2) λg zg tg kp=>cf ?_) (PySem.F.args_zip_next_1 _))));refine⟨_,Z,?_⟩;refine wpAny_letOwnedTupleGo_zip zg.zz λg' WO sb=>?_;have hs:=sb.extBut;have Eh:z<s.heap.objs.size:=cC st.zz;have nw:Nw H (upd H s.heap.objs.size (.tup [x,y])) s.heap.objs.size (.tup [x,y]):=.of (I.aY.fresh (bK _));have I1:Inv X aw O (upd H s.heap.objs.size (.tup [x,y])) {s with heap:=s.heap.push {cls:=.type "tuple",data:=.seq #[u1,u2]}}:=I.laid (t':=s.toks) (λb ob q=>cy _ q) (bK _) ⟨by show 2<=sizeLine;decide,[u1,u2],.cons lb (.cons u6 .nil),⟨_,eV _ Z,Z,_,Z⟩⟩;have II:∀b∈[z,TI,TO,i1,i2],b<s.heap.objs.size:=λb hb=>by
   simp only[bL,cE,dv]at hb;obtain⟨hz,mj,⟨a,c,mW⟩,h1,h2⟩:=st;rcases hb with rfl|rfl|rfl|rfl|rfl
   ·exact cC hz
   ·exact cC mj
   ·exact cC mW
   ·obtain⟨o,e,_⟩:=h1.ob;exact cC e
   ·obtain⟨o,e,_⟩:=h2.ob;exact cC e
  have hn:∀b∈[z,TI,TO,i1,i2],upd H s.heap.objs.size (.tup [x,y]) b=none:=λb hb=>by rw[aO (fA (II b hb))];exact(hf b hb).1
  have I2:Inv X aw O (upd H s.heap.objs.size (.tup [x,y])) {s with heap:=g'}:=Inv.yz (s:={s with heap:=s.heap.push {cls:=.type "tuple",data:=.seq #[u1,u2]}}) (t':=s.toks) (fp:=[z,TI,TO,i1,i2]) I1 (λb o hb e=>by
   have e:(s.heap.push {cls:=.type "tuple",data:=.seq #[u1,u2]}).get? b=some o:=e;have nz:b≠z:=λq=>hb (by simp[q]);rcases WL e with⟨xx,rfl⟩|e'
   ·subst xx
    exact hs _ _ nz tg
   ·exact hs _ _ nz (kp b o nz (λq=>hb (by simp[q])) (λq=>hb (by simp[q])) (λq=>hb (by simp[q])) e')) (λb hb=>by obtain⟨f0,f1,f2,f3,f4,f5⟩:=hf b hb;exact⟨hn b hb,f1,f2,f3,f4,f5⟩);refine⟨.ref s.heap.objs.size,_,I2,Z,⟨s.heap.objs.size,x,y,Z,λzs hz=>?_,λzs hz=>?_,nw⟩,?_,hn⟩
  ·rw[fi.inj I hz q1];exact e1
  ·rw[fi.inj I hz q2];exact e2
  ·obtain⟨_,mj,⟨a,c,mW⟩,h1,h2⟩:=zg
   exact⟨WO,hs _ _ D.TIz mj,⟨a,c,hs _ _ D.TOz mW⟩,h1.to λo e=>hs _ o D.i1z e,h2.to λo e=>hs _ o D.i2z e⟩
 done:=by intro X hP hw hK hc i aw s O H E I hf st hg;subst hP hw hK;obtain⟨xs,ys,q1,q2,qc⟩:=hg;obtain⟨J3,r1,p1⟩:=q1.get I;obtain⟨lF,r2,p2⟩:=q2.get I;have hT:s.TypeIs (.ref z) "zip":=⟨_,st.zz,Z⟩;have l1:=r1.length;have l2:=r2.length;unfold pyNext;refine aK (DX (DW (name:=Str.ofString "__next__") hT LH (DV LH hT PySem.F.entry_zip_next (WS (I.ok.hd hc) D st p1 p2 (qc.imp (λh=>by simp;lia) λh=>by simp;lia) λg e kp he=>?_) (PySem.F.args_zip_next_1 _))));obtain⟨o,ho,mh⟩:=he;refine aK (wpAny_isInstance (T:="StopIteration") (b:=true) ⟨o,ho,mh⟩ isSubtype_stop (cf ⟨Z,?_⟩));exact I.yz (t':=s.toks) (fp:=[z,TI,TO,i1,i2]) (λb o hb e=>kp b o (λq=>hb (by simp[q])) (λq=>hb (by simp[q])) (λq=>hb (by simp[q])) (λq=>hb (by simp[q])) e) hf
 self:=λ_ _ _ _ _ st h=>wpAny_pyIter_zip st.zz h
inductive adH(K:aa)(b1:Bool)(b2:Bool)(R:It->Hp->Prop)(vs:List V)(H1:Hp):Prop |mk (l1:_)(l2:_)(h0:vs=[.ref l1,.ref l2])(h1:(∃xs,fi b1 K H1 l1 xs))(h2:(∃ys,fi b2 K H1 l2 ys))(h3:R (ny K b1 b2 l1 l2) H1)
def a56(K:aa)(b1 b2:Bool)(ta:TA):TI:=λO H R=>ta O H λvs H1=>adH K b1 b2 R vs H1
theorem jU(K:aa){X:Cx}(hK:X.K=K)(b1 b2:Bool){elts:List Expr}{kt:Nat}{p9:Pos}{a b:Expr}{ta:TA}{p pos:Pos}(hg:Gl X "zip")(hm:X.mg "zip"=none)(ha:PA X [a,b] ta)(hs:starEach [a,b] X.env=[(false,eval a X.env),(false,eval b X.env)]:=by rfl)(jn:starEach [b] X.env=[(false,eval b X.env)]:=by rfl): PI X (.Tuple elts kt p9) (.Call (.Name "zip" p) [a,b] [] pos) (a56 K b1 b2 ta):=by
 subst hK;intro aw s O H R I h;refine Call_ (pQ I hg hm PyProof.Rows.boot_zip (yg (bc (ha pos aw s O H _ I h) λus s1 ⟨vs,H1,I1,r1,q1⟩=>?_) (by rw[hs,jn]) (by rw[jn];rfl)));obtain⟨l1,l2,e,⟨xs,h1⟩,⟨ys,h2⟩,q⟩:=q1;subst e;obtain⟨u1,u2,rfl,lb,u6⟩:=vals2 r1;cases(show u1=Value.ref l1 from lb);cases(show u2=Value.ref l2 from u6);obtain⟨J3,v1,p1⟩:=h1.get I1;obtain⟨lF,v2,p2⟩:=h2.get I1;have a1:l1<s1.heap.objs.size:=by cases b1<;>(obtain⟨o,e,_⟩:=p1;exact cC e)
 have a2:l2<s1.heap.objs.size:=by cases b2<;>(obtain⟨o,e,_⟩:=p2;exact cC e)
 refine WT p1 p2 λg zg kp=>wpAny_pyIter_zip zg.zz ?_;refine⟨_,_,_,_,H1,Z,I1.kept (t':=s1.toks) kp,Xn (zipApart_new a1 a2),zg,λc hc=>?_,q⟩;have hle:s1.heap.objs.size<=c:=by simp only[bL,cE,dv]at hc;rcases hc with rfl|rfl|rfl|rfl|rfl<;>first|exact bK _|exact Nat.le_add_right _ _
 exact I1.qj hle (I1.aY.fresh hle)
theorem fi.go{K:aa}(s:aF H H')(h:fi b K H a xs):fi b K H' a xs:=by
 cases b
 ·exact aR.go s h
 ·exact aH.go s h
theorem UM{K:aa}{bs:List Bool}{D:Addr}(rest:St)(hn:n=2)(h1:fi b1 K H l1 xs)(h2:fi b2 K H l2 ys)(nw:Nw H H0 D (.lst [])) (hl:min xs.length ys.length=bs.length)(hz:bs.length<=1000) (hs:∀(i:Nat)(x y:V)(b:Bool)(H2:Hp)(Q':VK),xs[i]? =some x->ys[i]? =some y->bs[i]? =some b->aF H H2->(∀H3,aF H2 H3->Q' (.bl b) H3)->te (some x::some y::rest) H2 Q') (hq:∀H',aF H H'->H' D=some (.lst (bs.map V.bl))->Q (.ref D) H'):j6 (ny K b1 b2 l1 l2) (qi K n (kh (fo 0) (kh (fo 1) rZ))) ir te Q D (none::none::rest) H0:=by
 subst hn;have hD:=nw.no;refine sH bs.length (λi O H2=>aF H H2/\H2 D=some (.lst ((bs.take i).map V.bl))/\∃v v',O=v::v'::rest) ?_ ?_ ?_
 ·exact⟨nw.same,nw.at',none,none,Z⟩
 ·rintro i O H2 hi ⟨s2,d2,v,v',rfl⟩
  have hx:i<xs.length:=by lia
  have hy:i<ys.length:=by lia
  have ex:=cn hx;have ey:=cn hy;have eb:=cn hi;refine⟨⟨xs,ys,_,_,h1.go s2,h2.go s2,ex,ey⟩,λy' H3 ka=>?_⟩;obtain⟨T,x0,y0,rfl,k1,k2,n3⟩:=ka;have e1:=k1 _ (h1.go s2);have e2:=k2 _ (h2.go s2);rw[ex]at e1;rw[ey]at e2;cases e1;cases e2;refine⟨T,_,Z,aR.of n3.at',Z,_,_,Z,_,_,Z,Z,?_⟩;refine yes (cg ?_);refine hs i _ _ _ _ _ ex ey eb (s2.trans n3.same) λH4 s4=>?_;refine⟨_,s4 _ _ (n3.same _ _ d2),?_,bs.length-(i+1),au,Z,au,λb o e=>?_,?_,_,_,Z⟩
  ·rw[cx,oY]
   have:(1000:Nat)<sizeLine:=by decide
   lia
  ·rw[aO (fT e hD)];exact s4 b o (n3.same b o (s2 b o e))
  ·rw[bo,qH,eb,oX];rfl
 ·rintro O H2 ⟨s2,d2,v,v',rfl⟩
  refine⟨⟨xs,ys,h1.go s2,h2.go s2,au⟩,hq H2 s2 ?_⟩;rw[d2,yh]
theorem fe.there{P:ah}(x:fe P w H h a o):∃ob,h.get? a=some ob:=by induction o with |lst xs=>obtain⟨_,_,_,_,e⟩:=x;exact⟨_,e⟩ |tup xs=>obtain⟨_,_,_,ob,e,_⟩:=x;exact⟨ob,e⟩ |dK aQ=>obtain⟨_,_,_,_,ob,_,_,e,_⟩:=x;exact⟨ob,e⟩ |dT aQ=>obtain⟨_,_,_,_,ob,_,_,e,_⟩:=x;exact⟨ob,e⟩ |set S n=>obtain⟨ob,_,_,_,e,_⟩:=x;exact⟨ob,e⟩ |ins C dx fs=>obtain⟨_,_,_,e,_⟩:=x;exact⟨_,e⟩ |own y=>exact x |xd fs=>obtain⟨_,⟨ob,_,_,e,_⟩,_⟩:=x;exact⟨ob,e⟩ |u7 lo hi=>obtain⟨_,_,_,e⟩:=x;exact⟨_,e⟩ |nc ob u=>exact⟨_,x.1⟩ |eZ ps=>exact⟨_,x⟩ |met f y=>exact⟨_,x⟩ |ext φ=>exact x.2.1
structure Fl(P:ah)(w:World)(outer:List Env)(H:Hp)(h₁:Heap)(ex:Addr)(H':Hp)(B h:Heap):Prop where
 un:Un (cX outer) [] H H' h₁ h
 aY:dN P w H' h
 k1:∀b o,h₁.get? b=some o->H b=none->b∉cX outer->B.get? b=some o
 k2:∀b o,H' b=some o->∃ob,B.get? b=some ob
 k3:∀b o,h₁.get? b=some o->b∉cX outer->∃ob,B.get? b=some ob
 fr:∀b∈cX outer,H' b=none
 nw:h₁.get? ex=none
 ne:H' ex=none
theorem Fl.step{P:ah}(F:Fl P w outer H h₁ ex H' B h)(st:B.StaysIn h)(gZ:B.StaysIn h')(up:h.UpToSlots h')(ff:h.FunFrames ay outer):Fl P w outer H h₁ ex H' B h':=by
 have slot:∀b o,h₁.get? b=some o->H b=none->b∈cX outer->∃sl,h'.get? b=some {o with slots:=sl}:=λb o e n hb=>by obtain⟨sl,e1⟩:=F.un.slot b o e n hb (by simp);obtain⟨_,o2,e2,hd⟩:=ff.mem hb;rw[e1]at e2;cases e2;obtain⟨F8,e3⟩:=up b _ e1 (λvs=>hd vs);exact⟨F8,e3⟩
 refine⟨⟨λb o e n hb _=>gZ b o (F.k1 b o e n hb),λb o e n hb _=>slot b o e n hb,F.un.free,λb o e hx=>?_,F.un.jQ,F.un.jG,F.un.jx⟩,λb u e=>?_,F.k1,F.k2,F.k3,F.fr,F.nw,F.ne⟩
 ·by_cases hb:b∈cX outer
  ·obtain⟨_,o2,e2,hd⟩:=ff.mem hb
   obtain⟨sl,e3⟩:=up b o2 e2 hd;exact⟨_,e3⟩
  ·obtain⟨ob,e1⟩:=F.k3 b o e hb
   exact⟨ob,gZ b ob e1⟩
 ·refine(F.aY b u e).lX (λc v hc q=>?_) (λ_ q=>q) λ_ _ q=>q
  have inB:∃ob,B.get? c=some ob:=by
   rcases hc with z|z
   ·rw[z];exact F.k2 b u e
   ·exact F.k2 c _ z
  obtain⟨ob,e1⟩:=inB;have e2:=st c ob e1;rw[q]at e2;cases e2;exact gZ c _ e1
section
variable {P:ah}{w:World}{K:aa}{mg:bJ}{ay:Heap}{N:List Str}{qual:Str}{scope:Scope}{f:Addr}{cd:Value}{A:aj}{outer:List Env}{s:ae}{H:Hp}{E:XK}{aw:List (Addr×Obj)}{O:St}{H1:Hp}{s1:ae}{h2:Heap}{ex:Addr}{cls:Value}{vs:List Value}
end
structure Exc(K:aa)(mg:bJ)(x:Str)(C:Addr)(fG:List Value)(newId:String):Prop where
 at':mg x=some (.ref C)
 ok:PySem.W.excIn K C fG newId=true
theorem Exc.own{K:aa}(e:Exc K mg x C fG newId)(X:K.In h):OwnCls x C fG newId mg h:=by
 refine⟨e.at',?_⟩;have q:=e.ok;unfold PySem.W.excIn at q;split at q
 ·rename_i dd cd sl ho
  split at q
  ·rename_i D2 bl a0 a1 a2 a3 nn a5 hm hs
   simp only[fz,fq,M6]at q;obtain⟨⟨⟨⟨⟨r1,r2⟩,zO⟩,ht⟩,aY⟩,uK⟩:=q;subst r1 r2;obtain⟨c1,c2,c3,c4,c5,c6,c7,c8,c9,c10,c11⟩:=cd;dsimp only at hm zO aY uK;subst hm zO;obtain⟨l⟩:=sl;simp only at hs;subst hs;exact⟨bl,c4,c1,c5,c2,c6,c7,c8,c9,c10,dd,a0,a1,a2,a3,a5,_,X _ _ ho,.of_isNs (PySem.W.isNs_of_in X aY),PySem.W.nsMap_none_of_in X aY uK,PySem.W.tail_of_in X ht⟩
  ·cases q
 ·cases q
section
variable {X:Cx}{x:Str}{C:Addr}{fG:List Value}{newId xh B:String}{e:Expr}{t:TA}{np cD pos:Pos}
def XM(E:XK)(cls:Value)(t:TA):TS:=λ_ O H=>t O H λvs H1=>vs.length<=sizeLine/\E cls none H1
theorem Q4(hx:∀aw O H s h2 ex vs,Inv X aw O H s->Heap.MadeExcOf s.heap h2 ex (.ref C) vs->E (.ref C) none H->X.xe (.ref ex) {s with heap:=h2})(EC:Exc X.K X.mg x C fG newId)(FB:ExcBaseFacts B newId xh fG)(hh:X.A.handled=none)(hg:Gl X x)(ha:PA X [e] t) (he:starEach [e] X.env=[(false,eval e X.env)]:=by rfl)(hd:(x==("__debug__":Str))=false:=by decide): PS X (.Raise (some (.Call (.Name x np) [e] [] cD)) none pos) (XM E (.ref C) t):=by intro aw s O H D I h;obtain⟨tl,Nn,nm,q,bs,hdct,sn,sub,ab,col,dd,k0,k1,k2,k3,k5,mN,hC,hN,uK,T⟩:=(EC.own I.ok.mod.o8).obj;refine wpAny_Raise_call_subT (C:=C) (nm:=nm) (q:=q) (N:=Nn) (bs:=bs) (bm:=tl) (hdct:=hdct) (sn:=sn) (sub:=sub) (ab:=ab) (col:=col) (dd:=dd) (k0:=k0) (k1:=k1) (k2:=k2) (k3:=k3) (k5:=k5) FB (mN:=mN) (T.hasType FB.hasBase) hh (by rw[he];rfl) uK (uA I hg EC.at' ⟨Z,?_⟩ hd);have hA:=ha cD aw s O H _ I h;rw[he]at hA⊢;refine WN (bc hA λus s2 ⟨vs,H1,I1,r1,z,w1⟩=>⟨Z,by rw[<-r1.length];exact z,I1.bk _ _ hC,hN.keeps I1.bk,T.keeps I1.bk,λh' ex hm=>hx aw O H1 s2 h' ex us I1 hm w1⟩)
end
section
variable {M:Model}{A:aj}{Ex:Value->ae->Prop}
theorem a9u{h:Heap}{g:Array GenState}{d:Drawn}{tk:Nat}{os:OsState}{e:Addr}{oe:Obj}{Q:Bool->ae->Prop}{C D N N':Addr}{nm QJ q q':Str}{bs Va bm KG:List Value}{hdct SD:Bool}{sn NF:List Str}{sub MR:List Value}{ab Vx:Bool}{col UR:Option Bool}{dd oH:Option Addr}{k0 k1 k2 k3 k5 j0 j1 j2 j3 j5:Option Value}{newId a3m:String} (hC:h.get? C=some (excClassObj nm q C N bs bm hdct sn sub ab col dd k0 k1 k2 k3 k5 newId))(hD:h.get? D=some (excClassObj QJ q' D N' Va KG SD NF MR Vx UR oH j0 j1 j2 j3 j5 a3m)) (he:h.get? e=some oe)(zP:oe.cls= .ref C)(hb:KG.contains (.type "BaseException")=true)(hs:(Value.ref C::bm).contains (.ref D)=true) (hq:Q true ⟨h,g,d,tk,os⟩):wpAny M A (excMatches (.ref e) (.ref D)) Q Ex ⟨h,g,d,tk,os⟩:=by
 have hcB:(Value.ref D::KG).contains (.type "BaseException")=true:=by rw[WH,hb,Bool.or_true]
 have f:=tc_notTuple;unfold excMatches
 repeat (first|(with_reducible refine vw he ?_;rw[zP])|with_reducible refine vw hD ?_|(with_reducible refine Lz hD ?_;rw[hcB])|(with_reducible refine Lz hC ?_;rw[hs])|with_reducible refine vw hC ?_|wp_step)
 exact hq
end
section
variable {X:Cx}{k:Nat}{x:Str}{p pos:Pos}{e:Expr}{es:List Expr}{t:TA}{sp:Sp}
end
abbrev Cx.hand(X:Cx)(ex:Addr):Cx:={X with A:=X.A.mark (some (.ref ex)),calm:=false,xe:=λ_ _=>False}
section
variable {X:Cx}{aw:List (Addr×Obj)}{O:St}{H:Hp}{s:ae}
theorem Inv.hand(I:Inv X aw O H s)(ex:Addr):Inv (X.hand ex) aw O H s:=⟨⟨I.ok.mod,I.ok.kind,I.ok.glob,I.ok.blt,I.ok.above,I.ok.inj,I.ok.has,I.ok.sL,λh=>(kF h).elim,I.ok.frames,I.ok.vV,I.ok.D6,I.ok.bs,I.ok.my,I.ok.uq,I.ok.si,I.ok.jF,I.ok.ou⟩,I.os,I.bare,I.ay,I.loc,I.cell,I.free,I.ki,I.pin,I.aY,I.len⟩
theorem Inv.back(ok:X.Ok)(I:Inv (X.hand ex) aw O H s):Inv X aw O H s:=⟨ok,I.os,I.bare,I.ay,I.loc,I.cell,I.free,I.ki,I.pin,I.aY,I.len⟩
theorem Xi{M:Model}{A:aj}{E:Value->ae->Prop}{i:Nat}{x:Str}{v:V}{pos:Pos}{Q:Unit->ae->Prop}(I:Inv X aw O H s)(hN:X.N.Nodup)(hi:X.N[i]? =some x)(hk:X.env.kindOf x=some .local)(hs:X.env.scope.names.lookup x=some .local) (hv:O[i]? =some (some v))(h:∀s',Inv X aw (O.set i none) H s'->Q () s'):wpAny M A (unbindBehindTheSuite X.env x pos) Q E s:=by
 obtain⟨m,hn,hl⟩:=id I.loc;have zP:(X.env.scope.kind== .class||(X.env.scope.kind== .module&&X.env.locals !=X.env.globals))=false:=by rw[I.ok.kind];rfl
 have CH:i<O.length:=by rw[I.len];exact(eh.mp hi).1
 have kl:=I.kl;obtain⟨u,r,look⟩:=hl i x v hi hv (.inl hs);have hm:m x=some u:=by
  rcases look with⟨_,e⟩|⟨k,_⟩
  ·exact e
  ·rcases k with k|k<;>(rw[hk]at k;cases k)
 unfold unbindBehindTheSuite;refine DT (wpAny_unbindName_local hk hn hm zP λh' u' Jm uE=>?_);obtain⟨oL,_,_,Sq,_⟩:=id hn;have tr:dN X.prog X.w H h':=λb ob e=>by
  refine(I.aY b ob e).lX (λc w' hc q=>(uE.2 c ?_).trans q) (λ_ q=>q) λ_ _ q=>q;rintro rfl;rcases hc with rfl|hc
  ·rw[I.free]at e;cases e
  ·rw[I.free]at hc;cases hc
 have lt:∀b o,X.s₀.heap.get? b=some o->b≠X.env.locals:=λb o e=>fA (gz (cC e) I.ok.above);refine h _ ⟨I.ok,I.os,I.bare,⟨λb o e n hb hx=>(uE.2 b (lt b o e)).trans (I.ay.keep b o e n hb hx),λb o e n hb hx=>?_,I.ay.free,λb o e hx=>?_,I.ay.jQ,I.ay.jG,I.ay.jx⟩,⟨_,Jm,λj y v' e1 e2 e3=>?_⟩,λy c e=>?_,I.free,I.ki,λp hp=>?_,tr,by simpa using I.len⟩
 ·obtain⟨sl,e1⟩:=I.ay.slot b o e n hb hx
  exact⟨sl,(uE.2 b (lt b o e)).trans e1⟩
 ·obtain⟨o',e1⟩:=I.ay.there b o e hx
  exact⟨o',(uE.2 b (lt b o e)).trans e1⟩
 ·by_cases hj:j=i
  ·subst hj
   rw[AS CH]at e2;cases e2
  ·rw[LW (e9 hj)]at e2
   obtain⟨u2,r2,q⟩:=hl j y v' e1 e2 e3;refine⟨u2,r2,?_⟩;rcases q with⟨k,e⟩|⟨k,c,e,z⟩
   ·have:y≠x:=λe=>hj (Im hN e1 (e▸hi))
    exact .inl ⟨k,by simp[this,e]⟩
   ·exact .inr ⟨k,c,e,z.sameBut uE (kl y c e)⟩
 ·obtain⟨w',z⟩:=I.cell y c e
  exact⟨w',z.sameBut uE (kl y c e)⟩
 ·obtain⟨e,n,ne,nf,d⟩:=I.pin p hp
  exact⟨(uE.2 p.1 ne).trans e,n,ne,nf,d⟩
end
def Au(X:Cx)(st:List Stmt)(t:TS):Prop:=∀(s:ae)(O:St)(H:Hp)(D:Ends),Inv X [] O H s->t D O H->wpAny (model X.prog X.w) X.A (execs st X.env) (SP X [] D) X.xe s
def VU(X:Cx)(st:Stmt)(t:TS):Prop:=∀(s:ae)(O:St)(H:Hp)(D:Ends),Inv X [] O H s->t D O H->wpAny (model X.prog X.w) X.A (exec st X.env) (SP X [] D) X.xe s
theorem Au.one{st:Stmt}{t:TS}(h:VU X st t):Au X [st] t:=by intro s O H D I q;refine wpAny_execs_cons (bc (h s O H D I q) λf s1 q=>?_);cases f with |next=>exact AG q |ret v=>exact q |brk=>exact q |cont=>exact q
theorem Inv.ab9{X:Cx}{aw:List (Addr×Obj)}{O:St}{H:Hp}{s:ae}(I:Inv X aw O H s):Inv X [] O H s:=⟨I.ok,I.os,I.bare,I.ay,I.loc,I.cell,I.free,I.ki,λp hp=>I.pin p (WB _ (by simpa using hp)),I.aY,I.len⟩
def ExcAt(ex:Addr)(cls:Value)(h:Heap):Prop:=∃o,h.get? ex=some o/\o.cls=cls
def takes(K:aa)(C D:Addr):Prop:=PySem.W.mroIn K C (.ref D)=some true
section
variable {X:Cx}{i:Nat}{n y:Str}{Dc:Addr}{KD:List Value}{newD:String}{body Bn:List Stmt}{b0:Stmt}{np uG pos:Pos}{tb:XK->TS}{th:TS}{Cs:Addr->Prop}
end
end L2
namespace L2
open PySem PySem.Spec PyProof.Rows PySem.W Builtin.Getset_descriptor
section
variable {prog:ah}{w:World}{A:aj}{E:Value->ae->Prop}{h:Heap}{g:Array GenState}{d:Drawn}{t:Nat}{os:OsState}{K:Frag}{x C:Addr}{o:Obj}
theorem TN(h1:h.get? x=some o)(h2:o.cls= .ref C):Looks M h (typeOf (.ref x)) (.ref C):=h2▸(Looks.ld h1).andThen .now
structure mC(K:Frag)(C:Addr):Prop where
 ga:findIn K (.ref C) "__getattribute__"=some (some (.builtin "BaseException.__getattribute__"))
 gx:findIn K (.ref C) "__getattr__"=some none
 cl:findIn K (.ref C) "__class__"=some (some (.builtin "object.__class__"))
 gt:specialIn K (.builtin "object.__class__") "__get__"=some (some (.builtin "getset_descriptor.__get__"))
 tk:takesIn K (.builtin "object.__class__")=some true
 ob:mroIn K C (.type "object")=some true
 be:mroIn K C (.type "BaseException")=some true
 is:hasDictIn K C=true
theorem a4j(X:K.In h)(k:mC K C):Looks M h (Builtin.ObjectAttr.find (.ref x) (.ref C) "__class__") (.bind (.builtin "getset_descriptor.__get__") (.builtin "object.__class__")):=by have L1:=DZ (M:=M) X k.cl;have L2:Looks M h (Builtin.ObjectAttr.getOf (some (.builtin "object.__class__"))) (some (.builtin "getset_descriptor.__get__")):=looks_specialIn X k.gt;have L3:=looks_takesIn (M:=M) X k.tk;unfold Builtin.ObjectAttr.find;refine L1.andThen (L2.andThen ?_);have L4:Looks M h (Builtin.ObjectAttr.dataDescriptor? (some (.builtin "object.__class__")) (some (.builtin "getset_descriptor.__get__"))) (some (.builtin "getset_descriptor.__get__",.builtin "object.__class__")):=L3.andThen .now;exact L4.andThen (Looks.tag .now)
theorem Tj{M:Model}{QR:Value}{Q:Unit->ae->Prop}(X:K.In h)(k:mC K C)(L0:Looks M h (typeOf (.ref x)) (.ref C))(hq:Q () ⟨h,g,d,t,os⟩): wpAny M A (checkBuiltinCall "BaseException.__getattribute__" ⟨[.ref x,QR],[]⟩) Q E ⟨h,g,d,t,os⟩:=by
 have hk:builtinKind "BaseException.__getattribute__"=some .slot:=by decide+kernel
 have jm:splitId "BaseException.__getattribute__"=some ("BaseException","__getattribute__"):=by decide+kernel
 have ha:=PySem.F.args_bexc_ga (.ref x) QR;have L1:=looks_mroIn (M:=M) X k.be;simp only[checkBuiltinCall,hk,jm];refine aK ?_;unfold isInstance;refine aK (L0.at (L1.at ?_))
 repeat (first|assumption|wp_step)
theorem get_cls{R:Result->ae->Prop}{tp:Value}(X:K.In h)(k:mC K C)(L0:Looks (model prog w) h (typeOf (.ref x)) (.ref C))(hq:R (.ok (.ret (.ref C))) ⟨h,g,d,t,os⟩): codeAny (model prog w) A (.call (.builtin "getset_descriptor.__get__") ⟨[.builtin "object.__class__",.ref x,tp],[]⟩) R ⟨h,g,d,t,os⟩:=by
 have L1:=looks_mroIn (M:=model prog w) X k.ob;refine LB KF.slot_gs.plain KF.entry_gs (KF.slot_gs.check _ _ _ _ _ _ _ _ KF.type_class (KF.args_gs _ _ _) ?_);unfold Builtin.«getset_descriptor.__get__»descrGet;rw[dga_obj];refine aK (cf ?_);unfold descrGetter descrCheckInstance descrNameAndClass isInstance;simp only[KF.owner_class];repeat lk
 refine⟨Code.quiet_builtin _ aW,codeAny_builtin KF.entry_class ?_⟩;unfold Builtin.«object.__class__»shownTypeOf;repeat lk
 exact hq
theorem a7U{tk:Tok}{Q:Fin->ae->Prop}(X:K.In h)(k:mC K C)(L0:Looks (model prog w) h (typeOf (.ref x)) (.ref C)) (hq:Q (.done (.ret (.ref C))) ⟨h,g,d,t,os⟩):wpAny (model prog w) A (Builtin.«object.__getattribute__» ⟨[.ref x,.str "__class__" tk],[]⟩) Q E ⟨h,g,d,t,os⟩:=by have L1:=a4j (M:=model prog w) (x:=x) X k;refine aK (cf (aK (cf (aK (L0.at (aK (L1.at ?_)))))));show wpAny _ _ (Builtin.ObjectAttr.bindTo _ _ (.ref x) (.ref C)) _ _ _;unfold Builtin.ObjectAttr.bindTo;show wpAny _ _ (holding [_] (call (.builtin "getset_descriptor.__get__") [.builtin "object.__class__",.ref x,.ref C])>>=_) _ _ _;exact aK (mE (sT (get_cls X k L0 (cf hq))))
theorem aaB{Q:Option Value->ae->Prop}(X:K.In h)(k:mC K C)(L0:Looks (model prog w) h (typeOf (.ref x)) (.ref C)) (hq:Q (some (.ref C)) ⟨h,g,d,t+1,os⟩):wpAny (model prog w) A (getAttr? (.ref x) "__class__") Q E ⟨h,g,d,t,os⟩:=by
 have L1:=DZ (M:=model prog w) X k.ga;have L2:=DZ (M:=model prog w) X k.gx;have f3:=LK.ga.bind (.ref x);have J9:(Value.builtin "BaseException.__getattribute__"==Value.builtin "object.__getattribute__")=false:=by decide+kernel
 unfold getAttr? getAttrBy? getAttrBy;refine aK (wpAny_mkText (aK (DX (mE (aK (L0.at (aK (L1.at ?_))))))));show wpAny _ _ (if(onTheHeap (Value.ref C)&&Value.builtin "BaseException.__getattribute__"==Value.builtin "object.__getattribute__")=true then _ else _) _ _ _;rw[J9,M8,bf aA];unfold getAttrByItsOwn hookBefore;refine aK ?_;show wpAny _ _ (typeLookup (.ref C) "__getattr__") _ _ _;refine L2.at (aK (DX (mE ?_)));unfold callGetattribute;show wpAny _ _ (boundAndCalled _ _ _) _ _ _;unfold boundAndCalled;rw[f3];refine aK (cf (sT ?_));refine LB LK.ga.plain PySem.F.entry_bexc_ga (Tj X k L0 (a7U X k L0 ?_));exact handed_on Z (cf hq)
theorem RR(k:mC K C):KitX K (.ref x) (.ref C) (ExcAt x (.ref C)) where
 ty:=λM h _ p=>by obtain⟨o,h1,h2⟩:=p;exact TN h1 h2
 it:=λ_ _ X _=>by
  obtain⟨cd,hc,_⟩:=any_some k.is;unfold clsIn at hc;split at hc
  ·rename_i c1 d1 cd1 YC ho
   intro A' Q' E' s' kk q;unfold isType loadHead;exact aK (wpAny_loadPart (kk _ _ (X _ _ ho)) (cf q))
  ·cases hc
 ne:=λh tp dd its n sl X htp=>by
  obtain⟨cd,hc,_⟩:=any_some k.is;refine yk.mpr λq=>?_;have e:C=tp:=Value.ref.inj (fz.mp q);subst e;unfold clsIn at hc;split at hc
  ·rename_i c1 d1 cd1 YC ho
   cases(X _ _ ho).symm.trans htp
  ·cases hc
 ca:=λ{prog w A E Q s} X p q=>by obtain⟨o,h1,h2⟩:=p;obtain⟨h0,g0,d0,t0,os0⟩:=s;exact aaB X k (TN h1 h2) q
end
end L2
namespace L2
open PySem PySem.Spec PyProof.Rows
def aaC:V->Option Value | .ref D=>some (.ref D) | .ty n=>some (.type n) |_=>none
theorem Mh:∀{Ds:List Addr}{us:List Value},Vals (Ds.map V.ref) us->us=Ds.map Value.ref |[],_,.nil=>rfl |n::r,_,.cons q t=>by cases(show _=Value.ref n from q);rw[Mh t];rfl
section
variable {X:Cx}
end
theorem ab0:bootBuiltins "ValueError"=some (.type "ValueError"):=by kernel_rfl
abbrev mz:List Value:=[.type "ValueError",.type "Exception",.type "BaseException",.type "object"]
abbrev mO:String:="ValueError.__new__"
end L2
namespace Ar
theorem a7T(a b:Int):Int.gcd b (a.fmod b)=Int.gcd a b:=by rw[Int.fmod_def,Int.gcd_sub_mul_left_right,Int.gcd_comm]
theorem Ti(h:0<b):Int.gcd b (a%b)=Int.gcd a b:=by rw[<-Int.fmod_eq_emod_of_nonneg a (M5 h)];exact a7T a b
def sg(p q:Int):Int:=if q<0 then-(Int.gcd p q:Int)else(Int.gcd p q:Int)
def lowP (p q:Int):Int:=p.fdiv (sg p q)
def gR (p q:Int):Int:=q.fdiv (sg p q)
theorem CU(h:q≠0):0<(Int.gcd p q:Int):=by
 have:Int.gcd p q≠0:=λz=>h (Int.gcd_eq_zero_iff.mp z).2
 lia
theorem yN(h:q≠0):sg p q≠0:=by have:=CU (p:=p) h;unfold sg;split<;>omega
theorem NK(p q:Int):sg p q∣p:=by
 unfold sg;split
 ·exact Int.neg_dvd.mpr (Int.gcd_dvd_left p q)
 ·exact Int.gcd_dvd_left p q
theorem NJ(p q:Int):sg p q∣q:=by
 unfold sg;split
 ·exact Int.neg_dvd.mpr (Int.gcd_dvd_right p q)
 ·exact Int.gcd_dvd_right p q
theorem IL(p q:Int):sg p q*lowP p q=p:=by unfold lowP;rw[Int.fdiv_eq_ediv_of_dvd (NK p q)];exact Int.mul_ediv_cancel' (NK p q)
theorem Cb(p q:Int):sg p q*gR p q=q:=by unfold gR;rw[Int.fdiv_eq_ediv_of_dvd (NJ p q)];exact Int.mul_ediv_cancel' (NJ p q)
theorem NL(p q:Int):(sg p q).natAbs=Int.gcd p q:=by unfold sg;split<;>lia
theorem a4g(h:q≠0):Int.gcd (lowP p q) (gR p q)=1:=by
 have e:Int.gcd (sg p q*lowP p q) (sg p q*gR p q)=(sg p q).natAbs*Int.gcd (lowP p q) (gR p q):=Int.gcd_mul_left _ _ _;rw[IL,Cb,NL]at e;have g:=CU (p:=p) h;have g':0<Int.gcd p q:=by lia
 have e':Int.gcd p q*1=Int.gcd p q*Int.gcd (lowP p q) (gR p q):=by lia
 exact(Nat.eq_of_mul_eq_mul_left g' e').symm
theorem a4h(h:q≠0):0<gR p q:=by
 have e:=Cb p q;have g:=CU (p:=p) h;by_cases hq:q<0
 ·have es:sg p q=-(Int.gcd p q:Int):=by unfold sg;rw[bh hq]
  rw[es]at e;refine Int.not_le.mp λhl=>?_;have:0<=-(Int.gcd p q:Int)*gR p q:=WI au hl
  lia
 ·have es:sg p q=(Int.gcd p q:Int):=by unfold sg;rw[bf hq]
  rw[es]at e;refine Int.not_le.mp λhl=>?_;have:(Int.gcd p q:Int)*gR p q<=0:=Int.mul_nonpos_of_nonneg_of_nonpos au hl
  lia
theorem Vw{s x y:Int}(hs:s≠0)(e:s*x=y):x.natAbs<=y.natAbs:=by rw[<-e,fY];exact Nat.le_mul_of_pos_left _ au
theorem a4i(h:q≠0):(lowP p q).natAbs<=p.natAbs:=Vw (yN h) (IL p q)
theorem Rp(h:q≠0):(gR p q).natAbs<=q.natAbs:=Vw (yN h) (Cb p q)
theorem NI(h:q≠0):(sg p q).natAbs<=q.natAbs:=by rw[NL];exact Nat.le_of_dvd au (Int.gcd_dvd_natAbs_right p q)
end Ar
namespace Rt
open Rat
theorem C9(hb:b≠0):Ar.lowP a b=(Rat.divInt a b).num/\Ar.gR a b=((Rat.divInt a b).den:Int):=by
 have hp:=Ar.a4h (p:=a) hb;have hc:=Ar.a4g (p:=a) hb;have Jw:(Ar.gR a b).natAbs≠0:=by lia
 have a6y:(Ar.lowP a b).natAbs.Coprime (Ar.gR a b).natAbs:=hc;have e1:Rat.divInt a b=Rat.divInt (Ar.lowP a b) (Ar.gR a b):=by have h:=Rat.divInt_mul_left (a:=Ar.sg a b) (n:=Ar.lowP a b) (d:=Ar.gR a b) (Ar.yN hb);rw[Ar.IL,Ar.Cb]at h;exact h
 have e2:(⟨Ar.lowP a b,(Ar.gR a b).natAbs,Jw,a6y⟩:Rat)=Rat.divInt (Ar.lowP a b) (((Ar.gR a b).natAbs:Nat):Int):=Rat.mk_eq_divInt;have e3:(((Ar.gR a b).natAbs:Nat):Int)=Ar.gR a b:=by lia
 rw[e3]at e2;rw[e1,<-e2];exact⟨Z,e3.symm⟩
theorem den_pos(r:Rat):(0:Int)<(r.den:Int):=by have:=r.den_pos;omega
structure Bd(n:Nat)(r:Rat):Prop where
 num:r.num.natAbs<2^n
 den:r.den<2^n
theorem Bd.mono(h:Bd n r)(l:n<=m):Bd m r:=⟨gz h.num (tE aA l),gz h.den (tE aA l)⟩
theorem lC(h:a<2^n)(g:b<2^m):a*b<2^(n+m):=by rw[Nat.pow_add];exact Nat.mul_lt_mul'' h g
theorem kK(hb:b≠0)(h1:a.natAbs<2^n)(h2:b.natAbs<2^n):Bd n (Rat.divInt a b):=by
 obtain⟨e1,e2⟩:=C9 (a:=a) hb;have l1:=Ar.a4i (p:=a) hb;have l2:=Ar.Rp (p:=a) hb;refine⟨?_,?_⟩
 ·rw[<-e1];lia
 ·lia
theorem qw(r s:Rat):(r.den:Int)*(s.den:Int)≠0:=Int.ne_of_gt (j7 (den_pos r) (den_pos s))
theorem add_div(r s:Rat):r+s=Rat.divInt (r.num*s.den+s.num*r.den) (r.den*s.den):=by have h:=Rat.divInt_add_divInt r.num s.num (d₁:=r.den) (d₂:=s.den) (by have:=den_pos r;lia) (by have:=den_pos s;lia);rw[tj,tj]at h;exact h
theorem Yf(r s:Rat):r-s=Rat.divInt (r.num*s.den-s.num*r.den) (r.den*s.den):=by have h:=We r.num s.num (d₁:=r.den) (d₂:=s.den) (by have:=den_pos r;lia) (by have:=den_pos s;lia);rw[tj,tj]at h;exact h
theorem mul_div(r s:Rat):r*s=Rat.divInt (r.num*s.num) (r.den*s.den):=by have h:=Wf r.num s.num (d₁:=r.den) (d₂:=s.den);rw[tj,tj]at h;exact h
section
variable {n m:Nat} {r s:Rat}
theorem aan(h:Bd n r)(g:Bd m s):(r.num*s.den).natAbs<2^(n+m):=by rw[fY];exact lC h.num (by have:=g.den;omega)
theorem aam(h:Bd n r)(g:Bd m s):(s.num*r.den).natAbs<2^(n+m):=by rw[fY,Nat.mul_comm];exact lC (by have:=h.den;lia) g.num
theorem Kr(h:Bd n r)(g:Bd m s):((r.den:Int)*(s.den:Int)).natAbs<2^(n+m):=by rw[fY];exact lC (by have:=h.den;lia) (by have:=g.den;lia)
theorem Bd.add(h:Bd n r)(g:Bd m s):Bd (n+m+1) (r+s):=by
 rw[add_div];have h1:=aan h g;have h2:=aam h g;have h3:=Kr h g;have e:2^(n+m+1)=2^(n+m)+2^(n+m):=by rw[Nat.pow_succ];omega
 exact kK (qw r s) fh fh
theorem Bd.mul(h:Bd n r)(g:Bd m s):Bd (n+m) (r*s):=by rw[mul_div];exact kK (qw r s) (by rw[fY];exact lC h.num g.num) (Kr h g)
end
end Rt
namespace L2
open PySem PySem.Spec PyProof.Rows
def iZ(H H':Hp):Prop:=∀b o,(∀xs,o≠ .lst xs)->H b=some o->H' b=some o
section
variable {K:aa} {H H' H2:Hp}
theorem iZ.trans(a:iZ H H')(b:iZ H' H2):iZ H H2:=λc o n e=>b c o n (a c o n e)
theorem iZ.qM{D:Addr}(h:H D=some (.lst xs)):iZ H (upd H D (.lst ys)):=λb o n e=>by rw[aO (zo e h (n xs))];exact e
theorem aR.t(s:iZ H H')(h:aR K H a xs):aR K H' a xs:=h.imp (λr=>r.imp (s _ _ λ_ z=>nomatch z) λ⟨o,e⟩=>⟨o,s _ _ (λ_ z=>nomatch z) e⟩) id
mutual
def fw:ai->Bool | .list _=>false | .dict _=>false | .tuple ds=>cS ds | .none=>true | .bool _=>true | .int _=>true | .str _=>true
def cS:List ai->Bool |[]=>true |d::ds=>fw d&&cS ds
end
theorem hO:∀{ds:List ai},cS ds=true↔∀d∈ds,fw d=true
 |[]=>⟨λ_ _ h=>(nomatch h),λ_=>by simp[cS]⟩ |d::ds=>by
  rw[cS,fq,hO (ds:=ds)];constructor
  ·rintro⟨a,b⟩ x hx
   rcases bL.mp hx with rfl|hx
   ·exact a
   ·exact b x hx
  ·intro h
   exact⟨h d (.head _),λx hx=>h x (.tail _ hx)⟩
theorem lj(ns:List Int):cS (ns.map PyData.int)=true:=hO.mpr λd hd=>by obtain⟨i,_,rfl⟩:=kC.mp hd;simp[fw]
mutual
theorem RD.t(s:iZ H H'):∀{x:V}(d:ai),fw d=true->RD K H x d->RD K H' x d |x,.none,_,h=>by simpa[RD]using h |x,.bool b,_,h=>by simpa[RD]using h |x,.int i,_,h=>by simpa[RD]using h |x,.str y,_,h=>by simpa[RD]using h |x,.list ds,n,h=>by simp[fw]at n |x,.tuple ds,n,h=>by rw[RD]at h⊢;obtain⟨a,xs,e,h1,h2⟩:=h;exact⟨a,xs,e,h1.t s,aJ.t s ds (by simpa[fw]using n) h2⟩ |x,.dict _,_,h=>by simp[RD]at h
theorem aJ.t (s:iZ H H'):∀{xs:List V}(ds:List ai),cS ds=true->aJ K H xs ds->aJ K H' xs ds |xs,[],_,h=>by simpa[aJ]using h |xs,d::ds,n,h=>by rw[aJ]at h⊢;rw[cS,fq]at n;obtain⟨y,ys,e,h1,h2⟩:=h;exact⟨y,ys,e,RD.t s d n.1 h1,aJ.t s ds n.2 h2⟩
end
theorem aJ.ja:∀{xs:List V}{ns:List Int},aJ K H xs (ns.map PyData.int)->xs=ns.map V.int |xs,[],h=>h.nil_inv |xs,n::ns,h=>by obtain⟨y,ys,rfl,h1,h2⟩:=h.cons_inv;rw[h1.int_inv,aJ.ja h2];rfl
theorem u9:∀(ns:List Int),aJ K H (ns.map V.int) (ns.map PyData.int) |[]=>cU |n::ns=>bW (dU n) (u9 ns)
theorem UK{J:It}{xs:List V}{ds:List ai}{te:TE}{Q:VK}{D:Addr}{H0:Hp}(rest:St)(nw:Nw H H0 D (.lst []))(hl:xs.length=ds.length)(hz:xs.length<=1000)(hn:cS ds=true) (go:∀i x H2,xs[i]? =some x->aF H H2->J.go i H2/\∀y H3,J.jO i H2 y H3->H3=H2/\y=x)(stop:∀H2,aF H H2->J.stop xs.length H2) (hs:∀(i:Nat)(x:V)(d:ai)(H2:Hp)(Q':VK),xs[i]? =some x->ds[i]? =some d->aF H H2->(∀y H3,aF H2 H3->RD K H3 y d->Q' y H3)->te (some x::rest) H2 Q') (hq:∀H' ys,aF H H'->H' D=some (.lst ys)->aJ K H' ys ds->Q (.ref D) H'):j6 J (fo 0) ir te Q D (none::rest) H0:=by
 have hD:=nw.no;refine sH xs.length (λi O H2=>aF H H2/\(∃ys,H2 D=some (.lst ys)/\aJ K H2 ys (ds.take i))/\∃v,O=v::rest) ?_ ?_ ?_
 ·exact⟨nw.same,⟨[],nw.at',cU⟩,none,Z⟩
 ·rintro i O H2 hi ⟨s2,⟨ys,d2,r2⟩,v,rfl⟩
  have xp:i<ds.length:=by rw[<-hl];exact hi
  have ex:=cn hi;have eb:=cn xp;obtain⟨g1,g2⟩:=go i _ H2 ex s2;refine⟨g1,λy H3 hy=>?_⟩;obtain⟨rfl,rfl⟩:=g2 y H3 hy;refine B7 ?_;refine hs i _ _ _ _ ex eb s2 λz H4 s4 r4=>?_;have d4:=s4 _ _ d2;have len:=r2.length;rw[oY]at len;refine⟨ys,d4,?_,xs.length-(i+1),au,Z,au,λb o e=>?_,⟨ys++[z],bo,?_⟩,_,Z⟩
  ·have:(1000:Nat)<sizeLine:=by decide
   lia
  ·rw[aO (fT e hD)];exact s4 b o (s2 b o e)
  ·have t:iZ H4 (upd H4 D (.lst (ys++[z]))):=.qM d4
   rw[qH,eb];have n1:cS (ds.take i)=true:=hO.mpr λd hd=>hO.mp hn d (E8 hd);exact(aJ.t t _ n1 (aJ.mono s4 _ r2)).append (bW (RD.t t _ (hO.mp hn _ (Ea xp)) r4) cU)
 ·rintro O H2 ⟨s2,⟨ys,d2,r2⟩,v,rfl⟩
  refine⟨stop H2 s2,hq H2 ys s2 d2 ?_⟩;rw[hl,yh]at r2;exact r2
theorem Dp{D:Addr}(rest:St)(hx:aR K H a xs)(nw:Nw H H0 D (.lst []))(hl:xs.length=ds.length)(hz:xs.length<=1000)(hn:cS ds=true) (hs:∀(i:Nat)(x:V)(d:ai)(H2:Hp)(Q':VK),xs[i]? =some x->ds[i]? =some d->aF H H2->(∀y H3,aF H2 H3->RD K H3 y d->Q' y H3)->te (some x::rest) H2 Q') (hq:∀H' ys,aF H H'->H' D=some (.lst ys)->aJ K H' ys ds->Q (.ref D) H'):j6 (qB K a) (fo 0) ir te Q D (none::rest) H0:=UK rest nw hl hz hn (λi x H2 e s=>⟨⟨xs,x,hx.go s,e⟩,λy H3 ⟨e3,y3⟩=>⟨e3,by have:=y3 _ (hx.go s);rw[e]at this;exact(dQ this).symm⟩⟩) (λH2 s=>⟨xs,hx.go s,bK _⟩) hs hq
theorem aat{lo:Int}{n:Nat}{ds:List ai}{te:TE}{Q:VK}{D:Addr}{H0:Hp}(rest:St)(nw:Nw H H0 D (.lst []))(hl:n=ds.length)(hz:n<=1000)(hn:cS ds=true) (hs:∀(i:Nat)(d:ai)(H2:Hp)(Q':VK),ds[i]? =some d->aF H H2->(∀y H3,aF H2 H3->RD K H3 y d->Q' y H3)->te (some (.int (lo+i))::rest) H2 Q') (hq:∀H' ys,aF H H'->H' D=some (.lst ys)->aJ K H' ys ds->Q (.ref D) H'):j6 (oQ lo n) (fo 0) ir te Q D (none::rest) H0:=by
 have hx:∀i x,((List.range n).map λi:Nat=>V.int (lo+i))[i]? =some x->i<n/\x= .int (lo+i):=λi x e=>by rw[cI]at e;cases h:(List.range n)[i]? with |none=>rw[h]at e;cases e |some j=>rw[h]at e;obtain⟨h1,h2⟩:=eh.mp h;rw[vI]at h2;subst h2;exact⟨by simpa using h1,(dQ e).symm⟩
 refine UK (xs:=(List.range n).map λi:Nat=>V.int (lo+i)) rest nw (by simpa using hl) (by simpa using hz) hn (λi x H2 e s=>?_) (λH2 s=>?_) (λi x d H2 Q' e1 e2 s k=>?_) hq
 ·obtain⟨h1,rfl⟩:=hx i x e
  exact⟨h1,λy H3 ⟨e3,y3⟩=>⟨e3,y3⟩⟩
 ·show n<=_
  simp
 ·obtain⟨h1,rfl⟩:=hx i x e1
  exact hs i d H2 Q' e2 s k
theorem vh{D:Addr}(rest:St)(CD:n=2)(h1:fi b1 K H l1 xs)(h2:fi b2 K H l2 ys)(nw:Nw H H0 D (.lst [])) (hl:min xs.length ys.length=ds.length)(hz:ds.length<=1000)(hn:cS ds=true) (hs:∀(i:Nat)(x y:V)(d:ai)(H2:Hp)(Q':VK),xs[i]? =some x->ys[i]? =some y->ds[i]? =some d->aF H H2->(∀z H3,aF H2 H3->RD K H3 z d->Q' z H3)->te (some x::some y::rest) H2 Q') (hq:∀H' zs,aF H H'->H' D=some (.lst zs)->aJ K H' zs ds->Q (.ref D) H'):j6 (ny K b1 b2 l1 l2) (qi K n (kh (fo 0) (kh (fo 1) rZ))) ir te Q D (none::none::rest) H0:=by
 subst CD;have hD:=nw.no;refine sH ds.length (λi O H2=>aF H H2/\(∃zs,H2 D=some (.lst zs)/\aJ K H2 zs (ds.take i))/\∃v v',O=v::v'::rest) ?_ ?_ ?_
 ·exact⟨nw.same,⟨[],nw.at',cU⟩,none,none,Z⟩
 ·rintro i O H2 hi ⟨s2,⟨zs,d2,r2⟩,v,v',rfl⟩
  have hx:i<xs.length:=by lia
  have hy:i<ys.length:=by lia
  have ex:=cn hx;have ey:=cn hy;have eb:=cn hi;refine⟨⟨xs,ys,_,_,h1.go s2,h2.go s2,ex,ey⟩,λy' H3 ka=>?_⟩;obtain⟨T,x0,y0,rfl,k1,k2,n3⟩:=ka;have e1:=k1 _ (h1.go s2);have e2:=k2 _ (h2.go s2);rw[ex]at e1;rw[ey]at e2;cases e1;cases e2;refine⟨T,_,Z,aR.of n3.at',Z,_,_,Z,_,_,Z,Z,?_⟩;refine yes (cg ?_);refine hs i _ _ _ _ _ ex ey eb (s2.trans n3.same) λz H4 s4 r4=>?_;have pD:=n3.same.trans s4;have d4:=pD _ _ d2;have len:=r2.length;rw[oY]at len;refine⟨zs,d4,?_,ds.length-(i+1),au,Z,au,λb o e=>?_,⟨zs++[z],bo,?_⟩,_,_,Z⟩
  ·have:(1000:Nat)<sizeLine:=by decide
   lia
  ·rw[aO (fT e hD)];exact pD b o (s2 b o e)
  ·have t:iZ H4 (upd H4 D (.lst (zs++[z]))):=.qM d4
   rw[qH,eb];have n1:cS (ds.take i)=true:=hO.mpr λd hd=>hO.mp hn d (E8 hd);exact(aJ.t t _ n1 (aJ.mono pD _ r2)).append (bW (RD.t t _ (hO.mp hn _ (Ea hi)) r4) cU)
 ·rintro O H2 ⟨s2,⟨zs,d2,r2⟩,v,v',rfl⟩
  refine⟨⟨xs,ys,h1.go s2,h2.go s2,au⟩,hq H2 zs s2 d2 ?_⟩;rw[yh]at r2;exact r2
end
theorem S7:∀{ns:List Int}{us:List Value},Vals (ns.map V.int) us->(∀v∈us,∃a t,v=Value.int a t)/\numsOf us=ns
 |[],_,.nil=>⟨λ_ h=>(nomatch h),rfl⟩ |n::ns,_,.cons q r=>by
  obtain⟨t,rfl⟩:=(show∃t,_=Value.int n t from q);obtain⟨h1,h2⟩:=S7 r;refine⟨λv hv=>?_,?_⟩
  ·rcases bL.mp hv with rfl|hv
   ·exact⟨n,t,Z⟩
   ·exact h1 v hv
  ·show n::numsOf _=_
   rw[h2]
section
variable {X:Cx}
theorem IE(K:aa)(hK:X.K=K)(hc:X.calm=true):fJ X (.builtin "max") (λxs H Q=>∃(l:Addr)(ns:List Int),xs=[.ref l]/\aH K H l (ns.map V.int)/\ns≠[]/\∀M,M∈ns->(∀a∈ns,a<=M)->Q (.int M) H):=by
 subst hK;intro aw s O H xs us Q I r h;obtain⟨l,ns,rfl,hl,dP,q⟩:=h;obtain⟨u,rfl,ru⟩:=vals1 r;cases(show u=Value.ref l from ru);obtain⟨its,rv,pl,hz⟩:=I.list hl;obtain⟨a1,a2⟩:=S7 rv;have all:AllInts its.toArray:=λv hv=>a1 v (by simpa using hv);obtain⟨ps,Sm⟩:=all.items;have e0:numsOf (intItems ps).toList=ns:=by rw[<-Sm];exact a2
 rw[nums_intItems]at e0;have hlen:ps.size=ns.length:=by rw[<-e0,cx,AY]
 have uG:0<ps.size:=by rw[hlen];exact LV.mpr dP
 refine max_intList (I.ok.hd hc) (by rw[<-Sm];exact pl.isList) uG λv h' tk hv hk=>?_;obtain⟨t,rfl⟩:=intItems_at hv;obtain⟨h1,h2⟩:=argBest_gt (numAt ps) (ps.size-1);refine⟨.int _,H,I.kept hk,⟨_,Z⟩,q _ ?_ λa ha=>?_⟩
 ·rw[numAt_eq,e0];exact getD_mem fh
 ·obtain⟨j,hj,rfl⟩:=mem_getD ha
  rw[<-e0,<-numAt_eq];exact h2 j fh
theorem S8{ns:List Int}{us:List Value}(r:Vals (ns.map V.int) us){i:Nat}{v:Value}(h:us[i]? =some v):∃n t,ns[i]? =some n/\v=Value.int n t:=by
 have hl:=r.length;rw[cx]at hl;have hi:i<ns.length:=by rw[hl];exact(eh.mp h).1
 obtain⟨u,e,ru⟩:=r.get (i:=i) (x:=.int ns[i]) (by rw[cI,cn hi];rfl);rw[h]at e;cases e;obtain⟨t,rfl⟩:=(show∃t,v=Value.int ns[i] t from ru);exact⟨_,t,cn hi,Z⟩
theorem a06(ns:List Int):((List.range ns.length).any λi=>((ns.map (· !=0))[i]?).getD false)=ns.any (· !=0):=by have:=LSm.range_any (ns.map (· !=0));rw[cx]at this;rw[this,List.any_map];rfl
theorem abo(K:aa)(hK:X.K=K)(hc:X.calm=true):fJ X (.builtin "any") (λxs H Q=>∃(l:Addr)(ns:List Int),xs=[.ref l]/\(aH K H l (ns.map V.int)\/aR K H l (ns.map V.int))/\Q (.bl (ns.any (· !=0))) H):=by
 subst hK;intro aw s O H xs us Q I r h;obtain⟨l,ns,rfl,hl,q⟩:=h;obtain⟨u,rfl,ru⟩:=vals1 r;cases(show u=Value.ref l from ru);have hh:=I.ok.hd hc;have fin:∀(its:List Value),Vals (ns.map V.int) its->((List.range its.toArray.size).any λi=>((ns.map (· !=0))[i]?).getD false)=ns.any (· !=0):=λits rv=>by rw[eg,<-rv.length,cx];exact a06 ns
 rcases hl with hl|hl
 ·obtain⟨its,rv,pl,hz⟩:=I.list hl
  have eR:=pl.isList;have cJ:l<s.heap.objs.size:=by obtain⟨_,e,_⟩:=eR;exact cC e
  refine call_any_walk (DS eR ?_);refine⟨s.heap.objs.size,[s.heap.objs.size,l],[s.heap.objs.size],its.toArray.size,_,_,λi=>((ns.map (· !=0))[i]?).getD false,Z,Walks.list (A:=X.A.in1) hh _ l (fA cJ) its.toArray,⟨⟨_,eV _ Z,Z,Z⟩,eR.push _⟩,λi v s' Q' E' hP hQ=>?_,λh' tk hk=>?_⟩
  ·obtain⟨n,t,e,rfl⟩:=S8 rv (i:=i) (v:=v) (by simpa using hP)
   simp only[cI,e]at hQ;exact truthy_int hQ
  ·rw[fin its rv]
   exact⟨.bl _,H,I.kept (LSm.kept_iter hk),Z,q⟩
 ·obtain⟨its,rv,pl,hz⟩:=I.tuple hl
  have eR:s.heap.IsTuple l its.toArray:=by obtain⟨⟨cls,dd,data,sl⟩,ho,iV,n,hd⟩:=pl;exact⟨_,ho,iV,by simpa using⟨n,hd⟩⟩
  have cJ:l<s.heap.objs.size:=by obtain⟨_,e,_⟩:=eR;exact cC e
  refine call_any_walk (wpAny_pyIter_tuple eR ?_);refine⟨s.heap.objs.size,[s.heap.objs.size,l],[s.heap.objs.size],its.toArray.size,_,_,λi=>((ns.map (· !=0))[i]?).getD false,Z,Walks.tuple (A:=X.A.in1) hh _ l (fA cJ) its.toArray,⟨⟨_,eV _ Z,Z,Z⟩,eR.push _⟩,λi v s' Q' E' hP hQ=>?_,λh' tk hk=>?_⟩
  ·obtain⟨n,t,e,rfl⟩:=S8 rv (i:=i) (v:=v) (by simpa using hP)
   simp only[cI,e]at hQ;exact truthy_int hQ
  ·rw[fin its rv]
   exact⟨.bl _,H,I.kept (LSm.kept_iter hk),Z,q⟩
end
end L2
set_option maxHeartbeats 1000000
namespace Lw
open PySem PySem.Spec PyProof.Rows L2
def VW(c m:Int):Prop:=0<=c/\0<=m/\m<2147483648
def eK(H:Hp)(p:Addr):Prop:=∃c m,H p=some (.lst [.int c,.int m])/\VW c m
structure bO(p:Addr)(H H':Hp):Prop where
 bu:eK H' p
 same:∀b o,b≠p->H b=some o->H' b=some o
theorem bO.refl(h:eK H p):bO p H H:=⟨h,λ_ _ _ e=>e⟩
theorem bO.trans(a:bO p H H1)(b:bO p H1 H2):bO p H H2:=⟨b.bu,λc o n e=>b.same c o n (a.same c o n e)⟩
theorem bO.upd(h:VW c m):bO p H (L2.upd H p (.lst [.int c,.int m])):=⟨⟨c,m,bo,h⟩,λb o n e=>by rw[aO n];exact e⟩
theorem bO.gq(h:eK H p)(s:aF H H'):bO p H H':=by obtain⟨c,m,e,ok⟩:=h;exact⟨⟨c,m,s _ _ e,ok⟩,λb o _ e=>s b o e⟩
theorem Mf(h0:0<=j)(h:j<=10^40):Wd j:=by
 have:j.natAbs<=10^40:=by lia
 exact qG this aW
theorem eK.ne(h:eK H p):H p≠none:=by obtain⟨c,m,e,_⟩:=h;rw[e];exact λz=>nomatch z
theorem eK.a3q(h:eK H p)(e:H q=some o)(n:∀xs,o≠ .lst xs):q≠p:=by obtain⟨c,m,e',_⟩:=h;exact zo e e' (n _)
theorem bO.t(bg:eK H p)(b:bO p H H'):iZ H H':=λc o n e=>b.same c o (bg.a3q e n) e
theorem bO.P5(s:aF H0 H)(hp:H0 p=none)(b:bO p H H'):aF H0 H':=λc o e=>b.same c o (fT e hp) (s c o e)
section
variable {K:aa}
theorem UO{D:Addr}(n:Nat)(rest:L2.St)(nw:Nw H H0 D (.lst []))(bg:eK H p)(hn:n<=1000)(xv:Nat->V) (go:∀i H2,i<n->bO p H H2->J.go i H2/\∀y H3,J.jO i H2 y H3->H3=H2/\y=xv i)(stop:∀H2,bO p H H2->J.stop n H2)(Pz:Int->Prop) (hs:∀i H2 (Q':VK),i<n->bO p H H2->(∀z H3,Pz z->bO p H2 H3->Q' (.int z) H3)->te (some (xv i)::rest) H2 Q') (hq:∀H' (is:List Int),bO p H H'->H' D=some (.lst (is.map V.int))->is.length=n->(∀z∈is,Pz z)->Q (.ref D) H'):j6 J (fo 0) ir te Q D (none::rest) H0:=by
 have zV:D≠p:=λe=>bg.ne (e▸nw.no);refine sH n (λi O H3=>bO p H H3/\(∃is:List Int,H3 D=some (.lst (is.map V.int))/\is.length=i/\∀z∈is,Pz z)/\∃v,O=v::rest) ?_ ?_ ?_
 ·exact⟨.gq bg nw.same,⟨[],nw.at',Z,λ_ h=>(cE h).elim⟩,none,Z⟩
 ·rintro i O H3 hi ⟨b3,⟨is,d3,li,pi⟩,v,rfl⟩
  obtain⟨g1,g2⟩:=go i H3 hi b3;refine⟨g1,λy H4 hy=>?_⟩;obtain⟨rfl,rfl⟩:=g2 y H4 hy;refine B7 ?_;refine hs i _ _ hi b3 λz H5 pz b5=>?_;refine⟨_,b5.same _ _ zV d3,?_,n-(i+1),au,Z,au,?_,⟨is++[z],?_,?_,?_⟩,_,Z⟩
  ·rw[cx,li]
   have:(1000:Nat)<sizeLine:=by decide
   lia
  ·have Aj:=b3.trans b5
   refine⟨?_,λb o n e=>?_⟩
   ·obtain⟨c,m,e,ok⟩:=Aj.bu
    exact⟨c,m,by rw[aO zV.symm];exact e,ok⟩
   ·rw[aO (fT e nw.no)];exact Aj.same b o n e
  ·rw[bo,oX];rfl
  ·rw[fC,li];rfl
  ·intro y hy
   rcases vF.mp hy with h|h
   ·exact pi y h
   ·rw[cH.mp h];exact pz
 ·rintro O H3 ⟨b3,⟨is,d3,li,pi⟩,v,rfl⟩
  exact⟨stop H3 b3,hq H3 is b3 d3 li pi⟩
theorem a50(ns:List Int){i:Int}(h0:0<=i)(h:i<ns.length):∃z,z∈ns/\fP (ns.map V.int) i=some (.int z):=by
 have hl:i.toNat<ns.length:=by omega
 exact⟨ns[i.toNat],Ea hl,dC h0 (by rw[cI,cn hl];rfl)⟩
theorem UJ{D:Addr}(n:Nat)(rest:L2.St)(nw:Nw H H0 D (.lst []))(bg:eK H p)(hn:n<=1000)(xv:Nat->V) (go:∀i H2,i<n->bO p H H2->J.go i H2/\∀y H3,J.jO i H2 y H3->H3=H2/\y=xv i)(stop:∀H2,bO p H H2->J.stop n H2)(Pd:Nat->ai->Prop) (hs:∀i H2 (Q':VK),i<n->bO p H H2->(∀y d H3,Pd i d->fw d=true->RD K H3 y d->bO p H2 H3->Q' y H3)->te (some (xv i)::rest) H2 Q') (hq:∀H' ys ds,bO p H H'->H' D=some (.lst ys)->aJ K H' ys ds->ds.length=n->cS ds=true->(∀i d,ds[i]? =some d->Pd i d)->Q (.ref D) H'):j6 J (fo 0) ir te Q D (none::rest) H0:=by
  have zV:D≠p:=λe=>bg.ne (e▸nw.no);refine sH n (λi O H3=>bO p H H3/\(∃ys ds,H3 D=some (.lst ys)/\aJ K H3 ys ds/\ds.length=i/\cS ds=true/\∀j d,ds[j]? =some d->Pd j d)/\∃v,O=v::rest) ?_ ?_ ?_
  ·exact⟨.gq bg nw.same,⟨[],[],nw.at',cU,Z,Z,λj d e=>by simp at e⟩,none,Z⟩
  · rintro i O H3 hi ⟨b3,⟨ys,ds,d3,r3,li,ni,pi⟩,v,rfl⟩
    obtain⟨g1,g2⟩:=go i H3 hi b3;refine⟨g1,λy H4 hy=>?_⟩;obtain⟨rfl,rfl⟩:=g2 y H4 hy;refine B7 ?_;refine hs i _ _ hi b3 λz d H5 pz nz rz b5=>?_;have d5:=b5.same _ _ zV d3;have t:iZ H5 (L2.upd H5 D (.lst (ys++[z]))):=.qM d5;refine⟨ys,d5,?_,n-(i+1),au,Z,au,?_,⟨ys++[z],ds++[d],bo,?_,?_,?_,?_⟩,_,Z⟩
    · rw[r3.length,li]
      have:(1000:Nat)<sizeLine:=by decide
      lia
    · have Aj:=b3.trans b5
      refine⟨?_,λb o n e=>?_⟩
      · obtain⟨c,m,e,ok⟩:=Aj.bu
        exact⟨c,m,by rw[aO zV.symm];exact e,ok⟩
      ·rw[aO (fT e nw.no)];exact Aj.same b o n e
    ·exact(aJ.t ((bO.t b3.bu b5).trans t) _ ni r3).append (bW (RD.t t _ nz rz) cU)
    ·rw[fC,li];rfl
    ·exact hO.mpr λx hx=>by
        rcases vF.mp hx with h|h
        ·exact hO.mp ni x h
        ·rw[cH.mp h];exact nz
    · intro j e he
      by_cases hj:j<ds.length
      · rw[yj hj]at he
        exact pi j e he
      · have pY:j=ds.length:=by
          have:=(eh.mp he).1;rw[fC]at this;have:j<ds.length+1:=this
          lia
        subst pY;rw[AU (bK _),LM]at he;cases he;rw[li];exact pz
  · rintro O H3 ⟨b3,⟨ys,ds,d3,r3,li,ni,pi⟩,v,rfl⟩
    exact⟨stop H3 b3,hq H3 ys ds b3 d3 r3 li ni pi⟩
end
end Lw
namespace Ln
open PySem L2
def iY(i:Int):Int:=if i<0 then-i else i
theorem Al(i:Int):iY i=(i.natAbs:Int):=by unfold iY;split<;>lia
def aM(ns:List Int):Nat:=ns.foldr (λz m=>max z.natAbs m) 0
theorem IV:∀{ns:List Int}{z:Int},z∈ns->z.natAbs<=aM ns
 |n::ns,z,h=>by
  show z.natAbs<=max n.natAbs (aM ns);rcases bL.mp h with rfl|h
  ·exact Nat.le_max_left _ _
  ·exact gM (IV h) (Nat.le_max_right _ _)
theorem IU:∀{ns:List Int},ns≠[]->∃z∈ns,z.natAbs=aM ns
 |[],h=>absurd Z h |[n],_=>⟨n,.head _,by show n.natAbs=max n.natAbs 0;lia⟩ |n::m::ns,_=>by
  obtain⟨z,hz,e⟩:=IU (ns:=m::ns) (by simp);by_cases h:n.natAbs<=aM (m::ns)
  ·exact⟨z,.tail _ hz,by show _=max n.natAbs (aM (m::ns));lia⟩
  ·exact⟨n,.head _,by show _=max n.natAbs (aM (m::ns));lia⟩
theorem nZ(h:∀z∈ns,z.natAbs<=m):aM ns<=m:=by cases ns with |nil=>exact gy _ |cons a r=>obtain⟨z,hz,e⟩:=IU (ns:=a::r) (by simp);rw[<-e];exact h z hz
theorem a4r(h:∃z∈ns,z≠0):0<aM ns:=by
 obtain⟨z,hz,h0⟩:=h;have:=IV hz
 lia
theorem IT(dP:ns≠[]){M:Int}(h1:M∈ns.map iY)(h2:∀a∈ns.map iY,a<=M):M=(aM ns:Int):=by
 obtain⟨z,hz,e⟩:=kC.mp h1;obtain⟨y,hy,ey⟩:=IU dP;have a1:=IV hz;have a2:=h2 (iY y) (kC.mpr ⟨y,hy,Z⟩);rw[Al]at e a2
 lia
def kZ(p q:Int):Int:=(2*(p.natAbs:Int)+q)/(2*q)
def iD(p q:Int):Int:=if p>=0 then kZ p q else-kZ p q
structure xU(x p q:Int):Prop where
 lo:-q<=2*(x*q-p)
 hi:2*(x*q-p)<=q
 uW:2*(x*q-p)=q\/2*(x*q-p)=-q->p.natAbs<=(x*q).natAbs
theorem YD(hq:0<q):2*q*kZ p q<=2*(p.natAbs:Int)+q/\2*(p.natAbs:Int)+q<2*q*kZ p q+2*q:=by have h:=Int.mul_ediv_add_emod (2*(p.natAbs:Int)+q) (2*q);have h0:=qI (2*(p.natAbs:Int)+q) (show 2*q≠0 by omega);have h1:=vM (2*(p.natAbs:Int)+q) (show 0<2*q by omega);unfold kZ;constructor<;>omega
theorem YE(hq:0<q):0<=kZ p q:=Int.ediv_nonneg au au
theorem near_is(hq:0<q):xU (iD p q) p q:=by
 obtain⟨h1,h2⟩:=YD (p:=p) hq;have h0:=YE (p:=p) hq;rw[vL,M1 q]at h1 h2;have hs0:0<=kZ p q*q:=jN h0 (M5 hq);unfold iD;split
 ·refine⟨?_,?_,λh=>?_⟩<;>(generalize kZ p q*q=s at*;omega)
 ·refine⟨?_,?_,?_⟩<;>rw[Int.neg_mul]<;>(generalize kZ p q*q=s at*;omega)
theorem zr{x y q:Int}(hq:0<q)(h:x<y):x*q+q<=y*q:=by have:(x+1)*q<=y*q:=ae6 au au;rw[Int.add_mul,kS]at this;exact this
theorem a3o(hq:0<q)(a:xU x p q)(b:xU y p q):x=y:=by
 have key:∀{x y:Int},xU x p q->xU y p q->¬x<y:=λ{x y} a b h=>by
  have g:=zr hq h;have e1:=a.lo;have e2:=a.hi;have e3:=b.lo;have e4:=b.hi;have f1:=a.uW;have f2:=b.uW;have hx:x*q=0\/q<=x*q\/x*q<=-q:=by
   rcases WJ x 0 with h|h|h
   ·have:=zr hq h;lia
   ·left;rw[h,AW]
   ·have:=zr hq h;lia
  have hy:y*q=0\/q<=y*q\/y*q<=-q:=by
   rcases WJ y 0 with h|h|h
   ·have:=zr hq h;lia
   ·left;rw[h,AW]
   ·have:=zr hq h;lia
  generalize x*q=u at*;generalize y*q=v at*;have hu:=f1 au;have hv:=f2 au
  lia
 rcases WJ x y with h|h|h
 ·exact absurd h (key a b)
 ·exact h
 ·exact absurd h (key b a)
theorem QM(hq:0<q)(a:xU x p q):x=iD p q:=a3o hq a (near_is hq)
theorem Ir(hq:0<q):iD 0 q=0:=(QM hq ⟨au,au,λh=>by lia⟩).symm
theorem a3p(hq:0<q):iD (q*n) q=n:=by refine(QM hq ⟨?_,?_,?_⟩).symm<;>rw[M1 n q]<;>lia
end Ln
namespace L2
open PySem PySem.Spec PyProof.Rows
theorem a3i:fillsNumberSlot (.type "tuple") "mul"=pure false:=PySem.fillsNumberSlot_seq (id:="tuple.__mul__") (r:=some (.builtin "tuple.__rmul__")) F.slot_tuple_mul.lookup aW F.slot_tuple_rmul.lookup aW
theorem ZR:seqRepeat? (.type "tuple")=pure (some (.builtin "tuple.__mul__")):=by unfold seqRepeat?;rw[PySem.seqSlot_of (T:="tuple") (name:="__mul__") (id:="tuple.__mul__") F.slot_tuple_mul.lookup aW,PySem.seqSlot_of (T:="tuple") (name:="__rmul__") (id:="tuple.__rmul__") F.slot_tuple_rmul.lookup aW];rfl
theorem ZG(a:Int)(t:Tok)(l:Addr)(items:Array Value)(n:Nat)(dd:Option Addr)(sl:Array (Option Value)): Meets (Builtin.«int.__rmul__» ⟨[.int a t,.ref l],[]⟩) (λ_ R s=>s.heap.get? l=some {cls:=.type "tuple",dict:=dd,data:=.seq items n,slots:=sl}/\R (.ok (.ret Value.notImplemented)) s):=.of_wp λprog w A R s h=>by obtain⟨hp,g,d,tk,os⟩:=s;obtain⟨hl,h⟩:=h;wp_walk using DU hl;exact⟨_,Z,h⟩
theorem a3w(l:Addr)(items:Array Value)(n:Nat)(dd:Option Addr)(sl:Array (Option Value))(x:Int)(u:Tok)(h0:¬(decide (x< -(2^63))||decide (x>=2^63))=true)(h1:¬(items.isEmpty||x==1)=true)(h2:¬(decide (x<=0)||items.isEmpty)=true) (h3:¬(items.size:Int)*x>(2^63-1)/8)(h4:¬Builtin.Tuple.tupleTooMany ((items.size:Int)*x)=true)(hz:(List.foldl (λx1 x2=>x1++x2) #[] (List.replicate x.toNat items)).size<=sizeLine): Meets (Builtin.«tuple.__mul__» ⟨[.ref l,.int x u],[]⟩) (λ_ R s=>s.heap.get? l=some {cls:=.type "tuple",dict:=dd,data:=.seq items n,slots:=sl}/\R (.ok (.ret (Value.ref s.heap.objs.size))) {s with heap:=s.heap.push {cls:=Value.type "tuple",data:=Data.seq (List.foldl (λx1 x2=>x1++x2) #[] (List.replicate x.toNat items))},toks:=s.toks}):=.of_wp λprog w A R s h=>by
 obtain⟨hp,g,d,tk,os⟩:=s;obtain⟨hl,h⟩:=h;have f1:=AutoSeq1.idx_int;have f2:=AutoSeq1.sub_tuple_tuple
 wp_walk using DU hl;refine wpAny_ite_false (fk h0) ?_
 wp_walk using DU hl;refine wpAny_ite_false (fk h3) ?_
 wp_walk using DU hl;exact⟨_,Z,h⟩
inductive adk(K:aa)(x:V)(y:V)(H:Hp)(Q:VK):Prop |mk (l:_)(k:_)(xs:_)(h0:x= .ref l)(h1:y= .int k)(h2:aR K H l xs)(h3:xs≠[])(h4:2<=k)(h5:k<=1000)(h6:xs.length<=1000)(h7:∀p H',Nw H H' p (.tup (List.replicate k.toNat xs).flatten)->Q (.ref p) H')
def Hw(K:aa):R2:=λx y H Q=>adk K x y H Q
theorem Qt(K:aa)(hK:X.K=K):dF X (binaryOp .Mult) (Hw K):=by
 subst hK;intro aw s O H x y v u Q I rx ry h;obtain⟨l,k,xs,rfl,rfl,hx,dP,h1,h2,hz,q⟩:=h;cases rx;obtain⟨t,rfl⟩:=ry;obtain⟨its,r,⟨⟨cls,dd,data,sl⟩,ho,hc,n,hd⟩,_⟩:=I.tuple hx;simp only at hc hd;subst hc hd;have hl:=r.length;have hsl:(1000*1000:Nat)<=sizeLine:=by decide
 have hm:its.length*k.toNat<=1000*1000:=mF au au;have o9:((its.toArray.size:Nat):Int)*k=((its.length*k.toNat:Nat):Int):=by rw[eg,Int.natCast_mul];congr 1;lia
 have Sz:its.toArray.isEmpty=false:=by cases its with |nil=>exact absurd (AQ.mp hl) dP |cons a b=>rfl
 have Sr:List.foldl (λx1 x2=>x1++x2) #[] (List.replicate k.toNat its.toArray)=(List.replicate k.toNat its).flatten.toArray:=by have:=foldl_rep its k.toNat [];rw[List.nil_append]at this;exact this
 refine wpAny_binaryOp_repeat_ref (T:="tuple") (U:="int") aA ⟨_,ho,Z⟩ (λs'=>typeIs_int s' k t) a3i F.fills_int_mul F.slot_int_rmul ZR F.slot_int_index.lookup (sY F.slot_int_rmul (typeIs_int s k t) F.entry_int_rmul (F.args_int_rmul_2 _ _) (ZG k t l its.toArray n dd sl) ⟨ho,Z,⟨_,ho,Z⟩,sY F.slot_tuple_mul ⟨_,ho,Z⟩ F.entry_tuple_mul (F.args_tuple_mul_2 _ _) (a3w l its.toArray n dd sl k t ?_ ?_ ?_ ?_ ?_ ?_) ⟨ho,?_⟩⟩)
 ·simp;lia
 ·rw[Sz];simp;lia
 ·rw[Sz];simp;lia
 ·rw[o9]
  have:((2:Int)^63-1)/8=1152921504606846975:=by decide
  rw[this];lia
 ·rw[o9]
  unfold Builtin.Tuple.tupleTooMany;simp only[AI]
  lia
 ·rw[Sr,eg,len_rep,Nat.mul_comm];lia
 rw[Sr];have hf:H s.heap.objs.size=none:=I.aY.fresh (bK _);have nw:Nw H (upd H s.heap.objs.size (.tup (List.replicate k.toNat xs).flatten)) s.heap.objs.size (.tup (List.replicate k.toNat xs).flatten):=.of hf;refine⟨.ref s.heap.objs.size,_,I.laid (t':=s.toks) (o:=.tup (List.replicate k.toNat xs).flatten) (λb ob q=>cy _ q) (bK _) ?_,Z,q _ _ nw⟩;exact⟨by rw[len_rep,Nat.mul_comm,hl];lia,_,r.rep k.toNat,IsTup.new _ _⟩
abbrev Dg(b:Bool)(h:Heap)(l:Addr):Heap:=h.push {cls:=.type (sJ b),data:=.fields #[.ref l,.int 0 0]}
abbrev Kh(b:Bool)(h:Heap)(l:Addr):Heap:=(Dg b h l).push {cls:=.type "enumerate",data:=.fields #[.none,.bool false,.ref h.objs.size,rawInt 0,.none,.none]}
theorem a9P(b:Bool)(l:Addr)(xs:Array Value):Meets (Builtin.«enumerate.__new__» ⟨[.type "enumerate",.ref l],[]⟩) (λ_ R s=>hZ b s.heap l xs/\R (.ok (.ret (.ref (Dg b s.heap l).objs.size))) {s with heap:=Kh b s.heap l}):=.of_wp λprog w A R s h=>by
 obtain⟨hp,gg,d,tk,os⟩:=s;obtain⟨hl,h⟩:=h;have Jb:=sub_enumerate;have hL:hZ b (Shared.heap ⟨hp,gg,d,tk,os⟩) l xs:=hl
 wp_walk using wN hL;refine wpAny_stack_any λst=>cf ?_;split
 ·rename_i c _ _ _ _ _
  cases(c==Value.type "enumerate")
  ·wp_walk using wN hL
   exact⟨_,Z,h⟩
  ·wp_walk using wN hL
   exact⟨_,Z,h⟩
 ·wp_walk using wN hL
  exact⟨_,Z,h⟩
section
variable {prog:ah}{w:World}{A:aj}{E:Value->ae->Prop}{s:ae}
theorem a9Q{b:Bool}{l:Addr}{xs:Array Value}{Q:Value->ae->Prop}(hl:hZ b s.heap l xs) (q:∀g,IsEnum g (s.heap.objs.size+1) s.heap.objs.size 0 .none->kx b g s.heap.objs.size l 0->(∀c o,s.heap.get? c=some o->g.get? c=some o)->Q (.ref (s.heap.objs.size+1)) {s with heap:=g}): wpAny (model prog w) A (call (.type "enumerate") [.ref l]) Q E s:=by refine callType_new PySem.F.called_enumerate aA (PySem.F.typeCall_enumerate_1 _) (PySem.F.newCall_enumerate_1 _) (λobj=>PySem.F.args_object_init_2 obj _) PySem.F.entry_enumerate_new (a9P b l xs) ⟨hl,?_⟩;have z1:(Dg b s.heap l).objs.size=s.heap.objs.size+1:=qJ ..;have g2:(Kh b s.heap l).get? (Dg b s.heap l).objs.size=some _:=eV _ rfl;have g1:(Kh b s.heap l).get? s.heap.objs.size=some _:=cy _ (eV _ Z);show _/\_;rw[z1]at g2⊢;refine⟨⟨_,g2,Z⟩,q _ g2 ?_ λc o e=>cy _ (cy _ e)⟩;cases b<;>exact⟨_,g1,rfl,rfl⟩
theorem Ue{b:Bool}{it l:Addr}{xs:Array Value}(hh:A.handled=none)(ne:l≠it):Draws prog w A it [it,l] xs.size (λi x=>xs[i]? =some x) (λi h=>kx b h it l i/\hZ b h l xs) where
 live:=λi h st=>by obtain⟨o,e,_⟩:=st.1.ob;exact⟨o,e⟩
 frame:=λi h h' st k=>⟨st.1.to λo e=>k it (by simp) o e,st.2.to λo e=>k l (by simp) o e⟩
 item:=λi s Q E hi st hQ=>BW st.1 st.2 (x:=xs[i]) (by simp[hi]) λg gi sb=>hQ _ g s.toks (by simp[hi]) ⟨gi,st.2.to λo e=>sb.extBut _ _ ne e⟩ sb
 done:=λs Q E st hE=>Kg hh st.1 st.2 (by simp) λg e a b=>hE g e a b
end
def Az(K:aa)(b:Bool)(l:Addr):It:=⟨λi H=>∃xs x,fi b K H l xs/\xs[i]? =some x,λi H v H'=>∃T x,v= .ref T/\(∀xs,fi b K H l xs->xs[i]? =some x)/\Nw H H' T (.tup [.int i,x]),λi H=>∃xs,fi b K H l xs/\xs.length=i⟩
theorem Xt{P:ah}{w:World}{K:aa}{elts:List Expr}{kt:Nat}{pos:Pos}{b:Bool}{e it l:Addr}(D:e≠it): Turn P w K (.Tuple elts kt pos) (Az K b l) [e,it] e (λi h=>(∃old,IsEnum h e it i old)/\kx b h it l i) where
 mem:=by simp
 obj:=λi h st c hc=>by
  obtain⟨⟨old,he⟩,h1⟩:=st;simp only[bL,cE,dv]at hc;rcases hc with rfl|rfl
  ·exact⟨_,he,λv e=>by cases e⟩
  ·obtain⟨o,e,_,n⟩:=h1.ob;exact⟨o,e,n⟩
 keep:=λi h h' st k=>by obtain⟨⟨old,he⟩,h1⟩:=st;exact⟨⟨old,k e (by simp) _ he⟩,h1.to λo q=>k it (by simp) o q⟩
 item:=by
  intro X hP hw hK hc i aw s O H E I hf st hg;subst hP hw hK;obtain⟨xs,x,q1,e1⟩:=hg;obtain⟨its,r1,p1⟩:=q1.get I;obtain⟨u1,gr,lb⟩:=r1.get e1;obtain⟨⟨old,he⟩,h1⟩:=st;obtain⟨oi,lH,ci,_⟩:=h1.ob;have IW:∃o,s.heap.get? l=some o/\(o.cls= .type "list"\/o.cls= .type "tuple"):=by cases b<;>(obtain⟨o,ho,cc,_⟩:=p1;first|exact⟨o,ho,.inl cc⟩|exact⟨o,ho,.inr cc⟩)
  obtain⟨ol,uI,cl⟩:=IW;have nel:e≠l:=λz=>by subst z;rw[he]at uI;cases uI;rcases cl with h|h<;>simp at h
  have nil:l≠it:=λz=>by subst z;rw[lH]at uI;cases uI;rw[ci]at cl;cases b<;>(rcases cl with h|h<;>simp[sJ]at h)
  have cJ:i<its.toArray.size:=by rw[eg,<-r1.length];exact(eh.mp e1).1
  refine wpAny_pyNext_enum_itemD (Ue (I.ok.hd hc) nil) he ⟨h1,p1⟩ cJ D (by simp[D,nel]) λy h' tk hPy ho gD hT hsz kp=>⟨_,Z,?_⟩;have ey:y=u1:=by
   have a1:its.toArray[i]? =some y:=hPy;have a2:its.toArray[i]? =some u1:=by simpa using gr
   rw[a1]at a2;exact dQ a2
  subst ey;refine wpAny_letOwnedTupleGo_enum ho λg' Jv sb=>?_;have hs:=sb.extBut;have elt:e<s.heap.objs.size:=cC he;have ilt:it<s.heap.objs.size:=cC lH;have nw:Nw H (upd H s.heap.objs.size (.tup [.int i,x])) s.heap.objs.size (.tup [.int i,x]):=.of (I.aY.fresh (bK _));have I1:Inv X aw O (upd H s.heap.objs.size (.tup [.int i,x])) {s with heap:=s.heap.push {cls:=.type "tuple",data:=.seq #[.int i tk,y]},toks:=tk+1}:=I.laid (t':=tk+1) (λb ob q=>cy _ q) (bK _) ⟨by show 2<=sizeLine;decide,[.int i tk,y],.cons ⟨tk,Z⟩ (.cons lb .nil),⟨_,eV _ Z,Z,_,Z⟩⟩;have II:∀c∈[e,it],c<s.heap.objs.size:=λc hc=>by
   simp only[bL,cE,dv]at hc;rcases hc with rfl|rfl
   ·exact elt
   ·exact ilt
  have hn:∀c∈[e,it],upd H s.heap.objs.size (.tup [.int i,x]) c=none:=λc hc=>by rw[aO (fA (II c hc))];exact(hf c hc).1
  have I2:Inv X aw O (upd H s.heap.objs.size (.tup [.int i,x])) {s with heap:=g',toks:=tk+1}:=Inv.yz (s:={s with heap:=s.heap.push {cls:=.type "tuple",data:=.seq #[.int i tk,y]},toks:=tk+1}) (t':=tk+1) (fp:=[e,it]) I1 (λc o hc q=>by
   have q:(s.heap.push {cls:=.type "tuple",data:=.seq #[.int i tk,y]}).get? c=some o:=q;have nz:c≠e:=λz=>hc (by simp[z]);rcases WL q with⟨xx,rfl⟩|q'
   ·subst xx
    exact hs _ _ nz hT
   ·exact hs _ _ nz (kp c o nz (λz=>hc (by simp[z])) q')) (λc hc=>by obtain⟨f0,f1,f2,f3,f4,f5⟩:=hf c hc;exact⟨hn c hc,f1,f2,f3,f4,f5⟩);refine⟨.ref s.heap.objs.size,_,I2,Z,⟨s.heap.objs.size,x,Z,λzs hz=>?_,nw⟩,⟨⟨_,by simpa using Jv⟩,gD.1.to λo q=>hs _ o (e9 D) q⟩,hn⟩;rw[fi.inj I hz q1];exact e1
 done:=by
  intro X hP hw hK hc i aw s O H E I hf st hg;subst hP hw hK;obtain⟨xs,q1,qc⟩:=hg;obtain⟨its,r1,p1⟩:=q1.get I;obtain⟨⟨old,he⟩,h1⟩:=st;obtain⟨oi,lH,ci,_⟩:=h1.ob;have IW:∃o,s.heap.get? l=some o/\(o.cls= .type "list"\/o.cls= .type "tuple"):=by cases b<;>(obtain⟨o,ho,cc,_⟩:=p1;first|exact⟨o,ho,.inl cc⟩|exact⟨o,ho,.inr cc⟩)
  obtain⟨ol,uI,cl⟩:=IW;have nil:l≠it:=λz=>by subst z;rw[lH]at uI;cases uI;rw[ci]at cl;cases b<;>(rcases cl with h|h<;>simp[sJ]at h)
  have hi:i=its.toArray.size:=by rw[eg,<-r1.length];exact qc.symm
  subst hi;refine wpAny_pyNext_enum_endD (Ue (I.ok.hd hc) nil) he ⟨h1,p1⟩ λh' kp=>⟨Z,?_⟩;exact I.yz (t':=s.toks) (fp:=[e,it]) (λc o hc q=>kp c o (λz=>hc (by simp[z])) q) hf
 self:=λ_ _ _ _ _ st h=>by obtain⟨⟨old,he⟩,_⟩:=st;exact wpAny_pyIter_enum he h
inductive adP(K:aa)(b:Bool)(R:It->Hp->Prop)(vs:List V)(H1:Hp):Prop |mk (l:_)(h0:vs=[.ref l])(h1:(∃xs,fi b K H1 l xs))(h2:R (Az K b l) H1)
def a5c(K:aa)(b:Bool)(ta:TA):TI:=λO H R=>ta O H λvs H1=>adP K b R vs H1
theorem a0N(K:aa){X:Cx}(hK:X.K=K)(b:Bool){elts:List Expr}{kt:Nat}{p9:Pos}{a:Expr}{ta:TA}{p pos:Pos}(hg:Gl X "enumerate")(hm:X.mg "enumerate"=none)(ha:PA X [a] ta)(hs:starEach [a] X.env=[(false,eval a X.env)]:=by rfl)(jn:starEach [] X.env=[]:=by rfl): PI X (.Tuple elts kt p9) (.Call (.Name "enumerate" p) [a] [] pos) (a5c K b ta):=by
 subst hK;intro aw s O H R I h;refine Call_ (pQ I hg hm PyProof.Rows.boot_enumerate (yg (bc (ha pos aw s O H _ I h) λus s1 ⟨vs,H1,I1,r1,q1⟩=>?_) (by rw[hs,jn]) (by rw[jn];rfl)));obtain⟨l,e,⟨xs,h1⟩,q⟩:=q1;subst e;obtain⟨u1,rfl,lb⟩:=vals1 r1;cases(show u1=Value.ref l from lb);obtain⟨J3,v1,p1⟩:=h1.get I1;refine a9Q p1 λg zg ig kp=>wpAny_pyIter_enum zg ?_;refine⟨_,_,_,_,H1,Z,I1.kept (t':=s1.toks) kp,Xt (AK (Wz _)),⟨⟨_,zg⟩,ig⟩,λc hc=>?_,q⟩;have hle:s1.heap.objs.size<=c:=by simp only[bL,cE,dv]at hc;rcases hc with rfl|rfl<;>first|exact bK _|exact Nat.le_add_right _ _
 exact I1.qj hle (I1.aY.fresh hle)
theorem a8b{K:aa}{b:Bool}{a:Addr}{xs:List V}{g:TG}{tb:TS}{D:Ends}{O:St}{H:Hp}(Pv:Nat->St->Hp->Prop)(h0:Pv 0 O H)(hl:∀i O H,i<=xs.length->Pv i O H->fi b K H a xs) (hs:∀i x O H,xs[i]? =some x->Pv i O H->∀T H',Nw H H' T (.tup [.int i,x])->g (.ref T) O H' λσ2 H2=>tb {D with nx:=Pv (i+1),ct:=Pv (i+1),bk:=D.nx} σ2 H2)(hd:∀O H,Pv xs.length O H->D.nx O H): ∃W:Nat->Nat->St->Hp->Prop,(∃m,W 0 m O H)/\∀i m O H,W i m O H->((Az K b a).stop i H/\D.nx O H)\/((Az K b a).go i H/\∃N:St->Hp->Prop,(∀σ' H',N σ' H'->∃m',m'<m/\W (i+1) m' σ' H')/\∀x H',(Az K b a).jO i H x H'->g x O H' λσ2 H2=>tb {D with nx:=N,ct:=N,bk:=D.nx} σ2 H2):=by
 refine⟨λi m O H=>m=xs.length-i/\i<=xs.length/\Pv i O H,⟨xs.length,by simp,gy _,h0⟩,?_⟩;rintro i m O H ⟨rfl,hi,p⟩;have q:=hl i O H hi p;by_cases cJ:i<xs.length
 ·refine .inr ⟨⟨xs,xs[i],q,by simp[cJ]⟩,Pv (i+1),λσ' H' p'=>⟨xs.length-(i+1),au,Z,cJ,p'⟩,λx H' y=>?_⟩
  obtain⟨T,z,rfl,ez,nw⟩:=y;exact hs i z O H (ez xs q) p T H' nw
 ·have e:i=xs.length:=by lia
  subst e;exact .inl ⟨⟨xs,q,Z⟩,hd O H p⟩
theorem a88{K:aa}{b1 b2:Bool}{a1 a2:Addr}{xs ys:List V}{g:TG}{tb:TS}{D:Ends}{O:St}{H:Hp}(n:Nat)(hn:n=min xs.length ys.length)(Pv:Nat->St->Hp->Prop)(h0:Pv 0 O H)(hl:∀i O H,i<=n->Pv i O H->fi b1 K H a1 xs/\fi b2 K H a2 ys) (hs:∀i x y O H,xs[i]? =some x->ys[i]? =some y->Pv i O H->∀T H',Nw H H' T (.tup [x,y])->g (.ref T) O H' λσ2 H2=>tb {D with nx:=Pv (i+1),ct:=Pv (i+1),bk:=D.nx} σ2 H2)(hd:∀O H,Pv n O H->D.nx O H): ∃W:Nat->Nat->St->Hp->Prop,(∃m,W 0 m O H)/\∀i m O H,W i m O H->((ny K b1 b2 a1 a2).stop i H/\D.nx O H)\/((ny K b1 b2 a1 a2).go i H/\∃N:St->Hp->Prop,(∀σ' H',N σ' H'->∃m',m'<m/\W (i+1) m' σ' H')/\∀x H',(ny K b1 b2 a1 a2).jO i H x H'->g x O H' λσ2 H2=>tb {D with nx:=N,ct:=N,bk:=D.nx} σ2 H2):=by
 refine⟨λi m O H=>m=n-i/\i<=n/\Pv i O H,⟨n,by simp,gy _,h0⟩,?_⟩;rintro i m O H ⟨rfl,hi,p⟩;obtain⟨q1,q2⟩:=hl i O H hi p;by_cases cJ:i<n
 ·have l1:i<xs.length:=by lia
  have l2:i<ys.length:=by lia
  refine .inr ⟨⟨xs,ys,xs[i],ys[i],q1,q2,by simp[l1],by simp[l2]⟩,Pv (i+1),λσ' H' p'=>⟨n-(i+1),au,Z,cJ,p'⟩,λx H' y=>?_⟩;obtain⟨T,z1,z2,rfl,e1,e2,nw⟩:=y;exact hs i z1 z2 O H (e1 xs q1) (e2 ys q2) p T H' nw
 ·have e:i=n:=by lia
  subst e;exact .inl ⟨⟨xs,ys,q1,q2,au⟩,hd O H p⟩
section
variable {X:Cx}
theorem a1d(K:aa)(h:X.K=K){o:Expr}{to:TE}{apos cD:Pos}(ho:PE X o to)(jr:attributeBase o "clear" X.env (eval o X.env)=eval o X.env:=by rfl)(jo:(apos.endLine==cD.line)=true:=by rfl): PE X (.Call (.Attribute o "clear" apos) [] [] cD) (MP K "list" PX to):=by subst h;exact a18 AJ PySem.F.slot_list_clear PySem.F.type_list_clear a3A ho jr jo
theorem Qg(K:aa)(h:X.K=K){o e:Expr}{to:TE}{t:TA}{apos cD:Pos}(ho:PE X o to)(ha:PA X [e] t) (jr:attributeBase o "pop" X.env (eval o X.env)=eval o X.env:=by rfl) (lJ:((backTo cD (starEach [e] X.env)).all (λx=>!x.1)&&(backToKw cD (keywordEach [] X.env)).all (λx=>x.1.isSome) &&decide ([e].length+([]:List Keyword).length+(if([]:List Keyword).isEmpty then 0 else 1)<30))=true:=by rfl) (jo:(apos.endLine==cD.line)=true:=by rfl)(hs:starEach [e] X.env=(false,eval e X.env)::starEach [] X.env:=by rfl)(lG:(backTo cD (starEach [] X.env)).any (·.1)=false:=by rfl): PE X (.Call (.Attribute o "pop" apos) [e] [] cD) (tP K "list" PU to t):=by subst h;exact wB AJ PySem.F.slot_list_pop PySem.F.type_list_pop a3y ho ha jr lJ jo hs lG
end
set_option maxHeartbeats 1000000 in
theorem BL{X:Cx}{N:List Str}{js:List (Option Nat)}{elt tg iter:Expr}{ifs:List Expr}{scope:Scope}{pos:Pos}{wi:TI}{g:TG}{tt:TT}{te:TE}{i0:Nat}{x0:Str}{wx N0:Pos}(hNd:X.N.Nodup)(hix:X.N[i0]? =some x0)(zH:Loc X.env.scope x0)(hc:X.calm=true)(hN:Dq X N js scope=true)(hS:xR X scope=true) (hi:PI X tg iter wi)(hg:∀cl s H fp aw,PG (gh X N scope cl s H fp aw) tg g)(ht:∀cl s H fp aw,Lm (gh X N scope cl s H fp aw) ifs tt)(he:∀cl s H fp aw,PE (gh X N scope cl s H fp aw) elt te) (hsw:swapsWith (.ListComp elt [⟨tg,iter,ifs,0⟩] scope pos) (some (.Name x0 wx)) N0.line X.env=pure true:=by rfl)(hf0:X.fn x0=true\/X.env.scope.names.lookup x0=some .local:=by first|exact .inl rfl|exact .inr rfl) (hs:∀x,foldedSetIterable iter X.env x=pure x:=by intro _;rfl):PS X (.Assign [.Name x0 wx] (.ListComp elt [⟨tg,iter,ifs,0⟩] scope pos) N0) (yD (MN js wi g tt te) (fo i0)):=by
 intro aw s O H D0 I h;have uR:=hS;unfold xR at uR;rw[fq,fq]at uR;obtain⟨⟨k1,k2⟩,k3⟩:=uR;have pX:scope.kind= .function:=fz.mp k1;have xq:∀x∈scope.names,x.2= .free->∃c,X.env.cells.lookup x.1=some c:=λx hx e=>by have:=je.mp k3 x hx;rw[e]at this;exact I.ok.has x.1 (.inl (fz.mp this))
 have mU:∀x∈scope.names,x.2≠ .cell:=λx hx e=>by have:=je.mp k3 x hx;rw[e]at this;exact kF this
 have Jl:∀x∈scope.names,x.2= .local->scope.names.lookup x.1=some .local:=λx hx e=>by have:=je.mp k3 x hx;rw[e]at this;exact fz.mp this
 obtain⟨cl,Jx,c1,c2⟩:=UW xq;rw[exec_Assign_Name_used _ _ _ _ hsw];refine aK (y9 (aK ?_));show wpAny _ X.A (do let _<-comprehension (.ListComp elt [⟨tg,iter,ifs,0⟩] scope pos) scope X.env _ (newList []) false (eval iter X.env) (some (assign (.Name x0 wx) X.env))) _ _ s;refine aK (iM (wpAny_comprehension_free (use:=some (assign (.Name x0 wx) X.env)) (Q:=λ_ s'=>SP X aw D0 .next s') Z hs Jx pX Jl (bc (hi aw s O H _ I h) λv s1 h1=>bc h1 λCo s2 h2=>?_)) (λ_ s' hq=>cf (cf hq)) λ_ _ e=>e);obtain⟨it,fp,tn,J,H2,e,I2,T,tQ,f2,h2⟩:=h2;subst e;have hD:H2 s2.heap.objs.size=none:=I2.aY.fresh (bK _);obtain⟨W,⟨m0,w0⟩,turn⟩:=h2 _ _ (Nw.of hD);refine qE (Wa mU (by intro y hy;simp at hy) (λh₁ zN zJ=>?_) pX);have uV:∀b∈fp,b<s2.heap.objs.size:=λb hb=>by obtain⟨o,e,_⟩:=T.obj _ _ tQ b hb;exact cC e
 have I3:Inv X aw O (upd H2 s2.heap.objs.size (.lst [])) {s2 with heap:=s2.heap.push {cls:=.type "list",dict:=none,data:=.seq ([]:List Value).toArray}}:=I2.RC (its:=[]) (t':=s2.toks) .nil (gy _);generalize zU:s2.heap.push {cls:=.type "list",dict:=none,data:=.seq ([]:List Value).toArray}=h3 at I3 zN zJ;have yE:h3.objs.size=s2.heap.objs.size+1:=by rw[<-zU,qJ]
 have J0:∀b o,s2.heap.get? b=some o->h3.get? b=some o:=λb o e=>by rw[<-zU];exact cy _ e
 have f3:∀b∈fp,lS X aw (upd H2 s2.heap.objs.size (.lst [])) b:=λb hb=>⟨by rw[aO (fA (uV b hb))];exact(f2 b hb).1,(f2 b hb).2⟩;have zB:∀b o,h3.get? b=some o->h₁.get? b=some o:=λb o e=>(zJ.2 b (fA (cC e))).trans (cy _ e);have I4:Inv (gh X N scope cl {s2 with heap:=h3} (upd H2 s2.heap.objs.size (.lst [])) fp aw) [] (stC js O) (upd H2 s2.heap.objs.size (.lst [])) {s2 with heap:=h₁,toks:=s2.toks+([]:List (Str×Value)).length}:=I3.comp (s:={s2 with heap:=h3}) hN hS c1 c2 f3 (λb hb=>by show b<h3.objs.size;rw[yE];exact LO (uV b hb)) (by simpa using zN) zB;have yG:tn 0 h₁:=T.keep _ _ _ tQ λb _ o e=>zB b o (J0 b o e);have loop:codeAny (model X.prog X.w) X.A (.compLoop (.ListComp elt [⟨tg,iter,ifs,0⟩] scope pos) 0 (.ref it) (.ref s2.heap.objs.size) (compEnvC scope cl h3.objs.size X.env)) (compPost (model X.prog X.w) X.A X.xe (some (assign (.Name x0 wx) X.env)) (λ_ s'=>SP X aw D0 .next s') (.ref s2.heap.objs.size) h3.objs.size) {s2 with heap:=h₁,toks:=s2.toks+([]:List (Str×Value)).length}:=by
  refine UQ (λn s'=>∃i σ' H',Inv (gh X N scope cl {s2 with heap:=h3} (upd H2 s2.heap.objs.size (.lst [])) fp aw) [] σ' H' s'/\tn i s'.heap/\(∀b∈fp,H' b=none)/\W i n σ' H') ?_ m0 ⟨0,_,_,I4,yG,λb hb=>(f3 b hb).1,w0⟩;rintro n s5 ⟨i,σ5,H5,I5,pk,uU,w5⟩;have mG:∀{H':Hp},(∀b∈fp,H' b=none)->∀b∈fp,lS (gh X N scope cl {s2 with heap:=h3} (upd H2 s2.heap.objs.size (.lst [])) fp aw) [] H' b:=λ{H'} hn b hb=>by
   obtain⟨_,q1,q2,q3,q4,q5⟩:=f3 b hb;refine⟨hn b hb,λz=>?_,I4.ok.si b hb,.inl hb,λx c e=>q4 x c (c1 x c e),λp hp=>q5 p (by simpa[gh]using hp)⟩;have cJ:b<h3.objs.size:=by rw[yE];exact LO (uV b hb)
   exact fA cJ z
  rcases turn i n σ5 H5 w5 with⟨stop,qn⟩|⟨go,step⟩
  ·refine bc (T.done (gh X N scope cl {s2 with heap:=h3} (upd H2 s2.heap.objs.size (.lst [])) fp aw) rfl rfl rfl hc i [] s5 σ5 H5 _ I5 (mG uU) pk stop) λr s6 ⟨hr,I6⟩=>?_
   subst hr;obtain⟨m,hm,_⟩:=I6.loc;have u0:Un (cX X.stack) fp (upd H2 s2.heap.objs.size (.lst [])) H5 h3 s6.heap:=I6.ay;have I7:Inv X aw O H5 s6:=I3.Dt (s':=s6) (ch:=fp) I6.os u0 I6.aY I6.bare λb hb=>⟨(f3 b hb).2.2.2.1,(f3 b hb).2.1,(f3 b hb).2.2.2.2.1,(f3 b hb).2.2.2.2.2⟩;have hC:lS X aw H5 h3.objs.size:=I3.qj (bK _) I6.free;show wpAny _ X.A (assign (.Name x0 wx) X.env (.ref s2.heap.objs.size)) _ _ s6;refine wpAny_assign_Name (MU I7 hNd hix zH (show RelV (.ref s2.heap.objs.size) (.ref s2.heap.objs.size)from Z) (λs8 I8 Jd=>?_) hf0);obtain⟨a,sb,ha⟩:=Jd;have hCa:h3.objs.size≠a:=by
    rcases ha with rfl|ha
    ·exact hC.2.1
    ·exact λz=>hC.2.2.2.2.1 x0 a ha z.symm
   refine⟨m,hm.sameBut sb hCa,λh9 hs9=>⟨_,H5,?_,qn⟩⟩;exact I8.yz (t':=s8.toks) (fp:=[h3.objs.size]) (λb o hb e=>hs9.extBut b o (λz=>hb (by simp[z])) e) λb hb=>by rw[cH.mp hb];exact hC
  ·refine bc (T.item (gh X N scope cl {s2 with heap:=h3} (upd H2 s2.heap.objs.size (.lst [])) fp aw) rfl rfl rfl hc i [] s5 σ5 H5 _ I5 (mG uU) pk go) λr s6 ⟨u,hr,h6⟩=>?_
   subst hr;refine bc h6 λ_ s7 ⟨x,H7,I7,r7,y7,pj,JQ⟩=>?_;have Ls:=I7.pinned (mG JQ) (T.obj _ _ pj);refine bc (hg _ _ _ _ _ _ s7 σ5 H7 x u _ Ls r7 (step x H7 y7)) λ_ s8 ⟨σ8,H8,I8,q8⟩=>?_;refine bc (ht _ _ _ _ _ _ s8 σ8 H8 _ I8 q8) λok s9 ⟨H9,I9,q9⟩=>?_;have again:∀{s':ae}{σ7:St}{H7:Hp},Inv (gh X N scope cl {s2 with heap:=h3} (upd H2 s2.heap.objs.size (.lst [])) fp aw) ([]++wz fp s7.heap) σ7 H7 s'->(∃m',m'<n/\W (i+1) m' σ7 H7)->∃m,m<n/\∃i σ' H',Inv (gh X N scope cl {s2 with heap:=h3} (upd H2 s2.heap.objs.size (.lst [])) fp aw) [] σ' H' s'/\tn i s'.heap/\(∀b∈fp,H' b=none)/\W i m σ' H':=λ{s' σ7 H7} J7 n7=>by obtain⟨m',hm,w7⟩:=n7;refine⟨m',hm,i+1,σ7,H7,J7.yt,T.keep _ _ _ pj λb hb o e=>(J7.pin (b,o) (lU _ (lU _ (wW hb e)))).1,λb hb=>?_,w7⟩;obtain⟨o,e,d⟩:=T.obj _ _ pj b hb;exact(J7.pin (b,o) (lU _ (lU _ (wW hb e)))).2.1
   cases ok with |false=>rw[bf kF]at q9⊢;exact again I9 q9 |true=>rw[bh rfl]at q9⊢;refine bc (he _ _ _ _ _ _ s9 σ8 H9 _ I9 q9) λyv m3 ⟨y,jc,xY,yW,ys,pU,hz,kW⟩=>?_;refine bc (IC _ m3 σ8 jc (.ref s2.heap.objs.size) [y] (.ref s2.heap.objs.size) [yv] (λ_ iL=>∃m',m'<n/\W (i+1) m' σ8 iL) xY Z (.cons yW .nil) ⟨_,ys,y,Z,Z,pU,hz,kW⟩) λ_ wu ⟨v11,iL,Lu,HM,yX⟩=>?_;exact again Lu yX
 exact codeAny_compStart_list loop (T.self _ 0 _ _ _ yG loop)
theorem V3:∀{zs:List Str}{us:List Value},Vals (zs.map V.str) us->CarriedAll us (zs.map PyData.str) |[],_,.nil=>.nil |z::zs,_,.cons q r=>by obtain⟨t,rfl⟩:=(show∃t,_=Value.str z t from q);exact .cons (.str z t) (V3 r)
section
variable {X:Cx}
inductive adn(K:aa)(x:V)(vs:List V)(H:Hp)(Q:VK):Prop |mk (sep:Str)(l:Addr)(zs:List Str)(h0:x= .str sep)(h1:vs=[.ref l])(h2:aH K H l (zs.map V.str))(h3:(∀z∈zs,z.length<=8))(h4:sep.length<=8)(h5:zs.length<=1000)(h6:Q (.str (Txt.join sep zs)) H)
def rJoin(K:aa):V->List V->Hp->VK->Prop:=λx vs H Q=>adn K x vs H Q
theorem a3B(K:aa)(hK:X.K=K):Ax X "str.join" (rJoin K):=by subst hK;intro aw s O H x vs v us Q I rx rv h;obtain⟨sep,l,zs,rfl,rfl,hl,hz,hs,hn,q⟩:=h;obtain⟨t,rfl⟩:=rx;obtain⟨u,rfl,ru⟩:=vals1 rv;cases(show u=Value.ref l from ru);obtain⟨its,r,pl,_⟩:=I.list hl;refine join_madeW (l:=zs) (g:=id) 8 pl.isList (by rw[List.map_id];exact V3 r) (λa ha=>hz a ha) au au λt' k=>?_;rw[List.map_id];exact⟨.str _,H,I.tok _,⟨_,Z⟩,q⟩
theorem a19(K:aa)(h:X.K=K){o e:Expr}{to:TE}{t:TA}{apos cD:Pos}(ho:PE X o to)(ha:PA X [e] t) (jr:attributeBase o "join" X.env (eval o X.env)=eval o X.env:=by rfl) (lJ:((backTo cD (starEach [e] X.env)).all (λx=>!x.1)&&(backToKw cD (keywordEach [] X.env)).all (λx=>x.1.isSome) &&decide ([e].length+([]:List Keyword).length+(if([]:List Keyword).isEmpty then 0 else 1)<30))=true:=by rfl) (jo:(apos.endLine==cD.line)=true:=by rfl)(hs:starEach [e] X.env=(false,eval e X.env)::starEach [] X.env:=by rfl)(lG:(backTo cD (starEach [] X.env)).any (·.1)=false:=by rfl): PE X (.Call (.Attribute o "join" apos) [e] [] cD) (tP K "str" (rJoin K) to t):=by subst h;exact wB PySem.F.plainAttrs_str PySem.F.slot_str_join PySem.F.type_str_join (a3B X.K rfl) ho ha jr lJ jo hs lG
end
section
variable {X:Cx}{aw:List (Addr×Obj)}{O:St}{H:Hp}{s:ae}
end
section
variable {X:Cx}
theorem aaL:fJ X (.type "range") (λxs H Q=>∃n,xs=[.int n]/\∀p H',Nw H H' p (.u7 0 n)->Q (.ref p) H'):=by intro aw s O H xs us Q I r h;obtain⟨n,rfl,q⟩:=h;obtain⟨u,rfl,t,rfl⟩:=vals1 r;refine call_range_1 ?_;have hf:H s.heap.objs.size=none:=I.aY.fresh (bK _);refine⟨.ref s.heap.objs.size,upd H s.heap.objs.size (.u7 0 n),I.laid (t':=s.toks+1+1) (λb u e=>cy _ e) (bK _) ?_,Z,q _ _ (.of hf)⟩;exact⟨_,_,_,eV _ Z⟩
end
theorem Ye:isSubtype (.type "range_iterator") (.type "reversed")=pure false:=by rw[isSubtype_type];kernel_rfl
section
variable {prog:ah}{w:World}{A:aj}{E:Value->ae->Prop}{s:ae}
abbrev yU(n:Nat):Obj:={cls:=.type "range_iterator",data:=.fields #[rawInt (0+((n:Int)-1)*1),rawInt (n:Int),rawInt (-1)]}
abbrev Hc(n:Nat):Bool:=Builtin.Range.rangeFitsLong 0&&Builtin.Range.rangeFitsLong n&&Builtin.Range.rangeFitsLong 1&&Builtin.Range.rangeFitsLong (-1)&&Builtin.Range.rangeFitsLong (0-1)&&Builtin.Range.rangeFitsLong (Builtin.Range.rangeSize 0 n 1)
theorem Pm(h:n<2^62):Hc n=true:=by unfold Hc;rw[rangeSize_one];simp only[Builtin.Range.rangeFitsLong,fq,AI];split<;>lia
theorem ZQ(r:Addr)(a b c:Int)(t u v:Tok)(hc0:¬(!(Builtin.Range.rangeFitsLong a&&Builtin.Range.rangeFitsLong b&&Builtin.Range.rangeFitsLong c&&Builtin.Range.rangeFitsLong (-c)&&Builtin.Range.rangeFitsLong (a-c)&&Builtin.Range.rangeFitsLong (Builtin.Range.rangeSize a b c)))=true):Meets (Builtin.«range.__reversed__» ⟨[.ref r],[]⟩) (λ_ R s=>s.heap.get? r=some {cls:=.type "range",dict:=none,data:=.fields #[.int a t,.int b u,.int c v],slots:=#[]}/\R (.ok (.ret (.ref s.heap.objs.size))) {s with heap:=s.heap.push {cls:=.type (if(Builtin.Range.rangeFitsLong a&&Builtin.Range.rangeFitsLong b&&Builtin.Range.rangeFitsLong c&&Builtin.Range.rangeFitsLong (-c)&&Builtin.Range.rangeFitsLong (a-c)&&Builtin.Range.rangeFitsLong (Builtin.Range.rangeSize a b c))=true then "range_iterator" else "longrange_iterator"),data:=.fields #[rawInt (a+(Builtin.Range.rangeSize a b c-1)*c),rawInt (Builtin.Range.rangeSize a b c),rawInt (-c)]},toks:=s.toks}):=.of_wp λprog w A R s h=>by
 obtain⟨hp,g,d,tk,os⟩:=s;obtain⟨hl,h⟩:=h
 wp_walk;exact⟨_,Z,h⟩
theorem aaJ{l:Addr}{n:Nat}{t u v:Tok}{Q:Value->ae->Prop}(hn:n<2^62)(hl:s.heap.get? l=some {cls:=.type "range",data:=.fields #[.int 0 t,.int n u,.int 1 v]}) (h:Q (.ref s.heap.objs.size) {s with heap:=s.heap.push (yU n)}):wpAny (model prog w) A (call (.builtin "range.__reversed__") [.ref l]) Q E s:=by
 have hT:s.TypeIs (.ref l) "range":=⟨_,hl,Z⟩;refine sY WM hT F.entry_range_reversed (F.args_range_reversed_1 _) (ZQ l 0 n 1 t u v (by have:=Pm hn;unfold Hc at this;rw[this];decide)) ⟨hl,?_⟩;rw[bh (Pm hn)];have e:Builtin.Range.rangeSize 0 n 1=n:=by rw[rangeSize_one];split<;>lia
 rw[e];exact h
theorem aaz{l:Addr}{n:Nat}{t u v:Tok}{Q₁:Value->ae->Prop}(hn:n<2^62)(hl:s.heap.get? l=some {cls:=.type "range",data:=.fields #[.int 0 t,.int n u,.int 1 v]}) (h:Q₁ (.ref s.heap.objs.size) {s with heap:=s.heap.push (yU n)}): codeAny (model prog w) A (.call (.builtin "reversed.__new__") ⟨[.type "reversed",.ref l],[]⟩) (wants Q₁ E) s:=by
 have hT:s.TypeIs (.ref l) "range":=⟨_,hl,Z⟩;refine codeAny_of_tree ?_;show wpAny _ A.in1 (do checkBuiltinCall "reversed.__new__" ⟨[.type "reversed",.ref l],[]⟩;again (.builtin "reversed.__new__" ⟨[.type "reversed",.ref l],[]⟩)) _ _ s;refine aK (AF (F.newCall_reversed_1 _) (cf ⟨plainId_quiet F.plain_reversed_new _,codeAny_builtin F.entry_reversed_new ?_⟩));rw[Around.under_plainId F.plain_reversed_new _];unfold Builtin.«reversed.__new__»;refine aK (AF (newClass_reversed _) ?_)
 try dsimp only
 refine aK (AF (a:=()) (by first|rfl|kernel_rfl) ?_);refine aK (AF (a:=()) (by first|rfl|kernel_rfl) ?_)
 try dsimp only
 refine aK (wpAny_specialOf hT WM.lookup ?_)
 try dsimp only
 refine aK (AF (WM.bind _) ?_)
 try dsimp only
 first |rw[bf (show¬((Value.builtin "range.__reversed__"==Value.none)=true)from kF)] |(show wpAny _ _ (if(Value.builtin "range.__reversed__"==Value.none)=true then _ else _) _ _ _;rw[bf (show¬((Value.builtin "range.__reversed__"==Value.none)=true)from kF)])
 refine aK (wpAny_rule ?_);refine aK (m:=runValue (.call (.builtin "range.__reversed__") ⟨[.ref l],[]⟩)) (show wpAny _ _ (call (.builtin "range.__reversed__") [.ref l]) _ _ _ from aaJ hn hl ?_)
 first |exact cf h |exact aK (cf (cf h))
theorem aaK{l:Addr}{n:Nat}{t u v:Tok}{Q:Value->ae->Prop}(hn:n<2^62)(hl:s.heap.get? l=some {cls:=.type "range",data:=.fields #[.int 0 t,.int n u,.int 1 v]}) (h:Q (.ref s.heap.objs.size) {s with heap:=s.heap.push (yU n)}):wpAny (model prog w) A (call (.type "reversed") [.ref l]) Q E s:=by refine callType_other (U:="range_iterator") (Q₁:=λobj s₁=>obj= .ref s.heap.objs.size/\s₁={s with heap:=s.heap.push (yU n)}) aW F.create_reversed ⟨_,_,F.mro_reversed⟩ F.made_reversed Ye (F.typeCall_reversed_1 _) (aaz hn hl ⟨Z,Z⟩) ?_;rintro obj s₁ ⟨rfl,rfl⟩;exact⟨⟨_,eV _ Z,Z⟩,h⟩
end
def Ay(n:Nat):It:=⟨λi _=>i<n,λi H x H'=>H'=H/\x= .int ((n:Int)-1-i),λi _=>n<=i⟩
theorem Xq{P:ah}{w:World}{K:aa}{tg:Expr}(it:Addr)(n:Nat):Turn P w K tg (Ay n) [it] it (λi h=>IsRangeIter h it ((0+((n:Int)-1)*1)+(i:Nat)*(-1)) ((n:Int)-(i:Nat)) (-1)) where
 mem:=by simp
 obj:=λi h st b hb=>by
  have e:b=it:=by simpa using hb
  subst e;exact⟨_,st,λv z=>by have z':Data.fields _=Data.cell v:=z;cases z'⟩
 keep:=λi h h' st k=>k it (by simp) _ st
 item:=by
  intro X hP hw hK hc i aw s O H E I hf st hg;subst hP hw hK;obtain⟨f0,f1,f2,f3,f4,f5⟩:=hf it (by simp);have W:=Walks.range (prog:=X.prog) (w:=X.w) (I.ok.hd hc) it (0+((n:Int)-1)*1) (-1) n;refine W.item i s _ _ hg st λv h' tk hv gZ kk=>?_;obtain⟨t,rfl⟩:=hv;have I1:Inv X aw O H {s with heap:=h',toks:=tk}:=I.turned (λb o hb e=>kk b o (by simpa using hb) e) f0 f1 f3 f4 f5;refine⟨_,Z,xB (s:={s with heap:=h',toks:=tk}) (n:="range_iterator") gZ rfl rfl aA ⟨.int ((n:Int)-1-i),H,I1,⟨t,?_⟩,⟨Z,Z⟩,gZ,λb hb=>(hf b hb).1⟩⟩;have e:(0+((n:Int)-1)*1)+(i:Int)*(-1)=(n:Int)-1-i:=by lia
  rw[e]
 done:=by intro X hP hw hK hc i aw s O H E I hf st hg;subst hP hw hK;obtain⟨f0,f1,f2,f3,f4,f5⟩:=hf it (by simp);exact W9 (I.ok.hd hc) st (by have:n<=i:=hg;lia) λh' eb=>⟨Z,I.turned (t':=s.toks) (λb o hb e=>eb b o hb e) f0 f1 f3 f4 f5⟩
 self:=λ_ _ _ _ _ st h=>Ly st h
inductive adN(R:It->Hp->Prop)(vs:List V)(H1:Hp):Prop |mk (p:_)(n:_)(h0:vs=[.ref p])(h1:H1 p=some (.u7 0 n))(h2:0<=n)(h3:n<2^62)(h4:R (Ay n.toNat) H1)
def a5b(ta:TA):TI:=λO H R=>ta O H λvs H1=>adN R vs H1
theorem a0K(hg:Gl X "reversed")(hm:X.mg "reversed"=none)(ha:PA X [a] ta)(hs:starEach [a] X.env=[(false,eval a X.env)]:=by rfl)(jn:starEach [] X.env=[]:=by rfl): PI X tg (.Call (.Name "reversed" p) [a] [] pos) (a5b ta):=by
 intro aw s O H R I h;refine Call_ (pQ I hg hm PyProof.Rows.boot_reversed (yg (bc (ha pos aw s O H _ I h) λus s1 ⟨vs,H1,I1,r1,q1⟩=>?_) (by rw[hs,jn]) (by rw[jn];rfl)));obtain⟨l,n,e,hl,n0,n1,q⟩:=q1;subst e;obtain⟨u1,rfl,lb⟩:=vals1 r1;cases(show u1=Value.ref l from lb);obtain⟨t,u,v,e⟩:∃t u v,s1.heap.get? l=some {cls:=.type "range",data:=.fields #[.int 0 t,.int n u,.int 1 v]}:=I1.aY l _ hl;obtain⟨m,rfl⟩:∃m:Nat,n=m:=⟨n.toNat,au⟩;refine aaK au e ?_;have hit:IsRangeIter (s1.heap.push (yU m)) s1.heap.objs.size ((0+((m:Int)-1)*1)+((0:Nat):Int)*(-1)) ((m:Int)-((0:Nat):Int)) (-1):=by
  have e1:(0+((m:Int)-1)*1)+((0:Nat):Int)*(-1)=0+((m:Int)-1)*1:=by lia
  have e2:(m:Int)-((0:Nat):Int)=m:=by lia
  rw[e1,e2];exact eV _ rfl
 refine Ly hit ?_;refine⟨s1.heap.objs.size,[s1.heap.objs.size],_,_,H1,Z,I1.kept (t':=s1.toks) λb o e=>cy _ e,Xq _ m,hit,λb hb=>?_,q⟩;have e:b=s1.heap.objs.size:=by simpa using hb
 subst e;exact I1.qj (bK _) (I1.aY.fresh (bK _))
theorem a8a{n:Nat}{g:TG}{tb:TS}{D:Ends}{O:St}{H:Hp}(Pv:Nat->St->Hp->Prop)(h0:Pv 0 O H) (hs:∀i O H,i<n->Pv i O H->g (.int ((n:Int)-1-i)) O H λσ2 H2=>tb {D with nx:=Pv (i+1),ct:=Pv (i+1),bk:=D.nx} σ2 H2)(hd:∀O H,Pv n O H->D.nx O H): ∃W:Nat->Nat->St->Hp->Prop,(∃m,W 0 m O H)/\∀i m O H,W i m O H->((Ay n).stop i H/\D.nx O H)\/((Ay n).go i H/\∃N:St->Hp->Prop,(∀σ' H',N σ' H'->∃m',m'<m/\W (i+1) m' σ' H')/\∀x H',(Ay n).jO i H x H'->g x O H' λσ2 H2=>tb {D with nx:=N,ct:=N,bk:=D.nx} σ2 H2):=by
 refine⟨λi m O H=>m=n-i/\i<=n/\Pv i O H,⟨n,by simp,gy _,h0⟩,?_⟩;rintro i m O H ⟨rfl,hi,p⟩;by_cases cJ:i<n
 ·refine .inr ⟨cJ,Pv (i+1),λσ' H' q=>⟨n-(i+1),au,Z,cJ,q⟩,λx H' hy=>?_⟩
  obtain⟨rfl,rfl⟩:=hy;exact hs i O _ cJ p
 ·have e:i=n:=by lia
  subst e;exact .inl ⟨bK _,hd O H p⟩
theorem HN(K:aa){X:Cx}(hK:X.K=K){a:Expr}{ta:TE}(ha:PE X a ta)(he:∀whole,isTrue a X.env whole=(do let v<-whole;standAt a.pos;holding [v] (truthy v)):=by intro _;rfl): PT X a (λO H Q=>ta O H λx H'=>∃k,Li K x H' k/\Q k H'):=by subst hK;exact a0s ha he
end L2
namespace Cn
open Ln
def dH(ns ms:List Int):List Int:=(ns.zip ms).map λp=>p.1*(aM ms:Int)-p.2*(aM ns:Int)
theorem a3K(h:z∈dH ns ms):∃a b,a∈ns/\b∈ms/\z=a*(aM ms:Int)-b*(aM ns:Int):=by obtain⟨⟨a,b⟩,hp,rfl⟩:=kC.mp h;exact⟨a,b,(AM hp).1,(AM hp).2,Z⟩
theorem lD{a b:Int}{m n:Nat}(h:a.natAbs<=m)(g:b.natAbs<=n):(a*b).natAbs<=m*n:=by rw[fY];exact mF h g
theorem Dn(h1:∀z∈ns,z.natAbs<=1000)(h2:∀z∈ms,z.natAbs<=1000):∀z∈dH ns ms,z.natAbs<=2000000:=λz hz=>by obtain⟨a,b,ha,hb,rfl⟩:=a3K hz;have l1:=nZ h1;have l2:=nZ h2;have e1:=lD (b:=(aM ms:Int)) (n:=1000) (h1 a ha) fh;have e2:=lD (b:=(aM ns:Int)) (n:=1000) (h2 b hb) fh;omega
def rO(zs:List Int)(i:Nat):Nat:=aM (zs.take i)
theorem RK:∀(xs ys:List Int),aM (xs++ys)=max (aM xs) (aM ys) |[],ys=>by simp[aM] |x::xs,ys=>by show max x.natAbs (aM (xs++ys))=max (max x.natAbs (aM xs)) (aM ys);rw[RK xs ys];lia
theorem a6k(h:zs[i]? =some z):rO zs (i+1)=max (rO zs i) z.natAbs:=by
 unfold rO;rw[qH,h,RK];show max _ (max z.natAbs 0)=_
 lia
def vj(r:Rat):Rat:=if r.num<0 then-r else r
theorem abz(r:Rat):(vj r).num=iY r.num:=by
 unfold vj iY;split
 ·rfl
 ·rfl
theorem abB(r:Rat):(vj r).den=r.den:=by
 unfold vj;split
 ·rfl
 ·rfl
theorem aad(hb:0<b):0<=(Rat.divInt a b).num↔0<=a:=by rw[Rat.num_nonneg,yd hb]
theorem abA(hL:0<L):vj (Rat.divInt c L)=Rat.divInt (iY c) L:=by
 have h:=aad (a:=c) hL;unfold vj iY;by_cases hc:c<0
 ·rw[bh hc,bh au,Rat.neg_divInt]
 ·rw[bf hc,bf au]
theorem UA(hL:0<L):Rat.divInt a L<=Rat.divInt b L↔a<=b:=by
 rw[Rat.le_iff_sub_nonneg,We _ _ au au,yd (j7 hL hL),<-Int.sub_mul];constructor
 ·intro h
  have:=Int.nonneg_of_mul_nonneg_left h hL
  lia
 ·intro h
  exact jN au au
theorem Uz(hL:0<L):Rat.divInt a L<Rat.divInt b L↔a<b:=by rw[<-Rat.not_le,UA hL];lia
theorem Yd(h1:0<l1)(h2:0<l2):Rat.divInt b l2-Rat.divInt a l1=Rat.divInt (b*l1-a*l2) (l1*l2):=by rw[We _ _ au au,M1 l2 l1]
theorem aap(hp:p≠0)(hh:h≠0)(e:p*L=h*q):Rat.divInt (j*j*q*q) (p*p)=Rat.divInt ((j*L)^2) (h^2):=by
 rw[Rat.divInt_eq_divInt_iff (M0 hp hp) (by rw[fX,fX,lW,kS];exact M0 hh hh)];have e2:(p*L)*(p*L)=(h*q)*(h*q):=by rw[e]
 rw[fX,fX,lW,kS,fX,fX,lW,kS];have a1:j*j*q*q*(h*h)=(j*j)*((h*q)*(h*q)):=by ac_rfl
 have a2:j*L*(j*L)*(p*p)=(j*j)*((p*L)*(p*L)):=by ac_rfl
 rw[a1,a2,e2]
end Cn
namespace Pn
def mn(a b:Rat):Rat:=if b<a then b else a
theorem gJ(a b:Rat):mn a b<=a:=by
 unfold mn;split
 ·next h=>exact LF h
 ·exact tm
theorem kL(a b:Rat):mn a b<=b:=by
 unfold mn;split
 ·exact tm
 ·next h=>exact Rat.not_lt.mp h
theorem lE(h1:c<=a)(h2:c<=b):c<=mn a b:=by unfold mn;split<;>assumption
theorem zt(a b:Rat):mn a b=a\/mn a b=b:=by
 unfold mn;split
 ·exact .inr rfl
 ·exact .inl rfl
theorem nV(hc:c=a\/c=b)(h1:c<=a)(h2:c<=b):mn a b=c:=by
 rcases hc with rfl|rfl
 ·exact E3 (gJ _ _) (lE h1 h2)
 ·exact E3 (kL _ _) (lE h1 h2)
theorem RN{a b c:Rat}(h:a<=b)(hc:0<=c):a<=b+c:=fg h (by have:=(Rat.add_le_add_left (c:=b)).mpr hc;rwa [Rat.add_zero]at this)
section
variable (n:Nat)(own:Nat->Rat)(L:Nat->Option Nat)(r f:Int)
def Pz(g:Nat->Rat):Nat->Rat |0=>g n |k+1=>match L (n-(k+1))with |some m=>mn (g (n-(k+1))) (Pz g k+((f*(m:Int):Int):Rat)) |none=>g (n-(k+1))
def fl(g:Nat->Rat)(i:Nat):Rat:=Pz n L f g (n-i)
end
section
variable {n:Nat}{own g:Nat->Rat}{L:Nat->Option Nat}{r f:Int}
theorem xE:fl n L f g n=g n:=by unfold fl;rw[LM];rfl
theorem xF(hi:i<n)(h:L i=some m):fl n L f g i=mn (g i) (fl n L f g (i+1)+((f*(m:Int):Int):Rat)):=by
 unfold fl;have e:n-i=(n-(i+1))+1:=by omega
 rw[e];show(match L (n-((n-(i+1))+1))with|some m=>_|none=>_)=_;have e2:n-((n-(i+1))+1)=i:=by omega
 rw[e2,h]
theorem xD(hi:i<n)(h:L i=none):fl n L f g i=g i:=by
 unfold fl;have e:n-i=(n-(i+1))+1:=by lia
 rw[e];show(match L (n-((n-(i+1))+1))with|some m=>_|none=>_)=_;have e2:n-((n-(i+1))+1)=i:=by lia
 rw[e2,h]
theorem a3x{a:Int}{m:Nat}(h:0<=a):(0:Rat)<=((a*(m:Int):Int):Rat):=by have:((0:Int):Rat)<=((a*(m:Int):Int):Rat):=Rat.intCast_le_intCast.mpr (jN h au);exact this
theorem down{C:Nat->Prop}(hn:C n)(hs:∀i,i<n->C (i+1)->C i):∀i,i<=n->C i:=by
 have key:∀k,k<=n->C (n-k):=λk=>by induction k with |zero=>intro _;exact hn |succ k ih=>
  intro hk;refine hs _ fh ?_;have e:n-(k+1)+1=n-k:=by omega
  rw[e];exact ih fh
 intro i hi;have:=key (n-i) fh;have e:n-(n-i)=i:=by omega
 rwa [e]at this
end
open Rt
theorem zu(h1:Bd n a)(h2:Bd n b):Bd n (mn a b):=by rcases zt a b with e|e<;>rw[e]<;>assumption
theorem DB{n:Nat}{q:Rat}{z:Int}(h:Bd n q)(hz:z.natAbs<2^24):Bd (n+25) (q+(z:Rat)):=by have b:Bd 24 (z:Rat):=⟨hz,by show 1<2^24;decide⟩;exact(h.add b).mono au
theorem Tz{L:Nat->Option Nat}(ho:∀i,i<=n->Bd b (g i))(hL:∀i m,L i=some m->(f*(m:Int)).natAbs<2^24):∀i,i<=n->Bd (b+25*(n-i)) (fl n L f g i):=by
 refine down ?_ λi hi ih=>?_
 ·rw[xE];exact(ho n (bK _)).mono au
 ·cases h:L i with |none=>rw[xD hi h];exact(ho i au).mono au |some m=>rw[xF hi h];exact zu ((ho i au).mono au) ((DB ih (hL i m h)).mono au)
def lst(n:Nat)(g:Nat->Rat):List Rat:=(List.range (n+1)).map g
theorem rH(n:Nat)(g:Nat->Rat):(lst n g).length=n+1:=by simp[lst]
theorem rJ(g:Nat->Rat){i:Nat}(h:i<=n):(lst n g)[i]? =some (g i):=by unfold lst;rw[cI,cn (by simp;lia),vI];rfl
theorem a49(h:∀k,k<=n->k≠i->g' k=g k):(lst n g).set i (g' i)=lst n g':=by
 apply tH;intro k;by_cases hk:k<=n
 ·rw[rJ g' hk,List.getElem?_set]
  by_cases e:i=k
  ·subst e;rw[bh rfl,bh (by rw[rH];lia)]
  ·rw[bf e,rJ g hk,h k hk (λz=>e z.symm)]
 ·rw[lV (by rw[vG,rH];lia),lV (by rw[rH];lia)]
theorem IJ(h:∀k,k<=n->g' k=g k):lst n g=lst n g':=by
 apply tH;intro k;by_cases hk:k<=n
 ·rw[rJ g hk,rJ g' hk,h k hk]
 ·rw[lV (by rw[rH];lia),lV (by rw[rH];lia)]
end Pn
namespace Ow
open Pn Cn Ln Rt
abbrev Itm:=Option (List Int × Int)
def topR(aB sp:Int):Rat:=Rat.divInt ((sp*aB)^2) 10000
def cornO(j:Int)(ns ms:List Int):Option Rat:=if aM (dH ns ms)=0 then none else some (Rat.divInt ((j*aM ns*aM ms)^2) ((aM (dH ns ms):Int)^2))
def mnO(a:Rat):Option Rat->Rat |none=>a |some c=>mn a c
def betR(j aB:Int):Itm->Itm->Rat |some (ns,sp),some (ms,sq)=>mnO (mn (topR aB sp) (topR aB sq)) (cornO j ns ms) |_,_=>0
def atO(os:List Itm)(i:Nat):Itm:=(os[i]?).join
def ownF(j aB:Int)(os:List Itm):Nat->Rat |0=>0 |i+1=>betR j aB (atO os i) (atO os (i+1))
def leadF(os:List Itm)(i:Nat):Option Nat:=(atO os i).map λq=>aM q.1
def ownL(j aB:Int)(os:List Itm):List Rat:=(List.range (os.length+1)).map (ownF j aB os)
theorem qx(h:os[i]? =some o):atO os i=o:=by unfold atO;rw[h];rfl
theorem abk(h:os.length<=i):atO os i=none:=by unfold atO;rw[lV h];rfl
theorem Dw(j aB:Int)(o:Itm):betR j aB o none=0:=by unfold betR;split<;>simp_all
theorem Vf(j aB:Int)(o:Itm):betR j aB none o=0:=by unfold betR;split<;>simp_all
theorem HV(j aB:Int)(os:List Itm):∀n,n=os.length->ownF j aB os n=0 |0,_=>rfl |n+1,h=>by show betR j aB (atO os n) (atO os (n+1))=0;rw[abk (i:=n+1) au];exact Dw _ _ _
theorem Qj(j aB:Int)(os:List Itm):(ownL j aB os).length=os.length+1:=by simp[ownL]
theorem Qk(j aB:Int)(os:List Itm){i:Nat}(h:i<=os.length):(ownL j aB os)[i]? =some (ownF j aB os i):=by unfold ownL;rw[cI,cn (by simp;lia),vI];rfl
theorem Ql(j aB:Int){os:List Itm}(h:os≠[]):ownL j aB os=[0]++(List.range (os.length-1)).map (λi=>ownF j aB os (i+1))++[0]:=by
 have h0:0<os.length:=LV.mpr h;apply tH;intro i;by_cases hi:i<=os.length
 ·rw[Qk j aB os hi]
  rcases Nat.eq_zero_or_pos i with rfl|hp
  ·rfl
  ·by_cases hl:i=os.length
   ·rw[AU (by simp;lia),hl,HV j aB os _ rfl]
    have:os.length-([0]++List.map (λi=>ownF j aB os (i+1)) (List.range (os.length-1))).length=0:=by simp;lia
    rw[this];rfl
   ·rw[yj (by simp;lia),AU (by simp;lia),cI]
    have e:i-[(0:Rat)].length=i-1:=rfl;rw[e,cn (by simp;lia),vI];show some _=some (ownF j aB os (i-1+1));rw[Nat.sub_add_cancel hp]
 ·rw[lV (by rw[Qj];lia),lV (by simp;lia)]
theorem Bi(aB sp:Int):0<=topR aB sp:=by
 unfold topR;rw[yd aA,fX,fX,lW,kS];rcases Int.le_total 0 (sp*aB)with h|h
 ·exact jN h h
 ·exact WI h h
theorem Yq(a:Int):0<=a^2:=by
 rw[fX,fX,lW,kS];rcases Int.le_total 0 a with h|h
 ·exact jN h h
 ·exact WI h h
theorem aaq(h:cornO j ns ms=some c):0<=c:=by
 unfold cornO at h;split at h
 ·cases h
 ·next h0=>
  cases h;rw[yd]
  ·exact Yq _
  ·rw[fX,fX,lW,kS];exact j7 au au
theorem ab6(j aB:Int)(o p:Itm):0<=betR j aB o p:=by
 unfold betR;split
 ·next ns sp ms sq=>
  have h:=lE (Bi aB sp) (Bi aB sq);unfold mnO;split
  ·exact h
  ·next c e=>exact lE h (aaq e)
 ·exact tm
theorem Qn(j aB:Int)(os:List Itm):∀i,0<=ownF j aB os i |0=>tm |i+1=>ab6 _ _ _ _
def OkI(o:Itm):Prop:=∀ns sp,o=some (ns,sp)->(∀z∈ns,(z.natAbs:Int)<=100)/\1<=sp/\sp<=20
theorem EM{a:Int}{m:Nat}(h:a.natAbs<=m):(a^2).natAbs<=m*m:=by rw[fX,fX,lW,kS];exact lD h h
theorem vP(h1:1<=sp)(h2:sp<=20)(h3:10<=aB)(h4:aB<=200):Bd 64 (topR aB sp):=by
 have lM:(2:Nat)^64=18446744073709551616:=by decide
 have a:=EM (lD (a:=sp) (b:=aB) (m:=20) (n:=200) au au);exact kK aA (by rw[lM];lia) aA
theorem Kw(h1:1<=j)(h2:j<=50)(hn:∀z∈ns,(z.natAbs:Int)<=100)(hm:∀z∈ms,(z.natAbs:Int)<=100)(h:cornO j ns ms=some c):Bd 64 c:=by
 have lM:(2:Nat)^64=18446744073709551616:=by decide
 have cb:=Dn (λz hz=>by have:=hn z hz;lia) (λz hz=>by have:=hm z hz;lia) (ns:=ns) (ms:=ms);have hb:=nZ cb;have l1:=nZ (ns:=ns) (m:=100) λz hz=>by have:=hn z hz;lia
 have l2:=nZ (ns:=ms) (m:=100) λz hz=>by have:=hm z hz;lia
 unfold cornO at h;split at h
 ·cases h
 ·next h0=>cases h;have a:=EM (lD (lD (a:=j) (b:=(aM ns:Int)) (m:=50) (n:=100) au au) (b:=(aM ms:Int)) (n:=100) au);have b:=EM (a:=(aM (dH ns ms):Int)) (m:=2000000) au;refine kK ?_ (by rw[lM];lia) (by rw[lM];lia);rw[fX,fX,lW,kS];exact M0 au au
theorem zu(h1:Bd n a)(h2:Bd n b):Bd n (mn a b):=by rcases zt a b with e|e<;>rw[e]<;>assumption
theorem Mb:Bd 64 (0:Rat):=⟨ aA,aA⟩
theorem ab7(h1:1<=j)(h2:j<=50)(h3:10<=aB)(h4:aB<=200)(ho:OkI o)(hp:OkI p):Bd 64 (betR j aB o p):=by
 unfold betR;split
 ·next ns sp ms sq=>
  obtain⟨a1,a2,a3⟩:=ho ns sp rfl;obtain⟨b1,b2,b3⟩:=hp ms sq rfl;have h:=zu (vP a2 a3 h3 h4) (vP b2 b3 h3 h4);unfold mnO;split
  ·exact h
  ·next c e=>exact zu h (Kw h1 h2 a1 b1 e)
 ·exact Mb
def OkIs(os:List Itm):Prop:=∀i,OkI (atO os i)
theorem Ia{j aB:Int}{os:List Itm}(h1:1<=j)(h2:j<=50)(h3:10<=aB)(h4:aB<=200)(ho:OkIs os):∀i,Bd 64 (ownF j aB os i) |0=>Mb |i+1=>ab7 h1 h2 h3 h4 (ho i) (ho (i+1))
end Ow
namespace Wk
open PySem L2
def gj(pl ns:List Int):List Int:=List.zipWith (λa b=>a+b) pl ns
theorem sM(h:ns.length=pl.length):(gj pl ns).length=pl.length:=by unfold gj;rw[List.length_zipWith,h];exact Nat.min_self _
theorem Lf{pl ns:List Int}{i:Nat}{a b:Int}(h1:pl[i]? =some a)(h2:ns[i]? =some b):(gj pl ns)[i]? =some (a+b):=by unfold gj;rw[Eb,h1,h2]
def iS(rs pl:List Int):Bool:=(pl.zip rs).all λp=>decide (0<=p.1)&&decide (p.1<=p.2)
structure jJ(rs pl:List Int):Prop where
 len:pl.length=rs.length
 at':∀(i:Nat)(x r:Int),pl[i]? =some x->rs[i]? =some r->0<=x/\x<=r
theorem a1A(h:pl.length=rs.length):iS rs pl=true↔jJ rs pl:=by
 unfold iS;rw[je];constructor
 ·intro a
  refine⟨h,λi x r e1 e2=>?_⟩;have:=a (x,r) (gI ((AR (z:=(x,r))).mpr ⟨e1,e2⟩));rw[fq,sX,sX]at this;exact this
 ·rintro a ⟨x,r⟩ hp
  obtain⟨i,hi⟩:=tG.mp hp;obtain⟨e1,e2⟩:=(AR (z:=(x,r))).mp hi;have:=a.at' i x r e1 e2;rw[fq,sX,sX];exact this
end Wk
namespace L2
open PySem PySem.Spec PyProof.Rows
inductive adC(K:aa)(x:V)(y:V)(H:Hp)(Q:VK):Prop |mk (a:_)(b:_)(xs:_)(ys:_)(h0:x= .ref a)(h1:y= .ref b)(h2:aR K H a xs)(h3:aR K H b ys)(h4:xs.length+ys.length<=sizeLine)(h5:∀c H',aF H H'->aR K H' c (xs++ys)->Q (.ref c) H')
def PY(K:aa):R2:=λx y H Q=>adC K x y H Q
section
variable {X:Cx}
theorem Dr(K:aa)(hK:X.K=K):dF X (binaryOp .Add) (PY K):=by
 subst hK;intro aw s O H x y v u Q I rx ry h;obtain⟨a,b,xs,ys,rfl,rfl,ha,hb,hz,q⟩:=h;cases rx;cases ry;obtain⟨its,r1,p1,_⟩:=I.tuple ha;obtain⟨lF,r2,p2,_⟩:=I.tuple hb;by_cases e0:xs=[]
 ·subst e0
  have i0:its=[]:=r1.Ip.mpr rfl;subst i0;obtain⟨⟨cls,dd,data,sl⟩,ho,hc,n,hd⟩:=id p1;obtain⟨⟨UT,xQ,data2,qP⟩,kN,mi,n2,hd2⟩:=id p2;simp only at hc hd mi hd2;subst hc hd mi hd2;exact concat_meets ⟨_,ho,Z⟩ ⟨_,kN,Z⟩ noFill_tuple_add seq_tuple_add Wo Wr (Ws _ _) (tuple_addW0 a b _ lF.toArray n n2 dd xQ sl qP (by simp)) ⟨ho,kN,⟨.ref b,H,I,Z,q _ _ (aF.refl H) hb⟩⟩
 ·refine HT.aaH p1 p2 (λz=>e0 (r1.Ip.mp z)) (λz=>⟨.ref a,H,I,Z,?_⟩) (λz=>?_) (by rw[<-r1.length,<-r2.length];exact hz)
  ·have e1:ys=[]:=r2.Ip.mp z
   subst e1;exact q _ _ (aF.refl H) (by rw[vJ];exact ha)
  ·have hf:H s.heap.objs.size=none:=I.aY.fresh (bK _)
   have nw:Nw H (upd H s.heap.objs.size (.tup (xs++ys))) s.heap.objs.size (.tup (xs++ys)):=.of hf;refine⟨.ref s.heap.objs.size,_,I.laid (t':=s.toks) (o:=.tup (xs++ys)) (λb ob q=>cy _ q) (bK _) ?_,Z,q _ _ nw.same (aR.of nw.at')⟩;exact⟨by rw[fC];exact hz,_,r1.append r2,IsTup.new _ _⟩
end
theorem UG(xs:List V)(k:Nat):lO xs (some (k:Int)) none=xs.drop k:=by
 unfold lO;rw[HT.P6,HT.Gx];by_cases h:k<=xs.length
 ·rw[Nat.min_eq_left h,E7 (by rw[yi];lia)]
 ·rw[Nat.min_eq_right au,List.drop_of_length_le (bK _),List.drop_of_length_le au];simp
section
variable {X:Cx}
theorem a1b(K:aa)(h:X.K=K){o e:Expr}{to:TE}{t:TA}{apos cD:Pos}(ho:PE X o to)(ha:PA X [e] t) (jr:attributeBase o "extend" X.env (eval o X.env)=eval o X.env:=by rfl) (lJ:((backTo cD (starEach [e] X.env)).all (λx=>!x.1)&&(backToKw cD (keywordEach [] X.env)).all (λx=>x.1.isSome) &&decide ([e].length+([]:List Keyword).length+(if([]:List Keyword).isEmpty then 0 else 1)<30))=true:=by rfl) (jo:(apos.endLine==cD.line)=true:=by rfl)(hs:starEach [e] X.env=(false,eval e X.env)::starEach [] X.env:=by rfl)(lG:(backTo cD (starEach [] X.env)).any (·.1)=false:=by rfl): PE X (.Call (.Attribute o "extend" apos) [e] [] cD) (tP K "list" PV to t):=by subst h;exact wB AJ PySem.F.slot_list_extend PySem.F.type_list_extend a3z ho ha jr lJ jo hs lG
open PyProof
end
end L2
namespace L2
open PySem PySem.Spec PyProof.Rows
section
variable {K:aa} {H H' H2:Hp}
end
def Lr(z:Str):It:=⟨λi _=>i<z.cps.size,λi H x H'=>H'=H/\∃c,z.cps.toList[i]? =some c/\x= .str ⟨#[c]⟩,λi _=>z.cps.size<=i⟩
theorem Xp{P:ah}{w:World}{K:aa}{tg:Expr}(it:Addr)(z:Str)(t:Tok)(ty:String)(zI:["enumerate","zip","dict_itemiterator","dict_reverseitemiterator","odict_iterator","itertools.zip_longest","itertools.pairwise"].contains ty=false) (W:∀A':aj,A'.handled=none->Walks P w A' it [it] [it] z.cps.size (SignAt z) (λi h=>h.IsStrIter it ty z t i)) (self:∀(A:aj)(i:Nat)(s:ae)(Q:Value->ae->Prop)(E:Value->ae->Prop),s.heap.IsStrIter it ty z t i->Q (.ref it) s->wpAny (model P w) A (pyIter (.ref it)) Q E s): Turn P w K tg (Lr z) [it] it (λi h=>h.IsStrIter it ty z t i/\i<=z.cps.size) where
 mem:=by simp
 obj:=λi h st b hb=>by
  have e:b=it:=by simpa using hb
  subst e;obtain⟨⟨o,e,c,d⟩,_⟩:=st;exact⟨o,e,λv z=>by rw[d]at z;cases z⟩
 keep:=λi h h' st k=>⟨let⟨o,e,r⟩:=st.1;⟨o,k it (by simp) o e,r⟩,st.2⟩
 item:=by intro X hP hw hK hc i aw s O H E I hf st hg;subst hP hw hK;obtain⟨f0,f1,f2,f3,f4,f5⟩:=hf it (by simp);refine(W X.A (I.ok.hd hc)).item i s _ _ hg st.1 λv h' tk hv gZ kk=>?_;obtain⟨c,u,ec,rfl⟩:=hv;have I1:Inv X aw O H {s with heap:=h',toks:=tk}:=I.turned (λb o hb e=>kk b o (by simpa using hb) e) f0 f1 f3 f4 f5;obtain⟨o,e,cl,d⟩:=id gZ;exact⟨_,Z,xB (s:={s with heap:=h',toks:=tk}) e cl d zI ⟨.str ⟨#[c]⟩,H,I1,⟨u,Z⟩,⟨Z,c,by simpa using ec,Z⟩,⟨gZ,hg⟩,λb hb=>(hf b hb).1⟩⟩
 done:=by intro X hP hw hK hc i aw s O H E I hf st hg;subst hP hw hK;obtain⟨f0,f1,f2,f3,f4,f5⟩:=hf it (by simp);obtain⟨st,hle⟩:=st;have ei:i=z.cps.size:=Nat.le_antisymm hle hg;subst ei;exact(W X.A (I.ok.hd hc)).done s _ _ st λh' tk eb=>⟨Z,I.turned (λb o hb e=>eb b o (by simpa using hb) e) f0 f1 f3 f4 f5⟩
 self:=λA i s Q E st h=>self A i s Q E st.1 h
section
variable {X:Cx} {tg:Expr}
inductive adJ(R:It->Hp->Prop)(x:V)(H1:Hp):Prop |mk (z:_)(h0:x= .str z)(h1:R (Lr z) H1)
def a57(tl:TE):TI:=λO H R=>tl O H λx H1=>adJ R x H1
theorem a0J(hl:PE X l tl):PI X tg l (a57 tl):=by
 intro aw s O H R I h;refine bc (hl aw s O H _ I h) λv s1 ⟨x,H1,I1,r1,q1⟩=>?_;obtain⟨z,e,q⟩:=q1;subst e;obtain⟨t,rfl⟩:=r1;have fin:∀ty,["enumerate","zip","dict_itemiterator","dict_reverseitemiterator","odict_iterator","itertools.zip_longest","itertools.pairwise"].contains ty=false->(∀A':aj,A'.handled=none->Walks X.prog X.w A' s1.heap.objs.size [s1.heap.objs.size] [s1.heap.objs.size] z.cps.size (SignAt z) (λi h=>h.IsStrIter s1.heap.objs.size ty z t i))->(∀(A:aj)(i:Nat)(s:ae)(Q:Value->ae->Prop)(E:Value->ae->Prop),s.heap.IsStrIter s1.heap.objs.size ty z t i->Q (.ref s1.heap.objs.size) s->wpAny (model X.prog X.w) A (pyIter (.ref s1.heap.objs.size)) Q E s)->DK X aw O tg R (.ref s1.heap.objs.size) {s1 with heap:=s1.heap.push {cls:=.type ty,data:=.fields #[.str z t,.int 0 0]}}:=λty h1 h2 h3=>by
  refine⟨s1.heap.objs.size,[s1.heap.objs.size],_,_,H1,Z,I1.kept (t':=s1.toks) λb o e=>cy _ e,Xp _ z t ty h1 h2 h3,⟨⟨_,eV _ Z,Z,Z⟩,gy _⟩,λb hb=>?_,q⟩;have e:b=s1.heap.objs.size:=by simpa using hb
  subst e;exact I1.qj (bK _) (I1.aY.fresh (bK _))
 cases ha:z.cps.all (·<128)
 ·exact wpAny_pyIter_wide ha (fin "str_iterator" aA (λA' hA=>Walks.strWide hA _ z t) (λ_ _ _ _ _ st h=>wpAny_pyIter_striter_wide st h))
 ·exact wpAny_pyIter_ascii ha (fin "str_ascii_iterator" aA (λA' hA=>Walks.strAscii hA _ z t) (λ_ _ _ _ _ st h=>wpAny_pyIter_striter_ascii st h))
theorem aaw{D:Addr}(rest:St)(nw:Nw H H0 D (.lst []))(hz:z.length<=1000) (hs:∀(c:Nat)(H2:Hp)(Q':VK),c∈z.cps.toList->aF H H2->(∀H3,aF H2 H3->Q' (.bl (f c)) H3)->te (some (.str ⟨#[c]⟩)::rest) H2 Q') (hq:∀H',aF H H'->H' D=some (.lst ((z.cps.toList.map f).map V.bl))->Q (.ref D) H'):j6 (Lr z) (fo 0) ir te Q D (none::rest) H0:=by
 have hl:z.cps.toList.length=z.cps.size:=by simp
 refine Kx (xs:=z.cps.toList.map λc=>V.str ⟨#[c]⟩) (bs:=z.cps.toList.map f) rest nw (by simp) (by simpa[Str.length]using hz) ?_ ?_ ?_ hq
 ·intro i x H2 ex s2
  rw[cI]at ex;cases ec:z.cps.toList[i]? with |none=>rw[ec]at ex;cases ex |some c=>rw[ec]at ex;cases ex;refine⟨by have:=(eh.mp ec).1;show i<z.cps.size;omega,λy H3 ⟨e3,c',Ul,e⟩=>⟨e3,?_⟩⟩;rw[ec]at Ul;cases Ul;exact e
 ·intro H2 s2
  show z.cps.size<=(z.cps.toList.map _).length;rw[cx,hl];exact bK _
 ·intro i x b H2 Q' ex eb s2 hW
  rw[cI]at ex eb;cases ec:z.cps.toList[i]? with |none=>rw[ec]at ex;cases ex |some c=>rw[ec]at ex eb;cases ex;cases eb;exact hs c H2 Q' (gI ec) s2 hW
theorem a1u:dF X (compareOp .In) (λx y H Q=>∃c j,x= .str ⟨#[c]⟩/\y= .str j/\Q (.bl (decide (c∈j.cps.toList))) H):=by intro aw s O H x y v u Q I rx ry h;obtain⟨c,j,rfl,rfl,q⟩:=h;refine a1t aw s O H _ _ v u Q I rx ry ⟨_,_,Z,Z,?_⟩;rw[PySem.StrLaws.found_one];exact q
inductive adw(K:aa)(x:V)(y:V)(H:Hp)(Q:VK):Prop |mk (p:_)(xs:_)(d:_)(ds:_)(h0:y= .ref p)(h1:aR K H p xs)(h2:RD K H x d)(h3:aJ K H xs ds)(h4:SeqAt.shaped d=true)(h5:(∀e∈ds,SeqAt.shaped e=true))(h6:Q (.bl (ds.any λe=>PyData.eqv e d)) H)
def a0i(K:aa):R2:=λx y H Q=>adw K x y H Q
theorem a53(K:aa)(hK:X.K=K)(hu:X.A.units+65<cLine):dF X (compareOp .In) (a0i K):=by
 subst hK;intro aw s O H x y v u Q I rx ry h;obtain⟨p,xs,d,ds,rfl,hx,hd,rS,sd,YS,q⟩:=h;cases ry;obtain⟨its,r,pl,hz⟩:=I.tuple hx;obtain⟨k1,k2⟩:=U7 I hu rx hd sd r rS YS;refine SeqAt.in_tupleAt (uX s.heap d) (show s.heap.IsTuple p its.toArray from pl) (λw hw=>k1 w (by simpa using hw)) ⟨.bl _,H,I,Z,?_⟩;have e:its.toArray.any (uX s.heap d)=ds.any λe=>PyData.eqv e d:=by rw[<-k2];simp
 rw[e];exact q
end
def xW(lo:Int)(n:Nat):It:=⟨λi _=>i<n,λi H x H'=>H'=H/\x= .int (lo-i),λi _=>n<=i⟩
theorem Xu{P:ah}{w:World}{K:aa}{tg:Expr}(it:Addr)(lo:Int)(n:Nat):Turn P w K tg (xW lo n) [it] it (λi h=>IsRangeIter h it (lo+(i:Nat)*(-1)) ((n:Int)-(i:Nat)) (-1)) where
 mem:=by simp
 obj:=λi h st b hb=>by
  have e:b=it:=by simpa using hb
  subst e;exact⟨_,st,λv z=>by have z':Data.fields _=Data.cell v:=z;cases z'⟩
 keep:=λi h h' st k=>k it (by simp) _ st
 item:=by
  intro X hP hw hK hc i aw s O H E I hf st hg;subst hP hw hK;obtain⟨f0,f1,f2,f3,f4,f5⟩:=hf it (by simp);have W:=Walks.range (prog:=X.prog) (w:=X.w) (I.ok.hd hc) it lo (-1) n;refine W.item i s _ _ hg st λv h' tk hv gZ kk=>?_;obtain⟨t,rfl⟩:=hv;have I1:Inv X aw O H {s with heap:=h',toks:=tk}:=I.turned (λb o hb e=>kk b o (by simpa using hb) e) f0 f1 f3 f4 f5;refine⟨_,Z,xB (s:={s with heap:=h',toks:=tk}) (n:="range_iterator") gZ rfl rfl aA ⟨.int (lo-i),H,I1,⟨t,?_⟩,⟨Z,Z⟩,gZ,λb hb=>(hf b hb).1⟩⟩;have e:lo+(i:Int)*(-1)=lo-i:=by lia
  rw[e]
 done:=by intro X hP hw hK hc i aw s O H E I hf st hg;subst hP hw hK;obtain⟨f0,f1,f2,f3,f4,f5⟩:=hf it (by simp);exact W9 (I.ok.hd hc) st (by have:n<=i:=hg;lia) λh' eb=>⟨Z,I.turned (t':=s.toks) (λb o hb e=>eb b o hb e) f0 f1 f3 f4 f5⟩
 self:=λ_ _ _ _ _ st h=>Ly st h
theorem Yu(ha:-(2^62)<=a)(SR:a<2^62)(hb:-(2^62)<=b)(qh:b<2^62):Builtin.Range.small a b (-1)=true:=by unfold Builtin.Range.small Builtin.Range.rangeSize;rw[bf aA,show(-(-1):Int)=1 by decide,Int.ediv_one];simp only[Builtin.Range.rangeFitsLong,fq,Bool.or_eq_true,AI,fz,show¬((-1:Int)>0) by decide,if_false];split<;>lia
theorem YF(a b:Int):Builtin.Range.rangeSize a b (-1)=(((a-b).toNat:Nat):Int):=by unfold Builtin.Range.rangeSize;rw[bf aA,show(-(-1):Int)=1 by decide,Int.ediv_one];split<;>lia
inductive adK(R:It->Hp->Prop)(vs:List V)(H1:Hp):Prop |mk (i:Int)(j:Int)(h0:vs=[.int i,.int j,.int (-1)])(h1:(-(2^62)<=i/\i<2^62/\-(2^62)<=j/\j<2^62))(h2:R (xW i (i-j).toNat) H1)
def a58(ta:TA):TI:=λO H R=>ta O H λvs H1=>adK R vs H1
section
variable {X:Cx} {tg:Expr}
theorem a05{aw:List (Addr×Obj)}{O:St}{H:Hp}{s:ae}{R:It->Hp->Prop}{E:Value->ae->Prop}{lo hi:Int}{t u v:Tok}{tk:Nat}(I:Inv X aw O H s)(h1:-(2^62)<=lo)(h2:lo<2^62)(h3:-(2^62)<=hi)(h4:hi<2^62) (q:R (xW lo (lo-hi).toNat) H):wpAny (model X.prog X.w) X.A (pyIter (.ref s.heap.objs.size)) (DK X aw O tg R) E {s with heap:=s.heap.push {cls:=.type "range",data:=.fields #[.int lo t,.int hi u,.int (-1) v]},toks:=tk}:=by
 refine wpAny_pyIter_range (IsRange.new ..) (Yu h1 h2 h3 h4) ?_;have I1:Inv X aw O H {s with heap:=s.heap.push {cls:=.type "range",data:=.fields #[.int lo t,.int hi u,.int (-1) v]},toks:=tk}:=I.kept λb o e=>cy _ e;refine⟨(s.heap.push {cls:=.type "range",data:=.fields #[.int lo t,.int hi u,.int (-1) v]}).objs.size,[(s.heap.push {cls:=.type "range",data:=.fields #[.int lo t,.int hi u,.int (-1) v]}).objs.size],_,_,H,Z,I1.kept (t':=tk) λb o e=>cy _ e,Xu _ lo (lo-hi).toNat,?_,λb hb=>?_,q⟩
 ·have e1:lo+((0:Nat):Int)*(-1)=lo:=by simp
  have e2:(((lo-hi).toNat:Nat):Int)-((0:Nat):Int)=Builtin.Range.rangeSize lo hi (-1):=by rw[YF];lia
  show IsRangeIter _ _ (lo+((0:Nat):Int)*(-1)) ((((lo-hi).toNat:Nat):Int)-((0:Nat):Int)) (-1);rw[e1,e2];exact eV _ rfl
 ·have e:b=(s.heap.push {cls:=.type "range",data:=.fields #[.int lo t,.int hi u,.int (-1) v]}).objs.size:=by simpa using hb
  subst e;exact I1.qj (bK _) (I1.aY.fresh (bK _))
theorem a0L(hg:Gl X "range")(hm:X.mg "range"=none)(ha:PA X [a,b,c] ta)(hs:starEach [a,b,c] X.env=[(false,eval a X.env),(false,eval b X.env),(false,eval c X.env)]:=by rfl)(jn:starEach [b,c] X.env=[(false,eval b X.env),(false,eval c X.env)]:=by rfl): PI X tg (.Call (.Name "range" p) [a,b,c] [] pos) (a58 ta):=by intro aw s O H R I h;refine Call_ (pQ I hg hm boot_range (yg (bc (ha pos aw s O H _ I h) λus s1 ⟨vs,H1,I1,r1,q1⟩=>?_) (by rw[hs,jn]) (by rw[jn];rfl)));obtain⟨i,j,e,⟨q1,q2,q3,q4⟩,q⟩:=q1;subst e;cases r1 with |cons r rr=>cases rr with |cons r' rr=>cases rr with |cons r'' rr=>cases rr;obtain⟨t,rfl⟩:=r;obtain⟨t',rfl⟩:=r';obtain⟨t'',rfl⟩:=r'';exact call_range_3 aA (a05 I1 q1 q2 q3 q4 q) (Or.inl (PyProof.noPylong_small au))
theorem a8c{lo:Int}{n:Nat}{g:TG}{tb:TS}{D:Ends}{O:St}{H:Hp}(Pv:Nat->St->Hp->Prop)(h0:Pv 0 O H) (hs:∀i O H,i<n->Pv i O H->g (.int (lo-i)) O H λσ2 H2=>tb {D with nx:=Pv (i+1),ct:=Pv (i+1),bk:=D.nx} σ2 H2)(hd:∀O H,Pv n O H->D.nx O H): ∃W:Nat->Nat->St->Hp->Prop,(∃m,W 0 m O H)/\∀i m O H,W i m O H->((xW lo n).stop i H/\D.nx O H)\/((xW lo n).go i H/\∃N:St->Hp->Prop,(∀σ' H',N σ' H'->∃m',m'<m/\W (i+1) m' σ' H')/\∀x H',(xW lo n).jO i H x H'->g x O H' λσ2 H2=>tb {D with nx:=N,ct:=N,bk:=D.nx} σ2 H2):=by
 refine⟨λi m O H=>m=n-i/\i<=n/\Pv i O H,⟨n,by simp,gy _,h0⟩,?_⟩;rintro i m O H ⟨rfl,hi,hp⟩;by_cases h:i<n
 ·refine .inr ⟨h,Pv (i+1),λσ' H' xk=>⟨n-(i+1),au,Z,au,xk⟩,?_⟩
  rintro x H' ⟨rfl,rfl⟩;exact hs i O H' h hp
 ·have e:i=n:=by lia
  subst e;exact .inl ⟨bK _,hd O H hp⟩
end
theorem UL{K:aa}{bs:List Bool}{D:Addr}(rest:St)(hn:n=2)(h1:fi b1 K H l1 xs)(h2:fi b2 K H l2 ys)(nw:Nw H H0 D (.lst [])) (hl:min xs.length ys.length=bs.length)(hz:bs.length<=100000) (hs:∀(i:Nat)(x y:V)(b:Bool)(H2:Hp)(Q':VK),xs[i]? =some x->ys[i]? =some y->bs[i]? =some b->aF H H2->(∀H3,aF H2 H3->Q' (.bl b) H3)->te (some x::some y::rest) H2 Q') (hq:∀H',aF H H'->H' D=some (.lst (bs.map V.bl))->Q (.ref D) H'):j6 (ny K b1 b2 l1 l2) (qi K n (kh (fo 0) (kh (fo 1) rZ))) ir te Q D (none::none::rest) H0:=by
 subst hn;have hD:=nw.no;refine sH bs.length (λi O H2=>aF H H2/\H2 D=some (.lst ((bs.take i).map V.bl))/\∃v v',O=v::v'::rest) ?_ ?_ ?_
 ·exact⟨nw.same,nw.at',none,none,Z⟩
 ·rintro i O H2 hi ⟨s2,d2,v,v',rfl⟩
  have hx:i<xs.length:=by lia
  have hy:i<ys.length:=by lia
  have ex:=cn hx;have ey:=cn hy;have eb:=cn hi;refine⟨⟨xs,ys,_,_,h1.go s2,h2.go s2,ex,ey⟩,λy' H3 ka=>?_⟩;obtain⟨T,x0,y0,rfl,k1,k2,n3⟩:=ka;have e1:=k1 _ (h1.go s2);have e2:=k2 _ (h2.go s2);rw[ex]at e1;rw[ey]at e2;cases e1;cases e2;refine⟨T,_,Z,aR.of n3.at',Z,_,_,Z,_,_,Z,Z,?_⟩;refine yes (cg ?_);refine hs i _ _ _ _ _ ex ey eb (s2.trans n3.same) λH4 s4=>?_;refine⟨_,s4 _ _ (n3.same _ _ d2),?_,bs.length-(i+1),au,Z,au,λb o e=>?_,?_,_,_,Z⟩
  ·rw[cx,oY]
   have:(100000:Nat)<sizeLine:=by decide
   lia
  ·rw[aO (fT e hD)];exact s4 b o (n3.same b o (s2 b o e))
  ·rw[bo,qH,eb,oX];rfl
 ·rintro O H2 ⟨s2,d2,v,v',rfl⟩
  refine⟨⟨xs,ys,h1.go s2,h2.go s2,au⟩,hq H2 s2 ?_⟩;rw[d2,yh]
structure MA(K:aa)(C:Addr)(m qual:Str)(st:Stmt):Prop where ex:∃f fd,Meth K C m f/\j4 K m qual st f fd
def dG(P:ah)(w:World)(K:aa)(mg:bJ)(ay:Heap)(C:Addr)(m:Str)(k:Nat)(sp:Sp):Prop:=∃f fd ps,gY P w K mg ay ij k f fd ps sp/\Meth K C m f/\Binds K fd ps []
structure CA(K:aa)(mg:bJ)(C:Addr)(x qual:Str)(st:Stmt):Prop where
 mgC:mg x=some (.ref C)
 ex:∃f fd,Mk K C f/\j4 K "__init__" qual st f fd
def DN(P:ah)(w:World)(K:aa)(mg:bJ)(ay:Heap)(C:Addr)(x:Str)(k:Nat)(sp:Sp):Prop:=∃f fd ps,gY P w K mg ay ij k f fd ps sp/\Mk K C f/\Binds K fd ps []/\mg x=some (.ref C)
section
variable {P:ah}{w:World}{K:aa}{mg:bJ}{ay:Heap}
theorem jk{st:Stmt}{kV:Value}(a:PySem.W.findIn K (.ref C) m=some (some (.ref f)))(i:PySem.W.isFn K (.ref f)=true) (l:K.lookup f=some ⟨oc,od,.func (PySem.W.fnOf m qual (kO st) (gU st) (aZ st) .none kV doc pm an aP ct),fR⟩) (c:PySem.W.codeIn K aP qual=true)(k:PySem.W.keepIn K (.ref f)=true):MA K C m qual st:=⟨f,_,⟨a,i,k⟩,zZ l c k⟩
theorem aaU{st:Stmt}{kV:Value}(X:K.In h)(G:h.Ns mainGlobals mg) (aC:PySem.W.nsIn K mainGlobals x=some (some (.ref C)))(mk:PySem.W.makesIn K C=true)(kc:PySem.W.keepIn K (.ref C)=true) (a:PySem.W.findIn K (.ref C) "__init__"=some (some (.ref f)))(i:PySem.W.isFn K (.ref f)=true) (l:K.lookup f=some ⟨oc,od,.func (PySem.W.fnOf "__init__" qual (kO st) (gU st) (aZ st) .none kV doc pm an aP ct),fR⟩) (c:PySem.W.codeIn K aP qual=true)(k:PySem.W.keepIn K (.ref f)=true):CA K mg C x qual st:=⟨vy X G aC,f,_,⟨mk,a,i,kc⟩,zZ l c k⟩
theorem MA.has{st:Stmt}{k:Nat}(F:MA K C m qual st)(S:bG N ps (aZ st))(len:∀vs H Q E,sp vs H Q E->vs.length=ps.length) (hb:∀(kV doc pm:Value)(an:Option Addr)(aP ct:Value)(us:List Value),us.length=ps.length->bindArgs (PySem.W.fnOf m qual (kO st) (gU st) (aZ st) .none kV doc pm an aP ct) ⟨us,[]⟩=pure (ps.zip us)) (iW:∀(f:Addr)(aP:Value)(A:aj)(outer:List Env)(s:ae)(H:Hp)(vs:List V)(Q:VK)(E:XK),cN k (A.deeper (envOfC qual (aZ st) s.heap.objs.size f aP))->sp vs H Q E->∃t,ie (iK ij P w K mg ay N qual (aZ st) f aP A outer s H E).pO (gU st) t/\t {nx:=λ_ H'=>Q .bB H',rt:=Q} (start N vs) H):dG P w K mg ay C m (k+1) sp:=by obtain⟨f,fd,hm,F⟩:=F.ex;exact⟨f,fd,ps,F.ok S len λaP A outer s H vs Q E=>iW f aP A outer s H vs Q E,hm,F.binds hb⟩
theorem CA.has{st:Stmt}{k:Nat}(F:CA K mg C x qual st)(S:bG N ps (aZ st))(len:∀vs H Q E,sp vs H Q E->vs.length=ps.length) (hb:∀(kV doc pm:Value)(an:Option Addr)(aP ct:Value)(us:List Value),us.length=ps.length->bindArgs (PySem.W.fnOf "__init__" qual (kO st) (gU st) (aZ st) .none kV doc pm an aP ct) ⟨us,[]⟩=pure (ps.zip us)) (iW:∀(f:Addr)(aP:Value)(A:aj)(outer:List Env)(s:ae)(H:Hp)(vs:List V)(Q:VK)(E:XK),cN k (A.deeper (envOfC qual (aZ st) s.heap.objs.size f aP))->sp vs H Q E->∃t,ie (iK ij P w K mg ay N qual (aZ st) f aP A outer s H E).pO (gU st) t/\t {nx:=λ_ H'=>Q .bB H',rt:=Q} (start N vs) H):DN P w K mg ay C x (k+1) sp:=by obtain⟨f,fd,hm,F'⟩:=F.ex;exact⟨f,fd,ps,F'.ok S len λaP A outer s H vs Q E=>iW f aP A outer s H vs Q E,hm,F'.binds hb,F.mgC⟩
end
section
variable {X:Cx}{k:Nat}{x m:Str}{C:Addr}{p pos apos:Pos}{o e:Expr}{es:List Expr}{t:TA}{ta:TE}{sp:Sp}
inductive W0(C:Addr)(m:Str)(sp:Sp)(t:TA)(O:St)(Q:VK)(x:V)(H1:Hp):Prop |mk (a:_)(dx:_)(fs:_)(h0:x= .ref a)(h1:H1 a=some (.ins C dx fs))(h2:fs.lookup m=none)(h3:t O H1 λvs H2=>sp (x::vs) H2 Q E0)
def MI(C:Addr)(m:Str)(sp:Sp)(ta:TE)(t:TA):TE:=λO H Q=>ta O H λx H1=>W0 C m sp t O Q x H1
theorem QV{O:St}{Q:VK}{x:V}{H1:Hp}:xX C m sp [] E0 t O Q x H1=W0 C m sp t O Q x H1:=by
 have e1:(λ(vs:List V) H1=>sp (x::(vs++[])) H1 Q E0)=λvs H1=>sp (x::vs) H1 Q E0:=by funext vs H1;rw[vJ]
 refine propext ⟨λ⟨a,dx,fs,h0,h1,h2,h3⟩=>⟨a,dx,fs,h0,h1,h2,?_⟩,λ⟨a,dx,fs,h0,h1,h2,h3⟩=>⟨a,dx,fs,h0,h1,h2,?_⟩⟩
 ·rw[<-e1];exact h3
 ·rw[e1];exact h3
theorem BO(F:dG X.prog X.w X.K X.mg X.ay C m k sp)(c:ky X.K C)(hr:cN k X.A)(he:PE X o ta)(ha:PA X (e::es) t) (gD:starEach (e::es) X.env=(false,eval e X.env)::starEach es X.env:=by rfl)(gE:(backTo pos (starEach es X.env)).any (·.1)=false:=by rfl) (ht:eval (.Call (.Attribute o m apos) (e::es) [] pos) X.env=(do
 let ov<-eval o X.env
 standAt apos.atName
 let(f,first)<-holding [ov] (getMethod ov m pl)
 callWith pos f first (backTo pos (starEach (e::es) X.env)) (backToKw pos (keywordEach [] X.env))):=by rfl): PE X (.Call (.Attribute o m apos) (e::es) [] pos) (MI C m sp ta t):=by
 obtain⟨f,fd,ps,F,hm,hb⟩:=F;have h:=Qc (pos:=pos) (apos:=apos) (pl:=pl) he c hm F hr hb .nil BP ha gD gE ht;intro aw s O H Q I hq;refine h aw s O H Q I ?_;show ta O H λx H1=>xX C m sp [] E0 t O Q x H1;simp only[QV];exact hq
theorem iQ(F:dG X.prog X.w X.K X.mg X.ay C m k sp)(c:ky X.K C)(hr:cN k X.A)(he:PE X o ta) (ht:eval (.Call (.Attribute o m apos) [] [] pos) X.env=(do
 let ov<-eval o X.env
 standAt apos.atName
 let(f,first)<-holding [ov] (getMethod ov m pl)
 callWith pos f first (backTo pos (starEach [] X.env)) (backToKw pos (keywordEach [] X.env))):=by rfl): PE X (.Call (.Attribute o m apos) [] [] pos) (MI C m sp ta kG):=by
 obtain⟨f,fd,ps,F,hm,hb⟩:=F;have h:=a0U (pos:=pos) (apos:=apos) (pl:=pl) he c hm F hr hb .nil BP ht;intro aw s O H Q I hq;refine h aw s O H Q I ?_;show ta O H λx H1=>xX C m sp [] E0 kG O Q x H1;simp only[QV];exact hq
def XT(C:Addr)(sp:Sp)(t:TA):TE:=λO H Q=>t O H λvs H1=>∀x dx,H1 x=none->H1 dx=none->dx≠x->sp (.ref x::vs) (upd (upd H1 dx (.own x)) x (.ins C dx [])) (λv H2=>v= .bB/\Q (.ref x) H2) E0
theorem a0T(F:DN X.prog X.w X.K X.mg X.ay C x k sp)(hr:cN (k+1) X.A)(hg:Gl X x)(ha:PA X (e::es) t)(jq:(x==("__debug__":Str))=false:=by decide) (he:starEach (e::es) X.env=(false,eval e X.env)::starEach es X.env:=by rfl)(gE:(backTo pos (starEach es X.env)).any (·.1)=false:=by rfl): PE X (.Call (.Name x p) (e::es) [] pos) (XT C sp t):=by
 obtain⟨f,fd,ps,F,M,hb,hm⟩:=F;have h:=a0V (pos:=pos) (p:=p) M F hr hg hm hb .nil BP ha jq he gE;intro aw s O H Q I hq;refine h aw s O H Q I ?_;have e1:(λ(vs:List V) H1=>∀x dx,H1 x=none->H1 dx=none->dx≠x->sp (.ref x::(vs++[])) (upd (upd H1 dx (.own x)) x (.ins C dx [])) (λv H2=>v= .bB/\Q (.ref x) H2) E0) =λvs H1=>∀x dx,H1 x=none->H1 dx=none->dx≠x->sp (.ref x::vs) (upd (upd H1 dx (.own x)) x (.ins C dx [])) (λv H2=>v= .bB/\Q (.ref x) H2) E0:=by funext vs H1;rw[vJ]
 show t O H λvs H1=>∀x dx,H1 x=none->H1 dx=none->dx≠x->sp (.ref x::(vs++[])) (upd (upd H1 dx (.own x)) x (.ins C dx [])) (λv H2=>v= .bB/\Q (.ref x) H2) E0;rw[e1];exact hq
inductive IAt(C:Addr)(x:Str)(Q:VK)(v:V)(H1:Hp):Prop |mk (a dx:Addr)(fs:List (Str×V))(u:V)(h0:v= .ref a)(h1:H1 a=some (.ins C dx fs))(h2:fs.lookup x=some u)(h3:Q u H1)
theorem dB(T:ky X.K C)(hn:jt X.K C x)(he:PE X e ta)(hb:attributeBase e x X.env (eval e X.env)=eval e X.env:=by rfl): PE X (.Attribute e x pos) (λO H Q=>ta O H λv H1=>IAt C x Q v H1):=by intro aw s O H Q I h;refine Vn hb (bc (he aw s O H _ I h) λu s1 ⟨v,H1,I1,rx,a,dx,fs,w,ex,ea,l,q⟩=>?_);subst ex;obtain rfl:u=Value.ref a:=rx;exact Th I1 ea T hn l λu' s2 I2 ru=>⟨w,H1,I2,ru,q⟩
inductive adT(C:Addr)(x:Str)(D:Ends)(O:St)(y v:V)(H2:Hp):Prop |mk (a dx:Addr)(fs:List (Str×V))(h0:v= .ref a)(h1:H2 a=some (.ins C dx fs))(h2:fs.length<1000)(h3:D.nx O (upd H2 a (.ins C dx (jh x y fs))))
inductive adV(C a:Addr)(x:Str)(D:Ends)(O:St)(z:V)(H3:Hp):Prop |mk (vd:Addr)(fs':List (Str×V))(h0:H3 a=some (.ins C vd fs'))(h1:fs'.length<1000)(h2:D.nx O (upd H3 a (.ins C vd (jh x z fs'))))
inductive adW(C:Addr)(x:Str)(tv:TE)(rd:V->V->Hp->VK->Prop)(D:Ends)(O:St)(v:V)(H1:Hp):Prop |mk (a dx:Addr)(fs:List (Str×V))(u:V)(h0:v= .ref a)(h1:H1 a=some (.ins C dx fs))(h2:fs.lookup x=some u)(h3:tv O H1 λy H2=>rd u y H2 λz H3=>adV C a x D O z H3)
theorem jz(T:ky X.K C)(hn:jt X.K C x)(ha:PE X o ta)(hv:PE X value tv)(hs:swapsWith value (some (.Attribute o x pos')) pos.line X.env=pure false:=by rfl): PS X (.Assign [.Attribute o x pos'] value pos) (λD O H=>tv O H λy H1=>ta O H1 λv H2=>adT C x D O y v H2):=by intro aw s O H D I h;refine plainObj_wpAny_Assign_Attribute (bc (hv aw s O H _ I h) λu s1 ⟨y,H1,I1,ry,q⟩=>bc (ha aw s1 O H1 _ I1 q) λov s2 ⟨v,H2,I2,rx,a,dx,fs,ex,ea,l,q2⟩=>?_) hs;subst ex;obtain rfl:ov=Value.ref a:=rx;exact NM I2 ea T hn l ry λs3 I3=>⟨O,_,I3,q2⟩
theorem a0y{rd:V->V->Hp->VK->Prop}(T:ky X.K C)(hn:jt X.K C x)(ha:PE X o ta)(hv:PE X value tv)(hop:adF X op rd): PS X (.AugAssign (.Attribute o x p9) op value pos) (λD O H=>ta O H λv H1=>adW C x tv rd D O v H1):=by intro aw s O H D I h;refine wpAny_AugAssign_AttributeAny (bc (ha aw s O H _ I h) λov s1 ⟨v,H1,I1,rx,a,dx,fs,u,ex,ea,l,q⟩=>?_);subst ex;obtain rfl:ov=Value.ref a:=rx;refine Th I1 ea T hn l λu s2 I2 ru=>bc (hv aw s2 O H1 _ I2 q) λw3 s3 ⟨y,H2,I3,ry,q3⟩=>bc (hop aw s3 O H2 _ y u w3 _ I3 ru ry q3) λw4 s4 ⟨z,H3,I4,rz,vd,fs',oF,l',q4⟩=>?_;exact NM I4 oF T hn l' rz λs5 I5=>⟨O,_,I5,q4⟩
end
def bF(S:List Addr)(H H':Hp):Prop:=∀b o,H b=some o->b∉S->H' b=some o
theorem bF.refl(S:List Addr)(H:Hp):bF S H H:=λ_ _ e _=>e
theorem bF.of(s:aF H H'):bF S H H':=λb o e _=>s b o e
theorem bF.trans(a:bF S H H1)(b:bF S H1 H2):bF S H H2:=λc o e n=>b c o (a c o e n) n
theorem bF.mono(h:∀x,x∈S->x∈S')(a:bF S H H1):bF S' H H1:=λc o e n=>a c o e λz=>n (h c z)
theorem Ah(h:a∈S):bF S H (upd H a o):=λb o' e n=>by have hb:b≠a:=λz=>n (by rw[z];exact h);rw[aO hb];exact e
def DQ:HO->Prop | .lst _=>True | .ins _ _ _=>True | .dK _=>True | .eZ _=>True |_=>False
def cj(H H':Hp):Prop:=∀b o,¬DQ o->H b=some o->H' b=some o
section
variable {K:aa} {H H' H2:Hp}
theorem cj.refl:cj H H:=λ_ _ _ e=>e
theorem cj.trans(a:cj H H')(b:cj H' H2):cj H H2:=λc o n e=>b c o n (a c o n e)
theorem iZ.v(s:iZ H H'):cj H H':=λb o n e=>s b o (λxs z=>n (by rw[z];trivial)) e
theorem aF.v(s:aF H H'):cj H H':=λb o _ e=>s b o e
theorem bF.v(s:bF S H H')(h:∀x∈S,∀o,H x=some o->DQ o):cj H H':=λb o n e=>s b o e λz=>n (h b z o e)
theorem cj.upd(h:H a=some o)(m:DQ o):cj H (upd H a o'):=λb p n e=>by
 have hb:b≠a:=λz=>by rw[z,h]at e;cases e;exact n m
 rw[aO hb];exact e
theorem aR.v(s:cj H H')(h:aR K H a xs):aR K H' a xs:=h.imp (λr=>r.imp (s _ _ (λz=>z)) λ⟨o,e⟩=>⟨o,s _ _ (λz=>z) e⟩) id
mutual
theorem RD.v(s:cj H H'):∀{x:V}(d:ai),fw d=true->RD K H x d->RD K H' x d |x,.none,_,h=>by simpa[RD]using h |x,.bool b,_,h=>by simpa[RD]using h |x,.int i,_,h=>by simpa[RD]using h |x,.str y,_,h=>by simpa[RD]using h |x,.list ds,n,h=>by simp[fw]at n |x,.tuple ds,n,h=>by rw[RD]at h⊢;obtain⟨a,xs,e,h1,h2⟩:=h;exact⟨a,xs,e,h1.v s,aJ.v s ds (by simpa[fw]using n) h2⟩ |x,.dict _,_,h=>by simp[RD]at h
theorem aJ.v (s:cj H H'):∀{xs:List V}(ds:List ai),cS ds=true->aJ K H xs ds->aJ K H' xs ds |xs,[],_,h=>by simpa[aJ]using h |xs,d::ds,n,h=>by rw[aJ]at h⊢;rw[cS,fq]at n;obtain⟨y,ys,e,h1,h2⟩:=h;exact⟨y,ys,e,RD.v s d n.1 h1,aJ.v s ds n.2 h2⟩
end
end
end L2
namespace Pn
section
variable {n:Nat}{own:Nat->Rat}{L:Nat->Option Nat}{r f:Int}
end
end Pn
namespace Ow
open Pn Ln Cn
end Ow
namespace Pn
section
variable {n:Nat}{own Ib:Nat->Rat}{L L':Nat->Option Nat}{r f:Int}
end
section
variable {n:Nat}{own Ib q:Nat->Rat}{L:Nat->Option Nat}{r f r' f':Int}
end
end Pn
namespace Ow
open Pn Ln Cn
end Ow
namespace Pn
section
variable {n:Nat}{own Ib:Nat->Rat}{L L':Nat->Option Nat}{r f:Int}{c:Nat}
end
end Pn
namespace Ow
open Pn
section
variable (j aB:Int) (os1 os2:List Itm)
end
end Ow
namespace Pn
section
variable {n:Nat}{own:Nat->Rat}{L:Nat->Option Nat}{r f:Int}
theorem a8h(hi:i<=n):fl n L f g i<=g i:=by
 rcases Nat.lt_or_ge i n with h|h
 ·cases e:L i with |none=>rw[xD h e];exact tm |some m=>rw[xF h e];exact gJ _ _
 ·have:i=n:=by lia
  subst this;rw[xE];exact tm
theorem a8g(hf:0<=f)(h0:∀i,i<=n->0<=g i):∀i,i<=n->0<=fl n L f g i:=by
 refine down ?_ ?_
 ·rw[xE];exact h0 n (bK _)
 ·intro i hi ih
  cases e:L i with |none=>rw[xD hi e];exact h0 i au |some m=>rw[xF hi e];exact lE (h0 i au) (RN ih (a3x hf))
end
end Pn
namespace Rn
open Pn Rt Ln
open Ow (topR ownF leadF Itm OkIs)
theorem Dl(hb:b≠0)(h2:b.natAbs<2^n):(Rat.divInt a b).den<2^n:=by obtain⟨-,e⟩:=C9 (a:=a) hb;have l2:=Ar.Rp (p:=a) hb;omega
structure Dd(D:Nat)(q:Rat):Prop where
 nn:0<=q
 den:q.den<2^D
theorem Dd.mono{D:Nat}(h:Dd D q)(l:D<=E):Dd E q:=⟨h.nn,gz h.den (tE aA l)⟩
theorem Dd.bd{D:Nat}(h:Dd D q)(hl:q<=2000):Bd (D+11) q:=by
 have h1:=Rat.num_nonneg.mpr h.nn;have CT:¬((2000:Rat)<q):=Rat.not_lt.mpr hl;rw[Rat.lt_iff]at CT;have e1:(2000:Rat).num=2000:=rfl;have e2:(2000:Rat).den=1:=rfl;rw[e1,e2]at CT;have h2:q.num<=2000*(q.den:Int):=by lia
 refine⟨?_,gz h.den (tE aA au)⟩;have h3:=h.den;have h4:q.num.natAbs<=2000*q.den:=by lia
 have h5:(2:Nat)^(D+11)=2^D*2048:=by rw[Nat.pow_add]
 rw[h5];have h6:2000*q.den<2000*2^D:=Nat.mul_lt_mul_of_pos_left h3 aA
 lia
theorem Dd.mn{D:Nat}(h1:Dd D a)(h2:Dd D b):Dd D (mn a b):=by rcases zt a b with e|e<;>rw[e]<;>assumption
theorem Dd.add{D:Nat}(h:Dd D q){z:Int}(hz:0<=z):Dd D (q+(z:Rat)):=by
 refine⟨RN h.nn (by have:=Rat.intCast_le_intCast.mpr hz;exact this),?_⟩;rw[add_div,Rat.num_intCast,Rat.den_intCast];have e:(q.den:Int)*((1:Nat):Int)=(q.den:Int):=by lia
 rw[e];have hd:=q.den_pos;exact Dl au (by have:=h.den;lia)
theorem Uy(ha:0<=a)(hb:0<b):0<=Rat.divInt a b:=(yd hb).mpr ha
theorem div_pos(ha:0<a)(hb:0<b):0<Rat.divInt a b:=by
 have h0:=Uy (M5 ha) hb;refine LD h0 λe=>?_;have h2:0<=Rat.divInt (-a) b:=by rw[<-Rat.neg_divInt,<-e];decide
 have:=(yd hb).mp h2
 lia
theorem Dd.mul{D:Nat}(h:Dd D q){a s:Int}(ha:0<=a)(hs:0<s)(hm:s.natAbs<2^m):Dd (D+m) (q*Rat.divInt a s):=by refine⟨Rat.mul_nonneg h.nn (Uy ha hs),?_⟩;have h1:(Rat.divInt a s).den<2^m:=Dl au hm;rw[mul_div];have hd:=q.den_pos;have hd2:=(Rat.divInt a s).den_pos;refine Dl (qw _ _) ?_;rw[fY];exact lC (by have:=h.den;lia) au
theorem Ey(aB sp:Int):Dd 14 (topR aB sp):=⟨Ow.Bi _ _,Dl aA aA⟩
theorem Bh(h1:1<=sp)(h2:sp<=20)(h3:10<=aB)(h4:aB<=200):topR aB sp<=1600:=by
 have e:(1600:Rat)=Rat.divInt 16000000 10000:=by decide+kernel
 rw[e];refine(Cn.UA aA).mpr ?_;have hp:sp*aB<=20*200:=Ee h2 h4 au au;have CB:0<=sp*aB:=jN au au;rw[fX,fX,lW,kS];have:=Ee hp hp CB aA
 lia
theorem a1n(h1:1<=j)(h2:j<=50)(h3:10<=aB)(h4:aB<=200)(ho:OkIs os)(i:Nat):Dd 64 (ownF j aB os i):=⟨Ow.Qn _ _ _ _,(Ow.Ia h1 h2 h3 h4 ho i).den⟩
theorem a8i{D:Nat}(hf:0<=f)(h:∀i,i<=n->Dd D (g i)):∀i,i<=n->Dd D (fl n L f g i):=by
 refine down ?_ ?_
 ·rw[xE];exact h n (bK _)
 ·intro i hi ih
  cases e:L i with |none=>rw[xD hi e];exact h i au |some m=>rw[xF hi e];exact(h i au).mn (ih.add (jN hf au))
theorem ab5(h3:10<=aB)(h4:aB<=200)(ho:Ow.OkI o):Ow.betR j aB o p<=1600:=by cases o with |none=>rw[Ow.Vf];decide+kernel |some q=>cases p with |none=>rw[Ow.Dw];decide+kernel |some q'=>obtain⟨ns,sp⟩:=q;obtain⟨ms,sq⟩:=q';obtain⟨-,a1,a2⟩:=ho ns sp rfl;have ht:=Bh a1 a2 h3 h4;show Ow.mnO (mn (topR aB sp) (topR aB sq)) (Ow.cornO j ns ms)<=1600;cases Ow.cornO j ns ms with |none=>exact fg (gJ _ _) ht |some c=>exact fg (gJ _ _) (fg (gJ _ _) ht)
theorem a1m{j aB:Int}{os:List Itm}(h3:10<=aB)(h4:aB<=200)(ho:OkIs os):∀i,ownF j aB os i<=1600 |0=>by show(0:Rat)<=1600;decide+kernel |i+1=>ab5 h3 h4 (ho i)
abbrev gG:=Option (Rat × Int × Int)
def m7(r f:Int)(pc top R:Rat)(left:Int):gG->Rat |none=>mn (mn (pc+(r:Rat)) top) (R+((f*(2*left-1):Int):Rat)) |some (sq,st,gn)=>mn (mn (mn (pc+(r:Rat)) top) (R+((f*(2*left-1):Int):Rat))) (sq*Rat.divInt (2*(st-gn-1)+1) (2*st))
def pN(r f:Int)(pc top R:Rat)(left:Int):gG->Rat |none=>mn (mn (pc+((2*r:Int):Rat)) top) (R+((2*f*(left-1):Int):Rat)) |some (sq,st,gn)=>mn (mn (mn (pc+((2*r:Int):Rat)) top) (R+((2*f*(left-1):Int):Rat))) (sq*Rat.divInt (st-gn-1) st)
def BV:gG->gG |none=>none |some (sq,st,gn)=>some (sq,st,gn+1)
def sN(D:Nat)(pc:Rat):gG->Prop |none=>True |some (sq,st,gn)=>0<=gn/\gn<=st/\st<=1000/\Dd D sq/\sq<=2000/\(st=0->pc=0)/\pc*(st:Rat)<=sq*((st-gn:Int):Rat)
def Halt(pc:Rat)(ba:gG):Prop:=ba≠none/\pc=0
theorem wK{D:Nat}{st:Int}(h:sN D pc (some (sq,st,gn)))(hp:0<=pc)(hn:¬Halt pc (some (sq,st,gn))):gn<st/\0<sq/\0<pc:=by
 obtain⟨g0,g1,g2,hd,hl,hz,hh⟩:=h;have zM:0<pc:=LD hp λe=>hn ⟨by simp,e.symm⟩;have gD:gn<st:=by
  rcases M4 gn st with h|h
  ·exact h
  ·have e:st-gn=0:=by lia
   rw[e]at hh;have e0:sq*((0:Int):Rat)=0:=Rat.mul_zero sq;rw[e0]at hh;exfalso;rcases M4 0 st with h3|h3
   ·have h4:(0:Rat)<(st:Rat):=Wc.mpr h3
    have h5:=Rat.mul_pos zM h4;exact absurd (Std.lt_of_lt_of_le h5 hh) (Rat.lt_irrefl)
   ·rw[hz au]at zM;exact absurd zM (Rat.lt_irrefl)
 refine⟨gD,?_,zM⟩;refine LD hd.nn λe=>?_;rw[<-e,Rat.zero_mul]at hh;have h4:(0:Rat)<(st:Rat):=Wc.mpr (show(0:Int)<st by lia);exact absurd (Std.lt_of_lt_of_le (Rat.mul_pos zM h4) hh) (Rat.lt_irrefl)
section
variable {D:Nat}{r f:Int}{pc top R:Rat}{left:Int}{ba:gG}
theorem a9M:pN r f pc top R left ba<=top:=by cases ba with |none=>exact fg (gJ _ _) (kL _ _) |some q=>obtain⟨sq,st,gn⟩:=q;exact fg (gJ _ _) (fg (gJ _ _) (kL _ _))
theorem Rb:m7 r f pc top R left ba<=top:=by cases ba with |none=>exact fg (gJ _ _) (kL _ _) |some q=>obtain⟨sq,st,gn⟩:=q;exact fg (gJ _ _) (fg (gJ _ _) (kL _ _))
theorem a9N(hr:0<=r)(hf:0<=f)(hl:1<=left)(hp:Dd (D+10) pc)(ht:Dd (D+10) top)(hR:Dd (D+10) R)(hs:sN D pc ba)(hn:¬Halt pc ba):Dd (D+10) (pN r f pc top R left ba):=by have h1:=(hp.add (z:=2*r) au).mn ht;have h2:=hR.add (z:=2*f*(left-1)) (jN au au);cases ba with |none=>exact h1.mn h2 |some q=>obtain⟨sq,st,gn⟩:=q;obtain⟨a,b,c⟩:=wK hs hp.nn hn;obtain⟨g0,g1,g2,hd,hl,hz,hh⟩:=hs;exact(h1.mn h2).mn (hd.mul (m:=10) au au au)
theorem Rh(hr:0<=r)(hf:0<=f)(hl:1<=left)(hp:Dd (D+10) pc)(ht:Dd (D+10) top)(hR:Dd (D+10) R)(hs:sN D pc ba)(hn:¬Halt pc ba):Dd (D+11) (m7 r f pc top R left ba):=by have h1:=((hp.add (z:=r) au).mn ht).mono (show D+10<=D+11 by lia);have h2:=(hR.add (z:=f*(2*left-1)) (jN au au)).mono (show D+10<=D+11 by lia);cases ba with |none=>exact h1.mn h2 |some q=>obtain⟨sq,st,gn⟩:=q;obtain⟨a,b,c⟩:=wK hs hp.nn hn;obtain⟨g0,g1,g2,hd,hl,hz,hh⟩:=hs;exact(h1.mn h2).mn (hd.mul (m:=11) au au au)
theorem add_pos{x:Rat}{z:Int}(hx:0<=x)(hz:0<z):0<x+(z:Rat):=by have h1:((0:Int):Rat)<(z:Rat):=Wc.mpr hz;have h2:x+((0:Int):Rat)<x+(z:Rat):=Rat.add_lt_add_left.mpr h1;rw[show((0:Int):Rat)=0 from Z,Rat.add_zero]at h2;exact Std.lt_of_le_of_lt hx h2
theorem ID(ha:0<a)(hb:0<b):0<mn a b:=by rcases zt a b with e|e<;>rw[e]<;>assumption
theorem Rg(hr:1<=r)(hf:1<=f)(hl:1<=left)(hp:0<=pc)(ht:0<top)(hR:0<=R)(hs:sN D pc ba)(hn:¬Halt pc ba):0<m7 r f pc top R left ba:=by have h1:=ID (ID (add_pos hp (show 0<r by lia)) ht) (add_pos hR (show 0<f*(2*left-1)from j7 au au));cases ba with |none=>exact h1 |some q=>obtain⟨sq,st,gn⟩:=q;obtain⟨a,b,c⟩:=wK hs hp hn;obtain⟨g0,g1,g2,hd,hl,hz,hh⟩:=hs;exact ID h1 (Rat.mul_pos b (div_pos au au))
theorem Ux(a:Int):Rat.divInt a 1=(a:Rat):=by
 conv=>rhs;rw[<-tj (a:Rat)]
 rfl
theorem aae(hs:0<s):Rat.divInt a s*(s:Rat)=(a:Rat):=by
 have e:(s:Rat)=Rat.divInt s 1:=by rw[Ux]
 rw[e,Wf _ _,Int.mul_one,M1 a s];have e2:Rat.divInt (s*a) s=Rat.divInt (s*a) (s*1):=by rw[Int.mul_one]
 rw[e2,Rat.divInt_mul_left au,Ux]
theorem Yk(hs:sN D pc ba)(hp:0<=pc)(hn:¬Halt pc ba):sN D (pN r f pc top R left ba) (BV ba):=by cases ba with |none=>trivial |some q=>
 obtain⟨sq,st,gn⟩:=q;obtain⟨a,b,c⟩:=wK hs hp hn;obtain⟨g0,g1,g2,hd,hl,hz,hh⟩:=hs;refine⟨au,au,g2,hd,hl,λe=>by lia,?_⟩;have h1:pN r f pc top R left (some (sq,st,gn))<=sq*Rat.divInt (st-gn-1) st:=kL _ _;have h2:(0:Rat)<=(st:Rat):=Rat.intCast_nonneg.mpr au;have h3:=Rat.mul_le_mul_of_nonneg_right h1 h2;have h4:sq*Rat.divInt (st-gn-1) st*(st:Rat)=sq*((st-(gn+1):Int):Rat):=by
  rw[Rat.mul_assoc,aae au];congr 2
  lia
 rw[h4]at h3;exact h3
end
end Rn
namespace L2
open PySem PySem.Spec PyProof.Rows
section
variable {κ : Type} [DecidableEq κ]
def gk(aQ:List (κ×V))(k:κ):Option V:=(aQ.find? λkv=>decide (kv.1=k)).map (·.2)
def putK(aQ:List (κ×V))(k:κ)(v:V):List (κ×V):=if(aQ.any λkv=>decide (kv.1=k))=true then aQ.map (λkv=>if kv.1=k then(kv.1,v)else kv)else aQ++[(k,v)]
theorem Ek{k:κ}(e:p.1=k):gk (p::r) k=some p.2:=by simp[gk,AV,e]
theorem El{k:κ}(e:¬p.1=k):gk (p::r) k=gk r k:=by simp[gk,AV,e]
theorem Mj(k:κ):∀aQ:List (κ×V),(aQ.any λkv=>decide (kv.1=k))=(gk aQ k).isSome
 |[]=>rfl |p::r=>by
  rw[vK];by_cases e:p.1=k
  ·simp only[Ek e,cP e,Bool.true_or,Option.isSome_some]
  ·rw[El e,fk e,Bool.false_or];exact Mj k r
theorem Cg(aQ:List (κ×V))(k:κ)(v:V):(putK aQ k v).length<=aQ.length+1:=by
 unfold putK;split
 ·rw[cx];lia
 ·rw[fC,jM,E9];lia
theorem jI.a4S(r:jI o u):o.isSome=u.isSome:=by cases o with
 |none=>cases u with |none=>rfl |some _=>exact(show False from r).elim
 |some _=>cases u with |none=>exact(show False from r).elim |some _=>rfl
theorem KV.val(r:KV aQ vs)(k:κ):jI (gk aQ k) (valueAt vs k):=by unfold KV at r;induction r with |nil=>exact True.intro |@cons p q ps qs h t ih=>
 obtain⟨h1,h2⟩:=h;by_cases e:p.1=k
 ·have e':q.1=k:=h1.symm.trans e
  have b:valueAt (q::qs) k=some q.2:=by simp[valueAt,AV,e']
  rw[Ek e,b];exact h2
 ·have e':¬q.1=k:=λz=>e (h1.trans z)
  have b:valueAt (q::qs) k=valueAt qs k:=by simp[valueAt,AV,e']
  rw[El e,b];exact ih
theorem KV.any(r:KV aQ vs)(k:κ):(aQ.any λkv=>decide (kv.1=k))=vs.any λkv=>decide (kv.1=k):=by unfold KV at r;induction r with |nil=>rfl |cons h t ih=>rw[vK,vK,ih,h.1]
theorem KV.Hn(r:KV aQ vs)(k:κ){y:V}{u:Value}(ry:RelV y u): KV (aQ.map λkv=>if kv.1=k then(kv.1,y)else kv) (vs.map λkv=>if kv.1=k then(kv.1,u)else kv):=by unfold KV at r⊢;induction r with |nil=>exact .nil |@cons p q ps qs h t ih=>
 rw[oW,oW];refine .cons ?_ ih;obtain⟨h1,h2⟩:=h;by_cases e:p.1=k
 ·rw[bh e,bh (h1.symm.trans e)];exact⟨h1,ry⟩
 ·rw[bf e,bf (λz=>e (h1.trans z))];exact⟨h1,h2⟩
theorem KV.put(r:KV aQ vs)(k:κ){y:V}{u:Value}(ry:RelV y u):KV (putK aQ k y) (stored vs k u):=by
 unfold putK stored;rw[r.any k];by_cases e:(vs.any λkv=>decide (kv.1=k))=true
 ·rw[bh e,bh e];exact r.Hn k ry
 ·rw[bf e,bf e];exact Paired.snoc r ⟨Z,ry⟩
theorem KV.length{aQ:List (κ×V)}{vs:List (κ×Value)}(r:KV aQ vs):aQ.length=vs.length:=Paired.length r
end
theorem Cm{P:ah}{k:Key}(r:RelV (kV k) u):(jC P w).is k u=true:=by cases k with |inl i=>obtain⟨t,e⟩:=(show∃t,u=Value.int i t from r);subst e;exact a3I P w i t |inr x=>obtain⟨t,e⟩:=(show∃t,u=Value.str x t from r);subst e;exact a3H P w x t
theorem RZ{P:ah}{w:World}:∀{ks:List Key}{us:List Value},Vals (ks.map kV) us->ItemsAre (jC P w) ks us |[],_,r=>by rw[List.map_nil]at r;cases r;exact .nil |k::ks,_,r=>by rw[oW]at r;cases r with |cons h t=>exact .cons (Cm h) (RZ t)
abbrev KT(H:Hp):List (List Key×V)->List (List Key×Addr×Value)->Prop:=Paired λp q=>p.1=q.1/\H q.2.1=some (.tup (p.1.map kV))/\RelV p.2 q.2.2
theorem KT.val(r:KT H aQ xs)(k:List Key):jI (gk aQ k) ((atKey xs k).map (·.2)):=by induction r with |nil=>exact True.intro |@cons p q ps qs h t ih=>
 obtain⟨h1,_,h2⟩:=h;by_cases e:p.1=k
 ·have e':q.1=k:=h1.symm.trans e
  have b:atKey (q::qs) k=some q.2:=by simp[atKey,AV,e']
  rw[Ek e,b];exact h2
 ·have e':¬q.1=k:=λz=>e (h1.trans z)
  have b:atKey (q::qs) k=atKey qs k:=by simp[atKey,AV,e']
  rw[El e,b];exact ih
theorem KT.Hn(r:KT H aQ xs)(k:List Key){y:V}{u:Value}(ry:RelV y u): KT H (aQ.map λkv=>if kv.1=k then(kv.1,y)else kv) (xs.map (putAt k u)):=by induction r with |nil=>exact .nil |@cons p q ps qs h t ih=>
 rw[oW,oW];refine .cons ?_ ih;obtain⟨h1,h2,h3⟩:=h;unfold putAt;by_cases e:p.1=k
 ·rw[bh e,bh (h1.symm.trans e)];exact⟨h1,h2,ry⟩
 ·rw[bf e,bf (λz=>e (h1.trans z))];exact⟨h1,h2,h3⟩
theorem KT.put(r:KT H aQ xs)(k:List Key){b:Addr}{y:V}{u:Value}(hb:H b=some (.tup (k.map kV)))(ry:RelV y u): KT H (putK aQ k y) (storedH xs k b u):=by
 have e:(aQ.any λkv=>decide (kv.1=k))=(atKey xs k).isSome:=by rw[Mj,(r.val k).a4S,Option.isSome_map]
 unfold putK storedH;rw[e];by_cases q:(atKey xs k).isSome=true
 ·rw[bh q,bh q];exact r.Hn k ry
 ·rw[bf q,bf q];exact Paired.snoc r ⟨Z,hb,ry⟩
theorem KT.keeps(r:KT H aQ xs)(ht:∀b ys,H b=some (.tup ys)->H' b=some (.tup ys)):KT H' aQ xs:=Paired.IG r λ_ _ z=>⟨z.1,ht _ _ z.2.1,z.2.2⟩
section
variable {P:ah}{w:World}{H:Hp}{h:Heap}{a:Addr}
theorem PH(ok:dN P w H h)(e:Rd H a u):fe P w H h a u:=e.ok ok
theorem Kq(ok:dN P w H h)(e:Rd H a (.dK aQ)):aQ.length<=sizeLine/\(a==sysModules)=false/\∃vs,KV aQ vs/\h.DictOf (jC P w) a vs:=show fe P w H h a (.dK aQ)from PH ok e
theorem Uv(ok:dN P w H h)(e:H a=some (.dK aQ)):aQ.length<=sizeLine/\(a==sysModules)=false/\∃vs,KV aQ vs/\h.DictOf (jC P w) a vs:=Kq ok (.inl e)
theorem IZ(ok:dN P w H h)(e:H a=some (.tup (ks.map kV))):(tupleKind (jC P w)).is h ks a:=by obtain⟨_,its,r,o,h1,h2,n,h3⟩:=(show fe P w H h a (.tup (ks.map kV))from ok a _ e);exact⟨o,its.toArray,n,h1,h2,h3,by simpa using RZ r⟩
theorem Km(ok:dN P w H h)(e:Rd H a (.dT aQ)):aQ.length<=sizeLine/\(a==sysModules)=false/\∃xs,KT H aQ xs/\h.DictOfH (tupleKind (jC P w)) a xs:=by
 obtain⟨z,y,xs,r,o,es,ep,h1,h2,h3,h4,h5⟩:=(show fe P w H h a (.dT aQ)from PH ok e);refine⟨z,y,xs,r,o,es,ep,h1,h2,h3,h4,λx hx=>?_,h5⟩;have all:∀{l:List (List Key×V)}{m:List (List Key×Addr×Value)},KT H l m->∀x∈m,(tupleKind (jC P w)).is h x.1 x.2.1:=by intro l m q;induction q with |nil=>intro x hx;exact nomatch hx |@cons p q ps qs hq t ih=>
  intro x hx;rcases bL.mp hx with e|hx
  ·subst e
   exact IZ ok (by rw[<-hq.1];exact hq.2.1)
  ·exact ih x hx
 exact all r x hx
theorem aa1(ok:dN P w H h)(e:H a=some (.dT aQ)):aQ.length<=sizeLine/\(a==sysModules)=false/\∃xs,KT H aQ xs/\h.DictOfH (tupleKind (jC P w)) a xs:=Km ok (.inl e)
end
def vt(H:Hp)(a:Addr)(y:V)(r:Option V):Prop:=(∃aQ k,Rd H a (.dK aQ)/\y=kV k/\r=gk aQ k)\/∃aQ k b,Rd H a (.dT aQ)/\y= .ref b/\H b=some (.tup (k.map kV))/\r=gk aQ k
def sR(H:Hp)(a:Addr)(y v:V)(H':Hp):Prop:=(∃aQ k,H a=some (.dK aQ)/\y=kV k/\aQ.length<sizeLine/\H'=upd H a (.dK (putK aQ k v)))\/ ∃aQ k b,H a=some (.dT aQ)/\y= .ref b/\H b=some (.tup (k.map kV))/\aQ.length<sizeLine/\H'=upd H a (.dT (putK aQ k v))
theorem vt.k{k:Key}(e:H a=some (.dK aQ)):vt H a (kV k) (gk aQ k):=.inl ⟨aQ,k,.inl e,Z,Z⟩
theorem sR.k{k:Key}{v:V}(e:H a=some (.dK aQ))(hl:aQ.length<sizeLine):sR H a (kV k) v (upd H a (.dK (putK aQ k v))):=.inl ⟨aQ,k,e,Z,hl,Z⟩
section
variable {X:Cx}{aw:List (Addr×Obj)}{O:St}{H:Hp}{s:ae}{a:Addr}{y v:V}{u r:Value}{o:Option V}{A:aj}{E:Value->ae->Prop}
theorem Inv.big(I:Inv X aw O H s):sysModules<s.heap.objs.size:=by have h:mainGlobals<s.heap.objs.size:=(I.mod.glob.keeps I.bk).lt;exact LN aA h
theorem aak{Q:Value->ae->Prop}(hu:A.units+1<cLine)(I:Inv X aw O H s)(g:vt H a y (some v))(ry:RelV y u)(h:∀w' s',Inv X aw O H s'->RelV v w'->Q w' s'): wpAny (model X.prog X.w) A (getItem (.ref a) u) Q E s:=by
 rcases g with⟨aQ,k,e,ey,l⟩|⟨aQ,k,b,e,ey,eb,l⟩
 ·subst ey
  obtain⟨z,hd,vs,rel,dd⟩:=Kq I.aY e;obtain⟨w',hw,jg⟩:=jI.some_of (v:=v) (o:=valueAt vs k) (by rw[l];exact rel.val k);exact wpAny_getItem_of (Cm ry) dd.mapOf hw (h w' _ (I.tok _) jg)
 ·subst ey
  cases(show u=Value.ref b from ry);obtain⟨z,hd,xs,rel,dd⟩:=Km I.aY e;obtain⟨w',hw,jg⟩:=jI.some_of (v:=v) (o:=(atKey xs k).map (·.2)) (by rw[l];exact rel.val k);obtain⟨p,hp,Cz⟩:=Wx.mp hw;refine wpAny_getItem_heap (tupleKind_room_in1 hu) (IZ I.aY eb) dd hp ?_;rw[Cz];exact h w' _ (I.tok _) jg
theorem Ku{ob:HO}(I:Inv X aw O H s)(mu:Aw (H a))(hs:Heap.SameBut a s.heap h')(he:∃q,h'.get? a=some q)(new:fe X.prog X.w (upd H a ob) h' a ob): Inv X aw O (upd H a ob) {s with heap:=h',toks:=t'}:=I.write (x:=a) (e:=a) mu (.inl Z) (λb q hb z=>(hs.2 b hb).trans z) he new
theorem Uw{P:ah}(z:aQ.length<=sizeLine)(hd:(a==sysModules)=false)(rel:KV aQ vs)(dd:h'.DictOf (jC P w) a vs): fe P w H' h' a (.dK aQ):=⟨z,hd,vs,rel,dd⟩
theorem aaj{H':Hp}{Q:Unit->ae->Prop}(hu:A.units+1<cLine)(I:Inv X aw O H s)(g:sR H a y v H')(ry:RelV y u)(rv:RelV v r)(h:∀s',Inv X aw O H' s'->Q () s'): wpAny (model X.prog X.w) A (setItem (.ref a) u r) Q E s:=by
 rcases g with⟨aQ,k,e,ey,l,eH⟩|⟨aQ,k,b,e,ey,eb,l,eH⟩
 ·subst ey eH
  obtain⟨z,hd,vs,rel,dd⟩:=Uv I.aY e;have hz:vs.length<=sizeLine:=by rw[<-rel.length];exact z
  have hl:(putK aQ k v).length<=sizeLine:=by have:=Cg aQ k v;lia
  refine wpAny_setItem_pairs (hsz:=hz) (Cm ry) dd λh' oH hs=>h _ ?_;have he:∃q,h'.get? a=some q:=let⟨q,_,_,hq,_⟩:=oH;⟨q,hq⟩;exact Ku I (by rw[e];exact True.intro) hs he (Uw hl hd (rel.put k rv) oH)
 ·subst ey eH
  cases(show u=Value.ref b from ry);obtain⟨z,hd,xs,rel,dd⟩:=aa1 I.aY e;have hz:xs.length<=sizeLine:=by rw[<-Paired.length rel];exact z
  have hl:(putK aQ k v).length<=sizeLine:=by have:=Cg aQ k v;lia
  refine wpAny_setItem_heap (hsz:=hz) (tupleKind_room_in1 hu) (IZ I.aY eb) dd λh' oH hs=>h _ ?_;obtain⟨q,es,ep,hq,h2,h3,h4,_,h5⟩:=oH;refine Ku I (by rw[e];exact True.intro) hs ⟨q,hq⟩ ⟨hl,hd,_,(rel.put k eb rv).keeps λc ys ec=>?_,q,es,ep,hq,h2,h3,h4,h5⟩;rw[aO (zo ec e (λz=>nomatch z))];exact ec
end
section
variable {X:Cx}{aw:List (Addr×Obj)}{O:St}{H:Hp}{s:ae}{a:Addr}{aQ:List (Key×V)}{k:Key}{u:Value}{A:aj}{E:Value->ae->Prop}
end
def Lo(i:Expr):Prop:=∀ov iv,subscripted i false ov iv=operate [ov,iv] (getItem ov iv)
theorem Yg{prog:ah}{w:World}{A:aj}{E:Value->ae->Prop}{s:ae}{env:Env}{value slice:Expr}{pos:Pos}{T id:String}{Q:Value->ae->Prop} (hl:typeLookup (.type T) "__getitem__"=pure (some (.builtin id)))(hs:Lo slice) (h:wpAny (model prog w) A (eval value env) (λo s₁=>wpAny (model prog w) A (eval slice env) (λi s₂=>s₂.TypeIs o T/\wpAny (model prog w) A (getItem o i) Q E s₂) E s₁) E s): wpAny (model prog w) A (eval (.Subscript value slice pos) env) Q E s:=by
 refine Subscript_ (iM h (λo s₁ h₁=>iM h₁ (λi s₂ h₂=>?_) λ_ _ x=>x) λ_ _ x=>x);obtain⟨hT,h₂⟩:=h₂;unfold subscriptTail;refine aK ?_;rw[getitemInPython_of_ne hT.not_modules];refine aK (wpAny_specialOf hT hl ?_);have fin:wpAny (model prog w) A (subscripted slice false o i) (λr s₃=>wpAny (model prog w) A (letTemporaryGo value o r>>=λ_=>pure r) Q E s₃) E s₂:=by rw[hs o i];exact wpAny_operating (iM h₂ (λr s₃ h₃=>aK (wpAny_letTemporaryGo (cf h₃))) λ_ _ x=>x)
 first |exact cf (aK fin) |exact aK (cf (aK fin)) |exact aK fin
theorem aaf{X:Cx}{aw:List (Addr×Obj)}{O:St}{H:Hp}{s:ae}{a:Addr}{y:V}{o:Option V}(I:Inv X aw O H s)(g:vt H a y o):s.TypeIs (.ref a) "dict":=by
 rcases g with⟨aQ,k,e,_,_⟩|⟨aQ,k,b,e,_,_,_⟩
 ·obtain⟨_,_,vs,_,dd⟩:=Kq I.aY e
  exact dd.typeIs
 ·obtain⟨_,_,xs,_,dd⟩:=Km I.aY e
  exact dd.typeIs
inductive ac2(Q:VK)(x:V)(y:V)(H2:Hp):Prop |mk (a:_)(v:_)(h0:x= .ref a)(h1:vt H2 a y (some v))(h2:Q v H2)
def MM(td ty:TE):TE:=λO H Q=>td O H λx H1=>ty O H1 λy H2=>ac2 Q x y H2
inductive ade(D:Ends)(O:St)(v:V)(x:V)(y:V)(H3:Hp):Prop |mk (a:_)(H4:_)(h0:x= .ref a)(h1:sR H3 a y v H4)(h2:D.nx O H4)
def Ze(td ty tv:TE):TS:=λD O H=>tv O H λv H1=>td O H1 λx H2=>ty O H2 λy H3=>ade D O v x y H3
section
variable {X:Cx}{o i e value:Expr}{pos pos' p9:Pos}{td ty tv:TE}
theorem a0Z(hu:X.A.units+1<cLine)(ho:PE X o td)(hi:PE X i ty)(hs:Lo i):PE X (.Subscript o i pos) (MM td ty):=by intro aw s O H Q I h;refine Yg PySem.F.slot_dict_getitem.lookup hs (bc (ho aw s O H _ I h) λu s1 ⟨x,H1,I1,rx,q1⟩=>bc (hi aw s1 O H1 _ I1 q1) λiv s2 ⟨y,H2,I2,ry,a,v,ex,g,q2⟩=>?_);subst ex;obtain rfl:u=Value.ref a:=rx;exact⟨aaf I2 g,aak hu I2 g ry λw' s3 I3 jg=>⟨v,H2,I3,jg,q2⟩⟩
theorem iB(hu:X.A.units+1<cLine)(ho:PE X o td)(hi:PE X i ty)(hv:PE X value tv)(hs:swapsWith value (some (.Subscript o i pos')) pos.line X.env=pure false): PS X (.Assign [.Subscript o i pos'] value pos) (Ze td ty tv):=by intro aw s O H D I h;refine wpAny_Assign_Subscript (bc (hv aw s O H _ I h) λr s1 ⟨v,H1,I1,rv,q1⟩=>bc (ho aw s1 O H1 _ I1 q1) λu s2 ⟨x,H2,I2,rx,q2⟩=>bc (hi aw s2 O H2 _ I2 q2) λiv s3 ⟨y,H3,I3,ry,a,H4,ex,g,q3⟩=>?_) hs;subst ex;obtain rfl:u=Value.ref a:=rx;exact aaj hu I3 g ry rv λs4 I4=>⟨O,H4,I4,q3⟩
end
theorem aac{P:ah}(h:Heap)(hb:sysModules<h.objs.size):fe P w H (h.push {cls:=.type "dict",data:=.dict #[]}) h.objs.size (.dK []):=⟨gy _,E2.mpr (e9 (fA hb)),[],.nil,Heap.DictOf.new h⟩
section
variable {X:Cx} {pos:Pos}
end
def EE:List (TE×TE)->St->Hp->(List (V×V)->Hp->Prop)->Prop |[],_,H,Q=>Q [] H |(tk,tv)::r,O,H,Q=>tk O H λx H1=>tv O H1 λy H2=>EE r O H2 λps H3=>Q ((x,y)::ps) H3
abbrev VV:List (V×V)->List (Value×Value)->Prop:=Paired λp q=>RelV p.1 q.1/\RelV p.2 q.2
def DJ(X:Cx)(pos:Pos)(keys:List (Option Expr))(values:List Expr)(p8:List (TE×TE)):Prop:=∀(aw:List (Addr×Obj))(s:ae)(O:St)(H:Hp)(Q:List (V×V)->Hp->Prop),Inv X aw O H s->EE p8 O H Q->wpAny (model X.prog X.w) X.A (evalPairs (pairTrees keys values X.env pos)) (λvs s'=>∃ps H',Inv X aw O H' s'/\VV ps vs/\Q ps H') X.xe s
theorem a0z:DJ X pos [] [] []:=λaw s O H Q I h=>pairTrees_nil_walk ⟨[],H,I,.nil,h⟩
theorem BM{k v:Expr}(hk:PE X k tk)(hv:PE X v tv)(hr:DJ X pos ks vs p8): DJ X pos (some k::ks) (v::vs) ((tk,tv)::p8):=λaw s O H Q I h=>pairTrees_cons_walk (bc (hk aw s O H _ I h) λu s1 ⟨x,H1,I1,rx,q1⟩=>bc (hv aw s1 O H1 _ I1 q1) λw2 s2 ⟨y,H2,I2,ry,q2⟩=>bc (hr aw s2 O H2 _ I2 q2) λws s3 ⟨ps,H3,I3,rel,q3⟩=>⟨(x,y)::ps,H3,I3,.cons ⟨rx,ry⟩ rel,q3⟩)
def rF(aQ more:List (Key×V)):List (Key×V):=more.foldl (λacc kv=>putK acc kv.1 kv.2) aQ
theorem KV.merge:∀{more:List (Key×V)}{rs:List (Key×Value)}{aQ:List (Key×V)}{vs:List (Key×Value)},KV more rs->KV aQ vs->KV (rF aQ more) (merged vs rs):=by intro more rs aQ vs r;unfold KV at r;induction r generalizing aQ vs with |nil=>intro q;exact q |@cons p q ps qs h t ih=>
 intro r0;have e:KV (putK aQ p.1 p.2) (stored vs q.1 q.2):=by have:=r0.put p.1 h.2;rw[<-h.1];exact this
 exact ih e
theorem RH:∀(more aQ:List (Key×V)),(rF aQ more).length<=aQ.length+more.length |[],aQ=>by show aQ.length<=aQ.length+0;lia |p::r,aQ=>by have h1:=RH r (putK aQ p.1 p.2);have h2:=Cg aQ p.1 p.2;show(rF (putK aQ p.1 p.2) r).length<=_;rw[jM];lia
theorem V2{P:ah}{w:World}:∀{aQ:List (Key×V)}{ws:List (Value×Value)},VV (aQ.map λkv=>(kV kv.1,kv.2)) ws->∃rs,Carries (jC P w) ws rs/\KV aQ rs |[],_,r=>by rw[List.map_nil]at r;cases r;exact⟨[],True.intro,.nil⟩ |p::aQ,_,r=>by rw[oW]at r;cases r with |@cons a b as bs h t=>obtain⟨rs,c,q⟩:=V2 (P:=P) (w:=w) t;obtain⟨b1,b2⟩:=b;exact⟨(p.1,b2)::rs,⟨Cm h.1,Z,c⟩,.cons ⟨Z,h.2⟩ q⟩
def Y0(p8:List (TE×TE)):TE:=λO H Q=>∀p,H p=none->EE p8 O (upd H p (.dK [])) λps H2=>H2 p=some (.dK [])/\∃aQ:List (Key×V),ps=aQ.map (λkv=>(kV kv.1,kv.2))/\aQ.length<=15/\Q (.ref p) (upd H2 p (.dK (rF [] aQ)))
theorem a0Y(h:DJ X pos keys values p8)(JA:keys.all (·.isSome)=true)(hl:keys.length=values.length)(h0:keys≠[]) (SY:keys.length<=15):PE X (.Dict keys values pos) (Y0 p8):=by
 intro aw s O H Q I q;have hn:=I.aY.fresh (bK s.heap.objs.size);have I1:=I.laid (a:=s.heap.objs.size) (o:=.dK []) (h':=s.heap.push {cls:=.type "dict",data:=.dict #[]}) (t':=s.toks) (λ_ _ q=>cy _ q) (bK _) (aac s.heap I.big);refine wpAny_Dict_walk (knd:=jC X.prog X.w) JA hl h0 SY (bc (h aw _ O _ _ I1 (q _ hn)) λws s2 ⟨ps,H2,I2,rel,e,aQ,ep,lk,q2⟩=>?_);subst ep;obtain⟨rs,c,rk⟩:=V2 (P:=X.prog) (w:=X.w) rel;obtain⟨z,hd,vs0,r0,dd⟩:=Uv I2.aY e;cases r0;refine⟨rs,c,dd,λh' oH hs=>⟨.ref s.heap.objs.size,_,?_,Z,q2⟩⟩;have hz:(rF [] aQ).length<=sizeLine:=by have h1:=RH aQ [];rw[E9]at h1;rw[DY];lia
 have he:∃q,h'.get? s.heap.objs.size=some q:=let⟨q,_,_,hq,_⟩:=oH;⟨q,hq⟩;exact Ku I2 (by rw[e];exact True.intro) hs he (Uw hz hd (rk.merge .nil) oH)
section
variable {X:Cx}{aw:List (Addr×Obj)}{O:St}{H:Hp}{s:ae}{a:Addr}{y d:V}{u r:Value}{o:Option V}{A:aj}{E:Value->ae->Prop}
end
section
variable {X:Cx}{o e f:Expr}{apos cD:Pos}{td ty tx:TE}
end
section
variable {X:Cx}{aw:List (Addr×Obj)}{O:St}{H:Hp}{s:ae}{a:Addr}{aQ:List (Key×V)}{A:aj}{E:Value->ae->Prop}
end
section
variable {X:Cx}{aw:List (Addr×Obj)}{O:St}{H:Hp}{s:ae}{a:Addr}{y:V}{u:Value}{A:aj}{E:Value->ae->Prop}
end
section
variable {X:Cx}
end
theorem a7N{K:aa}{mg:bJ}{x z:Str}{t:Tok}{h:Heap}(X:K.In h)(G:h.Ns mainGlobals mg)(a:PySem.W.nsIn K mainGlobals x=some (some (.str z t))):GV mg x (.str z):=⟨_,vy X G a,t,Z⟩
end L2
set_option exponentiation.threshold 6000
namespace L2
open PySem PySem.Spec PyProof.Rows
section
variable {X:Cx}
theorem V4:fJ X (.type "str") (λxs H Q=>(∃i,xs=[.int i]/\i.natAbs.log2<1920/\Q (.str (toString i)) H)\/∃z,xs=[.str z]/\Q (.str z) H):=by
 intro aw s O H xs us Q I r h;rcases h with⟨i,rfl,hz,q⟩|⟨z,rfl,q⟩
 ·obtain⟨u,rfl,t,rfl⟩:=vals1 r
  exact PySem.P.str_of_int hz ⟨.str _,H,I.tok _,⟨_,Z⟩,q⟩
 ·obtain⟨u,rfl,t,rfl⟩:=vals1 r
  exact PySem.P.str_of_str ⟨.str _,H,I,⟨_,Z⟩,q⟩
theorem Mx{i:Int}(h:i.natAbs<10^40):(Str.ofString (toString i)).length<=41:=by rw[PySem.ofString_length];exact int_text_length_le10 (k:=40) aA h
theorem Ry{i:Int}(h:i.natAbs<10^40):i.natAbs.log2<1920:=by
 by_cases h0:i.natAbs=0
 ·rw[h0];decide
 ·exact(Nat.log2_lt h0).mpr (LN h aA)
end
end L2
namespace Tu
open Ln
end Tu
namespace Pn
theorem QY(a b:Rat):mn a b=mn b a:=E3 (lE (kL _ _) (gJ _ _)) (lE (kL _ _) (gJ _ _))
section
variable {n:Nat}{own Ib:Nat->Rat}{L L':Nat->Option Nat}{r f:Int}
end
end Pn
namespace Ow
open Pn Ln Cn Tu
end Ow
namespace L2
open PySem PySem.Spec PyProof.Rows
theorem aag(f:Array Value->Array Value)(o:Obj):(o.mapFields f).dict=o.dict:=by obtain⟨c,d,dt,sl⟩:=o;cases dt<;>rfl
def TrD(h B:Heap)(ex:Addr)(cls:Value)(dx:Option Addr)(fl:Value):Prop:=∃ob fs tb ot ts,h.get? ex=some ob/\ob.cls=cls/\ob.dict=dx/\ob.data= .fields fs/\fs[1]? =some (.ref tb)/\B.get? tb=none/\tb≠ex/\h.get? tb=some ot/\ot.data= .fields ts/\ts[3]? =some fl
def kR(B:Heap)(l:List Env)(ex:Addr)(cls:Value)(dx:Option Addr)(fl:Value)(h:Heap):Prop:=B.StaysIn h/\B.get? ex=none/\h.FunFrames B l/\TrD h B ex cls dx fl
theorem kR.there{cls fl:Value}(x:kR B l ex cls dx fl h):∃ob,h.get? ex=some ob/\ob.cls=cls/\ob.dict=dx/\∃fs,ob.data= .fields fs:=by obtain⟨_,_,_,ob,fs,_,_,_,e,c,d,z,_⟩:=x;exact⟨ob,e,c,d,fs,z⟩
section
variable {M:Model}{A:aj}{E:Value->ae->Prop}{s:ae}{B:Heap}{env:Env}{outer:List Env}{L ex:Addr}{ob:Obj}{fs:Array Value}{head:Value}{nx:Bool}{Q:Unit->ae->Prop}{cls fl:Value}{dx:Option Addr}
theorem Ua(hA:A.frames=some (env::outer))(ff:s.heap.FunFrames B (env::outer))(hL:env.frame=some L)(ho:s.heap.get? ex=some ob)(st:B.StaysIn s.heap)(hB:B.get? ex=none)(hd:ob.data= .fields fs)(hz:1<fs.size) (q:∀h',kR B (env::outer) ex ob.cls ob.dict (rawInt L) h'->s.heap.UpToSlots h'->Q () {s with heap:=h'}): wpAny M A (do let a<-frameOf env;let pl<-entryPlaceOf L nx;let b<-EntryCells.newEntry head a .none (rawInt L) .none pl;setField (.ref ex) 1 b) Q E s:=by
 have mQ:ex∉(env::outer).filterMap (·.frame):=λhm=>by obtain⟨_,o,e1,nf⟩:=ff.mem hm;rw[ho]at e1;cases e1;exact nf fs hd
 refine aK (wpAny_frameOf_fun hA ff hL λg1 k1=>aK (wpAny_entryPlaceOf λpl hp=>?_));unfold EntryCells.newEntry newFields;refine aK (qE ?_ (hp.sizeOk5 _ _ _ _ _));have o1:g1.get? ex=some ob:=(k1.2.1 ex mQ).trans ho;have Bo:B.StaysIn g1:=λb o e=>(k1.2.1 b λhm=>by rw[(ff.mem hm).1]at e;cases e).trans (st b o e);generalize hT:({cls:=.type "traceback",dict:=none,data:=.fields ([head,.ref L,.none,rawInt L,.none]++(if pl.isEmpty then List.replicate 6 Value.none else pl)).toArray}:Obj)=T;have o2:(g1.push T).get? ex=some ob:=cy T o1;refine DR o2 hd hz (q _ ?_ ?_);all_goals have ne:g1.objs.size≠ex:=AK (cC o1)
 all_goals have keep:∀b o,b≠ex->g1.get? b=some o->((g1.push T).update ex (Obj.mapFields (·.setIfInBounds 1 (Value.ref g1.objs.size)))).get? b=some o:=λb o nb e=>by rw[AX _ _ (e9 nb)];exact cy _ e
 all_goals have rA:∀b o,s.heap.get? b=some o->(∀vs,o.data≠ .fields vs)->b≠ex:=λb o e nf z=>by rw[z,ho]at e;cases e;exact nf fs hd
 ·have d3:=E5 hd (·.setIfInBounds 1 (Value.ref g1.objs.size))
  have o3:=Ef (Obj.mapFields (·.setIfInBounds 1 (Value.ref g1.objs.size))) o2 (Wy d3);refine⟨λb o e=>keep b o (λz=>by rw[z,hB]at e;cases e) (Bo b o e),hB,ff.of_keeps λb o e nf=>?_,?_⟩
  ·obtain⟨sl,e1⟩:=k1.2.2 b o e
   exact⟨_,keep b _ (rA b o e nf) e1,Z⟩
  ·refine⟨_,_,g1.objs.size,T,_,o3,Obj.cls_mapFields _ _,aag _ _,d3,by simp[hz],Bo.fresh,ne,?_,by rw[<-hT],?_⟩
   ·rw[AX _ _ (e9 ne)];exact eV g1 (by rw[<-hT];rfl)
   ·first|(simp;done)|(rcases hp with rfl|⟨_,_,_,_,_,_,_,rfl⟩<;>simp)
 ·intro b o e nf
  obtain⟨sl,e1⟩:=k1.2.2 b o e;exact⟨sl,keep b _ (rA b o e nf) e1⟩
theorem a3c(hA:A.frames=some (env::outer))(ff:s.heap.FunFrames B (env::outer))(hL:env.frame=some L)(ho:s.heap.get? ex=some ob)(st:B.StaysIn s.heap)(hB:B.get? ex=none)(hd:ob.data= .fields fs)(h1:fs[1]? =some .none) (q:∀h',kR B (env::outer) ex ob.cls ob.dict (rawInt L) h'->s.heap.UpToSlots h'->Q () {s with heap:=h'}):wpAny M A (noteFrame (.ref ex) env) Q E s:=by unfold noteFrame;simp only[hL];refine aK (jw ho hd h1 ?_);rw[bf aA];exact Ua hA ff hL ho st hB hd (M9.mp h1).1 q
theorem QD(hA:A.frames=some (env::outer))(hL:env.frame=some L)(x:kR B (env::outer) ex cls dx .none s.heap) (q:∀h',kR B (env::outer) ex cls dx (rawInt L) h'->s.heap.UpToSlots h'->Q () {s with heap:=h'}):wpAny M A (noteFrame (.ref ex) env) Q E s:=by
 obtain⟨st,hB,ff,ob,fs,tb,ot,ts,ho,rfl,rfl,hd,h1,CS,nt,ht,oj,h3⟩:=x;unfold noteFrame;simp only[hL];refine aK (jw ho hd h1 ?_);rw[bh (show(Value.ref tb !=Value.none)=true from by simp)];refine aK (jw ht oj h3 ?_);rw[bf (show¬((Value.none==rawInt L)=true)from by simp[rawInt])];refine aK (DR ht oj (M9.mp h3).1 ?_);have other:∀b,b≠tb->(s.heap.update tb (Obj.mapFields (·.setIfInBounds 3 Value.none))).get? b=s.heap.get? b:=λb nb=>AX _ _ (e9 nb);have rA:∀b o,s.heap.get? b=some o->(∀vs,o.data≠ .fields vs)->b≠tb:=λb o e nf z=>by rw[z,ht]at e;cases e;exact nf ts oj
 refine Ua (s:={s with heap:=s.heap.update tb (Obj.mapFields (·.setIfInBounds 3 Value.none))}) hA (ff.of_keeps λb o e nf=>⟨o,(other b (rA b o e nf)).trans e,Z⟩) hL ((other ex (e9 nt)).trans ho) (λb o e=>(other b λz=>by rw[z,CS]at e;cases e).trans (st b o e)) hB hd (M9.mp h1).1 λh' y up=>q h' y λb o e nf=>up b o ((other b (rA b o e nf)).trans e) nf
theorem D5(x:kR B l ex cls dx fl s.heap)(q:∀h',kR B l ex cls dx .none h'->s.heap.UpToSlots h'->Q () {s with heap:=h'}):wpAny M A (setFlight (.ref ex) none) Q E s:=by
 obtain⟨st,hB,ff,ob,fs,tb,ot,ts,ho,hc,hx,hd,h1,CS,nt,ht,oj,h3⟩:=x;have z3:3<ts.size:=(M9.mp h3).1;have other:∀b,b≠tb->(s.heap.update tb (Obj.mapFields (·.setIfInBounds 3 ((none:Option Addr).elim Value.none λf=>rawInt f)))).get? b=s.heap.get? b:=λb nb=>AX _ _ (e9 nb);have rA:∀b o,s.heap.get? b=some o->(∀vs,o.data≠ .fields vs)->b≠tb:=λb o e nf z=>by rw[z,ht]at e;cases e;exact nf ts oj
 unfold setFlight;refine aK (jw ho hd h1 ?_);rw[bh (show(Value.ref tb !=Value.none)=true from by simp)];refine DR ht oj z3 (q _ ⟨λb o e=>(other b λz=>by rw[z,CS]at e;cases e).trans (st b o e),hB,ff.of_keeps λb o e nf=>⟨o,(other b (rA b o e nf)).trans e,rfl⟩,?_⟩ λb o e nf=>⟨o.slots,(other b (rA b o e nf)).trans e⟩);exact⟨ob,fs,tb,_,_,(other ex (e9 nt)).trans ho,hc,hx,hd,h1,CS,nt,Ef _ ht (Wy (E5 oj _)),E5 oj _,by simp[z3]⟩
theorem RJ(hA:A.frames=some (env::outer))(ff:s.heap.FunFrames B (env::outer))(hL:env.frame=some L)(ho:s.heap.get? ex=some ob)(st:B.StaysIn s.heap)(hB:B.get? ex=none)(hd:ob.data= .fields fs)(h1:fs[1]? =some .none) (q:∀h',kR B outer ex ob.cls ob.dict .none h'->s.heap.UpToSlots h'->Q () {s with heap:=h'}):wpAny M A (leaving env (.ref ex)) Q E s:=by unfold leaving;refine aK (a3c hA ff hL ho st hB hd h1 λh1 x1 u1=>D5 x1 λh2 x2 u2=>q h2 ?_ (u1.trans u2));obtain⟨a,b,⟨_,_,c⟩,d⟩:=x2;exact⟨a,b,c,d⟩
theorem a4p(hA:A.frames=some (env::outer))(hL:env.frame=some L)(x:kR B (env::outer) ex cls dx .none s.heap) (q:∀h',kR B outer ex cls dx .none h'->s.heap.UpToSlots h'->Q () {s with heap:=h'}):wpAny M A (leaving env (.ref ex)) Q E s:=by unfold leaving;refine aK (QD hA hL x λh1 x1 u1=>D5 x1 λh2 x2 u2=>q h2 ?_ (u1.trans u2));obtain⟨a,b,⟨_,_,c⟩,d⟩:=x2;exact⟨a,b,c,d⟩
end
end L2
namespace L2
open PySem PySem.Spec PyProof.Rows
open Builtin Builtin.ObjectAttr
def tI:List Value:=[.type "ValueError",.type "Exception",.type "BaseException",.type "object"]
def pL:List Value->Bool | .ref _::r=>pL r |l=>l==tI
theorem ZV(self:Value){l:List Value}(e:pL l=true):refuseLoop self "__setattr__" l=pure ():=by induction l with |nil=>simp[pL,tI]at e |cons v r ih=>cases v with |ref c=>rw[refuseLoop_ref];exact ih (by simpa[pL]using e) |_=>have e':=fz.mp (show(_==tI)=true from e);rw[e'];exact PySem.F.store_ValueError.passes self
theorem a6G{t:String}(ht:(tI.contains (.type t))=true):∀{l:List Value},pL l=true->l.contains (.type t)=true |l,e=>by induction l with |nil=>simp[pL,tI]at e |cons v r ih=>cases v with |ref c=>rw[WH,ih (by simpa[pL]using e),Bool.or_true] |_=>have e':=fz.mp (show(_==tI)=true from e);rw[e'];exact ht
def Qo(K:aa)(C:Addr):Bool:=(PySem.W.clsIn K C).any λcd=>pL cd.mro
section
variable {prog:ah}{w:World}{A:aj}{E:Value->ae->Prop}{s:ae}{K:aa}{x C:Addr}{ox:Obj}{fs:Array Value}{name:Str}{v:Value}{Q:Unit->ae->Prop}
theorem YO(X:K.In s.heap)(hx:s.heap.get? x=some ox)(hc:ox.cls= .ref C)(hd:ox.dict=none)(hf:ox.data= .fields fs) (hs:PySem.W.findIn K (.ref C) "__setattr__"=some (some (.builtin "object.__setattr__")))(hp:Qo K C=true)(ht:PySem.W.takerIn K C name=some none)(hh:PySem.W.hasDictIn K C=true) (h:∀h',h'.get? x=some {ox with dict:=some s.heap.objs.size}->h'.Ns1 s.heap.objs.size (λy=>if y=name then some v else none)->(∀b o,b≠x->s.heap.get? b=some o->h'.get? b=some o)->Q () {s with heap:=h',toks:=s.toks+2}): wpAny (model prog w) A (setAttr (.ref x) name v) Q E s:=by
 have I:PySem.W.InstAt s.heap x ox C none:=⟨hx,hc,by unfold PySem.W.notCls;rw[hf],by rw[hd];trivial⟩;refine PySem.W.set_plain X I hs ?_;have SF:=PySem.F.store_object;obtain⟨cd,gF,ho⟩:=Wm hp;have ne:cd.mro.isEmpty=false:=by cases q:cd.mro with|nil=>rw[q]at ho;simp[pL,tI]at ho|cons _ _=>rfl
 have sub:PySem.W.Looks (model prog w) s.heap (isInstance (.ref x) (.type "object")) true:=I.type.andThen (PySem.W.looks_mroIn X (by unfold PySem.W.mroIn;rw[gF,Option.bind_some,bf (by rw[ne];decide),a6G aA ho]));refine LB SF.slot.plain SF.entry (@PySem.W.check_slot (model prog w) _ _ {s with toks:=s.toks+1} "object.__setattr__" "object" "__setattr__" (.ref x) [.str name s.toks,v] [] _ SF.kind SF.split sub (SF.args (.ref x) (.str name s.toks) v) ?_);obtain⟨attr,ha,hr⟩:=Option.bind_eq_some_iff.mp ht;have hm:PySem.W.Looks (model prog w) s.heap (mroOf (.ref C)) cd.mro:=(Wi X gF).andThen .now;have L3:PySem.W.Looks (model prog w) s.heap (storeTaker? attr) none:=by cases attr with |none=>exact .now |some a=>obtain⟨b,hb,e⟩:=Wx.mp hr;refine(PySem.W.looks_takesIn X hb).andThen ?_;cases b with |false=>exact .now |true=>cases e
 rw[PySem.W.osa_eq,refuse_eq];refine aK (aK (yf (s:={s with toks:=s.toks+1}) I.type (aK (yf (s:={s with toks:=s.toks+1}) hm ?_))));rw[ZV _ ho];refine cf (aK (yf (s:={s with toks:=s.toks+1}) I.type (aK (yf (s:={s with toks:=s.toks+1}) (PySem.W.looks_findIn X ha) (aK (yf (s:={s with toks:=s.toks+1}) L3 ?_))))));obtain⟨cd2,mi,hd2⟩:=Wm hh;refine aK (cf (aK (aK (wpAny_loadPart (s:={s with toks:=s.toks+1}) hx ?_))));rw[hc];refine aK (yf (s:={s with toks:=s.toks+1}) (Wi X mi) ?_);rw[hd2,hd,hf];rw[bf aA];show wpAny _ _ (if(!true|| !typeHasDict (Value.ref C))=true then _ else _) _ _ _;rw[bf (by simp[typeHasDict])];have x1:(s.heap.push {cls:=.type "dict",data:=.dict #[]}).get? x=some ox:=cy _ hx;have nx:x≠s.heap.objs.size:=fA (cC hx);refine aK (wpAny_alloc' (aK (wpAny_update' x1 (cf ?_))));have gd:((s.heap.push {cls:=.type "dict",data:=.dict #[]}).update x λo=>{cls:=o.cls,dict:=some s.heap.objs.size,data:=o.data,slots:=o.slots}).get? s.heap.objs.size=some {cls:=.type "dict",data:=.dict #[]}:=(Heap.get?_update_ne _ _ _ _ nx.symm).trans (Heap.get?_push_at Z rfl);have n0:((s.heap.push {cls:=.type "dict",data:=.dict #[]}).update x λo=>{cls:=o.cls,dict:=some s.heap.objs.size,data:=o.data,slots:=o.slots}).Ns s.heap.objs.size (λ_=>none):=⟨_,#[],_,gd,Z,(λe he=>absurd he (by simp)),λ_=>rfl⟩;show wpAny _ _ (storeInDict s.heap.objs.size (.str name s.toks) name v) _ _ _;unfold storeInDict newKeyGuard;refine aK (cf (aK (wpAny_nsSet1 (Heap.Ns1.of_empty n0) λh2 n2 sb=>?_)));obtain⟨oD,esD,epD,e1,e2,e3⟩:=n2.count (PySem.Within.cons name v PySem.Within.nil);refine aK (wpAny_lookBehind e1 (by rw[e2];exact pastItsLine_dict (gM e3 (by rw[jM,E9,DY];lia))) ?_);refine cf (h h2 ?_ n2 λb o nb e=>?_)
 ·refine(sb.2 x nx).trans (Ef _ x1 ?_)
  obtain⟨oc,od,Ii,fR⟩:=ox;cases hf;rfl
 ·exact(sb.2 b (fA (cC e))).trans ((Heap.get?_update_ne _ _ _ _ nb).trans (cy _ e))
end
end L2
namespace L2
open PySem PySem.Spec PyProof.Rows
def vp(ex C:Addr)(h:Heap):Prop:=∃ob fs,h.get? ex=some ob/\ob.cls= .ref C/\ob.dict=none/\ob.data= .fields fs/\fs[1]? =some .none
def qC(ex C dx:Addr)(h:Heap):Prop:=∃ob fs,h.get? ex=some ob/\ob.cls= .ref C/\ob.dict=some dx/\ob.data= .fields fs/\fs[1]? =some .none
structure Lg(K:aa)(C:Addr)(f:Str):Prop where
 sa:PySem.W.findIn K (.ref C) "__setattr__"=some (some (.builtin "object.__setattr__"))
 ov:Qo K C=true
 tk:PySem.W.takerIn K C f=some none
 hd:PySem.W.hasDictIn K C=true
inductive adb(K:aa)(f:Str)(D:Ends)(O:St)(y:V)(x:V)(H2:Hp):Prop |mk (ex:_)(C:_)(h0:x= .ref ex)(h1:H2 ex=some (.ext (vp ex C)))(h2:Lg K C f)(h3:∀dx,H2 dx=none->dx≠ex->D.nx O (upd (upd H2 dx (.xd [(f,y)])) ex (.ext (qC ex C dx))))
def Zc(K:aa)(ta tv:TE)(f:Str):TS:=λD O H=>tv O H λy H1=>ta O H1 λx H2=>adb K f D O y x H2
section
variable {X:Cx}{o e value:Expr}{f:Str}{pos pos' p9:Pos}{ta tv:TE}
theorem a0u(K:aa)(hK:X.K=K)(ha:PE X o ta)(hv:PE X value tv)(hs:swapsWith value (some (.Attribute o f pos')) pos.line X.env=pure false:=by rfl):PS X (.Assign [.Attribute o f pos'] value pos) (Zc K ta tv f):=by
 subst hK;intro aw s O H D I h;refine plainObj_wpAny_Assign_Attribute (bc (hv aw s O H _ I h) λu s1 ⟨y,H1,I1,ry,q⟩=>bc (ha aw s1 O H1 _ I1 q) λov s2 ⟨x,H2,I2,rx,ex,C,e1,ee,xc,q2⟩=>?_) hs;subst e1;obtain rfl:ov=Value.ref ex:=rx;obtain⟨⟨ob,fs,g1,g2,g3,g4,g5⟩,_,_⟩:=(show fe X.prog X.w H2 s2.heap ex (.ext (vp ex C))from I2.aY ex _ ee);refine YO I2.fV g1 g2 g3 g4 xc.sa xc.ov xc.tk xc.hd λh' k1 k2 k3=>?_;have ne:s2.heap.objs.size≠ex:=AK (cC g1);have fr:H2 s2.heap.objs.size=none:=I2.aY.fresh (bK _);obtain⟨oD,es,ep,d1,d2⟩:=id k2;have hmD:(s2.heap.push oD).get? s2.heap.objs.size=some oD:=eV _ (by obtain⟨oc,od,Ii,fR⟩:=oD;have:Ii= .dict es ep:=d2.1;subst this;rfl);have hd1:fe X.prog X.w (upd H2 s2.heap.objs.size (.xd [(f,y)])) (s2.heap.push oD) s2.heap.objs.size (.xd [(f,y)]):=by
  refine⟨_,k2.at λo e=>?_,λg=>?_⟩
  ·rw[d1]at e;cases e;exact hmD
  ·by_cases q:g=f
   ·subst q
    simp only[List.lookup,E1,sW];exact ry
   ·have:(g==f)=false:=by simpa using q
    simp only[List.lookup,this,bf q];trivial
 have J1:=I2.laid (a:=s2.heap.objs.size) (o:=.xd [(f,y)]) (h':=s2.heap.push oD) (t':=s2.toks+2) (λb u q=>cy _ q) (bK _) hd1;have J2:=J1.write (x:=ex) (e:=ex) (o:=.ext (qC ex C s2.heap.objs.size)) (h':=h') (t':=s2.toks+2) (by rw[aO ne.symm,ee];trivial) (.inl Z) (λb u nb e=>by
  rcases WL e with⟨rfl,rfl⟩|e
  ·exact d1
  ·exact k3 b u nb e) ⟨_,k1⟩ ⟨⟨_,fs,k1,g2,Z,g4,g5⟩,⟨_,k1⟩,λh1 h2 ⟨mL,fs',z1,z2⟩ k=>⟨mL,fs',k _ z1,z2⟩⟩;exact⟨O,_,J2,q2 _ fr ne⟩
end
abbrev TQ(rest:List Value):Obj:={cls:=.type "tuple",data:=.seq rest.toArray}
abbrev K9(C t:Addr):Obj:={cls:=.ref C,data:=.fields #[.ref t,.none,.none,.none,.bool false,.none]}
abbrev ng(h:Heap)(C:Addr)(rest:List Value):Heap:=(h.push (TQ rest)).push (K9 C h.objs.size)
section
variable {prog:ah}{w:World}{A:aj}{E:Value->ae->Prop}{h:Heap}{g:Array GenState}{d:Drawn}{t:Nat}{os:OsState}
variable {nm q:Str}{C N fI:Addr}{bs bm fG:List Value}{hdct:Bool}{sn:List Str}{sub:List Value}{ab:Bool}{col:Option Bool}{dd:Option Addr}{k0 k1 k2 k3 k5:Option Value}{B newId xh:String}{mN:bJ}{rest:List Value}{oI:Obj}
theorem TR:(ng h C rest).get? (h.objs.size+1)=some (K9 C h.objs.size):=by have:=eV (h.push (TQ rest)) (o:=K9 C h.objs.size) rfl;rwa [qJ]at this
theorem xH(e:h.get? b=some o):(ng h C rest).get? b=some o:=cy _ (cy _ e)
theorem XB(F:ExcBaseFacts B newId xh fG)(T:OwnTail h fG bm){Q:Fin->ae->Prop}(hC:h.get? C=some (excClassObj nm q C N bs bm hdct sn sub ab col dd k0 k1 k2 k3 k5 newId))(hn:h.Ns N mN)(hi:mN "__init__"=some (.ref fI)) (hf:h.get? fI=some oI)(Ju:oI.cls= .type "function")(hz:rest.length<=sizeLine) (hq:wpAny (model prog w) A (call (.ref fI) (.ref (h.objs.size+1)::rest)) (λr s'=>r= .none/\Q (.done (.ret (.ref (h.objs.size+1)))) s') E ⟨ng h C rest,g,d,t,os⟩): wpAny (model prog w) A (Builtin.«type.__call__» ⟨.ref C::rest,[]⟩) Q E ⟨h,g,d,t,os⟩:=by
 repeat (first|with_reducible refine vw hC ?_|with_reducible refine wpAny_madeBy_exc hC ?_|wp_step)
 refine codeAny_call_builtin_code (Code.quiet_builtin _ F.quiet) (wpAny_check_new_subT F T hC (codeAny_exc_new_subT F T hC ?_ hz));show wpAny _ _ _ _ _ _;have c1:=xH (C:=C) (rest:=rest) hC;have f1:=xH (C:=C) (rest:=rest) hf;have n1:(ng h C rest).Ns N mN:=let⟨o,es,ep,e,r⟩:=hn;⟨o,es,ep,xH e,r⟩;have x1:=TR (h:=h) (C:=C) (rest:=rest);have cc:(Value.ref C::bm).contains (.ref C)=true:=by simp
 have T1:=T.keeps (h':=ng h C rest) λb o e=>xH e;unfold isInstance
 repeat (first|with_reducible refine vw x1 ?_|(with_reducible refine Lz c1 ?_;rw[cc])|wp_step)
 show wpAny _ _ (typeLookup (.ref C) _) _ _ _;refine wpAny_typeLookup_tail c1 n1 T1 F.mroIs F.init.lookup ?_;rw[hi];refine mE (aK ?_);unfold bindSpecial;refine aK (wpAny_typeOf (T:="function") ⟨_,f1,Ju⟩ ?_);rw[bh aA];refine cf (aK (iM hq (λr s' ⟨e,z⟩=>?_) λ_ _ z=>z));subst e
 wp_walk;exact z
theorem aaT(F:ExcBaseFacts B newId xh fG)(T:OwnTail h fG bm){Q:Value->ae->Prop}(hC:h.get? C=some (excClassObj nm q C N bs bm hdct sn sub ab col dd k0 k1 k2 k3 k5 newId))(hn:h.Ns N mN)(hi:mN "__init__"=some (.ref fI)) (hf:h.get? fI=some oI)(Ju:oI.cls= .type "function")(hz:rest.length<=sizeLine) (hq:wpAny (model prog w) (A.under (.builtin "type.__call__" ⟨.ref C::rest,[]⟩)) (call (.ref fI) (.ref (h.objs.size+1)::rest)) (λr s'=>r= .none/\Q (.ref (h.objs.size+1)) s') E ⟨ng h C rest,g,d,t,os⟩): wpAny (model prog w) A (call (.ref C) rest) Q E ⟨h,g,d,t,os⟩:=by
 have f1:=tc_lookup;have f2:=tc_bind (.ref C);have hT:(⟨h,g,d,t,os⟩:ae).TypeIs (.ref C) "type":=⟨_,hC,Z⟩;refine sT (codeAny_of_tree ?_);show wpAny _ _ (callAny (.ref C) _) _ _ _
 repeat (any_goals (first|assumption|with_reducible refine vw hC ?_|wp_step))
 refine⟨Z,codeAny_call_builtin_at (Code.quiet_builtin _ aW) entry_typeCall (wpAny_check_type_call_sub hC (XB F T hC hn hi hf Ju hz ?_))⟩;exact hq
end
section
variable {M:Model}{A:aj}{E:Value->ae->Prop}{env:Env}{nm q:Str}{C N:Addr}{bs bm:List Value}{hdct:Bool}{sn:List Str}{sub:List Value}{ab:Bool}{col:Option Bool}{dd:Option Addr}{k0 k1 k2 k3 k5:Option Value}{newId:String}
theorem a07{s:ae}{x:Sem Value}{Q:Flow->ae->Prop}(hb:bm.contains (.type "BaseException")=true)(hh:A.handled=none) (h:wpAny M A x (λv s1=>∃e oe fs,v= .ref e/\s1.heap.get? C=some (excClassObj nm q C N bs bm hdct sn sub ab col dd k0 k1 k2 k3 k5 newId)/\s1.heap.get? e=some oe/\oe.cls= .ref C/\oe.data= .fields fs/\fs[1]? =some .none/\E (.ref e) s1) E s): wpAny M A (raiseStmt env (some x) none) Q E s:=by
 have cb:(Value.ref C::bm).contains (.type "BaseException")=true:=by rw[WH,hb,Bool.or_true]
 unfold raiseStmt;refine aK (iM h (λv s1 ⟨e,oe,fs,ev,hC,he,hc,oj,h1,hE⟩=>?_) λ_ _ z=>z);subst ev;obtain⟨hp,g,d,tk,os⟩:=s1;obtain⟨oc,odd,Ii,fR⟩:=oe;cases hc;cases oj
 repeat (first|with_reducible refine vw he ?_|with_reducible refine vw hC ?_|(with_reducible refine Lz hC ?_;rw[cb])|rw[h1]|wp_step)
 exact wpAny_raiseNew_none hh hE
end
def jv(P:ah)(w:World):kz:=λouter H s E e s'=>∃(ex:Addr)(cls:Value)(dx:Option Addr)(H':Hp)(B:Heap),e= .ref ex/\s'.os=s.os/\AllBare s'.gens/\kR B outer ex cls dx .none s'.heap/\Fl P w outer H s.heap ex H' B s'.heap/\E cls dx H'
theorem Ks:del H p p=none:=by unfold del;rw[bh rfl]
theorem vg(h:b≠p):del H p b=H b:=by unfold del;rw[bf h]
theorem dN.del{P:ah}(ok:dN P w H h)(e:H p=some (.ext φ)):dN P w (del H p) h:=λb u q=>by
 obtain⟨nb,q⟩:=UB.mp q;refine(ok b u q).lX (λ_ _ _ z=>z) (λc z=>?_) λc xs z=>?_
 ·rw[vg (λy=>by rw[y,e]at z;cases z)];exact z
 ·rw[vg (λy=>by rw[y,e]at z;cases z)];exact z
section
variable {P:ah}{w:World}{K:aa}{mg:bJ}{ay:Heap}{N:List Str}{qual:Str}{scope:Scope}{f:Addr}{cd:Value}{A:aj}{outer:List Env}{s:ae}{H:Hp}{E:XK}{aw:List (Addr×Obj)}{O:St}{H1:Hp}{s1:ae}{ex:Addr}{C:Addr}{dx:Addr}
theorem WW(I:Inv (iK (jv P w) P w K mg ay N qual scope f cd A outer s H E) aw O H1 s1)(hx:H1 ex=some (.ext (qC ex C dx)))(hs:s.heap.objs.size<=ex)(q:E (.ref C) (some dx) (del H1 ex)): (iK (jv P w) P w K mg ay N qual scope f cd A outer s H E).xe (.ref ex) s1:=by
 have gD:s1.heap.FunFrames ay (envOfC qual scope s.heap.objs.size f cd::outer):=I.stack;have xo:∀env∈(envOfC qual scope s.heap.objs.size f cd::outer),∀b,env.frame=some b->b∈ex::cX (envOfC qual scope s.heap.objs.size f cd::outer):=λenv he b hb=>.tail _ (kD.mpr ⟨env,he,hb⟩);have hB:(PySem.W.hideAll s1.heap (ex::cX (envOfC qual scope s.heap.objs.size f cd::outer))).StaysIn s1.heap:=λb o e=>Wh _ e;obtain⟨⟨ob,fs,g1,g2,g3,g4,g5⟩,_,_⟩:=(show fe P w H1 s1.heap ex (.ext (qC ex C dx))from I.aY ex _ hx);have nw:s.heap.get? ex=none:=Heap.get?_none_of_le hs;have mQ:∀b o,s.heap.get? b=some o->b∉cX outer->b∉ex::cX (envOfC qual scope s.heap.objs.size f cd::outer):=λb o e hb hm=>by
  rcases bL.mp hm with rfl|hm
  ·rw[nw]at e;cases e
  obtain⟨env,he,hf⟩:=kD.mp hm;rcases bL.mp he with rfl|he
  ·have e1:s.heap.objs.size=b:=dQ hf
   have h1:=cC e;rw[<-e1]at h1;exact absurd h1 (oV _)
  ·exact hb (kD.mpr ⟨env,he,hf⟩)
 have Iv:∀b u,H1 b=some u->(∀φ,u≠ .ext φ)->del H1 ex b=some u:=λb u e n=>by rw[vg (λz=>by rw[z,hx]at e;exact n _ (dQ e).symm)];exact e
 have F0:Fl P w outer H s.heap ex (del H1 ex) (PySem.W.hideAll s1.heap (ex::cX (envOfC qual scope s.heap.objs.size f cd::outer))) s1.heap:=by
  refine⟨⟨I.ay.keep,I.ay.slot,λb o e n hb=>?_,I.ay.there,λb xs e=>Iv b _ (I.ay.jQ b xs e) (λ_ z=>nomatch z),λb o u e=>Iv b _ (I.ay.jG b o u e) (λ_ z=>nomatch z),λb ps e=>?_⟩,I.aY.del hx,λb o e n hb=>ye _ (I.ay.keep b o e n hb (cE)) (mQ b o e hb),λb o e=>?_,λb o e hb=>?_,λb hb=>?_,nw,Ks⟩
  ·by_cases z:b=ex
   ·rw[z];exact Ks
   ·rw[vg z];exact I.ay.free b o e n hb
  ·obtain⟨more,e1⟩:=I.ay.jx b ps e
   exact⟨more,Iv b _ e1 (λ_ z=>nomatch z)⟩
  ·obtain⟨nb,e⟩:=UB.mp e
   obtain⟨mL,e1⟩:=(I.aY b o e).there;refine⟨mL,ye _ e1 λhm=>?_⟩;rcases bL.mp hm with z|hm
   ·exact nb z
   ·rw[I.vU b hm]at e
    cases e
  ·obtain⟨mL,e1⟩:=I.ay.there b o e (cE)
   exact⟨mL,ye _ e1 (mQ b o e hb)⟩
  ·obtain⟨env,he,hf⟩:=kD.mp hb
   have e1:=I.vU b (kD.mpr ⟨env,.tail _ he,hf⟩);by_cases z:b=ex
   ·rw[z];exact Ks
   ·rw[vg z];exact e1
 show wpAny (model P w) (A.deeper (envOfC qual scope s.heap.objs.size f cd)) (leaving (envOfC qual scope s.heap.objs.size f cd) (.ref ex)) _ _ _;refine RJ (L:=s.heap.objs.size) I.ok.frames (PySem.W.funFrames_hide gD xo) Z g1 hB (Wj _ (.head _)) g4 g5 λh' x1 x2=>?_;exact⟨ex,.ref C,some dx,del H1 ex,_,Z,I.os,I.bare,by rw[g2,g3]at x1;exact x1,F0.step hB x1.1 x2 gD.2.2,q⟩
end
def K8(K:aa)(C fI:Addr)(fG:List Value)(newId:String):Bool:=match K.lookup C with |some ⟨.type "type",_,.cls cd,sl⟩=>(match cd.mro,sl.toList with | .ref C'::bm,[_,_,_,_,some (.builtin n),_]=>C'==C&&n==newId&& !cd.hasDel&&PySem.W.tailIn K fG bm&&PySem.W.nsOkIn K cd.ns&&(PySem.W.nsIn K cd.ns "__init__"==some (some (.ref fI))) |_,_=>false) |_=>false
structure vq(K:aa)(mg:bJ)(x:Str)(C fI:Addr)(fG:List Value)(newId:String):Prop where
 at':mg x=some (.ref C)
 ok:K8 K C fI fG newId=true
theorem a39{K:aa}{h:Heap}{N:Addr}{m:bJ}{n:Str}{v:Value}(X:K.In h)(G:h.Ns N m)(e:PySem.W.nsIn K N n=some (some v)):m n=some v:=by
 obtain⟨o,es,ep,ho,hd,_,hf⟩:=G;unfold PySem.W.nsIn at e;split at e
 ·rename_i c d oz n' sl q
  have z:=X _ _ q;rw[ho]at z;cases z;cases hd;split at e
  ·rename_i en he
   cases e;rw[<-hf];unfold nsFind findBy;rw[<-Array.find?_toList,he];rfl
  ·split at e<;>cases e
 ·cases e
theorem vq.own{K:aa}(e:vq K mg x C fI fG newId)(X:K.In h): ∃tl N nm q bs hdct sn sub ab col dd k0 k1 k2 k3 k5 mN,h.get? C=some (excClassObj nm q C N bs tl hdct sn sub ab col dd k0 k1 k2 k3 k5 newId)/\h.Ns N mN/\mN "__init__"=some (.ref fI)/\OwnTail h fG tl:=by
 have q:=e.ok;unfold K8 at q;split at q
 ·rename_i dd cd sl ho
  split at q
  ·rename_i D2 bl a0 a1 a2 a3 nn a5 hm hs
   simp only[fz,fq,M6]at q;obtain⟨⟨⟨⟨⟨r1,r2⟩,zO⟩,ht⟩,aY⟩,uK⟩:=q;subst r1 r2;obtain⟨c1,c2,c3,c4,c5,c6,c7,c8,c9,c10,c11⟩:=cd;dsimp only at hm zO aY uK;subst hm zO;obtain⟨l⟩:=sl;simp only at hs;subst hs;have G:=Heap.Ns.of_isNs (PySem.W.isNs_of_in X aY);exact⟨bl,c4,c1,c5,c2,c6,c7,c8,c9,c10,dd,a0,a1,a2,a3,a5,_,X _ _ ho,G,a39 X G uK,PySem.W.tail_of_in X ht⟩
  ·cases q
 ·cases q
def fnAt(K:aa)(f:Addr):Bool:=match K.lookup f with |some o=>o.cls== .type "function" |none=>false
theorem a8e{K:aa}(X:K.In h)(e:fnAt K f=true):∃o,h.get? f=some o/\o.cls= .type "function":=by
 unfold fnAt at e;split at e
 ·rename_i o ho
  exact⟨o,X _ _ ho,fz.mp e⟩
 ·cases e
def XJ(E:XK)(C:Addr)(sp:Sp)(t:TA):TS:=λ_ O H=>t O H λvs H1=>vs.length<=sizeLine/\∀ex,H1 ex=none->sp (.ref ex::vs) (upd H1 ex (.ext (vp ex C))) (λv H2=>v= .bB/\∃dx,H2 ex=some (.ext (qC ex C dx))/\E (.ref C) (some dx) (del H2 ex)) (λ_ _ _=>False)
section
variable {X:Cx}{x:Str}{C fI:Addr}{fG:List Value}{newId xh B:String}{e:Expr}{t:TA}{np cD pos:Pos}{k:Nat}{fd:FuncData}{ps:List Str}{sp:Sp}
theorem a0x(hx:∀aw O H s ex dx,Inv X aw O H s->H ex=some (.ext (qC ex C dx))->X.s₀.heap.objs.size<=ex->E (.ref C) (some dx) (del H ex)->X.xe (.ref ex) s) (EC:vq X.K X.mg x C fI fG newId)(FB:ExcBaseFacts B newId xh fG)(hh:X.A.handled=none)(F:gY X.prog X.w X.K X.mg X.ay ij k fI fd ps sp)(hr:cN (k+1) X.A)(hb:Binds X.K fd ps [])(hf:fnAt X.K fI=true)(hg:Gl X x)(ha:PA X [e] t) (he:starEach [e] X.env=[(false,eval e X.env)]:=by rfl)(hd:(x==("__debug__":Str))=false:=by decide): PS X (.Raise (some (.Call (.Name x np) [e] [] cD)) none pos) (XJ E C sp t):=by
 intro aw s O H D I h;obtain⟨tl,Nn,nm,q,bs,hdct,sn,sub,ab,col,dd,k0,k1,k2,k3,k5,mN,hC,hN,hi,T⟩:=EC.own I.ok.mod.o8;have hA:=ha cD aw s O H _ I h;rw[arm_exec_Raise];refine aK (y9 (a07 (C:=C) (nm:=nm) (q:=q) (N:=Nn) (bs:=bs) (bm:=tl) (hdct:=hdct) (sn:=sn) (sub:=sub) (ab:=ab) (col:=col) (dd:=dd) (k0:=k0) (k1:=k1) (k2:=k2) (k3:=k3) (k5:=k5) (newId:=newId) (T.hasType FB.hasBase) hh (aK (iM (wpAny_Call_ofName (uA I hg EC.at' ?_ hd)) (λv s3 h3=>aK (y9 (cf h3))) λ_ _ z=>z))));unfold callWith;rw[he]at hA⊢;refine aK (mE (iM (WN (Q:=λ(a:Args) s2=>a.kw=[]/\AP X aw O (λvs H1=>vs.length<=sizeLine/\∀ex,H1 ex=none->sp (.ref ex::vs) (upd H1 ex (.ext (vp ex C))) (λv H2=>v= .bB/\∃dx,H2 ex=some (.ext (qC ex C dx))/\E (.ref C) (some dx) (del H2 ex)) (λ_ _ _=>False)) a.pos s2) (bc hA λus s2 z=>⟨Z,z⟩)) (λa s2 z=>aK (y9 ?_)) λ_ _ z=>z));obtain⟨us,akw⟩:=a;obtain⟨hkw,vs,H1,I1,r1,z1,w1⟩:=z;obtain rfl:akw=[]:=hkw;have C2:=I1.bk _ _ hC;have T2:=T.keeps I1.bk;have N2:=hN.keeps I1.bk;obtain⟨oI,f1,f2⟩:=a8e I1.fV hf;have lus:us.length<=sizeLine:=by rw[<-r1.length];exact z1
 obtain⟨hp,g,d,tk,os⟩:=s2;rw[show(backTo cD [(false,eval e X.env)]).any (·.1)=false from rfl];refine aK (wpAny_keeperOf_exc C2 ?_);have I1':Inv X aw O H1 ⟨ng hp C us,g,d,tk,os⟩:=I1.kept (t':=tk) (h':=ng hp C us) λb u e=>xH e;have xa:=TR (h:=hp) (C:=C) (rest:=us);have fx:H1 (hp.objs.size+1)=none:=I1.aY.fresh (E6 _);have I2:Inv X aw O (upd H1 (hp.objs.size+1) (.ext (vp (hp.objs.size+1) C))) ⟨ng hp C us,g,d,tk,os⟩:=by refine I1.laid (a:=hp.objs.size+1) (o:=.ext (vp (hp.objs.size+1) C)) (h':=ng hp C us) (t':=tk) (λb u e=>xH e) (E6 _) ?_;exact⟨⟨_,_,xa,Z,Z,Z,Z⟩,⟨_,xa⟩,λh1 h2 ⟨mL,fs',y1,y2⟩ k=>⟨mL,fs',k _ y1,y2⟩⟩
 have hq:=w1 (hp.objs.size+1) fx;have r2:Vals (V.ref (hp.objs.size+1)::vs) (Value.ref (hp.objs.size+1)::us):=.cons Z r1;have hl:(Value.ref (hp.objs.size+1)::us++[]).length=ps.length:=by have e:=r2.length;rw[F.len _ _ _ _ hq]at e;rw[vJ];exact e.symm
 have bt:=hb ⟨ng hp C us,g,d,tk,os⟩ (Value.ref (hp.objs.size+1)::us) I2.fV hl;rw[vJ]at bt;refine aK (aaT FB T2 C2 N2 hi f1 f2 lus (sT (yc (F.run _ X.stack _ _ ⟨Value.ref (hp.objs.size+1)::us,[]⟩ (Value.ref (hp.objs.size+1)::us) _ _ (λ_ _ _=>False) (hr.make C us []) (I2.A9.make C us []) bt r2 hq) λr s' hW=>?_)));cases r with |error e=>exact False.elim hW |ok fl=>cases fl with |ret u=>obtain⟨v,H',I3,rv,ev,dx,ed,q3⟩:=I2.after hW;subst ev;refine⟨rv,aK (mE (wpAny_point (cf ?_)))⟩;obtain⟨⟨ob,fs,g1,g2,g3,g4,g5⟩,_,_⟩:=(show fe X.prog X.w H' s'.heap _ (.ext (qC (hp.objs.size+1) C dx))from I3.aY _ _ ed);exact⟨_,ob,fs,Z,I3.bk _ _ hC,g1,g2,g4,g5,hx aw O H' s' _ dx I3 ed (gM I1.sz (E6 _)) q3⟩ |next=>exact False.elim hW |brk=>exact False.elim hW |cont=>exact False.elim hW
end
def mD(ex:Addr)(cls:Value)(dx:Option Addr)(h:Heap):Prop:=∃o,h.get? ex=some o/\o.cls=cls/\o.dict=dx/\∃fs,o.data= .fields fs
def ClsAt(K:aa)(C:Addr):Prop:=∀h,K.In h->∃nm q N bs tl hdct sn sub ab col dd k0 k1 k2 k3 k5 newId,h.get? C=some (excClassObj nm q C N bs tl hdct sn sub ab col dd k0 k1 k2 k3 k5 newId)
theorem vq.cls{K:aa}(e:vq K mg x C fI fG newId):ClsAt K C:=λh X=>by obtain⟨tl,N,nm,q,bs,hdct,sn,sub,ab,col,dd,k0,k1,k2,k3,k5,mN,hC,_⟩:=e.own X;exact⟨nm,q,N,bs,tl,hdct,sn,sub,ab,col,dd,k0,k1,k2,k3,k5,newId,hC⟩
theorem Exc.cls{K:aa}(e:Exc K mg x C fG newId):ClsAt K C:=λh X=>by obtain⟨tl,N,nm,q,bs,hdct,sn,sub,ab,col,dd,k0,k1,k2,k3,k5,mN,hC,_⟩:=(e.own X).obj;exact⟨nm,q,N,bs,tl,hdct,sn,sub,ab,col,dd,k0,k1,k2,k3,k5,newId,hC⟩
inductive abW(i:Nat)(Cs:Addr->Prop)(tb:XK->TS)(th:TS)(D:Ends)(O:St)(H:Hp):Prop |mk (E:XK)(h0:tb E D O H)(h1:(∀cls dx H',E cls dx H'->∃C,cls= .ref C/\Cs C))(h2:∀(C ex:Addr)(dx:Option Addr)(σ':St)(H':Hp),σ'.length=O.length->E (.ref C) dx H'->H' ex=none->th {nx:=λσ2 H2=>D.nx (σ2.set i none) H2,rt:=D.rt,bk:=λσ2 H2=>D.bk (σ2.set i none) H2,ct:=λσ2 H2=>D.ct (σ2.set i none) H2} (σ'.set i (some (.ref ex))) (upd H' ex (.ext (mD ex (.ref C) dx))))
def XI(i:Nat)(Cs:Addr->Prop)(tb:XK->TS)(th:TS):TS:=λD O H=>abW i Cs tb th D O H
section
variable {X:Cx}{i:Nat}{n y:Str}{Dc:Addr}{KD:List Value}{newD:String}{body Bn:List Stmt}{b0:Stmt}{np uG pos:Pos}{tb:XK->TS}{th:TS}{Cs:Addr->Prop}
theorem a0v(gD:X.stack=X.env::X.outer)(hfr:X.env.frame=some X.env.locals)(hN:X.N.Nodup)(hi:X.N[i]? =some n)(hk:X.env.kindOf n=some .local)(hs:X.env.scope.names.lookup n=some .local) (hb:∀(E:XK)(xe:Value->ae->Prop),Passes (jv X.prog X.w) (X.jf xe) E->ie (X.jf xe) body (tb E)) (hg:Gl X y)(hy:Exc X.K X.mg y Dc KD newD)(Jz:KD.contains (.type "BaseException")=true)(JK:∀C,Cs C->ClsAt X.K C/\takes X.K C Dc) (hh:∀ex,ie (X.hand ex) (b0::Bn) th)(jq:(y==("__debug__":Str))=false:=by decide): VU X (.Try body [.ExceptHandler (some (.Name y np)) (some n) (b0::Bn) uG] [] [] pos) (XI i Cs tb th):=by
 intro s O H D I h;obtain⟨E,hq,mh,hth⟩:=h;refine wpAny_Try_except ?_;have ps:Passes (jv X.prog X.w) (X.jf λe s₁=>wpAny (model X.prog X.w) X.A (noteFrame e X.env) (λ_ s₂=>wpAny (model X.prog X.w) X.A (setFlight e none) (λ_ s₃=>wpAny (model X.prog X.w) X.A (handleBy e X.env [.ExceptHandler (some (.Name y np)) (some n) (b0::Bn) uG]) (SP X [] D) X.xe s₃) X.xe s₂) X.xe s₁) E:=by
  intro HR σ' H1 s1 ev s2 I1 hx;obtain⟨ex,cls,dx,H',B,rfl,ho,Sx,qo,F,hE⟩:=hx;obtain⟨C,rfl,hC⟩:=mh cls dx H' hE;have I0:Inv X [] σ' H1 s1:=I1.nI.ab9;obtain⟨Cz,g2,d2,t2,o2⟩:=s2;have a8f:kR B (X.env::X.outer) ex (.ref C) dx .none Cz:=by rw[<-gD];exact qo
  have hA:X.A.frames=some (X.env::X.outer):=by rw[<-gD];exact I0.ok.frames
  refine QD (s:=⟨Cz,g2,d2,t2,o2⟩) hA hfr a8f λh4 CL Xg=>?_;refine D5 CL λh5 A2 Xf=>?_;have F4:=F.step qo.1 CL.1 Xg qo.2.2.1;have ff4:h4.FunFrames B X.stack:=by rw[gD];exact CL.2.2.1
  have F5:=F4.step CL.1 A2.1 Xf ff4;have ff5:h5.FunFrames B X.stack:=by rw[gD];exact A2.2.2.1
  have I5:Inv X [] σ' H' ⟨h5,g2,d2,t2,o2⟩:=I0.Dt (s':=⟨h5,g2,d2,t2,o2⟩) ho F5.un F5.aY Sx (λb hb=>(cE hb).elim);refine wpAny_handleBy_cons (codeAny_handlers_test (uA (X:=X.hand ex) (I5.hand ex) hg hy.at' ?_ jq)) (by intro q;cases q);obtain⟨eC,tk⟩:=JK C hC;obtain⟨nm,q,Nn,bs,tl,hdct,sn,sub,ab,col,dd,k0,k1,k2,k3,k5,nw,oC⟩:=eC _ I5.fV;obtain⟨tl',Nn',QJ,q',Va,SD,NF,MR,Vx,UR,oH,j0,j1,j2,j3,j5,mN',oD,afg,aeZ,TL'⟩:=(hy.own I5.fV).obj;obtain⟨ob,hob,a5K,_⟩:=A2.there;have Jb:(Value.ref C::tl).contains (.ref Dc)=true:=by
   obtain⟨cd,ha,qh⟩:=Option.bind_eq_some_iff.mp tk;split at qh
   ·cases qh
   ·have hc:=dQ qh
    unfold PySem.W.clsIn at ha;split at ha
    ·rename_i c1 c2 cd' c4 hl
     cases ha;have e1:=I5.fV _ _ hl;rw[show(Shared.heap ⟨h5,g2,d2,t2,o2⟩).get? C=some _ from oC]at e1;have e2:=dQ e1;unfold excClassObj at e2;injection e2 with _ _ e3 _;injection e3 with e4;rw[<-e4]at hc;exact hc
    ·cases ha
  refine a9u oC oD hob a5K (TL'.hasType Jz) Jb ?_;refine codeAny_handlers_suite_as ?_;refine D5 (s:=⟨h5,g2,d2,t2,o2⟩) A2 λh6 TB Xe=>?_;have F6:=F5.step A2.1 TB.1 Xe ff5;have Xk:Un (cX X.stack) [] H1 (upd H' ex (.ext (mD ex (.ref C) dx))) s1.heap h6:=by
   have nb:∀b u,H' b=some u->b≠ex:=λb u e z=>by rw[z,F6.ne]at e;cases e
   refine⟨F6.un.keep,F6.un.slot,λb o e n hx=>?_,F6.un.there,λb xs e=>?_,λb o u e=>?_,λb ps e=>?_⟩
   ·rw[aO (λz=>by rw[z,F6.nw]at e;cases e)];exact F6.un.free b o e n hx
   ·have:=F6.un.jQ b xs e;rw[aO (nb b _ this)];exact this
   ·have:=F6.un.jG b o u e;rw[aO (nb b _ this)];exact this
   ·obtain⟨more,e1⟩:=F6.un.jx b ps e;exact⟨more,by rw[aO (nb b _ e1)];exact e1⟩
  have a5I:dN X.prog X.w (upd H' ex (.ext (mD ex (.ref C) dx))) h6:=λb u e=>by
   by_cases SH:b=ex
   ·subst SH
    rw[bo]at e;cases e;obtain⟨o6,e6,c6⟩:=TB.there;exact⟨⟨o6,e6,c6⟩,⟨o6,e6⟩,λg1 g3 ⟨o7,e7,c7⟩ k=>⟨o7,k o7 e7,c7⟩⟩
   ·rw[aO SH]at e
    refine(F6.aY b u e).lX (λc v hc q=>q) (λc q=>?_) λc xs q=>?_
    ·rw[aO (λz=>by rw[z,F6.ne]at q;cases q)];exact q
    ·rw[aO (λz=>by rw[z,F6.ne]at q;cases q)];exact q
  have I6:Inv X [] σ' (upd H' ex (.ext (mD ex (.ref C) dx))) ⟨h6,g2,d2,t2,o2⟩:=I0.Dt (s':=⟨h6,g2,d2,t2,o2⟩) ho Xk a5I Sx (λb hb=>(cE hb).elim);refine vT (X:=X.hand ex) (I6.hand ex) hN hi (.inl hs) (v:=.ref ex) Z (λs7 I7=>?_) (.inr hs);refine iM (hh ex [] s7 _ _ _ I7 (hth C ex dx σ' H' (I0.len.trans I.len.symm) hE F.ne)) (λf s8 q=>?_) λe s8 q=>False.elim q;have un:∀(σ2:St)(H2:Hp)(Q:Unit->ae->Prop),Inv (X.hand ex) [] σ2 H2 s8->(∀s9,Inv X [] (σ2.set i none) H2 s9->Q () s9)->wpAny (model X.prog X.w) X.A (do bindName X.env n .none;unbindBehindTheSuite X.env n uG) Q X.xe s8:=λσ2 H2 Q I8 hq=>by
   have W5:=I8.back I0.ok;have cJ:i<σ2.length:=by rw[W5.len];exact(eh.mp hi).1
   unfold bindName;refine aK (aK (mE (wpAny_point (aK (vT W5 hN hi (.inl hs) (v:=.bB) Z (λs9 I9=>wpAny_point ?_) (.inr hs))))));refine Xi I9 hN hi hk hs (v:=.bB) (AS cJ) λm3 xY=>hq m3 ?_;rw[LS]at xY;exact xY
  cases f with |next=>obtain⟨σ2,H2,I8,dq⟩:=q;exact un σ2 H2 _ I8 λs9 I9=>⟨_,H2,I9,dq⟩ |brk=>obtain⟨σ2,H2,I8,dq⟩:=q;exact un σ2 H2 _ I8 λs9 I9=>⟨_,H2,I9,dq⟩ |cont=>obtain⟨σ2,H2,I8,dq⟩:=q;exact un σ2 H2 _ I8 λs9 I9=>⟨_,H2,I9,dq⟩ |ret u=>obtain⟨v,σ2,H2,I8,r8,dq⟩:=q;exact un σ2 H2 _ I8 λs9 I9=>⟨v,_,H2,I9,r8,dq⟩
 refine iM (hb E _ ps [] s O H D (I.jf _) hq) (λf s1 q=>?_) λe s1 q=>q;have q':=q.nI;cases f with |next=>exact AG q' |brk=>exact q' |cont=>exact q' |ret u=>exact q'
end
end L2
namespace L2
open PySem PySem.Spec PyProof.Rows PySem.W
section
variable {prog:ah}{w:World}{A:aj}{E:Value->ae->Prop}{h:Heap}{g:Array GenState}{d:Drawn}{t:Nat}{os:OsState}{K:Frag}{x C:Addr}{ox:Obj}{od:Obj}{f:Str}{v:Value}
theorem a9v{b:Bool}{Q:Value->ae->Prop}(X:K.In h)(k:mC K C)(I:InstAt h x ox C (some od))(ha:findIn K (.ref C) f=some none)(hl:lookIn f od=some (some v))(hv:handedIn v=true) (hq:Q v ⟨h,g,d,t+1,os⟩):wpAny (model prog w) A (getAttr (.ref x) f b) Q E ⟨h,g,d,t,os⟩:=by
 have L0:=I.type (M:=model prog w);have L1:=DZ (M:=model prog w) X k.ga;have L2:=DZ (M:=model prog w) X k.gx;have L3:=looks_find (M:=model prog w) X I (findObj_own k.is ha Z hl);have f3:=LK.ga.bind (.ref x);have J9:(Value.builtin "BaseException.__getattribute__"==Value.builtin "object.__getattribute__")=false:=by decide+kernel
 have zH:(b&&onTheHeap (Value.builtin "BaseException.__getattribute__"))=false:=by cases b<;>rfl
 unfold getAttr getAttrBy;refine aK (wpAny_mkText (mE (aK (L0.at (aK (L1.at ?_))))));show wpAny _ _ (if(onTheHeap (Value.ref C)&&Value.builtin "BaseException.__getattribute__"==Value.builtin "object.__getattribute__")=true then _ else _) _ _ _;rw[J9,M8,bf aA];unfold getAttrByItsOwn hookBefore;refine aK ?_;show wpAny _ _ (typeLookup (.ref C) "__getattr__") _ _ _;refine L2.at (aK (DX (mE ?_)));unfold callGetattribute;rw[zH,bf aA];unfold boundAndCalled;rw[f3];refine aK (cf (sT ?_));refine LB LK.ga.plain PySem.F.entry_bexc_ga (Tj X k L0 ?_);refine aK (cf (aK (cf (aK (L0.at (aK (L3.at ?_)))))));exact cf (handed_on hv hq)
end
inductive abU(K:Frag)(f:Str)(Q:VK)(x:V)(H1:Hp):Prop |mk (ex:_)(C:_)(dx:_)(fs:_)(i:_)(h0:x= .ref ex)(h1:H1 ex=some (.ext (mD ex (.ref C) (some dx))))(h2:H1 dx=some (.xd fs))(h3:mC K C)(h4:findIn K (.ref C) f=some none)(h5:fs.lookup f=some (.int i))(h6:Q (.int i) H1)
def XH(K:Frag)(ta:TE)(f:Str):TE:=λO H Q=>ta O H λx H1=>abU K f Q x H1
section
variable {X:Cx}{e:Expr}{f:Str}{pos:Pos}{ta:TE}
theorem a0Q(K:Frag)(hK:X.K=K)(he:PE X e ta)(hb:attributeBase e f X.env (eval e X.env)=eval e X.env:=by rfl):PE X (.Attribute e f pos) (XH K ta f):=by subst hK;intro aw s O H Q I h;refine Vn hb (bc (he aw s O H _ I h) λu s1 ⟨x,H1,I1,rx,ex,C,dx,fs,i,ee,h1,h2,k,ha,hl,q⟩=>?_);subst ee;obtain rfl:u=Value.ref ex:=rx;obtain⟨⟨o,o1,o2,o3,fs',o4⟩,_,_⟩:=(show fe X.prog X.w H1 s1.heap ex (.ext (mD ex (.ref C) (some dx)))from I1.aY ex _ h1);obtain⟨mA,n1,n2⟩:=(show fe X.prog X.w H1 s1.heap dx (.xd fs)from I1.aY dx _ h2);obtain⟨od,e1,e2⟩:=Rx n1;have r:=n2 f;rw[hl]at r;cases em:mA f with |none=>rw[em]at r;exact r.elim |some v=>rw[em]at r;obtain⟨t,rfl⟩:=(show∃t,v=Value.int i t from r);have J:InstAt s1.heap ex o C (some od):=⟨o1,o2,by unfold notCls;rw[o4],by rw[o3];exact e1⟩;obtain⟨hp,g,d,tk,os⟩:=s1;exact a9v I1.fV k J ha (by rw[e2,em]) Z ⟨.int i,H1,I1.tok _,⟨t,Z⟩,q⟩
inductive adv(K:Frag)(xs:List V)(H:Hp)(Q:VK):Prop |mk (ex:Addr)(C:Addr)(dx:Option Addr)(c:V)(cv:Value)(b:Bool)(h0:xs=[.ref ex,c])(h1:H ex=some (.ext (mD ex (.ref C) dx)))(h2:mC K C)(h3:aaC c=some cv)(h4:kitOne K (.ref C) cv=some b)(h5:Q (.bl b) H)
def a0h(K:Frag):List V->Hp->VK->Prop:=λxs H Q=>adv K xs H Q
inductive adu(K:Frag)(xs:List V)(H:Hp)(Q:VK):Prop |mk (ex:Addr)(C:Addr)(p:Addr)(dx:Option Addr)(Ds:List Addr)(b:Bool)(h0:xs=[.ref ex,.ref p])(h1:H ex=some (.ext (mD ex (.ref C) dx)))(h2:mC K C)(h3:H p=some (.tup (Ds.map V.ref)))(h4:kitAny K (.ref C) (Ds.map Value.ref)=some b)(h5:Q (.bl b) H)
def a0g(K:Frag):List V->Hp->VK->Prop:=λxs H Q=>adu K xs H Q
theorem uC(K:Frag)(hK:X.K=K):fJ X (.builtin "isinstance") (λxs H Q=>a0h K xs H Q\/a0g K xs H Q):=by
 subst hK;intro aw s O H xs us Q I r h;rcases h with⟨ex,C,dx,c,cv,b,rfl,he,k,hc,kb,q⟩|⟨ex,C,p,dx,Ds,b,rfl,he,k,hp,kb,q⟩
 ·obtain⟨u,v,rfl,rx,rc⟩:=vals2 r
  cases(show u=Value.ref ex from rx);have hv:v=cv:=by cases c with |ref D=>cases(show v=Value.ref D from rc);exact dQ hc |ty n=>cases(show v=Value.type n from rc);exact dQ hc |_=>cases hc
  subst hv;obtain⟨o,o1,o2,_⟩:=(I.aY ex _ he).1;exact kia_one (RR k) I.fV ⟨o,o1,o2⟩ kb (λz=>nomatch z) λtk=>⟨.bl b,H,I.tok _,rfl,q⟩
 ·obtain⟨u,v,rfl,rx,rc⟩:=vals2 r
  cases(show u=Value.ref ex from rx);cases(show v=Value.ref p from rc);obtain⟨o,o1,o2,_⟩:=(I.aY ex _ he).1;obtain⟨_,its,rv,⟨cls,dd,dt,sl⟩,h1,h2,n,h3⟩:=(show fe X.prog X.w H s.heap p (.tup (Ds.map V.ref))from I.aY p _ hp);simp only at h2 h3;subst h2 h3;have e:=Mh rv;subst e;exact kia_tup (RR k) I.fV ⟨o,o1,o2⟩ h1 kb (λz=>nomatch z) λtk=>⟨.bl b,H,I.tok _,rfl,q⟩
end
end L2
namespace L2
open PySem PySem.Spec PyProof.Rows
section
variable {X:Cx}{k:Nat}{x:Str}{p pos:Pos}{e:Expr}{es:List Expr}{t:TA}{sp:Sp}
end
theorem aaD{K:aa}{mg:bJ}{h:Heap}{x:Str}{C fI:Addr}{fG:List Value}{newId:String}(X:K.In h)(G:h.Ns mainGlobals mg)(a:PySem.W.nsIn K mainGlobals x=some (some (.ref C)))(k:K8 K C fI fG newId=true):vq K mg x C fI fG newId:=⟨vy X G a,k⟩
section
variable {X:Cx}{k:Nat}{x:Str}{p pos:Pos}{e:Expr}{es:List Expr}{t:TA}{sp:Sp}
end
section
variable {P:ah}{w:World}{K:aa}{mg:bJ}{ay:Heap}{N:List Str}{qual:Str}{scope:Scope}{f:Addr}{cd:Value}{A:aj}{outer:List Env}{s:ae}{H:Hp}{E E0:XK}
end
end L2
namespace L2
open PySem PySem.Spec PyProof.Rows
open Builtin Builtin.ObjectAttr
section
variable {prog:ah}{w:World}{A:aj}{E:Value->ae->Prop}{s:ae}{K:aa}{x C dx:Addr}{ox:Obj}{fs:Array Value}{name:Str}{v:Value}{Q:Unit->ae->Prop}{mA:bJ}{ks:List Str}
end
section
variable {X:Cx}{o e value:Expr}{f:Str}{pos pos' p9:Pos}{ta tv:TE}
end
end L2
namespace L2
open PySem PySem.Spec PyProof.Rows
def DM(P:ah)(w:World)(K:aa)(mg:bJ)(ay:Heap)(C:Addr)(m:Str)(k:Nat)(sp:Sp):Prop:=∃f fd ps,gY P w K mg ay (jv P w) k f fd ps sp/\Meth K C m f/\Binds K fd ps []
section
variable {P:ah}{w:World}{K:aa}{mg:bJ}{ay:Heap}
theorem j4.okD{st:Stmt}{k:Nat}(F:j4 K m qual st f fd)(S:bG N ps (aZ st))(len:∀vs H Q E,sp vs H Q E->vs.length=ps.length) (iW:∀(aP:Value)(A:aj)(outer:List Env)(s:ae)(H:Hp)(vs:List V)(Q:VK)(E:XK),cN k (A.deeper (envOfC qual (aZ st) s.heap.objs.size f aP))->sp vs H Q E->∃t,ie (iK (jv P w) P w K mg ay N qual (aZ st) f aP A outer s H E) (gU st) t/\t {nx:=λ_ H'=>Q .bB H',rt:=Q} (start N vs) H):gY P w K mg ay (jv P w) (k+1) f fd ps sp:=by obtain⟨oc,od,kV,doc,pm,an,aP,ct,fR,rfl,lk,gF⟩:=F.ex;exact JS lk gF S len λA outer s H vs Q E hr jm=>iW aP A outer s H vs Q E hr jm
theorem MA.a6I{st:Stmt}{k:Nat}(F:MA K C m qual st)(S:bG N ps (aZ st))(len:∀vs H Q E,sp vs H Q E->vs.length=ps.length) (hb:∀(kV doc pm:Value)(an:Option Addr)(aP ct:Value)(us:List Value),us.length=ps.length->bindArgs (PySem.W.fnOf m qual (kO st) (gU st) (aZ st) .none kV doc pm an aP ct) ⟨us,[]⟩=pure (ps.zip us)) (iW:∀(f:Addr)(aP:Value)(A:aj)(outer:List Env)(s:ae)(H:Hp)(vs:List V)(Q:VK)(E:XK),cN k (A.deeper (envOfC qual (aZ st) s.heap.objs.size f aP))->sp vs H Q E->∃t,ie (iK (jv P w) P w K mg ay N qual (aZ st) f aP A outer s H E) (gU st) t/\t {nx:=λ_ H'=>Q .bB H',rt:=Q} (start N vs) H):DM P w K mg ay C m (k+1) sp:=by obtain⟨f,fd,hm,F⟩:=F.ex;exact⟨f,fd,ps,F.okD S len λaP A outer s H vs Q E=>iW f aP A outer s H vs Q E,hm,F.binds hb⟩
end
section
variable {X:Cx}{k:Nat}{x m:Str}{C:Addr}{p pos apos:Pos}{o e:Expr}{es:List Expr}{t:TA}{ta:TE}{sp:Sp}{E:XK}
inductive VZ(C:Addr)(m:Str)(sp:Sp)(E:XK)(t:TA)(O:St)(Q:VK)(x:V)(H1:Hp):Prop |mk (a:Addr)(dx:Addr)(fs:List (Str×V))(h0:x= .ref a)(h1:H1 a=some (.ins C dx fs))(h2:fs.lookup m=none)(h3:t O H1 λvs H2=>sp (x::vs) H2 Q E)
def EG(C:Addr)(m:Str)(sp:Sp)(E:XK)(ta:TE)(t:TA):TE:=λO H Q=>ta O H λx H1=>VZ C m sp E t O Q x H1
theorem a3D{O:St}{Q:VK}{x:V}{H1:Hp}:xX C m sp [] E t O Q x H1=VZ C m sp E t O Q x H1:=by
 have e1:(λ(vs:List V) H1=>sp (x::(vs++[])) H1 Q E)=λvs H1=>sp (x::vs) H1 Q E:=by funext vs H1;rw[vJ]
 refine propext ⟨λ⟨a,dx,fs,h0,h1,h2,h3⟩=>⟨a,dx,fs,h0,h1,h2,?_⟩,λ⟨a,dx,fs,h0,h1,h2,h3⟩=>⟨a,dx,fs,h0,h1,h2,?_⟩⟩
 ·rw[<-e1];exact h3
 ·rw[e1];exact h3
theorem a0S(F:DM X.prog X.w X.K X.mg X.ay C m k sp)(hp:Passes (jv X.prog X.w) X E)(c:ky X.K C)(hr:cN k X.A)(he:PE X o ta)(ha:PA X (e::es) t) (gD:starEach (e::es) X.env=(false,eval e X.env)::starEach es X.env:=by rfl)(gE:(backTo pos (starEach es X.env)).any (·.1)=false:=by rfl) (ht:eval (.Call (.Attribute o m apos) (e::es) [] pos) X.env=(do
 let ov<-eval o X.env
 standAt apos.atName
 let(f,first)<-holding [ov] (getMethod ov m pl)
 callWith pos f first (backTo pos (starEach (e::es) X.env)) (backToKw pos (keywordEach [] X.env))):=by rfl): PE X (.Call (.Attribute o m apos) (e::es) [] pos) (EG C m sp E ta t):=by
 obtain⟨f,fd,ps,F,hm,hb⟩:=F;have h:=Qc (pos:=pos) (apos:=apos) (pl:=pl) he c hm F hr hb .nil hp ha gD gE ht;intro aw s O H Q I hq;refine h aw s O H Q I ?_;show ta O H λx H1=>xX C m sp [] E t O Q x H1;simp only[a3D];exact hq
end
end L2
namespace L2
open PySem PySem.Spec PyProof.Rows SeqAt
section
variable {X:Cx}{k:Nat}{x:Str}{p pos:Pos}{e:Expr}{es:List Expr}{t:TA}{sp:Sp}{E:XK}
end
section
variable {X:Cx}
theorem Ej:∀{bs:List Bool}{us:List Value},Vals (bs.map V.bl) us->us=bs.map Value.bool |[],_,.nil=>rfl |b::bs,_,.cons q r=>by cases(show _=Value.bool b from q);rw[Ej r];rfl
def uD:Value->Bool | .bool b=>b |_=>false
theorem U8{bs:List Bool}(A:aj)(s:ae):∀y,y∈(bs.map Value.bool).toArray->EqAt A s y (.bool true) (uD y):=λy hy=>by obtain⟨b,_,rfl⟩:=kC.mp (List.mem_toArray.mp hy);have:=EqAt.bool_bool (A:=A) (s:=s) b true;cases b<;>exact this
theorem aao(bs:List Bool):(bs.map Value.bool).countP uD=bs.count true:=by induction bs with |nil=>rfl |cons b r ih=>cases b<;>simp[List.countP_cons,uD,ih,List.count_cons]
inductive W4(K:aa)(x:V)(vs:List V)(H:Hp)(Q:VK):Prop |mk (l:Addr)(bs:List Bool)(h0:x= .ref l)(h1:vs=[.bl true])(h2:aH K H l (bs.map V.bl))(h3:Q (.int (bs.count true:Nat)) H)
theorem a3E(K:aa)(hK:X.K=K):Ax X "list.count" (λx vs H Q=>W4 K x vs H Q):=by subst hK;intro aw s O H x vs v us Q I rx rv h;obtain⟨l,bs,rfl,rfl,hl,q⟩:=h;cases rx;obtain⟨u,rfl,ru⟩:=vals1 rv;cases(show u=Value.bool true from ru);obtain⟨its,r,pl,_⟩:=I.list hl;rw[Ej r]at pl;obtain⟨⟨cls,dd,data,sl⟩,ho,hc,n,hd⟩:=id pl.isList;simp only at hc hd;subst hc hd;refine sY PySem.F.slot_list_count ⟨_,ho,Z⟩ PySem.F.entry_list_count (PySem.F.args_list_count_2 _ _) (list_countAt l _ n dd sl (.bool true) uD) ⟨ho,U8 _ _,?_⟩;rw[show(bs.map Value.bool).toArray.toList=bs.map Value.bool from Z,aao];exact⟨.int _,H,I.tok _,⟨_,Z⟩,q⟩
inductive W3(K:aa)(x:V)(vs:List V)(H:Hp)(Q:VK):Prop |mk (l:Addr)(bs:List Bool)(j:Nat)(h0:x= .ref l)(h1:vs=[.bl true])(h2:aH K H l (bs.map V.bl))(h3:bs[j]? =some true)(h4:∀m,m<j->bs[m]? =some false)(h5:j<1000)(h6:Q (.int (j:Nat)) H)
theorem a3C(K:aa)(hK:X.K=K):Ax X "list.index" (λx vs H Q=>W3 K x vs H Q):=by
 subst hK;intro aw s O H x vs v us Q I rx rv h;obtain⟨l,bs,j,rfl,rfl,hl,hj,hm,afi,q⟩:=h;cases rx;obtain⟨u,rfl,ru⟩:=vals1 rv;cases(show u=Value.bool true from ru);obtain⟨its,r,pl,_⟩:=I.list hl;rw[Ej r]at pl;obtain⟨⟨cls,dd,data,sl⟩,ho,hc,n,hd⟩:=id pl.isList;simp only at hc hd;subst hc hd;have Ss:=(eh.mp hj);obtain⟨hj1,pY⟩:=Ss;refine sY PySem.F.slot_list_index ⟨_,ho,Z⟩ PySem.F.entry_list_index (PySem.F.args_list_index_2 _ _) (list_indexAt l _ n dd sl (.bool true) uD j (by simpa using hj1) au ?_ (λm hm1 CG=>?_)) ⟨ho,U8 _ _,⟨.int _,H,I.tok _,⟨_,Z⟩,q⟩⟩
 ·simp[pY,uD]
 ·have:=hm m CG
  obtain⟨h1,h2⟩:=eh.mp this;simp[h2,uD]
theorem a1c(K:aa)(h:X.K=K){o e:Expr}{to:TE}{t:TA}{apos cD:Pos}(ho:PE X o to)(ha:PA X [e] t) (jr:attributeBase o "count" X.env (eval o X.env)=eval o X.env:=by rfl) (lJ:((backTo cD (starEach [e] X.env)).all (λx=>!x.1)&&(backToKw cD (keywordEach [] X.env)).all (λx=>x.1.isSome) &&decide ([e].length+([]:List Keyword).length+(if([]:List Keyword).isEmpty then 0 else 1)<30))=true:=by rfl) (jo:(apos.endLine==cD.line)=true:=by rfl)(hs:starEach [e] X.env=(false,eval e X.env)::starEach [] X.env:=by rfl)(lG:(backTo cD (starEach [] X.env)).any (·.1)=false:=by rfl): PE X (.Call (.Attribute o "count" apos) [e] [] cD) (tP K "list" (λx vs H Q=>W4 K x vs H Q) to t):=by subst h;exact wB AJ PySem.F.slot_list_count PySem.F.type_list_count (a3E X.K rfl) ho ha jr lJ jo hs lG
theorem a1a(K:aa)(h:X.K=K){o e:Expr}{to:TE}{t:TA}{apos cD:Pos}(ho:PE X o to)(ha:PA X [e] t) (jr:attributeBase o "index" X.env (eval o X.env)=eval o X.env:=by rfl) (lJ:((backTo cD (starEach [e] X.env)).all (λx=>!x.1)&&(backToKw cD (keywordEach [] X.env)).all (λx=>x.1.isSome) &&decide ([e].length+([]:List Keyword).length+(if([]:List Keyword).isEmpty then 0 else 1)<30))=true:=by rfl) (jo:(apos.endLine==cD.line)=true:=by rfl)(hs:starEach [e] X.env=(false,eval e X.env)::starEach [] X.env:=by rfl)(lG:(backTo cD (starEach [] X.env)).any (·.1)=false:=by rfl): PE X (.Call (.Attribute o "index" apos) [e] [] cD) (tP K "list" (λx vs H Q=>W3 K x vs H Q) to t):=by subst h;exact wB AJ PySem.F.slot_list_index PySem.F.type_list_index (a3C X.K rfl) ho ha jr lJ jo hs lG
end
end L2
namespace L2
open PySem PySem.Spec PyProof.Rows PySem.W
abbrev vm:=List Env->ae->Sp
structure W7(P:ah)(w:World)(K:Frag)(mg:bJ)(ay:Heap)(CX:kz)(k:Nat)(f:Addr)(fd:FuncData)(ps:List Str)(sp:vm):Prop where
 len:∀outer s vs H Q E,sp outer s vs H Q E->vs.length=ps.length
 run:∀(A:aj)(outer:List Env)(s:ae)(H:Hp)(args:Args)(us:List Value)(vs:List V)(Q:VK)(E:XK),cN k A->oT P w K mg ay A outer s H->BindsTo s fd args (ps.zip us)->Vals vs us->sp outer s vs H Q E->codeAny (model P w) A (.call (.ref f) args) (CR CX outer P w H s Q E) s
theorem a8d{P:ah}{K:Frag}{k:Nat}{kV:Value}(lk:K.lookup f=some ⟨oc,od,.func (fnOf name qual params body scope dV kV doc pm an aP ct),fR⟩)(gF:codeIn K aP qual=true)(S:bG N ps scope)(len:∀outer s vs H Q E,sp outer s vs H Q E->vs.length=ps.length) (iW:∀(A:aj)(outer:List Env)(s:ae)(H:Hp)(vs:List V)(Q:VK)(E:XK),cN k (A.deeper (envOfC qual scope s.heap.objs.size f aP))->sp outer s vs H Q E->∃t,Au (iK CX P w K mg ay N qual scope f aP A outer s H E) body t/\t {nx:=λ_ H'=>Q .bB H',rt:=Q} (start N vs) H): W7 P w K mg ay CX (k+1) f (fnOf name qual params body scope dV kV doc pm an aP ct) ps sp:=by refine⟨len,λA outer s H args us vs Q E hr e0 hb r jm=>?_⟩;have hl:=len _ _ _ _ _ _ jm;have KX:K.In s.heap:=e0.mod.o8.keeps λb o e=>(e0.bs b o e).1;have lim:s.heap.NoLimit:=e0.mod.nolimit.keeps λb o e=>(e0.bs b o e).1;refine codeAny_call_function hr.depth (KX _ _ lk) Z S.co S.gen Z (codeRec_of KX gF) (hb _ _ _ _ (wpAny_newFunctionEnv_cells S.kind (λ⟨n,v⟩ hy=>(S.par n (AM hy).1).imp id λq=>⟨q,cellsFrom_some _ _ _ (.inl q)⟩) λenv he s1 x=>?_));subst he;obtain⟨t,ht,hq⟩:=iW A outer s H vs Q E (hr.deeper _) jm;have I:Inv (iK CX P w K mg ay N qual scope f aP A outer s H E) [] (start N vs) H s1:=S6 S hr.hd e0 hl r x;refine⟨lim.keeps x.toInCall.keep,codeAny_func (iM (ht s1 (start N vs) H _ I hq) (λfl s' hs=>?_) λe s' hs=>hs)⟩;have fin:∀{σ':St}{H':Hp}{v:V}{u:Value},Inv (iK CX P w K mg ay N qual scope f aP A outer s H E) [] σ' H' s'->RelV v u->Q v H'->CE outer P w H s Q u s':=λ{σ' H' v u} J rv q=>⟨v,H',J.os,J.bare,J.ay,J.aY,rv,q⟩;cases fl with |ret u=>obtain⟨v,σ',H',J,rv,q⟩:=hs;exact fin J rv q |next=>obtain⟨σ',H',J,q⟩:=hs;exact fin (v:=V.bB) (u:=Value.none) J Z q |brk=>obtain⟨_,_,_,q⟩:=hs;exact False.elim q |cont=>obtain⟨_,_,_,q⟩:=hs;exact False.elim q
def AA(P:ah)(w:World)(K:Frag)(mg:bJ)(ay:Heap)(x:Str)(k:Nat)(sp:vm):Prop:=∃f fd ps,W7 P w K mg ay ij k f fd ps sp/\mg x=some (.ref f)/\keepIn K (.ref f)=true/\Binds K fd ps []
def jK(c:Addr)(q:Str)(h:Heap):Prop:=h.CodeRec (.ref c) q
theorem aaA{P:ah}(e:h.CodeRec (.ref c) q):fe P w H h c (.ext (jK c q)):=by obtain⟨c',o,vs,t,e1,e2,e3,e4⟩:=id e;cases e1;refine⟨e,⟨o,e2⟩,λh1 h2 y k=>?_⟩;obtain⟨c2,o2,X1,t2,y1,y2,y3,y4⟩:=y;cases y1;exact⟨c,o2,X1,t2,Z,k _ y2,y3,y4⟩
structure abJ(H:Hp)(q:Str)(ps:Array Value):Prop where
 tr:TriplesOk ps.toList
 at':∀pos v,codeAmong pos ps.toList=some v->∃c,v= .ref c/\H c=some (.ext (jK c q))
def TabAt(H:Hp)(T:Addr)(q:Str):Prop:=∃ps,H T=some (.eZ ps)/\abJ H q ps
theorem TabAt.first(h:H T=some (.eZ #[])):TabAt H T q:=⟨#[],h,trivial,λpos v e=>by rw[LC]at e;cases e⟩
theorem TabAt.keep(h:TabAt H T q)(e1:∀ps,H T=some (.eZ ps)->H' T=some (.eZ ps))(e2:∀b φ,H b=some (.ext φ)->H' b=some (.ext φ)):TabAt H' T q:=by obtain⟨ps,e,tr,ha⟩:=h;refine⟨ps,e1 _ e,tr,λpos v ev=>?_⟩;obtain⟨c,rfl,hc⟩:=ha pos v ev;exact⟨c,Z,e2 _ _ hc⟩
theorem V7{v:Value}(l:List Value)(ht:TriplesOk l)(h:codeAmong p (l++[rawInt a,rawInt b,c])=some v):codeAmong p l=some v\/v=c:=by
 rw[TriplesOk.eq_def]at ht;split at ht
 ·rw[LC]at h
  simp only[List.nil_append]at h;split at h
  ·rename_i e
   cases e;split at h
   ·cases h;exact .inr rfl
   ·rw[LC]at h;cases h
  ·cases h
 ·rename_i i t j u x r
  rw[LC]at h⊢;simp only[List.cons_append]at h;dsimp only at h⊢;split at h
  ·exact .inl (by rw[bh (by assumption)];exact h)
  ·rename_i hn
   rw[bf hn];exact V7 r ht h
 ·exact ht.elim
termination_by l.length
def xV(h:Heap)(H:Hp)(fs:List Addr)(f:Addr)(pr:Arguments)(b:Expr)(sc:Scope)(q:Str)(c:Addr)(cl:List (Str×Addr)):Prop:=∃pm ct,h.get? f=some (kla_obj "<lambda>" q pr b sc cl pm c ct)/\H f=none/\f∉fs
structure sS(h:Heap)(H:Hp)(fs:List Addr)(cl:List (Str×Addr))(N:List Str)(vs:List V):Prop where
 cell:∀x c,cl.lookup x=some c->∃u,h.IsCell c u
 free:∀x c,cl.lookup x=some c->H c=none
 nf:∀x c,cl.lookup x=some c->c∉fs
 inj:∀x y c,cl.lookup x=some c->cl.lookup y=some c->x=y
 val:∀(i:Nat) x v,N[i]? =some x->vs[i]? =some v->∃c u,cl.lookup x=some c/\h.IsCell c (some u)/\RelV v u
structure vo(N:List Str)(sc:Scope):Prop where
 kind:sc.kind= .function
 co:sc.isCoroutine=false
 gen:sc.isGenerator=false
 QG:∀y∈sc.names,y.2≠ .cell
 fr:∀x∈N,sc.names.lookup x=some .free
 only:∀x,sc.names.lookup x=some .free->x∈N
def rK(CX:kz)(P:ah)(w:World)(K:Frag)(mg:bJ)(ay:Heap)(N:List Str)(qual:Str)(scope:Scope)(f:Addr)(cd:Value)(cl:List (Str×Addr))(A:aj)(outer:List Env)(s:ae)(H:Hp)(E:XK):Cx where
 prog:=P
 w:=w
 K:=K
 mg:=mg
 ay:=ay
 A:=A.deeper (envX qual scope s.heap.objs.size f cd cl)
 N:=N
 s₀:=s
 H₀:=H
 env:=envX qual scope s.heap.objs.size f cd cl
 outer:=outer
 stack:=envX qual scope s.heap.objs.size f cd cl::outer
 ex:=[]
 calm:=true
 fn:=λ_=>false
 pn:=[]
 xe:=λe s'=>wpAny (model P w) (A.deeper (envX qual scope s.heap.objs.size f cd cl)) (leaving (envX qual scope s.heap.objs.size f cd cl) e) (λ_ tZ=>CX outer H s E e tZ) (λe' tZ=>CX outer H s E e' tZ) s'
theorem a4Y{CX:kz}{P:ah}{w:World}{K:Frag}{mg:bJ}{ay:Heap}{N:List Str}{qual:Str}{scope:Scope}{f:Addr}{cd:Value}{cl:List (Str×Addr)}{A:aj}{outer:List Env}{s:ae}{H:Hp}{E:XK}{vs:List V}{h':Heap}{tk:Nat}{m:bJ}{fs:List Addr} (S:vo N scope)(hd:A.handled=none)(e0:oT P w K mg ay A outer s H)(hl:vs.length=N.length)(C:sS s.heap H fs cl N vs)(xl:h'.Ns s.heap.objs.size m)(hk:∀b u,s.heap.get? b=some u->h'.get? b=some u): Inv (rK CX P w K mg ay N qual scope f cd cl A outer s H E) [] (vs.map some) H ⟨h',s.gens,s.drawn,tk,s.os⟩:=by
 have ur:∀b:Addr,b∉([]:List Addr):=λb=>by simp
 have S4:∀{c:Addr}{v:Option Value},s.heap.IsCell c v->h'.IsCell c v:=λ⟨o,e,d⟩=>⟨o,hk _ _ e,d⟩;refine⟨⟨e0.mod,S.kind,Z,Z,bK _,C.inj,λy hy=>?_,λy c z=>(nomatch z),λ_=>hd,Around.frames_deeper e0.frames,.inr ⟨rfl,rfl⟩,λb z=>absurd z (ur b),e0.bs,e0.my,λb _ _=>ur b,λb z=>absurd z (ur b),e0.jF,e0.ou⟩,rfl,e0.bare,Un.kept hk,⟨_,xl,λi y v h1 h2 h3=>?_⟩,λy c h=>?_,e0.aY.fresh (bK _),C.free,λp hp=>absurd hp (by simp[rK]),e0.aY.kept hk,by rw[cx];exact hl⟩
 ·have hy:scope.names.lookup y=some .cell\/scope.names.lookup y=some .free:=hy
  rcases hy with hy|hy
  ·exact absurd Z (S.QG _ (vx hy))
  ·obtain⟨i,hi⟩:=tG.mp (S.only y hy)
   obtain⟨v,hv⟩:∃v,vs[i]? =some v:=⟨_,cn (by rw[hl];exact(eh.mp hi).1)⟩;obtain⟨c,u,e,_⟩:=C.val i y v hi hv;exact⟨c,e⟩
 ·rw[cI]at h2
  cases e:vs[i]? with |none=>rw[e]at h2;cases h2 |some v'=>rw[e]at h2;cases h2;obtain⟨c,u,e1,e2,r⟩:=C.val i y v h1 e;exact⟨u,r,.inr ⟨.inr (S.fr y (gI h1)),c,e1,S4 e2⟩⟩
 ·obtain⟨u,e⟩:=C.cell y c h
  exact⟨u,S4 e⟩
theorem a4u{P:ah}{K:Frag}{k:Nat}{t:TE}{fs:List Addr}(S:vo N sc)(hb:∀pm cd ct,bindArgs (kla_fn "<lambda>" qual pr b sc cl pm cd ct) ⟨[],[]⟩=pure [])(hr:cN (k+1) A)(e0:oT P w K mg ay A outer s H)(L:xV s.heap H fs f pr b sc qual c cl)(hc:H c=some (.ext (jK c qual)))(hl:vs.length=N.length)(C:sS s.heap H fs' cl N vs) (ht:PE (rK CX P w K mg ay N qual sc f (.ref c) cl A outer s H E) b t)(hq:t (vs.map some) H Q):codeAny (model P w) A (.call (.ref f) ⟨[],[]⟩) (CR CX outer P w H s Q E) s:=by
 obtain⟨pm,ct,ho,hf,hn⟩:=L;have lim:s.heap.NoLimit:=e0.mod.nolimit.keeps λb o e=>(e0.bs b o e).1;have cr:s.heap.CodeRec (.ref c) qual:=(e0.aY c _ hc).1;refine kla_callFunE hr.depth ho Z S.co S.gen Z cr ?_;rw[hb];refine cf (Wa (λx hx=>S.QG x hx) (λx hx=>nomatch hx) (λh' xl Jd=>?_) S.kind);have hk:∀b u,s.heap.get? b=some u->h'.get? b=some u:=λb u e=>by
  have dP:b≠s.heap.objs.size:=λz=>by have:=cC e;rw[z]at this;exact oV _ this
  rw[Jd.2 b dP];exact cy _ e
 refine⟨lim.keeps hk,kla_codeExpr ?_⟩;have I:Inv (rK CX P w K mg ay N qual sc f (.ref c) cl A outer s H E) [] (vs.map some) H ⟨h',s.gens,s.drawn,s.toks+([]:List (Str×Value)).length,s.os⟩:=a4Y S hr.hd e0 hl C xl hk;refine iM (ht [] _ (vs.map some) H _ I hq) (λu s' ⟨v,H',J,rv,q⟩=>?_) λe s' h=>h;exact⟨v,H',J.os,J.bare,J.ay,J.aY,rv,q⟩
section
variable {P:ah}{w:World}{K:Frag}{mg:bJ}{ay:Heap}{N:List Str}{qual:Str}{scope:Scope}{f:Addr}{cd:Value}{cl:List (Str×Addr)}{A:aj}{outer:List Env}{s:ae}{H:Hp}{E E0:XK}
theorem a1f(he:∀cls dx H',E cls dx H'->E0 cls dx H'):Passes (jv P w) (rK (jv P w) P w K mg ay N qual scope f cd cl A outer s H E0) E:=by
 intro aw O H1 s1 e s2 I hx;obtain⟨ex,cls,dx,H',B,rfl,ho,hg,qo,F,q⟩:=hx;have qo:kR B (envX qual scope s.heap.objs.size f cd cl::outer) ex cls dx .none s2.heap:=qo;show wpAny (model P w) (A.deeper (envX qual scope s.heap.objs.size f cd cl)) (leaving (envX qual scope s.heap.objs.size f cd cl) (.ref ex)) _ _ _;refine a4p (L:=s.heap.objs.size) I.ok.frames Z qo λh' x1 x2=>?_;have F2:=F.step qo.1 x1.1 x2 qo.2.2.1;have sub:∀b,b∈cX outer->b∈cX (envX qual scope s.heap.objs.size f cd cl::outer):=λb hb=>by obtain⟨env,h1,h2⟩:=kD.mp hb;exact kD.mpr ⟨env,.tail _ h1,h2⟩
 have mQ:∀b o,s.heap.get? b=some o->b∉cX outer->b∉cX (envX qual scope s.heap.objs.size f cd cl::outer):=λb o e hb hm=>by
  obtain⟨env,h1,h2⟩:=kD.mp hm;rcases bL.mp h1 with z|h1
  ·subst z
   have e1:s.heap.objs.size=b:=dQ h2;have e2:=cC e;rw[<-e1]at e2;exact absurd e2 (oV _)
  ·exact hb (kD.mpr ⟨env,h1,h2⟩)
 have nx:∀b:Addr,b∉([]:List Addr):=λ_=>cE;refine⟨ex,cls,dx,H',B,Z,ho.trans I.os,hg,x1,⟨⟨λb o e n hb _=>?_,λb o e n hb _=>?_,λb o e n _=>?_,λb o e _=>?_,λb xs e=>F2.un.jQ b xs (I.ay.jQ b xs e),λb o u e=>F2.un.jG b o u (I.ay.jG b o u e),λb ps e=>?_⟩,F2.aY,λb o e n hb=>?_,F2.k2,λb o e hb=>?_,λb hb=>F2.fr b (sub b hb),?_,F2.ne⟩,he _ _ _ q⟩
 ·exact F2.un.keep b o (I.ay.keep b o e n hb (nx b)) (I.ay.free b o e n (nx b)) (mQ b o e hb) (nx b)
 ·obtain⟨sl,e1⟩:=I.ay.slot b o e n hb (nx b)
  obtain⟨qP,e2⟩:=F2.un.slot b _ e1 (I.ay.free b o e n (nx b)) (sub b hb) (nx b);exact⟨qP,e2⟩
 ·obtain⟨sl,e1⟩:=I.ay.any e n (nx b)
  exact F2.un.free b _ e1 (I.ay.free b o e n (nx b)) (nx b)
 ·obtain⟨o1,e1⟩:=I.ay.there b o e (nx b)
  exact F2.un.there b o1 e1 (nx b)
 ·obtain⟨m1,e1⟩:=I.ay.jx b ps e
  obtain⟨m2,e2⟩:=F2.un.jx b _ e1;exact⟨m1++m2,by rw[<-Array.append_assoc];exact e2⟩
 ·exact F2.k1 b o (I.ay.keep b o e n hb (nx b)) (I.ay.free b o e n (nx b)) (mQ b o e hb)
 ·obtain⟨o1,e1⟩:=I.ay.there b o e (nx b)
  exact F2.k3 b o1 e1 (mQ b o e hb)
 ·cases e:s.heap.get? ex with |none=>rfl |some o=>obtain⟨o1,e1⟩:=I.ay.there ex o e (nx ex);rw[F2.nw]at e1;cases e1
end
section
variable {X:Cx}{x:Str}{p pos:Pos}{E:XK}
inductive adU(X:Cx)(i:Nat)(E:XK)(O:St)(H:Hp)(Q:VK):Prop |mk (f c:Addr)(cl:List (Str×Addr))(pr:Arguments)(b:Expr)(sc:Scope)(q:Str)(N:List Str)(vs:List V)(t:XK->TE)(k:Nat)(h0:O[i]? =some (some (.ref f)))(h1:H=X.H₀)(h2:xV X.s₀.heap X.H₀ X.fs f pr b sc q c cl)(h3:H c=some (.ext (jK c q)))(h4:sS X.s₀.heap X.H₀ X.fs cl N vs)(h5:vs.length=N.length)(h6:vo N sc)(h7:∀pm cd ct,bindArgs (kla_fn "<lambda>" q pr b sc cl pm cd ct) ⟨[],[]⟩=pure [])(h8:cN (k+1) X.A) (h9:∀(A:aj)(outer:List Env)(s:ae)(H:Hp)(E:XK),cN k (A.deeper (envX q sc s.heap.objs.size f (.ref c) cl))->PE (rK (jv X.prog X.w) X.prog X.w X.K X.mg X.ay N q sc f (.ref c) cl A outer s H E) b (t E))(zW:t E (vs.map some) H Q)
theorem a0W(i:Nat)(hp:Passes (jv X.prog X.w) (X.jf xe) E)(hex:X.ex=[]:=by rfl)(hN:X.N[i]? =some x:=by rfl)(hv:DC X.env.scope x:=by first|exact Or.inl rfl|exact Or.inr (Or.inl rfl)|exact Or.inr (Or.inr rfl))(hd:(x==("__debug__":Str))=false:=by decide) (gF:(x==("__classdict__":Str))=false:=by decide):PE (X.jf xe) (.Call (.Name x p) [] [] pos) (λO H Q=>adU X i E O H Q):=by
 intro aw s O H Q I h;obtain⟨f,c,cl,pr,b,sc,q,N,vs,t,k,h0,h1,⟨pm,ct,L1,L2,L3⟩,h3,C,h5,h6,h7,h8,h9,zW⟩:=h;have nx:∀b:Addr,b∉X.ex:=λb=>by rw[hex];exact cE
 refine AH (bc (Qa (X:=X.jf xe) (pos:=p) hN hv hd gF aw s O H (λv H'=>v= .ref f/\H'=H) I ⟨_,h0,Z,Z⟩) λu s1 ⟨v,H1,I1,rv,e1,e2⟩=>?_);subst e1 e2;cases(show u=Value.ref f from rv);have hf:=I1.ay.keep f _ L1 L2 L3 (nx f);have kc:∀{x c u},cl.lookup x=some c->X.s₀.heap.IsCell c u->s1.heap.IsCell c u:=λ{x c u} e ⟨o,e1,e2⟩=>⟨o,I1.ay.keep c o e1 (C.free x c e) (C.nf x c e) (nx c),e2⟩;have C2:sS s1.heap H1 X.fs cl N vs:=⟨λx c e=>(C.cell x c e).imp λu z=>kc e z,λx c e=>by rw[h1];exact C.free x c e,C.nf,C.inj,λi x v a b=>by obtain⟨c,u,e,z,r⟩:=C.val i x v a b;exact⟨c,u,e,kc e z,r⟩⟩;refine callWith_F0 ⟨_,_,_,_,hf⟩ (sT (yc (a4u (k:=k) (fs:=X.fs) (fs':=X.fs) h6 h7 h8 I1.A9 ⟨pm,ct,hf,by rw[h1];exact L2,L3⟩ h3 h5 C2 (h9 _ _ _ _ E (h8.deeper _)) zW) λr s' hq=>?_));cases r with |error e=>exact hp aw O H1 s1 e s' I1 hq |ok fl=>cases fl with |ret u=>exact I1.after hq |next=>exact False.elim hq |brk=>exact False.elim hq |cont=>exact False.elim hq
end
def oK(cells:List (Str×Addr)):List (Str×NameKind)->List (Str×Addr)->List (Str×Addr) |[],cs=>cs |(n,k)::r,cs=>oK cells r (if k== .free then(n,(cells.lookup n).getD 0)::cs else cs)
theorem UU{env:Env}:∀(l:List (Str×NameKind))(cs:List (Str×Addr)),(∀y∈l,y.2= .free->∃c,env.cells.lookup y.1=some c)->(forIn l cs (λ(x:Str×NameKind)(cs:List (Str×Addr))=>match x with |(name,kind)=>if(kind==NameKind.free)=true then(do let c<-cellOf env name;pure (ForInStep.yield ((name,c)::cs)))else pure (ForInStep.yield cs)):Sem (List (Str×Addr)))=pure (oK env.cells l cs)
 |[],cs,_=>rfl |(n,k)::r,cs,h=>by
  rw[Ec];have ih:=λcs=>UU r cs λy hy=>h y (.tail _ hy);unfold oK;by_cases hk:(k==NameKind.free)=true
  ·obtain⟨c,e⟩:=h (n,k) (.head _) (by cases k<;>first|rfl|cases hk)
   simp only[hk,sW];unfold cellOf;rw[e];exact ih _
  ·simp only[hk]
   exact ih _
theorem UY{cells:List (Str×Addr)}{x:Str}{c:Addr}:∀(l:List (Str×NameKind))(cs:List (Str×Addr)),(∀y∈l,y.2= .free->∃c,cells.lookup y.1=some c)->(oK cells l cs).lookup x=some c->cs.lookup x=some c\/cells.lookup x=some c
 |[],cs,_,h=>.inl h |(n,k)::r,cs,ha,h=>by
  unfold oK at h;rcases UY r _ (λy hy=>ha y (.tail _ hy)) h with z|z
  ·by_cases hk:(k==NameKind.free)=true
   ·rw[bh hk,jd]at z
    split at z
    ·rename_i e
     obtain⟨c',e'⟩:=ha (n,k) (.head _) (by cases k<;>first|rfl|cases hk);rw[show cells.lookup n=some c' from e']at z;cases z;rw[fz.mp e];exact .inr e'
    ·exact .inl z
   ·rw[bf hk]at z;exact .inl z
  ·exact .inr z
theorem UZ{cells:List (Str×Addr)}{x:Str}:∀(l:List (Str×NameKind))(cs:List (Str×Addr)),(x,NameKind.free)∈l\/(∃c,cs.lookup x=some c)->∃c,(oK cells l cs).lookup x=some c
 |[],cs,h=>by
  rcases h with h|h
  ·cases h
  ·exact h |(n,k)::r,cs,h=>by
  unfold oK;refine UZ r _ ?_;rcases h with h|⟨c,h⟩
  ·rcases bL.mp h with e|e
   ·cases e
    exact .inr ⟨(cells.lookup x).getD 0,by simp[jd]⟩
   ·exact .inl e
  ·refine .inr ?_
   split
   ·rw[jd]
    split
    ·exact⟨_,Z⟩
    ·exact⟨c,h⟩
   ·exact⟨c,h⟩
theorem aaF(h:∀y∈sc.names,y.2= .free->∃c,env.cells.lookup y.1=some c):closureFor sc env=pure (oK env.cells sc.names []):=by unfold closureFor;have:=UU sc.names [] h;simp only[this];rfl
theorem ab2{h h':Heap}{mg:bJ}{T:Addr}(b:h.BuiltinsAt mg T)(k:∀b o,h.get? b=some o->h'.get? b=some o):h'.BuiltinsAt mg T:=by obtain⟨bm,o,b1,b2,b3,b4,b5,b6⟩:=b;exact⟨bm,o,b1,b2,b3,b4,k _ _ b5,b6⟩
section
variable {X:Cx}{aw:List (Addr×Obj)}{O:St}{H:Hp}{s:ae}{pr:Arguments}{bd:Expr}{sc:Scope}{fN:Pos}{cl:List (Str×Addr)}{T c:Addr}{q:Str}
theorem Inv.Qy(I:Inv X aw O H s){f:Addr}(h:s.heap.objs.size<=f):f∉cX X.stack:=λhb=>by
 rcases bL.mp (I.yF f hb)with e|e
 ·rw[e]at h;exact absurd I.lt (Nat.not_lt.mpr h)
 ·exact I.QF h e
theorem a4v{VR:Value->ae->Prop}(I:Inv X aw O H s)(hc:X.env.code= .ref c)(hd:CodeHd X.ay c T)(hB:X.ay.BuiltinsAt X.mg T)(mh:closureFor sc X.env=pure cl)(uO:defaultsOf pr X.env=([],[]))(Jg:X.env.qual++Str.ofString "<lambda>"=q)(ht:TabAt H T q) (hq:∀f c' H' s',Inv X aw O H' s'->xV s'.heap H' (cX X.stack) f pr bd sc q c' cl->H' c'=some (.ext (jK c' q))->TabAt H' T q->bF [T] H H'->(∀b,b≠T->H b=none->(∃o,s.heap.get? b=some o)->H' b=none/\∀o,s.heap.get? b=some o->s'.heap.get? b=some o)->VR (.ref f) s'): wpAny (model X.prog X.w) X.A (eval (.Lambda pr bd sc fN) X.env) VR X.xe s:=by
 refine kla_eval uO ?_;rw[Jg];obtain⟨ps,hT,tr,zR⟩:=ht;have kb:=I.bk;have Sy:=I.ok.mod.glob.keeps kb;have SE:CodeHd s.heap c T:=CodeHd.keeps hd kb;have CN:s.heap.get? T=some (tabObj ps):=I.aY T _ hT;have SX:=ab2 hB kb;have gT:mainGlobals≠T:=λz=>by obtain⟨o,es,ep,e,_⟩:=I.ok.mod.glob;have:=(I.bs _ _ e).2;rw[z,hT]at this;cases this
 cases ha:codeAmong fN ps.toList with |some v=>obtain⟨c',rfl,iV⟩:=zR fN v ha;refine kla_makeFunctionHit mh I.ok.glob Sy hc SE CN tr ha SX λoJ h' tk hk hsz=>?_;have og:∀b o,s.heap.get? b=some o->(h'.push {cls:=Value.type "function",data:=Data.func (kla_fn (Str.ofString "<lambda>") q pr bd sc cl ((X.mg (Str.ofString "__name__")).getD Value.none) (Value.ref c') oJ)}).get? b=some o:=λb o e=>cy _ (hk b o e);refine hq h'.objs.size c' H _ (I.kept og) ⟨_,oJ,eV _ Z,I.aY.fresh hsz,I.Qy hsz⟩ iV ⟨ps,hT,tr,zR⟩ (λb o e _=>e) λb _ hb _=>⟨hb,λo e=>og b o e⟩ |none=>
  refine kla_makeFunction mh I.ok.glob Sy hc SE CN tr ha gT SX λc' oJ h' tk hx CK cJ a5x htb=>?_;have fc:H c'=none:=I.aY.fresh CK;have cT:c'≠T:=λz=>by rw[z,hT]at fc;cases fc
  have og:∀b o,b≠T->s.heap.get? b=some o->(h'.push (kla_obj (Str.ofString "<lambda>") q pr bd sc cl ((X.mg (Str.ofString "__name__")).getD Value.none) c' oJ)).get? b=some o:=λb o hb e=>cy _ (hx b o hb e);have UI:(h'.push (kla_obj (Str.ofString "<lambda>") q pr bd sc cl ((X.mg (Str.ofString "__name__")).getD Value.none) c' oJ)).CodeRec (.ref c') q:=by obtain⟨c2,o,vs,t,e1,e2,e3⟩:=a5x;exact⟨c2,o,vs,t,e1,cy _ e2,e3⟩
  have JD:(h'.push (kla_obj (Str.ofString "<lambda>") q pr bd sc cl ((X.mg (Str.ofString "__name__")).getD Value.none) c' oJ)).get? T=some (tabObj (ps++#[rawInt ↑fN.line,rawInt ↑fN.col,Value.ref c'])):=cy _ htb;have Ts:s.heap.objs.size<=h'.objs.size:=LQ (qG CK cJ);have hf:(h'.push (kla_obj (Str.ofString "<lambda>") q pr bd sc cl ((X.mg (Str.ofString "__name__")).getD Value.none) c' oJ)).get? h'.objs.size=some (kla_obj (Str.ofString "<lambda>") q pr bd sc cl ((X.mg (Str.ofString "__name__")).getD Value.none) c' oJ):=eV _ rfl;have eU:∀b o,b≠T->H b=some o->upd (upd H T (.eZ (ps++#[rawInt ↑fN.line,rawInt ↑fN.col,Value.ref c']))) c' (.ext (jK c' q)) b=some o:=λb o hb e=>by rw[aO (fT e fc),aO hb];exact e
  have eN:∀b,b≠T->b≠c'->H b=none->upd (upd H T (.eZ (ps++#[rawInt ↑fN.line,rawInt ↑fN.col,Value.ref c']))) c' (.ext (jK c' q)) b=none:=λb hb mV e=>by rw[aO mV,aO hb];exact e
  have eT:upd (upd H T (.eZ (ps++#[rawInt ↑fN.line,rawInt ↑fN.col,Value.ref c']))) c' (.ext (jK c' q)) T=some (.eZ (ps++#[rawInt ↑fN.line,rawInt ↑fN.col,Value.ref c'])):=by rw[aO cT.symm];exact bo
  have eC:upd (upd H T (.eZ (ps++#[rawInt ↑fN.line,rawInt ↑fN.col,Value.ref c']))) c' (.ext (jK c' q)) c'=some (.ext (jK c' q)):=bo;have eX:∀b o,upd (upd H T (.eZ (ps++#[rawInt ↑fN.line,rawInt ↑fN.col,Value.ref c']))) c' (.ext (jK c' q)) b=some o->(b=c'/\o= .ext (jK c' q))\/(b=T/\o= .eZ (ps++#[rawInt ↑fN.line,rawInt ↑fN.col,Value.ref c']))\/(b≠T/\H b=some o):=λb o e=>by
   by_cases h1:b=c'
   ·subst h1;rw[bo]at e;cases e;exact .inl ⟨rfl,rfl⟩
   ·rw[aO h1]at e
    by_cases h2:b=T
    ·subst h2;rw[bo]at e;cases e;exact .inr (.inl ⟨rfl,rfl⟩)
    ·rw[aO h2]at e;exact .inr (.inr ⟨h2,e⟩)
  generalize upd (upd H T (.eZ (ps++#[rawInt ↑fN.line,rawInt ↑fN.col,Value.ref c']))) c' (.ext (jK c' q))=H' at eU eN eT eC eX;generalize hhn:h'.push (kla_obj (Str.ofString "<lambda>") q pr bd sc cl ((X.mg (Str.ofString "__name__")).getD Value.none) c' oJ)=hn at og UI JD hf⊢;have C7:∀{b o},s.heap.get? b=some o->b≠c':=λ{b o} e z=>by have:=cC e;rw[z]at this;exact absurd this (Nat.not_lt.mpr CK)
  have nT:∀{b},H b=none->b≠T:=λ{b} e z=>by rw[z,hT]at e;cases e
  have un:Un (cX X.stack) [] H H' s.heap hn:=by
   refine⟨λb o e n _ _=>og b o (nT n) e,λb o e n _ _=>⟨o.slots,og b o (nT n) e⟩,λb o e n _=>eN b (nT n) (C7 e) n,λb o e _=>?_,λb xs e=>eU b _ (λz=>by rw[z,hT]at e;cases e) e,λb o u e=>eU b _ (λz=>by rw[z,hT]at e;cases e) e,λb ps' e=>?_⟩
   ·by_cases hb:b=T
    ·rw[hb];exact⟨_,JD⟩
    ·exact⟨o,og b o hb e⟩
   ·by_cases hb:b=T
    ·rw[hb,hT]at e
     cases e;rw[hb];exact⟨_,eT⟩
    ·exact⟨#[],by rw[Array.append_empty];exact eU b _ hb e⟩
  have ho:dN X.prog X.w H' hn:=λa o e=>by
   rcases eX a o e with⟨rfl,rfl⟩|⟨rfl,rfl⟩|⟨dP,e⟩
   ·exact aaA UI
   ·exact JD
   ·refine(I.aY a o e).lX (λb' u hb e'=>og b' u (λz=>?_) e') (λb' e'=>eU b' _ (λz=>by rw[z,hT]at e';cases e') e') λb' xs e'=>eU b' _ (λz=>by rw[z,hT]at e';cases e') e'
    rcases hb with z2|z2
    ·exact dP (z2▸z)
    ·rw[z,hT]at z2;cases z2
  have I':Inv X aw O H' ⟨hn,s.gens,s.drawn,tk,s.os⟩:=I.call (ch:=[]) un ho I.bare λb hb=>(cE hb).elim;refine hq h'.objs.size c' H' _ I' ⟨_,oJ,hf,?_,I.Qy Ts⟩ eC ⟨_,eT,?_,λp v e=>?_⟩ (λb o e hb=>eU b o (λz=>hb (by rw[z];exact .head _)) e) λb hb hn0 he=>?_
  ·have rQ:H h'.objs.size=none:=I.aY.fresh Ts
   exact eN _ (nT rQ) (λz=>absurd cJ (by rw[<-z];exact oV _)) rQ
  ·rw[Eg];exact TriplesOk_snoc _ _ _ _ tr
  ·rw[Eg]at e
   rcases V7 _ tr e with z|z
   ·obtain⟨c2,r1,r2⟩:=zR p v z
    exact⟨c2,r1,eU c2 _ (λz=>by rw[z,hT]at r2;cases r2) r2⟩
   ·exact⟨c',z,eC⟩
  ·obtain⟨o,e⟩:=he
   exact⟨eN b hb (C7 e) hn0,λo e=>og b o hb e⟩
end
def mx(K:Frag)(cd:Value)(T:Addr):Bool:=match cd with
 | .ref c=>match K.lookup c with |some ⟨.type n,_,.fields vs,_⟩=>n=="code"&&(match(vs[11]? :Option Value),(vs.getD 11 .none:Value),(vs.getD 18 .none:Value),(vs.getD 7 .none:Value),(vs.getD 9 .none:Value),(vs.getD 10 .none:Value)with |some (.ref P),.ref P2,.str _ _,.int _ _,.bool _,.int _ _=>P==T&&P2==T&&c !=T |_,_,_,_,_,_=>false) |_=>false
 |_=>false
theorem US{K:Frag}(e:mx K cd T=true)(X:K.In h):∃c,cd= .ref c/\CodeHd h c T:=by
 unfold mx at e;split at e
 ·rename_i c
  split at e
  ·rename_i n d vs sl hl
   rw[fq]at e;obtain⟨e1,e2⟩:=e;split at e2
   ·rename_i P P2 f tf fl tg b t tt h1 h2 h3 h4 h5 h6
    simp only[fq,fz,bne_iff_ne]at e1 e2;obtain⟨⟨e3,e4⟩,e5⟩:=e2;subst e1 e3;rw[e4]at h2;exact⟨c,Z,_,vs,f,tf,fl,tg,b,t,tt,X _ _ hl,Z,Z,h1,h2,h3,h4,h5,h6,e5⟩
   ·cases e2
  ·cases e
 ·cases e
section
variable {X:Cx}{k:Nat}{x:Str}{p pos fN:Pos}{pr:Arguments}{bd:Expr}{sc:Scope}{sp:vm}{T c:Addr}{q:Str}{N:List Str}
inductive adS(X:Cx)(T:Addr)(q:Str)(pr:Arguments)(bd:Expr)(sc:Scope)(N:List Str)(js:List Nat)(sp:vm)(O:St)(H:Hp)(Q:VK):Prop |mk (vs:List V)(h0:TabAt H T q)(h1:vs.length=N.length)(h2:∀(i j:Nat) v,js[i]? =some j->vs[i]? =some v->O[j]? =some (some v)) (h3:∀f c cl H' s',xV s'.heap H' (cX X.stack) f pr bd sc q c cl->H' c=some (.ext (jK c q))->sS s'.heap H' (cX X.stack) cl N vs->TabAt H' T q->bF [T] H H'->sp X.stack s' [.ref f] H' Q E0)
structure VY(X:Cx)(N:List Str)(js:List Nat)(sc:Scope):Prop where
 S:vo N sc
 cell:∀y∈sc.names,y.2= .free->X.env.kindOf y.1=some .cell
 ix:∀(i:Nat) y,N[i]? =some y->∃j,js[i]? =some j/\X.N[j]? =some y
theorem a0R(LI:VY X N js sc)(F:AA X.prog X.w X.K X.mg X.ay x k sp)(hr:cN k X.A)(hg:Gl X x)(rQ:∀y,X.fn y=true)(me:mx X.K X.env.code T=true)(hB:X.ay.BuiltinsAt X.mg T)(Jg:X.env.qual++Str.ofString "<lambda>"=q)(uO:defaultsOf pr X.env=([],[])) (jq:(x==("__debug__":Str))=false:=by decide): PE X (.Call (.Name x p) [.Lambda pr bd sc fN] [] pos) (λO H Q=>adS X T q pr bd sc N js sp O H Q):=by
 intro aw s O H Q I h;obtain⟨f0,fd,ps,F,hm,hk,hb⟩:=F;obtain⟨vs,h0,h1,h2,h3⟩:=h;obtain⟨S,mU,hj⟩:=LI;obtain⟨c,hc,hd⟩:=US me I.ok.mod.o8;have SQ:∀y∈sc.names,y.2= .free->∃c,X.env.cells.lookup y.1=some c:=λy hy e=>I.ok.has y.1 (.inl (mU y hy e));refine AH (uA I hg hm ?_ jq);refine callWith_K (h₀:=X.ay) I.ok.mod.o8 hk ?_ Z rfl;show wpAny _ _ (spliced ((false,eval (.Lambda pr bd sc fN) X.env)::backTo pos (starEach [] X.env))) _ _ s;refine Calls.spliced_cons (a4v I hc hd hB (aaF SQ) uO Jg h0 λf c' H' s' I' L iV tb bt _=>?_);refine Calls.spliced_nil ⟨I'.fV,?_⟩;have sub:∀{y c},(oK X.env.cells sc.names []).lookup y=some c->X.env.cells.lookup y=some c:=λ{y c} e=>by
  rcases UY sc.names [] SQ e with z|z
  ·cases z
  ·exact z
 have C:sS s'.heap H' (cX X.stack) (oK X.env.cells sc.names []) N vs:=by
  refine⟨λy c e=>I'.cell y c (sub e),λy c e=>I'.ki y c (sub e),λy c e hf=>?_,λy z c e1 e2=>I'.ok.inj y z c (sub e1) (sub e2),λi y v e1 e2=>?_⟩
  ·rcases bL.mp (I'.yF c hf)with z|z
   ·exact I'.kl y c (sub e) z
   ·obtain⟨_,o,ho,_⟩:=I'.ok.jF.mem z
    exact absurd (cC ho) (Nat.not_lt.mpr (I'.ok.sL y c (rQ y) (sub e)))
  ·obtain⟨j,ej,eN⟩:=hj i y e1
   have mem:=vx (S.fr y (gI e1));have kd:X.env.kindOf y=some .cell:=mU _ mem rfl;obtain⟨m,_,a5Z⟩:=I'.loc;obtain⟨u,ru,lk⟩:=a5Z j y v eN (h2 i j v ej e2) (.inr (.inl kd));obtain⟨c1,e3⟩:=UZ (cells:=X.env.cells) sc.names [] (.inl mem);rcases lk with⟨z,_⟩|⟨_,c2,e4,ic⟩
   ·rw[kd]at z;cases z
   ·have:=sub e3
    rw[e4]at this;cases this;exact⟨_,u,e3,ic,ru⟩
 have hs:=h3 f c' _ H' s' L iV C tb bt;have hl:([Value.ref f]++([]:List Value)).length=ps.length:=by rw[<-F.len _ _ _ _ _ _ hs];rfl
 have bt2:=hb s' [.ref f] I'.fV hl;refine sT (yc (F.run X.A X.stack s' H' ⟨[.ref f],[]⟩ [.ref f] [.ref f] Q E0 hr I'.A9 bt2 (.cons Z .nil) hs) λr s2 hq=>?_);cases r with |error e=>exact False.elim hq |ok fl=>cases fl with |ret u=>exact I'.after hq |next=>exact False.elim hq |brk=>exact False.elim hq |cont=>exact False.elim hq
end
structure Lx(K:Frag)(mg:bJ)(x:Str)(st:Stmt)(T:Addr):Prop where ex:∃f fd,mg x=some (.ref f)/\j4 K x x st f fd/\mx K fd.code T=true
section
variable {P:ah}{w:World}{K:Frag}{mg:bJ}{ay:Heap}
theorem a8o{st:Stmt}{kV:Value}(X:K.In h)(G:h.Ns mainGlobals mg)(a:nsIn K mainGlobals x=some (some (.ref f))) (l:K.lookup f=some ⟨oc,od,.func (fnOf x x (kO st) (gU st) (aZ st) .none kV doc pm an aP ct),fR⟩)(c:codeIn K aP x=true)(k:keepIn K (.ref f)=true)(t:mx K aP T=true):Lx K mg x st T:=⟨f,_,mg_of X G a,zZ l c k,t⟩
theorem FA.a6H{st:Stmt}{k:Nat}(F:FA K mg x st)(S:bG N ps (aZ st))(len:∀outer s vs H Q E,sp outer s vs H Q E->vs.length=ps.length) (hb:∀(kV doc pm:Value)(an:Option Addr)(aP ct:Value)(us:List Value),us.length=ps.length->bindArgs (fnOf x x (kO st) (gU st) (aZ st) .none kV doc pm an aP ct) ⟨us,[]⟩=pure (ps.zip us)) (iW:∀(f:Addr)(aP:Value)(A:aj)(outer:List Env)(s:ae)(H:Hp)(vs:List V)(Q:VK)(E:XK),cN k (A.deeper (envOfC x (aZ st) s.heap.objs.size f aP))->sp outer s vs H Q E->∃t,Au (iK ij P w K mg ay N x (aZ st) f aP A outer s H E) (gU st) t/\t {nx:=λ_ H'=>Q .bB H',rt:=Q} (start N vs) H):AA P w K mg ay x (k+1) sp:=by obtain⟨f,fd,hm,F⟩:=F.ex;have uP:=F.binds hb;have kp:=F.kp;obtain⟨oc,od,kV,doc,pm,an,aP,ctt,fR,rfl,lk,gF⟩:=F.ex;exact⟨f,_,ps,a8d lk gF S len λA outer s H vs Q E hr jm=>iW f aP A outer s H vs Q E hr jm,hm,kp,uP⟩
end
theorem a4t{P:ah}{w:World}{K:Frag}{mg mb:bJ}{k:Nat}{fa a T:Addr}{fd:FuncData}{x:Str}{sp:Sp}{s₁:ae}{vs:List Value}{ns:List Int}{cd:Value} (KX:K.In s₁.heap)(xl:s₁.heap.Ns mainGlobals mg)(uP:s₁.heap.Ns builtinsNs mb)(hbb:∀x:Str,x≠"__name__"->mb x=bootBuiltins x)(a60:s₁.heap.NoLimit)(hg:s₁.gens=#[])(hbm:∃bm ob,mg (Str.ofString "__builtins__")=some (.ref bm)/\bm≠builtinsNs/\s₁.heap.get? bm=some ob/\ob.cls= .type "module"/\ob.dict=some builtinsNs/\ob.data= .plain) (hT:s₁.heap.get? T=some (tabObj #[]))(kT:K.lookup T=none)(cT:mx K cd T=true)(ha:s₁.heap.get? a=some {cls:=.type "list",data:=.seq vs.toArray})(hi:IntsAre vs ns)(hl:ns.length<=sizeLine)(hr:cN k callerA) (F:∀ay:Heap,K.In ay->ay.BuiltinsAt mg T->gY P w K mg ay ij k fa fd [x] sp)(a6E:∀(s:ae)(u:Value),BindsTo s fd ⟨[u],[]⟩ [(x,u)]) (jm:∀H:Hp,H T=some (.eZ #[])->aH K H a (ns.map V.int)->sp [.ref a] H (λv _=>v= .bl true) λ_ _ _=>False): codeAny (model P w) callerA (.call (.ref fa) ⟨[.ref a],[]⟩) (λr s'=>r= .ok (.ret (.bool true))/\OldK s₁.heap s'.heap/\s'.os=s₁.os/\AllBare s'.gens) s₁:=by
 have rv:=Mi hi;have a4n:=hi.length;have aT:a≠T:=λz=>by rw[z,hT]at ha;cases ha
 have core:∀H:Hp,H T=some (.eZ #[])->aH K H a (ns.map V.int)->dN P w H s₁.heap->(∀b,H b≠none->b=a\/b=T)->(H a=none\/∃ob xs,H a=some (.nc ob (.lst xs)))->(H a≠none->K.lookup a=none)->codeAny (model P w) callerA (.call (.ref fa) ⟨[.ref a],[]⟩) (λr s'=>r= .ok (.ret (.bool true))/\OldK s₁.heap s'.heap/\s'.os=s₁.os/\AllBare s'.gens) s₁:=by
  intro H CQ hS aY hA hF hK;have KL:∀{b:Addr}{o:Obj},s₁.heap.get? b=some o->H b=none->(oh s₁.heap H).get? b=some o:=λe n=>a6j e n;have QI:∀{b:Addr}{o:Obj},s₁.heap.get? b=some o->(∀its n,o.data≠ .seq its n)->(∀its,o.data≠ .fields its)->H b=none:=λ{b o} e d1 d2=>by cases q:H b with |none=>rfl |some u=>
   rcases hA b (by rw[q];simp)with z|z
   ·subst z;rw[ha]at e;cases e;exact(d1 _ _ rfl).elim
   ·subst z;rw[hT]at e;cases e;exact(d2 _ rfl).elim
  have Il:∀{b:Addr}{m:bJ},s₁.heap.Ns b m->(oh s₁.heap H).Ns b m:=λ{b m} ⟨o,es,ep,e,d,r⟩=>⟨o,es,ep,KL e (QI e (λ_ _ z=>by rw[d]at z;cases z) λ_ z=>by rw[d]at z;cases z),d,r⟩;have SW:K.In (oh s₁.heap H):=λb o e=>KL (KX b o e) (by cases q:H b with |none=>rfl |some u=>
   rcases hA b (by rw[q];simp)with z|z
   ·subst z;rw[hK (by rw[q];simp)]at e;cases e
   ·subst z;rw[kT]at e;cases e);have hM:Mod K mg (oh s₁.heap H):=⟨SW,Il xl,⟨mb,Il uP,hbb⟩,let⟨mc,h1,h2⟩:=a60;⟨mc,Il h1,h2⟩⟩;have e0:oT P w K mg (oh s₁.heap H) callerA [] s₁ H:=⟨Z,hM,λb o e=>a33 e,Nat.le_of_eq (a6i _ _),trivial,λb hb=>absurd (show b∈([]:List Addr)from hb) (by simp),aY,.of_eq hg⟩;have uT:(oh s₁.heap H).BuiltinsAt mg T:=by
   obtain⟨bm,ob,b1,b2,b3,b4,b5,b6⟩:=hbm;refine⟨bm,ob,b1,b2,λz=>?_,λz=>?_,KL b3 (QI b3 (λ_ _ z=>by rw[b6]at z;cases z) λ_ z=>by rw[b6]at z;cases z),b4,b5,b6⟩
   ·obtain⟨o,es,ep,e,d,_⟩:=xl
    rw[z,e]at b3;cases b3;rw[b6]at d;cases d
   ·rw[z,hT]at b3;cases b3;cases b4
  refine yc ((F _ SW uT).run callerA [] s₁ H ⟨[.ref a],[]⟩ [.ref a] [.ref a] _ _ hr e0 (a6E s₁ (.ref a)) (.cons Z .nil) (jm H CQ hS)) λr s' h=>?_;cases r with |error e=>exact False.elim h |ok fl=>cases fl with |next=>exact False.elim h |brk=>exact False.elim h |cont=>exact False.elim h |ret u=>
   obtain⟨v,H',os,bare,un,Sn,r',q⟩:=h;have q':v= .bl true:=q;subst q';obtain rfl:u=Value.bool true:=r';refine⟨Z,⟨λb o e=>?_,λb o e=>un.there b o e (by simp)⟩,os,bare⟩;by_cases xx:b=T
   ·subst xx
    rw[hT]at e;cases e;obtain⟨more,e2⟩:=un.jx b _ CQ;have e3:s'.heap.get? b=some {cls:=.none,data:=.fields (#[]++more)}:=Sn b _ e2;obtain⟨c,rfl,o,X2,file,tf,flags,tg,inF,text,tt,c1,c2,c3,c4,_⟩:=US cT KX;exact .inr (.inl ⟨⟨c,o,X2,c1,c2,c3,c4⟩,Z,#[],more,Z,e3⟩)
   ·refine .inl ?_
    cases q:H b with |none=>exact un.keep b o e q (by intro z;exact absurd (show b∈([]:List Addr)from z) (by simp)) (by simp) |some u=>
     rcases hA b (by rw[q];simp)with z|z
     ·subst z
      rcases hF with z|⟨ob,xs,z⟩
      ·rw[q]at z;cases z
      ·have z2:=un.jG b ob _ z
       obtain⟨e1,_⟩:=aY b _ z;obtain⟨e2,_⟩:=Sn b _ z2;rw[e]at e1;cases e1;exact e2
     ·exact(xx z).elim
 cases hk:K.lookup a with |some o=>
  have e:=KX a o hk;rw[ha]at e;cases e;refine core (λb=>if b=T then some (.eZ #[])else none) (bh Z) (.inr ⟨_,vs.toArray,_,hk,Z,Z,Z,by rw[eg,a4n];exact hl,by simpa using rv⟩) (λb u z=>?_) (λb z=>?_) (.inl (bf aT)) λz=>absurd (bf aT) z
  ·by_cases hb:b=T
   ·have z':=(bh hb).symm.trans z
    cases z';subst hb;exact hT
   ·have z':=(bf hb).symm.trans z
    cases z'
  ·by_cases hb:b=T
   ·exact .inr hb
   ·exact absurd (bf hb) z |none=>
  refine core (λb=>if b=T then some (.eZ #[])else if b=a then some (.nc {cls:=.type "list",data:=.seq vs.toArray} (.lst (ns.map V.int)))else none) (bh Z) (.inl (.inr ⟨{cls:=.type "list",data:=.seq vs.toArray},(bf aT).trans (bh Z)⟩)) (λb u z=>?_) (λb z=>?_) (.inr ⟨_,_,(bf aT).trans (bh Z)⟩) λ_=>hk
  ·by_cases hb:b=T
   ·have z':=(bh hb).symm.trans z
    cases z';subst hb;exact hT
   ·have z':=(bf hb).symm.trans z
    by_cases mV:b=a
    ·have z2:=(bh mV).symm.trans z'
     cases z2;subst mV;exact⟨ha,by rw[cx];exact hl,vs,_,rv,ha⟩
    ·have z2:=(bf mV).symm.trans z'
     cases z2
  ·by_cases hb:b=T
   ·exact .inr hb
   ·by_cases mV:b=a
    ·exact .inl mV
    ·exact absurd ((bf hb).trans (bf mV)) z
end L2
namespace L2
open PySem PySem.Spec PyProof.Rows
section
variable {P:ah}{w:World}{K:aa}{mg:bJ}{ay:Heap}{N:List Str}{qual:Str}{scope:Scope}{f:Addr}{cd:Value}{A:aj}{outer:List Env}{s:ae}{H:Hp}{E:XK}{aw:List (Addr×Obj)}{O:St}{H1:Hp}{s1:ae}{ex:Addr}{C:Addr}{dx:Addr}{φ:Heap->Prop}{cls:Value}{dxo:Option Addr}{h2:Heap}{vs:List Value}
theorem Mc(I:Inv (iK (jv P w) P w K mg ay N qual scope f cd A outer s H E) aw O H1 s1)(hx:Heap.MadeExcOf s1.heap h2 ex cls vs)(q:E cls none H1):(iK (jv P w) P w K mg ay N qual scope f cd A outer s H E).xe (.ref ex) {s1 with heap:=h2}:=by
 obtain⟨t,e1,_⟩:=hx.there;have hf:H1 ex=none:=by cases e:H1 ex with |none=>rfl |some o=>obtain⟨ob,e2⟩:=(I.aY ex o e).there;rw[hx.new]at e2;cases e2
 have nw:s.heap.get? ex=none:=by cases e:s.heap.get? ex with |none=>rfl |some o=>obtain⟨ob,e2⟩:=I.ay.there ex o e (cE);rw[hx.new]at e2;cases e2
 have I2:=I.kept (t':=s1.toks) hx.keeps;have gD:h2.FunFrames ay (envOfC qual scope s.heap.objs.size f cd::outer):=I2.stack;have xo:∀env∈(envOfC qual scope s.heap.objs.size f cd::outer),∀b,env.frame=some b->b∈ex::cX (envOfC qual scope s.heap.objs.size f cd::outer):=λenv he b hb=>.tail _ (kD.mpr ⟨env,he,hb⟩);have hB:(PySem.W.hideAll h2 (ex::cX (envOfC qual scope s.heap.objs.size f cd::outer))).StaysIn h2:=λb o e=>Wh _ e;have mQ:∀b o,s.heap.get? b=some o->b∉cX outer->b∉ex::cX (envOfC qual scope s.heap.objs.size f cd::outer):=λb o e hb hm=>by
  rcases bL.mp hm with rfl|hm
  ·rw[nw]at e;cases e
  obtain⟨env,he,hf⟩:=kD.mp hm;rcases bL.mp he with rfl|he
  ·have e1:s.heap.objs.size=b:=dQ hf
   have h1:=cC e;rw[<-e1]at h1;exact absurd h1 (oV _)
  ·exact hb (kD.mpr ⟨env,he,hf⟩)
 have F0:Fl P w outer H s.heap ex H1 (PySem.W.hideAll h2 (ex::cX (envOfC qual scope s.heap.objs.size f cd::outer))) h2:=by
  refine⟨I2.ay,I2.aY,λb o e n hb=>ye _ (I2.ay.keep b o e n hb (cE)) (mQ b o e hb),λb o e=>?_,λb o e hb=>?_,λb hb=>?_,nw,hf⟩
  ·obtain⟨mL,e1⟩:=(I2.aY b o e).there
   refine⟨mL,ye _ e1 λhm=>?_⟩;rcases bL.mp hm with z|hm
   ·rw[z,hf]at e;cases e
   ·rw[I2.vU b hm]at e
    cases e
  ·obtain⟨mL,e1⟩:=I2.ay.there b o e (cE)
   exact⟨mL,ye _ e1 (mQ b o e hb)⟩
  ·obtain⟨env,he,hf⟩:=kD.mp hb
   exact I2.vU b (kD.mpr ⟨env,.tail _ he,hf⟩)
 show wpAny (model P w) (A.deeper (envOfC qual scope s.heap.objs.size f cd)) (leaving (envOfC qual scope s.heap.objs.size f cd) (.ref ex)) _ _ _;refine RJ (L:=s.heap.objs.size) I.ok.frames (PySem.W.funFrames_hide gD xo) Z e1 hB (Wj _ (.head _)) Z Z λh' x1 x2=>?_;exact⟨ex,cls,none,H1,_,Z,I.os,I.bare,x1,F0.step hB x1.1 x2 gD.2.2,q⟩
end
def IX(N:List Str)(sc:Scope):Bool:=decide (sc.kind= .function)&& !sc.isCoroutine&& !sc.isGenerator&&sc.names.all (λy=>decide (y.2≠ .cell)&&(decide (y.2≠ .free)||N.contains y.1))&&N.all λx=>decide (sc.names.lookup x=some .free)
theorem RO(h:IX N sc=true):vo N sc/\∀y∈sc.names,y.2= .free->y.1∈N:=by unfold IX at h;simp only[fq,AI,M6,je,Bool.or_eq_true,List.contains_iff_mem]at h;obtain⟨⟨⟨⟨h1,h2⟩,h3⟩,h4⟩,h5⟩:=h;have m:∀y∈sc.names,y.2= .free->y.1∈N:=λy hy e=>(h4 y hy).2.elim (λz=>(z e).elim) id;exact⟨⟨h1,h2,h3,λy hy=>(h4 y hy).1,h5,λx hx=>m _ (vx hx) Z⟩,m⟩
section
variable {X:Cx} {sc:Scope}
theorem a4w(x0 x1:Str)(j0 j1:Nat)(h:IX [x0,x1] sc=true)(k0:X.env.kindOf x0=some .cell)(k1:X.env.kindOf x1=some .cell)(n0:X.N[j0]? =some x0)(n1:X.N[j1]? =some x1):VY X [x0,x1] [j0,j1] sc:=by
 obtain⟨S,m⟩:=RO h;refine⟨S,λy hy e=>?_,λi y e=>?_⟩
 ·rcases bL.mp (m y hy e)with z|z
  ·rw[z];exact k0
  ·rw[cH.mp z];exact k1
 ·match i,e with |0,e=>cases e;exact⟨_,rfl,n0⟩ |1,e=>cases e;exact⟨_,rfl,n1⟩
end
end L2
namespace L2
open PySem PySem.Spec PyProof.Rows PySem.W
section
variable {P:ah}{w:World}{K:Frag}{mg:bJ}{ay:Heap}
theorem j4.BU{st:Stmt}{k:Nat}(F:j4 K x qual st f fd)(me:mx K fd.code T=true)(S:bG N ps (aZ st))(len:∀vs H Q E,sp vs H Q E->vs.length=ps.length) (iW:∀(aP:Value)(A:aj)(outer:List Env)(s:ae)(H:Hp)(vs:List V)(Q:VK)(E:XK),mx K aP T=true->cN k (A.deeper (envOfC qual (aZ st) s.heap.objs.size f aP))->sp vs H Q E->∃t,ie (iK ij P w K mg ay N qual (aZ st) f aP A outer s H E).pO (gU st) t/\t {nx:=λ_ H'=>Q .bB H',rt:=Q} (start N vs) H):gY P w K mg ay ij (k+1) f fd ps sp:=by obtain⟨oc,od,kV,doc,pm,an,aP,ct,fR,rfl,lk,gF⟩:=F.ex;refine JS lk gF S len λA outer s H vs Q E hr jm=>?_;obtain⟨t,h,q⟩:=iW aP A outer s H vs Q E me hr jm;exact⟨t,h.pO,q⟩
end
theorem a4s{l:OpenLaw}{q:ah}{loose:List Str}{XP:(bJ)->Heap->Prop}{YP:World->Heap->Prop}{d:DefRec}{K:Params->Frag}{k:Nat}{x:Str}{st:Stmt}{T:Addr}(hn:l.most=some 63)(uO:d.params.defaults=[]) (hr:cN k callerA)(hY:∀(w:World)(h:Heap),YP w h->(K w.params).In h/\h.get? T=some (tabObj #[]))(All:Frag->(bJ)->Prop) (F:∀(w:World)(mg:bJ)(h:Heap),(K w.params).In h->h.Ns mainGlobals mg->All (K w.params) mg)(kT:∀w:World,(K w.params).lookup T=none) (L:∀(K:Frag)(mg:bJ),All K mg->Lx K mg d.name st T) (hb:∀(kV doc pm:Value)(an:Option Addr)(aP ct u:Value),bindArgs (fnOf d.name d.name (kO st) (gU st) (aZ st) .none kV doc pm an aP ct) ⟨[u],[]⟩=pure [(x,u)]) (ok:∀(P:ah)(w:World)(K:Frag)(mg:bJ)(ay:Heap)(f:Addr)(fd:FuncData),All K mg->ay.BuiltinsAt mg T->j4 K d.name d.name st f fd->mx K fd.code T=true->gY P w K mg ay ij k f fd [x] (λvs H Q _=>∃(a:Addr)(ns:List Int),vs=[.ref a]/\aH K H a (ns.map V.int)/\ns.length<=63/\H T=some (.eZ #[])/\∀H',Q (.bl true) H')): WalkO q loose XP YP l.row.toRowW d [] (λf vs=>PySem.call f vs):=by
 refine Att.abi hn uO λw s₀ s₁ mg mb fa o pm cd doc a vs ns G Y ho hd gF Jp Ji hints hlen hg=>?_;obtain⟨KX,hT⟩:=hY w _ Y;have A:=F w mg _ KX G.T.g;obtain⟨f,fd,hm,Fn,me⟩:=(L _ _ A).ex;have e:fa=f:=by rw[Jp]at hm;injection (dQ hm)
 subst e;refine a4t KX G.T.g G.T.b G.T.builtins G.T.nolimit hg G.T.bmain hT (kT w) me Ji hints (gM hlen aA) hr (λay _ hB=>ok l.prog w _ mg ay fa fd A hB Fn me) (λs u=>?_) λH CQ hS=>⟨a,ns,Z,hS,hlen,CQ,λ_=>rfl⟩;obtain⟨oc,od,kV,aa3,pm',an,aP,ct,fR,rfl,lk,afd⟩:=Fn.ex;exact .of_eq (hb kV aa3 pm' an aP ct u)
end L2
namespace Lw
open PySem PySem.Spec PyProof.Rows L2 Ln Rt Cn Pn Wk Rn
open Ow (topR cornO mnO betR atO ownF leadF ownL OkI OkIs)
open Ow (Itm)
def top(i:Nat):Stmt:=PySem.Challenge.pw_glidequeue_k37_fed.main.body.getD i (.Pass ⟨0,0,0,0⟩)
abbrev Ft:Stmt:=top 71
abbrev GS:Stmt:=top 70
abbrev GO:Stmt:=top 26
abbrev GA:Stmt:=top 15
abbrev Gu:Stmt:=top 81
abbrev Gs:Stmt:=top 28
abbrev Gv:Stmt:=top 25
abbrev Gj:Stmt:=top 21
abbrev Fp:Stmt:=top 22
abbrev Gq:Stmt:=top 23
abbrev Gr:Stmt:=top 24
abbrev GH:Stmt:=top 19
abbrev Gm:Stmt:=top 77
abbrev GG:Stmt:=top 73
abbrev Gw:Stmt:=top 72
abbrev Gz:Stmt:=top 50
def jH:Str:="abcdefghijklmnopqrstuvwxyz"
abbrev Gg:Stmt:=top 80
abbrev Fh:Stmt:=top 29
abbrev Fi:Stmt:=top 16
abbrev Fj:Stmt:=top 39
abbrev GN:Stmt:=top 36
abbrev Gy:Stmt:=top 38
abbrev Fo:Stmt:=top 37
abbrev Fm:Stmt:=top 83
abbrev GQ:Stmt:=top 58
abbrev Bz:Stmt:=top 57
abbrev Gf:Stmt:=top 20
abbrev GJ:Stmt:=top 59
abbrev Fu:Stmt:=top 74
abbrev Gp:Stmt:=top 75
abbrev Gk:Stmt:=top 76
abbrev Ge:Stmt:=top 78
abbrev Gn:Stmt:=top 79
abbrev Gh:Stmt:=top 32
abbrev Fw:Stmt:=top 30
abbrev FG:Stmt:=top 31
abbrev GL:Stmt:=top 62
abbrev Fs:Stmt:=top 61
abbrev GK:Stmt:=top 63
abbrev FJ:Stmt:=top 68
abbrev GD:Stmt:=top 55
abbrev GB:Stmt:=top 54
abbrev GU:Stmt:=top 53
abbrev GF:Stmt:=top 49
abbrev GC:Stmt:=top 41
abbrev Gi:Stmt:=top 52
abbrev GR:Stmt:=top 51
structure gX(K:aa)(C:Addr):Prop where
 cl:ky K C
 rB:jt K C "machine"
 wR:jt K C "begun_at"
 pP:jt K C "done"
 jX:jt K C "queue"
 uv:jt K C "pace"
 C1:jt K C "rate_now"
 Iw:jt K C "side"
 Iy:jt K C "mark"
 C0:jt K C "stopping"
abbrev FO:Stmt:=inClass (top 67) 3
abbrev FT:Stmt:=inClass (top 67) 4
abbrev FL:Stmt:=inClass (top 67) 5
abbrev FW:Stmt:=inClass (top 67) 6
abbrev FK:Stmt:=inClass (top 67) 7
abbrev G0:Stmt:=inClass (top 67) 8
abbrev FR:Stmt:=inClass (top 67) 9
abbrev FZ:Stmt:=inClass (top 67) 10
abbrev FU:Stmt:=inClass (top 67) 1
abbrev FX:Stmt:=inClass (top 67) 2
abbrev FY:Stmt:=inClass (top 67) 0
abbrev G2:Stmt:=inClass (top 67) 11
abbrev Gb:Stmt:=inClass (top 67) 16
abbrev FV:Stmt:=inClass (top 67) 15
abbrev FQ:Stmt:=inClass (top 67) 14
abbrev G3:Stmt:=inClass (top 67) 13
abbrev Ga:Stmt:=inClass (top 67) 12
abbrev FP:Stmt:=inClass (top 67) 17
abbrev GP:Stmt:=top 84
abbrev Fq:Stmt:=top 85
abbrev Fv:Stmt:=top 82
abbrev Fz:Stmt:=top 93
abbrev Fx:Stmt:=top 88
abbrev FE:Stmt:=top 89
abbrev FD:Stmt:=top 90
abbrev FC:Stmt:=top 91
abbrev FF:Stmt:=top 92
abbrev BB:Stmt:=top 86
abbrev Fy:Stmt:=top 94
def aaE(s:Stmt):List Stmt:=match s with | .ClassDef _ _ _ b _ _ _ _ _ _ _=>b |_=>[]
abbrev Ff:Stmt:=(aaE (top 6)).getD 0 (.Pass ⟨0,0,0,0⟩)
structure VX(K:aa)(mg:bJ)(C fI:Addr):Prop where
 e:vq K mg "OffRails" C fI mz mO
 i:PySem.W.findIn K (.ref C) "__init__"=some (some (.ref fI))
 x:Lg K C "at"
 f:fnAt K fI=true
 fn:∃fd,j4 K "__init__" "OffRails.__init__" Ff fI fd
structure kP where
 n:Addr
 o:Addr
 f:Addr
 m:Addr
 r:Addr
 i:Addr
structure VN(K:aa)(mg:bJ)(R:kP):Prop where
 n:Exc K mg "NoItem" R.n mz mO
 o:VX K mg R.o R.i
 f:Exc K mg "Full" R.f mz mO
 m:Exc K mg "Moving" R.m mz mO
 r:Exc K mg "NoRate" R.r mz mO
structure KC(K:aa)(R:kP)(cG:Addr)(cs:List Addr)(C:Addr)(b0 b1 b2 b3 b4:Bool):Prop where
 tk:takes K C cG
 k:mC K C
 i0:PySem.W.kitOne K (.ref C) (.ref R.n)=some b0
 i1:PySem.W.kitOne K (.ref C) (.ref R.o)=some b1
 i2:PySem.W.kitOne K (.ref C) (.ref R.f)=some b2
 i3:PySem.W.kitOne K (.ref C) (.ref R.m)=some b3
 i4:PySem.W.kitOne K (.ref C) (.ref R.r)=some b4
 any:PySem.W.kitAny K (.ref C) (cs.map Value.ref)=some false
 ve:PySem.W.kitOne K (.ref C) (.type "ValueError")=some true
structure DH(K:aa)(mg:bJ)(R:kP)(cG c0 c1 c2 c3 c4 c5:Addr):Prop where
 x:VN K mg R
 g:Exc K mg "GlideError" cG mz mO
 h0:GV mg "NoFraction" (.ref c0)
 h1:GV mg "NoLine" (.ref c1)
 h2:GV mg "NoMachine" (.ref c2)
 h3:GV mg "NoPlace" (.ref c3)
 h4:GV mg "NoTape" (.ref c4)
 h5:GV mg "NoText" (.ref c5)
 v:mg "ValueError"=none
 fat:PySem.W.findIn K (.ref R.o) "at"=some none
 n:KC K R cG [c0,c1,c2,c3,c4,c5] R.n true false false false false
 o:KC K R cG [c0,c1,c2,c3,c4,c5] R.o false true false false false
 f:KC K R cG [c0,c1,c2,c3,c4,c5] R.f false false true false false
 m:KC K R cG [c0,c1,c2,c3,c4,c5] R.m false false false true false
 r:KC K R cG [c0,c1,c2,c3,c4,c5] R.r false false false false true
abbrev FH:Stmt:=top 95
abbrev Fg:Stmt:=top 87
abbrev GI:Stmt:=top 96
def EX(K:aa)(T:Addr):Sp:=λvs H Q _=>∃(a:Addr)(ns:List Int),vs=[.ref a]/\aH K H a (ns.map V.int)/\ns.length<=63/\H T=some (.eZ #[])/\∀H',Q (.bl true) H'
abbrev wk:Stmt:=top 97
structure VO(K:aa)(mg:bJ)(C:Addr):Prop where
 tc:gX K C
 init:CA K mg C "Runner" "Runner.__init__" FY
 a3X:MA K C "place" "Runner.place" FU
 a3Z:MA K C "leads_to" "Runner.leads_to" FX
 a3V:MA K C "square" "Runner.square" FO
 a3W:MA K C "rate" "Runner.rate" FT
 a3R:MA K C "tool" "Runner.tool" FL
 a40:MA K C "last_mark" "Runner.last_mark" FW
 a3Q:MA K C "waiting" "Runner.waiting" FK
 a41:MA K C "is_held" "Runner.is_held" G0
 a3U:MA K C "stands" "Runner.stands" FR
 a42:MA K C "is_halted" "Runner.is_halted" FZ
 a43:MA K C "feed" "Runner.feed" G2
 a45:MA K C "entries" "Runner.entries" Ga
 a44:MA K C "entries_of_first" "Runner.entries_of_first" G3
 a3T:MA K C "steps_of_first" "Runner.steps_of_first" FQ
 a3Y:MA K C "next_square" "Runner.next_square" FV
 a46:MA K C "end_first" "Runner.end_first" Gb
 a3S:MA K C "stops_in" "Runner.stops_in" FP
structure All(T:Addr)(K:aa)(mg:bJ):Prop where
 B:bV mg
 zY:GT K mg "NOUGHT" [.int 0,.int 1]
 a7X:GT K mg "SIDES" [.str "up",.str "down"]
 a83:GV mg "LEAST_RATE" (.int 10)
 a85:GV mg "GREATEST_RATE" (.int 200)
 a86:GV mg "FIRST_RATE" (.int 100)
 a7Y:GV mg "MOST_WAITING" (.int 20)
 a7Z:GV mg "MOST_STEPS" (.int 100)
 a84:GV mg "GREATEST_SPEED" (.int 20)
 a80:GV mg "LONGEST_WAIT" (.int 1000)
 a81:GV mg "LONGEST_NAME" (.int 8)
 a82:GV mg "LETTERS" (.str jH)
 a8M:FA K mg "is_whole" GA
 a8L:FA K mg "is_whole_within" Fi
 a8V:FA K mg "fraction" GH
 a8B:FA K mg "plus_whole" Gf
 a8G:FA K mg "minus" Gj
 a8v:FA K mg "times" Fp
 a8S:FA K mg "is_less" Gq
 a8I:FA K mg "least" Gr
 a8H:FA K mg "lowest_terms" Gv
 a8X:FA K mg "common_divisor" GO
 a8J:FA K mg "lead_of" Gs
 a8t:FA K mg "ways_of" Fh
 a8z:FA K mg "stand_at" Fw
 a8x:FA K mg "step_rows" FG
 a8E:FA K mg "nearest" Gh
 a8W:FA K mg "corner_square" GN
 a8u:FA K mg "top_square" Fo
 a8O:FA K mg "is_rate" Gy
 a8U:FA K mg "greatest_turn" Fj
 a8P:FA K mg "is_place" GC
 a8T:FA K mg "is_item" GF
 a8R:FA K mg "is_line" Gz
 a8D:FA K mg "place_behind" GR
 a8F:FA K mg "moved" Gi
 a8Z:FA K mg "are_steps" GU
 a8N:FA K mg "is_short_item" GB
 a8Q:FA K mg "is_name" GD
 TJ:FA K mg "own_bounds" Bz
 a8Y:FA K mg "bound_between" GQ
 a8K:FA K mg "kept_by_fall" GJ
 a8w:FA K mg "ticks_of" Fs
 a90:FA K mg "are_enough" GL
 a8y:FA K mg "step_entry" GK
 a8A:FA K mg "reach_behind_first" FJ
 a9q:FA K mg "_law_bag" GS
 a94:FA K mg "_law_take" Ft
 a9h:FA K mg "_law_number" Gw
 a9n:FA K mg "_law_frac" GG
 a95:FA K mg "_law_sum" Fu
 a9l:FA K mg "_law_less" Gp
 a9i:FA K mg "_law_min" Gk
 a9j:FA K mg "_law_machine" Gm
 a9f:FA K mg "_law_place" Ge
 a9k:FA K mg "_law_line" Gn
 a9g:FA K mg "_law_other" Gg
 a9m:FA K mg "_law_lead" Gu
 a96:FA K mg "_law_stand" Fv
 a92:FA K mg "_law_top" Fm
 a9p:FA K mg "_law_bounds" GP
 a93:FA K mg "_law_ticks" Fq
 A3:FA K mg "_law_alike" BB
 a91:FA K mg "_law_wrong_item" Fg
 a9b:FA K mg "_law_sim" Fx
 a99:FA K mg "_law_sim_feed" FE
 a9e:FA K mg "_law_reach" FD
 a98:FA K mg "_law_sim_step" FC
 a9a:FA K mg "_law_sim_entries" FF
 a97:FA K mg "_law_sim_stops" Fz
 a9c:FA K mg "_law_seen" Fy
 a9d:FA K mg "_law_refused" FH
 a9o:FA K mg "_law_feeding" GI
 law:Lx K mg "law" wk T
 rc:∃C,VO K mg C
 rf:∃R cG c0 c1 c2 c3 c4 c5,DH K mg R cG c0 c1 c2 c3 c4 c5
def Am(K:aa)(P:ah):Prop:=∀(T:Addr)(w:World)(mg:bJ)(ay:Heap)(f:Addr)(fd:FuncData),All T K mg->ay.BuiltinsAt mg T->j4 K "law" "law" wk f fd->mx K fd.code T=true->gY P w K mg ay ij 14 f fd ["_law_script"] (EX K T)
@[irreducible] noncomputable def KP:aa×ah:=Classical.epsilon λx=>¬Am x.1 x.2
@[irreducible] noncomputable def K:aa:=KP.1
@[irreducible] noncomputable def P:ah:=KP.2
theorem Xz(h:Am K P)(K':aa)(P':ah):Am K' P':=Classical.byContradiction λn=>by have e:=Classical.epsilon_spec (p:=λx:aa×ah=>¬Am x.1 x.2) ⟨(K',P'),n⟩;unfold K P KP at h;exact e h
end Lw
namespace Lw
open PySem PySem.Spec PyProof.Rows L2
section
variable {w:World} {mg:bJ} {ay:Heap}
inductive aci(vs:List V)(H:Hp)(Q:VK):Prop |mk (p:_)(many:_)(h0:vs=[.ref p,.int many])(h1:eK H p)(h2:1<=many)(h3:many<=10^40)(h4:∀d H',0<=d->d<many->bO p H H'->Q (.int d) H')
def pA:Sp:=λvs H Q _=>aci vs H Q
theorem NX:bG ["_law_bag_here","_law_many","_law_digit","_law_number_here","_law_room"] ["_law_bag_here","_law_many"] (aZ Ft):=bQ aW
theorem a1P(F:FA K mg "_law_take" Ft)(B:bV mg):aI P w K mg ay "_law_take" 1 pA:=by
 refine F.has NX (λvs H Q E h=>?_) (λ_ _ _ _ _ _=>dJ λ_ _=>rfl) (λf aP A outer s H vs Q E hr h=>?_)
 ·obtain⟨p,many,rfl,_⟩:=h
  rfl
 ·obtain⟨p,many,rfl,⟨c,m,hp,ok⟩,h1,h2,k⟩:=h
  obtain⟨c0,m0,m1⟩:=id ok;have nd:=NX.nd;refine⟨_,(aE (bR (cu uh (px K (pv 0) aD) aD (bI _)) (aE (pS 2 nd (aG pK (px K (pv 0) aD) (pv 1))) (aE (fZ (aG mI (px K (pv 0) aD) (pv 1)) (ug (pv 0) aD set_list)) (aL (aX (pv 2))))) bU) (aE (pS 3 nd aD) (aE (pS 4 nd aD) (aE (nS ip (cu kJ (pv 4) (pv 1) (bI _)) (aE (fZ (aG pK (aG wD (aG dc (aG bM (px K (pv 0) aD) aD) aD) aD) aD) (ug (pv 0) aD set_list)) (aE (pS 3 nd (aG dc (aG bM (pv 3) aD) (aG pK (aG bM (aG mI (px K (pv 0) aD) aD) aD) aD))) (aL (pS 4 nd (aG bM (pv 4) aD)))))) (aL (aX (aG pK (pv 3) (pv 1)))))))),?_⟩;refine⟨_,Z,.inl ⟨p,_,0,.int c,Z,Z,aH.of hp,Z,_,_,Z,Z,_,Z,?_⟩⟩;refine eQ (λhc=>?_) (λ_=>?_)
  ·refine⟨_,Z,.inl ⟨p,_,0,.int c,Z,Z,aH.of hp,Z,_,Z,_,_,Z,Z,h1,?_⟩⟩
   refine⟨_,Z,.inl ⟨p,_,0,.int c,Z,Z,aH.of hp,Z,_,Z,_,_,Z,Z,⟨h1,Mf au h2⟩,?_⟩⟩;refine⟨_,Z,p,_,0,0,Z,Z,hp,Z,?_⟩;refine⟨_,Z,?_⟩;exact k _ _ (qI _ au) (vM _ au) (bO.upd ⟨Int.ediv_nonneg c0 au,m0,m1⟩)
  ·refine nH (λO H2=>∃(v:Option V)(n r:Int),O=[some (.ref p),some (.int many),v,some (.int n),some (.int r)]/\bO p H H2/\1<=r) (λO _=>match O with|[_,_,_,_,some (.int r)]=>(many-r).toNat|_=>0) ?_ ?_ ?_
   ·exact⟨none,0,1,Z,.refl ⟨c,m,hp,ok⟩,gO _⟩
   ·rintro O H2 ⟨v,n,r,rfl,bx,Cw⟩
    obtain⟨c',m',xk,c0',m0',m1'⟩:=id bx.bu;refine⟨_,Z,_,Z,_,_,Z,Z,_,Z,?_⟩;refine eQ (λhc=>?_) (λhc=>?_)
    ·have cJ:r<many:=jL hc
     refine⟨_,Z,.inl ⟨p,_,1,.int m',Z,Z,aH.of xk,Z,_,_,Z,Z,.of_right (cm aA aA),_,_,Z,Z,_,_,Z,Z,⟨aA,aA,?_⟩,_,_,Z,Z,(by show(0:Int)<2147483629;decide),?_⟩⟩
     ·have lM:(2:Nat)^64=18446744073709551616:=by decide
      rw[lM];lia
     refine⟨_,Z,p,_,1,1,Z,Z,xk,Z,?_⟩;have g0:0<=((m'*48271+7919)^(5:Int).toNat)%2147483629:=qI _ aA;have g1:((m'*48271+7919)^(5:Int).toNat)%2147483629<2147483629:=vM _ aA;have bx2:bO p H (L2.upd H2 p (.lst [.int c',.int (((m'*48271+7919)^(5:Int).toNat)%2147483629)])):=bx.trans (.upd ⟨c0',g0,Int.lt_trans g1 aA⟩);refine⟨_,Z,_,_,Z,Z,.of_right (cm aA aA),_,Z,.inl ⟨p,_,1,.int _,Z,Z,aH.of bo,Z,_,_,Z,Z,⟨aA,Mf aA aA⟩,_,_,Z,Z,.of_right (cm aA aA),_,_,Z,Z,(by show(0:Int)<1073741789;decide),_,_,Z,Z,?_⟩⟩;refine⟨_,Z,_,_,Z,Z,.of_right (cm aA aA),?_⟩;refine⟨⟨v,_,_,Z,bx2,?_⟩,?_⟩
     ·lia
     ·show(many-r*1073741789).toNat<(many-r).toNat
      lia
    ·refine⟨_,Z,_,Z,_,_,Z,Z,h1,?_⟩
     exact k _ _ (qI _ au) (vM _ au) bx
   ·rintro O H2 Q1 Q2 hq ⟨v1,e1,v2,e2,i,j,e3,e4,kk,e5,q⟩
    exact⟨v1,e1,v2,e2,i,j,e3,e4,kk,e5,hq _ _ q⟩
inductive ad9(K:aa)(vs:List V)(H:Hp)(Q:VK):Prop |mk (a:Addr)(ns:List Int)(at':Int)(h0:vs=[.ref a,.int at'])(h1:aH K H a (ns.map V.int))(h2:ns.length<=63)(h3:0<=at')(h4:at'<=100)(h5:∀p H',H p=none->eK H' p->aF H H'->Q (.ref p) H')
def NC(K:aa):Sp:=λvs H Q _=>ad9 K vs H Q
theorem P1:bG ["_law_script","_law_at","_law_cell","_law_mix","_law_k"] ["_law_script","_law_at"] (aZ GS):=bQ aW
theorem S9{ns:List Int}{j:Nat}(h:j<ns.length):∃z,fP (ns.map V.int) (j:Int)=some (.int z):=⟨ns[j],abl (by simp[h])⟩
theorem a2X(F:FA K mg "_law_bag" GS)(B:bV mg):aI P w K mg ay "_law_bag" 1 (NC K):=by
 refine F.has P1 (λvs H Q E h=>?_) (λ_ _ _ _ _ _=>dJ λ_ _=>rfl) (λf aP A outer s H vs Q E hr h=>?_)
 ·obtain⟨a,ns,at',rfl,_⟩:=h
  rfl
 ·obtain⟨a,ns,at',rfl,hS,hlen,h0,h1,k⟩:=h
  obtain⟨j,rfl⟩:∃j:Nat,at'=(j:Int):=⟨at'.toNat,au⟩;have nd:=P1.nd;refine⟨_,(aE (pS 2 nd aD) (aE (hJ (bR (cu kJ (pv 1) (eL K B (ao (pv 0) az)) (bI _)) (aL (pS 2 nd (dM (x:="abs") oM Z (B.at "abs") qF (ao (px K (pv 0) (pv 1)) az)))) bU)) (aE (pS 3 nd (aG dc (aG dc (aG bM (aG bM aD (pv 1)) (pv 1)) (aG bM aD (pv 1))) aD)) (aE (m6 ip Z (yY Z (B.at "range") (ao (dM (x:="min") (Kz rfl) rfl (B.at "min") Wu (ao (eL K B (ao (pv 0) az)) (ao aD az))) az)) (bp 4 nd) (aL (pS 3 nd (aG pK (aG wD (aG dc (aG dc (aG bM (pv 3) aD) (aG pK (px K (pv 0) (pv 4)) aD)) (aG bM (pv 4) (pv 4))) aD) aD)))) (aE (hJ (bR (cu kJ (pv 2) (aG wD aD aD) (bI _)) (aL (pS 2 nd aD)) bU)) (aL (aX (cK (ao (pv 2) (ao (pv 3) az)))))))))),?_⟩;refine⟨λO H'=>H'=H/\∃c:Int,O=[some (.ref a),some (.int (j:Int)),some (.int c),none,none]/\0<=c,?_,?_⟩
  ·refine⟨_,Z,_,Z,a,_,Z,.inl hS,_,_,Z,Z,_,Z,?_⟩
   refine eQ (λhc=>?_) (λ_=>?_)
   ·have hj:(j:Int)<((ns.map V.int).length:Int):=jL hc
    rw[cx]at hj;obtain⟨z,hz⟩:=S9 (ns:=ns) (j:=j) au;refine⟨_,Z,_,Z,.inl ⟨a,_,_,_,Z,Z,hS,hz,z,Z,?_⟩⟩;exact⟨Z,_,Z,by split<;>lia⟩
   ·exact⟨Z,0,Z,gO _⟩
  rintro O H' ⟨rfl,c,rfl,c0⟩;refine⟨_,Z,_,_,Z,Z,.of_left (cm aA aA),_,Z,_,_,Z,Z,.of_right (cm au au),_,Z,_,_,Z,Z,.of_left (cm aA aA),_,_,Z,Z,_,_,Z,Z,?_⟩;refine⟨_,Z,a,_,Z,.inl hS,_,_,Z,_,Z,?_,?_,?_⟩
  ·split<;>lia
  ·split<;>(try rw[cx])<;>lia
  refine CY (Pv:=λi O H2=>H2=H'/\∃(m:Int)(v:Option V),O=[some (.ref a),some (.int (j:Int)),some (.int c),some (.int m),v]/\0<=m/\m<2147483648) ?_ ?_ ?_
  ·refine⟨Z,_,none,Z,?_,?_⟩
   ·have:(0:Int)<=(j:Int)*(j:Int):=jN au au
    rw[vL];lia
   ·have:(j:Int)*(j:Int)<=100*100:=Ee au au au au
    rw[vL];lia
  ·rintro i O H2 hi ⟨rfl,m,v,rfl,m0,m1⟩
   have Js:i<ns.length:=by rw[cx]at hi;split at hi<;>lia
   obtain⟨z,hz⟩:=S9 (ns:=ns) (j:=i) Js;rw[<-Int.zero_add (i:Int)]at hz;have hz0:0<=z%2147483647:=qI _ aA;have hz1:z%2147483647<2147483647:=vM _ aA;have a6g:(0:Int)<=(0+(i:Int))*(0+(i:Int)):=jN au au;have hii:(0+(i:Int))*(0+(i:Int))<=100*100:=Ee au au au au;refine⟨_,Z,_,_,Z,Z,.of_right (cm aA aA),_,Z,_,Z,.inl ⟨a,_,_,_,Z,Z,hS,hz,_,_,Z,Z,(by show(0:Int)<2147483647;decide),_,_,Z,Z,_,Z,_,Z,_,_,Z,Z,.of_right (cm au au),_,_,Z,Z,_,_,Z,Z,⟨aA,aA,?_⟩,_,_,Z,Z,(by show(0:Int)<2147483629;decide),?_⟩⟩
   ·have lM:(2:Nat)^64=18446744073709551616:=by decide
    rw[lM];generalize(0+(i:Int))*(0+(i:Int))=ii at a6g hii⊢;generalize z%2147483647=zz at hz0 hz1⊢
    lia
   ·exact⟨Z,_,_,Z,qI _ aA,Int.lt_trans (vM _ aA) aA⟩
  ·rintro O H2 ⟨rfl,m,v,rfl,m0,m1⟩
   refine⟨λO H3=>H3=H2/\∃c:Int,O=[some (.ref a),some (.int (j:Int)),some (.int c),some (.int m),v]/\0<=c,?_,?_⟩
   ·refine⟨_,Z,_,_,Z,Z,⟨aA,aA,aA⟩,_,_,Z,Z,_,Z,?_⟩
    refine eQ (λhc=>?_) (λ_=>?_)
    ·exact⟨Z,0,Z,gO _⟩
    ·exact⟨Z,c,Z,c0⟩
   rintro O H3 ⟨rfl,c,rfl,c0⟩;refine⟨_,Z,_,Z,(by show 2<=sizeLine;decide),λp H4 nw=>?_⟩;exact k p H4 nw.no ⟨c,m,nw.at',c0,m0,m1⟩ nw.same
inductive ad4(vs:List V)(H:Hp)(Q:VK):Prop |mk (a:Int)(b:Int)(h0:vs=[.int a,.int b])(h1:Q (.int (Int.gcd a b)) H)
def F3:Sp:=λvs H Q _=>ad4 vs H Q
inductive acQ(vs:List V)(H:Hp)(Q:VK):Prop |mk (a:Int)(b:Int)(h0:vs=[.int a,.int b])(h1:b≠0)(h2:Wd b)(h3:∀t H',Nw H H' t (.tup [.int (Ar.lowP a b),.int (Ar.gR a b)])->Q (.ref t) H')
def vZ:Sp:=λvs H Q _=>acQ vs H Q
def xg(T:String):Bool:=j8 T "int"&& !j8 T "bool"
inductive acW(K:aa)(vs:List V)(H:Hp)(Q:VK):Prop |mk (v:_)(T:_)(h0:vs=[v])(h1:vk K H v T)(h2:Q (.bl (xg T)) H)
def wc(K:aa):Sp:=λvs H Q _=>acW K vs H Q
theorem OX:bG ["p","q","high","low"] ["p","q"] (aZ GO):=bQ aW
theorem a2T(F:FA K mg "common_divisor" GO)(B:bV mg):aI P w K mg ay "common_divisor" 1 F3:=by
 refine F.has OX (λvs H Q E h=>?_) (λ_ _ _ _ _ _=>dJ λ_ _=>rfl) (λf aP A outer s H vs Q E hr h=>?_)
 ·obtain⟨a,b,rfl,_⟩:=h
  rfl
 ·obtain⟨a,b,rfl,k⟩:=h
  have nd:=OX.nd;refine⟨_,(aE (pG (i:=2) (j:=3) Z nd Z Z aA Z Z (ao (dM (x:="abs") oM Z (B.at "abs") qF (ao (pv 0) az)) (ao (dM (x:="abs") oM rfl (B.at "abs") qF (ao (pv 1) az)) az)) rfl) (aE (nS ip (cu (jB K Z hr.units) (pv 3) aD (bI _)) (aL (pG (i:=2) (j:=3) Z nd Z Z aA Z Z (ao (pv 3) (ao (aG pK (pv 2) (pv 3)) az)) Z))) (aL (aX (pv 2))))),?_⟩;refine⟨_,Z,_,Z,_,Z,_,Z,_,_,Z,?_⟩;refine nH (λO H2=>H2=H/\∃(x y:Int),O=[some (.int a),some (.int b),some (.int x),some (.int y)]/\0<=x/\0<=y/\Int.gcd x y=Int.gcd a b) (λO _=>match O with|[_,_,_,some (.int y)]=>y.natAbs|_=>0) ?_ ?_ ?_
  ·refine⟨Z,_,_,Z,by split<;>lia,by split<;>lia,?_⟩
   have h1:(if a<0 then-a else a).natAbs=a.natAbs:=by split<;>lia
   have h2:(if b<0 then-b else b).natAbs=b.natAbs:=by split<;>lia
   unfold Int.gcd;rw[h1,h2]
  ·rintro O H2 ⟨rfl,x,y,rfl,x0,y0,e⟩
   refine⟨_,Z,.inl ⟨_,_,Z,Z,_,Z,?_⟩⟩;refine eQ (λhc=>?_) (λhc=>?_)
   ·have hy:y≠0:=by simpa using hc
    have ka:0<y:=by lia
    refine⟨_,Z,_,Z,_,Z,_,_,Z,Z,ka,_,_,Z,?_⟩;refine⟨⟨Z,_,_,Z,y0,qI _ hy,(Ar.Ti ka).trans e⟩,?_⟩;show(x%y).natAbs<y.natAbs;have:=qI x hy;have:=vM x ka
    lia
   ·have hy:y=0:=by simpa using hc
    subst hy;refine⟨_,Z,?_⟩;rw[Int.gcd_zero_right]at e;have e2:x=((Int.gcd a b:Nat):Int):=by lia
    rw[e2];exact k
  ·rintro O H2 Q1 Q2 hq ⟨v1,e1,h⟩
   refine⟨v1,e1,?_⟩;rcases h with⟨i,j,e3,e4,kk,e5,q⟩|⟨d,e,r1,r2,s1,s2,kk,e5,q⟩
   ·exact .inl ⟨i,j,e3,e4,kk,e5,hq _ _ q⟩
   ·exact .inr ⟨d,e,r1,r2,s1,s2,kk,e5,hq _ _ q⟩
theorem OK:bG ["thing"] ["thing"] (aZ GA):=bQ aW
theorem a2F(F:FA K mg "is_whole" GA)(B:bV mg):aI P w K mg ay "is_whole" 1 (wc K):=by
 refine F.has OK (λvs H Q E h=>?_) (λ_ _ _ _ _ _=>fH λ_=>rfl) (λf aP A outer s H vs Q E hr h=>?_)
 ·obtain⟨v,T,rfl,_⟩:=h
  rfl
 ·obtain⟨v,T,rfl,ty,k⟩:=h
  have nd:=OK.nd;refine⟨_,(aL (aX (iR (dX K B (ao (pv 0) (ao (dy (x:="int") (v:=.ty "int") Z (B.at "int") LL rfl) az))) (j9 (Qb (dX K B (ao (pv 0) (ao (dy (x:="bool") (v:=.ty "bool") rfl (B.at "bool") Wv rfl) az)))))))),?_⟩;refine⟨_,Z,.inl ⟨_,T,"int",_,Z,ty,aA,Z,_,Z,?_⟩⟩;unfold xg at k;refine eQ (λhc=>?_) (λhc=>?_)
  ·refine⟨_,Z,.inl ⟨_,T,"bool",_,Z,ty,aA,Z,_,Z,?_⟩⟩
   rw[hc,kE]at k;exact k
  ·rw[yk.mpr hc,kU]at k
   exact k
open Ln
def iE(ns:List Int)(sp:Int):ai:=.tuple [.str "line",.tuple (ns.map PyData.int),.int sp]
theorem IS(ns:List Int)(sp:Int):fw (iE ns sp)=true:=by simp[iE,fw,cS,lj]
structure fj(ax:Nat)(m:Int)(ns:List Int):Prop where
 len:ns.length=ax
 bd:∀z∈ns,(z.natAbs:Int)<=m
 nz:∃z∈ns,z≠0
theorem fj.lead(h:fj ax m ns):0<aM ns/\(aM ns:Int)<=m:=by
 refine⟨a4r h.nz,?_⟩;have hm:0<=m:=by obtain⟨z,hz,_⟩:=h.nz;have:=h.bd z hz;lia
 have:=nZ (ns:=ns) (m:=m.toNat) λz hz=>by have:=h.bd z hz;lia
 lia
theorem fj.ne(h:fj ax m ns):ns≠[]:=by obtain⟨z,hz,_⟩:=h.nz;intro e;subst e;cases hz
theorem m8{v:V}(h:RD K H v (iE ns sp)):∃a b,v= .ref a/\aR K H a [.str "line",.ref b,.int sp]/\aR K H b (ns.map V.int):=by obtain⟨a,xs,rfl,h1,h2⟩:=h.dS;obtain⟨x1,r1,rfl,e1,h2⟩:=h2.cons_inv;obtain⟨x2,r2,rfl,e2,h2⟩:=h2.cons_inv;obtain⟨x3,r3,rfl,e3,h2⟩:=h2.cons_inv;cases h2.nil_inv;cases e1.str_inv;cases e3.int_inv;obtain⟨b,ys,rfl,h3,h4⟩:=e2.dS;rw[h4.ja]at h3;exact⟨a,b,Z,h1,h3⟩
inductive acU(K:aa)(vs:List V)(H:Hp)(Q:VK):Prop |mk (v:_)(ns:_)(sp:_)(h0:vs=[v])(h1:RD K H v (iE ns sp))(h2:ns≠[])(h3:ns.length<=1000)(h4:∀H',aF H H'->Q (.int (aM ns)) H')
def lY(K:aa):Sp:=λvs H Q _=>acU K vs H Q
theorem mR{ns:List Int}{f:Int->ai}{i:Nat}{d:ai}(h:(ns.map f)[i]? =some d):∃n,ns[i]? =some n/\f n=d:=by rw[cI]at h;cases e:ns[i]? with |none=>rw[e]at h;cases h |some n=>rw[e]at h;exact⟨n,Z,dQ h⟩
theorem zv{ns:List Int}{i:Nat}{x:V}{n:Int}(h:(ns.map V.int)[i]? =some x)(e:ns[i]? =some n):x= .int n:=by rw[cI,e]at h;exact(dQ h).symm
theorem OE:bG ["_law_line_here"] ["_law_line_here"] (aZ Gu):=bQ aW
theorem a2D(F:FA K mg "_law_lead" Gu)(B:bV mg):aI P w K mg ay "_law_lead" 1 (lY K):=by
 refine F.has OE (λvs H Q E h=>?_) (λ_ _ _ _ _ _=>fH λ_=>rfl) (λf aP A outer s H vs Q E hr h=>?_)
 ·obtain⟨v,ns,sp,rfl,_⟩:=h
  rfl
 ·obtain⟨v,ns,sp,rfl,rd,dP,hz,k⟩:=h
  have nd:=OE.nd;obtain⟨a,b,rfl,ha,hb⟩:=m8 rd;refine⟨_,(aL (aX (dM (x:="max") (IE K Z Z) Z (B.at "max") E4 (ao (gB (N:=["_law_step"]) (js:=[none]) rfl rfl rfl (pH K rfl (px K (pv 0) aD)) (λ_ _ _ _ _=>(bp 0 (uu _))) (λ_ _ _ _ _=>fL) (λ_ _ _ _ _=>(dM (x:="abs") oM rfl (B.at "abs") qF (ao (pv 0) az)))) az)))),?_⟩;refine⟨_,Z,.inr ⟨a,_,1,.ref b,Z,Z,ha,Z,b,Z,⟨_,hb⟩,λD H0 nw=>?_⟩⟩;refine Dp (K:=K) (xs:=ns.map V.int) (ds:=(ns.map iY).map PyData.int) [] hb nw (by simp) (by simpa using hz) (lj _) ?_ ?_
  ·intro i x d H2 Q' ex ed s2 hq
   obtain⟨m,em,rfl⟩:=mR ed;rw[cI]at em;cases en:ns[i]? with |none=>rw[en]at em;cases em |some n=>rw[en]at em;cases em;cases zv ex en;exact⟨_,Z,n,Z,hq _ _ (aF.refl _) (dU _)⟩
  ·intro H' ys s2 d2 r2
   rw[r2.ja]at d2;refine⟨D,_,Z,aH.of d2,by simpa using dP,λM h1 h2=>?_⟩;rw[IT dP h1 h2];exact k H' s2
theorem OD:bG ["line"] ["line"] (aZ Gs):=bQ aW
theorem a2C(F:FA K mg "lead_of" Gs)(B:bV mg):aI P w K mg ay "lead_of" 1 (lY K):=by
 refine F.has OD (λvs H Q E h=>?_) (λ_ _ _ _ _ _=>fH λ_=>rfl) (λf aP A outer s H vs Q E hr h=>?_)
 ·obtain⟨v,ns,sp,rfl,_⟩:=h
  rfl
 ·obtain⟨v,ns,sp,rfl,rd,dP,hz,k⟩:=h
  have nd:=OD.nd;obtain⟨a,b,rfl,ha,hb⟩:=m8 rd;refine⟨_,(aL (aX (dM (x:="max") (IE K Z Z) Z (B.at "max") E4 (ao (gB (N:=["step"]) (js:=[none]) rfl rfl rfl (pH K rfl (px K (pv 0) aD)) (λ_ _ _ _ _=>(bp 0 (uu _))) (λ_ _ _ _ _=>fL) (λ_ _ _ _ _=>(dM (x:="abs") oM rfl (B.at "abs") qF (ao (pv 0) az)))) az)))),?_⟩;refine⟨_,Z,.inr ⟨a,_,1,.ref b,Z,Z,ha,Z,b,Z,⟨_,hb⟩,λD H0 nw=>?_⟩⟩;refine Dp (K:=K) (xs:=ns.map V.int) (ds:=(ns.map iY).map PyData.int) [] hb nw (by simp) (by simpa using hz) (lj _) ?_ ?_
  ·intro i x d H2 Q' ex ed s2 hq
   obtain⟨m,em,rfl⟩:=mR ed;rw[cI]at em;cases en:ns[i]? with |none=>rw[en]at em;cases em |some n=>rw[en]at em;cases em;cases zv ex en;exact⟨_,Z,n,Z,hq _ _ (aF.refl _) (dU _)⟩
  ·intro H' ys s2 d2 r2
   rw[r2.ja]at d2;refine⟨D,_,Z,aH.of d2,by simpa using dP,λM h1 h2=>?_⟩;rw[IT dP h1 h2];exact k H' s2
open Rt
theorem OG:bG ["p","q","divisor"] ["p","q"] (aZ Gv):=bQ aW
theorem a2w(F:FA K mg "lowest_terms" Gv)(B:bV mg)(a6z:aI P w K mg ay "common_divisor" 1 F3):aI P w K mg ay "lowest_terms" 2 vZ:=by
 refine F.has OG (λvs H Q E h=>?_) (λ_ _ _ _ _ _=>dJ λ_ _=>rfl) (λf aP A outer s H vs Q E hr h=>?_)
 ·obtain⟨a,b,rfl,_⟩:=h
  rfl
 ·obtain⟨a,b,rfl,hb,wb,k⟩:=h
  have nd:=OG.nd;have sw:Wd (Ar.sg a b):=qG (Ar.NI hb) wb;refine⟨_,(aE (pS 2 nd (pf a6z hr (ao (pv 0) (ao (pv 1) az)))) (aE (hJ (bR (cu kJ (pv 1) aD (bI _)) (aL (pS 2 nd (wA vO (pv 2)))) bU)) (aL (aX (ck (ao (aG Qu (pv 0) (pv 2)) (ao (aG Qu (pv 1) (pv 2)) az))))))),?_⟩;refine⟨_,Z,_,Z,a,b,Z,?_⟩;refine⟨λO H'=>H'=H/\O=[some (.int a),some (.int b),some (.int (Ar.sg a b))],?_,?_⟩
  ·refine⟨_,Z,_,_,Z,Z,_,Z,?_⟩
   refine eQ (λhc=>?_) (λhc=>?_)
   ·have hd:b<0:=jL hc
    refine⟨_,Z,_,Z,?_⟩;refine⟨Z,?_⟩;unfold Ar.sg;rw[bh hd];rfl
   ·have hd:¬b<0:=λz=>hc (cP z)
    refine⟨Z,?_⟩;unfold Ar.sg;rw[bf hd];rfl
  rintro O H' ⟨rfl,rfl⟩;refine⟨_,Z,_,Z,_,_,Z,Z,⟨Ar.yN hb,sw⟩,_,Z,_,Z,_,_,Z,Z,⟨Ar.yN hb,sw⟩,(by show 2<=sizeLine;decide),λt H4 nw=>?_⟩;exact k t H4 nw
def bw(K:aa)(H:Hp)(v:V)(r:Rat):Prop:=∃p,v= .ref p/\aR K H p [.int r.num,.int r.den]
theorem bw.go{v:V}(h:bw K H v r)(s:aF H H'):bw K H' v r:=by obtain⟨p,e,q⟩:=h;exact⟨p,e,q.go s⟩
def da(r:Rat):ai:=.tuple [.int r.num,.int r.den]
theorem bw.rd{v:V}(h:bw K H v r):RD K H v (da r):=by obtain⟨p,rfl,q⟩:=h;exact gA q (bW (dU _) (bW (dU _) cU))
theorem PQ(r:Rat):cZ 1 (da r):=gu.tup (.cons (.int _) (.cons (.int _) .nil))
theorem a04(r:Rat):SeqAt.shaped (da r)=true:=(PQ r).shaped aA
theorem eqR(h:r=s):PyData.eqv (da r) (da s)=true:=by rw[h];exact(PQ s).refl
theorem iq(h:i.natAbs<2^n)(l:n<=5000):Wd i:=gz h (tE aA l)
theorem _root_.Rt.Bd.wn(h:Bd 2000 r):Wd r.num:=iq h.num aA
theorem _root_.Rt.Bd.wd(h:Bd 2000 r):Wd (r.den:Int):=iq (n:=2000) (by have:=h.den;omega) aA
theorem B9(h:Bd 2000 r)(g:Bd 2000 s):Wd ((r.den:Int)*(s.den:Int)):=iq (n:=4000) (Kr h g) aA
theorem BJ{t:Addr}(hb:b≠0)(e:r=Rat.divInt a b)(h:H' t=some (.tup [.int (Ar.lowP a b),.int (Ar.gR a b)])):bw K H' (.ref t) r:=by obtain⟨e1,e2⟩:=C9 (a:=a) hb;rw[e1,e2,<-e]at h;exact⟨t,Z,aR.of h⟩
inductive acG(op:Rat->Rat->Rat)(K:aa)(vs:List V)(H:Hp)(Q:VK):Prop |mk (v1:_)(v2:_)(r:_)(s:_)(h0:vs=[v1,v2])(h1:bw K H v1 r)(h2:bw K H v2 s)(h3:Bd 2000 r)(h4:Bd 2000 s)(h5:∀v H',bw K H' v (op r s)->aF H H'->Q v H')
def nO(op:Rat->Rat->Rat)(K:aa):Sp:=λvs H Q _=>acG op K vs H Q
theorem Ou:bG ["one","other","p","q","r","s"] ["one","other"] (aZ Gj):=bQ aW
theorem a2t(F:FA K mg "minus" Gj)(B:bV mg)(uL:aI P w K mg ay "lowest_terms" 2 vZ):aI P w K mg ay "minus" 3 (nO (·-·) K):=by
 refine F.has Ou (λvs H Q E h=>?_) (λ_ _ _ _ _ _=>dJ λ_ _=>rfl) (λf aP A outer s H vs Q E hr h=>?_)
 ·obtain⟨v1,v2,r,s,rfl,_⟩:=h
  rfl
 ·obtain⟨v1,v2,r,s,rfl,⟨p,rfl,hp⟩,⟨q,rfl,hq⟩,br,bs,k⟩:=h
  have nd:=Ou.nd;refine⟨_,(aE (fZ (pv 0) (eG K Z (n:=2) Z (bZ (bp 2 nd) (bZ (bp 3 nd) eu)))) (aE (fZ (pv 1) (eG K Z (n:=2) Z (bZ (bp 4 nd) (bZ (bp 5 nd) eu)))) (aL (aX (pf uL hr (ao (aG gc (aG bM (pv 2) (pv 5)) (aG bM (pv 4) (pv 3))) (ao (aG bM (pv 3) (pv 5)) az))))))),?_⟩;refine⟨_,Z,_,_,Z,hp,Z,_,_,Z,_,_,Z,Z,?_⟩;refine⟨_,Z,_,_,Z,hq,Z,_,_,Z,_,_,Z,Z,?_⟩;refine⟨_,Z,_,Z,_,_,Z,Z,iO br.wn.bits bs.wd.bits,_,Z,_,Z,_,_,Z,Z,iO bs.wn.bits br.wd.bits,_,_,Z,Z,_,Z,_,Z,_,_,Z,Z,iO br.wd.bits bs.wd.bits,?_⟩;exact⟨_,_,Z,qw r s,B9 br bs,λt H' nw=>k _ _ (BJ (qw r s) (Yf r s) nw.at') nw.same⟩
theorem xr_dvd {a : Int} {b : Nat} {x : Rat} (hb : b ≠ 0) (hx : Rat.divInt a b = x) : ∃ g, a = x.num * g ∧ (b : Int) = x.den * g := by
  obtain ⟨g, _, p⟩ := Rat.divInt_num_den (z' := x.den_nz) (c := x.reduced) (by omega) hx
  exact ⟨g, p⟩
theorem xr_mul {r s x y : Rat} (hx : Rat.divInt r.num s.den = x) (hy : Rat.divInt s.num r.den = y) (m : r * s = Rat.divInt (r.num * s.num) (r.den * s.den)) : x.num * y.num = (r * s).num ∧ (y.den : Int) * x.den = (r * s).den := by
  obtain ⟨g, h1, h2⟩ := xr_dvd s.den_nz hx
  obtain ⟨h, h3, h4⟩ := xr_dvd r.den_nz hy
  have w : ∀ {q : Rat} {a b g h : Int}, q.num = a * g → q.den = b * h → a.natAbs.Coprime b.natAbs := fun {q a b g h} p z => by
    have c : Int.gcd q.num q.den = 1 := q.reduced
    rw [p, z, Int.gcd_eq_natAbs_gcd_natAbs, Int.natAbs_mul, Int.natAbs_mul] at c
    exact Nat.Coprime.coprime_mul_right_right (Nat.Coprime.coprime_mul_right c)
  have c : (x.num * y.num).natAbs.gcd (x.den * y.den) = 1 := by
    rw [Int.natAbs_mul]; exact Nat.Coprime.mul_left (Nat.Coprime.mul_right x.reduced (w h1 h4)) (Nat.Coprime.mul_right (w h3 h2) y.reduced)
  have e : r * s = x * y := by rw [m, ← hx, ← hy, Rat.divInt_mul_divInt, Int.mul_comm (s.den : Int)]
  rw [e, Rat.num_mul, Rat.den_mul, c, Nat.div_one, Nat.mul_comm x.den]
  exact ⟨(Int.ediv_one _).symm, rfl⟩
theorem NU:bG ["one","other","p","s","r","q"] ["one","other"] (aZ Fp):=bQ aW
theorem a1M(F:FA K mg "times" Fp)(B:bV mg)(uL:aI P w K mg ay "lowest_terms" 2 vZ):aI P w K mg ay "times" 3 (nO (·*·) K):=by
 refine F.has NU (λvs H Q E h=>?_) (λ_ _ _ _ _ _=>dJ λ_ _=>rfl) (λf aP A outer s H vs Q E hr h=>?_)
 ·obtain⟨v1,v2,r,s,rfl,_⟩:=h
  rfl
 ·obtain⟨v1,v2,r,s,rfl,⟨p,rfl,hp⟩,⟨q,rfl,hq⟩,br,bs,k⟩:=h
  have nd:=NU.nd;have nr:=Int.ne_of_gt (den_pos r);have ns:=Int.ne_of_gt (den_pos s)
  refine ⟨_,(aE (fZ (pf uL hr (ao (px K (pv 0) aD) (ao (px K (pv 1) aD) az))) (eG K Z (n:=2) Z (bZ (bp 2 nd) (bZ (bp 3 nd) eu)))) (aE (fZ (pf uL hr (ao (px K (pv 1) aD) (ao (px K (pv 0) aD) az))) (eG K Z (n:=2) Z (bZ (bp 4 nd) (bZ (bp 5 nd) eu)))) (aL (aX (ck (ao (aG bM (pv 2) (pv 4)) (ao (aG bM (pv 5) (pv 3)) az))))))),?_⟩
  refine ⟨_,rfl,Or.inr ⟨_,_,_,_,rfl,rfl,hp,rfl,_,rfl,Or.inr ⟨_,_,_,_,rfl,rfl,hq,rfl,_,_,rfl,ns,bs.wd,fun t1 H1 n1=>?_⟩⟩⟩
  obtain ⟨_,e,g1⟩:=BJ ns rfl n1.at';cases e
  refine ⟨_,_,rfl,g1,rfl,_,_,rfl,_,_,rfl,rfl,?_⟩
  refine ⟨_,rfl,Or.inr ⟨_,_,_,_,rfl,rfl,hq.go n1.same,rfl,_,rfl,Or.inr ⟨_,_,_,_,rfl,rfl,hp.go n1.same,rfl,_,_,rfl,nr,br.wd,fun t2 H2 n2=>?_⟩⟩⟩
  obtain ⟨_,e,g2⟩:=BJ nr rfl n2.at';cases e
  refine ⟨_,_,rfl,g2,rfl,_,_,rfl,_,_,rfl,rfl,?_⟩
  have b1:Bd 2000 _:=kK ns br.num (by have:=bs.den;omega)
  have b2:Bd 2000 _:=kK nr bs.num (by have:=br.den;omega)
  refine ⟨_,rfl,_,rfl,_,_,rfl,rfl,iO b1.wn.bits b2.wn.bits,_,rfl,_,rfl,_,_,rfl,rfl,iO b2.wd.bits b1.wd.bits,bT Z,fun t H' n=>k _ _ ⟨t,rfl,aR.of ?_⟩ (n1.same.trans (n2.same.trans n.same))⟩
  obtain ⟨e1,e2⟩:=xr_mul rfl rfl (mul_div r s)
  rw [← e1,← e2]; exact n.at'
inductive acS(K:aa)(vs:List V)(H:Hp)(Q:VK):Prop |mk (v1:_)(v2:_)(r:_)(s:_)(h0:vs=[v1,v2])(h1:bw K H v1 r)(h2:bw K H v2 s)(h3:Bd 2000 r)(h4:Bd 2000 s)(h5:Q (.bl (decide (r<s))) H)
def wa(K:aa):Sp:=λvs H Q _=>acS K vs H Q
theorem OA:bG ["one","other","p","q","r","s"] ["one","other"] (aZ Gq):=bQ aW
theorem a2A(F:FA K mg "is_less" Gq)(B:bV mg):aI P w K mg ay "is_less" 1 (wa K):=by
 refine F.has OA (λvs H Q E h=>?_) (λ_ _ _ _ _ _=>dJ λ_ _=>rfl) (λf aP A outer s H vs Q E hr h=>?_)
 ·obtain⟨v1,v2,r,s,rfl,_⟩:=h
  rfl
 ·obtain⟨v1,v2,r,s,rfl,⟨p,rfl,hp⟩,⟨q,rfl,hq⟩,br,bs,k⟩:=h
  have nd:=OA.nd;refine⟨_,(aE (fZ (pv 0) (eG K Z (n:=2) Z (bZ (bp 2 nd) (bZ (bp 3 nd) eu)))) (aE (fZ (pv 1) (eG K Z (n:=2) Z (bZ (bp 4 nd) (bZ (bp 5 nd) eu)))) (aL (aX (fE kJ (aG bM (pv 2) (pv 5)) (aG bM (pv 4) (pv 3)) (bI _)))))),?_⟩;refine⟨_,Z,_,_,Z,hp,Z,_,_,Z,_,_,Z,Z,?_⟩;refine⟨_,Z,_,_,Z,hq,Z,_,_,Z,_,_,Z,Z,?_⟩;refine⟨_,Z,_,Z,_,_,Z,Z,iO br.wn.bits bs.wd.bits,_,Z,_,Z,_,_,Z,Z,iO bs.wn.bits br.wd.bits,_,_,Z,Z,?_⟩;have e:decide (r.num*(s.den:Int)<s.num*(r.den:Int))=decide (r<s):=by rw[oZ,sX,sX,Rat.lt_iff]
  show Q (.bl (decide (r.num*(s.den:Int)<s.num*(r.den:Int)))) H;rw[e];exact k
def sO(K:aa)(H:Hp):List V->List Rat->Prop |[],[]=>True |v::vs,r::rs=>bw K H v r/\Bd 2000 r/\sO K H vs rs |_,_=>False
theorem sO.length{H:Hp}:∀{vs:List V}{rs:List Rat},sO K H vs rs->vs.length=rs.length |[],[],_=>rfl |v::vs,r::rs,h=>by rw[jM,jM,sO.length h.2.2] |[],_::_,h=>h.elim |_::_,[],h=>h.elim
theorem sO.get{H:Hp}:∀{vs:List V}{rs:List Rat}{i:Nat}{v:V},sO K H vs rs->vs[i]? =some v->∃r,rs[i]? =some r/\bw K H v r/\Bd 2000 r
 |[],[],i,v,_,e=>by simp at e |v::vs,r::rs,0,v',h,e=>by
  have e':v=v':=by simpa using e
  subst e';exact⟨r,Z,h.1,h.2.1⟩ |v::vs,r::rs,i+1,v',h,e=>by obtain⟨r',e1,q⟩:=sO.get h.2.2 (show vs[i]? =some v' by simpa using e);exact⟨r',by simpa using e1,q⟩ |[],_::_,_,_,h,_=>h.elim |_::_,[],_,_,h,_=>h.elim
inductive acT(K:aa)(vs:List V)(H:Hp)(Q:VK):Prop |mk (l:_)(xs:_)(rs:_)(h0:vs=[.ref l])(h1:aH K H l xs)(h2:sO K H xs rs)(h3:xs≠[])(h4:∀(i:Nat)(v:V)(r:Rat),xs[i]? =some v->rs[i]? =some r->(∀s∈rs,r<=s)->Q v H)
def jy(K:aa):Sp:=λvs H Q _=>acT K vs H Q
theorem OB:bG ["some","best","one"] ["some"] (aZ Gr):=bQ aW
theorem a2B(F:FA K mg "least" Gr)(B:bV mg)(Jr:aI P w K mg ay "is_less" 1 (wa K)):aI P w K mg ay "least" 2 (jy K):=by
 refine F.has OB (λvs H Q E h=>?_) (λ_ _ _ _ _ _=>fH λ_=>rfl) (λf aP A outer s H vs Q E hr h=>?_)
 ·obtain⟨l,xs,rs,rfl,_⟩:=h
  rfl
 ·obtain⟨l,xs,rs,rfl,hl,mS,dP,k⟩:=h
  have nd:=OB.nd;refine⟨_,(aE (pS 1 nd (px K (pv 0) aD)) (aE (m6 ip Z (yZ K Z (pv 0)) (bp 2 nd) (aL (bR (cV (pf Jr hr (ao (pv 2) (ao (pv 1) az)))) (aL (pS 1 nd (pv 2))) bU))) (aL (aX (pv 1))))),?_⟩;have hlen:=mS.length;have h0:0<xs.length:=LV.mpr dP;have e0:=cn h0;refine⟨_,Z,.inl ⟨l,xs,0,xs[0],Z,Z,hl,dC aA e0,?_⟩⟩;refine⟨_,Z,l,Z,⟨_,hl⟩,JR (K:=K) (a:=l) (xs:=xs) (λi O H2=>H2=H/\∃(j:Nat)(b:V)(r:Rat)(v:Option V),xs[j]? =some b/\rs[j]? =some r/\(∀(m:Nat)(s:Rat),m<i->rs[m]? =some s->r<=s)/\O=[some (.ref l),some b,v]) ?_ (λi O H2 _ h=>by rw[h.1];exact hl) ?_ ?_⟩
  ·obtain⟨r,e1,_⟩:=mS.get e0
   exact⟨Z,0,_,r,none,e0,e1,λm s hm=>absurd hm (Nat.not_lt_zero _),Z⟩
  ·rintro i x O H2 hx ⟨rfl,j,b,r,v,eb,er,hm,rfl⟩
   obtain⟨t,et,rt,bt⟩:=mS.get hx;obtain⟨r2,oA,rb,bb⟩:=mS.get eb;rw[er]at oA;cases oA;refine⟨_,Z,_,Z,x,b,t,r,Z,rt,rb,bt,bb,_,Z,?_⟩;refine eQ (λhc=>?_) (λhc=>?_)
   ·have cJ:t<r:=jL hc
    refine⟨_,Z,?_⟩;refine⟨Z,i,x,t,_,hx,et,λm s o9 es=>?_,Z⟩;rcases LP.mp o9 with h|h
    ·exact fg (LF cJ) (hm m s h es)
    ·subst h
     rw[et]at es;cases es;exact tm
   ·have Jk:¬t<r:=λz=>hc (cP z)
    refine⟨Z,j,b,r,_,eb,er,λm s o9 es=>?_,Z⟩;rcases LP.mp o9 with h|h
    ·exact hm m s h es
    ·subst h
     rw[et]at es;cases es;exact Rat.not_lt.mp Jk
  ·rintro O H2 ⟨rfl,j,b,r,v,eb,er,hm,rfl⟩
   refine⟨_,Z,k j b r eb er λs hs=>?_⟩;obtain⟨m,Jo,em⟩:=WA.mp hs;exact hm m s au (by rw[cn Jo,em])
inductive acO(K:aa)(vs:List V)(H:Hp)(Q:VK):Prop |mk (a:_)(b:_)(h0:vs=[.int a,.int b])(h1:b≠0)(h2:Wd b)(h3:∀v H',bw K H' v (Rat.divInt a b)->aF H H'->Q v H')
def vW(K:aa):Sp:=λvs H Q _=>acO K vs H Q
theorem OQ:bG ["p","q"] ["p","q"] (aZ GH):=bQ aW
theorem a2N(F:FA K mg "fraction" GH)(B:bV mg)(CI:aI P w K mg ay "is_whole" 1 (wc K))(uL:aI P w K mg ay "lowest_terms" 2 vZ):aI P w K mg ay "fraction" 3 (vW K):=by
 refine F.has OQ (λvs H Q E h=>?_) (λ_ _ _ _ _ _=>dJ λ_ _=>rfl) (λf aP A outer s H vs Q E hr h=>?_)
 ·obtain⟨a,b,rfl,_⟩:=h
  rfl
 ·obtain⟨a,b,rfl,hb,wb,k⟩:=h
  have nd:=OQ.nd;refine⟨_,(aE (bR (PW.pt (m5 (fD (cV (pf CI hr (ao (pv 0) az)))) (mH (fD (cV (pf CI hr (ao (pv 1) az))))))) (aL HQ) bU) (aE (bR (cu (cY K Z hr.units) (pv 1) aD (bI _)) (aL HQ) bU) (aL (aX (pf uL hr (ao (pv 0) (ao (pv 1) az))))))),?_⟩;have iw:xg "int"=true:=by decide
  refine⟨_,Z,_,"int",Z,Z,_,Z,?_⟩;rw[iw];refine bN ?_;refine⟨_,Z,_,"int",Z,Z,_,Z,?_⟩;rw[iw];refine bN ?_;refine⟨_,Z,.inl ⟨_,_,Z,Z,_,Z,?_⟩⟩;rw[fk hb];refine bN ?_;exact⟨_,Z,_,Z,_,_,Z,hb,wb,λt H' nw=>k _ _ (BJ hb Z nw.at') nw.same⟩
def iU(rs:List Int)(r f j t:Int):ai:=.tuple [.tuple (rs.map PyData.int),.int r,.int f,.int j,.int t]
theorem jZ(rs:List Int)(r f j t:Int):fw (iU rs r f j t)=true:=by simp[iU,fw,cS,lj]
theorem jY{v:V}{t:Int}(h:RD K H v (iU rs r f j t)):∃a b,v= .ref a/\aR K H a [.ref b,.int r,.int f,.int j,.int t]/\aR K H b (rs.map V.int):=by obtain⟨a,xs,rfl,h1,h2⟩:=h.dS;obtain⟨x1,r1,rfl,e1,h2⟩:=h2.cons_inv;obtain⟨x2,r2,rfl,e2,h2⟩:=h2.cons_inv;obtain⟨x3,r3,rfl,e3,h2⟩:=h2.cons_inv;obtain⟨x4,r4,rfl,e4,h2⟩:=h2.cons_inv;obtain⟨x5,r5,rfl,e5,h2⟩:=h2.cons_inv;cases h2.nil_inv;cases e2.int_inv;cases e3.int_inv;cases e4.int_inv;cases e5.int_inv;obtain⟨b,ys,rfl,h3,h4⟩:=e1.dS;rw[h4.ja]at h3;exact⟨a,b,Z,h1,h3⟩
structure nv(rs:List Int)(r f j t:Int):Prop where
 len:rs.length=2\/rs.length=3
 rl:∀z∈rs,1<=z/\z<=100
 r1:1<=r/\r<=50
 f1:1<=f/\f<=50
 j1:1<=j/\j<=50
 t1:1<=t/\t<=100
inductive acP(K:aa)(vs:List V)(H:Hp)(Q:VK):Prop |mk (p:_)(h0:vs=[.ref p])(h1:eK H p)(h2:∀v rs r f j t H',RD K H' v (iU rs r f j t)->nv rs r f j t->bO p H H'->Q v H')
def Nv(K:aa):Sp:=λvs H Q _=>acP K vs H Q
theorem Ox:bG ["_law_bag_here","_law_kind","_law_most","_law_rails"] ["_law_bag_here"] (aZ Gm):=bQ aW
theorem a2v(F:FA K mg "_law_machine" Gm)(B:bV mg)(eO:aI P w K mg ay "_law_take" 1 pA):aI P w K mg ay "_law_machine" 2 (Nv K):=by
 refine F.has Ox (λvs H Q E h=>?_) (λ_ _ _ _ _ _=>fH λ_=>rfl) (λf aP A outer s H vs Q E hr h=>?_)
 ·obtain⟨p,rfl,_⟩:=h
  rfl
 ·obtain⟨p,rfl,bg,k⟩:=h
  have nd:=Ox.nd;refine⟨_,(aE (pS 1 nd (pf eO hr (ao (pv 0) (ao aD az)))) (aE (pS 2 nd (px K (cK (ao aD (ao aD (ao aD (ao aD (ao aD (ao aD (ao aD (ao aD az))))))))) (pv 1))) (aE (pS 3 nd (gQ (x:="tuple") (kX K Z) Z (B.at "tuple") fW (ao (gB (N:=["_law_axis","_law_bag_here","_law_most"]) (js:=[none,some 0,some 2]) rfl rfl rfl (yY rfl (B.at "range") (ao (aG dc aD (pf eO hr (ao (pv 0) (ao aD az)))) az)) (λ_ _ _ _ _=>(bp 0 (show List.Nodup (["_law_axis","_law_bag_here","_law_most"]:List Str) by decide+kernel))) (λ_ _ _ _ _=>fL) (λ_ _ _ _ _=>(aG dc aD (pf eO hr (ao (pv 1) (ao (pv 2) az)))))) az))) (aE (bR (cu (cY K Z hr.units) (pv 1) aD (bI _)) (aL (aX (ck (ao (pv 3) (ao (aG dc aD (aG bM aD (pf eO hr (ao (pv 0) (ao aD az))))) (ao (aG dc aD (aG bM aD (pf eO hr (ao (pv 0) (ao aD az))))) (ao (aG dc aD (aG bM aD (pf eO hr (ao (pv 0) (ao aD az))))) (ao aD az)))))))) bU) (aL (aX (ck (ao (pv 3) (ao (aG dc aD (pf eO hr (ao (pv 0) (ao aD az)))) (ao (aG dc aD (pf eO hr (ao (pv 0) (ao aD az)))) (ao (aG dc aD (pf eO hr (ao (pv 0) (ao aD az)))) (ao (aG dc aD (pf eO hr (ao (pv 0) (ao aD az)))) az)))))))))))),?_⟩;refine⟨_,Z,p,8,Z,bg,aA,aA,λkd H1 k0 k1 b1=>?_⟩;refine⟨bT Z,λl H2 nw=>?_⟩;have b2:bO p H1 H2:=.gq b1.bu nw.same;obtain⟨uW,mf,ef⟩:=a50 [100,100,100,60,60,20,5,100] k0 k1;have f1:1<=uW/\uW<=100:=by
   have h:∀z∈([100,100,100,60,60,20,5,100]:List Int),1<=z/\z<=100:=by decide
   exact h uW mf
  refine⟨_,Z,.inl ⟨l,_,_,_,Z,Z,aH.of nw.at',ef,?_⟩⟩;refine⟨_,Z,p,2,Z,b2.bu,aA,aA,λax H3 a0 a1 b3=>?_⟩;refine⟨_,_,Z,Z,_,Z,au,au,λD H4 n4=>?_⟩;refine UO (J:=oQ 0 (2+ax).toNat) (p:=p) (H:=H3) (2+ax).toNat _ n4 b3.bu au (λi=>.int (0+(i:Int))) (λi H5 hi _=>⟨hi,λy H6 ⟨e,q⟩=>⟨e,q⟩⟩) (λH5 _=>bK _) (λz=>1<=z/\z<=100) ?_ ?_
  ·intro i H5 Q' hi b5 hq
   refine⟨_,Z,_,Z,p,uW,Z,b5.bu,f1.1,au,λd H6 d0 d1 b6=>?_⟩;exact⟨_,_,Z,Z,hq _ _ au b6⟩
  intro H5 is b5 d5 l5 Vh;have KR:=b1.trans (b2.trans (b3.trans b5));refine⟨D,_,Z,.inl ⟨aH.of d5,λq H6 n6=>?_⟩⟩;have b6:bO p H5 H6:=.gq KR.bu n6.same;have q6:aR K H6 q (is.map V.int):=aR.of n6.at';refine⟨_,Z,.inl ⟨_,_,Z,Z,_,Z,?_⟩⟩;refine eQ (λhc=>?_) (λhc=>?_)
  ·refine⟨_,Z,_,Z,p,2,Z,b6.bu,aA,aA,λri H7 ri0 ri1 b7=>?_⟩
   refine⟨_,_,Z,Z,.of_left (cm aA aA),_,_,Z,Z,?_⟩;refine⟨_,Z,p,2,Z,b7.bu,aA,aA,λfa H8 fa0 fa1 b8=>?_⟩;refine⟨_,_,Z,Z,.of_left (cm aA aA),_,_,Z,Z,?_⟩;refine⟨_,Z,p,2,Z,b8.bu,aA,aA,λju H9 ju0 ju1 b9=>?_⟩;refine⟨_,_,Z,Z,.of_left (cm aA aA),_,_,Z,Z,?_⟩;refine⟨bT Z,λt jc lB=>?_⟩;have DA:bO p H9 jc:=.gq b9.bu lB.same;have Vj:=b7.trans (b8.trans (b9.trans DA));have q10:aR K jc q (is.map V.int):=aR.t (bO.t b6.bu Vj) q6;exact k (.ref t) is (1+49*ri) (1+49*fa) (1+49*ju) 100 jc (gA (aR.of lB.at') (bW (gA q10 (u9 is)) (bW (dU _) (bW (dU _) (bW (dU _) (bW (dU _) cU)))))) ⟨au,Vh,au,au,au,au⟩ (KR.trans (b6.trans Vj))
  ·refine⟨_,Z,_,Z,p,50,Z,b6.bu,aA,aA,λri H7 ri0 ri1 b7=>?_⟩
   refine⟨_,_,Z,Z,?_⟩;refine⟨_,Z,p,50,Z,b7.bu,aA,aA,λfa H8 fa0 fa1 b8=>?_⟩;refine⟨_,_,Z,Z,?_⟩;refine⟨_,Z,p,50,Z,b8.bu,aA,aA,λju H9 ju0 ju1 b9=>?_⟩;refine⟨_,_,Z,Z,?_⟩;refine⟨_,Z,p,100,Z,b9.bu,aA,aA,λti jc ti0 ti1 DA=>?_⟩;refine⟨_,_,Z,Z,bT Z,λt iL iT=>?_⟩;have Dz:bO p jc iL:=.gq DA.bu iT.same;have Vi:=b7.trans (b8.trans (b9.trans (DA.trans Dz)));have yX:aR K iL q (is.map V.int):=aR.t (bO.t b6.bu Vi) q6;exact k (.ref t) is (1+ri) (1+fa) (1+ju) (1+ti) iL (gA (aR.of iT.at') (bW (gA yX (u9 is)) (bW (dU _) (bW (dU _) (bW (dU _) (bW (dU _) cU)))))) ⟨au,Vh,au,au,au,au⟩ (KR.trans (b6.trans Vi))
inductive acZ(K:aa)(vs:List V)(H:Hp)(Q:VK):Prop |mk (a:_)(b:_)(h0:vs=[.int a,.int b])(h1:0<b)(h2:Wd b)(h3:∀v H',bw K H' v (Rat.divInt a b)->aF H H'->Q v H')
def yH(K:aa):Sp:=λvs H Q _=>acZ K vs H Q
theorem OP:bG ["_law_p","_law_q","_law_one","_law_other_here"] ["_law_p","_law_q"] (aZ GG):=bQ aW
theorem a2M(F:FA K mg "_law_frac" GG)(B:bV mg):aI P w K mg ay "_law_frac" 1 (yH K):=by
 refine F.has OP (λvs H Q E h=>?_) (λ_ _ _ _ _ _=>dJ λ_ _=>rfl) (λf aP A outer s H vs Q E hr h=>?_)
 ·obtain⟨a,b,rfl,_⟩:=h
  rfl
 ·obtain⟨a,b,rfl,hb,wb,k⟩:=h
  have nd:=OP.nd;refine⟨_,(aE (pG (i:=2) (j:=3) Z nd Z Z aA Z Z (ao (dM (x:="abs") oM Z (B.at "abs") qF (ao (pv 0) az)) (ao (pv 1) az)) rfl) (aE (nS ip (cu uh (pv 3) aD (bI _)) (aL (pG (i:=2) (j:=3) Z nd Z Z aA Z Z (ao (pv 3) (ao (aG pK (pv 2) (pv 3)) az)) Z))) (aL (aX (ck (ao (aG mI (pv 0) (pv 2)) (ao (aG mI (pv 1) (pv 2)) az))))))),?_⟩;refine⟨_,Z,_,Z,_,Z,_,_,Z,?_⟩;refine nH (λO H2=>H2=H/\∃(x y:Int),O=[some (.int a),some (.int b),some (.int x),some (.int y)]/\0<=x/\0<=y/\Int.gcd x y=Int.gcd a b) (λO _=>match O with|[_,_,_,some (.int y)]=>y.natAbs|_=>0) ?_ ?_ ?_
  ·refine⟨Z,_,_,Z,by split<;>lia,au,?_⟩
   have h1:(if a<0 then-a else a).natAbs=a.natAbs:=by split<;>lia
   unfold Int.gcd;rw[h1]
  ·rintro O H2 ⟨rfl,x,y,rfl,x0,y0,e⟩
   refine⟨_,Z,_,_,Z,Z,_,Z,?_⟩;refine eQ (λhc=>?_) (λhc=>?_)
   ·have ka:0<y:=jL hc
    have hy:y≠0:=by lia
    refine⟨_,Z,_,Z,_,Z,_,_,Z,Z,ka,_,_,Z,?_⟩;refine⟨⟨Z,_,_,Z,y0,qI _ hy,(Ar.Ti ka).trans e⟩,?_⟩;show(x%y).natAbs<y.natAbs;have:=qI x hy;have:=vM x ka
    lia
   ·have hy:y=0:=by
     have:¬y>0:=λz=>hc (cP z)
     lia
    subst hy;rw[Int.gcd_zero_right]at e;have ex:x=((Int.gcd a b:Nat):Int):=by lia
    have uP:b≠0:=by lia
    have gp:=Ar.CU (p:=a) uP;have es:Ar.sg a b=(Int.gcd a b:Int):=by unfold Ar.sg;rw[bf au]
    have gw:Wd (Int.gcd a b:Int):=by rw[<-es];exact qG (Ar.NI uP) wb
    obtain⟨e1,e2⟩:=C9 (a:=a) uP;have f1:a/(Int.gcd a b:Int)=(Rat.divInt a b).num:=by rw[<-e1];unfold Ar.lowP;rw[es,WK _ au]
    have f2:b/(Int.gcd a b:Int)=((Rat.divInt a b).den:Int):=by rw[<-e2];unfold Ar.gR;rw[es,WK _ au]
    subst ex;refine⟨_,Z,_,Z,_,_,Z,Z,⟨gp,gw⟩,_,Z,_,Z,_,_,Z,Z,⟨gp,gw⟩,bT Z,λt H6 n6=>?_⟩;have Vp:=n6.at';simp only[f1,f2]at Vp;exact k _ _ ⟨t,Z,aR.of Vp⟩ n6.same
  ·rintro O H2 Q1 Q2 hq ⟨v1,e1,i,j,e3,e4,kk,e5,q⟩
   exact⟨v1,e1,i,j,e3,e4,kk,e5,hq _ _ q⟩
theorem OH:bG ["_law_thing"] ["_law_thing"] (aZ Gw):=bQ aW
theorem a2x(F:FA K mg "_law_number" Gw)(B:bV mg):aI P w K mg ay "_law_number" 1 (wc K):=by
 refine F.has OH (λvs H Q E h=>?_) (λ_ _ _ _ _ _=>fH λ_=>rfl) (λf aP A outer s H vs Q E hr h=>?_)
 ·obtain⟨v,T,rfl,_⟩:=h
  rfl
 ·obtain⟨v,T,rfl,ty,k⟩:=h
  have nd:=OH.nd;refine⟨_,(aL (aX (iR (dX K B (ao (pv 0) (ao (dy (x:="int") (v:=.ty "int") Z (B.at "int") LL rfl) az))) (j9 (Qb (dX K B (ao (pv 0) (ao (dy (x:="bool") (v:=.ty "bool") rfl (B.at "bool") Wv rfl) az)))))))),?_⟩;refine⟨_,Z,.inl ⟨_,T,"int",_,Z,ty,aA,Z,_,Z,?_⟩⟩;unfold xg at k;refine eQ (λhc=>?_) (λhc=>?_)
  ·refine⟨_,Z,.inl ⟨_,T,"bool",_,Z,ty,aA,Z,_,Z,?_⟩⟩
   rw[hc,kE]at k;exact k
  ·rw[yk.mpr hc,kU]at k
   exact k
theorem Ms:j8 "tuple" "tuple"=true:=by decide
theorem Mw:j8 "list" "list"=true:=by decide
abbrev Itm:=Option (List Int × Int)
def itR(d:ai)(o:Itm):Prop:=(∃ns sp,d=iE ns sp/\o=some (ns,sp))\/∃w x,d= .tuple [.str w,x]/\(w="wait"\/w="tool"\/w="mark")/\fw x=true/\o=none
theorem itR.no{d:ai}{o:Itm}(h:itR d o):fw d=true:=by
 rcases h with⟨ns,sp,rfl,_⟩|⟨w,x,rfl,_,h,_⟩
 ·exact IS _ _
 ·simp[fw,cS,h]
theorem xf{v:V}(h:RD K H v d)(i:itR d o):∃a w ys,v= .ref a/\aR K H a (.str w::ys)/\(PyData.eqv (.str w) (.str "line")=o.isSome)/\SeqAt.shaped (.str w)=true:=by
 rcases i with⟨ns,sp,rfl,rfl⟩|⟨w,x,rfl,hw,_,rfl⟩
 ·obtain⟨a,b,rfl,h1,_⟩:=m8 h
  exact⟨a,_,_,Z,h1,(by show PyData.eqv (.str "line") (.str "line")=true;decide+kernel),aW⟩
 ·obtain⟨a,xs,rfl,h1,h2⟩:=h.dS
  obtain⟨x1,r1,rfl,e1,h2⟩:=h2.cons_inv;cases e1.str_inv;refine⟨a,w,r1,Z,h1,?_,?_⟩
  ·show PyData.eqv (.str w) (.str "line")=false
   rcases hw with rfl|rfl|rfl<;>decide+kernel
  ·rcases hw with rfl|rfl|rfl<;>decide+kernel
theorem uy:SeqAt.shaped (.str "line")=true:=by decide+kernel
theorem kM(h:itR d (some (ns,sp))):d=iE ns sp:=by
 rcases h with⟨zh,yK,e1,e2⟩|⟨_,_,_,_,_,e2⟩
 ·cases e2;exact e1
 ·cases e2
structure gW(ax:Nat)(ds:List ai)(os:List Itm):Prop where
 len:ds.length=os.length
 it:∀(i:Nat)(d:ai)(o:Itm),ds[i]? =some d->os[i]? =some o->itR d o
 ok:∀(i:Nat)(ns:List Int)(sp:Int),os[i]? =some (some (ns,sp))->fj ax 100 ns/\1<=sp/\sp<=20
theorem gW.nil:gW ax [] []:=⟨Z,λi d o e=>by simp at e,λi ns sp e=>by simp at e⟩
theorem tV{α:Type}{xs:List α}{x y:α}{j:Nat}(e:(xs++[x])[j]? =some y):xs[j]? =some y\/(j=xs.length/\y=x):=by
 by_cases hj:j<xs.length
 ·rw[yj hj]at e;exact .inl e
 ·have pY:j=xs.length:=by
   have:=(eh.mp e).1;rw[fC]at this;have:j<xs.length+1:=this
   lia
  rw[pY,AU (bK _),LM]at e;exact .inr ⟨pY,(dQ e).symm⟩
theorem gW.snoc{ax:Nat}{ds:List ai}{os:List Itm}{d:ai}{o:Itm}(h:gW ax ds os)(i:itR d o)(g:∀ns sp,o=some (ns,sp)->fj ax 100 ns/\1<=sp/\sp<=20):gW ax (ds++[d]) (os++[o]):=by
 have hl:=h.len;refine⟨by rw[fC,fC,h.len];rfl,λj d' o' e1 e2=>?_,λj ns sp e=>?_⟩
 ·rcases tV e1 with e1|⟨j1,rfl⟩
  ·rcases tV e2 with e2|⟨j2,rfl⟩
   ·exact h.it j d' o' e1 e2
   ·have:=(eh.mp e1).1;lia
  ·rcases tV e2 with e2|⟨j2,rfl⟩
   ·have:=(eh.mp e2).1;lia
   ·exact i
 ·rcases tV e with e|⟨_,e⟩
  ·exact h.ok j ns sp e
  ·exact g ns sp e.symm
theorem gW.no{ax:Nat}{ds:List ai}{os:List Itm}(h:gW ax ds os):cS ds=true:=hO.mpr λd hd=>by obtain⟨i,hi⟩:=tG.mp hd;have hl:=(eh.mp hi).1;exact(h.it i d _ hi (cn (by rw[<-h.len];exact hl))).no
theorem gW.get{ax:Nat}{ds:List ai}{os:List Itm}(h:gW ax ds os){i:Nat}{d:ai}(e:ds[i]? =some d):∃o,os[i]? =some o/\itR d o:=by have hl:=(eh.mp e).1;have e2:=cn (show i<os.length by rw[<-h.len];exact hl);exact⟨_,e2,h.it i d _ e e2⟩
inductive acY(K:aa)(vs:List V)(H:Hp)(Q:VK):Prop |mk (v:_)(d:_)(o:_)(h0:vs=[v])(h1:RD K H v d)(h2:itR d o)(h3:Q (.bl o.isSome) H)
def we(K:aa):Sp:=λvs H Q _=>acY K vs H Q
theorem OJ:bG ["item"] ["item"] (aZ Gz):=bQ aW
theorem a2H(F:FA K mg "is_line" Gz)(B:bV mg):aI P w K mg ay "is_line" 1 (we K):=by
 refine F.has OJ (λvs H Q E h=>?_) (λ_ _ _ _ _ _=>fH λ_=>rfl) (λf aP A outer s H vs Q E hr h=>?_)
 ·obtain⟨v,d,o,rfl,_⟩:=h
  rfl
 ·obtain⟨v,d,o,rfl,ri,it,k⟩:=h
  have nd:=OJ.nd;refine⟨_,(aL (aX (fE (cY K Z hr.units) (px K (pv 0) aD) aV (bI _)))),?_⟩;obtain⟨a,wd,ys,rfl,h1,ew,sw⟩:=xf ri it;refine⟨_,Z,.inr ⟨a,_,0,.str wd,Z,Z,h1,dC (gO 0) Z,.inr ⟨_,_,cM _,cM _,sw,uy,?_⟩⟩⟩;rw[ew];exact k
theorem MS{H:Hp}:∀{xs:List V}{zs:List Str},aJ K H xs (zs.map PyData.str)->xs=zs.map V.str |xs,[],h=>h.nil_inv |xs,n::ns,h=>by obtain⟨y,ys,rfl,h1,h2⟩:=h.cons_inv;rw[h1.str_inv,MS h2];rfl
theorem abE:jH.cps.toList.length=26:=by decide+kernel
theorem Oo:bG ["_law_bag_here","_law_kind","_law_letters"] ["_law_bag_here"] (aZ Gg):=bQ aW
def X0(ns:List Int):ai:=.tuple (ns.map λz=>da (Rat.divInt z (Ln.aM ns)))
theorem qU(r:Rat):fw (da r)=true:=by simp[da,fw,cS]
theorem QH{α:Type}{f:α->ai}(h:∀a,fw (f a)=true)(l:List α):cS (l.map f)=true:=hO.mpr λd hd=>by obtain⟨a,_,rfl⟩:=kC.mp hd;exact h a
inductive ac8(K:aa)(vs:List V)(H:Hp)(Q:VK):Prop |mk (v:_)(ns:_)(sp:_)(h0:vs=[v])(h1:RD K H v (iE ns sp))(h2:fj ns.length 1000 ns)(h3:ns.length<=1000)(h4:∀v' H',RD K H' v' (X0 ns)->aF H H'->Q v' H')
def N4(K:aa):Sp:=λvs H Q _=>ac8 K vs H Q
theorem NP:bG ["line","lead"] ["line"] (aZ Fh):=bQ aW
theorem a1I(F:FA K mg "ways_of" Fh)(B:bV mg)(pV:aI P w K mg ay "lead_of" 1 (lY K))(rP:aI P w K mg ay "fraction" 3 (vW K)):aI P w K mg ay "ways_of" 4 (N4 K):=by
 refine F.has NP (λvs H Q E h=>?_) (λ_ _ _ _ _ _=>fH λ_=>rfl) (λf aP A outer s H vs Q E hr h=>?_)
 ·obtain⟨v,ns,sp,rfl,_⟩:=h
  rfl
 ·obtain⟨v,ns,sp,rfl,rd,ok,hz,k⟩:=h
  have nd:=NP.nd;refine⟨_,(aE (pS 1 nd (pf pV hr (ao (pv 0) az))) (aL (aX (gQ (x:="tuple") (kX K Z) Z (B.at "tuple") fW (ao (gB (N:=["step","lead"]) (js:=[none,some 1]) rfl rfl rfl (pH K rfl (px K (pv 0) aD)) (λ_ _ _ _ _=>(bp 0 (fF aA))) (λ_ _ _ _ _=>fL) (λ_ _ _ _ _=>(pf rP hr (ao (pv 0) (ao (pv 1) az))))) az))))),?_⟩;refine⟨_,Z,v,ns,sp,Z,rd,ok.ne,hz,λH1 s1=>?_⟩;obtain⟨a,b,rfl,ha,hb⟩:=m8 (RD.mono s1 _ rd);obtain⟨lp,lm⟩:=ok.lead;refine⟨_,Z,.inr ⟨a,_,1,.ref b,Z,Z,ha,Z,b,Z,⟨_,hb⟩,λD H0 nw=>?_⟩⟩;refine Dp (K:=K) (xs:=ns.map V.int) (ds:=ns.map λz=>da (Rat.divInt z (Ln.aM ns))) _ hb nw (by simp) (by simpa using hz) (QH (λ_=>qU _) _) ?_ ?_
  ·intro i x d H2 Q' ex ed s2 hq
   obtain⟨n,en,rfl⟩:=mR ed;cases zv ex en;refine⟨_,Z,_,Z,n,_,Z,fh,iq (n:=20) fh aA,λv3 H3 r3 s3=>?_⟩;exact hq _ _ s3 r3.rd
  ·intro H' ys s2 d2 r2
   refine⟨D,_,Z,.inl ⟨aH.of d2,λt H4 n4=>?_⟩⟩;exact k _ _ (gA (aR.of n4.at') (aJ.mono n4.same _ r2)) (s1.trans (s2.trans n4.same))
theorem yx:j8 "tuple" "tuple"=true:=by decide
theorem WZ(d:ai):(∃i,d= .int i/\xg (nK d)=true)\/(xg (nK d)=false/\∀i,d≠ .int i):=by cases d with |int i=>exact .inl ⟨i,Z,by simp[nK];decide⟩ |_=>exact .inr ⟨by simp[nK];decide,λ_ z=>nomatch z⟩
theorem Eu(d:ai):(∃ds,d= .tuple ds)\/(j8 (nK d) "tuple"=false/\∀ds,d≠ .tuple ds):=by cases d with |tuple ds=>exact .inl ⟨ds,Z⟩ |_=>exact .inr ⟨by simp[nK];decide,λ_ z=>nomatch z⟩
def gK(lo hi:Int):ai->Bool | .int i=>decide (lo<=i)&&decide (i<=hi) |_=>false
theorem a51{lo hi:Int}{d:ai}(h:∀i,d≠ .int i):gK lo hi d=false:=by cases d<;>first|rfl|exact absurd rfl (h _)
inductive ac9(K:aa)(vs:List V)(H:Hp)(Q:VK):Prop |mk (v:_)(d:_)(lo:_)(hi:_)(h0:vs=[v,.int lo,.int hi])(h1:RD K H v d)(h2:Q (.bl (gK lo hi d)) H)
def tT(K:aa):Sp:=λvs H Q _=>ac9 K vs H Q
theorem NQ:bG ["thing","low","high"] ["thing","low","high"] (aZ Fi):=bQ aW
theorem a1G(F:FA K mg "is_whole_within" Fi)(B:bV mg)(CI:aI P w K mg ay "is_whole" 1 (wc K)):aI P w K mg ay "is_whole_within" 2 (tT K):=by
 refine F.has NQ (λvs H Q E h=>?_) (λ_ _ _ _ _ _=>oN λ_ _ _=>rfl) (λf aP A outer s H vs Q E hr h=>?_)
 ·obtain⟨v,d,lo,hi,rfl,_⟩:=h
  rfl
 ·obtain⟨v,d,lo,hi,rfl,rd,k⟩:=h
  have nd:=NQ.nd;refine⟨_,(aL (aX (iR (pf CI hr (ao (pv 0) az)) (j9 (Qf wF wF (pv 1) (pv 0) (pv 2)))))),?_⟩;refine⟨_,Z,_,_,Z,rd.ty,_,Z,?_⟩;rcases WZ d with⟨i,rfl,e⟩|⟨e,hn⟩
  ·cases rd.int_inv
   rw[e];refine cg ?_;have k:Q (.bl (decide (lo<=i)&&decide (i<=hi))) H:=k;refine⟨_,Z,_,Z,_,_,Z,Z,_,Z,?_⟩;refine eQ (λhc=>?_) (λhc=>?_)
   ·have iV:decide (lo<=i)=true:=hc
    rw[iV,kE]at k;exact⟨_,Z,_,_,Z,Z,k⟩
   ·have iV:decide (lo<=i)=false:=yk.mpr hc
    rw[iV,kU]at k;exact k
  ·rw[e]
   refine bN ?_;rw[a51 hn]at k;exact k
open Cn
theorem Ma{ns ms:List Int}{i:Nat}{a b:Int}(h1:ns[i]? =some a)(h2:ms[i]? =some b):(dH ns ms)[i]? =some (a*(aM ms:Int)-b*(aM ns:Int)):=by unfold dH;rw[cI,(AR (z:=(a,b))).mpr ⟨h1,h2⟩];rfl
def Af(j:Int)(ns ms:List Int):ai:=if aM (dH ns ms)=0 then .none else da (Rat.divInt ((j*aM ns*aM ms)^2) ((aM (dH ns ms):Int)^2))
inductive ad5(K:aa)(vs:List V)(H:Hp)(Q:VK):Prop |mk (v:_)(v1:_)(v2:_)(rs:_)(r:_)(f:_)(j:_)(t:_)(ns:_)(ms:_)(gP:_)(iu:_)(h0:vs=[v,v1,v2])(h1:RD K H v (iU rs r f j t))(h2:RD K H v1 (iE ns gP))(h3:RD K H v2 (iE ms iu))(h4:fj ns.length 1000 ns)(h5:fj ns.length 1000 ms)(h6:ns.length<=1000)(h7:1<=j)(h8:j<=50)(h9:∀v' H',RD K H' v' (Af j ns ms)->aF H H'->Q v' H')
def F7(K:aa):Sp:=λvs H Q _=>ad5 K vs H Q
theorem zip2{ns ms:List Int}(h:ms.length=ns.length){i:Nat}{x y:V}(ex:(ns.map V.int)[i]? =some x)(ey:(ms.map V.int)[i]? =some y):∃a b,ns[i]? =some a/\ms[i]? =some b/\x= .int a/\y= .int b:=by rw[cI]at ex ey;cases e1:ns[i]? with |none=>rw[e1]at ex;cases ex |some a=>cases e2:ms[i]? with |none=>rw[e2]at ey;cases ey |some b=>rw[e1]at ex;rw[e2]at ey;exact⟨a,b,Z,Z,(dQ ex).symm,(dQ ey).symm⟩
inductive acb(K:aa)(vs:List V)(H:Hp)(Q:VK):Prop |mk (v1:_)(v2:_)(ns:_)(ms:_)(gP:_)(iu:_)(h0:vs=[v1,v2])(h1:RD K H v1 (iE ns gP))(h2:RD K H v2 (iE ms iu))(h3:fj ns.length 1000 ns)(h4:fj ns.length 1000 ms)(h5:ns.length<=1000)(h6:∀v' H',bw K H' v' (Rat.divInt (aM (dH ns ms)) ((aM ns:Int)*aM ms))->aF H H'->Q v' H')
def N6(K:aa):Sp:=λvs H Q _=>acb K vs H Q
theorem NR:bG ["one","other","greatest","way","new_way","p","q","difference"] ["one","other"] (aZ Fj):=bQ aW
theorem a1J(F:FA K mg "greatest_turn" Fj)(B:bV mg)(Sh:aI P w K mg ay "ways_of" 4 (N4 K))(a5W:aI P w K mg ay "minus" 3 (nO (·-·) K))(Jr:aI P w K mg ay "is_less" 1 (wa K)):aI P w K mg ay "greatest_turn" 5 (N6 K):=by
 refine F.has NR (λvs H Q E h=>?_) (λ_ _ _ _ _ _=>dJ λ_ _=>rfl) (λf aP A outer s H vs Q E hr h=>?_)
 ·obtain⟨v1,v2,ns,ms,gP,iu,rfl,_⟩:=h
  rfl
 ·obtain⟨v1,v2,ns,ms,gP,iu,rfl,Hs,qT,ok1,ok2,hz,k⟩:=h
  have nd:=NR.nd;obtain⟨lp1,lm1⟩:=ok1.lead;obtain⟨lp2,IQ⟩:=ok2.lead;have Sf:ms.length<=1000:=by rw[ok2.len];exact hz
  have a31:fj ms.length 1000 ms:=⟨Z,ok2.bd,ok2.nz⟩;have cb:=Dn (λz hz=>by have:=ok1.bd z hz;lia) (λz hz=>by have:=ok2.bd z hz;lia) (ns:=ns) (ms:=ms);have L0:(0:Int)<(aM ns:Int)*aM ms:=j7 au au;have Lb:((aM ns:Int)*aM ms).natAbs<=1000*1000:=lD au au;have afs:(dH ns ms).length=ns.length:=by simp[dH,ok2.len]
  have SI:∀c:Int,c.natAbs<=2000000->Bd 2000 (Rat.divInt c ((aM ns:Int)*aM ms)):=λc hc=>(kK (n:=30) au au au).mono aA;refine⟨_,(aE (pS 2 nd (ck (ao aD (ao aD az)))) (aE (m6 ip Z (jU K Z false false Z (B.at "zip") (ao (pf Sh hr (ao (pv 0) az)) (ao (pf Sh hr (ao (pv 1) az)) az))) (eG K rfl (n:=2) rfl (bZ (bp 3 nd) (bZ (bp 4 nd) eu))) (aE (fZ (pf a5W hr (ao (pv 4) (ao (pv 3) az))) (eG K Z (n:=2) Z (bZ (bp 5 nd) (bZ (bp 6 nd) eu)))) (aE (pS 7 nd (ck (ao (dM (x:="abs") oM Z (B.at "abs") qF (ao (pv 5) az)) (ao (pv 6) az)))) (aL (bR (cV (pf Jr hr (ao (pv 2) (ao (pv 7) az)))) (aL (pS 2 nd (pv 7))) bU))))) (aL (aX (pv 2))))),?_⟩;refine⟨bT Z,λg0 H1 n1=>?_⟩;refine⟨_,Z,v1,ns,gP,Z,RD.mono n1.same _ Hs,ok1,hz,λw1 H2 r2 s2=>?_⟩;have t2:=n1.same.trans s2;refine⟨_,Z,v2,ms,iu,Z,RD.mono t2 _ qT,a31,Sf,λw2 H3 r3 s3=>?_⟩;have t3:=t2.trans s3;obtain⟨c1,xs1,rfl,h1,q1⟩:=(RD.mono s3 _ r2).dS;obtain⟨c2,xs2,rfl,h2,q2⟩:=r3.dS;have l1:=q1.length;have l2:=q2.length;rw[cx]at l1 l2;refine⟨c1,c2,Z,⟨_,h1⟩,⟨_,h2⟩,?_⟩;refine a88 (K:=K) (b1:=false) (b2:=false) (xs:=xs1) (ys:=xs2) ns.length (by rw[l1,l2,ok2.len];lia) (λi O H4=>aF H3 H4/\∃g u1 u2 u3 u4 u5,bw K H4 g (Rat.divInt (rO (dH ns ms) i) ((aM ns:Int)*aM ms))/\O=[some v1,some v2,some g,u1,u2,u3,u4,u5]) ?_ (λi O H4 _ h=>⟨h1.go h.1,h2.go h.1⟩) ?_ ?_
  ·refine⟨aF.refl _,.ref g0,none,none,none,none,none,⟨g0,Z,?_⟩,Z⟩
   have e0:Rat.divInt ((rO (dH ns ms) 0:Nat):Int) ((aM ns:Int)*aM ms)=0:=by show Rat.divInt 0 _=0;exact Rat.zero_divInt _
   rw[e0];exact aR.of (s3 _ _ (s2 _ _ n1.at'))
  ·rintro i x y O H4 ex ey ⟨s4,g,u1,u2,u3,u4,u5,rg,rfl⟩ T H5 n5
   obtain⟨d1,e1,rx⟩:=q1.get' i ex;obtain⟨d2,e2,ry⟩:=q2.get' i ey;obtain⟨a,ea,rfl⟩:=mR e1;obtain⟨b,eb,rfl⟩:=mR e2;have qa:=ok1.bd a (gI ea);have qb:=ok2.bd b (gI eb);have cz:=Ma ea eb;have czb:=cb _ (gI cz);have t5:=s4.trans n5.same;refine⟨T,_,Z,aR.of n5.at',Z,_,_,Z,_,_,Z,Z,?_⟩;have nR:∀{H':Hp}{v:V}{r:Rat},RD K H' v (da r)->bw K H' v r:=λ{H' v r} h=>by obtain⟨p,xs,rfl,h1,h2⟩:=h.dS;have:=h2.ja (ns:=[r.num,r.den]);subst this;exact⟨p,Z,h1⟩
   refine⟨_,Z,_,Z,y,x,_,_,Z,nR (RD.mono t5 _ ry),nR (RD.mono t5 _ rx),(kK (n:=30) au au au).mono aA,(kK (n:=30) au au au).mono aA,λv6 H6 r6 s6=>?_⟩;have ed:Rat.divInt b (aM ms)-Rat.divInt a (aM ns)=Rat.divInt (b*aM ns-a*aM ms) ((aM ns:Int)*aM ms):=Yd au au;have r6:bw K H6 v6 (Rat.divInt b (aM ms)-Rat.divInt a (aM ns)):=r6;rw[ed]at r6;obtain⟨p6,rfl,h6⟩:=r6;refine⟨p6,_,Z,h6,Z,_,_,Z,_,_,Z,Z,?_⟩;refine⟨_,Z,_,Z,_,Z,bT Z,λdd H7 n7=>?_⟩;have nQ:=s6.trans n7.same;have rD:bw K H7 (.ref dd) (Rat.divInt (((a*(aM ms:Int)-b*(aM ns:Int)).natAbs:Nat):Int) ((aM ns:Int)*aM ms)):=by
    have e:Rat.divInt (((a*(aM ms:Int)-b*(aM ns:Int)).natAbs:Nat):Int) ((aM ns:Int)*aM ms)=vj (Rat.divInt (b*aM ns-a*aM ms) ((aM ns:Int)*aM ms)):=by rw[abA L0,Al];congr 1;lia
    rw[e];refine⟨dd,Z,?_⟩;rw[abz,abB];exact aR.of n7.at'
   have rG:bw K H7 g _:=(rg.go n5.same).go nQ;have hG:rO (dH ns ms) i<=2000000:=nZ λz hz=>cb z (E8 hz);refine⟨_,Z,_,Z,g,.ref dd,_,_,Z,rG,rD,SI _ au,SI _ au,_,Z,?_⟩;have hs:=a6k cz;refine eQ (λhc=>?_) (λhc=>?_)
   ·have cJ:=(Uz L0).mp (jL hc)
    refine⟨_,Z,?_⟩;refine⟨t5.trans nQ,_,_,_,_,_,_,?_,Z⟩;rw[hs,Nat.max_eq_right au];exact rD
   ·have CK:¬_:=λz=>hc (cP ((Uz L0).mpr z))
    refine⟨t5.trans nQ,_,_,_,_,_,_,?_,Z⟩;rw[hs,Nat.max_eq_left au];exact rG
  ·rintro O H4 ⟨s4,g,u1,u2,u3,u4,u5,rg,rfl⟩
   refine⟨_,Z,k _ _ ?_ (t3.trans s4)⟩;have:rO (dH ns ms) ns.length=aM (dH ns ms):=by unfold rO;rw[E7 au]
   rw[this]at rg;exact rg
theorem OW:bG ["machine","one","other","jump","p","q"] ["machine","one","other"] (aZ GN):=bQ aW
theorem a2S(F:FA K mg "corner_square" GN)(B:bV mg)(a6m:aI P w K mg ay "greatest_turn" 5 (N6 K))(rP:aI P w K mg ay "fraction" 3 (vW K)):aI P w K mg ay "corner_square" 6 (F7 K):=by
 refine F.has OW (λvs H Q E h=>?_) (λ_ _ _ _ _ _=>oN λ_ _ _=>rfl) (λf aP A outer s H vs Q E hr h=>?_)
 ·obtain⟨v,v1,v2,rs,r,f',j,t,ns,ms,gP,iu,rfl,_⟩:=h
  rfl
 ·obtain⟨v,v1,v2,rs,r,f',j,t,ns,ms,gP,iu,rfl,rd,Hs,qT,ok1,ok2,hz,j1,j2,k⟩:=h
  have nd:=OW.nd;obtain⟨lp1,lm1⟩:=ok1.lead;obtain⟨lp2,IQ⟩:=ok2.lead;have L0:(0:Int)<(aM ns:Int)*aM ms:=j7 au au;have Lb:((aM ns:Int)*aM ms).natAbs<=1000*1000:=lD au au;have cb:=Dn (λz hz=>by have:=ok1.bd z hz;lia) (λz hz=>by have:=ok2.bd z hz;lia) (ns:=ns) (ms:=ms);have hH:=nZ cb;refine⟨_,(aE (pS 3 nd (px K (pv 0) aD)) (aE (fZ (pf a6m hr (ao (pv 1) (ao (pv 2) az))) (eG K Z (n:=2) Z (bZ (bp 4 nd) (bZ (bp 5 nd) eu)))) (aE (bR (cu (cY K Z hr.units) (pv 4) aD (bI _)) (aL (aX jV)) bU) (aL (aX (pf rP hr (ao (aG bM (aG bM (aG bM (pv 3) (pv 3)) (pv 5)) (pv 5)) (ao (aG bM (pv 4) (pv 4)) az)))))))),?_⟩;obtain⟨am,bm,rfl,gf,iI⟩:=jY rd;refine⟨_,Z,.inr ⟨am,_,3,.int j,Z,Z,gf,Z,?_⟩⟩;refine⟨_,Z,_,Z,v1,v2,ns,ms,gP,iu,Z,Hs,qT,ok1,ok2,hz,λv3 H3 r3 s3=>?_⟩;obtain⟨KO⟩:Nonempty (Bd 30 (Rat.divInt (aM (dH ns ms)) ((aM ns:Int)*aM ms))):=⟨kK (n:=30) au au au⟩;have en:=tj (Rat.divInt (aM (dH ns ms)) ((aM ns:Int)*aM ms));obtain⟨R,hR⟩:∃R,Rat.divInt (aM (dH ns ms)) ((aM ns:Int)*aM ms)=R:=⟨_,Z⟩;rw[hR]at r3 KO en;have dp:=den_pos R;have Ae:R.num*((aM ns:Int)*aM ms)=aM (dH ns ms)*R.den:=by rw[<-hR]at en;have:=(Rat.divInt_eq_divInt_iff (by rw[hR];lia) au).mp en;rw[hR]at this;exact this
  have nb:=KO.num;have db:=KO.den;obtain⟨p3,rfl,h3⟩:=r3;refine⟨p3,_,Z,h3,Z,_,_,Z,_,_,Z,Z,?_⟩;refine⟨_,Z,.inl ⟨_,_,Z,Z,_,Z,?_⟩⟩;refine eQ (λhc=>?_) (λhc=>?_)
  ·have h0:R.num=0:=by simpa using hc
   have hl:aM (dH ns ms)=0:=by
    rw[h0,AW]at Ae;rcases Int.mul_eq_zero.mp Ae.symm with h|h
    ·lia
    ·lia
   refine k .bB H3 ?_ s3;unfold Af;rw[bh hl];exact PJ
  ·have h0:R.num≠0:=by simpa using hc
   have hl:aM (dH ns ms)≠0:=by
    intro z;rw[z]at Ae;have:R.num*((aM ns:Int)*aM ms)=0:=by rw[Ae];exact AW _
    rcases Int.mul_eq_zero.mp this with h|h
    ·exact h0 h
    ·lia
   have m1:(j*j).natAbs<=50*50:=lD au au;have lM:(2:Nat)^64=18446744073709551616:=by decide
   refine⟨_,Z,_,Z,_,_,Z,Z,.of_left (cm au au),_,Z,_,_,Z,Z,.of_left (cm au au),_,Z,_,_,Z,Z,.of_right (cm au au),?_⟩;refine⟨_,Z,_,Z,_,_,Z,Z,.of_left (cm au au),?_⟩;refine⟨_,_,Z,M0 h0 h0,?_,λv4 H4 r4 s4=>?_⟩
   ·refine iq (n:=60) ?_ aA
    rw[fY];exact lC (n:=30) (m:=30) nb nb
   ·refine k _ _ ?_ (s3.trans s4)
    unfold Af;rw[bf hl];have e:=aap (j:=j) (p:=R.num) (q:=R.den) (h:=aM (dH ns ms)) (L:=(aM ns:Int)*aM ms) h0 au Ae;rw[e,<-vL]at r4;exact r4.rd
def PM (d:ai):Bool:=gK 10 200 d
inductive acy(K:aa)(vs:List V)(H:Hp)(Q:VK):Prop |mk (v:_)(d:_)(h0:vs=[v])(h1:RD K H v d)(h2:Q (.bl (PM d)) H)
def ET(K:aa):Sp:=λvs H Q _=>acy K vs H Q
theorem OI:bG ["thing"] ["thing"] (aZ Gy):=bQ aW
theorem a2G(F:FA K mg "is_rate" Gy)(B:bV mg)(a74:GV mg "LEAST_RATE" (.int 10))(a76:GV mg "GREATEST_RATE" (.int 200))(pZ:aI P w K mg ay "is_whole_within" 2 (tT K)):aI P w K mg ay "is_rate" 3 (ET K):=by
 refine F.has OI (λvs H Q E h=>?_) (λ_ _ _ _ _ _=>fH λ_=>rfl) (λf aP A outer s H vs Q E hr h=>?_)
 ·obtain⟨v,d,rfl,_⟩:=h
  rfl
 ·obtain⟨v,d,rfl,rd,k⟩:=h
  have nd:=OI.nd;refine⟨_,(aL (aX (pf pZ hr (ao (pv 0) (ao (fm (x:="LEAST_RATE") Z a74) (ao (fm (x:="GREATEST_RATE") Z a76) az)))))),?_⟩;exact⟨_,Z,v,d,10,200,Z,rd,k⟩
inductive ace(K:aa)(vs:List V)(H:Hp)(Q:VK):Prop |mk (v:_)(ns:_)(sp:_)(r:_)(h0:vs=[v,.int r])(h1:RD K H v (iE ns sp))(h2:1<=sp)(h3:sp<=20)(h4:10<=r)(h5:r<=200)(h6:∀v' H',bw K H' v' (Rat.divInt ((sp*r)^2) 10000)->aF H H'->Q v' H')
def Bq(K:aa):Sp:=λvs H Q _=>ace K vs H Q
theorem MZ(a b:Int):a*a*b*b=(a*b)^2:=by rw[fX,fX,lW,kS];ac_rfl
theorem a02(h1:10<=r)(h2:r<=200):PM (.int r)=true:=by show(decide (10<=r)&&decide (r<=200))=true;rw[cP h1,cP h2];rfl
theorem NT:bG ["line","rate","speed"] ["line","rate"] (aZ Fo):=bQ aW
theorem a1L(F:FA K mg "top_square" Fo)(B:bV mg)(a6a:aI P w K mg ay "is_rate" 3 (ET K))(rP:aI P w K mg ay "fraction" 3 (vW K)):aI P w K mg ay "top_square" 4 (Bq K):=by
 refine F.has NT (λvs H Q E h=>?_) (λ_ _ _ _ _ _=>dJ λ_ _=>rfl) (λf aP A outer s H vs Q E hr h=>?_)
 ·obtain⟨v,ns,sp,r,rfl,_⟩:=h
  rfl
 ·obtain⟨v,ns,sp,r,rfl,rd,s1,s2,r1,r2,k⟩:=h
  have nd:=NT.nd;refine⟨_,(aE (bR (fD (cV (pf a6a hr (ao (pv 1) az)))) (aL HQ) bU) (aE (pS 2 nd (px K (pv 0) aD)) (aL (aX (pf rP hr (ao (aG bM (aG bM (aG bM (pv 2) (pv 2)) (pv 1)) (pv 1)) (ao (aG bM aD aD) az))))))),?_⟩;refine⟨_,Z,_,.int r,Z,dU r,_,Z,?_⟩;rw[a02 r1 r2];refine bN ?_;obtain⟨a,b,rfl,ha,hb⟩:=m8 rd;refine⟨_,Z,.inr ⟨a,_,2,.int sp,Z,Z,ha,Z,?_⟩⟩;have m1:(sp*sp).natAbs<=20*20:=by rw[fY];exact mF au au
  refine⟨_,Z,_,Z,_,_,Z,Z,.of_left (cm au au),_,Z,_,_,Z,Z,.of_left (cm au au),_,Z,_,_,Z,Z,.of_right (cm au au),?_⟩;refine⟨_,_,Z,Z,.of_left (cm aA aA),?_⟩;refine⟨_,_,Z,aA,iq (n:=20) aA aA,λv' H' r' s'=>k v' H' ?_ s'⟩;rw[MZ]at r';exact r'
inductive acd(K:aa)(vs:List V)(H:Hp)(Q:VK):Prop |mk (v:_)(ns:_)(sp:_)(r:_)(h0:vs=[v,.int r])(h1:RD K H v (iE ns sp))(h2:1<=sp)(h3:sp<=20)(h4:10<=r)(h5:r<=200)(h6:∀v' H',bw K H' v' (Rat.divInt ((sp*r)^2) 10000)->aF H H'->Q v' H')
def EN(K:aa):Sp:=λvs H Q _=>acd K vs H Q
theorem NS:bG ["_law_line_here","_law_rate"] ["_law_line_here","_law_rate"] (aZ Fm):=bQ aW
open Pn
open Ow (topR cornO mnO betR atO ownF leadF ownL OkI OkIs)
theorem Yv(n:Nat)(h:n<=1000):n<sizeLine:=qG h aA
theorem nR{v:V}(h:RD K H v (da r)):bw K H v r:=by obtain⟨p,xs,rfl,h1,h2⟩:=h.dS;have:=h2.ja (ns:=[r.num,r.den]);subst this;exact⟨p,Z,h1⟩
theorem fj.up(h:fj ax 100 ns):fj ns.length 1000 ns:=⟨Z,λz hz=>by have:=h.bd z hz;lia,h.nz⟩
theorem gW.wH{ax:Nat}{ds:List ai}{os:List Itm}(h:gW ax ds os):OkIs os:=λi ns sp e=>by unfold atO at e;cases ho:os[i]? with |none=>rw[ho]at e;cases e |some o=>rw[ho]at e;have e':o=some (ns,sp):=e;subst e';obtain⟨a,b,c⟩:=h.ok i ns sp ho;exact⟨a.bd,b,c⟩
theorem uo(h:aR K H a [.int 0,.int 1]):bw K H (.ref a) 0:=⟨a,Z,h⟩
theorem aar(j:Int)(ns ms:List Int):Af j ns ms=match cornO j ns ms with|none=>.none|some c=>da c:=by unfold Af cornO;split<;>rfl
inductive ad7(K:aa)(vs:List V)(H:Hp)(Q:VK):Prop |mk (m:_)(v1:_)(v2:_)(aB:_)(rs:_)(r:_)(f:_)(j:_)(t:_)(d1:_)(d2:_)(o1:_)(o2:_)(ax:_)(h0:vs=[m,v1,v2,.int aB])(h1:RD K H m (iU rs r f j t))(h2:1<=j)(h3:j<=50)(h4:RD K H v1 d1)(h5:RD K H v2 d2)(h6:itR d1 o1)(h7:itR d2 o2)(h8:(∀ns sp,o1=some (ns,sp)->fj ax 100 ns/\1<=sp/\sp<=20))(h9:(∀ns sp,o2=some (ns,sp)->fj ax 100 ns/\1<=sp/\sp<=20))(zW:ax<=100)(T9:10<=aB)(T5:aB<=200)(T4:∀v H',bw K H' v (betR j aB o1 o2)->aF H H'->Q v H')
def Bw(K:aa):Sp:=λvs H Q _=>ad7 K vs H Q
theorem OZ:bG ["machine","one","other","rate","squares","corner"] ["machine","one","other","rate"] (aZ GQ):=bQ aW
theorem a2V(F:FA K mg "bound_between" GQ)(B:bV mg)(gN:GT K mg "NOUGHT" [.int 0,.int 1])(rM:aI P w K mg ay "is_line" 1 (we K))(Cr:aI P w K mg ay "top_square" 4 (Bq K))(a6x:aI P w K mg ay "corner_square" 6 (F7 K))(xn:aI P w K mg ay "least" 2 (jy K)):aI P w K mg ay "bound_between" 7 (Bw K):=by
 obtain⟨aN,lL,nN⟩:=gN;refine F.has OZ (λvs H Q E h=>?_) (λ_ _ _ _ _ _=>Le λ_ _ _ _=>rfl) (λf aP A outer s H vs Q E hr h=>?_)
 ·obtain⟨m,v1,v2,aB,rs,r,f,j,t,d1,d2,o1,o2,ax,rfl,_⟩:=h
  rfl
 ·obtain⟨m,v1,v2,aB,rs,r,f,j,t,d1,d2,o1,o2,ax,rfl,rm,j1,j2,r1,r2,i1,i2,k1,k2,SN,dR,ek,k⟩:=h
  have nd:=OZ.nd;refine⟨_,(aE (bR (PW.pt (m5 (fD (cV (pf rM hr (ao (pv 1) az)))) (mH (fD (cV (pf rM hr (ao (pv 2) az))))))) (aL (aX (fm (x:="NOUGHT") Z lL))) bU) (aE (pS 4 nd (cK (ao (pf Cr hr (ao (pv 1) (ao (pv 3) az))) (ao (pf Cr hr (ao (pv 2) (ao (pv 3) az))) az)))) (aE (pS 5 nd (pf a6x hr (ao (pv 0) (ao (pv 1) (ao (pv 2) az))))) (aE (hJ (bR (cu zb (pv 5) jV (bI _)) (aL (iA (jW K Z (pv 4) (ao (pv 5) az)))) bU)) (aL (aX (pf xn hr (ao (pv 4) az)))))))),?_⟩;refine⟨_,Z,v1,d1,o1,Z,r1,i1,_,Z,?_⟩;cases o1 with |none=>refine cg (cg ?_);have:=k _ H (uo (nN H)) (aF.refl _);exact this |some q1=>obtain⟨ns,sp⟩:=q1;refine bN ?_;refine⟨_,Z,v2,d2,o2,Z,r2,i2,_,Z,?_⟩;cases o2 with |none=>refine cg ?_;exact k _ H (uo (nN H)) (aF.refl _) |some q2=>obtain⟨ms,sq⟩:=q2;refine bN ?_;have e1:=kM i1;have e2:=kM i2;subst e1 e2;obtain⟨ok1,a1,a2⟩:=k1 ns sp rfl;obtain⟨ok2,b1,b2⟩:=k2 ms sq rfl;refine⟨_,Z,_,Z,v1,ns,sp,aB,Z,r1,a1,a2,dR,ek,λt1 H1 Hh s1=>?_⟩;refine⟨_,Z,_,Z,v2,ms,sq,aB,Z,RD.mono s1 _ r2,b1,b2,dR,ek,λt2 H2 Hg s2=>?_⟩;refine⟨bT Z,λl H3 n3=>?_⟩;have t3:=s1.trans (s2.trans n3.same);have mK:fj ns.length 1000 ms:=⟨by rw[ok1.len,ok2.len],ok2.up.bd,ok2.nz⟩;refine⟨_,Z,_,Z,_,Z,m,v1,v2,rs,r,f,j,t,ns,ms,sp,sq,Z,RD.mono t3 _ rm,RD.mono t3 _ r1,RD.mono t3 _ r2,ok1.up,mK,by rw[ok1.len];lia,j1,j2,λc H4 rc s4=>?_⟩;have T1:Bd 2000 (topR aB sp):=(Ow.vP a1 a2 dR ek).mono aA;have T2:Bd 2000 (topR aB sq):=(Ow.vP b1 b2 dR ek).mono aA;have R1:bw K H4 t1 (topR aB sp):=((Hh.go s2).go n3.same).go s4;have R2:bw K H4 t2 (topR aB sq):=(Hg.go n3.same).go s4;have t4:=t3.trans s4;rw[aar]at rc;cases hc:cornO j ns ms with
   |none=>
    rw[hc]at rc;cases rc.QE;refine⟨λO H5=>H5=H4/\O=[some m,some v1,some v2,some (.int aB),some (.ref l),some .bB],?_,?_⟩
    ·refine⟨_,Z,Z,_,Z,bN ?_⟩
     exact⟨Z,Z⟩
    rintro O H5 ⟨rfl,rfl⟩;refine⟨_,Z,l,[t1,t2],[topR aB sp,topR aB sq],Z,aH.of (s4 _ _ n3.at'),⟨R1,T1,R2,T2,trivial⟩,by simp,λi v q e1 e2 hq=>?_⟩;have uF:betR j aB (some (ns,sp)) (some (ms,sq))=q:=by
     show mnO (mn _ _) (cornO j ns ms)=q;rw[hc];refine nV ?_ (hq _ (by simp)) (hq _ (by simp))
     match i,e2 with |0,e2=>cases e2;exact .inl rfl |1,e2=>cases e2;exact .inr rfl
    refine k v _ ?_ t4;rw[uF]
    match i,e1,e2 with |0,e1,e2=>cases e1;cases e2;exact R1 |1,e1,e2=>cases e1;cases e2;exact R2
   |some cq=>
    rw[hc]at rc;have Rc:bw K H4 c cq:=nR rc;have Tc:Bd 2000 cq:=(Ow.Kw j1 j2 ok1.bd ok2.bd hc).mono aA;have kj:=s4 _ _ n3.at';have tU:iZ H4 (L2.upd H4 l (.lst ([t1,t2]++[c]))):=.qM kj;refine⟨λO H5=>H5=L2.upd H4 l (.lst ([t1,t2]++[c]))/\O=[some m,some v1,some v2,some (.int aB),some (.ref l),some c],?_,?_⟩
    ·obtain⟨pc,rfl,_⟩:=id Rc
     refine⟨_,Z,Z,_,Z,cg ?_⟩;refine⟨_,Z,.inl ⟨Z,_,aH.of kj⟩,_,Z,l,[t1,t2],_,Z,Z,kj,Yv _ (AL Z),?_⟩;exact⟨Z,Z⟩
    rintro O H5 ⟨rfl,rfl⟩;have up:∀{v:V}{q:Rat},bw K H4 v q->bw K (L2.upd H4 l (.lst ([t1,t2]++[c]))) v q:=λ{v q} h=>nR (RD.t tU _ (qU q) h.rd);refine⟨_,Z,l,[t1,t2,c],[topR aB sp,topR aB sq,cq],Z,aH.of bo,⟨up R1,T1,up R2,T2,up Rc,Tc,trivial⟩,by simp,λi v q e1 e2 hq=>?_⟩;have uF:betR j aB (some (ns,sp)) (some (ms,sq))=q:=by
     show mnO (mn _ _) (cornO j ns ms)=q;rw[hc];show mn (mn _ _) cq=q;have h1:=hq _ (show topR aB sp∈[topR aB sp,topR aB sq,cq] by simp);have h2:=hq _ (show topR aB sq∈[topR aB sp,topR aB sq,cq] by simp);have h3:=hq _ (show cq∈[topR aB sp,topR aB sq,cq] by simp);refine nV ?_ (lE h1 h2) h3
     match i,e2 with |0,e2=>cases e2;exact .inl (nV (.inl rfl) h1 h2).symm |1,e2=>cases e2;exact .inl (nV (.inr rfl) h1 h2).symm |2,e2=>cases e2;exact .inr rfl
    have sU:aF H (L2.upd H4 l (.lst ([t1,t2]++[c]))):=λb o e=>by have h0:H2 l=none:=n3.no;have e2:=s2 b o (s1 b o e);rw[aO (fT e2 h0)];exact t4 b o e
    refine k v _ ?_ sU;rw[uF]
    match i,e1,e2 with |0,e1,e2=>cases e1;cases e2;exact up R1 |1,e1,e2=>cases e1;cases e2;exact up R2 |2,e1,e2=>cases e1;cases e2;exact up Rc
theorem wL(qs:List Rat):cS (qs.map da)=true:=QH qU qs
theorem aJ.F9(dl:H l=some (.lst ys))(r:aJ K H ys ds)(rd:RD K H y d)(n1:cS ds=true)(n2:fw d=true):aJ K (L2.upd H l (.lst (ys.set i y))) (ys.set i y) (ds.set i d):=by have t:iZ H (L2.upd H l (.lst (ys.set i y))):=.qM dl;have r':=aJ.t t _ n1 r;have PK:=RD.t t _ n2 rd;clear r rd dl t;generalize L2.upd H l (.lst (ys.set i y))=H' at r' PK;induction ds generalizing ys i with |nil=>cases r'.nil_inv;exact cU |cons d0 ds ih=>
 obtain⟨y0,yr,rfl,h1,h2⟩:=r'.cons_inv;have n1':cS ds=true:=by rw[cS,fq]at n1;exact n1.2
 cases i with |zero=>exact bW PK h2 |succ i=>exact bW h1 (ih n1' h2)
theorem Kv(xs:List V):lO xs (some 1) none=xs.drop 1:=by unfold lO;have e:HT.cB xs.length 0 (some 1)=min 1 xs.length:=HT.Gx _ _ 1;rw[e,HT.P6];cases xs with |nil=>rfl |cons x xs=>
 have e2:min 1 (x::xs).length=1:=by simp
 rw[e2,E7 (by simp)]
inductive acK(K:aa)(vs:List V)(H:Hp)(Q:VK):Prop |mk (m:_)(iv:_)(aB:_)(rs:_)(r:_)(f:_)(j:_)(t:_)(ds:_)(os:_)(h0:vs=[m,iv,.int aB])(h1:RD K H m (iU rs r f j t))(h2:nv rs r f j t)(h3:RD K H iv (.tuple ds))(h4:gW rs.length ds os)(h5:ds.length<=100)(h6:10<=aB)(h7:aB<=200)(h8:∀l ys H',H l=none->H' l=some (.lst ys)->aJ K H' ys ((ownL j aB os).map da)->aF H H'->Q (.ref l) H')
def Nt(K:aa):Sp:=λvs H Q _=>acK K vs H Q
theorem Bx:bG ["machine","items","rate","between"] ["machine","items","rate"] (aZ Bz):=bQ aW
theorem a2p(F:FA K mg "own_bounds" Bz)(B:bV mg)(gN:GT K mg "NOUGHT" [.int 0,.int 1])(Jy:aI P w K mg ay "bound_between" 7 (Bw K)):aI P w K mg ay "own_bounds" 8 (Nt K):=by
 obtain⟨aN,lL,nN⟩:=gN;refine F.has Bx (λvs H Q E h=>?_) (λ_ _ _ _ _ _=>oN λ_ _ _=>rfl) (λf aP A outer s H vs Q E hr h=>?_)
 ·obtain⟨m,iv,aB,rs,r,f,j,t,ds,os,rfl,_⟩:=h
  rfl
 ·obtain⟨m,iv,aB,rs,r,f,j,t,ds,os,rfl,rm,aU,ri,row,hz,dR,ek,k⟩:=h
  have nd:=Bx.nd;have rN:∀H',RD K H' (.ref aN) (da 0):=λH'=>(uo (nN H')).rd;refine⟨_,(aE (bR (fD (HN K Z (pv 1))) (aL (aX (cK (ao (fm (x:="NOUGHT") Z lL) az)))) bU) (aE (BL (i0:=3) nd Z (Or.inl Z) (N:=["one","other","machine","rate"]) (js:=[none,none,some 0,some 2]) Z Z Z (jU K Z false false Z (B.at "zip") (ao (pv 1) (ao (qX (qO K rfl) (pv 1) (qV aD) qW) az))) (λ_ _ _ _ _=>(eG K rfl (n:=2) rfl (bZ (bp 0 (show List.Nodup (["one","other","machine","rate"]:List Str) by decide+kernel)) (bZ (bp 1 (show List.Nodup (["one","other","machine","rate"]:List Str) by decide+kernel)) eu)))) (λ_ _ _ _ _=>fL) (λ_ _ _ _ _=>(pf Jy hr (ao (pv 2) (ao (pv 0) (ao (pv 1) (ao (pv 3) az))))))) (aL (aX (aG (ku K Z) (aG (ku K Z) (cK (ao (fm (x:="NOUGHT") Z lL) az)) (pv 3)) (cK (ao (fm (x:="NOUGHT") Z lL) az))))))),?_⟩;obtain⟨ia,xs,rfl,hi,iH⟩:=ri.dS;have lx:=iH.length;have ll:=row.len;refine⟨_,Z,_,.inr (.inl ⟨_,hi,Z⟩),?_⟩;cases hd:xs with
  |nil=>
   subst hd;refine cg ?_;refine⟨bT Z,λl H1 n1=>?_⟩;refine k l [.ref aN] H1 n1.no n1.at' ?_ n1.same;have e:os=[]:=by
    have:os.length=0:=by rw[<-ll,<-lx];rfl
    exact AQ.mp this
   rw[e];exact bW (rN H1) cU |cons x0 xr=>
   refine bN ?_;have dP:os≠[]:=by intro e;rw[e]at ll;rw[hd]at lx;simp at ll lx;rw[ll]at lx;cases lx
   have zH:0<xs.length:=by rw[hd];simp
   refine⟨_,Z,_,Z,1,Z,ia,xs,Z,.inr ⟨hi,?_,λtl H1 n1=>?_⟩⟩
   ·rintro⟨h1,_⟩
    have e:HT.cB xs.length 0 (some 1)=min 1 xs.length:=HT.Gx _ _ 1;rw[e]at h1
    lia
   refine⟨ia,tl,Z,⟨_,hi.go n1.same⟩,⟨_,aR.of n1.at'⟩,λD H2 n2=>?_⟩;have et:=n1.at';rw[Kv]at et;have zd:∀(i:Nat)(o:Itm),os[i]? =some o->∀(ns:List Int)(sp:Int),o=some (ns,sp)->fj rs.length 100 ns/\1<=sp/\sp<=20:=λi o e ns sp e'=>row.ok i ns sp (by rw[e,e']);have lr:=aU.len;refine vh (K:=K) (b1:=false) (b2:=false) (xs:=xs) (ys:=xs.drop 1) (ds:=((List.range (os.length-1)).map (λi=>ownF j aB os (i+1))).map da) _ Z (hi.go n1.same) (aR.of et) n2 (by rw[yi];simp;lia) (by simp;lia) (wL _) ?_ ?_
   ·intro i x y d H3 Q' ex ey ed s3 hq
    have dw:=n1.same.trans s3;rw[List.getElem?_drop]at ey;obtain⟨d1,e1,r1⟩:=iH.get' i ex;obtain⟨d2,e2,r2⟩:=iH.get' (1+i) ey;obtain⟨o1,oE,i1⟩:=row.get e1;obtain⟨o2,mm,i2⟩:=row.get e2;have Sw:1+i<os.length:=(eh.mp mm).1;have lN:d=da (betR j aB o1 o2):=by rw[cI,cI,cn (by simp;lia),vI]at ed;have:=(dQ ed).symm;rw[this];show da (betR j aB (atO os i) (atO os (i+1)))=_;rw[Ow.qx oE,Ow.qx (show os[i+1]? =some o2 by rw[LR];exact mm)]
    subst lN;refine⟨_,Z,_,Z,_,Z,_,Z,m,x,y,aB,rs,r,f,j,t,d1,d2,o1,o2,rs.length,Z,RD.mono dw _ rm,aU.j1.1,aU.j1.2,RD.mono dw _ r1,RD.mono dw _ r2,i1,i2,zd _ _ oE,zd _ _ mm,au,dR,ek,λv H4 rv s4=>?_⟩;exact hq _ _ s4 rv.rd
   ·intro H3 zs s3 d3 r3
    have lz:=r3.length;simp at lz;refine⟨bT Z,λl1 H4 n4=>?_⟩;refine⟨_,Z,l1,D,_,zs,Z,Z,aH.of n4.at',aH.of (n4.same _ _ d3),yL _ (by simp;lia),λl2 H5 n5=>?_⟩;refine⟨bT Z,λl3 H6 n6=>?_⟩;refine⟨l2,l3,_,_,Z,Z,aH.of (n6.same _ _ n5.at'),aH.of n6.at',yL _ (by simp;lia),λl H7 n7=>?_⟩;have yQ:aF H H6:=n1.same.trans (s3.trans (n4.same.trans (n5.same.trans n6.same)));have nl:H l=none:=by cases e:H l with |none=>rfl |some o=>have:=yQ _ _ e;rw[n7.no]at this;cases this
    refine k l _ H7 nl n7.at' ?_ (yQ.trans n7.same);rw[Ow.Ql j aB dP,oX,oX];exact((bW (rN H7) cU).append (aJ.mono (n4.same.trans (n5.same.trans (n6.same.trans n7.same))) _ r3)).append (bW (rN H7) cU)
inductive acI(K:aa)(vs:List V)(H:Hp)(Q:VK):Prop |mk (v:_)(r:_)(z:_)(h0:vs=[v,.int z])(h1:bw K H v r)(h2:Bd 2000 r)(h3:z.natAbs<2^24)(h4:∀v H',bw K H' v (r+(z:Rat))->aF H H'->Q v H')
def Bu(K:aa):Sp:=λvs H Q _=>acI K vs H Q
theorem xr_addz {r : Rat} {z : Int} (m : r + (z : Rat) = Rat.divInt (r.num * (1:Nat) + z * r.den) (r.den * (1:Nat))) : r.num + z * r.den = (r + (z : Rat)).num ∧ (r.den : Int) = (r + (z : Rat)).den := by
  have c : (r.num + z * r.den).natAbs.Coprime r.den := (Int.gcd_add_mul_right_left (r.den : Int) r.num z).trans r.reduced
  have e : r + (z : Rat) = ⟨r.num + z * r.den, r.den, r.den_nz, c⟩ := by
    rw [m, Rat.mk_eq_divInt, Int.natCast_one, Int.mul_one, Int.mul_one]
  rw [e]
  exact ⟨rfl, rfl⟩
theorem Om:bG ["one","more","p","q"] ["one","more"] (aZ Gf):=bQ aW
theorem a2l(F:FA K mg "plus_whole" Gf)(B:bV mg):aI P w K mg ay "plus_whole" 4 (Bu K):=by
 refine F.has Om (λvs H Q E h=>?_) (λ_ _ _ _ _ _=>dJ λ_ _=>rfl) (λf aP A outer s H vs Q E hr h=>?_)
 ·obtain⟨v,r,z,rfl,_⟩:=h
  rfl
 ·obtain⟨v,r,z,rfl,rv,br,hz,k⟩:=h
  have nd:=Om.nd
  obtain ⟨p,rfl,hp⟩:=rv
  refine ⟨_,(aE (fZ (pv 0) (eG K Z (n:=2) Z (bZ (bp 2 nd) (bZ (bp 3 nd) eu)))) (aL (aX (ck (ao (aG dc (pv 2) (aG bM (pv 1) (pv 3))) (ao (pv 3) az)))))),?_⟩
  refine ⟨_,rfl,_,_,rfl,hp,rfl,_,_,rfl,_,_,rfl,rfl,?_⟩
  have bz:Bd 24 (z:Rat):=⟨hz,by show 1<2^24;decide⟩
  obtain ⟨e1,e2⟩:=xr_addz (add_div r z)
  refine ⟨_,rfl,_,rfl,_,rfl,_,_,rfl,rfl,iO (bz.mono aA).wn.bits br.wd.bits,_,_,rfl,rfl,_,rfl,bT Z,fun t H' n=>k _ _ ⟨t,rfl,aR.of ?_⟩ n.same⟩
  rw [← e1,← e2]; exact n.at'
theorem Ck{os:List Itm}{i:Nat}{ns:List Int}{sp:Int}(h:os[i]? =some (some (ns,sp))):leadF os i=some (aM ns):=by unfold leadF;rw[Ow.qx h];rfl
theorem RL{os:List Itm}{i:Nat}(h:os[i]? =some none):leadF os i=none:=by unfold leadF;rw[Ow.qx h];rfl
theorem RM{os:List Itm}(h:OkIs os){i m:Nat}(e:leadF os i=some m):m<=100:=by unfold leadF at e;cases ho:atO os i with |none=>rw[ho]at e;cases e |some q=>rw[ho]at e;cases e;obtain⟨a,_,_⟩:=h i q.1 q.2 ho;exact nZ λz hz=>by have:=a z hz;lia
theorem Mq{r:Int}{m:Nat}(h1:1<=r)(h2:r<=50)(h3:m<=100):(2*r*(m:Int)).natAbs<2^24:=by
 have kg:(2:Nat)^24=16777216:=by decide
 have:=lD (a:=2*r) (b:=(m:Int)) (m:=100) (n:=100) au au;rw[kg];lia
theorem OT:bG ["machine","items","squares","fall","kept","i"] ["machine","items","squares"] (aZ GJ):=bQ aW
theorem NY:bG ["_law_one","_law_other_here"] ["_law_one","_law_other_here"] (aZ Fu):=bQ aW
theorem a1Q(F:FA K mg "_law_sum" Fu)(B:bV mg)(rW:aI P w K mg ay "_law_frac" 1 (yH K)):aI P w K mg ay "_law_sum" 2 (nO (·+·) K):=by
 refine F.has NY (λvs H Q E h=>?_) (λ_ _ _ _ _ _=>dJ λ_ _=>rfl) (λf aP A outer s H vs Q E hr h=>?_)
 ·obtain⟨v1,v2,r,s,rfl,_⟩:=h
  rfl
 ·obtain⟨v1,v2,r,s,rfl,⟨p,rfl,hp⟩,⟨q,rfl,hq⟩,br,bs,k⟩:=h
  have nd:=NY.nd;refine⟨_,(aL (aX (pf rW hr (ao (aG dc (aG bM (px K (pv 0) aD) (px K (pv 1) aD)) (aG bM (px K (pv 1) aD) (px K (pv 0) aD))) (ao (aG bM (px K (pv 0) aD) (px K (pv 1) aD)) az))))),?_⟩;refine⟨_,Z,.inr ⟨p,_,0,.int r.num,Z,Z,hp,Z,_,Z,.inr ⟨q,_,1,.int s.den,Z,Z,hq,Z,_,_,Z,Z,iO br.wn.bits bs.wd.bits,?_⟩⟩⟩;refine⟨_,Z,.inr ⟨q,_,0,.int s.num,Z,Z,hq,Z,_,Z,.inr ⟨p,_,1,.int r.den,Z,Z,hp,Z,_,_,Z,Z,iO bs.wn.bits br.wd.bits,?_⟩⟩⟩;refine⟨_,_,Z,Z,?_⟩;refine⟨_,Z,.inr ⟨p,_,1,.int r.den,Z,Z,hp,Z,_,Z,.inr ⟨q,_,1,.int s.den,Z,Z,hq,Z,_,_,Z,Z,iO br.wd.bits bs.wd.bits,?_⟩⟩⟩;refine⟨_,_,Z,j7 (den_pos r) (den_pos s),B9 br bs,λv H' r' s'=>k v H' ?_ s'⟩;show bw K H' v (r+s);rw[add_div];exact r'
theorem Oz:bG ["_law_one","_law_other_here"] ["_law_one","_law_other_here"] (aZ Gp):=bQ aW
theorem a2z(F:FA K mg "_law_less" Gp)(B:bV mg):aI P w K mg ay "_law_less" 1 (wa K):=by
 refine F.has Oz (λvs H Q E h=>?_) (λ_ _ _ _ _ _=>dJ λ_ _=>rfl) (λf aP A outer s H vs Q E hr h=>?_)
 ·obtain⟨v1,v2,r,s,rfl,_⟩:=h
  rfl
 ·obtain⟨v1,v2,r,s,rfl,⟨p,rfl,hp⟩,⟨q,rfl,hq⟩,br,bs,k⟩:=h
  have nd:=Oz.nd;refine⟨_,(aL (aX (fE kJ (aG bM (px K (pv 0) aD) (px K (pv 1) aD)) (aG bM (px K (pv 1) aD) (px K (pv 0) aD)) (bI _)))),?_⟩;refine⟨_,Z,.inr ⟨p,_,0,.int r.num,Z,Z,hp,Z,_,Z,.inr ⟨q,_,1,.int s.den,Z,Z,hq,Z,_,_,Z,Z,iO br.wn.bits bs.wd.bits,?_⟩⟩⟩;refine⟨_,Z,.inr ⟨q,_,0,.int s.num,Z,Z,hq,Z,_,Z,.inr ⟨p,_,1,.int r.den,Z,Z,hp,Z,_,_,Z,Z,iO bs.wn.bits br.wd.bits,?_⟩⟩⟩;refine⟨_,_,Z,Z,?_⟩;have e:decide (r.num*(s.den:Int)<s.num*(r.den:Int))=decide (r<s):=by rw[oZ,sX,sX,Rat.lt_iff]
  show Q (.bl (decide (r.num*(s.den:Int)<s.num*(r.den:Int)))) H;rw[e];exact k
theorem Ov:bG ["_law_some","_law_best","_law_one"] ["_law_some"] (aZ Gk):=bQ aW
theorem a2u(F:FA K mg "_law_min" Gk)(B:bV mg)(a7B:aI P w K mg ay "_law_less" 1 (wa K)):aI P w K mg ay "_law_min" 2 (jy K):=by
 refine F.has Ov (λvs H Q E h=>?_) (λ_ _ _ _ _ _=>fH λ_=>rfl) (λf aP A outer s H vs Q E hr h=>?_)
 ·obtain⟨l,xs,rs,rfl,_⟩:=h
  rfl
 ·obtain⟨l,xs,rs,rfl,hl,mS,dP,k⟩:=h
  have nd:=Ov.nd;refine⟨_,(aE (pS 1 nd (px K (pv 0) aD)) (aE (m6 ip Z (yZ K Z (pv 0)) (bp 2 nd) (aL (bR (cV (pf a7B hr (ao (pv 2) (ao (pv 1) az)))) (aL (pS 1 nd (pv 2))) bU))) (aL (aX (pv 1))))),?_⟩;have hlen:=mS.length;have h0:0<xs.length:=LV.mpr dP;have e0:=cn h0;refine⟨_,Z,.inl ⟨l,xs,0,xs[0],Z,Z,hl,dC aA e0,?_⟩⟩;refine⟨_,Z,l,Z,⟨_,hl⟩,JR (K:=K) (a:=l) (xs:=xs) (λi O H2=>H2=H/\∃(j:Nat)(b:V)(r:Rat)(v:Option V),xs[j]? =some b/\rs[j]? =some r/\(∀(m:Nat)(s:Rat),m<i->rs[m]? =some s->r<=s)/\O=[some (.ref l),some b,v]) ?_ (λi O H2 _ h=>by rw[h.1];exact hl) ?_ ?_⟩
  ·obtain⟨r,e1,_⟩:=mS.get e0
   exact⟨Z,0,_,r,none,e0,e1,λm s hm=>absurd hm (Nat.not_lt_zero _),Z⟩
  ·rintro i x O H2 hx ⟨rfl,j,b,r,v,eb,er,hm,rfl⟩
   obtain⟨t,et,rt,bt⟩:=mS.get hx;obtain⟨r2,oA,rb,bb⟩:=mS.get eb;rw[er]at oA;cases oA;refine⟨_,Z,_,Z,x,b,t,r,Z,rt,rb,bt,bb,_,Z,?_⟩;refine eQ (λhc=>?_) (λhc=>?_)
   ·have cJ:t<r:=jL hc
    refine⟨_,Z,?_⟩;refine⟨Z,i,x,t,_,hx,et,λm s o9 es=>?_,Z⟩;rcases LP.mp o9 with h|h
    ·exact fg (LF cJ) (hm m s h es)
    ·subst h
     rw[et]at es;cases es;exact tm
   ·have Jk:¬t<r:=λz=>hc (cP z)
    refine⟨Z,j,b,r,_,eb,er,λm s o9 es=>?_,Z⟩;rcases LP.mp o9 with h|h
    ·exact hm m s h es
    ·subst h
     rw[et]at es;cases es;exact Rat.not_lt.mp Jk
  ·rintro O H2 ⟨rfl,j,b,r,v,eb,er,hm,rfl⟩
   refine⟨_,Z,k j b r eb er λs hs=>?_⟩;obtain⟨m,Jo,em⟩:=WA.mp hs;exact hm m s au (by rw[cn Jo,em])
theorem a1K(F:FA K mg "_law_top" Fm)(B:bV mg)(rW:aI P w K mg ay "_law_frac" 1 (yH K)):aI P w K mg ay "_law_top" 2 (EN K):=by
 refine F.has NS (λvs H Q E h=>?_) (λ_ _ _ _ _ _=>dJ λ_ _=>rfl) (λf aP A outer s H vs Q E hr h=>?_)
 ·obtain⟨v,ns,sp,r,rfl,_⟩:=h
  rfl
 ·obtain⟨v,ns,sp,r,rfl,rd,s1,s2,r1,r2,k⟩:=h
  have nd:=NS.nd;refine⟨_,(aL (aX (pf rW hr (ao (aG bM (aG bM (aG bM (px K (pv 0) aD) (px K (pv 0) aD)) (pv 1)) (pv 1)) (ao aD az))))),?_⟩;obtain⟨a,b,rfl,ha,hb⟩:=m8 rd;have m1:(sp*sp).natAbs<=20*20:=by rw[fY];exact mF fh fh
  have m2:(sp*sp*r).natAbs<=400*200:=by rw[fY];exact mF fh fh
  refine⟨_,Z,.inr ⟨a,_,2,.int sp,Z,Z,ha,Z,_,Z,.inr ⟨a,_,2,.int sp,Z,Z,ha,Z,_,_,Z,Z,.of_left (cm fh fh),?_⟩⟩⟩;refine⟨_,Z,_,_,Z,Z,.of_left (cm fh fh),_,Z,_,_,Z,Z,.of_left (cm fh fh),?_⟩;refine⟨_,_,Z,aA,iq (n:=20) aA aA,λv' H' r' s'=>k v' H' ?_ s'⟩;rw[MZ]at r';exact r'
theorem mn3(h:q=x\/q=y\/q=z)(h1:q<=x)(h2:q<=y)(h3:q<=z):mn (mn x y) z=q:=by
 refine E3 ?_ (lE (lE h1 h2) h3);rcases h with h|h|h
 ·rw[h];exact fg (gJ _ _) (gJ _ _)
 ·rw[h];exact fg (gJ _ _) (kL _ _)
 ·rw[h];exact kL _ _
theorem zA(h:fj n 100 ns):aM ns<=100:=by have:=h.lead;lia
open Wk
def g9(pl:List Int):ai:=.tuple (pl.map PyData.int)
theorem jT(pl:List Int):fw (g9 pl)=true:=by rw[g9,fw];exact lj pl
theorem uf{v:V}(h:RD K H v (g9 pl)):∃a,v= .ref a/\aR K H a (pl.map V.int):=by obtain⟨a,xs,rfl,h1,h2⟩:=h.dS;rw[h2.ja]at h1;exact⟨a,Z,h1⟩
theorem wy(h:aR K H a (pl.map V.int)):RD K H (.ref a) (g9 pl):=gA h (u9 pl)
def fO(pl:List Int):Itm->List Int |none=>pl |some (ns,_)=>gj pl ns
theorem bO.putL(b:bO p H H1)(hp:l≠p)(nl:H l=none):bO p H (L2.upd H1 l (.lst xs)):=by
 refine⟨?_,λc o n e=>?_⟩
 ·obtain⟨c',m',e,ok⟩:=b.bu
  exact⟨c',m',by rw[aO hp.symm];exact e,ok⟩
 ·rw[aO (fT e nl)];exact b.same c o n e
inductive acH(K:aa)(vs:List V)(H:Hp)(Q:VK):Prop |mk (p:_)(m:_)(rs:_)(r:_)(f:_)(j:_)(t:_)(h0:vs=[.ref p,m])(h1:eK H p)(h2:RD K H m (iU rs r f j t))(h3:nv rs r f j t)(h4:∀v pl H',RD K H' v (g9 pl)->jJ rs pl->bO p H H'->Q v H')
def Nq(K:aa):Sp:=λvs H Q _=>acH K vs H Q
theorem Ol:bG ["_law_bag_here","_law_machine_here"] ["_law_bag_here","_law_machine_here"] (aZ Ge):=bQ aW
theorem a2n(F:FA K mg "_law_place" Ge)(B:bV mg)(eO:aI P w K mg ay "_law_take" 1 pA):aI P w K mg ay "_law_place" 2 (Nq K):=by
 refine F.has Ol (λvs H Q E h=>?_) (λ_ _ _ _ _ _=>dJ λ_ _=>rfl) (λf aP A outer s H vs Q E hr h=>?_)
 ·obtain⟨p,m,rs,r,f,j,t,rfl,_⟩:=h
  rfl
 ·obtain⟨p,m,rs,r,f,j,t,rfl,bg,rm,qZ,k⟩:=h
  have nd:=Ol.nd;refine⟨_,(aL (aX (gQ (x:="tuple") (kX K Z) Z (B.at "tuple") fW (ao (gB (N:=["_law_rail","_law_bag_here"]) (js:=[none,some 0]) rfl rfl rfl (pH K rfl (px K (pv 1) aD)) (λ_ _ _ _ _=>(bp 0 (fF aA))) (λ_ _ _ _ _=>fL) (λ_ _ _ _ _=>(pf eO hr (ao (pv 1) (ao (aG dc (pv 0) aD) az))))) az)))),?_⟩;obtain⟨ma,mb,rfl,gf,iI⟩:=jY rm;have lr:=qZ.len;refine⟨_,Z,.inr ⟨ma,_,0,.ref mb,Z,Z,gf,dC (gO 0) Z,mb,Z,⟨_,iI⟩,λD H1 n1=>?_⟩⟩;refine UJ (K:=K) (J:=qB K mb) (p:=p) (H:=H) rs.length _ n1 bg au (λi=>.int (rs.getD i 0)) (λi H2 hi b2=>?_) (λH2 b2=>?_) (λi d=>∃z r,d= .int z/\rs[i]? =some r/\0<=z/\z<=r) ?_ ?_
  ·have CG:=iI.t (bO.t bg b2)
   have e:(rs.map V.int)[i]? =some (.int (rs.getD i 0)):=by rw[cI,WD,cn hi];rfl
   exact⟨⟨_,_,CG,e⟩,λy H3 ⟨e3,y3⟩=>⟨e3,by have:=y3 _ CG;rw[e]at this;exact(dQ this).symm⟩⟩
  ·exact⟨_,iI.t (bO.t bg b2),by rw[cx];exact bK _⟩
  ·intro i H2 Q' hi b2 hq
   have er:rs[i]? =some (rs.getD i 0):=by rw[WD,cn hi];rfl
   obtain⟨r0,r1⟩:=qZ.rl _ (gI er);refine⟨_,Z,_,Z,_,_,Z,Z,p,_,Z,b2.bu,au,au,λz H3 z0 z1 b3=>?_⟩;exact hq _ _ _ ⟨z,_,Z,er,z0,au⟩ Z (dU z) b3
  ·intro H2 ys ds b2 d2 r2 l2 nl pd
   have rS:∃pl:List Int,ds=pl.map PyData.int/\jJ rs pl:=by
    have key:∀(ds:List ai),(∀d∈ds,∃z:Int,d= .int z)->∃pl:List Int,ds=pl.map PyData.int:=by intro ds;induction ds with |nil=>exact λ_=>⟨[],Z⟩ |cons d ds ih=>intro h;obtain⟨z,rfl⟩:=h d (.head _);obtain⟨pl,rfl⟩:=ih λx hx=>h x (.tail _ hx);exact⟨z::pl,Z⟩
    obtain⟨pl,rfl⟩:=key ds λd hd=>by obtain⟨i,hi⟩:=tG.mp hd;obtain⟨z,_,e,_⟩:=pd i d hi;exact⟨z,e⟩
    refine⟨pl,Z,by simpa using l2,λi x r e1 e2=>?_⟩;obtain⟨z,r',e,er,h0,h1⟩:=pd i (.int x) (by rw[cI,e1];rfl);cases e;rw[e2]at er;cases er;exact⟨h0,h1⟩
   obtain⟨pl,rfl,on⟩:=rS;refine⟨D,_,Z,.inl ⟨aH.of d2,λt H3 n3=>?_⟩⟩;have et:=n3.at';rw[r2.ja]at et;exact k (.ref t) pl H3 (wy (aR.of et)) on (b2.trans (.gq b2.bu n3.same))
inductive acR(K:aa)(vs:List V)(H:Hp)(Q:VK):Prop |mk (p:_)(m:_)(rs:_)(r:_)(f:_)(j:_)(t:_)(x:_)(pl:_)(mo:_)(h0:vs=[.ref p,m,x,.int mo])(h1:eK H p)(h2:RD K H m (iU rs r f j t))(h3:nv rs r f j t)(h4:RD K H x (g9 pl))(h5:jJ rs pl)(h6:1<=mo)(h7:mo<=100)(h8:∀v ns sp H',RD K H' v (iE ns sp)->fj rs.length 100 ns->1<=sp->sp<=20->jJ rs (gj pl ns)->bO p H H'->Q v H')
def EW(K:aa):Sp:=λvs H Q _=>acR K vs H Q
def gG(rs pl is:List Int)(mo:Int):Prop:=∀(j:Nat)(z a r:Int),is[j]? =some z->pl[j]? =some a->rs[j]? =some r->0<=a+z/\a+z<=r/\(z.natAbs:Int)<=mo
theorem gG.on{is:List Int}(h:gG rs pl is mo)(lp:pl.length=rs.length)(ls:is.length=pl.length):jJ rs (gj pl is):=by
 refine⟨by rw[sM ls];exact lp,?_⟩;intro j x r ej oB;have hj:j<pl.length:=by have:=(eh.mp ej).1;rw[sM ls]at this;exact this
 have Uh:=Lf (cn hj) (cn (show j<is.length by lia));rw[ej]at Uh;have ej3:=dQ Uh;have:=h j _ _ r (cn (show j<is.length by lia)) (cn hj) oB
 lia
theorem gG.bd{is:List Int}(h:gG rs pl is mo)(lp:pl.length=rs.length)(ls:is.length=pl.length):∀z∈is,(z.natAbs:Int)<=mo:=λz md=>by obtain⟨j,hj⟩:=tG.mp md;have Ss:=(eh.mp hj).1;exact(h j z _ _ hj (cn (show j<pl.length by lia)) (cn (show j<rs.length by lia))).2.2
theorem gG.snoc{rs pl is:List Int}{mo z a r:Int}(h:gG rs pl is mo)(ea:pl[is.length]? =some a)(er:rs[is.length]? =some r)(hz:0<=a+z/\a+z<=r/\(z.natAbs:Int)<=mo):gG rs pl (is++[z]) mo:=by
 intro j z' a' r' ej oF oB;by_cases hj:j<is.length
 ·rw[yj hj]at ej
  exact h j z' a' r' ej oF oB
 ·have pY:j=is.length:=by
   have:=(eh.mp ej).1;rw[fC]at this;have:j<is.length+1:=this
   lia
  rw[pY,AU (bK _),LM]at ej;cases ej;rw[pY]at oF oB;rw[ea]at oF;rw[er]at oB;cases oF;cases oB;exact hz
theorem gG.set{is:List Int}(h:gG rs pl is mo)(ea:pl[i]? =some a)(er:rs[i]? =some r)(hz:0<=a+z/\a+z<=r/\(z.natAbs:Int)<=mo):gG rs pl (is.set i z) mo:=by
 intro j z' a' r' ej oF oB;by_cases hj:j=i
 ·subst hj
  rw[ea]at oF;rw[er]at oB;cases oF;cases oB;have hl:j<is.length:=by have:=(eh.mp ej).1;rwa [vG]at this
  rw[AS hl]at ej;cases ej;exact hz
 ·rw[LW (e9 hj)]at ej
  exact h j z' a' r' ej oF oB
theorem Oy:bG ["_law_bag_here","_law_machine_here","_law_place_here","_law_most","_law_steps","_law_flat","_law_axis","_law_stand_here","_law_low","_law_high"] ["_law_bag_here","_law_machine_here","_law_place_here","_law_most"] (aZ Gn):=bQ aW
theorem a2y(F:FA K mg "_law_line" Gn)(B:bV mg)(eO:aI P w K mg ay "_law_take" 1 pA):aI P w K mg ay "_law_line" 2 (EW K):=by
 refine F.has Oy (λvs H Q E h=>?_) (λ_ _ _ _ _ _=>Le λ_ _ _ _=>rfl) (λfa aP A outer s H vs Q E hr h=>?_)
 ·obtain⟨p,m,rs,r,f,j,t,x,pl,mo,rfl,_⟩:=h
  rfl
 ·obtain⟨p,m,rs,r,f,j,t,x,pl,mo,rfl,bg,rm,qZ,rx,on,QX,QW,k⟩:=h
  have nd:=Oy.nd;refine⟨_,(aE (pS 4 nd (cK az)) (aE (pS 5 nd (pf eO hr (ao (pv 0) (ao aD az)))) (aE (m6 ip Z (a0N K Z false Z (B.at "enumerate") (ao (pv 2) az)) (eG K rfl (n:=2) rfl (bZ (bp 6 nd) (bZ (bp 7 nd) eu))) (aE (pS 8 nd (dM (x:="max") (V5 Z) Z (B.at "max") E4 (ao aD (ao (aG gc (pv 7) (pv 3)) az)))) (aE (pS 9 nd (dM (x:="min") (Kz Z) Z (B.at "min") Wu (ao (px K (px K (pv 1) aD) (pv 6)) (ao (aG dc (pv 7) (pv 3)) az)))) (aE (iA (jW K Z (pv 4) (ao (aG gc (aG dc (pv 8) (pf eO hr (ao (pv 0) (ao (aG dc (aG gc (pv 9) (pv 8)) aD) az)))) (pv 7)) az))) (aL (bR (cu (cY K Z hr.units) (pv 5) (pv 6) (bI _)) (aL (fZ aD (ug (pv 4) (pv 6) set_list))) bU)))))) (aE (hJ (bR (fD (cV (dM (x:="any") (abo K Z Z) Z (B.at "any") Ww (ao (pv 4) az)))) (aE (pS 6 nd (pf eO hr (ao (pv 0) (ao (eL K B (ao (pv 4) az)) az)))) (aL (fZ (aG gc aD (aG bM aD (gQ (x:="int") V6 Z (B.at "int") LL (ao (fE uh (px K (pv 2) (pv 6)) aD (bI _)) az)))) (ug (pv 4) (pv 6) set_list)))) bU)) (aL (aX (ck (ao aV (ao (gQ (x:="tuple") (kX K Z) Z (B.at "tuple") fW (ao (pv 4) az)) (ao (aG dc aD (pf eO hr (ao (pv 0) (ao aD az)))) az)))))))))),?_⟩;have lr:=qZ.len;have lp:=on.len;obtain⟨ma,mb,rfl,gf,iI⟩:=jY rm;obtain⟨xa,rfl,J8⟩:=uf rx;refine⟨bT Z,λl H1 n1=>?_⟩;have b1:bO p H H1:=.gq bg n1.same;have wY:l≠p:=λz=>bg.ne (z▸n1.no);refine⟨_,Z,p,4,Z,b1.bu,aA,aA,λfl H2 f0 f1 b2=>?_⟩;have vi:=b1.trans b2;have Y8:=bO.t bg vi;refine⟨_,Z,xa,Z,⟨_,J8.t Y8⟩,a8b (K:=K) (b:=false) (a:=xa) (xs:=pl.map V.int) (λi O H3=>bO p H H3/\∃(is:List Int)(v1 v2 v3 v4:Option V),H3 l=some (.lst (is.map V.int))/\is.length=i/\gG rs pl is mo/\O=[some (.ref p),some (.ref ma),some (.ref xa),some (.int mo),some (.ref l),some (.int fl),v1,v2,v3,v4]) ?_ (λi O H3 _ h=>J8.t (bO.t bg h.1)) ?_ ?_⟩
  ·exact⟨vi,[],none,none,none,none,b2.same _ _ wY n1.at',Z,λj z a r e=>by simp at e,Z⟩
  ·rintro i y O H3 hy ⟨b3,is,v1,v2,v3,v4,dl,li,hz,rfl⟩ T H4 n4
   rw[cI]at hy;obtain⟨a,ea,rfl⟩:=Wx.mp hy;have Su:i<pl.length:=(eh.mp ea).1;obtain⟨rl,er⟩:∃rl,rs[i]? =some rl:=⟨_,cn (show i<rs.length by lia)⟩;obtain⟨a0,a1⟩:=on.at' i a rl ea er;obtain⟨r0,r1⟩:=qZ.rl rl (gI er);have b4:bO p H H4:=b3.trans (.gq b3.bu n4.same);have t4:=bO.t bg b4;have kj:=n4.same _ _ dl;have atr:fP (rs.map V.int) (i:Int)=some (.int rl):=dC au (by rw[cI];simp[er]);refine⟨T,_,Z,aR.of n4.at',Z,_,_,Z,_,_,Z,Z,?_⟩;refine⟨_,Z,_,Z,_,_,Z,Z,_,_,Z,?_⟩;obtain⟨low,a9R,lo0,lo1,lo2⟩:∃low:Int,(if a-mo>0 then a-mo else 0)=low/\0<=low/\a-mo<=low/\low<=a:=⟨_,Z,by split<;>lia,by split<;>lia,by split<;>lia⟩;rw[a9R];refine⟨_,Z,.inr ⟨ma,_,0,.ref mb,Z,Z,gf.t t4,Z,_,Z,.inr ⟨mb,_,_,.int rl,Z,Z,iI.t t4,atr,_,Z,_,Z,_,_,Z,Z,_,_,Z,?_⟩⟩⟩;obtain⟨hi,uY,hi0,hi1,Sw⟩:∃hi:Int,(if a+mo<rl then a+mo else rl)=hi/\a<=hi/\hi<=rl/\hi<=a+mo:=⟨_,Z,by split<;>lia,by split<;>lia,by split<;>lia⟩;rw[uY];refine⟨_,Z,.inl ⟨Z,_,aH.of kj⟩,?_⟩;refine⟨_,Z,_,Z,_,Z,_,Z,_,_,Z,Z,_,_,Z,Z,p,hi-low+1,Z,b4.bu,au,au,λd H5 d0 d1 b5=>?_⟩;refine⟨_,_,Z,Z,_,Z,_,_,Z,Z,l,_,_,Z,Z,b5.same _ _ wY kj,?_,?_⟩
   ·rw[cx,li]
    have:(1000:Nat)<sizeLine:=by decide
    lia
   have b6:bO p H (L2.upd H5 l (.lst (is.map V.int++[.int (low+d-a)]))):=(b4.trans b5).putL wY n1.no;have e6:(L2.upd H5 l (.lst (is.map V.int++[.int (low+d-a)]))) l=some (.lst ((is++[low+d-a]).map V.int)):=by rw[bo,oX];rfl
   generalize L2.upd H5 l (.lst (is.map V.int++[.int (low+d-a)]))=H6 at b6 e6⊢;rw[<-li]at ea er;have MX:=hz.snoc ea er (z:=low+d-a) au;refine⟨_,Z,_,Z,.inl ⟨_,_,Z,Z,_,Z,?_⟩⟩;refine eQ (λhc=>?_) (λhc=>?_)
   ·have ix:jD ((is++[low+d-a]).map V.int).length (i:Int)=some i:=by unfold jD;rw[bh au,bh (by rw[cx,fC];show(i:Int)<((is.length+1:Nat):Int);lia)];simp
    refine⟨_,Z,_,Z,l,_,_,_,Z,Z,e6,ix,?_⟩;refine⟨b6.putL wY n1.no,(is++[low+d-a]).set i 0,_,_,_,_,by rw[bo,AN],by rw[vG,fC,li];rfl,?_,Z⟩;rw[li]at ea er;exact MX.set ea er au
   ·exact⟨b6,is++[low+d-a],_,_,_,_,e6,by rw[fC,li];rfl,MX,Z⟩
  ·rintro O H3 ⟨b3,is,v1,v2,v3,v4,dl,li,hz,rfl⟩
   rw[cx]at li;have t3:=bO.t bg b3;refine⟨λO H4=>bO p H H4/\∃(is:List Int)(v1:Option V),H4 l=some (.lst (is.map V.int))/\fj rs.length 100 is/\jJ rs (gj pl is)/\O=[some (.ref p),some (.ref ma),some (.ref xa),some (.int mo),some (.ref l),some (.int fl),v1,v2,v3,v4],?_,?_⟩
   ·refine⟨_,Z,l,is,Z,.inl (aH.of dl),_,Z,?_⟩
    cases ha:is.any (· !=0)with |false=>
     refine cg ?_;refine⟨_,Z,_,Z,l,_,Z,.inl (aH.of dl),p,_,Z,b3.bu,(by rw[cx];lia),(by rw[cx];lia),λax H4 a0 a1 b4=>?_⟩;rw[cx]at a1;have Vk:=b3.trans b4;have SN:ax.toNat<pl.length:=by lia
     have ea:=cn SN;have er:=cn (show ax.toNat<rs.length by lia);obtain⟨q0,q1⟩:=on.at' _ _ _ ea er;obtain⟨r0,r1⟩:=qZ.rl _ (gI er);have Vo:fP (pl.map V.int) ax=some (.int pl[ax.toNat]):=dC a0 (by rw[cI,ea];rfl);generalize pl[ax.toNat]=qa at ea q0 q1 Vo;generalize rs[ax.toNat]=qr at er q1 r0 r1;refine⟨_,Z,_,Z,.inr ⟨xa,_,_,_,Z,Z,J8.t (bO.t bg Vk),Vo,?_⟩⟩;refine⟨_,_,Z,Z,.inr ⟨_,Z,?_⟩⟩;refine⟨_,_,Z,Z,.of_left (cm aA aA),_,_,Z,Z,?_⟩;obtain⟨y,ey,y1,y2,y3⟩:∃y:Int,(1-2*(if decide (qa>0)=true then 1 else 0):Int)=y/\y.natAbs=1/\0<=qa+y/\qa+y<=qr:=by
      by_cases h:qa>0
      ·rw[cP h];exact⟨-1,Z,Z,au,au⟩
      ·rw[fk h];exact⟨1,Z,Z,au,au⟩
     have kj:=b4.same _ _ wY dl;have ix:jD (is.map V.int).length ax=some ax.toNat:=by unfold jD;rw[bh a0,bh (by rw[cx];lia)]
     refine⟨_,Z,_,Z,l,_,_,_,Z,Z,kj,ix,?_⟩;have st:=hz.set (i:=ax.toNat) ea er (z:=y) au;have ls:(is.set ax.toNat y).length=pl.length:=by rw[vG];lia
     refine⟨Vk.putL wY n1.no,is.set ax.toNat y,_,?_,⟨au,λz md=>?_,?_⟩,st.on lp ls,Z⟩
     ·rw[bo,<-AN]
      simp only[ey]
     ·have:=st.bd lp ls z md;lia
     ·exact⟨y,WA.mpr ⟨ax.toNat,by rw[vG];lia,by rw[List.getElem_set_self]⟩,au⟩ |true=>
     refine bN ?_;have ls:is.length=pl.length:=by lia
     refine⟨b3,is,_,dl,⟨au,λz md=>?_,?_⟩,hz.on lp ls,Z⟩
     ·have:=hz.bd lp ls z md;lia
     ·obtain⟨z,md,h0⟩:=List.any_eq_true.mp ha
      exact⟨z,md,by simpa using h0⟩
   rintro O H4 ⟨b4,is,v1,dl,ok,on2,rfl⟩;refine⟨_,Z,l,_,Z,.inl ⟨aH.of dl,λq H5 n5=>?_⟩⟩;have b5:bO p H H5:=b4.trans (.gq b4.bu n5.same);have qp:q≠p:=λe=>b4.bu.ne (e▸n5.no);refine⟨_,Z,p,20,Z,b5.bu,aA,aA,λsp H6 p0 p1 b6=>?_⟩;refine⟨_,_,Z,Z,bT Z,λt H7 n7=>?_⟩;have b7:=b5.trans (b6.trans (.gq b6.bu n7.same));exact k (.ref t) is (1+sp) H7 (gA (aR.of n7.at') (bW (cM _) (bW (gA (aR.of (n7.same _ _ (b6.same _ _ qp n5.at'))) (u9 is)) (bW (dU _) cU)))) ok au au on2 b7
def gH(z:Str):Prop:=∀c∈z.cps.toList,c<0x110000
theorem gH.app(ha:gH a)(hb:gH b):gH (a++b):=λc hc=>by rw[Wn,Eg,vF]at hc;exact hc.elim (ha c) (hb c)
theorem gH.joined{sep:Str}(hs:gH sep):∀l:List Str,(∀a∈l,gH a)->gH (PySem.Str.join sep l) |[],_=>λc hc=>by simp[PySem.Str.join,PySem.Str.empty]at hc |[x],h=>h x (.head _) |x::y::r,h=>((h x (.head _)).app hs).app (gH.joined hs (y::r) λa ha=>h a (.tail _ ha))
theorem gH.join(hs:gH sep)(h:∀a∈l,gH a):gH (Txt.join sep l):=by show gH (Builtin.Str.glued sep l);rw[StrLaws.glued_eq_join];exact gH.joined hs l h
theorem a1E(h:gH z):cZ n (.str z):=⟨by show PyData.strOk z=true;unfold PyData.strOk;rw[ae8];exact λc hc=>cP (h c (by simpa using hc)),gy _⟩
theorem a1D(h:cZ n (.str z)):gH z:=λc hc=>by have q:PyData.strOk z=true:=h.lay;unfold PyData.strOk at q;rw[ae8]at q;exact jL (q c (by simpa using hc))
theorem Qz(h:z.cps.all (·<0x110000)=true):gH z:=a1D (n:=0) ⟨h,gy _⟩
theorem MT:∀(ds:List ai),(∀d∈ds,∃z:Str,d= .str z/\z.length=1/\gH z/\z.cps.toList.all (λc=>decide (97<=c)&&decide (c<=122))=true)->∃zs:List Str,ds=zs.map PyData.str/\∀z∈zs,z.length=1/\gH z/\z.cps.toList.all (λc=>decide (97<=c)&&decide (c<=122))=true |[],_=>⟨[],Z,λ_ h=>nomatch h⟩ |d::ds,h=>by obtain⟨z,rfl,e⟩:=h d (.head _);obtain⟨zs,rfl,q⟩:=MT ds λx hx=>h x (.tail _ hx);exact⟨z::zs,Z,λy hy=>by
 rcases bL.mp hy with rfl|hy
 ·exact e
 ·exact q y hy⟩
theorem abC:gH jH:=Qz aW
def IH(c:Nat):Bool:=decide (97<=c)&&decide (c<=122)
def zq(s:Str):Bool:=(decide (1<=s.length)&&decide (s.length<=8))&&s.cps.toList.all IH
def Qs(w s:Str):Prop:=(w="tool"/\(s="up"\/s="down"))\/(w="mark"/\zq s=true)
def qz(d:ai):Prop:=(∃n,d= .tuple [.str "wait",.int n]/\1<=n/\n<=1000)\/∃w s,d= .tuple [.str w,.str s]/\(w="tool"\/w="mark")/\cZ 0 (.str s)/\Qs w s
theorem Tf:∀l:List Str,(PySem.Str.join ("":Str) l).cps.toList=(l.map λz=>z.cps.toList).flatten
 |[]=>by simp[PySem.Str.join,PySem.Str.empty] |[x]=>by simp[PySem.Str.join] |x::y::r=>by
  show((x++("":Str))++PySem.Str.join ("":Str) (y::r)).cps.toList=_;rw[Wn,Wn,Eg,Eg,Tf (y::r)];have:(("":Str)).cps.toList=[]:=by decide+kernel
  rw[this];simp
theorem a3t(h1:1<=l.length)(h8:l.length<=8)(h:∀z∈l,z.length=1/\z.cps.toList.all IH=true):zq (Txt.join ("":Str) l)=true:=by
 have e:(Txt.join ("":Str) l).cps.toList=(l.map λz=>z.cps.toList).flatten:=by show(Builtin.Str.glued ("":Str) l).cps.toList=_;rw[StrLaws.glued_eq_join];exact Tf l
 have el:(Txt.join ("":Str) l).length=l.length:=by
  show(Txt.join ("":Str) l).cps.size=_;rw[<-AY,e,List.length_flatten,List.map_map];have:∀(l:List Str),(∀z∈l,z.length=1/\z.cps.toList.all IH=true)->(l.map (List.length∘λz=>z.cps.toList)).sum=l.length:=by intro l;induction l with |nil=>intro _;rfl |cons a r ih=>
   intro h;rw[oW,List.sum_cons,ih λz hz=>h z (.tail _ hz),jM];have:=(h a (.head _)).1;have e2:(List.length∘λz:Str=>z.cps.toList) a=1:=by show a.cps.toList.length=1;rw[AY];exact this
   rw[e2,LR]
  exact this l h
 unfold zq;rw[el,e,cP h1,cP h8,kE,kE,je];intro c hc;obtain⟨cs,CM,mi⟩:=List.mem_flatten.mp hc;obtain⟨z,hz,rfl⟩:=kC.mp CM;exact je.mp (h z hz).2 c mi
theorem qz.it(h:qz d):itR d none:=by
 rcases h with⟨n,rfl,_⟩|⟨w,s,rfl,hw|hw,_⟩
 ·exact .inr ⟨_,_,Z,.inl Z,Z,Z⟩
 ·exact .inr ⟨_,_,Z,.inr (.inl hw),Z,Z⟩
 ·exact .inr ⟨_,_,Z,.inr (.inr hw),Z,Z⟩
inductive acL(K:aa)(vs:List V)(H:Hp)(Q:VK):Prop |mk (p:Addr)(h0:vs=[.ref p])(h1:eK H p)(h2:∀v d H',RD K H' v d->qz d->bO p H H'->Q v H')
def Nu(K:aa):Sp:=λvs H Q _=>acL K vs H Q
theorem a2q(F:FA K mg "_law_other" Gg)(B:bV mg)(eO:aI P w K mg ay "_law_take" 1 pA):aI P w K mg ay "_law_other" 2 (Nu K):=by
 refine F.has Oo (λvs H Q E h=>?_) (λ_ _ _ _ _ _=>fH λ_=>rfl) (λf aP A outer s H vs Q E hr h=>?_)
 ·obtain⟨p,rfl,_⟩:=h
  rfl
 ·obtain⟨p,rfl,bg,k⟩:=h
  have nd:=Oo.nd;refine⟨_,(aE (pS 1 nd (pf eO hr (ao (pv 0) (ao aD az)))) (aE (bR (cu (cY K Z hr.units) (pv 1) aD (bI _)) (aL (aX (ck (ao aV (ao (aG dc aD (pf eO hr (ao (pv 0) (ao (px K (cK (ao aD (ao aD az))) (pf eO hr (ao (pv 0) (ao aD az)))) az)))) az))))) bU) (aE (bR (cu (cY K Z hr.units) (pv 1) aD (bI _)) (aL (aX (ck (ao aV (ao (px K (cK (ao aV (ao aV az))) (pf eO hr (ao (pv 0) (ao aD az)))) az))))) bU) (aE (pS 2 nd aV) (aL (aX (ck (ao aV (ao (a19 K Z aV (ao (gB (N:=["_law_turn","_law_letters","_law_bag_here"]) (js:=[none,some 2,some 0]) Z Z Z (yY Z (B.at "range") (ao (aG dc aD (pf eO hr (ao (pv 0) (ao aD az)))) az)) (λ_ _ _ _ _=>(bp 0 (show List.Nodup (["_law_turn","_law_letters","_law_bag_here"]:List Str) by decide+kernel))) (λ_ _ _ _ _=>fL) (λ_ _ _ _ _=>(Qd a4K (pv 1) (pf eO hr (ao (pv 2) (ao aD az))) (λ_ _=>rfl)))) az)) az))))))))),?_⟩;refine⟨_,Z,p,3,Z,bg,aA,aA,λso H1 s0 s1 b1=>?_⟩;refine⟨_,Z,.inl ⟨_,_,Z,Z,_,Z,?_⟩⟩;refine eQ (λhc=>?_) (λhc=>?_)
  ·refine⟨_,Z,bT Z,λc H2' IB=>?_⟩
   have Vl:bO p H1 H2':=.gq b1.bu IB.same;have cp:c≠p:=λz=>b1.bu.ne (z▸IB.no);refine⟨_,Z,p,2,Z,Vl.bu,aA,aA,λi H3' i0 i1 KQ=>?_⟩;have hi:∃z:Int,fP ([.int 1000,.int 2]:List V) i=some (.int z)/\2<=z/\z<=1000:=by
    rcases(show i=0\/i=1 by lia)with rfl|rfl
    ·exact⟨1000,Z,aA,aA⟩
    ·exact⟨2,Z,aA,aA⟩
   obtain⟨z,ez,z2,aeb⟩:=hi;refine .inl ⟨c,_,_,_,Z,Z,aH.of (KQ.same _ _ cp IB.at'),ez,?_⟩;refine⟨p,z,Z,KQ.bu,au,au,λn H2 n0 n1 abh=>?_⟩;have b2:=Vl.trans (KQ.trans abh);refine⟨_,_,Z,Z,bT Z,λt H3 n3=>?_⟩;exact k (.ref t) _ H3 (gA (aR.of n3.at') (bW (cM _) (bW (dU _) cU))) (.inl ⟨_,Z,au,au⟩) (b1.trans (b2.trans (.gq b2.bu n3.same)))
  refine⟨_,Z,.inl ⟨_,_,Z,Z,_,Z,?_⟩⟩;refine eQ (λhc=>?_) (λhc=>?_)
  ·refine⟨bT Z,λc H2 n2=>?_⟩
   have b2:bO p H1 H2:=.gq b1.bu n2.same;have cp:c≠p:=λz=>b1.bu.ne (z▸n2.no);refine⟨_,Z,p,2,Z,b2.bu,aA,aA,λi H3 i0 i1 b3=>?_⟩;have hi:∃z:Str,fP ([.str "up",.str "down"]:List V) i=some (.str z)/\cZ 0 (.str z)/\Qs "tool" z:=by
    rcases(show i=0\/i=1 by lia)with rfl|rfl
    ·exact⟨"up",Z,⟨aW,aW⟩,.inl ⟨Z,.inl Z⟩⟩
    ·exact⟨"down",Z,⟨aW,aW⟩,.inl ⟨Z,.inr Z⟩⟩
   obtain⟨z,ez,okz,onz⟩:=hi;refine .inl ⟨c,_,_,_,Z,Z,aH.of (b3.same _ _ cp n2.at'),ez,bT Z,λt H4 n4=>?_⟩;exact k (.ref t) _ H4 (gA (aR.of n4.at') (bW (cM _) (bW (cM _) cU))) (.inr ⟨_,_,Z,.inl Z,okz,onz⟩) (b1.trans (b2.trans (b3.trans (.gq b3.bu n4.same))))
  refine⟨Z,?_⟩;refine⟨_,Z,p,8,Z,b1.bu,aA,aA,λn H2 n0 n1 b2=>?_⟩;refine⟨_,_,Z,Z,_,Z,au,au,λD H3 nD=>?_⟩;refine UJ (K:=K) (J:=oQ 0 (1+n).toNat) (p:=p) (H:=H2) (1+n).toNat _ nD b2.bu au (λi=>.int (0+(i:Int))) (λi H3 hi _=>⟨hi,λy H4 ⟨e,q⟩=>⟨e,q⟩⟩) (λH3 _=>bK _) (λ_ d=>∃z:Str,d= .str z/\z.length=1/\gH z/\z.cps.toList.all (λc=>decide (97<=c)&&decide (c<=122))=true) ?_ ?_
  ·intro i H3 Q' hi b3 hq
   refine⟨_,Z,_,Z,p,26,Z,b3.bu,aA,aA,λd H4 d0 d1 b4=>?_⟩;have hd:d.toNat<jH.cps.toList.length:=by rw[abE];lia
   refine⟨jH,d,jH.cps.toList[d.toNat],Z,Z,aW,dC d0 (cn hd),?_⟩;have ok1:gH ⟨#[jH.cps.toList[d.toNat]]⟩:=λc hc=>by have iV:c=jH.cps.toList[d.toNat]:=cH.mp hc;rw[iV];exact abC _ (Ea hd)
   have ok2:(⟨#[jH.cps.toList[d.toNat]]⟩:Str).cps.toList.all (λc=>decide (97<=c)&&decide (c<=122))=true:=by have:=je.mp (show jH.cps.toList.all (λc=>decide (97<=c)&&decide (c<=122))=true by decide+kernel) _ (Ea hd);show([jH.cps.toList[d.toNat]]:List Nat).all _=true;rw[LY,List.all_nil,M7];exact this
   exact hq _ _ _ ⟨_,Z,Z,ok1,ok2⟩ Z (cM _) b4
  ·intro H3 ys ds b3 d3 r3 l3 nl pd
   obtain⟨zs,rfl,hz⟩:=MT ds λd hd=>by obtain⟨i,hi⟩:=tG.mp hd;exact pd i d hi
   rw[MS r3]at d3;rw[cx]at l3;refine⟨"",D,zs,Z,Z,aH.of d3,λz md=>by rw[(hz z md).1];decide,aA,au,bT Z,λt H4 n4=>?_⟩;exact k (.ref t) _ H4 (gA (aR.of n4.at') (bW (cM _) (bW (cM _) cU))) (.inr ⟨_,_,Z,.inr Z,a1E (gH.join (Qz aW) λa ha=>(hz a ha).2.1),.inr ⟨Z,a3t au au λz md=>⟨(hz z md).1,(hz z md).2.2⟩⟩⟩) (b1.trans (b2.trans (b3.trans (.gq b3.bu n4.same))))
def RowW(ds:List ai)(os:List Itm):Prop:=∀(i:Nat)(d:ai),os[i]? =some none->ds[i]? =some d->qz d
theorem RowW.snoc{ds:List ai}{os:List Itm}{d:ai}{o:Itm}(h:RowW ds os)(hl:ds.length=os.length)(hd:o=none->qz d):RowW (ds++[d]) (os++[o]):=by
 intro i x e1 e2;rcases tV e1 with h1|⟨h1,h1'⟩
 ·rcases tV e2 with h2|⟨h2,_⟩
  ·exact h i x h1 h2
  ·have:=(eh.mp h1).1;lia
 ·rcases tV e2 with h2|⟨_,CT⟩
  ·have:=(eh.mp h2).1;lia
  ·subst CT;exact hd h1'.symm
theorem Me(h:j.natAbs<2^64):Wd j:=LN h aW
inductive acM(vs:List V)(H:Hp)(Q:VK):Prop |mk (p:Int)(q:Int)(h0:vs=[.int p,.int q])(h1:0<q)(h2:q<=10^6)(h3:p.natAbs<=10^9)(h4:Q (.int (iD p q)) H)
def EV:Sp:=λvs H Q _=>acM vs H Q
theorem Oq:bG ["p","q","size"] ["p","q"] (aZ Gh):=bQ aW
theorem a2r(F:FA K mg "nearest" Gh)(B:bV mg):aI P w K mg ay "nearest" 1 EV:=by
 refine F.has Oq (λvs H Q E h=>?_) (λ_ _ _ _ _ _=>dJ λ_ _=>rfl) (λf aP A outer s H vs Q E hr h=>?_)
 ·obtain⟨p,q,rfl,_⟩:=h
  rfl
 ·obtain⟨p,q,rfl,q0,q1,p1,k⟩:=h
  have nd:=Oq.nd;refine⟨_,(aE (pS 2 nd (aG mI (aG dc (aG bM aD (dM (x:="abs") oM Z (B.at "abs") qF (ao (pv 0) az))) (pv 1)) (aG bM aD (pv 1)))) (aL (aX (Qe (cu Ic (pv 0) aD (bI _)) (pv 2) (wA vO (pv 2)))))),?_⟩;refine⟨_,Z,p,Z,_,_,Z,Z,.of_left (cm aA aA),_,Z,_,_,Z,Z,_,Z,_,_,Z,Z,.of_left (cm aA aA),_,_,Z,Z,⟨au,Me au⟩,?_⟩;have e:(2*(if p<0 then-p else p)+q)/(2*q)=kZ p q:=by unfold kZ;rw[<-Al];rfl
  refine⟨_,Z,_,_,Z,Z,_,Z,?_⟩;unfold iD at k;rw[<-e]at k;refine eQ (λhc=>?_) (λhc=>?_)
  ·have hp:p>=0:=jL hc
   rw[bh hp]at k;exact⟨_,Z,k⟩
  ·have hp:¬p>=0:=λz=>hc (cP z)
   rw[bf hp]at k;exact⟨_,Z,_,Z,k⟩
def EL(ns:List Int)(k:Int):ai:=.tuple ((ns.map λz=>iD (k*z) (aM ns)).map PyData.int)
theorem Q5{k:Int}(h:k.natAbs<=10^6)(g:(z.natAbs:Int)<=1000):(k*z).natAbs<=10^9:=by rw[fY];exact gM (mF h (show z.natAbs<=1000 by lia)) aA
inductive ack(K:aa)(vs:List V)(H:Hp)(Q:VK):Prop |mk (v:_)(ns:_)(sp:_)(k:_)(h0:vs=[v,.int k])(h1:RD K H v (iE ns sp))(h2:fj ns.length 1000 ns)(h3:ns.length<=1000)(h4:k.natAbs<=10^6)(h5:∀v' H',RD K H' v' (EL ns k)->aF H H'->Q v' H')
def Br(K:aa):Sp:=λvs H Q _=>ack K vs H Q
theorem O0:bG ["line","k","lead"] ["line","k"] (aZ Fw):=bQ aW
theorem a1S(F:FA K mg "stand_at" Fw)(B:bV mg)(pV:aI P w K mg ay "lead_of" 1 (lY K))(a5P:aI P w K mg ay "nearest" 1 EV):aI P w K mg ay "stand_at" 2 (Br K):=by
 refine F.has O0 (λvs H Q E h=>?_) (λ_ _ _ _ _ _=>dJ λ_ _=>rfl) (λf aP A outer s H vs Q E hr h=>?_)
 ·obtain⟨v,ns,sp,k,rfl,_⟩:=h
  rfl
 ·obtain⟨v,ns,sp,kk,rfl,rd,ok,hz,hk,k⟩:=h
  have nd:=O0.nd;refine⟨_,(aE (pS 2 nd (pf pV hr (ao (pv 0) az))) (aL (aX (gQ (x:="tuple") (kX K Z) Z (B.at "tuple") fW (ao (gB (N:=["step","lead","k"]) (js:=[none,some 2,some 1]) rfl rfl rfl (pH K rfl (px K (pv 0) aD)) (λ_ _ _ _ _=>(bp 0 (show List.Nodup (["step","lead","k"]:List Str) by decide+kernel))) (λ_ _ _ _ _=>fL) (λ_ _ _ _ _=>(pf a5P hr (ao (aG bM (pv 2) (pv 0)) (ao (pv 1) az))))) az))))),?_⟩;refine⟨_,Z,v,ns,sp,Z,rd,ok.ne,hz,λH1 s1=>?_⟩;obtain⟨a,b,rfl,ha,hb⟩:=m8 (RD.mono s1 _ rd);obtain⟨lp,lm⟩:=ok.lead;refine⟨_,Z,.inr ⟨a,_,1,.ref b,Z,Z,ha,Z,b,Z,⟨_,hb⟩,λD H0 nw=>?_⟩⟩;refine Dp (K:=K) (xs:=ns.map V.int) (ds:=(ns.map λz=>iD (kk*z) (aM ns)).map PyData.int) _ hb nw (by simp) (by simpa using hz) (lj _) ?_ ?_
  ·intro i x d H2 Q' ex ed s2 hq
   rw[List.map_map]at ed;obtain⟨n,en,rfl⟩:=mR ed;cases zv ex en;refine⟨_,Z,_,Z,_,_,Z,Z,.of_left (cm au au),_,Z,_,_,Z,au,au,Q5 hk (ok.bd n (gI en)),?_⟩;exact hq _ _ (aF.refl _) (dU _)
  ·intro H' ys s2 d2 r2
   refine⟨D,_,Z,.inl ⟨aH.of d2,λt H4 n4=>?_⟩⟩;exact k _ _ (gA (aR.of n4.at') (aJ.mono n4.same _ r2)) (s1.trans (s2.trans n4.same))
def iy(ns:List Int)(j:Nat):List Int:=ns.map λz=>iD (((j:Int)+1)*z) (aM ns)-iD ((j:Int)*z) (aM ns)
def pE(ns:List Int):List ai:=(List.range (aM ns)).map λj=>.tuple ((iy ns j).map PyData.int)
theorem Hk(zs:List Int):fw (.tuple (zs.map PyData.int))=true:=by rw[fw];exact lj zs
theorem Hi(ns:List Int):cS (pE ns)=true:=hO.mpr λd hd=>by obtain⟨j,_,rfl⟩:=kC.mp hd;exact Hk _
theorem Pp(h:i<aM ns):(pE ns)[i]? =some (.tuple ((iy ns i).map PyData.int)):=by unfold pE;rw[cI,cn (by simpa using h),vI];rfl
theorem Hj(ns:List Int):(pE ns).length=aM ns:=by simp[pE]
inductive acw(K:aa)(vs:List V)(H:Hp)(Q:VK):Prop |mk (v:_)(ns:_)(sp:_)(h0:vs=[v])(h1:RD K H v (iE ns sp))(h2:fj ns.length 1000 ns)(h3:ns.length<=1000)(h4:∀l ys H',H l=none->H' l=some (.lst ys)->aJ K H' ys (pE ns)->aF H H'->Q (.ref l) H')
def ER(K:aa):Sp:=λvs H Q _=>acw K vs H Q
theorem O8:bG ["line","rows","before","k","behind"] ["line"] (aZ FG):=bQ aW
theorem a28(F:FA K mg "step_rows" FG)(B:bV mg)(pV:aI P w K mg ay "lead_of" 1 (lY K))(Cu:aI P w K mg ay "stand_at" 2 (Br K)):aI P w K mg ay "step_rows" 3 (ER K):=by
 refine F.has O8 (λvs H Q E h=>?_) (λ_ _ _ _ _ _=>fH λ_=>rfl) (λf aP A outer s H vs Q E hr h=>?_)
 ·obtain⟨v,ns,sp,rfl,_⟩:=h
  rfl
 ·obtain⟨v,ns,sp,rfl,rd,ok,hz,k⟩:=h
  have nd:=O8.nd;obtain⟨lp,lm⟩:=ok.lead;refine⟨_,(aE (pS 1 nd (cK az)) (aE (pS 2 nd (pf Cu hr (ao (pv 0) (ao aD az)))) (aE (m6 ip Z (Q9 Z (B.at "range") (ao aD (ao (aG dc (pf pV hr (ao (pv 0) az)) aD) az))) (bp 3 nd) (aE (pS 4 nd (pf Cu hr (ao (pv 0) (ao (pv 3) az)))) (aE (iA (jW K Z (pv 1) (ao (gQ (x:="tuple") (kX K Z) Z (B.at "tuple") fW (ao (gB (N:=["new","old"]) (js:=[none,none]) rfl rfl rfl (jU K rfl false false rfl (B.at "zip") (ao (pv 4) (ao (pv 2) az))) (λ_ _ _ _ _=>(eG K rfl (n:=2) rfl (bZ (bp 0 (fF aA)) (bZ (bp 1 (fF aA)) eu)))) (λ_ _ _ _ _=>fL) (λ_ _ _ _ _=>(aG gc (pv 0) (pv 1)))) az)) az))) (aL (pS 2 nd (pv 4)))))) (aL (aX (pv 1)))))),?_⟩;refine⟨bT Z,λl H1 n1=>?_⟩;refine⟨_,Z,v,ns,sp,0,Z,RD.mono n1.same _ rd,ok,hz,aA,λu H2 ru s2=>?_⟩;have t2:=n1.same.trans s2;refine⟨_,Z,v,ns,sp,Z,RD.mono t2 _ rd,ok.ne,hz,λH3 s3=>?_⟩;refine⟨_,_,Z,Z,_,_,Z,⟨au,au,au,au⟩,?_⟩;have t3:=t2.trans s3;have e3:((aM ns:Int)+1-1).toNat=aM ns:=by lia
  refine CY (Pv:=λi O H4=>aF H H4/\(∃ys,H4 l=some (.lst ys)/\aJ K H4 ys ((pE ns).take i))/\∃b v1 v2,RD K H4 b (EL ns i)/\O=[some v,some (.ref l),some b,v1,v2]) ?_ ?_ ?_
  ·exact⟨t3,⟨[],s3 _ _ (s2 _ _ n1.at'),cU⟩,u,none,none,RD.mono s3 _ ru,Z⟩
  ·rintro i O H4 hi ⟨t4,⟨ys,dl,ry⟩,b,v1,v2,rb,rfl⟩
   have Js:i<aM ns:=by lia
   refine⟨_,Z,_,Z,v,ns,sp,_,Z,RD.mono t4 _ rd,ok,hz,au,λb2 H5 Hu s5=>?_⟩;refine⟨_,Z,.inl ⟨Z,_,aH.of (s5 _ _ dl)⟩,?_⟩;obtain⟨a1,xs1,rfl,h1,q1⟩:=Hu.dS;have e1:=q1.ja;subst e1;obtain⟨a0,xs0,rfl,h0,q0⟩:=(RD.mono s5 _ rb).dS;have e0:=q0.ja;subst e0;refine⟨_,Z,_,Z,a1,a0,Z,⟨_,h1⟩,⟨_,h0⟩,λD H6 nw=>?_⟩;refine vh (K:=K) (b1:=false) (b2:=false) (ds:=(iy ns i).map PyData.int) [] rfl h1 h0 nw (by simp[iy]) (by simpa[iy]using hz) (lj _) ?_ ?_
   ·intro j x y d H7 Q' ex ey ed s7 hq
    obtain⟨m,em,rfl⟩:=mR ed;unfold iy at em;rw[cI]at em ex ey;rw[cI]at ex ey;cases en:ns[j]? with |none=>rw[en]at em;cases em |some n=>
     rw[en]at em ex ey;cases em;cases ex;cases ey;refine⟨_,Z,_,Z,_,_,Z,Z,?_⟩;have ee:(1:Int)+(i:Int)=(i:Int)+1:=by lia
     rw[ee];exact hq _ _ (aF.refl _) (dU _)
   ·intro H7 zs s7 d7 r7
    refine⟨D,_,Z,.inl ⟨aH.of d7,λt H8 n8=>?_⟩⟩;have GZ:=s5.trans (s7.trans n8.same);have Ab:=GZ _ _ dl;have len:=ry.length;rw[oY,Hj]at len;refine⟨l,ys,_,Z,Z,Ab,?_,?_⟩
    ·have:(1000:Nat)<sizeLine:=by decide
     lia
    refine⟨_,Z,?_⟩;have tt:iZ H8 (L2.upd H8 l (.lst (ys++[.ref t]))):=.qM Ab;refine⟨λb o e=>?_,⟨_,bo,?_⟩,_,_,_,?_,Z⟩
    ·rw[aO (fT e n1.no)];exact GZ b o (t4 b o e)
    ·rw[qH,Pp Js]
     have nt:cS ((pE ns).take i)=true:=hO.mpr λd hd=>hO.mp (Hi ns) d (E8 hd);exact(aJ.t tt _ nt (aJ.mono GZ _ ry)).append (bW (RD.t tt _ (Hk _) (gA (aR.of n8.at') (aJ.mono n8.same _ r7))) cU)
    ·have ee:(1:Int)+(i:Int)=((i+1:Nat):Int):=by lia
     rw[ee]at Hu;exact RD.t tt _ (Hk _) (RD.mono (s7.trans n8.same) _ Hu)
  ·rintro O H4 ⟨t4,⟨ys,dl,ry⟩,b,v1,v2,rb,rfl⟩
   rw[e3,E7 (by rw[Hj];exact bK _)]at ry;exact⟨_,Z,k l ys H4 n1.no dl ry t4⟩
def gs(ti:Int)(q:Rat)(t:Int):Bool:=decide (ti*ti*(q.den:Int)<=t*t*q.num)
inductive ad3(K:aa)(vs:List V)(H:Hp)(Q:VK):Prop |mk (m:_)(sq:_)(t:_)(rs:_)(r:_)(f:_)(j:_)(ti:_)(q:_)(h0:vs=[m,sq,.int t])(h1:RD K H m (iU rs r f j ti))(h2:bw K H sq q)(h3:Bd 2000 q)(h4:1<=ti)(h5:ti<=100)(h6:0<=t)(h7:t.natAbs<2^2400)(h8:Q (.bl (gs ti q t)) H)
def NA(K:aa):Sp:=λvs H Q _=>ad3 K vs H Q
theorem OV:bG ["machine","square","t","p","q","ticks"] ["machine","square","t"] (aZ GL):=bQ aW
theorem a2R(F:FA K mg "are_enough" GL)(B:bV mg):aI P w K mg ay "are_enough" 1 (NA K):=by
 refine F.has OV (λvs H Q E h=>?_) (λ_ _ _ _ _ _=>oN λ_ _ _=>rfl) (λf aP A outer s H vs Q E hr h=>?_)
 ·obtain⟨m,sq,t,rs,r,f,j,ti,q,rfl,_⟩:=h
  rfl
 ·obtain⟨m,sq,t,rs,r,f,j,ti,q,rfl,rm,⟨p,rfl,hp⟩,bq,t1,t2,t0,tw,k⟩:=h
  have nd:=OV.nd;refine⟨_,(aE (fZ (pv 1) (eG K Z (n:=2) Z (bZ (bp 3 nd) (bZ (bp 4 nd) eu)))) (aE (pS 5 nd (px K (pv 0) aD)) (aL (aX (fE Ic (aG bM (aG bM (pv 2) (pv 2)) (pv 3)) (aG bM (aG bM (pv 5) (pv 5)) (pv 4)) (bI _)))))),?_⟩;obtain⟨a,b,rfl,ha,hb⟩:=jY rm;have wt:Wd t:=iq tw aA;have B8:Wd (t*t):=iq (n:=4800) (by rw[fY];exact lC (n:=2400) (m:=2400) tw tw) aA;have m1:(ti*ti).natAbs<=100*100:=by rw[fY];exact mF fh fh
  refine⟨_,Z,_,_,Z,hp,Z,_,_,Z,_,_,Z,Z,?_⟩;refine⟨_,Z,.inr ⟨a,_,4,.int ti,Z,Z,ha,Z,?_⟩⟩;refine⟨_,Z,_,Z,_,_,Z,Z,iO wt.bits wt.bits,_,Z,_,_,Z,Z,iO B8.bits bq.wn.bits,?_⟩;refine⟨_,Z,_,Z,_,_,Z,Z,.of_left (cm fh fh),_,Z,_,_,Z,Z,.of_left (cm fh fh),?_⟩;exact⟨_,_,Z,Z,k⟩
theorem Ud{t:Int}(hq:0<q.num)(h0:0<=t)(h:ti*ti*(q.den:Int)<=t):gs ti q t=true:=by
 refine cP (Int.le_trans h ?_);by_cases ht:t=0
 ·subst ht;simp
 ·have e1:t*1<=t*t:=ae7 au h0
  have e2:t*t*1<=t*t*q.num:=ae7 au (jN h0 h0)
  lia
theorem Ub(h1:1<=ti):gs ti q 0=false:=by
 refine fk λh=>?_;have:=j7 (j7 (show 0<ti by lia) (show 0<ti by lia)) (den_pos q);simp only[AW]at h
 lia
inductive acg(K:aa)(vs:List V)(H:Hp)(Q:VK):Prop |mk (m:_)(sq:_)(rs:_)(r:_)(f:_)(j:_)(ti:_)(q:_)(h0:vs=[m,sq])(h1:RD K H m (iU rs r f j ti))(h2:bw K H sq q)(h3:Bd 2000 q)(h4:1<=ti)(h5:ti<=100)(h6:0<q.num)(h7:∀T,1<=T->T.natAbs<2^2400->gs ti q T=true->gs ti q (T-1)=false->Q (.int T) H)
def N8(K:aa):Sp:=λvs H Q _=>acg K vs H Q
theorem NW:bG ["machine","square","enough","too_few","between"] ["machine","square"] (aZ Fs):=bQ aW
theorem a1O(F:FA K mg "ticks_of" Fs)(B:bV mg)(SO:aI P w K mg ay "are_enough" 1 (NA K)):aI P w K mg ay "ticks_of" 2 (N8 K):=by
 refine F.has NW (λvs H Q E h=>?_) (λ_ _ _ _ _ _=>dJ λ_ _=>rfl) (λf aP A outer s H vs Q E hr h=>?_)
 ·obtain⟨m,sq,rs,r,f,j,ti,q,rfl,_⟩:=h
  rfl
 ·obtain⟨m,sq,rs,r,f,j,ti,q,rfl,rm,rq,bq,t1,t2,hq,k⟩:=h
  have nd:=NW.nd;refine⟨_,(aE (pS 2 nd aD) (aE (nS ip (fD (cV (pf SO hr (ao (pv 0) (ao (pv 1) (ao (pv 2) az)))))) (aL (pS 2 nd (aG bM aD (pv 2))))) (aE (pS 3 nd (aG mI (pv 2) aD)) (aE (nS ip (cu uh (aG gc (pv 2) (pv 3)) aD (bI _)) (aE (pS 4 nd (aG mI (aG dc (pv 3) (pv 2)) aD)) (aL (bR (cV (pf SO hr (ao (pv 0) (ao (pv 1) (ao (pv 4) az))))) (aL (pS 2 nd (pv 4))) (aL (pS 3 nd (pv 4))))))) (aL (aX (pv 2))))))),?_⟩;have lim:(ti*ti*(q.den:Int)).natAbs<2^2399:=by
   have m1:(ti*ti).natAbs<=100*100:=by rw[fY];exact mF au au
   have hd:=bq.den;rw[fY];have:(q.den:Int).natAbs=q.den:=rfl;rw[this];have:=lC (n:=14) (m:=2000) (a:=(ti*ti).natAbs) (b:=q.den) (qG m1 aA) hd;exact gz this (tE aA aA)
  have p0:0<ti*ti*(q.den:Int):=j7 (j7 au au) (den_pos q);have e2:(2:Nat)^2400=2^2399*2:=Nat.pow_succ 2 2399;generalize hL:ti*ti*(q.den:Int)=L at lim p0;refine nH (λO H2=>H2=H/\∃(x:Int),O=[some m,some sq,some (.int x),none,none]/\1<=x/\x<=2*L/\gs ti q (x/2)=false) (λO _=>match O with|[_,_,some (.int x),_,_]=>(L-x).toNat|_=>0) ?_ ?_ ?_
  ·exact⟨Z,1,Z,au,au,Ub t1⟩
  ·rintro O H2 ⟨rfl,x,rfl,x1,xL,hx⟩
   have xw:x.natAbs<2^2400:=by lia
   refine⟨_,Z,_,Z,_,Z,m,sq,x,rs,r,f,j,ti,q,Z,rm,rq,bq,t1,t2,au,xw,_,Z,?_⟩;cases qe:gs ti q x with
   |false=>
    have cJ:x<L:=by
     by_cases cJ:x<L
     ·exact cJ
     ·rw[Ud hq au au]at qe;cases qe
    refine eQ (λhc=>?_) (λhc=>(hc Z).elim);refine⟨_,Z,_,_,Z,Z,.of_left (cm aA aA),?_⟩;refine⟨⟨Z,_,Z,au,au,?_⟩,?_⟩
    ·have:2*x/2=x:=by lia
     rw[this];exact qe
    ·show(L-2*x).toNat<(L-x).toNat
     lia |true=>
    refine eQ (λhc=>nomatch hc) (λhc=>?_);refine⟨_,Z,_,_,Z,Z,⟨aA,iq (n:=2) aA aA⟩,?_⟩;refine nH (λO H3=>H3=H2/\∃(lo hi:Int)(v:Option V),O=[some m,some sq,some (.int hi),some (.int lo),v]/\0<=lo/\lo<hi/\hi<=2*L/\gs ti q lo=false/\gs ti q hi=true) (λO _=>match O with|[_,_,some (.int x),some (.int y),_]=>(x-y).toNat|_=>0) ?_ ?_ ?_
    ·exact⟨Z,x/2,x,none,Z,au,au,xL,hx,qe⟩
    ·rintro O H3 ⟨rfl,lo,hi,v,rfl,l0,lh,zT,Aa,uY⟩
     refine⟨_,Z,_,Z,_,_,Z,Z,_,_,Z,Z,_,Z,?_⟩;refine eQ (λhc=>?_) (λhc=>?_)
     ·have hgt:hi-lo>1:=jL hc
      refine⟨_,Z,_,Z,_,_,Z,Z,_,_,Z,Z,⟨aA,iq (n:=2) aA aA⟩,?_⟩;have mw:((lo+hi)/2).natAbs<2^2400:=by lia
      refine⟨_,Z,_,Z,_,Z,m,sq,(lo+hi)/2,rs,r,f,j,ti,q,Z,rm,rq,bq,t1,t2,au,mw,_,Z,?_⟩;cases hm:gs ti q ((lo+hi)/2)with
      |true=>
       refine cg ?_;refine⟨_,Z,⟨Z,lo,_,_,Z,l0,au,au,Aa,hm⟩,?_⟩;show((lo+hi)/2-lo).toNat<(hi-lo).toNat
       lia |false=>
       refine bN ?_;refine⟨_,Z,⟨Z,_,hi,_,Z,au,au,zT,hm,uY⟩,?_⟩;show(hi-(lo+hi)/2).toNat<(hi-lo).toNat
       lia
     ·have hle:¬hi-lo>1:=λz=>hc (cP z)
      have e:lo=hi-1:=by lia
      subst e;exact⟨_,Z,k hi au au uY Aa⟩
    ·rintro O H2 Q1 Q2 hq ⟨v1,e1,v2,e2,i,j,e3,e4,i2,j2,e5,e6,kk,e7,q⟩
     exact⟨v1,e1,v2,e2,i,j,e3,e4,i2,j2,e5,e6,kk,e7,hq _ _ q⟩
  ·rintro O H2 Q1 Q2 hq ⟨v1,e1,v2,e2,v3,e3,m',Yt,x',Zv,r',f',j',Xy,q',e4,h1,h2,h3,h4,h5,h6,h7,b,eb,q⟩
   exact⟨v1,e1,v2,e2,v3,e3,m',Yt,x',Zv,r',f',j',Xy,q',e4,h1,h2,h3,h4,h5,h6,h7,b,eb,hq _ _ q⟩
def An(ti:Int)(q:Rat)(T:Int):Prop:=1<=T/\gs ti q T=true/\gs ti q (T-1)=false
open Classical in
noncomputable def Ez(ti:Int)(q:Rat):Int:=if h:∃T,An ti q T then h.choose else 0
theorem Uc{t:Int}(hq:0<=q.num)(h0:0<=s)(h:s<=t)(e:gs ti q s=true):gs ti q t=true:=by refine cP (Int.le_trans (jL e) ?_);exact ae6 (Ee h h h0 au) hq
theorem XA(hq:0<=q.num)(h1:An ti q S)(h2:An ti q T):S=T:=by
 obtain⟨a1,a2,a3⟩:=h1;obtain⟨b1,b2,b3⟩:=h2;by_cases h:S<=T-1
 ·have:=Uc hq au h a2
  rw[b3]at this;cases this
 ·by_cases h':T<=S-1
  ·have:=Uc hq au h' b2
   rw[a3]at this;cases this
  ·lia
theorem MB(hq:0<=q.num)(h:An ti q T):Ez ti q=T:=by have hx:∃T,An ti q T:=⟨T,h⟩;unfold Ez;rw[dif_pos hx];exact XA hq hx.choose_spec h
theorem Ik{q:Rat}(h:0<q):0<q.num:=by
 have h1:=Rat.num_nonneg.mpr (LF h);have h2:q.num≠0:=λe=>by rw[Rat.num_eq_zero.mp e]at h;exact absurd h aA
 lia
noncomputable def ph(ti:Int)(zs:List Int)(q:Rat):ai:=.tuple [.str "step",.tuple (zs.map PyData.int),.int (Ez ti q),da q]
theorem EK(ti:Int)(zs:List Int)(q:Rat):fw (ph ti zs q)=true:=by simp[ph,fw,cS,lj,qU]
inductive ad2(K:aa)(vs:List V)(H:Hp)(Q:VK):Prop |mk (m:_)(rv:_)(sq:_)(rs:_)(r:_)(f:_)(j:_)(ti:_)(zs:_)(q:_)(h0:vs=[m,rv,sq])(h1:RD K H m (iU rs r f j ti))(h2:nv rs r f j ti)(h3:RD K H rv (.tuple (zs.map PyData.int)))(h4:bw K H sq q)(h5:Bd 2000 q)(h6:0<q)(h7:∀v H',RD K H' v (ph ti zs q)->aF H H'->Q v H')
def F1(K:aa):Sp:=λvs H Q _=>ad2 K vs H Q
theorem OU:bG ["machine","row","square"] ["machine","row","square"] (aZ GK):=bQ aW
theorem a2Q(F:FA K mg "step_entry" GK)(B:bV mg)(a5k:aI P w K mg ay "ticks_of" 2 (N8 K)):aI P w K mg ay "step_entry" 3 (F1 K):=by
 refine F.has OU (λvs H Q E h=>?_) (λ_ _ _ _ _ _=>oN λ_ _ _=>rfl) (λf aP A outer s H vs Q E hr h=>?_)
 ·obtain⟨m,rv,sq,rs,r,f,j,ti,zs,q,rfl,_⟩:=h
  rfl
 ·obtain⟨m,rv,sq,rs,r,f,j,ti,zs,q,rfl,rm,aU,rr,Rq,bq,q0,k⟩:=h
  have nd:=OU.nd;refine⟨_,(aL (aX (ck (ao aV (ao (pv 1) (ao (pf a5k hr (ao (pv 0) (ao (pv 2) az))) (ao (pv 2) az))))))),?_⟩;have t1:=aU.t1;have qn:0<q.num:=Ik q0;refine⟨_,Z,_,Z,_,Z,m,sq,rs,r,f,j,ti,q,Z,rm,Rq,bq,t1.1,t1.2,qn,λT T1 _ T2 T3=>?_⟩;refine⟨_,Z,bT Z,λt H1 n1=>k (.ref t) H1 ?_ n1.same⟩;have e:=MB au ⟨T1,T2,T3⟩;unfold ph;rw[e];exact gA (aR.of n1.at') (bW (cM _) (bW (RD.mono n1.same _ rr) (bW (dU _) (bW (Rq.go n1.same).rd cU))))
theorem Mz(h1:1<=sp)(h2:10<=aB):0<topR aB sp:=by
 have h0:=Ow.Bi aB sp;refine LD h0 λe=>?_;have hp:0<(sp*aB)^2:=by rw[fX,fX,lW,kS];exact j7 (j7 au au) (j7 au au)
 have h2:0<=Rat.divInt (-((sp*aB)^2)) 10000:=by rw[<-Rat.neg_divInt];show 0<=-(topR aB sp);rw[<-e];decide
 have:=(yd aA).mp h2
 lia
inductive acJ(K:aa)(vs:List V)(H:Hp)(Q:VK):Prop |mk (m:_)(iv:_)(aB:_)(rs:_)(r:_)(f:_)(j:_)(t:_)(ds:_)(os:_)(h0:vs=[m,iv,.int aB])(h1:RD K H m (iU rs r f j t))(h2:nv rs r f j t)(h3:RD K H iv (.list ds))(h4:gW rs.length ds os)(h5:ds.length<=100)(h6:10<=aB)(h7:aB<=200)(h8:∀l ys H',H l=none->H' l=some (.lst ys)->aJ K H' ys ((ownL j aB os).map da)->aF H H'->Q (.ref l) H')
def Nr(K:aa):Sp:=λvs H Q _=>acJ K vs H Q
theorem a2o(F:FA K mg "own_bounds" Bz)(B:bV mg)(gN:GT K mg "NOUGHT" [.int 0,.int 1])(Jy:aI P w K mg ay "bound_between" 7 (Bw K)):aI P w K mg ay "own_bounds" 8 (Nr K):=by
 obtain⟨aN,lL,nN⟩:=gN;refine F.has Bx (λvs H Q E h=>?_) (λ_ _ _ _ _ _=>oN λ_ _ _=>rfl) (λf aP A outer s H vs Q E hr h=>?_)
 ·obtain⟨m,iv,aB,rs,r,f,j,t,ds,os,rfl,_⟩:=h
  rfl
 ·obtain⟨m,iv,aB,rs,r,f,j,t,ds,os,rfl,rm,aU,ri,row,hz,dR,ek,k⟩:=h
  have nd:=Bx.nd;have rN:∀H',RD K H' (.ref aN) (da 0):=λH'=>(uo (nN H')).rd;refine⟨_,(aE (bR (fD (HN K Z (pv 1))) (aL (aX (cK (ao (fm (x:="NOUGHT") Z lL) az)))) bU) (aE (BL (i0:=3) nd Z (Or.inl Z) (N:=["one","other","machine","rate"]) (js:=[none,none,some 0,some 2]) Z Z Z (jU K Z true true Z (B.at "zip") (ao (pv 1) (ao (qX (qO K rfl) (pv 1) (qV aD) qW) az))) (λ_ _ _ _ _=>(eG K rfl (n:=2) rfl (bZ (bp 0 (show List.Nodup (["one","other","machine","rate"]:List Str) by decide+kernel)) (bZ (bp 1 (show List.Nodup (["one","other","machine","rate"]:List Str) by decide+kernel)) eu)))) (λ_ _ _ _ _=>fL) (λ_ _ _ _ _=>(pf Jy hr (ao (pv 2) (ao (pv 0) (ao (pv 1) (ao (pv 3) az))))))) (aL (aX (aG (ku K Z) (aG (ku K Z) (cK (ao (fm (x:="NOUGHT") Z lL) az)) (pv 3)) (cK (ao (fm (x:="NOUGHT") Z lL) az))))))),?_⟩;obtain⟨ia,xs,rfl,hi,iH⟩:=ri.lst_inv;have lx:=iH.length;have ll:=row.len;refine⟨_,Z,_,.inl ⟨_,hi,Z⟩,?_⟩;cases hd:xs with
  |nil=>
   subst hd;refine cg ?_;refine⟨bT Z,λl H1 n1=>?_⟩;refine k l [.ref aN] H1 n1.no n1.at' ?_ n1.same;have e:os=[]:=by
    have:os.length=0:=by rw[<-ll,<-lx];rfl
    exact AQ.mp this
   rw[e];exact bW (rN H1) cU |cons x0 xr=>
   refine bN ?_;have dP:os≠[]:=by intro e;rw[e]at ll;rw[hd]at lx;simp at ll lx;rw[ll]at lx;cases lx
   have zH:0<xs.length:=by rw[hd];simp
   refine⟨_,Z,_,Z,1,Z,ia,xs,Z,.inl ⟨hi,λtl H1 n1=>?_⟩⟩;refine⟨ia,tl,Z,⟨_,hi.go n1.same⟩,⟨_,aH.of n1.at'⟩,λD H2 n2=>?_⟩;have et:=n1.at';rw[Kv]at et;have zd:∀(i:Nat)(o:Itm),os[i]? =some o->∀(ns:List Int)(sp:Int),o=some (ns,sp)->fj rs.length 100 ns/\1<=sp/\sp<=20:=λi o e ns sp e'=>row.ok i ns sp (by rw[e,e']);have lr:=aU.len;refine vh (K:=K) (b1:=true) (b2:=true) (xs:=xs) (ys:=xs.drop 1) (ds:=((List.range (os.length-1)).map (λi=>ownF j aB os (i+1))).map da) _ Z (hi.go n1.same) (aH.of et) n2 (by rw[yi];simp;lia) (by simp;lia) (wL _) ?_ ?_
   ·intro i x y d H3 Q' ex ey ed s3 hq
    have dw:=n1.same.trans s3;rw[List.getElem?_drop]at ey;obtain⟨d1,e1,r1⟩:=iH.get' i ex;obtain⟨d2,e2,r2⟩:=iH.get' (1+i) ey;obtain⟨o1,oE,i1⟩:=row.get e1;obtain⟨o2,mm,i2⟩:=row.get e2;have Sw:1+i<os.length:=(eh.mp mm).1;have lN:d=da (betR j aB o1 o2):=by rw[cI,cI,cn (by simp;lia),vI]at ed;have:=(dQ ed).symm;rw[this];show da (betR j aB (atO os i) (atO os (i+1)))=_;rw[Ow.qx oE,Ow.qx (show os[i+1]? =some o2 by rw[LR];exact mm)]
    subst lN;refine⟨_,Z,_,Z,_,Z,_,Z,m,x,y,aB,rs,r,f,j,t,d1,d2,o1,o2,rs.length,Z,RD.mono dw _ rm,aU.j1.1,aU.j1.2,RD.mono dw _ r1,RD.mono dw _ r2,i1,i2,zd _ _ oE,zd _ _ mm,au,dR,ek,λv H4 rv s4=>?_⟩;exact hq _ _ s4 rv.rd
   ·intro H3 zs s3 d3 r3
    have lz:=r3.length;simp at lz;refine⟨bT Z,λl1 H4 n4=>?_⟩;refine⟨_,Z,l1,D,_,zs,Z,Z,aH.of n4.at',aH.of (n4.same _ _ d3),yL _ (by simp;lia),λl2 H5 n5=>?_⟩;refine⟨bT Z,λl3 H6 n6=>?_⟩;refine⟨l2,l3,_,_,Z,Z,aH.of (n6.same _ _ n5.at'),aH.of n6.at',yL _ (by simp;lia),λl H7 n7=>?_⟩;have yQ:aF H H6:=n1.same.trans (s3.trans (n4.same.trans (n5.same.trans n6.same)));have nl:H l=none:=by cases e:H l with |none=>rfl |some o=>have:=yQ _ _ e;rw[n7.no]at this;cases this
    refine k l _ H7 nl n7.at' ?_ (yQ.trans n7.same);rw[Ow.Ql j aB dP,oX,oX];exact((bW (rN H7) cU).append (aJ.mono (n4.same.trans (n5.same.trans (n6.same.trans n7.same))) _ r3)).append (bW (rN H7) cU)
inductive ad1(K:aa)(vs:List V)(H:Hp)(Q:VK):Prop |mk (m:_)(iv:_)(l:_)(ys:_)(rs:_)(r:_)(f:_)(j:_)(t:_)(ds:_)(os:_)(g:_)(h0:vs=[m,iv,.ref l])(h1:RD K H m (iU rs r f j t))(h2:nv rs r f j t)(h3:RD K H iv (.list ds))(h4:gW rs.length ds os)(h5:ds.length<=30)(h6:H l=some (.lst ys))(h7:aJ K H ys ((lst os.length g).map da))(h8:(∀i,i<=os.length->Bd 900 (g i)))(h9:∀l ys H',H l=none->H' l=some (.lst ys)->aJ K H' ys ((lst os.length (fl os.length (leadF os) (2*f) g)).map da)->aF H H'->Q (.ref l) H')
def Nz(K:aa):Sp:=λvs H Q _=>ad1 K vs H Q
theorem a2P(F:FA K mg "kept_by_fall" GJ)(B:bV mg)(rM:aI P w K mg ay "is_line" 1 (we K))(pV:aI P w K mg ay "lead_of" 1 (lY K))(xj:aI P w K mg ay "plus_whole" 4 (Bu K))(xn:aI P w K mg ay "least" 2 (jy K)):aI P w K mg ay "kept_by_fall" 5 (Nz K):=by
 refine F.has OT (λvs H Q E h=>?_) (λ_ _ _ _ _ _=>oN λ_ _ _=>rfl) (λfa aP A outer s H vs Q E hr h=>?_)
 · obtain⟨m,iv,l,ys,rs,r,f,j,t,ds,os,g,rfl,_⟩:=h
   rfl
 · obtain⟨m,iv,l,ys,rs,r,f,j,t,ds,os,g,rfl,rm,aU,ri,row,hz,dl,qS,bg,k⟩:=h
   have nd:=OT.nd;refine⟨_,(aE (pS 3 nd (px K (pv 0) aD)) (aE (pS 4 nd (gQ (x:="list") (Ce K Z) Z (B.at "list") kB (ao (pv 2) az))) (aE (m6 ip Z (a0K Z (B.at "reversed") (ao (gQ (x:="range") aaL rfl (B.at "range") PyProof.Rows.boot_range (ao (eL K B (ao (pv 1) az)) az)) az)) (bp 5 nd) (aL (bR (cV (pf rM hr (ao (px K (pv 1) (pv 5)) az))) (aL (fZ (pf xn hr (ao (cK (ao (px K (pv 4) (pv 5)) (ao (pf xj hr (ao (px K (pv 4) (aG dc (pv 5) aD)) (ao (aG bM (aG bM aD (pv 3)) (pf pV hr (ao (px K (pv 1) (pv 5)) az))) az))) az))) az)) (ug (pv 4) (pv 5) set_list))) bU))) (aL (aX (pv 4)))))),?_⟩;obtain⟨ma,mb,rfl,gf,iI⟩:=jY rm;obtain⟨ia,xs,rfl,hi,iH⟩:=ri.lst_inv;have lx:=iH.length;have ll:=row.len;have lr:=aU.len;have hL:∀i m,leadF os i=some m->(2*f*(m:Int)).natAbs<2^24:=λi m e=>Mq aU.f1.1 aU.f1.2 (RM row.wH e);have FB:∀i,i<=os.length->Bd 1700 (fl os.length (leadF os) (2*f) g i):=λi hi=>(Tz bg hL i hi).mono au;refine⟨_,Z,.inr ⟨ma,_,2,.int f,Z,Z,gf,Z,?_⟩⟩;refine⟨_,Z,l,ys,Z,.inl (aH.of dl),λD H1 n1=>?_⟩;refine⟨_,Z,ia,_,Z,.inl (hi.go n1.same),_,Z,λpr H2 n2=>?_⟩;refine⟨pr,_,Z,n2.at',au,au,?_⟩;have eN:((xs.length:Int)).toNat=os.length:=by lia
   rw[eN];refine a8a (Pv:=λi O H5=>aF H H5/\∃zs v1,H5 D=some (.lst zs)/\aJ K H5 zs ((lst os.length λk=>if os.length<=k+i then fl os.length (leadF os) (2*f) g k else g k).map da)/\O=[some (.ref ma),some (.ref ia),some (.ref l),some (.int f),some (.ref D),v1]) ?_ ?_ ?_
   · refine⟨n1.same.trans n2.same,ys,none,n2.same _ _ n1.at',?_,Z⟩
     rw[IJ (g:=λk=>if os.length<=k+0 then fl os.length (leadF os) (2*f) g k else g k) (g':=g)]
     ·exact aJ.mono (n1.same.trans n2.same) _ qS
     · intro k hk
       show g k=if os.length<=k+0 then _ else g k;split
       · next h => have:k=os.length:=by lia
                   subst this;exact xE.symm
       ·rfl
   · rintro i O H3 xo ⟨s3,zs,v1,dz,rz,rfl⟩
     obtain⟨x,hx⟩:∃x,xs[os.length-1-i]? =some x:=⟨_,cn (show os.length-1-i<xs.length by lia)⟩;generalize hc:os.length-1-i=c at hx;have mh:c<os.length:=by lia
     have eI:((os.length:Int)-1-(i:Int))=(c:Int):=by lia
     rw[eI];obtain⟨d,ed,rd⟩:=iH.get' c hx;obtain⟨o,eo,it⟩:=row.get ed;have lz:=rz.length;rw[cx,rH]at lz;have Ak:fP xs (c:Int)=some x:=dC au (by simpa using hx);refine⟨_,Z,_,Z,.inl ⟨ia,_,_,_,Z,Z,hi.go s3,Ak,?_⟩⟩;refine⟨x,d,o,Z,RD.mono s3 _ rd,it,_,Z,?_⟩;cases o with
     |none=>
       refine bN ?_;refine⟨s3,zs,_,dz,?_,Z⟩;rw[IJ (g:=λk=>if os.length<=k+(i+1)then fl os.length (leadF os) (2*f) g k else g k) (g':=λk=>if os.length<=k+i then fl os.length (leadF os) (2*f) g k else g k)]
       ·exact rz
       · intro k _
         show(if os.length<=k+i then _ else g k)=if os.length<=k+(i+1)then _ else g k;by_cases h1:os.length<=k+i
         ·rw[bh h1,bh au]
         · rw[bf h1]
           by_cases h2:k=c
           ·subst h2;rw[bh au,xD mh (RL eo)]
           ·rw[bf au] |some q=>
       obtain⟨ns,sp⟩:=q;refine cg ?_;have lN:=kM it;subst lN;obtain⟨fu,_,_⟩:=row.ok c ns sp eo;obtain⟨z1,TM⟩:∃z,zs[c+1]? =some z:=⟨_,cn (show c+1<zs.length by lia)⟩;obtain⟨z0,A7⟩:∃z,zs[c]? =some z:=⟨_,cn (show c<zs.length by lia)⟩;have R1:bw K H3 z1 (fl os.length (leadF os) (2*f) g (c+1)):=by
        obtain⟨d1,e1,r1⟩:=rz.get' (c+1) TM;rw[cI,rJ _ (show c+1<=os.length by lia)]at e1;cases e1;have:os.length<=c+1+i:=by lia
        simp only[bh this]at r1;exact nR r1
       have R0:bw K H3 z0 (g c):=by
        obtain⟨d1,e1,r1⟩:=rz.get' c A7;rw[cI,rJ _ (show c<=os.length by lia)]at e1;cases e1;have:¬os.length<=c+i:=by lia
        simp only[bf this]at r1;exact nR r1
       have Kl:((c:Int)+1).toNat=c+1:=by lia
       have KY:fP zs ((c:Int)+1)=some z1:=dC au (by rw[Kl];exact TM);have KZ:fP zs (c:Int)=some z0:=dC au (by simpa using A7);refine⟨_,Z,_,Z,.inl ⟨D,_,_,_,Z,Z,aH.of dz,KZ,?_⟩⟩;refine⟨_,Z,_,Z,_,_,Z,Z,.inl ⟨D,_,_,_,Z,Z,aH.of dz,KY,?_⟩⟩;refine⟨_,Z,_,_,Z,Z,.of_left (cm aA aA),?_⟩;refine⟨_,Z,_,Z,.inl ⟨ia,_,_,_,Z,Z,hi.go s3,Ak,?_⟩⟩;refine⟨x,ns,sp,Z,RD.mono s3 _ rd,fu.ne,by rw[fu.len];lia,λH4 s4=>?_⟩;have sf:=aU.f1;refine⟨_,_,Z,Z,.of_left (cm au au),?_⟩;have us:=hL c _ (Ck eo);refine⟨z1,_,_,Z,R1.go s4,(FB (c+1) au).mono aA,us,λu H5 ru s5=>?_⟩;refine⟨bT Z,λl2 H6 n6=>?_⟩;have qR:=s4.trans (s5.trans n6.same);have VL:=R0.go qR;have Ru:=ru.go n6.same;have B1:Bd 2000 (g c):=(bg _ au).mono aA;have B2:Bd 2000 (fl os.length (leadF os) (2*f) g (c+1)+((2*f*(aM ns:Int):Int):Rat)):=(DB (FB (c+1) au) us).mono aA;refine⟨l2,[z0,u],[_,_],Z,aH.of n6.at',⟨VL,B1,Ru,B2,trivial⟩,by simp,λc' v q e1 e2 hq=>?_⟩;have uF:mn (g c) (fl os.length (leadF os) (2*f) g (c+1)+((2*f*(aM ns:Int):Int):Rat))=q:=by
        refine nV ?_ (hq _ (by simp)) (hq _ (by simp))
        match c',e2 with |0,e2=>cases e2;exact .inl rfl |1,e2=>cases e2;exact .inr rfl
       have Rv:bw K H6 v q:=by match c',e1,e2 with |0,e1,e2=>cases e1;cases e2;exact VL |1,e1,e2=>cases e1;cases e2;exact Ru
       have Uo:=qR _ _ dz;have zD:jD zs.length (c:Int)=some c:=by unfold jD;rw[bh au,bh au];simp
       refine⟨_,Z,_,Z,D,zs,_,_,Z,Z,Uo,zD,?_⟩;refine⟨λb o e=>?_,_,_,bo,?_,Z⟩
       ·rw[aO (fT e n1.no)];exact qR b o (s3 b o e)
       · have h:=aJ.F9 (i:=c) Uo (aJ.mono qR _ rz) Rv.rd (wL _) (qU _)
         rw[<-AN]at h;have e:(lst os.length λk=>if os.length<=k+i then fl os.length (leadF os) (2*f) g k else g k).set c q=lst os.length λk=>if os.length<=k+(i+1)then fl os.length (leadF os) (2*f) g k else g k:=by
          rw[<-a49 (g:=λk=>if os.length<=k+i then fl os.length (leadF os) (2*f) g k else g k) (g':=λk=>if os.length<=k+(i+1)then fl os.length (leadF os) (2*f) g k else g k) (i:=c)]
          · have:os.length<=c+(i+1):=by lia
            simp only[bh this];rw[xF mh (Ck eo),uF]
          · intro k _ hk
            show(if os.length<=k+(i+1)then _ else g k)=if os.length<=k+i then _ else g k;by_cases h1:os.length<=k+i
            ·rw[bh h1,bh au]
            ·rw[bf h1,bf au]
         rw[e]at h;exact h
   · rintro O H3 ⟨s3,zs,v1,dz,rz,rfl⟩
     rw[IJ (g:=λk=>if os.length<=k+os.length then fl os.length (leadF os) (2*f) g k else g k) (g':=fl os.length (leadF os) (2*f) g) (λk hk=>by show _=if os.length<=k+os.length then _ else _;rw[bh au])]at rz;exact⟨_,Z,k D zs H3 n1.no dz rz s3⟩
def Py(f j aB:Int)(os:List Itm):Rat:=fl os.length (leadF os) (2*f) (ownF j aB os) 1
inductive acx(K:aa)(vs:List V)(H:Hp)(Q:VK):Prop |mk (m:_)(iv:_)(aB:_)(rs:_)(r:_)(f:_)(j:_)(t:_)(ds:_)(os:_)(h0:vs=[m,iv,.int aB])(h1:RD K H m (iU rs r f j t))(h2:nv rs r f j t)(h3:RD K H iv (.list ds))(h4:gW rs.length ds os)(h5:ds.length<=30)(h6:1<=ds.length)(h7:10<=aB)(h8:aB<=200)(h9:∀v H',bw K H' v (Py f j aB os)->aF H H'->Q v H')
def ES(K:aa):Sp:=λvs H Q _=>acx K vs H Q
theorem Oa:bG ["machine","items","rate"] ["machine","items","rate"] (aZ FJ):=bQ aW
theorem a2k(F:FA K mg "reach_behind_first" FJ)(B:bV mg)(a5F:aI P w K mg ay "own_bounds" 8 (Nr K))(a65:aI P w K mg ay "kept_by_fall" 5 (Nz K)):aI P w K mg ay "reach_behind_first" 9 (ES K):=by
 refine F.has Oa (λvs H Q E h=>?_) (λ_ _ _ _ _ _=>oN λ_ _ _=>rfl) (λfa aP A outer s H vs Q E hr h=>?_)
 ·obtain⟨m,iv,aB,rs,r,f,j,t,ds,os,rfl,_⟩:=h
  rfl
 ·obtain⟨m,iv,aB,rs,r,f,j,t,ds,os,rfl,rm,aU,ri,row,hz,h1,dR,ek,k⟩:=h
  have nd:=Oa.nd;refine⟨_,(aL (aX (px K (pf a65 hr (ao (pv 0) (ao (pv 1) (ao (pf a5F hr (ao (pv 0) (ao (pv 1) (ao (pv 2) az)))) az)))) aD))),?_⟩;have ll:=row.len;have hB:=Ow.Ia aU.j1.1 aU.j1.2 dR ek row.wH;refine⟨_,Z,_,Z,_,Z,_,Z,_,Z,m,iv,aB,rs,r,f,j,t,ds,os,Z,rm,aU,ri,row,au,dR,ek,λl1 y1 H1 nl1 d1 r1 s1=>?_⟩;refine⟨m,iv,l1,y1,rs,r,f,j,t,ds,os,ownF j aB os,Z,RD.mono s1 _ rm,aU,RD.mono s1 _ ri,row,hz,d1,r1,λi _=>(hB i).mono aA,λl2 y2 H2 QL d2 r2 s2=>?_⟩;have ly:=r2.length;rw[cx,rH]at ly;obtain⟨z,ez⟩:∃z,y2[1]? =some z:=⟨_,cn (show 1<y2.length by lia)⟩;refine .inl ⟨l2,_,1,z,Z,Z,aH.of d2,dC aA ez,?_⟩;obtain⟨d,ed,rd⟩:=r2.get' 1 ez;rw[cI,rJ _ (show 1<=os.length by lia)]at ed;cases ed;exact k z H2 (nR rd) (s1.trans s2)
open Ow (Itm)
theorem a3P{H:Hp}{v:V}{rs:List Int}{es:List ai}(h:RD K H v (.tuple (.tuple (rs.map PyData.int)::es))):∃a b ys,v= .ref a/\aR K H a (.ref b::ys)/\aR K H b (rs.map V.int):=by obtain⟨a,xs,rfl,h1,h2⟩:=h.dS;obtain⟨x1,r1,rfl,e1,h2⟩:=h2.cons_inv;obtain⟨b,ys,rfl,h3,h4⟩:=e1.dS;rw[h4.ja]at h3;exact⟨a,b,r1,Z,h1,h3⟩
def iG(z:Str):ai->Bool | .str x=>x==z |_=>false
theorem De(z:Str)(d:ai):PyData.eqv d (.str z)=iG z d:=by cases d<;>simp[PyData.eqv,iG]
theorem U6(z:Str)(d:ai):PyData.eqv (.str z) d=iG z d:=by cases d<;>simp[PyData.eqv,iG];rw[oZ];simp;exact eq_comm
theorem Yj(d:ai):(∃z,d= .str z)\/(j8 (nK d) "str"=false/\∀z,d≠ .str z):=by cases d with |str z=>exact .inl ⟨z,Z⟩ |_=>exact .inr ⟨by simp[nK];decide,λ_ z=>nomatch z⟩
theorem Xl:j8 "str" "str"=true:=by decide
def J4(d:ai):Bool:=iG "up" d||iG "down" d
def wI(c:Nat):Bool:=decide (97<=c)&&decide (c<=122)
def isNm:ai->Bool | .str x=>(decide (1<=x.length)&&decide (x.length<=8))&&x.cps.toList.all wI |_=>false
def pT(wd v:ai):Bool:=if iG "wait" wd then gK 1 1000 v else if iG "tool" wd then J4 v else iG "mark" wd&&isNm v
def zf:ai->Bool | .int i=>i !=0 |_=>true
def uk(n:Nat):ai->Bool | .tuple ds=>(ds.length==n&&ds.all (gK (-100) 100))&&ds.any zf |_=>false
def m9(n:Nat):ai->Bool | .tuple [wd,a,b]=>iG "line" wd&&(uk n a&&gK 1 20 b) | .tuple [wd,v]=>pT wd v |_=>false
def qQ:ai->Bool | .str x=>decide (x.length<=900) |_=>true
def pC:ai->Bool | .tuple ds=>ds.all qQ |_=>true
inductive aca(f:ai->Bool)(K:aa)(vs:List V)(H:Hp)(Q:VK):Prop |mk (v:_)(d:_)(h0:vs=[v])(h1:RD K H v d)(h2:qQ d=true)(h3:∀H',aF H H'->Q (.bl (f d)) H')
def N5(f:ai->Bool)(K:aa):Sp:=λvs H Q _=>aca f K vs H Q
theorem YI(h:qQ (.str z)=true):z.length<=900:=jL h
theorem QQ(n:Nat):decide ((1:Int)<=(n:Int))=decide (1<=n):=by rw[oZ];simp;omega
theorem a3r(n:Nat):decide ((n:Int)<=8)=decide (n<=8):=by rw[oZ];simp;omega
theorem abp{l:List Nat}{f:Nat->Bool}:(l.map f).all id=l.all f:=by rw[LX];rfl
theorem abD:∀c<128,decide (c∈jH.cps.toList)=wI c:=by decide+kernel
theorem abG:∀c∈jH.cps.toList,c<128:=by decide+kernel
theorem abF(c:Nat):decide (c∈jH.cps.toList)=wI c:=by
 by_cases h:c<128
 ·exact abD c h
 ·rw[fk (λhc=>h (abG c hc)),wI,fk (show¬c<=122 by omega),M8]
theorem ON:bG ["thing"] ["thing"] (aZ GD):=bQ aW
theorem a2K(F:FA K mg "is_name" GD)(B:bV mg)(a72:GV mg "LONGEST_NAME" (.int 8))(a73:GV mg "LETTERS" (.str jH)):aI P w K mg ay "is_name" 1 (N5 isNm K):=by
 refine F.has ON (λvs H Q E h=>?_) (λ_ _ _ _ _ _=>fH λ_=>rfl) (λf aP A outer s H vs Q E hr h=>?_)
 ·obtain⟨v,d,rfl,_⟩:=h
  rfl
 ·obtain⟨v,d,rfl,rd,sh,k⟩:=h
  have nd:=ON.nd;refine⟨_,(aE (bR (PW.pt (m5 (fD (cV (dX K B (ao (pv 0) (ao (dy (x:="str") (v:=.ty "str") Z (B.at "str") oU rfl) az))))) (mH (fD (a0t wF wF aD (dM (x:="len") aaN rfl (B.at "len") PySem.boot_len (ao (pv 0) az)) (fm (x:="LONGEST_NAME") rfl a72)))))) (aL (aX gC)) bU) (aL (aX (dM (x:="all") (qy K Z Z) Z (B.at "all") tD (ao (gB (N:=["letter"]) (js:=[none]) rfl rfl rfl (a0J (pv 0)) (λ_ _ _ _ _=>(bp 0 (uu _))) (λ_ _ _ _ _=>fL) (λ_ _ _ _ _=>(fE a1u (pv 0) (fm (x:="LETTERS") rfl a73) (by with_unfolding_all rfl)))) az))))),?_⟩;rcases Yj d with⟨z,rfl⟩|⟨ht,hn⟩
  ·refine⟨_,Z,.inl ⟨_,_,"str",true,Z,rd.ty,aA,Xl,_,Z,bN ?_⟩⟩
   cases rd.str_inv;have hl:=YI sh;have k:∀H',aF H H'->Q (.bl ((decide (1<=z.length)&&decide (z.length<=8))&&z.cps.toList.all wI)) H':=k;refine⟨_,Z,z,Z,gM hl aA,_,_,Z,Z,_,Z,?_⟩;refine eQ (λh1=>?_) (λh1=>?_)
   ·rw[<-QQ,show decide ((1:Int)<=(z.length:Int))=true from h1,kE]at k
    refine⟨_,_,Z,Z,_,Z,?_⟩;rw[a3r];cases e8:decide (z.length<=8)with |false=>rw[e8,kU]at k;exact cg (k H (aF.refl _)) |true=>
     rw[e8,kE]at k;refine bN ⟨_,Z,z,Z,λD H0 nw=>?_⟩;refine aaw (f:=wI) [] nw au (λc H2 Q' hc s2 hq=>?_) (λH2 s2 d2=>?_)
     ·refine⟨_,Z,c,jH,Z,Z,?_⟩
      rw[abF];exact hq _ (aF.refl _)
     ·refine⟨D,_,Z,aH.of d2,?_⟩
      rw[abp];exact k H2 s2
   ·rw[<-QQ,show decide ((1:Int)<=(z.length:Int))=false from yk.mpr h1,kU,kU]at k
    exact⟨_,Z,cg (k H (aF.refl _))⟩
  ·have e:isNm d=false:=by cases d<;>first|rfl|exact absurd rfl (hn _)
   rw[e]at k;refine⟨_,Z,.inl ⟨_,_,"str",false,Z,rd.ty,aA,ht,_,Z,cg ?_⟩⟩;exact k H (aF.refl _)
inductive aco(K:aa)(vs:List V)(H:Hp)(Q:VK):Prop |mk (x:_)(v:_)(wd:_)(d:_)(h0:vs=[x,v])(h1:RD K H x wd)(h2:RD K H v d)(h3:cZ 8 wd)(h4:cZ 8 d)(h5:qQ d=true)(h6:∀H',aF H H'->Q (.bl (pT wd d)) H')
def Nc(K:aa):Sp:=λvs H Q _=>aco K vs H Q
theorem yM(h:cZ 8 d):SeqAt.shaped d=true:=h.shaped aA
theorem OL:bG ["word","value"] ["word","value"] (aZ GB):=bQ aW
theorem a2I(F:FA K mg "is_short_item" GB)(B:bV mg)(a71:GV mg "LONGEST_WAIT" (.int 1000))(gS:GT K mg "SIDES" [.str "up",.str "down"])(pZ:aI P w K mg ay "is_whole_within" 2 (tT K))(a6c:aI P w K mg ay "is_name" 1 (N5 isNm K)):aI P w K mg ay "is_short_item" 3 (Nc K):=by
 refine F.has OL (λvs H Q E h=>?_) (λ_ _ _ _ _ _=>dJ λ_ _=>rfl) (λf aP A outer s H vs Q E hr h=>?_)
 ·obtain⟨x,v,wd,d,rfl,_⟩:=h
  rfl
 ·obtain⟨x,v,wd,d,rfl,Hb,rd,Ie,ze,sh,k⟩:=h
  have nd:=OL.nd;obtain⟨aS,a6P,Yr⟩:=gS;refine⟨_,(aE (bR (cu (cY K Z hr.units) (pv 0) aV (bI _)) (aL (aX (pf pZ hr (ao (pv 1) (ao aD (ao (fm (x:="LONGEST_WAIT") Z a71) az)))))) bU) (aE (bR (cu (cY K Z hr.units) (pv 0) aV (bI _)) (aL (aX (fE (a53 K Z (hr.Xh)) (pv 1) (fm (x:="SIDES") Z a6P) (by with_unfolding_all rfl)))) bU) (aL (aX (iR (fE (cY K Z hr.units) (pv 0) aV (bI _)) (j9 (pf a6c hr (ao (pv 1) az)))))))),?_⟩;have k:∀H',aF H H'->Q (.bl (if iG "wait" wd then gK 1 1000 d else if iG "tool" wd then J4 d else iG "mark" wd&&isNm d)) H':=k;refine⟨_,Z,.inr ⟨_,_,Hb,cM _,yM Ie,aW,_,Z,?_⟩⟩;rw[De];cases e1:iG "wait" wd with |true=>rw[e1,bh rfl]at k;exact cg ⟨_,Z,_,d,1,1000,Z,rd,k H (aF.refl _)⟩ |false=>rw[e1,bf kF]at k;refine bN ⟨_,Z,.inr ⟨_,_,Hb,cM _,yM Ie,aW,_,Z,?_⟩⟩;rw[De];cases e2:iG "tool" wd with
   |true=>
    rw[e2,bh rfl]at k;refine cg ⟨_,Z,aS,_,d,[.str "up",.str "down"],Z,Yr H,rd,bW (cM _) (bW (cM _) cU),yM ze,?_,?_⟩
    ·intro e he
     rcases bL.mp he with rfl|he
     ·decide+kernel
     rcases bL.mp he with rfl|he
     ·decide+kernel
     ·exact(cE he).elim
    ·have e:([.str "up",.str "down"]:List ai).any (λe=>PyData.eqv e d)=J4 d:=by rw[vK,vK,List.any_nil,U6,U6,Bool.or_false];rfl
     rw[e];exact k H (aF.refl _) |false=>rw[e2,bf kF]at k;refine bN ⟨_,Z,.inr ⟨_,_,Hb,cM _,yM Ie,aW,_,Z,?_⟩⟩;rw[De];cases e3:iG "mark" wd with |true=>rw[e3,kE]at k;exact cg ⟨_,Z,_,d,Z,rd,sh,k⟩ |false=>rw[e3,kU]at k;exact bN (k H (aF.refl _))
theorem a35(i:Int):(!decide (i=0))=(i !=0):=by rw[oZ];simp
theorem a52{lo hi:Int}{d:ai}(h:gK lo hi d=true):∃i,d= .int i:=by cases d<;>simp[gK]at h;exact⟨_,Z⟩
theorem any_map'{ds:List ai}{f:ai->Bool}:(ds.map f).any id=ds.any f:=by rw[List.any_map];rfl
inductive acm(K:aa)(vs:List V)(H:Hp)(Q:VK):Prop |mk (m:V)(v:V)(rs:List Int)(es:List ai)(d:ai)(h0:vs=[m,v])(h1:RD K H m ((.tuple (.tuple (rs.map PyData.int)::es))))(h2:RD K H v d)(h3:rs.length<=3)(h4:∀H',aF H H'->Q (.bl (uk rs.length d)) H')
def Na(K:aa):Sp:=λvs H Q _=>acm K vs H Q
theorem P4:bG ["machine","thing","rails"] ["machine","thing"] (aZ GU):=bQ aW
theorem a2Y(F:FA K mg "are_steps" GU)(B:bV mg)(SS:GV mg "MOST_STEPS" (.int 100))(pZ:aI P w K mg ay "is_whole_within" 2 (tT K)):aI P w K mg ay "are_steps" 3 (Na K):=by
 refine F.has P4 (λvs H Q E h=>?_) (λ_ _ _ _ _ _=>dJ λ_ _=>rfl) (λf aP A outer s H vs Q E hr h=>?_)
 ·obtain⟨m,v,rs,es,d,rfl,_⟩:=h
  rfl
 ·obtain⟨m,v,rs,es,d,rfl,rm,rd,l3,k⟩:=h
  have nd:=P4.nd;refine⟨_,(aE (pS 2 nd (px K (pv 0) aD)) (aE (bR (PW.pt (m5 (fD (cV (dX K B (ao (pv 1) (ao (dy (x:="tuple") (v:=.ty "tuple") Z (B.at "tuple") fW rfl) az))))) (mH (cu (jB K rfl hr.units) (eL K B (ao (pv 1) az)) (eL K B (ao (pv 2) az)) (bI _))))) (aL (aX gC)) bU) (aE (bR (fD (cV (dM (x:="all") (qy K Z Z) Z (B.at "all") tD (ao (gB (N:=["step"]) (js:=[none]) rfl rfl rfl (pH K rfl (pv 1)) (λ_ _ _ _ _=>(bp 0 (uu _))) (λ_ _ _ _ _=>fL) (λ_ _ _ _ _=>(pf pZ hr (ao (pv 0) (ao (wA vO (fm (x:="MOST_STEPS") rfl SS)) (ao (fm (x:="MOST_STEPS") rfl SS) az)))))) az)))) (aL (aX gC)) bU) (aL (aX (dM (x:="any") (Vq K Z Z) Z (B.at "any") Ww (ao (gB (N:=["step"]) (js:=[none]) rfl rfl rfl (pH K rfl (pv 1)) (λ_ _ _ _ _=>(bp 0 (uu _))) (λ_ _ _ _ _=>fL) (λ_ _ _ _ _=>(fE (jB K rfl hr.units) (pv 0) aD (bI _)))) az))))))),?_⟩;obtain⟨am,ar,ym,rfl,hm,har⟩:=a3P rm;refine⟨_,Z,.inr ⟨am,_,0,_,Z,Z,hm,dC (gO 0) Z,?_⟩⟩;rcases Eu d with⟨ds,rfl⟩|⟨ht,hn⟩
  ·refine⟨_,Z,.inl ⟨_,_,"tuple",true,Z,rd.ty,aA,yx,_,Z,bN ?_⟩⟩
   obtain⟨av,xs,rfl,hx,hd⟩:=rd.dS;have hl:=hd.length;refine⟨_,Z,av,_,Z,.inr hx,_,Z,ar,_,Z,.inr har,.inl ⟨_,_,Z,Z,_,Z,?_⟩⟩;have k:∀H',aF H H'->Q (.bl ((ds.length==rs.length&&ds.all (gK (-100) 100))&&ds.any zf)) H':=k;have e0:(!decide ((xs.length:Int)=((rs.map V.int).length:Int)))= !(ds.length==rs.length):=by rw[hl,cx];congr 1;rw[oZ];simp;lia
   rw[e0];cases e:(ds.length==rs.length)with |false=>rw[e,kU,kU]at k;exact cg (k H (aF.refl _)) |true=>
    rw[e,kE]at k;refine bN ?_;have el:ds.length=rs.length:=fz.mp e;refine⟨_,Z,av,Z,⟨_,hx⟩,λD H0 nw=>?_⟩;refine UN (xs:=xs) (bs:=ds.map (gK (-100) 100)) [] hx nw (by rw[cx,hl]) au ?_ ?_
    ·intro i x b H2 Q' ex eb s2 hq
     obtain⟨d,ed,rfl⟩:=Ri eb;obtain⟨x',qq,rx⟩:=hd.get i ed;rw[ex]at qq;cases qq;exact⟨_,Z,_,Z,_,d,-100,100,Z,RD.mono s2 _ rx,hq _ (aF.refl _)⟩
    ·intro H2 s2 d2
     refine⟨D,_,Z,aH.of d2,_,Z,?_⟩;rw[all_map];cases e1:ds.all (gK (-100) 100)with |false=>rw[e1,kU]at k;exact cg (k H2 s2) |true=>
      rw[e1,kE]at k;refine bN ⟨_,Z,av,Z,⟨_,hx.go s2⟩,λD2 H3 n3=>?_⟩;refine UN (xs:=xs) (bs:=ds.map zf) [] (hx.go s2) n3 (by rw[cx,hl]) au ?_ ?_
      ·intro i x b H4 Q' ex eb s4 hq
       obtain⟨d,ed,rfl⟩:=Ri eb;obtain⟨x',qq,rx⟩:=hd.get i ed;rw[ex]at qq;cases qq;obtain⟨z,rfl⟩:=a52 (je.mp e1 d (gI ed));cases rx.int_inv;refine⟨_,Z,.inl ⟨_,_,Z,Z,?_⟩⟩;show Q' (.bl (!decide (z=0))) H4;rw[a35];exact hq _ (aF.refl _)
      ·intro H4 s4 d4
       refine⟨D2,_,Z,aH.of d4,?_⟩;rw[any_map'];exact k H4 (s2.trans s4)
  ·have e:uk rs.length d=false:=by cases d<;>first|rfl|exact absurd rfl (hn _)
   rw[e]at k;refine⟨_,Z,.inl ⟨_,_,"tuple",false,Z,rd.ty,aA,ht,_,Z,cg ?_⟩⟩;exact k H (aF.refl _)
theorem item_cases(n:Nat)(d:ai):(∃wd a b,d= .tuple [wd,a,b])\/(∃wd v,d= .tuple [wd,v])\/(∃ds,d= .tuple ds/\ds.length≠3/\ds.length≠2/\m9 n d=false)\/(j8 (nK d) "tuple"=false/\m9 n d=false):=by
 rcases Eu d with⟨ds,rfl⟩|⟨ht,hn⟩
 ·match ds with |[r,a,b]=>exact .inl ⟨r,a,b,Z⟩ |[r,a]=>exact .inr (.inl ⟨r,a,Z⟩) |[]=>exact .inr (.inr (.inl ⟨_,Z,by simp,by simp,by simp[m9]⟩)) |[_]=>exact .inr (.inr (.inl ⟨_,Z,by simp,by simp,by simp[m9]⟩)) |_::_::_::_::_=>exact .inr (.inr (.inl ⟨_,Z,by simp,by simp,by simp[m9]⟩))
 ·exact .inr (.inr (.inr ⟨ht,by cases d<;>first|rfl|exact absurd rfl (hn _)⟩))
inductive acV(K:aa)(vs:List V)(H:Hp)(Q:VK):Prop |mk (m:V)(v:V)(rs:List Int)(es:List ai)(d:ai)(h0:vs=[m,v])(h1:RD K H m ((.tuple (.tuple (rs.map PyData.int)::es))))(h2:RD K H v d)(h3:rs.length<=3)(h4:cZ 8 d)(h5:pC d=true)(h6:∀H',aF H H'->Q (.bl (m9 rs.length d)) H')
def EY(K:aa):Sp:=λvs H Q _=>acV K vs H Q
theorem ok8(h:cZ 8 (.tuple ds)){d:ai}(hd:d∈ds):cZ 8 d:=((cZ.dS (n:=7) h) d hd).le aA
theorem YJ(h:pC (.tuple ds)=true){d:ai}(hd:d∈ds):qQ d=true:=je.mp (show ds.all qQ=true from h) d hd
theorem OO:bG ["machine","thing","word","steps","speed","value"] ["machine","thing"] (aZ GF):=bQ aW
theorem a2L(F:FA K mg "is_item" GF)(B:bV mg)(a75:GV mg "GREATEST_SPEED" (.int 20))(pZ:aI P w K mg ay "is_whole_within" 2 (tT K))(a6J:aI P w K mg ay "are_steps" 3 (Na K))(a69:aI P w K mg ay "is_short_item" 3 (Nc K)):aI P w K mg ay "is_item" 4 (EY K):=by
 refine F.has OO (λvs H Q E h=>?_) (λ_ _ _ _ _ _=>dJ λ_ _=>rfl) (λf aP A outer s H vs Q E hr h=>?_)
 ·obtain⟨m,v,rs,es,d,rfl,_⟩:=h
  rfl
 ·obtain⟨m,v,rs,es,d,rfl,rm,rd,l3,ze,sh,k⟩:=h
  have nd:=OO.nd;refine⟨_,(aE (bR (fD (cV (dX K B (ao (pv 1) (ao (dy (x:="tuple") (v:=.ty "tuple") Z (B.at "tuple") fW rfl) az))))) (aL (aX gC)) bU) (aE (bR (cu (cY K Z hr.units) (eL K B (ao (pv 1) az)) aD (bI _)) (aE (fZ (pv 1) (eG K Z (n:=3) Z (bZ (bp 2 nd) (bZ (bp 3 nd) (bZ (bp 4 nd) eu))))) (aL (aX (iR (fE (cY K Z hr.units) (pv 2) aV (bI _)) (iR (pf a6J hr (ao (pv 0) (ao (pv 3) az))) (j9 (pf pZ hr (ao (pv 4) (ao aD (ao (fm (x:="GREATEST_SPEED") Z a75) az)))))))))) bU) (aE (bR (cu (cY K Z hr.units) (eL K B (ao (pv 1) az)) aD (bI _)) (aE (fZ (pv 1) (eG K Z (n:=2) Z (bZ (bp 2 nd) (bZ (bp 5 nd) eu)))) (aL (aX (pf a69 hr (ao (pv 2) (ao (pv 5) az)))))) bU) (aL (aX gC))))),?_⟩;rcases item_cases rs.length d with⟨wd,a,b,rfl⟩|⟨wd,a,rfl⟩|⟨ds,rfl,h3,h2,hf⟩|⟨ht,hf⟩
  ·refine⟨_,Z,.inl ⟨_,_,"tuple",true,Z,rd.ty,aA,yx,_,Z,bN ?_⟩⟩
   obtain⟨p,xs,rfl,hx,hd⟩:=rd.dS;obtain⟨u1,ys,rfl,r1,hd⟩:=hd.cons_inv;obtain⟨u2,ys,rfl,r2,hd⟩:=hd.cons_inv;obtain⟨u3,ys,rfl,r3,hd⟩:=hd.cons_inv;cases hd.nil_inv;have k:∀H',aF H H'->Q (.bl (iG "line" wd&&(uk rs.length a&&gK 1 20 b))) H':=k;refine⟨_,Z,p,_,Z,.inr hx,.inl ⟨_,_,Z,Z,_,Z,cg ?_⟩⟩;refine⟨_,Z,p,_,Z,hx,Z,_,_,Z,_,_,Z,_,_,Z,Z,?_⟩;refine⟨_,Z,.inr ⟨_,_,r1,cM _,yM (ok8 ze (by simp)),aW,_,Z,?_⟩⟩;rw[De];cases e1:iG "line" wd with |false=>rw[e1,kU]at k;exact bN (k H (aF.refl _)) |true=>rw[e1,kE]at k;refine cg ⟨_,Z,_,Z,_,_,rs,es,a,Z,rm,r2,l3,λH1 s1=>⟨_,Z,?_⟩⟩;cases e2:uk rs.length a with |false=>rw[e2,kU]at k;exact bN (k H1 s1) |true=>rw[e2,kE]at k;exact cg ⟨_,Z,_,b,1,20,Z,RD.mono s1 _ r3,k H1 s1⟩
  ·refine⟨_,Z,.inl ⟨_,_,"tuple",true,Z,rd.ty,aA,yx,_,Z,bN ?_⟩⟩
   obtain⟨p,xs,rfl,hx,hd⟩:=rd.dS;obtain⟨u1,ys,rfl,r1,hd⟩:=hd.cons_inv;obtain⟨u2,ys,rfl,r2,hd⟩:=hd.cons_inv;cases hd.nil_inv;have k:∀H',aF H H'->Q (.bl (pT wd a)) H':=k;refine⟨_,Z,p,_,Z,.inr hx,.inl ⟨_,_,Z,Z,_,Z,bN ?_⟩⟩;refine⟨_,Z,p,_,Z,.inr hx,.inl ⟨_,_,Z,Z,_,Z,cg ?_⟩⟩;refine⟨_,Z,p,_,Z,hx,Z,_,_,Z,_,_,Z,Z,?_⟩;exact⟨_,Z,_,Z,_,_,wd,a,Z,r1,r2,ok8 ze (by simp),ok8 ze (by simp),YJ sh (by simp),k⟩
  ·rw[hf]at k
   refine⟨_,Z,.inl ⟨_,_,"tuple",true,Z,rd.ty,aA,yx,_,Z,bN ?_⟩⟩;obtain⟨p,xs,rfl,hx,hd⟩:=rd.dS;have hl:=hd.length;refine⟨_,Z,p,_,Z,.inr hx,.inl ⟨_,_,Z,Z,_,Z,?_⟩⟩;rw[show decide ((xs.length:Int)=3)=false from fk au];refine bN ⟨_,Z,p,_,Z,.inr hx,.inl ⟨_,_,Z,Z,_,Z,?_⟩⟩;rw[show decide ((xs.length:Int)=2)=false from fk au];exact bN (k H (aF.refl _))
  ·rw[hf]at k
   refine⟨_,Z,.inl ⟨_,_,"tuple",false,Z,rd.ty,aA,ht,_,Z,cg ?_⟩⟩;exact k H (aF.refl _)
def J5(rs:List Int):ai->Bool | .tuple es=>es.length==rs.length&&((es.zip rs).map λp=>gK 0 p.2 p.1).all id |_=>false
inductive acX(K:aa)(vs:List V)(H:Hp)(Q:VK):Prop |mk (m:V)(v:V)(rs:List Int)(ds:List ai)(d:ai)(h0:vs=[m,v])(h1:RD K H m (.tuple (.tuple (rs.map PyData.int)::ds)))(h2:RD K H v d)(h3:rs.length<=3)(h4:∀H',aF H H'->Q (.bl (J5 rs d)) H')
def EZ(K:aa):Sp:=λvs H Q _=>acX K vs H Q
theorem zip_get{es:List ai}{rs:List Int}{i:Nat}{b:Bool}(h:((es.zip rs).map λp=>gK 0 p.2 p.1)[i]? =some b):∃e r,es[i]? =some e/\rs[i]? =some r/\gK 0 r e=b:=by rw[cI]at h;cases q:(es.zip rs)[i]? with |none=>rw[q]at h;cases h |some p=>rw[q]at h;obtain⟨e1,e2⟩:=AR.mp q;exact⟨p.1,p.2,e1,e2,dQ h⟩
theorem ints_get{rs:List Int}{i:Nat}{r:Int}(h:rs[i]? =some r):(rs.map V.int)[i]? =some (.int r):=by rw[cI,h];rfl
theorem OM:bG ["machine","thing","rails"] ["machine","thing"] (aZ GC):=bQ aW
theorem a2J(F:FA K mg "is_place" GC)(B:bV mg)(pZ:aI P w K mg ay "is_whole_within" 2 (tT K)):aI P w K mg ay "is_place" 3 (EZ K):=by
 refine F.has OM (λvs H Q E h=>?_) (λ_ _ _ _ _ _=>dJ λ_ _=>rfl) (λf aP A outer s H vs Q E hr h=>?_)
 ·obtain⟨m,v,rs,ds,d,rfl,_⟩:=h
  rfl
 ·obtain⟨m,v,rs,ds,d,rfl,rm,rd,l3,k⟩:=h
  have nd:=OM.nd;refine⟨_,(aE (pS 2 nd (px K (pv 0) aD)) (aE (bR (PW.pt (m5 (fD (cV (dX K B (ao (pv 1) (ao (dy (x:="tuple") (v:=.ty "tuple") Z (B.at "tuple") fW rfl) az))))) (mH (cu (jB K rfl hr.units) (eL K B (ao (pv 1) az)) (eL K B (ao (pv 2) az)) (bI _))))) (aL (aX gC)) bU) (aL (aX (dM (x:="all") (qy K Z Z) Z (B.at "all") tD (ao (gB (N:=["number","rail"]) (js:=[none,none]) rfl rfl rfl (jU K rfl false false rfl (B.at "zip") (ao (pv 1) (ao (pv 2) az))) (λ_ _ _ _ _=>(eG K rfl (n:=2) rfl (bZ (bp 0 (fF aA)) (bZ (bp 1 (fF aA)) eu)))) (λ_ _ _ _ _=>fL) (λ_ _ _ _ _=>(pf pZ hr (ao (pv 0) (ao aD (ao (pv 1) az)))))) az)))))),?_⟩;obtain⟨am,xm,rfl,hm,hdm⟩:=rm.dS;obtain⟨yr,ym,rfl,r1,af9⟩:=hdm.cons_inv;obtain⟨ar,xr,rfl,Cw,hdr⟩:=r1.dS;cases hdr.ja;refine⟨_,Z,.inr ⟨am,_,0,_,Z,Z,hm,dC (gO 0) Z,?_⟩⟩;rcases Eu d with⟨es,rfl⟩|⟨ht,hn⟩
  ·refine⟨_,Z,.inl ⟨_,_,"tuple",true,Z,rd.ty,aA,yx,_,Z,bN ?_⟩⟩
   obtain⟨av,xs,rfl,hx,hd⟩:=rd.dS;have hl:=hd.length;refine⟨_,Z,av,_,Z,.inr hx,_,Z,ar,_,Z,.inr Cw,.inl ⟨_,_,Z,Z,_,Z,?_⟩⟩;have k:∀H',aF H H'->Q (.bl (es.length==rs.length&&((es.zip rs).map λp=>gK 0 p.2 p.1).all id)) H':=k;have e0:(decide ((xs.length:Int)=((rs.map V.int).length:Int)))=(es.length==rs.length):=by rw[hl,cx,oZ];simp;lia
   rw[e0];cases e:(es.length==rs.length)with |false=>rw[e,kU]at k;exact cg (k H (aF.refl _)) |true=>
    rw[e,kE]at k;refine bN ?_;have el:es.length=rs.length:=fz.mp e;refine⟨_,Z,_,Z,av,ar,Z,⟨_,hx⟩,⟨_,Cw⟩,λD H0 nw=>?_⟩;refine UM (b1:=false) (b2:=false) (xs:=xs) (ys:=rs.map V.int) (bs:=(es.zip rs).map λp=>gK 0 p.2 p.1) [] rfl hx Cw nw (by rw[cx,cx,List.length_zip,hl]) (by rw[cx,List.length_zip];lia) ?_ ?_
    ·intro i x y b H2 Q' ex ey eb s2 hq
     obtain⟨e',r,ee,er,rfl⟩:=zip_get eb;obtain⟨x',qq,rx⟩:=hd.get i ee;rw[ex]at qq;cases qq;rw[ints_get er]at ey;cases ey;exact⟨_,Z,_,Z,_,e',0,r,Z,RD.mono s2 _ rx,hq _ (aF.refl _)⟩
    ·intro H2 s2 d2
     exact⟨D,_,Z,aH.of d2,k H2 s2⟩
  ·have e:J5 rs d=false:=by cases d<;>first|rfl|exact absurd rfl (hn _)
   rw[e]at k;refine⟨_,Z,.inl ⟨_,_,"tuple",false,Z,rd.ty,aA,ht,_,Z,cg ?_⟩⟩;exact k H (aF.refl _)
inductive acN(K:aa)(vs:List V)(H:Hp)(Q:VK):Prop |mk (pw:_)(b:_)(pl:_)(ns:_)(h0:vs=[pw,.ref b])(h1:RD K H pw (g9 pl))(h2:aR K H b (ns.map V.int))(h3:ns.length=pl.length)(h4:pl.length<=1000)(h5:∀v' H',RD K H' v' (g9 (gj pl ns))->aF H H'->Q v' H')
def Bv(K:aa):Sp:=λvs H Q _=>acN K vs H Q
theorem Ot:bG ["place","steps"] ["place","steps"] (aZ Gi):=bQ aW
theorem a2s(F:FA K mg "moved" Gi)(B:bV mg):aI P w K mg ay "moved" 1 (Bv K):=by
 refine F.has Ot (λvs H Q E h=>?_) (λ_ _ _ _ _ _=>dJ λ_ _=>rfl) (λf aP A outer s H vs Q E hr h=>?_)
 ·obtain⟨pw,b,pl,ns,rfl,_⟩:=h
  rfl
 ·obtain⟨pw,b,pl,ns,rfl,rp,hb,ln,hz,k⟩:=h
  have nd:=Ot.nd;refine⟨_,(aL (aX (gQ (x:="tuple") (kX K Z) Z (B.at "tuple") fW (ao (gB (N:=["number","step"]) (js:=[none,none]) rfl rfl rfl (jU K rfl false false rfl (B.at "zip") (ao (pv 0) (ao (pv 1) az))) (λ_ _ _ _ _=>(eG K rfl (n:=2) rfl (bZ (bp 0 (fF aA)) (bZ (bp 1 (fF aA)) eu)))) (λ_ _ _ _ _=>fL) (λ_ _ _ _ _=>(aG dc (pv 0) (pv 1)))) az)))),?_⟩;obtain⟨pa,rfl,hp⟩:=uf rp;refine⟨_,Z,_,Z,pa,b,Z,⟨_,hp⟩,⟨_,hb⟩,λD H1 n1=>?_⟩;refine vh (K:=K) (b1:=false) (b2:=false) (xs:=pl.map V.int) (ys:=ns.map V.int) (ds:=(gj pl ns).map PyData.int) [] rfl hp hb n1 (by simp[sM ln,ln]) (by rw[cx,sM ln];exact hz) (lj _) ?_ ?_
  ·intro i x y d H2 Q' ex ey ed s2 hq
   obtain⟨m,em,rfl⟩:=mR ed;rw[cI]at ex ey;cases e1:pl[i]? with |none=>rw[e1]at ex;cases ex |some u=>cases e2:ns[i]? with |none=>rw[e2]at ey;cases ey |some v=>rw[e1]at ex;rw[e2]at ey;cases ex;cases ey;rw[Lf e1 e2]at em;cases em;exact⟨_,Z,_,Z,_,_,Z,Z,hq _ _ (aF.refl _) (dU _)⟩
  ·intro H2 zs s2 d2 r2
   refine⟨D,_,Z,.inl ⟨aH.of d2,λt H3 n3=>?_⟩⟩;have et:=n3.at';rw[r2.ja]at et;exact k (.ref t) H3 (wy (aR.of et)) (s2.trans n3.same)
inductive ad8(K:aa)(vs:List V)(H:Hp)(Q:VK):Prop |mk (pw:_)(iv:_)(pl:_)(d:_)(o:_)(h0:vs=[pw,iv])(h1:RD K H pw (g9 pl))(h2:RD K H iv d)(h3:itR d o)(h4:(∀ns sp,o=some (ns,sp)->ns.length=pl.length))(h5:pl.length<=1000)(h6:∀v' H',RD K H' v' (g9 (fO pl o))->aF H H'->Q v' H')
def yI(K:aa):Sp:=λvs H Q _=>ad8 K vs H Q
theorem P0:bG ["place","item"] ["place","item"] (aZ GR):=bQ aW
theorem a2W(F:FA K mg "place_behind" GR)(B:bV mg)(rM:aI P w K mg ay "is_line" 1 (we K))(Jn:aI P w K mg ay "moved" 1 (Bv K)):aI P w K mg ay "place_behind" 2 (yI K):=by
 refine F.has P0 (λvs H Q E h=>?_) (λ_ _ _ _ _ _=>dJ λ_ _=>rfl) (λf aP A outer s H vs Q E hr h=>?_)
 ·obtain⟨pw,iv,pl,d,o,rfl,_⟩:=h
  rfl
 ·obtain⟨pw,iv,pl,d,o,rfl,rp,ri,it,hl,hz,k⟩:=h
  have nd:=P0.nd;refine⟨_,(aL (aX (Qe (cV (pf rM hr (ao (pv 1) az))) (pf Jn hr (ao (pv 0) (ao (px K (pv 1) aD) az))) (pv 0)))),?_⟩;refine⟨_,Z,iv,d,o,Z,ri,it,_,Z,?_⟩;cases o with |some q=>obtain⟨ns,sp⟩:=q;refine cg ?_;have ed:=kM it;subst ed;obtain⟨a,b,rfl,ha,hb⟩:=m8 ri;exact⟨_,Z,_,Z,.inr ⟨a,_,1,.ref b,Z,Z,ha,Z,pw,b,pl,ns,Z,rp,hb,hl ns sp Z,hz,λv' H' r s=>k v' H' r s⟩⟩ |none=>refine bN ?_;exact⟨_,Z,k pw H rp (aF.refl _)⟩
open Rn
def iz(m b d q p r s k t:V):List (Str×V):=[("machine",m),("begun_at",b),("done",d),("queue",q),("pace",p),("rate_now",r),("side",s),("mark",k),("stopping",t)]
structure bS where
 rs:List Int
 r:Int
 f:Int
 j:Int
 t:Int
abbrev bS.D(M:bS):ai:=iU M.rs M.r M.f M.j M.t
abbrev bS.Ok(M:bS):Prop:=nv M.rs M.r M.f M.j M.t
structure bE where
 pl:List Int
 dn:Nat
 ds:List ai
 os:List Itm
 pc:Rat
 aB:Int
 side:Str
 mark:Str
 ba:Rn.gG
def Ao(K:aa)(H:Hp)(v:V):Rn.gG->Prop |none=>v= .bB |some (sq,st,gn)=>∃a u,v= .ref a/\aR K H a [u,.int st,.int gn]/\bw K H u sq
structure cF(M:bS)(D:Nat)(S:bE):Prop where
 row:gW M.rs.length S.ds S.os
 rw:RowW S.ds S.os
 len:S.ds.length<=20
 dR:10<=S.aB
 ek:S.aB<=200
 dn:S.dn=0\/∃ns sp,S.os[0]? =some (some (ns,sp))/\S.dn<aM ns
 pl:S.pl.length=M.rs.length
 pd:Dd (D+10) S.pc
 pm:S.pc<=1600
 ba:sN D S.pc S.ba
 D1:64<=D
 D2:D<=1500
structure du(K:aa)(C:Addr)(H:Hp)(a q:Addr)(M:bS)(S:bE):Prop where
 ob:∃dx mv bv cW tv,H a=some (.ins C dx (iz mv bv (.int S.dn) (.ref q) cW (.int S.aB) (.str S.side) (.str S.mark) tv))/\RD K H mv M.D/\RD K H bv (g9 S.pl)/\bw K H cW S.pc/\Ao K H tv S.ba
 qu:∃ys,H q=some (.lst ys)/\aJ K H ys S.ds
theorem bw.v{v:V}(s:cj H H')(h:bw K H v q):bw K H' v q:=by obtain⟨p,rfl,hp⟩:=h;exact⟨p,Z,aR.v s hp⟩
theorem Ao.v{v:V}{t:Rn.gG}(s:cj H H')(h:Ao K H v t):Ao K H' v t:=by cases t with |none=>exact h |some q=>obtain⟨sq,st,gn⟩:=q;obtain⟨a,u,rfl,h1,h2⟩:=h;exact⟨a,u,Z,aR.v s h1,bw.v s h2⟩
theorem du.go(h:du K C H a q M S)(hn:cS S.ds=true)(s:cj H H')(ea:∀o,H a=some o->H' a=some o)(eq:∀o,H q=some o->H' q=some o):du K C H' a q M S:=by obtain⟨⟨dx,mv,bv,cW,tv,e,r1,r2,r3,r4⟩,ys,nj,rq⟩:=h;exact⟨⟨dx,mv,bv,cW,tv,ea _ e,RD.v s _ (jZ _ _ _ _ _) r1,RD.v s _ (jT _) r2,r3.v s,r4.v s⟩,ys,eq _ nj,aJ.v s _ hn rq⟩
theorem du.same(h:du K C H a q M S)(hn:cS S.ds=true)(s:aF H H'):du K C H' a q M S:=h.go hn s.v (λo e=>s _ _ e) (λo e=>s _ _ e)
theorem du.ne(h:du K C H a q M S):a≠q:=by obtain⟨⟨dx,mv,bv,cW,tv,e,_⟩,ys,nj,_⟩:=h;exact zo e nj (by intro z;cases z)
theorem du.v(h:du K C H a q M S)(b:bF [a,q] H H'):cj H H':=by
 obtain⟨⟨dx,mv,bv,cW,tv,e,_⟩,ys,nj,_⟩:=h;refine b.v λx hx o eo=>?_;simp only[bL,cE,dv]at hx;rcases hx with rfl|rfl
 ·rw[e]at eo;cases eo;trivial
 ·rw[nj]at eo;cases eo;trivial
inductive ach(K:aa)(C:Addr)(G:bS->bE->Hp->VK->Prop)(vs:List V)(H:Hp)(Q:VK):Prop |mk (a:_)(q:_)(M:_)(D:_)(S:_)(h0:vs=[.ref a])(h1:du K C H a q M S)(h2:cF M D S)(h3:M.Ok)(h4:G M S H Q)
def fK(K:aa)(C:Addr)(G:bS->bE->Hp->VK->Prop):Sp:=λvs H Q _=>ach K C G vs H Q
theorem YW:bG ["self"] ["self"] (aZ FO):=bQ aW
def Tr(K:aa):bS->bE->Hp->VK->Prop:=λ_ S H Q=>∀v,bw K H v S.pc->Q v H
theorem a22(F:MA K C "square" "Runner.square" FO)(TC:gX K C):dG P w K mg ay C "square" 1 (fK K C (Tr K)):=by
 refine F.has YW (λvs H Q E h=>?_) (λ_ _ _ _ _ _=>fH λ_=>rfl) (λf aP A outer s H vs Q E hr h=>?_)
 ·obtain⟨a,q,M,D,S,rfl,_⟩:=h
  rfl
 ·obtain⟨a,q,M,D,S,rfl,R,ok,aU,k⟩:=h
  obtain⟨dx,mv,bv,cW,tv,e,r1,r2,r3,r4⟩:=R.ob;exact⟨_,(aL (aX (dB TC.cl TC.uv (pv 0)))),_,Z,a,dx,_,_,Z,e,Z,k cW r3⟩
theorem YY:bG ["self"] ["self"] (aZ FT):=bQ aW
theorem a26(F:MA K C "rate" "Runner.rate" FT)(TC:gX K C):dG P w K mg ay C "rate" 1 (fK K C λ_ S H Q=>Q (.int S.aB) H):=by
 refine F.has YY (λvs H Q E h=>?_) (λ_ _ _ _ _ _=>fH λ_=>rfl) (λf aP A outer s H vs Q E hr h=>?_)
 ·obtain⟨a,q,M,D,S,rfl,_⟩:=h
  rfl
 ·obtain⟨a,q,M,D,S,rfl,R,ok,aU,k⟩:=h
  obtain⟨dx,mv,bv,cW,tv,e,r1,r2,r3,r4⟩:=R.ob;exact⟨_,(aL (aX (dB TC.cl TC.C1 (pv 0)))),_,Z,a,dx,_,_,Z,e,Z,k⟩
theorem YV:bG ["self"] ["self"] (aZ FL):=bQ aW
theorem a21(F:MA K C "tool" "Runner.tool" FL)(TC:gX K C):dG P w K mg ay C "tool" 1 (fK K C λ_ S H Q=>Q (.str S.side) H):=by
 refine F.has YV (λvs H Q E h=>?_) (λ_ _ _ _ _ _=>fH λ_=>rfl) (λf aP A outer s H vs Q E hr h=>?_)
 ·obtain⟨a,q,M,D,S,rfl,_⟩:=h
  rfl
 ·obtain⟨a,q,M,D,S,rfl,R,ok,aU,k⟩:=h
  obtain⟨dx,mv,bv,cW,tv,e,r1,r2,r3,r4⟩:=R.ob;exact⟨_,(aL (aX (dB TC.cl TC.Iw (pv 0)))),_,Z,a,dx,_,_,Z,e,Z,k⟩
theorem Z3:bG ["self"] ["self"] (aZ FW):=bQ aW
theorem a2a(F:MA K C "last_mark" "Runner.last_mark" FW)(TC:gX K C):dG P w K mg ay C "last_mark" 1 (fK K C λ_ S H Q=>Q (.str S.mark) H):=by
 refine F.has Z3 (λvs H Q E h=>?_) (λ_ _ _ _ _ _=>fH λ_=>rfl) (λf aP A outer s H vs Q E hr h=>?_)
 ·obtain⟨a,q,M,D,S,rfl,_⟩:=h
  rfl
 ·obtain⟨a,q,M,D,S,rfl,R,ok,aU,k⟩:=h
  obtain⟨dx,mv,bv,cW,tv,e,r1,r2,r3,r4⟩:=R.ob;exact⟨_,(aL (aX (dB TC.cl TC.Iy (pv 0)))),_,Z,a,dx,_,_,Z,e,Z,k⟩
theorem YU:bG ["self"] ["self"] (aZ FK):=bQ aW
theorem a20(F:MA K C "waiting" "Runner.waiting" FK)(TC:gX K C)(B:bV mg):dG P w K mg ay C "waiting" 1 (fK K C λ_ S H Q=>∀l ys H',H l=none->H' l=some (.lst ys)->aJ K H' ys S.ds->aF H H'->Q (.ref l) H'):=by
 refine F.has YU (λvs H Q E h=>?_) (λ_ _ _ _ _ _=>fH λ_=>rfl) (λf aP A outer s H vs Q E hr h=>?_)
 ·obtain⟨a,q,M,D,S,rfl,_⟩:=h
  rfl
 ·obtain⟨a,q,M,D,S,rfl,R,ok,aU,k⟩:=h
  obtain⟨dx,mv,bv,cW,tv,e,r1,r2,r3,r4⟩:=R.ob;obtain⟨ys,eq,rq⟩:=R.qu;refine⟨_,(aL (aX (gQ (x:="list") (Ce K Z) Z (B.at "list") kB (ao (dB TC.cl TC.jX (pv 0)) az)))),_,Z,a,dx,_,_,Z,e,Z,q,ys,Z,.inl (aH.of eq),λl H1 n1=>?_⟩;exact k l ys H1 n1.no n1.at' (aJ.mono n1.same _ rq) n1.same
theorem Zb:bG ["self"] ["self"] (aZ G0):=bQ aW
theorem a2e(F:MA K C "is_held" "Runner.is_held" G0)(TC:gX K C):dG P w K mg ay C "is_held" 1 (fK K C λ_ S H Q=>Q (.bl S.ba.isSome) H):=by
 refine F.has Zb (λvs H Q E h=>?_) (λ_ _ _ _ _ _=>fH λ_=>rfl) (λf aP A outer s H vs Q E hr h=>?_)
 ·obtain⟨a,q,M,D,S,rfl,_⟩:=h
  rfl
 ·obtain⟨a,q,M,D,S,rfl,R,ok,aU,k⟩:=h
  obtain⟨dx,mv,bv,cW,tv,e,r1,r2,r3,r4⟩:=R.ob;refine⟨_,(aL (aX (fE zb (dB TC.cl TC.C0 (pv 0)) jV (bI _)))),_,Z,a,dx,_,_,Z,e,Z,?_⟩;cases hs:S.ba with |none=>rw[hs]at r4 k;cases(show tv= .bB from r4);exact⟨Z,k⟩ |some z=>rw[hs]at r4 k;obtain⟨sq,st,gn⟩:=z;obtain⟨b,u,rfl,_⟩:=r4;exact⟨Z,k⟩
theorem PN(q:Rat):PyData.eqv (da q) (da 0)=decide (q=0):=by
 by_cases h:q=0
 ·rw[cP h];exact eqR h
 ·rw[fk h]
  cases e:PyData.eqv (da q) (da 0)with |false=>rfl |true=>
   exfalso;apply h;have e':(PyData.eqv (.int q.num) (.int (0:Rat).num)&&(PyData.eqv (.int (q.den:Int)) (.int ((0:Rat).den:Int))&&true))=true:=e;rw[M7,fq]at e';obtain⟨a,b⟩:=e';have h1:q.num=(0:Rat).num:=by simpa[PyData.eqv]using a
   have h2:(q.den:Int)=((0:Rat).den:Int):=by simpa[PyData.eqv]using b
   exact Rat.ext h1 au
theorem YX:bG ["self"] ["self"] (aZ FR):=bQ aW
theorem a25(F:MA K C "stands" "Runner.stands" FR)(TC:gX K C)(gN:GT K mg "NOUGHT" [.int 0,.int 1]):dG P w K mg ay C "stands" 1 (fK K C λ_ S H Q=>Q (.bl (decide (S.pc=0))) H):=by
 obtain⟨aN,lL,nN⟩:=gN;refine F.has YX (λvs H Q E h=>?_) (λ_ _ _ _ _ _=>fH λ_=>rfl) (λf aP A outer s H vs Q E hr h=>?_)
 ·obtain⟨a,q,M,D,S,rfl,_⟩:=h
  rfl
 ·obtain⟨a,q,M,D,S,rfl,R,ok,aU,k⟩:=h
  obtain⟨dx,mv,bv,cW,tv,e,r1,r2,r3,r4⟩:=R.ob;refine⟨_,(aL (aX (fE (cY K Z hr.units) (dB TC.cl TC.uv (pv 0)) (fm (x:="NOUGHT") rfl lL) (bI _)))),_,Z,a,dx,_,_,Z,e,Z,.inr ⟨_,_,r3.rd,(uo (nN H)).rd,Z,Z,?_⟩⟩;rw[PN];exact k
theorem Za:bG ["self"] ["self"] (aZ FZ):=bQ aW
theorem a2d(F:MA K C "is_halted" "Runner.is_halted" FZ)(TC:gX K C)(zS:dG P w K mg ay C "is_held" 1 (fK K C λ_ S H Q=>Q (.bl S.ba.isSome) H))(JF:dG P w K mg ay C "stands" 1 (fK K C λ_ S H Q=>Q (.bl (decide (S.pc=0))) H)):dG P w K mg ay C "is_halted" 2 (fK K C λ_ S H Q=>Q (.bl (S.ba.isSome&&decide (S.pc=0))) H):=by
 refine F.has Za (λvs H Q E h=>?_) (λ_ _ _ _ _ _=>fH λ_=>rfl) (λf aP A outer s H vs Q E hr h=>?_)
 ·obtain⟨a,q,M,D,S,rfl,_⟩:=h
  rfl
 ·obtain⟨a,q,M,D,S,rfl,R,ok,aU,k⟩:=h
  obtain⟨dx,mv,bv,cW,tv,e,r1,r2,r3,r4⟩:=R.ob;refine⟨_,(aL (aX (iR (iQ zS TC.cl (hr.mono aA) (pv 0)) (j9 (iQ JF TC.cl (hr.mono aA) (pv 0)))))),_,Z,a,dx,_,Z,e,Z,a,q,M,D,S,Z,R,ok,aU,_,Z,?_⟩;cases hs:S.ba.isSome with |false=>rw[hs]at k;exact bN k |true=>rw[hs]at k;refine cg ⟨_,Z,a,dx,_,Z,e,Z,a,q,M,D,S,Z,R,ok,aU,?_⟩;exact k
structure lQ(n:Nat)(d:ai)(o:Itm):Prop where
 it:itR d o
 ln:∀ns sp,o=some (ns,sp)->fj n 100 ns/\1<=sp/\sp<=20
 ot:o=none->qz d
theorem a3s(h:zq z=true):isNm (.str z)=true:=h
theorem abn:∀{ns:List Int},(∃z∈ns,z≠0)->(ns.map PyData.int).any zf=true:=λ{ns} ⟨z,hz,h⟩=>List.any_eq_true.mpr ⟨.int z,kC.mpr ⟨z,hz,Z⟩,by show(z !=0)=true;simpa using h⟩
theorem abt{ns:List Int}(h:∀z∈ns,(z.natAbs:Int)<=100):(ns.map PyData.int).all (gK (-100) 100)=true:=by rw[je];intro d hd;obtain⟨z,hz,rfl⟩:=kC.mp hd;have:=h z hz;show(decide (-100<=z)&&decide (z<=100))=true;rw[cP fh,cP fh];rfl
theorem lQ.is(h:lQ n d o):m9 n d=true/\cZ 8 d/\pC d=true:=by cases o with
 |some q=>
  obtain⟨ns,sp⟩:=q;have ed:=kM h.it;subst ed;obtain⟨fu,s1,s2⟩:=h.ln ns sp rfl;refine⟨?_,?_,Z⟩
  ·show(iG "line" (.str "line")&&(uk n (.tuple (ns.map PyData.int))&&gK 1 20 (.int sp)))=true
   have e1:iG "line" (.str "line")=true:=by decide+kernel
   have e2:uk n (.tuple (ns.map PyData.int))=true:=by show(((ns.map PyData.int).length==n&&(ns.map PyData.int).all (gK (-100) 100))&&(ns.map PyData.int).any zf)=true;rw[abt fu.bd,abn fu.nz,cx,fu.len,E1];rfl
   have e3:gK 1 20 (.int sp)=true:=by show(decide (1<=sp)&&decide (sp<=20))=true;rw[cP s1,cP s2];rfl
   rw[e1,e2,e3];rfl
  ·refine(gu.tup (n:=1) (.cons ⟨aW,gy _⟩ (.cons (gu.tup (n:=0) λd hd=>?_) (.cons (.int _) .nil)))).le aA
   obtain⟨a,_,rfl⟩:=kC.mp hd;exact .int _ |none=>
  rcases h.ot rfl with⟨z,rfl,z1,z2⟩|⟨w,s,rfl,hw,uj,on⟩
  ·refine⟨?_,(gu.tup (n:=0) (.cons ⟨aW,gy _⟩ (.cons (.int _) .nil))).le aA,Z⟩
   show pT (.str "wait") (.int z)=true;unfold pT;rw[bh aW];show(decide (1<=z)&&decide (z<=1000))=true;rw[cP z1,cP z2];rfl
  ·have a4y:qQ (.str s)=true:=by
    refine cP ?_;rcases on with⟨_,rfl|rfl⟩|⟨_,hn⟩
    ·decide+kernel
    ·decide+kernel
    ·unfold zq at hn
     simp only[fq,AI]at hn
     lia
   refine⟨?_,(gu.tup (n:=0) (.cons ?_ (.cons uj .nil))).le aA,?_⟩
   ·rcases on with⟨rfl,hs⟩|⟨rfl,hn⟩
    ·show pT (.str "tool") (.str s)=true
     unfold pT;rw[bf aW,bh aW];rcases hs with rfl|rfl<;>decide+kernel
    ·show pT (.str "mark") (.str s)=true
     unfold pT;rw[bf aW,bf aW];rw[a3s hn];decide+kernel
   ·rcases hw with rfl|rfl<;>exact⟨aW,gy _⟩
   ·show([.str w,.str s]:List ai).all qQ=true
    rw[LY,LY,List.all_nil,a4y];rcases hw with rfl|rfl<;>decide+kernel
def iP(ns:List Int)(k:Int):List Int:=ns.map λz=>iD (k*z) (aM ns)
def fM(S:bE):List Int:=if S.dn=0 then S.pl else match S.os[0]? with |some (some (ns,_))=>gj S.pl (iP ns S.dn) |_=>S.pl
def cL(S:bE):List Int:=S.os.foldl fO S.pl
theorem Ai{n:Nat}{pl:List Int}{o:Itm}(h:pl.length=n)(ho:∀ns sp,o=some (ns,sp)->ns.length=n):(fO pl o).length=n:=by cases o with |none=>exact h |some q=>obtain⟨ns,sp⟩:=q;show(gj pl ns).length=n;rw[sM (by rw[ho ns sp Z,h])];exact h
theorem A1{n:Nat}:∀(os:List Itm)(pl:List Int),pl.length=n->(∀o∈os,∀ns sp,o=some (ns,sp)->ns.length=n)->(os.foldl fO pl).length=n |[],pl,h,_=>h |o::os,pl,h,ho=>A1 os (fO pl o) (Ai h (ho o (.head _))) λx hx=>ho x (.tail _ hx)
theorem cF.uj{D:Nat}(h:cF M D S):∀o∈S.os,∀ns sp,o=some (ns,sp)->ns.length=M.rs.length:=λo ho ns sp e=>by obtain⟨i,hi⟩:=tG.mp ho;rw[e]at hi;exact(h.row.ok i ns sp hi).1.len
theorem cF.first{D:Nat}(h:cF M D S)(hn:S.dn≠0):∃ns sp,S.os[0]? =some (some (ns,sp))/\S.dn<aM ns:=by
 rcases h.dn with e|e
 ·exact(hn e).elim
 ·exact e
theorem YZ:bG ["self"] ["self"] (aZ FU):=bQ aW
theorem a27(F:MA K C "place" "Runner.place" FU)(TC:gX K C)(Jn:aI P w K mg ay "moved" 1 (Bv K))(Cu:aI P w K mg ay "stand_at" 2 (Br K)):dG P w K mg ay C "place" 3 (fK K C λ_ S H Q=>∀v H',RD K H' v (g9 (fM S))->aF H H'->Q v H'):=by
 refine F.has YZ (λvs H Q E h=>?_) (λ_ _ _ _ _ _=>fH λ_=>rfl) (λf aP A outer s H vs Q E hr h=>?_)
 ·obtain⟨a,q,M,D,S,rfl,_⟩:=h
  rfl
 ·obtain⟨a,q,M,D,S,rfl,R,ok,aU,k⟩:=h
  obtain⟨dx,mv,bv,cW,tv,e,r1,r2,r3,r4⟩:=R.ob;obtain⟨ys,eq,rq⟩:=R.qu;refine⟨_,(aE (bR (cu (cY K Z hr.units) (dB TC.cl TC.pP (pv 0)) aD (bI _)) (aL (aX (dB TC.cl TC.wR (pv 0)))) bU) (aL (aX (pf Jn hr (ao (dB TC.cl TC.wR (pv 0)) (ao (pf Cu hr (ao (px K (dB TC.cl TC.jX (pv 0)) aD) (ao (dB TC.cl TC.pP (pv 0)) az))) az)))))),_,Z,a,dx,_,_,Z,e,Z,.inl ⟨_,_,Z,Z,_,Z,?_⟩⟩;by_cases h0:S.dn=0
  ·rw[cP au]
   have ep:fM S=S.pl:=by unfold fM;rw[bh h0]
   rw[ep]at k;exact cg ⟨_,Z,a,dx,_,_,Z,e,Z,k bv H r2 (aF.refl _)⟩
  ·rw[fk au]
   refine bN ?_;obtain⟨ns,sp,eo,hd⟩:=ok.first h0;obtain⟨fu,gP,iu⟩:=ok.row.ok 0 ns sp eo;have ep:fM S=gj S.pl (iP ns S.dn):=by unfold fM;rw[bf h0,eo]
   rw[ep]at k;have ll:=ok.row.len;have pW:0<S.os.length:=(eh.mp eo).1;obtain⟨d,ed⟩:∃d,S.ds[0]? =some d:=⟨_,cn (show 0<S.ds.length by lia)⟩;obtain⟨y,ey,ry⟩:=rq.get 0 ed;have it:=ok.row.it 0 d _ ed eo;have lN:=kM it;subst lN;have RP:=zA fu;have lr:=aU.len;refine⟨_,Z,a,dx,_,_,Z,e,Z,?_⟩;refine⟨_,Z,a,dx,_,_,Z,e,Z,.inl ⟨q,_,0,y,Z,Z,aH.of eq,dC (gO 0) ey,?_⟩⟩;refine⟨_,Z,a,dx,_,_,Z,e,Z,y,ns,sp,_,Z,ry,⟨Z,λz hz=>by have:=fu.bd z hz;lia,fu.nz⟩,by rw[fu.len];lia,au,λu H1 ru s1=>?_⟩;obtain⟨b,xs,rfl,hb,hx⟩:=ru.dS;rw[hx.ja]at hb;exact⟨bv,b,S.pl,_,Z,RD.mono s1 _ r2,hb,by rw[cx,fu.len,ok.pl],by rw[ok.pl];lia,λv H2 rv s2=>k v H2 rv (s1.trans s2)⟩
theorem Oe:bG ["self","here","item"] ["self"] (aZ FX):=bQ aW
theorem a2b(F:MA K C "leads_to" "Runner.leads_to" FX)(TC:gX K C)(zL:aI P w K mg ay "place_behind" 2 (yI K)):dG P w K mg ay C "leads_to" 3 (fK K C λ_ S H Q=>∀v H',RD K H' v (g9 (cL S))->aF H H'->Q v H'):=by
 refine F.has Oe (λvs H Q E h=>?_) (λ_ _ _ _ _ _=>fH λ_=>rfl) (λf aP A outer s H vs Q E hr h=>?_)
 ·obtain⟨a,q,M,D,S,rfl,_⟩:=h
  rfl
 ·obtain⟨a,q,M,D,S,rfl,R,ok,aU,k⟩:=h
  obtain⟨dx,mv,bv,cW,tv,e,r1,r2,r3,r4⟩:=R.ob;obtain⟨ys,eq,rq⟩:=R.qu;have nd:=Oe.nd;have ll:=ok.row.len;have ly:=rq.length;have lr:=aU.len;refine⟨_,(aE (pS 1 nd (dB TC.cl TC.wR (pv 0))) (aE (m6 ip Z (yZ K Z (dB TC.cl TC.jX (pv 0))) (bp 2 nd) (aL (pS 1 nd (pf zL hr (ao (pv 1) (ao (pv 2) az)))))) (aL (aX (pv 1))))),_,Z,a,dx,_,_,Z,e,Z,_,Z,a,dx,_,_,Z,e,Z,q,Z,⟨_,aH.of eq⟩,?_⟩;refine JR (K:=K) (a:=q) (xs:=ys) (λi O H1=>aF H H1/\∃hv v2,RD K H1 hv (g9 ((S.os.take i).foldl fO S.pl))/\O=[some (.ref a),some hv,v2]) ⟨aF.refl _,bv,none,r2,Z⟩ (λi O H1 _ h=>aH.of (h.1 _ _ eq)) ?_ ?_
  ·rintro i x O H1 hx ⟨s1,hv,v2,rh,rfl⟩
   obtain⟨d,ed,rd⟩:=rq.get' i hx;obtain⟨o,eo,it⟩:=ok.row.get ed;have lp:((S.os.take i).foldl fO S.pl).length=M.rs.length:=A1 _ _ ok.pl λo ho=>ok.uj o (E8 ho);refine⟨_,Z,_,Z,hv,x,_,d,o,Z,rh,RD.mono s1 _ rd,it,λns sp e'=>by rw[lp];exact ok.uj o (gI eo) ns sp e',au,λv H2 rv s2=>?_⟩;refine⟨s1.trans s2,v,_,?_,Z⟩;rw[qH,eo,List.foldl_append];exact rv
  ·rintro O H1 ⟨s1,hv,v2,rh,rfl⟩
   rw[ly,ll,yh]at rh;exact⟨_,Z,k hv H1 rh s1⟩
structure Mv(a q:Addr)(H:Hp)(q':Addr)(H':Hp):Prop where
 but:bF [a,q] H H'
 nq:q'=q\/H q'=none
theorem Z4:bG ["self","machine","place"] ["self","machine","place"] (aZ FY):=bQ aW
def nM(pl:List Int):bE:=⟨pl,0,[],[],0,100,"up","",none⟩
inductive acB(K:aa)(C:Addr)(vs:List V)(H:Hp)(Q:VK):Prop |mk (a:_)(dx:_)(mv:_)(ud:_)(M:_)(pl:_)(h0:vs=[.ref a,mv,ud])(h1:H a=some (.ins C dx []))(h2:RD K H mv (bS.D M))(h3:RD K H ud (g9 pl))(h4:∀q H',du K C H' a q M (nM pl)->H q=none->bF [a] H H'->Q .bB H')
def Nl(K:aa)(C:Addr):Sp:=λvs H Q _=>acB K C vs H Q
theorem a2c(F:CA K mg C "Runner" "Runner.__init__" FY)(TC:gX K C)(gN:GT K mg "NOUGHT" [.int 0,.int 1])(a78:GV mg "FIRST_RATE" (.int 100)):DN P w K mg ay C "Runner" 1 (Nl K C):=by
 obtain⟨aN,lL,nN⟩:=gN;refine F.has Z4 (λvs H Q E h=>?_) (λ_ _ _ _ _ _=>oN λ_ _ _=>rfl) (λf aP A outer s H vs Q E hr h=>?_)
 ·obtain⟨a,dx,mv,ud,M,pl,rfl,_⟩:=h
  rfl
 ·obtain⟨a,dx,mv,ud,M,pl,rfl,e,rm,rp,k⟩:=h
  refine⟨_,(aE (jz TC.cl TC.rB (pv 0) (pv 1)) (aE (jz TC.cl TC.wR (pv 0) (pv 2)) (aE (jz TC.cl TC.pP (pv 0) aD) (aE (jz TC.cl TC.jX (pv 0) (cK az)) (aE (jz TC.cl TC.uv (pv 0) (fm (x:="NOUGHT") rfl lL)) (aE (jz TC.cl TC.C1 (pv 0) (fm (x:="FIRST_RATE") rfl a78)) (aE (jz TC.cl TC.Iw (pv 0) aV) (aE (jz TC.cl TC.Iy (pv 0) aV) (aL (jz TC.cl TC.C0 (pv 0) jV)))))))))),?_⟩;refine⟨_,Z,_,Z,a,dx,_,Z,e,aA,?_⟩;refine⟨_,Z,_,Z,a,dx,_,Z,bo,by show 1<1000;decide,?_⟩;refine⟨_,Z,a,dx,_,Z,bo,by show 2<1000;decide,?_⟩;refine⟨bT Z,λq H1 n1=>?_⟩;have aq:a≠q:=λz=>by have:=n1.no;rw[<-z,bo]at this;cases this
  have e1:=n1.same _ _ (bo (a:=a));refine⟨_,Z,a,dx,_,Z,e1,by show 3<1000;decide,?_⟩;refine⟨_,Z,a,dx,_,Z,bo,by show 4<1000;decide,?_⟩;refine⟨_,Z,a,dx,_,Z,bo,by show 5<1000;decide,?_⟩;refine⟨_,Z,a,dx,_,Z,bo,by show 6<1000;decide,?_⟩;refine⟨_,Z,a,dx,_,Z,bo,by show 7<1000;decide,?_⟩;refine⟨_,Z,a,dx,_,Z,bo,by show 8<1000;decide,?_⟩;have key:∀X:Hp,(∀b,b≠a->X b=H1 b)->Q .bB (L2.upd X a (.ins C dx (iz mv ud (.int 0) (.ref q) (.ref aN) (.int 100) (.str "up") (.str "") .bB))):=by
   intro X hX;have bt:bF [a] H (L2.upd X a (.ins C dx (iz mv ud (.int 0) (.ref q) (.ref aN) (.int 100) (.str "up") (.str "") .bB))):=λb o eb hb=>by have ha:b≠a:=λz=>hb (by rw[z];exact .head _);rw[aO ha,hX b ha];exact n1.same _ _ (by rw[aO ha,aO ha,aO ha];exact eb)
   have sv:=bt.v λx hx o eo=>by rw[cH]at hx;rw[hx,e]at eo;cases eo;trivial
   refine k q _ ⟨⟨dx,mv,ud,.ref aN,.bB,bo,RD.v sv _ (jZ _ _ _ _ _) rm,RD.v sv _ (jT _) rp,uo (nN _),Z⟩,[],?_,cU⟩ ?_ bt
   ·rw[aO aq.symm,hX q aq.symm];exact n1.at'
   ·have:=n1.no
    rw[aO aq.symm,aO aq.symm,aO aq.symm]at this;exact this
  exact key _ (λb hb=>by rw[aO hb,aO hb,aO hb,aO hb,aO hb])
theorem ZE(hp:pl.length=M.rs.length):cF M 64 (nM pl):=⟨.nil,λi d e=>by simp[nM]at e,by simp[nM],(show(10:Int)<=100 by decide),(show(100:Int)<=200 by decide),.inl rfl,hp,⟨(show(0:Rat)<=0 by decide),(show(0:Rat).den<2^74 by decide+kernel)⟩,(show(0:Rat)<=1600 by decide+kernel),trivial,aA,aA⟩
def ml(S:bE)(d:ai)(o:Itm):bE:={S with ds:=S.ds++[d],os:=S.os++[o]}
theorem cF.ow{D:Nat}(h:cF M D S)(it:lQ M.rs.length d o)(hl:S.ds.length<20):cF M D (ml S d o):=by
 have ll:=h.row.len;refine⟨h.row.snoc it.it it.ln,RowW.snoc h.rw ll it.ot,by show(S.ds++[d]).length<=20;rw[fC];show _+1<=20;lia,h.dR,h.ek,?_,h.pl,h.pd,h.pm,h.ba,h.D1,h.D2⟩;rcases h.dn with e|⟨ns,sp,e,e2⟩
 ·exact .inl e
 ·refine .inr ⟨ns,sp,?_,e2⟩
  show(S.os++[o])[0]? =_;rw[yj (eh.mp e).1];exact e
theorem Of:bG ["self","item"] ["self","item"] (aZ G2):=bQ aW
def jb(S:bE):bE:=match S.os with |o::os=>{S with pl:=fO S.pl o,ds:=S.ds.tail,os:=os,dn:=0} |[]=>S
theorem gW.tail{n:Nat}{d:ai}{ds:List ai}{o:Itm}{os:List Itm}(h:gW n (d::ds) (o::os)):gW n ds os:=⟨by have:=h.len;simpa using this,λi d' o' e1 e2=>h.it (i+1) d' o' (by simpa using e1) (by simpa using e2),λi ns sp e=>h.ok (i+1) ns sp (by simpa using e)⟩
theorem RowW.tail{d:ai}{ds:List ai}{o:Itm}{os:List Itm}(h:RowW (d::ds) (o::os)):RowW ds os:=λi d' e1 e2=>h (i+1) d' (by simpa using e1) (by simpa using e2)
structure kQ(M:bS)(D:Nat)(S:bE):Prop where
 row:gW M.rs.length S.ds S.os
 rw:RowW S.ds S.os
 len:S.ds.length<=20
 dR:10<=S.aB
 ek:S.aB<=200
 pl:S.pl.length=M.rs.length
 pd:Dd (D+10) S.pc
 pm:S.pc<=1600
 ba:sN D S.pc S.ba
 D1:64<=D
 D2:D<=1500
theorem cF.raw{D:Nat}(h:cF M D S):kQ M D S:=⟨h.row,h.rw,h.len,h.dR,h.ek,h.pl,h.pd,h.pm,h.ba,h.D1,h.D2⟩
theorem kQ.ok{D:Nat}(h:kQ M D S)(hd:S.dn=0\/∃ns sp,S.os[0]? =some (some (ns,sp))/\S.dn<aM ns):cF M D S:=⟨h.row,h.rw,h.len,h.dR,h.ek,hd,h.pl,h.pd,h.pm,h.ba,h.D1,h.D2⟩
theorem kQ.end{D:Nat}(h:kQ M D S)(hn:S.os≠[]):cF M D (jb S):=by obtain⟨pl,dn,ds,os,pc,aB,side,mark,ba⟩:=S;cases os with |nil=>exact(hn Z).elim |cons o os=>have ll:=h.row.len;cases ds with |nil=>simp at ll |cons d ds=>
 refine⟨h.row.tail,h.rw.tail,?_,h.dR,h.ek,.inl Z,?_,h.pd,h.pm,h.ba,h.D1,h.D2⟩
 ·have:=h.len
  simp only[jM]at this;show ds.length<=20
  lia
 ·exact Ai h.pl λns sp e=>(h.row.ok 0 ns sp (by rw[<-e];rfl)).1.len
theorem aal(xs:List V):lO xs (some 1) none=xs.drop 1:=Kv xs
theorem Oi:bG ["self"] ["self"] (aZ Gb):=bQ aW
inductive acF(K:aa)(C:Addr)(vs:List V)(H:Hp)(Q:VK):Prop |mk (a:_)(q:_)(M:_)(D:_)(S:_)(h0:vs=[.ref a])(h1:du K C H a q M S)(h2:kQ M D S)(h3:M.Ok)(h4:S.os≠[])(h5:∀q' H',du K C H' a q' M (jb S)->H q'=none->bF [a] H H'->Q .bB H')
def EU(K:aa)(C:Addr):Sp:=λvs H Q _=>acF K C vs H Q
theorem a2j(F:MA K C "end_first" "Runner.end_first" Gb)(TC:gX K C)(zL:aI P w K mg ay "place_behind" 2 (yI K)):dG P w K mg ay C "end_first" 3 (EU K C):=by
 refine F.has Oi (λvs H Q E h=>?_) (λ_ _ _ _ _ _=>fH λ_=>rfl) (λf aP A outer s H vs Q E hr h=>?_)
 ·obtain⟨a,q,M,D,S,rfl,_⟩:=h
  rfl
 ·obtain⟨a,q,M,D,S,rfl,R,ok,aU,hn,k⟩:=h
  obtain⟨dx,mv,bv,cW,tv,e,r1,r2,r3,r4⟩:=R.ob;obtain⟨ys,eq,rq⟩:=R.qu;have aq:=R.ne;have nd:=Oi.nd;have lr:=aU.len;have ll:=ok.row.len;refine⟨_,(aE (jz TC.cl TC.wR (pv 0) (pf zL hr (ao (dB TC.cl TC.wR (pv 0)) (ao (px K (dB TC.cl TC.jX (pv 0)) aD) az)))) (aE (jz TC.cl TC.jX (pv 0) (qX (qO K rfl) (dB TC.cl TC.jX (pv 0)) (qV aD) qW)) (aL (jz TC.cl TC.pP (pv 0) aD)))),?_⟩;obtain⟨pl,dn,ds,os,pc,aB,side,mark,ba⟩:=S;cases os with |nil=>exact(hn Z).elim |cons o os=>cases ds with |nil=>simp at ll |cons d ds=>
   obtain⟨y,yr,rfl,ry,rr⟩:=rq.cons_inv;have it:itR d o:=ok.row.it 0 d o Z rfl;have lp:pl.length=M.rs.length:=ok.pl;refine⟨_,Z,a,dx,_,_,Z,e,Z,?_⟩;refine⟨_,Z,a,dx,_,_,Z,e,Z,.inl ⟨q,_,0,y,Z,Z,aH.of eq,dC (gO 0) Z,?_⟩⟩;refine⟨bv,y,pl,d,o,Z,r2,ry,it,λns sp e'=>by rw[lp];exact(ok.row.ok 0 ns sp (by rw[<-e'];rfl)).1.len,au,λu H1 ru s1=>?_⟩;have e1:=s1 _ _ e;refine⟨_,Z,a,dx,_,Z,e1,by show 9<1000;decide,?_⟩;have eq1:(L2.upd H1 a (.ins C dx (iz mv u (.int dn) (.ref q) cW (.int aB) (.str side) (.str mark) tv))) q=some (.lst (y::yr)):=by rw[aO aq.symm];exact s1 _ _ eq
   refine⟨_,Z,a,dx,_,_,Z,bo,Z,_,Z,q,_,Z,.inl ⟨aH.of eq1,λq' H2 n2=>?_⟩⟩;have e2:=n2.same _ _ (bo (a:=a));refine⟨_,Z,a,dx,_,Z,e2,by show 9<1000;decide,?_⟩;refine⟨_,Z,a,dx,_,Z,bo,by show 9<1000;decide,?_⟩;have Lc:a≠q':=λz=>by have:=n2.no;rw[<-z,bo]at this;cases this
   have key:∀X:Hp,(∀b,b≠a->X b=H2 b)->Q .bB (L2.upd X a (.ins C dx (iz mv u (.int 0) (.ref q') cW (.int aB) (.str side) (.str mark) tv))):=by
    intro X hX;have bt:bF [a] H (L2.upd X a (.ins C dx (iz mv u (.int 0) (.ref q') cW (.int aB) (.str side) (.str mark) tv))):=λb o' eb hb=>by have ha:b≠a:=λz=>hb (by rw[z];exact .head _);rw[aO ha,hX b ha];exact n2.same _ _ (by rw[aO ha];exact s1 _ _ eb)
    have sv:=bt.v λx hx o' eo=>by rw[cH]at hx;rw[hx,e]at eo;cases eo;trivial
    have Yc:cj H1 (L2.upd X a (.ins C dx (iz mv u (.int 0) (.ref q') cW (.int aB) (.str side) (.str mark) tv))):=λb o' nb eb=>by
     have ha:b≠a:=λz=>by rw[z,e1]at eb;cases eb;exact nb trivial
     rw[aO ha,hX b ha];exact n2.same _ _ (by rw[aO ha];exact eb)
    have hW:=n2.at';rw[aal]at hW;refine k q' _ ⟨⟨dx,mv,u,cW,tv,bo,RD.v sv _ (jZ _ _ _ _ _) r1,RD.v Yc _ (jT _) ru,r3.v sv,r4.v sv⟩,yr,?_,?_⟩ ?_ bt
    ·rw[aO Lc.symm,hX q' Lc.symm];exact hW
    ·exact aJ.v sv _ ok.row.tail.no rr
    ·cases e':H q' with |none=>rfl |some o'=>have h1:=s1 _ _ e';have h2:=n2.no;rw[aO Lc.symm,h1]at h2;cases h2
   exact key _ (λb hb=>by rw[aO hb])
theorem mn4(h:q=x\/q=y\/q=z\/q=u)(h1:q<=x)(h2:q<=y)(h3:q<=z)(h4:q<=u):mn (mn (mn x y) z) u=q:=by
 refine E3 ?_ (lE (lE (lE h1 h2) h3) h4);rcases h with h|h|h|h
 ·rw[h];exact fg (gJ _ _) (fg (gJ _ _) (gJ _ _))
 ·rw[h];exact fg (gJ _ _) (fg (gJ _ _) (kL _ _))
 ·rw[h];exact fg (gJ _ _) (kL _ _)
 ·rw[h];exact kL _ _
theorem Cj(dl:H l=some (.lst [u1,u2,u3]))(R1:bw K H u1 x)(R2:bw K H u2 y)(R3:bw K H u3 z)(b1:Bd 2000 x)(b2:Bd 2000 y)(b3:Bd 2000 z)(k:∀v,bw K H v (mn (mn x y) z)->Q v H):jy K [.ref l] H Q E0:=by
 refine⟨l,[u1,u2,u3],[x,y,z],Z,aH.of dl,⟨R1,b1,R2,b2,R3,b3,trivial⟩,by simp,λc v q e1 e2 hq=>k v ?_⟩;have e:mn (mn x y) z=q:=by
  refine mn3 ?_ (hq _ (by simp)) (hq _ (by simp)) (hq _ (by simp))
  match c,e2 with |0,e2=>cases e2;exact .inl rfl |1,e2=>cases e2;exact .inr (.inl rfl) |2,e2=>cases e2;exact .inr (.inr rfl)
 rw[e]
 match c,e1,e2 with |0,e1,e2=>cases e1;cases e2;exact R1 |1,e1,e2=>cases e1;cases e2;exact R2 |2,e1,e2=>cases e1;cases e2;exact R3
theorem Ci{t:Rat}(dl:H l=some (.lst [u1,u2,u3,u4]))(R1:bw K H u1 x)(R2:bw K H u2 y)(R3:bw K H u3 z)(R4:bw K H u4 t)(b1:Bd 2000 x)(b2:Bd 2000 y)(b3:Bd 2000 z)(b4:Bd 2000 t)(k:∀v,bw K H v (mn (mn (mn x y) z) t)->Q v H):jy K [.ref l] H Q E0:=by
 refine⟨l,[u1,u2,u3,u4],[x,y,z,t],Z,aH.of dl,⟨R1,b1,R2,b2,R3,b3,R4,b4,trivial⟩,by simp,λc v q e1 e2 hq=>k v ?_⟩;have e:mn (mn (mn x y) z) t=q:=by
  refine mn4 ?_ (hq _ (by simp)) (hq _ (by simp)) (hq _ (by simp)) (hq _ (by simp))
  match c,e2 with |0,e2=>cases e2;exact .inl rfl |1,e2=>cases e2;exact .inr (.inl rfl) |2,e2=>cases e2;exact .inr (.inr (.inl rfl)) |3,e2=>cases e2;exact .inr (.inr (.inr rfl))
 rw[e]
 match c,e1,e2 with |0,e1,e2=>cases e1;cases e2;exact R1 |1,e1,e2=>cases e1;cases e2;exact R2 |2,e1,e2=>cases e1;cases e2;exact R3 |3,e1,e2=>cases e1;cases e2;exact R4
theorem sF{D:Nat}{q:Rat}{z:Int}(h:Dd D q)(hl:q<=1600)(hz:0<=z)(Sf:z<2^24)(hD:D<=1700):Bd 2000 (q+(z:Rat)):=by have b:Bd (D+11) q:=h.bd (fg hl aW);exact(DB b au).mono au
theorem Od:bG ["self","top","reach","left","rise","fall","middles","ends","square","steps","gone","still"] ["self","top","reach","left"] (aZ FV):=bQ aW
def Ij(M:bS)(S:bE)(top R:Rat)(left:Int):bE:={S with pc:=pN M.r M.f S.pc top R left S.ba,ba:=BV S.ba}
inductive acA(K:aa)(C:Addr)(vs:List V)(H:Hp)(Q:VK):Prop |mk (a:_)(q:_)(M:_)(D:_)(S:_)(tv:_)(Rv:_)(top:_)(R:_)(left:_)(h0:vs=[.ref a,tv,Rv,.int left])(h1:du K C H a q M S)(h2:cF M D S)(h3:M.Ok)(h4:bw K H tv top)(h5:Dd 14 top)(h6:top<=1600)(h7:bw K H Rv R)(h8:Dd 64 R)(h9:R<=1600)(zW:1<=left)(T9:left<=100)(T5:¬Halt S.pc S.ba)(T4:∀v H',bw K H' v (m7 M.r M.f S.pc top R left S.ba)->du K C H' a q M (Ij M S top R left)->bF [a] H H'->Q v H')
def Nk(K:aa)(C:Addr):Sp:=λvs H Q _=>acA K C vs H Q
theorem a29(F:MA K C "next_square" "Runner.next_square" FV)(TC:gX K C)(xj:aI P w K mg ay "plus_whole" 4 (Bu K))(Si:aI P w K mg ay "times" 3 (nO (·*·) K))(rP:aI P w K mg ay "fraction" 3 (vW K))(xn:aI P w K mg ay "least" 2 (jy K))(zS:dG P w K mg ay C "is_held" 1 (fK K C λ_ S H Q=>Q (.bl S.ba.isSome) H)):dG P w K mg ay C "next_square" 5 (Nk K C):=by
 refine F.has Od (λvs H Q E h=>?_) (λ_ _ _ _ _ _=>Le λ_ _ _ _=>rfl) (λf aP A outer s H vs Q E hr h=>?_)
 ·obtain⟨a,q,M,D,S,tv,Rv,top,R,left,rfl,_⟩:=h
  rfl
 ·obtain⟨a,q,M,D,S,tv,Rv,top,R,left,rfl,R0,ok,aU,rt,td,tl,rR,Rd,Rl,l1,l2,nh,k⟩:=h
  obtain⟨dx,mv,bv,cW,sv,e,r1,r2,r3,r4⟩:=R0.ob;obtain⟨ys,eq,rq⟩:=R0.qu;have aq:=R0.ne;have nd:=Od.nd;have BK:=aU.r1;have sf:=aU.f1;have D1:=ok.D1;have D2:=ok.D2;have kg:(2:Int)^24=16777216:=by decide
  obtain⟨ma,mb,rfl,gf,iI⟩:=jY r1;refine⟨_,(aE (pG (i:=4) (j:=5) Z nd Z Z aA Z Z (ao (px K (dB TC.cl TC.rB (pv 0)) aD) (ao (px K (dB TC.cl TC.rB (pv 0)) aD) az)) rfl) (aE (pS 6 nd (cK (ao (pf xj hr (ao (dB TC.cl TC.uv (pv 0)) (ao (pv 4) az))) (ao (pv 1) (ao (pf xj hr (ao (pv 2) (ao (aG bM (pv 5) (aG gc (aG bM aD (pv 3)) aD)) az))) az))))) (aE (pS 7 nd (cK (ao (pf xj hr (ao (dB TC.cl TC.uv (pv 0)) (ao (aG bM aD (pv 4)) az))) (ao (pv 1) (ao (pf xj hr (ao (pv 2) (ao (aG bM (aG bM aD (pv 5)) (aG gc (pv 3) aD)) az))) az))))) (aE (hJ (bR (cV (iQ zS TC.cl (hr.mono aA) (pv 0))) (aE (fZ (dB TC.cl TC.C0 (pv 0)) (eG K rfl (n:=3) rfl (bZ (bp 8 nd) (bZ (bp 9 nd) (bZ (bp 10 nd) eu))))) (aE (pS 11 nd (aG gc (aG gc (pv 9) (pv 10)) aD)) (aE (iA (jW K Z (pv 6) (ao (pf Si hr (ao (pv 8) (ao (pf rP hr (ao (aG dc (aG bM aD (pv 11)) aD) (ao (aG bM aD (pv 9)) az))) az))) az))) (aE (iA (jW K Z (pv 7) (ao (pf Si hr (ao (pv 8) (ao (pf rP hr (ao (pv 11) (ao (pv 9) az))) az))) az))) (aL (jz TC.cl TC.C0 (pv 0) (ck (ao (pv 8) (ao (pv 9) (ao (aG dc (pv 10) aD) az)))))))))) bU)) (aE (jz TC.cl TC.uv (pv 0) (pf xn hr (ao (pv 7) az))) (aL (aX (pf xn hr (ao (pv 6) az))))))))),?_⟩;refine⟨_,Z,a,dx,_,_,Z,e,Z,.inr ⟨ma,_,1,.int M.r,Z,Z,gf,Z,?_⟩⟩;refine⟨_,Z,a,dx,_,_,Z,e,Z,.inr ⟨ma,_,2,.int M.f,Z,Z,gf,Z,_,_,Z,?_⟩⟩;have fl1:(M.f*(2*left-1)).natAbs<=50*200:=by rw[fY];exact mF au au
  have JU:0<=M.f*(2*left-1):=jN au au;have fl2:(2*M.f*(left-1)).natAbs<=100*100:=by rw[fY];exact mF au au
  have JT:0<=2*M.f*(left-1):=jN au au;have za:Bd 2000 S.pc:=(ok.pd.bd (fg ok.pm aW)).mono au;have RB:Bd 2000 R:=(Rd.bd (fg Rl aW)).mono aA;have tB:Bd 2000 top:=(td.bd (fg tl aW)).mono aA;have B1:Bd 2000 (S.pc+(M.r:Rat)):=sF ok.pd ok.pm au au au;have B2:Bd 2000 (R+((M.f*(2*left-1):Int):Rat)):=sF Rd Rl JU au au;have B3:Bd 2000 (S.pc+((2*M.r:Int):Rat)):=sF ok.pd ok.pm au au au;have B4:Bd 2000 (R+((2*M.f*(left-1):Int):Rat)):=sF Rd Rl JT au au;refine⟨_,Z,a,dx,_,_,Z,e,Z,_,Z,cW,_,_,Z,r3,za,au,λu1 H1 lb s1=>?_⟩;refine⟨_,Z,_,Z,_,Z,_,Z,_,_,Z,Z,.of_left (cm aA aA),_,_,Z,Z,_,_,Z,Z,.of_left (cm au au),Rv,_,_,Z,rR.go s1,RB,au,λu2 H2 u6 s2=>?_⟩;refine⟨bT Z,λlm H3 n3=>?_⟩;have dw:=s1.trans (s2.trans n3.same);refine⟨_,Z,a,dx,_,_,Z,dw _ _ e,Z,_,Z,_,_,Z,Z,.of_left (cm aA aA),cW,_,_,Z,r3.go dw,za,au,λu3 H4 Hf s4=>?_⟩;have gm:=dw.trans s4;refine⟨_,Z,_,Z,_,Z,_,_,Z,Z,.of_left (cm aA aA),_,Z,_,_,Z,Z,_,_,Z,Z,.of_left (cm au au),Rv,_,_,Z,rR.go gm,RB,au,λu4 H5 He s5=>?_⟩;refine⟨bT Z,λle H6 n6=>?_⟩;have kH:=gm.trans (s5.trans n6.same);have qR:=s4.trans (s5.trans n6.same);have e6:=kH _ _ e;have R6:=R0.same ok.row.no kH;have U1:=lb.go (s2.trans (n3.same.trans qR));have U2:=u6.go (n3.same.trans qR);have U3:=Hf.go (s5.trans n6.same);have U4:=He.go n6.same;have T6:=rt.go kH;have dm:=qR _ _ n3.at';have de:=n6.at';have Ld:a≠lm:=λz=>by have:=n3.no;rw[<-z,(s1.trans s2) _ _ e]at this;cases this
  have Vv:a≠le:=λz=>by have:=n6.no;rw[<-z,(gm.trans s5) _ _ e]at this;cases this
  have zx:lm≠le:=λz=>by have:=n6.no;rw[<-z,(s4.trans s5) _ _ n3.at']at this;cases this
  have BX:H lm=none:=by cases e':H lm with |none=>rfl |some o=>have:=(s1.trans s2) _ _ e';rw[n3.no]at this;cases this
  have zl:H le=none:=by cases e':H le with |none=>rfl |some o=>have:=(gm.trans s5) _ _ e';rw[n6.no]at this;cases this
  refine⟨λO H7=>∃qN w8 w9 kW p7 um ue,O=[some (.ref a),some tv,some Rv,some (.int left),some (.int M.r),some (.int M.f),some (.ref lm),some (.ref le),w8,w9,kW,p7]/\bF [a,lm,le] H6 H7/\H7 a=some (.ins C dx (iz (.ref ma) bv (.int S.dn) (.ref q) cW (.int S.aB) (.str S.side) (.str S.mark) qN))/\Ao K H7 qN (BV S.ba)/\H7 lm=some (.lst um)/\H7 le=some (.lst ue)/\(∀H8 Q',cj H7 H8->H8 lm=some (.lst um)->(∀v,bw K H8 v (m7 M.r M.f S.pc top R left S.ba)->Q' v H8)->jy K [.ref lm] H8 Q' E0)/\(∀H8 Q',cj H7 H8->H8 le=some (.lst ue)->(∀v,bw K H8 v (pN M.r M.f S.pc top R left S.ba)->Q' v H8)->jy K [.ref le] H8 Q' E0),?_,?_⟩
  ·refine⟨_,Z,a,dx,_,Z,e6,Z,a,q,M,D,S,Z,R6,ok,aU,_,Z,?_⟩
   cases hs:S.ba with |none=>rw[hs]at r4;refine bN ⟨sv,_,_,_,_,_,_,Z,bF.refl _ _,e6,r4,dm,de,λH8 Q' sV d8 kq=>Cj d8 (U1.v sV) (T6.v sV) (U2.v sV) B1 tB B2 kq,λH8 Q' sV d8 kq=>Cj d8 (U3.v sV) (T6.v sV) (U4.v sV) B3 tB B4 kq⟩ |some z=>
    obtain⟨sq,st,gn⟩:=z;rw[hs]at r4;have sk:=ok.ba;rw[hs]at sk nh;obtain⟨g1,g2,g3⟩:=wK sk ok.pd.nn nh;obtain⟨gn0,gn1,Bo,tS,tR,_,_⟩:=sk;obtain⟨ta,su,rfl,xi,hsu⟩:=r4;refine cg ?_;have a5n:=xi.go kH;have Jc:=hsu.go kH;have Bp:Bd 2000 sq:=(tS.bd tR).mono au;refine⟨_,Z,a,dx,_,_,Z,e6,Z,ta,_,Z,a5n,Z,_,_,Z,_,_,Z,_,_,Z,Z,?_⟩;refine⟨_,Z,_,Z,_,_,Z,Z,_,_,Z,Z,?_⟩;have kg:sizeLine=16777216:=by decide
    refine⟨_,Z,.inl ⟨Z,_,aH.of dm⟩,_,Z,_,Z,_,_,Z,Z,.of_left (cm aA aA),_,_,Z,Z,_,Z,_,_,Z,Z,.of_left (cm aA aA),_,_,Z,au,iq (n:=64) au aA,λfv H7 rf s7=>?_⟩;have fB:Bd 2000 (Rat.divInt (2*(st-gn-1)+1) (2*st)):=(kK (n:=12) au au au).mono aA;have fB2:Bd 2000 (Rat.divInt (st-gn-1) st):=(kK (n:=12) au au au).mono aA;have pB:Bd 2000 (sq*Rat.divInt (2*(st-gn-1)+1) (2*st)):=((tS.bd tR).mul (kK (n:=12) au au au)).mono au;have HU:Bd 2000 (sq*Rat.divInt (st-gn-1) st):=((tS.bd tR).mul (kK (n:=12) au au au)).mono au;refine⟨su,fv,sq,_,Z,Jc.go s7,rf,Bp,fB,λx1 H8 yS s8=>?_⟩;have wo:=s7.trans s8;have Ur:=wo _ _ dm;refine⟨lm,_,_,Z,Z,Ur,by show 3<sizeLine;lia,?_⟩;have v8:cj H8 (L2.upd H8 lm (.lst ([u1,tv,u2]++[x1]))):=.upd Ur trivial;have UD:(L2.upd H8 lm (.lst ([u1,tv,u2]++[x1]))) le=some (.lst [u3,tv,u4]):=by rw[aO zx.symm];exact wo _ _ de
    refine⟨_,Z,.inl ⟨Z,_,aH.of UD⟩,_,Z,_,Z,_,Z,_,_,Z,au,iq (n:=64) au aA,λgv H9 rg s9=>?_⟩;refine⟨su,gv,sq,_,Z,((Jc.go wo).v v8).go s9,rg,Bp,fB2,λx2 jc yR m3=>?_⟩;have wm:=s9.trans m3;have UE:=wm _ _ UD;refine⟨le,_,_,Z,Z,UE,by show 3<sizeLine;lia,?_⟩;have v10:cj jc (L2.upd jc le (.lst ([u3,tv,u4]++[x2]))):=.upd UE trivial;refine⟨_,Z,_,Z,_,Z,_,_,Z,Z,bT Z,λtn iL iT=>?_⟩;have X8:cj H6 jc:=(wo.v.trans v8).trans wm.v;have X7:cj H6 iL:=(X8.trans v10).trans iT.same.v;have e8:(L2.upd H8 lm (.lst ([u1,tv,u2]++[x1]))) a=some (.ins C dx (iz (.ref ma) bv (.int S.dn) (.ref q) cW (.int S.aB) (.str S.side) (.str S.mark) (.ref ta))):=by rw[aO Ld];exact wo _ _ e6
    have Um:iL a=some (.ins C dx (iz (.ref ma) bv (.int S.dn) (.ref q) cW (.int S.aB) (.str S.side) (.str S.mark) (.ref ta))):=iT.same _ _ (by rw[aO Vv];exact wm _ _ e8);refine⟨_,Z,a,dx,_,Z,Um,by show 9<1000;decide,?_⟩;have qL:cj iL (L2.upd iL a (.ins C dx (iz (.ref ma) bv (.int S.dn) (.ref q) cW (.int S.aB) (.str S.side) (.str S.mark) (.ref tn)))):=.upd Um trivial;have tK:=X7.trans qL;have X5:=(((v8.trans wm.v).trans v10).trans iT.same.v).trans qL;have Xb:=(v10.trans iT.same.v).trans qL;refine⟨.ref tn,_,_,_,_,[u1,tv,u2,x1],[u3,tv,u4,x2],Z,λb o' eb hb=>?_,bo,⟨tn,su,Z,aR.v qL (aR.of iT.at'),Jc.v tK⟩,?_,?_,λH' Q' sV d' kq=>?_,λH' Q' sV d' kq=>?_⟩
    ·have ha:b≠a:=λz=>hb (by rw[z];simp)
     have Jq:b≠lm:=λz=>hb (by rw[z];simp);have hle:b≠le:=λz=>hb (by rw[z];simp);rw[aO ha];exact iT.same _ _ (by rw[aO hle];exact wm _ _ (by rw[aO Jq];exact wo _ _ eb))
    ·rw[aO Ld.symm]
     exact iT.same _ _ (by rw[aO zx];exact wm _ _ bo)
    ·rw[aO Vv.symm]
     exact iT.same _ _ bo
    ·exact Ci d' ((U1.v tK).v sV) ((T6.v tK).v sV) ((U2.v tK).v sV) ((yS.v X5).v sV) B1 tB B2 pB kq
    ·exact Ci d' ((U3.v tK).v sV) ((T6.v tK).v sV) ((U4.v tK).v sV) ((yR.v Xb).v sV) B3 tB B4 HU kq
  ·rintro O H7 ⟨qN,w8,w9,kW,p7,um,ue,rfl,bt,e7,pj,dm7,de7,km,ke⟩
   refine⟨_,Z,?_⟩;dsimp only[kG];refine ke H7 _ .refl de7 λpe BI=>?_;refine⟨_,Z,a,dx,_,Z,e7,by show 9<1000;decide,?_⟩;have v8:cj H7 (L2.upd H7 a (.ins C dx (iz (.ref ma) bv (.int S.dn) (.ref q) pe (.int S.aB) (.str S.side) (.str S.mark) qN))):=.upd e7 trivial;refine⟨_,Z,?_⟩;dsimp only[kG];refine km _ _ v8 (by rw[aO Ld.symm];exact dm7) λv rv=>?_;have bH:bF [a] H (L2.upd H7 a (.ins C dx (iz (.ref ma) bv (.int S.dn) (.ref q) pe (.int S.aB) (.str S.side) (.str S.mark) qN))):=λb o' eb hb=>by
    have ha:b≠a:=λz=>hb (by rw[z];simp);rw[aO ha];refine bt b o' (kH _ _ eb) λhm=>?_;simp only[bL,cE,dv]at hm;rcases hm with h|h|h
    ·exact ha h
    ·rw[h,BX]at eb;cases eb
    ·rw[h,zl]at eb;cases eb
   have vH:cj H (L2.upd H7 a (.ins C dx (iz (.ref ma) bv (.int S.dn) (.ref q) pe (.int S.aB) (.str S.side) (.str S.mark) qN))):=bH.v λx hx o' eo=>by rw[cH]at hx;rw[hx,e]at eo;cases eo;trivial
   refine k v _ rv ⟨⟨dx,.ref ma,bv,pe,qN,bo,RD.v vH _ (jZ _ _ _ _ _) r1,RD.v vH _ (jT _) r2,BI.v v8,pj.v v8⟩,ys,bH _ _ eq (by rw[cH];exact aq.symm),aJ.v vH _ ok.row.no rq⟩ bH
end
end Lw
set_option maxHeartbeats 2000000
namespace Lw
open PySem PySem.Spec PyProof.Rows L2 Rt Ln Cn Pn Wk Rn
open Ow (topR cornO mnO betR atO ownF leadF ownL OkI OkIs)
section
variable {w:World} {mg:bJ} {ay:Heap}
noncomputable def fQ(M:bS)(S:bE):Rat:=Py M.f M.j S.aB S.os
noncomputable def IM(M:bS)(S:bE)(ns:List Int)(sp:Int):Rat:=m7 M.r M.f S.pc (topR S.aB sp) (fQ M S) ((aM ns:Int)-S.dn) S.ba
noncomputable def nY(M:bS)(S:bE)(ns:List Int)(sp:Int):ai:=ph M.t (iy ns S.dn) (IM M S ns sp)
noncomputable def fU(M:bS)(S:bE)(ns:List Int)(sp:Int):bE:={Ij M S (topR S.aB sp) (fQ M S) ((aM ns:Int)-S.dn)with dn:=S.dn+1}
def fS(ns:List Int)(S:bE):bE:=if S.dn=aM ns then jb S else S
def cA(d:ai)(S:bE):bE:=match d with | .tuple [.str w,.str s]=>if w="tool" then{S with side:=s}else if w="mark" then{S with mark:=s}else S |_=>S
inductive One(M:bS):bE->ai->bE->Prop |line {S:bE}{ns:List Int}{sp:Int}:S.os[0]? =some (some (ns,sp))->¬Halt S.pc S.ba->One M S (nY M S ns sp) (fS ns (fU M S ns sp)) |iC {S:bE}{d:ai}:S.os[0]? =some none->S.ds[0]? =some d->¬Halt S.pc S.ba->One M S d (jb (cA d S))
inductive Run(M:bS):bE->List ai->bE->Prop |nil (S:bE):Run M S [] S |cons {S S1 S2:bE}{e:ai}{es:List ai}:One M S e S1->Run M S1 es S2->Run M S (e::es) S2
theorem Run.trans{fs:List ai}(h:Run M S es S1)(g:Run M S1 fs S2):Run M S (es++fs) S2:=by induction h with |nil=>exact g |cons o _ ih=>exact .cons o (ih g)
theorem Run.snoc{M:bS}{S S1 S2:bE}{es:List ai}{e:ai}(h:Run M S es S1)(g:One M S1 e S2):Run M S (es++[e]) S2:=h.trans (.cons g (.nil _))
theorem Fb{D:Nat}(h:kQ M D S)(d:ai):kQ M D (cA d S)/\(cA d S).os=S.os/\(cA d S).ds=S.ds/\(cA d S).dn=S.dn/\(cA d S).pl=S.pl:=by
 unfold cA;split
 ·split
  ·exact⟨⟨h.row,h.rw,h.len,h.dR,h.ek,h.pl,h.pd,h.pm,h.ba,h.D1,h.D2⟩,Z,Z,Z,Z⟩
  ·split
   ·exact⟨⟨h.row,h.rw,h.len,h.dR,h.ek,h.pl,h.pd,h.pm,h.ba,h.D1,h.D2⟩,Z,Z,Z,Z⟩
   ·exact⟨h,Z,Z,Z,Z⟩
 ·exact⟨h,Z,Z,Z,Z⟩
theorem Ht{D:Nat}(h:kQ M D S)(aU:M.Ok)(hn:S.os≠[]):Dd 64 (fQ M S)/\fQ M S<=1600:=by
 have h1:1<=S.os.length:=by cases e:S.os with|nil=>exact(hn e).elim|cons _ _=>simp
 refine⟨a8i (by have:=aU.f1;lia) (λi _=>a1n aU.j1.1 aU.j1.2 h.dR h.ek h.row.wH i) 1 h1,?_⟩;exact fg (a8h h1) (a1m h.dR h.ek h.row.wH 1)
theorem RE{D:Nat}(h:kQ M D S)(aU:M.Ok)(eo:S.os[0]? =some (some (ns,sp)))(hd:S.dn<aM ns)(nh:¬Halt S.pc S.ba):kQ M D (fU M S ns sp):=by
 have hn:S.os≠[]:=λe=>by rw[e]at eo;simp at eo
 obtain⟨R1,R2⟩:=Ht h aU hn;obtain⟨fu,s1,s2⟩:=h.row.ok 0 ns sp eo;have D1:=h.D1;have BK:=aU.r1;have sf:=aU.f1;refine⟨h.row,h.rw,h.len,h.dR,h.ek,h.pl,?_,?_,?_,h.D1,h.D2⟩
 ·exact a9N au au au h.pd ((Ey _ _).mono au) (R1.mono au) h.ba nh
 ·exact fg a9M (Bh s1 s2 h.dR h.ek)
 ·exact Yk h.ba h.pd.nn nh
theorem One.ok{D:Nat}(h:cF M D S)(aU:M.Ok)(o:One M S e S1):cF M D S1:=by cases o with
 |@line ns sp eo nh=>
  have hd:S.dn<aM ns:=by
   rcases h.dn with e|⟨zh,yK,e1,e2⟩
   ·rw[e];exact(h.row.ok 0 ns sp eo).1.lead.1
   ·rw[eo]at e1;cases e1;exact e2
  have raw:=RE h.raw aU eo hd nh;have hn:S.os≠[]:=λe=>by rw[e]at eo;simp at eo
  unfold fS;split
  ·exact raw.end hn
  ·next dP=>
   refine raw.ok (.inr ⟨ns,sp,eo,?_⟩);have:(fU M S ns sp).dn=S.dn+1:=rfl
   lia |iC eo ed nh=>obtain⟨h1,h2,_⟩:=Fb h.raw e;refine h1.end ?_;rw[h2];intro z;rw[z]at eo;simp at eo
theorem Run.ok{D:Nat}(h:cF M D S)(aU:M.Ok)(r:Run M S es S1):cF M D S1:=by induction r with |nil=>exact h |cons o _ ih=>exact ih (o.ok h aU)
theorem One.no{M:bS}{D:Nat}{S S1:bE}{e:ai}(h:cF M D S)(o:One M S e S1):fw e=true:=by cases o with |line _ _=>exact EK _ _ _ |iC eo ed _=>exact hO.mp h.row.no _ (gI ed)
theorem Run.no{M:bS}{D:Nat}{S S1:bE}{es:List ai}(h:cF M D S)(aU:M.Ok)(r:Run M S es S1):cS es=true:=by induction r with |nil=>rfl |cons o _ ih=>rw[cS,fq];exact⟨o.no h,ih (o.ok h aU)⟩
theorem zE{b:Bool}{A B A' B':Prop}(h1:A->A')(h2:B->B'):(if b=true then A else B)->(if b=true then A' else B'):=by
 cases b
 ·exact h2
 ·exact h1
theorem Oc:bG ["self","most","line","lead","rows","top","reach","told","middle"] ["self","most"] (aZ FQ):=bQ aW
inductive acz(K:aa)(C:Addr)(vs:List V)(H:Hp)(Q:VK):Prop |mk (a:_)(q:_)(M:_)(D:_)(S:_)(ns:_)(sp:_)(most:_)(h0:vs=[.ref a,.int most])(h1:du K C H a q M S)(h2:cF M D S)(h3:M.Ok)(h4:S.os[0]? =some (some (ns,sp)))(h5:¬Halt S.pc S.ba)(h6:1<=most)(h7:most<=1000)(h8:∀l ys es S' q' H',H l=none->H' l=some (.lst ys)->aJ K H' ys es->Run M S es S'->1<=es.length->(es.length:Int)<=most->du K C H' a q' M S'->Mv a q H q' H'->l≠q'->Q (.ref l) H')
def Nj(K:aa)(C:Addr):Sp:=λvs H Q _=>acz K C vs H Q
theorem a24(F:MA K C "steps_of_first" "Runner.steps_of_first" FQ)(TC:gX K C)(B:bV mg)(pV:aI P w K mg ay "lead_of" 1 (lY K))(a5r:aI P w K mg ay "step_rows" 3 (ER K))(Cr:aI P w K mg ay "top_square" 4 (Bq K))(a5y:aI P w K mg ay "reach_behind_first" 9 (ES K))(a5s:aI P w K mg ay "step_entry" 3 (F1 K))(JH:dG P w K mg ay C "is_halted" 2 (fK K C λ_ S H Q=>Q (.bl (S.ba.isSome&&decide (S.pc=0))) H))(a7h:dG P w K mg ay C "next_square" 5 (Nk K C))(JI:dG P w K mg ay C "end_first" 3 (EU K C)):dG P w K mg ay C "steps_of_first" 10 (Nj K C):=by
 refine F.has Oc (λvs H Q E h=>?_) (λ_ _ _ _ _ _=>dJ λ_ _=>rfl) (λf aP A outer s H vs Q E hr h=>?_)
 ·obtain⟨a,q,M,D,S,ns,sp,most,rfl,_⟩:=h
  rfl
 ·obtain⟨a,q,M,D,S,ns,sp,most,rfl,R0,ok,aU,eo,nh,m1,m2,k⟩:=h
  obtain⟨dx,mv,bv,cW,tv,e,r1,r2,r3,r4⟩:=R0.ob;obtain⟨ys,eq,rq⟩:=R0.qu;have aq:=R0.ne;have nd:=Oc.nd;have lr:=aU.len;have BK:=aU.r1;have sf:=aU.f1;have ll:=ok.row.len;have rX:=ok.len;have pW:0<S.os.length:=(eh.mp eo).1;have dP:S.os≠[]:=λz=>by rw[z]at pW;exact absurd pW aA
  obtain⟨d,ed⟩:∃d,S.ds[0]? =some d:=⟨_,cn (show 0<S.ds.length by lia)⟩;obtain⟨y,ey,ry⟩:=rq.get 0 ed;have lN:=kM (ok.row.it 0 d _ ed eo);subst lN;obtain⟨fu,gP,iu⟩:=ok.row.ok 0 ns sp eo;have BR:fj ns.length 1000 ns:=⟨Z,λz hz=>by have:=fu.bd z hz;lia,fu.nz⟩;have fN:=fu.lead.1;have RP:=zA fu;have nl3:ns.length<=3:=by rw[fu.len];lia
  have hd0:S.dn<aM ns:=by
   rcases ok.dn with e'|⟨zh,yK,e1,e2⟩
   ·lia
   ·rw[eo]at e1;cases e1;exact e2
  obtain⟨Rd,Rl⟩:=Ht ok.raw aU dP;refine⟨_,(aE (pS 2 nd (px K (dB TC.cl TC.jX (pv 0)) aD)) (aE (pS 3 nd (pf pV hr (ao (pv 2) az))) (aE (pS 4 nd (pf a5r hr (ao (pv 2) az))) (aE (pS 5 nd (pf Cr hr (ao (pv 2) (ao (dB TC.cl TC.C1 (pv 0)) az)))) (aE (pS 6 nd (pf a5y hr (ao (dB TC.cl TC.rB (pv 0)) (ao (dB TC.cl TC.jX (pv 0)) (ao (dB TC.cl TC.C1 (pv 0)) az))))) (aE (pS 7 nd (cK az)) (aE (hJ (nS ip (PW.pt (pF (cu kJ (eL K B (ao (pv 7) az)) (pv 1) (bI _)) (pF (cu kJ (dB TC.cl TC.pP (pv 0)) (pv 3) (bI _)) (uc (fD (cV (iQ JH TC.cl (hr.mono aA) (pv 0)))))))) (aE (pS 8 nd (BO a7h TC.cl (hr.mono aA) (pv 0) (ao (pv 5) (ao (pv 6) (ao (aG gc (pv 3) (dB TC.cl TC.pP (pv 0))) az))))) (aE (iA (jW K Z (pv 7) (ao (pf a5s hr (ao (dB TC.cl TC.rB (pv 0)) (ao (px K (pv 4) (dB TC.cl TC.pP (pv 0))) (ao (pv 8) az)))) az))) (aL (a0y TC.cl TC.pP (pv 0) aD a4W)))))) (aE (hJ (bR (cu (cY K Z hr.units) (dB TC.cl TC.pP (pv 0)) (pv 3) (bI _)) (aL (iA (iQ JI TC.cl (hr.mono aA) (pv 0)))) bU)) (aL (aX (pv 7))))))))))),?_⟩;refine⟨_,Z,a,dx,_,_,Z,e,Z,.inl ⟨q,_,0,y,Z,Z,aH.of eq,dC (gO 0) ey,?_⟩⟩;refine⟨_,Z,y,ns,sp,Z,ry,fu.ne,au,λH1 s1=>?_⟩;refine⟨_,Z,y,ns,sp,Z,RD.mono s1 _ ry,BR,au,λnX yr H2 nlr Us Pu s2=>?_⟩;have jR:=s1.trans s2;refine⟨_,Z,_,Z,a,dx,_,_,Z,jR _ _ e,Z,y,ns,sp,S.aB,Z,RD.mono jR _ ry,gP,iu,ok.dR,ok.ek,λtN H3 Zn s3=>?_⟩;have dw:=jR.trans s3;have e3:=dw _ _ e;refine⟨_,Z,a,dx,_,_,Z,e3,Z,_,Z,a,dx,_,_,Z,e3,Z,_,Z,a,dx,_,_,Z,e3,Z,mv,.ref q,S.aB,M.rs,M.r,M.f,M.j,M.t,S.ds,S.os,Z,RD.mono dw _ r1,aU,jS (aH.of (dw _ _ eq)) (aJ.mono dw _ rq),ok.row,au,au,ok.dR,ok.ek,λub H4 Zy s4=>?_⟩;have gm:=dw.trans s4;refine⟨bT Z,λl H5 n5=>?_⟩;have wq:=gm.trans n5.same;have tX:aF H2 H5:=s3.trans (s4.trans n5.same);have nl:H l=none:=by cases e':H l with |none=>rfl |some o=>have:=gm _ _ e';rw[n5.no]at this;cases this
  have QK:H nX=none:=by cases e':H nX with |none=>rfl |some o=>have:=s1 _ _ e';rw[nlr]at this;cases this
  have al:a≠l:=λz=>by rw[<-z,e]at nl;cases nl
  have ql:q≠l:=λz=>by rw[<-z,eq]at nl;cases nl
  have Vr:a≠nX:=λz=>by rw[<-z,e]at QK;cases QK
  have llr:l≠nX:=λz=>by have:=n5.no;rw[z,(s3.trans s4) _ _ Us]at this;cases this
  have WU:=Pu.length;rw[Hj]at WU;have td:=Ey S.aB sp;have tl:=Bh gP iu ok.dR ok.ek;have tp:=Mz gP ok.dR;have a3b:fS ns S=S:=by unfold fS;rw[bf au]
  have kg:sizeLine=16777216:=by decide
  refine⟨λO H6=>∃T es us w8,O=[some (.ref a),some (.int most),some y,some (.int (aM ns)),some (.ref nX),some tN,some ub,some (.ref l),w8]/\bF [a,l] H5 H6/\du K C H6 a q M T/\kQ M D T/\T.os=S.os/\T.ds=S.ds/\T.aB=S.aB/\T.dn<=aM ns/\1<=es.length/\(es.length:Int)<=most/\H6 l=some (.lst us)/\aJ K H6 us es/\cS es=true/\Run M S es (fS ns T),?_,?_⟩
  ·refine nH (λO H6=>∃T es us w8,O=[some (.ref a),some (.int most),some y,some (.int (aM ns)),some (.ref nX),some tN,some ub,some (.ref l),w8]/\bF [a,l] H5 H6/\du K C H6 a q M T/\kQ M D T/\T.os=S.os/\T.ds=S.ds/\T.aB=S.aB/\T.dn=S.dn+es.length/\T.dn<=aM ns/\(es.length:Int)<=most/\H6 l=some (.lst us)/\aJ K H6 us es/\cS es=true/\Run M S es (fS ns T)/\(es=[]->¬Halt T.pc T.ba)) (λ_ H6=>match H6 l with|some (.lst us)=>2000-us.length|_=>0) ?_ ?_ ?_
   ·exact⟨S,[],[],none,Z,bF.refl _ _,R0.same ok.row.no wq,ok.raw,Z,Z,Z,Z,au,by simp;lia,n5.at',cU,Z,by rw[a3b];exact .nil _,λ_=>nh⟩
   ·rintro O H6 ⟨T,es,us,w8,rfl,bt,RT,raw,iJ,Dh,xI,edn,SA,lK,dl,rd,lI,run,hnh⟩
    have lu:=rd.length;obtain⟨vb,ux,bv6,a1e,Xm,e6,t1,t2,t3,t4⟩:=RT.ob;have Eo:cj H5 H6:=bt.v λx hx o' dh=>by
     simp only[bL,cE,dv]at hx;rcases hx with rfl|rfl
     ·rw[wq _ _ e]at dh;cases dh;trivial
     ·rw[n5.at']at dh;cases dh;trivial
    have nos:cS T.ds=true:=by rw[Dh];exact ok.row.no
    have sj:1<=es.length->∃T' oz jP Ba,[some (.ref a),some (.int most),some y,some (.int (aM ns)),some (.ref nX),some tN,some ub,some (.ref l),w8]=[some (.ref a),some (.int most),some y,some (.int (aM ns)),some (.ref nX),some tN,some ub,some (.ref l),Ba]/\bF [a,l] H5 H6/\du K C H6 a q M T'/\kQ M D T'/\T'.os=S.os/\T'.ds=S.ds/\T'.aB=S.aB/\T'.dn<=aM ns/\1<=oz.length/\(oz.length:Int)<=most/\H6 l=some (.lst jP)/\aJ K H6 jP oz/\cS oz=true/\Run M S oz (fS ns T'):=λh1=>⟨T,es,us,w8,Z,bt,RT,raw,iJ,Dh,xI,SA,h1,lK,dl,rd,lI,run⟩;refine⟨_,Z,l,us,Z,.inl (aH.of dl),_,Z,_,_,Z,Z,_,Z,?_⟩;show if decide ((us.length:Int)<most)=true then _ else _;by_cases c1:(us.length:Int)<most
    ·rw[cP c1]
     refine cg ?_;refine⟨_,Z,a,vb,_,_,Z,e6,Z,_,Z,_,_,Z,Z,_,Z,?_⟩;show if decide ((T.dn:Int)<(aM ns:Int))=true then _ else _;by_cases c2:T.dn<aM ns
     ·rw[cP au]
      refine cg ?_;have BU:cF M D T:=raw.ok (.inr ⟨ns,sp,by rw[iJ];exact eo,c2⟩);have a3a:fS ns T=T:=by unfold fS;rw[bf au]
      refine⟨_,Z,a,vb,_,Z,e6,Z,a,q,M,D,T,Z,RT,BU,aU,_,Z,?_⟩;by_cases c3:Halt T.pc T.ba
      ·have hb:(T.ba.isSome&&decide (T.pc=0))=true:=by obtain⟨h1,h2⟩:=c3;rw[cP h2,M7];cases hs:T.ba with |none=>exact(h1 hs).elim |some _=>rfl
       rw[hb];refine bN ?_;refine sj ?_;cases es with |nil=>exact(hnh Z c3).elim |cons _ _=>simp
      ·have hb:(T.ba.isSome&&decide (T.pc=0))=false:=by cases hs:T.ba with |none=>rfl |some _=>show decide (T.pc=0)=false;exact fk λh2=>c3 ⟨by rw[hs];simp,h2⟩
       rw[hb];refine cg ?_;have rT:fQ M T=fQ M S:=by unfold fQ;rw[iJ,xI]
       refine⟨_,Z,a,vb,_,Z,e6,Z,?_⟩;refine⟨_,Z,_,Z,_,Z,_,Z,a,vb,_,_,Z,e6,Z,_,_,Z,Z,?_⟩;have Zm:bw K H6 tN (topR S.aB sp):=((Zn.go s4).go n5.same).v Eo;have Zx:bw K H6 ub (fQ M S):=(Zy.go n5.same).v Eo;refine⟨a,q,M,D,T,tN,ub,topR S.aB sp,fQ M S,_,Z,RT,BU,aU,Zm,td,tl,Zx,Rd,Rl,au,au,c3,λmid H7 ZI R7 b7=>?_⟩;obtain⟨oG,rE,Ag,z9,yy,e7',MQ,Y6,Y5,Y4⟩:=R7.ob;have e7:H7 a=some (.ins C oG (iz rE Ag (.int T.dn) (.ref q) z9 (.int T.aB) (.str T.side) (.str T.mark) yy)):=e7';have Be:cj H6 H7:=b7.v λx hx o' dh=>by rw[cH]at hx;rw[hx,e6]at dh;cases dh;trivial
       have vf:=b7 _ _ dl (by rw[cH];exact al.symm);have aa8:=tX _ _ Us;have aa7:=bt _ _ aa8 (by simp;exact⟨Vr.symm,llr.symm⟩);have aa6:=b7 _ _ aa7 (by rw[cH];exact Vr.symm);have ZL:aJ K H7 yr (pE ns):=aJ.v Be _ (Hi ns) (aJ.v Eo _ (Hi ns) (aJ.mono tX _ Pu));obtain⟨rv,U0⟩:∃rv,yr[T.dn]? =some rv:=⟨_,cn (show T.dn<yr.length by lia)⟩;obtain⟨dr,Ui,ZY⟩:=ZL.get' T.dn U0;rw[Pp c2]at Ui;cases Ui;have mB:Bd 2000 (m7 M.r M.f T.pc (topR S.aB sp) (fQ M S) ((aM ns:Int)-T.dn) T.ba):=by have D1:=raw.D1;have D2:=raw.D2;exact((Rh au au au raw.pd (td.mono au) (Rd.mono au) raw.ba c3).bd (fg Rb (fg tl aW))).mono au
       have mP:0<m7 M.r M.f T.pc (topR S.aB sp) (fQ M S) ((aM ns:Int)-T.dn) T.ba:=Rg BK.1 sf.1 au raw.pd.nn tp Rd.nn raw.ba c3;refine⟨_,Z,.inl ⟨Z,_,aH.of vf⟩,?_⟩;refine⟨_,Z,a,oG,_,_,Z,e7,Z,?_⟩;refine⟨_,Z,_,Z,a,oG,_,_,Z,e7,Z,.inl ⟨nX,_,_,_,Z,Z,aH.of aa6,dC (show(0:Int)<=(T.dn:Int) by lia) (by simpa using U0),?_⟩⟩;refine⟨_,Z,rE,rv,mid,M.rs,M.r,M.f,M.j,M.t,iy ns T.dn,_,Z,MQ,aU,ZY,ZI,mB,mP,λent H8 ZT s8=>?_⟩;have Ab:=s8 _ _ vf;refine⟨l,us,_,Z,Z,Ab,au,?_⟩;have e8:(L2.upd H8 l (.lst (us++[ent]))) a=some (.ins C oG (iz rE Ag (.int T.dn) (.ref q) z9 (.int T.aB) (.str T.side) (.str T.mark) yy)):=by rw[aO al];exact s8 _ _ e7
       refine⟨_,Z,a,oG,_,_,Z,e8,Z,_,_,Z,Z,oG,_,e8,by show 9<1000;decide,?_⟩;have vl:cj H8 (L2.upd H8 l (.lst (us++[ent]))):=.upd Ab trivial;have va:cj (L2.upd H8 l (.lst (us++[ent]))) (L2.upd (L2.upd H8 l (.lst (us++[ent]))) a (.ins C oG (iz rE Ag (.int ((T.dn:Int)+1)) (.ref q) z9 (.int T.aB) (.str T.side) (.str T.mark) yy))):=.upd e8 trivial;have v7:=(s8.v.trans vl).trans va;have eS:fU M T ns sp={Ij M T (topR S.aB sp) (fQ M S) ((aM ns:Int)-T.dn)with dn:=T.dn+1}:=by unfold fU;rw[rT,xI]
       have eE:nY M T ns sp=ph M.t (iy ns T.dn) (m7 M.r M.f T.pc (topR S.aB sp) (fQ M S) ((aM ns:Int)-T.dn) T.ba):=by unfold nY IM;rw[rT,xI]
       have a5H:One M T (nY M T ns sp) (fS ns (fU M T ns sp)):=.line (by rw[iJ];exact eo) c3;obtain⟨yq,eq7,Zz⟩:=R7.qu;have zk:cS (es++[nY M T ns sp])=true:=hO.mpr λd hd=>by
        rcases vF.mp hd with h|h
        ·exact hO.mp lI d h
        ·rw[cH]at h;rw[h];exact EK _ _ _
       have q7l:q≠l:=ql;refine⟨⟨fU M T ns sp,es++[nY M T ns sp],us++[ent],_,Z,λb o' eb hb=>?_,?_,RE raw aU (by rw[iJ];exact eo) c2 c3,iJ,Dh,xI,?_,?_,?_,?_,?_,?_,?_,λz=>by simp at z⟩,?_⟩
       ·have ha:b≠a:=λz=>hb (by rw[z];simp)
        have eR:b≠l:=λz=>hb (by rw[z];simp);rw[aO ha,aO eR];exact s8 _ _ (b7 _ _ (bt _ _ eb hb) (by rw[cH];exact ha))
       ·rw[eS]
        refine⟨⟨oG,rE,Ag,z9,yy,?_,RD.v v7 _ (jZ _ _ _ _ _) MQ,RD.v v7 _ (jT _) Y6,Y5.v v7,Y4.v v7⟩,yq,?_,aJ.v v7 _ nos Zz⟩
        ·exact bo
        ·rw[aO aq.symm,aO ql];exact s8 _ _ eq7
       ·show T.dn+1=_
        rw[fC];show _=_+(_+1);lia
       ·show T.dn+1<=_
        lia
       ·rw[fC];show((es.length+1:Nat):Int)<=most;lia
       ·rw[aO al.symm,bo]
       ·refine aJ.v va _ zk (aJ.v vl _ zk ?_)
        have r7:aJ K H8 us es:=aJ.mono s8 _ (aJ.v Be _ lI rd);refine r7.append (bW ?_ cU);rw[eE];exact ZT
       ·exact zk
       ·rw[a3a]at run
        exact run.snoc a5H
       ·show(match(L2.upd (L2.upd H8 l (.lst (us++[ent]))) a _) l with|some (.lst us)=>2000-us.length|_=>0)<(match H6 l with|some (.lst us)=>2000-us.length|_=>0)
        rw[aO al.symm,bo,dl];show 2000-(us++[ent]).length<2000-us.length;rw[fC];show 2000-(us.length+1)<_
        lia
     ·rw[fk au]
      refine bN ?_;exact sj au
    ·rw[fk c1]
     refine bN ?_;exact sj au
   ·rintro O H6 Q1 Q2 hq ⟨v1,f1,l',jP,f2,f3,v2,f4,i1,i2,f5,f6,b1,f7,h⟩
    refine⟨v1,f1,l',jP,f2,f3,v2,f4,i1,i2,f5,f6,b1,f7,zE ?_ (hq _ _) h⟩;rintro⟨v3,f8,a',vd,fs',u',f9,A6,A5,v4,K7,i3,i4,K6,K5,b2,A4,h⟩;refine⟨v3,f8,a',vd,fs',u',f9,A6,A5,v4,K7,i3,i4,K6,K5,b2,A4,zE ?_ (hq _ _) h⟩;rintro⟨v5,K4,a2,vc,JP,K3,K2,K1,a3,q3,M3,D3,S3,K0,JZ,JY,JX,b3,JW,h⟩;exact⟨v5,K4,a2,vc,JP,K3,K2,K1,a3,q3,M3,D3,S3,K0,JZ,JY,JX,b3,JW,hq _ _ h⟩
  ·rintro O H6 ⟨T,es,us,w8,rfl,bt,RT,raw,iJ,Dh,xI,SA,h1,lK,dl,rd,lI,run⟩
   obtain⟨vb,ux,bv6,a1e,Xm,e6,t1,t2,t3,t4⟩:=RT.ob;have a5Q:T.os≠[]:=by rw[iJ];exact dP
   have bH:∀{H7:Hp},bF [a] H6 H7->bF [a,q] H H7:=λ{H7} b7 b o' eb hb=>by
    have ha:b≠a:=λz=>hb (by rw[z];simp);refine b7 _ _ (bt _ _ (wq _ _ eb) λhm=>?_) (by rw[cH];exact ha);simp only[bL,cE,dv]at hm;rcases hm with h|h
    ·exact ha h
    ·rw[h,nl]at eb;cases eb
   refine⟨λO H7=>∃q' Ba,O=[some (.ref a),some (.int most),some y,some (.int (aM ns)),some (.ref nX),some tN,some ub,some (.ref l),Ba]/\du K C H7 a q' M (fS ns T)/\Mv a q H q' H7/\l≠q'/\∃jP,H7 l=some (.lst jP)/\aJ K H7 jP es,?_,?_⟩
   ·refine⟨_,Z,a,vb,_,_,Z,e6,Z,_,Z,.inl ⟨_,_,Z,Z,_,Z,?_⟩⟩
    show if decide ((T.dn:Int)=(aM ns:Int))=true then _ else _;by_cases c:T.dn=aM ns
    ·rw[cP au]
     refine cg ?_;refine⟨_,Z,a,vb,_,Z,e6,Z,a,q,M,D,T,Z,RT,raw,aU,a5Q,λq' H7 R7 nq b7=>?_⟩;have Be:cj H6 H7:=b7.v λx hx o' dh=>by rw[cH]at hx;rw[hx,e6]at dh;cases dh;trivial
     refine⟨q',_,Z,by unfold fS;rw[bh c];exact R7,⟨bH b7,.inr ?_⟩,λz=>?_,us,b7 _ _ dl (by rw[cH];exact al.symm),aJ.v Be _ lI rd⟩
     ·cases e':H q' with |none=>rfl |some o'=>
      have h5:=wq _ _ e';by_cases ha:q'=a
      ·rw[ha,e6]at nq;cases nq
      ·by_cases eR:q'=l
       ·rw[eR,nl]at e';cases e'
       ·have:=bt _ _ h5 (by simp;exact⟨ha,eR⟩)
        rw[nq]at this;cases this
     ·rw[<-z,dl]at nq;cases nq
    ·rw[fk au]
     refine bN ?_;exact⟨q,_,Z,by unfold fS;rw[bf c];exact RT,⟨bH (bF.refl _ _),.inl Z⟩,ql.symm,us,dl,rd⟩
   ·rintro O H7 ⟨q',Ba,rfl,R7,rE,lq,jP,vf,rd7⟩
    exact⟨_,Z,k l jP es (fS ns T) q' H7 nl vf rd7 run h1 lK R7 rE lq⟩
theorem Mv.trans(m1:Mv a q H q1 H1)(m2:Mv a q1 H1 q2 H2)(ha:H1 a≠none):Mv a q H q2 H2:=by
 refine⟨λb o e hb=>?_,?_⟩
 ·refine m2.but _ _ (m1.but _ _ e hb) λhm=>?_
  simp only[bL,cE,dv]at hm hb;rcases hm with h|h
  ·exact hb (.inl h)
  ·rcases m1.nq with h1|h1
   ·exact hb (.inr (h.trans h1))
   ·rw[<-h]at h1;rw[h1]at e;cases e
 ·rcases m2.nq with h|h
  ·rw[h];exact m1.nq
  ·cases e:H q2 with |none=>exact .inr rfl |some o=>
   by_cases h1:q2=q
   ·exact .inl h1
   ·by_cases h2:q2=a
    ·rw[h2]at h;exact(ha h).elim
    ·have:=m1.but _ _ e (by simp;exact⟨h2,h1⟩)
     rw[h]at this;cases this
inductive acD(K:aa)(C:Addr)(vs:List V)(H:Hp)(Q:VK):Prop |mk (a:_)(q:_)(M:_)(D:_)(S:_)(most:_)(h0:vs=[.ref a,.int most])(h1:du K C H a q M S)(h2:cF M D S)(h3:M.Ok)(h4:S.os≠[])(h5:¬Halt S.pc S.ba)(h6:1<=most)(h7:most<=1000)(h8:∀l ys es S' q' H',H l=none->H' l=some (.lst ys)->aJ K H' ys es->Run M S es S'->1<=es.length->(es.length:Int)<=most->du K C H' a q' M S'->Mv a q H q' H'->l≠q'->Q (.ref l) H')
def Nm(K:aa)(C:Addr):Sp:=λvs H Q _=>acD K C vs H Q
theorem Og:bG ["self","most","item"] ["self","most"] (aZ G3):=bQ aW
theorem a2g(F:MA K C "entries_of_first" "Runner.entries_of_first" G3)(TC:gX K C)(rM:aI P w K mg ay "is_line" 1 (we K))(a7d:dG P w K mg ay C "steps_of_first" 10 (Nj K C))(JI:dG P w K mg ay C "end_first" 3 (EU K C)):dG P w K mg ay C "entries_of_first" 11 (Nm K C):=by
 refine F.has Og (λvs H Q E h=>?_) (λ_ _ _ _ _ _=>dJ λ_ _=>rfl) (λf aP A outer s H vs Q E hr h=>?_)
 · obtain⟨a,q,M,D,S,most,rfl,_⟩:=h
   rfl
 · obtain⟨a,q,M,D,S,most,rfl,R0,ok,aU,dP,nh,m1,m2,k⟩:=h
   obtain⟨dx,mv,bv,cW,tv,e,r1,r2,r3,r4⟩:=R0.ob;obtain⟨ys,eq,rq⟩:=R0.qu;have aq:=R0.ne;have nd:=Og.nd;have ll:=ok.row.len;have pW:0<S.os.length:=by cases h:S.os with|nil=>exact(dP h).elim|cons _ _=>simp
   obtain⟨d,ed⟩:∃d,S.ds[0]? =some d:=⟨_,cn (show 0<S.ds.length by lia)⟩;obtain⟨y,ey,ry⟩:=rq.get 0 ed;obtain⟨o,eo,it⟩:=ok.row.get ed;refine⟨_,(aE (pS 2 nd (px K (dB TC.cl TC.jX (pv 0)) aD)) (aE (bR (cV (pf rM hr (ao (pv 2) az))) (aL (aX (BO a7d TC.cl (hr.mono aA) (pv 0) (ao (pv 1) az)))) bU) (aE (hJ (bR (cu (cY K Z hr.units) (px K (pv 2) aD) aV (bI _)) (aL (jz TC.cl TC.Iw (pv 0) (px K (pv 2) aD))) bU)) (aE (hJ (bR (cu (cY K Z hr.units) (px K (pv 2) aD) aV (bI _)) (aL (jz TC.cl TC.Iy (pv 0) (px K (pv 2) aD))) bU)) (aE (iA (iQ JI TC.cl (hr.mono aA) (pv 0))) (aL (aX (cK (ao (pv 2) az))))))))),?_⟩;refine⟨_,Z,a,dx,_,_,Z,e,Z,.inl ⟨q,_,0,y,Z,Z,aH.of eq,dC (gO 0) ey,?_⟩⟩;refine⟨_,Z,y,d,o,Z,ry,it,_,Z,?_⟩;cases o with |some z=>obtain⟨ns,sp⟩:=z;refine cg ?_;exact⟨_,Z,a,dx,_,Z,e,Z,_,Z,a,q,M,D,S,ns,sp,most,Z,R0,ok,aU,eo,nh,m1,m2,k⟩ |none=>
     refine bN ?_;have iC:=ok.rw 0 d eo ed;have wd:∃z u ya yr,d= .tuple [.str z,u]/\y= .ref ya/\aR K H ya (.str z::[yr])/\RD K H yr u/\SeqAt.shaped (.str z)=true:=by
      rcases iC with⟨n,rfl,_⟩|⟨w',s',rfl,hw,_⟩
      · obtain⟨ya,xs,rfl,h1,h2⟩:=ry.dS
        obtain⟨x1,rr,rfl,e1,h2⟩:=h2.cons_inv;obtain⟨x2,rr,rfl,e2,h2⟩:=h2.cons_inv;cases h2.nil_inv;cases e1.str_inv;exact⟨_,_,ya,x2,Z,Z,h1,e2,aW⟩
      · obtain⟨ya,xs,rfl,h1,h2⟩:=ry.dS
        obtain⟨x1,rr,rfl,e1,h2⟩:=h2.cons_inv;obtain⟨x2,rr,rfl,e2,h2⟩:=h2.cons_inv;cases h2.nil_inv;cases e1.str_inv;exact⟨_,_,ya,x2,Z,Z,h1,e2,by rcases hw with rfl|rfl<;>decide+kernel⟩
     obtain⟨z,u,ya,yr,rfl,rfl,zG,Pj,sz⟩:=wd;have tU:SeqAt.shaped (.str "tool")=true:=by decide+kernel
     have tM:SeqAt.shaped (.str "mark")=true:=by decide+kernel
     have eqT:∀(x y:Str),PyData.eqv (.str x) (.str y)=decide (x=y):=λx y=>by show(x==y)=decide (x=y);rw[oZ];simp
     refine⟨λO H1=>O=[some (.ref a),some (.int most),some (.ref ya)]/\bF [a] H H1/\H1 a=some (.ins C dx (iz mv bv (.int S.dn) (.ref q) cW (.int S.aB) (.str (if z="tool" then(cA (.tuple [.str z,u]) S).side else S.side)) (.str S.mark) tv)),?_,?_⟩
     · refine⟨_,Z,.inr ⟨ya,_,0,.str z,Z,Z,zG,dC (gO 0) Z,.inr ⟨_,_,cM _,cM _,sz,tU,_,Z,?_⟩⟩⟩
       rw[eqT];by_cases c:z="tool"
       · rw[cP c]
         refine cg ?_;have hu:∃s',u= .str s':=by
          rcases iC with⟨n,h,_⟩|⟨w',s',h,hw,_⟩
          ·cases h;exact absurd c aW
          ·cases h;exact⟨_,rfl⟩
         obtain⟨s',rfl⟩:=hu;cases Pj.str_inv;refine⟨_,Z,.inr ⟨ya,_,1,.str s',Z,Z,zG,dC aA Z,_,Z,a,dx,_,Z,e,by show 9<1000;decide,?_⟩⟩;refine⟨Z,Ah (by simp),?_⟩;rw[bh c];have es:(cA (.tuple [.str z,.str s']) S).side=s':=by unfold cA;simp only[bh c]
         rw[es];exact bo
       · rw[fk c]
         refine bN ⟨Z,bF.refl _ _,?_⟩;rw[bf c];exact e
     rintro O H1 ⟨rfl,b1,e1⟩;have Xd:cj H H1:=b1.v λx hx o' dh=>by rw[cH]at hx;rw[hx,e]at dh;cases dh;trivial
     have Sg:=aR.v Xd zG;refine⟨λO H2=>O=[some (.ref a),some (.int most),some (.ref ya)]/\bF [a] H H2/\H2 a=some (.ins C dx (iz mv bv (.int S.dn) (.ref q) cW (.int S.aB) (.str (cA (.tuple [.str z,u]) S).side) (.str (cA (.tuple [.str z,u]) S).mark) tv)),?_,?_⟩
     · refine⟨_,Z,.inr ⟨ya,_,0,.str z,Z,Z,Sg,dC (gO 0) Z,.inr ⟨_,_,cM _,cM _,sz,tM,_,Z,?_⟩⟩⟩
       rw[eqT];by_cases c:z="mark"
       · rw[cP c]
         refine cg ?_;have nt:¬z="tool":=by rw[c];decide+kernel
         rw[bf nt]at e1;have hu:∃s',u= .str s':=by
          rcases iC with⟨n,h,_⟩|⟨w',s',h,hw,_⟩
          ·cases h;exact absurd c aW
          ·cases h;exact⟨_,rfl⟩
         obtain⟨s',rfl⟩:=hu;cases Pj.str_inv;refine⟨_,Z,.inr ⟨ya,_,1,.str s',Z,Z,Sg,dC aA Z,_,Z,a,dx,_,Z,e1,by show 9<1000;decide,?_⟩⟩;refine⟨Z,b1.trans (Ah (by simp)),?_⟩;have es:(cA (.tuple [.str z,.str s']) S).side=S.side/\(cA (.tuple [.str z,.str s']) S).mark=s':=by constructor<;>(unfold cA;simp only[bf nt,bh c])
         rw[es.1,es.2];exact bo
       · rw[fk c]
         refine bN ⟨Z,b1,?_⟩;have em:(cA (.tuple [.str z,u]) S).mark=S.mark:=by
          unfold cA;split
          · next h => cases h;split
                      ·rfl
                      ·first|rfl|rw[bf c]
          ·rfl
         have es:(if z="tool" then(cA (.tuple [.str z,u]) S).side else S.side)=(cA (.tuple [.str z,u]) S).side:=by
          by_cases c2:z="tool"
          ·rw[bh c2]
          · rw[bf c2]
            unfold cA;split
            ·next h=>cases h;first|rfl|rw[bf c2,bf c]
            ·rfl
         rw[es]at e1;rw[em];exact e1
     rintro O H2 ⟨rfl,b2,e2⟩;have yp:cj H H2:=b2.v λx hx o' dh=>by rw[cH]at hx;rw[hx,e]at dh;cases dh;trivial
     obtain⟨PL,gb,ds',dn',pl'⟩:=Fb ok.raw (.tuple [.str z,u]);have fx:(cA (.tuple [.str z,u]) S).pc=S.pc/\(cA (.tuple [.str z,u]) S).aB=S.aB/\(cA (.tuple [.str z,u]) S).ba=S.ba:=by
      unfold cA;split
      · split
        ·exact⟨Z,Z,Z⟩
        ·split<;>exact⟨Z,Z,Z⟩
      ·exact⟨Z,Z,Z⟩
     have R2:du K C H2 a q M (cA (.tuple [.str z,u]) S):=by
      refine⟨⟨dx,mv,bv,cW,tv,?_,RD.v yp _ (jZ _ _ _ _ _) r1,?_,?_,?_⟩,ys,b2 _ _ eq (by rw[cH];exact aq.symm),?_⟩
      ·rw[dn',fx.2.1];exact e2
      ·rw[pl'];exact RD.v yp _ (jT _) r2
      ·rw[fx.1];exact r3.v yp
      ·rw[fx.2.2];exact r4.v yp
      ·rw[ds'];exact aJ.v yp _ ok.row.no rq
     refine⟨_,Z,a,dx,_,Z,e2,Z,a,q,M,D,_,Z,R2,PL,aU,by rw[gb];exact dP,λq' H3 R3 nq b3=>?_⟩;have KU:=b2.trans b3;have Xc:cj H H3:=KU.v λx hx o' dh=>by rw[cH]at hx;rw[hx,e]at dh;cases dh;trivial
     have zi:H q'=none:=by cases e':H q' with |none=>rfl |some o'=>
        by_cases ha:q'=a
        ·rw[ha,e2]at nq;cases nq
        · have:=b2 _ _ e' (by rw[cH];exact ha)
          rw[nq]at this;cases this
     refine⟨_,Z,bT Z,λl H4 n4=>?_⟩;have nl:H l=none:=by cases e':H l with |none=>rfl |some o'=>
        by_cases ha:l=a
        · obtain⟨dx3,_,_,_,_,e3,_⟩:=R3.ob
          have:=n4.no;rw[ha,e3]at this;cases this
        · have:=KU _ _ e' (by rw[cH];exact ha)
          rw[n4.no]at this;cases this
     have Ih:cF M D (jb (cA (.tuple [.str z,u]) S)):=PL.end (by rw[gb];exact dP);refine k l [.ref ya] [.tuple [.str z,u]] _ q' H4 nl n4.at' (bW (RD.v (Xc.trans n4.same.v) _ (hO.mp ok.row.no _ (gI ed)) ry) cU) (.cons (.iC eo ed nh) (.nil _)) (by simp) (by simpa using m1) (R3.same Ih.row.no n4.same) ⟨λb o' eb hb=>n4.same _ _ (KU _ _ eb (by rw[cH];intro h;exact hb (by rw[h];simp))),.inr zi⟩ ?_;intro h;have:=n4.no;obtain⟨yq,eq3,_⟩:=R3.qu;rw[h,eq3]at this;cases this
inductive acE(K:aa)(C:Addr)(vs:List V)(H:Hp)(Q:VK):Prop |mk (a:_)(q:_)(M:_)(D:_)(S:_)(n:_)(h0:vs=[.ref a,.int n])(h1:du K C H a q M S)(h2:cF M D S)(h3:M.Ok)(h4:0<=n)(h5:n<=1000)(h6:∀l ys es S' q' H',H l=none->H' l=some (.lst ys)->aJ K H' ys es->Run M S es S'->(es.length:Int)<=n->((es.length:Int)=n\/S'.os=[]\/Halt S'.pc S'.ba)->du K C H' a q' M S'->Mv a q H q' H'->l≠q'->Q (.ref l) H')
def Np(K:aa)(C:Addr):Sp:=λvs H Q _=>acE K C vs H Q
theorem Oh:bG ["self","n","told"] ["self","n"] (aZ Ga):=bQ aW
theorem a2h(F:MA K C "entries" "Runner.entries" Ga)(TC:gX K C)(B:bV mg)(JH:dG P w K mg ay C "is_halted" 2 (fK K C λ_ S H Q=>Q (.bl (S.ba.isSome&&decide (S.pc=0))) H))(a7k:dG P w K mg ay C "entries_of_first" 11 (Nm K C)):dG P w K mg ay C "entries" 12 (Np K C):=by
 refine F.has Oh (λvs H Q E h=>?_) (λ_ _ _ _ _ _=>dJ λ_ _=>rfl) (λf aP A outer s H vs Q E hr h=>?_)
 ·obtain⟨a,q,M,D,S,n,rfl,_⟩:=h
  rfl
 ·obtain⟨a,q,M,D,S,n,rfl,R0,ok,aU,n0,n1,k⟩:=h
  have nd:=Oh.nd;refine⟨_,(aE (pS 2 nd (cK az)) (aE (hJ (nS ip (PW.pt (pF (cu kJ (eL K B (ao (pv 2) az)) (pv 1) (bI _)) (pF (HN K Z (dB TC.cl TC.jX (pv 0))) (uc (fD (cV (iQ JH TC.cl (hr.mono aA) (pv 0)))))))) (aL (iA (a1b K Z (pv 2) (ao (BO a7k TC.cl (hr.mono aA) (pv 0) (ao (aG gc (pv 1) (eL K B (ao (pv 2) az))) az)) az)))))) (aL (aX (pv 2))))),?_⟩;refine⟨bT Z,λl H1 nw=>?_⟩;obtain⟨dx,mv,bv,cW,tv,e,r1,r2,r3,r4⟩:=R0.ob;obtain⟨ys,eq,rq⟩:=R0.qu;have al:a≠l:=λz=>by have:=nw.no;rw[<-z,e]at this;cases this
  have ql:q≠l:=λz=>by have:=nw.no;rw[<-z,eq]at this;cases this
  have hq0:H q≠none:=by rw[eq];simp
  have ha0:H a≠none:=by rw[e];simp
  refine⟨λO H2=>∃es S' q' us,O=[some (.ref a),some (.int n),some (.ref l)]/\du K C H2 a q' M S'/\H2 l=some (.lst us)/\aJ K H2 us es/\Run M S es S'/\(es.length:Int)<=n/\((es.length:Int)=n\/S'.os=[]\/Halt S'.pc S'.ba)/\Mv a q H q' H2/\l≠q',?_,?_⟩
  ·refine nH (λO H2=>∃es S' q' us,O=[some (.ref a),some (.int n),some (.ref l)]/\du K C H2 a q' M S'/\H2 l=some (.lst us)/\aJ K H2 us es/\Run M S es S'/\(es.length:Int)<=n/\Mv a q H q' H2/\l≠q') (λ_ H2=>match H2 l with|some (.lst us)=>2000-us.length|_=>0) ?_ ?_ ?_
   ·exact⟨[],S,q,[],Z,R0.same ok.row.no nw.same,nw.at',cU,.nil _,by simpa using n0,⟨.of nw.same,.inl rfl⟩,ql.symm⟩
   ·rintro O H2 ⟨es,S',q',us,rfl,R2,dl,rd,run,lK,wV,lq⟩
    have ji:=run.ok ok aU;have lI:=run.no ok aU;have lu:=rd.length;obtain⟨vc,mv2,bv2,aes,tv2,e2,t1,t2,t3,t4⟩:=R2.ob;obtain⟨yq,eq2,ZA⟩:=R2.qu;have wX:=ZA.length;have zy:=ji.row.len;refine⟨_,Z,l,us,Z,.inl (aH.of dl),_,Z,_,_,Z,Z,_,Z,?_⟩;show if decide ((us.length:Int)<n)=true then _ else _;by_cases c1:(us.length:Int)<n
    ·rw[cP c1]
     refine cg ?_;refine⟨_,Z,a,vc,_,_,Z,e2,Z,_,.inl ⟨_,aH.of eq2,Z⟩,?_⟩;cases jE:S'.os with |nil=>have:yq=[]:=AQ.mp (by rw[wX,zy,jE];rfl);subst this;refine bN ?_;exact⟨es,S',q',us,Z,R2,dl,rd,run,lK,.inr (.inl jE),wV,lq⟩ |cons o os=>
      have dP:S'.os≠[]:=by rw[jE];simp
      have:∃y yr,yq=y::yr:=by cases yq with |nil=>rw[zy,jE]at wX;simp at wX |cons y yr=>exact⟨y,yr,Z⟩
      obtain⟨y,yr,rfl⟩:=this;refine cg ?_;refine⟨_,Z,a,vc,_,Z,e2,Z,a,q',M,D,S',Z,R2,ji,aU,_,Z,?_⟩;by_cases c3:Halt S'.pc S'.ba
      ·have hb:(S'.ba.isSome&&decide (S'.pc=0))=true:=by obtain⟨h1,h2⟩:=c3;rw[cP h2,M7];cases hs:S'.ba with |none=>exact(h1 hs).elim |some _=>rfl
       rw[hb];exact bN ⟨es,S',q',us,Z,R2,dl,rd,run,lK,.inr (.inr c3),wV,lq⟩
      ·have hb:(S'.ba.isSome&&decide (S'.pc=0))=false:=by cases hs:S'.ba with |none=>rfl |some _=>show decide (S'.pc=0)=false;exact fk λh2=>c3 ⟨by rw[hs];simp,h2⟩
       rw[hb];refine cg ?_;refine⟨_,Z,.inl ⟨Z,_,aH.of dl⟩,?_⟩;refine⟨_,Z,a,vc,_,Z,e2,Z,_,Z,_,Z,l,us,Z,.inl (aH.of dl),_,_,Z,Z,?_⟩;refine⟨a,q',M,D,S',_,Z,R2,ji,aU,dP,c3,au,au,λl2 y2 fs S2 q2 H3 QL Ko qT yT f1 f2 R3 C6 lq2=>?_⟩;have X9:=R2.v C6.but;have xP:=C6.but _ _ dl (by simp;exact⟨al.symm,lq⟩);have Hr:=aJ.v X9 _ lI rd;have ly2:=qT.length;have kg:sizeLine=16777216:=by decide
       refine⟨l,l2,us,y2,Z,Z,xP,Ko,au,?_⟩;have vu:cj H3 (L2.upd H3 l (.lst (us++y2))):=.upd xP trivial;have a5N:=yT.no ji aU;have ok2:=yT.ok ji aU;have Ro:l≠q2:=λz=>by
        rcases C6.nq with h|h
        ·exact lq (z.trans h)
        ·rw[<-z,dl]at h;cases h
       refine⟨⟨es++fs,S2,q2,us++y2,Z,R3.go ok2.row.no vu (λo' dh=>by rw[aO al];exact dh) (λo' dh=>by rw[aO Ro.symm];exact dh),bo,(aJ.v vu _ lI Hr).append (aJ.v vu _ a5N qT),run.trans yT,by rw[fC];lia,?_,Ro⟩,?_⟩
       ·have m:=wV.trans C6 (by rw[e2];simp)
        exact⟨λb o' eb hb=>by
         have eR:b≠l:=λz=>by have:=nw.no;rw[<-z,eb]at this;cases this
         rw[aO eR];exact m.but _ _ eb hb,m.nq⟩
       ·show(match(L2.upd H3 l (.lst (us++y2))) l with|some (.lst us)=>2000-us.length|_=>0)<(match H2 l with|some (.lst us)=>2000-us.length|_=>0)
        rw[bo,dl];show 2000-(us++y2).length<2000-us.length;rw[fC]
        lia
    ·rw[fk c1]
     refine bN ?_;exact⟨es,S',q',us,Z,R2,dl,rd,run,lK,.inl au,wV,lq⟩
   ·rintro O H6 Q1 Q2 hq ⟨v1,f1,l',jP,f2,f3,v2,f4,i1,i2,f5,f6,b1,f7,h⟩
    refine⟨v1,f1,l',jP,f2,f3,v2,f4,i1,i2,f5,f6,b1,f7,zE ?_ (hq _ _) h⟩;rintro⟨v3,f8,a',vd,fs',u',f9,A6,A5,b2,A4,h⟩;refine⟨v3,f8,a',vd,fs',u',f9,A6,A5,b2,A4,zE ?_ (hq _ _) h⟩;rintro⟨v5,K4,a2,vc,JP,K3,K2,K1,a3,q3,M3,D3,S3,K0,JZ,JY,JX,b3,JW,h⟩;exact⟨v5,K4,a2,vc,JP,K3,K2,K1,a3,q3,M3,D3,S3,K0,JZ,JY,JX,b3,JW,hq _ _ h⟩
  ·rintro O H2 ⟨es,S',q',us,rfl,R2,dl,rd,run,lK,qc,wV,lq⟩
   exact⟨_,Z,k l us es S' q' H2 nw.no dl rd run lK qc R2 wV lq⟩
def EJ(f:Int)(pc:Rat):Int:=(pc.num+2*f*(pc.den:Int)-1)/(2*f*(pc.den:Int))
theorem Ob:bG ["self","p","q","in_one"] ["self"] (aZ FP):=bQ aW
theorem a23(F:MA K C "stops_in" "Runner.stops_in" FP)(TC:gX K C):dG P w K mg ay C "stops_in" 1 (fK K C λM S H Q=>Q (.int (EJ M.f S.pc)) H):=by
 refine F.has Ob (λvs H Q E h=>?_) (λ_ _ _ _ _ _=>fH λ_=>rfl) (λf aP A outer s H vs Q E hr h=>?_)
 ·obtain⟨a,q,M,D,S,rfl,_⟩:=h
  rfl
 ·obtain⟨a,q,M,D,S,rfl,R,ok,aU,k⟩:=h
  obtain⟨dx,mv,bv,cW,tv,e,r1,r2,⟨pa,rfl,uH⟩,r4⟩:=R.ob;have nd:=Ob.nd;have sf:=aU.f1;obtain⟨ma,mb,rfl,gf,iI⟩:=jY r1;have bd:Bd 1600 S.pc:=(ok.pd.bd (fg ok.pm aW)).mono (by have:=ok.D2;lia);have hd:0<2*M.f*(S.pc.den:Int):=j7 au (den_pos S.pc);have wd:Wd (2*M.f*(S.pc.den:Int)):=by
   refine iq (n:=1700) ?_ aA;rw[fY];have h1:(2*M.f).natAbs<2^7:=by lia
   have:=lC h1 bd.den;exact gz this (tE aA aA)
  refine⟨_,(aE (fZ (dB TC.cl TC.uv (pv 0)) (eG K rfl (n:=2) rfl (bZ (bp 1 nd) (bZ (bp 2 nd) eu)))) (aE (pS 3 nd (aG bM (aG bM aD (px K (dB TC.cl TC.rB (pv 0)) aD)) (pv 2))) (aL (aX (aG mI (aG gc (aG dc (pv 1) (pv 3)) aD) (pv 3)))))),?_⟩;refine⟨_,Z,a,dx,_,_,Z,e,Z,pa,_,Z,uH,Z,_,_,Z,_,_,Z,Z,?_⟩;refine⟨_,Z,a,dx,_,_,Z,e,Z,.inr ⟨ma,_,2,.int M.f,Z,Z,gf,Z,_,_,Z,Z,.of_left (cm aA aA),?_⟩⟩;refine⟨_,Z,_,_,Z,Z,.of_left (cm au au),?_⟩;refine⟨_,Z,_,Z,_,_,Z,Z,_,_,Z,Z,_,Z,_,_,Z,Z,⟨hd,wd⟩,?_⟩;exact k
end
end Lw
set_option maxHeartbeats 1000000
namespace Lw
open PySem PySem.Spec PyProof.Rows L2 Rt Ln Cn Pn
open Ow (topR cornO mnO betR atO ownF leadF ownL OkI OkIs)
section
variable {w:World} {mg:bJ} {ay:Heap}
inductive ad6(K:aa)(vs:List V)(H:Hp)(Q:VK):Prop |mk (m:_)(iv:_)(aB:_)(rs:_)(r:_)(f:_)(j:_)(t:_)(ds:_)(os:_)(h0:vs=[m,iv,.int aB])(h1:RD K H m (iU rs r f j t))(h2:nv rs r f j t)(h3:RD K H iv (.list ds))(h4:gW rs.length ds os)(h5:ds.length<=100)(h6:10<=aB)(h7:aB<=200)(h8:∀l ys H',H l=none->H' l=some (.lst ys)->aJ K H' ys ((ownL j aB os).map da)->aF H H'->Q (.ref l) H')
def NB(K:aa):Sp:=λvs H Q _=>ad6 K vs H Q
def jA(j aB:Int)(os:List Itm)(i:Nat):List Rat:=(List.range (os.length+1)).map λk=>if k<=i then ownF j aB os k else 0
theorem wC(j aB:Int)(os:List Itm)(i:Nat){k:Nat}(h:k<=os.length):(jA j aB os i)[k]? =some (if k<=i then ownF j aB os k else 0):=by unfold jA;rw[cI,cn (by simp;lia),vI];rfl
theorem pJ(j aB:Int)(os:List Itm)(i:Nat):(jA j aB os i).length=os.length+1:=by simp[jA]
theorem Qi(j aB:Int)(os:List Itm)(i:Nat)(h:i+1<=os.length):(jA j aB os i).set (i+1) (ownF j aB os (i+1))=jA j aB os (i+1):=by
 apply tH;intro k;by_cases hk:k<=os.length
 ·rw[wC j aB os (i+1) hk,List.getElem?_set]
  by_cases e:i+1=k
  ·subst e
   rw[bh Z,bh (by rw[pJ];lia),bh (bK _)]
  ·rw[bf e,wC j aB os i hk]
   congr 1;by_cases h1:k<=i
   ·rw[bh h1,bh au]
   ·rw[bf h1,bf au]
 ·rw[lV (by rw[vG,pJ];lia),lV (by rw[pJ];lia)]
theorem a1o(j aB:Int)(os:List Itm)(i:Nat)(h:i+1<=os.length)(e:ownF j aB os (i+1)=0):jA j aB os (i+1)=jA j aB os i:=by
 apply tH;intro k;by_cases hk:k<=os.length
 ·rw[wC j aB os (i+1) hk,wC j aB os i hk]
  congr 1;by_cases h1:k<=i
  ·rw[bh h1,bh au]
  ·rw[bf h1]
   by_cases h2:k=i+1
   ·subst h2;rw[bh (bK _),e]
   ·rw[bf au]
 ·rw[lV (by rw[pJ];lia),lV (by rw[pJ];lia)]
theorem OY:bG ["_law_machine_here","_law_items","_law_rate","_law_found","_law_border","_law_one","_law_other_here","_law_a","_law_b","_law_gap","_law_corner"] ["_law_machine_here","_law_items","_law_rate"] (aZ GP):=bQ aW
theorem a2U(F:FA K mg "_law_bounds" GP)(B:bV mg)(rV:aI P w K mg ay "_law_lead" 1 (lY K))(uS:aI P w K mg ay "_law_min" 2 (jy K))(CO:aI P w K mg ay "_law_top" 2 (EN K))(rW:aI P w K mg ay "_law_frac" 1 (yH K)):aI P w K mg ay "_law_bounds" 3 (NB K):=by
 refine F.has OY (λvs H Q E h=>?_) (λ_ _ _ _ _ _=>oN λ_ _ _=>rfl) (λf aP A outer s H vs Q E hr h=>?_)
 · obtain⟨m,iv,aB,rs,r,f,j,t,ds,os,rfl,_⟩:=h
   rfl
 · obtain⟨m,iv,aB,rs,r,f,j,t,ds,os,rfl,rm,aU,ri,row,hz,dR,ek,k⟩:=h
   have nd:=OY.nd;refine⟨_,(aE (BL (i0:=3) nd Z (Or.inl Z) (N:=["_law_border"]) (js:=[none]) Z Z Z (yY Z (B.at "range") (ao (aG dc (eL K B (ao (pv 1) az)) aD) az)) (λ_ _ _ _ _=>(bp 0 (uu _))) (λ_ _ _ _ _=>fL) (λ_ _ _ _ _=>(ck (ao aD (ao aD az))))) (aE (m6 ip Z (Q9 Z (B.at "range") (ao aD (ao (eL K B (ao (pv 1) az)) az))) (bp 4 nd) (aE (pG (i:=5) (j:=6) Z nd Z Z aA Z Z (ao (px K (pv 1) (aG gc (pv 4) aD)) (ao (px K (pv 1) (pv 4)) az)) Z) (aL (bR (PW.pt (pF (cu (cY K Z hr.units) (px K (pv 5) aD) aV (bI _)) (uc (cu (cY K Z hr.units) (px K (pv 6) aD) aV (bI _))))) (aE (fZ (ck (ao (pf rV hr (ao (pv 5) az)) (ao (pf rV hr (ao (pv 6) az)) az))) (eG K Z (n:=2) Z (bZ (bp 7 nd) (bZ (bp 8 nd) eu)))) (aE (pS 9 nd (dM (x:="max") (IE K Z Z) Z (B.at "max") E4 (ao (gB (N:=["_law_x","_law_y","_law_b","_law_a"]) (js:=[none,none,some 8,some 7]) rfl rfl rfl (jU K rfl false false rfl (B.at "zip") (ao (px K (pv 5) aD) (ao (px K (pv 6) aD) az))) (λ_ _ _ _ _=>(eG K rfl (n:=2) rfl (bZ (bp 0 (show List.Nodup (["_law_x","_law_y","_law_b","_law_a"]:List Str) by decide+kernel)) (bZ (bp 1 (show List.Nodup (["_law_x","_law_y","_law_b","_law_a"]:List Str) by decide+kernel)) eu)))) (λ_ _ _ _ _=>fL) (λ_ _ _ _ _=>(dM (x:="abs") oM rfl (B.at "abs") qF (ao (aG gc (aG bM (pv 0) (pv 2)) (aG bM (pv 1) (pv 3))) az)))) az))) (aE (fZ (pf uS hr (ao (cK (ao (pf CO hr (ao (pv 5) (ao (pv 2) az))) (ao (pf CO hr (ao (pv 6) (ao (pv 2) az))) az))) az)) (ug (pv 3) (pv 4) set_list)) (aL (bR (cu uh (pv 9) aD (bI _)) (aE (pS 10 nd (pf rW hr (ao (aG wD (aG bM (aG bM (px K (pv 0) aD) (pv 7)) (pv 8)) aD) (ao (aG wD (pv 9) aD) az)))) (aL (fZ (pf uS hr (ao (cK (ao (px K (pv 3) (pv 4)) (ao (pv 10) az))) az)) (ug (pv 3) (pv 4) set_list)))) bU))))) bU)))) (aL (aX (pv 3))))),?_⟩;obtain⟨ia,xs,rfl,hi,iH⟩:=ri.lst_inv;obtain⟨ma,mb,rfl,gf,iI⟩:=jY rm;have lx:=iH.length;have ll:=row.len;have lr:=aU.len;refine⟨_,Z,ia,_,Z,.inl hi,_,_,Z,Z,_,Z,au,au,λD H1 n1=>?_⟩;have eN:((xs.length:Int)+1).toNat=os.length+1:=by lia
   rw[eN];refine aat (K:=K) (lo:=0) (n:=os.length+1) (ds:=(jA j aB os 0).map da) _ n1 (by rw[cx,pJ]) au (wL _) ?_ ?_
   · intro i d H2 Q' ed s2 hq
     have Su:i<=os.length:=by have:=(eh.mp ed).1;rw[cx,pJ]at this;lia
     have e0:d=da 0:=by
      rw[cI,wC j aB os 0 Su]at ed;have:=(dQ ed).symm;rw[this];congr 1;split
      · next h => have:i=0:=by lia
                  subst this;rfl
      ·rfl
     subst e0;refine⟨bT Z,λz H3 n3=>?_⟩;exact hq _ _ n3.same (bw.rd ⟨z,Z,aR.of n3.at'⟩)
   intro H2 ys s2 d2 r2;refine⟨_,Z,ia,_,Z,.inl (hi.go s2),_,_,Z,⟨aA,aA,au,au⟩,?_⟩;refine CY (Pv:=λi O H5=>aF H H5/\∃(ys:List V)(v1 v2 v3 v4 v5 v6 v7:Option V),H5 D=some (.lst ys)/\aJ K H5 ys ((jA j aB os i).map da)/\O=[some (.ref ma),some (.ref ia),some (.int aB),some (.ref D),v1,v2,v3,v4,v5,v6,v7]) ?_ ?_ ?_
   ·exact⟨s2,ys,none,none,none,none,none,none,none,d2,r2,Z⟩
   · rintro i O H5 xo ⟨s5,ys,v1,v2,v3,v4,v5,v6,v7,dl,qS,rfl⟩
     have hio:i+1<os.length:=by lia
     have oE:=cn (show i<os.length by lia);have mm:=cn hio;obtain⟨x1,sj⟩:∃x,xs[i]? =some x:=⟨_,cn (show i<xs.length by lia)⟩;obtain⟨x2,D7⟩:∃x,xs[i+1]? =some x:=⟨_,cn (show i+1<xs.length by lia)⟩;obtain⟨d1,e1,r1⟩:=iH.get' i sj;obtain⟨d2,e2,r2⟩:=iH.get' (i+1) D7;have i1:=row.it i d1 _ e1 oE;have i2:=row.it (i+1) d2 _ e2 mm;have CC:ownF j aB os (i+1)=betR j aB os[i] os[i+1]:=by show betR j aB (atO os i) (atO os (i+1))=_;rw[Ow.qx oE,Ow.qx mm]
     have Kl:((1:Int)+(i:Int)-1).toNat=i:=by lia
     have Kk:((1:Int)+(i:Int)).toNat=i+1:=by lia
     have KY:fP xs ((1:Int)+(i:Int)-1)=some x1:=dC au (by rw[Kl];exact sj);have at2:fP xs ((1:Int)+(i:Int))=some x2:=dC au (by rw[Kk];exact D7);have Sv:=hi.go s5;obtain⟨a1,w1,y1,rfl,h1,ew1,Yb⟩:=xf (RD.mono s5 _ r1) i1;obtain⟨a2,w2,y2,rfl,h2,ew2,Ya⟩:=xf (RD.mono s5 _ r2) i2;have same:os[i]=none\/os[i+1]=none->aJ K H5 ys ((jA j aB os (i+1)).map da):=λhn=>by
      rw[a1o j aB os i au]
      ·exact qS
      · rw[CC]
        rcases hn with e|e
        ·rw[e];exact Ow.Vf _ _ _
        ·rw[e];exact Ow.Dw _ _ _
     refine⟨_,Z,_,Z,_,_,Z,Z,.inl ⟨ia,_,_,_,Z,Z,Sv,KY,_,Z,_,Z,.inl ⟨ia,_,_,_,Z,Z,Sv,at2,_,_,Z,?_⟩⟩⟩;refine⟨_,Z,.inr ⟨a1,_,0,.str w1,Z,Z,h1,dC (gO 0) Z,.inr ⟨_,_,cM _,cM _,Yb,uy,_,Z,?_⟩⟩⟩;rw[ew1];cases Jj:os[i]with |none=>exact bN ⟨s5,ys,_,_,_,_,_,_,_,dl,same (.inl Jj),Z⟩ |some q1=>refine cg ?_;refine⟨_,Z,.inr ⟨a2,_,0,.str w2,Z,Z,h2,dC (gO 0) Z,.inr ⟨_,_,cM _,cM _,Ya,uy,_,Z,?_⟩⟩⟩;rw[ew2];cases kN:os[i+1]with |none=>exact bN ⟨s5,ys,_,_,_,_,_,_,_,dl,same (.inr kN),Z⟩ |some q2=>
         refine cg ?_;obtain⟨ns,sp⟩:=q1;obtain⟨ms,sq⟩:=q2;rw[Jj]at i1 oE;rw[kN]at i2 mm;have ed1:=kM i1;have ed2:=kM i2;subst ed1 ed2;obtain⟨ok1,p1,p2⟩:=row.ok i ns sp oE;obtain⟨ok2,q1,q2⟩:=row.ok (i+1) ms sq mm;have T1:Bd 2000 (topR aB sp):=(Ow.vP p1 p2 dR ek).mono aA;have T2:Bd 2000 (topR aB sq):=(Ow.vP q1 q2 dR ek).mono aA;have l1:=zA ok1;have l2:=zA ok2;have lq1:=ok1.lead.1;have lq2:=ok2.lead.1;have ln1:ns.length<=3:=by rw[ok1.len];lia
         have ln2:ms.length<=3:=by rw[ok2.len];lia
         have RA:ms.length=ns.length:=by rw[ok1.len,ok2.len]
         refine⟨_,Z,_,ns,sp,Z,RD.mono s5 _ r1,ok1.ne,au,λH6 s6=>?_⟩;have Pa:=s5.trans s6;refine⟨_,Z,_,ms,sq,Z,RD.mono Pa _ r2,ok2.ne,au,λH7 s7=>?_⟩;refine⟨bT Z,λtq H7' IA=>?_⟩;refine⟨tq,_,Z,aR.of IA.at',Z,_,_,Z,_,_,Z,Z,?_⟩;have nQ:=Pa.trans (s7.trans IA.same);have Zj:=s6.trans (s7.trans IA.same);obtain⟨a1',b1,ea1,ha1,SK⟩:=m8 (RD.mono nQ _ r1);obtain⟨a2',b2,ea2,ha2,mV⟩:=m8 (RD.mono nQ _ r2);cases ea1;cases ea2;refine⟨_,Z,.inr ⟨a1,_,1,.ref b1,Z,Z,ha1,Z,_,Z,.inr ⟨a2,_,1,.ref b2,Z,Z,ha2,Z,b1,b2,Z,⟨_,SK⟩,⟨_,mV⟩,λD4 H8 n8=>?_⟩⟩⟩;refine vh (K:=K) (b1:=false) (b2:=false) (xs:=ns.map V.int) (ys:=ms.map V.int) (ds:=((dH ns ms).map iY).map PyData.int) _ Z SK mV n8 (by simp[dH]) (by simp[dH];lia) (lj _) ?_ ?_
         · intro i x y d H9 Q' ex ey ed s9 hq
           obtain⟨a,b,e1,e2,rfl,rfl⟩:=zip2 RA ex ey;obtain⟨m,em,rfl⟩:=mR ed;rw[cI,Ma e1 e2]at em;cases em;have q1:=ok1.bd a (gI e1);have q2:=ok2.bd b (gI e2);refine⟨_,Z,_,Z,_,_,Z,Z,.of_left (cm au au),?_⟩;refine⟨_,Z,_,Z,_,_,Z,Z,.of_left (cm au au),?_⟩;exact⟨_,_,Z,Z,_,Z,hq _ _ (aF.refl _) (dU _)⟩
         intro H9 zs s9 d9 r9;rw[r9.ja]at d9;have kl:dH ns ms≠[]:=by
          have hl:(dH ns ms).length=ns.length:=by simp[dH,RA]
          intro e;rw[e]at hl;exact ok1.ne (AQ.mp hl.symm)
         refine⟨D4,_,Z,aH.of d9,by simpa using kl,λM h1 h2=>?_⟩;have eM:=IT kl h1 h2;subst eM;have P9:=nQ.trans s9;have Zi:=Zj.trans s9;refine⟨_,Z,_,Z,_,ns,sp,aB,Z,RD.mono P9 _ r1,p1,p2,dR,ek,λt1 jc Hh m3=>?_⟩;refine⟨_,Z,_,Z,_,ms,sq,aB,Z,RD.mono (P9.trans m3) _ r2,q1,q2,dR,ek,λt2 iL Hg wu=>?_⟩;refine⟨bT Z,λlm oS rC=>?_⟩;have R1:bw K oS t1 (topR aB sp):=(Hh.go wu).go rC.same;have R2:bw K oS t2 (topR aB sq):=Hg.go rC.same;refine⟨lm,[t1,t2],[topR aB sp,topR aB sq],Z,aH.of rC.at',⟨R1,T1,R2,T2,trivial⟩,by simp,λc lv q Ki Uk hq=>?_⟩;have uF:mn (topR aB sp) (topR aB sq)=q:=by
          refine nV ?_ (hq _ (by simp)) (hq _ (by simp))
          match c,Uk with |0,e2=>cases e2;exact .inl rfl |1,e2=>cases e2;exact .inr rfl
         have rl:bw K oS lv (mn (topR aB sp) (topR aB sq)):=by
          rw[uF]
          match c,Ki,Uk with |0,e1,e2=>cases e1;cases e2;exact R1 |1,e1,e2=>cases e1;cases e2;exact R2
         have Zh:=m3.trans (wu.trans rC.same);have GX:=Zi.trans Zh;have Kp:=GX _ _ dl;have ly:=qS.length;rw[cx,pJ]at ly;have RX:jD ys.length ((1:Int)+(i:Int))=some (i+1):=by unfold jD;rw[bh au,bh au,Kk]
         refine⟨_,Z,_,Z,D,ys,_,_,Z,Z,Kp,RX,?_⟩;have Hq:=aJ.F9 (i:=i+1) Kp (aJ.mono GX _ qS) rl.rd (wL _) (qU _);have sD:∀{o:HO},aF H (L2.upd oS D o):=λ{o} b o' e=>by rw[aO (fT e n1.no)];exact GX b o' (s5 b o' e)
         have tU:iZ oS (L2.upd oS D (.lst (ys.set (i+1) lv))):=.qM Kp;refine⟨_,Z,_,_,Z,Z,_,Z,?_⟩;rw[Jj,kN]at CC;have cO:cornO j ns ms=if aM (dH ns ms)=0 then none else some (Rat.divInt ((j*aM ns*aM ms)^2) ((aM (dH ns ms):Int)^2)):=rfl;show if decide ((aM (dH ns ms):Int)>0)=true then _ else _;by_cases h0:aM (dH ns ms)=0
         · rw[fk au]
           refine bN ?_;rw[bh h0]at cO;refine⟨sD,ys.set (i+1) lv,_,_,_,_,_,_,_,bo,?_,Z⟩;rw[<-AN]at Hq;have e:(jA j aB os i).set (i+1) (mn (topR aB sp) (topR aB sq))=jA j aB os (i+1):=by rw[<-Qi j aB os i au,CC];show _=List.set _ _ (mnO _ (cornO j ns ms));rw[cO];rfl
           rw[<-e];exact Hq
         · rw[cP au]
           refine cg ?_;rw[bf h0]at cO;have jl:(j*aM ns).natAbs<=50*100:=lD (by have:=aU.j1;lia) au;have jl2:(j*aM ns*aM ms).natAbs<=50*100*100:=lD jl au;have cb:=Dn (λz hz=>by have:=ok1.bd z hz;lia) (λz hz=>by have:=ok2.bd z hz;lia) (ns:=ns) (ms:=ms);have qh:=nZ cb;have lM:(2:Nat)^64=18446744073709551616:=by decide
           refine⟨_,Z,.inr ⟨ma,_,3,.int j,Z,Z,gf.go sD,Z,?_⟩⟩;refine⟨_,Z,_,_,Z,Z,.of_left (cm (by have:=aU.j1;lia) (by have:=aU.j1;lia)),_,Z,_,_,Z,Z,.of_right (cm au au),?_⟩;refine⟨_,_,Z,Z,⟨aA,aA,by rw[lM];lia⟩,_,Z,_,_,Z,Z,⟨aA,aA,by rw[lM];lia⟩,_,_,Z,?_,?_,λv6 Lv r6 dw=>?_⟩
           · show 0<(aM (dH ns ms):Int)^2
             rw[fX,fX,lW,kS];exact j7 au au
           · refine iq (n:=64) ?_ aA
             show((aM (dH ns ms):Int)^2).natAbs<_;rw[fX,fX,lW,kS,lM];have:=lD (a:=(aM (dH ns ms):Int)) (b:=(aM (dH ns ms):Int)) (m:=2000000) (n:=2000000) au au
             lia
           have Rc:bw K Lv v6 (Rat.divInt ((j*aM ns*aM ms)^2) ((aM (dH ns ms):Int)^2)):=r6;have Tc:Bd 2000 (Rat.divInt ((j*aM ns*aM ms)^2) ((aM (dH ns ms):Int)^2)):=(Ow.Kw aU.j1.1 aU.j1.2 ok1.bd ok2.bd cO).mono aA;generalize Rat.divInt ((j*aM ns*aM ms)^2) ((aM (dH ns ms):Int)^2)=cq at Rc Tc cO;have Uu:=dw _ _ (bo (H:=oS) (a:=D) (o:=.lst (ys.set (i+1) lv)));have at3:fP (ys.set (i+1) lv) ((1:Int)+(i:Int))=some lv:=dC au (by rw[Kk,AS au]);have abP:bw K Lv lv (mn (topR aB sp) (topR aB sq)):=nR (RD.mono dw _ (RD.t tU _ (qU _) rl.rd));refine⟨_,Z,_,Z,.inl ⟨D,_,_,_,Z,Z,aH.of Uu,at3,_,Z,?_⟩⟩;refine⟨bT Z,λIQ W6 wU=>?_⟩;have VQ:=abP.go wU.same;have VP:=Rc.go wU.same;refine⟨IQ,[lv,v6],[mn (topR aB sp) (topR aB sq),cq],Z,aH.of wU.at',⟨VQ,Ow.zu T1 T2,VP,Tc,trivial⟩,by simp,λc' lv2 q' a9U Uj hW=>?_⟩;have a5B:mn (mn (topR aB sp) (topR aB sq)) cq=q':=by
            refine nV ?_ (hW _ (by simp)) (hW _ (by simp))
            match c',Uj with |0,e2=>cases e2;exact .inl rfl |1,e2=>cases e2;exact .inr rfl
           have Hl:bw K W6 lv2 (mn (mn (topR aB sp) (topR aB sq)) cq):=by
            rw[a5B]
            match c',a9U,Uj with |0,e1,e2=>cases e1;cases e2;exact VQ |1,e1,e2=>cases e1;cases e2;exact VP
           have Ut:=wU.same _ _ Uu;refine⟨_,Z,_,Z,D,_,_,_,Z,Z,Ut,(by rw[vG];exact RX),?_⟩;have PC:=aJ.F9 (i:=i+1) Ut (aJ.mono (dw.trans wU.same) _ Hq) Hl.rd (by rw[<-AN];exact wL _) (qU _);refine⟨λb o' e=>by rw[aO (fT e n1.no)];exact wU.same b o' (dw b o' (sD b o' e)),_,_,_,_,_,_,_,_,bo,?_,Z⟩;rw[LS,LS,<-AN]at PC;have e:(jA j aB os i).set (i+1) (mn (mn (topR aB sp) (topR aB sq)) cq)=jA j aB os (i+1):=by rw[<-Qi j aB os i au,CC];show _=List.set _ _ (mnO _ (cornO j ns ms));rw[cO];rfl
           rw[<-e,LS];exact PC
   · rintro O H5 ⟨s5,ys,v1,v2,v3,v4,v5,v6,v7,dl,qS,rfl⟩
     have e:jA j aB os ((xs.length:Int)-1).toNat=ownL j aB os:=by
      apply tH;intro k;by_cases hk:k<=os.length
      · rw[wC j aB os _ hk,Ow.Qk j aB os hk]
        congr 1;split
        ·rfl
        · have:k=os.length:=by lia
          exact(Ow.HV j aB os k this).symm
      ·rw[lV (by rw[pJ];lia),lV (by rw[Ow.Qj];lia)]
     rw[e]at qS;exact⟨_,Z,k D ys H5 n1.no dl qS s5⟩
inductive acf(K:aa)(vs:List V)(H:Hp)(Q:VK):Prop |mk (m:_)(sq:_)(rs:_)(r:_)(f:_)(j:_)(ti:_)(q:_)(h0:vs=[m,sq])(h1:RD K H m (iU rs r f j ti))(h2:bw K H sq q)(h3:Bd 2000 q)(h4:1<=ti)(h5:ti<=100)(h6:0<q.num)(h7:∀T,1<=T->T.natAbs<2^2400->gs ti q T=true->gs ti q (T-1)=false->∀H',aF H H'->Q (.int T) H')
def N7(K:aa):Sp:=λvs H Q _=>acf K vs H Q
theorem NV:bG ["_law_machine_here","_law_square","_law_wanted","_law_low","_law_high","_law_half"] ["_law_machine_here","_law_square"] (aZ Fq):=bQ aW
theorem a1N(F:FA K mg "_law_ticks" Fq)(B:bV mg):aI P w K mg ay "_law_ticks" 1 (N7 K):=by
 refine F.has NV (λvs H Q E h=>?_) (λ_ _ _ _ _ _=>dJ λ_ _=>rfl) (λf aP A outer s H vs Q E hr h=>?_)
 · obtain⟨m,sq,rs,r,f,j,ti,q,rfl,_⟩:=h
   rfl
 · obtain⟨m,sq,rs,r,f,j,ti,q,rfl,rm,⟨p,rfl,hp⟩,bq,t1,t2,hq,k⟩:=h
   have nd:=NV.nd;refine⟨_,(aE (pS 2 nd (aG bM (aG wD (px K (pv 0) aD) aD) (px K (pv 1) aD))) (aE (fZ (ck (ao aD (ao aD az))) (eG K Z (n:=2) Z (bZ (bp 3 nd) (bZ (bp 4 nd) eu)))) (aE (nS ip (cu kJ (aG bM (aG bM (pv 4) (pv 4)) (px K (pv 1) aD)) (pv 2) (bI _)) (aL (pG (i:=3) (j:=4) Z nd Z Z aA Z Z (ao (pv 4) (ao (aG bM aD (pv 4)) az)) Z))) (aE (nS ip (cu uh (aG gc (pv 4) (pv 3)) aD (bI _)) (aE (pS 5 nd (aG mI (aG dc (pv 3) (pv 4)) aD)) (aL (bR (cu kJ (aG bM (aG bM (pv 5) (pv 5)) (px K (pv 1) aD)) (pv 2) (bI _)) (aL (pS 3 nd (pv 5))) (aL (pS 4 nd (pv 5))))))) (aL (aX (pv 4))))))),?_⟩;obtain⟨a,b,rfl,ha,hb⟩:=jY rm;have m1:(ti*ti).natAbs<=100*100:=by rw[fY];exact mF au au
   have eP:ti^(2:Int).toNat=ti*ti:=by show ti^2=ti*ti;rw[fX,fX,lW,kS]
   have lim:(ti*ti*(q.den:Int)).natAbs<2^2399:=by have hd:=bq.den;rw[fY];have:(q.den:Int).natAbs=q.den:=rfl;rw[this];have:=lC (n:=14) (m:=2000) (a:=(ti*ti).natAbs) (b:=q.den) (qG m1 aA) hd;exact gz this (tE aA aA)
   have p0:0<ti*ti*(q.den:Int):=j7 (j7 au au) (den_pos q);have e2:(2:Nat)^2400=2^2399*2:=Nat.pow_succ 2 2399;have B8:∀{t:Int},t.natAbs<2^2400->Wd (t*t):=λ{t} tw=>iq (n:=4800) (by rw[fY];exact lC (n:=2400) (m:=2400) tw tw) aA;have wt:∀{t:Int},t.natAbs<2^2400->Wd t:=λ{t} tw=>iq tw aA;refine⟨_,Z,.inr ⟨a,_,4,.int ti,Z,Z,ha,Z,?_⟩⟩
   refine ⟨_, _, rfl, rfl, ⟨by decide, by decide, by have:(2:Nat)^64=18446744073709551616:=by decide
                                                     lia⟩,?_⟩;refine⟨_,Z,.inr ⟨p,_,1,.int q.den,Z,Z,hp,Z,?_⟩⟩;refine⟨_,_,Z,Z,by rw[eP];exact .of_left (cm au au),?_⟩;have eW:ti^(2:Int).toNat*(q.den:Int)=ti*ti*(q.den:Int):=by rw[eP]
   have Ug:∀t:Int,decide (t*t*q.num<ti^(2:Int).toNat*(q.den:Int))= !gs ti q t:=λt=>by unfold gs;rw[eW,<-decide_not];exact decide_eq_decide.mpr au
   refine⟨bT Z,λc0 H0 n0=>?_⟩;refine⟨c0,_,Z,aR.of n0.at',Z,_,_,Z,_,_,Z,Z,?_⟩;have CB:=hp.go n0.same;have k':∀T:Int,1<=T->T.natAbs<2^2400->gs ti q T=true->gs ti q (T-1)=false->Q (.int T) H0:=λT a1 a2 a3 a4=>(k T a1 a2 a3 a4) H0 n0.same;generalize hL:ti*ti*(q.den:Int)=L at lim p0;refine nH (λO H2=>H2=H0/\∃(lo x:Int),O=[some (.ref a),some (.ref p),some (.int (ti^(2:Int).toNat*(q.den:Int))),some (.int lo),some (.int x),none]/\0<=lo/\lo<x/\x<=2*L/\gs ti q lo=false) (λO _=>match O with|[_,_,_,_,some (.int x),_]=>(L-x).toNat|_=>0) ?_ ?_ ?_
   ·exact⟨Z,0,1,Z,au,au,au,Ub t1⟩
   · rintro O H2 ⟨rfl,lo,x,rfl,l0,lx,xL,hx⟩
     have xw:x.natAbs<2^2400:=by lia
     refine⟨_,Z,_,Z,_,_,Z,Z,iO (wt xw).bits (wt xw).bits,_,Z,.inr ⟨p,_,0,.int q.num,Z,Z,CB,Z,_,_,Z,Z,iO (B8 xw).bits bq.wn.bits,?_⟩⟩;refine⟨_,Z,_,_,Z,Z,_,Z,?_⟩;show if decide (x*x*q.num<ti^(2:Int).toNat*(q.den:Int))=true then _ else _;rw[Ug];cases qe:gs ti q x with
     |false=>
       have cJ:x<L:=by
        by_cases cJ:x<L
        ·exact cJ
        ·rw[Ud hq au au]at qe;cases qe
       refine cg ?_;refine⟨_,Z,_,Z,_,_,Z,Z,.of_left (cm aA aA),_,_,Z,?_⟩;refine⟨⟨Z,x,2*x,Z,au,au,au,qe⟩,?_⟩;show(L-2*x).toNat<(L-x).toNat
       lia |true=>
       refine bN ?_;refine nH (λO H3=>H3=H2/\∃(lo hi:Int)(v:Option V),O=[some (.ref a),some (.ref p),some (.int (ti^(2:Int).toNat*(q.den:Int))),some (.int lo),some (.int hi),v]/\0<=lo/\lo<hi/\hi<=2*L/\gs ti q lo=false/\gs ti q hi=true) (λO _=>match O with|[_,_,_,some (.int y),some (.int x),_]=>(x-y).toNat|_=>0) ?_ ?_ ?_
       ·exact⟨Z,lo,x,none,Z,au,au,xL,hx,qe⟩
       · rintro O H3 ⟨rfl,lo,hi,v,rfl,l0,lh,zT,Aa,uY⟩
         refine⟨_,Z,_,Z,_,_,Z,Z,_,_,Z,Z,_,Z,?_⟩;refine eQ (λhc=>?_) (λhc=>?_)
         · have hgt:hi-lo>1:=jL hc
           refine⟨_,Z,_,Z,_,_,Z,Z,_,_,Z,Z,⟨aA,iq (n:=2) aA aA⟩,?_⟩;have mw:((lo+hi)/2).natAbs<2^2400:=by lia
           refine⟨_,Z,_,Z,_,_,Z,Z,iO (wt mw).bits (wt mw).bits,_,Z,.inr ⟨p,_,0,.int q.num,Z,Z,CB,Z,_,_,Z,Z,iO (B8 mw).bits bq.wn.bits,?_⟩⟩;refine⟨_,Z,_,_,Z,Z,_,Z,?_⟩;show if decide ((lo+hi)/2*((lo+hi)/2)*q.num<ti^(2:Int).toNat*(q.den:Int))=true then _ else _;rw[Ug];cases hm:gs ti q ((lo+hi)/2)with
           |true=>
             refine bN ?_;refine⟨_,Z,⟨Z,lo,_,_,Z,l0,au,au,Aa,hm⟩,?_⟩;show((lo+hi)/2-lo).toNat<(hi-lo).toNat
             lia |false=>
             refine cg ?_;refine⟨_,Z,⟨Z,_,hi,_,Z,au,au,zT,hm,uY⟩,?_⟩;show(hi-(lo+hi)/2).toNat<(hi-lo).toNat
             lia
         · have hle:¬hi-lo>1:=λz=>hc (cP z)
           have e:lo=hi-1:=by lia
           subst e;exact⟨_,Z,k' hi au au uY Aa⟩
       · rintro O H2 Q1 Q2 hq ⟨v1,e1,v2,e2,i,j,e3,e4,i2,j2,e5,e6,kk,e7,q⟩
         exact⟨v1,e1,v2,e2,i,j,e3,e4,i2,j2,e5,e6,kk,e7,hq _ _ q⟩
   · rintro O H2 Q1 Q2 hq ⟨v1,e1,v2,e2,i,j,e3,e4,mo,v3,e5,h⟩
     refine⟨v1,e1,v2,e2,i,j,e3,e4,mo,v3,e5,?_⟩;rcases h with⟨a,xs,ii,x,f1,f2,f3,f4,i2,j2,g1,g2,g3,v4,g4,i3,j3,g5,g6,kk,g7,q⟩|⟨a,xs,ii,x,f1,f2,f3,f4,i2,j2,g1,g2,g3,v4,g4,i3,j3,g5,g6,kk,g7,q⟩
     ·exact .inl ⟨a,xs,ii,x,f1,f2,f3,f4,i2,j2,g1,g2,g3,v4,g4,i3,j3,g5,g6,kk,g7,hq _ _ q⟩
     ·exact .inr ⟨a,xs,ii,x,f1,f2,f3,f4,i2,j2,g1,g2,g3,v4,g4,i3,j3,g5,g6,kk,g7,hq _ _ q⟩
inductive acj(K:aa)(vs:List V)(H:Hp)(Q:VK):Prop |mk (v:_)(ns:_)(sp:_)(k:_)(h0:vs=[v,.int k])(h1:RD K H v (iE ns sp))(h2:fj ns.length 1000 ns)(h3:ns.length<=1000)(h4:0<=k)(h5:k<=10^6)(h6:∀v' H',RD K H' v' (EL ns k)->aF H H'->Q v' H')
def N9(K:aa):Sp:=λvs H Q _=>acj K vs H Q
theorem a8p{k:Int}(hk:0<=k)(hq:0<q):(if n<0 then-((2*k*iY n+q)/(2*q))else(2*k*iY n+q)/(2*q))=iD (k*n) q:=by
 have e:2*k*iY n=2*((k*n).natAbs:Int):=by rw[Al,fY,Int.natCast_mul,vL,Int.natAbs_of_nonneg hk]
 rw[e];show(if n<0 then-(kZ (k*n) q)else kZ (k*n) q)=iD (k*n) q;rcases M4 n 0 with hn|hn
 ·rw[bh hn]
  rcases M4 0 k with h0|h0
  ·have:k*n<0:=Int.mul_neg_of_pos_of_neg h0 hn
   unfold iD;rw[bf au]
  ·have e0:k=0:=by lia
   rw[e0,AW,Ir hq];have:=Ir hq;unfold iD at this;rw[bh au]at this
   lia
 ·rw[bf au]
  have:0<=k*n:=jN hk hn;unfold iD;rw[bh this]
theorem NZ:bG ["_law_line_here","_law_k","_law_lead_here","_law_found","_law_step","_law_far"] ["_law_line_here","_law_k"] (aZ Fv):=bQ aW
theorem a1R(F:FA K mg "_law_stand" Fv)(B:bV mg)(rV:aI P w K mg ay "_law_lead" 1 (lY K)):aI P w K mg ay "_law_stand" 2 (N9 K):=by
 refine F.has NZ (λvs H Q E h=>?_) (λ_ _ _ _ _ _=>dJ λ_ _=>rfl) (λf aP A outer s H vs Q E hr h=>?_)
 ·obtain⟨v,ns,sp,k,rfl,_⟩:=h
  rfl
 ·obtain⟨v,ns,sp,kk,rfl,rd,ok,hz,hk,og,k⟩:=h
  have nd:=NZ.nd;refine⟨_,(aE (pS 2 nd (pf rV hr (ao (pv 0) az))) (aE (pS 3 nd (cK az)) (aE (m6 ip Z (pH K Z (px K (pv 0) aD)) (bp 4 nd) (aE (pS 5 nd (aG mI (aG dc (aG bM (aG bM aD (pv 1)) (dM (x:="abs") oM Z (B.at "abs") qF (ao (pv 4) az))) (pv 2)) (aG bM aD (pv 2)))) (aL (iA (jW K Z (pv 3) (ao (px K (cK (ao (pv 5) (ao (wA vO (pv 5)) az))) (gQ (x:="int") V6 Z (B.at "int") LL (ao (fE kJ (pv 4) aD (bI _)) az))) az)))))) (aL (aX (gQ (x:="tuple") (kX K Z) Z (B.at "tuple") fW (ao (pv 3) az))))))),?_⟩;refine⟨_,Z,v,ns,sp,Z,rd,ok.ne,hz,λH1 s1=>?_⟩;obtain⟨lp,lm⟩:=ok.lead;refine⟨bT Z,λl H2 n2=>?_⟩;obtain⟨a,b,rfl,ha,hb⟩:=m8 (RD.mono (s1.trans n2.same) _ rd);refine⟨_,Z,.inr ⟨a,_,1,.ref b,Z,Z,ha,Z,b,Z,⟨_,hb⟩,a89 (K:=K) (a:=b) (xs:=ns.map V.int) (λi O H3=>aF H1 H3/\aR K H3 b (ns.map V.int)/\H3 l=some (.lst (((ns.map λz=>iD (kk*z) (aM ns)).take i).map V.int))/\∃v1 v2,O=[some (.ref a),some (.int kk),some (.int (aM ns)),some (.ref l),v1,v2]) ⟨n2.same,hb,n2.at',none,none,Z⟩ (λi O H3 _ h=>h.2.1) ?_ ?_⟩⟩
  ·rintro i x O H3 hx ⟨s3,SJ,dl,v1,v2,rfl⟩
   obtain⟨n,en⟩:∃n,ns[i]? =some n:=by rw[cI]at hx;cases e:ns[i]? with |none=>rw[e]at hx;cases hx |some n=>exact⟨n,Z⟩
   cases zv hx en;have nb:=ok.bd n (gI en);have hi:i<ns.length:=(eh.mp en).1;have ab:iY n=(n.natAbs:Int):=Al n;have pb:=Q5 (k:=kk) (z:=n) au nb;have eA:2*kk*iY n=2*((kk*n).natAbs:Int):=by rw[ab,fY,Int.natCast_mul,vL,Int.natAbs_of_nonneg hk]
   refine⟨_,Z,_,_,Z,Z,.of_left (cm aA aA),_,Z,_,Z,_,_,Z,Z,.of_left (cm au au),_,Z,_,_,Z,Z,_,Z,_,_,Z,Z,.of_left (cm aA aA),_,_,Z,Z,⟨au,Me au⟩,?_⟩;have fn:=a8p (n:=n) hk (show(0:Int)<aM ns by lia);refine⟨_,Z,.inl ⟨Z,_,aH.of dl⟩,_,Z,_,Z,_,Z,bT Z,λc H4 n4=>?_⟩;refine⟨_,Z,_,_,Z,Z,.inr ⟨_,Z,?_⟩⟩;have QP:=n4.same _ _ dl;have zR:fP ([.int ((2*kk*iY n+(aM ns:Int))/(2*(aM ns:Int))),.int (-((2*kk*iY n+(aM ns:Int))/(2*(aM ns:Int))))]:List V) (if decide (n<0)=true then 1 else 0)=some (.int (iD (kk*n) (aM ns))):=by
    rw[<-fn];by_cases hn:n<0
    ·rw[bh (cP hn),bh hn];rfl
    ·rw[bf (λz=>hn (jL z)),bf hn];rfl
   refine .inl ⟨c,_,_,_,Z,Z,aH.of n4.at',zR,?_⟩;refine⟨l,_,_,Z,Z,QP,?_,?_⟩
   ·have:(1000:Nat)<sizeLine:=by decide
    rw[cx,oY,cx];lia
   refine⟨λb o e=>?_,aR.t (.qM QP) (SJ.go n4.same),?_,_,_,Z⟩
   ·rw[aO (fT e n2.no)];exact n4.same b o (s3 b o e)
   ·rw[bo,qH,cI,en,oX];rfl
  ·rintro O H3 ⟨s3,SJ,dl,v1,v2,rfl⟩
   rw[E7 (by simp)]at dl;refine⟨_,Z,l,_,Z,.inl ⟨aH.of dl,λt H4 n4=>?_⟩⟩;exact k _ _ (gA (aR.of n4.at') (u9 _)) (s1.trans (s3.trans n4.same))
end
end Lw
set_option maxHeartbeats 2000000
namespace Lw
open PySem PySem.Spec PyProof.Rows L2 Rt Ln Cn Pn Wk Rn
open Ow (topR cornO mnO betR atO ownF leadF ownL OkI OkIs)
section
variable {w:World} {mg:bJ} {ay:Heap}
theorem gr(h:n+64<cLine):n+1<cLine:=qG (Nat.add_le_add_left aA n) h
theorem cR{k:Nat}{ty:TE}(hr:cN k X.A)(ho:PE X o td)(hi:PE X i ty)(hs:Lo i:=by exact λ_ _=>rfl):PE X (.Subscript o i pos) (MM td ty):=a0Z (gr hr.units) ho hi hs
def bP(m p g s r t k q n b c re td:V):List (Key×V):=[(.inr "machine",m),(.inr "place",p),(.inr "goal",g),(.inr "square",s),(.inr "rate",r),(.inr "tool",t),(.inr "mark",k),(.inr "queue",q),(.inr "gone",n),(.inr "brake",b),(.inr "braked",c),(.inr "reach",re),(.inr "told",td)]
section
variable {H:Hp}{a:Addr}{m p g s r t k q n b c re td x:V}
theorem dg{v:V}(h:H a=some (.dK aQ))(e:gk aQ (.inr z)=some v):vt H a (.str z) (some v):=by rw[<-e];exact vt.k (k:=Sum.inr z) h
theorem dp{v:V}(h:H a=some (.dK aQ))(e:putK aQ (.inr z) v=RQ)(hl:aQ.length<=13):sR H a (.str z) v (L2.upd H a (.dK RQ)):=by rw[<-e];exact sR.k (k:=Sum.inr z) h (qG hl aA)
theorem zX:gk (bP m p g s r t k q n b c re td) (.inr "machine")=some m:=by kernel_rfl
theorem Tp:gk (bP m p g s r t k q n b c re td) (.inr "place")=some p:=by kernel_rfl
theorem JO:gk (bP m p g s r t k q n b c re td) (.inr "goal")=some g:=by kernel_rfl
theorem xC:gk (bP m p g s r t k q n b c re td) (.inr "square")=some s:=by kernel_rfl
theorem JN:gk (bP m p g s r t k q n b c re td) (.inr "rate")=some r:=by kernel_rfl
theorem a7V:gk (bP m p g s r t k q n b c re td) (.inr "tool")=some t:=by kernel_rfl
theorem a7W:gk (bP m p g s r t k q n b c re td) (.inr "mark")=some k:=by kernel_rfl
theorem mZ:gk (bP m p g s r t k q n b c re td) (.inr "queue")=some q:=by kernel_rfl
theorem CV:gk (bP m p g s r t k q n b c re td) (.inr "gone")=some n:=by kernel_rfl
theorem CW:gk (bP m p g s r t k q n b c re td) (.inr "brake")=some b:=by kernel_rfl
theorem Tq:gk (bP m p g s r t k q n b c re td) (.inr "braked")=some c:=by kernel_rfl
theorem Tn:gk (bP m p g s r t k q n b c re td) (.inr "reach")=some re:=by kernel_rfl
theorem JM:gk (bP m p g s r t k q n b c re td) (.inr "told")=some td:=by kernel_rfl
theorem a1i:putK (bP m p g s r t k q n b c re td) (.inr "place") x=bP m x g s r t k q n b c re td:=by kernel_rfl
theorem a1k:putK (bP m p g s r t k q n b c re td) (.inr "goal") x=bP m p x s r t k q n b c re td:=by kernel_rfl
theorem a1h:putK (bP m p g s r t k q n b c re td) (.inr "square") x=bP m p g x r t k q n b c re td:=by kernel_rfl
theorem a1g:putK (bP m p g s r t k q n b c re td) (.inr "tool") x=bP m p g s r x k q n b c re td:=by kernel_rfl
theorem a1j:putK (bP m p g s r t k q n b c re td) (.inr "mark") x=bP m p g s r t x q n b c re td:=by kernel_rfl
theorem Qh:putK (bP m p g s r t k q n b c re td) (.inr "gone") x=bP m p g s r t k q x b c re td:=by kernel_rfl
theorem a1l:putK (bP m p g s r t k q n b c re td) (.inr "braked") x=bP m p g s r t k q n b x re td:=by kernel_rfl
theorem BQ:putK (bP m p g s r t k q n b c re td) (.inr "reach") x=bP m p g s r t k q n b c x td:=by kernel_rfl
theorem lZ:(bP m p g s r t k q n b c re td).length<=13:=bK _
end
def y6(K:aa)(H:Hp)(bv cv:V):Rn.gG->Prop |none=>bv= .bB/\∃c,cv= .int c |some (sq,st,gn)=>∃a u,bv= .ref a/\aR K H a [u,.int st]/\bw K H u sq/\cv= .int gn
theorem y6.v{t:Rn.gG}(s:cj H H')(h:y6 K H bv cv t):y6 K H' bv cv t:=by cases t with |none=>exact h |some q=>obtain⟨sq,st,gn⟩:=q;obtain⟨a,u,rfl,h1,h2,h3⟩:=h;exact⟨a,u,Z,aR.v s h1,bw.v s h2,h3⟩
def DI(K:aa)(H:Hp)(M:bS)(S:bE)(rv:V):Prop:=rv= .bB\/bw K H rv (fQ M S)
theorem DI.v(s:cj H H')(h:DI K H M S rv):DI K H' M S rv:=h.imp id (bw.v s)
structure dj(K:aa)(H:Hp)(d q td:Addr)(M:bS)(S:bE):Prop where
 ob:∃mv lv gv sv bv cv rv,H d=some (.dK (bP mv lv gv sv (.int S.aB) (.str S.side) (.str S.mark) (.ref q) (.int S.dn) bv cv rv (.ref td)))/\RD K H mv M.D/\RD K H lv (g9 (fM S))/\RD K H gv (g9 (cL S))/\bw K H sv S.pc/\y6 K H bv cv S.ba/\DI K H M S rv
 qu:∃ys,H q=some (.lst ys)/\aJ K H ys S.ds
theorem dj.go(h:dj K H d q td M S)(hn:cS S.ds=true)(s:cj H H')(ea:∀o,H d=some o->H' d=some o)(eq:∀o,H q=some o->H' q=some o):dj K H' d q td M S:=by obtain⟨⟨mv,lv,gv,sv,bv,cv,rv,e,r1,r2,r3,r4,r5,r6⟩,ys,nj,rq⟩:=h;exact⟨⟨mv,lv,gv,sv,bv,cv,rv,ea _ e,RD.v s _ (jZ _ _ _ _ _) r1,RD.v s _ (jT _) r2,RD.v s _ (jT _) r3,r4.v s,r5.v s,r6.v s⟩,ys,eq _ nj,aJ.v s _ hn rq⟩
theorem dj.same(h:dj K H d q td M S)(hn:cS S.ds=true)(s:aF H H'):dj K H' d q td M S:=h.go hn s.v (λo e=>s _ _ e) (λo e=>s _ _ e)
theorem dj.ne(h:dj K H d q td M S):d≠q:=by obtain⟨⟨mv,lv,gv,sv,bv,cv,rv,e,_⟩,ys,nj,_⟩:=h;exact zo e nj (by intro z;cases z)
theorem dj.v(h:dj K H d q td M S)(b:bF [d,q] H H'):cj H H':=by
 obtain⟨⟨mv,lv,gv,sv,bv,cv,rv,e,_⟩,ys,nj,_⟩:=h;refine b.v λx hx o eo=>?_;simp only[bL,cE,dv]at hx;rcases hx with rfl|rfl
 ·rw[e]at eo;cases eo;trivial
 ·rw[nj]at eo;cases eo;trivial
inductive acq(K:aa)(vs:List V)(H:Hp)(Q:VK):Prop |mk (d:_)(q:_)(td:_)(M:_)(D:_)(S:_)(h0:vs=[.ref d])(h1:dj K H d q td M S)(h2:cF M D S)(h3:M.Ok)(h4:Q (.int (EJ M.f S.pc)) H)
def Nd(K:aa):Sp:=λvs H Q _=>acq K vs H Q
theorem O3:bG ["_law_sim_here","_law_each"] ["_law_sim_here"] (aZ Fz):=bQ aW
theorem a1T(F:FA K mg "_law_sim_stops" Fz)(B:bV mg):aI P w K mg ay "_law_sim_stops" 1 (Nd K):=by
 refine F.has O3 (λvs H Q E h=>?_) (λ_ _ _ _ _ _=>fH λ_=>rfl) (λf aP A outer s H vs Q E hr h=>?_)
 ·obtain⟨d,q,td,M,D,S,rfl,_⟩:=h
  rfl
 ·obtain⟨d,q,td,M,D,S,rfl,R,ok,aU,k⟩:=h
  obtain⟨mv,lv,gv,sv,bv,cv,rv,e,r1,r2,r3,⟨pa,rfl,uH⟩,r5,r6⟩:=R.ob;have nd:=O3.nd;have sf:=aU.f1;obtain⟨ma,mb,rfl,gf,iI⟩:=jY r1;have bd:Bd 1600 S.pc:=(ok.pd.bd (fg ok.pm aW)).mono (by have:=ok.D2;lia);have hd:0<2*M.f*(S.pc.den:Int):=j7 au (den_pos S.pc);have wd:Wd (2*M.f*(S.pc.den:Int)):=by
   refine iq (n:=1700) ?_ aA;rw[fY];have h1:(2*M.f).natAbs<2^7:=by lia
   have:=lC h1 bd.den;exact gz this (tE aA aA)
  refine⟨_,(aE (pS 1 nd (aG bM (aG bM aD (px K (cR hr (pv 0) aV) aD)) (px K (cR hr (pv 0) aV) aD))) (aL (aX (aG mI (aG gc (aG dc (px K (cR hr (pv 0) aV) aD) (pv 1)) aD) (pv 1))))),?_⟩;refine⟨_,Z,d,_,Z,dg e zX,.inr ⟨ma,_,2,.int M.f,Z,Z,gf,Z,_,_,Z,Z,.of_left (cm aA aA),?_⟩⟩;refine⟨_,Z,d,_,Z,dg e xC,.inr ⟨pa,_,1,_,Z,Z,uH,Z,_,_,Z,Z,.of_left (cm au au),?_⟩⟩;refine⟨_,Z,d,_,Z,dg e xC,.inr ⟨pa,_,0,_,Z,Z,uH,Z,_,Z,_,_,Z,Z,_,_,Z,Z,_,Z,_,_,Z,Z,⟨hd,wd⟩,?_⟩⟩;exact k
theorem qv{v:V}(h:H a=some (.dK aQ))(hl:aQ.length<=n)(hn:n<=13):sR H a (.str z) v (L2.upd H a (.dK (putK aQ (.inr z) v)))/\(putK aQ (.inr z) v).length<=n+1:=⟨sR.k (k:=Sum.inr z) h (qG (gM hl hn) aA),gM (Cg _ _ _) (Nat.succ_le_succ hl)⟩
theorem YG:putK (putK (putK (putK (putK (putK (putK (putK (putK (rF [] [(Sum.inr "machine",mv),(.inr "place",lv),(.inr "goal",lv),(.inr "square",s)]) (.inr "rate") (.int 100)) (.inr "tool") (.str "up")) (.inr "mark") (.str "")) (.inr "queue") q') (.inr "gone") (.int 0)) (.inr "brake") .bB) (.inr "braked") (.int 0)) (.inr "reach") .bB) (.inr "told") t'=bP mv lv lv s (.int 100) (.str "up") (.str "") q' (.int 0) .bB (.int 0) .bB t':=by kernel_rfl
theorem YH:(rF [] [(Sum.inr "machine",mv),(.inr "place",lv),(.inr "goal",lv),(.inr "square",s)]).length<=4:=by rw[show rF [] [(Sum.inr "machine",mv),(.inr "place",lv),(.inr "goal",lv),(.inr "square",s)]=([(.inr "machine",mv),(.inr "place",lv),(.inr "goal",lv),(.inr "square",s)]:List (Key×V)) by kernel_rfl];exact bK _
inductive acn(K:aa)(vs:List V)(H:Hp)(Q:VK):Prop |mk (mv:_)(lv:_)(M:_)(pl:_)(h0:vs=[mv,lv])(h1:RD K H mv (bS.D M))(h2:RD K H lv (g9 pl))(h3:∀d q td H',dj K H' d q td M (nM pl)->H' td=some (.lst [])->H d=none->H q=none->H td=none->d≠td->q≠td->aF H H'->Q (.ref d) H')
def Nb(K:aa):Sp:=λvs H Q _=>acn K vs H Q
theorem O1:bG ["_law_machine_here","_law_place_here","_law_sim_here"] ["_law_machine_here","_law_place_here"] (aZ Fx):=bQ aW
theorem a1W(F:FA K mg "_law_sim" Fx)(B:bV mg):aI P w K mg ay "_law_sim" 1 (Nb K):=by
 refine F.has O1 (λvs H Q E h=>?_) (λ_ _ _ _ _ _=>dJ λ_ _=>rfl) (λf aP A outer s H vs Q E hr h=>?_)
 ·obtain⟨mv,lv,M,pl,rfl,_⟩:=h
  rfl
 ·obtain⟨mv,lv,M,pl,rfl,rm,rl,k⟩:=h
  have nd:=O1.nd;refine⟨_,(aE (pS 2 nd (a0Y (BM aV (pv 0) (BM aV (pv 1) (BM aV (pv 1) (BM aV (ck (ao aD (ao aD az))) a0z)))) Z Z (by simp) aA)) (aE (iB (gr hr.units) (pv 2) aV aD Z) (aE (iB (gr hr.units) (pv 2) aV aV Z) (aE (iB (gr hr.units) (pv 2) aV aV Z) (aE (iB (gr hr.units) (pv 2) aV (cK az) Z) (aE (iB (gr hr.units) (pv 2) aV aD Z) (aE (iB (gr hr.units) (pv 2) aV jV Z) (aE (iB (gr hr.units) (pv 2) aV aD Z) (aE (iB (gr hr.units) (pv 2) aV jV Z) (aE (iB (gr hr.units) (pv 2) aV (cK az) Z) (aL (aX (pv 2))))))))))))),λd nU=>?_⟩;refine⟨_,Z,_,Z,_,Z,bT Z,λt H1 n1=>?_⟩;have td:t≠d:=λz=>by have:=n1.no;rw[z,bo]at this;cases this
  have e1:=n1.same _ _ (bo (a:=d) (o:=HO.dK []));refine⟨e1,[(.inr "machine",mv),(.inr "place",lv),(.inr "goal",lv),(.inr "square",.ref t)],Z,(by show 4<=15;decide),?_⟩;obtain⟨d1,l1⟩:=qv (z:="rate") (v:=.int 100) (H:=L2.upd H1 d _) (a:=d) bo YH aA;refine⟨_,Z,d,_,Z,d1,?_⟩;obtain⟨d2,l2⟩:=qv (z:="tool") (v:=.str "up") (a:=d) bo l1 aA;refine⟨_,Z,d,_,Z,d2,?_⟩;obtain⟨d3,l3⟩:=qv (z:="mark") (v:=.str "") (a:=d) bo l2 aA;refine⟨_,Z,d,_,Z,d3,?_⟩;refine⟨gy _,λq H2 n2=>?_⟩;obtain⟨d4,l4⟩:=qv (z:="queue") (v:=.ref q) (a:=d) (n2.same _ _ bo) l3 aA;refine⟨_,Z,d,_,Z,d4,?_⟩;obtain⟨d5,l5⟩:=qv (z:="gone") (v:=.int 0) (a:=d) bo l4 aA;refine⟨_,Z,d,_,Z,d5,?_⟩;obtain⟨d6,l6⟩:=qv (z:="brake") (v:=.bB) (a:=d) bo l5 aA;refine⟨_,Z,d,_,Z,d6,?_⟩;obtain⟨d7,l7⟩:=qv (z:="braked") (v:=.int 0) (a:=d) bo l6 aA;refine⟨_,Z,d,_,Z,d7,?_⟩;obtain⟨d8,l8⟩:=qv (z:="reach") (v:=.bB) (a:=d) bo l7 aA;refine⟨_,Z,d,_,Z,d8,?_⟩;refine⟨gy _,λtl H3 n3=>?_⟩;obtain⟨d9,l9⟩:=qv (z:="told") (v:=.ref tl) (a:=d) (n3.same _ _ bo) l8 aA;refine⟨_,Z,d,_,Z,d9,_,Z,?_⟩;rw[YG];have s1:∀b o,H b=some o->H1 b=some o:=λb o eb=>n1.same _ _ (by rw[aO (fT eb nU)];exact eb);have sU:∀{X:Hp}{o':HO},(∀b o,H b=some o->X b=some o)->∀b o,H b=some o->(L2.upd X d o') b=some o:=λh b o eb=>by rw[aO (fT eb nU)];exact h b o eb
  have s2:∀b o,H b=some o->H2 b=some o:=λb o eb=>n2.same _ _ (sU (sU (sU (sU s1))) b o eb);have s3:∀b o,H b=some o->H3 b=some o:=λb o eb=>n3.same _ _ (sU (sU (sU (sU (sU s2)))) b o eb);have s4:aF H (L2.upd H3 d (.dK (bP mv lv lv (.ref t) (.int 100) (.str "up") (.str "") (.ref q) (.int 0) .bB (.int 0) .bB (.ref tl)))):=λb o eb=>sU s3 b o eb;have nu:∀{X:Hp}{o':HO}{y:Addr},(L2.upd X d o') y=none->y≠d/\X y=none:=λ{X o' y} h=>by
   have hy:y≠d:=λz=>by rw[z,bo]at h;cases h
   exact⟨hy,by rw[aO hy]at h;exact h⟩
  have no:∀{X:Hp}{y:Addr},(∀b o,H b=some o->X b=some o)->X y=none->H y=none:=λ{X y} h hy=>by cases e:H y with |none=>rfl |some o=>rw[h y o e]at hy;cases hy
  obtain⟨qd,q0⟩:=nu n2.no;have q1:=(nu (nu (nu q0).2).2).2;obtain⟨MD,t0⟩:=nu n3.no;have t1:=(nu (nu (nu (nu t0).2).2).2).2;have qt:q≠tl:=λz=>by rw[<-z,n2.at']at t1;cases t1
  have ht:∀{X:Hp},X t=some (.tup [.int 0,.int 1])->(L2.upd X d (.dK (bP mv lv lv (.ref t) (.int 100) (.str "up") (.str "") (.ref q) (.int 0) .bB (.int 0) .bB (.ref tl)))) t=some (.tup [.int 0,.int 1]):=λh=>by rw[aO td];exact h
  refine k d q tl _ ⟨⟨mv,lv,lv,.ref t,.bB,.int 0,.bB,bo,RD.mono s4 _ rm,?_,?_,⟨t,Z,?_⟩,⟨Z,_,Z⟩,.inl Z⟩,[],?_,cU⟩ ?_ nU (no s1 q1) (no s2 t1) MD.symm qt s4
  ·exact RD.mono s4 _ rl
  ·exact RD.mono s4 _ rl
  ·refine aR.of (ht (n3.same _ _ ?_))
   rw[aO td,aO td,aO td,aO td,aO td];refine n2.same _ _ ?_;rw[aO td,aO td,aO td,aO td];exact n1.at'
  ·rw[aO qd]
   refine n3.same _ _ ?_;rw[aO qd,aO qd,aO qd,aO qd,aO qd];exact n2.at'
  ·rw[aO MD];exact n3.at'
theorem UP{D:Addr}(hp:aR K H pa (pl.map V.int))(hb:aR K H b (ns.map V.int))(ln:ns.length=pl.length)(hz:pl.length<=1000)(n1:Nw H H1 D (.lst [])) (ht:∀(x y:Int)(H:Hp)(Q:VK),Q (.int (x+y)) H->te [some (.int x),some (.int y)] H Q)(k:∀H2,aF H H2->H2 D=some (.lst ((gj pl ns).map V.int))->Q (.ref D) H2):j6 (ny K false false pa b) (qi K 2 (kh (fo 0) (kh (fo 1) rZ))) ir te Q D [none,none] H1:=by
 refine vh (K:=K) (b1:=false) (b2:=false) (xs:=pl.map V.int) (ys:=ns.map V.int) (ds:=(gj pl ns).map PyData.int) [] rfl hp hb n1 (by simp[sM ln,ln]) (by rw[cx,sM ln];exact hz) (lj _) ?_ ?_
 ·intro i x y d H2 Q' ex ey ed s2 hq
  obtain⟨m,em,rfl⟩:=mR ed;rw[cI]at ex ey;cases e1:pl[i]? with |none=>rw[e1]at ex;cases ex |some u=>cases e2:ns[i]? with |none=>rw[e2]at ey;cases ey |some v=>rw[e1]at ex;rw[e2]at ey;cases ex;cases ey;rw[Lf e1 e2]at em;cases em;exact ht _ _ _ _ (hq _ _ (aF.refl _) (dU _))
 ·intro H2 zs s2 d2 r2
  rw[r2.ja]at d2;exact k H2 s2 d2
theorem aau{D:Addr}(hp:aR K H pa (pl.map V.int))(hb:aR K H b (rs.map V.int))(ln:pl.length=rs.length)(hz:pl.length<=1000)(n1:Nw H H1 D (.lst [])) (ht:∀(x y:Int)(H:Hp)(Q:VK),Q (.bl (decide (0<=x)&&decide (x<=y))) H->te [some (.int x),some (.int y)] H Q)(k:∀(H2:Hp)(bs:List Bool),aF H H2->H2 D=some (.lst (bs.map V.bl))->bs.all id=iS rs pl->Q (.ref D) H2):j6 (ny K false false pa b) (qi K 2 (kh (fo 0) (kh (fo 1) rZ))) ir te Q D [none,none] H1:=by
 refine UM (K:=K) (b1:=false) (b2:=false) (xs:=pl.map V.int) (ys:=rs.map V.int) (bs:=(pl.zip rs).map λp=>decide (0<=p.1)&&decide (p.1<=p.2)) [] rfl hp hb n1 (by simp) (by simp;lia) (λi x y b' H2 Q' ex ey eb s2 hq=>?_) (λH2 s2 d2=>?_)
 ·rw[cI]at ex ey
  cases e1:pl[i]? with |none=>rw[e1]at ex;cases ex |some u=>cases e2:rs[i]? with |none=>rw[e2]at ey;cases ey |some v=>rw[e1]at ex;rw[e2]at ey;cases ex;cases ey;rw[cI,AR.mpr (show pl[i]? =some (u,v).1/\rs[i]? =some (u,v).2 from⟨e1,e2⟩)]at eb;cases eb;exact ht _ _ _ _ (hq _ (aF.refl _))
 ·exact k H2 _ s2 d2 (by unfold iS;rw[LX];rfl)
theorem Te(S:bE)(d:ai)(o:Itm):cL (ml S d o)=fO (cL S) o:=by unfold cL ml;rw[List.foldl_append];rfl
theorem a0E{D:Nat}(h:cF M D S)(d:ai)(o:Itm):fM (ml S d o)=fM S:=by
 unfold fM;by_cases h0:S.dn=0
 ·rw[bh h0,bh (show(ml S d o).dn=0 from h0)];rfl
 ·obtain⟨ns,sp,eo,_⟩:=h.first h0
  rw[bf h0,bf (show¬(ml S d o).dn=0 from h0),eo];have e2:(ml S d o).os[0]? =some (some (ns,sp)):=by show(S.os++[o])[0]? =_;rw[yj (eh.mp eo).1];exact eo
  rw[e2];rfl
inductive acu(K:aa)(vs:List V)(H:Hp)(Q:VK):Prop |mk (d:_)(q:_)(td:_)(M:_)(D:_)(S:_)(v:_)(it:_)(o:_)(h0:vs=[.ref d,v])(h1:dj K H d q td M S)(h2:cF M D S)(h3:M.Ok)(h4:RD K H v it)(h5:lQ M.rs.length it o)(h6:(iS M.rs (fO (cL S) o)=false->∀H',aF H H'->Q (.str ("rails "++Str.ofString (toString (S.ds.length:Int)))) H'))(h7:(iS M.rs (fO (cL S) o)=true->S.ds.length=20->∀H',aF H H'->Q (.str "full") H'))(h8:(iS M.rs (fO (cL S) o)=true->S.ds.length<20->∀H',dj K H' d q td M (ml S it o)->bF [d,q] H H'->Q (.int (S.ds.length+1:Nat)) H'))
def Nh(K:aa):Sp:=λvs H Q _=>acu K vs H Q
theorem O6:bG ["_law_sim_here","_law_item","_law_goal"] ["_law_sim_here","_law_item"] (aZ FE):=bQ aW
theorem a1X(F:FA K mg "_law_sim_feed" FE)(B:bV mg):aI P w K mg ay "_law_sim_feed" 1 (Nh K):=by
 refine F.has O6 (λvs H Q E h=>?_) (λ_ _ _ _ _ _=>dJ λ_ _=>rfl) (λf aP A outer s H vs Q E hr h=>?_)
 ·obtain⟨d,q,td,M,D,S,v,it,o,rfl,_⟩:=h
  rfl
 ·obtain⟨d,q,td,M,D,S,v,it,o,rfl,R,ok,aU,rv,zF,k1,k2,k3⟩:=h
  obtain⟨mv,lv,gv,sv,bv,cv,re,e,r1,r2,r3,r4,r5,r6⟩:=R.ob;obtain⟨ys,eq,rq⟩:=R.qu;have dq:=R.ne;have nd:=O6.nd;have ly:=rq.length;have wZ:=ok.len;have IK:=aU.len;have gl:(cL S).length=M.rs.length:=A1 _ _ ok.pl ok.uj;have bl:(fO (cL S) o).length=M.rs.length:=Ai gl λns sp eo=>(zF.ln ns sp eo).1.len;obtain⟨ma,mb,rfl,gf,iI⟩:=jY r1;refine⟨_,(aE (pS 2 nd (cR hr (pv 0) aV)) (aE (hJ (bR (cu (cY K Z hr.units) (px K (pv 1) aD) aV (bI _)) (aL (pS 2 nd (gQ (x:="tuple") (kX K Z) Z (B.at "tuple") fW (ao (gB (N:=["_law_stand_here","_law_step"]) (js:=[none,none]) rfl rfl rfl (jU K rfl false false rfl (B.at "zip") (ao (pv 2) (ao (px K (pv 1) aD) az))) (λ_ _ _ _ _=>(eG K rfl (n:=2) rfl (bZ (bp 0 (fF aA)) (bZ (bp 1 (fF aA)) eu)))) (λ_ _ _ _ _=>fL) (λ_ _ _ _ _=>(aG dc (pv 0) (pv 1)))) az)))) bU)) (aE (bR (fD (cV (dM (x:="all") (qy K Z Z) Z (B.at "all") tD (ao (gB (N:=["_law_stand_here","_law_rail"]) (js:=[none,none]) rfl rfl rfl (jU K rfl false false rfl (B.at "zip") (ao (pv 2) (ao (px K (cR hr (pv 0) aV) aD) az))) (λ_ _ _ _ _=>(eG K rfl (n:=2) rfl (bZ (bp 0 (fF aA)) (bZ (bp 1 (fF aA)) eu)))) (λ_ _ _ _ _=>fL) (λ_ _ _ _ _=>(Qf wF wF aD (pv 0) (pv 1)))) az)))) (aL (aX (aG Qv aV (gQ (x:="str") V4 Z (B.at "str") oU (ao (eL K B (ao (cR hr (pv 0) aV) az)) az))))) bU) (aE (bR (cu (cY K Z hr.units) (eL K B (ao (cR hr (pv 0) aV) az)) aD (bI _)) (aL (aX aV)) bU) (aE (iB (gr hr.units) (pv 0) aV (pv 2) Z) (aE (iB (gr hr.units) (pv 0) aV jV Z) (aE (iA (jW K Z (cR hr (pv 0) aV) (ao (pv 1) az))) (aL (aX (eL K B (ao (cR hr (pv 0) aV) az))))))))))),?_⟩;refine⟨_,Z,d,_,Z,dg e JO,?_⟩;refine⟨λO H1=>∃ga,O=[some (.ref d),some v,some (.ref ga)]/\aR K H1 ga ((fO (cL S) o).map V.int)/\aF H H1,?_,?_⟩
  ·obtain⟨a,wd,zs,rfl,ha,ew,sw⟩:=xf rv zF.it
   refine⟨_,Z,.inr ⟨a,_,0,.str wd,Z,Z,ha,dC (gO 0) Z,.inr ⟨_,_,cM _,cM _,sw,aW,?_⟩⟩⟩;rw[ew];refine⟨_,Z,?_⟩;cases o with |none=>obtain⟨ga,rfl,hg⟩:=uf r3;exact bN ⟨ga,Z,hg,aF.refl _⟩ |some z=>
    obtain⟨ns,sp⟩:=z;refine cg ?_;have ed:=kM zF.it;subst ed;obtain⟨a',b,ea,SR,hb⟩:=m8 rv;cases ea;obtain⟨ga,rfl,hg⟩:=uf r3;have ln:ns.length=(cL S).length:=by rw[gl];exact(zF.ln ns sp Z).1.len
    refine⟨_,Z,_,Z,.inr ⟨a,_,1,.ref b,Z,Z,SR,Z,ga,b,Z,⟨_,hg⟩,⟨_,hb⟩,λD1 H1 n1=>?_⟩⟩;refine UP hg hb ln au n1 (λx y H Q h=>⟨_,Z,_,Z,_,_,Z,Z,h⟩) λH2 s2 d2=>?_;refine⟨D1,_,Z,.inl ⟨aH.of d2,λt H3 n3=>?_⟩⟩;exact⟨t,Z,aR.of n3.at',s2.trans n3.same⟩
  ·rintro O H1 ⟨ga,rfl,hg,s1⟩
   have e1:=s1 _ _ e;refine⟨_,Z,_,Z,d,_,Z,dg e1 zX,.inr ⟨ma,_,0,.ref mb,Z,Z,gf.go s1,Z,ga,mb,Z,⟨_,hg⟩,⟨_,iI.go s1⟩,λD1 H2 n2=>?_⟩⟩;refine aau hg (iI.go s1) bl au n2 (λx y H Q h=>?_) λH3 bs s3 d3 eb=>?_
   ·refine⟨_,Z,_,_,Z,Z,_,Z,?_⟩
    refine eQ (λh0=>?_) (λh0=>?_)
    ·rw[h0,kE]at h
     exact⟨_,Z,_,_,Z,Z,h⟩
    ·rw[yk.mpr h0,kU]at h
     exact h
   refine⟨D1,_,Z,aH.of d3,?_⟩;rw[eb];refine⟨_,Z,?_⟩;have dw:=s1.trans s3;have e3:=dw _ _ e;have eq3:=dw _ _ eq;have kg:sizeLine=16777216:=by decide
   cases ho:iS M.rs (fO (cL S) o)with
   |false=>
    refine cg ?_;refine⟨_,Z,d,_,Z,dg e3 mZ,q,_,Z,.inl (aH.of eq3),.inl ⟨_,Z,?_,?_⟩⟩
    ·have:ys.length<=20:=by lia
     exact Ry (by show(ys.length:Int).natAbs<10^40;lia)
    ·have el:((ys.length:Nat):Int)=(S.ds.length:Int):=by rw[ly]
     refine⟨_,_,Z,Z,?_,?_⟩
     ·rw[el]
      have e6:Str.length "rails "=6:=by decide+kernel
      have:(Str.ofString (toString (S.ds.length:Int))).length<=41:=Mx au
      lia
     ·rw[el];exact k1 ho H3 dw |true=>
    refine bN ?_;refine⟨_,Z,d,_,Z,dg e3 mZ,q,_,Z,.inl (aH.of eq3),.inl ⟨_,_,Z,Z,_,Z,?_⟩⟩;refine eQ (λrX=>?_) (λrX=>?_)
    ·have rX:((ys.length:Nat):Int)=20:=jL rX
     exact k2 ho au H3 dw
    ·have rX:¬((ys.length:Nat):Int)=20:=λz=>rX (cP z)
     refine⟨_,Z,_,Z,d,_,Z,dp e3 a1k lZ,?_⟩;refine⟨_,Z,d,_,Z,dp bo BQ lZ,?_⟩;have U9:∀{X:Hp}{o':HO},X q=some (.lst ys)->(L2.upd X d o') q=some (.lst ys):=λh=>by rw[aO dq.symm];exact h
     have eq5:=U9 (o':=.dK (bP (.ref ma) lv (.ref ga) sv (.int S.aB) (.str S.side) (.str S.mark) (.ref q) (.int S.dn) bv cv .bB (.ref td))) (U9 (o':=.dK (bP (.ref ma) lv (.ref ga) sv (.int S.aB) (.str S.side) (.str S.mark) (.ref q) (.int S.dn) bv cv re (.ref td))) eq3);refine⟨_,Z,d,_,Z,dg bo mZ,.inl ⟨Z,_,aH.of eq5⟩,_,Z,q,ys,_,Z,Z,eq5,au,?_⟩;have key:∀X:Hp,(∀b,b≠d->X b=H3 b)->X d=some (.dK (bP (.ref ma) lv (.ref ga) sv (.int S.aB) (.str S.side) (.str S.mark) (.ref q) (.int S.dn) bv cv .bB (.ref td)))->Q (.int (S.ds.length+1:Nat)) (L2.upd X q (.lst (ys++[v]))):=by
      intro X hX eX;have b3:bF [d,q] H (L2.upd X q (.lst (ys++[v]))):=λb o' eb hb=>by have hd:b≠d:=λz=>hb (by rw[z];simp);have hq:b≠q:=λz=>hb (by rw[z];simp);rw[aO hq,hX b hd];exact dw _ _ eb
      have v0:=R.v b3;have v3:cj H1 (L2.upd X q (.lst (ys++[v]))):=λb o' nb eb=>by
       have hd:b≠d:=λz=>by rw[z,e1]at eb;cases eb;exact nb trivial
       have hq:b≠q:=λz=>by rw[z,s1 _ _ eq]at eb;cases eb;exact nb trivial
       rw[aO hq,hX b hd];exact s3 _ _ eb
      have iv:=zF.it.no;refine k3 ho au _ ⟨⟨.ref ma,lv,.ref ga,sv,bv,cv,.bB,by rw[aO dq];exact eX,RD.v v0 _ (jZ _ _ _ _ _) r1,?_,?_,r4.v v0,r5.v v0,.inl Z⟩,ys++[v],bo,?_⟩ b3
      ·rw[a0E ok];exact RD.v v0 _ (jT _) r2
      ·rw[Te];exact wy (aR.v v3 hg)
      ·exact(aJ.v v0 _ ok.row.no rq).append (bW (RD.v v0 _ iv rv) cU)
     refine⟨_,Z,d,_,Z,dg (by rw[aO dq];exact bo) mZ,q,_,Z,.inl (aH.of bo),?_⟩;rw[fC,List.length_singleton,ly];exact key _ (λb hb=>by rw[aO hb,aO hb]) bo
theorem yl{z:Int}(h:z.natAbs<2^24):Bd 100 (z:Rat):=⟨by rw[Rat.num_intCast];exact LN h aA,by rw[Rat.den_intCast];decide⟩
theorem yV(h:aR K H a [.int z,.int 1]):bw K H (.ref a) (z:Rat):=by refine⟨a,Z,?_⟩;rw[Rat.num_intCast,Rat.den_intCast];exact h
theorem a4q(dl:H l=some (.lst [u1,u2]))(R1:bw K H u1 x)(R2:bw K H u2 y)(b1:Bd 2000 x)(b2:Bd 2000 y)(k:∀v,bw K H v (mn x y)->Q v H):jy K [.ref l] H Q E0:=by
 refine⟨l,[u1,u2],[x,y],Z,aH.of dl,⟨R1,b1,R2,b2,trivial⟩,by simp,λc v q e1 e2 hq=>k v ?_⟩;have e:mn x y=q:=by
  refine nV ?_ (hq _ (by simp)) (hq _ (by simp))
  match c,e2 with |0,e2=>cases e2;exact .inl rfl |1,e2=>cases e2;exact .inr rfl
 rw[e]
 match c,e1,e2 with |0,e1,e2=>cases e1;cases e2;exact R1 |1,e1,e2=>cases e1;cases e2;exact R2
inductive acs(K:aa)(vs:List V)(H:Hp)(Q:VK):Prop |mk (d:_)(q:_)(td:_)(M:_)(D:_)(S:_)(h0:vs=[.ref d])(h1:dj K H d q td M S)(h2:cF M D S)(h3:M.Ok)(h4:S.os≠[])(h5:∀v H',bw K H' v (fQ M S)->aF H H'->Q v H')
def Ng(K:aa):Sp:=λvs H Q _=>acs K vs H Q
theorem O5:bG ["_law_sim_here","_law_machine_here","_law_items","_law_bounds_here","_law_reach_here","_law_border"] ["_law_sim_here"] (aZ FD):=bQ aW
theorem a1V(F:FA K mg "_law_reach" FD)(B:bV mg)(a7D:aI P w K mg ay "_law_bounds" 3 (NB K))(xy:aI P w K mg ay "_law_sum" 2 (nO (·+·) K))(rV:aI P w K mg ay "_law_lead" 1 (lY K))(uS:aI P w K mg ay "_law_min" 2 (jy K)):aI P w K mg ay "_law_reach" 4 (Ng K):=by
 refine F.has O5 (λvs H Q E h=>?_) (λ_ _ _ _ _ _=>fH λ_=>rfl) (λfa aP A outer s H vs Q E hr h=>?_)
 ·obtain⟨d,q,td,M,D,S,rfl,_⟩:=h
  rfl
 ·obtain⟨d,q,td,M,D,S,rfl,R,ok,aU,dP,k⟩:=h
  obtain⟨mv,lv,gv,sv,bv,cv,re,e,r1,r2,r3,r4,r5,r6⟩:=R.ob;obtain⟨ys,eq,rq⟩:=R.qu;have nd:=O5.nd;have ly:=rq.length;have wZ:=ok.len;have ll:=ok.row.len;have uG:1<=S.os.length:=by cases e:S.os with|nil=>exact(dP e).elim|cons _ _=>simp
  have sf:=aU.f1;have IK:=aU.len;have hB:=Ow.Ia aU.j1.1 aU.j1.2 ok.dR ok.ek ok.row.wH;have hN:=Ow.Qn M.j S.aB S.os;have h0:=Ow.HV M.j S.aB S.os S.os.length rfl;have hL:∀i m,leadF S.os i=some m->(2*M.f*(m:Int)).natAbs<2^24:=λi m e=>Mq aU.f1.1 aU.f1.2 (RM ok.row.wH e);have FB:∀i,i<=S.os.length->Bd 1700 (fl S.os.length (leadF S.os) (2*M.f) (ownF M.j S.aB S.os) i):=λi hi=>(Tz (λi _=>hB i) hL i hi).mono au;have FN:=a8g (n:=S.os.length) (L:=leadF S.os) (f:=2*M.f) (g:=ownF M.j S.aB S.os) au (λi _=>hN i);obtain⟨ma,mb,rfl,gf,iI⟩:=jY r1;refine⟨_,(aE (pG (i:=1) (j:=2) Z nd Z Z aA Z Z (ao (cR hr (pv 0) aV) (ao (cR hr (pv 0) aV) az)) Z) (aE (pS 3 nd (pf a7D hr (ao (pv 1) (ao (pv 2) (ao (cR hr (pv 0) aV) az))))) (aE (pS 4 nd (ck (ao aD (ao aD az)))) (aE (m6 ip Z (a0L Z (B.at "range") (ao (aG gc (eL K B (ao (pv 2) az)) aD) (ao aD (ao (wA vO aD) az)))) (bp 5 nd) (aE (hJ (bR (cu (cY K Z hr.units) (px K (px K (pv 2) (pv 5)) aD) aV (bI _)) (aL (pS 4 nd (pf xy hr (ao (pv 4) (ao (ck (ao (aG bM (aG bM aD (px K (pv 1) aD)) (pf rV hr (ao (px K (pv 2) (pv 5)) az))) (ao aD az))) az))))) bU)) (aL (pS 4 nd (pf uS hr (ao (cK (ao (pv 4) (ao (px K (pv 3) (pv 5)) az))) az)))))) (aL (aX (pv 4))))))),?_⟩;refine⟨_,Z,d,_,Z,dg e zX,_,Z,d,_,Z,dg e mZ,_,_,Z,?_⟩;refine⟨_,Z,_,Z,_,Z,d,_,Z,dg e JN,?_⟩;refine⟨.ref ma,.ref q,S.aB,M.rs,M.r,M.f,M.j,M.t,S.ds,S.os,Z,r1,aU,jS (aH.of eq) rq,ok.row,au,ok.dR,ok.ek,λl zs H1 nl dl rz s1=>?_⟩;refine⟨bT Z,λt H2 n2=>?_⟩;have s2:=s1.trans n2.same;refine⟨_,Z,q,_,Z,.inl (aH.of (s2 _ _ eq)),_,_,Z,Z,_,Z,_,_,Z,⟨au,au,aA,aA⟩,?_⟩;have eN:((ys.length:Int)-1-0).toNat=S.os.length-1:=by lia
  rw[eN];have rz:aJ K H1 zs ((lst S.os.length (ownF M.j S.aB S.os)).map da):=rz;have lz:=rz.length;rw[cx,rH]at lz;refine a8c (Pv:=λi O H5=>aF H2 H5/\∃v w5,bw K H5 v (fl S.os.length (leadF S.os) (2*M.f) (ownF M.j S.aB S.os) (S.os.length-i))/\O=[some (.ref d),some (.ref ma),some (.ref q),some (.ref l),some v,w5]) ?_ ?_ ?_
  ·refine⟨aF.refl _,.ref t,none,?_,Z⟩
   rw[Nat.sub_zero,xE,h0];exact⟨t,Z,aR.of n2.at'⟩
  ·rintro i O H5 xo ⟨s5,v,w5,rv,rfl⟩
   obtain⟨c,hc⟩:∃c,S.os.length-1-i=c:=⟨_,Z⟩;have mh:c<S.os.length:=by lia
   have eI:((ys.length:Int)-1-(i:Int))=(c:Int):=by lia
   rw[eI];have tX:=s2.trans s5;have Ki:S.os.length-i=c+1:=by lia
   rw[Ki]at rv;obtain⟨x,hx⟩:∃x,ys[c]? =some x:=⟨_,cn (show c<ys.length by lia)⟩;obtain⟨dd,ed,rd⟩:=rq.get' c hx;obtain⟨o,eo,it⟩:=ok.row.get ed;have Ak:fP ys (c:Int)=some x:=dC au (by simpa using hx);obtain⟨z0,A7⟩:∃z,zs[c]? =some z:=⟨_,cn (show c<zs.length by lia)⟩;have R0:bw K H1 z0 (ownF M.j S.aB S.os c):=by obtain⟨d1,e1,r1'⟩:=rz.get' c A7;rw[cI,rJ _ (show c<=S.os.length by lia)]at e1;cases e1;exact nR r1'
   have KZ:fP zs (c:Int)=some z0:=dC au (by simpa using A7);have eq5:=tX _ _ eq;obtain⟨a,wd,yw,rfl,h1,ew,sw⟩:=xf (RD.mono tX _ rd) it;have ei:S.os.length-(i+1)=c:=by lia
   refine⟨λO H6=>aF H5 H6/\∃v' x',bw K H6 v' x'/\Bd 2000 x'/\mn x' (ownF M.j S.aB S.os c)=fl S.os.length (leadF S.os) (2*M.f) (ownF M.j S.aB S.os) c/\O=[some (.ref d),some (.ref ma),some (.ref q),some (.ref l),some v',some (.int c)],?_,?_⟩
   ·refine⟨_,Z,_,Z,.inl ⟨q,_,_,_,Z,Z,aH.of eq5,Ak,.inr ⟨a,_,0,.str wd,Z,Z,h1,dC (gO 0) Z,.inr ⟨_,_,cM _,cM _,sw,uy,_,Z,?_⟩⟩⟩⟩
    rw[ew];cases o with |none=>
     refine bN ⟨aF.refl _,v,_,rv,(FB (c+1) au).mono aA,?_,Z⟩;have hz:ownF M.j S.aB S.os c=0:=by cases c with |zero=>rfl |succ c'=>show betR M.j S.aB (atO S.os c') (atO S.os (c'+1))=0;rw[Ow.qx eo,Ow.Dw]
     rw[xD mh (RL eo),hz];exact nV (.inr Z) (FN (c+1) au) (tm) |some z=>obtain⟨ns,sp⟩:=z;refine cg ?_;have lN:=kM it;subst lN;obtain⟨fu,_,_⟩:=ok.row.ok c ns sp eo;have us:=hL c _ (Ck eo);refine⟨_,Z,_,Z,.inr ⟨ma,_,2,.int M.f,Z,Z,gf.go tX,Z,_,_,Z,Z,.of_left (cm aA aA),?_⟩⟩;refine⟨_,Z,_,Z,.inl ⟨q,_,_,_,Z,Z,aH.of eq5,Ak,?_⟩⟩;refine⟨_,ns,sp,Z,RD.mono tX _ rd,fu.ne,by rw[fu.len];lia,λH6 s6=>?_⟩;refine⟨_,_,Z,Z,.of_left (cm au au),?_⟩;refine⟨bT Z,λtq H7 n7=>?_⟩;refine⟨v,.ref tq,_,_,Z,(rv.go s6).go n7.same,yV (aR.of n7.at'),(FB (c+1) au).mono aA,(yl us).mono aA,λu H8 ru s8=>?_⟩;refine⟨s6.trans (n7.same.trans s8),u,_,ru,(DB (FB (c+1) au) us).mono aA,?_,Z⟩;rw[xF mh (Ck eo)];exact nV ((zt _ _).symm.imp id id) (kL _ _) (gJ _ _)
   ·rintro O H6 ⟨s6,v',x',cQ,bx,ex,rfl⟩
    have kH:=n2.same.trans (s5.trans s6);refine⟨_,Z,_,Z,_,Z,.inl ⟨l,_,_,_,Z,Z,aH.of (kH _ _ dl),KZ,?_⟩⟩;refine⟨bT Z,λl2 H7 n7=>?_⟩;refine a4q n7.at' (cQ.go n7.same) (R0.go (kH.trans n7.same)) bx ((hB c).mono aA) λu ru=>?_;refine⟨s5.trans (s6.trans n7.same),u,_,?_,Z⟩;rw[ei,<-ex];exact ru
  ·rintro O H5 ⟨s5,v,w5,rv,rfl⟩
   have e1:S.os.length-(S.os.length-1)=1:=by lia
   rw[e1]at rv;exact⟨_,Z,k v H5 rv (s2.trans s5)⟩
theorem abx(h:ns.length=pl.length)(k:Nat):gj (gj pl (iP ns k)) (iy ns k)=gj pl (iP ns (k+1)):=by
 apply tH;intro i;unfold gj iP iy;simp only[Eb,cI];cases pl[i]? <;>cases ns[i]? <;>simp
 lia
theorem abw(h:ns.length=pl.length)(hq:0<aM ns):gj pl (iP ns 0)=pl:=by
 apply tH;intro i;unfold gj iP;simp only[Eb,cI];by_cases hi:i<pl.length
 ·rw[cn hi,cn (show i<ns.length by lia)]
  simp[Ir (show(0:Int)<(aM ns:Int) by lia)]
 ·rw[lV au]
theorem Yn(hq:0<aM ns):iP ns (aM ns)=ns:=by
 unfold iP;have:(λz=>iD ((aM ns:Int)*z) (aM ns:Int))=λz=>z:=by funext z;exact a3p au
 rw[this,List.map_id']
theorem a0F(eo:S.os[0]? =some (some (ns,sp)))(h:ns.length=S.pl.length)(hq:0<aM ns):fM S=gj S.pl (iP ns S.dn):=by
 unfold fM;by_cases h0:S.dn=0
 ·rw[bh h0,h0];exact(abw h hq).symm
 ·rw[bf h0,eo]
theorem a0D(eo:S.os[0]? =some (some (ns,sp)))(h:ns.length=S.pl.length)(hq:0<aM ns)(hd:S.dn<aM ns):gj (fM S) (iy ns S.dn)=fM (fS ns (fU M S ns sp)):=by
 rw[a0F eo h hq,abx h];unfold fS;by_cases he:S.dn+1=aM ns
 ·rw[bh (show(fU M S ns sp).dn=aM ns from he)]
  obtain⟨gb,iJ⟩:∃gb,S.os=some (ns,sp)::gb:=by cases e:S.os with |nil=>rw[e]at eo;simp at eo |cons a r=>rw[e]at eo;cases eo;exact⟨r,rfl⟩
  have e1:((S.dn:Int)+1)=(aM ns:Int):=by lia
  rw[e1,Yn hq];unfold fM jb;have:(fU M S ns sp).os=some (ns,sp)::gb:=iJ;rw[this];rfl
 ·rw[bf (show¬(fU M S ns sp).dn=aM ns from he)]
  unfold fM;rw[bf (show¬(fU M S ns sp).dn=0 from Nat.succ_ne_zero _)];have:(fU M S ns sp).os[0]? =some (some (ns,sp)):=eo;rw[this];show _=gj S.pl (iP ns ((S.dn+1:Nat):Int));rfl
theorem Tb(eo:S.os[0]? =some (some (ns,sp))):cL (fS ns (fU M S ns sp))=cL S:=by
 unfold fS;split
 ·obtain⟨gb,iJ⟩:∃gb,S.os=some (ns,sp)::gb:=by cases e:S.os with |nil=>rw[e]at eo;simp at eo |cons a r=>rw[e]at eo;cases eo;exact⟨r,rfl⟩
  unfold cL jb;have:(fU M S ns sp).os=some (ns,sp)::gb:=iJ;rw[this,iJ];rfl
 ·rfl
theorem R5(a b c:Rat):mn (mn b a) c=mn (mn a b) c:=by rw[QY b a]
theorem QZ(a b c d:Rat):mn (mn (mn b a) c) d=mn (mn (mn a b) c) d:=by rw[QY b a]
theorem Tw(hb:b≠0):Rat.divInt (sq.num*a) ((sq.den:Int)*b)=sq*Rat.divInt a b:=by
 conv=>rhs;rw[<-tj sq]
 rw[Wf]
end
end Lw
set_option maxHeartbeats 4000000
namespace Lw
open PySem PySem.Spec PyProof.Rows L2 Rt Ln Cn Pn Wk Rn
open Ow (topR cornO mnO betR atO ownF leadF ownL OkI OkIs)
section
variable {w:World} {mg:bJ} {ay:Heap}
theorem aas{D:Addr}(hp:aR K H pa (xs.map V.int))(hb:aR K H b (ys.map V.int))(ln:ys.length=xs.length)(hz:xs.length<=1000)(n1:Nw H H1 D (.lst [])) (ht:∀(x y:Int)(H:Hp)(Q:VK),Q (.int (y-x)) H->te [some (.int x),some (.int y)] H Q)(k:∀H2,aF H H2->H2 D=some (.lst ((List.zipWith (λx y=>y-x) xs ys).map V.int))->Q (.ref D) H2):j6 (ny K false false pa b) (qi K 2 (kh (fo 0) (kh (fo 1) rZ))) ir te Q D [none,none] H1:=by
 refine vh (K:=K) (b1:=false) (b2:=false) (xs:=xs.map V.int) (ys:=ys.map V.int) (ds:=(List.zipWith (λx y=>y-x) xs ys).map PyData.int) [] rfl hp hb n1 (by simp[ln]) (by rw[cx,List.length_zipWith];lia) (lj _) ?_ ?_
 ·intro i x y d H2 Q' ex ey ed s2 hq
  obtain⟨m,em,rfl⟩:=mR ed;rw[cI]at ex ey;cases e1:xs[i]? with |none=>rw[e1]at ex;cases ex |some u=>cases e2:ys[i]? with |none=>rw[e2]at ey;cases ey |some v=>rw[e1]at ex;rw[e2]at ey;cases ex;cases ey;rw[Eb,e1,e2]at em;cases em;exact ht _ _ _ _ (hq _ _ (aF.refl _) (dU _))
 ·intro H2 zs s2 d2 r2
  rw[r2.ja]at d2;exact k H2 s2 d2
theorem ZC(ns:List Int)(k:Nat):List.zipWith (λx y=>y-x) (iP ns (k:Int)) (iP ns ((k:Int)+1))=iy ns k:=by apply tH;intro i;unfold iP iy;simp only[Eb,cI];cases ns[i]? <;>simp
theorem U5(h:aJ K H ys ds):aJ K H (ys.eraseIdx 0) ds.tail:=by have:=h.drop 1;rw[List.drop_one,List.drop_one]at this;rw[List.eraseIdx_zero];exact this
theorem Q7{D:Nat}(ok:cF M D S):(fM S).length=M.rs.length:=by
 unfold fM;split
 ·exact ok.pl
 ·split
  ·next ns sp eo=>rw[sM (by rw[ok.pl];simp[iP];exact(ok.row.ok 0 ns sp eo).1.len)];exact ok.pl
  ·exact ok.pl
inductive acr(K:aa)(vs:List V)(H:Hp)(Q:VK):Prop |mk (d:_)(q:_)(td:_)(M:_)(D:_)(S:_)(ns:_)(sp:_)(h0:vs=[.ref d])(h1:dj K H d q td M S)(h2:cF M D S)(h3:M.Ok)(h4:S.os[0]? =some (some (ns,sp)))(h5:¬Halt S.pc S.ba)(h6:∀v H',RD K H' v (nY M S ns sp)->dj K H' d q td M (fS ns (fU M S ns sp))->bF [d,q] H H'->Q v H')
def Nf(K:aa):Sp:=λvs H Q _=>acr K vs H Q
theorem O4:bG ["_law_sim_here","_law_machine_here","_law_line_here","_law_w","_law_rest","_law_reach_here","_law_tops","_law_square","_law_behind","_law_start","_law_many","_law_more","_law_row"] ["_law_sim_here"] (aZ FC):=bQ aW
theorem a1U(F:FA K mg "_law_sim_step" FC)(B:bV mg)(rV:aI P w K mg ay "_law_lead" 1 (lY K))(a7w:aI P w K mg ay "_law_reach" 4 (Ng K))(CO:aI P w K mg ay "_law_top" 2 (EN K))(xy:aI P w K mg ay "_law_sum" 2 (nO (·+·) K))(rW:aI P w K mg ay "_law_frac" 1 (yH K))(SU:aI P w K mg ay "_law_stand" 2 (N9 K))(uS:aI P w K mg ay "_law_min" 2 (jy K))(a7p:aI P w K mg ay "_law_ticks" 1 (N7 K)):aI P w K mg ay "_law_sim_step" 5 (Nf K):=by
 refine F.has O4 (λvs H Q E h=>?_) (λ_ _ _ _ _ _=>fH λ_=>rfl) (λfa aP A outer s H vs Q E hr h=>?_)
 ·obtain⟨d,q,td,M,D,S,ns,sp,rfl,_⟩:=h
  rfl
 ·obtain⟨d,q,td,M,D,S,ns,sp,rfl,R,ok,aU,eo,nh,k⟩:=h
  obtain⟨mv,lv,gv,sv,bv,cv,rv,e,r1,r2,r3,r4,r5,r6⟩:=R.ob;obtain⟨ys,eq,rq⟩:=R.qu;have dq:=R.ne;have nd:=O4.nd;have ll:=ok.row.len;have wZ:=ok.len;have IK:=aU.len;have D1:=ok.D1;have D2:=ok.D2;have BK:=aU.r1;have sf:=aU.f1;have pW:0<S.os.length:=(eh.mp eo).1;have dP:S.os≠[]:=λz=>by rw[z]at pW;simp at pW
  obtain⟨dd,ed⟩:∃dd,S.ds[0]? =some dd:=⟨_,cn (show 0<S.ds.length by lia)⟩;obtain⟨y,ey,ry⟩:=rq.get 0 ed;have lN:=kM (ok.row.it 0 dd _ ed eo);subst lN;obtain⟨fu,gP,iu⟩:=ok.row.ok 0 ns sp eo;have RP:=zA fu;have fN:=fu.lead.1;have hd:S.dn<aM ns:=by
   rcases ok.dn with z|⟨zh,yK,e1,e2⟩
   ·rw[z];exact fN
   ·rw[eo]at e1;cases e1;exact e2
  obtain⟨Rd,Rl⟩:=Ht ok.raw aU dP;have MC:=Ey S.aB sp;have tl:=Bh gP iu ok.dR ok.ek;obtain⟨ma,mb,rfl,gf,iI⟩:=jY r1;refine⟨_,(aE (pG (i:=1) (j:=2) Z nd Z Z aA Z Z (ao (cR hr (pv 0) aV) (ao (px K (cR hr (pv 0) aV) aD) az)) Z) (aE (pS 3 nd (cR hr (pv 0) aV)) (aE (pS 4 nd (aG gc (pf rV hr (ao (pv 2) az)) (cR hr (pv 0) aV))) (aE (hJ (bR (cu a1s (cR hr (pv 0) aV) jV (bI _)) (aL (iB (gr hr.units) (pv 0) aV (pf a7w hr (ao (pv 0) az)) Z)) bU)) (aE (pS 5 nd (cR hr (pv 0) aV)) (aE (pS 6 nd (cK (ao (pf CO hr (ao (pv 2) (ao (cR hr (pv 0) aV) az))) az))) (aE (pS 7 nd (aG (ku K Z) (pv 6) (cK (ao (pf xy hr (ao (pv 3) (ao (ck (ao (px K (pv 1) aD) (ao aD az))) az))) (ao (pf xy hr (ao (pv 5) (ao (ck (ao (aG bM (px K (pv 1) aD) (aG gc (aG bM aD (pv 4)) aD)) (ao aD az))) az))) az))))) (aE (pS 8 nd (aG (ku K Z) (pv 6) (cK (ao (pf xy hr (ao (pv 3) (ao (ck (ao (aG bM aD (px K (pv 1) aD)) (ao aD az))) az))) (ao (pf xy hr (ao (pv 5) (ao (ck (ao (aG bM (aG bM aD (px K (pv 1) aD)) (aG gc (pv 4) aD)) (ao aD az))) az))) az))))) (aE (hJ (bR (cu zb (cR hr (pv 0) aV) jV (bI _)) (aE (fZ (cR hr (pv 0) aV) (eG K Z (n:=2) Z (bZ (bp 9 nd) (bZ (bp 10 nd) eu)))) (aE (iB (gr hr.units) (pv 0) aV (aG dc (cR hr (pv 0) aV) aD) Z) (aE (pS 11 nd (aG gc (pv 10) (cR hr (pv 0) aV))) (aE (iA (jW K Z (pv 7) (ao (pf rW hr (ao (aG bM (px K (pv 9) aD) (aG dc (aG bM aD (pv 11)) aD)) (ao (aG bM (aG bM (px K (pv 9) aD) aD) (pv 10)) az))) az))) (aL (iA (jW K Z (pv 8) (ao (pf rW hr (ao (aG bM (px K (pv 9) aD) (pv 11)) (ao (aG bM (px K (pv 9) aD) (pv 10)) az))) az)))))))) bU)) (aE (pS 12 nd (gQ (x:="tuple") (kX K Z) Z (B.at "tuple") fW (ao (gB (N:=["_law_a","_law_b"]) (js:=[none,none]) rfl rfl rfl (jU K rfl false false rfl (B.at "zip") (ao (pf SU hr (ao (pv 2) (ao (cR hr (pv 0) aV) az))) (ao (pf SU hr (ao (pv 2) (ao (aG dc (cR hr (pv 0) aV) aD) az))) az))) (λ_ _ _ _ _=>(eG K rfl (n:=2) rfl (bZ (bp 0 (fF aA)) (bZ (bp 1 (fF aA)) eu)))) (λ_ _ _ _ _=>fL) (λ_ _ _ _ _=>(aG gc (pv 1) (pv 0)))) az))) (aE (iB (gr hr.units) (pv 0) aV (gQ (x:="tuple") (kX K Z) Z (B.at "tuple") fW (ao (gB (N:=["_law_stand_here","_law_step"]) (js:=[none,none]) rfl rfl rfl (jU K rfl false false rfl (B.at "zip") (ao (cR hr (pv 0) aV) (ao (pv 12) az))) (λ_ _ _ _ _=>(eG K rfl (n:=2) rfl (bZ (bp 0 (fF aA)) (bZ (bp 1 (fF aA)) eu)))) (λ_ _ _ _ _=>fL) (λ_ _ _ _ _=>(aG dc (pv 0) (pv 1)))) az)) rfl) (aE (iB (gr hr.units) (pv 0) aV (pf uS hr (ao (pv 8) az)) Z) (aE (iB (gr hr.units) (pv 0) aV (aG dc (cR hr (pv 0) aV) aD) Z) (aE (hJ (bR (cu (cY K Z hr.units) (pv 4) aD (bI _)) (aE (iA (Qg K Z (cR hr (pv 0) aV) (ao aD az))) (aE (iB (gr hr.units) (pv 0) aV aD Z) (aL (iB (gr hr.units) (pv 0) aV jV Z)))) bU)) (aE (pS 7 nd (pf uS hr (ao (pv 7) az))) (aL (aX (ck (ao aV (ao (pv 12) (ao (pf a7p hr (ao (pv 1) (ao (pv 7) az))) (ao (pv 7) az)))))))))))))))))))))),?_⟩;refine⟨_,Z,d,_,Z,dg e zX,_,Z,d,_,Z,dg e mZ,.inl ⟨q,_,0,y,Z,Z,aH.of eq,dC (gO 0) ey,_,_,Z,?_⟩⟩;refine⟨_,Z,d,_,Z,dg e xC,?_⟩;refine⟨_,Z,y,ns,sp,Z,ry,fu.ne,by rw[fu.len];lia,λH1 s1=>?_⟩;refine⟨_,Z,d,_,Z,dg (s1 _ _ e) CV,_,_,Z,Z,?_⟩;refine⟨λO H2=>∃cQ w5 w6 w7 w8 w9 kW p7 Bb,O=[some (.ref d),some (.ref ma),some y,some sv,some (.int ((aM ns:Int)-S.dn)),w5,w6,w7,w8,w9,kW,p7,Bb]/\bF [d] H H2/\H2 d=some (.dK (bP (.ref ma) lv gv sv (.int S.aB) (.str S.side) (.str S.mark) (.ref q) (.int S.dn) bv cv cQ (.ref td)))/\bw K H2 cQ (fQ M S),?_,?_⟩
  ·refine⟨_,Z,d,_,Z,dg (s1 _ _ e) Tn,Z,_,Z,?_⟩
   rcases r6 with rfl|r6
   ·refine cg ?_
    refine⟨_,Z,d,q,td,M,D,S,Z,R.same ok.row.no s1,ok,aU,dP,λv H2 r2' s2=>?_⟩;have e2:=s2 _ _ (s1 _ _ e);refine⟨_,Z,d,_,Z,dp e2 BQ lZ,?_⟩;have v2:cj H2 (L2.upd H2 d (.dK (bP (.ref ma) lv gv sv (.int S.aB) (.str S.side) (.str S.mark) (.ref q) (.int S.dn) bv cv v (.ref td)))):=.upd e2 trivial;refine⟨v,_,_,_,_,_,_,_,_,Z,λb o eb hb=>?_,bo,r2'.v v2⟩;have qh:b≠d:=λz=>hb (by rw[z];exact .head _);rw[aO qh];exact s2 _ _ (s1 _ _ eb)
   ·obtain⟨ra,rfl,hra⟩:=r6
    refine bN ⟨_,_,_,_,_,_,_,_,_,Z,.of s1,s1 _ _ e,ra,Z,hra.go s1⟩
  ·rintro O H2 ⟨cQ,w5,w6,w7,w8,w9,kW,p7,Bb,rfl,Jt⟩
   have b2:=Jt.1;have e2:=Jt.2.1;have rR:=Jt.2.2;have v2:cj H H2:=b2.v λx hx o' dh=>by rw[cH]at hx;rw[hx,e]at dh;cases dh;trivial
   have R0:=r4.v v2;have Zk:=RD.v v2 _ (IS ns sp) ry;have CF:=aR.v v2 gf;have l1:1<=(aM ns:Int)-S.dn:=by lia
   obtain⟨left,el⟩:∃left,(aM ns:Int)-S.dn=left:=⟨_,Z⟩;have l2:left<=100:=by lia
   rw[el]at l1⊢;have kg:(2:Int)^24=16777216:=by decide
   have fl1:(M.f*(2*left-1)).natAbs<=50*200:=by rw[fY];exact mF au au
   have JU:0<=M.f*(2*left-1):=jN au au;have fl2:(2*M.f*(left-1)).natAbs<=100*100:=by rw[fY];exact mF au au
   have JT:0<=2*M.f*(left-1):=jN au au;have za:Bd 2000 S.pc:=(ok.pd.bd (fg ok.pm aW)).mono au;have RB:Bd 2000 (fQ M S):=(Rd.bd (fg Rl aW)).mono aA;have tB:Bd 2000 (topR S.aB sp):=(MC.bd (fg tl aW)).mono aA;have B1:Bd 2000 (S.pc+(M.r:Rat)):=sF ok.pd ok.pm au au au;have B2:Bd 2000 (fQ M S+((M.f*(2*left-1):Int):Rat)):=sF Rd Rl JU au au;have B3:Bd 2000 (S.pc+((2*M.r:Int):Rat)):=sF ok.pd ok.pm au au au;have B4:Bd 2000 (fQ M S+((2*M.f*(left-1):Int):Rat)):=sF Rd Rl JT au au;refine⟨_,Z,d,_,Z,dg e2 Tn,?_⟩;refine⟨_,Z,_,Z,d,_,Z,dg e2 JN,y,ns,sp,S.aB,Z,Zk,gP,iu,ok.dR,ok.ek,λtv H3 rt s3=>?_⟩;have rt:bw K H3 tv (topR S.aB sp):=rt;refine⟨bT Z,λlt H4 n4=>?_⟩;have pD:=s3.trans n4.same;refine⟨_,Z,_,Z,_,Z,.inr ⟨ma,_,1,.int M.r,Z,Z,CF.go pD,Z,bT Z,λt5 H5 n5=>?_⟩⟩;refine⟨sv,.ref t5,_,_,Z,(R0.go pD).go n5.same,yV (aR.of n5.at'),za,(yl au).mono aA,λu1 H6 lb s6=>?_⟩;have Pe:=pD.trans (n5.same.trans s6);refine⟨_,Z,_,Z,.inr ⟨ma,_,2,.int M.f,Z,Z,CF.go Pe,Z,_,Z,_,_,Z,Z,.of_left (cm aA aA),_,_,Z,Z,_,_,Z,Z,.of_left (cm au au),bT Z,λt7 H7 n7=>?_⟩⟩;refine⟨cQ,.ref t7,_,_,Z,(rR.go Pe).go n7.same,yV (aR.of n7.at'),RB,(yl au).mono aA,λu2 H8 u6 s8=>?_⟩;refine⟨bT Z,λl9 H9 n9=>?_⟩;have GY:=(n5.same.trans s6).trans ((n7.same.trans s8).trans n9.same);refine⟨lt,l9,_,_,Z,Z,aH.of (GY _ _ n4.at'),aH.of n9.at',by show 3<=sizeLine;decide,λlm jc lB=>?_⟩;have Ha:=GY.trans lB.same;have yO:=pD.trans Ha;refine⟨_,Z,_,Z,_,Z,.inr ⟨ma,_,1,.int M.r,Z,Z,CF.go yO,Z,_,_,Z,Z,.of_left (cm aA aA),bT Z,λY9 iL iT=>?_⟩⟩;refine⟨sv,.ref Y9,_,_,Z,(R0.go yO).go iT.same,yV (aR.of iT.at'),za,(yl au).mono aA,λu3 oS Hf jR=>?_⟩;have Pg:=yO.trans (iT.same.trans jR);refine⟨_,Z,_,Z,.inr ⟨ma,_,2,.int M.f,Z,Z,CF.go Pg,Z,_,_,Z,Z,.of_left (cm aA aA),_,Z,_,_,Z,Z,_,_,Z,Z,.of_left (cm au au),bT Z,λY7 Lv C4=>?_⟩⟩;refine⟨cQ,.ref Y7,_,_,Z,(rR.go Pg).go C4.same,yV (aR.of C4.at'),RB,(yl au).mono aA,λu4 W6 He gm=>?_⟩;refine⟨bT Z,λl15 H15 C3=>?_⟩;have BF:=(iT.same.trans jR).trans ((C4.same.trans gm).trans C3.same);refine⟨lt,l15,_,_,Z,Z,aH.of ((Ha.trans BF) _ _ n4.at'),aH.of C3.at',by show 3<=sizeLine;decide,λle lR uw=>?_⟩;have yP:=BF.trans uw.same;have BE:=yO.trans yP;have uZ:=BE _ _ e2;have DD:=rt.go (n4.same.trans (Ha.trans yP));have U1:=lb.go ((n7.same.trans s8).trans (n9.same.trans (lB.same.trans yP)));have U2:=u6.go (n9.same.trans (lB.same.trans yP));have U3:=Hf.go ((C4.same.trans gm).trans (C3.same.trans uw.same));have U4:=He.go (C3.same.trans uw.same);have dm:lR lm=some (.lst [tv,u1,u2]):=yP _ _ lB.at';have de:lR le=some (.lst [tv,u3,u4]):=uw.at';have Pc:=pD.trans GY;have Pf:=yO.trans BF;have xO:d≠lm:=λz=>by have:=lB.no;rw[<-z,Pc _ _ e2]at this;cases this
   have Dk:d≠le:=λz=>by have:=uw.no;rw[<-z,Pf _ _ e2]at this;cases this
   have zx:lm≠le:=λz=>by have:=uw.no;rw[<-z,BF _ _ lB.at']at this;cases this
   have BX:H lm=none:=by cases e':H lm with |none=>rfl |some o=>have:=Pc _ _ (b2 _ _ e' (by rw[cH];exact xO.symm));rw[lB.no]at this;cases this
   have zl:H le=none:=by cases e':H le with |none=>rfl |some o=>have:=Pf _ _ (b2 _ _ e' (by rw[cH];exact Dk.symm));rw[uw.no]at this;cases this
   have Ml:cj H lR:=v2.trans BE.v;refine⟨λO HA=>∃fy w9 kW p7 Bb um ue,O=[some (.ref d),some (.ref ma),some y,some sv,some (.int left),some cQ,some (.ref lt),some (.ref lm),some (.ref le),w9,kW,p7,Bb]/\bF [d,lm,le] lR HA/\HA d=some (.dK (bP (.ref ma) lv gv sv (.int S.aB) (.str S.side) (.str S.mark) (.ref q) (.int S.dn) bv fy cQ (.ref td)))/\y6 K HA bv fy (BV S.ba)/\HA lm=some (.lst um)/\HA le=some (.lst ue)/\(∀H8 Q',cj HA H8->H8 lm=some (.lst um)->(∀v,bw K H8 v (m7 M.r M.f S.pc (topR S.aB sp) (fQ M S) left S.ba)->Q' v H8)->jy K [.ref lm] H8 Q' E0)/\(∀H8 Q',cj HA H8->H8 le=some (.lst ue)->(∀v,bw K H8 v (pN M.r M.f S.pc (topR S.aB sp) (fQ M S) left S.ba)->Q' v H8)->jy K [.ref le] H8 Q' E0),?_,?_⟩
   ·refine⟨_,Z,d,_,Z,dg uZ CW,Z,_,Z,?_⟩
    cases hs:S.ba with |none=>
     have m4:=r5.v Ml;rw[hs]at m4;have a0j:=m4;obtain⟨rfl,_⟩:=m4;refine bN ⟨cv,_,_,_,_,_,_,Z,bF.refl _ _,uZ,a0j,dm,de,λH8 Q' sV d8 kq=>Cj d8 (DD.v sV) (U1.v sV) (U2.v sV) tB B1 B2 λv rv=>kq v ?_,λH8 Q' sV d8 kq=>Cj d8 (DD.v sV) (U3.v sV) (U4.v sV) tB B3 B4 λv rv=>kq v ?_⟩
     ·rw[R5]at rv;exact rv
     ·rw[R5]at rv;exact rv |some z=>
     obtain⟨sq,st,gn⟩:=z;have m4:=r5.v Ml;rw[hs]at m4;have sk:=ok.ba;rw[hs]at sk nh;obtain⟨g1,g2,g3⟩:=wK sk ok.pd.nn nh;obtain⟨gn0,gn1,Bo,tS,tR,_,_⟩:=sk;obtain⟨ta,su,rfl,xi,⟨sa,rfl,Sj⟩,rfl⟩:=m4;refine cg ?_;have Bp:Bd 2000 sq:=(tS.bd tR).mono au;refine⟨_,Z,d,_,Z,dg uZ CW,ta,_,Z,xi,Z,_,_,Z,_,_,Z,Z,?_⟩;refine⟨_,Z,d,_,Z,dg uZ Tq,_,_,Z,Z,_,Z,d,_,Z,dp uZ a1l lZ,?_⟩;refine⟨_,Z,_,Z,d,_,Z,dg bo Tq,_,_,Z,Z,?_⟩;have vA:cj lR (L2.upd lR d (.dK (bP (.ref ma) lv gv sv (.int S.aB) (.str S.side) (.str S.mark) (.ref q) (.int S.dn) (.ref ta) (.int (gn+1)) cQ (.ref td)))):=.upd uZ trivial;have xN:(L2.upd lR d (.dK (bP (.ref ma) lv gv sv (.int S.aB) (.str S.side) (.str S.mark) (.ref q) (.int S.dn) (.ref ta) (.int (gn+1)) cQ (.ref td)))) lm=some (.lst [tv,u1,u2]):=by rw[aO xO.symm];exact dm
     have Dm:(L2.upd lR d (.dK (bP (.ref ma) lv gv sv (.int S.aB) (.str S.side) (.str S.mark) (.ref q) (.int S.dn) (.ref ta) (.int (gn+1)) cQ (.ref td)))) le=some (.lst [tv,u3,u4]):=by rw[aO Dk.symm];exact de
     have eA:(L2.upd lR d (.dK (bP (.ref ma) lv gv sv (.int S.aB) (.str S.side) (.str S.mark) (.ref q) (.int S.dn) (.ref ta) (.int (gn+1)) cQ (.ref td)))) d=some (.dK (bP (.ref ma) lv gv sv (.int S.aB) (.str S.side) (.str S.mark) (.ref q) (.int S.dn) (.ref ta) (.int (gn+1)) cQ (.ref td))):=bo;have bA:∀b o,b≠d->lR b=some o->(L2.upd lR d (.dK (bP (.ref ma) lv gv sv (.int S.aB) (.str S.side) (.str S.mark) (.ref q) (.int S.dn) (.ref ta) (.int (gn+1)) cQ (.ref td)))) b=some o:=λb o hb eb=>by rw[aO hb];exact eb
     generalize L2.upd lR d (.dK (bP (.ref ma) lv gv sv (.int S.aB) (.str S.side) (.str S.mark) (.ref q) (.int S.dn) (.ref ta) (.int (gn+1)) cQ (.ref td)))=HA at vA xN Dm eA bA⊢;have Je:=aR.v vA Sj;have Jw:=den_pos sq;have dW:∀z:Int,0<z->z<=2000->0<(sq.den:Int)*z/\Wd ((sq.den:Int)*z):=λz h1 h2=>by refine⟨j7 Jw h1,iq (n:=2011) ?_ aA⟩;rw[fY];exact lC Bp.den (show z.natAbs<2^11 by lia)
     have kg:sizeLine=16777216:=by decide
     refine⟨_,Z,.inl ⟨Z,_,aH.of xN⟩,_,Z,.inr ⟨sa,_,0,_,Z,Z,Je,Z,_,Z,_,_,Z,Z,.of_left (cm aA aA),_,_,Z,Z,_,_,Z,Z,.of_right (cm au au),?_⟩⟩;refine⟨_,Z,.inr ⟨sa,_,1,_,Z,Z,Je,Z,_,_,Z,Z,.of_right (cm aA aA),_,Z,_,_,Z,Z,.of_right (cm au au),?_⟩⟩;have W1:=dW (2*st) au au;rw[<-vL]at W1;refine⟨_,_,Z,W1.1,W1.2,λx1 HB yS sB=>?_⟩;have sj:Rat.divInt (sq.num*(2*(st-(gn+1))+1)) ((sq.den:Int)*2*st)=sq*Rat.divInt (2*(st-gn-1)+1) (2*st):=by rw[vL,Tw (show(2*st:Int)≠0 by lia),show st-(gn+1)=st-gn-1 by lia]
     have D7:Rat.divInt (sq.num*(st-(gn+1))) ((sq.den:Int)*st)=sq*Rat.divInt (st-gn-1) st:=by rw[Tw (show(st:Int)≠0 by lia),show st-(gn+1)=st-gn-1 by lia]
     have yS:bw K HB x1 (sq*Rat.divInt (2*(st-gn-1)+1) (2*st)):=by rw[<-sj];exact yS
     have pB:Bd 2000 (sq*Rat.divInt (2*(st-gn-1)+1) (2*st)):=((tS.bd tR).mul (kK (n:=12) au au au)).mono au;have HU:Bd 2000 (sq*Rat.divInt (st-gn-1) st):=((tS.bd tR).mul (kK (n:=12) au au au)).mono au;have Uq:=sB _ _ xN;refine⟨lm,_,_,Z,Z,Uq,by show 3<sizeLine;lia,?_⟩;have vC:cj HB (L2.upd HB lm (.lst ([tv,u1,u2]++[x1]))):=.upd Uq trivial;have Kt:(L2.upd HB lm (.lst ([tv,u1,u2]++[x1]))) le=some (.lst [tv,u3,u4]):=by rw[aO zx.symm];exact sB _ _ Dm
     have Up:(L2.upd HB lm (.lst ([tv,u1,u2]++[x1]))) lm=some (.lst [tv,u1,u2,x1]):=bo;have eC:(L2.upd HB lm (.lst ([tv,u1,u2]++[x1]))) d=some (.dK (bP (.ref ma) lv gv sv (.int S.aB) (.str S.side) (.str S.mark) (.ref q) (.int S.dn) (.ref ta) (.int (gn+1)) cQ (.ref td))):=by rw[aO xO];exact sB _ _ eA
     have bC:∀b o,b≠lm->HB b=some o->(L2.upd HB lm (.lst ([tv,u1,u2]++[x1]))) b=some o:=λb o hb eb=>by rw[aO hb];exact eb
     generalize L2.upd HB lm (.lst ([tv,u1,u2]++[x1]))=HC at vC Kt Up eC bC⊢;have Sk:=aR.v vC (Je.go sB);refine⟨_,Z,.inl ⟨Z,_,aH.of Kt⟩,_,Z,.inr ⟨sa,_,0,_,Z,Z,Sk,Z,_,Z,_,_,Z,Z,.of_right (cm au au),?_⟩⟩;refine⟨_,Z,.inr ⟨sa,_,1,_,Z,Z,Sk,Z,_,Z,_,_,Z,Z,.of_right (cm au au),?_⟩⟩;have W2:=dW st au au;refine⟨_,_,Z,W2.1,W2.2,λx2 HD yR sD=>?_⟩;have yR:bw K HD x2 (sq*Rat.divInt (st-gn-1) st):=by rw[<-D7];exact yR
     have UC:=sD _ _ Kt;refine⟨le,_,_,Z,Z,UC,by show 3<sizeLine;lia,?_⟩;have vE:cj HD (L2.upd HD le (.lst ([tv,u3,u4]++[x2]))):=.upd UC trivial;have X3:=sB.v.trans vC;have Mm:=sD.v.trans vE;have qK:=vA.trans (X3.trans Mm);refine⟨.int (gn+1),_,_,_,_,[tv,u1,u2,x1],[tv,u3,u4,x2],Z,λb o' eb hb=>?_,?_,⟨ta,.ref sa,Z,aR.v qK xi,⟨sa,Z,aR.v qK Sj⟩,Z⟩,?_,bo,λH' Q' sV d' kq=>?_,λH' Q' sV d' kq=>?_⟩
     ·have ha:b≠d:=λz=>hb (by rw[z];simp)
      have Jq:b≠lm:=λz=>hb (by rw[z];simp);have hle:b≠le:=λz=>hb (by rw[z];simp);rw[aO hle];exact sD _ _ (bC _ _ Jq (sB _ _ (bA _ _ ha eb)))
     ·rw[aO Dk];exact sD _ _ eC
     ·rw[aO zx];exact sD _ _ Up
     ·refine Ci d' ((DD.v qK).v sV) ((U1.v qK).v sV) ((U2.v qK).v sV) (((yS.v vC).v Mm).v sV) tB B1 B2 pB λv rv=>kq v ?_
      rw[QZ]at rv;exact rv
     ·refine Ci d' ((DD.v qK).v sV) ((U3.v qK).v sV) ((U4.v qK).v sV) ((yR.v vE).v sV) tB B3 B4 HU λv rv=>kq v ?_
      rw[QZ]at rv;exact rv
   ·rintro O HA ⟨fy,w9,kW,p7,aec,um,ue,rfl,uN⟩
    have bt:=uN.1;have eA:=uN.2.1;have MW:=uN.2.2.1;have xN:=uN.2.2.2.1;have Dm:=uN.2.2.2.2.1;have km:=uN.2.2.2.2.2.1;have ke:=uN.2.2.2.2.2.2;have Dy:bF [d] H HA:=λb o' eb hb=>by
     have ha:b≠d:=λz=>hb (by rw[z];simp);refine bt b o' (BE _ _ (b2 _ _ eb hb)) λhm=>?_;simp only[bL,cE,dv]at hm;rcases hm with h|h|h
     ·exact ha h
     ·rw[h,BX]at eb;cases eb
     ·rw[h,zl]at eb;cases eb
    have En:cj H HA:=Dy.v λx hx o' dh=>by rw[cH]at hx;rw[hx,e]at dh;cases dh;trivial
    have Xa:cj lR HA:=bt.v λx hx o' dh=>by
     simp only[bL,cE,dv]at hx;rcases hx with h|h|h
     ·rw[h,uZ]at dh;cases dh;trivial
     ·rw[h,dm]at dh;cases dh;trivial
     ·rw[h,de]at dh;cases dh;trivial
    have rRA:bw K HA cQ (fQ M S):=(rR.go BE).v Xa;have Pk:=RD.v En _ (IS ns sp) ry;have BR:fj ns.length 1000 ns:=fu.up;have Rz:ns.length=M.rs.length:=fu.len;refine⟨_,Z,_,Z,d,_,Z,dg eA CV,y,ns,sp,_,Z,Pk,BR,au,au,au,λa1 HB ra1 sB=>?_⟩;refine⟨_,Z,_,Z,d,_,Z,dg (sB _ _ eA) CV,_,_,Z,Z,y,ns,sp,_,Z,RD.mono sB _ Pk,BR,au,au,au,λa2 HC ra2 sC=>?_⟩;obtain⟨p1,rfl,h1⟩:=uf (pl:=iP ns (S.dn:Int)) ra1;obtain⟨p2,rfl,h2⟩:=uf (pl:=iP ns ((S.dn:Int)+1)) ra2;refine⟨p1,p2,Z,⟨_,h1.go sC⟩,⟨_,h2⟩,λD1 HD nD=>?_⟩;refine aas (h1.go sC) h2 (by simp[iP]) (by simp[iP];lia) nD (λx y H Q h=>⟨_,Z,_,Z,_,_,Z,Z,h⟩) λHE sE dE=>?_;refine⟨D1,_,Z,.inl ⟨aH.of dE,λjg HF nF=>?_⟩⟩;have Jf:aR K HF jg ((iy ns S.dn).map V.int):=by rw[<-ZC];exact aR.of nF.at'
    have nP:=sB.trans (sC.trans (sE.trans nF.same));have eF:=nP _ _ eA;have hlv:=(r2:RD K H lv (g9 (fM S)));obtain⟨pa,rfl,uH⟩:=uf (RD.v En _ (jT _) r2);have lpl:(fM S).length=M.rs.length:=Q7 ok;have a4b:(iy ns S.dn).length=(fM S).length:=by rw[lpl];simp[iy,Rz]
    refine⟨_,Z,d,_,Z,dg eF Tp,_,Z,pa,jg,Z,⟨_,uH.go nP⟩,⟨_,Jf⟩,λD2 HG nG=>?_⟩;refine UP (uH.go nP) Jf a4b au nG (λx y H Q h=>⟨_,Z,_,Z,_,_,Z,Z,h⟩) λHI sI dI=>?_;refine⟨D2,_,Z,.inl ⟨aH.of dI,λpt HJ nJ=>?_⟩⟩;have BA:=sI.trans nJ.same;have eJ:=BA _ _ eF;have Sl:aR K HJ pt ((gj (fM S) (iy ns S.dn)).map V.int):=aR.of nJ.at';refine⟨_,Z,d,_,Z,dp eJ a1i lZ,?_⟩;have Mn:cj HA HJ:=(nP.trans BA).v;have Em:cj HJ (L2.upd HJ d (.dK (bP (.ref ma) (.ref pt) gv sv (.int S.aB) (.str S.side) (.str S.mark) (.ref q) (.int S.dn) bv fy cQ (.ref td)))):=.upd eJ trivial;have e1:(L2.upd HJ d (.dK (bP (.ref ma) (.ref pt) gv sv (.int S.aB) (.str S.side) (.str S.mark) (.ref q) (.int S.dn) bv fy cQ (.ref td)))) d=some (.dK (bP (.ref ma) (.ref pt) gv sv (.int S.aB) (.str S.side) (.str S.mark) (.ref q) (.int S.dn) bv fy cQ (.ref td))):=bo;have b1:∀b o,b≠d->HA b=some o->(L2.upd HJ d (.dK (bP (.ref ma) (.ref pt) gv sv (.int S.aB) (.str S.side) (.str S.mark) (.ref q) (.int S.dn) bv fy cQ (.ref td)))) b=some o:=λb o hb eb=>by rw[aO hb];exact BA _ _ (nP _ _ eb)
    generalize L2.upd HJ d (.dK (bP (.ref ma) (.ref pt) gv sv (.int S.aB) (.str S.side) (.str S.mark) (.ref q) (.int S.dn) bv fy cQ (.ref td)))=xZ at Em e1 b1⊢;refine⟨_,Z,?_⟩;dsimp only[kG];refine ke xZ _ (Mn.trans Em) (b1 _ _ Dk.symm Dm) λpe BI=>?_;refine⟨_,Z,d,_,Z,dp e1 a1h lZ,?_⟩;refine⟨_,Z,d,_,Z,dg bo CV,_,_,Z,Z,_,Z,d,_,Z,dp bo Qh lZ,?_⟩;have vX:cj xZ (L2.upd (L2.upd xZ d (.dK (bP (.ref ma) (.ref pt) gv pe (.int S.aB) (.str S.side) (.str S.mark) (.ref q) (.int S.dn) bv fy cQ (.ref td)))) d (.dK (bP (.ref ma) (.ref pt) gv pe (.int S.aB) (.str S.side) (.str S.mark) (.ref q) (.int ((S.dn:Int)+1)) bv fy cQ (.ref td)))):=λb o nb eb=>by
     have hb:b≠d:=λz=>by rw[z,e1]at eb;cases eb;exact nb trivial
     rw[aO hb,aO hb];exact eb
    have eX:(L2.upd (L2.upd xZ d (.dK (bP (.ref ma) (.ref pt) gv pe (.int S.aB) (.str S.side) (.str S.mark) (.ref q) (.int S.dn) bv fy cQ (.ref td)))) d (.dK (bP (.ref ma) (.ref pt) gv pe (.int S.aB) (.str S.side) (.str S.mark) (.ref q) (.int ((S.dn:Int)+1)) bv fy cQ (.ref td)))) d=some (.dK (bP (.ref ma) (.ref pt) gv pe (.int S.aB) (.str S.side) (.str S.mark) (.ref q) (.int ((S.dn:Int)+1)) bv fy cQ (.ref td))):=bo;have bX:∀b o,b≠d->HA b=some o->(L2.upd (L2.upd xZ d (.dK (bP (.ref ma) (.ref pt) gv pe (.int S.aB) (.str S.side) (.str S.mark) (.ref q) (.int S.dn) bv fy cQ (.ref td)))) d (.dK (bP (.ref ma) (.ref pt) gv pe (.int S.aB) (.str S.side) (.str S.mark) (.ref q) (.int ((S.dn:Int)+1)) bv fy cQ (.ref td)))) b=some o:=λb o hb eb=>by rw[aO hb,aO hb];exact b1 _ _ hb eb
    generalize(L2.upd (L2.upd xZ d (.dK (bP (.ref ma) (.ref pt) gv pe (.int S.aB) (.str S.side) (.str S.mark) (.ref q) (.int S.dn) bv fy cQ (.ref td)))) d (.dK (bP (.ref ma) (.ref pt) gv pe (.int S.aB) (.str S.side) (.str S.mark) (.ref q) (.int ((S.dn:Int)+1)) bv fy cQ (.ref td))))=HX at vX eX bX⊢;have Bc:=Em.trans vX;have yo:=Mn.trans Bc;have tJ:=En.trans yo;have Df:HX q=some (.lst ys):=bX _ _ dq.symm (Dy _ _ eq (by rw[cH];exact dq.symm));have qlm:q≠lm:=λz=>by rw[z,BX]at eq;cases eq
    have QS:0<m7 M.r M.f S.pc (topR S.aB sp) (fQ M S) left S.ba:=Rg au au l1 ok.pd.nn (Mz gP ok.dR) Rd.nn ok.ba nh;have DE:fM (fS ns (fU M S ns sp))=gj (fM S) (iy ns S.dn):=(a0D eo (by rw[Rz,ok.pl]) fN hd).symm;have DG:cL (fS ns (fU M S ns sp))=cL S:=Tb eo;refine⟨λO HY=>O=[some (.ref d),some (.ref ma),some y,some sv,some (.int left),some cQ,some (.ref lt),some (.ref lm),some (.ref le),w9,kW,p7,some (.ref jg)]/\dj K HY d q td M (fS ns (fU M S ns sp))/\bF [d,q] H HY/\cj HX HY/\HY lm=some (.lst um),?_,?_⟩
    ·refine⟨_,Z,.inl ⟨_,_,Z,Z,_,Z,?_⟩⟩
     refine eQ (λh0=>?_) (λh0=>?_)
     ·have hl:left=1:=jL h0
      have Jv:(fU M S ns sp).dn=aM ns:=by show S.dn+1=aM ns;lia
      obtain⟨gb,iJ⟩:∃gb,S.os=some (ns,sp)::gb:=by cases e:S.os with |nil=>rw[e]at eo;simp at eo |cons a r=>rw[e]at eo;cases eo;exact⟨r,rfl⟩
      have eN:fS ns (fU M S ns sp)={fU M S ns sp with pl:=fO S.pl (some (ns,sp)),ds:=S.ds.tail,os:=gb,dn:=0}:=by unfold fS;rw[bh Jv];unfold jb;rw[show(fU M S ns sp).os=some (ns,sp)::gb from iJ];rfl
      rw[eN]at DE DG⊢;have zD:seqIndex? 0 ys.length=some 0:=by have:0<ys.length:=(eh.mp ey).1;unfold seqIndex?;simp[this]
      refine⟨_,Z,d,_,Z,dg eX mZ,.inl ⟨Z,_,aH.of Df⟩,q,ys,0,0,y,Z,Z,Df,aA,aA,zD,ey,?_⟩;have e3:(L2.upd HX q (.lst (ys.eraseIdx 0))) d=some (.dK (bP (.ref ma) (.ref pt) gv pe (.int S.aB) (.str S.side) (.str S.mark) (.ref q) (.int ((S.dn:Int)+1)) bv fy cQ (.ref td))):=by rw[aO dq];exact eX
      refine⟨_,Z,d,_,Z,dp e3 Qh lZ,?_⟩;refine⟨_,Z,d,_,Z,dp bo BQ lZ,?_⟩;have vY:cj HX (L2.upd (L2.upd (L2.upd HX q (.lst (ys.eraseIdx 0))) d (.dK (bP (.ref ma) (.ref pt) gv pe (.int S.aB) (.str S.side) (.str S.mark) (.ref q) (.int 0) bv fy cQ (.ref td)))) d (.dK (bP (.ref ma) (.ref pt) gv pe (.int S.aB) (.str S.side) (.str S.mark) (.ref q) (.int 0) bv fy .bB (.ref td)))):=λb o nb eb=>by
       have hb:b≠d:=λz=>by rw[z,eX]at eb;cases eb;exact nb trivial
       have hq:b≠q:=λz=>by rw[z,Df]at eb;cases eb;exact nb trivial
       rw[aO hb,aO hb,aO hq];exact eb
      have bY:∀b o,b≠d->b≠q->HX b=some o->(L2.upd (L2.upd (L2.upd HX q (.lst (ys.eraseIdx 0))) d (.dK (bP (.ref ma) (.ref pt) gv pe (.int S.aB) (.str S.side) (.str S.mark) (.ref q) (.int 0) bv fy cQ (.ref td)))) d (.dK (bP (.ref ma) (.ref pt) gv pe (.int S.aB) (.str S.side) (.str S.mark) (.ref q) (.int 0) bv fy .bB (.ref td)))) b=some o:=λb o hb hq eb=>by rw[aO hb,aO hb,aO hq];exact eb
      have eY:(L2.upd (L2.upd (L2.upd HX q (.lst (ys.eraseIdx 0))) d (.dK (bP (.ref ma) (.ref pt) gv pe (.int S.aB) (.str S.side) (.str S.mark) (.ref q) (.int 0) bv fy cQ (.ref td)))) d (.dK (bP (.ref ma) (.ref pt) gv pe (.int S.aB) (.str S.side) (.str S.mark) (.ref q) (.int 0) bv fy .bB (.ref td)))) d=some (.dK (bP (.ref ma) (.ref pt) gv pe (.int S.aB) (.str S.side) (.str S.mark) (.ref q) (.int 0) bv fy .bB (.ref td))):=bo;have qY:(L2.upd (L2.upd (L2.upd HX q (.lst (ys.eraseIdx 0))) d (.dK (bP (.ref ma) (.ref pt) gv pe (.int S.aB) (.str S.side) (.str S.mark) (.ref q) (.int 0) bv fy cQ (.ref td)))) d (.dK (bP (.ref ma) (.ref pt) gv pe (.int S.aB) (.str S.side) (.str S.mark) (.ref q) (.int 0) bv fy .bB (.ref td)))) q=some (.lst (ys.eraseIdx 0)):=by rw[aO dq.symm,aO dq.symm];exact bo
      refine⟨Z,⟨⟨.ref ma,.ref pt,gv,pe,bv,fy,.bB,eY,RD.v (tJ.trans vY) _ (jZ _ _ _ _ _) r1,?_,?_,?_,MW.v (yo.trans vY),.inl Z⟩,ys.eraseIdx 0,qY,?_⟩,λb o eb hb=>?_,vY,bY _ _ xO.symm qlm.symm (bX _ _ xO.symm xN)⟩
      ·rw[DE];exact wy (aR.v vY (aR.v Bc Sl))
      ·rw[DG];exact RD.v (tJ.trans vY) _ (jT _) r3
      ·show bw K _ pe (pN M.r M.f S.pc (topR S.aB sp) (fQ M S) ((aM ns:Int)-S.dn) S.ba)
       rw[el];exact(BI.v vX).v vY
      ·exact U5 (aJ.v (tJ.trans vY) _ ok.row.no rq)
      ·have ha:b≠d:=λz=>hb (by rw[z];simp)
       have hq:b≠q:=λz=>hb (by rw[z];simp);exact bY _ _ ha hq (bX _ _ ha (Dy _ _ eb (by rw[cH];exact ha)))
     ·have hl:left≠1:=λz=>h0 (cP z)
      have a5R:¬(fU M S ns sp).dn=aM ns:=λz=>hl (by have:S.dn+1=aM ns:=z;lia);have eN:fS ns (fU M S ns sp)=fU M S ns sp:=bf a5R;rw[eN]at DE DG⊢;refine⟨Z,⟨⟨.ref ma,.ref pt,gv,pe,bv,fy,cQ,eX,RD.v tJ _ (jZ _ _ _ _ _) r1,?_,?_,?_,MW.v yo,.inr (show bw K HX cQ (fQ M S)from rRA.v yo)⟩,ys,Df,aJ.v tJ _ ok.row.no rq⟩,λb o eb hb=>?_,.refl,bX _ _ xO.symm xN⟩
      ·rw[DE];exact wy (aR.v Bc Sl)
      ·rw[DG];exact RD.v tJ _ (jT _) r3
      ·show bw K HX pe (pN M.r M.f S.pc (topR S.aB sp) (fQ M S) ((aM ns:Int)-S.dn) S.ba)
       rw[el];exact BI.v vX
      ·have ha:b≠d:=λz=>hb (by rw[z];simp)
       exact bX _ _ ha (Dy _ _ eb (by rw[cH];exact ha))
    ·rintro O HY ⟨rfl,CJ⟩
     have RY:=CJ.1;have bY:=CJ.2.1;have vY:=CJ.2.2.1;have dY:=CJ.2.2.2;refine⟨_,Z,?_⟩;dsimp only[kG];refine km HY _ (yo.trans vY) dY λv rv=>?_;have t1:=aU.t1;have nB:Bd 2000 (m7 M.r M.f S.pc (topR S.aB sp) (fQ M S) left S.ba):=((Rh (D:=D) au au l1 ok.pd (MC.mono au) (Rd.mono au) ok.ba nh).bd (fg Rb (fg tl aW))).mono au;refine⟨_,Z,_,Z,_,Z,.ref ma,v,M.rs,M.r,M.f,M.j,M.t,_,Z,RD.v (tJ.trans vY) _ (jZ _ _ _ _ _) r1,rv,nB,t1.1,t1.2,Ik QS,λT T1 _ T2 T3 HZ sZ=>?_⟩;refine⟨_,Z,bT Z,λtt HW nW=>k (.ref tt) HW ?_ (RY.same (One.ok ok aU (.line eo nh)).row.no (sZ.trans nW.same)) (λb o eb hb=>(sZ.trans nW.same) _ _ (bY b o eb hb))⟩;have etk:=MB (M5 (Ik QS)) ⟨T1,T2,T3⟩;unfold nY IM ph;rw[el,etk];exact gA (aR.of nW.at') (bW (cM _) (bW (RD.mono (sZ.trans nW.same) _ (wy (aR.v (BA.v.trans (Bc.trans vY)) Jf))) (bW (dU _) (bW (rv.go (sZ.trans nW.same)).rd cU))))
theorem a9J(q:Rat):PyData.eqv (da q) (.tuple [.int 0,.int 1])=decide (q=0):=by have h:(q.num=0/\(q.den:Int)=1)↔q=0:=⟨λh=>Rat.num_eq_zero.mp h.1,λh=>by rw[h];exact⟨Z,Z⟩⟩;rw[oZ,sX,<-h];simp[da,PyData.eqv,PyData.eqvAll]
theorem YN(d:ai)(S:bE):(cA d S).pc=S.pc/\(cA d S).aB=S.aB/\(cA d S).ba=S.ba:=by
 unfold cA;split
 ·split
  ·exact⟨Z,Z,Z⟩
  ·split<;>exact⟨Z,Z,Z⟩
 ·exact⟨Z,Z,Z⟩
theorem Qp{D:Nat}(ok:cF M D S)(eo:S.os[0]? =some none):∃gb,S.os=none::gb/\jb (cA d S)={cA d S with pl:=S.pl,ds:=S.ds.tail,os:=gb,dn:=0}/\fM (jb (cA d S))=fM S/\cL (jb (cA d S))=cL S:=by
 obtain⟨gb,iJ⟩:∃gb,S.os=none::gb:=by cases e:S.os with |nil=>rw[e]at eo;simp at eo |cons a r=>rw[e]at eo;cases eo;exact⟨r,rfl⟩
 obtain⟨_,e1,e2,e3,e4⟩:=Fb ok.raw d;have Kn:S.dn=0:=by
  rcases ok.dn with z|⟨zh,yK,e1,e2⟩
  ·exact z
  ·rw[eo]at e1;cases e1
 have eE:jb (cA d S)={cA d S with pl:=S.pl,ds:=S.ds.tail,os:=gb,dn:=0}:=by unfold jb;rw[e1,iJ,e2,e4];rfl
 refine⟨gb,iJ,eE,?_,?_⟩
 ·rw[eE]
  unfold fM;rw[bh Z,bh Kn]
 ·rw[eE]
  unfold cL;rw[iJ];rfl
theorem Sb{D:Ends}(G:Hp->Prop)(hr:∀H',G H'->rest D O H')(h:(∀H',G H'->rest D O H')->Bk (EH c ts Bl) rest D O H):Bk (EH c ts Bl) rest D O H:=h hr
inductive acv(K:aa)(vs:List V)(H:Hp)(Q:VK):Prop |mk (d:_)(q:_)(td:_)(M:_)(D:_)(S:_)(n:_)(h0:vs=[.ref d,.int n])(h1:dj K H d q td M S)(h2:cF M D S)(h3:M.Ok)(h4:0<=n)(h5:n<=1000)(h6:∀l ys es S' H',H l=none->H' l=some (.lst ys)->aJ K H' ys es->Run M S es S'->(es.length:Int)<=n->((es.length:Int)=n\/S'.os=[]\/Halt S'.pc S'.ba)->dj K H' d q td M S'->bF [d,q] H H'->Q (.ref l) H')
def Ni(K:aa):Sp:=λvs H Q _=>acv K vs H Q
theorem O7:bG ["_law_sim_here","_law_n","_law_found","_law_item"] ["_law_sim_here","_law_n"] (aZ FF):=bQ aW
theorem a1Y(F:FA K mg "_law_sim_entries" FF)(B:bV mg)(a7r:aI P w K mg ay "_law_sim_step" 5 (Nf K)):aI P w K mg ay "_law_sim_entries" 6 (Ni K):=by
 refine F.has O7 (λvs H Q E h=>?_) (λ_ _ _ _ _ _=>dJ λ_ _=>rfl) (λfa aP A outer s H vs Q E hr h=>?_)
 ·obtain⟨d,q,td,M,D,S,n,rfl,_⟩:=h
  rfl
 ·obtain⟨d,q,td,M,D,S,n,rfl,R,ok,aU,n0,n1,k⟩:=h
  have dq:=R.ne;have nd:=O7.nd;refine⟨_,(aE (pS 2 nd (cK az)) (aE (nS ip (PW.pt (pF (cu kJ (eL K B (ao (pv 2) az)) (pv 1) (bI _)) (uc (cu uh (eL K B (ao (cR hr (pv 0) aV) az)) aD (bI _))))) (aE (bR (PW.pt (pF (cu zb (cR hr (pv 0) aV) jV (bI _)) (uc (cu (cY K Z hr.units) (cR hr (pv 0) aV) (ck (ao aD (ao aD az))) (bI _))))) (aL (aX (pv 2))) bU) (aE (pS 3 nd (px K (cR hr (pv 0) aV) aD)) (aL (bR (cu (cY K Z hr.units) (px K (pv 3) aD) aV (bI _)) (aL (iA (jW K Z (pv 2) (ao (pf a7r hr (ao (pv 0) az)) az)))) (aE (hJ (bR (cu (jB K Z hr.units) (px K (pv 3) aD) aV (bI _)) (aL (iB (gr hr.units) (pv 0) (px K (pv 3) aD) (px K (pv 3) aD) Z)) bU)) (aE (iA (jW K Z (pv 2) (ao (Qg K Z (cR hr (pv 0) aV) (ao aD az)) az))) (aL (iB (gr hr.units) (pv 0) aV jV Z))))))))) (aL (aX (pv 2))))),?_⟩;refine⟨bT Z,λl H1 nw=>?_⟩;obtain⟨mv,lv,gv,sv,bv,cv,rv,e,r1,r2,r3,r4,r5,r6⟩:=R.ob;obtain⟨ys,eq,rq⟩:=R.qu;have Ac:d≠l:=λz=>by have:=nw.no;rw[<-z,e]at this;cases this
  have ql:q≠l:=λz=>by have:=nw.no;rw[<-z,eq]at this;cases this
  refine nH (λO H2=>∃es S' us w3,O=[some (.ref d),some (.int n),some (.ref l),w3]/\dj K H2 d q td M S'/\H2 l=some (.lst us)/\aJ K H2 us es/\Run M S es S'/\(es.length:Int)<=n/\bF [d,q] H H2) (λ_ H2=>match H2 l with|some (.lst us)=>2000-us.length|_=>0) ?_ ?_ ?_
  ·exact⟨[],S,[],none,Z,R.same ok.row.no nw.same,nw.at',cU,.nil _,by simpa using n0,.of nw.same⟩
  ·rintro O H2 ⟨es,S',us,w3,rfl,R2,dl,rd,run,lK,bt⟩
   have ji:=run.ok ok aU;have lI:=run.no ok aU;have lu:=rd.length;obtain⟨mv,lv,gv,sv,bv,cv,rv,e,r1,r2,r3,r4,r5,r6⟩:=R2.ob;obtain⟨yq,eq2,rq⟩:=R2.qu;have wX:=rq.length;have zy:=ji.row.len;have kg:sizeLine=16777216:=by decide
   refine⟨_,Z,l,us,Z,.inl (aH.of dl),_,Z,_,_,Z,Z,_,Z,?_⟩;show if decide ((us.length:Int)<n)=true then _ else _;by_cases c1:(us.length:Int)<n
   ·rw[cP c1]
    refine cg ?_;refine⟨_,Z,d,_,Z,dg e mZ,q,yq,Z,.inl (aH.of eq2),_,_,Z,Z,_,Z,?_⟩;cases jE:S'.os with |nil=>have:yq=[]:=AQ.mp (by rw[wX,zy,jE];rfl);subst this;refine bN ?_;exact⟨_,Z,k l us es S' H2 nw.no dl rd run lK (.inr (.inl jE)) R2 bt⟩ |cons o os=>
     have dP:S'.os≠[]:=by rw[jE];simp
     have pW:0<yq.length:=by rw[wX,zy,jE];simp
     rw[cP (show(0:Int)<(yq.length:Int) by lia)];refine cg ?_;have eo:S'.os[0]? =some o:=by rw[jE];rfl
     refine Sb (λH3=>¬Halt S'.pc S'.ba/\aF H2 H3) (λH3 g=>?_) (λzK=>?_)
     ·obtain⟨nh,s3⟩:=g
      have R3:=R2.same ji.row.no s3;have e3:=s3 _ _ e;have eq3:=s3 _ _ eq2;have xP:=s3 _ _ dl;have Hr:=aJ.mono s3 _ rd;have V9:bF [d,q] H H3:=λb o' eb hb=>s3 _ _ (bt b o' eb hb);have dlq:l∉[d,q]:=by simp;exact⟨Ac.symm,ql.symm⟩
      obtain⟨dd,ed⟩:∃dd,S'.ds[0]? =some dd:=⟨_,cn (show 0<S'.ds.length by lia)⟩;obtain⟨y,ey,ry⟩:=rq.get 0 ed;have it:=ji.row.it 0 dd _ ed eo;have BG:=RD.mono s3 _ ry;refine⟨_,Z,d,_,Z,dg e3 mZ,.inl ⟨q,_,0,y,Z,Z,aH.of eq3,dC (gO 0) ey,?_⟩⟩;obtain⟨ya,wd,zs,rfl,zG,ew,sw⟩:=xf BG it;refine⟨_,Z,.inr ⟨ya,_,0,.str wd,Z,Z,zG,dC (gO 0) Z,.inr ⟨_,_,cM _,cM _,sw,uy,_,Z,?_⟩⟩⟩;rw[ew];cases o with
      |some z=>
       obtain⟨ns,sp⟩:=z;refine cg ?_;refine⟨_,Z,.inl ⟨Z,_,aH.of xP⟩,_,Z,d,q,td,M,D,S',ns,sp,Z,R3,ji,aU,eo,nh,λv H4 cQ R4 b4=>?_⟩;have Ep:=R3.v b4;have kj:=b4 _ _ xP dlq;refine⟨l,us,_,Z,Z,kj,au,?_⟩;have vu:cj H4 (L2.upd H4 l (.lst (us++[v]))):=.upd kj trivial;have one:One M S' (nY M S' ns sp) (fS ns (fU M S' ns sp)):=.line eo nh;have ok2:=One.ok ji aU one;refine⟨⟨es++[nY M S' ns sp],_,us++[v],_,Z,R4.go ok2.row.no vu (λo' dh=>by rw[aO Ac];exact dh) (λo' dh=>by rw[aO ql];exact dh),bo,(aJ.v (Ep.trans vu) _ lI Hr).append (bW (RD.v vu _ (EK _ _ _) cQ) cU),run.snoc one,by rw[fC];show((es.length+1:Nat):Int)<=n;lia,λb o' eb hb=>?_⟩,?_⟩
       ·have eR:b≠l:=λz=>by have:=nw.no;rw[<-z,eb]at this;cases this
        rw[aO eR];exact b4 _ _ (V9 _ _ eb hb) hb
       ·show(match(L2.upd H4 l (.lst (us++[v]))) l with|some (.lst us)=>2000-us.length|_=>0)<(match H2 l with|some (.lst us)=>2000-us.length|_=>0)
        rw[bo,dl];show 2000-(us++[v]).length<2000-us.length;rw[fC];show 2000-(us.length+1)<2000-us.length
        lia |none=>
       refine bN ?_;have iC:=ji.rw 0 dd eo ed;have tW:SeqAt.shaped (.str "wait")=true:=by decide+kernel
       have eqT:∀(x y:Str),PyData.eqv (.str x) (.str y)=decide (x=y):=λx y=>by show(x==y)=decide (x=y);rw[oZ];simp
       refine⟨λO H4=>O=[some (.ref d),some (.int n),some (.ref l),some (.ref ya)]/\bF [d] H3 H4/\H4 d=some (.dK (bP mv lv gv sv (.int S'.aB) (.str (cA dd S').side) (.str (cA dd S').mark) (.ref q) (.int S'.dn) bv cv rv (.ref td))),?_,?_⟩
       ·rcases iC with⟨m,rfl,_⟩|⟨w',s',rfl,hw,_⟩
        ·obtain⟨WV,xs,ea,h1,h2⟩:=BG.dS
         cases ea;obtain⟨x1,rr,rfl,e1,h2⟩:=h2.cons_inv;cases e1.str_inv;refine⟨_,Z,.inr ⟨ya,_,0,.str "wait",Z,Z,h1,dC (gO 0) Z,.inr ⟨_,_,cM _,cM _,tW,tW,_,Z,?_⟩⟩⟩;rw[eqT,cP rfl];exact bN ⟨Z,bF.refl _ _,e3⟩
        ·obtain⟨WV,xs,ea,h1,h2⟩:=BG.dS
         cases ea;obtain⟨x1,rr,rfl,e1,h2⟩:=h2.cons_inv;obtain⟨x2,rr,rfl,e2,h2⟩:=h2.cons_inv;cases h2.nil_inv;cases e1.str_inv;cases e2.str_inv;have sz:SeqAt.shaped (.str w')=true:=by rcases hw with rfl|rfl<;>decide+kernel
         have nw':¬w'="wait":=by rcases hw with rfl|rfl<;>decide+kernel
         refine⟨_,Z,.inr ⟨ya,_,0,.str w',Z,Z,h1,dC (gO 0) Z,.inr ⟨_,_,cM _,cM _,sz,tW,_,Z,?_⟩⟩⟩;rw[eqT,fk nw'];refine cg ?_;rcases hw with rfl|rfl
         ·refine⟨_,Z,.inr ⟨ya,_,1,.str s',Z,Z,h1,dC aA Z,_,Z,_,Z,.inr ⟨ya,_,0,.str "tool",Z,Z,h1,dC (gO 0) Z,d,_,Z,dp e3 a1g lZ,?_⟩⟩⟩
          exact⟨Z,Ah (by simp),bo⟩
         ·refine⟨_,Z,.inr ⟨ya,_,1,.str s',Z,Z,h1,dC aA Z,_,Z,_,Z,.inr ⟨ya,_,0,.str "mark",Z,Z,h1,dC (gO 0) Z,d,_,Z,dp e3 a1j lZ,?_⟩⟩⟩
          exact⟨Z,Ah (by simp),bo⟩
       rintro O H4 ⟨rfl,b4,e4⟩;have Ep:cj H3 H4:=b4.v λx hx o' dh=>by rw[cH]at hx;rw[hx,e3]at dh;cases dh;trivial
       have eq4:=b4 _ _ eq3 (by rw[cH];exact dq.symm);have kj:=b4 _ _ xP (by rw[cH];exact Ac.symm);have zD:seqIndex? 0 yq.length=some 0:=by unfold seqIndex?;simp[pW]
       have dl5:(L2.upd H4 q (.lst (yq.eraseIdx 0))) l=some (.lst us):=by rw[aO ql.symm];exact kj
       refine⟨_,Z,.inl ⟨Z,_,aH.of kj⟩,_,Z,d,_,Z,dg e4 mZ,.inl ⟨Z,_,aH.of eq4⟩,q,yq,0,0,.ref ya,Z,Z,eq4,aA,aA,zD,ey,?_⟩;refine⟨l,us,_,Z,Z,dl5,au,?_⟩;have e6:(L2.upd (L2.upd H4 q (.lst (yq.eraseIdx 0))) l (.lst (us++[.ref ya]))) d=some (.dK (bP mv lv gv sv (.int S'.aB) (.str (cA dd S').side) (.str (cA dd S').mark) (.ref q) (.int S'.dn) bv cv rv (.ref td))):=by rw[aO Ac,aO dq];exact e4
       refine⟨_,Z,d,_,Z,dp e6 BQ lZ,?_⟩;have Mo:cj H4 (L2.upd (L2.upd (L2.upd H4 q (.lst (yq.eraseIdx 0))) l (.lst (us++[.ref ya]))) d (.dK (bP mv lv gv sv (.int S'.aB) (.str (cA dd S').side) (.str (cA dd S').mark) (.ref q) (.int S'.dn) bv cv .bB (.ref td)))):=λb o nb eb=>by
        have hb:b≠d:=λz=>by rw[z,e4]at eb;cases eb;exact nb trivial
        have hq:b≠q:=λz=>by rw[z,eq4]at eb;cases eb;exact nb trivial
        have eR:b≠l:=λz=>by rw[z,kj]at eb;cases eb;exact nb trivial
        rw[aO hb,aO eR,aO hq];exact eb
       have b7:∀b o,b≠d->b≠q->b≠l->H4 b=some o->(L2.upd (L2.upd (L2.upd H4 q (.lst (yq.eraseIdx 0))) l (.lst (us++[.ref ya]))) d (.dK (bP mv lv gv sv (.int S'.aB) (.str (cA dd S').side) (.str (cA dd S').mark) (.ref q) (.int S'.dn) bv cv .bB (.ref td)))) b=some o:=λb o hb hq eR eb=>by rw[aO hb,aO eR,aO hq];exact eb
       have e7:(L2.upd (L2.upd (L2.upd H4 q (.lst (yq.eraseIdx 0))) l (.lst (us++[.ref ya]))) d (.dK (bP mv lv gv sv (.int S'.aB) (.str (cA dd S').side) (.str (cA dd S').mark) (.ref q) (.int S'.dn) bv cv .bB (.ref td)))) d=some (.dK (bP mv lv gv sv (.int S'.aB) (.str (cA dd S').side) (.str (cA dd S').mark) (.ref q) (.int S'.dn) bv cv .bB (.ref td))):=bo;have q7:(L2.upd (L2.upd (L2.upd H4 q (.lst (yq.eraseIdx 0))) l (.lst (us++[.ref ya]))) d (.dK (bP mv lv gv sv (.int S'.aB) (.str (cA dd S').side) (.str (cA dd S').mark) (.ref q) (.int S'.dn) bv cv .bB (.ref td)))) q=some (.lst (yq.eraseIdx 0)):=by rw[aO dq.symm,aO ql];exact bo
       have l7:(L2.upd (L2.upd (L2.upd H4 q (.lst (yq.eraseIdx 0))) l (.lst (us++[.ref ya]))) d (.dK (bP mv lv gv sv (.int S'.aB) (.str (cA dd S').side) (.str (cA dd S').mark) (.ref q) (.int S'.dn) bv cv .bB (.ref td)))) l=some (.lst (us++[.ref ya])):=by rw[aO Ac.symm];exact bo
       generalize(L2.upd (L2.upd (L2.upd H4 q (.lst (yq.eraseIdx 0))) l (.lst (us++[.ref ya]))) d (.dK (bP mv lv gv sv (.int S'.aB) (.str (cA dd S').side) (.str (cA dd S').mark) (.ref q) (.int S'.dn) bv cv .bB (.ref td))))=H7 at Mo b7 e7 q7 l7⊢;have Mp:=Ep.trans Mo;have tL:=s3.v.trans Mp;obtain⟨gb,iJ,eE,ePl,eGo⟩:=Qp (d:=dd) ji eo;have fx:=YN dd S';have one:One M S' dd (jb (cA dd S')):=.iC eo ed nh;have Kn:S'.dn=0:=by
        rcases ji.dn with z|⟨zh,yK,e1,e2⟩
        ·exact z
        ·rw[eo]at e1;cases e1
       have nod:fw dd=true:=hO.mp ji.row.no _ (gI ed);refine⟨⟨es++[dd],jb (cA dd S'),us++[.ref ya],_,Z,?_,l7,(aJ.v tL _ lI rd).append (bW (RD.v Mp _ nod BG) cU),run.snoc one,by rw[fC];show((es.length+1:Nat):Int)<=n;lia,λb o' eb hb=>?_⟩,?_⟩
       ·refine⟨⟨mv,lv,gv,sv,bv,cv,.bB,?_,RD.v tL _ (jZ _ _ _ _ _) r1,?_,?_,?_,?_,.inl Z⟩,yq.eraseIdx 0,q7,?_⟩
        ·rw[eE]
         show H7 d=some (.dK (bP mv lv gv sv (.int (cA dd S').aB) (.str (cA dd S').side) (.str (cA dd S').mark) (.ref q) (.int 0) bv cv .bB (.ref td)));rw[fx.2.1,e7,Kn];rfl
        ·rw[ePl];exact RD.v tL _ (jT _) r2
        ·rw[eGo];exact RD.v tL _ (jT _) r3
        ·rw[eE]
         show bw K H7 sv (cA dd S').pc;rw[fx.1];exact r4.v tL
        ·rw[eE]
         show y6 K H7 bv cv (cA dd S').ba;rw[fx.2.2];exact r5.v tL
        ·rw[eE]
         exact U5 (aJ.v tL _ ji.row.no rq)
       ·have eR:b≠l:=λz=>by have:=nw.no;rw[<-z,eb]at this;cases this
        have xu:b≠d:=λz=>hb (by rw[z];simp);have hW:b≠q:=λz=>hb (by rw[z];simp);exact b7 _ _ xu hW eR (b4 _ _ (V9 _ _ eb hb) (by rw[cH];exact xu))
       ·show(match H7 l with|some (.lst us)=>2000-us.length|_=>0)<(match H2 l with|some (.lst us)=>2000-us.length|_=>0)
        rw[l7,dl];show 2000-(us++[V.ref ya]).length<2000-us.length;rw[fC];show 2000-(us.length+1)<2000-us.length
        lia
     ·refine⟨_,Z,d,_,Z,dg e CW,Z,_,Z,?_⟩
      cases hs:S'.ba with |none=>have m4:=r5;rw[hs]at m4;obtain⟨rfl,_⟩:=m4;refine bN ?_;exact zK H2 ⟨λh=>h.1 hs,aF.refl _⟩ |some z=>
       obtain⟨sq,st,gn⟩:=z;have m4:=r5;rw[hs]at m4;obtain⟨ta,su,rfl,_⟩:=m4;refine cg ?_;refine⟨_,Z,d,_,Z,dg e xC,bT Z,λt H3 n3=>?_⟩;have YK:SeqAt.shaped (.tuple [.int 0,.int 1])=true:=by decide+kernel
       refine .inr ⟨_,_,(r4.go n3.same).rd,gA (aR.of n3.at') (bW (dU _) (bW (dU _) cU)),a04 _,YK,_,Z,?_⟩;rw[a9J];by_cases c3:S'.pc=0
       ·rw[cP c3]
        refine cg ?_;have R3:=R2.same ji.row.no n3.same;exact⟨_,Z,k l us es S' H3 nw.no (n3.same _ _ dl) (aJ.mono n3.same _ rd) run lK (.inr (.inr ⟨by rw[hs];simp,c3⟩)) R3 λb o' eb hb=>n3.same _ _ (bt b o' eb hb)⟩
       ·rw[fk c3]
        refine bN ?_;exact zK H3 ⟨λh=>c3 h.2,n3.same⟩
   ·rw[fk c1]
    refine bN ?_;exact⟨_,Z,k l us es S' H2 nw.no dl rd run lK (.inl au) R2 bt⟩
  ·rintro O H6 Q1 Q2 hq ⟨v1,f1,l',jP,f2,f3,v2,f4,i1,i2,f5,f6,b1,f7,h⟩
   refine⟨v1,f1,l',jP,f2,f3,v2,f4,i1,i2,f5,f6,b1,f7,zE ?_ (hq _ _) h⟩;rintro⟨v3,f8,a',k',f9,A6,p',y',A5,K7,i3,i4,K6,K5,b2,A4,h⟩;exact⟨v3,f8,a',k',f9,A6,p',y',A5,K7,i3,i4,K6,K5,b2,A4,hq _ _ h⟩
end
end Lw
set_option maxHeartbeats 1000000
namespace Lw
open PySem PySem.Spec PyProof.Rows L2 Rt Ln
section
variable {w:World} {mg:bJ} {ay:Heap}
theorem Mt:j8 "tuple" "list"=false:=by decide
theorem Mu:j8 "list" "tuple"=false:=by decide
theorem Vs(n:Nat):(List.replicate n true).all id=true:=by induction n with |zero=>rfl |succ n ih=>rw[vB,LY,ih];rfl
def abR(D:ai):Prop:=(∃z,D= .int z)\/∃s,D= .str s/\SeqAt.shaped (.str s)=true/\PyData.eqv (.str s) (.str s)=true
def Nx(A:ai->Prop)(D:ai):Prop:=abR D\/∃ds,(D= .tuple ds\/D= .list ds)/\ds.length<=100000/\∀x∈ds,A x
inductive ada(A:ai->Prop)(K:aa)(vs:List V)(H:Hp)(Q:VK):Prop |mk (v:_)(u:_)(D:_)(h0:vs=[v,u])(h1:RD K H v D)(h2:RD K H u D)(h3:A D)(h4:∀H',aF H H'->Q (.bl true) H')
def yJ(A:ai->Prop)(K:aa):Sp:=λvs H Q _=>ada A K vs H Q
theorem Fd:bG ["_law_found","_law_due"] ["_law_found","_law_due"] (aZ BB):=bQ aW
theorem a2Z(F:FA K mg "_law_alike" BB)(B:bV mg):aI P w K mg ay "_law_alike" 1 (yJ (λ_=>False) K):=by
 refine F.has Fd (λvs H Q E h=>?_) (λ_ _ _ _ _ _=>dJ λ_ _=>rfl) (λf aP A outer s H vs Q E hr h=>?_)
 ·obtain⟨v,u,D,rfl,_,_,h,_⟩:=h
  exact h.elim
 ·obtain⟨v,u,D,rfl,_,_,h,_⟩:=h
  exact h.elim
theorem BS(hn:1<=n)(F:FA K mg "_law_alike" BB)(B:bV mg)(CP:aI P w K mg ay "_law_number" 1 (wc K))(mY:aI P w K mg ay "_law_alike" n (yJ A K)):aI P w K mg ay "_law_alike" (n+1) (yJ (Nx A) K):=by
 refine F.has Fd (λvs H Q E h=>?_) (λ_ _ _ _ _ _=>dJ λ_ _=>rfl) (λf aP A' outer s H vs Q E hr h=>?_)
 ·obtain⟨v,u,D,rfl,_⟩:=h
  rfl
 ·obtain⟨v,u,D,rfl,rv,ru,hD,k⟩:=h
  have nd:=Fd.nd;rcases hD with(⟨z,rfl⟩|⟨z,rfl,sh,eq⟩)|⟨ds,rfl|rfl,hz,hA⟩
  ·refine⟨_,(aE (bR (cV (dX K B (ao (pv 1) (ao (ck (ao (dy (x:="list") (v:=.ty "list") Z (B.at "list") kB rfl) (ao (dy (x:="tuple") (v:=.ty "tuple") rfl (B.at "tuple") fW rfl) az))) az)))) (aE (bR (PW.pt (m5 (cu (jB K Z hr.units) (dX K B (ao (pv 1) (ao (dy (x:="list") (v:=.ty "list") Z (B.at "list") kB rfl) az))) (dX K B (ao (pv 0) (ao (dy (x:="list") (v:=.ty "list") rfl (B.at "list") kB rfl) az))) (bI _)) (mH (cu (jB K rfl hr.units) (dX K B (ao (pv 1) (ao (dy (x:="tuple") (v:=.ty "tuple") rfl (B.at "tuple") fW rfl) az))) (dX K B (ao (pv 0) (ao (dy (x:="tuple") (v:=.ty "tuple") rfl (B.at "tuple") fW rfl) az))) (bI _))))) (aL (aX gC)) bU) (aL (aX (iR (fE (cY K Z hr.units) (eL K B (ao (pv 0) az)) (eL K B (ao (pv 1) az)) (bI _)) (j9 (dM (x:="all") (qy K Z Z) Z (B.at "all") tD (ao (gB (N:=["_law_one","_law_two"]) (js:=[none,none]) rfl rfl rfl (jU K rfl false false rfl (B.at "zip") (ao (pv 0) (ao (pv 1) az))) (λ_ _ _ _ _=>(eG K rfl (n:=2) rfl (bZ (bp 0 (fF aA)) (bZ (bp 1 (fF aA)) eu)))) (λ_ _ _ _ _=>fL) (λ_ _ _ _ _=>(pI mY (hr.mono au) rfl (ao (pv 0) (ao (pv 1) az))))) az))))))) bU) (aE (bR (cV (dX K B (ao (pv 1) (ao (dy (x:="str") (v:=.ty "str") Z (B.at "str") oU rfl) az)))) (aL (aX (iR (dX K B (ao (pv 0) (ao (dy (x:="str") (v:=.ty "str") Z (B.at "str") oU rfl) az))) (j9 (fE (cY K rfl hr.units) (pv 0) (pv 1) (bI _)))))) bU) (aL (aX (iR (pI CP (hr.mono au) Z (ao (pv 0) az)) (j9 (fE (cY K Z hr.units) (pv 0) (pv 1) (bI _)))))))),?_⟩
   cases rv.int_inv;cases ru.int_inv;refine⟨_,Z,bT Z,λtt H1 n1=>.inr ⟨_,"int",tt,["list","tuple"],_,Z,n1.at',Z,aA,Z,_,Z,bN ?_⟩⟩;refine⟨_,Z,.inl ⟨_,"int","str",_,Z,Z,aA,Z,_,Z,bN ?_⟩⟩;refine⟨_,Z,_,"int",Z,Z,_,Z,cg ?_⟩;refine⟨_,Z,_,Z,.inl ⟨_,_,Z,Z,?_⟩⟩;show Q (.bl (decide (z=z))) H1;rw[cP rfl];exact k H1 n1.same
  ·refine⟨_,(aE (bR (cV (dX K B (ao (pv 1) (ao (ck (ao (dy (x:="list") (v:=.ty "list") Z (B.at "list") kB rfl) (ao (dy (x:="tuple") (v:=.ty "tuple") rfl (B.at "tuple") fW rfl) az))) az)))) (aE (bR (PW.pt (m5 (cu (jB K Z hr.units) (dX K B (ao (pv 1) (ao (dy (x:="list") (v:=.ty "list") Z (B.at "list") kB rfl) az))) (dX K B (ao (pv 0) (ao (dy (x:="list") (v:=.ty "list") rfl (B.at "list") kB rfl) az))) (bI _)) (mH (cu (jB K rfl hr.units) (dX K B (ao (pv 1) (ao (dy (x:="tuple") (v:=.ty "tuple") rfl (B.at "tuple") fW rfl) az))) (dX K B (ao (pv 0) (ao (dy (x:="tuple") (v:=.ty "tuple") rfl (B.at "tuple") fW rfl) az))) (bI _))))) (aL (aX gC)) bU) (aL (aX (iR (fE (cY K Z hr.units) (eL K B (ao (pv 0) az)) (eL K B (ao (pv 1) az)) (bI _)) (j9 (dM (x:="all") (qy K Z Z) Z (B.at "all") tD (ao (gB (N:=["_law_one","_law_two"]) (js:=[none,none]) rfl rfl rfl (jU K rfl false false rfl (B.at "zip") (ao (pv 0) (ao (pv 1) az))) (λ_ _ _ _ _=>(eG K rfl (n:=2) rfl (bZ (bp 0 (fF aA)) (bZ (bp 1 (fF aA)) eu)))) (λ_ _ _ _ _=>fL) (λ_ _ _ _ _=>(pI mY (hr.mono au) rfl (ao (pv 0) (ao (pv 1) az))))) az))))))) bU) (aE (bR (cV (dX K B (ao (pv 1) (ao (dy (x:="str") (v:=.ty "str") Z (B.at "str") oU rfl) az)))) (aL (aX (iR (dX K B (ao (pv 0) (ao (dy (x:="str") (v:=.ty "str") Z (B.at "str") oU rfl) az))) (j9 (fE (cY K rfl hr.units) (pv 0) (pv 1) (bI _)))))) bU) (aL (aX (iR (pI CP (hr.mono au) Z (ao (pv 0) az)) (j9 (fE (cY K Z hr.units) (pv 0) (pv 1) (bI _)))))))),?_⟩
   cases rv.str_inv;cases ru.str_inv;refine⟨_,Z,bT Z,λtt H1 n1=>.inr ⟨_,"str",tt,["list","tuple"],_,Z,n1.at',Z,aA,Z,_,Z,bN ?_⟩⟩;refine⟨_,Z,.inl ⟨_,"str","str",_,Z,Z,aA,Z,_,Z,cg ?_⟩⟩;refine⟨_,Z,.inl ⟨_,"str","str",_,Z,Z,aA,Z,_,Z,cg ?_⟩⟩;refine⟨_,Z,_,Z,.inr ⟨_,_,cM _,cM _,sh,sh,?_⟩⟩;rw[eq];exact k H1 n1.same
  ·refine⟨_,(aE (bR (cV (dX K B (ao (pv 1) (ao (ck (ao (dy (x:="list") (v:=.ty "list") Z (B.at "list") kB rfl) (ao (dy (x:="tuple") (v:=.ty "tuple") rfl (B.at "tuple") fW rfl) az))) az)))) (aE (bR (PW.pt (m5 (cu (jB K Z hr.units) (dX K B (ao (pv 1) (ao (dy (x:="list") (v:=.ty "list") Z (B.at "list") kB rfl) az))) (dX K B (ao (pv 0) (ao (dy (x:="list") (v:=.ty "list") rfl (B.at "list") kB rfl) az))) (bI _)) (mH (cu (jB K rfl hr.units) (dX K B (ao (pv 1) (ao (dy (x:="tuple") (v:=.ty "tuple") rfl (B.at "tuple") fW rfl) az))) (dX K B (ao (pv 0) (ao (dy (x:="tuple") (v:=.ty "tuple") rfl (B.at "tuple") fW rfl) az))) (bI _))))) (aL (aX gC)) bU) (aL (aX (iR (fE (cY K Z hr.units) (eL K B (ao (pv 0) az)) (eL K B (ao (pv 1) az)) (bI _)) (j9 (dM (x:="all") (qy K Z Z) Z (B.at "all") tD (ao (gB (N:=["_law_one","_law_two"]) (js:=[none,none]) rfl rfl rfl (jU K rfl false false rfl (B.at "zip") (ao (pv 0) (ao (pv 1) az))) (λ_ _ _ _ _=>(eG K rfl (n:=2) rfl (bZ (bp 0 (fF aA)) (bZ (bp 1 (fF aA)) eu)))) (λ_ _ _ _ _=>fL) (λ_ _ _ _ _=>(pI mY (hr.mono au) rfl (ao (pv 0) (ao (pv 1) az))))) az))))))) bU) (aE (bR (cV (dX K B (ao (pv 1) (ao (dy (x:="str") (v:=.ty "str") Z (B.at "str") oU rfl) az)))) (aL (aX (iR (dX K B (ao (pv 0) (ao (dy (x:="str") (v:=.ty "str") Z (B.at "str") oU rfl) az))) (j9 (fE (cY K rfl hr.units) (pv 0) (pv 1) (bI _)))))) bU) (aL (aX (iR (pI CP (hr.mono au) Z (ao (pv 0) az)) (j9 (fE (cY K Z hr.units) (pv 0) (pv 1) (bI _)))))))),?_⟩
   obtain⟨va,xs,rfl,hV,iH⟩:=rv.dS;obtain⟨ua,ys,rfl,hU,pU⟩:=ru.dS;have lx:=iH.length;have ly:=pU.length;refine⟨_,Z,bT Z,λtt H1 n1=>.inr ⟨_,"tuple",tt,["list","tuple"],_,Z,n1.at',.inr ⟨Z,_,hU.go n1.same⟩,aA,Z,_,Z,cg ?_⟩⟩;have s1:=n1.same;refine⟨_,Z,.inl ⟨_,"tuple","list",_,Z,.inr ⟨Z,_,hU.go s1⟩,aA,Mt,_,Z,.inl ⟨_,"tuple","list",_,Z,.inr ⟨Z,_,hV.go s1⟩,aA,Mt,.inr ⟨.bool false,.bool false,lg _,lg _,Z,Z,_,Z,bN ?_⟩⟩⟩⟩;refine⟨_,Z,.inl ⟨_,"tuple","tuple",_,Z,.inr ⟨Z,_,hU.go s1⟩,aA,Ms,_,Z,.inl ⟨_,"tuple","tuple",_,Z,.inr ⟨Z,_,hV.go s1⟩,aA,Ms,.inr ⟨.bool true,.bool true,lg _,lg _,Z,Z,_,Z,bN ?_⟩⟩⟩⟩;refine⟨_,Z,va,_,Z,.inr (hV.go s1),_,Z,ua,_,Z,.inr (hU.go s1),.inl ⟨_,_,Z,Z,_,Z,?_⟩⟩;rw[cP (show(xs.length:Int)=(ys.length:Int) by lia)];refine cg ?_;refine⟨_,Z,_,Z,va,ua,Z,⟨_,hV.go s1⟩,⟨_,hU.go s1⟩,λD2 H2 n2=>?_⟩;refine UL (K:=K) (b1:=false) (b2:=false) (xs:=xs) (ys:=ys) (bs:=List.replicate ds.length true) _ Z (hV.go s1) (hU.go s1) n2 (by rw[AO];lia) (by rw[AO];lia) ?_ ?_
   ·intro q x y b H3 Q' ex ey eb s3 hq
    have Kj:b=true:=by
     rw[WC]at eb;split at eb
     ·exact(dQ eb).symm
     ·cases eb
    subst Kj;have dw:=s1.trans s3;obtain⟨d1,e1,r1⟩:=iH.get' q ex;obtain⟨d2,e2,r2⟩:=pU.get' q ey;rw[e1]at e2;cases e2;exact⟨_,Z,_,Z,x,y,d1,Z,RD.mono dw _ r1,RD.mono dw _ r2,hA d1 (gI e1),λH4 s4=>hq H4 s4⟩
   ·intro H3 s3 d3
    refine⟨D2,_,Z,aH.of d3,?_⟩;rw[Vs];exact k H3 (s1.trans s3)
  ·refine⟨_,(aE (bR (cV (dX K B (ao (pv 1) (ao (ck (ao (dy (x:="list") (v:=.ty "list") Z (B.at "list") kB rfl) (ao (dy (x:="tuple") (v:=.ty "tuple") rfl (B.at "tuple") fW rfl) az))) az)))) (aE (bR (PW.pt (m5 (cu (jB K Z hr.units) (dX K B (ao (pv 1) (ao (dy (x:="list") (v:=.ty "list") Z (B.at "list") kB rfl) az))) (dX K B (ao (pv 0) (ao (dy (x:="list") (v:=.ty "list") rfl (B.at "list") kB rfl) az))) (bI _)) (mH (cu (jB K rfl hr.units) (dX K B (ao (pv 1) (ao (dy (x:="tuple") (v:=.ty "tuple") rfl (B.at "tuple") fW rfl) az))) (dX K B (ao (pv 0) (ao (dy (x:="tuple") (v:=.ty "tuple") rfl (B.at "tuple") fW rfl) az))) (bI _))))) (aL (aX gC)) bU) (aL (aX (iR (fE (cY K Z hr.units) (eL K B (ao (pv 0) az)) (eL K B (ao (pv 1) az)) (bI _)) (j9 (dM (x:="all") (qy K Z Z) Z (B.at "all") tD (ao (gB (N:=["_law_one","_law_two"]) (js:=[none,none]) rfl rfl rfl (jU K rfl true true rfl (B.at "zip") (ao (pv 0) (ao (pv 1) az))) (λ_ _ _ _ _=>(eG K rfl (n:=2) rfl (bZ (bp 0 (fF aA)) (bZ (bp 1 (fF aA)) eu)))) (λ_ _ _ _ _=>fL) (λ_ _ _ _ _=>(pI mY (hr.mono au) rfl (ao (pv 0) (ao (pv 1) az))))) az))))))) bU) (aE (bR (cV (dX K B (ao (pv 1) (ao (dy (x:="str") (v:=.ty "str") Z (B.at "str") oU rfl) az)))) (aL (aX (iR (dX K B (ao (pv 0) (ao (dy (x:="str") (v:=.ty "str") Z (B.at "str") oU rfl) az))) (j9 (fE (cY K rfl hr.units) (pv 0) (pv 1) (bI _)))))) bU) (aL (aX (iR (pI CP (hr.mono au) Z (ao (pv 0) az)) (j9 (fE (cY K Z hr.units) (pv 0) (pv 1) (bI _)))))))),?_⟩
   obtain⟨va,xs,rfl,hV,iH⟩:=rv.lst_inv;obtain⟨ua,ys,rfl,hU,pU⟩:=ru.lst_inv;have lx:=iH.length;have ly:=pU.length;refine⟨_,Z,bT Z,λtt H1 n1=>.inr ⟨_,"list",tt,["list","tuple"],_,Z,n1.at',.inl ⟨Z,_,hU.go n1.same⟩,aA,Z,_,Z,cg ?_⟩⟩;have s1:=n1.same;refine⟨_,Z,.inl ⟨_,"list","list",_,Z,.inl ⟨Z,_,hU.go s1⟩,aA,Mw,_,Z,.inl ⟨_,"list","list",_,Z,.inl ⟨Z,_,hV.go s1⟩,aA,Mw,.inr ⟨.bool true,.bool true,lg _,lg _,Z,Z,_,Z,bN ?_⟩⟩⟩⟩;refine⟨_,Z,.inl ⟨_,"list","tuple",_,Z,.inl ⟨Z,_,hU.go s1⟩,aA,Mu,_,Z,.inl ⟨_,"list","tuple",_,Z,.inl ⟨Z,_,hV.go s1⟩,aA,Mu,.inr ⟨.bool false,.bool false,lg _,lg _,Z,Z,_,Z,bN ?_⟩⟩⟩⟩;refine⟨_,Z,va,_,Z,.inl (hV.go s1),_,Z,ua,_,Z,.inl (hU.go s1),.inl ⟨_,_,Z,Z,_,Z,?_⟩⟩;rw[cP (show(xs.length:Int)=(ys.length:Int) by lia)];refine cg ?_;refine⟨_,Z,_,Z,va,ua,Z,⟨_,hV.go s1⟩,⟨_,hU.go s1⟩,λD2 H2 n2=>?_⟩;refine UL (K:=K) (b1:=true) (b2:=true) (xs:=xs) (ys:=ys) (bs:=List.replicate ds.length true) _ Z (hV.go s1) (hU.go s1) n2 (by rw[AO];lia) (by rw[AO];lia) ?_ ?_
   ·intro q x y b H3 Q' ex ey eb s3 hq
    have Kj:b=true:=by
     rw[WC]at eb;split at eb
     ·exact(dQ eb).symm
     ·cases eb
    subst Kj;have dw:=s1.trans s3;obtain⟨d1,e1,r1⟩:=iH.get' q ex;obtain⟨d2,e2,r2⟩:=pU.get' q ey;rw[e1]at e2;cases e2;exact⟨_,Z,_,Z,x,y,d1,Z,RD.mono dw _ r1,RD.mono dw _ r2,hA d1 (gI e1),λH4 s4=>hq H4 s4⟩
   ·intro H3 s3 d3
    refine⟨D2,_,Z,aH.of d3,?_⟩;rw[Vs];exact k H3 (s1.trans s3)
end
end Lw
set_option maxHeartbeats 4000000
namespace Lw
open PySem PySem.Spec PyProof.Rows L2 Rt Ln Cn Pn Wk Rn
open Ow (topR cornO mnO betR atO ownF leadF ownL OkI OkIs)
section
variable {w:World} {mg:bJ} {ay:Heap}
theorem mJ(h:SeqAt.shaped (.str z)=true):cZ n (.str z):=⟨Wb h,gy _⟩
theorem wg{z:Str}(h:z="step"\/z="wait"\/z="tool"\/z="mark"):SeqAt.shaped (.str z)=true:=by rcases h with rfl|rfl|rfl|rfl<;>decide+kernel
abbrev A0:ai->Prop:=λ_=>False
theorem mM(z:Int):Nx A (.int z):=.inl (.inl ⟨z,Z⟩)
theorem pM(hn:n<=8)(h:cZ n (.str s)):Nx A (.str s):=.inl (.inr ⟨s,Z,h.shaped au,h.refl⟩)
theorem Ym(ti:Int)(zs:List Int)(q:Rat)(hz:zs.length<=1000):Nx (Nx (Nx A0)) (ph ti zs q):=by
 refine .inr ⟨_,.inl Z,(by simp),λx hx=>?_⟩;simp only[bL,cE,dv]at hx;rcases hx with rfl|rfl|rfl|rfl
 ·exact pM (n:=0) aA (mJ (wg (.inl Z)))
 ·refine .inr ⟨_,.inl Z,by rw[cx];lia,λy hy=>?_⟩
  obtain⟨z,_,rfl⟩:=kC.mp hy;exact mM z
 ·exact mM _
 ·refine .inr ⟨_,.inl Z,(by simp),λy hy=>?_⟩
  simp only[bL,cE,dv]at hy;rcases hy with rfl|rfl<;>exact mM _
theorem Qr(h:qz d):Nx (Nx (Nx A0)) d:=by
 rcases h with⟨n,rfl,_⟩|⟨w,s,rfl,hw,h,_⟩
 ·refine .inr ⟨_,.inl Z,(by simp),λx hx=>?_⟩
  simp only[bL,cE,dv]at hx;rcases hx with rfl|rfl
  ·exact pM (n:=0) aA (mJ (wg (.inr (.inl Z))))
  ·exact mM _
 ·refine .inr ⟨_,.inl Z,(by simp),λx hx=>?_⟩
  simp only[bL,cE,dv]at hx;rcases hx with rfl|rfl
  ·exact pM (n:=0) aA (mJ (wg (.inr (.inr hw))))
  ·exact pM aA h
theorem a4m(h:fj n 100 ns)(hn:n<=1000):Nx (Nx (Nx A0)) (iE ns sp):=by
 refine .inr ⟨_,.inl Z,(by simp),λx hx=>?_⟩;simp only[bL,cE,dv]at hx;rcases hx with rfl|rfl|rfl
 ·exact .inl (.inr ⟨_,Z,uy,aW⟩)
 ·refine .inr ⟨_,.inl Z,by rw[cx,h.len];lia,λy hy=>?_⟩
  obtain⟨z,_,rfl⟩:=kC.mp hy;exact mM z
 ·exact mM _
theorem ZD{n:Nat}{ds:List ai}{os:List Itm}(h:gW n ds os)(hw:RowW ds os)(hn:n<=1000)(hl:ds.length<=1000):Nx (Nx (Nx (Nx A0))) (.list ds):=by refine .inr ⟨_,.inr Z,au,λx hx=>?_⟩;obtain⟨i,hi⟩:=tG.mp hx;obtain⟨o,eo,it⟩:=h.get hi;cases o with |none=>exact Qr (hw i x eo hi) |some z=>obtain⟨ns,sp⟩:=z;rw[kM it];exact a4m (h.ok i ns sp eo).1 hn
theorem aay{bs:List Bool}{D:Addr}(Pr:V->V->Prop)(rest:L2.St)(hn:n=2)(hx:aH K H a xs)(nw:Nw H H0 D (.lst []))(hl:xs.length=bs.length)(hz:xs.length<=1000) (hp:∀(i:Nat)(x:V),xs[i]? =some x->∃p y z,x= .ref p/\aR K H p [y,z]/\Pr y z) (hs:∀(i:Nat)(y z:V)(b:Bool)(H2:Hp)(Q':VK),Pr y z->bs[i]? =some b->aF H H2->(∀H3,aF H2 H3->Q' (.bl b) H3)->te (some y::some z::rest) H2 Q') (hq:∀H',aF H H'->H' D=some (.lst (bs.map V.bl))->Q (.ref D) H'):j6 (sQ K a) (qi K n (kh (fo 0) (kh (fo 1) rZ))) ir te Q D (none::none::rest) H0:=by
 subst hn;have hD:=nw.no;refine sH xs.length (λi O H2=>aF H H2/\H2 D=some (.lst ((bs.take i).map V.bl))/\∃v v',O=v::v'::rest) ?_ ?_ ?_
 ·exact⟨nw.same,nw.at',none,none,Z⟩
 ·rintro i O H2 hi ⟨s2,d2,v,v',rfl⟩
  have xp:i<bs.length:=by rw[<-hl];exact hi
  have ex:=cn hi;have eb:=cn xp;refine⟨⟨xs,_,hx.go s2,ex⟩,λy' H3 ka=>?_⟩;obtain⟨rfl,k1⟩:=ka;have e1:=k1 _ (hx.go s2);rw[ex]at e1;cases e1;obtain⟨p,y,z,ep,hpp,pr⟩:=hp i _ ex;rw[ep]at ex⊢;refine⟨p,_,Z,hpp.go s2,Z,_,_,Z,_,_,Z,Z,?_⟩;refine yes (cg ?_);refine hs i y z _ _ _ pr eb s2 λH4 s4=>?_;refine⟨_,s4 _ _ d2,?_,xs.length-(i+1),au,Z,au,λb o e=>?_,?_,_,_,Z⟩
  ·rw[cx,oY]
   have:(1000:Nat)<sizeLine:=by decide
   lia
  ·rw[aO (fT e hD)];exact s4 b o (s2 b o e)
  ·rw[bo,qH,eb,oX];rfl
 ·rintro O H2 ⟨s2,d2,v,v',rfl⟩
  refine⟨⟨xs,hx.go s2,bK _⟩,hq H2 s2 ?_⟩;rw[d2,hl,yh]
def DP(es:List ai):Prop:=SeqAt.shaped (.list es)=true/\PyData.eqv (.list es) (.list es)=true/\cS es=true
structure Ad where
 a:Addr
 q:Addr
 d:Addr
 e:Addr
 t:Addr
def Ad.all(x:Ad):List Addr:=[x.a,x.q,x.d,x.e,x.t]
def lP(K:aa)(H:Hp)(td:Addr)(n:Nat)(X:Addr->Prop):Prop:=∃ts,H td=some (.lst ts)/\ts.length<=n/\∀t∈ts,∃p l ta us es,t=V.ref p/\aR K H p [.ref l,.ref ta]/\H l=some (.lst us)/\aR K H ta us/\aJ K H us es/\DP es/\¬X l
theorem lP.go(h:lP K H td n X)(hm:n<=m)(s:cj H H')(et:∀o,H td=some o->H' td=some o)(hl:∀l us,¬X l->H l=some (.lst us)->H' l=some (.lst us)/\¬X' l):lP K H' td m X':=by obtain⟨ts,e,l,ht⟩:=h;refine⟨ts,et _ e,au,λt m=>?_⟩;obtain⟨p,l,ta,us,es,h1,h2,h3,h4,h5,h6,h7⟩:=ht t m;obtain⟨g1,g2⟩:=hl l us h7 h3;exact⟨p,l,ta,us,es,h1,aR.v s h2,g1,aR.v s h4,aJ.v s _ h6.2.2 h5,h6,g2⟩
theorem cF.mono{D:Nat}(h:cF M D S)(h1:D<=D')(h2:D'<=1500):cF M D' S:=by refine⟨h.row,h.rw,h.len,h.dR,h.ek,h.dn,h.pl,h.pd.mono au,h.pm,?_,by have:=h.D1;lia,h2⟩;have:=h.ba;cases hs:S.ba with |none=>trivial |some z=>obtain⟨sq,st,gn⟩:=z;rw[hs]at this;obtain⟨g0,g1,g2,hd,hl,hz,hh⟩:=this;exact⟨g0,g1,g2,hd.mono h1,hl,hz,hh⟩
theorem One.goal{D:Nat}(ok:cF M D S)(o:One M S e S1):cL S1=cL S:=by cases o with |line eo nh=>exact Tb eo |iC eo ed nh=>obtain⟨_,_,_,_,h⟩:=Qp (d:=e) ok eo;exact h
theorem Run.goal{D:Nat}(ok:cF M D S)(aU:M.Ok)(r:Run M S es S1):cL S1=cL S:=by induction r with |nil=>rfl |cons o _ ih=>rw[ih (One.ok ok aU o),o.goal ok]
theorem One.det(h:One M S e S1)(g:One M S f S2):e=f/\S1=S2:=by cases h with
 |line h1 _=>cases g with |line g1 _=>rw[h1]at g1;cases g1;exact⟨rfl,rfl⟩ |iC g1 _ _=>rw[h1]at g1;cases g1
 |iC h1 h2 _=>cases g with |line g1 _=>rw[h1]at g1;cases g1 |iC g1 g2 _=>rw[h2]at g2;cases g2;exact⟨rfl,rfl⟩
theorem One.go(h:One M S e S1):¬(S.os=[]\/Halt S.pc S.ba):=by
 rintro(z|z)
 ·cases h with |line h1 _=>rw[z]at h1;simp at h1 |iC h1 _ _=>rw[z]at h1;simp at h1
 ·cases h with |line _ nh=>exact nh z |iC _ _ nh=>exact nh z
theorem Run.aah{fs:List ai}(h:Run M S es S1){n:Int}(l1:(es.length:Int)<=n)(c1:(es.length:Int)=n\/S1.os=[]\/Halt S1.pc S1.ba)(g:Run M S fs S2)(l2:(fs.length:Int)<=n)(c2:(fs.length:Int)=n\/S2.os=[]\/Halt S2.pc S2.ba):es=fs/\S1=S2:=by induction h generalizing fs n with
 |nil=>cases g with |nil=>exact⟨Z,Z⟩ |cons o r=>
  rcases c1 with z|z
  ·simp only[jM,E9]at z l2;lia
  ·exact(o.go z).elim
 |cons o r ih=>cases g with
  |nil=>
   rcases c2 with z|z
   ·simp only[jM,E9]at z l1;lia
   ·exact(o.go z).elim |cons o2 r2=>obtain⟨e,z⟩:=o.det o2;subst e z;simp only[jM]at l1 c1 l2 c2;obtain⟨e1,e2⟩:=ih (n:=n-1) au (c1.imp (λh=>by lia) id) r2 au (c2.imp (λh=>by lia) id);exact⟨by rw[e1],e2⟩
theorem Yl(ti:Int)(zs:List Int)(q:Rat):cZ 2 (ph ti zs q):=by refine gu.tup (.cons (mJ (wg (.inl Z))) (.cons (gu.tup λd hd=>?_) (.cons (.int _) (.cons (gu.tup (.cons (.int _) (.cons (.int _) .nil))) .nil))));obtain⟨a,_,rfl⟩:=kC.mp hd;exact .int _
theorem Qq(h:qz d):cZ 2 d:=by
 rcases h with⟨n,rfl,_⟩|⟨w,s,rfl,hw,h,_⟩
 ·exact gu.tup (.cons (mJ (wg (.inr (.inl Z)))) (.cons (.int _) .nil))
 ·exact gu.tup (.cons (mJ (wg (.inr (.inr hw)))) (.cons (h.le aA) .nil))
theorem Run.ent{D:Nat}(ok:cF M D S)(aU:M.Ok)(r:Run M S es S1):∀d∈es,cZ 2 d/\Nx (Nx (Nx A0)) d:=by induction r with |nil=>exact nofun |@cons S S1 S2 e es o r ih=>
 intro d hd;rcases bL.mp hd with rfl|hd
 ·cases o with
  |@line ns sp eo nh=>
   refine⟨Yl _ _ _,Ym _ _ _ ?_⟩;have h1:=(ok.row.ok 0 ns sp eo).1.len;have h2:=aU.len;simp only[iy,cx]
   lia |iC eo ed nh=>have:=ok.rw 0 d eo ed;exact⟨Qq this,Qr this⟩
 ·exact ih (One.ok ok aU o) d hd
theorem a9E(h:∀d∈es,cZ 2 d)(hn:cS es=true):DP es:=by have:cZ 3 (.list es):=gu.lst h;exact⟨this.shaped aA,this.refl,hn⟩
section
variable {C a lr ls:Addr}{mv:V}{la:List Int}{M:bS}{H H':Hp}{n:Nat}{A:Nat->Ad}{S:Nat->bE}
end
def SM(S:bE):Prop:=cZ 0 (.str S.side)/\cZ 0 (.str S.mark)
theorem Yw(pl:List Int):SM (nM pl):=⟨(mJ aW:cZ 0 (.str "up")),(mJ aW:cZ 0 (.str ""))⟩
theorem same_none(s:aF H0 H)(h:H x=none):H0 x=none:=by cases e:H0 x with |none=>rfl |some o=>have:=s _ _ e;rw[h]at this;cases this
theorem Kf(h:SM S):SM (jb S):=by unfold jb;split<;>exact h
theorem One.sm{D:Nat}(ok:cF M D S)(o:One M S e S1)(h:SM S):SM S1:=by cases o with
 |line eo nh=>
  unfold fS;split
  ·exact Kf h
  ·exact h |iC eo ed nh=>
  have oo:=ok.rw 0 e eo ed;rcases oo with⟨n,rfl,_⟩|⟨w,s,rfl,hw,hs,_⟩
  ·exact Kf h
  ·show SM (jb (if w="tool" then{S with side:=s}else if w="mark" then{S with mark:=s}else S))
   refine Kf ?_;split
   ·exact⟨hs,h.2⟩
   ·split
    ·exact⟨h.1,hs⟩
    ·exact h
theorem Run.sm{D:Nat}(ok:cF M D S)(aU:M.Ok)(r:Run M S es S1)(h:SM S):SM S1:=by induction r with |nil=>exact h |cons o _ ih=>exact ih (One.ok ok aU o) (o.sm ok h)
theorem Q6(h:pl.length<=1000):Nx (Nx A) (g9 pl):=by refine .inr ⟨_,.inl Z,by rw[cx];lia,λy hy=>?_⟩;obtain⟨z,_,rfl⟩:=kC.mp hy;exact mM z
theorem a03(q:Rat):Nx (Nx A) (da q):=by refine .inr ⟨_,.inl Z,(by simp),λy hy=>?_⟩;simp only[bL,cE,dv]at hy;rcases hy with rfl|rfl<;>exact mM _
theorem Td{D:Nat}(ok:cF M D S):(cL S).length=M.rs.length:=A1 _ _ ok.pl ok.uj
def wj(S:bE):List ai:=[g9 (fM S),g9 (cL S),da S.pc,.int S.aB,.str S.side,.str S.mark]
theorem YR{D:Nat}(ok:cF M D S)(aU:M.Ok)(sm:SM S):Nx (Nx (Nx (Nx A0))) (.list (wj S)):=by
 have lr:=aU.len;refine .inr ⟨_,.inr Z,(by simp[wj]),λx hx=>?_⟩;simp only[wj,bL,cE,dv]at hx;rcases hx with rfl|rfl|rfl|rfl|rfl|rfl
 ·exact Q6 (by rw[Q7 ok];lia)
 ·exact Q6 (by rw[Td ok];lia)
 ·exact a03 _
 ·exact mM _
 ·exact pM (n:=0) aA sm.1
 ·exact pM (n:=0) aA sm.2
theorem a4O{D:Nat}(ok:cF M D S):DP S.ds:=by refine a9E (λd hd=>?_) ok.row.no;obtain⟨i,hi⟩:=tG.mp hd;obtain⟨o,eo,it⟩:=ok.row.get hi;cases o with |none=>exact Qq (ok.rw i d eo hi) |some z=>obtain⟨ns,sp⟩:=z;rw[kM it];refine gu.tup (.cons (mJ uy) (.cons (gu.tup λd hd=>?_) (.cons (.int _) .nil)));obtain⟨a,_,rfl⟩:=kC.mp hd;exact .int _
theorem aav{D:Addr}(hx:aH K H a [V.bl b0,.bl b1])(nw:Nw H H0 D (.lst []))(hs:∀(b:Bool)(H2:Hp)(Q':VK),Q' (.bl true) H2->te [some (V.bl b)] H2 Q')(hq:∀H',aF H H'->H' D=some (.lst ([true,true].map V.bl))->Q (.ref D) H'):j6 (sQ K a) (fo 0) ir te Q D [none] H0:=by
 refine aax (bs:=[true,true]) [] hx nw Z (by simp) (λi x b H2 Q' ex eb s2 kq=>?_) hq;have hb:b=true:=by match i,eb with |0,eb=>cases eb;rfl |1,eb=>cases eb;rfl
 subst hb
 match i,ex with |0,ex=>cases ex;exact hs _ _ _ (kq _ (aF.refl _)) |1,ex=>cases ex;exact hs _ _ _ (kq _ (aF.refl _))
inductive acp(K:aa)(C:Addr)(vs:List V)(H:Hp)(Q:VK):Prop |mk (a:_)(q:_)(d:_)(e:_)(t:_)(M:_)(D:_)(S:_)(n:_)(X:_)(h0:vs=[.ref a,.ref d])(h1:du K C H a q M S)(h2:dj K H d e t M S)(h3:cF M D S)(h4:M.Ok)(h5:SM S)(h6:lP K H t n X)(h7:40<=n)(h8:n<=900)(h9:(∀x,X x->H x≠none))(zW:X t)(T9:t≠a)(T5:t≠q)(T4:t≠d)(h14:t≠e)(SY:∀H',bF [t] H H'->lP K H' t n X->Q (.bl true) H')
def EO(K:aa)(C:Addr):Sp:=λvs H Q _=>acp K C vs H Q
theorem O2:bG ["_law_runner","_law_sim_here","_law_found","_law_due","_law_waits"] ["_law_runner","_law_sim_here"] (aZ Fy):=bQ aW
theorem a1Z(F:FA K mg "_law_seen" Fy)(B:bV mg)(TC:gX K C)(mY:aI P w K mg ay "_law_alike" 5 (yJ (Nx (Nx (Nx (Nx A0)))) K))(a7q:aI P w K mg ay "_law_sim_stops" 1 (Nd K))(JE:dG P w K mg ay C "waiting" 1 (fK K C λ_ S H Q=>∀l ys H',H l=none->H' l=some (.lst ys)->aJ K H' ys S.ds->aF H H'->Q (.ref l) H'))(a7g:dG P w K mg ay C "place" 3 (fK K C λ_ S H Q=>∀v H',RD K H' v (g9 (fM S))->aF H H'->Q v H'))(JG:dG P w K mg ay C "leads_to" 3 (fK K C λ_ S H Q=>∀v H',RD K H' v (g9 (cL S))->aF H H'->Q v H'))(a7e:dG P w K mg ay C "square" 1 (fK K C (Tr K)))(a7f:dG P w K mg ay C "rate" 1 (fK K C λ_ S H Q=>Q (.int S.aB) H))(a7b:dG P w K mg ay C "tool" 1 (fK K C λ_ S H Q=>Q (.str S.side) H))(a7i:dG P w K mg ay C "last_mark" 1 (fK K C λ_ S H Q=>Q (.str S.mark) H))(zS:dG P w K mg ay C "is_held" 1 (fK K C λ_ S H Q=>Q (.bl S.ba.isSome) H))(JF:dG P w K mg ay C "stands" 1 (fK K C λ_ S H Q=>Q (.bl (decide (S.pc=0))) H))(a7c:dG P w K mg ay C "stops_in" 1 (fK K C λM S H Q=>Q (.int (EJ M.f S.pc)) H)):aI P w K mg ay "_law_seen" 6 (EO K C):=by
 refine F.has O2 (λvs H Q E h=>?_) (λ_ _ _ _ _ _=>dJ λ_ _=>rfl) (λf aP A outer s H vs Q E hr h=>?_)
 ·obtain⟨a,q,d,e,t,M,D,S,n,X,rfl,_⟩:=h
  rfl
 ·obtain⟨a,q,d,e,t,M,D,S,n,X,rfl,R,afH,ok,aU,sm,T,n40,aeC,hX,hXt,ta,tq,td,te,k⟩:=h
  obtain⟨dx,QU,V8,cW,tv,er,_⟩:=R.ob;obtain⟨mv,lv,gv,sv,bv,cv,rv,ez,r1,r2,r3,r4,r5,r6⟩:=afH.ob;obtain⟨ys,eq,rq⟩:=afH.qu;obtain⟨ts,et,lt,ht⟩:=T;have nd:=O2.nd;have no:=ok.row.no;have IK:=aU.len;have wZ:=ok.len;have kg:sizeLine=16777216:=by decide
  refine⟨_,(aE (pS 2 nd (cK (ao (iQ a7g TC.cl (hr.mono aA) (pv 0)) (ao (iQ JG TC.cl (hr.mono aA) (pv 0)) (ao (iQ a7e TC.cl (hr.mono aA) (pv 0)) (ao (iQ a7f TC.cl (hr.mono aA) (pv 0)) (ao (iQ a7b TC.cl (hr.mono aA) (pv 0)) (ao (iQ a7i TC.cl (hr.mono aA) (pv 0)) az)))))))) (aE (pS 3 nd (cK (ao (cR hr (pv 1) aV) (ao (cR hr (pv 1) aV) (ao (cR hr (pv 1) aV) (ao (cR hr (pv 1) aV) (ao (cR hr (pv 1) aV) (ao (cR hr (pv 1) aV) az)))))))) (aE (pS 4 nd (iQ JE TC.cl (hr.mono aA) (pv 0))) (aE (bR (PW.pt (m5 (fD (cV (pf mY hr (ao (pv 2) (ao (pv 3) az))))) (mH (fD (cV (pf mY hr (ao (pv 4) (ao (cR hr (pv 1) aV) az)))))))) (aL (aX gC)) bU) (aE (hJ (bR (cu kJ (eL K B (ao (cR hr (pv 1) aV) az)) aD (bI _)) (aL (iA (jW K Z (cR hr (pv 1) aV) (ao (ck (ao (pv 4) (ao (gQ (x:="tuple") (kX K Z) Z (B.at "tuple") fW (ao (pv 4) az)) az))) az)))) bU)) (aE (bR (cV (dM (x:="any") (Vq K Z Z) Z (B.at "any") Ww (ao (gB (N:=["_law_one","_law_kept"]) (js:=[none,none]) rfl rfl rfl (yZ K rfl (cR hr (pv 1) aV)) (λ_ _ _ _ _=>(eG K rfl (n:=2) rfl (bZ (bp 0 (fF aA)) (bZ (bp 1 (fF aA)) eu)))) (λ_ _ _ _ _=>fL) (λ_ _ _ _ _=>(fE (jB K rfl hr.units) (pv 0) (gQ (x:="list") (Ce K rfl) rfl (B.at "list") kB (ao (pv 1) az)) (bI _)))) az))) (aL (aX gC)) bU) (aE (pS 2 nd (cK (ao (iQ zS TC.cl (hr.mono aA) (pv 0)) (ao (iQ JF TC.cl (hr.mono aA) (pv 0)) az)))) (aE (bR (fD (cV (dM (x:="all") (qy K Z Z) Z (B.at "all") tD (ao (gB (N:=["_law_one"]) (js:=[none]) rfl rfl rfl (yZ K rfl (pv 2)) (λ_ _ _ _ _=>(bp 0 (uu _))) (λ_ _ _ _ _=>fL) (λ_ _ _ _ _=>(dX K B (ao (pv 0) (ao (dy (x:="bool") (v:=.ty "bool") rfl (B.at "bool") Wv rfl) az))))) az)))) (aL (aX gC)) bU) (aE (bR (cu (jB K Z hr.units) (pv 2) (cK (ao (fE zb (cR hr (pv 1) aV) jV (bI _)) (ao (fE (cY K Z hr.units) (cR hr (pv 1) aV) (ck (ao aD (ao aD az))) (bI _)) az))) (bI _)) (aL (aX gC)) bU) (aL (aX (pf mY hr (ao (iQ a7c TC.cl (hr.mono aA) (pv 0)) (ao (pf a7q hr (ao (pv 1) az)) az)))))))))))))),?_⟩;refine⟨_,Z,a,dx,_,Z,er,Z,a,q,M,D,S,Z,R,ok,aU,λpv1 H1 rp s1=>?_⟩;refine⟨_,Z,a,dx,_,Z,s1 _ _ er,Z,a,q,M,D,S,Z,R.same no s1,ok,aU,λgv1 H2 rg s2=>?_⟩;have jR:=s1.trans s2;have R2:=R.same no jR;have oA:=jR _ _ er;refine⟨_,Z,a,dx,_,Z,oA,Z,a,q,M,D,S,Z,R2,ok,aU,λYs Zu=>?_⟩;refine⟨_,Z,a,dx,_,Z,oA,Z,a,q,M,D,S,Z,R2,ok,aU,?_⟩;refine⟨_,Z,a,dx,_,Z,oA,Z,a,q,M,D,S,Z,R2,ok,aU,?_⟩;refine⟨_,Z,a,dx,_,Z,oA,Z,a,q,M,D,S,Z,R2,ok,aU,?_⟩;refine⟨bT Z,λl1 H3 n3=>?_⟩;have dw:=jR.trans n3.same;have ZN:aJ K H3 [pv1,gv1,Ys,.int S.aB,.str S.side,.str S.mark] (wj S):=bW (RD.mono (s2.trans n3.same) _ rp) (bW (RD.mono n3.same _ rg) (bW (Zu.go n3.same).rd (bW (dU _) (bW (cM _) (bW (cM _) cU)))));have xG:=dw _ _ ez;refine⟨_,Z,d,_,Z,dg xG Tp,?_⟩;refine⟨_,Z,d,_,Z,dg xG JO,?_⟩;refine⟨_,Z,d,_,Z,dg xG xC,?_⟩;refine⟨_,Z,d,_,Z,dg xG JN,?_⟩;refine⟨_,Z,d,_,Z,dg xG a7V,?_⟩;refine⟨_,Z,d,_,Z,dg xG a7W,?_⟩;refine⟨bT Z,λl2 H4 n4=>?_⟩;have gm:=dw.trans n4.same;have Hl:aJ K H4 [lv,gv,sv,.int S.aB,.str S.side,.str S.mark] (wj S):=bW (RD.mono gm _ r2) (bW (RD.mono gm _ r3) (bW (r4.go gm).rd (bW (dU _) (bW (cM _) (bW (cM _) cU)))));refine⟨_,Z,a,dx,_,Z,gm _ _ er,Z,a,q,M,D,S,Z,R.same no gm,ok,aU,λl zs H5 nl dl rl s5=>?_⟩;have wq:=gm.trans s5;have Pb:=n4.same.trans s5;refine⟨_,Z,_,Z,.ref l1,.ref l2,.list (wj S),Z,jS (aH.of (Pb _ _ n3.at')) (aJ.mono Pb _ ZN),jS (aH.of (s5 _ _ n4.at')) (aJ.mono s5 _ Hl),YR ok aU sm,λH6 s6=>?_⟩;have kH:=wq.trans s6;refine⟨_,Z,bN ?_⟩;refine⟨_,Z,_,Z,d,_,Z,dg (kH _ _ ez) mZ,.ref l,.ref e,.list S.ds,Z,jS (aH.of (s6 _ _ dl)) (aJ.mono s6 _ rl),jS (aH.of (kH _ _ eq)) (aJ.mono kH _ rq),ZD ok.row ok.rw au au,λH7 s7=>?_⟩;have tY:=kH.trans s7;have nQ:=s6.trans s7;refine⟨_,Z,bN ?_⟩;have Io:H l=none:=same_none gm nl;have C7:l≠t:=λz=>by rw[z,et]at Io;cases Io
  have vf:=nQ _ _ dl;have ZM:=aJ.mono nQ _ rl;have Ka:=tY _ _ et;have TL:=tY _ _ ez;have nXl:¬X l:=λz=>hX l z Io;have T7:lP K H7 t n X:=lP.go (H:=H) ⟨ts,et,lt,ht⟩ (bK _) tY.v (λo e=>tY _ _ e) λl us hx e=>⟨tY _ _ e,hx⟩;refine⟨λO H8=>∃v2 v3,O=[some (.ref a),some (.ref d),v2,v3,some (.ref l)]/\bF [t] H H8/\lP K H8 t n X,?_,?_⟩
  ·refine⟨_,Z,d,_,Z,dg TL JM,t,ts,Z,.inl (aH.of Ka),_,_,Z,Z,_,Z,?_⟩
   refine eQ (λJL=>?_) (λJL=>?_)
   ·have JL:((ts.length:Nat):Int)<40:=jL JL
    refine⟨_,Z,d,_,Z,dg TL JM,.inl ⟨Z,_,aH.of Ka⟩,?_⟩;refine⟨_,Z,_,Z,l,zs,Z,.inl ⟨aH.of vf,λtt HB nB=>?_⟩⟩;refine⟨bT Z,λtp HC nC=>?_⟩;have BD:=nB.same.trans nC.same;have TY:=BD _ _ Ka;refine⟨t,ts,_,Z,Z,TY,au,?_⟩;have vD:cj HC (L2.upd HC t (.lst (ts++[.ref tp]))):=.upd TY trivial;have bD:∀x o,x≠t->HC x=some o->(L2.upd HC t (.lst (ts++[.ref tp]))) x=some o:=λx o hx e=>by rw[aO hx];exact e
    have eD:(L2.upd HC t (.lst (ts++[.ref tp]))) t=some (.lst (ts++[.ref tp])):=bo;generalize L2.upd HC t (.lst (ts++[.ref tp]))=HD at vD bD eD⊢;have GW:=tY.trans BD;refine⟨_,_,Z,λx o eb hb=>bD x o (λz=>hb (by rw[z];simp)) (GW _ _ eb),ts++[.ref tp],eD,by rw[fC];show ts.length+1<=_;lia,λy hy=>?_⟩;rcases vF.mp hy with hy|hy
    ·obtain⟨p0,l0,yB,u0,e0,h1,h2,h3,h4,h5,h6,h7⟩:=ht y hy
     have Er:=GW.v.trans vD;have l0t:l0≠t:=λz=>h7 (z▸hXt);exact⟨p0,l0,yB,u0,e0,h1,aR.v Er h2,bD _ _ l0t (GW _ _ h3),aR.v Er h4,aJ.v Er _ h6.2.2 h5,h6,h7⟩
    ·rw[cH]at hy
     exact⟨tp,l,tt,zs,S.ds,hy,aR.v vD (aR.of nC.at'),bD _ _ C7 (BD _ _ vf),aR.v vD ((aR.of nB.at').go nC.same),aJ.v (BD.v.trans vD) _ no ZM,a4O ok,nXl⟩
   ·exact⟨_,_,Z,bF.of tY,T7⟩
  ·rintro O H8 ⟨v2,v3,rfl,b8,T8⟩
   have v8:cj H H8:=b8.v λx hx o eo=>by rw[cH]at hx;rw[hx,et]at eo;cases eo;trivial
   have wM:∀{x},x≠t->x∉[t]:=λh=>by rw[cH];exact h
   have R8:=R.go no v8 (λo e=>b8 _ _ e (wM ta.symm)) (λo e=>b8 _ _ e (wM tq.symm));have Z8:=afH.go no v8 (λo e=>b8 _ _ e (wM td.symm)) (λo e=>b8 _ _ e (wM te.symm));have ez8:=b8 _ _ ez (wM td.symm);have Kb:=b8 _ _ er (wM ta.symm);obtain⟨Ew,TZ,lt8,ht8⟩:=id T8;refine⟨_,Z,d,_,Z,dg ez8 JM,t,Z,⟨_,aH.of TZ⟩,λD1 H9 n9=>?_⟩;refine aay (bs:=Ew.map λ_=>false) (λy z=>∃l ta us es,y= .ref l/\z= .ref ta/\H8 l=some (.lst us)/\aR K H8 ta us/\aJ K H8 us es/\DP es) [] rfl (aH.of TZ) n9 (by rw[cx]) au (λi x ex=>?_) (λi y z b HA Q' pr eb sA kq=>?_) λHA sA dA=>?_
   ·obtain⟨p,l',yB,us,es,rfl,hp,h1,h2,h3,h4,_⟩:=ht8 x (gI ex)
    exact⟨p,_,_,Z,hp,l',yB,us,es,Z,Z,h1,h2,h3,h4⟩
   ·obtain⟨l',yB,us,es,rfl,rfl,eR,xi,res,Ke⟩:=pr
    have eb:b=false:=by rw[cI]at eb;cases h:Ew[i]? with |none=>rw[h]at eb;cases eb |some c=>rw[h]at eb;cases eb;rfl
    subst eb;refine⟨_,Z,_,Z,yB,us,Z,.inr (xi.go sA),λl2 HB nB=>?_⟩;refine .inr ⟨.list es,.list es,jS (aH.of (nB.same _ _ (sA _ _ eR))) (aJ.mono (sA.trans nB.same) _ res),jS (aH.of nB.at') (aJ.mono (sA.trans nB.same) _ res),Ke.1,Ke.1,?_⟩;rw[Ke.2.1];exact kq _ nB.same
   ·refine⟨D1,_,Z,aH.of dA,_,Z,?_⟩
    have ef:(Ew.map λ_=>false).any id=false:=by rw[List.any_map,List.any_eq_false];simp
    rw[ef];refine bN ?_;refine⟨_,Z,a,dx,_,Z,sA _ _ Kb,Z,a,q,M,D,S,Z,R8.same no sA,ok,aU,?_⟩;refine⟨_,Z,a,dx,_,Z,sA _ _ Kb,Z,a,q,M,D,S,Z,R8.same no sA,ok,aU,?_⟩;refine⟨bT Z,λl3 HB nB=>?_⟩;have Zg:=sA.trans nB.same;refine⟨_,Z,l3,Z,⟨_,aH.of nB.at'⟩,λD2 HC nC=>?_⟩;refine aav (aH.of nB.at') nC (λb H2 Q' hq=>?_) λHD sD dD=>?_
    ·exact⟨_,Z,.inl ⟨_,"bool","bool",true,Z,Z,aA,aA,hq⟩⟩
    refine⟨D2,_,Z,aH.of dD,_,Z,bN ?_⟩;have P8:=Zg.trans sD;obtain⟨mv',lv',gv',qN,bv',fy,cQ,ez',q1,q2,q3,q4,q5,q6⟩:=Z8.ob;have TK:=P8 _ _ ez';refine⟨_,Z,_,Z,d,_,Z,dg TK CW,Z,?_⟩;refine⟨_,Z,d,_,Z,dg TK xC,bT Z,λtz HE nE=>?_⟩;have P7:=P8.trans nE.same;refine .inr ⟨da S.pc,da 0,(q4.go P7).rd,(uo (aR.of nE.at')).rd,Z,Z,?_⟩;rw[PN];refine⟨bT Z,λl4 HF nF=>?_⟩;have nP:=P7.trans nF.same;have eB:(!decide (bv'= .bB))=S.ba.isSome:=by cases hs:S.ba with |none=>rw[hs]at q5;rw[q5.1];rfl |some z=>obtain⟨sq,st,gn⟩:=z;rw[hs]at q5;obtain⟨ta,su,rfl,_⟩:=q5;rfl
    rw[eB]at nF;have Zf:=sD.trans (nE.same.trans nF.same);refine .inr ⟨.list [.bool S.ba.isSome,.bool (decide (S.pc=0))],.list [.bool S.ba.isSome,.bool (decide (S.pc=0))],jS (aH.of (Zf _ _ nB.at')) (bW (lg _) (bW (lg _) cU)),jS (aH.of nF.at') (bW (lg _) (bW (lg _) cU)),Z,Z,?_⟩;rw[show PyData.eqv (.list [.bool S.ba.isSome,.bool (decide (S.pc=0))]) (.list [.bool S.ba.isSome,.bool (decide (S.pc=0))])=true by cases S.ba.isSome<;>cases decide (S.pc=0)<;>rfl];refine⟨_,Z,bN ?_⟩;refine⟨_,Z,a,dx,_,Z,nP _ _ Kb,Z,a,q,M,D,S,Z,R8.same no nP,ok,aU,?_⟩;refine⟨_,Z,d,e,t,M,D,S,Z,Z8.same no nP,ok,aU,?_⟩;refine⟨_,_,.int _,Z,dU _,dU _,mM _,λHG sG=>?_⟩;have BC:=nP.trans sG;refine k HG (λx o eb hb=>BC _ _ (b8 _ _ eb hb)) (T8.go (bK _) BC.v (λo e=>BC _ _ e) λl us hx e=>⟨BC _ _ e,hx⟩)
end
end Lw
set_option maxHeartbeats 1000000
namespace Lw
open PySem PySem.Spec PyProof.Rows L2 Rt Ln Cn Pn Wk Rn
open Ow (topR cornO mnO betR atO ownF leadF ownL OkI OkIs)
section
variable {w:World} {mg:bJ} {ay:Heap}
theorem NN:bG ["self","at"] ["self","at"] (aZ Ff):=bQ aW
inductive ac6(K:aa)(vs:List V)(H:Hp)(Q:VK):Prop |mk (ex:_)(C:_)(y:_)(h0:vs=[.ref ex,y])(h1:H ex=some (.ext (vp ex C)))(h2:Lg K C "at")(h3:∀dx,H dx=none->dx≠ex->Q .bB (L2.upd (L2.upd H dx (.xd [("at",y)])) ex (.ext (qC ex C dx))))
def N1(K:aa):Sp:=λvs H Q _=>ac6 K vs H Q
theorem a1F(F:j4 K "__init__" "OffRails.__init__" Ff f fd):gY P w K mg ay ij 1 f fd ["self","at"] (N1 K):=by
 refine F.ok NN (λvs H Q E h=>?_) (λaP A outer s H vs Q E hr h=>?_)
 ·obtain⟨ex,C,y,rfl,_⟩:=h
  rfl
 ·obtain⟨ex,C,y,rfl,e1,xc,k⟩:=h
  have nd:=NN.nd;refine⟨_,(aL (a0u K Z (pv 0) (pv 1))),?_⟩;exact⟨_,Z,_,Z,ex,C,Z,e1,xc,k⟩
theorem a4T(h:pl.length=rs.length):J5 rs (g9 pl)=iS rs pl:=by show((pl.map PyData.int).length==rs.length&&(((pl.map PyData.int).zip rs).map λp=>gK 0 p.2 p.1).all id)=_;rw[cx,h,E1,kE,List.zip_map_left,List.map_map,LX];rfl
inductive acC(K:aa)(C:Addr)(R:kP)(vs:List V)(H:Hp)(Q:VK)(E:XK):Prop |mk (a:_)(q:_)(M:_)(D:_)(S:_)(v:_)(d:_)(h0:vs=[.ref a,v])(h1:du K C H a q M S)(h2:cF M D S)(h3:M.Ok)(h4:RD K H v d)(h5:cZ 8 d)(h6:pC d=true)(h7:((m9 M.rs.length d=false/\∀H',aF H H'->E (.ref R.n) none H')\/∃o,lQ M.rs.length d o/\(iS M.rs (fO (cL S) o)=false->∀H' dx,aF H H'->H' dx=some (.xd [("at",.int (S.ds.length:Int))])->E (.ref R.o) (some dx) H')/\(iS M.rs (fO (cL S) o)=true->S.ds.length=20->∀H',aF H H'->E (.ref R.f) none H')/\(iS M.rs (fO (cL S) o)=true->S.ds.length<20->∀H',du K C H' a q M (ml S d o)->bF [a,q] H H'->Q (.int (S.ds.length+1:Nat)) H')))
def Bt(K:aa)(C:Addr)(R:kP):Sp:=λvs H Q E=>acC K C R vs H Q E
theorem a2f(F:MA K C "feed" "Runner.feed" G2)(TC:gX K C)(B:bV mg)(X:VN K mg R)(a70:GV mg "MOST_WAITING" (.int 20))(a6d:aI P w K mg ay "is_item" 4 (EY K))(a6b:aI P w K mg ay "is_place" 3 (EZ K))(zL:aI P w K mg ay "place_behind" 2 (yI K))(JG:dG P w K mg ay C "leads_to" 3 (fK K C λ_ S H Q=>∀v H',RD K H' v (g9 (cL S))->aF H H'->Q v H')):DM P w K mg ay C "feed" 5 (Bt K C R):=by
 have OC:=X.o;obtain⟨fd,FI⟩:=OC.fn;have a7I:=X.n;have a7J:=X.f;have a7H:=OC.e;have a7F:gY P w K mg ay ij 1 R.i fd ["self","at"] (N1 K):=a1F FI;have a7L:Binds K fd ["self","at"] []:=FI.binds (λ_ _ _ _ _ _=>dJ λ_ _=>rfl);have a7G:=OC.f;refine F.a6I Of (λvs H Q E h=>?_) (λ_ _ _ _ _ _=>dJ λ_ _=>rfl) (λf aP A outer s H vs Q E hr h=>?_)
 ·obtain⟨a,q,M,D,S,v,d,rfl,_⟩:=h
  rfl
 ·obtain⟨a,q,M,D,S,v,d,rfl,Ra,ok,aU,rd,i2,i3,kk⟩:=h
  obtain⟨dx,mv,bv,cW,tv,e,r1,r2,r3,r4⟩:=Ra.ob;obtain⟨ys,eq,rq⟩:=Ra.qu;have nd:=Of.nd;have lr:=aU.len;have ly:=rq.length;refine⟨_,(aE (bR (fD (cV (pf a6d hr (ao (dB TC.cl TC.rB (pv 0)) (ao (pv 1) az))))) (aL (Q4 (λ_ _ _ _ _ _ _ I m q=>Mc I m q) a7I Wq hr.hd Z (ao aV az))) bU) (aE (bR (fD (cV (pf a6b hr (ao (dB TC.cl TC.rB (pv 0)) (ao (pf zL hr (ao (iQ JG TC.cl (hr.mono aA) (pv 0)) (ao (pv 1) az))) az))))) (aL (a0x (λ_ _ _ _ _ _ I a b q=>WW I a b q) a7H Wq hr.hd a7F (hr.mono aA) a7L a7G Z (ao (eL K B (ao (dB TC.cl TC.jX (pv 0)) az)) az))) bU) (aE (bR (cu Ic (eL K B (ao (dB TC.cl TC.jX (pv 0)) az)) (fm (x:="MOST_WAITING") rfl a70) (bI _)) (aL (Q4 (λ_ _ _ _ _ _ _ I m q=>Mc I m q) a7J Wq hr.hd Z (ao aV az))) bU) (aE (iA (jW K Z (dB TC.cl TC.jX (pv 0)) (ao (pv 1) az))) (aL (aX (eL K B (ao (dB TC.cl TC.jX (pv 0)) az)))))))),?_⟩;refine⟨_,Z,a,dx,_,_,Z,e,Z,_,Z,mv,v,M.rs,_,d,Z,r1,rd,au,i2,i3,λH1 s1=>⟨_,Z,?_⟩⟩;rcases kk with⟨i1,kn⟩|⟨o,it,ko,kf,kd⟩
  ·rw[i1]
   exact cg ⟨bT Z,kn _ s1⟩
  rw[it.is.1];refine bN ?_;have e1:=s1 _ _ e;have R1:=Ra.same ok.row.no s1;refine⟨_,Z,a,dx,_,_,Z,e1,Z,?_⟩;refine⟨_,Z,a,dx,_,Z,e1,Z,a,q,M,D,S,Z,R1,ok,aU,λg H2 rg s2=>?_⟩;have jR:=s1.trans s2;have gl:(cL S).length=M.rs.length:=A1 _ _ ok.pl ok.uj;have bl:(fO (cL S) o).length=M.rs.length:=Ai gl λns sp eo=>(it.ln ns sp eo).1.len;refine⟨_,Z,g,v,cL S,d,o,Z,rg,RD.mono jR _ rd,it.it,λns sp e'=>by rw[gl];exact(it.ln ns sp e').1.len,au,λu H3 ru s3=>?_⟩;have dw:=jR.trans s3;refine⟨mv,u,M.rs,_,_,Z,RD.mono dw _ r1,ru,au,λH4 s4=>⟨_,Z,?_⟩⟩;rw[a4T bl];have gm:=dw.trans s4;have e4:=gm _ _ e;have eq4:=gm _ _ eq;cases ho:iS M.rs (fO (cL S) o)with
  |false=>
   refine cg ?_;refine⟨_,Z,a,dx,_,_,Z,e4,Z,q,_,Z,.inl (aH.of eq4),bT Z,λex fx=>?_⟩;refine⟨ex,R.o,_,Z,bo,OC.x,λdd TH ne=>⟨Z,dd,bo,?_⟩⟩;have fdx:H4 dd=none:=by rw[aO ne]at TH;exact TH
   rw[ly];refine ko ho _ dd (λb o' eb=>?_) ?_
   ·have e5:=gm b o' eb
    have nb:b≠ex:=fT e5 fx;have fF:b≠dd:=fT e5 fdx;rw[vg nb,aO nb,aO fF,aO nb];exact e5
   ·rw[vg ne,aO ne,bo] |true=>
   refine bN ?_;refine⟨_,Z,a,dx,_,_,Z,e4,Z,q,_,Z,.inl (aH.of eq4),_,_,Z,Z,_,Z,?_⟩;by_cases rX:S.ds.length=20
   ·rw[show decide ((ys.length:Int)>=20)=true from cP au]
    exact cg ⟨bT Z,kf ho rX _ gm⟩
   have wZ:=ok.len;rw[show decide ((ys.length:Int)>=20)=false from fk au];refine bN ?_;have kg:sizeLine=16777216:=by decide
   refine⟨_,Z,a,dx,_,_,Z,e4,Z,.inl ⟨Z,_,aH.of eq4⟩,_,Z,q,ys,_,Z,Z,eq4,au,?_⟩;have aq:=Ra.ne;have tu:cj H4 (L2.upd H4 q (.lst (ys++[v]))):=.upd eq4 trivial;have e5:(L2.upd H4 q (.lst (ys++[v]))) a=some (.ins C dx (iz mv bv (.int S.dn) (.ref q) cW (.int S.aB) (.str S.side) (.str S.mark) tv)):=by rw[aO aq];exact e4
   refine⟨_,Z,a,dx,_,_,Z,e5,Z,q,_,Z,.inl (aH.of bo),?_⟩;have sv:cj H (L2.upd H4 q (.lst (ys++[v]))):=gm.v.trans tu;have el:((ys++[v]).length:Int)=((S.ds.length+1:Nat):Int):=by rw[fC,ly];rfl
   rw[el];refine kd ho au _ ⟨⟨dx,mv,bv,cW,tv,e5,RD.v sv _ (jZ _ _ _ _ _) r1,RD.v sv _ (jT _) r2,r3.v sv,r4.v sv⟩,_,bo,?_⟩ λb o' eb hb=>?_
   ·exact(aJ.v sv _ ok.row.no rq).append (bW (RD.v sv _ it.it.no rd) cU)
   ·have qh:b≠q:=λz=>hb (by rw[z];simp)
    rw[aO qh];exact gm _ _ eb
inductive oO(R:kP):Addr->Bool->Bool->Bool->Bool->Nat->Str->Prop |n:oO R R.n true false false false 0 "item" |f:oO R R.f false true false false 2 "full" |m:oO R R.m false false true false 3 "moving" |r:oO R R.r false false false true 4 "rate"
def VM(R:kP)(Q:VK):XK:=λcls dx H'=>(∃C b0 b2 b3 b4 j w,oO R C b0 b2 b3 b4 j w/\cls= .ref C/\∀nA,aF H' nA->Q (.str w) nA)\/(cls= .ref R.o/\∃(d:Addr)(n:Nat),dx=some d/\H' d=some (.xd [("at",.int (n:Int))])/\n<=100/\∀nA,aF H' nA->Q (.str ("rails "++Str.ofString (toString (n:Int)))) nA)
theorem oO.kc(A:DH K mg R cG c0 c1 c2 c3 c4 c5)(h:oO R C b0 b2 b3 b4 j z):KC K R cG [c0,c1,c2,c3,c4,c5] C b0 false b2 b3 b4:=by
 cases h
 ·exact A.n
 ·exact A.f
 ·exact A.m
 ·exact A.r
theorem oO.one(h:oO R C b0 b2 b3 b4 j z):[b0,false,b2,b3,b4].count true=1/\[b0,false,b2,b3,b4][j]? =some true/\(∀m,m<j->[b0,false,b2,b3,b4][m]? =some false)/\j<1000/\fP [V.str "item",.str "",.str "full",.str "moving",.str "rate"] (j:Nat)=some (.str z):=by
 cases h<;>refine⟨aA,rfl,λm hm=>?_,aA,rfl⟩
 ·lia
 ·match m,hm with|0,_=>rfl|1,_=>rfl
 ·match m,hm with|0,_=>rfl|1,_=>rfl|2,_=>rfl
 ·match m,hm with|0,_=>rfl|1,_=>rfl|2,_=>rfl|3,_=>rfl
def Bs(P:ah)(w:World)(K:aa)(mg:bJ)(ay:Heap)(R:kP)(k:Nat):vm:=λouter s vs H Q _=>∃(f c:Addr)(cl:List (Str×Addr))(pr:Arguments)(b:Expr)(sc:Scope)(q:Str)(N:List Str)(xs:List V)(t:XK->TE),vs=[.ref f]/\xV s.heap H (cX outer) f pr b sc q c cl/\H c=some (.ext (jK c q))/\sS s.heap H (cX outer) cl N xs/\xs.length=N.length/\vo N sc/\(∀pm cd ct,bindArgs (PySem.W.kla_fn "<lambda>" q pr b sc cl pm cd ct) ⟨[],[]⟩=pure [])/\(∀(A:aj)(outer:List Env)(s:ae)(H:Hp)(E:XK),cN k (A.deeper (PySem.W.envX q sc s.heap.objs.size f (.ref c) cl))->PE (rK (jv P w) P w K mg ay N q sc f (.ref c) cl A outer s H E) b (t E))/\t (VM R Q) (xs.map some) H Q
theorem O9:bG ["_law_deed","e","_law_kinds","_law_others"] ["_law_deed"] (aZ FH):=bQ aW
theorem a2i{k:Nat}(F:FA K mg "_law_refused" FH)(B:bV mg)(EA:DH K mg R cG c0 c1 c2 c3 c4 c5):AA P w K mg ay "_law_refused" (k+2) (Bs P w K mg ay R k):=by
 refine F.a6H O9 (λouter s vs H Q E h=>?_) (λ_ _ _ _ _ _=>fH λ_=>rfl) (λf0 aP A outer s H vs Q E hr h=>?_)
 ·obtain⟨f,c,cl,pr,b,sc,q,N,xs,t,rfl,_⟩:=h
  rfl
 ·obtain⟨f,c,cl,pr,b,sc,q,N,xs,t,rfl,L,hc,C,hl,S,hb,ht,hq⟩:=h
  have nd:=O9.nd;have hy:=EA.g;have Jz:(mz).contains (.type "BaseException")=true:=by decide
  have JK:∀C',(C'=R.o\/∃b0 b2 b3 b4 j w,oO R C' b0 b2 b3 b4 j w)->ClsAt K C'/\takes K C' cG:=λC' e=>by
   rcases e with rfl|⟨b0,b2,b3,b4,j,w,h⟩
   ·exact⟨EA.x.o.e.cls,EA.o.tk⟩
   ·refine⟨?_,(h.kc EA).tk⟩
    cases h
    ·exact EA.x.n.cls
    ·exact EA.x.f.cls
    ·exact EA.x.m.cls
    ·exact EA.x.r.cls
  have a6X:GV mg "NoItem" (.ref R.n):=⟨_,EA.x.n.at',Z⟩;have a6Q:GV mg "OffRails" (.ref R.o):=⟨_,EA.x.o.e.at',Z⟩;have a77:GV mg "Full" (.ref R.f):=⟨_,EA.x.f.at',Z⟩;have a6Z:GV mg "Moving" (.ref R.m):=⟨_,EA.x.m.at',Z⟩;have a6T:GV mg "NoRate" (.ref R.r):=⟨_,EA.x.r.at',Z⟩;have a6Y:=EA.h0;have a6W:=EA.h1;have a6V:=EA.h2;have a6U:=EA.h3;have a6S:=EA.h4;have a6R:=EA.h5;have a6O:=EA.v;refine⟨_,(Au.one (a0v (i:=1) Z Z nd Z Z Z (λE xe hp=>(aL (aX (a0W 0 hp)))) Z hy Jz JK (λex=>(aE (pS 2 nd (cK (ao (dM (x:="isinstance") (uC K Z) Z (B.at "isinstance") vz (ao (pv 1) (ao (fm (x:="NoItem") rfl a6X) az))) (ao (dM (x:="isinstance") (uC K rfl) rfl (B.at "isinstance") vz (ao (pv 1) (ao (fm (x:="OffRails") rfl a6Q) az))) (ao (dM (x:="isinstance") (uC K rfl) rfl (B.at "isinstance") vz (ao (pv 1) (ao (fm (x:="Full") rfl a77) az))) (ao (dM (x:="isinstance") (uC K rfl) rfl (B.at "isinstance") vz (ao (pv 1) (ao (fm (x:="Moving") rfl a6Z) az))) az)))))) (aE (iA (jW K Z (pv 2) (ao (dM (x:="isinstance") (uC K Z) Z (B.at "isinstance") vz (ao (pv 1) (ao (fm (x:="NoRate") rfl a6T) az))) az))) (aE (pS 3 nd (dM (x:="isinstance") (uC K Z) Z (B.at "isinstance") vz (ao (pv 1) (ao (ck (ao (fm (x:="NoFraction") rfl a6Y) (ao (fm (x:="NoLine") rfl a6W) (ao (fm (x:="NoMachine") rfl a6V) (ao (fm (x:="NoPlace") rfl a6U) (ao (fm (x:="NoTape") rfl a6S) (ao (fm (x:="NoText") rfl a6R) az))))))) az)))) (aE (bR (PW.pt (m5 (cu (jB K Z hr.units) (a1c K Z (pv 2) (ao gC az)) aD (bI _)) (m5 (cV (pv 3)) (mH (fD (cV (dM (x:="isinstance") (uC K Z) Z (B.at "isinstance") vz (ao (pv 1) (ao (dy (x:="ValueError") (v:=.ty "ValueError") rfl a6O ab0 rfl) az))))))))) (aL (aX aV)) bU) (aE (bR (cV (px K (pv 2) aD)) (aL (aX (aG Qv aV (gQ (x:="str") V4 Z (B.at "str") oU (ao (a0Q K rfl (pv 1)) az))))) bU) (aL (aX (px K (cK (ao aV (ao aV (ao aV (ao aV (ao aV az)))))) (a1a K Z (pv 2) (ao gC az))))))))))))),?_⟩;refine⟨VM R Q,?_,λcls dx H' h=>?_,?_⟩
  ·exact⟨f,c,cl,pr,b,sc,q,N,xs,t,k,Z,Z,L,hc,C,hl,S,hb,hr,ht,hq⟩
  ·rcases h with⟨C,b0,b2,b3,b4,j,w,h,e,_⟩|⟨e,_⟩
   ·exact⟨C,e,.inr ⟨b0,b2,b3,b4,j,w,h⟩⟩
   ·exact⟨R.o,e,.inl Z⟩
  ·intro C' ex dx σ' H' eR hE hex
   have hl4:σ'.length=4:=eR;have e1:(L2.upd H' ex (.ext (mD ex (.ref C') dx))) ex=some (.ext (mD ex (.ref C') dx)):=bo;have sm:=aF.new (o:=.ext (mD ex (.ref C') dx)) hex;have kg:sizeLine=16777216:=by decide
   have key:∀(Kc:∃b0 b1 b2 b3 b4,KC K R cG [c0,c1,c2,c3,c4,c5] C' b0 b1 b2 b3 b4/\[b0,b1,b2,b3,b4].count true=1),True:=λ_=>trivial
   match σ',hl4 with
   |[u0,u1,u2,u3],_=>
    obtain⟨b0,b1,b2,b3,b4,kc,cnt,rest⟩:∃b0 b1 b2 b3 b4,KC K R cG [c0,c1,c2,c3,c4,c5] C' b0 b1 b2 b3 b4/\[b0,b1,b2,b3,b4].count true=1/\((b1=false/\∃j z,[b0,b1,b2,b3,b4][j]? =some true/\(∀m,m<j->[b0,b1,b2,b3,b4][m]? =some false)/\j<1000/\fP [V.str "item",.str "",.str "full",.str "moving",.str "rate"] (j:Nat)=some (.str z)/\∀nA,aF H' nA->Q (.str z) nA)\/(b1=true/\C'=R.o/\∃(d:Addr)(n:Nat),dx=some d/\H' d=some (.xd [("at",.int (n:Int))])/\n<=100/\∀nA,aF H' nA->Q (.str ("rails "++Str.ofString (toString (n:Int)))) nA)):=by
     rcases hE with⟨C,b0,b2,b3,b4,j,z,h,e,kq⟩|⟨e,d,n,ed,hd,hn,kq⟩
     ·cases e
      obtain⟨o1,o2,o3,o4,o5⟩:=h.one;exact⟨b0,false,b2,b3,b4,h.kc EA,o1,.inl ⟨Z,j,z,o2,o3,o4,o5,kq⟩⟩
     ·cases e
      exact⟨false,true,false,false,false,EA.o,aA,.inr ⟨Z,Z,d,n,ed,hd,hn,kq⟩⟩
    refine⟨_,Z,.inl ⟨ex,C',dx,.ref R.n,.ref R.n,b0,Z,e1,kc.k,Z,kc.i0,?_⟩⟩;refine⟨_,Z,.inl ⟨ex,C',dx,.ref R.o,.ref R.o,b1,Z,e1,kc.k,Z,kc.i1,?_⟩⟩;refine⟨_,Z,.inl ⟨ex,C',dx,.ref R.f,.ref R.f,b2,Z,e1,kc.k,Z,kc.i2,?_⟩⟩;refine⟨_,Z,.inl ⟨ex,C',dx,.ref R.m,.ref R.m,b3,Z,e1,kc.k,Z,kc.i3,?_⟩⟩;refine⟨bT Z,λl H2 n2=>?_⟩;have e2:=n2.same _ _ e1;refine⟨_,Z,.inl ⟨Z,_,aH.of n2.at'⟩,_,Z,.inl ⟨ex,C',dx,.ref R.r,.ref R.r,b4,Z,e2,kc.k,Z,kc.i4,l,_,_,Z,Z,n2.at',by show 4<_;lia,?_⟩⟩;have zl:ex≠l:=λz=>by have:=n2.no;rw[<-z,e1]at this;cases this
    have e3:(L2.upd H2 l (.lst ([V.bl b0,.bl b1,.bl b2,.bl b3]++[.bl b4]))) ex=some (.ext (mD ex (.ref C') dx)):=by rw[aO zl];exact e2
    have e4:(L2.upd H2 l (.lst ([V.bl b0,.bl b1,.bl b2,.bl b3]++[.bl b4]))) l=some (.lst ([b0,b1,b2,b3,b4].map V.bl)):=bo;have s3:aF H' (L2.upd H2 l (.lst ([V.bl b0,.bl b1,.bl b2,.bl b3]++[.bl b4]))):=λb' o' eb=>by
     have nb:b'≠l:=λz=>by have:=n2.no;rw[<-z,sm _ _ eb]at this;cases this
     rw[aO nb];exact n2.same _ _ (sm _ _ eb)
    generalize L2.upd H2 l (.lst ([V.bl b0,.bl b1,.bl b2,.bl b3]++[.bl b4]))=H3 at e3 e4 s3⊢;refine⟨_,Z,bT Z,λtp H4 n4=>?_⟩;have e5:=n4.same _ _ e3;have e6:=n4.same _ _ e4;have s4:=s3.trans n4.same;refine .inr ⟨ex,C',tp,dx,[c0,c1,c2,c3,c4,c5],false,Z,e5,kc.k,n4.at',kc.any,?_⟩;refine⟨_,Z,.inl ⟨Z,_,aH.of e6⟩,l,_,Z,Z,aH.of e6,.inl ⟨_,_,Z,Z,_,Z,?_⟩⟩;rw[show(!decide (((([b0,b1,b2,b3,b4].count true:Nat)):Int)=1))=false by rw[cnt];rfl];refine bN ⟨_,Z,_,Z,bN ?_⟩;refine⟨_,Z,.inl ⟨ex,C',dx,.ty "ValueError",.type "ValueError",true,Z,e5,kc.k,Z,kc.ve,_,Z,bN ?_⟩⟩;refine⟨_,Z,.inl ⟨l,_,1,.bl b1,Z,Z,aH.of e6,Z,_,Z,?_⟩⟩;rcases rest with⟨rfl,j,z,o2,o3,o4,o5,kq⟩|⟨rfl,eC,d,n,rfl,hd,hn,kq⟩
    ·refine bN ?_
     refine⟨bT Z,λlw H5 n5=>?_⟩;refine⟨_,Z,.inl ⟨Z,_,aH.of (n5.same _ _ e6)⟩,l,_,j,Z,Z,aH.of (n5.same _ _ e6),o2,o3,o4,?_⟩;exact .inl ⟨lw,_,_,_,Z,Z,aH.of n5.at',o5,kq _ (s4.trans n5.same)⟩
    ·refine cg ?_
     have hdx:=s4 _ _ hd;refine⟨_,Z,ex,C',d,_,(n:Int),Z,e5,hdx,kc.k,by rw[eC];exact EA.fat,Z,.inl ⟨_,Z,?_,?_⟩⟩
     ·exact Ry au
     ·refine⟨_,_,Z,Z,?_,kq _ s4⟩
      have e6':Str.length "rails "=6:=by decide+kernel
      have:(Str.ofString (toString (n:Int))).length<=41:=Mx au
      lia
end
end Lw
set_option maxHeartbeats 4000000
namespace Lw
open PySem PySem.Spec PyProof.Rows L2 Rt Ln Cn Pn Wk Rn
open Ow (topR cornO mnO betR atO ownF leadF ownL OkI OkIs)
section
variable {w:World} {mg:bJ} {ay:Heap}
structure cw(K:aa)(C T:Addr)(qn:Str)(H:Hp)(M:bS)(n:Nat)(A:Ad)(p:Addr)(S:bE):Prop where
 run:du K C H A.a A.q M S
 sim:dj K H A.d A.e A.t M S
 ok:cF M (64+10*n) S
 sm:SM S
 told:lP K H A.t (40+n) (λl=>l∈A.all\/l=p)
 nd:A.all.Nodup
 tab:TabAt H T qn
 on:jJ M.rs (cL S)
 bu:eK H p
 np:p∉A.all
section
variable {C T:Addr}{qn:Str}{H H':Hp}{M:bS}{n:Nat}{A:Ad}{p:Addr}{S:bE}
theorem cw.kind(h:cw K C T qn H M n A p S):∀x∈A.all,∃o,H x=some o/\DQ o/\∀ps,o≠ .eZ ps:=by
 intro x hx;obtain⟨dx,QU,V8,cW,tv,e,_⟩:=h.run.ob;obtain⟨zs,eq,_⟩:=h.run.qu;obtain⟨mv,lv,gv,sv,bv,cv,rv,ez,_⟩:=h.sim.ob;obtain⟨ys,ee,_⟩:=h.sim.qu;obtain⟨ts,et,_⟩:=h.told;simp only[Ad.all,bL,cE,dv]at hx;rcases hx with rfl|rfl|rfl|rfl|rfl
 ·exact⟨_,e,trivial,λ_ z=>nomatch z⟩
 ·exact⟨_,eq,trivial,λ_ z=>nomatch z⟩
 ·exact⟨_,ez,trivial,λ_ z=>nomatch z⟩
 ·exact⟨_,ee,trivial,λ_ z=>nomatch z⟩
 ·exact⟨_,et,trivial,λ_ z=>nomatch z⟩
theorem cw.here(h:cw K C T qn H M n A p S):∀x,(x∈A.all\/x=p)->H x≠none:=by
 intro x hx;rcases hx with hx|rfl
 ·obtain⟨o,e,_⟩:=h.kind x hx
  rw[e];simp
 ·obtain⟨c,m,e,_⟩:=h.bu
  rw[e];simp
theorem cw.nT(h:cw K C T qn H M n A p S):T∉A.all:=λhx=>by obtain⟨o,e,_,hn⟩:=h.kind T hx;obtain⟨ps,et,_⟩:=h.tab;rw[e]at et;exact hn _ (dQ et)
theorem cw.Iz(h:cw K C T qn H M n A p S):T≠p:=λhx=>by obtain⟨c,m,e,_⟩:=h.bu;obtain⟨ps,et,_⟩:=h.tab;rw[<-hx,et]at e;cases e
theorem cw.v(h:cw K C T qn H M n A p S)(b:bF (T::p::A.all) H H'):cj H H':=by
 refine b.v λx hx o eo=>?_;rcases bL.mp hx with z|hx
 ·obtain⟨ps,et,_⟩:=h.tab
  rw[z,et]at eo;cases eo;trivial
 ·rcases bL.mp hx with z|hx
  ·obtain⟨c,m,e,_⟩:=h.bu
   rw[z,e]at eo;cases eo;trivial
  ·obtain⟨o',e,c,_⟩:=h.kind x hx
   rw[eo]at e;cases e;exact c
theorem TabAt.but(h:TabAt H T q)(b:bF S' H H')(hT:T∉S')(hS:∀x∈S',∀φ,H x≠some (.ext φ)):TabAt H' T q:=h.keep (λps e=>b _ _ e hT) λx φ e=>b _ _ e λhx=>hS x hx φ e
theorem eK.but(h:eK H p)(b:bF S' H H')(hp:p∉S'):eK H' p:=by obtain⟨c,m,e,k⟩:=h;exact⟨c,m,b _ _ e hp,k⟩
theorem cw.zj(h:cw K C T qn H M n A p S):∀x∈p::A.all,∀φ,H x≠some (.ext φ):=λx hx φ e=>by
 rcases bL.mp hx with z|hx
 ·obtain⟨c,m,e',_⟩:=h.bu
  rw[z,e']at e;cases e
 ·obtain⟨o',e',c,_⟩:=h.kind x hx
  rw[e]at e';cases e';exact c
theorem cw.nk(h:cw K C T qn H M n A p S)(x:bO p H H'):cw K C T qn H' M n A p S:=by have b:bF [p] H H':=λb o e hb=>x.same b o (λz=>hb (by rw[z];exact .head _)) e;have v:=(bO.t h.bu x).v;have np:∀y∈A.all,∀o,H y=some o->H' y=some o:=λy hy o e=>x.same y o (λz=>h.np (z▸hy)) e;refine⟨h.run.go h.ok.row.no v (np _ (by simp[Ad.all])) (np _ (by simp[Ad.all])),h.sim.go h.ok.row.no v (np _ (by simp[Ad.all])) (np _ (by simp[Ad.all])),h.ok,h.sm,h.told.go (bK _) v (np _ (by simp[Ad.all])) λl us hx e=>⟨x.same _ _ (λz=>hx (.inr z)) e,hx⟩,h.nd,?_,h.on,x.bu,h.np⟩;exact TabAt.but h.tab b (by rw[cH];exact h.Iz) λy hy φ=>h.zj y (by rw[cH.mp hy];exact .head _) φ
theorem cw.same(h:cw K C T qn H M n A p S)(s:aF H H'):cw K C T qn H' M n A p S:=⟨h.run.same h.ok.row.no s,h.sim.same h.ok.row.no s,h.ok,h.sm,h.told.go (bK _) s.v (λo e=>s _ _ e) λl us hx e=>⟨s _ _ e,hx⟩,h.nd,h.tab.keep (λps e=>s _ _ e) (λb φ e=>s _ _ e),h.on,by obtain⟨c,m,e,k⟩:=h.bu;exact⟨c,m,s _ _ e,k⟩,h.np⟩
theorem cw.a3l(h:cw K C T qn H M n A p S)(s:aF H H')(nw:H p'=none)(bg:eK H' p'):cw K C T qn H' M n A p' S:=by have h':=h.same s;refine⟨h'.run,h'.sim,h'.ok,h'.sm,h.told.go (bK _) s.v (λo e=>s _ _ e) λl us hx e=>⟨s _ _ e,λz=>z.elim (λz=>hx (.inl z)) λz=>?_⟩,h'.nd,h'.tab,h'.on,bg,λz=>h.here _ (.inl z) nw⟩;rw[z,nw]at e;cases e
theorem cw.upd(h:cw K C T qn H M n A p S)(q':Addr)(b:bF (T::p::A.all) H H')(nq:q'=A.q\/H q'=none)(R:du K C H' A.a q' M S')(afH:dj K H' A.d A.e A.t M S')(ok:cF M (64+10*(n+1)) S')(sm:SM S') (To:lP K H' A.t (40+(n+1)) (λl=>l∈A.all\/l=p\/l=q'))(tab:TabAt H' T qn)(on:jJ M.rs (cL S'))(bu:eK H' p):cw K C T qn H' M (n+1) {A with q:=q'} p S':=by
 have Vu:∀x,x∈({A with q:=q'}:Ad).all->x∈A.all\/x=q':=λx m=>by simp only[Ad.all,bL,cE,dv]at m⊢;rcases m with z|z|z|z|z<;>simp[z]
 have Q3:q'=A.q\/(q'∉A.all/\q'≠p):=nq.imp id λz=>⟨λm=>h.here _ (.inl m) z,λe=>h.here _ (.inr e) z⟩;refine⟨R,afH,ok,sm,To.go (bK _) (λ_ _ _ e=>e) (λ_ e=>e) λl us hx e=>⟨e,λz=>?_⟩,?_,tab,on,bu,λz=>?_⟩
 ·rcases z with z|z
  ·exact hx ((Vu _ z).elim .inl λz=>.inr (.inr z))
  ·exact hx (.inr (.inl z))
 ·have nd:=h.nd
  rcases Q3 with e|⟨e,_⟩
  ·rw[e];exact nd
  ·simp only[Ad.all,tF,bL,cE,dv,not_or]at nd e⊢
   obtain⟨⟨t1,t2,t3,t4⟩,⟨t5,t6,t7⟩,t8⟩:=nd;obtain⟨e1,e2,e3,e4,e5⟩:=e;exact⟨⟨e9 e1,t2,t3,t4⟩,⟨e3,e4,e5⟩,t8⟩
 ·rcases Vu _ z with z|z
  ·exact h.np z
  ·rcases Q3 with e|⟨_,e⟩
   ·exact h.np (by rw[z,e];simp[Ad.all])
   ·exact e z.symm
theorem cw.Es(h:cw K C T qn H M n A p S)(q':Addr)(b:bF (T::p::A.all) H H')(et:∀o,H A.t=some o->H' A.t=some o)(nq:q'=A.q\/H q'=none)(R:du K C H' A.a q' M S')(afH:dj K H' A.d A.e A.t M S')(ok:cF M (64+10*(n+1)) S')(sm:SM S') (tab:TabAt H' T qn)(on:jJ M.rs (cL S'))(bu:eK H' p):cw K C T qn H' M (n+1) {A with q:=q'} p S':=by
 refine h.upd q' b nq R afH ok sm (h.told.go au (h.v b) et λl us hx e=>⟨b _ _ e λm=>?_,λz=>?_⟩) tab on bu
 ·rcases bL.mp m with z|m
  ·obtain⟨ps,e',_⟩:=h.tab
   rw[z,e']at e;cases e
  ·exact hx ((bL.mp m).elim .inr .inl)
 ·rcases z with z|z|z
  ·exact hx (.inl z)
  ·exact hx (.inr z)
  ·rcases nq with g|g
   ·exact hx (.inl (by rw[z,g];simp[Ad.all]))
   ·rw[<-z,e]at g;cases g
end
section
variable {C T:Addr}{qn:Str}{H H' H1 H2:Hp}{M:bS}{n:Nat}{A:Ad}{p:Addr}{S S1:bE}{q':Addr}
theorem cw.wO(h:cw K C T qn H M n A p S):A.a∉[A.d,A.e]/\A.q∉[A.d,A.e]/\A.t∉[A.d,A.e]/\A.d∉[A.a,A.q]/\A.e∉[A.a,A.q]/\A.t∉[A.a,A.q]:=by have nd:=h.nd;simp only[Ad.all,tF,bL,cE,dv,not_or]at nd⊢;obtain⟨⟨t1,t2,t3,t4⟩,⟨t5,t6,t7⟩,⟨t8,t9⟩,vS,_⟩:=nd;exact⟨⟨t2,t3⟩,⟨t5,t6⟩,⟨e9 t9,e9 vS⟩,⟨e9 t2,e9 t5⟩,⟨e9 t3,e9 t6⟩,⟨e9 t4,e9 t7⟩⟩
theorem EI:∀x,x∈[A.a,A.q]->x∈T::p::A.all:=λx hx=>by simp only[Ad.all,bL,cE,dv]at hx⊢;rcases hx with z|z<;>simp[z]
theorem Yi:∀x,x∈[A.d,A.e]->x∈T::p::A.all:=λx hx=>by simp only[Ad.all,bL,cE,dv]at hx⊢;rcases hx with z|z<;>simp[z]
theorem cw.mid(h:cw K C T qn H M n A p S)(b1:bF [A.a,A.q] H H1):dj K H1 A.d A.e A.t M S:=h.sim.go h.ok.row.no (h.v (b1.mono EI)) (λo e=>b1 _ _ e h.wO.2.2.2.1) (λo e=>b1 _ _ e h.wO.2.2.2.2.1)
theorem cw.fin(h:cw K C T qn H M n A p S)(R1:du K C H1 A.a q' M S1)(b1:bF [A.a,A.q] H H1)(nq:q'=A.q\/H q'=none)(Z2:dj K H2 A.d A.e A.t M S1)(b2:bF [A.d,A.e] H1 H2)(ok:cF M (64+10*(n+1)) S1)(sm:SM S1)(on:jJ M.rs (cL S1)):cw K C T qn H2 M (n+1) {A with q:=q'} p S1/\bF (T::p::A.all) H H2:=by
 have bb:bF (T::p::A.all) H H2:=(b1.mono EI).trans (b2.mono Yi);obtain⟨n1,n2,n3,n4,n5,n6⟩:=h.wO;have Z1:=h.mid b1;have qL:cj H1 H2:=Z1.v b2;have q2:q'∉[A.d,A.e]:=by
  rcases nq with z|z
  ·rw[z];exact n2
  ·intro m
   refine h.here q' (.inl ?_) z;simp only[Ad.all,bL,cE,dv]at m⊢;rcases m with e|e<;>simp[e]
 have pn:∀S':List Addr,(∀x∈S',x∈A.all)->p∉S':=λS' hs m=>h.np (hs p m);have in1:∀x∈[A.a,A.q],x∈A.all:=λx hx=>by simp only[Ad.all,bL,cE,dv]at hx⊢;rcases hx with z|z<;>simp[z]
 have Cq:∀x∈[A.d,A.e],x∈A.all:=λx hx=>by simp only[Ad.all,bL,cE,dv]at hx⊢;rcases hx with z|z<;>simp[z]
 have XF:=TabAt.but h.tab b1 (λm=>h.nT (in1 _ m)) λx hx φ=>h.zj x (.tail _ (in1 x hx)) φ;have XE:=TabAt.but XF b2 (λm=>h.nT (Cq _ m)) λx hx φ e=>by
  obtain⟨o,eo,_,_⟩:=h.kind x (Cq x hx);have e1:H1 x=some o:=b1 _ _ eo (λm=>by
   simp only[bL,cE,dv]at hx m;rcases hx with z|z<;>rcases m with g|g
   ·exact n4 (by rw[<-z,g];simp)
   ·exact n4 (by rw[<-z,g];simp)
   ·exact n5 (by rw[<-z,g];simp)
   ·exact n5 (by rw[<-z,g];simp));rw[e]at e1;cases e1;exact h.zj x (.tail _ (Cq x hx)) φ eo
 refine⟨h.Es q' bb (λo e=>b2 _ _ (b1 _ _ e n6) n3) nq (R1.go ok.row.no qL (λo e=>b2 _ _ e n1) (λo e=>b2 _ _ e q2)) Z2 ok sm XE on ((h.bu.but b1 (pn _ in1)).but b2 (pn _ Cq)),bb⟩
end
section
variable {C T:Addr}{qn:Str}{H H':Hp}{M:bS}{n:Nat}{A:Ad}{p:Addr}{S:bE}
end
section
variable {C T:Addr}{qn:Str}{H H1 H2:Hp}{M:bS}{n:Nat}{A:Ad}{p:Addr}{S S1:bE}
theorem a9L{D:Nat}(ok:cF M D S)(aU:M.Ok)(r:Run M S es S1)(hl:es.length<=100000):Nx (Nx (Nx (Nx A0))) (.list es):=.inr ⟨_,.inr Z,hl,λx hx=>(r.ent ok aU x hx).2⟩
end
theorem Vt{T p q' x:Addr}{A:Ad}{H:Hp}{o:HO}(hx:x∉T::p::A.all)(nq:q'=A.q\/H q'=none)(e:H x=some o):x∉T::p::({A with q:=q'}:Ad).all:=λm=>by
 simp only[Ad.all,bL,cE,dv,not_or]at m hx;obtain⟨h1,h2,h3,h4,h5,h6,h7⟩:=hx;rcases m with z|z|z|z|z|z|z
 ·exact h1 z
 ·exact h2 z
 ·exact h3 z
 ·rcases nq with g|g
  ·exact h4 (z.trans g)
  ·rw[z,g]at e;cases e
 ·exact h5 z
 ·exact h6 z
 ·exact h7 z
section
variable {C T:Addr}{qn:Str}{H H' H5 H6 H7 H8:Hp}{M:bS}{n:Nat}{A:Ad}{p l:Addr}{S S':bE}{q':Addr}{us:List V}{es:List ai}
theorem cw.ents(h:cw K C T qn H5 M n A p S)(aU:M.Ok)(R6:du K C H6 A.a q' M S')(ux:Mv A.a A.q H5 q' H6)(nl:H5 l=none)(dl:H6 l=some (.lst us))(lq:l≠q')(rd:aJ K H6 us es)(run:Run M S es S')(Z7:dj K H7 A.d A.e A.t M S')(b7:bF [A.d,A.e] H6 H7)(s8:aF H7 H8)(hn:n<=100): cw K C T qn H8 M (n+1) {A with q:=q'} p S'/\bF (T::p::A.all) H5 H8/\H7 l=some (.lst us)/\aJ K H7 us es/\l∉T::p::({A with q:=q'}:Ad).all/\lP K H8 A.t (40+(n+1)) (λy=>(y∈({A with q:=q'}:Ad).all\/y=p)\/y=l):=by
 have Ih:=run.ok h.ok aU;obtain⟨L7,b57⟩:=h.fin R6 ux.but ux.nq Z7 b7 (Ih.mono au au) (run.sm h.ok aU h.sm) (by rw[run.goal h.ok aU];exact h.on);have lA:l∉T::p::A.all:=λm=>by
  rcases bL.mp m with z|m
  ·obtain⟨ps,e,_⟩:=h.tab
   rw[z,e]at nl;cases nl
  ·exact h.here l ((bL.mp m).elim .inr .inl) nl
 have lA':l∉T::p::({A with q:=q'}:Ad).all:=λm=>by
  simp only[Ad.all,bL,cE,dv,not_or]at m lA;obtain⟨h1,h2,h3,h4,h5,h6,h7⟩:=lA;rcases m with z|z|z|z|z|z|z
  ·exact h1 z
  ·exact h2 z
  ·exact h3 z
  ·exact lq z
  ·exact h5 z
  ·exact h6 z
  ·exact h7 z
 have KN:bF (T::p::A.all) H5 H8:=λx o e hx=>s8 _ _ (b57 _ _ e hx);refine⟨L7.same s8,KN,b7 _ _ dl λm=>?_,aJ.v (dj.v (h.mid ux.but) b7) _ (run.no h.ok aU) rd,lA',h.told.go au (h.v KN) (λo e=>s8 _ _ (b7 _ _ (ux.but _ _ e h.wO.2.2.2.2.2) h.wO.2.2.1)) λy jP hx e=>⟨KN _ _ e λm=>?_,λz=>?_⟩⟩
 ·refine lA (lT _ (lT _ ?_))
  simp only[Ad.all,bL,cE,dv]at m⊢;rcases m with z|z<;>simp[z]
 ·rcases bL.mp m with z|m
  ·obtain⟨ps,e',_⟩:=h.tab
   rw[z,e']at e;cases e
  ·exact hx ((bL.mp m).elim .inr .inl)
 ·rcases z with(z|z)|z
  ·refine Vt (T:=T) (p:=p) (A:=A) (λm=>?_) ux.nq e (lT _ (lT _ z))
   rcases bL.mp m with z|m
   ·obtain⟨ps,e',_⟩:=h.tab
    rw[z,e']at e;cases e
   ·exact hx ((bL.mp m).elim .inr .inl)
  ·exact hx (.inr z)
  ·rw[z,nl]at e;cases e
theorem cw.free(h:cw K C T qn H M n A p S)(To:lP K H A.t (40+n) (λy=>(y∈A.all\/y=p)\/y=l))(hl:l∉T::p::A.all)(el:H l=some (.lst us))(b:bF [l] H H'):cw K C T qn H' M n A p S:=by
 have v:cj H H':=b.v λx hx o eo=>by rw[cH.mp hx,el]at eo;cases eo;trivial
 have k:∀{x},x∈T::p::A.all->x∉[l]:=λhx m=>hl (by rw[<-cH.mp m];exact hx);have kA:∀{x},x∈A.all->∀o,H x=some o->H' x=some o:=λhx o e=>b _ _ e (k (lT _ (lT _ hx)));refine⟨h.run.go h.ok.row.no v (kA (by simp[Ad.all])) (kA (by simp[Ad.all])),h.sim.go h.ok.row.no v (kA (by simp[Ad.all])) (kA (by simp[Ad.all])),h.ok,h.sm,To.go (bK _) v (kA (by simp[Ad.all])) λy jP hx e=>⟨b _ _ e λm=>hx (.inr (cH.mp m)),λz=>hx (.inl z)⟩,h.nd,TabAt.but h.tab b (k (.head _)) λx hx φ e=>?_,h.on,h.bu.but b (k (.tail _ (.head _))),h.np⟩;rw[cH.mp hx,el]at e;cases e
end
theorem S0{M:bS}{ms:List Int}{sp:Int}(Ig:fj M.rs.length 100 ms)(gP:1<=sp)(iu:sp<=20):lQ M.rs.length (iE ms sp) (some (ms,sp)):=⟨.inl ⟨ms,sp,Z,Z⟩,λn' s' e=>by cases e;exact⟨Ig,gP,iu⟩,λe=>by cases e⟩
theorem a4P(h:qz d):lQ n d none:=⟨h.it,(λ_ _ e=>nomatch e),λ_=>h⟩
def Ev(K:aa)(G:L2.St->Hp->Prop)(t:TE)(d:ai):Prop:=∀O H Q,G O H->(∀v H',RD K H' v d->aF H H'->Q v H')->t O H Q
def AD(K:aa)(G:L2.St->Hp->Prop)(t:TA)(ds:List ai):Prop:=∀O H Q,G O H->(∀vs H',aJ K H' vs ds->aF H H'->Q vs H')->t O H Q
def Ap(G:L2.St->Hp->Prop):Prop:=∀O H H',G O H->aF H H'->G O H'
section
variable {G:L2.St->Hp->Prop}{t t1 t2:TE}{ta:TA}{d:ai}{ds xM xK:List ai}
theorem iX(i:Int):Ev K G (tC (.int i)) (.int i):=λ_ _ _ _ k=>k _ _ (dU i) (aF.refl _)
theorem dZ(i:Str):Ev K G (tC (.str i)) (.str i):=λ_ _ _ _ k=>k _ _ (cM i) (aF.refl _)
theorem D9(i:Bool):Ev K G (tC (.bl i)) (.bool i):=λ_ _ _ _ k=>k _ _ (lg i) (aF.refl _)
theorem TX:Ev K G (tC .bB) .none:=λ_ _ _ _ k=>k _ _ PJ (aF.refl _)
theorem a9A(i:Int):Ev K G (MF (rU λi=>.int (-i)) (tC (.int i))) (.int (-i)):=λ_ _ _ _ k=>⟨_,Z,k _ _ (dU _) (aF.refl _)⟩
theorem TU(h:∀O H,G O H->∃v,O[i]? =some (some v)/\RD K H v d):Ev K G (kY i) d:=λO H _ g k=>by obtain⟨v,e,r⟩:=h O H g;exact⟨v,e,k _ _ r (aF.refl _)⟩
theorem df:AD K G kG []:=λ_ _ _ _ k=>k _ _ cU (aF.refl _)
theorem bj(hG:Ap G)(h1:Ev K G t d)(h2:AD K G ta ds):AD K G (tO t ta) (d::ds):=λO H _ g k=>h1 O H _ g λ_ H1 r1 s1=>h2 O H1 _ (hG _ _ _ g s1) λ_ _ r2 s2=>k _ _ (bW (RD.mono s2 _ r1) r2) (s1.trans s2)
theorem fb(h:AD K G ta ds)(hl:Nat.ble ds.length 1000=true:=by rfl):Ev K G (Bj ta) (.tuple ds):=λO H _ g k=>h O H _ g λ_ _ r s=>⟨by rw[r.length];exact gM (AL hl) aA,λ_ _ nw=>k _ _ (gA (aR.of nw.at') (aJ.mono nw.same _ r)) (s.trans nw.same)⟩
theorem oy(h:AD K G ta ds)(hl:Nat.ble ds.length 1000=true:=by rfl):Ev K G (MK ta) (.list ds):=λO H _ g k=>h O H _ g λ_ _ r s=>⟨by rw[r.length];exact gM (AL hl) aA,λ_ _ nw=>k _ _ (jS (aH.of nw.at') (aJ.mono nw.same _ r)) (s.trans nw.same)⟩
theorem D8(hG:Ap G)(h1:Ev K G t1 (.tuple xM))(h2:Ev K G t2 (.tuple xK))(hl:xM.length+xK.length<=1000):Ev K G (nL (PY K) t1 t2) (.tuple (xM++xK)):=λO H _ g k=>h1 O H _ g λx H1 r1 s1=>h2 O H1 _ (hG _ _ _ g s1) λy H2 r2 s2=>by
 obtain⟨a,xs,rfl,ha,ra⟩:=r1.dS;obtain⟨b,ys,rfl,hb,rb⟩:=r2.dS;have kg:sizeLine=16777216:=by decide
 refine⟨a,b,xs,ys,Z,Z,ha.go s2,hb,by rw[ra.length,rb.length];lia,λc H3 s3 h3=>k _ _ (gA h3 ((aJ.mono (s2.trans s3) _ ra).append (aJ.mono s3 _ rb))) ((s1.trans s2).trans s3)⟩
theorem sx(hG:Ap G)(h1:Ev K G t1 (.list xM))(h2:Ev K G t2 (.list xK))(hl:Nat.ble (xM.length+xK.length) 1000=true:=by rfl):Ev K G (nL (PZ K) t1 t2) (.list (xM++xK)):=λO H _ g k=>h1 O H _ g λx H1 r1 s1=>h2 O H1 _ (hG _ _ _ g s1) λy H2 r2 s2=>by
 obtain⟨a,xs,rfl,ha,ra⟩:=r1.lst_inv;obtain⟨b,ys,rfl,hb,rb⟩:=r2.lst_inv;have kg:sizeLine=16777216:=by decide
 have hl:=AL hl;refine⟨a,b,xs,ys,Z,Z,ha.go s2,hb,by rw[ra.length,rb.length];lia,λc H3 n3=>k _ _ (jS (aH.of n3.at') ((aJ.mono (s2.trans n3.same) _ ra).append (aJ.mono n3.same _ rb))) ((s1.trans s2).trans n3.same)⟩
theorem a9y(h1:Ev K G t (.tuple ds))(hl:2<=ds.length):Ev K G (EB (Hv K) t (ED (tC (.int 1))) EF) (.tuple (ds.drop 1)):=λO H _ g k=>h1 O H _ g λx H1 r1 s1=>by
 obtain⟨a,xs,rfl,ha,ra⟩:=r1.dS;have lx:=ra.length;refine⟨1,Z,a,xs,Z,.inr ⟨ha,λz=>?_,λc H3 n3=>?_⟩⟩
 ·have e:=z.1
  have:HT.cB xs.length 0 (some 1)=1:=by
   show min _ _=1
   lia
  rw[this]at e;cases e
 ·rw[show(some (1:Int))=some ((1:Nat):Int)from Z,UG]at n3
  exact k _ _ (gA (aR.of n3.at') (aJ.mono n3.same _ (aJ.drop 1 ra))) (s1.trans n3.same)
theorem PB{H:Hp}{i:Int}:∀n:Nat,aJ K H (List.replicate n [V.int i]).flatten (List.replicate n (.int i)) |0=>cU |n+1=>by rw[vB,vB,Ed];exact bW (dU i) (PB n)
theorem TV(hG:Ap G)(h:∀O H,G O H->O[j]? =some (some (.int (n:Int))))(h1:2<=n)(h2:n<=1000):Ev K G (nL (Hw K) (Bj (tO (tC (.int i)) kG)) (kY j)) (.tuple (List.replicate n (.int i))):=λO H Q g k=>(fb (bj hG (iX i) df)) O H _ g λx H1 r1 s1=>by obtain⟨a,xs,rfl,ha,ra⟩:=r1.dS;obtain⟨y,ys,rfl,ry,rn⟩:=ra.cons_inv;cases rn.nil_inv;cases ry.int_inv;refine⟨_,h O H g,a,n,_,Z,Z,ha,by simp,au,au,AL rfl,λc H3 n3=>k _ _ (gA (aR.of n3.at') ?_) (s1.trans n3.same)⟩;rw[LZ];exact PB n
theorem a9B(h:∀O H,G O H->∃v,O[j]? =some (some v)/\RD K H v (.tuple ds)):Ev K G (yC (λxs H Q=>∃p ys,xs=[.ref p]/\(aH K H p ys\/aR K H p ys)/\∀l H',Nw H H' l (.lst ys)->Q (.ref l) H') (tO (kY j) kG)) (.list ds):=λO H Q g k=>by obtain⟨v,e,r⟩:=h O H g;obtain⟨a,xs,rfl,ha,ra⟩:=r.dS;exact⟨_,e,a,xs,Z,.inr ha,λl H' nw=>k _ _ (jS (aH.of nw.at') (aJ.mono nw.same _ ra)) nw.same⟩
end
theorem sy{t:TE}{D:Ends}(h:Ev K G t d)(g:G O H)(k:∀v H',RD K H' v d->aF H H'->rest D (O.set i (some v)) H'):Bk (yD t (fo i)) rest D O H:=h O H _ g k
theorem a9z{t:TE}{D:Ends}(h:Ev K G t d)(g:G O H)(k:∀v H',RD K H' v d->aF H H'->t2 O H' λy H2=>r v y H2 D.rt):MH (nL r t t2) D O H:=h O H _ g k
def yn(n:Nat):List ai:=let one:=List.replicate n (PyData.int 1)
 [.tuple [.str "line",.tuple (one++[.int 0]),.int 5],.tuple [.str "line",.tuple (one.drop 1),.int 5],.tuple [.str "line",.tuple (List.replicate n (.int 0)),.int 5],.tuple [.str "line",.tuple one,.int 0]]++ [.tuple [.str "line",.tuple one,.int 21]]++ [.tuple [.str "line",.tuple one,.bool true],.tuple [.str "line",.list one,.int 5],.list [.str "line",.tuple one,.int 5],.tuple [.str "line",.tuple one]]++ [.tuple [.str "line",.tuple (one.drop 1++[.int 101]),.int 5],.tuple [.str "line",.tuple ([.int (-101)]++one.drop 1),.int 5],.none,.tuple []]++ [.tuple [.str "line",.tuple ([.bool true]++one.drop 1),.int 5],.tuple [.str "line",.tuple one,.int 5,.int 5],.tuple [.str "line",.tuple one,.str "5"],.str "line"]++ [.tuple [.str "Line",.tuple one,.int 5],.tuple [.str "wait",.int 0],.tuple [.str "wait",.int 1001],.tuple [.str "wait",.bool true],.tuple [.str "wait"]]++ [.tuple [.str "tool",.str "Up"],.tuple [.str "tool",.bool true],.tuple [.str "tool",.str "up",.int 1],.tuple [.str "mark",.str ""]]++ [.tuple [.str "mark",.str "abcdefghi"],.tuple [.str "mark",.str "a1"]]++ [.tuple [.str "mark",.str "A"],.tuple [.str "mark",.none],.tuple [.str "marks",.str "a"]]
theorem Md(h1:2<=n)(h2:n<=3):∀d∈yn n,m9 n d=false/\pC d=true:=by
 have h:n=2\/n=3:=by lia
 rcases h with rfl|rfl
 ·decide+kernel
 ·decide+kernel
theorem WX(h1:2<=n)(h2:n<=3):gu 8 (yn n):=by
 have h:n=2\/n=3:=by omega
 rcases h with rfl|rfl
 ·exact rj.mpr ⟨aW,aW⟩
 ·exact rj.mpr ⟨aW,aW⟩
structure WG(K:aa)(n:Nat)(dk:List ai)(O:L2.St)(H:Hp):Prop where
 ax:O[2]? =some (some (.int (n:Int)))
 one:∃v,O[3]? =some (some v)/\RD K H v (.tuple (List.replicate n (.int 1)))
 ND:dk=[]\/∃v,O[5]? =some (some v)/\RD K H v (.list dk)
theorem WG.st:Ap (WG K n dk):=λO H H' g s=>⟨g.ax,by obtain⟨v,e,r⟩:=g.one;exact⟨v,e,RD.mono s _ r⟩,g.ND.imp id λ⟨v,e,r⟩=>⟨v,e,RD.mono s _ r⟩⟩
inductive ac7(K:aa)(vs:List V)(H:Hp)(Q:VK):Prop |mk (p:_)(m:_)(rs:_)(r:_)(f:_)(j:_)(t:_)(h0:vs=[.ref p,m])(h1:eK H p)(h2:RD K H m (iU rs r f j t))(h3:nv rs r f j t)(h4:∀v d H',RD K H' v d->cZ 8 d->pC d=true->m9 rs.length d=false->bO p H H'->Q v H')
def N3(K:aa):Sp:=λvs H Q _=>ac7 K vs H Q
theorem NO:bG ["_law_bag_here","_law_machine_here","_law_axes","_law_one","_law_which","_law_some"] ["_law_bag_here","_law_machine_here"] (aZ Fg):=bQ aW
theorem a1H(F:FA K mg "_law_wrong_item" Fg)(B:bV mg)(eO:aI P w K mg ay "_law_take" 1 pA):aI P w K mg ay "_law_wrong_item" 2 (N3 K):=by
 refine F.has NO (λvs H Q E h=>?_) (λ_ _ _ _ _ _=>dJ λ_ _=>rfl) (λfa aP A outer s H vs Q E hr h=>?_)
 ·obtain⟨p,m,rs,r,f,j,t,rfl,_⟩:=h
  rfl
 ·obtain⟨p,m,rs,r,f,j,t,rfl,bg,rm,qZ,k⟩:=h
  have nd:=NO.nd;have lr:=qZ.len;refine⟨_,(aE (pS 2 nd (eL K B (ao (px K (pv 1) aD) az))) (aE (pS 3 nd (aG (Qt K Z) (ck (ao aD az)) (pv 2))) (aE (pS 4 nd (pf eO hr (ao (pv 0) (ao aD az)))) (aE (pS 5 nd (cK (ao (ck (ao aV (ao (aG (Dr K Z) (pv 3) (ck (ao aD az))) (ao aD az)))) (ao (ck (ao aV (ao (qX (qO K Z) (pv 3) (qV aD) qW) (ao aD az)))) (ao (ck (ao aV (ao (aG (Qt K Z) (ck (ao aD az)) (pv 2)) (ao aD az)))) (ao (ck (ao aV (ao (pv 3) (ao aD az)))) az)))))) (aE (pS 5 nd (aG (ku K Z) (pv 5) (cK (ao (ck (ao aV (ao (pv 3) (ao aD az)))) az)))) (aE (pS 5 nd (aG (ku K Z) (pv 5) (cK (ao (ck (ao aV (ao (pv 3) (ao gC az)))) (ao (ck (ao aV (ao (gQ (x:="list") (Ce K Z) Z (B.at "list") kB (ao (pv 3) az)) (ao aD az)))) (ao (cK (ao aV (ao (pv 3) (ao aD az)))) (ao (ck (ao aV (ao (pv 3) az))) az))))))) (aE (pS 5 nd (aG (ku K Z) (pv 5) (cK (ao (ck (ao aV (ao (aG (Dr K Z) (qX (qO K Z) (pv 3) (qV aD) qW) (ck (ao aD az))) (ao aD az)))) (ao (ck (ao aV (ao (aG (Dr K Z) (ck (ao (wA vO aD) az)) (qX (qO K Z) (pv 3) (qV aD) qW)) (ao aD az)))) (ao jV (ao (ck az) az))))))) (aE (pS 5 nd (aG (ku K Z) (pv 5) (cK (ao (ck (ao aV (ao (aG (Dr K Z) (ck (ao gC az)) (qX (qO K Z) (pv 3) (qV aD) qW)) (ao aD az)))) (ao (ck (ao aV (ao (pv 3) (ao aD (ao aD az))))) (ao (ck (ao aV (ao (pv 3) (ao aV az)))) (ao aV az))))))) (aE (pS 5 nd (aG (ku K Z) (pv 5) (cK (ao (ck (ao aV (ao (pv 3) (ao aD az)))) (ao (ck (ao aV (ao aD az))) (ao (ck (ao aV (ao aD az))) (ao (ck (ao aV (ao gC az))) (ao (ck (ao aV az)) az)))))))) (aE (pS 5 nd (aG (ku K Z) (pv 5) (cK (ao (ck (ao aV (ao aV az))) (ao (ck (ao aV (ao gC az))) (ao (ck (ao aV (ao aV (ao aD az)))) (ao (ck (ao aV (ao aV az))) az))))))) (aE (pS 5 nd (aG (ku K Z) (pv 5) (cK (ao (ck (ao aV (ao aV az))) (ao (ck (ao aV (ao aV az))) az))))) (aL (aX (px K (aG (ku K Z) (pv 5) (cK (ao (ck (ao aV (ao aV az))) (ao (ck (ao aV (ao jV az))) (ao (ck (ao aV (ao aV az))) az))))) (pv 4))))))))))))))),?_⟩;obtain⟨ma,mb,rfl,gf,iI⟩:=jY rm;refine⟨_,Z,.inr ⟨ma,_,0,.ref mb,Z,Z,gf,Z,mb,_,Z,.inr iI,?_⟩⟩;rw[cx];obtain⟨n,hn,n2,n3⟩:∃n:Nat,rs.length=n/\2<=n/\n<=3:=⟨_,Z,au,au⟩;rw[hn]at k⊢;have lo:(List.replicate n (PyData.int 1)).length=n:=AO;refine(TV (G:=λO _=>O[2]? =some (some (.int (n:Int)))) (λ_ _ _ g _=>g) (λ_ _ g=>g) n2 au) _ _ _ Z λone H1 r1 s1=>?_;have b1:bO p H H1:=.gq bg s1;refine⟨_,Z,p,31,Z,b1.bu,aA,aA,λwh H2 w0 w1 b2=>?_⟩;have r2:=RD.t (bO.t b1.bu b2) _ (by rw[fw];exact hO.mpr λd hd=>by rw[(List.mem_replicate.mp hd).2];rfl) r1;have vi:=b1.trans b2;have G4:WG K n [] [some (V.ref p),some (.ref ma),some (.int (n:Int)),some one,some (.int wh),none] H2:=⟨Z,⟨_,Z,r2⟩,.inl Z⟩;have e3:∀dk,Ev K (WG K n dk) (kY 3) (.tuple (List.replicate n (.int 1))):=λdk=>TU λO H g=>g.one;have Di:∀dk,Ev K (WG K n dk) (EB (Hv K) (kY 3) (ED (tC (.int 1))) EF) (.tuple ((List.replicate n (.int 1)).drop 1)):=λdk=>a9y (e3 dk) (by rw[lo];exact n2);have e0:∀dk,Ev K (WG K n dk) (nL (Hw K) (Bj (tO (tC (.int 0)) kG)) (kY 2)) (.tuple (List.replicate n (.int 0))):=λdk=>TV WG.st (λ_ _ g=>g.ax) n2 au;have e5:∀d dk,Ev K (WG K n (d::dk)) (kY 5) (.list (d::dk)):=λd dk=>TU λO H g=>g.ND.elim (λz=>nomatch z) id;have ld:((List.replicate n (PyData.int 1)).drop 1).length<=3:=by rw[yi,lo];lia
  refine sy (oy (bj WG.st (fb (bj WG.st (dZ _) (bj WG.st (D8 WG.st (e3 _) (fb (bj WG.st (iX _) df)) (by simp;try lia)) (bj WG.st (iX _) df)))) (bj WG.st (fb (bj WG.st (dZ _) (bj WG.st (Di _) (bj WG.st (iX _) df)))) (bj WG.st (fb (bj WG.st (dZ _) (bj WG.st (e0 _) (bj WG.st (iX _) df)))) (bj WG.st (fb (bj WG.st (dZ _) (bj WG.st (e3 _) (bj WG.st (iX _) df)))) df))))) G4 λv5 H3 r5 s5=>?_;have VJ:=s5;have G5:=((show WG K n _ [some (V.ref p),some (.ref ma),some (.int (n:Int)),some one,some (.int wh),some v5] H3 from⟨Z,⟨_,Z,RD.mono (VJ) _ r2⟩,.inr ⟨_,Z,r5⟩⟩));refine sy (sx WG.st (e5 _ _) (oy (bj WG.st (fb (bj WG.st (dZ _) (bj WG.st (e3 _) (bj WG.st (iX _) df)))) df))) G5 λv6 H4 r6 s6=>?_;have VI:=VJ.trans s6;have G6:=((show WG K n _ [some (V.ref p),some (.ref ma),some (.int (n:Int)),some one,some (.int wh),some v6] H4 from⟨Z,⟨_,Z,RD.mono (VI) _ r2⟩,.inr ⟨_,Z,r6⟩⟩));refine sy (sx WG.st (e5 _ _) (oy (bj WG.st (fb (bj WG.st (dZ _) (bj WG.st (e3 _) (bj WG.st (D9 _) df)))) (bj WG.st (fb (bj WG.st (dZ _) (bj WG.st (a9B λO H g=>g.one) (bj WG.st (iX _) df)))) (bj WG.st (oy (bj WG.st (dZ _) (bj WG.st (e3 _) (bj WG.st (iX _) df)))) (bj WG.st (fb (bj WG.st (dZ _) (bj WG.st (e3 _) df))) df)))))) G6 λv7 H5 r7 s7=>?_;have VH:=VI.trans s7;have G7:=((show WG K n _ [some (V.ref p),some (.ref ma),some (.int (n:Int)),some one,some (.int wh),some v7] H5 from⟨Z,⟨_,Z,RD.mono (VH) _ r2⟩,.inr ⟨_,Z,r7⟩⟩));refine sy (sx WG.st (e5 _ _) (oy (bj WG.st (fb (bj WG.st (dZ _) (bj WG.st (D8 WG.st (Di _) (fb (bj WG.st (iX _) df)) (by simp;try lia)) (bj WG.st (iX _) df)))) (bj WG.st (fb (bj WG.st (dZ _) (bj WG.st (D8 WG.st (fb (bj WG.st (a9A _) df)) (Di _) (by simp;try lia)) (bj WG.st (iX _) df)))) (bj WG.st TX (bj WG.st (fb df) df)))))) G7 λv8 H6 r8 s8=>?_;have VG:=VH.trans s8;have G8:=((show WG K n _ [some (V.ref p),some (.ref ma),some (.int (n:Int)),some one,some (.int wh),some v8] H6 from⟨Z,⟨_,Z,RD.mono (VG) _ r2⟩,.inr ⟨_,Z,r8⟩⟩));refine sy (sx WG.st (e5 _ _) (oy (bj WG.st (fb (bj WG.st (dZ _) (bj WG.st (D8 WG.st (fb (bj WG.st (D9 _) df)) (Di _) (by simp;try lia)) (bj WG.st (iX _) df)))) (bj WG.st (fb (bj WG.st (dZ _) (bj WG.st (e3 _) (bj WG.st (iX _) (bj WG.st (iX _) df))))) (bj WG.st (fb (bj WG.st (dZ _) (bj WG.st (e3 _) (bj WG.st (dZ _) df)))) (bj WG.st (dZ _) df)))))) G8 λv9 H7 r9 s9=>?_;have VF:=VG.trans s9;have G9:=((show WG K n _ [some (V.ref p),some (.ref ma),some (.int (n:Int)),some one,some (.int wh),some v9] H7 from⟨Z,⟨_,Z,RD.mono (VF) _ r2⟩,.inr ⟨_,Z,r9⟩⟩));refine sy (sx WG.st (e5 _ _) (oy (bj WG.st (fb (bj WG.st (dZ _) (bj WG.st (e3 _) (bj WG.st (iX _) df)))) (bj WG.st (fb (bj WG.st (dZ _) (bj WG.st (iX _) df))) (bj WG.st (fb (bj WG.st (dZ _) (bj WG.st (iX _) df))) (bj WG.st (fb (bj WG.st (dZ _) (bj WG.st (D9 _) df))) (bj WG.st (fb (bj WG.st (dZ _) df)) df))))))) G9 λv10 H8 yW m3=>?_;have VE:=VF.trans m3;have G10:=((show WG K n _ [some (V.ref p),some (.ref ma),some (.int (n:Int)),some one,some (.int wh),some v10] H8 from⟨Z,⟨_,Z,RD.mono (VE) _ r2⟩,.inr ⟨_,Z,yW⟩⟩));refine sy (sx WG.st (e5 _ _) (oy (bj WG.st (fb (bj WG.st (dZ _) (bj WG.st (dZ _) df))) (bj WG.st (fb (bj WG.st (dZ _) (bj WG.st (D9 _) df))) (bj WG.st (fb (bj WG.st (dZ _) (bj WG.st (dZ _) (bj WG.st (iX _) df)))) (bj WG.st (fb (bj WG.st (dZ _) (bj WG.st (dZ _) df))) df)))))) G10 λv11 H9 HM wu=>?_;have VD:=VE.trans wu;have G11:=((show WG K n _ [some (V.ref p),some (.ref ma),some (.int (n:Int)),some one,some (.int wh),some v11] H9 from⟨Z,⟨_,Z,RD.mono (VD) _ r2⟩,.inr ⟨_,Z,HM⟩⟩));refine sy (sx WG.st (e5 _ _) (oy (bj WG.st (fb (bj WG.st (dZ _) (bj WG.st (dZ _) df))) (bj WG.st (fb (bj WG.st (dZ _) (bj WG.st (dZ _) df))) df)))) G11 λqL jc r12 jR=>?_;have VC:=VD.trans jR;have G12:=((show WG K n _ [some (V.ref p),some (.ref ma),some (.int (n:Int)),some one,some (.int wh),some qL] jc from⟨Z,⟨_,Z,RD.mono (VC) _ r2⟩,.inr ⟨_,Z,r12⟩⟩));refine a9z (sx WG.st (e5 _ _) (oy (bj WG.st (fb (bj WG.st (dZ _) (bj WG.st (dZ _) df))) (bj WG.st (fb (bj WG.st (dZ _) (bj WG.st TX df))) (bj WG.st (fb (bj WG.st (dZ _) (bj WG.st (dZ _) df))) df))))) G12 λv13 iL r13 dw=>?_;have SS8:=VC.trans dw;obtain⟨l,xs,rfl,hl,rl⟩:=r13.lst_inv;have hw:wh.toNat<(yn n).length:=by show wh.toNat<31;lia
  obtain⟨d,ed⟩:∃d,(yn n)[wh.toNat]? =some d:=⟨_,cn hw⟩;obtain⟨v,ev',rv⟩:=aJ.get wh.toNat (ds:=yn n) rl ed;refine⟨_,Z,.inl ⟨l,_,wh,v,Z,Z,hl,dC w0 ev',?_⟩⟩;have hd:=gI ed;exact k v d _ rv (WX n2 n3 d hd) (Md n2 n3 d hd).2 (Md n2 n3 d hd).1 (vi.trans (.gq vi.bu SS8))
inductive AB(K:aa)(H':Hp)(d e t:Addr)(M:bS)(S:bE)(dt:ai)(mr:V):Prop |Ei (h1:cZ 8 dt)(h2:pC dt=true)(h3:m9 M.rs.length dt=false)(h4:mr= .str "item")(h5:dj K H' d e t M S):AB K H' d e t M S dt mr |off (o:Itm)(it:lQ M.rs.length dt o)(ho:iS M.rs (fO (cL S) o)=false)(h4:mr= .str ("rails "++Str.ofString (toString (S.ds.length:Int))))(h5:dj K H' d e t M S):AB K H' d e t M S dt mr |full (o:Itm)(it:lQ M.rs.length dt o)(ho:iS M.rs (fO (cL S) o)=true)(hl:S.ds.length=20)(h4:mr= .str "full")(h5:dj K H' d e t M S):AB K H' d e t M S dt mr |ow (o:Itm)(it:lQ M.rs.length dt o)(ho:iS M.rs (fO (cL S) o)=true)(hl:S.ds.length<20)(h4:mr= .int (S.ds.length+1:Nat))(h5:dj K H' d e t M (ml S dt o)):AB K H' d e t M S dt mr
theorem dj.nk{t:Addr}(h:dj K H d e t M S)(no:cS S.ds=true)(bg:eK H p)(pd:p≠d)(pe:p≠e)(b:bO p H H'):dj K H' d e t M S:=h.go no (bO.t bg b).v (λo eo=>b.same _ _ (e9 pd) eo) (λo eo=>b.same _ _ (e9 pe) eo)
inductive ad0(K:aa)(vs:List V)(H:Hp)(Q:VK):Prop |mk (p:_)(d:_)(e:_)(t:_)(M:_)(D:_)(S:_)(h0:vs=[.ref p,.ref d])(h1:eK H p)(h2:p≠d)(h3:p≠e)(h4:dj K H d e t M S)(h5:cF M D S)(h6:M.Ok)(h7:jJ M.rs (cL S))(h8:∀tp vQ mr dt H',aR K H' tp [vQ,mr]->RD K H' vQ dt->bF [p,d,e] H H'->eK H' p->AB K H' d e t M S dt mr->Q (.ref tp) H')
def Ny(K:aa):Sp:=λvs H Q _=>ad0 K vs H Q
theorem OS:bG ["_law_bag_here","_law_sim_here","_law_kind","_law_machine_here","_law_item","_law_steps"] ["_law_bag_here","_law_sim_here"] (aZ GI):=bQ aW
theorem a2O(F:FA K mg "_law_feeding" GI)(B:bV mg)(eO:aI P w K mg ay "_law_take" 1 pA)(a7o:aI P w K mg ay "_law_wrong_item" 2 (N3 K))(a7A:aI P w K mg ay "_law_line" 2 (EW K))(a7y:aI P w K mg ay "_law_other" 2 (Nu K))(a7s:aI P w K mg ay "_law_sim_feed" 1 (Nh K)):aI P w K mg ay "_law_feeding" 3 (Ny K):=by
 refine F.has OS (λvs H Q E h=>?_) (λ_ _ _ _ _ _=>dJ λ_ _=>rfl) (λfa aP A outer s H vs Q E hr h=>?_)
 ·obtain⟨p,d,e,t,M,D,S,rfl,_⟩:=h
  rfl
 ·obtain⟨p,d,e,t,M,D,S,rfl,bg,pd,pe,afH,ok,aU,on,k⟩:=h
  have nd:=OS.nd;have lr:=aU.len;have no:=ok.row.no;refine⟨_,(aE (pS 2 nd (pf eO hr (ao (pv 0) (ao aD az)))) (aE (pS 3 nd (cR hr (pv 1) aV)) (aE (bR (cu (cY K Z hr.units) (pv 2) aD (bI _)) (aL (aX (ck (ao (pf a7o hr (ao (pv 0) (ao (pv 3) az))) (ao aV az))))) bU) (aE (pS 4 nd (pf a7A hr (ao (pv 0) (ao (pv 3) (ao (cR hr (pv 1) aV) (ao (px K (cK (ao aD (ao aD (ao aD (ao aD (ao aD (ao aD (ao aD (ao aD az))))))))) (pv 2)) az)))))) (aE (hJ (bR (cu (cY K Z hr.units) (pv 2) aD (bI _)) (aL (pS 4 nd (pf a7y hr (ao (pv 0) az)))) bU)) (aE (hJ (bR (cu (cY K Z hr.units) (pv 2) aD (bI _)) (aE (BL (i0:=5) nd Z (Or.inl Z) (N:=["_law_axis","_law_bag_here"]) (js:=[none,some 0]) Z Z Z (pH K Z (qX (qO K Z) (px K (pv 3) aD) (qV aD) qW)) (λ_ _ _ _ _=>(bp 0 (fF aA))) (λ_ _ _ _ _=>fL) (λ_ _ _ _ _=>(aG gc (pf eO hr (ao (pv 1) (ao aD az))) aD))) (aL (pS 4 nd (ck (ao aV (ao (gQ (x:="tuple") (kX K Z) Z (B.at "tuple") fW (ao (aG (ku K rfl) (pv 5) (cK (ao (aG gc aD (aG bM aD (pf eO hr (ao (pv 0) (ao aD az))))) az))) az)) (ao aD az))))))) bU)) (aL (aX (ck (ao (pv 4) (ao (pf a7s hr (ao (pv 1) (ao (pv 4) az))) az))))))))))),?_⟩;refine⟨_,Z,p,8,Z,bg,aA,aA,λkd H1 k0 k1 b1=>?_⟩;have Z1:=afH.nk no bg pd pe b1;obtain⟨mv,lv,gv,sv,bv,cv,rv,e1,rm,r2,rg,r4,r5,r6⟩:=Z1.ob;have bt:∀{H2:Hp},bO p H1 H2->bF [p,d,e] H H2:=λb2 x o eo hx=>(b1.trans b2).same x o (λz=>hx (by rw[z];exact .head _)) eo;refine⟨_,Z,d,_,Z,dg e1 zX,?_⟩;refine⟨_,Z,.inl ⟨_,_,Z,Z,_,Z,?_⟩⟩;refine eQ (λh0=>?_) (λh0=>?_)
  ·refine⟨_,Z,_,Z,p,mv,M.rs,M.r,M.f,M.j,M.t,Z,b1.bu,rm,aU,λv dt H2 cQ i8 sh ni b2=>?_⟩
   refine⟨bT Z,λtp H3 n3=>?_⟩;have b3:bO p H1 H3:=b2.trans (.gq b2.bu n3.same);exact k tp v _ dt H3 (aR.of n3.at') (RD.mono n3.same _ cQ) (bt b3) b3.bu (.Ei i8 sh ni Z (Z1.nk no b1.bu pd pe b3))
  ·have hk0:kd≠0:=λz=>h0 (cP z)
   obtain⟨mo,hmo,QX,QW⟩:∃mo:Int,fP [V.int 3,.int 3,.int 3,.int 3,.int 3,.int 3,.int 3,.int 20] kd=some (.int mo)/\1<=mo/\mo<=100:=by
    rcases(show kd=1\/kd=2\/kd=3\/kd=4\/kd=5\/kd=6\/kd=7 by lia)with rfl|rfl|rfl|rfl|rfl|rfl|rfl
    ·exact⟨3,Z,aA,aA⟩
    ·exact⟨3,Z,aA,aA⟩
    ·exact⟨3,Z,aA,aA⟩
    ·exact⟨3,Z,aA,aA⟩
    ·exact⟨3,Z,aA,aA⟩
    ·exact⟨3,Z,aA,aA⟩
    ·exact⟨20,Z,aA,aA⟩
   refine⟨_,Z,_,Z,_,Z,d,_,Z,dg e1 JO,bT Z,λll H2 n2=>?_⟩;have b2:bO p H1 H2:=.gq b1.bu n2.same;refine⟨_,Z,.inl ⟨ll,_,kd,_,Z,Z,aH.of n2.at',hmo,p,mv,M.rs,M.r,M.f,M.j,M.t,gv,cL S,mo,Z,b2.bu,RD.mono n2.same _ rm,aU,RD.mono n2.same _ rg,on,QX,QW,λiv ns sp H3 rl Ig gP iu onl b3=>?_⟩⟩;have KS:=b2.trans b3;refine⟨λO H4=>∃iv dt o v5,O=[some (.ref p),some (.ref d),some (.int kd),some mv,some iv,v5]/\bO p H1 H4/\RD K H4 iv dt/\lQ M.rs.length dt o,?_,?_⟩
   ·refine⟨_,Z,.inl ⟨_,_,Z,Z,_,Z,?_⟩⟩
    refine eQ (λh1=>?_) (λh1=>⟨iv,_,some (ns,sp),none,Z,KS,rl,S0 Ig gP iu⟩);refine⟨_,Z,p,Z,KS.bu,λv dt H4 cQ iC b4=>?_⟩;exact⟨v,dt,none,none,Z,KS.trans b4,cQ,a4P iC⟩
   ·rintro O H4 ⟨iv,dt,o,v5,rfl,b4,ri,it⟩
    refine⟨λO H4=>∃iv dt o v5,O=[some (.ref p),some (.ref d),some (.int kd),some mv,some iv,v5]/\bO p H1 H4/\RD K H4 iv dt/\lQ M.rs.length dt o,?_,?_⟩
    ·refine⟨_,Z,.inl ⟨_,_,Z,Z,_,Z,?_⟩⟩
     refine eQ (λh1=>?_) (λh1=>⟨iv,dt,o,v5,Z,b4,ri,it⟩);have ZK:=RD.t (bO.t b1.bu b4) _ (jZ _ _ _ _ _) rm;obtain⟨ma,mb,hmv,gf,iI⟩:=jY ZK;refine⟨_,Z,.inr ⟨ma,_,0,.ref mb,hmv,Z,gf,Z,1,Z,mb,_,Z,.inr ⟨iI,λz=>?_,λc H5 n5=>?_⟩⟩⟩
     ·have ez:=z.1
      have:HT.cB (M.rs.map V.int).length 0 (some 1)=1:=by
       show min _ _=1;rw[cx]
       lia
      rw[this]at ez;cases ez
     rw[show(some (1:Int))=some ((1:Nat):Int)from Z,UG]at n5;have b5:bO p H1 H5:=b4.trans (.gq b4.bu n5.same);have cp:c≠p:=λz=>b4.bu.ne (z▸n5.no);have lc:((M.rs.map V.int).drop 1).length=M.rs.length-1:=by rw[yi,cx]
     refine⟨c,Z,⟨_,aR.of n5.at'⟩,λD' H6 n6=>?_⟩;have b6:bO p H1 H6:=b5.trans (.gq b5.bu n6.same);have hc:∀{H7},bO p H5 H7->aR K H7 c ((M.rs.map V.int).drop 1):=λb7=>(aR.of n5.at').t (bO.t b5.bu b7);refine UO (J:=qB K c) (p:=p) (H:=H5) (M.rs.length-1) _ n6 b5.bu au (λi=>((M.rs.map V.int).drop 1).getD i .bB) (λi H7 hi b7=>?_) (λH7 b7=>⟨_,hc b7,by rw[lc];exact bK _⟩) (λz=>-100<=z/\z<=100) ?_ ?_
     ·have ei:((M.rs.map V.int).drop 1)[i]? =some (((M.rs.map V.int).drop 1).getD i .bB):=by rw[WD,cn (by rw[lc];exact hi)];rfl
      exact⟨⟨_,_,hc b7,ei⟩,λy H8 ⟨e8,y8⟩=>⟨e8,by have:=y8 _ (hc b7);rw[ei]at this;exact(dQ this).symm⟩⟩
     ·intro i H7 Q' hi b7 hq
      refine⟨_,Z,p,201,Z,b7.bu,aA,aA,λz H8 z0 z1 b8=>⟨_,_,Z,Z,?_⟩⟩;exact hq _ _ ⟨au,au⟩ b8
     ·intro H7 is b7 d7 l7 bd7
      have Vm:=b5.trans b7;have lp:D'≠p:=λz=>b5.bu.ne (z▸n6.no);have kg:sizeLine=16777216:=by decide
      refine⟨_,Z,_,Z,p,2,Z,Vm.bu,aA,aA,λz H8 z0 z1 b8=>⟨_,_,Z,Z,.of_left (cm aA aA),_,_,Z,Z,?_⟩⟩;refine⟨bT Z,λl9 H9 n9=>?_⟩;have d9:=n9.same _ _ (b8.same _ _ lp d7);refine⟨D',l9,_,_,Z,Z,aH.of d9,aH.of n9.at',by rw[cx,l7];show _+1<=_;lia,λl10 jc lB=>?_⟩;refine⟨l10,_,Z,.inl ⟨aH.of lB.at',λtt iL iT=>?_⟩⟩;refine⟨bT Z,λti oS rC=>?_⟩;have vi:bO p H1 oS:=(Vm.trans b8).trans (.gq b8.bu (((n9.same.trans lB.same).trans iT.same).trans rC.same));have ot:fj M.rs.length 100 (is++[100-200*z]):=by
       refine⟨by rw[fC,l7];show _+1=_;lia,λy hy=>?_,100-200*z,by simp,au⟩;rcases vF.mp hy with hy|hy
       ·have:=bd7 y hy;lia
       ·rw[cH.mp hy];lia
      have et:=iT.at';rw[show is.map V.int++[V.int (100-200*z)]=(is++[100-200*z]).map V.int by simp]at et;exact⟨.ref ti,iE (is++[100-200*z]) 20,some (is++[100-200*z],20),_,Z,vi,gA (aR.of rC.at') (bW (cM _) (bW (gA (aR.of (rC.same _ _ et)) (u9 _)) (bW (dU _) cU))),S0 ot aA aA⟩
    ·rintro O H5 ⟨iv,dt,o,v5,rfl,b5,ri,it⟩
     refine⟨_,Z,_,Z,_,Z,d,e,t,M,D,S,iv,dt,o,Z,Z1.nk no b1.bu pd pe b5,ok,aU,ri,it,λho H6 s6=>?_,λho hl H6 s6=>?_,λho hl H6 Z6 b6=>?_⟩
     ·refine⟨bT Z,λtp H7 n7=>?_⟩
      have b7:bO p H1 H7:=b5.trans (.gq b5.bu (s6.trans n7.same));exact k tp iv _ dt H7 (aR.of n7.at') (RD.mono (s6.trans n7.same) _ ri) (bt b7) b7.bu (.off o it ho Z (Z1.nk no b1.bu pd pe b7))
     ·refine⟨bT Z,λtp H7 n7=>?_⟩
      have b7:bO p H1 H7:=b5.trans (.gq b5.bu (s6.trans n7.same));exact k tp iv _ dt H7 (aR.of n7.at') (RD.mono (s6.trans n7.same) _ ri) (bt b7) b7.bu (.full o it ho hl Z (Z1.nk no b1.bu pd pe b7))
     ·refine⟨bT Z,λtp H7 n7=>?_⟩
      have Z5:=Z1.nk no b1.bu pd pe b5;have pn:p∉[d,e]:=by simp[pd,pe]
      have bg6:eK H6 p:=eK.but b5.bu b6 pn;have zk:cS (ml S dt o).ds=true:=(ok.ow it hl).row.no;exact k tp iv _ dt H7 (aR.of n7.at') (RD.mono n7.same _ (RD.v (Z5.v b6) _ it.it.no ri)) (λx o' eo hx=>n7.same _ _ (b6 _ _ (bt b5 _ _ eo hx) λm=>hx (.tail _ m))) (by obtain⟨c,m,e',q⟩:=bg6;exact⟨c,m,n7.same _ _ e',q⟩) (.ow o it ho hl Z (Z6.same zk n7.same))
theorem jj{H:Hp}{x y:Addr}(hx:H x≠none)(hy:H y=none):x≠y:=λe=>hx (by rw[e];exact hy)
theorem Fe(s:aF H H')(hx:H x≠none):H' x≠none:=by cases h:H x with |none=>exact(hx h).elim |some o=>rw[s _ _ h];simp
theorem aF.but(s:aF H0 H)(b:bF S H H')(hn:∀x∈S,H0 x=none):aF H0 H':=λb' o e=>b _ _ (s _ _ e) (λhm=>by rw[hn _ hm]at e;cases e)
theorem cw.first(hT:H5 T=some (.eZ #[]))(bg:eK H5 p)(nx:H5 x=none)(zi:H5 q0=none)(R6:du K C H6 x q0 M (nM pl))(s6:aF H5 H6)(Z0:dj K H9 d0 e0 t0 M (nM pl))(T0:H9 t0=some (.lst []))(nU:H6 d0=none)(wQ:H6 e0=none)(wJ:H6 t0=none)(g1:d0≠t0)(g2:e0≠t0)(s9:aF H6 H9)(on:jJ M.rs pl)(hl:pl.length=M.rs.length):cw K C T qn H9 M 0 ⟨x,q0,d0,e0,t0⟩ p (nM pl):=by
 have px:H6 x≠none:=by obtain⟨_,_,_,_,_,e,_⟩:=R6.ob;rw[e];simp
 have pq:H6 q0≠none:=by obtain⟨_,e,_⟩:=R6.qu;rw[e];simp
 have pb:H5 p≠none:=by obtain⟨c,m,e,_⟩:=bg;rw[e];simp
 have HS:=Fe s6 pb;refine⟨R6.same Z s9,Z0,ZE hl,Yw pl,⟨[],T0,gy _,nofun⟩,?_,.first (s9 _ _ (s6 _ _ hT)),on,?_,?_⟩
 ·simp only[Ad.all,tF,bL,cE,dv,not_or,List.nodup_nil,not_false_eq_true,and_true]
  exact⟨⟨R6.ne,jj px nU,jj px wQ,jj px wJ⟩,⟨jj pq nU,jj pq wQ,jj pq wJ⟩,⟨Z0.ne,g1⟩,g2⟩
 ·obtain⟨c,m,e,k⟩:=bg
  exact⟨c,m,s9 _ _ (s6 _ _ e),k⟩
 ·simp only[Ad.all,bL,cE,dv,not_or]
  exact⟨jj pb nx,jj pb zi,jj HS nU,jj HS wQ,jj HS wJ⟩
def ib(K:aa)(H:Hp)(a:Addr)(la:List Int)(L:List Addr):Prop:=(∀H2,aH K H2 a (la.map V.int))\/(aH K H a (la.map V.int)/\(∃o,H a=some o)/\a∉L)
theorem ib.Fc(h:ib K H a la L):aH K H a (la.map V.int):=h.elim (λh=>h H) λh=>h.1
theorem ib.but(h:ib K H a la L)(b:bF L H H')(hn:∀x,x∈L'->x∈L\/H x=none):ib K H' a la L':=by
 rcases h with h|⟨h1,⟨o,e⟩,h3⟩
 ·exact .inl h
 ·refine .inr ⟨?_,⟨o,b _ _ e h3⟩,λm=>(hn a m).elim h3 λz=>by rw[z]at e;cases e⟩
  rcases h1 with h1|h1
  ·exact .inl (h1.imp (λz=>b _ _ z h3) λ⟨o',z⟩=>⟨o',b _ _ z h3⟩)
  ·exact .inr h1
abbrev uB:Str:=(("law":Str)++Str.ofString ".<locals>.")++Str.ofString "<lambda>"
theorem PF(hT:∃ps,H T=some (.eZ ps))(h:Rd H a o)(hn:∀ps,o≠ .eZ ps):a≠T:=λz=>by
 obtain⟨ps,e⟩:=hT;rcases h with h|⟨ob,h⟩
 ·rw[z,e]at h;cases h;exact hn _ rfl
 ·rw[z,e]at h;cases h
mutual
theorem PD{H H':Hp}{T:Addr}(b:bF [T] H H')(hT:∃ps,H T=some (.eZ ps)):∀{x:V}(d:ai),RD K H x d->RD K H' x d
 |x,.none,h=>by simpa[RD]using h |x,.bool b,h=>by simpa[RD]using h |x,.int i,h=>by simpa[RD]using h |x,.str y,h=>by simpa[RD]using h |x,.list ds,h=>by
  rw[RD]at h⊢;obtain⟨a,xs,e,h1,h2⟩:=h;refine⟨a,xs,e,?_,Ho b hT ds h2⟩;rcases h1 with h1|h1
  ·have na:a∉[T]:=by rw[cH];exact PF hT h1 (λ_ z=>nomatch z)
   exact .inl (h1.imp (λz=>b _ _ z na) λ⟨o,z⟩=>⟨o,b _ _ z na⟩)
  ·exact .inr h1 |x,.tuple ds,h=>by
  rw[RD]at h⊢;obtain⟨a,xs,e,h1,h2⟩:=h;refine⟨a,xs,e,?_,Ho b hT ds h2⟩;rcases h1 with h1|h1
  ·have na:a∉[T]:=by rw[cH];exact PF hT h1 (λ_ z=>nomatch z)
   exact .inl (h1.imp (λz=>b _ _ z na) λ⟨o,z⟩=>⟨o,b _ _ z na⟩)
  ·exact .inr h1 |x,.dict _,h=>by simp[RD]at h
theorem Ho {H H':Hp}{T:Addr}(b:bF [T] H H')(hT:∃ps,H T=some (.eZ ps)):∀{xs:List V}(ds:List ai),aJ K H xs ds->aJ K H' xs ds |xs,[],h=>by simpa[aJ]using h |xs,d::ds,h=>by rw[aJ]at h⊢;obtain⟨y,ys,e,h1,h2⟩:=h;exact⟨y,ys,e,PD b hT d h1,Ho b hT ds h2⟩
end
theorem ZW{D:Nat}(L:xV s'.heap H (cX outer) f pr b sc qn c cl)(hc:H c=some (.ext (jK c qn)))(CA:sS s'.heap H (cX outer) cl N [.ref a,iv])(hN:N.length=2)(Sc:vo N sc)(hb:∀pm cd ct,bindArgs (PySem.W.kla_fn "<lambda>" qn pr b sc cl pm cd ct) ⟨[],[]⟩=pure []) (hpe:∀(A:aj)(outer:List Env)(s:ae)(H:Hp)(E:XK),cN 5 (A.deeper (PySem.W.envX qn sc s.heap.objs.size f (.ref c) cl))->PE (rK (jv P w) P w K mg ay N qn sc f (.ref c) cl A outer s H E) b (EG C "feed" (Bt K C R) E (kY 0) (tO (kY 1) kG))) (hR:du K C H a q M S)(ok:cF M D S)(aU:M.Ok)(rd:RD K H iv d)(h8:cZ 8 d)(sh:pC d=true) (kk:(m9 M.rs.length d=false/\∀H2,aF H H2->Q (.str "item") H2)\/∃o,lQ M.rs.length d o/\(iS M.rs (fO (cL S) o)=false->∀H2,aF H H2->Q (.str ("rails "++Str.ofString (toString (S.ds.length:Int)))) H2)/\(iS M.rs (fO (cL S) o)=true->S.ds.length=20->∀H2,aF H H2->Q (.str "full") H2)/\(iS M.rs (fO (cL S) o)=true->S.ds.length<20->∀H2,du K C H2 a q M (ml S d o)->bF [a,q] H H2->Q (.int (S.ds.length+1:Nat)) H2)):Bs P w K mg ay R 5 outer s' [.ref f] H Q E:=by
 obtain⟨dx,mv,bv,cW,tv,e,_⟩:=hR.ob;have wZ:=ok.len;refine⟨f,c,cl,pr,b,sc,qn,N,_,λE=>EG C "feed" (Bt K C R) E (kY 0) (tO (kY 1) kG),Z,L,hc,CA,hN.symm,Sc,hb,hpe,?_⟩;refine⟨_,Z,a,dx,_,Z,e,Z,_,Z,a,q,M,D,S,iv,d,Z,hR,ok,aU,rd,h8,sh,?_⟩;rcases kk with⟨h1,k1⟩|⟨o,it,k1,k2,k3⟩
 ·exact .inl ⟨h1,λH2 s2=>.inl ⟨R.n,_,_,_,_,0,"item",.n,Z,λH3 s3=>k1 _ (s2.trans s3)⟩⟩
 ·exact .inr ⟨o,it,λho H2 dd s2 ed=>.inr ⟨Z,dd,S.ds.length,Z,ed,au,λH3 s3=>k1 ho _ (s2.trans s3)⟩,λho hl H2 s2=>.inl ⟨R.f,_,_,_,_,2,"full",.f,Z,λH3 s3=>k2 ho hl _ (s2.trans s3)⟩,k3⟩
section
variable {C T:Addr}{qn:Str}{H H7 H8 H9:Hp}{M:bS}{n:Nat}{A:Ad}{p:Addr}{S S':bE}
theorem cw.Yh(x:Addr)(hx:x∈[p,A.d,A.e]):x∈T::p::A.all:=by simp only[Ad.all,bL,cE,dv]at hx⊢;rcases hx with z|z|z<;>simp[z]
theorem cw.yA(h:cw K C T qn H M n A p S)(b:bF [p,A.d,A.e] H H7):TabAt H7 T qn:=by
 refine TabAt.but h.tab b (λm=>?_) λx hx φ=>h.zj x ?_ φ
 ·simp only[bL,cE,dv]at m
  rcases m with z|z|z
  ·exact h.Iz z
  ·exact h.nT (by rw[z];simp[Ad.all])
  ·exact h.nT (by rw[z];simp[Ad.all])
 ·simp only[Ad.all,bL,cE,dv]at hx⊢
  rcases hx with z|z|z<;>simp[z]
theorem cw.half(h:cw K C T qn H M n A p S)(b:bF [p,A.d,A.e] H H7)(bg:eK H7 p)(afH:dj K H7 A.d A.e A.t M S')(no:cS S'.ds=true)(bt:bF [T] H7 H8):du K C H8 A.a A.q M S/\dj K H8 A.d A.e A.t M S'/\eK H8 p/\bF (T::p::A.all) H H8/\∀o,H A.t=some o->H8 A.t=some o:=by
 have b7:bF (T::p::A.all) H H7:=b.mono cw.Yh;have b78:bF (T::p::A.all) H7 H8:=bt.mono λx hx=>by rw[cH.mp hx];exact .head _
 have XD:=h.yA b;have nT:∀{x},x∈A.all->x∉[T]:=λhx m=>h.nT (by rw[<-cH.mp m];exact hx);have nd:=h.nd;have np:=h.np;simp only[Ad.all,tF,bL,cE,dv,not_or]at nd np;obtain⟨⟨t1,t2,t3,t4⟩,⟨t5,t6,t7⟩,⟨t8,t9⟩,vS,_⟩:=nd;obtain⟨p1,p2,p3,p4,p5⟩:=np;have k3:∀{x:Addr},x≠p->x≠A.d->x≠A.e->x∉[p,A.d,A.e]:=λh1 h2 h3=>by simp[h1,h2,h3]
 have X6:cj H7 H8:=bt.v λx hx o eo=>by obtain⟨ps,et,_⟩:=XD;rw[cH.mp hx,et]at eo;cases eo;trivial
 have bb:=b7.trans b78;refine⟨h.run.go h.ok.row.no (h.v bb) (λo e=>bt _ _ (b _ _ e (k3 (e9 p1) t2 t3)) (nT (by simp[Ad.all]))) (λo e=>bt _ _ (b _ _ e (k3 (e9 p2) t5 t6)) (nT (by simp[Ad.all]))),afH.go no X6 (λo e=>bt _ _ e (nT (by simp[Ad.all]))) (λo e=>bt _ _ e (nT (by simp[Ad.all]))),eK.but bg bt (λm=>h.Iz (cH.mp m).symm),bb,λo e=>bt _ _ (b _ _ e (k3 (e9 p5) (e9 t9) (e9 vS))) (nT (by simp[Ad.all]))⟩
theorem cw.kept(h:cw K C T qn H M n A p S)(b:bF [p,A.d,A.e] H H7)(bg:eK H7 p)(afH:dj K H7 A.d A.e A.t M S)(bt:bF [T] H7 H8)(tb:TabAt H8 T qn)(hn:n<=99):cw K C T qn H8 M (n+1) A p S/\bF (T::p::A.all) H H8:=by obtain⟨R8,Z8,KJ,b8,et⟩:=h.half b bg afH h.ok.row.no bt;exact⟨h.Es A.q b8 et (.inl Z) R8 Z8 (h.ok.mono au au) h.sm tb h.on KJ,b8⟩
theorem cw.ow(h:cw K C T qn H M n A p S)(b:bF [p,A.d,A.e] H H7)(bg:eK H7 p)(afH:dj K H7 A.d A.e A.t M S')(bt:bF [T] H7 H8)(tb:TabAt H8 T qn)(R9:du K C H9 A.a A.q M S')(b9:bF [A.a,A.q] H8 H9)(ok:cF M (64+10*(n+1)) S')(sm:SM S')(on:jJ M.rs (cL S')):cw K C T qn H9 M (n+1) A p S'/\bF (T::p::A.all) H H9:=by
 obtain⟨R8,Z8,KJ,b8,et⟩:=h.half b bg afH ok.row.no bt;have bb:bF (T::p::A.all) H H9:=b8.trans (b9.mono EI);have in1:∀x∈[A.a,A.q],x∈A.all:=λx hx=>by simp only[Ad.all,bL,cE,dv]at hx⊢;rcases hx with z|z<;>simp[z]
 have X4:cj H8 H9:=R8.v b9;obtain⟨n1,n2,n3,n4,n5,n6⟩:=h.wO;have XC:=TabAt.but tb b9 (λm=>h.nT (in1 _ m)) λx hx φ e=>by
  simp only[bL,cE,dv]at hx;obtain⟨dx,mv,bv,cW,tv,er,_⟩:=R8.ob;obtain⟨ys,eq,_⟩:=R8.qu;rcases hx with z|z
  ·rw[z,er]at e;cases e
  ·rw[z,eq]at e;cases e
 exact⟨h.Es A.q bb (λo e=>b9 _ _ (et o e) n6) (.inl Z) R9 (Z8.go ok.row.no X4 (λo e=>b9 _ _ e n4) (λo e=>b9 _ _ e n5)) ok sm XC on (eK.but KJ b9 λm=>h.np (in1 _ m)),bb⟩
end
theorem Dx(b:bO p H H'):bF (T::p::L) H H':=λx o e hx=>b.same x o (λz=>hx (by rw[z];exact .tail _ (.head _))) e
theorem a08:∀n:Nat,n<21->cZ 0 (.str ("rails "++Str.ofString (toString (n:Int)))):=λn hn=>by
 have h:∀n:Fin 21,PyData.canLay0 (.str ("rails "++Str.ofString (toString ((n.val:Nat):Int))))=true:=by decide+kernel
 exact⟨h ⟨n,hn⟩,by simp[PyData.depth]⟩
theorem ib.new(h:ib K H a la L)(nl:H0 l=none)(s:aF H0 H)(h0:ib K H0 a la L):ib K (L2.upd H l o) a la L:=by
 rcases h0 with h0|⟨h1,⟨o',e⟩,h3⟩
 ·exact .inl h0
 ·have na:a≠l:=λz=>by rw[z,nl]at e;cases e
  refine .inr ⟨?_,⟨o',by rw[aO na];exact s _ _ e⟩,h3⟩;rcases h1 with h1|h1
  ·exact .inl (h1.imp (λz=>by rw[aO na];exact s _ _ z) λ⟨o'',z⟩=>⟨o'',by rw[aO na];exact s _ _ z⟩)
  ·exact .inr h1
theorem OF:bG ["_law_script","_law_bag_here","_law_machine_here","_law_place_here","_law_runner","_law_sim_here","_law_quick","_law_k","_law_quiet","_law_n","_law_thing","_law_due"] ["_law_script"] (aZ wk):=bQ aW
theorem a2E(F:j4 K "law" "law" wk f fd)(me:mx K fd.code T=true)(TC:gX K C)(B:bV mg)(uT:ay.BuiltinsAt mg T)(SV:aI P w K mg ay "_law_bag" 1 (NC K))(eO:aI P w K mg ay "_law_take" 1 pA)(a7z:aI P w K mg ay "_law_machine" 2 (Nv K))(a7x:aI P w K mg ay "_law_place" 2 (Nq K))(a7a:DN P w K mg ay C "Runner" 1 (Nl K C))(a7u:aI P w K mg ay "_law_sim" 1 (Nb K))(mY:aI P w K mg ay "_law_alike" 5 (yJ (Nx (Nx (Nx (Nx A0)))) K))(a7v:AA P w K mg ay "_law_refused" 7 (Bs P w K mg ay R 5))(a7j:DM P w K mg ay C "feed" 5 (Bt K C R))(a7C:aI P w K mg ay "_law_feeding" 3 (Ny K))(a7l:dG P w K mg ay C "entries" 12 (Np K C))(a7t:aI P w K mg ay "_law_sim_entries" 6 (Ni K))(JE:dG P w K mg ay C "waiting" 1 (fK K C λ_ S H Q=>∀l ys H',H l=none->H' l=some (.lst ys)->aJ K H' ys S.ds->aF H H'->Q (.ref l) H'))(JJ:aI P w K mg ay "_law_seen" 6 (EO K C)):gY P w K mg ay ij 14 f fd ["_law_script"] (EX K T):=by
 refine F.BU me OF (λvs H Q E h=>?_) (λaP A outer s H vs Q E hcT hr h=>?_)
 ·obtain⟨a,ns,rfl,_⟩:=h
  rfl
 ·obtain⟨a,ns,rfl,hS,hlen,hT,k⟩:=h
  have nd:=OF.nd;refine⟨_,(aE (pS 1 nd (pf SV hr (ao (pv 0) (ao aD az)))) (aE (pS 2 nd (pf a7z hr (ao (pv 1) az))) (aE (pS 3 nd (pf a7x hr (ao (pv 1) (ao (pv 2) az)))) (aE (pS 4 nd (a0T a7a (hr.mono aA) Z (ao (pv 2) (ao (pv 3) az)))) (aE (pS 5 nd (pf a7u hr (ao (pv 2) (ao (pv 3) az)))) (aE (pS 6 nd (pf eO hr (ao (pv 1) (ao aD az)))) (aE (m6 ip Z (yY Z (B.at "range") (ao (dM (x:="max") (V5 rfl) rfl (B.at "max") E4 (ao aD (ao (dM (x:="min") (Kz rfl) rfl (B.at "min") Wu (ao (eL K B (ao (pv 0) az)) (ao aD az))) az))) az)) (bp 7 nd) (aE (pS 1 nd (pf SV hr (ao (pv 0) (ao (aG dc (pv 7) aD) az)))) (aE (pS 8 nd (fE (cY K Z hr.units) (pf eO hr (ao (pv 1) (ao aD az))) aD (bI _))) (aE (hJ (bR (cu (cY K Z hr.units) (pf eO hr (ao (pv 1) (ao (px K (cK (ao aD (ao aD (ao aD az)))) (pv 6)) az))) aD (bI _)) (aE (pS 9 nd (pf eO hr (ao (pv 1) (ao aD az)))) (aL (bR (fD (cV (pf mY hr (ao (BO a7l TC.cl (hr.mono aA) (pv 4) (ao (pv 9) az)) (ao (pf a7t hr (ao (pv 5) (ao (pv 9) az))) az))))) (aL (aX gC)) bU))) (aE (fZ (pf a7C hr (ao (pv 1) (ao (pv 5) az))) (eG K Z (n:=2) Z (bZ (bp 10 nd) (bZ (bp 11 nd) eu)))) (aL (bR (fD (cV (pf mY hr (ao (a0R (a4w "_law_runner" "_law_thing" 4 10 aW Z Z Z Z) a7v (hr.mono aA) Z (λ_=>rfl) hcT uT Z Z) (ao (pv 11) az))))) (aL (aX gC)) bU))))) (aE (bR (PW.pt (pF (fD (cV (pv 8))) (uc (fD (cV (pf JJ hr (ao (pv 4) (ao (pv 5) az)))))))) (aL (aX gC)) bU) (aE (iA (a1d K Z (iQ JE TC.cl (hr.mono aA) (pv 4)))) (aL (bR (PW.pt (pF (cu (cY K Z hr.units) (aG pK (pv 7) aD) aD (bI _)) (uc (fD (cV (pf JJ hr (ao (pv 4) (ao (pv 5) az)))))))) (aL (aX gC)) bU)))))))) (aL (aX (pf JJ hr (ao (pv 4) (ao (pv 5) az)))))))))))),?_⟩;refine⟨_,Z,a,ns,_,Z,hS,hlen,au,au,λp H3 np Dv s3=>?_⟩;refine⟨_,Z,p,Z,Dv,λmv rs r f j ti H4 rm aU b4=>?_⟩;have nm:=jZ rs r f j ti;refine⟨_,Z,_,Z,p,mv,rs,r,f,j,ti,Z,b4.bu,rm,aU,λBN pl H5 BH on b5=>?_⟩;have ZJ:=RD.t (bO.t b4.bu b5) _ nm rm;obtain⟨M,Pq,mK,eRs⟩:∃M:bS,RD K H5 mv M.D/\M.Ok/\M.rs=rs:=⟨⟨rs,r,f,j,ti⟩,ZJ,aU,Z⟩;have Qx:jJ M.rs pl:=by rw[eRs];exact on
  have s5:aF H H5:=bO.P5 (bO.P5 s3 np b4) np b5;refine⟨_,Z,_,Z,λx dx nx Iu Iq=>⟨x,dx,mv,BN,M,pl,Z,bo,?_,?_,λq0 H6 R6 zi b6=>?_⟩⟩
  ·exact RD.mono (aF.new Iu|>.trans (aF.new (by rw[aO Iq.symm];exact nx))) _ Pq
  ·exact RD.mono (aF.new Iu|>.trans (aF.new (by rw[aO Iq.symm];exact nx))) _ BH
  have NG:aF H5 (L2.upd (L2.upd H5 dx (.own x)) x (.ins C dx [])):=aF.new Iu|>.trans (aF.new (by rw[aO Iq.symm];exact nx));have s6:aF H5 H6:=aF.but NG b6 (by simpa using nx);have QA:H5 q0=none:=same_none NG zi;refine⟨Z,?_⟩;refine⟨_,Z,_,Z,mv,BN,M,pl,Z,RD.mono s6 _ Pq,RD.mono s6 _ BH,λd0 e0 t0 H9 Z0 T0 nU wQ wJ g1 g2 s9=>?_⟩;have L9:cw K C T uB H9 M 0 ⟨x,q0,d0,e0,t0⟩ p (nM pl):=cw.first (s5 _ _ hT) b5.bu nx QA R6 s6 Z0 T0 nU wQ wJ g1 g2 s9 Qx Qx.len;have Ph:=s5.trans (s6.trans s9);have Sc9:ib K H9 a ns (T::p::[x,q0,d0,e0,t0]):=by
   rcases hS with hS|hS
   ·have ha:H a≠none:=by rcases hS with e|⟨o,e⟩<;>(rw[e];simp)
    obtain⟨o,e⟩:=Option.ne_none_iff_exists'.mp ha;refine .inr ⟨Ph.seq (.inl hS),⟨o,Ph _ _ e⟩,λm=>?_⟩;have JC:=Fe s5 ha;have JB:=Fe s6 JC;simp only[bL,cE,dv]at m;rcases m with z|z|z|z|z|z|z
    ·rw[z]at hS
     rcases hS with g|⟨o',g⟩<;>(rw[hT]at g;cases g)
    ·exact jj ha np z
    ·exact jj JC nx z
    ·exact jj JC QA z
    ·exact jj JB nU z
    ·exact jj JB wQ z
    ·exact jj JB wJ z
   ·exact .inl λH2=>.inr hS
  refine⟨_,Z,p,3,Z,L9.bu,aA,aA,λqk iL q00 q01 Dz=>?_⟩;have L11:=L9.nk Dz;have VB:ib K iL a ns (T::p::Ad.all ⟨x,q0,d0,e0,t0⟩):=Sc9.but (Dx Dz) λy m=>.inl m;obtain⟨mq,hmq,mq1,mq2⟩:∃mq:Int,fP [V.int 3,.int 9,.int 40] qk=some (.int mq)/\1<=mq/\mq<=100:=by
   rcases(show qk=0\/qk=1\/qk=2 by lia)with rfl|rfl|rfl
   ·exact⟨3,Z,aA,aA⟩
   ·exact⟨9,Z,aA,aA⟩
   ·exact⟨40,Z,aA,aA⟩
  refine⟨_,Z,a,_,Z,.inl VB.Fc,_,_,Z,_,_,Z,_,Z,?_,?_,?_⟩
  ·split<;>lia
  ·rw[cx];split<;>(try split)<;>lia
  have hN:(if(if(50:Int)<((ns.map V.int).length:Int)then(50:Int)else((ns.map V.int).length:Int))>10 then(if(50:Int)<((ns.map V.int).length:Int)then(50:Int)else((ns.map V.int).length:Int))else(10:Int)).toNat<=50:=by split<;>(try split)<;>lia
  have seen:∀{H2:Hp}{A:Ad}{p':Addr}{S:bE}{n:Nat}(Q':VK),cw K C T uB H2 M n A p' S->n<=90->(∀H3,cw K C T uB H3 M n A p' S->bF (T::p'::A.all) H2 H3->Q' (.bl true) H3)->EO K C [.ref A.a,.ref A.d] H2 Q' E0:=λ{H2 A p' S n} Q' L hn kq=>by
   have nd:=L.nd;simp only[Ad.all,tF,bL,cE,dv,not_or]at nd;obtain⟨⟨t1,t2,t3,t4⟩,⟨t5,t6,t7⟩,⟨t8,t9⟩,vS,_⟩:=nd;refine⟨A.a,A.q,A.d,A.e,A.t,M,_,S,_,_,Z,L.run,L.sim,L.ok,mK,L.sm,L.told,au,au,λy hy=>L.here y hy,.inl (by simp[Ad.all]),e9 t4,e9 t7,e9 t9,e9 vS,λH3 b3 T3=>?_⟩;have bb:bF (T::p'::A.all) H2 H3:=b3.mono λy hy=>by rw[cH.mp hy];simp[Ad.all]
   have v:=L.v bb;have no:=L.ok.row.no;have s1:∀{y:Addr},y≠A.t->y∉[A.t]:=λg=>by rw[cH];exact g
   refine kq H3 ⟨L.run.go no v (λo e=>b3 _ _ e (s1 t4)) (λo e=>b3 _ _ e (s1 t7)),L.sim.go no v (λo e=>b3 _ _ e (s1 t9)) (λo e=>b3 _ _ e (s1 vS)),L.ok,L.sm,T3,L.nd,TabAt.but L.tab b3 (s1 λz=>L.nT (by rw[z];simp[Ad.all])) λy hy φ=>L.zj y (lT _ (by rw[cH.mp hy];simp[Ad.all])) φ,L.on,L.bu.but b3 (s1 λz=>L.np (by rw[z];simp[Ad.all])),L.np⟩ bb
  refine CY (Pv:=λi O H2=>∃A p S,cw K C T uB H2 M i A p S/\ib K H2 a ns (T::p::A.all)/\∃v1 v7 v8 v9 v10 v11,O=[some (.ref a),v1,some mv,some BN,some (.ref A.a),some (.ref A.d),some (.int qk),v7,v8,v9,v10,v11]) ?_ ?_ ?_
  ·exact⟨_,p,_,L11,VB,_,none,none,none,none,none,Z⟩
  ·rintro i O H2 hi ⟨A,p,S,Lq,Ll,v1,v7,v8,v9,v10,v11,rfl⟩
   have hi8:i<50:=gz hi hN;refine⟨_,Z,_,Z,_,_,Z,Z,a,ns,_,Z,Ll.Fc,hlen,au,au,λp' H3 QB Dv s3=>?_⟩;have L3:=Lq.a3l s3 QB Dv;have Sc3:ib K H3 a ns (T::p'::A.all):=Ll.but (λy o e _=>s3 _ _ e) λy m=>by
    rcases bL.mp m with z|m
    ·exact .inl (by rw[z];exact .head _)
    ·rcases bL.mp m with z|m
     ·exact .inr (by rw[z];exact QB)
     ·exact .inl (.tail _ (.tail _ m))
   refine⟨_,Z,p',3,Z,Dv,aA,aA,λz H4 z0 z1 b4=>.inl ⟨_,_,Z,Z,?_⟩⟩;have L4:=L3.nk b4;have Sc4:ib K H4 a ns (T::p'::A.all):=Sc3.but (Dx b4) λy m=>.inl m;refine⟨λO H5=>∃A S v9 v10 v11,O=[some (.ref a),some (.ref p'),some mv,some BN,some (.ref (Ad.a A)),some (.ref A.d),some (.int qk),some (.int (0+(i:Int))),some (.bl (decide (z=0))),v9,v10,v11]/\cw K C T uB H5 M (i+1) A p' S/\ib K H5 a ns (T::p'::A.all),?_,?_⟩
   ·refine⟨_,Z,bT Z,λlq H5 n5=>⟨_,Z,.inl ⟨lq,_,qk,_,Z,Z,aH.of n5.at',hmq,p',mq,Z,(L4.same n5.same).bu,au,au,λzz H6 zz0 zz1 b6=>.inl ⟨_,_,Z,Z,_,Z,?_⟩⟩⟩⟩
    have L6:=(L4.same n5.same).nk b6;have b46:bF (T::p'::A.all) H4 H6:=λx o e hx=>Dx b6 _ _ (n5.same _ _ e) hx;have Lk:ib K H6 a ns (T::p'::A.all):=Sc4.but b46 λy m=>.inl m;refine eQ (λh1=>?_) (λh1=>?_)
    ·--entries
     refine⟨_,Z,p',4,Z,L6.bu,aA,aA,λn' H7 n0 n1 b7=>?_⟩;have L7:=L6.nk b7;have As:ib K H7 a ns (T::p'::A.all):=Lk.but (Dx b7) λy m=>.inl m;obtain⟨oG,rE,Ag,z9,yy,hr7⟩:=L7.run.ob;refine⟨_,Z,A.a,oG,_,Z,hr7.1,Z,_,Z,A.a,A.q,M,_,_,n',Z,L7.run,L7.ok,mK,n0,au,λl us es S' q' H8 nl dl rd run he qc R8 C5 Rm=>?_⟩;refine⟨_,Z,_,Z,A.d,A.e,A.t,M,_,_,n',Z,L7.mid C5.but,L7.ok,mK,n0,au,λl2 us2 es2 S2 H9' QL Ko qT yT he2 a6q Z9 b9=>?_⟩;obtain⟨e1,e2⟩:=run.aah he qc yT he2 a6q;subst e1 e2;obtain⟨_,_,dl9,ZZ,_,_⟩:=L7.ents mK R8 C5 nl dl Rm rd run Z9 b9 (aF.refl _) au;refine⟨_,_,.list es,Z,jS (aH.of dl9) ZZ,jS (aH.of Ko) qT,a9L L7.ok mK run au,λHA sA=>⟨_,Z,bN ?_⟩⟩;obtain⟨LA,b7A,_⟩:=L7.ents mK R8 C5 nl dl Rm rd run Z9 b9 sA au;refine⟨{A with q:=q'},S',_,_,_,Z,LA,As.but b7A λy m=>?_⟩;by_cases hy:y∈T::p'::A.all
     ·exact .inl hy
     ·cases e:H7 y with |none=>exact .inr rfl |some o=>exact absurd m (Vt hy C5.nq e)
    ·--ow
     have np:=L6.np;have pd:p'≠A.d:=λz=>np (by rw[z];simp[Ad.all]);have pe:p'≠A.e:=λz=>np (by rw[z];simp[Ad.all]);refine⟨_,Z,_,Z,p',A.d,A.e,A.t,M,_,S,Z,L6.bu,pd,pe,L6.sim,L6.ok,mK,L6.on,λtp vQ mr dt H7 hsq rt b7 xT TF=>?_⟩;refine⟨tp,_,Z,hsq,Z,_,_,Z,_,_,Z,Z,?_⟩;have yA:=L6.yA b7;refine⟨[.ref A.a,vQ],yA,Z,λi j v e1 e2=>?_,λf' c' cl' H8 s' La iV Ca tb bt=>?_⟩
     ·match i,e1,e2 with |0,e1,e2=>cases e1;cases e2;rfl |1,e1,e2=>cases e1;cases e2;rfl
     have Zq:=PD bt (by obtain⟨ps,e,_⟩:=yA;exact⟨ps,e⟩) _ rt;obtain⟨R8,i8,sh⟩:du K C H8 A.a A.q M S/\cZ 8 dt/\pC dt=true:=by cases TF with |Ei h1 h2 h3 h4 h5=>exact⟨(L6.half b7 xT h5 L6.ok.row.no bt).1,h1,h2⟩ |off o it ho h4 h5=>exact⟨(L6.half b7 xT h5 L6.ok.row.no bt).1,it.is.2⟩ |full o it ho hl h4 h5=>exact⟨(L6.half b7 xT h5 L6.ok.row.no bt).1,it.is.2⟩ |ow o it ho hl h4 h5=>exact⟨(L6.half b7 xT h5 (L6.ok.ow it hl).row.no bt).1,it.is.2⟩
     have keep:∀{HA:Hp},dj K H7 A.d A.e A.t M S->aF H8 HA->cw K C T uB HA M (i+1) A p' S/\ib K HA a ns (T::p'::A.all):=λ{HA} h5 sA=>by obtain⟨L8,b68⟩:=L6.kept b7 xT h5 bt tb au;exact⟨L8.same sA,Lk.but (λx o e hx=>sA _ _ (b68 _ _ e hx)) λy m=>.inl m⟩
     have wZ:=L6.ok.len;refine ZW La iV Ca Z (RO aW).1 (λ_ _ _=>rfl) (λA outer s H E mS=>a0S a7j (a1f λ_ _ _ z=>z) TC.cl (mS.mono aA) (pv 0) (ao (pv 1) az)) R8 L6.ok mK Zq i8 sh ?_;cases TF with |Ei h1 h2 h3 h4 h5=>subst h4;refine .inl ⟨h3,λH9 s9=>?_⟩;refine⟨_,Z,_,_,.str "item",Z,cM _,cM _,pM (n:=0) aA (mJ aW),λHA sA=>⟨_,Z,bN ?_⟩⟩;obtain⟨LA,Aq⟩:=keep h5 (s9.trans sA);exact⟨A,S,_,_,_,Z,LA,Aq⟩ |off o it ho h4 h5=>subst h4;refine .inr ⟨o,it,λ_ H9 s9=>?_,λz=>absurd z (by rw[ho];simp),λz=>absurd z (by rw[ho];simp)⟩;refine⟨_,Z,_,_,.str _,Z,cM _,cM _,pM (n:=0) aA (a08 _ au),λHA sA=>⟨_,Z,bN ?_⟩⟩;obtain⟨LA,Aq⟩:=keep h5 (s9.trans sA);exact⟨A,S,_,_,_,Z,LA,Aq⟩ |full o it ho hl h4 h5=>subst h4;refine .inr ⟨o,it,λz=>absurd z (by rw[ho];simp),λ_ _ H9 s9=>?_,λ_ z=>absurd z au⟩;refine⟨_,Z,_,_,.str "full",Z,cM _,cM _,pM (n:=0) aA (mJ aW),λHA sA=>⟨_,Z,bN ?_⟩⟩;obtain⟨LA,Aq⟩:=keep h5 (s9.trans sA);exact⟨A,S,_,_,_,Z,LA,Aq⟩ |ow o it ho hl h4 h5=>subst h4;refine .inr ⟨o,it,λz=>absurd z (by rw[ho];simp),λ_ z=>absurd z au,λ_ _ H9 R9 b9=>?_⟩;refine⟨_,Z,_,_,.int _,Z,dU _,dU _,mM _,λHA sA=>⟨_,Z,bN ?_⟩⟩;have onr:jJ M.rs (fO (cL S) o):=(a1A (Ai (Td L6.ok) λns sp eo=>(it.ln ns sp eo).1.len)).mp ho;obtain⟨L9',b69⟩:=L6.ow b7 xT h5 bt tb R9 b9 ((L6.ok.ow it hl).mono au au) L6.sm (by rw[Te];exact onr);exact⟨A,_,_,_,_,Z,L9'.same sA,Lk.but (λx o e hx=>sA _ _ (b69 _ _ e hx)) λy m=>.inl m⟩
   ·rintro O H5 ⟨A,S,v9,v10,v11,rfl,L5,VA⟩
    dsimp only[Bl];refine Sb (λH'=>cw K C T uB H' M (i+1) A p' S/\ib K H' a ns (T::p'::A.all)) (λG1 g=>?_) (λzK=>?_)
    ·obtain⟨LG,Vz⟩:=g
     obtain⟨dx,QU,V8,cW,tv,hrr⟩:=LG.run.ob;refine⟨_,Z,A.a,dx,_,Z,hrr.1,Z,A.a,A.q,M,_,S,Z,LG.run,LG.ok,mK,λl ys H6 nl dl rd6 s6=>?_⟩;refine⟨.inl ⟨Z,_,aH.of dl⟩,l,ys,Z,Z,dl,?_⟩;have bl:bF [l] H6 (L2.upd H6 l (.lst [])):=Ah (by simp);have L6:=LG.same s6;have lA:l∉T::p'::A.all:=λm=>by
      rcases bL.mp m with z|m
      ·obtain⟨ps,e,_⟩:=LG.tab
       rw[z,e]at nl;cases nl
      ·exact LG.here l ((bL.mp m).elim .inr .inl) nl
     have To:lP K H6 A.t (40+(i+1)) (λy=>(y∈A.all\/y=p')\/y=l):=LG.told.go (bK _) s6.v (λo e=>s6 _ _ e) λy us hx e=>⟨s6 _ _ e,λz=>z.elim hx λz=>by rw[z,nl]at e;cases e⟩;have L7:=L6.free To lA dl bl;have As:ib K (L2.upd H6 l (.lst [])) a ns (T::p'::A.all):=ib.new (Vz.but (λx o e _=>s6 _ _ e) λy m=>.inl m) nl s6 Vz;generalize L2.upd H6 l (.lst [])=H7 at L7 As⊢;refine⟨_,Z,_,_,Z,Z,?_,.inl ⟨_,_,Z,Z,_,Z,?_⟩⟩
     ·exact(by decide:(0:Int)<7)
     refine eQ (λh7=>?_) (λh7=>⟨_,p',S,L7,As,_,_,_,_,_,_,Z⟩);refine⟨_,Z,_,Z,?_⟩;refine seen _ L7 au λH8 L8 b8=>⟨_,Z,bN ?_⟩;exact⟨_,p',S,L8,As.but b8 λy m=>.inl m,_,_,_,_,_,_,Z⟩
    ·refine⟨_,Z,_,Z,?_⟩
     refine eQ (λhq=>?_) (λhq=>zK _ ⟨L5,VA⟩);refine⟨_,Z,_,Z,?_⟩;refine seen _ L5 au λH6 L6 b6=>⟨_,Z,bN ?_⟩;exact zK _ ⟨L6,VA.but b6 λy m=>.inl m⟩
  ·rintro O H2 ⟨A,p,S,Lq,Ll,v1,v7,v8,v9,v10,v11,rfl⟩
   refine⟨_,Z,_,Z,?_⟩;exact seen _ Lq au λH3 L3 b3=>k _
end
end Lw
namespace Lw
open PySem PySem.Spec PyProof.Rows L2
theorem xA{K:aa}{mg:bJ}{h:Heap}{x:Str}{c:Addr}(X:K.In h)(G:h.Ns mainGlobals mg)(a:PySem.W.nsIn K mainGlobals x=some (some (.ref c))):GV mg x (.ref c):=⟨_,vy X G a,Z⟩
theorem A8{K:aa}{mg:bJ}{h:Heap}{x:Str}{c:Addr}{bm:List Value}{nw:String}(X:K.In h)(G:h.Ns mainGlobals mg)(a:PySem.W.nsIn K mainGlobals x=some (some (.ref c)))(q:PySem.W.excIn K c bm nw=true):Exc K mg x c bm nw:=⟨vy X G a,q⟩
theorem zC{K:aa}(t:takes K C cG)(k:mC K C)(i0:PySem.W.kitOne K (.ref C) (.ref n)=some b0)(i1:PySem.W.kitOne K (.ref C) (.ref o)=some b1)(i2:PySem.W.kitOne K (.ref C) (.ref f)=some b2)(i3:PySem.W.kitOne K (.ref C) (.ref m)=some b3)(i4:PySem.W.kitOne K (.ref C) (.ref r)=some b4)(any:PySem.W.kitAny K (.ref C) [.ref c0,.ref c1,.ref c2,.ref c3,.ref c4,.ref c5]=some false)(ve:PySem.W.kitOne K (.ref C) (.type "ValueError")=some true):KC K ⟨n,o,f,m,r,i⟩ cG [c0,c1,c2,c3,c4,c5] C b0 b1 b2 b3 b4:=⟨t,k,i0,i1,i2,i3,i4,any,ve⟩
theorem Xx{K:aa}(h:PySem.W.findIn K (.ref C) f=some none):PySem.W.takerIn K C f=some none:=by unfold PySem.W.takerIn;rw[h];rfl
theorem ZX{K:aa}{mg:bJ}{h:Heap}{n o f m r i cG c0 c1 c2 c3 c4 c5:Addr}(X:K.In h)(G:h.Ns mainGlobals mg)(ag:PySem.W.nsIn K mainGlobals "GlideError"=some (some (.ref cG)))(qg:PySem.W.excIn K cG mz mO=true) (h0:PySem.W.nsIn K mainGlobals "NoFraction"=some (some (.ref c0)))(h1:PySem.W.nsIn K mainGlobals "NoLine"=some (some (.ref c1)))(h2:PySem.W.nsIn K mainGlobals "NoMachine"=some (some (.ref c2)))(h3:PySem.W.nsIn K mainGlobals "NoPlace"=some (some (.ref c3)))(h4:PySem.W.nsIn K mainGlobals "NoTape"=some (some (.ref c4)))(h5:PySem.W.nsIn K mainGlobals "NoText"=some (some (.ref c5)))(v:PySem.W.nsIn K mainGlobals "ValueError"=some none) (an:PySem.W.nsIn K mainGlobals "NoItem"=some (some (.ref n)))(qn:PySem.W.excIn K n mz mO=true)(af:PySem.W.nsIn K mainGlobals "Full"=some (some (.ref f)))(qf:PySem.W.excIn K f mz mO=true)(am:PySem.W.nsIn K mainGlobals "Moving"=some (some (.ref m)))(qm:PySem.W.excIn K m mz mO=true)(ar:PySem.W.nsIn K mainGlobals "NoRate"=some (some (.ref r)))(qr:PySem.W.excIn K r mz mO=true) (oc:VX K mg o i)(fat:PySem.W.findIn K (.ref o) "at"=some none)(kn:KC K ⟨n,o,f,m,r,i⟩ cG [c0,c1,c2,c3,c4,c5] n true false false false false)(ko:KC K ⟨n,o,f,m,r,i⟩ cG [c0,c1,c2,c3,c4,c5] o false true false false false)(kf:KC K ⟨n,o,f,m,r,i⟩ cG [c0,c1,c2,c3,c4,c5] f false false true false false)(km:KC K ⟨n,o,f,m,r,i⟩ cG [c0,c1,c2,c3,c4,c5] m false false false true false)(kr:KC K ⟨n,o,f,m,r,i⟩ cG [c0,c1,c2,c3,c4,c5] r false false false false true):∃R cG c0 c1 c2 c3 c4 c5,DH K mg R cG c0 c1 c2 c3 c4 c5:=⟨⟨n,o,f,m,r,i⟩,cG,c0,c1,c2,c3,c4,c5,⟨A8 X G an qn,oc,A8 X G af qf,A8 X G am qm,A8 X G ar qr⟩,A8 X G ag qg,xA X G h0,xA X G h1,xA X G h2,xA X G h3,xA X G h4,xA X G h5,PySem.W.mg_none_of X G v,fat,kn,ko,kf,km,kr⟩
theorem abq:Am K P:=by intro T w mg ay f fd A uT F me;have tk:aI P w K mg ay "_law_take" 1 pA:=a1P A.a94 A.B;have cd:aI P w K mg ay "common_divisor" 1 F3:=a2T A.a8X A.B;have lt:aI P w K mg ay "lowest_terms" 2 vZ:=a2w A.a8H A.B cd;have iw:aI P w K mg ay "is_whole" 1 (wc K):=a2F A.a8M A.B;have ww:aI P w K mg ay "is_whole_within" 2 (tT K):=a1G A.a8L A.B iw;have fn:aI P w K mg ay "fraction" 3 (vW K):=a2N A.a8V A.B iw lt;have ld:aI P w K mg ay "lead_of" 1 (lY K):=a2C A.a8J A.B;have ls:aI P w K mg ay "is_less" 1 (wa K):=a2A A.a8S A.B;have cp:aI P w K mg ay "corner_square" 6 (F7 K):=a2S A.a8W A.B (a1J A.a8U A.B (a1I A.a8t A.B ld fn) (a2t A.a8G A.B lt) ls) fn;have irt:aI P w K mg ay "is_rate" 3 (ET K):=a2G A.a8O A.B A.a83 A.a85 ww;have tp:aI P w K mg ay "top_square" 4 (Bq K):=a1L A.a8u A.B irt fn;have Cp:aI P w K mg ay "is_line" 1 (we K):=a2H A.a8R A.B;have lst:aI P w K mg ay "least" 2 (jy K):=a2B A.a8I A.B ls;have Vg:aI P w K mg ay "bound_between" 7 (Bw K):=a2V A.a8Y A.B A.zY Cp tp cp lst;have own:aI P w K mg ay "own_bounds" 8 (Nt K):=a2p A.TJ A.B A.zY Vg;have pw:aI P w K mg ay "plus_whole" 4 (Bu K):=a2l A.a8B A.B;have nr:aI P w K mg ay "nearest" 1 EV:=a2r A.a8E A.B;have MV:aI P w K mg ay "stand_at" 2 (Br K):=a1S A.a8z A.B ld nr;have sr:aI P w K mg ay "step_rows" 3 (ER K):=a28 A.a8x A.B ld MV;have ent:aI P w K mg ay "step_entry" 3 (F1 K):=a2Q A.a8y A.B (a1O A.a8w A.B (a2R A.a90 A.B));have ln:aI P w K mg ay "_law_line" 2 (EW K):=a2y A.a9k A.B tk;have itm:aI P w K mg ay "is_item" 4 (EY K):=a2L A.a8T A.B A.a84 ww (a2Y A.a8Z A.B A.a7Z ww) (a2I A.a8N A.B A.a80 A.a7X ww (a2K A.a8Q A.B A.a81 A.a82));have isp:aI P w K mg ay "is_place" 3 (EZ K):=a2J A.a8P A.B ww;have QT:aI P w K mg ay "moved" 1 (Bv K):=a2s A.a8F A.B;have KI:aI P w K mg ay "place_behind" 2 (yI K):=a2W A.a8D A.B Cp QT;have Xw:aI P w K mg ay "times" 3 (nO (·*·) K):=a1M A.a8v A.B lt;have rch:aI P w K mg ay "reach_behind_first" 9 (ES K):=a2k A.a8A A.B (a2o A.TJ A.B A.zY Vg) (a2P A.a8K A.B Cp ld pw lst);obtain⟨C,R⟩:=A.rc;have TC:=R.tc;have Hm:=a2e (w:=w) (mg:=mg) (ay:=ay) R.a41 TC;have Po:=a25 (w:=w) (ay:=ay) R.a3U TC A.zY;have Pw:=a2d R.a42 TC Hm Po;have Pt:=a2b R.a3Z TC KI;have ZF:=a29 R.a3Y TC pw Xw fn lst Hm;have ref:=a2j R.a46 TC KI;have Zt:=a24 R.a3T TC A.B ld sr tp rch ent Pw ZF ref;have ZS:=a2g R.a44 TC Cp Zt ref;have ZU:=a2h R.a45 TC A.B Pw ZS;have Zs:=a23 (w:=w) (mg:=mg) (ay:=ay) R.a3S TC;have BH:=a27 R.a3X TC QT MV;have Pl:=a20 (w:=w) (ay:=ay) R.a3Q TC A.B;have Zr:=a22 (w:=w) (mg:=mg) (ay:=ay) R.a3V TC;have Zw:=a26 (w:=w) (mg:=mg) (ay:=ay) R.a3W TC;have Zo:=a21 (w:=w) (mg:=mg) (ay:=ay) R.a3R TC;have ZH:=a2a (w:=w) (mg:=mg) (ay:=ay) R.a40 TC;obtain⟨Rf,cG,c0,c1,c2,c3,c4,c5,EA⟩:=A.rf;have Cf:=a2M (w:=w) (ay:=ay) A.a9n A.B;have IP:=a2u A.a9i A.B (a2z (w:=w) (ay:=ay) A.a9l A.B);have Rk:=a1Q A.a95 A.B Cf;have Rj:=a1K A.a92 A.B Cf;have Cd:=a2D (w:=w) (ay:=ay) A.a9m A.B;have Yo:=a1T (w:=w) (ay:=ay) A.a97 A.B;have Yp:=a1U A.a98 A.B Cd (a1V A.a9e A.B (a2U A.a9p A.B Cd IP Rj Cf) Rk Cd IP) Rj Rk Cf (a1R A.a96 A.B Cd) IP (a1N A.a93 A.B);have Cc:=a2x (w:=w) (ay:=ay) A.a9h A.B;have al:=BS aA A.A3 A.B Cc (BS aA A.A3 A.B Cc (BS aA A.A3 A.B Cc (BS aA A.A3 A.B Cc (a2Z (w:=w) (ay:=ay) A.A3 A.B))));have ZO:=a2f R.a43 TC A.B EA.x A.a7Y itm isp KI Pt;have ZP:AA P w K mg ay "_law_refused" 7 (Bs P w K mg ay Rf 5):=a2i A.a9d A.B EA;have YQ:=a1Y A.a9a A.B Yp;have YL:=a1X (w:=w) (ay:=ay) A.a99 A.B;have seen:=a1Z A.a9c A.B TC al Yo Pl BH Pt Zr Zw Zo ZH Hm Po Zs;exact a2E F me TC A.B uT (a2X A.a9q A.B) tk (a2v A.a9j A.B tk) (a2n A.a9f A.B tk) (a2c R.init TC A.zY A.a86) (a1W A.a9b A.B) al ZP ZO (a2O A.a9o A.B tk (a1H A.a91 A.B tk) ln (a2q A.a9g A.B tk) YL) ZU YQ Pl seen
theorem abr{P:ah}{K:aa}(A:All T K mg)(uT:ay.BuiltinsAt mg T)(F:j4 K "law" "law" wk f fd)(me:mx K fd.code T=true):gY P w K mg ay ij 14 f fd ["_law_script"] (EX K T):=Xz abq K P T w mg ay f fd A uT F me
end Lw
def PySem.W.Fast.tw17220857260248887615:PySem.Program:=PySem.Challenge.pw_glidequeue_k37_fed
theorem PySem.W.Fast.te17220857260248887615:PySem.Challenge.pw_glidequeue_k37_fed=PySem.W.Fast.tw17220857260248887615:=rfl
local macro_rules|`(command|universe $x:ident)=>return Lean.mkNullNode (<-((x.getId.toString.splitOn "_").drop 1).toArray.mapM fun i=>`(command|theorem $(Lean.mkIdent (`_root_.PySem.W.Fast++Lean.Name.mkSimple s!"tw{(`PySem.Challenge.cw_glidequeue_k37_fed_holds++Lean.Name.mkSimple ((match i.front with|'h'=>"heap"|'t'=>"tree"|'v'=>"view"|'s'=>"sts"|'e'=>"env"|_=>"o")++"_"++(i.drop 1).toString)).hash}")):ident:True:=True.intro))
universe t_h926_h39_t904_t925_t821_t647_t435_v39_t370_t292_s822_t733_t477_t241_s737_s478_t226_o905_o822_t211_o737_s905_t189_s371_t167_o436_s293_o371_t152_o885_o883_s436_t137_o913_o902_o925_o923_o904_o293_o842_o840_o478_t115_o911_o242_o589_o598_o591_o861_o871_o859_o596_s242_o811_o809_o873_o892_t100_o918_o852_o916_o854_o642_o570_o880_o482_o816_o384_o878_o349_o456_o814_o347_o454_o399_o890_o868_o397_t85_o449_o491_o391_o227_o662_o418_o423_o386_o757_o799_o212_o421_o389_o190_o447_o797_o435_o830_o168_o442_o752_o849_o828_o440_o153_o584_o750_o575_o138_o278_o582_t70_o577_o116_o433_o301_o430_o344_o101_o363_o463_o342_o847_o428_o86_o651_o416_o461_o361_o339_o292_o505_o899_o71_o299_o315_o337_o804_o669_o370_o759_o276_o270_o49_o568_o612_o802_o773_o498_o470_o368_o290_o676_o308_o610_o468_o322_o771_o745_o605_o329_o334_o594_o327_o821_o306_o477_o743_o475_o332_o603_o819_o794_o413_o766_o356_o285_o921_o807_o263_o897_o283_s168_o313_o320_o792_o268_o184_o354_o411_o563_o379_o730_o261_o619_o780_o587_o641_o377_o764_o711_o837_o182_o556_o528_o778_o640_o723_o132_o253_o224_o382
open PySem PySem.W PyProof.Rows
set_option maxRecDepth 100000 in
set_option maxHeartbeats 0 in
theorem PySem.Challenge.cw_glidequeue_k37_fed_holds : PySem.Challenge.rw_glidequeue_k37_fed.Holds := by
 w_on; o_law; k_head; (case hw=>w_witness2)
 k_fill
 refine L2.a4s (l:=PySem.Challenge.rw_glidequeue_k37_fed) (k:=14) (x:="_law_script") (st:=Lw.wk) rfl rfl ⟨rfl,by decide,by decide⟩ (fun w h Y=>⟨PySem.W.km_in_of Y,PySem.W.km_tabs_of Y _ (.head _)⟩) (Lw.All _) ?F ?K (fun _ _ A=>A.law) (fun _ _ _ _ _ _ _=>rfl) (fun _ _ _ _ _ _ _ A hB F hc=>Lw.abr A hB F hc)
 case K=>exact fun w=>(by kernel_rfl)
 case F=>
  intro w mg h KX G
  refine⟨L2.ab1 KX G ?b,?x1,?x2,?x3,?x4,?x5,?x6,?x7,?x8,?x9,?x10,?x11,?x12,?x13,?x14,?x16,?x17,?x18,?x19,?x20,?x21,?x22,?x23,?x24,?x25,?x26,?x27,?x28,?x29,?x30,?x31,?x32,?x33,?x34,?x35,?x36,?x37,?x38,?x39,?x40,?x41,?x42,?x43,?x44,?x45,?x46,?x47,?x48,?x49,?x50,?x51,?x52,?x53,?x54,?x55,?x56,?x57,?x58,?x59,?x60,?x61,?x62,?x63,?x64,?x65,?x66,?x67,?x68,?x69,?x70,?x71,?x72,?x73,?x74,?x75,?x76⟩
  case b=>(unfold L2.Du; repeat (refine L2.sP.cons ?z ?_; (case z=>k_is))); exact L2.sP.nil
  case x1=>refine' L2.Ta KX G ?a ?l ?z ?r; (case a=>k_is); (case l=>k_is); (case z=>decide); (case r=>exact .cons ⟨_,rfl⟩ (.cons ⟨_,rfl⟩ .nil))
  case x2=>refine' L2.Ta KX G ?a ?l ?z ?r; (case a=>k_is); (case l=>k_is); (case z=>decide); (case r=>exact .cons ⟨_,rfl⟩ (.cons ⟨_,rfl⟩ .nil))
  case x3=>(refine' L2.rY KX G ?z; (case z=>k_is))
  case x4=>(refine' L2.rY KX G ?z; (case z=>k_is))
  case x5=>(refine' L2.rY KX G ?z; (case z=>k_is))
  case x6=>(refine' L2.rY KX G ?z; (case z=>k_is))
  case x7=>(refine' L2.rY KX G ?z; (case z=>k_is))
  case x8=>(refine' L2.rY KX G ?z; (case z=>k_is))
  case x9=>(refine' L2.rY KX G ?z; (case z=>k_is))
  case x10=>(refine' L2.rY KX G ?z; (case z=>k_is))
  case x11=>(refine' L2.a7N KX G ?z; (case z=>k_is))
  case x74=>(refine' L2.a8o KX G ?a ?l ?c ?k ?t; (case a=>k_is); (case l=>k_is); (case c=>k_is); (case k=>k_is); (case t=>kernel_rfl))
  case x75=>
   refine' Exists.intro _ (Lw.VO.mk (Lw.gX.mk (L2.ky.mk ?pg ?hd ?po ?sa) ?n1 ?n2 ?n3 ?n4 ?n5 ?n6 ?n7 ?n8 ?n9) (L2.aaU KX G ?aC ?mk ?kc ?ia ?ii ?il ?ic ?ik) (L2.jk ?a0 ?i0 ?l0 ?c0 ?k0) (L2.jk ?a1 ?i1 ?l1 ?c1 ?k1) (L2.jk ?a2 ?i2 ?l2 ?c2 ?k2) (L2.jk ?a3 ?i3 ?l3 ?c3 ?k3) (L2.jk ?a4 ?i4 ?l4 ?c4 ?k4) (L2.jk ?a5 ?i5 ?l5 ?c5 ?k5) (L2.jk ?a6 ?i6 ?l6 ?c6 ?k6) (L2.jk ?a7 ?i7 ?l7 ?c7 ?k7) (L2.jk ?a8 ?i8 ?l8 ?c8 ?k8) (L2.jk ?a9 ?i9 ?l9 ?c9 ?k9) (L2.jk ?a10 ?i10 ?l10 ?c10 ?k10) (L2.jk ?a11 ?i11 ?l11 ?c11 ?k11) (L2.jk ?a12 ?i12 ?l12 ?c12 ?k12) (L2.jk ?a13 ?i13 ?l13 ?c13 ?k13) (L2.jk ?a14 ?i14 ?l14 ?c14 ?k14) (L2.jk ?a15 ?i15 ?l15 ?c15 ?k15) (L2.jk ?a16 ?i16 ?l16 ?c16 ?k16))
   (case aC=>k_is)
   case n1 | n2 | n3 | n4 | n5 | n6 | n7 | n8 | n9=>(unfold L2.jt; k_is)
   case pg | hd | po | sa | mk | kc | ia | ii | il | ic | ik | a0 | i0 | l0 | c0 | k0 | a1 | i1 | l1 | c1 | k1 | a2 | i2 | l2 | c2 | k2 | a3 | i3 | l3 | c3 | k3 | a4 | i4 | l4 | c4 | k4 | a5 | i5 | l5 | c5 | k5 | a6 | i6 | l6 | c6 | k6 | a7 | i7 | l7 | c7 | k7 | a8 | i8 | l8 | c8 | k8 | a9 | i9 | l9 | c9 | k9 | a10 | i10 | l10 | c10 | k10 | a11 | i11 | l11 | c11 | k11 | a12 | i12 | l12 | c12 | k12 | a13 | i13 | l13 | c13 | k13 | a14 | i14 | l14 | c14 | k14 | a15 | i15 | l15 | c15 | k15 | a16 | i16 | l16 | c16 | k16=>k_is
  case x76=>
   refine' Lw.ZX KX G ?ag ?qg ?h0 ?h1 ?h2 ?h3 ?h4 ?h5 ?v ?an ?qn ?af ?qf ?am ?qm ?ar ?qr ⟨L2.aaD KX G ?oa ?oq,?oi,⟨?ox1,?ox2,Lw.Xx ?ox3,?ox4⟩,?off,_,L2.zZ ?ol ?oc ?okk⟩ ?fat (Lw.zC ?nt ⟨?nk1,?nk2,?nk3,?nk4,?nk5,?nk6,?nk7,?nk8⟩ ?ni0 ?ni1 ?ni2 ?ni3 ?ni4 ?nany ?nve) (Lw.zC ?ot ⟨?ok1,?ok2,?ok3,?ok4,?ok5,?ok6,?ok7,?ok8⟩ ?oi0 ?oi1 ?oi2 ?oi3 ?oi4 ?oany ?ove) (Lw.zC ?ft ⟨?fk1,?fk2,?fk3,?fk4,?fk5,?fk6,?fk7,?fk8⟩ ?fi0 ?fi1 ?fi2 ?fi3 ?fi4 ?fany ?fve) (Lw.zC ?mt ⟨?mk1,?mk2,?mk3,?mk4,?mk5,?mk6,?mk7,?mk8⟩ ?mi0 ?mi1 ?mi2 ?mi3 ?mi4 ?many ?mve) (Lw.zC ?rt ⟨?rk1,?rk2,?rk3,?rk4,?rk5,?rk6,?rk7,?rk8⟩ ?ri0 ?ri1 ?ri2 ?ri3 ?ri4 ?rany ?rve)
   case ag | h0 | h1 | h2 | h3 | h4 | h5 | v | an | af | am | ar | oa | oi | ox1 | ox3 | ox4 | ol | oc | okk | fat=>k_is
   case qg | qn | qf | qm | qr=>k_exc
   case oq | ox2 | off=>kernel_rfl
   case nt=>(show PySem.W.mroIn _ _ _=_; k_is)
   case nk1 | nk2 | nk3 | nk4 | nk5 | nk6 | nk7 | nk8=>k_is
   case ni0 | ni1 | ni2 | ni3 | ni4 | nany | nve=>kit_is
   case ot=>(show PySem.W.mroIn _ _ _=_; k_is)
   case ok1 | ok2 | ok3 | ok4 | ok5 | ok6 | ok7 | ok8=>k_is
   case oi0 | oi1 | oi2 | oi3 | oi4 | oany | ove=>kit_is
   case ft=>(show PySem.W.mroIn _ _ _=_; k_is)
   case fk1 | fk2 | fk3 | fk4 | fk5 | fk6 | fk7 | fk8=>k_is
   case fi0 | fi1 | fi2 | fi3 | fi4 | fany | fve=>kit_is
   case mt=>(show PySem.W.mroIn _ _ _=_; k_is)
   case mk1 | mk2 | mk3 | mk4 | mk5 | mk6 | mk7 | mk8=>k_is
   case mi0 | mi1 | mi2 | mi3 | mi4 | many | mve=>kit_is
   case rt=>(show PySem.W.mroIn _ _ _=_; k_is)
   case rk1 | rk2 | rk3 | rk4 | rk5 | rk6 | rk7 | rk8=>k_is
   case ri0 | ri1 | ri2 | ri3 | ri4 | rany | rve=>kit_is
  all_goals (refine' L2.a8q KX G ?a ?l ?c ?k; (case a=>k_is); (case l=>k_is); (case c=>k_is); (case k=>k_is))
#print axioms PySem.Challenge.cw_glidequeue_k37_fed_holds
