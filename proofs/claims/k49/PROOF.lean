import PyProof.Rows.All
import Wide.All
import OpenK.AllK
import Wide.FinOn
import Lean
import PyProof.EqAt
import PyProof.EqKinds
import PyProof.TupleCall
import PySem.Challenge.RW_glidequeue_k49_tapes_spoilt
set_option Elab.async false
set_option linter.all false
set_option maxRecDepth 100000
abbrev bS:=PySem.Str->Option PySem.Value
theorem au{p:Prop}(h:p:=by decide):p:=h
theorem aP{p:Prop}(h:p:=by decide+kernel):p:=h
theorem aq {p:Prop} (h:p:=by lia):p:=h
theorem aH{p:Prop}(h:p:=by omega):p:=h
theorem Z {α : Sort _} {a : α}:a=a:=rfl
abbrev a8:=PySem.W.Frag
abbrev af:=PySem.Shared
abbrev ag:=PySem.Program
abbrev ah:=PySem.PyData
abbrev ai:=PySem.Around
abbrev aF:=@PySem.wpAny_bind
abbrev aX:=@if_pos
abbrev bf:=@if_neg
abbrev bw:=@Nat.le_refl
abbrev bB:=@List.length_map
abbrev bG:=@List.getElem?_eq_getElem
abbrev bH:=@PySem.wpAny_pure
abbrev bT:=@decide_eq_true
abbrev bU:=@List.getElem?_map
abbrev cm:=@PySem.intBits_le_64
abbrev cn:=@PySem.Heap.lt_size
abbrev cw:=@PySem.Heap.get?_push_of_some
abbrev cy:=@decide_eq_false
abbrev cB:=@List.length_append
abbrev cL:=@List.getElem?_eq_some_iff
abbrev cR:=@List.mem_cons
abbrev cY:=@Nat.lt_of_lt_of_le
abbrev dn:=@List.size_toArray
abbrev dU:=@Option.some.inj
abbrev dW:=@Nat.ne_of_lt
abbrev eu:=@PySem.Heap.get?_push_size
abbrev eJ:=@PySem.wpAny_mono
abbrev eK:=@Nat.zero_le
abbrev eL:=@Nat.le_trans
abbrev eU:=@beq_iff_eq
abbrev eV:=@List.mem_map
abbrev f7:=@PySem.PassesOwn.never
abbrev f9:=@Bool.and_eq_true
abbrev fq:=@List.not_mem_nil
abbrev fu:=@Int.pow_succ
abbrev fC:=@List.mem_of_getElem?
abbrev fD:=@List.all_eq_true
abbrev fL:=@Int.mul_pos
abbrev gr:=@List.mem_append_right
abbrev gs:=@Int.natAbs_mul
abbrev gC:=@PyProof.Rows.boot_tuple
abbrev gD:=@Nat.pow_le_pow_right
abbrev gL:=@List.mem_append
abbrev gM:=@Bool.false_ne_true
abbrev hX:=@List.length_range
abbrev hZ:=@PySem.IntMulOk.of_bits
abbrev ik:=@PySem.wpAny_field
abbrev il:=@of_decide_eq_true
abbrev ip:=@List.map_append
abbrev iO:=@or_false
abbrev iP:=@Int.le_refl
abbrev jg:=@Ne.symm
abbrev jh:=@List.lookup_cons
abbrev ji:=@Bool.false_and
abbrev jI:=@PySem.wpAny_holding
abbrev jJ:=@List.getElem?_eq_none
abbrev jK:=@Int.mul_nonneg
abbrev jL:=@Bool.true_and
abbrev ko:=@List.length_take
abbrev kr:=@Int.one_mul
abbrev kR:=@PyProof.Rows.boot_list
abbrev kS:=@List.mem_singleton
abbrev kT:=@List.getElem?_range
abbrev kU:=@Int.pow_zero
abbrev m5:=@PySem.W.Looks.here
abbrev nh:=@PySem.wpAny_standAt
abbrev nj:=@PySem.wpAny_newObj_type
abbrev nk:=@Nat.mul_le_mul
abbrev nq:=@List.length_cons
abbrev oN:=@PySem.wpAny_truthy_bool
abbrev oO:=@PyProof.Rows.boot_abs
abbrev oP:=@List.length_singleton
abbrev oQ:=@List.getElem?_append_right
abbrev oT:=@Int.emod_nonneg
abbrev oU:=@Bool.eq_false_iff
abbrev qE:=@if_true
abbrev qF:=@Rat.le_trans
abbrev qG:=@Rat.le_refl
abbrev qH:=@PyProof.Rows.boot_int
abbrev qI:=@List.replicate_succ
abbrev qJ:=@List.getElem?_append_left
abbrev qK:=@PySem.Heap.size_push
abbrev qL:=@Bool.eq_iff_iff
abbrev tf:=@PySem.wpAny_seqItems
abbrev tj:=@PySem.wpAny_loadPart_at
abbrev tm:=@PySem.wpAny_call
abbrev tx:=@List.take_succ
abbrev tD:=@List.mem_of_mem_take
abbrev tE:=@List.length_set
abbrev tF:=@List.length_drop
abbrev tG:=@List.getElem_mem
abbrev tH:=@List.append_nil
abbrev tI:=@Int.mul_assoc
abbrev tJ:=@Int.emod_lt_of_pos
abbrev vg:=@PySem.wpAny_passesOwn
abbrev vh:=@PySem.wpAny_of_eq
abbrev vi:=@PySem.codeAny_mono
abbrev vj:=@Rat.num_divInt_den
abbrev vk:=@Rat.divInt_nonneg_iff_of_pos_right
abbrev vm:=@PySem.W.mg_of
abbrev vn:=@Nat.lt_of_le_of_lt
abbrev vo:=@Nat.lt_irrefl
abbrev vp:=@List.of_mem_zip
abbrev vq:=@List.mem_filterMap
abbrev vt:=@List.map_set
abbrev vv:=@List.getElem_range
abbrev vw:=@List.getD_eq_getElem?_getD
abbrev vx:=@List.ext_getElem?
abbrev vy:=@List.any_eq_true
abbrev yt:=@PySem.wpAny_setField_rec
abbrev yu:=@PySem.wpAny_rule
abbrev yx:=@PySem.wpAny_call_entry
abbrev yy:=@PySem.wpAny_callSpecial?_slot
abbrev yz:=@PySem.F.excBase_ValueError
abbrev yA:=@PyProof.Rows.slot_tuple_getitem
abbrev yC:=@PyProof.Rows.callWith_type1
abbrev yE:=@PyProof.Rows.boot_max
abbrev yF:=@PyProof.Rows.boot_all
abbrev yG:=@Option.map_eq_some_iff
abbrev yH:=@Nat.ne_of_gt
abbrev yI:=@Nat.lt_succ_of_lt
abbrev yJ:=@List.take_of_length_le
abbrev yK:=@List.length_pos_iff
abbrev yL:=@List.length_eq_zero_iff
abbrev yM:=@List.getElem?_set_self
abbrev yN:=@Int.zero_mul
abbrev yO:=@Int.zero_add
abbrev yP:=@Int.natAbs_natCast
abbrev yQ:=@PySem.Heap.get?_update_other
abbrev yR:=@Array.length_toList
abbrev Br:=@PySem.wpAny_setField
abbrev Bs:=@PySem.wpAny_pyIter_list
abbrev Bt:=@PySem.wpAny_onRaise
abbrev Bu:=@PySem.wpAny_execs_nil
abbrev Bv:=@PySem.wpAny_attempt
abbrev Bw:=@PySem.wpAny_Call_Name_kw
abbrev Bx:=@PySem.W.looks_findIn
abbrev Bz:=@PySem.codeAny_call_builtin
abbrev BA:=@Rat.not_lt
abbrev BB:=@Rat.le_of_lt
abbrev BC:=@PySem.mem_of_lookup
abbrev BD:=@PySem.Obj.data_mapFields
abbrev BE:=@Nat.sub_self
abbrev BF:=@Nat.pow_add
abbrev BG:=@Nat.not_lt_zero
abbrev BH:=@List.take_length
abbrev BI:=@List.mem_iff_getElem?
abbrev BJ:=@List.mem_cons_of_mem
abbrev BK:=@List.flatten_cons
abbrev BL:=@List.any_cons
abbrev BM:=@Int.mul_le_mul_of_nonneg_left
abbrev BN:=@Int.le_of_lt
abbrev BO:=@PySem.Heap.get?_update_self
abbrev BP:=@Bool.and_false
abbrev Ig:=@PySem.wpAny_isSubtype_exc
abbrev Ih:=@PySem.wpAny_execs_cons
abbrev Ii:=@decide_eq_true_iff
abbrev Ij:=@decide_eq_true_eq
abbrev Ik:=@beq_self_eq_true
abbrev Il:=@beq_eq_false_iff_ne
abbrev Im:=@PySem.W.looks_clsIn
abbrev Io:=@PySem.W.hideAll_get
abbrev Ip:=@PySem.W.cellsFrom_some
abbrev Iq:=@PySem.W.any_some
abbrev Ir:=@PySem.F.slot_zip_next
abbrev Iu:=@PySem.F.slot_tuple_iterator_next
abbrev Iv:=@PySem.F.excAttr_ValueError
abbrev Iw:=@PyProof.Rows.boot_str
abbrev Iy:=@PyProof.Rows.boot_isinstance
abbrev Iz:=@Nat.pow_succ
abbrev IA:=@Nat.lt_succ_iff_lt_or_eq
abbrev IB:=@Nat.lt_or_ge
abbrev IC:=@Nat.le_of_lt
abbrev ID:=@List.set_set
abbrev IE:=@List.reverse_cons
abbrev IG:=@List.range_succ
abbrev IH:=@List.nodup_cons
abbrev II:=@List.mem_range
abbrev IJ:=@List.mem_cons_self
abbrev IK:=@List.map_cons
abbrev IL:=@List.length_reverse
abbrev IM:=@List.getElem?_set_ne
abbrev IP:=@List.forIn_cons
abbrev IQ:=@List.all_cons
abbrev IS:=@Int.toNat_of_nonneg
abbrev IT:=@Int.mul_ne_zero
abbrev IU:=@Int.mul_le_mul
abbrev IV:=@Int.mul_comm
abbrev IW:=@Array.getElem?_eq_some_iff
abbrev Rn:=@PySem.wpAny_updateSeq_pair
abbrev Rp:=@PySem.wpAny_pyIter_rangeiter
abbrev Rr:=@PySem.wpAny_newFunctionEnv_cells
abbrev Rw:=@PySem.wpAny_newFunctionEnv
abbrev Rx:=@PySem.wpAny_comprehension_free
abbrev Ry:=@PySem.codeAny_compStart_list
abbrev RA:=@PySem.codeAny_call_function
abbrev RC:=@PySem.SeqAt.canLay_of_shaped
abbrev RE:=@Rat.divInt_sub_divInt
abbrev RF:=@PySem.W.codeRec_of
abbrev RG:=@PySem.W.callWith_K
abbrev RH:=@PySem.Str.cps_append
abbrev RI:=@PySem.F.slot_tuple_add
abbrev RJ:=@PySem.F.entry_tuple_add
abbrev RK:=@PySem.F.args_tuple_add_2
abbrev RL:=@PyProof.Rows.boot_min
abbrev RM:=@PyProof.Rows.boot_bool
abbrev RN:=@PyProof.Rows.boot_any
abbrev RO:=@Option.bind_eq_some_iff
abbrev RP:=@PySem.Obj.isFreed_of_fields
abbrev RQ:=@List.mem_of_mem_drop
abbrev RR:=@List.mem_iff_getElem
abbrev RS:=@List.mem_append_left
abbrev RT:=@List.getLast?_eq_getElem?
abbrev RU:=@List.foldl_append
abbrev RV:=@List.filterMap_cons
abbrev RW:=@List.contains_cons
abbrev RX:=@Int.toNat_natCast
abbrev RY:=@Int.mul_nonneg_of_nonpos_of_nonpos
abbrev RZ:=@Int.mul_le_mul_of_nonneg_right
abbrev S1:=@Int.lt_trichotomy
abbrev S2:=@Int.fdiv_eq_ediv_of_nonneg
abbrev S3:=@PySem.Heap.get?_push_cases
abbrev S4:=@PySem.F.slot_range_reversed
abbrev S5:=@Bool.not_eq_true'
abbrev S6:=@Array.toList_append
abbrev a7k:=@PySem.F.entry_tuple_iterator_next
abbrev a7l:=@PySem.F.args_tuple_iterator_next_1
abbrev a7m:=@Array.all_eq_true_iff_forall_mem
namespace L2
open PySem PySem.Spec PyProof.Rows
abbrev Key:=Sum Int Str
def NI:Key->Value->Bool | .inl k,v=>Value.isInt k v | .inr x,v=>Value.isStrOf x v
def YS(w:World):Key->Int | .inl k=>hashInt k | .inr x=>hashStr w x
theorem o9:∀{k:Key}{v:Value},NI k v=true->(∃i t,k=Sum.inl i/\v=Value.int i t)\/(∃x t,k=Sum.inr x/\v=Value.str x t) | .inl i,v,h=>by obtain⟨t,e⟩:=Value.isInt_shape (k:=i) (v:=v) h;exact .inl ⟨i,t,Z,e⟩ | .inr x,v,h=>by obtain⟨t,e⟩:=Value.isStrOf_shape (x:=x) (v:=v) h;exact .inr ⟨x,t,Z,e⟩
theorem YR(a b:Int):decide ((Sum.inl a:Key)=Sum.inl b)=(a==b):=by
 by_cases e:a=b
 ·subst e;simp
 ·have h:¬(Sum.inl a:Key)=Sum.inl b:=λq=>e (Sum.inl.inj q)
  rw[cy h];exact(Il.mpr e).symm
theorem YN(a b:Str):decide ((Sum.inr a:Key)=Sum.inr b)=decide (a=b):=by
 by_cases e:a=b
 ·subst e;simp
 ·have h:¬(Sum.inr a:Key)=Sum.inr b:=λq=>e (Sum.inr.inj q)
  rw[cy h,cy e]
theorem YQ(a:Int)(b:Str):decide ((Sum.inl a:Key)=Sum.inr b)=false:=cy (λq=>nomatch q)
theorem YO(a:Str)(b:Int):decide ((Sum.inr a:Key)=Sum.inl b)=false:=cy (λq=>nomatch q)
def Fj(prog:ag)(w:World):PySem.KeyKind prog w Key where
 is:=NI
 hash:=YS w
 inj:=λv a b ha hb=>by
  rcases o9 ha with⟨i,t,rfl,rfl⟩|⟨x,t,rfl,rfl⟩
  ·rcases o9 hb with⟨j,u,rfl,e⟩|⟨y,u,rfl,e⟩
   ·injection e with e1 _;rw[e1]
   ·exact nomatch e
  ·rcases o9 hb with⟨j,u,rfl,e⟩|⟨y,u,rfl,e⟩
   ·exact nomatch e
   ·injection e with e1 _;rw[e1]
 byValue:=λk v h=>by rcases o9 h with⟨i,t,rfl,rfl⟩|⟨x,t,rfl,rfl⟩<;>rfl
 pyHash:=λhv h=>by
  rcases o9 hv with⟨i,t,rfl,rfl⟩|⟨x,t,rfl,rfl⟩
  ·exact wpAny_pyHash_int h
  ·exact wpAny_pyHash_str h
 eqBool:=λhu hv h=>by
  rcases o9 hu with⟨i,t,rfl,rfl⟩|⟨x,t,rfl,rfl⟩
  ·rcases o9 hv with⟨j,u,rfl,rfl⟩|⟨y,u,rfl,rfl⟩
   ·rw[YR]at h;exact wpAny_eqBool_int h
   ·rw[YQ]at h;exact SeqAt.EqAt.int_str i t y u _ _ _ _ h
  ·rcases o9 hv with⟨j,u,rfl,rfl⟩|⟨y,u,rfl,rfl⟩
   ·rw[YO]at h;exact SeqAt.EqAt.str_int x t j u _ _ _ _ h
   ·rw[YN]at h;exact wpAny_eqBool_str h
 «strs»:=λk x t v h=>by
  rcases o9 h with⟨i,u,rfl,e⟩|⟨y,u,rfl,e⟩
  ·exact nomatch e
  ·injection e with e1 _
   subst e1;cases v<;>rfl
inductive V where |bR|bl (b:Bool)|int (i:Int)|str (x:Str)|xY (b:Array UInt8)|Gz (b:UInt64)|ref (a:Addr)|ty (n:String) deriving DecidableEq
def RelV:V->Value->Prop | .bR,u=>u=Value.none | .bl b,u=>u=Value.bool b | .int i,u=>∃t,u=Value.int i t | .str x,u=>∃t,u=Value.str x t | .xY b,u=>∃t,u=Value.bytes b t | .Gz b,u=>∃t,u=Value.float b t | .ref a,u=>u=Value.ref a | .ty n,u=>u=Value.type n
abbrev Vals:List V->List Value->Prop:=Paired RelV
theorem Vals.length{xs:List V}{us:List Value}(r:Vals xs us):xs.length=us.length:=Paired.length r
theorem Vals.get:∀{xs:List V}{us:List Value}{i:Nat}{x:V},Vals xs us->xs[i]? =some x->∃u,us[i]? =some u/\RelV x u |_,_,_,_,.nil,e=>by simp at e |_,_,0,_,.cons r _,e=>by simp at e;subst e;exact⟨_,rfl,r⟩ |_,_,i+1,x,.cons _ t,e=>by obtain⟨u,h1,h2⟩:=Vals.get (i:=i) (x:=x) t (by simpa using e);exact⟨u,by simpa using h1,h2⟩
theorem Vals.set{x:V}{u:Value}(r:RelV x u):∀{xs:List V}{us:List Value}(i:Nat),Vals xs us->Vals (xs.set i x) (us.set i u) |_,_,_,.nil=>.nil |_,_,0,.cons _ t=>.cons r t |_,_,i+1,.cons q t=>.cons q (Vals.set r i t)
theorem Vals.append:∀{xs ys:List V}{us ws:List Value},Vals xs us->Vals ys ws->Vals (xs++ys) (us++ws) |_,_,_,_,.nil,s=>s |_,_,_,_,.cons r t,s=>.cons r (Vals.append t s)
theorem Vals.take:∀{xs:List V}{us:List Value}(n:Nat),Vals xs us->Vals (xs.take n) (us.take n) |_,_,0,_=>.nil |_,_,_+1,.nil=>.nil |_,_,n+1,.cons r t=>.cons r (Vals.take n t)
theorem Vals.drop:∀{xs:List V}{us:List Value}(n:Nat),Vals xs us->Vals (xs.drop n) (us.drop n) |_,_,0,r=>r |_,_,_+1,.nil=>.nil |_,_,n+1,.cons _ t=>Vals.drop n t
def QL:Option V->Option Value->Prop |some v,some u=>RelV v u |none,none=>True |_,_=>False
def KV{κ:Type}:List (κ×V)->List (κ×Value)->Prop:=Paired λ(p:κ×V)(q:κ×Value)=>p.1=q.1/\RelV p.2 q.2
def kV:Key->V | .inl i=>.int i | .inr x=>.str x
inductive HO where /--a list -/ |lst (xs:List V) /--a tuple (never changes) -/ |tup (xs:List V) /--a dict Sg keys are ints and texts; one Sg keys are tuples of ints and texts (tQ empty one is both) -/ |dK (dJ:List (Key×V))|dT (dJ:List (List Key×V)) /--a set of ints: its members,its size -/ |set (S:Int->Bool)(n:Nat) /--an instance of tQ class at C,its dict at dx,its attributes -/ |ins (C dx:Addr)(fs:List (Str×V)) /--tQ dict of tQ instance at x -/ |own (x:Addr) /--tQ dict of an exception -/ |xd (fs:List (Str×V)) /--a bound method,f of x -/ |met (f x:Addr) /--a range object lo,lo+1,.. below hi -/ |qW (lo hi:Int) /--a SO a7s is known to tQ object (tQ a7v; a dict while a loop walks it): read,never written while it is so -/ |lM (o:Obj)(u:HO) /--a code a7J table -/ |oX (ps:Array Value) /--any other SO,by what is true of its one object (a def of a7H own: a8t a S n:=HO.ext λh=>..) -/ |ext (φ:Heap->Prop)
abbrev Hp:=Addr->Option HO
def upd(H:Hp)(a:Addr)(o:HO):Hp:=λb=>if b=a then some o else H b
theorem cF{H:Hp}{a:Addr}{o:HO}:upd H a o a=some o:=by unfold upd;rw[aX rfl]
theorem bL{H:Hp}{a b:Addr}{o:HO}(h:b≠a):upd H a o b=H b:=by unfold upd;rw[bf h]
theorem MV{H:Hp}{a b:Addr}{o u:HO}(h:H a=some o)(h':H b=some u)(d:o≠u):a≠b:=by intro e;subst e;rw[h]at h';exact d (dU h')
theorem cW{H:Hp}{a b:Addr}{o:HO}(h:H a=some o)(h':H b=none):a≠b:=by intro e;subst e;rw[h]at h';cases h'
section
variable (P:ag) (w:World)
def fe(H:Hp)(h:Heap)(a:Addr):HO->Prop | .lst xs=>xs.length<=sizeLine/\∃(its:List Value)(n:Nat),Vals xs its/\h.get? a=some {cls:=.type "list",data:=.seq its.toArray n} | .tup xs=>xs.length<=sizeLine/\∃its:List Value,Vals xs its/\IsTup h a its.toArray | .dK dJ=>dJ.length<=sizeLine/\(a==sysModules)=false/\∃vs,KV dJ vs/\h.DictOf (Fj P w) a vs | .dT dJ=>dJ.length<=sizeLine/\(a==sysModules)=false/\∃xs:List (List Key×Addr×Value),Paired (λ(p:List Key×V)(q:List Key×Addr×Value)=>p.1=q.1/\H q.2.1=some (.tup (p.1.map kV))/\RelV p.2 q.2.2) dJ xs/\∃o es ep,h.get? a=some o/\o.ExactDict/\o.data= .dict es ep/\es.toList=xs.map (entryOfKey (tupleKind (Fj P w)))/\(xs.map (·.1)).Nodup | .set S n=>h.SetOf (intKind P w) a S n | .ins C dx fs=>H dx=some (.own a)/\fs.length<=1000/\dx≠a/\h.get? a=some (PySem.W.instObj C dx)/\∃mA,h.Ns1 dx mA/\(∀f,QL (fs.lookup f) (mA f))/\PySem.Within mA (fs.map (·.1)) | .own _=>∃o,h.get? a=some o | .xd fs=>∃mA,h.Ns1 a mA/\∀f,QL (fs.lookup f) (mA f) | .qW lo hi=>∃t u v,h.get? a=some {cls:=.type "range",data:=.fields #[.int lo t,.int hi u,.int 1 v]} | .lM o u=>h.get? a=some o/\fe H h a u | .oX ps=>h.get? a=some {cls:=.none,data:=.fields ps} | .met f x=>h.get? a=some (PySem.W.methodObj (.ref f) (.ref x)) | .ext φ=>φ h/\(∃o,h.get? a=some o)/\∀h1 h2:Heap,φ h1->(∀o,h1.get? a=some o->h2.get? a=some o)->φ h2
def dH(H:Hp)(h:Heap):Prop:=∀a o,H a=some o->fe P w H h a o
end
section
variable {P:ag}{w:World}{H H':Hp}{h h':Heap}{a:Addr}{o:HO}
theorem fe.lt(x:fe P w H h a o):a<h.objs.size:=by cases o with |lst xs=>obtain⟨_,_,_,_,e⟩:=x;exact cn e |tup xs=>obtain⟨_,_,_,p⟩:=x;exact p.lt |dK dJ=>obtain⟨_,_,_,_,o,_,_,e,_⟩:=x;exact cn e |dT dJ=>obtain⟨_,_,_,_,o,_,_,e,_⟩:=x;exact cn e |set S n=>obtain⟨o,_,_,_,e,_⟩:=x;exact cn e |ins C dx fs=>obtain⟨_,_,_,e,_⟩:=x;exact cn e |own y=>obtain⟨_,e⟩:=x;exact cn e |xd fs=>obtain⟨_,⟨_,_,_,e,_⟩,_⟩:=x;exact cn e |qW lo hi=>obtain⟨_,_,_,e⟩:=x;exact cn e |lM ob u=>obtain⟨e,_⟩:=x;exact cn e |oX ps=>exact cn (show h.get? a=some _ from x) |met f y=>exact cn (show h.get? a=some _ from x) |ext φ=>obtain⟨_,⟨_,e⟩,_⟩:=x;exact cn e
theorem Paired.Nc{α β:Type}{F G:α->β->Prop}:∀{l₁:List α}{l₂:List β},Paired F l₁ l₂->(∀a b,F a b->G a b)->Paired G l₁ l₂ |_,_,.nil,_=>.nil |_,_,.cons r t,f=>.cons (f _ _ r) (Paired.Nc t f)
theorem fe.kx(x:fe P w H h a o)(k:∀b u,(b=a\/H b=some (.own a))->h.get? b=some u->h'.get? b=some u) (ho:∀b,H b=some (.own a)->H' b=some (.own a))(ht:∀b xs,H b=some (.tup xs)->H' b=some (.tup xs)):fe P w H' h' a o:=by induction o with |lst xs=>obtain⟨z,its,n,r,e⟩:=x;exact⟨z,its,n,r,k _ _ (.inl Z) e⟩ |tup xs=>obtain⟨z,its,r,ob,e,c⟩:=x;exact⟨z,its,r,ob,k _ _ (.inl Z) e,c⟩ |dK dJ=>obtain⟨z,y,vs,r,ob,es,ep,e,c⟩:=x;exact⟨z,y,vs,r,ob,es,ep,k _ _ (.inl Z) e,c⟩ |dT dJ=>obtain⟨z,y,xs,r,ob,es,ep,e,c⟩:=x;exact⟨z,y,xs,Paired.Nc r λp q z=>⟨z.1,ht _ _ z.2.1,z.2.2⟩,ob,es,ep,k _ _ (.inl Z) e,c⟩ |set S n=>obtain⟨ob,es,ep,t,e,c⟩:=x;exact⟨ob,es,ep,t,k _ _ (.inl Z) e,c⟩ |ins C dx fs=>obtain⟨d,z,ne,e,mA,⟨od,es,ep,e2,c⟩,r⟩:=x;exact⟨ho _ d,z,ne,k _ _ (.inl Z) e,mA,⟨od,es,ep,k _ _ (.inr d) e2,c⟩,r⟩ |own y=>obtain⟨ob,e⟩:=x;exact⟨ob,k _ _ (.inl Z) e⟩ |xd fs=>obtain⟨mA,⟨od,es,ep,e,c⟩,r⟩:=x;exact⟨mA,⟨od,es,ep,k _ _ (.inl Z) e,c⟩,r⟩ |qW lo hi=>obtain⟨t,u,v,e⟩:=x;exact⟨t,u,v,k _ _ (.inl Z) e⟩ |lM ob u ih=>obtain⟨e,q⟩:=x;exact⟨k _ _ (.inl Z) e,ih q⟩ |oX ps=>have e:h.get? a=some {cls:=.none,data:=.fields ps}:=x;show h'.get? a=some {cls:=.none,data:=.fields ps};exact k a _ (.inl Z) e |met f y=>have e:h.get? a=some (PySem.W.methodObj (.ref f) (.ref y)):=x;show h'.get? a=some (PySem.W.methodObj (.ref f) (.ref y));exact k a _ (.inl Z) e |ext φ=>obtain⟨p,⟨o,e⟩,st⟩:=x;exact⟨st _ _ p λo q=>k _ _ (.inl Z) q,⟨o,k _ _ (.inl Z) e⟩,st⟩
theorem dH.lt(x:dH P w H h)(e:H a=some o):a<h.objs.size:=(x a o e).lt
theorem dH.fresh(x:dH P w H h)(e:h.objs.size<=a):H a=none:=by cases q:H a with |none=>rfl |some u=>exact absurd (cY (x.lt q) e) (vo _)
theorem dH.kept(x:dH P w H h)(k:∀b u,h.get? b=some u->h'.get? b=some u):dH P w H h':=λa o e=>(x a o e).kx (λb u _ q=>k b u q) (λ_ q=>q) λ_ _ q=>q
theorem dH.laid(x:dH P w H h)(k:∀b u,h.get? b=some u->h'.get? b=some u)(hp:h.objs.size<=a)(new:fe P w (upd H a o) h' a o):dH P w (upd H a o) h':=λb u e=>by
 have hn:=x.fresh hp;by_cases hb:b=a
 ·subst hb;rw[cF]at e;cases e;exact new
 ·rw[bL hb]at e
  exact(x b u e).kx (λc v _ q=>k c v q) (λc q=>by rw[bL (cW q hn)];exact q) λc xs q=>by rw[bL (cW q hn)];exact q
end
def Rd(H:Hp)(a:Addr)(u:HO):Prop:=H a=some u\/∃o,H a=some (.lM o u)
theorem Rd.ok{P:ag}{w:World}{H:Hp}{h:Heap}{a:Addr}{u:HO}(r:Rd H a u)(x:dH P w H h):fe P w H h a u:=by
 rcases r with r|⟨o,r⟩
 ·exact x a u r
 ·obtain⟨_,q⟩:=x a _ r
  exact q
def Bm:Option HO->Prop |some (.lst _)=>True |some (.dK _)=>True |some (.dT _)=>True |some (.set _ _)=>True |some (.ins _ _ _)=>True |some (.ext _)=>True |_=>False
section
variable {P:ag}{w:World}{H:Hp}{h h':Heap}{x e:Addr}{o':HO}
theorem dH.write(ok:dH P w H h)(mu:Bm (H x))(he:e=x\/H e=some (.own x))(k:∀b u,b≠e->h.get? b=some u->h'.get? b=some u)(uC:∃u,h'.get? e=some u) (new:fe P w (upd H x o') h' x o'):dH P w (upd H x o') h':=λb u q=>by
 have MN:∀c y,H c=some (.own y)->c≠x:=λc y r z=>by subst z;rw[r]at mu;exact mu
 have XM:∀c xs,H c=some (.tup xs)->c≠x:=λc xs r z=>by subst z;rw[r]at mu;exact mu
 by_cases hb:b=x
 ·subst hb;rw[cF]at q;cases q;exact new
 ·rw[bL hb]at q
  by_cases sf:b=e
  ·have q':H b=some (.own x):=by
    rcases he with z|z
    ·exact absurd (sf.trans z) hb
    ·rw[sf];exact z
   rw[q]at q';cases q';obtain⟨v,hv⟩:=uC;exact⟨v,by rw[sf];exact hv⟩
  ·refine(ok b u q).kx (λc v hc r=>k c v ?_ r) (λc r=>by rw[bL (MN c b r)];exact r) λc xs r=>by rw[bL (XM c xs r)];exact r
   rcases hc with rfl|hc
   ·exact sf
   ·rintro rfl
    rcases he with z|z
    ·exact MN c b hc z
    ·rw[hc]at z;cases z;exact hb rfl
end
structure Un(fs ex:List Addr)(H H':Hp)(h h':Heap):Prop where
 keep:∀b o,h.get? b=some o->H b=none->b∉fs->b∉ex->h'.get? b=some o
 slot:∀b o,h.get? b=some o->H b=none->b∈fs->b∉ex->∃sl,h'.get? b=some {o with slots:=sl}
 free:∀b o,h.get? b=some o->H b=none->b∉ex->H' b=none
 there:∀b o,h.get? b=some o->b∉ex->∃o',h'.get? b=some o'
 jm:∀b xs,H b=some (.tup xs)->H' b=some (.tup xs)
 ja:∀b o u,H b=some (.lM o u)->H' b=some (.lM o u)
 jn:∀b ps,H b=some (.oX ps)->∃more,H' b=some (.oX (ps++more))
section
variable {fs uM ex qe:List Addr}{H H1 H2:Hp}{h h1 h2 h':Heap}{a x e:Addr}{o:HO}
theorem Un.any(u:Un fs ex H H1 h h1){b:Addr}{ob:Obj}(q:h.get? b=some ob)(n:H b=none)(hx:b∉ex):∃sl,h1.get? b=some {ob with slots:=sl}:=by
 by_cases hb:b∈fs
 ·exact u.slot b ob q n hb hx
 ·exact⟨ob.slots,u.keep b ob q n hb hx⟩
theorem Un.kept(k:∀b u,h.get? b=some u->h'.get? b=some u):Un fs ex H H h h':=⟨λb ob q _ _ _=>k b ob q,λb ob q _ _ _=>⟨ob.slots,k b ob q⟩,λ_ _ _ n _=>n,λb ob q _=>⟨ob,k b ob q⟩,λ_ _ q=>q,λ_ _ _ q=>q,λ_ ps q=>⟨#[],by rw[q];simp⟩⟩
theorem Un.refl:Un fs ex H H h h:=Un.kept λ_ _ q=>q
theorem Un.laid(k:∀b u,h.get? b=some u->h'.get? b=some u)(hp:h.objs.size<=a)(hn:H a=none):Un fs ex H (upd H a o) h h' where
 keep:=λb u q _ _ _=>k b u q
 slot:=λb u q _ _ _=>⟨u.slots,k b u q⟩
 free:=λb u q n _=>by rw[bL (dW (cY (cn q) hp))];exact n
 there:=λb u q _=>⟨u,k b u q⟩
 jm:=λb xs q=>by rw[bL (cW q hn)];exact q
 ja:=λb u xs q=>by rw[bL (cW q hn)];exact q
 jn:=λb ps q=>⟨#[],by rw[bL (cW q hn),q];simp⟩
theorem Un.write(mu:Bm (H x))(he:e=x\/H e=some (.own x))(k:∀b u,b≠e->h.get? b=some u->h'.get? b=some u)(uC:∃u,h'.get? e=some u):Un fs ex H (upd H x o) h h':=by
 have hx:∀b,H b=none->b≠x:=λb n z=>by subst z;rw[n]at mu;exact mu
 have hb:∀b,H b=none->b≠e:=λb n z=>by
  subst z;rcases he with r|r
  ·exact hx b n r
  ·rw[n]at r;cases r
 have hm:∀b u,H b=some u->¬Bm (some u)->b≠x:=λb u q nm z=>by subst z;rw[q]at mu;exact nm mu
 refine⟨λb u q n _ _=>k b u (hb b n) q,λb u q n _ _=>⟨u.slots,k b u (hb b n) q⟩,λb u q n _=>by rw[bL (hx b n)];exact n,λb u q _=>?_,λb xs q=>by rw[bL (hm b _ q λz=>z)];exact q,λb u xs q=>by rw[bL (hm b _ q λz=>z)];exact q,λb ps q=>⟨#[],by rw[bL (hm b _ q λz=>z),q];simp⟩⟩;by_cases sf:b=e
 ·subst sf;exact uC
 ·exact⟨u,k b u sf q⟩
end
def za(h:Heap)(H:Hp):List Addr:=(List.range h.objs.size).filter λa=>(H a).isSome
def ou(h:Heap)(H:Hp):Heap:=PySem.W.hideAll h (za h H)
theorem a0d(h:Heap)(H:Hp):(ou h H).objs.size=h.objs.size:=PySem.W.hideAll_size _ _
theorem a0e{h:Heap}{H:Hp}{b:Addr}{o:Obj}(e:h.get? b=some o)(n:H b=none):(ou h H).get? b=some o:=Io _ e λhm=>by have q:(H b).isSome=true:=(List.mem_filter.mp hm).2;rw[n]at q;simp at q
theorem XF{h:Heap}{H:Hp}{b:Addr}{o:Obj}(e:(ou h H).get? b=some o):h.get? b=some o/\H b=none:=by have e':h.get? b=some o:=PySem.W.of_hideAll (za h H) e;refine⟨e',?_⟩;cases q:H b with |none=>rfl |some x=>have hm:b∈za h H:=List.mem_filter.mpr ⟨II.mpr (cn e'),by simp[q]⟩;have z:(ou h H).get? b=none:=PySem.W.hideAll_none (za h H) hm;rw[z]at e;cases e
structure Mod(K:a8)(mg:bS)(az:Heap):Prop where
 pK:K.In az
 glob:az.Ns mainGlobals mg
 blt:∃mb,az.Ns builtinsNs mb/\∀x:Str,x≠"__name__"->mb x=bootBuiltins x
 nolimit:az.NoLimit
structure Cx where
 prog:ag
 w:World
 K:a8
 mg:bS
 az:Heap
 A:ai
 N:List Str
 s₀:af
 H₀:Hp
 env:Env
 outer:List Env
 stack:List Env
 ex:List Addr
 fn:Str->Bool
 calm:Bool
 pn:List (Addr×Obj)
 xe:Value->af->Prop
def eS(l:List Env):List Addr:=l.filterMap (·.frame)
abbrev Cx.fs(X:Cx):List Addr:=eS X.outer
def HJ(sc:Scope)(x:Str):Prop:=sc.names.lookup x=some .local\/sc.names.lookup x=some .cell\/sc.names.lookup x=some .free
def Loc(sc:Scope)(x:Str):Prop:=sc.names.lookup x=some .local\/sc.names.lookup x=some .cell
def Look(env:Env)(h:Heap)(m:bS)(x:Str)(u:Value):Prop:=(env.kindOf x=some .local/\m x=some u)\/((env.kindOf x=some .cell\/env.kindOf x=some .free)/\∃c,env.cells.lookup x=some c/\h.IsCell c (some u))
structure Cx.Ok(X:Cx):Prop where
 mod:Mod X.K X.mg X.az
 kind:X.env.scope.kind= .function
 glob:X.env.globals=mainGlobals
 blt:X.env.builtins=builtinsNs
 above:X.s₀.heap.objs.size<=X.env.locals
 inj:∀x y c,X.env.cells.lookup x=some c->X.env.cells.lookup y=some c->x=y
 has:∀x,(X.env.kindOf x=some .cell\/X.env.kindOf x=some .free)->∃c,X.env.cells.lookup x=some c
 qu:∀x c,X.fn x=true->X.env.cells.lookup x=some c->X.s₀.heap.objs.size<=c
 hd:X.calm=true->X.A.handled=none
 frames:X.A.frames=some X.stack
 qP:X.stack=X.outer\/(X.stack=X.env::X.outer/\X.env.frame=some X.env.locals)
 xI:∀b∈X.ex,b≠X.env.locals/\∀x c,X.env.cells.lookup x=some c->c≠b
 bs:∀b o,X.az.get? b=some o->X.s₀.heap.get? b=some o/\X.H₀ b=none
 ki:X.az.objs.size<=X.s₀.heap.objs.size
 pD:∀b o,X.az.get? b=some o->b∉X.ex
 mQ:∀b∈X.ex,b∉X.fs
 iG:X.s₀.heap.FunFrames X.az X.outer
 lN:∀b∈X.fs,X.H₀ b=none
structure Inv(X:Cx)(ao:List (Addr×Obj))(O:List (Option V))(H:Hp)(s:af):Prop where
 ok:X.Ok
 os:s.os=X.s₀.os
 bare:AllBare s.gens
 az:Un X.fs X.ex X.H₀ H X.s₀.heap s.heap
 loc:∃m,s.heap.Ns X.env.locals m/\∀(i:Nat)(x:Str)(v:V),X.N[i]? =some x->O[i]? =some (some v)->HJ X.env.scope x->∃u,RelV v u/\Look X.env s.heap m x u
 cell:∀x c,X.env.cells.lookup x=some c->∃v,s.heap.IsCell c v
 free:H X.env.locals=none
 jb:∀x c,X.env.cells.lookup x=some c->H c=none
 pin:∀p∈X.pn++ao,s.heap.get? p.1=some p.2/\H p.1=none/\p.1≠X.env.locals/\p.1∉X.fs/\∀v,p.2.data≠ .cell v
 bj:dH X.prog X.w H s.heap
 len:O.length=X.N.length
section
variable {X:Cx}{ao:List (Addr×Obj)}{O:List (Option V)}{H H':Hp}{s:af}{h':Heap}
theorem Cx.Ok.XT(ok:X.Ok){b:Addr}{o:Obj}(e:X.az.get? b=some o):b∉X.fs:=λhb=>by have:=(ok.iG.mem hb).1;rw[e]at this;cases this
theorem Inv.bs(I:Inv X ao O H s):∀b o,X.az.get? b=some o->s.heap.get? b=some o/\H b=none:=λb o e=>⟨I.az.keep b o (I.ok.bs b o e).1 (I.ok.bs b o e).2 (I.ok.XT e) (I.ok.pD b o e),I.az.free b o (I.ok.bs b o e).1 (I.ok.bs b o e).2 (I.ok.pD b o e)⟩
theorem Inv.bk(I:Inv X ao O H s):∀b o,X.az.get? b=some o->s.heap.get? b=some o:=λb o e=>(I.bs b o e).1
theorem Inv.mod(I:Inv X ao O H s):Mod X.K X.mg X.az:=I.ok.mod
theorem Inv.fX(I:Inv X ao O H s):X.K.In s.heap:=I.ok.mod.pK.keeps I.bk
theorem Inv.lt(I:Inv X ao O H s):X.env.locals<s.heap.objs.size:=let⟨_,hn,_⟩:=I.loc;hn.lt
theorem Inv.sz(I:Inv X ao O H s):X.s₀.heap.objs.size<=s.heap.objs.size:=eL I.ok.above (IC I.lt)
theorem Inv.XR(I:Inv X ao O H s){a:Addr}(h:s.heap.objs.size<=a):a∉X.fs:=λhb=>by obtain⟨_,o,ho,_⟩:=I.ok.iG.mem hb;exact absurd (cY (cn ho) (eL I.sz h)) (vo _)
theorem Inv.jF(I:Inv X ao O H s):∀x c,X.env.cells.lookup x=some c->c≠X.env.locals:=λx c e z=>by obtain⟨v,o,ho,hd⟩:=I.cell x c e;obtain⟨m,⟨o',es,ep,lG,hd',_⟩,_⟩:=I.loc;rw[z,lG]at ho;cases ho;rw[hd']at hd;cases hd
theorem Inv.iG(I:Inv X ao O H s):s.heap.FunFrames X.az X.outer:=by
 have all:∀(l:List Env),(∀b∈eS l,b∈X.fs)->X.s₀.heap.FunFrames X.az l->s.heap.FunFrames X.az l:=by intro l;induction l with |nil=>intro _ _;trivial |cons env r ih=>intro hs hl;obtain⟨hk,⟨L,o,hf,hn,ho,hd⟩,hr⟩:=hl;have hL:L∈X.fs:=hs L (by unfold eS;rw[RV,hf];exact IJ);obtain⟨sl,e⟩:=I.az.slot L o ho (I.ok.lN L hL) hL λz=>I.ok.mQ L z hL;exact⟨hk,⟨L,_,hf,hn,e,hd⟩,ih (λb hb=>hs b (by unfold eS;rw[RV,hf];exact BJ _ hb)) hr⟩
 exact all X.outer (λ_ hb=>hb) I.ok.iG
theorem Inv.stack(I:Inv X ao O H s):s.heap.FunFrames X.az X.stack:=by
 rcases I.ok.qP with e|⟨e,hf⟩
 ·rw[e];exact I.iG
 ·rw[e]
  obtain⟨m,hn,_⟩:=I.loc;refine .cons (by rw[I.ok.kind];decide) hf hn ?_ I.iG;exact Heap.get?_none_of_le (eL I.ok.ki I.ok.above)
theorem Inv.BZ(I:Inv X ao O H s):∀b∈eS X.stack,b∈X.env.locals::X.fs:=λb hb=>by
 rcases I.ok.qP with e|⟨e,hf⟩
 ·rw[e]at hb;exact BJ _ hb
 ·rw[e]at hb
  unfold eS at hb;rw[RV,hf]at hb;exact hb
theorem Inv.zl(I:Inv X ao O H s):∀b∈eS X.stack,H b=none:=λb hb=>by
 rcases cR.mp (I.BZ b hb)with e|hb
 ·rw[e];exact I.free
 ·obtain⟨_,o,ho,_⟩:=I.ok.iG.mem hb
  exact I.az.free b o ho (I.ok.lN b hb) λz=>I.ok.mQ b z hb
theorem Inv.step{g':Array GenState}{t':Nat}{d':Drawn}{ch:List Addr}(I:Inv X ao O H s) (kN:∀b∈ch,(b∈X.ex\/X.s₀.heap.objs.size<=b)/\b≠X.env.locals/\(∀x c,X.env.cells.lookup x=some c->c≠b)/\∀p∈X.pn++ao,p.1≠b) (keep:∀b o,b≠X.env.locals->b∉X.fs->b∉ch->s.heap.get? b=some o->H b=none->h'.get? b=some o) (slot:∀b o,b≠X.env.locals->b∈X.fs->b∉ch->s.heap.get? b=some o->H b=none->∃sl,h'.get? b=some {o with slots:=sl})(free:∀b o,b∉ch->s.heap.get? b=some o->H b=none->H' b=none) (there:∀b o,b∉ch->s.heap.get? b=some o->∃o',h'.get? b=some o') (jm:∀b xs,H b=some (.tup xs)->H' b=some (.tup xs))(ja:∀b o u,H b=some (.lM o u)->H' b=some (.lM o u))(jn:∀b ps,H b=some (.oX ps)->∃more,H' b=some (.oX (ps++more))) (ns:∀m,s.heap.Ns X.env.locals m->h'.Ns X.env.locals m)(bj:dH X.prog X.w H' h')(hg:AllBare g'): Inv X ao O H' {s with heap:=h',gens:=g',drawn:=d',toks:=t'}:=by
 have MW:∀b o,X.s₀.heap.get? b=some o->b≠X.env.locals:=λb o e=>dW (cY (cn e) I.ok.above);have zR:∀b o,X.s₀.heap.get? b=some o->b∉X.ex->b∉ch:=λb o e hx hb=>by
  rcases(kN b hb).1 with z|z
  ·exact hx z
  ·exact absurd (cY (cn e) z) (vo _)
 have cellK:∀x c,X.env.cells.lookup x=some c->∀v,s.heap.IsCell c v->h'.IsCell c v:=λx c e v ⟨o,ho,hd⟩=>by
  have wG:c∉ch:=λz=>(kN c z).2.2.1 x c e rfl;by_cases hc:c∈X.fs
  ·obtain⟨sl,q⟩:=slot c o (I.jF x c e) hc wG ho (I.jb x c e)
   exact⟨_,q,hd⟩
  ·exact⟨o,keep c o (I.jF x c e) hc wG ho (I.jb x c e),hd⟩
 refine⟨I.ok,I.os,hg,⟨λb o e n hb hx=>?_,λb o e n hb hx=>?_,λb o e n hx=>?_,λb o e hx=>?_,λb xs e=>jm b xs (I.az.jm b xs e),λb o xs e=>ja b o xs (I.az.ja b o xs e),λb ps e=>?_⟩,?_,λx c e=>?_,?_,λx c e=>?_,λp hp=>?_,bj,I.len⟩
 ·exact keep b o (MW b o e) hb (zR b o e hx) (I.az.keep b o e n hb hx) (I.az.free b o e n hx)
 ·obtain⟨sl,e1⟩:=I.az.slot b o e n hb hx
  obtain⟨CG,e2⟩:=slot b _ (MW b o e) hb (zR b o e hx) e1 (I.az.free b o e n hx);exact⟨CG,e2⟩
 ·obtain⟨o',e1⟩:=I.az.there b o e hx
  exact free b o' (zR b o e hx) e1 (I.az.free b o e n hx)
 ·obtain⟨o',e1⟩:=I.az.there b o e hx
  exact there b o' (zR b o e hx) e1
 ·obtain⟨m1,e1⟩:=I.az.jn b ps e
  obtain⟨m2,e2⟩:=jn b _ e1;exact⟨m1++m2,by rw[e2,Array.append_assoc]⟩
 ·obtain⟨m,hn,hl⟩:=I.loc
  refine⟨m,ns m hn,λi x v e1 e2 e3=>?_⟩;obtain⟨u,r,l⟩:=hl i x v e1 e2 e3;refine⟨u,r,?_⟩;rcases l with l|⟨k,c,e,z⟩
  ·exact .inl l
  ·exact .inr ⟨k,c,e,cellK x c e _ z⟩
 ·obtain⟨v,z⟩:=I.cell x c e
  exact⟨v,cellK x c e v z⟩
 ·obtain⟨m,⟨o,_,_,ho,_⟩,_⟩:=I.loc
  exact free _ o (λz=>(kN _ z).2.1 Z) ho I.free
 ·obtain⟨v,o,ho,hd⟩:=I.cell x c e
  exact free c o (λz=>(kN c z).2.2.1 x c e Z) ho (I.jb x c e)
 ·obtain⟨e,n,ne,nf,d⟩:=I.pin p hp
  have wG:p.1∉ch:=λz=>(kN p.1 z).2.2.2 p hp rfl;exact⟨keep p.1 p.2 ne nf wG e n,free p.1 p.2 wG e n,ne,nf,d⟩
theorem Inv.un{t':Nat}(I:Inv X ao O H s)(u:Un X.fs [] H H' s.heap h')(bj:dH X.prog X.w H' h'):Inv X ao O H' {s with heap:=h',toks:=t'}:=by obtain⟨m,⟨o,es,ep,ho,r⟩,_⟩:=id I.loc;obtain⟨sl,hL⟩:=u.any ho I.free (by simp);exact I.step (g':=s.gens) (d':=s.drawn) (ch:=[]) (λ_ z=>nomatch z) (λb o _ hb _ e n=>u.keep b o e n hb (by simp)) (λb o _ hb _ e n=>u.slot b o e n hb (by simp)) (λb o _ e n=>u.free b o e n (by simp)) (λb o _ e=>u.there b o e (by simp)) u.jm u.ja u.jn (λm' hm=>by obtain⟨o',gY,GP,lG,r'⟩:=hm;rw[ho]at lG;cases lG;exact⟨_,gY,GP,hL,r'⟩) bj I.bare
theorem Inv.call{g':Array GenState}{t':Nat}{d':Drawn}{ch:List Addr}(I:Inv X ao O H s)(u:Un (eS X.stack) ch H H' s.heap h')(bj:dH X.prog X.w H' h')(hg:AllBare g') (kN:∀b∈ch,(b∈X.ex\/X.s₀.heap.objs.size<=b)/\b≠X.env.locals/\(∀x c,X.env.cells.lookup x=some c->c≠b)/\∀p∈X.pn++ao,p.1≠b): Inv X ao O H' {s with heap:=h',gens:=g',drawn:=d',toks:=t'}:=by obtain⟨m,⟨o,es,ep,ho,r⟩,_⟩:=id I.loc;obtain⟨sl,hL⟩:=u.any ho I.free λz=>(kN _ z).2.1 rfl;exact I.step (ch:=ch) kN (λb o hL hb hc e n=>u.keep b o e n (λz=>(cR.mp (I.BZ b z)).elim hL hb) hc) (λb o _ _ hc e n=>u.any e n hc) (λb o hc e n=>u.free b o e n hc) (λb o hc e=>u.there b o e hc) u.jm u.ja u.jn (λm' hm=>by obtain⟨o',gY,GP,lG,r'⟩:=hm;rw[ho]at lG;cases lG;exact⟨_,gY,GP,hL,r'⟩) bj hg
theorem Inv.turned{t':Nat}{it:Addr}(I:Inv X ao O H s)(k:∀b o,b≠it->s.heap.get? b=some o->h'.get? b=some o)(hn:H it=none)(hL:it≠X.env.locals) (h1:it∈X.ex\/X.s₀.heap.objs.size<=it)(h2:∀x c,X.env.cells.lookup x=some c->c≠it)(h3:∀p∈X.pn++ao,p.1≠it):Inv X ao O H {s with heap:=h',toks:=t'}:=by
 have wF:∀b u,H b=some u->b≠it:=λb u e z=>by rw[z,hn]at e;cases e
 refine I.step (g':=s.gens) (d':=s.drawn) (ch:=[it]) (λb hb=>?_) (λb o _ _ hc e _=>k b o (λz=>hc (by simp[z])) e) (λb o _ _ hc e _=>⟨o.slots,k b o (λz=>hc (by simp[z])) e⟩) (λ_ _ _ _ n=>n) (λb o hc e=>⟨o,k b o (λz=>hc (by simp[z])) e⟩) (λ_ _ e=>e) (λ_ _ _ e=>e) (λb ps e=>⟨#[],by rw[e];simp⟩) (λm hm=>?_) (λb u e=>?_) I.bare
 ·have e:b=it:=by simpa using hb
  subst e;exact⟨h1,hL,h2,h3⟩
 ·obtain⟨o,es,ep,ho,r⟩:=hm
  exact⟨o,es,ep,k _ o (jg hL) ho,r⟩
 ·refine(I.bj b u e).kx (λc v hc q=>k c v ?_ q) (λ_ q=>q) λ_ _ q=>q
  rcases hc with z|z
  ·rw[z];exact wF b u e
  ·exact wF c _ z
theorem Inv.tok(I:Inv X ao O H s)(t:Nat):Inv X ao O H {s with toks:=t}:=I.un (h':=s.heap) (t':=t) Un.refl I.bj
theorem Inv.kept{t':Nat}(I:Inv X ao O H s)(k:∀b u,s.heap.get? b=some u->h'.get? b=some u):Inv X ao O H {s with heap:=h',toks:=t'}:=I.un (Un.kept k) (I.bj.kept k)
theorem Inv.laid{a:Addr}{o:HO}{t':Nat}(I:Inv X ao O H s)(k:∀b u,s.heap.get? b=some u->h'.get? b=some u)(hp:s.heap.objs.size<=a)(new:fe X.prog X.w (upd H a o) h' a o): Inv X ao O (upd H a o) {s with heap:=h',toks:=t'}:=I.un (Un.laid k hp (I.bj.fresh hp)) (I.bj.laid k hp new)
theorem Inv.write{x e:Addr}{o:HO}{t':Nat}(I:Inv X ao O H s)(mu:Bm (H x))(he:e=x\/H e=some (.own x))(k:∀b u,b≠e->s.heap.get? b=some u->h'.get? b=some u)(uC:∃u,h'.get? e=some u) (new:fe X.prog X.w (upd H x o) h' x o):Inv X ao O (upd H x o) {s with heap:=h',toks:=t'}:=I.un (Un.write mu he k uC) (I.bj.write mu he k uC new)
theorem Inv.Ms{ES:List (Addr×Obj)}(I:Inv X ao O H s)(h:∀p∈ES,s.heap.get? p.1=some p.2/\H p.1=none/\p.1≠X.env.locals/\p.1∉X.fs/\∀v,p.2.data≠ .cell v):Inv X ES O H s:=⟨I.ok,I.os,I.bare,I.az,I.loc,I.cell,I.free,I.jb,λp hp=>(gL.mp hp).elim (λz=>I.pin p (RS _ z)) (h p),I.bj,I.len⟩
theorem Fb{N:List Str}(hN:N.Nodup){i j:Nat}{x:Str}(a:N[i]? =some x)(b:N[j]? =some x):i=j:=by obtain⟨h1,e1⟩:=cL.mp a;obtain⟨h2,e2⟩:=cL.mp b;exact(List.getElem_inj hN).mp (e1.trans e2.symm)
theorem Jz{M:Model}{A:ai}{E:Value->af->Prop}{i:Nat}{x:Str}{v:V}{u:Value}{Q:Unit->af->Prop}(I:Inv X ao O H s)(hN:X.N.Nodup)(hi:X.N[i]? =some x)(hx:Loc X.env.scope x)(r:RelV v u) (h:∀s',Inv X ao (O.set i (some v)) H s'->(∃a,Heap.SameBut a s.heap s'.heap/\(a=X.env.locals\/X.env.cells.lookup x=some a))->Q () s')(hf:X.fn x=true\/X.env.scope.names.lookup x=some .local:=by first|exact .inl rfl|exact .inr rfl|assumption):wpAny M A (storeName X.env x u) Q E s:=by
 obtain⟨m,hn,hl⟩:=id I.loc;have xp:(X.env.scope.kind== .class||(X.env.scope.kind== .module&&X.env.locals !=X.env.globals))=false:=by rw[I.ok.kind];rfl
 have Ao:i<O.length:=by rw[I.len];exact(cL.mp hi).1
 have jF:=I.jF;have tracked:∀{a:Addr}{h':Heap},(∃o,s.heap.get? a=some o/\H a=none)->Heap.SameBut a s.heap h'->dH X.prog X.w H h':=λ{a h'} ha hs b ob e=>by
  obtain⟨_,_,pU⟩:=ha;refine(I.bj b ob e).kx (λc w' hc q=>(hs.2 c ?_).trans q) (λ_ q=>q) λ_ _ q=>q;rintro rfl;rcases hc with rfl|hc
  ·rw[pU]at e;cases e
  ·rw[pU]at hc;cases hc
 rcases hx with hk|hk
 ·refine wpAny_storeName_local hk hn (λh' G6 hs=>?_) xp
  obtain⟨oL,_,_,O3,_⟩:=id hn;refine h _ ⟨I.ok,I.os,I.bare,⟨λb o e n hb hx=>?_,λb o e n hb hx=>?_,I.az.free,λb o e hx=>?_,I.az.jm,I.az.ja,I.az.jn⟩,⟨_,G6,λj y v' e1 e2 e3=>?_⟩,λy c e=>?_,I.free,I.jb,λp hp=>?_,tracked ⟨oL,O3,I.free⟩ hs,by simpa using I.len⟩ ⟨_,hs,.inl rfl⟩
  ·exact(hs.2 b (dW (cY (cn e) I.ok.above))).trans (I.az.keep b o e n hb hx)
  ·obtain⟨sl,e1⟩:=I.az.slot b o e n hb hx
   exact⟨sl,(hs.2 b (dW (cY (cn e) I.ok.above))).trans e1⟩
  ·obtain⟨o',e1⟩:=I.az.there b o e hx
   exact⟨o',(hs.2 b (dW (cY (cn e) I.ok.above))).trans e1⟩
  ·by_cases hj:j=i
   ·subst hj
    rw[hi]at e1;cases e1;rw[yM Ao]at e2;cases e2;exact⟨u,r,.inl ⟨hk,by simp⟩⟩
   ·rw[IM (jg hj)]at e2
    obtain⟨u',r',q⟩:=hl j y v' e1 e2 e3;refine⟨u',r',?_⟩;rcases q with⟨k,e⟩|⟨k,c,e,z⟩
    ·refine .inl ⟨k,?_⟩
     have:y≠x:=λe=>hj (Fb hN e1 (e▸hi));simp[this,e]
    ·exact .inr ⟨k,c,e,z.sameBut hs (jF y c e)⟩
  ·obtain⟨w',z⟩:=I.cell y c e
   exact⟨w',z.sameBut hs (jF y c e)⟩
  ·obtain⟨e,n,ne,nf,d⟩:=I.pin p hp
   exact⟨(hs.2 p.1 ne).trans e,n,ne,nf,d⟩
 ·have Gb:X.fn x=true:=by
   rcases hf with z|z
   ·exact z
   ·rw[z]at hk;cases hk
  obtain⟨c,hc⟩:=I.ok.has x (.inl hk);obtain⟨w',z⟩:=I.cell x c hc;refine wpAny_storeName_cell I.ok.kind hk hc z (λh' ib hs=>?_);obtain⟨oc,O2,ZI⟩:=id z;refine h {s with heap:=h'} ⟨I.ok,I.os,I.bare,⟨λb o e n hb hx=>?_,λb o e n hb hx=>?_,I.az.free,λb o e hx=>?_,I.az.jm,I.az.ja,I.az.jn⟩,⟨m,hn.sameBut hs (jg (jF x c hc)),λj y v' e1 e2 e3=>?_⟩,λy c' e=>?_,I.free,I.jb,λp hp=>?_,tracked ⟨oc,O2,I.jb x c hc⟩ hs,by simpa using I.len⟩ ⟨c,hs,.inr hc⟩
  ·exact(hs.2 b (dW (cY (cn e) (I.ok.qu x c Gb hc)))).trans (I.az.keep b o e n hb hx)
  ·obtain⟨sl,e1⟩:=I.az.slot b o e n hb hx
   exact⟨sl,(hs.2 b (dW (cY (cn e) (I.ok.qu x c Gb hc)))).trans e1⟩
  ·obtain⟨o',e1⟩:=I.az.there b o e hx
   exact⟨o',(hs.2 b (dW (cY (cn e) (I.ok.qu x c Gb hc)))).trans e1⟩
  ·by_cases hj:j=i
   ·subst hj
    rw[hi]at e1;cases e1;rw[yM Ao]at e2;cases e2;exact⟨u,r,.inr ⟨.inl hk,c,hc,ib⟩⟩
   ·rw[IM (jg hj)]at e2
    obtain⟨u',r',q⟩:=hl j y v' e1 e2 e3;refine⟨u',r',?_⟩;rcases q with q|⟨k,c',e,z'⟩
    ·exact .inl q
    ·refine .inr ⟨k,c',e,z'.sameBut hs ?_⟩
     rintro rfl;exact hj (Fb hN e1 (I.ok.inj _ _ _ e hc▸hi))
  ·by_cases Oh:c'=c
   ·subst Oh;exact⟨_,ib⟩
   ·obtain⟨w2,z2⟩:=I.cell y c' e
    exact⟨w2,z2.sameBut hs Oh⟩
  ·obtain⟨e,n,ne,nf,d⟩:=I.pin p hp
   refine⟨(hs.2 p.1 ?_).trans e,n,ne,nf,d⟩;intro q;rw[q,O2]at e;have q':oc=p.2:=dU e;exact d w' (by rw[<-q'];exact ZI)
theorem tS{M:Model}{A:ai}{E:Value->af->Prop}{i:Nat}{x:Str}{v:V}{u:Value}{Q:Unit->af->Prop}(I:Inv X ao O H s)(hN:X.N.Nodup)(hi:X.N[i]? =some x)(hx:Loc X.env.scope x)(r:RelV v u) (h:∀s',Inv X ao (O.set i (some v)) H s'->Q () s')(hf:X.fn x=true\/X.env.scope.names.lookup x=some .local:=by first|exact .inl rfl|exact .inr rfl|assumption):wpAny M A (storeName X.env x u) Q E s:=Jz I hN hi hx r (λs' I' _=>h s' I') hf
theorem Inv.xX{s':af}{ch:List Addr}(I:Inv X ao O H s)(ho:s'.os=s.os)(u:Un (eS X.stack) ch H H' s.heap s'.heap)(bj:dH X.prog X.w H' s'.heap)(hg:AllBare s'.gens) (kN:∀b∈ch,(b∈X.ex\/X.s₀.heap.objs.size<=b)/\b≠X.env.locals/\(∀x c,X.env.cells.lookup x=some c->c≠b)/\∀p∈X.pn++ao,p.1≠b):Inv X ao O H' s':=by obtain⟨h',g',d',t',o'⟩:=s';have e:o'=s.os:=ho;subst e;exact I.call (g':=g') (t':=t') (d':=d') u bj hg kN
end
abbrev XK:=Value->Option Addr->Hp->Prop
abbrev St:=List (Option V)
abbrev VK:=V->Hp->Prop
abbrev TE:=St->Hp->VK->Prop
abbrev TT:=St->Hp->(Bool->Hp->Prop)->Prop
abbrev TA:=St->Hp->(List V->Hp->Prop)->Prop
structure Ends where
 nx:St->Hp->Prop
 rt:VK
 bk:St->Hp->Prop:=λ_ _=>False
 ct:St->Hp->Prop:=λ_ _=>False
abbrev TS:=Ends->St->Hp->Prop
def EP(X:Cx)(ao:List (Addr×Obj))(O:St)(Q:VK)(u:Value)(s':af):Prop:=∃v H',Inv X ao O H' s'/\RelV v u/\Q v H'
def TP(X:Cx)(ao:List (Addr×Obj))(O:St)(Q:Bool->Hp->Prop)(b:Bool)(s':af):Prop:=∃H',Inv X ao O H' s'/\Q b H'
def AP(X:Cx)(ao:List (Addr×Obj))(O:St)(Q:List V->Hp->Prop)(us:List Value)(s':af):Prop:=∃vs H',Inv X ao O H' s'/\Vals vs us/\Q vs H'
def SP(X:Cx)(ao:List (Addr×Obj))(D:Ends)(f:Flow)(s':af):Prop:=match f with | .next=>∃σ' H',Inv X ao σ' H' s'/\D.nx σ' H' | .brk=>∃σ' H',Inv X ao σ' H' s'/\D.bk σ' H' | .cont=>∃σ' H',Inv X ao σ' H' s'/\D.ct σ' H' | .ret u=>∃v σ' H',Inv X ao σ' H' s'/\RelV v u/\D.rt v H'
def PE(X:Cx)(e:Expr)(t:TE):Prop:=∀(ao:List (Addr×Obj))(s:af)(O:St)(H:Hp)(Q:VK),Inv X ao O H s->t O H Q->wpAny (model X.prog X.w) X.A (eval e X.env) (EP X ao O Q) X.xe s
def PT(X:Cx)(e:Expr)(t:TT):Prop:=∀(ao:List (Addr×Obj))(s:af)(O:St)(H:Hp)(Q:Bool->Hp->Prop),Inv X ao O H s->t O H Q->wpAny (model X.prog X.w) X.A (isTrue e X.env (eval e X.env)) (TP X ao O Q) X.xe s
def PW(X:Cx)(e:Expr)(t:TT):Prop:=∀(whole:Sem Value)(ao:List (Addr×Obj))(s:af)(O:St)(H:Hp)(Q:Bool->Hp->Prop),Inv X ao O H s->t O H Q->wpAny (model X.prog X.w) X.A (isTrue e X.env whole) (TP X ao O Q) X.xe s
theorem PW.pt{X:Cx}{e:Expr}{t:TT}(h:PW X e t):PT X e t:=h _
def PA(X:Cx)(es:List Expr)(t:TA):Prop:=∀(pos:Pos)(ao:List (Addr×Obj))(s:af)(O:St)(H:Hp)(Q:List V->Hp->Prop),Inv X ao O H s->t O H Q->wpAny (model X.prog X.w) X.A (spliced (backTo pos (starEach es X.env))) (AP X ao O Q) X.xe s
def PS(X:Cx)(st:Stmt)(t:TS):Prop:=∀(ao:List (Addr×Obj))(s:af)(O:St)(H:Hp)(D:Ends),Inv X ao O H s->t D O H->wpAny (model X.prog X.w) X.A (exec st X.env) (SP X ao D) X.xe s
def gn(X:Cx)(st:List Stmt)(t:TS):Prop:=∀(ao:List (Addr×Obj))(s:af)(O:St)(H:Hp)(D:Ends),Inv X ao O H s->t D O H->wpAny (model X.prog X.w) X.A (execs st X.env) (SP X ao D) X.xe s
theorem aY{α:Type}{t:Sem α}{Q Q':α->af->Prop}{M:Model}{A:ai}{E:Value->af->Prop}{s:af}(h:wpAny M A t Q E s)(hQ:∀a s,Q a s->Q' a s):wpAny M A t Q' E s:=eJ h hQ λ_ _ x=>x
section
variable {X:Cx}
inductive a5l(i:Nat)(O:St)(H:Hp)(Q:VK):Prop |mk (v:_)(h0:O[i]? =some (some v))(h1:Q v H)
def Jl(i:Nat):TE:=λO H Q=>a5l i O H Q
def tC (v:V):TE:=λ_ H Q=>Q v H
theorem VJ{i:Nat}{x:Str}{pos:Pos}(hN:X.N[i]? =some x)(hv:HJ X.env.scope x)(hd:(x==("__debug__":Str))=false:=by decide)(eR:(x==("__classdict__":Str))=false:=by decide):PE X (.Name x pos) (Jl i):=by
 intro ao s O H Q I h;obtain⟨v,e,h⟩:=h;obtain⟨m,hn,hl⟩:=I.loc;obtain⟨u,r,l⟩:=hl i x v hN e hv;have fin:EP X ao O Q u s:=⟨v,H,I,r,h⟩;rcases l with⟨hk,hm⟩|⟨hk,c,hc,mL⟩
 ·exact wpAny_Name (wpAny_loadName_local I.ok.kind hk hn hm fin) hd
 ·rcases hk with hk|hk
  ·exact wpAny_Name (wpAny_loadName_cell I.ok.kind hk hc mL fin) hd
  ·exact wpAny_Name (wpAny_loadName_free I.ok.kind hk hc mL fin eR) hd
theorem aA{i j pos}:PE X (.Constant (.int i) j pos) (tC (.int i)):=λ_ _ _ H _ I h=>wpAny_Constant_int ⟨.int i,H,I.tok _,⟨_,Z⟩,h⟩
theorem gE{b j pos}:PE X (.Constant (.bool b) j pos) (tC (.bl b)):=λ_ _ _ H _ I h=>Constant_bool ⟨.bl b,H,I,Z,h⟩
theorem eQ{j pos}:PE X (.Constant .none j pos) (tC .bR):=λ_ _ _ H _ I h=>Constant_none ⟨.bR,H,I,Z,h⟩
theorem cJ{x j pos}:PE X (.Constant (.str x) j pos) (tC (.str x)):=λ_ _ _ H _ I h=>Calls.Constant_str ⟨.str x,H,I.tok _,⟨_,Z⟩,h⟩
def Gl(X:Cx)(x:Str):Prop:=X.env.kindOf x=some .globalImplicit
theorem ux{E:Value->af->Prop}{ao:List (Addr×Obj)}{s:af}{O:St}{H:Hp}{x:Str}{u:Value}{pos:Pos}{Q:Value->af->Prop}(I:Inv X ao O H s)(hg:Gl X x)(hm:X.mg x=some u)(h:Q u s) (hd:(x==("__debug__":Str))=false:=by decide):wpAny (model X.prog X.w) X.A (eval (.Name x pos) X.env) Q E s:=Calls.Name_function_global I.ok.kind hg (Calls.loadGlobal_global (by rw[I.ok.glob];exact I.mod.glob.keeps I.bk) hm h) hd
theorem pI{E:Value->af->Prop}{ao:List (Addr×Obj)}{s:af}{O:St}{H:Hp}{x:Str}{u:Value}{pos:Pos}{Q:Value->af->Prop}(I:Inv X ao O H s)(hg:Gl X x)(hm:X.mg x=none)(hv:bootBuiltins x=some u)(h:Q u s) (hn:x≠"__name__":=by decide)(hd:(x==("__debug__":Str))=false:=by decide):wpAny (model X.prog X.w) X.A (eval (.Name x pos) X.env) Q E s:=by obtain⟨mb,h1,h2⟩:=I.mod.blt;exact Calls.Name_function_global I.ok.kind hg (Calls.loadGlobal_builtin (by rw[I.ok.glob];exact I.mod.glob.keeps I.bk) hm (by rw[I.ok.blt];exact h1.keeps I.bk) ((h2 x hn).trans hv) h) hd
theorem VN{x:Str}{v:V}{u:Value}{pos:Pos}(hg:Gl X x)(hm:X.mg x=some u)(r:RelV v u)(hd:(x==("__debug__":Str))=false:=by decide):PE X (.Name x pos) (tC v):=λ_ _ _ H _ I h=>ux I hg hm ⟨v,H,I,r,h⟩ hd
theorem eZ{x:Str}{v:V}{u:Value}{pos:Pos}(hg:Gl X x)(hm:X.mg x=none)(hv:bootBuiltins x=some u)(r:RelV v u)(hn:x≠"__name__":=by decide)(hd:(x==("__debug__":Str))=false:=by decide):PE X (.Name x pos) (tC v):=λ_ _ _ H _ I h=>pI I hg hm hv ⟨v,H,I,r,h⟩ hn hd
variable {a b:Expr}{ta tb:TE}{pos:Pos}
inductive ItB(Q:Bool->Hp->Prop)(x:V)(H1:Hp):Prop |mk (c:_)(h0:x= .bl c)(h1:Q c H1)
def tB(t:TE):TT:=λO H Q=>t O H λx H1=>ItB Q x H1
theorem ck{e:Expr}{t:TE}(h:PE X e t)(he:∀whole,isTrue e X.env whole=(do let v<-whole;standAt e.pos;holding [v] (truthy v)):=by intro _;rfl):PT X e (tB t):=by intro ao s O H Q I hw;refine isTrue_plain (aY (h ao s O H _ I hw) λv s1 ⟨x,H1,I1,r1,q1⟩=>?_) (he _);obtain⟨d,rfl,q⟩:=q1;cases r1;exact oN ⟨H1,I1,q⟩
variable {tA zi:TT} {rest:List Expr}
def TC(t u:TT):TT:=λO H Q=>t O H λc H1=>if c=true then u O H1 Q else Q false H1
def Td(t u:TT):TT:=λO H Q=>t O H λc H1=>if c=true then Q true H1 else u O H1 Q
def Tf(t:TT):TT:=λO H Q=>t O H λc H1=>Q (!c) H1
theorem pg(ha:PT X a tA):PW X (.BoolOp .And [a] pos) tA:=by intro wh ao s O H Q I h;refine isTrue_and (aY (ha ao s O H Q I h) λc s1 e=>?_);cases c with |true=>exact isTrue_and_nil e |false=>exact e
theorem iy(ha:PT X a tA):PW X (.BoolOp .Or [a] pos) tA:=by intro wh ao s O H Q I h;refine isTrue_or (aY (ha ao s O H Q I h) λc s1 e=>?_);cases c with |false=>exact isTrue_or_nil e |true=>exact e
theorem nK(ha:PT X a tA)(hb:PW X (.BoolOp .And (b::rest) pos) zi):PW X (.BoolOp .And (a::b::rest) pos) (TC tA zi):=by intro wh ao s O H Q I h;refine isTrue_and (aY (ha ao s O H _ I h) λc s1 ⟨H1,I1,q1⟩=>?_);cases c with |true=>exact hb wh ao s1 O H1 Q I1 q1 |false=>exact⟨H1,I1,q1⟩
theorem fw(ha:PT X a tA)(hb:PW X (.BoolOp .Or (b::rest) pos) zi):PW X (.BoolOp .Or (a::b::rest) pos) (Td tA zi):=by intro wh ao s O H Q I h;refine isTrue_or (aY (ha ao s O H _ I h) λc s1 ⟨H1,I1,q1⟩=>?_);cases c with |true=>exact⟨H1,I1,q1⟩ |false=>exact hb wh ao s1 O H1 Q I1 q1
theorem cS(ha:PT X a tA):PT X (.UnaryOp .Not a pos) (Tf tA):=by intro ao s O H Q I h;exact isTrue_not (ha ao s O H (λc H1=>Q (!c) H1) I h)
inductive a5u(tb:TE)(O:St)(Q:VK)(x:V)(H1:Hp):Prop |mk (c:_)(h0:x= .bl c)(h1:if c=true then tb O H1 Q else Q (.bl false) H1)
def TB(ta tb:TE):TE:=λO H Q=>ta O H λx H1=>a5u tb O Q x H1
inductive a5q(Q:VK)(x:V)(H1:Hp):Prop |mk (c:_)(h0:x= .bl c)(h1:Q (.bl (!c)) H1)
def Te(ta:TE):TE:=λO H Q=>ta O H λx H1=>a5q Q x H1
theorem jw{op}{t:TE}(h:PE X a t):PE X (.BoolOp op [a] pos) t:=λao s O H Q I hw=>BoolOp_one (h ao s O H Q I hw)
theorem iY(ha:PE X a ta)(hb:PE X (.BoolOp .And (b::rest) pos) tb):PE X (.BoolOp .And (a::b::rest) pos) (TB ta tb):=by intro ao s O H Q I h;refine BoolOp_and (aY (ha ao s O H _ I h) λv s1 ⟨x,H1,I1,r1,q1⟩=>?_);obtain⟨c,rfl,q1⟩:=q1;cases r1;refine oN ?_;cases c with |true=>exact hb ao s1 O H1 Q I1 q1 |false=>exact⟨.bl false,H1,I1,Z,q1⟩
theorem rf(ha:PE X a ta):PE X (.UnaryOp .Not a pos) (Te ta):=by intro ao s O H Q I h;refine UnaryOp_ (aY (ha ao s O H _ I h) λv s1 ⟨x,H1,I1,r1,q1⟩=>?_);obtain⟨c,rfl,q1⟩:=q1;cases r1;exact not_of (oN ⟨.bl (!c),H1,I1,Z,q1⟩)
def Tr(t:TT)(ta tb:TE):TE:=λO H Q=>t O H λc H1=>if c=true then ta O H1 Q else tb O H1 Q
theorem wj{c:Expr}(hc:PT X c tA)(ha:PE X a ta)(hb:PE X b tb):PE X (.IfExp c a b pos) (Tr tA ta tb):=by intro ao s O H Q I h;refine wpAny_IfExp (aY (hc ao s O H _ I h) λd s1 ⟨H1,I1,q1⟩=>?_);cases d with |true=>exact ha ao s1 O H1 Q I1 q1 |false=>exact hb ao s1 O H1 Q I1 q1
end
def aK(K:a8)(H:Hp)(a:Addr)(xs:List V):Prop:=Rd H a (.lst xs)\/ ∃(o:Obj)(its:Array Value)(n:Nat),K.lookup a=some o/\o.cls= .type "list"/\o.dict=none/\o.data= .seq its n/\its.size<=sizeLine/\Vals xs its.toList
def aV(K:a8)(H:Hp)(a:Addr)(xs:List V):Prop:=Rd H a (.tup xs)\/ ∃(o:Obj)(its:Array Value)(n:Nat),K.lookup a=some o/\o.cls= .type "tuple"/\o.data= .seq its n/\its.size<=sizeLine/\Vals xs its.toList
def a50:Value->Option V | .none=>some .bR | .bool b=>some (.bl b) | .int i _=>some (.int i) | .str x _=>some (.str x) | .bytes b _=>some (.xY b) | .float b _=>some (.Gz b) | .ref a=>some (.ref a) | .type n=>some (.ty n) |_=>none
theorem RelV.abs{x:V}{u:Value}(r:RelV x u):a50 u=some x:=by cases x with |bR=>cases r;rfl |bl _=>cases r;rfl |int _=>obtain⟨t,rfl⟩:=r;rfl |str _=>obtain⟨t,rfl⟩:=r;rfl |xY _=>obtain⟨t,rfl⟩:=r;rfl |Gz _=>obtain⟨t,rfl⟩:=r;rfl |ref _=>cases r;rfl |ty _=>cases r;rfl
theorem RelV.inj{x y:V}{u:Value}(r:RelV x u)(q:RelV y u):x=y:=dU (r.abs.symm.trans q.abs)
theorem Vals.inj:∀{xs ys:List V}{us:List Value},Vals xs us->Vals ys us->xs=ys |_,_,_,.nil,.nil=>rfl |_,_,_,.cons r t,.cons r' t'=>by rw[r.inj r',Vals.inj t t']
section
variable {X:Cx}{ao:List (Addr×Obj)}{O:St}{H:Hp}{s:af}{a:Addr}{xs ys:List V}
theorem aK.of{K:a8}(h:H a=some (.lst xs)):aK K H a xs:=.inl (.inl h)
theorem aV.of{K:a8}(h:H a=some (.tup xs)):aV K H a xs:=.inl (.inl h)
theorem Inv.list(I:Inv X ao O H s)(h:aK X.K H a xs):∃its:List Value,Vals xs its/\PlainL s.heap a its.toArray/\xs.length<=sizeLine:=by
 rcases h with h|⟨o,its,n,hk,hc,hd,hs,hz,r⟩
 ·obtain⟨z,its,n,r,e⟩:=h.ok I.bj
  exact⟨its,r,⟨_,n,e,Z,Z,Z⟩,z⟩
 ·refine⟨its.toList,r,⟨o,n,I.fX a o hk,hc,hd,by simpa using hs⟩,?_⟩
  have e:=r.length;simp only[yR]at e
  lia
theorem Inv.tuple(I:Inv X ao O H s)(h:aV X.K H a xs):∃its:List Value,Vals xs its/\IsTup s.heap a its.toArray/\xs.length<=sizeLine:=by
 rcases h with h|⟨o,its,n,hk,hc,hs,hz,r⟩
 ·obtain⟨z,its,r,p⟩:=h.ok I.bj
  exact⟨its,r,p,z⟩
 ·refine⟨its.toList,r,⟨o,I.fX a o hk,hc,n,by simpa using hs⟩,?_⟩
  have e:=r.length;simp only[yR]at e
  lia
theorem Inv.Nu(I:Inv X ao O H s)(h:aK X.K H a xs)(h':aK X.K H a ys):xs=ys:=by
 obtain⟨its,r,⟨o,n,e,_,_,d⟩,_⟩:=I.list h;obtain⟨its',r',⟨o',n',e',_,_,d'⟩,_⟩:=I.list h';rw[e]at e';cases e';rw[d]at d';injection d' with d1 _;have:its=its':=by simpa using congrArg Array.toList d1
 subst this;exact r.inj r'
theorem Inv.Jd(I:Inv X ao O H s)(h:aV X.K H a xs)(h':aV X.K H a ys):xs=ys:=by
 obtain⟨its,r,⟨o,e,_,n,d⟩,_⟩:=I.tuple h;obtain⟨its',r',⟨o',e',_,n',d'⟩,_⟩:=I.tuple h';rw[e]at e';cases e';rw[d]at d';injection d' with d1 _;have:its=its':=by simpa using congrArg Array.toList d1
 subst this;exact r.inj r'
end
abbrev Cx.jj(X:Cx)(E:Value->af->Prop):Cx:={X with xe:=E}
abbrev Cx.rp(X:Cx):Cx:=X.jj λ_ _=>False
theorem Cx.Ok.jj{X:Cx}(ok:X.Ok)(E:Value->af->Prop):(X.jj E).Ok:=⟨ok.mod,ok.kind,ok.glob,ok.blt,ok.above,ok.inj,ok.has,ok.qu,ok.hd,ok.frames,ok.qP,ok.xI,ok.bs,ok.ki,ok.pD,ok.mQ,ok.iG,ok.lN⟩
theorem Cx.Ok.m6{X:Cx}{E:Value->af->Prop}(ok:(X.jj E).Ok):X.Ok:=⟨ok.mod,ok.kind,ok.glob,ok.blt,ok.above,ok.inj,ok.has,ok.qu,ok.hd,ok.frames,ok.qP,ok.xI,ok.bs,ok.ki,ok.pD,ok.mQ,ok.iG,ok.lN⟩
section
variable {X:Cx}{ao:List (Addr×Obj)}{O:St}{H:Hp}{s:af}{E:Value->af->Prop}
theorem Inv.jj(I:Inv X ao O H s)(E:Value->af->Prop):Inv (X.jj E) ao O H s:=⟨I.ok.jj E,I.os,I.bare,I.az,I.loc,I.cell,I.free,I.jb,I.pin,I.bj,I.len⟩
theorem Inv.m6(I:Inv (X.jj E) ao O H s):Inv X ao O H s:=⟨I.ok.m6,I.os,I.bare,I.az,I.loc,I.cell,I.free,I.jb,I.pin,I.bj,I.len⟩
theorem SP.m6{D:Ends}{f:Flow}{s':af}(h:SP (X.jj E) ao D f s'):SP X ao D f s':=by cases f with |next=>obtain⟨σ',H',I,q⟩:=h;exact⟨σ',H',I.m6,q⟩ |brk=>obtain⟨σ',H',I,q⟩:=h;exact⟨σ',H',I.m6,q⟩ |cont=>obtain⟨σ',H',I,q⟩:=h;exact⟨σ',H',I.m6,q⟩ |ret u=>obtain⟨v,σ',H',I,r,q⟩:=h;exact⟨v,σ',H',I.m6,r,q⟩
theorem gn.rp{st:List Stmt}{t:TS}(h:gn X.rp st t):gn X st t:=λao s O H D I hw=>eJ (h ao s O H D (I.jj _) hw) (λ_ _ q=>q.m6) λ_ _ z=>False.elim z
end
section
variable {X:Cx}{st:Stmt}{rest:List Stmt}{t u:TS}{e:Expr}{te:TE}{pos:Pos}
def Ti:TS:=λD O H=>D.nx O H
def vG(t u:TS):TS:=λD O H=>t {D with nx:=u D} O H
theorem bE:gn X [] Ti:=λ_ _ O H _ I h=>Bu ⟨O,H,I,h⟩
theorem aC(h1:PS X st t)(h2:gn X rest u):gn X (st::rest) (vG t u):=by intro ao s O H D I h;refine Ih (aY (h1 ao s O H {D with nx:=u D} I h) λf s1 q=>?_);cases f with |next=>obtain⟨σ',H',I',q⟩:=q;exact h2 ao s1 σ' H' D I' q |ret v=>exact q |brk=>exact q |cont=>exact q
theorem aI(h1:PS X st t):gn X [st] t:=by intro ao s O H D I h;refine Ih (aY (h1 ao s O H D I h) λf s1 q=>?_);cases f with |next=>exact Bu q |ret v=>exact q |brk=>exact q |cont=>exact q
theorem Inv.quiet{ao:List (Addr×Obj)}{O:St}{H:Hp}{s:af}(I:Inv X ao O H s):interactive X.env=false:=by simp[interactive,I.ok.kind]
def Tv(te:TE):TS:=λD O H=>te O H λ_ H1=>D.nx O H1
theorem gu(he:PE X e te)(hs:swapsWith e none pos.line X.env=pure false:=by rfl):PS X (.Expr e pos) (Tv te):=by intro ao s O H D I h;exact wpAny_Expr_any (aY (he ao s O H _ I h) λv s1 ⟨x,H1,I1,r1,q1⟩=>⟨O,H1,I1,q1⟩) I.quiet hs
def T8(te:TE):TS:=λD O H=>te O H D.rt
theorem aR(he:PE X e te):PS X (.Return (some e) pos) (T8 te):=by intro ao s O H D I h;exact wpAny_Return_some (aY (he ao s O H _ I h) λv s1 ⟨x,H1,I1,r1,q1⟩=>⟨x,O,H1,I1,r1,q1⟩)
def Tq(c:TT)(t u:TS):TS:=λD O H=>c O H λb H1=>if b=true then t D O H1 else u D O H1
theorem bA{c:Expr}{a b:List Stmt}{tc:TT}(hc:PT X c tc)(ha:gn X a t)(hb:gn X b u):PS X (.If c a b pos) (Tq tc t u):=by intro ao s O H D I h;refine wpAny_If (aY (hc ao s O H _ I h) λd s1 ⟨H1,I1,q1⟩=>?_);cases d with |true=>exact ha ao s1 O H1 D I1 q1 |false=>exact hb ao s1 O H1 D I1 q1
def Tj:TS:=λ_ _ _=>False
theorem EO:PS X st Tj:=λ_ _ _ _ _ _ h=>h.elim
end
abbrev TG:=V->St->Hp->(St->Hp->Prop)->Prop
abbrev mZ:=List V->St->Hp->(St->Hp->Prop)->Prop
def PG(X:Cx)(target:Expr)(t:TG):Prop:=∀(ao:List (Addr×Obj))(s:af)(O:St)(H:Hp)(v:V)(u:Value)(Q:St->Hp->Prop),Inv X ao O H s->RelV v u->t v O H Q->wpAny (model X.prog X.w) X.A (assign target X.env u) (λ_ s'=>∃σ' H',Inv X ao σ' H' s'/\Q σ' H') X.xe s
def yg(X:Cx)(ts:List Expr)(t:mZ):Prop:=∀(ao:List (Addr×Obj))(s:af)(O:St)(H:Hp)(vs:List V)(us:List Value)(Q:St->Hp->Prop),Inv X ao O H s->Vals vs us->t vs O H Q->wpAny (model X.prog X.w) X.A (assignInOrder ((assignEach ts X.env).map (·.2)) us) (λ_ s'=>∃σ' H',Inv X ao σ' H' s'/\Q σ' H') X.xe s
abbrev HN:=V->V->V->Hp->(Hp->Prop)->Prop
def QR(X:Cx)(t:HN):Prop:=∀(ao:List (Addr×Obj))(s:af)(O:St)(H:Hp)(o i v:V)(ov iv u:Value)(Q:Hp->Prop),Inv X ao O H s->RelV o ov->RelV i iv->RelV v u->t o i v H Q->wpAny (model X.prog X.w) X.A (setItem ov iv u) (λ_ s'=>∃H',Inv X ao O H' s'/\Q H') X.xe s
section
variable {X:Cx} {pos:Pos}
def gk(i:Nat):TG:=λv O H Q=>Q (O.set i (some v)) H
theorem VI{i:Nat}{x:Str}(hN:X.N.Nodup)(hi:X.N[i]? =some x)(hx:Loc X.env.scope x)(hf:X.fn x=true\/X.env.scope.names.lookup x=some .local:=by first|exact .inl rfl|exact .inr rfl|assumption):PG X (.Name x pos) (gk i):=by intro ao s O H v u Q I r h;exact wpAny_assign_Name (tS I hN hi hx r (λs' I'=>⟨_,H,I',h⟩) hf)
def Gr:mZ:=λvs O H Q=>vs=[]/\Q O H
inductive a7a(t:TG)(u:mZ)(vs:List V)(O:St)(H:Hp)(Q:St->Hp->Prop):Prop |mk (v:_)(r:_)(h0:vs=v::r)(h1:t v O H λσ' H'=>u r σ' H' Q)
def xD(t:TG)(u:mZ):mZ:=λvs O H Q=>a7a t u vs O H Q
theorem cU:yg X [] Gr:=by intro ao s O H vs us Q I r h;obtain⟨e,h⟩:=h;subst e;cases r;exact assignInOrder_nil ⟨O,H,I,h⟩
theorem bN{e:Expr}{es:List Expr}{t:TG}{u:mZ}(h1:PG X e t)(h2:yg X es u) (hs:(assignEach (e::es) X.env).map (·.2)=assign e X.env::(assignEach es X.env).map (·.2):=by rfl):yg X (e::es) (xD t u):=by intro ao s O H vs us Q I r h;obtain⟨v,vr,e1,h⟩:=h;subst e1;cases r with |cons r rr=>rw[hs];refine assignInOrder_cons (aY (h1 ao s O H _ _ _ I r h) λ_ s1 ⟨σ1,H1,I1,q1⟩=>?_);exact h2 ao s1 σ1 H1 _ _ Q I1 rr q1
inductive a79(K:a8)(n:Nat)(t:mZ)(v:V)(O:St)(H:Hp)(Q:St->Hp->Prop):Prop |mk (a:_)(xs:_)(h0:v= .ref a)(h1:aV K H a xs)(h2:xs.length=n)(h3:t xs O H Q)
def AH(K:a8)(n:Nat)(t:mZ):TG:=λv O H Q=>a79 K n t v O H Q
theorem VH{es:List Expr}{k:Nat}{t:mZ}{n:Nat}(hc:X.calm=true)(h:yg X es t) (hn:(assignEach es X.env).length=n:=by rfl)(jW:(assignEach es X.env).findIdx? (·.1)=none:=by rfl):PG X (.Tuple es k pos) (AH X.K n t):=by intro ao s O H v u Q I r hw;obtain⟨a,xs,e1,hq,hl,hw⟩:=hw;subst e1;cases r;obtain⟨its,rv,ht,hz⟩:=I.tuple hq;refine assign_Tuple_tuple (I.ok.hd hc) ht (by simp[hn,<-hl,rv.length]) jW λh' hx=>?_;have I1:Inv X ao O H {s with heap:=h'}:=I.kept (t':=s.toks) λb o e=>hx b o (dW (cn e)) e;exact h ao _ O H xs _ Q I1 (by simpa using rv) hw
def a1M(to ti:TE)(t:HN):TG:=λv O H Q=>to O H λo H1=>ti O H1 λi H2=>t o i v H2 λH3=>Q O H3
theorem pk{o i:Expr}{to ti:TE}{t:HN}(ho:PE X o to)(hi:PE X i ti)(hs:QR X t) (ha:∀v,assign (.Subscript o i pos) X.env v=(do
 let ov<-holding [v] (eval o X.env)
 let iv<-holding [v,ov] (eval i X.env)
 standAt pos
 holding [v,ov,iv] (setItem ov iv v)
 release [v,ov,iv] []):=by intro _;rfl):PG X (.Subscript o i pos) (a1M to ti t):=by
 intro ao s O H v u Q I r h;rw[ha];refine aF (jI (aY (ho ao s O H _ I h) λov s1 ⟨x,H1,I1,r1,q1⟩=>?_));refine aF (jI (aY (hi ao s1 O H1 _ I1 q1) λiv s2 ⟨y,H2,I2,r2,q2⟩=>?_));refine aF (nh (aF (jI (aY (hs ao s2 O H2 x y v ov iv u _ I2 r1 r2 r q2) λ_ s3 ⟨H3,I3,q3⟩=>?_))));exact wpAny_release ⟨O,H3,I3,q3⟩
def zj(te:TE)(g:TG):TS:=λD O H=>te O H λx H1=>g x O H1 D.nx
theorem eB{tg e:Expr}{te:TE}{g:TG}(he:PE X e te)(hg:PG X tg g)(hs:swapsWithSole [tg] e pos.line X.env=pure false:=by rfl)(hw:swappedStores [tg] e X.env=pure none:=by rfl) (h1:(assignEach [tg] X.env).map (·.2)=[assign tg X.env]:=by rfl):PS X (.Assign [tg] e pos) (zj te g):=by intro ao s O H D I h;refine wpAny_Assign_stores (aY (he ao s O H _ I h) λv s1 ⟨x,H1,I1,r1,q1⟩=>?_) hs hw;rw[h1];exact aY (hg ao s1 O H1 x v _ I1 r1 q1) λ_ s2 q=>q
theorem Vv{i:Nat}{x:Str}{e:Expr}{te:TE}{pos':Pos}(hN:X.N.Nodup)(hi:X.N[i]? =some x)(hx:Loc X.env.scope x)(he:PE X e te)(hs:swapsWith e (some (.Name x pos')) pos.line X.env=pure false:=by rfl)(hf:X.fn x=true\/X.env.scope.names.lookup x=some .local:=by first|exact .inl rfl|exact .inr rfl|assumption): PS X (.Assign [.Name x pos'] e pos) (zj te (gk i)):=by intro ao s O H D I h;refine wpAny_Assign_Name (aY (he ao s O H _ I h) λv s1 ⟨y,H1,I1,r1,q1⟩=>?_) hs;exact tS I1 hN hi hx r1 (λs2 I2=>⟨_,H1,I2,q1⟩) hf
inductive a5p(i:Nat)(j:Nat)(D:Ends)(O:St)(vs:List V)(H1:Hp):Prop |mk (v:_)(w:_)(h0:vs=[v,w])(h1:D.nx ((O.set i (some v)).set j (some w)) H1)
def Tb(i j:Nat)(ta:TA):TS:=λD O H=>ta O H λvs H1=>a5p i j D O vs H1
theorem nM{i j:Nat}{x y:Str}{a b:Expr}{ta:TA}{px py pt:Pos} {kt k2 EM}(hc:X.calm=true)(hN:X.N.Nodup)(hi:X.N[i]? =some x)(hj:X.N[j]? =some y)(hij:i≠j) (hx:X.env.scope.names.lookup x=some .local)(hy:X.env.scope.names.lookup y=some .local)(ha:PA X [a,b] ta) (hw:swappedStores [.Tuple [.Name x px,.Name y py] kt pt] (.Tuple [a,b] k2 EM) X.env=pure (some [x,y])) (hs:swapsWithSole [.Tuple [.Name x px,.Name y py] kt pt] (.Tuple [a,b] k2 EM) pos.line X.env=pure false:=by rfl): PS X (.Assign [.Tuple [.Name x px,.Name y py] kt pt] (.Tuple [a,b] k2 EM) pos) (Tb i j ta):=by
 intro ao s O H D I h;rw[exec_Assign_arm];refine aF (nh ?_);rw[hs];refine aF (bH ?_);rw[bf au];refine aF (Tuple_ (aY (ha _ ao s O H _ I h) λus s1 ⟨vs,H1,I1,r1,q1⟩=>?_));obtain⟨v,w,e1,q1⟩:=q1;subst e1;obtain⟨u1,u2,rfl,rv,fO⟩:∃u1 u2,us=[u1,u2]/\RelV v u1/\RelV w u2:=by cases r1 with |cons p q=>cases q with |cons p' q'=>cases q';exact⟨_,_,Z,p,p'⟩
 refine nj ?_ (by show 2<=sizeLine;decide);have I2:Inv X ao O H1 {s1 with heap:=s1.heap.push {cls:=.type "tuple",data:=.seq [u1,u2].toArray}}:=I1.kept (t':=s1.toks) λb o e=>cw _ e;rw[hw];refine aF (bH ?_);show wpAny (model X.prog X.w) X.A (do rule "assign.swapped-stores";let items<-unpackItems (.ref s1.heap.objs.size) 2 none;assignInOrder [λv=>bindName X.env y v,λv=>bindName X.env x v] items.reverse;pure Flow.next) _ _ _;refine aF (yu (aF (unpackItems_tuple (items:=#[u1,u2]) (I.ok.hd hc) (IsTup.new s1.heap _) λh' Zo=>?_)));have I3:=I2.kept (h':=h') (t':=s1.toks) λb o e=>Zo b o (dW (cn e)) e;show wpAny _ _ (assignInOrder [λv=>bindName X.env y v,λv=>bindName X.env x v] [u2,u1]>>=λ_=>pure Flow.next) _ _ _;refine aF (assignInOrder_cons (wpAny_bindName (tS I3 hN hj (.inl hy) fO (λs2 I4=>?_) (.inr hy))));refine assignInOrder_cons (wpAny_bindName (tS I4 hN hi (.inl hx) rv (λs3 I5=>assignInOrder_nil (bH ?_)) (.inr hx)));rw[List.set_comm _ _ (jg hij)]at I5;exact⟨_,H1,I5,q1⟩
def Jk(c:TT)(tb:TS):TS:=λD O H=>∃W:Nat->St->Hp->Prop,(∃m,W m O H)/\∀m O H,W m O H->c O H λb H1=>if b=true then∃N:St->Hp->Prop,(∀σ' H',N σ' H'->∃m',m'<m/\W m' σ' H')/\tb {D with nx:=N,ct:=N,bk:=D.nx} O H1 else D.nx O H1
theorem qY{c:Expr}{body:List Stmt}{tc:TT}{tb:TS}(hp:PassesOwn (model X.prog X.w) X.A X.env X.xe)(hc:PT X c tc)(hb:gn X body tb):PS X (.While c body [] pos) (Jk tc tb):=by intro ao s O H D I h;obtain⟨W,⟨m0,w0⟩,turn⟩:=h;refine wpAny_While (codeAny_whileLoop (λn s'=>∃σ' H',Inv X ao σ' H' s'/\W n σ' H') ?_ m0 ⟨O,H,I,w0⟩);rintro n s1 ⟨σ1,H1,I1,w1⟩;refine vg hp (aY (hc ao s1 σ1 H1 _ I1 (turn n σ1 H1 w1)) λb s2 ⟨H2,I2,q2⟩=>?_);cases b with
 |true=>obtain⟨N,hN,q2⟩:=q2;rw[aX rfl];refine vg hp (aY (hb ao s2 σ1 H2 _ I2 q2) λf s3 q3=>?_);cases f with |next=>obtain⟨σ3,H3,I3,n3⟩:=q3;obtain⟨m',hm,w3⟩:=hN σ3 H3 n3;exact⟨m',hm,σ3,H3,I3,w3⟩ |cont=>obtain⟨σ3,H3,I3,n3⟩:=q3;obtain⟨m',hm,w3⟩:=hN σ3 H3 n3;exact⟨m',hm,σ3,H3,I3,w3⟩ |brk=>exact q3 |ret v=>exact q3
 |false=>rw[bf gM];exact Bu ⟨σ1,H2,I2,q2⟩
end
structure It where
 go:Nat->Hp->Prop
 iq:Nat->Hp->V->Hp->Prop
 stop:Nat->Hp->Prop
def iM(X:Cx)(ao:List (Addr×Obj))(H:Hp)(b:Addr):Prop:=H b=none/\b≠X.env.locals/\b∉X.fs/\(b∈X.ex\/X.s₀.heap.objs.size<=b)/\(∀x c,X.env.cells.lookup x=some c->c≠b)/\∀p∈X.pn++ao,p.1≠b
theorem Inv.pY{X:Cx}{ao:List (Addr×Obj)}{O:St}{H H':Hp}{s:af}{b:Addr}(I:Inv X ao O H s)(hb:s.heap.objs.size<=b)(hn:H' b=none):iM X ao H' b:=by
 refine⟨hn,yH (cY I.lt hb),I.XR hb,.inr (eL I.sz hb),λx c e z=>?_,λp hp z=>?_⟩
 ·obtain⟨v,q⟩:=I.cell x c e
  exact absurd (cY q.lt (by rw[z];exact hb)) (vo _)
 ·exact absurd (cY (cn (I.pin p hp).1) (by rw[z];exact hb)) (vo _)
structure Turn(P:ag)(w:World)(K:a8)(tg:Expr)(J:It)(fp:List Addr)(it:Addr)(tn:Nat->Heap->Prop):Prop where
 mem:it∈fp
 obj:∀i h,tn i h->∀b∈fp,∃o,h.get? b=some o/\∀v,o.data≠ .cell v
 keep:∀i h h',tn i h->(∀b∈fp,∀o,h.get? b=some o->h'.get? b=some o)->tn i h'
 item:∀(X:Cx),X.prog=P->X.w=w->X.K=K->X.calm=true->∀(i:Nat)(ao:List (Addr×Obj))(s:af)(O:St)(H:Hp)(E:Value->af->Prop),Inv X ao O H s->(∀b∈fp,iM X ao H b)->tn i s.heap->J.go i H->wpAny (model P w) X.A (pyNext (.ref it)) (λr s1=>∃u,r=some u/\wpAny (model P w) X.A (letOwnedTupleGo tg (.ref it) u) (λ_ s2=>∃x H',Inv X ao O H' s2/\RelV x u/\J.iq i H x H'/\tn (i+1) s2.heap/\∀b∈fp,H' b=none) E s1) E s
 done:∀(X:Cx),X.prog=P->X.w=w->X.K=K->X.calm=true->∀(i:Nat)(ao:List (Addr×Obj))(s:af)(O:St)(H:Hp)(E:Value->af->Prop),Inv X ao O H s->(∀b∈fp,iM X ao H b)->tn i s.heap->J.stop i H->wpAny (model P w) X.A (pyNext (.ref it)) (λr s1=>r=none/\Inv X ao O H s1) E s
 self:∀(A:ai)(i:Nat)(s:af)(Q:Value->af->Prop)(E:Value->af->Prop),tn i s.heap->Q (.ref it) s->wpAny (model P w) A (pyIter (.ref it)) Q E s
abbrev TI:=St->Hp->(It->Hp->Prop)->Prop
def HU(X:Cx)(ao:List (Addr×Obj))(O:St)(tg:Expr)(R:It->Hp->Prop)(wU:Value)(s2:af):Prop:=∃(it:Addr)(fp:List Addr)(tn:Nat->Heap->Prop)(J:It)(H':Hp),wU= .ref it/\Inv X ao O H' s2/\Turn X.prog X.w X.K tg J fp it tn/\tn 0 s2.heap/\(∀b∈fp,iM X ao H' b)/\R J H'
def PI(X:Cx)(tg iter:Expr)(wi:TI):Prop:=∀(ao:List (Addr×Obj))(s:af)(O:St)(H:Hp)(R:It->Hp->Prop),Inv X ao O H s->wi O H R->wpAny (model X.prog X.w) X.A (eval iter X.env) (λv s1=>wpAny (model X.prog X.w) X.A (pyIter v) (HU X ao O tg R) X.xe s1) X.xe s
theorem xC{M:Model}{A:ai}{E:Value->af->Prop}{s:af}{tg:Expr}{it:Addr}{u:Value}{o:Obj}{n:String}{vs:Array Value}{Q:Unit->af->Prop}(ho:s.heap.get? it=some o)(hc:o.cls= .type n)(hd:o.data= .fields vs) (hn:["enumerate","zip","dict_itemiterator","dict_reverseitemiterator","odict_iterator","itertools.zip_longest","itertools.pairwise"].contains n=false)(hQ:Q () s):wpAny M A (letOwnedTupleGo tg (.ref it) u) Q E s:=by unfold letOwnedTupleGo;cases tg<;>first |exact bH hQ |(cases u<;>first
        |exact bH hQ
        | (refine aF (wpAny_load ho ?_)
           rw[hc,hd];show wpAny M A (if(["enumerate","zip","dict_itemiterator","dict_reverseitemiterator","odict_iterator","itertools.zip_longest","itertools.pairwise"].contains n&&vs[0]? ==some (rawInt _))=true then _ else _) Q E s;rw[bf (by intro h;rw[hn,ji]at h;cases h)];exact bH hQ))
def qA(K:a8)(a:Addr):It:=⟨λi H=>∃xs x,aK K H a xs/\xs[i]? =some x,λi H x H'=>H'=H/\∀xs,aK K H a xs->xs[i]? =some x,λi H=>∃xs,aK K H a xs/\xs.length<=i⟩
def qz(K:a8)(a:Addr):It:=⟨λi H=>∃xs x,aV K H a xs/\xs[i]? =some x,λi H x H'=>H'=H/\∀xs,aV K H a xs->xs[i]? =some x,λi H=>∃xs,aV K H a xs/\xs.length<=i⟩
def ng(lo:Int)(n:Nat):It:=⟨λi _=>i<n,λi H x H'=>H'=H/\x= .int (lo+i),λi _=>n<=i⟩
theorem SH{P:ag}{w:World}{K:a8}{tg:Expr}(a it:Addr):Turn P w K tg (qA K a) [it] it (λi h=>h.IsListIter it a i) where
 mem:=by simp
 obj:=λi h st b hb=>by
  have e:b=it:=by simpa using hb
  subst e;obtain⟨o,e,c,d⟩:=st;exact⟨o,e,λv z=>by rw[d]at z;cases z⟩
 keep:=λi h h' st k=>st.at λo e=>k it (by simp) o e
 item:=by intro X hP hw hK hc i ao s O H E I hf st hg;subst hP hw hK;obtain⟨xs,x,hq,hx⟩:=hg;obtain⟨its,rv,p,hz⟩:=I.list hq;obtain⟨u,hu,ru⟩:=rv.get hx;obtain⟨f0,f1,f2,f3,f4,f5⟩:=hf it (by simp);refine wpAny_pyNext_list_item st p.isList (x:=u) (by simpa using hu) λh' gO sb=>?_;have I1:Inv X ao O H {s with heap:=h'}:=I.turned (t':=s.toks) (λb o hb e=>(sb.2 b hb).trans e) f0 f1 f3 f4 f5;obtain⟨o,e,c,d⟩:=id gO;exact⟨u,Z,xC (s:={s with heap:=h'}) e c d au ⟨x,H,I1,ru,⟨Z,λys hy=>by rw[I.Nu hy hq];exact hx⟩,gO,λb hb=>(hf b hb).1⟩⟩
 done:=by intro X hP hw hK hc i ao s O H E I hf st hg;subst hP hw hK;obtain⟨xs,hq,hx⟩:=hg;obtain⟨its,rv,p,hz⟩:=I.list hq;obtain⟨f0,f1,f2,f3,f4,f5⟩:=hf it (by simp);have hl:=rv.length;exact wpAny_pyNext_list_end (I.ok.hd hc) st p.isList (by simp;lia) λh' eb=>⟨Z,I.turned (t':=s.toks) (λb o hb e=>eb b o hb e) f0 f1 f3 f4 f5⟩
 self:=λ_ _ _ _ _ st h=>wpAny_pyIter_listiter st h
theorem Sz{P:ag}{w:World}{K:a8}{tg:Expr}(a it:Addr):Turn P w K tg (qz K a) [it] it (λi h=>h.IsTupleIter it a i) where
 mem:=by simp
 obj:=λi h st b hb=>by
  have e:b=it:=by simpa using hb
  subst e;obtain⟨o,e,c,d⟩:=st;exact⟨o,e,λv z=>by rw[d]at z;cases z⟩
 keep:=λi h h' st k=>st.at λo e=>k it (by simp) o e
 item:=by intro X hP hw hK hc i ao s O H E I hf st hg;subst hP hw hK;obtain⟨xs,x,hq,hx⟩:=hg;obtain⟨its,rv,p,hz⟩:=I.tuple hq;obtain⟨u,hu,ru⟩:=rv.get hx;obtain⟨f0,f1,f2,f3,f4,f5⟩:=hf it (by simp);refine wpAny_pyNext_tuple_item st (show s.heap.IsTuple a its.toArray from p) (x:=u) (by simpa using hu) λh' gO sb=>?_;have I1:Inv X ao O H {s with heap:=h'}:=I.turned (t':=s.toks) (λb o hb e=>(sb.2 b hb).trans e) f0 f1 f3 f4 f5;obtain⟨o,e,c,d⟩:=id gO;exact⟨u,Z,xC (s:={s with heap:=h'}) e c d au ⟨x,H,I1,ru,⟨Z,λys hy=>by rw[I.Jd hy hq];exact hx⟩,gO,λb hb=>(hf b hb).1⟩⟩
 done:=by intro X hP hw hK hc i ao s O H E I hf st hg;subst hP hw hK;obtain⟨xs,hq,hx⟩:=hg;obtain⟨its,rv,p,hz⟩:=I.tuple hq;obtain⟨f0,f1,f2,f3,f4,f5⟩:=hf it (by simp);have hl:=rv.length;exact wpAny_pyNext_tuple_end (I.ok.hd hc) st (show s.heap.IsTuple a its.toArray from p) (by simp;lia) λh' eb=>⟨Z,I.turned (t':=s.toks) (λb o hb e=>eb b o hb e) f0 f1 f3 f4 f5⟩
 self:=λ_ _ _ _ _ st h=>wpAny_pyIter_tupleiter st h
theorem SG{P:ag}{w:World}{K:a8}{tg:Expr}(it:Addr)(lo:Int)(n:Nat):Turn P w K tg (ng lo n) [it] it (λi h=>IsRangeIter h it (lo+(i:Nat)*1) ((n:Int)-(i:Nat)) 1) where
 mem:=by simp
 obj:=λi h st b hb=>by
  have e:b=it:=by simpa using hb
  subst e;exact⟨_,st,λv z=>by have z':Data.fields _=Data.cell v:=z;cases z'⟩
 keep:=λi h h' st k=>k it (by simp) _ st
 item:=by intro X hP hw hK hc i ao s O H E I hf st hg;subst hP hw hK;obtain⟨f0,f1,f2,f3,f4,f5⟩:=hf it (by simp);have W:=Walks.range (prog:=X.prog) (w:=X.w) (I.ok.hd hc) it lo 1 n;refine W.item i s _ _ hg st λv h' tk hv gO kk=>?_;obtain⟨t,rfl⟩:=hv;have I1:Inv X ao O H {s with heap:=h',toks:=tk}:=I.turned (λb o hb e=>kk b o (by simpa using hb) e) f0 f1 f3 f4 f5;refine⟨_,Z,xC (s:={s with heap:=h',toks:=tk}) (n:="range_iterator") gO rfl rfl au ⟨.int (lo+i),H,I1,⟨t,?_⟩,⟨Z,Z⟩,gO,λb hb=>(hf b hb).1⟩⟩;rw[Int.mul_one]
 done:=by intro X hP hw hK hc i ao s O H E I hf st hg;subst hP hw hK;obtain⟨f0,f1,f2,f3,f4,f5⟩:=hf it (by simp);exact wpAny_pyNext_range_end (I.ok.hd hc) st (by have:n<=i:=hg;lia) λh' eb=>⟨Z,I.turned (t':=s.toks) (λb o hb e=>eb b o hb e) f0 f1 f3 f4 f5⟩
 self:=λ_ _ _ _ _ st h=>Rp st h
section
variable {X:Cx} {tg:Expr}
inductive a77(K:a8)(R:It->Hp->Prop)(x:V)(H1:Hp):Prop |mk (a:_)(h0:x= .ref a)(h1:(∃xs,aK K H1 a xs))(h2:R (qA K a) H1)
def NU(K:a8)(tl:TE):TI:=λO H R=>tl O H λx H1=>a77 K R x H1
inductive a72(K:a8)(R:It->Hp->Prop)(x:V)(H1:Hp):Prop |mk (a:_)(h0:x= .ref a)(h1:(∃xs,aV K H1 a xs))(h2:R (qz K a) H1)
def NT(K:a8)(tl:TE):TI:=λO H R=>tl O H λx H1=>a72 K R x H1
theorem VG{l:Expr}{tl:TE}(hl:PE X l tl):PI X tg l (NU X.K tl):=by
 intro ao s O H R I h;refine aY (hl ao s O H _ I h) λv s1 ⟨x,H1,I1,r1,q1⟩=>?_;obtain⟨a,e,⟨xs,hq⟩,q⟩:=q1;subst e;cases r1;obtain⟨its,rv,p,hz⟩:=I1.list hq;refine Bs p.isList ?_;refine⟨s1.heap.objs.size,[s1.heap.objs.size],_,_,H1,Z,I1.kept (t':=s1.toks) λb o e=>cw _ e,SH a _,⟨_,eu _ Z,Z,Z⟩,λb hb=>?_,q⟩;have e:b=s1.heap.objs.size:=by simpa using hb
 subst e;exact I1.pY (bw _) (I1.bj.fresh (bw _))
theorem VD{l:Expr}{tl:TE}(hl:PE X l tl):PI X tg l (NT X.K tl):=by
 intro ao s O H R I h;refine aY (hl ao s O H _ I h) λv s1 ⟨x,H1,I1,r1,q1⟩=>?_;obtain⟨a,e,⟨xs,hq⟩,q⟩:=q1;subst e;cases r1;obtain⟨its,rv,p,hz⟩:=I1.tuple hq;refine wpAny_pyIter_tuple (show s1.heap.IsTuple a its.toArray from p) ?_;refine⟨s1.heap.objs.size,[s1.heap.objs.size],_,_,H1,Z,I1.kept (t':=s1.toks) λb o e=>cw _ e,Sz a _,⟨_,eu _ Z,Z,Z⟩,λb hb=>?_,q⟩;have e:b=s1.heap.objs.size:=by simpa using hb
 subst e;exact I1.pY (bw _) (I1.bj.fresh (bw _))
theorem Mf{ao:List (Addr×Obj)}{O:St}{H:Hp}{s:af}{R:It->Hp->Prop}{E:Value->af->Prop}{lo hi:Int}{t u v:Tok}{tk:Nat}(I:Inv X ao O H s)(h1:-(2^62)<=lo)(h2:lo<2^62)(h3:-(2^62)<=hi)(h4:hi<2^62) (q:R (ng lo (hi-lo).toNat) H):wpAny (model X.prog X.w) X.A (pyIter (.ref s.heap.objs.size)) (HU X ao O tg R) E {s with heap:=s.heap.push {cls:=.type "range",data:=.fields #[.int lo t,.int hi u,.int 1 v]},toks:=tk}:=by
 refine wpAny_pyIter_range (IsRange.new ..) (small_one h1 h2 h3 h4) ?_;have I1:Inv X ao O H {s with heap:=s.heap.push {cls:=.type "range",data:=.fields #[.int lo t,.int hi u,.int 1 v]},toks:=tk}:=I.kept λb o e=>cw _ e;refine⟨(s.heap.push {cls:=.type "range",data:=.fields #[.int lo t,.int hi u,.int 1 v]}).objs.size,[(s.heap.push {cls:=.type "range",data:=.fields #[.int lo t,.int hi u,.int 1 v]}).objs.size],_,_,H,Z,I1.kept (t':=tk) λb o e=>cw _ e,SG _ lo (hi-lo).toNat,?_,λb hb=>?_,q⟩
 ·have e1:lo+((0:Nat):Int)*1=lo:=by simp
  have e2:(((hi-lo).toNat:Nat):Int)-((0:Nat):Int)=Builtin.Range.rangeSize lo hi 1:=by rw[rangeSize_one];split<;>lia
  show IsRangeIter _ _ (lo+((0:Nat):Int)*1) ((((hi-lo).toNat:Nat):Int)-((0:Nat):Int)) 1;rw[e1,e2];exact eu _ rfl
 ·have e:b=(s.heap.push {cls:=.type "range",data:=.fields #[.int lo t,.int hi u,.int 1 v]}).objs.size:=by simpa using hb
  subst e;exact I1.pY (bw _) (I1.bj.fresh (bw _))
inductive a75(R:It->Hp->Prop)(vs:List V)(H1:Hp):Prop |mk (j:Int)(h0:vs=[.int j])(h1:-(2^62)<=j)(h2:j<2^62)(h3:R (ng 0 j.toNat) H1)
def Zh(ta:TA):TI:=λO H R=>ta O H λvs H1=>a75 R vs H1
inductive a74(R:It->Hp->Prop)(vs:List V)(H1:Hp):Prop |mk (i:Int)(j:Int)(h0:vs=[.int i,.int j])(h1:(-(2^62)<=i/\i<2^62/\-(2^62)<=j/\j<2^62))(h2:R (ng i (j-i).toNat) H1)
def Zg(ta:TA):TI:=λO H R=>ta O H λvs H1=>a74 R vs H1
theorem nQ{a:Expr}{ta:TA}{p pos:Pos}(hg:Gl X "range")(hm:X.mg "range"=none)(ha:PA X [a] ta)(hs:starEach [a] X.env=[(false,eval a X.env)]:=by rfl):PI X tg (.Call (.Name "range" p) [a] [] pos) (Zh ta):=by intro ao s O H R I h;refine Call_ (pI I hg hm boot_range (yC (aY (ha pos ao s O H _ I h) λus s1 ⟨vs,H1,I1,r1,q1⟩=>?_) hs Z));obtain⟨j,e,q1,q2,q⟩:=q1;subst e;cases r1 with |cons r rr=>cases rr;obtain⟨t,rfl⟩:=r;exact call_range_1 (Mf I1 aq aq q1 q2 (by simpa using q))
theorem ET{a b:Expr}{ta:TA}{p pos:Pos}(hg:Gl X "range")(hm:X.mg "range"=none)(ha:PA X [a,b] ta)(hs:starEach [a,b] X.env=[(false,eval a X.env),(false,eval b X.env)]:=by rfl)(j4:starEach [b] X.env=[(false,eval b X.env)]:=by rfl): PI X tg (.Call (.Name "range" p) [a,b] [] pos) (Zg ta):=by intro ao s O H R I h;refine Call_ (pI I hg hm boot_range (yC (aY (ha pos ao s O H _ I h) λus s1 ⟨vs,H1,I1,r1,q1⟩=>?_) (by rw[hs,j4]) (by rw[j4];rfl)));obtain⟨i,j,e,⟨q1,q2,q3,q4⟩,q⟩:=q1;subst e;cases r1 with |cons r rr=>cases rr with |cons r' rr=>cases rr;obtain⟨t,rfl⟩:=r;obtain⟨t',rfl⟩:=r';exact call_range_2 (Mf I1 q1 q2 q3 q4 q)
def Ts(wi:TI)(g:TG)(tb:TS):TS:=λD O H=>wi O H λJ H1=>∃W:Nat->Nat->St->Hp->Prop,(∃m,W 0 m O H1)/\∀i m O H,W i m O H->(J.stop i H/\D.nx O H)\/(J.go i H/\∃N:St->Hp->Prop,(∀σ' H',N σ' H'->∃m',m'<m/\W (i+1) m' σ' H')/\∀x H',J.iq i H x H'->g x O H' λσ2 H2=>tb {D with nx:=N,ct:=N,bk:=D.nx} σ2 H2)
def nO(fp:List Addr)(h:Heap):List (Addr×Obj):=fp.filterMap λb=>(h.get? b).map λo=>(b,o)
theorem mx{fp:List Addr}{h:Heap}{b:Addr}{o:Obj}(hb:b∈fp)(e:h.get? b=some o):(b,o)∈nO fp h:=vq.mpr ⟨b,hb,by rw[e];rfl⟩
theorem XE{fp:List Addr}{h:Heap}{p:Addr×Obj}(hp:p∈nO fp h):p.1∈fp/\h.get? p.1=some p.2:=by obtain⟨b,hb,e⟩:=vq.mp hp;cases q:h.get? b with |none=>rw[q]at e;cases e |some o=>rw[q]at e;have e':(b,o)=p:=dU e;subst e';exact⟨hb,q⟩
theorem Inv.pinned{ao:List (Addr×Obj)}{O:St}{H:Hp}{s:af}{fp:List Addr}(I:Inv X ao O H s)(hf:∀b∈fp,iM X ao H b)(ho:∀b∈fp,∃o,s.heap.get? b=some o/\∀v,o.data≠ .cell v):Inv X (ao++nO fp s.heap) O H s:=I.Ms λp hp=>(gL.mp hp).elim (λz=>I.pin p (gr _ z)) λz=>by obtain⟨hb,e⟩:=XE z;obtain⟨f0,f1,f2,_⟩:=hf p.1 hb;obtain⟨o,e',d⟩:=ho p.1 hb;rw[e]at e';cases e';exact⟨e,f0,f1,f2,d⟩
theorem Inv.qN{ao pl:List (Addr×Obj)}{O:St}{H:Hp}{s:af}(I:Inv X (ao++pl) O H s):Inv X ao O H s:=I.Ms λp hp=>I.pin p (gr _ (RS _ hp))
theorem fR{iter:Expr}{body:List Stmt}{wi:TI}{g:TG}{tb:TS}{pos:Pos}(hp:PassesOwn (model X.prog X.w) X.A X.env X.xe)(hc:X.calm=true)(hi:PI X tg iter wi)(hg:PG X tg g)(hb:gn X body tb) (hs:∀x,foldedSetIterable iter X.env x=pure x:=by intro _;rfl):PS X (.For tg iter body [] pos) (Ts wi g tb):=by
 intro ao s O H D I h;refine wpAny_For (aY (hi ao s O H _ I h) λv s1 h1=>aY h1 λwU s2 h2=>?_) hs;obtain⟨it,fp,tn,J,H2,e,I2,T,md,f2,W,⟨m0,w0⟩,turn⟩:=h2;subst e;have iR:∀{H':Hp},(∀b∈fp,H' b=none)->∀b∈fp,iM X ao H' b:=λhn b hb=>⟨hn b hb,(f2 b hb).2⟩;refine codeAny_forLoop_any (λn s'=>∃i σ' H',Inv X ao σ' H' s'/\tn i s'.heap/\(∀b∈fp,H' b=none)/\W i n σ' H') ?_ m0 ⟨0,O,H2,I2,md,λb hb=>(f2 b hb).1,w0⟩;rintro n s3 ⟨i,σ3,H3,I3,JC,OK,w3⟩;rcases turn i n σ3 H3 w3 with⟨stop,qn⟩|⟨go,N,hN,step⟩
 ·refine vg hp (aY (T.done X Z Z Z hc i ao s3 σ3 H3 X.xe I3 (iR OK) JC stop) λr s4 ⟨hr,I4⟩=>?_)
  subst hr;exact Bu ⟨σ3,H3,I4,qn⟩
 ·refine vg hp (aY (T.item X Z Z Z hc i ao s3 σ3 H3 X.xe I3 (iR OK) JC go) λr s4 ⟨u,hr,h4⟩=>?_)
  subst hr;refine vg hp (aY h4 λ_ s5 ⟨x,H5,I5,r5,y5,ky,mP⟩=>?_);have I5':=I5.pinned (iR mP) (T.obj _ _ ky);refine vg hp (aY (hg _ s5 σ3 H5 x u _ I5' r5 (step x H5 y5)) λ_ s6 ⟨σ6,H6,I6,q6⟩=>?_);refine vg hp (aY (hb _ s6 σ6 H6 _ I6 q6) λf s7 q7=>?_);have again:∀{σ7:St}{H7:Hp},Inv X (ao++nO fp s5.heap) σ7 H7 s7->N σ7 H7->∃m,m<n/\∃i σ' H',Inv X ao σ' H' s7/\tn i s7.heap/\(∀b∈fp,H' b=none)/\W i m σ' H':=λ{σ7 H7} I7 n7=>by obtain⟨m',hm,w7⟩:=hN σ7 H7 n7;refine⟨m',hm,i+1,σ7,H7,I7.qN,T.keep _ _ _ ky λb hb o e=>(I7.pin (b,o) (gr _ (gr _ (mx hb e)))).1,λb hb=>?_,w7⟩;obtain⟨o,e,d⟩:=T.obj _ _ ky b hb;exact(I7.pin (b,o) (gr _ (gr _ (mx hb e)))).2.1
  cases f with |next=>obtain⟨σ7,H7,I7,n7⟩:=q7;exact again I7 n7 |cont=>obtain⟨σ7,H7,I7,n7⟩:=q7;exact again I7 n7 |brk=>obtain⟨σ7,H7,I7,q7⟩:=q7;exact⟨σ7,H7,I7.qN,q7⟩ |ret v=>obtain⟨x7,σ7,H7,I7,r7,q7⟩:=q7;exact⟨x7,σ7,H7,I7.qN,r7,q7⟩
end
theorem Gx{K:a8}{a:Addr}{xs:List V}{g:TG}{tb:TS}{D:Ends}{O:St}{H:Hp}(Pv:Nat->St->Hp->Prop)(h0:Pv 0 O H)(hl:∀i O H,i<=xs.length->Pv i O H->aK K H a xs) (hs:∀i x O H,xs[i]? =some x->Pv i O H->g x O H λσ2 H2=>tb {D with nx:=Pv (i+1),ct:=Pv (i+1),bk:=D.nx} σ2 H2)(hd:∀O H,Pv xs.length O H->D.nx O H): ∃W:Nat->Nat->St->Hp->Prop,(∃m,W 0 m O H)/\∀i m O H,W i m O H->((qA K a).stop i H/\D.nx O H)\/((qA K a).go i H/\∃N:St->Hp->Prop,(∀σ' H',N σ' H'->∃m',m'<m/\W (i+1) m' σ' H')/\∀x H',(qA K a).iq i H x H'->g x O H' λσ2 H2=>tb {D with nx:=N,ct:=N,bk:=D.nx} σ2 H2):=by
 refine⟨λi m O H=>m=xs.length-i/\i<=xs.length/\Pv i O H,⟨xs.length,by simp,eK _,h0⟩,?_⟩;rintro i m O H ⟨rfl,hi,p⟩;have q:=hl i O H hi p;by_cases bQ:i<xs.length
 ·refine .inr ⟨⟨xs,xs[i],q,by simp[bQ]⟩,Pv (i+1),λσ' H' p'=>⟨xs.length-(i+1),aq,Z,bQ,p'⟩,λx H' y=>?_⟩
  obtain⟨e,y⟩:=y;subst e;exact hs i x O _ (y xs q) p
 ·have e:i=xs.length:=by lia
  subst e;exact .inl ⟨⟨xs,q,bw _⟩,hd O H p⟩
theorem ON{K:a8}{a:Addr}{xs:List V}{g:TG}{tb:TS}{D:Ends}{O:St}{H:Hp}(Pv:Nat->St->Hp->Prop)(h0:Pv 0 O H)(hl:∀i O H,i<=xs.length->Pv i O H->aV K H a xs) (hs:∀i x O H,xs[i]? =some x->Pv i O H->g x O H λσ2 H2=>tb {D with nx:=Pv (i+1),ct:=Pv (i+1),bk:=D.nx} σ2 H2)(hd:∀O H,Pv xs.length O H->D.nx O H): ∃W:Nat->Nat->St->Hp->Prop,(∃m,W 0 m O H)/\∀i m O H,W i m O H->((qz K a).stop i H/\D.nx O H)\/((qz K a).go i H/\∃N:St->Hp->Prop,(∀σ' H',N σ' H'->∃m',m'<m/\W (i+1) m' σ' H')/\∀x H',(qz K a).iq i H x H'->g x O H' λσ2 H2=>tb {D with nx:=N,ct:=N,bk:=D.nx} σ2 H2):=by
 refine⟨λi m O H=>m=xs.length-i/\i<=xs.length/\Pv i O H,⟨xs.length,by simp,eK _,h0⟩,?_⟩;rintro i m O H ⟨rfl,hi,p⟩;have q:=hl i O H hi p;by_cases bQ:i<xs.length
 ·refine .inr ⟨⟨xs,xs[i],q,by simp[bQ]⟩,Pv (i+1),λσ' H' p'=>⟨xs.length-(i+1),aH,Z,bQ,p'⟩,λx H' y=>?_⟩
  obtain⟨e,y⟩:=y;subst e;exact hs i x O _ (y xs q) p
 ·have e:i=xs.length:=by omega
  subst e;exact .inl ⟨⟨xs,q,bw _⟩,hd O H p⟩
theorem pZ{lo:Int}{n:Nat}{g:TG}{tb:TS}{D:Ends}{O:St}{H:Hp}(Pv:Nat->St->Hp->Prop)(h0:Pv 0 O H) (hs:∀i O H,i<n->Pv i O H->g (.int (lo+i)) O H λσ2 H2=>tb {D with nx:=Pv (i+1),ct:=Pv (i+1),bk:=D.nx} σ2 H2)(hd:∀O H,Pv n O H->D.nx O H): ∃W:Nat->Nat->St->Hp->Prop,(∃m,W 0 m O H)/\∀i m O H,W i m O H->((ng lo n).stop i H/\D.nx O H)\/((ng lo n).go i H/\∃N:St->Hp->Prop,(∀σ' H',N σ' H'->∃m',m'<m/\W (i+1) m' σ' H')/\∀x H',(ng lo n).iq i H x H'->g x O H' λσ2 H2=>tb {D with nx:=N,ct:=N,bk:=D.nx} σ2 H2):=by
 refine⟨λi m O H=>m=n-i/\i<=n/\Pv i O H,⟨n,by simp,eK _,h0⟩,?_⟩;rintro i m O H ⟨rfl,hi,p⟩;by_cases bQ:i<n
 ·refine .inr ⟨bQ,Pv (i+1),λσ' H' p'=>⟨n-(i+1),aq,Z,bQ,p'⟩,λx H' y=>?_⟩
  obtain⟨e,y⟩:=y;subst e y;exact hs i O _ bQ p
 ·have e:i=n:=by lia
  subst e;exact .inl ⟨bw _,hd O H p⟩
theorem qM{c:TT}{tb:TS}{D:Ends}{O:St}{H:Hp}(Pv:St->Hp->Prop)(μ:St->Hp->Nat)(h0:Pv O H) (hs:∀O H,Pv O H->c O H λb H1=>if b=true then tb {D with nx:=λσ' H'=>Pv σ' H'/\μ σ' H'<μ O H,ct:=λσ' H'=>Pv σ' H'/\μ σ' H'<μ O H,bk:=D.nx} O H1 else D.nx O H1) (mono:∀O H Q Q',(∀b H1,Q b H1->Q' b H1)->c O H Q->c O H Q'):Jk c tb D O H:=by refine⟨λm O H=>m=μ O H/\Pv O H,⟨_,Z,h0⟩,?_⟩;rintro m O H ⟨rfl,p⟩;refine mono O H _ _ (λb H1 q=>?_) (hs O H p);cases b with |true=>exact⟨_,λσ' H' ⟨p',l⟩=>⟨_,l,Z,p'⟩,q⟩ |false=>exact q
abbrev R2:=V->V->Hp->VK->Prop
def cP(X:Cx)(f:Value->Value->Sem Value)(r:R2):Prop:=∀(ao:List (Addr×Obj))(s:af)(O:St)(H:Hp)(x y:V)(v u:Value)(Q:VK),Inv X ao O H s->RelV x v->RelV y u->r x y H Q->wpAny (model X.prog X.w) X.A (f v u) (EP X ao O Q) X.xe s
def HK(X:Cx)(f:Value->Sem Value)(r:V->Hp->VK->Prop):Prop:=∀(ao:List (Addr×Obj))(s:af)(O:St)(H:Hp)(x:V)(v:Value)(Q:VK),Inv X ao O H s->RelV x v->r x H Q->wpAny (model X.prog X.w) X.A (f v) (EP X ao O Q) X.xe s
def eH(X:Cx)(f:Value)(r:List V->Hp->VK->Prop):Prop:=∀(ao:List (Addr×Obj))(s:af)(O:St)(H:Hp)(xs:List V)(us:List Value)(Q:VK),Inv X ao O H s->Vals xs us->r xs H Q->wpAny (model X.prog X.w) X.A (call f us) (EP X ao O Q) X.xe s
def a5a(X:Cx)(r:V->Hp->(Bool->Hp->Prop)->Prop):Prop:=∀(ao:List (Addr×Obj))(s:af)(O:St)(H:Hp)(x:V)(v:Value)(Q:Bool->Hp->Prop),Inv X ao O H s->RelV x v->r x H Q->wpAny (model X.prog X.w) X.A (truthy v) (TP X ao O Q) X.xe s
def vH(r:R2)(ta tb:TE):TE:=λO H Q=>ta O H λx H1=>tb O H1 λy H2=>r x y H2 Q
def SX(r:V->Hp->VK->Prop)(ta:TE):TE:=λO H Q=>ta O H λx H1=>r x H1 Q
inductive IrI(C:Int->Int->Prop)(g:Int->Int->V)(x:V)(y:V)(H:Hp)(Q:VK):Prop |mk (i:_)(j:_)(h0:x= .int i)(h1:y= .int j)(h2:C i j)(h3:Q (g i j) H)
def rI(C:Int->Int->Prop)(g:Int->Int->V):R2:=λx y H Q=>IrI C g x y H Q
inductive a6T(g:Int->Int->V)(x:V)(y:V)(H:Hp)(Q:VK):Prop |mk (i:_)(j:_)(h0:x= .int i)(h1:y= .int j)(h2:Q (g i j) H)
def jr(g:Int->Int->V):R2:=λx y H Q=>a6T g x y H Q
inductive IrU(g:Int->V)(x:V)(H:Hp)(Q:VK):Prop |mk (i:_)(h0:x= .int i)(h1:Q (g i) H)
def rU(g:Int->V):V->Hp->VK->Prop:=λx H Q=>IrU g x H Q
section
variable {X:Cx}{a b c:Expr}{ta tb tc:TE}{pos:Pos}
theorem Hu(ha:PE X a ta)(hb:PE X b tb){ao:List (Addr×Obj)}{s:af}{O:St}{H:Hp}{R:V->V->Hp->Prop}(I:Inv X ao O H s) (h:ta O H λx H1=>tb O H1 λy H2=>R x y H2){Q:Value->af->Prop}{f:Value->Value->Sem Value} (hf:∀v u s2 x y H2,Inv X ao O H2 s2->RelV x v->RelV y u->R x y H2->wpAny (model X.prog X.w) X.A (f v u) Q X.xe s2): wpAny (model X.prog X.w) X.A (eval a X.env) (λv s₁=>wpAny (model X.prog X.w) X.A (eval b X.env) (λu s₂=>wpAny (model X.prog X.w) X.A (f v u) Q X.xe s₂) X.xe s₁) X.xe s:=by refine aY (ha ao s O H _ I h) λv s1 ⟨x,H1,I1,r1,q1⟩=>?_;refine aY (hb ao s1 O H1 _ I1 q1) λu s2 ⟨y,H2,I2,r2,q2⟩=>?_;exact hf v u s2 x y H2 I2 r1 r2 q2
theorem aG{op:Operator}{r:R2}(ho:cP X (binaryOp op) r)(ha:PE X a ta)(hb:PE X b tb):PE X (.BinOp a op b pos) (vH r ta tb):=by intro ao s O H Q I h;exact wpAny_BinOp (Hu ha hb I h λv u s2 x y H2 I2 rx ry q=>ho ao s2 O H2 x y v u Q I2 rx ry q)
theorem iX{op:UnaryOp}{r:V->Hp->VK->Prop}(ho:HK X (unaryOp op) r)(ha:PE X a ta):PE X (.UnaryOp op a pos) (SX r ta):=by intro ao s O H Q I h;exact UnaryOp_ (aY (ha ao s O H _ I h) λv s1 ⟨x,H1,I1,r1,q1⟩=>ho ao s1 O H1 x v Q I1 r1 q1)
theorem wo{f:Value->Value->Sem Value}{C:Int->Int->Prop}{g:Int->Int->Int} (rule:∀(i j:Int)(t u:Tok)(s:af)(Q:Value->af->Prop)(E:Value->af->Prop),C i j->Q (.int (g i j) s.toks) {s with toks:=s.toks+1}->wpAny (model X.prog X.w) X.A (f (.int i t) (.int j u)) Q E s): cP X f (rI C λi j=>.int (g i j)):=by intro ao s O H x y v u Q I rx ry h;obtain⟨i,j,rfl,rfl,hc,q⟩:=h;obtain⟨t,rfl⟩:=rx;obtain⟨t',rfl⟩:=ry;exact rule i j t t' s _ _ hc ⟨.int (g i j),H,I.tok _,⟨_,Z⟩,q⟩
theorem MF{f:Value->Value->Sem Value}{g:Int->Int->Int} (rule:∀(i j:Int)(t u:Tok)(s:af)(Q:Value->af->Prop)(E:Value->af->Prop),Q (.int (g i j) s.toks) {s with toks:=s.toks+1}->wpAny (model X.prog X.w) X.A (f (.int i t) (.int j u)) Q E s): cP X f (jr λi j=>.int (g i j)):=by intro ao s O H x y v u Q I rx ry h;obtain⟨i,j,rfl,rfl,q⟩:=h;obtain⟨t,rfl⟩:=rx;obtain⟨t',rfl⟩:=ry;exact rule i j t t' s _ _ ⟨.int (g i j),H,I.tok _,⟨_,Z⟩,q⟩
theorem uj{f:Value->Value->Sem Value}{g:Int->Int->Bool} (rule:∀(i j:Int)(t u:Tok)(s:af)(Q:Value->af->Prop)(E:Value->af->Prop),Q (.bool (g i j)) s->wpAny (model X.prog X.w) X.A (f (.int i t) (.int j u)) Q E s): cP X f (jr λi j=>.bl (g i j)):=by intro ao s O H x y v u Q I rx ry h;obtain⟨i,j,rfl,rfl,q⟩:=h;obtain⟨t,rfl⟩:=rx;obtain⟨t',rfl⟩:=ry;exact rule i j t t' s _ _ ⟨.bl (g i j),H,I,Z,q⟩
def Ri(i j:Int):Prop:=0<=j/\j<=1000000/\i.natAbs<2^64
theorem bZ:cP X (binaryOp .Add) (jr λi j=>.int (i+j)):=MF λ_ _ _ _ _ _ _ q=>add_int q
theorem fT:cP X (binaryOp .Sub) (jr λi j=>.int (i-j)):=MF λ_ _ _ _ _ _ _ q=>sub_int q
theorem nT:cP X (binaryOp .Mod) (rI (λ_ j=>0<j) λi j=>.int (i%j)):=wo λi j _ _ _ _ _ hc q=>by have h1:(0:Int)<j:=hc;exact mod_int' aq (by rw[Int.fmod_eq_emod_of_nonneg i aq];exact q)
theorem iZ:cP X (binaryOp .Pow) (rI Ri λi j=>.int (i^j.toNat)):=wo λ_ _ _ _ _ _ _ hc q=>pow_int_small hc.1 hc.2.1 hc.2.2 q
theorem Su{f:Value->Sem Value}{g:Int->Int} (rule:∀(i:Int)(t:Tok)(s:af)(Q:Value->af->Prop)(E:Value->af->Prop),Q (.int (g i) s.toks) {s with toks:=s.toks+1}->wpAny (model X.prog X.w) X.A (f (.int i t)) Q E s): HK X f (rU λi=>.int (g i)):=by intro ao s O H x v Q I rx h;obtain⟨i,rfl,q⟩:=h;obtain⟨t,rfl⟩:=rx;exact rule i t s _ _ ⟨.int (g i),H,I.tok _,⟨_,Z⟩,q⟩
theorem iQ:HK X (unaryOp .USub) (rU λi=>.int (-i)):=Su λ_ _ _ _ _ q=>neg_int q
theorem GF{ao:List (Addr×Obj)}{O:St}{H:Hp}{s:af}{Q:VK}{k k':Bool}(I:Inv X ao O H s)(q:Q (.bl k) H)(e:k=k'):EP X ao O Q (.bool k') s:=by subst e;exact⟨.bl k,H,I,Z,q⟩
theorem jy:cP X (compareOp .Lt) (jr λi j=>.bl (decide (i<j))):=uj λ_ _ _ _ _ _ _ q=>lt_int q
theorem zK:cP X (compareOp .LtE) (jr λi j=>.bl (decide (i<=j))):=uj λ_ _ _ _ _ _ _ q=>le_int q
theorem kH:cP X (compareOp .Gt) (jr λi j=>.bl (decide (j<i))):=uj λ_ _ _ _ _ _ _ q=>gt_int q
theorem EZ:cP X (compareOp .GtE) (jr λi j=>.bl (decide (j<=i))):=uj λ_ _ _ _ _ _ _ q=>ge_int q
theorem W9:cP X (compareOp .In) (λx y H Q=>∃i j,x= .str i/\y= .str j/\Q (.bl (!(Builtin.Str.occurrences j i 0 j.length 1).isEmpty)) H):=by intro ao s O H x y v u Q I rx ry h;obtain⟨i,j,rfl,rfl,q⟩:=h;obtain⟨t,rfl⟩:=rx;obtain⟨t',rfl⟩:=ry;exact in_str (GF I q Z)
theorem W8:cP X (compareOp .Is) (λx y H Q=>y= .bR/\Q (.bl (decide (x= .bR))) H):=by intro ao s O H x y v u Q I rx ry h;obtain⟨rfl,q⟩:=h;cases ry;refine is_none_gen (GF I q ?_);cases x<;>first |(cases rx;rfl) |(obtain⟨t,rfl⟩:=rx;rfl)
theorem nS:cP X (compareOp .IsNot) (λx y H Q=>y= .bR/\Q (.bl (!decide (x= .bR))) H):=by intro ao s O H x y v u Q I rx ry h;obtain⟨rfl,q⟩:=h;cases ry;refine isnot_none_gen (GF I q ?_);cases x<;>first |(cases rx;rfl) |(obtain⟨t,rfl⟩:=rx;rfl)
theorem cP.or{f:Value->Value->Sem Value}{r r':R2}(h:cP X f r)(h':cP X f r'):cP X f (λx y H Q=>r x y H Q\/r' x y H Q):=by
 intro ao s O H x y v u Q I rx ry q;rcases q with q|q
 ·exact h ao s O H x y v u Q I rx ry q
 ·exact h' ao s O H x y v u Q I rx ry q
theorem bo(b:Expr){op:CmpOp}(h:op≠ .In:=by decide)(h2:op≠ .NotIn:=by decide):behindInMarks op b=false:=by
 have e1:(op==CmpOp.In)=false:=by cases op<;>first|rfl|exact absurd rfl h
 have e2:(op==CmpOp.NotIn)=false:=by cases op<;>first|rfl|exact absurd rfl h2
 cases b<;>simp[behindInMarks,e1,e2]
theorem fF{op:CmpOp}{r:R2}(ho:cP X (compareOp op) r)(ha:PE X a ta)(hb:PE X b tb)(hm:behindInMarks op b=false):PE X (.Compare a [op] [b] pos) (vH r ta tb):=by intro ao s O H Q I h;exact wpAny_Compare1 (Hu ha hb I h λv u s2 x y H2 I2 rx ry q=>ho ao s2 O H2 x y v u Q I2 rx ry q) hm
inductive a5n(Q:Bool->Hp->Prop)(x:V)(H':Hp):Prop |mk (k:_)(h0:x= .bl k)(h1:Q k H')
def Jm(t:TE):TT:=λO H Q=>t O H λx H'=>a5n Q x H'
theorem bJ{op:CmpOp}{r:R2}(ho:cP X (compareOp op) r)(ha:PE X a ta)(hb:PE X b tb)(hm:behindInMarks op b=false):PT X (.Compare a [op] [b] pos) (Jm (vH r ta tb)):=by intro ao s O H Q I h;refine wpAny_isTrue_Compare1 (aY (ha ao s O H _ I h) λv s1 ⟨x,H1,I1,r1,q1⟩=>aY (hb ao s1 O H1 _ I1 q1) λu s2 ⟨y,H2,I2,r2,q2⟩=>aY (ho ao s2 O H2 x y v u _ I2 r1 r2 q2) λc s3 ⟨z,H3,I3,r3,k,e,q3⟩=>?_) hm;subst e;cases r3;exact oN ⟨H3,I3,q3⟩
inductive a5s(r':R2)(tc:TE)(O:St)(Q:VK)(y:V)(z:V)(H3:Hp):Prop |mk (k:_)(h0:z= .bl k)(h1:(if k=true then tc O H3 λw' H4=>r' y w' H4 Q else Q (.bl false) H3))
def Jp(r r':R2)(ta tb tc:TE):TE:=λO H Q=>ta O H λx H1=>tb O H1 λy H2=>r x y H2 λz H3=>a5s r' tc O Q y z H3
theorem VQ{op rh:CmpOp}{r r':R2}(ho:cP X (compareOp op) r)(lG:cP X (compareOp rh) r')(ha:PE X a ta)(hb:PE X b tb)(hc:PE X c tc) (hm:lastMarks [op,rh] [b,c]=false:=by with_unfolding_all rfl):PE X (.Compare a [op,rh] [b,c] pos) (Jp r r' ta tb tc):=by intro ao s O H Q I h;refine Compare_chain (aY (ha ao s O H _ I h) λv s1 ⟨x,H1,I1,r1,q1⟩=>chain_link (aY (hb ao s1 O H1 _ I1 q1) λu s2 ⟨y,H2,I2,r2,q2⟩=>aY (ho ao s2 O H2 x y v u _ I2 r1 r2 q2) λd s3 ⟨z,H3,I3,r3,k,e,q3⟩=>?_)) hm;subst e;cases r3;refine oN ?_;cases k with |false=>exact ite_ff ⟨.bl false,H3,I3,Z,q3⟩ |true=>exact ite_tt (chain_last (aY (hc ao s3 O H3 _ I3 q3) λw' s4 ⟨z',H4,I4,r4,q4⟩=>lG ao s4 O H4 y z' u w' Q I4 r2 r4 q4))
theorem Vq{op rh:CmpOp}{r r':R2}(ho:cP X (compareOp op) r)(lG:cP X (compareOp rh) r')(ha:PE X a ta)(hb:PE X b tb)(hc:PE X c tc) (hm:lastMarks [op,rh] [b,c]=false:=by with_unfolding_all rfl):PT X (.Compare a [op,rh] [b,c] pos) (Jm (Jp r r' ta tb tc)):=by intro ao s O H Q I h;refine isTrue_chain (aY (ha ao s O H _ I h) λv s1 ⟨x,H1,I1,r1,q1⟩=>test_link (aY (hb ao s1 O H1 _ I1 q1) λu s2 ⟨y,H2,I2,r2,q2⟩=>aY (ho ao s2 O H2 x y v u _ I2 r1 r2 q2) λd s3 ⟨z,H3,I3,r3,k,e,q3⟩=>?_)) hm;subst e;cases r3;refine oN ?_;cases k with |false=>obtain⟨k',e',q'⟩:=q3;cases e';exact ite_ff ⟨H3,I3,q'⟩ |true=>refine ite_tt (test_last (aY (hc ao s3 O H3 _ I3 q3) λw' s4 ⟨z',H4,I4,r4,q4⟩=>aY (lG ao s4 O H4 y z' u w' _ I4 r2 r4 q4) λd' s5 ⟨z2,H5,I5,r5,k2,e2,q5⟩=>?_));subst e2;cases r5;exact oN ⟨H5,I5,q5⟩
def HL(K:a8)(x:V)(H:Hp)(k:Bool):Prop:=match x with | .bR=>k=false | .bl b=>k=b | .int i=>k=(i !=0) | .str y=>y.length<=sizeLine/\k=((y.length:Int) !=0) | .xY y=>y.size<=sizeLine/\k=((y.size:Int) !=0) | .ref p=>(∃xs,aK K H p xs/\k= !xs.isEmpty)\/(∃xs,aV K H p xs/\k= !xs.isEmpty)\/∃dJ,H p=some (.dK dJ)/\k= !dJ.isEmpty |_=>False
theorem Z4{κ:Type}{dJ:List (κ×V)}{vs:List (κ×Value)}(r:KV dJ vs):(!vs.isEmpty)= !dJ.isEmpty:=by cases r<;>rfl
theorem NL{xs:List V}{its:List Value}(r:Vals xs its):(!its.toArray.isEmpty)= !xs.isEmpty:=by cases r<;>simp
theorem rJ:(sizeLine:Nat)<2^63:=by rw[sizeLine_eq];decide
theorem SK:a5a X (λx H Q=>∃k,HL X.K x H k/\Q k H):=by intro ao s O H x v Q I rx h;obtain⟨k,e,q⟩:=h;have hl:=rJ;have hs:sizeLine=16777216:=sizeLine_eq;cases x with |bR=>cases rx;have e':k=false:=e;subst e';exact truthy_none ⟨H,I,q⟩ |bl b=>cases rx;have e':k=b:=e;subst e';exact oN ⟨H,I,q⟩ |int i=>obtain⟨t,rfl⟩:=rx;have e':k=(i !=0):=e;subst e';exact PySem.P.truthy_int ⟨H,I,q⟩ |str y=>obtain⟨t,rfl⟩:=rx;obtain⟨hy,e'⟩:y.length<=sizeLine/\k=((y.length:Int) !=0):=e;subst e';exact PySem.P.truthy_str aq ⟨H,I.tok _,q⟩ |xY y=>obtain⟨t,rfl⟩:=rx;obtain⟨hy,e'⟩:y.size<=sizeLine/\k=((y.size:Int) !=0):=e;subst e';exact PySem.W.truthy_bytes aq ⟨H,I.tok _,q⟩ |ref p=>
 cases rx;have e':(∃xs,aK X.K H p xs/\k= !xs.isEmpty)\/(∃xs,aV X.K H p xs/\k= !xs.isEmpty)\/∃dJ,H p=some (.dK dJ)/\k= !dJ.isEmpty:=e;rcases e' with⟨xs,hx,e'⟩|⟨xs,hx,e'⟩|⟨dJ,hx,e'⟩
 ·subst e'
  obtain⟨its,r,pl,hz⟩:=I.list hx;have hlen:=r.length;exact wpAny_truthy_list pl.isList (by simp only[dn];lia) ⟨H,I.tok _,by rw[NL r];exact q⟩
 ·subst e'
  obtain⟨its,r,pl,hz⟩:=I.tuple hx;have hlen:=r.length;exact truthy_tuple pl (by simp only[dn];lia) ⟨H,I.tok _,by rw[NL r];exact q⟩
 ·subst e'
  obtain⟨hz,hS,vs,r,m⟩:dJ.length<=sizeLine/\(p==sysModules)=false/\∃vs,KV dJ vs/\s.heap.DictOf (Fj X.prog X.w) p vs:=I.bj p _ hx;have hlen:dJ.length=vs.length:=Paired.length r;exact wpAny_truthy_dict hS m aq ⟨H,I.tok _,by rw[Z4 r];exact q⟩ |_=>exact(show False from e).elim
theorem Vo(ha:PE X a ta)(he:∀whole,isTrue a X.env whole=(do let v<-whole;standAt a.pos;holding [v] (truthy v))): PT X a (λO H Q=>ta O H λx H'=>∃k,HL X.K x H' k/\Q k H'):=by intro ao s O H Q I h;exact isTrue_plain (aY (ha ao s O H _ I h) λv s1 ⟨x,H1,I1,r1,q1⟩=>SK ao s1 O H1 x v Q I1 r1 q1) (he _)
theorem vals1{x:V}{us:List Value}(r:Vals [x] us):∃u,us=[u]/\RelV x u:=by cases r with |cons r1 r2=>cases r2;exact⟨_,rfl,r1⟩
theorem vals2{x y:V}{us:List Value}(r:Vals [x,y] us):∃u w',us=[u,w']/\RelV x u/\RelV y w':=by cases r with |cons r1 r2=>cases r2 with |cons r3 r4=>cases r4;exact⟨_,_,rfl,r1,r3⟩
theorem mU:eH X (.builtin "abs") (λxs H Q=>∃i,xs=[.int i]/\Q (.int (if i<0 then-i else i)) H):=by intro ao s O H xs us Q I r h;obtain⟨i,rfl,q⟩:=h;obtain⟨u,rfl,t,rfl⟩:=vals1 r;exact call_abs_int λu tk=>⟨.int (if i<0 then-i else i),H,I.tok _,⟨_,Z⟩,q⟩
theorem Ho(hc:X.calm=true):eH X (.builtin "max") (λxs H Q=>∃i j,xs=[.int i,.int j]/\Q (.int (if j>i then j else i)) H):=by
 intro ao s O H xs us Q I r h;obtain⟨i,j,rfl,q⟩:=h;obtain⟨u,w',rfl,⟨t,rfl⟩,⟨t',rfl⟩⟩:=vals2 r;refine max_two_ints (I.ok.hd hc) λh' tk k=>⟨_,H,I.kept k,?_,q⟩;by_cases hj:j>i
 ·rw[aX hj,aX hj];exact⟨_,Z⟩
 ·rw[bf hj,bf hj];exact⟨_,Z⟩
theorem Hn(hc:X.calm=true):eH X (.builtin "min") (λxs H Q=>∃i j,xs=[.int i,.int j]/\Q (.int (if j<i then j else i)) H):=by
 intro ao s O H xs us Q I r h;obtain⟨i,j,rfl,q⟩:=h;obtain⟨u,w',rfl,⟨t,rfl⟩,⟨t',rfl⟩⟩:=vals2 r;refine min_two_ints (I.ok.hd hc) λh' tk k=>⟨_,H,I.kept k,?_,q⟩;by_cases hj:j<i
 ·rw[aX hj,aX hj];exact⟨_,Z⟩
 ·rw[bf hj,bf hj];exact⟨_,Z⟩
theorem uY:eH X (.type "int") (λxs H Q=>(∃i,xs=[.int i]/\Q (.int i) H)\/∃k,xs=[.bl k]/\Q (.int (if k then 1 else 0)) H):=by
 intro ao s O H xs us Q I r h;rcases h with⟨i,rfl,q⟩|⟨k,rfl,q⟩
 ·obtain⟨u,rfl,t,rfl⟩:=vals1 r
  exact call_int_int ⟨.int i,H,I,⟨_,Z⟩,q⟩
 ·obtain⟨u,rfl,r1⟩:=vals1 r
  cases r1;exact call_int_bool ⟨.int (if k then 1 else 0),H,I.tok _,⟨_,Z⟩,q⟩
theorem a4d:eH X (.type "str") (λxs H Q=>∃i,xs=[.int i]/\i.natAbs.log2<1920/\Q (.str (toString i)) H):=by intro ao s O H xs us Q I r h;obtain⟨i,rfl,hz,q⟩:=h;obtain⟨u,rfl,t,rfl⟩:=vals1 r;exact PySem.P.str_of_int hz ⟨.str _,H,I.tok _,⟨_,Z⟩,q⟩
end
theorem Nl{h:Heap}{dx:Addr}{mA:bS}(n:h.Ns1 dx mA):∃od,h.get? dx=some od/\∀name,PySem.W.lookIn name od=some (mA name):=by
 obtain⟨o,es,ep,ho,hd,hk,_,hm⟩:=n;refine⟨o,ho,λname=>?_⟩;have e:=hm name;unfold nsFind findBy at e;rw[<-Array.find?_toList]at e;unfold PySem.W.lookIn;rw[hd];dsimp only;split
 ·rename_i y q
  rw[q]at e;exact congrArg some e
 ·rename_i q
  rw[q]at e;have a:es.toList.any (·.refKey)=false:=by rw[List.any_eq_false];intro y hy;obtain⟨z,t,ZY⟩:=hk y (Array.mem_toList_iff.mp hy);simp[DictEntry.refKey,ZY]
  have a':¬es.toList.any (·.refKey)=true:=by rw[a];exact gM
  rw[bf a'];exact congrArg some e
section
variable {prog:ag}{w:World}{A:ai}{E:Value->af->Prop}{s:af}{K:a8}{x dx C f:Addr}{mA:bS}{name:Str}{v:Value}
end
def ph(f:Str)(v:V):List (Str×V)->List (Str×V) |[]=>[(f,v)] |(g,x)::r=>if g=f then(g,v)::r else(g,x)::ph f v r
theorem Nk(f g:Str)(v:V):∀fs:List (Str×V),(ph f v fs).lookup g=if g=f then some v else fs.lookup g
 |[]=>by
  show List.lookup g [(f,v)]=_;by_cases h:g=f
  ·have hb:(g==f)=true:=eU.mpr h
   simp only[List.lookup,hb,aX h]
  ·have hb:(g==f)=false:=Il.mpr h
   simp only[List.lookup,hb,bf h] |(k,x)::r=>by
  have ih:=Nk f g v r;rw[show ph f v ((k,x)::r)=(if k=f then(k,v)::r else(k,x)::ph f v r)from rfl];by_cases hk:k=f
  ·rw[aX hk]
   by_cases h:g=k
   ·have hb:(g==k)=true:=eU.mpr h
    simp only[List.lookup,hb,aX (h.trans hk)]
   ·have hb:(g==k)=false:=Il.mpr h
    simp only[List.lookup,hb,bf (λe:g=f=>h (e.trans hk.symm))]
  ·rw[bf hk]
   by_cases h:g=k
   ·have hb:(g==k)=true:=eU.mpr h
    simp only[List.lookup,hb,bf (λe:g=f=>hk (h.symm.trans e))]
   ·have hb:(g==k)=false:=Il.mpr h
    simp only[List.lookup,hb];exact ih
section
variable {P:ag}{w:World}{H H':Hp}{h h':Heap}{a C dx:Addr}{fs uM:List (Str×V)}
end
section
variable {X:Cx}{ao:List (Addr×Obj)}{O:St}{H:Hp}{s:af}{a C dx:Addr}{fs:List (Str×V)}{f:Str}{v:V}{A:ai}{E:Value->af->Prop}
theorem a4H{prog:ag}{w:World}{env:Env}{e:Expr}{f:Str}{pos:Pos}{s:af}{Q:Value->af->Prop}(hb:attributeBase e f env (eval e env)=eval e env) (h:wpAny (model prog w) A (eval e env) (λo s₁=>wpAny (model prog w) A (getAttr o f true) Q E s₁) E s):wpAny (model prog w) A (eval (.Attribute e f pos) env) Q E s:=Attribute_any_ h (by rw[arm_eval_Attribute,hb])
end
section
variable {X:Cx}{o e value:Expr}{f:Str}{pos pos' tP:Pos}{ta tv:TE}
end
section
variable {X:Cx}{ao:List (Addr×Obj)}{O:St}{H:Hp}{s:af}{A:ai}{E:Value->af->Prop}{Q:Value->af->Prop}{c:Value}{b:Bool}
end
structure dm(k:Nat)(A:ai):Prop where
 hd:A.handled=none
 dp:A.depth+3*k+5<recursionLimit
 un:A.units+16*k+200<cLine
theorem dm.mono{j k:Nat}{A:ai}(r:dm k A)(h:j<=k):dm j A:=⟨r.hd,by have:=r.dp;lia,by have:=r.un;lia⟩
theorem dm.deeper{k:Nat}{A:ai}(r:dm (k+1) A)(env:Env):dm k (A.deeper env):=⟨r.hd,by have:=r.dp;show A.depth+1+3*k+5<_;lia,by have:=r.un;show A.units+3+16*k+200<_;lia⟩
theorem Yi{A:ai}{C:Addr}{us:List Value}{kw:List (Str×Value)}:(A.under (.builtin "type.__call__" ⟨.ref C::us,kw⟩)).depth=A.depth+1:=by first|rfl|simp[Around.under,Code.weight,Code.isCreation,Code.isGuard,Code.isCaller,Code.frames,Code.isFrame,guardIds]
theorem Yh{A:ai}{C:Addr}{us:List Value}{kw:List (Str×Value)}:(A.under (.builtin "type.__call__" ⟨.ref C::us,kw⟩)).units=A.units+1:=by first|rfl|simp[Around.under,Code.cUnits,Code.frames,Code.isFrame]
theorem dm.make{k:Nat}{A:ai}(r:dm (k+1) A)(C:Addr)(us:List Value)(kw:List (Str×Value)):dm k (A.under (.builtin "type.__call__" ⟨.ref C::us,kw⟩)):=⟨r.hd,by have:=r.dp;rw[Yi];omega,by have:=r.un;rw[Yh];omega⟩
theorem dm.depth{k:Nat}{A:ai}(r:dm k A):A.depth<recursionLimit:=by have:=r.dp;lia
theorem dm.units{k:Nat}{A:ai}(r:dm k A):A.units+64<cLine:=by have:=r.un;lia
def Th:TA:=λ_ H Q=>Q [] H
def Tw(ta:TE)(tr:TA):TA:=λO H Q=>ta O H λx H1=>tr O H1 λxs H2=>Q (x::xs) H2
section
variable {X:Cx}{e:Expr}{es:List Expr}{te:TE}{t:TA}{pos:Pos}
theorem aw:PA X [] Th:=λ_ _ _ _ H Q I h=>Calls.spliced_nil ⟨[],H,I,.nil,h⟩
theorem ak(ha:PE X e te)(hr:PA X es t)(hs:starEach (e::es) X.env=(false,eval e X.env)::starEach es X.env:=by rfl):PA X (e::es) (Tw te t):=by intro pos ao s O H Q I h;rw[hs];show wpAny _ _ (spliced ((false,eval e X.env)::backTo pos (starEach es X.env))) _ _ s;refine Calls.spliced_cons (aY (ha ao s O H _ I h) λu s1 ⟨x,H1,I1,r1,q1⟩=>?_);exact aY (hr pos ao s1 O H1 _ I1 q1) λus s2 ⟨xs,H2,I2,r2,q2⟩=>⟨x::xs,H2,I2,.cons r1 r2,q2⟩
end
abbrev Sp:=List V->Hp->VK->XK->Prop
abbrev jf:=List Env->Hp->af->XK->Value->af->Prop
structure oM(P:ag)(w:World)(K:a8)(mg:bS)(az:Heap)(A:ai)(outer:List Env)(s:af)(H:Hp):Prop where
 frames:A.frames=some outer
 mod:Mod K mg az
 bs:∀b o,az.get? b=some o->s.heap.get? b=some o/\H b=none
 ki:az.objs.size<=s.heap.objs.size
 iG:s.heap.FunFrames az outer
 lN:∀b∈eS outer,H b=none
 bj:dH P w H s.heap
 bare:AllBare s.gens
def CE(outer:List Env)(P:ag)(w:World)(H:Hp)(s:af)(Q:VK)(u:Value)(s':af):Prop:=∃v H',s'.os=s.os/\AllBare s'.gens/\Un (eS outer) [] H H' s.heap s'.heap/\dH P w H' s'.heap/\RelV v u/\Q v H'
def CR(CX:jf)(outer:List Env)(P:ag)(w:World)(H:Hp)(s:af)(Q:VK)(E:XK)(r:Result)(s':af):Prop:=match r with | .ok (.ret u)=>CE outer P w H s Q u s' | .ok _=>False | .error e=>CX outer H s E e s'
structure ij(P:ag)(w:World)(K:a8)(mg:bS)(az:Heap)(CX:jf)(k:Nat)(f:Addr)(fd:FuncData)(ps:List Str)(sp:Sp):Prop where
 len:∀vs H Q E,sp vs H Q E->vs.length=ps.length
 run:∀(A:ai)(outer:List Env)(s:af)(H:Hp)(args:Args)(us:List Value)(vs:List V)(Q:VK)(E:XK),dm k A->oM P w K mg az A outer s H->BindsTo s fd args (ps.zip us)->Vals vs us->sp vs H Q E->codeAny (model P w) A (.call (.ref f) args) (CR CX outer P w H s Q E) s
theorem oM.make{P:ag}{w:World}{K:a8}{mg:bS}{az:Heap}{A:ai}{outer:List Env}{s:af}{H:Hp}(e:oM P w K mg az A outer s H)(C:Addr)(us:List Value)(kw:List (Str×Value)): oM P w K mg az (A.under (.builtin "type.__call__" ⟨.ref C::us,kw⟩)) outer s H:=⟨by first|exact e.frames|(simpa[Around.under,Code.envs,Code.isFrame,pushEnvs]using e.frames),e.mod,e.bs,e.ki,e.iG,e.lN,e.bj,e.bare⟩
section
variable {X:Cx}{ao:List (Addr×Obj)}{O:St}{H:Hp}{s s':af}
theorem Inv.AN(I:Inv X ao O H s):oM X.prog X.w X.K X.mg X.az X.A X.stack s H:=⟨I.ok.frames,I.ok.mod,I.bs,eL I.ok.ki I.sz,I.stack,I.zl,I.bj,I.bare⟩
theorem Inv.after{Q:VK}{u:Value}(I:Inv X ao O H s)(h:CE X.stack X.prog X.w H s Q u s'):EP X ao O Q u s':=by obtain⟨v,H',os,bare,un,bj,r,q⟩:=h;obtain⟨hh,g,d,t,W3⟩:=s';obtain rfl:W3=s.os:=os;exact⟨v,H',I.call (h':=hh) (g':=g) (d':=d) (t':=t) (ch:=[]) un bj bare (λb z=>absurd z (by simp)),r,q⟩
end
def Tz(sp:Sp)(dvs:List V)(E:XK)(t:TA):TE:=λO H Q=>t O H λvs H1=>sp (vs++dvs) H1 Q E
def Binds(K:a8)(fd:FuncData)(ps:List Str)(ds:List Value):Prop:=∀(s:af)(us:List Value),K.In s.heap->(us++ds).length=ps.length->BindsTo s fd ⟨us,[]⟩ (ps.zip (us++ds))
theorem Binds.all{K:a8}{fd:FuncData}{ps:List Str}(h:∀us:List Value,us.length=ps.length->bindArgs fd ⟨us,[]⟩=pure (ps.zip us)):Binds K fd ps []:=λs us _ hl=>by rw[tH]at hl⊢;exact .of_eq (h us hl)
def Passes(CX:jf)(X:Cx)(E:XK):Prop:=∀(ao:List (Addr×Obj))(O:St)(H:Hp)(s:af)(e:Value)(s':af),Inv X ao O H s->CX X.stack H s E e s'->X.xe e s'
section
variable {X:Cx}{CX:jf}{k:Nat}{f C:Addr}{fd:FuncData}{ps:List Str}{sp:Sp}{dvs:List V}{ds:List Value}{E:XK}{x m:Str}{p pos apos:Pos}{e o:Expr}{es:List Expr}{ta:TE}{t:TA}
theorem UG{ao:List (Addr×Obj)}{O:St}{H:Hp}{s:af}{Q:VK}{us:List Value}{vs:List V}(F:ij X.prog X.w X.K X.mg X.az CX k f fd ps sp)(hr:dm k X.A)(hb:Binds X.K fd ps ds)(hd:Vals dvs ds)(hx:Passes CX X E) (I:Inv X ao O H s)(r:Vals vs us)(h:sp (vs++dvs) H Q E):wpAny (model X.prog X.w) X.A (call (.ref f) us) (EP X ao O Q) X.xe s:=by
 have r2:Vals (vs++dvs) (us++ds):=r.append hd;have hl:(us++ds).length=ps.length:=by rw[<-r2.length];exact F.len _ _ _ _ h
 refine tm (vi (F.run X.A X.stack s H ⟨us,[]⟩ (us++ds) (vs++dvs) Q E hr I.AN (hb s us I.fX hl) r2 h) λr s' hq=>?_);cases r with |error e=>exact hx ao O H s e s' I hq |ok fl=>cases fl with |ret u=>exact I.after hq |next=>exact False.elim hq |brk=>exact False.elim hq |cont=>exact False.elim hq
theorem VR(F:ij X.prog X.w X.K X.mg X.az CX k f fd ps sp)(hr:dm k X.A)(hg:Gl X x)(hm:X.mg x=some (.ref f))(hk:PySem.W.keepIn X.K (.ref f)=true)(hb:Binds X.K fd ps ds)(hd:Vals dvs ds)(hx:Passes CX X E) (ha:PA X (e::es) t)(j8:(x==("__debug__":Str))=false:=by decide)(he:starEach (e::es) X.env=(false,eval e X.env)::starEach es X.env:=by rfl)(gX:(backTo pos (starEach es X.env)).any (·.1)=false:=by rfl): PE X (.Call (.Name x p) (e::es) [] pos) (Tz sp dvs E t):=by intro ao s O H Q I h;refine Bw (ux I hg hm ?_ j8);refine RG (h₀:=X.az) I.ok.mod.pK hk (aY (ha pos ao s O H _ I h) λus s1 ⟨vs,H1,I1,r,q⟩=>⟨I1.fX,?_⟩) he gX;exact UG F hr hb hd hx I1 r q
end
section
variable {X:Cx}{CX:jf}{k:Nat}{f C:Addr}{fd:FuncData}{ps ks:List Str}{sp:Sp}{E:XK}{x m:Str}{p pos apos a7Y:Pos}{e o:Expr}{es:List Expr}{kws:List Keyword}{te ta:TE}{t tk:TA}{nm:Option Str}
variable {g:List Value->List Value->List Value}{gV:List V->List V->List V}
end
structure bF(N P:List Str)(sc:Scope):Prop where
 kind:sc.kind= .function
 co:sc.isCoroutine=false
 gen:sc.isGenerator=false
 nd:N.Nodup
 pre:N.take P.length=P
 par:∀x∈P,sc.names.lookup x=some .local\/sc.names.lookup x=some .cell
 XS:∀y∈sc.names,y.2≠ .free
theorem Qf{kindOf:Str->Option NameKind}{x:Str}:∀{binds:List (Str×Value)}{m:bS},(∀v,(x,v)∉binds)->bindL kindOf binds m x=m x
 |[],_,_=>rfl |(n,v)::r,m,h=>by
  unfold bindL;rw[Qf λw hw=>h w (BJ _ hw)];split
  ·have:x≠n:=by rintro rfl;exact h v IJ
   simp[this]
  ·rfl
theorem Qh{kindOf:Str->Option NameKind}{x:Str}:∀{binds:List (Str×Value)}{m:bS},(∀v,(x,v)∉binds)->bindC kindOf binds m x=m x
 |[],_,_=>rfl |(n,v)::r,m,h=>by
  unfold bindC;rw[Qh λw hw=>h w (BJ _ hw)];split
  ·rfl
  ·have:x≠n:=by rintro rfl;exact h v IJ
   simp[this]
theorem Qg{kindOf:Str->Option NameKind}{x:Str}{v:Value}:∀{P:List Str}{vs:List Value}{i:Nat}{m:bS},P.Nodup->P[i]? =some x->vs[i]? =some v->kindOf x=some .local->bindL kindOf (P.zip vs) m x=some v |[],_,_,_,_,h,_,_=>by simp at h |_::_,[],_,_,_,_,h,_=>by simp at h |p::P,w::vs,0,m,nd,h1,h2,hk=>by simp at h1 h2;subst h1;subst h2;show bindL kindOf ((p,w)::P.zip vs) m p=_;unfold bindL;rw[Qf λv hv=>(IH.mp nd).1 (vp hv).1,aX hk];simp |p::P,w::vs,i+1,m,nd,h1,h2,hk=>by show bindL kindOf ((p,w)::P.zip vs) m x=_;unfold bindL;exact Qg (i:=i) (IH.mp nd).2 (by simpa using h1) (by simpa using h2) hk
theorem Qi{kindOf:Str->Option NameKind}{x:Str}{v:Value}:∀{P:List Str}{vs:List Value}{i:Nat}{m:bS},P.Nodup->P[i]? =some x->vs[i]? =some v->kindOf x≠some .local->bindC kindOf (P.zip vs) m x=some v |[],_,_,_,_,h,_,_=>by simp at h |_::_,[],_,_,_,_,h,_=>by simp at h |p::P,w::vs,0,m,nd,h1,h2,hk=>by simp at h1 h2;subst h1;subst h2;show bindC kindOf ((p,w)::P.zip vs) m p=_;unfold bindC;rw[Qh λv hv=>(IH.mp nd).1 (vp hv).1,bf hk];simp |p::P,w::vs,i+1,m,nd,h1,h2,hk=>by show bindC kindOf ((p,w)::P.zip vs) m x=_;unfold bindC;exact Qi (i:=i) (IH.mp nd).2 (by simpa using h1) (by simpa using h2) hk
def start(N:List Str)(vs:List V):St:=vs.map some++List.replicate (N.length-vs.length) none
def ie(CX:jf)(P:ag)(w:World)(K:a8)(mg:bS)(az:Heap)(N:List Str)(qual:Str)(scope:Scope)(f:Addr)(cd:Value)(A:ai)(outer:List Env)(s:af)(H:Hp)(E:XK):Cx where
 prog:=P
 w:=w
 K:=K
 mg:=mg
 az:=az
 A:=A.deeper (envOfC qual scope s.heap.objs.size f cd)
 N:=N
 s₀:=s
 H₀:=H
 env:=envOfC qual scope s.heap.objs.size f cd
 outer:=outer
 stack:=envOfC qual scope s.heap.objs.size f cd::outer
 ex:=[]
 calm:=true
 fn:=λ_=>true
 pn:=[]
 xe:=λe s'=>wpAny (model P w) (A.deeper (envOfC qual scope s.heap.objs.size f cd)) (leaving (envOfC qual scope s.heap.objs.size f cd) e) (λ_ Ec=>CX outer H s E e Ec) (λe' Ec=>CX outer H s E e' Ec) s'
theorem Q8{sc:Scope}{n:Nat}{x:Str}(h:sc.names.lookup x=some .cell):∃c,(cellsFrom n sc.names []).lookup x=some c:=by have q:=Ip sc.names n [] (.inl h);exact Option.isSome_iff_exists.mp q
theorem FQ{CX:jf}{P:ag}{w:World}{K:a8}{mg:bS}{az:Heap}{N ps:List Str}{qual:Str}{scope:Scope}{f:Addr}{cd:Value}{A:ai}{outer:List Env}{s s1:af}{H:Hp}{E:XK}{us:List Value}{vs:List V} (S:bF N ps scope)(hd:A.handled=none)(e0:oM P w K mg az A outer s H)(hl:vs.length=ps.length)(r:Vals vs us) (x:InCallC s s.heap.objs.size (bindL (envOfC qual scope s.heap.objs.size f cd).kindOf (ps.zip us) λ_=>none) (cellsFrom (s.heap.objs.size+1) scope.names []) (bindC (envOfC qual scope s.heap.objs.size f cd).kindOf (ps.zip us) λ_=>none) s1): Inv (ie CX P w K mg az N qual scope f cd A outer s H E) [] (start N vs) H s1:=by
 have gX:ps.length<=N.length:=by have:=congrArg List.length S.pre;rw[ko]at this;lia
 obtain⟨h1,tk,rfl,hk⟩:=x.done;have wD:∀b:Addr,b∉(ie CX P w K mg az N qual scope f cd A outer s H E).ex:=λb z=>absurd (show b∈([]:List Addr)from z) (by simp);refine⟨⟨e0.mod,S.kind,Z,Z,bw _,λy z c h1 h2=>?_,λy hy=>?_,λy c _ h=>?_,λ_=>hd,Around.frames_deeper e0.frames,.inr ⟨Z,Z⟩,λb z=>absurd z (wD b),e0.bs,e0.ki,λb _ _=>wD b,λb z=>absurd z (wD b),e0.iG,e0.lN⟩,rfl,e0.bare,Un.kept hk,⟨_,x.toInCall.ns,λi y v h1 h2 h3=>?_⟩,λy c h=>⟨_,x.cell y c h⟩,e0.bj.fresh (bw _),λy c h=>?_,λp hp=>absurd (show p∈([]:List (Addr×Obj))from hp) (by simp),e0.bj.kept hk,?_⟩
 ·exact name_of_addr x.apart (BC h1) (BC h2)
 ·have hy:scope.names.lookup y=some .cell\/scope.names.lookup y=some .free:=hy
  rcases hy with hy|hy
  ·exact Q8 hy
  ·exact absurd Z (S.XS _ (BC hy))
 ·exact IC (x.above y c (BC h))
 ·have hi:i<vs.length:=by
   unfold start at h2;by_cases hi:i<vs.length
   ·exact hi
   ·rw[oQ (by simpa using hi)]at h2
    rw[List.getElem?_replicate]at h2;split at h2<;>cases h2
  have ha:vs[i]? =some v:=by unfold start at h2;rw[qJ (by simpa using hi),bU]at h2;cases e:vs[i]? with |none=>rw[e]at h2;cases h2 |some a=>rw[e]at h2;cases h2;rfl
  obtain⟨u,hu,rv⟩:=r.get ha;have hp:ps[i]? =some y:=by rw[<-S.pre,List.getElem?_take_of_lt aq];exact h1
  have MX:ps.Nodup:=by rw[<-S.pre];exact S.nd.sublist (List.take_sublist _ _)
  refine⟨u,rv,?_⟩;rcases S.par y (fC hp)with k|k
  ·exact .inl ⟨k,Qg MX hp hu k⟩
  ·obtain⟨c,e⟩:=Q8 (n:=s.heap.objs.size+1) k
   refine .inr ⟨.inl k,c,e,?_⟩;have q:=x.cell y c e;rw[Qi MX hp hu (by show scope.names.lookup y≠_;rw[k];decide)]at q;exact q
 ·exact e0.bj.fresh (IC (x.above y c (BC h)))
 ·unfold start
  show _=N.length;rw[cB,bB,List.length_replicate]
  lia
theorem OO{CX:jf}{P:ag}{w:World}{K:a8}{mg:bS}{az:Heap}{k:Nat}{f:Addr}{name qual:Str}{params:Arguments}{body:List Stmt}{scope:Scope}{dV kV doc pm aO ct oc:Value}{an od:Option Addr} {fG:Array (Option Value)}{N ps:List Str}{sp:Sp}(lk:K.lookup f=some ⟨oc,od,.func (PySem.W.fnOf name qual params body scope dV kV doc pm an aO ct),fG⟩)(eR:PySem.W.codeIn K aO qual=true)(S:bF N ps scope) (len:∀vs H Q E,sp vs H Q E->vs.length=ps.length) (j9:∀(A:ai)(outer:List Env)(s:af)(H:Hp)(vs:List V)(Q:VK)(E:XK),dm k (A.deeper (envOfC qual scope s.heap.objs.size f aO))->sp vs H Q E->∃t,gn (ie CX P w K mg az N qual scope f aO A outer s H E) body t/\t {nx:=λ_ H'=>Q .bR H',rt:=Q} (start N vs) H): ij P w K mg az CX (k+1) f (PySem.W.fnOf name qual params body scope dV kV doc pm an aO ct) ps sp:=by
 refine⟨len,λA outer s H args us vs Q E hr e0 hb r fY=>?_⟩;have hl:=len _ _ _ _ fY;have KX:K.In s.heap:=e0.mod.pK.keeps λb o e=>(e0.bs b o e).1;have lim:s.heap.NoLimit:=e0.mod.nolimit.keeps λb o e=>(e0.bs b o e).1;have jA:∀y∈ps.zip us,scope.names.lookup y.1=some .local\/(scope.names.lookup y.1=some .cell/\((cellsFrom (s.heap.objs.size+1) scope.names []).lookup y.1).isSome=true):=λ⟨n,v⟩ hy=>by
  rcases S.par n (vp hy).1 with q|q
  ·exact .inl q
  ·exact .inr ⟨q,Ip _ _ _ (.inl q)⟩
 refine RA hr.depth (KX _ _ lk) Z S.co S.gen Z (RF KX eR) (hb _ _ _ _ ?_);refine Rr S.kind jA λenv he s1 x=>?_;subst he;refine⟨lim.keeps x.toInCall.keep,codeAny_func ?_⟩;obtain⟨t,ht,hq⟩:=j9 A outer s H vs Q E (hr.deeper _) fY;have I:Inv (ie CX P w K mg az N qual scope f aO A outer s H E) [] (start N vs) H s1:=FQ S hr.hd e0 hl r x;refine eJ (ht [] s1 (start N vs) H _ I hq) (λfl s' hs=>?_) λe s' hs=>hs;have fin:∀{σ':St}{H':Hp}{v:V}{u:Value},Inv (ie CX P w K mg az N qual scope f aO A outer s H E) [] σ' H' s'->RelV v u->Q v H'->CE outer P w H s Q u s':=λ{σ' H' v u} J rv q=>⟨v,H',J.os,J.bare,J.az,J.bj,rv,q⟩;cases fl with |ret u=>obtain⟨v,σ',H',J,rv,q⟩:=hs;exact fin J rv q |next=>obtain⟨σ',H',J,q⟩:=hs;exact fin (v:=V.bR) (u:=Value.none) J Z q |brk=>obtain⟨_,_,_,q⟩:=hs;exact False.elim q |cont=>obtain⟨_,_,_,q⟩:=hs;exact False.elim q
section
variable {X:Cx}{x:Str}{p pos:Pos}{e:Expr}{es:List Expr}{t:TA}{id T:String}{r:List V->Hp->VK->Prop}
def zf(r:List V->Hp->VK->Prop)(t:TA):TE:=λO H Q=>t O H λvs H1=>r vs H1 Q
theorem dv(hc:eH X (.builtin id) r)(hg:Gl X x)(hm:X.mg x=none)(hv:bootBuiltins x=some (.builtin id))(ha:PA X (e::es) t)(hn:x≠"__name__":=by decide)(j8:(x==("__debug__":Str))=false:=by decide) (he:starEach (e::es) X.env=(false,eval e X.env)::starEach es X.env:=by rfl)(gX:(backTo pos (starEach es X.env)).any (·.1)=false:=by rfl):PE X (.Call (.Name x p) (e::es) [] pos) (zf r t):=by intro ao s O H Q I h;refine Bw (pI I hg hm hv ?_ hn j8);exact PyProof.Rows.callWith_builtin1 (aY (ha pos ao s O H _ I h) λus s1 ⟨vs,H1,I1,r1,q1⟩=>hc ao s1 O H1 vs us Q I1 r1 q1) he gX
theorem fh(hc:eH X (.type T) r)(hg:Gl X x)(hm:X.mg x=none)(hv:bootBuiltins x=some (.type T))(ha:PA X (e::es) t)(hn:x≠"__name__":=by decide)(j8:(x==("__debug__":Str))=false:=by decide) (he:starEach (e::es) X.env=(false,eval e X.env)::starEach es X.env:=by rfl)(gX:(backTo pos (starEach es X.env)).any (·.1)=false:=by rfl):PE X (.Call (.Name x p) (e::es) [] pos) (zf r t):=by intro ao s O H Q I h;refine Bw (pI I hg hm hv ?_ hn j8);exact yC (aY (ha pos ao s O H _ I h) λus s1 ⟨vs,H1,I1,r1,q1⟩=>hc ao s1 O H1 vs us Q I1 r1 q1) he gX
end
end L2
namespace HT
open PySem PyProof.Rows
section
open PySem.SeqAt
open PySem.AutoSeq1 (wpAny_loadPart')
open PySem.MeetsSeq PySem.MeetsSeq2 PySem.MeetsSeq3
end
section
variable {prog:ag}{w:World}{A:ai}{E:Value->af->Prop}{s:af}
theorem a4b{t b:Addr}{vs ws:List Value}{Q:Value->af->Prop}(ht:IsTup s.heap t vs.toArray)(hb:IsTup s.heap b ws.toArray)(hv:vs≠[]) (h1:ws=[]->Q (.ref t) s)(h2:ws≠[]->Q (.ref s.heap.objs.size) {s with heap:=s.heap.push {cls:=.type "tuple",data:=.seq (vs++ws).toArray}}) (wY:vs.length+ws.length<=sizeLine):wpAny (model prog w) A (binaryOp .Add (.ref t) (.ref b)) Q E s:=by
 obtain⟨⟨cls,dd,data,sl⟩,ho,hc,n,hd⟩:=id ht;obtain⟨⟨Q5,uU,data2,tY⟩,jz,jC,n2,hd2⟩:=id hb;simp only at hc hd jC hd2;subst hc hd jC hd2;have e:vs.toArray++ws.toArray=(vs++ws).toArray:=by simp
 by_cases hw:ws=[]
 ·exact concat_meets ⟨_,ho,Z⟩ ⟨_,jz,Z⟩ noFill_tuple_add seq_tuple_add RI RJ (RK _ _) (tuple_addW1 t b vs.toArray ws.toArray n n2 dd uU sl tY (by simpa using hv) (by simp[hw])) ⟨ho,jz,h1 hw⟩
 ·refine concat_meets ⟨_,ho,Z⟩ ⟨_,jz,Z⟩ noFill_tuple_add seq_tuple_add RI RJ (RK _ _) (tuple_addW2 t b vs.toArray ws.toArray n n2 dd uU sl tY (by simpa using hv) (by simpa using hw) (by rw[dn,dn];exact wY)) ⟨ho,jz,?_⟩;rw[e];exact h2 hw
def bI(n d:Nat):Option Int->Nat |none=>d |some v=>if v<0 then(v+(n:Int)).toNat else min v.toNat n
theorem LM (n d:Nat):bI n d none=d:=rfl
theorem DB(n d k:Nat):bI n d (some (k:Int))=min k n:=by show(if(k:Int)<0 then((k:Int)+(n:Int)).toNat else min (k:Int).toNat n)=min k n;rw[bf aq,RX]
theorem Us(n d:Nat)(hd:d<=n)(o:Option Int):bI n d o<=n:=by cases o with |none=>exact hd |some v=>
 show(if v<0 then(v+(n:Int)).toNat else min v.toNat n)<=n;by_cases hv:v<0
 ·rw[aX hv];lia
 ·rw[bf hv];exact Nat.min_le_right _ _
theorem Q6(v:Int)(n d:Nat):(if v<0 then max (v+(n:Int)) 0 else min v (n:Int))=((bI n d (some v):Nat):Int):=by
 show(if v<0 then max (v+(n:Int)) 0 else min v (n:Int))=(((if v<0 then(v+(n:Int)).toNat else min v.toNat n):Nat):Int);by_cases hv:v<0
 ·simp only[aX hv];lia
 ·simp only[bf hv];lia
theorem a4Z(lo hi:Option Int)(n:Nat):Builtin.Slice.sliceAdjust lo hi 1 (n:Int)=(((bI n 0 lo:Nat):Int),((bI n n hi:Nat):Int)):=by
 have h1:¬((1:Int)<0):=by lia
 unfold Builtin.Slice.sliceAdjust;simp only[h1,if_false];refine Prod.ext ?_ ?_
 ·cases lo with |none=>rfl |some v=>exact Q6 v n 0
 ·cases hi with |none=>rfl |some v=>exact Q6 v n n
theorem VB(i j:Nat):Builtin.Slice.slicePlaces (i:Int) (j:Int) 1=j-i:=by
 unfold Builtin.Slice.slicePlaces;have h1:(1:Int)>0:=by lia
 simp only[h1,qE,Int.ediv_one];split<;>lia
theorem K5{v:Value}{o:Option Int}{Q:Option Int->af->Prop}(p:IsPart v o)(h:Q o s):wpAny (model prog w) A (Builtin.Slice.slicePartIndex v) Q E s:=by cases p with |none=>exact slicePart_none h |int i t=>exact slicePart_int h
theorem K6{sl:Addr}{vl vu:Value}{lo hi:Option Int}{n:Nat}{Q:Int×Int×Nat->af->Prop}(hs:s.heap.IsSliceOf sl vl vu .none)(pl:IsPart vl lo)(pu:IsPart vu hi) (h:Q (((bI n 0 lo:Nat):Int),1,bI n n hi-bI n 0 lo) s):wpAny (model prog w) A (Builtin.Slice.sliceApplied (.ref sl) (pure (n:Int))) Q E s:=by obtain⟨os,rP,kM,jB⟩:=id hs;unfold Builtin.Slice.sliceApplied Builtin.Slice.sliceFields;refine aF (aF (ik rP jB (x:=vl) Z (aF (ik rP jB (x:=vu) Z (aF (ik rP jB (x:=.none) Z (bH ?_)))))));refine aF (slicePart_none ?_);show wpAny _ _ (if((1:Int)==0)=true then _ else _) _ _ s;rw[bf au];refine aF (K5 pl (aF (K5 pu (aF (bH ?_)))));show wpAny _ _ (match Builtin.Slice.sliceAdjust lo hi 1 (n:Int)with|(lo,hi)=>pure (lo,(1:Int),Builtin.Slice.slicePlaces lo hi 1)) _ _ s;rw[a4Z lo hi n];show wpAny _ _ (pure (((bI n 0 lo:Nat):Int),(1:Int),Builtin.Slice.slicePlaces ((bI n 0 lo:Nat):Int) ((bI n n hi:Nat):Int) 1)) _ _ s;rw[VB];exact bH h
theorem VC(xs:Array Value)(i k:Nat):((List.range k).filterMap λ(m:Nat)=>xs[((i:Int)+(m:Int)*1).toNat]?).toArray=((xs.toList.drop i).take k).toArray:=by
 have e:(λ(m:Nat)=>xs[((i:Int)+(m:Int)*1).toNat]?)=λm=>xs[i+m]?:=by
  funext m;have:((i:Int)+(m:Int)*1).toNat=i+m:=by lia
  rw[this]
 rw[e];have:=pick_run xs i k;rw[List.filterMap_map]at this;have e2:((λx=>xs[x]?)∘λx=>i+x)=λm=>xs[i+m]?:=rfl;rw[e2]at this;rw[this]
theorem a1y{t sl:Addr}{items:Array Value}{vl vu:Value}{lo hi:Option Int}{Q:Value->af->Prop}(ht:IsTup s.heap t items)(hs:s.heap.IsSliceOf sl vl vu .none)(pl:IsPart vl lo)(pu:IsPart vu hi) (hw:¬(bI items.size 0 lo=0/\bI items.size items.size hi=items.size)) (h:Q (.ref s.heap.objs.size) {s with heap:=s.heap.push {cls:=.type "tuple",data:=.seq ((items.toList.drop (bI items.size 0 lo)).take (bI items.size items.size hi-bI items.size 0 lo)).toArray}}) (wY:items.size<=sizeLine):wpAny (model prog w) A (getItem (.ref t) (.ref sl)) Q E s:=by
 have Ah:sizeOk (.seq ((items.toList.drop (bI items.size 0 lo)).take (bI items.size items.size hi-bI items.size 0 lo)).toArray):=by show((items.toList.drop (bI items.size 0 lo)).take (bI items.size items.size hi-bI items.size 0 lo)).toArray.size<=sizeLine;rw[dn,ko,tF,yR];omega
 have hj:bI items.size items.size hi<=items.size:=Us _ _ (bw _) hi;obtain⟨os,rP,kM,jB⟩:=id hs;have Gh:s.TypeIs (.ref sl) "slice":=⟨os,rP,kM⟩;unfold getItem
 try with_reducible refine jI ?_
 first|refine aF (bH ?_)|skip
 refine aF (wpAny_sequenceKey ht.typeIs au ?_);refine aF (yy (name:=Str.ofString "__getitem__") ht.typeIs yA (yx yA ht.typeIs entry_tuple_getitem ?_ (args_tuple_getitem _ _)));show wpAny _ _ (Builtin.Tuple.tupleItemsOf (.ref t)>>=_) _ _ s;refine aF (tupleItemsOf_ ht ?_);refine aF (wpAny_typeOf Gh ?_);rw[aX au];refine aF (K6 hs pl pu ?_);have ZM:¬((((bI items.size 0 lo:Nat):Int)==0&&(1:Int)==1&&(bI items.size items.size hi-bI items.size 0 lo)==items.size)=true):=by intro q;rw[f9,f9]at q;have q1:((bI items.size 0 lo:Nat):Int)=0:=eq_of_beq q.1.1;have q2:bI items.size items.size hi-bI items.size 0 lo=items.size:=eq_of_beq q.2;exact hw ⟨aH,aH⟩
 show wpAny _ _ (if(((bI items.size 0 lo:Nat):Int)==0&&(1:Int)==1&&(bI items.size items.size hi-bI items.size 0 lo)==items.size)=true then _ else _) _ _ s;rw[bf ZM,VC]
 first |exact aF (m:=Builtin.Tuple.tupleExact _) (nj (bH ⟨_,Z,bH h⟩) Ah) |exact aF (m:=Builtin.Tuple.tupleExact _) (nj (aF (bH (bH ⟨_,Z,bH h⟩))) Ah) |exact aF (aF (m:=Builtin.Tuple.tupleExact _) (nj (bH (bH ⟨_,Z,bH h⟩)) Ah)) |exact aF (aF (m:=Builtin.Tuple.tupleExact _) (nj (bH ⟨_,Z,bH h⟩) Ah))
end
end HT
namespace L2
open PySem PySem.Spec PyProof.Rows
abbrev TO:=St->Hp->(Option Int->Hp->Prop)->Prop
def PO(X:Cx)(e:Option Expr)(t:TO):Prop:=∀(ao:List (Addr×Obj))(s:af)(O:St)(H:Hp)(Q:Option Int->Hp->Prop),Inv X ao O H s->t O H Q->wpAny (model X.prog X.w) X.A (evalPart e X.env) (λu s'=>∃o H',Inv X ao O H' s'/\IsPart u o/\Q o H') X.xe s
def Tg:TO:=λ_ H Q=>Q none H
inductive a5o(Q:Option Int->Hp->Prop)(x:V)(H1:Hp):Prop |mk (i:_)(h0:x= .int i)(h1:Q (some i) H1)
def Ta(t:TE):TO:=λO H Q=>t O H λx H1=>a5o Q x H1
section
variable {X:Cx}{e:Expr}{te:TE}{lo hi:Option Expr}{tl th:TO}{pos p2:Pos}
theorem gy:PO X none Tg:=by intro ao s O H Q I h;rw[evalPart_none];exact bH ⟨none,H,I,.none,h⟩
theorem fg(h:PE X e te):PO X (some e) (Ta te):=by intro ao s O H Q I hw;rw[evalPart_some];refine aY (h ao s O H _ I hw) λu s1 ⟨x,H1,I1,r1,q1⟩=>?_;obtain⟨i,rfl,q⟩:=q1;obtain⟨t,rfl⟩:=r1;exact⟨some i,H1,I1,.int i t,q⟩
def yf(X:Cx)(r:V->Option Int->Option Int->Hp->VK->Prop):Prop:=∀(ao:List (Addr×Obj))(s:af)(O:St)(H:Hp)(x:V)(v vl vu:Value)(lo hi:Option Int)(sl:Addr)(Q:VK),Inv X ao O H s->RelV x v->s.heap.IsSliceOf sl vl vu .none->IsPart vl lo->IsPart vu hi->r x lo hi H Q->∃T id,typeLookup (.type T) "__getitem__"=pure (some (.builtin id))/\s.TypeIs v T/\wpAny (model X.prog X.w) X.A (getItem v (.ref sl)) (EP X ao O Q) X.xe s
def T6(r:V->Option Int->Option Int->Hp->VK->Prop)(te:TE)(tl th:TO):TE:=λO H Q=>te O H λx H1=>tl O H1 λl H2=>th O H2 λu H3=>r x l u H3 Q
theorem fS{r:V->Option Int->Option Int->Hp->VK->Prop}(hr:yf X r)(he:PE X e te)(hl:PO X lo tl)(hu:PO X hi th):PE X (.Subscript e (.Slice lo hi none p2) pos) (T6 r te tl th):=by intro ao s O H Q I h;refine Subscript_ (aY (he ao s O H _ I h) λv s1 ⟨x,H1,I1,r1,q1⟩=>?_);refine wpAny_Slice (aY (hl ao s1 O H1 _ I1 q1) λvl s2 ⟨l,H2,I2,pl,q2⟩=>aY (hu ao s2 O H2 _ I2 q2) λvu s3 ⟨u,H3,I3,pu,q3⟩=>?_);rw[evalPart_none];refine bH ?_;have I4:Inv X ao O H3 {s3 with heap:=s3.heap.push {cls:=.type "slice",data:=.fields #[vl,vu,.none]}}:=I3.kept (t':=s3.toks) λb ob q=>cw _ q;obtain⟨T,id,hT,ht,hg⟩:=hr ao {s3 with heap:=s3.heap.push {cls:=.type "slice",data:=.fields #[vl,vu,.none]}} O H3 x v vl vu l u s3.heap.objs.size Q I4 r1 (Heap.IsSliceOf.new ..) pl pu q3;show wpAny (model X.prog X.w) X.A (subscriptTail e (.Slice lo hi none p2) v (.ref s3.heap.objs.size)) (EP X ao O Q) X.xe {s3 with heap:=s3.heap.push {cls:=.type "slice",data:=.fields #[vl,vu,.none]}};exact tail_any (ops:=[.ref s3.heap.objs.size,v]) ht hT hg (by with_unfolding_all rfl)
def fm(xs:List V)(lo hi:Option Int):List V:=(xs.drop (HT.bI xs.length 0 lo)).take (HT.bI xs.length xs.length hi-HT.bI xs.length 0 lo)
theorem mT(xs:List V)(lo hi:Option Int):(fm xs lo hi).length<=xs.length:=by
 unfold fm;rw[ko,tF]
 lia
inductive a6D(K:a8)(x:V)(lo:Option Int)(hi:Option Int)(H:Hp)(Q:VK):Prop |mk (a:_)(xs:_)(h0:x= .ref a)(h1:aV K H a xs)(h2:¬(HT.bI xs.length 0 lo=0/\HT.bI xs.length xs.length hi=xs.length))(h3:∀p,H p=none->Q (.ref p) (upd H p (.tup (fm xs lo hi))))
def V7(K:a8):V->Option Int->Option Int->Hp->VK->Prop:=λx lo hi H Q=>a6D K x lo hi H Q
theorem K7:yf X (V7 X.K):=by
 intro ao s O H x v vl vu lo hi sl Q I rx hs pl pu h;obtain⟨a,xs,rfl,hx,hw,q⟩:=h;cases rx;obtain⟨its,r,ht,hz⟩:=I.tuple hx;have hlen:its.toArray.size=xs.length:=by rw[dn];exact r.length.symm
 refine⟨"tuple",_,yA.lookup,ht.typeIs,?_⟩;refine HT.a1y ht hs pl pu (by rw[hlen];exact hw) ?_ (by rw[hlen];exact hz);rw[hlen];refine⟨.ref s.heap.objs.size,_,I.laid (t':=s.toks) (o:=.tup (fm xs lo hi)) (λb ob q=>cw _ q) (bw _) ?_,Z,q _ (I.bj.fresh (bw _))⟩;exact⟨eL (mT xs lo hi) hz,_,(r.drop (HT.bI xs.length 0 lo)).take (HT.bI xs.length xs.length hi-HT.bI xs.length 0 lo),IsTup.new _ _⟩
theorem Vals.Fc{xs:List V}{us:List Value}(r:Vals xs us):us=[]↔xs=[]:=by cases r with |nil=>simp |cons _ _=>simp
end
def gH(n:Nat)(i:Int):Option Nat:=if 0<=i then(if i<n then some i.toNat else none)else if-(n:Int)<=i then some (i+n).toNat else none
def dk{α:Type}(xs:List α)(i:Int):Option α:=(gH xs.length i).bind λj=>xs[j]?
theorem NJ{n:Nat}{i:Int}{j:Nat}(h:gH n i=some j):seqIndex? i n=some j/\j<n/\-(n:Int)<=i/\i<n:=by
 unfold gH at h;by_cases h0:0<=i
 ·rw[aX h0]at h
  by_cases h1:i<n
  ·rw[aX h1]at h
   have e:i.toNat=j:=dU h;exact⟨by rw[seqIndex_of h0 h1,e],aq,aq,h1⟩
  ·rw[bf h1]at h;cases h
 ·rw[bf h0]at h
  by_cases h1:-(n:Int)<=i
  ·rw[aX h1]at h
   have e:(i+n).toNat=j:=dU h;exact⟨by rw[seqIndex_neg aq h1,e],aq,h1,aq⟩
  ·rw[bf h1]at h;cases h
theorem HE{α:Type}{xs:List α}{i:Int}{v:α}(h:dk xs i=some v):∃j,seqIndex? i xs.length=some j/\xs[j]? =some v/\j<xs.length/\-(xs.length:Int)<=i/\i<xs.length:=by unfold dk at h;cases e:gH xs.length i with |none=>rw[e]at h;cases h |some j=>rw[e]at h;obtain⟨h1,h2,h3,h4⟩:=NJ e;exact⟨j,h1,h,h2,h3,h4⟩
theorem a4K{α:Type}{xs:List α}{j:Nat}{v:α}(h:xs[j]? =some v):dk xs (j:Int)=some v:=by
 have hj:j<xs.length:=(cL.mp h).1;have e:gH xs.length (j:Int)=some j:=by unfold gH;rw[aX aq,aX aq];simp
 unfold dk;rw[e];exact h
def QP(b:Expr):Prop:=∀o i,subscripted b false o i=operate [o,i] (getItem o i)
def oJ(X:Cx)(r:R2):Prop:=∀(value slice:Expr)(ao:List (Addr×Obj))(s:af)(O:St)(H:Hp)(x y:V)(v u:Value)(Q:VK),Inv X ao O H s->RelV x v->RelV y u->r x y H Q->subscripted slice false v u=operate [v,u] (getItem v u)->wpAny (model X.prog X.w) X.A (subscriptTail value slice v u) (EP X ao O Q) X.xe s
def QW(X:Cx)(id:String)(r:V->List V->Hp->VK->Prop):Prop:=∀(ao:List (Addr×Obj))(s:af)(O:St)(H:Hp)(x:V)(xs:List V)(v:Value)(us:List Value)(Q:VK),Inv X ao O H s->RelV x v->Vals xs us->r x xs H Q->wpAny (model X.prog X.w) X.A (call (.builtin id) (v::us)) (EP X ao O Q) X.xe s
section
variable {X:Cx}{a b:Expr}{ta tb:TE}{pos:Pos}
theorem oJ.or{r r':R2}(h:oJ X r)(h':oJ X r'):oJ X (λx y H Q=>r x y H Q\/r' x y H Q):=by
 intro value slice ao s O H x y v u Q I rx ry q hs;rcases q with q|q
 ·exact h value slice ao s O H x y v u Q I rx ry q hs
 ·exact h' value slice ao s O H x y v u Q I rx ry q hs
theorem Mt{r:R2}(hr:oJ X r)(ha:PE X a ta)(hb:PE X b tb)(hs:QP b):PE X (.Subscript a b pos) (vH r ta tb):=by intro ao s O H Q I h;exact Subscript_ (Hu ha hb I h λv u s2 x y H2 I2 rx ry q=>hr a b ao s2 O H2 x y v u Q I2 rx ry q (hs _ _))
inductive a6N(K:a8)(x:V)(y:V)(H:Hp)(Q:VK):Prop |mk (p:_)(xs:_)(i:_)(v:_)(h0:x= .ref p)(h1:y= .int i)(h2:aK K H p xs)(h3:dk xs i=some v)(h4:Q v H)
def EF(K:a8):R2:=λx y H Q=>a6N K x y H Q
inductive a6L(K:a8)(x:V)(y:V)(H:Hp)(Q:VK):Prop |mk (p:_)(xs:_)(i:_)(v:_)(h0:x= .ref p)(h1:y= .int i)(h2:aV K H p xs)(h3:dk xs i=some v)(h4:Q v H)
def EE(K:a8):R2:=λx y H Q=>a6L K x y H Q
inductive a6M(x:V)(y:V)(H:Hp)(Q:VK):Prop |mk (z:_)(i:_)(c:_)(h0:x= .str z)(h1:y= .int i)(h2:z.length<=sizeLine)(h3:dk z.cps.toList i=some c)(h4:Q (.str ⟨#[c]⟩) H)
def Vd:R2:=λx y H Q=>a6M x y H Q
theorem YX:oJ X (EF X.K):=by
 intro value slice ao s O H x y v u Q I rx ry h hs;obtain⟨p,xs,i,z,rfl,rfl,hq,he,q⟩:=h;cases rx;obtain⟨t,rfl⟩:=ry;obtain⟨its,r,pl,hz⟩:=I.list hq;obtain⟨j,h1,h2,h3,h4,h5⟩:=HE he;obtain⟨w,ew,fO⟩:=r.get h2;have hl:=r.length;have hn:=rJ;have fin:EP X ao O Q w s:=⟨z,H,I,fO,q⟩;by_cases h0:0<=i
 ·have hj:i.toNat=j:=by rw[seqIndex_of h0 h5]at h1;exact dU h1
  exact item_listR pl.isList h0 aq (by rw[hj];simpa using ew) fin hs
 ·have hj:(i+(its.toArray.size:Int)).toNat=j:=by rw[seqIndex_neg aq h4]at h1;rw[dn,<-hl];exact dU h1
  exact subscriptTail_builtinR (x:=w) pl.isList.typeIs slot_list_getitem.lookup (wpAny_getItem_list_neg (Q:=λr s'=>r=w/\EP X ao O Q r s') pl.isList aq (by rw[dn]<;>lia) aq (by rw[hj];simpa using ew) ⟨Z,fin⟩) hs
theorem YV:oJ X (EE X.K):=by intro value slice ao s O H x y v u Q I rx ry h hs;obtain⟨p,xs,i,z,rfl,rfl,hq,he,q⟩:=h;cases rx;obtain⟨t,rfl⟩:=ry;obtain⟨its,r,pl,hz⟩:=I.tuple hq;obtain⟨j,h1,h2,h3,h4,h5⟩:=HE he;obtain⟨w,ew,fO⟩:=r.get h2;have hl:=r.length;have hn:=rJ;have fin:EP X ao O Q w s:=⟨z,H,I,fO,q⟩;exact subscriptTail_builtinR (x:=w) pl.typeIs slot_tuple_getitem.lookup (getItem_tuple (j:=j) (Q:=λr s'=>r=w/\EP X ao O Q r s') pl aq aq (by rw[dn,<-hl];exact h1) (by simpa using ew) ⟨Z,fin⟩) hs
theorem YW:oJ X Vd:=by
 intro value slice ao s O H x y v u Q I rx ry h hs;obtain⟨z,i,c,rfl,rfl,hz,he,q⟩:=h;obtain⟨t,rfl⟩:=rx;obtain⟨t',rfl⟩:=ry;obtain⟨j,h1,h2,h3,h4,h5⟩:=HE he;have hl:z.cps.toList.length=z.length:=by simp[Str.length]
 rw[hl]at h1 h4 h5;have hn:=rJ;exact tail_any (typeIs_str s z t) slot_str_getitem.lookup (getItem_str (c:=c) (by have e1:decide (i< -(2^63:Int))=false:=cy aq;have e2:decide (i>=2^63)=false:=cy aq;rw[e1,e2,Bool.or_false]) (by rw[h1];simpa using h2) ⟨.str ⟨#[c]⟩,H,I.tok _,⟨_,Z⟩,q⟩) hs
theorem Yg(its:List Value)(n j:Nat)(u:Value):Obj.mapSeq (·.setIfInBounds j u) {cls:=.type "list",data:=.seq its.toArray n}={cls:=.type "list",data:=.seq (its.set j u).toArray n}:=by simp[Obj.mapSeq]
theorem Inv.lst{ao:List (Addr×Obj)}{O:St}{H:Hp}{s:af}{p:Addr}{xs:List V}(I:Inv X ao O H s)(h:H p=some (.lst xs)): ∃(its:List Value)(n:Nat),Vals xs its/\s.heap.get? p=some {cls:=.type "list",data:=.seq its.toArray n}/\xs.length<=sizeLine:=by obtain⟨z,its,n,r,e⟩:=I.bj p _ h;exact⟨its,n,r,e,z⟩
theorem Inv.Yo{ao:List (Addr×Obj)}{O:St}{H:Hp}{s:af}{p:Addr}{xs ys:List V}{its its':List Value}{n n':Nat}{f:Obj->Obj}(I:Inv X ao O H s)(h:H p=some (.lst xs)) (ho:s.heap.get? p=some {cls:=.type "list",data:=.seq its.toArray n})(hf:f {cls:=.type "list",data:=.seq its.toArray n}={cls:=.type "list",data:=.seq its'.toArray n'})(r:Vals ys its')(hz:ys.length<=sizeLine)(t:Nat): Inv X ao O (upd H p (.lst ys)) {s with heap:=s.heap.update p f,toks:=t}:=by
 have e:(s.heap.update p f).get? p=some {cls:=.type "list",data:=.seq its'.toArray n'}:=by rw[BO f ho (by rw[hf]<;>rfl),hf]
 refine I.write (x:=p) (e:=p) (by rw[h];trivial) (.inl Z) (λb u hb q=>(yQ _ _ (jg hb)).trans q) ⟨_,e⟩ ?_;exact⟨hz,its',n',r,e⟩
inductive a6H(o:V)(i:V)(v:V)(H:Hp)(Q:Hp->Prop):Prop |mk (p:_)(xs:_)(k:_)(j:_)(h0:o= .ref p)(h1:i= .int k)(h2:H p=some (.lst xs))(h3:gH xs.length k=some j)(h4:Q (upd H p (.lst (xs.set j v))))
def Vb:V->V->V->Hp->(Hp->Prop)->Prop:=λo i v H Q=>a6H o i v H Q
theorem set_list:QR X Vb:=by
 intro ao s O H o i v ov iv u Q I ro ri rv h;obtain⟨p,xs,k,j,rfl,rfl,hp,hj,q⟩:=h;cases ro;obtain⟨t,rfl⟩:=ri;obtain⟨its,n,r,ho,hz⟩:=I.lst hp;obtain⟨h1,h2,h3,h4⟩:=NJ hj;have hl:=r.length;have hn:=rJ;have I':Inv X ao O (upd H p (.lst (xs.set j v))) {s with heap:=s.heap.update p (Obj.mapSeq (·.setIfInBounds j u))}:=I.Yo hp ho (Yg its n j u) (r.set rv j) (by rw[tE];exact hz) s.toks;by_cases h0:0<=k
 ·have hk:k.toNat=j:=by rw[seqIndex_of h0 h4]at h1;exact dU h1
  exact PySem.W.ki_setAt ho h0 aq (by rw[dn,<-hl];exact h4) (by rw[hk];exact⟨_,I',q⟩)
 ·have hk:(k+(its.toArray.size:Int)).toNat=j:=by rw[seqIndex_neg aq h3]at h1;rw[dn,<-hl];exact dU h1
  exact PySem.W.ki_setBack ho aq (by rw[dn,<-hl];exact h3) aq (by rw[hk];exact⟨_,I',q⟩)
theorem U8(lo hi:Option Int)(n:Nat):(sliceBounds lo hi none n).1=((HT.bI n 0 lo:Nat):Int)/\(sliceBounds lo hi none n).2.1=((HT.bI n n hi:Nat):Int)/\(sliceBounds lo hi none n).2.2=1:=by
 refine⟨?_,?_,Z⟩
 ·cases lo with |none=>simp[sliceBounds,HT.bI] |some i=>
  simp only[sliceBounds,HT.bI,Option.getD_none,show(1:Int)>0 by decide,qE];by_cases h:i<0
  ·simp only[h,qE]<;>lia
  ·simp only[h,if_false]<;>lia
 ·cases hi with |none=>simp[sliceBounds,HT.bI] |some i=>
  simp only[sliceBounds,HT.bI,Option.getD_none,show(1:Int)>0 by decide,qE];by_cases h:i<0
  ·simp only[h,qE]<;>lia
  ·simp only[h,if_false]<;>lia
theorem U9(its:List Value)(lo hi:Option Int):slicePick its.toArray lo hi none=((its.drop (HT.bI its.length 0 lo)).take (HT.bI its.length its.length hi-HT.bI its.length 0 lo)).toArray:=by obtain⟨h1,h2,h3⟩:=U8 lo hi its.toArray.size;unfold slicePick;rw[h1,h2,h3];simp only[sliceRange_one,pick_run,dn]<;>rfl
inductive a6E(K:a8)(x:V)(lo:Option Int)(hi:Option Int)(H:Hp)(Q:VK):Prop |mk (a:_)(xs:_)(h0:x= .ref a)(h1:aK K H a xs)(h2:∀p,H p=none->Q (.ref p) (upd H p (.lst (fm xs lo hi))))
def V8(K:a8):V->Option Int->Option Int->Hp->VK->Prop:=λx lo hi H Q=>a6E K x lo hi H Q
theorem Ua:yf X (V8 X.K):=by intro ao s O H x v vl vu lo hi sl Q I rx hs pl pu h;obtain⟨a,xs,rfl,hx,q⟩:=h;cases rx;obtain⟨its,r,ht,hz⟩:=I.list hx;have hlen:=r.length;refine⟨"list",_,slot_list_getitem.lookup,ht.isList.typeIs,?_⟩;refine wpAny_getItem_list_slice ht.isList hs pl pu .none (by simp) ?_ (by rw[dn]<;>lia);rw[U9,<-hlen];refine⟨.ref s.heap.objs.size,_,I.laid (t':=s.toks) (o:=.lst (fm xs lo hi)) (λb ob q=>cw _ q) (bw _) ?_,Z,q _ (I.bj.fresh (bw _))⟩;exact⟨eL (mT xs lo hi) hz,_,0,(r.drop (HT.bI xs.length 0 lo)).take (HT.bI xs.length xs.length hi-HT.bI xs.length 0 lo),eu _ Z⟩
theorem a4j:eH X (.builtin "len") (λxs H Q=>∃p ys,xs=[.ref p]/\(aK X.K H p ys\/aV X.K H p ys)/\Q (.int ys.length) H):=by
 intro ao s O H xs us Q I r h;obtain⟨p,ys,rfl,hq,q⟩:=h;obtain⟨u,rfl,rx⟩:=vals1 r;cases rx;have hn:=rJ;rcases hq with hq|hq
 ·obtain⟨its,r',pl,hz⟩:=I.list hq
  have hlen:=r'.length;exact Calls.call_len_list pl.isList (by simp only[dn]<;>lia) ⟨.int ys.length,H,I.tok _,⟨s.toks+1,by rw[dn,hlen]⟩,q⟩
 ·obtain⟨its,r',pl,hz⟩:=I.tuple hq
  have hlen:=r'.length;exact len_tuple pl (by simp only[dn]<;>lia) ⟨.int ys.length,H,I.tok _,⟨s.toks+1,by rw[dn,hlen]⟩,q⟩
theorem a4i:eH X (.builtin "len") (λxs H Q=>∃z,xs=[.str z]/\z.length<=sizeLine/\Q (.int z.length) H):=by intro ao s O H xs us Q I r h;obtain⟨z,rfl,hz,q⟩:=h;obtain⟨u,rfl,t,rfl⟩:=vals1 r;have hn:=rJ;exact len_str aq ⟨.int z.length,H,I.tok _,⟨_,Z⟩,q⟩
theorem eH.or{f:Value}{r r':List V->Hp->VK->Prop}(h:eH X f r)(h':eH X f r'):eH X f (λxs H Q=>r xs H Q\/r' xs H Q):=by
 intro ao s O H xs us Q I rs q;rcases q with q|q
 ·exact h ao s O H xs us Q I rs q
 ·exact h' ao s O H xs us Q I rs q
theorem a4h:eH X (.type "list") (λxs H Q=>∃p ys,xs=[.ref p]/\(aK X.K H p ys\/aV X.K H p ys)/\∀l,H l=none->Q (.ref l) (upd H l (.lst ys))):=by
 intro ao s O H xs us Q I r h;obtain⟨p,ys,rfl,hq,q⟩:=h;obtain⟨u,rfl,rx⟩:=vals1 r;cases rx;have fin:∀(its:List Value),Vals ys its->ys.length<=sizeLine->∀(h':Heap)(c':Nat),(∀b o',s.heap.get? b=some o'->h'.get? b=some o')->h'.get? s.heap.objs.size=some {cls:=.type "list",dict:=none,data:=.seq its.toArray c',slots:=#[]}->EP X ao O Q (.ref s.heap.objs.size) {s with heap:=h'}:=λits r' hz h' c' kp e=>⟨.ref s.heap.objs.size,_,I.laid (t':=s.toks) kp (bw _) (show fe X.prog X.w _ h' _ (.lst ys)from⟨hz,its,c',r',e⟩),Z,q _ (I.bj.fresh (bw _))⟩;rcases hq with hq|hq
 ·obtain⟨its,r',pl,hz⟩:=I.list hq
  have hlen:=r'.length;obtain⟨o,ho,hc,n,hd⟩:=pl.isList;exact call_list_seq p (.inl Z) ho hc hd (λh' c' kp e=>fin its r' hz h' c' kp e) (by simp only[dn]<;>lia)
 ·obtain⟨its,r',pl,hz⟩:=I.tuple hq
  have hlen:=r'.length;obtain⟨o,ho,hc,n,hd⟩:=pl;exact call_list_seq p (.inr Z) ho hc hd (λh' c' kp e=>fin its r' hz h' c' kp e) (by simp only[dn]<;>lia)
theorem a4c:eH X (.type "tuple") (λxs H Q=>∃p ys,xs=[.ref p]/\((aK X.K H p ys/\∀l,H l=none->Q (.ref l) (upd H l (.tup ys)))\/(aV X.K H p ys/\Q (.ref p) H))):=by
 intro ao s O H xs us Q I r h;obtain⟨p,ys,rfl,h⟩:=h;obtain⟨u,rfl,rx⟩:=vals1 r;cases rx;rcases h with⟨hq,q⟩|⟨hq,q⟩
 ·obtain⟨its,r',pl,hz⟩:=I.list hq
  have hlen:=r'.length;refine call_tuple_list pl.isList (λh' kp=>?_) (by simp only[dn]<;>lia);have I1:Inv X ao O H {s with heap:=h'}:=I.kept (t':=s.toks) kp;have I2:Inv X ao O (upd H h'.objs.size (.tup ys)) {s with heap:=h'.push {cls:=.type "tuple",data:=.seq its.toArray}}:=I1.laid (t':=s.toks) (λb o e=>cw _ e) (bw _) (show fe X.prog X.w _ _ _ (.tup ys)from⟨hz,its,r',IsTup.new _ _⟩);exact⟨.ref h'.objs.size,_,I2,Z,q _ (I1.bj.fresh (bw _))⟩
 ·obtain⟨its,r',pl,hz⟩:=I.tuple hq
  exact call_tuple_same pl ⟨.ref p,H,I,Z,q⟩
def Ja(K:a8)(T:String)(x:V)(H:Hp):Prop:=match x with | .str _=>T="str" | .int _=>T="int" | .ref p=>(T="list"/\∃xs,aK K H p xs)\/(T="tuple"/\∃o,K.lookup p=some o/\o.cls= .type "tuple"/\o.dict=none)\/ (T="dict"/\((∃dJ,H p=some (.dK dJ))\/∃dJ,H p=some (.dT dJ)))\/(T="set"/\∃S n,H p=some (.set S n)) |_=>False
theorem Sw{ao:List (Addr×Obj)}{O:St}{H:Hp}{s:af}{T:String}{x:V}{v:Value}(I:Inv X ao O H s)(r:RelV x v)(ty:Ja X.K T x H): s.TypeIs v T/\∀a,v= .ref a->∃ob,s.heap.get? a=some ob/\ob.dict=none:=by cases x with
 |str z=>obtain⟨t,rfl⟩:=r;cases(show T="str" from ty);exact⟨typeIs_str s z t,λ_ e=>nomatch e⟩ |int i=>obtain⟨t,rfl⟩:=r;cases(show T="int" from ty);exact⟨typeIs_int s i t,λ_ e=>nomatch e⟩ |ref p=>
  cases r;rcases ty with⟨rfl,xs,hq⟩|⟨rfl,o,hk,hc,hd⟩|⟨rfl,hk⟩|⟨rfl,S,n,hk⟩
  ·obtain⟨its,_,pl,_⟩:=I.list hq
   refine⟨pl.isList.typeIs,λa e=>?_⟩;cases e;obtain⟨o,n,e,c,hd,_⟩:=pl;exact⟨o,e,hd⟩
  ·refine⟨⟨o,I.fX p o hk,hc⟩,λa e=>?_⟩
   cases e;exact⟨o,I.fX _ o hk,hd⟩
  ·have z:∃o,s.heap.get? p=some o/\o.ExactDict:=by
    rcases hk with⟨dJ,hk⟩|⟨dJ,hk⟩
    ·obtain⟨_,_,_,_,o,_,_,e,ex,_⟩:=I.bj p _ hk
     exact⟨o,e,ex⟩
    ·obtain⟨_,_,_,_,o,_,_,e,ex,_⟩:=I.bj p _ hk
     exact⟨o,e,ex⟩
   obtain⟨o,e,ex⟩:=z;refine⟨⟨o,e,ex.1⟩,λa e2=>?_⟩;cases e2;exact⟨o,e,ex.2.1⟩
  ·obtain⟨o,_,_,_,e,ex,_⟩:=I.bj p _ hk
   refine⟨⟨o,e,ex.1⟩,λa e2=>?_⟩;cases e2;exact⟨o,e,ex.2.1⟩ |_=>exact False.elim ty
def zh(K:a8)(T:String)(r:V->List V->Hp->VK->Prop)(to:TE)(t:TA):TE:=λO H Q=>to O H λx H1=>Ja K T x H1/\t O H1 λxs H2=>r x xs H2 Q
variable {o e:Expr}{es:List Expr}{to:TE}{t:TA}{name:Str}{apos dR:Pos}{T id:String}{r:V->List V->Hp->VK->Prop}
theorem EV(pa:PlainAttrs T)(slot:Slot T name id)(FV:typeOf (.builtin id)=pure (.type "method_descriptor"))(hm:QW X id r)(ho:PE X o to)(ha:PA X (e::es) t) (si:attributeBase o name X.env (eval o X.env)=eval o X.env:=by rfl) (rY:((backTo dR (starEach (e::es) X.env)).all (λx=>!x.1)&&(backToKw dR (keywordEach [] X.env)).all (λx=>x.1.isSome) &&decide ((e::es).length+([]:List Keyword).length+(if([]:List Keyword).isEmpty then 0 else 1)<30))=true:=by rfl) (rT:(apos.endLine==dR.line)=true:=by rfl)(hs:starEach (e::es) X.env=(false,eval e X.env)::starEach es X.env:=by rfl)(rO:(backTo dR (starEach es X.env)).any (·.1)=false:=by rfl): PE X (.Call (.Attribute o name apos) (e::es) [] dR) (zh X.K T r to t):=by intro ao s O H Q I h;refine wpAny_Call_method_late si rY rT Z (aY (ho ao s O H _ I h) λv s1 ⟨x,H1,I1,r1,ty,q1⟩=>?_);obtain⟨h1,h2⟩:=Sw I1 r1 ty;refine⟨T,id,pa,slot,FV,h1,h2,?_⟩;have hA:=ha dR ao s1 O H1 _ I1 q1;rw[hs]at hA⊢;refine Calls.callWith_builtin (by show(false||(backTo dR (starEach es X.env)).any (·.1))=false;rw[rO]<;>rfl) (Calls.evalArgs_plain ?_);exact aY hA λus s2 ⟨vs,H2,I2,r2,q2⟩=>hm ao s2 O H2 x vs v us Q I2 r1 r2 q2
end
def QX(X:Cx)(id:String)(r:V->List V->Hp->VK->Prop):Prop:=∀(ao:List (Addr×Obj))(s:af)(O:St)(H:Hp)(x:V)(xs:List V)(v:Value)(us:List Value)(Q:VK),Inv X ao O H s->RelV x v->Vals xs us->r x xs H Q->wpAny (model X.prog X.w) X.A (call (.builtin id) (v::us)) (EP X ao O Q) X.xe s
theorem Vals.one:∀{x:V}{us:List Value},Vals [x] us->∃u,us=[u]/\RelV x u |_,_,.cons r .nil=>⟨_,Z,r⟩
theorem Vals.reverse{xs:List V}{us:List Value}(h:Vals xs us):Vals xs.reverse us.reverse:=by induction h with |nil=>exact .nil |cons r t ih=>rw[IE,IE];exact Vals.append ih (.cons r .nil)
theorem Vals.rep{xs:List V}{us:List Value}(h:Vals xs us):∀k:Nat,Vals (List.replicate k xs).flatten (List.replicate k us).flatten |0=>.nil |k+1=>by rw[qI,qI,BK,BK];exact Vals.append h (Vals.rep h k)
theorem foldl_rep(its:List Value):∀(k:Nat)(acc:List Value),List.foldl (λx1 x2=>x1++x2) acc.toArray (List.replicate k its.toArray)=(acc++(List.replicate k its).flatten).toArray
 |0,acc=>by simp |k+1,acc=>by
  have e:acc.toArray++its.toArray=(acc++its).toArray:=by simp
  have e2:(acc++its)++(List.replicate k its).flatten=acc++(List.replicate (k+1) its).flatten:=by rw[qI,BK,List.append_assoc]
  rw[<-e2,<-foldl_rep its k (acc++its),<-e,qI,List.foldl_cons]
section
variable {X:Cx}{ao:List (Addr×Obj)}{O:St}{H:Hp}{s:af}{l b:Addr}{xs ys zs:List V}
theorem Inv.Nh{its its':List Value}{n:Nat}{f:Array Value->Array Value}{t':Nat}(I:Inv X ao O H s)(hH:H l=some (.lst xs)) (e:s.heap.get? l=some {cls:=.type "list",data:=.seq its.toArray n})(hf:f its.toArray=its'.toArray)(hv:Vals ys its')(hz:ys.length<=sizeLine): Inv X ao O (upd H l (.lst ys)) {s with heap:=s.heap.update l (Obj.mapSeq f),toks:=t'}:=by have q:=PySem.IsL.update e f;rw[hf]at q;refine I.write (x:=l) (e:=l) (by rw[hH];exact trivial) (.inl Z) (λb' u hb hu=>(yQ s.heap (Obj.mapSeq f) (jg hb)).trans hu) ⟨_,q⟩ ?_;exact⟨hz,its',_,hv,q⟩
theorem Inv.zZ{its:List Value}{t':Nat}(I:Inv X ao O H s)(hv:Vals ys its)(hz:ys.length<=sizeLine): Inv X ao O (upd H s.heap.objs.size (.lst ys)) {s with heap:=s.heap.push {cls:=.type "list",data:=.seq its.toArray},toks:=t'}:=I.laid (λ_ _ q=>cw _ q) (bw _) ⟨hz,its,0,hv,eu _ Z⟩
theorem Inv.fresh(I:Inv X ao O H s):H s.heap.objs.size=none:=I.bj.fresh (bw _)
theorem Inv.zX(I:Inv X ao O H s)(hH:H l=some (.lst xs)):xs.length<=sizeLine/\∃(its:List Value)(n:Nat),Vals xs its/\xs.length=its.length/\s.heap.get? l=some {cls:=.type "list",data:=.seq its.toArray n}:=by obtain⟨z,its,n,r,e⟩:=I.bj l _ hH;exact⟨z,its,n,r,r.length,e⟩
theorem MO{n:Nat}(h:n<=sizeLine):Builtin.List.listTooLong n=false:=by unfold Builtin.List.listTooLong;exact cy aq
end
section
variable {X:Cx}
inductive a6Z(x:V)(vs:List V)(H:Hp)(Q:VK):Prop |mk (l:_)(xs:_)(y:_)(h0:x= .ref l)(h1:vs=[y])(h2:H l=some (.lst xs))(h3:xs.length<sizeLine)(h4:Q .bR (upd H l (.lst (xs++[y]))))
def Mh:V->List V->Hp->VK->Prop:=λx vs H Q=>a6Z x vs H Q
theorem zT:QX X "list.append" Mh:=by
 intro ao s O H x vs v us Q I rx rv h;obtain⟨l,xs,y,rfl,rfl,hH,hz,q⟩:=h;cases rx;obtain⟨u,rfl,ru⟩:=rv.one;obtain⟨z,its,n,r,hl,e⟩:=I.zX hH;refine call_meets F.slot_list_append ⟨_,e,Z⟩ F.entry_list_append (F.args_list_append_2 _ _) (PySem.list_append l its.toArray n u (by rw[dn];lia)) ⟨e,?_⟩;refine⟨.bR,_,I.Nh (its':=its++[u]) hH e (by simp) (r.append (.cons ru .nil)) ?_,Z,q⟩;rw[cB,oP]
 lia
inductive a6V(x:V)(vs:List V)(H:Hp)(Q:VK):Prop |mk (l:_)(b:_)(xs:_)(zs:_)(h0:x= .ref l)(h1:vs=[.ref b])(h2:H l=some (.lst xs))(h3:H b=some (.lst zs))(h4:xs.length+zs.length<=sizeLine)(h5:Q .bR (upd H l (.lst (xs++zs))))
def Mg:V->List V->Hp->VK->Prop:=λx vs H Q=>a6V x vs H Q
theorem Yb:QX X "list.extend" Mg:=by
 intro ao s O H x vs v us Q I rx rv h;obtain⟨l,b,xs,zs,rfl,rfl,hH,hB,hz,q⟩:=h;cases rx;obtain⟨u,rfl,ru⟩:=rv.one;cases ru;obtain⟨z,its,n,r,hl,e⟩:=I.zX hH;obtain⟨z2,jU,n2,r2,pP,e2⟩:=I.zX hB;have wY:its.toArray.size+jU.toArray.size<=sizeLine:=by rw[dn,dn];lia
 have G8:¬(!its.toArray.isEmpty&&Builtin.List.listTooLong (its.toArray.size+jU.toArray.size))=true:=by rw[MO wY,BP];exact gM
 refine call_meets F.slot_list_extend ⟨_,e,Z⟩ F.entry_list_extend (F.args_list_extend_2 _ _) (AutoSeq1.list_extend_list_list_0 l its.toArray n b jU.toArray n2 G8 (by rw[dn];lia) aq) ⟨e,e2,?_⟩;refine⟨.bR,_,I.Nh (its':=its++jU) hH e (by simp) (r.append r2) ?_,Z,q⟩;rw[cB]
 lia
inductive a6I(x:V)(y:V)(H:Hp)(Q:VK):Prop |mk (l:_)(k:_)(xs:_)(h0:x= .ref l)(h1:y= .int k)(h2:H l=some (.lst xs))(h3:-(2^63)<=k)(h4:k<2^63)(h5:xs.length*k.toNat<=sizeLine)(h6:∀p,H p=none->Q (.ref p) (upd H p (.lst (List.replicate k.toNat xs).flatten)))
def Vc:R2:=λx y H Q=>a6I x y H Q
theorem len_rep{α:Type}(xs:List α)(k:Nat):(List.replicate k xs).flatten.length=k*xs.length:=by induction k with |zero=>simp |succ k ih=>rw[qI,BK,cB,ih,Nat.succ_mul,Nat.add_comm]
theorem W4:cP X (binaryOp .Mult) Vc:=by
 intro ao s O H x y v u Q I rx ry h;obtain⟨l,k,xs,rfl,rfl,hH,h1,h2,hz,q⟩:=h;cases rx;obtain⟨t,rfl⟩:=ry;obtain⟨z,its,n,r,hl,e⟩:=I.zX hH;have hlen:its.toArray.size*k.toNat<=sizeLine:=by rw[dn,<-hl];exact hz
 have a0u:¬its.toArray.size*k.toNat>(2^63-1)/8:=by
  have:(sizeLine:Nat)<=(2^63-1)/8:=by decide
  lia
 have a0k:¬(!Builtin.List.listFitsIndex k)=true:=by rw[fitsIndex_both h1 h2];exact gM
 have G8:¬Builtin.List.listTooLong (its.toArray.size*k.toNat)=true:=by rw[MO hlen];exact gM
 have ZN:List.foldl (λx1 x2=>x1++x2) #[] (List.replicate (if its.toArray.isEmpty=true then 0 else k.toNat) its.toArray)=(List.replicate k.toNat its).flatten.toArray:=by
  have f0:∀m:Nat,List.foldl (λx1 x2=>x1++x2) #[] (List.replicate m its.toArray)=(List.replicate m its).flatten.toArray:=λm=>by have:=foldl_rep its m [];rw[List.nil_append]at this;exact this
  rw[f0];cases its with |nil=>simp |cons a r'=>rw[bf (by simp)]
 refine wpAny_binaryOp_repeat_ref (T:="list") (U:="int") au ⟨_,e,Z⟩ (λs'=>typeIs_int s' k t) noFill_list_mul F.fills_int_mul F.slot_int_rmul repeat_list F.slot_int_index.lookup (call_meets F.slot_int_rmul (typeIs_int s k t) F.entry_int_rmul (F.args_int_rmul_2 _ _) (int___rmul___int_list k t l its.toArray n) ⟨e,Z,⟨_,e,Z⟩,call_meets F.slot_list_mul ⟨_,e,Z⟩ F.entry_list_mul (F.args_list_mul_2 _ _) (AutoListH.list___mul___list_int_3 l its.toArray n k t a0k a0u G8) ⟨e,?_⟩⟩);rw[ZN];exact⟨.ref _,_,I.zZ (t':=s.toks) (r.rep k.toNat) (by rw[len_rep,Nat.mul_comm];exact hz),Z,q _ I.fresh⟩
end
section
variable {prog:ag}{w:World}{A:ai}{E:Value->af->Prop}{s:af}
end
section
variable {X:Cx}
end
end L2
namespace Att
open PySem PySem.W PySem.Calls PyProof.Rows
theorem Z6{P:Params}{h:Heap}:∀(ns:List Int)(vs:List Value),WellAll P h vs (ns.map WData.int)->IntsAre vs ns:=by intro ns;induction ns with |nil=>intro vs w;rw[List.map_nil]at w;cases w;exact .nil |cons n ns ih=>intro vs w;rw[IK]at w;cases w with |cons a b=>cases a;exact .cons _ _ (ih _ b)
theorem Ul{l:OpenLaw}{n:Nat}(hn:l.most=some n){P:Params}{h:Heap}{args:List WData}{vals:List Value} (Al:l.row.toRowW.claim.pre args=true)(FT:WellAll P h vals args): ∃a vs ns,vals=[Value.ref a]/\args=[WData.list (ns.map WData.int)]/\h.get? a=some {cls:=.type "list",data:=.seq vs.toArray}/\IntsAre vs ns/\ns.length<=n:=by
 have Zy:WShape.hasAll [] args [.list .int]=true:=(pre_splitW Al).1;have hc:l.pre.holds [] {args:=args}=true:=(pre_splitW Al).2;obtain⟨d,r,rfl,h1,h2⟩:=hasAllW_cons Zy;obtain rfl:=hasAllW_nil h2;obtain⟨xs,rfl,h3⟩:=hasW_list h1;obtain⟨ns,rfl⟩:=items_int h3;have hlen:ns.length<=n:=by
  unfold OpenLaw.pre at hc;have h4:(WTm.not (.lt (.lit (.int (n:Int))) (.len (.arg 0)))).holds [] {args:=[.list (ns.map .int)]}=true:=by have h4:=(holds_andW hc).1;rw[hn]at h4;exact h4
  have h5:=condW_of h4 (w_not (w_lt w_lit (w_len_list (w_arg Z))));rw[bB]at h5;refine Nat.le_of_not_lt λq=>?_;have q':(n:Int)<((ns.length:Nat):Int):=by omega
  first |(rw[bT q']at h5;exact absurd h5 au) |(simp at h5;omega)
 cases FT with |cons w1 w2=>cases w2;cases w1 with |list ho a0H=>exact⟨_,_,ns,Z,Z,ho,Z6 ns _ a0H,hlen⟩
theorem Vw(l:OpenLaw)(args:List WData):l.row.toRowW.claim.post args (.bool true) args=true:=postW_of (r:=l.row.toRowW) (X:=(true==true)) (show WShape.has [] (.bool true) .bool=true by first|rfl|decide|simp[WShape.has,WShape.arms,WShape.armsAll]) (show(WTm.eq .res (.lit (.bool true))).value [] {args:=args,res:=some (.bool true),after:=args}=some (.bool (true==true))from w_eq_bool (w_res Z) w_lit) rfl
theorem a4I{l:OpenLaw}{n:Nat}{q:ag}{loose:List Str}{XP:(bS)->Heap->Prop}{YP:World->Heap->Prop}{d:DefRec} (hn:l.most=some n)(xn:d.params.defaults=[]) (call:∀(w:World)(s₀ s₁:af)(mg mb:bS)(fa:Addr)(o:Obj)(pm cd doc:Value)(a:Addr)(vs:List Value)(ns:List Int),Ground q loose [] XP w s₀ mg mb s₁.heap->YP w s₁.heap->s₁.heap.get? fa=some o->o.data= .func (docDef d.name d.params d.body d.scope pm cd doc)->s₁.heap.CodeRec cd d.name->mg d.name=some (.ref fa)->s₁.heap.get? a=some {cls:=.type "list",data:=.seq vs.toArray}->IntsAre vs ns->ns.length<=n->s₁.gens=#[]->codeAny (model l.prog w) callerA (.call (.ref fa) ⟨[.ref a],[]⟩) (λr s'=>r= .ok (.ret (.bool true))/\OldK s₁.heap s'.heap/\s'.os=s₁.os/\AllBare s'.gens) s₁): WalkO q loose XP YP l.row.toRowW d [] (λf vs=>PySem.call f vs):=by intro w s₀ s₁ mg mb G Y fa o pm cd doc dV kV ho hd eR hD xg hg args vals as Al a86 NY FT hlo;obtain rfl:dV= .none:=Dflts.none hD xn;obtain rfl:kV= .none:=Dflts.noKw hD;obtain⟨a,vs,ns,rfl,rfl,G2,hints,hlen⟩:=Ul hn Al FT;refine enter_call (vi (call w s₀ s₁ mg mb fa o pm cd doc a vs ns G Y ho (fd_plain hd) eR xg G2 hints hlen hg) λr s' hq=>?_);obtain⟨rfl,h2,h3,h4⟩:=hq;exact⟨.inl ⟨.bool true,.bool true,[],Z,λ_=>rfl,.bool true,Vw l _,λ_=>⟨List.Pairwise.nil,λ_ hm=>(nomatch hm)⟩⟩,h2,h3,h4⟩
section
variable {prog:ag}{w:World}{A:ai}{E:Value->af->Prop}{s:af}{K:Frag}
end
end Att
namespace L2
open PySem PySem.Spec PyProof.Rows
theorem J9:∀{vs:List Value}{ns:List Int},IntsAre vs ns->Vals (ns.map V.int) vs |_,_,.nil=>.nil |_,_,.cons n t h=>.cons ⟨t,Z⟩ (J9 h)
def HV(H:Hp):Prop:=∀b,H b=none\/∃o xs,H b=some (.lM o (.lst xs))
theorem YK{P:ag}{w:World}{K:a8}{mg mb:bS}{CX:jf}{k:Nat}{fa a:Addr}{fd:FuncData}{x:Str}{sp:Sp}{s₁:af}{vs:List Value}{ns:List Int} (KX:K.In s₁.heap)(O4:s₁.heap.Ns mainGlobals mg)(hb:s₁.heap.Ns builtinsNs mb)(hbb:∀x:Str,x≠"__name__"->mb x=bootBuiltins x)(ZU:s₁.heap.NoLimit)(hg:s₁.gens=#[]) (ha:s₁.heap.get? a=some {cls:=.type "list",data:=.seq vs.toArray})(hi:IntsAre vs ns)(hl:ns.length<=sizeLine)(hr:dm k callerA) (F:∀az:Heap,K.In az->az.Ns mainGlobals mg->ij P w K mg az CX k fa fd [x] sp)(a0z:∀(s:af)(u:Value),BindsTo s fd ⟨[u],[]⟩ [(x,u)]) (fY:∀H:Hp,HV H->aK K H a (ns.map V.int)->sp [.ref a] H (λv _=>v= .bl true) λ_ _ _=>False) (Gn:∀H e s',CX [] H s₁ (λ_ _ _=>False) e s'->False): codeAny (model P w) callerA (.call (.ref fa) ⟨[.ref a],[]⟩) (λr s'=>r= .ok (.ret (.bool true))/\OldK s₁.heap s'.heap/\s'.os=s₁.os/\AllBare s'.gens) s₁:=by
 have rv:=J9 hi;have YE:=hi.length;have core:∀H:Hp,HV H->aK K H a (ns.map V.int)->dH P w H s₁.heap->(∀b,H b≠none->b=a)->(H a≠none->K.lookup a=none)->codeAny (model P w) callerA (.call (.ref fa) ⟨[.ref a],[]⟩) (λr s'=>r= .ok (.ret (.bool true))/\OldK s₁.heap s'.heap/\s'.os=s₁.os/\AllBare s'.gens) s₁:=by
  intro H hO hS bj hA hK;have Qn:∀{b:Addr}{o:Obj},s₁.heap.get? b=some o->H b=none->(ou s₁.heap H).get? b=some o:=λe n=>a0e e n;have wD:∀{b:Addr}{o:Obj}{es:Array DictEntry}{ep:Nat},s₁.heap.get? b=some o->o.data= .dict es ep->H b=none:=λ{b o es ep} e d=>by cases q:H b with |none=>rfl |some u=>have e':b=a:=hA b (by rw[q];simp);subst e';rw[ha]at e;cases e;have d':Data.seq vs.toArray _=Data.dict es ep:=d;cases d'
  have zN:∀{b:Addr}{m:bS},s₁.heap.Ns b m->(ou s₁.heap H).Ns b m:=λ{b m} ⟨o,es,ep,e,d,r⟩=>⟨o,es,ep,Qn e (wD e d),d,r⟩;have Oz:K.In (ou s₁.heap H):=λb o e=>Qn (KX b o e) (by cases q:H b with |none=>rfl |some u=>have e':b=a:=hA b (by rw[q];simp);subst e';rw[hK (by rw[q];simp)]at e;cases e);have hM:Mod K mg (ou s₁.heap H):=⟨Oz,zN O4,⟨mb,zN hb,hbb⟩,let⟨mc,h1,h2⟩:=ZU;⟨mc,zN h1,h2⟩⟩;have e0:oM P w K mg (ou s₁.heap H) callerA [] s₁ H:=⟨Z,hM,λb o e=>XF e,Nat.le_of_eq (a0d _ _),trivial,λb hb=>absurd (show b∈([]:List Addr)from hb) (by simp),bj,.of_eq hg⟩;refine vi ((F _ Oz (zN O4)).run callerA [] s₁ H ⟨[.ref a],[]⟩ [.ref a] [.ref a] _ _ hr e0 (a0z s₁ (.ref a)) (.cons Z .nil) (fY H hO hS)) λr s' h=>?_;cases r with |error e=>exact(Gn H e s' h).elim |ok fl=>cases fl with |next=>exact False.elim h |brk=>exact False.elim h |cont=>exact False.elim h |ret u=>obtain⟨v,H',os,bare,un,ZH,r',q⟩:=h;have q':v= .bl true:=q;subst q';obtain rfl:u=Value.bool true:=r';refine⟨Z,OldK.of_keep λb o e=>?_,os,bare⟩;cases q:H b with |none=>exact un.keep b o e q (by intro z;exact absurd (show b∈([]:List Addr)from z) (by simp)) (by simp) |some u=>
   rcases hO b with z|⟨ob,xs,z⟩
   ·rw[q]at z;cases z
   ·have z2:=un.ja b ob _ z
    obtain⟨e1,_⟩:=bj b _ z;obtain⟨e2,_⟩:=ZH b _ z2;rw[e]at e1;cases e1;exact e2
 cases hk:K.lookup a with |some o=>have e:=KX a o hk;rw[ha]at e;cases e;refine core (λ_=>none) (λ_=>.inl Z) (.inr ⟨_,vs.toArray,_,hk,Z,Z,Z,by rw[dn,YE];exact hl,by simpa using rv⟩) (λb u z=>by have z':(none:Option HO)=some u:=z;cases z') (λb z=>absurd rfl z) λz=>absurd rfl z |none=>
  refine core (λb=>if b=a then some (.lM {cls:=.type "list",data:=.seq vs.toArray} (.lst (ns.map V.int)))else none) (λb=>?_) (.inl (.inr ⟨{cls:=.type "list",data:=.seq vs.toArray},aX Z⟩)) (λb u z=>?_) (λb z=>?_) λ_=>hk
  ·by_cases hb:b=a
   ·exact .inr ⟨_,_,aX hb⟩
   ·exact .inl (bf hb)
  ·by_cases hb:b=a
   ·have z':=(aX hb).symm.trans z
    cases z';subst hb;exact⟨ha,by rw[bB];exact hl,vs,_,rv,ha⟩
   ·have z':=(bf hb).symm.trans z
    cases z'
  ·by_cases hb:b=a
   ·exact hb
   ·exact absurd (bf hb) z
theorem Si{l:PySem.W.OpenLaw}{n k:Nat}{q:ag}{loose:List Str}{XP:(bS)->Heap->Prop}{YP:World->Heap->Prop}{d:DefRec}{K:Params->a8}{CX:World->jf}{sp:World->Sp}{x:Str} (hn:l.most=some n)(G5:n<=sizeLine)(xn:d.params.defaults=[])(hr:dm k callerA) (hY:∀(w:World)(h:Heap),YP w h->(K w.params).In h) (F:∀(w:World)(mg:bS)(fa:Addr)(h:Heap),(K w.params).In h->h.Ns mainGlobals mg->mg d.name=some (.ref fa)->∃fd:FuncData,(∀(s:af)(u:Value),BindsTo s fd ⟨[u],[]⟩ [(x,u)])/\∀az:Heap,(K w.params).In az->az.Ns mainGlobals mg->ij l.prog w (K w.params) mg az (CX w) k fa fd [x] (sp w)) (fY:∀(w:World)(H:Hp)(a:Addr)(ns:List Int),ns.length<=n->HV H->aK (K w.params) H a (ns.map V.int)->sp w [.ref a] H (λv _=>v= .bl true) λ_ _ _=>False) (Gn:∀(w:World)(H:Hp)(s:af)(e:Value)(s':af),CX w [] H s (λ_ _ _=>False) e s'->False): PySem.W.WalkO q loose XP YP l.row.toRowW d [] (λf vs=>PySem.call f vs):=by refine Att.a4I hn xn λw s₀ s₁ mg mb fa o pm cd doc a vs ns G Y ho hd eR xg G2 hints hlen hg=>?_;have KX:=hY w _ Y;obtain⟨fd,hb,hF⟩:=F w mg fa _ KX G.T.g xg;exact YK KX G.T.g G.T.b G.T.builtins G.T.nolimit hg G2 hints (eL hlen G5) hr hF hb (λH hO hS=>fY w H a ns hlen hO hS) λH e s'=>Gn w H s₁ e s'
def mS(s:Stmt):Arguments:=match s with | .FunctionDef _ a _ _ _ _ _ _ _ _=>a |_=>{posonlyargs:=[],args:=[],vararg:=none,kwonlyargs:=[],kw_defaults:=[],kwarg:=none,defaults:=[]}
def gZ(s:Stmt):List Stmt:=match s with | .FunctionDef _ _ b _ _ _ _ _ _ _=>b |_=>[]
def bu(s:Stmt):Scope:=match s with | .FunctionDef _ _ _ _ _ _ sc _ _ _=>sc |_=>{kind:=.function,names:=[],isGenerator:=false,isCoroutine:=false}
abbrev hW:jf:=λ_ _ _ _ _ _=>False
abbrev E0:XK:=λ_ _ _=>False
theorem VT{X:Cx}:Passes hW X E0:=λ_ _ _ _ _ _ _ h=>h.elim
structure kQ(K:a8)(x qual:Str)(st:Stmt)(f:Addr)(fd:FuncData):Prop where
 ex:∃(oc:Value)(od:Option Addr)(kV doc pm:Value)(an:Option Addr)(aO ct:Value)(fG:Array (Option Value)),fd=PySem.W.fnOf x qual (mS st) (gZ st) (bu st) .none kV doc pm an aO ct/\K.lookup f=some ⟨oc,od,.func fd,fG⟩/\PySem.W.codeIn K aO qual=true
 kp:PySem.W.keepIn K (.ref f)=true
section
variable {P:ag}{w:World}{K:a8}{mg:bS}{az:Heap}
theorem kQ.ok{x qual:Str}{st:Stmt}{f:Addr}{fd:FuncData}{N ps:List Str}{k:Nat}{sp:Sp}(F:kQ K x qual st f fd)(S:bF N ps (bu st))(len:∀vs H Q E,sp vs H Q E->vs.length=ps.length) (j9:∀(aO:Value)(A:ai)(outer:List Env)(s:af)(H:Hp)(vs:List V)(Q:VK)(E:XK),dm k (A.deeper (envOfC qual (bu st) s.heap.objs.size f aO))->sp vs H Q E->∃t,gn (ie hW P w K mg az N qual (bu st) f aO A outer s H E).rp (gZ st) t/\t {nx:=λ_ H'=>Q .bR H',rt:=Q} (start N vs) H):ij P w K mg az hW (k+1) f fd ps sp:=by obtain⟨oc,od,kV,doc,pm,an,aO,ct,fG,rfl,lk,eR⟩:=F.ex;refine OO lk eR S len λA outer s H vs Q E hr fY=>?_;obtain⟨t,h,q⟩:=j9 aO A outer s H vs Q E hr fY;exact⟨t,h.rp,q⟩
theorem kQ.binds{x qual:Str}{st:Stmt}{f:Addr}{fd:FuncData}{ps:List Str}(F:kQ K x qual st f fd) (h:∀(kV doc pm:Value)(an:Option Addr)(aO ct:Value)(us:List Value),us.length=ps.length->bindArgs (PySem.W.fnOf x qual (mS st) (gZ st) (bu st) .none kV doc pm an aO ct) ⟨us,[]⟩=pure (ps.zip us)):Binds K fd ps []:=by obtain⟨oc,od,kV,doc,pm,an,aO,ct,fG,rfl,lk,eR⟩:=F.ex;exact .all (h kV doc pm an aO ct)
theorem OH{x qual:Str}{st:Stmt}{f:Addr}{oc:Value}{od an:Option Addr}{fG:Array (Option Value)}{kV doc pm aO ct:Value}(l:K.lookup f=some ⟨oc,od,.func (PySem.W.fnOf x qual (mS st) (gZ st) (bu st) .none kV doc pm an aO ct),fG⟩) (c:PySem.W.codeIn K aO qual=true)(k:PySem.W.keepIn K (.ref f)=true):kQ K x qual st f (PySem.W.fnOf x qual (mS st) (gZ st) (bu st) .none kV doc pm an aO ct):=⟨⟨oc,od,kV,doc,pm,an,aO,ct,fG,Z,l,c⟩,k⟩
end
section
variable {X:Cx}
theorem pv(i:Nat){x:Str}{pos:Pos}(hN:X.N[i]? =some x:=by rfl)(hv:HJ X.env.scope x:=by first|exact Or.inl rfl|exact Or.inr (Or.inl rfl)|exact Or.inr (Or.inr rfl))(hd:(x==("__debug__":Str))=false:=by decide) (eR:(x==("__classdict__":Str))=false:=by decide):PE X (.Name x pos) (Jl i):=VJ hN hv hd eR
end
theorem aQ{A B:Prop}(h:B):if false=true then A else B:=by rw[bf gM];exact h
theorem aU{A B:Prop}(h:A):if true=true then A else B:=by rw[aX rfl];exact h
theorem dM{c A B:Prop}[Decidable c](h1:c->A)(h2:¬c->B):if c then A else B:=by
 by_cases h:c
 ·rw[aX h]
  exact h1 h
 ·rw[bf h]
  exact h2 h
def aD(H H':Hp):Prop:=∀b o,H b=some o->H' b=some o
theorem aD.refl(H:Hp):aD H H:=λ_ _ h=>h
theorem aD.trans{H H1 H2:Hp}(a:aD H H1)(b:aD H1 H2):aD H H2:=λc o h=>b c o (a c o h)
theorem aD.free{H H':Hp}(e:aD H H'){l:Addr}(h:H' l=Option.none):H l=Option.none:=by cases q:H l with |none=>rfl |some o=>rw[e l o q]at h;cases h
theorem aD.seq{K:a8}{H H':Hp}{a:Addr}{xs:List V}(e:aD H H')(h:aK K H a xs):aK K H' a xs:=by
 rcases h with(h|⟨o,h⟩)|h
 ·exact .inl (.inl (e _ _ h))
 ·exact .inl (.inr ⟨o,e _ _ h⟩)
 ·exact .inr h
def Wd (i:Int):Prop:=i.natAbs<2^5000
theorem Wd.bits{i:Int}(h:Wd i):Builtin.Int.intBits i<=2^20:=eL (PyProof.Rows.intBits_le h) au
theorem Wd.log{i:Int}(h:Wd i):i.natAbs.log2<9000:=by
 by_cases e:i.natAbs=0
 ·rw[e];decide
 ·have h1:i.natAbs.log2<5000:=(Nat.log2_lt e).mpr h
  lia
section
variable {X:Cx}
theorem nU:cP X (binaryOp .FloorDiv) (rI (λ_ j=>0<j/\Wd j) λi j=>.int (i/j)):=wo λi j _ _ _ _ _ hc q=>by have h1:(0:Int)<j:=hc.1;exact floordiv_int aq (by rw[S2 i aq];exact q) (.inl (PyProof.noPylong_of_log2 hc.2.log))
theorem ME:cP X (binaryOp .FloorDiv) (rI (λ_ j=>j≠0/\Wd j) λi j=>.int (i.fdiv j)):=wo λ_ _ _ _ _ _ _ hc q=>floordiv_int hc.1 q (.inl (PyProof.noPylong_of_log2 hc.2.log))
end
def qw(K:a8)(H:Hp)(x:V)(T:String):Prop:=match x with | .bR=>T="NoneType" | .bl _=>T="bool" | .int _=>T="int" | .str _=>T="str" | .ref a=>(T="list"/\∃xs,aK K H a xs)\/(T="tuple"/\∃xs,aV K H a xs) |_=>False
def eX(T n:String):Bool:=T==n||(T=="bool"&&n=="int")
def z9:List String:=["NoneType","bool","int","str","list","tuple"]
def vB:List String:=["bool","int","str","list","tuple"]
theorem NG{K:a8}{T n:String}(h1:T∈z9)(h2:n∈vB):PySem.W.kitOne K (.type T) (.type n)=some (eX T n):=by
 have all:z9.all (λT=>vB.all λn=>PySem.W.kitOne [] (.type T) (.type n)==some (eX T n))=true:=by decide+kernel
 have a1:=fD.mp all T h1;have a2:=fD.mp a1 n h2;have e:PySem.W.kitOne K (.type T) (.type n)=PySem.W.kitOne [] (.type T) (.type n):=by unfold PySem.W.kitOne PySem.W.kitCls PySem.W.subIn;rfl
 rw[e];exact eU.mp a2
section
variable {X:Cx}
theorem qw.mem{K:a8}{H:Hp}{x:V}{T:String}(h:qw K H x T):T∈z9:=by cases x with |bR=>cases(show T="NoneType" from h);decide |bl b=>cases(show T="bool" from h);decide |int b=>cases(show T="int" from h);decide |str b=>cases(show T="str" from h);decide |ref a=>rcases(show(T="list"/\∃xs,aK K H a xs)\/(T="tuple"/\∃xs,aV K H a xs)from h)with⟨e,_⟩|⟨e,_⟩<;>cases e<;>decide |_=>exact(show False from h).elim
theorem NH{ao:List (Addr×Obj)}{s:af}{O:St}{H:Hp}{x:V}{u:Value}{T:String}(I:Inv X ao O H s)(rx:RelV x u)(ty:qw X.K H x T): ∃P:Heap->Prop,PySem.W.KitX X.K u (.type T) P/\P s.heap/\u≠ .builtin "__main__.__loader__#opaque":=by cases x with
 |bR=>cases(show T="NoneType" from ty);cases(show u=Value.none from rx);exact⟨_,PySem.W.kitx_none,True.intro,λz=>nomatch z⟩ |bl b=>cases(show T="bool" from ty);cases(show u=Value.bool b from rx);exact⟨_,PySem.W.kitx_bool,True.intro,λz=>nomatch z⟩ |int b=>cases(show T="int" from ty);obtain⟨t,q⟩:=(show∃t,u=Value.int b t from rx);cases q;exact⟨_,PySem.W.kitx_int,True.intro,λz=>nomatch z⟩ |str b=>cases(show T="str" from ty);obtain⟨t,q⟩:=(show∃t,u=Value.str b t from rx);cases q;exact⟨_,PySem.W.kitx_str,True.intro,λz=>nomatch z⟩ |ref a=>
  cases(show u=Value.ref a from rx);rcases(show(T="list"/\∃xs,aK X.K H a xs)\/(T="tuple"/\∃xs,aV X.K H a xs)from ty)with⟨e,xs,hx⟩|⟨e,xs,hx⟩
  ·cases e
   obtain⟨its,r,⟨o,n,h1,h2,_⟩,_⟩:=I.list hx;exact⟨_,PySem.W.kitx_list,⟨o,h1,h2⟩,λz=>nomatch z⟩
  ·cases e
   obtain⟨its,r,⟨o,h1,h2,_⟩,_⟩:=I.tuple hx;exact⟨_,PySem.W.kitx_tuple,⟨o,h1,h2⟩,λz=>nomatch z⟩ |_=>exact(show False from ty).elim
inductive a6P(K:a8)(xs:List V)(H:Hp)(Q:VK):Prop |mk (x:_)(T:_)(n:_)(b:_)(h0:xs=[x,.ty n])(h1:qw K H x T)(h2:n∈vB)(h3:eX T n=b)(h4:Q (.bl b) H)
def EH(K:a8):List V->Hp->VK->Prop:=λxs H Q=>a6P K xs H Q
theorem a4l:eH X (.builtin "isinstance") (EH X.K):=by intro ao s O H xs us Q I r h;obtain⟨x,T,n,b,rfl,ty,hn,rfl,q⟩:=h;obtain⟨u,c,rfl,rx,rc⟩:=vals2 r;cases(show c=Value.type n from rc);obtain⟨P,a8A,p,hx⟩:=NH I rx ty;exact PySem.W.kia_one a8A I.fX p (NG ty.mem hn) hx λtk=>⟨.bl (eX T n),H,I.tok _,Z,q⟩
inductive a6O(K:a8)(xs:List V)(H:Hp)(Q:VK):Prop |mk (x:V)(T:String)(p:Addr)(ns:List String)(b:Bool)(h0:xs=[x,.ref p])(h1:H p=some (.tup (ns.map V.ty)))(h2:qw K H x T)(h3:(∀n∈ns,n∈vB))(h4:ns.any (eX T)=b)(h5:Q (.bl b) H)
def EG(K:a8):List V->Hp->VK->Prop:=λxs H Q=>a6O K xs H Q
theorem NF{K:a8}{T:String}(h1:T∈z9):∀{ns:List String},(∀n∈ns,n∈vB)->PySem.W.kitAny K (.type T) (ns.map Value.type)=some (ns.any (eX T)) |[],_=>rfl |n::r,h=>by have e:=NG (K:=K) h1 (h n (IJ ..));have ih:=NF (K:=K) h1 (ns:=r) λm hm=>h m (BJ _ hm);rw[IK,PySem.W.kitAny,e,BL];cases eX T n with |true=>rfl |false=>simpa using ih
theorem J6:∀{ns:List String}{us:List Value},Vals (ns.map V.ty) us->us=ns.map Value.type |[],_,.nil=>rfl |n::r,_,.cons q t=>by cases(show _=Value.type n from q);rw[J6 t];rfl
theorem a4k:eH X (.builtin "isinstance") (EG X.K):=by intro ao s O H xs us Q I r h;obtain⟨x,T,p,ns,b,rfl,hp,ty,hn,rfl,q⟩:=h;obtain⟨u,c,rfl,rx,rc⟩:=vals2 r;cases(show c=Value.ref p from rc);obtain⟨P,a8A,pp,hx⟩:=NH I rx ty;obtain⟨_,its,rv,⟨cls,dd,dt,sl⟩,h1,h2,n,h3⟩:=(show fe X.prog X.w H s.heap p (.tup (ns.map V.ty))from I.bj p _ hp);simp only at h2 h3;subst h2 h3;have e:=J6 rv;subst e;exact PySem.W.kia_tup a8A I.fX pp h1 (NF ty.mem hn) hx λtk=>⟨.bl _,H,I.tok _,Z,q⟩
end
mutual
def RD(K:a8)(H:Hp):V->ah->Prop |x,.none=>x= .bR |x,.bool b=>x= .bl b |x,.int i=>x= .int i |x,.str y=>x= .str y |x,.list ds=>∃a xs,x= .ref a/\aK K H a xs/\aJ K H xs ds |x,.tuple ds=>∃a xs,x= .ref a/\aV K H a xs/\aJ K H xs ds |_,.dict _=>False
def aJ (K:a8)(H:Hp):List V->List ah->Prop |xs,[]=>xs=[] |xs,d::ds=>∃y ys,xs=y::ys/\RD K H y d/\aJ K H ys ds
end
section
variable {X:Cx}
mutual
theorem RD.reads{ao:List (Addr×Obj)}{s:af}{O:St}{H:Hp}(I:Inv X ao O H s):∀{x:V}{u:Value}(d:ah),RelV x u->RD X.K H x d->∃as,Reads s.heap u d as |x,u,.none,r,h=>by cases(show x= .bR from by simpa[RD]using h);cases(show u=Value.none from r);exact⟨_,.none⟩ |x,u,.bool b,r,h=>by cases(show x= .bl b from by simpa[RD]using h);cases(show u=Value.bool b from r);exact⟨_,.bool b⟩ |x,u,.int i,r,h=>by cases(show x= .int i from by simpa[RD]using h);obtain⟨t,q⟩:=(show∃t,u=Value.int i t from r);cases q;exact⟨_,.int i t⟩ |x,u,.str y,r,h=>by cases(show x= .str y from by simpa[RD]using h);obtain⟨t,q⟩:=(show∃t,u=Value.str y t from r);cases q;exact⟨_,.str y t⟩ |x,u,.list ds,r,h=>by rw[RD]at h;obtain⟨a,xs,rfl,hx,hd⟩:=h;cases(show u=Value.ref a from r);obtain⟨its,rv,⟨o,n,h1,h2,h3,h4⟩,_⟩:=I.list hx;obtain⟨as,q⟩:=aJ.reads I ds rv hd;exact⟨_,.list h1 h2 h4 (by simpa using q)⟩ |x,u,.tuple ds,r,h=>by rw[RD]at h;obtain⟨a,xs,rfl,hx,hd⟩:=h;cases(show u=Value.ref a from r);obtain⟨its,rv,⟨o,h1,h2,n,h4⟩,_⟩:=I.tuple hx;obtain⟨as,q⟩:=aJ.reads I ds rv hd;exact⟨_,.tuple h1 h2 h4 (by simpa using q)⟩ |x,u,.dict _,r,h=>by simp[RD]at h
theorem aJ.reads {ao:List (Addr×Obj)}{s:af}{O:St}{H:Hp}(I:Inv X ao O H s):∀{xs:List V}{us:List Value}(ds:List ah),Vals xs us->aJ X.K H xs ds->∃as,ReadsAll s.heap us ds as |xs,us,[],r,h=>by cases(show xs=[]from by simpa[aJ]using h);cases r;exact⟨_,.nil⟩ |xs,us,d::ds,r,h=>by rw[aJ]at h;obtain⟨y,ys,rfl,h1,h2⟩:=h;cases r with |cons ra rb=>obtain⟨as,q⟩:=RD.reads I d ra h1;obtain⟨bs,q'⟩:=aJ.reads I ds rb h2;exact⟨_,.cons q q'⟩
end
inductive a6W(K:a8)(x:V)(y:V)(H:Hp)(Q:VK):Prop |mk (d:_)(e:_)(h0:RD K H x d)(h1:RD K H y e)(h2:SeqAt.shaped d=true)(h3:SeqAt.shaped e=true)(h4:Q (.bl (PyData.eqv d e)) H)
def EI(K:a8):R2:=λx y H Q=>a6W K x y H Q
inductive a6J(K:a8)(x:V)(y:V)(H:Hp)(Q:VK):Prop |mk (d:_)(e:_)(h0:RD K H x d)(h1:RD K H y e)(h2:SeqAt.shaped d=true)(h3:SeqAt.shaped e=true)(h4:Q (.bl (!PyData.eqv d e)) H)
def ED(K:a8):R2:=λx y H Q=>a6J K x y H Q
theorem Wc(hu:X.A.units+64<cLine):cP X (compareOp .Eq) (EI X.K):=by intro ao s O H x y v u Q I rx ry h;obtain⟨d,e,hd,he,sd,se,q⟩:=h;obtain⟨as,ra⟩:=RD.reads I d rx hd;obtain⟨bs,rb⟩:=RD.reads I e ry he;exact eq_dataH ra rb sd se hu ⟨.bl _,H,I,Z,q⟩
theorem W6(hu:X.A.units+64<cLine):cP X (compareOp .NotEq) (ED X.K):=by intro ao s O H x y v u Q I rx ry h;obtain⟨d,e,hd,he,sd,se,q⟩:=h;obtain⟨as,ra⟩:=RD.reads I d rx hd;obtain⟨bs,rb⟩:=RD.reads I e ry he;exact ne_dataH ra rb sd se hu ⟨.bl _,H,I,Z,q⟩
end
theorem aD.new{H:Hp}{t:Addr}{o:HO}(ht:H t=none):aD H (upd H t o):=λb o' e=>by rw[bL (cW e ht)];exact e
structure Nw(H H':Hp)(p:Addr)(o:HO):Prop where
 no:H p=none
 at':H' p=some o
 same:aD H H'
 eq:H'=upd H p o
theorem Nw.of{H:Hp}{p:Addr}{o:HO}(h:H p=none):Nw H (upd H p o) p o:=⟨h,cF,.new h,Z⟩
def Bb:List Str:=["len","abs","min","max","range","isinstance","int","bool","str","tuple","list","any","all","sum","zip","enumerate","sorted","reversed","ord","chr","divmod","repr","dict","set"]
def bK (mg:bS):Prop:=∀x∈Bb,mg x=none
theorem bK.at{mg:bS}(B:bK mg)(x:Str)(h:x∈Bb:=by decide):mg x=none:=B x h
theorem gz{α:Type}{C:List α->Prop}(h:∀a,C [a]):∀us:List α,us.length=1->C us |[_],_=>h _
theorem e9{α:Type}{C:List α->Prop}(h:∀a b,C [a,b]):∀us:List α,us.length=2->C us |[_,_],_=>h _ _
theorem iJ{α:Type}{C:List α->Prop}(h:∀a b c,C [a,b,c]):∀us:List α,us.length=3->C us |[_,_,_],_=>h _ _ _
theorem sS{α:Type}{C:List α->Prop}(h:∀a b c d,C [a,b,c,d]):∀us:List α,us.length=4->C us |[_,_,_,_],_=>h _ _ _ _
theorem HF{α:Type}{C:List α->Prop}(h:∀a b c d e,C [a,b,c,d,e]):∀us:List α,us.length=5->C us |[_,_,_,_,_],_=>h _ _ _ _ _
def OJ(N P:List Str)(sc:Scope):Bool:=decide (sc.kind= .function)&& !sc.isCoroutine&& !sc.isGenerator&&decide N.Nodup&&decide (N.take P.length=P)&&P.all (λx=>decide (sc.names.lookup x=some .local\/sc.names.lookup x=some .cell))&&sc.names.all λy=>decide (y.2≠ .free)
theorem bP{N P:List Str}{sc:Scope}(h:OJ N P sc=true):bF N P sc:=by unfold OJ at h;simp only[f9,Ij,S5,fD]at h;obtain⟨⟨⟨⟨⟨⟨h1,h2⟩,h3⟩,h4⟩,h5⟩,h6⟩,h7⟩:=h;exact⟨h1,h2,h3,h4,h5,h6,h7⟩
structure FA(K:a8)(mg:bS)(x:Str)(st:Stmt):Prop where ex:∃f fd,mg x=some (.ref f)/\kQ K x x st f fd
def aB(P:ag)(w:World)(K:a8)(mg:bS)(az:Heap)(x:Str)(k:Nat)(sp:Sp):Prop:=∃f fd ps,ij P w K mg az hW k f fd ps sp/\mg x=some (.ref f)/\PySem.W.keepIn K (.ref f)=true/\Binds K fd ps []
section
variable {P:ag}{w:World}{K:a8}{mg:bS}{az:Heap}
theorem a20{h:Heap}{x:Str}{st:Stmt}{f:Addr}{oc:Value}{od an:Option Addr}{fG:Array (Option Value)}{kV doc pm aO ct:Value}(X:K.In h)(G:h.Ns mainGlobals mg) (a:PySem.W.nsIn K mainGlobals x=some (some (.ref f))) (l:K.lookup f=some ⟨oc,od,.func (PySem.W.fnOf x x (mS st) (gZ st) (bu st) .none kV doc pm an aO ct),fG⟩) (c:PySem.W.codeIn K aO x=true)(k:PySem.W.keepIn K (.ref f)=true):FA K mg x st:=⟨f,_,vm X G a,OH l c k⟩
theorem FA.has{x:Str}{st:Stmt}{N ps:List Str}{k:Nat}{sp:Sp}(F:FA K mg x st)(S:bF N ps (bu st))(len:∀vs H Q E,sp vs H Q E->vs.length=ps.length) (hb:∀(kV doc pm:Value)(an:Option Addr)(aO ct:Value)(us:List Value),us.length=ps.length->bindArgs (PySem.W.fnOf x x (mS st) (gZ st) (bu st) .none kV doc pm an aO ct) ⟨us,[]⟩=pure (ps.zip us)) (j9:∀(f:Addr)(aO:Value)(A:ai)(outer:List Env)(s:af)(H:Hp)(vs:List V)(Q:VK)(E:XK),dm k (A.deeper (envOfC x (bu st) s.heap.objs.size f aO))->sp vs H Q E->∃t,gn (ie hW P w K mg az N x (bu st) f aO A outer s H E).rp (gZ st) t/\t {nx:=λ_ H'=>Q .bR H',rt:=Q} (start N vs) H):aB P w K mg az x (k+1) sp:=by obtain⟨f,fd,hm,F⟩:=F.ex;exact⟨f,fd,ps,F.ok S len λaO A outer s H vs Q E=>j9 f aO A outer s H vs Q E,hm,F.kp,F.binds hb⟩
end
section
variable {X:Cx}{k:Nat}{x:Str}{p pos:Pos}{e:Expr}{es:List Expr}{t:TA}{sp:Sp}
def Jn(sp:Sp)(t:TA):TE:=λO H Q=>t O H λvs H1=>sp vs H1 Q E0
theorem EU(F:aB X.prog X.w X.K X.mg X.az x k sp)(hr:dm k X.A)(hg:Gl X x)(ha:PA X (e::es) t)(j8:(x==("__debug__":Str))=false:=by decide) (he:starEach (e::es) X.env=(false,eval e X.env)::starEach es X.env:=by rfl)(gX:(backTo pos (starEach es X.env)).any (·.1)=false:=by rfl): PE X (.Call (.Name x p) (e::es) [] pos) (Jn sp t):=by
 obtain⟨f,fd,ps,F,hm,hk,hb⟩:=F;have h:=VR (pos:=pos) (p:=p) F hr hg hm hk hb .nil VT ha j8 he gX;intro ao s O H Q I hq;refine h ao s O H Q I ?_;have e1:(λ(vs:List V) H1=>sp (vs++[]) H1 Q E0)=λvs H1=>sp vs H1 Q E0:=by funext vs H1;rw[tH]
 show t O H λvs H1=>sp (vs++[]) H1 Q E0;rw[e1];exact hq
theorem pf{j:Nat}(F:aB X.prog X.w X.K X.mg X.az x j sp)(hr:dm k X.A)(ha:PA X (e::es) t)(hjk:j<=k:=by decide)(hg:Gl X x:=by rfl)(j8:(x==("__debug__":Str))=false:=by decide)(he:starEach (e::es) X.env=(false,eval e X.env)::starEach es X.env:=by rfl)(gX:(backTo pos (starEach es X.env)).any (·.1)=false:=by rfl):PE X (.Call (.Name x p) (e::es) [] pos) (Jn sp t):=EU F (hr.mono hjk) hg ha j8 he gX
theorem bO:cP X (binaryOp .Mult) (rI (λi j=>IntMulOk i j) λi j=>.int (i*j)):=wo λ_ _ _ _ _ _ _ hc q=>mul_int q hc
theorem Wb:cP X (compareOp .Eq) (jr λi j=>.bl (decide (i=j))):=uj λ_ _ _ _ _ _ _ q=>eq_int (by rw[Bool.beq_eq_decide_eq];exact q)
theorem W5:cP X (compareOp .NotEq) (jr λi j=>.bl (!decide (i=j))):=uj λ_ _ _ _ _ _ _ q=>ne_int (by rw[bne,Bool.beq_eq_decide_eq];exact q)
theorem We(hu:X.A.units+64<cLine):cP X (compareOp .Eq) (λx y H Q=>jr (λi j=>.bl (decide (i=j))) x y H Q\/EI X.K x y H Q):=Wb.or (Wc hu)
theorem W7(hu:X.A.units+64<cLine):cP X (compareOp .NotEq) (λx y H Q=>jr (λi j=>.bl (!decide (i=j))) x y H Q\/ED X.K x y H Q):=W5.or (W6 hu)
mutual
theorem eqv_refl:∀d:ah,d.canLay0=true->PyData.eqv d d=true | .none,_=>by simp[PyData.eqv] | .bool b,_=>by simp[PyData.eqv] | .int i,_=>by simp[PyData.eqv] | .str x,_=>by simp[PyData.eqv] | .list ds,h=>by simp only[PyData.eqv];exact eqvAll_refl ds (by simpa[PyData.canLay0]using h) | .tuple ds,h=>by simp only[PyData.eqv];exact eqvAll_refl ds (by simpa[PyData.canLay0]using h) | .dict _,h=>by simp[PyData.canLay0]at h
theorem eqvAll_refl:∀ds:List ah,PyData.canLayAll0 ds=true->PyData.eqvAll ds ds=true |[],_=>by simp[PyData.eqvAll] |d::ds,h=>by simp only[PyData.canLayAll0,f9]at h;simp only[PyData.eqvAll,f9];exact⟨eqv_refl d h.1,eqvAll_refl ds h.2⟩
end
theorem mh{K:a8}{H:Hp}(b:Bool):RD K H (.bl b) (.bool b):=by simp[RD]
theorem df{K:a8}{H:Hp}(i:Int):RD K H (.int i) (.int i):=by simp[RD]
theorem cM{K:a8}{H:Hp}(x:Str):RD K H (.str x) (.str x):=by simp[RD]
theorem u9{K:a8}{H:Hp}:RD K H .bR .none:=by simp[RD]
theorem eY{K:a8}{H:Hp}{p:Addr}{xs:List V}{ds:List ah}(h:aV K H p xs)(r:aJ K H xs ds):RD K H (.ref p) (.tuple ds):=by rw[RD];exact⟨p,xs,Z,h,r⟩
theorem wa{K:a8}{H:Hp}{p:Addr}{xs:List V}{ds:List ah}(h:aK K H p xs)(r:aJ K H xs ds):RD K H (.ref p) (.list ds):=by rw[RD];exact⟨p,xs,Z,h,r⟩
theorem cD{K:a8}{H:Hp}:aJ K H [] []:=by simp[aJ]
theorem bV{K:a8}{H:Hp}{x:V}{xs:List V}{d:ah}{ds:List ah}(h:RD K H x d)(r:aJ K H xs ds):aJ K H (x::xs) (d::ds):=by rw[aJ];exact⟨x,xs,Z,h,r⟩
inductive a5r(t:TS)(D:Ends)(O:St)(H:Hp):Prop |mk (HW:St->Hp->Prop)(h0:t {D with nx:=HW} O H)(h1:∀σ' H',HW σ' H'->D.nx σ' H')
def Tn(t:TS):TS:=λD O H=>a5r t D O H
theorem mi{st:Stmt}{t:TS}(h:PS X st t):PS X st (Tn t):=by intro ao s O H D I hq;obtain⟨HW,q,m⟩:=hq;refine aY (h ao s O H _ I q) λf s1 q1=>?_;cases f with |next=>obtain⟨σ',H',I',q'⟩:=q1;exact⟨σ',H',I',m _ _ q'⟩ |brk=>exact q1 |cont=>exact q1 |ret u=>exact q1
end
def qy(K:a8)(xs:List Str):Prop:=∀x∈xs,PySem.W.nsIn K mainGlobals x=some none
theorem qy.nil{K:a8}:qy K []:=λ_ h=>nomatch h
theorem qy.cons{K:a8}{x:Str}{xs:List Str}(a:PySem.W.nsIn K mainGlobals x=some none)(r:qy K xs):qy K (x::xs):=λy hy=>by
 rcases cR.mp hy with e|e
 ·rw[e];exact a
 ·exact r y e
theorem a4u{K:a8}{mg:bS}{h:Heap}(X:K.In h)(G:h.Ns mainGlobals mg)(a:qy K Bb):bK mg:=λx hx=>PySem.W.mg_none_of X G (a x hx)
theorem YJ{l:PySem.W.OpenLaw}{q:ag}{loose:List Str}{XP:(bS)->Heap->Prop}{YP:World->Heap->Prop}{d:DefRec}{K:Params->a8}{k:Nat}{x:Str}{st:Stmt}(hn:l.most=some 63)(xn:d.params.defaults=[]) (hr:dm k callerA)(hY:∀(w:World)(h:Heap),YP w h->(K w.params).In h)(All:a8->(bS)->Prop) (F:∀(w:World)(mg:bS)(h:Heap),(K w.params).In h->h.Ns mainGlobals mg->All (K w.params) mg) (L:∀(K:a8)(mg:bS),All K mg->FA K mg d.name st) (hb:∀(kV doc pm:Value)(an:Option Addr)(aO ct u:Value),bindArgs (PySem.W.fnOf d.name d.name (mS st) (gZ st) (bu st) .none kV doc pm an aO ct) ⟨[u],[]⟩=pure [(x,u)]) (ok:∀(P:ag)(w:World)(K:a8)(mg:bS)(az:Heap)(f:Addr)(fd:FuncData),All K mg->kQ K d.name d.name st f fd->ij P w K mg az hW k f fd [x] (λvs H Q _=>∃(a:Addr)(ns:List Int),vs=[.ref a]/\aK K H a (ns.map V.int)/\ns.length<=63/\∀H',Q (.bl true) H')): PySem.W.WalkO q loose XP YP l.row.toRowW d [] (λf vs=>PySem.call f vs):=L2.Si (n:=63) (k:=k) (x:=x) (CX:=λ_=>hW) (sp:=λw=>λvs H Q _=>∃(a:Addr)(ns:List Int),vs=[.ref a]/\aK (K w.params) H a (ns.map V.int)/\ns.length<=63/\∀H',Q (.bl true) H') hn au xn hr hY (λw mg fa h KX G xg=>by
 have A:=F w mg h KX G;obtain⟨f,fd,hm,Fn⟩:=(L _ _ A).ex;have e:fa=f:=by rw[xg]at hm;injection (dU hm)
 subst e;refine⟨fd,λs u=>?_,λaz _ _=>ok l.prog w _ mg az fa fd A Fn⟩;obtain⟨oc,od,kV,doc,pm,an,aO,ct,fG,rfl,lk,eR⟩:=Fn.ex;exact .of_eq (hb kV doc pm an aO ct u)) (λ_ _ a ns hl _ hS=>⟨a,ns,Z,hS,hl,λ_=>rfl⟩) λ_ _ _ _ _ z=>z
theorem Hl{env:Env}:∀(ns:List (Str×NameKind))(cs:List (Str×Addr)),(∀x∈ns,x.2= .free->∃c,env.cells.lookup x.1=some c)->(∀x c,cs.lookup x=some c->env.cells.lookup x=some c)->∃cl,(forIn ns cs (λx r=>if(x.2==NameKind.free)=true then do let a<-cellOf env x.1;pure (ForInStep.yield ((x.1,a)::r))else pure (ForInStep.yield r)):Sem (List (Str×Addr)))=pure cl/\(∀x c,cl.lookup x=some c->env.cells.lookup x=some c)/\(∀x c,cs.lookup x=some c->∃c',cl.lookup x=some c')/\∀x∈ns,x.2= .free->∃c,cl.lookup x.1=some c
 |[],cs,_,h2=>⟨cs,Z,h2,λx c e=>⟨c,e⟩,λ_ h=>nomatch h⟩ |(n,k)::r,cs,h1,h2=>by
  by_cases hk:k= .free
  ·subst hk
   obtain⟨c,hc⟩:=h1 (n,.free) (.head _) rfl;have e1:cellOf env n=pure c:=by unfold cellOf;rw[show env.cells.lookup n=some c from hc]
   obtain⟨cl,a1,a2,a3,a4⟩:=Hl r ((n,c)::cs) (λx hx=>h1 x (.tail _ hx)) (λx d e=>by rw[jh]at e;cases z:x==n with |true=>rw[z]at e;cases e;rw[eU.mp z];exact hc |false=>rw[z]at e;exact h2 x d e);refine⟨cl,?_,a2,λx d e=>?_,λx hx hf=>?_⟩
   ·rw[IP]
    show(do let r'<-(if(NameKind.free==NameKind.free)=true then do let a<-cellOf env n;pure (ForInStep.yield ((n,a)::cs))else pure (ForInStep.yield cs));_)=_;rw[aX (by rfl),e1];exact a1
   ·by_cases z:x==n
    ·exact a3 x c (by rw[jh,z])
    ·exact a3 x d (by rw[jh,oU.mpr z];exact e)
   ·rcases cR.mp hx with rfl|hx
    ·exact a3 n c (by rw[jh,Ik])
    ·exact a4 x hx hf
  ·obtain⟨cl,a1,a2,a3,a4⟩:=Hl r cs (λx hx=>h1 x (.tail _ hx)) h2
   refine⟨cl,?_,a2,a3,λx hx hf=>?_⟩
   ·rw[IP]
    show(do let r'<-(if(k==NameKind.free)=true then do let a<-cellOf env n;pure (ForInStep.yield ((n,a)::cs))else pure (ForInStep.yield cs));_)=_;rw[bf (by simpa using hk)];exact a1
   ·rcases cR.mp hx with rfl|hx
    ·exact absurd hf hk
    ·exact a4 x hx hf
theorem Hm{env:Env}{scope:Scope}(h1:∀x∈scope.names,x.2= .free->∃c,env.cells.lookup x.1=some c): ∃cl,closureFor scope env=pure cl/\(∀x c,cl.lookup x=some c->env.cells.lookup x=some c)/\∀x∈scope.names,x.2= .free->∃c,cl.lookup x.1=some c:=by
 obtain⟨cl,a1,a2,_,a4⟩:=Hl (env:=env) scope.names [] h1 (λx c e=>nomatch e);refine⟨cl,?_,a2,a4⟩;unfold closureFor;show(forIn scope.names ([]:List (Str×Addr)) (λ(x:Str×NameKind) r=>match x with|(name,kind)=>if(kind==NameKind.free)=true then do let a<-cellOf env name;pure (ForInStep.yield ((name,a)::r))else pure (ForInStep.yield r))>>=λr=>(pure r:Sem (List (Str×Addr))))=pure cl;have ef:(λ(x:Str×NameKind)(r:List (Str×Addr))=>match x with|(name,kind)=>(if(kind==NameKind.free)=true then do let a<-cellOf env name;pure (ForInStep.yield ((name,a)::r))else pure (ForInStep.yield r):Sem (ForInStep (List (Str×Addr))))) =λx r=>if(x.2==NameKind.free)=true then do let a<-cellOf env x.1;pure (ForInStep.yield ((x.1,a)::r))else pure (ForInStep.yield r):=by funext x r;obtain⟨n,k⟩:=x;rfl
 rw[ef,a1];rfl
theorem Nj{env:Env}(hk:env.scope.kind= .function){x:Str}(hx:env.kindOf x=some .cell):∀{names:List (Str×NameKind)},names.lookup x=some .free->(names.map λ(n,k)=>if(k==NameKind.free&&env.scope.kind== .function&&env.kindOf n==some .cell)then(n,NameKind.cell)else(n,k)).lookup x=some .cell |[],h=>nomatch h |(n,k)::r,h=>by have ih:=@Nj env hk x hx r;show List.lookup x ((if(k==NameKind.free&&env.scope.kind== .function&&env.kindOf n==some .cell)=true then(n,NameKind.cell)else(n,k))::_)=_;cases z:x==n with |true=>simp only[jh,z]at h;cases h;have e:=eU.mp z;subst e;rw[aX (by rw[hk,hx];rfl),jh,z] |false=>simp only[jh,z]at h;split<;>(simp only[jh,z];exact ih h)
def cI(X:Cx)(N:List Str)(scope:Scope)(cl:List (Str×Addr))(s:af)(H:Hp)(fp:List Addr)(ao:List (Addr×Obj)):Cx:={prog:=X.prog,w:=X.w,K:=X.K,mg:=X.mg,az:=X.az,A:=X.A,N:=N,s₀:=s,H₀:=H,env:=compEnvC scope cl s.heap.objs.size X.env,outer:=X.stack,stack:=X.stack,ex:=fp,fn:=λ_=>false,calm:=X.calm,pn:=X.pn++ao,xe:=λ_ _=>False}
def stC(js:List (Option Nat))(O:St):St:=js.map λ|none=>none|some j=>(O[j]?).join
def xW(X:Cx)(N:List Str)(js:List (Option Nat))(scope:Scope):Bool:=N.length==js.length&&(N.zip js).all λp=>match p.2 with|none=>true|some j=>X.N[j]? ==some p.1&&scope.names.lookup p.1==some NameKind.free&&X.env.kindOf p.1==some NameKind.cell
def qq(X:Cx)(scope:Scope):Bool:=scope.kind== .function&&X.env.scope.kind== .function&&scope.names.all λx=>match x.2 with | .free=>X.env.kindOf x.1==some NameKind.cell | .cell=>false | .local=>scope.names.lookup x.1==some NameKind.local |_=>true
section
variable {X:Cx}{ao:List (Addr×Obj)}{O:St}{H:Hp}{s:af}
theorem lookup_mem{α β:Type}[BEq α][LawfulBEq α]:∀{l:List (α×β)}{x:α}{b:β},l.lookup x=some b->(x,b)∈l |[],_,_,h=>nomatch h |(n,k)::r,x,b,h=>by rw[jh]at h;cases z:x==n with |true=>rw[z]at h;cases h;rw[eU.mp z];exact .head _ |false=>rw[z]at h;exact .tail _ (lookup_mem h)
theorem M8{env:Env}{x:Str}{k:NameKind}:∀{names:List (Str×NameKind)},(names.map λ(n,k)=>if(k==NameKind.free&&env.scope.kind== .function&&env.kindOf n==some .cell)then(n,NameKind.cell)else(n,k)).lookup x=some k->names.lookup x=some k\/(k= .cell/\names.lookup x=some .free) |[],h=>nomatch h |(n,k')::r,h=>by have ih:=@M8 env x k r;have h':List.lookup x ((if(k'==NameKind.free&&env.scope.kind== .function&&env.kindOf n==some .cell)=true then(n,NameKind.cell)else(n,k'))::(r.map λ(n,k)=>if(k==NameKind.free&&env.scope.kind== .function&&env.kindOf n==some .cell)then(n,NameKind.cell)else(n,k)))=some k:=h;cases z:x==n with
 |true=>
  split at h'
  ·rename_i hc
   simp only[jh,z]at h';cases h';rw[f9,f9]at hc;have e:k'= .free:=eU.mp hc.1.1;subst e;exact .inr ⟨Z,by rw[jh,z]⟩
  ·simp only[jh,z]at h'
   cases h';exact .inl (by rw[jh,z]) |false=>
  rw[jh,z];refine ih ?_;split at h'
  ·simpa only[jh,z]using h'
  ·simpa only[jh,z]using h'
theorem Inv.comp{N:List Str}{js:List (Option Nat)}{scope:Scope}{cl:List (Str×Addr)}{fp:List Addr}{h':Heap}{tk:Nat}(I:Inv X ao O H s)(hN:xW X N js scope=true)(hS:qq X scope=true) (c1:∀x c,cl.lookup x=some c->X.env.cells.lookup x=some c)(c2:∀x∈scope.names,x.2= .free->∃c,cl.lookup x.1=some c)(hf:∀b∈fp,iM X ao H b)(hfl:∀b∈fp,b<s.heap.objs.size) (hn:h'.Ns s.heap.objs.size λ_=>none)(hk:∀b o,s.heap.get? b=some o->h'.get? b=some o):Inv (cI X N scope cl s H fp ao) [] (stC js O) H {s with heap:=h',toks:=tk}:=by
 unfold qq at hS;rw[f9,f9]at hS;obtain⟨⟨s1,s2⟩,s3⟩:=hS;have jA:scope.kind= .function:=eU.mp s1;have ZX:X.env.scope.kind= .function:=eU.mp s2;unfold xW at hN;rw[f9]at hN;obtain⟨n1,n2⟩:=hN;have hlen:N.length=js.length:=eU.mp n1;have NS:∀x k,(relabel scope X.env).names.lookup x=some k->scope.names.lookup x=some k\/(k= .cell/\scope.names.lookup x=some .free):=λx k e=>M8 e;have XW:∀x,scope.names.lookup x≠some .cell:=λx e=>by have:=fD.mp s3 _ (lookup_mem e);exact gM this
 have OI:∀b∈(cI X N scope cl s H fp ao).fs,b∈X.env.locals::X.fs:=I.BZ;have ok:(cI X N scope cl s H fp ao).Ok:={
  mod:=I.ok.mod
  kind:=jA
  glob:=I.ok.glob
  blt:=I.ok.blt
  above:=bw _
  inj:=λx y c e1 e2=>I.ok.inj x y c (c1 x c e1) (c1 y c e2)
  has:=λx hx=>by
   have fr:scope.names.lookup x=some .free->∃c,cl.lookup x=some c:=λe=>c2 (x,.free) (lookup_mem e) rfl;rcases hx with e|e
   ·rcases NS x _ e with e|⟨_,e⟩
    ·exact absurd e (XW x)
    ·exact fr e
   ·rcases NS x _ e with e|⟨z,_⟩
    ·exact fr e
    ·cases z
  qu:=λx c e=>nomatch e
  hd:=I.ok.hd
  frames:=I.ok.frames
  qP:=.inl rfl
  xI:=λb hb=>⟨dW (hfl b hb),λx c e=>(hf b hb).2.2.2.2.1 x c (c1 x c e)⟩
  bs:=I.bs
  ki:=eL I.ok.ki I.sz
  pD:=λb o e hb=>by
   rcases(hf b hb).2.2.2.1 with z|z
   ·exact I.ok.pD b o e z
   ·exact absurd (cY (cn e) (eL I.ok.ki z)) (vo _)
  mQ:=λb hb z=>by
   obtain⟨_,q1,q2,_⟩:=hf b hb;rcases cR.mp (OI b z)with e|e
   ·exact q1 e
   ·exact q2 e
  iG:=I.stack
  lN:=I.zl};refine⟨ok,Z,I.bare,Un.kept hk,⟨_,hn,λi x v e1 e2 e3=>?_⟩,λx c e=>?_,I.bj.fresh (bw _),λx c e=>I.jb x c (c1 x c e),λp hp=>?_,I.bj.kept hk,?_⟩
 ·have uQ:(js.map λ|none=>none|some j=>(O[j]?).join)[i]? =some (some v):=e2
  rw[bU]at uQ;cases hj:js[i]? with |none=>rw[hj]at uQ;cases uQ |some o=>rw[hj]at uQ;cases o with |none=>cases uQ |some j=>
   have hz:(N.zip js)[i]? =some (x,some j):=by rw[List.getElem?_zip_eq_some];exact⟨e1,hj⟩
   have Q7:=fD.mp n2 _ (fC hz);simp only[f9,eU]at Q7;obtain⟨⟨h1,h2⟩,h3⟩:=Q7;have AU:(O[j]?).join=some v:=by simpa using uQ
   have hσ:O[j]? =some (some v):=by cases q:O[j]? with |none=>rw[q]at AU;cases AU |some o=>
    rw[q]at AU;have:o=some v:=by simpa using AU
    rw[this]
   obtain⟨m,hm,hl⟩:=I.loc;obtain⟨u,r,l⟩:=hl j x v h1 hσ (.inr (.inl h3));refine⟨u,r,?_⟩;rcases l with⟨k,_⟩|⟨_,c,hc,mL⟩
   ·rw[h3]at k;cases k
   ·obtain⟨c',ib⟩:=c2 (x,.free) (lookup_mem h2) rfl
    have:=c1 x c' ib;rw[hc]at this;cases this;refine .inr ⟨.inl (Nj ZX h3 h2),c,ib,?_⟩;obtain⟨ob,ho,hd⟩:=mL;exact⟨ob,hk _ _ ho,hd⟩
 ·obtain⟨v,ob,ho,hd⟩:=I.cell x c (c1 x c e)
  exact⟨v,ob,hk _ _ ho,hd⟩
 ·have Am:p∈X.pn++ao:=by simpa[cI]using hp
  obtain⟨a1,a2,a3,a4,a5⟩:=I.pin p Am;refine⟨hk _ _ a1,a2,dW (cn a1),λz=>?_,a5⟩;rcases cR.mp (OI p.1 z)with e|e
  ·exact a3 e
  ·exact a4 e
 ·show(js.map _).length=N.length
  rw[bB,hlen]
end
theorem Q3{prog:ag}{w:World}{A:ai}{R:Result->af->Prop}{s:af}{elt target iter:Expr}{ifs:List Expr}{scope:Scope}{pos:Pos}{it acc:Value}{env:Env}(I:Nat->af->Prop) (turn:∀n s,I n s->wpAny (model prog w) A (pyNext it) (λr s₁=>match r with |none=>R (.ok .next) s₁ |some v=>wpAny (model prog w) A (letOwnedTupleGo target it v) (λ_ s₁=>wpAny (model prog w) A (assign target env v) (λ_ s₂=>wpAny (model prog w) A (forIn ifs true λc r=>if r=true then do let ok<-isTrue c env (eval c env);pure (ForInStep.yield ok)else pure (ForInStep.yield r)) (λok s₃=>if ok=true then wpAny (model prog w) A (eval elt env) (λx s₄=>wpAny (model prog w) A (call (.builtin "list.append") [acc,x]) (λ_ s₅=>∃m,m<n/\I m s₅) (λ_ _=>False) s₄) (λ_ _=>False) s₃ else∃m,m<n/\I m s₃) (λ_ _=>False) s₂) (λ_ _=>False) s₁) (λ_ _=>False) s₁) (λ_ _=>False) s) (n:Nat)(h:I n s):codeAny (model prog w) A (.compLoop (.ListComp elt [⟨target,iter,ifs,0⟩] scope pos) 0 it acc env) R s:=by refine codeAny_loop Z I (λn s hI=>?_) n h;show wpAny _ A ((compTurn (.ListComp elt [⟨target,iter,ifs,0⟩] scope pos) 0 it acc env).onRaise (λx=>do noteFrame x env;theTreesLotGoes x)) _ _ s;refine wpAny_noted ?_;rw[compTurn_list];refine aF (nh (aF (eJ (turn n s hI) (λr s₁ h₁=>?_) λ_ _ h'=>h'.elim)));cases r with |none=>exact bH h₁ |some v=>refine aF (eJ h₁ (λ_ Jt h₁=>?_) λ_ _ h'=>h'.elim);refine aF (eJ h₁ (λ_ s₂ h₂=>aF (eJ h₂ (λok s₃ h₃=>?_) λ_ _ h'=>h'.elim)) λ_ _ h'=>h'.elim);cases ok with |false=>exact bH ⟨Z,h₃⟩ |true=>exact aF (aF (eJ h₃ (λx s₄ h₄=>aF (eJ h₄ (λ_ s₅ h₅=>bH (bH ⟨Z,h₅⟩)) λ_ _ h'=>h'.elim)) λ_ _ h'=>h'.elim))
def HS(X:Cx)(ifs:List Expr)(t:TT):Prop:=∀(ao:List (Addr×Obj))(s:af)(O:St)(H:Hp)(Q:Bool->Hp->Prop),Inv X ao O H s->t O H Q->wpAny (model X.prog X.w) X.A (forIn ifs true λc r=>if r=true then do let ok<-isTrue c X.env (eval c X.env);pure (ForInStep.yield ok)else pure (ForInStep.yield r)) (TP X ao O Q) X.xe s
def jo:TT:=λ_ H Q=>Q true H
theorem fy{X:Cx}:HS X [] jo:=λ_ _ _ H _ I h=>wpAny_tests_nil ⟨H,I,h⟩
def kn(J:It)(g:TG)(tt:TT)(te:TE)(Q:VK)(D:Addr)(O:St)(H:Hp):Prop:=∃W:Nat->Nat->St->Hp->Prop,(∃m,W 0 m O H)/\∀i m σ' H',W i m σ' H'->(J.stop i H'/\Q (.ref D) H')\/(J.go i H'/\∀x H2,J.iq i H' x H2->g x σ' H2 λσ3 H3=>tt σ3 H3 λok H4=>if ok=true then te σ3 H4 λy H5=>∃ys,H5 D=some (.lst ys)/\ys.length<sizeLine/\∃m',m'<m/\W (i+1) m' σ3 (upd H5 D (.lst (ys++[y]))) else∃m',m'<m/\W (i+1) m' σ3 H4)
def Jo(js:List (Option Nat))(wi:TI)(g:TG)(tt:TT)(te:TE):TE:=λO H Q=>wi O H λJ H1=>∀D H2,Nw H1 H2 D (.lst [])->kn J g tt te Q D (stC js O) H2
theorem dH.but{P:ag}{w:World}{H:Hp}{h h':Heap}{C:Addr}(ok:dH P w H h)(hn:H C=none)(hs:Heap.SameBut C h h'):dH P w H h':=λb ob e=>by
 refine(ok b ob e).kx (λc w' hc q=>(hs.2 c ?_).trans q) (λ_ q=>q) λ_ _ q=>q;rintro rfl;rcases hc with rfl|hc
 ·rw[hn]at e;cases e
 ·rw[hn]at hc;cases hc
set_option maxHeartbeats 1000000 in
theorem gj{X:Cx}{N:List Str}{js:List (Option Nat)}{elt tg iter:Expr}{ifs:List Expr}{scope:Scope}{pos:Pos}{wi:TI}{g:TG}{tt:TT}{te:TE}(hc:X.calm=true)(hN:xW X N js scope=true)(hS:qq X scope=true) (hi:PI X tg iter wi)(hg:∀cl s H fp ao,PG (cI X N scope cl s H fp ao) tg g)(ht:∀cl s H fp ao,HS (cI X N scope cl s H fp ao) ifs tt)(he:∀cl s H fp ao,PE (cI X N scope cl s H fp ao) elt te) (hs:∀x,foldedSetIterable iter X.env x=pure x:=by intro _;rfl):PE X (.ListComp elt [⟨tg,iter,ifs,0⟩] scope pos) (Jo js wi g tt te):=by
 intro ao s O H Q I h;have lJ:=hS;unfold qq at lJ;rw[f9,f9]at lJ;obtain⟨⟨k1,k2⟩,k3⟩:=lJ;have jA:scope.kind= .function:=eU.mp k1;have pU:∀x∈scope.names,x.2= .free->∃c,X.env.cells.lookup x.1=some c:=λx hx e=>by have:=fD.mp k3 x hx;rw[e]at this;exact I.ok.has x.1 (.inl (eU.mp this))
 have mL:∀x∈scope.names,x.2≠ .cell:=λx hx e=>by have:=fD.mp k3 x hx;rw[e]at this;exact gM this
 have xf:∀x∈scope.names,x.2= .local->scope.names.lookup x.1=some .local:=λx hx e=>by have:=fD.mp k3 x hx;rw[e]at this;exact eU.mp this
 obtain⟨cl,xq,c1,c2⟩:=Hm pU;rw[eval_ListComp];refine Rx (use:=none) Z hs xq jA xf (aY (hi ao s O H _ I h) λv s1 h1=>aY h1 λwU s2 h2=>?_);obtain⟨it,fp,tn,J,H2,e,I2,T,md,f2,h2⟩:=h2;subst e;have hD:H2 s2.heap.objs.size=none:=I2.bj.fresh (bw _);obtain⟨W,⟨m0,w0⟩,turn⟩:=h2 _ _ (Nw.of hD);refine nj (Rw mL (by intro y hy;simp at hy) (λh₁ pO pN=>?_) jA);have lO:∀b∈fp,b<s2.heap.objs.size:=λb hb=>by obtain⟨o,e,_⟩:=T.obj _ _ md b hb;exact cn e
 have I3:Inv X ao O (upd H2 s2.heap.objs.size (.lst [])) {s2 with heap:=s2.heap.push {cls:=.type "list",dict:=none,data:=.seq ([]:List Value).toArray}}:=I2.zZ (its:=[]) (t':=s2.toks) .nil (eK _);generalize pW:s2.heap.push {cls:=.type "list",dict:=none,data:=.seq ([]:List Value).toArray}=h3 at I3 pO pN;have oY:h3.objs.size=s2.heap.objs.size+1:=by rw[<-pW,qK]
 have wR:∀b o,s2.heap.get? b=some o->h3.get? b=some o:=λb o e=>by rw[<-pW];exact cw _ e
 have f3:∀b∈fp,iM X ao (upd H2 s2.heap.objs.size (.lst [])) b:=λb hb=>⟨by rw[bL (dW (lO b hb))];exact(f2 b hb).1,(f2 b hb).2⟩;have pL:∀b o,h3.get? b=some o->h₁.get? b=some o:=λb o e=>(pN.2 b (dW (cn e))).trans (cw _ e);have I4:Inv (cI X N scope cl {s2 with heap:=h3} (upd H2 s2.heap.objs.size (.lst [])) fp ao) [] (stC js O) (upd H2 s2.heap.objs.size (.lst [])) {s2 with heap:=h₁,toks:=s2.toks+([]:List (Str×Value)).length}:=I3.comp (s:={s2 with heap:=h3}) hN hS c1 c2 f3 (λb hb=>by show b<h3.objs.size;rw[oY];exact yI (lO b hb)) (by simpa using pO) pL;have oZ:tn 0 h₁:=T.keep _ _ _ md λb _ o e=>pL b o (wR b o e);have loop:codeAny (model X.prog X.w) X.A (.compLoop (.ListComp elt [⟨tg,iter,ifs,0⟩] scope pos) 0 (.ref it) (.ref s2.heap.objs.size) (compEnvC scope cl h3.objs.size X.env)) (compPost (model X.prog X.w) X.A X.xe none (EP X ao O Q) (.ref s2.heap.objs.size) h3.objs.size) {s2 with heap:=h₁,toks:=s2.toks+([]:List (Str×Value)).length}:=by
  refine Q3 (λn s'=>∃i σ' H',Inv (cI X N scope cl {s2 with heap:=h3} (upd H2 s2.heap.objs.size (.lst [])) fp ao) [] σ' H' s'/\tn i s'.heap/\(∀b∈fp,H' b=none)/\W i n σ' H') ?_ m0 ⟨0,_,_,I4,oZ,λb hb=>(f3 b hb).1,w0⟩;rintro n s5 ⟨i,σ5,H5,I5,ky,mP,w5⟩;have iR:∀{H':Hp},(∀b∈fp,H' b=none)->∀b∈fp,iM (cI X N scope cl {s2 with heap:=h3} (upd H2 s2.heap.objs.size (.lst [])) fp ao) [] H' b:=λ{H'} hn b hb=>by
   obtain⟨_,q1,q2,q3,q4,q5⟩:=f3 b hb;refine⟨hn b hb,λz=>?_,I4.ok.mQ b hb,.inl hb,λx c e=>q4 x c (c1 x c e),λp hp=>q5 p (by simpa[cI]using hp)⟩;have bQ:b<h3.objs.size:=by rw[oY];exact yI (lO b hb)
   exact dW bQ z
  rcases turn i n σ5 H5 w5 with⟨stop,qn⟩|⟨go,step⟩
  ·refine aY (T.done (cI X N scope cl {s2 with heap:=h3} (upd H2 s2.heap.objs.size (.lst [])) fp ao) rfl rfl rfl hc i [] s5 σ5 H5 _ I5 (iR mP) ky stop) λr s6 ⟨hr,I6⟩=>?_
   subst hr;obtain⟨m,hm,_⟩:=I6.loc;refine⟨m,hm,λh7 oj=>?_⟩;have u0:Un (eS X.stack) fp (upd H2 s2.heap.objs.size (.lst [])) H5 h3 s6.heap:=I6.az;have ne:∀b o,h3.get? b=some o->b≠h3.objs.size:=λb o e=>dW (cn e);have u:Un (eS X.stack) fp (upd H2 s2.heap.objs.size (.lst [])) H5 h3 h7:=⟨λb o e n hb hx=>(oj.2 b (ne b o e)).trans (u0.keep b o e n hb hx),λb o e n hb hx=>let⟨sl,q⟩:=u0.slot b o e n hb hx;⟨sl,(oj.2 b (ne b o e)).trans q⟩,u0.free,λb o e hx=>let⟨o',q⟩:=u0.there b o e hx;⟨o',(oj.2 b (ne b o e)).trans q⟩,u0.jm,u0.ja,u0.jn⟩;have I7:Inv X ao O H5 {s6 with heap:=h7}:=I3.xX (s':={s6 with heap:=h7}) (ch:=fp) I6.os u (I6.bj.but I6.free oj) I6.bare λb hb=>⟨(f3 b hb).2.2.2.1,(f3 b hb).2.1,(f3 b hb).2.2.2.2.1,(f3 b hb).2.2.2.2.2⟩;exact⟨.ref s2.heap.objs.size,H5,I7,Z,qn⟩
  ·refine aY (T.item (cI X N scope cl {s2 with heap:=h3} (upd H2 s2.heap.objs.size (.lst [])) fp ao) rfl rfl rfl hc i [] s5 σ5 H5 _ I5 (iR mP) ky go) λr s6 ⟨u,hr,h6⟩=>?_
   subst hr;refine aY h6 λ_ s7 ⟨x,H7,I7,r7,y7,kW,xF⟩=>?_;have yk:=I7.pinned (iR xF) (T.obj _ _ kW);refine aY (hg _ _ _ _ _ _ s7 σ5 H7 x u _ yk r7 (step x H7 y7)) λ_ s8 ⟨σ8,H8,I8,q8⟩=>?_;refine aY (ht _ _ _ _ _ _ s8 σ8 H8 _ I8 q8) λok s9 ⟨H9,I9,q9⟩=>?_;have again:∀{s':af}{σ7:St}{H7:Hp},Inv (cI X N scope cl {s2 with heap:=h3} (upd H2 s2.heap.objs.size (.lst [])) fp ao) ([]++nO fp s7.heap) σ7 H7 s'->(∃m',m'<n/\W (i+1) m' σ7 H7)->∃m,m<n/\∃i σ' H',Inv (cI X N scope cl {s2 with heap:=h3} (upd H2 s2.heap.objs.size (.lst [])) fp ao) [] σ' H' s'/\tn i s'.heap/\(∀b∈fp,H' b=none)/\W i m σ' H':=λ{s' σ7 H7} J7 n7=>by obtain⟨m',hm,w7⟩:=n7;refine⟨m',hm,i+1,σ7,H7,J7.qN,T.keep _ _ _ kW λb hb o e=>(J7.pin (b,o) (gr _ (gr _ (mx hb e)))).1,λb hb=>?_,w7⟩;obtain⟨o,e,d⟩:=T.obj _ _ kW b hb;exact(J7.pin (b,o) (gr _ (gr _ (mx hb e)))).2.1
   cases ok with |false=>rw[bf gM]at q9⊢;exact again I9 q9 |true=>rw[aX rfl]at q9⊢;refine aY (he _ _ _ _ _ _ s9 σ8 H9 _ I9 q9) λyv gh ⟨y,fK,qB,EJ,ys,gW,hz,tN⟩=>?_;refine aY (zT _ gh σ8 fK (.ref s2.heap.objs.size) [y] (.ref s2.heap.objs.size) [yv] (λ_ gq=>∃m',m'<n/\W (i+1) m' σ8 gq) qB Z (.cons EJ .nil) ⟨_,ys,y,Z,Z,gW,hz,tN⟩) λ_ iu ⟨v11,gq,vf,Vk,we⟩=>?_;exact again vf we
 exact Ry loop (T.self _ 0 _ _ _ oZ loop)
theorem Hr:∀{bs:List Bool}{us:List Value},Vals (bs.map V.bl) us->us=bs.map Value.bool |[],_,.nil=>rfl |b::r,_,.cons q t=>by cases(show _=Value.bool b from q);rw[Hr t];rfl
section
variable {X:Cx}
theorem a4n(hc:X.calm=true):eH X (.builtin "all") (λxs H Q=>∃(l:Addr)(bs:List Bool),xs=[.ref l]/\aK X.K H l (bs.map V.bl)/\Q (.bl (bs.all id)) H):=by
 intro ao s O H xs us Q I r h;obtain⟨l,bs,rfl,hl,q⟩:=h;obtain⟨u,rfl,ru⟩:=vals1 r;cases(show u=Value.ref l from ru);obtain⟨its,rv,pl,hz⟩:=I.list hl;have e:=Hr rv;subst e;have j7:=pl.isList;have bQ:l<s.heap.objs.size:=by obtain⟨_,e,_⟩:=j7;exact cn e
 have hh:=I.ok.hd hc;refine call_all_walk (Bs j7 ?_);refine⟨s.heap.objs.size,[s.heap.objs.size,l],[s.heap.objs.size],(bs.map Value.bool).toArray.size,_,_,λi=>(bs[i]?).getD true,Z,Walks.list (A:=X.A.in1) hh _ l (dW bQ) (bs.map Value.bool).toArray,⟨⟨_,eu _ Z,Z,Z⟩,j7.push _⟩,λi v s' Q' E' hP hQ=>?_,λh' tk hk=>?_⟩
 ·have lK:(bs.map Value.bool)[i]? =some v:=by simpa using hP
  rw[bU]at lK;cases e:bs[i]? with |none=>rw[e]at lK;cases lK |some b=>rw[e]at lK;cases lK;simp only[e,Option.getD_some]at hQ;exact oN hQ
 ·have e:((List.range (bs.map Value.bool).toArray.size).all λi=>(bs[i]?).getD true)=bs.all id:=by rw[dn,bB];exact LSm.range_all bs
  rw[e];exact⟨.bl _,H,I.kept (LSm.kept_iter hk),Z,q⟩
theorem a4m(hc:X.calm=true):eH X (.builtin "any") (λxs H Q=>∃(l:Addr)(bs:List Bool),xs=[.ref l]/\aK X.K H l (bs.map V.bl)/\Q (.bl (bs.any id)) H):=by
 intro ao s O H xs us Q I r h;obtain⟨l,bs,rfl,hl,q⟩:=h;obtain⟨u,rfl,ru⟩:=vals1 r;cases(show u=Value.ref l from ru);obtain⟨its,rv,pl,hz⟩:=I.list hl;have e:=Hr rv;subst e;have j7:=pl.isList;have bQ:l<s.heap.objs.size:=by obtain⟨_,e,_⟩:=j7;exact cn e
 have hh:=I.ok.hd hc;refine call_any_walk (Bs j7 ?_);refine⟨s.heap.objs.size,[s.heap.objs.size,l],[s.heap.objs.size],(bs.map Value.bool).toArray.size,_,_,λi=>(bs[i]?).getD false,Z,Walks.list (A:=X.A.in1) hh _ l (dW bQ) (bs.map Value.bool).toArray,⟨⟨_,eu _ Z,Z,Z⟩,j7.push _⟩,λi v s' Q' E' hP hQ=>?_,λh' tk hk=>?_⟩
 ·have lK:(bs.map Value.bool)[i]? =some v:=by simpa using hP
  rw[bU]at lK;cases e:bs[i]? with |none=>rw[e]at lK;cases lK |some b=>rw[e]at lK;cases lK;simp only[e,Option.getD_some]at hQ;exact oN hQ
 ·have e:((List.range (bs.map Value.bool).toArray.size).any λi=>(bs[i]?).getD false)=bs.any id:=by rw[dn,bB];exact LSm.range_any bs
  rw[e];exact⟨.bl _,H,I.kept (LSm.kept_iter hk),Z,q⟩
end
theorem uX{J:It}{g:TG}{tt:TT}{te:TE}{Q:VK}{D:Addr}{O:St}{H:Hp}(n:Nat)(Pv:Nat->St->Hp->Prop)(h0:Pv 0 O H) (hs:∀i O H,i<n->Pv i O H->J.go i H/\∀x H2,J.iq i H x H2->g x O H2 λσ3 H3=>tt σ3 H3 λok H4=>if ok=true then te σ3 H4 λy H5=>∃ys,H5 D=some (.lst ys)/\ys.length<sizeLine/\∃m',m'<n-i/\m'=n-(i+1)/\i+1<=n/\Pv (i+1) σ3 (upd H5 D (.lst (ys++[y]))) else∃m',m'<n-i/\m'=n-(i+1)/\i+1<=n/\Pv (i+1) σ3 H4) (hd:∀O H,Pv n O H->J.stop n H/\Q (.ref D) H): kn J g tt te Q D O H:=by
 refine⟨λi m O H=>m=n-i/\i<=n/\Pv i O H,⟨n,by simp,eK _,h0⟩,?_⟩;rintro i m O H ⟨rfl,hi,p⟩;by_cases bQ:i<n
 ·exact .inr (hs i O H bQ p)
 ·have e:i=n:=by lia
  subst e;exact .inl (hd O H p)
section
variable {X:Cx} {tg:Expr}
theorem YY(K:a8)(h:X.K=K):oJ X (λx y H Q=>EF K x y H Q\/EE K x y H Q):=by subst h;exact YX.or YV
inductive a6G(K:a8)(x:V)(lo:Option Int)(hi:Option Int)(H:Hp)(Q:VK):Prop |mk (a:_)(xs:_)(h0:x= .ref a)(h1:((aK K H a xs/\∀p H',Nw H H' p (.lst (fm xs lo hi))->Q (.ref p) H')\/ (aV K H a xs/\¬(HT.bI xs.length 0 lo=0/\HT.bI xs.length xs.length hi=xs.length)/\∀p H',Nw H H' p (.tup (fm xs lo hi))->Q (.ref p) H')))
def Va(K:a8):V->Option Int->Option Int->Hp->VK->Prop:=λx lo hi H Q=>a6G K x lo hi H Q
theorem iT(K:a8)(h:X.K=K):yf X (Va K):=by
 subst h;intro ao s O H x v vl vu lo hi sl Q I rx hs pl pu hq;obtain⟨a,xs,e,hq⟩:=hq;rcases hq with⟨h1,k⟩|⟨h1,h2,k⟩
 ·exact Ua ao s O H x v vl vu lo hi sl Q I rx hs pl pu ⟨a,xs,e,h1,λp hp=>k p _ (.of hp)⟩
 ·exact K7 ao s O H x v vl vu lo hi sl Q I rx hs pl pu ⟨a,xs,e,h1,h2,λp hp=>k p _ (.of hp)⟩
theorem YF(K:a8)(h:X.K=K):eH X (.builtin "len") (λxs H Q=>∃p ys,xs=[.ref p]/\(aK K H p ys\/aV K H p ys)/\Q (.int ys.length) H):=by subst h;exact a4j
theorem Z3(K:a8)(h:X.K=K):eH X (.builtin "isinstance") (λxs H Q=>EH K xs H Q\/EG K xs H Q):=by subst h;exact a4l.or a4k
theorem cC(K:a8)(h:X.K=K)(hu:X.A.units+64<cLine):cP X (compareOp .Eq) (λx y H Q=>jr (λi j=>.bl (decide (i=j))) x y H Q\/EI K x y H Q):=by subst h;exact We hu
theorem iB(K:a8)(h:X.K=K)(hu:X.A.units+64<cLine):cP X (compareOp .NotEq) (λx y H Q=>jr (λi j=>.bl (!decide (i=j))) x y H Q\/ED K x y H Q):=by subst h;exact W7 hu
theorem uZ(K:a8)(h:X.K=K)(hc:X.calm=true):eH X (.builtin "all") (λxs H Q=>∃(l:Addr)(bs:List Bool),xs=[.ref l]/\aK K H l (bs.map V.bl)/\Q (.bl (bs.all id)) H):=by subst h;exact a4n hc
theorem QC(K:a8)(h:X.K=K)(hc:X.calm=true):eH X (.builtin "any") (λxs H Q=>∃(l:Addr)(bs:List Bool),xs=[.ref l]/\aK K H l (bs.map V.bl)/\Q (.bl (bs.any id)) H):=by subst h;exact a4m hc
theorem rH(K:a8)(h:X.K=K):eH X (.type "list") (λxs H Q=>∃p ys,xs=[.ref p]/\(aK K H p ys\/aV K H p ys)/\∀l H',Nw H H' l (.lst ys)->Q (.ref l) H'):=by subst h;intro ao s O H xs us Q I r hq;obtain⟨p,ys,e,h1,k⟩:=hq;exact a4h ao s O H xs us Q I r ⟨p,ys,e,h1,λl hl=>k l _ (.of hl)⟩
theorem m7(K:a8)(h:X.K=K):eH X (.type "tuple") (λxs H Q=>∃p ys,xs=[.ref p]/\((aK K H p ys/\∀l H',Nw H H' l (.tup ys)->Q (.ref l) H')\/(aV K H p ys/\Q (.ref p) H))):=by subst h;intro ao s O H xs us Q I r hq;obtain⟨p,ys,e,h1⟩:=hq;exact a4c ao s O H xs us Q I r ⟨p,ys,e,h1.imp (λ⟨a,k⟩=>⟨a,λl hl=>k l _ (.of hl)⟩) id⟩
def SY(t:TA):TE:=λO H Q=>t O H λxs H1=>xs.length<=sizeLine/\∀p H',Nw H1 H' p (.tup xs)->Q (.ref p) H'
def To(t:TA):TE:=λO H Q=>t O H λxs H1=>xs.length<=sizeLine/\∀p H',Nw H1 H' p (.lst xs)->Q (.ref p) H'
theorem cg{es:List Expr}{t:TA}{pos:Pos} {x1}(h:PA X es t):PE X (.Tuple es x1 pos) (SY t):=by intro ao s O H Q I hq;refine wpAny_Tuple_spliced (aY (h pos ao s O H _ I hq) λus s1 ⟨xs,H1,I1,r,z,q⟩=>⟨by rw[<-r.length];exact z,?_⟩);have hf:H1 s1.heap.objs.size=none:=I1.bj.fresh (bw _);refine⟨.ref s1.heap.objs.size,upd H1 s1.heap.objs.size (.tup xs),I1.laid (t':=s1.toks) (λb u e=>cw _ e) (bw _) ?_,Z,q _ _ (.of hf)⟩;exact⟨z,us,r,⟨_,eu _ Z,Z,_,Z⟩⟩
theorem cK{es:List Expr}{t:TA}{pos:Pos}(h:PA X es t):PE X (.List es pos) (To t):=by intro ao s O H Q I hq;refine wpAny_List_spliced (aY (h pos ao s O H _ I hq) λus s1 ⟨xs,H1,I1,r,z,q⟩=>⟨by rw[<-r.length];exact z,?_⟩);have hf:H1 s1.heap.objs.size=none:=I1.bj.fresh (bw _);refine⟨.ref s1.heap.objs.size,upd H1 s1.heap.objs.size (.lst xs),I1.laid (t':=s1.toks) (λb u e=>cw _ e) (bw _) ?_,Z,q _ _ (.of hf)⟩;exact⟨z,us,0,r,eu _ Z⟩
theorem qZ(K:a8)(h:X.K=K){l:Expr}{tl:TE}(hl:PE X l tl):PI X tg l (NU K tl):=by subst h;exact VG hl
theorem kG(K:a8)(h:X.K=K){l:Expr}{tl:TE}(hl:PE X l tl):PI X tg l (NT K tl):=by subst h;exact VD hl
theorem cV(K:a8)(h:X.K=K){es:List Expr}{k:Nat}{t:mZ}{n:Nat}{pos:Pos}(hc:X.calm=true)(hg:yg X es t)(hn:(assignEach es X.env).length=n:=by rfl)(jW:(assignEach es X.env).findIdx? (·.1)=none:=by rfl): PG X (.Tuple es k pos) (AH K n t):=by subst h;exact VH hc hg hn jW
theorem iz(K:a8)(h:X.K=K){o e:Expr}{to:TE}{t:TA}{apos dR:Pos}(ho:PE X o to)(ha:PA X [e] t) (si:attributeBase o "append" X.env (eval o X.env)=eval o X.env:=by rfl) (rY:((backTo dR (starEach [e] X.env)).all (λx=>!x.1)&&(backToKw dR (keywordEach [] X.env)).all (λx=>x.1.isSome) &&decide ([e].length+([]:List Keyword).length+(if([]:List Keyword).isEmpty then 0 else 1)<30))=true:=by rfl) (rT:(apos.endLine==dR.line)=true:=by rfl)(hs:starEach [e] X.env=(false,eval e X.env)::starEach [] X.env:=by rfl)(rO:(backTo dR (starEach [] X.env)).any (·.1)=false:=by rfl): PE X (.Call (.Attribute o "append" apos) [e] [] dR) (zh K "list" Mh to t):=by subst h;exact EV PySem.F.plainAttrs_list PySem.F.slot_list_append PySem.F.type_list_append zT ho ha si rY rT hs rO
theorem yY{j:Nat}{x:V}{O:St}{H:Hp}{A B:St->Hp->Prop}(h:A (O.set j (some x)) H):gk j x O H λσ3 H3=>jo σ3 H3 λok H4=>if ok=true then A σ3 H4 else B σ3 H4:=by show if true=true then A (O.set j (some x)) H else B (O.set j (some x)) H;rw[aX rfl];exact h
theorem yes{O:St}{H:Hp}{Q:Bool->Hp->Prop}(h:Q true H):jo O H Q:=h
end
theorem aK.go{K:a8}{H H':Hp}{a:Addr}{xs:List V}(s:aD H H')(h:aK K H a xs):aK K H' a xs:=h.imp (λr=>r.imp (s _ _) λ⟨o,e⟩=>⟨o,s _ _ e⟩) id
theorem aV.go{K:a8}{H H':Hp}{a:Addr}{xs:List V}(s:aD H H')(h:aV K H a xs):aV K H' a xs:=h.imp (λr=>r.imp (s _ _) λ⟨o,e⟩=>⟨o,s _ _ e⟩) id
mutual
theorem RD.mono{K:a8}{H H':Hp}(s:aD H H'):∀{x:V}(d:ah),RD K H x d->RD K H' x d |x,.none,h=>by simpa[RD]using h |x,.bool b,h=>by simpa[RD]using h |x,.int i,h=>by simpa[RD]using h |x,.str y,h=>by simpa[RD]using h |x,.list ds,h=>by rw[RD]at h⊢;obtain⟨a,xs,e,h1,h2⟩:=h;exact⟨a,xs,e,h1.go s,aJ.mono s ds h2⟩ |x,.tuple ds,h=>by rw[RD]at h⊢;obtain⟨a,xs,e,h1,h2⟩:=h;exact⟨a,xs,e,h1.go s,aJ.mono s ds h2⟩ |x,.dict _,h=>by simp[RD]at h
theorem aJ.mono {K:a8}{H H':Hp}(s:aD H H'):∀{xs:List V}(ds:List ah),aJ K H xs ds->aJ K H' xs ds |xs,[],h=>by simpa[aJ]using h |xs,d::ds,h=>by rw[aJ]at h⊢;obtain⟨y,ys,e,h1,h2⟩:=h;exact⟨y,ys,e,RD.mono s d h1,aJ.mono s ds h2⟩
end
section
variable {K:a8} {H H':Hp}
theorem aJ.nil_inv{xs:List V}(h:aJ K H xs []):xs=[]:=by simpa[aJ]using h
theorem aJ.cons_inv{xs:List V}{d:ah}{ds:List ah}(h:aJ K H xs (d::ds)):∃y ys,xs=y::ys/\RD K H y d/\aJ K H ys ds:=by rw[aJ]at h;exact h
theorem RD.bX{x:V}{ds:List ah}(h:RD K H x (.tuple ds)):∃a xs,x= .ref a/\aV K H a xs/\aJ K H xs ds:=by rw[RD]at h;exact h
theorem RD.lst_inv{x:V}{ds:List ah}(h:RD K H x (.list ds)):∃a xs,x= .ref a/\aK K H a xs/\aJ K H xs ds:=by rw[RD]at h;exact h
theorem RD.int_inv{x:V}{i:Int}(h:RD K H x (.int i)):x= .int i:=by rw[RD]at h;exact h
theorem RD.a4v{x:V}{i:Bool}(h:RD K H x (.bool i)):x= .bl i:=by rw[RD]at h;exact h
theorem RD.str_inv{x:V}{i:Str}(h:RD K H x (.str i)):x= .str i:=by rw[RD]at h;exact h
theorem RD.F9{x:V}(h:RD K H x .none):x= .bR:=by rw[RD]at h;exact h
theorem aJ.length:∀{xs:List V}{ds:List ah},aJ K H xs ds->xs.length=ds.length |xs,[],h=>by rw[h.nil_inv];rfl |xs,d::ds,h=>by obtain⟨y,ys,rfl,_,h2⟩:=h.cons_inv;rw[nq,nq,aJ.length h2]
theorem aJ.append:∀{xs ys:List V}{ds es:List ah},aJ K H xs ds->aJ K H ys es->aJ K H (xs++ys) (ds++es) |xs,ys,[],es,h,g=>by rw[h.nil_inv];exact g |xs,ys,d::ds,es,h,g=>by obtain⟨y,zs,rfl,h1,h2⟩:=h.cons_inv;exact bV h1 (aJ.append h2 g)
theorem aJ.take:∀(n:Nat){xs:List V}{ds:List ah},aJ K H xs ds->aJ K H (xs.take n) (ds.take n) |0,xs,ds,h=>by rw[List.take_zero,List.take_zero];exact cD |n+1,xs,[],h=>by rw[h.nil_inv];exact cD |n+1,xs,d::ds,h=>by obtain⟨y,zs,rfl,h1,h2⟩:=h.cons_inv;exact bV h1 (aJ.take n h2)
theorem aJ.drop:∀(n:Nat){xs:List V}{ds:List ah},aJ K H xs ds->aJ K H (xs.drop n) (ds.drop n) |0,xs,ds,h=>h |n+1,xs,[],h=>by rw[h.nil_inv];exact cD |n+1,xs,d::ds,h=>by obtain⟨y,zs,rfl,h1,h2⟩:=h.cons_inv;exact aJ.drop n h2
theorem aJ.rev:∀{xs:List V}{ds:List ah},aJ K H xs ds->aJ K H xs.reverse ds.reverse |xs,[],h=>by rw[h.nil_inv];exact cD |xs,d::ds,h=>by obtain⟨y,zs,rfl,h1,h2⟩:=h.cons_inv;rw[IE,IE];exact(aJ.rev h2).append (bV h1 cD)
theorem aJ.get:∀(n:Nat){xs:List V}{ds:List ah}{d:ah},aJ K H xs ds->ds[n]? =some d->∃x,xs[n]? =some x/\RD K H x d
 |n,xs,[],d,h,e=>by simp at e |0,xs,d'::ds,d,h,e=>by
  obtain⟨y,zs,rfl,h1,h2⟩:=h.cons_inv;have e':d'=d:=by simpa using e
  subst e';exact⟨y,Z,h1⟩ |n+1,xs,d'::ds,d,h,e=>by obtain⟨y,zs,rfl,h1,h2⟩:=h.cons_inv;exact aJ.get n h2 (by simpa using e)
theorem aJ.get'(n:Nat){xs:List V}{ds:List ah}{x:V}(h:aJ K H xs ds)(e:xs[n]? =some x):∃d,ds[n]? =some d/\RD K H x d:=by
 have hl:n<ds.length:=by rw[<-h.length];exact(cL.mp e).1
 obtain⟨y,e1,r⟩:=h.get n (bG hl);rw[e]at e1;cases e1;exact⟨_,bG hl,r⟩
def cutD(ds:List ah)(lo hi:Option Int):List ah:=(ds.drop (HT.bI ds.length 0 lo)).take (HT.bI ds.length ds.length hi-HT.bI ds.length 0 lo)
theorem aJ.cut{xs:List V}{ds:List ah}(h:aJ K H xs ds)(lo hi:Option Int):aJ K H (fm xs lo hi) (cutD ds lo hi):=by unfold fm cutD;rw[h.length];exact(h.drop _).take _
def da:ah->String | .none=>"NoneType" | .bool _=>"bool" | .int _=>"int" | .str _=>"str" | .list _=>"list" | .tuple _=>"tuple" | .dict _=>"dict"
theorem RD.ty{x:V}:∀{d:ah},RD K H x d->qw K H x (da d) | .none,h=>by rw[h.F9];rfl | .bool b,h=>by rw[h.a4v];rfl | .int b,h=>by rw[h.int_inv];rfl | .str b,h=>by rw[h.str_inv];rfl | .list ds,h=>by obtain⟨a,xs,rfl,h1,_⟩:=h.lst_inv;exact .inl ⟨Z,xs,h1⟩ | .tuple ds,h=>by obtain⟨a,xs,rfl,h1,_⟩:=h.bX;exact .inr ⟨Z,xs,h1⟩ | .dict _,h=>by simp[RD]at h
structure bW(n:Nat)(d:ah):Prop where
 lay:d.canLay0=true
 dep:d.depth<=n
def dP(n:Nat)(ds:List ah):Prop:=∀d∈ds,bW n d
theorem bW.le{n m:Nat}{d:ah}(h:bW n d)(l:n<=m):bW m d:=⟨h.lay,eL h.dep l⟩
theorem uk{n:Nat}:∀{ds:List ah},dP n ds↔(PyData.canLayAll0 ds=true/\PyData.depthAll ds<=n)
 |[]=>⟨λ_=>⟨Z,eK _⟩,λ_ _ h=>nomatch h⟩ |d::ds=>by
  have ih:=uk (n:=n) (ds:=ds);simp only[PyData.canLayAll0,PyData.depthAll,f9];constructor
  ·intro h
   have h1:=h d (.head _);have h2:=ih.mp λx hx=>h x (.tail _ hx);exact⟨⟨h1.lay,h2.1⟩,Nat.max_le.mpr ⟨h1.dep,h2.2⟩⟩
  ·rintro⟨⟨a,b⟩,c⟩ x hx
   have c':=Nat.max_le.mp c;rcases cR.mp hx with rfl|hx
   ·exact⟨a,c'.1⟩
   ·exact ih.mpr ⟨b,c'.2⟩ x hx
theorem dP.tup{n:Nat}{ds:List ah}(h:dP n ds):bW (n+1) (.tuple ds):=⟨by simpa[PyData.canLay0]using(uk.mp h).1,by simpa[PyData.depth]using(uk.mp h).2⟩
theorem dP.lst{n:Nat}{ds:List ah}(h:dP n ds):bW (n+1) (.list ds):=⟨by simpa[PyData.canLay0]using(uk.mp h).1,by simpa[PyData.depth]using(uk.mp h).2⟩
theorem bW.bX{n:Nat}{ds:List ah}(h:bW (n+1) (.tuple ds)):dP n ds:=uk.mpr ⟨by simpa[PyData.canLay0]using h.lay,by simpa[PyData.depth]using h.dep⟩
theorem bW.int{n:Nat}(i:Int):bW n (.int i):=⟨Z,eK _⟩
theorem bW.bl{n:Nat}(i:Bool):bW n (.bool i):=⟨Z,eK _⟩
theorem dP.nil{n:Nat}:dP n []:=λ_ h=>nomatch h
theorem dP.cons{n:Nat}{d:ah}{ds:List ah}(h:bW n d)(g:dP n ds):dP n (d::ds):=λx hx=>by
 rcases cR.mp hx with rfl|hx
 ·exact h
 ·exact g x hx
theorem dP.app{n:Nat}{ds es:List ah}(h:dP n ds)(g:dP n es):dP n (ds++es):=λx hx=>(gL.mp hx).elim (h x) (g x)
theorem dP.cut{n:Nat}{ds:List ah}(h:dP n ds)(lo hi:Option Int):dP n (cutD ds lo hi):=λx hx=>h x (RQ (tD hx))
theorem bW.shaped{n:Nat}{d:ah}(h:bW n d)(l:n<=64):SeqAt.shaped d=true:=by unfold SeqAt.shaped;rw[h.lay,jL];exact bT (eL h.dep l)
theorem bW.refl{n:Nat}{d:ah}(h:bW n d):PyData.eqv d d=true:=eqv_refl d h.lay
def del(H:Hp)(p:Addr):Hp:=λb=>if b=p then none else H b
theorem jE{H:Hp}{p b:Addr}{o:HO}:del H p b=some o↔b≠p/\H b=some o:=by
 unfold del;by_cases e:b=p
 ·rw[aX e];simp[e]
 ·rw[bf e];simp[e]
theorem kh{H:Hp}{p:Addr}:aD (del H p) H:=λb o e=>(jE.mp e).2
def SD(p:Addr)(H H':Hp):Prop:=aD (del H p) (del H' p)
theorem aD.sd{p:Addr}(s:aD H H'):SD p H H':=λb o e=>jE.mpr ⟨(jE.mp e).1,s _ _ (jE.mp e).2⟩
theorem SD.trans{p:Addr}{H1:Hp}(a:SD p H H')(b:SD p H' H1):SD p H H1:=λc o e=>b c o (a c o e)
theorem Nw.del{p q:Addr}{o:HO}(h:Nw H H' q o)(hp:H p≠none):L2.del H' p q=some o:=jE.mpr ⟨λe=>hp (e▸h.no),h.at'⟩
structure AD(K:a8)(p:Addr)(n:Nat)(H:Hp)(v:V)(d:ah):Prop where
 rd:RD K (del H p) v d
 ok:bW n d
structure gf(K:a8)(p:Addr)(n:Nat)(H:Hp)(vs:List V)(ds:List ah):Prop where
 fE:aJ K (del H p) vs ds
 ok:dP n ds
variable {p:Addr}{n m:Nat}{v:V}{vs:List V}{d:ah}{ds es:List ah}
theorem AD.nJ(h:AD K p n H v d):RD K H v d:=RD.mono kh _ h.rd
theorem AD.ty(h:AD K p n H v d):qw K H v (da d):=h.nJ.ty
theorem AD.go(h:AD K p n H v d)(s:SD p H H'):AD K p n H' v d:=⟨RD.mono s _ h.rd,h.ok⟩
theorem gf.go(h:gf K p n H vs ds)(s:SD p H H'):gf K p n H' vs ds:=⟨aJ.mono s _ h.fE,h.ok⟩
theorem AD.le(h:AD K p n H v d)(l:n<=m):AD K p m H v d:=⟨h.rd,h.ok.le l⟩
theorem gf.nil:gf K p n H [] []:=⟨cD,.nil⟩
theorem gf.cons(h:AD K p n H v d)(g:gf K p n H vs ds):gf K p n H (v::vs) (d::ds):=⟨bV h.rd g.fE,.cons h.ok g.ok⟩
theorem gf.one(h:AD K p n H v d):gf K p n H [v] [d]:=.cons h .nil
theorem AD.int(i:Int):AD K p n H (.int i) (.int i):=⟨df i,.int i⟩
theorem AD.bl(i:Bool):AD K p n H (.bl i) (.bool i):=⟨mh i,.bl i⟩
theorem AD.gF{q:Addr}(h:gf K p n H vs ds)(w:Nw H H' q (.tup vs))(hp:H p≠none):AD K p (n+1) H' (.ref q) (.tuple ds):=⟨eY (aV.of (w.del hp)) (h.go w.same.sd).fE,h.ok.tup⟩
theorem AD.uo{q:Addr}(h:gf K p n H vs ds)(w:Nw H H' q (.lst vs))(hp:H p≠none):AD K p (n+1) H' (.ref q) (.list ds):=⟨wa (aK.of (w.del hp)) (h.go w.same.sd).fE,h.ok.lst⟩
theorem AD.zm(h:AD K p (n+1) H v (.tuple ds)):∃a xs,v= .ref a/\aV K (del H p) a xs/\gf K p n H xs ds:=by obtain⟨a,xs,e,h1,h2⟩:=h.rd.bX;exact⟨a,xs,e,h1,h2,h.ok.bX⟩
theorem gf.get(h:gf K p n H vs ds)(i:Nat)(e:ds[i]? =some d):∃x,vs[i]? =some x/\AD K p n H x d:=by obtain⟨x,e1,r⟩:=h.fE.get i e;exact⟨x,e1,r,h.ok d (fC e)⟩
end
inductive a6Y(K:a8)(x:V)(y:V)(H:Hp)(Q:VK):Prop |mk (p:_)(n:_)(ds:_)(es:_)(h0:H p≠none)(h1:AD K p (n+1) H x (.tuple ds))(h2:AD K p (n+1) H y (.tuple es))(h3:ds.length+es.length<=sizeLine)(h4:∀v H',aD H H'->AD K p (n+1) H' v (.tuple (ds++es))->Q v H')
def Vi(K:a8):R2:=λx y H Q=>a6Y K x y H Q
section
variable {X:Cx}
theorem qt(K:a8)(hK:X.K=K):cP X (binaryOp .Add) (Vi K):=by
 subst hK;intro ao s O H x y v u Q I rx ry h;obtain⟨p,n,ds,es,hp,hx,hy,hz,q⟩:=h;obtain⟨a,xs,rfl,ha,cT⟩:=hx.zm;obtain⟨b,ys,rfl,hb,gW⟩:=hy.zm;cases rx;cases ry;obtain⟨its,r1,p1,_⟩:=I.tuple (ha.go kh);obtain⟨jU,r2,p2,_⟩:=I.tuple (hb.go kh);have l1:=cT.fE.length;have l2:=gW.fE.length;by_cases e0:xs=[]
 ·subst e0
  have d0:ds=[]:=yL.mp (by rw[<-l1];rfl);subst d0;have i0:its=[]:=r1.Fc.mpr rfl;subst i0;obtain⟨⟨cls,dd,data,sl⟩,ho,hc,n,hd⟩:=id p1;obtain⟨⟨Q5,uU,data2,tY⟩,jz,jC,n2,hd2⟩:=id p2;simp only at hc hd jC hd2;subst hc hd jC hd2;exact concat_meets ⟨_,ho,Z⟩ ⟨_,jz,Z⟩ noFill_tuple_add seq_tuple_add RI RJ (RK _ _) (tuple_addW0 a b _ jU.toArray n n2 dd uU sl tY (by simp)) ⟨ho,jz,⟨.ref b,H,I,Z,q _ _ (aD.refl H) hy⟩⟩
 ·refine HT.a4b p1 p2 (λz=>e0 (r1.Fc.mp z)) (λz=>⟨.ref a,H,I,Z,?_⟩) (λz=>?_) (by rw[<-r1.length,<-r2.length,l1,l2];exact hz)
  ·have e1:ys=[]:=r2.Fc.mp z
   have d1:es=[]:=yL.mp (by rw[<-l2,e1];rfl);subst d1;exact q _ _ (aD.refl H) (by rw[tH];exact hx)
  ·have hf:H s.heap.objs.size=none:=I.bj.fresh (bw _)
   have nw:Nw H (upd H s.heap.objs.size (.tup (xs++ys))) s.heap.objs.size (.tup (xs++ys)):=.of hf;refine⟨.ref s.heap.objs.size,_,I.laid (t':=s.toks) (o:=.tup (xs++ys)) (λb ob q=>cw _ q) (bw _) ?_,Z,q _ _ nw.same ?_⟩
   ·exact⟨by rw[cB,l1,l2];exact hz,_,r1.append r2,IsTup.new _ _⟩
   ·exact AD.gF ⟨cT.fE.append gW.fE,cT.ok.app gW.ok⟩ nw hp
end
end L2
namespace HT
open PySem PySem.Spec PyProof.Rows
section
variable {prog:ag}{w:World}{A:ai}{E:Value->af->Prop}{s:af}
theorem a1x{t sl:Addr}{items:Array Value}{vl vu:Value}{lo hi:Option Int}{Q:Value->af->Prop}(ht:IsTup s.heap t items)(hs:s.heap.IsSliceOf sl vl vu .none)(pl:IsPart vl lo)(pu:IsPart vu hi) (hw:bI items.size 0 lo=0/\bI items.size items.size hi=items.size)(h:Q (.ref t) s):wpAny (model prog w) A (getItem (.ref t) (.ref sl)) Q E s:=by
 obtain⟨os,rP,kM,jB⟩:=id hs;have Gh:s.TypeIs (.ref sl) "slice":=⟨os,rP,kM⟩;unfold getItem
 try with_reducible refine jI ?_
 first|refine aF (bH ?_)|skip
 refine aF (wpAny_sequenceKey ht.typeIs au ?_);refine aF (yy (name:=Str.ofString "__getitem__") ht.typeIs yA (yx yA ht.typeIs entry_tuple_getitem ?_ (args_tuple_getitem _ _)));show wpAny _ _ (Builtin.Tuple.tupleItemsOf (.ref t)>>=_) _ _ s;refine aF (tupleItemsOf_ ht ?_);refine aF (wpAny_typeOf Gh ?_);rw[aX au];refine aF (K6 hs pl pu ?_);have Zl:(((bI items.size 0 lo:Nat):Int)==0&&(1:Int)==1&&(bI items.size items.size hi-bI items.size 0 lo)==items.size)=true:=by rw[hw.1,hw.2];simp
 show wpAny _ _ (if(((bI items.size 0 lo:Nat):Int)==0&&(1:Int)==1&&(bI items.size items.size hi-bI items.size 0 lo)==items.size)=true then _ else _) _ _ s;rw[aX Zl];show wpAny _ _ (Builtin.Tuple.tupleIsExact (.ref t)>>=_) _ _ s;refine aF (m:=Builtin.Tuple.tupleIsExact _) (aF (wpAny_typeOf ht.typeIs (bH ?_)));rw[aX au]
 wp_walk;exact⟨_,Z,bH h⟩
end
end HT
namespace L2
open PySem PySem.Spec PyProof.Rows
inductive a6F(K:a8)(x:V)(lo:Option Int)(hi:Option Int)(H:Hp)(Q:VK):Prop |mk (p:_)(n:_)(ds:_)(h0:H p≠none)(h1:AD K p (n+1) H x (.tuple ds))(h2:∀v H',aD H H'->AD K p (n+1) H' v (.tuple (cutD ds lo hi))->Q v H')
def V9(K:a8):V->Option Int->Option Int->Hp->VK->Prop:=λx lo hi H Q=>a6F K x lo hi H Q
theorem a3M{ds:List ah}{lo hi:Option Int}(h1:HT.bI ds.length 0 lo=0)(h2:HT.bI ds.length ds.length hi=ds.length):cutD ds lo hi=ds:=by unfold cutD;rw[h1,h2];simp
section
variable {X:Cx}
theorem qT(K:a8)(hK:X.K=K):yf X (V9 K):=by
 subst hK;intro ao s O H x v vl vu lo hi sl Q I rx hs pl pu h;obtain⟨p,n,ds,hp,hx,q⟩:=h;obtain⟨a,xs,rfl,ha,cT⟩:=hx.zm;have Oq:=ha.go kh;have l1:=cT.fE.length;by_cases hw:HT.bI xs.length 0 lo=0/\HT.bI xs.length xs.length hi=xs.length
 ·cases rx
  obtain⟨its,r,ht,hz⟩:=I.tuple Oq;have hlen:its.toArray.size=xs.length:=by rw[dn];exact r.length.symm
  refine⟨"tuple",_,yA.lookup,ht.typeIs,?_⟩;refine HT.a1x ht hs pl pu (by rw[hlen];exact hw) ⟨.ref a,H,I,Z,q _ _ (aD.refl H) ?_⟩;rw[a3M (by rw[<-l1];exact hw.1) (by rw[<-l1];exact hw.2)];exact hx
 ·refine K7 ao s O H _ v vl vu lo hi sl Q I rx hs pl pu ⟨a,xs,Z,Oq,hw,λr hr=>?_⟩
  have nw:Nw H (upd H r (.tup (fm xs lo hi))) r (.tup (fm xs lo hi)):=.of hr;exact q _ _ nw.same (AD.gF ⟨cT.fE.cut lo hi,cT.ok.cut lo hi⟩ nw hp)
end
def fr(H H':Hp):Hp:=λb=>match H b with|none=>H' b|some _=>none
theorem oA{H H':Hp}{b:Addr}{o:HO}:fr H H' b=some o↔H b=none/\H' b=some o:=by unfold fr;cases H b<;>simp
theorem a1N{H H':Hp}:aD (fr H H') H':=λb o e=>(oA.mp e).2
theorem Gs{H H1 H2:Hp}(s:aD H1 H2):aD (fr H H1) (fr H H2):=λb o e=>oA.mpr ⟨(oA.mp e).1,s _ _ (oA.mp e).2⟩
theorem a1O{H H1 H2:Hp}(s:aD H H1):aD (fr H1 H2) (fr H H2):=λb o e=>oA.mpr ⟨s.free (oA.mp e).1,(oA.mp e).2⟩
def ze(K:a8)(d:ah):TE:=λ_ H Q=>∀v H',aD H H'->RD K (fr H H') v d->Q v H'
def Tp(K:a8)(ds:List ah):TA:=λ_ H Q=>∀vs H',aD H H'->aJ K (fr H H') vs ds->Q vs H'
def wO(f:Expr->Option ah):List Expr->Option (List ah) |[]=>some [] |e::es=>match f e,wO f es with |some d,some ds=>some (d::ds) |_,_=>none
def lit:Nat->Expr->Option ah
 |0,_=>none |_+1,.Constant .none _ _=>some .none |_+1,.Constant (.bool b) _ _=>some (.bool b) |_+1,.Constant (.int i) _ _=>some (.int i) |_+1,.Constant (.str x) _ _=>some (.str x) |n+1,.Tuple es _ _=>match wO (lit n) es with |some ds=>if ds.length<=1000 then some (.tuple ds)else none |none=>none
 |n+1,.List es _=>match wO (lit n) es with |some ds=>if ds.length<=1000 then some (.list ds)else none |none=>none
 |n+1,.UnaryOp .USub a _=>match lit n a with |some (.int i)=>some (.int (-i)) |_=>none
 |n+1,.BinOp a .Pow b _=>match lit n a,lit n b with |some (.int i),some (.int j)=>if 0<=j/\j<=1000000/\i.natAbs<2^64 then some (.int (i^j.toNat))else none |_,_=>none
 |_,_=>none
section
variable {X:Cx}
theorem U1{e:Expr}{es:List Expr}{env:Env}(h:∀a b,e≠ .Starred a b):starEach (e::es) env=(false,eval e env)::starEach es env:=by cases e<;>first|rfl|exact absurd rfl (h _ _)
theorem YC{n:Nat}{e:Expr}{d:ah}(h:lit n e=some d):∀a b,e≠ .Starred a b:=by intro a b z;subst z;cases n<;>simp[lit]at h
theorem Mv(K:a8)(f:Expr->Option ah)(hp:∀e d,f e=some d->∀a b,e≠ .Starred a b)(hf:∀e d,f e=some d->PE X e (ze K d)):∀(es:List Expr)(ds:List ah),wO f es=some ds->PA X es (Tp K ds)
 |[],ds,h=>by cases h;intro pos ao s O H Q I hq;exact aw pos ao s O H Q I (hq [] H (aD.refl H) cD) |e::es,ds,h=>by
  rw[wO]at h;split at h
  ·rename_i d oE e1 e2
   cases h;intro pos ao s O H Q I hq;refine ak (hf e d e1) (Mv K f hp hf es oE e2) (U1 (hp e d e1)) pos ao s O H Q I ?_;intro v H1 s1 r1 vs H2 s2 r2;exact hq (v::vs) H2 (s1.trans s2) (bV (RD.mono (Gs s2) _ r1) (aJ.mono (a1O s1) _ r2))
  ·cases h
theorem wg(K:a8)(hK:X.K=K):∀(n:Nat)(e:Expr)(d:ah),lit n e=some d->PE X e (ze K d)
 |0,e,d,h=>by simp[lit]at h |n+1,e,d,h=>by
  have hA:=Mv (X:=X) K (lit n) (λe d h=>YC h) (λe d h=>wg K hK n e d h);unfold lit at h;split at h
  case h_1=>cases‹Nat.succ n=0›
  case h_2=>cases h;intro ao s O H Q I hq;exact eQ ao s O H Q I (hq .bR H (aD.refl H) u9)
  case h_3=>cases h;intro ao s O H Q I hq;exact gE ao s O H Q I (hq (.bl _) H (aD.refl H) (mh _))
  case h_4=>cases h;intro ao s O H Q I hq;exact aA ao s O H Q I (hq (.int _) H (aD.refl H) (df _))
  case h_5=>cases h;intro ao s O H Q I hq;exact cJ ao s O H Q I (hq (.str _) H (aD.refl H) (cM _))
  case h_6=>
   rename_i m es _ _ hm;cases hm;split at h
   ·rename_i ds e1
    by_cases hl:ds.length<=1000
    ·rw[aX hl]at h
     cases h;intro ao s O H Q I hq;refine cg (hA es ds e1) ao s O H Q I ?_;intro vs H1 s1 r1;refine⟨by rw[r1.length];exact eL hl au,λp H' nw=>?_⟩;refine hq _ _ (s1.trans nw.same) (eY (aV.of (oA.mpr ⟨s1.free nw.no,nw.at'⟩)) (aJ.mono (Gs nw.same) _ r1))
    ·rw[bf hl]at h;cases h
   ·cases h
  case h_7=>
   rename_i m es _ hm;cases hm;split at h
   ·rename_i ds e1
    by_cases hl:ds.length<=1000
    ·rw[aX hl]at h
     cases h;intro ao s O H Q I hq;refine cK (hA es ds e1) ao s O H Q I ?_;intro vs H1 s1 r1;refine⟨by rw[r1.length];exact eL hl au,λp H' nw=>?_⟩;refine hq _ _ (s1.trans nw.same) (wa (aK.of (oA.mpr ⟨s1.free nw.no,nw.at'⟩)) (aJ.mono (Gs nw.same) _ r1))
    ·rw[bf hl]at h;cases h
   ·cases h
  case h_8=>
   rename_i m a _ hm;cases hm;split at h
   ·rename_i i e1
    cases h;intro ao s O H Q I hq;refine iX iQ (wg K hK n a _ e1) ao s O H Q I ?_;intro v H1 s1 r1;exact⟨i,r1.int_inv,hq _ _ s1 (df _)⟩
   ·cases h
  case h_9=>
   rename_i m a b _ hm;cases hm;split at h
   ·rename_i i j e1 e2
    by_cases hc:0<=j/\j<=1000000/\i.natAbs<2^64
    ·rw[aX hc]at h
     cases h;intro ao s O H Q I hq;refine aG iZ (wg K hK n a _ e1) (wg K hK n b _ e2) ao s O H Q I ?_;intro v H1 s1 r1 v2 H2 s2 r2;exact⟨i,j,r1.int_inv,r2.int_inv,hc,hq _ _ (s1.trans s2) (df _)⟩
    ·rw[bf hc]at h;cases h
   ·cases h
  case h_10=>cases h
end
end L2
namespace L2
theorem cQ{α:Type}{xs:List α}{i:Int}{v:α}(h0:0<=i)(h:xs[i.toNat]? =some v):dk xs i=some v:=by have hl:i.toNat<xs.length:=(cL.mp h).1;unfold dk gH;rw[aX h0,aX aq];exact h
end L2
namespace L2
open PySem PySem.Spec PyProof.Rows
theorem CF(n:Nat)(h:n<=1000):n<=sizeLine:=eL h au
structure QT(X:Cx)(e:Expr)(t:TE):Prop where out:PE X e t
theorem VM{X:Cx}(K:a8)(hK:X.K=K)(n:Nat)(e:Expr)(d:ah)(h:lit n e=some d):QT X e (ze K d):=⟨wg K hK n e d h⟩
section
variable {X:Cx}{p pos pos':Pos}{a b e:Expr}{es:List Expr}{ta tb te:TE}{t:TA}{x:Str}
theorem px(K:a8)(ha:PE X a ta)(hb:PE X b tb)(hK:X.K=K:=by rfl)(hp:QP b:=by exact λ_ _=>rfl):PE X (.Subscript a b pos) (vH (λx y H Q=>EF K x y H Q\/EE K x y H Q) ta tb):=Mt (YY K hK) ha hb hp
theorem fj(K:a8)(B:bK X.mg)(ha:PA X (e::es) t)(hK:X.K=K:=by rfl)(hg:Gl X "isinstance":=by rfl)(he:starEach (e::es) X.env=(false,eval e X.env)::starEach es X.env:=by rfl)(gX:(backTo pos (starEach es X.env)).any (·.1)=false:=by rfl):PE X (.Call (.Name "isinstance" p) (e::es) [] pos) (zf (λxs H Q=>EH K xs H Q\/EG K xs H Q) t):=dv (Z3 K hK) hg (B.at "isinstance") Iy ha au au he gX
theorem dF(K:a8)(B:bK X.mg)(ha:PA X (e::es) t)(hK:X.K=K:=by rfl)(hg:Gl X "len":=by rfl)(he:starEach (e::es) X.env=(false,eval e X.env)::starEach es X.env:=by rfl)(gX:(backTo pos (starEach es X.env)).any (·.1)=false:=by rfl):PE X (.Call (.Name "len" p) (e::es) [] pos) (zf (λxs H Q=>∃p ys,xs=[.ref p]/\(aK K H p ys\/aV K H p ys)/\Q (.int ys.length) H) t):=dv (YF K hK) hg (B.at "len") PySem.boot_len ha au au he gX
theorem pS(i:Nat)(hN:X.N.Nodup)(he:PE X e te)(hi:X.N[i]? =some x:=by rfl)(hx:Loc X.env.scope x:=by first|exact Or.inl rfl|exact Or.inr rfl)(hs:swapsWith e (some (.Name x pos')) pos.line X.env=pure false:=by rfl)(hf:X.fn x=true\/X.env.scope.names.lookup x=some .local:=by first|exact .inl rfl|exact .inr rfl|assumption):PS X (.Assign [.Name x pos'] e pos) (zj te (gk i)):=Vv hN hi hx he hs hf
theorem aZ(i:Nat)(hN:X.N.Nodup)(hi:X.N[i]? =some x:=by rfl)(hx:Loc X.env.scope x:=by first|exact Or.inl rfl|exact Or.inr rfl)(hf:X.fn x=true\/X.env.scope.names.lookup x=some .local:=by first|exact .inl rfl|exact .inr rfl|assumption):PG X (.Name x pos) (gk i):=VI hN hi hx hf
theorem nY (a:Str):[a].Nodup:=by simp
theorem iC{a b:Str}(h:(a==b)=false):[a,b].Nodup:=by
 have:a≠b:=λz=>by rw[z,Ik]at h;cases h
 simp[this]
theorem bc{n:Nat}(h:Nat.ble n 1000=true):n<=sizeLine:=CF n (Nat.le_of_ble_eq_true h)
end
def GV(mg:bS)(x:Str)(v:V):Prop:=∃u,mg x=some u/\RelV v u
def GT(K:a8)(mg:bS)(x:Str)(vs:List V):Prop:=∃a,GV mg x (.ref a)/\∀H,aV K H a vs
theorem dg{X:Cx}{x:Str}{v:V}{pos:Pos}(hg:Gl X x)(h:GV X.mg x v)(hd:(x==("__debug__":Str))=false:=by decide):PE X (.Name x pos) (tC v):=by obtain⟨u,hm,r⟩:=h;exact VN hg hm r hd
section
variable {K:a8} {mg:bS} {h:Heap}
theorem mO{x:Str}{i:Int}{t:Tok}(X:K.In h)(G:h.Ns mainGlobals mg)(a:PySem.W.nsIn K mainGlobals x=some (some (.int i t))):GV mg x (.int i):=⟨_,vm X G a,t,Z⟩
theorem OB{x:Str}{vs:List V}{b:Addr}{its:Array Value}{n:Nat}{od:Option Addr}{fG:Array (Option Value)}(X:K.In h)(G:h.Ns mainGlobals mg)(a:PySem.W.nsIn K mainGlobals x=some (some (.ref b))) (l:K.lookup b=some ⟨.type "tuple",od,.seq its n,fG⟩)(hz:its.size<=sizeLine)(r:Vals vs its.toList):GT K mg x vs:=⟨b,⟨_,vm X G a,Z⟩,λH=>.inr ⟨_,its,n,l,Z,Z,hz,r⟩⟩
end
section
variable {X:Cx}
end
theorem Q0{J:It}{xs:List V}{bs:List Bool}{te:TE}{Q:VK}{D:Addr}{H H0:Hp}(rest:St)(nw:Nw H H0 D (.lst []))(hl:xs.length=bs.length)(hz:xs.length<=1000) (go:∀i x H2,xs[i]? =some x->aD H H2->J.go i H2/\∀y H3,J.iq i H2 y H3->H3=H2/\y=x)(stop:∀H2,aD H H2->J.stop xs.length H2) (hs:∀(i:Nat)(x:V)(b:Bool)(H2:Hp)(Q':VK),xs[i]? =some x->bs[i]? =some b->aD H H2->(∀H3,aD H2 H3->Q' (.bl b) H3)->te (some x::rest) H2 Q') (hq:∀H',aD H H'->H' D=some (.lst (bs.map V.bl))->Q (.ref D) H'):kn J (gk 0) jo te Q D (none::rest) H0:=by
 have hD:=nw.no;refine uX xs.length (λi O H2=>aD H H2/\H2 D=some (.lst ((bs.take i).map V.bl))/\∃v,O=v::rest) ?_ ?_ ?_
 ·exact⟨nw.same,nw.at',none,Z⟩
 ·rintro i O H2 hi ⟨s2,d2,v,rfl⟩
  have Ap:i<bs.length:=by rw[<-hl];exact hi
  have ex:=bG hi;have eb:=bG Ap;obtain⟨g1,g2⟩:=go i _ H2 ex s2;refine⟨g1,λy H3 hy=>?_⟩;obtain⟨rfl,rfl⟩:=g2 y H3 hy;refine yY ?_;refine hs i _ _ _ _ ex eb s2 λH4 s4=>?_;refine⟨_,s4 _ _ d2,?_,xs.length-(i+1),aq,Z,aq,λb o e=>?_,?_,_,Z⟩
  ·rw[bB,ko]
   have:(1000:Nat)<sizeLine:=by decide
   lia
  ·rw[bL (cW e hD)];exact s4 b o (s2 b o e)
  ·rw[cF,tx,eb,ip];rfl
 ·rintro O H2 ⟨s2,d2,v,rfl⟩
  refine⟨stop H2 s2,hq H2 s2 ?_⟩;rw[d2,hl,BH]
theorem xV{K:a8}{a:Addr}{xs:List V}{bs:List Bool}{te:TE}{Q:VK}{D:Addr}{H H0:Hp}(rest:St)(hx:aV K H a xs)(nw:Nw H H0 D (.lst []))(hl:xs.length=bs.length)(hz:xs.length<=1000) (hs:∀(i:Nat)(x:V)(b:Bool)(H2:Hp)(Q':VK),xs[i]? =some x->bs[i]? =some b->aD H H2->(∀H3,aD H2 H3->Q' (.bl b) H3)->te (some x::rest) H2 Q') (hq:∀H',aD H H'->H' D=some (.lst (bs.map V.bl))->Q (.ref D) H'):kn (qz K a) (gk 0) jo te Q D (none::rest) H0:=Q0 rest nw hl hz (λi x H2 e s=>⟨⟨xs,x,hx.go s,e⟩,λy H3 ⟨e3,y3⟩=>⟨e3,by have:=y3 _ (hx.go s);rw[e]at this;exact(dU this).symm⟩⟩) (λH2 s=>⟨xs,hx.go s,bw _⟩) hs hq
theorem Nb{ds:List ah}{f:ah->Bool}{i:Nat}{b:Bool}(h:(ds.map f)[i]? =some b):∃d,ds[i]? =some d/\f d=b:=by rw[bU]at h;cases e:ds[i]? with |none=>rw[e]at h;cases h |some d=>rw[e]at h;exact⟨d,Z,dU h⟩
theorem all_map{ds:List ah}{f:ah->Bool}:(ds.map f).all id=ds.all f:=by rw[List.all_map];rfl
section
variable {X:Cx}
inductive a6X(K:a8)(x:V)(y:V)(H:Hp)(Q:VK):Prop |mk (a:_)(b:_)(xs:_)(ys:_)(h0:x= .ref a)(h1:y= .ref b)(h2:aK K H a xs)(h3:aK K H b ys)(h4:xs.length+ys.length<=sizeLine)(h5:∀p H',Nw H H' p (.lst (xs++ys))->Q (.ref p) H')
def Vh(K:a8):R2:=λx y H Q=>a6X K x y H Q
theorem lR(K:a8)(hK:X.K=K):cP X (binaryOp .Add) (Vh K):=by
 subst hK;intro ao s O H x y v u Q I rx ry h;obtain⟨a,b,xs,ys,rfl,rfl,ha,hb,hz,q⟩:=h;cases rx;cases ry;obtain⟨its,r1,p1,_⟩:=I.list ha;obtain⟨jU,r2,p2,_⟩:=I.list hb;obtain⟨⟨cls,dd,data,sl⟩,n,ho,hc,hdd,hd⟩:=id p1;obtain⟨⟨Q5,uU,data2,tY⟩,n2,jz,jC,a8d,hd2⟩:=id p2;simp only at hc hd jC hd2;subst hc hd jC hd2;have e:its.toArray++jU.toArray=(its++jU).toArray:=by simp
 refine concat_meets ⟨_,ho,Z⟩ ⟨_,jz,Z⟩ noFill_list_add seq_list_add PySem.F.slot_list_add PySem.F.entry_list_add (PySem.F.args_list_add_2 _ _) (list_addW a b its.toArray jU.toArray n n2 dd uU sl tY (by rw[dn,dn,<-r1.length,<-r2.length];exact hz)) ⟨ho,jz,?_⟩;rw[e];have nw:Nw H (upd H s.heap.objs.size (.lst (xs++ys))) s.heap.objs.size (.lst (xs++ys)):=.of (I.bj.fresh (bw _));refine⟨.ref s.heap.objs.size,_,I.laid (t':=s.toks) (o:=.lst (xs++ys)) (λb ob q=>cw _ q) (bw _) ?_,Z,q _ _ nw⟩;exact⟨by rw[cB];exact hz,_,0,r1.append r2,eu _ Z⟩
open Classical in
noncomputable def sx(h:Heap)(d:ah)(w:Value):Bool:=if q:∃e as,Reads h w e as then PyData.eqv q.choose d else false
theorem a3m{h:Heap}{d e:ah}{w:Value}{as:List Addr}(r:Reads h w e as):sx h d w=PyData.eqv e d:=by have q:∃e as,Reads h w e as:=⟨e,as,r⟩;unfold sx;rw[dif_pos q];obtain⟨as',r'⟩:=q.choose_spec;rw[(Reads.unique r' e as r).1]
theorem P8{ao:List (Addr×Obj)}{s:af}{O:St}{H:Hp}(I:Inv X ao O H s)(hu:X.A.units+65<cLine){x:V}{u:Value}{d:ah}(rx:RelV x u)(hd:RD X.K H x d)(sd:SeqAt.shaped d=true): ∀{xs:List V}{us:List Value}{ds:List ah},Vals xs us->aJ X.K H xs ds->(∀e∈ds,SeqAt.shaped e=true)->(∀w∈us,SeqAt.EqAt X.A.in1 s w u (sx s.heap d w))/\us.any (sx s.heap d)=ds.any λe=>PyData.eqv e d |xs,us,[],rv,h,_=>by cases h.nil_inv;cases rv;exact⟨λ_ h=>(fq h).elim,Z⟩ |xs,us,e::ds,rv,h,se=>by obtain⟨y,ys,rfl,h1,h2⟩:=h.cons_inv;cases rv with |cons ra rb=>
 rename_i w ws;obtain⟨as,q1⟩:=RD.reads I e ra h1;obtain⟨bs,q2⟩:=RD.reads I d rx hd;have key:SeqAt.EqAt X.A.in1 s w u (PyData.eqv e d):=SeqAt.eqAt_reads e d X.A.in1 s w u as bs q1 q2 (RC (se e (.head _))) (RC sd) (SeqAt.room_of_shaped (se e (.head _)) (by show X.A.units+1+64<cLine;omega));obtain⟨k1,k2⟩:=P8 I hu rx hd sd rb h2 (λe' he=>se e' (.tail _ he));have ew:sx s.heap d w=PyData.eqv e d:=a3m q1;refine⟨λz hz=>?_,?_⟩
 ·rcases cR.mp hz with rfl|hz
  ·rw[ew];exact key
  ·exact k1 z hz
 ·rw[BL,BL,ew,k2]
def QI(X:Cx)(r:V->Hp->VK->Prop):Prop:=∀(ao:List (Addr×Obj))(s:af)(O:St)(H:Hp)(x:V)(v vs:Value)(sl:Addr)(Q:VK),Inv X ao O H s->RelV x v->s.heap.IsSliceOf sl .none .none vs->IsPart vs (some (-1))->r x H Q->∃T id,typeLookup (.type T) "__getitem__"=pure (some (.builtin id))/\s.TypeIs v T/\wpAny (model X.prog X.w) X.A (getItem v (.ref sl)) (EP X ao O Q) X.xe s
def T7(r:V->Hp->VK->Prop)(te:TE)(ts:TO):TE:=λO H Q=>te O H λx H1=>ts O H1 λo H2=>o=some (-1)/\r x H2 Q
theorem VL{r:V->Hp->VK->Prop}{e:Expr}{te:TE}{st:Expr}{ts:TO}{p2 pos:Pos}(hr:QI X r)(he:PE X e te)(hs:PO X (some st) ts):PE X (.Subscript e (.Slice none none (some st) p2) pos) (T7 r te ts):=by intro ao s O H Q I h;refine Subscript_ (aY (he ao s O H _ I h) λv s1 ⟨x,H1,I1,r1,q1⟩=>?_);refine wpAny_Slice ?_;rw[evalPart_none];refine bH (bH ?_);refine aY (hs ao s1 O H1 _ I1 q1) λvs s3 ⟨o,H3,I3,ps,e3,q3⟩=>?_;subst e3;have I4:Inv X ao O H3 {s3 with heap:=s3.heap.push {cls:=.type "slice",data:=.fields #[.none,.none,vs]}}:=I3.kept (t':=s3.toks) λb ob q=>cw _ q;obtain⟨T,id,hT,ht,hg⟩:=hr ao {s3 with heap:=s3.heap.push {cls:=.type "slice",data:=.fields #[.none,.none,vs]}} O H3 x v vs s3.heap.objs.size Q I4 r1 (Heap.IsSliceOf.new ..) ps q3;show wpAny (model X.prog X.w) X.A (subscriptTail e (.Slice none none (some st) p2) v (.ref s3.heap.objs.size)) (EP X ao O Q) X.xe {s3 with heap:=s3.heap.push {cls:=.type "slice",data:=.fields #[.none,.none,vs]}};exact tail_any (ops:=[v,.ref s3.heap.objs.size]) ht hT hg (by with_unfolding_all rfl)
theorem UD(K:a8)(hK:X.K=K):QI X (λx H Q=>∃a xs,x= .ref a/\aK K H a xs/\∀p H',Nw H H' p (.lst xs.reverse)->Q (.ref p) H'):=by subst hK;intro ao s O H x v vs sl Q I rx hs ps h;obtain⟨a,xs,rfl,hx,q⟩:=h;cases rx;obtain⟨its,r,ht,hz⟩:=I.list hx;have hlen:=r.length;refine⟨"list",_,slot_list_getitem.lookup,ht.isList.typeIs,?_⟩;refine wpAny_getItem_list_slice ht.isList hs .none .none ps (by simp) ?_ (by rw[dn]<;>lia);rw[PySem.W.krv_pick];have nw:Nw H (upd H s.heap.objs.size (.lst xs.reverse)) s.heap.objs.size (.lst xs.reverse):=.of (I.bj.fresh (bw _));refine⟨.ref s.heap.objs.size,_,I.laid (t':=s.toks) (o:=.lst xs.reverse) (λb ob q=>cw _ q) (bw _) ?_,Z,q _ _ nw⟩;exact⟨by rw[IL];exact hz,_,0,r.reverse,eu _ Z⟩
end
end L2
namespace L2
theorem dm.Sr{k:Nat}{A:PySem.Around}(r:dm k A):A.units+65<PySem.cLine:=by have:=r.un;lia
end L2
namespace L2
open PySem PySem.Spec PyProof.Rows
def je(b:Bool)(h:Heap)(it l:Addr)(k:Nat):Prop:=match b with|true=>h.IsListIter it l k|false=>h.IsTupleIter it l k
def gm(b:Bool)(h:Heap)(l:Addr)(xs:Array Value):Prop:=match b with|true=>h.IsList l xs|false=>h.IsTuple l xs
def qo(b:Bool):String:=match b with|true=>"list_iterator"|false=>"tuple_iterator"
theorem je.to{b:Bool}{h g:Heap}{it l:Addr}{k:Nat}(x:je b h it l k)(e:∀o,h.get? it=some o->g.get? it=some o):je b g it l k:=by cases b<;>(obtain⟨o,ho,r⟩:=x;exact⟨o,e o ho,r⟩)
theorem gm.to{b:Bool}{h g:Heap}{l:Addr}{xs:Array Value}(x:gm b h l xs)(e:∀o,h.get? l=some o->g.get? l=some o):gm b g l xs:=by cases b<;>(obtain⟨o,ho,r⟩:=x;exact⟨o,e o ho,r⟩)
theorem je.ob{b:Bool}{h:Heap}{it l:Addr}{k:Nat}(x:je b h it l k):∃o,h.get? it=some o/\o.cls= .type (qo b)/\∀v,o.data≠ .cell v:=by cases b<;>(obtain⟨o,ho,c,d⟩:=x;exact⟨o,ho,c,λv z=>by rw[d]at z;cases z⟩)
section
variable {prog:ag}{w:World}{A:ai}{E:Value->af->Prop}{s:af}
theorem uq{b:Bool}{l:Addr}{xs:Array Value}{Q:Value->af->Prop}(x:gm b s.heap l xs) (q:Q (.ref s.heap.objs.size) {s with heap:=s.heap.push {cls:=.type (qo b),data:=.fields #[.ref l,.int 0 0]}}):wpAny (model prog w) A (pyIter (.ref l)) Q E s:=by
 cases b
 ·exact wpAny_pyIter_tuple x q
 ·exact Bs x q
theorem XI{it t:Addr}{k:Nat}{ts:Array Value}{x:Value}{Q:Value->af->Prop}(hi:s.heap.IsTupleIter it t k)(ht:s.heap.IsTuple t ts)(hx:ts[k]? =some x) (q:∀g,g.IsTupleIter it t (k+1)->Heap.SameBut it s.heap g->Q x {s with heap:=g}):wpAny (model prog w) A (Builtin.SmallTypes.nextOf (.ref it)) Q E s:=by obtain⟨oi,jX,ci,di⟩:=id hi;obtain⟨ot,G1,_,nt,dt⟩:=ht;unfold Builtin.SmallTypes.nextOf;refine aF (yy (name:=Str.ofString "__next__") hi.typeIs Iu (yx Iu hi.typeIs a7k ?_ (a7l _)));show wpAny _ _ (field (.ref it) 0>>=_) _ _ s;refine aF (ik jX di (x:=.ref t) Z ?_);show wpAny _ _ (if(Value.ref t==Value.none)=true then _ else _) _ _ s;rw[bf (show¬((Value.ref t==Value.none)=true)from gM)];show wpAny _ _ (field (.ref it) 1>>=_) _ _ s;refine aF (ik jX di (x:=.int k 0) Z ?_);show wpAny _ _ (seqItems? (.ref t)>>=_) _ _ s;refine aF (tf G1 dt ?_);simp only[RX,hx];refine aF (Br jX di (by simp) (bH ⟨x,Z,bH (q _ ?_ (Heap.SameBut.update ..))⟩));exact⟨_,BO _ jX (RP (BD di _)),(Obj.cls_mapFields ..).trans ci,by rw[BD di];simp[rawInt]⟩
theorem a3p{it t:Addr}{k:Nat}{ts:Array Value}{Q:Value->af->Prop}(hh:A.handled=none)(hi:s.heap.IsTupleIter it t k)(ht:s.heap.IsTuple t ts)(hx:ts[k]? =none) (q:∀g e,Heap.ExtBut it s.heap g->(∃o,g.get? e=some o/\o.cls= .type "StopIteration")->E (.ref e) {s with heap:=g}):wpAny (model prog w) A (Builtin.SmallTypes.nextOf (.ref it)) Q E s:=by
 obtain⟨oi,jX,ci,di⟩:=id hi;obtain⟨ot,G1,_,nt,dt⟩:=ht;unfold Builtin.SmallTypes.nextOf;refine aF (yy (name:=Str.ofString "__next__") hi.typeIs Iu (yx Iu hi.typeIs a7k ?_ (a7l _)));show wpAny _ _ (field (.ref it) 0>>=_) _ _ s;refine aF (ik jX di (x:=.ref t) Z ?_);show wpAny _ _ (if(Value.ref t==Value.none)=true then _ else _) _ _ s;rw[bf (show¬((Value.ref t==Value.none)=true)from gM)];show wpAny _ _ (field (.ref it) 1>>=_) _ _ s;refine aF (ik jX di (x:=.int k 0) Z ?_);show wpAny _ _ (seqItems? (.ref t)>>=_) _ _ s;refine aF (tf G1 dt ?_);simp only[RX,hx];refine aF (yu (aF (Br jX di (by simp) ?_)));show wpAny _ _ (newExc (.type "StopIteration") []>>=_) _ _ _;refine aF ?_;simp only[newExc,newTuple];refine aF (nj ?_ (by size_fits));refine aF (m:=firstArgMember _ _) (vh (a:=Value.none) (by first|rfl|(simp only[firstArgMember];rfl)) ?_);refine nj ?_ (by size_fits);simp only[raiseNew];refine aF (wpAny_handled ?_)
 first|rw[show A.in1.handled=none from hh]|rw[hh]
 exact aF (bH (wpAny_throw (q _ _ (((Heap.SameBut.update ..).extBut.push _).push _) ⟨_,eu _ Z,Z⟩)))
theorem zM{b:Bool}{it l:Addr}{k:Nat}{xs:Array Value}{x:Value}{Q:Value->af->Prop}(hi:je b s.heap it l k)(hl:gm b s.heap l xs)(hx:xs[k]? =some x) (q:∀g,je b g it l (k+1)->Heap.SameBut it s.heap g->Q x {s with heap:=g}):wpAny (model prog w) A (Builtin.SmallTypes.nextOf (.ref it)) Q E s:=by
 cases b
 ·exact XI hi hl hx q
 ·exact wpAny_nextOf_list_item hi hl hx q
theorem GQ{b:Bool}{it l:Addr}{k:Nat}{xs:Array Value}{Q:Value->af->Prop}(hh:A.handled=none)(hi:je b s.heap it l k)(hl:gm b s.heap l xs)(hx:xs[k]? =none) (q:∀g e,Heap.ExtBut it s.heap g->(∃o,g.get? e=some o/\o.cls= .type "StopIteration")->E (.ref e) {s with heap:=g}):wpAny (model prog w) A (Builtin.SmallTypes.nextOf (.ref it)) Q E s:=by
 cases b
 ·exact a3p hh hi hl hx q
 ·exact wpAny_nextOf_list_end hh hi hl hx q
structure Zp(b1 b2:Bool)(h:Heap)(z TI TO i1 i2 l1 l2:Addr)(f0:Value)(k:Nat):Prop where
 zz:IsZip h z TI TO f0
 ti:IsPair h TI (.ref i1) (.ref i2)
 to:∃a b,IsPair h TO a b
 n1:je b1 h i1 l1 k
 n2:je b2 h i2 l2 k
theorem Mz{z TI TO:Addr}{Q:Bool->af->Prop}(hz:IsZip s.heap z TI TO .none)(q:Q true s):wpAny (model prog w) A (Builtin.SmallTypes.ownedTupleIsFree (.ref z)) Q E s:=by unfold Builtin.SmallTypes.ownedTupleIsFree;exact aF (ik hz Z (x:=.none) Z (bH q))
theorem S9{b1 b2:Bool}{z TI TO i1 i2 l1 l2:Addr}{k:Nat}{xs ys:Array Value}{x y:Value}{Q:Value->af->Prop}(D:ZipApart z TI TO i1 i2 l1 l2)(a8A:Zp b1 b2 s.heap z TI TO i1 i2 l1 l2 .none k) (pQ:gm b1 s.heap l1 xs)(pP:gm b2 s.heap l2 ys)(hx:xs[k]? =some x)(hy:ys[k]? =some y) (q:∀g,Zp b1 b2 g z TI TO i1 i2 l1 l2 (rawInt s.heap.objs.size) (k+1)->IsPair g s.heap.objs.size x y->(∀c o,c≠z->c≠TO->c≠i1->c≠i2->s.heap.get? c=some o->g.get? c=some o)->Q (.ref s.heap.objs.size) {s with heap:=g}): wpAny (model prog w) A (Builtin.«zip.__next__» ⟨[.ref z],[]⟩) (λr s'=>∃v,r= .done (.ret v)/\Q v s') E s:=by
 obtain⟨hz,kO,⟨a,b,lI⟩,h1,h2⟩:=a8A;show wpAny _ _ (field (.ref z) 2>>=_) _ _ _;refine aF (ik hz Z (x:=.bool false) Z ?_);show wpAny _ _ (field (.ref z) 3>>=_) _ _ _;refine aF (ik hz Z (x:=.ref TI) Z (aF (tf kO Z ?_)));show wpAny _ _ (Builtin.SmallTypes.ownedTupleIsFree (.ref z)>>=_) _ _ _;refine aF (Mz hz ?_);simp only[qE];refine aF (yu (aF (ik hz Z (x:=.ref TO) Z (aF (yt hz (by simp) λg1 z1 e1=>?_)))));replace z1:IsZip g1 z TI TO .ellipsis:=z1;refine aF ?_;simp only[List.zipIdx_cons,List.zipIdx_nil,IP,List.forIn_nil];refine aF (aF (Bt ?_));show wpAny _ _ (Builtin.SmallTypes.nextOf (.ref i1)>>=_) _ _ _;refine aF (zM (h1.to λo e=>e1.extBut _ _ D.i1z e) (pQ.to λo e=>e1.extBut _ _ D.l1z e) hx λg2 n1 e2=>bH ?_);have t2:IsPair g2 TO a b:=e2.extBut _ _ D.TOi1 (e1.extBut _ _ D.TOz lI);refine aF (tf t2 Z (aF (Rn t2 λg3 t3 e3=>?_)));replace t3:IsPair g3 TO x b:=t3;refine aF (wpAny_letGo (bH ?_));refine aF (aF (Bt ?_));show wpAny _ _ (Builtin.SmallTypes.nextOf (.ref i2)>>=_) _ _ _;refine aF (zM (h2.to λo e=>e3.extBut _ _ D.TOi2.symm (e2.extBut _ _ D.i12.symm (e1.extBut _ _ D.i2z e))) (pP.to λo e=>e3.extBut _ _ D.l2TO (e2.extBut _ _ D.l2i1 (e1.extBut _ _ D.l2z e))) hy λg4 n2 e4=>bH ?_);have t4:IsPair g4 TO x b:=e4.extBut _ _ D.TOi2 t3;refine aF (tf t4 Z (aF (Rn t4 λg5 t5 e5=>?_)));replace t5:IsPair g5 TO x y:=t5;refine aF (wpAny_letGo (bH (bH ?_)));refine aF (tf t5 Z (aF (wpAny_newTuple ?_)));have sz:g5.objs.size=s.heap.objs.size:=by rw[e5.1,e4.1,e3.1,e2.1,e1.1]
 have z5:IsZip g5 z TI TO .ellipsis:=e5.extBut _ _ D.TOz.symm (e4.extBut _ _ D.i2z.symm (e3.extBut _ _ D.TOz.symm (e2.extBut _ _ D.i1z.symm z1)));have kp:∀c o,c≠z->c≠TO->c≠i1->c≠i2->s.heap.get? c=some o->g5.get? c=some o:=λc o c1 c2 c3 c4 e=>e5.extBut _ _ c2 (e4.extBut _ _ c4 (e3.extBut _ _ c2 (e2.extBut _ _ c3 (e1.extBut _ _ c1 e))));have m1:je b1 g5 i1 l1 (k+1):=n1.to λo e=>e5.extBut _ _ D.TOi1.symm (e4.extBut _ _ D.i12 (e3.extBut _ _ D.TOi1.symm e));have m2:je b2 g5 i2 l2 (k+1):=n2.to λo e=>e5.extBut _ _ D.TOi2.symm e;have BQ:z<g5.objs.size:=cn z5;show wpAny _ _ (Builtin.SmallTypes.ownedTupleHandOut (.ref z) (.ref g5.objs.size)>>=_) _ _ _;refine aF ?_;unfold Builtin.SmallTypes.ownedTupleHandOut;have z6:IsZip (g5.push {cls:=.type "tuple",data:=.seq #[x,y]}) z TI TO .ellipsis:=cw _ z5;refine aF (yt z6 (by simp) λg7 z7 e7=>?_);replace z7:IsZip g7 z TI TO (rawInt g5.objs.size):=z7;refine yt z7 (by simp) λg8 z8 e8=>?_;replace z8:IsZip g8 z TI TO (rawInt g5.objs.size):=z8;have up:∀c o,c≠z->g5.get? c=some o->g8.get? c=some o:=λc o c1 e=>e8.extBut _ _ c1 (e7.extBut _ _ c1 (cw _ e));have t8:IsPair g8 g5.objs.size x y:=e8.extBut _ _ (yH BQ) (e7.extBut _ _ (yH BQ) (eu _ Z));rw[sz]at z8 t8;refine bH ⟨_,Z,?_⟩;show Q (.ref g5.objs.size) _;rw[sz];exact q g8 ⟨z8,up _ _ D.TIz (kp _ _ D.TIz D.TITO D.TIi1 D.TIi2 kO),⟨_,_,up _ _ D.TOz t5⟩,m1.to λo e=>up _ o D.i1z e,m2.to λo e=>up _ o D.i2z e⟩ t8 λc o c1 c2 c3 c4 e=>up c o c1 (kp c o c1 c2 c3 c4 e)
theorem Sa{b1 b2:Bool}{z TI TO i1 i2 l1 l2:Addr}{k:Nat}{xs ys:Array Value}{Q:Fin->af->Prop}(hh:A.handled=none)(D:ZipApart z TI TO i1 i2 l1 l2)(a8A:Zp b1 b2 s.heap z TI TO i1 i2 l1 l2 .none k) (pQ:gm b1 s.heap l1 xs)(pP:gm b2 s.heap l2 ys)(xm:xs[k]? =none\/ys[k]? =none) (q:∀g e,(∀c o,c≠z->c≠TO->c≠i1->c≠i2->s.heap.get? c=some o->g.get? c=some o)->(∃o,g.get? e=some o/\o.cls= .type "StopIteration")->E (.ref e) {s with heap:=g}): wpAny (model prog w) A (Builtin.«zip.__next__» ⟨[.ref z],[]⟩) Q E s:=by obtain⟨hz,kO,⟨a,b,lI⟩,h1,h2⟩:=a8A;show wpAny _ _ (field (.ref z) 2>>=_) _ _ _;refine aF (ik hz Z (x:=.bool false) Z ?_);show wpAny _ _ (field (.ref z) 3>>=_) _ _ _;refine aF (ik hz Z (x:=.ref TI) Z (aF (tf kO Z ?_)));show wpAny _ _ (Builtin.SmallTypes.ownedTupleIsFree (.ref z)>>=_) _ _ _;refine aF (Mz hz ?_);simp only[qE];refine aF (yu (aF (ik hz Z (x:=.ref TO) Z (aF (yt hz (by simp) λg1 z1 e1=>?_)))));replace z1:IsZip g1 z TI TO .ellipsis:=z1;refine aF ?_;simp only[List.zipIdx_cons,List.zipIdx_nil,IP,List.forIn_nil];refine aF (aF (Bt ?_));show wpAny _ _ (Builtin.SmallTypes.nextOf (.ref i1)>>=_) _ _ _;have j1:=h1.to λo e=>e1.extBut _ _ D.i1z e;have k1:=pQ.to λo e=>e1.extBut _ _ D.l1z e;cases hx:xs[k]? with
 |none=>
  refine aF (GQ hh j1 k1 hx λg2 er e2 ⟨oe,rR,xu⟩=>?_);have z2:IsZip g2 z TI TO .ellipsis:=e2 _ _ D.i1z.symm z1;have nz:er≠z:=λv=>by subst v;rw[z2]at rR;cases rR;simp at xu
  refine yt z2 (by simp) λg3 _ e3=>q g3 er (λc o c1 _ c3 _ v=>e3.extBut _ _ c1 (e2 _ _ c3 (e1.extBut _ _ c1 v))) ⟨oe,e3.extBut _ _ nz rR,xu⟩ |some x=>
  have hy:ys[k]? =none:=by rcases xm with h|h;rw[hx]at h;cases h;exact h
  refine aF (zM j1 k1 hx λg2 n1 e2=>bH ?_);have t2:IsPair g2 TO a b:=e2.extBut _ _ D.TOi1 (e1.extBut _ _ D.TOz lI);refine aF (tf t2 Z (aF (Rn t2 λg3 t3 e3=>?_)));refine aF (wpAny_letGo (bH ?_));refine aF (aF (Bt ?_));show wpAny _ _ (Builtin.SmallTypes.nextOf (.ref i2)>>=_) _ _ _;refine aF (GQ hh (h2.to λo e=>e3.extBut _ _ D.TOi2.symm (e2.extBut _ _ D.i12.symm (e1.extBut _ _ D.i2z e))) (pP.to λo e=>e3.extBut _ _ D.l2TO (e2.extBut _ _ D.l2i1 (e1.extBut _ _ D.l2z e))) hy λg4 er e4 ⟨oe,rR,xu⟩=>?_);have z4:IsZip g4 z TI TO .ellipsis:=e4 _ _ D.i2z.symm (e3.extBut _ _ D.TOz.symm (e2.extBut _ _ D.i1z.symm z1));have nz:er≠z:=λv=>by subst v;rw[z4]at rR;cases rR;simp at xu
  refine yt z4 (by simp) λg5 _ e5=>q g5 er (λc o c1 c2 c3 c4 v=>e5.extBut _ _ c1 (e4 _ _ c4 (e3.extBut _ _ c2 (e2.extBut _ _ c3 (e1.extBut _ _ c1 v))))) ⟨oe,e5.extBut _ _ nz rR,xu⟩
abbrev yX(b1:Bool)(h:Heap)(l1:Addr):Heap:=h.push {cls:=.type (qo b1),data:=.fields #[.ref l1,.int 0 0]}
abbrev yW(b1 b2:Bool)(h:Heap)(l1 l2:Addr):Heap:=(yX b1 h l1).push {cls:=.type (qo b2),data:=.fields #[.ref l2,.int 0 0]}
abbrev yV(b1 b2:Bool)(h:Heap)(l1 l2:Addr):Heap:=(yW b1 b2 h l1 l2).push {cls:=.type "tuple",data:=.seq #[.ref h.objs.size,.ref (yX b1 h l1).objs.size]}
abbrev yU(b1 b2:Bool)(h:Heap)(l1 l2:Addr):Heap:=(yV b1 b2 h l1 l2).push {cls:=.type "tuple",data:=.seq #[.none,.none]}
abbrev tK(b1 b2:Bool)(h:Heap)(l1 l2:Addr):Heap:=(yU b1 b2 h l1 l2).push {cls:=.type "zip",data:=.fields #[.none,.bool false,.bool false,.ref (yW b1 b2 h l1 l2).objs.size,.ref (yV b1 b2 h l1 l2).objs.size]}
theorem S8(b1 b2:Bool)(l1 l2:Addr)(xs ys:Array Value):Meets (Builtin.«zip.__new__» ⟨[.type "zip",.ref l1,.ref l2],[]⟩) (λ_ R s=>gm b1 s.heap l1 xs/\gm b2 s.heap l2 ys/\R (.ok (.ret (.ref (yU b1 b2 s.heap l1 l2).objs.size))) {s with heap:=tK b1 b2 s.heap l1 l2}):=.of_wp λprog w A R s h=>by
 obtain⟨hp,gg,d,tk,os⟩:=s;obtain⟨pQ,pP,h⟩:=h;have FW:=sub_zip;have hL1:gm b1 (Shared.heap ⟨hp,gg,d,tk,os⟩) l1 xs:=pQ;have sj:gm b2 (Shared.heap ⟨hp.push {cls:=.type (qo b1),data:=.fields #[.ref l1,.int 0 0]},gg,d,tk,os⟩) l2 ys:=pP.to λo e=>cw _ e
 wp_walk using uq hL1,uq sj;exact⟨_,Z,h⟩
theorem Sb{b1 b2:Bool}{l1 l2:Addr}{xs ys:Array Value}{Q:Value->af->Prop}(pQ:gm b1 s.heap l1 xs)(pP:gm b2 s.heap l2 ys) (q:∀g,Zp b1 b2 g (s.heap.objs.size+4) (s.heap.objs.size+2) (s.heap.objs.size+3) s.heap.objs.size (s.heap.objs.size+1) l1 l2 .none 0->(∀c o,s.heap.get? c=some o->g.get? c=some o)->Q (.ref (s.heap.objs.size+4)) {s with heap:=g}): wpAny (model prog w) A (call (.type "zip") [.ref l1,.ref l2]) Q E s:=by
 refine callType_new PySem.F.called_zip au (PySem.F.typeCall_zip_2 _ _) (PySem.F.newCall_zip_2 _ _) (λobj=>PySem.F.args_object_init_3 obj _ _) PySem.F.entry_zip_new (S8 b1 b2 l1 l2 xs ys) ⟨pQ,pP,?_⟩;have z1:(yX b1 s.heap l1).objs.size=s.heap.objs.size+1:=qK ..;have z2:(yW b1 b2 s.heap l1 l2).objs.size=s.heap.objs.size+2:=by rw[qK,z1]
 have z3:(yV b1 b2 s.heap l1 l2).objs.size=s.heap.objs.size+3:=by rw[qK,z2]
 have z4:(yU b1 b2 s.heap l1 l2).objs.size=s.heap.objs.size+4:=by rw[qK,z3]
 have g5:(tK b1 b2 s.heap l1 l2).get? (yU b1 b2 s.heap l1 l2).objs.size=some _:=eu _ rfl;have g4:(tK b1 b2 s.heap l1 l2).get? (yV b1 b2 s.heap l1 l2).objs.size=some _:=cw _ (eu _ Z);have g3:(tK b1 b2 s.heap l1 l2).get? (yW b1 b2 s.heap l1 l2).objs.size=some _:=cw _ (cw _ (eu _ Z));have g2:(tK b1 b2 s.heap l1 l2).get? (yX b1 s.heap l1).objs.size=some _:=cw _ (cw _ (cw _ (eu _ Z)));have g1:(tK b1 b2 s.heap l1 l2).get? s.heap.objs.size=some _:=cw _ (cw _ (cw _ (cw _ (eu _ Z))));show _/\_;rw[z2,z3,z4]at g5;rw[z1,z2]at g3;rw[z3]at g4;rw[z1]at g2;rw[z4];refine⟨⟨_,g5,Z⟩,q _ ⟨g5,g3,⟨_,_,g4⟩,?_,?_⟩ λc o e=>cw _ (cw _ (cw _ (cw _ (cw _ e))))⟩
 ·cases b1<;>exact⟨_,g1,rfl,rfl⟩
 ·cases b2<;>exact⟨_,g2,rfl,rfl⟩
end
section
variable {X:Cx}{ao:List (Addr×Obj)}{O:St}{H:Hp}{s:af}{h':Heap}
theorem Inv.vC{t':Nat}{fp:List Addr}(I:Inv X ao O H s)(k:∀b o,b∉fp->s.heap.get? b=some o->h'.get? b=some o)(hf:∀b∈fp,iM X ao H b):Inv X ao O H {s with heap:=h',toks:=t'}:=by
 have wF:∀b u,H b=some u->b∉fp:=λb u e z=>by rw[(hf b z).1]at e;cases e
 have hL:X.env.locals∉fp:=λz=>(hf _ z).2.1 rfl;refine I.step (g':=s.gens) (d':=s.drawn) (ch:=fp) (λb hb=>?_) (λb o _ _ hc e _=>k b o hc e) (λb o _ _ hc e _=>⟨o.slots,k b o hc e⟩) (λ_ _ _ _ n=>n) (λb o hc e=>⟨o,k b o hc e⟩) (λ_ _ e=>e) (λ_ _ _ e=>e) (λb ps e=>⟨#[],by rw[e];simp⟩) (λm hm=>?_) (λb u e=>?_) I.bare
 ·obtain⟨f0,f1,f2,f3,f4,f5⟩:=hf b hb
  exact⟨f3,f1,f4,f5⟩
 ·obtain⟨o,es,ep,ho,r⟩:=hm
  exact⟨o,es,ep,k _ o hL ho,r⟩
 ·refine(I.bj b u e).kx (λc v hc q=>k c v ?_ q) (λ_ q=>q) λ_ _ q=>q
  rcases hc with z|z
  ·rw[z];exact wF b u e
  ·exact wF c _ z
end
def eg(b:Bool)(K:a8)(H:Hp)(a:Addr)(xs:List V):Prop:=match b with|true=>aK K H a xs|false=>aV K H a xs
theorem eg.get{X:Cx}{ao:List (Addr×Obj)}{O:St}{H:Hp}{s:af}{b:Bool}{a:Addr}{xs:List V}(I:Inv X ao O H s)(h:eg b X.K H a xs):∃its:List Value,Vals xs its/\gm b s.heap a its.toArray:=by
 cases b
 ·obtain⟨its,r,p,_⟩:=I.tuple h;exact⟨its,r,p⟩
 ·obtain⟨its,r,p,_⟩:=I.list h;exact⟨its,r,p.isList⟩
theorem eg.inj{X:Cx}{ao:List (Addr×Obj)}{O:St}{H:Hp}{s:af}{b:Bool}{a:Addr}{xs ys:List V}(I:Inv X ao O H s)(h:eg b X.K H a xs)(g:eg b X.K H a ys):xs=ys:=by
 cases b
 ·exact I.Jd h g
 ·exact I.Nu h g
def sY(K:a8)(b1 b2:Bool)(l1 l2:Addr):It:=⟨λi H=>∃xs ys x y,eg b1 K H l1 xs/\eg b2 K H l2 ys/\xs[i]? =some x/\ys[i]? =some y,λi H v H'=>∃T x y,v= .ref T/\(∀xs,eg b1 K H l1 xs->xs[i]? =some x)/\(∀ys,eg b2 K H l2 ys->ys[i]? =some y)/\Nw H H' T (.tup [x,y]),λi H=>∃xs ys,eg b1 K H l1 xs/\eg b2 K H l2 ys/\(xs.length<=i\/ys.length<=i)⟩
theorem Sy{P:ag}{w:World}{K:a8}{elts:List Expr}{kt:Nat}{pos:Pos}{b1 b2:Bool}{z TI TO i1 i2 l1 l2:Addr}(D:ZipApart z TI TO i1 i2 l1 l2): Turn P w K (.Tuple elts kt pos) (sY K b1 b2 l1 l2) [z,TI,TO,i1,i2] z (λi h=>Zp b1 b2 h z TI TO i1 i2 l1 l2 .none i) where
 mem:=by simp
 obj:=λi h st b hb=>by
  obtain⟨hz,kO,⟨a,c,lI⟩,h1,h2⟩:=st;simp only[cR,fq,iO]at hb;rcases hb with rfl|rfl|rfl|rfl|rfl
  ·exact⟨_,hz,λv e=>by cases e⟩
  ·exact⟨_,kO,λv e=>by cases e⟩
  ·exact⟨_,lI,λv e=>by cases e⟩
  ·obtain⟨o,e,_,n⟩:=h1.ob;exact⟨o,e,n⟩
  ·obtain⟨o,e,_,n⟩:=h2.ob;exact⟨o,e,n⟩
 keep:=λi h h' st k=>by obtain⟨hz,kO,⟨a,c,lI⟩,h1,h2⟩:=st;exact⟨k z (by simp) _ hz,k TI (by simp) _ kO,⟨a,c,k TO (by simp) _ lI⟩,h1.to λo e=>k i1 (by simp) o e,h2.to λo e=>k i2 (by simp) o e⟩
 item:=by
  intro X hP hw hK hc i ao s O H E I hf st hg;subst hP hw hK;obtain⟨xs,ys,x,y,q1,q2,e1,e2⟩:=hg;obtain⟨FL,r1,p1⟩:=q1.get I;obtain⟨jU,r2,p2⟩:=q2.get I;obtain⟨u1,FU,iW⟩:=r1.get e1;obtain⟨u2,Zq,nI⟩:=r2.get e2;have hT:s.TypeIs (.ref z) "zip":=⟨_,st.zz,Z⟩;unfold pyNext;refine aF (Bv (yy (name:=Str.ofString "__next__") hT Ir (yx Ir hT PySem.F.entry_zip_next (S9 D st p1 p2 (x:=u1) (y:=u2) (by simpa using FU) (by simpa using Zq) λg zg tg kp=>bH ?_) (PySem.F.args_zip_next_1 _))));refine⟨_,Z,?_⟩;refine wpAny_letOwnedTupleGo_zip zg.zz λg' S7 sb=>?_;have hs:=sb.extBut;have BQ:z<s.heap.objs.size:=cn st.zz;have nw:Nw H (upd H s.heap.objs.size (.tup [x,y])) s.heap.objs.size (.tup [x,y]):=.of (I.bj.fresh (bw _));have I1:Inv X ao O (upd H s.heap.objs.size (.tup [x,y])) {s with heap:=s.heap.push {cls:=.type "tuple",data:=.seq #[u1,u2]}}:=I.laid (t':=s.toks) (λb ob q=>cw _ q) (bw _) ⟨by show 2<=sizeLine;decide,[u1,u2],.cons iW (.cons nI .nil),⟨_,eu _ Z,Z,_,Z⟩⟩;have Fu:∀b∈[z,TI,TO,i1,i2],b<s.heap.objs.size:=λb hb=>by
   simp only[cR,fq,iO]at hb;obtain⟨hz,kO,⟨a,c,lI⟩,h1,h2⟩:=st;rcases hb with rfl|rfl|rfl|rfl|rfl
   ·exact cn hz
   ·exact cn kO
   ·exact cn lI
   ·obtain⟨o,e,_⟩:=h1.ob;exact cn e
   ·obtain⟨o,e,_⟩:=h2.ob;exact cn e
  have hn:∀b∈[z,TI,TO,i1,i2],upd H s.heap.objs.size (.tup [x,y]) b=none:=λb hb=>by rw[bL (dW (Fu b hb))];exact(hf b hb).1
  have I2:Inv X ao O (upd H s.heap.objs.size (.tup [x,y])) {s with heap:=g'}:=Inv.vC (s:={s with heap:=s.heap.push {cls:=.type "tuple",data:=.seq #[u1,u2]}}) (t':=s.toks) (fp:=[z,TI,TO,i1,i2]) I1 (λb o hb e=>by
   have e:(s.heap.push {cls:=.type "tuple",data:=.seq #[u1,u2]}).get? b=some o:=e;have nz:b≠z:=λq=>hb (by simp[q]);rcases S3 e with⟨Gf,rfl⟩|e'
   ·subst Gf
    exact hs _ _ nz tg
   ·exact hs _ _ nz (kp b o nz (λq=>hb (by simp[q])) (λq=>hb (by simp[q])) (λq=>hb (by simp[q])) e')) (λb hb=>by obtain⟨f0,f1,f2,f3,f4,f5⟩:=hf b hb;exact⟨hn b hb,f1,f2,f3,f4,f5⟩);refine⟨.ref s.heap.objs.size,_,I2,Z,⟨s.heap.objs.size,x,y,Z,λzs hz=>?_,λzs hz=>?_,nw⟩,?_,hn⟩
  ·rw[eg.inj I hz q1];exact e1
  ·rw[eg.inj I hz q2];exact e2
  ·obtain⟨_,kO,⟨a,c,lI⟩,h1,h2⟩:=zg
   exact⟨S7,hs _ _ D.TIz kO,⟨a,c,hs _ _ D.TOz lI⟩,h1.to λo e=>hs _ o D.i1z e,h2.to λo e=>hs _ o D.i2z e⟩
 done:=by intro X hP hw hK hc i ao s O H E I hf st hg;subst hP hw hK;obtain⟨xs,ys,q1,q2,xm⟩:=hg;obtain⟨FL,r1,p1⟩:=q1.get I;obtain⟨jU,r2,p2⟩:=q2.get I;have hT:s.TypeIs (.ref z) "zip":=⟨_,st.zz,Z⟩;have l1:=r1.length;have l2:=r2.length;unfold pyNext;refine aF (Bv (yy (name:=Str.ofString "__next__") hT Ir (yx Ir hT PySem.F.entry_zip_next (Sa (I.ok.hd hc) D st p1 p2 (xm.imp (λh=>by simp;lia) λh=>by simp;lia) λg e kp he=>?_) (PySem.F.args_zip_next_1 _))));obtain⟨o,ho,rZ⟩:=he;refine aF (wpAny_isInstance (T:="StopIteration") (b:=true) ⟨o,ho,rZ⟩ isSubtype_stop (bH ⟨Z,?_⟩));exact I.vC (t':=s.toks) (fp:=[z,TI,TO,i1,i2]) (λb o hb e=>kp b o (λq=>hb (by simp[q])) (λq=>hb (by simp[q])) (λq=>hb (by simp[q])) (λq=>hb (by simp[q])) e) hf
 self:=λ_ _ _ _ _ st h=>wpAny_pyIter_zip st.zz h
inductive a71(K:a8)(b1:Bool)(b2:Bool)(R:It->Hp->Prop)(vs:List V)(H1:Hp):Prop |mk (l1:_)(l2:_)(h0:vs=[.ref l1,.ref l2])(h1:(∃xs,eg b1 K H1 l1 xs))(h2:(∃ys,eg b2 K H1 l2 ys))(h3:R (sY K b1 b2 l1 l2) H1)
def Ze(K:a8)(b1 b2:Bool)(ta:TA):TI:=λO H R=>ta O H λvs H1=>a71 K b1 b2 R vs H1
theorem nP(K:a8){X:Cx}(hK:X.K=K)(b1 b2:Bool){elts:List Expr}{kt:Nat}{tP:Pos}{a b:Expr}{ta:TA}{p pos:Pos}(hg:Gl X "zip")(hm:X.mg "zip"=none)(ha:PA X [a,b] ta)(hs:starEach [a,b] X.env=[(false,eval a X.env),(false,eval b X.env)]:=by rfl)(j4:starEach [b] X.env=[(false,eval b X.env)]:=by rfl): PI X (.Tuple elts kt tP) (.Call (.Name "zip" p) [a,b] [] pos) (Ze K b1 b2 ta):=by
 subst hK;intro ao s O H R I h;refine Call_ (pI I hg hm PyProof.Rows.boot_zip (yC (aY (ha pos ao s O H _ I h) λus s1 ⟨vs,H1,I1,r1,q1⟩=>?_) (by rw[hs,j4]) (by rw[j4];rfl)));obtain⟨l1,l2,e,⟨xs,h1⟩,⟨ys,h2⟩,q⟩:=q1;subst e;obtain⟨u1,u2,rfl,iW,nI⟩:=vals2 r1;cases(show u1=Value.ref l1 from iW);cases(show u2=Value.ref l2 from nI);obtain⟨FL,v1,p1⟩:=h1.get I1;obtain⟨jU,v2,p2⟩:=h2.get I1;have a1:l1<s1.heap.objs.size:=by cases b1<;>(obtain⟨o,e,_⟩:=p1;exact cn e)
 have a2:l2<s1.heap.objs.size:=by cases b2<;>(obtain⟨o,e,_⟩:=p2;exact cn e)
 refine Sb p1 p2 λg zg kp=>wpAny_pyIter_zip zg.zz ?_;refine⟨_,_,_,_,H1,Z,I1.kept (t':=s1.toks) kp,Sy (zipApart_new a1 a2),zg,λc hc=>?_,q⟩;have hle:s1.heap.objs.size<=c:=by simp only[cR,fq,iO]at hc;rcases hc with rfl|rfl|rfl|rfl|rfl<;>first|exact bw _|exact Nat.le_add_right _ _
 exact I1.pY hle (I1.bj.fresh hle)
theorem eg.go{b:Bool}{K:a8}{H H':Hp}{a:Addr}{xs:List V}(s:aD H H')(h:eg b K H a xs):eg b K H' a xs:=by
 cases b
 ·exact aV.go s h
 ·exact aK.go s h
theorem fe.there{P:ag}{w:World}{H:Hp}{h:Heap}{a:Addr}{o:HO}(x:fe P w H h a o):∃ob,h.get? a=some ob:=by induction o with |lst xs=>obtain⟨_,_,_,_,e⟩:=x;exact⟨_,e⟩ |tup xs=>obtain⟨_,_,_,ob,e,_⟩:=x;exact⟨ob,e⟩ |dK dJ=>obtain⟨_,_,_,_,ob,_,_,e,_⟩:=x;exact⟨ob,e⟩ |dT dJ=>obtain⟨_,_,_,_,ob,_,_,e,_⟩:=x;exact⟨ob,e⟩ |set S n=>obtain⟨ob,_,_,_,e,_⟩:=x;exact⟨ob,e⟩ |ins C dx fs=>obtain⟨_,_,_,e,_⟩:=x;exact⟨_,e⟩ |own y=>exact x |xd fs=>obtain⟨_,⟨ob,_,_,e,_⟩,_⟩:=x;exact⟨ob,e⟩ |qW lo hi=>obtain⟨_,_,_,e⟩:=x;exact⟨_,e⟩ |lM ob u=>exact⟨_,x.1⟩ |oX ps=>exact⟨_,x⟩ |met f y=>exact⟨_,x⟩ |ext φ=>exact x.2.1
structure Fl(P:ag)(w:World)(outer:List Env)(H:Hp)(h₁:Heap)(ex:Addr)(H':Hp)(B h:Heap):Prop where
 un:Un (eS outer) [] H H' h₁ h
 bj:dH P w H' h
 k1:∀b o,h₁.get? b=some o->H b=none->b∉eS outer->B.get? b=some o
 k2:∀b o,H' b=some o->∃ob,B.get? b=some ob
 k3:∀b o,h₁.get? b=some o->b∉eS outer->∃ob,B.get? b=some ob
 fr:∀b∈eS outer,H' b=none
 nw:h₁.get? ex=none
 ne:H' ex=none
theorem Fl.step{P:ag}{w:World}{outer:List Env}{H H':Hp}{h₁ B h h':Heap}{ex:Addr}{az:Heap}(F:Fl P w outer H h₁ ex H' B h)(st:B.StaysIn h)(gO:B.StaysIn h')(up:h.UpToSlots h')(ff:h.FunFrames az outer):Fl P w outer H h₁ ex H' B h':=by
 have slot:∀b o,h₁.get? b=some o->H b=none->b∈eS outer->∃sl,h'.get? b=some {o with slots:=sl}:=λb o e n hb=>by obtain⟨sl,e1⟩:=F.un.slot b o e n hb (by simp);obtain⟨_,o2,e2,hd⟩:=ff.mem hb;rw[e1]at e2;cases e2;obtain⟨CG,e3⟩:=up b _ e1 (λvs=>hd vs);exact⟨CG,e3⟩
 refine⟨⟨λb o e n hb _=>gO b o (F.k1 b o e n hb),λb o e n hb _=>slot b o e n hb,F.un.free,λb o e hx=>?_,F.un.jm,F.un.ja,F.un.jn⟩,λb u e=>?_,F.k1,F.k2,F.k3,F.fr,F.nw,F.ne⟩
 ·by_cases hb:b∈eS outer
  ·obtain⟨_,o2,e2,hd⟩:=ff.mem hb
   obtain⟨sl,e3⟩:=up b o2 e2 hd;exact⟨_,e3⟩
  ·obtain⟨ob,e1⟩:=F.k3 b o e hb
   exact⟨ob,gO b ob e1⟩
 ·refine(F.bj b u e).kx (λc v hc q=>?_) (λ_ q=>q) λ_ _ q=>q
  have Za:∃ob,B.get? c=some ob:=by
   rcases hc with z|z
   ·rw[z];exact F.k2 b u e
   ·exact F.k2 c _ z
  obtain⟨ob,e1⟩:=Za;have e2:=st c ob e1;rw[q]at e2;cases e2;exact gO c _ e1
section
variable {P:ag}{w:World}{K:a8}{mg:bS}{az:Heap}{N:List Str}{qual:Str}{scope:Scope}{f:Addr}{cd:Value}{A:ai}{outer:List Env}{s:af}{H:Hp}{E:XK}{ao:List (Addr×Obj)}{O:St}{H1:Hp}{s1:af}{h2:Heap}{ex:Addr}{cls:Value}{vs:List Value}
end
structure Exc(K:a8)(mg:bS)(x:Str)(C:Addr)(fb:List Value)(newId:String):Prop where
 at':mg x=some (.ref C)
 ok:PySem.W.excIn K C fb newId=true
theorem Exc.own{K:a8}{mg:bS}{x:Str}{C:Addr}{fb:List Value}{newId:String}{h:Heap}(e:Exc K mg x C fb newId)(X:K.In h):OwnCls x C fb newId mg h:=by
 refine⟨e.at',?_⟩;have q:=e.ok;unfold PySem.W.excIn at q;split at q
 ·rename_i dd cd sl ho
  split at q
  ·rename_i D2 bl a0 a1 a2 a3 nn a5 hm hs
   simp only[eU,f9,S5]at q;obtain⟨⟨⟨⟨⟨r1,r2⟩,xo⟩,ht⟩,bj⟩,xb⟩:=q;subst r1 r2;obtain⟨c1,c2,c3,c4,c5,c6,c7,c8,c9,Hq,c11⟩:=cd;dsimp only at hm xo bj xb;subst hm xo;obtain⟨l⟩:=sl;simp only at hs;subst hs;exact⟨bl,c4,c1,c5,c2,c6,c7,c8,c9,Hq,dd,a0,a1,a2,a3,a5,_,X _ _ ho,.of_isNs (PySem.W.isNs_of_in X bj),PySem.W.nsMap_none_of_in X bj xb,PySem.W.tail_of_in X ht⟩
  ·cases q
 ·cases q
section
variable {X:Cx}{x:Str}{C:Addr}{fb:List Value}{newId uz B:String}{e:Expr}{t:TA}{np dR pos:Pos}
end
section
variable {M:Model}{A:ai}{Ex:Value->af->Prop}
theorem a3c{h:Heap}{g:Array GenState}{d:Drawn}{tk:Nat}{os:OsState}{e:Addr}{oe:Obj}{Q:Bool->af->Prop}{C D N N':Addr}{nm MS q q':Str}{bs Qc bm Ht:List Value}{hdct Og:Bool}{sn K4:List Str}{sub Ju:List Value}{ab QF:Bool}{col Q4:Option Bool}{dd PR:Option Addr}{k0 k1 k2 k3 k5 j0 j1 j2 j3 j5:Option Value}{newId Y2:String} (hC:h.get? C=some (excClassObj nm q C N bs bm hdct sn sub ab col dd k0 k1 k2 k3 k5 newId))(hD:h.get? D=some (excClassObj MS q' D N' Qc Ht Og K4 Ju QF Q4 PR j0 j1 j2 j3 j5 Y2)) (he:h.get? e=some oe)(xp:oe.cls= .ref C)(hb:Ht.contains (.type "BaseException")=true)(hs:(Value.ref C::bm).contains (.ref D)=true) (hq:Q true ⟨h,g,d,tk,os⟩):wpAny M A (excMatches (.ref e) (.ref D)) Q Ex ⟨h,g,d,tk,os⟩:=by
 have hcB:(Value.ref D::Ht).contains (.type "BaseException")=true:=by rw[RW,hb,Bool.or_true]
 have f:=tc_notTuple;unfold excMatches
 repeat (first|(with_reducible refine tj he ?_;rw[xp])|with_reducible refine tj hD ?_|(with_reducible refine Ig hD ?_;rw[hcB])|(with_reducible refine Ig hC ?_;rw[hs])|with_reducible refine tj hC ?_|wp_step)
 exact hq
end
section
variable {X:Cx}{k:Nat}{x:Str}{p pos:Pos}{e:Expr}{es:List Expr}{t:TA}{sp:Sp}
end
abbrev Cx.hand(X:Cx)(ex:Addr):Cx:={X with A:=X.A.mark (some (.ref ex)),calm:=false,xe:=λ_ _=>False}
section
variable {X:Cx}{ao:List (Addr×Obj)}{O:St}{H:Hp}{s:af}
theorem Inv.hand(I:Inv X ao O H s)(ex:Addr):Inv (X.hand ex) ao O H s:=⟨⟨I.ok.mod,I.ok.kind,I.ok.glob,I.ok.blt,I.ok.above,I.ok.inj,I.ok.has,I.ok.qu,λh=>(gM h).elim,I.ok.frames,I.ok.qP,I.ok.xI,I.ok.bs,I.ok.ki,I.ok.pD,I.ok.mQ,I.ok.iG,I.ok.lN⟩,I.os,I.bare,I.az,I.loc,I.cell,I.free,I.jb,I.pin,I.bj,I.len⟩
theorem Inv.back{ex:Addr}(ok:X.Ok)(I:Inv (X.hand ex) ao O H s):Inv X ao O H s:=⟨ok,I.os,I.bare,I.az,I.loc,I.cell,I.free,I.jb,I.pin,I.bj,I.len⟩
theorem Ss{M:Model}{A:ai}{E:Value->af->Prop}{i:Nat}{x:Str}{v:V}{pos:Pos}{Q:Unit->af->Prop}(I:Inv X ao O H s)(hN:X.N.Nodup)(hi:X.N[i]? =some x)(hk:X.env.kindOf x=some .local)(hs:X.env.scope.names.lookup x=some .local) (hv:O[i]? =some (some v))(h:∀s',Inv X ao (O.set i none) H s'->Q () s'):wpAny M A (unbindBehindTheSuite X.env x pos) Q E s:=by
 obtain⟨m,hn,hl⟩:=id I.loc;have xp:(X.env.scope.kind== .class||(X.env.scope.kind== .module&&X.env.locals !=X.env.globals))=false:=by rw[I.ok.kind];rfl
 have Ao:i<O.length:=by rw[I.len];exact(cL.mp hi).1
 have jF:=I.jF;obtain⟨u,r,look⟩:=hl i x v hi hv (.inl hs);have hm:m x=some u:=by
  rcases look with⟨_,e⟩|⟨k,_⟩
  ·exact e
  ·rcases k with k|k<;>(rw[hk]at k;cases k)
 unfold unbindBehindTheSuite;refine Bt (wpAny_unbindName_local hk hn hm xp λh' u' G6 rL=>?_);obtain⟨oL,_,_,O3,_⟩:=id hn;have tr:dH X.prog X.w H h':=λb ob e=>by
  refine(I.bj b ob e).kx (λc w' hc q=>(rL.2 c ?_).trans q) (λ_ q=>q) λ_ _ q=>q;rintro rfl;rcases hc with rfl|hc
  ·rw[I.free]at e;cases e
  ·rw[I.free]at hc;cases hc
 have lt:∀b o,X.s₀.heap.get? b=some o->b≠X.env.locals:=λb o e=>dW (cY (cn e) I.ok.above);refine h _ ⟨I.ok,I.os,I.bare,⟨λb o e n hb hx=>(rL.2 b (lt b o e)).trans (I.az.keep b o e n hb hx),λb o e n hb hx=>?_,I.az.free,λb o e hx=>?_,I.az.jm,I.az.ja,I.az.jn⟩,⟨_,G6,λj y v' e1 e2 e3=>?_⟩,λy c e=>?_,I.free,I.jb,λp hp=>?_,tr,by simpa using I.len⟩
 ·obtain⟨sl,e1⟩:=I.az.slot b o e n hb hx
  exact⟨sl,(rL.2 b (lt b o e)).trans e1⟩
 ·obtain⟨o',e1⟩:=I.az.there b o e hx
  exact⟨o',(rL.2 b (lt b o e)).trans e1⟩
 ·by_cases hj:j=i
  ·subst hj
   rw[yM Ao]at e2;cases e2
  ·rw[IM (jg hj)]at e2
   obtain⟨u2,r2,q⟩:=hl j y v' e1 e2 e3;refine⟨u2,r2,?_⟩;rcases q with⟨k,e⟩|⟨k,c,e,z⟩
   ·have:y≠x:=λe=>hj (Fb hN e1 (e▸hi))
    exact .inl ⟨k,by simp[this,e]⟩
   ·exact .inr ⟨k,c,e,z.sameBut rL (jF y c e)⟩
 ·obtain⟨w',z⟩:=I.cell y c e
  exact⟨w',z.sameBut rL (jF y c e)⟩
 ·obtain⟨e,n,ne,nf,d⟩:=I.pin p hp
  exact⟨(rL.2 p.1 ne).trans e,n,ne,nf,d⟩
end
def nc(X:Cx)(st:List Stmt)(t:TS):Prop:=∀(s:af)(O:St)(H:Hp)(D:Ends),Inv X [] O H s->t D O H->wpAny (model X.prog X.w) X.A (execs st X.env) (SP X [] D) X.xe s
def QS(X:Cx)(st:Stmt)(t:TS):Prop:=∀(s:af)(O:St)(H:Hp)(D:Ends),Inv X [] O H s->t D O H->wpAny (model X.prog X.w) X.A (exec st X.env) (SP X [] D) X.xe s
theorem Inv.a4C{X:Cx}{ao:List (Addr×Obj)}{O:St}{H:Hp}{s:af}(I:Inv X ao O H s):Inv X [] O H s:=⟨I.ok,I.os,I.bare,I.az,I.loc,I.cell,I.free,I.jb,λp hp=>I.pin p (RS _ (by simpa using hp)),I.bj,I.len⟩
theorem a1S{CX:jf}{P:ag}{w:World}{K:a8}{mg:bS}{az:Heap}{k:Nat}{f:Addr}{name qual:Str}{params:Arguments}{body:List Stmt}{scope:Scope}{dV kV doc pm aO ct oc:Value}{an od:Option Addr} {fG:Array (Option Value)}{N ps:List Str}{sp:Sp}(lk:K.lookup f=some ⟨oc,od,.func (PySem.W.fnOf name qual params body scope dV kV doc pm an aO ct),fG⟩)(eR:PySem.W.codeIn K aO qual=true)(S:bF N ps scope) (len:∀vs H Q E,sp vs H Q E->vs.length=ps.length) (j9:∀(A:ai)(outer:List Env)(s:af)(H:Hp)(vs:List V)(Q:VK)(E:XK),dm k (A.deeper (envOfC qual scope s.heap.objs.size f aO))->sp vs H Q E->∃t,nc (ie CX P w K mg az N qual scope f aO A outer s H E) body t/\t {nx:=λ_ H'=>Q .bR H',rt:=Q} (start N vs) H): ij P w K mg az CX (k+1) f (PySem.W.fnOf name qual params body scope dV kV doc pm an aO ct) ps sp:=by
 refine⟨len,λA outer s H args us vs Q E hr e0 hb r fY=>?_⟩;have hl:=len _ _ _ _ fY;have KX:K.In s.heap:=e0.mod.pK.keeps λb o e=>(e0.bs b o e).1;have lim:s.heap.NoLimit:=e0.mod.nolimit.keeps λb o e=>(e0.bs b o e).1;have jA:∀y∈ps.zip us,scope.names.lookup y.1=some .local\/(scope.names.lookup y.1=some .cell/\((cellsFrom (s.heap.objs.size+1) scope.names []).lookup y.1).isSome=true):=λ⟨n,v⟩ hy=>by
  rcases S.par n (vp hy).1 with q|q
  ·exact .inl q
  ·exact .inr ⟨q,Ip _ _ _ (.inl q)⟩
 refine RA hr.depth (KX _ _ lk) Z S.co S.gen Z (RF KX eR) (hb _ _ _ _ ?_);refine Rr S.kind jA λenv he s1 x=>?_;subst he;refine⟨lim.keeps x.toInCall.keep,codeAny_func ?_⟩;obtain⟨t,ht,hq⟩:=j9 A outer s H vs Q E (hr.deeper _) fY;have I:Inv (ie CX P w K mg az N qual scope f aO A outer s H E) [] (start N vs) H s1:=FQ S hr.hd e0 hl r x;refine eJ (ht s1 (start N vs) H _ I hq) (λfl s' hs=>?_) λe s' hs=>hs;have fin:∀{σ':St}{H':Hp}{v:V}{u:Value},Inv (ie CX P w K mg az N qual scope f aO A outer s H E) [] σ' H' s'->RelV v u->Q v H'->CE outer P w H s Q u s':=λ{σ' H' v u} J rv q=>⟨v,H',J.os,J.bare,J.az,J.bj,rv,q⟩;cases fl with |ret u=>obtain⟨v,σ',H',J,rv,q⟩:=hs;exact fin J rv q |next=>obtain⟨σ',H',J,q⟩:=hs;exact fin (v:=V.bR) (u:=Value.none) J Z q |brk=>obtain⟨_,_,_,q⟩:=hs;exact False.elim q |cont=>obtain⟨_,_,_,q⟩:=hs;exact False.elim q
def ExcAt(ex:Addr)(cls:Value)(h:Heap):Prop:=∃o,h.get? ex=some o/\o.cls=cls
def takes(K:a8)(C D:Addr):Prop:=PySem.W.mroIn K C (.ref D)=some true
section
variable {X:Cx}{i:Nat}{n y:Str}{Dc:Addr}{Ba:List Value}{newD:String}{body vI:List Stmt}{b0:Stmt}{np rM pos:Pos}{tb:XK->TS}{th:TS}{Cs:Addr->Prop}
end
end L2
namespace L2
open PySem PySem.Spec PyProof.Rows PySem.W Builtin.Getset_descriptor
section
variable {prog:ag}{w:World}{A:ai}{E:Value->af->Prop}{h:Heap}{g:Array GenState}{d:Drawn}{t:Nat}{os:OsState}{K:Frag}{x C:Addr}{o:Obj}
theorem OZ{M:Model}(h1:h.get? x=some o)(h2:o.cls= .ref C):Looks M h (typeOf (.ref x)) (.ref C):=h2▸(Looks.ld h1).andThen .now
structure lX(K:Frag)(C:Addr):Prop where
 ga:findIn K (.ref C) "__getattribute__"=some (some (.builtin "BaseException.__getattribute__"))
 gx:findIn K (.ref C) "__getattr__"=some none
 cl:findIn K (.ref C) "__class__"=some (some (.builtin "object.__class__"))
 gt:specialIn K (.builtin "object.__class__") "__get__"=some (some (.builtin "getset_descriptor.__get__"))
 tk:takesIn K (.builtin "object.__class__")=some true
 ob:mroIn K C (.type "object")=some true
 be:mroIn K C (.type "BaseException")=some true
 is:hasDictIn K C=true
theorem Yx{M:Model}(X:K.In h)(k:lX K C):Looks M h (Builtin.ObjectAttr.find (.ref x) (.ref C) "__class__") (.bind (.builtin "getset_descriptor.__get__") (.builtin "object.__class__")):=by have L1:=Bx (M:=M) X k.cl;have L2:Looks M h (Builtin.ObjectAttr.getOf (some (.builtin "object.__class__"))) (some (.builtin "getset_descriptor.__get__")):=looks_specialIn X k.gt;have L3:=looks_takesIn (M:=M) X k.tk;unfold Builtin.ObjectAttr.find;refine L1.andThen (L2.andThen ?_);have L4:Looks M h (Builtin.ObjectAttr.dataDescriptor? (some (.builtin "object.__class__")) (some (.builtin "getset_descriptor.__get__"))) (some (.builtin "getset_descriptor.__get__",.builtin "object.__class__")):=L3.andThen .now;exact L4.andThen (Looks.tag .now)
theorem OE{M:Model}{N0:Value}{Q:Unit->af->Prop}(X:K.In h)(k:lX K C)(L0:Looks M h (typeOf (.ref x)) (.ref C))(hq:Q () ⟨h,g,d,t,os⟩): wpAny M A (checkBuiltinCall "BaseException.__getattribute__" ⟨[.ref x,N0],[]⟩) Q E ⟨h,g,d,t,os⟩:=by
 have hk:builtinKind "BaseException.__getattribute__"=some .slot:=by decide+kernel
 have fY:splitId "BaseException.__getattribute__"=some ("BaseException","__getattribute__"):=by decide+kernel
 have ha:=PySem.F.args_bexc_ga (.ref x) N0;have L1:=looks_mroIn (M:=M) X k.be;simp only[checkBuiltinCall,hk,fY];refine aF ?_;unfold isInstance;refine aF (L0.at (L1.at ?_))
 repeat (first|assumption|wp_step)
theorem get_cls{R:Result->af->Prop}{tp:Value}(X:K.In h)(k:lX K C)(L0:Looks (model prog w) h (typeOf (.ref x)) (.ref C))(hq:R (.ok (.ret (.ref C))) ⟨h,g,d,t,os⟩): codeAny (model prog w) A (.call (.builtin "getset_descriptor.__get__") ⟨[.builtin "object.__class__",.ref x,tp],[]⟩) R ⟨h,g,d,t,os⟩:=by
 have L1:=looks_mroIn (M:=model prog w) X k.ob;refine Bz KF.slot_gs.plain KF.entry_gs (KF.slot_gs.check _ _ _ _ _ _ _ _ KF.type_class (KF.args_gs _ _ _) ?_);unfold Builtin.«getset_descriptor.__get__»descrGet;rw[dga_obj];refine aF (bH ?_);unfold descrGetter descrCheckInstance descrNameAndClass isInstance;simp only[KF.owner_class];repeat lk
 refine⟨Code.quiet_builtin _ aP,codeAny_builtin KF.entry_class ?_⟩;unfold Builtin.«object.__class__»shownTypeOf;repeat lk
 exact hq
theorem a1A{tk:Tok}{Q:Fin->af->Prop}(X:K.In h)(k:lX K C)(L0:Looks (model prog w) h (typeOf (.ref x)) (.ref C)) (hq:Q (.done (.ret (.ref C))) ⟨h,g,d,t,os⟩):wpAny (model prog w) A (Builtin.«object.__getattribute__» ⟨[.ref x,.str "__class__" tk],[]⟩) Q E ⟨h,g,d,t,os⟩:=by have L1:=Yx (M:=model prog w) (x:=x) X k;refine aF (bH (aF (bH (aF (L0.at (aF (L1.at ?_)))))));show wpAny _ _ (Builtin.ObjectAttr.bindTo _ _ (.ref x) (.ref C)) _ _ _;unfold Builtin.ObjectAttr.bindTo;show wpAny _ _ (holding [_] (call (.builtin "getset_descriptor.__get__") [.builtin "object.__class__",.ref x,.ref C])>>=_) _ _ _;exact aF (jI (tm (get_cls X k L0 (bH hq))))
theorem a45{Q:Option Value->af->Prop}(X:K.In h)(k:lX K C)(L0:Looks (model prog w) h (typeOf (.ref x)) (.ref C)) (hq:Q (some (.ref C)) ⟨h,g,d,t+1,os⟩):wpAny (model prog w) A (getAttr? (.ref x) "__class__") Q E ⟨h,g,d,t,os⟩:=by
 have L1:=Bx (M:=model prog w) X k.ga;have L2:=Bx (M:=model prog w) X k.gx;have f3:=Iv.ga.bind (.ref x);have uA:(Value.builtin "BaseException.__getattribute__"==Value.builtin "object.__getattribute__")=false:=by decide+kernel
 unfold getAttr? getAttrBy? getAttrBy;refine aF (wpAny_mkText (aF (Bv (jI (aF (L0.at (aF (L1.at ?_))))))));show wpAny _ _ (if(onTheHeap (Value.ref C)&&Value.builtin "BaseException.__getattribute__"==Value.builtin "object.__getattribute__")=true then _ else _) _ _ _;rw[uA,BP,bf au];unfold getAttrByItsOwn hookBefore;refine aF ?_;show wpAny _ _ (typeLookup (.ref C) "__getattr__") _ _ _;refine L2.at (aF (Bv (jI ?_)));unfold callGetattribute;show wpAny _ _ (boundAndCalled _ _ _) _ _ _;unfold boundAndCalled;rw[f3];refine aF (bH (tm ?_));refine Bz Iv.ga.plain PySem.F.entry_bexc_ga (OE X k L0 (a1A X k L0 ?_));exact handed_on Z (bH hq)
theorem ND(k:lX K C):KitX K (.ref x) (.ref C) (ExcAt x (.ref C)) where
 ty:=λM h _ p=>by obtain⟨o,h1,h2⟩:=p;exact OZ h1 h2
 it:=λ_ _ X _=>by
  obtain⟨cd,hc,_⟩:=any_some k.is;unfold clsIn at hc;split at hc
  ·rename_i c1 d1 cd1 Ub ho
   intro A' Q' E' s' kk q;unfold isType loadHead;exact aF (wpAny_loadPart (kk _ _ (X _ _ ho)) (bH q))
  ·cases hc
 ne:=λh tp dd its n sl X Zr=>by
  obtain⟨cd,hc,_⟩:=any_some k.is;refine oU.mpr λq=>?_;have e:C=tp:=Value.ref.inj (eU.mp q);subst e;unfold clsIn at hc;split at hc
  ·rename_i c1 d1 cd1 Ub ho
   cases(X _ _ ho).symm.trans Zr
  ·cases hc
 ca:=λ{prog w A E Q s} X p q=>by obtain⟨o,h1,h2⟩:=p;obtain⟨h0,g0,d0,t0,os0⟩:=s;exact a45 X k (OZ h1 h2) q
end
end L2
namespace L2
open PySem PySem.Spec PyProof.Rows
def a46:V->Option Value | .ref D=>some (.ref D) | .ty n=>some (.type n) |_=>none
theorem J8:∀{Ds:List Addr}{us:List Value},Vals (Ds.map V.ref) us->us=Ds.map Value.ref |[],_,.nil=>rfl |n::r,_,.cons q t=>by cases(show _=Value.ref n from q);rw[J8 t];rfl
section
variable {X:Cx}
end
theorem a4s:bootBuiltins "ValueError"=some (.type "ValueError"):=by kernel_rfl
abbrev Hs:List Value:=[.type "ValueError",.type "Exception",.type "BaseException",.type "object"]
abbrev ML:String:="ValueError.__new__"
theorem FA.a0E{P:ag}{w:World}{K:a8}{mg:bS}{az:Heap}{x:Str}{st:Stmt}{N ps:List Str}{k:Nat}{sp:Sp}(F:FA K mg x st)(S:bF N ps (bu st))(len:∀vs H Q E,sp vs H Q E->vs.length=ps.length) (hb:∀(kV doc pm:Value)(an:Option Addr)(aO ct:Value)(us:List Value),us.length=ps.length->bindArgs (PySem.W.fnOf x x (mS st) (gZ st) (bu st) .none kV doc pm an aO ct) ⟨us,[]⟩=pure (ps.zip us)) (j9:∀(f:Addr)(aO:Value)(A:ai)(outer:List Env)(s:af)(H:Hp)(vs:List V)(Q:VK)(E:XK),dm k (A.deeper (envOfC x (bu st) s.heap.objs.size f aO))->sp vs H Q E->∃t,nc (ie hW P w K mg az N x (bu st) f aO A outer s H E) (gZ st) t/\t {nx:=λ_ H'=>Q .bR H',rt:=Q} (start N vs) H):aB P w K mg az x (k+1) sp:=by obtain⟨f,fd,hm,F⟩:=F.ex;have oy:=F.binds hb;have kp:=F.kp;obtain⟨oc,od,kV,doc,pm,an,aO,ct,fG,rfl,lk,eR⟩:=F.ex;exact⟨f,_,ps,a1S lk eR S len λA outer s H vs Q E hr fY=>j9 f aO A outer s H vs Q E hr fY,hm,kp,oy⟩
end L2
namespace Ar
theorem a1z(a b:Int):Int.gcd b (a.fmod b)=Int.gcd a b:=by rw[Int.fmod_def,Int.gcd_sub_mul_left_right,Int.gcd_comm]
theorem OD{a b:Int}(h:0<b):Int.gcd b (a%b)=Int.gcd a b:=by rw[<-Int.fmod_eq_emod_of_nonneg a (BN h)];exact a1z a b
def sg(p q:Int):Int:=if q<0 then-(Int.gcd p q:Int)else(Int.gcd p q:Int)
def lowP (p q:Int):Int:=p.fdiv (sg p q)
def fU (p q:Int):Int:=q.fdiv (sg p q)
theorem AF{p q:Int}(h:q≠0):0<(Int.gcd p q:Int):=by
 have:Int.gcd p q≠0:=λz=>h (Int.gcd_eq_zero_iff.mp z).2
 lia
theorem vT{p q:Int}(h:q≠0):sg p q≠0:=by have:=AF (p:=p) h;unfold sg;split<;>omega
theorem Kb(p q:Int):sg p q∣p:=by
 unfold sg;split
 ·exact Int.neg_dvd.mpr (Int.gcd_dvd_left p q)
 ·exact Int.gcd_dvd_left p q
theorem Ka(p q:Int):sg p q∣q:=by
 unfold sg;split
 ·exact Int.neg_dvd.mpr (Int.gcd_dvd_right p q)
 ·exact Int.gcd_dvd_right p q
theorem Fy(p q:Int):sg p q*lowP p q=p:=by unfold lowP;rw[Int.fdiv_eq_ediv_of_dvd (Kb p q)];exact Int.mul_ediv_cancel' (Kb p q)
theorem zY(p q:Int):sg p q*fU p q=q:=by unfold fU;rw[Int.fdiv_eq_ediv_of_dvd (Ka p q)];exact Int.mul_ediv_cancel' (Ka p q)
theorem Kc(p q:Int):(sg p q).natAbs=Int.gcd p q:=by unfold sg;split<;>lia
theorem Yt{p q:Int}(h:q≠0):Int.gcd (lowP p q) (fU p q)=1:=by
 have e:Int.gcd (sg p q*lowP p q) (sg p q*fU p q)=(sg p q).natAbs*Int.gcd (lowP p q) (fU p q):=Int.gcd_mul_left _ _ _;rw[Fy,zY,Kc]at e;have g:=AF (p:=p) h;have g':0<Int.gcd p q:=by lia
 have e':Int.gcd p q*1=Int.gcd p q*Int.gcd (lowP p q) (fU p q):=by lia
 exact(Nat.eq_of_mul_eq_mul_left g' e').symm
theorem Yu{p q:Int}(h:q≠0):0<fU p q:=by
 have e:=zY p q;have g:=AF (p:=p) h;by_cases hq:q<0
 ·have es:sg p q=-(Int.gcd p q:Int):=by unfold sg;rw[aX hq]
  rw[es]at e;refine Int.not_le.mp λhl=>?_;have:0<=-(Int.gcd p q:Int)*fU p q:=RY aq hl
  lia
 ·have es:sg p q=(Int.gcd p q:Int):=by unfold sg;rw[bf hq]
  rw[es]at e;refine Int.not_le.mp λhl=>?_;have:(Int.gcd p q:Int)*fU p q<=0:=Int.mul_nonpos_of_nonneg_of_nonpos aq hl
  lia
theorem QE{s x y:Int}(hs:s≠0)(e:s*x=y):x.natAbs<=y.natAbs:=by rw[<-e,gs];exact Nat.le_mul_of_pos_left _ aq
theorem Yw{p q:Int}(h:q≠0):(lowP p q).natAbs<=p.natAbs:=QE (vT h) (Fy p q)
theorem Yv{p q:Int}(h:q≠0):(fU p q).natAbs<=q.natAbs:=QE (vT h) (zY p q)
theorem K9{p q:Int}(h:q≠0):(sg p q).natAbs<=q.natAbs:=by rw[Kc];exact Nat.le_of_dvd aq (Int.gcd_dvd_natAbs_right p q)
end Ar
namespace Rt
open Rat
theorem Fx{a b:Int}(hb:b≠0):Ar.lowP a b=(Rat.divInt a b).num/\Ar.fU a b=((Rat.divInt a b).den:Int):=by
 have hp:=Ar.Yu (p:=a) hb;have hc:=Ar.Yt (p:=a) hb;have a0p:(Ar.fU a b).natAbs≠0:=by lia
 have a0t:(Ar.lowP a b).natAbs.Coprime (Ar.fU a b).natAbs:=hc;have e1:Rat.divInt a b=Rat.divInt (Ar.lowP a b) (Ar.fU a b):=by have h:=Rat.divInt_mul_left (a:=Ar.sg a b) (n:=Ar.lowP a b) (d:=Ar.fU a b) (Ar.vT hb);rw[Ar.Fy,Ar.zY]at h;exact h
 have e2:(⟨Ar.lowP a b,(Ar.fU a b).natAbs,a0p,a0t⟩:Rat)=Rat.divInt (Ar.lowP a b) (((Ar.fU a b).natAbs:Nat):Int):=Rat.mk_eq_divInt;have e3:(((Ar.fU a b).natAbs:Nat):Int)=Ar.fU a b:=by lia
 rw[e3]at e2;rw[e1,<-e2];exact⟨Z,e3.symm⟩
theorem den_pos(r:Rat):(0:Int)<(r.den:Int):=by have:=r.den_pos;omega
structure Bd(n:Nat)(r:Rat):Prop where
 num:r.num.natAbs<2^n
 den:r.den<2^n
theorem Bd.mono{n m:Nat}{r:Rat}(h:Bd n r)(l:n<=m):Bd m r:=⟨cY h.num (gD au l),cY h.den (gD au l)⟩
theorem pE{a b n m:Nat}(h:a<2^n)(g:b<2^m):a*b<2^(n+m):=by rw[BF];exact Nat.mul_lt_mul'' h g
theorem nV{n:Nat}{a b:Int}(hb:b≠0)(h1:a.natAbs<2^n)(h2:b.natAbs<2^n):Bd n (Rat.divInt a b):=by
 obtain⟨e1,e2⟩:=Fx (a:=a) hb;have l1:=Ar.Yw (p:=a) hb;have l2:=Ar.Yv (p:=a) hb;refine⟨?_,?_⟩
 ·rw[<-e1];lia
 ·lia
theorem xQ(r s:Rat):(r.den:Int)*(s.den:Int)≠0:=Int.ne_of_gt (fL (den_pos r) (den_pos s))
theorem add_div(r s:Rat):r+s=Rat.divInt (r.num*s.den+s.num*r.den) (r.den*s.den):=by have h:=Rat.divInt_add_divInt r.num s.num (d₁:=r.den) (d₂:=s.den) (by have:=den_pos r;lia) (by have:=den_pos s;lia);rw[vj,vj]at h;exact h
theorem TQ(r s:Rat):r-s=Rat.divInt (r.num*s.den-s.num*r.den) (r.den*s.den):=by have h:=RE r.num s.num (d₁:=r.den) (d₂:=s.den) (by have:=den_pos r;lia) (by have:=den_pos s;lia);rw[vj,vj]at h;exact h
section
variable {n m:Nat} {r s:Rat}
theorem a3O(h:Bd n r)(g:Bd m s):(r.num*s.den).natAbs<2^(n+m):=by rw[gs];exact pE h.num (by have:=g.den;omega)
theorem a3N(h:Bd n r)(g:Bd m s):(s.num*r.den).natAbs<2^(n+m):=by rw[gs,Nat.mul_comm];exact pE (by have:=h.den;lia) g.num
theorem PQ(h:Bd n r)(g:Bd m s):((r.den:Int)*(s.den:Int)).natAbs<2^(n+m):=by rw[gs];exact pE (by have:=h.den;lia) (by have:=g.den;lia)
theorem Bd.add(h:Bd n r)(g:Bd m s):Bd (n+m+1) (r+s):=by
 rw[add_div];have h1:=a3O h g;have h2:=a3N h g;have h3:=PQ h g;have e:2^(n+m+1)=2^(n+m)+2^(n+m):=by rw[Iz];omega
 exact nV (xQ r s) aH aH
end
theorem MM(r:Rat):(0<r.num)↔0<r:=by rw[Rat.lt_iff];simp
end Rt
namespace L2
open PySem PySem.Spec PyProof.Rows
def dN(H H':Hp):Prop:=∀b o,(∀xs,o≠ .lst xs)->H b=some o->H' b=some o
section
variable {K:a8} {H H' H2:Hp}
theorem dN.trans(a:dN H H')(b:dN H' H2):dN H H2:=λc o n e=>b c o n (a c o n e)
theorem dN.fM{D:Addr}{xs ys:List V}(h:H D=some (.lst xs)):dN H (upd H D (.lst ys)):=λb o n e=>by rw[bL (MV e h (n xs))];exact e
theorem aV.t{a:Addr}{xs:List V}(s:dN H H')(h:aV K H a xs):aV K H' a xs:=h.imp (λr=>r.imp (s _ _ λ_ z=>nomatch z) λ⟨o,e⟩=>⟨o,s _ _ (λ_ z=>nomatch z) e⟩) id
mutual
def dw:ah->Bool | .list _=>false | .dict _=>false | .tuple ds=>cE ds | .none=>true | .bool _=>true | .int _=>true | .str _=>true
def cE:List ah->Bool |[]=>true |d::ds=>dw d&&cE ds
end
theorem dh:∀{ds:List ah},cE ds=true↔∀d∈ds,dw d=true
 |[]=>⟨λ_ _ h=>(nomatch h),λ_=>by simp[cE]⟩ |d::ds=>by
  rw[cE,f9,dh (ds:=ds)];constructor
  ·rintro⟨a,b⟩ x hx
   rcases cR.mp hx with rfl|hx
   ·exact a
   ·exact b x hx
  ·intro h
   exact⟨h d (.head _),λx hx=>h x (.tail _ hx)⟩
theorem kI(ns:List Int):cE (ns.map PyData.int)=true:=dh.mpr λd hd=>by obtain⟨i,_,rfl⟩:=eV.mp hd;simp[dw]
mutual
theorem RD.t(s:dN H H'):∀{x:V}(d:ah),dw d=true->RD K H x d->RD K H' x d |x,.none,_,h=>by simpa[RD]using h |x,.bool b,_,h=>by simpa[RD]using h |x,.int i,_,h=>by simpa[RD]using h |x,.str y,_,h=>by simpa[RD]using h |x,.list ds,n,h=>by simp[dw]at n |x,.tuple ds,n,h=>by rw[RD]at h⊢;obtain⟨a,xs,e,h1,h2⟩:=h;exact⟨a,xs,e,h1.t s,aJ.t s ds (by simpa[dw]using n) h2⟩ |x,.dict _,_,h=>by simp[RD]at h
theorem aJ.t (s:dN H H'):∀{xs:List V}(ds:List ah),cE ds=true->aJ K H xs ds->aJ K H' xs ds |xs,[],_,h=>by simpa[aJ]using h |xs,d::ds,n,h=>by rw[aJ]at h⊢;rw[cE,f9]at n;obtain⟨y,ys,e,h1,h2⟩:=h;exact⟨y,ys,e,RD.t s d n.1 h1,aJ.t s ds n.2 h2⟩
end
theorem aJ.gT:∀{xs:List V}{ns:List Int},aJ K H xs (ns.map PyData.int)->xs=ns.map V.int |xs,[],h=>h.nil_inv |xs,n::ns,h=>by obtain⟨y,ys,rfl,h1,h2⟩:=h.cons_inv;rw[h1.int_inv,aJ.gT h2];rfl
theorem qX:∀(ns:List Int),aJ K H (ns.map V.int) (ns.map PyData.int) |[]=>cD |n::ns=>bV (df n) (qX ns)
theorem Hk{J:It}{xs:List V}{ds:List ah}{te:TE}{Q:VK}{D:Addr}{H0:Hp}(rest:St)(nw:Nw H H0 D (.lst []))(hl:xs.length=ds.length)(hz:xs.length<=1000)(hn:cE ds=true) (go:∀i x H2,xs[i]? =some x->aD H H2->J.go i H2/\∀y H3,J.iq i H2 y H3->H3=H2/\y=x)(stop:∀H2,aD H H2->J.stop xs.length H2) (hs:∀(i:Nat)(x:V)(d:ah)(H2:Hp)(Q':VK),xs[i]? =some x->ds[i]? =some d->aD H H2->(∀y H3,aD H2 H3->RD K H3 y d->Q' y H3)->te (some x::rest) H2 Q') (hq:∀H' ys,aD H H'->H' D=some (.lst ys)->aJ K H' ys ds->Q (.ref D) H'):kn J (gk 0) jo te Q D (none::rest) H0:=by
 have hD:=nw.no;refine uX xs.length (λi O H2=>aD H H2/\(∃ys,H2 D=some (.lst ys)/\aJ K H2 ys (ds.take i))/\∃v,O=v::rest) ?_ ?_ ?_
 ·exact⟨nw.same,⟨[],nw.at',cD⟩,none,Z⟩
 ·rintro i O H2 hi ⟨s2,⟨ys,d2,r2⟩,v,rfl⟩
  have Ap:i<ds.length:=by rw[<-hl];exact hi
  have ex:=bG hi;have eb:=bG Ap;obtain⟨g1,g2⟩:=go i _ H2 ex s2;refine⟨g1,λy H3 hy=>?_⟩;obtain⟨rfl,rfl⟩:=g2 y H3 hy;refine yY ?_;refine hs i _ _ _ _ ex eb s2 λz H4 s4 r4=>?_;have d4:=s4 _ _ d2;have len:=r2.length;rw[ko]at len;refine⟨ys,d4,?_,xs.length-(i+1),aq,Z,aq,λb o e=>?_,⟨ys++[z],cF,?_⟩,_,Z⟩
  ·have:(1000:Nat)<sizeLine:=by decide
   lia
  ·rw[bL (cW e hD)];exact s4 b o (s2 b o e)
  ·have t:dN H4 (upd H4 D (.lst (ys++[z]))):=.fM d4
   rw[tx,eb];have n1:cE (ds.take i)=true:=dh.mpr λd hd=>dh.mp hn d (tD hd);exact(aJ.t t _ n1 (aJ.mono s4 _ r2)).append (bV (RD.t t _ (dh.mp hn _ (tG Ap)) r4) cD)
 ·rintro O H2 ⟨s2,⟨ys,d2,r2⟩,v,rfl⟩
  refine⟨stop H2 s2,hq H2 ys s2 d2 ?_⟩;rw[hl,BH]at r2;exact r2
theorem AZ{a:Addr}{xs:List V}{ds:List ah}{te:TE}{Q:VK}{D:Addr}{H0:Hp}(rest:St)(hx:aV K H a xs)(nw:Nw H H0 D (.lst []))(hl:xs.length=ds.length)(hz:xs.length<=1000)(hn:cE ds=true) (hs:∀(i:Nat)(x:V)(d:ah)(H2:Hp)(Q':VK),xs[i]? =some x->ds[i]? =some d->aD H H2->(∀y H3,aD H2 H3->RD K H3 y d->Q' y H3)->te (some x::rest) H2 Q') (hq:∀H' ys,aD H H'->H' D=some (.lst ys)->aJ K H' ys ds->Q (.ref D) H'):kn (qz K a) (gk 0) jo te Q D (none::rest) H0:=Hk rest nw hl hz hn (λi x H2 e s=>⟨⟨xs,x,hx.go s,e⟩,λy H3 ⟨e3,y3⟩=>⟨e3,by have:=y3 _ (hx.go s);rw[e]at this;exact(dU this).symm⟩⟩) (λH2 s=>⟨xs,hx.go s,bw _⟩) hs hq
theorem PY{a:Addr}{xs:List V}{ds:List ah}{te:TE}{Q:VK}{D:Addr}{H0:Hp}(rest:St)(hx:aK K H a xs)(nw:Nw H H0 D (.lst []))(hl:xs.length=ds.length)(hz:xs.length<=1000)(hn:cE ds=true) (hs:∀(i:Nat)(x:V)(d:ah)(H2:Hp)(Q':VK),xs[i]? =some x->ds[i]? =some d->aD H H2->(∀y H3,aD H2 H3->RD K H3 y d->Q' y H3)->te (some x::rest) H2 Q') (hq:∀H' ys,aD H H'->H' D=some (.lst ys)->aJ K H' ys ds->Q (.ref D) H'):kn (qA K a) (gk 0) jo te Q D (none::rest) H0:=Hk rest nw hl hz hn (λi x H2 e s=>⟨⟨xs,x,hx.go s,e⟩,λy H3 ⟨e3,y3⟩=>⟨e3,by have:=y3 _ (hx.go s);rw[e]at this;exact(dU this).symm⟩⟩) (λH2 s=>⟨xs,hx.go s,bw _⟩) hs hq
theorem PX{lo:Int}{n:Nat}{ds:List ah}{te:TE}{Q:VK}{D:Addr}{H0:Hp}(rest:St)(nw:Nw H H0 D (.lst []))(hl:n=ds.length)(hz:n<=1000)(hn:cE ds=true) (hs:∀(i:Nat)(d:ah)(H2:Hp)(Q':VK),ds[i]? =some d->aD H H2->(∀y H3,aD H2 H3->RD K H3 y d->Q' y H3)->te (some (.int (lo+i))::rest) H2 Q') (hq:∀H' ys,aD H H'->H' D=some (.lst ys)->aJ K H' ys ds->Q (.ref D) H'):kn (ng lo n) (gk 0) jo te Q D (none::rest) H0:=by
 have hx:∀i x,((List.range n).map λi:Nat=>V.int (lo+i))[i]? =some x->i<n/\x= .int (lo+i):=λi x e=>by rw[bU]at e;cases h:(List.range n)[i]? with |none=>rw[h]at e;cases e |some j=>rw[h]at e;obtain⟨h1,h2⟩:=cL.mp h;rw[vv]at h2;subst h2;exact⟨by simpa using h1,(dU e).symm⟩
 refine Hk (xs:=(List.range n).map λi:Nat=>V.int (lo+i)) rest nw (by simpa using hl) (by simpa using hz) hn (λi x H2 e s=>?_) (λH2 s=>?_) (λi x d H2 Q' e1 e2 s k=>?_) hq
 ·obtain⟨h1,rfl⟩:=hx i x e
  exact⟨h1,λy H3 ⟨e3,y3⟩=>⟨e3,y3⟩⟩
 ·show n<=_
  simp
 ·obtain⟨h1,rfl⟩:=hx i x e1
  exact hs i d H2 Q' e2 s k
theorem uW{b1 b2:Bool}{l1 l2:Addr}{xs ys:List V}{ds:List ah}{te:TE}{Q:VK}{D:Addr}{H0:Hp}{n:Nat}(rest:St)(G5:n=2)(h1:eg b1 K H l1 xs)(h2:eg b2 K H l2 ys)(nw:Nw H H0 D (.lst [])) (hl:min xs.length ys.length=ds.length)(hz:ds.length<=1000)(hn:cE ds=true) (hs:∀(i:Nat)(x y:V)(d:ah)(H2:Hp)(Q':VK),xs[i]? =some x->ys[i]? =some y->ds[i]? =some d->aD H H2->(∀z H3,aD H2 H3->RD K H3 z d->Q' z H3)->te (some x::some y::rest) H2 Q') (hq:∀H' zs,aD H H'->H' D=some (.lst zs)->aJ K H' zs ds->Q (.ref D) H'):kn (sY K b1 b2 l1 l2) (AH K n (xD (gk 0) (xD (gk 1) Gr))) jo te Q D (none::none::rest) H0:=by
 subst G5;have hD:=nw.no;refine uX ds.length (λi O H2=>aD H H2/\(∃zs,H2 D=some (.lst zs)/\aJ K H2 zs (ds.take i))/\∃v v',O=v::v'::rest) ?_ ?_ ?_
 ·exact⟨nw.same,⟨[],nw.at',cD⟩,none,none,Z⟩
 ·rintro i O H2 hi ⟨s2,⟨zs,d2,r2⟩,v,v',rfl⟩
  have hx:i<xs.length:=by lia
  have hy:i<ys.length:=by lia
  have ex:=bG hx;have ey:=bG hy;have eb:=bG hi;refine⟨⟨xs,ys,_,_,h1.go s2,h2.go s2,ex,ey⟩,λy' H3 lu=>?_⟩;obtain⟨T,x0,y0,rfl,k1,k2,n3⟩:=lu;have e1:=k1 _ (h1.go s2);have e2:=k2 _ (h2.go s2);rw[ex]at e1;rw[ey]at e2;cases e1;cases e2;refine⟨T,_,Z,aV.of n3.at',Z,_,_,Z,_,_,Z,Z,?_⟩;refine yes (aU ?_);refine hs i _ _ _ _ _ ex ey eb (s2.trans n3.same) λz H4 s4 r4=>?_;have i5:=n3.same.trans s4;have d4:=i5 _ _ d2;have len:=r2.length;rw[ko]at len;refine⟨zs,d4,?_,ds.length-(i+1),aq,Z,aq,λb o e=>?_,⟨zs++[z],cF,?_⟩,_,_,Z⟩
  ·have:(1000:Nat)<sizeLine:=by decide
   lia
  ·rw[bL (cW e hD)];exact i5 b o (s2 b o e)
  ·have t:dN H4 (upd H4 D (.lst (zs++[z]))):=.fM d4
   rw[tx,eb];have n1:cE (ds.take i)=true:=dh.mpr λd hd=>dh.mp hn d (tD hd);exact(aJ.t t _ n1 (aJ.mono i5 _ r2)).append (bV (RD.t t _ (dh.mp hn _ (tG hi)) r4) cD)
 ·rintro O H2 ⟨s2,⟨zs,d2,r2⟩,v,v',rfl⟩
  refine⟨⟨xs,ys,h1.go s2,h2.go s2,aq⟩,hq H2 zs s2 d2 ?_⟩;rw[BH]at r2;exact r2
end
theorem NM:∀{ns:List Int}{us:List Value},Vals (ns.map V.int) us->(∀v∈us,∃a t,v=Value.int a t)/\numsOf us=ns
 |[],_,.nil=>⟨λ_ h=>(nomatch h),rfl⟩ |n::ns,_,.cons q r=>by
  obtain⟨t,rfl⟩:=(show∃t,_=Value.int n t from q);obtain⟨h1,h2⟩:=NM r;refine⟨λv hv=>?_,?_⟩
  ·rcases cR.mp hv with rfl|hv
   ·exact⟨n,t,Z⟩
   ·exact h1 v hv
  ·show n::numsOf _=_
   rw[h2]
section
variable {X:Cx}
theorem Fo(K:a8)(hK:X.K=K)(hc:X.calm=true):eH X (.builtin "max") (λxs H Q=>∃(l:Addr)(ns:List Int),xs=[.ref l]/\aK K H l (ns.map V.int)/\ns≠[]/\∀M,M∈ns->(∀a∈ns,a<=M)->Q (.int M) H):=by
 subst hK;intro ao s O H xs us Q I r h;obtain⟨l,ns,rfl,hl,j6,q⟩:=h;obtain⟨u,rfl,ru⟩:=vals1 r;cases(show u=Value.ref l from ru);obtain⟨its,rv,pl,hz⟩:=I.list hl;obtain⟨a1,a2⟩:=NM rv;have all:AllInts its.toArray:=λv hv=>a1 v (by simpa using hv);obtain⟨ps,NZ⟩:=all.items;have e0:numsOf (intItems ps).toList=ns:=by rw[<-NZ];exact a2
 rw[nums_intItems]at e0;have hlen:ps.size=ns.length:=by rw[<-e0,bB,yR]
 have rM:0<ps.size:=by rw[hlen];exact yK.mpr j6
 refine max_intList (I.ok.hd hc) (by rw[<-NZ];exact pl.isList) rM λv h' tk hv hk=>?_;obtain⟨t,rfl⟩:=intItems_at hv;obtain⟨h1,h2⟩:=argBest_gt (numAt ps) (ps.size-1);refine⟨.int _,H,I.kept hk,⟨_,Z⟩,q _ ?_ λa ha=>?_⟩
 ·rw[numAt_eq,e0];exact getD_mem aH
 ·obtain⟨j,hj,rfl⟩:=mem_getD ha
  rw[<-e0,<-numAt_eq];exact h2 j aH
theorem NP{ns:List Int}{us:List Value}(r:Vals (ns.map V.int) us){i:Nat}{v:Value}(h:us[i]? =some v):∃n t,ns[i]? =some n/\v=Value.int n t:=by
 have hl:=r.length;rw[bB]at hl;have hi:i<ns.length:=by rw[hl];exact(cL.mp h).1
 obtain⟨u,e,ru⟩:=r.get (i:=i) (x:=.int ns[i]) (by rw[bU,bG hi];rfl);rw[h]at e;cases e;obtain⟨t,rfl⟩:=(show∃t,v=Value.int ns[i] t from ru);exact⟨_,t,bG hi,Z⟩
theorem V5(ns:List Int):((List.range ns.length).any λi=>((ns.map (· !=0))[i]?).getD false)=ns.any (· !=0):=by have:=LSm.range_any (ns.map (· !=0));rw[bB]at this;rw[this,List.any_map];rfl
theorem a4P(K:a8)(hK:X.K=K)(hc:X.calm=true):eH X (.builtin "any") (λxs H Q=>∃(l:Addr)(ns:List Int),xs=[.ref l]/\(aK K H l (ns.map V.int)\/aV K H l (ns.map V.int))/\Q (.bl (ns.any (· !=0))) H):=by
 subst hK;intro ao s O H xs us Q I r h;obtain⟨l,ns,rfl,hl,q⟩:=h;obtain⟨u,rfl,ru⟩:=vals1 r;cases(show u=Value.ref l from ru);have hh:=I.ok.hd hc;have fin:∀(its:List Value),Vals (ns.map V.int) its->((List.range its.toArray.size).any λi=>((ns.map (· !=0))[i]?).getD false)=ns.any (· !=0):=λits rv=>by rw[dn,<-rv.length,bB];exact V5 ns
 rcases hl with hl|hl
 ·obtain⟨its,rv,pl,hz⟩:=I.list hl
  have j7:=pl.isList;have bQ:l<s.heap.objs.size:=by obtain⟨_,e,_⟩:=j7;exact cn e
  refine call_any_walk (Bs j7 ?_);refine⟨s.heap.objs.size,[s.heap.objs.size,l],[s.heap.objs.size],its.toArray.size,_,_,λi=>((ns.map (· !=0))[i]?).getD false,Z,Walks.list (A:=X.A.in1) hh _ l (dW bQ) its.toArray,⟨⟨_,eu _ Z,Z,Z⟩,j7.push _⟩,λi v s' Q' E' hP hQ=>?_,λh' tk hk=>?_⟩
  ·obtain⟨n,t,e,rfl⟩:=NP rv (i:=i) (v:=v) (by simpa using hP)
   simp only[bU,e]at hQ;exact truthy_int hQ
  ·rw[fin its rv]
   exact⟨.bl _,H,I.kept (LSm.kept_iter hk),Z,q⟩
 ·obtain⟨its,rv,pl,hz⟩:=I.tuple hl
  have j7:s.heap.IsTuple l its.toArray:=by obtain⟨⟨cls,dd,data,sl⟩,ho,ib,n,hd⟩:=pl;exact⟨_,ho,ib,by simpa using⟨n,hd⟩⟩
  have bQ:l<s.heap.objs.size:=by obtain⟨_,e,_⟩:=j7;exact cn e
  refine call_any_walk (wpAny_pyIter_tuple j7 ?_);refine⟨s.heap.objs.size,[s.heap.objs.size,l],[s.heap.objs.size],its.toArray.size,_,_,λi=>((ns.map (· !=0))[i]?).getD false,Z,Walks.tuple (A:=X.A.in1) hh _ l (dW bQ) its.toArray,⟨⟨_,eu _ Z,Z,Z⟩,j7.push _⟩,λi v s' Q' E' hP hQ=>?_,λh' tk hk=>?_⟩
  ·obtain⟨n,t,e,rfl⟩:=NP rv (i:=i) (v:=v) (by simpa using hP)
   simp only[bU,e]at hQ;exact truthy_int hQ
  ·rw[fin its rv]
   exact⟨.bl _,H,I.kept (LSm.kept_iter hk),Z,q⟩
end
end L2
set_option maxHeartbeats 1000000
namespace Lw
open PySem PySem.Spec PyProof.Rows L2
def QU(c m:Int):Prop:=0<=c/\0<=m/\m<2147483648
def fA(H:Hp)(p:Addr):Prop:=∃c m,H p=some (.lst [.int c,.int m])/\QU c m
structure aM(p:Addr)(H H':Hp):Prop where
 aE:fA H' p
 same:∀b o,b≠p->H b=some o->H' b=some o
theorem aM.refl{p:Addr}{H:Hp}(h:fA H p):aM p H H:=⟨h,λ_ _ _ e=>e⟩
theorem aM.trans{p:Addr}{H H1 H2:Hp}(a:aM p H H1)(b:aM p H1 H2):aM p H H2:=⟨b.aE,λc o n e=>b.same c o n (a.same c o n e)⟩
theorem aM.upd{p:Addr}{H:Hp}{c m:Int}(h:QU c m):aM p H (L2.upd H p (.lst [.int c,.int m])):=⟨⟨c,m,cF,h⟩,λb o n e=>by rw[bL n];exact e⟩
theorem aM.bD{p:Addr}{H H':Hp}(h:fA H p)(s:aD H H'):aM p H H':=by obtain⟨c,m,e,ok⟩:=h;exact⟨⟨c,m,s _ _ e,ok⟩,λb o _ e=>s b o e⟩
theorem J4{j:Int}(h0:0<=j)(h:j<=10^40):Wd j:=by
 have:j.natAbs<=10^40:=by lia
 exact vn this aP
theorem fA.ne{H:Hp}{p:Addr}(h:fA H p):H p≠none:=by obtain⟨c,m,e,_⟩:=h;rw[e];exact λz=>nomatch z
theorem aM.sd{p:Addr}{H H':Hp}(b:aM p H H'):SD p H H':=λc o e=>jE.mpr ⟨(jE.mp e).1,b.same _ _ (jE.mp e).1 (jE.mp e).2⟩
theorem fA.Fd{H:Hp}{p:Addr}{q:Addr}{o:HO}(h:fA H p)(e:H q=some o)(n:∀xs,o≠ .lst xs):q≠p:=by obtain⟨c,m,e',_⟩:=h;exact MV e e' (n _)
theorem aM.t{p:Addr}{H H':Hp}(bg:fA H p)(b:aM p H H'):dN H H':=λc o n e=>b.same c o (bg.Fd e n) e
theorem aM.Um{p:Addr}{H0 H H':Hp}(s:aD H0 H)(hp:H0 p=none)(b:aM p H H'):aD H0 H':=λc o e=>b.same c o (cW e hp) (s c o e)
section
variable {K:a8}
theorem a3Y{J:It}{te:TE}{Q:VK}{D p:Addr}{H H0:Hp}(n:Nat)(rest:L2.St)(nw:Nw H H0 D (.lst []))(bg:fA H p)(hn:n<=1000)(xv:Nat->V) (go:∀i H2,i<n->aM p H H2->J.go i H2/\∀y H3,J.iq i H2 y H3->H3=H2/\y=xv i)(stop:∀H2,aM p H H2->J.stop n H2)(Pz:Int->Prop) (hs:∀i H2 (Q':VK),i<n->aM p H H2->(∀z H3,Pz z->aM p H2 H3->Q' (.int z) H3)->te (some (xv i)::rest) H2 Q') (hq:∀H' (is:List Int),aM p H H'->H' D=some (.lst (is.map V.int))->is.length=n->(∀z∈is,Pz z)->Q (.ref D) H'):kn J (gk 0) jo te Q D (none::rest) H0:=by
 have xB:D≠p:=λe=>bg.ne (e▸nw.no);refine uX n (λi O H3=>aM p H H3/\(∃is:List Int,H3 D=some (.lst (is.map V.int))/\is.length=i/\∀z∈is,Pz z)/\∃v,O=v::rest) ?_ ?_ ?_
 ·exact⟨.bD bg nw.same,⟨[],nw.at',Z,λ_ h=>(fq h).elim⟩,none,Z⟩
 ·rintro i O H3 hi ⟨b3,⟨is,d3,li,pi⟩,v,rfl⟩
  obtain⟨g1,g2⟩:=go i H3 hi b3;refine⟨g1,λy H4 hy=>?_⟩;obtain⟨rfl,rfl⟩:=g2 y H4 hy;refine yY ?_;refine hs i _ _ hi b3 λz H5 pz b5=>?_;refine⟨_,b5.same _ _ xB d3,?_,n-(i+1),aq,Z,aq,?_,⟨is++[z],?_,?_,?_⟩,_,Z⟩
  ·rw[bB,li]
   have:(1000:Nat)<sizeLine:=by decide
   lia
  ·have y6:=b3.trans b5
   refine⟨?_,λb o n e=>?_⟩
   ·obtain⟨c,m,e,ok⟩:=y6.aE
    exact⟨c,m,by rw[bL xB.symm];exact e,ok⟩
   ·rw[bL (cW e nw.no)];exact y6.same b o n e
  ·rw[cF,ip];rfl
  ·rw[cB,li];rfl
  ·intro y hy
   rcases gL.mp hy with h|h
   ·exact pi y h
   ·rw[kS.mp h];exact pz
 ·rintro O H3 ⟨b3,⟨is,d3,li,pi⟩,v,rfl⟩
  exact⟨stop H3 b3,hq H3 is b3 d3 li pi⟩
theorem NO(ns:List Int){i:Int}(h0:0<=i)(h:i<ns.length):∃z,z∈ns/\dk (ns.map V.int) i=some (.int z):=by
 have hl:i.toNat<ns.length:=by omega
 exact⟨ns[i.toNat],tG hl,cQ h0 (by rw[bU,bG hl];rfl)⟩
theorem PZ{J:It}{te:TE}{Q:VK}{D p:Addr}{H H0:Hp}(n:Nat)(rest:L2.St)(nw:Nw H H0 D (.lst []))(bg:fA H p)(hn:n<=1000)(xv:Nat->V) (go:∀i H2,i<n->aM p H H2->J.go i H2/\∀y H3,J.iq i H2 y H3->H3=H2/\y=xv i)(stop:∀H2,aM p H H2->J.stop n H2)(Pd:Nat->ah->Prop) (hs:∀i H2 (Q':VK),i<n->aM p H H2->(∀y d H3,Pd i d->dw d=true->RD K H3 y d->aM p H2 H3->Q' y H3)->te (some (xv i)::rest) H2 Q') (hq:∀H' ys ds,aM p H H'->H' D=some (.lst ys)->aJ K H' ys ds->ds.length=n->cE ds=true->(∀i d,ds[i]? =some d->Pd i d)->Q (.ref D) H'):kn J (gk 0) jo te Q D (none::rest) H0:=by
  have xB:D≠p:=λe=>bg.ne (e▸nw.no);refine uX n (λi O H3=>aM p H H3/\(∃ys ds,H3 D=some (.lst ys)/\aJ K H3 ys ds/\ds.length=i/\cE ds=true/\∀j d,ds[j]? =some d->Pd j d)/\∃v,O=v::rest) ?_ ?_ ?_
  ·exact⟨.bD bg nw.same,⟨[],[],nw.at',cD,Z,Z,λj d e=>by simp at e⟩,none,Z⟩
  · rintro i O H3 hi ⟨b3,⟨ys,ds,d3,r3,li,ni,pi⟩,v,rfl⟩
    obtain⟨g1,g2⟩:=go i H3 hi b3;refine⟨g1,λy H4 hy=>?_⟩;obtain⟨rfl,rfl⟩:=g2 y H4 hy;refine yY ?_;refine hs i _ _ hi b3 λz d H5 pz nz rz b5=>?_;have d5:=b5.same _ _ xB d3;have t:dN H5 (L2.upd H5 D (.lst (ys++[z]))):=.fM d5;refine⟨ys,d5,?_,n-(i+1),aq,Z,aq,?_,⟨ys++[z],ds++[d],cF,?_,?_,?_,?_⟩,_,Z⟩
    · rw[r3.length,li]
      have:(1000:Nat)<sizeLine:=by decide
      lia
    · have y6:=b3.trans b5
      refine⟨?_,λb o n e=>?_⟩
      · obtain⟨c,m,e,ok⟩:=y6.aE
        exact⟨c,m,by rw[bL xB.symm];exact e,ok⟩
      ·rw[bL (cW e nw.no)];exact y6.same b o n e
    ·exact(aJ.t ((aM.t b3.aE b5).trans t) _ ni r3).append (bV (RD.t t _ nz rz) cD)
    ·rw[cB,li];rfl
    ·exact dh.mpr λx hx=>by
        rcases gL.mp hx with h|h
        ·exact dh.mp ni x h
        ·rw[kS.mp h];exact nz
    · intro j e he
      by_cases hj:j<ds.length
      · rw[qJ hj]at he
        exact pi j e he
      · have rW:j=ds.length:=by
          have:=(cL.mp he).1;rw[cB]at this;have:j<ds.length+1:=this
          lia
        subst rW;rw[oQ (bw _),BE]at he;cases he;rw[li];exact pz
  · rintro O H3 ⟨b3,⟨ys,ds,d3,r3,li,ni,pi⟩,v,rfl⟩
    exact⟨stop H3 b3,hq H3 ys ds b3 d3 r3 li ni pi⟩
end
end Lw
namespace Ln
open PySem L2
def gK(i:Int):Int:=if i<0 then-i else i
theorem y9(i:Int):gK i=(i.natAbs:Int):=by unfold gK;split<;>lia
def aL(ns:List Int):Nat:=ns.foldr (λz m=>max z.natAbs m) 0
theorem FJ:∀{ns:List Int}{z:Int},z∈ns->z.natAbs<=aL ns
 |n::ns,z,h=>by
  show z.natAbs<=max n.natAbs (aL ns);rcases cR.mp h with rfl|h
  ·exact Nat.le_max_left _ _
  ·exact eL (FJ h) (Nat.le_max_right _ _)
theorem FH:∀{ns:List Int},ns≠[]->∃z∈ns,z.natAbs=aL ns
 |[],h=>absurd Z h |[n],_=>⟨n,.head _,by show n.natAbs=max n.natAbs 0;lia⟩ |n::m::ns,_=>by
  obtain⟨z,hz,e⟩:=FH (ns:=m::ns) (by simp);by_cases h:n.natAbs<=aL (m::ns)
  ·exact⟨z,.tail _ hz,by show _=max n.natAbs (aL (m::ns));lia⟩
  ·exact⟨n,.head _,by show _=max n.natAbs (aL (m::ns));lia⟩
theorem mC{ns:List Int}{m:Nat}(h:∀z∈ns,z.natAbs<=m):aL ns<=m:=by cases ns with |nil=>exact eK _ |cons a r=>obtain⟨z,hz,e⟩:=FH (ns:=a::r) (by simp);rw[<-e];exact h z hz
theorem YH{ns:List Int}(h:∃z∈ns,z≠0):0<aL ns:=by
 obtain⟨z,hz,h0⟩:=h;have:=FJ hz
 lia
theorem FG{ns:List Int}(j6:ns≠[]){M:Int}(h1:M∈ns.map gK)(h2:∀a∈ns.map gK,a<=M):M=(aL ns:Int):=by
 obtain⟨z,hz,e⟩:=eV.mp h1;obtain⟨y,hy,ey⟩:=FH j6;have a1:=FJ hz;have a2:=h2 (gK y) (eV.mpr ⟨y,hy,Z⟩);rw[y9]at e a2
 lia
def jO(p q:Int):Int:=(2*(p.natAbs:Int)+q)/(2*q)
def i9(p q:Int):Int:=if p>=0 then jO p q else-jO p q
structure vd(x p q:Int):Prop where
 lo:-q<=2*(x*q-p)
 hi:2*(x*q-p)<=q
 su:2*(x*q-p)=q\/2*(x*q-p)=-q->p.natAbs<=(x*q).natAbs
theorem Uc{p q:Int}(hq:0<q):2*q*jO p q<=2*(p.natAbs:Int)+q/\2*(p.natAbs:Int)+q<2*q*jO p q+2*q:=by have h:=Int.mul_ediv_add_emod (2*(p.natAbs:Int)+q) (2*q);have h0:=oT (2*(p.natAbs:Int)+q) (show 2*q≠0 by omega);have h1:=tJ (2*(p.natAbs:Int)+q) (show 0<2*q by omega);unfold jO;constructor<;>omega
theorem Ud{p q:Int}(hq:0<q):0<=jO p q:=Int.ediv_nonneg aq aq
theorem near_is{p q:Int}(hq:0<q):vd (i9 p q) p q:=by
 obtain⟨h1,h2⟩:=Uc (p:=p) hq;have h0:=Ud (p:=p) hq;rw[tI,IV q]at h1 h2;have hs0:0<=jO p q*q:=jK h0 (BN hq);unfold i9;split
 ·refine⟨?_,?_,λh=>?_⟩<;>(generalize jO p q*q=s at*;omega)
 ·refine⟨?_,?_,?_⟩<;>rw[Int.neg_mul]<;>(generalize jO p q*q=s at*;omega)
theorem wJ{x y q:Int}(hq:0<q)(h:x<y):x*q+q<=y*q:=by have:(x+1)*q<=y*q:=RZ aq aq;rw[Int.add_mul,kr]at this;exact this
theorem Y5{x y p q:Int}(hq:0<q)(a:vd x p q)(b:vd y p q):x=y:=by
 have key:∀{x y:Int},vd x p q->vd y p q->¬x<y:=λ{x y} a b h=>by
  have g:=wJ hq h;have e1:=a.lo;have e2:=a.hi;have e3:=b.lo;have e4:=b.hi;have f1:=a.su;have f2:=b.su;have hx:x*q=0\/q<=x*q\/x*q<=-q:=by
   rcases S1 x 0 with h|h|h
   ·have:=wJ hq h;lia
   ·left;rw[h,yN]
   ·have:=wJ hq h;lia
  have hy:y*q=0\/q<=y*q\/y*q<=-q:=by
   rcases S1 y 0 with h|h|h
   ·have:=wJ hq h;lia
   ·left;rw[h,yN]
   ·have:=wJ hq h;lia
  generalize x*q=u at*;generalize y*q=v at*;have hu:=f1 aq;have hv:=f2 aq
  lia
 rcases S1 x y with h|h|h
 ·exact absurd h (key a b)
 ·exact h
 ·exact absurd h (key b a)
theorem Y6{x p q:Int}(hq:0<q)(a:vd x p q):x=i9 p q:=Y5 hq a (near_is hq)
theorem MU{q:Int}(hq:0<q):i9 0 q=0:=(Y6 hq ⟨aq,aq,λh=>by lia⟩).symm
end Ln
namespace L2
open PySem PySem.Spec PyProof.Rows
abbrev AR(b:Bool)(h:Heap)(l:Addr):Heap:=h.push {cls:=.type (qo b),data:=.fields #[.ref l,.int 0 0]}
abbrev GR(b:Bool)(h:Heap)(l:Addr):Heap:=(AR b h l).push {cls:=.type "enumerate",data:=.fields #[.none,.bool false,.ref h.objs.size,rawInt 0,.none,.none]}
theorem a3q(b:Bool)(l:Addr)(xs:Array Value):Meets (Builtin.«enumerate.__new__» ⟨[.type "enumerate",.ref l],[]⟩) (λ_ R s=>gm b s.heap l xs/\R (.ok (.ret (.ref (AR b s.heap l).objs.size))) {s with heap:=GR b s.heap l}):=.of_wp λprog w A R s h=>by
 obtain⟨hp,gg,d,tk,os⟩:=s;obtain⟨hl,h⟩:=h;have FW:=sub_enumerate;have hL:gm b (Shared.heap ⟨hp,gg,d,tk,os⟩) l xs:=hl
 wp_walk using uq hL;refine wpAny_stack_any λst=>bH ?_;split
 ·rename_i c _ _ _ _ _
  cases(c==Value.type "enumerate")
  ·wp_walk using uq hL
   exact⟨_,Z,h⟩
  ·wp_walk using uq hL
   exact⟨_,Z,h⟩
 ·wp_walk using uq hL
  exact⟨_,Z,h⟩
section
variable {prog:ag}{w:World}{A:ai}{E:Value->af->Prop}{s:af}
theorem a3r{b:Bool}{l:Addr}{xs:Array Value}{Q:Value->af->Prop}(hl:gm b s.heap l xs) (q:∀g,IsEnum g (s.heap.objs.size+1) s.heap.objs.size 0 .none->je b g s.heap.objs.size l 0->(∀c o,s.heap.get? c=some o->g.get? c=some o)->Q (.ref (s.heap.objs.size+1)) {s with heap:=g}): wpAny (model prog w) A (call (.type "enumerate") [.ref l]) Q E s:=by refine callType_new PySem.F.called_enumerate au (PySem.F.typeCall_enumerate_1 _) (PySem.F.newCall_enumerate_1 _) (λobj=>PySem.F.args_object_init_2 obj _) PySem.F.entry_enumerate_new (a3q b l xs) ⟨hl,?_⟩;have z1:(AR b s.heap l).objs.size=s.heap.objs.size+1:=qK ..;have g2:(GR b s.heap l).get? (AR b s.heap l).objs.size=some _:=eu _ rfl;have g1:(GR b s.heap l).get? s.heap.objs.size=some _:=cw _ (eu _ Z);show _/\_;rw[z1]at g2⊢;refine⟨⟨_,g2,Z⟩,q _ g2 ?_ λc o e=>cw _ (cw _ e)⟩;cases b<;>exact⟨_,g1,rfl,rfl⟩
theorem Pf{b:Bool}{it l:Addr}{xs:Array Value}(hh:A.handled=none)(ne:l≠it):Draws prog w A it [it,l] xs.size (λi x=>xs[i]? =some x) (λi h=>je b h it l i/\gm b h l xs) where
 live:=λi h st=>by obtain⟨o,e,_⟩:=st.1.ob;exact⟨o,e⟩
 frame:=λi h h' st k=>⟨st.1.to λo e=>k it (by simp) o e,st.2.to λo e=>k l (by simp) o e⟩
 item:=λi s Q E hi st hQ=>zM st.1 st.2 (x:=xs[i]) (by simp[hi]) λg gi sb=>hQ _ g s.toks (by simp[hi]) ⟨gi,st.2.to λo e=>sb.extBut _ _ ne e⟩ sb
 done:=λs Q E st hE=>GQ hh st.1 st.2 (by simp) λg e a b=>hE g e a b
end
def yi(K:a8)(b:Bool)(l:Addr):It:=⟨λi H=>∃xs x,eg b K H l xs/\xs[i]? =some x,λi H v H'=>∃T x,v= .ref T/\(∀xs,eg b K H l xs->xs[i]? =some x)/\Nw H H' T (.tup [.int i,x]),λi H=>∃xs,eg b K H l xs/\xs.length=i⟩
theorem SI{P:ag}{w:World}{K:a8}{elts:List Expr}{kt:Nat}{pos:Pos}{b:Bool}{e it l:Addr}(D:e≠it): Turn P w K (.Tuple elts kt pos) (yi K b l) [e,it] e (λi h=>(∃old,IsEnum h e it i old)/\je b h it l i) where
 mem:=by simp
 obj:=λi h st c hc=>by
  obtain⟨⟨old,he⟩,h1⟩:=st;simp only[cR,fq,iO]at hc;rcases hc with rfl|rfl
  ·exact⟨_,he,λv e=>by cases e⟩
  ·obtain⟨o,e,_,n⟩:=h1.ob;exact⟨o,e,n⟩
 keep:=λi h h' st k=>by obtain⟨⟨old,he⟩,h1⟩:=st;exact⟨⟨old,k e (by simp) _ he⟩,h1.to λo q=>k it (by simp) o q⟩
 item:=by
  intro X hP hw hK hc i ao s O H E I hf st hg;subst hP hw hK;obtain⟨xs,x,q1,e1⟩:=hg;obtain⟨its,r1,p1⟩:=q1.get I;obtain⟨u1,FU,iW⟩:=r1.get e1;obtain⟨⟨old,he⟩,h1⟩:=st;obtain⟨oi,jX,ci,_⟩:=h1.ob;have FK:∃o,s.heap.get? l=some o/\(o.cls= .type "list"\/o.cls= .type "tuple"):=by cases b<;>(obtain⟨o,ho,cc,_⟩:=p1;first|exact⟨o,ho,.inl cc⟩|exact⟨o,ho,.inr cc⟩)
  obtain⟨ol,rQ,cl⟩:=FK;have Y4:e≠l:=λz=>by subst z;rw[he]at rQ;cases rQ;rcases cl with h|h<;>simp at h
  have nil:l≠it:=λz=>by subst z;rw[jX]at rQ;cases rQ;rw[ci]at cl;cases b<;>(rcases cl with h|h<;>simp[qo]at h)
  have bQ:i<its.toArray.size:=by rw[dn,<-r1.length];exact(cL.mp e1).1
  refine wpAny_pyNext_enum_itemD (Pf (I.ok.hd hc) nil) he ⟨h1,p1⟩ bQ D (by simp[D,Y4]) λy h' tk hPy ho jW hT wY kp=>⟨_,Z,?_⟩;have ey:y=u1:=by
   have a1:its.toArray[i]? =some y:=hPy;have a2:its.toArray[i]? =some u1:=by simpa using FU
   rw[a1]at a2;exact dU a2
  subst ey;refine wpAny_letOwnedTupleGo_enum ho λg' he' sb=>?_;have hs:=sb.extBut;have elt:e<s.heap.objs.size:=cn he;have Zb:it<s.heap.objs.size:=cn jX;have nw:Nw H (upd H s.heap.objs.size (.tup [.int i,x])) s.heap.objs.size (.tup [.int i,x]):=.of (I.bj.fresh (bw _));have I1:Inv X ao O (upd H s.heap.objs.size (.tup [.int i,x])) {s with heap:=s.heap.push {cls:=.type "tuple",data:=.seq #[.int i tk,y]},toks:=tk+1}:=I.laid (t':=tk+1) (λb ob q=>cw _ q) (bw _) ⟨by show 2<=sizeLine;decide,[.int i tk,y],.cons ⟨tk,Z⟩ (.cons iW .nil),⟨_,eu _ Z,Z,_,Z⟩⟩;have Fu:∀c∈[e,it],c<s.heap.objs.size:=λc hc=>by
   simp only[cR,fq,iO]at hc;rcases hc with rfl|rfl
   ·exact elt
   ·exact Zb
  have hn:∀c∈[e,it],upd H s.heap.objs.size (.tup [.int i,x]) c=none:=λc hc=>by rw[bL (dW (Fu c hc))];exact(hf c hc).1
  have I2:Inv X ao O (upd H s.heap.objs.size (.tup [.int i,x])) {s with heap:=g',toks:=tk+1}:=Inv.vC (s:={s with heap:=s.heap.push {cls:=.type "tuple",data:=.seq #[.int i tk,y]},toks:=tk+1}) (t':=tk+1) (fp:=[e,it]) I1 (λc o hc q=>by
   have q:(s.heap.push {cls:=.type "tuple",data:=.seq #[.int i tk,y]}).get? c=some o:=q;have nz:c≠e:=λz=>hc (by simp[z]);rcases S3 q with⟨Gf,rfl⟩|q'
   ·subst Gf
    exact hs _ _ nz hT
   ·exact hs _ _ nz (kp c o nz (λz=>hc (by simp[z])) q')) (λc hc=>by obtain⟨f0,f1,f2,f3,f4,f5⟩:=hf c hc;exact⟨hn c hc,f1,f2,f3,f4,f5⟩);refine⟨.ref s.heap.objs.size,_,I2,Z,⟨s.heap.objs.size,x,Z,λzs hz=>?_,nw⟩,⟨⟨_,by simpa using he'⟩,jW.1.to λo q=>hs _ o (jg D) q⟩,hn⟩;rw[eg.inj I hz q1];exact e1
 done:=by
  intro X hP hw hK hc i ao s O H E I hf st hg;subst hP hw hK;obtain⟨xs,q1,xm⟩:=hg;obtain⟨its,r1,p1⟩:=q1.get I;obtain⟨⟨old,he⟩,h1⟩:=st;obtain⟨oi,jX,ci,_⟩:=h1.ob;have FK:∃o,s.heap.get? l=some o/\(o.cls= .type "list"\/o.cls= .type "tuple"):=by cases b<;>(obtain⟨o,ho,cc,_⟩:=p1;first|exact⟨o,ho,.inl cc⟩|exact⟨o,ho,.inr cc⟩)
  obtain⟨ol,rQ,cl⟩:=FK;have nil:l≠it:=λz=>by subst z;rw[jX]at rQ;cases rQ;rw[ci]at cl;cases b<;>(rcases cl with h|h<;>simp[qo]at h)
  have hi:i=its.toArray.size:=by rw[dn,<-r1.length];exact xm.symm
  subst hi;refine wpAny_pyNext_enum_endD (Pf (I.ok.hd hc) nil) he ⟨h1,p1⟩ λh' kp=>⟨Z,?_⟩;exact I.vC (t':=s.toks) (fp:=[e,it]) (λc o hc q=>kp c o (λz=>hc (by simp[z])) q) hf
 self:=λ_ _ _ _ _ st h=>by obtain⟨⟨old,he⟩,_⟩:=st;exact wpAny_pyIter_enum he h
inductive a78(K:a8)(b:Bool)(R:It->Hp->Prop)(vs:List V)(H1:Hp):Prop |mk (l:_)(h0:vs=[.ref l])(h1:(∃xs,eg b K H1 l xs))(h2:R (yi K b l) H1)
def Zj(K:a8)(b:Bool)(ta:TA):TI:=λO H R=>ta O H λvs H1=>a78 K b R vs H1
theorem uh(K:a8){X:Cx}(hK:X.K=K)(b:Bool){elts:List Expr}{kt:Nat}{tP:Pos}{a:Expr}{ta:TA}{p pos:Pos}(hg:Gl X "enumerate")(hm:X.mg "enumerate"=none)(ha:PA X [a] ta)(hs:starEach [a] X.env=[(false,eval a X.env)]:=by rfl)(j4:starEach [] X.env=[]:=by rfl): PI X (.Tuple elts kt tP) (.Call (.Name "enumerate" p) [a] [] pos) (Zj K b ta):=by
 subst hK;intro ao s O H R I h;refine Call_ (pI I hg hm PyProof.Rows.boot_enumerate (yC (aY (ha pos ao s O H _ I h) λus s1 ⟨vs,H1,I1,r1,q1⟩=>?_) (by rw[hs,j4]) (by rw[j4];rfl)));obtain⟨l,e,⟨xs,h1⟩,q⟩:=q1;subst e;obtain⟨u1,rfl,iW⟩:=vals1 r1;cases(show u1=Value.ref l from iW);obtain⟨FL,v1,p1⟩:=h1.get I1;refine a3r p1 λg zg ig kp=>wpAny_pyIter_enum zg ?_;refine⟨_,_,_,_,H1,Z,I1.kept (t':=s1.toks) kp,SI (yH (Nat.lt_succ_self _)),⟨⟨_,zg⟩,ig⟩,λc hc=>?_,q⟩;have hle:s1.heap.objs.size<=c:=by simp only[cR,fq,iO]at hc;rcases hc with rfl|rfl<;>first|exact bw _|exact Nat.le_add_right _ _
 exact I1.pY hle (I1.bj.fresh hle)
theorem uN{K:a8}{b:Bool}{a:Addr}{xs:List V}{g:TG}{tb:TS}{D:Ends}{O:St}{H:Hp}(Pv:Nat->St->Hp->Prop)(h0:Pv 0 O H)(hl:∀i O H,i<=xs.length->Pv i O H->eg b K H a xs) (hs:∀i x O H,xs[i]? =some x->Pv i O H->∀T H',Nw H H' T (.tup [.int i,x])->g (.ref T) O H' λσ2 H2=>tb {D with nx:=Pv (i+1),ct:=Pv (i+1),bk:=D.nx} σ2 H2)(hd:∀O H,Pv xs.length O H->D.nx O H): ∃W:Nat->Nat->St->Hp->Prop,(∃m,W 0 m O H)/\∀i m O H,W i m O H->((yi K b a).stop i H/\D.nx O H)\/((yi K b a).go i H/\∃N:St->Hp->Prop,(∀σ' H',N σ' H'->∃m',m'<m/\W (i+1) m' σ' H')/\∀x H',(yi K b a).iq i H x H'->g x O H' λσ2 H2=>tb {D with nx:=N,ct:=N,bk:=D.nx} σ2 H2):=by
 refine⟨λi m O H=>m=xs.length-i/\i<=xs.length/\Pv i O H,⟨xs.length,by simp,eK _,h0⟩,?_⟩;rintro i m O H ⟨rfl,hi,p⟩;have q:=hl i O H hi p;by_cases bQ:i<xs.length
 ·refine .inr ⟨⟨xs,xs[i],q,by simp[bQ]⟩,Pv (i+1),λσ' H' p'=>⟨xs.length-(i+1),aq,Z,bQ,p'⟩,λx H' y=>?_⟩
  obtain⟨T,z,rfl,ez,nw⟩:=y;exact hs i z O H (ez xs q) p T H' nw
 ·have e:i=xs.length:=by lia
  subst e;exact .inl ⟨⟨xs,q,Z⟩,hd O H p⟩
theorem OM{K:a8}{b1 b2:Bool}{a1 a2:Addr}{xs ys:List V}{g:TG}{tb:TS}{D:Ends}{O:St}{H:Hp}(n:Nat)(hn:n=min xs.length ys.length)(Pv:Nat->St->Hp->Prop)(h0:Pv 0 O H)(hl:∀i O H,i<=n->Pv i O H->eg b1 K H a1 xs/\eg b2 K H a2 ys) (hs:∀i x y O H,xs[i]? =some x->ys[i]? =some y->Pv i O H->∀T H',Nw H H' T (.tup [x,y])->g (.ref T) O H' λσ2 H2=>tb {D with nx:=Pv (i+1),ct:=Pv (i+1),bk:=D.nx} σ2 H2)(hd:∀O H,Pv n O H->D.nx O H): ∃W:Nat->Nat->St->Hp->Prop,(∃m,W 0 m O H)/\∀i m O H,W i m O H->((sY K b1 b2 a1 a2).stop i H/\D.nx O H)\/((sY K b1 b2 a1 a2).go i H/\∃N:St->Hp->Prop,(∀σ' H',N σ' H'->∃m',m'<m/\W (i+1) m' σ' H')/\∀x H',(sY K b1 b2 a1 a2).iq i H x H'->g x O H' λσ2 H2=>tb {D with nx:=N,ct:=N,bk:=D.nx} σ2 H2):=by
 refine⟨λi m O H=>m=n-i/\i<=n/\Pv i O H,⟨n,by simp,eK _,h0⟩,?_⟩;rintro i m O H ⟨rfl,hi,p⟩;obtain⟨q1,q2⟩:=hl i O H hi p;by_cases bQ:i<n
 ·have l1:i<xs.length:=by lia
  have l2:i<ys.length:=by lia
  refine .inr ⟨⟨xs,ys,xs[i],ys[i],q1,q2,by simp[l1],by simp[l2]⟩,Pv (i+1),λσ' H' p'=>⟨n-(i+1),aq,Z,bQ,p'⟩,λx H' y=>?_⟩;obtain⟨T,z1,z2,rfl,e1,e2,nw⟩:=y;exact hs i z1 z2 O H (e1 xs q1) (e2 ys q2) p T H' nw
 ·have e:i=n:=by lia
  subst e;exact .inl ⟨⟨xs,ys,q1,q2,aq⟩,hd O H p⟩
section
variable {X:Cx}
end
set_option maxHeartbeats 1000000 in
theorem EN{X:Cx}{N:List Str}{js:List (Option Nat)}{elt tg iter:Expr}{ifs:List Expr}{scope:Scope}{pos:Pos}{wi:TI}{g:TG}{tt:TT}{te:TE}{i0:Nat}{x0:Str}{ud JG:Pos}(hNd:X.N.Nodup)(uB:X.N[i0]? =some x0)(Ag:Loc X.env.scope x0)(hc:X.calm=true)(hN:xW X N js scope=true)(hS:qq X scope=true) (hi:PI X tg iter wi)(hg:∀cl s H fp ao,PG (cI X N scope cl s H fp ao) tg g)(ht:∀cl s H fp ao,HS (cI X N scope cl s H fp ao) ifs tt)(he:∀cl s H fp ao,PE (cI X N scope cl s H fp ao) elt te) (Zv:swapsWith (.ListComp elt [⟨tg,iter,ifs,0⟩] scope pos) (some (.Name x0 ud)) JG.line X.env=pure true:=by rfl)(hf0:X.fn x0=true\/X.env.scope.names.lookup x0=some .local:=by first|exact .inl rfl|exact .inr rfl) (hs:∀x,foldedSetIterable iter X.env x=pure x:=by intro _;rfl):PS X (.Assign [.Name x0 ud] (.ListComp elt [⟨tg,iter,ifs,0⟩] scope pos) JG) (zj (Jo js wi g tt te) (gk i0)):=by
 intro ao s O H D0 I h;have lJ:=hS;unfold qq at lJ;rw[f9,f9]at lJ;obtain⟨⟨k1,k2⟩,k3⟩:=lJ;have jA:scope.kind= .function:=eU.mp k1;have pU:∀x∈scope.names,x.2= .free->∃c,X.env.cells.lookup x.1=some c:=λx hx e=>by have:=fD.mp k3 x hx;rw[e]at this;exact I.ok.has x.1 (.inl (eU.mp this))
 have mL:∀x∈scope.names,x.2≠ .cell:=λx hx e=>by have:=fD.mp k3 x hx;rw[e]at this;exact gM this
 have xf:∀x∈scope.names,x.2= .local->scope.names.lookup x.1=some .local:=λx hx e=>by have:=fD.mp k3 x hx;rw[e]at this;exact eU.mp this
 obtain⟨cl,xq,c1,c2⟩:=Hm pU;rw[exec_Assign_Name_used _ _ _ _ Zv];refine aF (nh (aF ?_));show wpAny _ X.A (do let _<-comprehension (.ListComp elt [⟨tg,iter,ifs,0⟩] scope pos) scope X.env _ (newList []) false (eval iter X.env) (some (assign (.Name x0 ud) X.env))) _ _ s;refine aF (eJ (Rx (use:=some (assign (.Name x0 ud) X.env)) (Q:=λ_ s'=>SP X ao D0 .next s') Z hs xq jA xf (aY (hi ao s O H _ I h) λv s1 h1=>aY h1 λwU s2 h2=>?_)) (λ_ s' hq=>bH (bH hq)) λ_ _ e=>e);obtain⟨it,fp,tn,J,H2,e,I2,T,md,f2,h2⟩:=h2;subst e;have hD:H2 s2.heap.objs.size=none:=I2.bj.fresh (bw _);obtain⟨W,⟨m0,w0⟩,turn⟩:=h2 _ _ (Nw.of hD);refine nj (Rw mL (by intro y hy;simp at hy) (λh₁ pO pN=>?_) jA);have lO:∀b∈fp,b<s2.heap.objs.size:=λb hb=>by obtain⟨o,e,_⟩:=T.obj _ _ md b hb;exact cn e
 have I3:Inv X ao O (upd H2 s2.heap.objs.size (.lst [])) {s2 with heap:=s2.heap.push {cls:=.type "list",dict:=none,data:=.seq ([]:List Value).toArray}}:=I2.zZ (its:=[]) (t':=s2.toks) .nil (eK _);generalize pW:s2.heap.push {cls:=.type "list",dict:=none,data:=.seq ([]:List Value).toArray}=h3 at I3 pO pN;have oY:h3.objs.size=s2.heap.objs.size+1:=by rw[<-pW,qK]
 have wR:∀b o,s2.heap.get? b=some o->h3.get? b=some o:=λb o e=>by rw[<-pW];exact cw _ e
 have f3:∀b∈fp,iM X ao (upd H2 s2.heap.objs.size (.lst [])) b:=λb hb=>⟨by rw[bL (dW (lO b hb))];exact(f2 b hb).1,(f2 b hb).2⟩;have pL:∀b o,h3.get? b=some o->h₁.get? b=some o:=λb o e=>(pN.2 b (dW (cn e))).trans (cw _ e);have I4:Inv (cI X N scope cl {s2 with heap:=h3} (upd H2 s2.heap.objs.size (.lst [])) fp ao) [] (stC js O) (upd H2 s2.heap.objs.size (.lst [])) {s2 with heap:=h₁,toks:=s2.toks+([]:List (Str×Value)).length}:=I3.comp (s:={s2 with heap:=h3}) hN hS c1 c2 f3 (λb hb=>by show b<h3.objs.size;rw[oY];exact yI (lO b hb)) (by simpa using pO) pL;have oZ:tn 0 h₁:=T.keep _ _ _ md λb _ o e=>pL b o (wR b o e);have loop:codeAny (model X.prog X.w) X.A (.compLoop (.ListComp elt [⟨tg,iter,ifs,0⟩] scope pos) 0 (.ref it) (.ref s2.heap.objs.size) (compEnvC scope cl h3.objs.size X.env)) (compPost (model X.prog X.w) X.A X.xe (some (assign (.Name x0 ud) X.env)) (λ_ s'=>SP X ao D0 .next s') (.ref s2.heap.objs.size) h3.objs.size) {s2 with heap:=h₁,toks:=s2.toks+([]:List (Str×Value)).length}:=by
  refine Q3 (λn s'=>∃i σ' H',Inv (cI X N scope cl {s2 with heap:=h3} (upd H2 s2.heap.objs.size (.lst [])) fp ao) [] σ' H' s'/\tn i s'.heap/\(∀b∈fp,H' b=none)/\W i n σ' H') ?_ m0 ⟨0,_,_,I4,oZ,λb hb=>(f3 b hb).1,w0⟩;rintro n s5 ⟨i,σ5,H5,I5,ky,mP,w5⟩;have iR:∀{H':Hp},(∀b∈fp,H' b=none)->∀b∈fp,iM (cI X N scope cl {s2 with heap:=h3} (upd H2 s2.heap.objs.size (.lst [])) fp ao) [] H' b:=λ{H'} hn b hb=>by
   obtain⟨_,q1,q2,q3,q4,q5⟩:=f3 b hb;refine⟨hn b hb,λz=>?_,I4.ok.mQ b hb,.inl hb,λx c e=>q4 x c (c1 x c e),λp hp=>q5 p (by simpa[cI]using hp)⟩;have bQ:b<h3.objs.size:=by rw[oY];exact yI (lO b hb)
   exact dW bQ z
  rcases turn i n σ5 H5 w5 with⟨stop,qn⟩|⟨go,step⟩
  ·refine aY (T.done (cI X N scope cl {s2 with heap:=h3} (upd H2 s2.heap.objs.size (.lst [])) fp ao) rfl rfl rfl hc i [] s5 σ5 H5 _ I5 (iR mP) ky stop) λr s6 ⟨hr,I6⟩=>?_
   subst hr;obtain⟨m,hm,_⟩:=I6.loc;have u0:Un (eS X.stack) fp (upd H2 s2.heap.objs.size (.lst [])) H5 h3 s6.heap:=I6.az;have I7:Inv X ao O H5 s6:=I3.xX (s':=s6) (ch:=fp) I6.os u0 I6.bj I6.bare λb hb=>⟨(f3 b hb).2.2.2.1,(f3 b hb).2.1,(f3 b hb).2.2.2.2.1,(f3 b hb).2.2.2.2.2⟩;have hC:iM X ao H5 h3.objs.size:=I3.pY (bw _) I6.free;show wpAny _ X.A (assign (.Name x0 ud) X.env (.ref s2.heap.objs.size)) _ _ s6;refine wpAny_assign_Name (Jz I7 hNd uB Ag (show RelV (.ref s2.heap.objs.size) (.ref s2.heap.objs.size)from Z) (λs8 I8 Zz=>?_) hf0);obtain⟨a,sb,ha⟩:=Zz;have hCa:h3.objs.size≠a:=by
    rcases ha with rfl|ha
    ·exact hC.2.1
    ·exact λz=>hC.2.2.2.2.1 x0 a ha z.symm
   refine⟨m,hm.sameBut sb hCa,λh9 ZA=>⟨_,H5,?_,qn⟩⟩;exact I8.vC (t':=s8.toks) (fp:=[h3.objs.size]) (λb o hb e=>ZA.extBut b o (λz=>hb (by simp[z])) e) λb hb=>by rw[kS.mp hb];exact hC
  ·refine aY (T.item (cI X N scope cl {s2 with heap:=h3} (upd H2 s2.heap.objs.size (.lst [])) fp ao) rfl rfl rfl hc i [] s5 σ5 H5 _ I5 (iR mP) ky go) λr s6 ⟨u,hr,h6⟩=>?_
   subst hr;refine aY h6 λ_ s7 ⟨x,H7,I7,r7,y7,kW,xF⟩=>?_;have yk:=I7.pinned (iR xF) (T.obj _ _ kW);refine aY (hg _ _ _ _ _ _ s7 σ5 H7 x u _ yk r7 (step x H7 y7)) λ_ s8 ⟨σ8,H8,I8,q8⟩=>?_;refine aY (ht _ _ _ _ _ _ s8 σ8 H8 _ I8 q8) λok s9 ⟨H9,I9,q9⟩=>?_;have again:∀{s':af}{σ7:St}{H7:Hp},Inv (cI X N scope cl {s2 with heap:=h3} (upd H2 s2.heap.objs.size (.lst [])) fp ao) ([]++nO fp s7.heap) σ7 H7 s'->(∃m',m'<n/\W (i+1) m' σ7 H7)->∃m,m<n/\∃i σ' H',Inv (cI X N scope cl {s2 with heap:=h3} (upd H2 s2.heap.objs.size (.lst [])) fp ao) [] σ' H' s'/\tn i s'.heap/\(∀b∈fp,H' b=none)/\W i m σ' H':=λ{s' σ7 H7} J7 n7=>by obtain⟨m',hm,w7⟩:=n7;refine⟨m',hm,i+1,σ7,H7,J7.qN,T.keep _ _ _ kW λb hb o e=>(J7.pin (b,o) (gr _ (gr _ (mx hb e)))).1,λb hb=>?_,w7⟩;obtain⟨o,e,d⟩:=T.obj _ _ kW b hb;exact(J7.pin (b,o) (gr _ (gr _ (mx hb e)))).2.1
   cases ok with |false=>rw[bf gM]at q9⊢;exact again I9 q9 |true=>rw[aX rfl]at q9⊢;refine aY (he _ _ _ _ _ _ s9 σ8 H9 _ I9 q9) λyv gh ⟨y,fK,qB,EJ,ys,gW,hz,tN⟩=>?_;refine aY (zT _ gh σ8 fK (.ref s2.heap.objs.size) [y] (.ref s2.heap.objs.size) [yv] (λ_ gq=>∃m',m'<n/\W (i+1) m' σ8 gq) qB Z (.cons EJ .nil) ⟨_,ys,y,Z,Z,gW,hz,tN⟩) λ_ iu ⟨v11,gq,vf,Vk,we⟩=>?_;exact again vf we
 exact Ry loop (T.self _ 0 _ _ _ oZ loop)
theorem nc.a3U{X:Cx}{st:Stmt}{rest:List Stmt}{t u:TS}(h1:QS X st t)(h2:gn X rest u):nc X (st::rest) (vG t u):=by intro s O H D I h;refine Ih (aY (h1 s O H {D with nx:=u D} I h) λf s1 q=>?_);cases f with |next=>obtain⟨σ',H',I',q⟩:=q;exact h2 [] s1 σ' H' D I' q |ret v=>exact q |brk=>exact q |cont=>exact q
theorem Q9:∀{zs:List Str}{us:List Value},Vals (zs.map V.str) us->CarriedAll us (zs.map PyData.str) |[],_,.nil=>.nil |z::zs,_,.cons q r=>by obtain⟨t,rfl⟩:=(show∃t,_=Value.str z t from q);exact .cons (.str z t) (Q9 r)
section
variable {X:Cx}
inductive a6K(K:a8)(x:V)(vs:List V)(H:Hp)(Q:VK):Prop |mk (sep:Str)(l:Addr)(zs:List Str)(h0:x= .str sep)(h1:vs=[.ref l])(h2:aK K H l (zs.map V.str))(h3:(∀z∈zs,z.length<=8))(h4:sep.length<=8)(h5:zs.length<=1000)(h6:Q (.str (Txt.join sep zs)) H)
def rJoin(K:a8):V->List V->Hp->VK->Prop:=λx vs H Q=>a6K K x vs H Q
theorem Yc(K:a8)(hK:X.K=K):QW X "str.join" (rJoin K):=by subst hK;intro ao s O H x vs v us Q I rx rv h;obtain⟨sep,l,zs,rfl,rfl,hl,hz,hs,hn,q⟩:=h;obtain⟨t,rfl⟩:=rx;obtain⟨u,rfl,ru⟩:=vals1 rv;cases(show u=Value.ref l from ru);obtain⟨its,r,pl,_⟩:=I.list hl;refine join_madeW (l:=zs) (g:=id) 8 pl.isList (by rw[List.map_id];exact Q9 r) (λa ha=>hz a ha) aq aq λt' k=>?_;rw[List.map_id];exact⟨.str _,H,I.tok _,⟨_,Z⟩,q⟩
theorem VS(K:a8)(h:X.K=K){o e:Expr}{to:TE}{t:TA}{apos dR:Pos}(ho:PE X o to)(ha:PA X [e] t) (si:attributeBase o "join" X.env (eval o X.env)=eval o X.env:=by rfl) (rY:((backTo dR (starEach [e] X.env)).all (λx=>!x.1)&&(backToKw dR (keywordEach [] X.env)).all (λx=>x.1.isSome) &&decide ([e].length+([]:List Keyword).length+(if([]:List Keyword).isEmpty then 0 else 1)<30))=true:=by rfl) (rT:(apos.endLine==dR.line)=true:=by rfl)(hs:starEach [e] X.env=(false,eval e X.env)::starEach [] X.env:=by rfl)(rO:(backTo dR (starEach [] X.env)).any (·.1)=false:=by rfl): PE X (.Call (.Attribute o "join" apos) [e] [] dR) (zh K "str" (rJoin K) to t):=by subst h;exact EV PySem.F.plainAttrs_str PySem.F.slot_str_join PySem.F.type_str_join (Yc X.K rfl) ho ha si rY rT hs rO
end
section
variable {X:Cx}{ao:List (Addr×Obj)}{O:St}{H:Hp}{s:af}
end
section
variable {X:Cx}
theorem a4g:eH X (.type "range") (λxs H Q=>∃n,xs=[.int n]/\∀p H',Nw H H' p (.qW 0 n)->Q (.ref p) H'):=by intro ao s O H xs us Q I r h;obtain⟨n,rfl,q⟩:=h;obtain⟨u,rfl,t,rfl⟩:=vals1 r;refine call_range_1 ?_;have hf:H s.heap.objs.size=none:=I.bj.fresh (bw _);refine⟨.ref s.heap.objs.size,upd H s.heap.objs.size (.qW 0 n),I.laid (t':=s.toks+1+1) (λb u e=>cw _ e) (bw _) ?_,Z,q _ _ (.of hf)⟩;exact⟨_,_,_,eu _ Z⟩
end
theorem TN:isSubtype (.type "range_iterator") (.type "reversed")=pure false:=by rw[isSubtype_type];kernel_rfl
section
variable {prog:ag}{w:World}{A:ai}{E:Value->af->Prop}{s:af}
abbrev vZ(n:Nat):Obj:={cls:=.type "range_iterator",data:=.fields #[rawInt (0+((n:Int)-1)*1),rawInt (n:Int),rawInt (-1)]}
abbrev Eg(n:Nat):Bool:=Builtin.Range.rangeFitsLong 0&&Builtin.Range.rangeFitsLong n&&Builtin.Range.rangeFitsLong 1&&Builtin.Range.rangeFitsLong (-1)&&Builtin.Range.rangeFitsLong (0-1)&&Builtin.Range.rangeFitsLong (Builtin.Range.rangeSize 0 n 1)
theorem LW{n:Nat}(h:n<2^62):Eg n=true:=by unfold Eg;rw[rangeSize_one];simp only[Builtin.Range.rangeFitsLong,f9,Ij];split<;>lia
theorem UX(r:Addr)(a b c:Int)(t u v:Tok)(hc0:¬(!(Builtin.Range.rangeFitsLong a&&Builtin.Range.rangeFitsLong b&&Builtin.Range.rangeFitsLong c&&Builtin.Range.rangeFitsLong (-c)&&Builtin.Range.rangeFitsLong (a-c)&&Builtin.Range.rangeFitsLong (Builtin.Range.rangeSize a b c)))=true):Meets (Builtin.«range.__reversed__» ⟨[.ref r],[]⟩) (λ_ R s=>s.heap.get? r=some {cls:=.type "range",dict:=none,data:=.fields #[.int a t,.int b u,.int c v],slots:=#[]}/\R (.ok (.ret (.ref s.heap.objs.size))) {s with heap:=s.heap.push {cls:=.type (if(Builtin.Range.rangeFitsLong a&&Builtin.Range.rangeFitsLong b&&Builtin.Range.rangeFitsLong c&&Builtin.Range.rangeFitsLong (-c)&&Builtin.Range.rangeFitsLong (a-c)&&Builtin.Range.rangeFitsLong (Builtin.Range.rangeSize a b c))=true then "range_iterator" else "longrange_iterator"),data:=.fields #[rawInt (a+(Builtin.Range.rangeSize a b c-1)*c),rawInt (Builtin.Range.rangeSize a b c),rawInt (-c)]},toks:=s.toks}):=.of_wp λprog w A R s h=>by
 obtain⟨hp,g,d,tk,os⟩:=s;obtain⟨hl,h⟩:=h
 wp_walk;exact⟨_,Z,h⟩
theorem a4e{l:Addr}{n:Nat}{t u v:Tok}{Q:Value->af->Prop}(hn:n<2^62)(hl:s.heap.get? l=some {cls:=.type "range",data:=.fields #[.int 0 t,.int n u,.int 1 v]}) (h:Q (.ref s.heap.objs.size) {s with heap:=s.heap.push (vZ n)}):wpAny (model prog w) A (call (.builtin "range.__reversed__") [.ref l]) Q E s:=by
 have hT:s.TypeIs (.ref l) "range":=⟨_,hl,Z⟩;refine call_meets S4 hT F.entry_range_reversed (F.args_range_reversed_1 _) (UX l 0 n 1 t u v (by have:=LW hn;unfold Eg at this;rw[this];decide)) ⟨hl,?_⟩;rw[aX (LW hn)];have e:Builtin.Range.rangeSize 0 n 1=n:=by rw[rangeSize_one];split<;>lia
 rw[e];exact h
theorem a44{l:Addr}{n:Nat}{t u v:Tok}{Q₁:Value->af->Prop}(hn:n<2^62)(hl:s.heap.get? l=some {cls:=.type "range",data:=.fields #[.int 0 t,.int n u,.int 1 v]}) (h:Q₁ (.ref s.heap.objs.size) {s with heap:=s.heap.push (vZ n)}): codeAny (model prog w) A (.call (.builtin "reversed.__new__") ⟨[.type "reversed",.ref l],[]⟩) (wants Q₁ E) s:=by
 have hT:s.TypeIs (.ref l) "range":=⟨_,hl,Z⟩;refine codeAny_of_tree ?_;show wpAny _ A.in1 (do checkBuiltinCall "reversed.__new__" ⟨[.type "reversed",.ref l],[]⟩;again (.builtin "reversed.__new__" ⟨[.type "reversed",.ref l],[]⟩)) _ _ s;refine aF (vh (F.newCall_reversed_1 _) (bH ⟨plainId_quiet F.plain_reversed_new _,codeAny_builtin F.entry_reversed_new ?_⟩));rw[Around.under_plainId F.plain_reversed_new _];unfold Builtin.«reversed.__new__»;refine aF (vh (newClass_reversed _) ?_)
 try dsimp only
 refine aF (vh (a:=()) (by first|rfl|kernel_rfl) ?_);refine aF (vh (a:=()) (by first|rfl|kernel_rfl) ?_)
 try dsimp only
 refine aF (wpAny_specialOf hT S4.lookup ?_)
 try dsimp only
 refine aF (vh (S4.bind _) ?_)
 try dsimp only
 first |rw[bf (show¬((Value.builtin "range.__reversed__"==Value.none)=true)from gM)] |(show wpAny _ _ (if(Value.builtin "range.__reversed__"==Value.none)=true then _ else _) _ _ _;rw[bf (show¬((Value.builtin "range.__reversed__"==Value.none)=true)from gM)])
 refine aF (yu ?_);refine aF (m:=runValue (.call (.builtin "range.__reversed__") ⟨[.ref l],[]⟩)) (show wpAny _ _ (call (.builtin "range.__reversed__") [.ref l]) _ _ _ from a4e hn hl ?_)
 first |exact bH h |exact aF (bH (bH h))
theorem a4f{l:Addr}{n:Nat}{t u v:Tok}{Q:Value->af->Prop}(hn:n<2^62)(hl:s.heap.get? l=some {cls:=.type "range",data:=.fields #[.int 0 t,.int n u,.int 1 v]}) (h:Q (.ref s.heap.objs.size) {s with heap:=s.heap.push (vZ n)}):wpAny (model prog w) A (call (.type "reversed") [.ref l]) Q E s:=by refine callType_other (U:="range_iterator") (Q₁:=λobj s₁=>obj= .ref s.heap.objs.size/\s₁={s with heap:=s.heap.push (vZ n)}) aP F.create_reversed ⟨_,_,F.mro_reversed⟩ F.made_reversed TN (F.typeCall_reversed_1 _) (a44 hn hl ⟨Z,Z⟩) ?_;rintro obj s₁ ⟨rfl,rfl⟩;exact⟨⟨_,eu _ Z,Z⟩,h⟩
end
def yh(n:Nat):It:=⟨λi _=>i<n,λi H x H'=>H'=H/\x= .int ((n:Int)-1-i),λi _=>n<=i⟩
theorem SE{P:ag}{w:World}{K:a8}{tg:Expr}(it:Addr)(n:Nat):Turn P w K tg (yh n) [it] it (λi h=>IsRangeIter h it ((0+((n:Int)-1)*1)+(i:Nat)*(-1)) ((n:Int)-(i:Nat)) (-1)) where
 mem:=by simp
 obj:=λi h st b hb=>by
  have e:b=it:=by simpa using hb
  subst e;exact⟨_,st,λv z=>by have z':Data.fields _=Data.cell v:=z;cases z'⟩
 keep:=λi h h' st k=>k it (by simp) _ st
 item:=by
  intro X hP hw hK hc i ao s O H E I hf st hg;subst hP hw hK;obtain⟨f0,f1,f2,f3,f4,f5⟩:=hf it (by simp);have W:=Walks.range (prog:=X.prog) (w:=X.w) (I.ok.hd hc) it (0+((n:Int)-1)*1) (-1) n;refine W.item i s _ _ hg st λv h' tk hv gO kk=>?_;obtain⟨t,rfl⟩:=hv;have I1:Inv X ao O H {s with heap:=h',toks:=tk}:=I.turned (λb o hb e=>kk b o (by simpa using hb) e) f0 f1 f3 f4 f5;refine⟨_,Z,xC (s:={s with heap:=h',toks:=tk}) (n:="range_iterator") gO rfl rfl au ⟨.int ((n:Int)-1-i),H,I1,⟨t,?_⟩,⟨Z,Z⟩,gO,λb hb=>(hf b hb).1⟩⟩;have e:(0+((n:Int)-1)*1)+(i:Int)*(-1)=(n:Int)-1-i:=by lia
  rw[e]
 done:=by intro X hP hw hK hc i ao s O H E I hf st hg;subst hP hw hK;obtain⟨f0,f1,f2,f3,f4,f5⟩:=hf it (by simp);exact wpAny_pyNext_range_end (I.ok.hd hc) st (by have:n<=i:=hg;lia) λh' eb=>⟨Z,I.turned (t':=s.toks) (λb o hb e=>eb b o hb e) f0 f1 f3 f4 f5⟩
 self:=λ_ _ _ _ _ st h=>Rp st h
inductive a76(R:It->Hp->Prop)(vs:List V)(H1:Hp):Prop |mk (p:_)(n:_)(h0:vs=[.ref p])(h1:H1 p=some (.qW 0 n))(h2:0<=n)(h3:n<2^62)(h4:R (yh n.toNat) H1)
def Zi(ta:TA):TI:=λO H R=>ta O H λvs H1=>a76 R vs H1
theorem VF{X:Cx}{tg:Expr}{a:Expr}{ta:TA}{p pos:Pos}(hg:Gl X "reversed")(hm:X.mg "reversed"=none)(ha:PA X [a] ta)(hs:starEach [a] X.env=[(false,eval a X.env)]:=by rfl)(j4:starEach [] X.env=[]:=by rfl): PI X tg (.Call (.Name "reversed" p) [a] [] pos) (Zi ta):=by
 intro ao s O H R I h;refine Call_ (pI I hg hm PyProof.Rows.boot_reversed (yC (aY (ha pos ao s O H _ I h) λus s1 ⟨vs,H1,I1,r1,q1⟩=>?_) (by rw[hs,j4]) (by rw[j4];rfl)));obtain⟨l,n,e,hl,n0,n1,q⟩:=q1;subst e;obtain⟨u1,rfl,iW⟩:=vals1 r1;cases(show u1=Value.ref l from iW);obtain⟨t,u,v,e⟩:∃t u v,s1.heap.get? l=some {cls:=.type "range",data:=.fields #[.int 0 t,.int n u,.int 1 v]}:=I1.bj l _ hl;obtain⟨m,rfl⟩:∃m:Nat,n=m:=⟨n.toNat,aq⟩;refine a4f aq e ?_;have hit:IsRangeIter (s1.heap.push (vZ m)) s1.heap.objs.size ((0+((m:Int)-1)*1)+((0:Nat):Int)*(-1)) ((m:Int)-((0:Nat):Int)) (-1):=by
  have e1:(0+((m:Int)-1)*1)+((0:Nat):Int)*(-1)=0+((m:Int)-1)*1:=by lia
  have e2:(m:Int)-((0:Nat):Int)=m:=by lia
  rw[e1,e2];exact eu _ rfl
 refine Rp hit ?_;refine⟨s1.heap.objs.size,[s1.heap.objs.size],_,_,H1,Z,I1.kept (t':=s1.toks) λb o e=>cw _ e,SE _ m,hit,λb hb=>?_,q⟩;have e:b=s1.heap.objs.size:=by simpa using hb
 subst e;exact I1.pY (bw _) (I1.bj.fresh (bw _))
theorem a1Q{n:Nat}{g:TG}{tb:TS}{D:Ends}{O:St}{H:Hp}(Pv:Nat->St->Hp->Prop)(h0:Pv 0 O H) (hs:∀i O H,i<n->Pv i O H->g (.int ((n:Int)-1-i)) O H λσ2 H2=>tb {D with nx:=Pv (i+1),ct:=Pv (i+1),bk:=D.nx} σ2 H2)(hd:∀O H,Pv n O H->D.nx O H): ∃W:Nat->Nat->St->Hp->Prop,(∃m,W 0 m O H)/\∀i m O H,W i m O H->((yh n).stop i H/\D.nx O H)\/((yh n).go i H/\∃N:St->Hp->Prop,(∀σ' H',N σ' H'->∃m',m'<m/\W (i+1) m' σ' H')/\∀x H',(yh n).iq i H x H'->g x O H' λσ2 H2=>tb {D with nx:=N,ct:=N,bk:=D.nx} σ2 H2):=by
 refine⟨λi m O H=>m=n-i/\i<=n/\Pv i O H,⟨n,by simp,eK _,h0⟩,?_⟩;rintro i m O H ⟨rfl,hi,p⟩;by_cases bQ:i<n
 ·refine .inr ⟨bQ,Pv (i+1),λσ' H' q=>⟨n-(i+1),aq,Z,bQ,q⟩,λx H' hy=>?_⟩
  obtain⟨rfl,rfl⟩:=hy;exact hs i O _ bQ p
 ·have e:i=n:=by lia
  subst e;exact .inl ⟨bw _,hd O H p⟩
theorem Vp(K:a8){X:Cx}(hK:X.K=K){a:Expr}{ta:TE}(ha:PE X a ta)(he:∀whole,isTrue a X.env whole=(do let v<-whole;standAt a.pos;holding [v] (truthy v)):=by intro _;rfl): PT X a (λO H Q=>ta O H λx H'=>∃k,HL K x H' k/\Q k H'):=by subst hK;exact Vo ha he
end L2
namespace Cn
open Ln
def cN(ns ms:List Int):List Int:=(ns.zip ms).map λp=>p.1*(aL ms:Int)-p.2*(aL ns:Int)
theorem Yf{ns ms:List Int}{z:Int}(h:z∈cN ns ms):∃a b,a∈ns/\b∈ms/\z=a*(aL ms:Int)-b*(aL ns:Int):=by obtain⟨⟨a,b⟩,hp,rfl⟩:=eV.mp h;exact⟨a,b,(vp hp).1,(vp hp).2,Z⟩
theorem jS{a b:Int}{m n:Nat}(h:a.natAbs<=m)(g:b.natAbs<=n):(a*b).natAbs<=m*n:=by rw[gs];exact nk h g
theorem AY{ns ms:List Int}(h1:∀z∈ns,z.natAbs<=1000)(h2:∀z∈ms,z.natAbs<=1000):∀z∈cN ns ms,z.natAbs<=2000000:=λz hz=>by obtain⟨a,b,ha,hb,rfl⟩:=Yf hz;have l1:=mC h1;have l2:=mC h2;have e1:=jS (b:=(aL ms:Int)) (n:=1000) (h1 a ha) aH;have e2:=jS (b:=(aL ns:Int)) (n:=1000) (h2 b hb) aH;omega
def pT(zs:List Int)(i:Nat):Nat:=aL (zs.take i)
theorem Nx:∀(xs ys:List Int),aL (xs++ys)=max (aL xs) (aL ys) |[],ys=>by simp[aL] |x::xs,ys=>by show max x.natAbs (aL (xs++ys))=max (max x.natAbs (aL xs)) (aL ys);rw[Nx xs ys];lia
theorem a0f{zs:List Int}{i:Nat}{z:Int}(h:zs[i]? =some z):pT zs (i+1)=max (pT zs i) z.natAbs:=by
 unfold pT;rw[tx,h,Nx];show max _ (max z.natAbs 0)=_
 lia
def sT(r:Rat):Rat:=if r.num<0 then-r else r
theorem a51(r:Rat):(sT r).num=gK r.num:=by
 unfold sT gK;split
 ·rfl
 ·rfl
theorem a53(r:Rat):(sT r).den=r.den:=by
 unfold sT;split
 ·rfl
 ·rfl
theorem a3C{a b:Int}(hb:0<b):0<=(Rat.divInt a b).num↔0<=a:=by rw[Rat.num_nonneg,vk hb]
theorem a52{c L:Int}(hL:0<L):sT (Rat.divInt c L)=Rat.divInt (gK c) L:=by
 have h:=a3C (a:=c) hL;unfold sT gK;by_cases hc:c<0
 ·rw[aX hc,aX aq,Rat.neg_divInt]
 ·rw[bf hc,bf aq]
theorem a3D{a b L:Int}(hL:0<L):Rat.divInt a L<=Rat.divInt b L↔a<=b:=by
 rw[Rat.le_iff_sub_nonneg,RE _ _ aq aq,vk (fL hL hL),<-Int.sub_mul];constructor
 ·intro h
  have:=Int.nonneg_of_mul_nonneg_left h hL
  lia
 ·intro h
  exact jK aq aq
theorem PL{a b L:Int}(hL:0<L):Rat.divInt a L<Rat.divInt b L↔a<b:=by rw[<-Rat.not_le,a3D hL];lia
theorem TM{a b l1 l2:Int}(h1:0<l1)(h2:0<l2):Rat.divInt b l2-Rat.divInt a l1=Rat.divInt (b*l1-a*l2) (l1*l2):=by rw[RE _ _ aq aq,IV l2 l1]
theorem a3R{j p q h L:Int}(hp:p≠0)(hh:h≠0)(e:p*L=h*q):Rat.divInt (j*j*q*q) (p*p)=Rat.divInt ((j*L)^2) (h^2):=by
 rw[Rat.divInt_eq_divInt_iff (IT hp hp) (by rw[fu,fu,kU,kr];exact IT hh hh)];have e2:(p*L)*(p*L)=(h*q)*(h*q):=by rw[e]
 rw[fu,fu,kU,kr,fu,fu,kU,kr];have a1:j*j*q*q*(h*h)=(j*j)*((h*q)*(h*q)):=by ac_rfl
 have a2:j*L*(j*L)*(p*p)=(j*j)*((p*L)*(p*L)):=by ac_rfl
 rw[a1,a2,e2]
end Cn
namespace Pn
def mn(a b:Rat):Rat:=if b<a then b else a
theorem zU(a b:Rat):mn a b<=a:=by
 unfold mn;split
 ·next h=>exact BB h
 ·exact qG
theorem Fi(a b:Rat):mn a b<=b:=by
 unfold mn;split
 ·exact qG
 ·next h=>exact BA.mp h
theorem o8{a b c:Rat}(h1:c<=a)(h2:c<=b):c<=mn a b:=by unfold mn;split<;>assumption
theorem zV(a b:Rat):mn a b=a\/mn a b=b:=by
 unfold mn;split
 ·exact .inr rfl
 ·exact .inl rfl
theorem pF{a b c:Rat}(hc:c=a\/c=b)(h1:c<=a)(h2:c<=b):mn a b=c:=by
 rcases hc with rfl|rfl
 ·exact Rat.le_antisymm (zU _ _) (o8 h1 h2)
 ·exact Rat.le_antisymm (Fi _ _) (o8 h1 h2)
theorem NA{a b c:Rat}(h:a<=b)(hc:0<=c):a<=b+c:=qF h (by have:=(Rat.add_le_add_left (c:=b)).mpr hc;rwa [Rat.add_zero]at this)
section
variable (n:Nat)(own:Nat->Rat)(L:Nat->Option Nat)(r f:Int)
def Rz:Nat->Rat |0=>own 0 |i+1=>match L i with |some m=>mn (own (i+1)) (Rz i+((r*(m:Int):Int):Rat)) |none=>own (i+1)
def Pz(g:Nat->Rat):Nat->Rat |0=>g n |k+1=>match L (n-(k+1))with |some m=>mn (g (n-(k+1))) (Pz g k+((f*(m:Int):Int):Rat)) |none=>g (n-(k+1))
def fl(g:Nat->Rat)(i:Nat):Rat:=Pz n L f g (n-i)
def uf(i:Nat):Rat:=fl n L f (Rz own L r) i
end
section
variable {n:Nat}{own g:Nat->Rat}{L:Nat->Option Nat}{r f:Int}
theorem GC:fl n L f g n=g n:=by unfold fl;rw[BE];rfl
theorem GD{i m:Nat}(hi:i<n)(h:L i=some m):fl n L f g i=mn (g i) (fl n L f g (i+1)+((f*(m:Int):Int):Rat)):=by
 unfold fl;have e:n-i=(n-(i+1))+1:=by omega
 rw[e];show(match L (n-((n-(i+1))+1))with|some m=>_|none=>_)=_;have e2:n-((n-(i+1))+1)=i:=by omega
 rw[e2,h]
theorem GB{i:Nat}(hi:i<n)(h:L i=none):fl n L f g i=g i:=by
 unfold fl;have e:n-i=(n-(i+1))+1:=by lia
 rw[e];show(match L (n-((n-(i+1))+1))with|some m=>_|none=>_)=_;have e2:n-((n-(i+1))+1)=i:=by lia
 rw[e2,h]
theorem Vy:uf n own L r f n=Rz own L r n:=GC
theorem Vz{i m:Nat}(hi:i<n)(h:L i=some m):uf n own L r f i=mn (Rz own L r i) (uf n own L r f (i+1)+((f*(m:Int):Int):Rat)):=GD hi h
theorem Vx{i:Nat}(hi:i<n)(h:L i=none):uf n own L r f i=Rz own L r i:=GB hi h
theorem HQ{i m:Nat}(h:L i=some m):Rz own L r (i+1)=mn (own (i+1)) (Rz own L r i+((r*(m:Int):Int):Rat)):=by show(match L i with|some m=>_|none=>_)=_;rw[h]
theorem HP{i:Nat}(h:L i=none):Rz own L r (i+1)=own (i+1):=by show(match L i with|some m=>_|none=>_)=_;rw[h]
theorem N6{a:Int}{m:Nat}(h:0<=a):(0:Rat)<=((a*(m:Int):Int):Rat):=by have:((0:Int):Rat)<=((a*(m:Int):Int):Rat):=Rat.intCast_le_intCast.mpr (jK h aq);exact this
theorem Bi(hr:0<=r)(h0:∀i,i<=n->0<=own i):∀i,i<=n->0<=Rz own L r i |0,hi=>h0 0 hi |i+1,hi=>by cases h:L i with |none=>rw[HP h];exact h0 _ hi |some m=>rw[HQ h];exact o8 (h0 _ hi) (NA (Bi hr h0 i aq) (N6 hr))
theorem down{C:Nat->Prop}(hn:C n)(hs:∀i,i<n->C (i+1)->C i):∀i,i<=n->C i:=by
 have key:∀k,k<=n->C (n-k):=λk=>by induction k with |zero=>intro _;exact hn |succ k ih=>
  intro hk;refine hs _ aH ?_;have e:n-(k+1)+1=n-k:=by omega
  rw[e];exact ih aH
 intro i hi;have:=key (n-i) aH;have e:n-(n-i)=i:=by omega
 rwa [e]at this
theorem Mo(hr:0<=r)(hf:0<=f)(h0:∀i,i<=n->0<=own i):∀i,i<=n->0<=uf n own L r f i:=by
 refine down ?_ λi hi ih=>?_
 ·rw[Vy];exact Bi hr h0 n (bw _)
 ·cases h:L i with |none=>rw[Vx hi h];exact Bi hr h0 i aq |some m=>rw[Vz hi h];exact o8 (Bi hr h0 i aq) (NA ih (N6 hf))
end
open Rt
theorem mr{n:Nat}{a b:Rat}(h1:Bd n a)(h2:Bd n b):Bd n (mn a b):=by rcases zV a b with e|e<;>rw[e]<;>assumption
theorem iK{n:Nat}{q:Rat}{z:Int}(h:Bd n q)(hz:z.natAbs<2^24):Bd (n+25) (q+(z:Rat)):=by have b:Bd 24 (z:Rat):=⟨hz,by show 1<2^24;decide⟩;exact(h.add b).mono aq
theorem Bj{b:Nat}{own:Nat->Rat}{L:Nat->Option Nat}{r:Int}(ho:∀i,Bd b (own i))(hL:∀i m,L i=some m->(r*(m:Int)).natAbs<2^24):∀i,Bd (b+25*i) (Rz own L r i) |0=>ho 0 |i+1=>by cases h:L i with |none=>rw[HP h];exact(ho _).mono aq |some m=>rw[HQ h];exact mr ((ho _).mono aq) ((iK (Bj ho hL i) (hL i m h)).mono aq)
theorem OP{n b:Nat}{g:Nat->Rat}{L:Nat->Option Nat}{f:Int}(ho:∀i,i<=n->Bd b (g i))(hL:∀i m,L i=some m->(f*(m:Int)).natAbs<2^24):∀i,i<=n->Bd (b+25*(n-i)) (fl n L f g i):=by
 refine down ?_ λi hi ih=>?_
 ·rw[GC];exact(ho n (bw _)).mono aq
 ·cases h:L i with |none=>rw[GB hi h];exact(ho i aq).mono aq |some m=>rw[GD hi h];exact mr ((ho i aq).mono aq) ((iK ih (hL i m h)).mono aq)
def lst(n:Nat)(g:Nat->Rat):List Rat:=(List.range (n+1)).map g
theorem pG(n:Nat)(g:Nat->Rat):(lst n g).length=n+1:=by simp[lst]
theorem o5{n:Nat}(g:Nat->Rat){i:Nat}(h:i<=n):(lst n g)[i]? =some (g i):=by unfold lst;rw[bU,bG (by simp;lia),vv];rfl
theorem Ng{n:Nat}{g g':Nat->Rat}{i:Nat}(h:∀k,k<=n->k≠i->g' k=g k):(lst n g).set i (g' i)=lst n g':=by
 apply vx;intro k;by_cases hk:k<=n
 ·rw[o5 g' hk,List.getElem?_set]
  by_cases e:i=k
  ·subst e;rw[aX rfl,aX (by rw[pG];lia)]
  ·rw[bf e,o5 g hk,h k hk (λz=>e z.symm)]
 ·rw[jJ (by rw[tE,pG];lia),jJ (by rw[pG];lia)]
theorem uu{n:Nat}{g g':Nat->Rat}(h:∀k,k<=n->g' k=g k):lst n g=lst n g':=by
 apply vx;intro k;by_cases hk:k<=n
 ·rw[o5 g hk,o5 g' hk,h k hk]
 ·rw[jJ (by rw[pG];lia),jJ (by rw[pG];lia)]
end Pn
namespace Ow
open Pn Cn Ln Rt
abbrev Itm:=Option (List Int × Int)
def topR(rate sp:Int):Rat:=Rat.divInt ((sp*rate)^2) 10000
def cornO(j:Int)(ns ms:List Int):Option Rat:=if aL (cN ns ms)=0 then none else some (Rat.divInt ((j*aL ns*aL ms)^2) ((aL (cN ns ms):Int)^2))
def mnO(a:Rat):Option Rat->Rat |none=>a |some c=>mn a c
def betR(j rate:Int):Itm->Itm->Rat |some (ns,sp),some (ms,sq)=>mnO (mn (topR rate sp) (topR rate sq)) (cornO j ns ms) |_,_=>0
def atO(os:List Itm)(i:Nat):Itm:=(os[i]?).join
def ownF(j rate:Int)(os:List Itm):Nat->Rat |0=>0 |i+1=>betR j rate (atO os i) (atO os (i+1))
def leadF(os:List Itm)(i:Nat):Option Nat:=(atO os i).map λq=>aL q.1
def ownL(j rate:Int)(os:List Itm):List Rat:=(List.range (os.length+1)).map (ownF j rate os)
theorem sR{os:List Itm}{i:Nat}{o:Itm}(h:os[i]? =some o):atO os i=o:=by unfold atO;rw[h];rfl
theorem Qz{os:List Itm}{i:Nat}(h:os.length<=i):atO os i=none:=by unfold atO;rw[jJ h];rfl
theorem Hv(j rate:Int)(o:Itm):betR j rate o none=0:=by unfold betR;split<;>simp_all
theorem a4x(j rate:Int)(o:Itm):betR j rate none o=0:=by unfold betR;split<;>simp_all
theorem MB(j rate:Int)(os:List Itm):∀n,n=os.length->ownF j rate os n=0 |0,_=>rfl |n+1,h=>by show betR j rate (atO os n) (atO os (n+1))=0;rw[Qz (i:=n+1) aq];exact Hv _ _ _
theorem Mx(j rate:Int)(os:List Itm):(ownL j rate os).length=os.length+1:=by simp[ownL]
theorem My(j rate:Int)(os:List Itm){i:Nat}(h:i<=os.length):(ownL j rate os)[i]? =some (ownF j rate os i):=by unfold ownL;rw[bU,bG (by simp;lia),vv];rfl
theorem VX(j rate:Int){os:List Itm}(h:os≠[]):ownL j rate os=[0]++(List.range (os.length-1)).map (λi=>ownF j rate os (i+1))++[0]:=by
 have h0:0<os.length:=yK.mpr h;apply vx;intro i;by_cases hi:i<=os.length
 ·rw[My j rate os hi]
  rcases Nat.eq_zero_or_pos i with rfl|hp
  ·rfl
  ·by_cases hl:i=os.length
   ·rw[oQ (by simp;lia),hl,MB j rate os _ rfl]
    have:os.length-([0]++List.map (λi=>ownF j rate os (i+1)) (List.range (os.length-1))).length=0:=by simp;lia
    rw[this];rfl
   ·rw[qJ (by simp;lia),oQ (by simp;lia),bU]
    have e:i-[(0:Rat)].length=i-1:=rfl;rw[e,bG (by simp;lia),vv];show some _=some (ownF j rate os (i-1+1));rw[Nat.sub_add_cancel hp]
 ·rw[jJ (by rw[Mx];lia),jJ (by simp;lia)]
theorem BV(rate sp:Int):0<=topR rate sp:=by
 unfold topR;rw[vk au,fu,fu,kU,kr];rcases Int.le_total 0 (sp*rate)with h|h
 ·exact jK h h
 ·exact RY h h
theorem U2(a:Int):0<=a^2:=by
 rw[fu,fu,kU,kr];rcases Int.le_total 0 a with h|h
 ·exact jK h h
 ·exact RY h h
theorem a3S{j:Int}{ns ms:List Int}{c:Rat}(h:cornO j ns ms=some c):0<=c:=by
 unfold cornO at h;split at h
 ·cases h
 ·next h0=>
  cases h;rw[vk]
  ·exact U2 _
  ·rw[fu,fu,kU,kr];exact fL aq aq
theorem a4y(j rate:Int)(o p:Itm):0<=betR j rate o p:=by
 unfold betR;split
 ·next ns sp ms sq=>
  have h:=o8 (BV rate sp) (BV rate sq);unfold mnO;split
  ·exact h
  ·next c e=>exact o8 h (a3S e)
 ·exact qG
theorem MA(j rate:Int)(os:List Itm):∀i,0<=ownF j rate os i |0=>qG |i+1=>a4y _ _ _ _
def OkI(o:Itm):Prop:=∀ns sp,o=some (ns,sp)->(∀z∈ns,(z.natAbs:Int)<=100)/\1<=sp/\sp<=20
theorem Cb{a:Int}{m:Nat}(h:a.natAbs<=m):(a^2).natAbs<=m*m:=by rw[fu,fu,kU,kr];exact jS h h
theorem ku{rate sp:Int}(h1:1<=sp)(h2:sp<=20)(h3:10<=rate)(h4:rate<=200):Bd 64 (topR rate sp):=by
 have k9:(2:Nat)^64=18446744073709551616:=by decide
 have a:=Cb (jS (a:=sp) (b:=rate) (m:=20) (n:=200) aq aq);exact nV au (by rw[k9];lia) au
theorem Hj{j:Int}{ns ms:List Int}{c:Rat}(h1:1<=j)(h2:j<=50)(hn:∀z∈ns,(z.natAbs:Int)<=100)(hm:∀z∈ms,(z.natAbs:Int)<=100)(h:cornO j ns ms=some c):Bd 64 c:=by
 have k9:(2:Nat)^64=18446744073709551616:=by decide
 have cb:=AY (λz hz=>by have:=hn z hz;lia) (λz hz=>by have:=hm z hz;lia) (ns:=ns) (ms:=ms);have hb:=mC cb;have l1:=mC (ns:=ns) (m:=100) λz hz=>by have:=hn z hz;lia
 have l2:=mC (ns:=ms) (m:=100) λz hz=>by have:=hm z hz;lia
 unfold cornO at h;split at h
 ·cases h
 ·next h0=>cases h;have a:=Cb (jS (jS (a:=j) (b:=(aL ns:Int)) (m:=50) (n:=100) aq aq) (b:=(aL ms:Int)) (n:=100) aq);have b:=Cb (a:=(aL (cN ns ms):Int)) (m:=2000000) aq;refine nV ?_ (by rw[k9];lia) (by rw[k9];lia);rw[fu,fu,kU,kr];exact IT aq aq
theorem mr{n:Nat}{a b:Rat}(h1:Bd n a)(h2:Bd n b):Bd n (mn a b):=by rcases zV a b with e|e<;>rw[e]<;>assumption
theorem IZ:Bd 64 (0:Rat):=⟨ au,au⟩
theorem a4z{j rate:Int}{o p:Itm}(h1:1<=j)(h2:j<=50)(h3:10<=rate)(h4:rate<=200)(ho:OkI o)(hp:OkI p):Bd 64 (betR j rate o p):=by
 unfold betR;split
 ·next ns sp ms sq=>
  obtain⟨a1,a2,a3⟩:=ho ns sp rfl;obtain⟨b1,b2,b3⟩:=hp ms sq rfl;have h:=mr (ku a2 a3 h3 h4) (ku b2 b3 h3 h4);unfold mnO;split
  ·exact h
  ·next c e=>exact mr h (Hj h1 h2 a1 b1 e)
 ·exact IZ
def OkIs(os:List Itm):Prop:=∀i,OkI (atO os i)
theorem EX{j rate:Int}{os:List Itm}(h1:1<=j)(h2:j<=50)(h3:10<=rate)(h4:rate<=200)(ho:OkIs os):∀i,Bd 64 (ownF j rate os i) |0=>IZ |i+1=>a4z h1 h2 h3 h4 (ho i) (ho (i+1))
end Ow
namespace Wk
open PySem L2
def oH(pl ns:List Int):List Int:=List.zipWith (λa b=>a+b) pl ns
theorem Bh{pl ns:List Int}(h:ns.length=pl.length):(oH pl ns).length=pl.length:=by unfold oH;rw[List.length_zipWith,h];exact Nat.min_self _
theorem QD{pl ns:List Int}{i:Nat}{a b:Int}(h1:pl[i]? =some a)(h2:ns[i]? =some b):(oH pl ns)[i]? =some (a+b):=by unfold oH;rw[List.getElem?_zipWith,h1,h2]
structure lV(rs pl:List Int):Prop where
 len:pl.length=rs.length
 at':∀(i:Nat)(x r:Int),pl[i]? =some x->rs[i]? =some r->0<=x/\x<=r
end Wk
namespace L2
open PySem PySem.Spec PyProof.Rows
def HX(z:Str):It:=⟨λi _=>i<z.cps.size,λi H x H'=>H'=H/\∃c,z.cps.toList[i]? =some c/\x= .str ⟨#[c]⟩,λi _=>z.cps.size<=i⟩
theorem SA{P:ag}{w:World}{K:a8}{tg:Expr}(it:Addr)(z:Str)(t:Tok)(ty:String)(FV:["enumerate","zip","dict_itemiterator","dict_reverseitemiterator","odict_iterator","itertools.zip_longest","itertools.pairwise"].contains ty=false) (W:∀A':ai,A'.handled=none->Walks P w A' it [it] [it] z.cps.size (SignAt z) (λi h=>h.IsStrIter it ty z t i)) (self:∀(A:ai)(i:Nat)(s:af)(Q:Value->af->Prop)(E:Value->af->Prop),s.heap.IsStrIter it ty z t i->Q (.ref it) s->wpAny (model P w) A (pyIter (.ref it)) Q E s): Turn P w K tg (HX z) [it] it (λi h=>h.IsStrIter it ty z t i/\i<=z.cps.size) where
 mem:=by simp
 obj:=λi h st b hb=>by
  have e:b=it:=by simpa using hb
  subst e;obtain⟨⟨o,e,c,d⟩,_⟩:=st;exact⟨o,e,λv z=>by rw[d]at z;cases z⟩
 keep:=λi h h' st k=>⟨let⟨o,e,r⟩:=st.1;⟨o,k it (by simp) o e,r⟩,st.2⟩
 item:=by intro X hP hw hK hc i ao s O H E I hf st hg;subst hP hw hK;obtain⟨f0,f1,f2,f3,f4,f5⟩:=hf it (by simp);refine(W X.A (I.ok.hd hc)).item i s _ _ hg st.1 λv h' tk hv gO kk=>?_;obtain⟨c,u,ec,rfl⟩:=hv;have I1:Inv X ao O H {s with heap:=h',toks:=tk}:=I.turned (λb o hb e=>kk b o (by simpa using hb) e) f0 f1 f3 f4 f5;obtain⟨o,e,cl,d⟩:=id gO;exact⟨_,Z,xC (s:={s with heap:=h',toks:=tk}) e cl d FV ⟨.str ⟨#[c]⟩,H,I1,⟨u,Z⟩,⟨Z,c,by simpa using ec,Z⟩,⟨gO,hg⟩,λb hb=>(hf b hb).1⟩⟩
 done:=by intro X hP hw hK hc i ao s O H E I hf st hg;subst hP hw hK;obtain⟨f0,f1,f2,f3,f4,f5⟩:=hf it (by simp);obtain⟨st,hle⟩:=st;have ei:i=z.cps.size:=Nat.le_antisymm hle hg;subst ei;exact(W X.A (I.ok.hd hc)).done s _ _ st λh' tk eb=>⟨Z,I.turned (λb o hb e=>eb b o (by simpa using hb) e) f0 f1 f3 f4 f5⟩
 self:=λA i s Q E st h=>self A i s Q E st.1 h
section
variable {X:Cx} {tg:Expr}
inductive a73(R:It->Hp->Prop)(x:V)(H1:Hp):Prop |mk (z:_)(h0:x= .str z)(h1:R (HX z) H1)
def Zf(tl:TE):TI:=λO H R=>tl O H λx H1=>a73 R x H1
theorem VE{l:Expr}{tl:TE}(hl:PE X l tl):PI X tg l (Zf tl):=by
 intro ao s O H R I h;refine aY (hl ao s O H _ I h) λv s1 ⟨x,H1,I1,r1,q1⟩=>?_;obtain⟨z,e,q⟩:=q1;subst e;obtain⟨t,rfl⟩:=r1;have fin:∀ty,["enumerate","zip","dict_itemiterator","dict_reverseitemiterator","odict_iterator","itertools.zip_longest","itertools.pairwise"].contains ty=false->(∀A':ai,A'.handled=none->Walks X.prog X.w A' s1.heap.objs.size [s1.heap.objs.size] [s1.heap.objs.size] z.cps.size (SignAt z) (λi h=>h.IsStrIter s1.heap.objs.size ty z t i))->(∀(A:ai)(i:Nat)(s:af)(Q:Value->af->Prop)(E:Value->af->Prop),s.heap.IsStrIter s1.heap.objs.size ty z t i->Q (.ref s1.heap.objs.size) s->wpAny (model X.prog X.w) A (pyIter (.ref s1.heap.objs.size)) Q E s)->HU X ao O tg R (.ref s1.heap.objs.size) {s1 with heap:=s1.heap.push {cls:=.type ty,data:=.fields #[.str z t,.int 0 0]}}:=λty h1 h2 h3=>by
  refine⟨s1.heap.objs.size,[s1.heap.objs.size],_,_,H1,Z,I1.kept (t':=s1.toks) λb o e=>cw _ e,SA _ z t ty h1 h2 h3,⟨⟨_,eu _ Z,Z,Z⟩,eK _⟩,λb hb=>?_,q⟩;have e:b=s1.heap.objs.size:=by simpa using hb
  subst e;exact I1.pY (bw _) (I1.bj.fresh (bw _))
 cases ha:z.cps.all (·<128)
 ·exact wpAny_pyIter_wide ha (fin "str_iterator" au (λA' hA=>Walks.strWide hA _ z t) (λ_ _ _ _ _ st h=>wpAny_pyIter_striter_wide st h))
 ·exact wpAny_pyIter_ascii ha (fin "str_ascii_iterator" au (λA' hA=>Walks.strAscii hA _ z t) (λ_ _ _ _ _ st h=>wpAny_pyIter_striter_ascii st h))
theorem a3W{z:Str}{f:Nat->Bool}{te:TE}{Q:VK}{D:Addr}{H H0:Hp}(rest:St)(nw:Nw H H0 D (.lst []))(hz:z.length<=1000) (hs:∀(c:Nat)(H2:Hp)(Q':VK),c∈z.cps.toList->aD H H2->(∀H3,aD H2 H3->Q' (.bl (f c)) H3)->te (some (.str ⟨#[c]⟩)::rest) H2 Q') (hq:∀H',aD H H'->H' D=some (.lst ((z.cps.toList.map f).map V.bl))->Q (.ref D) H'):kn (HX z) (gk 0) jo te Q D (none::rest) H0:=by
 have hl:z.cps.toList.length=z.cps.size:=by simp
 refine Q0 (xs:=z.cps.toList.map λc=>V.str ⟨#[c]⟩) (bs:=z.cps.toList.map f) rest nw (by simp) (by simpa[Str.length]using hz) ?_ ?_ ?_ hq
 ·intro i x H2 ex s2
  rw[bU]at ex;cases ec:z.cps.toList[i]? with |none=>rw[ec]at ex;cases ex |some c=>rw[ec]at ex;cases ex;refine⟨by have:=(cL.mp ec).1;show i<z.cps.size;omega,λy H3 ⟨e3,c',Pq,e⟩=>⟨e3,?_⟩⟩;rw[ec]at Pq;cases Pq;exact e
 ·intro H2 s2
  show z.cps.size<=(z.cps.toList.map _).length;rw[bB,hl];exact bw _
 ·intro i x b H2 Q' ex eb s2 mH
  rw[bU]at ex eb;cases ec:z.cps.toList[i]? with |none=>rw[ec]at ex;cases ex |some c=>rw[ec]at ex eb;cases ex;cases eb;exact hs c H2 Q' (fC ec) s2 mH
theorem Wa:cP X (compareOp .In) (λx y H Q=>∃c j,x= .str ⟨#[c]⟩/\y= .str j/\Q (.bl (decide (c∈j.cps.toList))) H):=by intro ao s O H x y v u Q I rx ry h;obtain⟨c,j,rfl,rfl,q⟩:=h;refine W9 ao s O H _ _ v u Q I rx ry ⟨_,_,Z,Z,?_⟩;rw[PySem.StrLaws.found_one];exact q
inductive a6S(K:a8)(x:V)(y:V)(H:Hp)(Q:VK):Prop |mk (p:_)(xs:_)(d:_)(ds:_)(h0:y= .ref p)(h1:aV K H p xs)(h2:RD K H x d)(h3:aJ K H xs ds)(h4:SeqAt.shaped d=true)(h5:(∀e∈ds,SeqAt.shaped e=true))(h6:Q (.bl (ds.any λe=>PyData.eqv e d)) H)
def Vg(K:a8):R2:=λx y H Q=>a6S K x y H Q
theorem Z9(K:a8)(hK:X.K=K)(hu:X.A.units+65<cLine):cP X (compareOp .In) (Vg K):=by
 subst hK;intro ao s O H x y v u Q I rx ry h;obtain⟨p,xs,d,ds,rfl,hx,hd,jB,sd,Uk,q⟩:=h;cases ry;obtain⟨its,r,pl,hz⟩:=I.tuple hx;obtain⟨k1,k2⟩:=P8 I hu rx hd sd r jB Uk;refine SeqAt.in_tupleAt (sx s.heap d) (show s.heap.IsTuple p its.toArray from pl) (λw hw=>k1 w (by simpa using hw)) ⟨.bl _,H,I,Z,?_⟩;have e:its.toArray.any (sx s.heap d)=ds.any λe=>PyData.eqv e d:=by rw[<-k2];simp
 rw[e];exact q
end
section
variable {X:Cx}
theorem zJ(K:a8)(h:X.K=K){o e:Expr}{to:TE}{t:TA}{apos dR:Pos}(ho:PE X o to)(ha:PA X [e] t) (si:attributeBase o "extend" X.env (eval o X.env)=eval o X.env:=by rfl) (rY:((backTo dR (starEach [e] X.env)).all (λx=>!x.1)&&(backToKw dR (keywordEach [] X.env)).all (λx=>x.1.isSome) &&decide ([e].length+([]:List Keyword).length+(if([]:List Keyword).isEmpty then 0 else 1)<30))=true:=by rfl) (rT:(apos.endLine==dR.line)=true:=by rfl)(hs:starEach [e] X.env=(false,eval e X.env)::starEach [] X.env:=by rfl)(rO:(backTo dR (starEach [] X.env)).any (·.1)=false:=by rfl): PE X (.Call (.Attribute o "extend" apos) [e] [] dR) (zh K "list" Mg to t):=by subst h;exact EV PySem.F.plainAttrs_list PySem.F.slot_list_extend PySem.F.type_list_extend Yb ho ha si rY rT hs rO
open PyProof
end
end L2
namespace L2
open PySem PySem.Spec PyProof.Rows
section
variable {K:a8} {H H' H2:Hp}
end
section
variable {X:Cx} {tg:Expr}
end
theorem a3V{K:a8}{b1 b2:Bool}{l1 l2:Addr}{xs ys:List V}{bs:List Bool}{te:TE}{Q:VK}{D:Addr}{H H0:Hp}{n:Nat}(rest:St)(hn:n=2)(h1:eg b1 K H l1 xs)(h2:eg b2 K H l2 ys)(nw:Nw H H0 D (.lst [])) (hl:min xs.length ys.length=bs.length)(hz:bs.length<=100000) (hs:∀(i:Nat)(x y:V)(b:Bool)(H2:Hp)(Q':VK),xs[i]? =some x->ys[i]? =some y->bs[i]? =some b->aD H H2->(∀H3,aD H2 H3->Q' (.bl b) H3)->te (some x::some y::rest) H2 Q') (hq:∀H',aD H H'->H' D=some (.lst (bs.map V.bl))->Q (.ref D) H'):kn (sY K b1 b2 l1 l2) (AH K n (xD (gk 0) (xD (gk 1) Gr))) jo te Q D (none::none::rest) H0:=by
 subst hn;have hD:=nw.no;refine uX bs.length (λi O H2=>aD H H2/\H2 D=some (.lst ((bs.take i).map V.bl))/\∃v v',O=v::v'::rest) ?_ ?_ ?_
 ·exact⟨nw.same,nw.at',none,none,Z⟩
 ·rintro i O H2 hi ⟨s2,d2,v,v',rfl⟩
  have hx:i<xs.length:=by lia
  have hy:i<ys.length:=by lia
  have ex:=bG hx;have ey:=bG hy;have eb:=bG hi;refine⟨⟨xs,ys,_,_,h1.go s2,h2.go s2,ex,ey⟩,λy' H3 lu=>?_⟩;obtain⟨T,x0,y0,rfl,k1,k2,n3⟩:=lu;have e1:=k1 _ (h1.go s2);have e2:=k2 _ (h2.go s2);rw[ex]at e1;rw[ey]at e2;cases e1;cases e2;refine⟨T,_,Z,aV.of n3.at',Z,_,_,Z,_,_,Z,Z,?_⟩;refine yes (aU ?_);refine hs i _ _ _ _ _ ex ey eb (s2.trans n3.same) λH4 s4=>?_;refine⟨_,s4 _ _ (n3.same _ _ d2),?_,bs.length-(i+1),aq,Z,aq,λb o e=>?_,?_,_,_,Z⟩
  ·rw[bB,ko]
   have:(100000:Nat)<sizeLine:=by decide
   lia
  ·rw[bL (cW e hD)];exact s4 b o (n3.same b o (s2 b o e))
  ·rw[cF,tx,eb,ip];rfl
 ·rintro O H2 ⟨s2,d2,v,v',rfl⟩
  refine⟨⟨xs,ys,h1.go s2,h2.go s2,aq⟩,hq H2 s2 ?_⟩;rw[d2,BH]
section
variable {P:ag}{w:World}{K:a8}{mg:bS}{az:Heap}
end
section
variable {X:Cx}{k:Nat}{x m:Str}{C:Addr}{p pos apos:Pos}{o e:Expr}{es:List Expr}{t:TA}{ta:TE}{sp:Sp}
end
section
variable {K:a8} {H H' H2:Hp}
end
abbrev iI(elt tg iter eO dY:Expr)(scope:Scope)(pos:Pos):Expr:=.ListComp elt [⟨tg,iter,[],0⟩,⟨eO,dY,[],0⟩] scope pos
theorem a40(elt tg iter eO dY:Expr)(scope:Scope)(pos:Pos)(it acc:Value)(env:Env): compTurn (iI elt tg iter eO dY scope pos) 0 it acc env=(do standAt iter.pos match<-pyNext it with
 |none=>pure (.done .next) |some v=>
  letOwnedTupleGo tg it v
  assign tg env v
  let mut ok:=true
  for c in([]:List Expr) do if ok then ok<-isTrue c env (eval c env)
  if ok then
   let x<-eval dY env
   standAt dY.pos
   let x<-foldedSetIterable dY env x
   let _<-runOwn (.compStart (iI elt tg iter eO dY scope pos) 1 (<-holding [x] (pyIter x)) acc env) env
  again (.compLoop (iI elt tg iter eO dY scope pos) 0 it acc env)):=by rfl
theorem a3Z(elt tg iter eO dY:Expr)(scope:Scope)(pos:Pos)(it acc:Value)(env:Env): compTurn (iI elt tg iter eO dY scope pos) 1 it acc env=(do standAt dY.pos match<-pyNext it with
 |none=>pure (.done .next) |some v=>
  letOwnedTupleGo eO it v
  assign eO env v
  (do let _<-call (.builtin "list.append") [acc,<-eval elt env])
  again (.compLoop (iI elt tg iter eO dY scope pos) 1 it acc env)):=by rfl
section
variable {prog:ag}{w:World}{A:ai}{R:Result->af->Prop}{s:af}{elt tg iter eO dY:Expr}{scope:Scope}{pos:Pos}{it acc:Value}{env:Env}
theorem a42(I:Nat->af->Prop) (turn:∀n s,I n s->wpAny (model prog w) A (pyNext it) (λr s₁=>match r with |none=>R (.ok .next) s₁ |some v=>wpAny (model prog w) A (letOwnedTupleGo eO it v) (λ_ s₁=>wpAny (model prog w) A (assign eO env v) (λ_ s₂=>wpAny (model prog w) A (eval elt env) (λx s₄=>wpAny (model prog w) A (call (.builtin "list.append") [acc,x]) (λ_ s₅=>∃m,m<n/\I m s₅) (λ_ _=>False) s₄) (λ_ _=>False) s₂) (λ_ _=>False) s₁) (λ_ _=>False) s₁) (λ_ _=>False) s) (n:Nat)(h:I n s):codeAny (model prog w) A (.compLoop (iI elt tg iter eO dY scope pos) 1 it acc env) R s:=by refine codeAny_loop Z I (λn s hI=>?_) n h;show wpAny _ A ((compTurn (iI elt tg iter eO dY scope pos) 1 it acc env).onRaise (λx=>do noteFrame x env;theTreesLotGoes x)) _ _ s;refine wpAny_noted ?_;rw[a3Z];refine aF (nh (aF (eJ (turn n s hI) (λr s₁ h₁=>?_) λ_ _ h'=>h'.elim)));cases r with |none=>exact bH h₁ |some v=>refine aF (eJ h₁ (λ_ Jt h₁=>?_) λ_ _ h'=>h'.elim);refine aF (eJ h₁ (λ_ s₂ h₂=>?_) λ_ _ h'=>h'.elim);exact aF (aF (eJ h₂ (λx s₄ h₄=>aF (eJ h₄ (λ_ s₅ h₅=>bH (bH ⟨Z,h₅⟩)) λ_ _ h'=>h'.elim)) λ_ _ h'=>h'.elim))
theorem a41(h0:codeAny (model prog w) A (.compLoop (iI elt tg iter eO dY scope pos) 1 it acc env) R s) (h:wpAny (model prog w) A (pyIter it) (λNK s'=>codeAny (model prog w) A (.compLoop (iI elt tg iter eO dY scope pos) 1 NK acc env) R s') (notedBy (model prog w) A env λx s'=>R (.error x) s') s): codeAny (model prog w) A (.compStart (iI elt tg iter eO dY scope pos) 1 it acc env) R s:=by
 refine codeAny_of_tree ?_;show wpAny _ _ ((compStart (iI elt tg iter eO dY scope pos) 1 it acc env).onRaise (λx=>do noteFrame x env;standAt theWindowsPlace)) _ _ s;refine wpAny_notedAt ?_;unfold compStart;show wpAny _ _ (ask>>=_) _ _ s;refine aF (wpAny_askSetting (wpAny_ite ?_));split
 ·first |exact aF (bH (bH (And.intro Z h0))) |exact bH (And.intro Z h0)
 ·first |exact aF (yu (aF (nh (aF (eJ h (λNK s' h'=>bH ⟨Z,h'⟩) λ_ _ h'=>h')))))
theorem a43(I:Nat->af->Prop)(j4:∀x,foldedSetIterable dY env x=pure x) (turn:∀n s,I n s->wpAny (model prog w) A (pyNext it) (λr s₁=>match r with |none=>R (.ok .next) s₁ |some v=>wpAny (model prog w) A (letOwnedTupleGo tg it v) (λ_ s₁=>wpAny (model prog w) A (assign tg env v) (λ_ s₂=>wpAny (model prog w) A (eval dY env) (λx s₃=>wpAny (model prog w) A (pyIter x) (λAe s₄=>codeAny (model prog w) A (.compStart (iI elt tg iter eO dY scope pos) 1 Ae acc env) (λr s₅=>match r with| .ok _=>∃m,m<n/\I m s₅| .error _=>False) s₄) (λ_ _=>False) s₃) (λ_ _=>False) s₂) (λ_ _=>False) s₁) (λ_ _=>False) s₁) (λ_ _=>False) s) (n:Nat)(h:I n s):codeAny (model prog w) A (.compLoop (iI elt tg iter eO dY scope pos) 0 it acc env) R s:=by refine codeAny_loop Z I (λn s hI=>?_) n h;show wpAny _ A ((compTurn (iI elt tg iter eO dY scope pos) 0 it acc env).onRaise (λx=>do noteFrame x env;theTreesLotGoes x)) _ _ s;refine wpAny_noted ?_;rw[a40];refine aF (nh (aF (eJ (turn n s hI) (λr s₁ h₁=>?_) λ_ _ h'=>h'.elim)));cases r with |none=>exact bH h₁ |some v=>refine aF (eJ h₁ (λ_ Jt h₁=>?_) λ_ _ h'=>h'.elim);refine aF (eJ h₁ (λ_ s₂ h₂=>?_) λ_ _ h'=>h'.elim);refine aF (wpAny_tests_nil ?_);simp only[qE];refine aF (eJ h₂ (λx s₃ h₃=>?_) λ_ _ h'=>h'.elim);refine aF (nh (aF (vh (j4 x) (aF (jI (eJ h₃ (λAe s₄ h₄=>?_) λ_ _ h'=>h'.elim))))));refine aF (wpAny_runOwn (vi h₄ λr s₅ h₅=>?_));cases r with |error e=>exact h₅.elim |ok f=>exact bH ⟨Z,h₅⟩
end
def a70(J:It)(g:TG)(te:TE)(D:Addr)(R:St->Hp->Prop)(O:St)(H:Hp):Prop:=∃W:Nat->Nat->St->Hp->Prop,(∃m,W 0 m O H)/\∀i m σ' H',W i m σ' H'->(J.stop i H'/\R σ' H')\/(J.go i H'/\∀x H2,J.iq i H' x H2->g x σ' H2 λσ3 H3=>te σ3 H3 λy H5=>∃ys,H5 D=some (.lst ys)/\ys.length<sizeLine/\∃m',m'<m/\W (i+1) m' σ3 (upd H5 D (.lst (ys++[y]))))
def Rf(J:It)(g:TG)(nu:TI)(g2:TG)(te:TE)(Q:VK)(D:Addr)(O:St)(H:Hp):Prop:=∃W:Nat->Nat->St->Hp->Prop,(∃m,W 0 m O H)/\∀i m σ' H',W i m σ' H'->(J.stop i H'/\Q (.ref D) H')\/(J.go i H'/\∀x H2,J.iq i H' x H2->g x σ' H2 λσ3 H3=>nu σ3 H3 λJ2 H4=>a70 J2 g2 te D (λσ5 H5=>∃m',m'<m/\W (i+1) m' σ5 H5) σ3 H4)
def Tx(js:List (Option Nat))(wi:TI)(g:TG)(nu:TI)(g2:TG)(te:TE):TE:=λO H Q=>wi O H λJ H1=>∀D H2,Nw H1 H2 D (.lst [])->Rf J g nu g2 te Q D (stC js O) H2
set_option maxHeartbeats 1000000 in
theorem VP{X:Cx}{N:List Str}{js:List (Option Nat)}{elt tg iter eO dY:Expr}{scope:Scope}{pos:Pos}{wi:TI}{g:TG}{nu:TI}{g2:TG}{te:TE}(hc:X.calm=true)(hN:xW X N js scope=true)(hS:qq X scope=true) (hi:PI X tg iter wi)(hg:∀cl s H fp ao,PG (cI X N scope cl s H fp ao) tg g)(dZ:∀cl s H fp ao,PI (cI X N scope cl s H fp ao) eO dY nu)(hg2:∀cl s H fp ao,PG (cI X N scope cl s H fp ao) eO g2)(he:∀cl s H fp ao,PE (cI X N scope cl s H fp ao) elt te) (hs:∀x,foldedSetIterable iter X.env x=pure x:=by intro _;rfl)(j4:∀env x,foldedSetIterable dY env x=pure x:=by intro _ _;rfl):PE X (.ListComp elt [⟨tg,iter,[],0⟩,⟨eO,dY,[],0⟩] scope pos) (Tx js wi g nu g2 te):=by
 intro ao s O H Q I h;have lJ:=hS;unfold qq at lJ;rw[f9,f9]at lJ;obtain⟨⟨k1,k2⟩,k3⟩:=lJ;have jA:scope.kind= .function:=eU.mp k1;have pU:∀x∈scope.names,x.2= .free->∃c,X.env.cells.lookup x.1=some c:=λx hx e=>by have:=fD.mp k3 x hx;rw[e]at this;exact I.ok.has x.1 (.inl (eU.mp this))
 have mL:∀x∈scope.names,x.2≠ .cell:=λx hx e=>by have:=fD.mp k3 x hx;rw[e]at this;exact gM this
 have xf:∀x∈scope.names,x.2= .local->scope.names.lookup x.1=some .local:=λx hx e=>by have:=fD.mp k3 x hx;rw[e]at this;exact eU.mp this
 obtain⟨cl,xq,c1,c2⟩:=Hm pU;rw[eval_ListComp];refine Rx (use:=none) Z hs xq jA xf (aY (hi ao s O H _ I h) λv s1 h1=>aY h1 λwU s2 h2=>?_);obtain⟨it,fp,tn,J,H2,e,I2,T,md,f2,h2⟩:=h2;subst e;have hD:H2 s2.heap.objs.size=none:=I2.bj.fresh (bw _);obtain⟨W,⟨m0,w0⟩,turn⟩:=h2 _ _ (Nw.of hD);refine nj (Rw mL (by intro y hy;simp at hy) (λh₁ pO pN=>?_) jA);have lO:∀b∈fp,b<s2.heap.objs.size:=λb hb=>by obtain⟨o,e,_⟩:=T.obj _ _ md b hb;exact cn e
 have I3:Inv X ao O (upd H2 s2.heap.objs.size (.lst [])) {s2 with heap:=s2.heap.push {cls:=.type "list",dict:=none,data:=.seq ([]:List Value).toArray}}:=I2.zZ (its:=[]) (t':=s2.toks) .nil (eK _);generalize pW:s2.heap.push {cls:=.type "list",dict:=none,data:=.seq ([]:List Value).toArray}=h3 at I3 pO pN;have oY:h3.objs.size=s2.heap.objs.size+1:=by rw[<-pW,qK]
 have wR:∀b o,s2.heap.get? b=some o->h3.get? b=some o:=λb o e=>by rw[<-pW];exact cw _ e
 have f3:∀b∈fp,iM X ao (upd H2 s2.heap.objs.size (.lst [])) b:=λb hb=>⟨by rw[bL (dW (lO b hb))];exact(f2 b hb).1,(f2 b hb).2⟩;have pL:∀b o,h3.get? b=some o->h₁.get? b=some o:=λb o e=>(pN.2 b (dW (cn e))).trans (cw _ e);have I4:Inv (cI X N scope cl {s2 with heap:=h3} (upd H2 s2.heap.objs.size (.lst [])) fp ao) [] (stC js O) (upd H2 s2.heap.objs.size (.lst [])) {s2 with heap:=h₁,toks:=s2.toks+([]:List (Str×Value)).length}:=I3.comp (s:={s2 with heap:=h3}) hN hS c1 c2 f3 (λb hb=>by show b<h3.objs.size;rw[oY];exact yI (lO b hb)) (by simpa using pO) pL;have oZ:tn 0 h₁:=T.keep _ _ _ md λb _ o e=>pL b o (wR b o e);have loop:codeAny (model X.prog X.w) X.A (.compLoop (iI elt tg iter eO dY scope pos) 0 (.ref it) (.ref s2.heap.objs.size) (compEnvC scope cl h3.objs.size X.env)) (compPost (model X.prog X.w) X.A X.xe none (EP X ao O Q) (.ref s2.heap.objs.size) h3.objs.size) {s2 with heap:=h₁,toks:=s2.toks+([]:List (Str×Value)).length}:=by
  refine a43 (λn s'=>∃i σ' H',Inv (cI X N scope cl {s2 with heap:=h3} (upd H2 s2.heap.objs.size (.lst [])) fp ao) [] σ' H' s'/\tn i s'.heap/\(∀b∈fp,H' b=none)/\W i n σ' H') (j4 _) ?_ m0 ⟨0,_,_,I4,oZ,λb hb=>(f3 b hb).1,w0⟩;rintro n s5 ⟨i,σ5,H5,I5,ky,mP,w5⟩;have iR:∀{H':Hp},(∀b∈fp,H' b=none)->∀b∈fp,iM (cI X N scope cl {s2 with heap:=h3} (upd H2 s2.heap.objs.size (.lst [])) fp ao) [] H' b:=λ{H'} hn b hb=>by
   obtain⟨_,q1,q2,q3,q4,q5⟩:=f3 b hb;refine⟨hn b hb,λz=>?_,I4.ok.mQ b hb,.inl hb,λx c e=>q4 x c (c1 x c e),λp hp=>q5 p (by simpa[cI]using hp)⟩;have bQ:b<h3.objs.size:=by rw[oY];exact yI (lO b hb)
   exact dW bQ z
  rcases turn i n σ5 H5 w5 with⟨stop,qn⟩|⟨go,step⟩
  ·refine aY (T.done (cI X N scope cl {s2 with heap:=h3} (upd H2 s2.heap.objs.size (.lst [])) fp ao) rfl rfl rfl hc i [] s5 σ5 H5 _ I5 (iR mP) ky stop) λr s6 ⟨hr,I6⟩=>?_
   subst hr;obtain⟨m,hm,_⟩:=I6.loc;refine⟨m,hm,λh7 oj=>?_⟩;have u0:Un (eS X.stack) fp (upd H2 s2.heap.objs.size (.lst [])) H5 h3 s6.heap:=I6.az;have ne:∀b o,h3.get? b=some o->b≠h3.objs.size:=λb o e=>dW (cn e);have u:Un (eS X.stack) fp (upd H2 s2.heap.objs.size (.lst [])) H5 h3 h7:=⟨λb o e n hb hx=>(oj.2 b (ne b o e)).trans (u0.keep b o e n hb hx),λb o e n hb hx=>let⟨sl,q⟩:=u0.slot b o e n hb hx;⟨sl,(oj.2 b (ne b o e)).trans q⟩,u0.free,λb o e hx=>let⟨o',q⟩:=u0.there b o e hx;⟨o',(oj.2 b (ne b o e)).trans q⟩,u0.jm,u0.ja,u0.jn⟩;have I7:Inv X ao O H5 {s6 with heap:=h7}:=I3.xX (s':={s6 with heap:=h7}) (ch:=fp) I6.os u (I6.bj.but I6.free oj) I6.bare λb hb=>⟨(f3 b hb).2.2.2.1,(f3 b hb).2.1,(f3 b hb).2.2.2.2.1,(f3 b hb).2.2.2.2.2⟩;exact⟨.ref s2.heap.objs.size,H5,I7,Z,qn⟩
  ·refine aY (T.item (cI X N scope cl {s2 with heap:=h3} (upd H2 s2.heap.objs.size (.lst [])) fp ao) rfl rfl rfl hc i [] s5 σ5 H5 _ I5 (iR mP) ky go) λr s6 ⟨u,hr,h6⟩=>?_
   subst hr;refine aY h6 λ_ s7 ⟨x,H7,I7,r7,y7,kW,xF⟩=>?_;have yk:=I7.pinned (iR xF) (T.obj _ _ kW);refine aY (hg _ _ _ _ _ _ s7 σ5 H7 x u _ yk r7 (step x H7 y7)) λ_ s8 ⟨σ8,H8,I8,q8⟩=>?_;have again:∀{s':af}{σ7:St}{H7:Hp},Inv (cI X N scope cl {s2 with heap:=h3} (upd H2 s2.heap.objs.size (.lst [])) fp ao) ([]++nO fp s7.heap) σ7 H7 s'->(∃m',m'<n/\W (i+1) m' σ7 H7)->∃m,m<n/\∃i σ' H',Inv (cI X N scope cl {s2 with heap:=h3} (upd H2 s2.heap.objs.size (.lst [])) fp ao) [] σ' H' s'/\tn i s'.heap/\(∀b∈fp,H' b=none)/\W i m σ' H':=λ{s' σ7 H7} J7 n7=>by obtain⟨m',hm,w7⟩:=n7;refine⟨m',hm,i+1,σ7,H7,J7.qN,T.keep _ _ _ kW λb hb o e=>(J7.pin (b,o) (gr _ (gr _ (mx hb e)))).1,λb hb=>?_,w7⟩;obtain⟨o,e,d⟩:=T.obj _ _ kW b hb;exact(J7.pin (b,o) (gr _ (gr _ (mx hb e)))).2.1
   refine aY (dZ _ _ _ _ _ _ s8 σ8 H8 _ I8 q8) λv9 s9 h9=>aY h9 λa80 gh sk=>?_;obtain⟨Ae,Gw,SN,J2,fK,e2,qB,T2,JE,OX,V,⟨k0,v0⟩,SJ⟩:=sk;subst e2;have C1:∀{H':Hp},(∀b∈Gw,H' b=none)->∀b∈Gw,iM (cI X N scope cl {s2 with heap:=h3} (upd H2 s2.heap.objs.size (.lst [])) fp ao) ([]++nO fp s7.heap) H' b:=λ{H'} hn b hb=>⟨hn b hb,(OX b hb).2⟩;have Ni:codeAny (model X.prog X.w) X.A (.compLoop (iI elt tg iter eO dY scope pos) 1 (.ref Ae) (.ref s2.heap.objs.size) (compEnvC scope cl h3.objs.size X.env)) (λr s₅=>match r with| .ok _=>∃m,m<n/\∃i σ' H',Inv (cI X N scope cl {s2 with heap:=h3} (upd H2 s2.heap.objs.size (.lst [])) fp ao) [] σ' H' s₅/\tn i s₅.heap/\(∀b∈fp,H' b=none)/\W i m σ' H'| .error _=>False) gh:=by
    refine a42 (λk s'=>∃i σ' H',Inv (cI X N scope cl {s2 with heap:=h3} (upd H2 s2.heap.objs.size (.lst [])) fp ao) ([]++nO fp s7.heap) σ' H' s'/\SN i s'.heap/\(∀b∈Gw,H' b=none)/\V i k σ' H') ?_ k0 ⟨0,_,_,qB,JE,λb hb=>(OX b hb).1,v0⟩;rintro k iu ⟨i2,yT,gq,vf,JD,OL,v11⟩;rcases SJ i2 k yT gq v11 with⟨TX,q2⟩|⟨go2,U0⟩
    ·refine aY (T2.done (cI X N scope cl {s2 with heap:=h3} (upd H2 s2.heap.objs.size (.lst [])) fp ao) rfl rfl rfl hc i2 _ iu yT gq _ vf (C1 OL) JD TX) λr fN ⟨hr,I12⟩=>?_
     subst hr;exact again I12 q2
    ·refine aY (T2.item (cI X N scope cl {s2 with heap:=h3} (upd H2 s2.heap.objs.size (.lst [])) fp ao) rfl rfl rfl hc i2 _ iu yT gq _ vf (C1 OL) JD go2) λr fN ⟨u2,hr,Gp⟩=>?_
     subst hr;refine aY Gp λ_ iV ⟨x2,qD,I13,Vj,Sf,C3,a1P⟩=>?_;have a7e:=I13.pinned (C1 a1P) (T2.obj _ _ C3);refine aY (hg2 _ _ _ _ _ _ iV yT qD x2 u2 _ a7e Vj (U0 x2 qD Sf)) λ_ gP ⟨yS,qC,I14,Vm⟩=>?_;refine aY (he _ _ _ _ _ _ gP yS qC _ I14 Vm) λyv nG ⟨y,HZ,I15,zH,ys,gW,hz,Sk⟩=>?_;refine aY (zT _ nG yS HZ (.ref s2.heap.objs.size) [y] (.ref s2.heap.objs.size) [yv] (λ_ yn=>∃m',m'<k/\V (i2+1) m' yS yn) I15 Z (.cons zH .nil) ⟨_,ys,y,Z,Z,gW,hz,Sk⟩) λ_ s16 ⟨v16,yn,HY,r16,Vl⟩=>?_;obtain⟨m',hm,Sj⟩:=Vl;refine⟨m',hm,i2+1,yS,yn,HY.qN,T2.keep _ _ _ C3 λb hb o e=>(HY.pin (b,o) (gr _ (gr _ (mx hb e)))).1,λb hb=>?_,Sj⟩;obtain⟨o,e,d⟩:=T2.obj _ _ C3 b hb;exact(HY.pin (b,o) (gr _ (gr _ (mx hb e)))).2.1
   exact a41 Ni (T2.self _ 0 _ _ _ JE Ni)
 exact Ry loop (T.self _ 0 _ _ _ oZ loop)
section
variable {K:a8}
theorem UI(n q:Nat):((List.range n).map λ_=>q).sum=n*q:=by induction n with |zero=>simp |succ n ih=>rw[IG,ip,List.sum_append,Nat.add_mul,Nat.one_mul,ih];simp
theorem a3X{a1 a2:Addr}{xs ys:List V}{b:Nat->Nat->Bool}{nu:TI}{te:TE}{Q:VK}{D:Addr}{H H0:Hp}(rest:St)(hx:aK K H a1 xs)(hy:aK K H a2 ys)(nw:Nw H H0 D (.lst []))(hz:xs.length*ys.length<=1000) (hw:∀x v H3 R,aD H H3->R (qA K a2) H3->nu (some x::v::rest) H3 R) (hs:∀i j x y H2 Q',xs[i]? =some x->ys[j]? =some y->aD H H2->(∀H3,aD H2 H3->Q' (.bl (b i j)) H3)->te (some x::some y::rest) H2 Q') (hq:∀H',aD H H'->H' D=some (.lst ((((List.range xs.length).flatMap λi=>(List.range ys.length).map λj=>b i j)).map V.bl))->Q (.ref D) H'):Rf (qA K a1) (gk 0) nu (gk 1) te Q D (none::none::rest) H0:=by
 have hD:=nw.no;have line:(1000:Nat)<sizeLine:=by decide
 refine⟨λi m O H2=>m=xs.length-i/\i<=xs.length/\aD H H2/\H2 D=some (.lst ((((List.range i).flatMap λi=>(List.range ys.length).map λj=>b i j)).map V.bl))/\∃v v',O=v::v'::rest,⟨_,Z,eK _,nw.same,nw.at',none,none,Z⟩,?_⟩;rintro i m O H2 ⟨rfl,hi,s2,d2,v,v',rfl⟩;by_cases bQ:i<xs.length
 ·refine .inr ⟨⟨xs,xs[i],hx.go s2,by simp[bQ]⟩,λx H3 yl=>?_⟩
  obtain⟨e,yl⟩:=yl;subst e;have ex:=yl xs (hx.go s2);refine hw x v' _ _ s2 ?_;refine⟨λj k O H4=>k=ys.length-j/\j<=ys.length/\aD H H4/\H4 D=some (.lst ((((List.range i).flatMap λi=>(List.range ys.length).map λj=>b i j)++(List.range j).map (b i)).map V.bl))/\∃v',O=some x::v'::rest,⟨_,Z,eK _,s2,by simpa using d2,v',Z⟩,?_⟩;rintro j k O H4 ⟨rfl,hj,s4,d4,v',rfl⟩;by_cases O9:j<ys.length
  ·refine .inr ⟨⟨ys,ys[j],hy.go s4,by simp[O9]⟩,λy H5 yl=>?_⟩
   obtain⟨e,yl⟩:=yl;subst e;have ey:=yl ys (hy.go s4);refine hs i j x y _ _ ex ey s4 λH6 s6=>?_;have d6:=s6 _ _ d4;refine⟨_,d6,?_,ys.length-(j+1),aH,Z,aH,λq o e=>?_,?_,_,Z⟩
   ·have hl:(((List.range i).flatMap λi=>(List.range ys.length).map λj=>b i j)).length=i*ys.length:=by rw[List.length_flatMap];simp only[bB,hX];exact UI _ _
    have h1:i*ys.length+j<xs.length*ys.length:=by have h2:(i+1)*ys.length<=xs.length*ys.length:=Nat.mul_le_mul_right _ bQ;rw[Nat.add_mul,Nat.one_mul]at h2;omega
    rw[bB,cB,hl,bB,hX];omega
   ·rw[bL (cW e hD)];exact s6 _ _ (s4 _ _ e)
   ·rw[cF,IG,ip,ip,ip,ip,List.append_assoc];rfl
  ·have e:j=ys.length:=by omega
   subst e;refine .inl ⟨⟨ys,hy.go s4,bw _⟩,xs.length-(i+1),aH,Z,aH,s4,?_,_,_,Z⟩;rw[IG,List.flatMap_append];simpa using d4
 ·have e:i=xs.length:=by omega
  subst e;exact .inl ⟨⟨xs,hx.go s2,bw _⟩,hq H2 s2 d2⟩
theorem a4Q{n m:Nat}{b:Nat->Nat->Bool}:(((List.range n).flatMap λi=>(List.range m).map λj=>b i j)).any id=(List.range n).any λi=>(List.range m).any λj=>b i j:=by rw[List.any_flatMap];congr 1;funext i;rw[List.any_map];rfl
end
theorem a3E(f:Array Value->Array Value)(o:Obj):(o.mapFields f).dict=o.dict:=by obtain⟨c,d,dt,sl⟩:=o;cases dt<;>rfl
def TrD(h B:Heap)(ex:Addr)(cls:Value)(dx:Option Addr)(fl:Value):Prop:=∃ob fs tb ot ts,h.get? ex=some ob/\ob.cls=cls/\ob.dict=dx/\ob.data= .fields fs/\fs[1]? =some (.ref tb)/\B.get? tb=none/\tb≠ex/\h.get? tb=some ot/\ot.data= .fields ts/\ts[3]? =some fl
def lW(B:Heap)(l:List Env)(ex:Addr)(cls:Value)(dx:Option Addr)(fl:Value)(h:Heap):Prop:=B.StaysIn h/\B.get? ex=none/\h.FunFrames B l/\TrD h B ex cls dx fl
theorem lW.there{B h:Heap}{l:List Env}{ex:Addr}{cls fl:Value}{dx:Option Addr}(x:lW B l ex cls dx fl h):∃ob,h.get? ex=some ob/\ob.cls=cls/\ob.dict=dx/\∃fs,ob.data= .fields fs:=by obtain⟨_,_,_,ob,fs,_,_,_,e,c,d,z,_⟩:=x;exact⟨ob,e,c,d,fs,z⟩
section
variable {M:Model}{A:ai}{E:Value->af->Prop}{s:af}{B:Heap}{env:Env}{outer:List Env}{L ex:Addr}{ob:Obj}{fs:Array Value}{head:Value}{nx:Bool}{Q:Unit->af->Prop}{cls fl:Value}{dx:Option Addr}
theorem Pa(hA:A.frames=some (env::outer))(ff:s.heap.FunFrames B (env::outer))(hL:env.frame=some L)(ho:s.heap.get? ex=some ob)(st:B.StaysIn s.heap)(hB:B.get? ex=none)(hd:ob.data= .fields fs)(hz:1<fs.size) (q:∀h',lW B (env::outer) ex ob.cls ob.dict (rawInt L) h'->s.heap.UpToSlots h'->Q () {s with heap:=h'}): wpAny M A (do let a<-frameOf env;let pl<-entryPlaceOf L nx;let b<-EntryCells.newEntry head a .none (rawInt L) .none pl;setField (.ref ex) 1 b) Q E s:=by
 have zQ:ex∉(env::outer).filterMap (·.frame):=λhm=>by obtain⟨_,o,e1,nf⟩:=ff.mem hm;rw[ho]at e1;cases e1;exact nf fs hd
 refine aF (wpAny_frameOf_fun hA ff hL λg1 k1=>aF (wpAny_entryPlaceOf λpl hp=>?_));unfold EntryCells.newEntry newFields;refine aF (nj ?_ (hp.sizeOk5 _ _ _ _ _));have o1:g1.get? ex=some ob:=(k1.2.1 ex zQ).trans ho;have C4:B.StaysIn g1:=λb o e=>(k1.2.1 b λhm=>by rw[(ff.mem hm).1]at e;cases e).trans (st b o e);generalize hT:({cls:=.type "traceback",dict:=none,data:=.fields ([head,.ref L,.none,rawInt L,.none]++(if pl.isEmpty then List.replicate 6 Value.none else pl)).toArray}:Obj)=T;have o2:(g1.push T).get? ex=some ob:=cw T o1;refine Br o2 hd hz (q _ ?_ ?_);all_goals have ne:g1.objs.size≠ex:=yH (cn o1)
 all_goals have keep:∀b o,b≠ex->g1.get? b=some o->((g1.push T).update ex (Obj.mapFields (·.setIfInBounds 1 (Value.ref g1.objs.size)))).get? b=some o:=λb o nb e=>by rw[yQ _ _ (jg nb)];exact cw _ e
 all_goals have pC:∀b o,s.heap.get? b=some o->(∀vs,o.data≠ .fields vs)->b≠ex:=λb o e nf z=>by rw[z,ho]at e;cases e;exact nf fs hd
 ·have d3:=BD hd (·.setIfInBounds 1 (Value.ref g1.objs.size))
  have o3:=BO (Obj.mapFields (·.setIfInBounds 1 (Value.ref g1.objs.size))) o2 (RP d3);refine⟨λb o e=>keep b o (λz=>by rw[z,hB]at e;cases e) (C4 b o e),hB,ff.of_keeps λb o e nf=>?_,?_⟩
  ·obtain⟨sl,e1⟩:=k1.2.2 b o e
   exact⟨_,keep b _ (pC b o e nf) e1,Z⟩
  ·refine⟨_,_,g1.objs.size,T,_,o3,Obj.cls_mapFields _ _,a3E _ _,d3,by simp[hz],C4.fresh,ne,?_,by rw[<-hT],?_⟩
   ·rw[yQ _ _ (jg ne)];exact eu g1 (by rw[<-hT];rfl)
   ·first|(simp;done)|(rcases hp with rfl|⟨_,_,_,_,_,_,_,rfl⟩<;>simp)
 ·intro b o e nf
  obtain⟨sl,e1⟩:=k1.2.2 b o e;exact⟨sl,keep b _ (pC b o e nf) e1⟩
theorem XQ(hA:A.frames=some (env::outer))(ff:s.heap.FunFrames B (env::outer))(hL:env.frame=some L)(ho:s.heap.get? ex=some ob)(st:B.StaysIn s.heap)(hB:B.get? ex=none)(hd:ob.data= .fields fs)(h1:fs[1]? =some .none) (q:∀h',lW B (env::outer) ex ob.cls ob.dict (rawInt L) h'->s.heap.UpToSlots h'->Q () {s with heap:=h'}):wpAny M A (noteFrame (.ref ex) env) Q E s:=by unfold noteFrame;simp only[hL];refine aF (ik ho hd h1 ?_);rw[bf au];exact Pa hA ff hL ho st hB hd (IW.mp h1).1 q
theorem XO(hA:A.frames=some (env::outer))(hL:env.frame=some L)(x:lW B (env::outer) ex cls dx .none s.heap) (q:∀h',lW B (env::outer) ex cls dx (rawInt L) h'->s.heap.UpToSlots h'->Q () {s with heap:=h'}):wpAny M A (noteFrame (.ref ex) env) Q E s:=by
 obtain⟨st,hB,ff,ob,fs,tb,ot,ts,ho,rfl,rfl,hd,h1,AB,nt,ht,mK,h3⟩:=x;unfold noteFrame;simp only[hL];refine aF (ik ho hd h1 ?_);rw[aX (show(Value.ref tb !=Value.none)=true from by simp)];refine aF (ik ht mK h3 ?_);rw[bf (show¬((Value.none==rawInt L)=true)from by simp[rawInt])];refine aF (Br ht mK (IW.mp h3).1 ?_);have other:∀b,b≠tb->(s.heap.update tb (Obj.mapFields (·.setIfInBounds 3 Value.none))).get? b=s.heap.get? b:=λb nb=>yQ _ _ (jg nb);have pC:∀b o,s.heap.get? b=some o->(∀vs,o.data≠ .fields vs)->b≠tb:=λb o e nf z=>by rw[z,ht]at e;cases e;exact nf ts mK
 refine Pa (s:={s with heap:=s.heap.update tb (Obj.mapFields (·.setIfInBounds 3 Value.none))}) hA (ff.of_keeps λb o e nf=>⟨o,(other b (pC b o e nf)).trans e,Z⟩) hL ((other ex (jg nt)).trans ho) (λb o e=>(other b λz=>by rw[z,AB]at e;cases e).trans (st b o e)) hB hd (IW.mp h1).1 λh' y up=>q h' y λb o e nf=>up b o ((other b (pC b o e nf)).trans e) nf
theorem GA{l:List Env}(x:lW B l ex cls dx fl s.heap)(q:∀h',lW B l ex cls dx .none h'->s.heap.UpToSlots h'->Q () {s with heap:=h'}):wpAny M A (setFlight (.ref ex) none) Q E s:=by
 obtain⟨st,hB,ff,ob,fs,tb,ot,ts,ho,hc,hx,hd,h1,AB,nt,ht,mK,h3⟩:=x;have z3:3<ts.size:=(IW.mp h3).1;have other:∀b,b≠tb->(s.heap.update tb (Obj.mapFields (·.setIfInBounds 3 ((none:Option Addr).elim Value.none λf=>rawInt f)))).get? b=s.heap.get? b:=λb nb=>yQ _ _ (jg nb);have pC:∀b o,s.heap.get? b=some o->(∀vs,o.data≠ .fields vs)->b≠tb:=λb o e nf z=>by rw[z,ht]at e;cases e;exact nf ts mK
 unfold setFlight;refine aF (ik ho hd h1 ?_);rw[aX (show(Value.ref tb !=Value.none)=true from by simp)];refine Br ht mK z3 (q _ ⟨λb o e=>(other b λz=>by rw[z,AB]at e;cases e).trans (st b o e),hB,ff.of_keeps λb o e nf=>⟨o,(other b (pC b o e nf)).trans e,rfl⟩,?_⟩ λb o e nf=>⟨o.slots,(other b (pC b o e nf)).trans e⟩);exact⟨ob,fs,tb,_,_,(other ex (jg nt)).trans ho,hc,hx,hd,h1,AB,nt,BO _ ht (RP (BD mK _)),BD mK _,by simp[z3]⟩
theorem YG(hA:A.frames=some (env::outer))(ff:s.heap.FunFrames B (env::outer))(hL:env.frame=some L)(ho:s.heap.get? ex=some ob)(st:B.StaysIn s.heap)(hB:B.get? ex=none)(hd:ob.data= .fields fs)(h1:fs[1]? =some .none) (q:∀h',lW B outer ex ob.cls ob.dict .none h'->s.heap.UpToSlots h'->Q () {s with heap:=h'}):wpAny M A (leaving env (.ref ex)) Q E s:=by unfold leaving;refine aF (XQ hA ff hL ho st hB hd h1 λh1 x1 u1=>GA x1 λh2 x2 u2=>q h2 ?_ (u1.trans u2));obtain⟨a,b,⟨_,_,c⟩,d⟩:=x2;exact⟨a,b,c,d⟩
end
end L2
namespace L2
open PySem PySem.Spec PyProof.Rows
open Builtin Builtin.ObjectAttr
def oW:List Value:=[.type "ValueError",.type "Exception",.type "BaseException",.type "object"]
def mj:List Value->Bool | .ref _::r=>mj r |l=>l==oW
theorem M9(self:Value){l:List Value}(e:mj l=true):refuseLoop self "__setattr__" l=pure ():=by induction l with |nil=>simp[mj,oW]at e |cons v r ih=>cases v with |ref c=>rw[refuseLoop_ref];exact ih (by simpa[mj]using e) |_=>have e':=eU.mp (show(_==oW)=true from e);rw[e'];exact PySem.F.store_ValueError.passes self
theorem Oo{t:String}(ht:(oW.contains (.type t))=true):∀{l:List Value},mj l=true->l.contains (.type t)=true |l,e=>by induction l with |nil=>simp[mj,oW]at e |cons v r ih=>cases v with |ref c=>rw[RW,ih (by simpa[mj]using e),Bool.or_true] |_=>have e':=eU.mp (show(_==oW)=true from e);rw[e'];exact ht
def EY(K:a8)(C:Addr):Bool:=(PySem.W.clsIn K C).any λcd=>mj cd.mro
section
variable {prog:ag}{w:World}{A:ai}{E:Value->af->Prop}{s:af}{K:a8}{x C:Addr}{ox:Obj}{fs:Array Value}{name:Str}{v:Value}{Q:Unit->af->Prop}
theorem Ui(X:K.In s.heap)(hx:s.heap.get? x=some ox)(hc:ox.cls= .ref C)(hd:ox.dict=none)(hf:ox.data= .fields fs) (hs:PySem.W.findIn K (.ref C) "__setattr__"=some (some (.builtin "object.__setattr__")))(hp:EY K C=true)(ht:PySem.W.takerIn K C name=some none)(hh:PySem.W.hasDictIn K C=true) (h:∀h',h'.get? x=some {ox with dict:=some s.heap.objs.size}->h'.Ns1 s.heap.objs.size (λy=>if y=name then some v else none)->(∀b o,b≠x->s.heap.get? b=some o->h'.get? b=some o)->Q () {s with heap:=h',toks:=s.toks+2}): wpAny (model prog w) A (setAttr (.ref x) name v) Q E s:=by
 have I:PySem.W.InstAt s.heap x ox C none:=⟨hx,hc,by unfold PySem.W.notCls;rw[hf],by rw[hd];trivial⟩;refine PySem.W.set_plain X I hs ?_;have SF:=PySem.F.store_object;obtain⟨cd,eR,ho⟩:=Iq hp;have ne:cd.mro.isEmpty=false:=by cases q:cd.mro with|nil=>rw[q]at ho;simp[mj,oW]at ho|cons _ _=>rfl
 have sub:PySem.W.Looks (model prog w) s.heap (isInstance (.ref x) (.type "object")) true:=I.type.andThen (PySem.W.looks_mroIn X (by unfold PySem.W.mroIn;rw[eR,Option.bind_some,bf (by rw[ne];decide),Oo au ho]));refine Bz SF.slot.plain SF.entry (@PySem.W.check_slot (model prog w) _ _ {s with toks:=s.toks+1} "object.__setattr__" "object" "__setattr__" (.ref x) [.str name s.toks,v] [] _ SF.kind SF.split sub (SF.args (.ref x) (.str name s.toks) v) ?_);obtain⟨attr,ha,hr⟩:=RO.mp ht;have hm:PySem.W.Looks (model prog w) s.heap (mroOf (.ref C)) cd.mro:=(Im X eR).andThen .now;have L3:PySem.W.Looks (model prog w) s.heap (storeTaker? attr) none:=by cases attr with |none=>exact .now |some a=>obtain⟨b,hb,e⟩:=yG.mp hr;refine(PySem.W.looks_takesIn X hb).andThen ?_;cases b with |false=>exact .now |true=>cases e
 rw[PySem.W.osa_eq,refuse_eq];refine aF (aF (m5 (s:={s with toks:=s.toks+1}) I.type (aF (m5 (s:={s with toks:=s.toks+1}) hm ?_))));rw[M9 _ ho];refine bH (aF (m5 (s:={s with toks:=s.toks+1}) I.type (aF (m5 (s:={s with toks:=s.toks+1}) (PySem.W.looks_findIn X ha) (aF (m5 (s:={s with toks:=s.toks+1}) L3 ?_))))));obtain⟨cd2,jC,hd2⟩:=Iq hh;refine aF (bH (aF (aF (wpAny_loadPart (s:={s with toks:=s.toks+1}) hx ?_))));rw[hc];refine aF (m5 (s:={s with toks:=s.toks+1}) (Im X jC) ?_);rw[hd2,hd,hf];rw[bf au];show wpAny _ _ (if(!true|| !typeHasDict (Value.ref C))=true then _ else _) _ _ _;rw[bf (by simp[typeHasDict])];have x1:(s.heap.push {cls:=.type "dict",data:=.dict #[]}).get? x=some ox:=cw _ hx;have nx:x≠s.heap.objs.size:=dW (cn hx);refine aF (wpAny_alloc' (aF (wpAny_update' x1 (bH ?_))));have gd:((s.heap.push {cls:=.type "dict",data:=.dict #[]}).update x λo=>{cls:=o.cls,dict:=some s.heap.objs.size,data:=o.data,slots:=o.slots}).get? s.heap.objs.size=some {cls:=.type "dict",data:=.dict #[]}:=(Heap.get?_update_ne _ _ _ _ nx.symm).trans (Heap.get?_push_at Z rfl);have n0:((s.heap.push {cls:=.type "dict",data:=.dict #[]}).update x λo=>{cls:=o.cls,dict:=some s.heap.objs.size,data:=o.data,slots:=o.slots}).Ns s.heap.objs.size (λ_=>none):=⟨_,#[],_,gd,Z,(λe he=>absurd he (by simp)),λ_=>rfl⟩;show wpAny _ _ (storeInDict s.heap.objs.size (.str name s.toks) name v) _ _ _;unfold storeInDict newKeyGuard;refine aF (bH (aF (wpAny_nsSet1 (Heap.Ns1.of_empty n0) λh2 n2 sb=>?_)));obtain⟨oD,esD,epD,e1,e2,e3⟩:=n2.count (PySem.Within.cons name v PySem.Within.nil);refine aF (wpAny_lookBehind e1 (by rw[e2];exact pastItsLine_dict (eL e3 (by rw[nq,List.length_nil,sizeLine_eq];lia))) ?_);refine bH (h h2 ?_ n2 λb o nb e=>?_)
 ·refine(sb.2 x nx).trans (BO _ x1 ?_)
  obtain⟨oc,od,F3,fG⟩:=ox;cases hf;rfl
 ·exact(sb.2 b (dW (cn e))).trans ((Heap.get?_update_ne _ _ _ _ nb).trans (cw _ e))
end
end L2
namespace L2
open PySem PySem.Spec PyProof.Rows
def oK(ex C:Addr)(h:Heap):Prop:=∃ob fs,h.get? ex=some ob/\ob.cls= .ref C/\ob.dict=none/\ob.data= .fields fs/\fs[1]? =some .none
def km(ex C dx:Addr)(h:Heap):Prop:=∃ob fs,h.get? ex=some ob/\ob.cls= .ref C/\ob.dict=some dx/\ob.data= .fields fs/\fs[1]? =some .none
structure vb(K:a8)(C:Addr)(f:Str):Prop where
 sa:PySem.W.findIn K (.ref C) "__setattr__"=some (some (.builtin "object.__setattr__"))
 ov:EY K C=true
 tk:PySem.W.takerIn K C f=some none
 hd:PySem.W.hasDictIn K C=true
inductive a6B(K:a8)(f:Str)(D:Ends)(O:St)(y:V)(x:V)(H2:Hp):Prop |mk (ex:_)(C:_)(h0:x= .ref ex)(h1:H2 ex=some (.ext (oK ex C)))(h2:vb K C f)(h3:∀dx,H2 dx=none->dx≠ex->D.nx O (upd (upd H2 dx (.xd [(f,y)])) ex (.ext (km ex C dx))))
def Up(K:a8)(ta tv:TE)(f:Str):TS:=λD O H=>tv O H λy H1=>ta O H1 λx H2=>a6B K f D O y x H2
section
variable {X:Cx}{o e value:Expr}{f:Str}{pos pos' tP:Pos}{ta tv:TE}
theorem Vt(K:a8)(hK:X.K=K)(ha:PE X o ta)(hv:PE X value tv)(hs:swapsWith value (some (.Attribute o f pos')) pos.line X.env=pure false:=by rfl):PS X (.Assign [.Attribute o f pos'] value pos) (Up K ta tv f):=by
 subst hK;intro ao s O H D I h;refine plainObj_wpAny_Assign_Attribute (aY (hv ao s O H _ I h) λu s1 ⟨y,H1,I1,ry,q⟩=>aY (ha ao s1 O H1 _ I1 q) λov s2 ⟨x,H2,I2,rx,ex,C,e1,ee,xc,q2⟩=>?_) hs;subst e1;obtain rfl:ov=Value.ref ex:=rx;obtain⟨⟨ob,fs,g1,g2,g3,g4,g5⟩,_,_⟩:=(show fe X.prog X.w H2 s2.heap ex (.ext (oK ex C))from I2.bj ex _ ee);refine Ui I2.fX g1 g2 g3 g4 xc.sa xc.ov xc.tk xc.hd λh' k1 k2 k3=>?_;have ne:s2.heap.objs.size≠ex:=yH (cn g1);have fr:H2 s2.heap.objs.size=none:=I2.bj.fresh (bw _);obtain⟨oD,es,ep,d1,d2⟩:=id k2;have ZS:(s2.heap.push oD).get? s2.heap.objs.size=some oD:=eu _ (by obtain⟨oc,od,F3,fG⟩:=oD;have:F3= .dict es ep:=d2.1;subst this;rfl);have hd1:fe X.prog X.w (upd H2 s2.heap.objs.size (.xd [(f,y)])) (s2.heap.push oD) s2.heap.objs.size (.xd [(f,y)]):=by
  refine⟨_,k2.at λo e=>?_,λg=>?_⟩
  ·rw[d1]at e;cases e;exact ZS
  ·by_cases q:g=f
   ·subst q
    simp only[List.lookup,Ik,qE];exact ry
   ·have:(g==f)=false:=by simpa using q
    simp only[List.lookup,this,bf q];trivial
 have J1:=I2.laid (a:=s2.heap.objs.size) (o:=.xd [(f,y)]) (h':=s2.heap.push oD) (t':=s2.toks+2) (λb u q=>cw _ q) (bw _) hd1;have J2:=J1.write (x:=ex) (e:=ex) (o:=.ext (km ex C s2.heap.objs.size)) (h':=h') (t':=s2.toks+2) (by rw[bL ne.symm,ee];trivial) (.inl Z) (λb u nb e=>by
  rcases S3 e with⟨rfl,rfl⟩|e
  ·exact d1
  ·exact k3 b u nb e) ⟨_,k1⟩ ⟨⟨_,fs,k1,g2,Z,g4,g5⟩,⟨_,k1⟩,λh1 h2 ⟨rn,uM,z1,z2⟩ k=>⟨rn,uM,k _ z1,z2⟩⟩;exact⟨O,_,J2,q2 _ fr ne⟩
end
abbrev P2(rest:List Value):Obj:={cls:=.type "tuple",data:=.seq rest.toArray}
abbrev GJ(C t:Addr):Obj:={cls:=.ref C,data:=.fields #[.ref t,.none,.none,.none,.bool false,.none]}
abbrev lP(h:Heap)(C:Addr)(rest:List Value):Heap:=(h.push (P2 rest)).push (GJ C h.objs.size)
section
variable {prog:ag}{w:World}{A:ai}{E:Value->af->Prop}{h:Heap}{g:Array GenState}{d:Drawn}{t:Nat}{os:OsState}
variable {nm q:Str}{C N fI:Addr}{bs bm fb:List Value}{hdct:Bool}{sn:List Str}{sub:List Value}{ab:Bool}{col:Option Bool}{dd:Option Addr}{k0 k1 k2 k3 k5:Option Value}{B newId uz:String}{mN:bS}{rest:List Value}{oI:Obj}
theorem P4:(lP h C rest).get? (h.objs.size+1)=some (GJ C h.objs.size):=by have:=eu (h.push (P2 rest)) (o:=GJ C h.objs.size) rfl;rwa [qK]at this
theorem uO{b:Addr}{o:Obj}(e:h.get? b=some o):(lP h C rest).get? b=some o:=cw _ (cw _ e)
theorem SU(F:ExcBaseFacts B newId uz fb)(T:OwnTail h fb bm){Q:Fin->af->Prop}(hC:h.get? C=some (excClassObj nm q C N bs bm hdct sn sub ab col dd k0 k1 k2 k3 k5 newId))(hn:h.Ns N mN)(hi:mN "__init__"=some (.ref fI)) (hf:h.get? fI=some oI)(Gd:oI.cls= .type "function")(hz:rest.length<=sizeLine) (hq:wpAny (model prog w) A (call (.ref fI) (.ref (h.objs.size+1)::rest)) (λr s'=>r= .none/\Q (.done (.ret (.ref (h.objs.size+1)))) s') E ⟨lP h C rest,g,d,t,os⟩): wpAny (model prog w) A (Builtin.«type.__call__» ⟨.ref C::rest,[]⟩) Q E ⟨h,g,d,t,os⟩:=by
 repeat (first|with_reducible refine tj hC ?_|with_reducible refine wpAny_madeBy_exc hC ?_|wp_step)
 refine codeAny_call_builtin_code (Code.quiet_builtin _ F.quiet) (wpAny_check_new_subT F T hC (codeAny_exc_new_subT F T hC ?_ hz));show wpAny _ _ _ _ _ _;have c1:=uO (C:=C) (rest:=rest) hC;have f1:=uO (C:=C) (rest:=rest) hf;have n1:(lP h C rest).Ns N mN:=let⟨o,es,ep,e,r⟩:=hn;⟨o,es,ep,uO e,r⟩;have x1:=P4 (h:=h) (C:=C) (rest:=rest);have cc:(Value.ref C::bm).contains (.ref C)=true:=by simp
 have T1:=T.keeps (h':=lP h C rest) λb o e=>uO e;unfold isInstance
 repeat (first|with_reducible refine tj x1 ?_|(with_reducible refine Ig c1 ?_;rw[cc])|wp_step)
 show wpAny _ _ (typeLookup (.ref C) _) _ _ _;refine wpAny_typeLookup_tail c1 n1 T1 F.mroIs F.init.lookup ?_;rw[hi];refine jI (aF ?_);unfold bindSpecial;refine aF (wpAny_typeOf (T:="function") ⟨_,f1,Gd⟩ ?_);rw[aX au];refine bH (aF (eJ hq (λr s' ⟨e,z⟩=>?_) λ_ _ z=>z));subst e
 wp_walk;exact z
theorem a4o(F:ExcBaseFacts B newId uz fb)(T:OwnTail h fb bm){Q:Value->af->Prop}(hC:h.get? C=some (excClassObj nm q C N bs bm hdct sn sub ab col dd k0 k1 k2 k3 k5 newId))(hn:h.Ns N mN)(hi:mN "__init__"=some (.ref fI)) (hf:h.get? fI=some oI)(Gd:oI.cls= .type "function")(hz:rest.length<=sizeLine) (hq:wpAny (model prog w) (A.under (.builtin "type.__call__" ⟨.ref C::rest,[]⟩)) (call (.ref fI) (.ref (h.objs.size+1)::rest)) (λr s'=>r= .none/\Q (.ref (h.objs.size+1)) s') E ⟨lP h C rest,g,d,t,os⟩): wpAny (model prog w) A (call (.ref C) rest) Q E ⟨h,g,d,t,os⟩:=by
 have f1:=tc_lookup;have f2:=tc_bind (.ref C);have hT:(⟨h,g,d,t,os⟩:af).TypeIs (.ref C) "type":=⟨_,hC,Z⟩;refine tm (codeAny_of_tree ?_);show wpAny _ _ (callAny (.ref C) _) _ _ _
 repeat (any_goals (first|assumption|with_reducible refine tj hC ?_|wp_step))
 refine⟨Z,codeAny_call_builtin_at (Code.quiet_builtin _ aP) entry_typeCall (wpAny_check_type_call_sub hC (SU F T hC hn hi hf Gd hz ?_))⟩;exact hq
end
section
variable {M:Model}{A:ai}{E:Value->af->Prop}{env:Env}{nm q:Str}{C N:Addr}{bs bm:List Value}{hdct:Bool}{sn:List Str}{sub:List Value}{ab:Bool}{col:Option Bool}{dd:Option Addr}{k0 k1 k2 k3 k5:Option Value}{newId:String}
theorem V6{s:af}{x:Sem Value}{Q:Flow->af->Prop}(hb:bm.contains (.type "BaseException")=true)(hh:A.handled=none) (h:wpAny M A x (λv s1=>∃e oe fs,v= .ref e/\s1.heap.get? C=some (excClassObj nm q C N bs bm hdct sn sub ab col dd k0 k1 k2 k3 k5 newId)/\s1.heap.get? e=some oe/\oe.cls= .ref C/\oe.data= .fields fs/\fs[1]? =some .none/\E (.ref e) s1) E s): wpAny M A (raiseStmt env (some x) none) Q E s:=by
 have cb:(Value.ref C::bm).contains (.type "BaseException")=true:=by rw[RW,hb,Bool.or_true]
 unfold raiseStmt;refine aF (eJ h (λv s1 ⟨e,oe,fs,ev,hC,he,hc,mK,h1,hE⟩=>?_) λ_ _ z=>z);subst ev;obtain⟨hp,g,d,tk,os⟩:=s1;obtain⟨oc,odd,F3,fG⟩:=oe;cases hc;cases mK
 repeat (first|with_reducible refine tj he ?_|with_reducible refine tj hC ?_|(with_reducible refine Ig hC ?_;rw[cb])|rw[h1]|wp_step)
 exact wpAny_raiseNew_none hh hE
end
def td(P:ag)(w:World):jf:=λouter H s E e s'=>∃(ex:Addr)(cls:Value)(dx:Option Addr)(H':Hp)(B:Heap),e= .ref ex/\s'.os=s.os/\AllBare s'.gens/\lW B outer ex cls dx .none s'.heap/\Fl P w outer H s.heap ex H' B s'.heap/\E cls dx H'
theorem Hh{H:Hp}{p:Addr}:del H p p=none:=by unfold del;rw[aX rfl]
theorem sL{H:Hp}{p b:Addr}(h:b≠p):del H p b=H b:=by unfold del;rw[bf h]
theorem dH.del{P:ag}{w:World}{H:Hp}{h:Heap}{p:Addr}{φ:Heap->Prop}(ok:dH P w H h)(e:H p=some (.ext φ)):dH P w (del H p) h:=λb u q=>by
 obtain⟨nb,q⟩:=jE.mp q;refine(ok b u q).kx (λ_ _ _ z=>z) (λc z=>?_) λc xs z=>?_
 ·rw[sL (λy=>by rw[y,e]at z;cases z)];exact z
 ·rw[sL (λy=>by rw[y,e]at z;cases z)];exact z
section
variable {P:ag}{w:World}{K:a8}{mg:bS}{az:Heap}{N:List Str}{qual:Str}{scope:Scope}{f:Addr}{cd:Value}{A:ai}{outer:List Env}{s:af}{H:Hp}{E:XK}{ao:List (Addr×Obj)}{O:St}{H1:Hp}{s1:af}{ex:Addr}{C:Addr}{dx:Addr}
theorem tL(I:Inv (ie (td P w) P w K mg az N qual scope f cd A outer s H E) ao O H1 s1)(hx:H1 ex=some (.ext (km ex C dx)))(hs:s.heap.objs.size<=ex)(q:E (.ref C) (some dx) (del H1 ex)): (ie (td P w) P w K mg az N qual scope f cd A outer s H E).xe (.ref ex) s1:=by
 have jW:s1.heap.FunFrames az (envOfC qual scope s.heap.objs.size f cd::outer):=I.stack;have oq:∀env∈(envOfC qual scope s.heap.objs.size f cd::outer),∀b,env.frame=some b->b∈ex::eS (envOfC qual scope s.heap.objs.size f cd::outer):=λenv he b hb=>.tail _ (vq.mpr ⟨env,he,hb⟩);have hB:(PySem.W.hideAll s1.heap (ex::eS (envOfC qual scope s.heap.objs.size f cd::outer))).StaysIn s1.heap:=λb o e=>PySem.W.of_hideAll _ e;obtain⟨⟨ob,fs,g1,g2,g3,g4,g5⟩,_,_⟩:=(show fe P w H1 s1.heap ex (.ext (km ex C dx))from I.bj ex _ hx);have nw:s.heap.get? ex=none:=Heap.get?_none_of_le hs;have zQ:∀b o,s.heap.get? b=some o->b∉eS outer->b∉ex::eS (envOfC qual scope s.heap.objs.size f cd::outer):=λb o e hb hm=>by
  rcases cR.mp hm with rfl|hm
  ·rw[nw]at e;cases e
  obtain⟨env,he,hf⟩:=vq.mp hm;rcases cR.mp he with rfl|he
  ·have e1:s.heap.objs.size=b:=dU hf
   have h1:=cn e;rw[<-e1]at h1;exact absurd h1 (vo _)
  ·exact hb (vq.mpr ⟨env,he,hf⟩)
 have Fe:∀b u,H1 b=some u->(∀φ,u≠ .ext φ)->del H1 ex b=some u:=λb u e n=>by rw[sL (λz=>by rw[z,hx]at e;exact n _ (dU e).symm)];exact e
 have F0:Fl P w outer H s.heap ex (del H1 ex) (PySem.W.hideAll s1.heap (ex::eS (envOfC qual scope s.heap.objs.size f cd::outer))) s1.heap:=by
  refine⟨⟨I.az.keep,I.az.slot,λb o e n hb=>?_,I.az.there,λb xs e=>Fe b _ (I.az.jm b xs e) (λ_ z=>nomatch z),λb o u e=>Fe b _ (I.az.ja b o u e) (λ_ z=>nomatch z),λb ps e=>?_⟩,I.bj.del hx,λb o e n hb=>Io _ (I.az.keep b o e n hb (fq)) (zQ b o e hb),λb o e=>?_,λb o e hb=>?_,λb hb=>?_,nw,Hh⟩
  ·by_cases z:b=ex
   ·rw[z];exact Hh
   ·rw[sL z];exact I.az.free b o e n hb
  ·obtain⟨more,e1⟩:=I.az.jn b ps e
   exact⟨more,Fe b _ e1 (λ_ z=>nomatch z)⟩
  ·obtain⟨nb,e⟩:=jE.mp e
   obtain⟨rn,e1⟩:=(I.bj b o e).there;refine⟨rn,Io _ e1 λhm=>?_⟩;rcases cR.mp hm with z|hm
   ·exact nb z
   ·rw[I.zl b hm]at e
    cases e
  ·obtain⟨rn,e1⟩:=I.az.there b o e (fq)
   exact⟨rn,Io _ e1 (zQ b o e hb)⟩
  ·obtain⟨env,he,hf⟩:=vq.mp hb
   have e1:=I.zl b (vq.mpr ⟨env,.tail _ he,hf⟩);by_cases z:b=ex
   ·rw[z];exact Hh
   ·rw[sL z];exact e1
 show wpAny (model P w) (A.deeper (envOfC qual scope s.heap.objs.size f cd)) (leaving (envOfC qual scope s.heap.objs.size f cd) (.ref ex)) _ _ _;refine YG (L:=s.heap.objs.size) I.ok.frames (PySem.W.funFrames_hide jW oq) Z g1 hB (PySem.W.hideAll_none _ (.head _)) g4 g5 λh' x1 x2=>?_;exact⟨ex,.ref C,some dx,del H1 ex,_,Z,I.os,I.bare,by rw[g2,g3]at x1;exact x1,F0.step hB x1.1 x2 jW.2.2,q⟩
end
def GI(K:a8)(C fI:Addr)(fb:List Value)(newId:String):Bool:=match K.lookup C with |some ⟨.type "type",_,.cls cd,sl⟩=>(match cd.mro,sl.toList with | .ref C'::bm,[_,_,_,_,some (.builtin n),_]=>C'==C&&n==newId&& !cd.hasDel&&PySem.W.tailIn K fb bm&&PySem.W.nsOkIn K cd.ns&&(PySem.W.nsIn K cd.ns "__init__"==some (some (.ref fI))) |_,_=>false) |_=>false
structure sZ(K:a8)(mg:bS)(x:Str)(C fI:Addr)(fb:List Value)(newId:String):Prop where
 at':mg x=some (.ref C)
 ok:GI K C fI fb newId=true
theorem XN{K:a8}{h:Heap}{N:Addr}{m:bS}{n:Str}{v:Value}(X:K.In h)(G:h.Ns N m)(e:PySem.W.nsIn K N n=some (some v)):m n=some v:=by
 obtain⟨o,es,ep,ho,hd,_,hf⟩:=G;unfold PySem.W.nsIn at e;split at e
 ·rename_i c d gY n' sl q
  have z:=X _ _ q;rw[ho]at z;cases z;cases hd;split at e
  ·rename_i en he
   cases e;rw[<-hf];unfold nsFind findBy;rw[<-Array.find?_toList,he];rfl
  ·split at e<;>cases e
 ·cases e
theorem sZ.own{K:a8}{mg:bS}{x:Str}{C fI:Addr}{fb:List Value}{newId:String}{h:Heap}(e:sZ K mg x C fI fb newId)(X:K.In h): ∃tl N nm q bs hdct sn sub ab col dd k0 k1 k2 k3 k5 mN,h.get? C=some (excClassObj nm q C N bs tl hdct sn sub ab col dd k0 k1 k2 k3 k5 newId)/\h.Ns N mN/\mN "__init__"=some (.ref fI)/\OwnTail h fb tl:=by
 have q:=e.ok;unfold GI at q;split at q
 ·rename_i dd cd sl ho
  split at q
  ·rename_i D2 bl a0 a1 a2 a3 nn a5 hm hs
   simp only[eU,f9,S5]at q;obtain⟨⟨⟨⟨⟨r1,r2⟩,xo⟩,ht⟩,bj⟩,xb⟩:=q;subst r1 r2;obtain⟨c1,c2,c3,c4,c5,c6,c7,c8,c9,Hq,c11⟩:=cd;dsimp only at hm xo bj xb;subst hm xo;obtain⟨l⟩:=sl;simp only at hs;subst hs;have G:=Heap.Ns.of_isNs (PySem.W.isNs_of_in X bj);exact⟨bl,c4,c1,c5,c2,c6,c7,c8,c9,Hq,dd,a0,a1,a2,a3,a5,_,X _ _ ho,G,XN X G xb,PySem.W.tail_of_in X ht⟩
  ·cases q
 ·cases q
def fnAt(K:a8)(f:Addr):Bool:=match K.lookup f with |some o=>o.cls== .type "function" |none=>false
theorem a1T{K:a8}{h:Heap}{f:Addr}(X:K.In h)(e:fnAt K f=true):∃o,h.get? f=some o/\o.cls= .type "function":=by
 unfold fnAt at e;split at e
 ·rename_i o ho
  exact⟨o,X _ _ ho,eU.mp e⟩
 ·cases e
def T9(E:XK)(C:Addr)(sp:Sp)(t:TA):TS:=λ_ O H=>t O H λvs H1=>vs.length<=sizeLine/\∀ex,H1 ex=none->sp (.ref ex::vs) (upd H1 ex (.ext (oK ex C))) (λv H2=>v= .bR/\∃dx,H2 ex=some (.ext (km ex C dx))/\E (.ref C) (some dx) (del H2 ex)) (λ_ _ _=>False)
section
variable {X:Cx}{x:Str}{C fI:Addr}{fb:List Value}{newId uz B:String}{e:Expr}{t:TA}{np dR pos:Pos}{k:Nat}{fd:FuncData}{ps:List Str}{sp:Sp}
end
def lY(ex:Addr)(cls:Value)(dx:Option Addr)(h:Heap):Prop:=∃o,h.get? ex=some o/\o.cls=cls/\o.dict=dx/\∃fs,o.data= .fields fs
def ClsAt(K:a8)(C:Addr):Prop:=∀h,K.In h->∃nm q N bs tl hdct sn sub ab col dd k0 k1 k2 k3 k5 newId,h.get? C=some (excClassObj nm q C N bs tl hdct sn sub ab col dd k0 k1 k2 k3 k5 newId)
theorem sZ.cls{K:a8}{mg:bS}{x:Str}{C fI:Addr}{fb:List Value}{newId:String}(e:sZ K mg x C fI fb newId):ClsAt K C:=λh X=>by obtain⟨tl,N,nm,q,bs,hdct,sn,sub,ab,col,dd,k0,k1,k2,k3,k5,mN,hC,_⟩:=e.own X;exact⟨nm,q,N,bs,tl,hdct,sn,sub,ab,col,dd,k0,k1,k2,k3,k5,newId,hC⟩
section
variable {X:Cx}{i:Nat}{n y:Str}{Dc:Addr}{Ba:List Value}{newD:String}{body vI:List Stmt}{b0:Stmt}{np rM pos:Pos}{tb:XK->TS}{th:TS}{Cs:Addr->Prop}
end
end L2
namespace L2
open PySem PySem.Spec PyProof.Rows PySem.W
section
variable {prog:ag}{w:World}{A:ai}{E:Value->af->Prop}{h:Heap}{g:Array GenState}{d:Drawn}{t:Nat}{os:OsState}{K:Frag}{x C:Addr}{ox:Obj}{od:Obj}{f:Str}{v:Value}
theorem a3e{b:Bool}{Q:Value->af->Prop}(X:K.In h)(k:lX K C)(I:InstAt h x ox C (some od))(ha:findIn K (.ref C) f=some none)(hl:lookIn f od=some (some v))(hv:handedIn v=true) (hq:Q v ⟨h,g,d,t+1,os⟩):wpAny (model prog w) A (getAttr (.ref x) f b) Q E ⟨h,g,d,t,os⟩:=by
 have L0:=I.type (M:=model prog w);have L1:=Bx (M:=model prog w) X k.ga;have L2:=Bx (M:=model prog w) X k.gx;have L3:=looks_find (M:=model prog w) X I (findObj_own k.is ha Z hl);have f3:=Iv.ga.bind (.ref x);have uA:(Value.builtin "BaseException.__getattribute__"==Value.builtin "object.__getattribute__")=false:=by decide+kernel
 have Ag:(b&&onTheHeap (Value.builtin "BaseException.__getattribute__"))=false:=by cases b<;>rfl
 unfold getAttr getAttrBy;refine aF (wpAny_mkText (jI (aF (L0.at (aF (L1.at ?_))))));show wpAny _ _ (if(onTheHeap (Value.ref C)&&Value.builtin "BaseException.__getattribute__"==Value.builtin "object.__getattribute__")=true then _ else _) _ _ _;rw[uA,BP,bf au];unfold getAttrByItsOwn hookBefore;refine aF ?_;show wpAny _ _ (typeLookup (.ref C) "__getattr__") _ _ _;refine L2.at (aF (Bv (jI ?_)));unfold callGetattribute;rw[Ag,bf au];unfold boundAndCalled;rw[f3];refine aF (bH (tm ?_));refine Bz Iv.ga.plain PySem.F.entry_bexc_ga (OE X k L0 ?_);refine aF (bH (aF (bH (aF (L0.at (aF (L3.at ?_)))))));exact bH (handed_on hv hq)
end
inductive a5k(K:Frag)(f:Str)(Q:VK)(x:V)(H1:Hp):Prop |mk (ex:_)(C:_)(dx:_)(fs:_)(i:_)(h0:x= .ref ex)(h1:H1 ex=some (.ext (lY ex (.ref C) (some dx))))(h2:H1 dx=some (.xd fs))(h3:lX K C)(h4:findIn K (.ref C) f=some none)(h5:fs.lookup f=some (.int i))(h6:Q (.int i) H1)
def SW(K:Frag)(ta:TE)(f:Str):TE:=λO H Q=>ta O H λx H1=>a5k K f Q x H1
section
variable {X:Cx}{e:Expr}{f:Str}{pos:Pos}{ta:TE}
theorem zI(K:Frag)(hK:X.K=K)(he:PE X e ta)(hb:attributeBase e f X.env (eval e X.env)=eval e X.env:=by rfl):PE X (.Attribute e f pos) (SW K ta f):=by subst hK;intro ao s O H Q I h;refine a4H hb (aY (he ao s O H _ I h) λu s1 ⟨x,H1,I1,rx,ex,C,dx,fs,i,ee,h1,h2,k,ha,hl,q⟩=>?_);subst ee;obtain rfl:u=Value.ref ex:=rx;obtain⟨⟨o,o1,o2,o3,uM,o4⟩,_,_⟩:=(show fe X.prog X.w H1 s1.heap ex (.ext (lY ex (.ref C) (some dx)))from I1.bj ex _ h1);obtain⟨mA,n1,n2⟩:=(show fe X.prog X.w H1 s1.heap dx (.xd fs)from I1.bj dx _ h2);obtain⟨od,e1,e2⟩:=Nl n1;have r:=n2 f;rw[hl]at r;cases em:mA f with |none=>rw[em]at r;exact r.elim |some v=>rw[em]at r;obtain⟨t,rfl⟩:=(show∃t,v=Value.int i t from r);have J:InstAt s1.heap ex o C (some od):=⟨o1,o2,by unfold notCls;rw[o4],by rw[o3];exact e1⟩;obtain⟨hp,g,d,tk,os⟩:=s1;exact a3e I1.fX k J ha (by rw[e2,em]) Z ⟨.int i,H1,I1.tok _,⟨t,Z⟩,q⟩
inductive a6R(K:Frag)(xs:List V)(H:Hp)(Q:VK):Prop |mk (ex:Addr)(C:Addr)(dx:Option Addr)(c:V)(cv:Value)(b:Bool)(h0:xs=[.ref ex,c])(h1:H ex=some (.ext (lY ex (.ref C) dx)))(h2:lX K C)(h3:a46 c=some cv)(h4:kitOne K (.ref C) cv=some b)(h5:Q (.bl b) H)
def Vf(K:Frag):List V->Hp->VK->Prop:=λxs H Q=>a6R K xs H Q
inductive a6Q(K:Frag)(xs:List V)(H:Hp)(Q:VK):Prop |mk (ex:Addr)(C:Addr)(p:Addr)(dx:Option Addr)(Ds:List Addr)(b:Bool)(h0:xs=[.ref ex,.ref p])(h1:H ex=some (.ext (lY ex (.ref C) dx)))(h2:lX K C)(h3:H p=some (.tup (Ds.map V.ref)))(h4:kitAny K (.ref C) (Ds.map Value.ref)=some b)(h5:Q (.bl b) H)
def Ve(K:Frag):List V->Hp->VK->Prop:=λxs H Q=>a6Q K xs H Q
theorem FN(K:Frag)(hK:X.K=K):eH X (.builtin "isinstance") (λxs H Q=>Vf K xs H Q\/Ve K xs H Q):=by
 subst hK;intro ao s O H xs us Q I r h;rcases h with⟨ex,C,dx,c,cv,b,rfl,he,k,hc,kb,q⟩|⟨ex,C,p,dx,Ds,b,rfl,he,k,hp,kb,q⟩
 ·obtain⟨u,v,rfl,rx,rc⟩:=vals2 r
  cases(show u=Value.ref ex from rx);have hv:v=cv:=by cases c with |ref D=>cases(show v=Value.ref D from rc);exact dU hc |ty n=>cases(show v=Value.type n from rc);exact dU hc |_=>cases hc
  subst hv;obtain⟨o,o1,o2,_⟩:=(I.bj ex _ he).1;exact kia_one (ND k) I.fX ⟨o,o1,o2⟩ kb (λz=>nomatch z) λtk=>⟨.bl b,H,I.tok _,rfl,q⟩
 ·obtain⟨u,v,rfl,rx,rc⟩:=vals2 r
  cases(show u=Value.ref ex from rx);cases(show v=Value.ref p from rc);obtain⟨o,o1,o2,_⟩:=(I.bj ex _ he).1;obtain⟨_,its,rv,⟨cls,dd,dt,sl⟩,h1,h2,n,h3⟩:=(show fe X.prog X.w H s.heap p (.tup (Ds.map V.ref))from I.bj p _ hp);simp only at h2 h3;subst h2 h3;have e:=J8 rv;subst e;exact kia_tup (ND k) I.fX ⟨o,o1,o2⟩ h1 kb (λz=>nomatch z) λtk=>⟨.bl b,H,I.tok _,rfl,q⟩
end
end L2
namespace L2
open PySem PySem.Spec PyProof.Rows
def yo(P:ag)(w:World)(K:a8)(mg:bS)(az:Heap)(x:Str)(k:Nat)(sp:Sp):Prop:=∃f fd ps,ij P w K mg az (td P w) k f fd ps sp/\mg x=some (.ref f)/\PySem.W.keepIn K (.ref f)=true/\Binds K fd ps []
theorem FA.a0D{P:ag}{w:World}{K:a8}{mg:bS}{az:Heap}{x:Str}{st:Stmt}{N ps:List Str}{k:Nat}{sp:Sp}(F:FA K mg x st)(S:bF N ps (bu st))(len:∀vs H Q E,sp vs H Q E->vs.length=ps.length) (hb:∀(kV doc pm:Value)(an:Option Addr)(aO ct:Value)(us:List Value),us.length=ps.length->bindArgs (PySem.W.fnOf x x (mS st) (gZ st) (bu st) .none kV doc pm an aO ct) ⟨us,[]⟩=pure (ps.zip us)) (j9:∀(f:Addr)(aO:Value)(A:ai)(outer:List Env)(s:af)(H:Hp)(vs:List V)(Q:VK)(E:XK),dm k (A.deeper (envOfC x (bu st) s.heap.objs.size f aO))->sp vs H Q E->∃t,gn (ie (td P w) P w K mg az N x (bu st) f aO A outer s H E) (gZ st) t/\t {nx:=λ_ H'=>Q .bR H',rt:=Q} (start N vs) H):yo P w K mg az x (k+1) sp:=by obtain⟨f,fd,hm,F⟩:=F.ex;have oy:=F.binds hb;have kp:=F.kp;obtain⟨oc,od,kV,doc,pm,an,aO,ct,fG,rfl,lk,eR⟩:=F.ex;exact⟨f,_,ps,OO lk eR S len λA outer s H vs Q E hr fY=>j9 f aO A outer s H vs Q E hr fY,hm,kp,oy⟩
section
variable {X:Cx}{k:Nat}{x:Str}{p pos:Pos}{e:Expr}{es:List Expr}{t:TA}{sp:Sp}
end
theorem a47{K:a8}{mg:bS}{h:Heap}{x:Str}{C fI:Addr}{fb:List Value}{newId:String}(X:K.In h)(G:h.Ns mainGlobals mg)(a:PySem.W.nsIn K mainGlobals x=some (some (.ref C)))(k:GI K C fI fb newId=true):sZ K mg x C fI fb newId:=⟨vm X G a,k⟩
structure lU(k:Nat)(A:ai):Prop where
 dp:A.depth+3*k+5<recursionLimit
 un:A.units+16*k+200<cLine
theorem lU.mono{j k:Nat}{A:ai}(r:lU k A)(h:j<=k):lU j A:=⟨by have:=r.dp;lia,by have:=r.un;lia⟩
theorem dm.mark{k:Nat}{A:ai}(r:dm k A)(v:Option Value):lU k (A.mark v):=⟨r.dp,r.un⟩
theorem lU.deeper{k:Nat}{A:ai}(r:lU (k+1) A)(env:Env):lU k (A.deeper env):=⟨by have:=r.dp;show A.depth+1+3*k+5<_;lia,by have:=r.un;show A.units+3+16*k+200<_;lia⟩
abbrev Hi(P:ag)(w:World)(K:a8)(mg:bS)(az:Heap)(N:List Str)(qual:Str)(scope:Scope)(f:Addr)(cd:Value)(A:ai)(outer:List Env)(s:af)(H:Hp):Cx:={(ie hW P w K mg az N qual scope f cd A outer s H (λ_ _ _=>False))with calm:=false,xe:=λ_ _=>False}
def R8(P:ag)(w:World)(K:a8)(mg:bS)(az:Heap)(k:Nat)(f:Addr)(fd:FuncData)(ps:List Str)(sp:Sp):Prop:=(∀vs H Q E,sp vs H Q E->vs.length=ps.length)/\∀(A:ai)(outer:List Env)(s:af)(H:Hp)(args:Args)(us:List Value)(vs:List V)(Q:VK),lU k A->oM P w K mg az A outer s H->BindsTo s fd args (ps.zip us)->Vals vs us->sp vs H Q (λ_ _ _=>False)->codeAny (model P w) A (.call (.ref f) args) (λr s'=>match r with| .ok (.ret u)=>CE outer P w H s Q u s'|_=>False) s
theorem a1R{P:ag}{w:World}{K:a8}{mg:bS}{az:Heap}{k:Nat}{f:Addr}{name qual:Str}{params:Arguments}{body:List Stmt}{scope:Scope}{dV kV doc pm aO ct oc:Value}{an od:Option Addr} {fG:Array (Option Value)}{N ps:List Str}{sp:Sp}(lk:K.lookup f=some ⟨oc,od,.func (PySem.W.fnOf name qual params body scope dV kV doc pm an aO ct),fG⟩)(eR:PySem.W.codeIn K aO qual=true)(S:bF N ps scope)(len:∀vs H Q E,sp vs H Q E->vs.length=ps.length) (j9:∀(A:ai)(outer:List Env)(s:af)(H:Hp)(vs:List V)(Q:VK),lU k (A.deeper (envOfC qual scope s.heap.objs.size f aO))->sp vs H Q (λ_ _ _=>False)->∃t,gn (Hi P w K mg az N qual scope f aO A outer s H) body t/\t {nx:=λ_ H'=>Q .bR H',rt:=Q} (start N vs) H): R8 P w K mg az (k+1) f (PySem.W.fnOf name qual params body scope dV kV doc pm an aO ct) ps sp:=by
 refine⟨len,λA outer s H args us vs Q hr e0 hb r fY=>?_⟩;have hl:=len _ _ _ _ fY;have KX:K.In s.heap:=e0.mod.pK.keeps λb o e=>(e0.bs b o e).1;have lim:s.heap.NoLimit:=e0.mod.nolimit.keeps λb o e=>(e0.bs b o e).1;have hk:∀y∈ps.zip us,scope.names.lookup y.1=some .local\/(scope.names.lookup y.1=some .cell/\((cellsFrom (s.heap.objs.size+1) scope.names []).lookup y.1).isSome=true):=λ⟨n,v⟩ hy=>by
  rcases S.par n (vp hy).1 with q|q
  ·exact .inl q
  ·exact .inr ⟨q,Ip _ _ _ (.inl q)⟩
 refine RA (by have:=hr.dp;lia) (KX _ _ lk) Z S.co S.gen Z (RF KX eR) (hb _ _ _ _ ?_);refine Rr S.kind hk λenv he s1 x=>?_;subst he;refine⟨lim.keeps x.toInCall.keep,codeAny_func ?_⟩;obtain⟨t,ht,hq⟩:=j9 A outer s H vs Q (hr.deeper _) fY;have e1:oM P w K mg az {A with handled:=none} outer s H:=⟨e0.frames,e0.mod,e0.bs,e0.ki,e0.iG,e0.lN,e0.bj,e0.bare⟩;have I:=FQ (CX:=hW) (A:={A with handled:=none}) (E:=λ_ _ _=>False) S rfl e1 hl r x;have J:Inv (Hi P w K mg az N qual scope f aO A outer s H) [] (start N vs) H s1:=⟨⟨I.ok.mod,I.ok.kind,I.ok.glob,I.ok.blt,I.ok.above,I.ok.inj,I.ok.has,I.ok.qu,λh=>(gM h).elim,Around.frames_deeper e0.frames,I.ok.qP,I.ok.xI,I.ok.bs,I.ok.ki,I.ok.pD,I.ok.mQ,I.ok.iG,I.ok.lN⟩,I.os,I.bare,I.az,I.loc,I.cell,I.free,I.jb,I.pin,I.bj,I.len⟩;refine eJ (ht [] s1 (start N vs) H _ J hq) (λfl s' hs=>?_) λe s' hs=>hs.elim;cases fl with |ret u=>obtain⟨v,σ',H',J',rv,q⟩:=hs;exact⟨v,H',J'.os,J'.bare,J'.az,J'.bj,rv,q⟩ |next=>obtain⟨σ',H',J',q⟩:=hs;exact⟨V.bR,H',J'.os,J'.bare,J'.az,J'.bj,Z,q⟩ |brk=>obtain⟨_,_,_,q⟩:=hs;exact False.elim q |cont=>obtain⟨_,_,_,q⟩:=hs;exact False.elim q
def Bp(P:ag)(w:World)(K:a8)(mg:bS)(az:Heap)(x:Str)(k:Nat)(sp:Sp):Prop:=∃f fd ps,R8 P w K mg az k f fd ps sp/\mg x=some (.ref f)/\PySem.W.keepIn K (.ref f)=true/\Binds K fd ps []
theorem FA.a0C{P:ag}{w:World}{K:a8}{mg:bS}{az:Heap}{x:Str}{st:Stmt}{N ps:List Str}{k:Nat}{sp:Sp}(F:FA K mg x st)(S:bF N ps (bu st))(len:∀vs H Q E,sp vs H Q E->vs.length=ps.length) (hb:∀(kV doc pm:Value)(an:Option Addr)(aO ct:Value)(us:List Value),us.length=ps.length->bindArgs (PySem.W.fnOf x x (mS st) (gZ st) (bu st) .none kV doc pm an aO ct) ⟨us,[]⟩=pure (ps.zip us)) (j9:∀(f:Addr)(aO:Value)(A:ai)(outer:List Env)(s:af)(H:Hp)(vs:List V)(Q:VK),lU k (A.deeper (envOfC x (bu st) s.heap.objs.size f aO))->sp vs H Q (λ_ _ _=>False)->∃t,gn (Hi P w K mg az N x (bu st) f aO A outer s H) (gZ st) t/\t {nx:=λ_ H'=>Q .bR H',rt:=Q} (start N vs) H):Bp P w K mg az x (k+1) sp:=by obtain⟨f,fd,hm,F⟩:=F.ex;have oy:=F.binds hb;have kp:=F.kp;obtain⟨oc,od,kV,doc,pm,an,aO,ct,fG,rfl,lk,eR⟩:=F.ex;exact⟨f,_,ps,a1R lk eR S len λA outer s H vs Q hr fY=>j9 f aO A outer s H vs Q hr fY,hm,kp,oy⟩
section
variable {X:Cx}{k:Nat}{x:Str}{p pos:Pos}{e:Expr}{es:List Expr}{t:TA}{sp:Sp}
def Tu(sp:Sp)(t:TA):TE:=λO H Q=>t O H λvs H1=>sp vs H1 Q (λ_ _ _=>False)
theorem Mu(F:Bp X.prog X.w X.K X.mg X.az x k sp)(hr:lU k X.A)(hg:Gl X x)(ha:PA X (e::es) t)(j8:(x==("__debug__":Str))=false:=by decide) (he:starEach (e::es) X.env=(false,eval e X.env)::starEach es X.env:=by rfl)(gX:(backTo pos (starEach es X.env)).any (·.1)=false:=by rfl):PE X (.Call (.Name x p) (e::es) [] pos) (Tu sp t):=by
 obtain⟨f,fd,ps,F,hm,hk,hb⟩:=F;intro ao s O H Q I h;refine Bw (ux I hg hm ?_ j8);refine RG (h₀:=X.az) I.ok.mod.pK hk (aY (ha pos ao s O H _ I h) λus s1 ⟨vs,H1,I1,r,q⟩=>⟨I1.fX,?_⟩) he gX;have hl:(us++[]).length=ps.length:=by rw[tH,<-r.length];exact F.1 _ _ _ _ q
 have bt:=hb s1 us I1.fX hl;rw[tH]at bt;refine tm (vi (F.2 X.A X.stack s1 H1 ⟨us,[]⟩ us vs Q hr I1.AN bt r q) λr s' hq=>?_);cases r with |error e=>exact hq.elim |ok fl=>cases fl with |ret u=>exact I1.after hq |next=>exact hq.elim |brk=>exact hq.elim |cont=>exact hq.elim
end
section
variable {P:ag}{w:World}{K:a8}{mg:bS}{az:Heap}{N:List Str}{qual:Str}{scope:Scope}{f:Addr}{cd:Value}{A:ai}{outer:List Env}{s:af}{H:Hp}{E E0:XK}
end
end L2
namespace L2
open PySem PySem.Spec PyProof.Rows
open Builtin Builtin.ObjectAttr
section
variable {prog:ag}{w:World}{A:ai}{E:Value->af->Prop}{s:af}{K:a8}{x C dx:Addr}{ox:Obj}{fs:Array Value}{name:Str}{v:Value}{Q:Unit->af->Prop}{mA:bS}{ks:List Str}
theorem Uh(X:K.In s.heap)(hx:s.heap.get? x=some ox)(hc:ox.cls= .ref C)(hd:ox.dict=some dx)(hf:ox.data= .fields fs)(hn:s.heap.Ns1 dx mA)(hw:PySem.Within mA ks)(hz:ks.length<1000) (hs:PySem.W.findIn K (.ref C) "__setattr__"=some (some (.builtin "object.__setattr__")))(hp:EY K C=true)(ht:PySem.W.takerIn K C name=some none)(hh:PySem.W.hasDictIn K C=true) (h:∀h',h'.Ns1 dx (λy=>if y=name then some v else mA y)->Heap.SameBut dx s.heap h'->Q () {s with heap:=h',toks:=s.toks+2}):wpAny (model prog w) A (setAttr (.ref x) name v) Q E s:=by
 obtain⟨oD,ZL,_⟩:=Nl hn;have I:PySem.W.InstAt s.heap x ox C (some oD):=⟨hx,hc,by unfold PySem.W.notCls;rw[hf],by rw[hd];exact ZL⟩;refine PySem.W.set_plain X I hs ?_;have S0:=PySem.F.store_object;obtain⟨cd,eR,ho⟩:=Iq hp;have ne:cd.mro.isEmpty=false:=by cases q:cd.mro with|nil=>rw[q]at ho;simp[mj,oW]at ho|cons _ _=>rfl
 have sub:PySem.W.Looks (model prog w) s.heap (isInstance (.ref x) (.type "object")) true:=I.type.andThen (PySem.W.looks_mroIn X (by unfold PySem.W.mroIn;rw[eR,Option.bind_some,bf (by rw[ne];decide),Oo au ho]));refine Bz S0.slot.plain S0.entry (@PySem.W.check_slot (model prog w) _ _ {s with toks:=s.toks+1} "object.__setattr__" "object" "__setattr__" (.ref x) [.str name s.toks,v] [] _ S0.kind S0.split sub (S0.args (.ref x) (.str name s.toks) v) ?_);obtain⟨mX,ha,hr⟩:=RO.mp ht;have hm:PySem.W.Looks (model prog w) s.heap (mroOf (.ref C)) cd.mro:=(Im X eR).andThen .now;have L3:PySem.W.Looks (model prog w) s.heap (storeTaker? mX) none:=by cases mX with |none=>exact .now |some a=>obtain⟨b,hb,e⟩:=yG.mp hr;refine(PySem.W.looks_takesIn X hb).andThen ?_;cases b with |false=>exact .now |true=>cases e
 rw[PySem.W.osa_eq,refuse_eq];refine aF (aF (m5 (s:={s with toks:=s.toks+1}) I.type (aF (m5 (s:={s with toks:=s.toks+1}) hm ?_))));rw[M9 _ ho];refine bH (aF (m5 (s:={s with toks:=s.toks+1}) I.type (aF (m5 (s:={s with toks:=s.toks+1}) (PySem.W.looks_findIn X ha) (aF (m5 (s:={s with toks:=s.toks+1}) L3 ?_))))));obtain⟨cd2,jC,hd2⟩:=Iq hh;refine aF (bH (aF (aF (wpAny_loadPart (s:={s with toks:=s.toks+1}) hx ?_))));rw[hc];refine aF (m5 (s:={s with toks:=s.toks+1}) (Im X jC) ?_);rw[hd2,hd];rw[bf au];refine bH (a:=some dx) ?_;show wpAny _ _ (storeInDict dx (.str name s.toks) name v) _ _ _;unfold storeInDict newKeyGuard;refine aF (bH (aF (wpAny_nsSet1 hn λh2 n2 sb=>?_)));obtain⟨o2,AK,ep2,e1,e2,e3⟩:=n2.count (PySem.Within.cons name v hw);refine aF (wpAny_lookBehind e1 (by rw[e2];exact pastItsLine_dict (eL e3 (by rw[nq,sizeLine_eq];lia))) ?_);exact bH (h h2 n2 sb)
end
inductive a6A(K:a8)(f:Str)(D:Ends)(O:St)(y:V)(x:V)(H2:Hp):Prop |mk (ex:_)(C:_)(dx:_)(fs:_)(h0:x= .ref ex)(h1:H2 ex=some (.ext (km ex C dx)))(h2:H2 dx=some (.xd fs))(h3:vb K C f)(h4:fs.length<1000)(h5:D.nx O (upd H2 dx (.xd (ph f y fs))))
def Uo(K:a8)(ta tv:TE)(f:Str):TS:=λD O H=>tv O H λy H1=>ta O H1 λx H2=>a6A K f D O y x H2
section
variable {X:Cx}{o e value:Expr}{f:Str}{pos pos' tP:Pos}{ta tv:TE}
theorem Vs(K:a8)(hK:X.K=K)(ha:PE X o ta)(hv:PE X value tv)(hs:swapsWith value (some (.Attribute o f pos')) pos.line X.env=pure false:=by rfl):PS X (.Assign [.Attribute o f pos'] value pos) (Uo K ta tv f):=by
 subst hK;intro ao s O H D I h;refine plainObj_wpAny_Assign_Attribute (aY (hv ao s O H _ I h) λu s1 ⟨y,H1,I1,ry,q⟩=>aY (ha ao s1 O H1 _ I1 q) λov s2 ⟨x,H2,I2,rx,ex,C,dx,fs,e1,ee,ed,xc,hl,q2⟩=>?_) hs;subst e1;obtain rfl:ov=Value.ref ex:=rx;obtain⟨⟨ob,vs,g1,g2,g3,g4,g5⟩,_,_⟩:=(show fe X.prog X.w H2 s2.heap ex (.ext (km ex C dx))from I2.bj ex _ ee);obtain⟨mA,n1,n2⟩:=(show fe X.prog X.w H2 s2.heap dx (.xd fs)from I2.bj dx _ ed);have hw:PySem.Within mA (fs.map (·.1)):=λg hg=>by cases e:fs.lookup g with
  |none=>have r:=n2 g;rw[e]at r;cases em:mA g with |none=>exact absurd em hg |some _=>rw[em]at r;exact r.elim
  |some z=>exact eV.mpr ⟨(g,z),lookup_mem e,Z⟩
 refine Uh I2.fX g1 g2 g3 g4 n1 hw (by rw[bB];exact hl) xc.sa xc.ov xc.tk xc.hd λh' k1 k2=>?_;have keep:∀b u,b≠dx->s2.heap.get? b=some u->h'.get? b=some u:=λb u nb z=>(k2.2 b nb).trans z;have nd:∀b,H2 b=none->b≠dx:=λb z y=>by rw[y,ed]at z;cases z
 obtain⟨oD,_,_,eD,_⟩:=id k1;have un:Un X.fs [] H2 (upd H2 dx (.xd (ph f y fs))) s2.heap h':=by
  refine⟨λb o z n _ _=>keep b o (nd b n) z,λb o z n _ _=>⟨o.slots,keep b o (nd b n) z⟩,λb o z n _=>by rw[bL (nd b n)];exact n,λb o z _=>?_,λb xs z=>?_,λb o u z=>?_,λb ps z=>⟨#[],?_⟩⟩
  ·by_cases hb:b=dx
   ·rw[hb];exact⟨oD,eD⟩
   ·exact⟨o,keep b o hb z⟩
  ·rw[bL (λy=>by rw[y,ed]at z;cases z)];exact z
  ·rw[bL (λy=>by rw[y,ed]at z;cases z)];exact z
  ·rw[bL (λy=>by rw[y,ed]at z;cases z),Array.append_empty];exact z
 have bj:dH X.prog X.w (upd H2 dx (.xd (ph f y fs))) h':=λb u z=>by
  by_cases hb:b=dx
  ·subst hb
   rw[cF]at z;cases z;refine⟨_,k1,λg=>?_⟩;rw[Nk];by_cases hg:g=f
   ·rw[aX hg,aX hg];exact ry
   ·rw[bf hg,bf hg];exact n2 g
  ·rw[bL hb]at z
   refine(I2.bj b u z).kx (λc v hc y=>keep c v ?_ y) (λc y=>?_) λc xs y=>?_
   ·rcases hc with rfl|hc
    ·exact hb
    ·intro y;rw[y,ed]at hc;cases hc
   ·rw[bL (λy'=>by rw[y',ed]at y;cases y)];exact y
   ·rw[bL (λy'=>by rw[y',ed]at y;cases y)];exact y
 exact⟨O,_,I2.un (t':=s2.toks+2) un bj,q2⟩
end
end L2
namespace L2
open PySem PySem.Spec PyProof.Rows
section
variable {X:Cx}{x:Str}{C fI:Addr}{fb:List Value}{newId uz B:String}{e e2:Expr}{t:TA}{np dR pos:Pos}{k:Nat}{fd:FuncData}{ps:List Str}{sp:Sp}
theorem ue{E:XK}(hx:∀ao O H s ex dx,Inv X ao O H s->H ex=some (.ext (km ex C dx))->X.s₀.heap.objs.size<=ex->E (.ref C) (some dx) (del H ex)->X.xe (.ref ex) s) (EC:sZ X.K X.mg x C fI fb newId)(FB:ExcBaseFacts B newId uz fb)(hh:X.A.handled=none)(F:ij X.prog X.w X.K X.mg X.az hW k fI fd ps sp)(hr:dm (k+1) X.A)(hb:Binds X.K fd ps [])(hf:fnAt X.K fI=true)(hg:Gl X x)(ha:PA X [e,e2] t) (he:starEach [e,e2] X.env=[(false,eval e X.env),(false,eval e2 X.env)]:=by rfl)(hd:(x==("__debug__":Str))=false:=by decide): PS X (.Raise (some (.Call (.Name x np) [e,e2] [] dR)) none pos) (T9 E C sp t):=by
 intro ao s O H D I h;obtain⟨tl,Nn,nm,q,bs,hdct,sn,sub,ab,col,dd,k0,k1,k2,k3,k5,mN,hC,hN,hi,T⟩:=EC.own I.ok.mod.pK;have hA:=ha dR ao s O H _ I h;rw[arm_exec_Raise];refine aF (nh (V6 (C:=C) (nm:=nm) (q:=q) (N:=Nn) (bs:=bs) (bm:=tl) (hdct:=hdct) (sn:=sn) (sub:=sub) (ab:=ab) (col:=col) (dd:=dd) (k0:=k0) (k1:=k1) (k2:=k2) (k3:=k3) (k5:=k5) (newId:=newId) (T.hasType FB.hasBase) hh (aF (eJ (wpAny_Call_ofName (ux I hg EC.at' ?_ hd)) (λv s3 h3=>aF (nh (bH h3))) λ_ _ z=>z))));unfold callWith;rw[he]at hA⊢;refine aF (jI (eJ (Calls.evalArgs_plain (Q:=λ(a:Args) s2=>a.kw=[]/\AP X ao O (λvs H1=>vs.length<=sizeLine/\∀ex,H1 ex=none->sp (.ref ex::vs) (upd H1 ex (.ext (oK ex C))) (λv H2=>v= .bR/\∃dx,H2 ex=some (.ext (km ex C dx))/\E (.ref C) (some dx) (del H2 ex)) (λ_ _ _=>False)) a.pos s2) (aY hA λus s2 z=>⟨Z,z⟩)) (λa s2 z=>aF (nh ?_)) λ_ _ z=>z));obtain⟨us,akw⟩:=a;obtain⟨ZW,vs,H1,I1,r1,z1,w1⟩:=z;obtain rfl:akw=[]:=ZW;have C2:=I1.bk _ _ hC;have T2:=T.keeps I1.bk;have N2:=hN.keeps I1.bk;obtain⟨oI,f1,f2⟩:=a1T I1.fX hf;have Yn:us.length<=sizeLine:=by rw[<-r1.length];exact z1
 obtain⟨hp,g,d,tk,os⟩:=s2;rw[show(backTo dR [(false,eval e X.env),(false,eval e2 X.env)]).any (·.1)=false from rfl];refine aF (wpAny_keeperOf_exc C2 ?_);have I1':Inv X ao O H1 ⟨lP hp C us,g,d,tk,os⟩:=I1.kept (t':=tk) (h':=lP hp C us) λb u e=>uO e;have xa:=P4 (h:=hp) (C:=C) (rest:=us);have fx:H1 (hp.objs.size+1)=none:=I1.bj.fresh (Nat.le_succ _);have I2:Inv X ao O (upd H1 (hp.objs.size+1) (.ext (oK (hp.objs.size+1) C))) ⟨lP hp C us,g,d,tk,os⟩:=by refine I1.laid (a:=hp.objs.size+1) (o:=.ext (oK (hp.objs.size+1) C)) (h':=lP hp C us) (t':=tk) (λb u e=>uO e) (Nat.le_succ _) ?_;exact⟨⟨_,_,xa,Z,Z,Z,Z⟩,⟨_,xa⟩,λh1 h2 ⟨rn,uM,y1,y2⟩ k=>⟨rn,uM,k _ y1,y2⟩⟩
 have hq:=w1 (hp.objs.size+1) fx;have r2:Vals (V.ref (hp.objs.size+1)::vs) (Value.ref (hp.objs.size+1)::us):=.cons Z r1;have hl:(Value.ref (hp.objs.size+1)::us++[]).length=ps.length:=by have e:=r2.length;rw[F.len _ _ _ _ hq]at e;rw[tH];exact e.symm
 have bt:=hb ⟨lP hp C us,g,d,tk,os⟩ (Value.ref (hp.objs.size+1)::us) I2.fX hl;rw[tH]at bt;refine aF (a4o FB T2 C2 N2 hi f1 f2 Yn (tm (vi (F.run _ X.stack _ _ ⟨Value.ref (hp.objs.size+1)::us,[]⟩ (Value.ref (hp.objs.size+1)::us) _ _ (λ_ _ _=>False) (hr.make C us []) (I2.AN.make C us []) bt r2 hq) λr s' mH=>?_)));cases r with |error e=>exact False.elim mH |ok fl=>cases fl with |ret u=>obtain⟨v,H',I3,rv,ev,dx,ed,q3⟩:=I2.after mH;subst ev;refine⟨rv,aF (jI (wpAny_point (bH ?_)))⟩;obtain⟨⟨ob,fs,g1,g2,g3,g4,g5⟩,_,_⟩:=(show fe X.prog X.w H' s'.heap _ (.ext (km (hp.objs.size+1) C dx))from I3.bj _ _ ed);exact⟨_,ob,fs,Z,I3.bk _ _ hC,g1,g2,g4,g5,hx ao O H' s' _ dx I3 ed (eL I1.sz (Nat.le_succ _)) q3⟩ |next=>exact False.elim mH |brk=>exact False.elim mH |cont=>exact False.elim mH
end
theorem nc.PV{X:Cx}{st:Stmt}{rest:List Stmt}{t u:TS}(h1:PS X st t)(h2:nc X rest u):nc X (st::rest) (vG t u):=by intro s O H D I h;refine Ih (eJ (h1 [] s O H _ I h) (λf s1 q=>?_) λ_ _ x=>x);cases f with |next=>obtain⟨σ',H',I',q'⟩:=q;exact h2 s1 σ' H' D I' q' |brk=>exact q |cont=>exact q |ret v=>exact q
def Bl(CX:jf)(X:Cx)(E:St->XK):Prop:=∀(ao:List (Addr×Obj))(O:St)(H:Hp)(s:af)(e:Value)(s':af),Inv X ao O H s->CX X.stack H s (E O) e s'->X.xe e s'
section
variable {X:Cx}{CX:jf}{k:Nat}{f:Addr}{fd:FuncData}{ps:List Str}{sp:Sp}{dvs:List V}{ds:List Value}{E:St->XK}{x:Str}{p pos:Pos}{e:Expr}{es:List Expr}{t:TA}
theorem UE{ao:List (Addr×Obj)}{O:St}{H:Hp}{s:af}{Q:VK}{us:List Value}{vs:List V}(F:ij X.prog X.w X.K X.mg X.az CX k f fd ps sp)(hr:dm k X.A)(hb:Binds X.K fd ps ds)(hd:Vals dvs ds)(hx:Bl CX X E)(I:Inv X ao O H s)(r:Vals vs us)(h:sp (vs++dvs) H Q (E O)):wpAny (model X.prog X.w) X.A (call (.ref f) us) (EP X ao O Q) X.xe s:=by
 have r2:Vals (vs++dvs) (us++ds):=r.append hd;have hl:(us++ds).length=ps.length:=by rw[<-r2.length];exact F.len _ _ _ _ h
 refine tm (vi (F.run X.A X.stack s H ⟨us,[]⟩ (us++ds) (vs++dvs) Q (E O) hr I.AN (hb s us I.fX hl) r2 h) λr s' hq=>?_);cases r with |error e=>exact hx ao O H s e s' I hq |ok fl=>cases fl with |ret u=>exact I.after hq |next=>exact False.elim hq |brk=>exact False.elim hq |cont=>exact False.elim hq
def Tt(sp:Sp)(E:St->XK)(t:TA):TE:=λO H Q=>t O H λvs H1=>sp vs H1 Q (E O)
theorem VO(F:yo X.prog X.w X.K X.mg X.az x k sp)(hp:Bl (td X.prog X.w) X E)(hr:dm k X.A)(hg:Gl X x)(ha:PA X (e::es) t)(j8:(x==("__debug__":Str))=false:=by decide) (he:starEach (e::es) X.env=(false,eval e X.env)::starEach es X.env:=by rfl)(gX:(backTo pos (starEach es X.env)).any (·.1)=false:=by rfl): PE X (.Call (.Name x p) (e::es) [] pos) (Tt sp E t):=by obtain⟨f,fd,ps,F,hm,hk,hb⟩:=F;intro ao s O H Q I h;refine Bw (ux I hg hm ?_ j8);refine RG (h₀:=X.az) I.ok.mod.pK hk (aY (ha pos ao s O H _ I h) λus s1 ⟨vs,H1,I1,r,q⟩=>⟨I1.fX,?_⟩) he gX;exact UE (dvs:=[]) (ds:=[]) F hr hb .nil hp I1 r (by rw[tH];exact q)
end
inductive a5m(i:Nat)(Cs:Addr->Prop)(tb:(St->XK)->TS)(th:TS)(D:Ends)(O:St)(H:Hp):Prop |mk (E:St->XK)(h0:tb E D O H)(h1:(∀σ' cls dx H',E σ' cls dx H'->∃C,cls= .ref C/\Cs C))(h2:∀(C ex:Addr)(dx:Option Addr)(σ':St)(H':Hp),σ'.length=O.length->E σ' (.ref C) dx H'->H' ex=none->th {nx:=λσ2 H2=>D.nx (σ2.set i none) H2,rt:=D.rt,bk:=λσ2 H2=>D.bk (σ2.set i none) H2,ct:=λσ2 H2=>D.ct (σ2.set i none) H2} (σ'.set i (some (.ref ex))) (upd H' ex (.ext (lY ex (.ref C) dx))))
def T5(i:Nat)(Cs:Addr->Prop)(tb:(St->XK)->TS)(th:TS):TS:=λD O H=>a5m i Cs tb th D O H
section
variable {X:Cx}{i:Nat}{n y:Str}{Dc:Addr}{Ba:List Value}{newD:String}{body vI:List Stmt}{b0:Stmt}{np rM pos:Pos}{tb:(St->XK)->TS}{th:TS}{Cs:Addr->Prop}
theorem Vu(jW:X.stack=X.env::X.outer)(hfr:X.env.frame=some X.env.locals)(hN:X.N.Nodup)(hi:X.N[i]? =some n)(hk:X.env.kindOf n=some .local)(hs:X.env.scope.names.lookup n=some .local) (hb:∀(E:St->XK)(xe:Value->af->Prop),Bl (td X.prog X.w) (X.jj xe) E->gn (X.jj xe) body (tb E)) (hg:Gl X y)(hy:Exc X.K X.mg y Dc Ba newD)(Gg:Ba.contains (.type "BaseException")=true)(Gm:∀C,Cs C->ClsAt X.K C/\takes X.K C Dc) (hh:∀ex,gn (X.hand ex) (b0::vI) th)(j8:(y==("__debug__":Str))=false:=by decide): QS X (.Try body [.ExceptHandler (some (.Name y np)) (some n) (b0::vI) rM] [] [] pos) (T5 i Cs tb th):=by
 intro s O H D I h;obtain⟨E,hq,rZ,Zt⟩:=h;refine wpAny_Try_except ?_;have ps:Bl (td X.prog X.w) (X.jj λe s₁=>wpAny (model X.prog X.w) X.A (noteFrame e X.env) (λ_ s₂=>wpAny (model X.prog X.w) X.A (setFlight e none) (λ_ s₃=>wpAny (model X.prog X.w) X.A (handleBy e X.env [.ExceptHandler (some (.Name y np)) (some n) (b0::vI) rM]) (SP X [] D) X.xe s₃) X.xe s₂) X.xe s₁) E:=by
  intro ES σ' H1 s1 ev s2 I1 hx;obtain⟨ex,cls,dx,H',B,rfl,ho,Of,Gy,F,hE⟩:=hx;obtain⟨C,rfl,hC⟩:=rZ σ' cls dx H' hE;have I0:Inv X [] σ' H1 s1:=I1.m6.a4C;obtain⟨wZ,g2,d2,t2,o2⟩:=s2;have a1U:lW B (X.env::X.outer) ex (.ref C) dx .none wZ:=by rw[<-jW];exact Gy
  have hA:X.A.frames=some (X.env::X.outer):=by rw[<-jW];exact I0.ok.frames
  refine XO (s:=⟨wZ,g2,d2,t2,o2⟩) hA hfr a1U λh4 Ax Sq=>?_;refine GA Ax λh5 xG So=>?_;have F4:=F.step Gy.1 Ax.1 Sq Gy.2.2.1;have ff4:h4.FunFrames B X.stack:=by rw[jW];exact Ax.2.2.1
  have F5:=F4.step Ax.1 xG.1 So ff4;have ff5:h5.FunFrames B X.stack:=by rw[jW];exact xG.2.2.1
  have I5:Inv X [] σ' H' ⟨h5,g2,d2,t2,o2⟩:=I0.xX (s':=⟨h5,g2,d2,t2,o2⟩) ho F5.un F5.bj Of (λb hb=>(fq hb).elim);refine wpAny_handleBy_cons (codeAny_handlers_test (ux (X:=X.hand ex) (I5.hand ex) hg hy.at' ?_ j8)) (by intro q;cases q);obtain⟨eC,tk⟩:=Gm C hC;obtain⟨nm,q,Nn,bs,tl,hdct,sn,sub,ab,col,dd,k0,k1,k2,k3,k5,nw,oC⟩:=eC _ I5.fX;obtain⟨tl',Nn',MS,q',Qc,Og,K4,Ju,QF,Q4,PR,j0,j1,j2,j3,j5,mN',oD,a8i,a84,TL'⟩:=(hy.own I5.fX).obj;obtain⟨ob,ZK,ZJ,_⟩:=xG.there;have FW:(Value.ref C::tl).contains (.ref Dc)=true:=by
   obtain⟨cd,ha,Ay⟩:=RO.mp tk;split at Ay
   ·cases Ay
   ·have hc:=dU Ay
    unfold PySem.W.clsIn at ha;split at ha
    ·rename_i c1 c2 cd' c4 hl
     cases ha;have e1:=I5.fX _ _ hl;rw[show(Shared.heap ⟨h5,g2,d2,t2,o2⟩).get? C=some _ from oC]at e1;have e2:=dU e1;unfold excClassObj at e2;injection e2 with _ _ e3 _;injection e3 with e4;rw[<-e4]at hc;exact hc
    ·cases ha
  refine a3c oC oD ZK ZJ (TL'.hasType Gg) FW ?_;refine codeAny_handlers_suite_as ?_;refine GA (s:=⟨h5,g2,d2,t2,o2⟩) xG λh6 OQ Sn=>?_;have F6:=F5.step xG.1 OQ.1 Sn ff5;have Sv:Un (eS X.stack) [] H1 (upd H' ex (.ext (lY ex (.ref C) dx))) s1.heap h6:=by
   have nb:∀b u,H' b=some u->b≠ex:=λb u e z=>by rw[z,F6.ne]at e;cases e
   refine⟨F6.un.keep,F6.un.slot,λb o e n hx=>?_,F6.un.there,λb xs e=>?_,λb o u e=>?_,λb ps e=>?_⟩
   ·rw[bL (λz=>by rw[z,F6.nw]at e;cases e)];exact F6.un.free b o e n hx
   ·have:=F6.un.jm b xs e;rw[bL (nb b _ this)];exact this
   ·have:=F6.un.ja b o u e;rw[bL (nb b _ this)];exact this
   ·obtain⟨more,e1⟩:=F6.un.jn b ps e;exact⟨more,by rw[bL (nb b _ e1)];exact e1⟩
  have ZG:dH X.prog X.w (upd H' ex (.ext (lY ex (.ref C) dx))) h6:=λb u e=>by
   by_cases uD:b=ex
   ·subst uD
    rw[cF]at e;cases e;obtain⟨o6,e6,c6⟩:=OQ.there;exact⟨⟨o6,e6,c6⟩,⟨o6,e6⟩,λg1 g3 ⟨o7,e7,c7⟩ k=>⟨o7,k o7 e7,c7⟩⟩
   ·rw[bL uD]at e
    refine(F6.bj b u e).kx (λc v hc q=>q) (λc q=>?_) λc xs q=>?_
    ·rw[bL (λz=>by rw[z,F6.ne]at q;cases q)];exact q
    ·rw[bL (λz=>by rw[z,F6.ne]at q;cases q)];exact q
  have I6:Inv X [] σ' (upd H' ex (.ext (lY ex (.ref C) dx))) ⟨h6,g2,d2,t2,o2⟩:=I0.xX (s':=⟨h6,g2,d2,t2,o2⟩) ho Sv ZG Of (λb hb=>(fq hb).elim);refine tS (X:=X.hand ex) (I6.hand ex) hN hi (.inl hs) (v:=.ref ex) Z (λs7 I7=>?_) (.inr hs);refine eJ (hh ex [] s7 _ _ _ I7 (Zt C ex dx σ' H' (I0.len.trans I.len.symm) hE F.ne)) (λf s8 q=>?_) λe s8 q=>False.elim q;have un:∀(σ2:St)(H2:Hp)(Q:Unit->af->Prop),Inv (X.hand ex) [] σ2 H2 s8->(∀s9,Inv X [] (σ2.set i none) H2 s9->Q () s9)->wpAny (model X.prog X.w) X.A (do bindName X.env n .none;unbindBehindTheSuite X.env n rM) Q X.xe s8:=λσ2 H2 Q I8 hq=>by
   have QZ:=I8.back I0.ok;have bQ:i<σ2.length:=by rw[QZ.len];exact(cL.mp hi).1
   unfold bindName;refine aF (aF (jI (wpAny_point (aF (tS QZ hN hi (.inl hs) (v:=.bR) Z (λs9 I9=>wpAny_point ?_) (.inr hs))))));refine Ss I9 hN hi hk hs (v:=.bR) (yM bQ) λgh qB=>hq gh ?_;rw[ID]at qB;exact qB
  cases f with |next=>obtain⟨σ2,H2,I8,dq⟩:=q;exact un σ2 H2 _ I8 λs9 I9=>⟨_,H2,I9,dq⟩ |brk=>obtain⟨σ2,H2,I8,dq⟩:=q;exact un σ2 H2 _ I8 λs9 I9=>⟨_,H2,I9,dq⟩ |cont=>obtain⟨σ2,H2,I8,dq⟩:=q;exact un σ2 H2 _ I8 λs9 I9=>⟨_,H2,I9,dq⟩ |ret u=>obtain⟨v,σ2,H2,I8,r8,dq⟩:=q;exact un σ2 H2 _ I8 λs9 I9=>⟨v,_,H2,I9,r8,dq⟩
 refine eJ (hb E _ ps [] s O H D (I.jj _) hq) (λf s1 q=>?_) λe s1 q=>q;have q':=q.m6;cases f with |next=>exact Bu q' |brk=>exact q' |cont=>exact q' |ret u=>exact q'
end
section
variable {prog:ag}{w:World}{A:ai}{E:Value->af->Prop}{s:af}
end
section
variable {X:Cx}
end
end L2
namespace Lw
open PySem PySem.Spec PyProof.Rows L2
section
variable {K:a8}
end
end Lw
namespace L2
open PySem PySem.Spec PyProof.Rows
section
variable {X:Cx}
end
theorem a1w{K:a8}{mg:bS}{x z:Str}{t:Tok}{h:Heap}(X:K.In h)(G:h.Ns mainGlobals mg)(a:PySem.W.nsIn K mainGlobals x=some (some (.str z t))):GV mg x (.str z):=⟨_,vm X G a,t,Z⟩
end L2
set_option exponentiation.threshold 6000
namespace L2
open PySem PySem.Spec PyProof.Rows
section
variable {X:Cx}
end
end L2
namespace Tm
open PySem PySem.Spec PyProof.Rows PySem.NumText
def F7(i:Int):Str:=Str.ofString (toString i)
theorem a3Q(m:Nat):(F7 (m:Int)).cps.toList=(Nat.toDigits 10 m).map Char.toNat:=PySem.W.KIN.signs_num m
theorem a3P(m:Nat):(F7 (Int.negSucc m)).cps.toList=45::(Nat.toDigits 10 (m+1)).map Char.toNat:=by unfold F7;rw[signs_ofString];show("-"++Nat.repr (m+1)).toList.map Char.toNat=_;rw[String.toList_append,ip,Nat.toList_repr];rfl
theorem PM(m:Nat):AllDigits ((Nat.toDigits 10 m).map Char.toNat):=λc hc=>by obtain⟨ch,kN,e⟩:=eV.mp hc;have r:=digit_range (Nat.isDigit_of_mem_toDigits au au kN);rw[<-e];exact r
end Tm
namespace Lw
open PySem PySem.Spec PyProof.Rows L2 Ln Rt Cn Pn Wk
open Ow (topR cornO mnO betR atO ownF leadF ownL OkI OkIs)
open Ow (Itm)
def top(i:Nat):Stmt:=PySem.Challenge.pw_glidequeue_k49_tapes_spoilt.main.body.getD i (.Pass ⟨0,0,0,0⟩)
abbrev CV:Stmt:=top 78
abbrev E4:Stmt:=top 77
abbrev E1:Stmt:=top 25
abbrev DF:Stmt:=top 14
abbrev Dy:Stmt:=top 90
abbrev Dx:Stmt:=top 27
abbrev Dz:Stmt:=top 24
abbrev Dm:Stmt:=top 21
abbrev Dv:Stmt:=top 22
abbrev Dw:Stmt:=top 23
abbrev DP:Stmt:=top 19
abbrev DK:Stmt:=top 18
abbrev Dq:Stmt:=top 84
abbrev DN:Stmt:=top 80
abbrev DA:Stmt:=top 79
abbrev DE:Stmt:=top 47
def iL:Str:="abcdefghijklmnopqrstuvwxyz"
abbrev Dj:Stmt:=top 87
abbrev CK:Stmt:=top 28
abbrev CL:Stmt:=top 15
abbrev CM:Stmt:=top 38
abbrev DY:Stmt:=top 35
abbrev DD:Stmt:=top 37
abbrev CP:Stmt:=top 36
abbrev CO:Stmt:=top 93
abbrev E3:Stmt:=top 53
abbrev Di:Stmt:=top 52
abbrev Dg:Stmt:=top 20
abbrev D9:Stmt:=top 55
abbrev CW:Stmt:=top 81
abbrev Du:Stmt:=top 82
abbrev Dn:Stmt:=top 83
abbrev Dp:Stmt:=top 58
abbrev Df:Stmt:=top 85
abbrev Dr:Stmt:=top 86
abbrev DH:Stmt:=top 50
abbrev DG:Stmt:=top 49
abbrev E6:Stmt:=top 48
abbrev DI:Stmt:=top 46
abbrev DU:Stmt:=top 60
abbrev CT:Stmt:=top 59
abbrev Dl:Stmt:=top 31
abbrev CZ:Stmt:=top 29
abbrev D8:Stmt:=top 30
abbrev DZ:Stmt:=top 75
abbrev CQ:Stmt:=top 73
abbrev D3:Stmt:=top 72
abbrev DS:Stmt:=top 71
abbrev D5:Stmt:=top 74
abbrev DR:Stmt:=top 56
abbrev De:Stmt:=top 54
abbrev DC:Stmt:=top 88
abbrev DT:Stmt:=top 61
abbrev DX:Stmt:=top 69
abbrev E5:Stmt:=top 70
abbrev Uq:Stmt:=top 68
abbrev E2:Stmt:=top 94
abbrev CY:Stmt:=top 91
abbrev D7:Stmt:=top 92
abbrev CS:Stmt:=top 95
abbrev zy:Stmt:=top 96
abbrev DQ:Stmt:=top 100
abbrev DW:Stmt:=top 97
abbrev DJ:Stmt:=top 98
abbrev DV:Stmt:=top 99
abbrev Ur:Stmt:=top 101
def a48(s:Stmt):List Stmt:=match s with | .ClassDef _ _ _ b _ _ _ _ _ _ _=>b |_=>[]
abbrev CJ:Stmt:=(a48 (top 8)).getD 0 (.Pass ⟨0,0,0,0⟩)
structure QV(K:a8)(mg:bS)(C fI:Addr):Prop where
 e:sZ K mg "NoTape" C fI Hs ML
 i:PySem.W.findIn K (.ref C) "__init__"=some (some (.ref fI))
 x:vb K C "at"
 y:vb K C "why"
 f:fnAt K fI=true
 fn:∃fd,kQ K "__init__" "NoTape.__init__" CJ fI fd
structure R9(K:a8)(mg:bS)(C fI cG c0 c1 c2 c3 c4 c5 c6 c7 c8 c9:Addr):Prop where
 oc:QV K mg C fI
 g:Exc K mg "GlideError" cG Hs ML
 t:takes K C cG
 k:lX K C
 h0:GV mg "Full" (.ref c0)
 h1:GV mg "Moving" (.ref c1)
 h2:GV mg "NoFraction" (.ref c2)
 h3:GV mg "NoItem" (.ref c3)
 h4:GV mg "NoLine" (.ref c4)
 h5:GV mg "NoMachine" (.ref c5)
 h6:GV mg "NoPlace" (.ref c6)
 h7:GV mg "NoRate" (.ref c7)
 h8:GV mg "NoText" (.ref c8)
 h9:GV mg "OffRails" (.ref c9)
 any:PySem.W.kitAny K (.ref C) [.ref c0,.ref c1,.ref c2,.ref c3,.ref c4,.ref c5,.ref c6,.ref c7,.ref c8,.ref c9]=some false
 own:PySem.W.kitOne K (.ref C) (.ref C)=some true
 ve:PySem.W.kitOne K (.ref C) (.type "ValueError")=some true
 v:mg "ValueError"=none
 fat:PySem.W.findIn K (.ref C) "at"=some none
 fwhy:PySem.W.findIn K (.ref C) "why"=some none
abbrev Dt:Stmt:=top 102
abbrev Dk:Stmt:=top 103
abbrev Dh:Stmt:=top 104
abbrev D6:Stmt:=top 105
abbrev CU:Stmt:=top 62
abbrev nC:Stmt:=top 89
abbrev D1:Stmt:=top 106
def Ct(K:a8):Sp:=λvs H Q _=>∃(a:Addr)(ns:List Int),vs=[.ref a]/\aK K H a (ns.map V.int)/\ns.length<=63/\∀H',Q (.bl true) H'
abbrev tZ:Stmt:=top 107
structure All(K:a8)(mg:bS):Prop where
 B:bK mg
 AG:GT K mg "NOUGHT" [.int 0,.int 1]
 a1C:GT K mg "SIDES" [.str "up",.str "down"]
 a1D:GV mg "NO_BORDER" (.int 4)
 OF:GV mg "NOT_DUE" (.int 1)
 a1B:GV mg "WRONG_TICKS" (.int 2)
 a1L:GV mg "ABOVE_TOP" (.int 3)
 a1I:GV mg "LEAST_RATE" (.int 10)
 a1K:GV mg "GREATEST_RATE" (.int 200)
 a1E:GV mg "MOST_STEPS" (.int 100)
 a1J:GV mg "GREATEST_SPEED" (.int 20)
 a1F:GV mg "LONGEST_WAIT" (.int 1000)
 a1G:GV mg "LONGEST_NAME" (.int 8)
 a1H:GV mg "LETTERS" (.str iL)
 a2p:FA K mg "is_whole" DF
 a2o:FA K mg "is_whole_within" CL
 a2y:FA K mg "is_fraction" DK
 a2A:FA K mg "fraction" DP
 a2b:FA K mg "plus_whole" Dg
 a2g:FA K mg "minus" Dm
 a2w:FA K mg "is_less" Dv
 a2k:FA K mg "least" Dw
 a2i:FA K mg "lowest_terms" Dz
 a2E:FA K mg "common_divisor" E1
 a2l:FA K mg "lead_of" Dx
 a23:FA K mg "ways_of" CK
 a29:FA K mg "stand_at" CZ
 a27:FA K mg "step_rows" D8
 a2f:FA K mg "nearest" Dl
 a2D:FA K mg "corner_square" DY
 a24:FA K mg "top_square" CP
 a2t:FA K mg "is_rate" DD
 a2z:FA K mg "greatest_turn" CM
 a2x:FA K mg "is_item" DI
 a2v:FA K mg "is_line" DE
 a2I:FA K mg "are_steps" E6
 a2s:FA K mg "is_short_item" DG
 a2u:FA K mg "is_name" DH
 a2e:FA K mg "own_bounds" Di
 a2H:FA K mg "bound_between" E3
 a2d:FA K mg "plan_of" De
 a2m:FA K mg "kept_by_rise" D9
 a2n:FA K mg "kept_by_fall" DR
 a2h:FA K mg "middles" Dp
 a25:FA K mg "ticks_of" CT
 OU:FA K mg "are_enough" DU
 a28:FA K mg "step_entry" DT
 a26:FA K mg "tape_of" CU
 a2j:FA K mg "look" Uq
 a2C:FA K mg "due_entries" DX
 a2G:FA K mg "bounds_between" E5
 a2B:FA K mg "fault_of_entry" DS
 a2r:FA K mg "is_step_with" D3
 a2q:FA K mg "is_timed" CQ
 a2a:FA K mg "square_of" D5
 a2F:FA K mg "can_meet" DZ
 a39:FA K mg "_law_bag" E4
 a2L:FA K mg "_law_take" CV
 OV:FA K mg "_law_number" DA
 a34:FA K mg "_law_frac" DN
 a2M:FA K mg "_law_sum" CW
 a31:FA K mg "_law_less" Du
 a2W:FA K mg "_law_min" Dn
 a2X:FA K mg "_law_machine" Dq
 a2T:FA K mg "_law_place" Df
 a30:FA K mg "_law_line" Dr
 a2V:FA K mg "_law_other" Dj
 a33:FA K mg "_law_items" DC
 a2Q:FA K mg "_law_sizes" nC
 a32:FA K mg "_law_lead" Dy
 a2N:FA K mg "_law_stand" CY
 a2R:FA K mg "_law_rows" D7
 a2J:FA K mg "_law_top" CO
 a38:FA K mg "_law_bounds" E2
 a2K:FA K mg "_law_ticks" CS
 AJ:FA K mg "_law_alike" zy
 a37:FA K mg "_law_due_entries" DW
 OW:FA K mg "_law_is_fraction" DJ
 a36:FA K mg "_law_entry_fault" DV
 a35:FA K mg "_law_fits" DQ
 a2Z:FA K mg "_law_look" Ur
 a2Y:FA K mg "_law_looked" Dt
 a2U:FA K mg "_law_other_square" Dk
 a2S:FA K mg "_law_plain_step" Dh
 a2O:FA K mg "_law_spoilt_entry" D6
 a2P:FA K mg "_law_spoilt" D1
 law:FA K mg "law" tZ
 ex:∃C fI cG c0 c1 c2 c3 c4 c5 c6 c7 c8 c9,R9 K mg C fI cG c0 c1 c2 c3 c4 c5 c6 c7 c8 c9
def yd(K:a8)(P:ag):Prop:=∀(w:World)(mg:bS)(az:Heap)(f:Addr)(fd:FuncData),All K mg->kQ K "law" "law" tZ f fd->ij P w K mg az hW 12 f fd ["_law_script"] (Ct K)
@[irreducible] noncomputable def KP:a8×ag:=Classical.epsilon λx=>¬yd x.1 x.2
@[irreducible] noncomputable def K:a8:=KP.1
@[irreducible] noncomputable def P:ag:=KP.2
theorem SR(h:yd K P)(K':a8)(P':ag):yd K' P':=Classical.byContradiction λn=>by have e:=Classical.epsilon_spec (p:=λx:a8×ag=>¬yd x.1 x.2) ⟨(K',P'),n⟩;unfold K P KP at h;exact e h
end Lw
namespace Lw
open PySem PySem.Spec PyProof.Rows L2
section
variable {w:World} {mg:bS} {az:Heap}
inductive a5G(vs:List V)(H:Hp)(Q:VK):Prop |mk (p:_)(many:_)(h0:vs=[.ref p,.int many])(h1:fA H p)(h2:1<=many)(h3:many<=10^40)(h4:∀d H',0<=d->d<many->aM p H H'->Q (.int d) H')
def jN:Sp:=λvs H Q _=>a5G vs H Q
theorem Kn:bF ["_law_bag_here","_law_many","_law_digit","_law_number_here","_law_room"] ["_law_bag_here","_law_many"] (bu CV):=bP aP
theorem Ww(F:FA K mg "_law_take" CV)(B:bK mg):aB P w K mg az "_law_take" 1 jN:=by
 refine F.has Kn (λvs H Q E h=>?_) (λ_ _ _ _ _ _=>e9 λ_ _=>rfl) (λf aO A outer s H vs Q E hr h=>?_)
 ·obtain⟨p,many,rfl,_⟩:=h
  rfl
 ·obtain⟨p,many,rfl,⟨c,m,hp,ok⟩,h1,h2,k⟩:=h
  obtain⟨c0,m0,m1⟩:=id ok;have nd:=Kn.nd;refine⟨_,(aC (bA (bJ kH (px K (pv 0) aA) aA (bo _)) (aC (pS 2 nd (aG nT (px K (pv 0) aA) (pv 1))) (aC (eB (aG nU (px K (pv 0) aA) (pv 1)) (pk (pv 0) aA set_list)) (aI (aR (pv 2))))) bE) (aC (pS 3 nd aA) (aC (pS 4 nd aA) (aC (qY f7 (bJ jy (pv 4) (pv 1) (bo _)) (aC (eB (aG nT (aG iZ (aG bZ (aG bO (px K (pv 0) aA) aA) aA) aA) aA) (pk (pv 0) aA set_list)) (aC (pS 3 nd (aG bZ (aG bO (pv 3) aA) (aG nT (aG bO (aG nU (px K (pv 0) aA) aA) aA) aA))) (aI (pS 4 nd (aG bO (pv 4) aA)))))) (aI (aR (aG nT (pv 3) (pv 1)))))))),?_⟩;refine⟨_,Z,.inl ⟨p,_,0,.int c,Z,Z,aK.of hp,Z,_,_,Z,Z,_,Z,?_⟩⟩;refine dM (λhc=>?_) (λ_=>?_)
  ·refine⟨_,Z,.inl ⟨p,_,0,.int c,Z,Z,aK.of hp,Z,_,Z,_,_,Z,Z,h1,?_⟩⟩
   refine⟨_,Z,.inl ⟨p,_,0,.int c,Z,Z,aK.of hp,Z,_,Z,_,_,Z,Z,⟨h1,J4 aq h2⟩,?_⟩⟩;refine⟨_,Z,p,_,0,0,Z,Z,hp,Z,?_⟩;refine⟨_,Z,?_⟩;exact k _ _ (oT _ aq) (tJ _ aq) (aM.upd ⟨Int.ediv_nonneg c0 aq,m0,m1⟩)
  ·refine qM (λO H2=>∃(v:Option V)(n r:Int),O=[some (.ref p),some (.int many),v,some (.int n),some (.int r)]/\aM p H H2/\1<=r) (λO _=>match O with|[_,_,_,_,some (.int r)]=>(many-r).toNat|_=>0) ?_ ?_ ?_
   ·exact⟨none,0,1,Z,.refl ⟨c,m,hp,ok⟩,iP _⟩
   ·rintro O H2 ⟨v,n,r,rfl,bx,FY⟩
    obtain⟨c',m',Am,c0',m0',Fp⟩:=id bx.aE;refine⟨_,Z,_,Z,_,_,Z,Z,_,Z,?_⟩;refine dM (λhc=>?_) (λhc=>?_)
    ·have bQ:r<many:=il hc
     refine⟨_,Z,.inl ⟨p,_,1,.int m',Z,Z,aK.of Am,Z,_,_,Z,Z,.of_right (cm au au),_,_,Z,Z,_,_,Z,Z,⟨au,au,?_⟩,_,_,Z,Z,(by show(0:Int)<2147483629;decide),?_⟩⟩
     ·have k9:(2:Nat)^64=18446744073709551616:=by decide
      rw[k9];lia
     refine⟨_,Z,p,_,1,1,Z,Z,Am,Z,?_⟩;have g0:0<=((m'*48271+7919)^(5:Int).toNat)%2147483629:=oT _ au;have g1:((m'*48271+7919)^(5:Int).toNat)%2147483629<2147483629:=tJ _ au;have bx2:aM p H (L2.upd H2 p (.lst [.int c',.int (((m'*48271+7919)^(5:Int).toNat)%2147483629)])):=bx.trans (.upd ⟨c0',g0,Int.lt_trans g1 au⟩);refine⟨_,Z,_,_,Z,Z,.of_right (cm au au),_,Z,.inl ⟨p,_,1,.int _,Z,Z,aK.of cF,Z,_,_,Z,Z,⟨au,J4 au au⟩,_,_,Z,Z,.of_right (cm au au),_,_,Z,Z,(by show(0:Int)<1073741789;decide),_,_,Z,Z,?_⟩⟩;refine⟨_,Z,_,_,Z,Z,.of_right (cm au au),?_⟩;refine⟨⟨v,_,_,Z,bx2,?_⟩,?_⟩
     ·lia
     ·show(many-r*1073741789).toNat<(many-r).toNat
      lia
    ·refine⟨_,Z,_,Z,_,_,Z,Z,h1,?_⟩
     exact k _ _ (oT _ aq) (tJ _ aq) bx
   ·rintro O H2 Q1 Q2 hq ⟨v1,e1,v2,e2,i,j,e3,e4,kk,e5,q⟩
    exact⟨v1,e1,v2,e2,i,j,e3,e4,kk,e5,hq _ _ q⟩
inductive a6x(K:a8)(vs:List V)(H:Hp)(Q:VK):Prop |mk (a:Addr)(ns:List Int)(at':Int)(h0:vs=[.ref a,.int at'])(h1:aK K H a (ns.map V.int))(h2:ns.length<=63)(h3:0<=at')(h4:at'<=100)(h5:∀p H',H p=none->fA H' p->aD H H'->Q (.ref p) H')
def K2(K:a8):Sp:=λvs H Q _=>a6x K vs H Q
theorem LG:bF ["_law_script","_law_at","_law_cell","_law_mix","_law_k"] ["_law_script","_law_at"] (bu E4):=bP aP
theorem NQ{ns:List Int}{j:Nat}(h:j<ns.length):∃z,dk (ns.map V.int) (j:Int)=some (.int z):=⟨ns[j],a4K (by simp[h])⟩
theorem Xy(F:FA K mg "_law_bag" E4)(B:bK mg):aB P w K mg az "_law_bag" 1 (K2 K):=by
 refine F.has LG (λvs H Q E h=>?_) (λ_ _ _ _ _ _=>e9 λ_ _=>rfl) (λf aO A outer s H vs Q E hr h=>?_)
 ·obtain⟨a,ns,at',rfl,_⟩:=h
  rfl
 ·obtain⟨a,ns,at',rfl,hS,hlen,h0,h1,k⟩:=h
  obtain⟨j,rfl⟩:∃j:Nat,at'=(j:Int):=⟨at'.toNat,aq⟩;have nd:=LG.nd;refine⟨_,(aC (pS 2 nd aA) (aC (mi (bA (bJ jy (pv 1) (dF K B (ak (pv 0) aw)) (bo _)) (aI (pS 2 nd (dv (x:="abs") mU Z (B.at "abs") oO (ak (px K (pv 0) (pv 1)) aw)))) bE)) (aC (pS 3 nd (aG bZ (aG bZ (aG bO (aG bO aA (pv 1)) (pv 1)) (aG bO aA (pv 1))) aA)) (aC (fR f7 Z (nQ Z (B.at "range") (ak (dv (x:="min") (Hn rfl) rfl (B.at "min") RL (ak (dF K B (ak (pv 0) aw)) (ak aA aw))) aw)) (aZ 4 nd) (aI (pS 3 nd (aG nT (aG iZ (aG bZ (aG bZ (aG bO (pv 3) aA) (aG nT (px K (pv 0) (pv 4)) aA)) (aG bO (pv 4) (pv 4))) aA) aA)))) (aC (mi (bA (bJ jy (pv 2) (aG iZ aA aA) (bo _)) (aI (pS 2 nd aA)) bE)) (aI (aR (cK (ak (pv 2) (ak (pv 3) aw)))))))))),?_⟩;refine⟨λO H'=>H'=H/\∃c:Int,O=[some (.ref a),some (.int (j:Int)),some (.int c),none,none]/\0<=c,?_,?_⟩
  ·refine⟨_,Z,_,Z,a,_,Z,.inl hS,_,_,Z,Z,_,Z,?_⟩
   refine dM (λhc=>?_) (λ_=>?_)
   ·have hj:(j:Int)<((ns.map V.int).length:Int):=il hc
    rw[bB]at hj;obtain⟨z,hz⟩:=NQ (ns:=ns) (j:=j) aq;refine⟨_,Z,_,Z,.inl ⟨a,_,_,_,Z,Z,hS,hz,z,Z,?_⟩⟩;exact⟨Z,_,Z,by split<;>lia⟩
   ·exact⟨Z,0,Z,iP _⟩
  rintro O H' ⟨rfl,c,rfl,c0⟩;refine⟨_,Z,_,_,Z,Z,.of_left (cm au au),_,Z,_,_,Z,Z,.of_right (cm aq aq),_,Z,_,_,Z,Z,.of_left (cm au au),_,_,Z,Z,_,_,Z,Z,?_⟩;refine⟨_,Z,a,_,Z,.inl hS,_,_,Z,_,Z,?_,?_,?_⟩
  ·split<;>lia
  ·split<;>(try rw[bB])<;>lia
  refine pZ (Pv:=λi O H2=>H2=H'/\∃(m:Int)(v:Option V),O=[some (.ref a),some (.int (j:Int)),some (.int c),some (.int m),v]/\0<=m/\m<2147483648) ?_ ?_ ?_
  ·refine⟨Z,_,none,Z,?_,?_⟩
   ·have:(0:Int)<=(j:Int)*(j:Int):=jK aq aq
    rw[tI];lia
   ·have:(j:Int)*(j:Int)<=100*100:=IU aq aq aq aq
    rw[tI];lia
  ·rintro i O H2 hi ⟨rfl,m,v,rfl,m0,m1⟩
   have Au:i<ns.length:=by rw[bB]at hi;split at hi<;>lia
   obtain⟨z,hz⟩:=NQ (ns:=ns) (j:=i) Au;rw[<-yO (i:Int)]at hz;have Zk:0<=z%2147483647:=oT _ au;have wW:z%2147483647<2147483647:=tJ _ au;have a0c:(0:Int)<=(0+(i:Int))*(0+(i:Int)):=jK aq aq;have xj:(0+(i:Int))*(0+(i:Int))<=100*100:=IU aq aq aq aq;refine⟨_,Z,_,_,Z,Z,.of_right (cm au au),_,Z,_,Z,.inl ⟨a,_,_,_,Z,Z,hS,hz,_,_,Z,Z,(by show(0:Int)<2147483647;decide),_,_,Z,Z,_,Z,_,Z,_,_,Z,Z,.of_right (cm aq aq),_,_,Z,Z,_,_,Z,Z,⟨au,au,?_⟩,_,_,Z,Z,(by show(0:Int)<2147483629;decide),?_⟩⟩
   ·have k9:(2:Nat)^64=18446744073709551616:=by decide
    rw[k9];generalize(0+(i:Int))*(0+(i:Int))=ii at a0c xj⊢;generalize z%2147483647=zz at Zk wW⊢
    lia
   ·exact⟨Z,_,_,Z,oT _ au,Int.lt_trans (tJ _ au) au⟩
  ·rintro O H2 ⟨rfl,m,v,rfl,m0,m1⟩
   refine⟨λO H3=>H3=H2/\∃c:Int,O=[some (.ref a),some (.int (j:Int)),some (.int c),some (.int m),v]/\0<=c,?_,?_⟩
   ·refine⟨_,Z,_,_,Z,Z,⟨au,au,au⟩,_,_,Z,Z,_,Z,?_⟩
    refine dM (λhc=>?_) (λ_=>?_)
    ·exact⟨Z,0,Z,iP _⟩
    ·exact⟨Z,c,Z,c0⟩
   rintro O H3 ⟨rfl,c,rfl,c0⟩;refine⟨_,Z,_,Z,(by show 2<=sizeLine;decide),λp H4 nw=>?_⟩;exact k p H4 nw.no ⟨c,m,nw.at',c0,m0,m1⟩ nw.same
inductive a6q(vs:List V)(H:Hp)(Q:VK):Prop |mk (a:Int)(b:Int)(h0:vs=[.int a,.int b])(h1:Q (.int (Int.gcd a b)) H)
def zv:Sp:=λvs H Q _=>a6q vs H Q
inductive a66(vs:List V)(H:Hp)(Q:VK):Prop |mk (a:Int)(b:Int)(h0:vs=[.int a,.int b])(h1:b≠0)(h2:Wd b)(h3:∀t H',Nw H H' t (.tup [.int (Ar.lowP a b),.int (Ar.fU a b)])->Q (.ref t) H')
def vP:Sp:=λvs H Q _=>a66 vs H Q
def eF(T:String):Bool:=eX T "int"&& !eX T "bool"
inductive a6g(K:a8)(vs:List V)(H:Hp)(Q:VK):Prop |mk (v:_)(T:_)(h0:vs=[v])(h1:qw K H v T)(h2:Q (.bl (eF T)) H)
def iS(K:a8):Sp:=λvs H Q _=>a6g K vs H Q
theorem LC:bF ["p","q","high","low"] ["p","q"] (bu E1):=bP aP
theorem Xu(F:FA K mg "common_divisor" E1)(B:bK mg):aB P w K mg az "common_divisor" 1 zv:=by
 refine F.has LC (λvs H Q E h=>?_) (λ_ _ _ _ _ _=>e9 λ_ _=>rfl) (λf aO A outer s H vs Q E hr h=>?_)
 ·obtain⟨a,b,rfl,_⟩:=h
  rfl
 ·obtain⟨a,b,rfl,k⟩:=h
  have nd:=LC.nd;refine⟨_,(aC (nM (i:=2) (j:=3) Z nd Z Z au Z Z (ak (dv (x:="abs") mU Z (B.at "abs") oO (ak (pv 0) aw)) (ak (dv (x:="abs") mU rfl (B.at "abs") oO (ak (pv 1) aw)) aw)) rfl) (aC (qY f7 (bJ (iB K Z hr.units) (pv 3) aA (bo _)) (aI (nM (i:=2) (j:=3) Z nd Z Z au Z Z (ak (pv 3) (ak (aG nT (pv 2) (pv 3)) aw)) Z))) (aI (aR (pv 2))))),?_⟩;refine⟨_,Z,_,Z,_,Z,_,Z,_,_,Z,?_⟩;refine qM (λO H2=>H2=H/\∃(x y:Int),O=[some (.int a),some (.int b),some (.int x),some (.int y)]/\0<=x/\0<=y/\Int.gcd x y=Int.gcd a b) (λO _=>match O with|[_,_,_,some (.int y)]=>y.natAbs|_=>0) ?_ ?_ ?_
  ·refine⟨Z,_,_,Z,by split<;>lia,by split<;>lia,?_⟩
   have h1:(if a<0 then-a else a).natAbs=a.natAbs:=by split<;>lia
   have h2:(if b<0 then-b else b).natAbs=b.natAbs:=by split<;>lia
   unfold Int.gcd;rw[h1,h2]
  ·rintro O H2 ⟨rfl,x,y,rfl,x0,y0,e⟩
   refine⟨_,Z,.inl ⟨_,_,Z,Z,_,Z,?_⟩⟩;refine dM (λhc=>?_) (λhc=>?_)
   ·have hy:y≠0:=by simpa using hc
    have lu:0<y:=by lia
    refine⟨_,Z,_,Z,_,Z,_,_,Z,Z,lu,_,_,Z,?_⟩;refine⟨⟨Z,_,_,Z,y0,oT _ hy,(Ar.OD lu).trans e⟩,?_⟩;show(x%y).natAbs<y.natAbs;have:=oT x hy;have:=tJ x lu
    lia
   ·have hy:y=0:=by simpa using hc
    subst hy;refine⟨_,Z,?_⟩;rw[Int.gcd_zero_right]at e;have e2:x=((Int.gcd a b:Nat):Int):=by lia
    rw[e2];exact k
  ·rintro O H2 Q1 Q2 hq ⟨v1,e1,h⟩
   refine⟨v1,e1,?_⟩;rcases h with⟨i,j,e3,e4,kk,e5,q⟩|⟨d,e,r1,r2,s1,s2,kk,e5,q⟩
   ·exact .inl ⟨i,j,e3,e4,kk,e5,hq _ _ q⟩
   ·exact .inr ⟨d,e,r1,r2,s1,s2,kk,e5,hq _ _ q⟩
theorem Lh:bF ["thing"] ["thing"] (bu DF):=bP aP
theorem Xa(F:FA K mg "is_whole" DF)(B:bK mg):aB P w K mg az "is_whole" 1 (iS K):=by
 refine F.has Lh (λvs H Q E h=>?_) (λ_ _ _ _ _ _=>gz λ_=>rfl) (λf aO A outer s H vs Q E hr h=>?_)
 ·obtain⟨v,T,rfl,_⟩:=h
  rfl
 ·obtain⟨v,T,rfl,ty,k⟩:=h
  have nd:=Lh.nd;refine⟨_,(aI (aR (iY (fj K B (ak (pv 0) (ak (eZ (x:="int") (v:=.ty "int") Z (B.at "int") qH rfl) aw))) (jw (rf (fj K B (ak (pv 0) (ak (eZ (x:="bool") (v:=.ty "bool") rfl (B.at "bool") RM rfl) aw)))))))),?_⟩;refine⟨_,Z,.inl ⟨_,T,"int",_,Z,ty,au,Z,_,Z,?_⟩⟩;unfold eF at k;refine dM (λhc=>?_) (λhc=>?_)
  ·refine⟨_,Z,.inl ⟨_,T,"bool",_,Z,ty,au,Z,_,Z,?_⟩⟩
   rw[hc,jL]at k;exact k
  ·rw[oU.mpr hc,ji]at k
   exact k
open Ln
def fW(ns:List Int)(sp:Int):ah:=.tuple [.str "line",.tuple (ns.map PyData.int),.int sp]
theorem FD(ns:List Int)(sp:Int):dw (fW ns sp)=true:=by simp[fW,dw,cE,kI]
structure eG(ax:Nat)(m:Int)(ns:List Int):Prop where
 len:ns.length=ax
 bd:∀z∈ns,(z.natAbs:Int)<=m
 nz:∃z∈ns,z≠0
theorem eG.lead{ax:Nat}{m:Int}{ns:List Int}(h:eG ax m ns):0<aL ns/\(aL ns:Int)<=m:=by
 refine⟨YH h.nz,?_⟩;have hm:0<=m:=by obtain⟨z,hz,_⟩:=h.nz;have:=h.bd z hz;lia
 have:=mC (ns:=ns) (m:=m.toNat) λz hz=>by have:=h.bd z hz;lia
 lia
theorem eG.ne{ax:Nat}{m:Int}{ns:List Int}(h:eG ax m ns):ns≠[]:=by obtain⟨z,hz,_⟩:=h.nz;intro e;subst e;cases hz
theorem lg{H:Hp}{v:V}{ns:List Int}{sp:Int}(h:RD K H v (fW ns sp)):∃a b,v= .ref a/\aV K H a [.str "line",.ref b,.int sp]/\aV K H b (ns.map V.int):=by obtain⟨a,xs,rfl,h1,h2⟩:=h.bX;obtain⟨x1,r1,rfl,e1,h2⟩:=h2.cons_inv;obtain⟨x2,r2,rfl,e2,h2⟩:=h2.cons_inv;obtain⟨x3,r3,rfl,e3,h2⟩:=h2.cons_inv;cases h2.nil_inv;cases e1.str_inv;cases e3.int_inv;obtain⟨b,ys,rfl,h3,h4⟩:=e2.bX;rw[h4.gT]at h3;exact⟨a,b,Z,h1,h3⟩
inductive a6c(K:a8)(vs:List V)(H:Hp)(Q:VK):Prop |mk (v:_)(ns:_)(sp:_)(h0:vs=[v])(h1:RD K H v (fW ns sp))(h2:ns≠[])(h3:ns.length<=1000)(h4:∀H',aD H H'->Q (.int (aL ns)) H')
def jq(K:a8):Sp:=λvs H Q _=>a6c K vs H Q
theorem nZ{ns:List Int}{f:Int->ah}{i:Nat}{d:ah}(h:(ns.map f)[i]? =some d):∃n,ns[i]? =some n/\f n=d:=by rw[bU]at h;cases e:ns[i]? with |none=>rw[e]at h;cases h |some n=>rw[e]at h;exact⟨n,Z,dU h⟩
theorem wK{ns:List Int}{i:Nat}{x:V}{n:Int}(h:(ns.map V.int)[i]? =some x)(e:ns[i]? =some n):x= .int n:=by rw[bU,e]at h;exact(dU h).symm
theorem L8:bF ["_law_line_here"] ["_law_line_here"] (bu Dy):=bP aP
theorem X8(F:FA K mg "_law_lead" Dy)(B:bK mg):aB P w K mg az "_law_lead" 1 (jq K):=by
 refine F.has L8 (λvs H Q E h=>?_) (λ_ _ _ _ _ _=>gz λ_=>rfl) (λf aO A outer s H vs Q E hr h=>?_)
 ·obtain⟨v,ns,sp,rfl,_⟩:=h
  rfl
 ·obtain⟨v,ns,sp,rfl,rd,j6,hz,k⟩:=h
  have nd:=L8.nd;obtain⟨a,b,rfl,ha,hb⟩:=lg rd;refine⟨_,(aI (aR (dv (x:="max") (Fo K Z Z) Z (B.at "max") yE (ak (gj (N:=["_law_step"]) (js:=[none]) rfl rfl rfl (kG K rfl (px K (pv 0) aA)) (λ_ _ _ _ _=>(aZ 0 (nY _))) (λ_ _ _ _ _=>fy) (λ_ _ _ _ _=>(dv (x:="abs") mU rfl (B.at "abs") oO (ak (pv 0) aw)))) aw)))),?_⟩;refine⟨_,Z,.inr ⟨a,_,1,.ref b,Z,Z,ha,Z,b,Z,⟨_,hb⟩,λD H0 nw=>?_⟩⟩;refine AZ (K:=K) (xs:=ns.map V.int) (ds:=(ns.map gK).map PyData.int) [] hb nw (by simp) (by simpa using hz) (kI _) ?_ ?_
  ·intro i x d H2 Q' ex ed s2 hq
   obtain⟨m,em,rfl⟩:=nZ ed;rw[bU]at em;cases en:ns[i]? with |none=>rw[en]at em;cases em |some n=>rw[en]at em;cases em;cases wK ex en;exact⟨_,Z,n,Z,hq _ _ (aD.refl _) (df _)⟩
  ·intro H' ys s2 d2 r2
   rw[r2.gT]at d2;refine⟨D,_,Z,aK.of d2,by simpa using j6,λM h1 h2=>?_⟩;rw[FG j6 h1 h2];exact k H' s2
theorem L7:bF ["line"] ["line"] (bu Dx):=bP aP
theorem X7(F:FA K mg "lead_of" Dx)(B:bK mg):aB P w K mg az "lead_of" 1 (jq K):=by
 refine F.has L7 (λvs H Q E h=>?_) (λ_ _ _ _ _ _=>gz λ_=>rfl) (λf aO A outer s H vs Q E hr h=>?_)
 ·obtain⟨v,ns,sp,rfl,_⟩:=h
  rfl
 ·obtain⟨v,ns,sp,rfl,rd,j6,hz,k⟩:=h
  have nd:=L7.nd;obtain⟨a,b,rfl,ha,hb⟩:=lg rd;refine⟨_,(aI (aR (dv (x:="max") (Fo K Z Z) Z (B.at "max") yE (ak (gj (N:=["step"]) (js:=[none]) rfl rfl rfl (kG K rfl (px K (pv 0) aA)) (λ_ _ _ _ _=>(aZ 0 (nY _))) (λ_ _ _ _ _=>fy) (λ_ _ _ _ _=>(dv (x:="abs") mU rfl (B.at "abs") oO (ak (pv 0) aw)))) aw)))),?_⟩;refine⟨_,Z,.inr ⟨a,_,1,.ref b,Z,Z,ha,Z,b,Z,⟨_,hb⟩,λD H0 nw=>?_⟩⟩;refine AZ (K:=K) (xs:=ns.map V.int) (ds:=(ns.map gK).map PyData.int) [] hb nw (by simp) (by simpa using hz) (kI _) ?_ ?_
  ·intro i x d H2 Q' ex ed s2 hq
   obtain⟨m,em,rfl⟩:=nZ ed;rw[bU]at em;cases en:ns[i]? with |none=>rw[en]at em;cases em |some n=>rw[en]at em;cases em;cases wK ex en;exact⟨_,Z,n,Z,hq _ _ (aD.refl _) (df _)⟩
  ·intro H' ys s2 d2 r2
   rw[r2.gT]at d2;refine⟨D,_,Z,aK.of d2,by simpa using j6,λM h1 h2=>?_⟩;rw[FG j6 h1 h2];exact k H' s2
open Rt
theorem La:bF ["p","q","divisor"] ["p","q"] (bu Dz):=bP aP
theorem WY(F:FA K mg "lowest_terms" Dz)(B:bK mg)(Ge:aB P w K mg az "common_divisor" 1 zv):aB P w K mg az "lowest_terms" 2 vP:=by
 refine F.has La (λvs H Q E h=>?_) (λ_ _ _ _ _ _=>e9 λ_ _=>rfl) (λf aO A outer s H vs Q E hr h=>?_)
 ·obtain⟨a,b,rfl,_⟩:=h
  rfl
 ·obtain⟨a,b,rfl,hb,wb,k⟩:=h
  have nd:=La.nd;have sw:Wd (Ar.sg a b):=vn (Ar.K9 hb) wb;refine⟨_,(aC (pS 2 nd (pf Ge hr (ak (pv 0) (ak (pv 1) aw)))) (aC (mi (bA (bJ jy (pv 1) aA (bo _)) (aI (pS 2 nd (iX iQ (pv 2)))) bE)) (aI (aR (cg (ak (aG ME (pv 0) (pv 2)) (ak (aG ME (pv 1) (pv 2)) aw))))))),?_⟩;refine⟨_,Z,_,Z,a,b,Z,?_⟩;refine⟨λO H'=>H'=H/\O=[some (.int a),some (.int b),some (.int (Ar.sg a b))],?_,?_⟩
  ·refine⟨_,Z,_,_,Z,Z,_,Z,?_⟩
   refine dM (λhc=>?_) (λhc=>?_)
   ·have hd:b<0:=il hc
    refine⟨_,Z,_,Z,?_⟩;refine⟨Z,?_⟩;unfold Ar.sg;rw[aX hd];rfl
   ·have hd:¬b<0:=λz=>hc (bT z)
    refine⟨Z,?_⟩;unfold Ar.sg;rw[bf hd];rfl
  rintro O H' ⟨rfl,rfl⟩;refine⟨_,Z,_,Z,_,_,Z,Z,⟨Ar.vT hb,sw⟩,_,Z,_,Z,_,_,Z,Z,⟨Ar.vT hb,sw⟩,(by show 2<=sizeLine;decide),λt H4 nw=>?_⟩;exact k t H4 nw
def bC(K:a8)(H:Hp)(v:V)(r:Rat):Prop:=∃p,v= .ref p/\aV K H p [.int r.num,.int r.den]
theorem bC.go{H H':Hp}{v:V}{r:Rat}(h:bC K H v r)(s:aD H H'):bC K H' v r:=by obtain⟨p,e,q⟩:=h;exact⟨p,e,q.go s⟩
def bM(r:Rat):ah:=.tuple [.int r.num,.int r.den]
theorem bC.rd{H:Hp}{v:V}{r:Rat}(h:bC K H v r):RD K H v (bM r):=by obtain⟨p,rfl,q⟩:=h;exact eY q (bV (df _) (bV (df _) cD))
theorem uc(r:Rat):bW 1 (bM r):=dP.tup (.cons (.int _) (.cons (.int _) .nil))
theorem V3(r:Rat):SeqAt.shaped (bM r)=true:=(uc r).shaped au
theorem eqR{r s:Rat}(h:r=s):PyData.eqv (bM r) (bM s)=true:=by rw[h];exact(uc s).refl
theorem ir{n:Nat}{i:Int}(h:i.natAbs<2^n)(l:n<=5000):Wd i:=cY h (gD au l)
theorem _root_.Rt.Bd.wn{r:Rat}(h:Bd 2000 r):Wd r.num:=ir h.num au
theorem _root_.Rt.Bd.wd{r:Rat}(h:Bd 2000 r):Wd (r.den:Int):=ir (n:=2000) (by have:=h.den;omega) au
theorem BR{r s:Rat}(h:Bd 2000 r)(g:Bd 2000 s):Wd ((r.den:Int)*(s.den:Int)):=ir (n:=4000) (PQ h g) au
theorem EB{H':Hp}{t:Addr}{a b:Int}{r:Rat}(hb:b≠0)(e:r=Rat.divInt a b)(h:H' t=some (.tup [.int (Ar.lowP a b),.int (Ar.fU a b)])):bC K H' (.ref t) r:=by obtain⟨e1,e2⟩:=Fx (a:=a) hb;rw[e1,e2,<-e]at h;exact⟨t,Z,aV.of h⟩
inductive a5U(op:Rat->Rat->Rat)(K:a8)(vs:List V)(H:Hp)(Q:VK):Prop |mk (v1:_)(v2:_)(r:_)(s:_)(h0:vs=[v1,v2])(h1:bC K H v1 r)(h2:bC K H v2 s)(h3:Bd 2000 r)(h4:Bd 2000 s)(h5:∀v H',bC K H' v (op r s)->aD H H'->Q v H')
def qR(op:Rat->Rat->Rat)(K:a8):Sp:=λvs H Q _=>a5U op K vs H Q
theorem KO:bF ["one","other","p","q","r","s"] ["one","other"] (bu Dm):=bP aP
theorem WU(F:FA K mg "minus" Dm)(B:bK mg)(xh:aB P w K mg az "lowest_terms" 2 vP):aB P w K mg az "minus" 3 (qR (·-·) K):=by
 refine F.has KO (λvs H Q E h=>?_) (λ_ _ _ _ _ _=>e9 λ_ _=>rfl) (λf aO A outer s H vs Q E hr h=>?_)
 ·obtain⟨v1,v2,r,s,rfl,_⟩:=h
  rfl
 ·obtain⟨v1,v2,r,s,rfl,⟨p,rfl,hp⟩,⟨q,rfl,hq⟩,br,bs,k⟩:=h
  have nd:=KO.nd;refine⟨_,(aC (eB (pv 0) (cV K Z (n:=2) Z (bN (aZ 2 nd) (bN (aZ 3 nd) cU)))) (aC (eB (pv 1) (cV K Z (n:=2) Z (bN (aZ 4 nd) (bN (aZ 5 nd) cU)))) (aI (aR (pf xh hr (ak (aG fT (aG bO (pv 2) (pv 5)) (aG bO (pv 4) (pv 3))) (ak (aG bO (pv 3) (pv 5)) aw))))))),?_⟩;refine⟨_,Z,_,_,Z,hp,Z,_,_,Z,_,_,Z,Z,?_⟩;refine⟨_,Z,_,_,Z,hq,Z,_,_,Z,_,_,Z,Z,?_⟩;refine⟨_,Z,_,Z,_,_,Z,Z,hZ br.wn.bits bs.wd.bits,_,Z,_,Z,_,_,Z,Z,hZ bs.wn.bits br.wd.bits,_,_,Z,Z,_,Z,_,Z,_,_,Z,Z,hZ br.wd.bits bs.wd.bits,?_⟩;exact⟨_,_,Z,xQ r s,BR br bs,λt H' nw=>k _ _ (EB (xQ r s) (TQ r s) nw.at') nw.same⟩
inductive a6a(K:a8)(vs:List V)(H:Hp)(Q:VK):Prop |mk (v1:_)(v2:_)(r:_)(s:_)(h0:vs=[v1,v2])(h1:bC K H v1 r)(h2:bC K H v2 s)(h3:Bd 2000 r)(h4:Bd 2000 s)(h5:Q (.bl (decide (r<s))) H)
def kz(K:a8):Sp:=λvs H Q _=>a6a K vs H Q
theorem L5:bF ["one","other","p","q","r","s"] ["one","other"] (bu Dv):=bP aP
theorem X5(F:FA K mg "is_less" Dv)(B:bK mg):aB P w K mg az "is_less" 1 (kz K):=by
 refine F.has L5 (λvs H Q E h=>?_) (λ_ _ _ _ _ _=>e9 λ_ _=>rfl) (λf aO A outer s H vs Q E hr h=>?_)
 ·obtain⟨v1,v2,r,s,rfl,_⟩:=h
  rfl
 ·obtain⟨v1,v2,r,s,rfl,⟨p,rfl,hp⟩,⟨q,rfl,hq⟩,br,bs,k⟩:=h
  have nd:=L5.nd;refine⟨_,(aC (eB (pv 0) (cV K Z (n:=2) Z (bN (aZ 2 nd) (bN (aZ 3 nd) cU)))) (aC (eB (pv 1) (cV K Z (n:=2) Z (bN (aZ 4 nd) (bN (aZ 5 nd) cU)))) (aI (aR (fF jy (aG bO (pv 2) (pv 5)) (aG bO (pv 4) (pv 3)) (bo _)))))),?_⟩;refine⟨_,Z,_,_,Z,hp,Z,_,_,Z,_,_,Z,Z,?_⟩;refine⟨_,Z,_,_,Z,hq,Z,_,_,Z,_,_,Z,Z,?_⟩;refine⟨_,Z,_,Z,_,_,Z,Z,hZ br.wn.bits bs.wd.bits,_,Z,_,Z,_,_,Z,Z,hZ bs.wn.bits br.wd.bits,_,_,Z,Z,?_⟩;have e:decide (r.num*(s.den:Int)<s.num*(r.den:Int))=decide (r<s):=by rw[qL,Ii,Ii,Rat.lt_iff]
  show Q (.bl (decide (r.num*(s.den:Int)<s.num*(r.den:Int)))) H;rw[e];exact k
def dS(K:a8)(H:Hp):List V->List Rat->Prop |[],[]=>True |v::vs,r::rs=>bC K H v r/\Bd 2000 r/\dS K H vs rs |_,_=>False
theorem dS.go{H H':Hp}(s:aD H H'):∀{vs:List V}{rs:List Rat},dS K H vs rs->dS K H' vs rs |[],[],_=>trivial |v::vs,r::rs,h=>⟨h.1.go s,h.2.1,dS.go s h.2.2⟩ |[],_::_,h=>h.elim |_::_,[],h=>h.elim
theorem dS.length{H:Hp}:∀{vs:List V}{rs:List Rat},dS K H vs rs->vs.length=rs.length |[],[],_=>rfl |v::vs,r::rs,h=>by rw[nq,nq,dS.length h.2.2] |[],_::_,h=>h.elim |_::_,[],h=>h.elim
theorem dS.get{H:Hp}:∀{vs:List V}{rs:List Rat}{i:Nat}{v:V},dS K H vs rs->vs[i]? =some v->∃r,rs[i]? =some r/\bC K H v r/\Bd 2000 r
 |[],[],i,v,_,e=>by simp at e |v::vs,r::rs,0,v',h,e=>by
  have e':v=v':=by simpa using e
  subst e';exact⟨r,Z,h.1,h.2.1⟩ |v::vs,r::rs,i+1,v',h,e=>by obtain⟨r',e1,q⟩:=dS.get h.2.2 (show vs[i]? =some v' by simpa using e);exact⟨r',by simpa using e1,q⟩ |[],_::_,_,_,h,_=>h.elim |_::_,[],_,_,h,_=>h.elim
inductive a6b(K:a8)(vs:List V)(H:Hp)(Q:VK):Prop |mk (l:_)(xs:_)(rs:_)(h0:vs=[.ref l])(h1:aK K H l xs)(h2:dS K H xs rs)(h3:xs≠[])(h4:∀(i:Nat)(v:V)(r:Rat),xs[i]? =some v->rs[i]? =some r->(∀s∈rs,r<=s)->Q v H)
def me(K:a8):Sp:=λvs H Q _=>a6b K vs H Q
theorem L6:bF ["some","best","one"] ["some"] (bu Dw):=bP aP
theorem X6(F:FA K mg "least" Dw)(B:bK mg)(oo:aB P w K mg az "is_less" 1 (kz K)):aB P w K mg az "least" 2 (me K):=by
 refine F.has L6 (λvs H Q E h=>?_) (λ_ _ _ _ _ _=>gz λ_=>rfl) (λf aO A outer s H vs Q E hr h=>?_)
 ·obtain⟨l,xs,rs,rfl,_⟩:=h
  rfl
 ·obtain⟨l,xs,rs,rfl,hl,om,j6,k⟩:=h
  have nd:=L6.nd;refine⟨_,(aC (pS 1 nd (px K (pv 0) aA)) (aC (fR f7 Z (qZ K Z (pv 0)) (aZ 2 nd) (aI (bA (ck (pf oo hr (ak (pv 2) (ak (pv 1) aw)))) (aI (pS 1 nd (pv 2))) bE))) (aI (aR (pv 1))))),?_⟩;have hlen:=om.length;have h0:0<xs.length:=yK.mpr j6;have e0:=bG h0;refine⟨_,Z,.inl ⟨l,xs,0,xs[0],Z,Z,hl,cQ au e0,?_⟩⟩;refine⟨_,Z,l,Z,⟨_,hl⟩,Gx (K:=K) (a:=l) (xs:=xs) (λi O H2=>H2=H/\∃(j:Nat)(b:V)(r:Rat)(v:Option V),xs[j]? =some b/\rs[j]? =some r/\(∀(m:Nat)(s:Rat),m<i->rs[m]? =some s->r<=s)/\O=[some (.ref l),some b,v]) ?_ (λi O H2 _ h=>by rw[h.1];exact hl) ?_ ?_⟩
  ·obtain⟨r,e1,_⟩:=om.get e0
   exact⟨Z,0,_,r,none,e0,e1,λm s hm=>absurd hm (BG _),Z⟩
  ·rintro i x O H2 hx ⟨rfl,j,b,r,v,eb,er,hm,rfl⟩
   obtain⟨t,et,rt,bt⟩:=om.get hx;obtain⟨r2,xJ,rb,bb⟩:=om.get eb;rw[er]at xJ;cases xJ;refine⟨_,Z,_,Z,x,b,t,r,Z,rt,rb,bt,bb,_,Z,?_⟩;refine dM (λhc=>?_) (λhc=>?_)
   ·have bQ:t<r:=il hc
    refine⟨_,Z,?_⟩;refine⟨Z,i,x,t,_,hx,et,λm s rS es=>?_,Z⟩;rcases IA.mp rS with h|h
    ·exact qF (BB bQ) (hm m s h es)
    ·subst h
     rw[et]at es;cases es;exact qG
   ·have G4:¬t<r:=λz=>hc (bT z)
    refine⟨Z,j,b,r,_,eb,er,λm s rS es=>?_,Z⟩;rcases IA.mp rS with h|h
    ·exact hm m s h es
    ·subst h
     rw[et]at es;cases es;exact BA.mp G4
  ·rintro O H2 ⟨rfl,j,b,r,v,eb,er,hm,rfl⟩
   refine⟨_,Z,k j b r eb er λs hs=>?_⟩;obtain⟨m,G7,em⟩:=RR.mp hs;exact hm m s aq (by rw[bG G7,em])
inductive a63(K:a8)(vs:List V)(H:Hp)(Q:VK):Prop |mk (a:_)(b:_)(h0:vs=[.int a,.int b])(h1:b≠0)(h2:Wd b)(h3:∀v H',bC K H' v (Rat.divInt a b)->aD H H'->Q v H')
def vO(K:a8):Sp:=λvs H Q _=>a63 K vs H Q
theorem Lp:bF ["p","q"] ["p","q"] (bu DP):=bP aP
theorem Xj(F:FA K mg "fraction" DP)(B:bK mg)(lH:aB P w K mg az "is_whole" 1 (iS K))(xh:aB P w K mg az "lowest_terms" 2 vP):aB P w K mg az "fraction" 3 (vO K):=by
 refine F.has Lp (λvs H Q E h=>?_) (λ_ _ _ _ _ _=>e9 λ_ _=>rfl) (λf aO A outer s H vs Q E hr h=>?_)
 ·obtain⟨a,b,rfl,_⟩:=h
  rfl
 ·obtain⟨a,b,rfl,hb,wb,k⟩:=h
  have nd:=Lp.nd;refine⟨_,(aC (bA (PW.pt (fw (cS (ck (pf lH hr (ak (pv 0) aw)))) (iy (cS (ck (pf lH hr (ak (pv 1) aw))))))) (aI EO) bE) (aC (bA (bJ (cC K Z hr.units) (pv 1) aA (bo _)) (aI EO) bE) (aI (aR (pf xh hr (ak (pv 0) (ak (pv 1) aw))))))),?_⟩;have iw:eF "int"=true:=by decide
  refine⟨_,Z,_,"int",Z,Z,_,Z,?_⟩;rw[iw];refine aQ ?_;refine⟨_,Z,_,"int",Z,Z,_,Z,?_⟩;rw[iw];refine aQ ?_;refine⟨_,Z,.inl ⟨_,_,Z,Z,_,Z,?_⟩⟩;rw[cy hb];refine aQ ?_;exact⟨_,Z,_,Z,_,_,Z,hb,wb,λt H' nw=>k _ _ (EB hb Z nw.at') nw.same⟩
theorem Lm:bF ["thing","p","q"] ["thing"] (bu DK):=bP aP
def dQ(rs:List Int)(r f j t:Int):ah:=.tuple [.tuple (rs.map PyData.int),.int r,.int f,.int j,.int t]
theorem wL(rs:List Int)(r f j t:Int):dw (dQ rs r f j t)=true:=by simp[dQ,dw,cE,kI]
theorem l4{H:Hp}{v:V}{rs:List Int}{r f j t:Int}(h:RD K H v (dQ rs r f j t)):∃a b,v= .ref a/\aV K H a [.ref b,.int r,.int f,.int j,.int t]/\aV K H b (rs.map V.int):=by obtain⟨a,xs,rfl,h1,h2⟩:=h.bX;obtain⟨x1,r1,rfl,e1,h2⟩:=h2.cons_inv;obtain⟨x2,r2,rfl,e2,h2⟩:=h2.cons_inv;obtain⟨x3,r3,rfl,e3,h2⟩:=h2.cons_inv;obtain⟨x4,r4,rfl,e4,h2⟩:=h2.cons_inv;obtain⟨x5,r5,rfl,e5,h2⟩:=h2.cons_inv;cases h2.nil_inv;cases e2.int_inv;cases e3.int_inv;cases e4.int_inv;cases e5.int_inv;obtain⟨b,ys,rfl,h3,h4⟩:=e1.bX;rw[h4.gT]at h3;exact⟨a,b,Z,h1,h3⟩
structure fc(rs:List Int)(r f j t:Int):Prop where
 len:rs.length=2\/rs.length=3
 rl:∀z∈rs,1<=z/\z<=100
 r1:1<=r/\r<=50
 f1:1<=f/\f<=50
 j1:1<=j/\j<=50
 t1:1<=t/\t<=100
inductive a65(K:a8)(vs:List V)(H:Hp)(Q:VK):Prop |mk (p:_)(h0:vs=[.ref p])(h1:fA H p)(h2:∀v rs r f j t H',RD K H' v (dQ rs r f j t)->fc rs r f j t->aM p H H'->Q v H')
def JW(K:a8):Sp:=λvs H Q _=>a65 K vs H Q
theorem KS:bF ["_law_bag_here","_law_kind","_law_most","_law_rails"] ["_law_bag_here"] (bu Dq):=bP aP
theorem WX(F:FA K mg "_law_machine" Dq)(B:bK mg)(cu:aB P w K mg az "_law_take" 1 jN):aB P w K mg az "_law_machine" 2 (JW K):=by
 refine F.has KS (λvs H Q E h=>?_) (λ_ _ _ _ _ _=>gz λ_=>rfl) (λf aO A outer s H vs Q E hr h=>?_)
 ·obtain⟨p,rfl,_⟩:=h
  rfl
 ·obtain⟨p,rfl,bg,k⟩:=h
  have nd:=KS.nd;refine⟨_,(aC (pS 1 nd (pf cu hr (ak (pv 0) (ak aA aw)))) (aC (pS 2 nd (px K (cK (ak aA (ak aA (ak aA (ak aA (ak aA (ak aA (ak aA (ak aA aw))))))))) (pv 1))) (aC (pS 3 nd (fh (x:="tuple") (m7 K Z) Z (B.at "tuple") gC (ak (gj (N:=["_law_axis","_law_bag_here","_law_most"]) (js:=[none,some 0,some 2]) rfl rfl rfl (nQ rfl (B.at "range") (ak (aG bZ aA (pf cu hr (ak (pv 0) (ak aA aw)))) aw)) (λ_ _ _ _ _=>(aZ 0 (show List.Nodup (["_law_axis","_law_bag_here","_law_most"]:List Str) by decide+kernel))) (λ_ _ _ _ _=>fy) (λ_ _ _ _ _=>(aG bZ aA (pf cu hr (ak (pv 1) (ak (pv 2) aw)))))) aw))) (aC (bA (bJ (cC K Z hr.units) (pv 1) aA (bo _)) (aI (aR (cg (ak (pv 3) (ak (aG bZ aA (aG bO aA (pf cu hr (ak (pv 0) (ak aA aw))))) (ak (aG bZ aA (aG bO aA (pf cu hr (ak (pv 0) (ak aA aw))))) (ak (aG bZ aA (aG bO aA (pf cu hr (ak (pv 0) (ak aA aw))))) (ak aA aw)))))))) bE) (aI (aR (cg (ak (pv 3) (ak (aG bZ aA (pf cu hr (ak (pv 0) (ak aA aw)))) (ak (aG bZ aA (pf cu hr (ak (pv 0) (ak aA aw)))) (ak (aG bZ aA (pf cu hr (ak (pv 0) (ak aA aw)))) (ak (aG bZ aA (pf cu hr (ak (pv 0) (ak aA aw)))) aw)))))))))))),?_⟩;refine⟨_,Z,p,8,Z,bg,au,au,λkd H1 k0 k1 b1=>?_⟩;refine⟨bc Z,λl H2 nw=>?_⟩;have b2:aM p H1 H2:=.bD b1.aE nw.same;obtain⟨su,mf,ef⟩:=NO [100,100,100,60,60,20,5,100] k0 k1;have f1:1<=su/\su<=100:=by
   have h:∀z∈([100,100,100,60,60,20,5,100]:List Int),1<=z/\z<=100:=by decide
   exact h su mf
  refine⟨_,Z,.inl ⟨l,_,_,_,Z,Z,aK.of nw.at',ef,?_⟩⟩;refine⟨_,Z,p,2,Z,b2.aE,au,au,λax H3 a0 a1 b3=>?_⟩;refine⟨_,_,Z,Z,_,Z,aq,aq,λD H4 n4=>?_⟩;refine a3Y (J:=ng 0 (2+ax).toNat) (p:=p) (H:=H3) (2+ax).toNat _ n4 b3.aE aq (λi=>.int (0+(i:Int))) (λi H5 hi _=>⟨hi,λy H6 ⟨e,q⟩=>⟨e,q⟩⟩) (λH5 _=>bw _) (λz=>1<=z/\z<=100) ?_ ?_
  ·intro i H5 Q' hi b5 hq
   refine⟨_,Z,_,Z,p,su,Z,b5.aE,f1.1,aq,λd H6 d0 d1 b6=>?_⟩;exact⟨_,_,Z,Z,hq _ _ aq b6⟩
  intro H5 is b5 d5 l5 Qm;have mV:=b1.trans (b2.trans (b3.trans b5));refine⟨D,_,Z,.inl ⟨aK.of d5,λq H6 n6=>?_⟩⟩;have b6:aM p H5 H6:=.bD mV.aE n6.same;have q6:aV K H6 q (is.map V.int):=aV.of n6.at';refine⟨_,Z,.inl ⟨_,_,Z,Z,_,Z,?_⟩⟩;refine dM (λhc=>?_) (λhc=>?_)
  ·refine⟨_,Z,_,Z,p,2,Z,b6.aE,au,au,λri H7 UW UU b7=>?_⟩
   refine⟨_,_,Z,Z,.of_left (cm au au),_,_,Z,Z,?_⟩;refine⟨_,Z,p,2,Z,b7.aE,au,au,λfa H8 fa0 fa1 b8=>?_⟩;refine⟨_,_,Z,Z,.of_left (cm au au),_,_,Z,Z,?_⟩;refine⟨_,Z,p,2,Z,b8.aE,au,au,λju H9 YU YT b9=>?_⟩;refine⟨_,_,Z,Z,.of_left (cm au au),_,_,Z,Z,?_⟩;refine⟨bc Z,λt fK gG=>?_⟩;have gc:aM p H9 fK:=.bD b9.aE gG.same;have Qp:=b7.trans (b8.trans (b9.trans gc));have Vn:aV K fK q (is.map V.int):=aV.t (aM.t b6.aE Qp) q6;exact k (.ref t) is (1+49*ri) (1+49*fa) (1+49*ju) 100 fK (eY (aV.of gG.at') (bV (eY Vn (qX is)) (bV (df _) (bV (df _) (bV (df _) (bV (df _) cD)))))) ⟨aq,Qm,aq,aq,aq,aq⟩ (mV.trans (b6.trans Qp))
  ·refine⟨_,Z,_,Z,p,50,Z,b6.aE,au,au,λri H7 UW UU b7=>?_⟩
   refine⟨_,_,Z,Z,?_⟩;refine⟨_,Z,p,50,Z,b7.aE,au,au,λfa H8 fa0 fa1 b8=>?_⟩;refine⟨_,_,Z,Z,?_⟩;refine⟨_,Z,p,50,Z,b8.aE,au,au,λju H9 YU YT b9=>?_⟩;refine⟨_,_,Z,Z,?_⟩;refine⟨_,Z,p,100,Z,b9.aE,au,au,λti fK ti0 vE gc=>?_⟩;refine⟨_,_,Z,Z,bc Z,λt gq jR=>?_⟩;have gI:aM p fK gq:=.bD gc.aE jR.same;have Qo:=b7.trans (b8.trans (b9.trans (gc.trans gI)));have we:aV K gq q (is.map V.int):=aV.t (aM.t b6.aE Qo) q6;exact k (.ref t) is (1+ri) (1+fa) (1+ju) (1+ti) gq (eY (aV.of jR.at') (bV (eY we (qX is)) (bV (df _) (bV (df _) (bV (df _) (bV (df _) cD)))))) ⟨aq,Qm,aq,aq,aq,aq⟩ (mV.trans (b6.trans Qo))
inductive a6k(K:a8)(vs:List V)(H:Hp)(Q:VK):Prop |mk (a:_)(b:_)(h0:vs=[.int a,.int b])(h1:0<b)(h2:Wd b)(h3:∀v H',bC K H' v (Rat.divInt a b)->aD H H'->Q v H')
def p7(K:a8):Sp:=λvs H Q _=>a6k K vs H Q
theorem Lo:bF ["_law_p","_law_q","_law_one","_law_other_here"] ["_law_p","_law_q"] (bu DN):=bP aP
theorem Xi(F:FA K mg "_law_frac" DN)(B:bK mg):aB P w K mg az "_law_frac" 1 (p7 K):=by
 refine F.has Lo (λvs H Q E h=>?_) (λ_ _ _ _ _ _=>e9 λ_ _=>rfl) (λf aO A outer s H vs Q E hr h=>?_)
 ·obtain⟨a,b,rfl,_⟩:=h
  rfl
 ·obtain⟨a,b,rfl,hb,wb,k⟩:=h
  have nd:=Lo.nd;refine⟨_,(aC (nM (i:=2) (j:=3) Z nd Z Z au Z Z (ak (dv (x:="abs") mU Z (B.at "abs") oO (ak (pv 0) aw)) (ak (pv 1) aw)) rfl) (aC (qY f7 (bJ kH (pv 3) aA (bo _)) (aI (nM (i:=2) (j:=3) Z nd Z Z au Z Z (ak (pv 3) (ak (aG nT (pv 2) (pv 3)) aw)) Z))) (aI (aR (cg (ak (aG nU (pv 0) (pv 2)) (ak (aG nU (pv 1) (pv 2)) aw))))))),?_⟩;refine⟨_,Z,_,Z,_,Z,_,_,Z,?_⟩;refine qM (λO H2=>H2=H/\∃(x y:Int),O=[some (.int a),some (.int b),some (.int x),some (.int y)]/\0<=x/\0<=y/\Int.gcd x y=Int.gcd a b) (λO _=>match O with|[_,_,_,some (.int y)]=>y.natAbs|_=>0) ?_ ?_ ?_
  ·refine⟨Z,_,_,Z,by split<;>lia,aq,?_⟩
   have h1:(if a<0 then-a else a).natAbs=a.natAbs:=by split<;>lia
   unfold Int.gcd;rw[h1]
  ·rintro O H2 ⟨rfl,x,y,rfl,x0,y0,e⟩
   refine⟨_,Z,_,_,Z,Z,_,Z,?_⟩;refine dM (λhc=>?_) (λhc=>?_)
   ·have lu:0<y:=il hc
    have hy:y≠0:=by lia
    refine⟨_,Z,_,Z,_,Z,_,_,Z,Z,lu,_,_,Z,?_⟩;refine⟨⟨Z,_,_,Z,y0,oT _ hy,(Ar.OD lu).trans e⟩,?_⟩;show(x%y).natAbs<y.natAbs;have:=oT x hy;have:=tJ x lu
    lia
   ·have hy:y=0:=by
     have:¬y>0:=λz=>hc (bT z)
     lia
    subst hy;rw[Int.gcd_zero_right]at e;have ex:x=((Int.gcd a b:Nat):Int):=by lia
    have oy:b≠0:=by lia
    have gp:=Ar.AF (p:=a) oy;have es:Ar.sg a b=(Int.gcd a b:Int):=by unfold Ar.sg;rw[bf aq]
    have gw:Wd (Int.gcd a b:Int):=by rw[<-es];exact vn (Ar.K9 oy) wb
    obtain⟨e1,e2⟩:=Fx (a:=a) oy;have f1:a/(Int.gcd a b:Int)=(Rat.divInt a b).num:=by rw[<-e1];unfold Ar.lowP;rw[es,S2 _ aq]
    have f2:b/(Int.gcd a b:Int)=((Rat.divInt a b).den:Int):=by rw[<-e2];unfold Ar.fU;rw[es,S2 _ aq]
    subst ex;refine⟨_,Z,_,Z,_,_,Z,Z,⟨gp,gw⟩,_,Z,_,Z,_,_,Z,Z,⟨gp,gw⟩,bc Z,λt H6 n6=>?_⟩;have QA:=n6.at';simp only[f1,f2]at QA;exact k _ _ ⟨t,Z,aV.of QA⟩ n6.same
  ·rintro O H2 Q1 Q2 hq ⟨v1,e1,i,j,e3,e4,kk,e5,q⟩
   exact⟨v1,e1,i,j,e3,e4,kk,e5,hq _ _ q⟩
theorem Lc:bF ["_law_thing"] ["_law_thing"] (bu DA):=bP aP
theorem X0(F:FA K mg "_law_number" DA)(B:bK mg):aB P w K mg az "_law_number" 1 (iS K):=by
 refine F.has Lc (λvs H Q E h=>?_) (λ_ _ _ _ _ _=>gz λ_=>rfl) (λf aO A outer s H vs Q E hr h=>?_)
 ·obtain⟨v,T,rfl,_⟩:=h
  rfl
 ·obtain⟨v,T,rfl,ty,k⟩:=h
  have nd:=Lc.nd;refine⟨_,(aI (aR (iY (fj K B (ak (pv 0) (ak (eZ (x:="int") (v:=.ty "int") Z (B.at "int") qH rfl) aw))) (jw (rf (fj K B (ak (pv 0) (ak (eZ (x:="bool") (v:=.ty "bool") rfl (B.at "bool") RM rfl) aw)))))))),?_⟩;refine⟨_,Z,.inl ⟨_,T,"int",_,Z,ty,au,Z,_,Z,?_⟩⟩;unfold eF at k;refine dM (λhc=>?_) (λhc=>?_)
  ·refine⟨_,Z,.inl ⟨_,T,"bool",_,Z,ty,au,Z,_,Z,?_⟩⟩
   rw[hc,jL]at k;exact k
  ·rw[oU.mpr hc,ji]at k
   exact k
theorem BS:eX "tuple" "tuple"=true:=by decide
abbrev Itm:=Option (List Int × Int)
def itR(d:ah)(o:Itm):Prop:=(∃ns sp,d=fW ns sp/\o=some (ns,sp))\/∃w x,d= .tuple [.str w,x]/\(w="wait"\/w="tool"\/w="mark")/\dw x=true/\o=none
theorem itR.no{d:ah}{o:Itm}(h:itR d o):dw d=true:=by
 rcases h with⟨ns,sp,rfl,_⟩|⟨w,x,rfl,_,h,_⟩
 ·exact FD _ _
 ·simp[dw,cE,h]
theorem Ad{H:Hp}{v:V}{d:ah}{o:Itm}(h:RD K H v d)(i:itR d o):∃a w ys,v= .ref a/\aV K H a (.str w::ys)/\(PyData.eqv (.str w) (.str "line")=o.isSome)/\SeqAt.shaped (.str w)=true:=by
 rcases i with⟨ns,sp,rfl,rfl⟩|⟨w,x,rfl,hw,_,rfl⟩
 ·obtain⟨a,b,rfl,h1,_⟩:=lg h
  exact⟨a,_,_,Z,h1,(by show PyData.eqv (.str "line") (.str "line")=true;decide+kernel),aP⟩
 ·obtain⟨a,xs,rfl,h1,h2⟩:=h.bX
  obtain⟨x1,r1,rfl,e1,h2⟩:=h2.cons_inv;cases e1.str_inv;refine⟨a,w,r1,Z,h1,?_,?_⟩
  ·show PyData.eqv (.str w) (.str "line")=false
   rcases hw with rfl|rfl|rfl<;>decide+kernel
  ·rcases hw with rfl|rfl|rfl<;>decide+kernel
theorem A0:SeqAt.shaped (.str "line")=true:=by decide+kernel
theorem jV{d:ah}{ns:List Int}{sp:Int}(h:itR d (some (ns,sp))):d=fW ns sp:=by
 rcases h with⟨wC,vR,e1,e2⟩|⟨_,_,_,_,_,e2⟩
 ·cases e2;exact e1
 ·cases e2
structure cH(ax:Nat)(ds:List ah)(os:List Itm):Prop where
 len:ds.length=os.length
 it:∀(i:Nat)(d:ah)(o:Itm),ds[i]? =some d->os[i]? =some o->itR d o
 ok:∀(i:Nat)(ns:List Int)(sp:Int),os[i]? =some (some (ns,sp))->eG ax 100 ns/\1<=sp/\sp<=20
theorem cH.nil{ax:Nat}:cH ax [] []:=⟨Z,λi d o e=>by simp at e,λi ns sp e=>by simp at e⟩
theorem p8{α:Type}{xs:List α}{x y:α}{j:Nat}(e:(xs++[x])[j]? =some y):xs[j]? =some y\/(j=xs.length/\y=x):=by
 by_cases hj:j<xs.length
 ·rw[qJ hj]at e;exact .inl e
 ·have rW:j=xs.length:=by
   have:=(cL.mp e).1;rw[cB]at this;have:j<xs.length+1:=this
   lia
  rw[rW,oQ (bw _),BE]at e;exact .inr ⟨rW,(dU e).symm⟩
theorem cH.snoc{ax:Nat}{ds:List ah}{os:List Itm}{d:ah}{o:Itm}(h:cH ax ds os)(i:itR d o)(g:∀ns sp,o=some (ns,sp)->eG ax 100 ns/\1<=sp/\sp<=20):cH ax (ds++[d]) (os++[o]):=by
 have hl:=h.len;refine⟨by rw[cB,cB,h.len];rfl,λj d' o' e1 e2=>?_,λj ns sp e=>?_⟩
 ·rcases p8 e1 with e1|⟨j1,rfl⟩
  ·rcases p8 e2 with e2|⟨j2,rfl⟩
   ·exact h.it j d' o' e1 e2
   ·have:=(cL.mp e1).1;lia
  ·rcases p8 e2 with e2|⟨j2,rfl⟩
   ·have:=(cL.mp e2).1;lia
   ·exact i
 ·rcases p8 e with e|⟨_,e⟩
  ·exact h.ok j ns sp e
  ·exact g ns sp e.symm
theorem cH.no{ax:Nat}{ds:List ah}{os:List Itm}(h:cH ax ds os):cE ds=true:=dh.mpr λd hd=>by obtain⟨i,hi⟩:=BI.mp hd;have hl:=(cL.mp hi).1;exact(h.it i d _ hi (bG (by rw[<-h.len];exact hl))).no
theorem cH.get{ax:Nat}{ds:List ah}{os:List Itm}(h:cH ax ds os){i:Nat}{d:ah}(e:ds[i]? =some d):∃o,os[i]? =some o/\itR d o:=by have hl:=(cL.mp e).1;have e2:=bG (show i<os.length by rw[<-h.len];exact hl);exact⟨_,e2,h.it i d _ e e2⟩
theorem aJ.qS{H:Hp}{l:Addr}{ys:List V}{y:V}{ds:List ah}{d:ah}(dl:H l=some (.lst ys))(r:aJ K H ys ds)(rd:RD K H y d)(n1:cE ds=true)(n2:dw d=true):aJ K (L2.upd H l (.lst (ys++[y]))) (ys++[y]) (ds++[d]):=by have t:dN H (L2.upd H l (.lst (ys++[y]))):=.fM dl;exact(aJ.t t _ n1 r).append (bV (RD.t t _ n2 rd) cD)
inductive a6h(K:a8)(vs:List V)(H:Hp)(Q:VK):Prop |mk (v:_)(d:_)(o:_)(h0:vs=[v])(h1:RD K H v d)(h2:itR d o)(h3:Q (.bl o.isSome) H)
def p5(K:a8):Sp:=λvs H Q _=>a6h K vs H Q
theorem Lg:bF ["item"] ["item"] (bu DE):=bP aP
theorem Xd(F:FA K mg "is_line" DE)(B:bK mg):aB P w K mg az "is_line" 1 (p5 K):=by
 refine F.has Lg (λvs H Q E h=>?_) (λ_ _ _ _ _ _=>gz λ_=>rfl) (λf aO A outer s H vs Q E hr h=>?_)
 ·obtain⟨v,d,o,rfl,_⟩:=h
  rfl
 ·obtain⟨v,d,o,rfl,ri,it,k⟩:=h
  have nd:=Lg.nd;refine⟨_,(aI (aR (fF (cC K Z hr.units) (px K (pv 0) aA) cJ (bo _)))),?_⟩;obtain⟨a,wd,ys,rfl,h1,ew,sw⟩:=Ad ri it;refine⟨_,Z,.inr ⟨a,_,0,.str wd,Z,Z,h1,cQ (iP 0) Z,.inr ⟨_,_,cM _,cM _,sw,A0,?_⟩⟩⟩;rw[ew];exact k
theorem Jv{H:Hp}:∀{xs:List V}{zs:List Str},aJ K H xs (zs.map PyData.str)->xs=zs.map V.str |xs,[],h=>h.nil_inv |xs,n::ns,h=>by obtain⟨y,ys,rfl,h1,h2⟩:=h.cons_inv;rw[h1.str_inv,Jv h2];rfl
theorem a56:iL.cps.toList.length=26:=by decide+kernel
theorem KI:bF ["_law_bag_here","_law_kind","_law_letters"] ["_law_bag_here"] (bu Dj):=bP aP
theorem HD{α:Type}{xs:List α}{x:α}(h:xs.getLast? =some x):dk xs (-1)=some x:=by
 unfold dk gH;have hl:xs≠[]:=by intro e;rw[e]at h;cases h
 have h0:0<xs.length:=yK.mpr hl;rw[bf au,aX aq];rw[RT]at h;show xs[((-1:Int)+(xs.length:Int)).toNat]? =some x;have e:((-1:Int)+(xs.length:Int)).toNat=xs.length-1:=by lia
 rw[e];exact h
def Sh(ns:List Int):ah:=.tuple (ns.map λz=>bM (Rat.divInt z (Ln.aL ns)))
theorem kF(r:Rat):dw (bM r)=true:=by simp[bM,dw,cE]
theorem MP{α:Type}{f:α->ah}(h:∀a,dw (f a)=true)(l:List α):cE (l.map f)=true:=dh.mpr λd hd=>by obtain⟨a,_,rfl⟩:=eV.mp hd;exact h a
inductive a5w(K:a8)(vs:List V)(H:Hp)(Q:VK):Prop |mk (v:_)(ns:_)(sp:_)(h0:vs=[v])(h1:RD K H v (fW ns sp))(h2:eG ns.length 1000 ns)(h3:ns.length<=1000)(h4:∀v' H',RD K H' v' (Sh ns)->aD H H'->Q v' H')
def JH(K:a8):Sp:=λvs H Q _=>a5w K vs H Q
theorem Ke:bF ["line","lead"] ["line"] (bu CK):=bP aP
theorem Wn(F:FA K mg "ways_of" CK)(B:bK mg)(jY:aB P w K mg az "lead_of" 1 (jq K))(xl:aB P w K mg az "fraction" 3 (vO K)):aB P w K mg az "ways_of" 4 (JH K):=by
 refine F.has Ke (λvs H Q E h=>?_) (λ_ _ _ _ _ _=>gz λ_=>rfl) (λf aO A outer s H vs Q E hr h=>?_)
 ·obtain⟨v,ns,sp,rfl,_⟩:=h
  rfl
 ·obtain⟨v,ns,sp,rfl,rd,ok,hz,k⟩:=h
  have nd:=Ke.nd;refine⟨_,(aC (pS 1 nd (pf jY hr (ak (pv 0) aw))) (aI (aR (fh (x:="tuple") (m7 K Z) Z (B.at "tuple") gC (ak (gj (N:=["step","lead"]) (js:=[none,some 1]) rfl rfl rfl (kG K rfl (px K (pv 0) aA)) (λ_ _ _ _ _=>(aZ 0 (iC au))) (λ_ _ _ _ _=>fy) (λ_ _ _ _ _=>(pf xl hr (ak (pv 0) (ak (pv 1) aw))))) aw))))),?_⟩;refine⟨_,Z,v,ns,sp,Z,rd,ok.ne,hz,λH1 s1=>?_⟩;obtain⟨a,b,rfl,ha,hb⟩:=lg (RD.mono s1 _ rd);obtain⟨lp,lm⟩:=ok.lead;refine⟨_,Z,.inr ⟨a,_,1,.ref b,Z,Z,ha,Z,b,Z,⟨_,hb⟩,λD H0 nw=>?_⟩⟩;refine AZ (K:=K) (xs:=ns.map V.int) (ds:=ns.map λz=>bM (Rat.divInt z (Ln.aL ns))) _ hb nw (by simp) (by simpa using hz) (MP (λ_=>kF _) _) ?_ ?_
  ·intro i x d H2 Q' ex ed s2 hq
   obtain⟨n,en,rfl⟩:=nZ ed;cases wK ex en;refine⟨_,Z,_,Z,n,_,Z,aH,ir (n:=20) aH au,λv3 H3 r3 s3=>?_⟩;exact hq _ _ s3 r3.rd
  ·intro H' ys s2 d2 r2
   refine⟨D,_,Z,.inl ⟨aK.of d2,λt H4 n4=>?_⟩⟩;exact k _ _ (eY (aV.of n4.at') (aJ.mono n4.same _ r2)) (s1.trans (s2.trans n4.same))
theorem jk:eX "tuple" "tuple"=true:=by decide
theorem jM(d:ah):(∃i,d= .int i/\eF (da d)=true)\/(eF (da d)=false/\∀i,d≠ .int i):=by cases d with |int i=>exact .inl ⟨i,Z,by simp[da];decide⟩ |_=>exact .inr ⟨by simp[da];decide,λ_ z=>nomatch z⟩
theorem tO(d:ah):(∃ds,d= .tuple ds)\/(eX (da d) "tuple"=false/\∀ds,d≠ .tuple ds):=by cases d with |tuple ds=>exact .inl ⟨ds,Z⟩ |_=>exact .inr ⟨by simp[da];decide,λ_ z=>nomatch z⟩
def gU(lo hi:Int):ah->Bool | .int i=>decide (lo<=i)&&decide (i<=hi) |_=>false
theorem Z8{lo hi:Int}{d:ah}(h:∀i,d≠ .int i):gU lo hi d=false:=by cases d<;>first|rfl|exact absurd rfl (h _)
inductive a5x(K:a8)(vs:List V)(H:Hp)(Q:VK):Prop |mk (v:_)(d:_)(lo:_)(hi:_)(h0:vs=[v,.int lo,.int hi])(h1:RD K H v d)(h2:Q (.bl (gU lo hi d)) H)
def tT(K:a8):Sp:=λvs H Q _=>a5x K vs H Q
theorem Kf:bF ["thing","low","high"] ["thing","low","high"] (bu CL):=bP aP
theorem Wm(F:FA K mg "is_whole_within" CL)(B:bK mg)(lH:aB P w K mg az "is_whole" 1 (iS K)):aB P w K mg az "is_whole_within" 2 (tT K):=by
 refine F.has Kf (λvs H Q E h=>?_) (λ_ _ _ _ _ _=>iJ λ_ _ _=>rfl) (λf aO A outer s H vs Q E hr h=>?_)
 ·obtain⟨v,d,lo,hi,rfl,_⟩:=h
  rfl
 ·obtain⟨v,d,lo,hi,rfl,rd,k⟩:=h
  have nd:=Kf.nd;refine⟨_,(aI (aR (iY (pf lH hr (ak (pv 0) aw)) (jw (VQ zK zK (pv 1) (pv 0) (pv 2)))))),?_⟩;refine⟨_,Z,_,_,Z,rd.ty,_,Z,?_⟩;rcases jM d with⟨i,rfl,e⟩|⟨e,hn⟩
  ·cases rd.int_inv
   rw[e];refine aU ?_;have k:Q (.bl (decide (lo<=i)&&decide (i<=hi))) H:=k;refine⟨_,Z,_,Z,_,_,Z,Z,_,Z,?_⟩;refine dM (λhc=>?_) (λhc=>?_)
   ·have ib:decide (lo<=i)=true:=hc
    rw[ib,jL]at k;exact⟨_,Z,_,_,Z,Z,k⟩
   ·have ib:decide (lo<=i)=false:=oU.mpr hc
    rw[ib,ji]at k;exact k
  ·rw[e]
   refine aQ ?_;rw[Z8 hn]at k;exact k
open Cn
theorem IX{ns ms:List Int}{i:Nat}{a b:Int}(h1:ns[i]? =some a)(h2:ms[i]? =some b):(cN ns ms)[i]? =some (a*(aL ms:Int)-b*(aL ns:Int)):=by unfold cN;rw[bU,(List.getElem?_zip_eq_some (z:=(a,b))).mpr ⟨h1,h2⟩];rfl
def xU(j:Int)(ns ms:List Int):ah:=if aL (cN ns ms)=0 then .none else bM (Rat.divInt ((j*aL ns*aL ms)^2) ((aL (cN ns ms):Int)^2))
inductive a6t(K:a8)(vs:List V)(H:Hp)(Q:VK):Prop |mk (v:_)(v1:_)(v2:_)(rs:_)(r:_)(f:_)(j:_)(t:_)(ns:_)(ms:_)(de:_)(dA:_)(h0:vs=[v,v1,v2])(h1:RD K H v (dQ rs r f j t))(h2:RD K H v1 (fW ns de))(h3:RD K H v2 (fW ms dA))(h4:eG ns.length 1000 ns)(h5:eG ns.length 1000 ms)(h6:ns.length<=1000)(h7:1<=j)(h8:j<=50)(h9:∀v' H',RD K H' v' (xU j ns ms)->aD H H'->Q v' H')
def CB(K:a8):Sp:=λvs H Q _=>a6t K vs H Q
theorem zip2{ns ms:List Int}(h:ms.length=ns.length){i:Nat}{x y:V}(ex:(ns.map V.int)[i]? =some x)(ey:(ms.map V.int)[i]? =some y):∃a b,ns[i]? =some a/\ms[i]? =some b/\x= .int a/\y= .int b:=by rw[bU]at ex ey;cases e1:ns[i]? with |none=>rw[e1]at ex;cases ex |some a=>cases e2:ms[i]? with |none=>rw[e2]at ey;cases ey |some b=>rw[e1]at ex;rw[e2]at ey;exact⟨a,b,Z,Z,(dU ex).symm,(dU ey).symm⟩
inductive a5z(K:a8)(vs:List V)(H:Hp)(Q:VK):Prop |mk (v1:_)(v2:_)(ns:_)(ms:_)(de:_)(dA:_)(h0:vs=[v1,v2])(h1:RD K H v1 (fW ns de))(h2:RD K H v2 (fW ms dA))(h3:eG ns.length 1000 ns)(h4:eG ns.length 1000 ms)(h5:ns.length<=1000)(h6:∀v' H',bC K H' v' (Rat.divInt (aL (cN ns ms)) ((aL ns:Int)*aL ms))->aD H H'->Q v' H')
def JJ(K:a8):Sp:=λvs H Q _=>a5z K vs H Q
theorem Kg:bF ["one","other","greatest","way","new_way","p","q","difference"] ["one","other"] (bu CM):=bP aP
theorem Wo(F:FA K mg "greatest_turn" CM)(B:bK mg)(NV:aB P w K mg az "ways_of" 4 (JH K))(ZQ:aB P w K mg az "minus" 3 (qR (·-·) K))(oo:aB P w K mg az "is_less" 1 (kz K)):aB P w K mg az "greatest_turn" 5 (JJ K):=by
 refine F.has Kg (λvs H Q E h=>?_) (λ_ _ _ _ _ _=>e9 λ_ _=>rfl) (λf aO A outer s H vs Q E hr h=>?_)
 ·obtain⟨v1,v2,ns,ms,de,dA,rfl,_⟩:=h
  rfl
 ·obtain⟨v1,v2,ns,ms,de,dA,rfl,Ey,Ew,eE,dX,hz,k⟩:=h
  have nd:=Kg.nd;obtain⟨Ys,Yz⟩:=eE.lead;obtain⟨Yr,Fz⟩:=dX.lead;have Af:ms.length<=1000:=by rw[dX.len];exact hz
  have XD:eG ms.length 1000 ms:=⟨Z,dX.bd,dX.nz⟩;have cb:=AY (λz hz=>by have:=eE.bd z hz;lia) (λz hz=>by have:=dX.bd z hz;lia) (ns:=ns) (ms:=ms);have L0:(0:Int)<(aL ns:Int)*aL ms:=fL aq aq;have Lb:((aL ns:Int)*aL ms).natAbs<=1000*1000:=jS aq aq;have a8q:(cN ns ms).length=ns.length:=by simp[cN,dX.len]
  have pV:∀c:Int,c.natAbs<=2000000->Bd 2000 (Rat.divInt c ((aL ns:Int)*aL ms)):=λc hc=>(nV (n:=30) aq aq aq).mono au;refine⟨_,(aC (pS 2 nd (cg (ak aA (ak aA aw)))) (aC (fR f7 Z (nP K Z false false Z (B.at "zip") (ak (pf NV hr (ak (pv 0) aw)) (ak (pf NV hr (ak (pv 1) aw)) aw))) (cV K rfl (n:=2) rfl (bN (aZ 3 nd) (bN (aZ 4 nd) cU))) (aC (eB (pf ZQ hr (ak (pv 4) (ak (pv 3) aw))) (cV K Z (n:=2) Z (bN (aZ 5 nd) (bN (aZ 6 nd) cU)))) (aC (pS 7 nd (cg (ak (dv (x:="abs") mU Z (B.at "abs") oO (ak (pv 5) aw)) (ak (pv 6) aw)))) (aI (bA (ck (pf oo hr (ak (pv 2) (ak (pv 7) aw)))) (aI (pS 2 nd (pv 7))) bE))))) (aI (aR (pv 2))))),?_⟩;refine⟨bc Z,λg0 H1 n1=>?_⟩;refine⟨_,Z,v1,ns,de,Z,RD.mono n1.same _ Ey,eE,hz,λw1 H2 r2 s2=>?_⟩;have t2:=n1.same.trans s2;refine⟨_,Z,v2,ms,dA,Z,RD.mono t2 _ Ew,XD,Af,λw2 H3 r3 s3=>?_⟩;have t3:=t2.trans s3;obtain⟨c1,xs1,rfl,h1,q1⟩:=(RD.mono s3 _ r2).bX;obtain⟨c2,xs2,rfl,h2,q2⟩:=r3.bX;have l1:=q1.length;have l2:=q2.length;rw[bB]at l1 l2;refine⟨c1,c2,Z,⟨_,h1⟩,⟨_,h2⟩,?_⟩;refine OM (K:=K) (b1:=false) (b2:=false) (xs:=xs1) (ys:=xs2) ns.length (by rw[l1,l2,dX.len];lia) (λi O H4=>aD H3 H4/\∃g u1 u2 u3 u4 u5,bC K H4 g (Rat.divInt (pT (cN ns ms) i) ((aL ns:Int)*aL ms))/\O=[some v1,some v2,some g,u1,u2,u3,u4,u5]) ?_ (λi O H4 _ h=>⟨h1.go h.1,h2.go h.1⟩) ?_ ?_
  ·refine⟨aD.refl _,.ref g0,none,none,none,none,none,⟨g0,Z,?_⟩,Z⟩
   have e0:Rat.divInt ((pT (cN ns ms) 0:Nat):Int) ((aL ns:Int)*aL ms)=0:=by show Rat.divInt 0 _=0;exact Rat.zero_divInt _
   rw[e0];exact aV.of (s3 _ _ (s2 _ _ n1.at'))
  ·rintro i x y O H4 ex ey ⟨s4,g,u1,u2,u3,u4,u5,rg,rfl⟩ T H5 n5
   obtain⟨d1,e1,rx⟩:=q1.get' i ex;obtain⟨d2,e2,ry⟩:=q2.get' i ey;obtain⟨a,ea,rfl⟩:=nZ e1;obtain⟨b,eb,rfl⟩:=nZ e2;have qa:=eE.bd a (fC ea);have qb:=dX.bd b (fC eb);have cz:=IX ea eb;have czb:=cb _ (fC cz);have t5:=s4.trans n5.same;refine⟨T,_,Z,aV.of n5.at',Z,_,_,Z,_,_,Z,Z,?_⟩;have fQ:∀{H':Hp}{v:V}{r:Rat},RD K H' v (bM r)->bC K H' v r:=λ{H' v r} h=>by obtain⟨p,xs,rfl,h1,h2⟩:=h.bX;have:=h2.gT (ns:=[r.num,r.den]);subst this;exact⟨p,Z,h1⟩
   refine⟨_,Z,_,Z,y,x,_,_,Z,fQ (RD.mono t5 _ ry),fQ (RD.mono t5 _ rx),(nV (n:=30) aq aq aq).mono au,(nV (n:=30) aq aq aq).mono au,λv6 H6 r6 s6=>?_⟩;have ed:Rat.divInt b (aL ms)-Rat.divInt a (aL ns)=Rat.divInt (b*aL ns-a*aL ms) ((aL ns:Int)*aL ms):=TM aq aq;have r6:bC K H6 v6 (Rat.divInt b (aL ms)-Rat.divInt a (aL ns)):=r6;rw[ed]at r6;obtain⟨p6,rfl,h6⟩:=r6;refine⟨p6,_,Z,h6,Z,_,_,Z,_,_,Z,Z,?_⟩;refine⟨_,Z,_,Z,_,Z,bc Z,λdd H7 n7=>?_⟩;have kX:=s6.trans n7.same;have rD:bC K H7 (.ref dd) (Rat.divInt (((a*(aL ms:Int)-b*(aL ns:Int)).natAbs:Nat):Int) ((aL ns:Int)*aL ms)):=by
    have e:Rat.divInt (((a*(aL ms:Int)-b*(aL ns:Int)).natAbs:Nat):Int) ((aL ns:Int)*aL ms)=sT (Rat.divInt (b*aL ns-a*aL ms) ((aL ns:Int)*aL ms)):=by rw[a52 L0,y9];congr 1;lia
    rw[e];refine⟨dd,Z,?_⟩;rw[a51,a53];exact aV.of n7.at'
   have rG:bC K H7 g _:=(rg.go n5.same).go kX;have hG:pT (cN ns ms) i<=2000000:=mC λz hz=>cb z (tD hz);refine⟨_,Z,_,Z,g,.ref dd,_,_,Z,rG,rD,pV _ aq,pV _ aq,_,Z,?_⟩;have hs:=a0f cz;refine dM (λhc=>?_) (λhc=>?_)
   ·have bQ:=(PL L0).mp (il hc)
    refine⟨_,Z,?_⟩;refine⟨t5.trans kX,_,_,_,_,_,_,?_,Z⟩;rw[hs,Nat.max_eq_right aq];exact rD
   ·have Av:¬_:=λz=>hc (bT ((PL L0).mpr z))
    refine⟨t5.trans kX,_,_,_,_,_,_,?_,Z⟩;rw[hs,Nat.max_eq_left aq];exact rG
  ·rintro O H4 ⟨s4,g,u1,u2,u3,u4,u5,rg,rfl⟩
   refine⟨_,Z,k _ _ ?_ (t3.trans s4)⟩;have:pT (cN ns ms) ns.length=aL (cN ns ms):=by unfold pT;rw[yJ aq]
   rw[this]at rg;exact rg
theorem LA:bF ["machine","one","other","jump","p","q"] ["machine","one","other"] (bu DY):=bP aP
theorem Xr(F:FA K mg "corner_square" DY)(B:bK mg)(a0g:aB P w K mg az "greatest_turn" 5 (JJ K))(xl:aB P w K mg az "fraction" 3 (vO K)):aB P w K mg az "corner_square" 6 (CB K):=by
 refine F.has LA (λvs H Q E h=>?_) (λ_ _ _ _ _ _=>iJ λ_ _ _=>rfl) (λf aO A outer s H vs Q E hr h=>?_)
 ·obtain⟨v,v1,v2,rs,r,f',j,t,ns,ms,de,dA,rfl,_⟩:=h
  rfl
 ·obtain⟨v,v1,v2,rs,r,f',j,t,ns,ms,de,dA,rfl,rd,Ey,Ew,eE,dX,hz,j1,j2,k⟩:=h
  have nd:=LA.nd;obtain⟨Ys,Yz⟩:=eE.lead;obtain⟨Yr,Fz⟩:=dX.lead;have L0:(0:Int)<(aL ns:Int)*aL ms:=fL aq aq;have Lb:((aL ns:Int)*aL ms).natAbs<=1000*1000:=jS aq aq;have cb:=AY (λz hz=>by have:=eE.bd z hz;lia) (λz hz=>by have:=dX.bd z hz;lia) (ns:=ns) (ms:=ms);have hH:=mC cb;refine⟨_,(aC (pS 3 nd (px K (pv 0) aA)) (aC (eB (pf a0g hr (ak (pv 1) (ak (pv 2) aw))) (cV K Z (n:=2) Z (bN (aZ 4 nd) (bN (aZ 5 nd) cU)))) (aC (bA (bJ (cC K Z hr.units) (pv 4) aA (bo _)) (aI (aR eQ)) bE) (aI (aR (pf xl hr (ak (aG bO (aG bO (aG bO (pv 3) (pv 3)) (pv 5)) (pv 5)) (ak (aG bO (pv 4) (pv 4)) aw)))))))),?_⟩;obtain⟨am,bm,rfl,fZ,kK⟩:=l4 rd;refine⟨_,Z,.inr ⟨am,_,3,.int j,Z,Z,fZ,Z,?_⟩⟩;refine⟨_,Z,_,Z,v1,v2,ns,ms,de,dA,Z,Ey,Ew,eE,dX,hz,λv3 H3 r3 s3=>?_⟩;obtain⟨HA⟩:Nonempty (Bd 30 (Rat.divInt (aL (cN ns ms)) ((aL ns:Int)*aL ms))):=⟨nV (n:=30) aq aq aq⟩;have en:=vj (Rat.divInt (aL (cN ns ms)) ((aL ns:Int)*aL ms));obtain⟨R,hR⟩:∃R,Rat.divInt (aL (cN ns ms)) ((aL ns:Int)*aL ms)=R:=⟨_,Z⟩;rw[hR]at r3 HA en;have dp:=den_pos R;have xT:R.num*((aL ns:Int)*aL ms)=aL (cN ns ms)*R.den:=by rw[<-hR]at en;have:=(Rat.divInt_eq_divInt_iff (by rw[hR];lia) aq).mp en;rw[hR]at this;exact this
  have nb:=HA.num;have db:=HA.den;obtain⟨p3,rfl,h3⟩:=r3;refine⟨p3,_,Z,h3,Z,_,_,Z,_,_,Z,Z,?_⟩;refine⟨_,Z,.inl ⟨_,_,Z,Z,_,Z,?_⟩⟩;refine dM (λhc=>?_) (λhc=>?_)
  ·have h0:R.num=0:=by simpa using hc
   have hl:aL (cN ns ms)=0:=by
    rw[h0,yN]at xT;rcases Int.mul_eq_zero.mp xT.symm with h|h
    ·lia
    ·lia
   refine k .bR H3 ?_ s3;unfold xU;rw[aX hl];exact u9
  ·have h0:R.num≠0:=by simpa using hc
   have hl:aL (cN ns ms)≠0:=by
    intro z;rw[z]at xT;have:R.num*((aL ns:Int)*aL ms)=0:=by rw[xT];exact yN _
    rcases Int.mul_eq_zero.mp this with h|h
    ·exact h0 h
    ·lia
   have m1:(j*j).natAbs<=50*50:=jS aq aq;have k9:(2:Nat)^64=18446744073709551616:=by decide
   refine⟨_,Z,_,Z,_,_,Z,Z,.of_left (cm aq aq),_,Z,_,_,Z,Z,.of_left (cm aq aq),_,Z,_,_,Z,Z,.of_right (cm aq aq),?_⟩;refine⟨_,Z,_,Z,_,_,Z,Z,.of_left (cm aq aq),?_⟩;refine⟨_,_,Z,IT h0 h0,?_,λv4 H4 r4 s4=>?_⟩
   ·refine ir (n:=60) ?_ au
    rw[gs];exact pE (n:=30) (m:=30) nb nb
   ·refine k _ _ ?_ (s3.trans s4)
    unfold xU;rw[bf hl];have e:=a3R (j:=j) (p:=R.num) (q:=R.den) (h:=aL (cN ns ms)) (L:=(aL ns:Int)*aL ms) h0 aq xT;rw[e,<-tI]at r4;exact r4.rd
def Mc (d:ah):Bool:=gU 10 200 d
inductive a5T(K:a8)(vs:List V)(H:Hp)(Q:VK):Prop |mk (v:_)(d:_)(h0:vs=[v])(h1:RD K H v d)(h2:Q (.bl (Mc d)) H)
def Ci(K:a8):Sp:=λvs H Q _=>a5T K vs H Q
theorem Lf:bF ["thing"] ["thing"] (bu DD):=bP aP
theorem Xc(F:FA K mg "is_rate" DD)(B:bK mg)(a12:GV mg "LEAST_RATE" (.int 10))(a14:GV mg "GREATEST_RATE" (.int 200))(rX:aB P w K mg az "is_whole_within" 2 (tT K)):aB P w K mg az "is_rate" 3 (Ci K):=by
 refine F.has Lf (λvs H Q E h=>?_) (λ_ _ _ _ _ _=>gz λ_=>rfl) (λf aO A outer s H vs Q E hr h=>?_)
 ·obtain⟨v,d,rfl,_⟩:=h
  rfl
 ·obtain⟨v,d,rfl,rd,k⟩:=h
  have nd:=Lf.nd;refine⟨_,(aI (aR (pf rX hr (ak (pv 0) (ak (dg (x:="LEAST_RATE") Z a12) (ak (dg (x:="GREATEST_RATE") Z a14) aw)))))),?_⟩;exact⟨_,Z,v,d,10,200,Z,rd,k⟩
inductive a5B(K:a8)(vs:List V)(H:Hp)(Q:VK):Prop |mk (v:_)(ns:_)(sp:_)(r:_)(h0:vs=[v,.int r])(h1:RD K H v (fW ns sp))(h2:1<=sp)(h3:sp<=20)(h4:10<=r)(h5:r<=200)(h6:∀v' H',bC K H' v' (Rat.divInt ((sp*r)^2) 10000)->aD H H'->Q v' H')
def tV(K:a8):Sp:=λvs H Q _=>a5B K vs H Q
theorem JF(a b:Int):a*a*b*b=(a*b)^2:=by rw[fu,fu,kU,kr];ac_rfl
theorem V0{r:Int}(h1:10<=r)(h2:r<=200):Mc (.int r)=true:=by show(decide (10<=r)&&decide (r<=200))=true;rw[bT h1,bT h2];rfl
theorem Ki:bF ["line","rate","speed"] ["line","rate"] (bu CP):=bP aP
theorem Wr(F:FA K mg "top_square" CP)(B:bK mg)(a05:aB P w K mg az "is_rate" 3 (Ci K))(xl:aB P w K mg az "fraction" 3 (vO K)):aB P w K mg az "top_square" 4 (tV K):=by
 refine F.has Ki (λvs H Q E h=>?_) (λ_ _ _ _ _ _=>e9 λ_ _=>rfl) (λf aO A outer s H vs Q E hr h=>?_)
 ·obtain⟨v,ns,sp,r,rfl,_⟩:=h
  rfl
 ·obtain⟨v,ns,sp,r,rfl,rd,s1,s2,r1,r2,k⟩:=h
  have nd:=Ki.nd;refine⟨_,(aC (bA (cS (ck (pf a05 hr (ak (pv 1) aw)))) (aI EO) bE) (aC (pS 2 nd (px K (pv 0) aA)) (aI (aR (pf xl hr (ak (aG bO (aG bO (aG bO (pv 2) (pv 2)) (pv 1)) (pv 1)) (ak (aG bO aA aA) aw))))))),?_⟩;refine⟨_,Z,_,.int r,Z,df r,_,Z,?_⟩;rw[V0 r1 r2];refine aQ ?_;obtain⟨a,b,rfl,ha,hb⟩:=lg rd;refine⟨_,Z,.inr ⟨a,_,2,.int sp,Z,Z,ha,Z,?_⟩⟩;have m1:(sp*sp).natAbs<=20*20:=by rw[gs];exact nk aq aq
  refine⟨_,Z,_,Z,_,_,Z,Z,.of_left (cm aq aq),_,Z,_,_,Z,Z,.of_left (cm aq aq),_,Z,_,_,Z,Z,.of_right (cm aq aq),?_⟩;refine⟨_,_,Z,Z,.of_left (cm au au),?_⟩;refine⟨_,_,Z,au,ir (n:=20) au au,λv' H' r' s'=>k v' H' ?_ s'⟩;rw[JF]at r';exact r'
inductive a5A(K:a8)(vs:List V)(H:Hp)(Q:VK):Prop |mk (v:_)(ns:_)(sp:_)(r:_)(h0:vs=[v,.int r])(h1:RD K H v (fW ns sp))(h2:1<=sp)(h3:sp<=20)(h4:10<=r)(h5:r<=200)(h6:∀v' H',bC K H' v' (Rat.divInt ((sp*r)^2) 10000)->aD H H'->Q v' H')
def vN(K:a8):Sp:=λvs H Q _=>a5A K vs H Q
theorem Kh:bF ["_law_line_here","_law_rate"] ["_law_line_here","_law_rate"] (bu CO):=bP aP
open Pn
open Ow (topR cornO mnO betR atO ownF leadF ownL OkI OkIs)
theorem tX(n:Nat)(h:n<=1000):n<sizeLine:=vn h au
theorem fQ{H:Hp}{v:V}{r:Rat}(h:RD K H v (bM r)):bC K H v r:=by obtain⟨p,xs,rfl,h1,h2⟩:=h.bX;have:=h2.gT (ns:=[r.num,r.den]);subst this;exact⟨p,Z,h1⟩
theorem eG.up{ax:Nat}{ns:List Int}(h:eG ax 100 ns):eG ns.length 1000 ns:=⟨Z,λz hz=>by have:=h.bd z hz;lia,h.nz⟩
theorem cH.pq{ax:Nat}{ds:List ah}{os:List Itm}(h:cH ax ds os):OkIs os:=λi ns sp e=>by unfold atO at e;cases ho:os[i]? with |none=>rw[ho]at e;cases e |some o=>rw[ho]at e;have e':o=some (ns,sp):=e;subst e';obtain⟨a,b,c⟩:=h.ok i ns sp ho;exact⟨a.bd,b,c⟩
theorem F8{H:Hp}{a:Addr}(h:aV K H a [.int 0,.int 1]):bC K H (.ref a) 0:=⟨a,Z,h⟩
theorem a3T(j:Int)(ns ms:List Int):xU j ns ms=match cornO j ns ms with|none=>.none|some c=>bM c:=by unfold xU cornO;split<;>rfl
inductive a6w(K:a8)(vs:List V)(H:Hp)(Q:VK):Prop |mk (m:_)(v1:_)(v2:_)(rate:_)(rs:_)(r:_)(f:_)(j:_)(t:_)(d1:_)(d2:_)(o1:_)(o2:_)(ax:_)(h0:vs=[m,v1,v2,.int rate])(h1:RD K H m (dQ rs r f j t))(h2:1<=j)(h3:j<=50)(h4:RD K H v1 d1)(h5:RD K H v2 d2)(h6:itR d1 o1)(h7:itR d2 o2)(h8:(∀ns sp,o1=some (ns,sp)->eG ax 100 ns/\1<=sp/\sp<=20))(h9:(∀ns sp,o2=some (ns,sp)->eG ax 100 ns/\1<=sp/\sp<=20))(sk:ax<=100)(Gq:10<=rate)(Gp:rate<=200)(h13:∀v H',bC K H' v (betR j rate o1 o2)->aD H H'->Q v H')
def CD(K:a8):Sp:=λvs H Q _=>a6w K vs H Q
theorem LF:bF ["machine","one","other","rate","squares","corner"] ["machine","one","other","rate"] (bu E3):=bP aP
theorem Xw(F:FA K mg "bound_between" E3)(B:bK mg)(gN:GT K mg "NOUGHT" [.int 0,.int 1])(kL:aB P w K mg az "is_line" 1 (p5 K))(pM:aB P w K mg az "top_square" 4 (tV K))(a0s:aB P w K mg az "corner_square" 6 (CB K))(rV:aB P w K mg az "least" 2 (me K)):aB P w K mg az "bound_between" 7 (CD K):=by
 obtain⟨aN,oz,p4⟩:=gN;refine F.has LF (λvs H Q E h=>?_) (λ_ _ _ _ _ _=>sS λ_ _ _ _=>rfl) (λf aO A outer s H vs Q E hr h=>?_)
 ·obtain⟨m,v1,v2,rate,rs,r,f,j,t,d1,d2,o1,o2,ax,rfl,_⟩:=h
  rfl
 ·obtain⟨m,v1,v2,rate,rs,r,f,j,t,d1,d2,o1,o2,ax,rfl,rm,j1,j2,r1,r2,i1,i2,k1,k2,Om,cf,cj,k⟩:=h
  have nd:=LF.nd;refine⟨_,(aC (bA (PW.pt (fw (cS (ck (pf kL hr (ak (pv 1) aw)))) (iy (cS (ck (pf kL hr (ak (pv 2) aw))))))) (aI (aR (dg (x:="NOUGHT") Z oz))) bE) (aC (pS 4 nd (cK (ak (pf pM hr (ak (pv 1) (ak (pv 3) aw))) (ak (pf pM hr (ak (pv 2) (ak (pv 3) aw))) aw)))) (aC (pS 5 nd (pf a0s hr (ak (pv 0) (ak (pv 1) (ak (pv 2) aw))))) (aC (mi (bA (bJ nS (pv 5) eQ (bo _)) (aI (gu (iz K Z (pv 4) (ak (pv 5) aw)))) bE)) (aI (aR (pf rV hr (ak (pv 4) aw)))))))),?_⟩;refine⟨_,Z,v1,d1,o1,Z,r1,i1,_,Z,?_⟩;cases o1 with |none=>refine aU (aU ?_);have:=k _ H (F8 (p4 H)) (aD.refl _);exact this |some q1=>obtain⟨ns,sp⟩:=q1;refine aQ ?_;refine⟨_,Z,v2,d2,o2,Z,r2,i2,_,Z,?_⟩;cases o2 with |none=>refine aU ?_;exact k _ H (F8 (p4 H)) (aD.refl _) |some q2=>obtain⟨ms,sq⟩:=q2;refine aQ ?_;have e1:=jV i1;have e2:=jV i2;subst e1 e2;obtain⟨eE,a1,a2⟩:=k1 ns sp rfl;obtain⟨dX,b1,b2⟩:=k2 ms sq rfl;refine⟨_,Z,_,Z,v1,ns,sp,rate,Z,r1,a1,a2,cf,cj,λt1 H1 Ej s1=>?_⟩;refine⟨_,Z,_,Z,v2,ms,sq,rate,Z,RD.mono s1 _ r2,b1,b2,cf,cj,λt2 H2 Eh s2=>?_⟩;refine⟨bc Z,λl H3 n3=>?_⟩;have t3:=s1.trans (s2.trans n3.same);have XB:eG ns.length 1000 ms:=⟨by rw[eE.len,dX.len],dX.up.bd,dX.nz⟩;refine⟨_,Z,_,Z,_,Z,m,v1,v2,rs,r,f,j,t,ns,ms,sp,sq,Z,RD.mono t3 _ rm,RD.mono t3 _ r1,RD.mono t3 _ r2,eE.up,XB,by rw[eE.len];lia,j1,j2,λc H4 rc s4=>?_⟩;have T1:Bd 2000 (topR rate sp):=(Ow.ku a1 a2 cf cj).mono au;have T2:Bd 2000 (topR rate sq):=(Ow.ku b1 b2 cf cj).mono au;have R1:bC K H4 t1 (topR rate sp):=((Ej.go s2).go n3.same).go s4;have R2:bC K H4 t2 (topR rate sq):=(Eh.go n3.same).go s4;have t4:=t3.trans s4;rw[a3T]at rc;cases hc:cornO j ns ms with
   |none=>
    rw[hc]at rc;cases rc.F9;refine⟨λO H5=>H5=H4/\O=[some m,some v1,some v2,some (.int rate),some (.ref l),some .bR],?_,?_⟩
    ·refine⟨_,Z,Z,_,Z,aQ ?_⟩
     exact⟨Z,Z⟩
    rintro O H5 ⟨rfl,rfl⟩;refine⟨_,Z,l,[t1,t2],[topR rate sp,topR rate sq],Z,aK.of (s4 _ _ n3.at'),⟨R1,T1,R2,T2,trivial⟩,by simp,λi v q e1 e2 hq=>?_⟩;have lA:betR j rate (some (ns,sp)) (some (ms,sq))=q:=by
     show mnO (mn _ _) (cornO j ns ms)=q;rw[hc];refine pF ?_ (hq _ (by simp)) (hq _ (by simp))
     match i,e2 with |0,e2=>cases e2;exact .inl rfl |1,e2=>cases e2;exact .inr rfl
    refine k v _ ?_ t4;rw[lA]
    match i,e1,e2 with |0,e1,e2=>cases e1;cases e2;exact R1 |1,e1,e2=>cases e1;cases e2;exact R2
   |some cq=>
    rw[hc]at rc;have Rc:bC K H4 c cq:=fQ rc;have Tc:Bd 2000 cq:=(Ow.Hj j1 j2 eE.bd dX.bd hc).mono au;have kg:=s4 _ _ n3.at';have tU:dN H4 (L2.upd H4 l (.lst ([t1,t2]++[c]))):=.fM kg;refine⟨λO H5=>H5=L2.upd H4 l (.lst ([t1,t2]++[c]))/\O=[some m,some v1,some v2,some (.int rate),some (.ref l),some c],?_,?_⟩
    ·obtain⟨pc,rfl,_⟩:=id Rc
     refine⟨_,Z,Z,_,Z,aU ?_⟩;refine⟨_,Z,.inl ⟨Z,_,aK.of kg⟩,_,Z,l,[t1,t2],_,Z,Z,kg,tX _ (Nat.le_of_ble_eq_true Z),?_⟩;exact⟨Z,Z⟩
    rintro O H5 ⟨rfl,rfl⟩;have up:∀{v:V}{q:Rat},bC K H4 v q->bC K (L2.upd H4 l (.lst ([t1,t2]++[c]))) v q:=λ{v q} h=>fQ (RD.t tU _ (kF q) h.rd);refine⟨_,Z,l,[t1,t2,c],[topR rate sp,topR rate sq,cq],Z,aK.of cF,⟨up R1,T1,up R2,T2,up Rc,Tc,trivial⟩,by simp,λi v q e1 e2 hq=>?_⟩;have lA:betR j rate (some (ns,sp)) (some (ms,sq))=q:=by
     show mnO (mn _ _) (cornO j ns ms)=q;rw[hc];show mn (mn _ _) cq=q;have h1:=hq _ (show topR rate sp∈[topR rate sp,topR rate sq,cq] by simp);have h2:=hq _ (show topR rate sq∈[topR rate sp,topR rate sq,cq] by simp);have h3:=hq _ (show cq∈[topR rate sp,topR rate sq,cq] by simp);refine pF ?_ (o8 h1 h2) h3
     match i,e2 with |0,e2=>cases e2;exact .inl (pF (.inl rfl) h1 h2).symm |1,e2=>cases e2;exact .inl (pF (.inr rfl) h1 h2).symm |2,e2=>cases e2;exact .inr rfl
    have sU:aD H (L2.upd H4 l (.lst ([t1,t2]++[c]))):=λb o e=>by have h0:H2 l=none:=n3.no;have e2:=s2 b o (s1 b o e);rw[bL (cW e2 h0)];exact t4 b o e
    refine k v _ ?_ sU;rw[lA]
    match i,e1,e2 with |0,e1,e2=>cases e1;cases e2;exact up R1 |1,e1,e2=>cases e1;cases e2;exact up R2 |2,e1,e2=>cases e1;cases e2;exact up Rc
theorem mq(qs:List Rat):cE (qs.map bM)=true:=MP kF qs
theorem aJ.zx{H:Hp}{l:Addr}{ys:List V}{y:V}{ds:List ah}{d:ah}{i:Nat}(dl:H l=some (.lst ys))(r:aJ K H ys ds)(rd:RD K H y d)(n1:cE ds=true)(n2:dw d=true):aJ K (L2.upd H l (.lst (ys.set i y))) (ys.set i y) (ds.set i d):=by have t:dN H (L2.upd H l (.lst (ys.set i y))):=.fM dl;have r':=aJ.t t _ n1 r;have nJ:=RD.t t _ n2 rd;clear r rd dl t;generalize L2.upd H l (.lst (ys.set i y))=H' at r' nJ;induction ds generalizing ys i with |nil=>cases r'.nil_inv;exact cD |cons d0 ds ih=>
 obtain⟨y0,yr,rfl,h1,h2⟩:=r'.cons_inv;have Ya:cE ds=true:=by rw[cE,f9]at n1;exact n1.2
 cases i with |zero=>exact bV nJ h2 |succ i=>exact bV h1 (ih Ya h2)
theorem a3G(xs:List V):fm xs (some 1) none=xs.drop 1:=by unfold fm;have e:HT.bI xs.length 0 (some 1)=min 1 xs.length:=HT.DB _ _ 1;rw[e,HT.LM];cases xs with |nil=>rfl |cons x xs=>
 have e2:min 1 (x::xs).length=1:=by simp
 rw[e2,yJ (by simp)]
inductive a5Z(K:a8)(vs:List V)(H:Hp)(Q:VK):Prop |mk (m:_)(iv:_)(rate:_)(rs:_)(r:_)(f:_)(j:_)(t:_)(ds:_)(os:_)(h0:vs=[m,iv,.int rate])(h1:RD K H m (dQ rs r f j t))(h2:fc rs r f j t)(h3:RD K H iv (.tuple ds))(h4:cH rs.length ds os)(h5:ds.length<=100)(h6:10<=rate)(h7:rate<=200)(h8:∀l ys H',H l=none->H' l=some (.lst ys)->aJ K H' ys ((ownL j rate os).map bM)->aD H H'->Q (.ref l) H')
def zq(K:a8):Sp:=λvs H Q _=>a5Z K vs H Q
theorem KH:bF ["machine","items","rate","between"] ["machine","items","rate"] (bu Di):=bP aP
theorem WO(F:FA K mg "own_bounds" Di)(B:bK mg)(gN:GT K mg "NOUGHT" [.int 0,.int 1])(a0y:aB P w K mg az "bound_between" 7 (CD K)):aB P w K mg az "own_bounds" 8 (zq K):=by
 obtain⟨aN,oz,p4⟩:=gN;refine F.has KH (λvs H Q E h=>?_) (λ_ _ _ _ _ _=>iJ λ_ _ _=>rfl) (λf aO A outer s H vs Q E hr h=>?_)
 ·obtain⟨m,iv,rate,rs,r,f,j,t,ds,os,rfl,_⟩:=h
  rfl
 ·obtain⟨m,iv,rate,rs,r,f,j,t,ds,os,rfl,rm,aW,ri,row,hz,cf,cj,k⟩:=h
  have nd:=KH.nd;have rN:∀H',RD K H' (.ref aN) (bM 0):=λH'=>(F8 (p4 H')).rd;refine⟨_,(aC (bA (cS (Vp K Z (pv 1))) (aI (aR (cK (ak (dg (x:="NOUGHT") Z oz) aw)))) bE) (aC (EN (i0:=3) nd Z (Or.inl Z) (N:=["one","other","machine","rate"]) (js:=[none,none,some 0,some 2]) Z Z Z (nP K Z false false Z (B.at "zip") (ak (pv 1) (ak (fS (iT K rfl) (pv 1) (fg aA) gy) aw))) (λ_ _ _ _ _=>(cV K rfl (n:=2) rfl (bN (aZ 0 (show List.Nodup (["one","other","machine","rate"]:List Str) by decide+kernel)) (bN (aZ 1 (show List.Nodup (["one","other","machine","rate"]:List Str) by decide+kernel)) cU)))) (λ_ _ _ _ _=>fy) (λ_ _ _ _ _=>(pf a0y hr (ak (pv 2) (ak (pv 0) (ak (pv 1) (ak (pv 3) aw))))))) (aI (aR (aG (lR K Z) (aG (lR K Z) (cK (ak (dg (x:="NOUGHT") Z oz) aw)) (pv 3)) (cK (ak (dg (x:="NOUGHT") Z oz) aw))))))),?_⟩;obtain⟨ia,xs,rfl,hi,cT⟩:=ri.bX;have lx:=cT.length;have ll:=row.len;refine⟨_,Z,_,.inr (.inl ⟨_,hi,Z⟩),?_⟩;cases hd:xs with
  |nil=>
   subst hd;refine aU ?_;refine⟨bc Z,λl H1 n1=>?_⟩;refine k l [.ref aN] H1 n1.no n1.at' ?_ n1.same;have e:os=[]:=by
    have:os.length=0:=by rw[<-ll,<-lx];rfl
    exact yL.mp this
   rw[e];exact bV (rN H1) cD |cons x0 xr=>
   refine aQ ?_;have j6:os≠[]:=by intro e;rw[e]at ll;rw[hd]at lx;simp at ll lx;rw[ll]at lx;cases lx
   have Ag:0<xs.length:=by rw[hd];simp
   refine⟨_,Z,_,Z,1,Z,ia,xs,Z,.inr ⟨hi,?_,λtl H1 n1=>?_⟩⟩
   ·rintro⟨h1,_⟩
    have e:HT.bI xs.length 0 (some 1)=min 1 xs.length:=HT.DB _ _ 1;rw[e]at h1
    lia
   refine⟨ia,tl,Z,⟨_,hi.go n1.same⟩,⟨_,aV.of n1.at'⟩,λD H2 n2=>?_⟩;have et:=n1.at';rw[a3G]at et;have MH:∀(i:Nat)(o:Itm),os[i]? =some o->∀(ns:List Int)(sp:Int),o=some (ns,sp)->eG rs.length 100 ns/\1<=sp/\sp<=20:=λi o e ns sp e'=>row.ok i ns sp (by rw[e,e']);have lr:=aW.len;refine uW (K:=K) (b1:=false) (b2:=false) (xs:=xs) (ys:=xs.drop 1) (ds:=((List.range (os.length-1)).map (λi=>ownF j rate os (i+1))).map bM) _ Z (hi.go n1.same) (aV.of et) n2 (by rw[tF];simp;lia) (by simp;lia) (mq _) ?_ ?_
   ·intro i x y d H3 Q' ex ey ed s3 hq
    have iV:=n1.same.trans s3;rw[List.getElem?_drop]at ey;obtain⟨d1,e1,r1⟩:=cT.get' i ex;obtain⟨d2,e2,r2⟩:=cT.get' (1+i) ey;obtain⟨o1,sy,i1⟩:=row.get e1;obtain⟨o2,qg,i2⟩:=row.get e2;have dZ:1+i<os.length:=(cL.mp qg).1;have kf:d=bM (betR j rate o1 o2):=by rw[bU,bU,bG (by simp;lia),vv]at ed;have:=(dU ed).symm;rw[this];show bM (betR j rate (atO os i) (atO os (i+1)))=_;rw[Ow.sR sy,Ow.sR (show os[i+1]? =some o2 by rw[Nat.add_comm];exact qg)]
    subst kf;refine⟨_,Z,_,Z,_,Z,_,Z,m,x,y,rate,rs,r,f,j,t,d1,d2,o1,o2,rs.length,Z,RD.mono iV _ rm,aW.j1.1,aW.j1.2,RD.mono iV _ r1,RD.mono iV _ r2,i1,i2,MH _ _ sy,MH _ _ qg,aq,cf,cj,λv H4 rv s4=>?_⟩;exact hq _ _ s4 rv.rd
   ·intro H3 zs s3 d3 r3
    have lz:=r3.length;simp at lz;refine⟨bc Z,λl1 H4 n4=>?_⟩;refine⟨_,Z,l1,D,_,zs,Z,Z,aK.of n4.at',aK.of (n4.same _ _ d3),CF _ (by simp;lia),λl2 H5 n5=>?_⟩;refine⟨bc Z,λl3 H6 n6=>?_⟩;refine⟨l2,l3,_,_,Z,Z,aK.of (n6.same _ _ n5.at'),aK.of n6.at',CF _ (by simp;lia),λl H7 n7=>?_⟩;have nH:aD H H6:=n1.same.trans (s3.trans (n4.same.trans (n5.same.trans n6.same)));have nl:H l=none:=by cases e:H l with |none=>rfl |some o=>have:=nH _ _ e;rw[n7.no]at this;cases this
    refine k l _ H7 nl n7.at' ?_ (nH.trans n7.same);rw[Ow.VX j rate j6,ip,ip];exact((bV (rN H7) cD).append (aJ.mono (n4.same.trans (n5.same.trans (n6.same.trans n7.same))) _ r3)).append (bV (rN H7) cD)
inductive a5X(K:a8)(vs:List V)(H:Hp)(Q:VK):Prop |mk (v:_)(r:_)(z:_)(h0:vs=[v,.int z])(h1:bC K H v r)(h2:Bd 2000 r)(h3:z.natAbs<2^24)(h4:∀v H',bC K H' v (r+(z:Rat))->aD H H'->Q v H')
def tW(K:a8):Sp:=λvs H Q _=>a5X K vs H Q
theorem xr_addz {r : Rat} {z : Int} (m : r + (z : Rat) = Rat.divInt (r.num * (1:Nat) + z * r.den) (r.den * (1:Nat))) : r.num + z * r.den = (r + (z : Rat)).num ∧ (r.den : Int) = (r + (z : Rat)).den := by
  have c : (r.num + z * r.den).natAbs.Coprime r.den := (Int.gcd_add_mul_right_left (r.den : Int) r.num z).trans r.reduced
  have e : r + (z : Rat) = ⟨r.num + z * r.den, r.den, r.den_nz, c⟩ := by
    rw [m, Rat.mk_eq_divInt, Int.natCast_one, Int.mul_one, Int.mul_one]
  rw [e]
  exact ⟨rfl, rfl⟩
theorem KD:bF ["one","more","p","q"] ["one","more"] (bu Dg):=bP aP
theorem WJ(F:FA K mg "plus_whole" Dg)(B:bK mg):aB P w K mg az "plus_whole" 4 (tW K):=by
 refine F.has KD (λvs H Q E h=>?_) (λ_ _ _ _ _ _=>e9 λ_ _=>rfl) (λf aO A outer s H vs Q E hr h=>?_)
 ·obtain⟨v,r,z,rfl,_⟩:=h
  rfl
 ·obtain⟨v,r,z,rfl,rv,br,hz,k⟩:=h
  have nd:=KD.nd
  obtain ⟨p,rfl,hp⟩:=rv
  refine ⟨_,(aC (eB (pv 0) (cV K Z (n:=2) Z (bN (aZ 2 nd) (bN (aZ 3 nd) cU)))) (aI (aR (cg (ak (aG bZ (pv 2) (aG bO (pv 1) (pv 3))) (ak (pv 3) aw)))))),?_⟩
  refine ⟨_,rfl,_,_,rfl,hp,rfl,_,_,rfl,_,_,rfl,rfl,?_⟩
  have bz:Bd 24 (z:Rat):=⟨hz,by show 1<2^24;decide⟩
  obtain ⟨e1,e2⟩:=xr_addz (add_div r z)
  refine ⟨_,rfl,_,rfl,_,rfl,_,_,rfl,rfl,hZ (bz.mono au).wn.bits br.wd.bits,_,_,rfl,rfl,_,rfl,bc Z,fun t H' n=>k _ _ ⟨t,rfl,aV.of ?_⟩ n.same⟩
  rw [← e1,← e2]; exact n.at'
theorem Aa{os:List Itm}{i:Nat}{ns:List Int}{sp:Int}(h:os[i]? =some (some (ns,sp))):leadF os i=some (aL ns):=by unfold leadF;rw[Ow.sR h];rfl
theorem Nz{os:List Itm}{i:Nat}(h:os[i]? =some none):leadF os i=none:=by unfold leadF;rw[Ow.sR h];rfl
theorem wQ{os:List Itm}(h:OkIs os){i m:Nat}(e:leadF os i=some m):m<=100:=by unfold leadF at e;cases ho:atO os i with |none=>rw[ho]at e;cases e |some q=>rw[ho]at e;cases e;obtain⟨a,_,_⟩:=h i q.1 q.2 ho;exact mC λz hz=>by have:=a z hz;lia
theorem vA{r:Int}{m:Nat}(h1:1<=r)(h2:r<=50)(h3:m<=100):(2*r*(m:Int)).natAbs<2^24:=by
 have pX:(2:Nat)^24=16777216:=by decide
 have:=jS (a:=2*r) (b:=(m:Int)) (m:=100) (n:=100) aq aq;rw[pX];lia
inductive a5S(K:a8)(vs:List V)(H:Hp)(Q:VK):Prop |mk (m:_)(iv:_)(l:_)(ys:_)(rs:_)(r:_)(f:_)(j:_)(t:_)(ds:_)(os:_)(g:_)(h0:vs=[m,iv,.ref l])(h1:RD K H m (dQ rs r f j t))(h2:fc rs r f j t)(h3:RD K H iv (.tuple ds))(h4:cH rs.length ds os)(h5:ds.length<=30)(h6:H l=some (.lst ys))(h7:aJ K H ys ((lst os.length g).map bM))(h8:(∀i,Bd 64 (g i)))(h9:∀l ys H',H l=none->H' l=some (.lst ys)->aJ K H' ys ((lst os.length (Rz g (leadF os) (2*r))).map bM)->aD H H'->Q (.ref l) H')
def JT(K:a8):Sp:=λvs H Q _=>a5S K vs H Q
theorem Ky:bF ["machine","items","squares","rise","kept","i","item"] ["machine","items","squares"] (bu D9):=bP aP
theorem WI(F:FA K mg "kept_by_rise" D9)(B:bK mg)(kL:aB P w K mg az "is_line" 1 (p5 K))(jY:aB P w K mg az "lead_of" 1 (jq K))(lF:aB P w K mg az "plus_whole" 4 (tW K))(rV:aB P w K mg az "least" 2 (me K)):aB P w K mg az "kept_by_rise" 5 (JT K):=by
 refine F.has Ky (λvs H Q E h=>?_) (λ_ _ _ _ _ _=>iJ λ_ _ _=>rfl) (λf aO A outer s H vs Q E hr h=>?_)
 · obtain⟨m,iv,l,ys,rs,r,f,j,t,ds,os,g,rfl,_⟩:=h
   rfl
 · obtain⟨m,iv,l,ys,rs,r,f,j,t,ds,os,g,rfl,rm,aW,ri,row,hz,dl,fE,bg,k⟩:=h
   have nd:=Ky.nd;refine⟨_,(aC (pS 3 nd (px K (pv 0) aA)) (aC (pS 4 nd (fh (x:="list") (rH K Z) Z (B.at "list") kR (ak (pv 2) aw))) (aC (fR f7 Z (uh K Z false Z (B.at "enumerate") (ak (pv 1) aw)) (cV K rfl (n:=2) rfl (bN (aZ 5 nd) (bN (aZ 6 nd) cU))) (aI (bA (ck (pf kL hr (ak (pv 6) aw))) (aI (eB (pf rV hr (ak (cK (ak (px K (pv 4) (aG bZ (pv 5) aA)) (ak (pf lF hr (ak (px K (pv 4) (pv 5)) (ak (aG bO (aG bO aA (pv 3)) (pf jY hr (ak (pv 6) aw))) aw))) aw))) aw)) (pk (pv 4) (aG bZ (pv 5) aA) set_list))) bE))) (aI (aR (pv 4)))))),?_⟩;obtain⟨ma,mb,rfl,fZ,kK⟩:=l4 rm;obtain⟨ia,xs,rfl,hi,cT⟩:=ri.bX;have lx:=cT.length;have ll:=row.len;have lr:=aW.len;have hL:∀i m,leadF os i=some m->(2*r*(m:Int)).natAbs<2^24:=λi m e=>vA aW.r1.1 aW.r1.2 (wQ row.pq e);have RB:∀i,i<=30->Bd 900 (Rz g (leadF os) (2*r) i):=λi hi=>(Bj bg hL i).mono aH;refine⟨_,Z,.inr ⟨ma,_,1,.int r,Z,Z,fZ,Z,?_⟩⟩;refine⟨_,Z,l,ys,Z,.inl (aK.of dl),λD H1 n1=>?_⟩;refine⟨_,Z,ia,Z,⟨_,hi.go n1.same⟩,uN (K:=K) (b:=false) (a:=ia) (xs:=xs) (λi O H2=>aD H H2/\∃zs v1 v2,H2 D=some (.lst zs)/\aJ K H2 zs ((lst os.length λk=>if k<=i then Rz g (leadF os) (2*r) k else g k).map bM)/\O=[some (.ref ma),some (.ref ia),some (.ref l),some (.int r),some (.ref D),v1,v2]) ?_ (λi O H2 _ h=>hi.go h.1) ?_ ?_⟩
   · refine⟨n1.same,ys,none,none,n1.at',?_,Z⟩
     rw[uu (g:=λk=>if k<=0 then Rz g (leadF os) (2*r) k else g k) (g':=g)]
     ·exact aJ.mono n1.same _ fE
     · intro k _
       show g k=if k<=0 then Rz g (leadF os) (2*r) k else g k;split
       · next h => have:k=0:=by omega
                   subst this;rfl
       ·rfl
   · rintro i y O H2 hy ⟨s2,zs,v1,v2,dz,rz,rfl⟩ T H3 n3
     have uB:i<xs.length:=(cL.mp hy).1;obtain⟨d,ed,rd⟩:=cT.get' i hy;obtain⟨o,eo,it⟩:=row.get ed;have s3:=s2.trans n3.same;have lz:=rz.length;rw[bB,pG]at lz;refine⟨T,_,Z,aV.of n3.at',Z,_,_,Z,_,_,Z,Z,?_⟩;refine⟨_,Z,y,d,o,Z,RD.mono s3 _ rd,it,_,Z,?_⟩;cases o with
     |none=>
       refine aQ ?_;refine⟨s3,zs,_,_,n3.same _ _ dz,?_,Z⟩;rw[uu (g:=λk=>if k<=i+1 then Rz g (leadF os) (2*r) k else g k) (g':=λk=>if k<=i then Rz g (leadF os) (2*r) k else g k)]
       ·exact aJ.mono n3.same _ rz
       · intro k _
         show(if k<=i then Rz g (leadF os) (2*r) k else g k)=if k<=i+1 then Rz g (leadF os) (2*r) k else g k;by_cases h1:k<=i
         ·rw[aX h1,aX aH]
         · rw[bf h1]
           by_cases h2:k=i+1
           ·subst h2;rw[aX (bw _),HP (Nz eo)]
           ·rw[bf aH] |some q=>
       obtain⟨ns,sp⟩:=q;refine aU ?_;have kf:=jV it;subst kf;obtain⟨cx,_,_⟩:=row.ok i ns sp eo;have Hc:=n3.same _ _ dz;have Ed:=aJ.mono n3.same _ rz;obtain⟨z1,qc⟩:∃z,zs[i+1]? =some z:=⟨_,bG (show i+1<zs.length by omega)⟩;obtain⟨z0,jD⟩:∃z,zs[i]? =some z:=⟨_,bG (show i<zs.length by omega)⟩;have R1:bC K H3 z1 (g (i+1)):=by
        obtain⟨d1,e1,r1⟩:=Ed.get' (i+1) qc;rw[bU,o5 _ (show i+1<=os.length by omega)]at e1;cases e1;have:¬(i+1<=i):=by omega
        simp only[bf this]at r1;exact fQ r1
       have R0:bC K H3 z0 (Rz g (leadF os) (2*r) i):=by obtain⟨d1,e1,r1⟩:=Ed.get' i jD;rw[bU,o5 _ (show i<=os.length by omega)]at e1;cases e1;simp only[aX (bw i)]at r1;exact fQ r1
       have qj:((i:Int)+1).toNat=i+1:=by omega
       have mX:dk zs ((i:Int)+1)=some z1:=cQ aH (by rw[qj];exact qc);have jH:dk zs (i:Int)=some z0:=cQ aH (by simpa using jD);refine⟨_,Z,_,Z,_,_,Z,Z,.inl ⟨D,_,_,_,Z,Z,aK.of Hc,mX,?_⟩⟩;refine⟨_,Z,_,Z,.inl ⟨D,_,_,_,Z,Z,aK.of Hc,jH,?_⟩⟩;refine⟨_,Z,_,_,Z,Z,.of_left (cm au au),?_⟩;refine⟨_,Z,y,ns,sp,Z,RD.mono s3 _ rd,cx.ne,by rw[cx.len];omega,λH4 s4=>?_⟩;have jQ:=aW.r1;refine⟨_,_,Z,Z,.of_left (cm aH aH),?_⟩;have us:=hL i _ (Aa eo);refine⟨z0,_,_,Z,R0.go s4,(RB i aH).mono au,us,λu H5 ru s5=>?_⟩;refine⟨bc Z,λl2 H6 n6=>?_⟩;have kC:=s4.trans (s5.trans n6.same);have QG:=R1.go kC;have Ru:=ru.go n6.same;have B1:Bd 2000 (g (i+1)):=(bg _).mono au;have B2:Bd 2000 (Rz g (leadF os) (2*r) i+((2*r*(aL ns:Int):Int):Rat)):=(iK (RB i aH) us).mono au;refine⟨l2,[z1,u],[_,_],Z,aK.of n6.at',⟨QG,B1,Ru,B2,trivial⟩,by simp,λc v q e1 e2 hq=>?_⟩;have lA:mn (g (i+1)) (Rz g (leadF os) (2*r) i+((2*r*(aL ns:Int):Int):Rat))=q:=by
        refine pF ?_ (hq _ (by simp)) (hq _ (by simp))
        match c,e2 with |0,e2=>cases e2;exact .inl rfl |1,e2=>cases e2;exact .inr rfl
       have Rv:bC K H6 v q:=by match c,e1,e2 with |0,e1,e2=>cases e1;cases e2;exact QG |1,e1,e2=>cases e1;cases e2;exact Ru
       have ql:=kC _ _ Hc;have Ac:gH zs.length ((i:Int)+1)=some (i+1):=by unfold gH;rw[aX aH,aX aH,qj]
       refine⟨_,Z,_,Z,_,_,Z,Z,D,zs,_,_,Z,Z,ql,Ac,?_⟩;refine⟨λb o e=>?_,_,_,_,cF,?_,Z⟩
       ·rw[bL (cW e n1.no)];exact kC b o (s3 b o e)
       · have h:=aJ.zx (i:=i+1) ql (aJ.mono kC _ Ed) Rv.rd (mq _) (kF _)
         rw[<-vt]at h;have e:(lst os.length λk=>if k<=i then Rz g (leadF os) (2*r) k else g k).set (i+1) q=lst os.length λk=>if k<=i+1 then Rz g (leadF os) (2*r) k else g k:=by
          rw[<-Ng (g:=λk=>if k<=i then Rz g (leadF os) (2*r) k else g k) (g':=λk=>if k<=i+1 then Rz g (leadF os) (2*r) k else g k) (i:=i+1)]
          · simp only[aX (bw (i+1))]
            rw[HQ (Aa eo),lA]
          · intro k _ hk
            show(if k<=i+1 then _ else _)=if k<=i then _ else _;by_cases h1:k<=i
            ·rw[aX h1,aX aH]
            ·rw[bf h1,bf aH]
         rw[e]at h;exact h
   · rintro O H2 ⟨s2,zs,v1,v2,dz,rz,rfl⟩
     rw[uu (g:=λk=>if k<=xs.length then Rz g (leadF os) (2*r) k else g k) (g':=Rz g (leadF os) (2*r)) (λk hk=>by show _=if k<=xs.length then _ else _;rw[aX aH])]at rz;exact⟨_,Z,k D zs H2 n1.no dz rz s2⟩
theorem Kp:bF ["_law_one","_law_other_here"] ["_law_one","_law_other_here"] (bu CW):=bP aP
theorem Wz(F:FA K mg "_law_sum" CW)(B:bK mg)(jZ:aB P w K mg az "_law_frac" 1 (p7 K)):aB P w K mg az "_law_sum" 2 (qR (·+·) K):=by
 refine F.has Kp (λvs H Q E h=>?_) (λ_ _ _ _ _ _=>e9 λ_ _=>rfl) (λf aO A outer s H vs Q E hr h=>?_)
 ·obtain⟨v1,v2,r,s,rfl,_⟩:=h
  rfl
 ·obtain⟨v1,v2,r,s,rfl,⟨p,rfl,hp⟩,⟨q,rfl,hq⟩,br,bs,k⟩:=h
  have nd:=Kp.nd;refine⟨_,(aI (aR (pf jZ hr (ak (aG bZ (aG bO (px K (pv 0) aA) (px K (pv 1) aA)) (aG bO (px K (pv 1) aA) (px K (pv 0) aA))) (ak (aG bO (px K (pv 0) aA) (px K (pv 1) aA)) aw))))),?_⟩;refine⟨_,Z,.inr ⟨p,_,0,.int r.num,Z,Z,hp,Z,_,Z,.inr ⟨q,_,1,.int s.den,Z,Z,hq,Z,_,_,Z,Z,hZ br.wn.bits bs.wd.bits,?_⟩⟩⟩;refine⟨_,Z,.inr ⟨q,_,0,.int s.num,Z,Z,hq,Z,_,Z,.inr ⟨p,_,1,.int r.den,Z,Z,hp,Z,_,_,Z,Z,hZ bs.wn.bits br.wd.bits,?_⟩⟩⟩;refine⟨_,_,Z,Z,?_⟩;refine⟨_,Z,.inr ⟨p,_,1,.int r.den,Z,Z,hp,Z,_,Z,.inr ⟨q,_,1,.int s.den,Z,Z,hq,Z,_,_,Z,Z,hZ br.wd.bits bs.wd.bits,?_⟩⟩⟩;refine⟨_,_,Z,fL (den_pos r) (den_pos s),BR br bs,λv H' r' s'=>k v H' ?_ s'⟩;show bC K H' v (r+s);rw[add_div];exact r'
theorem KZ:bF ["_law_one","_law_other_here"] ["_law_one","_law_other_here"] (bu Du):=bP aP
theorem X4(F:FA K mg "_law_less" Du)(B:bK mg):aB P w K mg az "_law_less" 1 (kz K):=by
 refine F.has KZ (λvs H Q E h=>?_) (λ_ _ _ _ _ _=>e9 λ_ _=>rfl) (λf aO A outer s H vs Q E hr h=>?_)
 ·obtain⟨v1,v2,r,s,rfl,_⟩:=h
  rfl
 ·obtain⟨v1,v2,r,s,rfl,⟨p,rfl,hp⟩,⟨q,rfl,hq⟩,br,bs,k⟩:=h
  have nd:=KZ.nd;refine⟨_,(aI (aR (fF jy (aG bO (px K (pv 0) aA) (px K (pv 1) aA)) (aG bO (px K (pv 1) aA) (px K (pv 0) aA)) (bo _)))),?_⟩;refine⟨_,Z,.inr ⟨p,_,0,.int r.num,Z,Z,hp,Z,_,Z,.inr ⟨q,_,1,.int s.den,Z,Z,hq,Z,_,_,Z,Z,hZ br.wn.bits bs.wd.bits,?_⟩⟩⟩;refine⟨_,Z,.inr ⟨q,_,0,.int s.num,Z,Z,hq,Z,_,Z,.inr ⟨p,_,1,.int r.den,Z,Z,hp,Z,_,_,Z,Z,hZ bs.wn.bits br.wd.bits,?_⟩⟩⟩;refine⟨_,_,Z,Z,?_⟩;have e:decide (r.num*(s.den:Int)<s.num*(r.den:Int))=decide (r<s):=by rw[qL,Ii,Ii,Rat.lt_iff]
  show Q (.bl (decide (r.num*(s.den:Int)<s.num*(r.den:Int)))) H;rw[e];exact k
theorem KQ:bF ["_law_some","_law_best","_law_one"] ["_law_some"] (bu Dn):=bP aP
theorem WV(F:FA K mg "_law_min" Dn)(B:bK mg)(uG:aB P w K mg az "_law_less" 1 (kz K)):aB P w K mg az "_law_min" 2 (me K):=by
 refine F.has KQ (λvs H Q E h=>?_) (λ_ _ _ _ _ _=>gz λ_=>rfl) (λf aO A outer s H vs Q E hr h=>?_)
 ·obtain⟨l,xs,rs,rfl,_⟩:=h
  rfl
 ·obtain⟨l,xs,rs,rfl,hl,om,j6,k⟩:=h
  have nd:=KQ.nd;refine⟨_,(aC (pS 1 nd (px K (pv 0) aA)) (aC (fR f7 Z (qZ K Z (pv 0)) (aZ 2 nd) (aI (bA (ck (pf uG hr (ak (pv 2) (ak (pv 1) aw)))) (aI (pS 1 nd (pv 2))) bE))) (aI (aR (pv 1))))),?_⟩;have hlen:=om.length;have h0:0<xs.length:=yK.mpr j6;have e0:=bG h0;refine⟨_,Z,.inl ⟨l,xs,0,xs[0],Z,Z,hl,cQ au e0,?_⟩⟩;refine⟨_,Z,l,Z,⟨_,hl⟩,Gx (K:=K) (a:=l) (xs:=xs) (λi O H2=>H2=H/\∃(j:Nat)(b:V)(r:Rat)(v:Option V),xs[j]? =some b/\rs[j]? =some r/\(∀(m:Nat)(s:Rat),m<i->rs[m]? =some s->r<=s)/\O=[some (.ref l),some b,v]) ?_ (λi O H2 _ h=>by rw[h.1];exact hl) ?_ ?_⟩
  ·obtain⟨r,e1,_⟩:=om.get e0
   exact⟨Z,0,_,r,none,e0,e1,λm s hm=>absurd hm (BG _),Z⟩
  ·rintro i x O H2 hx ⟨rfl,j,b,r,v,eb,er,hm,rfl⟩
   obtain⟨t,et,rt,bt⟩:=om.get hx;obtain⟨r2,xJ,rb,bb⟩:=om.get eb;rw[er]at xJ;cases xJ;refine⟨_,Z,_,Z,x,b,t,r,Z,rt,rb,bt,bb,_,Z,?_⟩;refine dM (λhc=>?_) (λhc=>?_)
   ·have bQ:t<r:=il hc
    refine⟨_,Z,?_⟩;refine⟨Z,i,x,t,_,hx,et,λm s rS es=>?_,Z⟩;rcases IA.mp rS with h|h
    ·exact qF (BB bQ) (hm m s h es)
    ·subst h
     rw[et]at es;cases es;exact qG
   ·have G4:¬t<r:=λz=>hc (bT z)
    refine⟨Z,j,b,r,_,eb,er,λm s rS es=>?_,Z⟩;rcases IA.mp rS with h|h
    ·exact hm m s h es
    ·subst h
     rw[et]at es;cases es;exact BA.mp G4
  ·rintro O H2 ⟨rfl,j,b,r,v,eb,er,hm,rfl⟩
   refine⟨_,Z,k j b r eb er λs hs=>?_⟩;obtain⟨m,G7,em⟩:=RR.mp hs;exact hm m s aq (by rw[bG G7,em])
theorem Wq(F:FA K mg "_law_top" CO)(B:bK mg)(jZ:aB P w K mg az "_law_frac" 1 (p7 K)):aB P w K mg az "_law_top" 2 (vN K):=by
 refine F.has Kh (λvs H Q E h=>?_) (λ_ _ _ _ _ _=>e9 λ_ _=>rfl) (λf aO A outer s H vs Q E hr h=>?_)
 ·obtain⟨v,ns,sp,r,rfl,_⟩:=h
  rfl
 ·obtain⟨v,ns,sp,r,rfl,rd,s1,s2,r1,r2,k⟩:=h
  have nd:=Kh.nd;refine⟨_,(aI (aR (pf jZ hr (ak (aG bO (aG bO (aG bO (px K (pv 0) aA) (px K (pv 0) aA)) (pv 1)) (pv 1)) (ak aA aw))))),?_⟩;obtain⟨a,b,rfl,ha,hb⟩:=lg rd;have m1:(sp*sp).natAbs<=20*20:=by rw[gs];exact nk aH aH
  have m2:(sp*sp*r).natAbs<=400*200:=by rw[gs];exact nk aH aH
  refine⟨_,Z,.inr ⟨a,_,2,.int sp,Z,Z,ha,Z,_,Z,.inr ⟨a,_,2,.int sp,Z,Z,ha,Z,_,_,Z,Z,.of_left (cm aH aH),?_⟩⟩⟩;refine⟨_,Z,_,_,Z,Z,.of_left (cm aH aH),_,Z,_,_,Z,Z,.of_left (cm aH aH),?_⟩;refine⟨_,_,Z,au,ir (n:=20) au au,λv' H' r' s'=>k v' H' ?_ s'⟩;rw[JF]at r';exact r'
def rA(r f:Int)(ld:Nat)(top b e:Rat)(k:Nat):Rat:=mn (mn (b+((r*(2*(1+(k:Int))-1):Int):Rat)) top) (e+((f*(2*((ld:Int)-(1+(k:Int)))+1):Int):Rat))
def Fm(r f:Int)(ld:Nat)(top b e:Rat):List Rat:=(List.range ld).map (rA r f ld top b e)
theorem Yd{x y z q:Rat}(h:q=x\/q=y\/q=z)(h1:q<=x)(h2:q<=y)(h3:q<=z):mn (mn x y) z=q:=by
 refine Rat.le_antisymm ?_ (o8 (o8 h1 h2) h3);rcases h with h|h|h
 ·rw[h];exact qF (zU _ _) (zU _ _)
 ·rw[h];exact qF (zU _ _) (Fi _ _)
 ·rw[h];exact Fi _ _
theorem Eo{r:Int}{k ld:Nat}(h1:1<=r)(h2:r<=50)(hk:k<ld)(hl:ld<=100):(r*(2*(1+(k:Int))-1)).natAbs<=50*200:=by rw[gs];exact nk aq aq
theorem GH{f:Int}{k ld:Nat}(h1:1<=f)(h2:f<=50)(hk:k<ld)(hl:ld<=100):(f*(2*((ld:Int)-(1+(k:Int)))+1)).natAbs<=50*201:=by rw[gs];exact nk aH aH
theorem gQ:(2:Nat)^24=16777216:=by decide
inductive a64(K:a8)(vs:List V)(H:Hp)(Q:VK):Prop |mk (m:_)(iv:_)(bv:_)(ev:_)(rate:_)(rs:_)(r:_)(f:_)(j:_)(t:_)(ns:_)(sp:_)(b:_)(e:_)(h0:vs=[m,iv,bv,ev,.int rate])(h1:RD K H m (dQ rs r f j t))(h2:fc rs r f j t)(h3:RD K H iv (fW ns sp))(h4:eG rs.length 100 ns)(h5:1<=sp)(h6:sp<=20)(h7:bC K H bv b)(h8:bC K H ev e)(h9:Bd 1800 b)(sk:Bd 1800 e)(Gq:10<=rate)(Gp:rate<=200)(h13:∀l ys H',H l=none->H' l=some (.lst ys)->aJ K H' ys ((Fm r f (aL ns) (topR rate sp) b e).map bM)->aD H H'->Q (.ref l) H')
def Cp(K:a8):Sp:=λvs H Q _=>a64 K vs H Q
theorem mE{n:Nat}{ns:List Int}(h:eG n 100 ns):aL ns<=100:=by have:=h.lead;lia
theorem V4{α:Type}(g:Nat->α)(i:Nat):(List.range (i+1)).map g=(List.range i).map g++[g i]:=by rw[IG,ip];rfl
theorem KR:bF ["machine","line","begin","end","rate","rise","fall","top","lead","told","k","risen","falling"] ["machine","line","begin","end","rate"] (bu Dp):=bP aP
theorem WW(F:FA K mg "middles" Dp)(B:bK mg)(pM:aB P w K mg az "top_square" 4 (tV K))(jY:aB P w K mg az "lead_of" 1 (jq K))(lF:aB P w K mg az "plus_whole" 4 (tW K))(rV:aB P w K mg az "least" 2 (me K)):aB P w K mg az "middles" 5 (Cp K):=by
 refine F.has KR (λvs H Q E h=>?_) (λ_ _ _ _ _ _=>HF λ_ _ _ _ _=>rfl) (λfa aO A outer s H vs Q E hr h=>?_)
 ·obtain⟨m,iv,bv,ev,rate,rs,r,f,j,t,ns,sp,b,e,rfl,_⟩:=h
  rfl
 ·obtain⟨m,iv,bv,ev,rate,rs,r,f,j,t,ns,sp,b,e,rfl,rm,aW,ri,cx,de,dA,Rb,Re,bb,be,cf,cj,k⟩:=h
  have nd:=KR.nd;refine⟨_,(aC (nM (i:=5) (j:=6) Z nd Z Z au Z Z (ak (px K (pv 0) aA) (ak (px K (pv 0) aA) aw)) Z) (aC (pS 7 nd (pf pM hr (ak (pv 1) (ak (pv 4) aw)))) (aC (pS 8 nd (pf jY hr (ak (pv 1) aw))) (aC (pS 9 nd (cK aw)) (aC (fR f7 Z (ET Z (B.at "range") (ak aA (ak (aG bZ (pv 8) aA) aw))) (aZ 10 nd) (aC (pS 11 nd (pf lF hr (ak (pv 2) (ak (aG bO (pv 5) (aG fT (aG bO aA (pv 10)) aA)) aw)))) (aC (pS 12 nd (pf lF hr (ak (pv 3) (ak (aG bO (pv 6) (aG bZ (aG bO aA (aG fT (pv 8) (pv 10))) aA)) aw)))) (aI (gu (iz K Z (pv 9) (ak (pf rV hr (ak (cK (ak (pv 11) (ak (pv 7) (ak (pv 12) aw)))) aw)) aw))))))) (aI (aR (pv 9)))))))),?_⟩;obtain⟨ma,mb,rfl,fZ,kK⟩:=l4 rm;have jQ:=aW.r1;have ka:=aW.f1;have lr:=aW.len;have lj:=mE cx;refine⟨_,Z,.inr ⟨ma,_,1,.int r,Z,Z,fZ,Z,_,Z,.inr ⟨ma,_,2,.int f,Z,Z,fZ,Z,_,_,Z,?_⟩⟩⟩;refine⟨_,Z,_,Z,iv,ns,sp,rate,Z,ri,de,dA,cf,cj,λtv H1 Rt1 s1=>?_⟩;refine⟨_,Z,iv,ns,sp,Z,RD.mono s1 _ ri,cx.ne,by rw[cx.len];omega,λH2 s2=>?_⟩;refine⟨bc Z,λD H3 n3=>?_⟩;have iV:=s1.trans (s2.trans n3.same);have nD:H D=none:=by cases e:H D with |none=>rfl |some o=>have:=(s1.trans s2) _ _ e;rw[n3.no]at this;cases this
  refine⟨_,Z,_,_,Z,Z,_,_,Z,⟨aH,aH,aH,aH⟩,?_⟩;have eN:(((aL ns:Int)+1)-1).toNat=aL ns:=by omega
  rw[eN];have tb:Bd 2000 (topR rate sp):=(Ow.ku de dA cf cj).mono au;refine pZ (Pv:=λi O H4=>aD H H4/\bC K H4 tv (topR rate sp)/\∃zs v1 v2 v3,H4 D=some (.lst zs)/\aJ K H4 zs (((List.range i).map (rA r f (aL ns) (topR rate sp) b e)).map bM)/\O=[some (.ref ma),some iv,some bv,some ev,some (.int rate),some (.int r),some (.int f),some tv,some (.int (aL ns)),some (.ref D),v1,v2,v3]) ?_ ?_ ?_
  ·exact⟨iV,Rt1.go (s2.trans n3.same),[],none,none,none,n3.at',cD,Z⟩
  ·rintro i O H4 Ga ⟨s4,Bk,zs,v1,v2,v3,dz,rz,rfl⟩
   have lz:=rz.length;rw[bB,bB,hX]at lz;have xy:=Eo jQ.1 jQ.2 Ga lj;have xx:=GH ka.1 ka.2 Ga lj;refine⟨_,Z,_,Z,_,Z,_,_,Z,Z,.of_left (cm au au),_,_,Z,Z,_,_,Z,Z,.of_left (cm aH aH),?_⟩;refine⟨bv,b,_,Z,Rb.go s4,bb.mono au,(by rw[gQ];omega),λu1 H5 iW s5=>?_⟩;refine⟨_,Z,_,Z,_,Z,_,Z,_,_,Z,Z,_,_,Z,Z,.of_left (cm au au),_,_,Z,Z,_,_,Z,Z,.of_left (cm aH aH),?_⟩;refine⟨ev,e,_,Z,Re.go (s4.trans s5),be.mono au,(by rw[gQ];omega),λu2 H6 nI s6=>?_⟩;have kB:=s5.trans s6;have ql:=kB _ _ dz;refine⟨_,Z,.inl ⟨Z,_,aK.of ql⟩,?_⟩;refine⟨_,Z,_,Z,_,Z,bc Z,λlq H7 n7=>?_⟩;have R1:=iW.go (s6.trans n7.same);have R2:=(Bk.go kB).go n7.same;have R3:=nI.go n7.same;refine⟨lq,[u1,tv,u2],[_,_,_],Z,aK.of n7.at',⟨R1,(iK bb (by rw[gQ];omega)).mono au,R2,tb,R3,(iK be (by rw[gQ];omega)).mono au,trivial⟩,by simp,λc v q e1 e2 hq=>?_⟩;have lA:rA r f (aL ns) (topR rate sp) b e i=q:=by
    refine Yd ?_ (hq _ (by simp)) (hq _ (by simp)) (hq _ (by simp))
    match c,e2 with |0,e2=>cases e2;exact .inl rfl |1,e2=>cases e2;exact .inr (.inl rfl) |2,e2=>cases e2;exact .inr (.inr rfl)
   have Rv:bC K H7 v q:=by match c,e1,e2 with |0,e1,e2=>cases e1;cases e2;exact R1 |1,e1,e2=>cases e1;cases e2;exact R2 |2,e1,e2=>cases e1;cases e2;exact R3
   have vU:=kB.trans n7.same;have GZ:=n7.same _ _ ql;refine⟨D,zs,_,Z,Z,GZ,tX _ aH,?_⟩;have h8:=aJ.qS GZ (aJ.mono vU _ rz) Rv.rd (mq _) (kF _);have Rt8:bC K (L2.upd H7 D (.lst (zs++[v]))) tv (topR rate sp):=by obtain⟨ta,rfl,ht⟩:=R2;exact⟨ta,Z,ht.t (.fM GZ)⟩
   refine⟨λb o e=>?_,Rt8,_,_,_,_,cF,?_,Z⟩
   ·rw[bL (cW e nD)];exact vU b o (s4 b o e)
   ·rw[V4,ip,lA]
    exact h8
  ·rintro O H4 ⟨s4,Bk,zs,v1,v2,v3,dz,rz,rfl⟩
   exact⟨_,Z,k D zs H4 nD dz rz s4⟩
open Wk
def pj(pl:List Int):ah:=.tuple (pl.map PyData.int)
theorem ug(pl:List Int):dw (pj pl)=true:=by rw[pj,dw];exact kI pl
theorem Mr{H:Hp}{v:V}{pl:List Int}(h:RD K H v (pj pl)):∃a,v= .ref a/\aV K H a (pl.map V.int):=by obtain⟨a,xs,rfl,h1,h2⟩:=h.bX;rw[h2.gT]at h1;exact⟨a,Z,h1⟩
theorem Mq{H:Hp}{a:Addr}{pl:List Int}(h:aV K H a (pl.map V.int)):RD K H (.ref a) (pj pl):=eY h (qX pl)
def Bc(pl:List Int):Itm->List Int |none=>pl |some (ns,_)=>oH pl ns
theorem aM.putL{p l:Addr}{H H1:Hp}{xs:List V}(b:aM p H H1)(hp:l≠p)(nl:H l=none):aM p H (L2.upd H1 l (.lst xs)):=by
 refine⟨?_,λc o n e=>?_⟩
 ·obtain⟨c',m',e,ok⟩:=b.aE
  exact⟨c',m',by rw[bL hp.symm];exact e,ok⟩
 ·rw[bL (cW e nl)];exact b.same c o n e
inductive a5W(K:a8)(vs:List V)(H:Hp)(Q:VK):Prop |mk (p:_)(m:_)(rs:_)(r:_)(f:_)(j:_)(t:_)(h0:vs=[.ref p,m])(h1:fA H p)(h2:RD K H m (dQ rs r f j t))(h3:fc rs r f j t)(h4:∀v pl H',RD K H' v (pj pl)->lV rs pl->aM p H H'->Q v H')
def JU(K:a8):Sp:=λvs H Q _=>a5W K vs H Q
theorem KC:bF ["_law_bag_here","_law_machine_here"] ["_law_bag_here","_law_machine_here"] (bu Df):=bP aP
theorem WN(F:FA K mg "_law_place" Df)(B:bK mg)(cu:aB P w K mg az "_law_take" 1 jN):aB P w K mg az "_law_place" 2 (JU K):=by
 refine F.has KC (λvs H Q E h=>?_) (λ_ _ _ _ _ _=>e9 λ_ _=>rfl) (λf aO A outer s H vs Q E hr h=>?_)
 ·obtain⟨p,m,rs,r,f,j,t,rfl,_⟩:=h
  rfl
 ·obtain⟨p,m,rs,r,f,j,t,rfl,bg,rm,ml,k⟩:=h
  have nd:=KC.nd;refine⟨_,(aI (aR (fh (x:="tuple") (m7 K Z) Z (B.at "tuple") gC (ak (gj (N:=["_law_rail","_law_bag_here"]) (js:=[none,some 0]) rfl rfl rfl (kG K rfl (px K (pv 1) aA)) (λ_ _ _ _ _=>(aZ 0 (iC au))) (λ_ _ _ _ _=>fy) (λ_ _ _ _ _=>(pf cu hr (ak (pv 1) (ak (aG bZ (pv 0) aA) aw))))) aw)))),?_⟩;obtain⟨ma,mb,rfl,fZ,kK⟩:=l4 rm;have lr:=ml.len;refine⟨_,Z,.inr ⟨ma,_,0,.ref mb,Z,Z,fZ,cQ (iP 0) Z,mb,Z,⟨_,kK⟩,λD H1 n1=>?_⟩⟩;refine PZ (K:=K) (J:=qz K mb) (p:=p) (H:=H) rs.length _ n1 bg aq (λi=>.int (rs.getD i 0)) (λi H2 hi b2=>?_) (λH2 b2=>?_) (λi d=>∃z r,d= .int z/\rs[i]? =some r/\0<=z/\z<=r) ?_ ?_
  ·have O6:=kK.t (aM.t bg b2)
   have e:(rs.map V.int)[i]? =some (.int (rs.getD i 0)):=by rw[bU,vw,bG hi];rfl
   exact⟨⟨_,_,O6,e⟩,λy H3 ⟨e3,y3⟩=>⟨e3,by have:=y3 _ O6;rw[e]at this;exact(dU this).symm⟩⟩
  ·exact⟨_,kK.t (aM.t bg b2),by rw[bB];exact bw _⟩
  ·intro i H2 Q' hi b2 hq
   have er:rs[i]? =some (rs.getD i 0):=by rw[vw,bG hi];rfl
   obtain⟨r0,r1⟩:=ml.rl _ (fC er);refine⟨_,Z,_,Z,_,_,Z,Z,p,_,Z,b2.aE,aq,aq,λz H3 z0 z1 b3=>?_⟩;exact hq _ _ _ ⟨z,_,Z,er,z0,aq⟩ Z (df z) b3
  ·intro H2 ys ds b2 d2 r2 l2 nl pd
   have jB:∃pl:List Int,ds=pl.map PyData.int/\lV rs pl:=by
    have key:∀(ds:List ah),(∀d∈ds,∃z:Int,d= .int z)->∃pl:List Int,ds=pl.map PyData.int:=by intro ds;induction ds with |nil=>exact λ_=>⟨[],Z⟩ |cons d ds ih=>intro h;obtain⟨z,rfl⟩:=h d (.head _);obtain⟨pl,rfl⟩:=ih λx hx=>h x (.tail _ hx);exact⟨z::pl,Z⟩
    obtain⟨pl,rfl⟩:=key ds λd hd=>by obtain⟨i,hi⟩:=BI.mp hd;obtain⟨z,_,e,_⟩:=pd i d hi;exact⟨z,e⟩
    refine⟨pl,Z,by simpa using l2,λi x r e1 e2=>?_⟩;obtain⟨z,r',e,er,h0,h1⟩:=pd i (.int x) (by rw[bU,e1];rfl);cases e;rw[e2]at er;cases er;exact⟨h0,h1⟩
   obtain⟨pl,rfl,on⟩:=jB;refine⟨D,_,Z,.inl ⟨aK.of d2,λt H3 n3=>?_⟩⟩;have et:=n3.at';rw[r2.gT]at et;exact k (.ref t) pl H3 (Mq (aV.of et)) on (b2.trans (.bD b2.aE n3.same))
inductive a68(K:a8)(vs:List V)(H:Hp)(Q:VK):Prop |mk (p:_)(m:_)(rs:_)(r:_)(f:_)(j:_)(t:_)(x:_)(pl:_)(mo:_)(h0:vs=[.ref p,m,x,.int mo])(h1:fA H p)(h2:RD K H m (dQ rs r f j t))(h3:fc rs r f j t)(h4:RD K H x (pj pl))(h5:lV rs pl)(h6:1<=mo)(h7:mo<=100)(h8:∀v ns sp H',RD K H' v (fW ns sp)->eG rs.length 100 ns->1<=sp->sp<=20->lV rs (oH pl ns)->aM p H H'->Q v H')
def Cr(K:a8):Sp:=λvs H Q _=>a68 K vs H Q
def lT(rs pl is:List Int)(mo:Int):Prop:=∀(j:Nat)(z a r:Int),is[j]? =some z->pl[j]? =some a->rs[j]? =some r->0<=a+z/\a+z<=r/\(z.natAbs:Int)<=mo
theorem lT.on{rs pl is:List Int}{mo:Int}(h:lT rs pl is mo)(lp:pl.length=rs.length)(ls:is.length=pl.length):lV rs (oH pl is):=by
 refine⟨by rw[Bh ls];exact lp,?_⟩;intro j x r ej mR;have hj:j<pl.length:=by have:=(cL.mp ej).1;rw[Bh ls]at this;exact this
 have Pk:=QD (bG hj) (bG (show j<is.length by lia));rw[ej]at Pk;have ej3:=dU Pk;have:=h j _ _ r (bG (show j<is.length by lia)) (bG hj) mR
 lia
theorem lT.bd{rs pl is:List Int}{mo:Int}(h:lT rs pl is mo)(lp:pl.length=rs.length)(ls:is.length=pl.length):∀z∈is,(z.natAbs:Int)<=mo:=λz kJ=>by obtain⟨j,hj⟩:=BI.mp kJ;have O9:=(cL.mp hj).1;exact(h j z _ _ hj (bG (show j<pl.length by lia)) (bG (show j<rs.length by lia))).2.2
theorem lT.snoc{rs pl is:List Int}{mo z a r:Int}(h:lT rs pl is mo)(ea:pl[is.length]? =some a)(er:rs[is.length]? =some r)(hz:0<=a+z/\a+z<=r/\(z.natAbs:Int)<=mo):lT rs pl (is++[z]) mo:=by
 intro j z' a' r' ej lQ mR;by_cases hj:j<is.length
 ·rw[qJ hj]at ej
  exact h j z' a' r' ej lQ mR
 ·have rW:j=is.length:=by
   have:=(cL.mp ej).1;rw[cB]at this;have:j<is.length+1:=this
   lia
  rw[rW,oQ (bw _),BE]at ej;cases ej;rw[rW]at lQ mR;rw[ea]at lQ;rw[er]at mR;cases lQ;cases mR;exact hz
theorem lT.set{rs pl is:List Int}{mo z a r:Int}{i:Nat}(h:lT rs pl is mo)(ea:pl[i]? =some a)(er:rs[i]? =some r)(hz:0<=a+z/\a+z<=r/\(z.natAbs:Int)<=mo):lT rs pl (is.set i z) mo:=by
 intro j z' a' r' ej lQ mR;by_cases hj:j=i
 ·subst hj
  rw[ea]at lQ;rw[er]at mR;cases lQ;cases mR;have hl:j<is.length:=by have:=(cL.mp ej).1;rwa [tE]at this
  rw[yM hl]at ej;cases ej;exact hz
 ·rw[IM (jg hj)]at ej
  exact h j z' a' r' ej lQ mR
theorem KW:bF ["_law_bag_here","_law_machine_here","_law_place_here","_law_most","_law_steps","_law_flat","_law_axis","_law_stand_here","_law_low","_law_high"] ["_law_bag_here","_law_machine_here","_law_place_here","_law_most"] (bu Dr):=bP aP
theorem X1(F:FA K mg "_law_line" Dr)(B:bK mg)(cu:aB P w K mg az "_law_take" 1 jN):aB P w K mg az "_law_line" 2 (Cr K):=by
 refine F.has KW (λvs H Q E h=>?_) (λ_ _ _ _ _ _=>sS λ_ _ _ _=>rfl) (λfa aO A outer s H vs Q E hr h=>?_)
 ·obtain⟨p,m,rs,r,f,j,t,x,pl,mo,rfl,_⟩:=h
  rfl
 ·obtain⟨p,m,rs,r,f,j,t,x,pl,mo,rfl,bg,rm,ml,rx,on,N8,N7,k⟩:=h
  have nd:=KW.nd;refine⟨_,(aC (pS 4 nd (cK aw)) (aC (pS 5 nd (pf cu hr (ak (pv 0) (ak aA aw)))) (aC (fR f7 Z (uh K Z false Z (B.at "enumerate") (ak (pv 2) aw)) (cV K rfl (n:=2) rfl (bN (aZ 6 nd) (bN (aZ 7 nd) cU))) (aC (pS 8 nd (dv (x:="max") (Ho Z) Z (B.at "max") yE (ak aA (ak (aG fT (pv 7) (pv 3)) aw)))) (aC (pS 9 nd (dv (x:="min") (Hn Z) Z (B.at "min") RL (ak (px K (px K (pv 1) aA) (pv 6)) (ak (aG bZ (pv 7) (pv 3)) aw)))) (aC (gu (iz K Z (pv 4) (ak (aG fT (aG bZ (pv 8) (pf cu hr (ak (pv 0) (ak (aG bZ (aG fT (pv 9) (pv 8)) aA) aw)))) (pv 7)) aw))) (aI (bA (bJ (cC K Z hr.units) (pv 5) (pv 6) (bo _)) (aI (eB aA (pk (pv 4) (pv 6) set_list))) bE)))))) (aC (mi (bA (cS (ck (dv (x:="any") (a4P K Z Z) Z (B.at "any") RN (ak (pv 4) aw)))) (aC (pS 6 nd (pf cu hr (ak (pv 0) (ak (dF K B (ak (pv 4) aw)) aw)))) (aI (eB (aG fT aA (aG bO aA (fh (x:="int") uY Z (B.at "int") qH (ak (fF kH (px K (pv 2) (pv 6)) aA (bo _)) aw)))) (pk (pv 4) (pv 6) set_list)))) bE)) (aI (aR (cg (ak cJ (ak (fh (x:="tuple") (m7 K Z) Z (B.at "tuple") gC (ak (pv 4) aw)) (ak (aG bZ aA (pf cu hr (ak (pv 0) (ak aA aw)))) aw)))))))))),?_⟩;have lr:=ml.len;have lp:=on.len;obtain⟨ma,mb,rfl,fZ,kK⟩:=l4 rm;obtain⟨xa,rfl,FR⟩:=Mr rx;refine⟨bc Z,λl H1 n1=>?_⟩;have b1:aM p H H1:=.bD bg n1.same;have uv:l≠p:=λz=>bg.ne (z▸n1.no);refine⟨_,Z,p,4,Z,b1.aE,au,au,λfl H2 f0 f1 b2=>?_⟩;have hJ:=b1.trans b2;have TF:=aM.t bg hJ;refine⟨_,Z,xa,Z,⟨_,FR.t TF⟩,uN (K:=K) (b:=false) (a:=xa) (xs:=pl.map V.int) (λi O H3=>aM p H H3/\∃(is:List Int)(v1 v2 v3 v4:Option V),H3 l=some (.lst (is.map V.int))/\is.length=i/\lT rs pl is mo/\O=[some (.ref p),some (.ref ma),some (.ref xa),some (.int mo),some (.ref l),some (.int fl),v1,v2,v3,v4]) ?_ (λi O H3 _ h=>FR.t (aM.t bg h.1)) ?_ ?_⟩
  ·exact⟨hJ,[],none,none,none,none,b2.same _ _ uv n1.at',Z,λj z a r e=>by simp at e,Z⟩
  ·rintro i y O H3 hy ⟨b3,is,v1,v2,v3,v4,dl,li,hz,rfl⟩ T H4 n4
   rw[bU]at hy;obtain⟨a,ea,rfl⟩:=yG.mp hy;have Oa:i<pl.length:=(cL.mp ea).1;obtain⟨rl,er⟩:∃rl,rs[i]? =some rl:=⟨_,bG (show i<rs.length by lia)⟩;obtain⟨a0,a1⟩:=on.at' i a rl ea er;obtain⟨r0,r1⟩:=ml.rl rl (fC er);have b4:aM p H H4:=b3.trans (.bD b3.aE n4.same);have t4:=aM.t bg b4;have kg:=n4.same _ _ dl;have atr:dk (rs.map V.int) (i:Int)=some (.int rl):=cQ aq (by rw[bU];simp[er]);refine⟨T,_,Z,aV.of n4.at',Z,_,_,Z,_,_,Z,Z,?_⟩;refine⟨_,Z,_,Z,_,_,Z,Z,_,_,Z,?_⟩;obtain⟨low,a3s,lo0,lo1,fV⟩:∃low:Int,(if a-mo>0 then a-mo else 0)=low/\0<=low/\a-mo<=low/\low<=a:=⟨_,Z,by split<;>lia,by split<;>lia,by split<;>lia⟩;rw[a3s];refine⟨_,Z,.inr ⟨ma,_,0,.ref mb,Z,Z,fZ.t t4,Z,_,Z,.inr ⟨mb,_,_,.int rl,Z,Z,kK.t t4,atr,_,Z,_,Z,_,_,Z,Z,_,_,Z,?_⟩⟩⟩;obtain⟨hi,sC,hi0,As,dZ⟩:∃hi:Int,(if a+mo<rl then a+mo else rl)=hi/\a<=hi/\hi<=rl/\hi<=a+mo:=⟨_,Z,by split<;>lia,by split<;>lia,by split<;>lia⟩;rw[sC];refine⟨_,Z,.inl ⟨Z,_,aK.of kg⟩,?_⟩;refine⟨_,Z,_,Z,_,Z,_,Z,_,_,Z,Z,_,_,Z,Z,p,hi-low+1,Z,b4.aE,aq,aq,λd H5 d0 d1 b5=>?_⟩;refine⟨_,_,Z,Z,_,Z,_,_,Z,Z,l,_,_,Z,Z,b5.same _ _ uv kg,?_,?_⟩
   ·rw[bB,li]
    have:(1000:Nat)<sizeLine:=by decide
    lia
   have b6:aM p H (L2.upd H5 l (.lst (is.map V.int++[.int (low+d-a)]))):=(b4.trans b5).putL uv n1.no;have e6:(L2.upd H5 l (.lst (is.map V.int++[.int (low+d-a)]))) l=some (.lst ((is++[low+d-a]).map V.int)):=by rw[cF,ip];rfl
   generalize L2.upd H5 l (.lst (is.map V.int++[.int (low+d-a)]))=H6 at b6 e6⊢;rw[<-li]at ea er;have JB:=hz.snoc ea er (z:=low+d-a) aq;refine⟨_,Z,_,Z,.inl ⟨_,_,Z,Z,_,Z,?_⟩⟩;refine dM (λhc=>?_) (λhc=>?_)
   ·have ix:gH ((is++[low+d-a]).map V.int).length (i:Int)=some i:=by unfold gH;rw[aX aq,aX (by rw[bB,cB];show(i:Int)<((is.length+1:Nat):Int);lia)];simp
    refine⟨_,Z,_,Z,l,_,_,_,Z,Z,e6,ix,?_⟩;refine⟨b6.putL uv n1.no,(is++[low+d-a]).set i 0,_,_,_,_,by rw[cF,vt],by rw[tE,cB,li];rfl,?_,Z⟩;rw[li]at ea er;exact JB.set ea er aq
   ·exact⟨b6,is++[low+d-a],_,_,_,_,e6,by rw[cB,li];rfl,JB,Z⟩
  ·rintro O H3 ⟨b3,is,v1,v2,v3,v4,dl,li,hz,rfl⟩
   rw[bB]at li;have t3:=aM.t bg b3;refine⟨λO H4=>aM p H H4/\∃(is:List Int)(v1:Option V),H4 l=some (.lst (is.map V.int))/\eG rs.length 100 is/\lV rs (oH pl is)/\O=[some (.ref p),some (.ref ma),some (.ref xa),some (.int mo),some (.ref l),some (.int fl),v1,v2,v3,v4],?_,?_⟩
   ·refine⟨_,Z,l,is,Z,.inl (aK.of dl),_,Z,?_⟩
    cases ha:is.any (· !=0)with |false=>
     refine aU ?_;refine⟨_,Z,_,Z,l,_,Z,.inl (aK.of dl),p,_,Z,b3.aE,(by rw[bB];lia),(by rw[bB];lia),λax H4 a0 a1 b4=>?_⟩;rw[bB]at a1;have Qr:=b3.trans b4;have Om:ax.toNat<pl.length:=by lia
     have ea:=bG Om;have er:=bG (show ax.toNat<rs.length by lia);obtain⟨q0,q1⟩:=on.at' _ _ _ ea er;obtain⟨r0,r1⟩:=ml.rl _ (fC er);have Qy:dk (pl.map V.int) ax=some (.int pl[ax.toNat]):=cQ a0 (by rw[bU,ea];rfl);generalize pl[ax.toNat]=qa at ea q0 q1 Qy;generalize rs[ax.toNat]=qr at er q1 r0 r1;refine⟨_,Z,_,Z,.inr ⟨xa,_,_,_,Z,Z,FR.t (aM.t bg Qr),Qy,?_⟩⟩;refine⟨_,_,Z,Z,.inr ⟨_,Z,?_⟩⟩;refine⟨_,_,Z,Z,.of_left (cm au au),_,_,Z,Z,?_⟩;obtain⟨y,ey,y1,y2,y3⟩:∃y:Int,(1-2*(if decide (qa>0)=true then 1 else 0):Int)=y/\y.natAbs=1/\0<=qa+y/\qa+y<=qr:=by
      by_cases h:qa>0
      ·rw[bT h];exact⟨-1,Z,Z,aq,aq⟩
      ·rw[cy h];exact⟨1,Z,Z,aq,aq⟩
     have kg:=b4.same _ _ uv dl;have ix:gH (is.map V.int).length ax=some ax.toNat:=by unfold gH;rw[aX a0,aX (by rw[bB];lia)]
     refine⟨_,Z,_,Z,l,_,_,_,Z,Z,kg,ix,?_⟩;have st:=hz.set (i:=ax.toNat) ea er (z:=y) aq;have ls:(is.set ax.toNat y).length=pl.length:=by rw[tE];lia
     refine⟨Qr.putL uv n1.no,is.set ax.toNat y,_,?_,⟨aq,λz kJ=>?_,?_⟩,st.on lp ls,Z⟩
     ·rw[cF,<-vt]
      simp only[ey]
     ·have:=st.bd lp ls z kJ;lia
     ·exact⟨y,RR.mpr ⟨ax.toNat,by rw[tE];lia,by rw[List.getElem_set_self]⟩,aq⟩ |true=>
     refine aQ ?_;have ls:is.length=pl.length:=by lia
     refine⟨b3,is,_,dl,⟨aq,λz kJ=>?_,?_⟩,hz.on lp ls,Z⟩
     ·have:=hz.bd lp ls z kJ;lia
     ·obtain⟨z,kJ,h0⟩:=vy.mp ha
      exact⟨z,kJ,by simpa using h0⟩
   rintro O H4 ⟨b4,is,v1,dl,ok,zL,rfl⟩;refine⟨_,Z,l,_,Z,.inl ⟨aK.of dl,λq H5 n5=>?_⟩⟩;have b5:aM p H H5:=b4.trans (.bD b4.aE n5.same);have qp:q≠p:=λe=>b4.aE.ne (e▸n5.no);refine⟨_,Z,p,20,Z,b5.aE,au,au,λsp H6 p0 p1 b6=>?_⟩;refine⟨_,_,Z,Z,bc Z,λt H7 n7=>?_⟩;have b7:=b5.trans (b6.trans (.bD b6.aE n7.same));exact k (.ref t) is (1+sp) H7 (eY (aV.of n7.at') (bV (cM _) (bV (eY (aV.of (n7.same _ _ (b6.same _ _ qp n5.at'))) (qX is)) (bV (df _) cD)))) ok aq aq zL b7
def fo(z:Str):Prop:=∀c∈z.cps.toList,c<0x110000
theorem fo.app{a b:Str}(ha:fo a)(hb:fo b):fo (a++b):=λc hc=>by rw[RH,S6,gL]at hc;exact hc.elim (ha c) (hb c)
theorem fo.joined{sep:Str}(hs:fo sep):∀l:List Str,(∀a∈l,fo a)->fo (PySem.Str.join sep l) |[],_=>λc hc=>by simp[PySem.Str.join,PySem.Str.empty]at hc |[x],h=>h x (.head _) |x::y::r,h=>((h x (.head _)).app hs).app (fo.joined hs (y::r) λa ha=>h a (.tail _ ha))
theorem fo.join{sep:Str}{l:List Str}(hs:fo sep)(h:∀a∈l,fo a):fo (Txt.join sep l):=by show fo (Builtin.Str.glued sep l);rw[StrLaws.glued_eq_join];exact fo.joined hs l h
theorem MI{n:Nat}{z:Str}(h:fo z):bW n (.str z):=⟨by show PyData.strOk z=true;unfold PyData.strOk;rw[a7m];exact λc hc=>bT (h c (by simpa using hc)),eK _⟩
theorem Wi{n:Nat}{z:Str}(h:bW n (.str z)):fo z:=λc hc=>by have q:PyData.strOk z=true:=h.lay;unfold PyData.strOk at q;rw[a7m]at q;exact il (q c (by simpa using hc))
theorem MG{z:Str}(h:z.cps.all (·<0x110000)=true):fo z:=Wi (n:=0) ⟨h,eK _⟩
theorem Jw:∀(ds:List ah),(∀d∈ds,∃z:Str,d= .str z/\z.length=1/\fo z/\z.cps.toList.all (λc=>decide (97<=c)&&decide (c<=122))=true)->∃zs:List Str,ds=zs.map PyData.str/\∀z∈zs,z.length=1/\fo z/\z.cps.toList.all (λc=>decide (97<=c)&&decide (c<=122))=true |[],_=>⟨[],Z,λ_ h=>nomatch h⟩ |d::ds,h=>by obtain⟨z,rfl,e⟩:=h d (.head _);obtain⟨zs,rfl,q⟩:=Jw ds λx hx=>h x (.tail _ hx);exact⟨z::zs,Z,λy hy=>by
 rcases cR.mp hy with rfl|hy
 ·exact e
 ·exact q y hy⟩
theorem a54:fo iL:=MG aP
def Ft(c:Nat):Bool:=decide (97<=c)&&decide (c<=122)
def wH(s:Str):Bool:=(decide (1<=s.length)&&decide (s.length<=8))&&s.cps.toList.all Ft
def MD(w s:Str):Prop:=(w="tool"/\(s="up"\/s="down"))\/(w="mark"/\wH s=true)
def gA(d:ah):Prop:=(∃n,d= .tuple [.str "wait",.int n]/\1<=n/\n<=1000)\/∃w s,d= .tuple [.str w,.str s]/\(w="tool"\/w="mark")/\bW 0 (.str s)/\MD w s
theorem OC:∀l:List Str,(PySem.Str.join ("":Str) l).cps.toList=(l.map λz=>z.cps.toList).flatten
 |[]=>by simp[PySem.Str.join,PySem.Str.empty] |[x]=>by simp[PySem.Str.join] |x::y::r=>by
  show((x++("":Str))++PySem.Str.join ("":Str) (y::r)).cps.toList=_;rw[RH,RH,S6,S6,OC (y::r)];have:(("":Str)).cps.toList=[]:=by decide+kernel
  rw[this];simp
theorem Y9{l:List Str}(h1:1<=l.length)(h8:l.length<=8)(h:∀z∈l,z.length=1/\z.cps.toList.all Ft=true):wH (Txt.join ("":Str) l)=true:=by
 have e:(Txt.join ("":Str) l).cps.toList=(l.map λz=>z.cps.toList).flatten:=by show(Builtin.Str.glued ("":Str) l).cps.toList=_;rw[StrLaws.glued_eq_join];exact OC l
 have el:(Txt.join ("":Str) l).length=l.length:=by
  show(Txt.join ("":Str) l).cps.size=_;rw[<-yR,e,List.length_flatten,List.map_map];have:∀(l:List Str),(∀z∈l,z.length=1/\z.cps.toList.all Ft=true)->(l.map (List.length∘λz=>z.cps.toList)).sum=l.length:=by intro l;induction l with |nil=>intro _;rfl |cons a r ih=>
   intro h;rw[IK,List.sum_cons,ih λz hz=>h z (.tail _ hz),nq];have:=(h a (.head _)).1;have e2:(List.length∘λz:Str=>z.cps.toList) a=1:=by show a.cps.toList.length=1;rw[yR];exact this
   rw[e2,Nat.add_comm]
  exact this l h
 unfold wH;rw[el,e,bT h1,bT h8,jL,jL,fD];intro c hc;obtain⟨cs,kM,jC⟩:=List.mem_flatten.mp hc;obtain⟨z,hz,rfl⟩:=eV.mp kM;exact fD.mp (h z hz).2 c jC
theorem gA.it{d:ah}(h:gA d):itR d none:=by
 rcases h with⟨n,rfl,_⟩|⟨w,s,rfl,hw|hw,_⟩
 ·exact .inr ⟨_,_,Z,.inl Z,Z,Z⟩
 ·exact .inr ⟨_,_,Z,.inr (.inl hw),Z,Z⟩
 ·exact .inr ⟨_,_,Z,.inr (.inr hw),Z,Z⟩
inductive a60(K:a8)(vs:List V)(H:Hp)(Q:VK):Prop |mk (p:Addr)(h0:vs=[.ref p])(h1:fA H p)(h2:∀v d H',RD K H' v d->gA d->aM p H H'->Q v H')
def JV(K:a8):Sp:=λvs H Q _=>a60 K vs H Q
theorem WQ(F:FA K mg "_law_other" Dj)(B:bK mg)(cu:aB P w K mg az "_law_take" 1 jN):aB P w K mg az "_law_other" 2 (JV K):=by
 refine F.has KI (λvs H Q E h=>?_) (λ_ _ _ _ _ _=>gz λ_=>rfl) (λf aO A outer s H vs Q E hr h=>?_)
 ·obtain⟨p,rfl,_⟩:=h
  rfl
 ·obtain⟨p,rfl,bg,k⟩:=h
  have nd:=KI.nd;refine⟨_,(aC (pS 1 nd (pf cu hr (ak (pv 0) (ak aA aw)))) (aC (bA (bJ (cC K Z hr.units) (pv 1) aA (bo _)) (aI (aR (cg (ak cJ (ak (aG bZ aA (pf cu hr (ak (pv 0) (ak (px K (cK (ak aA (ak aA aw))) (pf cu hr (ak (pv 0) (ak aA aw)))) aw)))) aw))))) bE) (aC (bA (bJ (cC K Z hr.units) (pv 1) aA (bo _)) (aI (aR (cg (ak cJ (ak (px K (cK (ak cJ (ak cJ aw))) (pf cu hr (ak (pv 0) (ak aA aw)))) aw))))) bE) (aC (pS 2 nd cJ) (aI (aR (cg (ak cJ (ak (VS K Z cJ (ak (gj (N:=["_law_turn","_law_letters","_law_bag_here"]) (js:=[none,some 2,some 0]) Z Z Z (nQ Z (B.at "range") (ak (aG bZ aA (pf cu hr (ak (pv 0) (ak aA aw)))) aw)) (λ_ _ _ _ _=>(aZ 0 (show List.Nodup (["_law_turn","_law_letters","_law_bag_here"]:List Str) by decide+kernel))) (λ_ _ _ _ _=>fy) (λ_ _ _ _ _=>(Mt YW (pv 1) (pf cu hr (ak (pv 2) (ak aA aw))) (λ_ _=>rfl)))) aw)) aw))))))))),?_⟩;refine⟨_,Z,p,3,Z,bg,au,au,λso H1 s0 s1 b1=>?_⟩;refine⟨_,Z,.inl ⟨_,_,Z,Z,_,Z,?_⟩⟩;refine dM (λhc=>?_) (λhc=>?_)
  ·refine⟨_,Z,bc Z,λc H2' Fh=>?_⟩
   have Qs:aM p H1 H2':=.bD b1.aE Fh.same;have cp:c≠p:=λz=>b1.aE.ne (z▸Fh.no);refine⟨_,Z,p,2,Z,Qs.aE,au,au,λi H3' i0 i1 HB=>?_⟩;have hi:∃z:Int,dk ([.int 1000,.int 2]:List V) i=some (.int z)/\2<=z/\z<=1000:=by
    rcases(show i=0\/i=1 by lia)with rfl|rfl
    ·exact⟨1000,Z,au,au⟩
    ·exact⟨2,Z,au,au⟩
   obtain⟨z,ez,z2,a7n⟩:=hi;refine .inl ⟨c,_,_,_,Z,Z,aK.of (HB.same _ _ cp Fh.at'),ez,?_⟩;refine⟨p,z,Z,HB.aE,aq,aq,λn H2 n0 n1 a4E=>?_⟩;have b2:=Qs.trans (HB.trans a4E);refine⟨_,_,Z,Z,bc Z,λt H3 n3=>?_⟩;exact k (.ref t) _ H3 (eY (aV.of n3.at') (bV (cM _) (bV (df _) cD))) (.inl ⟨_,Z,aq,aq⟩) (b1.trans (b2.trans (.bD b2.aE n3.same)))
  refine⟨_,Z,.inl ⟨_,_,Z,Z,_,Z,?_⟩⟩;refine dM (λhc=>?_) (λhc=>?_)
  ·refine⟨bc Z,λc H2 n2=>?_⟩
   have b2:aM p H1 H2:=.bD b1.aE n2.same;have cp:c≠p:=λz=>b1.aE.ne (z▸n2.no);refine⟨_,Z,p,2,Z,b2.aE,au,au,λi H3 i0 i1 b3=>?_⟩;have hi:∃z:Str,dk ([.str "up",.str "down"]:List V) i=some (.str z)/\bW 0 (.str z)/\MD "tool" z:=by
    rcases(show i=0\/i=1 by lia)with rfl|rfl
    ·exact⟨"up",Z,⟨aP,aP⟩,.inl ⟨Z,.inl Z⟩⟩
    ·exact⟨"down",Z,⟨aP,aP⟩,.inl ⟨Z,.inr Z⟩⟩
   obtain⟨z,ez,Wh,Wf⟩:=hi;refine .inl ⟨c,_,_,_,Z,Z,aK.of (b3.same _ _ cp n2.at'),ez,bc Z,λt H4 n4=>?_⟩;exact k (.ref t) _ H4 (eY (aV.of n4.at') (bV (cM _) (bV (cM _) cD))) (.inr ⟨_,_,Z,.inl Z,Wh,Wf⟩) (b1.trans (b2.trans (b3.trans (.bD b3.aE n4.same))))
  refine⟨Z,?_⟩;refine⟨_,Z,p,8,Z,b1.aE,au,au,λn H2 n0 n1 b2=>?_⟩;refine⟨_,_,Z,Z,_,Z,aq,aq,λD H3 nD=>?_⟩;refine PZ (K:=K) (J:=ng 0 (1+n).toNat) (p:=p) (H:=H2) (1+n).toNat _ nD b2.aE aq (λi=>.int (0+(i:Int))) (λi H3 hi _=>⟨hi,λy H4 ⟨e,q⟩=>⟨e,q⟩⟩) (λH3 _=>bw _) (λ_ d=>∃z:Str,d= .str z/\z.length=1/\fo z/\z.cps.toList.all (λc=>decide (97<=c)&&decide (c<=122))=true) ?_ ?_
  ·intro i H3 Q' hi b3 hq
   refine⟨_,Z,_,Z,p,26,Z,b3.aE,au,au,λd H4 d0 d1 b4=>?_⟩;have hd:d.toNat<iL.cps.toList.length:=by rw[a56];lia
   refine⟨iL,d,iL.cps.toList[d.toNat],Z,Z,aP,cQ d0 (bG hd),?_⟩;have eE:fo ⟨#[iL.cps.toList[d.toNat]]⟩:=λc hc=>by have ib:c=iL.cps.toList[d.toNat]:=kS.mp hc;rw[ib];exact a54 _ (tG hd)
   have dX:(⟨#[iL.cps.toList[d.toNat]]⟩:Str).cps.toList.all (λc=>decide (97<=c)&&decide (c<=122))=true:=by have:=fD.mp (show iL.cps.toList.all (λc=>decide (97<=c)&&decide (c<=122))=true by decide+kernel) _ (tG hd);show([iL.cps.toList[d.toNat]]:List Nat).all _=true;rw[IQ,List.all_nil,Bool.and_true];exact this
   exact hq _ _ _ ⟨_,Z,Z,eE,dX⟩ Z (cM _) b4
  ·intro H3 ys ds b3 d3 r3 l3 nl pd
   obtain⟨zs,rfl,hz⟩:=Jw ds λd hd=>by obtain⟨i,hi⟩:=BI.mp hd;exact pd i d hi
   rw[Jv r3]at d3;rw[bB]at l3;refine⟨"",D,zs,Z,Z,aK.of d3,λz kJ=>by rw[(hz z kJ).1];decide,au,aq,bc Z,λt H4 n4=>?_⟩;exact k (.ref t) _ H4 (eY (aV.of n4.at') (bV (cM _) (bV (cM _) cD))) (.inr ⟨_,_,Z,.inr Z,MI (fo.join (MG aP) λa ha=>(hz a ha).2.1),.inr ⟨Z,Y9 aq aq λz kJ=>⟨(hz z kJ).1,(hz z kJ).2.2⟩⟩⟩) (b1.trans (b2.trans (b3.trans (.bD b3.aE n4.same))))
open Ow (Itm)
theorem Yj{H:Hp}{v:V}{rs:List Int}{es:List ah}(h:RD K H v (.tuple (.tuple (rs.map PyData.int)::es))):∃a b ys,v= .ref a/\aV K H a (.ref b::ys)/\aV K H b (rs.map V.int):=by obtain⟨a,xs,rfl,h1,h2⟩:=h.bX;obtain⟨x1,r1,rfl,e1,h2⟩:=h2.cons_inv;obtain⟨b,ys,rfl,h3,h4⟩:=e1.bX;rw[h4.gT]at h3;exact⟨a,b,r1,Z,h1,h3⟩
def f6(z:Str):ah->Bool | .str x=>x==z |_=>false
theorem kc(z:Str)(d:ah):PyData.eqv d (.str z)=f6 z d:=by cases d<;>simp[PyData.eqv,f6]
theorem P7(z:Str)(d:ah):PyData.eqv (.str z) d=f6 z d:=by cases d<;>simp[PyData.eqv,f6];rw[qL];simp;exact eq_comm
theorem FO{z:Str}{d:ah}(h:f6 z d=true):d= .str z:=by cases d<;>simp[f6]at h;rw[h]
theorem Jx(d:ah):(∃z,d= .str z)\/(eX (da d) "str"=false/\∀z,d≠ .str z):=by cases d with |str z=>exact .inl ⟨z,Z⟩ |_=>exact .inr ⟨by simp[da];decide,λ_ z=>nomatch z⟩
theorem Jc:eX "str" "str"=true:=by decide
def FP(d:ah):Bool:=f6 "up" d||f6 "down" d
def um(c:Nat):Bool:=decide (97<=c)&&decide (c<=122)
def isNm:ah->Bool | .str x=>(decide (1<=x.length)&&decide (x.length<=8))&&x.cps.toList.all um |_=>false
def oh(wd v:ah):Bool:=if f6 "wait" wd then gU 1 1000 v else if f6 "tool" wd then FP v else f6 "mark" wd&&isNm v
def wA:ah->Bool | .int i=>i !=0 |_=>true
def rj(n:Nat):ah->Bool | .tuple ds=>(ds.length==n&&ds.all (gU (-100) 100))&&ds.any wA |_=>false
def mF(n:Nat):ah->Bool | .tuple [wd,a,b]=>f6 "line" wd&&(rj n a&&gU 1 20 b) | .tuple [wd,v]=>oh wd v |_=>false
def kA:ah->Bool | .str x=>decide (x.length<=900) |_=>true
def vS:ah->Bool | .tuple ds=>ds.all kA |_=>true
inductive a5y(f:ah->Bool)(K:a8)(vs:List V)(H:Hp)(Q:VK):Prop |mk (v:_)(d:_)(h0:vs=[v])(h1:RD K H v d)(h2:kA d=true)(h3:∀H',aD H H'->Q (.bl (f d)) H')
def JI(f:ah->Bool)(K:a8):Sp:=λvs H Q _=>a5y f K vs H Q
theorem Ue{z:Str}(h:kA (.str z)=true):z.length<=900:=il h
theorem MZ(n:Nat):decide ((1:Int)<=(n:Int))=decide (1<=n):=by rw[qL];simp;omega
theorem Y7(n:Nat):decide ((n:Int)<=8)=decide (n<=8):=by rw[qL];simp;omega
theorem a4S{l:List Nat}{f:Nat->Bool}:(l.map f).all id=l.all f:=by rw[List.all_map];rfl
theorem a55:∀c<128,decide (c∈iL.cps.toList)=um c:=by decide+kernel
theorem a58:∀c∈iL.cps.toList,c<128:=by decide+kernel
theorem a57(c:Nat):decide (c∈iL.cps.toList)=um c:=by
 by_cases h:c<128
 ·exact a55 c h
 ·rw[cy (λhc=>h (a58 c hc)),um,cy (show¬c<=122 by omega),BP]
theorem Lj:bF ["thing"] ["thing"] (bu DH):=bP aP
theorem Xf(F:FA K mg "is_name" DH)(B:bK mg)(a0Y:GV mg "LONGEST_NAME" (.int 8))(a0Z:GV mg "LETTERS" (.str iL)):aB P w K mg az "is_name" 1 (JI isNm K):=by
 refine F.has Lj (λvs H Q E h=>?_) (λ_ _ _ _ _ _=>gz λ_=>rfl) (λf aO A outer s H vs Q E hr h=>?_)
 ·obtain⟨v,d,rfl,_⟩:=h
  rfl
 ·obtain⟨v,d,rfl,rd,sh,k⟩:=h
  have nd:=Lj.nd;refine⟨_,(aC (bA (PW.pt (fw (cS (ck (fj K B (ak (pv 0) (ak (eZ (x:="str") (v:=.ty "str") Z (B.at "str") Iw rfl) aw))))) (iy (cS (Vq zK zK aA (dv (x:="len") a4i rfl (B.at "len") PySem.boot_len (ak (pv 0) aw)) (dg (x:="LONGEST_NAME") rfl a0Y)))))) (aI (aR gE)) bE) (aI (aR (dv (x:="all") (uZ K Z Z) Z (B.at "all") yF (ak (gj (N:=["letter"]) (js:=[none]) rfl rfl rfl (VE (pv 0)) (λ_ _ _ _ _=>(aZ 0 (nY _))) (λ_ _ _ _ _=>fy) (λ_ _ _ _ _=>(fF Wa (pv 0) (dg (x:="LETTERS") rfl a0Z) (by with_unfolding_all rfl)))) aw))))),?_⟩;rcases Jx d with⟨z,rfl⟩|⟨ht,hn⟩
  ·refine⟨_,Z,.inl ⟨_,_,"str",true,Z,rd.ty,au,Jc,_,Z,aQ ?_⟩⟩
   cases rd.str_inv;have hl:=Ue sh;have k:∀H',aD H H'->Q (.bl ((decide (1<=z.length)&&decide (z.length<=8))&&z.cps.toList.all um)) H':=k;refine⟨_,Z,z,Z,eL hl au,_,_,Z,Z,_,Z,?_⟩;refine dM (λh1=>?_) (λh1=>?_)
   ·rw[<-MZ,show decide ((1:Int)<=(z.length:Int))=true from h1,jL]at k
    refine⟨_,_,Z,Z,_,Z,?_⟩;rw[Y7];cases e8:decide (z.length<=8)with |false=>rw[e8,ji]at k;exact aU (k H (aD.refl _)) |true=>
     rw[e8,jL]at k;refine aQ ⟨_,Z,z,Z,λD H0 nw=>?_⟩;refine a3W (f:=um) [] nw aq (λc H2 Q' hc s2 hq=>?_) (λH2 s2 d2=>?_)
     ·refine⟨_,Z,c,iL,Z,Z,?_⟩
      rw[a57];exact hq _ (aD.refl _)
     ·refine⟨D,_,Z,aK.of d2,?_⟩
      rw[a4S];exact k H2 s2
   ·rw[<-MZ,show decide ((1:Int)<=(z.length:Int))=false from oU.mpr h1,ji,ji]at k
    exact⟨_,Z,aU (k H (aD.refl _))⟩
  ·have e:isNm d=false:=by cases d<;>first|rfl|exact absurd rfl (hn _)
   rw[e]at k;refine⟨_,Z,.inl ⟨_,_,"str",false,Z,rd.ty,au,ht,_,Z,aU ?_⟩⟩;exact k H (aD.refl _)
inductive a5M(K:a8)(vs:List V)(H:Hp)(Q:VK):Prop |mk (x:_)(v:_)(wd:_)(d:_)(h0:vs=[x,v])(h1:RD K H x wd)(h2:RD K H v d)(h3:bW 8 wd)(h4:bW 8 d)(h5:kA d=true)(h6:∀H',aD H H'->Q (.bl (oh wd d)) H')
def JP(K:a8):Sp:=λvs H Q _=>a5M K vs H Q
theorem i4{d:ah}(h:bW 8 d):SeqAt.shaped d=true:=h.shaped au
theorem Li:bF ["word","value"] ["word","value"] (bu DG):=bP aP
theorem Xe(F:FA K mg "is_short_item" DG)(B:bK mg)(a0X:GV mg "LONGEST_WAIT" (.int 1000))(gS:GT K mg "SIDES" [.str "up",.str "down"])(rX:aB P w K mg az "is_whole_within" 2 (tT K))(a06:aB P w K mg az "is_name" 1 (JI isNm K)):aB P w K mg az "is_short_item" 3 (JP K):=by
 refine F.has Li (λvs H Q E h=>?_) (λ_ _ _ _ _ _=>e9 λ_ _=>rfl) (λf aO A outer s H vs Q E hr h=>?_)
 ·obtain⟨x,v,wd,d,rfl,_⟩:=h
  rfl
 ·obtain⟨x,v,wd,d,rfl,vY,rd,F1,wq,sh,k⟩:=h
  have nd:=Li.nd;obtain⟨aS,a0M,U3⟩:=gS;refine⟨_,(aC (bA (bJ (cC K Z hr.units) (pv 0) cJ (bo _)) (aI (aR (pf rX hr (ak (pv 1) (ak aA (ak (dg (x:="LONGEST_WAIT") Z a0X) aw)))))) bE) (aC (bA (bJ (cC K Z hr.units) (pv 0) cJ (bo _)) (aI (aR (fF (Z9 K Z (hr.Sr)) (pv 1) (dg (x:="SIDES") Z a0M) (by with_unfolding_all rfl)))) bE) (aI (aR (iY (fF (cC K Z hr.units) (pv 0) cJ (bo _)) (jw (pf a06 hr (ak (pv 1) aw)))))))),?_⟩;have k:∀H',aD H H'->Q (.bl (if f6 "wait" wd then gU 1 1000 d else if f6 "tool" wd then FP d else f6 "mark" wd&&isNm d)) H':=k;refine⟨_,Z,.inr ⟨_,_,vY,cM _,i4 F1,aP,_,Z,?_⟩⟩;rw[kc];cases e1:f6 "wait" wd with |true=>rw[e1,aX rfl]at k;exact aU ⟨_,Z,_,d,1,1000,Z,rd,k H (aD.refl _)⟩ |false=>rw[e1,bf gM]at k;refine aQ ⟨_,Z,.inr ⟨_,_,vY,cM _,i4 F1,aP,_,Z,?_⟩⟩;rw[kc];cases e2:f6 "tool" wd with
   |true=>
    rw[e2,aX rfl]at k;refine aU ⟨_,Z,aS,_,d,[.str "up",.str "down"],Z,U3 H,rd,bV (cM _) (bV (cM _) cD),i4 wq,?_,?_⟩
    ·intro e he
     rcases cR.mp he with rfl|he
     ·decide+kernel
     rcases cR.mp he with rfl|he
     ·decide+kernel
     ·exact(fq he).elim
    ·have e:([.str "up",.str "down"]:List ah).any (λe=>PyData.eqv e d)=FP d:=by rw[BL,BL,List.any_nil,P7,P7,Bool.or_false];rfl
     rw[e];exact k H (aD.refl _) |false=>rw[e2,bf gM]at k;refine aQ ⟨_,Z,.inr ⟨_,_,vY,cM _,i4 F1,aP,_,Z,?_⟩⟩;rw[kc];cases e3:f6 "mark" wd with |true=>rw[e3,jL]at k;exact aU ⟨_,Z,_,d,Z,rd,sh,k⟩ |false=>rw[e3,ji]at k;exact aQ (k H (aD.refl _))
theorem XH(i:Int):(!decide (i=0))=(i !=0):=by rw[qL];simp
theorem NR{lo hi:Int}{d:ah}(h:gU lo hi d=true):∃i,d= .int i:=by cases d<;>simp[gU]at h;exact⟨_,Z⟩
theorem any_map'{ds:List ah}{f:ah->Bool}:(ds.map f).any id=ds.any f:=by rw[List.any_map];rfl
inductive a5K(K:a8)(vs:List V)(H:Hp)(Q:VK):Prop |mk (m:V)(v:V)(rs:List Int)(es:List ah)(d:ah)(h0:vs=[m,v])(h1:RD K H m ((.tuple (.tuple (rs.map PyData.int)::es))))(h2:RD K H v d)(h3:rs.length<=3)(h4:∀H',aD H H'->Q (.bl (rj rs.length d)) H')
def JO(K:a8):Sp:=λvs H Q _=>a5K K vs H Q
theorem LI:bF ["machine","thing","rails"] ["machine","thing"] (bu E6):=bP aP
theorem XA(F:FA K mg "are_steps" E6)(B:bK mg)(Ou:GV mg "MOST_STEPS" (.int 100))(rX:aB P w K mg az "is_whole_within" 2 (tT K)):aB P w K mg az "are_steps" 3 (JO K):=by
 refine F.has LI (λvs H Q E h=>?_) (λ_ _ _ _ _ _=>e9 λ_ _=>rfl) (λf aO A outer s H vs Q E hr h=>?_)
 ·obtain⟨m,v,rs,es,d,rfl,_⟩:=h
  rfl
 ·obtain⟨m,v,rs,es,d,rfl,rm,rd,l3,k⟩:=h
  have nd:=LI.nd;refine⟨_,(aC (pS 2 nd (px K (pv 0) aA)) (aC (bA (PW.pt (fw (cS (ck (fj K B (ak (pv 1) (ak (eZ (x:="tuple") (v:=.ty "tuple") Z (B.at "tuple") gC rfl) aw))))) (iy (bJ (iB K rfl hr.units) (dF K B (ak (pv 1) aw)) (dF K B (ak (pv 2) aw)) (bo _))))) (aI (aR gE)) bE) (aC (bA (cS (ck (dv (x:="all") (uZ K Z Z) Z (B.at "all") yF (ak (gj (N:=["step"]) (js:=[none]) rfl rfl rfl (kG K rfl (pv 1)) (λ_ _ _ _ _=>(aZ 0 (nY _))) (λ_ _ _ _ _=>fy) (λ_ _ _ _ _=>(pf rX hr (ak (pv 0) (ak (iX iQ (dg (x:="MOST_STEPS") rfl Ou)) (ak (dg (x:="MOST_STEPS") rfl Ou) aw)))))) aw)))) (aI (aR gE)) bE) (aI (aR (dv (x:="any") (QC K Z Z) Z (B.at "any") RN (ak (gj (N:=["step"]) (js:=[none]) rfl rfl rfl (kG K rfl (pv 1)) (λ_ _ _ _ _=>(aZ 0 (nY _))) (λ_ _ _ _ _=>fy) (λ_ _ _ _ _=>(fF (iB K rfl hr.units) (pv 0) aA (bo _)))) aw))))))),?_⟩;obtain⟨am,ar,ym,rfl,hm,har⟩:=Yj rm;refine⟨_,Z,.inr ⟨am,_,0,_,Z,Z,hm,cQ (iP 0) Z,?_⟩⟩;rcases tO d with⟨ds,rfl⟩|⟨ht,hn⟩
  ·refine⟨_,Z,.inl ⟨_,_,"tuple",true,Z,rd.ty,au,jk,_,Z,aQ ?_⟩⟩
   obtain⟨av,xs,rfl,hx,hd⟩:=rd.bX;have hl:=hd.length;refine⟨_,Z,av,_,Z,.inr hx,_,Z,ar,_,Z,.inr har,.inl ⟨_,_,Z,Z,_,Z,?_⟩⟩;have k:∀H',aD H H'->Q (.bl ((ds.length==rs.length&&ds.all (gU (-100) 100))&&ds.any wA)) H':=k;have e0:(!decide ((xs.length:Int)=((rs.map V.int).length:Int)))= !(ds.length==rs.length):=by rw[hl,bB];congr 1;rw[qL];simp;lia
   rw[e0];cases e:(ds.length==rs.length)with |false=>rw[e,ji,ji]at k;exact aU (k H (aD.refl _)) |true=>
    rw[e,jL]at k;refine aQ ?_;have el:ds.length=rs.length:=eU.mp e;refine⟨_,Z,av,Z,⟨_,hx⟩,λD H0 nw=>?_⟩;refine xV (xs:=xs) (bs:=ds.map (gU (-100) 100)) [] hx nw (by rw[bB,hl]) aq ?_ ?_
    ·intro i x b H2 Q' ex eb s2 hq
     obtain⟨d,ed,rfl⟩:=Nb eb;obtain⟨x',qe,rx⟩:=hd.get i ed;rw[ex]at qe;cases qe;exact⟨_,Z,_,Z,_,d,-100,100,Z,RD.mono s2 _ rx,hq _ (aD.refl _)⟩
    ·intro H2 s2 d2
     refine⟨D,_,Z,aK.of d2,_,Z,?_⟩;rw[all_map];cases e1:ds.all (gU (-100) 100)with |false=>rw[e1,ji]at k;exact aU (k H2 s2) |true=>
      rw[e1,jL]at k;refine aQ ⟨_,Z,av,Z,⟨_,hx.go s2⟩,λD2 H3 n3=>?_⟩;refine xV (xs:=xs) (bs:=ds.map wA) [] (hx.go s2) n3 (by rw[bB,hl]) aq ?_ ?_
      ·intro i x b H4 Q' ex eb s4 hq
       obtain⟨d,ed,rfl⟩:=Nb eb;obtain⟨x',qe,rx⟩:=hd.get i ed;rw[ex]at qe;cases qe;obtain⟨z,rfl⟩:=NR (fD.mp e1 d (fC ed));cases rx.int_inv;refine⟨_,Z,.inl ⟨_,_,Z,Z,?_⟩⟩;show Q' (.bl (!decide (z=0))) H4;rw[XH];exact hq _ (aD.refl _)
      ·intro H4 s4 d4
       refine⟨D2,_,Z,aK.of d4,?_⟩;rw[any_map'];exact k H4 (s2.trans s4)
  ·have e:rj rs.length d=false:=by cases d<;>first|rfl|exact absurd rfl (hn _)
   rw[e]at k;refine⟨_,Z,.inl ⟨_,_,"tuple",false,Z,rd.ty,au,ht,_,Z,aU ?_⟩⟩;exact k H (aD.refl _)
theorem item_cases(n:Nat)(d:ah):(∃wd a b,d= .tuple [wd,a,b])\/(∃wd v,d= .tuple [wd,v])\/(∃ds,d= .tuple ds/\ds.length≠3/\ds.length≠2/\mF n d=false)\/(eX (da d) "tuple"=false/\mF n d=false):=by
 rcases tO d with⟨ds,rfl⟩|⟨ht,hn⟩
 ·match ds with |[r,a,b]=>exact .inl ⟨r,a,b,Z⟩ |[r,a]=>exact .inr (.inl ⟨r,a,Z⟩) |[]=>exact .inr (.inr (.inl ⟨_,Z,by simp,by simp,by simp[mF]⟩)) |[_]=>exact .inr (.inr (.inl ⟨_,Z,by simp,by simp,by simp[mF]⟩)) |_::_::_::_::_=>exact .inr (.inr (.inl ⟨_,Z,by simp,by simp,by simp[mF]⟩))
 ·exact .inr (.inr (.inr ⟨ht,by cases d<;>first|rfl|exact absurd rfl (hn _)⟩))
inductive a6f(K:a8)(vs:List V)(H:Hp)(Q:VK):Prop |mk (m:V)(v:V)(rs:List Int)(es:List ah)(d:ah)(h0:vs=[m,v])(h1:RD K H m ((.tuple (.tuple (rs.map PyData.int)::es))))(h2:RD K H v d)(h3:rs.length<=3)(h4:bW 8 d)(h5:vS d=true)(h6:∀H',aD H H'->Q (.bl (mF rs.length d)) H')
def Cv(K:a8):Sp:=λvs H Q _=>a6f K vs H Q
theorem pA{ds:List ah}(h:bW 8 (.tuple ds)){d:ah}(hd:d∈ds):bW 8 d:=((bW.bX (n:=7) h) d hd).le au
theorem K8{ds:List ah}(h:vS (.tuple ds)=true){d:ah}(hd:d∈ds):kA d=true:=fD.mp (show ds.all kA=true from h) d hd
theorem Lk:bF ["machine","thing","word","steps","speed","value"] ["machine","thing"] (bu DI):=bP aP
theorem Xg(F:FA K mg "is_item" DI)(B:bK mg)(a13:GV mg "GREATEST_SPEED" (.int 20))(rX:aB P w K mg az "is_whole_within" 2 (tT K))(a0F:aB P w K mg az "are_steps" 3 (JO K))(a04:aB P w K mg az "is_short_item" 3 (JP K)):aB P w K mg az "is_item" 4 (Cv K):=by
 refine F.has Lk (λvs H Q E h=>?_) (λ_ _ _ _ _ _=>e9 λ_ _=>rfl) (λf aO A outer s H vs Q E hr h=>?_)
 ·obtain⟨m,v,rs,es,d,rfl,_⟩:=h
  rfl
 ·obtain⟨m,v,rs,es,d,rfl,rm,rd,l3,wq,sh,k⟩:=h
  have nd:=Lk.nd;refine⟨_,(aC (bA (cS (ck (fj K B (ak (pv 1) (ak (eZ (x:="tuple") (v:=.ty "tuple") Z (B.at "tuple") gC rfl) aw))))) (aI (aR gE)) bE) (aC (bA (bJ (cC K Z hr.units) (dF K B (ak (pv 1) aw)) aA (bo _)) (aC (eB (pv 1) (cV K Z (n:=3) Z (bN (aZ 2 nd) (bN (aZ 3 nd) (bN (aZ 4 nd) cU))))) (aI (aR (iY (fF (cC K Z hr.units) (pv 2) cJ (bo _)) (iY (pf a0F hr (ak (pv 0) (ak (pv 3) aw))) (jw (pf rX hr (ak (pv 4) (ak aA (ak (dg (x:="GREATEST_SPEED") Z a13) aw)))))))))) bE) (aC (bA (bJ (cC K Z hr.units) (dF K B (ak (pv 1) aw)) aA (bo _)) (aC (eB (pv 1) (cV K Z (n:=2) Z (bN (aZ 2 nd) (bN (aZ 5 nd) cU)))) (aI (aR (pf a04 hr (ak (pv 2) (ak (pv 5) aw)))))) bE) (aI (aR gE))))),?_⟩;rcases item_cases rs.length d with⟨wd,a,b,rfl⟩|⟨wd,a,rfl⟩|⟨ds,rfl,h3,h2,hf⟩|⟨ht,hf⟩
  ·refine⟨_,Z,.inl ⟨_,_,"tuple",true,Z,rd.ty,au,jk,_,Z,aQ ?_⟩⟩
   obtain⟨p,xs,rfl,hx,hd⟩:=rd.bX;obtain⟨u1,ys,rfl,r1,hd⟩:=hd.cons_inv;obtain⟨u2,ys,rfl,r2,hd⟩:=hd.cons_inv;obtain⟨u3,ys,rfl,r3,hd⟩:=hd.cons_inv;cases hd.nil_inv;have k:∀H',aD H H'->Q (.bl (f6 "line" wd&&(rj rs.length a&&gU 1 20 b))) H':=k;refine⟨_,Z,p,_,Z,.inr hx,.inl ⟨_,_,Z,Z,_,Z,aU ?_⟩⟩;refine⟨_,Z,p,_,Z,hx,Z,_,_,Z,_,_,Z,_,_,Z,Z,?_⟩;refine⟨_,Z,.inr ⟨_,_,r1,cM _,i4 (pA wq (by simp)),aP,_,Z,?_⟩⟩;rw[kc];cases e1:f6 "line" wd with |false=>rw[e1,ji]at k;exact aQ (k H (aD.refl _)) |true=>rw[e1,jL]at k;refine aU ⟨_,Z,_,Z,_,_,rs,es,a,Z,rm,r2,l3,λH1 s1=>⟨_,Z,?_⟩⟩;cases e2:rj rs.length a with |false=>rw[e2,ji]at k;exact aQ (k H1 s1) |true=>rw[e2,jL]at k;exact aU ⟨_,Z,_,b,1,20,Z,RD.mono s1 _ r3,k H1 s1⟩
  ·refine⟨_,Z,.inl ⟨_,_,"tuple",true,Z,rd.ty,au,jk,_,Z,aQ ?_⟩⟩
   obtain⟨p,xs,rfl,hx,hd⟩:=rd.bX;obtain⟨u1,ys,rfl,r1,hd⟩:=hd.cons_inv;obtain⟨u2,ys,rfl,r2,hd⟩:=hd.cons_inv;cases hd.nil_inv;have k:∀H',aD H H'->Q (.bl (oh wd a)) H':=k;refine⟨_,Z,p,_,Z,.inr hx,.inl ⟨_,_,Z,Z,_,Z,aQ ?_⟩⟩;refine⟨_,Z,p,_,Z,.inr hx,.inl ⟨_,_,Z,Z,_,Z,aU ?_⟩⟩;refine⟨_,Z,p,_,Z,hx,Z,_,_,Z,_,_,Z,Z,?_⟩;exact⟨_,Z,_,Z,_,_,wd,a,Z,r1,r2,pA wq (by simp),pA wq (by simp),K8 sh (by simp),k⟩
  ·rw[hf]at k
   refine⟨_,Z,.inl ⟨_,_,"tuple",true,Z,rd.ty,au,jk,_,Z,aQ ?_⟩⟩;obtain⟨p,xs,rfl,hx,hd⟩:=rd.bX;have hl:=hd.length;refine⟨_,Z,p,_,Z,.inr hx,.inl ⟨_,_,Z,Z,_,Z,?_⟩⟩;rw[show decide ((xs.length:Int)=3)=false from cy aq];refine aQ ⟨_,Z,p,_,Z,.inr hx,.inl ⟨_,_,Z,Z,_,Z,?_⟩⟩;rw[show decide ((xs.length:Int)=2)=false from cy aq];exact aQ (k H (aD.refl _))
  ·rw[hf]at k
   refine⟨_,Z,.inl ⟨_,_,"tuple",false,Z,rd.ty,au,ht,_,Z,aU ?_⟩⟩;exact k H (aD.refl _)
structure yj(n:Nat)(d:ah)(o:Itm):Prop where
 it:itR d o
 ln:∀ns sp,o=some (ns,sp)->eG n 100 ns/\1<=sp/\sp<=20
 ot:o=none->gA d
theorem Y8{z:Str}(h:wH z=true):isNm (.str z)=true:=h
theorem a4N:∀{ns:List Int},(∃z∈ns,z≠0)->(ns.map PyData.int).any wA=true:=λ{ns} ⟨z,hz,h⟩=>vy.mpr ⟨.int z,eV.mpr ⟨z,hz,Z⟩,by show(z !=0)=true;simpa using h⟩
theorem a4V{ns:List Int}(h:∀z∈ns,(z.natAbs:Int)<=100):(ns.map PyData.int).all (gU (-100) 100)=true:=by rw[fD];intro d hd;obtain⟨z,hz,rfl⟩:=eV.mp hd;have:=h z hz;show(decide (-100<=z)&&decide (z<=100))=true;rw[bT aH,bT aH];rfl
theorem yj.is{n:Nat}{d:ah}{o:Itm}(h:yj n d o):mF n d=true/\bW 8 d/\vS d=true:=by cases o with
 |some q=>
  obtain⟨ns,sp⟩:=q;have ed:=jV h.it;subst ed;obtain⟨cx,s1,s2⟩:=h.ln ns sp rfl;refine⟨?_,?_,Z⟩
  ·show(f6 "line" (.str "line")&&(rj n (.tuple (ns.map PyData.int))&&gU 1 20 (.int sp)))=true
   have e1:f6 "line" (.str "line")=true:=by decide+kernel
   have e2:rj n (.tuple (ns.map PyData.int))=true:=by show(((ns.map PyData.int).length==n&&(ns.map PyData.int).all (gU (-100) 100))&&(ns.map PyData.int).any wA)=true;rw[a4V cx.bd,a4N cx.nz,bB,cx.len,Ik];rfl
   have e3:gU 1 20 (.int sp)=true:=by show(decide (1<=sp)&&decide (sp<=20))=true;rw[bT s1,bT s2];rfl
   rw[e1,e2,e3];rfl
  ·refine(dP.tup (n:=1) (.cons ⟨aP,eK _⟩ (.cons (dP.tup (n:=0) λd hd=>?_) (.cons (.int _) .nil)))).le au
   obtain⟨a,_,rfl⟩:=eV.mp hd;exact .int _ |none=>
  rcases h.ot rfl with⟨z,rfl,z1,z2⟩|⟨w,s,rfl,hw,Wj,on⟩
  ·refine⟨?_,(dP.tup (n:=0) (.cons ⟨aP,eK _⟩ (.cons (.int _) .nil))).le au,Z⟩
   show oh (.str "wait") (.int z)=true;unfold oh;rw[aX aP];show(decide (1<=z)&&decide (z<=1000))=true;rw[bT z1,bT z2];rfl
  ·have YL:kA (.str s)=true:=by
    refine bT ?_;rcases on with⟨_,rfl|rfl⟩|⟨_,hn⟩
    ·decide+kernel
    ·decide+kernel
    ·unfold wH at hn
     simp only[f9,Ij]at hn
     lia
   refine⟨?_,(dP.tup (n:=0) (.cons ?_ (.cons Wj .nil))).le au,?_⟩
   ·rcases on with⟨rfl,hs⟩|⟨rfl,hn⟩
    ·show oh (.str "tool") (.str s)=true
     unfold oh;rw[bf aP,aX aP];rcases hs with rfl|rfl<;>decide+kernel
    ·show oh (.str "mark") (.str s)=true
     unfold oh;rw[bf aP,bf aP];rw[Y8 hn];decide+kernel
   ·rcases hw with rfl|rfl<;>exact⟨aP,eK _⟩
   ·show([.str w,.str s]:List ah).all kA=true
    rw[IQ,IQ,List.all_nil,YL];rcases hw with rfl|rfl<;>decide+kernel
def dj(ti:Int)(q:Rat)(t:Int):Bool:=decide (ti*ti*(q.den:Int)<=t*t*q.num)
inductive a6o(K:a8)(vs:List V)(H:Hp)(Q:VK):Prop |mk (m:_)(sq:_)(t:_)(rs:_)(r:_)(f:_)(j:_)(ti:_)(q:_)(h0:vs=[m,sq,.int t])(h1:RD K H m (dQ rs r f j ti))(h2:bC K H sq q)(h3:Bd 2000 q)(h4:1<=ti)(h5:ti<=100)(h6:0<=t)(h7:t.natAbs<2^2400)(h8:Q (.bl (dj ti q t)) H)
def zu(K:a8):Sp:=λvs H Q _=>a6o K vs H Q
theorem Lv:bF ["machine","square","t","p","q","ticks"] ["machine","square","t"] (bu DU):=bP aP
theorem MK(F:FA K mg "are_enough" DU)(B:bK mg):aB P w K mg az "are_enough" 1 (zu K):=by
 refine F.has Lv (λvs H Q E h=>?_) (λ_ _ _ _ _ _=>iJ λ_ _ _=>rfl) (λf aO A outer s H vs Q E hr h=>?_)
 ·obtain⟨m,sq,t,rs,r,f,j,ti,q,rfl,_⟩:=h
  rfl
 ·obtain⟨m,sq,t,rs,r,f,j,ti,q,rfl,rm,⟨p,rfl,hp⟩,bq,t1,t2,t0,tw,k⟩:=h
  have nd:=Lv.nd;refine⟨_,(aC (eB (pv 1) (cV K Z (n:=2) Z (bN (aZ 3 nd) (bN (aZ 4 nd) cU)))) (aC (pS 5 nd (px K (pv 0) aA)) (aI (aR (fF EZ (aG bO (aG bO (pv 2) (pv 2)) (pv 3)) (aG bO (aG bO (pv 5) (pv 5)) (pv 4)) (bo _)))))),?_⟩;obtain⟨a,b,rfl,ha,hb⟩:=l4 rm;have wt:Wd t:=ir tw au;have yZ:Wd (t*t):=ir (n:=4800) (by rw[gs];exact pE (n:=2400) (m:=2400) tw tw) au;have m1:(ti*ti).natAbs<=100*100:=by rw[gs];exact nk aH aH
  refine⟨_,Z,_,_,Z,hp,Z,_,_,Z,_,_,Z,Z,?_⟩;refine⟨_,Z,.inr ⟨a,_,4,.int ti,Z,Z,ha,Z,?_⟩⟩;refine⟨_,Z,_,Z,_,_,Z,Z,hZ wt.bits wt.bits,_,Z,_,_,Z,Z,hZ yZ.bits bq.wn.bits,?_⟩;refine⟨_,Z,_,Z,_,_,Z,Z,.of_left (cm aH aH),_,Z,_,_,Z,Z,.of_left (cm aH aH),?_⟩;exact⟨_,_,Z,Z,k⟩
theorem Pe{ti t:Int}{q:Rat}(hq:0<q.num)(h0:0<=t)(h:ti*ti*(q.den:Int)<=t):dj ti q t=true:=by
 refine bT (Int.le_trans h ?_);by_cases ht:t=0
 ·subst ht;simp
 ·have e1:t*1<=t*t:=BM aq h0
  have e2:t*t*1<=t*t*q.num:=BM aq (jK h0 h0)
  lia
theorem Pb{ti:Int}{q:Rat}(h1:1<=ti):dj ti q 0=false:=by
 refine cy λh=>?_;have:=fL (fL (show 0<ti by lia) (show 0<ti by lia)) (den_pos q);simp only[yN]at h
 lia
inductive a5E(K:a8)(vs:List V)(H:Hp)(Q:VK):Prop |mk (m:_)(sq:_)(rs:_)(r:_)(f:_)(j:_)(ti:_)(q:_)(h0:vs=[m,sq])(h1:RD K H m (dQ rs r f j ti))(h2:bC K H sq q)(h3:Bd 2000 q)(h4:1<=ti)(h5:ti<=100)(h6:0<q.num)(h7:∀T,1<=T->T.natAbs<2^2400->dj ti q T=true->dj ti q (T-1)=false->Q (.int T) H)
def JL(K:a8):Sp:=λvs H Q _=>a5E K vs H Q
theorem Kl:bF ["machine","square","enough","too_few","between"] ["machine","square"] (bu CT):=bP aP
theorem Wu(F:FA K mg "ticks_of" CT)(B:bK mg)(xA:aB P w K mg az "are_enough" 1 (zu K)):aB P w K mg az "ticks_of" 2 (JL K):=by
 refine F.has Kl (λvs H Q E h=>?_) (λ_ _ _ _ _ _=>e9 λ_ _=>rfl) (λf aO A outer s H vs Q E hr h=>?_)
 ·obtain⟨m,sq,rs,r,f,j,ti,q,rfl,_⟩:=h
  rfl
 ·obtain⟨m,sq,rs,r,f,j,ti,q,rfl,rm,rq,bq,t1,t2,hq,k⟩:=h
  have nd:=Kl.nd;refine⟨_,(aC (pS 2 nd aA) (aC (qY f7 (cS (ck (pf xA hr (ak (pv 0) (ak (pv 1) (ak (pv 2) aw)))))) (aI (pS 2 nd (aG bO aA (pv 2))))) (aC (pS 3 nd (aG nU (pv 2) aA)) (aC (qY f7 (bJ kH (aG fT (pv 2) (pv 3)) aA (bo _)) (aC (pS 4 nd (aG nU (aG bZ (pv 3) (pv 2)) aA)) (aI (bA (ck (pf xA hr (ak (pv 0) (ak (pv 1) (ak (pv 4) aw))))) (aI (pS 2 nd (pv 4))) (aI (pS 3 nd (pv 4))))))) (aI (aR (pv 2))))))),?_⟩;have lim:(ti*ti*(q.den:Int)).natAbs<2^2399:=by
   have m1:(ti*ti).natAbs<=100*100:=by rw[gs];exact nk aq aq
   have hd:=bq.den;rw[gs];have:(q.den:Int).natAbs=q.den:=rfl;rw[this];have:=pE (n:=14) (m:=2000) (a:=(ti*ti).natAbs) (b:=q.den) (vn m1 au) hd;exact cY this (gD au au)
  have p0:0<ti*ti*(q.den:Int):=fL (fL aq aq) (den_pos q);have e2:(2:Nat)^2400=2^2399*2:=Iz 2 2399;generalize hL:ti*ti*(q.den:Int)=L at lim p0;refine qM (λO H2=>H2=H/\∃(x:Int),O=[some m,some sq,some (.int x),none,none]/\1<=x/\x<=2*L/\dj ti q (x/2)=false) (λO _=>match O with|[_,_,some (.int x),_,_]=>(L-x).toNat|_=>0) ?_ ?_ ?_
  ·exact⟨Z,1,Z,aq,aq,Pb t1⟩
  ·rintro O H2 ⟨rfl,x,rfl,x1,xL,hx⟩
   have xw:x.natAbs<2^2400:=by lia
   refine⟨_,Z,_,Z,_,Z,m,sq,x,rs,r,f,j,ti,q,Z,rm,rq,bq,t1,t2,aq,xw,_,Z,?_⟩;cases ow:dj ti q x with
   |false=>
    have bQ:x<L:=by
     by_cases bQ:x<L
     ·exact bQ
     ·rw[Pe hq aq aq]at ow;cases ow
    refine dM (λhc=>?_) (λhc=>(hc Z).elim);refine⟨_,Z,_,_,Z,Z,.of_left (cm au au),?_⟩;refine⟨⟨Z,_,Z,aq,aq,?_⟩,?_⟩
    ·have:2*x/2=x:=by lia
     rw[this];exact ow
    ·show(L-2*x).toNat<(L-x).toNat
     lia |true=>
    refine dM (λhc=>nomatch hc) (λhc=>?_);refine⟨_,Z,_,_,Z,Z,⟨au,ir (n:=2) au au⟩,?_⟩;refine qM (λO H3=>H3=H2/\∃(lo hi:Int)(v:Option V),O=[some m,some sq,some (.int hi),some (.int lo),v]/\0<=lo/\lo<hi/\hi<=2*L/\dj ti q lo=false/\dj ti q hi=true) (λO _=>match O with|[_,_,some (.int x),some (.int y),_]=>(x-y).toNat|_=>0) ?_ ?_ ?_
    ·exact⟨Z,x/2,x,none,Z,aq,aq,xL,hx,ow⟩
    ·rintro O H3 ⟨rfl,lo,hi,v,rfl,l0,lh,sj,xK,sC⟩
     refine⟨_,Z,_,Z,_,_,Z,Z,_,_,Z,Z,_,Z,?_⟩;refine dM (λhc=>?_) (λhc=>?_)
     ·have Oe:hi-lo>1:=il hc
      refine⟨_,Z,_,Z,_,_,Z,Z,_,_,Z,Z,⟨au,ir (n:=2) au au⟩,?_⟩;have mw:((lo+hi)/2).natAbs<2^2400:=by lia
      refine⟨_,Z,_,Z,_,Z,m,sq,(lo+hi)/2,rs,r,f,j,ti,q,Z,rm,rq,bq,t1,t2,aq,mw,_,Z,?_⟩;cases hm:dj ti q ((lo+hi)/2)with
      |true=>
       refine aU ?_;refine⟨_,Z,⟨Z,lo,_,_,Z,l0,aq,aq,xK,hm⟩,?_⟩;show((lo+hi)/2-lo).toNat<(hi-lo).toNat
       lia |false=>
       refine aQ ?_;refine⟨_,Z,⟨Z,_,hi,_,Z,aq,aq,sj,hm,sC⟩,?_⟩;show(hi-(lo+hi)/2).toNat<(hi-lo).toNat
       lia
     ·have hle:¬hi-lo>1:=λz=>hc (bT z)
      have e:lo=hi-1:=by lia
      subst e;exact⟨_,Z,k hi aq aq sC xK⟩
    ·rintro O H2 Q1 Q2 hq ⟨v1,e1,v2,e2,i,j,e3,e4,i2,j2,e5,e6,kk,e7,q⟩
     exact⟨v1,e1,v2,e2,i,j,e3,e4,i2,j2,e5,e6,kk,e7,hq _ _ q⟩
  ·rintro O H2 Q1 Q2 hq ⟨v1,e1,v2,e2,v3,e3,m',vM,x',kE,r',f',j',vF,q',e4,h1,h2,h3,h4,h5,h6,h7,b,eb,q⟩
   exact⟨v1,e1,v2,e2,v3,e3,m',vM,x',kE,r',f',j',vF,q',e4,h1,h2,h3,h4,h5,h6,h7,b,eb,hq _ _ q⟩
theorem J3{j:Int}(h:j.natAbs<2^64):Wd j:=Nat.lt_trans h aP
inductive a62(vs:List V)(H:Hp)(Q:VK):Prop |mk (p:Int)(q:Int)(h0:vs=[.int p,.int q])(h1:0<q)(h2:q<=10^6)(h3:p.natAbs<=10^9)(h4:Q (.int (i9 p q)) H)
def Co:Sp:=λvs H Q _=>a62 vs H Q
theorem KN:bF ["p","q","size"] ["p","q"] (bu Dl):=bP aP
theorem WT(F:FA K mg "nearest" Dl)(B:bK mg):aB P w K mg az "nearest" 1 Co:=by
 refine F.has KN (λvs H Q E h=>?_) (λ_ _ _ _ _ _=>e9 λ_ _=>rfl) (λf aO A outer s H vs Q E hr h=>?_)
 ·obtain⟨p,q,rfl,_⟩:=h
  rfl
 ·obtain⟨p,q,rfl,q0,q1,p1,k⟩:=h
  have nd:=KN.nd;refine⟨_,(aC (pS 2 nd (aG nU (aG bZ (aG bO aA (dv (x:="abs") mU Z (B.at "abs") oO (ak (pv 0) aw))) (pv 1)) (aG bO aA (pv 1)))) (aI (aR (wj (bJ EZ (pv 0) aA (bo _)) (pv 2) (iX iQ (pv 2)))))),?_⟩;refine⟨_,Z,p,Z,_,_,Z,Z,.of_left (cm au au),_,Z,_,_,Z,Z,_,Z,_,_,Z,Z,.of_left (cm au au),_,_,Z,Z,⟨aq,J3 aq⟩,?_⟩;have e:(2*(if p<0 then-p else p)+q)/(2*q)=jO p q:=by unfold jO;rw[<-y9];rfl
  refine⟨_,Z,_,_,Z,Z,_,Z,?_⟩;unfold i9 at k;rw[<-e]at k;refine dM (λhc=>?_) (λhc=>?_)
  ·have hp:p>=0:=il hc
   rw[aX hp]at k;exact⟨_,Z,k⟩
  ·have hp:¬p>=0:=λz=>hc (bT z)
   rw[bf hp]at k;exact⟨_,Z,_,Z,k⟩
def vL(ns:List Int)(k:Int):ah:=.tuple ((ns.map λz=>i9 (k*z) (aL ns)).map PyData.int)
theorem Mk{k z:Int}(h:k.natAbs<=10^6)(g:(z.natAbs:Int)<=1000):(k*z).natAbs<=10^9:=by rw[gs];exact eL (nk h (show z.natAbs<=1000 by lia)) au
inductive a5J(K:a8)(vs:List V)(H:Hp)(Q:VK):Prop |mk (v:_)(ns:_)(sp:_)(k:_)(h0:vs=[v,.int k])(h1:RD K H v (fW ns sp))(h2:eG ns.length 1000 ns)(h3:ns.length<=1000)(h4:k.natAbs<=10^6)(h5:∀v' H',RD K H' v' (vL ns k)->aD H H'->Q v' H')
def Ce(K:a8):Sp:=λvs H Q _=>a5J K vs H Q
theorem Kr:bF ["line","k","lead"] ["line","k"] (bu CZ):=bP aP
theorem WB(F:FA K mg "stand_at" CZ)(B:bK mg)(jY:aB P w K mg az "lead_of" 1 (jq K))(ZO:aB P w K mg az "nearest" 1 Co):aB P w K mg az "stand_at" 2 (Ce K):=by
 refine F.has Kr (λvs H Q E h=>?_) (λ_ _ _ _ _ _=>e9 λ_ _=>rfl) (λf aO A outer s H vs Q E hr h=>?_)
 ·obtain⟨v,ns,sp,k,rfl,_⟩:=h
  rfl
 ·obtain⟨v,ns,sp,kk,rfl,rd,ok,hz,hk,k⟩:=h
  have nd:=Kr.nd;refine⟨_,(aC (pS 2 nd (pf jY hr (ak (pv 0) aw))) (aI (aR (fh (x:="tuple") (m7 K Z) Z (B.at "tuple") gC (ak (gj (N:=["step","lead","k"]) (js:=[none,some 2,some 1]) rfl rfl rfl (kG K rfl (px K (pv 0) aA)) (λ_ _ _ _ _=>(aZ 0 (show List.Nodup (["step","lead","k"]:List Str) by decide+kernel))) (λ_ _ _ _ _=>fy) (λ_ _ _ _ _=>(pf ZO hr (ak (aG bO (pv 2) (pv 0)) (ak (pv 1) aw))))) aw))))),?_⟩;refine⟨_,Z,v,ns,sp,Z,rd,ok.ne,hz,λH1 s1=>?_⟩;obtain⟨a,b,rfl,ha,hb⟩:=lg (RD.mono s1 _ rd);obtain⟨lp,lm⟩:=ok.lead;refine⟨_,Z,.inr ⟨a,_,1,.ref b,Z,Z,ha,Z,b,Z,⟨_,hb⟩,λD H0 nw=>?_⟩⟩;refine AZ (K:=K) (xs:=ns.map V.int) (ds:=(ns.map λz=>i9 (kk*z) (aL ns)).map PyData.int) _ hb nw (by simp) (by simpa using hz) (kI _) ?_ ?_
  ·intro i x d H2 Q' ex ed s2 hq
   rw[List.map_map]at ed;obtain⟨n,en,rfl⟩:=nZ ed;cases wK ex en;refine⟨_,Z,_,Z,_,_,Z,Z,.of_left (cm aq aq),_,Z,_,_,Z,aq,aq,Mk hk (ok.bd n (fC en)),?_⟩;exact hq _ _ (aD.refl _) (df _)
  ·intro H' ys s2 d2 r2
   refine⟨D,_,Z,.inl ⟨aK.of d2,λt H4 n4=>?_⟩⟩;exact k _ _ (eY (aV.of n4.at') (aJ.mono n4.same _ r2)) (s1.trans (s2.trans n4.same))
def fP(ns:List Int)(j:Nat):List Int:=ns.map λz=>i9 (((j:Int)+1)*z) (aL ns)-i9 ((j:Int)*z) (aL ns)
def i6(ns:List Int):List ah:=(List.range (aL ns)).map λj=>.tuple ((fP ns j).map PyData.int)
theorem w6(zs:List Int):dw (.tuple (zs.map PyData.int))=true:=by rw[dw];exact kI zs
theorem LY(ns:List Int):cE (i6 ns)=true:=dh.mpr λd hd=>by obtain⟨j,_,rfl⟩:=eV.mp hd;exact w6 _
theorem LZ{ns:List Int}{i:Nat}(h:i<aL ns):(i6 ns)[i]? =some (.tuple ((fP ns i).map PyData.int)):=by unfold i6;rw[bU,bG (by simpa using h),vv];rfl
theorem zD(ns:List Int):(i6 ns).length=aL ns:=by simp[i6]
inductive a5R(K:a8)(vs:List V)(H:Hp)(Q:VK):Prop |mk (v:_)(ns:_)(sp:_)(h0:vs=[v])(h1:RD K H v (fW ns sp))(h2:eG ns.length 1000 ns)(h3:ns.length<=1000)(h4:∀l ys H',H l=none->H' l=some (.lst ys)->aJ K H' ys (i6 ns)->aD H H'->Q (.ref l) H')
def zp(K:a8):Sp:=λvs H Q _=>a5R K vs H Q
theorem Kx:bF ["line","rows","before","k","behind"] ["line"] (bu D8):=bP aP
theorem WH(F:FA K mg "step_rows" D8)(B:bK mg)(jY:aB P w K mg az "lead_of" 1 (jq K))(NW:aB P w K mg az "stand_at" 2 (Ce K)):aB P w K mg az "step_rows" 3 (zp K):=by
 refine F.has Kx (λvs H Q E h=>?_) (λ_ _ _ _ _ _=>gz λ_=>rfl) (λf aO A outer s H vs Q E hr h=>?_)
 ·obtain⟨v,ns,sp,rfl,_⟩:=h
  rfl
 ·obtain⟨v,ns,sp,rfl,rd,ok,hz,k⟩:=h
  have nd:=Kx.nd;obtain⟨lp,lm⟩:=ok.lead;refine⟨_,(aC (pS 1 nd (cK aw)) (aC (pS 2 nd (pf NW hr (ak (pv 0) (ak aA aw)))) (aC (fR f7 Z (ET Z (B.at "range") (ak aA (ak (aG bZ (pf jY hr (ak (pv 0) aw)) aA) aw))) (aZ 3 nd) (aC (pS 4 nd (pf NW hr (ak (pv 0) (ak (pv 3) aw)))) (aC (gu (iz K Z (pv 1) (ak (fh (x:="tuple") (m7 K Z) Z (B.at "tuple") gC (ak (gj (N:=["new","old"]) (js:=[none,none]) rfl rfl rfl (nP K rfl false false rfl (B.at "zip") (ak (pv 4) (ak (pv 2) aw))) (λ_ _ _ _ _=>(cV K rfl (n:=2) rfl (bN (aZ 0 (iC au)) (bN (aZ 1 (iC au)) cU)))) (λ_ _ _ _ _=>fy) (λ_ _ _ _ _=>(aG fT (pv 0) (pv 1)))) aw)) aw))) (aI (pS 2 nd (pv 4)))))) (aI (aR (pv 1)))))),?_⟩;refine⟨bc Z,λl H1 n1=>?_⟩;refine⟨_,Z,v,ns,sp,0,Z,RD.mono n1.same _ rd,ok,hz,au,λu H2 ru s2=>?_⟩;have t2:=n1.same.trans s2;refine⟨_,Z,v,ns,sp,Z,RD.mono t2 _ rd,ok.ne,hz,λH3 s3=>?_⟩;refine⟨_,_,Z,Z,_,_,Z,⟨aq,aq,aq,aq⟩,?_⟩;have t3:=t2.trans s3;have e3:((aL ns:Int)+1-1).toNat=aL ns:=by lia
  refine pZ (Pv:=λi O H4=>aD H H4/\(∃ys,H4 l=some (.lst ys)/\aJ K H4 ys ((i6 ns).take i))/\∃b v1 v2,RD K H4 b (vL ns i)/\O=[some v,some (.ref l),some b,v1,v2]) ?_ ?_ ?_
  ·exact⟨t3,⟨[],s3 _ _ (s2 _ _ n1.at'),cD⟩,u,none,none,RD.mono s3 _ ru,Z⟩
  ·rintro i O H4 hi ⟨t4,⟨ys,dl,ry⟩,b,v1,v2,rb,rfl⟩
   have Au:i<aL ns:=by lia
   refine⟨_,Z,_,Z,v,ns,sp,_,Z,RD.mono t4 _ rd,ok,hz,aq,λb2 H5 Ez s5=>?_⟩;refine⟨_,Z,.inl ⟨Z,_,aK.of (s5 _ _ dl)⟩,?_⟩;obtain⟨a1,xs1,rfl,h1,q1⟩:=Ez.bX;have e1:=q1.gT;subst e1;obtain⟨a0,xs0,rfl,h0,q0⟩:=(RD.mono s5 _ rb).bX;have e0:=q0.gT;subst e0;refine⟨_,Z,_,Z,a1,a0,Z,⟨_,h1⟩,⟨_,h0⟩,λD H6 nw=>?_⟩;refine uW (K:=K) (b1:=false) (b2:=false) (ds:=(fP ns i).map PyData.int) [] rfl h1 h0 nw (by simp[fP]) (by simpa[fP]using hz) (kI _) ?_ ?_
   ·intro j x y d H7 Q' ex ey ed s7 hq
    obtain⟨m,em,rfl⟩:=nZ ed;unfold fP at em;rw[bU]at em ex ey;rw[bU]at ex ey;cases en:ns[j]? with |none=>rw[en]at em;cases em |some n=>
     rw[en]at em ex ey;cases em;cases ex;cases ey;refine⟨_,Z,_,Z,_,_,Z,Z,?_⟩;have ee:(1:Int)+(i:Int)=(i:Int)+1:=by lia
     rw[ee];exact hq _ _ (aD.refl _) (df _)
   ·intro H7 zs s7 d7 r7
    refine⟨D,_,Z,.inl ⟨aK.of d7,λt H8 n8=>?_⟩⟩;have iU:=s5.trans (s7.trans n8.same);have PD:=iU _ _ dl;have len:=ry.length;rw[ko,zD]at len;refine⟨l,ys,_,Z,Z,PD,?_,?_⟩
    ·have:(1000:Nat)<sizeLine:=by decide
     lia
    refine⟨_,Z,?_⟩;have tt:dN H8 (L2.upd H8 l (.lst (ys++[.ref t]))):=.fM PD;refine⟨λb o e=>?_,⟨_,cF,?_⟩,_,_,_,?_,Z⟩
    ·rw[bL (cW e n1.no)];exact iU b o (t4 b o e)
    ·rw[tx,LZ Au]
     have nt:cE ((i6 ns).take i)=true:=dh.mpr λd hd=>dh.mp (LY ns) d (tD hd);exact(aJ.t tt _ nt (aJ.mono iU _ ry)).append (bV (RD.t tt _ (w6 _) (eY (aV.of n8.at') (aJ.mono n8.same _ r7))) cD)
    ·have ee:(1:Int)+(i:Int)=((i+1:Nat):Int):=by lia
     rw[ee]at Ez;exact RD.t tt _ (w6 _) (RD.mono (s7.trans n8.same) _ Ez)
  ·rintro O H4 ⟨t4,⟨ys,dl,ry⟩,b,v1,v2,rb,rfl⟩
   rw[e3,yJ (by rw[zD];exact bw _)]at ry;exact⟨_,Z,k l ys H4 n1.no dl ry t4⟩
def kl(K:a8)(H:Hp)(v:V):Option Rat->Prop |none=>v= .bR |some q=>bC K H v q
theorem kl.go{H H':Hp}{v:V}:∀{o:Option Rat},kl K H v o->aD H H'->kl K H' v o |none,h,_=>h |some _,h,s=>bC.go h s
theorem bC.tt{H H':Hp}{v:V}{q:Rat}(h:bC K H v q)(s:dN H H'):bC K H' v q:=by obtain⟨a,rfl,h⟩:=h;exact⟨a,Z,h.t s⟩
def sX(n:Nat):Option Rat->Prop |none=>True |some q=>Bd n q
def pH(r f:Int)(e b:Option Rat):List Rat:=(0::e.toList.map λq=>q+((-f:Int):Rat))++b.toList.map λq=>q+((-r:Int):Rat)
def pR(r f:Int)(bd:Rat)(e b:Option Rat):List Rat:=(bd::e.toList.map λq=>q+(r:Rat))++b.toList.map λq=>q+(f:Rat)
def kZ(r f:Int)(bd:Rat)(e b:Option Rat):Bool:=!((pH r f e b).any λl=>(pR r f bd e b).any λh=>decide (h<l))
theorem dS.tt{H H':Hp}(s:dN H H'):∀{vs:List V}{rs:List Rat},dS K H vs rs->dS K H' vs rs |[],[],_=>trivial |v::vs,q::rs,h=>⟨h.1.tt s,h.2.1,dS.tt s h.2.2⟩ |[],_::_,h=>h.elim |_::_,[],h=>h.elim
theorem dS.snoc{H:Hp}{v:V}{q:Rat}(hv:bC K H v q)(hb:Bd 2000 q):∀{vs:List V}{rs:List Rat},dS K H vs rs->dS K H (vs++[v]) (rs++[q]) |[],[],_=>⟨hv,hb,trivial⟩ |v::vs,q::rs,h=>⟨h.1,h.2.1,dS.snoc hv hb h.2.2⟩ |[],_::_,h=>h.elim |_::_,[],h=>h.elim
theorem QB{α:Type}(l:List α)(p:α->Bool)(g:Nat->Bool)(h:∀i x,l[i]? =some x->g i=p x):(List.range l.length).any g=l.any p:=by
 rw[qL,vy,vy];refine⟨λ⟨i,hi,e⟩=>?_,λ⟨x,hx,e⟩=>?_⟩
 ·have hi:=II.mp hi
  exact⟨l[i],tG hi,by rw[<-h i _ (bG hi)];exact e⟩
 ·obtain⟨i,hi⟩:=BI.mp hx
  exact⟨i,II.mpr (cL.mp hi).1,by rw[h i x hi];exact e⟩
inductive a6u(K:a8)(vs:List V)(H:Hp)(Q:VK):Prop |mk (m:_)(bv:_)(ev:_)(gv:_)(rs:_)(r:_)(f:_)(j:_)(t:_)(bd:_)(e:_)(b:_)(h0:vs=[m,bv,ev,gv])(h1:RD K H m (dQ rs r f j t))(h2:fc rs r f j t)(h3:bC K H bv bd)(h4:Bd 1900 bd)(h5:kl K H ev e)(h6:sX 1900 e)(h7:kl K H gv b)(h8:sX 1900 b)(h9:∀H',aD H H'->Q (.bl (kZ r f bd e b)) H')
def zw(K:a8):Sp:=λvs H Q _=>a6u K vs H Q
theorem LB:bF ["machine","bound","ended","begun","rise","fall","lows","highs"] ["machine","bound","ended","begun"] (bu DZ):=bP aP
theorem Xt(F:FA K mg "can_meet" DZ)(B:bK mg)(gN:GT K mg "NOUGHT" [.int 0,.int 1])(lF:aB P w K mg az "plus_whole" 4 (tW K))(oo:aB P w K mg az "is_less" 1 (kz K)):aB P w K mg az "can_meet" 5 (zw K):=by
 refine F.has LB (λvs H Q E h=>?_) (λ_ _ _ _ _ _=>sS λ_ _ _ _=>rfl) (λfa aO A outer s H vs Q E hr h=>?_)
 ·obtain⟨m,bv,ev,gv,rs,r,f,j,t,bd,e,b,rfl,_⟩:=h
  rfl
 ·obtain⟨m,bv,ev,gv,rs,r,f,j,t,bd,e,b,rfl,rm,aW,Rb,bb,Re,be,Rg,bg,k⟩:=h
  have nd:=LB.nd;obtain⟨aN,oz,p4⟩:=gN;refine⟨_,(aC (nM (i:=4) (j:=5) Z nd Z Z au Z Z (ak (px K (pv 0) aA) (ak (px K (pv 0) aA) aw)) Z) (aC (pS 6 nd (cK (ak (dg (x:="NOUGHT") Z oz) aw))) (aC (pS 7 nd (cK (ak (pv 1) aw))) (aC (mi (bA (bJ nS (pv 2) eQ (bo _)) (aC (gu (iz K Z (pv 6) (ak (pf lF hr (ak (pv 2) (ak (iX iQ (pv 5)) aw))) aw))) (aI (gu (iz K Z (pv 7) (ak (pf lF hr (ak (pv 2) (ak (pv 4) aw))) aw))))) bE)) (aC (mi (bA (bJ nS (pv 3) eQ (bo _)) (aC (gu (iz K Z (pv 6) (ak (pf lF hr (ak (pv 3) (ak (iX iQ (pv 4)) aw))) aw))) (aI (gu (iz K Z (pv 7) (ak (pf lF hr (ak (pv 3) (ak (pv 5) aw))) aw))))) bE)) (aI (aR (rf (dv (x:="any") (QC K Z Z) Z (B.at "any") RN (ak (VP (N:=["low","high","highs"]) (js:=[none,none,some 7]) rfl rfl rfl (qZ K rfl (pv 6)) (λ_ _ _ _ _=>(aZ 0 (show List.Nodup (["low","high","highs"]:List Str) by decide+kernel))) (λ_ _ _ _ _=>(qZ K rfl (pv 2))) (λ_ _ _ _ _=>(aZ 1 (show List.Nodup (["low","high","highs"]:List Str) by decide+kernel))) (λ_ _ _ _ _=>(pf oo hr (ak (pv 1) (ak (pv 0) aw))))) aw)))))))))),?_⟩;obtain⟨ma,mb,rfl,fZ,kK⟩:=l4 rm;have jQ:=aW.r1;have ka:=aW.f1;refine⟨_,Z,.inr ⟨ma,_,1,.int r,Z,Z,fZ,Z,_,Z,.inr ⟨ma,_,2,.int f,Z,Z,fZ,Z,_,_,Z,?_⟩⟩⟩;refine⟨bc Z,λl1 H1 n1=>?_⟩;refine⟨_,Z,bc Z,λl2 H2 n2=>?_⟩;have pJ:l1≠l2:=cW n1.at' n2.no;have MR:H l1=none:=n1.no;have MQ:H l2=none:=by cases e:H l2 with |none=>rfl |some o=>have:=n1.same _ _ e;rw[n2.no]at this;cases this
  have R0:∀H',bC K H' (.ref aN) 0:=λH'=>⟨aN,Z,p4 H'⟩;have b0:Bd 2000 (0:Rat):=⟨au,au⟩;have s2:=n1.same.trans n2.same;have ap:∀{H3:Hp}{l:Addr}{xs:List V}{v:V},H l=none->aD H H3->aD H (L2.upd H3 l (.lst (xs++[v]))):=λ{H3 l xs v} hn s3=>λq o eq=>by rw[bL (cW eq hn)];exact s3 _ _ eq
  refine⟨λO H3=>aD H H3/\∃xs ys,H3 l1=some (.lst xs)/\H3 l2=some (.lst ys)/\dS K H3 xs (0::e.toList.map λq=>q+((-f:Int):Rat))/\dS K H3 ys (bd::e.toList.map λq=>q+(r:Rat))/\O=[some (.ref ma),some bv,some ev,some gv,some (.int r),some (.int f),some (.ref l1),some (.ref l2)],?_,?_⟩
  ·refine⟨_,Z,Z,_,Z,?_⟩
   have V1:dS K H2 [.ref aN] [0]:=⟨R0 _,b0,trivial⟩;have V2:dS K H2 [bv] [bd]:=⟨Rb.go s2,bb.mono au,trivial⟩;cases e with |none=>have e0:ev= .bR:=Re;subst e0;exact aQ ⟨s2,_,_,n2.same _ _ n1.at',n2.at',V1,V2,Z⟩ |some q=>
    have Re:bC K H ev q:=Re;have be:Bd 1900 q:=be;obtain⟨ae,e0,he⟩:=id Re;subst e0;refine aU ?_;have d1:=n2.same _ _ n1.at';refine⟨_,Z,.inl ⟨Z,_,aK.of d1⟩,?_⟩;refine⟨_,Z,_,Z,_,Z,.ref ae,q,_,Z,Re.go s2,be.mono au,(by rw[gQ];lia),λu1 H3 iW s3=>?_⟩;have xS:=s3 _ _ d1;refine⟨l1,_,u1,Z,Z,xS,bc Z,?_⟩;have t3:dN H3 (L2.upd H3 l1 (.lst ([.ref aN]++[u1]))):=.fM xS;have zB:=s2.trans s3;have DM:=ap (l:=l1) (xs:=[.ref aN]) (v:=u1) MR zB;have d2:(L2.upd H3 l1 (.lst ([.ref aN]++[u1]))) l2=some (.lst [bv]):=by rw[bL pJ.symm];exact s3 _ _ n2.at'
    have xR:(L2.upd H3 l1 (.lst ([.ref aN]++[u1]))) l1=some (.lst ([.ref aN]++[u1])):=cF;have yc:dS K (L2.upd H3 l1 (.lst ([.ref aN]++[u1]))) ([.ref aN]++[u1]) ([0]++[q+((-f:Int):Rat)]):=(dS.snoc iW ((iK be (by rw[gQ];lia)).mono au) (V1.go s3)).tt t3;have yb:=(V2.go s3).tt t3;have QM:=Re.go DM;generalize L2.upd H3 l1 (.lst ([.ref aN]++[u1]))=H4 at DM d2 xR yc yb QM⊢;refine⟨_,Z,.inl ⟨Z,_,aK.of d2⟩,?_⟩;refine⟨_,Z,_,Z,.ref ae,q,_,Z,QM,be.mono au,(by rw[gQ];lia),λu2 H5 nI s5=>?_⟩;have uV:=s5 _ _ d2;refine⟨l2,_,u2,Z,Z,uV,bc Z,?_⟩;have t5:dN H5 (L2.upd H5 l2 (.lst ([bv]++[u2]))):=.fM uV;exact⟨ap (l:=l2) MQ (DM.trans s5),_,_,(bL pJ).trans (s5 _ _ xR),cF,(yc.go s5).tt t5,(dS.snoc nI ((iK be (by rw[gQ];lia)).mono au) (yb.go s5)).tt t5,Z⟩
  rintro O H3 ⟨s3,xs,ys,d1,d2,V1,V2,rfl⟩;have lx:=V1.length;have ly:=V2.length;have le:e.toList.length<=1:=by cases e<;>simp
  have wW:xs.length<=2:=by rw[lx,nq,bB];lia
  have Af:ys.length<=2:=by rw[ly,nq,bB];lia
  refine⟨λO H4=>aD H H4/\∃xs ys,H4 l1=some (.lst xs)/\H4 l2=some (.lst ys)/\dS K H4 xs (pH r f e b)/\dS K H4 ys (pR r f bd e b)/\O=[some (.ref ma),some bv,some ev,some gv,some (.int r),some (.int f),some (.ref l1),some (.ref l2)],?_,?_⟩
  ·refine⟨_,Z,Z,_,Z,?_⟩
   cases b with |none=>have e0:gv= .bR:=Rg;subst e0;exact aQ ⟨s3,_,_,d1,d2,by unfold pH;simpa using V1,by unfold pR;simpa using V2,Z⟩ |some q=>
    have Rg:bC K H gv q:=Rg;have bg:Bd 1900 q:=bg;obtain⟨ae,e0,he⟩:=id Rg;subst e0;refine aU ?_;refine⟨_,Z,.inl ⟨Z,_,aK.of d1⟩,?_⟩;refine⟨_,Z,_,Z,_,Z,.ref ae,q,_,Z,Rg.go s3,bg.mono au,(by rw[gQ];lia),λu1 H4 iW s4=>?_⟩;have xS:=s4 _ _ d1;refine⟨l1,_,u1,Z,Z,xS,tX _ aq,?_⟩;have t4:dN H4 (L2.upd H4 l1 (.lst (xs++[u1]))):=.fM xS;have Ux:=s3.trans s4;have DL:=ap (l:=l1) (xs:=xs) (v:=u1) MR Ux;have uV:(L2.upd H4 l1 (.lst (xs++[u1]))) l2=some (.lst ys):=by rw[bL pJ.symm];exact s4 _ _ d2
    have xR:(L2.upd H4 l1 (.lst (xs++[u1]))) l1=some (.lst (xs++[u1])):=cF;have yc:=(dS.snoc iW ((iK bg (by rw[gQ];lia)).mono au) (V1.go s4)).tt t4;have yb:=(V2.go s4).tt t4;have QK:=Rg.go DL;generalize L2.upd H4 l1 (.lst (xs++[u1]))=H5 at DL uV xR yc yb QK⊢;refine⟨_,Z,.inl ⟨Z,_,aK.of uV⟩,?_⟩;refine⟨_,Z,_,Z,.ref ae,q,_,Z,QK,bg.mono au,(by rw[gQ];lia),λu2 H6 nI s6=>?_⟩;have PU:=s6 _ _ uV;refine⟨l2,_,u2,Z,Z,PU,tX _ aq,?_⟩;have t6:dN H6 (L2.upd H6 l2 (.lst (ys++[u2]))):=.fM PU;exact⟨ap (l:=l2) MQ (DL.trans s6),_,_,(bL pJ).trans (s6 _ _ xR),cF,(yc.go s6).tt t6,(dS.snoc nI ((iK bg (by rw[gQ];lia)).mono au) (yb.go s6)).tt t6,Z⟩
  rintro O H4 ⟨s4,xs,ys,d1,d2,V1,V2,rfl⟩;have lx:=V1.length;have ly:=V2.length;have lb:b.toList.length<=1:=by cases b<;>simp
  have wW:xs.length<=3:=by rw[lx];unfold pH;rw[cB,nq,bB,bB];lia
  have Af:ys.length<=3:=by rw[ly];unfold pR;rw[cB,nq,bB,bB];lia
  refine⟨_,Z,l1,Z,⟨_,aK.of d1⟩,λD H5 n5=>?_⟩;refine a3X (K:=K) (b:=λi j=>((pR r f bd e b)[j]?.bind λh=>(pH r f e b)[i]?.map λl=>decide (h<l)).getD false) _ (aK.of d1) (aK.of d2) n5 (eL (nk wW Af) au) ?_ ?_ ?_
  ·intro x v H6 R s6 hR
   exact⟨_,Z,l2,Z,⟨_,aK.of (s6 _ _ d2)⟩,hR⟩
  ·intro i j' x y H6 Q' ex ey s6 hq
   obtain⟨l,el,Rl,bl⟩:=V1.get ex;obtain⟨h,eh,Rh,bh⟩:=V2.get ey;have hq:=hq H6 (aD.refl _);rw[el,eh]at hq;exact⟨_,Z,_,Z,y,x,h,l,Z,Rh.go s6,Rl.go s6,bh,bl,hq⟩
  ·intro H6 s6 d6
   refine⟨D,_,Z,aK.of d6,?_⟩;have ea:(((List.range xs.length).flatMap λi=>(List.range ys.length).map λj=>((pR r f bd e b)[j]?.bind λh=>(pH r f e b)[i]?.map λl=>decide (h<l)).getD false)).any id=(pH r f e b).any λl=>(pR r f bd e b).any λh=>decide (h<l):=by rw[a4Q,lx,ly];refine QB _ _ _ λi l el=>QB _ _ _ λj' h eh=>?_;rw[el,eh];rfl
   rw[ea];exact⟨_,Z,k H6 (s4.trans s6)⟩
def Jy(fO:List Int)(t:Int)(q:Rat):ah:=.tuple [.str "step",.tuple (fO.map PyData.int),.int t,bM q]
theorem TV{H:Hp}{v:V}{zs:List Int}{t:Int}{q:Rat}(h:RD K H v (Jy zs t q)):∃a b c,v= .ref a/\aV K H a [.str "step",.ref b,.int t,c]/\aV K H b (zs.map V.int)/\bC K H c q:=by obtain⟨a,xs,rfl,hx,hd⟩:=h.bX;obtain⟨u1,ys,rfl,r1,hd⟩:=hd.cons_inv;obtain⟨u2,ys,rfl,r2,hd⟩:=hd.cons_inv;obtain⟨u3,ys,rfl,r3,hd⟩:=hd.cons_inv;obtain⟨u4,ys,rfl,r4,hd⟩:=hd.cons_inv;cases hd.nil_inv;cases r1.str_inv;cases r3.int_inv;obtain⟨b,bs,rfl,hb,hbs⟩:=r2.bX;rw[hbs.gT]at hb;obtain⟨c,cs,rfl,hc,kM⟩:=r4.bX;obtain⟨c1,cr,rfl,e1,kM⟩:=kM.cons_inv;obtain⟨c2,cr,rfl,e2,kM⟩:=kM.cons_inv;cases kM.nil_inv;cases e1.int_inv;cases e2.int_inv;exact⟨a,b,_,Z,hx,hb,c,Z,hc⟩
theorem Kj:bF ["machine","t","square"] ["machine","t","square"] (bu CQ):=bP aP
theorem Kt:bF ["row","entry"] ["row","entry"] (bu D3):=bP aP
def g9(zs:List Int)(top:Rat):ah:=.tuple [.str "step",.tuple (zs.map PyData.int),bM top]
theorem Ls:bF ["machine","expected","entry","word","row","top"] ["machine","expected","entry"] (bu DS):=bP aP
theorem Ku:bF ["entry"] ["entry"] (bu D5):=bP aP
inductive a6l(K:a8)(vs:List V)(H:Hp)(Q:VK):Prop |mk (m:_)(iv:_)(l:_)(ys:_)(rs:_)(r:_)(f:_)(j:_)(t:_)(ds:_)(os:_)(g:_)(h0:vs=[m,iv,.ref l])(h1:RD K H m (dQ rs r f j t))(h2:fc rs r f j t)(h3:RD K H iv (.tuple ds))(h4:cH rs.length ds os)(h5:ds.length<=30)(h6:H l=some (.lst ys))(h7:aJ K H ys ((lst os.length g).map bM))(h8:(∀i,i<=os.length->Bd 900 (g i)))(h9:∀l ys H',H l=none->H' l=some (.lst ys)->aJ K H' ys ((lst os.length (fl os.length (leadF os) (2*f) g)).map bM)->aD H H'->Q (.ref l) H')
def JZ(K:a8):Sp:=λvs H Q _=>a6l K vs H Q
theorem Lr:bF ["machine","items","squares","fall","kept","i"] ["machine","items","squares"] (bu DR):=bP aP
theorem Xm(F:FA K mg "kept_by_fall" DR)(B:bK mg)(kL:aB P w K mg az "is_line" 1 (p5 K))(jY:aB P w K mg az "lead_of" 1 (jq K))(lF:aB P w K mg az "plus_whole" 4 (tW K))(rV:aB P w K mg az "least" 2 (me K)):aB P w K mg az "kept_by_fall" 5 (JZ K):=by
 refine F.has Lr (λvs H Q E h=>?_) (λ_ _ _ _ _ _=>iJ λ_ _ _=>rfl) (λfa aO A outer s H vs Q E hr h=>?_)
 · obtain⟨m,iv,l,ys,rs,r,f,j,t,ds,os,g,rfl,_⟩:=h
   rfl
 · obtain⟨m,iv,l,ys,rs,r,f,j,t,ds,os,g,rfl,rm,aW,ri,row,hz,dl,fE,bg,k⟩:=h
   have nd:=Lr.nd;refine⟨_,(aC (pS 3 nd (px K (pv 0) aA)) (aC (pS 4 nd (fh (x:="list") (rH K Z) Z (B.at "list") kR (ak (pv 2) aw))) (aC (fR f7 Z (VF Z (B.at "reversed") (ak (fh (x:="range") a4g rfl (B.at "range") PyProof.Rows.boot_range (ak (dF K B (ak (pv 1) aw)) aw)) aw)) (aZ 5 nd) (aI (bA (ck (pf kL hr (ak (px K (pv 1) (pv 5)) aw))) (aI (eB (pf rV hr (ak (cK (ak (px K (pv 4) (pv 5)) (ak (pf lF hr (ak (px K (pv 4) (aG bZ (pv 5) aA)) (ak (aG bO (aG bO aA (pv 3)) (pf jY hr (ak (px K (pv 1) (pv 5)) aw))) aw))) aw))) aw)) (pk (pv 4) (pv 5) set_list))) bE))) (aI (aR (pv 4)))))),?_⟩;obtain⟨ma,mb,rfl,fZ,kK⟩:=l4 rm;obtain⟨ia,xs,rfl,hi,cT⟩:=ri.bX;have lx:=cT.length;have ll:=row.len;have lr:=aW.len;have hL:∀i m,leadF os i=some m->(2*f*(m:Int)).natAbs<2^24:=λi m e=>vA aW.f1.1 aW.f1.2 (wQ row.pq e);have FB:∀i,i<=os.length->Bd 1700 (fl os.length (leadF os) (2*f) g i):=λi hi=>(OP bg hL i hi).mono aq;refine⟨_,Z,.inr ⟨ma,_,2,.int f,Z,Z,fZ,Z,?_⟩⟩;refine⟨_,Z,l,ys,Z,.inl (aK.of dl),λD H1 n1=>?_⟩;refine⟨_,Z,ia,_,Z,.inr (hi.go n1.same),_,Z,λpr H2 n2=>?_⟩;refine⟨pr,_,Z,n2.at',aq,aq,?_⟩;have eN:((xs.length:Int)).toNat=os.length:=by lia
   rw[eN];refine a1Q (Pv:=λi O H5=>aD H H5/\∃zs v1,H5 D=some (.lst zs)/\aJ K H5 zs ((lst os.length λk=>if os.length<=k+i then fl os.length (leadF os) (2*f) g k else g k).map bM)/\O=[some (.ref ma),some (.ref ia),some (.ref l),some (.int f),some (.ref D),v1]) ?_ ?_ ?_
   · refine⟨n1.same.trans n2.same,ys,none,n2.same _ _ n1.at',?_,Z⟩
     rw[uu (g:=λk=>if os.length<=k+0 then fl os.length (leadF os) (2*f) g k else g k) (g':=g)]
     ·exact aJ.mono (n1.same.trans n2.same) _ fE
     · intro k hk
       show g k=if os.length<=k+0 then _ else g k;split
       · next h => have:k=os.length:=by lia
                   subst this;exact GC.symm
       ·rfl
   · rintro i O H3 oq ⟨s3,zs,v1,dz,rz,rfl⟩
     obtain⟨x,hx⟩:∃x,xs[os.length-1-i]? =some x:=⟨_,bG (show os.length-1-i<xs.length by lia)⟩;generalize hc:os.length-1-i=c at hx;have rZ:c<os.length:=by lia
     have eI:((os.length:Int)-1-(i:Int))=(c:Int):=by lia
     rw[eI];obtain⟨d,ed,rd⟩:=cT.get' c hx;obtain⟨o,eo,it⟩:=row.get ed;have lz:=rz.length;rw[bB,pG]at lz;have Qx:dk xs (c:Int)=some x:=cQ aq (by simpa using hx);refine⟨_,Z,_,Z,.inr ⟨ia,_,_,_,Z,Z,hi.go s3,Qx,?_⟩⟩;refine⟨x,d,o,Z,RD.mono s3 _ rd,it,_,Z,?_⟩;cases o with
     |none=>
       refine aQ ?_;refine⟨s3,zs,_,dz,?_,Z⟩;rw[uu (g:=λk=>if os.length<=k+(i+1)then fl os.length (leadF os) (2*f) g k else g k) (g':=λk=>if os.length<=k+i then fl os.length (leadF os) (2*f) g k else g k)]
       ·exact rz
       · intro k _
         show(if os.length<=k+i then _ else g k)=if os.length<=k+(i+1)then _ else g k;by_cases h1:os.length<=k+i
         ·rw[aX h1,aX aq]
         · rw[bf h1]
           by_cases h2:k=c
           ·subst h2;rw[aX aq,GB rZ (Nz eo)]
           ·rw[bf aq] |some q=>
       obtain⟨ns,sp⟩:=q;refine aU ?_;have kf:=jV it;subst kf;obtain⟨cx,_,_⟩:=row.ok c ns sp eo;obtain⟨z1,qc⟩:∃z,zs[c+1]? =some z:=⟨_,bG (show c+1<zs.length by lia)⟩;obtain⟨z0,jD⟩:∃z,zs[c]? =some z:=⟨_,bG (show c<zs.length by lia)⟩;have R1:bC K H3 z1 (fl os.length (leadF os) (2*f) g (c+1)):=by
        obtain⟨d1,e1,r1⟩:=rz.get' (c+1) qc;rw[bU,o5 _ (show c+1<=os.length by lia)]at e1;cases e1;have:os.length<=c+1+i:=by lia
        simp only[aX this]at r1;exact fQ r1
       have R0:bC K H3 z0 (g c):=by
        obtain⟨d1,e1,r1⟩:=rz.get' c jD;rw[bU,o5 _ (show c<=os.length by lia)]at e1;cases e1;have:¬os.length<=c+i:=by lia
        simp only[bf this]at r1;exact fQ r1
       have qj:((c:Int)+1).toNat=c+1:=by lia
       have mX:dk zs ((c:Int)+1)=some z1:=cQ aq (by rw[qj];exact qc);have jH:dk zs (c:Int)=some z0:=cQ aq (by simpa using jD);refine⟨_,Z,_,Z,.inl ⟨D,_,_,_,Z,Z,aK.of dz,jH,?_⟩⟩;refine⟨_,Z,_,Z,_,_,Z,Z,.inl ⟨D,_,_,_,Z,Z,aK.of dz,mX,?_⟩⟩;refine⟨_,Z,_,_,Z,Z,.of_left (cm au au),?_⟩;refine⟨_,Z,_,Z,.inr ⟨ia,_,_,_,Z,Z,hi.go s3,Qx,?_⟩⟩;refine⟨x,ns,sp,Z,RD.mono s3 _ rd,cx.ne,by rw[cx.len];lia,λH4 s4=>?_⟩;have ka:=aW.f1;refine⟨_,_,Z,Z,.of_left (cm aq aq),?_⟩;have us:=hL c _ (Aa eo);refine⟨z1,_,_,Z,R1.go s4,(FB (c+1) aq).mono au,us,λu H5 ru s5=>?_⟩;refine⟨bc Z,λl2 H6 n6=>?_⟩;have kC:=s4.trans (s5.trans n6.same);have QH:=R0.go kC;have Ru:=ru.go n6.same;have B1:Bd 2000 (g c):=(bg _ aq).mono au;have B2:Bd 2000 (fl os.length (leadF os) (2*f) g (c+1)+((2*f*(aL ns:Int):Int):Rat)):=(iK (FB (c+1) aq) us).mono au;refine⟨l2,[z0,u],[_,_],Z,aK.of n6.at',⟨QH,B1,Ru,B2,trivial⟩,by simp,λc' v q e1 e2 hq=>?_⟩;have lA:mn (g c) (fl os.length (leadF os) (2*f) g (c+1)+((2*f*(aL ns:Int):Int):Rat))=q:=by
        refine pF ?_ (hq _ (by simp)) (hq _ (by simp))
        match c',e2 with |0,e2=>cases e2;exact .inl rfl |1,e2=>cases e2;exact .inr rfl
       have Rv:bC K H6 v q:=by match c',e1,e2 with |0,e1,e2=>cases e1;cases e2;exact QH |1,e1,e2=>cases e1;cases e2;exact Ru
       have ql:=kC _ _ dz;have YZ:gH zs.length (c:Int)=some c:=by unfold gH;rw[aX aq,aX aq];simp
       refine⟨_,Z,_,Z,D,zs,_,_,Z,Z,ql,YZ,?_⟩;refine⟨λb o e=>?_,_,_,cF,?_,Z⟩
       ·rw[bL (cW e n1.no)];exact kC b o (s3 b o e)
       · have h:=aJ.zx (i:=c) ql (aJ.mono kC _ rz) Rv.rd (mq _) (kF _)
         rw[<-vt]at h;have e:(lst os.length λk=>if os.length<=k+i then fl os.length (leadF os) (2*f) g k else g k).set c q=lst os.length λk=>if os.length<=k+(i+1)then fl os.length (leadF os) (2*f) g k else g k:=by
          rw[<-Ng (g:=λk=>if os.length<=k+i then fl os.length (leadF os) (2*f) g k else g k) (g':=λk=>if os.length<=k+(i+1)then fl os.length (leadF os) (2*f) g k else g k) (i:=c)]
          · have:os.length<=c+(i+1):=by lia
            simp only[aX this];rw[GD rZ (Aa eo),lA]
          · intro k _ hk
            show(if os.length<=k+(i+1)then _ else g k)=if os.length<=k+i then _ else g k;by_cases h1:os.length<=k+i
            ·rw[aX h1,aX aq]
            ·rw[bf h1,bf aq]
         rw[e]at h;exact h
   · rintro O H3 ⟨s3,zs,v1,dz,rz,rfl⟩
     rw[uu (g:=λk=>if os.length<=k+os.length then fl os.length (leadF os) (2*f) g k else g k) (g':=fl os.length (leadF os) (2*f) g) (λk hk=>by show _=if os.length<=k+os.length then _ else _;rw[aX aq])]at rz;exact⟨_,Z,k D zs H3 n1.no dz rz s3⟩
def jv(r f j rate:Int)(os:List Itm):Nat->Rat:=uf os.length (ownF j rate os) (leadF os) (2*r) (2*f)
def ER(r f j rate:Int)(os:List Itm):List Rat:=lst os.length (jv r f j rate os)
theorem VA(r f j rate:Int)(os:List Itm):(ER r f j rate os).length=os.length+1:=pG _ _
inductive a5V(K:a8)(vs:List V)(H:Hp)(Q:VK):Prop |mk (m:_)(iv:_)(rate:_)(rs:_)(r:_)(f:_)(j:_)(t:_)(ds:_)(os:_)(h0:vs=[m,iv,.int rate])(h1:RD K H m (dQ rs r f j t))(h2:fc rs r f j t)(h3:RD K H iv (.tuple ds))(h4:cH rs.length ds os)(h5:ds.length<=30)(h6:10<=rate)(h7:rate<=200)(h8:∀l ys H',H l=none->H' l=some (.lst ys)->aJ K H' ys ((ER r f j rate os).map bM)->aD H H'->Q (.ref l) H')
def Cj(K:a8):Sp:=λvs H Q _=>a5V K vs H Q
theorem KA:bF ["machine","items","rate","risen"] ["machine","items","rate"] (bu De):=bP aP
theorem WM(F:FA K mg "plan_of" De)(B:bK mg)(G0:aB P w K mg az "own_bounds" 8 (zq K))(ZZ:aB P w K mg az "kept_by_rise" 5 (JT K))(a00:aB P w K mg az "kept_by_fall" 5 (JZ K)):aB P w K mg az "plan_of" 9 (Cj K):=by
 refine F.has KA (λvs H Q E h=>?_) (λ_ _ _ _ _ _=>iJ λ_ _ _=>rfl) (λfa aO A outer s H vs Q E hr h=>?_)
 ·obtain⟨m,iv,rate,rs,r,f,j,t,ds,os,rfl,_⟩:=h
  rfl
 ·obtain⟨m,iv,rate,rs,r,f,j,t,ds,os,rfl,rm,aW,ri,row,hz,cf,cj,k⟩:=h
  have nd:=KA.nd;refine⟨_,(aC (pS 3 nd (pf ZZ hr (ak (pv 0) (ak (pv 1) (ak (pf G0 hr (ak (pv 0) (ak (pv 1) (ak (pv 2) aw)))) aw))))) (aI (aR (pf a00 hr (ak (pv 0) (ak (pv 1) (ak (pv 3) aw))))))),?_⟩;have ll:=row.len;have hB:=Ow.EX aW.j1.1 aW.j1.2 cf cj row.pq;have hL:∀i m,leadF os i=some m->(2*r*(m:Int)).natAbs<2^24:=λi m e=>vA aW.r1.1 aW.r1.2 (wQ row.pq e);refine⟨_,Z,_,Z,_,Z,_,Z,_,Z,m,iv,rate,rs,r,f,j,t,ds,os,Z,rm,aW,ri,row,aH,cf,cj,λl1 y1 H1 MT d1 r1 s1=>?_⟩;refine⟨m,iv,l1,y1,rs,r,f,j,t,ds,os,ownF j rate os,Z,RD.mono s1 _ rm,aW,RD.mono s1 _ ri,row,hz,d1,r1,hB,λl2 y2 H2 XZ d2 r2 s2=>?_⟩;have fN:=s1.trans s2;refine⟨_,Z,_,Z,_,Z,m,iv,l2,y2,rs,r,f,j,t,ds,os,_,Z,RD.mono fN _ rm,aW,RD.mono fN _ ri,row,hz,d2,r2,λi hi=>(Bj hB hL i).mono aH,λl3 y3 H3 zP d3 r3 s3=>?_⟩;have nl:H l3=none:=by cases e:H l3 with |none=>rfl |some o=>have:=fN _ _ e;rw[zP]at this;cases this
  exact k l3 y3 H3 nl d3 r3 (fN.trans s3)
def RowW(ds:List ah)(os:List Itm):Prop:=∀(i:Nat)(d:ah),os[i]? =some none->ds[i]? =some d->gA d
theorem RowW.snoc{ds:List ah}{os:List Itm}{d:ah}{o:Itm}(h:RowW ds os)(hl:ds.length=os.length)(hd:o=none->gA d):RowW (ds++[d]) (os++[o]):=by
 intro i x e1 e2;rcases p8 e1 with h1|⟨h1,h1'⟩
 ·rcases p8 e2 with h2|⟨h2,_⟩
  ·exact h i x h1 h2
  ·have:=(cL.mp h1).1;lia
 ·rcases p8 e2 with h2|⟨_,h2'⟩
  ·have:=(cL.mp h2).1;lia
  ·subst h2';exact hd h1'.symm
def sW(rs pl:List Int)(os:List Itm):Prop:=∀i,i<=os.length->lV rs ((os.take i).foldl Bc pl)
theorem sW.nil{rs pl:List Int}(h:lV rs pl):sW rs pl []:=λi hi=>by simpa using h
theorem sW.snoc{rs pl:List Int}{os:List Itm}{o:Itm}(h:sW rs pl os)(g:lV rs (Bc (os.foldl Bc pl) o)):sW rs pl (os++[o]):=λi hi=>by
 rw[cB]at hi;by_cases c:i<=os.length
 ·rw[List.take_append_of_le_length c];exact h i c
 ·have e:i=(os++[o]).length:=by rw[cB];have:[o].length=1:=rfl;lia
  rw[e,BH,RU];exact g
inductive a6e(K:a8)(vs:List V)(H:Hp)(Q:VK):Prop |mk (p:_)(m:_)(rs:_)(r:_)(f:_)(j:_)(t:_)(jt:_)(pl:_)(many:_)(most:_)(h0:vs=[.ref p,m,jt,.int many,.int most])(h1:fA H p)(h2:RD K H m (dQ rs r f j t))(h3:fc rs r f j t)(h4:RD K H jt (pj pl))(h5:lV rs pl)(h6:1<=many)(h7:many<=20)(h8:1<=most)(h9:most<=100)(sk:∀v ds os H',RD K H' v (.tuple ds)->cH rs.length ds os->RowW ds os->(ds.length:Int)<=many/\sW rs pl os->aM p H H'->Q v H')
def Cu(K:a8):Sp:=λvs H Q _=>a6e K vs H Q
theorem Le:bF ["_law_bag_here","_law_machine_here","_law_place_here","_law_many","_law_most","_law_items_here","_law_straight","_law_turn"] ["_law_bag_here","_law_machine_here","_law_place_here","_law_many","_law_most"] (bu DC):=bP aP
theorem Xb(F:FA K mg "_law_items" DC)(B:bK mg)(cu:aB P w K mg az "_law_take" 1 jN)(a1g:aB P w K mg az "_law_other" 2 (JV K))(a1k:aB P w K mg az "_law_line" 2 (Cr K)):aB P w K mg az "_law_items" 3 (Cu K):=by
 refine F.has Le (λvs H Q E h=>?_) (λ_ _ _ _ _ _=>HF λ_ _ _ _ _=>rfl) (λfa aO A outer s H vs Q E hr h=>?_)
 ·obtain⟨p,m,rs,r,f,j,t,jt,pl,many,most,rfl,_⟩:=h
  rfl
 ·obtain⟨p,m,rs,r,f,j,t,jt,pl,many,most,rfl,bg,rm,aW,u7,on,my1,my2,N8,N7,k⟩:=h
  have nd:=Le.nd;refine⟨_,(aC (pS 5 nd (cK aw)) (aC (pS 6 nd (pf cu hr (ak (pv 0) (ak aA aw)))) (aC (fR f7 Z (nQ Z (B.at "range") (ak (pf cu hr (ak (pv 0) (ak (aG bZ (pv 3) aA) aw))) aw)) (aZ 7 nd) (aI (bA (bJ (cC K Z hr.units) (pf cu hr (ak (pv 0) (ak (aG bZ aA (aG bO aA (fh (x:="int") uY Z (B.at "int") qH (ak (fF (cC K rfl hr.units) (pv 6) aA (bo _)) aw)))) aw))) aA (bo _)) (aI (gu (iz K Z (pv 5) (ak (pf a1g hr (ak (pv 0) aw)) aw)))) (aC (gu (iz K Z (pv 5) (ak (pf a1k hr (ak (pv 0) (ak (pv 1) (ak (pv 2) (ak (pv 4) aw))))) aw))) (aI (pS 2 nd (fh (x:="tuple") (m7 K Z) Z (B.at "tuple") gC (ak (gj (N:=["_law_stand_here","_law_step"]) (js:=[none,none]) rfl rfl rfl (nP K rfl false false rfl (B.at "zip") (ak (pv 2) (ak (px K (px K (pv 5) (iX iQ aA)) aA) aw))) (λ_ _ _ _ _=>(cV K rfl (n:=2) rfl (bN (aZ 0 (iC au)) (bN (aZ 1 (iC au)) cU)))) (λ_ _ _ _ _=>fy) (λ_ _ _ _ _=>(aG bZ (pv 0) (pv 1)))) aw)))))))) (aI (aR (fh (x:="tuple") (m7 K Z) Z (B.at "tuple") gC (ak (pv 5) aw))))))),?_⟩;have lr:=aW.len;have nm:=wL rs r f j t;refine⟨bc Z,λl H1 n1=>?_⟩;have b1:aM p H H1:=.bD bg n1.same;have lp:l≠p:=λz=>bg.ne (z▸n1.no);refine⟨_,Z,p,3,Z,b1.aE,au,au,λst H2 st0 C4 b2=>?_⟩;refine⟨_,Z,_,Z,_,_,Z,Z,p,many+1,Z,b2.aE,aH,aH,λcnt H3 c0 c1 b3=>?_⟩;have jG:=b1.trans (b2.trans b3);refine⟨_,Z,aH,aH,?_⟩;refine pZ (Pv:=λi O H4=>aM p H H4/\∃zs es qs jt nN v1,(qs.foldl Bc pl=nN/\sW rs pl qs)/\H4 l=some (.lst zs)/\aJ K H4 zs es/\cH rs.length es qs/\RowW es qs/\es.length<=i/\RD K H4 jt (pj nN)/\lV rs nN/\O=[some (.ref p),some m,some jt,some (.int many),some (.int most),some (.ref l),some (.int st),v1]) ?_ ?_ ?_
  ·exact⟨jG,[],[],[],jt,pl,none,⟨Z,.nil on⟩,(b2.trans b3).same _ _ lp n1.at',cD,cH.nil,(λi d e=>by simp at e),bw _,RD.t (aM.t bg jG) _ (ug _) u7,on,Z⟩
  ·rintro i O H4 Ga ⟨b4,zs,es,qs,jt,nN,v1,⟨xM,w4⟩,dl,rz,row,fO,hl,u7,on,rfl⟩
   have lz:=rz.length;refine⟨_,Z,_,Z,.inl ⟨_,_,Z,Z,.inr ⟨_,Z,?_⟩⟩⟩;refine⟨_,_,Z,Z,.of_left (cm au au),_,_,Z,Z,?_⟩;refine⟨p,_,Z,b4.aE,(by split<;>omega),(by split<;>omega),λg H5 g0 g1 b5=>?_⟩;have Hy:=b4.trans b5;have AW:=b5.same _ _ lp dl;have t5:=aM.t b4.aE b5;have LV:=aJ.t t5 _ row.no rz;have Ek:=RD.t t5 _ (ug _) u7;refine .inl ⟨_,_,Z,Z,_,Z,?_⟩;refine dM (λhc=>?_) (λhc=>?_)
   ·refine⟨_,Z,.inl ⟨Z,_,aK.of AW⟩,?_⟩
    refine⟨_,Z,p,Z,b5.aE,λov d H6 ro ot b6=>?_⟩;have it:=ot.it;have sJ:=b6.same _ _ lp AW;have t6:=aM.t b5.aE b6;refine⟨l,zs,_,Z,Z,sJ,tX _ aH,?_⟩;have tu:dN H6 (L2.upd H6 l (.lst (zs++[ov]))):=.fM sJ;refine⟨(Hy.trans b6).putL lp n1.no,_,_,_,_,nN,_,⟨by rw[RU,xM];rfl,w4.snoc (by rw[xM];exact on)⟩,cF,aJ.qS sJ (aJ.t t6 _ row.no LV) ro row.no it.no,row.snoc it (λwC vR e=>nomatch e),fO.snoc row.len (λ_=>ot),?_,RD.t (t6.trans tu) _ (ug _) Ek,on,rfl⟩;rw[cB];show es.length+1<=i+1;omega
   ·refine⟨_,Z,.inl ⟨Z,_,aK.of AW⟩,?_⟩
    have El:=RD.t (aM.t bg Hy) _ nm rm;refine⟨_,Z,_,Z,_,Z,_,Z,p,m,rs,r,f,j,t,jt,nN,most,Z,b5.aE,El,aW,Ek,on,N8,N7,λlv ns sp H6 rl cx de dA zL b6=>?_⟩;have sJ:=b6.same _ _ lp AW;have t6:=aM.t b5.aE b6;refine⟨l,zs,_,Z,Z,sJ,tX _ aH,?_⟩;have tu:dN H6 (L2.upd H6 l (.lst (zs++[lv]))):=.fM sJ;have b7:aM p H (L2.upd H6 l (.lst (zs++[lv]))):=(Hy.trans b6).putL lp n1.no;have LU:=aJ.qS sJ (aJ.t t6 _ row.no LV) rl row.no (FD _ _);have LX:=RD.t (t6.trans tu) _ (ug _) Ek;have M4:=RD.t tu _ (FD _ _) rl;have Hg:(L2.upd H6 l (.lst (zs++[lv]))) l=some (.lst (zs++[lv])):=cF;generalize L2.upd H6 l (.lst (zs++[lv]))=H7 at b7 LU LX M4 Hg⊢;have UN:cH rs.length (es++[fW ns sp]) (qs++[some (ns,sp)]):=row.snoc (.inl ⟨_,_,Z,Z⟩) λwC vR e=>by cases e;exact⟨cx,de,dA⟩
    obtain⟨pa,rfl,O0⟩:=Mr LX;obtain⟨la,lb,rfl,ZV,O7⟩:=lg M4;have lpl:=on.len;refine⟨_,Z,_,Z,_,Z,.inl ⟨l,_,_,.ref la,Z,Z,aK.of Hg,HD (by simp),.inr ⟨la,_,1,.ref lb,Z,Z,ZV,Z,pa,lb,Z,⟨_,O0⟩,⟨_,O7⟩,λD H8 n8=>?_⟩⟩⟩;have lns:=cx.len;refine uW (K:=K) (b1:=false) (b2:=false) (xs:=nN.map V.int) (ys:=ns.map V.int) (ds:=(oH nN ns).map PyData.int) _ Z O0 O7 n8 (by rw[bB,bB,bB,Bh aH];omega) (by rw[bB,Bh aH];omega) (kI _) ?_ ?_
    ·intro q x y dd H9 Q' ex ey ed s9 hq
     rw[bU]at ex ey ed;obtain⟨x',qe,rfl⟩:=yG.mp ex;obtain⟨y',ey',rfl⟩:=yG.mp ey;rw[QD qe ey']at ed;cases ed;exact⟨_,Z,_,Z,_,_,Z,Z,hq _ _ (aD.refl _) (df _)⟩
    ·intro H9 ys s9 d9 r9
     refine⟨D,_,Z,.inl ⟨aK.of d9,λtp fK gG=>?_⟩⟩;have E8:=s9.trans gG.same;have Pt:=gG.at';rw[r9.gT]at Pt;exact⟨b7.trans (.bD b7.aE E8),_,_,_,_,_,_,⟨by rw[RU,xM];rfl,w4.snoc (by rw[xM];exact zL)⟩,E8 _ _ Hg,aJ.mono E8 _ LU,UN,fO.snoc row.len (λe=>nomatch e),(by rw[cB];show es.length+1<=i+1;omega),Mq (aV.of Pt),zL,rfl⟩
  ·rintro O H4 ⟨b4,zs,es,qs,jt,nN,v1,⟨xM,w4⟩,dl,rz,row,fO,hl,u7,on,rfl⟩
   refine⟨_,Z,l,_,Z,.inl ⟨aK.of dl,λtq H5 n5=>?_⟩⟩;exact k (.ref tq) es qs H5 (eY (aV.of n5.at') (aJ.mono n5.same _ rz)) row fO ⟨aH,w4⟩ (b4.trans (.bD b4.aE n5.same))
def vc(ti:Int)(q:Rat)(T:Int):Prop:=1<=T/\dj ti q T=true/\dj ti q (T-1)=false
open Classical in
noncomputable def nA(ti:Int)(q:Rat):Int:=if h:∃T,vc ti q T then h.choose else 0
theorem Pc{ti:Int}{q:Rat}{s t:Int}(hq:0<=q.num)(h0:0<=s)(h:s<=t)(e:dj ti q s=true):dj ti q t=true:=by refine bT (Int.le_trans (il e) ?_);exact RZ (IU h h h0 aq) hq
theorem SS{ti:Int}{q:Rat}{S T:Int}(hq:0<=q.num)(h1:vc ti q S)(h2:vc ti q T):S=T:=by
 obtain⟨a1,a2,a3⟩:=h1;obtain⟨b1,b2,b3⟩:=h2;by_cases h:S<=T-1
 ·have:=Pc hq aq h a2
  rw[b3]at this;cases this
 ·by_cases h':T<=S-1
  ·have:=Pc hq aq h' b2
   rw[a3]at this;cases this
  ·lia
theorem zc{ti:Int}{q:Rat}{T:Int}(hq:0<=q.num)(h:vc ti q T):nA ti q=T:=by have hx:∃T,vc ti q T:=⟨T,h⟩;unfold nA;rw[dif_pos hx];exact SS hq hx.choose_spec h
theorem nX{q:Rat}(h:0<q):0<q.num:=by
 have h1:=Rat.num_nonneg.mpr (BB h);have h2:q.num≠0:=λe=>by rw[Rat.num_eq_zero.mp e]at h;exact absurd h au
 lia
noncomputable def m9(ti:Int)(zs:List Int)(q:Rat):ah:=.tuple [.str "step",.tuple (zs.map PyData.int),.int (nA ti q),bM q]
theorem TZ(ti:Int)(zs:List Int)(q:Rat):dw (m9 ti zs q)=true:=by simp[m9,dw,cE,kI,kF]
inductive a6n(K:a8)(vs:List V)(H:Hp)(Q:VK):Prop |mk (m:_)(rv:_)(sq:_)(rs:_)(r:_)(f:_)(j:_)(ti:_)(zs:_)(q:_)(h0:vs=[m,rv,sq])(h1:RD K H m (dQ rs r f j ti))(h2:fc rs r f j ti)(h3:RD K H rv (.tuple (zs.map PyData.int)))(h4:bC K H sq q)(h5:Bd 2000 q)(h6:0<q)(h7:∀v H',RD K H' v (m9 ti zs q)->aD H H'->Q v H')
def Cz(K:a8):Sp:=λvs H Q _=>a6n K vs H Q
theorem Lu:bF ["machine","row","square"] ["machine","row","square"] (bu DT):=bP aP
theorem Xn(F:FA K mg "step_entry" DT)(B:bK mg)(Zs:aB P w K mg az "ticks_of" 2 (JL K)):aB P w K mg az "step_entry" 3 (Cz K):=by
 refine F.has Lu (λvs H Q E h=>?_) (λ_ _ _ _ _ _=>iJ λ_ _ _=>rfl) (λf aO A outer s H vs Q E hr h=>?_)
 ·obtain⟨m,rv,sq,rs,r,f,j,ti,zs,q,rfl,_⟩:=h
  rfl
 ·obtain⟨m,rv,sq,rs,r,f,j,ti,zs,q,rfl,rm,aW,rr,Rq,bq,q0,k⟩:=h
  have nd:=Lu.nd;refine⟨_,(aI (aR (cg (ak cJ (ak (pv 1) (ak (pf Zs hr (ak (pv 0) (ak (pv 2) aw))) (ak (pv 2) aw))))))),?_⟩;have t1:=aW.t1;have qn:0<q.num:=nX q0;refine⟨_,Z,_,Z,_,Z,m,sq,rs,r,f,j,ti,q,Z,rm,Rq,bq,t1.1,t1.2,qn,λT T1 _ T2 T3=>?_⟩;refine⟨_,Z,bc Z,λt H1 n1=>k (.ref t) H1 ?_ n1.same⟩;have e:=zc aq ⟨T1,T2,T3⟩;unfold m9;rw[e];exact eY (aV.of n1.at') (bV (cM _) (bV (RD.mono n1.same _ rr) (bV (df _) (bV (Rq.go n1.same).rd cD))))
noncomputable def mB(r f ti:Int)(ns:List Int)(top b e:Rat):List ah:=(List.range (aL ns)).map λk=>m9 ti (fP ns k) (rA r f (aL ns) top b e k)
noncomputable def qh(r f j ti rate:Int)(ds:List ah)(os:List Itm)(i:Nat):List ah:=match os[i]? with |some (some (ns,sp))=>mB r f ti ns (topR rate sp) (jv r f j rate os i) (jv r f j rate os (i+1)) |_=>[ds.getD i .none]
noncomputable def m8(r f j ti rate:Int)(ds:List ah)(os:List Itm):Nat->List ah |0=>[] |i+1=>m8 r f j ti rate ds os i++qh r f j ti rate ds os i
theorem FE(r f ti:Int)(ns:List Int)(top b e:Rat):cE (mB r f ti ns top b e)=true:=dh.mpr λd hd=>by obtain⟨k,_,rfl⟩:=eV.mp hd;exact TZ _ _ _
theorem Na{r f:Int}{ld k:Nat}{top b e:Rat}(hr:1<=r)(hf:1<=f)(hk:k<ld)(ht:0<top)(hb:0<=b)(he:0<=e):0<rA r f ld top b e k:=by
 have pos:∀{x:Rat}{z:Int},0<=x->0<z->0<x+(z:Rat):=λ{x z} hx hz=>by have h1:((0:Int):Rat)<(z:Rat):=Rat.intCast_lt_intCast.mpr hz;have h2:x+((0:Int):Rat)<x+(z:Rat):=Rat.add_lt_add_left.mpr h1;rw[show((0:Int):Rat)=0 from Z,Rat.add_zero]at h2;exact Std.lt_of_le_of_lt hx h2
 have h1:=pos (z:=r*(2*(1+(k:Int))-1)) hb (fL aq aq);have h2:=pos (z:=f*(2*((ld:Int)-(1+(k:Int)))+1)) he (fL aq aq);unfold rA;rcases zV (mn (b+((r*(2*(1+(k:Int))-1):Int):Rat)) top) (e+((f*(2*((ld:Int)-(1+(k:Int)))+1):Int):Rat))with h|h
 ·rw[h]
  rcases zV (b+((r*(2*(1+(k:Int))-1):Int):Rat)) top with h'|h'<;>rw[h']<;>assumption
 ·rw[h];exact h2
theorem Jf{rate sp:Int}(h1:1<=sp)(h2:10<=rate):0<topR rate sp:=by
 have h0:=Ow.BV rate sp;refine Std.lt_of_le_of_ne h0 λe=>?_;have hp:0<(sp*rate)^2:=by rw[fu,fu,kU,kr];exact fL (fL aq aq) (fL aq aq)
 have h2:0<=Rat.divInt (-((sp*rate)^2)) 10000:=by rw[<-Rat.neg_divInt];show 0<=-(topR rate sp);rw[<-e];decide
 have:=(vk au).mp h2
 lia
def iH(rate:Int)(ds:List ah)(os:List Itm)(i:Nat):List ah:=match os[i]? with |some (some (ns,sp))=>(List.range (aL ns)).map λk=>g9 (fP ns k) (topR rate sp) |_=>[ds.getD i .none]
def fJ(rate:Int)(ds:List ah)(os:List Itm):Nat->List ah |0=>[] |i+1=>fJ rate ds os i++iH rate ds os i
def kj(j rate:Int)(os:List Itm)(i:Nat):List Rat:=match os[i]? with |some (some (ns,sp))=>ownF j rate os i::List.replicate (aL ns-1) (topR rate sp) |_=>[ownF j rate os i]
def jd(j rate:Int)(os:List Itm):Nat->List Rat |0=>[] |i+1=>jd j rate os i++kj j rate os i
theorem sF{rate:Int}{ds:List ah}{os:List Itm}{i:Nat}{ns:List Int}{sp:Int}(h:os[i]? =some (some (ns,sp))):iH rate ds os i=(List.range (aL ns)).map λk=>g9 (fP ns k) (topR rate sp):=by unfold iH;rw[h]
theorem xP{rate:Int}{ds:List ah}{os:List Itm}{i:Nat}{d:ah}(h:os[i]? =some none)(hd:ds[i]? =some d):iH rate ds os i=[d]:=by unfold iH;rw[h,vw,hd];rfl
theorem xZ{j rate:Int}{os:List Itm}{i:Nat}{ns:List Int}{sp:Int}(h:os[i]? =some (some (ns,sp))):kj j rate os i=ownF j rate os i::List.replicate (aL ns-1) (topR rate sp):=by unfold kj;rw[h]
theorem Be{j rate:Int}{os:List Itm}{i:Nat}(h:os[i]? =some none):kj j rate os i=[ownF j rate os i]:=by unfold kj;rw[h]
theorem Pw(zs:List Int)(q:Rat):dw (g9 zs q)=true:=by
 have:cE (zs.map PyData.int)=true:=dh.mpr λd hd=>by obtain⟨i,_,rfl⟩:=eV.mp hd;rfl
 simp[g9,dw,cE,this,bM]
theorem uS{n:Nat}{rate:Int}{ds:List ah}{os:List Itm}(row:cH n ds os):∀i,i<=os.length->(fJ rate ds os i).length<=100*i/\cE (fJ rate ds os i)=true
 |0,_=>⟨bw _,Z⟩ |i+1,h=>by
  have ll:=row.len;obtain⟨ih,Z7⟩:=uS (rate:=rate) row i aq;obtain⟨o,eo⟩:∃o,os[i]? =some o:=⟨_,bG (show i<os.length by lia)⟩;have key:(iH rate ds os i).length<=100/\cE (iH rate ds os i)=true:=by cases o with |none=>obtain⟨d',ed⟩:∃d',ds[i]? =some d':=⟨_,bG (show i<ds.length by lia)⟩;rw[xP eo ed];have:=dh.mp row.no _ (fC ed);exact⟨by simp,by simp[cE,this]⟩ |some q=>obtain⟨ns,sp⟩:=q;obtain⟨cx,_,_⟩:=row.ok i ns sp eo;have:=mE cx;rw[sF eo,bB,hX];refine⟨aq,dh.mpr λd hd=>?_⟩;obtain⟨k,_,rfl⟩:=eV.mp hd;exact Pw _ _
  refine⟨?_,?_⟩
  ·show(fJ rate ds os i++iH rate ds os i).length<=_
   rw[cB];lia
  ·refine dh.mpr λd hd=>?_
   rcases gL.mp hd with h1|h1
   ·exact dh.mp Z7 d h1
   ·exact dh.mp key.2 d h1
theorem qv{n:Nat}{j rate:Int}{ds:List ah}{os:List Itm}(row:cH n ds os):∀i,i<=os.length->(jd j rate os i).length=(fJ rate ds os i).length |0,_=>rfl |i+1,h=>by have ll:=row.len;show(jd j rate os i++kj j rate os i).length=(fJ rate ds os i++iH rate ds os i).length;rw[cB,cB,qv row i aq];obtain⟨o,eo⟩:∃o,os[i]? =some o:=⟨_,bG (show i<os.length by lia)⟩;cases o with |none=>obtain⟨d',ed⟩:∃d',ds[i]? =some d':=⟨_,bG (show i<ds.length by lia)⟩;rw[xP eo ed,Be eo];rfl |some q=>
 obtain⟨ns,sp⟩:=q;obtain⟨cx,_,_⟩:=row.ok i ns sp eo;have:=cx.lead;rw[sF eo,xZ eo];simp
 lia
inductive a6s(K:a8)(vs:List V)(H:Hp)(Q:VK):Prop |mk (iv:_)(rate:_)(n:_)(ds:_)(os:_)(h0:vs=[iv,.int rate])(h1:RD K H iv (.tuple ds))(h2:cH n ds os)(h3:n<=3)(h4:ds.length<=30)(h5:10<=rate)(h6:rate<=200)(h7:∀l ys H',H l=none->H' l=some (.lst ys)->aJ K H' ys (fJ rate ds os os.length)->aD H H'->Q (.ref l) H')
def K1(K:a8):Sp:=λvs H Q _=>a6s K vs H Q
theorem Lz:bF ["items","rate","due","item","top"] ["items","rate"] (bu DX):=bP aP
theorem Xq(F:FA K mg "due_entries" DX)(B:bK mg)(kL:aB P w K mg az "is_line" 1 (p5 K))(pM:aB P w K mg az "top_square" 4 (tV K))(FX:aB P w K mg az "step_rows" 3 (zp K)):aB P w K mg az "due_entries" 5 (K1 K):=by
 refine F.has Lz (λvs H Q E h=>?_) (λ_ _ _ _ _ _=>e9 λ_ _=>rfl) (λfa aO A outer s H vs Q E hr h=>?_)
 ·obtain⟨iv,rate,n,ds,os,rfl,_⟩:=h
  rfl
 ·obtain⟨iv,rate,n,ds,os,rfl,ri,row,n3,hz,cf,cj,k⟩:=h
  have nd:=Lz.nd;refine⟨_,(aC (pS 2 nd (cK aw)) (aC (fR f7 Z (kG K Z (pv 0)) (aZ 3 nd) (aI (bA (ck (pf kL hr (ak (pv 3) aw))) (aC (pS 4 nd (pf pM hr (ak (pv 3) (ak (pv 1) aw)))) (aI (gu (zJ K Z (pv 2) (ak (gj (N:=["row","top"]) (js:=[none,some 4]) Z Z Z (qZ K Z (pf FX hr (ak (pv 3) aw))) (λ_ _ _ _ _=>(aZ 0 (iC au))) (λ_ _ _ _ _=>fy) (λ_ _ _ _ _=>(cg (ak cJ (ak (pv 0) (ak (pv 1) aw)))))) aw))))) (aI (gu (iz K Z (pv 2) (ak (pv 3) aw))))))) (aI (aR (pv 2))))),?_⟩;have ll:=row.len;have pX:sizeLine=16777216:=by decide
  refine⟨bc Z,λD H2 n2=>?_⟩;have nD:=n2.no;obtain⟨ia,xs,rfl,hi,cT⟩:=ri.bX;have lx:=cT.length;refine⟨_,Z,ia,Z,⟨_,hi.go n2.same⟩,ON (K:=K) (a:=ia) (xs:=xs) (λi O H3=>aD H H3/\∃zs v1 v2,H3 D=some (.lst zs)/\aJ K H3 zs (fJ rate ds os i)/\O=[some (.ref ia),some (.int rate),some (.ref D),v1,v2]) ⟨n2.same,[],none,none,n2.at',cD,Z⟩ (λi O H3 _ h=>hi.go h.1) ?_ ?_⟩
  ·rintro i y O H3 hy ⟨s3,zs,v1,v2,dz,rz,rfl⟩
   have uB:i<xs.length:=(cL.mp hy).1;obtain⟨d,ed,rd⟩:=cT.get' i hy;obtain⟨o,eo,it⟩:=row.get ed;have zF:=RD.mono s3 _ rd;obtain⟨tl,tn⟩:=uS (rate:=rate) row i aq;have lz:=rz.length;refine⟨_,Z,y,d,o,Z,zF,it,_,Z,?_⟩;cases o with
   |none=>
    refine aQ ?_;refine⟨_,Z,.inl ⟨Z,_,aK.of dz⟩,_,Z,D,zs,_,Z,Z,dz,aq,?_⟩;refine⟨λb o e=>?_,_,_,_,cF,?_,Z⟩
    ·rw[bL (cW e nD)];exact s3 b o e
    ·show aJ K _ _ (fJ rate ds os i++iH rate ds os i)
     rw[xP eo ed];exact aJ.qS dz rz zF tn it.no |some q=>
    obtain⟨ns,sp⟩:=q;refine aU ?_;have kf:=jV it;subst kf;obtain⟨cx,de,dA⟩:=row.ok i ns sp eo;have lj:=mE cx;refine⟨_,Z,_,Z,y,ns,sp,rate,Z,zF,de,dA,cf,cj,λtv H4 Bk s4=>?_⟩;have ic:=s4 _ _ dz;refine⟨_,Z,.inl ⟨Z,_,aK.of ic⟩,?_⟩;refine⟨_,Z,y,ns,sp,Z,RD.mono s4 _ zF,⟨Z,λz hz=>by have:=cx.bd z hz;lia,cx.nz⟩,by rw[cx.len];lia,λl3 y3 H6 zP qm p9 s6=>?_⟩;have rC:=p9.length;rw[i6,bB,hX]at rC;refine⟨l3,Z,⟨_,aK.of qm⟩,λD2 H7 n7=>?_⟩;have nE:cE (iH rate ds os i)=true:=by rw[sF eo];exact dh.mpr λd hd=>by obtain⟨k,_,rfl⟩:=eV.mp hd;exact Pw _ _
    have lE:(iH rate ds os i).length=aL ns:=by rw[sF eo,bB,hX]
    refine PY (K:=K) (ds:=iH rate ds os i) _ (aK.of qm) n7 (by rw[lE,rC]) aq nE ?_ ?_
    ·intro q x dd H8 Q' ex qi s8 hq
     have iE:q<aL ns:=by have:=(cL.mp ex).1;lia
     obtain⟨d3,e3,r3⟩:=p9.get' q ex;rw[i6,bU,kT iE]at e3;cases e3;rw[sF eo,bU,kT iE]at qi;cases qi;refine⟨_,Z,_,Z,bc Z,λt H9 n9=>?_⟩;refine hq _ _ n9.same (eY (aV.of n9.at') (bV (cM _) (bV (RD.mono (s8.trans n9.same) _ r3) (bV (Bk.go ((s6.trans s8).trans n9.same)).rd cD))))
    ·intro H8 z8 s8 d8 r8
     have iU:=s4.trans (s6.trans s8);have qk:=iU _ _ dz;have l8:=r8.length;refine⟨D,D2,zs,z8,Z,Z,qk,d8,aq,?_⟩;have tu:dN H8 (L2.upd H8 D (.lst (zs++z8))):=.fM qk;refine⟨λb o e=>?_,_,_,_,cF,?_,Z⟩
     ·rw[bL (cW e nD)];exact iU b o (s3 b o e)
     ·exact(aJ.t tu _ tn (aJ.mono iU _ rz)).append (aJ.t tu _ nE r8)
  ·rintro O H3 ⟨s3,zs,v1,v2,dz,rz,rfl⟩
   rw[lx,ll]at rz;exact⟨_,Z,k D zs H3 nD dz rz s3⟩
theorem a1V(n:Nat)(v:V):(List.replicate n [v]).flatten=List.replicate n v:=by induction n with |zero=>rfl |succ n ih=>rw[qI,BK,ih,qI];rfl
theorem Ma{H:Hp}{v:V}{q:Rat}(h:bC K H v q):∀n,aJ K H (List.replicate n v) ((List.replicate n q).map bM) |0=>cD |n+1=>by rw[qI,qI,IK];exact bV h.rd (Ma h n)
inductive a6y(K:a8)(vs:List V)(H:Hp)(Q:VK):Prop |mk (m:_)(iv:_)(rate:_)(rs:_)(r:_)(f:_)(j:_)(t:_)(ds:_)(os:_)(h0:vs=[m,iv,.int rate])(h1:RD K H m (dQ rs r f j t))(h2:fc rs r f j t)(h3:RD K H iv (.tuple ds))(h4:cH rs.length ds os)(h5:ds.length<=30)(h6:10<=rate)(h7:rate<=200)(h8:∀l ys H',H l=none->H' l=some (.lst ys)->aJ K H' ys ((jd j rate os os.length++[ownF j rate os os.length]).map bM)->aD H H'->Q (.ref l) H')
def K3(K:a8):Sp:=λvs H Q _=>a6y K vs H Q
theorem LH:bF ["machine","items","rate","own","bounds","i","item"] ["machine","items","rate"] (bu E5):=bP aP
theorem Xx(F:FA K mg "bounds_between" E5)(B:bK mg)(G0:aB P w K mg az "own_bounds" 8 (zq K))(kL:aB P w K mg az "is_line" 1 (p5 K))(pM:aB P w K mg az "top_square" 4 (tV K))(jY:aB P w K mg az "lead_of" 1 (jq K)):aB P w K mg az "bounds_between" 9 (K3 K):=by
 refine F.has LH (λvs H Q E h=>?_) (λ_ _ _ _ _ _=>iJ λ_ _ _=>rfl) (λfa aO A outer s H vs Q E hr h=>?_)
 ·obtain⟨m,iv,rate,rs,r,f,j,t,ds,os,rfl,_⟩:=h
  rfl
 ·obtain⟨m,iv,rate,rs,r,f,j,t,ds,os,rfl,rm,aW,ri,row,hz,cf,cj,k⟩:=h
  have nd:=LH.nd;refine⟨_,(aC (pS 3 nd (pf G0 hr (ak (pv 0) (ak (pv 1) (ak (pv 2) aw))))) (aC (pS 4 nd (cK aw)) (aC (fR f7 Z (uh K Z false Z (B.at "enumerate") (ak (pv 1) aw)) (cV K rfl (n:=2) rfl (bN (aZ 5 nd) (bN (aZ 6 nd) cU))) (aC (gu (iz K Z (pv 4) (ak (px K (pv 3) (pv 5)) aw))) (aI (bA (ck (pf kL hr (ak (pv 6) aw))) (aI (gu (zJ K Z (pv 4) (ak (aG W4 (cK (ak (pf pM hr (ak (pv 6) (ak (pv 2) aw))) aw)) (aG fT (pf jY hr (ak (pv 6) aw)) aA)) aw)))) bE)))) (aI (aR (aG (lR K Z) (pv 4) (cK (ak (px K (pv 3) (iX iQ aA)) aw)))))))),?_⟩;have ll:=row.len;have lr:=aW.len;have pX:sizeLine=16777216:=by decide
  refine⟨_,Z,_,Z,_,Z,m,iv,rate,rs,r,f,j,t,ds,os,Z,rm,aW,ri,row,aq,cf,cj,λl1 y1 H1 MT AX w8 s1=>?_⟩;have zW:=w8.length;rw[bB,ownL,bB,hX]at zW;have own:∀(c:Nat)(u:V)(H':Hp),c<=os.length->y1[c]? =some u->aD H1 H'->bC K H' u (ownF j rate os c):=by intro c u H' hc e t';obtain⟨d1,e1,r1⟩:=w8.get' c e;rw[bU,ownL,bU,kT aq]at e1;cases e1;exact(fQ r1).go t'
  refine⟨bc Z,λD H2 n2=>?_⟩;have nD:H D=none:=by cases e:H D with |none=>rfl |some o=>have:=s1 _ _ e;rw[n2.no]at this;cases this
  obtain⟨ia,xs,rfl,hi,cT⟩:=ri.bX;have lx:=cT.length;have XU:∀i,cE ((jd j rate os i).map bM)=true:=λi=>mq _;refine⟨_,Z,ia,Z,⟨_,hi.go (s1.trans n2.same)⟩,uN (K:=K) (b:=false) (a:=ia) (xs:=xs) (λi O H3=>aD H1 H3/\∃zs v1 v2,H3 D=some (.lst zs)/\aJ K H3 zs ((jd j rate os i).map bM)/\O=[some m,some (.ref ia),some (.int rate),some (.ref l1),some (.ref D),v1,v2]) ⟨n2.same,[],none,none,n2.at',cD,Z⟩ (λi O H3 _ h=>hi.go (s1.trans h.1)) ?_ ?_⟩
  ·rintro i y O H3 hy ⟨s3,zs,v1,v2,dz,rz,rfl⟩ T H4 n4
   have uB:i<xs.length:=(cL.mp hy).1;obtain⟨d,ed,rd⟩:=cT.get' i hy;obtain⟨o,eo,it⟩:=row.get ed;have gP:=s3.trans n4.same;have s4:=s1.trans gP;have ic:=n4.same _ _ dz;have qV:=aJ.mono n4.same _ rz;have pe:=RD.mono s4 _ rd;have lz:=rz.length;rw[bB,qv row i aq]at lz;have tl:=(uS (rate:=rate) row i aq).1;obtain⟨z0,jD⟩:∃z,y1[i]? =some z:=⟨_,bG (show i<y1.length by lia)⟩;have R0:=own i z0 H4 aq jD gP;have kg:=gP _ _ AX;refine⟨T,_,Z,aV.of n4.at',Z,_,_,Z,_,_,Z,Z,?_⟩;refine⟨_,Z,.inl ⟨Z,_,aK.of ic⟩,?_⟩;refine⟨_,Z,_,Z,.inl ⟨l1,_,_,z0,Z,Z,aK.of kg,cQ aq (by simpa using jD),?_⟩⟩;refine⟨D,zs,z0,Z,Z,ic,aq,?_⟩;have t5:dN H4 (L2.upd H4 D (.lst (zs++[z0]))):=.fM ic;have nG:aD H1 (L2.upd H4 D (.lst (zs++[z0]))):=λb o e=>by rw[bL (cW e n2.no)];exact gP b o e
   have d5:(L2.upd H4 D (.lst (zs++[z0]))) D=some (.lst (zs++[z0])):=cF;have r5:aJ K (L2.upd H4 D (.lst (zs++[z0]))) (zs++[z0]) ((jd j rate os i++[ownF j rate os i]).map bM):=by rw[ip];exact aJ.qS ic qV R0.rd (XU i) (kF _)
   generalize L2.upd H4 D (.lst (zs++[z0]))=H5 at t5 nG d5 r5⊢;have s5:=s1.trans nG;have Eu:=RD.mono s5 _ rd;refine⟨_,Z,y,d,o,Z,Eu,it,_,Z,?_⟩;cases o with |none=>refine aQ ⟨nG,_,_,_,d5,?_,Z⟩;show aJ K H5 _ ((jd j rate os i++kj j rate os i).map bM);rw[Be eo];exact r5 |some q=>
    obtain⟨ns,sp⟩:=q;refine aU ?_;have kf:=jV it;subst kf;obtain⟨cx,de,dA⟩:=row.ok i ns sp eo;have lj:=mE cx;have pQ:=cx.lead;refine⟨_,Z,.inl ⟨Z,_,aK.of d5⟩,?_⟩;refine⟨_,Z,_,Z,y,ns,sp,rate,Z,Eu,de,dA,cf,cj,λtv H6 Rt6 s6=>?_⟩;refine⟨bc Z,λlt H7 n7=>?_⟩;refine⟨_,Z,y,ns,sp,Z,RD.mono (s6.trans n7.same) _ Eu,cx.ne,by rw[cx.len];lia,λH8 s8=>?_⟩;have d7:=s8 _ _ n7.at';have ek:((aL ns:Int)-1).toNat=aL ns-1:=by lia
    refine⟨_,_,Z,Z,lt,_,_,Z,Z,d7,aq,aq,by rw[ek];show 1*_<=_;lia,λlp XX=>?_⟩;rw[ek,a1V];have n9:Nw H8 (L2.upd H8 lp (.lst (List.replicate (aL ns-1) tv))) lp (.lst (List.replicate (aL ns-1) tv)):=.of XX;generalize L2.upd H8 lp (.lst (List.replicate (aL ns-1) tv))=H9 at n9⊢;have nF:=s6.trans (n7.same.trans (s8.trans n9.same));have d9:=nF _ _ d5;refine⟨D,lp,_,_,Z,Z,d9,n9.at',by rw[cB,List.length_replicate];show _+1+_<=_;lia,?_⟩;have t9:dN H9 (L2.upd H9 D (.lst (zs++[z0]++List.replicate (aL ns-1) tv))):=.fM d9;refine⟨λb o e=>?_,_,_,_,cF,?_,Z⟩
    ·rw[bL (cW e n2.no)];exact nF b o (nG b o e)
    ·show aJ K _ _ ((jd j rate os i++kj j rate os i).map bM)
     have eb:jd j rate os i++kj j rate os i=(jd j rate os i++[ownF j rate os i])++List.replicate (aL ns-1) (topR rate sp):=by rw[xZ eo];simp
     rw[eb,ip];exact(aJ.t t9 _ (mq _) (aJ.mono nF _ r5)).append (aJ.t t9 _ (mq _) (Ma (Rt6.go (n7.same.trans (s8.trans n9.same))) _))
  ·rintro O H3 ⟨s3,zs,v1,v2,dz,rz,rfl⟩
   rw[lx,ll]at rz;have lz:=rz.length;rw[bB,qv row _ (bw _)]at lz;have tl:=(uS (rate:=rate) row _ (bw _)).1;obtain⟨z0,jD⟩:∃z,y1[os.length]? =some z:=⟨_,bG (show os.length<y1.length by lia)⟩;have R0:=own _ z0 H3 (bw _) jD s3;refine⟨_,Z,_,Z,1,Z,.inl ⟨l1,_,-1,z0,Z,Z,aK.of (s3 _ _ AX),HD (by rw[RT,zW];exact jD),?_⟩⟩;refine⟨bc Z,λl5 H4 n4=>?_⟩;refine⟨D,l5,_,_,Z,Z,aK.of (n4.same _ _ dz),aK.of n4.at',by show _+1<=_;lia,λl6 H5 n5=>?_⟩;have XY:H l6=none:=by cases e:H l6 with |none=>rfl |some o=>have:=n4.same _ _ (s3 _ _ (s1 _ _ e));rw[n5.no]at this;cases this
   have vV:=n4.same.trans n5.same;refine k l6 _ H5 XY n5.at' ?_ (s1.trans (s3.trans vV));rw[ip];exact(aJ.mono vV _ rz).append (bV (R0.go vV).rd cD)
def i7(sq:Nat->Option Rat):Nat->Option Rat |0=>none |k+1=>sq k
def dG(j rate:Int)(os:List Itm):List Rat:=jd j rate os os.length++[ownF j rate os os.length]
theorem Ji{ti:Int}{q:Rat}(h0:1<=ti):∀n:Nat,1<=n->dj ti q (n:Int)=true->∃T:Int,T<=n/\vc ti q T |0,h,_=>by lia |n+1,_,h=>by cases e:dj ti q (n:Int)with |false=>exact⟨((n+1:Nat):Int),iP _,aq,h,by rw[Int.natCast_add,Int.natCast_one,Int.add_sub_cancel];exact e⟩ |true=>
 by_cases hn:1<=n
 ·obtain⟨T,h1,h2⟩:=Ji h0 n hn e
  exact⟨T,aq,h2⟩
 ·have hn:n=0:=by lia
  subst hn;have e:=il e;have hp:0<ti*ti*(q.den:Int):=fL (fL aq aq) (by have:=q.den_pos;lia);simp at e
  lia
theorem zb{ti:Int}{q:Rat}(h1:1<=ti)(h2:ti<=100)(q0:0<q)(bq:Bd 2000 q):1<=nA ti q/\(nA ti q).natAbs<2^2400/\dj ti q (nA ti q)=true/\dj ti q (nA ti q-1)=false:=by
 have hn:=nX q0;have hd:=q.den_pos;have e:dj ti q ((ti.toNat*q.den:Nat):Int)=true:=by
  refine bT ?_;have et:((ti.toNat*q.den:Nat):Int)=ti*(q.den:Int):=by rw[Int.natCast_mul,IS aq]
  rw[et];have p1:0<=ti*ti*(q.den:Int):=jK (jK aq aq) aq;have:ti*(q.den:Int)*(ti*(q.den:Int))*q.num=(ti*ti*(q.den:Int))*((q.den:Int)*q.num):=by simp only[IV,Int.mul_left_comm,tI]
  rw[this];have p2:1<=(q.den:Int)*q.num:=by
   have:0<(q.den:Int)*q.num:=fL aq hn
   lia
  have:=BM p2 p1;rw[Int.mul_one]at this;exact this
 obtain⟨T,hT,tc⟩:=Ji h1 (ti.toNat*q.den) (Nat.mul_pos aq hd) e;have eT:=zc (BN hn) tc;rw[eT];refine⟨tc.1,?_,tc.2.1,tc.2.2⟩;have b1:ti.toNat*q.den<128*2^2000:=Nat.mul_lt_mul_of_lt_of_le aq (IC bq.den) (Nat.two_pow_pos _);have b2:128*2^2000<=2^2400:=by rw[show 128=2^7 from Z,<-BF];exact gD au au
 have:=tc.1
 lia
theorem Qk{rs:List Int}{r f j t rate:Int}{ds:List ah}{os:List Itm}(aW:fc rs r f j t)(row:cH rs.length ds os)(cf:10<=rate)(cj:rate<=200):∀b∈dG j rate os,Bd 1900 b:=by
 have hB:=Ow.EX aW.j1.1 aW.j1.2 cf cj row.pq;have key:∀i,i<=os.length->∀b∈jd j rate os i,Bd 1900 b:=by intro i;induction i with |zero=>intro _ b hb;exact(fq hb).elim |succ i ih=>
  intro hi b hb;rcases gL.mp hb with h1|h1
  ·exact ih aq b h1
  ·obtain⟨o,eo⟩:∃o,os[i]? =some o:=⟨_,bG (show i<os.length by lia)⟩
   cases o with |none=>rw[Be eo,kS]at h1;rw[h1];exact(hB i).mono au |some q=>
    obtain⟨ns,sp⟩:=q;obtain⟨cx,de,dA⟩:=row.ok i ns sp eo;rw[xZ eo]at h1;rcases cR.mp h1 with h1|h1
    ·rw[h1];exact(hB i).mono au
    ·rw[(List.mem_replicate.mp h1).2];exact(Ow.ku de dA cf cj).mono au
 intro b hb;rcases gL.mp hb with h1|h1
 ·exact key _ (bw _) b h1
 ·rw[kS.mp h1];exact(hB _).mono au
inductive a6v(K:a8)(vs:List V)(H:Hp)(Q:VK):Prop |mk (m:_)(iv:_)(rate:_)(rs:_)(r:_)(f:_)(j:_)(t:_)(ds:_)(os:_)(h0:vs=[m,iv,.int rate])(h1:RD K H m (dQ rs r f j t))(h2:fc rs r f j t)(h3:RD K H iv (.tuple ds))(h4:cH rs.length ds os)(h5:ds.length<=100)(h6:10<=rate)(h7:rate<=200)(h8:∀l ys H',H l=none->H' l=some (.lst ys)->aJ K H' ys ((ownL j rate os).map bM)->aD H H'->Q (.ref l) H')
def CC(K:a8):Sp:=λvs H Q _=>a6v K vs H Q
def iA(j rate:Int)(os:List Itm)(i:Nat):List Rat:=(List.range (os.length+1)).map λk=>if k<=i then ownF j rate os k else 0
theorem ui(j rate:Int)(os:List Itm)(i:Nat){k:Nat}(h:k<=os.length):(iA j rate os i)[k]? =some (if k<=i then ownF j rate os k else 0):=by unfold iA;rw[bU,bG (by simp;lia),vv];rfl
theorem nR(j rate:Int)(os:List Itm)(i:Nat):(iA j rate os i).length=os.length+1:=by simp[iA]
theorem Mw(j rate:Int)(os:List Itm)(i:Nat)(h:i+1<=os.length):(iA j rate os i).set (i+1) (ownF j rate os (i+1))=iA j rate os (i+1):=by
 apply vx;intro k;by_cases hk:k<=os.length
 ·rw[ui j rate os (i+1) hk,List.getElem?_set]
  by_cases e:i+1=k
  ·subst e
   rw[aX Z,aX (by rw[nR];lia),aX (bw _)]
  ·rw[bf e,ui j rate os i hk]
   congr 1;by_cases h1:k<=i
   ·rw[aX h1,aX aq]
   ·rw[bf h1,bf aq]
 ·rw[jJ (by rw[tE,nR];lia),jJ (by rw[nR];lia)]
theorem VW(j rate:Int)(os:List Itm)(i:Nat)(h:i+1<=os.length)(e:ownF j rate os (i+1)=0):iA j rate os (i+1)=iA j rate os i:=by
 apply vx;intro k;by_cases hk:k<=os.length
 ·rw[ui j rate os (i+1) hk,ui j rate os i hk]
  congr 1;by_cases h1:k<=i
  ·rw[aX h1,aX aq]
  ·rw[bf h1]
   by_cases h2:k=i+1
   ·subst h2;rw[aX (bw _),e]
   ·rw[bf aq]
 ·rw[jJ (by rw[nR];lia),jJ (by rw[nR];lia)]
theorem LD:bF ["_law_machine_here","_law_items_here","_law_rate","_law_found","_law_border","_law_one","_law_other_here","_law_a","_law_b","_law_gap","_law_corner"] ["_law_machine_here","_law_items_here","_law_rate"] (bu E2):=bP aP
theorem Xv(F:FA K mg "_law_bounds" E2)(B:bK mg)(uH:aB P w K mg az "_law_lead" 1 (jq K))(Az:aB P w K mg az "_law_min" 2 (me K))(uF:aB P w K mg az "_law_top" 2 (vN K))(jZ:aB P w K mg az "_law_frac" 1 (p7 K)):aB P w K mg az "_law_bounds" 3 (CC K):=by
 refine F.has LD (λvs H Q E h=>?_) (λ_ _ _ _ _ _=>iJ λ_ _ _=>rfl) (λf aO A outer s H vs Q E hr h=>?_)
 · obtain⟨m,iv,rate,rs,r,f,j,t,ds,os,rfl,_⟩:=h
   rfl
 · obtain⟨m,iv,rate,rs,r,f,j,t,ds,os,rfl,rm,aW,ri,row,hz,cf,cj,k⟩:=h
   have nd:=LD.nd;refine⟨_,(aC (EN (i0:=3) nd Z (Or.inl Z) (N:=["_law_border"]) (js:=[none]) Z Z Z (nQ Z (B.at "range") (ak (aG bZ (dF K B (ak (pv 1) aw)) aA) aw)) (λ_ _ _ _ _=>(aZ 0 (nY _))) (λ_ _ _ _ _=>fy) (λ_ _ _ _ _=>(cg (ak aA (ak aA aw))))) (aC (fR f7 Z (ET Z (B.at "range") (ak aA (ak (dF K B (ak (pv 1) aw)) aw))) (aZ 4 nd) (aC (nM (i:=5) (j:=6) Z nd Z Z au Z Z (ak (px K (pv 1) (aG fT (pv 4) aA)) (ak (px K (pv 1) (pv 4)) aw)) Z) (aI (bA (PW.pt (nK (bJ (cC K Z hr.units) (px K (pv 5) aA) cJ (bo _)) (pg (bJ (cC K Z hr.units) (px K (pv 6) aA) cJ (bo _))))) (aC (eB (cg (ak (pf uH hr (ak (pv 5) aw)) (ak (pf uH hr (ak (pv 6) aw)) aw))) (cV K Z (n:=2) Z (bN (aZ 7 nd) (bN (aZ 8 nd) cU)))) (aC (pS 9 nd (dv (x:="max") (Fo K Z Z) Z (B.at "max") yE (ak (gj (N:=["_law_x","_law_y","_law_b","_law_a"]) (js:=[none,none,some 8,some 7]) rfl rfl rfl (nP K rfl false false rfl (B.at "zip") (ak (px K (pv 5) aA) (ak (px K (pv 6) aA) aw))) (λ_ _ _ _ _=>(cV K rfl (n:=2) rfl (bN (aZ 0 (show List.Nodup (["_law_x","_law_y","_law_b","_law_a"]:List Str) by decide+kernel)) (bN (aZ 1 (show List.Nodup (["_law_x","_law_y","_law_b","_law_a"]:List Str) by decide+kernel)) cU)))) (λ_ _ _ _ _=>fy) (λ_ _ _ _ _=>(dv (x:="abs") mU rfl (B.at "abs") oO (ak (aG fT (aG bO (pv 0) (pv 2)) (aG bO (pv 1) (pv 3))) aw)))) aw))) (aC (eB (pf Az hr (ak (cK (ak (pf uF hr (ak (pv 5) (ak (pv 2) aw))) (ak (pf uF hr (ak (pv 6) (ak (pv 2) aw))) aw))) aw)) (pk (pv 3) (pv 4) set_list)) (aI (bA (bJ kH (pv 9) aA (bo _)) (aC (pS 10 nd (pf jZ hr (ak (aG iZ (aG bO (aG bO (px K (pv 0) aA) (pv 7)) (pv 8)) aA) (ak (aG iZ (pv 9) aA) aw)))) (aI (eB (pf Az hr (ak (cK (ak (px K (pv 3) (pv 4)) (ak (pv 10) aw))) aw)) (pk (pv 3) (pv 4) set_list)))) bE))))) bE)))) (aI (aR (pv 3))))),?_⟩;obtain⟨ia,xs,rfl,hi,cT⟩:=ri.bX;obtain⟨ma,mb,rfl,fZ,kK⟩:=l4 rm;have lx:=cT.length;have ll:=row.len;have lr:=aW.len;refine⟨_,Z,ia,_,Z,.inr hi,_,_,Z,Z,_,Z,aq,aq,λD H1 n1=>?_⟩;have eN:((xs.length:Int)+1).toNat=os.length+1:=by lia
   rw[eN];refine PX (K:=K) (lo:=0) (n:=os.length+1) (ds:=(iA j rate os 0).map bM) _ n1 (by rw[bB,nR]) aq (mq _) ?_ ?_
   · intro i d H2 Q' ed s2 hq
     have Oa:i<=os.length:=by have:=(cL.mp ed).1;rw[bB,nR]at this;lia
     have e0:d=bM 0:=by
      rw[bU,ui j rate os 0 Oa]at ed;have:=(dU ed).symm;rw[this];congr 1;split
      · next h => have:i=0:=by lia
                  subst this;rfl
      ·rfl
     subst e0;refine⟨bc Z,λz H3 n3=>?_⟩;exact hq _ _ n3.same (bC.rd ⟨z,Z,aV.of n3.at'⟩)
   intro H2 ys s2 d2 r2;refine⟨_,Z,ia,_,Z,.inr (hi.go s2),_,_,Z,⟨au,au,aq,aq⟩,?_⟩;refine pZ (Pv:=λi O H5=>aD H H5/\∃(ys:List V)(v1 v2 v3 v4 v5 v6 v7:Option V),H5 D=some (.lst ys)/\aJ K H5 ys ((iA j rate os i).map bM)/\O=[some (.ref ma),some (.ref ia),some (.int rate),some (.ref D),v1,v2,v3,v4,v5,v6,v7]) ?_ ?_ ?_
   ·exact⟨s2,ys,none,none,none,none,none,none,none,d2,r2,Z⟩
   · rintro i O H5 oq ⟨s5,ys,v1,v2,v3,v4,v5,v6,v7,dl,fE,rfl⟩
     have hio:i+1<os.length:=by lia
     have sy:=bG (show i<os.length by lia);have qg:=bG hio;obtain⟨x1,P6⟩:∃x,xs[i]? =some x:=⟨_,bG (show i<xs.length by lia)⟩;obtain⟨x2,P5⟩:∃x,xs[i+1]? =some x:=⟨_,bG (show i+1<xs.length by lia)⟩;obtain⟨d1,e1,r1⟩:=cT.get' i P6;obtain⟨d2,e2,r2⟩:=cT.get' (i+1) P5;have i1:=row.it i d1 _ e1 sy;have i2:=row.it (i+1) d2 _ e2 qg;have An:ownF j rate os (i+1)=betR j rate os[i] os[i+1]:=by show betR j rate (atO os i) (atO os (i+1))=_;rw[Ow.sR sy,Ow.sR qg]
     have qj:((1:Int)+(i:Int)-1).toNat=i:=by lia
     have GX:((1:Int)+(i:Int)).toNat=i+1:=by lia
     have mX:dk xs ((1:Int)+(i:Int)-1)=some x1:=cQ aq (by rw[qj];exact P6);have at2:dk xs ((1:Int)+(i:Int))=some x2:=cQ aq (by rw[GX];exact P5);have Od:=hi.go s5;obtain⟨a1,w1,y1,rfl,h1,ew1,TL⟩:=Ad (RD.mono s5 _ r1) i1;obtain⟨a2,w2,y2,rfl,h2,ew2,TK⟩:=Ad (RD.mono s5 _ r2) i2;have same:os[i]=none\/os[i+1]=none->aJ K H5 ys ((iA j rate os (i+1)).map bM):=λhn=>by
      rw[VW j rate os i aq]
      ·exact fE
      · rw[An]
        rcases hn with e|e
        ·rw[e];exact Ow.a4x _ _ _
        ·rw[e];exact Ow.Hv _ _ _
     refine⟨_,Z,_,Z,_,_,Z,Z,.inr ⟨ia,_,_,_,Z,Z,Od,mX,_,Z,_,Z,.inr ⟨ia,_,_,_,Z,Z,Od,at2,_,_,Z,?_⟩⟩⟩;refine⟨_,Z,.inr ⟨a1,_,0,.str w1,Z,Z,h1,cQ (iP 0) Z,.inr ⟨_,_,cM _,cM _,TL,A0,_,Z,?_⟩⟩⟩;rw[ew1];cases G3:os[i]with |none=>exact aQ ⟨s5,ys,_,_,_,_,_,_,_,dl,same (.inl G3),Z⟩ |some q1=>refine aU ?_;refine⟨_,Z,.inr ⟨a2,_,0,.str w2,Z,Z,h2,cQ (iP 0) Z,.inr ⟨_,_,cM _,cM _,TK,A0,_,Z,?_⟩⟩⟩;rw[ew2];cases jz:os[i+1]with |none=>exact aQ ⟨s5,ys,_,_,_,_,_,_,_,dl,same (.inr jz),Z⟩ |some q2=>
         refine aU ?_;obtain⟨ns,sp⟩:=q1;obtain⟨ms,sq⟩:=q2;rw[G3]at i1 sy;rw[jz]at i2 qg;have ed1:=jV i1;have ed2:=jV i2;subst ed1 ed2;obtain⟨eE,p1,p2⟩:=row.ok i ns sp sy;obtain⟨dX,q1,q2⟩:=row.ok (i+1) ms sq qg;have T1:Bd 2000 (topR rate sp):=(Ow.ku p1 p2 cf cj).mono au;have T2:Bd 2000 (topR rate sq):=(Ow.ku q1 q2 cf cj).mono au;have l1:=mE eE;have l2:=mE dX;have lq1:=eE.lead.1;have jT:=dX.lead.1;have ln1:ns.length<=3:=by rw[eE.len];lia
         have ln2:ms.length<=3:=by rw[dX.len];lia
         have Nm:ms.length=ns.length:=by rw[eE.len,dX.len]
         refine⟨_,Z,_,ns,sp,Z,RD.mono s5 _ r1,eE.ne,aq,λH6 s6=>?_⟩;have zA:=s5.trans s6;refine⟨_,Z,_,ms,sq,Z,RD.mono zA _ r2,dX.ne,aq,λH7 s7=>?_⟩;refine⟨bc Z,λtq H7' Ff=>?_⟩;refine⟨tq,_,Z,aV.of Ff.at',Z,_,_,Z,_,_,Z,Z,?_⟩;have kX:=zA.trans (s7.trans Ff.same);have Ut:=s6.trans (s7.trans Ff.same);obtain⟨HI,b1,uP,ha1,xy⟩:=lg (RD.mono kX _ r1);obtain⟨HG,b2,ea2,ha2,xx⟩:=lg (RD.mono kX _ r2);cases uP;cases ea2;refine⟨_,Z,.inr ⟨a1,_,1,.ref b1,Z,Z,ha1,Z,_,Z,.inr ⟨a2,_,1,.ref b2,Z,Z,ha2,Z,b1,b2,Z,⟨_,xy⟩,⟨_,xx⟩,λD4 H8 n8=>?_⟩⟩⟩;refine uW (K:=K) (b1:=false) (b2:=false) (xs:=ns.map V.int) (ys:=ms.map V.int) (ds:=((cN ns ms).map gK).map PyData.int) _ Z xy xx n8 (by simp[cN]) (by simp[cN];lia) (kI _) ?_ ?_
         · intro i x y d H9 Q' ex ey ed s9 hq
           obtain⟨a,b,e1,e2,rfl,rfl⟩:=zip2 Nm ex ey;obtain⟨m,em,rfl⟩:=nZ ed;rw[bU,IX e1 e2]at em;cases em;have q1:=eE.bd a (fC e1);have q2:=dX.bd b (fC e2);refine⟨_,Z,_,Z,_,_,Z,Z,.of_left (cm aq aq),?_⟩;refine⟨_,Z,_,Z,_,_,Z,Z,.of_left (cm aq aq),?_⟩;exact⟨_,_,Z,Z,_,Z,hq _ _ (aD.refl _) (df _)⟩
         intro H9 zs s9 d9 r9;rw[r9.gT]at d9;have jF:cN ns ms≠[]:=by
          have hl:(cN ns ms).length=ns.length:=by simp[cN,Nm]
          intro e;rw[e]at hl;exact eE.ne (yL.mp hl.symm)
         refine⟨D4,_,Z,aK.of d9,by simpa using jF,λM h1 h2=>?_⟩;have eM:=FG jF h1 h2;subst eM;have nF:=kX.trans s9;have E9:=Ut.trans s9;refine⟨_,Z,_,Z,_,ns,sp,rate,Z,RD.mono nF _ r1,p1,p2,cf,cj,λt1 fK Ej gh=>?_⟩;refine⟨_,Z,_,Z,_,ms,sq,rate,Z,RD.mono (nF.trans gh) _ r2,q1,q2,cf,cj,λt2 gq Eh iu=>?_⟩;refine⟨bc Z,λlm gB fH=>?_⟩;have R1:bC K gB t1 (topR rate sp):=(Ej.go iu).go fH.same;have R2:bC K gB t2 (topR rate sq):=Eh.go fH.same;refine⟨lm,[t1,t2],[topR rate sp,topR rate sq],Z,aK.of fH.at',⟨R1,T1,R2,T2,trivial⟩,by simp,λc lv q ec1 Pp hq=>?_⟩;have lA:mn (topR rate sp) (topR rate sq)=q:=by
          refine pF ?_ (hq _ (by simp)) (hq _ (by simp))
          match c,Pp with |0,e2=>cases e2;exact .inl rfl |1,e2=>cases e2;exact .inr rfl
         have rl:bC K gB lv (mn (topR rate sp) (topR rate sq)):=by
          rw[lA]
          match c,ec1,Pp with |0,e1,e2=>cases e1;cases e2;exact R1 |1,e1,e2=>cases e1;cases e2;exact R2
         have qU:=gh.trans (iu.trans fH.same);have Ea:=E9.trans qU;have uT:=Ea _ _ dl;have ly:=fE.length;rw[bB,nR]at ly;have Ac:gH ys.length ((1:Int)+(i:Int))=some (i+1):=by unfold gH;rw[aX aq,aX aq,GX]
         refine⟨_,Z,_,Z,D,ys,_,_,Z,Z,uT,Ac,?_⟩;have Es:=aJ.zx (i:=i+1) uT (aJ.mono Ea _ fE) rl.rd (mq _) (kF _);have sD:∀{o:HO},aD H (L2.upd gB D o):=λ{o} b o' e=>by rw[bL (cW e n1.no)];exact Ea b o' (s5 b o' e)
         have tU:dN gB (L2.upd gB D (.lst (ys.set (i+1) lv))):=.fM uT;refine⟨_,Z,_,_,Z,Z,_,Z,?_⟩;rw[G3,jz]at An;have cO:cornO j ns ms=if aL (cN ns ms)=0 then none else some (Rat.divInt ((j*aL ns*aL ms)^2) ((aL (cN ns ms):Int)^2)):=rfl;show if decide ((aL (cN ns ms):Int)>0)=true then _ else _;by_cases h0:aL (cN ns ms)=0
         · rw[cy aq]
           refine aQ ?_;rw[aX h0]at cO;refine⟨sD,ys.set (i+1) lv,_,_,_,_,_,_,_,cF,?_,Z⟩;rw[<-vt]at Es;have e:(iA j rate os i).set (i+1) (mn (topR rate sp) (topR rate sq))=iA j rate os (i+1):=by rw[<-Mw j rate os i aq,An];show _=List.set _ _ (mnO _ (cornO j ns ms));rw[cO];rfl
           rw[<-e];exact Es
         · rw[bT aq]
           refine aU ?_;rw[bf h0]at cO;have jl:(j*aL ns).natAbs<=50*100:=jS (by have:=aW.j1;lia) aq;have jl2:(j*aL ns*aL ms).natAbs<=50*100*100:=jS jl aq;have cb:=AY (λz hz=>by have:=eE.bd z hz;lia) (λz hz=>by have:=dX.bd z hz;lia) (ns:=ns) (ms:=ms);have Ay:=mC cb;have k9:(2:Nat)^64=18446744073709551616:=by decide
           refine⟨_,Z,.inr ⟨ma,_,3,.int j,Z,Z,fZ.go sD,Z,?_⟩⟩;refine⟨_,Z,_,_,Z,Z,.of_left (cm (by have:=aW.j1;lia) (by have:=aW.j1;lia)),_,Z,_,_,Z,Z,.of_right (cm aq aq),?_⟩;refine⟨_,_,Z,Z,⟨au,au,by rw[k9];lia⟩,_,Z,_,_,Z,Z,⟨au,au,by rw[k9];lia⟩,_,_,Z,?_,?_,λv6 qD r6 iV=>?_⟩
           · show 0<(aL (cN ns ms):Int)^2
             rw[fu,fu,kU,kr];exact fL aq aq
           · refine ir (n:=64) ?_ au
             show((aL (cN ns ms):Int)^2).natAbs<_;rw[fu,fu,kU,kr,k9];have:=jS (a:=(aL (cN ns ms):Int)) (b:=(aL (cN ns ms):Int)) (m:=2000000) (n:=2000000) aq aq
             lia
           have Rc:bC K qD v6 (Rat.divInt ((j*aL ns*aL ms)^2) ((aL (cN ns ms):Int)^2)):=r6;have Tc:Bd 2000 (Rat.divInt ((j*aL ns*aL ms)^2) ((aL (cN ns ms):Int)^2)):=(Ow.Hj aW.j1.1 aW.j1.2 eE.bd dX.bd cO).mono au;generalize Rat.divInt ((j*aL ns*aL ms)^2) ((aL (cN ns ms):Int)^2)=cq at Rc Tc cO;have PJ:=iV _ _ (cF (H:=gB) (a:=D) (o:=.lst (ys.set (i+1) lv)));have at3:dk (ys.set (i+1) lv) ((1:Int)+(i:Int))=some lv:=cQ aq (by rw[GX,yM aq]);have a5h:bC K qD lv (mn (topR rate sp) (topR rate sq)):=fQ (RD.mono iV _ (RD.t tU _ (kF _) rl.rd));refine⟨_,Z,_,Z,.inl ⟨D,_,_,_,Z,Z,aK.of PJ,at3,_,Z,?_⟩⟩;refine⟨bc Z,λFz qC kY=>?_⟩;have QO:=a5h.go kY.same;have QN:=Rc.go kY.same;refine⟨Fz,[lv,v6],[mn (topR rate sp) (topR rate sq),cq],Z,aK.of kY.at',⟨QO,Ow.mr T1 T2,QN,Tc,trivial⟩,by simp,λc' Ym q' a3x Po mH=>?_⟩;have ZC:mn (mn (topR rate sp) (topR rate sq)) cq=q':=by
            refine pF ?_ (mH _ (by simp)) (mH _ (by simp))
            match c',Po with |0,e2=>cases e2;exact .inl rfl |1,e2=>cases e2;exact .inr rfl
           have zE:bC K qC Ym (mn (mn (topR rate sp) (topR rate sq)) cq):=by
            rw[ZC]
            match c',a3x,Po with |0,e1,e2=>cases e1;cases e2;exact QO |1,e1,e2=>cases e1;cases e2;exact QN
           have PH:=kY.same _ _ PJ;refine⟨_,Z,_,Z,D,_,_,_,Z,Z,PH,(by rw[tE];exact Ac),?_⟩;have Mb:=aJ.zx (i:=i+1) PH (aJ.mono (iV.trans kY.same) _ Es) zE.rd (by rw[<-vt];exact mq _) (kF _);refine⟨λb o' e=>by rw[bL (cW e n1.no)];exact kY.same b o' (iV b o' (sD b o' e)),_,_,_,_,_,_,_,_,cF,?_,Z⟩;rw[ID,ID,<-vt]at Mb;have e:(iA j rate os i).set (i+1) (mn (mn (topR rate sp) (topR rate sq)) cq)=iA j rate os (i+1):=by rw[<-Mw j rate os i aq,An];show _=List.set _ _ (mnO _ (cornO j ns ms));rw[cO];rfl
           rw[<-e,ID];exact Mb
   · rintro O H5 ⟨s5,ys,v1,v2,v3,v4,v5,v6,v7,dl,fE,rfl⟩
     have e:iA j rate os ((xs.length:Int)-1).toNat=ownL j rate os:=by
      apply vx;intro k;by_cases hk:k<=os.length
      · rw[ui j rate os _ hk,Ow.My j rate os hk]
        congr 1;split
        ·rfl
        · have:k=os.length:=by lia
          exact(Ow.MB j rate os k this).symm
      ·rw[jJ (by rw[nR];lia),jJ (by rw[Ow.Mx];lia)]
     rw[e]at fE;exact⟨_,Z,k D ys H5 n1.no dl fE s5⟩
inductive a5I(K:a8)(vs:List V)(H:Hp)(Q:VK):Prop |mk (v:_)(ns:_)(sp:_)(k:_)(h0:vs=[v,.int k])(h1:RD K H v (fW ns sp))(h2:eG ns.length 1000 ns)(h3:ns.length<=1000)(h4:0<=k)(h5:k<=10^6)(h6:∀v' H',RD K H' v' (vL ns k)->aD H H'->Q v' H')
def JN(K:a8):Sp:=λvs H Q _=>a5I K vs H Q
theorem a1Z{k n q:Int}(hk:0<=k)(hq:0<q):(if n<0 then-((2*k*gK n+q)/(2*q))else(2*k*gK n+q)/(2*q))=i9 (k*n) q:=by
 have e:2*k*gK n=2*((k*n).natAbs:Int):=by rw[y9,gs,Int.natCast_mul,tI,Int.natAbs_of_nonneg hk]
 rw[e];show(if n<0 then-(jO (k*n) q)else jO (k*n) q)=i9 (k*n) q;rcases Int.lt_or_le n 0 with hn|hn
 ·rw[aX hn]
  rcases Int.lt_or_le 0 k with h0|h0
  ·have:k*n<0:=Int.mul_neg_of_pos_of_neg h0 hn
   unfold i9;rw[bf aq]
  ·have e0:k=0:=by lia
   rw[e0,yN,MU hq];have:=MU hq;unfold i9 at this;rw[aX aq]at this
   lia
 ·rw[bf aq]
  have:0<=k*n:=jK hk hn;unfold i9;rw[aX this]
theorem Kq:bF ["_law_line_here","_law_k","_law_lead_here","_law_found","_law_step","_law_far"] ["_law_line_here","_law_k"] (bu CY):=bP aP
theorem WA(F:FA K mg "_law_stand" CY)(B:bK mg)(uH:aB P w K mg az "_law_lead" 1 (jq K)):aB P w K mg az "_law_stand" 2 (JN K):=by
 refine F.has Kq (λvs H Q E h=>?_) (λ_ _ _ _ _ _=>e9 λ_ _=>rfl) (λf aO A outer s H vs Q E hr h=>?_)
 ·obtain⟨v,ns,sp,k,rfl,_⟩:=h
  rfl
 ·obtain⟨v,ns,sp,kk,rfl,rd,ok,hz,hk,hk2,k⟩:=h
  have nd:=Kq.nd;refine⟨_,(aC (pS 2 nd (pf uH hr (ak (pv 0) aw))) (aC (pS 3 nd (cK aw)) (aC (fR f7 Z (kG K Z (px K (pv 0) aA)) (aZ 4 nd) (aC (pS 5 nd (aG nU (aG bZ (aG bO (aG bO aA (pv 1)) (dv (x:="abs") mU Z (B.at "abs") oO (ak (pv 4) aw))) (pv 2)) (aG bO aA (pv 2)))) (aI (gu (iz K Z (pv 3) (ak (px K (cK (ak (pv 5) (ak (iX iQ (pv 5)) aw))) (fh (x:="int") uY Z (B.at "int") qH (ak (fF jy (pv 4) aA (bo _)) aw))) aw)))))) (aI (aR (fh (x:="tuple") (m7 K Z) Z (B.at "tuple") gC (ak (pv 3) aw))))))),?_⟩;refine⟨_,Z,v,ns,sp,Z,rd,ok.ne,hz,λH1 s1=>?_⟩;obtain⟨lp,lm⟩:=ok.lead;refine⟨bc Z,λl H2 n2=>?_⟩;obtain⟨a,b,rfl,ha,hb⟩:=lg (RD.mono (s1.trans n2.same) _ rd);refine⟨_,Z,.inr ⟨a,_,1,.ref b,Z,Z,ha,Z,b,Z,⟨_,hb⟩,ON (K:=K) (a:=b) (xs:=ns.map V.int) (λi O H3=>aD H1 H3/\aV K H3 b (ns.map V.int)/\H3 l=some (.lst (((ns.map λz=>i9 (kk*z) (aL ns)).take i).map V.int))/\∃v1 v2,O=[some (.ref a),some (.int kk),some (.int (aL ns)),some (.ref l),v1,v2]) ⟨n2.same,hb,n2.at',none,none,Z⟩ (λi O H3 _ h=>h.2.1) ?_ ?_⟩⟩
  ·rintro i x O H3 hx ⟨s3,Ol,dl,v1,v2,rfl⟩
   obtain⟨n,en⟩:∃n,ns[i]? =some n:=by rw[bU]at hx;cases e:ns[i]? with |none=>rw[e]at hx;cases hx |some n=>exact⟨n,Z⟩
   cases wK hx en;have nb:=ok.bd n (fC en);have hi:i<ns.length:=(cL.mp en).1;have ab:gK n=(n.natAbs:Int):=y9 n;have pb:=Mk (k:=kk) (z:=n) aq nb;have eA:2*kk*gK n=2*((kk*n).natAbs:Int):=by rw[ab,gs,Int.natCast_mul,tI,Int.natAbs_of_nonneg hk]
   refine⟨_,Z,_,_,Z,Z,.of_left (cm au au),_,Z,_,Z,_,_,Z,Z,.of_left (cm aq aq),_,Z,_,_,Z,Z,_,Z,_,_,Z,Z,.of_left (cm au au),_,_,Z,Z,⟨aq,J3 aq⟩,?_⟩;have fn:=a1Z (n:=n) hk (show(0:Int)<aL ns by lia);refine⟨_,Z,.inl ⟨Z,_,aK.of dl⟩,_,Z,_,Z,_,Z,bc Z,λc H4 n4=>?_⟩;refine⟨_,Z,_,_,Z,Z,.inr ⟨_,Z,?_⟩⟩;have MY:=n4.same _ _ dl;have hat:dk ([.int ((2*kk*gK n+(aL ns:Int))/(2*(aL ns:Int))),.int (-((2*kk*gK n+(aL ns:Int))/(2*(aL ns:Int))))]:List V) (if decide (n<0)=true then 1 else 0)=some (.int (i9 (kk*n) (aL ns))):=by
    rw[<-fn];by_cases hn:n<0
    ·rw[aX (bT hn),aX hn];rfl
    ·rw[bf (λz=>hn (il z)),bf hn];rfl
   refine .inl ⟨c,_,_,_,Z,Z,aK.of n4.at',hat,?_⟩;refine⟨l,_,_,Z,Z,MY,?_,?_⟩
   ·have:(1000:Nat)<sizeLine:=by decide
    rw[bB,ko,bB];lia
   refine⟨λb o e=>?_,aV.t (.fM MY) (Ol.go n4.same),?_,_,_,Z⟩
   ·rw[bL (cW e n2.no)];exact n4.same b o (s3 b o e)
   ·rw[cF,tx,bU,en,ip];rfl
  ·rintro O H3 ⟨s3,Ol,dl,v1,v2,rfl⟩
   rw[yJ (by simp)]at dl;refine⟨_,Z,l,_,Z,.inl ⟨aK.of dl,λt H4 n4=>?_⟩⟩;exact k _ _ (eY (aV.of n4.at') (qX _)) (s1.trans (s3.trans n4.same))
theorem Kw:bF ["_law_line_here","_law_stands","_law_found","_law_one","_law_other_here"] ["_law_line_here"] (bu D7):=bP aP
inductive a5Q(K:a8)(vs:List V)(H:Hp)(Q:VK):Prop |mk (v:_)(ns:_)(sp:_)(h0:vs=[v])(h1:RD K H v (fW ns sp))(h2:eG ns.length 100 ns)(h3:ns.length<=1000)(h4:∀l ys H',H l=none->H' l=some (.lst ys)->aJ K H' ys (i6 ns)->aD H H'->Q (.ref l) H')
def Cg(K:a8):Sp:=λvs H Q _=>a5Q K vs H Q
def qQ(ns:List Int):List ah:=(List.range (aL ns+1)).map λ(j:Nat)=>vL ns (j:Int)
theorem JA(ns:List Int):cE (qQ ns)=true:=dh.mpr λd hd=>by obtain⟨j,_,rfl⟩:=eV.mp hd;exact w6 _
theorem C0{ns:List Int}{i:Nat}(h:i<=aL ns):(qQ ns)[i]? =some (vL ns (i:Int)):=by unfold qQ;rw[bU,kT aq];rfl
theorem a3L(xs:List V):fm xs (some 1) none=xs.drop 1:=by
 unfold fm;have e:HT.bI xs.length 0 (some 1)=min 1 xs.length:=HT.DB _ _ 1;rw[e,HT.LM];rcases IB 0 xs.length with h|h
 ·rw[show min 1 xs.length=1 by lia,yJ]
  rw[tF];exact bw _
 ·have:xs=[]:=yL.mp aq
  subst this;rfl
theorem WG(F:FA K mg "_law_rows" D7)(B:bK mg)(uH:aB P w K mg az "_law_lead" 1 (jq K))(a19:aB P w K mg az "_law_stand" 2 (JN K)):aB P w K mg az "_law_rows" 3 (Cg K):=by
 refine F.has Kw (λvs H Q E h=>?_) (λ_ _ _ _ _ _=>gz λ_=>rfl) (λf aO A outer s H vs Q E hr h=>?_)
 ·obtain⟨v,ns,sp,rfl,_⟩:=h
  rfl
 ·obtain⟨v,ns,sp,rfl,rd,eE,hz,k⟩:=h
  have nd:=Kw.nd;obtain⟨lp,lm⟩:=eE.lead;have ok:eG ns.length 1000 ns:=⟨Z,λz hz=>by have:=eE.bd z hz;lia,eE.nz⟩;refine⟨_,(aC (EN (i0:=1) nd Z (Or.inl Z) (N:=["_law_k","_law_line_here"]) (js:=[none,some 0]) Z Z Z (nQ Z (B.at "range") (ak (aG bZ (pf uH hr (ak (pv 0) aw)) aA) aw)) (λ_ _ _ _ _=>(aZ 0 (iC au))) (λ_ _ _ _ _=>fy) (λ_ _ _ _ _=>(pf a19 hr (ak (pv 1) (ak (pv 0) aw))))) (aC (pS 2 nd (cK aw)) (aC (fR f7 Z (nP K Z true true Z (B.at "zip") (ak (pv 1) (ak (fS (iT K rfl) (pv 1) (fg aA) gy) aw))) (cV K rfl (n:=2) rfl (bN (aZ 3 nd) (bN (aZ 4 nd) cU))) (aI (gu (iz K Z (pv 2) (ak (fh (x:="tuple") (m7 K Z) Z (B.at "tuple") gC (ak (gj (N:=["_law_here","_law_there"]) (js:=[none,none]) rfl rfl rfl (nP K rfl false false rfl (B.at "zip") (ak (pv 3) (ak (pv 4) aw))) (λ_ _ _ _ _=>(cV K rfl (n:=2) rfl (bN (aZ 0 (iC au)) (bN (aZ 1 (iC au)) cU)))) (λ_ _ _ _ _=>fy) (λ_ _ _ _ _=>(aG fT (pv 1) (pv 0)))) aw)) aw))))) (aI (aR (pv 2)))))),?_⟩;refine⟨_,Z,v,ns,sp,Z,rd,ok.ne,hz,λH1 s1=>?_⟩;refine⟨_,_,Z,Z,_,Z,aq,aq,λD H2 n2=>?_⟩;have e1:((aL ns:Int)+1).toNat=aL ns+1:=by lia
  rw[e1];have lS:(qQ ns).length=aL ns+1:=by simp[qQ]
  refine PX (K:=K) (ds:=qQ ns) _ n2 lS.symm aq (JA ns) ?_ ?_
  ·intro i d H3 Q' ed s3 hq
   have hi:i<aL ns+1:=by rw[<-lS];exact(cL.mp ed).1
   rw[C0 aq]at ed;cases ed;refine⟨_,Z,_,Z,v,ns,sp,_,Z,RD.mono (s1.trans s3) _ rd,ok,hz,aq,aq,λu H4 ru s4=>hq u H4 s4 ?_⟩;have e0:(0:Int)+(i:Int)=i:=by lia
   rw[e0]at ru;exact ru
  intro H3 ys s3 d3 r3;have ly:=r3.length;rw[lS]at ly;refine⟨bc Z,λl H4 n4=>?_⟩;have nl:H l=none:=by cases e:H l with |none=>rfl |some o=>have:=(s1.trans s3) _ _ e;rw[n4.no]at this;cases this
  have d4:=n4.same _ _ d3;refine⟨_,Z,_,Z,_,Z,D,_,Z,.inl ⟨aK.of d4,λc H5 n5=>?_⟩⟩;have d5:=n5.same _ _ d4;have N3:=n5.at';rw[a3L]at N3;have r5:=aJ.mono (n4.same.trans n5.same) _ r3;refine⟨D,c,Z,⟨_,aK.of d5⟩,⟨_,aK.of n5.at'⟩,?_⟩;refine OM (K:=K) (b1:=true) (b2:=true) (xs:=ys) (ys:=ys.drop 1) (aL ns) (by rw[tF];lia) (λi O H6=>aD H3 H6/\H6 D=some (.lst ys)/\H6 c=some (.lst (ys.drop 1))/\aJ K H6 ys (qQ ns)/\(∃zs,H6 l=some (.lst zs)/\aJ K H6 zs ((i6 ns).take i))/\∃v1 v2,O=[some v,some (.ref D),some (.ref l),v1,v2]) ⟨n4.same.trans n5.same,d5,N3,r5,⟨[],n5.same _ _ n4.at',cD⟩,none,none,Z⟩ (λi O H6 _ h=>⟨aK.of h.2.1,aK.of h.2.2.1⟩) ?_ ?_
  ·rintro i x y O H6 ex ey ⟨s6,dD,dc,rD,⟨zs,dl,rz⟩,v1,v2,rfl⟩ T H7 n7
   have hi:i<aL ns:=by have:=(cL.mp ey).1;rw[tF]at this;lia
   obtain⟨dx,sE,rx⟩:=rD.get' i ex;rw[C0 aq]at sE;cases sE;rw[List.getElem?_drop]at ey;obtain⟨dy,Pl,ry⟩:=rD.get' (1+i) ey;rw[C0 aq]at Pl;cases Pl;obtain⟨a1,xs1,rfl,h1,q1⟩:=(RD.mono n7.same _ ry).bX;have e1:=q1.gT;subst e1;obtain⟨a0,xs0,rfl,h0,q0⟩:=(RD.mono n7.same _ rx).bX;have e0:=q0.gT;subst e0;refine⟨T,_,Z,aV.of n7.at',Z,_,_,Z,_,_,Z,Z,?_⟩;refine⟨_,Z,.inl ⟨Z,_,aK.of (n7.same _ _ dl)⟩,?_⟩;refine⟨_,Z,_,Z,a0,a1,Z,⟨_,h0⟩,⟨_,h1⟩,λD2 H8 nw=>?_⟩;refine uW (K:=K) (b1:=false) (b2:=false) (ds:=(fP ns i).map PyData.int) [] rfl h0 h1 nw (by simp[fP]) (by simpa[fP]using hz) (kI _) ?_ ?_
   ·intro j x y d H9 Q' ex ey ed s9 hq
    obtain⟨m,em,rfl⟩:=nZ ed;unfold fP at em;rw[bU]at em ex ey;rw[bU]at ex ey;cases en:ns[j]? with |none=>rw[en]at em;cases em |some n=>
     rw[en]at em ex ey;cases em;cases ex;cases ey;refine⟨_,Z,_,Z,_,_,Z,Z,?_⟩;have ee:((1+i:Nat):Int)=(i:Int)+1:=by lia
     rw[ee];exact hq _ _ (aD.refl _) (df _)
   ·intro H9 ws s9 d9 r9
    refine⟨D2,_,Z,.inl ⟨aK.of d9,λt fK gG=>?_⟩⟩;have u6:=n7.same.trans (s9.trans gG.same);have PK:=u6 _ _ dl;have len:=rz.length;rw[ko,zD]at len;refine⟨l,zs,_,Z,Z,PK,?_,?_⟩
    ·have:(1000:Nat)<sizeLine:=by decide
     lia
    have tt:dN fK (L2.upd fK l (.lst (zs++[.ref t]))):=.fM PK;have lD:D≠l:=λe=>by rw[<-e]at n4;have:=n4.no;rw[d3]at this;cases this
    have lc:c≠l:=λe=>by rw[e]at n5;have:=n5.no;rw[n4.at']at this;cases this
    refine⟨λb o e=>?_,?_,?_,?_,⟨_,cF,?_⟩,_,_,Z⟩
    ·rw[bL (cW e n4.no)];exact u6 b o (s6 b o e)
    ·rw[bL lD];exact u6 _ _ dD
    ·rw[bL lc];exact u6 _ _ dc
    ·exact aJ.t tt _ (JA ns) (aJ.mono u6 _ rD)
    ·rw[tx,LZ hi]
     have nt:cE ((i6 ns).take i)=true:=dh.mpr λd hd=>dh.mp (LY ns) d (tD hd);exact(aJ.t tt _ nt (aJ.mono u6 _ rz)).append (bV (RD.t tt _ (w6 _) (eY (aV.of gG.at') (aJ.mono gG.same _ r9))) cD)
  ·rintro O H6 ⟨s6,dD,dc,rD,⟨zs,dl,rz⟩,v1,v2,rfl⟩
   rw[yJ (by rw[zD];exact bw _)]at rz;exact⟨_,Z,k l zs H6 nl dl rz ((s1.trans s3).trans s6)⟩
inductive a5D(K:a8)(vs:List V)(H:Hp)(Q:VK):Prop |mk (m:_)(sq:_)(rs:_)(r:_)(f:_)(j:_)(ti:_)(q:_)(h0:vs=[m,sq])(h1:RD K H m (dQ rs r f j ti))(h2:bC K H sq q)(h3:Bd 2000 q)(h4:1<=ti)(h5:ti<=100)(h6:0<q.num)(h7:∀T,1<=T->T.natAbs<2^2400->dj ti q T=true->dj ti q (T-1)=false->∀H',aD H H'->Q (.int T) H')
def zo(K:a8):Sp:=λvs H Q _=>a5D K vs H Q
theorem Kk:bF ["_law_machine_here","_law_square","_law_wanted","_law_low","_law_high","_law_half"] ["_law_machine_here","_law_square"] (bu CS):=bP aP
theorem Wt(F:FA K mg "_law_ticks" CS)(B:bK mg):aB P w K mg az "_law_ticks" 1 (zo K):=by
 refine F.has Kk (λvs H Q E h=>?_) (λ_ _ _ _ _ _=>e9 λ_ _=>rfl) (λf aO A outer s H vs Q E hr h=>?_)
 · obtain⟨m,sq,rs,r,f,j,ti,q,rfl,_⟩:=h
   rfl
 · obtain⟨m,sq,rs,r,f,j,ti,q,rfl,rm,⟨p,rfl,hp⟩,bq,t1,t2,hq,k⟩:=h
   have nd:=Kk.nd;refine⟨_,(aC (pS 2 nd (aG bO (aG iZ (px K (pv 0) aA) aA) (px K (pv 1) aA))) (aC (eB (cg (ak aA (ak aA aw))) (cV K Z (n:=2) Z (bN (aZ 3 nd) (bN (aZ 4 nd) cU)))) (aC (qY f7 (bJ jy (aG bO (aG bO (pv 4) (pv 4)) (px K (pv 1) aA)) (pv 2) (bo _)) (aI (nM (i:=3) (j:=4) Z nd Z Z au Z Z (ak (pv 4) (ak (aG bO aA (pv 4)) aw)) Z))) (aC (qY f7 (bJ kH (aG fT (pv 4) (pv 3)) aA (bo _)) (aC (pS 5 nd (aG nU (aG bZ (pv 3) (pv 4)) aA)) (aI (bA (bJ jy (aG bO (aG bO (pv 5) (pv 5)) (px K (pv 1) aA)) (pv 2) (bo _)) (aI (pS 3 nd (pv 5))) (aI (pS 4 nd (pv 5))))))) (aI (aR (pv 4))))))),?_⟩;obtain⟨a,b,rfl,ha,hb⟩:=l4 rm;have m1:(ti*ti).natAbs<=100*100:=by rw[gs];exact nk aq aq
   have eP:ti^(2:Int).toNat=ti*ti:=by show ti^2=ti*ti;rw[fu,fu,kU,kr]
   have lim:(ti*ti*(q.den:Int)).natAbs<2^2399:=by have hd:=bq.den;rw[gs];have:(q.den:Int).natAbs=q.den:=rfl;rw[this];have:=pE (n:=14) (m:=2000) (a:=(ti*ti).natAbs) (b:=q.den) (vn m1 au) hd;exact cY this (gD au au)
   have p0:0<ti*ti*(q.den:Int):=fL (fL aq aq) (den_pos q);have e2:(2:Nat)^2400=2^2399*2:=Iz 2 2399;have yZ:∀{t:Int},t.natAbs<2^2400->Wd (t*t):=λ{t} tw=>ir (n:=4800) (by rw[gs];exact pE (n:=2400) (m:=2400) tw tw) au;have wt:∀{t:Int},t.natAbs<2^2400->Wd t:=λ{t} tw=>ir tw au;refine⟨_,Z,.inr ⟨a,_,4,.int ti,Z,Z,ha,Z,?_⟩⟩
   refine ⟨_, _, rfl, rfl, ⟨by decide, by decide, by have:(2:Nat)^64=18446744073709551616:=by decide
                                                     lia⟩,?_⟩;refine⟨_,Z,.inr ⟨p,_,1,.int q.den,Z,Z,hp,Z,?_⟩⟩;refine⟨_,_,Z,Z,by rw[eP];exact .of_left (cm aq aq),?_⟩;have eW:ti^(2:Int).toNat*(q.den:Int)=ti*ti*(q.den:Int):=by rw[eP]
   have Pg:∀t:Int,decide (t*t*q.num<ti^(2:Int).toNat*(q.den:Int))= !dj ti q t:=λt=>by unfold dj;rw[eW,<-decide_not];exact decide_eq_decide.mpr aq
   refine⟨bc Z,λc0 H0 n0=>?_⟩;refine⟨c0,_,Z,aV.of n0.at',Z,_,_,Z,_,_,Z,Z,?_⟩;have O1:=hp.go n0.same;have k':∀T:Int,1<=T->T.natAbs<2^2400->dj ti q T=true->dj ti q (T-1)=false->Q (.int T) H0:=λT a1 a2 a3 a4=>(k T a1 a2 a3 a4) H0 n0.same;generalize hL:ti*ti*(q.den:Int)=L at lim p0;refine qM (λO H2=>H2=H0/\∃(lo x:Int),O=[some (.ref a),some (.ref p),some (.int (ti^(2:Int).toNat*(q.den:Int))),some (.int lo),some (.int x),none]/\0<=lo/\lo<x/\x<=2*L/\dj ti q lo=false) (λO _=>match O with|[_,_,_,_,some (.int x),_]=>(L-x).toNat|_=>0) ?_ ?_ ?_
   ·exact⟨Z,0,1,Z,aq,aq,aq,Pb t1⟩
   · rintro O H2 ⟨rfl,lo,x,rfl,l0,lx,xL,hx⟩
     have xw:x.natAbs<2^2400:=by lia
     refine⟨_,Z,_,Z,_,_,Z,Z,hZ (wt xw).bits (wt xw).bits,_,Z,.inr ⟨p,_,0,.int q.num,Z,Z,O1,Z,_,_,Z,Z,hZ (yZ xw).bits bq.wn.bits,?_⟩⟩;refine⟨_,Z,_,_,Z,Z,_,Z,?_⟩;show if decide (x*x*q.num<ti^(2:Int).toNat*(q.den:Int))=true then _ else _;rw[Pg];cases ow:dj ti q x with
     |false=>
       have bQ:x<L:=by
        by_cases bQ:x<L
        ·exact bQ
        ·rw[Pe hq aq aq]at ow;cases ow
       refine aU ?_;refine⟨_,Z,_,Z,_,_,Z,Z,.of_left (cm au au),_,_,Z,?_⟩;refine⟨⟨Z,x,2*x,Z,aq,aq,aq,ow⟩,?_⟩;show(L-2*x).toNat<(L-x).toNat
       lia |true=>
       refine aQ ?_;refine qM (λO H3=>H3=H2/\∃(lo hi:Int)(v:Option V),O=[some (.ref a),some (.ref p),some (.int (ti^(2:Int).toNat*(q.den:Int))),some (.int lo),some (.int hi),v]/\0<=lo/\lo<hi/\hi<=2*L/\dj ti q lo=false/\dj ti q hi=true) (λO _=>match O with|[_,_,_,some (.int y),some (.int x),_]=>(x-y).toNat|_=>0) ?_ ?_ ?_
       ·exact⟨Z,lo,x,none,Z,aq,aq,xL,hx,ow⟩
       · rintro O H3 ⟨rfl,lo,hi,v,rfl,l0,lh,sj,xK,sC⟩
         refine⟨_,Z,_,Z,_,_,Z,Z,_,_,Z,Z,_,Z,?_⟩;refine dM (λhc=>?_) (λhc=>?_)
         · have Oe:hi-lo>1:=il hc
           refine⟨_,Z,_,Z,_,_,Z,Z,_,_,Z,Z,⟨au,ir (n:=2) au au⟩,?_⟩;have mw:((lo+hi)/2).natAbs<2^2400:=by lia
           refine⟨_,Z,_,Z,_,_,Z,Z,hZ (wt mw).bits (wt mw).bits,_,Z,.inr ⟨p,_,0,.int q.num,Z,Z,O1,Z,_,_,Z,Z,hZ (yZ mw).bits bq.wn.bits,?_⟩⟩;refine⟨_,Z,_,_,Z,Z,_,Z,?_⟩;show if decide ((lo+hi)/2*((lo+hi)/2)*q.num<ti^(2:Int).toNat*(q.den:Int))=true then _ else _;rw[Pg];cases hm:dj ti q ((lo+hi)/2)with
           |true=>
             refine aQ ?_;refine⟨_,Z,⟨Z,lo,_,_,Z,l0,aq,aq,xK,hm⟩,?_⟩;show((lo+hi)/2-lo).toNat<(hi-lo).toNat
             lia |false=>
             refine aU ?_;refine⟨_,Z,⟨Z,_,hi,_,Z,aq,aq,sj,hm,sC⟩,?_⟩;show(hi-(lo+hi)/2).toNat<(hi-lo).toNat
             lia
         · have hle:¬hi-lo>1:=λz=>hc (bT z)
           have e:lo=hi-1:=by lia
           subst e;exact⟨_,Z,k' hi aq aq sC xK⟩
       · rintro O H2 Q1 Q2 hq ⟨v1,e1,v2,e2,i,j,e3,e4,i2,j2,e5,e6,kk,e7,q⟩
         exact⟨v1,e1,v2,e2,i,j,e3,e4,i2,j2,e5,e6,kk,e7,hq _ _ q⟩
   · rintro O H2 Q1 Q2 hq ⟨v1,e1,v2,e2,i,j,e3,e4,mo,v3,e5,h⟩
     refine⟨v1,e1,v2,e2,i,j,e3,e4,mo,v3,e5,?_⟩;rcases h with⟨a,xs,ii,x,f1,f2,f3,f4,i2,j2,g1,g2,g3,v4,g4,i3,j3,g5,g6,kk,g7,q⟩|⟨a,xs,ii,x,f1,f2,f3,f4,i2,j2,g1,g2,g3,v4,g4,i3,j3,g5,g6,kk,g7,q⟩
     ·exact .inl ⟨a,xs,ii,x,f1,f2,f3,f4,i2,j2,g1,g2,g3,v4,g4,i3,j3,g5,g6,kk,g7,hq _ _ q⟩
     ·exact .inr ⟨a,xs,ii,x,f1,f2,f3,f4,i2,j2,g1,g2,g3,v4,g4,i3,j3,g5,g6,kk,g7,hq _ _ q⟩
theorem Jb:eX "tuple" "list"=false:=by decide
def QY(D:ah):Prop:=(∃z,D= .int z)\/∃s,D= .str s/\SeqAt.shaped (.str s)=true/\PyData.eqv (.str s) (.str s)=true
theorem CI:bF ["_law_found","_law_due"] ["_law_found","_law_due"] (bu zy):=bP aP
theorem a4O{ls hs:List Rat}{lo hi:Rat}(l1:lo∈ls)(l2:∀l∈ls,l<=lo)(h1:hi∈hs)(h2:∀h∈hs,hi<=h):(ls.any λl=>hs.any λh=>decide (h<l))=decide (hi<lo):=by rw[qL,vy,Ij];refine⟨λ⟨l,hl,e⟩=>?_,λe=>⟨lo,l1,vy.mpr ⟨hi,h1,bT e⟩⟩⟩;obtain⟨h,hh,e⟩:=vy.mp e;have e:=il e;exact Rat.not_le.mp λhle=>BA.mpr (qF (l2 l hl) (qF hle (h2 h hh))) e
theorem Md{H:Hp}{a:Addr}{z:Int}(h:aV K H a [.int z,.int 1]):bC K H (.ref a) (z:Rat):=by refine⟨a,Z,?_⟩;rw[Rat.num_intCast,Rat.den_intCast];exact h
theorem Ql{z:Int}(h:z.natAbs<=1000):Bd 2000 (z:Rat):=⟨by rw[Rat.num_intCast];exact vn h (cY (by decide:1000<2^10) (gD au au)),by rw[Rat.den_intCast];exact Nat.one_lt_two_pow au⟩
def wz(e b:Option Rat)(i:Nat):Option Rat:=if i=0 then e else b
def oF(r f:Int)(i:Nat):Int:=if i=0 then f else r
def ny(r f:Int)(i:Nat):Int:=if i=0 then r else f
def jT(r f:Int)(e b:Option Rat):Nat->List Rat |0=>[0] |i+1=>jT r f e b i++(wz e b i).toList.map λq=>q+((-(oF r f i):Int):Rat)
def lC(r f:Int)(bd:Rat)(e b:Option Rat):Nat->List Rat |0=>[bd] |i+1=>lC r f bd e b i++(wz e b i).toList.map λq=>q+(ny r f i:Rat)
theorem Lq:bF ["_law_machine_here","_law_bound","_law_ahead","_law_behind","_law_low","_law_high","_law_square","_law_down","_law_up","_law_least_one"] ["_law_machine_here","_law_bound","_law_ahead","_law_behind"] (bu DQ):=bP aP
theorem Xk(F:FA K mg "_law_fits" DQ)(B:bK mg)(Ox:aB P w K mg az "_law_sum" 2 (qR (·+·) K))(uG:aB P w K mg az "_law_less" 1 (kz K))(Az:aB P w K mg az "_law_min" 2 (me K)):aB P w K mg az "_law_fits" 3 (zw K):=by
 refine F.has Lq (λvs H Q E h=>?_) (λ_ _ _ _ _ _=>sS λ_ _ _ _=>rfl) (λfa aO A outer s H vs Q E hr h=>?_)
 ·obtain⟨m,bv,ev,gv,rs,r,f,j,t,bd,e,b,rfl,_⟩:=h
  rfl
 ·obtain⟨m,bv,ev,gv,rs,r,f,j,t,bd,e,b,rfl,rm,aW,Rb,bb,Re,be,Rg,bg,k⟩:=h
  have nd:=Lq.nd;refine⟨_,(aC (nM (i:=4) (j:=5) Z nd Z Z au Z Z (ak (cg (ak aA (ak aA aw))) (ak (pv 1) aw)) Z) (aC (fR f7 Z (qZ K Z (cK (ak (cg (ak (pv 2) (ak (px K (pv 0) aA) (ak (px K (pv 0) aA) aw)))) (ak (cg (ak (pv 3) (ak (px K (pv 0) aA) (ak (px K (pv 0) aA) aw)))) aw)))) (cV K Z (n:=3) Z (bN (aZ 6 nd) (bN (aZ 7 nd) (bN (aZ 8 nd) cU)))) (aI (bA (bJ nS (pv 6) eQ (bo _)) (aC (pS 9 nd (pf Ox hr (ak (pv 6) (ak (cg (ak (iX iQ (pv 7)) (ak aA aw))) aw)))) (aC (mi (bA (ck (pf uG hr (ak (pv 4) (ak (pv 9) aw)))) (aI (pS 4 nd (pv 9))) bE)) (aI (pS 5 nd (pf Az hr (ak (cK (ak (pv 5) (ak (pf Ox hr (ak (pv 6) (ak (cg (ak (pv 8) (ak aA aw))) aw))) aw))) aw)))))) bE))) (aI (aR (rf (pf uG hr (ak (pv 5) (ak (pv 4) aw)))))))),?_⟩;obtain⟨ma,mb,rfl,fZ,kK⟩:=l4 rm;have jQ:=aW.r1;have ka:=aW.f1;refine⟨bc Z,λl0 H1 n1=>?_⟩;refine⟨_,Z,_,_,Z,?_⟩;have R0:bC K H1 (.ref l0) 0:=⟨l0,Z,aV.of n1.at'⟩;have b0:Bd 1950 (0:Rat):=⟨au,au⟩;refine⟨_,Z,_,Z,.inr ⟨ma,_,2,.int f,Z,Z,fZ.go n1.same,Z,_,Z,.inr ⟨ma,_,1,.int r,Z,Z,fZ.go n1.same,Z,?_⟩⟩⟩;refine⟨bc Z,λt0 H2 n2=>?_⟩;have s2:=n1.same.trans n2.same;refine⟨_,Z,_,Z,.inr ⟨ma,_,1,.int r,Z,Z,fZ.go s2,Z,_,Z,.inr ⟨ma,_,2,.int f,Z,Z,fZ.go s2,Z,?_⟩⟩⟩;refine⟨bc Z,λt1 H3 n3=>?_⟩;have s3:=s2.trans n3.same;refine⟨bc Z,λll H4 n4=>?_⟩;have s4:=s3.trans n4.same;have T0:H4 t0=some (.tup [ev,.int f,.int r]):=n4.same _ _ (n3.same _ _ n2.at');have T1:H4 t1=some (.tup [gv,.int r,.int f]):=n4.same _ _ n3.at';have cT:∀i x,([.ref t0,.ref t1]:List V)[i]? =some x->i<2/\∃ta sv,x= .ref ta/\H4 ta=some (.tup [sv,.int (oF r f i),.int (ny r f i)])/\kl K H4 sv (wz e b i)/\sX 1900 (wz e b i):=by
   intro i x ex
   match i,ex with |0,ex=>cases ex;exact⟨au,t0,ev,rfl,T0,Re.go s4,be⟩ |1,ex=>cases ex;exact⟨au,t1,gv,rfl,T1,Rg.go s4,bg⟩
  have du:∀i,1<=oF r f i/\oF r f i<=50/\1<=ny r f i/\ny r f i<=50:=λi=>by unfold oF ny;split<;>lia
  refine⟨ll,Z,⟨_,aK.of n4.at'⟩,Gx (K:=K) (a:=ll) (xs:=[.ref t0,.ref t1]) (λi O H5=>aD H4 H5/\∃lv hv v6 v7 v8 v9 lo hi,bC K H5 lv lo/\bC K H5 hv hi/\Bd 1950 lo/\Bd 1950 hi/\lo∈jT r f e b i/\(∀l∈jT r f e b i,l<=lo)/\hi∈lC r f bd e b i/\(∀h∈lC r f bd e b i,hi<=h)/\O=[some (.ref ma),some bv,some ev,some gv,some lv,some hv,v6,v7,v8,v9]) ?_ (λi O H5 _ h=>aK.of (h.1 _ _ n4.at')) ?_ ?_⟩
  ·refine⟨aD.refl _,.ref l0,bv,none,none,none,none,0,bd,R0.go (n2.same.trans (n3.same.trans n4.same)),Rb.go s4,b0,bb.mono au,by simp[jT],λl hl=>?_,by simp[lC],λh hh=>?_,Z⟩
   ·have:l=0:=by simpa[jT]using hl
    rw[this];exact qG
   ·have:h=bd:=by simpa[lC]using hh
    rw[this];exact qG
  ·rintro i x O H5 ex ⟨s5,lv,hv,v6,v7,v8,v9,lo,hi,Rl,Rh,bl,bh,m1,m2,m3,m4,rfl⟩
   obtain⟨dZ,ta,sv,rfl,hT,oV,oB⟩:=cT i x ex;obtain⟨d1,d2,u1,u2⟩:=du i;refine⟨ta,_,Z,aV.of (s5 _ _ hT),Z,_,_,Z,_,_,Z,_,_,Z,Z,?_⟩;refine⟨_,Z,Z,_,Z,?_⟩;cases ho:wz e b i with
   |none=>
    rw[ho]at oV;have ev0:sv= .bR:=oV;subst ev0;refine aQ ⟨s5,lv,hv,_,_,_,_,lo,hi,Rl,Rh,bl,bh,?_,λl hl=>m2 l ?_,?_,λh hh=>m4 h ?_,Z⟩
    ·simpa[jT,ho]using m1
    ·simpa[jT,ho]using hl
    ·simpa[lC,ho]using m3
    ·simpa[lC,ho]using hh |some q=>
    rw[ho]at oV oB;have oV:bC K H4 sv q:=oV;have oB:Bd 1900 q:=oB;obtain⟨sa,e0,_⟩:=id oV;subst e0;refine aU ?_;refine⟨_,Z,_,Z,_,Z,bc Z,λp1 H6 n6=>?_⟩;have zA:=s5.trans n6.same;refine⟨.ref sa,.ref p1,q,_,Z,oV.go zA,Md (aV.of n6.at'),oB.mono au,Ql aq,λv1 H7 R7 s7=>?_⟩;have B0:Bd 1950 (q+((-(oF r f i):Int):Rat)):=(iK oB (by rw[gQ];lia)).mono au;have kX:=n6.same.trans s7;refine⟨λO H8=>aD H7 H8/\∃wM rE,bC K H8 wM rE/\Bd 1950 rE/\rE∈jT r f e b (i+1)/\(∀l∈jT r f e b (i+1),l<=rE)/\O=[some (.ref ma),some bv,some ev,some gv,some wM,some hv,some (.ref sa),some (.int (oF r f i)),some (.int (ny r f i)),some v1],?_,?_⟩
    ·refine⟨_,Z,_,Z,lv,v1,lo,_,Z,Rl.go kX,R7,bl.mono au,B0.mono au,_,Z,?_⟩
     have mem:∀l,l∈jT r f e b (i+1)↔l∈jT r f e b i\/l=q+((-(oF r f i):Int):Rat):=λl=>by simp[jT,ho]
     by_cases bQ:lo<q+((-(oF r f i):Int):Rat)
     ·rw[bT bQ]
      refine aU ⟨_,Z,aD.refl _,v1,_,R7,B0,(mem _).mpr (.inr Z),λl hl=>?_,Z⟩;rcases(mem l).mp hl with h|h
      ·exact qF (m2 l h) (BB bQ)
      ·rw[h];exact qG
     ·rw[cy bQ]
      refine aQ ⟨aD.refl _,lv,lo,Rl.go kX,bl,(mem _).mpr (.inl m1),λl hl=>?_,Z⟩;rcases(mem l).mp hl with h|h
      ·exact m2 l h
      ·rw[h];exact BA.mp bQ
    rintro O H8 ⟨s8,wM,rE,QJ,Qe,Fp,Nd,rfl⟩;have Uu:=kX.trans s8;refine⟨_,Z,_,Z,_,Z,bc Z,λp2 H9 n9=>?_⟩;have nF:=Uu.trans n9.same;refine⟨.ref sa,.ref p2,q,_,Z,oV.go (s5.trans nF),Md (aV.of n9.at'),oB.mono au,Ql aq,λv2 fK R10 gh=>?_⟩;have sM:Bd 1950 (q+(ny r f i:Rat)):=(iK oB (by rw[gQ];lia)).mono au;refine⟨bc Z,λlq gq jR=>?_⟩;have Eb:=nF.trans (gh.trans jR.same);have Ra:=Rh.go Eb;have Rc:=R10.go jR.same;refine⟨lq,[hv,v2],[hi,q+(ny r f i:Rat)],Z,aK.of jR.at',⟨Ra,bh.mono au,Rc,sM.mono au,trivial⟩,by simp,λc v q' e1 e2 hq=>?_⟩;have mem:∀l,l∈lC r f bd e b (i+1)↔l∈lC r f bd e b i\/l=q+(ny r f i:Rat):=λl=>by simp[lC,ho]
    have O5:∀h∈lC r f bd e b (i+1),q'<=h:=λh hh=>by
     rcases(mem h).mp hh with h1|h1
     ·exact qF (hq hi (by simp)) (m4 h h1)
     ·rw[h1];exact hq _ (by simp)
    have LN:=n9.same.trans (gh.trans jR.same)
    match c,e1,e2 with |0,e1,e2=>cases e1;cases e2;exact⟨s5.trans Eb,wM,hv,_,_,_,_,rE,hi,QJ.go LN,Ra,Qe,bh,Fp,Nd,(mem _).mpr (.inl m3),O5,rfl⟩ |1,e1,e2=>cases e1;cases e2;exact⟨s5.trans Eb,wM,v2,_,_,_,_,rE,_,QJ.go LN,Rc,Qe,sM,Fp,Nd,(mem _).mpr (.inr rfl),O5,rfl⟩
  ·rintro O H5 ⟨s5,lv,hv,v6,v7,v8,v9,lo,hi,Rl,Rh,bl,bh,m1,m2,m3,m4,rfl⟩
   refine⟨_,Z,_,Z,hv,lv,hi,lo,Z,Rh,Rl,bh.mono au,bl.mono au,_,Z,?_⟩;have e1:=a4O (ls:=pH r f e b) (hs:=pR r f bd e b) m1 m2 m3 m4;have:=k H5 (s4.trans s5);unfold kZ at this;rw[e1]at this;exact this
def dr(zs:List Int):ah:=.tuple (zs.map PyData.int)
def gb(os:List Itm)(i:Nat):List ah:=match os[i]? with |some (some (ns,_))=>(List.range (aL ns)).map λk=>.tuple [.int i,dr (fP ns k)] |_=>[.tuple [.int i,.none]]
def cZ(os:List Itm):Nat->List ah |0=>[] |i+1=>cZ os i++gb os i
theorem sH{os:List Itm}{i:Nat}{ns:List Int}{sp:Int}(h:os[i]? =some (some (ns,sp))):gb os i=(List.range (aL ns)).map λk=>.tuple [.int i,dr (fP ns k)]:=by unfold gb;rw[h]
theorem sG{os:List Itm}{i:Nat}(h:os[i]? =some none):gb os i=[.tuple [.int i,.none]]:=by unfold gb;rw[h]
theorem UB(zs:List Int):dw (dr zs)=true:=by
 have:cE (zs.map PyData.int)=true:=dh.mpr λd hd=>by obtain⟨i,_,rfl⟩:=eV.mp hd;rfl
 simp[dr,dw,this]
theorem Px(os:List Itm)(i:Nat):cE (gb os i)=true:=by
 unfold gb;split
 ·exact dh.mpr λd hd=>by obtain⟨k,_,rfl⟩:=eV.mp hd;simp[dw,cE,UB]
 ·simp[dw,cE]
theorem PC(os:List Itm):∀i,cE (cZ os i)=true
 |0=>rfl |i+1=>dh.mpr λd hd=>by
  rcases gL.mp hd with h|h
  ·exact dh.mp (PC os i) d h
  ·exact dh.mp (Px os i) d h
theorem sI{n:Nat}{rate:Int}{ds:List ah}{os:List Itm}(row:cH n ds os):∀i,i<=os.length->(cZ os i).length=(fJ rate ds os i).length |0,_=>rfl |i+1,h=>by have ll:=row.len;show(cZ os i++gb os i).length=(fJ rate ds os i++iH rate ds os i).length;rw[cB,cB,sI row i aq];obtain⟨o,eo⟩:∃o,os[i]? =some o:=⟨_,bG (show i<os.length by lia)⟩;cases o with |none=>obtain⟨d',ed⟩:∃d',ds[i]? =some d':=⟨_,bG (show i<ds.length by lia)⟩;rw[xP eo ed,sG eo];rfl |some q=>obtain⟨ns,sp⟩:=q;rw[sF eo,sH eo,bB,bB]
inductive a6r(K:a8)(vs:List V)(H:Hp)(Q:VK):Prop |mk (iv:_)(n:_)(ds:_)(os:_)(h0:vs=[iv])(h1:RD K H iv (.tuple ds))(h2:cH n ds os)(h3:n<=3)(h4:ds.length<=30)(h5:∀l ys H',H l=none->H' l=some (.lst ys)->aJ K H' ys (cZ os os.length)->aD H H'->Q (.ref l) H')
def K0(K:a8):Sp:=λvs H Q _=>a6r K vs H Q
theorem Ly:bF ["_law_items_here","_law_found","_law_number_here","_law_item"] ["_law_items_here"] (bu DW):=bP aP
theorem Xp(F:FA K mg "_law_due_entries" DW)(B:bK mg)(a1d:aB P w K mg az "_law_rows" 3 (Cg K)):aB P w K mg az "_law_due_entries" 4 (K0 K):=by
 refine F.has Ly (λvs H Q E h=>?_) (λ_ _ _ _ _ _=>gz λ_=>rfl) (λfa aO A outer s H vs Q E hr h=>?_)
 ·obtain⟨iv,n,ds,os,rfl,_⟩:=h
  rfl
 ·obtain⟨iv,n,ds,os,rfl,ri,row,n3,hz,k⟩:=h
  have nd:=Ly.nd;refine⟨_,(aC (pS 1 nd (cK aw)) (aC (fR f7 Z (uh K Z false Z (B.at "enumerate") (ak (pv 0) aw)) (cV K rfl (n:=2) rfl (bN (aZ 2 nd) (bN (aZ 3 nd) cU))) (aI (bA (bJ (cC K Z hr.units) (px K (pv 3) aA) cJ (bo _)) (aI (gu (zJ K Z (pv 1) (ak (gj (N:=["_law_row","_law_number_here"]) (js:=[none,some 2]) Z Z Z (qZ K Z (pf a1d hr (ak (pv 3) aw))) (λ_ _ _ _ _=>(aZ 0 (iC au))) (λ_ _ _ _ _=>fy) (λ_ _ _ _ _=>(cg (ak (pv 1) (ak (pv 0) aw))))) aw)))) (aI (gu (iz K Z (pv 1) (ak (cg (ak (pv 2) (ak eQ aw))) aw))))))) (aI (aR (pv 1))))),?_⟩;have ll:=row.len;have pX:sizeLine=16777216:=by decide
  refine⟨bc Z,λD H2 n2=>?_⟩;have nD:=n2.no;obtain⟨ia,xs,rfl,hi,cT⟩:=ri.bX;have lx:=cT.length;refine⟨_,Z,ia,Z,⟨_,hi.go n2.same⟩,uN (K:=K) (b:=false) (a:=ia) (xs:=xs) (λi O H3=>aD H H3/\∃zs v1 v2,H3 D=some (.lst zs)/\aJ K H3 zs (cZ os i)/\O=[some (.ref ia),some (.ref D),v1,v2]) ⟨n2.same,[],none,none,n2.at',cD,Z⟩ (λi O H3 _ h=>hi.go h.1) ?_ ?_⟩
  ·rintro i y O H3 hy ⟨s3,zs,v1,v2,dz,rz,rfl⟩ T H4 n4
   have uB:i<xs.length:=(cL.mp hy).1;obtain⟨d,ed,rd⟩:=cT.get' i hy;obtain⟨o,eo,it⟩:=row.get ed;have s4:=s3.trans n4.same;have pe:=RD.mono s4 _ rd;have ic:=n4.same _ _ dz;have qV:=aJ.mono n4.same _ rz;have tl:=(uS (rate:=100) row i aq).1;have tn:=PC os i;have lz:=rz.length;rw[sI (rate:=100) row i aq]at lz;obtain⟨a,wd,yw,rfl,h1,ew,sw⟩:=Ad pe it;refine⟨T,_,Z,aV.of n4.at',Z,_,_,Z,_,_,Z,Z,?_⟩;refine⟨_,Z,.inr ⟨a,_,0,.str wd,Z,Z,h1,cQ (iP 0) Z,.inr ⟨_,_,cM _,cM _,sw,A0,_,Z,?_⟩⟩⟩;rw[ew];cases o with
   |none=>
    refine aQ ?_;refine⟨_,Z,.inl ⟨Z,_,aK.of ic⟩,?_⟩;refine⟨_,Z,bc Z,λt H5 n5=>?_⟩;have AV:=n5.same _ _ ic;refine⟨D,zs,_,Z,Z,AV,aq,?_⟩;refine⟨λb o e=>?_,_,_,_,cF,?_,Z⟩
    ·rw[bL (cW e nD)];exact n5.same b o (s4 b o e)
    ·show aJ K _ _ (cZ os i++gb os i)
     rw[sG eo];exact aJ.qS AV (aJ.mono n5.same _ qV) (eY (aV.of n5.at') (bV (df _) (bV u9 cD))) tn (by simp[dw,cE]) |some q=>
    obtain⟨ns,sp⟩:=q;refine aU ?_;have kf:=jV it;subst kf;obtain⟨cx,de,dA⟩:=row.ok i ns sp eo;have lj:=mE cx;refine⟨_,Z,.inl ⟨Z,_,aK.of ic⟩,?_⟩;refine⟨_,Z,_,ns,sp,Z,pe,⟨Z,cx.bd,cx.nz⟩,by rw[cx.len];lia,λl3 y3 H6 zP qm p9 s6=>?_⟩;have rC:=p9.length;rw[i6,bB,hX]at rC;refine⟨l3,Z,⟨_,aK.of qm⟩,λD2 H7 n7=>?_⟩;have nE:=Px os i;have lE:(gb os i).length=aL ns:=by rw[sH eo,bB,hX]
    refine PY (K:=K) (ds:=gb os i) _ (aK.of qm) n7 (by rw[lE,rC]) aq nE ?_ ?_
    ·intro q x dd H8 Q' ex qi s8 hq
     have iE:q<aL ns:=by have:=(cL.mp ex).1;lia
     obtain⟨d3,e3,r3⟩:=p9.get' q ex;rw[i6,bU,kT iE]at e3;cases e3;rw[sH eo,bU,kT iE]at qi;cases qi;refine⟨_,Z,_,Z,bc Z,λt H9 n9=>?_⟩;exact hq _ _ n9.same (eY (aV.of n9.at') (bV (df _) (bV (RD.mono (s8.trans n9.same) _ r3) cD)))
    ·intro H8 z8 s8 d8 r8
     have iU:=s6.trans s8;have qk:=iU _ _ ic;have l8:=r8.length;refine⟨D,D2,zs,z8,Z,Z,qk,d8,aq,?_⟩;have tu:dN H8 (L2.upd H8 D (.lst (zs++z8))):=.fM qk;refine⟨λb o e=>?_,_,_,_,cF,?_,Z⟩
     ·rw[bL (cW e nD)];exact iU b o (s4 b o e)
     ·exact(aJ.t tu _ tn (aJ.mono iU _ qV)).append (aJ.t tu _ nE r8)
  ·rintro O H3 ⟨s3,zs,v1,v2,dz,rz,rfl⟩
   rw[lx,ll]at rz;exact⟨_,Z,k D zs H3 nD dz rz s3⟩
theorem Ll:bF ["_law_thing"] ["_law_thing"] (bu DJ):=bP aP
theorem A9{z:Str}(h:SeqAt.shaped (.str z)=true):QY (.str z):=.inr ⟨z,Z,h,by simp[PyData.eqv]⟩
theorem Lx:bF ["_law_machine_here","_law_item","_law_row","_law_rate","_law_entry","_law_t","_law_square"] ["_law_machine_here","_law_item","_law_row","_law_rate","_law_entry"] (bu DV):=bP aP
theorem Py{n:Nat}{ds:List ah}{os:List Itm}(row:cH n ds os){i:Nat}(hi:i<os.length):1<=(gb os i).length:=by obtain⟨o,eo⟩:∃o,os[i]? =some o:=⟨_,bG hi⟩;cases o with |none=>rw[sG eo];exact bw _ |some q=>obtain⟨ns,sp⟩:=q;obtain⟨cx,_,_⟩:=row.ok i ns sp eo;have:=cx.lead;rw[sH eo,bB,hX];lia
theorem Hf(os:List Itm){i k:Nat}(h:i<=k):(cZ os i).length<=(cZ os k).length:=by induction h with |refl=>exact bw _ |step _ ih=>refine eL ih ?_;show _<=(cZ os _++gb os _).length;rw[cB];lia
theorem Pu{n0:Nat}{j rate:Int}{ds:List ah}{os:List Itm}(row:cH n0 ds os):∀n,n<=os.length->∀k,k<(cZ os n).length->∃i c,i<n/\k=(cZ os i).length+c/\c<(gb os i).length/\(cZ os n)[k]? =(gb os i)[c]? /\(fJ rate ds os n)[k]? =(iH rate ds os i)[c]? /\(jd j rate os n)[k]? =(kj j rate os i)[c]?
 |0,_,k,h=>by simp[cZ]at h |n+1,hn,k,h=>by
  have l1:=sI (rate:=rate) row n aq;have l2:=qv (j:=j) (rate:=rate) row n aq;by_cases hk:k<(cZ os n).length
  ·obtain⟨i,c,a1,a2,a3,a4,a5,a6⟩:=Pu (j:=j) (rate:=rate) row n aq k hk
   refine⟨i,c,aq,a2,a3,?_,?_,?_⟩
   ·rw[<-a4];exact qJ hk
   ·rw[<-a5];exact qJ aq
   ·rw[<-a6];exact qJ aq
  ·have h':k<(cZ os n++gb os n).length:=h
   rw[cB]at h';refine⟨n,k-(cZ os n).length,aq,aq,aq,?_,?_,?_⟩
   ·exact oQ aq
   ·rw[l1];exact oQ aq
   ·rw[l1,<-l2];exact oQ aq
structure At(j rate:Int)(ds:List ah)(os:List Itm)(k i c:Nat):Prop where
 hi:i<os.length
 ek:k=(cZ os i).length+c
 hc:c<(gb os i).length
 dl:(cZ os os.length)[k]? =(gb os i)[c]?
 du:(fJ rate ds os os.length)[k]? =(iH rate ds os i)[c]?
 bd:(dG j rate os)[k]? =(kj j rate os i)[c]?
theorem Bg{n0:Nat}{j rate:Int}{ds:List ah}{os:List Itm}(row:cH n0 ds os){k:Nat}(h:k<(cZ os os.length).length):∃i c,At j rate ds os k i c:=by obtain⟨i,c,a1,a2,a3,a4,a5,a6⟩:=Pu (j:=j) (rate:=rate) row _ (bw _) k h;refine⟨i,c,a1,a2,a3,a4,a5,?_⟩;rw[<-a6];refine qJ ?_;rw[qv (ds:=ds) row _ (bw _),<-sI row _ (bw _)];exact h
theorem At.num{j rate:Int}{ds:List ah}{os:List Itm}{k i c:Nat}(h:At j rate ds os k i c):∃rd,(cZ os os.length)[k]? =some (.tuple [.int i,rd]):=by obtain⟨o,eo⟩:∃o,os[i]? =some o:=⟨_,bG h.hi⟩;have hc:=h.hc;rw[h.dl];cases o with
 |none=>
  rw[sG eo]at hc⊢;have:c=0:=by simpa using hc
  subst this;exact⟨_,Z⟩ |some q=>obtain⟨ns,sp⟩:=q;rw[sH eo]at hc⊢;rw[bB,hX]at hc;rw[bU,kT hc];exact⟨_,Z⟩
theorem At.prev{n0:Nat}{j rate:Int}{ds:List ah}{os:List Itm}(row:cH n0 ds os){k i c i' c':Nat}(h:At j rate ds os (k+1) i c)(g:At j rate ds os k i' c'):(i'=i/\0<c)\/(i'+1=i/\c=0):=by
 have e1:=h.ek;have e2:=g.ek;have b1:=h.hc;have b2:=g.hc;have step:∀x,(cZ os (x+1)).length=(cZ os x).length+(gb os x).length:=λx=>by show(cZ os x++gb os x).length=_;rw[cB]
 rcases Nat.lt_trichotomy i' i with bQ|heq|Oe
 ·by_cases hs:i'+1=i
  ·subst hs
   rw[step]at e1;exact .inr ⟨Z,aq⟩
  ·have m1:=Hf os (show i'+2<=i by lia)
   have s1:=step i';have s2:=step (i'+1);have ne:=Py row (show i'+1<os.length by have:=h.hi;lia);rw[show i'+2=i'+1+1 from Z,s2,s1]at m1
   lia
 ·subst heq
  exact .inl ⟨Z,aq⟩
 ·have m1:=Hf os (show i+1<=i' by lia)
  rw[step]at m1
  lia
theorem VV(j rate:Int)(os:List Itm):ownF j rate os os.length=0:=by cases h:os.length with |zero=>rfl |succ n=>show betR j rate (atO os n) (atO os (n+1))=0;rw[Ow.Qz (i:=n+1) aq,Ow.Hv]
theorem VU{j rate:Int}{os:List Itm}{i:Nat}(h:os[i]? =some none):ownF j rate os (i+1)=0:=by show betR j rate (atO os i) (atO os (i+1))=0;rw[Ow.sR h];rfl
theorem Hx{j rate:Int}{os:List Itm}{i:Nat}(hi:i<os.length):(kj j rate os i)[0]? =some (ownF j rate os i):=by obtain⟨o,eo⟩:∃o,os[i]? =some o:=⟨_,bG hi⟩;cases o with |none=>rw[Be eo];rfl |some q=>obtain⟨ns,sp⟩:=q;rw[xZ eo];rfl
theorem a4B{j rate:Int}{os:List Itm}{i c:Nat}{ns:List Int}{sp:Int}(eo:os[i]? =some (some (ns,sp)))(h0:0<c)(hc:c<aL ns):(kj j rate os i)[c]? =some (topR rate sp):=by rw[xZ eo];obtain⟨c',rfl⟩:∃c',c=c'+1:=⟨c-1,aq⟩;rw[List.getElem?_cons_succ,List.getElem?_replicate,aX aq]
theorem uR{d:ah}{zs:List Int}{top:Rat}(h:gA d):d≠g9 zs top:=λe=>by rcases h with⟨n,rfl,_,_⟩|⟨wd,z,rfl,_⟩<;>simp[g9]at e
theorem Z2{d:ah}{zs:List Int}{top:Rat}(h:itR d none):d≠g9 zs top:=λe=>by
 rcases h with⟨ns,sp,_,h⟩|⟨wd,x,rfl,_,_,_⟩
 ·cases h
 ·simp[g9]at e
def iD:ah->Bool | .tuple [.int p,.int q]=>decide (0<q)&&decide ((Int.gcd p q:Int)=1) |_=>false
theorem BU(d:ah):(∃a b,d= .tuple [a,b])\/(∃ds,d= .tuple ds/\ds.length≠2/\iD d=false)\/(eX (da d) "tuple"=false/\iD d=false):=by cases d with
 |tuple ds=>match ds with |[a,b]=>exact .inl ⟨a,b,Z⟩ |[]=>exact .inr (.inl ⟨_,Z,au,Z⟩) |[_]=>exact .inr (.inl ⟨_,Z,by simp,by simp[iD]⟩) |_::_::_::_=>exact .inr (.inl ⟨_,Z,by simp,by simp[iD]⟩)
 |_=>exact .inr (.inr ⟨by simp[da];decide,Z⟩)
theorem Gv{a b:ah}(h:∀i,a≠ .int i):iD (.tuple [a,b])=false:=by cases a<;>first|rfl|exact absurd rfl (h _)
theorem Gu{a b:ah}(h:∀i,b≠ .int i):iD (.tuple [a,b])=false:=by cases a<;>cases b<;>first|rfl|exact absurd rfl (h _)
inductive a6i(K:a8)(vs:List V)(H:Hp)(Q:VK):Prop |mk (v:_)(d:_)(h0:vs=[v])(h1:RD K H v d)(h2:Q (.bl (iD d)) H)
def Cw(K:a8):Sp:=λvs H Q _=>a6i K vs H Q
theorem Xh(F:FA K mg "is_fraction" DK)(B:bK mg)(lH:aB P w K mg az "is_whole" 1 (iS K))(Ge:aB P w K mg az "common_divisor" 1 zv):aB P w K mg az "is_fraction" 2 (Cw K):=by
 refine F.has Lm (λvs H Q E h=>?_) (λ_ _ _ _ _ _=>gz λ_=>rfl) (λf aO A outer s H vs Q E hr h=>?_)
 ·obtain⟨v,d,rfl,_⟩:=h
  rfl
 ·obtain⟨v,d,rfl,rd,k⟩:=h
  have nd:=Lm.nd;refine⟨_,(aC (bA (PW.pt (fw (cS (ck (fj K B (ak (pv 0) (ak (eZ (x:="tuple") (v:=.ty "tuple") Z (B.at "tuple") gC rfl) aw))))) (iy (bJ (iB K rfl hr.units) (dF K B (ak (pv 0) aw)) aA (bo _))))) (aI (aR gE)) bE) (aC (eB (pv 0) (cV K Z (n:=2) Z (bN (aZ 1 nd) (bN (aZ 2 nd) cU)))) (aC (bA (PW.pt (fw (cS (ck (pf lH hr (ak (pv 1) aw)))) (iy (cS (ck (pf lH hr (ak (pv 2) aw))))))) (aI (aR gE)) bE) (aI (aR (iY (fF kH (pv 2) aA (bo _)) (jw (fF (cC K Z hr.units) (pf Ge hr (ak (pv 1) (ak (pv 2) aw))) aA (bo _))))))))),?_⟩;rcases BU d with⟨x,y,rfl⟩|⟨ds,rfl,hl,hf⟩|⟨ht,hf⟩
  ·refine⟨_,Z,.inl ⟨_,_,"tuple",true,Z,rd.ty,au,jk,_,Z,aQ ?_⟩⟩
   obtain⟨p,xs,rfl,hx,hd⟩:=rd.bX;obtain⟨u1,ys,rfl,r1,hd⟩:=hd.cons_inv;obtain⟨u2,ys,rfl,r2,hd⟩:=hd.cons_inv;cases hd.nil_inv;refine⟨_,Z,p,_,Z,.inr hx,.inl ⟨_,_,Z,Z,_,Z,aQ ?_⟩⟩;refine⟨_,Z,p,_,Z,hx,Z,_,_,Z,_,_,Z,Z,?_⟩;refine⟨_,Z,_,_,Z,r1.ty,_,Z,?_⟩;rcases jM x with⟨i,rfl,e⟩|⟨e,hn⟩
   ·cases r1.int_inv
    rw[e];refine aQ ?_;refine⟨_,Z,_,_,Z,r2.ty,_,Z,?_⟩;rcases jM y with⟨j,rfl,e⟩|⟨e,hn⟩
    ·cases r2.int_inv
     rw[e];refine aQ ?_;refine⟨_,Z,_,_,Z,Z,_,Z,?_⟩;have k:Q (.bl (decide (0<j)&&decide ((Int.gcd i j:Int)=1))) H:=k;refine dM (λhc=>?_) (λhc=>?_)
     ·have ib:decide (0<j)=true:=hc
      rw[ib,jL]at k;exact⟨_,Z,_,Z,_,_,Z,.inl ⟨_,_,Z,Z,k⟩⟩
     ·have ib:decide (0<j)=false:=oU.mpr hc
      rw[ib,ji]at k;exact k
    ·rw[e]
     refine aU ?_;rw[Gu hn]at k;exact k
   ·rw[e]
    refine aU ?_;rw[Gv hn]at k;exact k
  ·rw[hf]at k
   refine⟨_,Z,.inl ⟨_,_,"tuple",true,Z,rd.ty,au,jk,_,Z,aQ ?_⟩⟩;obtain⟨p,xs,rfl,hx,hd⟩:=rd.bX;refine⟨_,Z,p,_,Z,.inr hx,.inl ⟨_,_,Z,Z,_,Z,?_⟩⟩;have e:(!decide ((xs.length:Int)=2))=true:=by rw[hd.length];simp;omega
   rw[e];exact aU k
  ·rw[hf]at k
   refine⟨_,Z,.inl ⟨_,_,"tuple",false,Z,rd.ty,au,ht,_,Z,aU ?_⟩⟩;exact k
theorem AI{d:ah}(h:iD d=true):∃q:Rat,d=bM q:=by
 rcases BU d with⟨x,y,rfl⟩|⟨ds,rfl,_,hf⟩|⟨_,hf⟩
 ·rcases jM x with⟨p,rfl,_⟩|⟨_,hn⟩
  ·rcases jM y with⟨q,rfl,_⟩|⟨_,hn⟩
   ·have h:(decide (0<q)&&decide ((Int.gcd p q:Int)=1))=true:=h
    rw[f9]at h;have h1:=il h.1;have h2:=il h.2;refine⟨⟨p,q.toNat,aH,?_⟩,?_⟩
    ·have:Nat.gcd p.natAbs q.natAbs=1:=by unfold Int.gcd at h2;omega
     rw[show q.toNat=q.natAbs by omega];exact this
    ·show PyData.tuple [.int p,.int q]= .tuple [.int p,.int (q.toNat:Int)]
     rw[IS aH]
   ·rw[Gu hn]at h;cases h
  ·rw[Gv hn]at h;cases h
 ·rw[hf]at h;cases h
 ·rw[hf]at h;cases h
theorem zG(q:Rat):iD (bM q)=true:=by show(decide (0<(q.den:Int))&&decide ((Int.gcd q.num q.den:Int)=1))=true;have h1:=q.den_pos;have h2:Nat.gcd q.num.natAbs q.den=1:=q.reduced;rw[f9];refine⟨bT aH,bT ?_⟩;unfold Int.gcd;rw[yP,h2];rfl
noncomputable def pB(p:Prop):Bool:=@decide p (Classical.propDecidable p)
theorem jx{p:Prop}(h:p):pB p=true:=@decide_eq_true p (Classical.propDecidable p) h
theorem dI{p:Prop}(h:¬p):pB p=false:=@decide_eq_false p (Classical.propDecidable p) h
theorem wk(p:Prop):(p/\pB p=true)\/(¬p/\pB p=false):=(Classical.em p).elim (λh=>.inl ⟨h,jx h⟩) λh=>.inr ⟨h,dI h⟩
def ye(zs:List Int)(e:ah):Prop:=∃a b,e= .tuple [.str "step",dr zs,a,b]
def sV(ti:Int)(a b:ah):Prop:=∃q:Rat,0<q/\b=bM q/\a= .int (nA ti q)
theorem Je(d:ah):(∃a b c e,d= .tuple [a,b,c,e])\/(∃ds,d= .tuple ds/\ds.length≠4)\/(eX (da d) "tuple"=false/\∀ds,d≠ .tuple ds):=by
 rcases tO d with⟨ds,rfl⟩|h
 ·match ds with |[a,b,c,e]=>exact .inl ⟨a,b,c,e,Z⟩ |[]=>exact .inr (.inl ⟨_,Z,by simp⟩) |[_]=>exact .inr (.inl ⟨_,Z,by simp⟩) |[_,_]=>exact .inr (.inl ⟨_,Z,by simp⟩) |[_,_,_]=>exact .inr (.inl ⟨_,Z,by simp⟩) |_::_::_::_::_::_=>exact .inr (.inl ⟨_,Z,by simp⟩)
 ·exact .inr (.inr h)
theorem GO:∀{xs ys:List ah},PyData.eqvAll xs ys=true->xs.length=ys.length/\∀(i:Nat)(x y:ah),xs[i]? =some x->ys[i]? =some y->PyData.eqv x y=true
 |[],[],_=>⟨Z,λi x y e=>by simp at e⟩ |x::xs,y::ys,h=>by rw[PyData.eqvAll,f9]at h;obtain⟨h1,h2⟩:=GO h.2;refine⟨by simp[h1],λi a b e1 e2=>?_⟩;cases i with |zero=>cases e1;cases e2;exact h.1 |succ i=>exact h2 i a b (by simpa using e1) (by simpa using e2)
 |[],_::_,h=>by simp[PyData.eqvAll]at h |_::_,[],h=>by simp[PyData.eqvAll]at h
theorem AM{x:ah}{z:Int}(h:PyData.eqv x (.int z)=true)(w:eF (da x)=true):x= .int z:=by
 rcases jM x with⟨i,rfl,_⟩|⟨e,_⟩
 ·have:(i==z)=true:=by simpa[PyData.eqv]using h
  rw[eU.mp this]
 ·rw[e]at w;cases w
theorem a3j{b:ah}{zs:List Int}(h:PyData.eqv b (dr zs)=true):∃bs,b= .tuple bs/\bs.length=zs.length/\∀(i:Nat)(x:ah)(z:Int),bs[i]? =some x->zs[i]? =some z->PyData.eqv x (.int z)=true:=by cases b with
 |tuple bs=>
  have h:PyData.eqvAll bs (zs.map PyData.int)=true:=by simpa[dr,PyData.eqv]using h
  obtain⟨h1,h2⟩:=GO h;exact⟨bs,Z,by simpa using h1,λi x z e1 e2=>h2 i x _ e1 (by rw[bU,e2];rfl)⟩ |_=>simp[dr,PyData.eqv]at h
theorem vX(zs:List Int):bW 1 (dr zs):=dP.tup (n:=0) λd hd=>by obtain⟨i,_,rfl⟩:=eV.mp hd;exact .int i
theorem a4R{bs:List ah}{zs:List Int}(hl:bs.length=zs.length)(h:∀(i:Nat)(x:ah)(z:Int),bs[i]? =some x->zs[i]? =some z->PyData.eqv x (.int z)=true):(bs.map λx=>eF (da x)).all id=pB (PyData.tuple bs=dr zs):=by
 rcases wk (PyData.tuple bs=dr zs)with⟨e,hp⟩|⟨ne,hp⟩
 ·rw[hp,fD]
  intro y hy;obtain⟨x,hx,rfl⟩:=eV.mp hy;injection e with e;rw[e]at hx;obtain⟨z,_,rfl⟩:=eV.mp hx;exact(by decide:eF "int"=true)
 ·rw[hp]
  cases e:(bs.map λx=>eF (da x)).all id with |false=>rfl |true=>refine(ne ?_).elim;have e:=fD.mp e;show PyData.tuple bs= .tuple (zs.map PyData.int);congr 1;refine vx λi=>?_;rw[bU];cases ez:zs[i]? with |none=>exact jJ (by rw[hl];exact List.getElem?_eq_none_iff.mp ez) |some z=>obtain⟨x,ex⟩:∃x,bs[i]? =some x:=⟨_,bG (by rw[hl];exact(cL.mp ez).1)⟩;rw[ex];have wx:=e _ (eV.mpr ⟨x,fC ex,Z⟩);rw[AM (h i x z ex ez) wx];rfl
theorem w9{H:Hp}{v:V}{a b c d:ah}(h:RD K H v (.tuple [a,b,c,d])):∃p u1 u2 u3 u4,v= .ref p/\aV K H p [u1,u2,u3,u4]/\RD K H u1 a/\RD K H u2 b/\RD K H u3 c/\RD K H u4 d:=by obtain⟨p,xs,rfl,hx,hd⟩:=h.bX;obtain⟨u1,ys,rfl,r1,hd⟩:=hd.cons_inv;obtain⟨u2,ys,rfl,r2,hd⟩:=hd.cons_inv;obtain⟨u3,ys,rfl,r3,hd⟩:=hd.cons_inv;obtain⟨u4,ys,rfl,r4,hd⟩:=hd.cons_inv;cases hd.nil_inv;exact⟨p,u1,u2,u3,u4,Z,hx,r1,r2,r3,r4⟩
inductive a5N(K:a8)(vs:List V)(H:Hp)(Q:VK):Prop |mk (v:_)(u:_)(zs:_)(e:_)(h0:vs=[v,u])(h1:RD K H v (dr zs))(h2:RD K H u e)(h3:bW 8 e)(h4:zs.length<=1000)(h5:∀H',aD H H'->Q (.bl (pB (ye zs e))) H')
def JQ(K:a8):Sp:=λvs H Q _=>a5N K vs H Q
theorem Wy(F:FA K mg "is_step_with" D3)(B:bK mg)(lH:aB P w K mg az "is_whole" 1 (iS K)):aB P w K mg az "is_step_with" 2 (JQ K):=by
 refine F.has Kt (λvs H Q E h=>?_) (λ_ _ _ _ _ _=>e9 λ_ _=>rfl) (λfa aO A outer s H vs Q E hr h=>?_)
 ·obtain⟨v,u,zs,e,rfl,_⟩:=h
  rfl
 ·obtain⟨v,u,zs,e,rfl,rv,ru,ok,lz,k⟩:=h
  have nd:=Kt.nd;refine⟨_,(aC (bA (PW.pt (fw (cS (ck (fj K B (ak (pv 1) (ak (eZ (x:="tuple") (v:=.ty "tuple") Z (B.at "tuple") gC rfl) aw))))) (fw (bJ (iB K rfl hr.units) (dF K B (ak (pv 1) aw)) aA (bo _)) (iy (bJ (iB K rfl hr.units) (px K (pv 1) aA) cJ (bo _)))))) (aI (aR gE)) bE) (aI (aR (iY (fF (cC K Z hr.units) (px K (pv 1) aA) (pv 0) (bo _)) (jw (dv (x:="all") (uZ K Z Z) Z (B.at "all") yF (ak (gj (N:=["number"]) (js:=[none]) rfl rfl rfl (kG K rfl (px K (pv 1) aA)) (λ_ _ _ _ _=>(aZ 0 (nY _))) (λ_ _ _ _ _=>fy) (λ_ _ _ _ _=>(pf lH hr (ak (pv 0) aw)))) aw))))))),?_⟩;rcases Je e with⟨a,b,c,d,rfl⟩|⟨ds,rfl,hl⟩|⟨ht,hn⟩
  ·obtain⟨p,u1,u2,u3,u4,rfl,h1,r1,r2,r3,r4⟩:=w9 ru
   refine⟨_,Z,.inl ⟨_,_,"tuple",true,Z,ru.ty,au,jk,_,Z,aQ ?_⟩⟩;refine⟨_,Z,p,_,Z,.inr h1,.inl ⟨_,_,Z,Z,_,Z,aQ ?_⟩⟩;refine⟨_,Z,.inr ⟨p,_,0,u1,Z,Z,h1,Z,.inr ⟨a,_,r1,cM _,i4 (pA ok (by simp)),aP,_,Z,?_⟩⟩⟩;rw[kc];cases ea:f6 "step" a with |false=>rw[dI (λ⟨x,y,z⟩=>by injection z with z;injection z with z;subst z;revert ea;decide+kernel)]at k;exact aU (k H (aD.refl _)) |true=>cases FO ea;refine aQ ?_;refine⟨_,Z,.inr ⟨p,_,1,u2,Z,Z,h1,Z,_,Z,.inr ⟨b,_,r2,rv,i4 (pA ok (by simp)),(vX zs).shaped au,?_⟩⟩⟩;cases eb:PyData.eqv b (dr zs)with |false=>rw[dI (λ⟨x,y,z⟩=>by injection z with z;injection z with _ z;injection z with z;subst z;rw[(vX zs).refl]at eb;cases eb)]at k;exact⟨_,Z,aQ (k H (aD.refl _))⟩ |true=>
    obtain⟨bs,rfl,lb,hb⟩:=a3j eb;obtain⟨bp,bx,rfl,Oj,pV⟩:=r2.bX;have lx:=pV.length;refine⟨_,Z,aU ?_⟩;refine⟨_,Z,.inr ⟨p,_,1,.ref bp,Z,Z,h1,Z,bp,Z,⟨_,Oj⟩,λD H2 n2=>?_⟩⟩;refine xV (xs:=bx) (bs:=bs.map λx=>eF (da x)) [] Oj n2 (by rw[bB];omega) aH ?_ ?_
    ·intro i x y H3 Q' ex ey s3 hq
     obtain⟨d2,e2,rx⟩:=pV.get' i ex;rw[bU,e2]at ey;cases ey;exact⟨_,Z,x,_,Z,(RD.mono s3 _ rx).ty,hq _ (aD.refl _)⟩
    ·intro H3 s3 d3
     refine⟨D,_,Z,aK.of d3,?_⟩;have e:pB (ye zs (.tuple [.str "step",.tuple bs,c,d]))=pB (PyData.tuple bs=dr zs):=by
      rcases wk (PyData.tuple bs=dr zs)with⟨e,hp⟩|⟨ne,hp⟩
      ·rw[hp,e];exact jx ⟨_,_,Z⟩
      ·rw[hp];exact dI λ⟨x,y,z⟩=>ne (by injection z with z;injection z with _ z;injection z)
     rw[a4R lb hb,<-e];exact k H3 s3
  ·rw[dI (λ⟨x,y,z⟩=>by injection z with z;subst z;exact hl rfl)]at k
   refine⟨_,Z,.inl ⟨_,_,"tuple",true,Z,ru.ty,au,jk,_,Z,aQ ?_⟩⟩;obtain⟨p,xs,rfl,hx,hd⟩:=ru.bX;refine⟨_,Z,p,_,Z,.inr hx,.inl ⟨_,_,Z,Z,_,Z,?_⟩⟩;have e:(!decide ((xs.length:Int)=4))=true:=by rw[hd.length];simp;omega
   rw[e];exact aU (k H (aD.refl _))
  ·rw[dI (λ⟨x,y,z⟩=>hn _ z)]at k
   exact⟨_,Z,.inl ⟨_,_,"tuple",false,Z,ru.ty,au,ht,_,Z,aU (k H (aD.refl _))⟩⟩
inductive a5C(K:a8)(vs:List V)(H:Hp)(Q:VK):Prop |mk (m:_)(tv:_)(sv:_)(rs:_)(r:_)(f:_)(j:_)(ti:_)(dt:_)(dq:_)(h0:vs=[m,tv,sv])(h1:RD K H m (dQ rs r f j ti))(h2:RD K H tv dt)(h3:RD K H sv dq)(h4:1<=ti)(h5:ti<=100)(h6:(∀t,dt= .int t->t.natAbs<2^2400))(h7:(∀q,dq=bM q->Bd 1900 q))(h8:∀H',aD H H'->Q (.bl (pB (sV ti dt dq))) H')
def JK(K:a8):Sp:=λvs H Q _=>a5C K vs H Q
theorem wc{q p:Rat}(h:bM q=bM p):q=p:=by unfold bM at h;injection h with h;injection h with h1 h;injection h with h2 h;injection h1 with h1;injection h2 with h2;exact Rat.ext h1 aH
theorem sV.iff{ti t:Int}{q:Rat}(h1:1<=ti)(h2:ti<=100)(bq:Bd 2000 q)(q0:0<q)(t1:1<=t):sV ti (.int t) (bM q)↔dj ti q t=true/\dj ti q (t-1)=false:=by
 constructor
 ·rintro⟨p,p0,e1,e2⟩
  cases wc e1;injection e2 with e2;subst e2;exact(zb h1 h2 q0 bq).2.2
 ·rintro⟨a,b⟩
  exact⟨q,q0,Z,by rw[zc (BN (nX q0)) ⟨t1,a,b⟩]⟩
theorem Ws(F:FA K mg "is_timed" CQ)(B:bK mg)(gN:GT K mg "NOUGHT" [.int 0,.int 1])(lH:aB P w K mg az "is_whole" 1 (iS K))(a08:aB P w K mg az "is_fraction" 2 (Cw K))(oo:aB P w K mg az "is_less" 1 (kz K))(xA:aB P w K mg az "are_enough" 1 (zu K)):aB P w K mg az "is_timed" 3 (JK K):=by
 refine F.has Kj (λvs H Q E h=>?_) (λ_ _ _ _ _ _=>iJ λ_ _ _=>rfl) (λfa aO A outer s H vs Q E hr h=>?_)
 ·obtain⟨m,tv,sv,rs,r,f,j,ti,dt,dq,rfl,_⟩:=h
  rfl
 ·obtain⟨m,tv,sv,rs,r,f,j,ti,dt,dq,rfl,rm,rt,rq,vE,zd,bt,bq,k⟩:=h
  have nd:=Kj.nd;obtain⟨aN,oz,p4⟩:=gN;refine⟨_,(aC (bA (PW.pt (fw (cS (ck (pf lH hr (ak (pv 1) aw)))) (fw (bJ jy (pv 1) aA (bo _)) (fw (cS (ck (pf a08 hr (ak (pv 2) aw)))) (iy (cS (ck (pf oo hr (ak (dg (x:="NOUGHT") Z oz) (ak (pv 2) aw)))))))))) (aI (aR gE)) bE) (aI (aR (iY (pf xA hr (ak (pv 0) (ak (pv 2) (ak (pv 1) aw)))) (jw (rf (pf xA hr (ak (pv 0) (ak (pv 2) (ak (aG fT (pv 1) aA) aw)))))))))),?_⟩;have k:=k H (aD.refl _);refine⟨_,Z,_,_,Z,rt.ty,_,Z,?_⟩;rcases jM dt with⟨t,rfl,e⟩|⟨e,hn⟩
  ·cases rt.int_inv
   have t2:=bt t rfl;rw[e];refine aQ ⟨_,Z,_,_,Z,Z,_,Z,?_⟩;by_cases t1:t<1
   ·rw[bT t1]
    rw[dI (λ⟨q,q0,e1,e2⟩=>by injection e2 with e2;subst e1;have:=(zb vE zd q0 ((bq q rfl).mono au)).1;omega)]at k;exact aU k
   rw[cy t1];refine aQ ?_;refine⟨_,Z,sv,dq,Z,rq,_,Z,?_⟩;cases fr:iD dq with |false=>rw[dI (λ⟨q,q0,e1,e2⟩=>by subst e1;rw[zG]at fr;cases fr)]at k;exact aU k |true=>
    obtain⟨q,rfl⟩:=AI fr;have bq:=(bq q Z).mono (m:=2000) au;have Rq:bC K H sv q:=fQ rq;refine aQ ?_;refine⟨_,Z,.ref aN,sv,0,q,Z,⟨aN,Z,p4 H⟩,Rq,⟨au,au⟩,bq,_,Z,?_⟩;by_cases q0:0<q
    ·rw[bT q0]
     have vF:=sV.iff vE zd bq q0 (show 1<=t by omega);refine aQ ?_;refine⟨_,Z,_,Z,_,Z,m,sv,t,rs,r,f,j,ti,q,Z,rm,Rq,bq,vE,zd,aH,t2,?_⟩;cases Pj:dj ti q t with |false=>rw[dI (λh=>by have:=(vF.mp h).1;rw[Pj]at this;cases this)]at k;exact⟨_,Z,aQ k⟩ |true=>refine⟨_,Z,aU ?_⟩;refine⟨_,Z,_,Z,_,Z,_,_,Z,Z,m,sv,t-1,rs,r,f,j,ti,q,Z,rm,Rq,bq,vE,zd,aH,aH,?_⟩;cases Ph:dj ti q (t-1)with |true=>rw[dI (λh=>by have:=(vF.mp h).2;rw[Ph]at this;cases this)]at k;exact⟨_,Z,k⟩ |false=>rw[jx (vF.mpr ⟨Pj,Ph⟩)]at k;exact⟨_,Z,k⟩
    ·rw[cy q0]
     rw[dI (λ⟨p,p0,e1,e2⟩=>by cases wc e1;exact q0 p0)]at k;exact aU k
  ·rw[e]
   rw[dI (λ⟨q,q0,e1,e2⟩=>hn _ e2)]at k;exact aU k
structure lZ(e:ah):Prop where
 ok:bW 7 e
 sh:vS e=true
 bt:∀a b t c,e= .tuple [a,b,.int t,c]->t.natAbs<2^2400
 bq:∀a b c p q,e= .tuple [a,b,c,.tuple [.int p,.int q]]->p.natAbs<2^1900/\q.natAbs<2^1900
theorem lZ.bd{a b c:ah}{q:Rat}(h:lZ (.tuple [a,b,c,bM q])):Bd 1900 q:=by obtain⟨h1,h2⟩:=h.bq a b c q.num q.den rfl;exact⟨h1,by rw[yP]at h2;exact h2⟩
inductive fB(ti:Int)(du e:ah):Option Rat->Nat->Prop |gR:e=du->gA du->fB ti du e none 0 |wm:e≠du->gA du->lZ e->fB ti du e none 1 |tR (zs:List Int)(top q:Rat):du=g9 zs top->e=m9 ti zs q->0<q->Bd 1900 q->Bd 2000 top->zs.length<=1000->fB ti du e (some q) (if top<q then 3 else 0) |vK (zs:List Int)(top:Rat):du=g9 zs top->¬ye zs e->lZ e->zs.length<=1000->fB ti du e none 1 |vJ (zs:List Int)(top:Rat)(a b:ah):du=g9 zs top->e= .tuple [.str "step",dr zs,a,b]->¬sV ti a b->lZ e->zs.length<=1000->fB ti du e none 2
theorem fB.wu{ti:Int}{du e:ah}{s:Option Rat}{y:Nat}(h:fB ti du e s y):sX 1900 s:=by cases h with |tR _ _ _ _ _ _ b _ _=>exact b |_=>trivial
theorem a3o(ti:Int){du e:ah}(o:gA du)(h:lZ e):∃y,fB ti du e none y:=by
 by_cases he:e=du
 ·exact⟨_,.gR he o⟩
 ·exact⟨_,.wm he o h⟩
theorem a3n(ti:Int){zs:List Int}{top:Rat}{e:ah}(bt:Bd 2000 top)(lz:zs.length<=1000)(h:lZ e):∃s y,fB ti (g9 zs top) e s y:=by
 by_cases hw:ye zs e
 ·obtain⟨a,b,rfl⟩:=hw
  by_cases ht:sV ti a b
  ·obtain⟨q,q0,rfl,rfl⟩:=ht
   exact⟨_,_,.tR zs top q Z Z q0 h.bd bt lz⟩
  ·exact⟨_,_,.vJ zs top a b Z Z ht h lz⟩
 ·exact⟨_,_,.vK zs top Z hw h lz⟩
theorem MC{d:ah}(o:gA d):∃wd u,d= .tuple [.str wd,u]/\f6 "step" (.str wd)=false/\SeqAt.shaped (.str wd)=true:=by
 rcases o with⟨n,rfl,_,_⟩|⟨wd,z,rfl,hw,_,_⟩
 ·exact⟨"wait",_,Z,aP,aP⟩
 ·refine⟨wd,_,Z,?_⟩
  rcases hw with rfl|rfl<;>exact⟨aP,aP⟩
theorem AL{x:ah}{z:Str}(h:PyData.eqv x (.str z)=true):x= .str z:=FO (by rw[<-kc];exact h)
theorem GN{e x y:ah}(h:PyData.eqv e (.tuple [x,y])=true):∃a b,e= .tuple [a,b]/\PyData.eqv a x=true/\PyData.eqv b y=true:=by cases e with
 |tuple bs=>
  have h:PyData.eqvAll bs [x,y]=true:=by simpa[PyData.eqv]using h
  obtain⟨h1,h2⟩:=GO h
  match bs,h1 with |[a,b],_=>exact⟨a,b,Z,h2 0 a x Z Z,h2 1 b y Z Z⟩
 |_=>simp[PyData.eqv]at h
theorem W0{n:Nat}{d e:ah}(o:gA d)(h:PyData.eqv e d=true)(i:mF n e=true):e=d:=by
 rcases o with⟨m,rfl,_,_⟩|⟨wd,z,rfl,hw,_,_⟩
 ·obtain⟨a,b,rfl,h1,h2⟩:=GN h
  cases AL h1;have i:gU 1 1000 b=true:=i;obtain⟨k,rfl⟩:=NR i;rw[AM h2 (by decide:eF "int"=true)]
 ·obtain⟨a,b,rfl,h1,h2⟩:=GN h
  cases AL h1;cases AL h2;rfl
def fv(y:Nat):V:=if y=0 then .bR else .int (y:Nat)
theorem fB.kind{ti:Int}{du e:ah}{s:Option Rat}{y:Nat}(h:fB ti du e s y):gA du\/∃zs top,du=g9 zs top/\zs.length<=1000:=by cases h with |gR _ o=>exact .inl o |wm _ o _=>exact .inl o |tR zs top q h1 _ _ _ _ l=>exact .inr ⟨zs,top,h1,l⟩ |vK zs top h1 _ _ l=>exact .inr ⟨zs,top,h1,l⟩ |vJ zs top a b h1 _ _ _ l=>exact .inr ⟨zs,top,h1,l⟩
theorem fB.other{ti:Int}{du e:ah}{s:Option Rat}{y:Nat}(n:Nat)(h:fB ti du e s y)(o:gA du):s=none/\bW 8 e/\vS e=true/\((e=du/\y=0/\mF n e=true)\/(e≠du/\y=1)):=by cases h with |gR h1 _=>subst h1;obtain⟨i1,i2,i3⟩:=yj.is (n:=n) (d:=e) (o:=none) ⟨o.it,(λ_ _ z=>nomatch z),λ_=>o⟩;exact⟨Z,i2,i3,.inl ⟨Z,Z,i1⟩⟩ |wm h1 _ d=>exact⟨Z,d.ok.le au,d.sh,.inr ⟨h1,Z⟩⟩ |tR zs top q h1 _ _ _ _ _=>exact(uR o h1).elim |vK zs top h1 _ _ _=>exact(uR o h1).elim |vJ zs top a b h1 _ _ _ _=>exact(uR o h1).elim
theorem Hd{zs vz:List Int}{top vD:Rat}(h:g9 zs top=g9 vz vD):zs=vz/\top=vD:=by
 simp only[g9,PyData.tuple.injEq,List.cons.injEq,true_and,and_true,bM]at h;obtain⟨h1,h2,h3⟩:=h;refine⟨?_,?_⟩
 ·exact(List.map_inj_right (f:=PyData.int) (λx y e=>by injection e)).mp h1
 ·refine Rat.ext ?_ ?_
  ·injection h2 with h2
  ·injection h3 with h3;lia
theorem TU(zs:List Int)(t:Int)(q:Rat):bW 8 (Jy zs t q):=(dP.tup (n:=1) (.cons (⟨aP,eK _⟩:bW 1 (.str "step")) (.cons (vX zs) (.cons (.int _) (.cons (uc q) .nil))))).le au
theorem fB.step{ti:Int}{zs:List Int}{top:Rat}{e:ah}{s:Option Rat}{y:Nat}(h:fB ti (g9 zs top) e s y)(t1:1<=ti)(t2:ti<=100):bW 8 e/\((¬ye zs e/\y=1/\s=none)\/∃a b,e= .tuple [.str "step",dr zs,a,b]/\(∀t,a= .int t->t.natAbs<2^2400)/\(∀p q,b= .tuple [.int p,.int q]->p.natAbs<2^1900/\q.natAbs<2^1900)/\((¬sV ti a b/\y=2/\s=none)\/∃q,0<q/\Bd 1900 q/\b=bM q/\a= .int (nA ti q)/\Bd 2000 top/\y=(if top<q then 3 else 0)/\s=some q)):=by cases h with
 |gR h1 o=>exact(uR o Z).elim |wm _ o _=>exact(uR o Z).elim |tR vz vD q h1 h2 q0 bq bt _=>
  obtain⟨rfl,rfl⟩:=Hd h1;subst h2;refine⟨TU _ _ _,.inr ⟨_,_,Z,λt e=>?_,λp q' e=>?_,.inr ⟨q,q0,bq,Z,Z,bt,Z,Z⟩⟩⟩
  ·injection e with e;subst e;exact(zb t1 t2 q0 (bq.mono au)).2.1
  ·unfold bM at e
   injection e with e;injection e with e1 e;injection e with e2 e;injection e1 with e1;injection e2 with e2;subst e1 e2;exact⟨bq.num,by rw[yP];exact bq.den⟩ |vK vz vD h1 h2 d _=>obtain⟨rfl,rfl⟩:=Hd h1;exact⟨d.ok.le au,.inl ⟨h2,Z,Z⟩⟩ |vJ vz vD a b h1 h2 h3 d _=>obtain⟨rfl,rfl⟩:=Hd h1;subst h2;exact⟨d.ok.le au,.inr ⟨a,b,Z,λt e=>d.bt _ _ t _ (by rw[e]),λp q e=>d.bq _ _ _ p q (by rw[e]),.inl ⟨h3,Z,Z⟩⟩⟩
theorem Qj{b:ah}(h:∀p q,b= .tuple [.int p,.int q]->p.natAbs<2^1900/\q.natAbs<2^1900):∀q,b=bM q->Bd 1900 q:=λq e=>by obtain⟨h1,h2⟩:=h q.num q.den e;exact⟨h1,by rw[yP]at h2;exact h2⟩
inductive a6m(K:a8)(vs:List V)(H:Hp)(Q:VK):Prop |mk (m:_)(xv:_)(ev:_)(rs:_)(r:_)(f:_)(j:_)(ti:_)(du:_)(e:_)(s:_)(y:_)(h0:vs=[m,xv,ev])(h1:RD K H m (dQ rs r f j ti))(h2:fc rs r f j ti)(h3:RD K H xv du)(h4:RD K H ev e)(h5:fB ti du e s y)(h6:∀H',aD H H'->Q (fv y) H')
def Cy(K:a8):Sp:=λvs H Q _=>a6m K vs H Q
theorem Xl(F:FA K mg "fault_of_entry" DS)(B:bK mg)(uE:GV mg "NOT_DUE" (.int 1))(a0K:GV mg "WRONG_TICKS" (.int 2))(a16:GV mg "ABOVE_TOP" (.int 3))(a07:aB P w K mg az "is_item" 4 (Cv K))(a03:aB P w K mg az "is_step_with" 2 (JQ K))(a02:aB P w K mg az "is_timed" 3 (JK K))(oo:aB P w K mg az "is_less" 1 (kz K)):aB P w K mg az "fault_of_entry" 5 (Cy K):=by
 refine F.has Ls (λvs H Q E h=>?_) (λ_ _ _ _ _ _=>iJ λ_ _ _=>rfl) (λfa aO A outer s H vs Q E hr h=>?_)
 ·obtain⟨m,xv,ev,rs,r,f,j,ti,du,e,sq,y,rfl,_⟩:=h
  rfl
 ·obtain⟨m,xv,ev,rs,r,f,j,ti,du,e,sq,y,rfl,rm,aW,rx,re,ent,k⟩:=h
  have nd:=Ls.nd;have lr:=aW.len;refine⟨_,(aC (bA (bJ (iB K Z hr.units) (px K (pv 1) aA) cJ (bo _)) (aI (aR (wj (PW.pt (nK (ck (pf a07 hr (ak (pv 0) (ak (pv 2) aw)))) (pg (bJ (cC K Z hr.units) (pv 2) (pv 1) (bo _))))) eQ (dg (x:="NOT_DUE") Z uE)))) bE) (aC (eB (pv 1) (cV K Z (n:=3) Z (bN (aZ 3 nd) (bN (aZ 4 nd) (bN (aZ 5 nd) cU))))) (aC (bA (cS (ck (pf a03 hr (ak (pv 4) (ak (pv 2) aw))))) (aI (aR (dg (x:="NOT_DUE") Z uE))) bE) (aC (bA (cS (ck (pf a02 hr (ak (pv 0) (ak (px K (pv 2) aA) (ak (px K (pv 2) aA) aw)))))) (aI (aR (dg (x:="WRONG_TICKS") Z a0K))) bE) (aI (aR (wj (ck (pf oo hr (ak (pv 5) (ak (px K (pv 2) aA) aw)))) (dg (x:="ABOVE_TOP") Z a16) eQ))))))),?_⟩;rcases ent.kind with gR|⟨zs,top,rfl,lz⟩
  ·obtain⟨_,mm,Ug,hy⟩:=ent.other rs.length gR
   obtain⟨wd,u,rfl,hw,hs⟩:=MC gR;obtain⟨a,xs,rfl,h1,hd⟩:=id rx.bX;obtain⟨u1,ys,rfl,e1,hd⟩:=hd.cons_inv;cases e1.str_inv;obtain⟨_,i2,_⟩:=yj.is (n:=rs.length) (d:=.tuple [.str wd,u]) (o:=none) ⟨gR.it,(λ_ _ z=>nomatch z),λ_=>gR⟩;refine⟨_,Z,.inr ⟨a,_,0,.str wd,Z,Z,h1,cQ (iP 0) Z,.inr ⟨_,_,cM _,cM _,hs,aP,_,Z,?_⟩⟩⟩;rw[kc,hw];refine aU ⟨_,Z,_,Z,m,ev,rs,[PyData.int r,.int f,.int j,.int ti],_,Z,rm,re,aH,mm,Ug,λH1 s1=>?_⟩;have k:=k H1 s1;cases ei:mF rs.length e with
   |false=>
    rcases hy with⟨_,_,i1⟩|⟨_,rfl⟩
    ·rw[ei]at i1;cases i1
    refine⟨_,Z,aQ ?_⟩;exact aQ k |true=>
    refine⟨_,Z,aU ?_⟩;refine⟨_,Z,_,Z,.inr ⟨_,_,RD.mono s1 _ re,RD.mono s1 _ rx,i4 mm,i4 i2,_,Z,?_⟩⟩;rcases hy with⟨rfl,rfl,_⟩|⟨ne,rfl⟩
    ·rw[eqv_refl _ i2.lay]
     exact aU k
    ·rw[show PyData.eqv e (.tuple [.str wd,u])=false from oU.mpr λh=>ne (W0 gR h ei)]
     exact aQ k
  ·obtain⟨mm,hy⟩:=ent.step aW.t1.1 aW.t1.2
   obtain⟨x,xs,rfl,g1,hd⟩:=id rx.bX;obtain⟨u1,ys,rfl,e1,hd⟩:=hd.cons_inv;obtain⟨u2,ys,rfl,e2,hd⟩:=hd.cons_inv;obtain⟨u3,ys,rfl,e3,hd⟩:=hd.cons_inv;cases hd.nil_inv;cases e1.str_inv;have Rt':bC K H u3 top:=fQ e3;refine⟨_,Z,.inr ⟨x,_,0,.str "step",Z,Z,g1,cQ (iP 0) Z,.inr ⟨_,_,cM _,cM _,aP,aP,_,Z,?_⟩⟩⟩;rw[kc,show f6 "step" (.str "step")=true by decide+kernel];refine aQ ?_;refine⟨_,Z,x,_,Z,g1,Z,_,_,Z,_,_,Z,_,_,Z,Z,?_⟩;refine⟨_,Z,_,Z,u2,ev,zs,e,Z,e2,re,mm,lz,λH1 s1=>?_⟩;rcases hy with⟨nw,rfl,_⟩|⟨a,b,rfl,bt,bq,hy⟩
   ·rw[dI nw]
    exact⟨_,Z,aU (k H1 s1)⟩
   rw[jx ⟨a,b,Z⟩];refine⟨_,Z,aQ ?_⟩;obtain⟨p,v1,v2,v3,v4,rfl,h1,r1,r2,r3,r4⟩:=w9 re;refine⟨_,Z,_,Z,.inr ⟨p,_,2,v3,Z,Z,h1.go s1,Z,_,Z,.inr ⟨p,_,3,v4,Z,Z,h1.go s1,Z,?_⟩⟩⟩;refine⟨m,v3,v4,rs,r,f,j,ti,a,b,Z,RD.mono s1 _ rm,RD.mono s1 _ r3,RD.mono s1 _ r4,aW.t1.1,aW.t1.2,bt,Qj bq,λH2 s2=>?_⟩;have fN:=s1.trans s2;rcases hy with⟨nt,rfl,_⟩|⟨q,q0,B0,rfl,rfl,Qb,rfl,_⟩
   ·rw[dI nt]
    exact⟨_,Z,aU (k H2 fN)⟩
   rw[jx ⟨q,q0,Z,Z⟩];refine⟨_,Z,aQ ?_⟩;refine⟨_,Z,_,Z,.inr ⟨p,_,3,v4,Z,Z,h1.go fN,Z,?_⟩⟩;refine⟨u3,v4,top,q,Z,Rt'.go fN,(fQ r4).go fN,Qb,B0.mono au,_,Z,?_⟩;have k:=k H2 fN;by_cases bQ:top<q
   ·rw[aX bQ]at k
    rw[bT bQ];exact aU k
   ·rw[bf bQ]at k
    rw[cy bQ];exact aQ k
theorem fB.zero{ti:Int}{du e:ah}{s:Option Rat}(h:fB ti du e s 0):(e=du/\gA du/\s=none)\/∃zs top q,du=g9 zs top/\e=m9 ti zs q/\s=some q:=by
 have key:∀{y:Nat},fB ti du e s y->y=0->(e=du/\gA du/\s=none)\/∃zs top q,du=g9 zs top/\e=m9 ti zs q/\s=some q:=λh hy=>by cases h with |gR h1 o=>exact .inl ⟨h1,o,Z⟩ |tR zs top q h1 h2 _ _ _ _=>exact .inr ⟨zs,top,q,h1,h2,Z⟩ |wm _ _ _=>cases hy |vK _ _ _ _ _ _=>cases hy |vJ _ _ _ _ _ _ _ _ _=>cases hy
 exact key h rfl
inductive a5O(K:a8)(vs:List V)(H:Hp)(Q:VK):Prop |mk (ev:_)(ti:_)(du:_)(e:_)(s:_)(h0:vs=[ev])(h1:RD K H ev e)(h2:fB ti du e s 0)(h3:∀v,kl K H v s->Q v H)
def JR(K:a8):Sp:=λvs H Q _=>a5O K vs H Q
theorem WD(F:FA K mg "square_of" D5)(B:bK mg):aB P w K mg az "square_of" 1 (JR K):=by
 refine F.has Ku (λvs H Q E h=>?_) (λ_ _ _ _ _ _=>gz λ_=>rfl) (λfa aO A outer s H vs Q E hr h=>?_)
 ·obtain⟨ev,ti,du,e,sq,rfl,_⟩:=h
  rfl
 ·obtain⟨ev,ti,du,e,sq,rfl,re,ent,k⟩:=h
  have nd:=Ku.nd;refine⟨_,(aI (aR (wj (bJ (cC K Z hr.units) (px K (pv 0) aA) cJ (bo _)) (px K (pv 0) aA) eQ))),?_⟩;rcases ent.zero with⟨rfl,gR,rfl⟩|⟨zs,top,q,rfl,rfl,rfl⟩
  ·obtain⟨wd,u,rfl,hw,hs⟩:=MC gR
   obtain⟨a,xs,rfl,h1,hd⟩:=id re.bX;obtain⟨u1,ys,rfl,e1,hd⟩:=hd.cons_inv;cases e1.str_inv;refine⟨_,Z,.inr ⟨a,_,0,.str wd,Z,Z,h1,cQ (iP 0) Z,.inr ⟨_,_,cM _,cM _,hs,aP,_,Z,?_⟩⟩⟩;rw[kc,hw];exact aQ (k _ Z)
  ·obtain⟨a,b,c,rfl,h1,h2,h3⟩:=TV re
   refine⟨_,Z,.inr ⟨a,_,0,.str "step",Z,Z,h1,Z,.inr ⟨_,_,cM _,cM _,aP,aP,_,Z,?_⟩⟩⟩;rw[kc,show f6 "step" (.str "step")=true by decide+kernel];exact aU ⟨_,Z,.inr ⟨a,_,3,c,Z,Z,h1,Z,k _ h3⟩⟩
def Ny(A:ah->Prop)(D:ah):Prop:=QY D\/∃ds,D= .tuple ds/\ds.length<=1000/\∀x∈ds,A x
inductive a6z(A:ah->Prop)(K:a8)(vs:List V)(H:Hp)(Q:VK):Prop |mk (v:_)(u:_)(X:_)(D:_)(h0:vs=[v,u])(h1:RD K H v X)(h2:RD K H u D)(h3:bW 8 X)(h4:A D)(h5:∀H',aD H H'->Q (.bl (pB (X=D))) H')
def vQ(A:ah->Prop)(K:a8):Sp:=λvs H Q _=>a6z A K vs H Q
theorem Fw(d:ah):(∃ds,d= .list ds)\/(eX (da d) "list"=false/\∀ds,d≠ .list ds):=by cases d with |list ds=>exact .inl ⟨ds,Z⟩ |_=>exact .inr ⟨by simp[da];decide,λ_ z=>nomatch z⟩
theorem IY:∀{xs ds:List ah},xs.length=ds.length->(List.zipWith (λx d=>pB (x=d)) xs ds).all id=pB (PyData.tuple xs= .tuple ds)
 |[],[],_=>by rw[jx rfl];rfl |x::xs,d::ds,h=>by
  have ih:=IY (xs:=xs) (ds:=ds) (by simpa using h);rw[List.zipWith_cons_cons,IQ,ih];rcases wk (x=d)with⟨e,hp⟩|⟨e,hp⟩
  ·rcases wk (PyData.tuple xs= .tuple ds)with⟨e2,wZ⟩|⟨e2,wZ⟩
   ·injection e2 with e2
    subst e e2;rw[jx Z,jx Z,jx rfl];rfl
   ·rw[wZ,BP,dI (λz=>e2 (by injection z with z;injection z with _ z;rw[z]))]
  ·rw[id,hp,ji,dI (λz=>e (by injection z with z;injection z))] |[],_::_,h=>by cases h |_::_,[],h=>by cases h
theorem Xz(F:FA K mg "_law_alike" zy)(B:bK mg):aB P w K mg az "_law_alike" 1 (vQ (λ_=>False) K):=by
 refine F.has CI (λvs H Q E h=>?_) (λ_ _ _ _ _ _=>e9 λ_ _=>rfl) (λf aO A outer s H vs Q E hr h=>?_)
 ·obtain⟨v,u,X,D,rfl,_,_,_,h,_⟩:=h
  exact h.elim
 ·obtain⟨v,u,X,D,rfl,_,_,_,h,_⟩:=h
  exact h.elim
theorem F2{A:ah->Prop}{n:Nat}(hn:1<=n)(F:FA K mg "_law_alike" zy)(B:bK mg)(lL:aB P w K mg az "_law_number" 1 (iS K))(AA:aB P w K mg az "_law_alike" n (vQ A K)):aB P w K mg az "_law_alike" (n+1) (vQ (Ny A) K):=by
 refine F.has CI (λvs H Q E h=>?_) (λ_ _ _ _ _ _=>e9 λ_ _=>rfl) (λf aO A' outer s H vs Q E hr h=>?_)
 ·obtain⟨v,u,X,D,rfl,_⟩:=h
  rfl
 ·obtain⟨v,u,X,D,rfl,rv,ru,ok,hD,k⟩:=h
  have nd:=CI.nd;refine⟨_,(aC (bA (ck (fj K B (ak (pv 1) (ak (cg (ak (eZ (x:="list") (v:=.ty "list") Z (B.at "list") kR rfl) (ak (eZ (x:="tuple") (v:=.ty "tuple") rfl (B.at "tuple") gC rfl) aw))) aw)))) (aC (bA (PW.pt (fw (bJ (iB K Z hr.units) (fj K B (ak (pv 1) (ak (eZ (x:="list") (v:=.ty "list") Z (B.at "list") kR rfl) aw))) (fj K B (ak (pv 0) (ak (eZ (x:="list") (v:=.ty "list") rfl (B.at "list") kR rfl) aw))) (bo _)) (iy (bJ (iB K rfl hr.units) (fj K B (ak (pv 1) (ak (eZ (x:="tuple") (v:=.ty "tuple") rfl (B.at "tuple") gC rfl) aw))) (fj K B (ak (pv 0) (ak (eZ (x:="tuple") (v:=.ty "tuple") rfl (B.at "tuple") gC rfl) aw))) (bo _))))) (aI (aR gE)) bE) (aI (aR (iY (fF (cC K Z hr.units) (dF K B (ak (pv 0) aw)) (dF K B (ak (pv 1) aw)) (bo _)) (jw (dv (x:="all") (uZ K Z Z) Z (B.at "all") yF (ak (gj (N:=["_law_one","_law_two"]) (js:=[none,none]) rfl rfl rfl (nP K rfl false false rfl (B.at "zip") (ak (pv 0) (ak (pv 1) aw))) (λ_ _ _ _ _=>(cV K rfl (n:=2) rfl (bN (aZ 0 (iC au)) (bN (aZ 1 (iC au)) cU)))) (λ_ _ _ _ _=>fy) (λ_ _ _ _ _=>(EU AA (hr.mono aH) rfl (ak (pv 0) (ak (pv 1) aw))))) aw))))))) bE) (aC (bA (ck (fj K B (ak (pv 1) (ak (eZ (x:="str") (v:=.ty "str") Z (B.at "str") Iw rfl) aw)))) (aI (aR (iY (fj K B (ak (pv 0) (ak (eZ (x:="str") (v:=.ty "str") Z (B.at "str") Iw rfl) aw))) (jw (fF (cC K rfl hr.units) (pv 0) (pv 1) (bo _)))))) bE) (aI (aR (iY (EU lL (hr.mono aH) Z (ak (pv 0) aw)) (jw (fF (cC K Z hr.units) (pv 0) (pv 1) (bo _)))))))),?_⟩;rcases hD with(⟨z,rfl⟩|⟨z,rfl,sh,eq⟩)|⟨ds,rfl,hz,hA⟩
  ·cases ru.int_inv
   refine⟨_,Z,bc Z,λtt H1 n1=>.inr ⟨_,"int",tt,["list","tuple"],_,Z,n1.at',Z,au,Z,_,Z,aQ ?_⟩⟩;have k:=k H1 n1.same;refine⟨_,Z,.inl ⟨_,"int","str",_,Z,Z,au,Z,_,Z,aQ ?_⟩⟩;refine⟨_,Z,v,_,Z,(RD.mono n1.same _ rv).ty,_,Z,?_⟩;rcases jM X with⟨i,rfl,e⟩|⟨e,hn⟩
   ·cases rv.int_inv
    rw[e];refine aU ?_;refine⟨_,Z,_,Z,.inl ⟨_,_,Z,Z,?_⟩⟩;by_cases h:i=z
    ·rw[jx (by rw[h])]at k
     show Q (.bl (decide (i=z))) H1;rw[bT h];exact k
    ·rw[dI (λx=>h (by injection x))]at k
     show Q (.bl (decide (i=z))) H1;rw[cy h];exact k
   ·rw[e]
    rw[dI (λx=>hn _ x)]at k;exact aQ k
  ·cases ru.str_inv
   refine⟨_,Z,bc Z,λtt H1 n1=>.inr ⟨_,"str",tt,["list","tuple"],_,Z,n1.at',Z,au,Z,_,Z,aQ ?_⟩⟩;have k:=k H1 n1.same;refine⟨_,Z,.inl ⟨_,"str","str",_,Z,Z,au,Z,_,Z,aU ?_⟩⟩;refine⟨_,Z,.inl ⟨_,_,"str",_,Z,(RD.mono n1.same _ rv).ty,au,Z,_,Z,?_⟩⟩;rcases Jx X with⟨x,rfl⟩|⟨e,hn⟩
   ·cases rv.str_inv
    rw[show eX (da (.str x)) "str"=true from Jc];refine aU ?_;refine⟨_,Z,_,Z,.inr ⟨_,_,cM _,cM _,i4 ok,sh,?_⟩⟩;cases e:PyData.eqv (.str x) (.str z)with |true=>rw[jx (AL e)]at k;exact k |false=>rw[dI (λx=>by rw[x,eq]at e;cases e)]at k;exact k
   ·rw[e]
    rw[dI (λx=>hn _ x)]at k;exact aQ k
  ·obtain⟨ua,ys,rfl,hU,gW⟩:=ru.bX
   have ly:=gW.length;refine⟨_,Z,bc Z,λtt H1 n1=>.inr ⟨_,"tuple",tt,["list","tuple"],_,Z,n1.at',.inr ⟨Z,_,hU.go n1.same⟩,au,Z,_,Z,aU ?_⟩⟩;have s1:=n1.same;rcases Fw X with⟨Xs,rfl⟩|⟨hl,_⟩
   ·rw[dI (λx=>nomatch x)]at k
    exact⟨_,Z,.inl ⟨_,"tuple","list",_,Z,.inr ⟨Z,_,hU.go s1⟩,au,Jb,_,Z,.inl ⟨_,_,"list",_,Z,(RD.mono s1 _ rv).ty,au,(by decide:eX "list" "list"=true),.inr ⟨.bool false,.bool true,mh _,mh _,Z,Z,_,Z,aU (k H1 s1)⟩⟩⟩⟩
   refine⟨_,Z,.inl ⟨_,"tuple","list",_,Z,.inr ⟨Z,_,hU.go s1⟩,au,Jb,_,Z,.inl ⟨_,_,"list",_,Z,(RD.mono s1 _ rv).ty,au,hl,.inr ⟨.bool false,.bool false,mh _,mh _,Z,Z,_,Z,aQ ?_⟩⟩⟩⟩;rcases tO X with⟨Xs,rfl⟩|⟨ht,hn⟩
   ·obtain⟨va,xs,rfl,hV,cT⟩:=rv.bX
    have lx:=cT.length;refine⟨_,Z,.inl ⟨_,"tuple","tuple",_,Z,.inr ⟨Z,_,hU.go s1⟩,au,BS,_,Z,.inl ⟨_,"tuple","tuple",_,Z,.inr ⟨Z,_,hV.go s1⟩,au,BS,.inr ⟨.bool true,.bool true,mh _,mh _,Z,Z,_,Z,aQ ?_⟩⟩⟩⟩;refine⟨_,Z,va,_,Z,.inr (hV.go s1),_,Z,ua,_,Z,.inr (hU.go s1),.inl ⟨_,_,Z,Z,_,Z,?_⟩⟩;by_cases hlen:Xs.length=ds.length
    ·rw[bT (show(xs.length:Int)=(ys.length:Int) by omega)]
     refine aU ?_;refine⟨_,Z,_,Z,va,ua,Z,⟨_,hV.go s1⟩,⟨_,hU.go s1⟩,λD2 H2 n2=>?_⟩;have lz:(List.zipWith (λx d=>pB (x=d)) Xs ds).length=ds.length:=by rw[List.length_zipWith];omega
     refine a3V (K:=K) (b1:=false) (b2:=false) (xs:=xs) (ys:=ys) (bs:=List.zipWith (λx d=>pB (x=d)) Xs ds) _ Z (hV.go s1) (hU.go s1) n2 aH aH ?_ ?_
     ·intro q x y b H3 Q' ex ey eb s3 hq
      have iV:=s1.trans s3;obtain⟨d1,e1,r1⟩:=cT.get' q ex;obtain⟨d2,e2,r2⟩:=gW.get' q ey;rw[List.getElem?_zipWith,e1,e2]at eb;cases eb;exact⟨_,Z,_,Z,x,y,d1,d2,Z,RD.mono iV _ r1,RD.mono iV _ r2,pA ok (fC e1),hA d2 (fC e2),λH4 s4=>hq H4 s4⟩
     ·intro H3 s3 d3
      refine⟨D2,_,Z,aK.of d3,?_⟩;rw[IY hlen];exact k H3 (s1.trans s3)
    ·rw[cy (show¬(xs.length:Int)=(ys.length:Int) by omega)]
     rw[dI (λx=>hlen (by injection x with x;rw[x]))]at k;exact aQ (k H1 s1)
   ·rw[dI (λx=>hn _ x)]at k
    exact⟨_,Z,.inl ⟨_,"tuple","tuple",_,Z,.inr ⟨Z,_,hU.go s1⟩,au,BS,_,Z,.inl ⟨_,_,"tuple",_,Z,(RD.mono s1 _ rv).ty,au,ht,.inr ⟨.bool true,.bool false,mh _,mh _,Z,Z,_,Z,aU (k H1 s1)⟩⟩⟩⟩
abbrev Y1:ah->Prop:=Ny λ_=>False
abbrev Y3:ah->Prop:=Ny (Ny Y1)
theorem VY{d:ah}(h:gA d):Y3 d:=by
 rcases h with⟨n,rfl,_,_⟩|⟨wd,z,rfl,hw,ok,_⟩
 ·refine .inr ⟨_,Z,by simp,λx hx=>.inl ?_⟩
  simp only[cR,fq,iO]at hx;rcases hx with rfl|rfl
  ·exact A9 aP
  ·exact .inl ⟨_,Z⟩
 ·refine .inr ⟨_,Z,by simp,λx hx=>.inl ?_⟩
  simp only[cR,fq,iO]at hx;rcases hx with rfl|rfl
  ·rcases hw with rfl|rfl<;>exact A9 aP
  ·exact A9 (ok.shaped au)
theorem UA{zs:List Int}(h:zs.length<=1000):Y3 (.tuple [.str "step",dr zs]):=by
 refine .inr ⟨_,Z,by simp,λx hx=>?_⟩;simp only[cR,fq,iO]at hx;rcases hx with rfl|rfl
 ·exact .inl (A9 aP)
 ·refine .inr ⟨_,Z,by rw[bB];omega,λx hx=>.inl ?_⟩
  obtain⟨i,_,rfl⟩:=eV.mp hx;exact .inl ⟨_,Z⟩
theorem a3k{p q:Int}(h:0<q):PyData.eqv (bM (Rat.divInt p q)) (.tuple [.int p,.int q])=iD (.tuple [.int p,.int q]):=by cases e:iD (.tuple [.int p,.int q])with |true=>obtain⟨r,hr⟩:=AI e;rw[hr];unfold bM at hr;injection hr with hr;injection hr with h1 hr;injection hr with h2 hr;injection h1 with h1;injection h2 with h2;exact eqR (by rw[h1,h2,vj]) |false=>
 refine oU.mpr λhh=>?_;obtain⟨a,b,e1,h1,h2⟩:=GN hh;unfold bM at e1;injection e1 with e1;injection e1 with e1 e2;injection e2 with e2 _;subst e1 e2;have h1:=AM h1 (by decide:eF "int"=true);have h2:=AM h2 (by decide:eF "int"=true);have:PyData.tuple [.int p,.int q]=bM (Rat.divInt p q):=by unfold bM;rw[h1,h2]
 rw[this,zG]at e;cases e
inductive a6j(K:a8)(vs:List V)(H:Hp)(Q:VK):Prop |mk (v:_)(d:_)(h0:vs=[v])(h1:RD K H v d)(h2:bW 8 d)(h3:(∀p q,d= .tuple [.int p,.int q]->p.natAbs<2^1900/\q.natAbs<2^1900))(h4:∀H',aD H H'->Q (.bl (iD d)) H')
def zt(K:a8):Sp:=λvs H Q _=>a6j K vs H Q
theorem MJ(F:FA K mg "_law_is_fraction" DJ)(B:bK mg)(lL:aB P w K mg az "_law_number" 1 (iS K))(jZ:aB P w K mg az "_law_frac" 1 (p7 K)):aB P w K mg az "_law_is_fraction" 2 (zt K):=by
 refine F.has Ll (λvs H Q E h=>?_) (λ_ _ _ _ _ _=>gz λ_=>rfl) (λfa aO A outer s H vs Q E hr h=>?_)
 ·obtain⟨v,d,rfl,_⟩:=h
  rfl
 ·obtain⟨v,d,rfl,rd,ok,bq,k⟩:=h
  have nd:=Ll.nd;refine⟨_,(aC (bA (PW.pt (fw (cS (ck (fj K B (ak (pv 0) (ak (eZ (x:="tuple") (v:=.ty "tuple") Z (B.at "tuple") gC rfl) aw))))) (fw (bJ (iB K rfl hr.units) (dF K B (ak (pv 0) aw)) aA (bo _)) (iy (cS (ck (dv (x:="all") (uZ K rfl rfl) rfl (B.at "all") yF (ak (gj (N:=["_law_one"]) (js:=[none]) rfl rfl rfl (kG K rfl (pv 0)) (λ_ _ _ _ _=>(aZ 0 (nY _))) (λ_ _ _ _ _=>fy) (λ_ _ _ _ _=>(pf lL hr (ak (pv 0) aw)))) aw)))))))) (aI (aR gE)) bE) (aI (aR (iY (fF kH (px K (pv 0) aA) aA (bo _)) (jw (fF (cC K Z hr.units) (pf jZ hr (ak (px K (pv 0) aA) (ak (px K (pv 0) aA) aw))) (pv 0) (bo _))))))),?_⟩;rcases BU d with⟨x,y,rfl⟩|⟨ds,rfl,hl,hf⟩|⟨ht,hf⟩
  ·refine⟨_,Z,.inl ⟨_,_,"tuple",true,Z,rd.ty,au,jk,_,Z,aQ ?_⟩⟩
   obtain⟨a,xs,rfl,h1,hd⟩:=rd.bX;obtain⟨u1,ys,rfl,r1,hd⟩:=hd.cons_inv;obtain⟨u2,ys,rfl,r2,hd⟩:=hd.cons_inv;cases hd.nil_inv;refine⟨_,Z,a,_,Z,.inr h1,.inl ⟨_,_,Z,Z,_,Z,aQ ?_⟩⟩;refine⟨_,Z,a,Z,⟨_,h1⟩,λD H2 n2=>?_⟩;refine xV (xs:=[u1,u2]) (bs:=[eF (da x),eF (da y)]) [] h1 n2 Z (by simp) ?_ ?_
   ·intro i u b H3 Q' ex ey s3 hq
    match i,ex,ey with |0,ex,ey=>cases ex;cases ey;exact⟨_,rfl,_,_,rfl,(RD.mono s3 _ r1).ty,hq _ (aD.refl _)⟩ |1,ex,ey=>cases ex;cases ey;exact⟨_,rfl,_,_,rfl,(RD.mono s3 _ r2).ty,hq _ (aD.refl _)⟩
   intro H3 s3 d3;refine⟨D,_,Z,aK.of d3,_,Z,?_⟩;rw[show[eF (da x),eF (da y)].all id=(eF (da x)&&eF (da y)) by simp];rcases jM x with⟨p,rfl,e1⟩|⟨e1,hn⟩
   ·rcases jM y with⟨q,rfl,e2⟩|⟨e2,hn⟩
    ·cases r1.int_inv
     cases r2.int_inv;rw[e1,e2];refine aQ ?_;refine⟨_,Z,.inr ⟨a,_,1,_,Z,Z,h1.go s3,Z,_,_,Z,Z,_,Z,?_⟩⟩;by_cases q0:0<q
     ·rw[bT q0]
      refine aU ?_;refine⟨_,Z,.inr ⟨a,_,0,_,Z,Z,h1.go s3,Z,?_⟩⟩;refine⟨_,Z,.inr ⟨a,_,1,_,Z,Z,h1.go s3,Z,?_⟩⟩;refine⟨_,_,Z,q0,ir (bq p q Z).2 au,λv H4 R4 s4=>?_⟩;have dC:=s3.trans s4;refine⟨_,Z,.inr ⟨_,_,R4.rd,RD.mono dC _ rd,V3 _,i4 ok,?_⟩⟩;rw[a3k q0];exact k H4 dC
     ·rw[cy q0]
      have:iD (.tuple [.int p,.int q])=false:=by show(decide (0<q)&&_)=false;rw[cy q0];rfl
      rw[this]at k;exact aQ (k H3 s3)
    ·rw[e1,e2]
     rw[Gu hn]at k;exact aU (k H3 s3)
   ·rw[e1]
    rw[Gv hn]at k;exact aU (k H3 s3)
  ·rw[hf]at k
   refine⟨_,Z,.inl ⟨_,_,"tuple",true,Z,rd.ty,au,jk,_,Z,aQ ?_⟩⟩;obtain⟨p,xs,rfl,hx,hd⟩:=rd.bX;refine⟨_,Z,p,_,Z,.inr hx,.inl ⟨_,_,Z,Z,_,Z,?_⟩⟩;have e:(!decide ((xs.length:Int)=2))=true:=by rw[hd.length];simp;omega
   rw[e];exact aU (k H (aD.refl _))
  ·rw[hf]at k
   exact⟨_,Z,.inl ⟨_,_,"tuple",false,Z,rd.ty,au,ht,_,Z,aU (k H (aD.refl _))⟩⟩
inductive a6p(K:a8)(vs:List V)(H:Hp)(Q:VK):Prop |mk (m:_)(iv:_)(rv:_)(rate:_)(ev:_)(rs:_)(r:_)(f:_)(j:_)(ti:_)(du:_)(e:_)(s:_)(y:_)(h0:vs=[m,iv,rv,.int rate,ev])(h1:RD K H m (dQ rs r f j ti))(h2:fc rs r f j ti)(h3:RD K H ev e)(h4:fB ti du e s y)(h5:((rv= .bR/\gA du/\RD K H iv du)\/ ∃ns sp zs,du=g9 zs (topR rate sp)/\RD K H iv (fW ns sp)/\1<=sp/\sp<=20/\10<=rate/\rate<=200/\RD K H rv (dr zs)/\zs.length<=1000))(h6:∀H',aD H H'->Q (.int (y:Nat)) H')
def CA(K:a8):Sp:=λvs H Q _=>a6p K vs H Q
theorem Xo(F:FA K mg "_law_entry_fault" DV)(B:bK mg)(AA:aB P w K mg az "_law_alike" 4 (vQ Y3 K))(lL:aB P w K mg az "_law_number" 1 (iS K))(Gk:aB P w K mg az "_law_is_fraction" 2 (zt K))(Gj:aB P w K mg az "_law_ticks" 1 (zo K))(uG:aB P w K mg az "_law_less" 1 (kz K))(uF:aB P w K mg az "_law_top" 2 (vN K)):aB P w K mg az "_law_entry_fault" 5 (CA K):=by
 refine F.has Lx (λvs H Q E h=>?_) (λ_ _ _ _ _ _=>HF λ_ _ _ _ _=>rfl) (λfa aO A outer s H vs Q E hr h=>?_)
 ·obtain⟨m,iv,rv,rate,ev,rs,r,f,j,ti,du,e,sq,y,rfl,_⟩:=h
  rfl
 ·obtain⟨m,iv,rv,rate,ev,rs,r,f,j,ti,du,e,sq,y,rfl,rm,aW,re,ent,hc,k⟩:=h
  have nd:=Lx.nd;refine⟨_,(aC (bA (bJ W8 (pv 2) eQ (bo _)) (aI (aR (fh (x:="int") uY Z (B.at "int") qH (ak (rf (pf AA hr (ak (pv 4) (ak (pv 1) aw)))) aw)))) bE) (aC (bA (PW.pt (fw (cS (ck (fj K B (ak (pv 4) (ak (eZ (x:="tuple") (v:=.ty "tuple") Z (B.at "tuple") gC rfl) aw))))) (fw (bJ (iB K rfl hr.units) (dF K B (ak (pv 4) aw)) aA (bo _)) (iy (cS (ck (pf AA hr (ak (fS (iT K rfl) (pv 4) gy (fg aA)) (ak (cg (ak cJ (ak (pv 2) aw))) aw))))))))) (aI (aR aA)) bE) (aC (eB (fS (iT K Z) (pv 4) (fg aA) gy) (cV K Z (n:=2) Z (bN (aZ 5 nd) (bN (aZ 6 nd) cU)))) (aC (bA (PW.pt (fw (cS (ck (pf lL hr (ak (pv 5) aw)))) (fw (cS (ck (pf Gk hr (ak (pv 6) aw)))) (fw (bJ jy (px K (pv 6) aA) aA (bo _)) (iy (bJ (iB K Z hr.units) (pv 5) (pf Gj hr (ak (pv 0) (ak (pv 6) aw))) (bo _))))))) (aI (aR aA)) bE) (aI (aR (aG bO aA (fh (x:="int") uY Z (B.at "int") qH (ak (pf uG hr (ak (pf uF hr (ak (pv 1) (ak (pv 3) aw))) (ak (pv 6) aw))) aw))))))))),?_⟩;rcases hc with⟨rfl,gR,ri⟩|⟨ns,sp,zs,rfl,ri,de,dA,cf,cj,rr,lz⟩
  ·obtain⟨_,mm,_,hy⟩:=ent.other 0 gR
   refine⟨_,Z,Z,_,Z,aU ?_⟩;refine⟨_,Z,_,Z,ev,iv,e,du,Z,re,ri,mm,VY gR,λH1 s1=>?_⟩;rcases hy with⟨rfl,rfl,_⟩|⟨ne,rfl⟩
   ·rw[jx rfl]
    exact⟨_,Z,.inr ⟨_,Z,k H1 s1⟩⟩
   ·rw[dI ne]
    exact⟨_,Z,.inr ⟨_,Z,k H1 s1⟩⟩
  ·obtain⟨mm,hy⟩:=ent.step aW.t1.1 aW.t1.2
   obtain⟨ra,Uz,rfl,FY,_⟩:=id rr.bX;refine⟨_,Z,Z,_,Z,aQ ?_⟩;rcases Je e with⟨a,b,c,d,rfl⟩|⟨es,rfl,hl⟩|⟨ht,hn⟩
   ·obtain⟨p0,v1,v2,v3,v4,rfl,h1,r1,r2,r3,r4⟩:=w9 re
    refine⟨_,Z,.inl ⟨_,_,"tuple",true,Z,re.ty,au,jk,_,Z,aQ ?_⟩⟩;refine⟨_,Z,p0,_,Z,.inr h1,.inl ⟨_,_,Z,Z,_,Z,aQ ?_⟩⟩;refine⟨_,Z,_,Z,p0,_,Z,.inr ⟨h1,(by show¬(HT.bI 4 0 none=0/\HT.bI 4 4 (some 2)=4);decide),λp H1 n1=>?_⟩⟩;have n1:Nw H H1 p (.tup [v1,v2]):=n1;refine⟨_,Z,bc Z,λp2 H2 n2=>?_⟩;have s2:=n1.same.trans n2.same;have dX:bW 8 (.tuple [a,b]):=dP.tup (n:=7) (.cons ((bW.bX (n:=7) mm) a (by simp)) (.cons ((bW.bX (n:=7) mm) b (by simp)) .nil));refine⟨.ref p,.ref p2,.tuple [a,b],.tuple [.str "step",dr zs],Z,eY (aV.of (n2.same _ _ n1.at')) (bV (RD.mono s2 _ r1) (bV (RD.mono s2 _ r2) cD)),eY (aV.of n2.at') (bV (cM _) (bV (RD.mono s2 _ rr) cD)),dX,UA lz,λH3 s3=>?_⟩;have kD:=s2.trans s3;rcases hy with⟨nw,rfl,_⟩|⟨a',b',e',bt,bq,hy⟩
    ·rw[dI (λz=>nw ⟨c,d,by injection z with z;injection z with z1 z;injection z with z2 z;rw[z1,z2]⟩)]
     exact⟨_,Z,aU (k H3 kD)⟩
    injection e' with e';injection e' with z1 e';injection e' with z2 e';injection e' with z3 e';injection e' with z4 e';subst z1 z2 z3 z4;rw[jx rfl];refine⟨_,Z,aQ ?_⟩;refine⟨_,Z,_,Z,p0,_,Z,.inr ⟨h1.go kD,(by show¬(HT.bI 4 0 (some 2)=0/\HT.bI 4 4 none=4);decide),λp3 H4 n4=>?_⟩⟩;have n4:Nw H3 H4 p3 (.tup [v3,v4]):=n4;have dC:=kD.trans n4.same;refine⟨p3,_,Z,aV.of n4.at',Z,_,_,Z,_,_,Z,Z,?_⟩;refine⟨_,Z,v3,_,Z,(RD.mono dC _ r3).ty,_,Z,?_⟩;rcases jM c with⟨t,rfl,e1⟩|⟨e1,hn⟩
    rotate_left
    ·rw[e1]
     rcases hy with⟨_,rfl,_⟩|⟨q,_,_,_,rfl,_⟩
     ·exact aU (k H4 dC)
     ·exact(hn _ Z).elim
    rw[e1];cases r3.int_inv;refine aQ ?_;have Mi:=RD.mono dC _ r4;refine⟨_,Z,v4,d,Z,Mi,pA mm (by simp),bq,λH5 s5=>⟨_,Z,?_⟩⟩;have jP:=dC.trans s5;cases fr:iD d with
    |false=>
     rcases hy with⟨_,rfl,_⟩|⟨q,_,_,rfl,_⟩
     ·exact aU (k H5 jP)
     ·rw[zG]at fr;cases fr |true=>
     refine aQ ?_;obtain⟨q,rfl⟩:=AI fr;have bq:=Qj bq q rfl;have sM:Bd 2000 q:=bq.mono au;obtain⟨ca,e4,hc⟩:=(fQ (RD.mono s5 _ Mi):bC K H5 v4 q);subst e4;refine⟨_,Z,.inr ⟨ca,_,0,_,Z,Z,hc,Z,_,_,Z,Z,_,Z,?_⟩⟩;by_cases q1:q.num<1
     ·rw[bT q1]
      rcases hy with⟨_,rfl,_⟩|⟨p,p0,_,e4,_⟩
      ·exact aU (k H5 jP)
      ·cases wc e4
       have:=nX p0;omega
     rw[cy q1];refine aQ ?_;have qn:0<q.num:=by omega
     have q0:0<q:=(Rt.MM q).mp qn;refine⟨_,Z,_,Z,_,Z,m,.ref ca,rs,r,f,j,ti,q,Z,RD.mono jP _ rm,⟨ca,Z,hc⟩,sM,aW.t1.1,aW.t1.2,qn,λT T1 T2 T3 T4 H6 s6=>?_⟩;have eT:=zc (BN qn) ⟨T1,T3,T4⟩;have nH:=jP.trans s6;refine .inl ⟨_,_,Z,Z,_,Z,?_⟩;rcases hy with⟨nt,rfl,_⟩|⟨p,p0,_,e4,e5,Qb,rfl,_⟩
     ·rw[cy (show¬t=T from λh=>nt ⟨q,q0,Z,by rw[eT,h]⟩)]
      exact aU (k H6 nH)
     cases wc e4;injection e5 with e5;rw[bT (show t=T by rw[e5,eT])];refine aQ ?_;refine⟨_,Z,_,Z,iv,ns,sp,rate,Z,RD.mono nH _ ri,de,dA,cf,cj,λtv H7 R7 s7=>?_⟩;refine⟨_,Z,tv,.ref ca,topR rate sp,q,Z,R7,bC.go ⟨ca,Z,hc⟩ (s6.trans s7),(Ow.ku de dA cf cj).mono au,sM,.inr ⟨_,Z,?_⟩⟩;refine⟨_,_,Z,Z,.of_left (cm au au),?_⟩;have k:=k H7 (nH.trans s7);by_cases bQ:topR rate sp<q
     ·rw[aX bQ]at k
      rw[bT bQ];exact k
     ·rw[bf bQ]at k
      rw[cy bQ];exact k
   ·have hy:y=1:=by
     rcases hy with⟨_,h,_⟩|⟨a,b,h,_⟩
     ·exact h
     ·injection h with h;subst h;exact(hl rfl).elim
    subst hy;refine⟨_,Z,.inl ⟨_,_,"tuple",true,Z,re.ty,au,jk,_,Z,aQ ?_⟩⟩;obtain⟨p,xs,rfl,hx,hd⟩:=re.bX;refine⟨_,Z,p,_,Z,.inr hx,.inl ⟨_,_,Z,Z,_,Z,?_⟩⟩;have e:(!decide ((xs.length:Int)=4))=true:=by rw[hd.length];simp;omega
    rw[e];exact aU (k H (aD.refl _))
   ·have hy:y=1:=by
     rcases hy with⟨_,h,_⟩|⟨a,b,h,_⟩
     ·exact h
     ·exact(hn _ h).elim
    subst hy;exact⟨_,Z,.inl ⟨_,_,"tuple",false,Z,re.ty,au,ht,_,Z,aU (k H (aD.refl _))⟩⟩
theorem Kd:bF ["self","at","why"] ["self","at","why"] (bu CJ):=bP aP
def wB(x y:V):List (Str×V):=ph "why" y [("at",x)]
inductive a5v(K:a8)(vs:List V)(H:Hp)(Q:VK):Prop |mk (ex:_)(C:_)(x:_)(y:_)(h0:vs=[.ref ex,x,y])(h1:H ex=some (.ext (oK ex C)))(h2:vb K C "at")(h3:vb K C "why")(h4:∀dx,H dx=none->dx≠ex->Q .bR (L2.upd (L2.upd (L2.upd H dx (.xd [("at",x)])) ex (.ext (km ex C dx))) dx (.xd (wB x y))))
def Cc(K:a8):Sp:=λvs H Q _=>a5v K vs H Q
theorem Wl{f:Addr}{fd:FuncData}(F:kQ K "__init__" "NoTape.__init__" CJ f fd):ij P w K mg az hW 1 f fd ["self","at","why"] (Cc K):=by
 refine F.ok Kd (λvs H Q E h=>?_) (λaO A outer s H vs Q E hr h=>?_)
 ·obtain⟨ex,C,x,y,rfl,_⟩:=h
  rfl
 ·obtain⟨ex,C,x,y,rfl,e1,xc,xw,k⟩:=h
  have nd:=Kd.nd;refine⟨_,(aC (Vt K Z (pv 0) (pv 1)) (aI (Vs K Z (pv 0) (pv 2)))),?_⟩;exact⟨_,Z,_,Z,ex,C,Z,e1,xc,λdx fd ne=>⟨_,Z,_,Z,ex,C,dx,_,Z,cF,by rw[bL ne];exact cF,xw,(by show 1<1000;decide),k dx fd ne⟩⟩
structure qx(ti rate:Int)(ds:List ah)(os:List Itm)(es:List ah)(sq:Nat->Option Rat)(fa:Nat->Nat):Prop where
 ent:∀k e du,es[k]? =some e->(fJ rate ds os os.length)[k]? =some du->fB ti du e (sq k) (fa k)
 vM:sq es.length=none
 OT:fa es.length=0
 small:es.length<=1000000
def fz(r f:Int)(bd:List Rat)(n m:Nat)(sq:Nat->Option Rat)(fa:Nat->Nat)(k:Nat):Nat:=if k=m/\m<n then 1 else if k=n/\n<m then 1 else if fa k=0 then(if kZ r f (bd.getD k 0) (i7 sq k) (sq k)=true then 0 else 4)else fa k
def Bn(n:Nat)(ft:Nat->Nat):Option (Nat×Nat)->Prop |none=>∀k,k<=n->ft k=0 |some (k,y)=>k<=n/\ft k=y/\y≠0/\∀i,i<k->ft i=0
theorem Nr(ft:Nat->Nat):∀n,∃res,Bn n ft res
 |0=>by
  by_cases h:ft 0=0
  ·exact⟨none,λk hk=>by rw[Nat.le_zero.mp hk];exact h⟩
  ·exact⟨some (0,ft 0),bw _,Z,h,λi hi=>absurd hi (BG _)⟩ |n+1=>by obtain⟨res,h⟩:=Nr ft n;cases res with |some p=>obtain⟨k,y⟩:=p;exact⟨some (k,y),Nat.le_succ_of_le h.1,h.2.1,h.2.2⟩ |none=>
   by_cases hn:ft (n+1)=0
   ·refine⟨none,λk hk=>?_⟩
    rcases IB n k with h1|h1
    ·rw[show k=n+1 by lia];exact hn
    ·exact h k h1
   ·exact⟨some (n+1,ft (n+1)),bw _,Z,hn,λi hi=>h i aq⟩
theorem Nt{n:Nat}{ft:Nat->Nat}{res:Option (Nat×Nat)}(h:Bn n ft res){i y:Nat}(hi:i<=n)(pre:∀k,k<i->ft k=0)(e:ft i=y)(hy:y≠0):res=some (i,y):=by cases res with |none=>exact absurd (e▸h i hi) hy |some p=>
 obtain⟨k,z⟩:=p;obtain⟨h1,h2,h3,h4⟩:=h;have:k=i:=by
  rcases Nat.lt_trichotomy k i with a|a|a
  ·exact absurd (h2▸pre k a) h3
  ·exact a
  ·exact absurd (e▸h4 i a) hy
 subst this;rw[<-h2,e]
theorem Nq{n:Nat}{ft:Nat->Nat}{res:Option (Nat×Nat)}(h:Bn n ft res)(pre:∀k,k<=n->ft k=0):res=none:=by cases res with |none=>rfl |some p=>obtain⟨k,z⟩:=p;exact absurd (h.2.1▸pre k h.1) h.2.2.1
theorem Ml{ft:Nat->Nat}{i:Nat}(h:∀k,k<i->ft k=0)(e:ft i=0):∀k,k<i+1->ft k=0:=λk hk=>by
 rcases IB k i with a|a
 ·exact h k a
 ·rw[show k=i by lia];exact e
def cX(rate:Int)(ds:List ah)(os:List Itm):Nat:=(fJ rate ds os os.length).length
def LkW(r f j rate:Int)(ds:List ah)(os:List Itm)(es:List ah)(sq:Nat->Option Rat)(fa:Nat->Nat):Option (Nat×Nat)->Prop:=Bn (min es.length (cX rate ds os)) (fz r f (dG j rate os) (cX rate ds os) es.length sq fa)
def Bo(r f j ti rate:Int)(ds:List ah)(os:List Itm)(D:ah)(res:Option (Nat×Nat)):Prop:=(∃es sq fa,D= .list es/\qx ti rate ds os es sq fa/\LkW r f j rate ds os es sq fa res)\/(eX (da D) "list"=false/\res=some (0,1))
inductive a67(K:a8)(C:Addr)(vs:List V)(H:Hp)(Q:VK)(E:XK):Prop |mk (m:_)(iv:_)(rate:_)(tv:_)(rs:_)(r:_)(f:_)(j:_)(t:_)(ds:_)(os:_)(D:_)(res:_)(h0:vs=[m,iv,.int rate,tv])(h1:RD K H m (dQ rs r f j t))(h2:fc rs r f j t)(h3:RD K H iv (.tuple ds))(h4:cH rs.length ds os)(h5:ds.length<=30)(h6:10<=rate)(h7:rate<=200)(h8:RD K H tv D)(h9:Bo r f j t rate ds os D res)(sk:(res=none->∀H',aD H H'->Q .bR H'))(Gq:∀k y,res=some (k,y)->∀H' dx,aD H H'->H' dx=some (.xd (wB (.int (k:Nat)) (.int (y:Nat))))->E (.ref C) (some dx) H')
def Cq(K:a8)(C:Addr):Sp:=λvs H Q E=>a67 K C vs H Q E
theorem qx.wu{ti rate:Int}{ds:List ah}{os:List Itm}{es:List ah}{sq:Nat->Option Rat}{fa:Nat->Nat}(tp:qx ti rate ds os es sq fa):∀c,c<es.length->c<cX rate ds os->sX 1900 (sq c):=λc hc hd=>by obtain⟨e,ee⟩:∃e,es[c]? =some e:=⟨_,bG hc⟩;obtain⟨du,ed⟩:∃d,(fJ rate ds os os.length)[c]? =some d:=⟨_,bG hd⟩;exact(tp.ent c e du ee ed).wu
theorem qx.EW{ti rate:Int}{ds:List ah}{os:List Itm}{es:List ah}{sq:Nat->Option Rat}{fa:Nat->Nat}(tp:qx ti rate ds os es sq fa):∀c,c<=es.length->c<=cX rate ds os->sX 1900 (i7 sq c):=λc hc hd=>by cases c with |zero=>trivial |succ c=>exact tp.wu c aH aH
theorem aD.refused{H H5:Hp}{C ex dx:Addr}{x y:V}(vV:aD H H5)(fx:H5 ex=none)(GG:H5 dx=none)(_:dx≠ex):aD H (L2.del (L2.upd (L2.upd (L2.upd (L2.upd H5 ex (.ext (oK ex C))) dx (.xd [("at",x)])) ex (.ext (km ex C dx))) dx (.xd (wB x y))) ex):=λb o e=>by have e5:=vV b o e;have nb:b≠ex:=cW e5 fx;have iC:b≠dx:=cW e5 GG;rw[sL nb,bL iC,bL nb,bL iC,bL nb];exact e5
abbrev LK:Stmt:=top 68
theorem KU:bF ["machine","items","rate","thing","due","bounds","ended","at","expected","why","begun"] ["machine","items","rate","thing"] (bu LK):=bP aP
theorem WZ{C fI:Addr}(F:FA K mg "look" LK)(B:bK mg)(NC:QV K mg C fI)(uE:GV mg "NOT_DUE" (.int 1))(Ot:GV mg "NO_BORDER" (.int 4))(a0o:aB P w K mg az "due_entries" 5 (K1 K))(a0x:aB P w K mg az "bounds_between" 9 (K3 K))(a0l:aB P w K mg az "fault_of_entry" 5 (Cy K))(Zx:aB P w K mg az "square_of" 1 (JR K))(Oi:aB P w K mg az "can_meet" 5 (zw K)):yo P w K mg az "look" 10 (Cq K C):=by
 obtain⟨fd,FI⟩:=NC.fn;have uK:=NC.e;have uI:ij P w K mg az hW 1 fI fd ["self","at","why"] (Cc K):=Wl FI;have uL:Binds K fd ["self","at","why"] []:=FI.binds (λ_ _ _ _ _ _=>iJ λ_ _ _=>rfl);have uJ:=NC.f;refine F.a0D KU (λvs H Q E h=>?_) (λ_ _ _ _ _ _=>sS λ_ _ _ _=>rfl) (λfa aO A outer s H vs Q E hr h=>?_)
 ·obtain⟨m,iv,rate,tv,rs,r,f,j,t,ds,os,D,res,rfl,_⟩:=h
  rfl
 ·obtain⟨m,iv,rate,tv,rs,r,f,j,t,ds,os,D,res,rfl,rm,aW,ri,row,hz,cf,cj,rt,wN,kq,ke⟩:=h
  have nd:=KU.nd;refine⟨_,(aC (bA (cS (ck (fj K B (ak (pv 3) (ak (eZ (x:="list") (v:=.ty "list") Z (B.at "list") kR rfl) aw))))) (aI (ue (λ_ _ _ _ _ _ I a b q=>tL I a b q) uK yz hr.hd uI (hr.mono au) uL uJ Z (ak aA (ak (dg (x:="NOT_DUE") Z uE) aw)))) bE) (aC (pS 4 nd (pf a0o hr (ak (pv 1) (ak (pv 2) aw)))) (aC (pS 5 nd (pf a0x hr (ak (pv 0) (ak (pv 1) (ak (pv 2) aw))))) (aC (pS 6 nd eQ) (aC (fR PassesOwn.leaving Z (uh K Z true Z (B.at "enumerate") (ak (pv 4) aw)) (cV K rfl (n:=2) rfl (bN (aZ 7 nd) (bN (aZ 8 nd) cU))) (aC (bA (bJ (cC K Z hr.units) (pv 7) (dF K B (ak (pv 3) aw)) (bo _)) (aI (ue (λ_ _ _ _ _ _ I a b q=>tL I a b q) uK yz hr.hd uI (hr.mono au) uL uJ Z (ak (pv 7) (ak (dg (x:="NOT_DUE") Z uE) aw)))) bE) (aC (pS 9 nd (pf a0l hr (ak (pv 0) (ak (pv 8) (ak (px K (pv 3) (pv 7)) aw))))) (aC (bA (bJ nS (pv 9) eQ (bo _)) (aI (ue (λ_ _ _ _ _ _ I a b q=>tL I a b q) uK yz hr.hd uI (hr.mono au) uL uJ Z (ak (pv 7) (ak (pv 9) aw)))) bE) (aC (pS 10 nd (pf Zx hr (ak (px K (pv 3) (pv 7)) aw))) (aC (bA (cS (ck (pf Oi hr (ak (pv 0) (ak (px K (pv 5) (pv 7)) (ak (pv 6) (ak (pv 10) aw))))))) (aI (ue (λ_ _ _ _ _ _ I a b q=>tL I a b q) uK yz hr.hd uI (hr.mono au) uL uJ Z (ak (pv 7) (ak (dg (x:="NO_BORDER") Z Ot) aw)))) bE) (aI (pS 6 nd (pv 10))))))))) (aC (bA (bJ kH (dF K B (ak (pv 3) aw)) (dF K B (ak (pv 4) aw)) (bo _)) (aI (ue (λ_ _ _ _ _ _ I a b q=>tL I a b q) uK yz hr.hd uI (hr.mono au) uL uJ Z (ak (dF K B (ak (pv 4) aw)) (ak (dg (x:="NOT_DUE") Z uE) aw)))) bE) (aI (bA (cS (ck (pf Oi hr (ak (pv 0) (ak (px K (pv 5) (iX iQ aA)) (ak (pv 6) (ak eQ aw))))))) (aI (ue (λ_ _ _ _ _ _ I a b q=>tL I a b q) uK yz hr.hd uI (hr.mono au) uL uJ Z (ak (dF K B (ak (pv 4) aw)) (ak (dg (x:="NO_BORDER") Z Ot) aw)))) bE)))))))),?_⟩;have ll:=row.len;have lr:=aW.len;have Hw:=Qk aW row cf cj;have rz:∀(i y:Nat),res=some (i,y)->∀(H5:Hp)(iv yv:V),iv= .int (i:Nat)->yv= .int (y:Nat)->aD H H5->∀ex,H5 ex=none->Cc K [.ref ex,iv,yv] (L2.upd H5 ex (.ext (oK ex C))) (λv H2=>v= .bR/\∃dx,H2 ex=some (.ext (km ex C dx))/\E (.ref C) (some dx) (L2.del H2 ex)) (λ_ _ _=>False):=by
   rintro i y er H5 _ _ rfl rfl s5 ex fx;refine⟨ex,C,_,_,Z,cF,NC.x,NC.y,λdx OS ne=>⟨Z,dx,by rw[bL ne.symm];exact cF,?_⟩⟩;have GG:H5 dx=none:=by rw[bL ne]at OS;exact OS
   refine ke i y er _ dx (aD.refused s5 fx GG ne) ?_;rw[sL ne];exact cF
  rcases wN with⟨es,sq,fa,rfl,tp,lk⟩|⟨hl,er⟩
  rotate_left
  ·refine⟨_,Z,.inl ⟨_,_,"list",false,Z,rt.ty,au,hl,_,Z,aU ?_⟩⟩
   exact⟨bc Z,λex fx=>rz 0 1 er H _ _ Z Z (aD.refl _) ex fx⟩
  refine⟨_,Z,.inl ⟨_,_,"list",true,Z,rt.ty,au,(by decide:eX "list" "list"=true),_,Z,aQ ?_⟩⟩;refine⟨_,Z,_,Z,iv,rate,rs.length,ds,os,Z,ri,row,aq,hz,cf,cj,λlD yD H1 nD dD rD s1=>?_⟩;refine⟨_,Z,_,Z,_,Z,m,iv,rate,rs,r,f,j,t,ds,os,Z,RD.mono s1 _ rm,aW,RD.mono s1 _ ri,row,hz,cf,cj,λlB yB H2 nB dB rB s2=>?_⟩;have fN:=s1.trans s2;obtain⟨ta,xt,rfl,ht,mG⟩:=rt.lst_inv;have Yl:=mG.length;have Fs:yD.length=cX rate ds os:=rD.length;have ur:=rB.length;have NB:(dG j rate os).length=cX rate ds os+1:=by unfold dG;rw[cB,qv row _ (bw _)];rfl
  rw[bB]at ur;have ur:yB.length=cX rate ds os+1:=by rw[ur];exact NB
  have bv:∀(c:Nat)(u:V)(H':Hp),yB[c]? =some u->aD H2 H'->∃b,(dG j rate os)[c]? =some b/\(dG j rate os).getD c 0=b/\bC K H' u b/\Bd 1900 b:=by intro c u H' e sm;obtain⟨d1,e1,r1⟩:=rB.get' c e;rw[bU]at e1;obtain⟨b,eb,rfl⟩:=yG.mp e1;have eb:(dG j rate os)[c]? =some b:=eb;exact⟨b,eb,by rw[vw,eb];rfl,(fQ r1).go sm,Hw b (fC eb)⟩
  have kE:∀(i y:Nat),i<=es.length->i<=cX rate ds os->(∀k,k<i->fz r f (dG j rate os) (cX rate ds os) es.length sq fa k=0)->fz r f (dG j rate os) (cX rate ds os) es.length sq fa i=y->y≠0->res=some (i,y):=λi y As dZ pre e hy=>Nt lk (Nat.le_min.mpr ⟨As,dZ⟩) pre e hy;refine⟨_,Z,lD,Z,⟨_,aK.of (s2 _ _ dD)⟩,uN (K:=K) (b:=true) (a:=lD) (xs:=yD) (λi O H3=>aD H2 H3/\i<=es.length/\(∀k,k<i->fz r f (dG j rate os) (cX rate ds os) es.length sq fa k=0)/\∃ev v1 v2 v3 v4,kl K H3 ev (i7 sq i)/\O=[some m,some iv,some (.int rate),some (.ref ta),some (.ref lD),some (.ref lB),some ev,v1,v2,v3,v4]) ⟨aD.refl _,eK _,λ_ h=>absurd h (BG _),.bR,none,none,none,none,Z,Z⟩ (λi O H3 _ h=>aK.of (h.1 _ _ (s2 _ _ dD))) ?_ ?_⟩
  ·rintro i y O H3 hy ⟨s3,a89,pre,ev,v1,v2,v3,v4,oe,rfl⟩ T H4 n4
   have hiy:i<yD.length:=(cL.mp hy).1;obtain⟨du,jc,UZ⟩:=rD.get' i hy;have i5:=s3.trans n4.same;have dC:=fN.trans i5;have sQ:∀{α:Type}{l:List α}{u:α},l[i]? =some u->dk l (i:Int)=some u:=λh=>cQ aq (by simpa using h);obtain⟨ub,qf⟩:∃u,yB[i]? =some u:=⟨_,bG aq⟩;refine⟨T,_,Z,aV.of n4.at',Z,_,_,Z,_,_,Z,Z,?_⟩;refine⟨_,Z,_,Z,ta,_,Z,.inl (ht.go dC),.inl ⟨_,_,Z,Z,_,Z,?_⟩⟩;by_cases mI:i=es.length
   ·rw[bT (show((i:Int)=(xt.length:Int)) by lia)]
    refine aU ⟨_,Z,bc Z,λex fx=>?_⟩;exact rz _ _ (kE i 1 aq aq pre (aX ⟨mI,aq⟩) au) H4 _ _ Z Z dC ex fx
   rw[cy (show¬((i:Int)=(xt.length:Int)) by lia)];refine aQ ?_;have mI:i<es.length:=by lia
   obtain⟨e,ee⟩:∃e,es[i]? =some e:=⟨_,bG mI⟩;obtain⟨x,ex,rx⟩:=mG.get i ee;have ent:=tp.ent i e du ee jc;have fk:fz r f (dG j rate os) (cX rate ds os) es.length sq fa i=if fa i=0 then(if kZ r f ((dG j rate os).getD i 0) (i7 sq i) (sq i)=true then 0 else 4)else fa i:=by unfold fz;rw[bf aq,bf aq]
   have pb:=tp.EW i aq aq;have ob:=tp.wu i aq aq;refine⟨_,Z,_,Z,_,Z,_,Z,.inl ⟨ta,_,_,x,Z,Z,ht.go dC,sQ ex,m,y,x,rs,r,f,j,t,du,e,sq i,fa i,Z,RD.mono dC _ rm,aW,RD.mono (s2.trans i5) _ UZ,RD.mono dC _ rx,ent,λH5 s5=>?_⟩⟩;have jP:=dC.trans s5;by_cases hf:fa i=0
   ·rw[hf]
    rw[hf]at ent;rw[aX hf]at fk;refine⟨_,Z,Z,_,Z,aQ ?_⟩;refine⟨_,Z,_,Z,.inl ⟨ta,_,_,x,Z,Z,ht.go jP,sQ ex,x,t,du,e,sq i,Z,RD.mono jP _ rx,ent,λgv OG=>?_⟩⟩;obtain⟨b,eb,GW,Rb,bb⟩:=bv i ub H5 qf (i5.trans s5);rw[GW]at fk;refine⟨_,Z,_,Z,_,Z,.inl ⟨lB,_,_,ub,Z,Z,aK.of ((i5.trans s5) _ _ dB),sQ qf,_,Z,_,Z,m,ub,ev,gv,rs,r,f,j,t,b,i7 sq i,sq i,Z,RD.mono jP _ rm,aW,Rb,bb,oe.go (n4.same.trans s5),pb,OG,ob,λH6 s6=>?_⟩⟩;cases mt:kZ r f b (i7 sq i) (sq i)with |true=>rw[mt,aX rfl]at fk;exact⟨_,Z,aQ ⟨_,Z,(i5.trans s5).trans s6,aq,Ml pre fk,gv,_,_,_,_,kl.go OG s6,Z⟩⟩ |false=>rw[mt,bf au]at fk;refine⟨_,Z,aU ⟨_,Z,bc Z,λex fx=>?_⟩⟩;exact rz _ _ (kE i 4 aq aq pre fk au) H6 _ _ Z Z (jP.trans s6) ex fx
   ·rw[bf hf]at fk
    rw[show fv (fa i)= .int (fa i:Nat)from bf hf];refine⟨_,Z,Z,_,Z,aU ?_⟩;refine⟨_,Z,_,Z,bc Z,λex fx=>?_⟩;exact rz _ _ (kE i (fa i) aq aq pre fk hf) H5 _ _ Z Z jP ex fx
  ·rintro O H3 ⟨s3,hde,pre,ev,v1,v2,v3,v4,oe,rfl⟩
   have kD:=fN.trans s3;have d3:=s3 _ _ (s2 _ _ dD);refine⟨_,Z,ta,_,Z,.inl (ht.go kD),_,Z,lD,_,Z,.inl (aK.of d3),_,_,Z,Z,_,Z,?_⟩;by_cases bQ:yD.length<es.length
   ·rw[bT (show((xt.length:Int)>(yD.length:Int)) by lia)]
    refine aU ⟨_,Z,lD,_,Z,.inl (aK.of d3),bc Z,λex fx=>?_⟩;exact rz _ _ (kE yD.length 1 aq aq pre (by unfold fz;rw[bf aq,aX ⟨Fs,aq⟩]) au) H3 _ _ Z Z kD ex fx
   rw[cy (show¬((xt.length:Int)>(yD.length:Int)) by lia)];refine aQ ?_;have e1:yD.length=es.length:=by lia
   have fk:fz r f (dG j rate os) (cX rate ds os) es.length sq fa yD.length=if kZ r f ((dG j rate os).getD yD.length 0) (i7 sq es.length) none=true then 0 else 4:=by unfold fz;rw[bf aq,bf aq,e1,tp.OT,tp.vM,aX rfl]
   obtain⟨ub,qf⟩:∃u,yB[yD.length]? =some u:=⟨_,bG aq⟩;obtain⟨b,eb,GW,Rb,bb⟩:=bv _ ub H3 qf s3;rw[GW]at fk;refine⟨_,Z,_,Z,1,Z,.inl ⟨lB,_,-1,ub,Z,Z,aK.of (s3 _ _ dB),HD (by rw[RT,ur,<-Fs];exact qf),_,Z,m,ub,ev,.bR,rs,r,f,j,t,b,i7 sq es.length,none,Z,RD.mono kD _ rm,aW,Rb,bb,by rw[<-e1];exact oe,tp.EW _ (bw _) aq,Z,trivial,λH4 s4=>?_⟩⟩;cases mt:kZ r f b (i7 sq es.length) none with
   |true=>
    rw[mt,aX rfl]at fk;refine⟨_,Z,aQ (kq (Nq lk λk hk=>?_) H4 (kD.trans s4))⟩;rcases IB k yD.length with a|a
    ·exact pre k a
    ·rw[show k=yD.length by lia];exact fk |false=>rw[mt,bf au]at fk;refine⟨_,Z,aU ⟨_,Z,lD,_,Z,.inl (aK.of (s4 _ _ d3)),bc Z,λex fx=>?_⟩⟩;exact rz _ _ (kE yD.length 4 aq aq pre fk au) H4 _ _ Z Z (kD.trans s4) ex fx
def Ep:Option (Nat×Nat)->ah |none=>.none |some (k,y)=>.tuple [.int (k:Nat),.int (y:Nat)]
theorem At.kind{n0:Nat}{j rate:Int}{ds:List ah}{os:List Itm}(row:cH n0 ds os){k i c:Nat}(a:At j rate ds os k i c): (os[i]? =some none/\c=0/\(cZ os os.length)[k]? =some (.tuple [.int i,.none])/\∃d,ds[i]? =some d/\itR d none/\(fJ rate ds os os.length)[k]? =some d)\/ ∃ns sp,os[i]? =some (some (ns,sp))/\c<aL ns/\(cZ os os.length)[k]? =some (.tuple [.int i,dr (fP ns c)])/\(fJ rate ds os os.length)[k]? =some (g9 (fP ns c) (topR rate sp)):=by have ll:=row.len;obtain⟨o,eo⟩:∃o,os[i]? =some o:=⟨_,bG a.hi⟩;have hc:=a.hc;cases o with
 |none=>
  obtain⟨d',ed⟩:∃d',ds[i]? =some d':=⟨_,bG (show i<ds.length by have:=a.hi;lia)⟩;rw[sG eo]at hc;have h0:c=0:=by simpa using hc
  subst h0;have e1:=a.dl;rw[sG eo]at e1;have e2:=a.du;rw[xP eo ed]at e2;exact .inl ⟨eo,Z,e1,d',ed,row.it i d' none ed eo,e2⟩ |some p=>obtain⟨ns,sp⟩:=p;rw[sH eo,bB,hX]at hc;have e1:=a.dl;rw[sH eo,bU,kT hc]at e1;have e2:=a.du;rw[sF eo,bU,kT hc]at e2;exact .inr ⟨ns,sp,eo,hc,e1,e2⟩
theorem qx.Qd{n0:Nat}{j ti rate:Int}{ds:List ah}{os:List Itm}{es:List ah}{sq:Nat->Option Rat}{fa:Nat->Nat}(tp:qx ti rate ds os es sq fa)(row:cH n0 ds os){k i c:Nat}(a:At j rate ds os k i c)(hk:k<es.length)(hd:k<cX rate ds os)(h:i7 sq k=none)(h0:∀c,c<k->fa c=0):(dG j rate os)[k]? =some 0:=by have He:(cZ os os.length).length=cX rate ds os:=sI (rate:=rate) row _ (bw os.length);rw[a.bd];cases k with
 |zero=>
  have e:=a.ek;have c0:c=0:=by omega
  have i0:i=0:=by
   by_cases hi:i=0
   ·exact hi
   ·have m:=Hf os (show 1<=i by omega)
    have:=Py row (show 0<os.length by have:=a.hi;omega);have:(cZ os 1).length=(gb os 0).length:=by show([]++gb os 0).length=_;rfl
    omega
  subst c0 i0;exact Hx a.hi |succ k=>
  have h:sq k=none:=h;obtain⟨i',c',a'⟩:=Bg (j:=j) (rate:=rate) row (show k<(cZ os os.length).length by omega);obtain⟨e,ee⟩:∃e,es[k]? =some e:=⟨_,bG aH⟩;rcases a'.kind row with⟨eo,c0,_⟩|⟨ns,sp,_,_,_,jc⟩
  ·rcases a.prev row a' with⟨rfl,hc⟩|⟨rfl,rfl⟩
   ·have:=a.hc
    rw[sG eo]at this;simp at this;omega
   ·rw[Hx a.hi,VU eo]
  ·have en:=tp.ent k e _ ee jc
   rw[h,h0 k (Nat.lt_succ_self k)]at en;rcases en.zero with⟨_,o,_⟩|⟨_,_,_,_,_,hs⟩
   ·exact(uR o Z).elim
   ·cases hs
theorem At.a4t{n0:Nat}{j rate:Int}{ds:List ah}{os:List Itm}(row:cH n0 ds os){k i c:Nat}(a:At j rate ds os (k+1) i c)(hk:k+1<(cZ os os.length).length):∃i' rd,(cZ os os.length)[k]? =some (.tuple [.int (i':Nat),rd])/\(i'=i->∃ns sp,os[i]? =some (some (ns,sp))/\(dG j rate os)[k+1]? =some (topR rate sp))/\(i'≠i->(dG j rate os)[k+1]? =some (ownF j rate os i)):=by
 obtain⟨i',c',a'⟩:=Bg (j:=j) (rate:=rate) row (show k<(cZ os os.length).length by lia);obtain⟨rd,e1⟩:=a'.num;refine⟨i',rd,e1,λh=>?_,λh=>?_⟩
 ·rcases a.prev row a' with⟨_,hc⟩|⟨h2,_⟩
  ·rcases a.kind row with⟨_,c0,_⟩|⟨ns,sp,eo,hl,_⟩
   ·lia
   ·exact⟨ns,sp,eo,by rw[a.bd];exact a4B eo hc hl⟩
  ·lia
 ·rcases a.prev row a' with⟨h2,_⟩|⟨_,rfl⟩
  ·exact(h h2).elim
  ·rw[a.bd];exact Hx a.hi
inductive a6d(K:a8)(vs:List V)(H:Hp)(Q:VK):Prop |mk (m:_)(iv:_)(rate:_)(tv:_)(rs:_)(r:_)(f:_)(j:_)(t:_)(ds:_)(os:_)(D:_)(res:_)(h0:vs=[m,iv,.int rate,tv])(h1:RD K H m (dQ rs r f j t))(h2:fc rs r f j t)(h3:RD K H iv (.tuple ds))(h4:cH rs.length ds os)(h5:ds.length<=30)(h6:10<=rate)(h7:rate<=200)(h8:RD K H tv D)(h9:Bo r f j t rate ds os D res)(sk:∀v H',aD H H'->RD K H' v (Ep res)->Q v H')
def JY(K:a8):Sp:=λvs H Q _=>a6d K vs H Q
abbrev LL:Stmt:=top 101
theorem Ld:bF ["_law_machine_here","_law_items_here","_law_rate","_law_tape","_law_due","_law_bounds_here","_law_ahead","_law_at","_law_behind","_law_bound","_law_number_here","_law_row","_law_why"] ["_law_machine_here","_law_items_here","_law_rate","_law_tape"] (bu LL):=bP aP
theorem X2(F:FA K mg "_law_look" LL)(B:bK mg)(a1o:aB P w K mg az "_law_due_entries" 4 (K0 K))(a1p:aB P w K mg az "_law_bounds" 3 (CC K))(a1n:aB P w K mg az "_law_entry_fault" 5 (CA K))(uF:aB P w K mg az "_law_top" 2 (vN K))(a1m:aB P w K mg az "_law_fits" 3 (zw K)):aB P w K mg az "_law_look" 6 (JY K):=by
 refine F.has Ld (λvs H Q E h=>?_) (λ_ _ _ _ _ _=>sS λ_ _ _ _=>rfl) (λfa aO A outer s H vs Q E hr h=>?_)
 ·obtain⟨m,iv,rate,tv,rs,r,f,j,t,ds,os,D,res,rfl,_⟩:=h
  rfl
 ·obtain⟨m,iv,rate,tv,rs,r,f,j,t,ds,os,D,res,rfl,rm,aW,ri,row,hz,cf,cj,rt,wN,k⟩:=h
  have nd:=Ld.nd;refine⟨_,(aC (bA (cS (ck (fj K B (ak (pv 3) (ak (eZ (x:="list") (v:=.ty "list") Z (B.at "list") kR rfl) aw))))) (aI (aR (cg (ak aA (ak aA aw))))) bE) (aC (pS 4 nd (pf a1o hr (ak (pv 1) aw))) (aC (pS 5 nd (pf a1p hr (ak (pv 0) (ak (pv 1) (ak (pv 2) aw))))) (aC (pS 6 nd eQ) (aC (fR f7 Z (nQ Z (B.at "range") (ak (aG bZ (dF K B (ak (pv 3) aw)) aA) aw)) (aZ 7 nd) (aC (eB (cg (ak eQ (ak (cg (ak aA (ak aA aw))) aw))) (cV K Z (n:=2) Z (bN (aZ 8 nd) (bN (aZ 9 nd) cU)))) (aC (mi (bA (bJ (cC K Z hr.units) (pv 7) (dF K B (ak (pv 3) aw)) (bo _)) (aI (bA (bJ jy (pv 7) (dF K B (ak (pv 4) aw)) (bo _)) (aI (aR (cg (ak (pv 7) (ak aA aw))))) bE)) (aC (bA (bJ EZ (pv 7) (dF K B (ak (pv 4) aw)) (bo _)) (aI (aR (cg (ak (pv 7) (ak aA aw))))) bE) (aC (eB (px K (pv 4) (pv 7)) (cV K Z (n:=2) Z (bN (aZ 10 nd) (bN (aZ 11 nd) cU)))) (aC (pS 12 nd (pf a1n hr (ak (pv 0) (ak (px K (pv 1) (pv 10)) (ak (pv 11) (ak (pv 2) (ak (px K (pv 3) (pv 7)) aw))))))) (aC (bA (bJ kH (pv 12) aA (bo _)) (aI (aR (cg (ak (pv 7) (ak (pv 12) aw))))) bE) (aC (mi (bA (bJ nS (pv 11) eQ (bo _)) (aI (pS 8 nd (px K (px K (pv 3) (pv 7)) aA))) bE)) (aI (bA (bJ nS (pv 6) eQ (bo _)) (aC (pS 9 nd (px K (pv 5) (pv 10))) (aI (bA (bJ (cC K Z hr.units) (px K (px K (pv 4) (aG fT (pv 7) aA)) aA) (pv 10) (bo _)) (aI (pS 9 nd (pf uF hr (ak (px K (pv 1) (pv 10)) (ak (pv 2) aw))))) bE))) bE))))))))) (aC (bA (cS (ck (pf a1m hr (ak (pv 0) (ak (pv 9) (ak (pv 6) (ak (pv 8) aw))))))) (aI (aR (cg (ak (pv 7) (ak aA aw))))) bE) (aI (pS 6 nd (pv 8))))))) (aI (aR eQ))))))),?_⟩;have ll:=row.len;have lr:=aW.len;have Hw:=Qk aW row cf cj;have rz:∀(i y:Nat),res=some (i,y)->∀(p:Addr)(H5 H6:Hp)(iv yv:V),iv= .int (i:Nat)->yv= .int (y:Nat)->aD H H5->Nw H5 H6 p (.tup [iv,yv])->Q (.ref p) H6:=by rintro i y er p H5 H6 _ _ rfl rfl s5 n6;refine k _ H6 (s5.trans n6.same) ?_;rw[er];exact eY (aV.of n6.at') (bV (df _) (bV (df _) cD))
  rcases wN with⟨es,sq,fa,rfl,tp,lk⟩|⟨hl,er⟩
  rotate_left
  ·refine⟨_,Z,.inl ⟨_,_,"list",false,Z,rt.ty,au,hl,_,Z,aU ?_⟩⟩
   exact⟨bc Z,λp H5 n5=>rz 0 1 er p H H5 _ _ Z Z (aD.refl _) n5⟩
  refine⟨_,Z,.inl ⟨_,_,"list",true,Z,rt.ty,au,(by decide:eX "list" "list"=true),_,Z,aQ ?_⟩⟩;refine⟨_,Z,iv,rs.length,ds,os,Z,ri,row,aq,hz,λlD yD H1 nD dD rD s1=>?_⟩;refine⟨_,Z,_,Z,_,Z,m,iv,rate,rs,r,f,j,t,ds,os,Z,RD.mono s1 _ rm,aW,RD.mono s1 _ ri,row,aq,cf,cj,λlB yB H2 nB dB rB s2=>?_⟩;have fN:=s1.trans s2;obtain⟨ta,xt,rfl,ht,mG⟩:=rt.lst_inv;obtain⟨ia,xi,rfl,Oc,his⟩:=ri.bX;have Yl:=mG.length;have Fs:=rD.length;have ur:=rB.length;rw[bB,ownL,bB,hX]at ur;have He:(cZ os os.length).length=cX rate ds os:=sI (rate:=rate) row _ (bw os.length);have dl:cX rate ds os<=100*os.length:=(uS (rate:=rate) row _ (bw _)).1;have pX:sizeLine=16777216:=by decide
  have hsm:=tp.small;have NB:(dG j rate os).length=cX rate ds os+1:=by unfold dG;rw[cB,qv (ds:=ds) row _ (bw _)];rfl
  have own:∀(c:Nat)(u:V)(H':Hp),c<=os.length->yB[c]? =some u->aD H2 H'->bC K H' u (ownF j rate os c):=by intro c u H' hc e t';obtain⟨d1,e1,r1⟩:=rB.get' c e;rw[bU,ownL,bU,kT aq]at e1;cases e1;exact(fQ r1).go t'
  have kE:∀(i y:Nat),i<=es.length->i<=cX rate ds os->(∀k,k<i->fz r f (dG j rate os) (cX rate ds os) es.length sq fa k=0)->fz r f (dG j rate os) (cX rate ds os) es.length sq fa i=y->y≠0->res=some (i,y):=λi y As dZ pre e hy=>Nt lk (Nat.le_min.mpr ⟨As,dZ⟩) pre e hy;refine⟨_,Z,ta,_,Z,.inl (ht.go fN),_,_,Z,Z,_,Z,aq,aq,?_⟩;have eN:((xt.length:Int)+1).toNat=es.length+1:=by lia
  rw[eN];refine pZ (Pv:=λi O H3=>aD H2 H3/\i<=cX rate ds os+1/\(∀k,k<i->fz r f (dG j rate os) (cX rate ds os) es.length sq fa k=0)/\∃av v1 v2 v3 v4 v5 v6,kl K H3 av (i7 sq i)/\O=[some m,some (.ref ia),some (.int rate),some (.ref ta),some (.ref lD),some (.ref lB),some av,v1,v2,v3,v4,v5,v6]) ?_ ?_ ?_
  ·exact⟨aD.refl _,eK _,λ_ h=>absurd h (BG _),.bR,none,none,none,none,none,none,Z,Z⟩
  ·rintro i O H3 hi ⟨s3,ZP,pre,av,v1,v2,v3,v4,v5,v6,oa,rfl⟩
   have oq:i<=cX rate ds os:=by
    by_cases h:i=cX rate ds os+1
    ·have:=pre (cX rate ds os) aq
     unfold fz at this;rw[bf aq,aX ⟨Z,aq⟩]at this;cases this
    ·lia
   have sQ:∀{α:Type}{l:List α}{u:α},l[i]? =some u->dk l (0+(i:Int))=some u:=λh=>cQ aq (by rw[yO];simpa using h);refine⟨bc Z,λz0 H40 N5=>?_⟩;refine⟨bc Z,λz1 H4 Fg=>?_⟩;refine⟨z1,_,Z,aV.of Fg.at',Z,_,_,Z,_,_,Z,Z,?_⟩;have N4:=N5.same.trans Fg.same;have i5:=s3.trans N4;have dC:=fN.trans i5;have R0:bC K H4 (.ref z0) 0:=⟨z0,Z,aV.of (Fg.same _ _ N5.at')⟩;have wy:=oa.go N4;refine⟨λO H5=>aD H4 H5/\∃gv bv b tN tM J5,kl K H5 gv (sq i)/\bC K H5 bv b/\(dG j rate os)[i]? =some b/\fz r f (dG j rate os) (cX rate ds os) es.length sq fa i=(if kZ r f b (i7 sq i) (sq i)=true then 0 else 4)/\O=[some m,some (.ref ia),some (.int rate),some (.ref ta),some (.ref lD),some (.ref lB),some av,some (.int (0+(i:Int))),some gv,some bv,tN,tM,J5],?_,?_⟩
   ·refine⟨_,Z,_,Z,ta,_,Z,.inl (ht.go dC),.inl ⟨_,_,Z,Z,_,Z,?_⟩⟩
    by_cases mI:i=es.length
    ·rw[bT (show(0+(i:Int)=(xt.length:Int)) by lia)]
     refine aU ?_;refine⟨_,Z,_,Z,lD,_,Z,.inl (aK.of ((s2.trans i5) _ _ dD)),_,_,Z,Z,_,Z,?_⟩;by_cases bQ:i<cX rate ds os
     ·rw[bT (show(0+(i:Int)<(yD.length:Int)) by lia)]
      refine aU ⟨_,Z,bc Z,λp H5 n5=>?_⟩;exact rz _ _ (kE i 1 aq oq pre (by unfold fz;rw[aX ⟨mI,aq⟩]) au) p H4 H5 _ _ (by rw[yO]) Z dC n5
     rw[cy (show¬(0+(i:Int)<(yD.length:Int)) by lia)];have hl:(jd j rate os os.length).length=i:=by
      rw[qv (ds:=ds) (rate:=rate) row _ (bw _)];show cX rate ds os=i
      lia
     have eb:(dG j rate os)[i]? =some 0:=by unfold dG;rw[oQ aq,hl,BE,VV];rfl
     refine aQ ⟨aD.refl _,.bR,.ref z0,0,_,_,_,by rw[mI,tp.vM];rfl,R0,eb,?_,Z⟩;unfold fz;rw[bf aq,bf aq,mI,tp.OT,aX Z,vw,<-mI,eb];rfl
    ·rw[cy (show¬(0+(i:Int)=(xt.length:Int)) by lia)]
     refine aQ ?_;have G9:i<es.length:=by lia
     refine⟨_,Z,_,Z,lD,_,Z,.inl (aK.of ((s2.trans i5) _ _ dD)),_,_,Z,Z,_,Z,?_⟩;by_cases Av:cX rate ds os<=i
     ·rw[bT (show((yD.length:Int)<=0+(i:Int)) by lia)]
      refine aU ⟨_,Z,bc Z,λp H5 n5=>?_⟩;exact rz _ _ (kE i 1 aq oq pre (by unfold fz;rw[bf aq,aX ⟨aq,aq⟩]) au) p H4 H5 _ _ (by rw[yO]) Z dC n5
     rw[cy (show¬((yD.length:Int)<=0+(i:Int)) by lia)];refine aQ ?_;have xk:i<cX rate ds os:=by lia
     obtain⟨ix,c,jH⟩:=Bg (j:=j) (rate:=rate) row (show i<(cZ os os.length).length by lia);obtain⟨e,ee⟩:∃e,es[i]? =some e:=⟨_,bG G9⟩;obtain⟨x,ex,rx⟩:=mG.get i ee;have fk:fz r f (dG j rate os) (cX rate ds os) es.length sq fa i=if fa i=0 then(if kZ r f ((dG j rate os).getD i 0) (i7 sq i) (sq i)=true then 0 else 4)else fa i:=by unfold fz;rw[bf aq,bf aq]
     have xE:fa i=0->∀b,(dG j rate os)[i]? =some b->fz r f (dG j rate os) (cX rate ds os) es.length sq fa i=(if kZ r f b (i7 sq i) (sq i)=true then 0 else 4):=λh b eb=>by rw[fk,h,aX Z,vw,eb];rfl
     have knd:=jH.kind row;obtain⟨rd,GS⟩:=jH.num;obtain⟨y,ey,ry⟩:=rD.get i GS;obtain⟨ya,ys,rfl,Zm,gW⟩:=(RD.mono (s2.trans i5) _ ry).bX;obtain⟨u1,yr,rfl,e1,gW⟩:=gW.cons_inv;obtain⟨rv,yr,rfl,e2,gW⟩:=gW.cons_inv;cases gW.nil_inv;cases e1.int_inv;obtain⟨dx,sE⟩:∃d,ds[ix]? =some d:=⟨_,bG (by have:=jH.hi;lia)⟩;obtain⟨xv,OY,Ee⟩:=his.get ix sE;refine⟨_,Z,_,Z,.inl ⟨lD,_,_,.ref ya,Z,Z,aK.of ((s2.trans i5) _ _ dD),sQ ey,ya,_,Z,Zm,Z,_,_,Z,_,_,Z,Z,?_⟩⟩;refine⟨_,Z,_,Z,_,Z,.inr ⟨ia,_,_,xv,Z,Z,Oc.go dC,cQ aq (by simpa using OY),?_⟩⟩;refine⟨_,Z,_,Z,_,Z,_,Z,.inl ⟨ta,_,_,x,Z,Z,ht.go dC,sQ ex,?_⟩⟩;have Mm:∀c,c<i->fa c=0:=λc hc=>by
      have z:=pre c hc;unfold fz at z;rw[bf aq,bf aq]at z;by_cases h:fa c=0
      ·exact h
      ·rw[bf h]at z;exact(h z).elim
     obtain⟨du,jc⟩:∃d,(fJ rate ds os os.length)[i]? =some d:=⟨_,bG xk⟩;have ent:=tp.ent i e du ee jc;have hk:(rv= .bR/\gA du/\RD K H4 xv du)\/∃ns sp zs,du=g9 zs (topR rate sp)/\RD K H4 xv (fW ns sp)/\1<=sp/\sp<=20/\10<=rate/\rate<=200/\RD K H4 rv (dr zs)/\zs.length<=1000:=by
      rcases knd with⟨eo,c0,xO,d',AS,Z1,xN⟩|⟨ns,sp,eo,rZ,xO,xN⟩
      ·rw[GS]at xO
       cases xO;cases e2.F9;rw[sE]at AS;cases AS;rw[jc]at xN;cases xN;refine .inl ⟨Z,?_,RD.mono dC _ Ee⟩;rcases ent.kind with o|⟨zs,top,h1,_⟩
       ·exact o
       ·exact(Z2 Z1 h1).elim
      ·rw[GS]at xO
       cases xO;have GU:=jV (row.it ix dx _ sE eo);subst GU;obtain⟨cx,de,dA⟩:=row.ok ix ns sp eo;rw[jc]at xN;cases xN;exact .inr ⟨ns,sp,_,Z,RD.mono dC _ Ee,de,dA,cf,cj,e2,by unfold fP;rw[bB,cx.len];lia⟩
     refine⟨m,xv,rv,rate,x,rs,r,f,j,t,du,e,sq i,fa i,Z,RD.mono dC _ rm,aW,RD.mono dC _ rx,ent,hk,λH6 s6=>?_⟩;by_cases hf:fa i=0
     rotate_left
     ·refine⟨_,Z,_,_,Z,Z,_,Z,?_⟩
      rw[bT (show((fa i:Nat):Int)>0 by lia)];refine aU ⟨_,Z,_,Z,bc Z,λp H7 n7=>?_⟩;exact rz _ _ (kE i (fa i) aq oq pre (by rw[fk,bf hf]) hf) p H6 H7 _ _ (by rw[yO]) Z (dC.trans s6) n7
     rw[hf];rw[hf]at ent;have xE:=xE hf;refine⟨_,Z,_,_,Z,Z,_,Z,aQ ?_⟩;refine⟨λO H7=>H7=H6/\∃gv,kl K H6 gv (sq i)/\O=[some m,some (.ref ia),some (.int rate),some (.ref ta),some (.ref lD),some (.ref lB),some av,some (.int (0+(i:Int))),some gv,some (.ref z0),some (.int (ix:Int)),some rv,some (.int 0)],?_,?_⟩
     ·rcases hk with⟨rfl,gR,_⟩|⟨ns,sp,zs,rfl,_,_,_,_,_,rr,_⟩
      ·obtain⟨hs,_⟩:=ent.other 0 gR
       exact⟨_,Z,Z,_,Z,aQ ⟨Z,.bR,by rw[hs];rfl,Z⟩⟩
      ·obtain⟨ra,Uz,rfl,Aj,_⟩:=id rr.bX
       obtain⟨_,⟨_,z,_⟩|⟨a',b',rfl,_,_,⟨_,z,_⟩|⟨q,q0,bq,rfl,rfl,_,_,hs⟩⟩⟩:=ent.step aW.t1.1 aW.t1.2
       ·cases z
       ·cases z
       obtain⟨lQ,v1,v2,v3,v4,rfl,k1,_,_,_,k4⟩:=w9 (RD.mono (dC.trans s6) _ rx);refine⟨_,Z,Z,_,Z,aU ?_⟩;exact⟨_,Z,_,Z,.inl ⟨ta,_,_,.ref lQ,Z,Z,ht.go (dC.trans s6),sQ ex,.inr ⟨lQ,_,3,v4,Z,Z,k1,Z,Z,v4,by rw[hs];exact fQ k4,Z⟩⟩⟩
     rintro O H7 ⟨rfl,gv,OG,rfl⟩;cases hp:i7 sq i with |none=>rw[hp]at wy;have ea:av= .bR:=wy;subst ea;refine⟨_,Z,Z,_,Z,aQ ?_⟩;exact⟨s6,gv,.ref z0,0,_,_,_,OG,R0.go s6,tp.Qd row jH G9 xk hp Mm,(by have z:=xE _ (tp.Qd row jH G9 xk hp Mm);rw[hp]at z;exact z),Z⟩ |some q'=>cases Ob:i with |zero=>rw[Ob]at hp;cases hp |succ kk=>
      subst Ob;rw[hp]at wy;obtain⟨aa,ea,_⟩:=id (show bC K H4 av q' from wy);subst ea;refine⟨_,Z,Z,_,Z,aU ?_⟩;have vW:=i5.trans s6;have nH:=fN.trans vW;obtain⟨ub,qf⟩:∃u,yB[ix]? =some u:=⟨_,bG (by have:=jH.hi;lia)⟩;have Ro:=own ix ub H7 (by have:=jH.hi;lia) qf vW;refine⟨_,Z,_,Z,.inl ⟨lB,_,_,ub,Z,Z,aK.of (vW _ _ dB),cQ aq (by simpa using qf),?_⟩⟩;obtain⟨i',nJ,edp,b1,b2⟩:=jH.a4t row aq;obtain⟨yp,eyp,Uy⟩:=rD.get kk edp;obtain⟨J0,yps,rfl,hyp,hyps⟩:=(RD.mono (s2.trans vW) _ Uy).bX;obtain⟨u1,yr,rfl,eu1,hyps⟩:=hyps.cons_inv;cases eu1.int_inv;refine⟨_,Z,_,Z,_,_,Z,Z,.inl ⟨lD,_,_,.ref J0,Z,Z,aK.of ((s2.trans vW) _ _ dD),cQ aq (by rw[show(0+((kk+1:Nat):Int)-1).toNat=kk by lia];exact eyp),?_⟩⟩;refine .inr ⟨J0,_,0,.int (i':Int),Z,Z,hyp,cQ (iP 0) Z,?_⟩;refine⟨_,Z,.inl ⟨_,_,Z,Z,_,Z,?_⟩⟩;by_cases xj:i'=ix
      ·rw[bT (show((i':Int)=(ix:Int)) by lia)]
       obtain⟨wC,vR,P9,Pr⟩:=b1 xj;obtain⟨a7I,U6,U5⟩:=row.ok ix wC vR P9;have GU:=jV (row.it ix dx _ sE P9);subst GU;refine aU ⟨_,Z,_,Z,.inr ⟨ia,_,_,xv,Z,Z,Oc.go nH,cQ aq (by simpa using OY),?_⟩⟩;refine⟨_,Z,xv,wC,vR,rate,Z,RD.mono nH _ Ee,U6,U5,cf,cj,λSx H7 R7 s7=>?_⟩;exact⟨s6.trans s7,gv,Sx,_,_,_,_,kl.go OG s7,R7,Pr,(by have z:=xE _ Pr;rw[hp]at z;exact z),Z⟩
      ·rw[cy (show¬((i':Int)=(ix:Int)) by lia)]
       exact aQ ⟨s6,gv,ub,_,_,_,_,OG,Ro,b2 xj,(by have z:=xE _ (b2 xj);rw[hp]at z;exact z),Z⟩
   ·rintro O H5 ⟨s5,gv,bv,b,tN,tM,J5,og,Rb,eb,fk,rfl⟩
    have jP:=dC.trans s5;have XG:sX 1900 (sq i):=by
     by_cases mI:i=es.length
     ·rw[mI,tp.vM];trivial
     by_cases xk:i=cX rate ds os
     ·have hh:fz r f (dG j rate os) (cX rate ds os) es.length sq fa i=1:=by unfold fz;rw[bf aq,aX ⟨xk,aq⟩]
      rw[hh]at fk;split at fk<;>cases fk
     ·exact tp.wu i aq aq
    refine⟨_,Z,_,Z,_,Z,_,Z,m,bv,av,gv,rs,r,f,j,t,b,i7 sq i,sq i,Z,RD.mono jP _ rm,aW,Rb,Hw b (fC eb),wy.go s5,tp.EW i aq oq,og,XG,λH6 s6=>?_⟩;cases mt:kZ r f b (i7 sq i) (sq i)with |true=>rw[mt,aX rfl]at fk;exact⟨_,Z,aQ ⟨_,Z,(i5.trans s5).trans s6,aq,Ml pre fk,gv,_,_,_,_,_,_,og.go s6,Z⟩⟩ |false=>rw[mt,bf au]at fk;refine⟨_,Z,aU ⟨_,Z,bc Z,λp H7 n7=>?_⟩⟩;exact rz _ _ (kE i 4 aq oq pre fk au) p H6 H7 _ _ (by rw[yO]) Z (jP.trans s6) n7
  ·rintro O H3 ⟨s3,ZP,pre,av,v1,v2,v3,v4,v5,v6,oa,rfl⟩
   have er:=Nq lk λk hk=>pre k (by have:=Nat.le_min.mp hk;lia);refine k .bR H3 (fN.trans s3) ?_;rw[er];exact u9
theorem Uj{t u:TS}{D:Ends}{O:L2.St}{H:Hp}(Pm:L2.St->Hp->Prop)(h2:∀σ' H',Pm σ' H'->u D σ' H')(h1:∀R:TS,(∀σ' H',Pm σ' H'->R D σ' H')->vG t R D O H):vG t u D O H:=h1 u h2
abbrev LJ:Stmt:=top 79
theorem KL:bF ["_law_thing"] ["_law_thing"] (bu LJ):=bP aP
theorem WS(F:FA K mg "_law_number" LJ)(B:bK mg):Bp P w K mg az "_law_number" 1 (iS K):=by
 refine F.a0C KL (λvs H Q E h=>?_) (λ_ _ _ _ _ _=>gz λ_=>rfl) (λf aO A outer s H vs Q hr h=>?_)
 ·obtain⟨v,T,rfl,_⟩:=h
  rfl
 ·obtain⟨v,T,rfl,ty,k⟩:=h
  have nd:=KL.nd;refine⟨_,(aI (aR (iY (fj K B (ak (pv 0) (ak (eZ (x:="int") (v:=.ty "int") Z (B.at "int") qH rfl) aw))) (jw (rf (fj K B (ak (pv 0) (ak (eZ (x:="bool") (v:=.ty "bool") rfl (B.at "bool") RM rfl) aw)))))))),?_⟩;refine⟨_,Z,.inl ⟨_,T,"int",_,Z,ty,au,Z,_,Z,?_⟩⟩;unfold eF at k;refine dM (λhc=>?_) (λhc=>?_)
  ·refine⟨_,Z,.inl ⟨_,T,"bool",_,Z,ty,au,Z,_,Z,?_⟩⟩
   rw[hc,jL]at k;exact k
  ·rw[oU.mpr hc,ji]at k
   exact k
inductive a69(K:a8)(vs:List V)(H:Hp)(Q:VK):Prop |mk (m:_)(iv:_)(rate:_)(tv:_)(rs:_)(r:_)(f:_)(j:_)(t:_)(ds:_)(os:_)(D:_)(res:_)(h0:vs=[m,iv,.int rate,tv])(h1:RD K H m (dQ rs r f j t))(h2:fc rs r f j t)(h3:RD K H iv (.tuple ds))(h4:cH rs.length ds os)(h5:ds.length<=30)(h6:10<=rate)(h7:rate<=200)(h8:RD K H tv D)(h9:bW 8 D)(sk:Bo r f j t rate ds os D res)(Gq:∀v H',aD H H'->RD K H' v (Ep res)->Q v H')
def JX(K:a8):Sp:=λvs H Q _=>a69 K vs H Q
theorem KY:bF ["_law_machine_here","_law_items_here","_law_rate","_law_tape","_law_kept","_law_found","e","_law_others"] ["_law_machine_here","_law_items_here","_law_rate","_law_tape"] (bu Dt):=bP aP
theorem X3{C fI cG c0 c1 c2 c3 c4 c5 c6 c7 c8 c9:Addr}(F:FA K mg "_law_looked" Dt)(B:bK mg)(EA:R9 K mg C fI cG c0 c1 c2 c3 c4 c5 c6 c7 c8 c9)(ZT:yo P w K mg az "look" 10 (Cq K C))(lL:Bp P w K mg az "_law_number" 1 (iS K)):aB P w K mg az "_law_looked" 11 (JX K):=by
 refine F.a0E KY (λvs H Q E h=>?_) (λ_ _ _ _ _ _=>sS λ_ _ _ _=>rfl) (λf aO A outer s H vs Q E hr h=>?_)
 ·obtain⟨m,iv,rate,tv,rs,r,f,j,t,ds,os,D,res,rfl,_⟩:=h
  rfl
 ·obtain⟨m,iv,rate,tv,rs,r,f,j,t,ds,os,D,res,rfl,rm,aW,ri,row,hz,cf,cj,rt,ok,lk,k⟩:=h
  have nd:=KY.nd;have hy:=EA.g;have Gg:(Hs).contains (.type "BaseException")=true:=by decide
  have Gm:∀C',C'=C->ClsAt K C'/\takes K C' cG:=λC' e=>by subst e;exact⟨EA.oc.e.cls,EA.t⟩
  have a15:=EA.h0;have a0W:=EA.h1;have a0V:=EA.h2;have a0U:=EA.h3;have a0T:=EA.h4;have a0S:=EA.h5;have a0R:=EA.h6;have a0Q:=EA.h7;have a0O:=EA.h8;have a0N:=EA.h9;have a0L:=EA.v;have a0P:GV mg "NoTape" (.ref C):=⟨_,EA.oc.e.at',Z⟩;refine⟨_,(nc.PV (pS 4 nd (wj (ck (fj K B (ak (pv 3) (ak (eZ (x:="list") (v:=.ty "list") Z (B.at "list") kR rfl) aw)))) (fh (x:="list") (rH K rfl) rfl (B.at "list") kR (ak (pv 3) aw)) eQ)) (nc.PV (pS 5 nd eQ) (nc.a3U (Vu (i:=6) Z Z nd Z Z Z (λE xe hp=>(aI (bA (bJ nS (VO ZT hp (hr.mono au) Z (ak (pv 0) (ak (pv 1) (ak (pv 2) (ak (pv 3) aw))))) eQ (bo _)) (aI (pS 5 nd cJ)) bE))) Z hy Gg Gm (λex=>(aC (pS 7 nd (dv (x:="isinstance") (FN K Z) Z (B.at "isinstance") Iy (ak (pv 6) (ak (cg (ak (dg (x:="Full") rfl a15) (ak (dg (x:="Moving") rfl a0W) (ak (dg (x:="NoFraction") rfl a0V) (ak (dg (x:="NoItem") rfl a0U) (ak (dg (x:="NoLine") rfl a0T) (ak (dg (x:="NoMachine") rfl a0S) (ak (dg (x:="NoPlace") rfl a0R) (ak (dg (x:="NoRate") rfl a0Q) (ak (dg (x:="NoText") rfl a0O) (ak (dg (x:="OffRails") rfl a0N) aw))))))))))) aw)))) (aC (pS 5 nd cJ) (aI (bA (PW.pt (nK (ck (dv (x:="isinstance") (FN K Z) Z (B.at "isinstance") Iy (ak (pv 6) (ak (dg (x:="NoTape") rfl a0P) aw)))) (nK (cS (ck (pv 7))) (pg (ck (dv (x:="isinstance") (FN K rfl) rfl (B.at "isinstance") Iy (ak (pv 6) (ak (eZ (x:="ValueError") (v:=.ty "ValueError") rfl a0L a4s rfl) aw)))))))) (aI (bA (PW.pt (nK (ck (Mu lL ((hr.mark _).mono au) Z (ak (zI K Z (pv 6)) aw))) (pg (ck (Mu lL ((hr.mark _).mono au) Z (ak (zI K Z (pv 6)) aw)))))) (aI (pS 5 nd (cg (ak (zI K Z (pv 6)) (ak (zI K Z (pv 6)) aw))))) bE)) bE)))))) (aC (bA (PW.pt (nK (bJ nS (pv 4) eQ (bo _)) (pg (bJ (iB K Z hr.units) (pv 3) (pv 4) (bo _))))) (aI (aR cJ)) bE) (aI (aR (pv 5))))))),?_⟩;refine Uj (λO H1=>∃kv,aD H H1/\(kv= .bR\/∃l1,kv= .ref l1/\RD K H1 kv D)/\O=[some m,some iv,some (.int rate),some tv,some kv,none,none,none]) ?_ λR hR=>?_
  rotate_left
  ·rcases Fw D with⟨es,rfl⟩|⟨hl,_⟩
   ·obtain⟨ta,xt,rfl,ht,mG⟩:=id rt.lst_inv
    refine⟨_,Z,.inl ⟨_,_,"list",true,Z,rt.ty,au,(by decide:eX "list" "list"=true),_,Z,aU ?_⟩⟩;refine⟨_,Z,ta,_,Z,.inl ht,λl1 H1 n1=>hR _ _ ?_⟩;exact⟨_,n1.same,.inr ⟨l1,Z,wa (aK.of n1.at') (aJ.mono n1.same _ mG)⟩,Z⟩
   ·refine⟨_,Z,.inl ⟨_,_,"list",false,Z,rt.ty,au,hl,_,Z,aQ (hR _ _ ?_)⟩⟩
    exact⟨_,aD.refl _,.inl Z,Z⟩
  rintro O H1 ⟨kv,s1,O8,rfl⟩;refine⟨λσ' cls dx H'=>σ'=[some m,some iv,some (.int rate),some tv,some kv,some .bR,none,none]/\cls= .ref C/\∃(d:Addr)(kk y:Nat),dx=some d/\res=some (kk,y)/\aD H1 H'/\H' d=some (.xd (wB (.int (kk:Nat)) (.int (y:Nat)))),?_,λσ' cls dx H' h=>⟨C,h.2.1,Z⟩,?_⟩
  ·refine⟨_,Z,_,Z,_,Z,_,Z,m,iv,rate,tv,rs,r,f,j,t,ds,os,D,res,Z,RD.mono s1 _ rm,aW,RD.mono s1 _ ri,row,hz,cf,cj,RD.mono s1 _ rt,lk,λer H2 s2=>?_,λkk y er H' dx sm hd=>⟨Z,Z,dx,kk,y,Z,er,sm,hd⟩⟩
   refine⟨Z,_,Z,aQ ?_⟩;have LS:=s1.trans s2;have k:=k .bR H2 LS (by rw[er];exact u9);rcases O8 with rfl|⟨l1,rfl,rk⟩
   ·exact⟨_,Z,Z,_,Z,aQ ⟨_,Z,k⟩⟩
   refine⟨_,Z,Z,_,Z,aU ?_⟩;refine⟨_,Z,_,Z,.inr ⟨_,_,RD.mono LS _ rt,RD.mono s2 _ rk,i4 ok,i4 ok,_,Z,?_⟩⟩;rw[eqv_refl _ ok.lay];exact aQ ⟨_,Z,k⟩
  ·rintro C' ex dx σ' H' hl ⟨rfl,eC,d,kk,y,rfl,er,sm,hd⟩ hex
   cases eC;have e1:(L2.upd H' ex (.ext (lY ex (.ref C) (some d)))) ex=some (.ext (lY ex (.ref C) (some d))):=cF;have dne:d≠ex:=cW hd hex;have e3:(L2.upd H' ex (.ext (lY ex (.ref C) (some d)))) d=some (.xd (wB (.int (kk:Nat)) (.int (y:Nat)))):=by rw[bL dne];exact hd
   refine⟨_,Z,bc Z,λt H2 nw=>?_⟩;have e2:=nw.same _ _ e1;have e4:=nw.same _ _ e3;refine .inr ⟨ex,C,t,some d,[c0,c1,c2,c3,c4,c5,c6,c7,c8,c9],false,Z,e2,EA.k,nw.at',EA.any,?_⟩;refine⟨_,Z,.inl ⟨ex,C,some d,.ref C,.ref C,true,Z,e2,EA.k,Z,EA.own,_,Z,aU ?_⟩⟩;refine⟨_,Z,_,Z,aU ?_⟩;refine⟨_,Z,.inl ⟨ex,C,some d,.ty "ValueError",.type "ValueError",true,Z,e2,EA.k,Z,EA.ve,_,Z,aU ?_⟩⟩;refine⟨_,Z,ex,C,d,_,(kk:Int),Z,e2,e4,EA.k,EA.fat,Z,_,_,Z,(df (K:=K) (H:=H2) (kk:Int)).ty,_,Z,?_⟩;rw[show eF (da (.int (kk:Int)))=true from(by decide:eF "int"=true)];refine aU ?_;refine⟨_,Z,ex,C,d,_,(y:Int),Z,e2,e4,EA.k,EA.fwhy,Z,_,_,Z,(df (K:=K) (H:=H2) (y:Int)).ty,_,Z,?_⟩;rw[show eF (da (.int (y:Int)))=true from(by decide:eF "int"=true)];refine aU ?_;refine⟨_,Z,ex,C,d,_,(kk:Int),Z,e2,e4,EA.k,EA.fat,Z,_,Z,ex,C,d,_,(y:Int),Z,e2,e4,EA.k,EA.fwhy,Z,bc Z,λp H3 n3=>?_⟩;have zB:aD H1 H3:=sm.trans ((aD.new hex).trans (nw.same.trans n3.same));have kD:=s1.trans zB;have k:=k (.ref p) H3 kD (by rw[er];exact eY (aV.of n3.at') (bV (df _) (bV (df _) cD)));rcases O8 with rfl|⟨l1,rfl,rk⟩
   ·exact⟨_,Z,Z,_,Z,aQ ⟨_,Z,k⟩⟩
   refine⟨_,Z,Z,_,Z,aU ?_⟩;refine⟨_,Z,_,Z,.inr ⟨_,_,RD.mono kD _ rt,RD.mono zB _ rk,i4 ok,i4 ok,_,Z,?_⟩⟩;rw[eqv_refl _ ok.lay];exact aQ ⟨_,Z,k⟩
theorem div_pos{a b:Int}(ha:0<a)(hb:0<b):0<Rat.divInt a b:=by
 refine Std.lt_of_le_of_ne ((vk hb).mpr aH) λe=>?_;have h2:0<=Rat.divInt (-a) b:=by rw[<-Rat.neg_divInt,<-e];decide
 have:=(vk hb).mp h2;omega
theorem aM.rd{p:Addr}{H H':Hp}{v:V}{d:ah}(b:aM p H H')(r:RD K (del H p) v d):RD K (del H' p) v d:=RD.mono b.sd _ r
def Mn:List Int:=[10^3,10^6,10^9,10^12,10^16,10^20,10^30,10^39]
theorem Wg{z:Int}(h:0<z):bC K H v (Rat.divInt 1 z)↔∃p,v= .ref p/\aV K H p [.int 1,.int z]:=by
 have e:(⟨1,z.toNat,aH,by simp⟩:Rat)=Rat.divInt 1 z:=by rw[<-vj ⟨1,z.toNat,aH,by simp⟩];show Rat.divInt 1 (z.toNat:Int)=_;rw[IS aH]
 rw[<-e];show(∃p,v= .ref p/\aV K H p [.int 1,.int (z.toNat:Int)])↔_;rw[IS aH]
inductive a61(K:a8)(vs:List V)(H:Hp)(Q:VK):Prop |mk (p:_)(sv:_)(q:_)(N:_)(h0:vs=[.ref p,sv])(h1:fA H p)(h2:bC K H sv q)(h3:0<q)(h4:Bd N q)(h5:200<=N)(h6:N<=1980)(h7:∀v q' H',bC K H' v q'->0<q'->Bd (N+20) q'->aM p H H'->Q v H')
def Cm(K:a8):Sp:=λvs H Q _=>a61 K vs H Q
theorem KJ:bF ["_law_bag_here","_law_square","_law_kind","_law_p","_law_q"] ["_law_bag_here","_law_square"] (bu Dk):=bP aP
theorem WR(F:FA K mg "_law_other_square" Dk)(B:bK mg)(cu:aB P w K mg az "_law_take" 1 jN)(jZ:aB P w K mg az "_law_frac" 1 (p7 K)):aB P w K mg az "_law_other_square" 2 (Cm K):=by
 refine F.has KJ (λvs H Q E h=>?_) (λ_ _ _ _ _ _=>e9 λ_ _=>rfl) (λf aO A outer s H vs Q E hr h=>?_)
 ·obtain⟨p,sv,q,N,rfl,_⟩:=h
  rfl
 ·obtain⟨p,sv,q,N,rfl,bg,Rq,q0,bq,n1,n2,k⟩:=h
  have nd:=KJ.nd;refine⟨_,(aC (pS 2 nd (pf cu hr (ak (pv 0) (ak aA aw)))) (aC (eB (pv 1) (cV K Z (n:=2) Z (bN (aZ 3 nd) (bN (aZ 4 nd) cU)))) (aC (bA (bJ (cC K Z hr.units) (pv 2) aA (bo _)) (aI (aR (cg (ak aA (ak (px K (cK (ak (aG iZ aA aA) (ak (aG iZ aA aA) (ak (aG iZ aA aA) (ak (aG iZ aA aA) (ak (aG iZ aA aA) (ak (aG iZ aA aA) (ak (aG iZ aA aA) (ak (aG iZ aA aA) aw))))))))) (pf cu hr (ak (pv 0) (ak aA aw)))) aw))))) bE) (aC (bA (bJ (cC K Z hr.units) (pv 2) aA (bo _)) (aI (aR (pf jZ hr (ak (aG bZ (pv 3) aA) (ak (pv 4) aw))))) bE) (aC (bA (bJ (cC K Z hr.units) (pv 2) aA (bo _)) (aI (aR (pf jZ hr (ak (dv (x:="max") (Ho Z) Z (B.at "max") yE (ak aA (ak (aG fT (pv 3) aA) aw))) (ak (pv 4) aw))))) bE) (aC (bA (bJ (cC K Z hr.units) (pv 2) aA (bo _)) (aI (aR (pf jZ hr (ak (aG bO (pv 3) (aG bZ aA (pf cu hr (ak (pv 0) (ak aA aw))))) (ak (aG bO (pv 4) (aG bZ aA (pf cu hr (ak (pv 0) (ak aA aw))))) aw))))) bE) (aC (bA (bJ (cC K Z hr.units) (pv 2) aA (bo _)) (aI (aR (pf jZ hr (ak (aG bZ (pv 3) (aG bO (pv 4) (aG bZ aA (pf cu hr (ak (pv 0) (ak aA aw)))))) (ak (pv 4) aw))))) bE) (aC (bA (bJ (cC K Z hr.units) (pv 2) aA (bo _)) (aI (aR (pf jZ hr (ak (dv (x:="max") (Ho Z) Z (B.at "max") yE (ak aA (ak (aG fT (aG bZ (aG bO (pv 3) aA) aA) (aG bO aA (pf cu hr (ak (pv 0) (ak aA aw))))) aw))) (ak (aG bO (pv 4) aA) aw))))) bE) (aI (aR (cg (ak (aG bZ aA (pf cu hr (ak (pv 0) (ak aA aw)))) (ak aA aw))))))))))))),?_⟩;refine⟨_,Z,p,7,Z,bg,au,au,λkd H1 k0 k1 b1=>?_⟩;obtain⟨a,rfl,hq⟩:=id Rq;have ZD:aV K H1 a [.int q.num,.int q.den]:=hq.t (aM.t bg b1);refine⟨_,Z,a,_,Z,ZD,Z,_,_,Z,_,_,Z,Z,?_⟩;have qn:=nX q0;have qd:=q.den_pos;have hN:=bq.num;have hD:=bq.den;have p20:(2:Nat)^(N+20)=2^N*1048576:=by rw[BF]
  have p0:0<(2:Nat)^N:=Nat.pow_pos au;have wd:∀z:Int,z.natAbs<2^(N+20)->Wd z:=λz hz=>cY hz (gD au aH);have p30:(1000:Nat)<=2^N:=eL (by decide:1000<=2^200) (gD au n1);have fr:∀(x y:Int)(H2:Hp),0<x->0<y->x.natAbs<2^(N+20)->y.natAbs<2^(N+20)->aM p H H2->p7 K [.int x,.int y] H2 Q (λ_ _ _=>False):=by intro x y H2 hx hy bx Qa b2;exact⟨x,y,Z,hy,wd y Qa,λv H3 R3 s3=>k v _ H3 R3 (div_pos hx hy) (nV aH bx Qa) (b2.trans (.bD b2.aE s3))⟩
  have mul:∀{x:Int}{c:Int},0<=x->x.natAbs<2^N->0<=c->c<1000000->(x*c).natAbs<2^N*1000000:=λ{x c} h0 h1 c0 c1=>by rw[gs];exact cY (Nat.mul_lt_mul_of_lt_of_le h1 (by omega:c.natAbs<=999999) au) (Nat.mul_le_mul_left _ au)
  refine⟨_,Z,.inl ⟨_,_,Z,Z,_,Z,?_⟩⟩;by_cases h6:kd=6
  ·rw[bT h6]
   refine aU ?_;have cp:∀j:Int,0<=j->j<=1000000->Ri 10 j:=λj h1 h2=>⟨h1,h2,au⟩;refine⟨_,_,Z,Z,cp _ au au,_,_,Z,Z,cp _ au au,_,_,Z,Z,cp _ au au,_,_,Z,Z,cp _ au au,_,_,Z,Z,cp _ au au,_,_,Z,Z,cp _ au au,_,_,Z,Z,cp _ au au,_,_,Z,Z,cp _ au au,?_⟩;refine⟨bc Z,λl H2 n2=>?_⟩;have b2:aM p H H2:=b1.trans (.bD b1.aE n2.same);have lp:l≠p:=λe=>b1.aE.ne (e▸n2.no);refine⟨_,Z,p,8,Z,b2.aE,au,au,λi H3 i0 i1 b3=>?_⟩;obtain⟨z,mz,ez⟩:=NO Mn (i:=i) i0 (by show i<8;exact i1);have hz:0<z/\z.natAbs<2^200:=by simp only[Mn,cR,fq,iO]at mz;rcases mz with rfl|rfl|rfl|rfl|rfl|rfl|rfl|rfl<;>exact⟨aP,aP⟩
   refine .inl ⟨l,_,i,.int z,Z,Z,aK.of (b3.same _ _ lp n2.at'),ez,?_⟩;refine⟨bc Z,λt H4 n4=>?_⟩;refine k _ (Rat.divInt 1 z) H4 ((Wg hz.1).mpr ⟨t,Z,aV.of n4.at'⟩) (div_pos au hz.1) ?_ (b2.trans (b3.trans (.bD b3.aE n4.same)));exact(nV (n:=200) aH au hz.2).mono aH
  rw[cy h6];refine aQ ⟨_,Z,.inl ⟨_,_,Z,Z,_,Z,?_⟩⟩;by_cases h0:kd=0
  ·rw[bT h0]
   exact aU ⟨_,Z,_,_,Z,Z,_,Z,fr _ _ H1 aH aH aH aH b1⟩
  rw[cy h0];refine aQ ⟨_,Z,.inl ⟨_,_,Z,Z,_,Z,?_⟩⟩;by_cases h1:kd=1
  ·rw[bT h1]
   exact aU ⟨_,Z,_,_,Z,Z,_,_,Z,_,Z,fr _ _ H1 (by split<;>omega) aH (by split<;>omega) aH b1⟩
  rw[cy h1];refine aQ ⟨_,Z,.inl ⟨_,_,Z,Z,_,Z,?_⟩⟩;by_cases h2:kd=2
  ·rw[bT h2]
   refine aU ⟨_,Z,_,Z,p,20,Z,b1.aE,au,au,λx H2 x0 x1 b2=>?_⟩;refine⟨_,_,Z,Z,_,_,Z,Z,.of_right (cm aH aH),?_⟩;refine⟨_,Z,_,Z,p,20,Z,b2.aE,au,au,λy H3 y0 y1 b3=>?_⟩;refine⟨_,_,Z,Z,_,_,Z,Z,.of_right (cm aH aH),?_⟩;have m1:=mul (x:=q.num) (c:=1+x) aH hN aH aH;have m2:=mul (x:=(q.den:Int)) (c:=1+y) aH aH aH aH;exact fr _ _ H3 (fL qn aH) (fL aH aH) aH aH (b1.trans (b2.trans b3))
  rw[cy h2];refine aQ ⟨_,Z,.inl ⟨_,_,Z,Z,_,Z,?_⟩⟩;by_cases h3:kd=3
  ·rw[bT h3]
   refine aU ⟨_,Z,_,Z,_,Z,p,50,Z,b1.aE,au,au,λx H2 x0 x1 b2=>?_⟩;refine⟨_,_,Z,Z,_,_,Z,Z,.of_right (cm aH aH),_,_,Z,Z,_,Z,?_⟩;have m2:=mul (x:=(q.den:Int)) (c:=1+x) aH aH aH aH;have m3:0<(q.den:Int)*(1+x):=fL aH aH;exact fr _ _ H2 aH aH aH aH (b1.trans b2)
  rw[cy h3];refine aQ ⟨_,Z,.inl ⟨_,_,Z,Z,_,Z,?_⟩⟩;by_cases h4:kd=4
  ·rw[bT h4]
   refine aU ⟨_,Z,_,_,Z,Z,.of_right (cm au au),_,_,Z,Z,_,Z,p,2,Z,b1.aE,au,au,λx H2 x0 x1 b2=>?_⟩;refine⟨_,_,Z,Z,.of_left (cm au au),_,_,Z,Z,_,_,Z,_,Z,_,_,Z,Z,.of_right (cm au au),?_⟩;have m1:=mul (x:=q.num) (c:=1000) aH hN aH aH;have m2:=mul (x:=(q.den:Int)) (c:=1000) aH aH aH aH;exact fr _ _ H2 (by split<;>omega) aH (by split<;>omega) aH (b1.trans b2)
  rw[cy h4];refine aQ ⟨_,Z,p,1600,Z,b1.aE,au,au,λx H2 x0 x1 b2=>?_⟩;refine⟨_,_,Z,Z,bc Z,λt H3 n3=>?_⟩;have gJ:=b1.trans b2;refine k _ ((1+x:Int):Rat) H3 ⟨t,Z,aV.of n3.at'⟩ (Rat.intCast_pos.mpr aH) ⟨?_,?_⟩ (gJ.trans (.bD gJ.aE n3.same))
  ·show(1+x).natAbs<_
   omega
  ·show 1<_
   omega
def QQ(ds:List ah):Prop:=∃a zs t q,ds=[a,dr zs,.int t,bM q]/\zs≠[]/\0<q
inductive a5Y(K:a8)(vs:List V)(H:Hp)(Q:VK):Prop |mk (ev:_)(ds:_)(h0:vs=[ev])(h1:RD K H ev (.tuple ds))(h2:bW 8 (.tuple ds))(h3:2<=ds.length)(h4:ds.length<=1000)(h5:(∀xs,ds[1]? =some (.tuple xs)->xs.length<=1000))(h6:(∀p q,ds[3]? =some (.tuple [.int p,.int q])->p.natAbs<2^1900/\q.natAbs<2^1900))(h7:∀H',aD H H'->Q (.bl (pB (QQ ds))) H')
def Ck(K:a8):Sp:=λvs H Q _=>a5Y K vs H Q
theorem NN:∀{xs:List ah},(∀x∈xs,eF (da x)=true)->∃zs:List Int,xs=zs.map PyData.int
 |[],_=>⟨[],Z⟩ |x::xs,h=>by
  obtain⟨zs,e⟩:=NN (xs:=xs) λy hy=>h y (.tail _ hy);rcases jM x with⟨i,rfl,_⟩|⟨e',_⟩
  ·exact⟨i::zs,by rw[e];rfl⟩
  ·have:=h x (.head _);rw[e']at this;cases this
theorem KG:bF ["_law_entry"] ["_law_entry"] (bu Dh):=bP aP
theorem WK(F:FA K mg "_law_plain_step" Dh)(B:bK mg)(lL:aB P w K mg az "_law_number" 1 (iS K))(Gk:aB P w K mg az "_law_is_fraction" 2 (zt K)):aB P w K mg az "_law_plain_step" 3 (Ck K):=by
 refine F.has KG (λvs H Q E h=>?_) (λ_ _ _ _ _ _=>gz λ_=>rfl) (λf aO A outer s H vs Q E hr h=>?_)
 ·obtain⟨ev,ds,rfl,_⟩:=h
  rfl
 ·obtain⟨ev,ds,rfl,re,ok,l2,l1,FY,hf,k⟩:=h
  have nd:=KG.nd;refine⟨_,(aC (bA (PW.pt (fw (bJ (iB K Z hr.units) (dF K B (ak (pv 0) aw)) aA (bo _)) (fw (cS (ck (fj K B (ak (px K (pv 0) aA) (ak (eZ (x:="tuple") (v:=.ty "tuple") Z (B.at "tuple") gC rfl) aw))))) (iy (bJ (cC K rfl hr.units) (dF K B (ak (px K (pv 0) aA) aw)) aA (bo _)))))) (aI (aR gE)) bE) (aC (bA (PW.pt (fw (cS (ck (dv (x:="all") (uZ K Z Z) Z (B.at "all") yF (ak (gj (N:=["_law_step"]) (js:=[none]) rfl rfl rfl (kG K rfl (px K (pv 0) aA)) (λ_ _ _ _ _=>(aZ 0 (nY _))) (λ_ _ _ _ _=>fy) (λ_ _ _ _ _=>(pf lL hr (ak (pv 0) aw)))) aw)))) (iy (cS (ck (pf lL hr (ak (px K (pv 0) aA) aw))))))) (aI (aR gE)) bE) (aI (aR (iY (pf Gk hr (ak (px K (pv 0) aA) aw)) (jw (fF kH (px K (px K (pv 0) aA) aA) aA (bo _)))))))),?_⟩;obtain⟨ea,xs,rfl,hx,hd⟩:=id re.bX;have lx:=hd.length;refine⟨_,Z,ea,_,Z,.inr hx,.inl ⟨_,_,Z,Z,_,Z,?_⟩⟩;by_cases h4:ds.length=4
  rotate_left
  ·have e:(!decide ((xs.length:Int)=4))=true:=by rw[lx];simp;omega
   rw[e];rw[dI (λ⟨a,zs,t,q,h,_⟩=>h4 (by rw[h];rfl))]at k;exact aU (k H (aD.refl _))
  have e:(!decide ((xs.length:Int)=4))=false:=by rw[lx];simp;omega
  rw[e];refine aQ ?_;obtain⟨a,b,c,d,rfl⟩:∃a b c d,ds=[a,b,c,d]:=by match ds,h4 with |[a,b,c,d],_=>exact⟨a,b,c,d,Z⟩
  clear hx hd lx e;obtain⟨p,u1,u2,u3,u4,e,hx,r1,r2,r3,r4⟩:=w9 re;injection e with e;subst e;refine⟨_,Z,.inr ⟨ea,_,1,u2,Z,Z,hx,Z,.inl ⟨_,_,"tuple",_,Z,r2.ty,au,Z,_,Z,?_⟩⟩⟩;rcases tO b with⟨bs,rfl⟩|⟨ht,hn⟩
  rotate_left
  ·rw[ht]
   rw[dI (λ⟨a,zs,t,q,h,_⟩=>hn _ (by injection h with _ h;injection h))]at k;exact aU (k H (aD.refl _))
  rw[show eX (da (.tuple bs)) "tuple"=true from jk];refine aQ ?_;obtain⟨ba,bx,rfl,uD,pV⟩:=id r2.bX;have lb:=pV.length;refine⟨_,Z,.inr ⟨ea,_,1,.ref ba,Z,Z,hx,Z,ba,_,Z,.inr uD,.inl ⟨_,_,Z,Z,_,Z,?_⟩⟩⟩;by_cases h0:bs.length=0
  ·rw[bT (show((bx.length:Int)=0) by omega)]
   rw[dI (λ⟨a,zs,t,q,h,hz,_⟩=>hz (by injection h with _ h;injection h with h _;injection h with h;rw[h,bB]at h0;exact yL.mp h0))]at k;exact aU (k H (aD.refl _))
  rw[cy (show¬((bx.length:Int)=0) by omega)];refine aQ ?_;have lb2:=FY bs rfl;refine⟨_,Z,.inr ⟨ea,_,1,.ref ba,Z,Z,hx,Z,ba,Z,⟨_,uD⟩,λD H2 n2=>?_⟩⟩;refine xV (xs:=bx) (bs:=bs.map λx=>eF (da x)) [] uD n2 (by rw[bB];omega) aH ?_ ?_
  ·intro i x y H3 Q' ex ey s3 hq
   obtain⟨d2,e2,rx⟩:=pV.get' i ex;rw[bU,e2]at ey;cases ey;exact⟨_,Z,x,_,Z,(RD.mono s3 _ rx).ty,hq _ (aD.refl _)⟩
  intro H3 s3 d3;refine⟨D,_,Z,aK.of d3,_,Z,?_⟩;cases uP:(bs.map λx=>eF (da x)).all id with |false=>rw[dI (λ⟨a,zs,t,q,h,hz,_⟩=>by injection h with _ h;injection h with h _;injection h with h;rw[h]at uP;rw[<-Bool.not_eq_true,fD]at uP;refine uP λy hy=>?_;obtain⟨x,hx,rfl⟩:=eV.mp hy;obtain⟨z,_,rfl⟩:=eV.mp hx;exact(by decide:eF "int"=true))]at k;exact aU (k H3 s3) |true=>
   refine aQ ?_;obtain⟨zs,rfl⟩:=NN λx hx=>fD.mp uP _ (eV.mpr ⟨x,hx,Z⟩);refine⟨_,Z,.inr ⟨ea,_,2,u3,Z,Z,hx.go s3,Z,u3,_,Z,(RD.mono s3 _ r3).ty,_,Z,?_⟩⟩;rcases jM c with⟨t,rfl,e1⟩|⟨e1,hn⟩
   rotate_left
   ·rw[e1]
    rw[dI (λ⟨a,zs,t,q,h,_⟩=>hn _ (by injection h with _ h;injection h with _ h;injection h with h _))]at k;exact aU (k H3 s3)
   rw[e1];refine aQ ?_;refine⟨_,Z,.inr ⟨ea,_,3,u4,Z,Z,hx.go s3,Z,u4,d,Z,RD.mono s3 _ r4,pA ok (by simp),λp q e=>hf p q (by rw[e];rfl),λH4 s4=>?_⟩⟩;have dC:=s3.trans s4;cases fr:iD d with |false=>rw[dI (λ⟨a,zs,t,q,h,_⟩=>by injection h with _ h;injection h with _ h;injection h with _ h;injection h with h _;rw[h,zG]at fr;cases fr)]at k;exact⟨_,Z,aQ (k H4 dC)⟩ |true=>
    obtain⟨q,rfl⟩:=AI fr;refine⟨_,Z,aU ?_⟩;obtain⟨ca,e4,hc⟩:=(fQ (RD.mono dC _ r4):bC K H4 u4 q);subst e4;refine⟨_,Z,.inr ⟨ea,_,3,.ref ca,Z,Z,hx.go dC,Z,.inr ⟨ca,_,0,_,Z,Z,hc,Z,_,_,Z,Z,?_⟩⟩⟩;have k:=k H4 dC;by_cases q0:0<q
    ·rw[jx ⟨a,zs,t,q,Z,λz=>h0 (by rw[z];rfl),q0⟩]at k
     rw[bT (show q.num>0 from nX q0)];exact k
    ·rw[dI (λ⟨a,zs,t,q',h,_,h'⟩=>q0 (by injection h with _ h;injection h with _ h;injection h with _ h;injection h with h _;rw[wc h];exact h'))]at k
     rw[cy (show¬q.num>0 from λh=>q0 ((Rt.MM q).mp h))];exact k
structure Ev(n:Nat)(x:ah):Prop where
 sh:kA x=true
 it:∀z,x= .int z->z.natAbs<2^(1890+n)
 tl:∀xs,x= .tuple xs->xs.length<=900
def Ef(n:Nat)(x:ah):Prop:=∀p q,x= .tuple [.int p,.int q]->p.natAbs<2^(1800+20*n)/\q.natAbs<2^(1800+20*n)
structure Sd(n:Nat)(ds:List ah):Prop where
 ev:∀x∈ds,Ev n x
 ef:∀x,ds[3]? =some x->Ef n x
 ln:ds.length<=10+n
def Se(n:Nat)(e:ah):Prop:=∀ds,e= .tuple ds->Sd n ds
theorem Ev.up{n:Nat}{x:ah}(h:Ev n x):Ev (n+1) x:=⟨h.sh,λz e=>cY (h.it z e) (gD au aH),h.tl⟩
theorem Ef.up{n:Nat}{x:ah}(h:Ef n x):Ef (n+1) x:=λp q e=>by have l:(2:Nat)^(1800+20*n)<=2^(1800+20*(n+1)):=gD au aH;exact⟨cY (h p q e).1 l,cY (h p q e).2 l⟩
theorem Ev.small{n:Nat}{x:ah}(h1:kA x=true)(h2:∀z,x= .int z->z.natAbs<1000000)(h3:∀xs,x= .tuple xs->xs.length<=900):Ev n x:=⟨h1,λz e=>cY (h2 z e) (eL (by decide:1000000<=2^1890) (gD au aH)),h3⟩
theorem Ev.str{n:Nat}{s:Str}(h:kA (.str s)=true):Ev n (.str s):=⟨h,(λz e=>nomatch e),(λz e=>nomatch e)⟩
theorem Ev.bR{n:Nat}:Ev n .none:=⟨Z,(λz e=>nomatch e),(λz e=>nomatch e)⟩
theorem Ev.bl{n:Nat}{b:Bool}:Ev n (.bool b):=⟨Z,(λz e=>nomatch e),(λz e=>nomatch e)⟩
theorem Ev.lst{n:Nat}{l:List ah}:Ev n (.list l):=⟨Z,(λz e=>nomatch e),(λz e=>nomatch e)⟩
theorem Ev.tup{n:Nat}{l:List ah}(h:l.length<=900):Ev n (.tuple l):=⟨Z,(λz e=>nomatch e),(λz e=>by injection e with e;subst e;exact h)⟩
theorem Ev.int{n:Nat}{z:Int}(h:z.natAbs<2^(1890+n)):Ev n (.int z):=⟨Z,(λz e=>by injection e with e;subst e;exact h),(λz e=>nomatch e)⟩
theorem Ev.wV{n:Nat}{z:Int}(h:z.natAbs<1000000):Ev n (.int z):=.small Z (λz e=>by injection e with e;subst e;exact h) (λz e=>nomatch e)
theorem Ef.no{n:Nat}{x:ah}(h:∀p q,x≠ .tuple [.int p,.int q]):Ef n x:=λp q e=>(h p q e).elim
theorem Ef.rat{n:Nat}{q:Rat}(h:Bd (1800+20*n) q):Ef n (bM q):=λp' q' e=>by unfold bM at e;injection e with e;injection e with e1 e;injection e with e2 _;injection e1 with e1;injection e2 with e2;subst e1 e2;exact⟨h.num,by rw[yP];exact h.den⟩
theorem Ef.bd{n:Nat}{q:Rat}(h:Ef n (bM q)):Bd (1800+20*n) q:=by obtain⟨h1,h2⟩:=h q.num q.den rfl;exact⟨h1,by rw[yP]at h2;exact h2⟩
theorem Se.no{n:Nat}{e:ah}(h:∀ds,e≠ .tuple ds):Se n e:=λds z=>(h ds z).elim
theorem Se.of{n:Nat}{ds:List ah}(h:Sd n ds):Se n (.tuple ds):=λoE e=>by injection e with e;subst e;exact h
theorem Sd.snoc{n:Nat}{ds:List ah}{x:ah}(h:Sd n ds)(hx:Ev (n+1) x)(hf:Ef (n+1) x):Sd (n+1) (ds++[x]):=by
 refine⟨λy hy=>?_,λy hy=>?_,?_⟩
 ·rcases gL.mp hy with hy|hy
  ·exact(h.ev y hy).up
  ·rw[kS.mp hy];exact hx
 ·rcases p8 hy with e|⟨_,rfl⟩
  ·exact(h.ef y e).up
  ·exact hf
 ·have:=h.ln
  rw[cB,oP];omega
theorem Se.four{n:Nat}{a b c d:ah}(h1:Ev n a)(h2:Ev n b)(h3:Ev n c)(h4:Ev n d)(h5:Ef n d):Se n (.tuple [a,b,c,d]):=.of ⟨λx hx=>by simp only[cR,fq,iO]at hx;rcases hx with rfl|rfl|rfl|rfl<;>assumption,λx hx=>by cases hx;exact h5,by show 4<=10+n;omega⟩
theorem Se.xH{n:Nat}{ds:List ah}(h:∀x∈ds,Ev n x)(hl:ds.length<=3):Se n (.tuple ds):=.of ⟨h,λx hx=>by have:=(cL.mp hx).1;omega,aH⟩
theorem Se.dt{n:Nat}{e:ah}(h:Se n e)(o:bW (3+n) e)(hn:n<=2):lZ e:=by
 refine⟨o.le aH,?_,?_,?_⟩
 ·cases e with |tuple ds=>show ds.all kA=true;rw[fD];exact λx hx=>((h ds Z).ev x hx).sh |_=>rfl
 ·rintro a b t c rfl
  exact cY (((h _ Z).ev (.int t) (by simp)).it t rfl) (gD au aH)
 ·rintro a b c p q rfl
  have l:(2:Nat)^(1800+20*n)<=2^1900:=gD au aH;obtain⟨h1,h2⟩:=(h _ Z).ef (.tuple [.int p,.int q]) Z p q rfl;exact⟨cY h1 l,cY h2 l⟩
theorem y8{p:Addr}{n:Nat}{H:Hp}:AD K p n H .bR .none:=⟨u9,by exact⟨aP,eK _⟩⟩
theorem mY{p:Addr}{n:Nat}{H:Hp}{s:Str}(h:SeqAt.shaped (.str s)=true):AD K p n H (.str s) (.str s):=⟨cM _,⟨RC h,eK _⟩⟩
theorem pick{p l:Addr}{H0 H1:Hp}{n:Nat}{xs:List V}{Ds:List ah}{i:Int}(d:H0 l=some (.lst xs))(lp:l≠p)(b:aM p H0 H1)(r:gf K p n H0 xs Ds)(i0:0<=i)(i1:i.toNat<Ds.length):∃y D,aK K H1 l xs/\dk xs i=some y/\AD K p n H1 y D/\D∈Ds:=by obtain⟨y,ey,ry⟩:=(r.go b.sd).get i.toNat (bG i1);exact⟨y,_,aK.of (b.same _ _ lp d),cQ i0 ey,ry,tG i1⟩
theorem XJ(i:Int):fo (Str.ofString (toString i)):=λc hc=>by cases i with |ofNat m=>rw[show(Str.ofString (toString (Int.ofNat m))).cps.toList=_ from Tm.a3Q m]at hc;have:=Tm.PM m c hc;omega |negSucc m=>
 rw[show(Str.ofString (toString (Int.negSucc m))).cps.toList=_ from Tm.a3P m]at hc;rcases cR.mp hc with e|hc
 ·omega
 ·have:=Tm.PM (m+1) c hc
  omega
theorem nW{p l:Addr}{H H':Hp}{o:HO}(n:Nw H H' l o)(hp:H p≠none):l≠p:=λe=>hp (by rw[<-e];exact n.no)
theorem a3H{ds:List ah}{i:Int}(h:0<=i):(L2.cutD ds none (some i)).length<=i.toNat:=by
 unfold L2.cutD;rw[ko];have:HT.bI ds.length ds.length (some i)<=i.toNat:=by unfold HT.bI;simp only[];split<;>omega
 omega
theorem a3F{ds:List ah}{i:Int}(h:0<=i)(h2:i<ds.length):(L2.cutD ds (some (i+1)) none).length<=ds.length-(i.toNat+1):=by
 unfold L2.cutD;rw[ko,tF];have:HT.bI ds.length 0 (some (i+1))=i.toNat+1:=by unfold HT.bI;simp only[];split<;>omega
 omega
theorem Jh{ti T:Int}{q:Rat}{M:Nat}(h1:1<=ti)(h2:ti<=100)(qn:0<q.num)(hd:q.den<2^M)(T1:1<=T)(e:dj ti q (T-1)=false):T.natAbs<2^(M+7):=by
 have e:=of_decide_eq_false e;have hd0:=q.den_pos;have key:T-1<ti*(q.den:Int):=by
  refine Int.lt_of_not_ge λAv=>e ?_;have b0:0<=ti*(q.den:Int):=jK aH aH;have s1:ti*(q.den:Int)*(ti*(q.den:Int))<=(T-1)*(T-1):=IU Av Av b0 aH;have s2:ti*ti*(q.den:Int)<=ti*(q.den:Int)*(ti*(q.den:Int)):=by
   have z:ti*(q.den:Int)*(ti*(q.den:Int))=ti*ti*(q.den:Int)*(q.den:Int):=by simp only[IV,Int.mul_left_comm,tI]
   rw[z];have p1:0<=ti*ti*(q.den:Int):=jK (jK aH aH) aH;have:=BM (show(1:Int)<=(q.den:Int) by omega) p1;rw[Int.mul_one]at this;exact this
  have p2:0<=(T-1)*(T-1):=jK aH aH;have s3:=BM (show(1:Int)<=q.num by omega) p2;rw[Int.mul_one]at s3;omega
 have m:ti*(q.den:Int)<=100*(q.den:Int):=RZ h2 aH;rw[BF];omega
theorem a3J{ds:List ah}(h:2<=ds.length):∀x∈cutD ds none (some 1),x∈ds:=λx hx=>RQ (tD hx)
theorem a3I{ds:List ah}(h:2<=ds.length):(cutD ds none (some 1)).length<=3:=by
 unfold L2.cutD;rw[ko];have:HT.bI ds.length ds.length (some 1)<=1:=by unfold HT.bI;simp only[];split<;>omega
 omega
inductive a5P(K:a8)(vs:List V)(H:Hp)(Q:VK):Prop |mk (p:_)(m:_)(ev:_)(rs:_)(r:_)(f:_)(j:_)(ti:_)(e:_)(n:_)(h0:vs=[.ref p,m,ev])(h1:fA H p)(h2:RD K H m (dQ rs r f j ti))(h3:fc rs r f j ti)(h4:AD K p (3+n) H ev e)(h5:Se n e)(h6:n<=1)(h7:∀v e' H',AD K p (4+n) H' v e'->Se (n+1) e'->aM p H H'->Q v H')
def JS(K:a8):Sp:=λvs H Q _=>a5P K vs H Q
theorem Kv:bF ["_law_bag_here","_law_machine_here","_law_entry","_law_kind","_law_some","_law_row","_law_t","_law_square","_law_at","_law_other_here","_law_odd"] ["_law_bag_here","_law_machine_here","_law_entry"] (bu D6):=bP aP
theorem WE(F:FA K mg "_law_spoilt_entry" D6)(B:bK mg)(cu:aB P w K mg az "_law_take" 1 jN)(a1e:aB P w K mg az "_law_plain_step" 3 (Ck K))(Oy:aB P w K mg az "_law_other_square" 2 (Cm K))(Gj:aB P w K mg az "_law_ticks" 1 (zo K)):aB P w K mg az "_law_spoilt_entry" 4 (JS K):=by
 refine F.has Kv (λvs H Q E h=>?_) (λ_ _ _ _ _ _=>iJ λ_ _ _=>rfl) (λfa aO A outer s H vs Q E hr h=>?_)
 ·obtain⟨p,m,ev,rs,r,f,j,ti,e,n,rfl,_⟩:=h
  rfl
 ·obtain⟨p,m,ev,rs,r,f,j,ti,e,n,rfl,bg,rm,aW,ae,se,hn,k⟩:=h
  have nd:=Kv.nd;refine⟨_,(aC (pS 3 nd (pf cu hr (ak (pv 0) (ak aA aw)))) (aC (bA (PW.pt (fw (cS (ck (fj K B (ak (pv 2) (ak (eZ (x:="tuple") (v:=.ty "tuple") Z (B.at "tuple") gC rfl) aw))))) (iy (bJ jy (dF K B (ak (pv 2) aw)) aA (bo _))))) (aI (aR (cK (ak (pv 2) aw)))) bE) (aC (bA (PW.pt (nK (bJ (cC K Z hr.units) (px K (pv 2) aA) cJ (bo _)) (pg (cS (ck (pf a1e hr (ak (pv 2) aw))))))) (aI (aR (aG (qt K Z) (pv 2) (cg (ak eQ aw))))) bE) (aC (bA (bJ (iB K Z hr.units) (px K (pv 2) aA) cJ (bo _)) (aC (pS 4 nd (cK (ak (fh (x:="list") (rH K Z) Z (B.at "list") kR (ak (pv 2) aw)) (ak (aG (qt K rfl) (pv 2) (cg (ak aA aw))) (ak (fS (qT K rfl) (pv 2) gy (fg aA)) (ak (cg (ak cJ (ak aA aw))) (ak (cg (ak cJ (ak gE aw))) (ak (cg (ak cJ (ak cJ aw))) aw)))))))) (aI (aR (px K (aG (lR K Z) (pv 4) (cK (ak (cg (ak cJ (ak cJ aw))) (ak eQ aw)))) (pv 3))))) bE) (aC (eB (fS (qT K Z) (pv 2) (fg aA) gy) (cV K Z (n:=3) Z (bN (aZ 5 nd) (bN (aZ 6 nd) (bN (aZ 7 nd) cU))))) (aC (pS 8 nd (pf cu hr (ak (pv 0) (ak (dF K B (ak (pv 5) aw)) aw)))) (aC (bA (bJ jy (pv 3) aA (bo _)) (aC (pS 9 nd (pf Oy hr (ak (pv 0) (ak (pv 7) aw)))) (aI (aR (cg (ak cJ (ak (pv 5) (ak (pf Gj hr (ak (pv 1) (ak (pv 9) aw))) (ak (pv 9) aw)))))))) bE) (aC (bA (bJ (cC K Z hr.units) (pv 3) aA (bo _)) (aI (aR (cg (ak cJ (ak (pv 5) (ak (pv 6) (ak (pf Oy hr (ak (pv 0) (ak (pv 7) aw))) aw))))))) bE) (aC (bA (bJ (cC K Z hr.units) (pv 3) aA (bo _)) (aI (aR (cg (ak cJ (ak (pv 5) (ak (px K (cK (ak (aG bZ (pv 6) aA) (ak (aG fT (pv 6) aA) (ak aA (ak (iX iQ (pv 6)) (ak gE (ak eQ (ak (fh (x:="str") a4d Z (B.at "str") Iw (ak (pv 6) aw)) (ak (cg (ak (pv 6) aw)) aw))))))))) (pf cu hr (ak (pv 0) (ak aA aw)))) (ak (pv 7) aw))))))) bE) (aC (bA (bJ (cC K Z hr.units) (pv 3) aA (bo _)) (aC (pS 9 nd (px K (cK (ak (aG fT aA (px K (pv 5) (pv 8))) (ak (iX iQ (px K (pv 5) (pv 8))) (ak (aG bZ (px K (pv 5) (pv 8)) aA) (ak gE (ak eQ (ak cJ aw))))))) (pf cu hr (ak (pv 0) (ak aA aw))))) (aI (aR (cg (ak cJ (ak (aG (qt K Z) (aG (qt K Z) (fS (qT K Z) (pv 5) gy (fg (pv 8))) (cg (ak (pv 9) aw))) (fS (qT K Z) (pv 5) (fg (aG bZ (pv 8) aA)) gy)) (ak (pv 6) (ak (pv 7) aw)))))))) bE) (aC (bA (bJ (cC K Z hr.units) (pv 3) aA (bo _)) (aC (pS 10 nd (cK (ak (cg (ak (aG bO aA (px K (pv 7) aA)) (ak (aG bO aA (px K (pv 7) aA)) aw))) (ak (fh (x:="list") (rH K Z) Z (B.at "list") kR (ak (pv 7) aw)) (ak (px K (pv 7) aA) (ak (cg (ak aA (ak aA aw))) (ak (cg (ak (iX iQ aA) (ak aA aw))) (ak (cg (ak aA (ak aA aw))) (ak eQ (ak (aG (qt K rfl) (pv 7) (cg (ak aA aw))) aw)))))))))) (aI (aR (cg (ak cJ (ak (pv 5) (ak (pv 6) (ak (px K (pv 10) (pf cu hr (ak (pv 0) (ak aA aw)))) aw)))))))) bE) (aC (pS 4 nd (cK (ak (fh (x:="list") (rH K Z) Z (B.at "list") kR (ak (pv 2) aw)) (ak (fS (qT K rfl) (pv 2) gy (fg aA)) (ak (aG (qt K rfl) (pv 2) (cg (ak aA aw))) (ak (aG (qt K rfl) (cg (ak cJ aw)) (fS (qT K rfl) (pv 2) (fg aA) gy)) (ak (aG (qt K rfl) (cg (ak cJ (ak (fh (x:="list") (rH K rfl) rfl (B.at "list") kR (ak (pv 5) aw)) aw))) (fS (qT K rfl) (pv 2) (fg aA) gy)) aw))))))) (aI (aR (px K (pv 4) (pf cu hr (ak (pv 0) (ak aA aw)))))))))))))))))),?_⟩;refine⟨_,Z,p,8,Z,bg,au,au,λkd H1 k0 k1 b1=>?_⟩;have a1:AD K p (3+n) H1 ev e:=ae.go b1.sd;have FZ:=b1.aE.ne;have pX:sizeLine=16777216:=by decide
  have G:∀{v:V}{d:ah}{n':Nat}{Ha Hb:Hp},aD Ha Hb->AD K p n' Ha v d->AD K p n' Hb v d:=λs a=>a.go s.sd;refine⟨_,Z,.inl ⟨_,_,"tuple",_,Z,a1.ty,au,Z,_,Z,?_⟩⟩;rcases tO e with⟨ds,rfl⟩|⟨ht,hnt⟩
  rotate_left
  ·rw[ht]
   refine aU ⟨_,Z,bc Z,λl H2 n2=>?_⟩;exact k _ (.list [e]) H2 ((AD.uo (.one a1) n2 FZ).le aH) (.no λds z=>nomatch z) (b1.trans (.bD b1.aE n2.same))
  rw[show eX (da (.tuple ds)) "tuple"=true from jk];refine aQ ?_;have sd:=se ds rfl;have ld:=sd.ln;obtain⟨ea,xs,rfl,hx,jB⟩:=AD.zm (n:=2+n) (by rw[show 2+n+1=3+n by omega];exact a1);have wX:=hx.go kh;have lx:=jB.fE.length;refine⟨_,Z,ea,_,Z,.inr wX,_,_,Z,Z,_,Z,?_⟩;by_cases h2:ds.length<2
  ·rw[bT (show((xs.length:Int)<2) by omega)]
   refine aU ⟨_,Z,bc Z,λl H2 n2=>?_⟩;exact k _ (.list [.tuple ds]) H2 ((AD.uo (.one a1) n2 FZ).le aH) (.no λds z=>nomatch z) (b1.trans (.bD b1.aE n2.same))
  rw[cy (show¬((xs.length:Int)<2) by omega)];refine aQ ?_;obtain⟨d0,e0⟩:∃d0,ds[0]? =some d0:=⟨_,bG aH⟩;obtain⟨u0,GK,a0⟩:=jB.get 0 e0;have CH:SeqAt.shaped d0=true:=a0.ok.shaped aH;refine⟨_,Z,.inr ⟨ea,_,0,u0,Z,Z,wX,cQ (iP 0) GK,.inr ⟨d0,_,a0.nJ,cM _,CH,aP,_,Z,?_⟩⟩⟩;rw[kc];have XC:bW 8 (.tuple ds):=a1.ok.le aH;cases GL:f6 "step" d0 with
  |true=>
   refine aU ?_;refine⟨_,Z,.ref ea,ds,Z,a1.nJ,XC,aH,aH,λzs ez=>eL ((sd.ev _ (fC ez)).tl zs Z) au,λx y ey=>?_,λH2 s2=>?_⟩
   ·have l:(2:Nat)^(1800+20*n)<=2^1900:=gD au aH
    obtain⟨g1,g2⟩:=sd.ef _ ey x y rfl;exact⟨cY g1 l,cY g2 l⟩
   have b2:aM p H H2:=b1.trans (.bD b1.aE s2);have a2:=a1.go (s2.sd (p:=p));rcases wk (QQ ds)with⟨pl,ep⟩|⟨npl,ep⟩
   rotate_left
   ·rw[ep]
    refine⟨_,Z,aU ?_⟩;refine⟨_,Z,bc Z,λt H3 n3=>?_⟩;refine⟨p,2+n,ds,[.none],(aM.bD b2.aE n3.same).aE.ne,(by rw[show 2+n+1=3+n by omega];exact a2.go n3.same.sd),AD.gF (.one y8) n3 b2.aE.ne,(by rw[oP];omega),λv H4 s4 a4=>?_⟩;exact k v _ H4 (a4.le aH) (.of (sd.snoc .bR (.no λ_ _ z=>nomatch z))) (b2.trans (.bD b2.aE (n3.same.trans s4)))
   rw[ep];refine⟨_,Z,aQ ?_⟩;obtain⟨d0',zs,t,q,rfl,hz,q0⟩:=pl;cases e0;cases FO GL;have tb:t.natAbs<2^(1890+n):=(sd.ev (.int t) (by simp)).it t rfl;have lz:zs.length<=900:=by have:=(sd.ev (dr zs) (by simp)).tl _ rfl;rw[bB]at this;exact this
   have Bq:Bd (1800+20*n) q:=Ef.bd (sd.ef (bM q) Z);have wW:0<zs.length:=yK.mpr hz;have HG:AD K p (2+n+1) H2 (.ref ea) (.tuple [.str "step",dr zs,.int t,bM q]):=by rw[show 2+n+1=3+n by omega];exact a2
   have uA:=wX.go s2;refine⟨_,Z,.inr ⟨ea,_,0,u0,Z,Z,uA,cQ (iP 0) GK,.inr ⟨_,_,RD.mono s2 _ a0.nJ,cM _,CH,aP,_,Z,?_⟩⟩⟩;rw[kc,GL];refine aQ ?_;refine⟨_,Z,_,Z,p,2+n,_,b2.aE.ne,HG,λv3 H3 s3 a3=>?_⟩;have a3:AD K p (2+n+1) H3 v3 (.tuple [dr zs,.int t,bM q]):=a3;have b3:aM p H2 H3:=.bD b2.aE s3;obtain⟨w0,ws,rfl,hw,rK⟩:=a3.rd.bX;obtain⟨w1,ys,rfl,r1,rK⟩:=rK.cons_inv;obtain⟨w2,ys,rfl,r2,rK⟩:=rK.cons_inv;obtain⟨w3,ys,rfl,r3,rK⟩:=rK.cons_inv;cases rK.nil_inv;cases r2.int_inv;obtain⟨ra,rx,rfl,Aj,NY⟩:=id r1.bX;rw[NY.gT]at Aj;have Ar:AD K p (1+n+1) H3 (.ref ra) (dr zs):=⟨r1,(vX zs).le aH⟩;have Aq:AD K p (1+n+1) H3 w3 (bM q):=⟨r3,(uc q).le aH⟩;have Rq:bC K H3 w3 q:=fQ (RD.mono kh _ r3);refine⟨w0,_,Z,hw.go kh,Z,_,_,Z,_,_,Z,_,_,Z,Z,?_⟩;refine⟨_,Z,_,Z,ra,_,Z,.inr (Aj.go kh),p,_,Z,b3.aE,(by rw[bB];omega),(by rw[bB];omega),λix H4 i0 i1 b4=>?_⟩;rw[bB]at i1;have mW:=b2.trans (b3.trans b4);have a4:=HG.go (b3.trans b4).sd;have yq:=Ar.go b4.sd;have Ib:=Aq.go b4.sd;have HR:bC K H4 w3 q:=bC.tt Rq (aM.t b3.aE b4);have UP:RD K H4 m (dQ rs r f j ti):=RD.t (aM.t bg mW) _ (wL _ _ _ _ _) rm;have Ai:aV K H4 ra (zs.map V.int):=(Aj.go b4.sd).go kh;have N1:200<=1800+20*n:=by omega
   have N2:1800+20*n<=1980:=by omega
   have GY:1800+20*n+20=1800+20*(n+1):=by omega
   have Me:∀{v:V}{q':Rat}{Ha:Hp},fA Ha p->bC K Ha v q'->AD K p (1+n+1) Ha v (bM q'):=λ{v q' Ha} bg R=>⟨RD.t (λc o n e=>jE.mpr ⟨bg.Fd e n,e⟩) _ (kF _) R.rd,(uc q').le aH⟩;have four:∀{x2 x3 x4:V}{d2 d3 d4:ah}{Ha Hb:Hp}{tt:Addr},aM p H Ha->Nw Ha Hb tt (.tup [.str "step",x2,x3,x4])->AD K p (1+n+1) Ha x2 d2->AD K p (1+n+1) Ha x3 d3->AD K p (1+n+1) Ha x4 d4->Ev (n+1) d2->Ev (n+1) d3->Ev (n+1) d4->Ef (n+1) d4->Q (.ref tt) Hb:=λ{x2 x3 x4 d2 d3 d4 Ha Hb tt} ba nw A2 A3 A4 e2 e3 e4 f4=>k _ (.tuple [.str "step",d2,d3,d4]) Hb ((AD.gF (.cons (mY aP) (.cons A2 (.cons A3 (.one A4)))) nw ba.aE.ne).le aH) (.four (.str aP) e2 e3 e4 f4) (ba.trans (.bD ba.aE nw.same));have Er:Ev (n+1) (dr zs):=.tup (by rw[bB];exact lz);have Eq:∀{q':Rat},Ev (n+1) (bM q'):=.tup (by show 2<=900;decide);have Et:Ev (n+1) (.int t):=(Ev.int tb).up;have Fq:Ef (n+1) (bM q):=(Ef.rat Bq).up;have EL:(2:Nat)^(1890+n+1)=2^(1890+n)*2:=Iz ..;have pw0:0<(2:Nat)^(1890+n):=Nat.pow_pos au;refine⟨_,Z,_,_,Z,Z,_,Z,?_⟩;by_cases h3:kd<3
   ·rw[bT h3]
    refine aU ?_;refine⟨_,Z,_,Z,p,w3,q,1800+20*n,Z,b4.aE,HR,q0,Bq,N1,N2,λv q' H5 R5 EK sN b5=>?_⟩;rw[GY]at sN;have b05:=mW.trans b5;have sM:Bd 2000 q':=sN.mono aH;refine⟨_,Z,_,Z,_,Z,m,v,rs,r,f,j,ti,q',Z,RD.t (aM.t b4.aE b5) _ (wL _ _ _ _ _) UP,R5,sM,aW.t1.1,aW.t1.2,nX EK,λT T1 T2 T3 T4 H6 s6=>?_⟩;refine⟨_,Z,bc Z,λtt H7 n7=>?_⟩;have b6:=aM.bD b5.aE s6;have b06:=b05.trans b6;exact four b06 n7 (yq.go (b5.trans b6).sd) (.int T) ((Me b5.aE R5).go b6.sd) Er (.int (cY (Jh aW.t1.1 aW.t1.2 (nX EK) sN.den T1 T4) (gD au aH))) Eq (.rat sN)
   rw[cy h3];refine aQ ⟨_,Z,.inl ⟨_,_,Z,Z,_,Z,?_⟩⟩;by_cases h3:kd=3
   ·rw[bT h3]
    refine aU ?_;refine⟨_,Z,_,Z,_,Z,_,Z,p,w3,q,1800+20*n,Z,b4.aE,HR,q0,Bq,N1,N2,λv q' H5 R5 EK sN b5=>?_⟩;rw[GY]at sN;refine⟨bc Z,λtt H7 n7=>?_⟩;exact four (mW.trans b5) n7 (yq.go b5.sd) (.int t) (Me b5.aE R5) Er Et Eq (.rat sN)
   rw[cy h3];refine aQ ⟨_,Z,.inl ⟨_,_,Z,Z,_,Z,?_⟩⟩;by_cases h4:kd=4
   ·rw[bT h4]
    refine aU ?_;refine⟨_,Z,_,Z,_,_,Z,Z,_,Z,_,_,Z,Z,?_⟩;refine⟨_,Z,_,Z,?_⟩;refine⟨_,Z,t,Z,?_,?_⟩
    ·by_cases h0:t.natAbs=0
     ·rw[h0];decide
     ·exact(Nat.log2_lt h0).mpr (cY tb (gD au aH))
    refine⟨_,Z,bc Z,λt8 H5 n5=>?_⟩;have b5:=aM.bD b4.aE n5.same;refine⟨bc Z,λl9 H6 n6=>?_⟩;have b6:=aM.bD b5.aE n6.same;refine⟨_,Z,p,8,Z,b6.aE,au,au,λi H7 g0 g1 b7=>?_⟩;have A8:AD K p (1+n+1) H5 (.ref t8) (.tuple [.int t]):=AD.gF (.one (.int t)) n5 b4.aE.ne;have oS:bW (1+n+1) (.str (toString t)):=MI (XJ t);have all:gf K p (1+n+1) H6 [.int (t+1),.int (t-1),.int 0,.int (-t),.bl true,.bR,.str (toString t),.ref t8] [.int (t+1),.int (t-1),.int 0,.int (-t),.bool true,.none,.str (toString t),.tuple [.int t]]:=.cons (.int _) (.cons (.int _) (.cons (.int _) (.cons (.int _) (.cons (.bl _) (.cons y8 (.cons ⟨cM _,oS⟩ (.one (A8.go n6.same.sd))))))));obtain⟨y,D,hL,ey,ay,mD⟩:=pick (i:=i) n6.at' (nW n6 b5.aE.ne) b7 all g0 (by show i.toNat<8;omega);refine .inl ⟨l9,_,i,y,Z,Z,hL,ey,?_⟩;refine⟨_,Z,bc Z,λtt H8 n8=>?_⟩;have sO:=b5.trans (b6.trans b7);refine four (mW.trans sO) n8 (yq.go sO.sd) ay (Ib.go sO.sd) Er ?_ Eq Fq;simp only[cR,fq,iO]at mD;rcases mD with rfl|rfl|rfl|rfl|rfl|rfl|rfl|rfl
    ·exact .int (by rw[show 1890+(n+1)=1890+n+1 by omega,EL];omega)
    ·exact .int (by rw[show 1890+(n+1)=1890+n+1 by omega,EL];omega)
    ·exact .wV au
    ·exact .int (by rw[show 1890+(n+1)=1890+n+1 by omega,EL];omega)
    ·exact .bl
    ·exact .bR
    ·refine .str (bT ?_)
     rw[PySem.ofString_length];exact eL (int_text_length_le10 (k:=600) au (cY tb (eL (gD au (show 1890+n<=1891 by omega)) aP))) au
    ·exact .tup (by show 1<=900;decide)
   rw[cy h4];refine aQ ⟨_,Z,.inl ⟨_,_,Z,Z,_,Z,?_⟩⟩;by_cases h5:kd=5
   ·rw[bT h5]
    refine aU ?_;obtain⟨z,ez⟩:∃z,zs[ix.toNat]? =some z:=⟨_,bG aH⟩;have ei:dk (zs.map V.int) ix=some (.int z):=cQ i0 (by rw[bU,ez];rfl);refine⟨_,Z,_,Z,.inr ⟨ra,_,ix,.int z,Z,Z,Ai,ei,_,_,Z,Z,?_⟩⟩;refine⟨_,Z,_,Z,.inr ⟨ra,_,ix,.int z,Z,Z,Ai,ei,_,Z,?_⟩⟩;refine⟨_,Z,_,Z,.inr ⟨ra,_,ix,.int z,Z,Z,Ai,ei,_,_,Z,Z,?_⟩⟩;refine⟨bc Z,λl5 H5 n5=>?_⟩;have b5:=aM.bD b4.aE n5.same;refine⟨_,Z,p,6,Z,b5.aE,au,au,λi H6 g0 g1 b6=>?_⟩;have all:gf K p (1+n) H5 [.int (1-z),.int (-z),.int (z+1),.bl true,.bR,.str "0"] [.int (1-z),.int (-z),.int (z+1),.bool true,.none,.str "0"]:=.cons (.int _) (.cons (.int _) (.cons (.int _) (.cons (.bl _) (.cons y8 (.one (mY aP))))));obtain⟨y,D,hL,ey,ay,mD⟩:=pick (i:=i) n5.at' (nW n5 b4.aE.ne) b6 all g0 (by show i.toNat<6;omega);refine .inl ⟨l5,_,i,y,Z,Z,hL,ey,?_⟩;have Qq:=b5.trans b6;have Rm:=yq.go Qq.sd;refine⟨_,Z,_,Z,_,Z,p,1+n,_,b6.aE.ne,Rm,λv1 H7 s7 a7=>?_⟩;have b7:=aM.bD b6.aE s7;refine⟨_,Z,bc Z,λt8 H8 n8=>?_⟩;have b8:=aM.bD b7.aE n8.same;have c1:=a3H (ds:=zs.map PyData.int) i0;have c2:=a3F (ds:=zs.map PyData.int) i0 (by rw[bB];exact i1);rw[bB]at c2;refine⟨p,1+n,_,[D],b8.aE.ne,G n8.same a7,AD.gF (.one (G s7 ay)) n8 b7.aE.ne,(by rw[oP];omega),λv2 H9 s9 a9=>?_⟩;have b9:=aM.bD b8.aE s9;have E9:=s7.trans (n8.same.trans s9);refine⟨_,Z,_,Z,_,_,Z,Z,_,Z,p,1+n,_,b9.aE.ne,G E9 Rm,λv3 fK gh a10=>?_⟩;have gc:=aM.bD b9.aE gh;refine⟨p,1+n,_,_,gc.aE.ne,G gh a9,a10,(by rw[cB,oP];omega),λv4 gq iu HH=>?_⟩;have gI:=aM.bD gc.aE iu;refine⟨_,Z,_,Z,bc Z,λtt gB fH=>?_⟩;have bb:=Qq.trans (b7.trans (b8.trans (b9.trans (gc.trans gI))));refine four (mW.trans bb) fH HH (.int t) (Ib.go bb.sd) (.tup ?_) Et Eq Fq;rw[cB,cB,oP];omega
   rw[cy h5];refine aQ ⟨_,Z,.inl ⟨_,_,Z,Z,_,Z,?_⟩⟩;by_cases h6:kd=6
   ·rw[bT h6]
    refine aU ?_;obtain⟨qa,eq,Ak⟩:=id HR;subst eq;have mo:∀z:Int,IntMulOk 2 z:=λz=>.of_left (cm au au);refine⟨_,Z,.inr ⟨qa,_,0,_,Z,Z,Ak,Z,_,_,Z,Z,mo _,?_⟩⟩;refine⟨_,Z,.inr ⟨qa,_,1,_,Z,Z,Ak,Z,_,_,Z,Z,mo _,?_⟩⟩;refine⟨bc Z,λt5 H5 n5=>?_⟩;have b5:=aM.bD b4.aE n5.same;refine⟨_,Z,qa,_,Z,.inr (Ak.go n5.same),λl6 H6 n6=>?_⟩;have b6:=aM.bD b5.aE n6.same;have kB:=n5.same.trans n6.same;refine⟨_,Z,.inr ⟨qa,_,0,_,Z,Z,Ak.go kB,Z,?_⟩⟩;refine⟨bc Z,λt7 H7 n7=>?_⟩;have b7:=aM.bD b6.aE n7.same;refine⟨_,Z,bc Z,λt8 H8 n8=>?_⟩;have b8:=aM.bD b7.aE n8.same;refine⟨bc Z,λt9 H9 n9=>?_⟩;have b9:=aM.bD b8.aE n9.same;refine⟨_,Z,bc Z,λt10 fK gG=>?_⟩;have gc:=aM.bD b9.aE gG.same;have Uw:=kB.trans (n7.same.trans (n8.same.trans (n9.same.trans gG.same)));refine⟨p,1+n,_,[.int 1],gc.aE.ne,G Uw Ib,AD.gF (.one (.int 1)) gG b9.aE.ne,(by show 3<=sizeLine;omega),λv11 gq iu HH=>?_⟩;have gI:=aM.bD gc.aE iu;refine⟨bc Z,λpJ gB fH=>?_⟩;have hJ:=aM.bD gI.aE fH.same;have qU:=gG.same.trans (iu.trans fH.same);have aq2:gf K p (1+n) H5 [.int q.num,.int q.den] [.int q.num,.int q.den]:=.cons (.int _) (.one (.int _));have C5:AD K p (1+n+1) H5 (.ref t5) (.tuple [.int (2*q.num),.int (2*q.den)]):=AD.gF (.cons (.int _) (.one (.int _))) n5 b4.aE.ne;have C6:AD K p (1+n+1) H6 (.ref l6) (.list [.int q.num,.int q.den]):=AD.uo aq2 n6 b5.aE.ne;have C7:AD K p (1+n+1) H7 (.ref t7) (.tuple [.int 0,.int 1]):=AD.gF (.cons (.int _) (.one (.int _))) n7 b6.aE.ne;have C8:AD K p (1+n+1) H8 (.ref t8) (.tuple [.int (-1),.int 1]):=AD.gF (.cons (.int _) (.one (.int _))) n8 b7.aE.ne;have C9:AD K p (1+n+1) H9 (.ref t9) (.tuple [.int 1,.int 0]):=AD.gF (.cons (.int _) (.one (.int _))) n9 b8.aE.ne;have all:gf K p (1+n+1) gB [.ref t5,.ref l6,.int q.num,.ref t7,.ref t8,.ref t9,.bR,v11] [.tuple [.int (2*q.num),.int (2*q.den)],.list [.int q.num,.int q.den],.int q.num,.tuple [.int 0,.int 1],.tuple [.int (-1),.int 1],.tuple [.int 1,.int 0],.none,.tuple ([.int q.num,.int q.den]++[.int 1])]:=.cons (G (n6.same.trans (n7.same.trans (n8.same.trans (n9.same.trans qU)))) C5) (.cons (G (n7.same.trans (n8.same.trans (n9.same.trans qU))) C6) (.cons (.int _) (.cons (G (n8.same.trans (n9.same.trans qU)) C7) (.cons (G (n9.same.trans qU) C8) (.cons (G qU C9) (.cons y8 (.one (G fH.same HH))))))));have Hz:=b5.trans (b6.trans (b7.trans (b8.trans (b9.trans (gc.trans (gI.trans hJ))))));refine⟨_,Z,_,Z,_,Z,_,Z,p,8,Z,hJ.aE,au,au,λi qD g0 g1 jG=>?_⟩;obtain⟨y,D,hL,ey,ay,mD⟩:=pick (i:=i) fH.at' (nW fH gI.aE.ne) jG all g0 (by show i.toNat<8;omega);refine .inl ⟨pJ,_,i,y,Z,Z,hL,ey,?_⟩;refine⟨bc Z,λtt qC kY=>?_⟩;have bb:=Hz.trans jG;have hE:Ev (n+1) D/\Ef (n+1) D:=by
     have pn:=Bq.num;have pd:=Bq.den;have pw2:(2:Nat)^(1800+20*(n+1))=2^(1800+20*n)*1048576:=by rw[<-GY,BF]
     have pw3:(2:Nat)^(1800+20*n)<=2^(1890+(n+1)):=gD au aH;have t2:∀{x y:Int},x.natAbs<2^(1800+20*(n+1))->y.natAbs<2^(1800+20*(n+1))->Ev (n+1) (.tuple [.int x,.int y])/\Ef (n+1) (.tuple [.int x,.int y]):=λ{x y} h1 h2=>⟨.tup (by show 2<=900;decide),λp' q' e=>by injection e with e;injection e with e1 e;injection e with e2 _;injection e1 with e1;injection e2 with e2;subst e1 e2;exact⟨h1,h2⟩⟩;have big:1000<=(2:Nat)^(1800+20*(n+1)):=eL (by decide:1000<=2^1800) (gD au aH);simp only[cR,fq,iO]at mD;rcases mD with rfl|rfl|rfl|rfl|rfl|rfl|rfl|rfl
     ·exact t2 aH aH
     ·exact⟨.lst,.no λ_ _ z=>nomatch z⟩
     ·exact⟨.int aH,.no λ_ _ z=>nomatch z⟩
     ·exact t2 (by show 0<_;omega) (by show 1<_;omega)
     ·exact t2 (by show 1<_;omega) (by show 1<_;omega)
     ·exact t2 (by show 1<_;omega) (by show 0<_;omega)
     ·exact⟨.bR,.no λ_ _ z=>nomatch z⟩
     ·exact⟨.tup (by show 3<=900;decide),.no λ_ _ z=>by simp at z⟩
    exact four (mW.trans bb) kY (yq.go bb.sd) (.int t) ay Er Et hE.1 hE.2
   rw[cy h6];refine aQ ?_;have Zn:aV K H4 ea xs:=uA.t (aM.t b2.aE (b3.trans b4));refine⟨_,Z,ea,xs,Z,.inr Zn,λl5 H5 n5=>?_⟩;have b5:=aM.bD b4.aE n5.same;refine⟨_,Z,_,Z,p,2+n,_,b5.aE.ne,G n5.same a4,λv6 H6 s6 A6=>?_⟩;have b6:=aM.bD b5.aE s6;refine⟨_,Z,bc Z,λt7 H7 n7=>?_⟩;have b7:=aM.bD b6.aE n7.same;have vU:=n5.same.trans (s6.trans n7.same);refine⟨p,2+n,_,[.int 0],b7.aE.ne,G vU a4,AD.gF (.one (.int 0)) n7 b6.aE.ne,(by show 5<=sizeLine;omega),λv8 H8 s8 A8=>?_⟩;have b8:=aM.bD b7.aE s8;refine⟨bc Z,λt9 H9 n9=>?_⟩;have b9:=aM.bD b8.aE n9.same;have LO:=vU.trans (s8.trans n9.same);refine⟨_,Z,_,Z,p,2+n,_,b9.aE.ne,G LO a4,λv10 fK gh Ie=>?_⟩;have gc:=aM.bD b9.aE gh;have Ie:AD K p (2+n+1) fK v10 (.tuple [dr zs,.int t,bM q]):=Ie;refine⟨p,2+n,[.str "Step"],_,gc.aE.ne,G gh (AD.gF (.one (mY aP)) n9 b8.aE.ne),Ie,(by show 4<=sizeLine;omega),λv11 gq iu A11=>?_⟩;have gI:=aM.bD gc.aE iu;have LP:=LO.trans (gh.trans iu);refine⟨_,Z,ra,_,Z,.inr (Ai.go LP),λpJ gB fH=>?_⟩;have hJ:=aM.bD gI.aE fH.same;refine⟨bc Z,λJs qD zS=>?_⟩;have jG:=aM.bD hJ.aE zS.same;have Uv:=LP.trans (fH.same.trans zS.same);refine⟨_,Z,_,Z,p,2+n,_,jG.aE.ne,G Uv a4,λSm qC gP Ic=>?_⟩;have sP:=aM.bD jG.aE gP;have Ic:AD K p (2+n+1) qC Sm (.tuple [.int t,bM q]):=Ic;have rl:AD K p (1+n+1) gB (.ref pJ) (.list (zs.map PyData.int)):=AD.uo ⟨qX zs,λd hd=>by obtain⟨i,_,rfl⟩:=eV.mp hd;exact .int i⟩ fH gI.aE.ne;refine⟨p,2+n,[.str "step",.list (zs.map PyData.int)],_,sP.aE.ne,G gP (AD.gF (.cons (mY aP) (.one (rl.le aH))) zS hJ.aE.ne),Ic,(by show 4<=sizeLine;omega),λSl HZ nG A15=>?_⟩;have mV:=aM.bD sP.aE nG;refine⟨bc Z,λYM yn wI=>?_⟩;have Qv:=aM.bD mV.aE wI.same;have A5:AD K p (2+n+1) H5 (.ref l5) (.list [.str "step",dr zs,.int t,bM q]):=AD.uo (jB.go (s2.sd.trans (b3.trans b4).sd)) n5 b4.aE.ne;have LR:=fH.same.trans (zS.same.trans (gP.trans (nG.trans wI.same)));have E7:=n9.same.trans (gh.trans (iu.trans LR));have all:gf K p (2+n+1) yn [.ref l5,v6,v8,v11,Sl] [.list [.str "step",dr zs,.int t,bM q],.tuple [.str "step",dr zs,.int t],.tuple ([.str "step",dr zs,.int t,bM q]++[.int 0]),.tuple [.str "Step",dr zs,.int t,bM q],.tuple [.str "step",.list (zs.map PyData.int),.int t,bM q]]:=.cons (G (s6.trans (n7.same.trans (s8.trans E7))) A5) (.cons (G (n7.same.trans (s8.trans E7)) A6) (.cons (G E7 A8) (.cons (G LR A11) (.one (G wI.same A15)))));have a4D:=b5.trans (b6.trans (b7.trans (b8.trans (b9.trans (gc.trans (gI.trans (hJ.trans (jG.trans (sP.trans (mV.trans Qv))))))))));refine⟨_,Z,_,Z,p,5,Z,Qv.aE,au,au,λi R6 g0 g1 Qu=>?_⟩;obtain⟨y,D,hL,ey,ay,mD⟩:=pick (i:=i) wI.at' (nW wI mV.aE.ne) Qu all g0 (by show i.toNat<5;omega);refine .inl ⟨YM,_,i,y,Z,Z,hL,ey,?_⟩;refine k y D R6 (ay.le aH) ?_ (mW.trans (a4D.trans Qu));simp only[cR,fq,iO]at mD;rcases mD with rfl|rfl|rfl|rfl|rfl
   ·exact .no λ_ z=>nomatch z
   ·refine .xH (λx hx=>?_) (by show 3<=3;decide)
    exact(sd.ev x (by simp only[cR,fq,iO]at hx⊢;rcases hx with h|h|h<;>simp[h])).up
   ·exact .of (sd.snoc (.wV au) (.no λ_ _ z=>nomatch z))
   ·exact .four (.str aP) Er Et Eq Fq
   ·exact .four (.str aP) .lst Et Eq Fq |false=>
   refine aQ ?_;refine⟨_,Z,.inr ⟨ea,_,0,u0,Z,Z,wX,cQ (iP 0) GK,.inr ⟨d0,_,a0.nJ,cM _,CH,aP,_,Z,?_⟩⟩⟩;rw[kc,GL];refine aU ?_;have HI:AD K p (2+n+1) H1 (.ref ea) (.tuple ds):=by rw[show 2+n+1=3+n by omega];exact a1
   refine⟨_,Z,ea,xs,Z,.inr wX,λl1 H2 n2=>?_⟩;have A1:=AD.uo jB n2 FZ;have B2:=aM.bD b1.aE n2.same;refine⟨_,Z,bc Z,λt1 H3 n3=>?_⟩;have B3:=aM.bD B2.aE n3.same;refine⟨p,2+n,ds,[.int 1],B3.aE.ne,G (n2.same.trans n3.same) HI,AD.gF (.one (.int 1)) n3 B2.aE.ne,(by rw[oP];omega),λv2 H4 s4 A2=>?_⟩;have B4:=aM.bD B3.aE s4;have gP:=n2.same.trans (n3.same.trans s4);refine⟨_,Z,_,Z,p,2+n,ds,B4.aE.ne,G gP HI,λv3 H5 s5 A3=>?_⟩;have B5:=aM.bD B4.aE s5;refine⟨bc Z,λt4 H6 n6=>?_⟩;have B6:=aM.bD B5.aE n6.same;refine⟨bc Z,λt5 H7 n7=>?_⟩;have B7:=aM.bD B6.aE n7.same;refine⟨bc Z,λt6 H8 n8=>?_⟩;have B8:=aM.bD B7.aE n8.same;refine⟨bc Z,λl7 H9 n9=>?_⟩;have B9:=aM.bD B8.aE n9.same;refine⟨_,Z,bc Z,λt8 fK gG=>?_⟩;have Rk:=aM.bD B9.aE gG.same;refine⟨bc Z,λl9 gq jR=>?_⟩;have Ia:=aM.bD Rk.aE jR.same;refine⟨l7,l9,_,_,Z,Z,aK.of ((gG.same.trans jR.same) _ _ n9.at'),aK.of jR.at',(by show 8<=sizeLine;omega),λlc gB fH=>?_⟩;have Rj:=aM.bD Ia.aE fH.same;have sA:=n9.same.trans (gG.same.trans (jR.same.trans fH.same));have A4:AD K p (2+n+1) H6 (.ref t4) (.tuple [.str "wait",.int 1]):=AD.gF (.cons (mY aP) (.one (.int 1))) n6 B5.aE.ne;have A5:AD K p (2+n+1) H7 (.ref t5) (.tuple [.str "wait",.bool true]):=AD.gF (.cons (mY aP) (.one (.bl true))) n7 B6.aE.ne;have A6:AD K p (2+n+1) H8 (.ref t6) (.tuple [.str "mark",.str "a"]):=AD.gF (.cons (mY aP) (.one (mY aP))) n8 B7.aE.ne;have A8:AD K p (2+n+1) fK (.ref t8) (.tuple [.str "tool",.str "down"]):=AD.gF (.cons (mY aP) (.one (mY aP))) gG B9.aE.ne;have all:gf K p (2+n+1) gB [.ref l1,v2,v3,.ref t4,.ref t5,.ref t6,.ref t8,.bR] [.list ds,.tuple (ds++[.int 1]),.tuple (cutD ds none (some 1)),.tuple [.str "wait",.int 1],.tuple [.str "wait",.bool true],.tuple [.str "mark",.str "a"],.tuple [.str "tool",.str "down"],.none]:=.cons (G (n3.same.trans (s4.trans (s5.trans (n6.same.trans (n7.same.trans (n8.same.trans sA)))))) A1) (.cons (G (s5.trans (n6.same.trans (n7.same.trans (n8.same.trans sA)))) A2) (.cons (G (n6.same.trans (n7.same.trans (n8.same.trans sA))) A3) (.cons (G (n7.same.trans (n8.same.trans sA)) A4) (.cons (G (n8.same.trans sA) A5) (.cons (G sA A6) (.cons (G (jR.same.trans fH.same) A8) (.one y8)))))));have i8:kd.toNat<8:=by omega
   obtain⟨y,D,hL,ey,ay,mD⟩:=pick (i:=kd) fH.at' (nW fH Ia.aE.ne) (.refl Rj.aE) all k0 i8;refine⟨_,Z,.inl ⟨lc,_,kd,y,Z,Z,hL,ey,?_⟩⟩;refine k y D gB (ay.le aH) ?_ (b1.trans (B2.trans (B3.trans (B4.trans (B5.trans (B6.trans (B7.trans (B8.trans (B9.trans (Rk.trans (Ia.trans Rj)))))))))));have two:∀{a b:ah},Ev (n+1) a->Ev (n+1) b->Se (n+1) (.tuple [a,b]):=λ{a b} h1 h2=>.xH (λx hx=>by
    rcases cR.mp hx with rfl|hx
    ·exact h1
    ·rw[kS.mp hx];exact h2) (by show 2<=3;decide);simp only[cR,fq,iO]at mD;rcases mD with rfl|rfl|rfl|rfl|rfl|rfl|rfl|rfl
   ·exact .no λ_ z=>nomatch z
   ·exact .of (sd.snoc (.wV au) (.no λ_ _ z=>nomatch z))
   ·exact .xH (λx hx=>(sd.ev x (a3J aH x hx)).up) (a3I aH)
   ·exact two (.str aP) (.wV au)
   ·exact two (.str aP) .bl
   ·exact two (.str aP) (.str aP)
   ·exact two (.str aP) (.str aP)
   ·exact .no λ_ z=>nomatch z
theorem AQ{r f j ti rate:Int}{ds:List ah}{os:List Itm}{i:Nat}{ns:List Int}{sp:Int}(h:os[i]? =some (some (ns,sp))):qh r f j ti rate ds os i=mB r f ti ns (topR rate sp) (jv r f j rate os i) (jv r f j rate os (i+1)):=by unfold qh;rw[h]
theorem AO{r f j ti rate:Int}{ds:List ah}{os:List Itm}{i:Nat}{d:ah}(h:os[i]? =some none)(hd:ds[i]? =some d):qh r f j ti rate ds os i=[d]:=by unfold qh;rw[h,vw,hd];rfl
theorem BW{n:Nat}{r f j ti rate:Int}{ds:List ah}{os:List Itm}(row:cH n ds os):∀i,i<=os.length->cE (m8 r f j ti rate ds os i)=true
 |0,_=>rfl |i+1,h=>by
  have ll:=row.len;refine dh.mpr λd hd=>?_;rcases gL.mp hd with h1|h1
  ·exact dh.mp (BW row i aq) d h1
  ·obtain⟨o,eo⟩:∃o,os[i]? =some o:=⟨_,bG (show i<os.length by lia)⟩
   cases o with |none=>obtain⟨d',ed⟩:∃d',ds[i]? =some d':=⟨_,bG (show i<ds.length by lia)⟩;rw[AO eo ed,kS]at h1;subst h1;exact dh.mp row.no _ (fC ed) |some q=>obtain⟨ns,sp⟩:=q;rw[AQ eo]at h1;exact dh.mp (FE _ _ _ _ _ _ _) d h1
theorem BX{n:Nat}{r f j ti rate:Int}{ds:List ah}{os:List Itm}(row:cH n ds os):∀i,i<=os.length->(m8 r f j ti rate ds os i).length<=100*i |0,_=>bw _ |i+1,h=>by have ll:=row.len;have ih:=BX (r:=r) (f:=f) (j:=j) (ti:=ti) (rate:=rate) row i aq;show(m8 r f j ti rate ds os i++qh r f j ti rate ds os i).length<=_;rw[cB];obtain⟨o,eo⟩:∃o,os[i]? =some o:=⟨_,bG (show i<os.length by lia)⟩;cases o with
 |none=>
  obtain⟨d',ed⟩:∃d',ds[i]? =some d':=⟨_,bG (show i<ds.length by lia)⟩;rw[AO eo ed];show _+1<=_
  lia |some q=>
  obtain⟨ns,sp⟩:=q;obtain⟨cx,_,_⟩:=row.ok i ns sp eo;have:=mE cx;rw[AQ eo,mB,bB,hX]
  lia
inductive a5F(K:a8)(vs:List V)(H:Hp)(Q:VK):Prop |mk (m:_)(iv:_)(rate:_)(rs:_)(r:_)(f:_)(j:_)(t:_)(ds:_)(os:_)(h0:vs=[m,iv,.int rate])(h1:RD K H m (dQ rs r f j t))(h2:fc rs r f j t)(h3:RD K H iv (.tuple ds))(h4:cH rs.length ds os)(h5:ds.length<=30)(h6:10<=rate)(h7:rate<=200)(h8:∀l ys H',H l=none->H' l=some (.lst ys)->aJ K H' ys (m8 r f j t rate ds os os.length)->aD H H'->Q (.ref l) H')
def Cd(K:a8):Sp:=λvs H Q _=>a5F K vs H Q
theorem Mp{rs:List Int}{r f j t rate:Int}{ds:List ah}{os:List Itm}(aW:fc rs r f j t)(row:cH rs.length ds os)(hz:ds.length<=30)(cf:10<=rate)(cj:rate<=200):∀i,i<=os.length->Bd 1700 (jv r f j rate os i):=λi hi=>by have ll:=row.len;have hB:=Ow.EX aW.j1.1 aW.j1.2 cf cj row.pq;have hL:∀i m,leadF os i=some m->(2*r*(m:Int)).natAbs<2^24:=λi m e=>vA aW.r1.1 aW.r1.2 (wQ row.pq e);have sj:∀i m,leadF os i=some m->(2*f*(m:Int)).natAbs<2^24:=λi m e=>vA aW.f1.1 aW.f1.2 (wQ row.pq e);exact(OP (b:=900) (λi hi=>(Bj hB hL i).mono aq) sj i hi).mono aq
theorem Km:bF ["machine","items","rate","plan","tape","i","item","squares"] ["machine","items","rate"] (bu CU):=bP aP
theorem Wv(F:FA K mg "tape_of" CU)(B:bK mg)(ZF:aB P w K mg az "plan_of" 9 (Cj K))(kL:aB P w K mg az "is_line" 1 (p5 K))(ZR:aB P w K mg az "middles" 5 (Cp K))(FX:aB P w K mg az "step_rows" 3 (zp K))(Zw:aB P w K mg az "step_entry" 3 (Cz K)):aB P w K mg az "tape_of" 10 (Cd K):=by
 refine F.has Km (λvs H Q E h=>?_) (λ_ _ _ _ _ _=>iJ λ_ _ _=>rfl) (λfa aO A outer s H vs Q E hr h=>?_)
 ·obtain⟨m,iv,rate,rs,r,f,j,t,ds,os,rfl,_⟩:=h
  rfl
 ·obtain⟨m,iv,rate,rs,r,f,j,t,ds,os,rfl,rm,aW,ri,row,hz,cf,cj,k⟩:=h
  have nd:=Km.nd;refine⟨_,(aC (pS 3 nd (pf ZF hr (ak (pv 0) (ak (pv 1) (ak (pv 2) aw))))) (aC (pS 4 nd (cK aw)) (aC (fR f7 Z (uh K Z false Z (B.at "enumerate") (ak (pv 1) aw)) (cV K rfl (n:=2) rfl (bN (aZ 5 nd) (bN (aZ 6 nd) cU))) (aI (bA (ck (pf kL hr (ak (pv 6) aw))) (aC (pS 7 nd (pf ZR hr (ak (pv 0) (ak (pv 6) (ak (px K (pv 3) (pv 5)) (ak (px K (pv 3) (aG bZ (pv 5) aA)) (ak (pv 2) aw))))))) (aI (gu (zJ K Z (pv 4) (ak (gj (N:=["row","square","machine"]) (js:=[none,none,some 0]) Z Z Z (nP K Z true true Z (B.at "zip") (ak (pf FX hr (ak (pv 6) aw)) (ak (pv 7) aw))) (λ_ _ _ _ _=>(cV K rfl (n:=2) rfl (bN (aZ 0 (show List.Nodup (["row","square","machine"]:List Str) by decide+kernel)) (bN (aZ 1 (show List.Nodup (["row","square","machine"]:List Str) by decide+kernel)) cU)))) (λ_ _ _ _ _=>fy) (λ_ _ _ _ _=>(pf Zw hr (ak (pv 2) (ak (pv 0) (ak (pv 1) aw)))))) aw))))) (aI (gu (iz K Z (pv 4) (ak (pv 6) aw))))))) (aI (aR (pv 4)))))),?_⟩;have ll:=row.len;have lr:=aW.len;have jQ:=aW.r1;have ka:=aW.f1;have PB:=Mp aW row hz cf cj;have PN:∀i,i<=os.length->0<=jv r f j rate os i:=Mo aH aH (λi _=>Ow.MA j rate os i);refine⟨_,Z,_,Z,_,Z,m,iv,rate,rs,r,f,j,t,ds,os,Z,rm,aW,ri,row,hz,cf,cj,λl1 y1 H1 MT AX w8 s1=>?_⟩;have zW:=w8.length;rw[bB,VA]at zW;refine⟨bc Z,λD H2 n2=>?_⟩;have nD:H D=none:=by cases e:H D with |none=>rfl |some o=>have:=s1 _ _ e;rw[n2.no]at this;cases this
  obtain⟨ia,xs,rfl,hi,cT⟩:=ri.bX;have lx:=cT.length;refine⟨_,Z,ia,Z,⟨_,hi.go (s1.trans n2.same)⟩,uN (K:=K) (b:=false) (a:=ia) (xs:=xs) (λi O H3=>aD H1 H3/\∃zs v1 v2 v3,H3 D=some (.lst zs)/\aJ K H3 zs (m8 r f j t rate ds os i)/\O=[some m,some (.ref ia),some (.int rate),some (.ref l1),some (.ref D),v1,v2,v3]) ⟨n2.same,[],none,none,none,n2.at',cD,Z⟩ (λi O H3 _ h=>hi.go (s1.trans h.1)) ?_ ?_⟩
  ·rintro i y O H3 hy ⟨s3,zs,v1,v2,v3,dz,rz,rfl⟩ T H4 n4
   have uB:i<xs.length:=(cL.mp hy).1;obtain⟨d,ed,rd⟩:=cT.get' i hy;obtain⟨o,eo,it⟩:=row.get ed;have gP:=s3.trans n4.same;have s4:=s1.trans gP;have ic:=n4.same _ _ dz;have qV:=aJ.mono n4.same _ rz;have pe:=RD.mono s4 _ rd;have tn:=BW (r:=r) (f:=f) (j:=j) (ti:=t) (rate:=rate) row i aH;have tl:=BX (r:=r) (f:=f) (j:=j) (ti:=t) (rate:=rate) row i aH;have lz:=rz.length;have pX:sizeLine=16777216:=by decide
   refine⟨T,_,Z,aV.of n4.at',Z,_,_,Z,_,_,Z,Z,?_⟩;refine⟨_,Z,y,d,o,Z,pe,it,_,Z,?_⟩;cases o with
   |none=>
    refine aQ ?_;refine⟨_,Z,.inl ⟨Z,_,aK.of ic⟩,_,Z,D,zs,_,Z,Z,ic,aH,?_⟩;refine⟨λb o e=>?_,_,_,_,_,cF,?_,Z⟩
    ·rw[bL (cW e n2.no)];exact gP b o e
    ·show aJ K _ _ (m8 r f j t rate ds os i++qh r f j t rate ds os i)
     rw[AO eo ed];exact aJ.qS ic qV pe tn it.no |some q=>
    obtain⟨ns,sp⟩:=q;refine aU ?_;have kf:=jV it;subst kf;obtain⟨cx,de,dA⟩:=row.ok i ns sp eo;have lj:=mE cx;have kg:=gP _ _ AX;have US:=aJ.mono gP _ w8;obtain⟨z0,jD⟩:∃z,y1[i]? =some z:=⟨_,bG (show i<y1.length by omega)⟩;obtain⟨z1,qc⟩:∃z,y1[i+1]? =some z:=⟨_,bG (show i+1<y1.length by omega)⟩;have qj:((i:Int)+1).toNat=i+1:=by omega
    have jH:dk y1 (i:Int)=some z0:=cQ aH (by simpa using jD);have mX:dk y1 ((i:Int)+1)=some z1:=cQ aH (by rw[qj];exact qc);have rat:∀(c:Nat)(u:V),c<=os.length->y1[c]? =some u->bC K H4 u (jv r f j rate os c):=by intro c u hc e;obtain⟨d1,e1,r1⟩:=US.get' c e;rw[bU]at e1;have e2:(ER r f j rate os)[c]? =some (jv r f j rate os c):=o5 _ hc;rw[e2]at e1;cases e1;exact fQ r1
    have R0:=rat i z0 aH jD;have R1:=rat (i+1) z1 aH qc;have P0:=PN i aH;have P1:=PN (i+1) aH;refine⟨_,Z,_,Z,_,Z,_,Z,.inl ⟨l1,_,_,_,Z,Z,aK.of kg,jH,?_⟩⟩;refine⟨_,Z,_,Z,_,_,Z,Z,.inl ⟨l1,_,_,_,Z,Z,aK.of kg,mX,?_⟩⟩;refine⟨_,Z,m,y,z0,z1,rate,rs,r,f,j,t,ns,sp,_,_,Z,RD.mono s4 _ rm,aW,pe,cx,de,dA,R0,R1,(PB i aH).mono au,(PB (i+1) aH).mono au,cf,cj,λl2 y2 H5 XZ dl2 zE s5=>?_⟩;have AV:=s5 _ _ ic;refine⟨_,Z,.inl ⟨Z,_,aK.of AV⟩,?_⟩;refine⟨_,Z,y,ns,sp,Z,RD.mono s5 _ pe,⟨Z,λz hz=>by have:=cx.bd z hz;omega,cx.nz⟩,by rw[cx.len];omega,λl3 y3 H6 zP qm p9 s6=>?_⟩;have PF:=s6 _ _ dl2;have UT:=aJ.mono s6 _ zE;have Yk:=zE.length;rw[bB,Fm,bB,hX]at Yk;have rC:=p9.length;rw[i6,bB,hX]at rC;refine⟨_,Z,l3,l2,Z,⟨_,aK.of qm⟩,⟨_,aK.of PF⟩,λD2 H7 n7=>?_⟩;have kB:=s5.trans s6;refine uW (K:=K) (b1:=true) (b2:=true) (xs:=y3) (ys:=y2) (ds:=mB r f t ns (topR rate sp) (jv r f j rate os i) (jv r f j rate os (i+1))) _ Z (aK.of qm) (aK.of PF) n7 (by rw[mB,bB,hX];omega) (by rw[mB,bB,hX];omega) (FE _ _ _ _ _ _ _) ?_ ?_
    ·intro q x y' dd H8 Q' ex ey qi s8 hq
     have iE:q<aL ns:=by have:=(cL.mp ex).1;omega
     obtain⟨d3,e3,r3⟩:=p9.get' q ex;obtain⟨d2,e2,r2⟩:=UT.get' q ey;rw[i6,bU,kT iE]at e3;cases e3;rw[Fm,bU,bU,kT iE]at e2;cases e2;rw[mB,bU,kT iE]at qi;cases qi;have xy:=Eo jQ.1 jQ.2 iE lj;have xx:=GH ka.1 ka.2 iE lj;have bm:Bd 2000 (rA r f (aL ns) (topR rate sp) (jv r f j rate os i) (jv r f j rate os (i+1)) q):=mr (mr ((iK (PB i aH) (by rw[gQ];omega)).mono au) ((Ow.ku de dA cf cj).mono au)) ((iK (PB (i+1) aH) (by rw[gQ];omega)).mono au);refine⟨_,Z,_,Z,_,Z,m,x,y',rs,r,f,j,t,fP ns q,_,Z,RD.mono (s4.trans (kB.trans s8)) _ rm,aW,RD.mono s8 _ r3,fQ (RD.mono s8 _ r2),bm,Na jQ.1 ka.1 iE (Jf de cf) P0 P1,λv H9 rv s9=>hq v H9 s9 rv⟩
    ·intro H8 z8 s8 d8 r8
     have iU:=kB.trans s8;have qk:=iU _ _ ic;have l8:=r8.length;rw[mB,bB,hX]at l8;refine⟨D,D2,zs,z8,Z,Z,qk,d8,aH,?_⟩;have tu:dN H8 (L2.upd H8 D (.lst (zs++z8))):=.fM qk;refine⟨λb o e=>?_,_,_,_,_,cF,?_,Z⟩
     ·rw[bL (cW e n2.no)];exact iU b o (gP b o e)
     ·show aJ K _ _ (m8 r f j t rate ds os i++qh r f j t rate ds os i)
      rw[AQ eo];exact(aJ.t tu _ tn (aJ.mono iU _ qV)).append (aJ.t tu _ (FE _ _ _ _ _ _ _) r8)
  ·rintro O H3 ⟨s3,zs,v1,v2,v3,dz,rz,rfl⟩
   have e:xs.length=os.length:=by omega
   rw[e]at rz;exact⟨_,Z,k D zs H3 nD dz rz (s1.trans s3)⟩
def pairD(p:Int×Int):ah:=.tuple [.int p.1,.int p.2]
def qO:List (Int×Int):=[(6,10),(4,20),(8,5),(3,30),(10,4),(5,12),(2,60),(6,10)]
inductive a5H(K:a8)(vs:List V)(H:Hp)(Q:VK):Prop |mk (p:_)(fi:_)(h0:vs=[.ref p,.bl fi])(h1:fA H p)(h2:∀t many most H',aV K H' t [.int many,.int most]->1<=many->many<=20->1<=most->most<=100->aM p H H'->Q (.ref t) H')
def JM(K:a8):Sp:=λvs H Q _=>a5H K vs H Q
theorem Ko:bF ["_law_bag_here","_law_first","_law_kind"] ["_law_bag_here","_law_first"] (bu nC):=bP aP
def zk:Expr:=match(gZ nC)with|[_,_,_,.Return (some (.Subscript e _ _)) _]=>e|_=>.Constant .none 0 ⟨0,0,0,0⟩
theorem TJ:lit 4 zk=some (.list (qO.map pairD)):=by kernel_rfl
def N9(e:Expr):List Stmt:=match gZ nC with|[a,b,c,.Return (some (.Subscript _ i p)) q]=>[a,b,c,.Return (some (.Subscript e i p)) q]|r=>r
theorem Ye:N9 zk=gZ nC:=by kernel_rfl
theorem TH{f:Addr}{aO:Value}{A:ai}{outer:List Env}{s:af}{H:Hp}{p:Addr}{fi:Bool}{Q:VK}{E:XK}(e:Expr)(hr:dm 1 (A.deeper (envOfC "_law_sizes" (bu nC) s.heap.objs.size f aO))) (he:QT (ie hW P w K mg az ["_law_bag_here","_law_first","_law_kind"] "_law_sizes" (bu nC) f aO A outer s H E).rp e (ze K (.list (qO.map pairD)))) (B:bK mg)(cu:aB P w K mg az "_law_take" 1 jN)(bg:fA H p)(k:∀t many most H',aV K H' t [.int many,.int most]->1<=many->many<=20->1<=most->most<=100->aM p H H'->Q (.ref t) H'): ∃t,gn (ie hW P w K mg az ["_law_bag_here","_law_first","_law_kind"] "_law_sizes" (bu nC) f aO A outer s H E).rp (N9 e) t/\t {nx:=λ_ H'=>Q .bR H',rt:=Q} (start ["_law_bag_here","_law_first","_law_kind"] [.ref p,.bl fi]) H:=by
 have nd:=Ko.nd;refine⟨_,(aC (pS 2 nd (pf cu hr (ak (pv 0) (ak aA aw)))) (aC (bA (PW.pt (nK (ck (pv 1)) (pg (bJ (cC K Z hr.units) (pv 2) aA (bo _))))) (aI (aR (cg (ak aA (ak aA aw))))) bE) (aC (bA (PW.pt (nK (ck (pv 1)) (pg (bJ (cC K Z hr.units) (pv 2) aA (bo _))))) (aI (aR (cg (ak aA (ak aA aw))))) bE) (aI (aR (px K he.out (pv 2))))))),?_⟩;refine⟨_,Z,p,8,Z,bg,au,au,λkd H1 k0 k1 b1=>?_⟩;have tb:∀{H2:Hp}{t:Addr}{x y:Int},Nw H1 H2 t (.tup [.int x,.int y])->1<=x->x<=20->1<=y->y<=100->Q (.ref t) H2:=λn2 h1 h2 h3 h4=>k _ _ _ _ (aV.of n2.at') h1 h2 h3 h4 (b1.trans (.bD b1.aE n2.same));have fin:∀(v:V)(H2:Hp),aD H1 H2->RD K (fr H1 H2) v (.list (qO.map pairD))->∃l xs t x y,v= .ref l/\aK K H2 l xs/\dk xs kd=some (.ref t)/\aV K H2 t [.int x,.int y]/\1<=x/\x<=20/\1<=y/\y<=100:=λv H2 s2 r2=>by
  obtain⟨l,xs,rfl,hx,hd⟩:=(RD.mono a1N _ r2).lst_inv;have hl:=hd.length;have hk:kd.toNat<qO.length:=by show kd.toNat<8;omega
  obtain⟨y,ey,ry⟩:=hd.get kd.toNat (show(qO.map pairD)[kd.toNat]? =some (pairD qO[kd.toNat]) by rw[bU,bG hk];rfl);have hb:∀q∈qO,1<=q.1/\q.1<=20/\1<=q.2/\q.2<=100:=by decide
  obtain⟨h1,h2,h3,h4⟩:=hb _ (tG hk);obtain⟨t,zs,rfl,ht,hz⟩:=ry.bX;obtain⟨z1,zr,rfl,e1,hz⟩:=hz.cons_inv;obtain⟨z2,zr,rfl,e2,hz⟩:=hz.cons_inv;cases hz.nil_inv;cases e1.int_inv;cases e2.int_inv;exact⟨l,xs,t,_,_,Z,hx,cQ k0 ey,ht,h1,h2,h3,h4⟩
 refine⟨_,Z,_,Z,?_⟩;refine dM (λhf=>?_) (λhf=>?_)
 ·refine⟨_,Z,.inl ⟨_,_,Z,Z,_,Z,?_⟩⟩
  refine dM (λhc=>?_) (λhc=>?_)
  ·exact⟨bc Z,λt H2 n2=>tb n2 au au au au⟩
  refine⟨_,Z,_,Z,?_⟩;refine dM (λhf=>?_) (λAw=>absurd hf Aw);refine⟨_,Z,.inl ⟨_,_,Z,Z,_,Z,?_⟩⟩;refine dM (λhc=>?_) (λhc=>?_)
  ·exact⟨bc Z,λt H2 n2=>tb n2 au au au au⟩
  intro v H2 s2 r2;obtain⟨l,xs,t,x,y,rfl,hx,ht,hT,h1,h2,h3,h4⟩:=fin v H2 s2 r2;exact⟨_,Z,.inl ⟨l,_,_,_,Z,Z,hx,ht,k _ _ _ _ hT h1 h2 h3 h4 (b1.trans (.bD b1.aE s2))⟩⟩
 ·refine⟨_,Z,_,Z,?_⟩
  refine dM (λAw=>absurd Aw hf) (λAw=>?_);intro v H2 s2 r2;obtain⟨l,xs,t,x,y,rfl,hx,ht,hT,h1,h2,h3,h4⟩:=fin v H2 s2 r2;exact⟨_,Z,.inl ⟨l,_,_,_,Z,Z,hx,ht,k _ _ _ _ hT h1 h2 h3 h4 (b1.trans (.bD b1.aE s2))⟩⟩
theorem Wx(F:FA K mg "_law_sizes" nC)(B:bK mg)(cu:aB P w K mg az "_law_take" 1 jN):aB P w K mg az "_law_sizes" 2 (JM K):=by
 refine F.has Ko (λvs H Q E h=>?_) (λ_ _ _ _ _ _=>e9 λ_ _=>rfl) (λf aO A outer s H vs Q E hr h=>?_)
 ·obtain⟨p,fi,rfl,_⟩:=h
  rfl
 ·obtain⟨p,fi,rfl,bg,k⟩:=h
  rw[<-Ye];exact TH zk hr (VM K Z 4 zk _ TJ) B cu bg k
end
end Lw
set_option maxHeartbeats 4000000
namespace Lw
open PySem PySem.Spec PyProof.Rows L2 Rt Ln Cn Pn
open Ow (topR cornO mnO betR atO ownF leadF ownL OkI OkIs)
section
variable {w:World} {mg:bS} {az:Heap}
theorem Sd.up{n:Nat}{ds:List ah}(h:Sd n ds):Sd (n+1) ds:=⟨λx hx=>(h.ev x hx).up,λx hx=>(h.ef x hx).up,by have:=h.ln;omega⟩
theorem Se.up{n:Nat}{e:ah}(h:Se n e):Se (n+1) e:=λds z=>(h ds z).up
theorem VZ{d:ah}(o:gA d):bW 3 d/\Se 0 d:=by
 obtain⟨_,_,i3⟩:=yj.is (n:=0) (d:=d) (o:=none) ⟨o.it,(λ_ _ z=>nomatch z),λ_=>o⟩;rcases o with⟨n,rfl,_,_⟩|⟨wd,z,rfl,hw,ok,_⟩
 ·refine⟨(dP.tup (n:=0) (.cons ⟨aP,eK _⟩ (.cons (.int _) .nil))).le au,.xH (λx hx=>?_) (by show 2<=3;decide)⟩
  rcases cR.mp hx with rfl|hx
  ·exact .str aP
  ·rw[kS.mp hx];exact .wV aH
 ·refine⟨(dP.tup (n:=0) (.cons ?_ (.cons ok .nil))).le au,.xH (λx hx=>?_) (by show 2<=3;decide)⟩
  ·rcases hw with rfl|rfl<;>exact⟨aP,eK _⟩
  ·have sh:=K8 i3 hx
   rcases cR.mp hx with rfl|hx
   ·exact .str sh
   ·rw[kS.mp hx]at sh⊢;exact .str sh
theorem TR{ti:Int}{zs:List Int}{q:Rat}(h1:1<=ti)(h2:ti<=100)(q0:0<q)(bq:Bd 1800 q)(lz:zs.length<=900):bW 3 (m9 ti zs q)/\Se 0 (m9 ti zs q):=by refine⟨(dP.tup (n:=1) (.cons (⟨aP,eK _⟩:bW 1 (.str "step")) (.cons (vX zs) (.cons (.int _) (.cons (uc q) .nil))))).le au,?_⟩;obtain⟨t1,_,_,t4⟩:=zb h1 h2 q0 (bq.mono au);exact .four (.str aP) (.tup (by rw[bB];exact lz)) (.int (cY (Jh h1 h2 (nX q0) bq.den t1 t4) (gD au au))) (.tup (by show 2<=900;decide)) (.rat bq)
theorem Jj{rs:List Int}{r f j t rate:Int}{ds:List ah}{os:List Itm}(aW:fc rs r f j t)(row:cH rs.length ds os)(fO:RowW ds os)(hz:ds.length<=30)(cf:10<=rate)(cj:rate<=200):∀i,i<=os.length->∀e∈m8 r f j t rate ds os i,bW 3 e/\Se 0 e
 |0,_=>λe he=>(fq he).elim |i+1,h=>λe he=>by
  have ll:=row.len;rcases gL.mp he with h1|h1
  ·exact Jj aW row fO hz cf cj i aH e h1
  ·obtain⟨o,eo⟩:∃o,os[i]? =some o:=⟨_,bG (show i<os.length by omega)⟩
   cases o with |none=>obtain⟨d',ed⟩:∃d',ds[i]? =some d':=⟨_,bG (show i<ds.length by omega)⟩;rw[AO eo ed,kS]at h1;subst h1;exact VZ (fO i _ eo ed) |some q=>obtain⟨ns,sp⟩:=q;obtain⟨cx,de,dA⟩:=row.ok i ns sp eo;have lj:=mE cx;have jQ:=aW.r1;have ka:=aW.f1;have PB:=Mp aW row hz cf cj;have PN:∀i,i<=os.length->0<=jv r f j rate os i:=Mo aH aH (λi _=>Ow.MA j rate os i);rw[AQ eo,mB]at h1;obtain⟨c,hc,rfl⟩:=eV.mp h1;have iE:=II.mp hc;have xy:=Eo jQ.1 jQ.2 iE lj;have xx:=GH ka.1 ka.2 iE lj;exact TR aW.t1.1 aW.t1.2 (Na jQ.1 ka.1 iE (Jf de cf) (PN i aH) (PN (i+1) aH)) (mr (mr ((iK (PB i aH) (by rw[gQ];omega)).mono au) ((Ow.ku de dA cf cj).mono au)) ((iK (PB (i+1) aH) (by rw[gQ];omega)).mono au)) (by unfold fP;rw[bB,cx.len];have:=aW.len;omega)
theorem SM{rs:List Int}{r f j ti rate:Int}{ds:List ah}{os:List Itm}{es:List ah}(aW:fc rs r f j ti)(row:cH rs.length ds os)(fO:RowW ds os)(cf:10<=rate)(cj:rate<=200)(hd:∀e∈es,lZ e)(hz:es.length<=1000000):∃sq fa,qx ti rate ds os es sq fa:=by
 have He:(cZ os os.length).length=(fJ rate ds os os.length).length:=sI (rate:=rate) row _ (bw os.length);have ex:∀k e du,es[k]? =some e->(fJ rate ds os os.length)[k]? =some du->∃p:Option Rat×Nat,fB ti du e p.1 p.2:=λk e du ee ed=>by
  have he:=hd e (fC ee);obtain⟨i,c,a⟩:=Bg (j:=j) (rate:=rate) row (show k<(cZ os os.length).length by rw[He];exact(cL.mp ed).1);rcases a.kind row with⟨eo,_,_,d,AS,_,jc⟩|⟨ns,sp,eo,_,_,jc⟩
  ·rw[ed]at jc
   injection jc with jc;subst jc;obtain⟨y,h⟩:=a3o ti (fO i du eo AS) he;exact⟨(none,y),h⟩
  ·rw[ed]at jc
   cases jc;obtain⟨cx,de,dA⟩:=row.ok i ns sp eo;obtain⟨s,y,h⟩:=a3n ti (zs:=fP ns c) (top:=topR rate sp) ((Ow.ku de dA cf cj).mono au) (by unfold fP;rw[bB,cx.len];have:=aW.len;omega) he;exact⟨(s,y),h⟩
 have cl:∀k:Nat,∃p:Option Rat×Nat,(∀(e du:ah),es[k]? =some e->(fJ rate ds os os.length)[k]? =some du->fB ti du e p.1 p.2)/\(es[k]? =none->p=(none,0)):=λk=>by cases ee:es[k]? with |none=>exact⟨(none,0),(λe du h=>nomatch h),(λ_=>rfl)⟩ |some e=>cases ed:(fJ rate ds os os.length)[k]? with |none=>exact⟨(none,0),(λe du _ h=>nomatch h),(λh=>nomatch h)⟩ |some du=>obtain⟨p,hp⟩:=ex k e du ee ed;exact⟨p,(λe' du' h1 h2=>by cases h1;cases h2;exact hp),(λh=>nomatch h)⟩
 obtain⟨g,hg⟩:=Classical.skolem.mp cl;have hn:=(hg es.length).2 (jJ (bw _));exact⟨λk=>(g k).1,λk=>(g k).2,λk e du ee ed=>(hg k).1 e du ee ed,by show(g es.length).1=none;rw[hn],by show(g es.length).2=0;rw[hn],hz⟩
def HM(d:ah):Prop:=bW 8 d/\∀es,d= .list es->(∀e∈es,lZ e)/\es.length<=1000000
theorem YB{rs:List Int}{r f j ti rate:Int}{ds:List ah}{os:List Itm}{D:ah}(aW:fc rs r f j ti)(row:cH rs.length ds os)(fO:RowW ds os)(cf:10<=rate)(cj:rate<=200)(h:HM D):∃res,Bo r f j ti rate ds os D res:=by
 rcases Fw D with⟨es,rfl⟩|⟨hl,_⟩
 ·obtain⟨h1,h2⟩:=h.2 es rfl
  obtain⟨sq,fa,tp⟩:=SM (j:=j) aW row fO cf cj h1 h2;obtain⟨res,lk⟩:=Nr (fz r f (dG j rate os) (cX rate ds os) es.length sq fa) (min es.length (cX rate ds os));exact⟨res,.inl ⟨es,sq,fa,Z,tp,lk⟩⟩
 ·exact⟨some (0,1),.inr ⟨hl,Z⟩⟩
theorem SQ{es:List ah}(h:∀e∈es,lZ e)(hz:es.length<=1000000):HM (.list es):=⟨dP.lst (n:=7) λe he=>(h e he).ok,λgY e=>by injection e with e;subst e;exact⟨h,hz⟩⟩
theorem UY(res:Option (Nat×Nat)):bW 1 (Ep res):=by cases res with |none=>exact⟨aP,aP⟩ |some p=>
 obtain⟨k,y⟩:=p;have hs:dP 0 [.int (k:Nat),.int (y:Nat)]:=λd hd=>by simp only[cR,fq,iO]at hd;rcases hd with rfl|rfl<;>exact .int _
 exact hs.tup
theorem a3K(es:List ah)(lo hi:Option Int):(L2.cutD es lo hi).length<=es.length/\∀e∈L2.cutD es lo hi,e∈es:=by unfold L2.cutD;refine⟨?_,λe he=>RQ (tD he)⟩;rw[ko,tF];omega
inductive a5L(K:a8)(vs:List V)(H:Hp)(Q:VK):Prop |mk (p:_)(m:_)(tv:_)(rs:_)(r:_)(f:_)(j:_)(ti:_)(es:_)(n:_)(h0:vs=[.ref p,m,tv])(h1:fA H p)(h2:RD K H m (dQ rs r f j ti))(h3:fc rs r f j ti)(h4:RD K (del H p) tv (.list es))(h5:(∀e∈es,bW (3+n) e/\Se n e))(h6:n<=1)(h7:es.length<=20000)(h8:∀v gY H',RD K (del H' p) v (.list gY)->(∀e∈gY,bW (4+n) e/\Se (n+1) e)->gY.length<=3*es.length+2->aM p H H'->Q v H')
def Cf(K:a8):Sp:=λvs H Q _=>a5L K vs H Q
theorem Ks:bF ["_law_bag_here","_law_machine_here","_law_tape","_law_kind","_law_at","_law_two"] ["_law_bag_here","_law_machine_here","_law_tape"] (bu D1):=bP aP
theorem WC(F:FA K mg "_law_spoilt" D1)(B:bK mg)(cu:aB P w K mg az "_law_take" 1 jN)(a1a:aB P w K mg az "_law_spoilt_entry" 4 (JS K)):aB P w K mg az "_law_spoilt" 5 (Cf K):=by
 refine F.has Ks (λvs H Q E h=>?_) (λ_ _ _ _ _ _=>iJ λ_ _ _=>rfl) (λfa aO A outer s H vs Q E hr h=>?_)
 ·obtain⟨p,m,tv,rs,r,f,j,ti,es,n,rfl,_⟩:=h
  rfl
 ·obtain⟨p,m,tv,rs,r,f,j,ti,es,n,rfl,bg,rm,aW,rt,hE,hn,lz,k⟩:=h
  have nd:=Ks.nd;refine⟨_,(aC (pS 3 nd (pf cu hr (ak (pv 0) (ak aA aw)))) (aC (pS 4 nd (pf cu hr (ak (pv 0) (ak (aG bZ (dF K B (ak (pv 2) aw)) aA) aw)))) (aC (bA (PW.pt (fw (bJ (cC K Z hr.units) (pv 3) aA (bo _)) (iy (bJ (cC K Z hr.units) (pv 4) (dF K B (ak (pv 2) aw)) (bo _))))) (aI (aR (aG (lR K Z) (fS (iT K Z) (pv 2) gy (fg (pv 4))) (fS (iT K Z) (pv 2) (fg (aG bZ (aG bZ (pv 4) aA) (pf cu hr (ak (pv 0) (ak aA aw))))) gy)))) bE) (aC (bA (bJ (cC K Z hr.units) (pv 3) aA (bo _)) (aI (aR (aG (lR K Z) (aG (lR K Z) (fS (iT K Z) (pv 2) gy (fg (pv 4))) (fS (iT K Z) (pv 2) (fg (pv 4)) (fg (aG bZ (pv 4) aA)))) (fS (iT K Z) (pv 2) (fg (pv 4)) gy)))) bE) (aC (bA (bJ (cC K Z hr.units) (pv 3) aA (bo _)) (aC (pS 5 nd (fS (iT K Z) (pv 2) (fg (pv 4)) (fg (aG bZ (pv 4) aA)))) (aI (aR (aG (lR K Z) (aG (lR K Z) (fS (iT K Z) (pv 2) gy (fg (pv 4))) (VL (UD K Z) (pv 5) (fg (iX iQ aA)))) (fS (iT K Z) (pv 2) (fg (aG bZ (pv 4) aA)) gy))))) bE) (aC (bA (bJ (cC K Z hr.units) (pv 3) aA (bo _)) (aI (aR (fS (iT K Z) (pv 2) gy (fg (pv 4))))) bE) (aI (aR (aG (lR K Z) (aG (lR K Z) (fS (iT K Z) (pv 2) gy (fg (pv 4))) (cK (ak (pf a1a hr (ak (pv 0) (ak (pv 1) (ak (px K (pv 2) (pv 4)) aw)))) aw))) (fS (iT K Z) (pv 2) (fg (aG bZ (pv 4) aA)) gy)))))))))),?_⟩;have pX:sizeLine=16777216:=by decide
  refine⟨_,Z,p,10,Z,bg,au,au,λkd H1 k0 k1 b1=>?_⟩;obtain⟨ta,xs,rfl,hT,mG⟩:=(b1.rd rt).lst_inv;have lx:=mG.length;refine⟨_,Z,_,Z,ta,_,Z,.inl (hT.go kh),_,_,Z,Z,p,_,Z,b1.aE,aH,aH,λa H2 a0 a1 b2=>?_⟩;have gJ:=b1.trans b2;have kP:aK K H2 ta xs:=(hT.go b2.sd).go kh;have r2:aJ K (del H2 p) xs es:=aJ.mono b2.sd _ mG;have up:∀e∈es,bW (4+n) e/\Se (n+1) e:=λe he=>⟨(hE e he).1.le aH,(hE e he).2.up⟩;have cA:=a3K es;have nL:∀{Ha Hb:Hp}{q:Addr}{vs:List V}{Ds:List ah},fA Ha p->Nw Ha Hb q (.lst vs)->aJ K (del Ha p) vs Ds->RD K (del Hb p) (.ref q) (.list Ds):=λbg n r=>wa (aK.of (n.del bg.ne)) (aJ.mono n.same.sd _ r);have two:∀{lo hi:Option Int}{H3 H4 H5 H6:Hp}{q1 q2 q3:Addr}{fV dZ:Option Int},aM p H H3->aJ K (del H3 p) xs es->Nw H3 H4 q1 (.lst (fm xs lo hi))->aM p H4 H5->Nw H5 H6 q2 (.lst (fm xs fV dZ))->∀H7,Nw H6 H7 q3 (.lst (fm xs lo hi++fm xs fV dZ))->Q (.ref q3) H7:=λ{lo hi H3 H4 H5 H6 q1 q2 q3 fV dZ} b3 r3 n4 b5 n6 H7 n7=>by
   have b4:=aM.bD b3.aE n4.same;have b6:=aM.bD b5.aE n6.same;have b7:=aM.bD b6.aE n7.same;have r6:aJ K (del H6 p) xs es:=aJ.mono (n4.same.sd.trans (b5.sd.trans n6.same.sd)) _ r3;refine k _ _ H7 (nL b6.aE n7 ((r6.cut lo hi).append (r6.cut fV dZ))) (λe he=>?_) ?_ (b3.trans (b4.trans (b5.trans (b6.trans b7))))
   ·rcases gL.mp he with he|he
    ·exact up e ((cA lo hi).2 e he)
    ·exact up e ((cA fV dZ).2 e he)
   ·have:=(cA lo hi).1
    have:=(cA fV dZ).1;rw[cB];omega
  have Gi:aK K (del H2 p) ta xs:=hT.go b2.sd;have FF:∀lo hi fV dZ my mJ:Option Int,(fm xs lo hi++fm xs fV dZ).length+(fm xs my mJ).length<=sizeLine:=λlo hi fV dZ my mJ=>by have:=mT xs lo hi;have:=mT xs fV dZ;have:=mT xs my mJ;rw[cB];omega
  have three:∀lo hi fV dZ my mJ:Option Int,∀e∈L2.cutD es lo hi++L2.cutD es fV dZ++L2.cutD es my mJ,bW (4+n) e/\Se (n+1) e:=λlo hi fV dZ my mJ e he=>by
   rcases gL.mp he with he|he
   ·rcases gL.mp he with he|he
    ·exact up e ((cA _ _).2 e he)
    ·exact up e ((cA _ _).2 e he)
   ·exact up e ((cA _ _).2 e he)
  have Nv:∀lo hi fV dZ my mJ:Option Int,(L2.cutD es lo hi++L2.cutD es fV dZ++L2.cutD es my mJ).length<=3*es.length+2:=λlo hi fV dZ my mJ=>by have:=(cA lo hi).1;have:=(cA fV dZ).1;have:=(cA my mJ).1;rw[cB,cB];omega
  have Ca:∀{Hb:Hp},aM p H2 Hb->aK K (del H2 p) ta xs->aK K Hb ta xs:=λb h=>(h.go b.sd).go kh;have A7:∀lo hi fV dZ:Option Int,(fm xs lo hi).length+(fm xs fV dZ).length<=sizeLine:=λlo hi fV dZ=>by have:=mT xs lo hi;have:=mT xs fV dZ;omega
  refine⟨_,Z,.inl ⟨_,_,Z,Z,_,Z,?_⟩⟩;by_cases h0:kd=0
  ·rw[bT h0]
   refine aU ?_;refine⟨_,Z,_,Z,_,Z,ta,xs,Z,.inl ⟨kP,λq1 H4 n4=>?_⟩⟩;have b4:=aM.bD gJ.aE n4.same;refine⟨_,Z,_,Z,_,_,Z,Z,_,Z,p,2,Z,b4.aE,au,au,λx H5 x0 x1 b5=>?_⟩;refine⟨_,_,Z,Z,_,Z,ta,xs,Z,.inl ⟨Ca (b4.trans b5) Gi,λq2 H6 n6=>?_⟩⟩;refine⟨q1,q2,_,_,Z,Z,aK.of (n6.same _ _ (b5.same _ _ (nW n4 gJ.aE.ne) n4.at')),aK.of n6.at',A7 _ _ _ _,λq3 H7 n7=>?_⟩;exact two gJ r2 n4 b5 n6 H7 n7
  rw[cy h0];refine aQ ?_;refine⟨_,Z,_,Z,ta,_,Z,.inl kP,.inl ⟨_,_,Z,Z,_,Z,?_⟩⟩;by_cases hl:a=(xs.length:Int)
  ·rw[bT hl]
   refine aU ?_;refine⟨_,Z,_,Z,_,Z,ta,xs,Z,.inl ⟨kP,λq1 H4 n4=>?_⟩⟩;have b4:=aM.bD gJ.aE n4.same;refine⟨_,Z,_,Z,_,_,Z,Z,_,Z,p,2,Z,b4.aE,au,au,λx H5 x0 x1 b5=>?_⟩;refine⟨_,_,Z,Z,_,Z,ta,xs,Z,.inl ⟨Ca (b4.trans b5) Gi,λq2 H6 n6=>?_⟩⟩;refine⟨q1,q2,_,_,Z,Z,aK.of (n6.same _ _ (b5.same _ _ (nW n4 gJ.aE.ne) n4.at')),aK.of n6.at',A7 _ _ _ _,λq3 H7 n7=>?_⟩;exact two gJ r2 n4 b5 n6 H7 n7
  rw[cy hl];refine aQ ?_;refine⟨_,Z,.inl ⟨_,_,Z,Z,_,Z,?_⟩⟩;by_cases h1:kd=1
  ·rw[bT h1]
   refine aU ?_;refine⟨_,Z,_,Z,_,Z,ta,xs,Z,.inl ⟨kP,λq1 H4 n4=>?_⟩⟩;refine⟨_,Z,_,Z,_,Z,_,Z,_,_,Z,Z,_,Z,ta,xs,Z,.inl ⟨kP.go n4.same,λq2 H5 n5=>?_⟩⟩;refine⟨q1,q2,_,_,Z,Z,aK.of (n5.same _ _ n4.at'),aK.of n5.at',A7 _ _ _ _,λq3 H6 n6=>?_⟩;have kB:=n4.same.trans (n5.same.trans n6.same);refine⟨_,Z,_,Z,_,Z,ta,xs,Z,.inl ⟨kP.go kB,λq4 H7 n7=>?_⟩⟩;have oG:=aM.bD gJ.aE (kB.trans n7.same);refine⟨q3,q4,_,_,Z,Z,aK.of (n7.same _ _ n6.at'),aK.of n7.at',FF _ _ _ _ _ _,λq5 H8 n8=>?_⟩;have r7:aJ K (del H7 p) xs es:=aJ.mono oG.sd _ r2;refine k _ _ H8 (nL oG.aE n8 (((r7.cut _ _).append (r7.cut _ _)).append (r7.cut _ _))) (three _ _ _ _ _ _) (Nv _ _ _ _ _ _) (gJ.trans (oG.trans (.bD oG.aE n8.same)))
  rw[cy h1];refine aQ ?_;refine⟨_,Z,.inl ⟨_,_,Z,Z,_,Z,?_⟩⟩;by_cases h2:kd=2
  ·rw[bT h2]
   refine aU ?_;refine⟨_,Z,_,Z,_,Z,_,Z,_,_,Z,Z,_,Z,ta,xs,Z,.inl ⟨kP,λq0 H3 n3=>?_⟩⟩;refine⟨_,Z,_,Z,_,Z,ta,xs,Z,.inl ⟨kP.go n3.same,λq1 H4 n4=>?_⟩⟩;refine⟨_,Z,_,Z,_,Z,Z,q0,_,Z,aK.of (n4.same _ _ n3.at'),λq2 H5 n5=>?_⟩;refine⟨q1,q2,_,_,Z,Z,aK.of (n5.same _ _ n4.at'),aK.of n5.at',(by rw[IL];exact A7 _ _ _ _),λq3 H6 n6=>?_⟩;have kC:=n3.same.trans (n4.same.trans (n5.same.trans n6.same));refine⟨_,Z,_,Z,_,_,Z,Z,_,Z,ta,xs,Z,.inl ⟨kP.go kC,λq4 H7 n7=>?_⟩⟩;have oG:=aM.bD gJ.aE (kC.trans n7.same);refine⟨q3,q4,_,_,Z,Z,aK.of (n7.same _ _ n6.at'),aK.of n7.at',(by have:=FF;rw[cB,IL,<-cB];exact FF _ _ _ _ _ _),λq5 H8 n8=>?_⟩;have r7:aJ K (del H7 p) xs es:=aJ.mono oG.sd _ r2;refine k _ _ H8 (nL oG.aE n8 (((r7.cut none _).append (r7.cut _ _).rev).append (r7.cut _ none))) (λe he=>?_) (by rw[cB,cB,IL,<-cB,<-cB];exact Nv _ _ _ _ _ _) (gJ.trans (oG.trans (.bD oG.aE n8.same)));rcases gL.mp he with he|he
   ·rcases gL.mp he with he|he
    ·exact up e ((cA _ _).2 e he)
    ·exact up e ((cA _ _).2 e (List.mem_reverse.mp he))
   ·exact up e ((cA _ _).2 e he)
  rw[cy h2];refine aQ ?_;refine⟨_,Z,.inl ⟨_,_,Z,Z,_,Z,?_⟩⟩;by_cases h3:kd=3
  ·rw[bT h3]
   refine aU ?_;refine⟨_,Z,_,Z,_,Z,ta,xs,Z,.inl ⟨kP,λq1 H4 n4=>?_⟩⟩;exact k _ _ H4 (nL gJ.aE n4 (r2.cut _ _)) (λe he=>up e ((cA _ _).2 e he)) (by have:=(cA none (some a)).1;omega) (gJ.trans (.bD gJ.aE n4.same))
  rw[cy h3];refine aQ ?_;refine⟨_,Z,_,Z,_,Z,ta,xs,Z,.inl ⟨kP,λq1 H4 n4=>?_⟩⟩;have b4:=aM.bD gJ.aE n4.same;obtain⟨e,ee⟩:∃e,es[a.toNat]? =some e:=⟨_,bG aH⟩;obtain⟨x,ex,rx⟩:=r2.get a.toNat ee;have OA:=hE e (fC ee);refine⟨_,Z,_,Z,_,Z,_,Z,.inl ⟨ta,_,a,x,Z,Z,kP.go n4.same,cQ a0 ex,?_⟩⟩;have mW:=gJ.trans b4;refine⟨p,m,x,rs,r,f,j,ti,e,n,Z,b4.aE,RD.t (aM.t bg mW) _ (wL _ _ _ _ _) rm,aW,⟨RD.mono n4.same.sd _ rx,OA.1⟩,OA.2,hn,λv e' H5 a5 s5 b5=>?_⟩;refine⟨bc Z,λq2 H6 n6=>?_⟩;have b6:=aM.bD b5.aE n6.same;refine⟨q1,q2,_,_,Z,Z,aK.of (n6.same _ _ (b5.same _ _ (nW n4 gJ.aE.ne) n4.at')),aK.of n6.at',(by have:=mT xs none (some a);rw[oP];omega),λq3 H7 n7=>?_⟩;have b7:=aM.bD b6.aE n7.same;have sO:=b5.trans (b6.trans b7);refine⟨_,Z,_,Z,_,_,Z,Z,_,Z,ta,xs,Z,.inl ⟨Ca (b4.trans sO) Gi,λq4 H8 n8=>?_⟩⟩;have b8:=aM.bD b7.aE n8.same;refine⟨q3,q4,_,_,Z,Z,aK.of (n8.same _ _ n7.at'),aK.of n8.at',(by have:=mT xs none (some a);have:=mT xs (some (a+1)) none;rw[cB,oP];omega),λq5 H9 n9=>?_⟩;have r8:aJ K (del H8 p) xs es:=aJ.mono ((b4.trans (sO.trans b8)).sd) _ r2;refine k _ _ H9 (nL b8.aE n9 (((r8.cut none (some a)).append (bV (RD.mono (b6.trans (b7.trans b8)).sd _ a5.rd) cD)).append (r8.cut (some (a+1)) none))) (λu hu=>?_) ?_ (mW.trans (sO.trans (b8.trans (.bD b8.aE n9.same))))
  ·rcases gL.mp hu with hu|hu
   ·rcases gL.mp hu with hu|hu
    ·exact up u ((cA _ _).2 u hu)
    ·rw[kS.mp hu];exact⟨a5.ok,s5⟩
   ·exact up u ((cA _ _).2 u hu)
  ·have:=(cA none (some a)).1
   have:=(cA (some (a+1)) none).1;rw[cB,cB,oP];omega
theorem U7(c:Bool):IntMulOk 6 (if c=true then 1 else 0):=.of_left (cm au au)
theorem L9:bF ["_law_script","_law_k","_law_bag_here","_law_machine_here","_law_place_here","_law_many","_law_most","_law_rate","_law_items_here","_law_tape","_law_spoilt_here","_law_turn"] ["_law_script"] (bu tZ):=bP aP
theorem X9{f:Addr}{fd:FuncData}(F:kQ K "law" "law" tZ f fd)(B:bK mg)(a1q:aB P w K mg az "_law_bag" 1 (K2 K))(cu:aB P w K mg az "_law_take" 1 jN)(a1h:aB P w K mg az "_law_machine" 2 (JW K))(a1c:aB P w K mg az "_law_sizes" 2 (JM K))(a1f:aB P w K mg az "_law_place" 2 (JU K))(a1l:aB P w K mg az "_law_items" 3 (Cu K))(Zu:aB P w K mg az "tape_of" 10 (Cd K))(a1b:aB P w K mg az "_law_spoilt" 5 (Cf K))(a1j:aB P w K mg az "_law_look" 6 (JY K))(a1i:aB P w K mg az "_law_looked" 11 (JX K)):ij P w K mg az hW 12 f fd ["_law_script"] (Ct K):=by
 refine F.ok L9 (λvs H Q E h=>?_) (λaO A outer s H vs Q E hr h=>?_)
 ·obtain⟨a,ns,rfl,_⟩:=h
  rfl
 ·obtain⟨a,ns,rfl,hS,hlen,k⟩:=h
  have nd:=L9.nd;refine⟨_,(aC (fR f7 Z (nQ Z (B.at "range") (ak (aG bZ (dv (x:="min") (Hn rfl) rfl (B.at "min") RL (ak aA (ak (dF K B (ak (pv 0) aw)) aw))) aA) aw)) (aZ 1 nd) (aC (pS 2 nd (pf a1q hr (ak (pv 0) (ak (pv 1) aw)))) (aC (pS 3 nd (pf a1h hr (ak (pv 2) aw))) (aC (pS 4 nd (pf a1f hr (ak (pv 2) (ak (pv 3) aw)))) (aC (eB (pf a1c hr (ak (pv 2) (ak (fF (cC K Z hr.units) (pv 1) aA (bo _)) aw))) (cV K Z (n:=2) Z (bN (aZ 5 nd) (bN (aZ 6 nd) cU)))) (aC (pS 7 nd (px K (cK (ak aA (ak aA (ak aA (ak (aG bZ aA (pf cu hr (ak (pv 2) (ak aA aw)))) aw))))) (pf cu hr (ak (pv 2) (ak aA aw))))) (aC (pS 8 nd (pf a1l hr (ak (pv 2) (ak (pv 3) (ak (pv 4) (ak (pv 5) (ak (pv 6) aw))))))) (aC (pS 9 nd (pf Zu hr (ak (pv 3) (ak (pv 8) (ak (aG bZ aA (pf cu hr (ak (pv 2) (ak (aG fT (pv 7) aA) aw)))) aw))))) (aC (pS 10 nd (pv 9)) (aI (fR f7 Z (nQ Z (B.at "range") (ak (aG fT aA (aG bO aA (fh (x:="int") uY rfl (B.at "int") qH (ak (fF kH (dF K B (ak (pv 9) aw)) aA (bo _)) aw)))) aw)) (aZ 11 nd) (aC (pS 10 nd (pf a1b hr (ak (pv 2) (ak (pv 3) (ak (px K (cK (ak (pv 9) (ak (pv 10) aw))) (aG nT (pv 11) aA)) aw))))) (aI (bA (bJ (iB K Z hr.units) (pf a1i hr (ak (pv 3) (ak (pv 8) (ak (pv 7) (ak (pv 10) aw))))) (pf a1j hr (ak (pv 3) (ak (pv 8) (ak (pv 7) (ak (pv 10) aw))))) (bo _)) (aI (aR gE)) bE)))))))))))))) (aI (aR gE))),?_⟩;refine⟨_,Z,a,_,Z,.inl hS,_,_,Z,_,_,Z,Z,_,Z,?_,?_,?_⟩
  ·split<;>lia
  ·split<;>(try rw[bB])<;>lia
  have hN:((if((ns.map V.int).length:Int)<2 then((ns.map V.int).length:Int)else 2)+1).toNat<=32:=by split<;>lia
  refine pZ (Pv:=λi O H2=>aD H H2/\∃v1 v2 v3 v4 v5 v6 v7 v8 v9 v10 v11,O=[some (.ref a),v1,v2,v3,v4,v5,v6,v7,v8,v9,v10,v11]) ?_ ?_ ?_
  ·exact⟨aD.refl _,none,none,none,none,none,none,none,none,none,none,none,Z⟩
  ·rintro i O H2 hi ⟨s2,v1,v2,v3,v4,v5,v6,v7,v8,v9,v10,v11,rfl⟩
   have hi8:i<32:=cY hi hN;refine⟨_,Z,_,Z,a,ns,_,Z,s2.seq hS,hlen,aq,aq,λp H3 np bg3 s3=>?_⟩;refine⟨_,Z,p,Z,bg3,λmv rs r f j ti H4 rm aW b4=>?_⟩;have nm:=wL rs r f j ti;refine⟨_,Z,_,Z,p,mv,rs,r,f,j,ti,Z,b4.aE,rm,aW,λjt pl H5 u7 on b5=>?_⟩;have El:=RD.t (aM.t b4.aE b5) _ nm rm;refine⟨_,Z,_,Z,.inl ⟨_,_,Z,Z,?_⟩⟩;refine⟨p,_,Z,b5.aE,λt many most H6 hT m1 m2 m3 m4 b6=>?_⟩;refine⟨t,_,Z,hT,Z,_,_,Z,_,_,Z,Z,?_⟩;have t6:=aM.t b5.aE b6;have UO:=RD.t t6 _ nm El;have UM:=RD.t t6 _ (ug _) u7;refine⟨_,Z,p,191,Z,b6.aE,au,au,λrt H7 r0 r1 b7=>?_⟩;refine⟨_,_,Z,Z,bc Z,λc H8 n8=>?_⟩;have b8:aM p H7 H8:=.bD b7.aE n8.same;refine⟨_,Z,p,4,Z,b8.aE,au,au,λix H9 i0 i1 b9=>?_⟩;have hm:∃rate:Int,dk [V.int 10,V.int 200,V.int 100,V.int (10+rt)] ix=some (V.int rate)/\10<=rate/\rate<=200:=by
    rcases(show ix=0\/ix=1\/ix=2\/ix=3 by lia)with rfl|rfl|rfl|rfl
    ·exact⟨10,Z,aq,aq⟩
    ·exact⟨200,Z,aq,aq⟩
    ·exact⟨100,Z,aq,aq⟩
    ·exact⟨10+rt,Z,aq,aq⟩
   obtain⟨rate,er,cf,cj⟩:=hm;refine .inl ⟨c,_,ix,_,Z,Z,aK.of (b9.same _ _ (nW n8 b7.aE.ne) n8.at'),er,?_⟩;have Bf:=b7.trans (b8.trans b9);have t9:=aM.t b6.aE Bf;have M0:=RD.t t9 _ nm UO;have UL:=RD.t t9 _ (ug _) UM;refine⟨_,Z,_,Z,_,Z,_,Z,_,Z,p,mv,rs,r,f,j,ti,jt,pl,many,most,Z,Bf.aE,M0,aW,UL,on,m1,m2,m3,m4,λiv ds os fK ri row fO hl gc=>?_⟩;obtain⟨hl,w4⟩:=hl;have UR:=RD.t (aM.t Bf.aE gc) _ nm M0;have Ab:ds.length<=30:=by lia
   have zO:dw (.tuple ds)=true:=by have:=row.no;simpa[dw]using this
   refine⟨_,Z,_,Z,_,Z,_,Z,_,_,Z,Z,p,rate-9,Z,gc.aE,aq,aq,λx gq x0 x1 gI=>?_⟩;have M3:=RD.t (aM.t gc.aE gI) _ nm UR;have M7:=RD.t (aM.t gc.aE gI) _ zO ri;refine⟨_,_,Z,Z,mv,iv,10+x,rs,r,f,j,ti,ds,os,Z,M3,aW,M7,row,Ab,aq,aq,λl ys gB Y0 uT En fN=>?_⟩;have ll:=row.len;have dE:=Jj (j:=j) aW row fO Ab (rate:=10+x) aq aq os.length (bw _);have tn:=BW (r:=r) (f:=f) (j:=j) (ti:=ti) (rate:=10+x) row os.length (bw _);have tl:=BX (r:=r) (f:=f) (j:=j) (ti:=ti) (rate:=10+x) row os.length (bw _);generalize m8 r f j ti (10+x) ds os os.length=es at En dE tn tl;have hJ:aM p gq gB:=.bD gI.aE fN;have lp:l≠p:=λe=>gI.aE.ne (e▸Y0);have Ei:RD K (del gB p) (.ref l) (.list es):=wa (aK.of (jE.mpr ⟨lp,uT⟩)) (aJ.t (λc o n e=>jE.mpr ⟨hJ.aE.Fd e n,e⟩) _ tn En);have ly:=En.length;refine⟨_,Z,?_⟩;refine⟨_,Z,l,_,Z,.inl (aK.of uT),_,_,Z,Z,.inr ⟨_,Z,?_⟩⟩;obtain⟨z,ez,z1,z2⟩:∃z:Int,(10-6*(if decide ((ys.length:Int)>100)=true then 1 else 0):Int)=z/\4<=z/\z<=10:=by
    cases decide ((ys.length:Int)>100)
    ·exact⟨10,Z,au,au⟩
    ·exact⟨4,Z,au,au⟩
   refine⟨_,_,Z,Z,U7 _,_,_,Z,Z,_,Z,aq,aq,?_⟩;rw[ez];have Hz:aM p H3 gB:=b4.trans (b5.trans (b6.trans (Bf.trans (gc.trans (gI.trans hJ)))));have Em:=RD.t (aM.t gI.aE hJ) _ nm M3;have M6:=RD.t (aM.t gI.aE hJ) _ zO M7;have YD:es.length<=3000:=by lia
   refine pZ (Pv:=λi' O H'=>aM p gB H'/\∃sv tM gY,RD K (del H' p) sv (.list gY)/\(∀e∈gY,bW 5 e/\Se 2 e)/\(i'%2=1->(∀e∈gY,bW 4 e/\Se 1 e)/\gY.length<=10000)/\gY.length<=50000/\O=[some (.ref a),some (.int (0+(i:Int))),some (.ref p),some mv,some jt,some (.int many),some (.int most),some (.int rate),some iv,some (.ref l),some sv,tM]) ?_ ?_ ?_
   ·exact⟨.refl hJ.aE,.ref l,_,es,Ei,λe he=>⟨(dE e he).1.le au,(dE e he).2.up.up⟩,(λh=>by lia),aq,Z⟩
   ·rintro i' O qD Au ⟨jG,sv,tM,gY,UK,hS2,Ov,ls,rfl⟩
    have Js:=aM.t hJ.aE jG;have a7y:=RD.t Js _ nm Em;have a7x:=jG.rd Ei;refine⟨_,Z,_,Z,_,Z,_,Z,bc Z,λL qC kY=>?_⟩;have sP:=aM.bD jG.aE kY.same;refine⟨_,Z,_,_,Z,Z,au,?_⟩;have HC:=jG.trans sP;have Jr:=aM.t hJ.aE HC;have UQ:=RD.t Jr _ nm Em;have a7z:=RD.t Jr _ zO M6;have UH:=HC.rd Ei;have UJ:=sP.rd UK;obtain⟨y,oE,n,hn,ey,ry,hy,ly',NX⟩:∃y oE n,n<=1/\dk [V.ref l,sv] ((0+(i':Int))%2)=some y/\RD K (del qC p) y (.list oE)/\(∀e∈oE,bW (3+n) e/\Se n e)/\oE.length<=10000/\((n=0/\oE.length<=3000)\/(n=1/\i'%2=1)):=by
     by_cases h:i'%2=1
     ·refine⟨sv,gY,1,au,?_,UJ,(Ov h).1,(Ov h).2,.inr ⟨Z,h⟩⟩
      rw[show(0+(i':Int))%2=1 by lia];rfl
     ·refine⟨.ref l,es,0,au,?_,UH,dE,aq,.inl ⟨Z,YD⟩⟩
      rw[show(0+(i':Int))%2=0 by lia];rfl
    refine .inl ⟨L,_,_,y,Z,Z,aK.of kY.at',ey,?_⟩;refine⟨p,mv,y,rs,r,f,j,ti,oE,n,Z,sP.aE,UQ,aW,ry,hy,hn,aq,λnv AK HZ zH AE l15 mV=>?_⟩;have Qw:=HC.trans mV;have Jq:=aM.t hJ.aE Qw;have M1:=RD.t Jq _ nm Em;have M5:=RD.t Jq _ zO M6;have hD:∀e∈AK,bW 5 e/\Se 2 e:=λe he=>by
     rcases NX with⟨rfl,_⟩|⟨rfl,_⟩
     ·exact⟨(AE e he).1.le au,(AE e he).2.up⟩
     ·exact AE e he
    have th:HM (.list AK):=SQ (λe he=>(hD e he).2.dt (hD e he).1 au) aq;have Mj:=RD.mono kh _ zH;obtain⟨res,lk⟩:=YB (j:=j) aW row fO cf cj th;refine⟨_,Z,_,Z,_,Z,_,Z,mv,iv,rate,nv,rs,r,f,j,ti,ds,os,_,res,Z,M1,aW,M5,row,Ab,cf,cj,Mj,th.1,lk,λw1 R6 zC vY=>?_⟩;refine⟨_,Z,_,Z,_,Z,_,Z,mv,iv,rate,nv,rs,r,f,j,ti,ds,os,_,res,Z,RD.mono zC _ M1,aW,RD.mono zC _ M5,row,Ab,cf,cj,RD.mono zC _ Mj,lk,λw2 H18 LQ UC=>?_⟩;have ml:=(UY res).le (show 1<=8 by decide);refine .inr ⟨_,_,RD.mono LQ _ vY,UC,i4 ml,i4 ml,_,Z,?_⟩;rw[eqv_refl _ ml.lay];have Qt:=aM.bD mV.aE (zC.trans LQ);refine aQ ⟨Qw.trans Qt,nv,_,AK,Qt.rd zH,hD,λh=>?_,aq,Z⟩;rcases NX with⟨rfl,h1⟩|⟨rfl,h1⟩
    ·exact⟨AE,by lia⟩
    ·lia
   ·rintro O H' ⟨bb,sv,tM,gY,_,_,_,_,rfl⟩
    exact⟨s2.trans ((Hz.trans bb).Um s3 np),_,_,_,_,_,_,_,_,_,_,_,Z⟩
  ·rintro O H2 ⟨s2,v1,v2,v3,v4,v5,v6,v7,v8,v9,v10,v11,rfl⟩
   exact k _
end
end Lw
set_option maxHeartbeats 1000000
namespace Lw
open PySem PySem.Spec PyProof.Rows L2
theorem mM{K:a8}{mg:bS}{h:Heap}{x:Str}{c:Addr}(X:K.In h)(G:h.Ns mainGlobals mg)(a:PySem.W.nsIn K mainGlobals x=some (some (.ref c))):GV mg x (.ref c):=⟨_,vm X G a,Z⟩
theorem a3d{K:a8}{mg:bS}{h:Heap}{x:Str}{c:Addr}{bm:List Value}{nw:String}(X:K.In h)(G:h.Ns mainGlobals mg)(a:PySem.W.nsIn K mainGlobals x=some (some (.ref c)))(q:PySem.W.excIn K c bm nw=true):Exc K mg x c bm nw:=⟨vm X G a,q⟩
theorem Jg{K:a8}{C:Addr}{f:Str}(h:PySem.W.findIn K (.ref C) f=some none):PySem.W.takerIn K C f=some none:=by unfold PySem.W.takerIn;rw[h];rfl
theorem a4T:yd K P:=by intro w mg az f fd A F;have tk:aB P w K mg az "_law_take" 1 jN:=Ww A.a2L A.B;have cd:aB P w K mg az "common_divisor" 1 zv:=Xu A.a2E A.B;have lt:aB P w K mg az "lowest_terms" 2 vP:=WY A.a2i A.B cd;have iw:aB P w K mg az "is_whole" 1 (iS K):=Xa A.a2p A.B;have ww:aB P w K mg az "is_whole_within" 2 (tT K):=Wm A.a2o A.B iw;have fn:aB P w K mg az "fraction" 3 (vO K):=Xj A.a2A A.B iw lt;have ld:aB P w K mg az "lead_of" 1 (jq K):=X7 A.a2l A.B;have ls:aB P w K mg az "is_less" 1 (kz K):=X5 A.a2w A.B;have cp:aB P w K mg az "corner_square" 6 (CB K):=Xr A.a2D A.B (Wo A.a2z A.B (Wn A.a23 A.B ld fn) (WU A.a2g A.B lt) ls) fn;have Z5:aB P w K mg az "is_rate" 3 (Ci K):=Xc A.a2t A.B A.a1I A.a1K ww;have tp:aB P w K mg az "top_square" 4 (tV K):=Wr A.a24 A.B Z5 fn;have uy:aB P w K mg az "is_line" 1 (p5 K):=Xd A.a2v A.B;have lst:aB P w K mg az "least" 2 (me K):=X6 A.a2k A.B ls;have bet:aB P w K mg az "bound_between" 7 (CD K):=Xw A.a2H A.B A.AG uy tp cp lst;have own:aB P w K mg az "own_bounds" 8 (zq K):=WO A.a2e A.B A.AG bet;have pw:aB P w K mg az "plus_whole" 4 (tW K):=WJ A.a2b A.B;have pl:aB P w K mg az "plan_of" 9 (Cj K):=WM A.a2d A.B own (WI A.a2m A.B uy ld pw lst) (Xm A.a2n A.B uy ld pw lst);have mid:aB P w K mg az "middles" 5 (Cp K):=WW A.a2h A.B tp ld pw lst;have nr:aB P w K mg az "nearest" 1 Co:=WT A.a2f A.B;have TY:aB P w K mg az "stand_at" 2 (Ce K):=WB A.a29 A.B ld nr;have sr:aB P w K mg az "step_rows" 3 (zp K):=WH A.a27 A.B ld TY;have ent:aB P w K mg az "step_entry" 3 (Cz K):=Xn A.a28 A.B (Wu A.a25 A.B (MK A.OU A.B));have SV:aB P w K mg az "tape_of" 10 (Cd K):=Wv A.a26 A.B pl uy mid sr ent;have ln:aB P w K mg az "_law_line" 2 (Cr K):=X1 A.a30 A.B tk;have its:aB P w K mg az "_law_items" 3 (Cu K):=Xb A.a33 A.B tk (WQ A.a2V A.B tk) ln;have Z0:aB P w K mg az "is_item" 4 (Cv K):=Xg A.a2x A.B A.a1J ww (XA A.a2I A.B A.a1E ww) (Xe A.a2s A.B A.a1F A.a1C ww (Xf A.a2u A.B A.a1G A.a1H));obtain⟨CN,fI,cG,c0,c1,c2,c3,c4,c5,c6,c7,c8,c9,EA⟩:=A.ex;have led:aB P w K mg az "_law_lead" 1 (jq K):=X8 A.a32 A.B;have Yq:aB P w K mg az "_law_rows" 3 (Cg K):=WG A.a2R A.B led (WA A.a2N A.B led);have uw:aB P w K mg az "_law_frac" 1 (p7 K):=Xi A.a34 A.B;have FC:aB P w K mg az "_law_less" 1 (kz K):=X4 A.a31 A.B;have Np:aB P w K mg az "_law_min" 2 (me K):=WV A.a2W A.B FC;have Yp:aB P w K mg az "_law_sum" 2 (qR (·+·) K):=Wz A.a2M A.B uw;have Fv:aB P w K mg az "_law_top" 2 (vN K):=Wq A.a2J A.B uw;have rF:aB P w K mg az "_law_number" 1 (iS K):=X0 A.OV A.B;have alk:aB P w K mg az "_law_alike" 4 (vQ Y3 K):=F2 au A.AJ A.B rF (F2 au A.AJ A.B rF (F2 au A.AJ A.B rF (Xz A.AJ A.B)));have Nf:aB P w K mg az "_law_ticks" 1 (zo K):=Wt A.a2K A.B;have YI:aB P w K mg az "_law_bounds" 3 (CC K):=Xv A.a38 A.B led Np Fv uw;have Zd:aB P w K mg az "is_fraction" 2 (Cw K):=Xh A.a2y A.B iw cd;have aen:aB P w K mg az "are_enough" 1 (zu K):=MK A.OU A.B;have fex:aB P w K mg az "fault_of_entry" 5 (Cy K):=Xl A.a2B A.B A.OF A.a1B A.a1L Z0 (Wy A.a2r A.B iw) (Ws A.a2q A.B A.AG iw Zd ls aen) ls;have Yy:yo P w K mg az "look" 10 (Cq K CN):=WZ A.a2j A.B EA.oc A.OF A.a1D (Xq A.a2C A.B uy tp sr) (Xx A.a2G A.B own uy tp ld) fex (WD A.a2a A.B) (Xt A.a2F A.B A.AG pw ls);have wN:=X3 A.a2Y A.B EA Yy (WS A.OV A.B);have efx:aB P w K mg az "_law_entry_fault" 5 (CA K):=Xo A.a36 A.B alk rF (MJ A.OW A.B rF uw) Nf FC Fv;have YA:=X2 A.a2Z A.B (Xp A.a37 A.B Yq) YI efx Fv (Xk A.a35 A.B Yp FC Np);have Zc:aB P w K mg az "_law_is_fraction" 2 (zt K):=MJ A.OW A.B rF uw;have Vr:aB P w K mg az "_law_plain_step" 3 (Ck K):=WK A.a2S A.B rF Zc;have W2:aB P w K mg az "_law_other_square" 2 (Cm K):=WR A.a2U A.B tk uw;have U4:aB P w K mg az "_law_spoilt" 5 (Cf K):=WC A.a2P A.B tk (WE A.a2O A.B tk Vr W2 Nf);exact X9 F A.B (Xy A.a39 A.B) tk (WX A.a2X A.B tk) (Wx A.a2Q A.B tk) (WN A.a2T A.B tk) its SV U4 YA wN
theorem a4U{P:ag}{w:World}{K:a8}{mg:bS}{az:Heap}{f:Addr}{fd:FuncData}(A:All K mg)(F:kQ K "law" "law" tZ f fd):ij P w K mg az hW 12 f fd ["_law_script"] (Ct K):=SR a4T K P w mg az f fd A F
end Lw
def PySem.W.Fast.tw5582922931171775926:PySem.Program:=PySem.Challenge.pw_glidequeue_k49_tapes_spoilt
theorem PySem.W.Fast.te5582922931171775926:PySem.Challenge.pw_glidequeue_k49_tapes_spoilt=PySem.W.Fast.tw5582922931171775926:=rfl
local macro_rules|`(command|universe $x:ident)=>return Lean.mkNullNode (<-((x.getId.toString.splitOn "_").drop 1).toArray.mapM fun i=>`(command|theorem $(Lean.mkIdent (`_root_.PySem.W.Fast++Lean.Name.mkSimple s!"tw{(`PySem.Challenge.cw_glidequeue_k49_tapes_spoilt_holds++Lean.Name.mkSimple ((match i.front with|'h'=>"heap"|'t'=>"tree"|'v'=>"view"|'s'=>"sts"|'e'=>"env"|_=>"o")++"_"++(i.drop 1).toString)).hash}")):ident:True:=True.intro))
universe t_h731_h39_t730_t662_v39_t498_t430_t363_t285_s663_o663_s586_o586_t219_s431_t234_t204_o499_s499_t182_s364_o431_t585_s286_t160_o364_t145_o716_t130_o714_o697_o730_o695_o645_o286_o643_o728_o486_o690_o688_o484_t108_s235_o479_o599_o477_o597_o609_o607_o453_o676_o531_o451_o529_o674_o235_o657_o416_t93_o655_o633_o342_o631_o626_o602_o604_o446_o683_o340_o205_o507_o387_o444_o498_o681_o491_o704_o723_o385_o616_o496_o702_o439_o721_o505_o489_o399_o379_o437_o585_o377_o220_o397_o662_o423_o583_o660_o421_t78_o628_o183_o709_o512_o414_o538_o161_o536_o669_o510_o707_o667_o146_o519_o131_o411_o271_o337_o409_o517_o406_o315_o652_o109_o269_o356_o335_o460_o404_o650_o458_o94_o354_o294_o332_o430_o278_o79_o330_o363_o592_o428_o276_o292_o545_o64_o467_o559_o301_o543_o361_t63_o590_o449_o49_o686_o322_o557_o465_o299_o482_o320_o726_o621_o325_o327_o474_s183_o256_o712_o472_o619_o285_o308_o580_o595_o552_o263_o177_o679_o349_s161_o578_o283_o313_o372_o261_o306_o693_o614_o254_o347_o550_o566_o175_o640_o133_o564_o370_o375
open PySem PySem.W PyProof.Rows
set_option maxRecDepth 100000 in
set_option maxHeartbeats 0 in
theorem PySem.Challenge.cw_glidequeue_k49_tapes_spoilt_holds : PySem.Challenge.rw_glidequeue_k49_tapes_spoilt.Holds := by
 w_on; o_law; k_head; (case hw=>w_witness2)
 k_fill
 refine L2.YJ (l:=PySem.Challenge.rw_glidequeue_k49_tapes_spoilt) (k:=12) (x:="_law_script") (st:=Lw.tZ) rfl rfl ⟨rfl,by decide,by decide⟩ (fun w h Y=>PySem.W.kIn_of Y) Lw.All ?F (fun _ _ A=>A.law) (fun _ _ _ _ _ _ _=>rfl) (fun _ _ _ _ _ _ _ A F=>Lw.a4U A F)
 case F=>
  intro w mg h KX G
  refine⟨L2.a4u KX G ?b,?x1,?x2,?x3,?x4,?x5,?x6,?x7,?x8,?x9,?x10,?x11,?x12,?x13,?x14,?x15,?x16,?x17,?x19,?x20,?x21,?x22,?x23,?x24,?x25,?x26,?x27,?x28,?x29,?x30,?x31,?x32,?x33,?x34,?x35,?x36,?x37,?x38,?x39,?x40,?x41,?x42,?x43,?x44,?x45,?x46,?x47,?x48,?x49,?x50,?x51,?x52,?x53,?x54,?x55,?x56,?x57,?x58,?x59,?x60,?x61,?x62,?x63,?x64,?x65,?x66,?x67,?x68,?x69,?x70,?x71,?x72,?x73,?x74,?x75,?x76,?x77,?x78,?x79,?x80,?x81,?x82,?x83,?x84,?x85,?x86,?x87,?x88⟩
  case b=>(unfold L2.Bb; repeat (refine L2.qy.cons ?z ?_; (case z=>k_is))); exact L2.qy.nil
  case x1=>refine' L2.OB KX G ?a ?l ?z ?r; (case a=>k_is); (case l=>k_is); (case z=>decide); (case r=>exact .cons ⟨_,rfl⟩ (.cons ⟨_,rfl⟩ .nil))
  case x2=>refine' L2.OB KX G ?a ?l ?z ?r; (case a=>k_is); (case l=>k_is); (case z=>decide); (case r=>exact .cons ⟨_,rfl⟩ (.cons ⟨_,rfl⟩ .nil))
  case x3=>(refine' L2.mO KX G ?z; (case z=>k_is))
  case x4=>(refine' L2.mO KX G ?z; (case z=>k_is))
  case x5=>(refine' L2.mO KX G ?z; (case z=>k_is))
  case x6=>(refine' L2.mO KX G ?z; (case z=>k_is))
  case x7=>(refine' L2.mO KX G ?z; (case z=>k_is))
  case x8=>(refine' L2.mO KX G ?z; (case z=>k_is))
  case x9=>(refine' L2.mO KX G ?z; (case z=>k_is))
  case x10=>(refine' L2.mO KX G ?z; (case z=>k_is))
  case x11=>(refine' L2.mO KX G ?z; (case z=>k_is))
  case x12=>(refine' L2.mO KX G ?z; (case z=>k_is))
  case x13=>(refine' L2.a1w KX G ?z; (case z=>k_is))
  case x88=>
   refine' ⟨_,_,_,_,_,_,_,_,_,_,_,_,_,⟨L2.a47 KX G ?a1 ?q1,?i1,⟨?x1,?x2,Lw.Jg ?x3,?x4⟩,⟨?y1,?y2,Lw.Jg ?y3,?y4⟩,?f,_,L2.OH ?l ?c ?kk⟩,Lw.a3d KX G ?a2 ?q2,?t,⟨?k1,?k2,?k3,?k4,?k5,?k6,?k7,?k8⟩,Lw.mM KX G ?h0,Lw.mM KX G ?h1,Lw.mM KX G ?h2,Lw.mM KX G ?h3,Lw.mM KX G ?h4,Lw.mM KX G ?h5,Lw.mM KX G ?h6,Lw.mM KX G ?h7,Lw.mM KX G ?h8,Lw.mM KX G ?h9,?any,?own,?ve,PySem.W.mg_none_of KX G ?v,?fat,?fwhy⟩
   case a1=>k_is
   case a2=>k_is
   case i1=>k_is
   case h0=>k_is
   case h1=>k_is
   case h2=>k_is
   case h3=>k_is
   case h4=>k_is
   case h5=>k_is
   case h6=>k_is
   case h7=>k_is
   case h8=>k_is
   case h9=>k_is
   case x1=>k_is
   case x3=>k_is
   case x4=>k_is
   case y1=>k_is
   case y3=>k_is
   case y4=>k_is
   case l=>k_is
   case c=>k_is
   case kk=>k_is
   case k1=>k_is
   case k2=>k_is
   case k3=>k_is
   case k4=>k_is
   case k5=>k_is
   case k6=>k_is
   case k7=>k_is
   case k8=>k_is
   case v=>k_is
   case fat=>k_is
   case fwhy=>k_is
   case q1=>kernel_rfl
   case x2=>kernel_rfl
   case y2=>kernel_rfl
   case f=>kernel_rfl
   case q2=>k_exc
   case t=>(show PySem.W.mroIn _ _ _=_; k_is)
   case any=>kit_is
   case own=>kit_is
   case ve=>kit_is
  all_goals (refine' L2.a20 KX G ?a ?l ?c ?k; (case a=>k_is); (case l=>k_is); (case c=>k_is); (case k=>k_is))
#print axioms PySem.Challenge.cw_glidequeue_k49_tapes_spoilt_holds
