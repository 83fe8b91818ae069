import PyProof.Rows.All
import Wide.All
import OpenK.AllK
import Wide.FinOn
import Lean
import PyProof.EqAt
import PyProof.EqKinds
import PyProof.TupleCall
import PySem.Challenge.RW_glidequeue_k50_any_thing_as_a_tape
set_option Elab.async false
set_option linter.all false
set_option maxRecDepth 100000
abbrev bI:=PySem.Str->Option PySem.Value
theorem au{p:Prop}(h:p:=by decide):p:=h
theorem aJ{p:Prop}(h:p:=by decide+kernel):p:=h
theorem ak {p:Prop} (h:p:=by lia):p:=h
theorem aI{p:Prop}(h:p:=by omega):p:=h
theorem Z {α : Sort _} {a : α}:a=a:=rfl
abbrev a7:=PySem.W.Frag
abbrev a8:=PySem.Shared
abbrev a9:=PySem.Program
abbrev af:=PySem.PyData
abbrev ag:=PySem.Around
abbrev az:=@PySem.wpAny_bind
abbrev aO:=@if_neg
abbrev aR:=@if_pos
abbrev ba:=@Nat.le_refl
abbrev bc:=@PySem.wpAny_pure
abbrev bu:=@List.length_map
abbrev bw:=@List.getElem?_eq_getElem
abbrev bN:=@List.getElem?_map
abbrev bS:=@PySem.Heap.lt_size
abbrev bV:=@PySem.Heap.get?_push_of_some
abbrev cj:=@decide_eq_true
abbrev ck:=@PySem.intBits_le_64
abbrev cy:=@List.getElem?_eq_some_iff
abbrev cB:=@List.size_toArray
abbrev cD:=@List.length_append
abbrev cY:=@decide_eq_false
abbrev dj:=@List.mem_cons
abbrev dv:=@Option.some.inj
abbrev dw:=@Nat.ne_of_lt
abbrev dR:=@PySem.wpAny_mono
abbrev dS:=@Nat.zero_le
abbrev dU:=@PySem.Heap.get?_push_size
abbrev eB:=@beq_iff_eq
abbrev eE:=@PySem.PassesOwn.never
abbrev eF:=@Bool.and_eq_true
abbrev eZ:=@Int.pow_succ
abbrev fe:=@Nat.le_trans
abbrev fq:=@List.not_mem_nil
abbrev fu:=@List.mem_map
abbrev fH:=@Nat.lt_of_lt_of_le
abbrev fJ:=@List.all_eq_true
abbrev fN:=@PyProof.Rows.boot_tuple
abbrev fO:=@List.mem_of_getElem?
abbrev fP:=@List.mem_append_right
abbrev fQ:=@Bool.false_ne_true
abbrev fZ:=@PySem.wpAny_field
abbrev g9:=@Int.natAbs_mul
abbrev gb:=@Int.mul_pos
abbrev gF:=@List.length_range
abbrev gG:=@PySem.IntMulOk.of_bits
abbrev gU:=@PySem.wpAny_holding
abbrev gW:=@of_decide_eq_true
abbrev i8:=@List.map_append
abbrev iD:=@Ne.symm
abbrev iE:=@List.lookup_cons
abbrev iG:=@Bool.false_and
abbrev j7:=@List.getElem?_eq_none
abbrev j8:=@Bool.true_and
abbrev jC:=@List.mem_append
abbrev jD:=@Int.one_mul
abbrev jE:=@Int.le_refl
abbrev jV:=@List.getElem?_range
abbrev jW:=@Int.pow_zero
abbrev kR:=@PySem.wpAny_standAt
abbrev kS:=@or_false
abbrev kT:=@if_true
abbrev kU:=@PySem.W.Looks.here
abbrev kW:=@List.length_take
abbrev mx:=@PySem.wpAny_newObj_type
abbrev my:=@Nat.mul_le_mul
abbrev mz:=@List.mem_singleton
abbrev mB:=@List.length_cons
abbrev mC:=@Int.mul_nonneg
abbrev nL:=@PySem.wpAny_truthy_bool
abbrev nM:=@PySem.wpAny_seqItems
abbrev nN:=@PyProof.Rows.boot_list
abbrev nO:=@PyProof.Rows.boot_abs
abbrev nP:=@Nat.lt_of_le_of_lt
abbrev nQ:=@List.getElem?_append_right
abbrev nR:=@Int.emod_nonneg
abbrev nS:=@Bool.eq_false_iff
abbrev pR:=@Rat.le_trans
abbrev pT:=@Rat.le_refl
abbrev pU:=@List.replicate_succ
abbrev pV:=@List.getElem?_append_left
abbrev pW:=@PySem.Heap.size_push
abbrev pX:=@Bool.eq_iff_iff
abbrev rT:=@PySem.wpAny_of_eq
abbrev rV:=@PySem.wpAny_loadPart_at
abbrev rW:=@PySem.wpAny_call
abbrev rX:=@PyProof.Rows.boot_int
abbrev rY:=@List.take_succ
abbrev rZ:=@List.take_of_length_le
abbrev sf:=@List.length_set
abbrev si:=@List.length_drop
abbrev sj:=@List.append_nil
abbrev sk:=@Int.emod_lt_of_pos
abbrev uo:=@PySem.wpAny_rule
abbrev uq:=@PySem.wpAny_passesOwn
abbrev ur:=@PySem.codeAny_mono
abbrev uv:=@PySem.W.mg_of
abbrev uw:=@Nat.pow_le_pow_right
abbrev ux:=@Nat.lt_irrefl
abbrev uy:=@List.of_mem_zip
abbrev uz:=@List.mem_filterMap
abbrev uA:=@List.map_set
abbrev uB:=@List.getElem_range
abbrev uC:=@List.getElem_mem
abbrev uD:=@List.getD_eq_getElem?_getD
abbrev uE:=@List.ext_getElem?
abbrev uF:=@List.any_eq_true
abbrev uG:=@Int.mul_assoc
abbrev xp:=@PySem.wpAny_setField_rec
abbrev xq:=@PySem.wpAny_call_entry
abbrev xu:=@PySem.wpAny_callSpecial?_slot
abbrev xx:=@Rat.num_divInt_den
abbrev xy:=@PySem.F.excBase_ValueError
abbrev xA:=@PyProof.Rows.callWith_type1
abbrev xB:=@Option.map_eq_some_iff
abbrev xC:=@Nat.ne_of_gt
abbrev xD:=@Nat.lt_succ_of_lt
abbrev xE:=@List.mem_of_mem_take
abbrev xF:=@List.getElem?_set_self
abbrev xG:=@Int.zero_mul
abbrev xH:=@Int.zero_add
abbrev xI:=@PySem.Heap.get?_update_other
abbrev xJ:=@Array.length_toList
abbrev Al:=@PySem.wpAny_setField
abbrev Am:=@PySem.wpAny_pyIter_list
abbrev An:=@PySem.wpAny_onRaise
abbrev Ao:=@PySem.wpAny_execs_nil
abbrev Ap:=@PySem.wpAny_attempt
abbrev Aq:=@PySem.wpAny_Call_Name_kw
abbrev As:=@PySem.W.looks_findIn
abbrev Au:=@PySem.codeAny_call_builtin
abbrev Av:=@beq_self_eq_true
abbrev Aw:=@beq_eq_false_iff_ne
abbrev Ax:=@Rat.not_lt
abbrev Ay:=@Rat.le_of_lt
abbrev Az:=@Rat.divInt_nonneg_iff_of_pos_right
abbrev AA:=@PySem.mem_of_lookup
abbrev AB:=@PyProof.Rows.boot_all
abbrev AD:=@PySem.Obj.data_mapFields
abbrev AE:=@Nat.sub_self
abbrev AF:=@Nat.not_lt_zero
abbrev AG:=@List.take_length
abbrev AH:=@List.mem_iff_getElem?
abbrev AI:=@List.mem_cons_of_mem
abbrev AJ:=@List.length_pos_iff
abbrev AK:=@List.flatten_cons
abbrev AL:=@List.any_cons
abbrev AM:=@List.all_cons
abbrev AN:=@Int.natAbs_natCast
abbrev AO:=@Int.le_of_lt
abbrev AQ:=@PySem.Heap.get?_update_self
abbrev AR:=@Bool.and_false
abbrev Ga:=@PySem.wpAny_isSubtype_exc
abbrev Gb:=@PySem.wpAny_execs_cons
abbrev Ge:=@decide_eq_true_iff
abbrev Gf:=@decide_eq_true_eq
abbrev Gg:=@PySem.W.looks_clsIn
abbrev Gh:=@PySem.W.hideAll_get
abbrev Gi:=@PySem.W.cellsFrom_some
abbrev Gj:=@PySem.W.any_some
abbrev Gk:=@PySem.F.slot_zip_next
abbrev Gm:=@PySem.F.slot_tuple_iterator_next
abbrev Gn:=@PySem.F.excAttr_ValueError
abbrev Gp:=@PyProof.Rows.boot_max
abbrev Gq:=@PyProof.Rows.boot_isinstance
abbrev Gr:=@Nat.lt_succ_iff_lt_or_eq
abbrev Gs:=@Nat.lt_or_ge
abbrev Gu:=@Nat.le_of_lt
abbrev Gv:=@List.set_set
abbrev Gw:=@List.range_succ
abbrev Gx:=@List.nodup_cons
abbrev Gy:=@List.mem_range
abbrev Gz:=@List.mem_cons_self
abbrev GA:=@List.map_cons
abbrev GB:=@List.getElem?_set_ne
abbrev GC:=@List.forIn_cons
abbrev GD:=@Int.toNat_natCast
abbrev GF:=@Int.mul_ne_zero
abbrev GG:=@Array.getElem?_eq_some_iff
abbrev OK:=@PySem.wpAny_updateSeq_pair
abbrev OL:=@PySem.wpAny_pyIter_rangeiter
abbrev OM:=@PySem.wpAny_newFunctionEnv_cells
abbrev ON:=@PySem.wpAny_newFunctionEnv
abbrev OO:=@PySem.wpAny_comprehension_free
abbrev OP:=@PySem.codeAny_compStart_list
abbrev OQ:=@PySem.codeAny_call_function
abbrev OS:=@Rat.divInt_sub_divInt
abbrev OT:=@PySem.W.codeRec_of
abbrev OU:=@PySem.W.callWith_K
abbrev OV:=@PySem.W.KFB.if_not
abbrev OW:=@PySem.Str.cps_append
abbrev OX:=@PySem.F.slot_tuple_add
abbrev OY:=@PySem.F.entry_tuple_add
abbrev OZ:=@PySem.F.args_tuple_add_2
abbrev P2:=@PyProof.Rows.slot_tuple_getitem
abbrev P4:=@PyProof.Rows.boot_str
abbrev P5:=@PyProof.Rows.boot_min
abbrev P6:=@PyProof.Rows.boot_bool
abbrev P7:=@PyProof.Rows.boot_any
abbrev P8:=@Option.getD_none
abbrev P9:=@Option.bind_eq_some_iff
abbrev Pa:=@PySem.Obj.isFreed_of_fields
abbrev Pb:=@Nat.le_add_right
abbrev Pc:=@List.mem_iff_getElem
abbrev Pe:=@List.mem_append_left
abbrev Pf:=@List.length_eq_zero_iff
abbrev Pg:=@List.getLast?_eq_getElem?
abbrev Ph:=@List.foldl_append
abbrev Pj:=@List.filterMap_cons
abbrev Pk:=@List.contains_cons
abbrev Pl:=@Int.toNat_of_nonneg
abbrev Po:=@Int.mul_nonneg_of_nonpos_of_nonpos
abbrev Pp:=@Int.mul_le_mul_of_nonneg_left
abbrev Pq:=@Int.lt_trichotomy
abbrev Pr:=@Int.fdiv_eq_ediv_of_nonneg
abbrev Pt:=@PySem.Heap.get?_push_cases
abbrev Pu:=@PySem.F.slot_range_reversed
abbrev Pw:=@Bool.not_eq_true'
abbrev Px:=@Array.toList_append
abbrev a55:=@PySem.F.entry_tuple_iterator_next
abbrev a56:=@PySem.F.args_tuple_iterator_next_1
abbrev a57:=@Int.mul_le_mul_of_nonneg_right
abbrev a58:=@Array.all_eq_true_iff_forall_mem
namespace L2
open PySem PySem.Spec PyProof.Rows
abbrev Key:=Sum Int Str
def LD:Key->Value->Bool | .inl k,v=>Value.isInt k v | .inr x,v=>Value.isStrOf x v
def WC(w:World):Key->Int | .inl k=>hashInt k | .inr x=>hashStr w x
theorem mY:∀{k:Key}{v:Value},LD k v=true->(∃i t,k=Sum.inl i/\v=Value.int i t)\/(∃x t,k=Sum.inr x/\v=Value.str x t) | .inl i,v,h=>by obtain⟨t,e⟩:=Value.isInt_shape (k:=i) (v:=v) h;exact .inl ⟨i,t,Z,e⟩ | .inr x,v,h=>by obtain⟨t,e⟩:=Value.isStrOf_shape (x:=x) (v:=v) h;exact .inr ⟨x,t,Z,e⟩
theorem WB(a b:Int):decide ((Sum.inl a:Key)=Sum.inl b)=(a==b):=by
 by_cases e:a=b
 ·subst e;simp
 ·have h:¬(Sum.inl a:Key)=Sum.inl b:=λq=>e (Sum.inl.inj q)
  rw[cY h];exact(Aw.mpr e).symm
theorem Wy(a b:Str):decide ((Sum.inr a:Key)=Sum.inr b)=decide (a=b):=by
 by_cases e:a=b
 ·subst e;simp
 ·have h:¬(Sum.inr a:Key)=Sum.inr b:=λq=>e (Sum.inr.inj q)
  rw[cY h,cY e]
theorem WA(a:Int)(b:Str):decide ((Sum.inl a:Key)=Sum.inr b)=false:=cY (λq=>nomatch q)
theorem Wz(a:Str)(b:Int):decide ((Sum.inr a:Key)=Sum.inl b)=false:=cY (λq=>nomatch q)
def DT(prog:a9)(w:World):PySem.KeyKind prog w Key where
 is:=LD
 hash:=WC w
 inj:=λv a b ha hb=>by
  rcases mY ha with⟨i,t,rfl,rfl⟩|⟨x,t,rfl,rfl⟩
  ·rcases mY hb with⟨j,u,rfl,e⟩|⟨y,u,rfl,e⟩
   ·injection e with e1 _;rw[e1]
   ·exact nomatch e
  ·rcases mY hb with⟨j,u,rfl,e⟩|⟨y,u,rfl,e⟩
   ·exact nomatch e
   ·injection e with e1 _;rw[e1]
 byValue:=λk v h=>by rcases mY h with⟨i,t,rfl,rfl⟩|⟨x,t,rfl,rfl⟩<;>rfl
 pyHash:=λhv h=>by
  rcases mY hv with⟨i,t,rfl,rfl⟩|⟨x,t,rfl,rfl⟩
  ·exact wpAny_pyHash_int h
  ·exact wpAny_pyHash_str h
 eqBool:=λhu hv h=>by
  rcases mY hu with⟨i,t,rfl,rfl⟩|⟨x,t,rfl,rfl⟩
  ·rcases mY hv with⟨j,u,rfl,rfl⟩|⟨y,u,rfl,rfl⟩
   ·rw[WB]at h;exact wpAny_eqBool_int h
   ·rw[WA]at h;exact SeqAt.EqAt.int_str i t y u _ _ _ _ h
  ·rcases mY hv with⟨j,u,rfl,rfl⟩|⟨y,u,rfl,rfl⟩
   ·rw[Wz]at h;exact SeqAt.EqAt.str_int x t j u _ _ _ _ h
   ·rw[Wy]at h;exact wpAny_eqBool_str h
 «strs»:=λk x t v h=>by
  rcases mY h with⟨i,u,rfl,e⟩|⟨y,u,rfl,e⟩
  ·exact nomatch e
  ·injection e with e1 _
   subst e1;cases v<;>rfl
inductive V where |bM|bl (b:Bool)|int (i:Int)|str (x:Str)|wR (b:Array UInt8)|EZ (b:UInt64)|ref (a:Addr)|ty (n:String) deriving DecidableEq
def RelV:V->Value->Prop | .bM,u=>u=Value.none | .bl b,u=>u=Value.bool b | .int i,u=>∃t,u=Value.int i t | .str x,u=>∃t,u=Value.str x t | .wR b,u=>∃t,u=Value.bytes b t | .EZ b,u=>∃t,u=Value.float b t | .ref a,u=>u=Value.ref a | .ty n,u=>u=Value.type n
abbrev Vals:List V->List Value->Prop:=Paired RelV
theorem Vals.length{xs:List V}{us:List Value}(r:Vals xs us):xs.length=us.length:=Paired.length r
theorem Vals.get:∀{xs:List V}{us:List Value}{i:Nat}{x:V},Vals xs us->xs[i]? =some x->∃u,us[i]? =some u/\RelV x u |_,_,_,_,.nil,e=>by simp at e |_,_,0,_,.cons r _,e=>by simp at e;subst e;exact⟨_,rfl,r⟩ |_,_,i+1,x,.cons _ t,e=>by obtain⟨u,h1,h2⟩:=Vals.get (i:=i) (x:=x) t (by simpa using e);exact⟨u,by simpa using h1,h2⟩
theorem Vals.set{x:V}{u:Value}(r:RelV x u):∀{xs:List V}{us:List Value}(i:Nat),Vals xs us->Vals (xs.set i x) (us.set i u) |_,_,_,.nil=>.nil |_,_,0,.cons _ t=>.cons r t |_,_,i+1,.cons q t=>.cons q (Vals.set r i t)
theorem Vals.append:∀{xs ys:List V}{us ws:List Value},Vals xs us->Vals ys ws->Vals (xs++ys) (us++ws) |_,_,_,_,.nil,s=>s |_,_,_,_,.cons r t,s=>.cons r (Vals.append t s)
theorem Vals.take:∀{xs:List V}{us:List Value}(n:Nat),Vals xs us->Vals (xs.take n) (us.take n) |_,_,0,_=>.nil |_,_,_+1,.nil=>.nil |_,_,n+1,.cons r t=>.cons r (Vals.take n t)
theorem Vals.drop:∀{xs:List V}{us:List Value}(n:Nat),Vals xs us->Vals (xs.drop n) (us.drop n) |_,_,0,r=>r |_,_,_+1,.nil=>.nil |_,_,n+1,.cons _ t=>Vals.drop n t
def Oo:Option V->Option Value->Prop |some v,some u=>RelV v u |none,none=>True |_,_=>False
def KV{κ:Type}:List (κ×V)->List (κ×Value)->Prop:=Paired λ(p:κ×V)(q:κ×Value)=>p.1=q.1/\RelV p.2 q.2
def kV:Key->V | .inl i=>.int i | .inr x=>.str x
inductive HO where /--a list -/ |lst (xs:List V) /--a tuple (never changes) -/ |tup (xs:List V) /--a dict PK keys are ints and texts; one PK keys are tuples of ints and texts (sG empty one is both) -/ |dK (dh:List (Key×V))|dT (dh:List (List Key×V)) /--a set of ints: its members,its size -/ |set (S:Int->Bool)(n:Nat) /--an instance of sG class at C,its dict at dx,its attributes -/ |ins (C dx:Addr)(fs:List (Str×V)) /--sG dict of sG instance at x -/ |own (x:Addr) /--sG dict of an exception -/ |xd (fs:List (Str×V)) /--a bound method,f of x -/ |met (f x:Addr) /--a range object lo,lo+1,.. below hi -/ |qj (lo hi:Int) /--a Qh a5e is known to sG object (sG a5g; a dict while a loop walks it): read,never written while it is so -/ |kE (o:Obj)(u:HO) /--a code a5m table -/ |nU (ps:Array Value) /--any other Qh,by what is true of its one object (a def of a5k own: a69 a S n:=HO.ext λh=>..) -/ |ext (φ:Heap->Prop)
abbrev Hp:=Addr->Option HO
def upd(H:Hp)(a:Addr)(o:HO):Hp:=λb=>if b=a then some o else H b
theorem bX{H:Hp}{a:Addr}{o:HO}:upd H a o a=some o:=by unfold upd;rw[aR rfl]
theorem bf{H:Hp}{a b:Addr}{o:HO}(h:b≠a):upd H a o b=H b:=by unfold upd;rw[aO h]
theorem KQ{H:Hp}{a b:Addr}{o u:HO}(h:H a=some o)(h':H b=some u)(d:o≠u):a≠b:=by intro e;subst e;rw[h]at h';exact d (dv h')
theorem cC{H:Hp}{a b:Addr}{o:HO}(h:H a=some o)(h':H b=none):a≠b:=by intro e;subst e;rw[h]at h';cases h'
section
variable (P:a9) (w:World)
def eO(H:Hp)(h:Heap)(a:Addr):HO->Prop | .lst xs=>xs.length<=sizeLine/\∃(its:List Value)(n:Nat),Vals xs its/\h.get? a=some {cls:=.type "list",data:=.seq its.toArray n} | .tup xs=>xs.length<=sizeLine/\∃its:List Value,Vals xs its/\IsTup h a its.toArray | .dK dh=>dh.length<=sizeLine/\(a==sysModules)=false/\∃vs,KV dh vs/\h.DictOf (DT P w) a vs | .dT dh=>dh.length<=sizeLine/\(a==sysModules)=false/\∃xs:List (List Key×Addr×Value),Paired (λ(p:List Key×V)(q:List Key×Addr×Value)=>p.1=q.1/\H q.2.1=some (.tup (p.1.map kV))/\RelV p.2 q.2.2) dh xs/\∃o es ep,h.get? a=some o/\o.ExactDict/\o.data= .dict es ep/\es.toList=xs.map (entryOfKey (tupleKind (DT P w)))/\(xs.map (·.1)).Nodup | .set S n=>h.SetOf (intKind P w) a S n | .ins C dx fs=>H dx=some (.own a)/\fs.length<=1000/\dx≠a/\h.get? a=some (PySem.W.instObj C dx)/\∃mA,h.Ns1 dx mA/\(∀f,Oo (fs.lookup f) (mA f))/\PySem.Within mA (fs.map (·.1)) | .own _=>∃o,h.get? a=some o | .xd fs=>∃mA,h.Ns1 a mA/\∀f,Oo (fs.lookup f) (mA f) | .qj lo hi=>∃t u v,h.get? a=some {cls:=.type "range",data:=.fields #[.int lo t,.int hi u,.int 1 v]} | .kE o u=>h.get? a=some o/\eO H h a u | .nU ps=>h.get? a=some {cls:=.none,data:=.fields ps} | .met f x=>h.get? a=some (PySem.W.methodObj (.ref f) (.ref x)) | .ext φ=>φ h/\(∃o,h.get? a=some o)/\∀h1 h2:Heap,φ h1->(∀o,h1.get? a=some o->h2.get? a=some o)->φ h2
def dg(H:Hp)(h:Heap):Prop:=∀a o,H a=some o->eO P w H h a o
end
section
variable {P:a9}{w:World}{H H':Hp}{h h':Heap}{a:Addr}{o:HO}
theorem eO.lt(x:eO P w H h a o):a<h.objs.size:=by cases o with |lst xs=>obtain⟨_,_,_,_,e⟩:=x;exact bS e |tup xs=>obtain⟨_,_,_,p⟩:=x;exact p.lt |dK dh=>obtain⟨_,_,_,_,o,_,_,e,_⟩:=x;exact bS e |dT dh=>obtain⟨_,_,_,_,o,_,_,e,_⟩:=x;exact bS e |set S n=>obtain⟨o,_,_,_,e,_⟩:=x;exact bS e |ins C dx fs=>obtain⟨_,_,_,e,_⟩:=x;exact bS e |own y=>obtain⟨_,e⟩:=x;exact bS e |xd fs=>obtain⟨_,⟨_,_,_,e,_⟩,_⟩:=x;exact bS e |qj lo hi=>obtain⟨_,_,_,e⟩:=x;exact bS e |kE ob u=>obtain⟨e,_⟩:=x;exact bS e |nU ps=>exact bS (show h.get? a=some _ from x) |met f y=>exact bS (show h.get? a=some _ from x) |ext φ=>obtain⟨_,⟨_,e⟩,_⟩:=x;exact bS e
theorem Paired.Le{α β:Type}{F G:α->β->Prop}:∀{l₁:List α}{l₂:List β},Paired F l₁ l₂->(∀a b,F a b->G a b)->Paired G l₁ l₂ |_,_,.nil,_=>.nil |_,_,.cons r t,f=>.cons (f _ _ r) (Paired.Le t f)
theorem eO.jH(x:eO P w H h a o)(k:∀b u,(b=a\/H b=some (.own a))->h.get? b=some u->h'.get? b=some u) (ho:∀b,H b=some (.own a)->H' b=some (.own a))(ht:∀b xs,H b=some (.tup xs)->H' b=some (.tup xs)):eO P w H' h' a o:=by induction o with |lst xs=>obtain⟨z,its,n,r,e⟩:=x;exact⟨z,its,n,r,k _ _ (.inl Z) e⟩ |tup xs=>obtain⟨z,its,r,ob,e,c⟩:=x;exact⟨z,its,r,ob,k _ _ (.inl Z) e,c⟩ |dK dh=>obtain⟨z,y,vs,r,ob,es,ep,e,c⟩:=x;exact⟨z,y,vs,r,ob,es,ep,k _ _ (.inl Z) e,c⟩ |dT dh=>obtain⟨z,y,xs,r,ob,es,ep,e,c⟩:=x;exact⟨z,y,xs,Paired.Le r λp q z=>⟨z.1,ht _ _ z.2.1,z.2.2⟩,ob,es,ep,k _ _ (.inl Z) e,c⟩ |set S n=>obtain⟨ob,es,ep,t,e,c⟩:=x;exact⟨ob,es,ep,t,k _ _ (.inl Z) e,c⟩ |ins C dx fs=>obtain⟨d,z,ne,e,mA,⟨od,es,ep,e2,c⟩,r⟩:=x;exact⟨ho _ d,z,ne,k _ _ (.inl Z) e,mA,⟨od,es,ep,k _ _ (.inr d) e2,c⟩,r⟩ |own y=>obtain⟨ob,e⟩:=x;exact⟨ob,k _ _ (.inl Z) e⟩ |xd fs=>obtain⟨mA,⟨od,es,ep,e,c⟩,r⟩:=x;exact⟨mA,⟨od,es,ep,k _ _ (.inl Z) e,c⟩,r⟩ |qj lo hi=>obtain⟨t,u,v,e⟩:=x;exact⟨t,u,v,k _ _ (.inl Z) e⟩ |kE ob u ih=>obtain⟨e,q⟩:=x;exact⟨k _ _ (.inl Z) e,ih q⟩ |nU ps=>have e:h.get? a=some {cls:=.none,data:=.fields ps}:=x;show h'.get? a=some {cls:=.none,data:=.fields ps};exact k a _ (.inl Z) e |met f y=>have e:h.get? a=some (PySem.W.methodObj (.ref f) (.ref y)):=x;show h'.get? a=some (PySem.W.methodObj (.ref f) (.ref y));exact k a _ (.inl Z) e |ext φ=>obtain⟨p,⟨o,e⟩,st⟩:=x;exact⟨st _ _ p λo q=>k _ _ (.inl Z) q,⟨o,k _ _ (.inl Z) e⟩,st⟩
theorem dg.lt(x:dg P w H h)(e:H a=some o):a<h.objs.size:=(x a o e).lt
theorem dg.fresh(x:dg P w H h)(e:h.objs.size<=a):H a=none:=by cases q:H a with |none=>rfl |some u=>exact absurd (fH (x.lt q) e) (ux _)
theorem dg.kept(x:dg P w H h)(k:∀b u,h.get? b=some u->h'.get? b=some u):dg P w H h':=λa o e=>(x a o e).jH (λb u _ q=>k b u q) (λ_ q=>q) λ_ _ q=>q
theorem dg.laid(x:dg P w H h)(k:∀b u,h.get? b=some u->h'.get? b=some u)(hp:h.objs.size<=a)(new:eO P w (upd H a o) h' a o):dg P w (upd H a o) h':=λb u e=>by
 have hn:=x.fresh hp;by_cases hb:b=a
 ·subst hb;rw[bX]at e;cases e;exact new
 ·rw[bf hb]at e
  exact(x b u e).jH (λc v _ q=>k c v q) (λc q=>by rw[bf (cC q hn)];exact q) λc xs q=>by rw[bf (cC q hn)];exact q
end
def Rd(H:Hp)(a:Addr)(u:HO):Prop:=H a=some u\/∃o,H a=some (.kE o u)
theorem Rd.ok{P:a9}{w:World}{H:Hp}{h:Heap}{a:Addr}{u:HO}(r:Rd H a u)(x:dg P w H h):eO P w H h a u:=by
 rcases r with r|⟨o,r⟩
 ·exact x a u r
 ·obtain⟨_,q⟩:=x a _ r
  exact q
def Ag:Option HO->Prop |some (.lst _)=>True |some (.dK _)=>True |some (.dT _)=>True |some (.set _ _)=>True |some (.ins _ _ _)=>True |some (.ext _)=>True |_=>False
section
variable {P:a9}{w:World}{H:Hp}{h h':Heap}{x e:Addr}{o':HO}
theorem dg.write(ok:dg P w H h)(mu:Ag (H x))(he:e=x\/H e=some (.own x))(k:∀b u,b≠e->h.get? b=some u->h'.get? b=some u)(tO:∃u,h'.get? e=some u) (new:eO P w (upd H x o') h' x o'):dg P w (upd H x o') h':=λb u q=>by
 have KC:∀c y,H c=some (.own y)->c≠x:=λc y r z=>by subst z;rw[r]at mu;exact mu
 have Vv:∀c xs,H c=some (.tup xs)->c≠x:=λc xs r z=>by subst z;rw[r]at mu;exact mu
 by_cases hb:b=x
 ·subst hb;rw[bX]at q;cases q;exact new
 ·rw[bf hb]at q
  by_cases qN:b=e
  ·have q':H b=some (.own x):=by
    rcases he with z|z
    ·exact absurd (qN.trans z) hb
    ·rw[qN];exact z
   rw[q]at q';cases q';obtain⟨v,hv⟩:=tO;exact⟨v,by rw[qN];exact hv⟩
  ·refine(ok b u q).jH (λc v hc r=>k c v ?_ r) (λc r=>by rw[bf (KC c b r)];exact r) λc xs r=>by rw[bf (Vv c xs r)];exact r
   rcases hc with rfl|hc
   ·exact qN
   ·rintro rfl
    rcases he with z|z
    ·exact KC c b hc z
    ·rw[hc]at z;cases z;exact hb rfl
end
structure Un(fs ex:List Addr)(H H':Hp)(h h':Heap):Prop where
 keep:∀b o,h.get? b=some o->H b=none->b∉fs->b∉ex->h'.get? b=some o
 slot:∀b o,h.get? b=some o->H b=none->b∈fs->b∉ex->∃sl,h'.get? b=some {o with slots:=sl}
 free:∀b o,h.get? b=some o->H b=none->b∉ex->H' b=none
 there:∀b o,h.get? b=some o->b∉ex->∃o',h'.get? b=some o'
 iI:∀b xs,H b=some (.tup xs)->H' b=some (.tup xs)
 ir:∀b o u,H b=some (.kE o u)->H' b=some (.kE o u)
 iJ:∀b ps,H b=some (.nU ps)->∃more,H' b=some (.nU (ps++more))
section
variable {fs tZ ex ph:List Addr}{H H1 H2:Hp}{h h1 h2 h':Heap}{a x e:Addr}{o:HO}
theorem Un.any(u:Un fs ex H H1 h h1){b:Addr}{ob:Obj}(q:h.get? b=some ob)(n:H b=none)(hx:b∉ex):∃sl,h1.get? b=some {ob with slots:=sl}:=by
 by_cases hb:b∈fs
 ·exact u.slot b ob q n hb hx
 ·exact⟨ob.slots,u.keep b ob q n hb hx⟩
theorem Un.kept(k:∀b u,h.get? b=some u->h'.get? b=some u):Un fs ex H H h h':=⟨λb ob q _ _ _=>k b ob q,λb ob q _ _ _=>⟨ob.slots,k b ob q⟩,λ_ _ _ n _=>n,λb ob q _=>⟨ob,k b ob q⟩,λ_ _ q=>q,λ_ _ _ q=>q,λ_ ps q=>⟨#[],by rw[q];simp⟩⟩
theorem Un.refl:Un fs ex H H h h:=Un.kept λ_ _ q=>q
theorem Un.laid(k:∀b u,h.get? b=some u->h'.get? b=some u)(hp:h.objs.size<=a)(hn:H a=none):Un fs ex H (upd H a o) h h' where
 keep:=λb u q _ _ _=>k b u q
 slot:=λb u q _ _ _=>⟨u.slots,k b u q⟩
 free:=λb u q n _=>by rw[bf (dw (fH (bS q) hp))];exact n
 there:=λb u q _=>⟨u,k b u q⟩
 iI:=λb xs q=>by rw[bf (cC q hn)];exact q
 ir:=λb u xs q=>by rw[bf (cC q hn)];exact q
 iJ:=λb ps q=>⟨#[],by rw[bf (cC q hn),q];simp⟩
theorem Un.write(mu:Ag (H x))(he:e=x\/H e=some (.own x))(k:∀b u,b≠e->h.get? b=some u->h'.get? b=some u)(tO:∃u,h'.get? e=some u):Un fs ex H (upd H x o) h h':=by
 have hx:∀b,H b=none->b≠x:=λb n z=>by subst z;rw[n]at mu;exact mu
 have hb:∀b,H b=none->b≠e:=λb n z=>by
  subst z;rcases he with r|r
  ·exact hx b n r
  ·rw[n]at r;cases r
 have hm:∀b u,H b=some u->¬Ag (some u)->b≠x:=λb u q nm z=>by subst z;rw[q]at mu;exact nm mu
 refine⟨λb u q n _ _=>k b u (hb b n) q,λb u q n _ _=>⟨u.slots,k b u (hb b n) q⟩,λb u q n _=>by rw[bf (hx b n)];exact n,λb u q _=>?_,λb xs q=>by rw[bf (hm b _ q λz=>z)];exact q,λb u xs q=>by rw[bf (hm b _ q λz=>z)];exact q,λb ps q=>⟨#[],by rw[bf (hm b _ q λz=>z),q];simp⟩⟩;by_cases qN:b=e
 ·subst qN;exact tO
 ·exact⟨u,k b u qN q⟩
end
def xU(h:Heap)(H:Hp):List Addr:=(List.range h.objs.size).filter λa=>(H a).isSome
def nu(h:Heap)(H:Hp):Heap:=PySem.W.hideAll h (xU h H)
theorem Y6(h:Heap)(H:Hp):(nu h H).objs.size=h.objs.size:=PySem.W.hideAll_size _ _
theorem Y7{h:Heap}{H:Hp}{b:Addr}{o:Obj}(e:h.get? b=some o)(n:H b=none):(nu h H).get? b=some o:=Gh _ e λhm=>by have q:(H b).isSome=true:=(List.mem_filter.mp hm).2;rw[n]at q;simp at q
theorem Vq{h:Heap}{H:Hp}{b:Addr}{o:Obj}(e:(nu h H).get? b=some o):h.get? b=some o/\H b=none:=by have e':h.get? b=some o:=PySem.W.of_hideAll (xU h H) e;refine⟨e',?_⟩;cases q:H b with |none=>rfl |some x=>have hm:b∈xU h H:=List.mem_filter.mpr ⟨Gy.mpr (bS e'),by simp[q]⟩;have z:(nu h H).get? b=none:=PySem.W.hideAll_none (xU h H) hm;rw[z]at e;cases e
structure Mod(K:a7)(mg:bI)(ao:Heap):Prop where
 oN:K.In ao
 glob:ao.Ns mainGlobals mg
 blt:∃mb,ao.Ns builtinsNs mb/\∀x:Str,x≠"__name__"->mb x=bootBuiltins x
 nolimit:ao.NoLimit
structure Cx where
 prog:a9
 w:World
 K:a7
 mg:bI
 ao:Heap
 A:ag
 N:List Str
 s₀:a8
 H₀:Hp
 env:Env
 outer:List Env
 stack:List Env
 ex:List Addr
 fn:Str->Bool
 calm:Bool
 pn:List (Addr×Obj)
 xe:Value->a8->Prop
def eg(l:List Env):List Addr:=l.filterMap (·.frame)
abbrev Cx.fs(X:Cx):List Addr:=eg X.outer
def FY(sc:Scope)(x:Str):Prop:=sc.names.lookup x=some .local\/sc.names.lookup x=some .cell\/sc.names.lookup x=some .free
def Loc(sc:Scope)(x:Str):Prop:=sc.names.lookup x=some .local\/sc.names.lookup x=some .cell
def Look(env:Env)(h:Heap)(m:bI)(x:Str)(u:Value):Prop:=(env.kindOf x=some .local/\m x=some u)\/((env.kindOf x=some .cell\/env.kindOf x=some .free)/\∃c,env.cells.lookup x=some c/\h.IsCell c (some u))
structure Cx.Ok(X:Cx):Prop where
 mod:Mod X.K X.mg X.ao
 kind:X.env.scope.kind= .function
 glob:X.env.globals=mainGlobals
 blt:X.env.builtins=builtinsNs
 above:X.s₀.heap.objs.size<=X.env.locals
 inj:∀x y c,X.env.cells.lookup x=some c->X.env.cells.lookup y=some c->x=y
 has:∀x,(X.env.kindOf x=some .cell\/X.env.kindOf x=some .free)->∃c,X.env.cells.lookup x=some c
 pI:∀x c,X.fn x=true->X.env.cells.lookup x=some c->X.s₀.heap.objs.size<=c
 hd:X.calm=true->X.A.handled=none
 frames:X.A.frames=some X.stack
 qc:X.stack=X.outer\/(X.stack=X.env::X.outer/\X.env.frame=some X.env.locals)
 wA:∀b∈X.ex,b≠X.env.locals/\∀x c,X.env.cells.lookup x=some c->c≠b
 bs:∀b o,X.ao.get? b=some o->X.s₀.heap.get? b=some o/\X.H₀ b=none
 jy:X.ao.objs.size<=X.s₀.heap.objs.size
 oE:∀b o,X.ao.get? b=some o->b∉X.ex
 m6:∀b∈X.ex,b∉X.fs
 hX:X.s₀.heap.FunFrames X.ao X.outer
 kF:∀b∈X.fs,X.H₀ b=none
structure Inv(X:Cx)(aj:List (Addr×Obj))(O:List (Option V))(H:Hp)(s:a8):Prop where
 ok:X.Ok
 os:s.os=X.s₀.os
 bare:AllBare s.gens
 ao:Un X.fs X.ex X.H₀ H X.s₀.heap s.heap
 loc:∃m,s.heap.Ns X.env.locals m/\∀(i:Nat)(x:Str)(v:V),X.N[i]? =some x->O[i]? =some (some v)->FY X.env.scope x->∃u,RelV v u/\Look X.env s.heap m x u
 cell:∀x c,X.env.cells.lookup x=some c->∃v,s.heap.IsCell c v
 free:H X.env.locals=none
 iu:∀x c,X.env.cells.lookup x=some c->H c=none
 pin:∀p∈X.pn++aj,s.heap.get? p.1=some p.2/\H p.1=none/\p.1≠X.env.locals/\p.1∉X.fs/\∀v,p.2.data≠ .cell v
 aW:dg X.prog X.w H s.heap
 len:O.length=X.N.length
section
variable {X:Cx}{aj:List (Addr×Obj)}{O:List (Option V)}{H H':Hp}{s:a8}{h':Heap}
theorem Cx.Ok.VB(ok:X.Ok){b:Addr}{o:Obj}(e:X.ao.get? b=some o):b∉X.fs:=λhb=>by have:=(ok.hX.mem hb).1;rw[e]at this;cases this
theorem Inv.bs(I:Inv X aj O H s):∀b o,X.ao.get? b=some o->s.heap.get? b=some o/\H b=none:=λb o e=>⟨I.ao.keep b o (I.ok.bs b o e).1 (I.ok.bs b o e).2 (I.ok.VB e) (I.ok.oE b o e),I.ao.free b o (I.ok.bs b o e).1 (I.ok.bs b o e).2 (I.ok.oE b o e)⟩
theorem Inv.bk(I:Inv X aj O H s):∀b o,X.ao.get? b=some o->s.heap.get? b=some o:=λb o e=>(I.bs b o e).1
theorem Inv.mod(I:Inv X aj O H s):Mod X.K X.mg X.ao:=I.ok.mod
theorem Inv.fB(I:Inv X aj O H s):X.K.In s.heap:=I.ok.mod.oN.keeps I.bk
theorem Inv.lt(I:Inv X aj O H s):X.env.locals<s.heap.objs.size:=let⟨_,hn,_⟩:=I.loc;hn.lt
theorem Inv.sz(I:Inv X aj O H s):X.s₀.heap.objs.size<=s.heap.objs.size:=fe I.ok.above (Gu I.lt)
theorem Inv.Vz(I:Inv X aj O H s){a:Addr}(h:s.heap.objs.size<=a):a∉X.fs:=λhb=>by obtain⟨_,o,ho,_⟩:=I.ok.hX.mem hb;exact absurd (fH (bS ho) (fe I.sz h)) (ux _)
theorem Inv.iY(I:Inv X aj O H s):∀x c,X.env.cells.lookup x=some c->c≠X.env.locals:=λx c e z=>by obtain⟨v,o,ho,hd⟩:=I.cell x c e;obtain⟨m,⟨o',es,ep,kz,Yl,_⟩,_⟩:=I.loc;rw[z,kz]at ho;cases ho;rw[Yl]at hd;cases hd
theorem Inv.hX(I:Inv X aj O H s):s.heap.FunFrames X.ao X.outer:=by
 have all:∀(l:List Env),(∀b∈eg l,b∈X.fs)->X.s₀.heap.FunFrames X.ao l->s.heap.FunFrames X.ao l:=by intro l;induction l with |nil=>intro _ _;trivial |cons env r ih=>intro hs hl;obtain⟨hk,⟨L,o,hf,hn,ho,hd⟩,hr⟩:=hl;have hL:L∈X.fs:=hs L (by unfold eg;rw[Pj,hf];exact Gz);obtain⟨sl,e⟩:=I.ao.slot L o ho (I.ok.kF L hL) hL λz=>I.ok.m6 L z hL;exact⟨hk,⟨L,_,hf,hn,e,hd⟩,ih (λb hb=>hs b (by unfold eg;rw[Pj,hf];exact AI _ hb)) hr⟩
 exact all X.outer (λ_ hb=>hb) I.ok.hX
theorem Inv.stack(I:Inv X aj O H s):s.heap.FunFrames X.ao X.stack:=by
 rcases I.ok.qc with e|⟨e,hf⟩
 ·rw[e];exact I.hX
 ·rw[e]
  obtain⟨m,hn,_⟩:=I.loc;refine .cons (by rw[I.ok.kind];decide) hf hn ?_ I.hX;exact Heap.get?_none_of_le (fe I.ok.jy I.ok.above)
theorem Inv.B3(I:Inv X aj O H s):∀b∈eg X.stack,b∈X.env.locals::X.fs:=λb hb=>by
 rcases I.ok.qc with e|⟨e,hf⟩
 ·rw[e]at hb;exact AI _ hb
 ·rw[e]at hb
  unfold eg at hb;rw[Pj,hf]at hb;exact hb
theorem Inv.yb(I:Inv X aj O H s):∀b∈eg X.stack,H b=none:=λb hb=>by
 rcases dj.mp (I.B3 b hb)with e|hb
 ·rw[e];exact I.free
 ·obtain⟨_,o,ho,_⟩:=I.ok.hX.mem hb
  exact I.ao.free b o ho (I.ok.kF b hb) λz=>I.ok.m6 b z hb
theorem Inv.step{g':Array GenState}{t':Nat}{d':Drawn}{ch:List Addr}(I:Inv X aj O H s) (lW:∀b∈ch,(b∈X.ex\/X.s₀.heap.objs.size<=b)/\b≠X.env.locals/\(∀x c,X.env.cells.lookup x=some c->c≠b)/\∀p∈X.pn++aj,p.1≠b) (keep:∀b o,b≠X.env.locals->b∉X.fs->b∉ch->s.heap.get? b=some o->H b=none->h'.get? b=some o) (slot:∀b o,b≠X.env.locals->b∈X.fs->b∉ch->s.heap.get? b=some o->H b=none->∃sl,h'.get? b=some {o with slots:=sl})(free:∀b o,b∉ch->s.heap.get? b=some o->H b=none->H' b=none) (there:∀b o,b∉ch->s.heap.get? b=some o->∃o',h'.get? b=some o') (iI:∀b xs,H b=some (.tup xs)->H' b=some (.tup xs))(ir:∀b o u,H b=some (.kE o u)->H' b=some (.kE o u))(iJ:∀b ps,H b=some (.nU ps)->∃more,H' b=some (.nU (ps++more))) (ns:∀m,s.heap.Ns X.env.locals m->h'.Ns X.env.locals m)(aW:dg X.prog X.w H' h')(hg:AllBare g'): Inv X aj O H' {s with heap:=h',gens:=g',drawn:=d',toks:=t'}:=by
 have KR:∀b o,X.s₀.heap.get? b=some o->b≠X.env.locals:=λb o e=>dw (fH (bS e) I.ok.above);have yV:∀b o,X.s₀.heap.get? b=some o->b∉X.ex->b∉ch:=λb o e hx hb=>by
  rcases(lW b hb).1 with z|z
  ·exact hx z
  ·exact absurd (fH (bS e) z) (ux _)
 have cellK:∀x c,X.env.cells.lookup x=some c->∀v,s.heap.IsCell c v->h'.IsCell c v:=λx c e v ⟨o,ho,hd⟩=>by
  have vJ:c∉ch:=λz=>(lW c z).2.2.1 x c e rfl;by_cases hc:c∈X.fs
  ·obtain⟨sl,q⟩:=slot c o (I.iY x c e) hc vJ ho (I.iu x c e)
   exact⟨_,q,hd⟩
  ·exact⟨o,keep c o (I.iY x c e) hc vJ ho (I.iu x c e),hd⟩
 refine⟨I.ok,I.os,hg,⟨λb o e n hb hx=>?_,λb o e n hb hx=>?_,λb o e n hx=>?_,λb o e hx=>?_,λb xs e=>iI b xs (I.ao.iI b xs e),λb o xs e=>ir b o xs (I.ao.ir b o xs e),λb ps e=>?_⟩,?_,λx c e=>?_,?_,λx c e=>?_,λp hp=>?_,aW,I.len⟩
 ·exact keep b o (KR b o e) hb (yV b o e hx) (I.ao.keep b o e n hb hx) (I.ao.free b o e n hx)
 ·obtain⟨sl,e1⟩:=I.ao.slot b o e n hb hx
  obtain⟨Bw,e2⟩:=slot b _ (KR b o e) hb (yV b o e hx) e1 (I.ao.free b o e n hx);exact⟨Bw,e2⟩
 ·obtain⟨o',e1⟩:=I.ao.there b o e hx
  exact free b o' (yV b o e hx) e1 (I.ao.free b o e n hx)
 ·obtain⟨o',e1⟩:=I.ao.there b o e hx
  exact there b o' (yV b o e hx) e1
 ·obtain⟨m1,e1⟩:=I.ao.iJ b ps e
  obtain⟨m2,e2⟩:=iJ b _ e1;exact⟨m1++m2,by rw[e2,Array.append_assoc]⟩
 ·obtain⟨m,hn,hl⟩:=I.loc
  refine⟨m,ns m hn,λi x v e1 e2 e3=>?_⟩;obtain⟨u,r,l⟩:=hl i x v e1 e2 e3;refine⟨u,r,?_⟩;rcases l with l|⟨k,c,e,z⟩
  ·exact .inl l
  ·exact .inr ⟨k,c,e,cellK x c e _ z⟩
 ·obtain⟨v,z⟩:=I.cell x c e
  exact⟨v,cellK x c e v z⟩
 ·obtain⟨m,⟨o,_,_,ho,_⟩,_⟩:=I.loc
  exact free _ o (λz=>(lW _ z).2.1 Z) ho I.free
 ·obtain⟨v,o,ho,hd⟩:=I.cell x c e
  exact free c o (λz=>(lW c z).2.2.1 x c e Z) ho (I.iu x c e)
 ·obtain⟨e,n,ne,nf,d⟩:=I.pin p hp
  have vJ:p.1∉ch:=λz=>(lW p.1 z).2.2.2 p hp rfl;exact⟨keep p.1 p.2 ne nf vJ e n,free p.1 p.2 vJ e n,ne,nf,d⟩
theorem Inv.un{t':Nat}(I:Inv X aj O H s)(u:Un X.fs [] H H' s.heap h')(aW:dg X.prog X.w H' h'):Inv X aj O H' {s with heap:=h',toks:=t'}:=by obtain⟨m,⟨o,es,ep,ho,r⟩,_⟩:=id I.loc;obtain⟨sl,hL⟩:=u.any ho I.free (by simp);exact I.step (g':=s.gens) (d':=s.drawn) (ch:=[]) (λ_ z=>nomatch z) (λb o _ hb _ e n=>u.keep b o e n hb (by simp)) (λb o _ hb _ e n=>u.slot b o e n hb (by simp)) (λb o _ e n=>u.free b o e n (by simp)) (λb o _ e=>u.there b o e (by simp)) u.iI u.ir u.iJ (λm' hm=>by obtain⟨o',gh,Fg,kz,r'⟩:=hm;rw[ho]at kz;cases kz;exact⟨_,gh,Fg,hL,r'⟩) aW I.bare
theorem Inv.call{g':Array GenState}{t':Nat}{d':Drawn}{ch:List Addr}(I:Inv X aj O H s)(u:Un (eg X.stack) ch H H' s.heap h')(aW:dg X.prog X.w H' h')(hg:AllBare g') (lW:∀b∈ch,(b∈X.ex\/X.s₀.heap.objs.size<=b)/\b≠X.env.locals/\(∀x c,X.env.cells.lookup x=some c->c≠b)/\∀p∈X.pn++aj,p.1≠b): Inv X aj O H' {s with heap:=h',gens:=g',drawn:=d',toks:=t'}:=by obtain⟨m,⟨o,es,ep,ho,r⟩,_⟩:=id I.loc;obtain⟨sl,hL⟩:=u.any ho I.free λz=>(lW _ z).2.1 rfl;exact I.step (ch:=ch) lW (λb o hL hb hc e n=>u.keep b o e n (λz=>(dj.mp (I.B3 b z)).elim hL hb) hc) (λb o _ _ hc e n=>u.any e n hc) (λb o hc e n=>u.free b o e n hc) (λb o hc e=>u.there b o e hc) u.iI u.ir u.iJ (λm' hm=>by obtain⟨o',gh,Fg,kz,r'⟩:=hm;rw[ho]at kz;cases kz;exact⟨_,gh,Fg,hL,r'⟩) aW hg
theorem Inv.turned{t':Nat}{it:Addr}(I:Inv X aj O H s)(k:∀b o,b≠it->s.heap.get? b=some o->h'.get? b=some o)(hn:H it=none)(hL:it≠X.env.locals) (h1:it∈X.ex\/X.s₀.heap.objs.size<=it)(h2:∀x c,X.env.cells.lookup x=some c->c≠it)(h3:∀p∈X.pn++aj,p.1≠it):Inv X aj O H {s with heap:=h',toks:=t'}:=by
 have vI:∀b u,H b=some u->b≠it:=λb u e z=>by rw[z,hn]at e;cases e
 refine I.step (g':=s.gens) (d':=s.drawn) (ch:=[it]) (λb hb=>?_) (λb o _ _ hc e _=>k b o (λz=>hc (by simp[z])) e) (λb o _ _ hc e _=>⟨o.slots,k b o (λz=>hc (by simp[z])) e⟩) (λ_ _ _ _ n=>n) (λb o hc e=>⟨o,k b o (λz=>hc (by simp[z])) e⟩) (λ_ _ e=>e) (λ_ _ _ e=>e) (λb ps e=>⟨#[],by rw[e];simp⟩) (λm hm=>?_) (λb u e=>?_) I.bare
 ·have e:b=it:=by simpa using hb
  subst e;exact⟨h1,hL,h2,h3⟩
 ·obtain⟨o,es,ep,ho,r⟩:=hm
  exact⟨o,es,ep,k _ o (iD hL) ho,r⟩
 ·refine(I.aW b u e).jH (λc v hc q=>k c v ?_ q) (λ_ q=>q) λ_ _ q=>q
  rcases hc with z|z
  ·rw[z];exact vI b u e
  ·exact vI c _ z
theorem Inv.tok(I:Inv X aj O H s)(t:Nat):Inv X aj O H {s with toks:=t}:=I.un (h':=s.heap) (t':=t) Un.refl I.aW
theorem Inv.kept{t':Nat}(I:Inv X aj O H s)(k:∀b u,s.heap.get? b=some u->h'.get? b=some u):Inv X aj O H {s with heap:=h',toks:=t'}:=I.un (Un.kept k) (I.aW.kept k)
theorem Inv.laid{a:Addr}{o:HO}{t':Nat}(I:Inv X aj O H s)(k:∀b u,s.heap.get? b=some u->h'.get? b=some u)(hp:s.heap.objs.size<=a)(new:eO X.prog X.w (upd H a o) h' a o): Inv X aj O (upd H a o) {s with heap:=h',toks:=t'}:=I.un (Un.laid k hp (I.aW.fresh hp)) (I.aW.laid k hp new)
theorem Inv.write{x e:Addr}{o:HO}{t':Nat}(I:Inv X aj O H s)(mu:Ag (H x))(he:e=x\/H e=some (.own x))(k:∀b u,b≠e->s.heap.get? b=some u->h'.get? b=some u)(tO:∃u,h'.get? e=some u) (new:eO X.prog X.w (upd H x o) h' x o):Inv X aj O (upd H x o) {s with heap:=h',toks:=t'}:=I.un (Un.write mu he k tO) (I.aW.write mu he k tO new)
theorem Inv.Ki{Dx:List (Addr×Obj)}(I:Inv X aj O H s)(h:∀p∈Dx,s.heap.get? p.1=some p.2/\H p.1=none/\p.1≠X.env.locals/\p.1∉X.fs/\∀v,p.2.data≠ .cell v):Inv X Dx O H s:=⟨I.ok,I.os,I.bare,I.ao,I.loc,I.cell,I.free,I.iu,λp hp=>(jC.mp hp).elim (λz=>I.pin p (Pe _ z)) (h p),I.aW,I.len⟩
theorem DJ{N:List Str}(hN:N.Nodup){i j:Nat}{x:Str}(a:N[i]? =some x)(b:N[j]? =some x):i=j:=by obtain⟨h1,e1⟩:=cy.mp a;obtain⟨h2,e2⟩:=cy.mp b;exact(List.getElem_inj hN).mp (e1.trans e2.symm)
theorem Hv{M:Model}{A:ag}{E:Value->a8->Prop}{i:Nat}{x:Str}{v:V}{u:Value}{Q:Unit->a8->Prop}(I:Inv X aj O H s)(hN:X.N.Nodup)(hi:X.N[i]? =some x)(hx:Loc X.env.scope x)(r:RelV v u) (h:∀s',Inv X aj (O.set i (some v)) H s'->(∃a,Heap.SameBut a s.heap s'.heap/\(a=X.env.locals\/X.env.cells.lookup x=some a))->Q () s')(hf:X.fn x=true\/X.env.scope.names.lookup x=some .local:=by first|exact .inl rfl|exact .inr rfl|assumption):wpAny M A (storeName X.env x u) Q E s:=by
 obtain⟨m,hn,hl⟩:=id I.loc;have wc:(X.env.scope.kind== .class||(X.env.scope.kind== .module&&X.env.locals !=X.env.globals))=false:=by rw[I.ok.kind];rfl
 have zw:i<O.length:=by rw[I.len];exact(cy.mp hi).1
 have iY:=I.iY;have tracked:∀{a:Addr}{h':Heap},(∃o,s.heap.get? a=some o/\H a=none)->Heap.SameBut a s.heap h'->dg X.prog X.w H h':=λ{a h'} ha hs b ob e=>by
  obtain⟨_,_,oX⟩:=ha;refine(I.aW b ob e).jH (λc w' hc q=>(hs.2 c ?_).trans q) (λ_ q=>q) λ_ _ q=>q;rintro rfl;rcases hc with rfl|hc
  ·rw[oX]at e;cases e
  ·rw[oX]at hc;cases hc
 rcases hx with hk|hk
 ·refine wpAny_storeName_local hk hn (λh' Ez hs=>?_) wc
  obtain⟨oL,_,_,LY,_⟩:=id hn;refine h _ ⟨I.ok,I.os,I.bare,⟨λb o e n hb hx=>?_,λb o e n hb hx=>?_,I.ao.free,λb o e hx=>?_,I.ao.iI,I.ao.ir,I.ao.iJ⟩,⟨_,Ez,λj y v' e1 e2 e3=>?_⟩,λy c e=>?_,I.free,I.iu,λp hp=>?_,tracked ⟨oL,LY,I.free⟩ hs,by simpa using I.len⟩ ⟨_,hs,.inl rfl⟩
  ·exact(hs.2 b (dw (fH (bS e) I.ok.above))).trans (I.ao.keep b o e n hb hx)
  ·obtain⟨sl,e1⟩:=I.ao.slot b o e n hb hx
   exact⟨sl,(hs.2 b (dw (fH (bS e) I.ok.above))).trans e1⟩
  ·obtain⟨o',e1⟩:=I.ao.there b o e hx
   exact⟨o',(hs.2 b (dw (fH (bS e) I.ok.above))).trans e1⟩
  ·by_cases hj:j=i
   ·subst hj
    rw[hi]at e1;cases e1;rw[xF zw]at e2;cases e2;exact⟨u,r,.inl ⟨hk,by simp⟩⟩
   ·rw[GB (iD hj)]at e2
    obtain⟨u',r',q⟩:=hl j y v' e1 e2 e3;refine⟨u',r',?_⟩;rcases q with⟨k,e⟩|⟨k,c,e,z⟩
    ·refine .inl ⟨k,?_⟩
     have:y≠x:=λe=>hj (DJ hN e1 (e▸hi));simp[this,e]
    ·exact .inr ⟨k,c,e,z.sameBut hs (iY y c e)⟩
  ·obtain⟨w',z⟩:=I.cell y c e
   exact⟨w',z.sameBut hs (iY y c e)⟩
  ·obtain⟨e,n,ne,nf,d⟩:=I.pin p hp
   exact⟨(hs.2 p.1 ne).trans e,n,ne,nf,d⟩
 ·have EH:X.fn x=true:=by
   rcases hf with z|z
   ·exact z
   ·rw[z]at hk;cases hk
  obtain⟨c,hc⟩:=I.ok.has x (.inl hk);obtain⟨w',z⟩:=I.cell x c hc;refine wpAny_storeName_cell I.ok.kind hk hc z (λh' gQ hs=>?_);obtain⟨oc,LX,Xt⟩:=id z;refine h {s with heap:=h'} ⟨I.ok,I.os,I.bare,⟨λb o e n hb hx=>?_,λb o e n hb hx=>?_,I.ao.free,λb o e hx=>?_,I.ao.iI,I.ao.ir,I.ao.iJ⟩,⟨m,hn.sameBut hs (iD (iY x c hc)),λj y v' e1 e2 e3=>?_⟩,λy c' e=>?_,I.free,I.iu,λp hp=>?_,tracked ⟨oc,LX,I.iu x c hc⟩ hs,by simpa using I.len⟩ ⟨c,hs,.inr hc⟩
  ·exact(hs.2 b (dw (fH (bS e) (I.ok.pI x c EH hc)))).trans (I.ao.keep b o e n hb hx)
  ·obtain⟨sl,e1⟩:=I.ao.slot b o e n hb hx
   exact⟨sl,(hs.2 b (dw (fH (bS e) (I.ok.pI x c EH hc)))).trans e1⟩
  ·obtain⟨o',e1⟩:=I.ao.there b o e hx
   exact⟨o',(hs.2 b (dw (fH (bS e) (I.ok.pI x c EH hc)))).trans e1⟩
  ·by_cases hj:j=i
   ·subst hj
    rw[hi]at e1;cases e1;rw[xF zw]at e2;cases e2;exact⟨u,r,.inr ⟨.inl hk,c,hc,gQ⟩⟩
   ·rw[GB (iD hj)]at e2
    obtain⟨u',r',q⟩:=hl j y v' e1 e2 e3;refine⟨u',r',?_⟩;rcases q with q|⟨k,c',e,z'⟩
    ·exact .inl q
    ·refine .inr ⟨k,c',e,z'.sameBut hs ?_⟩
     rintro rfl;exact hj (DJ hN e1 (I.ok.inj _ _ _ e hc▸hi))
  ·by_cases Md:c'=c
   ·subst Md;exact⟨_,gQ⟩
   ·obtain⟨w2,z2⟩:=I.cell y c' e
    exact⟨w2,z2.sameBut hs Md⟩
  ·obtain⟨e,n,ne,nf,d⟩:=I.pin p hp
   refine⟨(hs.2 p.1 ?_).trans e,n,ne,nf,d⟩;intro q;rw[q,LX]at e;have q':oc=p.2:=dv e;exact d w' (by rw[<-q'];exact Xt)
theorem sI{M:Model}{A:ag}{E:Value->a8->Prop}{i:Nat}{x:Str}{v:V}{u:Value}{Q:Unit->a8->Prop}(I:Inv X aj O H s)(hN:X.N.Nodup)(hi:X.N[i]? =some x)(hx:Loc X.env.scope x)(r:RelV v u) (h:∀s',Inv X aj (O.set i (some v)) H s'->Q () s')(hf:X.fn x=true\/X.env.scope.names.lookup x=some .local:=by first|exact .inl rfl|exact .inr rfl|assumption):wpAny M A (storeName X.env x u) Q E s:=Hv I hN hi hx r (λs' I' _=>h s' I') hf
theorem Inv.wQ{s':a8}{ch:List Addr}(I:Inv X aj O H s)(ho:s'.os=s.os)(u:Un (eg X.stack) ch H H' s.heap s'.heap)(aW:dg X.prog X.w H' s'.heap)(hg:AllBare s'.gens) (lW:∀b∈ch,(b∈X.ex\/X.s₀.heap.objs.size<=b)/\b≠X.env.locals/\(∀x c,X.env.cells.lookup x=some c->c≠b)/\∀p∈X.pn++aj,p.1≠b):Inv X aj O H' s':=by obtain⟨h',g',d',t',o'⟩:=s';have e:o'=s.os:=ho;subst e;exact I.call (g':=g') (t':=t') (d':=d') u aW hg lW
end
abbrev XK:=Value->Option Addr->Hp->Prop
abbrev St:=List (Option V)
abbrev VK:=V->Hp->Prop
abbrev TE:=St->Hp->VK->Prop
abbrev TT:=St->Hp->(Bool->Hp->Prop)->Prop
abbrev TA:=St->Hp->(List V->Hp->Prop)->Prop
structure Ends where
 nx:St->Hp->Prop
 rt:VK
 bk:St->Hp->Prop:=λ_ _=>False
 ct:St->Hp->Prop:=λ_ _=>False
abbrev TS:=Ends->St->Hp->Prop
def EP(X:Cx)(aj:List (Addr×Obj))(O:St)(Q:VK)(u:Value)(s':a8):Prop:=∃v H',Inv X aj O H' s'/\RelV v u/\Q v H'
def TP(X:Cx)(aj:List (Addr×Obj))(O:St)(Q:Bool->Hp->Prop)(b:Bool)(s':a8):Prop:=∃H',Inv X aj O H' s'/\Q b H'
def AP(X:Cx)(aj:List (Addr×Obj))(O:St)(Q:List V->Hp->Prop)(us:List Value)(s':a8):Prop:=∃vs H',Inv X aj O H' s'/\Vals vs us/\Q vs H'
def SP(X:Cx)(aj:List (Addr×Obj))(D:Ends)(f:Flow)(s':a8):Prop:=match f with | .next=>∃σ' H',Inv X aj σ' H' s'/\D.nx σ' H' | .brk=>∃σ' H',Inv X aj σ' H' s'/\D.bk σ' H' | .cont=>∃σ' H',Inv X aj σ' H' s'/\D.ct σ' H' | .ret u=>∃v σ' H',Inv X aj σ' H' s'/\RelV v u/\D.rt v H'
def PE(X:Cx)(e:Expr)(t:TE):Prop:=∀(aj:List (Addr×Obj))(s:a8)(O:St)(H:Hp)(Q:VK),Inv X aj O H s->t O H Q->wpAny (model X.prog X.w) X.A (eval e X.env) (EP X aj O Q) X.xe s
def PT(X:Cx)(e:Expr)(t:TT):Prop:=∀(aj:List (Addr×Obj))(s:a8)(O:St)(H:Hp)(Q:Bool->Hp->Prop),Inv X aj O H s->t O H Q->wpAny (model X.prog X.w) X.A (isTrue e X.env (eval e X.env)) (TP X aj O Q) X.xe s
def PW(X:Cx)(e:Expr)(t:TT):Prop:=∀(whole:Sem Value)(aj:List (Addr×Obj))(s:a8)(O:St)(H:Hp)(Q:Bool->Hp->Prop),Inv X aj O H s->t O H Q->wpAny (model X.prog X.w) X.A (isTrue e X.env whole) (TP X aj O Q) X.xe s
theorem PW.pt{X:Cx}{e:Expr}{t:TT}(h:PW X e t):PT X e t:=h _
def PA(X:Cx)(es:List Expr)(t:TA):Prop:=∀(pos:Pos)(aj:List (Addr×Obj))(s:a8)(O:St)(H:Hp)(Q:List V->Hp->Prop),Inv X aj O H s->t O H Q->wpAny (model X.prog X.w) X.A (spliced (backTo pos (starEach es X.env))) (AP X aj O Q) X.xe s
def PS(X:Cx)(st:Stmt)(t:TS):Prop:=∀(aj:List (Addr×Obj))(s:a8)(O:St)(H:Hp)(D:Ends),Inv X aj O H s->t D O H->wpAny (model X.prog X.w) X.A (exec st X.env) (SP X aj D) X.xe s
def fM(X:Cx)(st:List Stmt)(t:TS):Prop:=∀(aj:List (Addr×Obj))(s:a8)(O:St)(H:Hp)(D:Ends),Inv X aj O H s->t D O H->wpAny (model X.prog X.w) X.A (execs st X.env) (SP X aj D) X.xe s
theorem aL{α:Type}{t:Sem α}{Q Q':α->a8->Prop}{M:Model}{A:ag}{E:Value->a8->Prop}{s:a8}(h:wpAny M A t Q E s)(hQ:∀a s,Q a s->Q' a s):wpAny M A t Q' E s:=dR h hQ λ_ _ x=>x
section
variable {X:Cx}
inductive a3b(i:Nat)(O:St)(H:Hp)(Q:VK):Prop |mk (v:_)(h0:O[i]? =some (some v))(h1:Q v H)
def Hi(i:Nat):TE:=λO H Q=>a3b i O H Q
def tC (v:V):TE:=λ_ H Q=>Q v H
theorem Tq{i:Nat}{x:Str}{pos:Pos}(hN:X.N[i]? =some x)(hv:FY X.env.scope x)(hd:(x==("__debug__":Str))=false:=by decide)(e9:(x==("__classdict__":Str))=false:=by decide):PE X (.Name x pos) (Hi i):=by
 intro aj s O H Q I h;obtain⟨v,e,h⟩:=h;obtain⟨m,hn,hl⟩:=I.loc;obtain⟨u,r,l⟩:=hl i x v hN e hv;have fin:EP X aj O Q u s:=⟨v,H,I,r,h⟩;rcases l with⟨hk,hm⟩|⟨hk,c,hc,lX⟩
 ·exact wpAny_Name (wpAny_loadName_local I.ok.kind hk hn hm fin) hd
 ·rcases hk with hk|hk
  ·exact wpAny_Name (wpAny_loadName_cell I.ok.kind hk hc lX fin) hd
  ·exact wpAny_Name (wpAny_loadName_free I.ok.kind hk hc lX fin e9) hd
theorem aw{i j pos}:PE X (.Constant (.int i) j pos) (tC (.int i)):=λ_ _ _ H _ I h=>wpAny_Constant_int ⟨.int i,H,I.tok _,⟨_,Z⟩,h⟩
theorem iP{b j pos}:PE X (.Constant (.bool b) j pos) (tC (.bl b)):=λ_ _ _ H _ I h=>Constant_bool ⟨.bl b,H,I,Z,h⟩
theorem fi{j pos}:PE X (.Constant .none j pos) (tC .bM):=λ_ _ _ H _ I h=>Constant_none ⟨.bM,H,I,Z,h⟩
theorem dY{x j pos}:PE X (.Constant (.str x) j pos) (tC (.str x)):=λ_ _ _ H _ I h=>Calls.Constant_str ⟨.str x,H,I.tok _,⟨_,Z⟩,h⟩
def Gl(X:Cx)(x:Str):Prop:=X.env.kindOf x=some .globalImplicit
theorem tJ{E:Value->a8->Prop}{aj:List (Addr×Obj)}{s:a8}{O:St}{H:Hp}{x:Str}{u:Value}{pos:Pos}{Q:Value->a8->Prop}(I:Inv X aj O H s)(hg:Gl X x)(hm:X.mg x=some u)(h:Q u s) (hd:(x==("__debug__":Str))=false:=by decide):wpAny (model X.prog X.w) X.A (eval (.Name x pos) X.env) Q E s:=Calls.Name_function_global I.ok.kind hg (Calls.loadGlobal_global (by rw[I.ok.glob];exact I.mod.glob.keeps I.bk) hm h) hd
theorem oM{E:Value->a8->Prop}{aj:List (Addr×Obj)}{s:a8}{O:St}{H:Hp}{x:Str}{u:Value}{pos:Pos}{Q:Value->a8->Prop}(I:Inv X aj O H s)(hg:Gl X x)(hm:X.mg x=none)(hv:bootBuiltins x=some u)(h:Q u s) (hn:x≠"__name__":=by decide)(hd:(x==("__debug__":Str))=false:=by decide):wpAny (model X.prog X.w) X.A (eval (.Name x pos) X.env) Q E s:=by obtain⟨mb,h1,h2⟩:=I.mod.blt;exact Calls.Name_function_global I.ok.kind hg (Calls.loadGlobal_builtin (by rw[I.ok.glob];exact I.mod.glob.keeps I.bk) hm (by rw[I.ok.blt];exact h1.keeps I.bk) ((h2 x hn).trans hv) h) hd
theorem Ts{x:Str}{v:V}{u:Value}{pos:Pos}(hg:Gl X x)(hm:X.mg x=some u)(r:RelV v u)(hd:(x==("__debug__":Str))=false:=by decide):PE X (.Name x pos) (tC v):=λ_ _ _ H _ I h=>tJ I hg hm ⟨v,H,I,r,h⟩ hd
theorem eU{x:Str}{v:V}{u:Value}{pos:Pos}(hg:Gl X x)(hm:X.mg x=none)(hv:bootBuiltins x=some u)(r:RelV v u)(hn:x≠"__name__":=by decide)(hd:(x==("__debug__":Str))=false:=by decide):PE X (.Name x pos) (tC v):=λ_ _ _ H _ I h=>oM I hg hm hv ⟨v,H,I,r,h⟩ hn hd
variable {a b:Expr}{ta tb:TE}{pos:Pos}
inductive ItB(Q:Bool->Hp->Prop)(x:V)(H1:Hp):Prop |mk (c:_)(h0:x= .bl c)(h1:Q c H1)
def tB(t:TE):TT:=λO H Q=>t O H λx H1=>ItB Q x H1
theorem bZ{e:Expr}{t:TE}(h:PE X e t)(he:∀whole,isTrue e X.env whole=(do let v<-whole;standAt e.pos;holding [v] (truthy v)):=by intro _;rfl):PT X e (tB t):=by intro aj s O H Q I hw;refine isTrue_plain (aL (h aj s O H _ I hw) λv s1 ⟨x,H1,I1,r1,q1⟩=>?_) (he _);obtain⟨d,rfl,q⟩:=q1;cases r1;exact nL ⟨H1,I1,q⟩
variable {tA y8:TT} {rest:List Expr}
def QQ(t u:TT):TT:=λO H Q=>t O H λc H1=>if c=true then u O H1 Q else Q false H1
def Qw(t u:TT):TT:=λO H Q=>t O H λc H1=>if c=true then Q true H1 else u O H1 Q
def Qy(t:TT):TT:=λO H Q=>t O H λc H1=>Q (!c) H1
theorem vq(ha:PT X a tA):PW X (.BoolOp .And [a] pos) tA:=by intro wh aj s O H Q I h;refine isTrue_and (aL (ha aj s O H Q I h) λc s1 e=>?_);cases c with |true=>exact isTrue_and_nil e |false=>exact e
theorem je(ha:PT X a tA):PW X (.BoolOp .Or [a] pos) tA:=by intro wh aj s O H Q I h;refine isTrue_or (aL (ha aj s O H Q I h) λc s1 e=>?_);cases c with |false=>exact isTrue_or_nil e |true=>exact e
theorem sZ(ha:PT X a tA)(hb:PW X (.BoolOp .And (b::rest) pos) y8):PW X (.BoolOp .And (a::b::rest) pos) (QQ tA y8):=by intro wh aj s O H Q I h;refine isTrue_and (aL (ha aj s O H _ I h) λc s1 ⟨H1,I1,q1⟩=>?_);cases c with |true=>exact hb wh aj s1 O H1 Q I1 q1 |false=>exact⟨H1,I1,q1⟩
theorem fT(ha:PT X a tA)(hb:PW X (.BoolOp .Or (b::rest) pos) y8):PW X (.BoolOp .Or (a::b::rest) pos) (Qw tA y8):=by intro wh aj s O H Q I h;refine isTrue_or (aL (ha aj s O H _ I h) λc s1 ⟨H1,I1,q1⟩=>?_);cases c with |true=>exact⟨H1,I1,q1⟩ |false=>exact hb wh aj s1 O H1 Q I1 q1
theorem cT(ha:PT X a tA):PT X (.UnaryOp .Not a pos) (Qy tA):=by intro aj s O H Q I h;exact isTrue_not (ha aj s O H (λc H1=>Q (!c) H1) I h)
inductive a3k(tb:TE)(O:St)(Q:VK)(x:V)(H1:Hp):Prop |mk (c:_)(h0:x= .bl c)(h1:if c=true then tb O H1 Q else Q (.bl false) H1)
def QP(ta tb:TE):TE:=λO H Q=>ta O H λx H1=>a3k tb O Q x H1
inductive a3g(Q:VK)(x:V)(H1:Hp):Prop |mk (c:_)(h0:x= .bl c)(h1:Q (.bl (!c)) H1)
def Qx(ta:TE):TE:=λO H Q=>ta O H λx H1=>a3g Q x H1
theorem jg{op}{t:TE}(h:PE X a t):PE X (.BoolOp op [a] pos) t:=λaj s O H Q I hw=>BoolOp_one (h aj s O H Q I hw)
theorem iQ(ha:PE X a ta)(hb:PE X (.BoolOp .And (b::rest) pos) tb):PE X (.BoolOp .And (a::b::rest) pos) (QP ta tb):=by intro aj s O H Q I h;refine BoolOp_and (aL (ha aj s O H _ I h) λv s1 ⟨x,H1,I1,r1,q1⟩=>?_);obtain⟨c,rfl,q1⟩:=q1;cases r1;refine nL ?_;cases c with |true=>exact hb aj s1 O H1 Q I1 q1 |false=>exact⟨.bl false,H1,I1,Z,q1⟩
theorem ql(ha:PE X a ta):PE X (.UnaryOp .Not a pos) (Qx ta):=by intro aj s O H Q I h;refine UnaryOp_ (aL (ha aj s O H _ I h) λv s1 ⟨x,H1,I1,r1,q1⟩=>?_);obtain⟨c,rfl,q1⟩:=q1;cases r1;exact not_of (nL ⟨.bl (!c),H1,I1,Z,q1⟩)
def QH(t:TT)(ta tb:TE):TE:=λO H Q=>t O H λc H1=>if c=true then ta O H1 Q else tb O H1 Q
theorem vv{c:Expr}(hc:PT X c tA)(ha:PE X a ta)(hb:PE X b tb):PE X (.IfExp c a b pos) (QH tA ta tb):=by intro aj s O H Q I h;refine wpAny_IfExp (aL (hc aj s O H _ I h) λd s1 ⟨H1,I1,q1⟩=>?_);cases d with |true=>exact ha aj s1 O H1 Q I1 q1 |false=>exact hb aj s1 O H1 Q I1 q1
end
def aF(K:a7)(H:Hp)(a:Addr)(xs:List V):Prop:=Rd H a (.lst xs)\/ ∃(o:Obj)(its:Array Value)(n:Nat),K.lookup a=some o/\o.cls= .type "list"/\o.dict=none/\o.data= .seq its n/\its.size<=sizeLine/\Vals xs its.toList
def aK(K:a7)(H:Hp)(a:Addr)(xs:List V):Prop:=Rd H a (.tup xs)\/ ∃(o:Obj)(its:Array Value)(n:Nat),K.lookup a=some o/\o.cls= .type "tuple"/\o.data= .seq its n/\its.size<=sizeLine/\Vals xs its.toList
def a2R:Value->Option V | .none=>some .bM | .bool b=>some (.bl b) | .int i _=>some (.int i) | .str x _=>some (.str x) | .bytes b _=>some (.wR b) | .float b _=>some (.EZ b) | .ref a=>some (.ref a) | .type n=>some (.ty n) |_=>none
theorem RelV.abs{x:V}{u:Value}(r:RelV x u):a2R u=some x:=by cases x with |bM=>cases r;rfl |bl _=>cases r;rfl |int _=>obtain⟨t,rfl⟩:=r;rfl |str _=>obtain⟨t,rfl⟩:=r;rfl |wR _=>obtain⟨t,rfl⟩:=r;rfl |EZ _=>obtain⟨t,rfl⟩:=r;rfl |ref _=>cases r;rfl |ty _=>cases r;rfl
theorem RelV.inj{x y:V}{u:Value}(r:RelV x u)(q:RelV y u):x=y:=dv (r.abs.symm.trans q.abs)
theorem Vals.inj:∀{xs ys:List V}{us:List Value},Vals xs us->Vals ys us->xs=ys |_,_,_,.nil,.nil=>rfl |_,_,_,.cons r t,.cons r' t'=>by rw[r.inj r',Vals.inj t t']
section
variable {X:Cx}{aj:List (Addr×Obj)}{O:St}{H:Hp}{s:a8}{a:Addr}{xs ys:List V}
theorem aF.of{K:a7}(h:H a=some (.lst xs)):aF K H a xs:=.inl (.inl h)
theorem aK.of{K:a7}(h:H a=some (.tup xs)):aK K H a xs:=.inl (.inl h)
theorem Inv.list(I:Inv X aj O H s)(h:aF X.K H a xs):∃its:List Value,Vals xs its/\PlainL s.heap a its.toArray/\xs.length<=sizeLine:=by
 rcases h with h|⟨o,its,n,hk,hc,hd,hs,hz,r⟩
 ·obtain⟨z,its,n,r,e⟩:=h.ok I.aW
  exact⟨its,r,⟨_,n,e,Z,Z,Z⟩,z⟩
 ·refine⟨its.toList,r,⟨o,n,I.fB a o hk,hc,hd,by simpa using hs⟩,?_⟩
  have e:=r.length;simp only[xJ]at e
  lia
theorem Inv.tuple(I:Inv X aj O H s)(h:aK X.K H a xs):∃its:List Value,Vals xs its/\IsTup s.heap a its.toArray/\xs.length<=sizeLine:=by
 rcases h with h|⟨o,its,n,hk,hc,hs,hz,r⟩
 ·obtain⟨z,its,r,p⟩:=h.ok I.aW
  exact⟨its,r,p,z⟩
 ·refine⟨its.toList,r,⟨o,I.fB a o hk,hc,n,by simpa using hs⟩,?_⟩
  have e:=r.length;simp only[xJ]at e
  lia
theorem Inv.Ls(I:Inv X aj O H s)(h:aF X.K H a xs)(h':aF X.K H a ys):xs=ys:=by
 obtain⟨its,r,⟨o,n,e,_,_,d⟩,_⟩:=I.list h;obtain⟨its',r',⟨o',n',e',_,_,d'⟩,_⟩:=I.list h';rw[e]at e';cases e';rw[d]at d';injection d' with d1 _;have:its=its':=by simpa using congrArg Array.toList d1
 subst this;exact r.inj r'
theorem Inv.GY(I:Inv X aj O H s)(h:aK X.K H a xs)(h':aK X.K H a ys):xs=ys:=by
 obtain⟨its,r,⟨o,e,_,n,d⟩,_⟩:=I.tuple h;obtain⟨its',r',⟨o',e',_,n',d'⟩,_⟩:=I.tuple h';rw[e]at e';cases e';rw[d]at d';injection d' with d1 _;have:its=its':=by simpa using congrArg Array.toList d1
 subst this;exact r.inj r'
end
abbrev Cx.iH(X:Cx)(E:Value->a8->Prop):Cx:={X with xe:=E}
abbrev Cx.oA(X:Cx):Cx:=X.iH λ_ _=>False
theorem Cx.Ok.iH{X:Cx}(ok:X.Ok)(E:Value->a8->Prop):(X.iH E).Ok:=⟨ok.mod,ok.kind,ok.glob,ok.blt,ok.above,ok.inj,ok.has,ok.pI,ok.hd,ok.frames,ok.qc,ok.wA,ok.bs,ok.jy,ok.oE,ok.m6,ok.hX,ok.kF⟩
theorem Cx.Ok.kX{X:Cx}{E:Value->a8->Prop}(ok:(X.iH E).Ok):X.Ok:=⟨ok.mod,ok.kind,ok.glob,ok.blt,ok.above,ok.inj,ok.has,ok.pI,ok.hd,ok.frames,ok.qc,ok.wA,ok.bs,ok.jy,ok.oE,ok.m6,ok.hX,ok.kF⟩
section
variable {X:Cx}{aj:List (Addr×Obj)}{O:St}{H:Hp}{s:a8}{E:Value->a8->Prop}
theorem Inv.iH(I:Inv X aj O H s)(E:Value->a8->Prop):Inv (X.iH E) aj O H s:=⟨I.ok.iH E,I.os,I.bare,I.ao,I.loc,I.cell,I.free,I.iu,I.pin,I.aW,I.len⟩
theorem Inv.kX(I:Inv (X.iH E) aj O H s):Inv X aj O H s:=⟨I.ok.kX,I.os,I.bare,I.ao,I.loc,I.cell,I.free,I.iu,I.pin,I.aW,I.len⟩
theorem SP.kX{D:Ends}{f:Flow}{s':a8}(h:SP (X.iH E) aj D f s'):SP X aj D f s':=by cases f with |next=>obtain⟨σ',H',I,q⟩:=h;exact⟨σ',H',I.kX,q⟩ |brk=>obtain⟨σ',H',I,q⟩:=h;exact⟨σ',H',I.kX,q⟩ |cont=>obtain⟨σ',H',I,q⟩:=h;exact⟨σ',H',I.kX,q⟩ |ret u=>obtain⟨v,σ',H',I,r,q⟩:=h;exact⟨v,σ',H',I.kX,r,q⟩
theorem fM.oA{st:List Stmt}{t:TS}(h:fM X.oA st t):fM X st t:=λaj s O H D I hw=>dR (h aj s O H D (I.iH _) hw) (λ_ _ q=>q.kX) λ_ _ z=>False.elim z
end
section
variable {X:Cx}{st:Stmt}{rest:List Stmt}{t u:TS}{e:Expr}{te:TE}{pos:Pos}
def QB:TS:=λD O H=>D.nx O H
def uP(t u:TS):TS:=λD O H=>t {D with nx:=u D} O H
theorem bH:fM X [] QB:=λ_ _ O H _ I h=>Ao ⟨O,H,I,h⟩
theorem aB(h1:PS X st t)(h2:fM X rest u):fM X (st::rest) (uP t u):=by intro aj s O H D I h;refine Gb (aL (h1 aj s O H {D with nx:=u D} I h) λf s1 q=>?_);cases f with |next=>obtain⟨σ',H',I',q⟩:=q;exact h2 aj s1 σ' H' D I' q |ret v=>exact q |brk=>exact q |cont=>exact q
theorem aD(h1:PS X st t):fM X [st] t:=by intro aj s O H D I h;refine Gb (aL (h1 aj s O H D I h) λf s1 q=>?_);cases f with |next=>exact Ao q |ret v=>exact q |brk=>exact q |cont=>exact q
theorem Inv.quiet{aj:List (Addr×Obj)}{O:St}{H:Hp}{s:a8}(I:Inv X aj O H s):interactive X.env=false:=by simp[interactive,I.ok.kind]
def QL(te:TE):TS:=λD O H=>te O H λ_ H1=>D.nx O H1
theorem fU(he:PE X e te)(hs:swapsWith e none pos.line X.env=pure false:=by rfl):PS X (.Expr e pos) (QL te):=by intro aj s O H D I h;exact wpAny_Expr_any (aL (he aj s O H _ I h) λv s1 ⟨x,H1,I1,r1,q1⟩=>⟨O,H1,I1,q1⟩) I.quiet hs
def Qs(te:TE):TS:=λD O H=>te O H D.rt
theorem aU(he:PE X e te):PS X (.Return (some e) pos) (Qs te):=by intro aj s O H D I h;exact wpAny_Return_some (aL (he aj s O H _ I h) λv s1 ⟨x,H1,I1,r1,q1⟩=>⟨x,O,H1,I1,r1,q1⟩)
def QG(c:TT)(t u:TS):TS:=λD O H=>c O H λb H1=>if b=true then t D O H1 else u D O H1
theorem bD{c:Expr}{a b:List Stmt}{tc:TT}(hc:PT X c tc)(ha:fM X a t)(hb:fM X b u):PS X (.If c a b pos) (QG tc t u):=by intro aj s O H D I h;refine wpAny_If (aL (hc aj s O H _ I h) λd s1 ⟨H1,I1,q1⟩=>?_);cases d with |true=>exact ha aj s1 O H1 D I1 q1 |false=>exact hb aj s1 O H1 D I1 q1
def QC:TS:=λ_ _ _=>False
theorem Dv:PS X st QC:=λ_ _ _ _ _ _ h=>h.elim
end
abbrev TG:=V->St->Hp->(St->Hp->Prop)->Prop
abbrev mm:=List V->St->Hp->(St->Hp->Prop)->Prop
def PG(X:Cx)(target:Expr)(t:TG):Prop:=∀(aj:List (Addr×Obj))(s:a8)(O:St)(H:Hp)(v:V)(u:Value)(Q:St->Hp->Prop),Inv X aj O H s->RelV v u->t v O H Q->wpAny (model X.prog X.w) X.A (assign target X.env u) (λ_ s'=>∃σ' H',Inv X aj σ' H' s'/\Q σ' H') X.xe s
def xj(X:Cx)(ts:List Expr)(t:mm):Prop:=∀(aj:List (Addr×Obj))(s:a8)(O:St)(H:Hp)(vs:List V)(us:List Value)(Q:St->Hp->Prop),Inv X aj O H s->Vals vs us->t vs O H Q->wpAny (model X.prog X.w) X.A (assignInOrder ((assignEach ts X.env).map (·.2)) us) (λ_ s'=>∃σ' H',Inv X aj σ' H' s'/\Q σ' H') X.xe s
abbrev G1:=V->V->V->Hp->(Hp->Prop)->Prop
def Ox(X:Cx)(t:G1):Prop:=∀(aj:List (Addr×Obj))(s:a8)(O:St)(H:Hp)(o i v:V)(ov iv u:Value)(Q:Hp->Prop),Inv X aj O H s->RelV o ov->RelV i iv->RelV v u->t o i v H Q->wpAny (model X.prog X.w) X.A (setItem ov iv u) (λ_ s'=>∃H',Inv X aj O H' s'/\Q H') X.xe s
section
variable {X:Cx} {pos:Pos}
def fE(i:Nat):TG:=λv O H Q=>Q (O.set i (some v)) H
theorem Tp{i:Nat}{x:Str}(hN:X.N.Nodup)(hi:X.N[i]? =some x)(hx:Loc X.env.scope x)(hf:X.fn x=true\/X.env.scope.names.lookup x=some .local:=by first|exact .inl rfl|exact .inr rfl|assumption):PG X (.Name x pos) (fE i):=by intro aj s O H v u Q I r h;exact wpAny_assign_Name (sI I hN hi hx r (λs' I'=>⟨_,H,I',h⟩) hf)
def ES:mm:=λvs O H Q=>vs=[]/\Q O H
inductive a4W(t:TG)(u:mm)(vs:List V)(O:St)(H:Hp)(Q:St->Hp->Prop):Prop |mk (v:_)(r:_)(h0:vs=v::r)(h1:t v O H λσ' H'=>u r σ' H' Q)
def wo(t:TG)(u:mm):mm:=λvs O H Q=>a4W t u vs O H Q
theorem cU:xj X [] ES:=by intro aj s O H vs us Q I r h;obtain⟨e,h⟩:=h;subst e;cases r;exact assignInOrder_nil ⟨O,H,I,h⟩
theorem bF{e:Expr}{es:List Expr}{t:TG}{u:mm}(h1:PG X e t)(h2:xj X es u) (hs:(assignEach (e::es) X.env).map (·.2)=assign e X.env::(assignEach es X.env).map (·.2):=by rfl):xj X (e::es) (wo t u):=by intro aj s O H vs us Q I r h;obtain⟨v,vr,e1,h⟩:=h;subst e1;cases r with |cons r rr=>rw[hs];refine assignInOrder_cons (aL (h1 aj s O H _ _ _ I r h) λ_ s1 ⟨σ1,H1,I1,q1⟩=>?_);exact h2 aj s1 σ1 H1 _ _ Q I1 rr q1
inductive a4V(K:a7)(n:Nat)(t:mm)(v:V)(O:St)(H:Hp)(Q:St->Hp->Prop):Prop |mk (a:_)(xs:_)(h0:v= .ref a)(h1:aK K H a xs)(h2:xs.length=n)(h3:t xs O H Q)
def zI(K:a7)(n:Nat)(t:mm):TG:=λv O H Q=>a4V K n t v O H Q
theorem Tn{es:List Expr}{k:Nat}{t:mm}{n:Nat}(hc:X.calm=true)(h:xj X es t) (hn:(assignEach es X.env).length=n:=by rfl)(jn:(assignEach es X.env).findIdx? (·.1)=none:=by rfl):PG X (.Tuple es k pos) (zI X.K n t):=by intro aj s O H v u Q I r hw;obtain⟨a,xs,e1,hq,hl,hw⟩:=hw;subst e1;cases r;obtain⟨its,rv,ht,hz⟩:=I.tuple hq;refine assign_Tuple_tuple (I.ok.hd hc) ht (by simp[hn,<-hl,rv.length]) jn λh' hx=>?_;have I1:Inv X aj O H {s with heap:=h'}:=I.kept (t':=s.toks) λb o e=>hx b o (dw (bS e)) e;exact h aj _ O H xs _ Q I1 (by simpa using rv) hw
def ZG(to ti:TE)(t:G1):TG:=λv O H Q=>to O H λo H1=>ti O H1 λi H2=>t o i v H2 λH3=>Q O H3
theorem oq{o i:Expr}{to ti:TE}{t:G1}(ho:PE X o to)(hi:PE X i ti)(hs:Ox X t) (ha:∀v,assign (.Subscript o i pos) X.env v=(do
 let ov<-holding [v] (eval o X.env)
 let iv<-holding [v,ov] (eval i X.env)
 standAt pos
 holding [v,ov,iv] (setItem ov iv v)
 release [v,ov,iv] []):=by intro _;rfl):PG X (.Subscript o i pos) (ZG to ti t):=by
 intro aj s O H v u Q I r h;rw[ha];refine az (gU (aL (ho aj s O H _ I h) λov s1 ⟨x,H1,I1,r1,q1⟩=>?_));refine az (gU (aL (hi aj s1 O H1 _ I1 q1) λiv s2 ⟨y,H2,I2,r2,q2⟩=>?_));refine az (kR (az (gU (aL (hs aj s2 O H2 x y v ov iv u _ I2 r1 r2 r q2) λ_ s3 ⟨H3,I3,q3⟩=>?_))));exact wpAny_release ⟨O,H3,I3,q3⟩
def y9(te:TE)(g:TG):TS:=λD O H=>te O H λx H1=>g x O H1 D.nx
theorem eG{tg e:Expr}{te:TE}{g:TG}(he:PE X e te)(hg:PG X tg g)(hs:swapsWithSole [tg] e pos.line X.env=pure false:=by rfl)(hw:swappedStores [tg] e X.env=pure none:=by rfl) (h1:(assignEach [tg] X.env).map (·.2)=[assign tg X.env]:=by rfl):PS X (.Assign [tg] e pos) (y9 te g):=by intro aj s O H D I h;refine wpAny_Assign_stores (aL (he aj s O H _ I h) λv s1 ⟨x,H1,I1,r1,q1⟩=>?_) hs hw;rw[h1];exact aL (hg aj s1 O H1 x v _ I1 r1 q1) λ_ s2 q=>q
theorem Ka{i:Nat}{x:Str}{e:Expr}{te:TE}{pos':Pos}(hN:X.N.Nodup)(hi:X.N[i]? =some x)(hx:Loc X.env.scope x)(he:PE X e te)(hs:swapsWith e (some (.Name x pos')) pos.line X.env=pure false:=by rfl)(hf:X.fn x=true\/X.env.scope.names.lookup x=some .local:=by first|exact .inl rfl|exact .inr rfl|assumption): PS X (.Assign [.Name x pos'] e pos) (y9 te (fE i)):=by intro aj s O H D I h;refine wpAny_Assign_Name (aL (he aj s O H _ I h) λv s1 ⟨y,H1,I1,r1,q1⟩=>?_) hs;exact sI I1 hN hi hx r1 (λs2 I2=>⟨_,H1,I2,q1⟩) hf
inductive a3f(i:Nat)(j:Nat)(D:Ends)(O:St)(vs:List V)(H1:Hp):Prop |mk (v:_)(w:_)(h0:vs=[v,w])(h1:D.nx ((O.set i (some v)).set j (some w)) H1)
def Qv(i j:Nat)(ta:TA):TS:=λD O H=>ta O H λvs H1=>a3f i j D O vs H1
theorem mL{i j:Nat}{x y:Str}{a b:Expr}{ta:TA}{px py pt:Pos} {kt k2 Du}(hc:X.calm=true)(hN:X.N.Nodup)(hi:X.N[i]? =some x)(hj:X.N[j]? =some y)(Y4:i≠j) (hx:X.env.scope.names.lookup x=some .local)(hy:X.env.scope.names.lookup y=some .local)(ha:PA X [a,b] ta) (hw:swappedStores [.Tuple [.Name x px,.Name y py] kt pt] (.Tuple [a,b] k2 Du) X.env=pure (some [x,y])) (hs:swapsWithSole [.Tuple [.Name x px,.Name y py] kt pt] (.Tuple [a,b] k2 Du) pos.line X.env=pure false:=by rfl): PS X (.Assign [.Tuple [.Name x px,.Name y py] kt pt] (.Tuple [a,b] k2 Du) pos) (Qv i j ta):=by
 intro aj s O H D I h;rw[exec_Assign_arm];refine az (kR ?_);rw[hs];refine az (bc ?_);rw[aO au];refine az (Tuple_ (aL (ha _ aj s O H _ I h) λus s1 ⟨vs,H1,I1,r1,q1⟩=>?_));obtain⟨v,w,e1,q1⟩:=q1;subst e1;obtain⟨u1,u2,rfl,rv,fy⟩:∃u1 u2,us=[u1,u2]/\RelV v u1/\RelV w u2:=by cases r1 with |cons p q=>cases q with |cons p' q'=>cases q';exact⟨_,_,Z,p,p'⟩
 refine mx ?_ (by show 2<=sizeLine;decide);have I2:Inv X aj O H1 {s1 with heap:=s1.heap.push {cls:=.type "tuple",data:=.seq [u1,u2].toArray}}:=I1.kept (t':=s1.toks) λb o e=>bV _ e;rw[hw];refine az (bc ?_);show wpAny (model X.prog X.w) X.A (do rule "assign.swapped-stores";let items<-unpackItems (.ref s1.heap.objs.size) 2 none;assignInOrder [λv=>bindName X.env y v,λv=>bindName X.env x v] items.reverse;pure Flow.next) _ _ _;refine az (uo (az (unpackItems_tuple (items:=#[u1,u2]) (I.ok.hd hc) (IsTup.new s1.heap _) λh' X8=>?_)));have I3:=I2.kept (h':=h') (t':=s1.toks) λb o e=>X8 b o (dw (bS e)) e;show wpAny _ _ (assignInOrder [λv=>bindName X.env y v,λv=>bindName X.env x v] [u2,u1]>>=λ_=>pure Flow.next) _ _ _;refine az (assignInOrder_cons (wpAny_bindName (sI I3 hN hj (.inl hy) fy (λs2 I4=>?_) (.inr hy))));refine assignInOrder_cons (wpAny_bindName (sI I4 hN hi (.inl hx) rv (λs3 I5=>assignInOrder_nil (bc ?_)) (.inr hx)));rw[List.set_comm _ _ (iD Y4)]at I5;exact⟨_,H1,I5,q1⟩
def Hh(c:TT)(tb:TS):TS:=λD O H=>∃W:Nat->St->Hp->Prop,(∃m,W m O H)/\∀m O H,W m O H->c O H λb H1=>if b=true then∃N:St->Hp->Prop,(∀σ' H',N σ' H'->∃m',m'<m/\W m' σ' H')/\tb {D with nx:=N,ct:=N,bk:=D.nx} O H1 else D.nx O H1
theorem qk{c:Expr}{body:List Stmt}{tc:TT}{tb:TS}(hp:PassesOwn (model X.prog X.w) X.A X.env X.xe)(hc:PT X c tc)(hb:fM X body tb):PS X (.While c body [] pos) (Hh tc tb):=by intro aj s O H D I h;obtain⟨W,⟨m0,w0⟩,turn⟩:=h;refine wpAny_While (codeAny_whileLoop (λn s'=>∃σ' H',Inv X aj σ' H' s'/\W n σ' H') ?_ m0 ⟨O,H,I,w0⟩);rintro n s1 ⟨σ1,H1,I1,w1⟩;refine uq hp (aL (hc aj s1 σ1 H1 _ I1 (turn n σ1 H1 w1)) λb s2 ⟨H2,I2,q2⟩=>?_);cases b with
 |true=>obtain⟨N,hN,q2⟩:=q2;rw[aR rfl];refine uq hp (aL (hb aj s2 σ1 H2 _ I2 q2) λf s3 q3=>?_);cases f with |next=>obtain⟨σ3,H3,I3,n3⟩:=q3;obtain⟨m',hm,w3⟩:=hN σ3 H3 n3;exact⟨m',hm,σ3,H3,I3,w3⟩ |cont=>obtain⟨σ3,H3,I3,n3⟩:=q3;obtain⟨m',hm,w3⟩:=hN σ3 H3 n3;exact⟨m',hm,σ3,H3,I3,w3⟩ |brk=>exact q3 |ret v=>exact q3
 |false=>rw[aO fQ];exact Ao ⟨σ1,H2,I2,q2⟩
end
structure It where
 go:Nat->Hp->Prop
 gH:Nat->Hp->V->Hp->Prop
 stop:Nat->Hp->Prop
def i7(X:Cx)(aj:List (Addr×Obj))(H:Hp)(b:Addr):Prop:=H b=none/\b≠X.env.locals/\b∉X.fs/\(b∈X.ex\/X.s₀.heap.objs.size<=b)/\(∀x c,X.env.cells.lookup x=some c->c≠b)/\∀p∈X.pn++aj,p.1≠b
theorem Inv.p9{X:Cx}{aj:List (Addr×Obj)}{O:St}{H H':Hp}{s:a8}{b:Addr}(I:Inv X aj O H s)(hb:s.heap.objs.size<=b)(hn:H' b=none):i7 X aj H' b:=by
 refine⟨hn,xC (fH I.lt hb),I.Vz hb,.inr (fe I.sz hb),λx c e z=>?_,λp hp z=>?_⟩
 ·obtain⟨v,q⟩:=I.cell x c e
  exact absurd (fH q.lt (by rw[z];exact hb)) (ux _)
 ·exact absurd (fH (bS (I.pin p hp).1) (by rw[z];exact hb)) (ux _)
structure Turn(P:a9)(w:World)(K:a7)(tg:Expr)(J:It)(fp:List Addr)(it:Addr)(tn:Nat->Heap->Prop):Prop where
 mem:it∈fp
 obj:∀i h,tn i h->∀b∈fp,∃o,h.get? b=some o/\∀v,o.data≠ .cell v
 keep:∀i h h',tn i h->(∀b∈fp,∀o,h.get? b=some o->h'.get? b=some o)->tn i h'
 item:∀(X:Cx),X.prog=P->X.w=w->X.K=K->X.calm=true->∀(i:Nat)(aj:List (Addr×Obj))(s:a8)(O:St)(H:Hp)(E:Value->a8->Prop),Inv X aj O H s->(∀b∈fp,i7 X aj H b)->tn i s.heap->J.go i H->wpAny (model P w) X.A (pyNext (.ref it)) (λr s1=>∃u,r=some u/\wpAny (model P w) X.A (letOwnedTupleGo tg (.ref it) u) (λ_ s2=>∃x H',Inv X aj O H' s2/\RelV x u/\J.gH i H x H'/\tn (i+1) s2.heap/\∀b∈fp,H' b=none) E s1) E s
 done:∀(X:Cx),X.prog=P->X.w=w->X.K=K->X.calm=true->∀(i:Nat)(aj:List (Addr×Obj))(s:a8)(O:St)(H:Hp)(E:Value->a8->Prop),Inv X aj O H s->(∀b∈fp,i7 X aj H b)->tn i s.heap->J.stop i H->wpAny (model P w) X.A (pyNext (.ref it)) (λr s1=>r=none/\Inv X aj O H s1) E s
 self:∀(A:ag)(i:Nat)(s:a8)(Q:Value->a8->Prop)(E:Value->a8->Prop),tn i s.heap->Q (.ref it) s->wpAny (model P w) A (pyIter (.ref it)) Q E s
abbrev TI:=St->Hp->(It->Hp->Prop)->Prop
def G5(X:Cx)(aj:List (Addr×Obj))(O:St)(tg:Expr)(R:It->Hp->Prop)(vT:Value)(s2:a8):Prop:=∃(it:Addr)(fp:List Addr)(tn:Nat->Heap->Prop)(J:It)(H':Hp),vT= .ref it/\Inv X aj O H' s2/\Turn X.prog X.w X.K tg J fp it tn/\tn 0 s2.heap/\(∀b∈fp,i7 X aj H' b)/\R J H'
def PI(X:Cx)(tg iter:Expr)(wi:TI):Prop:=∀(aj:List (Addr×Obj))(s:a8)(O:St)(H:Hp)(R:It->Hp->Prop),Inv X aj O H s->wi O H R->wpAny (model X.prog X.w) X.A (eval iter X.env) (λv s1=>wpAny (model X.prog X.w) X.A (pyIter v) (G5 X aj O tg R) X.xe s1) X.xe s
theorem wm{M:Model}{A:ag}{E:Value->a8->Prop}{s:a8}{tg:Expr}{it:Addr}{u:Value}{o:Obj}{n:String}{vs:Array Value}{Q:Unit->a8->Prop}(ho:s.heap.get? it=some o)(hc:o.cls= .type n)(hd:o.data= .fields vs) (hn:["enumerate","zip","dict_itemiterator","dict_reverseitemiterator","odict_iterator","itertools.zip_longest","itertools.pairwise"].contains n=false)(hQ:Q () s):wpAny M A (letOwnedTupleGo tg (.ref it) u) Q E s:=by unfold letOwnedTupleGo;cases tg<;>first |exact bc hQ |(cases u<;>first
        |exact bc hQ
        | (refine az (wpAny_load ho ?_)
           rw[hc,hd];show wpAny M A (if(["enumerate","zip","dict_itemiterator","dict_reverseitemiterator","odict_iterator","itertools.zip_longest","itertools.pairwise"].contains n&&vs[0]? ==some (rawInt _))=true then _ else _) Q E s;rw[aO (by intro h;rw[hn,iG]at h;cases h)];exact bc hQ))
def pN(K:a7)(a:Addr):It:=⟨λi H=>∃xs x,aF K H a xs/\xs[i]? =some x,λi H x H'=>H'=H/\∀xs,aF K H a xs->xs[i]? =some x,λi H=>∃xs,aF K H a xs/\xs.length<=i⟩
def pM(K:a7)(a:Addr):It:=⟨λi H=>∃xs x,aK K H a xs/\xs[i]? =some x,λi H x H'=>H'=H/\∀xs,aK K H a xs->xs[i]? =some x,λi H=>∃xs,aK K H a xs/\xs.length<=i⟩
def mr(lo:Int)(n:Nat):It:=⟨λi _=>i<n,λi H x H'=>H'=H/\x= .int (lo+i),λi _=>n<=i⟩
theorem Qb{P:a9}{w:World}{K:a7}{tg:Expr}(a it:Addr):Turn P w K tg (pN K a) [it] it (λi h=>h.IsListIter it a i) where
 mem:=by simp
 obj:=λi h st b hb=>by
  have e:b=it:=by simpa using hb
  subst e;obtain⟨o,e,c,d⟩:=st;exact⟨o,e,λv z=>by rw[d]at z;cases z⟩
 keep:=λi h h' st k=>st.at λo e=>k it (by simp) o e
 item:=by intro X hP hw hK hc i aj s O H E I hf st hg;subst hP hw hK;obtain⟨xs,x,hq,hx⟩:=hg;obtain⟨its,rv,p,hz⟩:=I.list hq;obtain⟨u,hu,ru⟩:=rv.get hx;obtain⟨f0,f1,f2,f3,f4,f5⟩:=hf it (by simp);refine wpAny_pyNext_list_item st p.isList (x:=u) (by simpa using hu) λh' gn sb=>?_;have I1:Inv X aj O H {s with heap:=h'}:=I.turned (t':=s.toks) (λb o hb e=>(sb.2 b hb).trans e) f0 f1 f3 f4 f5;obtain⟨o,e,c,d⟩:=id gn;exact⟨u,Z,wm (s:={s with heap:=h'}) e c d au ⟨x,H,I1,ru,⟨Z,λys hy=>by rw[I.Ls hy hq];exact hx⟩,gn,λb hb=>(hf b hb).1⟩⟩
 done:=by intro X hP hw hK hc i aj s O H E I hf st hg;subst hP hw hK;obtain⟨xs,hq,hx⟩:=hg;obtain⟨its,rv,p,hz⟩:=I.list hq;obtain⟨f0,f1,f2,f3,f4,f5⟩:=hf it (by simp);have hl:=rv.length;exact wpAny_pyNext_list_end (I.ok.hd hc) st p.isList (by simp;lia) λh' eb=>⟨Z,I.turned (t':=s.toks) (λb o hb e=>eb b o hb e) f0 f1 f3 f4 f5⟩
 self:=λ_ _ _ _ _ st h=>wpAny_pyIter_listiter st h
theorem Q7{P:a9}{w:World}{K:a7}{tg:Expr}(a it:Addr):Turn P w K tg (pM K a) [it] it (λi h=>h.IsTupleIter it a i) where
 mem:=by simp
 obj:=λi h st b hb=>by
  have e:b=it:=by simpa using hb
  subst e;obtain⟨o,e,c,d⟩:=st;exact⟨o,e,λv z=>by rw[d]at z;cases z⟩
 keep:=λi h h' st k=>st.at λo e=>k it (by simp) o e
 item:=by intro X hP hw hK hc i aj s O H E I hf st hg;subst hP hw hK;obtain⟨xs,x,hq,hx⟩:=hg;obtain⟨its,rv,p,hz⟩:=I.tuple hq;obtain⟨u,hu,ru⟩:=rv.get hx;obtain⟨f0,f1,f2,f3,f4,f5⟩:=hf it (by simp);refine wpAny_pyNext_tuple_item st (show s.heap.IsTuple a its.toArray from p) (x:=u) (by simpa using hu) λh' gn sb=>?_;have I1:Inv X aj O H {s with heap:=h'}:=I.turned (t':=s.toks) (λb o hb e=>(sb.2 b hb).trans e) f0 f1 f3 f4 f5;obtain⟨o,e,c,d⟩:=id gn;exact⟨u,Z,wm (s:={s with heap:=h'}) e c d au ⟨x,H,I1,ru,⟨Z,λys hy=>by rw[I.GY hy hq];exact hx⟩,gn,λb hb=>(hf b hb).1⟩⟩
 done:=by intro X hP hw hK hc i aj s O H E I hf st hg;subst hP hw hK;obtain⟨xs,hq,hx⟩:=hg;obtain⟨its,rv,p,hz⟩:=I.tuple hq;obtain⟨f0,f1,f2,f3,f4,f5⟩:=hf it (by simp);have hl:=rv.length;exact wpAny_pyNext_tuple_end (I.ok.hd hc) st (show s.heap.IsTuple a its.toArray from p) (by simp;lia) λh' eb=>⟨Z,I.turned (t':=s.toks) (λb o hb e=>eb b o hb e) f0 f1 f3 f4 f5⟩
 self:=λ_ _ _ _ _ st h=>wpAny_pyIter_tupleiter st h
theorem Qa{P:a9}{w:World}{K:a7}{tg:Expr}(it:Addr)(lo:Int)(n:Nat):Turn P w K tg (mr lo n) [it] it (λi h=>IsRangeIter h it (lo+(i:Nat)*1) ((n:Int)-(i:Nat)) 1) where
 mem:=by simp
 obj:=λi h st b hb=>by
  have e:b=it:=by simpa using hb
  subst e;exact⟨_,st,λv z=>by have z':Data.fields _=Data.cell v:=z;cases z'⟩
 keep:=λi h h' st k=>k it (by simp) _ st
 item:=by intro X hP hw hK hc i aj s O H E I hf st hg;subst hP hw hK;obtain⟨f0,f1,f2,f3,f4,f5⟩:=hf it (by simp);have W:=Walks.range (prog:=X.prog) (w:=X.w) (I.ok.hd hc) it lo 1 n;refine W.item i s _ _ hg st λv h' tk hv gn kk=>?_;obtain⟨t,rfl⟩:=hv;have I1:Inv X aj O H {s with heap:=h',toks:=tk}:=I.turned (λb o hb e=>kk b o (by simpa using hb) e) f0 f1 f3 f4 f5;refine⟨_,Z,wm (s:={s with heap:=h',toks:=tk}) (n:="range_iterator") gn rfl rfl au ⟨.int (lo+i),H,I1,⟨t,?_⟩,⟨Z,Z⟩,gn,λb hb=>(hf b hb).1⟩⟩;rw[Int.mul_one]
 done:=by intro X hP hw hK hc i aj s O H E I hf st hg;subst hP hw hK;obtain⟨f0,f1,f2,f3,f4,f5⟩:=hf it (by simp);exact wpAny_pyNext_range_end (I.ok.hd hc) st (by have:n<=i:=hg;lia) λh' eb=>⟨Z,I.turned (t':=s.toks) (λb o hb e=>eb b o hb e) f0 f1 f3 f4 f5⟩
 self:=λ_ _ _ _ _ st h=>OL st h
section
variable {X:Cx} {tg:Expr}
inductive a4T(K:a7)(R:It->Hp->Prop)(x:V)(H1:Hp):Prop |mk (a:_)(h0:x= .ref a)(h1:(∃xs,aF K H1 a xs))(h2:R (pN K a) H1)
def LP(K:a7)(tl:TE):TI:=λO H R=>tl O H λx H1=>a4T K R x H1
inductive a4O(K:a7)(R:It->Hp->Prop)(x:V)(H1:Hp):Prop |mk (a:_)(h0:x= .ref a)(h1:(∃xs,aK K H1 a xs))(h2:R (pM K a) H1)
def LO(K:a7)(tl:TE):TI:=λO H R=>tl O H λx H1=>a4O K R x H1
theorem Tj{l:Expr}{tl:TE}(hl:PE X l tl):PI X tg l (LP X.K tl):=by
 intro aj s O H R I h;refine aL (hl aj s O H _ I h) λv s1 ⟨x,H1,I1,r1,q1⟩=>?_;obtain⟨a,e,⟨xs,hq⟩,q⟩:=q1;subst e;cases r1;obtain⟨its,rv,p,hz⟩:=I1.list hq;refine Am p.isList ?_;refine⟨s1.heap.objs.size,[s1.heap.objs.size],_,_,H1,Z,I1.kept (t':=s1.toks) λb o e=>bV _ e,Qb a _,⟨_,dU _ Z,Z,Z⟩,λb hb=>?_,q⟩;have e:b=s1.heap.objs.size:=by simpa using hb
 subst e;exact I1.p9 (ba _) (I1.aW.fresh (ba _))
theorem Tg{l:Expr}{tl:TE}(hl:PE X l tl):PI X tg l (LO X.K tl):=by
 intro aj s O H R I h;refine aL (hl aj s O H _ I h) λv s1 ⟨x,H1,I1,r1,q1⟩=>?_;obtain⟨a,e,⟨xs,hq⟩,q⟩:=q1;subst e;cases r1;obtain⟨its,rv,p,hz⟩:=I1.tuple hq;refine wpAny_pyIter_tuple (show s1.heap.IsTuple a its.toArray from p) ?_;refine⟨s1.heap.objs.size,[s1.heap.objs.size],_,_,H1,Z,I1.kept (t':=s1.toks) λb o e=>bV _ e,Q7 a _,⟨_,dU _ Z,Z,Z⟩,λb hb=>?_,q⟩;have e:b=s1.heap.objs.size:=by simpa using hb
 subst e;exact I1.p9 (ba _) (I1.aW.fresh (ba _))
theorem K6{aj:List (Addr×Obj)}{O:St}{H:Hp}{s:a8}{R:It->Hp->Prop}{E:Value->a8->Prop}{lo hi:Int}{t u v:Tok}{tk:Nat}(I:Inv X aj O H s)(h1:-(2^62)<=lo)(h2:lo<2^62)(h3:-(2^62)<=hi)(h4:hi<2^62) (q:R (mr lo (hi-lo).toNat) H):wpAny (model X.prog X.w) X.A (pyIter (.ref s.heap.objs.size)) (G5 X aj O tg R) E {s with heap:=s.heap.push {cls:=.type "range",data:=.fields #[.int lo t,.int hi u,.int 1 v]},toks:=tk}:=by
 refine wpAny_pyIter_range (IsRange.new ..) (small_one h1 h2 h3 h4) ?_;have I1:Inv X aj O H {s with heap:=s.heap.push {cls:=.type "range",data:=.fields #[.int lo t,.int hi u,.int 1 v]},toks:=tk}:=I.kept λb o e=>bV _ e;refine⟨(s.heap.push {cls:=.type "range",data:=.fields #[.int lo t,.int hi u,.int 1 v]}).objs.size,[(s.heap.push {cls:=.type "range",data:=.fields #[.int lo t,.int hi u,.int 1 v]}).objs.size],_,_,H,Z,I1.kept (t':=tk) λb o e=>bV _ e,Qa _ lo (hi-lo).toNat,?_,λb hb=>?_,q⟩
 ·have e1:lo+((0:Nat):Int)*1=lo:=by simp
  have e2:(((hi-lo).toNat:Nat):Int)-((0:Nat):Int)=Builtin.Range.rangeSize lo hi 1:=by rw[rangeSize_one];split<;>lia
  show IsRangeIter _ _ (lo+((0:Nat):Int)*1) ((((hi-lo).toNat:Nat):Int)-((0:Nat):Int)) 1;rw[e1,e2];exact dU _ rfl
 ·have e:b=(s.heap.push {cls:=.type "range",data:=.fields #[.int lo t,.int hi u,.int 1 v]}).objs.size:=by simpa using hb
  subst e;exact I1.p9 (ba _) (I1.aW.fresh (ba _))
inductive a4R(R:It->Hp->Prop)(vs:List V)(H1:Hp):Prop |mk (j:Int)(h0:vs=[.int j])(h1:-(2^62)<=j)(h2:j<2^62)(h3:R (mr 0 j.toNat) H1)
def X3(ta:TA):TI:=λO H R=>ta O H λvs H1=>a4R R vs H1
inductive a4Q(R:It->Hp->Prop)(vs:List V)(H1:Hp):Prop |mk (i:Int)(j:Int)(h0:vs=[.int i,.int j])(h1:(-(2^62)<=i/\i<2^62/\-(2^62)<=j/\j<2^62))(h2:R (mr i (j-i).toNat) H1)
def X2(ta:TA):TI:=λO H R=>ta O H λvs H1=>a4Q R vs H1
theorem lA{a:Expr}{ta:TA}{p pos:Pos}(hg:Gl X "range")(hm:X.mg "range"=none)(ha:PA X [a] ta)(hs:starEach [a] X.env=[(false,eval a X.env)]:=by rfl):PI X tg (.Call (.Name "range" p) [a] [] pos) (X3 ta):=by intro aj s O H R I h;refine Call_ (oM I hg hm boot_range (xA (aL (ha pos aj s O H _ I h) λus s1 ⟨vs,H1,I1,r1,q1⟩=>?_) hs Z));obtain⟨j,e,q1,q2,q⟩:=q1;subst e;cases r1 with |cons r rr=>cases rr;obtain⟨t,rfl⟩:=r;exact call_range_1 (K6 I1 ak ak q1 q2 (by simpa using q))
theorem Dy{a b:Expr}{ta:TA}{p pos:Pos}(hg:Gl X "range")(hm:X.mg "range"=none)(ha:PA X [a,b] ta)(hs:starEach [a,b] X.env=[(false,eval a X.env),(false,eval b X.env)]:=by rfl)(ik:starEach [b] X.env=[(false,eval b X.env)]:=by rfl): PI X tg (.Call (.Name "range" p) [a,b] [] pos) (X2 ta):=by intro aj s O H R I h;refine Call_ (oM I hg hm boot_range (xA (aL (ha pos aj s O H _ I h) λus s1 ⟨vs,H1,I1,r1,q1⟩=>?_) (by rw[hs,ik]) (by rw[ik];rfl)));obtain⟨i,j,e,⟨q1,q2,q3,q4⟩,q⟩:=q1;subst e;cases r1 with |cons r rr=>cases rr with |cons r' rr=>cases rr;obtain⟨t,rfl⟩:=r;obtain⟨t',rfl⟩:=r';exact call_range_2 (K6 I1 q1 q2 q3 q4 q)
def QI(wi:TI)(g:TG)(tb:TS):TS:=λD O H=>wi O H λJ H1=>∃W:Nat->Nat->St->Hp->Prop,(∃m,W 0 m O H1)/\∀i m O H,W i m O H->(J.stop i H/\D.nx O H)\/(J.go i H/\∃N:St->Hp->Prop,(∀σ' H',N σ' H'->∃m',m'<m/\W (i+1) m' σ' H')/\∀x H',J.gH i H x H'->g x O H' λσ2 H2=>tb {D with nx:=N,ct:=N,bk:=D.nx} σ2 H2)
def mO(fp:List Addr)(h:Heap):List (Addr×Obj):=fp.filterMap λb=>(h.get? b).map λo=>(b,o)
theorem lK{fp:List Addr}{h:Heap}{b:Addr}{o:Obj}(hb:b∈fp)(e:h.get? b=some o):(b,o)∈mO fp h:=uz.mpr ⟨b,hb,by rw[e];rfl⟩
theorem Vp{fp:List Addr}{h:Heap}{p:Addr×Obj}(hp:p∈mO fp h):p.1∈fp/\h.get? p.1=some p.2:=by obtain⟨b,hb,e⟩:=uz.mp hp;cases q:h.get? b with |none=>rw[q]at e;cases e |some o=>rw[q]at e;have e':(b,o)=p:=dv e;subst e';exact⟨hb,q⟩
theorem Inv.pinned{aj:List (Addr×Obj)}{O:St}{H:Hp}{s:a8}{fp:List Addr}(I:Inv X aj O H s)(hf:∀b∈fp,i7 X aj H b)(ho:∀b∈fp,∃o,s.heap.get? b=some o/\∀v,o.data≠ .cell v):Inv X (aj++mO fp s.heap) O H s:=I.Ki λp hp=>(jC.mp hp).elim (λz=>I.pin p (fP _ z)) λz=>by obtain⟨hb,e⟩:=Vp z;obtain⟨f0,f1,f2,_⟩:=hf p.1 hb;obtain⟨o,e',d⟩:=ho p.1 hb;rw[e]at e';cases e';exact⟨e,f0,f1,f2,d⟩
theorem Inv.pZ{aj pl:List (Addr×Obj)}{O:St}{H:Hp}{s:a8}(I:Inv X (aj++pl) O H s):Inv X aj O H s:=I.Ki λp hp=>I.pin p (fP _ (Pe _ hp))
theorem fh{iter:Expr}{body:List Stmt}{wi:TI}{g:TG}{tb:TS}{pos:Pos}(hp:PassesOwn (model X.prog X.w) X.A X.env X.xe)(hc:X.calm=true)(hi:PI X tg iter wi)(hg:PG X tg g)(hb:fM X body tb) (hs:∀x,foldedSetIterable iter X.env x=pure x:=by intro _;rfl):PS X (.For tg iter body [] pos) (QI wi g tb):=by
 intro aj s O H D I h;refine wpAny_For (aL (hi aj s O H _ I h) λv s1 h1=>aL h1 λvT s2 h2=>?_) hs;obtain⟨it,fp,tn,J,H2,e,I2,T,l4,f2,W,⟨m0,w0⟩,turn⟩:=h2;subst e;have ib:∀{H':Hp},(∀b∈fp,H' b=none)->∀b∈fp,i7 X aj H' b:=λhn b hb=>⟨hn b hb,(f2 b hb).2⟩;refine codeAny_forLoop_any (λn s'=>∃i σ' H',Inv X aj σ' H' s'/\tn i s'.heap/\(∀b∈fp,H' b=none)/\W i n σ' H') ?_ m0 ⟨0,O,H2,I2,l4,λb hb=>(f2 b hb).1,w0⟩;rintro n s3 ⟨i,σ3,H3,I3,Hy,MB,w3⟩;rcases turn i n σ3 H3 w3 with⟨stop,qn⟩|⟨go,N,hN,step⟩
 ·refine uq hp (aL (T.done X Z Z Z hc i aj s3 σ3 H3 X.xe I3 (ib MB) Hy stop) λr s4 ⟨hr,I4⟩=>?_)
  subst hr;exact Ao ⟨σ3,H3,I4,qn⟩
 ·refine uq hp (aL (T.item X Z Z Z hc i aj s3 σ3 H3 X.xe I3 (ib MB) Hy go) λr s4 ⟨u,hr,h4⟩=>?_)
  subst hr;refine uq hp (aL h4 λ_ s5 ⟨x,H5,I5,r5,y5,jI,m5⟩=>?_);have I5':=I5.pinned (ib m5) (T.obj _ _ jI);refine uq hp (aL (hg _ s5 σ3 H5 x u _ I5' r5 (step x H5 y5)) λ_ s6 ⟨σ6,H6,I6,q6⟩=>?_);refine uq hp (aL (hb _ s6 σ6 H6 _ I6 q6) λf s7 q7=>?_);have again:∀{σ7:St}{H7:Hp},Inv X (aj++mO fp s5.heap) σ7 H7 s7->N σ7 H7->∃m,m<n/\∃i σ' H',Inv X aj σ' H' s7/\tn i s7.heap/\(∀b∈fp,H' b=none)/\W i m σ' H':=λ{σ7 H7} I7 n7=>by obtain⟨m',hm,w7⟩:=hN σ7 H7 n7;refine⟨m',hm,i+1,σ7,H7,I7.pZ,T.keep _ _ _ jI λb hb o e=>(I7.pin (b,o) (fP _ (fP _ (lK hb e)))).1,λb hb=>?_,w7⟩;obtain⟨o,e,d⟩:=T.obj _ _ jI b hb;exact(I7.pin (b,o) (fP _ (fP _ (lK hb e)))).2.1
  cases f with |next=>obtain⟨σ7,H7,I7,n7⟩:=q7;exact again I7 n7 |cont=>obtain⟨σ7,H7,I7,n7⟩:=q7;exact again I7 n7 |brk=>obtain⟨σ7,H7,I7,q7⟩:=q7;exact⟨σ7,H7,I7.pZ,q7⟩ |ret v=>obtain⟨x7,σ7,H7,I7,r7,q7⟩:=q7;exact⟨x7,σ7,H7,I7.pZ,r7,q7⟩
end
theorem zJ{K:a7}{a:Addr}{xs:List V}{g:TG}{tb:TS}{D:Ends}{O:St}{H:Hp}(Pv:Nat->St->Hp->Prop)(h0:Pv 0 O H)(hl:∀i O H,i<=xs.length->Pv i O H->aF K H a xs) (hs:∀i x O H,xs[i]? =some x->Pv i O H->g x O H λσ2 H2=>tb {D with nx:=Pv (i+1),ct:=Pv (i+1),bk:=D.nx} σ2 H2)(hd:∀O H,Pv xs.length O H->D.nx O H): ∃W:Nat->Nat->St->Hp->Prop,(∃m,W 0 m O H)/\∀i m O H,W i m O H->((pN K a).stop i H/\D.nx O H)\/((pN K a).go i H/\∃N:St->Hp->Prop,(∀σ' H',N σ' H'->∃m',m'<m/\W (i+1) m' σ' H')/\∀x H',(pN K a).gH i H x H'->g x O H' λσ2 H2=>tb {D with nx:=N,ct:=N,bk:=D.nx} σ2 H2):=by
 refine⟨λi m O H=>m=xs.length-i/\i<=xs.length/\Pv i O H,⟨xs.length,by simp,dS _,h0⟩,?_⟩;rintro i m O H ⟨rfl,hi,p⟩;have q:=hl i O H hi p;by_cases bG:i<xs.length
 ·refine .inr ⟨⟨xs,xs[i],q,by simp[bG]⟩,Pv (i+1),λσ' H' p'=>⟨xs.length-(i+1),ak,Z,bG,p'⟩,λx H' y=>?_⟩
  obtain⟨e,y⟩:=y;subst e;exact hs i x O _ (y xs q) p
 ·have e:i=xs.length:=by lia
  subst e;exact .inl ⟨⟨xs,q,ba _⟩,hd O H p⟩
theorem ME{K:a7}{a:Addr}{xs:List V}{g:TG}{tb:TS}{D:Ends}{O:St}{H:Hp}(Pv:Nat->St->Hp->Prop)(h0:Pv 0 O H)(hl:∀i O H,i<=xs.length->Pv i O H->aK K H a xs) (hs:∀i x O H,xs[i]? =some x->Pv i O H->g x O H λσ2 H2=>tb {D with nx:=Pv (i+1),ct:=Pv (i+1),bk:=D.nx} σ2 H2)(hd:∀O H,Pv xs.length O H->D.nx O H): ∃W:Nat->Nat->St->Hp->Prop,(∃m,W 0 m O H)/\∀i m O H,W i m O H->((pM K a).stop i H/\D.nx O H)\/((pM K a).go i H/\∃N:St->Hp->Prop,(∀σ' H',N σ' H'->∃m',m'<m/\W (i+1) m' σ' H')/\∀x H',(pM K a).gH i H x H'->g x O H' λσ2 H2=>tb {D with nx:=N,ct:=N,bk:=D.nx} σ2 H2):=by
 refine⟨λi m O H=>m=xs.length-i/\i<=xs.length/\Pv i O H,⟨xs.length,by simp,dS _,h0⟩,?_⟩;rintro i m O H ⟨rfl,hi,p⟩;have q:=hl i O H hi p;by_cases bG:i<xs.length
 ·refine .inr ⟨⟨xs,xs[i],q,by simp[bG]⟩,Pv (i+1),λσ' H' p'=>⟨xs.length-(i+1),aI,Z,bG,p'⟩,λx H' y=>?_⟩
  obtain⟨e,y⟩:=y;subst e;exact hs i x O _ (y xs q) p
 ·have e:i=xs.length:=by omega
  subst e;exact .inl ⟨⟨xs,q,ba _⟩,hd O H p⟩
theorem pe{lo:Int}{n:Nat}{g:TG}{tb:TS}{D:Ends}{O:St}{H:Hp}(Pv:Nat->St->Hp->Prop)(h0:Pv 0 O H) (hs:∀i O H,i<n->Pv i O H->g (.int (lo+i)) O H λσ2 H2=>tb {D with nx:=Pv (i+1),ct:=Pv (i+1),bk:=D.nx} σ2 H2)(hd:∀O H,Pv n O H->D.nx O H): ∃W:Nat->Nat->St->Hp->Prop,(∃m,W 0 m O H)/\∀i m O H,W i m O H->((mr lo n).stop i H/\D.nx O H)\/((mr lo n).go i H/\∃N:St->Hp->Prop,(∀σ' H',N σ' H'->∃m',m'<m/\W (i+1) m' σ' H')/\∀x H',(mr lo n).gH i H x H'->g x O H' λσ2 H2=>tb {D with nx:=N,ct:=N,bk:=D.nx} σ2 H2):=by
 refine⟨λi m O H=>m=n-i/\i<=n/\Pv i O H,⟨n,by simp,dS _,h0⟩,?_⟩;rintro i m O H ⟨rfl,hi,p⟩;by_cases bG:i<n
 ·refine .inr ⟨bG,Pv (i+1),λσ' H' p'=>⟨n-(i+1),ak,Z,bG,p'⟩,λx H' y=>?_⟩
  obtain⟨e,y⟩:=y;subst e y;exact hs i O _ bG p
 ·have e:i=n:=by lia
  subst e;exact .inl ⟨ba _,hd O H p⟩
theorem pY{c:TT}{tb:TS}{D:Ends}{O:St}{H:Hp}(Pv:St->Hp->Prop)(μ:St->Hp->Nat)(h0:Pv O H) (hs:∀O H,Pv O H->c O H λb H1=>if b=true then tb {D with nx:=λσ' H'=>Pv σ' H'/\μ σ' H'<μ O H,ct:=λσ' H'=>Pv σ' H'/\μ σ' H'<μ O H,bk:=D.nx} O H1 else D.nx O H1) (mono:∀O H Q Q',(∀b H1,Q b H1->Q' b H1)->c O H Q->c O H Q'):Hh c tb D O H:=by refine⟨λm O H=>m=μ O H/\Pv O H,⟨_,Z,h0⟩,?_⟩;rintro m O H ⟨rfl,p⟩;refine mono O H _ _ (λb H1 q=>?_) (hs O H p);cases b with |true=>exact⟨_,λσ' H' ⟨p',l⟩=>⟨_,l,Z,p'⟩,q⟩ |false=>exact q
abbrev R2:=V->V->Hp->VK->Prop
def cx(X:Cx)(f:Value->Value->Sem Value)(r:R2):Prop:=∀(aj:List (Addr×Obj))(s:a8)(O:St)(H:Hp)(x y:V)(v u:Value)(Q:VK),Inv X aj O H s->RelV x v->RelV y u->r x y H Q->wpAny (model X.prog X.w) X.A (f v u) (EP X aj O Q) X.xe s
def FZ(X:Cx)(f:Value->Sem Value)(r:V->Hp->VK->Prop):Prop:=∀(aj:List (Addr×Obj))(s:a8)(O:St)(H:Hp)(x:V)(v:Value)(Q:VK),Inv X aj O H s->RelV x v->r x H Q->wpAny (model X.prog X.w) X.A (f v) (EP X aj O Q) X.xe s
def eu(X:Cx)(f:Value)(r:List V->Hp->VK->Prop):Prop:=∀(aj:List (Addr×Obj))(s:a8)(O:St)(H:Hp)(xs:List V)(us:List Value)(Q:VK),Inv X aj O H s->Vals xs us->r xs H Q->wpAny (model X.prog X.w) X.A (call f us) (EP X aj O Q) X.xe s
def a30(X:Cx)(r:V->Hp->(Bool->Hp->Prop)->Prop):Prop:=∀(aj:List (Addr×Obj))(s:a8)(O:St)(H:Hp)(x:V)(v:Value)(Q:Bool->Hp->Prop),Inv X aj O H s->RelV x v->r x H Q->wpAny (model X.prog X.w) X.A (truthy v) (TP X aj O Q) X.xe s
def uQ(r:R2)(ta tb:TE):TE:=λO H Q=>ta O H λx H1=>tb O H1 λy H2=>r x y H2 Q
def Qo(r:V->Hp->VK->Prop)(ta:TE):TE:=λO H Q=>ta O H λx H1=>r x H1 Q
inductive IrI(C:Int->Int->Prop)(g:Int->Int->V)(x:V)(y:V)(H:Hp)(Q:VK):Prop |mk (i:_)(j:_)(h0:x= .int i)(h1:y= .int j)(h2:C i j)(h3:Q (g i j) H)
def rI(C:Int->Int->Prop)(g:Int->Int->V):R2:=λx y H Q=>IrI C g x y H Q
inductive a4F(g:Int->Int->V)(x:V)(y:V)(H:Hp)(Q:VK):Prop |mk (i:_)(j:_)(h0:x= .int i)(h1:y= .int j)(h2:Q (g i j) H)
def iM(g:Int->Int->V):R2:=λx y H Q=>a4F g x y H Q
inductive IrU(g:Int->V)(x:V)(H:Hp)(Q:VK):Prop |mk (i:_)(h0:x= .int i)(h1:Q (g i) H)
def rU(g:Int->V):V->Hp->VK->Prop:=λx H Q=>IrU g x H Q
section
variable {X:Cx}{a b c:Expr}{ta tb tc:TE}{pos:Pos}
theorem FN(ha:PE X a ta)(hb:PE X b tb){aj:List (Addr×Obj)}{s:a8}{O:St}{H:Hp}{R:V->V->Hp->Prop}(I:Inv X aj O H s) (h:ta O H λx H1=>tb O H1 λy H2=>R x y H2){Q:Value->a8->Prop}{f:Value->Value->Sem Value} (hf:∀v u s2 x y H2,Inv X aj O H2 s2->RelV x v->RelV y u->R x y H2->wpAny (model X.prog X.w) X.A (f v u) Q X.xe s2): wpAny (model X.prog X.w) X.A (eval a X.env) (λv s₁=>wpAny (model X.prog X.w) X.A (eval b X.env) (λu s₂=>wpAny (model X.prog X.w) X.A (f v u) Q X.xe s₂) X.xe s₁) X.xe s:=by refine aL (ha aj s O H _ I h) λv s1 ⟨x,H1,I1,r1,q1⟩=>?_;refine aL (hb aj s1 O H1 _ I1 q1) λu s2 ⟨y,H2,I2,r2,q2⟩=>?_;exact hf v u s2 x y H2 I2 r1 r2 q2
theorem aG{op:Operator}{r:R2}(ho:cx X (binaryOp op) r)(ha:PE X a ta)(hb:PE X b tb):PE X (.BinOp a op b pos) (uQ r ta tb):=by intro aj s O H Q I h;exact wpAny_BinOp (FN ha hb I h λv u s2 x y H2 I2 rx ry q=>ho aj s2 O H2 x y v u Q I2 rx ry q)
theorem ki{op:UnaryOp}{r:V->Hp->VK->Prop}(ho:FZ X (unaryOp op) r)(ha:PE X a ta):PE X (.UnaryOp op a pos) (Qo r ta):=by intro aj s O H Q I h;exact UnaryOp_ (aL (ha aj s O H _ I h) λv s1 ⟨x,H1,I1,r1,q1⟩=>ho aj s1 O H1 x v Q I1 r1 q1)
theorem vx{f:Value->Value->Sem Value}{C:Int->Int->Prop}{g:Int->Int->Int} (rule:∀(i j:Int)(t u:Tok)(s:a8)(Q:Value->a8->Prop)(E:Value->a8->Prop),C i j->Q (.int (g i j) s.toks) {s with toks:=s.toks+1}->wpAny (model X.prog X.w) X.A (f (.int i t) (.int j u)) Q E s): cx X f (rI C λi j=>.int (g i j)):=by intro aj s O H x y v u Q I rx ry h;obtain⟨i,j,rfl,rfl,hc,q⟩:=h;obtain⟨t,rfl⟩:=rx;obtain⟨t',rfl⟩:=ry;exact rule i j t t' s _ _ hc ⟨.int (g i j),H,I.tok _,⟨_,Z⟩,q⟩
theorem Kw{f:Value->Value->Sem Value}{g:Int->Int->Int} (rule:∀(i j:Int)(t u:Tok)(s:a8)(Q:Value->a8->Prop)(E:Value->a8->Prop),Q (.int (g i j) s.toks) {s with toks:=s.toks+1}->wpAny (model X.prog X.w) X.A (f (.int i t) (.int j u)) Q E s): cx X f (iM λi j=>.int (g i j)):=by intro aj s O H x y v u Q I rx ry h;obtain⟨i,j,rfl,rfl,q⟩:=h;obtain⟨t,rfl⟩:=rx;obtain⟨t',rfl⟩:=ry;exact rule i j t t' s _ _ ⟨.int (g i j),H,I.tok _,⟨_,Z⟩,q⟩
theorem tx{f:Value->Value->Sem Value}{g:Int->Int->Bool} (rule:∀(i j:Int)(t u:Tok)(s:a8)(Q:Value->a8->Prop)(E:Value->a8->Prop),Q (.bool (g i j)) s->wpAny (model X.prog X.w) X.A (f (.int i t) (.int j u)) Q E s): cx X f (iM λi j=>.bl (g i j)):=by intro aj s O H x y v u Q I rx ry h;obtain⟨i,j,rfl,rfl,q⟩:=h;obtain⟨t,rfl⟩:=rx;obtain⟨t',rfl⟩:=ry;exact rule i j t t' s _ _ ⟨.bl (g i j),H,I,Z,q⟩
def a54(i j:Int):Prop:=0<=j/\j<=1000000/\i.natAbs<2^64
theorem cm:cx X (binaryOp .Add) (iM λi j=>.int (i+j)):=Kw λ_ _ _ _ _ _ _ q=>add_int q
theorem gs:cx X (binaryOp .Sub) (iM λi j=>.int (i-j)):=Kw λ_ _ _ _ _ _ _ q=>sub_int q
theorem ou:cx X (binaryOp .Mod) (rI (λ_ j=>0<j) λi j=>.int (i%j)):=vx λi j _ _ _ _ _ hc q=>by have h1:(0:Int)<j:=hc;exact mod_int' ak (by rw[Int.fmod_eq_emod_of_nonneg i ak];exact q)
theorem qo:cx X (binaryOp .Pow) (rI a54 λi j=>.int (i^j.toNat)):=vx λ_ _ _ _ _ _ _ hc q=>pow_int_small hc.1 hc.2.1 hc.2.2 q
theorem Q0{f:Value->Sem Value}{g:Int->Int} (rule:∀(i:Int)(t:Tok)(s:a8)(Q:Value->a8->Prop)(E:Value->a8->Prop),Q (.int (g i) s.toks) {s with toks:=s.toks+1}->wpAny (model X.prog X.w) X.A (f (.int i t)) Q E s): FZ X f (rU λi=>.int (g i)):=by intro aj s O H x v Q I rx h;obtain⟨i,rfl,q⟩:=h;obtain⟨t,rfl⟩:=rx;exact rule i t s _ _ ⟨.int (g i),H,I.tok _,⟨_,Z⟩,q⟩
theorem jY:FZ X (unaryOp .USub) (rU λi=>.int (-i)):=Q0 λ_ _ _ _ _ q=>neg_int q
theorem F8{aj:List (Addr×Obj)}{O:St}{H:Hp}{s:a8}{Q:VK}{k k':Bool}(I:Inv X aj O H s)(q:Q (.bl k) H)(e:k=k'):EP X aj O Q (.bool k') s:=by subst e;exact⟨.bl k,H,I,Z,q⟩
theorem ji:cx X (compareOp .Lt) (iM λi j=>.bl (decide (i<j))):=tx λ_ _ _ _ _ _ _ q=>lt_int q
theorem yL:cx X (compareOp .LtE) (iM λi j=>.bl (decide (i<=j))):=tx λ_ _ _ _ _ _ _ q=>le_int q
theorem lC:cx X (compareOp .Gt) (iM λi j=>.bl (decide (j<i))):=tx λ_ _ _ _ _ _ _ q=>gt_int q
theorem DD:cx X (compareOp .GtE) (iM λi j=>.bl (decide (j<=i))):=tx λ_ _ _ _ _ _ _ q=>ge_int q
theorem TX:cx X (compareOp .In) (λx y H Q=>∃i j,x= .str i/\y= .str j/\Q (.bl (!(Builtin.Str.occurrences j i 0 j.length 1).isEmpty)) H):=by intro aj s O H x y v u Q I rx ry h;obtain⟨i,j,rfl,rfl,q⟩:=h;obtain⟨t,rfl⟩:=rx;obtain⟨t',rfl⟩:=ry;exact in_str (F8 I q Z)
theorem TV:cx X (compareOp .Is) (λx y H Q=>y= .bM/\Q (.bl (decide (x= .bM))) H):=by intro aj s O H x y v u Q I rx ry h;obtain⟨rfl,q⟩:=h;cases ry;refine is_none_gen (F8 I q ?_);cases x<;>first |(cases rx;rfl) |(obtain⟨t,rfl⟩:=rx;rfl)
theorem mR:cx X (compareOp .IsNot) (λx y H Q=>y= .bM/\Q (.bl (!decide (x= .bM))) H):=by intro aj s O H x y v u Q I rx ry h;obtain⟨rfl,q⟩:=h;cases ry;refine isnot_none_gen (F8 I q ?_);cases x<;>first |(cases rx;rfl) |(obtain⟨t,rfl⟩:=rx;rfl)
theorem cx.or{f:Value->Value->Sem Value}{r r':R2}(h:cx X f r)(h':cx X f r'):cx X f (λx y H Q=>r x y H Q\/r' x y H Q):=by
 intro aj s O H x y v u Q I rx ry q;rcases q with q|q
 ·exact h aj s O H x y v u Q I rx ry q
 ·exact h' aj s O H x y v u Q I rx ry q
theorem bC(b:Expr){op:CmpOp}(h:op≠ .In:=by decide)(h2:op≠ .NotIn:=by decide):behindInMarks op b=false:=by
 have e1:(op==CmpOp.In)=false:=by cases op<;>first|rfl|exact absurd rfl h
 have e2:(op==CmpOp.NotIn)=false:=by cases op<;>first|rfl|exact absurd rfl h2
 cases b<;>simp[behindInMarks,e1,e2]
theorem fW{op:CmpOp}{r:R2}(ho:cx X (compareOp op) r)(ha:PE X a ta)(hb:PE X b tb)(hm:behindInMarks op b=false):PE X (.Compare a [op] [b] pos) (uQ r ta tb):=by intro aj s O H Q I h;exact wpAny_Compare1 (FN ha hb I h λv u s2 x y H2 I2 rx ry q=>ho aj s2 O H2 x y v u Q I2 rx ry q) hm
inductive a3d(Q:Bool->Hp->Prop)(x:V)(H':Hp):Prop |mk (k:_)(h0:x= .bl k)(h1:Q k H')
def Hj(t:TE):TT:=λO H Q=>t O H λx H'=>a3d Q x H'
theorem bQ{op:CmpOp}{r:R2}(ho:cx X (compareOp op) r)(ha:PE X a ta)(hb:PE X b tb)(hm:behindInMarks op b=false):PT X (.Compare a [op] [b] pos) (Hj (uQ r ta tb)):=by intro aj s O H Q I h;refine wpAny_isTrue_Compare1 (aL (ha aj s O H _ I h) λv s1 ⟨x,H1,I1,r1,q1⟩=>aL (hb aj s1 O H1 _ I1 q1) λu s2 ⟨y,H2,I2,r2,q2⟩=>aL (ho aj s2 O H2 x y v u _ I2 r1 r2 q2) λc s3 ⟨z,H3,I3,r3,k,e,q3⟩=>?_) hm;subst e;cases r3;exact nL ⟨H3,I3,q3⟩
inductive a3i(r':R2)(tc:TE)(O:St)(Q:VK)(y:V)(z:V)(H3:Hp):Prop |mk (k:_)(h0:z= .bl k)(h1:(if k=true then tc O H3 λw' H4=>r' y w' H4 Q else Q (.bl false) H3))
def Hm(r r':R2)(ta tb tc:TE):TE:=λO H Q=>ta O H λx H1=>tb O H1 λy H2=>r x y H2 λz H3=>a3i r' tc O Q y z H3
theorem Tv{op qq:CmpOp}{r r':R2}(ho:cx X (compareOp op) r)(kz:cx X (compareOp qq) r')(ha:PE X a ta)(hb:PE X b tb)(hc:PE X c tc) (hm:lastMarks [op,qq] [b,c]=false:=by with_unfolding_all rfl):PE X (.Compare a [op,qq] [b,c] pos) (Hm r r' ta tb tc):=by intro aj s O H Q I h;refine Compare_chain (aL (ha aj s O H _ I h) λv s1 ⟨x,H1,I1,r1,q1⟩=>chain_link (aL (hb aj s1 O H1 _ I1 q1) λu s2 ⟨y,H2,I2,r2,q2⟩=>aL (ho aj s2 O H2 x y v u _ I2 r1 r2 q2) λd s3 ⟨z,H3,I3,r3,k,e,q3⟩=>?_)) hm;subst e;cases r3;refine nL ?_;cases k with |false=>exact ite_ff ⟨.bl false,H3,I3,Z,q3⟩ |true=>exact ite_tt (chain_last (aL (hc aj s3 O H3 _ I3 q3) λw' s4 ⟨z',H4,I4,r4,q4⟩=>kz aj s4 O H4 y z' u w' Q I4 r2 r4 q4))
theorem SY{op qq:CmpOp}{r r':R2}(ho:cx X (compareOp op) r)(kz:cx X (compareOp qq) r')(ha:PE X a ta)(hb:PE X b tb)(hc:PE X c tc) (hm:lastMarks [op,qq] [b,c]=false:=by with_unfolding_all rfl):PT X (.Compare a [op,qq] [b,c] pos) (Hj (Hm r r' ta tb tc)):=by intro aj s O H Q I h;refine isTrue_chain (aL (ha aj s O H _ I h) λv s1 ⟨x,H1,I1,r1,q1⟩=>test_link (aL (hb aj s1 O H1 _ I1 q1) λu s2 ⟨y,H2,I2,r2,q2⟩=>aL (ho aj s2 O H2 x y v u _ I2 r1 r2 q2) λd s3 ⟨z,H3,I3,r3,k,e,q3⟩=>?_)) hm;subst e;cases r3;refine nL ?_;cases k with |false=>obtain⟨k',e',q'⟩:=q3;cases e';exact ite_ff ⟨H3,I3,q'⟩ |true=>refine ite_tt (test_last (aL (hc aj s3 O H3 _ I3 q3) λw' s4 ⟨z',H4,I4,r4,q4⟩=>aL (kz aj s4 O H4 y z' u w' _ I4 r2 r4 q4) λd' s5 ⟨z2,H5,I5,r5,k2,e2,q5⟩=>?_));subst e2;cases r5;exact nL ⟨H5,I5,q5⟩
def G0(K:a7)(x:V)(H:Hp)(k:Bool):Prop:=match x with | .bM=>k=false | .bl b=>k=b | .int i=>k=(i !=0) | .str y=>y.length<=sizeLine/\k=((y.length:Int) !=0) | .wR y=>y.size<=sizeLine/\k=((y.size:Int) !=0) | .ref p=>(∃xs,aF K H p xs/\k= !xs.isEmpty)\/(∃xs,aK K H p xs/\k= !xs.isEmpty)\/∃dh,H p=some (.dK dh)/\k= !dh.isEmpty |_=>False
theorem WQ{κ:Type}{dh:List (κ×V)}{vs:List (κ×Value)}(r:KV dh vs):(!vs.isEmpty)= !dh.isEmpty:=by cases r<;>rfl
theorem LI{xs:List V}{its:List Value}(r:Vals xs its):(!its.toArray.isEmpty)= !xs.isEmpty:=by cases r<;>simp
theorem qA:(sizeLine:Nat)<2^63:=by rw[sizeLine_eq];decide
theorem Qe:a30 X (λx H Q=>∃k,G0 X.K x H k/\Q k H):=by intro aj s O H x v Q I rx h;obtain⟨k,e,q⟩:=h;have hl:=qA;have hs:sizeLine=16777216:=sizeLine_eq;cases x with |bM=>cases rx;have e':k=false:=e;subst e';exact truthy_none ⟨H,I,q⟩ |bl b=>cases rx;have e':k=b:=e;subst e';exact nL ⟨H,I,q⟩ |int i=>obtain⟨t,rfl⟩:=rx;have e':k=(i !=0):=e;subst e';exact PySem.P.truthy_int ⟨H,I,q⟩ |str y=>obtain⟨t,rfl⟩:=rx;obtain⟨hy,e'⟩:y.length<=sizeLine/\k=((y.length:Int) !=0):=e;subst e';exact PySem.P.truthy_str ak ⟨H,I.tok _,q⟩ |wR y=>obtain⟨t,rfl⟩:=rx;obtain⟨hy,e'⟩:y.size<=sizeLine/\k=((y.size:Int) !=0):=e;subst e';exact PySem.W.truthy_bytes ak ⟨H,I.tok _,q⟩ |ref p=>
 cases rx;have e':(∃xs,aF X.K H p xs/\k= !xs.isEmpty)\/(∃xs,aK X.K H p xs/\k= !xs.isEmpty)\/∃dh,H p=some (.dK dh)/\k= !dh.isEmpty:=e;rcases e' with⟨xs,hx,e'⟩|⟨xs,hx,e'⟩|⟨dh,hx,e'⟩
 ·subst e'
  obtain⟨its,r,pl,hz⟩:=I.list hx;have hlen:=r.length;exact wpAny_truthy_list pl.isList (by simp only[cB];lia) ⟨H,I.tok _,by rw[LI r];exact q⟩
 ·subst e'
  obtain⟨its,r,pl,hz⟩:=I.tuple hx;have hlen:=r.length;exact truthy_tuple pl (by simp only[cB];lia) ⟨H,I.tok _,by rw[LI r];exact q⟩
 ·subst e'
  obtain⟨hz,hS,vs,r,m⟩:dh.length<=sizeLine/\(p==sysModules)=false/\∃vs,KV dh vs/\s.heap.DictOf (DT X.prog X.w) p vs:=I.aW p _ hx;have hlen:dh.length=vs.length:=Paired.length r;exact wpAny_truthy_dict hS m ak ⟨H,I.tok _,by rw[WQ r];exact q⟩ |_=>exact(show False from e).elim
theorem SW(ha:PE X a ta)(he:∀whole,isTrue a X.env whole=(do let v<-whole;standAt a.pos;holding [v] (truthy v))): PT X a (λO H Q=>ta O H λx H'=>∃k,G0 X.K x H' k/\Q k H'):=by intro aj s O H Q I h;exact isTrue_plain (aL (ha aj s O H _ I h) λv s1 ⟨x,H1,I1,r1,q1⟩=>Qe aj s1 O H1 x v Q I1 r1 q1) (he _)
theorem vals1{x:V}{us:List Value}(r:Vals [x] us):∃u,us=[u]/\RelV x u:=by cases r with |cons r1 r2=>cases r2;exact⟨_,rfl,r1⟩
theorem vals2{x y:V}{us:List Value}(r:Vals [x,y] us):∃u w',us=[u,w']/\RelV x u/\RelV y w':=by cases r with |cons r1 r2=>cases r2 with |cons r3 r4=>cases r4;exact⟨_,_,rfl,r1,r3⟩
theorem mh:eu X (.builtin "abs") (λxs H Q=>∃i,xs=[.int i]/\Q (.int (if i<0 then-i else i)) H):=by intro aj s O H xs us Q I r h;obtain⟨i,rfl,q⟩:=h;obtain⟨u,rfl,t,rfl⟩:=vals1 r;exact call_abs_int λu tk=>⟨.int (if i<0 then-i else i),H,I.tok _,⟨_,Z⟩,q⟩
theorem a26(hc:X.calm=true):eu X (.builtin "max") (λxs H Q=>∃i j,xs=[.int i,.int j]/\Q (.int (if j>i then j else i)) H):=by
 intro aj s O H xs us Q I r h;obtain⟨i,j,rfl,q⟩:=h;obtain⟨u,w',rfl,⟨t,rfl⟩,⟨t',rfl⟩⟩:=vals2 r;refine max_two_ints (I.ok.hd hc) λh' tk k=>⟨_,H,I.kept k,?_,q⟩;by_cases hj:j>i
 ·rw[aR hj,aR hj];exact⟨_,Z⟩
 ·rw[aO hj,aO hj];exact⟨_,Z⟩
theorem FG(hc:X.calm=true):eu X (.builtin "min") (λxs H Q=>∃i j,xs=[.int i,.int j]/\Q (.int (if j<i then j else i)) H):=by
 intro aj s O H xs us Q I r h;obtain⟨i,j,rfl,q⟩:=h;obtain⟨u,w',rfl,⟨t,rfl⟩,⟨t',rfl⟩⟩:=vals2 r;refine min_two_ints (I.ok.hd hc) λh' tk k=>⟨_,H,I.kept k,?_,q⟩;by_cases hj:j<i
 ·rw[aR hj,aR hj];exact⟨_,Z⟩
 ·rw[aO hj,aO hj];exact⟨_,Z⟩
theorem wO:eu X (.type "int") (λxs H Q=>(∃i,xs=[.int i]/\Q (.int i) H)\/∃k,xs=[.bl k]/\Q (.int (if k then 1 else 0)) H):=by
 intro aj s O H xs us Q I r h;rcases h with⟨i,rfl,q⟩|⟨k,rfl,q⟩
 ·obtain⟨u,rfl,t,rfl⟩:=vals1 r
  exact call_int_int ⟨.int i,H,I,⟨_,Z⟩,q⟩
 ·obtain⟨u,rfl,r1⟩:=vals1 r
  cases r1;exact call_int_bool ⟨.int (if k then 1 else 0),H,I.tok _,⟨_,Z⟩,q⟩
end
theorem Ll{h:Heap}{dx:Addr}{mA:bI}(n:h.Ns1 dx mA):∃od,h.get? dx=some od/\∀name,PySem.W.lookIn name od=some (mA name):=by
 obtain⟨o,es,ep,ho,hd,hk,_,hm⟩:=n;refine⟨o,ho,λname=>?_⟩;have e:=hm name;unfold nsFind findBy at e;rw[<-Array.find?_toList]at e;unfold PySem.W.lookIn;rw[hd];dsimp only;split
 ·rename_i y q
  rw[q]at e;exact congrArg some e
 ·rename_i q
  rw[q]at e;have a:es.toList.any (·.refKey)=false:=by rw[List.any_eq_false];intro y hy;obtain⟨z,t,XN⟩:=hk y (Array.mem_toList_iff.mp hy);simp[DictEntry.refKey,XN]
  have a':¬es.toList.any (·.refKey)=true:=by rw[a];exact fQ
  rw[aO a'];exact congrArg some e
section
variable {prog:a9}{w:World}{A:ag}{E:Value->a8->Prop}{s:a8}{K:a7}{x dx C f:Addr}{mA:bI}{name:Str}{v:Value}
end
def oj(f:Str)(v:V):List (Str×V)->List (Str×V) |[]=>[(f,v)] |(g,x)::r=>if g=f then(g,v)::r else(g,x)::oj f v r
theorem Lk(f g:Str)(v:V):∀fs:List (Str×V),(oj f v fs).lookup g=if g=f then some v else fs.lookup g
 |[]=>by
  show List.lookup g [(f,v)]=_;by_cases h:g=f
  ·have hb:(g==f)=true:=eB.mpr h
   simp only[List.lookup,hb,aR h]
  ·have hb:(g==f)=false:=Aw.mpr h
   simp only[List.lookup,hb,aO h] |(k,x)::r=>by
  have ih:=Lk f g v r;rw[show oj f v ((k,x)::r)=(if k=f then(k,v)::r else(k,x)::oj f v r)from rfl];by_cases hk:k=f
  ·rw[aR hk]
   by_cases h:g=k
   ·have hb:(g==k)=true:=eB.mpr h
    simp only[List.lookup,hb,aR (h.trans hk)]
   ·have hb:(g==k)=false:=Aw.mpr h
    simp only[List.lookup,hb,aO (λe:g=f=>h (e.trans hk.symm))]
  ·rw[aO hk]
   by_cases h:g=k
   ·have hb:(g==k)=true:=eB.mpr h
    simp only[List.lookup,hb,aO (λe:g=f=>hk (h.symm.trans e))]
   ·have hb:(g==k)=false:=Aw.mpr h
    simp only[List.lookup,hb];exact ih
section
variable {P:a9}{w:World}{H H':Hp}{h h':Heap}{a C dx:Addr}{fs tZ:List (Str×V)}
end
section
variable {X:Cx}{aj:List (Addr×Obj)}{O:St}{H:Hp}{s:a8}{a C dx:Addr}{fs:List (Str×V)}{f:Str}{v:V}{A:ag}{E:Value->a8->Prop}
theorem a2x{prog:a9}{w:World}{env:Env}{e:Expr}{f:Str}{pos:Pos}{s:a8}{Q:Value->a8->Prop}(hb:attributeBase e f env (eval e env)=eval e env) (h:wpAny (model prog w) A (eval e env) (λo s₁=>wpAny (model prog w) A (getAttr o f true) Q E s₁) E s):wpAny (model prog w) A (eval (.Attribute e f pos) env) Q E s:=Attribute_any_ h (by rw[arm_eval_Attribute,hb])
end
section
variable {X:Cx}{o e value:Expr}{f:Str}{pos pos' sF:Pos}{ta tv:TE}
end
section
variable {X:Cx}{aj:List (Addr×Obj)}{O:St}{H:Hp}{s:a8}{A:ag}{E:Value->a8->Prop}{Q:Value->a8->Prop}{c:Value}{b:Bool}
end
structure cS(k:Nat)(A:ag):Prop where
 hd:A.handled=none
 dp:A.depth+3*k+5<recursionLimit
 un:A.units+16*k+200<cLine
theorem cS.mono{j k:Nat}{A:ag}(r:cS k A)(h:j<=k):cS j A:=⟨r.hd,by have:=r.dp;lia,by have:=r.un;lia⟩
theorem cS.deeper{k:Nat}{A:ag}(r:cS (k+1) A)(env:Env):cS k (A.deeper env):=⟨r.hd,by have:=r.dp;show A.depth+1+3*k+5<_;lia,by have:=r.un;show A.units+3+16*k+200<_;lia⟩
theorem W0{A:ag}{C:Addr}{us:List Value}{kw:List (Str×Value)}:(A.under (.builtin "type.__call__" ⟨.ref C::us,kw⟩)).depth=A.depth+1:=by first|rfl|simp[Around.under,Code.weight,Code.isCreation,Code.isGuard,Code.isCaller,Code.frames,Code.isFrame,guardIds]
theorem VZ{A:ag}{C:Addr}{us:List Value}{kw:List (Str×Value)}:(A.under (.builtin "type.__call__" ⟨.ref C::us,kw⟩)).units=A.units+1:=by first|rfl|simp[Around.under,Code.cUnits,Code.frames,Code.isFrame]
theorem cS.make{k:Nat}{A:ag}(r:cS (k+1) A)(C:Addr)(us:List Value)(kw:List (Str×Value)):cS k (A.under (.builtin "type.__call__" ⟨.ref C::us,kw⟩)):=⟨r.hd,by have:=r.dp;rw[W0];omega,by have:=r.un;rw[VZ];omega⟩
theorem cS.depth{k:Nat}{A:ag}(r:cS k A):A.depth<recursionLimit:=by have:=r.dp;lia
theorem cS.units{k:Nat}{A:ag}(r:cS k A):A.units+64<cLine:=by have:=r.un;lia
def QA:TA:=λ_ H Q=>Q [] H
def QM(ta:TE)(tr:TA):TA:=λO H Q=>ta O H λx H1=>tr O H1 λxs H2=>Q (x::xs) H2
section
variable {X:Cx}{e:Expr}{es:List Expr}{te:TE}{t:TA}{pos:Pos}
theorem aq:PA X [] QA:=λ_ _ _ _ H Q I h=>Calls.spliced_nil ⟨[],H,I,.nil,h⟩
theorem ai(ha:PE X e te)(hr:PA X es t)(hs:starEach (e::es) X.env=(false,eval e X.env)::starEach es X.env:=by rfl):PA X (e::es) (QM te t):=by intro pos aj s O H Q I h;rw[hs];show wpAny _ _ (spliced ((false,eval e X.env)::backTo pos (starEach es X.env))) _ _ s;refine Calls.spliced_cons (aL (ha aj s O H _ I h) λu s1 ⟨x,H1,I1,r1,q1⟩=>?_);exact aL (hr pos aj s1 O H1 _ I1 q1) λus s2 ⟨xs,H2,I2,r2,q2⟩=>⟨x::xs,H2,I2,.cons r1 r2,q2⟩
end
abbrev Sp:=List V->Hp->VK->XK->Prop
abbrev iC:=List Env->Hp->a8->XK->Value->a8->Prop
structure nK(P:a9)(w:World)(K:a7)(mg:bI)(ao:Heap)(A:ag)(outer:List Env)(s:a8)(H:Hp):Prop where
 frames:A.frames=some outer
 mod:Mod K mg ao
 bs:∀b o,ao.get? b=some o->s.heap.get? b=some o/\H b=none
 jy:ao.objs.size<=s.heap.objs.size
 hX:s.heap.FunFrames ao outer
 kF:∀b∈eg outer,H b=none
 aW:dg P w H s.heap
 bare:AllBare s.gens
def CE(outer:List Env)(P:a9)(w:World)(H:Hp)(s:a8)(Q:VK)(u:Value)(s':a8):Prop:=∃v H',s'.os=s.os/\AllBare s'.gens/\Un (eg outer) [] H H' s.heap s'.heap/\dg P w H' s'.heap/\RelV v u/\Q v H'
def CR(CX:iC)(outer:List Env)(P:a9)(w:World)(H:Hp)(s:a8)(Q:VK)(E:XK)(r:Result)(s':a8):Prop:=match r with | .ok (.ret u)=>CE outer P w H s Q u s' | .ok _=>False | .error e=>CX outer H s E e s'
structure gT(P:a9)(w:World)(K:a7)(mg:bI)(ao:Heap)(CX:iC)(k:Nat)(f:Addr)(fd:FuncData)(ps:List Str)(sp:Sp):Prop where
 len:∀vs H Q E,sp vs H Q E->vs.length=ps.length
 run:∀(A:ag)(outer:List Env)(s:a8)(H:Hp)(args:Args)(us:List Value)(vs:List V)(Q:VK)(E:XK),cS k A->nK P w K mg ao A outer s H->BindsTo s fd args (ps.zip us)->Vals vs us->sp vs H Q E->codeAny (model P w) A (.call (.ref f) args) (CR CX outer P w H s Q E) s
theorem nK.make{P:a9}{w:World}{K:a7}{mg:bI}{ao:Heap}{A:ag}{outer:List Env}{s:a8}{H:Hp}(e:nK P w K mg ao A outer s H)(C:Addr)(us:List Value)(kw:List (Str×Value)): nK P w K mg ao (A.under (.builtin "type.__call__" ⟨.ref C::us,kw⟩)) outer s H:=⟨by first|exact e.frames|(simpa[Around.under,Code.envs,Code.isFrame,pushEnvs]using e.frames),e.mod,e.bs,e.jy,e.hX,e.kF,e.aW,e.bare⟩
section
variable {X:Cx}{aj:List (Addr×Obj)}{O:St}{H:Hp}{s s':a8}
theorem Inv.zN(I:Inv X aj O H s):nK X.prog X.w X.K X.mg X.ao X.A X.stack s H:=⟨I.ok.frames,I.ok.mod,I.bs,fe I.ok.jy I.sz,I.stack,I.yb,I.aW,I.bare⟩
theorem Inv.after{Q:VK}{u:Value}(I:Inv X aj O H s)(h:CE X.stack X.prog X.w H s Q u s'):EP X aj O Q u s':=by obtain⟨v,H',os,bare,un,aW,r,q⟩:=h;obtain⟨hh,g,d,t,TM⟩:=s';obtain rfl:TM=s.os:=os;exact⟨v,H',I.call (h':=hh) (g':=g) (d':=d) (t':=t) (ch:=[]) un aW bare (λb z=>absurd z (by simp)),r,q⟩
end
def QO(sp:Sp)(dvs:List V)(E:XK)(t:TA):TE:=λO H Q=>t O H λvs H1=>sp (vs++dvs) H1 Q E
def Binds(K:a7)(fd:FuncData)(ps:List Str)(ds:List Value):Prop:=∀(s:a8)(us:List Value),K.In s.heap->(us++ds).length=ps.length->BindsTo s fd ⟨us,[]⟩ (ps.zip (us++ds))
theorem Binds.all{K:a7}{fd:FuncData}{ps:List Str}(h:∀us:List Value,us.length=ps.length->bindArgs fd ⟨us,[]⟩=pure (ps.zip us)):Binds K fd ps []:=λs us _ hl=>by rw[sj]at hl⊢;exact .of_eq (h us hl)
def Passes(CX:iC)(X:Cx)(E:XK):Prop:=∀(aj:List (Addr×Obj))(O:St)(H:Hp)(s:a8)(e:Value)(s':a8),Inv X aj O H s->CX X.stack H s E e s'->X.xe e s'
section
variable {X:Cx}{CX:iC}{k:Nat}{f C:Addr}{fd:FuncData}{ps:List Str}{sp:Sp}{dvs:List V}{ds:List Value}{E:XK}{x m:Str}{p pos apos:Pos}{e o:Expr}{es:List Expr}{ta:TE}{t:TA}
theorem Sd{aj:List (Addr×Obj)}{O:St}{H:Hp}{s:a8}{Q:VK}{us:List Value}{vs:List V}(F:gT X.prog X.w X.K X.mg X.ao CX k f fd ps sp)(hr:cS k X.A)(hb:Binds X.K fd ps ds)(hd:Vals dvs ds)(hx:Passes CX X E) (I:Inv X aj O H s)(r:Vals vs us)(h:sp (vs++dvs) H Q E):wpAny (model X.prog X.w) X.A (call (.ref f) us) (EP X aj O Q) X.xe s:=by
 have r2:Vals (vs++dvs) (us++ds):=r.append hd;have hl:(us++ds).length=ps.length:=by rw[<-r2.length];exact F.len _ _ _ _ h
 refine rW (ur (F.run X.A X.stack s H ⟨us,[]⟩ (us++ds) (vs++dvs) Q E hr I.zN (hb s us I.fB hl) r2 h) λr s' hq=>?_);cases r with |error e=>exact hx aj O H s e s' I hq |ok fl=>cases fl with |ret u=>exact I.after hq |next=>exact False.elim hq |brk=>exact False.elim hq |cont=>exact False.elim hq
theorem Tw(F:gT X.prog X.w X.K X.mg X.ao CX k f fd ps sp)(hr:cS k X.A)(hg:Gl X x)(hm:X.mg x=some (.ref f))(hk:PySem.W.keepIn X.K (.ref f)=true)(hb:Binds X.K fd ps ds)(hd:Vals dvs ds)(hx:Passes CX X E) (ha:PA X (e::es) t)(ip:(x==("__debug__":Str))=false:=by decide)(he:starEach (e::es) X.env=(false,eval e X.env)::starEach es X.env:=by rfl)(gy:(backTo pos (starEach es X.env)).any (·.1)=false:=by rfl): PE X (.Call (.Name x p) (e::es) [] pos) (QO sp dvs E t):=by intro aj s O H Q I h;refine Aq (tJ I hg hm ?_ ip);refine OU (h₀:=X.ao) I.ok.mod.oN hk (aL (ha pos aj s O H _ I h) λus s1 ⟨vs,H1,I1,r,q⟩=>⟨I1.fB,?_⟩) he gy;exact Sd F hr hb hd hx I1 r q
end
section
variable {X:Cx}{CX:iC}{k:Nat}{f C:Addr}{fd:FuncData}{ps ks:List Str}{sp:Sp}{E:XK}{x m:Str}{p pos apos a5B:Pos}{e o:Expr}{es:List Expr}{kws:List Keyword}{te ta:TE}{t tk:TA}{nm:Option Str}
variable {g:List Value->List Value->List Value}{gV:List V->List V->List V}
end
structure bo(N P:List Str)(sc:Scope):Prop where
 kind:sc.kind= .function
 co:sc.isCoroutine=false
 gen:sc.isGenerator=false
 nd:N.Nodup
 pre:N.take P.length=P
 par:∀x∈P,sc.names.lookup x=some .local\/sc.names.lookup x=some .cell
 VA:∀y∈sc.names,y.2≠ .free
theorem NO{kindOf:Str->Option NameKind}{x:Str}:∀{binds:List (Str×Value)}{m:bI},(∀v,(x,v)∉binds)->bindL kindOf binds m x=m x
 |[],_,_=>rfl |(n,v)::r,m,h=>by
  unfold bindL;rw[NO λw hw=>h w (AI _ hw)];split
  ·have:x≠n:=by rintro rfl;exact h v Gz
   simp[this]
  ·rfl
theorem NQ{kindOf:Str->Option NameKind}{x:Str}:∀{binds:List (Str×Value)}{m:bI},(∀v,(x,v)∉binds)->bindC kindOf binds m x=m x
 |[],_,_=>rfl |(n,v)::r,m,h=>by
  unfold bindC;rw[NQ λw hw=>h w (AI _ hw)];split
  ·rfl
  ·have:x≠n:=by rintro rfl;exact h v Gz
   simp[this]
theorem NP{kindOf:Str->Option NameKind}{x:Str}{v:Value}:∀{P:List Str}{vs:List Value}{i:Nat}{m:bI},P.Nodup->P[i]? =some x->vs[i]? =some v->kindOf x=some .local->bindL kindOf (P.zip vs) m x=some v |[],_,_,_,_,h,_,_=>by simp at h |_::_,[],_,_,_,_,h,_=>by simp at h |p::P,w::vs,0,m,nd,h1,h2,hk=>by simp at h1 h2;subst h1;subst h2;show bindL kindOf ((p,w)::P.zip vs) m p=_;unfold bindL;rw[NO λv hv=>(Gx.mp nd).1 (uy hv).1,aR hk];simp |p::P,w::vs,i+1,m,nd,h1,h2,hk=>by show bindL kindOf ((p,w)::P.zip vs) m x=_;unfold bindL;exact NP (i:=i) (Gx.mp nd).2 (by simpa using h1) (by simpa using h2) hk
theorem NR{kindOf:Str->Option NameKind}{x:Str}{v:Value}:∀{P:List Str}{vs:List Value}{i:Nat}{m:bI},P.Nodup->P[i]? =some x->vs[i]? =some v->kindOf x≠some .local->bindC kindOf (P.zip vs) m x=some v |[],_,_,_,_,h,_,_=>by simp at h |_::_,[],_,_,_,_,h,_=>by simp at h |p::P,w::vs,0,m,nd,h1,h2,hk=>by simp at h1 h2;subst h1;subst h2;show bindC kindOf ((p,w)::P.zip vs) m p=_;unfold bindC;rw[NQ λv hv=>(Gx.mp nd).1 (uy hv).1,aO hk];simp |p::P,w::vs,i+1,m,nd,h1,h2,hk=>by show bindC kindOf ((p,w)::P.zip vs) m x=_;unfold bindC;exact NR (i:=i) (Gx.mp nd).2 (by simpa using h1) (by simpa using h2) hk
def start(N:List Str)(vs:List V):St:=vs.map some++List.replicate (N.length-vs.length) none
def gA(CX:iC)(P:a9)(w:World)(K:a7)(mg:bI)(ao:Heap)(N:List Str)(qual:Str)(scope:Scope)(f:Addr)(cd:Value)(A:ag)(outer:List Env)(s:a8)(H:Hp)(E:XK):Cx where
 prog:=P
 w:=w
 K:=K
 mg:=mg
 ao:=ao
 A:=A.deeper (envOfC qual scope s.heap.objs.size f cd)
 N:=N
 s₀:=s
 H₀:=H
 env:=envOfC qual scope s.heap.objs.size f cd
 outer:=outer
 stack:=envOfC qual scope s.heap.objs.size f cd::outer
 ex:=[]
 calm:=true
 fn:=λ_=>true
 pn:=[]
 xe:=λe s'=>wpAny (model P w) (A.deeper (envOfC qual scope s.heap.objs.size f cd)) (leaving (envOfC qual scope s.heap.objs.size f cd) e) (λ_ CY=>CX outer H s E e CY) (λe' CY=>CX outer H s E e' CY) s'
theorem NI{sc:Scope}{n:Nat}{x:Str}(h:sc.names.lookup x=some .cell):∃c,(cellsFrom n sc.names []).lookup x=some c:=by have q:=Gi sc.names n [] (.inl h);exact Option.isSome_iff_exists.mp q
theorem Eh{CX:iC}{P:a9}{w:World}{K:a7}{mg:bI}{ao:Heap}{N ps:List Str}{qual:Str}{scope:Scope}{f:Addr}{cd:Value}{A:ag}{outer:List Env}{s s1:a8}{H:Hp}{E:XK}{us:List Value}{vs:List V} (S:bo N ps scope)(hd:A.handled=none)(e0:nK P w K mg ao A outer s H)(hl:vs.length=ps.length)(r:Vals vs us) (x:InCallC s s.heap.objs.size (bindL (envOfC qual scope s.heap.objs.size f cd).kindOf (ps.zip us) λ_=>none) (cellsFrom (s.heap.objs.size+1) scope.names []) (bindC (envOfC qual scope s.heap.objs.size f cd).kindOf (ps.zip us) λ_=>none) s1): Inv (gA CX P w K mg ao N qual scope f cd A outer s H E) [] (start N vs) H s1:=by
 have gy:ps.length<=N.length:=by have:=congrArg List.length S.pre;rw[kW]at this;lia
 obtain⟨h1,tk,rfl,hk⟩:=x.done;have vF:∀b:Addr,b∉(gA CX P w K mg ao N qual scope f cd A outer s H E).ex:=λb z=>absurd (show b∈([]:List Addr)from z) (by simp);refine⟨⟨e0.mod,S.kind,Z,Z,ba _,λy z c h1 h2=>?_,λy hy=>?_,λy c _ h=>?_,λ_=>hd,Around.frames_deeper e0.frames,.inr ⟨Z,Z⟩,λb z=>absurd z (vF b),e0.bs,e0.jy,λb _ _=>vF b,λb z=>absurd z (vF b),e0.hX,e0.kF⟩,rfl,e0.bare,Un.kept hk,⟨_,x.toInCall.ns,λi y v h1 h2 h3=>?_⟩,λy c h=>⟨_,x.cell y c h⟩,e0.aW.fresh (ba _),λy c h=>?_,λp hp=>absurd (show p∈([]:List (Addr×Obj))from hp) (by simp),e0.aW.kept hk,?_⟩
 ·exact name_of_addr x.apart (AA h1) (AA h2)
 ·have hy:scope.names.lookup y=some .cell\/scope.names.lookup y=some .free:=hy
  rcases hy with hy|hy
  ·exact NI hy
  ·exact absurd Z (S.VA _ (AA hy))
 ·exact Gu (x.above y c (AA h))
 ·have hi:i<vs.length:=by
   unfold start at h2;by_cases hi:i<vs.length
   ·exact hi
   ·rw[nQ (by simpa using hi)]at h2
    rw[List.getElem?_replicate]at h2;split at h2<;>cases h2
  have ha:vs[i]? =some v:=by unfold start at h2;rw[pV (by simpa using hi),bN]at h2;cases e:vs[i]? with |none=>rw[e]at h2;cases h2 |some a=>rw[e]at h2;cases h2;rfl
  obtain⟨u,hu,rv⟩:=r.get ha;have hp:ps[i]? =some y:=by rw[<-S.pre,List.getElem?_take_of_lt ak];exact h1
  have KS:ps.Nodup:=by rw[<-S.pre];exact S.nd.sublist (List.take_sublist _ _)
  refine⟨u,rv,?_⟩;rcases S.par y (fO hp)with k|k
  ·exact .inl ⟨k,NP KS hp hu k⟩
  ·obtain⟨c,e⟩:=NI (n:=s.heap.objs.size+1) k
   refine .inr ⟨.inl k,c,e,?_⟩;have q:=x.cell y c e;rw[NR KS hp hu (by show scope.names.lookup y≠_;rw[k];decide)]at q;exact q
 ·exact e0.aW.fresh (Gu (x.above y c (AA h)))
 ·unfold start
  show _=N.length;rw[cD,bu,List.length_replicate]
  lia
theorem MF{CX:iC}{P:a9}{w:World}{K:a7}{mg:bI}{ao:Heap}{k:Nat}{f:Addr}{name qual:Str}{params:Arguments}{body:List Stmt}{scope:Scope}{dV kV doc pm aH ct oc:Value}{an od:Option Addr} {fm:Array (Option Value)}{N ps:List Str}{sp:Sp}(lk:K.lookup f=some ⟨oc,od,.func (PySem.W.fnOf name qual params body scope dV kV doc pm an aH ct),fm⟩)(e9:PySem.W.codeIn K aH qual=true)(S:bo N ps scope) (len:∀vs H Q E,sp vs H Q E->vs.length=ps.length) (iq:∀(A:ag)(outer:List Env)(s:a8)(H:Hp)(vs:List V)(Q:VK)(E:XK),cS k (A.deeper (envOfC qual scope s.heap.objs.size f aH))->sp vs H Q E->∃t,fM (gA CX P w K mg ao N qual scope f aH A outer s H E) body t/\t {nx:=λ_ H'=>Q .bM H',rt:=Q} (start N vs) H): gT P w K mg ao CX (k+1) f (PySem.W.fnOf name qual params body scope dV kV doc pm an aH ct) ps sp:=by
 refine⟨len,λA outer s H args us vs Q E hr e0 hb r fC=>?_⟩;have hl:=len _ _ _ _ fC;have KX:K.In s.heap:=e0.mod.oN.keeps λb o e=>(e0.bs b o e).1;have lim:s.heap.NoLimit:=e0.mod.nolimit.keeps λb o e=>(e0.bs b o e).1;have iV:∀y∈ps.zip us,scope.names.lookup y.1=some .local\/(scope.names.lookup y.1=some .cell/\((cellsFrom (s.heap.objs.size+1) scope.names []).lookup y.1).isSome=true):=λ⟨n,v⟩ hy=>by
  rcases S.par n (uy hy).1 with q|q
  ·exact .inl q
  ·exact .inr ⟨q,Gi _ _ _ (.inl q)⟩
 refine OQ hr.depth (KX _ _ lk) Z S.co S.gen Z (OT KX e9) (hb _ _ _ _ ?_);refine OM S.kind iV λenv he s1 x=>?_;subst he;refine⟨lim.keeps x.toInCall.keep,codeAny_func ?_⟩;obtain⟨t,ht,hq⟩:=iq A outer s H vs Q E (hr.deeper _) fC;have I:Inv (gA CX P w K mg ao N qual scope f aH A outer s H E) [] (start N vs) H s1:=Eh S hr.hd e0 hl r x;refine dR (ht [] s1 (start N vs) H _ I hq) (λfl s' hs=>?_) λe s' hs=>hs;have fin:∀{σ':St}{H':Hp}{v:V}{u:Value},Inv (gA CX P w K mg ao N qual scope f aH A outer s H E) [] σ' H' s'->RelV v u->Q v H'->CE outer P w H s Q u s':=λ{σ' H' v u} J rv q=>⟨v,H',J.os,J.bare,J.ao,J.aW,rv,q⟩;cases fl with |ret u=>obtain⟨v,σ',H',J,rv,q⟩:=hs;exact fin J rv q |next=>obtain⟨σ',H',J,q⟩:=hs;exact fin (v:=V.bM) (u:=Value.none) J Z q |brk=>obtain⟨_,_,_,q⟩:=hs;exact False.elim q |cont=>obtain⟨_,_,_,q⟩:=hs;exact False.elim q
section
variable {X:Cx}{x:Str}{p pos:Pos}{e:Expr}{es:List Expr}{t:TA}{id T:String}{r:List V->Hp->VK->Prop}
def xZ(r:List V->Hp->VK->Prop)(t:TA):TE:=λO H Q=>t O H λvs H1=>r vs H1 Q
theorem dk(hc:eu X (.builtin id) r)(hg:Gl X x)(hm:X.mg x=none)(hv:bootBuiltins x=some (.builtin id))(ha:PA X (e::es) t)(hn:x≠"__name__":=by decide)(ip:(x==("__debug__":Str))=false:=by decide) (he:starEach (e::es) X.env=(false,eval e X.env)::starEach es X.env:=by rfl)(gy:(backTo pos (starEach es X.env)).any (·.1)=false:=by rfl):PE X (.Call (.Name x p) (e::es) [] pos) (xZ r t):=by intro aj s O H Q I h;refine Aq (oM I hg hm hv ?_ hn ip);exact PyProof.Rows.callWith_builtin1 (aL (ha pos aj s O H _ I h) λus s1 ⟨vs,H1,I1,r1,q1⟩=>hc aj s1 O H1 vs us Q I1 r1 q1) he gy
theorem fj(hc:eu X (.type T) r)(hg:Gl X x)(hm:X.mg x=none)(hv:bootBuiltins x=some (.type T))(ha:PA X (e::es) t)(hn:x≠"__name__":=by decide)(ip:(x==("__debug__":Str))=false:=by decide) (he:starEach (e::es) X.env=(false,eval e X.env)::starEach es X.env:=by rfl)(gy:(backTo pos (starEach es X.env)).any (·.1)=false:=by rfl):PE X (.Call (.Name x p) (e::es) [] pos) (xZ r t):=by intro aj s O H Q I h;refine Aq (oM I hg hm hv ?_ hn ip);exact xA (aL (ha pos aj s O H _ I h) λus s1 ⟨vs,H1,I1,r1,q1⟩=>hc aj s1 O H1 vs us Q I1 r1 q1) he gy
end
end L2
namespace HT
open PySem PyProof.Rows
section
open PySem.SeqAt
open PySem.AutoSeq1 (wpAny_loadPart')
open PySem.MeetsSeq PySem.MeetsSeq2 PySem.MeetsSeq3
end
section
variable {prog:a9}{w:World}{A:ag}{E:Value->a8->Prop}{s:a8}
theorem a20{t b:Addr}{vs ws:List Value}{Q:Value->a8->Prop}(ht:IsTup s.heap t vs.toArray)(hb:IsTup s.heap b ws.toArray)(hv:vs≠[]) (h1:ws=[]->Q (.ref t) s)(h2:ws≠[]->Q (.ref s.heap.objs.size) {s with heap:=s.heap.push {cls:=.type "tuple",data:=.seq (vs++ws).toArray}}) (nc:vs.length+ws.length<=sizeLine):wpAny (model prog w) A (binaryOp .Add (.ref t) (.ref b)) Q E s:=by
 obtain⟨⟨cls,dd,data,sl⟩,ho,hc,n,hd⟩:=id ht;obtain⟨⟨NF,ue,data2,sQ⟩,iU,iW,n2,hd2⟩:=id hb;simp only at hc hd iW hd2;subst hc hd iW hd2;have e:vs.toArray++ws.toArray=(vs++ws).toArray:=by simp
 by_cases hw:ws=[]
 ·exact concat_meets ⟨_,ho,Z⟩ ⟨_,iU,Z⟩ noFill_tuple_add seq_tuple_add OX OY (OZ _ _) (tuple_addW1 t b vs.toArray ws.toArray n n2 dd ue sl sQ (by simpa using hv) (by simp[hw])) ⟨ho,iU,h1 hw⟩
 ·refine concat_meets ⟨_,ho,Z⟩ ⟨_,iU,Z⟩ noFill_tuple_add seq_tuple_add OX OY (OZ _ _) (tuple_addW2 t b vs.toArray ws.toArray n n2 dd ue sl sQ (by simpa using hv) (by simpa using hw) (by rw[cB,cB];exact nc)) ⟨ho,iU,?_⟩;rw[e];exact h2 hw
def bO(n d:Nat):Option Int->Nat |none=>d |some v=>if v<0 then(v+(n:Int)).toNat else min v.toNat n
theorem JH (n d:Nat):bO n d none=d:=rfl
theorem Ci(n d k:Nat):bO n d (some (k:Int))=min k n:=by show(if(k:Int)<0 then((k:Int)+(n:Int)).toNat else min (k:Int).toNat n)=min k n;rw[aO ak,GD]
theorem RU(n d:Nat)(hd:d<=n)(o:Option Int):bO n d o<=n:=by cases o with |none=>exact hd |some v=>
 show(if v<0 then(v+(n:Int)).toNat else min v.toNat n)<=n;by_cases hv:v<0
 ·rw[aR hv];lia
 ·rw[aO hv];exact Nat.min_le_right _ _
theorem NG(v:Int)(n d:Nat):(if v<0 then max (v+(n:Int)) 0 else min v (n:Int))=((bO n d (some v):Nat):Int):=by
 show(if v<0 then max (v+(n:Int)) 0 else min v (n:Int))=(((if v<0 then(v+(n:Int)).toNat else min v.toNat n):Nat):Int);by_cases hv:v<0
 ·simp only[aR hv];lia
 ·simp only[aO hv];lia
theorem a2Q(lo hi:Option Int)(n:Nat):Builtin.Slice.sliceAdjust lo hi 1 (n:Int)=(((bO n 0 lo:Nat):Int),((bO n n hi:Nat):Int)):=by
 have h1:¬((1:Int)<0):=by lia
 unfold Builtin.Slice.sliceAdjust;simp only[h1,if_false];refine Prod.ext ?_ ?_
 ·cases lo with |none=>rfl |some v=>exact NG v n 0
 ·cases hi with |none=>rfl |some v=>exact NG v n n
theorem Te(i j:Nat):Builtin.Slice.slicePlaces (i:Int) (j:Int) 1=j-i:=by
 unfold Builtin.Slice.slicePlaces;have h1:(1:Int)>0:=by lia
 simp only[h1,kT,Int.ediv_one];split<;>lia
theorem Ie{v:Value}{o:Option Int}{Q:Option Int->a8->Prop}(p:IsPart v o)(h:Q o s):wpAny (model prog w) A (Builtin.Slice.slicePartIndex v) Q E s:=by cases p with |none=>exact slicePart_none h |int i t=>exact slicePart_int h
theorem Rw{sl:Addr}{vl vu:Value}{lo hi:Option Int}{n:Nat}{Q:Int×Int×Nat->a8->Prop}(hs:s.heap.IsSliceOf sl vl vu .none)(pl:IsPart vl lo)(pu:IsPart vu hi) (h:Q (((bO n 0 lo:Nat):Int),1,bO n n hi-bO n 0 lo) s):wpAny (model prog w) A (Builtin.Slice.sliceApplied (.ref sl) (pure (n:Int))) Q E s:=by obtain⟨os,lQ,jR,jQ⟩:=id hs;unfold Builtin.Slice.sliceApplied Builtin.Slice.sliceFields;refine az (az (fZ lQ jQ (x:=vl) Z (az (fZ lQ jQ (x:=vu) Z (az (fZ lQ jQ (x:=.none) Z (bc ?_)))))));refine az (slicePart_none ?_);show wpAny _ _ (if((1:Int)==0)=true then _ else _) _ _ s;rw[aO au];refine az (Ie pl (az (Ie pu (az (bc ?_)))));show wpAny _ _ (match Builtin.Slice.sliceAdjust lo hi 1 (n:Int)with|(lo,hi)=>pure (lo,(1:Int),Builtin.Slice.slicePlaces lo hi 1)) _ _ s;rw[a2Q lo hi n];show wpAny _ _ (pure (((bO n 0 lo:Nat):Int),(1:Int),Builtin.Slice.slicePlaces ((bO n 0 lo:Nat):Int) ((bO n n hi:Nat):Int) 1)) _ _ s;rw[Te];exact bc h
theorem Tf(xs:Array Value)(i k:Nat):((List.range k).filterMap λ(m:Nat)=>xs[((i:Int)+(m:Int)*1).toNat]?).toArray=((xs.toList.drop i).take k).toArray:=by
 have e:(λ(m:Nat)=>xs[((i:Int)+(m:Int)*1).toNat]?)=λm=>xs[i+m]?:=by
  funext m;have:((i:Int)+(m:Int)*1).toNat=i+m:=by lia
  rw[this]
 rw[e];have:=pick_run xs i k;rw[List.filterMap_map]at this;have e2:((λx=>xs[x]?)∘λx=>i+x)=λm=>xs[i+m]?:=rfl;rw[e2]at this;rw[this]
theorem Zr{t sl:Addr}{items:Array Value}{vl vu:Value}{lo hi:Option Int}{Q:Value->a8->Prop}(ht:IsTup s.heap t items)(hs:s.heap.IsSliceOf sl vl vu .none)(pl:IsPart vl lo)(pu:IsPart vu hi) (hw:¬(bO items.size 0 lo=0/\bO items.size items.size hi=items.size)) (h:Q (.ref s.heap.objs.size) {s with heap:=s.heap.push {cls:=.type "tuple",data:=.seq ((items.toList.drop (bO items.size 0 lo)).take (bO items.size items.size hi-bO items.size 0 lo)).toArray}}) (nc:items.size<=sizeLine):wpAny (model prog w) A (getItem (.ref t) (.ref sl)) Q E s:=by
 have zr:sizeOk (.seq ((items.toList.drop (bO items.size 0 lo)).take (bO items.size items.size hi-bO items.size 0 lo)).toArray):=by show((items.toList.drop (bO items.size 0 lo)).take (bO items.size items.size hi-bO items.size 0 lo)).toArray.size<=sizeLine;rw[cB,kW,si,xJ];omega
 have hj:bO items.size items.size hi<=items.size:=RU _ _ (ba _) hi;obtain⟨os,lQ,jR,jQ⟩:=id hs;have zC:s.TypeIs (.ref sl) "slice":=⟨os,lQ,jR⟩;unfold getItem
 try with_reducible refine gU ?_
 first|refine az (bc ?_)|skip
 refine az (wpAny_sequenceKey ht.typeIs au ?_);refine az (xu (name:=Str.ofString "__getitem__") ht.typeIs P2 (xq P2 ht.typeIs entry_tuple_getitem ?_ (args_tuple_getitem _ _)));show wpAny _ _ (Builtin.Tuple.tupleItemsOf (.ref t)>>=_) _ _ s;refine az (tupleItemsOf_ ht ?_);refine az (wpAny_typeOf zC ?_);rw[aR au];refine az (Rw hs pl pu ?_);have Xx:¬((((bO items.size 0 lo:Nat):Int)==0&&(1:Int)==1&&(bO items.size items.size hi-bO items.size 0 lo)==items.size)=true):=by intro q;rw[eF,eF]at q;have q1:((bO items.size 0 lo:Nat):Int)=0:=eq_of_beq q.1.1;have q2:bO items.size items.size hi-bO items.size 0 lo=items.size:=eq_of_beq q.2;exact hw ⟨aI,aI⟩
 show wpAny _ _ (if(((bO items.size 0 lo:Nat):Int)==0&&(1:Int)==1&&(bO items.size items.size hi-bO items.size 0 lo)==items.size)=true then _ else _) _ _ s;rw[aO Xx,Tf]
 first |exact az (m:=Builtin.Tuple.tupleExact _) (mx (bc ⟨_,Z,bc h⟩) zr) |exact az (m:=Builtin.Tuple.tupleExact _) (mx (az (bc (bc ⟨_,Z,bc h⟩))) zr) |exact az (az (m:=Builtin.Tuple.tupleExact _) (mx (bc (bc ⟨_,Z,bc h⟩)) zr)) |exact az (az (m:=Builtin.Tuple.tupleExact _) (mx (bc ⟨_,Z,bc h⟩) zr))
end
end HT
namespace L2
open PySem PySem.Spec PyProof.Rows
abbrev TO:=St->Hp->(Option Int->Hp->Prop)->Prop
def PO(X:Cx)(e:Option Expr)(t:TO):Prop:=∀(aj:List (Addr×Obj))(s:a8)(O:St)(H:Hp)(Q:Option Int->Hp->Prop),Inv X aj O H s->t O H Q->wpAny (model X.prog X.w) X.A (evalPart e X.env) (λu s'=>∃o H',Inv X aj O H' s'/\IsPart u o/\Q o H') X.xe s
def Qz:TO:=λ_ H Q=>Q none H
inductive a3e(Q:Option Int->Hp->Prop)(x:V)(H1:Hp):Prop |mk (i:_)(h0:x= .int i)(h1:Q (some i) H1)
def Qu(t:TE):TO:=λO H Q=>t O H λx H1=>a3e Q x H1
section
variable {X:Cx}{e:Expr}{te:TE}{lo hi:Option Expr}{tl th:TO}{pos p2:Pos}
theorem yF:PO X none Qz:=by intro aj s O H Q I h;rw[evalPart_none];exact bc ⟨none,H,I,.none,h⟩
theorem td(h:PE X e te):PO X (some e) (Qu te):=by intro aj s O H Q I hw;rw[evalPart_some];refine aL (h aj s O H _ I hw) λu s1 ⟨x,H1,I1,r1,q1⟩=>?_;obtain⟨i,rfl,q⟩:=q1;obtain⟨t,rfl⟩:=r1;exact⟨some i,H1,I1,.int i t,q⟩
def Ab(X:Cx)(r:V->Option Int->Option Int->Hp->VK->Prop):Prop:=∀(aj:List (Addr×Obj))(s:a8)(O:St)(H:Hp)(x:V)(v vl vu:Value)(lo hi:Option Int)(sl:Addr)(Q:VK),Inv X aj O H s->RelV x v->s.heap.IsSliceOf sl vl vu .none->IsPart vl lo->IsPart vu hi->r x lo hi H Q->∃T id,typeLookup (.type T) "__getitem__"=pure (some (.builtin id))/\s.TypeIs v T/\wpAny (model X.prog X.w) X.A (getItem v (.ref sl)) (EP X aj O Q) X.xe s
def Qr(r:V->Option Int->Option Int->Hp->VK->Prop)(te:TE)(tl th:TO):TE:=λO H Q=>te O H λx H1=>tl O H1 λl H2=>th O H2 λu H3=>r x l u H3 Q
theorem yI{r:V->Option Int->Option Int->Hp->VK->Prop}(hr:Ab X r)(he:PE X e te)(hl:PO X lo tl)(hu:PO X hi th):PE X (.Subscript e (.Slice lo hi none p2) pos) (Qr r te tl th):=by intro aj s O H Q I h;refine Subscript_ (aL (he aj s O H _ I h) λv s1 ⟨x,H1,I1,r1,q1⟩=>?_);refine wpAny_Slice (aL (hl aj s1 O H1 _ I1 q1) λvl s2 ⟨l,H2,I2,pl,q2⟩=>aL (hu aj s2 O H2 _ I2 q2) λvu s3 ⟨u,H3,I3,pu,q3⟩=>?_);rw[evalPart_none];refine bc ?_;have I4:Inv X aj O H3 {s3 with heap:=s3.heap.push {cls:=.type "slice",data:=.fields #[vl,vu,.none]}}:=I3.kept (t':=s3.toks) λb ob q=>bV _ q;obtain⟨T,id,hT,ht,hg⟩:=hr aj {s3 with heap:=s3.heap.push {cls:=.type "slice",data:=.fields #[vl,vu,.none]}} O H3 x v vl vu l u s3.heap.objs.size Q I4 r1 (Heap.IsSliceOf.new ..) pl pu q3;show wpAny (model X.prog X.w) X.A (subscriptTail e (.Slice lo hi none p2) v (.ref s3.heap.objs.size)) (EP X aj O Q) X.xe {s3 with heap:=s3.heap.push {cls:=.type "slice",data:=.fields #[vl,vu,.none]}};exact tail_any (ops:=[.ref s3.heap.objs.size,v]) ht hT hg (by with_unfolding_all rfl)
def jT(xs:List V)(lo hi:Option Int):List V:=(xs.drop (HT.bO xs.length 0 lo)).take (HT.bO xs.length xs.length hi-HT.bO xs.length 0 lo)
theorem Nt(xs:List V)(lo hi:Option Int):(jT xs lo hi).length<=xs.length:=by
 unfold jT;rw[kW,si]
 lia
inductive a4p(K:a7)(x:V)(lo:Option Int)(hi:Option Int)(H:Hp)(Q:VK):Prop |mk (a:_)(xs:_)(h0:x= .ref a)(h1:aK K H a xs)(h2:¬(HT.bO xs.length 0 lo=0/\HT.bO xs.length xs.length hi=xs.length))(h3:∀p,H p=none->Q (.ref p) (upd H p (.tup (jT xs lo hi))))
def Sx(K:a7):V->Option Int->Option Int->Hp->VK->Prop:=λx lo hi H Q=>a4p K x lo hi H Q
theorem Rx:Ab X (Sx X.K):=by
 intro aj s O H x v vl vu lo hi sl Q I rx hs pl pu h;obtain⟨a,xs,rfl,hx,hw,q⟩:=h;cases rx;obtain⟨its,r,ht,hz⟩:=I.tuple hx;have hlen:its.toArray.size=xs.length:=by rw[cB];exact r.length.symm
 refine⟨"tuple",_,P2.lookup,ht.typeIs,?_⟩;refine HT.Zr ht hs pl pu (by rw[hlen];exact hw) ?_ (by rw[hlen];exact hz);rw[hlen];refine⟨.ref s.heap.objs.size,_,I.laid (t':=s.toks) (o:=.tup (jT xs lo hi)) (λb ob q=>bV _ q) (ba _) ?_,Z,q _ (I.aW.fresh (ba _))⟩;exact⟨fe (Nt xs lo hi) hz,_,(r.drop (HT.bO xs.length 0 lo)).take (HT.bO xs.length xs.length hi-HT.bO xs.length 0 lo),IsTup.new _ _⟩
theorem Vals.DM{xs:List V}{us:List Value}(r:Vals xs us):us=[]↔xs=[]:=by cases r with |nil=>simp |cons _ _=>simp
end
def gc(n:Nat)(i:Int):Option Nat:=if 0<=i then(if i<n then some i.toNat else none)else if-(n:Int)<=i then some (i+n).toNat else none
def dI{α:Type}(xs:List α)(i:Int):Option α:=(gc xs.length i).bind λj=>xs[j]?
theorem LF{n:Nat}{i:Int}{j:Nat}(h:gc n i=some j):seqIndex? i n=some j/\j<n/\-(n:Int)<=i/\i<n:=by
 unfold gc at h;by_cases h0:0<=i
 ·rw[aR h0]at h
  by_cases h1:i<n
  ·rw[aR h1]at h
   have e:i.toNat=j:=dv h;exact⟨by rw[seqIndex_of h0 h1,e],ak,ak,h1⟩
  ·rw[aO h1]at h;cases h
 ·rw[aO h0]at h
  by_cases h1:-(n:Int)<=i
  ·rw[aR h1]at h
   have e:(i+n).toNat=j:=dv h;exact⟨by rw[seqIndex_neg ak h1,e],ak,h1,ak⟩
  ·rw[aO h1]at h;cases h
theorem FW{α:Type}{xs:List α}{i:Int}{v:α}(h:dI xs i=some v):∃j,seqIndex? i xs.length=some j/\xs[j]? =some v/\j<xs.length/\-(xs.length:Int)<=i/\i<xs.length:=by unfold dI at h;cases e:gc xs.length i with |none=>rw[e]at h;cases h |some j=>rw[e]at h;obtain⟨h1,h2,h3,h4⟩:=LF e;exact⟨j,h1,h,h2,h3,h4⟩
theorem a2A{α:Type}{xs:List α}{j:Nat}{v:α}(h:xs[j]? =some v):dI xs (j:Int)=some v:=by
 have hj:j<xs.length:=(cy.mp h).1;have e:gc xs.length (j:Int)=some j:=by unfold gc;rw[aR ak,aR ak];simp
 unfold dI;rw[e];exact h
def Ov(b:Expr):Prop:=∀o i,subscripted b false o i=operate [o,i] (getItem o i)
def nI(X:Cx)(r:R2):Prop:=∀(value slice:Expr)(aj:List (Addr×Obj))(s:a8)(O:St)(H:Hp)(x y:V)(v u:Value)(Q:VK),Inv X aj O H s->RelV x v->RelV y u->r x y H Q->subscripted slice false v u=operate [v,u] (getItem v u)->wpAny (model X.prog X.w) X.A (subscriptTail value slice v u) (EP X aj O Q) X.xe s
def OC(X:Cx)(id:String)(r:V->List V->Hp->VK->Prop):Prop:=∀(aj:List (Addr×Obj))(s:a8)(O:St)(H:Hp)(x:V)(xs:List V)(v:Value)(us:List Value)(Q:VK),Inv X aj O H s->RelV x v->Vals xs us->r x xs H Q->wpAny (model X.prog X.w) X.A (call (.builtin id) (v::us)) (EP X aj O Q) X.xe s
section
variable {X:Cx}{a b:Expr}{ta tb:TE}{pos:Pos}
theorem nI.or{r r':R2}(h:nI X r)(h':nI X r'):nI X (λx y H Q=>r x y H Q\/r' x y H Q):=by
 intro value slice aj s O H x y v u Q I rx ry q hs;rcases q with q|q
 ·exact h value slice aj s O H x y v u Q I rx ry q hs
 ·exact h' value slice aj s O H x y v u Q I rx ry q hs
theorem Kj{r:R2}(hr:nI X r)(ha:PE X a ta)(hb:PE X b tb)(hs:Ov b):PE X (.Subscript a b pos) (uQ r ta tb):=by intro aj s O H Q I h;exact Subscript_ (FN ha hb I h λv u s2 x y H2 I2 rx ry q=>hr a b aj s2 O H2 x y v u Q I2 rx ry q (hs _ _))
inductive a4z(K:a7)(x:V)(y:V)(H:Hp)(Q:VK):Prop |mk (p:_)(xs:_)(i:_)(v:_)(h0:x= .ref p)(h1:y= .int i)(h2:aF K H p xs)(h3:dI xs i=some v)(h4:Q v H)
def Dn(K:a7):R2:=λx y H Q=>a4z K x y H Q
inductive a4x(K:a7)(x:V)(y:V)(H:Hp)(Q:VK):Prop |mk (p:_)(xs:_)(i:_)(v:_)(h0:x= .ref p)(h1:y= .int i)(h2:aK K H p xs)(h3:dI xs i=some v)(h4:Q v H)
def Dm(K:a7):R2:=λx y H Q=>a4x K x y H Q
inductive a4y(x:V)(y:V)(H:Hp)(Q:VK):Prop |mk (z:_)(i:_)(c:_)(h0:x= .str z)(h1:y= .int i)(h2:z.length<=sizeLine)(h3:dI z.cps.toList i=some c)(h4:Q (.str ⟨#[c]⟩) H)
def SH:R2:=λx y H Q=>a4y x y H Q
theorem WI:nI X (Dn X.K):=by
 intro value slice aj s O H x y v u Q I rx ry h hs;obtain⟨p,xs,i,z,rfl,rfl,hq,he,q⟩:=h;cases rx;obtain⟨t,rfl⟩:=ry;obtain⟨its,r,pl,hz⟩:=I.list hq;obtain⟨j,h1,h2,h3,h4,h5⟩:=FW he;obtain⟨w,ew,fy⟩:=r.get h2;have hl:=r.length;have hn:=qA;have fin:EP X aj O Q w s:=⟨z,H,I,fy,q⟩;by_cases h0:0<=i
 ·have hj:i.toNat=j:=by rw[seqIndex_of h0 h5]at h1;exact dv h1
  exact item_listR pl.isList h0 ak (by rw[hj];simpa using ew) fin hs
 ·have hj:(i+(its.toArray.size:Int)).toNat=j:=by rw[seqIndex_neg ak h4]at h1;rw[cB,<-hl];exact dv h1
  exact subscriptTail_builtinR (x:=w) pl.isList.typeIs slot_list_getitem.lookup (wpAny_getItem_list_neg (Q:=λr s'=>r=w/\EP X aj O Q r s') pl.isList ak (by rw[cB]<;>lia) ak (by rw[hj];simpa using ew) ⟨Z,fin⟩) hs
theorem WG:nI X (Dm X.K):=by intro value slice aj s O H x y v u Q I rx ry h hs;obtain⟨p,xs,i,z,rfl,rfl,hq,he,q⟩:=h;cases rx;obtain⟨t,rfl⟩:=ry;obtain⟨its,r,pl,hz⟩:=I.tuple hq;obtain⟨j,h1,h2,h3,h4,h5⟩:=FW he;obtain⟨w,ew,fy⟩:=r.get h2;have hl:=r.length;have hn:=qA;have fin:EP X aj O Q w s:=⟨z,H,I,fy,q⟩;exact subscriptTail_builtinR (x:=w) pl.typeIs slot_tuple_getitem.lookup (getItem_tuple (j:=j) (Q:=λr s'=>r=w/\EP X aj O Q r s') pl ak ak (by rw[cB,<-hl];exact h1) (by simpa using ew) ⟨Z,fin⟩) hs
theorem WH:nI X SH:=by
 intro value slice aj s O H x y v u Q I rx ry h hs;obtain⟨z,i,c,rfl,rfl,hz,he,q⟩:=h;obtain⟨t,rfl⟩:=rx;obtain⟨t',rfl⟩:=ry;obtain⟨j,h1,h2,h3,h4,h5⟩:=FW he;have hl:z.cps.toList.length=z.length:=by simp[Str.length]
 rw[hl]at h1 h4 h5;have hn:=qA;exact tail_any (typeIs_str s z t) slot_str_getitem.lookup (getItem_str (c:=c) (by have e1:decide (i< -(2^63:Int))=false:=cY ak;have e2:decide (i>=2^63)=false:=cY ak;rw[e1,e2,Bool.or_false]) (by rw[h1];simpa using h2) ⟨.str ⟨#[c]⟩,H,I.tok _,⟨_,Z⟩,q⟩) hs
theorem VY(its:List Value)(n j:Nat)(u:Value):Obj.mapSeq (·.setIfInBounds j u) {cls:=.type "list",data:=.seq its.toArray n}={cls:=.type "list",data:=.seq (its.set j u).toArray n}:=by simp[Obj.mapSeq]
theorem Inv.lst{aj:List (Addr×Obj)}{O:St}{H:Hp}{s:a8}{p:Addr}{xs:List V}(I:Inv X aj O H s)(h:H p=some (.lst xs)): ∃(its:List Value)(n:Nat),Vals xs its/\s.heap.get? p=some {cls:=.type "list",data:=.seq its.toArray n}/\xs.length<=sizeLine:=by obtain⟨z,its,n,r,e⟩:=I.aW p _ h;exact⟨its,n,r,e,z⟩
theorem Inv.W8{aj:List (Addr×Obj)}{O:St}{H:Hp}{s:a8}{p:Addr}{xs ys:List V}{its its':List Value}{n n':Nat}{f:Obj->Obj}(I:Inv X aj O H s)(h:H p=some (.lst xs)) (ho:s.heap.get? p=some {cls:=.type "list",data:=.seq its.toArray n})(hf:f {cls:=.type "list",data:=.seq its.toArray n}={cls:=.type "list",data:=.seq its'.toArray n'})(r:Vals ys its')(hz:ys.length<=sizeLine)(t:Nat): Inv X aj O (upd H p (.lst ys)) {s with heap:=s.heap.update p f,toks:=t}:=by
 have e:(s.heap.update p f).get? p=some {cls:=.type "list",data:=.seq its'.toArray n'}:=by rw[AQ f ho (by rw[hf]<;>rfl),hf]
 refine I.write (x:=p) (e:=p) (by rw[h];trivial) (.inl Z) (λb u hb q=>(xI _ _ (iD hb)).trans q) ⟨_,e⟩ ?_;exact⟨hz,its',n',r,e⟩
inductive a4t(o:V)(i:V)(v:V)(H:Hp)(Q:Hp->Prop):Prop |mk (p:_)(xs:_)(k:_)(j:_)(h0:o= .ref p)(h1:i= .int k)(h2:H p=some (.lst xs))(h3:gc xs.length k=some j)(h4:Q (upd H p (.lst (xs.set j v))))
def SE:V->V->V->Hp->(Hp->Prop)->Prop:=λo i v H Q=>a4t o i v H Q
theorem set_list:Ox X SE:=by
 intro aj s O H o i v ov iv u Q I ro ri rv h;obtain⟨p,xs,k,j,rfl,rfl,hp,hj,q⟩:=h;cases ro;obtain⟨t,rfl⟩:=ri;obtain⟨its,n,r,ho,hz⟩:=I.lst hp;obtain⟨h1,h2,h3,h4⟩:=LF hj;have hl:=r.length;have hn:=qA;have I':Inv X aj O (upd H p (.lst (xs.set j v))) {s with heap:=s.heap.update p (Obj.mapSeq (·.setIfInBounds j u))}:=I.W8 hp ho (VY its n j u) (r.set rv j) (by rw[sf];exact hz) s.toks;by_cases h0:0<=k
 ·have hk:k.toNat=j:=by rw[seqIndex_of h0 h4]at h1;exact dv h1
  exact PySem.W.ki_setAt ho h0 ak (by rw[cB,<-hl];exact h4) (by rw[hk];exact⟨_,I',q⟩)
 ·have hk:(k+(its.toArray.size:Int)).toNat=j:=by rw[seqIndex_neg ak h3]at h1;rw[cB,<-hl];exact dv h1
  exact PySem.W.ki_setBack ho ak (by rw[cB,<-hl];exact h3) ak (by rw[hk];exact⟨_,I',q⟩)
theorem Rp(lo hi:Option Int)(n:Nat):(sliceBounds lo hi none n).1=((HT.bO n 0 lo:Nat):Int)/\(sliceBounds lo hi none n).2.1=((HT.bO n n hi:Nat):Int)/\(sliceBounds lo hi none n).2.2=1:=by
 refine⟨?_,?_,Z⟩
 ·cases lo with |none=>simp[sliceBounds,HT.bO] |some i=>
  simp only[sliceBounds,HT.bO,P8,show(1:Int)>0 by decide,kT];by_cases h:i<0
  ·simp only[h,kT]<;>lia
  ·simp only[h,if_false]<;>lia
 ·cases hi with |none=>simp[sliceBounds,HT.bO] |some i=>
  simp only[sliceBounds,HT.bO,P8,show(1:Int)>0 by decide,kT];by_cases h:i<0
  ·simp only[h,kT]<;>lia
  ·simp only[h,if_false]<;>lia
theorem Rr(its:List Value)(lo hi:Option Int):slicePick its.toArray lo hi none=((its.drop (HT.bO its.length 0 lo)).take (HT.bO its.length its.length hi-HT.bO its.length 0 lo)).toArray:=by obtain⟨h1,h2,h3⟩:=Rp lo hi its.toArray.size;unfold slicePick;rw[h1,h2,h3];simp only[sliceRange_one,pick_run,cB]<;>rfl
inductive a4q(K:a7)(x:V)(lo:Option Int)(hi:Option Int)(H:Hp)(Q:VK):Prop |mk (a:_)(xs:_)(h0:x= .ref a)(h1:aF K H a xs)(h2:∀p,H p=none->Q (.ref p) (upd H p (.lst (jT xs lo hi))))
def Sy(K:a7):V->Option Int->Option Int->Hp->VK->Prop:=λx lo hi H Q=>a4q K x lo hi H Q
theorem Ry:Ab X (Sy X.K):=by intro aj s O H x v vl vu lo hi sl Q I rx hs pl pu h;obtain⟨a,xs,rfl,hx,q⟩:=h;cases rx;obtain⟨its,r,ht,hz⟩:=I.list hx;have hlen:=r.length;refine⟨"list",_,slot_list_getitem.lookup,ht.isList.typeIs,?_⟩;refine wpAny_getItem_list_slice ht.isList hs pl pu .none (by simp) ?_ (by rw[cB]<;>lia);rw[Rr,<-hlen];refine⟨.ref s.heap.objs.size,_,I.laid (t':=s.toks) (o:=.lst (jT xs lo hi)) (λb ob q=>bV _ q) (ba _) ?_,Z,q _ (I.aW.fresh (ba _))⟩;exact⟨fe (Nt xs lo hi) hz,_,0,(r.drop (HT.bO xs.length 0 lo)).take (HT.bO xs.length xs.length hi-HT.bO xs.length 0 lo),dU _ Z⟩
theorem a29:eu X (.builtin "len") (λxs H Q=>∃p ys,xs=[.ref p]/\(aF X.K H p ys\/aK X.K H p ys)/\Q (.int ys.length) H):=by
 intro aj s O H xs us Q I r h;obtain⟨p,ys,rfl,hq,q⟩:=h;obtain⟨u,rfl,rx⟩:=vals1 r;cases rx;have hn:=qA;rcases hq with hq|hq
 ·obtain⟨its,r',pl,hz⟩:=I.list hq
  have hlen:=r'.length;exact Calls.call_len_list pl.isList (by simp only[cB]<;>lia) ⟨.int ys.length,H,I.tok _,⟨s.toks+1,by rw[cB,hlen]⟩,q⟩
 ·obtain⟨its,r',pl,hz⟩:=I.tuple hq
  have hlen:=r'.length;exact len_tuple pl (by simp only[cB]<;>lia) ⟨.int ys.length,H,I.tok _,⟨s.toks+1,by rw[cB,hlen]⟩,q⟩
theorem a28:eu X (.builtin "len") (λxs H Q=>∃z,xs=[.str z]/\z.length<=sizeLine/\Q (.int z.length) H):=by intro aj s O H xs us Q I r h;obtain⟨z,rfl,hz,q⟩:=h;obtain⟨u,rfl,t,rfl⟩:=vals1 r;have hn:=qA;exact len_str ak ⟨.int z.length,H,I.tok _,⟨_,Z⟩,q⟩
theorem eu.or{f:Value}{r r':List V->Hp->VK->Prop}(h:eu X f r)(h':eu X f r'):eu X f (λxs H Q=>r xs H Q\/r' xs H Q):=by
 intro aj s O H xs us Q I rs q;rcases q with q|q
 ·exact h aj s O H xs us Q I rs q
 ·exact h' aj s O H xs us Q I rs q
theorem a27:eu X (.type "list") (λxs H Q=>∃p ys,xs=[.ref p]/\(aF X.K H p ys\/aK X.K H p ys)/\∀l,H l=none->Q (.ref l) (upd H l (.lst ys))):=by
 intro aj s O H xs us Q I r h;obtain⟨p,ys,rfl,hq,q⟩:=h;obtain⟨u,rfl,rx⟩:=vals1 r;cases rx;have fin:∀(its:List Value),Vals ys its->ys.length<=sizeLine->∀(h':Heap)(c':Nat),(∀b o',s.heap.get? b=some o'->h'.get? b=some o')->h'.get? s.heap.objs.size=some {cls:=.type "list",dict:=none,data:=.seq its.toArray c',slots:=#[]}->EP X aj O Q (.ref s.heap.objs.size) {s with heap:=h'}:=λits r' hz h' c' kp e=>⟨.ref s.heap.objs.size,_,I.laid (t':=s.toks) kp (ba _) (show eO X.prog X.w _ h' _ (.lst ys)from⟨hz,its,c',r',e⟩),Z,q _ (I.aW.fresh (ba _))⟩;rcases hq with hq|hq
 ·obtain⟨its,r',pl,hz⟩:=I.list hq
  have hlen:=r'.length;obtain⟨o,ho,hc,n,hd⟩:=pl.isList;exact call_list_seq p (.inl Z) ho hc hd (λh' c' kp e=>fin its r' hz h' c' kp e) (by simp only[cB]<;>lia)
 ·obtain⟨its,r',pl,hz⟩:=I.tuple hq
  have hlen:=r'.length;obtain⟨o,ho,hc,n,hd⟩:=pl;exact call_list_seq p (.inr Z) ho hc hd (λh' c' kp e=>fin its r' hz h' c' kp e) (by simp only[cB]<;>lia)
theorem a22:eu X (.type "tuple") (λxs H Q=>∃p ys,xs=[.ref p]/\((aF X.K H p ys/\∀l,H l=none->Q (.ref l) (upd H l (.tup ys)))\/(aK X.K H p ys/\Q (.ref p) H))):=by
 intro aj s O H xs us Q I r h;obtain⟨p,ys,rfl,h⟩:=h;obtain⟨u,rfl,rx⟩:=vals1 r;cases rx;rcases h with⟨hq,q⟩|⟨hq,q⟩
 ·obtain⟨its,r',pl,hz⟩:=I.list hq
  have hlen:=r'.length;refine call_tuple_list pl.isList (λh' kp=>?_) (by simp only[cB]<;>lia);have I1:Inv X aj O H {s with heap:=h'}:=I.kept (t':=s.toks) kp;have I2:Inv X aj O (upd H h'.objs.size (.tup ys)) {s with heap:=h'.push {cls:=.type "tuple",data:=.seq its.toArray}}:=I1.laid (t':=s.toks) (λb o e=>bV _ e) (ba _) (show eO X.prog X.w _ _ _ (.tup ys)from⟨hz,its,r',IsTup.new _ _⟩);exact⟨.ref h'.objs.size,_,I2,Z,q _ (I1.aW.fresh (ba _))⟩
 ·obtain⟨its,r',pl,hz⟩:=I.tuple hq
  exact call_tuple_same pl ⟨.ref p,H,I,Z,q⟩
def GU(K:a7)(T:String)(x:V)(H:Hp):Prop:=match x with | .str _=>T="str" | .int _=>T="int" | .ref p=>(T="list"/\∃xs,aF K H p xs)\/(T="tuple"/\∃o,K.lookup p=some o/\o.cls= .type "tuple"/\o.dict=none)\/ (T="dict"/\((∃dh,H p=some (.dK dh))\/∃dh,H p=some (.dT dh)))\/(T="set"/\∃S n,H p=some (.set S n)) |_=>False
theorem Q4{aj:List (Addr×Obj)}{O:St}{H:Hp}{s:a8}{T:String}{x:V}{v:Value}(I:Inv X aj O H s)(r:RelV x v)(ty:GU X.K T x H): s.TypeIs v T/\∀a,v= .ref a->∃ob,s.heap.get? a=some ob/\ob.dict=none:=by cases x with
 |str z=>obtain⟨t,rfl⟩:=r;cases(show T="str" from ty);exact⟨typeIs_str s z t,λ_ e=>nomatch e⟩ |int i=>obtain⟨t,rfl⟩:=r;cases(show T="int" from ty);exact⟨typeIs_int s i t,λ_ e=>nomatch e⟩ |ref p=>
  cases r;rcases ty with⟨rfl,xs,hq⟩|⟨rfl,o,hk,hc,hd⟩|⟨rfl,hk⟩|⟨rfl,S,n,hk⟩
  ·obtain⟨its,_,pl,_⟩:=I.list hq
   refine⟨pl.isList.typeIs,λa e=>?_⟩;cases e;obtain⟨o,n,e,c,hd,_⟩:=pl;exact⟨o,e,hd⟩
  ·refine⟨⟨o,I.fB p o hk,hc⟩,λa e=>?_⟩
   cases e;exact⟨o,I.fB _ o hk,hd⟩
  ·have z:∃o,s.heap.get? p=some o/\o.ExactDict:=by
    rcases hk with⟨dh,hk⟩|⟨dh,hk⟩
    ·obtain⟨_,_,_,_,o,_,_,e,ex,_⟩:=I.aW p _ hk
     exact⟨o,e,ex⟩
    ·obtain⟨_,_,_,_,o,_,_,e,ex,_⟩:=I.aW p _ hk
     exact⟨o,e,ex⟩
   obtain⟨o,e,ex⟩:=z;refine⟨⟨o,e,ex.1⟩,λa e2=>?_⟩;cases e2;exact⟨o,e,ex.2.1⟩
  ·obtain⟨o,_,_,_,e,ex,_⟩:=I.aW p _ hk
   refine⟨⟨o,e,ex.1⟩,λa e2=>?_⟩;cases e2;exact⟨o,e,ex.2.1⟩ |_=>exact False.elim ty
def y6(K:a7)(T:String)(r:V->List V->Hp->VK->Prop)(to:TE)(t:TA):TE:=λO H Q=>to O H λx H1=>GU K T x H1/\t O H1 λxs H2=>r x xs H2 Q
variable {o e:Expr}{es:List Expr}{to:TE}{t:TA}{name:Str}{apos dm:Pos}{T id:String}{r:V->List V->Hp->VK->Prop}
theorem Dz(pa:PlainAttrs T)(slot:Slot T name id)(Em:typeOf (.builtin id)=pure (.type "method_descriptor"))(hm:OC X id r)(ho:PE X o to)(ha:PA X (e::es) t) (qP:attributeBase o name X.env (eval o X.env)=eval o X.env:=by rfl) (qL:((backTo dm (starEach (e::es) X.env)).all (λx=>!x.1)&&(backToKw dm (keywordEach [] X.env)).all (λx=>x.1.isSome) &&decide ((e::es).length+([]:List Keyword).length+(if([]:List Keyword).isEmpty then 0 else 1)<30))=true:=by rfl) (qH:(apos.endLine==dm.line)=true:=by rfl)(hs:starEach (e::es) X.env=(false,eval e X.env)::starEach es X.env:=by rfl)(qD:(backTo dm (starEach es X.env)).any (·.1)=false:=by rfl): PE X (.Call (.Attribute o name apos) (e::es) [] dm) (y6 X.K T r to t):=by intro aj s O H Q I h;refine wpAny_Call_method_late qP qL qH Z (aL (ho aj s O H _ I h) λv s1 ⟨x,H1,I1,r1,ty,q1⟩=>?_);obtain⟨h1,h2⟩:=Q4 I1 r1 ty;refine⟨T,id,pa,slot,Em,h1,h2,?_⟩;have hA:=ha dm aj s1 O H1 _ I1 q1;rw[hs]at hA⊢;refine Calls.callWith_builtin (by show(false||(backTo dm (starEach es X.env)).any (·.1))=false;rw[qD]<;>rfl) (Calls.evalArgs_plain ?_);exact aL hA λus s2 ⟨vs,H2,I2,r2,q2⟩=>hm aj s2 O H2 x vs v us Q I2 r1 r2 q2
end
def OD(X:Cx)(id:String)(r:V->List V->Hp->VK->Prop):Prop:=∀(aj:List (Addr×Obj))(s:a8)(O:St)(H:Hp)(x:V)(xs:List V)(v:Value)(us:List Value)(Q:VK),Inv X aj O H s->RelV x v->Vals xs us->r x xs H Q->wpAny (model X.prog X.w) X.A (call (.builtin id) (v::us)) (EP X aj O Q) X.xe s
theorem Vals.one:∀{x:V}{us:List Value},Vals [x] us->∃u,us=[u]/\RelV x u |_,_,.cons r .nil=>⟨_,Z,r⟩
theorem Vals.rep{xs:List V}{us:List Value}(h:Vals xs us):∀k:Nat,Vals (List.replicate k xs).flatten (List.replicate k us).flatten |0=>.nil |k+1=>by rw[pU,pU,AK,AK];exact Vals.append h (Vals.rep h k)
theorem foldl_rep(its:List Value):∀(k:Nat)(acc:List Value),List.foldl (λx1 x2=>x1++x2) acc.toArray (List.replicate k its.toArray)=(acc++(List.replicate k its).flatten).toArray
 |0,acc=>by simp |k+1,acc=>by
  have e:acc.toArray++its.toArray=(acc++its).toArray:=by simp
  have e2:(acc++its)++(List.replicate k its).flatten=acc++(List.replicate (k+1) its).flatten:=by rw[pU,AK,List.append_assoc]
  rw[<-e2,<-foldl_rep its k (acc++its),<-e,pU,List.foldl_cons]
section
variable {X:Cx}{aj:List (Addr×Obj)}{O:St}{H:Hp}{s:a8}{l b:Addr}{xs ys zs:List V}
theorem Inv.E3{its its':List Value}{n:Nat}{f:Array Value->Array Value}{t':Nat}(I:Inv X aj O H s)(hH:H l=some (.lst xs)) (e:s.heap.get? l=some {cls:=.type "list",data:=.seq its.toArray n})(hf:f its.toArray=its'.toArray)(hv:Vals ys its')(hz:ys.length<=sizeLine): Inv X aj O (upd H l (.lst ys)) {s with heap:=s.heap.update l (Obj.mapSeq f),toks:=t'}:=by have q:=PySem.IsL.update e f;rw[hf]at q;refine I.write (x:=l) (e:=l) (by rw[hH];exact trivial) (.inl Z) (λb' u hb hu=>(xI s.heap (Obj.mapSeq f) (iD hb)).trans hu) ⟨_,q⟩ ?_;exact⟨hz,its',_,hv,q⟩
theorem Inv.zc{its:List Value}{t':Nat}(I:Inv X aj O H s)(hv:Vals ys its)(hz:ys.length<=sizeLine): Inv X aj O (upd H s.heap.objs.size (.lst ys)) {s with heap:=s.heap.push {cls:=.type "list",data:=.seq its.toArray},toks:=t'}:=I.laid (λ_ _ q=>bV _ q) (ba _) ⟨hz,its,0,hv,dU _ Z⟩
theorem Inv.fresh(I:Inv X aj O H s):H s.heap.objs.size=none:=I.aW.fresh (ba _)
theorem Inv.tH(I:Inv X aj O H s)(hH:H l=some (.lst xs)):xs.length<=sizeLine/\∃(its:List Value)(n:Nat),Vals xs its/\xs.length=its.length/\s.heap.get? l=some {cls:=.type "list",data:=.seq its.toArray n}:=by obtain⟨z,its,n,r,e⟩:=I.aW l _ hH;exact⟨z,its,n,r,r.length,e⟩
theorem yR{n:Nat}(h:n<=sizeLine):Builtin.List.listTooLong n=false:=by unfold Builtin.List.listTooLong;exact cY ak
end
section
variable {X:Cx}
inductive a4L(x:V)(vs:List V)(H:Hp)(Q:VK):Prop |mk (l:_)(xs:_)(y:_)(h0:x= .ref l)(h1:vs=[y])(h2:H l=some (.lst xs))(h3:xs.length<sizeLine)(h4:Q .bM (upd H l (.lst (xs++[y]))))
def K8:V->List V->Hp->VK->Prop:=λx vs H Q=>a4L x vs H Q
theorem yY:OD X "list.append" K8:=by
 intro aj s O H x vs v us Q I rx rv h;obtain⟨l,xs,y,rfl,rfl,hH,hz,q⟩:=h;cases rx;obtain⟨u,rfl,ru⟩:=rv.one;obtain⟨z,its,n,r,hl,e⟩:=I.tH hH;refine call_meets F.slot_list_append ⟨_,e,Z⟩ F.entry_list_append (F.args_list_append_2 _ _) (PySem.list_append l its.toArray n u (by rw[cB];lia)) ⟨e,?_⟩;refine⟨.bM,_,I.E3 (its':=its++[u]) hH e (by simp) (r.append (.cons ru .nil)) ?_,Z,q⟩;rw[cD,List.length_singleton]
 lia
inductive a4H(x:V)(vs:List V)(H:Hp)(Q:VK):Prop |mk (l:_)(b:_)(xs:_)(zs:_)(h0:x= .ref l)(h1:vs=[.ref b])(h2:H l=some (.lst xs))(h3:H b=some (.lst zs))(h4:xs.length+zs.length<=sizeLine)(h5:Q .bM (upd H l (.lst (xs++zs))))
def K7:V->List V->Hp->VK->Prop:=λx vs H Q=>a4H x vs H Q
theorem VT:OD X "list.extend" K7:=by
 intro aj s O H x vs v us Q I rx rv h;obtain⟨l,b,xs,zs,rfl,rfl,hH,hB,hz,q⟩:=h;cases rx;obtain⟨u,rfl,ru⟩:=rv.one;cases ru;obtain⟨z,its,n,r,hl,e⟩:=I.tH hH;obtain⟨z2,gf,n2,r2,lR,e2⟩:=I.tH hB;have nc:its.toArray.size+gf.toArray.size<=sizeLine:=by rw[cB,cB];lia
 have ED:¬(!its.toArray.isEmpty&&Builtin.List.listTooLong (its.toArray.size+gf.toArray.size))=true:=by rw[yR nc,AR];exact fQ
 refine call_meets F.slot_list_extend ⟨_,e,Z⟩ F.entry_list_extend (F.args_list_extend_2 _ _) (AutoSeq1.list_extend_list_list_0 l its.toArray n b gf.toArray n2 ED (by rw[cB];lia) ak) ⟨e,e2,?_⟩;refine⟨.bM,_,I.E3 (its':=its++gf) hH e (by simp) (r.append r2) ?_,Z,q⟩;rw[cD]
 lia
inductive a4u(x:V)(y:V)(H:Hp)(Q:VK):Prop |mk (l:_)(k:_)(xs:_)(h0:x= .ref l)(h1:y= .int k)(h2:H l=some (.lst xs))(h3:-(2^63)<=k)(h4:k<2^63)(h5:xs.length*k.toNat<=sizeLine)(h6:∀p,H p=none->Q (.ref p) (upd H p (.lst (List.replicate k.toNat xs).flatten)))
def SG:R2:=λx y H Q=>a4u x y H Q
theorem len_rep{α:Type}(xs:List α)(k:Nat):(List.replicate k xs).flatten.length=k*xs.length:=by induction k with |zero=>simp |succ k ih=>rw[pU,AK,cD,ih,Nat.succ_mul,Nat.add_comm]
theorem TN:cx X (binaryOp .Mult) SG:=by
 intro aj s O H x y v u Q I rx ry h;obtain⟨l,k,xs,rfl,rfl,hH,h1,h2,hz,q⟩:=h;cases rx;obtain⟨t,rfl⟩:=ry;obtain⟨z,its,n,r,hl,e⟩:=I.tH hH;have hlen:its.toArray.size*k.toNat<=sizeLine:=by rw[cB,<-hl];exact hz
 have Yo:¬its.toArray.size*k.toNat>(2^63-1)/8:=by
  have:(sizeLine:Nat)<=(2^63-1)/8:=by decide
  lia
 have Ye:¬(!Builtin.List.listFitsIndex k)=true:=by rw[fitsIndex_both h1 h2];exact fQ
 have ED:¬Builtin.List.listTooLong (its.toArray.size*k.toNat)=true:=by rw[yR hlen];exact fQ
 have Xy:List.foldl (λx1 x2=>x1++x2) #[] (List.replicate (if its.toArray.isEmpty=true then 0 else k.toNat) its.toArray)=(List.replicate k.toNat its).flatten.toArray:=by
  have f0:∀m:Nat,List.foldl (λx1 x2=>x1++x2) #[] (List.replicate m its.toArray)=(List.replicate m its).flatten.toArray:=λm=>by have:=foldl_rep its m [];rw[List.nil_append]at this;exact this
  rw[f0];cases its with |nil=>simp |cons a r'=>rw[aO (by simp)]
 refine wpAny_binaryOp_repeat_ref (T:="list") (U:="int") au ⟨_,e,Z⟩ (λs'=>typeIs_int s' k t) noFill_list_mul F.fills_int_mul F.slot_int_rmul repeat_list F.slot_int_index.lookup (call_meets F.slot_int_rmul (typeIs_int s k t) F.entry_int_rmul (F.args_int_rmul_2 _ _) (int___rmul___int_list k t l its.toArray n) ⟨e,Z,⟨_,e,Z⟩,call_meets F.slot_list_mul ⟨_,e,Z⟩ F.entry_list_mul (F.args_list_mul_2 _ _) (AutoListH.list___mul___list_int_3 l its.toArray n k t Ye Yo ED) ⟨e,?_⟩⟩);rw[Xy];exact⟨.ref _,_,I.zc (t':=s.toks) (r.rep k.toNat) (by rw[len_rep,Nat.mul_comm];exact hz),Z,q _ I.fresh⟩
end
section
variable {prog:a9}{w:World}{A:ag}{E:Value->a8->Prop}{s:a8}
theorem Rk(its gf:List Value)(a c:Nat):its.toArray.extract 0 a++gf.toArray++its.toArray.extract c its.toArray.size=(its.take a++gf++its.drop c).toArray:=by
 apply Array.toList_inj.mp
 first
   | (simp
      exact rZ (by simp)) |simp[rZ] |simp
end
section
variable {X:Cx}
end
end L2
namespace Att
open PySem PySem.W PySem.Calls PyProof.Rows
theorem WS{P:Params}{h:Heap}:∀(ns:List Int)(vs:List Value),WellAll P h vs (ns.map WData.int)->IntsAre vs ns:=by intro ns;induction ns with |nil=>intro vs w;rw[List.map_nil]at w;cases w;exact .nil |cons n ns ih=>intro vs w;rw[GA]at w;cases w with |cons a b=>cases a;exact .cons _ _ (ih _ b)
theorem RN{l:OpenLaw}{n:Nat}(hn:l.most=some n){P:Params}{h:Heap}{args:List WData}{vals:List Value} (zt:l.row.toRowW.claim.pre args=true)(Ek:WellAll P h vals args): ∃a vs ns,vals=[Value.ref a]/\args=[WData.list (ns.map WData.int)]/\h.get? a=some {cls:=.type "list",data:=.seq vs.toArray}/\IntsAre vs ns/\ns.length<=n:=by
 have Xi:WShape.hasAll [] args [.list .int]=true:=(pre_splitW zt).1;have hc:l.pre.holds [] {args:=args}=true:=(pre_splitW zt).2;obtain⟨d,r,rfl,h1,h2⟩:=hasAllW_cons Xi;obtain rfl:=hasAllW_nil h2;obtain⟨xs,rfl,h3⟩:=hasW_list h1;obtain⟨ns,rfl⟩:=items_int h3;have hlen:ns.length<=n:=by
  unfold OpenLaw.pre at hc;have h4:(WTm.not (.lt (.lit (.int (n:Int))) (.len (.arg 0)))).holds [] {args:=[.list (ns.map .int)]}=true:=by have h4:=(holds_andW hc).1;rw[hn]at h4;exact h4
  have h5:=condW_of h4 (w_not (w_lt w_lit (w_len_list (w_arg Z))));rw[bu]at h5;refine Nat.le_of_not_lt λq=>?_;have q':(n:Int)<((ns.length:Nat):Int):=by omega
  first |(rw[cj q']at h5;exact absurd h5 au) |(simp at h5;omega)
 cases Ek with |cons w1 w2=>cases w2;cases w1 with |list ho YB=>exact⟨_,_,ns,Z,Z,ho,WS ns _ YB,hlen⟩
theorem T8(l:OpenLaw)(args:List WData):l.row.toRowW.claim.post args (.bool true) args=true:=postW_of (r:=l.row.toRowW) (X:=(true==true)) (show WShape.has [] (.bool true) .bool=true by first|rfl|decide|simp[WShape.has,WShape.arms,WShape.armsAll]) (show(WTm.eq .res (.lit (.bool true))).value [] {args:=args,res:=some (.bool true),after:=args}=some (.bool (true==true))from w_eq_bool (w_res Z) w_lit) rfl
theorem a2y{l:OpenLaw}{n:Nat}{q:a9}{loose:List Str}{XP:(bI)->Heap->Prop}{YP:World->Heap->Prop}{d:DefRec} (hn:l.most=some n)(w9:d.params.defaults=[]) (call:∀(w:World)(s₀ s₁:a8)(mg mb:bI)(fa:Addr)(o:Obj)(pm cd doc:Value)(a:Addr)(vs:List Value)(ns:List Int),Ground q loose [] XP w s₀ mg mb s₁.heap->YP w s₁.heap->s₁.heap.get? fa=some o->o.data= .func (docDef d.name d.params d.body d.scope pm cd doc)->s₁.heap.CodeRec cd d.name->mg d.name=some (.ref fa)->s₁.heap.get? a=some {cls:=.type "list",data:=.seq vs.toArray}->IntsAre vs ns->ns.length<=n->s₁.gens=#[]->codeAny (model l.prog w) callerA (.call (.ref fa) ⟨[.ref a],[]⟩) (λr s'=>r= .ok (.ret (.bool true))/\OldK s₁.heap s'.heap/\s'.os=s₁.os/\AllBare s'.gens) s₁): WalkO q loose XP YP l.row.toRowW d [] (λf vs=>PySem.call f vs):=by intro w s₀ s₁ mg mb G Y fa o pm cd doc dV kV ho hd e9 hD vX hg args vals as zt a5J hrd Ek hlo;obtain rfl:dV= .none:=Dflts.none hD w9;obtain rfl:kV= .none:=Dflts.noKw hD;obtain⟨a,vs,ns,rfl,rfl,Et,hints,hlen⟩:=RN hn zt Ek;refine enter_call (ur (call w s₀ s₁ mg mb fa o pm cd doc a vs ns G Y ho (fd_plain hd) e9 vX Et hints hlen hg) λr s' hq=>?_);obtain⟨rfl,h2,h3,h4⟩:=hq;exact⟨.inl ⟨.bool true,.bool true,[],Z,λ_=>rfl,.bool true,T8 l _,λ_=>⟨List.Pairwise.nil,λ_ hm=>(nomatch hm)⟩⟩,h2,h3,h4⟩
section
variable {prog:a9}{w:World}{A:ag}{E:Value->a8->Prop}{s:a8}{K:Frag}
end
end Att
namespace L2
open PySem PySem.Spec PyProof.Rows
theorem GS:∀{vs:List Value}{ns:List Int},IntsAre vs ns->Vals (ns.map V.int) vs |_,_,.nil=>.nil |_,_,.cons n t h=>.cons ⟨t,Z⟩ (GS h)
def G6(H:Hp):Prop:=∀b,H b=none\/∃o xs,H b=some (.kE o (.lst xs))
theorem Ww{P:a9}{w:World}{K:a7}{mg mb:bI}{CX:iC}{k:Nat}{fa a:Addr}{fd:FuncData}{x:Str}{sp:Sp}{s₁:a8}{vs:List Value}{ns:List Int} (KX:K.In s₁.heap)(LZ:s₁.heap.Ns mainGlobals mg)(hb:s₁.heap.Ns builtinsNs mb)(Yu:∀x:Str,x≠"__name__"->mb x=bootBuiltins x)(XH:s₁.heap.NoLimit)(hg:s₁.gens=#[]) (ha:s₁.heap.get? a=some {cls:=.type "list",data:=.seq vs.toArray})(hi:IntsAre vs ns)(hl:ns.length<=sizeLine)(hr:cS k callerA) (F:∀ao:Heap,K.In ao->ao.Ns mainGlobals mg->gT P w K mg ao CX k fa fd [x] sp)(Yt:∀(s:a8)(u:Value),BindsTo s fd ⟨[u],[]⟩ [(x,u)]) (fC:∀H:Hp,G6 H->aF K H a (ns.map V.int)->sp [.ref a] H (λv _=>v= .bl true) λ_ _ _=>False) (EN:∀H e s',CX [] H s₁ (λ_ _ _=>False) e s'->False): codeAny (model P w) callerA (.call (.ref fa) ⟨[.ref a],[]⟩) (λr s'=>r= .ok (.ret (.bool true))/\OldK s₁.heap s'.heap/\s'.os=s₁.os/\AllBare s'.gens) s₁:=by
 have rv:=GS hi;have Wq:=hi.length;have core:∀H:Hp,G6 H->aF K H a (ns.map V.int)->dg P w H s₁.heap->(∀b,H b≠none->b=a)->(H a≠none->K.lookup a=none)->codeAny (model P w) callerA (.call (.ref fa) ⟨[.ref a],[]⟩) (λr s'=>r= .ok (.ret (.bool true))/\OldK s₁.heap s'.heap/\s'.os=s₁.os/\AllBare s'.gens) s₁:=by
  intro H hO hS aW hA hK;have NW:∀{b:Addr}{o:Obj},s₁.heap.get? b=some o->H b=none->(nu s₁.heap H).get? b=some o:=λe n=>Y7 e n;have vF:∀{b:Addr}{o:Obj}{es:Array DictEntry}{ep:Nat},s₁.heap.get? b=some o->o.data= .dict es ep->H b=none:=λ{b o es ep} e d=>by cases q:H b with |none=>rfl |some u=>have e':b=a:=hA b (by rw[q];simp);subst e';rw[ha]at e;cases e;have d':Data.seq vs.toArray _=Data.dict es ep:=d;cases d'
  have yQ:∀{b:Addr}{m:bI},s₁.heap.Ns b m->(nu s₁.heap H).Ns b m:=λ{b m} ⟨o,es,ep,e,d,r⟩=>⟨o,es,ep,NW e (vF e d),d,r⟩;have Mo:K.In (nu s₁.heap H):=λb o e=>NW (KX b o e) (by cases q:H b with |none=>rfl |some u=>have e':b=a:=hA b (by rw[q];simp);subst e';rw[hK (by rw[q];simp)]at e;cases e);have hM:Mod K mg (nu s₁.heap H):=⟨Mo,yQ LZ,⟨mb,yQ hb,Yu⟩,let⟨mc,h1,h2⟩:=XH;⟨mc,yQ h1,h2⟩⟩;have e0:nK P w K mg (nu s₁.heap H) callerA [] s₁ H:=⟨Z,hM,λb o e=>Vq e,Nat.le_of_eq (Y6 _ _),trivial,λb hb=>absurd (show b∈([]:List Addr)from hb) (by simp),aW,.of_eq hg⟩;refine ur ((F _ Mo (yQ LZ)).run callerA [] s₁ H ⟨[.ref a],[]⟩ [.ref a] [.ref a] _ _ hr e0 (Yt s₁ (.ref a)) (.cons Z .nil) (fC H hO hS)) λr s' h=>?_;cases r with |error e=>exact(EN H e s' h).elim |ok fl=>cases fl with |next=>exact False.elim h |brk=>exact False.elim h |cont=>exact False.elim h |ret u=>obtain⟨v,H',os,bare,un,Xr,r',q⟩:=h;have q':v= .bl true:=q;subst q';obtain rfl:u=Value.bool true:=r';refine⟨Z,OldK.of_keep λb o e=>?_,os,bare⟩;cases q:H b with |none=>exact un.keep b o e q (by intro z;exact absurd (show b∈([]:List Addr)from z) (by simp)) (by simp) |some u=>
   rcases hO b with z|⟨ob,xs,z⟩
   ·rw[q]at z;cases z
   ·have z2:=un.ir b ob _ z
    obtain⟨e1,_⟩:=aW b _ z;obtain⟨e2,_⟩:=Xr b _ z2;rw[e]at e1;cases e1;exact e2
 cases hk:K.lookup a with |some o=>have e:=KX a o hk;rw[ha]at e;cases e;refine core (λ_=>none) (λ_=>.inl Z) (.inr ⟨_,vs.toArray,_,hk,Z,Z,Z,by rw[cB,Wq];exact hl,by simpa using rv⟩) (λb u z=>by have z':(none:Option HO)=some u:=z;cases z') (λb z=>absurd rfl z) λz=>absurd rfl z |none=>
  refine core (λb=>if b=a then some (.kE {cls:=.type "list",data:=.seq vs.toArray} (.lst (ns.map V.int)))else none) (λb=>?_) (.inl (.inr ⟨{cls:=.type "list",data:=.seq vs.toArray},aR Z⟩)) (λb u z=>?_) (λb z=>?_) λ_=>hk
  ·by_cases hb:b=a
   ·exact .inr ⟨_,_,aR hb⟩
   ·exact .inl (aO hb)
  ·by_cases hb:b=a
   ·have z':=(aR hb).symm.trans z
    cases z';subst hb;exact⟨ha,by rw[bu];exact hl,vs,_,rv,ha⟩
   ·have z':=(aO hb).symm.trans z
    cases z'
  ·by_cases hb:b=a
   ·exact hb
   ·exact absurd (aO hb) z
theorem PM{l:PySem.W.OpenLaw}{n k:Nat}{q:a9}{loose:List Str}{XP:(bI)->Heap->Prop}{YP:World->Heap->Prop}{d:DefRec}{K:Params->a7}{CX:World->iC}{sp:World->Sp}{x:Str} (hn:l.most=some n)(Ey:n<=sizeLine)(w9:d.params.defaults=[])(hr:cS k callerA) (hY:∀(w:World)(h:Heap),YP w h->(K w.params).In h) (F:∀(w:World)(mg:bI)(fa:Addr)(h:Heap),(K w.params).In h->h.Ns mainGlobals mg->mg d.name=some (.ref fa)->∃fd:FuncData,(∀(s:a8)(u:Value),BindsTo s fd ⟨[u],[]⟩ [(x,u)])/\∀ao:Heap,(K w.params).In ao->ao.Ns mainGlobals mg->gT l.prog w (K w.params) mg ao (CX w) k fa fd [x] (sp w)) (fC:∀(w:World)(H:Hp)(a:Addr)(ns:List Int),ns.length<=n->G6 H->aF (K w.params) H a (ns.map V.int)->sp w [.ref a] H (λv _=>v= .bl true) λ_ _ _=>False) (EN:∀(w:World)(H:Hp)(s:a8)(e:Value)(s':a8),CX w [] H s (λ_ _ _=>False) e s'->False): PySem.W.WalkO q loose XP YP l.row.toRowW d [] (λf vs=>PySem.call f vs):=by refine Att.a2y hn w9 λw s₀ s₁ mg mb fa o pm cd doc a vs ns G Y ho hd e9 vX Et hints hlen hg=>?_;have KX:=hY w _ Y;obtain⟨fd,hb,hF⟩:=F w mg fa _ KX G.T.g vX;exact Ww KX G.T.g G.T.b G.T.builtins G.T.nolimit hg Et hints (fe hlen Ey) hr hF hb (λH hO hS=>fC w H a ns hlen hO hS) λH e s'=>EN w H s₁ e s'
def me(s:Stmt):Arguments:=match s with | .FunctionDef _ a _ _ _ _ _ _ _ _=>a |_=>{posonlyargs:=[],args:=[],vararg:=none,kwonlyargs:=[],kw_defaults:=[],kwarg:=none,defaults:=[]}
def gz(s:Stmt):List Stmt:=match s with | .FunctionDef _ _ b _ _ _ _ _ _ _=>b |_=>[]
def aZ(s:Stmt):Scope:=match s with | .FunctionDef _ _ _ _ _ _ sc _ _ _=>sc |_=>{kind:=.function,names:=[],isGenerator:=false,isCoroutine:=false}
abbrev gm:iC:=λ_ _ _ _ _ _=>False
abbrev E0:XK:=λ_ _ _=>False
theorem Tz{X:Cx}:Passes gm X E0:=λ_ _ _ _ _ _ _ h=>h.elim
structure jU(K:a7)(x qual:Str)(st:Stmt)(f:Addr)(fd:FuncData):Prop where
 ex:∃(oc:Value)(od:Option Addr)(kV doc pm:Value)(an:Option Addr)(aH ct:Value)(fm:Array (Option Value)),fd=PySem.W.fnOf x qual (me st) (gz st) (aZ st) .none kV doc pm an aH ct/\K.lookup f=some ⟨oc,od,.func fd,fm⟩/\PySem.W.codeIn K aH qual=true
 kp:PySem.W.keepIn K (.ref f)=true
section
variable {P:a9}{w:World}{K:a7}{mg:bI}{ao:Heap}
theorem jU.ok{x qual:Str}{st:Stmt}{f:Addr}{fd:FuncData}{N ps:List Str}{k:Nat}{sp:Sp}(F:jU K x qual st f fd)(S:bo N ps (aZ st))(len:∀vs H Q E,sp vs H Q E->vs.length=ps.length) (iq:∀(aH:Value)(A:ag)(outer:List Env)(s:a8)(H:Hp)(vs:List V)(Q:VK)(E:XK),cS k (A.deeper (envOfC qual (aZ st) s.heap.objs.size f aH))->sp vs H Q E->∃t,fM (gA gm P w K mg ao N qual (aZ st) f aH A outer s H E).oA (gz st) t/\t {nx:=λ_ H'=>Q .bM H',rt:=Q} (start N vs) H):gT P w K mg ao gm (k+1) f fd ps sp:=by obtain⟨oc,od,kV,doc,pm,an,aH,ct,fm,rfl,lk,e9⟩:=F.ex;refine MF lk e9 S len λA outer s H vs Q E hr fC=>?_;obtain⟨t,h,q⟩:=iq aH A outer s H vs Q E hr fC;exact⟨t,h.oA,q⟩
theorem jU.binds{x qual:Str}{st:Stmt}{f:Addr}{fd:FuncData}{ps:List Str}(F:jU K x qual st f fd) (h:∀(kV doc pm:Value)(an:Option Addr)(aH ct:Value)(us:List Value),us.length=ps.length->bindArgs (PySem.W.fnOf x qual (me st) (gz st) (aZ st) .none kV doc pm an aH ct) ⟨us,[]⟩=pure (ps.zip us)):Binds K fd ps []:=by obtain⟨oc,od,kV,doc,pm,an,aH,ct,fm,rfl,lk,e9⟩:=F.ex;exact .all (h kV doc pm an aH ct)
theorem Mx{x qual:Str}{st:Stmt}{f:Addr}{oc:Value}{od an:Option Addr}{fm:Array (Option Value)}{kV doc pm aH ct:Value}(l:K.lookup f=some ⟨oc,od,.func (PySem.W.fnOf x qual (me st) (gz st) (aZ st) .none kV doc pm an aH ct),fm⟩) (c:PySem.W.codeIn K aH qual=true)(k:PySem.W.keepIn K (.ref f)=true):jU K x qual st f (PySem.W.fnOf x qual (me st) (gz st) (aZ st) .none kV doc pm an aH ct):=⟨⟨oc,od,kV,doc,pm,an,aH,ct,fm,Z,l,c⟩,k⟩
end
section
variable {X:Cx}
theorem pv(i:Nat){x:Str}{pos:Pos}(hN:X.N[i]? =some x:=by rfl)(hv:FY X.env.scope x:=by first|exact Or.inl rfl|exact Or.inr (Or.inl rfl)|exact Or.inr (Or.inr rfl))(hd:(x==("__debug__":Str))=false:=by decide) (e9:(x==("__classdict__":Str))=false:=by decide):PE X (.Name x pos) (Hi i):=Tq hN hv hd e9
end
theorem aQ{A B:Prop}(h:B):if false=true then A else B:=by rw[aO fQ];exact h
theorem aY{A B:Prop}(h:A):if true=true then A else B:=by rw[aR rfl];exact h
theorem eJ{c A B:Prop}[Decidable c](h1:c->A)(h2:¬c->B):if c then A else B:=by
 by_cases h:c
 ·rw[aR h]
  exact h1 h
 ·rw[aO h]
  exact h2 h
def aA(H H':Hp):Prop:=∀b o,H b=some o->H' b=some o
theorem aA.refl(H:Hp):aA H H:=λ_ _ h=>h
theorem aA.trans{H H1 H2:Hp}(a:aA H H1)(b:aA H1 H2):aA H H2:=λc o h=>b c o (a c o h)
theorem aA.free{H H':Hp}(e:aA H H'){l:Addr}(h:H' l=Option.none):H l=Option.none:=by cases q:H l with |none=>rfl |some o=>rw[e l o q]at h;cases h
theorem aA.seq{K:a7}{H H':Hp}{a:Addr}{xs:List V}(e:aA H H')(h:aF K H a xs):aF K H' a xs:=by
 rcases h with(h|⟨o,h⟩)|h
 ·exact .inl (.inl (e _ _ h))
 ·exact .inl (.inr ⟨o,e _ _ h⟩)
 ·exact .inr h
def Wd (i:Int):Prop:=i.natAbs<2^5000
theorem Wd.bits{i:Int}(h:Wd i):Builtin.Int.intBits i<=2^20:=fe (PyProof.Rows.intBits_le h) au
theorem Wd.log{i:Int}(h:Wd i):i.natAbs.log2<9000:=by
 by_cases e:i.natAbs=0
 ·rw[e];decide
 ·have h1:i.natAbs.log2<5000:=(Nat.log2_lt e).mpr h
  lia
section
variable {X:Cx}
theorem mS:cx X (binaryOp .FloorDiv) (rI (λ_ j=>0<j/\Wd j) λi j=>.int (i/j)):=vx λi j _ _ _ _ _ hc q=>by have h1:(0:Int)<j:=hc.1;exact floordiv_int ak (by rw[Pr i ak];exact q) (.inl (PyProof.noPylong_of_log2 hc.2.log))
theorem Kv:cx X (binaryOp .FloorDiv) (rI (λ_ j=>j≠0/\Wd j) λi j=>.int (i.fdiv j)):=vx λ_ _ _ _ _ _ _ hc q=>floordiv_int hc.1 q (.inl (PyProof.noPylong_of_log2 hc.2.log))
end
def rK(K:a7)(H:Hp)(x:V)(T:String):Prop:=match x with | .bM=>T="NoneType" | .bl _=>T="bool" | .int _=>T="int" | .str _=>T="str" | .ref a=>(T="list"/\∃xs,aF K H a xs)\/(T="tuple"/\∃xs,aK K H a xs) |_=>False
def eR(T n:String):Bool:=T==n||(T=="bool"&&n=="int")
def xS:List String:=["NoneType","bool","int","str","list","tuple"]
def uK:List String:=["bool","int","str","list","tuple"]
theorem LB{K:a7}{T n:String}(h1:T∈xS)(h2:n∈uK):PySem.W.kitOne K (.type T) (.type n)=some (eR T n):=by
 have all:xS.all (λT=>uK.all λn=>PySem.W.kitOne [] (.type T) (.type n)==some (eR T n))=true:=by decide+kernel
 have a1:=fJ.mp all T h1;have a2:=fJ.mp a1 n h2;have e:PySem.W.kitOne K (.type T) (.type n)=PySem.W.kitOne [] (.type T) (.type n):=by unfold PySem.W.kitOne PySem.W.kitCls PySem.W.subIn;rfl
 rw[e];exact eB.mp a2
section
variable {X:Cx}
theorem rK.mem{K:a7}{H:Hp}{x:V}{T:String}(h:rK K H x T):T∈xS:=by cases x with |bM=>cases(show T="NoneType" from h);decide |bl b=>cases(show T="bool" from h);decide |int b=>cases(show T="int" from h);decide |str b=>cases(show T="str" from h);decide |ref a=>rcases(show(T="list"/\∃xs,aF K H a xs)\/(T="tuple"/\∃xs,aK K H a xs)from h)with⟨e,_⟩|⟨e,_⟩<;>cases e<;>decide |_=>exact(show False from h).elim
theorem LC{aj:List (Addr×Obj)}{s:a8}{O:St}{H:Hp}{x:V}{u:Value}{T:String}(I:Inv X aj O H s)(rx:RelV x u)(ty:rK X.K H x T): ∃P:Heap->Prop,PySem.W.KitX X.K u (.type T) P/\P s.heap/\u≠ .builtin "__main__.__loader__#opaque":=by cases x with
 |bM=>cases(show T="NoneType" from ty);cases(show u=Value.none from rx);exact⟨_,PySem.W.kitx_none,True.intro,λz=>nomatch z⟩ |bl b=>cases(show T="bool" from ty);cases(show u=Value.bool b from rx);exact⟨_,PySem.W.kitx_bool,True.intro,λz=>nomatch z⟩ |int b=>cases(show T="int" from ty);obtain⟨t,q⟩:=(show∃t,u=Value.int b t from rx);cases q;exact⟨_,PySem.W.kitx_int,True.intro,λz=>nomatch z⟩ |str b=>cases(show T="str" from ty);obtain⟨t,q⟩:=(show∃t,u=Value.str b t from rx);cases q;exact⟨_,PySem.W.kitx_str,True.intro,λz=>nomatch z⟩ |ref a=>
  cases(show u=Value.ref a from rx);rcases(show(T="list"/\∃xs,aF X.K H a xs)\/(T="tuple"/\∃xs,aK X.K H a xs)from ty)with⟨e,xs,hx⟩|⟨e,xs,hx⟩
  ·cases e
   obtain⟨its,r,⟨o,n,h1,h2,_⟩,_⟩:=I.list hx;exact⟨_,PySem.W.kitx_list,⟨o,h1,h2⟩,λz=>nomatch z⟩
  ·cases e
   obtain⟨its,r,⟨o,h1,h2,_⟩,_⟩:=I.tuple hx;exact⟨_,PySem.W.kitx_tuple,⟨o,h1,h2⟩,λz=>nomatch z⟩ |_=>exact(show False from ty).elim
inductive a4B(K:a7)(xs:List V)(H:Hp)(Q:VK):Prop |mk (x:_)(T:_)(n:_)(b:_)(h0:xs=[x,.ty n])(h1:rK K H x T)(h2:n∈uK)(h3:eR T n=b)(h4:Q (.bl b) H)
def Dq(K:a7):List V->Hp->VK->Prop:=λxs H Q=>a4B K xs H Q
theorem a2b:eu X (.builtin "isinstance") (Dq X.K):=by intro aj s O H xs us Q I r h;obtain⟨x,T,n,b,rfl,ty,hn,rfl,q⟩:=h;obtain⟨u,c,rfl,rx,rc⟩:=vals2 r;cases(show c=Value.type n from rc);obtain⟨P,a6h,p,hx⟩:=LC I rx ty;exact PySem.W.kia_one a6h I.fB p (LB ty.mem hn) hx λtk=>⟨.bl (eR T n),H,I.tok _,Z,q⟩
inductive a4A(K:a7)(xs:List V)(H:Hp)(Q:VK):Prop |mk (x:V)(T:String)(p:Addr)(ns:List String)(b:Bool)(h0:xs=[x,.ref p])(h1:H p=some (.tup (ns.map V.ty)))(h2:rK K H x T)(h3:(∀n∈ns,n∈uK))(h4:ns.any (eR T)=b)(h5:Q (.bl b) H)
def Dp(K:a7):List V->Hp->VK->Prop:=λxs H Q=>a4A K xs H Q
theorem LA{K:a7}{T:String}(h1:T∈xS):∀{ns:List String},(∀n∈ns,n∈uK)->PySem.W.kitAny K (.type T) (ns.map Value.type)=some (ns.any (eR T)) |[],_=>rfl |n::r,h=>by have e:=LB (K:=K) h1 (h n (Gz ..));have ih:=LA (K:=K) h1 (ns:=r) λm hm=>h m (AI _ hm);rw[GA,PySem.W.kitAny,e,AL];cases eR T n with |true=>rfl |false=>simpa using ih
theorem GQ:∀{ns:List String}{us:List Value},Vals (ns.map V.ty) us->us=ns.map Value.type |[],_,.nil=>rfl |n::r,_,.cons q t=>by cases(show _=Value.type n from q);rw[GQ t];rfl
theorem a2a:eu X (.builtin "isinstance") (Dp X.K):=by intro aj s O H xs us Q I r h;obtain⟨x,T,p,ns,b,rfl,hp,ty,hn,rfl,q⟩:=h;obtain⟨u,c,rfl,rx,rc⟩:=vals2 r;cases(show c=Value.ref p from rc);obtain⟨P,a6h,pp,hx⟩:=LC I rx ty;obtain⟨_,its,rv,⟨cls,dd,dt,sl⟩,h1,h2,n,h3⟩:=(show eO X.prog X.w H s.heap p (.tup (ns.map V.ty))from I.aW p _ hp);simp only at h2 h3;subst h2 h3;have e:=GQ rv;subst e;exact PySem.W.kia_tup a6h I.fB pp h1 (LA ty.mem hn) hx λtk=>⟨.bl _,H,I.tok _,Z,q⟩
end
mutual
def RD(K:a7)(H:Hp):V->af->Prop |x,.none=>x= .bM |x,.bool b=>x= .bl b |x,.int i=>x= .int i |x,.str y=>x= .str y |x,.list ds=>∃a xs,x= .ref a/\aF K H a xs/\aC K H xs ds |x,.tuple ds=>∃a xs,x= .ref a/\aK K H a xs/\aC K H xs ds |_,.dict _=>False
def aC (K:a7)(H:Hp):List V->List af->Prop |xs,[]=>xs=[] |xs,d::ds=>∃y ys,xs=y::ys/\RD K H y d/\aC K H ys ds
end
section
variable {X:Cx}
mutual
theorem RD.reads{aj:List (Addr×Obj)}{s:a8}{O:St}{H:Hp}(I:Inv X aj O H s):∀{x:V}{u:Value}(d:af),RelV x u->RD X.K H x d->∃as,Reads s.heap u d as |x,u,.none,r,h=>by cases(show x= .bM from by simpa[RD]using h);cases(show u=Value.none from r);exact⟨_,.none⟩ |x,u,.bool b,r,h=>by cases(show x= .bl b from by simpa[RD]using h);cases(show u=Value.bool b from r);exact⟨_,.bool b⟩ |x,u,.int i,r,h=>by cases(show x= .int i from by simpa[RD]using h);obtain⟨t,q⟩:=(show∃t,u=Value.int i t from r);cases q;exact⟨_,.int i t⟩ |x,u,.str y,r,h=>by cases(show x= .str y from by simpa[RD]using h);obtain⟨t,q⟩:=(show∃t,u=Value.str y t from r);cases q;exact⟨_,.str y t⟩ |x,u,.list ds,r,h=>by rw[RD]at h;obtain⟨a,xs,rfl,hx,hd⟩:=h;cases(show u=Value.ref a from r);obtain⟨its,rv,⟨o,n,h1,h2,h3,h4⟩,_⟩:=I.list hx;obtain⟨as,q⟩:=aC.reads I ds rv hd;exact⟨_,.list h1 h2 h4 (by simpa using q)⟩ |x,u,.tuple ds,r,h=>by rw[RD]at h;obtain⟨a,xs,rfl,hx,hd⟩:=h;cases(show u=Value.ref a from r);obtain⟨its,rv,⟨o,h1,h2,n,h4⟩,_⟩:=I.tuple hx;obtain⟨as,q⟩:=aC.reads I ds rv hd;exact⟨_,.tuple h1 h2 h4 (by simpa using q)⟩ |x,u,.dict _,r,h=>by simp[RD]at h
theorem aC.reads {aj:List (Addr×Obj)}{s:a8}{O:St}{H:Hp}(I:Inv X aj O H s):∀{xs:List V}{us:List Value}(ds:List af),Vals xs us->aC X.K H xs ds->∃as,ReadsAll s.heap us ds as |xs,us,[],r,h=>by cases(show xs=[]from by simpa[aC]using h);cases r;exact⟨_,.nil⟩ |xs,us,d::ds,r,h=>by rw[aC]at h;obtain⟨y,ys,rfl,h1,h2⟩:=h;cases r with |cons ra rb=>obtain⟨as,q⟩:=RD.reads I d ra h1;obtain⟨bs,q'⟩:=aC.reads I ds rb h2;exact⟨_,.cons q q'⟩
end
inductive a4I(K:a7)(x:V)(y:V)(H:Hp)(Q:VK):Prop |mk (d:_)(e:_)(h0:RD K H x d)(h1:RD K H y e)(h2:SeqAt.shaped d=true)(h3:SeqAt.shaped e=true)(h4:Q (.bl (PyData.eqv d e)) H)
def Dr(K:a7):R2:=λx y H Q=>a4I K x y H Q
inductive a4v(K:a7)(x:V)(y:V)(H:Hp)(Q:VK):Prop |mk (d:_)(e:_)(h0:RD K H x d)(h1:RD K H y e)(h2:SeqAt.shaped d=true)(h3:SeqAt.shaped e=true)(h4:Q (.bl (!PyData.eqv d e)) H)
def Dl(K:a7):R2:=λx y H Q=>a4v K x y H Q
theorem U0(hu:X.A.units+64<cLine):cx X (compareOp .Eq) (Dr X.K):=by intro aj s O H x y v u Q I rx ry h;obtain⟨d,e,hd,he,sd,se,q⟩:=h;obtain⟨as,ra⟩:=RD.reads I d rx hd;obtain⟨bs,rb⟩:=RD.reads I e ry he;exact eq_dataH ra rb sd se hu ⟨.bl _,H,I,Z,q⟩
theorem TR(hu:X.A.units+64<cLine):cx X (compareOp .NotEq) (Dl X.K):=by intro aj s O H x y v u Q I rx ry h;obtain⟨d,e,hd,he,sd,se,q⟩:=h;obtain⟨as,ra⟩:=RD.reads I d rx hd;obtain⟨bs,rb⟩:=RD.reads I e ry he;exact ne_dataH ra rb sd se hu ⟨.bl _,H,I,Z,q⟩
end
theorem aA.new{H:Hp}{t:Addr}{o:HO}(ht:H t=none):aA H (upd H t o):=λb o' e=>by rw[bf (cC e ht)];exact e
structure Nw(H H':Hp)(p:Addr)(o:HO):Prop where
 no:H p=none
 at':H' p=some o
 same:aA H H'
 eq:H'=upd H p o
theorem Nw.of{H:Hp}{p:Addr}{o:HO}(h:H p=none):Nw H (upd H p o) p o:=⟨h,bX,.new h,Z⟩
def A3:List Str:=["len","abs","min","max","range","isinstance","int","bool","str","tuple","list","any","all","sum","zip","enumerate","sorted","reversed","ord","chr","divmod","repr","dict","set"]
def bB (mg:bI):Prop:=∀x∈A3,mg x=none
theorem bB.at{mg:bI}(B:bB mg)(x:Str)(h:x∈A3:=by decide):mg x=none:=B x h
theorem gj{α:Type}{C:List α->Prop}(h:∀a,C [a]):∀us:List α,us.length=1->C us |[_],_=>h _
theorem dn{α:Type}{C:List α->Prop}(h:∀a b,C [a,b]):∀us:List α,us.length=2->C us |[_,_],_=>h _ _
theorem j4{α:Type}{C:List α->Prop}(h:∀a b c,C [a,b,c]):∀us:List α,us.length=3->C us |[_,_,_],_=>h _ _ _
theorem rH{α:Type}{C:List α->Prop}(h:∀a b c d,C [a,b,c,d]):∀us:List α,us.length=4->C us |[_,_,_,_],_=>h _ _ _ _
theorem FX{α:Type}{C:List α->Prop}(h:∀a b c d e,C [a,b,c,d,e]):∀us:List α,us.length=5->C us |[_,_,_,_,_],_=>h _ _ _ _ _
def Mz(N P:List Str)(sc:Scope):Bool:=decide (sc.kind= .function)&& !sc.isCoroutine&& !sc.isGenerator&&decide N.Nodup&&decide (N.take P.length=P)&&P.all (λx=>decide (sc.names.lookup x=some .local\/sc.names.lookup x=some .cell))&&sc.names.all λy=>decide (y.2≠ .free)
theorem bE{N P:List Str}{sc:Scope}(h:Mz N P sc=true):bo N P sc:=by unfold Mz at h;simp only[eF,Gf,Pw,fJ]at h;obtain⟨⟨⟨⟨⟨⟨h1,h2⟩,h3⟩,h4⟩,h5⟩,h6⟩,h7⟩:=h;exact⟨h1,h2,h3,h4,h5,h6,h7⟩
structure FA(K:a7)(mg:bI)(x:Str)(st:Stmt):Prop where ex:∃f fd,mg x=some (.ref f)/\jU K x x st f fd
def ay(P:a9)(w:World)(K:a7)(mg:bI)(ao:Heap)(x:Str)(k:Nat)(sp:Sp):Prop:=∃f fd ps,gT P w K mg ao gm k f fd ps sp/\mg x=some (.ref f)/\PySem.W.keepIn K (.ref f)=true/\Binds K fd ps []
section
variable {P:a9}{w:World}{K:a7}{mg:bI}{ao:Heap}
theorem ZV{h:Heap}{x:Str}{st:Stmt}{f:Addr}{oc:Value}{od an:Option Addr}{fm:Array (Option Value)}{kV doc pm aH ct:Value}(X:K.In h)(G:h.Ns mainGlobals mg) (a:PySem.W.nsIn K mainGlobals x=some (some (.ref f))) (l:K.lookup f=some ⟨oc,od,.func (PySem.W.fnOf x x (me st) (gz st) (aZ st) .none kV doc pm an aH ct),fm⟩) (c:PySem.W.codeIn K aH x=true)(k:PySem.W.keepIn K (.ref f)=true):FA K mg x st:=⟨f,_,uv X G a,Mx l c k⟩
theorem FA.has{x:Str}{st:Stmt}{N ps:List Str}{k:Nat}{sp:Sp}(F:FA K mg x st)(S:bo N ps (aZ st))(len:∀vs H Q E,sp vs H Q E->vs.length=ps.length) (hb:∀(kV doc pm:Value)(an:Option Addr)(aH ct:Value)(us:List Value),us.length=ps.length->bindArgs (PySem.W.fnOf x x (me st) (gz st) (aZ st) .none kV doc pm an aH ct) ⟨us,[]⟩=pure (ps.zip us)) (iq:∀(f:Addr)(aH:Value)(A:ag)(outer:List Env)(s:a8)(H:Hp)(vs:List V)(Q:VK)(E:XK),cS k (A.deeper (envOfC x (aZ st) s.heap.objs.size f aH))->sp vs H Q E->∃t,fM (gA gm P w K mg ao N x (aZ st) f aH A outer s H E).oA (gz st) t/\t {nx:=λ_ H'=>Q .bM H',rt:=Q} (start N vs) H):ay P w K mg ao x (k+1) sp:=by obtain⟨f,fd,hm,F⟩:=F.ex;exact⟨f,fd,ps,F.ok S len λaH A outer s H vs Q E=>iq f aH A outer s H vs Q E,hm,F.kp,F.binds hb⟩
end
section
variable {X:Cx}{k:Nat}{x:Str}{p pos:Pos}{e:Expr}{es:List Expr}{t:TA}{sp:Sp}
def Hk(sp:Sp)(t:TA):TE:=λO H Q=>t O H λvs H1=>sp vs H1 Q E0
theorem qm(F:ay X.prog X.w X.K X.mg X.ao x k sp)(hr:cS k X.A)(hg:Gl X x)(ha:PA X (e::es) t)(ip:(x==("__debug__":Str))=false:=by decide) (he:starEach (e::es) X.env=(false,eval e X.env)::starEach es X.env:=by rfl)(gy:(backTo pos (starEach es X.env)).any (·.1)=false:=by rfl): PE X (.Call (.Name x p) (e::es) [] pos) (Hk sp t):=by
 obtain⟨f,fd,ps,F,hm,hk,hb⟩:=F;have h:=Tw (pos:=pos) (p:=p) F hr hg hm hk hb .nil Tz ha ip he gy;intro aj s O H Q I hq;refine h aj s O H Q I ?_;have e1:(λ(vs:List V) H1=>sp (vs++[]) H1 Q E0)=λvs H1=>sp vs H1 Q E0:=by funext vs H1;rw[sj]
 show t O H λvs H1=>sp (vs++[]) H1 Q E0;rw[e1];exact hq
theorem pf{j:Nat}(F:ay X.prog X.w X.K X.mg X.ao x j sp)(hr:cS k X.A)(ha:PA X (e::es) t)(XR:j<=k:=by decide)(hg:Gl X x:=by rfl)(ip:(x==("__debug__":Str))=false:=by decide)(he:starEach (e::es) X.env=(false,eval e X.env)::starEach es X.env:=by rfl)(gy:(backTo pos (starEach es X.env)).any (·.1)=false:=by rfl):PE X (.Call (.Name x p) (e::es) [] pos) (Hk sp t):=qm F (hr.mono XR) hg ha ip he gy
theorem bJ:cx X (binaryOp .Mult) (rI (λi j=>IntMulOk i j) λi j=>.int (i*j)):=vx λ_ _ _ _ _ _ _ hc q=>mul_int q hc
theorem TZ:cx X (compareOp .Eq) (iM λi j=>.bl (decide (i=j))):=tx λ_ _ _ _ _ _ _ q=>eq_int (by rw[Bool.beq_eq_decide_eq];exact q)
theorem TQ:cx X (compareOp .NotEq) (iM λi j=>.bl (!decide (i=j))):=tx λ_ _ _ _ _ _ _ q=>ne_int (by rw[bne,Bool.beq_eq_decide_eq];exact q)
theorem U1(hu:X.A.units+64<cLine):cx X (compareOp .Eq) (λx y H Q=>iM (λi j=>.bl (decide (i=j))) x y H Q\/Dr X.K x y H Q):=TZ.or (U0 hu)
theorem TU(hu:X.A.units+64<cLine):cx X (compareOp .NotEq) (λx y H Q=>iM (λi j=>.bl (!decide (i=j))) x y H Q\/Dl X.K x y H Q):=TQ.or (TR hu)
mutual
theorem eqv_refl:∀d:af,d.canLay0=true->PyData.eqv d d=true | .none,_=>by simp[PyData.eqv] | .bool b,_=>by simp[PyData.eqv] | .int i,_=>by simp[PyData.eqv] | .str x,_=>by simp[PyData.eqv] | .list ds,h=>by simp only[PyData.eqv];exact eqvAll_refl ds (by simpa[PyData.canLay0]using h) | .tuple ds,h=>by simp only[PyData.eqv];exact eqvAll_refl ds (by simpa[PyData.canLay0]using h) | .dict _,h=>by simp[PyData.canLay0]at h
theorem eqvAll_refl:∀ds:List af,PyData.canLayAll0 ds=true->PyData.eqvAll ds ds=true |[],_=>by simp[PyData.eqvAll] |d::ds,h=>by simp only[PyData.canLayAll0,eF]at h;simp only[PyData.eqvAll,eF];exact⟨eqv_refl d h.1,eqvAll_refl ds h.2⟩
end
theorem mK{K:a7}{H:Hp}(b:Bool):RD K H (.bl b) (.bool b):=by simp[RD]
theorem cM{K:a7}{H:Hp}(i:Int):RD K H (.int i) (.int i):=by simp[RD]
theorem cE{K:a7}{H:Hp}(x:Str):RD K H (.str x) (.str x):=by simp[RD]
theorem vo{K:a7}{H:Hp}:RD K H .bM .none:=by simp[RD]
theorem dC{K:a7}{H:Hp}{p:Addr}{xs:List V}{ds:List af}(h:aK K H p xs)(r:aC K H xs ds):RD K H (.ref p) (.tuple ds):=by rw[RD];exact⟨p,xs,Z,h,r⟩
theorem sX{K:a7}{H:Hp}{p:Addr}{xs:List V}{ds:List af}(h:aF K H p xs)(r:aC K H xs ds):RD K H (.ref p) (.list ds):=by rw[RD];exact⟨p,xs,Z,h,r⟩
theorem cf{K:a7}{H:Hp}:aC K H [] []:=by simp[aC]
theorem bK{K:a7}{H:Hp}{x:V}{xs:List V}{d:af}{ds:List af}(h:RD K H x d)(r:aC K H xs ds):aC K H (x::xs) (d::ds):=by rw[aC];exact⟨x,xs,Z,h,r⟩
inductive a3h(t:TS)(D:Ends)(O:St)(H:Hp):Prop |mk (G7:St->Hp->Prop)(h0:t {D with nx:=G7} O H)(h1:∀σ' H',G7 σ' H'->D.nx σ' H')
def QD(t:TS):TS:=λD O H=>a3h t D O H
theorem lu{st:Stmt}{t:TS}(h:PS X st t):PS X st (QD t):=by intro aj s O H D I hq;obtain⟨G7,q,m⟩:=hq;refine aL (h aj s O H _ I q) λf s1 q1=>?_;cases f with |next=>obtain⟨σ',H',I',q'⟩:=q1;exact⟨σ',H',I',m _ _ q'⟩ |brk=>exact q1 |cont=>exact q1 |ret u=>exact q1
end
def pL(K:a7)(xs:List Str):Prop:=∀x∈xs,PySem.W.nsIn K mainGlobals x=some none
theorem pL.nil{K:a7}:pL K []:=λ_ h=>nomatch h
theorem pL.cons{K:a7}{x:Str}{xs:List Str}(a:PySem.W.nsIn K mainGlobals x=some none)(r:pL K xs):pL K (x::xs):=λy hy=>by
 rcases dj.mp hy with e|e
 ·rw[e];exact a
 ·exact r y e
theorem a2l{K:a7}{mg:bI}{h:Heap}(X:K.In h)(G:h.Ns mainGlobals mg)(a:pL K A3):bB mg:=λx hx=>PySem.W.mg_none_of X G (a x hx)
theorem Wv{l:PySem.W.OpenLaw}{q:a9}{loose:List Str}{XP:(bI)->Heap->Prop}{YP:World->Heap->Prop}{d:DefRec}{K:Params->a7}{k:Nat}{x:Str}{st:Stmt}(hn:l.most=some 63)(w9:d.params.defaults=[]) (hr:cS k callerA)(hY:∀(w:World)(h:Heap),YP w h->(K w.params).In h)(All:a7->(bI)->Prop) (F:∀(w:World)(mg:bI)(h:Heap),(K w.params).In h->h.Ns mainGlobals mg->All (K w.params) mg) (L:∀(K:a7)(mg:bI),All K mg->FA K mg d.name st) (hb:∀(kV doc pm:Value)(an:Option Addr)(aH ct u:Value),bindArgs (PySem.W.fnOf d.name d.name (me st) (gz st) (aZ st) .none kV doc pm an aH ct) ⟨[u],[]⟩=pure [(x,u)]) (ok:∀(P:a9)(w:World)(K:a7)(mg:bI)(ao:Heap)(f:Addr)(fd:FuncData),All K mg->jU K d.name d.name st f fd->gT P w K mg ao gm k f fd [x] (λvs H Q _=>∃(a:Addr)(ns:List Int),vs=[.ref a]/\aF K H a (ns.map V.int)/\ns.length<=63/\∀H',Q (.bl true) H')): PySem.W.WalkO q loose XP YP l.row.toRowW d [] (λf vs=>PySem.call f vs):=L2.PM (n:=63) (k:=k) (x:=x) (CX:=λ_=>gm) (sp:=λw=>λvs H Q _=>∃(a:Addr)(ns:List Int),vs=[.ref a]/\aF (K w.params) H a (ns.map V.int)/\ns.length<=63/\∀H',Q (.bl true) H') hn au w9 hr hY (λw mg fa h KX G vX=>by
 have A:=F w mg h KX G;obtain⟨f,fd,hm,Fn⟩:=(L _ _ A).ex;have e:fa=f:=by rw[vX]at hm;injection (dv hm)
 subst e;refine⟨fd,λs u=>?_,λao _ _=>ok l.prog w _ mg ao fa fd A Fn⟩;obtain⟨oc,od,kV,doc,pm,an,aH,ct,fm,rfl,lk,e9⟩:=Fn.ex;exact .of_eq (hb kV doc pm an aH ct u)) (λ_ _ a ns hl _ hS=>⟨a,ns,Z,hS,hl,λ_=>rfl⟩) λ_ _ _ _ _ z=>z
theorem FE{env:Env}:∀(ns:List (Str×NameKind))(cs:List (Str×Addr)),(∀x∈ns,x.2= .free->∃c,env.cells.lookup x.1=some c)->(∀x c,cs.lookup x=some c->env.cells.lookup x=some c)->∃cl,(forIn ns cs (λx r=>if(x.2==NameKind.free)=true then do let a<-cellOf env x.1;pure (ForInStep.yield ((x.1,a)::r))else pure (ForInStep.yield r)):Sem (List (Str×Addr)))=pure cl/\(∀x c,cl.lookup x=some c->env.cells.lookup x=some c)/\(∀x c,cs.lookup x=some c->∃c',cl.lookup x=some c')/\∀x∈ns,x.2= .free->∃c,cl.lookup x.1=some c
 |[],cs,_,h2=>⟨cs,Z,h2,λx c e=>⟨c,e⟩,λ_ h=>nomatch h⟩ |(n,k)::r,cs,h1,h2=>by
  by_cases hk:k= .free
  ·subst hk
   obtain⟨c,hc⟩:=h1 (n,.free) (.head _) rfl;have e1:cellOf env n=pure c:=by unfold cellOf;rw[show env.cells.lookup n=some c from hc]
   obtain⟨cl,a1,a2,a3,a4⟩:=FE r ((n,c)::cs) (λx hx=>h1 x (.tail _ hx)) (λx d e=>by rw[iE]at e;cases z:x==n with |true=>rw[z]at e;cases e;rw[eB.mp z];exact hc |false=>rw[z]at e;exact h2 x d e);refine⟨cl,?_,a2,λx d e=>?_,λx hx hf=>?_⟩
   ·rw[GC]
    show(do let r'<-(if(NameKind.free==NameKind.free)=true then do let a<-cellOf env n;pure (ForInStep.yield ((n,a)::cs))else pure (ForInStep.yield cs));_)=_;rw[aR (by rfl),e1];exact a1
   ·by_cases z:x==n
    ·exact a3 x c (by rw[iE,z])
    ·exact a3 x d (by rw[iE,nS.mpr z];exact e)
   ·rcases dj.mp hx with rfl|hx
    ·exact a3 n c (by rw[iE,Av])
    ·exact a4 x hx hf
  ·obtain⟨cl,a1,a2,a3,a4⟩:=FE r cs (λx hx=>h1 x (.tail _ hx)) h2
   refine⟨cl,?_,a2,a3,λx hx hf=>?_⟩
   ·rw[GC]
    show(do let r'<-(if(k==NameKind.free)=true then do let a<-cellOf env n;pure (ForInStep.yield ((n,a)::cs))else pure (ForInStep.yield cs));_)=_;rw[aO (by simpa using hk)];exact a1
   ·rcases dj.mp hx with rfl|hx
    ·exact absurd hf hk
    ·exact a4 x hx hf
theorem FF{env:Env}{scope:Scope}(h1:∀x∈scope.names,x.2= .free->∃c,env.cells.lookup x.1=some c): ∃cl,closureFor scope env=pure cl/\(∀x c,cl.lookup x=some c->env.cells.lookup x=some c)/\∀x∈scope.names,x.2= .free->∃c,cl.lookup x.1=some c:=by
 obtain⟨cl,a1,a2,_,a4⟩:=FE (env:=env) scope.names [] h1 (λx c e=>nomatch e);refine⟨cl,?_,a2,a4⟩;unfold closureFor;show(forIn scope.names ([]:List (Str×Addr)) (λ(x:Str×NameKind) r=>match x with|(name,kind)=>if(kind==NameKind.free)=true then do let a<-cellOf env name;pure (ForInStep.yield ((name,a)::r))else pure (ForInStep.yield r))>>=λr=>(pure r:Sem (List (Str×Addr))))=pure cl;have ef:(λ(x:Str×NameKind)(r:List (Str×Addr))=>match x with|(name,kind)=>(if(kind==NameKind.free)=true then do let a<-cellOf env name;pure (ForInStep.yield ((name,a)::r))else pure (ForInStep.yield r):Sem (ForInStep (List (Str×Addr))))) =λx r=>if(x.2==NameKind.free)=true then do let a<-cellOf env x.1;pure (ForInStep.yield ((x.1,a)::r))else pure (ForInStep.yield r):=by funext x r;obtain⟨n,k⟩:=x;rfl
 rw[ef,a1];rfl
theorem Lj{env:Env}(hk:env.scope.kind= .function){x:Str}(hx:env.kindOf x=some .cell):∀{names:List (Str×NameKind)},names.lookup x=some .free->(names.map λ(n,k)=>if(k==NameKind.free&&env.scope.kind== .function&&env.kindOf n==some .cell)then(n,NameKind.cell)else(n,k)).lookup x=some .cell |[],h=>nomatch h |(n,k)::r,h=>by have ih:=@Lj env hk x hx r;show List.lookup x ((if(k==NameKind.free&&env.scope.kind== .function&&env.kindOf n==some .cell)=true then(n,NameKind.cell)else(n,k))::_)=_;cases z:x==n with |true=>simp only[iE,z]at h;cases h;have e:=eB.mp z;subst e;rw[aR (by rw[hk,hx];rfl),iE,z] |false=>simp only[iE,z]at h;split<;>(simp only[iE,z];exact ih h)
def cu(X:Cx)(N:List Str)(scope:Scope)(cl:List (Str×Addr))(s:a8)(H:Hp)(fp:List Addr)(aj:List (Addr×Obj)):Cx:={prog:=X.prog,w:=X.w,K:=X.K,mg:=X.mg,ao:=X.ao,A:=X.A,N:=N,s₀:=s,H₀:=H,env:=compEnvC scope cl s.heap.objs.size X.env,outer:=X.stack,stack:=X.stack,ex:=fp,fn:=λ_=>false,calm:=X.calm,pn:=X.pn++aj,xe:=λ_ _=>False}
def stC(js:List (Option Nat))(O:St):St:=js.map λ|none=>none|some j=>(O[j]?).join
def wN(X:Cx)(N:List Str)(js:List (Option Nat))(scope:Scope):Bool:=N.length==js.length&&(N.zip js).all λp=>match p.2 with|none=>true|some j=>X.N[j]? ==some p.1&&scope.names.lookup p.1==some NameKind.free&&X.env.kindOf p.1==some NameKind.cell
def pH(X:Cx)(scope:Scope):Bool:=scope.kind== .function&&X.env.scope.kind== .function&&scope.names.all λx=>match x.2 with | .free=>X.env.kindOf x.1==some NameKind.cell | .cell=>false | .local=>scope.names.lookup x.1==some NameKind.local |_=>true
section
variable {X:Cx}{aj:List (Addr×Obj)}{O:St}{H:Hp}{s:a8}
theorem lookup_mem{α β:Type}[BEq α][LawfulBEq α]:∀{l:List (α×β)}{x:α}{b:β},l.lookup x=some b->(x,b)∈l |[],_,_,h=>nomatch h |(n,k)::r,x,b,h=>by rw[iE]at h;cases z:x==n with |true=>rw[z]at h;cases h;rw[eB.mp z];exact .head _ |false=>rw[z]at h;exact .tail _ (lookup_mem h)
theorem K0{env:Env}{x:Str}{k:NameKind}:∀{names:List (Str×NameKind)},(names.map λ(n,k)=>if(k==NameKind.free&&env.scope.kind== .function&&env.kindOf n==some .cell)then(n,NameKind.cell)else(n,k)).lookup x=some k->names.lookup x=some k\/(k= .cell/\names.lookup x=some .free) |[],h=>nomatch h |(n,k')::r,h=>by have ih:=@K0 env x k r;have h':List.lookup x ((if(k'==NameKind.free&&env.scope.kind== .function&&env.kindOf n==some .cell)=true then(n,NameKind.cell)else(n,k'))::(r.map λ(n,k)=>if(k==NameKind.free&&env.scope.kind== .function&&env.kindOf n==some .cell)then(n,NameKind.cell)else(n,k)))=some k:=h;cases z:x==n with
 |true=>
  split at h'
  ·rename_i hc
   simp only[iE,z]at h';cases h';rw[eF,eF]at hc;have e:k'= .free:=eB.mp hc.1.1;subst e;exact .inr ⟨Z,by rw[iE,z]⟩
  ·simp only[iE,z]at h'
   cases h';exact .inl (by rw[iE,z]) |false=>
  rw[iE,z];refine ih ?_;split at h'
  ·simpa only[iE,z]using h'
  ·simpa only[iE,z]using h'
theorem Inv.comp{N:List Str}{js:List (Option Nat)}{scope:Scope}{cl:List (Str×Addr)}{fp:List Addr}{h':Heap}{tk:Nat}(I:Inv X aj O H s)(hN:wN X N js scope=true)(hS:pH X scope=true) (c1:∀x c,cl.lookup x=some c->X.env.cells.lookup x=some c)(c2:∀x∈scope.names,x.2= .free->∃c,cl.lookup x.1=some c)(hf:∀b∈fp,i7 X aj H b)(Yd:∀b∈fp,b<s.heap.objs.size) (hn:h'.Ns s.heap.objs.size λ_=>none)(hk:∀b o,s.heap.get? b=some o->h'.get? b=some o):Inv (cu X N scope cl s H fp aj) [] (stC js O) H {s with heap:=h',toks:=tk}:=by
 unfold pH at hS;rw[eF,eF]at hS;obtain⟨⟨s1,s2⟩,s3⟩:=hS;have iV:scope.kind= .function:=eB.mp s1;have XM:X.env.scope.kind= .function:=eB.mp s2;unfold wN at hN;rw[eF]at hN;obtain⟨n1,n2⟩:=hN;have hlen:N.length=js.length:=eB.mp n1;have LN:∀x k,(relabel scope X.env).names.lookup x=some k->scope.names.lookup x=some k\/(k= .cell/\scope.names.lookup x=some .free):=λx k e=>K0 e;have VE:∀x,scope.names.lookup x≠some .cell:=λx e=>by have:=fJ.mp s3 _ (lookup_mem e);exact fQ this
 have My:∀b∈(cu X N scope cl s H fp aj).fs,b∈X.env.locals::X.fs:=I.B3;have ok:(cu X N scope cl s H fp aj).Ok:={
  mod:=I.ok.mod
  kind:=iV
  glob:=I.ok.glob
  blt:=I.ok.blt
  above:=ba _
  inj:=λx y c e1 e2=>I.ok.inj x y c (c1 x c e1) (c1 y c e2)
  has:=λx hx=>by
   have fr:scope.names.lookup x=some .free->∃c,cl.lookup x=some c:=λe=>c2 (x,.free) (lookup_mem e) rfl;rcases hx with e|e
   ·rcases LN x _ e with e|⟨_,e⟩
    ·exact absurd e (VE x)
    ·exact fr e
   ·rcases LN x _ e with e|⟨z,_⟩
    ·exact fr e
    ·cases z
  pI:=λx c e=>nomatch e
  hd:=I.ok.hd
  frames:=I.ok.frames
  qc:=.inl rfl
  wA:=λb hb=>⟨dw (Yd b hb),λx c e=>(hf b hb).2.2.2.2.1 x c (c1 x c e)⟩
  bs:=I.bs
  jy:=fe I.ok.jy I.sz
  oE:=λb o e hb=>by
   rcases(hf b hb).2.2.2.1 with z|z
   ·exact I.ok.oE b o e z
   ·exact absurd (fH (bS e) (fe I.ok.jy z)) (ux _)
  m6:=λb hb z=>by
   obtain⟨_,q1,q2,_⟩:=hf b hb;rcases dj.mp (My b z)with e|e
   ·exact q1 e
   ·exact q2 e
  hX:=I.stack
  kF:=I.yb};refine⟨ok,Z,I.bare,Un.kept hk,⟨_,hn,λi x v e1 e2 e3=>?_⟩,λx c e=>?_,I.aW.fresh (ba _),λx c e=>I.iu x c (c1 x c e),λp hp=>?_,I.aW.kept hk,?_⟩
 ·have u9:(js.map λ|none=>none|some j=>(O[j]?).join)[i]? =some (some v):=e2
  rw[bN]at u9;cases hj:js[i]? with |none=>rw[hj]at u9;cases u9 |some o=>rw[hj]at u9;cases o with |none=>cases u9 |some j=>
   have hz:(N.zip js)[i]? =some (x,some j):=by rw[List.getElem?_zip_eq_some];exact⟨e1,hj⟩
   have NH:=fJ.mp n2 _ (fO hz);simp only[eF,eB]at NH;obtain⟨⟨h1,h2⟩,h3⟩:=NH;have zS:(O[j]?).join=some v:=by simpa using u9
   have hσ:O[j]? =some (some v):=by cases q:O[j]? with |none=>rw[q]at zS;cases zS |some o=>
    rw[q]at zS;have:o=some v:=by simpa using zS
    rw[this]
   obtain⟨m,hm,hl⟩:=I.loc;obtain⟨u,r,l⟩:=hl j x v h1 hσ (.inr (.inl h3));refine⟨u,r,?_⟩;rcases l with⟨k,_⟩|⟨_,c,hc,lX⟩
   ·rw[h3]at k;cases k
   ·obtain⟨c',gQ⟩:=c2 (x,.free) (lookup_mem h2) rfl
    have:=c1 x c' gQ;rw[hc]at this;cases this;refine .inr ⟨.inl (Lj XM h3 h2),c,gQ,?_⟩;obtain⟨ob,ho,hd⟩:=lX;exact⟨ob,hk _ _ ho,hd⟩
 ·obtain⟨v,ob,ho,hd⟩:=I.cell x c (c1 x c e)
  exact⟨v,ob,hk _ _ ho,hd⟩
 ·have zu:p∈X.pn++aj:=by simpa[cu]using hp
  obtain⟨a1,a2,a3,a4,a5⟩:=I.pin p zu;refine⟨hk _ _ a1,a2,dw (bS a1),λz=>?_,a5⟩;rcases dj.mp (My p.1 z)with e|e
  ·exact a3 e
  ·exact a4 e
 ·show(js.map _).length=N.length
  rw[bu,hlen]
end
theorem NB{prog:a9}{w:World}{A:ag}{R:Result->a8->Prop}{s:a8}{elt target iter:Expr}{ifs:List Expr}{scope:Scope}{pos:Pos}{it acc:Value}{env:Env}(I:Nat->a8->Prop) (turn:∀n s,I n s->wpAny (model prog w) A (pyNext it) (λr s₁=>match r with |none=>R (.ok .next) s₁ |some v=>wpAny (model prog w) A (letOwnedTupleGo target it v) (λ_ s₁=>wpAny (model prog w) A (assign target env v) (λ_ s₂=>wpAny (model prog w) A (forIn ifs true λc r=>if r=true then do let ok<-isTrue c env (eval c env);pure (ForInStep.yield ok)else pure (ForInStep.yield r)) (λok s₃=>if ok=true then wpAny (model prog w) A (eval elt env) (λx s₄=>wpAny (model prog w) A (call (.builtin "list.append") [acc,x]) (λ_ s₅=>∃m,m<n/\I m s₅) (λ_ _=>False) s₄) (λ_ _=>False) s₃ else∃m,m<n/\I m s₃) (λ_ _=>False) s₂) (λ_ _=>False) s₁) (λ_ _=>False) s₁) (λ_ _=>False) s) (n:Nat)(h:I n s):codeAny (model prog w) A (.compLoop (.ListComp elt [⟨target,iter,ifs,0⟩] scope pos) 0 it acc env) R s:=by refine codeAny_loop Z I (λn s hI=>?_) n h;show wpAny _ A ((compTurn (.ListComp elt [⟨target,iter,ifs,0⟩] scope pos) 0 it acc env).onRaise (λx=>do noteFrame x env;theTreesLotGoes x)) _ _ s;refine wpAny_noted ?_;rw[compTurn_list];refine az (kR (az (dR (turn n s hI) (λr s₁ h₁=>?_) λ_ _ h'=>h'.elim)));cases r with |none=>exact bc h₁ |some v=>refine az (dR h₁ (λ_ Ho h₁=>?_) λ_ _ h'=>h'.elim);refine az (dR h₁ (λ_ s₂ h₂=>az (dR h₂ (λok s₃ h₃=>?_) λ_ _ h'=>h'.elim)) λ_ _ h'=>h'.elim);cases ok with |false=>exact bc ⟨Z,h₃⟩ |true=>exact az (az (dR h₃ (λx s₄ h₄=>az (dR h₄ (λ_ s₅ h₅=>bc (bc ⟨Z,h₅⟩)) λ_ _ h'=>h'.elim)) λ_ _ h'=>h'.elim))
def G4(X:Cx)(ifs:List Expr)(t:TT):Prop:=∀(aj:List (Addr×Obj))(s:a8)(O:St)(H:Hp)(Q:Bool->Hp->Prop),Inv X aj O H s->t O H Q->wpAny (model X.prog X.w) X.A (forIn ifs true λc r=>if r=true then do let ok<-isTrue c X.env (eval c X.env);pure (ForInStep.yield ok)else pure (ForInStep.yield r)) (TP X aj O Q) X.xe s
def i9:TT:=λ_ H Q=>Q true H
theorem f6{X:Cx}:G4 X [] i9:=λ_ _ _ H _ I h=>wpAny_tests_nil ⟨H,I,h⟩
def j6(J:It)(g:TG)(tt:TT)(te:TE)(Q:VK)(D:Addr)(O:St)(H:Hp):Prop:=∃W:Nat->Nat->St->Hp->Prop,(∃m,W 0 m O H)/\∀i m σ' H',W i m σ' H'->(J.stop i H'/\Q (.ref D) H')\/(J.go i H'/\∀x H2,J.gH i H' x H2->g x σ' H2 λσ3 H3=>tt σ3 H3 λok H4=>if ok=true then te σ3 H4 λy H5=>∃ys,H5 D=some (.lst ys)/\ys.length<sizeLine/\∃m',m'<m/\W (i+1) m' σ3 (upd H5 D (.lst (ys++[y]))) else∃m',m'<m/\W (i+1) m' σ3 H4)
def Hl(js:List (Option Nat))(wi:TI)(g:TG)(tt:TT)(te:TE):TE:=λO H Q=>wi O H λJ H1=>∀D H2,Nw H1 H2 D (.lst [])->j6 J g tt te Q D (stC js O) H2
theorem dg.but{P:a9}{w:World}{H:Hp}{h h':Heap}{C:Addr}(ok:dg P w H h)(hn:H C=none)(hs:Heap.SameBut C h h'):dg P w H h':=λb ob e=>by
 refine(ok b ob e).jH (λc w' hc q=>(hs.2 c ?_).trans q) (λ_ q=>q) λ_ _ q=>q;rintro rfl;rcases hc with rfl|hc
 ·rw[hn]at e;cases e
 ·rw[hn]at hc;cases hc
set_option maxHeartbeats 1000000 in
theorem fV{X:Cx}{N:List Str}{js:List (Option Nat)}{elt tg iter:Expr}{ifs:List Expr}{scope:Scope}{pos:Pos}{wi:TI}{g:TG}{tt:TT}{te:TE}(hc:X.calm=true)(hN:wN X N js scope=true)(hS:pH X scope=true) (hi:PI X tg iter wi)(hg:∀cl s H fp aj,PG (cu X N scope cl s H fp aj) tg g)(ht:∀cl s H fp aj,G4 (cu X N scope cl s H fp aj) ifs tt)(he:∀cl s H fp aj,PE (cu X N scope cl s H fp aj) elt te) (hs:∀x,foldedSetIterable iter X.env x=pure x:=by intro _;rfl):PE X (.ListComp elt [⟨tg,iter,ifs,0⟩] scope pos) (Hl js wi g tt te):=by
 intro aj s O H Q I h;have kC:=hS;unfold pH at kC;rw[eF,eF]at kC;obtain⟨⟨k1,k2⟩,k3⟩:=kC;have iV:scope.kind= .function:=eB.mp k1;have oX:∀x∈scope.names,x.2= .free->∃c,X.env.cells.lookup x.1=some c:=λx hx e=>by have:=fJ.mp k3 x hx;rw[e]at this;exact I.ok.has x.1 (.inl (eB.mp this))
 have lX:∀x∈scope.names,x.2≠ .cell:=λx hx e=>by have:=fJ.mp k3 x hx;rw[e]at this;exact fQ this
 have vW:∀x∈scope.names,x.2= .local->scope.names.lookup x.1=some .local:=λx hx e=>by have:=fJ.mp k3 x hx;rw[e]at this;exact eB.mp this
 obtain⟨cl,we,c1,c2⟩:=FF oX;rw[eval_ListComp];refine OO (use:=none) Z hs we iV vW (aL (hi aj s O H _ I h) λv s1 h1=>aL h1 λvT s2 h2=>?_);obtain⟨it,fp,tn,J,H2,e,I2,T,l4,f2,h2⟩:=h2;subst e;have hD:H2 s2.heap.objs.size=none:=I2.aW.fresh (ba _);obtain⟨W,⟨m0,w0⟩,turn⟩:=h2 _ _ (Nw.of hD);refine mx (ON lX (by intro y hy;simp at hy) (λh₁ oS oQ=>?_) iV);have kH:∀b∈fp,b<s2.heap.objs.size:=λb hb=>by obtain⟨o,e,_⟩:=T.obj _ _ l4 b hb;exact bS e
 have I3:Inv X aj O (upd H2 s2.heap.objs.size (.lst [])) {s2 with heap:=s2.heap.push {cls:=.type "list",dict:=none,data:=.seq ([]:List Value).toArray}}:=I2.zc (its:=[]) (t':=s2.toks) .nil (dS _);generalize p5:s2.heap.push {cls:=.type "list",dict:=none,data:=.seq ([]:List Value).toArray}=h3 at I3 oS oQ;have nV:h3.objs.size=s2.heap.objs.size+1:=by rw[<-p5,pW]
 have vS:∀b o,s2.heap.get? b=some o->h3.get? b=some o:=λb o e=>by rw[<-p5];exact bV _ e
 have f3:∀b∈fp,i7 X aj (upd H2 s2.heap.objs.size (.lst [])) b:=λb hb=>⟨by rw[bf (dw (kH b hb))];exact(f2 b hb).1,(f2 b hb).2⟩;have oO:∀b o,h3.get? b=some o->h₁.get? b=some o:=λb o e=>(oQ.2 b (dw (bS e))).trans (bV _ e);have I4:Inv (cu X N scope cl {s2 with heap:=h3} (upd H2 s2.heap.objs.size (.lst [])) fp aj) [] (stC js O) (upd H2 s2.heap.objs.size (.lst [])) {s2 with heap:=h₁,toks:=s2.toks+([]:List (Str×Value)).length}:=I3.comp (s:={s2 with heap:=h3}) hN hS c1 c2 f3 (λb hb=>by show b<h3.objs.size;rw[nV];exact xD (kH b hb)) (by simpa using oS) oO;have nW:tn 0 h₁:=T.keep _ _ _ l4 λb _ o e=>oO b o (vS b o e);have loop:codeAny (model X.prog X.w) X.A (.compLoop (.ListComp elt [⟨tg,iter,ifs,0⟩] scope pos) 0 (.ref it) (.ref s2.heap.objs.size) (compEnvC scope cl h3.objs.size X.env)) (compPost (model X.prog X.w) X.A X.xe none (EP X aj O Q) (.ref s2.heap.objs.size) h3.objs.size) {s2 with heap:=h₁,toks:=s2.toks+([]:List (Str×Value)).length}:=by
  refine NB (λn s'=>∃i σ' H',Inv (cu X N scope cl {s2 with heap:=h3} (upd H2 s2.heap.objs.size (.lst [])) fp aj) [] σ' H' s'/\tn i s'.heap/\(∀b∈fp,H' b=none)/\W i n σ' H') ?_ m0 ⟨0,_,_,I4,nW,λb hb=>(f3 b hb).1,w0⟩;rintro n s5 ⟨i,σ5,H5,I5,jI,m5,w5⟩;have ib:∀{H':Hp},(∀b∈fp,H' b=none)->∀b∈fp,i7 (cu X N scope cl {s2 with heap:=h3} (upd H2 s2.heap.objs.size (.lst [])) fp aj) [] H' b:=λ{H'} hn b hb=>by
   obtain⟨_,q1,q2,q3,q4,q5⟩:=f3 b hb;refine⟨hn b hb,λz=>?_,I4.ok.m6 b hb,.inl hb,λx c e=>q4 x c (c1 x c e),λp hp=>q5 p (by simpa[cu]using hp)⟩;have bG:b<h3.objs.size:=by rw[nV];exact xD (kH b hb)
   exact dw bG z
  rcases turn i n σ5 H5 w5 with⟨stop,qn⟩|⟨go,step⟩
  ·refine aL (T.done (cu X N scope cl {s2 with heap:=h3} (upd H2 s2.heap.objs.size (.lst [])) fp aj) rfl rfl rfl hc i [] s5 σ5 H5 _ I5 (ib m5) jI stop) λr s6 ⟨hr,I6⟩=>?_
   subst hr;obtain⟨m,hm,_⟩:=I6.loc;refine⟨m,hm,λh7 ng=>?_⟩;have u0:Un (eg X.stack) fp (upd H2 s2.heap.objs.size (.lst [])) H5 h3 s6.heap:=I6.ao;have ne:∀b o,h3.get? b=some o->b≠h3.objs.size:=λb o e=>dw (bS e);have u:Un (eg X.stack) fp (upd H2 s2.heap.objs.size (.lst [])) H5 h3 h7:=⟨λb o e n hb hx=>(ng.2 b (ne b o e)).trans (u0.keep b o e n hb hx),λb o e n hb hx=>let⟨sl,q⟩:=u0.slot b o e n hb hx;⟨sl,(ng.2 b (ne b o e)).trans q⟩,u0.free,λb o e hx=>let⟨o',q⟩:=u0.there b o e hx;⟨o',(ng.2 b (ne b o e)).trans q⟩,u0.iI,u0.ir,u0.iJ⟩;have I7:Inv X aj O H5 {s6 with heap:=h7}:=I3.wQ (s':={s6 with heap:=h7}) (ch:=fp) I6.os u (I6.aW.but I6.free ng) I6.bare λb hb=>⟨(f3 b hb).2.2.2.1,(f3 b hb).2.1,(f3 b hb).2.2.2.2.1,(f3 b hb).2.2.2.2.2⟩;exact⟨.ref s2.heap.objs.size,H5,I7,Z,qn⟩
  ·refine aL (T.item (cu X N scope cl {s2 with heap:=h3} (upd H2 s2.heap.objs.size (.lst [])) fp aj) rfl rfl rfl hc i [] s5 σ5 H5 _ I5 (ib m5) jI go) λr s6 ⟨u,hr,h6⟩=>?_
   subst hr;refine aL h6 λ_ s7 ⟨x,H7,I7,r7,y7,k9,wu⟩=>?_;have xn:=I7.pinned (ib wu) (T.obj _ _ k9);refine aL (hg _ _ _ _ _ _ s7 σ5 H7 x u _ xn r7 (step x H7 y7)) λ_ s8 ⟨σ8,H8,I8,q8⟩=>?_;refine aL (ht _ _ _ _ _ _ s8 σ8 H8 _ I8 q8) λok s9 ⟨H9,I9,q9⟩=>?_;have again:∀{s':a8}{σ7:St}{H7:Hp},Inv (cu X N scope cl {s2 with heap:=h3} (upd H2 s2.heap.objs.size (.lst [])) fp aj) ([]++mO fp s7.heap) σ7 H7 s'->(∃m',m'<n/\W (i+1) m' σ7 H7)->∃m,m<n/\∃i σ' H',Inv (cu X N scope cl {s2 with heap:=h3} (upd H2 s2.heap.objs.size (.lst [])) fp aj) [] σ' H' s'/\tn i s'.heap/\(∀b∈fp,H' b=none)/\W i m σ' H':=λ{s' σ7 H7} J7 n7=>by obtain⟨m',hm,w7⟩:=n7;refine⟨m',hm,i+1,σ7,H7,J7.pZ,T.keep _ _ _ k9 λb hb o e=>(J7.pin (b,o) (fP _ (fP _ (lK hb e)))).1,λb hb=>?_,w7⟩;obtain⟨o,e,d⟩:=T.obj _ _ k9 b hb;exact(J7.pin (b,o) (fP _ (fP _ (lK hb e)))).2.1
   cases ok with |false=>rw[aO fQ]at q9⊢;exact again I9 q9 |true=>rw[aR rfl]at q9⊢;refine aL (he _ _ _ _ _ _ s9 σ8 H9 _ I9 q9) λyv jb ⟨y,gC,pO,Dt,ys,iT,hz,sE⟩=>?_;refine aL (yY _ jb σ8 gC (.ref s2.heap.objs.size) [y] (.ref s2.heap.objs.size) [yv] (λ_ gB=>∃m',m'<n/\W (i+1) m' σ8 gB) pO Z (.cons Dt .nil) ⟨_,ys,y,Z,Z,iT,hz,sE⟩) λ_ qh ⟨v11,gB,uk,SR,vp⟩=>?_;exact again uk vp
 exact OP loop (T.self _ 0 _ _ _ nW loop)
theorem FJ:∀{bs:List Bool}{us:List Value},Vals (bs.map V.bl) us->us=bs.map Value.bool |[],_,.nil=>rfl |b::r,_,.cons q t=>by cases(show _=Value.bool b from q);rw[FJ t];rfl
section
variable {X:Cx}
theorem a2d(hc:X.calm=true):eu X (.builtin "all") (λxs H Q=>∃(l:Addr)(bs:List Bool),xs=[.ref l]/\aF X.K H l (bs.map V.bl)/\Q (.bl (bs.all id)) H):=by
 intro aj s O H xs us Q I r h;obtain⟨l,bs,rfl,hl,q⟩:=h;obtain⟨u,rfl,ru⟩:=vals1 r;cases(show u=Value.ref l from ru);obtain⟨its,rv,pl,hz⟩:=I.list hl;have e:=FJ rv;subst e;have il:=pl.isList;have bG:l<s.heap.objs.size:=by obtain⟨_,e,_⟩:=il;exact bS e
 have hh:=I.ok.hd hc;refine call_all_walk (Am il ?_);refine⟨s.heap.objs.size,[s.heap.objs.size,l],[s.heap.objs.size],(bs.map Value.bool).toArray.size,_,_,λi=>(bs[i]?).getD true,Z,Walks.list (A:=X.A.in1) hh _ l (dw bG) (bs.map Value.bool).toArray,⟨⟨_,dU _ Z,Z,Z⟩,il.push _⟩,λi v s' Q' E' hP hQ=>?_,λh' tk hk=>?_⟩
 ·have kD:(bs.map Value.bool)[i]? =some v:=by simpa using hP
  rw[bN]at kD;cases e:bs[i]? with |none=>rw[e]at kD;cases kD |some b=>rw[e]at kD;cases kD;simp only[e,Option.getD_some]at hQ;exact nL hQ
 ·have e:((List.range (bs.map Value.bool).toArray.size).all λi=>(bs[i]?).getD true)=bs.all id:=by rw[cB,bu];exact LSm.range_all bs
  rw[e];exact⟨.bl _,H,I.kept (LSm.kept_iter hk),Z,q⟩
theorem a2c(hc:X.calm=true):eu X (.builtin "any") (λxs H Q=>∃(l:Addr)(bs:List Bool),xs=[.ref l]/\aF X.K H l (bs.map V.bl)/\Q (.bl (bs.any id)) H):=by
 intro aj s O H xs us Q I r h;obtain⟨l,bs,rfl,hl,q⟩:=h;obtain⟨u,rfl,ru⟩:=vals1 r;cases(show u=Value.ref l from ru);obtain⟨its,rv,pl,hz⟩:=I.list hl;have e:=FJ rv;subst e;have il:=pl.isList;have bG:l<s.heap.objs.size:=by obtain⟨_,e,_⟩:=il;exact bS e
 have hh:=I.ok.hd hc;refine call_any_walk (Am il ?_);refine⟨s.heap.objs.size,[s.heap.objs.size,l],[s.heap.objs.size],(bs.map Value.bool).toArray.size,_,_,λi=>(bs[i]?).getD false,Z,Walks.list (A:=X.A.in1) hh _ l (dw bG) (bs.map Value.bool).toArray,⟨⟨_,dU _ Z,Z,Z⟩,il.push _⟩,λi v s' Q' E' hP hQ=>?_,λh' tk hk=>?_⟩
 ·have kD:(bs.map Value.bool)[i]? =some v:=by simpa using hP
  rw[bN]at kD;cases e:bs[i]? with |none=>rw[e]at kD;cases kD |some b=>rw[e]at kD;cases kD;simp only[e,Option.getD_some]at hQ;exact nL hQ
 ·have e:((List.range (bs.map Value.bool).toArray.size).any λi=>(bs[i]?).getD false)=bs.any id:=by rw[cB,bu];exact LSm.range_any bs
  rw[e];exact⟨.bl _,H,I.kept (LSm.kept_iter hk),Z,q⟩
end
theorem rC{J:It}{g:TG}{tt:TT}{te:TE}{Q:VK}{D:Addr}{O:St}{H:Hp}(n:Nat)(Pv:Nat->St->Hp->Prop)(h0:Pv 0 O H) (hs:∀i O H,i<n->Pv i O H->J.go i H/\∀x H2,J.gH i H x H2->g x O H2 λσ3 H3=>tt σ3 H3 λok H4=>if ok=true then te σ3 H4 λy H5=>∃ys,H5 D=some (.lst ys)/\ys.length<sizeLine/\∃m',m'<n-i/\m'=n-(i+1)/\i+1<=n/\Pv (i+1) σ3 (upd H5 D (.lst (ys++[y]))) else∃m',m'<n-i/\m'=n-(i+1)/\i+1<=n/\Pv (i+1) σ3 H4) (hd:∀O H,Pv n O H->J.stop n H/\Q (.ref D) H): j6 J g tt te Q D O H:=by
 refine⟨λi m O H=>m=n-i/\i<=n/\Pv i O H,⟨n,by simp,dS _,h0⟩,?_⟩;rintro i m O H ⟨rfl,hi,p⟩;by_cases bG:i<n
 ·exact .inr (hs i O H bG p)
 ·have e:i=n:=by lia
  subst e;exact .inl (hd O H p)
section
variable {X:Cx} {tg:Expr}
theorem WJ(K:a7)(h:X.K=K):nI X (λx y H Q=>Dn K x y H Q\/Dm K x y H Q):=by subst h;exact WI.or WG
inductive a4r(K:a7)(x:V)(lo:Option Int)(hi:Option Int)(H:Hp)(Q:VK):Prop |mk (a:_)(xs:_)(h0:x= .ref a)(h1:((aF K H a xs/\∀p H',Nw H H' p (.lst (jT xs lo hi))->Q (.ref p) H')\/ (aK K H a xs/\¬(HT.bO xs.length 0 lo=0/\HT.bO xs.length xs.length hi=xs.length)/\∀p H',Nw H H' p (.tup (jT xs lo hi))->Q (.ref p) H')))
def Sz(K:a7):V->Option Int->Option Int->Hp->VK->Prop:=λx lo hi H Q=>a4r K x lo hi H Q
theorem yh(K:a7)(h:X.K=K):Ab X (Sz K):=by
 subst h;intro aj s O H x v vl vu lo hi sl Q I rx hs pl pu hq;obtain⟨a,xs,e,hq⟩:=hq;rcases hq with⟨h1,k⟩|⟨h1,h2,k⟩
 ·exact Ry aj s O H x v vl vu lo hi sl Q I rx hs pl pu ⟨a,xs,e,h1,λp hp=>k p _ (.of hp)⟩
 ·exact Rx aj s O H x v vl vu lo hi sl Q I rx hs pl pu ⟨a,xs,e,h1,h2,λp hp=>k p _ (.of hp)⟩
theorem Wr(K:a7)(h:X.K=K):eu X (.builtin "len") (λxs H Q=>∃p ys,xs=[.ref p]/\(aF K H p ys\/aK K H p ys)/\Q (.int ys.length) H):=by subst h;exact a29
theorem WO(K:a7)(h:X.K=K):eu X (.builtin "isinstance") (λxs H Q=>Dq K xs H Q\/Dp K xs H Q):=by subst h;exact a2b.or a2a
theorem dH(K:a7)(h:X.K=K)(hu:X.A.units+64<cLine):cx X (compareOp .Eq) (λx y H Q=>iM (λi j=>.bl (decide (i=j))) x y H Q\/Dr K x y H Q):=by subst h;exact U1 hu
theorem iR(K:a7)(h:X.K=K)(hu:X.A.units+64<cLine):cx X (compareOp .NotEq) (λx y H Q=>iM (λi j=>.bl (!decide (i=j))) x y H Q\/Dl K x y H Q):=by subst h;exact TU hu
theorem wX(K:a7)(h:X.K=K)(hc:X.calm=true):eu X (.builtin "all") (λxs H Q=>∃(l:Addr)(bs:List Bool),xs=[.ref l]/\aF K H l (bs.map V.bl)/\Q (.bl (bs.all id)) H):=by subst h;exact a2d hc
theorem Od(K:a7)(h:X.K=K)(hc:X.calm=true):eu X (.builtin "any") (λxs H Q=>∃(l:Addr)(bs:List Bool),xs=[.ref l]/\aF K H l (bs.map V.bl)/\Q (.bl (bs.any id)) H):=by subst h;exact a2c hc
theorem zd(K:a7)(h:X.K=K):eu X (.type "list") (λxs H Q=>∃p ys,xs=[.ref p]/\(aF K H p ys\/aK K H p ys)/\∀l H',Nw H H' l (.lst ys)->Q (.ref l) H'):=by subst h;intro aj s O H xs us Q I r hq;obtain⟨p,ys,e,h1,k⟩:=hq;exact a27 aj s O H xs us Q I r ⟨p,ys,e,h1,λl hl=>k l _ (.of hl)⟩
theorem j9(K:a7)(h:X.K=K):eu X (.type "tuple") (λxs H Q=>∃p ys,xs=[.ref p]/\((aF K H p ys/\∀l H',Nw H H' l (.tup ys)->Q (.ref l) H')\/(aK K H p ys/\Q (.ref p) H))):=by subst h;intro aj s O H xs us Q I r hq;obtain⟨p,ys,e,h1⟩:=hq;exact a22 aj s O H xs us Q I r ⟨p,ys,e,h1.imp (λ⟨a,k⟩=>⟨a,λl hl=>k l _ (.of hl)⟩) id⟩
def Qp(t:TA):TE:=λO H Q=>t O H λxs H1=>xs.length<=sizeLine/\∀p H',Nw H1 H' p (.tup xs)->Q (.ref p) H'
def QE(t:TA):TE:=λO H Q=>t O H λxs H1=>xs.length<=sizeLine/\∀p H',Nw H1 H' p (.lst xs)->Q (.ref p) H'
theorem cF{es:List Expr}{t:TA}{pos:Pos} {x1}(h:PA X es t):PE X (.Tuple es x1 pos) (Qp t):=by intro aj s O H Q I hq;refine wpAny_Tuple_spliced (aL (h pos aj s O H _ I hq) λus s1 ⟨xs,H1,I1,r,z,q⟩=>⟨by rw[<-r.length];exact z,?_⟩);have hf:H1 s1.heap.objs.size=none:=I1.aW.fresh (ba _);refine⟨.ref s1.heap.objs.size,upd H1 s1.heap.objs.size (.tup xs),I1.laid (t':=s1.toks) (λb u e=>bV _ e) (ba _) ?_,Z,q _ _ (.of hf)⟩;exact⟨z,us,r,⟨_,dU _ Z,Z,_,Z⟩⟩
theorem cI{es:List Expr}{t:TA}{pos:Pos}(h:PA X es t):PE X (.List es pos) (QE t):=by intro aj s O H Q I hq;refine wpAny_List_spliced (aL (h pos aj s O H _ I hq) λus s1 ⟨xs,H1,I1,r,z,q⟩=>⟨by rw[<-r.length];exact z,?_⟩);have hf:H1 s1.heap.objs.size=none:=I1.aW.fresh (ba _);refine⟨.ref s1.heap.objs.size,upd H1 s1.heap.objs.size (.lst xs),I1.laid (t':=s1.toks) (λb u e=>bV _ e) (ba _) ?_,Z,q _ _ (.of hf)⟩;exact⟨z,us,0,r,dU _ Z⟩
theorem oo(K:a7)(h:X.K=K){l:Expr}{tl:TE}(hl:PE X l tl):PI X tg l (LP K tl):=by subst h;exact Tj hl
theorem kh(K:a7)(h:X.K=K){l:Expr}{tl:TE}(hl:PE X l tl):PI X tg l (LO K tl):=by subst h;exact Tg hl
theorem cV(K:a7)(h:X.K=K){es:List Expr}{k:Nat}{t:mm}{n:Nat}{pos:Pos}(hc:X.calm=true)(hg:xj X es t)(hn:(assignEach es X.env).length=n:=by rfl)(jn:(assignEach es X.env).findIdx? (·.1)=none:=by rfl): PG X (.Tuple es k pos) (zI K n t):=by subst h;exact Tn hc hg hn jn
theorem gY(K:a7)(h:X.K=K){o e:Expr}{to:TE}{t:TA}{apos dm:Pos}(ho:PE X o to)(ha:PA X [e] t) (qP:attributeBase o "append" X.env (eval o X.env)=eval o X.env:=by rfl) (qL:((backTo dm (starEach [e] X.env)).all (λx=>!x.1)&&(backToKw dm (keywordEach [] X.env)).all (λx=>x.1.isSome) &&decide ([e].length+([]:List Keyword).length+(if([]:List Keyword).isEmpty then 0 else 1)<30))=true:=by rfl) (qH:(apos.endLine==dm.line)=true:=by rfl)(hs:starEach [e] X.env=(false,eval e X.env)::starEach [] X.env:=by rfl)(qD:(backTo dm (starEach [] X.env)).any (·.1)=false:=by rfl): PE X (.Call (.Attribute o "append" apos) [e] [] dm) (y6 K "list" K8 to t):=by subst h;exact Dz PySem.F.plainAttrs_list PySem.F.slot_list_append PySem.F.type_list_append yY ho ha qP qL qH hs qD
theorem uI{j:Nat}{x:V}{O:St}{H:Hp}{A B:St->Hp->Prop}(h:A (O.set j (some x)) H):fE j x O H λσ3 H3=>i9 σ3 H3 λok H4=>if ok=true then A σ3 H4 else B σ3 H4:=by show if true=true then A (O.set j (some x)) H else B (O.set j (some x)) H;rw[aR rfl];exact h
theorem yes{O:St}{H:Hp}{Q:Bool->Hp->Prop}(h:Q true H):i9 O H Q:=h
end
theorem aF.go{K:a7}{H H':Hp}{a:Addr}{xs:List V}(s:aA H H')(h:aF K H a xs):aF K H' a xs:=h.imp (λr=>r.imp (s _ _) λ⟨o,e⟩=>⟨o,s _ _ e⟩) id
theorem aK.go{K:a7}{H H':Hp}{a:Addr}{xs:List V}(s:aA H H')(h:aK K H a xs):aK K H' a xs:=h.imp (λr=>r.imp (s _ _) λ⟨o,e⟩=>⟨o,s _ _ e⟩) id
mutual
theorem RD.mono{K:a7}{H H':Hp}(s:aA H H'):∀{x:V}(d:af),RD K H x d->RD K H' x d |x,.none,h=>by simpa[RD]using h |x,.bool b,h=>by simpa[RD]using h |x,.int i,h=>by simpa[RD]using h |x,.str y,h=>by simpa[RD]using h |x,.list ds,h=>by rw[RD]at h⊢;obtain⟨a,xs,e,h1,h2⟩:=h;exact⟨a,xs,e,h1.go s,aC.mono s ds h2⟩ |x,.tuple ds,h=>by rw[RD]at h⊢;obtain⟨a,xs,e,h1,h2⟩:=h;exact⟨a,xs,e,h1.go s,aC.mono s ds h2⟩ |x,.dict _,h=>by simp[RD]at h
theorem aC.mono {K:a7}{H H':Hp}(s:aA H H'):∀{xs:List V}(ds:List af),aC K H xs ds->aC K H' xs ds |xs,[],h=>by simpa[aC]using h |xs,d::ds,h=>by rw[aC]at h⊢;obtain⟨y,ys,e,h1,h2⟩:=h;exact⟨y,ys,e,RD.mono s d h1,aC.mono s ds h2⟩
end
section
variable {K:a7} {H H':Hp}
theorem aC.nil_inv{xs:List V}(h:aC K H xs []):xs=[]:=by simpa[aC]using h
theorem aC.cons_inv{xs:List V}{d:af}{ds:List af}(h:aC K H xs (d::ds)):∃y ys,xs=y::ys/\RD K H y d/\aC K H ys ds:=by rw[aC]at h;exact h
theorem RD.bT{x:V}{ds:List af}(h:RD K H x (.tuple ds)):∃a xs,x= .ref a/\aK K H a xs/\aC K H xs ds:=by rw[RD]at h;exact h
theorem RD.lst_inv{x:V}{ds:List af}(h:RD K H x (.list ds)):∃a xs,x= .ref a/\aF K H a xs/\aC K H xs ds:=by rw[RD]at h;exact h
theorem RD.int_inv{x:V}{i:Int}(h:RD K H x (.int i)):x= .int i:=by rw[RD]at h;exact h
theorem RD.a2m{x:V}{i:Bool}(h:RD K H x (.bool i)):x= .bl i:=by rw[RD]at h;exact h
theorem RD.str_inv{x:V}{i:Str}(h:RD K H x (.str i)):x= .str i:=by rw[RD]at h;exact h
theorem RD.DI{x:V}(h:RD K H x .none):x= .bM:=by rw[RD]at h;exact h
theorem aC.length:∀{xs:List V}{ds:List af},aC K H xs ds->xs.length=ds.length |xs,[],h=>by rw[h.nil_inv];rfl |xs,d::ds,h=>by obtain⟨y,ys,rfl,_,h2⟩:=h.cons_inv;rw[mB,mB,aC.length h2]
theorem aC.append:∀{xs ys:List V}{ds es:List af},aC K H xs ds->aC K H ys es->aC K H (xs++ys) (ds++es) |xs,ys,[],es,h,g=>by rw[h.nil_inv];exact g |xs,ys,d::ds,es,h,g=>by obtain⟨y,zs,rfl,h1,h2⟩:=h.cons_inv;exact bK h1 (aC.append h2 g)
theorem aC.take:∀(n:Nat){xs:List V}{ds:List af},aC K H xs ds->aC K H (xs.take n) (ds.take n) |0,xs,ds,h=>by rw[List.take_zero,List.take_zero];exact cf |n+1,xs,[],h=>by rw[h.nil_inv];exact cf |n+1,xs,d::ds,h=>by obtain⟨y,zs,rfl,h1,h2⟩:=h.cons_inv;exact bK h1 (aC.take n h2)
theorem aC.drop:∀(n:Nat){xs:List V}{ds:List af},aC K H xs ds->aC K H (xs.drop n) (ds.drop n) |0,xs,ds,h=>h |n+1,xs,[],h=>by rw[h.nil_inv];exact cf |n+1,xs,d::ds,h=>by obtain⟨y,zs,rfl,h1,h2⟩:=h.cons_inv;exact aC.drop n h2
theorem aC.get:∀(n:Nat){xs:List V}{ds:List af}{d:af},aC K H xs ds->ds[n]? =some d->∃x,xs[n]? =some x/\RD K H x d
 |n,xs,[],d,h,e=>by simp at e |0,xs,d'::ds,d,h,e=>by
  obtain⟨y,zs,rfl,h1,h2⟩:=h.cons_inv;have e':d'=d:=by simpa using e
  subst e';exact⟨y,Z,h1⟩ |n+1,xs,d'::ds,d,h,e=>by obtain⟨y,zs,rfl,h1,h2⟩:=h.cons_inv;exact aC.get n h2 (by simpa using e)
theorem aC.get'(n:Nat){xs:List V}{ds:List af}{x:V}(h:aC K H xs ds)(e:xs[n]? =some x):∃d,ds[n]? =some d/\RD K H x d:=by
 have hl:n<ds.length:=by rw[<-h.length];exact(cy.mp e).1
 obtain⟨y,e1,r⟩:=h.get n (bw hl);rw[e]at e1;cases e1;exact⟨_,bw hl,r⟩
def dM:af->String | .none=>"NoneType" | .bool _=>"bool" | .int _=>"int" | .str _=>"str" | .list _=>"list" | .tuple _=>"tuple" | .dict _=>"dict"
theorem RD.ty{x:V}:∀{d:af},RD K H x d->rK K H x (dM d) | .none,h=>by rw[h.DI];rfl | .bool b,h=>by rw[h.a2m];rfl | .int b,h=>by rw[h.int_inv];rfl | .str b,h=>by rw[h.str_inv];rfl | .list ds,h=>by obtain⟨a,xs,rfl,h1,_⟩:=h.lst_inv;exact .inl ⟨Z,xs,h1⟩ | .tuple ds,h=>by obtain⟨a,xs,rfl,h1,_⟩:=h.bT;exact .inr ⟨Z,xs,h1⟩ | .dict _,h=>by simp[RD]at h
structure bU(n:Nat)(d:af):Prop where
 lay:d.canLay0=true
 dep:d.depth<=n
def dQ(n:Nat)(ds:List af):Prop:=∀d∈ds,bU n d
theorem bU.le{n m:Nat}{d:af}(h:bU n d)(l:n<=m):bU m d:=⟨h.lay,fe h.dep l⟩
theorem ow{n:Nat}:∀{ds:List af},dQ n ds↔(PyData.canLayAll0 ds=true/\PyData.depthAll ds<=n)
 |[]=>⟨λ_=>⟨Z,dS _⟩,λ_ _ h=>nomatch h⟩ |d::ds=>by
  have ih:=ow (n:=n) (ds:=ds);simp only[PyData.canLayAll0,PyData.depthAll,eF];constructor
  ·intro h
   have h1:=h d (.head _);have h2:=ih.mp λx hx=>h x (.tail _ hx);exact⟨⟨h1.lay,h2.1⟩,Nat.max_le.mpr ⟨h1.dep,h2.2⟩⟩
  ·rintro⟨⟨a,b⟩,c⟩ x hx
   have c':=Nat.max_le.mp c;rcases dj.mp hx with rfl|hx
   ·exact⟨a,c'.1⟩
   ·exact ih.mpr ⟨b,c'.2⟩ x hx
theorem dQ.tup{n:Nat}{ds:List af}(h:dQ n ds):bU (n+1) (.tuple ds):=⟨by simpa[PyData.canLay0]using(ow.mp h).1,by simpa[PyData.depth]using(ow.mp h).2⟩
theorem dQ.lst{n:Nat}{ds:List af}(h:dQ n ds):bU (n+1) (.list ds):=⟨by simpa[PyData.canLay0]using(ow.mp h).1,by simpa[PyData.depth]using(ow.mp h).2⟩
theorem bU.bT{n:Nat}{ds:List af}(h:bU (n+1) (.tuple ds)):dQ n ds:=ow.mpr ⟨by simpa[PyData.canLay0]using h.lay,by simpa[PyData.depth]using h.dep⟩
theorem bU.lst_inv{n:Nat}{ds:List af}(h:bU (n+1) (.list ds)):dQ n ds:=ow.mpr ⟨by simpa[PyData.canLay0]using h.lay,by simpa[PyData.depth]using h.dep⟩
theorem bU.int{n:Nat}(i:Int):bU n (.int i):=⟨Z,dS _⟩
theorem dQ.nil{n:Nat}:dQ n []:=λ_ h=>nomatch h
theorem dQ.cons{n:Nat}{d:af}{ds:List af}(h:bU n d)(g:dQ n ds):dQ n (d::ds):=λx hx=>by
 rcases dj.mp hx with rfl|hx
 ·exact h
 ·exact g x hx
theorem bU.shaped{n:Nat}{d:af}(h:bU n d)(l:n<=64):SeqAt.shaped d=true:=by unfold SeqAt.shaped;rw[h.lay,j8];exact cj (fe h.dep l)
theorem bU.refl{n:Nat}{d:af}(h:bU n d):PyData.eqv d d=true:=eqv_refl d h.lay
def del(H:Hp)(p:Addr):Hp:=λb=>if b=p then none else H b
theorem m9{H:Hp}{p b:Addr}{o:HO}:del H p b=some o↔b≠p/\H b=some o:=by
 unfold del;by_cases e:b=p
 ·rw[aR e];simp[e]
 ·rw[aO e];simp[e]
theorem rn{H:Hp}{p:Addr}:aA (del H p) H:=λb o e=>(m9.mp e).2
def SD(p:Addr)(H H':Hp):Prop:=aA (del H p) (del H' p)
variable {p:Addr}{n m:Nat}{v:V}{vs:List V}{d:af}{ds es:List af}
end
section
variable {X:Cx}
end
end L2
namespace HT
open PySem PySem.Spec PyProof.Rows
section
variable {prog:a9}{w:World}{A:ag}{E:Value->a8->Prop}{s:a8}
end
end HT
namespace L2
open PySem PySem.Spec PyProof.Rows
section
variable {X:Cx}
end
def fr(H H':Hp):Hp:=λb=>match H b with|none=>H' b|some _=>none
theorem kG{H H':Hp}{b:Addr}{o:HO}:fr H H' b=some o↔H b=none/\H' b=some o:=by unfold fr;cases H b<;>simp
theorem MA{H H':Hp}:aA (fr H H') H':=λb o e=>(kG.mp e).2
theorem ET{H H1 H2:Hp}(s:aA H1 H2):aA (fr H H1) (fr H H2):=λb o e=>kG.mpr ⟨(kG.mp e).1,s _ _ (kG.mp e).2⟩
theorem ZJ{H H1 H2:Hp}(s:aA H H1):aA (fr H1 H2) (fr H H2):=λb o e=>kG.mpr ⟨s.free (kG.mp e).1,(kG.mp e).2⟩
def xY(K:a7)(d:af):TE:=λ_ H Q=>∀v H',aA H H'->RD K (fr H H') v d->Q v H'
def QF(K:a7)(ds:List af):TA:=λ_ H Q=>∀vs H',aA H H'->aC K (fr H H') vs ds->Q vs H'
def vQ(f:Expr->Option af):List Expr->Option (List af) |[]=>some [] |e::es=>match f e,vQ f es with |some d,some ds=>some (d::ds) |_,_=>none
def lit:Nat->Expr->Option af
 |0,_=>none |_+1,.Constant .none _ _=>some .none |_+1,.Constant (.bool b) _ _=>some (.bool b) |_+1,.Constant (.int i) _ _=>some (.int i) |_+1,.Constant (.str x) _ _=>some (.str x) |n+1,.Tuple es _ _=>match vQ (lit n) es with |some ds=>if ds.length<=1000 then some (.tuple ds)else none |none=>none
 |n+1,.List es _=>match vQ (lit n) es with |some ds=>if ds.length<=1000 then some (.list ds)else none |none=>none
 |n+1,.UnaryOp .USub a _=>match lit n a with |some (.int i)=>some (.int (-i)) |_=>none
 |n+1,.BinOp a .Pow b _=>match lit n a,lit n b with |some (.int i),some (.int j)=>if 0<=j/\j<=1000000/\i.natAbs<2^64 then some (.int (i^j.toNat))else none |_,_=>none
 |_,_=>none
section
variable {X:Cx}
theorem Rf{e:Expr}{es:List Expr}{env:Env}(h:∀a b,e≠ .Starred a b):starEach (e::es) env=(false,eval e env)::starEach es env:=by cases e<;>first|rfl|exact absurd rfl (h _ _)
theorem Wo{n:Nat}{e:Expr}{d:af}(h:lit n e=some d):∀a b,e≠ .Starred a b:=by intro a b z;subst z;cases n<;>simp[lit]at h
theorem Km(K:a7)(f:Expr->Option af)(hp:∀e d,f e=some d->∀a b,e≠ .Starred a b)(hf:∀e d,f e=some d->PE X e (xY K d)):∀(es:List Expr)(ds:List af),vQ f es=some ds->PA X es (QF K ds)
 |[],ds,h=>by cases h;intro pos aj s O H Q I hq;exact aq pos aj s O H Q I (hq [] H (aA.refl H) cf) |e::es,ds,h=>by
  rw[vQ]at h;split at h
  ·rename_i d ds' e1 e2
   cases h;intro pos aj s O H Q I hq;refine ai (hf e d e1) (Km K f hp hf es ds' e2) (Rf (hp e d e1)) pos aj s O H Q I ?_;intro v H1 s1 r1 vs H2 s2 r2;exact hq (v::vs) H2 (s1.trans s2) (bK (RD.mono (ET s2) _ r1) (aC.mono (ZJ s1) _ r2))
  ·cases h
theorem vt(K:a7)(hK:X.K=K):∀(n:Nat)(e:Expr)(d:af),lit n e=some d->PE X e (xY K d)
 |0,e,d,h=>by simp[lit]at h |n+1,e,d,h=>by
  have hA:=Km (X:=X) K (lit n) (λe d h=>Wo h) (λe d h=>vt K hK n e d h);unfold lit at h;split at h
  case h_1=>cases‹Nat.succ n=0›
  case h_2=>cases h;intro aj s O H Q I hq;exact fi aj s O H Q I (hq .bM H (aA.refl H) vo)
  case h_3=>cases h;intro aj s O H Q I hq;exact iP aj s O H Q I (hq (.bl _) H (aA.refl H) (mK _))
  case h_4=>cases h;intro aj s O H Q I hq;exact aw aj s O H Q I (hq (.int _) H (aA.refl H) (cM _))
  case h_5=>cases h;intro aj s O H Q I hq;exact dY aj s O H Q I (hq (.str _) H (aA.refl H) (cE _))
  case h_6=>
   rename_i m es _ _ hm;cases hm;split at h
   ·rename_i ds e1
    by_cases hl:ds.length<=1000
    ·rw[aR hl]at h
     cases h;intro aj s O H Q I hq;refine cF (hA es ds e1) aj s O H Q I ?_;intro vs H1 s1 r1;refine⟨by rw[r1.length];exact fe hl au,λp H' nw=>?_⟩;refine hq _ _ (s1.trans nw.same) (dC (aK.of (kG.mpr ⟨s1.free nw.no,nw.at'⟩)) (aC.mono (ET nw.same) _ r1))
    ·rw[aO hl]at h;cases h
   ·cases h
  case h_7=>
   rename_i m es _ hm;cases hm;split at h
   ·rename_i ds e1
    by_cases hl:ds.length<=1000
    ·rw[aR hl]at h
     cases h;intro aj s O H Q I hq;refine cI (hA es ds e1) aj s O H Q I ?_;intro vs H1 s1 r1;refine⟨by rw[r1.length];exact fe hl au,λp H' nw=>?_⟩;refine hq _ _ (s1.trans nw.same) (sX (aF.of (kG.mpr ⟨s1.free nw.no,nw.at'⟩)) (aC.mono (ET nw.same) _ r1))
    ·rw[aO hl]at h;cases h
   ·cases h
  case h_8=>
   rename_i m a _ hm;cases hm;split at h
   ·rename_i i e1
    cases h;intro aj s O H Q I hq;refine ki jY (vt K hK n a _ e1) aj s O H Q I ?_;intro v H1 s1 r1;exact⟨i,r1.int_inv,hq _ _ s1 (cM _)⟩
   ·cases h
  case h_9=>
   rename_i m a b _ hm;cases hm;split at h
   ·rename_i i j e1 e2
    by_cases hc:0<=j/\j<=1000000/\i.natAbs<2^64
    ·rw[aR hc]at h
     cases h;intro aj s O H Q I hq;refine aG qo (vt K hK n a _ e1) (vt K hK n b _ e2) aj s O H Q I ?_;intro v H1 s1 r1 v2 H2 s2 r2;exact⟨i,j,r1.int_inv,r2.int_inv,hc,hq _ _ (s1.trans s2) (cM _)⟩
    ·rw[aO hc]at h;cases h
   ·cases h
  case h_10=>cases h
end
end L2
namespace L2
theorem cK{α:Type}{xs:List α}{i:Int}{v:α}(h0:0<=i)(h:xs[i.toNat]? =some v):dI xs i=some v:=by have hl:i.toNat<xs.length:=(cy.mp h).1;unfold dI gc;rw[aR h0,aR ak];exact h
end L2
namespace L2
open PySem PySem.Spec PyProof.Rows
theorem Bv(n:Nat)(h:n<=1000):n<=sizeLine:=fe h au
structure Oz(X:Cx)(e:Expr)(t:TE):Prop where out:PE X e t
theorem Tr{X:Cx}(K:a7)(hK:X.K=K)(n:Nat)(e:Expr)(d:af)(h:lit n e=some d):Oz X e (xY K d):=⟨vt K hK n e d h⟩
section
variable {X:Cx}{p pos pos':Pos}{a b e:Expr}{es:List Expr}{ta tb te:TE}{t:TA}{x:Str}
theorem px(K:a7)(ha:PE X a ta)(hb:PE X b tb)(hK:X.K=K:=by rfl)(hp:Ov b:=by exact λ_ _=>rfl):PE X (.Subscript a b pos) (uQ (λx y H Q=>Dn K x y H Q\/Dm K x y H Q) ta tb):=Kj (WJ K hK) ha hb hp
theorem fk(K:a7)(B:bB X.mg)(ha:PA X (e::es) t)(hK:X.K=K:=by rfl)(hg:Gl X "isinstance":=by rfl)(he:starEach (e::es) X.env=(false,eval e X.env)::starEach es X.env:=by rfl)(gy:(backTo pos (starEach es X.env)).any (·.1)=false:=by rfl):PE X (.Call (.Name "isinstance" p) (e::es) [] pos) (xZ (λxs H Q=>Dq K xs H Q\/Dp K xs H Q) t):=dk (WO K hK) hg (B.at "isinstance") Gq ha au au he gy
theorem eH(K:a7)(B:bB X.mg)(ha:PA X (e::es) t)(hK:X.K=K:=by rfl)(hg:Gl X "len":=by rfl)(he:starEach (e::es) X.env=(false,eval e X.env)::starEach es X.env:=by rfl)(gy:(backTo pos (starEach es X.env)).any (·.1)=false:=by rfl):PE X (.Call (.Name "len" p) (e::es) [] pos) (xZ (λxs H Q=>∃p ys,xs=[.ref p]/\(aF K H p ys\/aK K H p ys)/\Q (.int ys.length) H) t):=dk (Wr K hK) hg (B.at "len") PySem.boot_len ha au au he gy
theorem pS(i:Nat)(hN:X.N.Nodup)(he:PE X e te)(hi:X.N[i]? =some x:=by rfl)(hx:Loc X.env.scope x:=by first|exact Or.inl rfl|exact Or.inr rfl)(hs:swapsWith e (some (.Name x pos')) pos.line X.env=pure false:=by rfl)(hf:X.fn x=true\/X.env.scope.names.lookup x=some .local:=by first|exact .inl rfl|exact .inr rfl|assumption):PS X (.Assign [.Name x pos'] e pos) (y9 te (fE i)):=Ka hN hi hx he hs hf
theorem aX(i:Nat)(hN:X.N.Nodup)(hi:X.N[i]? =some x:=by rfl)(hx:Loc X.env.scope x:=by first|exact Or.inl rfl|exact Or.inr rfl)(hf:X.fn x=true\/X.env.scope.names.lookup x=some .local:=by first|exact .inl rfl|exact .inr rfl|assumption):PG X (.Name x pos) (fE i):=Tp hN hi hx hf
theorem oF (a:Str):[a].Nodup:=by simp
theorem hJ{a b:Str}(h:(a==b)=false):[a,b].Nodup:=by
 have:a≠b:=λz=>by rw[z,Av]at h;cases h
 simp[this]
theorem bA{n:Nat}(h:Nat.ble n 1000=true):n<=sizeLine:=Bv n (Nat.le_of_ble_eq_true h)
end
def GV(mg:bI)(x:Str)(v:V):Prop:=∃u,mg x=some u/\RelV v u
def GT(K:a7)(mg:bI)(x:Str)(vs:List V):Prop:=∃a,GV mg x (.ref a)/\∀H,aK K H a vs
theorem cN{X:Cx}{x:Str}{v:V}{pos:Pos}(hg:Gl X x)(h:GV X.mg x v)(hd:(x==("__debug__":Str))=false:=by decide):PE X (.Name x pos) (tC v):=by obtain⟨u,hm,r⟩:=h;exact Ts hg hm r hd
section
variable {K:a7} {mg:bI} {h:Heap}
theorem lZ{x:Str}{i:Int}{t:Tok}(X:K.In h)(G:h.Ns mainGlobals mg)(a:PySem.W.nsIn K mainGlobals x=some (some (.int i t))):GV mg x (.int i):=⟨_,uv X G a,t,Z⟩
theorem Mq{x:Str}{vs:List V}{b:Addr}{its:Array Value}{n:Nat}{od:Option Addr}{fm:Array (Option Value)}(X:K.In h)(G:h.Ns mainGlobals mg)(a:PySem.W.nsIn K mainGlobals x=some (some (.ref b))) (l:K.lookup b=some ⟨.type "tuple",od,.seq its n,fm⟩)(hz:its.size<=sizeLine)(r:Vals vs its.toList):GT K mg x vs:=⟨b,⟨_,uv X G a,Z⟩,λH=>.inr ⟨_,its,n,l,Z,Z,hz,r⟩⟩
end
section
variable {X:Cx}
end
theorem NA{J:It}{xs:List V}{bs:List Bool}{te:TE}{Q:VK}{D:Addr}{H H0:Hp}(rest:St)(nw:Nw H H0 D (.lst []))(hl:xs.length=bs.length)(hz:xs.length<=1000) (go:∀i x H2,xs[i]? =some x->aA H H2->J.go i H2/\∀y H3,J.gH i H2 y H3->H3=H2/\y=x)(stop:∀H2,aA H H2->J.stop xs.length H2) (hs:∀(i:Nat)(x:V)(b:Bool)(H2:Hp)(Q':VK),xs[i]? =some x->bs[i]? =some b->aA H H2->(∀H3,aA H2 H3->Q' (.bl b) H3)->te (some x::rest) H2 Q') (hq:∀H',aA H H'->H' D=some (.lst (bs.map V.bl))->Q (.ref D) H'):j6 J (fE 0) i9 te Q D (none::rest) H0:=by
 have hD:=nw.no;refine rC xs.length (λi O H2=>aA H H2/\H2 D=some (.lst ((bs.take i).map V.bl))/\∃v,O=v::rest) ?_ ?_ ?_
 ·exact⟨nw.same,nw.at',none,Z⟩
 ·rintro i O H2 hi ⟨s2,d2,v,rfl⟩
  have zx:i<bs.length:=by rw[<-hl];exact hi
  have ex:=bw hi;have eb:=bw zx;obtain⟨g1,g2⟩:=go i _ H2 ex s2;refine⟨g1,λy H3 hy=>?_⟩;obtain⟨rfl,rfl⟩:=g2 y H3 hy;refine uI ?_;refine hs i _ _ _ _ ex eb s2 λH4 s4=>?_;refine⟨_,s4 _ _ d2,?_,xs.length-(i+1),ak,Z,ak,λb o e=>?_,?_,_,Z⟩
  ·rw[bu,kW]
   have:(1000:Nat)<sizeLine:=by decide
   lia
  ·rw[bf (cC e hD)];exact s4 b o (s2 b o e)
  ·rw[bX,rY,eb,i8];rfl
 ·rintro O H2 ⟨s2,d2,v,rfl⟩
  refine⟨stop H2 s2,hq H2 s2 ?_⟩;rw[d2,hl,AG]
theorem zZ{K:a7}{a:Addr}{xs:List V}{bs:List Bool}{te:TE}{Q:VK}{D:Addr}{H H0:Hp}(rest:St)(hx:aK K H a xs)(nw:Nw H H0 D (.lst []))(hl:xs.length=bs.length)(hz:xs.length<=1000) (hs:∀(i:Nat)(x:V)(b:Bool)(H2:Hp)(Q':VK),xs[i]? =some x->bs[i]? =some b->aA H H2->(∀H3,aA H2 H3->Q' (.bl b) H3)->te (some x::rest) H2 Q') (hq:∀H',aA H H'->H' D=some (.lst (bs.map V.bl))->Q (.ref D) H'):j6 (pM K a) (fE 0) i9 te Q D (none::rest) H0:=NA rest nw hl hz (λi x H2 e s=>⟨⟨xs,x,hx.go s,e⟩,λy H3 ⟨e3,y3⟩=>⟨e3,by have:=y3 _ (hx.go s);rw[e]at this;exact(dv this).symm⟩⟩) (λH2 s=>⟨xs,hx.go s,ba _⟩) hs hq
theorem Ld{ds:List af}{f:af->Bool}{i:Nat}{b:Bool}(h:(ds.map f)[i]? =some b):∃d,ds[i]? =some d/\f d=b:=by rw[bN]at h;cases e:ds[i]? with |none=>rw[e]at h;cases h |some d=>rw[e]at h;exact⟨d,Z,dv h⟩
theorem all_map{ds:List af}{f:af->Bool}:(ds.map f).all id=ds.all f:=by rw[List.all_map];rfl
section
variable {X:Cx}
inductive a4K(K:a7)(x:V)(y:V)(H:Hp)(Q:VK):Prop |mk (a:_)(b:_)(xs:_)(ys:_)(h0:x= .ref a)(h1:y= .ref b)(h2:aF K H a xs)(h3:aF K H b ys)(h4:xs.length+ys.length<=sizeLine)(h5:∀p H',Nw H H' p (.lst (xs++ys))->Q (.ref p) H')
def SN(K:a7):R2:=λx y H Q=>a4K K x y H Q
theorem A0(K:a7)(hK:X.K=K):cx X (binaryOp .Add) (SN K):=by
 subst hK;intro aj s O H x y v u Q I rx ry h;obtain⟨a,b,xs,ys,rfl,rfl,ha,hb,hz,q⟩:=h;cases rx;cases ry;obtain⟨its,r1,p1,_⟩:=I.list ha;obtain⟨gf,r2,p2,_⟩:=I.list hb;obtain⟨⟨cls,dd,data,sl⟩,n,ho,hc,hdd,hd⟩:=id p1;obtain⟨⟨NF,ue,data2,sQ⟩,n2,iU,iW,a5R,hd2⟩:=id p2;simp only at hc hd iW hd2;subst hc hd iW hd2;have e:its.toArray++gf.toArray=(its++gf).toArray:=by simp
 refine concat_meets ⟨_,ho,Z⟩ ⟨_,iU,Z⟩ noFill_list_add seq_list_add PySem.F.slot_list_add PySem.F.entry_list_add (PySem.F.args_list_add_2 _ _) (list_addW a b its.toArray gf.toArray n n2 dd ue sl sQ (by rw[cB,cB,<-r1.length,<-r2.length];exact hz)) ⟨ho,iU,?_⟩;rw[e];have nw:Nw H (upd H s.heap.objs.size (.lst (xs++ys))) s.heap.objs.size (.lst (xs++ys)):=.of (I.aW.fresh (ba _));refine⟨.ref s.heap.objs.size,_,I.laid (t':=s.toks) (o:=.lst (xs++ys)) (λb ob q=>bV _ q) (ba _) ?_,Z,q _ _ nw⟩;exact⟨by rw[cD];exact hz,_,0,r1.append r2,dU _ Z⟩
open Classical in
noncomputable def qU(h:Heap)(d:af)(w:Value):Bool:=if q:∃e as,Reads h w e as then PyData.eqv q.choose d else false
theorem a1e{h:Heap}{d e:af}{w:Value}{as:List Addr}(r:Reads h w e as):qU h d w=PyData.eqv e d:=by have q:∃e as,Reads h w e as:=⟨e,as,r⟩;unfold qU;rw[dif_pos q];obtain⟨as',r'⟩:=q.choose_spec;rw[(Reads.unique r' e as r).1]
theorem MU{aj:List (Addr×Obj)}{s:a8}{O:St}{H:Hp}(I:Inv X aj O H s)(hu:X.A.units+65<cLine){x:V}{u:Value}{d:af}(rx:RelV x u)(hd:RD X.K H x d)(sd:SeqAt.shaped d=true): ∀{xs:List V}{us:List Value}{ds:List af},Vals xs us->aC X.K H xs ds->(∀e∈ds,SeqAt.shaped e=true)->(∀w∈us,SeqAt.EqAt X.A.in1 s w u (qU s.heap d w))/\us.any (qU s.heap d)=ds.any λe=>PyData.eqv e d |xs,us,[],rv,h,_=>by cases h.nil_inv;cases rv;exact⟨λ_ h=>(fq h).elim,Z⟩ |xs,us,e::ds,rv,h,se=>by obtain⟨y,ys,rfl,h1,h2⟩:=h.cons_inv;cases rv with |cons ra rb=>
 rename_i w ws;obtain⟨as,q1⟩:=RD.reads I e ra h1;obtain⟨bs,q2⟩:=RD.reads I d rx hd;have key:SeqAt.EqAt X.A.in1 s w u (PyData.eqv e d):=SeqAt.eqAt_reads e d X.A.in1 s w u as bs q1 q2 (SeqAt.canLay_of_shaped (se e (.head _))) (SeqAt.canLay_of_shaped sd) (SeqAt.room_of_shaped (se e (.head _)) (by show X.A.units+1+64<cLine;omega));obtain⟨k1,k2⟩:=MU I hu rx hd sd rb h2 (λe' he=>se e' (.tail _ he));have ew:qU s.heap d w=PyData.eqv e d:=a1e q1;refine⟨λz hz=>?_,?_⟩
 ·rcases dj.mp hz with rfl|hz
  ·rw[ew];exact key
  ·exact k1 z hz
 ·rw[AL,AL,ew,k2]
end
end L2
namespace L2
theorem cS.PY{k:Nat}{A:PySem.Around}(r:cS k A):A.units+65<PySem.cLine:=by have:=r.un;lia
end L2
namespace L2
open PySem PySem.Spec PyProof.Rows
def iB(b:Bool)(h:Heap)(it l:Addr)(k:Nat):Prop:=match b with|true=>h.IsListIter it l k|false=>h.IsTupleIter it l k
def fL(b:Bool)(h:Heap)(l:Addr)(xs:Array Value):Prop:=match b with|true=>h.IsList l xs|false=>h.IsTuple l xs
def pG(b:Bool):String:=match b with|true=>"list_iterator"|false=>"tuple_iterator"
theorem iB.to{b:Bool}{h g:Heap}{it l:Addr}{k:Nat}(x:iB b h it l k)(e:∀o,h.get? it=some o->g.get? it=some o):iB b g it l k:=by cases b<;>(obtain⟨o,ho,r⟩:=x;exact⟨o,e o ho,r⟩)
theorem fL.to{b:Bool}{h g:Heap}{l:Addr}{xs:Array Value}(x:fL b h l xs)(e:∀o,h.get? l=some o->g.get? l=some o):fL b g l xs:=by cases b<;>(obtain⟨o,ho,r⟩:=x;exact⟨o,e o ho,r⟩)
theorem iB.ob{b:Bool}{h:Heap}{it l:Addr}{k:Nat}(x:iB b h it l k):∃o,h.get? it=some o/\o.cls= .type (pG b)/\∀v,o.data≠ .cell v:=by cases b<;>(obtain⟨o,ho,c,d⟩:=x;exact⟨o,ho,c,λv z=>by rw[d]at z;cases z⟩)
section
variable {prog:a9}{w:World}{A:ag}{E:Value->a8->Prop}{s:a8}
theorem tE{b:Bool}{l:Addr}{xs:Array Value}{Q:Value->a8->Prop}(x:fL b s.heap l xs) (q:Q (.ref s.heap.objs.size) {s with heap:=s.heap.push {cls:=.type (pG b),data:=.fields #[.ref l,.int 0 0]}}):wpAny (model prog w) A (pyIter (.ref l)) Q E s:=by
 cases b
 ·exact wpAny_pyIter_tuple x q
 ·exact Am x q
theorem Vt{it t:Addr}{k:Nat}{ts:Array Value}{x:Value}{Q:Value->a8->Prop}(hi:s.heap.IsTupleIter it t k)(ht:s.heap.IsTuple t ts)(hx:ts[k]? =some x) (q:∀g,g.IsTupleIter it t (k+1)->Heap.SameBut it s.heap g->Q x {s with heap:=g}):wpAny (model prog w) A (Builtin.SmallTypes.nextOf (.ref it)) Q E s:=by obtain⟨oi,jo,ci,di⟩:=id hi;obtain⟨ot,Es,_,nt,dt⟩:=ht;unfold Builtin.SmallTypes.nextOf;refine az (xu (name:=Str.ofString "__next__") hi.typeIs Gm (xq Gm hi.typeIs a55 ?_ (a56 _)));show wpAny _ _ (field (.ref it) 0>>=_) _ _ s;refine az (fZ jo di (x:=.ref t) Z ?_);show wpAny _ _ (if(Value.ref t==Value.none)=true then _ else _) _ _ s;rw[aO (show¬((Value.ref t==Value.none)=true)from fQ)];show wpAny _ _ (field (.ref it) 1>>=_) _ _ s;refine az (fZ jo di (x:=.int k 0) Z ?_);show wpAny _ _ (seqItems? (.ref t)>>=_) _ _ s;refine az (nM Es dt ?_);simp only[GD,hx];refine az (Al jo di (by simp) (bc ⟨x,Z,bc (q _ ?_ (Heap.SameBut.update ..))⟩));exact⟨_,AQ _ jo (Pa (AD di _)),(Obj.cls_mapFields ..).trans ci,by rw[AD di];simp[rawInt]⟩
theorem a1h{it t:Addr}{k:Nat}{ts:Array Value}{Q:Value->a8->Prop}(hh:A.handled=none)(hi:s.heap.IsTupleIter it t k)(ht:s.heap.IsTuple t ts)(hx:ts[k]? =none) (q:∀g e,Heap.ExtBut it s.heap g->(∃o,g.get? e=some o/\o.cls= .type "StopIteration")->E (.ref e) {s with heap:=g}):wpAny (model prog w) A (Builtin.SmallTypes.nextOf (.ref it)) Q E s:=by
 obtain⟨oi,jo,ci,di⟩:=id hi;obtain⟨ot,Es,_,nt,dt⟩:=ht;unfold Builtin.SmallTypes.nextOf;refine az (xu (name:=Str.ofString "__next__") hi.typeIs Gm (xq Gm hi.typeIs a55 ?_ (a56 _)));show wpAny _ _ (field (.ref it) 0>>=_) _ _ s;refine az (fZ jo di (x:=.ref t) Z ?_);show wpAny _ _ (if(Value.ref t==Value.none)=true then _ else _) _ _ s;rw[aO (show¬((Value.ref t==Value.none)=true)from fQ)];show wpAny _ _ (field (.ref it) 1>>=_) _ _ s;refine az (fZ jo di (x:=.int k 0) Z ?_);show wpAny _ _ (seqItems? (.ref t)>>=_) _ _ s;refine az (nM Es dt ?_);simp only[GD,hx];refine az (uo (az (Al jo di (by simp) ?_)));show wpAny _ _ (newExc (.type "StopIteration") []>>=_) _ _ _;refine az ?_;simp only[newExc,newTuple];refine az (mx ?_ (by size_fits));refine az (m:=firstArgMember _ _) (rT (a:=Value.none) (by first|rfl|(simp only[firstArgMember];rfl)) ?_);refine mx ?_ (by size_fits);simp only[raiseNew];refine az (wpAny_handled ?_)
 first|rw[show A.in1.handled=none from hh]|rw[hh]
 exact az (bc (wpAny_throw (q _ _ (((Heap.SameBut.update ..).extBut.push _).push _) ⟨_,dU _ Z,Z⟩)))
theorem yO{b:Bool}{it l:Addr}{k:Nat}{xs:Array Value}{x:Value}{Q:Value->a8->Prop}(hi:iB b s.heap it l k)(hl:fL b s.heap l xs)(hx:xs[k]? =some x) (q:∀g,iB b g it l (k+1)->Heap.SameBut it s.heap g->Q x {s with heap:=g}):wpAny (model prog w) A (Builtin.SmallTypes.nextOf (.ref it)) Q E s:=by
 cases b
 ·exact Vt hi hl hx q
 ·exact wpAny_nextOf_list_item hi hl hx q
theorem Fh{b:Bool}{it l:Addr}{k:Nat}{xs:Array Value}{Q:Value->a8->Prop}(hh:A.handled=none)(hi:iB b s.heap it l k)(hl:fL b s.heap l xs)(hx:xs[k]? =none) (q:∀g e,Heap.ExtBut it s.heap g->(∃o,g.get? e=some o/\o.cls= .type "StopIteration")->E (.ref e) {s with heap:=g}):wpAny (model prog w) A (Builtin.SmallTypes.nextOf (.ref it)) Q E s:=by
 cases b
 ·exact a1h hh hi hl hx q
 ·exact wpAny_nextOf_list_end hh hi hl hx q
structure Zp(b1 b2:Bool)(h:Heap)(z TI TO i1 i2 l1 l2:Addr)(f0:Value)(k:Nat):Prop where
 zz:IsZip h z TI TO f0
 ti:IsPair h TI (.ref i1) (.ref i2)
 to:∃a b,IsPair h TO a b
 n1:iB b1 h i1 l1 k
 n2:iB b2 h i2 l2 k
theorem Kq{z TI TO:Addr}{Q:Bool->a8->Prop}(hz:IsZip s.heap z TI TO .none)(q:Q true s):wpAny (model prog w) A (Builtin.SmallTypes.ownedTupleIsFree (.ref z)) Q E s:=by unfold Builtin.SmallTypes.ownedTupleIsFree;exact az (fZ hz Z (x:=.none) Z (bc q))
theorem PD{b1 b2:Bool}{z TI TO i1 i2 l1 l2:Addr}{k:Nat}{xs ys:Array Value}{x y:Value}{Q:Value->a8->Prop}(D:ZipApart z TI TO i1 i2 l1 l2)(a6h:Zp b1 b2 s.heap z TI TO i1 i2 l1 l2 .none k) (lT:fL b1 s.heap l1 xs)(lR:fL b2 s.heap l2 ys)(hx:xs[k]? =some x)(hy:ys[k]? =some y) (q:∀g,Zp b1 b2 g z TI TO i1 i2 l1 l2 (rawInt s.heap.objs.size) (k+1)->IsPair g s.heap.objs.size x y->(∀c o,c≠z->c≠TO->c≠i1->c≠i2->s.heap.get? c=some o->g.get? c=some o)->Q (.ref s.heap.objs.size) {s with heap:=g}): wpAny (model prog w) A (Builtin.«zip.__next__» ⟨[.ref z],[]⟩) (λr s'=>∃v,r= .done (.ret v)/\Q v s') E s:=by
 obtain⟨hz,jS,⟨a,b,kB⟩,h1,h2⟩:=a6h;show wpAny _ _ (field (.ref z) 2>>=_) _ _ _;refine az (fZ hz Z (x:=.bool false) Z ?_);show wpAny _ _ (field (.ref z) 3>>=_) _ _ _;refine az (fZ hz Z (x:=.ref TI) Z (az (nM jS Z ?_)));show wpAny _ _ (Builtin.SmallTypes.ownedTupleIsFree (.ref z)>>=_) _ _ _;refine az (Kq hz ?_);simp only[kT];refine az (uo (az (fZ hz Z (x:=.ref TO) Z (az (xp hz (by simp) λg1 z1 e1=>?_)))));replace z1:IsZip g1 z TI TO .ellipsis:=z1;refine az ?_;simp only[List.zipIdx_cons,List.zipIdx_nil,GC,List.forIn_nil];refine az (az (An ?_));show wpAny _ _ (Builtin.SmallTypes.nextOf (.ref i1)>>=_) _ _ _;refine az (yO (h1.to λo e=>e1.extBut _ _ D.i1z e) (lT.to λo e=>e1.extBut _ _ D.l1z e) hx λg2 n1 e2=>bc ?_);have t2:IsPair g2 TO a b:=e2.extBut _ _ D.TOi1 (e1.extBut _ _ D.TOz kB);refine az (nM t2 Z (az (OK t2 λg3 t3 e3=>?_)));replace t3:IsPair g3 TO x b:=t3;refine az (wpAny_letGo (bc ?_));refine az (az (An ?_));show wpAny _ _ (Builtin.SmallTypes.nextOf (.ref i2)>>=_) _ _ _;refine az (yO (h2.to λo e=>e3.extBut _ _ D.TOi2.symm (e2.extBut _ _ D.i12.symm (e1.extBut _ _ D.i2z e))) (lR.to λo e=>e3.extBut _ _ D.l2TO (e2.extBut _ _ D.l2i1 (e1.extBut _ _ D.l2z e))) hy λg4 n2 e4=>bc ?_);have t4:IsPair g4 TO x b:=e4.extBut _ _ D.TOi2 t3;refine az (nM t4 Z (az (OK t4 λg5 t5 e5=>?_)));replace t5:IsPair g5 TO x y:=t5;refine az (wpAny_letGo (bc (bc ?_)));refine az (nM t5 Z (az (wpAny_newTuple ?_)));have sz:g5.objs.size=s.heap.objs.size:=by rw[e5.1,e4.1,e3.1,e2.1,e1.1]
 have z5:IsZip g5 z TI TO .ellipsis:=e5.extBut _ _ D.TOz.symm (e4.extBut _ _ D.i2z.symm (e3.extBut _ _ D.TOz.symm (e2.extBut _ _ D.i1z.symm z1)));have kp:∀c o,c≠z->c≠TO->c≠i1->c≠i2->s.heap.get? c=some o->g5.get? c=some o:=λc o c1 c2 c3 c4 e=>e5.extBut _ _ c2 (e4.extBut _ _ c4 (e3.extBut _ _ c2 (e2.extBut _ _ c3 (e1.extBut _ _ c1 e))));have m1:iB b1 g5 i1 l1 (k+1):=n1.to λo e=>e5.extBut _ _ D.TOi1.symm (e4.extBut _ _ D.i12 (e3.extBut _ _ D.TOi1.symm e));have m2:iB b2 g5 i2 l2 (k+1):=n2.to λo e=>e5.extBut _ _ D.TOi2.symm e;have AS:z<g5.objs.size:=bS z5;show wpAny _ _ (Builtin.SmallTypes.ownedTupleHandOut (.ref z) (.ref g5.objs.size)>>=_) _ _ _;refine az ?_;unfold Builtin.SmallTypes.ownedTupleHandOut;have z6:IsZip (g5.push {cls:=.type "tuple",data:=.seq #[x,y]}) z TI TO .ellipsis:=bV _ z5;refine az (xp z6 (by simp) λg7 z7 e7=>?_);replace z7:IsZip g7 z TI TO (rawInt g5.objs.size):=z7;refine xp z7 (by simp) λg8 z8 e8=>?_;replace z8:IsZip g8 z TI TO (rawInt g5.objs.size):=z8;have up:∀c o,c≠z->g5.get? c=some o->g8.get? c=some o:=λc o c1 e=>e8.extBut _ _ c1 (e7.extBut _ _ c1 (bV _ e));have t8:IsPair g8 g5.objs.size x y:=e8.extBut _ _ (xC AS) (e7.extBut _ _ (xC AS) (dU _ Z));rw[sz]at z8 t8;refine bc ⟨_,Z,?_⟩;show Q (.ref g5.objs.size) _;rw[sz];exact q g8 ⟨z8,up _ _ D.TIz (kp _ _ D.TIz D.TITO D.TIi1 D.TIi2 jS),⟨_,_,up _ _ D.TOz t5⟩,m1.to λo e=>up _ o D.i1z e,m2.to λo e=>up _ o D.i2z e⟩ t8 λc o c1 c2 c3 c4 e=>up c o c1 (kp c o c1 c2 c3 c4 e)
theorem PF{b1 b2:Bool}{z TI TO i1 i2 l1 l2:Addr}{k:Nat}{xs ys:Array Value}{Q:Fin->a8->Prop}(hh:A.handled=none)(D:ZipApart z TI TO i1 i2 l1 l2)(a6h:Zp b1 b2 s.heap z TI TO i1 i2 l1 l2 .none k) (lT:fL b1 s.heap l1 xs)(lR:fL b2 s.heap l2 ys)(w8:xs[k]? =none\/ys[k]? =none) (q:∀g e,(∀c o,c≠z->c≠TO->c≠i1->c≠i2->s.heap.get? c=some o->g.get? c=some o)->(∃o,g.get? e=some o/\o.cls= .type "StopIteration")->E (.ref e) {s with heap:=g}): wpAny (model prog w) A (Builtin.«zip.__next__» ⟨[.ref z],[]⟩) Q E s:=by obtain⟨hz,jS,⟨a,b,kB⟩,h1,h2⟩:=a6h;show wpAny _ _ (field (.ref z) 2>>=_) _ _ _;refine az (fZ hz Z (x:=.bool false) Z ?_);show wpAny _ _ (field (.ref z) 3>>=_) _ _ _;refine az (fZ hz Z (x:=.ref TI) Z (az (nM jS Z ?_)));show wpAny _ _ (Builtin.SmallTypes.ownedTupleIsFree (.ref z)>>=_) _ _ _;refine az (Kq hz ?_);simp only[kT];refine az (uo (az (fZ hz Z (x:=.ref TO) Z (az (xp hz (by simp) λg1 z1 e1=>?_)))));replace z1:IsZip g1 z TI TO .ellipsis:=z1;refine az ?_;simp only[List.zipIdx_cons,List.zipIdx_nil,GC,List.forIn_nil];refine az (az (An ?_));show wpAny _ _ (Builtin.SmallTypes.nextOf (.ref i1)>>=_) _ _ _;have j1:=h1.to λo e=>e1.extBut _ _ D.i1z e;have k1:=lT.to λo e=>e1.extBut _ _ D.l1z e;cases hx:xs[k]? with
 |none=>
  refine az (Fh hh j1 k1 hx λg2 er e2 ⟨oe,qF,wg⟩=>?_);have z2:IsZip g2 z TI TO .ellipsis:=e2 _ _ D.i1z.symm z1;have nz:er≠z:=λv=>by subst v;rw[z2]at qF;cases qF;simp at wg
  refine xp z2 (by simp) λg3 _ e3=>q g3 er (λc o c1 _ c3 _ v=>e3.extBut _ _ c1 (e2 _ _ c3 (e1.extBut _ _ c1 v))) ⟨oe,e3.extBut _ _ nz qF,wg⟩ |some x=>
  have hy:ys[k]? =none:=by rcases w8 with h|h;rw[hx]at h;cases h;exact h
  refine az (yO j1 k1 hx λg2 n1 e2=>bc ?_);have t2:IsPair g2 TO a b:=e2.extBut _ _ D.TOi1 (e1.extBut _ _ D.TOz kB);refine az (nM t2 Z (az (OK t2 λg3 t3 e3=>?_)));refine az (wpAny_letGo (bc ?_));refine az (az (An ?_));show wpAny _ _ (Builtin.SmallTypes.nextOf (.ref i2)>>=_) _ _ _;refine az (Fh hh (h2.to λo e=>e3.extBut _ _ D.TOi2.symm (e2.extBut _ _ D.i12.symm (e1.extBut _ _ D.i2z e))) (lR.to λo e=>e3.extBut _ _ D.l2TO (e2.extBut _ _ D.l2i1 (e1.extBut _ _ D.l2z e))) hy λg4 er e4 ⟨oe,qF,wg⟩=>?_);have z4:IsZip g4 z TI TO .ellipsis:=e4 _ _ D.i2z.symm (e3.extBut _ _ D.TOz.symm (e2.extBut _ _ D.i1z.symm z1));have nz:er≠z:=λv=>by subst v;rw[z4]at qF;cases qF;simp at wg
  refine xp z4 (by simp) λg5 _ e5=>q g5 er (λc o c1 c2 c3 c4 v=>e5.extBut _ _ c1 (e4 _ _ c4 (e3.extBut _ _ c2 (e2.extBut _ _ c3 (e1.extBut _ _ c1 v))))) ⟨oe,e5.extBut _ _ nz qF,wg⟩
abbrev xQ(b1:Bool)(h:Heap)(l1:Addr):Heap:=h.push {cls:=.type (pG b1),data:=.fields #[.ref l1,.int 0 0]}
abbrev xP(b1 b2:Bool)(h:Heap)(l1 l2:Addr):Heap:=(xQ b1 h l1).push {cls:=.type (pG b2),data:=.fields #[.ref l2,.int 0 0]}
abbrev xO(b1 b2:Bool)(h:Heap)(l1 l2:Addr):Heap:=(xP b1 b2 h l1 l2).push {cls:=.type "tuple",data:=.seq #[.ref h.objs.size,.ref (xQ b1 h l1).objs.size]}
abbrev xN(b1 b2:Bool)(h:Heap)(l1 l2:Addr):Heap:=(xO b1 b2 h l1 l2).push {cls:=.type "tuple",data:=.seq #[.none,.none]}
abbrev sx(b1 b2:Bool)(h:Heap)(l1 l2:Addr):Heap:=(xN b1 b2 h l1 l2).push {cls:=.type "zip",data:=.fields #[.none,.bool false,.bool false,.ref (xP b1 b2 h l1 l2).objs.size,.ref (xO b1 b2 h l1 l2).objs.size]}
theorem PC(b1 b2:Bool)(l1 l2:Addr)(xs ys:Array Value):Meets (Builtin.«zip.__new__» ⟨[.type "zip",.ref l1,.ref l2],[]⟩) (λ_ R s=>fL b1 s.heap l1 xs/\fL b2 s.heap l2 ys/\R (.ok (.ret (.ref (xN b1 b2 s.heap l1 l2).objs.size))) {s with heap:=sx b1 b2 s.heap l1 l2}):=.of_wp λprog w A R s h=>by
 obtain⟨hp,gg,d,tk,os⟩:=s;obtain⟨lT,lR,h⟩:=h;have En:=sub_zip;have Zi:fL b1 (Shared.heap ⟨hp,gg,d,tk,os⟩) l1 xs:=lT;have qR:fL b2 (Shared.heap ⟨hp.push {cls:=.type (pG b1),data:=.fields #[.ref l1,.int 0 0]},gg,d,tk,os⟩) l2 ys:=lR.to λo e=>bV _ e
 wp_walk using tE Zi,tE qR;exact⟨_,Z,h⟩
theorem PH{b1 b2:Bool}{l1 l2:Addr}{xs ys:Array Value}{Q:Value->a8->Prop}(lT:fL b1 s.heap l1 xs)(lR:fL b2 s.heap l2 ys) (q:∀g,Zp b1 b2 g (s.heap.objs.size+4) (s.heap.objs.size+2) (s.heap.objs.size+3) s.heap.objs.size (s.heap.objs.size+1) l1 l2 .none 0->(∀c o,s.heap.get? c=some o->g.get? c=some o)->Q (.ref (s.heap.objs.size+4)) {s with heap:=g}): wpAny (model prog w) A (call (.type "zip") [.ref l1,.ref l2]) Q E s:=by
 refine callType_new PySem.F.called_zip au (PySem.F.typeCall_zip_2 _ _) (PySem.F.newCall_zip_2 _ _) (λobj=>PySem.F.args_object_init_3 obj _ _) PySem.F.entry_zip_new (PC b1 b2 l1 l2 xs ys) ⟨lT,lR,?_⟩;have z1:(xQ b1 s.heap l1).objs.size=s.heap.objs.size+1:=pW ..;have z2:(xP b1 b2 s.heap l1 l2).objs.size=s.heap.objs.size+2:=by rw[pW,z1]
 have z3:(xO b1 b2 s.heap l1 l2).objs.size=s.heap.objs.size+3:=by rw[pW,z2]
 have z4:(xN b1 b2 s.heap l1 l2).objs.size=s.heap.objs.size+4:=by rw[pW,z3]
 have g5:(sx b1 b2 s.heap l1 l2).get? (xN b1 b2 s.heap l1 l2).objs.size=some _:=dU _ rfl;have g4:(sx b1 b2 s.heap l1 l2).get? (xO b1 b2 s.heap l1 l2).objs.size=some _:=bV _ (dU _ Z);have g3:(sx b1 b2 s.heap l1 l2).get? (xP b1 b2 s.heap l1 l2).objs.size=some _:=bV _ (bV _ (dU _ Z));have g2:(sx b1 b2 s.heap l1 l2).get? (xQ b1 s.heap l1).objs.size=some _:=bV _ (bV _ (bV _ (dU _ Z)));have g1:(sx b1 b2 s.heap l1 l2).get? s.heap.objs.size=some _:=bV _ (bV _ (bV _ (bV _ (dU _ Z))));show _/\_;rw[z2,z3,z4]at g5;rw[z1,z2]at g3;rw[z3]at g4;rw[z1]at g2;rw[z4];refine⟨⟨_,g5,Z⟩,q _ ⟨g5,g3,⟨_,_,g4⟩,?_,?_⟩ λc o e=>bV _ (bV _ (bV _ (bV _ (bV _ e))))⟩
 ·cases b1<;>exact⟨_,g1,rfl,rfl⟩
 ·cases b2<;>exact⟨_,g2,rfl,rfl⟩
end
section
variable {X:Cx}{aj:List (Addr×Obj)}{O:St}{H:Hp}{s:a8}{h':Heap}
theorem Inv.uL{t':Nat}{fp:List Addr}(I:Inv X aj O H s)(k:∀b o,b∉fp->s.heap.get? b=some o->h'.get? b=some o)(hf:∀b∈fp,i7 X aj H b):Inv X aj O H {s with heap:=h',toks:=t'}:=by
 have vI:∀b u,H b=some u->b∉fp:=λb u e z=>by rw[(hf b z).1]at e;cases e
 have hL:X.env.locals∉fp:=λz=>(hf _ z).2.1 rfl;refine I.step (g':=s.gens) (d':=s.drawn) (ch:=fp) (λb hb=>?_) (λb o _ _ hc e _=>k b o hc e) (λb o _ _ hc e _=>⟨o.slots,k b o hc e⟩) (λ_ _ _ _ n=>n) (λb o hc e=>⟨o,k b o hc e⟩) (λ_ _ e=>e) (λ_ _ _ e=>e) (λb ps e=>⟨#[],by rw[e];simp⟩) (λm hm=>?_) (λb u e=>?_) I.bare
 ·obtain⟨f0,f1,f2,f3,f4,f5⟩:=hf b hb
  exact⟨f3,f1,f4,f5⟩
 ·obtain⟨o,es,ep,ho,r⟩:=hm
  exact⟨o,es,ep,k _ o hL ho,r⟩
 ·refine(I.aW b u e).jH (λc v hc q=>k c v ?_ q) (λ_ q=>q) λ_ _ q=>q
  rcases hc with z|z
  ·rw[z];exact vI b u e
  ·exact vI c _ z
end
def dJ(b:Bool)(K:a7)(H:Hp)(a:Addr)(xs:List V):Prop:=match b with|true=>aF K H a xs|false=>aK K H a xs
theorem dJ.get{X:Cx}{aj:List (Addr×Obj)}{O:St}{H:Hp}{s:a8}{b:Bool}{a:Addr}{xs:List V}(I:Inv X aj O H s)(h:dJ b X.K H a xs):∃its:List Value,Vals xs its/\fL b s.heap a its.toArray:=by
 cases b
 ·obtain⟨its,r,p,_⟩:=I.tuple h;exact⟨its,r,p⟩
 ·obtain⟨its,r,p,_⟩:=I.list h;exact⟨its,r,p.isList⟩
theorem dJ.inj{X:Cx}{aj:List (Addr×Obj)}{O:St}{H:Hp}{s:a8}{b:Bool}{a:Addr}{xs ys:List V}(I:Inv X aj O H s)(h:dJ b X.K H a xs)(g:dJ b X.K H a ys):xs=ys:=by
 cases b
 ·exact I.GY h g
 ·exact I.Ls h g
def rP(K:a7)(b1 b2:Bool)(l1 l2:Addr):It:=⟨λi H=>∃xs ys x y,dJ b1 K H l1 xs/\dJ b2 K H l2 ys/\xs[i]? =some x/\ys[i]? =some y,λi H v H'=>∃T x y,v= .ref T/\(∀xs,dJ b1 K H l1 xs->xs[i]? =some x)/\(∀ys,dJ b2 K H l2 ys->ys[i]? =some y)/\Nw H H' T (.tup [x,y]),λi H=>∃xs ys,dJ b1 K H l1 xs/\dJ b2 K H l2 ys/\(xs.length<=i\/ys.length<=i)⟩
theorem Q6{P:a9}{w:World}{K:a7}{elts:List Expr}{kt:Nat}{pos:Pos}{b1 b2:Bool}{z TI TO i1 i2 l1 l2:Addr}(D:ZipApart z TI TO i1 i2 l1 l2): Turn P w K (.Tuple elts kt pos) (rP K b1 b2 l1 l2) [z,TI,TO,i1,i2] z (λi h=>Zp b1 b2 h z TI TO i1 i2 l1 l2 .none i) where
 mem:=by simp
 obj:=λi h st b hb=>by
  obtain⟨hz,jS,⟨a,c,kB⟩,h1,h2⟩:=st;simp only[dj,fq,kS]at hb;rcases hb with rfl|rfl|rfl|rfl|rfl
  ·exact⟨_,hz,λv e=>by cases e⟩
  ·exact⟨_,jS,λv e=>by cases e⟩
  ·exact⟨_,kB,λv e=>by cases e⟩
  ·obtain⟨o,e,_,n⟩:=h1.ob;exact⟨o,e,n⟩
  ·obtain⟨o,e,_,n⟩:=h2.ob;exact⟨o,e,n⟩
 keep:=λi h h' st k=>by obtain⟨hz,jS,⟨a,c,kB⟩,h1,h2⟩:=st;exact⟨k z (by simp) _ hz,k TI (by simp) _ jS,⟨a,c,k TO (by simp) _ kB⟩,h1.to λo e=>k i1 (by simp) o e,h2.to λo e=>k i2 (by simp) o e⟩
 item:=by
  intro X hP hw hK hc i aj s O H E I hf st hg;subst hP hw hK;obtain⟨xs,ys,x,y,q1,q2,e1,e2⟩:=hg;obtain⟨Ee,r1,p1⟩:=q1.get I;obtain⟨gf,r2,p2⟩:=q2.get I;obtain⟨u1,El,ie⟩:=r1.get e1;obtain⟨u2,X9,mJ⟩:=r2.get e2;have hT:s.TypeIs (.ref z) "zip":=⟨_,st.zz,Z⟩;unfold pyNext;refine az (Ap (xu (name:=Str.ofString "__next__") hT Gk (xq Gk hT PySem.F.entry_zip_next (PD D st p1 p2 (x:=u1) (y:=u2) (by simpa using El) (by simpa using X9) λg zg tg kp=>bc ?_) (PySem.F.args_zip_next_1 _))));refine⟨_,Z,?_⟩;refine wpAny_letOwnedTupleGo_zip zg.zz λg' Py sb=>?_;have hs:=sb.extBut;have AS:z<s.heap.objs.size:=bS st.zz;have nw:Nw H (upd H s.heap.objs.size (.tup [x,y])) s.heap.objs.size (.tup [x,y]):=.of (I.aW.fresh (ba _));have I1:Inv X aj O (upd H s.heap.objs.size (.tup [x,y])) {s with heap:=s.heap.push {cls:=.type "tuple",data:=.seq #[u1,u2]}}:=I.laid (t':=s.toks) (λb ob q=>bV _ q) (ba _) ⟨by show 2<=sizeLine;decide,[u1,u2],.cons ie (.cons mJ .nil),⟨_,dU _ Z,Z,_,Z⟩⟩;have DZ:∀b∈[z,TI,TO,i1,i2],b<s.heap.objs.size:=λb hb=>by
   simp only[dj,fq,kS]at hb;obtain⟨hz,jS,⟨a,c,kB⟩,h1,h2⟩:=st;rcases hb with rfl|rfl|rfl|rfl|rfl
   ·exact bS hz
   ·exact bS jS
   ·exact bS kB
   ·obtain⟨o,e,_⟩:=h1.ob;exact bS e
   ·obtain⟨o,e,_⟩:=h2.ob;exact bS e
  have hn:∀b∈[z,TI,TO,i1,i2],upd H s.heap.objs.size (.tup [x,y]) b=none:=λb hb=>by rw[bf (dw (DZ b hb))];exact(hf b hb).1
  have I2:Inv X aj O (upd H s.heap.objs.size (.tup [x,y])) {s with heap:=g'}:=Inv.uL (s:={s with heap:=s.heap.push {cls:=.type "tuple",data:=.seq #[u1,u2]}}) (t':=s.toks) (fp:=[z,TI,TO,i1,i2]) I1 (λb o hb e=>by
   have e:(s.heap.push {cls:=.type "tuple",data:=.seq #[u1,u2]}).get? b=some o:=e;have nz:b≠z:=λq=>hb (by simp[q]);rcases Pt e with⟨EK,rfl⟩|e'
   ·subst EK
    exact hs _ _ nz tg
   ·exact hs _ _ nz (kp b o nz (λq=>hb (by simp[q])) (λq=>hb (by simp[q])) (λq=>hb (by simp[q])) e')) (λb hb=>by obtain⟨f0,f1,f2,f3,f4,f5⟩:=hf b hb;exact⟨hn b hb,f1,f2,f3,f4,f5⟩);refine⟨.ref s.heap.objs.size,_,I2,Z,⟨s.heap.objs.size,x,y,Z,λzs hz=>?_,λzs hz=>?_,nw⟩,?_,hn⟩
  ·rw[dJ.inj I hz q1];exact e1
  ·rw[dJ.inj I hz q2];exact e2
  ·obtain⟨_,jS,⟨a,c,kB⟩,h1,h2⟩:=zg
   exact⟨Py,hs _ _ D.TIz jS,⟨a,c,hs _ _ D.TOz kB⟩,h1.to λo e=>hs _ o D.i1z e,h2.to λo e=>hs _ o D.i2z e⟩
 done:=by intro X hP hw hK hc i aj s O H E I hf st hg;subst hP hw hK;obtain⟨xs,ys,q1,q2,w8⟩:=hg;obtain⟨Ee,r1,p1⟩:=q1.get I;obtain⟨gf,r2,p2⟩:=q2.get I;have hT:s.TypeIs (.ref z) "zip":=⟨_,st.zz,Z⟩;have l1:=r1.length;have l2:=r2.length;unfold pyNext;refine az (Ap (xu (name:=Str.ofString "__next__") hT Gk (xq Gk hT PySem.F.entry_zip_next (PF (I.ok.hd hc) D st p1 p2 (w8.imp (λh=>by simp;lia) λh=>by simp;lia) λg e kp he=>?_) (PySem.F.args_zip_next_1 _))));obtain⟨o,ho,qM⟩:=he;refine az (wpAny_isInstance (T:="StopIteration") (b:=true) ⟨o,ho,qM⟩ isSubtype_stop (bc ⟨Z,?_⟩));exact I.uL (t':=s.toks) (fp:=[z,TI,TO,i1,i2]) (λb o hb e=>kp b o (λq=>hb (by simp[q])) (λq=>hb (by simp[q])) (λq=>hb (by simp[q])) (λq=>hb (by simp[q])) e) hf
 self:=λ_ _ _ _ _ st h=>wpAny_pyIter_zip st.zz h
inductive a4N(K:a7)(b1:Bool)(b2:Bool)(R:It->Hp->Prop)(vs:List V)(H1:Hp):Prop |mk (l1:_)(l2:_)(h0:vs=[.ref l1,.ref l2])(h1:(∃xs,dJ b1 K H1 l1 xs))(h2:(∃ys,dJ b2 K H1 l2 ys))(h3:R (rP K b1 b2 l1 l2) H1)
def X0(K:a7)(b1 b2:Bool)(ta:TA):TI:=λO H R=>ta O H λvs H1=>a4N K b1 b2 R vs H1
theorem mP(K:a7){X:Cx}(hK:X.K=K)(b1 b2:Bool){elts:List Expr}{kt:Nat}{sF:Pos}{a b:Expr}{ta:TA}{p pos:Pos}(hg:Gl X "zip")(hm:X.mg "zip"=none)(ha:PA X [a,b] ta)(hs:starEach [a,b] X.env=[(false,eval a X.env),(false,eval b X.env)]:=by rfl)(ik:starEach [b] X.env=[(false,eval b X.env)]:=by rfl): PI X (.Tuple elts kt sF) (.Call (.Name "zip" p) [a,b] [] pos) (X0 K b1 b2 ta):=by
 subst hK;intro aj s O H R I h;refine Call_ (oM I hg hm PyProof.Rows.boot_zip (xA (aL (ha pos aj s O H _ I h) λus s1 ⟨vs,H1,I1,r1,q1⟩=>?_) (by rw[hs,ik]) (by rw[ik];rfl)));obtain⟨l1,l2,e,⟨xs,h1⟩,⟨ys,h2⟩,q⟩:=q1;subst e;obtain⟨u1,u2,rfl,ie,mJ⟩:=vals2 r1;cases(show u1=Value.ref l1 from ie);cases(show u2=Value.ref l2 from mJ);obtain⟨Ee,v1,p1⟩:=h1.get I1;obtain⟨gf,v2,p2⟩:=h2.get I1;have a1:l1<s1.heap.objs.size:=by cases b1<;>(obtain⟨o,e,_⟩:=p1;exact bS e)
 have a2:l2<s1.heap.objs.size:=by cases b2<;>(obtain⟨o,e,_⟩:=p2;exact bS e)
 refine PH p1 p2 λg zg kp=>wpAny_pyIter_zip zg.zz ?_;refine⟨_,_,_,_,H1,Z,I1.kept (t':=s1.toks) kp,Q6 (zipApart_new a1 a2),zg,λc hc=>?_,q⟩;have hle:s1.heap.objs.size<=c:=by simp only[dj,fq,kS]at hc;rcases hc with rfl|rfl|rfl|rfl|rfl<;>first|exact ba _|exact Pb _ _
 exact I1.p9 hle (I1.aW.fresh hle)
theorem dJ.go{b:Bool}{K:a7}{H H':Hp}{a:Addr}{xs:List V}(s:aA H H')(h:dJ b K H a xs):dJ b K H' a xs:=by
 cases b
 ·exact aK.go s h
 ·exact aF.go s h
theorem eO.there{P:a9}{w:World}{H:Hp}{h:Heap}{a:Addr}{o:HO}(x:eO P w H h a o):∃ob,h.get? a=some ob:=by induction o with |lst xs=>obtain⟨_,_,_,_,e⟩:=x;exact⟨_,e⟩ |tup xs=>obtain⟨_,_,_,ob,e,_⟩:=x;exact⟨ob,e⟩ |dK dh=>obtain⟨_,_,_,_,ob,_,_,e,_⟩:=x;exact⟨ob,e⟩ |dT dh=>obtain⟨_,_,_,_,ob,_,_,e,_⟩:=x;exact⟨ob,e⟩ |set S n=>obtain⟨ob,_,_,_,e,_⟩:=x;exact⟨ob,e⟩ |ins C dx fs=>obtain⟨_,_,_,e,_⟩:=x;exact⟨_,e⟩ |own y=>exact x |xd fs=>obtain⟨_,⟨ob,_,_,e,_⟩,_⟩:=x;exact⟨ob,e⟩ |qj lo hi=>obtain⟨_,_,_,e⟩:=x;exact⟨_,e⟩ |kE ob u=>exact⟨_,x.1⟩ |nU ps=>exact⟨_,x⟩ |met f y=>exact⟨_,x⟩ |ext φ=>exact x.2.1
structure Fl(P:a9)(w:World)(outer:List Env)(H:Hp)(h₁:Heap)(ex:Addr)(H':Hp)(B h:Heap):Prop where
 un:Un (eg outer) [] H H' h₁ h
 aW:dg P w H' h
 k1:∀b o,h₁.get? b=some o->H b=none->b∉eg outer->B.get? b=some o
 k2:∀b o,H' b=some o->∃ob,B.get? b=some ob
 k3:∀b o,h₁.get? b=some o->b∉eg outer->∃ob,B.get? b=some ob
 fr:∀b∈eg outer,H' b=none
 nw:h₁.get? ex=none
 ne:H' ex=none
theorem Fl.step{P:a9}{w:World}{outer:List Env}{H H':Hp}{h₁ B h h':Heap}{ex:Addr}{ao:Heap}(F:Fl P w outer H h₁ ex H' B h)(st:B.StaysIn h)(gn:B.StaysIn h')(up:h.UpToSlots h')(ff:h.FunFrames ao outer):Fl P w outer H h₁ ex H' B h':=by
 have slot:∀b o,h₁.get? b=some o->H b=none->b∈eg outer->∃sl,h'.get? b=some {o with slots:=sl}:=λb o e n hb=>by obtain⟨sl,e1⟩:=F.un.slot b o e n hb (by simp);obtain⟨_,o2,e2,hd⟩:=ff.mem hb;rw[e1]at e2;cases e2;obtain⟨Bw,e3⟩:=up b _ e1 (λvs=>hd vs);exact⟨Bw,e3⟩
 refine⟨⟨λb o e n hb _=>gn b o (F.k1 b o e n hb),λb o e n hb _=>slot b o e n hb,F.un.free,λb o e hx=>?_,F.un.iI,F.un.ir,F.un.iJ⟩,λb u e=>?_,F.k1,F.k2,F.k3,F.fr,F.nw,F.ne⟩
 ·by_cases hb:b∈eg outer
  ·obtain⟨_,o2,e2,hd⟩:=ff.mem hb
   obtain⟨sl,e3⟩:=up b o2 e2 hd;exact⟨_,e3⟩
  ·obtain⟨ob,e1⟩:=F.k3 b o e hb
   exact⟨ob,gn b ob e1⟩
 ·refine(F.aW b u e).jH (λc v hc q=>?_) (λ_ q=>q) λ_ _ q=>q
  have WX:∃ob,B.get? c=some ob:=by
   rcases hc with z|z
   ·rw[z];exact F.k2 b u e
   ·exact F.k2 c _ z
  obtain⟨ob,e1⟩:=WX;have e2:=st c ob e1;rw[q]at e2;cases e2;exact gn c _ e1
section
variable {P:a9}{w:World}{K:a7}{mg:bI}{ao:Heap}{N:List Str}{qual:Str}{scope:Scope}{f:Addr}{cd:Value}{A:ag}{outer:List Env}{s:a8}{H:Hp}{E:XK}{aj:List (Addr×Obj)}{O:St}{H1:Hp}{s1:a8}{h2:Heap}{ex:Addr}{cls:Value}{vs:List Value}
end
structure Exc(K:a7)(mg:bI)(x:Str)(C:Addr)(eL:List Value)(newId:String):Prop where
 at':mg x=some (.ref C)
 ok:PySem.W.excIn K C eL newId=true
theorem Exc.own{K:a7}{mg:bI}{x:Str}{C:Addr}{eL:List Value}{newId:String}{h:Heap}(e:Exc K mg x C eL newId)(X:K.In h):OwnCls x C eL newId mg h:=by
 refine⟨e.at',?_⟩;have q:=e.ok;unfold PySem.W.excIn at q;split at q
 ·rename_i dd cd sl ho
  split at q
  ·rename_i D2 bl a0 a1 a2 a3 nn a5 hm hs
   simp only[eB,eF,Pw]at q;obtain⟨⟨⟨⟨⟨r1,r2⟩,wa⟩,ht⟩,aW⟩,vV⟩:=q;subst r1 r2;obtain⟨c1,c2,c3,c4,c5,c6,c7,c8,c9,FH,c11⟩:=cd;dsimp only at hm wa aW vV;subst hm wa;obtain⟨l⟩:=sl;simp only at hs;subst hs;exact⟨bl,c4,c1,c5,c2,c6,c7,c8,c9,FH,dd,a0,a1,a2,a3,a5,_,X _ _ ho,.of_isNs (PySem.W.isNs_of_in X aW),PySem.W.nsMap_none_of_in X aW vV,PySem.W.tail_of_in X ht⟩
  ·cases q
 ·cases q
section
variable {X:Cx}{x:Str}{C:Addr}{eL:List Value}{newId tL B:String}{e:Expr}{t:TA}{np dm pos:Pos}
end
section
variable {M:Model}{A:ag}{Ex:Value->a8->Prop}
theorem a14{h:Heap}{g:Array GenState}{d:Drawn}{tk:Nat}{os:OsState}{e:Addr}{oe:Obj}{Q:Bool->a8->Prop}{C D N N':Addr}{nm KI q q':Str}{bs NL bm FL:List Value}{hdct Mc:Bool}{sn Ic:List Str}{sub Hq:List Value}{ab Oh:Bool}{col ND:Option Bool}{dd Nq:Option Addr}{k0 k1 k2 k3 k5 j0 j1 j2 j3 j5:Option Value}{newId VL:String} (hC:h.get? C=some (excClassObj nm q C N bs bm hdct sn sub ab col dd k0 k1 k2 k3 k5 newId))(hD:h.get? D=some (excClassObj KI q' D N' NL FL Mc Ic Hq Oh ND Nq j0 j1 j2 j3 j5 VL)) (he:h.get? e=some oe)(wc:oe.cls= .ref C)(hb:FL.contains (.type "BaseException")=true)(hs:(Value.ref C::bm).contains (.ref D)=true) (hq:Q true ⟨h,g,d,tk,os⟩):wpAny M A (excMatches (.ref e) (.ref D)) Q Ex ⟨h,g,d,tk,os⟩:=by
 have Yp:(Value.ref D::FL).contains (.type "BaseException")=true:=by rw[Pk,hb,Bool.or_true]
 have f:=tc_notTuple;unfold excMatches
 repeat (first|(with_reducible refine rV he ?_;rw[wc])|with_reducible refine rV hD ?_|(with_reducible refine Ga hD ?_;rw[Yp])|(with_reducible refine Ga hC ?_;rw[hs])|with_reducible refine rV hC ?_|wp_step)
 exact hq
end
section
variable {X:Cx}{k:Nat}{x:Str}{p pos:Pos}{e:Expr}{es:List Expr}{t:TA}{sp:Sp}
end
abbrev Cx.hand(X:Cx)(ex:Addr):Cx:={X with A:=X.A.mark (some (.ref ex)),calm:=false,xe:=λ_ _=>False}
section
variable {X:Cx}{aj:List (Addr×Obj)}{O:St}{H:Hp}{s:a8}
theorem Inv.hand(I:Inv X aj O H s)(ex:Addr):Inv (X.hand ex) aj O H s:=⟨⟨I.ok.mod,I.ok.kind,I.ok.glob,I.ok.blt,I.ok.above,I.ok.inj,I.ok.has,I.ok.pI,λh=>(fQ h).elim,I.ok.frames,I.ok.qc,I.ok.wA,I.ok.bs,I.ok.jy,I.ok.oE,I.ok.m6,I.ok.hX,I.ok.kF⟩,I.os,I.bare,I.ao,I.loc,I.cell,I.free,I.iu,I.pin,I.aW,I.len⟩
theorem Inv.back{ex:Addr}(ok:X.Ok)(I:Inv (X.hand ex) aj O H s):Inv X aj O H s:=⟨ok,I.os,I.bare,I.ao,I.loc,I.cell,I.free,I.iu,I.pin,I.aW,I.len⟩
theorem PZ{M:Model}{A:ag}{E:Value->a8->Prop}{i:Nat}{x:Str}{v:V}{pos:Pos}{Q:Unit->a8->Prop}(I:Inv X aj O H s)(hN:X.N.Nodup)(hi:X.N[i]? =some x)(hk:X.env.kindOf x=some .local)(hs:X.env.scope.names.lookup x=some .local) (hv:O[i]? =some (some v))(h:∀s',Inv X aj (O.set i none) H s'->Q () s'):wpAny M A (unbindBehindTheSuite X.env x pos) Q E s:=by
 obtain⟨m,hn,hl⟩:=id I.loc;have wc:(X.env.scope.kind== .class||(X.env.scope.kind== .module&&X.env.locals !=X.env.globals))=false:=by rw[I.ok.kind];rfl
 have zw:i<O.length:=by rw[I.len];exact(cy.mp hi).1
 have iY:=I.iY;obtain⟨u,r,look⟩:=hl i x v hi hv (.inl hs);have hm:m x=some u:=by
  rcases look with⟨_,e⟩|⟨k,_⟩
  ·exact e
  ·rcases k with k|k<;>(rw[hk]at k;cases k)
 unfold unbindBehindTheSuite;refine An (wpAny_unbindName_local hk hn hm wc λh' u' Ez nh=>?_);obtain⟨oL,_,_,LY,_⟩:=id hn;have tr:dg X.prog X.w H h':=λb ob e=>by
  refine(I.aW b ob e).jH (λc w' hc q=>(nh.2 c ?_).trans q) (λ_ q=>q) λ_ _ q=>q;rintro rfl;rcases hc with rfl|hc
  ·rw[I.free]at e;cases e
  ·rw[I.free]at hc;cases hc
 have lt:∀b o,X.s₀.heap.get? b=some o->b≠X.env.locals:=λb o e=>dw (fH (bS e) I.ok.above);refine h _ ⟨I.ok,I.os,I.bare,⟨λb o e n hb hx=>(nh.2 b (lt b o e)).trans (I.ao.keep b o e n hb hx),λb o e n hb hx=>?_,I.ao.free,λb o e hx=>?_,I.ao.iI,I.ao.ir,I.ao.iJ⟩,⟨_,Ez,λj y v' e1 e2 e3=>?_⟩,λy c e=>?_,I.free,I.iu,λp hp=>?_,tr,by simpa using I.len⟩
 ·obtain⟨sl,e1⟩:=I.ao.slot b o e n hb hx
  exact⟨sl,(nh.2 b (lt b o e)).trans e1⟩
 ·obtain⟨o',e1⟩:=I.ao.there b o e hx
  exact⟨o',(nh.2 b (lt b o e)).trans e1⟩
 ·by_cases hj:j=i
  ·subst hj
   rw[xF zw]at e2;cases e2
  ·rw[GB (iD hj)]at e2
   obtain⟨u2,r2,q⟩:=hl j y v' e1 e2 e3;refine⟨u2,r2,?_⟩;rcases q with⟨k,e⟩|⟨k,c,e,z⟩
   ·have:y≠x:=λe=>hj (DJ hN e1 (e▸hi))
    exact .inl ⟨k,by simp[this,e]⟩
   ·exact .inr ⟨k,c,e,z.sameBut nh (iY y c e)⟩
 ·obtain⟨w',z⟩:=I.cell y c e
  exact⟨w',z.sameBut nh (iY y c e)⟩
 ·obtain⟨e,n,ne,nf,d⟩:=I.pin p hp
  exact⟨(nh.2 p.1 ne).trans e,n,ne,nf,d⟩
end
def mq(X:Cx)(st:List Stmt)(t:TS):Prop:=∀(s:a8)(O:St)(H:Hp)(D:Ends),Inv X [] O H s->t D O H->wpAny (model X.prog X.w) X.A (execs st X.env) (SP X [] D) X.xe s
def Oy(X:Cx)(st:Stmt)(t:TS):Prop:=∀(s:a8)(O:St)(H:Hp)(D:Ends),Inv X [] O H s->t D O H->wpAny (model X.prog X.w) X.A (exec st X.env) (SP X [] D) X.xe s
theorem Inv.a2u{X:Cx}{aj:List (Addr×Obj)}{O:St}{H:Hp}{s:a8}(I:Inv X aj O H s):Inv X [] O H s:=⟨I.ok,I.os,I.bare,I.ao,I.loc,I.cell,I.free,I.iu,λp hp=>I.pin p (Pe _ (by simpa using hp)),I.aW,I.len⟩
theorem ZN{CX:iC}{P:a9}{w:World}{K:a7}{mg:bI}{ao:Heap}{k:Nat}{f:Addr}{name qual:Str}{params:Arguments}{body:List Stmt}{scope:Scope}{dV kV doc pm aH ct oc:Value}{an od:Option Addr} {fm:Array (Option Value)}{N ps:List Str}{sp:Sp}(lk:K.lookup f=some ⟨oc,od,.func (PySem.W.fnOf name qual params body scope dV kV doc pm an aH ct),fm⟩)(e9:PySem.W.codeIn K aH qual=true)(S:bo N ps scope) (len:∀vs H Q E,sp vs H Q E->vs.length=ps.length) (iq:∀(A:ag)(outer:List Env)(s:a8)(H:Hp)(vs:List V)(Q:VK)(E:XK),cS k (A.deeper (envOfC qual scope s.heap.objs.size f aH))->sp vs H Q E->∃t,mq (gA CX P w K mg ao N qual scope f aH A outer s H E) body t/\t {nx:=λ_ H'=>Q .bM H',rt:=Q} (start N vs) H): gT P w K mg ao CX (k+1) f (PySem.W.fnOf name qual params body scope dV kV doc pm an aH ct) ps sp:=by
 refine⟨len,λA outer s H args us vs Q E hr e0 hb r fC=>?_⟩;have hl:=len _ _ _ _ fC;have KX:K.In s.heap:=e0.mod.oN.keeps λb o e=>(e0.bs b o e).1;have lim:s.heap.NoLimit:=e0.mod.nolimit.keeps λb o e=>(e0.bs b o e).1;have iV:∀y∈ps.zip us,scope.names.lookup y.1=some .local\/(scope.names.lookup y.1=some .cell/\((cellsFrom (s.heap.objs.size+1) scope.names []).lookup y.1).isSome=true):=λ⟨n,v⟩ hy=>by
  rcases S.par n (uy hy).1 with q|q
  ·exact .inl q
  ·exact .inr ⟨q,Gi _ _ _ (.inl q)⟩
 refine OQ hr.depth (KX _ _ lk) Z S.co S.gen Z (OT KX e9) (hb _ _ _ _ ?_);refine OM S.kind iV λenv he s1 x=>?_;subst he;refine⟨lim.keeps x.toInCall.keep,codeAny_func ?_⟩;obtain⟨t,ht,hq⟩:=iq A outer s H vs Q E (hr.deeper _) fC;have I:Inv (gA CX P w K mg ao N qual scope f aH A outer s H E) [] (start N vs) H s1:=Eh S hr.hd e0 hl r x;refine dR (ht s1 (start N vs) H _ I hq) (λfl s' hs=>?_) λe s' hs=>hs;have fin:∀{σ':St}{H':Hp}{v:V}{u:Value},Inv (gA CX P w K mg ao N qual scope f aH A outer s H E) [] σ' H' s'->RelV v u->Q v H'->CE outer P w H s Q u s':=λ{σ' H' v u} J rv q=>⟨v,H',J.os,J.bare,J.ao,J.aW,rv,q⟩;cases fl with |ret u=>obtain⟨v,σ',H',J,rv,q⟩:=hs;exact fin J rv q |next=>obtain⟨σ',H',J,q⟩:=hs;exact fin (v:=V.bM) (u:=Value.none) J Z q |brk=>obtain⟨_,_,_,q⟩:=hs;exact False.elim q |cont=>obtain⟨_,_,_,q⟩:=hs;exact False.elim q
def ExcAt(ex:Addr)(cls:Value)(h:Heap):Prop:=∃o,h.get? ex=some o/\o.cls=cls
def takes(K:a7)(C D:Addr):Prop:=PySem.W.mroIn K C (.ref D)=some true
section
variable {X:Cx}{i:Nat}{n y:Str}{Dc:Addr}{A2:List Value}{newD:String}{body uR:List Stmt}{b0:Stmt}{np qC pos:Pos}{tb:XK->TS}{th:TS}{Cs:Addr->Prop}
end
end L2
namespace L2
open PySem PySem.Spec PyProof.Rows PySem.W Builtin.Getset_descriptor
section
variable {prog:a9}{w:World}{A:ag}{E:Value->a8->Prop}{h:Heap}{g:Array GenState}{d:Drawn}{t:Nat}{os:OsState}{K:Frag}{x C:Addr}{o:Obj}
theorem MO{M:Model}(h1:h.get? x=some o)(h2:o.cls= .ref C):Looks M h (typeOf (.ref x)) (.ref C):=h2▸(Looks.ld h1).andThen .now
structure kP(K:Frag)(C:Addr):Prop where
 ga:findIn K (.ref C) "__getattribute__"=some (some (.builtin "BaseException.__getattribute__"))
 gx:findIn K (.ref C) "__getattr__"=some none
 cl:findIn K (.ref C) "__class__"=some (some (.builtin "object.__class__"))
 gt:specialIn K (.builtin "object.__class__") "__get__"=some (some (.builtin "getset_descriptor.__get__"))
 tk:takesIn K (.builtin "object.__class__")=some true
 ob:mroIn K C (.type "object")=some true
 be:mroIn K C (.type "BaseException")=some true
 is:hasDictIn K C=true
theorem Wi{M:Model}(X:K.In h)(k:kP K C):Looks M h (Builtin.ObjectAttr.find (.ref x) (.ref C) "__class__") (.bind (.builtin "getset_descriptor.__get__") (.builtin "object.__class__")):=by have L1:=As (M:=M) X k.cl;have L2:Looks M h (Builtin.ObjectAttr.getOf (some (.builtin "object.__class__"))) (some (.builtin "getset_descriptor.__get__")):=looks_specialIn X k.gt;have L3:=looks_takesIn (M:=M) X k.tk;unfold Builtin.ObjectAttr.find;refine L1.andThen (L2.andThen ?_);have L4:Looks M h (Builtin.ObjectAttr.dataDescriptor? (some (.builtin "object.__class__")) (some (.builtin "getset_descriptor.__get__"))) (some (.builtin "getset_descriptor.__get__",.builtin "object.__class__")):=L3.andThen .now;exact L4.andThen (Looks.tag .now)
theorem Mv{M:Model}{KY:Value}{Q:Unit->a8->Prop}(X:K.In h)(k:kP K C)(L0:Looks M h (typeOf (.ref x)) (.ref C))(hq:Q () ⟨h,g,d,t,os⟩): wpAny M A (checkBuiltinCall "BaseException.__getattribute__" ⟨[.ref x,KY],[]⟩) Q E ⟨h,g,d,t,os⟩:=by
 have hk:builtinKind "BaseException.__getattribute__"=some .slot:=by decide+kernel
 have fC:splitId "BaseException.__getattribute__"=some ("BaseException","__getattribute__"):=by decide+kernel
 have ha:=PySem.F.args_bexc_ga (.ref x) KY;have L1:=looks_mroIn (M:=M) X k.be;simp only[checkBuiltinCall,hk,fC];refine az ?_;unfold isInstance;refine az (L0.at (L1.at ?_))
 repeat (first|assumption|wp_step)
theorem get_cls{R:Result->a8->Prop}{tp:Value}(X:K.In h)(k:kP K C)(L0:Looks (model prog w) h (typeOf (.ref x)) (.ref C))(hq:R (.ok (.ret (.ref C))) ⟨h,g,d,t,os⟩): codeAny (model prog w) A (.call (.builtin "getset_descriptor.__get__") ⟨[.builtin "object.__class__",.ref x,tp],[]⟩) R ⟨h,g,d,t,os⟩:=by
 have L1:=looks_mroIn (M:=model prog w) X k.ob;refine Au KF.slot_gs.plain KF.entry_gs (KF.slot_gs.check _ _ _ _ _ _ _ _ KF.type_class (KF.args_gs _ _ _) ?_);unfold Builtin.«getset_descriptor.__get__»descrGet;rw[dga_obj];refine az (bc ?_);unfold descrGetter descrCheckInstance descrNameAndClass isInstance;simp only[KF.owner_class];repeat lk
 refine⟨Code.quiet_builtin _ aJ,codeAny_builtin KF.entry_class ?_⟩;unfold Builtin.«object.__class__»shownTypeOf;repeat lk
 exact hq
theorem Zt{tk:Tok}{Q:Fin->a8->Prop}(X:K.In h)(k:kP K C)(L0:Looks (model prog w) h (typeOf (.ref x)) (.ref C)) (hq:Q (.done (.ret (.ref C))) ⟨h,g,d,t,os⟩):wpAny (model prog w) A (Builtin.«object.__getattribute__» ⟨[.ref x,.str "__class__" tk],[]⟩) Q E ⟨h,g,d,t,os⟩:=by have L1:=Wi (M:=model prog w) (x:=x) X k;refine az (bc (az (bc (az (L0.at (az (L1.at ?_)))))));show wpAny _ _ (Builtin.ObjectAttr.bindTo _ _ (.ref x) (.ref C)) _ _ _;unfold Builtin.ObjectAttr.bindTo;show wpAny _ _ (holding [_] (call (.builtin "getset_descriptor.__get__") [.builtin "object.__class__",.ref x,.ref C])>>=_) _ _ _;exact az (gU (rW (get_cls X k L0 (bc hq))))
theorem a1U{Q:Option Value->a8->Prop}(X:K.In h)(k:kP K C)(L0:Looks (model prog w) h (typeOf (.ref x)) (.ref C)) (hq:Q (some (.ref C)) ⟨h,g,d,t+1,os⟩):wpAny (model prog w) A (getAttr? (.ref x) "__class__") Q E ⟨h,g,d,t,os⟩:=by
 have L1:=As (M:=model prog w) X k.ga;have L2:=As (M:=model prog w) X k.gx;have f3:=Gn.ga.bind (.ref x);have Ej:(Value.builtin "BaseException.__getattribute__"==Value.builtin "object.__getattribute__")=false:=by decide+kernel
 unfold getAttr? getAttrBy? getAttrBy;refine az (wpAny_mkText (az (Ap (gU (az (L0.at (az (L1.at ?_))))))));show wpAny _ _ (if(onTheHeap (Value.ref C)&&Value.builtin "BaseException.__getattribute__"==Value.builtin "object.__getattribute__")=true then _ else _) _ _ _;rw[Ej,AR,aO au];unfold getAttrByItsOwn hookBefore;refine az ?_;show wpAny _ _ (typeLookup (.ref C) "__getattr__") _ _ _;refine L2.at (az (Ap (gU ?_)));unfold callGetattribute;show wpAny _ _ (boundAndCalled _ _ _) _ _ _;unfold boundAndCalled;rw[f3];refine az (bc (rW ?_));refine Au Gn.ga.plain PySem.F.entry_bexc_ga (Mv X k L0 (Zt X k L0 ?_));exact handed_on Z (bc hq)
theorem Lz(k:kP K C):KitX K (.ref x) (.ref C) (ExcAt x (.ref C)) where
 ty:=λM h _ p=>by obtain⟨o,h1,h2⟩:=p;exact MO h1 h2
 it:=λ_ _ X _=>by
  obtain⟨cd,hc,_⟩:=any_some k.is;unfold clsIn at hc;split at hc
  ·rename_i c1 d1 cd1 RA ho
   intro A' Q' E' s' kk q;unfold isType loadHead;exact az (wpAny_loadPart (kk _ _ (X _ _ ho)) (bc q))
  ·cases hc
 ne:=λh tp dd its n sl X Xa=>by
  obtain⟨cd,hc,_⟩:=any_some k.is;refine nS.mpr λq=>?_;have e:C=tp:=Value.ref.inj (eB.mp q);subst e;unfold clsIn at hc;split at hc
  ·rename_i c1 d1 cd1 RA ho
   cases(X _ _ ho).symm.trans Xa
  ·cases hc
 ca:=λ{prog w A E Q s} X p q=>by obtain⟨o,h1,h2⟩:=p;obtain⟨h0,g0,d0,t0,os0⟩:=s;exact a1U X k (MO h1 h2) q
end
end L2
namespace L2
open PySem PySem.Spec PyProof.Rows
def a1V:V->Option Value | .ref D=>some (.ref D) | .ty n=>some (.type n) |_=>none
theorem GR:∀{Ds:List Addr}{us:List Value},Vals (Ds.map V.ref) us->us=Ds.map Value.ref |[],_,.nil=>rfl |n::r,_,.cons q t=>by cases(show _=Value.ref n from q);rw[GR t];rfl
section
variable {X:Cx}
end
theorem a2j:bootBuiltins "ValueError"=some (.type "ValueError"):=by kernel_rfl
abbrev FK:List Value:=[.type "ValueError",.type "Exception",.type "BaseException",.type "object"]
abbrev KA:String:="ValueError.__new__"
theorem FA.Yy{P:a9}{w:World}{K:a7}{mg:bI}{ao:Heap}{x:Str}{st:Stmt}{N ps:List Str}{k:Nat}{sp:Sp}(F:FA K mg x st)(S:bo N ps (aZ st))(len:∀vs H Q E,sp vs H Q E->vs.length=ps.length) (hb:∀(kV doc pm:Value)(an:Option Addr)(aH ct:Value)(us:List Value),us.length=ps.length->bindArgs (PySem.W.fnOf x x (me st) (gz st) (aZ st) .none kV doc pm an aH ct) ⟨us,[]⟩=pure (ps.zip us)) (iq:∀(f:Addr)(aH:Value)(A:ag)(outer:List Env)(s:a8)(H:Hp)(vs:List V)(Q:VK)(E:XK),cS k (A.deeper (envOfC x (aZ st) s.heap.objs.size f aH))->sp vs H Q E->∃t,mq (gA gm P w K mg ao N x (aZ st) f aH A outer s H E) (gz st) t/\t {nx:=λ_ H'=>Q .bM H',rt:=Q} (start N vs) H):ay P w K mg ao x (k+1) sp:=by obtain⟨f,fd,hm,F⟩:=F.ex;have ny:=F.binds hb;have kp:=F.kp;obtain⟨oc,od,kV,doc,pm,an,aH,ct,fm,rfl,lk,e9⟩:=F.ex;exact⟨f,_,ps,ZN lk e9 S len λA outer s H vs Q E hr fC=>iq f aH A outer s H vs Q E hr fC,hm,kp,ny⟩
end L2
namespace Ar
theorem Zs(a b:Int):Int.gcd b (a.fmod b)=Int.gcd a b:=by rw[Int.fmod_def,Int.gcd_sub_mul_left_right,Int.gcd_comm]
theorem Mu{a b:Int}(h:0<b):Int.gcd b (a%b)=Int.gcd a b:=by rw[<-Int.fmod_eq_emod_of_nonneg a (AO h)];exact Zs a b
def sg(p q:Int):Int:=if q<0 then-(Int.gcd p q:Int)else(Int.gcd p q:Int)
def lowP (p q:Int):Int:=p.fdiv (sg p q)
def fz (p q:Int):Int:=q.fdiv (sg p q)
theorem zG{p q:Int}(h:q≠0):0<(Int.gcd p q:Int):=by
 have:Int.gcd p q≠0:=λz=>h (Int.gcd_eq_zero_iff.mp z).2
 lia
theorem vd{p q:Int}(h:q≠0):sg p q≠0:=by have:=zG (p:=p) h;unfold sg;split<;>omega
theorem Ii(p q:Int):sg p q∣p:=by
 unfold sg;split
 ·exact Int.neg_dvd.mpr (Int.gcd_dvd_left p q)
 ·exact Int.gcd_dvd_left p q
theorem Ih(p q:Int):sg p q∣q:=by
 unfold sg;split
 ·exact Int.neg_dvd.mpr (Int.gcd_dvd_right p q)
 ·exact Int.gcd_dvd_right p q
theorem E5(p q:Int):sg p q*lowP p q=p:=by unfold lowP;rw[Int.fdiv_eq_ediv_of_dvd (Ii p q)];exact Int.mul_ediv_cancel' (Ii p q)
theorem zb(p q:Int):sg p q*fz p q=q:=by unfold fz;rw[Int.fdiv_eq_ediv_of_dvd (Ih p q)];exact Int.mul_ediv_cancel' (Ih p q)
theorem Ij(p q:Int):(sg p q).natAbs=Int.gcd p q:=by unfold sg;split<;>lia
theorem We{p q:Int}(h:q≠0):Int.gcd (lowP p q) (fz p q)=1:=by
 have e:Int.gcd (sg p q*lowP p q) (sg p q*fz p q)=(sg p q).natAbs*Int.gcd (lowP p q) (fz p q):=Int.gcd_mul_left _ _ _;rw[E5,zb,Ij]at e;have g:=zG (p:=p) h;have g':0<Int.gcd p q:=by lia
 have e':Int.gcd p q*1=Int.gcd p q*Int.gcd (lowP p q) (fz p q):=by lia
 exact(Nat.eq_of_mul_eq_mul_left g' e').symm
theorem Wf{p q:Int}(h:q≠0):0<fz p q:=by
 have e:=zb p q;have g:=zG (p:=p) h;by_cases hq:q<0
 ·have es:sg p q=-(Int.gcd p q:Int):=by unfold sg;rw[aR hq]
  rw[es]at e;refine Int.not_le.mp λhl=>?_;have:0<=-(Int.gcd p q:Int)*fz p q:=Po ak hl
  lia
 ·have es:sg p q=(Int.gcd p q:Int):=by unfold sg;rw[aO hq]
  rw[es]at e;refine Int.not_le.mp λhl=>?_;have:(Int.gcd p q:Int)*fz p q<=0:=Int.mul_nonpos_of_nonneg_of_nonpos ak hl
  lia
theorem Og{s x y:Int}(hs:s≠0)(e:s*x=y):x.natAbs<=y.natAbs:=by rw[<-e,g9];exact Nat.le_mul_of_pos_left _ ak
theorem Wh{p q:Int}(h:q≠0):(lowP p q).natAbs<=p.natAbs:=Og (vd h) (E5 p q)
theorem Wg{p q:Int}(h:q≠0):(fz p q).natAbs<=q.natAbs:=Og (vd h) (zb p q)
theorem Ig{p q:Int}(h:q≠0):(sg p q).natAbs<=q.natAbs:=by rw[Ij];exact Nat.le_of_dvd ak (Int.gcd_dvd_natAbs_right p q)
end Ar
namespace Rt
open Rat
theorem E4{a b:Int}(hb:b≠0):Ar.lowP a b=(Rat.divInt a b).num/\Ar.fz a b=((Rat.divInt a b).den:Int):=by
 have hp:=Ar.Wf (p:=a) hb;have hc:=Ar.We (p:=a) hb;have Yj:(Ar.fz a b).natAbs≠0:=by lia
 have Yn:(Ar.lowP a b).natAbs.Coprime (Ar.fz a b).natAbs:=hc;have e1:Rat.divInt a b=Rat.divInt (Ar.lowP a b) (Ar.fz a b):=by have h:=Rat.divInt_mul_left (a:=Ar.sg a b) (n:=Ar.lowP a b) (d:=Ar.fz a b) (Ar.vd hb);rw[Ar.E5,Ar.zb]at h;exact h
 have e2:(⟨Ar.lowP a b,(Ar.fz a b).natAbs,Yj,Yn⟩:Rat)=Rat.divInt (Ar.lowP a b) (((Ar.fz a b).natAbs:Nat):Int):=Rat.mk_eq_divInt;have e3:(((Ar.fz a b).natAbs:Nat):Int)=Ar.fz a b:=by lia
 rw[e3]at e2;rw[e1,<-e2];exact⟨Z,e3.symm⟩
theorem den_pos(r:Rat):(0:Int)<(r.den:Int):=by have:=r.den_pos;omega
structure Bd(n:Nat)(r:Rat):Prop where
 num:r.num.natAbs<2^n
 den:r.den<2^n
theorem Bd.mono{n m:Nat}{r:Rat}(h:Bd n r)(l:n<=m):Bd m r:=⟨fH h.num (uw au l),fH h.den (uw au l)⟩
theorem oG{a b n m:Nat}(h:a<2^n)(g:b<2^m):a*b<2^(n+m):=by rw[Nat.pow_add];exact Nat.mul_lt_mul'' h g
theorem qv{n:Nat}{a b:Int}(hb:b≠0)(h1:a.natAbs<2^n)(h2:b.natAbs<2^n):Bd n (Rat.divInt a b):=by
 obtain⟨e1,e2⟩:=E4 (a:=a) hb;have l1:=Ar.Wh (p:=a) hb;have l2:=Ar.Wg (p:=a) hb;refine⟨?_,?_⟩
 ·rw[<-e1];lia
 ·lia
theorem wI(r s:Rat):(r.den:Int)*(s.den:Int)≠0:=Int.ne_of_gt (gb (den_pos r) (den_pos s))
theorem add_div(r s:Rat):r+s=Rat.divInt (r.num*s.den+s.num*r.den) (r.den*s.den):=by have h:=Rat.divInt_add_divInt r.num s.num (d₁:=r.den) (d₂:=s.den) (by have:=den_pos r;lia) (by have:=den_pos s;lia);rw[xx,xx]at h;exact h
theorem QW(r s:Rat):r-s=Rat.divInt (r.num*s.den-s.num*r.den) (r.den*s.den):=by have h:=OS r.num s.num (d₁:=r.den) (d₂:=s.den) (by have:=den_pos r;lia) (by have:=den_pos s;lia);rw[xx,xx]at h;exact h
section
variable {n m:Nat} {r s:Rat}
theorem a1E(h:Bd n r)(g:Bd m s):(r.num*s.den).natAbs<2^(n+m):=by rw[g9];exact oG h.num (by have:=g.den;omega)
theorem a1D(h:Bd n r)(g:Bd m s):(s.num*r.den).natAbs<2^(n+m):=by rw[g9,Nat.mul_comm];exact oG (by have:=h.den;lia) g.num
theorem Np(h:Bd n r)(g:Bd m s):((r.den:Int)*(s.den:Int)).natAbs<2^(n+m):=by rw[g9];exact oG (by have:=h.den;lia) (by have:=g.den;lia)
theorem Bd.add(h:Bd n r)(g:Bd m s):Bd (n+m+1) (r+s):=by
 rw[add_div];have h1:=a1E h g;have h2:=a1D h g;have h3:=Np h g;have e:2^(n+m+1)=2^(n+m)+2^(n+m):=by rw[Nat.pow_succ];omega
 exact qv (wI r s) aI aI
end
theorem Vu(r:Rat):(0<r.num)↔0<r:=by rw[Rat.lt_iff];simp
end Rt
namespace L2
open PySem PySem.Spec PyProof.Rows
def cR(H H':Hp):Prop:=∀b o,(∀xs,o≠ .lst xs)->H b=some o->H' b=some o
section
variable {K:a7} {H H' H2:Hp}
theorem cR.trans(a:cR H H')(b:cR H' H2):cR H H2:=λc o n e=>b c o n (a c o n e)
theorem cR.fw{D:Addr}{xs ys:List V}(h:H D=some (.lst xs)):cR H (upd H D (.lst ys)):=λb o n e=>by rw[bf (KQ e h (n xs))];exact e
theorem aK.t{a:Addr}{xs:List V}(s:cR H H')(h:aK K H a xs):aK K H' a xs:=h.imp (λr=>r.imp (s _ _ λ_ z=>nomatch z) λ⟨o,e⟩=>⟨o,s _ _ (λ_ z=>nomatch z) e⟩) id
mutual
def cQ:af->Bool | .list _=>false | .dict _=>false | .tuple ds=>cg ds | .none=>true | .bool _=>true | .int _=>true | .str _=>true
def cg:List af->Bool |[]=>true |d::ds=>cQ d&&cg ds
end
theorem cP:∀{ds:List af},cg ds=true↔∀d∈ds,cQ d=true
 |[]=>⟨λ_ _ h=>(nomatch h),λ_=>by simp[cg]⟩ |d::ds=>by
  rw[cg,eF,cP (ds:=ds)];constructor
  ·rintro⟨a,b⟩ x hx
   rcases dj.mp hx with rfl|hx
   ·exact a
   ·exact b x hx
  ·intro h
   exact⟨h d (.head _),λx hx=>h x (.tail _ hx)⟩
theorem jN(ns:List Int):cg (ns.map PyData.int)=true:=cP.mpr λd hd=>by obtain⟨i,_,rfl⟩:=fu.mp hd;simp[cQ]
mutual
theorem RD.t(s:cR H H'):∀{x:V}(d:af),cQ d=true->RD K H x d->RD K H' x d |x,.none,_,h=>by simpa[RD]using h |x,.bool b,_,h=>by simpa[RD]using h |x,.int i,_,h=>by simpa[RD]using h |x,.str y,_,h=>by simpa[RD]using h |x,.list ds,n,h=>by simp[cQ]at n |x,.tuple ds,n,h=>by rw[RD]at h⊢;obtain⟨a,xs,e,h1,h2⟩:=h;exact⟨a,xs,e,h1.t s,aC.t s ds (by simpa[cQ]using n) h2⟩ |x,.dict _,_,h=>by simp[RD]at h
theorem aC.t (s:cR H H'):∀{xs:List V}(ds:List af),cg ds=true->aC K H xs ds->aC K H' xs ds |xs,[],_,h=>by simpa[aC]using h |xs,d::ds,n,h=>by rw[aC]at h⊢;rw[cg,eF]at n;obtain⟨y,ys,e,h1,h2⟩:=h;exact⟨y,ys,e,RD.t s d n.1 h1,aC.t s ds n.2 h2⟩
end
theorem aC.gP:∀{xs:List V}{ns:List Int},aC K H xs (ns.map PyData.int)->xs=ns.map V.int |xs,[],h=>h.nil_inv |xs,n::ns,h=>by obtain⟨y,ys,rfl,h1,h2⟩:=h.cons_inv;rw[h1.int_inv,aC.gP h2];rfl
theorem sW:∀(ns:List Int),aC K H (ns.map V.int) (ns.map PyData.int) |[]=>cf |n::ns=>bK (cM n) (sW ns)
theorem FD{J:It}{xs:List V}{ds:List af}{te:TE}{Q:VK}{D:Addr}{H0:Hp}(rest:St)(nw:Nw H H0 D (.lst []))(hl:xs.length=ds.length)(hz:xs.length<=1000)(hn:cg ds=true) (go:∀i x H2,xs[i]? =some x->aA H H2->J.go i H2/\∀y H3,J.gH i H2 y H3->H3=H2/\y=x)(stop:∀H2,aA H H2->J.stop xs.length H2) (hs:∀(i:Nat)(x:V)(d:af)(H2:Hp)(Q':VK),xs[i]? =some x->ds[i]? =some d->aA H H2->(∀y H3,aA H2 H3->RD K H3 y d->Q' y H3)->te (some x::rest) H2 Q') (hq:∀H' ys,aA H H'->H' D=some (.lst ys)->aC K H' ys ds->Q (.ref D) H'):j6 J (fE 0) i9 te Q D (none::rest) H0:=by
 have hD:=nw.no;refine rC xs.length (λi O H2=>aA H H2/\(∃ys,H2 D=some (.lst ys)/\aC K H2 ys (ds.take i))/\∃v,O=v::rest) ?_ ?_ ?_
 ·exact⟨nw.same,⟨[],nw.at',cf⟩,none,Z⟩
 ·rintro i O H2 hi ⟨s2,⟨ys,d2,r2⟩,v,rfl⟩
  have zx:i<ds.length:=by rw[<-hl];exact hi
  have ex:=bw hi;have eb:=bw zx;obtain⟨g1,g2⟩:=go i _ H2 ex s2;refine⟨g1,λy H3 hy=>?_⟩;obtain⟨rfl,rfl⟩:=g2 y H3 hy;refine uI ?_;refine hs i _ _ _ _ ex eb s2 λz H4 s4 r4=>?_;have d4:=s4 _ _ d2;have len:=r2.length;rw[kW]at len;refine⟨ys,d4,?_,xs.length-(i+1),ak,Z,ak,λb o e=>?_,⟨ys++[z],bX,?_⟩,_,Z⟩
  ·have:(1000:Nat)<sizeLine:=by decide
   lia
  ·rw[bf (cC e hD)];exact s4 b o (s2 b o e)
  ·have t:cR H4 (upd H4 D (.lst (ys++[z]))):=.fw d4
   rw[rY,eb];have n1:cg (ds.take i)=true:=cP.mpr λd hd=>cP.mp hn d (xE hd);exact(aC.t t _ n1 (aC.mono s4 _ r2)).append (bK (RD.t t _ (cP.mp hn _ (uC zx)) r4) cf)
 ·rintro O H2 ⟨s2,⟨ys,d2,r2⟩,v,rfl⟩
  refine⟨stop H2 s2,hq H2 ys s2 d2 ?_⟩;rw[hl,AG]at r2;exact r2
theorem zY{a:Addr}{xs:List V}{ds:List af}{te:TE}{Q:VK}{D:Addr}{H0:Hp}(rest:St)(hx:aK K H a xs)(nw:Nw H H0 D (.lst []))(hl:xs.length=ds.length)(hz:xs.length<=1000)(hn:cg ds=true) (hs:∀(i:Nat)(x:V)(d:af)(H2:Hp)(Q':VK),xs[i]? =some x->ds[i]? =some d->aA H H2->(∀y H3,aA H2 H3->RD K H3 y d->Q' y H3)->te (some x::rest) H2 Q') (hq:∀H' ys,aA H H'->H' D=some (.lst ys)->aC K H' ys ds->Q (.ref D) H'):j6 (pM K a) (fE 0) i9 te Q D (none::rest) H0:=FD rest nw hl hz hn (λi x H2 e s=>⟨⟨xs,x,hx.go s,e⟩,λy H3 ⟨e3,y3⟩=>⟨e3,by have:=y3 _ (hx.go s);rw[e]at this;exact(dv this).symm⟩⟩) (λH2 s=>⟨xs,hx.go s,ba _⟩) hs hq
theorem Nx{a:Addr}{xs:List V}{ds:List af}{te:TE}{Q:VK}{D:Addr}{H0:Hp}(rest:St)(hx:aF K H a xs)(nw:Nw H H0 D (.lst []))(hl:xs.length=ds.length)(hz:xs.length<=1000)(hn:cg ds=true) (hs:∀(i:Nat)(x:V)(d:af)(H2:Hp)(Q':VK),xs[i]? =some x->ds[i]? =some d->aA H H2->(∀y H3,aA H2 H3->RD K H3 y d->Q' y H3)->te (some x::rest) H2 Q') (hq:∀H' ys,aA H H'->H' D=some (.lst ys)->aC K H' ys ds->Q (.ref D) H'):j6 (pN K a) (fE 0) i9 te Q D (none::rest) H0:=FD rest nw hl hz hn (λi x H2 e s=>⟨⟨xs,x,hx.go s,e⟩,λy H3 ⟨e3,y3⟩=>⟨e3,by have:=y3 _ (hx.go s);rw[e]at this;exact(dv this).symm⟩⟩) (λH2 s=>⟨xs,hx.go s,ba _⟩) hs hq
theorem Nv{lo:Int}{n:Nat}{ds:List af}{te:TE}{Q:VK}{D:Addr}{H0:Hp}(rest:St)(nw:Nw H H0 D (.lst []))(hl:n=ds.length)(hz:n<=1000)(hn:cg ds=true) (hs:∀(i:Nat)(d:af)(H2:Hp)(Q':VK),ds[i]? =some d->aA H H2->(∀y H3,aA H2 H3->RD K H3 y d->Q' y H3)->te (some (.int (lo+i))::rest) H2 Q') (hq:∀H' ys,aA H H'->H' D=some (.lst ys)->aC K H' ys ds->Q (.ref D) H'):j6 (mr lo n) (fE 0) i9 te Q D (none::rest) H0:=by
 have hx:∀i x,((List.range n).map λi:Nat=>V.int (lo+i))[i]? =some x->i<n/\x= .int (lo+i):=λi x e=>by rw[bN]at e;cases h:(List.range n)[i]? with |none=>rw[h]at e;cases e |some j=>rw[h]at e;obtain⟨h1,h2⟩:=cy.mp h;rw[uB]at h2;subst h2;exact⟨by simpa using h1,(dv e).symm⟩
 refine FD (xs:=(List.range n).map λi:Nat=>V.int (lo+i)) rest nw (by simpa using hl) (by simpa using hz) hn (λi x H2 e s=>?_) (λH2 s=>?_) (λi x d H2 Q' e1 e2 s k=>?_) hq
 ·obtain⟨h1,rfl⟩:=hx i x e
  exact⟨h1,λy H3 ⟨e3,y3⟩=>⟨e3,y3⟩⟩
 ·show n<=_
  simp
 ·obtain⟨h1,rfl⟩:=hx i x e1
  exact hs i d H2 Q' e2 s k
theorem ug{b1 b2:Bool}{l1 l2:Addr}{xs ys:List V}{ds:List af}{te:TE}{Q:VK}{D:Addr}{H0:Hp}{n:Nat}(rest:St)(Ey:n=2)(h1:dJ b1 K H l1 xs)(h2:dJ b2 K H l2 ys)(nw:Nw H H0 D (.lst [])) (hl:min xs.length ys.length=ds.length)(hz:ds.length<=1000)(hn:cg ds=true) (hs:∀(i:Nat)(x y:V)(d:af)(H2:Hp)(Q':VK),xs[i]? =some x->ys[i]? =some y->ds[i]? =some d->aA H H2->(∀z H3,aA H2 H3->RD K H3 z d->Q' z H3)->te (some x::some y::rest) H2 Q') (hq:∀H' zs,aA H H'->H' D=some (.lst zs)->aC K H' zs ds->Q (.ref D) H'):j6 (rP K b1 b2 l1 l2) (zI K n (wo (fE 0) (wo (fE 1) ES))) i9 te Q D (none::none::rest) H0:=by
 subst Ey;have hD:=nw.no;refine rC ds.length (λi O H2=>aA H H2/\(∃zs,H2 D=some (.lst zs)/\aC K H2 zs (ds.take i))/\∃v v',O=v::v'::rest) ?_ ?_ ?_
 ·exact⟨nw.same,⟨[],nw.at',cf⟩,none,none,Z⟩
 ·rintro i O H2 hi ⟨s2,⟨zs,d2,r2⟩,v,v',rfl⟩
  have hx:i<xs.length:=by lia
  have hy:i<ys.length:=by lia
  have ex:=bw hx;have ey:=bw hy;have eb:=bw hi;refine⟨⟨xs,ys,_,_,h1.go s2,h2.go s2,ex,ey⟩,λy' H3 kr=>?_⟩;obtain⟨T,x0,y0,rfl,k1,k2,n3⟩:=kr;have e1:=k1 _ (h1.go s2);have e2:=k2 _ (h2.go s2);rw[ex]at e1;rw[ey]at e2;cases e1;cases e2;refine⟨T,_,Z,aK.of n3.at',Z,_,_,Z,_,_,Z,Z,?_⟩;refine yes (aY ?_);refine hs i _ _ _ _ _ ex ey eb (s2.trans n3.same) λz H4 s4 r4=>?_;have eS:=n3.same.trans s4;have d4:=eS _ _ d2;have len:=r2.length;rw[kW]at len;refine⟨zs,d4,?_,ds.length-(i+1),ak,Z,ak,λb o e=>?_,⟨zs++[z],bX,?_⟩,_,_,Z⟩
  ·have:(1000:Nat)<sizeLine:=by decide
   lia
  ·rw[bf (cC e hD)];exact eS b o (s2 b o e)
  ·have t:cR H4 (upd H4 D (.lst (zs++[z]))):=.fw d4
   rw[rY,eb];have n1:cg (ds.take i)=true:=cP.mpr λd hd=>cP.mp hn d (xE hd);exact(aC.t t _ n1 (aC.mono eS _ r2)).append (bK (RD.t t _ (cP.mp hn _ (uC hi)) r4) cf)
 ·rintro O H2 ⟨s2,⟨zs,d2,r2⟩,v,v',rfl⟩
  refine⟨⟨xs,ys,h1.go s2,h2.go s2,ak⟩,hq H2 zs s2 d2 ?_⟩;rw[AG]at r2;exact r2
end
theorem LJ:∀{ns:List Int}{us:List Value},Vals (ns.map V.int) us->(∀v∈us,∃a t,v=Value.int a t)/\numsOf us=ns
 |[],_,.nil=>⟨λ_ h=>(nomatch h),rfl⟩ |n::ns,_,.cons q r=>by
  obtain⟨t,rfl⟩:=(show∃t,_=Value.int n t from q);obtain⟨h1,h2⟩:=LJ r;refine⟨λv hv=>?_,?_⟩
  ·rcases dj.mp hv with rfl|hv
   ·exact⟨n,t,Z⟩
   ·exact h1 v hv
  ·show n::numsOf _=_
   rw[h2]
section
variable {X:Cx}
theorem DV(K:a7)(hK:X.K=K)(hc:X.calm=true):eu X (.builtin "max") (λxs H Q=>∃(l:Addr)(ns:List Int),xs=[.ref l]/\aF K H l (ns.map V.int)/\ns≠[]/\∀M,M∈ns->(∀a∈ns,a<=M)->Q (.int M) H):=by
 subst hK;intro aj s O H xs us Q I r h;obtain⟨l,ns,rfl,hl,fX,q⟩:=h;obtain⟨u,rfl,ru⟩:=vals1 r;cases(show u=Value.ref l from ru);obtain⟨its,rv,pl,hz⟩:=I.list hl;obtain⟨a1,a2⟩:=LJ rv;have all:AllInts its.toArray:=λv hv=>a1 v (by simpa using hv);obtain⟨ps,LU⟩:=all.items;have e0:numsOf (intItems ps).toList=ns:=by rw[<-LU];exact a2
 rw[nums_intItems]at e0;have hlen:ps.size=ns.length:=by rw[<-e0,bu,xJ]
 have qC:0<ps.size:=by rw[hlen];exact AJ.mpr fX
 refine max_intList (I.ok.hd hc) (by rw[<-LU];exact pl.isList) qC λv h' tk hv hk=>?_;obtain⟨t,rfl⟩:=intItems_at hv;obtain⟨h1,h2⟩:=argBest_gt (numAt ps) (ps.size-1);refine⟨.int _,H,I.kept hk,⟨_,Z⟩,q _ ?_ λa ha=>?_⟩
 ·rw[numAt_eq,e0];exact getD_mem aI
 ·obtain⟨j,hj,rfl⟩:=mem_getD ha
  rw[<-e0,<-numAt_eq];exact h2 j aI
theorem LK{ns:List Int}{us:List Value}(r:Vals (ns.map V.int) us){i:Nat}{v:Value}(h:us[i]? =some v):∃n t,ns[i]? =some n/\v=Value.int n t:=by
 have hl:=r.length;rw[bu]at hl;have hi:i<ns.length:=by rw[hl];exact(cy.mp h).1
 obtain⟨u,e,ru⟩:=r.get (i:=i) (x:=.int ns[i]) (by rw[bN,bw hi];rfl);rw[h]at e;cases e;obtain⟨t,rfl⟩:=(show∃t,v=Value.int ns[i] t from ru);exact⟨_,t,bw hi,Z⟩
theorem Sv(ns:List Int):((List.range ns.length).any λi=>((ns.map (· !=0))[i]?).getD false)=ns.any (· !=0):=by have:=LSm.range_any (ns.map (· !=0));rw[bu]at this;rw[this,List.any_map];rfl
theorem a2F(K:a7)(hK:X.K=K)(hc:X.calm=true):eu X (.builtin "any") (λxs H Q=>∃(l:Addr)(ns:List Int),xs=[.ref l]/\(aF K H l (ns.map V.int)\/aK K H l (ns.map V.int))/\Q (.bl (ns.any (· !=0))) H):=by
 subst hK;intro aj s O H xs us Q I r h;obtain⟨l,ns,rfl,hl,q⟩:=h;obtain⟨u,rfl,ru⟩:=vals1 r;cases(show u=Value.ref l from ru);have hh:=I.ok.hd hc;have fin:∀(its:List Value),Vals (ns.map V.int) its->((List.range its.toArray.size).any λi=>((ns.map (· !=0))[i]?).getD false)=ns.any (· !=0):=λits rv=>by rw[cB,<-rv.length,bu];exact Sv ns
 rcases hl with hl|hl
 ·obtain⟨its,rv,pl,hz⟩:=I.list hl
  have il:=pl.isList;have bG:l<s.heap.objs.size:=by obtain⟨_,e,_⟩:=il;exact bS e
  refine call_any_walk (Am il ?_);refine⟨s.heap.objs.size,[s.heap.objs.size,l],[s.heap.objs.size],its.toArray.size,_,_,λi=>((ns.map (· !=0))[i]?).getD false,Z,Walks.list (A:=X.A.in1) hh _ l (dw bG) its.toArray,⟨⟨_,dU _ Z,Z,Z⟩,il.push _⟩,λi v s' Q' E' hP hQ=>?_,λh' tk hk=>?_⟩
  ·obtain⟨n,t,e,rfl⟩:=LK rv (i:=i) (v:=v) (by simpa using hP)
   simp only[bN,e]at hQ;exact truthy_int hQ
  ·rw[fin its rv]
   exact⟨.bl _,H,I.kept (LSm.kept_iter hk),Z,q⟩
 ·obtain⟨its,rv,pl,hz⟩:=I.tuple hl
  have il:s.heap.IsTuple l its.toArray:=by obtain⟨⟨cls,dd,data,sl⟩,ho,gQ,n,hd⟩:=pl;exact⟨_,ho,gQ,by simpa using⟨n,hd⟩⟩
  have bG:l<s.heap.objs.size:=by obtain⟨_,e,_⟩:=il;exact bS e
  refine call_any_walk (wpAny_pyIter_tuple il ?_);refine⟨s.heap.objs.size,[s.heap.objs.size,l],[s.heap.objs.size],its.toArray.size,_,_,λi=>((ns.map (· !=0))[i]?).getD false,Z,Walks.tuple (A:=X.A.in1) hh _ l (dw bG) its.toArray,⟨⟨_,dU _ Z,Z,Z⟩,il.push _⟩,λi v s' Q' E' hP hQ=>?_,λh' tk hk=>?_⟩
  ·obtain⟨n,t,e,rfl⟩:=LK rv (i:=i) (v:=v) (by simpa using hP)
   simp only[bN,e]at hQ;exact truthy_int hQ
  ·rw[fin its rv]
   exact⟨.bl _,H,I.kept (LSm.kept_iter hk),Z,q⟩
end
end L2
set_option maxHeartbeats 1000000
namespace Lw
open PySem PySem.Spec PyProof.Rows L2
def OA(c m:Int):Prop:=0<=c/\0<=m/\m<2147483648
def eQ(H:Hp)(p:Addr):Prop:=∃c m,H p=some (.lst [.int c,.int m])/\OA c m
structure aV(p:Addr)(H H':Hp):Prop where
 aM:eQ H' p
 same:∀b o,b≠p->H b=some o->H' b=some o
theorem aV.refl{p:Addr}{H:Hp}(h:eQ H p):aV p H H:=⟨h,λ_ _ _ e=>e⟩
theorem aV.trans{p:Addr}{H H1 H2:Hp}(a:aV p H H1)(b:aV p H1 H2):aV p H H2:=⟨b.aM,λc o n e=>b.same c o n (a.same c o n e)⟩
theorem aV.upd{p:Addr}{H:Hp}{c m:Int}(h:OA c m):aV p H (L2.upd H p (.lst [.int c,.int m])):=⟨⟨c,m,bX,h⟩,λb o n e=>by rw[bf n];exact e⟩
theorem aV.cW{p:Addr}{H H':Hp}(h:eQ H p)(s:aA H H'):aV p H H':=by obtain⟨c,m,e,ok⟩:=h;exact⟨⟨c,m,s _ _ e,ok⟩,λb o _ e=>s b o e⟩
theorem GN{j:Int}(h0:0<=j)(h:j<=10^40):Wd j:=by
 have:j.natAbs<=10^40:=by lia
 exact nP this aJ
theorem eQ.ne{H:Hp}{p:Addr}(h:eQ H p):H p≠none:=by obtain⟨c,m,e,_⟩:=h;rw[e];exact λz=>nomatch z
theorem aV.sd{p:Addr}{H H':Hp}(b:aV p H H'):SD p H H':=λc o e=>m9.mpr ⟨(m9.mp e).1,b.same _ _ (m9.mp e).1 (m9.mp e).2⟩
theorem eQ.KO{H:Hp}{p:Addr}{q:Addr}{o:HO}(h:eQ H p)(e:H q=some o)(n:∀xs,o≠ .lst xs):q≠p:=by obtain⟨c,m,e',_⟩:=h;exact KQ e e' (n _)
theorem aV.t{p:Addr}{H H':Hp}(bg:eQ H p)(b:aV p H H'):cR H H':=λc o n e=>b.same c o (bg.KO e n) e
theorem aV.RO{p:Addr}{H0 H H':Hp}(s:aA H0 H)(hp:H0 p=none)(b:aV p H H'):aA H0 H':=λc o e=>b.same c o (cC e hp) (s c o e)
section
variable {K:a7}
theorem a1N{J:It}{te:TE}{Q:VK}{D p:Addr}{H H0:Hp}(n:Nat)(rest:L2.St)(nw:Nw H H0 D (.lst []))(bg:eQ H p)(hn:n<=1000)(xv:Nat->V) (go:∀i H2,i<n->aV p H H2->J.go i H2/\∀y H3,J.gH i H2 y H3->H3=H2/\y=xv i)(stop:∀H2,aV p H H2->J.stop n H2)(Pz:Int->Prop) (hs:∀i H2 (Q':VK),i<n->aV p H H2->(∀z H3,Pz z->aV p H2 H3->Q' (.int z) H3)->te (some (xv i)::rest) H2 Q') (hq:∀H' (is:List Int),aV p H H'->H' D=some (.lst (is.map V.int))->is.length=n->(∀z∈is,Pz z)->Q (.ref D) H'):j6 J (fE 0) i9 te Q D (none::rest) H0:=by
 have p7:D≠p:=λe=>bg.ne (e▸nw.no);refine rC n (λi O H3=>aV p H H3/\(∃is:List Int,H3 D=some (.lst (is.map V.int))/\is.length=i/\∀z∈is,Pz z)/\∃v,O=v::rest) ?_ ?_ ?_
 ·exact⟨.cW bg nw.same,⟨[],nw.at',Z,λ_ h=>(fq h).elim⟩,none,Z⟩
 ·rintro i O H3 hi ⟨b3,⟨is,d3,li,pi⟩,v,rfl⟩
  obtain⟨g1,g2⟩:=go i H3 hi b3;refine⟨g1,λy H4 hy=>?_⟩;obtain⟨rfl,rfl⟩:=g2 y H4 hy;refine uI ?_;refine hs i _ _ hi b3 λz H5 pz b5=>?_;refine⟨_,b5.same _ _ p7 d3,?_,n-(i+1),ak,Z,ak,?_,⟨is++[z],?_,?_,?_⟩,_,Z⟩
  ·rw[bu,li]
   have:(1000:Nat)<sizeLine:=by decide
   lia
  ·have iA:=b3.trans b5
   refine⟨?_,λb o n e=>?_⟩
   ·obtain⟨c,m,e,ok⟩:=iA.aM
    exact⟨c,m,by rw[bf p7.symm];exact e,ok⟩
   ·rw[bf (cC e nw.no)];exact iA.same b o n e
  ·rw[bX,i8];rfl
  ·rw[cD,li];rfl
  ·intro y hy
   rcases jC.mp hy with h|h
   ·exact pi y h
   ·rw[mz.mp h];exact pz
 ·rintro O H3 ⟨b3,⟨is,d3,li,pi⟩,v,rfl⟩
  exact⟨stop H3 b3,hq H3 is b3 d3 li pi⟩
theorem WT(ns:List Int){i:Int}(h0:0<=i)(h:i<ns.length):∃z,z∈ns/\dI (ns.map V.int) i=some (.int z):=by
 have hl:i.toNat<ns.length:=by omega
 exact⟨ns[i.toNat],uC hl,cK h0 (by rw[bN,bw hl];rfl)⟩
theorem Nz{J:It}{te:TE}{Q:VK}{D p:Addr}{H H0:Hp}(n:Nat)(rest:L2.St)(nw:Nw H H0 D (.lst []))(bg:eQ H p)(hn:n<=1000)(xv:Nat->V) (go:∀i H2,i<n->aV p H H2->J.go i H2/\∀y H3,J.gH i H2 y H3->H3=H2/\y=xv i)(stop:∀H2,aV p H H2->J.stop n H2)(Pd:Nat->af->Prop) (hs:∀i H2 (Q':VK),i<n->aV p H H2->(∀y d H3,Pd i d->cQ d=true->RD K H3 y d->aV p H2 H3->Q' y H3)->te (some (xv i)::rest) H2 Q') (hq:∀H' ys ds,aV p H H'->H' D=some (.lst ys)->aC K H' ys ds->ds.length=n->cg ds=true->(∀i d,ds[i]? =some d->Pd i d)->Q (.ref D) H'):j6 J (fE 0) i9 te Q D (none::rest) H0:=by
  have p7:D≠p:=λe=>bg.ne (e▸nw.no);refine rC n (λi O H3=>aV p H H3/\(∃ys ds,H3 D=some (.lst ys)/\aC K H3 ys ds/\ds.length=i/\cg ds=true/\∀j d,ds[j]? =some d->Pd j d)/\∃v,O=v::rest) ?_ ?_ ?_
  ·exact⟨.cW bg nw.same,⟨[],[],nw.at',cf,Z,Z,λj d e=>by simp at e⟩,none,Z⟩
  · rintro i O H3 hi ⟨b3,⟨ys,ds,d3,r3,li,ni,pi⟩,v,rfl⟩
    obtain⟨g1,g2⟩:=go i H3 hi b3;refine⟨g1,λy H4 hy=>?_⟩;obtain⟨rfl,rfl⟩:=g2 y H4 hy;refine uI ?_;refine hs i _ _ hi b3 λz d H5 pz nz rz b5=>?_;have d5:=b5.same _ _ p7 d3;have t:cR H5 (L2.upd H5 D (.lst (ys++[z]))):=.fw d5;refine⟨ys,d5,?_,n-(i+1),ak,Z,ak,?_,⟨ys++[z],ds++[d],bX,?_,?_,?_,?_⟩,_,Z⟩
    · rw[r3.length,li]
      have:(1000:Nat)<sizeLine:=by decide
      lia
    · have iA:=b3.trans b5
      refine⟨?_,λb o n e=>?_⟩
      · obtain⟨c,m,e,ok⟩:=iA.aM
        exact⟨c,m,by rw[bf p7.symm];exact e,ok⟩
      ·rw[bf (cC e nw.no)];exact iA.same b o n e
    ·exact(aC.t ((aV.t b3.aM b5).trans t) _ ni r3).append (bK (RD.t t _ nz rz) cf)
    ·rw[cD,li];rfl
    ·exact cP.mpr λx hx=>by
        rcases jC.mp hx with h|h
        ·exact cP.mp ni x h
        ·rw[mz.mp h];exact nz
    · intro j e he
      by_cases hj:j<ds.length
      · rw[pV hj]at he
        exact pi j e he
      · have qJ:j=ds.length:=by
          have:=(cy.mp he).1;rw[cD]at this;have:j<ds.length+1:=this
          lia
        subst qJ;rw[nQ (ba _),AE]at he;cases he;rw[li];exact pz
  · rintro O H3 ⟨b3,⟨ys,ds,d3,r3,li,ni,pi⟩,v,rfl⟩
    exact⟨stop H3 b3,hq H3 ys ds b3 d3 r3 li ni pi⟩
end
end Lw
namespace Ln
open PySem L2
def gk(i:Int):Int:=if i<0 then-i else i
theorem wY(i:Int):gk i=(i.natAbs:Int):=by unfold gk;split<;>lia
def aE(ns:List Int):Nat:=ns.foldr (λz m=>max z.natAbs m) 0
theorem Ec:∀{ns:List Int}{z:Int},z∈ns->z.natAbs<=aE ns
 |n::ns,z,h=>by
  show z.natAbs<=max n.natAbs (aE ns);rcases dj.mp h with rfl|h
  ·exact Nat.le_max_left _ _
  ·exact fe (Ec h) (Nat.le_max_right _ _)
theorem Eb:∀{ns:List Int},ns≠[]->∃z∈ns,z.natAbs=aE ns
 |[],h=>absurd Z h |[n],_=>⟨n,.head _,by show n.natAbs=max n.natAbs 0;lia⟩ |n::m::ns,_=>by
  obtain⟨z,hz,e⟩:=Eb (ns:=m::ns) (by simp);by_cases h:n.natAbs<=aE (m::ns)
  ·exact⟨z,.tail _ hz,by show _=max n.natAbs (aE (m::ns));lia⟩
  ·exact⟨n,.head _,by show _=max n.natAbs (aE (m::ns));lia⟩
theorem lM{ns:List Int}{m:Nat}(h:∀z∈ns,z.natAbs<=m):aE ns<=m:=by cases ns with |nil=>exact dS _ |cons a r=>obtain⟨z,hz,e⟩:=Eb (ns:=a::r) (by simp);rw[<-e];exact h z hz
theorem Wt{ns:List Int}(h:∃z∈ns,z≠0):0<aE ns:=by
 obtain⟨z,hz,h0⟩:=h;have:=Ec hz
 lia
theorem Ea{ns:List Int}(fX:ns≠[]){M:Int}(h1:M∈ns.map gk)(h2:∀a∈ns.map gk,a<=M):M=(aE ns:Int):=by
 obtain⟨z,hz,e⟩:=fu.mp h1;obtain⟨y,hy,ey⟩:=Eb fX;have a1:=Ec hz;have a2:=h2 (gk y) (fu.mpr ⟨y,hy,Z⟩);rw[wY]at e a2
 lia
def ja(p q:Int):Int:=(2*(p.natAbs:Int)+q)/(2*q)
def gO(p q:Int):Int:=if p>=0 then ja p q else-ja p q
structure uj(x p q:Int):Prop where
 lo:-q<=2*(x*q-p)
 hi:2*(x*q-p)<=q
 qT:2*(x*q-p)=q\/2*(x*q-p)=-q->p.natAbs<=(x*q).natAbs
theorem RC{p q:Int}(hq:0<q):2*q*ja p q<=2*(p.natAbs:Int)+q/\2*(p.natAbs:Int)+q<2*q*ja p q+2*q:=by have h:=Int.mul_ediv_add_emod (2*(p.natAbs:Int)+q) (2*q);have h0:=nR (2*(p.natAbs:Int)+q) (show 2*q≠0 by omega);have h1:=sk (2*(p.natAbs:Int)+q) (show 0<2*q by omega);unfold ja;constructor<;>omega
theorem RE{p q:Int}(hq:0<q):0<=ja p q:=Int.ediv_nonneg ak ak
theorem near_is{p q:Int}(hq:0<q):uj (gO p q) p q:=by
 obtain⟨h1,h2⟩:=RC (p:=p) hq;have h0:=RE (p:=p) hq;rw[uG,Int.mul_comm q]at h1 h2;have hs0:0<=ja p q*q:=mC h0 (AO hq);unfold gO;split
 ·refine⟨?_,?_,λh=>?_⟩<;>(generalize ja p q*q=s at*;omega)
 ·refine⟨?_,?_,?_⟩<;>rw[Int.neg_mul]<;>(generalize ja p q*q=s at*;omega)
theorem vL{x y q:Int}(hq:0<q)(h:x<y):x*q+q<=y*q:=by have:(x+1)*q<=y*q:=a57 ak ak;rw[Int.add_mul,jD]at this;exact this
theorem VN{x y p q:Int}(hq:0<q)(a:uj x p q)(b:uj y p q):x=y:=by
 have key:∀{x y:Int},uj x p q->uj y p q->¬x<y:=λ{x y} a b h=>by
  have g:=vL hq h;have e1:=a.lo;have e2:=a.hi;have e3:=b.lo;have e4:=b.hi;have f1:=a.qT;have f2:=b.qT;have hx:x*q=0\/q<=x*q\/x*q<=-q:=by
   rcases Pq x 0 with h|h|h
   ·have:=vL hq h;lia
   ·left;rw[h,xG]
   ·have:=vL hq h;lia
  have hy:y*q=0\/q<=y*q\/y*q<=-q:=by
   rcases Pq y 0 with h|h|h
   ·have:=vL hq h;lia
   ·left;rw[h,xG]
   ·have:=vL hq h;lia
  generalize x*q=u at*;generalize y*q=v at*;have hu:=f1 ak;have hv:=f2 ak
  lia
 rcases Pq x y with h|h|h
 ·exact absurd h (key a b)
 ·exact h
 ·exact absurd h (key b a)
theorem VO{x p q:Int}(hq:0<q)(a:uj x p q):x=gO p q:=VN hq a (near_is hq)
theorem KN{q:Int}(hq:0<q):gO 0 q=0:=(VO hq ⟨ak,ak,λh=>by lia⟩).symm
end Ln
namespace L2
open PySem PySem.Spec PyProof.Rows
abbrev zQ(b:Bool)(h:Heap)(l:Addr):Heap:=h.push {cls:=.type (pG b),data:=.fields #[.ref l,.int 0 0]}
abbrev Fi(b:Bool)(h:Heap)(l:Addr):Heap:=(zQ b h l).push {cls:=.type "enumerate",data:=.fields #[.none,.bool false,.ref h.objs.size,rawInt 0,.none,.none]}
theorem a1i(b:Bool)(l:Addr)(xs:Array Value):Meets (Builtin.«enumerate.__new__» ⟨[.type "enumerate",.ref l],[]⟩) (λ_ R s=>fL b s.heap l xs/\R (.ok (.ret (.ref (zQ b s.heap l).objs.size))) {s with heap:=Fi b s.heap l}):=.of_wp λprog w A R s h=>by
 obtain⟨hp,gg,d,tk,os⟩:=s;obtain⟨hl,h⟩:=h;have En:=sub_enumerate;have hL:fL b (Shared.heap ⟨hp,gg,d,tk,os⟩) l xs:=hl
 wp_walk using tE hL;refine wpAny_stack_any λst=>bc ?_;split
 ·rename_i c _ _ _ _ _
  cases(c==Value.type "enumerate")
  ·wp_walk using tE hL
   exact⟨_,Z,h⟩
  ·wp_walk using tE hL
   exact⟨_,Z,h⟩
 ·wp_walk using tE hL
  exact⟨_,Z,h⟩
section
variable {prog:a9}{w:World}{A:ag}{E:Value->a8->Prop}{s:a8}
theorem a1j{b:Bool}{l:Addr}{xs:Array Value}{Q:Value->a8->Prop}(hl:fL b s.heap l xs) (q:∀g,IsEnum g (s.heap.objs.size+1) s.heap.objs.size 0 .none->iB b g s.heap.objs.size l 0->(∀c o,s.heap.get? c=some o->g.get? c=some o)->Q (.ref (s.heap.objs.size+1)) {s with heap:=g}): wpAny (model prog w) A (call (.type "enumerate") [.ref l]) Q E s:=by refine callType_new PySem.F.called_enumerate au (PySem.F.typeCall_enumerate_1 _) (PySem.F.newCall_enumerate_1 _) (λobj=>PySem.F.args_object_init_2 obj _) PySem.F.entry_enumerate_new (a1i b l xs) ⟨hl,?_⟩;have z1:(zQ b s.heap l).objs.size=s.heap.objs.size+1:=pW ..;have g2:(Fi b s.heap l).get? (zQ b s.heap l).objs.size=some _:=dU _ rfl;have g1:(Fi b s.heap l).get? s.heap.objs.size=some _:=bV _ (dU _ Z);show _/\_;rw[z1]at g2⊢;refine⟨⟨_,g2,Z⟩,q _ g2 ?_ λc o e=>bV _ (bV _ e)⟩;cases b<;>exact⟨_,g1,rfl,rfl⟩
theorem N0{b:Bool}{it l:Addr}{xs:Array Value}(hh:A.handled=none)(ne:l≠it):Draws prog w A it [it,l] xs.size (λi x=>xs[i]? =some x) (λi h=>iB b h it l i/\fL b h l xs) where
 live:=λi h st=>by obtain⟨o,e,_⟩:=st.1.ob;exact⟨o,e⟩
 frame:=λi h h' st k=>⟨st.1.to λo e=>k it (by simp) o e,st.2.to λo e=>k l (by simp) o e⟩
 item:=λi s Q E hi st hQ=>yO st.1 st.2 (x:=xs[i]) (by simp[hi]) λg gi sb=>hQ _ g s.toks (by simp[hi]) ⟨gi,st.2.to λo e=>sb.extBut _ _ ne e⟩ sb
 done:=λs Q E st hE=>Fh hh st.1 st.2 (by simp) λg e a b=>hE g e a b
end
def xl(K:a7)(b:Bool)(l:Addr):It:=⟨λi H=>∃xs x,dJ b K H l xs/\xs[i]? =some x,λi H v H'=>∃T x,v= .ref T/\(∀xs,dJ b K H l xs->xs[i]? =some x)/\Nw H H' T (.tup [.int i,x]),λi H=>∃xs,dJ b K H l xs/\xs.length=i⟩
theorem Qc{P:a9}{w:World}{K:a7}{elts:List Expr}{kt:Nat}{pos:Pos}{b:Bool}{e it l:Addr}(D:e≠it): Turn P w K (.Tuple elts kt pos) (xl K b l) [e,it] e (λi h=>(∃old,IsEnum h e it i old)/\iB b h it l i) where
 mem:=by simp
 obj:=λi h st c hc=>by
  obtain⟨⟨old,he⟩,h1⟩:=st;simp only[dj,fq,kS]at hc;rcases hc with rfl|rfl
  ·exact⟨_,he,λv e=>by cases e⟩
  ·obtain⟨o,e,_,n⟩:=h1.ob;exact⟨o,e,n⟩
 keep:=λi h h' st k=>by obtain⟨⟨old,he⟩,h1⟩:=st;exact⟨⟨old,k e (by simp) _ he⟩,h1.to λo q=>k it (by simp) o q⟩
 item:=by
  intro X hP hw hK hc i aj s O H E I hf st hg;subst hP hw hK;obtain⟨xs,x,q1,e1⟩:=hg;obtain⟨its,r1,p1⟩:=q1.get I;obtain⟨u1,El,ie⟩:=r1.get e1;obtain⟨⟨old,he⟩,h1⟩:=st;obtain⟨oi,jo,ci,_⟩:=h1.ob;have Ed:∃o,s.heap.get? l=some o/\(o.cls= .type "list"\/o.cls= .type "tuple"):=by cases b<;>(obtain⟨o,ho,cc,_⟩:=p1;first|exact⟨o,ho,.inl cc⟩|exact⟨o,ho,.inr cc⟩)
  obtain⟨ol,qE,cl⟩:=Ed;have VM:e≠l:=λz=>by subst z;rw[he]at qE;cases qE;rcases cl with h|h<;>simp at h
  have nil:l≠it:=λz=>by subst z;rw[jo]at qE;cases qE;rw[ci]at cl;cases b<;>(rcases cl with h|h<;>simp[pG]at h)
  have bG:i<its.toArray.size:=by rw[cB,<-r1.length];exact(cy.mp e1).1
  refine wpAny_pyNext_enum_itemD (N0 (I.ok.hd hc) nil) he ⟨h1,p1⟩ bG D (by simp[D,VM]) λy h' tk Z0 ho jn hT nc kp=>⟨_,Z,?_⟩;have ey:y=u1:=by
   have a1:its.toArray[i]? =some y:=Z0;have a2:its.toArray[i]? =some u1:=by simpa using El
   rw[a1]at a2;exact dv a2
  subst ey;refine wpAny_letOwnedTupleGo_enum ho λg' Yh sb=>?_;have hs:=sb.extBut;have elt:e<s.heap.objs.size:=bS he;have WY:it<s.heap.objs.size:=bS jo;have nw:Nw H (upd H s.heap.objs.size (.tup [.int i,x])) s.heap.objs.size (.tup [.int i,x]):=.of (I.aW.fresh (ba _));have I1:Inv X aj O (upd H s.heap.objs.size (.tup [.int i,x])) {s with heap:=s.heap.push {cls:=.type "tuple",data:=.seq #[.int i tk,y]},toks:=tk+1}:=I.laid (t':=tk+1) (λb ob q=>bV _ q) (ba _) ⟨by show 2<=sizeLine;decide,[.int i tk,y],.cons ⟨tk,Z⟩ (.cons ie .nil),⟨_,dU _ Z,Z,_,Z⟩⟩;have DZ:∀c∈[e,it],c<s.heap.objs.size:=λc hc=>by
   simp only[dj,fq,kS]at hc;rcases hc with rfl|rfl
   ·exact elt
   ·exact WY
  have hn:∀c∈[e,it],upd H s.heap.objs.size (.tup [.int i,x]) c=none:=λc hc=>by rw[bf (dw (DZ c hc))];exact(hf c hc).1
  have I2:Inv X aj O (upd H s.heap.objs.size (.tup [.int i,x])) {s with heap:=g',toks:=tk+1}:=Inv.uL (s:={s with heap:=s.heap.push {cls:=.type "tuple",data:=.seq #[.int i tk,y]},toks:=tk+1}) (t':=tk+1) (fp:=[e,it]) I1 (λc o hc q=>by
   have q:(s.heap.push {cls:=.type "tuple",data:=.seq #[.int i tk,y]}).get? c=some o:=q;have nz:c≠e:=λz=>hc (by simp[z]);rcases Pt q with⟨EK,rfl⟩|q'
   ·subst EK
    exact hs _ _ nz hT
   ·exact hs _ _ nz (kp c o nz (λz=>hc (by simp[z])) q')) (λc hc=>by obtain⟨f0,f1,f2,f3,f4,f5⟩:=hf c hc;exact⟨hn c hc,f1,f2,f3,f4,f5⟩);refine⟨.ref s.heap.objs.size,_,I2,Z,⟨s.heap.objs.size,x,Z,λzs hz=>?_,nw⟩,⟨⟨_,by simpa using Yh⟩,jn.1.to λo q=>hs _ o (iD D) q⟩,hn⟩;rw[dJ.inj I hz q1];exact e1
 done:=by
  intro X hP hw hK hc i aj s O H E I hf st hg;subst hP hw hK;obtain⟨xs,q1,w8⟩:=hg;obtain⟨its,r1,p1⟩:=q1.get I;obtain⟨⟨old,he⟩,h1⟩:=st;obtain⟨oi,jo,ci,_⟩:=h1.ob;have Ed:∃o,s.heap.get? l=some o/\(o.cls= .type "list"\/o.cls= .type "tuple"):=by cases b<;>(obtain⟨o,ho,cc,_⟩:=p1;first|exact⟨o,ho,.inl cc⟩|exact⟨o,ho,.inr cc⟩)
  obtain⟨ol,qE,cl⟩:=Ed;have nil:l≠it:=λz=>by subst z;rw[jo]at qE;cases qE;rw[ci]at cl;cases b<;>(rcases cl with h|h<;>simp[pG]at h)
  have hi:i=its.toArray.size:=by rw[cB,<-r1.length];exact w8.symm
  subst hi;refine wpAny_pyNext_enum_endD (N0 (I.ok.hd hc) nil) he ⟨h1,p1⟩ λh' kp=>⟨Z,?_⟩;exact I.uL (t':=s.toks) (fp:=[e,it]) (λc o hc q=>kp c o (λz=>hc (by simp[z])) q) hf
 self:=λ_ _ _ _ _ st h=>by obtain⟨⟨old,he⟩,_⟩:=st;exact wpAny_pyIter_enum he h
inductive a4U(K:a7)(b:Bool)(R:It->Hp->Prop)(vs:List V)(H1:Hp):Prop |mk (l:_)(h0:vs=[.ref l])(h1:(∃xs,dJ b K H1 l xs))(h2:R (xl K b l) H1)
def X5(K:a7)(b:Bool)(ta:TA):TI:=λO H R=>ta O H λvs H1=>a4U K b R vs H1
theorem tj(K:a7){X:Cx}(hK:X.K=K)(b:Bool){elts:List Expr}{kt:Nat}{sF:Pos}{a:Expr}{ta:TA}{p pos:Pos}(hg:Gl X "enumerate")(hm:X.mg "enumerate"=none)(ha:PA X [a] ta)(hs:starEach [a] X.env=[(false,eval a X.env)]:=by rfl)(ik:starEach [] X.env=[]:=by rfl): PI X (.Tuple elts kt sF) (.Call (.Name "enumerate" p) [a] [] pos) (X5 K b ta):=by
 subst hK;intro aj s O H R I h;refine Call_ (oM I hg hm PyProof.Rows.boot_enumerate (xA (aL (ha pos aj s O H _ I h) λus s1 ⟨vs,H1,I1,r1,q1⟩=>?_) (by rw[hs,ik]) (by rw[ik];rfl)));obtain⟨l,e,⟨xs,h1⟩,q⟩:=q1;subst e;obtain⟨u1,rfl,ie⟩:=vals1 r1;cases(show u1=Value.ref l from ie);obtain⟨Ee,v1,p1⟩:=h1.get I1;refine a1j p1 λg zg ig kp=>wpAny_pyIter_enum zg ?_;refine⟨_,_,_,_,H1,Z,I1.kept (t':=s1.toks) kp,Qc (xC (Nat.lt_succ_self _)),⟨⟨_,zg⟩,ig⟩,λc hc=>?_,q⟩;have hle:s1.heap.objs.size<=c:=by simp only[dj,fq,kS]at hc;rcases hc with rfl|rfl<;>first|exact ba _|exact Pb _ _
 exact I1.p9 hle (I1.aW.fresh hle)
theorem u6{K:a7}{b:Bool}{a:Addr}{xs:List V}{g:TG}{tb:TS}{D:Ends}{O:St}{H:Hp}(Pv:Nat->St->Hp->Prop)(h0:Pv 0 O H)(hl:∀i O H,i<=xs.length->Pv i O H->dJ b K H a xs) (hs:∀i x O H,xs[i]? =some x->Pv i O H->∀T H',Nw H H' T (.tup [.int i,x])->g (.ref T) O H' λσ2 H2=>tb {D with nx:=Pv (i+1),ct:=Pv (i+1),bk:=D.nx} σ2 H2)(hd:∀O H,Pv xs.length O H->D.nx O H): ∃W:Nat->Nat->St->Hp->Prop,(∃m,W 0 m O H)/\∀i m O H,W i m O H->((xl K b a).stop i H/\D.nx O H)\/((xl K b a).go i H/\∃N:St->Hp->Prop,(∀σ' H',N σ' H'->∃m',m'<m/\W (i+1) m' σ' H')/\∀x H',(xl K b a).gH i H x H'->g x O H' λσ2 H2=>tb {D with nx:=N,ct:=N,bk:=D.nx} σ2 H2):=by
 refine⟨λi m O H=>m=xs.length-i/\i<=xs.length/\Pv i O H,⟨xs.length,by simp,dS _,h0⟩,?_⟩;rintro i m O H ⟨rfl,hi,p⟩;have q:=hl i O H hi p;by_cases bG:i<xs.length
 ·refine .inr ⟨⟨xs,xs[i],q,by simp[bG]⟩,Pv (i+1),λσ' H' p'=>⟨xs.length-(i+1),ak,Z,bG,p'⟩,λx H' y=>?_⟩
  obtain⟨T,z,rfl,ez,nw⟩:=y;exact hs i z O H (ez xs q) p T H' nw
 ·have e:i=xs.length:=by lia
  subst e;exact .inl ⟨⟨xs,q,Z⟩,hd O H p⟩
theorem MD{K:a7}{b1 b2:Bool}{a1 a2:Addr}{xs ys:List V}{g:TG}{tb:TS}{D:Ends}{O:St}{H:Hp}(n:Nat)(hn:n=min xs.length ys.length)(Pv:Nat->St->Hp->Prop)(h0:Pv 0 O H)(hl:∀i O H,i<=n->Pv i O H->dJ b1 K H a1 xs/\dJ b2 K H a2 ys) (hs:∀i x y O H,xs[i]? =some x->ys[i]? =some y->Pv i O H->∀T H',Nw H H' T (.tup [x,y])->g (.ref T) O H' λσ2 H2=>tb {D with nx:=Pv (i+1),ct:=Pv (i+1),bk:=D.nx} σ2 H2)(hd:∀O H,Pv n O H->D.nx O H): ∃W:Nat->Nat->St->Hp->Prop,(∃m,W 0 m O H)/\∀i m O H,W i m O H->((rP K b1 b2 a1 a2).stop i H/\D.nx O H)\/((rP K b1 b2 a1 a2).go i H/\∃N:St->Hp->Prop,(∀σ' H',N σ' H'->∃m',m'<m/\W (i+1) m' σ' H')/\∀x H',(rP K b1 b2 a1 a2).gH i H x H'->g x O H' λσ2 H2=>tb {D with nx:=N,ct:=N,bk:=D.nx} σ2 H2):=by
 refine⟨λi m O H=>m=n-i/\i<=n/\Pv i O H,⟨n,by simp,dS _,h0⟩,?_⟩;rintro i m O H ⟨rfl,hi,p⟩;obtain⟨q1,q2⟩:=hl i O H hi p;by_cases bG:i<n
 ·have l1:i<xs.length:=by lia
  have l2:i<ys.length:=by lia
  refine .inr ⟨⟨xs,ys,xs[i],ys[i],q1,q2,by simp[l1],by simp[l2]⟩,Pv (i+1),λσ' H' p'=>⟨n-(i+1),ak,Z,bG,p'⟩,λx H' y=>?_⟩;obtain⟨T,z1,z2,rfl,e1,e2,nw⟩:=y;exact hs i z1 z2 O H (e1 xs q1) (e2 ys q2) p T H' nw
 ·have e:i=n:=by lia
  subst e;exact .inl ⟨⟨xs,ys,q1,q2,ak⟩,hd O H p⟩
section
variable {X:Cx}
end
set_option maxHeartbeats 1000000 in
theorem yE{X:Cx}{N:List Str}{js:List (Option Nat)}{elt tg iter:Expr}{ifs:List Expr}{scope:Scope}{pos:Pos}{wi:TI}{g:TG}{tt:TT}{te:TE}{i0:Nat}{x0:Str}{sY HC:Pos}(Z1:X.N.Nodup)(tN:X.N[i0]? =some x0)(zq:Loc X.env.scope x0)(hc:X.calm=true)(hN:wN X N js scope=true)(hS:pH X scope=true) (hi:PI X tg iter wi)(hg:∀cl s H fp aj,PG (cu X N scope cl s H fp aj) tg g)(ht:∀cl s H fp aj,G4 (cu X N scope cl s H fp aj) ifs tt)(he:∀cl s H fp aj,PE (cu X N scope cl s H fp aj) elt te) (Xe:swapsWith (.ListComp elt [⟨tg,iter,ifs,0⟩] scope pos) (some (.Name x0 sY)) HC.line X.env=pure true:=by rfl)(Yg:X.fn x0=true\/X.env.scope.names.lookup x0=some .local:=by first|exact .inl rfl|exact .inr rfl) (hs:∀x,foldedSetIterable iter X.env x=pure x:=by intro _;rfl):PS X (.Assign [.Name x0 sY] (.ListComp elt [⟨tg,iter,ifs,0⟩] scope pos) HC) (y9 (Hl js wi g tt te) (fE i0)):=by
 intro aj s O H D0 I h;have kC:=hS;unfold pH at kC;rw[eF,eF]at kC;obtain⟨⟨k1,k2⟩,k3⟩:=kC;have iV:scope.kind= .function:=eB.mp k1;have oX:∀x∈scope.names,x.2= .free->∃c,X.env.cells.lookup x.1=some c:=λx hx e=>by have:=fJ.mp k3 x hx;rw[e]at this;exact I.ok.has x.1 (.inl (eB.mp this))
 have lX:∀x∈scope.names,x.2≠ .cell:=λx hx e=>by have:=fJ.mp k3 x hx;rw[e]at this;exact fQ this
 have vW:∀x∈scope.names,x.2= .local->scope.names.lookup x.1=some .local:=λx hx e=>by have:=fJ.mp k3 x hx;rw[e]at this;exact eB.mp this
 obtain⟨cl,we,c1,c2⟩:=FF oX;rw[exec_Assign_Name_used _ _ _ _ Xe];refine az (kR (az ?_));show wpAny _ X.A (do let _<-comprehension (.ListComp elt [⟨tg,iter,ifs,0⟩] scope pos) scope X.env _ (newList []) false (eval iter X.env) (some (assign (.Name x0 sY) X.env))) _ _ s;refine az (dR (OO (use:=some (assign (.Name x0 sY) X.env)) (Q:=λ_ s'=>SP X aj D0 .next s') Z hs we iV vW (aL (hi aj s O H _ I h) λv s1 h1=>aL h1 λvT s2 h2=>?_)) (λ_ s' hq=>bc (bc hq)) λ_ _ e=>e);obtain⟨it,fp,tn,J,H2,e,I2,T,l4,f2,h2⟩:=h2;subst e;have hD:H2 s2.heap.objs.size=none:=I2.aW.fresh (ba _);obtain⟨W,⟨m0,w0⟩,turn⟩:=h2 _ _ (Nw.of hD);refine mx (ON lX (by intro y hy;simp at hy) (λh₁ oS oQ=>?_) iV);have kH:∀b∈fp,b<s2.heap.objs.size:=λb hb=>by obtain⟨o,e,_⟩:=T.obj _ _ l4 b hb;exact bS e
 have I3:Inv X aj O (upd H2 s2.heap.objs.size (.lst [])) {s2 with heap:=s2.heap.push {cls:=.type "list",dict:=none,data:=.seq ([]:List Value).toArray}}:=I2.zc (its:=[]) (t':=s2.toks) .nil (dS _);generalize p5:s2.heap.push {cls:=.type "list",dict:=none,data:=.seq ([]:List Value).toArray}=h3 at I3 oS oQ;have nV:h3.objs.size=s2.heap.objs.size+1:=by rw[<-p5,pW]
 have vS:∀b o,s2.heap.get? b=some o->h3.get? b=some o:=λb o e=>by rw[<-p5];exact bV _ e
 have f3:∀b∈fp,i7 X aj (upd H2 s2.heap.objs.size (.lst [])) b:=λb hb=>⟨by rw[bf (dw (kH b hb))];exact(f2 b hb).1,(f2 b hb).2⟩;have oO:∀b o,h3.get? b=some o->h₁.get? b=some o:=λb o e=>(oQ.2 b (dw (bS e))).trans (bV _ e);have I4:Inv (cu X N scope cl {s2 with heap:=h3} (upd H2 s2.heap.objs.size (.lst [])) fp aj) [] (stC js O) (upd H2 s2.heap.objs.size (.lst [])) {s2 with heap:=h₁,toks:=s2.toks+([]:List (Str×Value)).length}:=I3.comp (s:={s2 with heap:=h3}) hN hS c1 c2 f3 (λb hb=>by show b<h3.objs.size;rw[nV];exact xD (kH b hb)) (by simpa using oS) oO;have nW:tn 0 h₁:=T.keep _ _ _ l4 λb _ o e=>oO b o (vS b o e);have loop:codeAny (model X.prog X.w) X.A (.compLoop (.ListComp elt [⟨tg,iter,ifs,0⟩] scope pos) 0 (.ref it) (.ref s2.heap.objs.size) (compEnvC scope cl h3.objs.size X.env)) (compPost (model X.prog X.w) X.A X.xe (some (assign (.Name x0 sY) X.env)) (λ_ s'=>SP X aj D0 .next s') (.ref s2.heap.objs.size) h3.objs.size) {s2 with heap:=h₁,toks:=s2.toks+([]:List (Str×Value)).length}:=by
  refine NB (λn s'=>∃i σ' H',Inv (cu X N scope cl {s2 with heap:=h3} (upd H2 s2.heap.objs.size (.lst [])) fp aj) [] σ' H' s'/\tn i s'.heap/\(∀b∈fp,H' b=none)/\W i n σ' H') ?_ m0 ⟨0,_,_,I4,nW,λb hb=>(f3 b hb).1,w0⟩;rintro n s5 ⟨i,σ5,H5,I5,jI,m5,w5⟩;have ib:∀{H':Hp},(∀b∈fp,H' b=none)->∀b∈fp,i7 (cu X N scope cl {s2 with heap:=h3} (upd H2 s2.heap.objs.size (.lst [])) fp aj) [] H' b:=λ{H'} hn b hb=>by
   obtain⟨_,q1,q2,q3,q4,q5⟩:=f3 b hb;refine⟨hn b hb,λz=>?_,I4.ok.m6 b hb,.inl hb,λx c e=>q4 x c (c1 x c e),λp hp=>q5 p (by simpa[cu]using hp)⟩;have bG:b<h3.objs.size:=by rw[nV];exact xD (kH b hb)
   exact dw bG z
  rcases turn i n σ5 H5 w5 with⟨stop,qn⟩|⟨go,step⟩
  ·refine aL (T.done (cu X N scope cl {s2 with heap:=h3} (upd H2 s2.heap.objs.size (.lst [])) fp aj) rfl rfl rfl hc i [] s5 σ5 H5 _ I5 (ib m5) jI stop) λr s6 ⟨hr,I6⟩=>?_
   subst hr;obtain⟨m,hm,_⟩:=I6.loc;have u0:Un (eg X.stack) fp (upd H2 s2.heap.objs.size (.lst [])) H5 h3 s6.heap:=I6.ao;have I7:Inv X aj O H5 s6:=I3.wQ (s':=s6) (ch:=fp) I6.os u0 I6.aW I6.bare λb hb=>⟨(f3 b hb).2.2.2.1,(f3 b hb).2.1,(f3 b hb).2.2.2.2.1,(f3 b hb).2.2.2.2.2⟩;have hC:i7 X aj H5 h3.objs.size:=I3.p9 (ba _) I6.free;show wpAny _ X.A (assign (.Name x0 sY) X.env (.ref s2.heap.objs.size)) _ _ s6;refine wpAny_assign_Name (Hv I7 Z1 tN zq (show RelV (.ref s2.heap.objs.size) (.ref s2.heap.objs.size)from Z) (λs8 I8 Xj=>?_) Yg);obtain⟨a,sb,ha⟩:=Xj;have Zj:h3.objs.size≠a:=by
    rcases ha with rfl|ha
    ·exact hC.2.1
    ·exact λz=>hC.2.2.2.2.1 x0 a ha z.symm
   refine⟨m,hm.sameBut sb Zj,λh9 Xk=>⟨_,H5,?_,qn⟩⟩;exact I8.uL (t':=s8.toks) (fp:=[h3.objs.size]) (λb o hb e=>Xk.extBut b o (λz=>hb (by simp[z])) e) λb hb=>by rw[mz.mp hb];exact hC
  ·refine aL (T.item (cu X N scope cl {s2 with heap:=h3} (upd H2 s2.heap.objs.size (.lst [])) fp aj) rfl rfl rfl hc i [] s5 σ5 H5 _ I5 (ib m5) jI go) λr s6 ⟨u,hr,h6⟩=>?_
   subst hr;refine aL h6 λ_ s7 ⟨x,H7,I7,r7,y7,k9,wu⟩=>?_;have xn:=I7.pinned (ib wu) (T.obj _ _ k9);refine aL (hg _ _ _ _ _ _ s7 σ5 H7 x u _ xn r7 (step x H7 y7)) λ_ s8 ⟨σ8,H8,I8,q8⟩=>?_;refine aL (ht _ _ _ _ _ _ s8 σ8 H8 _ I8 q8) λok s9 ⟨H9,I9,q9⟩=>?_;have again:∀{s':a8}{σ7:St}{H7:Hp},Inv (cu X N scope cl {s2 with heap:=h3} (upd H2 s2.heap.objs.size (.lst [])) fp aj) ([]++mO fp s7.heap) σ7 H7 s'->(∃m',m'<n/\W (i+1) m' σ7 H7)->∃m,m<n/\∃i σ' H',Inv (cu X N scope cl {s2 with heap:=h3} (upd H2 s2.heap.objs.size (.lst [])) fp aj) [] σ' H' s'/\tn i s'.heap/\(∀b∈fp,H' b=none)/\W i m σ' H':=λ{s' σ7 H7} J7 n7=>by obtain⟨m',hm,w7⟩:=n7;refine⟨m',hm,i+1,σ7,H7,J7.pZ,T.keep _ _ _ k9 λb hb o e=>(J7.pin (b,o) (fP _ (fP _ (lK hb e)))).1,λb hb=>?_,w7⟩;obtain⟨o,e,d⟩:=T.obj _ _ k9 b hb;exact(J7.pin (b,o) (fP _ (fP _ (lK hb e)))).2.1
   cases ok with |false=>rw[aO fQ]at q9⊢;exact again I9 q9 |true=>rw[aR rfl]at q9⊢;refine aL (he _ _ _ _ _ _ s9 σ8 H9 _ I9 q9) λyv jb ⟨y,gC,pO,Dt,ys,iT,hz,sE⟩=>?_;refine aL (yY _ jb σ8 gC (.ref s2.heap.objs.size) [y] (.ref s2.heap.objs.size) [yv] (λ_ gB=>∃m',m'<n/\W (i+1) m' σ8 gB) pO Z (.cons Dt .nil) ⟨_,ys,y,Z,Z,iT,hz,sE⟩) λ_ qh ⟨v11,gB,uk,SR,vp⟩=>?_;exact again uk vp
 exact OP loop (T.self _ 0 _ _ _ nW loop)
theorem mq.a1I{X:Cx}{st:Stmt}{rest:List Stmt}{t u:TS}(h1:Oy X st t)(h2:fM X rest u):mq X (st::rest) (uP t u):=by intro s O H D I h;refine Gb (aL (h1 s O H {D with nx:=u D} I h) λf s1 q=>?_);cases f with |next=>obtain⟨σ',H',I',q⟩:=q;exact h2 [] s1 σ' H' D I' q |ret v=>exact q |brk=>exact q |cont=>exact q
theorem NJ:∀{zs:List Str}{us:List Value},Vals (zs.map V.str) us->CarriedAll us (zs.map PyData.str) |[],_,.nil=>.nil |z::zs,_,.cons q r=>by obtain⟨t,rfl⟩:=(show∃t,_=Value.str z t from q);exact .cons (.str z t) (NJ r)
section
variable {X:Cx}
inductive a4w(K:a7)(x:V)(vs:List V)(H:Hp)(Q:VK):Prop |mk (sep:Str)(l:Addr)(zs:List Str)(h0:x= .str sep)(h1:vs=[.ref l])(h2:aF K H l (zs.map V.str))(h3:(∀z∈zs,z.length<=8))(h4:sep.length<=8)(h5:zs.length<=1000)(h6:Q (.str (Txt.join sep zs)) H)
def rJoin(K:a7):V->List V->Hp->VK->Prop:=λx vs H Q=>a4w K x vs H Q
theorem VU(K:a7)(hK:X.K=K):OC X "str.join" (rJoin K):=by subst hK;intro aj s O H x vs v us Q I rx rv h;obtain⟨sep,l,zs,rfl,rfl,hl,hz,hs,hn,q⟩:=h;obtain⟨t,rfl⟩:=rx;obtain⟨u,rfl,ru⟩:=vals1 rv;cases(show u=Value.ref l from ru);obtain⟨its,r,pl,_⟩:=I.list hl;refine join_madeW (l:=zs) (g:=id) 8 pl.isList (by rw[List.map_id];exact NJ r) (λa ha=>hz a ha) ak ak λt' k=>?_;rw[List.map_id];exact⟨.str _,H,I.tok _,⟨_,Z⟩,q⟩
theorem Tx(K:a7)(h:X.K=K){o e:Expr}{to:TE}{t:TA}{apos dm:Pos}(ho:PE X o to)(ha:PA X [e] t) (qP:attributeBase o "join" X.env (eval o X.env)=eval o X.env:=by rfl) (qL:((backTo dm (starEach [e] X.env)).all (λx=>!x.1)&&(backToKw dm (keywordEach [] X.env)).all (λx=>x.1.isSome) &&decide ([e].length+([]:List Keyword).length+(if([]:List Keyword).isEmpty then 0 else 1)<30))=true:=by rfl) (qH:(apos.endLine==dm.line)=true:=by rfl)(hs:starEach [e] X.env=(false,eval e X.env)::starEach [] X.env:=by rfl)(qD:(backTo dm (starEach [] X.env)).any (·.1)=false:=by rfl): PE X (.Call (.Attribute o "join" apos) [e] [] dm) (y6 K "str" (rJoin K) to t):=by subst h;exact Dz PySem.F.plainAttrs_str PySem.F.slot_str_join PySem.F.type_str_join (VU X.K rfl) ho ha qP qL qH hs qD
end
section
variable {X:Cx}{aj:List (Addr×Obj)}{O:St}{H:Hp}{s:a8}
end
section
variable {X:Cx}
theorem a25:eu X (.type "range") (λxs H Q=>∃n,xs=[.int n]/\∀p H',Nw H H' p (.qj 0 n)->Q (.ref p) H'):=by intro aj s O H xs us Q I r h;obtain⟨n,rfl,q⟩:=h;obtain⟨u,rfl,t,rfl⟩:=vals1 r;refine call_range_1 ?_;have hf:H s.heap.objs.size=none:=I.aW.fresh (ba _);refine⟨.ref s.heap.objs.size,upd H s.heap.objs.size (.qj 0 n),I.laid (t':=s.toks+1+1) (λb u e=>bV _ e) (ba _) ?_,Z,q _ _ (.of hf)⟩;exact⟨_,_,_,dU _ Z⟩
end
theorem QV:isSubtype (.type "range_iterator") (.type "reversed")=pure false:=by rw[isSubtype_type];kernel_rfl
section
variable {prog:a9}{w:World}{A:ag}{E:Value->a8->Prop}{s:a8}
abbrev vj(n:Nat):Obj:={cls:=.type "range_iterator",data:=.fields #[rawInt (0+((n:Int)-1)*1),rawInt (n:Int),rawInt (-1)]}
abbrev D3(n:Nat):Bool:=Builtin.Range.rangeFitsLong 0&&Builtin.Range.rangeFitsLong n&&Builtin.Range.rangeFitsLong 1&&Builtin.Range.rangeFitsLong (-1)&&Builtin.Range.rangeFitsLong (0-1)&&Builtin.Range.rangeFitsLong (Builtin.Range.rangeSize 0 n 1)
theorem JO{n:Nat}(h:n<2^62):D3 n=true:=by unfold D3;rw[rangeSize_one];simp only[Builtin.Range.rangeFitsLong,eF,Gf];split<;>lia
theorem Sn(r:Addr)(a b c:Int)(t u v:Tok)(hc0:¬(!(Builtin.Range.rangeFitsLong a&&Builtin.Range.rangeFitsLong b&&Builtin.Range.rangeFitsLong c&&Builtin.Range.rangeFitsLong (-c)&&Builtin.Range.rangeFitsLong (a-c)&&Builtin.Range.rangeFitsLong (Builtin.Range.rangeSize a b c)))=true):Meets (Builtin.«range.__reversed__» ⟨[.ref r],[]⟩) (λ_ R s=>s.heap.get? r=some {cls:=.type "range",dict:=none,data:=.fields #[.int a t,.int b u,.int c v],slots:=#[]}/\R (.ok (.ret (.ref s.heap.objs.size))) {s with heap:=s.heap.push {cls:=.type (if(Builtin.Range.rangeFitsLong a&&Builtin.Range.rangeFitsLong b&&Builtin.Range.rangeFitsLong c&&Builtin.Range.rangeFitsLong (-c)&&Builtin.Range.rangeFitsLong (a-c)&&Builtin.Range.rangeFitsLong (Builtin.Range.rangeSize a b c))=true then "range_iterator" else "longrange_iterator"),data:=.fields #[rawInt (a+(Builtin.Range.rangeSize a b c-1)*c),rawInt (Builtin.Range.rangeSize a b c),rawInt (-c)]},toks:=s.toks}):=.of_wp λprog w A R s h=>by
 obtain⟨hp,g,d,tk,os⟩:=s;obtain⟨hl,h⟩:=h
 wp_walk;exact⟨_,Z,h⟩
theorem a23{l:Addr}{n:Nat}{t u v:Tok}{Q:Value->a8->Prop}(hn:n<2^62)(hl:s.heap.get? l=some {cls:=.type "range",data:=.fields #[.int 0 t,.int n u,.int 1 v]}) (h:Q (.ref s.heap.objs.size) {s with heap:=s.heap.push (vj n)}):wpAny (model prog w) A (call (.builtin "range.__reversed__") [.ref l]) Q E s:=by
 have hT:s.TypeIs (.ref l) "range":=⟨_,hl,Z⟩;refine call_meets Pu hT F.entry_range_reversed (F.args_range_reversed_1 _) (Sn l 0 n 1 t u v (by have:=JO hn;unfold D3 at this;rw[this];decide)) ⟨hl,?_⟩;rw[aR (JO hn)];have e:Builtin.Range.rangeSize 0 n 1=n:=by rw[rangeSize_one];split<;>lia
 rw[e];exact h
theorem a1T{l:Addr}{n:Nat}{t u v:Tok}{Q₁:Value->a8->Prop}(hn:n<2^62)(hl:s.heap.get? l=some {cls:=.type "range",data:=.fields #[.int 0 t,.int n u,.int 1 v]}) (h:Q₁ (.ref s.heap.objs.size) {s with heap:=s.heap.push (vj n)}): codeAny (model prog w) A (.call (.builtin "reversed.__new__") ⟨[.type "reversed",.ref l],[]⟩) (wants Q₁ E) s:=by
 have hT:s.TypeIs (.ref l) "range":=⟨_,hl,Z⟩;refine codeAny_of_tree ?_;show wpAny _ A.in1 (do checkBuiltinCall "reversed.__new__" ⟨[.type "reversed",.ref l],[]⟩;again (.builtin "reversed.__new__" ⟨[.type "reversed",.ref l],[]⟩)) _ _ s;refine az (rT (F.newCall_reversed_1 _) (bc ⟨plainId_quiet F.plain_reversed_new _,codeAny_builtin F.entry_reversed_new ?_⟩));rw[Around.under_plainId F.plain_reversed_new _];unfold Builtin.«reversed.__new__»;refine az (rT (newClass_reversed _) ?_)
 try dsimp only
 refine az (rT (a:=()) (by first|rfl|kernel_rfl) ?_);refine az (rT (a:=()) (by first|rfl|kernel_rfl) ?_)
 try dsimp only
 refine az (wpAny_specialOf hT Pu.lookup ?_)
 try dsimp only
 refine az (rT (Pu.bind _) ?_)
 try dsimp only
 first |rw[aO (show¬((Value.builtin "range.__reversed__"==Value.none)=true)from fQ)] |(show wpAny _ _ (if(Value.builtin "range.__reversed__"==Value.none)=true then _ else _) _ _ _;rw[aO (show¬((Value.builtin "range.__reversed__"==Value.none)=true)from fQ)])
 refine az (uo ?_);refine az (m:=runValue (.call (.builtin "range.__reversed__") ⟨[.ref l],[]⟩)) (show wpAny _ _ (call (.builtin "range.__reversed__") [.ref l]) _ _ _ from a23 hn hl ?_)
 first |exact bc h |exact az (bc (bc h))
theorem a24{l:Addr}{n:Nat}{t u v:Tok}{Q:Value->a8->Prop}(hn:n<2^62)(hl:s.heap.get? l=some {cls:=.type "range",data:=.fields #[.int 0 t,.int n u,.int 1 v]}) (h:Q (.ref s.heap.objs.size) {s with heap:=s.heap.push (vj n)}):wpAny (model prog w) A (call (.type "reversed") [.ref l]) Q E s:=by refine callType_other (U:="range_iterator") (Q₁:=λobj s₁=>obj= .ref s.heap.objs.size/\s₁={s with heap:=s.heap.push (vj n)}) aJ F.create_reversed ⟨_,_,F.mro_reversed⟩ F.made_reversed QV (F.typeCall_reversed_1 _) (a1T hn hl ⟨Z,Z⟩) ?_;rintro obj s₁ ⟨rfl,rfl⟩;exact⟨⟨_,dU _ Z,Z⟩,h⟩
end
def xk(n:Nat):It:=⟨λi _=>i<n,λi H x H'=>H'=H/\x= .int ((n:Int)-1-i),λi _=>n<=i⟩
theorem Q9{P:a9}{w:World}{K:a7}{tg:Expr}(it:Addr)(n:Nat):Turn P w K tg (xk n) [it] it (λi h=>IsRangeIter h it ((0+((n:Int)-1)*1)+(i:Nat)*(-1)) ((n:Int)-(i:Nat)) (-1)) where
 mem:=by simp
 obj:=λi h st b hb=>by
  have e:b=it:=by simpa using hb
  subst e;exact⟨_,st,λv z=>by have z':Data.fields _=Data.cell v:=z;cases z'⟩
 keep:=λi h h' st k=>k it (by simp) _ st
 item:=by
  intro X hP hw hK hc i aj s O H E I hf st hg;subst hP hw hK;obtain⟨f0,f1,f2,f3,f4,f5⟩:=hf it (by simp);have W:=Walks.range (prog:=X.prog) (w:=X.w) (I.ok.hd hc) it (0+((n:Int)-1)*1) (-1) n;refine W.item i s _ _ hg st λv h' tk hv gn kk=>?_;obtain⟨t,rfl⟩:=hv;have I1:Inv X aj O H {s with heap:=h',toks:=tk}:=I.turned (λb o hb e=>kk b o (by simpa using hb) e) f0 f1 f3 f4 f5;refine⟨_,Z,wm (s:={s with heap:=h',toks:=tk}) (n:="range_iterator") gn rfl rfl au ⟨.int ((n:Int)-1-i),H,I1,⟨t,?_⟩,⟨Z,Z⟩,gn,λb hb=>(hf b hb).1⟩⟩;have e:(0+((n:Int)-1)*1)+(i:Int)*(-1)=(n:Int)-1-i:=by lia
  rw[e]
 done:=by intro X hP hw hK hc i aj s O H E I hf st hg;subst hP hw hK;obtain⟨f0,f1,f2,f3,f4,f5⟩:=hf it (by simp);exact wpAny_pyNext_range_end (I.ok.hd hc) st (by have:n<=i:=hg;lia) λh' eb=>⟨Z,I.turned (t':=s.toks) (λb o hb e=>eb b o hb e) f0 f1 f3 f4 f5⟩
 self:=λ_ _ _ _ _ st h=>OL st h
inductive a4S(R:It->Hp->Prop)(vs:List V)(H1:Hp):Prop |mk (p:_)(n:_)(h0:vs=[.ref p])(h1:H1 p=some (.qj 0 n))(h2:0<=n)(h3:n<2^62)(h4:R (xk n.toNat) H1)
def X4(ta:TA):TI:=λO H R=>ta O H λvs H1=>a4S R vs H1
theorem Ti{X:Cx}{tg:Expr}{a:Expr}{ta:TA}{p pos:Pos}(hg:Gl X "reversed")(hm:X.mg "reversed"=none)(ha:PA X [a] ta)(hs:starEach [a] X.env=[(false,eval a X.env)]:=by rfl)(ik:starEach [] X.env=[]:=by rfl): PI X tg (.Call (.Name "reversed" p) [a] [] pos) (X4 ta):=by
 intro aj s O H R I h;refine Call_ (oM I hg hm PyProof.Rows.boot_reversed (xA (aL (ha pos aj s O H _ I h) λus s1 ⟨vs,H1,I1,r1,q1⟩=>?_) (by rw[hs,ik]) (by rw[ik];rfl)));obtain⟨l,n,e,hl,n0,n1,q⟩:=q1;subst e;obtain⟨u1,rfl,ie⟩:=vals1 r1;cases(show u1=Value.ref l from ie);obtain⟨t,u,v,e⟩:∃t u v,s1.heap.get? l=some {cls:=.type "range",data:=.fields #[.int 0 t,.int n u,.int 1 v]}:=I1.aW l _ hl;obtain⟨m,rfl⟩:∃m:Nat,n=m:=⟨n.toNat,ak⟩;refine a24 ak e ?_;have hit:IsRangeIter (s1.heap.push (vj m)) s1.heap.objs.size ((0+((m:Int)-1)*1)+((0:Nat):Int)*(-1)) ((m:Int)-((0:Nat):Int)) (-1):=by
  have e1:(0+((m:Int)-1)*1)+((0:Nat):Int)*(-1)=0+((m:Int)-1)*1:=by lia
  have e2:(m:Int)-((0:Nat):Int)=m:=by lia
  rw[e1,e2];exact dU _ rfl
 refine OL hit ?_;refine⟨s1.heap.objs.size,[s1.heap.objs.size],_,_,H1,Z,I1.kept (t':=s1.toks) λb o e=>bV _ e,Q9 _ m,hit,λb hb=>?_,q⟩;have e:b=s1.heap.objs.size:=by simpa using hb
 subst e;exact I1.p9 (ba _) (I1.aW.fresh (ba _))
theorem ZL{n:Nat}{g:TG}{tb:TS}{D:Ends}{O:St}{H:Hp}(Pv:Nat->St->Hp->Prop)(h0:Pv 0 O H) (hs:∀i O H,i<n->Pv i O H->g (.int ((n:Int)-1-i)) O H λσ2 H2=>tb {D with nx:=Pv (i+1),ct:=Pv (i+1),bk:=D.nx} σ2 H2)(hd:∀O H,Pv n O H->D.nx O H): ∃W:Nat->Nat->St->Hp->Prop,(∃m,W 0 m O H)/\∀i m O H,W i m O H->((xk n).stop i H/\D.nx O H)\/((xk n).go i H/\∃N:St->Hp->Prop,(∀σ' H',N σ' H'->∃m',m'<m/\W (i+1) m' σ' H')/\∀x H',(xk n).gH i H x H'->g x O H' λσ2 H2=>tb {D with nx:=N,ct:=N,bk:=D.nx} σ2 H2):=by
 refine⟨λi m O H=>m=n-i/\i<=n/\Pv i O H,⟨n,by simp,dS _,h0⟩,?_⟩;rintro i m O H ⟨rfl,hi,p⟩;by_cases bG:i<n
 ·refine .inr ⟨bG,Pv (i+1),λσ' H' q=>⟨n-(i+1),ak,Z,bG,q⟩,λx H' hy=>?_⟩
  obtain⟨rfl,rfl⟩:=hy;exact hs i O _ bG p
 ·have e:i=n:=by lia
  subst e;exact .inl ⟨ba _,hd O H p⟩
theorem SX(K:a7){X:Cx}(hK:X.K=K){a:Expr}{ta:TE}(ha:PE X a ta)(he:∀whole,isTrue a X.env whole=(do let v<-whole;standAt a.pos;holding [v] (truthy v)):=by intro _;rfl): PT X a (λO H Q=>ta O H λx H'=>∃k,G0 K x H' k/\Q k H'):=by subst hK;exact SW ha he
end L2
namespace Cn
open Ln
def cw(ns ms:List Int):List Int:=(ns.zip ms).map λp=>p.1*(aE ms:Int)-p.2*(aE ns:Int)
theorem VX{ns ms:List Int}{z:Int}(h:z∈cw ns ms):∃a b,a∈ns/\b∈ms/\z=a*(aE ms:Int)-b*(aE ns:Int):=by obtain⟨⟨a,b⟩,hp,rfl⟩:=fu.mp h;exact⟨a,b,(uy hp).1,(uy hp).2,Z⟩
theorem jj{a b:Int}{m n:Nat}(h:a.natAbs<=m)(g:b.natAbs<=n):(a*b).natAbs<=m*n:=by rw[g9];exact my h g
theorem zX{ns ms:List Int}(h1:∀z∈ns,z.natAbs<=1000)(h2:∀z∈ms,z.natAbs<=1000):∀z∈cw ns ms,z.natAbs<=2000000:=λz hz=>by obtain⟨a,b,ha,hb,rfl⟩:=VX hz;have l1:=lM h1;have l2:=lM h2;have e1:=jj (b:=(aE ms:Int)) (n:=1000) (h1 a ha) aI;have e2:=jj (b:=(aE ns:Int)) (n:=1000) (h2 b hb) aI;omega
def oU(zs:List Int)(i:Nat):Nat:=aE (zs.take i)
theorem Lu:∀(xs ys:List Int),aE (xs++ys)=max (aE xs) (aE ys) |[],ys=>by simp[aE] |x::xs,ys=>by show max x.natAbs (aE (xs++ys))=max (max x.natAbs (aE xs)) (aE ys);rw[Lu xs ys];lia
theorem Y8{zs:List Int}{i:Nat}{z:Int}(h:zs[i]? =some z):oU zs (i+1)=max (oU zs i) z.natAbs:=by
 unfold oU;rw[rY,h,Lu];show max _ (max z.natAbs 0)=_
 lia
def rJ(r:Rat):Rat:=if r.num<0 then-r else r
theorem a2S(r:Rat):(rJ r).num=gk r.num:=by
 unfold rJ gk;split
 ·rfl
 ·rfl
theorem a2U(r:Rat):(rJ r).den=r.den:=by
 unfold rJ;split
 ·rfl
 ·rfl
theorem a1w{a b:Int}(hb:0<b):0<=(Rat.divInt a b).num↔0<=a:=by rw[Rat.num_nonneg,Az hb]
theorem a2T{c L:Int}(hL:0<L):rJ (Rat.divInt c L)=Rat.divInt (gk c) L:=by
 have h:=a1w (a:=c) hL;unfold rJ gk;by_cases hc:c<0
 ·rw[aR hc,aR ak,Rat.neg_divInt]
 ·rw[aO hc,aO ak]
theorem a1x{a b L:Int}(hL:0<L):Rat.divInt a L<=Rat.divInt b L↔a<=b:=by
 rw[Rat.le_iff_sub_nonneg,OS _ _ ak ak,Az (gb hL hL),<-Int.sub_mul];constructor
 ·intro h
  have:=Int.nonneg_of_mul_nonneg_left h hL
  lia
 ·intro h
  exact mC ak ak
theorem Nm{a b L:Int}(hL:0<L):Rat.divInt a L<Rat.divInt b L↔a<b:=by rw[<-Rat.not_le,a1x hL];lia
theorem QU{a b l1 l2:Int}(h1:0<l1)(h2:0<l2):Rat.divInt b l2-Rat.divInt a l1=Rat.divInt (b*l1-a*l2) (l1*l2):=by rw[OS _ _ ak ak,Int.mul_comm l2 l1]
theorem a1F{j p q h L:Int}(hp:p≠0)(hh:h≠0)(e:p*L=h*q):Rat.divInt (j*j*q*q) (p*p)=Rat.divInt ((j*L)^2) (h^2):=by
 rw[Rat.divInt_eq_divInt_iff (GF hp hp) (by rw[eZ,eZ,jW,jD];exact GF hh hh)];have e2:(p*L)*(p*L)=(h*q)*(h*q):=by rw[e]
 rw[eZ,eZ,jW,jD,eZ,eZ,jW,jD];have a1:j*j*q*q*(h*h)=(j*j)*((h*q)*(h*q)):=by ac_rfl
 have a2:j*L*(j*L)*(p*p)=(j*j)*((p*L)*(p*L)):=by ac_rfl
 rw[a1,a2,e2]
end Cn
namespace Pn
def mn(a b:Rat):Rat:=if b<a then b else a
theorem yZ(a b:Rat):mn a b<=a:=by
 unfold mn;split
 ·next h=>exact Ay h
 ·exact pT
theorem DS(a b:Rat):mn a b<=b:=by
 unfold mn;split
 ·exact pT
 ·next h=>exact Ax.mp h
theorem mX{a b c:Rat}(h1:c<=a)(h2:c<=b):c<=mn a b:=by unfold mn;split<;>assumption
theorem z9(a b:Rat):mn a b=a\/mn a b=b:=by
 unfold mn;split
 ·exact .inr rfl
 ·exact .inl rfl
theorem oH{a b c:Rat}(hc:c=a\/c=b)(h1:c<=a)(h2:c<=b):mn a b=c:=by
 rcases hc with rfl|rfl
 ·exact Rat.le_antisymm (yZ _ _) (mX h1 h2)
 ·exact Rat.le_antisymm (DS _ _) (mX h1 h2)
theorem Lx{a b c:Rat}(h:a<=b)(hc:0<=c):a<=b+c:=pR h (by have:=(Rat.add_le_add_left (c:=b)).mpr hc;rwa [Rat.add_zero]at this)
section
variable (n:Nat)(own:Nat->Rat)(L:Nat->Option Nat)(r f:Int)
def Rz:Nat->Rat |0=>own 0 |i+1=>match L i with |some m=>mn (own (i+1)) (Rz i+((r*(m:Int):Int):Rat)) |none=>own (i+1)
def Pz(g:Nat->Rat):Nat->Rat |0=>g n |k+1=>match L (n-(k+1))with |some m=>mn (g (n-(k+1))) (Pz g k+((f*(m:Int):Int):Rat)) |none=>g (n-(k+1))
def fl(g:Nat->Rat)(i:Nat):Rat:=Pz n L f g (n-i)
def tf(i:Nat):Rat:=fl n L f (Rz own L r) i
end
section
variable {n:Nat}{own g:Nat->Rat}{L:Nat->Option Nat}{r f:Int}
theorem F3:fl n L f g n=g n:=by unfold fl;rw[AE];rfl
theorem F7{i m:Nat}(hi:i<n)(h:L i=some m):fl n L f g i=mn (g i) (fl n L f g (i+1)+((f*(m:Int):Int):Rat)):=by
 unfold fl;have e:n-i=(n-(i+1))+1:=by omega
 rw[e];show(match L (n-((n-(i+1))+1))with|some m=>_|none=>_)=_;have e2:n-((n-(i+1))+1)=i:=by omega
 rw[e2,h]
theorem F2{i:Nat}(hi:i<n)(h:L i=none):fl n L f g i=g i:=by
 unfold fl;have e:n-i=(n-(i+1))+1:=by lia
 rw[e];show(match L (n-((n-(i+1))+1))with|some m=>_|none=>_)=_;have e2:n-((n-(i+1))+1)=i:=by lia
 rw[e2,h]
theorem Ta:tf n own L r f n=Rz own L r n:=F3
theorem Tb{i m:Nat}(hi:i<n)(h:L i=some m):tf n own L r f i=mn (Rz own L r i) (tf n own L r f (i+1)+((f*(m:Int):Int):Rat)):=F7 hi h
theorem T9{i:Nat}(hi:i<n)(h:L i=none):tf n own L r f i=Rz own L r i:=F2 hi h
theorem G3{i m:Nat}(h:L i=some m):Rz own L r (i+1)=mn (own (i+1)) (Rz own L r i+((r*(m:Int):Int):Rat)):=by show(match L i with|some m=>_|none=>_)=_;rw[h]
theorem G2{i:Nat}(h:L i=none):Rz own L r (i+1)=own (i+1):=by show(match L i with|some m=>_|none=>_)=_;rw[h]
theorem L7{a:Int}{m:Nat}(h:0<=a):(0:Rat)<=((a*(m:Int):Int):Rat):=by have:((0:Int):Rat)<=((a*(m:Int):Int):Rat):=Rat.intCast_le_intCast.mpr (mC h ak);exact this
theorem Ac(hr:0<=r)(h0:∀i,i<=n->0<=own i):∀i,i<=n->0<=Rz own L r i |0,hi=>h0 0 hi |i+1,hi=>by cases h:L i with |none=>rw[G2 h];exact h0 _ hi |some m=>rw[G3 h];exact mX (h0 _ hi) (Lx (Ac hr h0 i ak) (L7 hr))
theorem down{C:Nat->Prop}(hn:C n)(hs:∀i,i<n->C (i+1)->C i):∀i,i<=n->C i:=by
 have key:∀k,k<=n->C (n-k):=λk=>by induction k with |zero=>intro _;exact hn |succ k ih=>
  intro hk;refine hs _ aI ?_;have e:n-(k+1)+1=n-k:=by omega
  rw[e];exact ih aI
 intro i hi;have:=key (n-i) aI;have e:n-(n-i)=i:=by omega
 rwa [e]at this
theorem Ke(hr:0<=r)(hf:0<=f)(h0:∀i,i<=n->0<=own i):∀i,i<=n->0<=tf n own L r f i:=by
 refine down ?_ λi hi ih=>?_
 ·rw[Ta];exact Ac hr h0 n (ba _)
 ·cases h:L i with |none=>rw[T9 hi h];exact Ac hr h0 i ak |some m=>rw[Tb hi h];exact mX (Ac hr h0 i ak) (Lx ih (L7 hf))
end
open Rt
theorem lJ{n:Nat}{a b:Rat}(h1:Bd n a)(h2:Bd n b):Bd n (mn a b):=by rcases z9 a b with e|e<;>rw[e]<;>assumption
theorem i5{n:Nat}{q:Rat}{z:Int}(h:Bd n q)(hz:z.natAbs<2^24):Bd (n+25) (q+(z:Rat)):=by have b:Bd 24 (z:Rat):=⟨hz,by show 1<2^24;decide⟩;exact(h.add b).mono ak
theorem Ad{b:Nat}{own:Nat->Rat}{L:Nat->Option Nat}{r:Int}(ho:∀i,Bd b (own i))(hL:∀i m,L i=some m->(r*(m:Int)).natAbs<2^24):∀i,Bd (b+25*i) (Rz own L r i) |0=>ho 0 |i+1=>by cases h:L i with |none=>rw[G2 h];exact(ho _).mono ak |some m=>rw[G3 h];exact lJ ((ho _).mono ak) ((i5 (Ad ho hL i) (hL i m h)).mono ak)
theorem MG{n b:Nat}{g:Nat->Rat}{L:Nat->Option Nat}{f:Int}(ho:∀i,i<=n->Bd b (g i))(hL:∀i m,L i=some m->(f*(m:Int)).natAbs<2^24):∀i,i<=n->Bd (b+25*(n-i)) (fl n L f g i):=by
 refine down ?_ λi hi ih=>?_
 ·rw[F3];exact(ho n (ba _)).mono ak
 ·cases h:L i with |none=>rw[F2 hi h];exact(ho i ak).mono ak |some m=>rw[F7 hi h];exact lJ ((ho i ak).mono ak) ((i5 ih (hL i m h)).mono ak)
def lst(n:Nat)(g:Nat->Rat):List Rat:=(List.range (n+1)).map g
theorem oJ(n:Nat)(g:Nat->Rat):(lst n g).length=n+1:=by simp[lst]
theorem mW{n:Nat}(g:Nat->Rat){i:Nat}(h:i<=n):(lst n g)[i]? =some (g i):=by unfold lst;rw[bN,bw (by simp;lia),uB];rfl
theorem Lh{n:Nat}{g g':Nat->Rat}{i:Nat}(h:∀k,k<=n->k≠i->g' k=g k):(lst n g).set i (g' i)=lst n g':=by
 apply uE;intro k;by_cases hk:k<=n
 ·rw[mW g' hk,List.getElem?_set]
  by_cases e:i=k
  ·subst e;rw[aR rfl,aR (by rw[oJ];lia)]
  ·rw[aO e,mW g hk,h k hk (λz=>e z.symm)]
 ·rw[j7 (by rw[sf,oJ];lia),j7 (by rw[oJ];lia)]
theorem tG{n:Nat}{g g':Nat->Rat}(h:∀k,k<=n->g' k=g k):lst n g=lst n g':=by
 apply uE;intro k;by_cases hk:k<=n
 ·rw[mW g hk,mW g' hk,h k hk]
 ·rw[j7 (by rw[oJ];lia),j7 (by rw[oJ];lia)]
end Pn
namespace Ow
open Pn Cn Ln Rt
abbrev Itm:=Option (List Int × Int)
def topR(rate sp:Int):Rat:=Rat.divInt ((sp*rate)^2) 10000
def cornO(j:Int)(ns ms:List Int):Option Rat:=if aE (cw ns ms)=0 then none else some (Rat.divInt ((j*aE ns*aE ms)^2) ((aE (cw ns ms):Int)^2))
def mnO(a:Rat):Option Rat->Rat |none=>a |some c=>mn a c
def betR(j rate:Int):Itm->Itm->Rat |some (ns,sp),some (ms,sq)=>mnO (mn (topR rate sp) (topR rate sq)) (cornO j ns ms) |_,_=>0
def atO(os:List Itm)(i:Nat):Itm:=(os[i]?).join
def ownF(j rate:Int)(os:List Itm):Nat->Rat |0=>0 |i+1=>betR j rate (atO os i) (atO os (i+1))
def leadF(os:List Itm)(i:Nat):Option Nat:=(atO os i).map λq=>aE q.1
def ownL(j rate:Int)(os:List Itm):List Rat:=(List.range (os.length+1)).map (ownF j rate os)
theorem rF{os:List Itm}{i:Nat}{o:Itm}(h:os[i]? =some o):atO os i=o:=by unfold atO;rw[h];rfl
theorem O7{os:List Itm}{i:Nat}(h:os.length<=i):atO os i=none:=by unfold atO;rw[j7 h];rfl
theorem FO(j rate:Int)(o:Itm):betR j rate o none=0:=by unfold betR;split<;>simp_all
theorem a2p(j rate:Int)(o:Itm):betR j rate none o=0:=by unfold betR;split<;>simp_all
theorem Ks(j rate:Int)(os:List Itm):∀n,n=os.length->ownF j rate os n=0 |0,_=>rfl |n+1,h=>by show betR j rate (atO os n) (atO os (n+1))=0;rw[O7 (i:=n+1) ak];exact FO _ _ _
theorem Ko(j rate:Int)(os:List Itm):(ownL j rate os).length=os.length+1:=by simp[ownL]
theorem Kp(j rate:Int)(os:List Itm){i:Nat}(h:i<=os.length):(ownL j rate os)[i]? =some (ownF j rate os i):=by unfold ownL;rw[bN,bw (by simp;lia),uB];rfl
theorem TH(j rate:Int){os:List Itm}(h:os≠[]):ownL j rate os=[0]++(List.range (os.length-1)).map (λi=>ownF j rate os (i+1))++[0]:=by
 have h0:0<os.length:=AJ.mpr h;apply uE;intro i;by_cases hi:i<=os.length
 ·rw[Kp j rate os hi]
  rcases Nat.eq_zero_or_pos i with rfl|hp
  ·rfl
  ·by_cases hl:i=os.length
   ·rw[nQ (by simp;lia),hl,Ks j rate os _ rfl]
    have:os.length-([0]++List.map (λi=>ownF j rate os (i+1)) (List.range (os.length-1))).length=0:=by simp;lia
    rw[this];rfl
   ·rw[pV (by simp;lia),nQ (by simp;lia),bN]
    have e:i-[(0:Rat)].length=i-1:=rfl;rw[e,bw (by simp;lia),uB];show some _=some (ownF j rate os (i-1+1));rw[Nat.sub_add_cancel hp]
 ·rw[j7 (by rw[Ko];lia),j7 (by simp;lia)]
theorem AX(rate sp:Int):0<=topR rate sp:=by
 unfold topR;rw[Az au,eZ,eZ,jW,jD];rcases Int.le_total 0 (sp*rate)with h|h
 ·exact mC h h
 ·exact Po h h
theorem Ri(a:Int):0<=a^2:=by
 rw[eZ,eZ,jW,jD];rcases Int.le_total 0 a with h|h
 ·exact mC h h
 ·exact Po h h
theorem a1G{j:Int}{ns ms:List Int}{c:Rat}(h:cornO j ns ms=some c):0<=c:=by
 unfold cornO at h;split at h
 ·cases h
 ·next h0=>
  cases h;rw[Az]
  ·exact Ri _
  ·rw[eZ,eZ,jW,jD];exact gb ak ak
theorem a2q(j rate:Int)(o p:Itm):0<=betR j rate o p:=by
 unfold betR;split
 ·next ns sp ms sq=>
  have h:=mX (AX rate sp) (AX rate sq);unfold mnO;split
  ·exact h
  ·next c e=>exact mX h (a1G e)
 ·exact pT
theorem Kr(j rate:Int)(os:List Itm):∀i,0<=ownF j rate os i |0=>pT |i+1=>a2q _ _ _ _
def OkI(o:Itm):Prop:=∀ns sp,o=some (ns,sp)->(∀z∈ns,(z.natAbs:Int)<=100)/\1<=sp/\sp<=20
theorem B8{a:Int}{m:Nat}(h:a.natAbs<=m):(a^2).natAbs<=m*m:=by rw[eZ,eZ,jW,jD];exact jj h h
theorem jG{rate sp:Int}(h1:1<=sp)(h2:sp<=20)(h3:10<=rate)(h4:rate<=200):Bd 64 (topR rate sp):=by
 have jr:(2:Nat)^64=18446744073709551616:=by decide
 have a:=B8 (jj (a:=sp) (b:=rate) (m:=20) (n:=200) ak ak);exact qv au (by rw[jr];lia) au
theorem FC{j:Int}{ns ms:List Int}{c:Rat}(h1:1<=j)(h2:j<=50)(hn:∀z∈ns,(z.natAbs:Int)<=100)(hm:∀z∈ms,(z.natAbs:Int)<=100)(h:cornO j ns ms=some c):Bd 64 c:=by
 have jr:(2:Nat)^64=18446744073709551616:=by decide
 have cb:=zX (λz hz=>by have:=hn z hz;lia) (λz hz=>by have:=hm z hz;lia) (ns:=ns) (ms:=ms);have hb:=lM cb;have l1:=lM (ns:=ns) (m:=100) λz hz=>by have:=hn z hz;lia
 have l2:=lM (ns:=ms) (m:=100) λz hz=>by have:=hm z hz;lia
 unfold cornO at h;split at h
 ·cases h
 ·next h0=>cases h;have a:=B8 (jj (jj (a:=j) (b:=(aE ns:Int)) (m:=50) (n:=100) ak ak) (b:=(aE ms:Int)) (n:=100) ak);have b:=B8 (a:=(aE (cw ns ms):Int)) (m:=2000000) ak;refine qv ?_ (by rw[jr];lia) (by rw[jr];lia);rw[eZ,eZ,jW,jD];exact GF ak ak
theorem lJ{n:Nat}{a b:Rat}(h1:Bd n a)(h2:Bd n b):Bd n (mn a b):=by rcases z9 a b with e|e<;>rw[e]<;>assumption
theorem GJ:Bd 64 (0:Rat):=⟨ au,au⟩
theorem a2r{j rate:Int}{o p:Itm}(h1:1<=j)(h2:j<=50)(h3:10<=rate)(h4:rate<=200)(ho:OkI o)(hp:OkI p):Bd 64 (betR j rate o p):=by
 unfold betR;split
 ·next ns sp ms sq=>
  obtain⟨a1,a2,a3⟩:=ho ns sp rfl;obtain⟨b1,b2,b3⟩:=hp ms sq rfl;have h:=lJ (jG a2 a3 h3 h4) (jG b2 b3 h3 h4);unfold mnO;split
  ·exact h
  ·next c e=>exact lJ h (FC h1 h2 a1 b1 e)
 ·exact GJ
def OkIs(os:List Itm):Prop:=∀i,OkI (atO os i)
theorem DB{j rate:Int}{os:List Itm}(h1:1<=j)(h2:j<=50)(h3:10<=rate)(h4:rate<=200)(ho:OkIs os):∀i,Bd 64 (ownF j rate os i) |0=>GJ |i+1=>a2r h1 h2 h3 h4 (ho i) (ho (i+1))
end Ow
namespace Wk
open PySem L2
def nH(pl ns:List Int):List Int:=List.zipWith (λa b=>a+b) pl ns
theorem Aa{pl ns:List Int}(h:ns.length=pl.length):(nH pl ns).length=pl.length:=by unfold nH;rw[List.length_zipWith,h];exact Nat.min_self _
theorem Of{pl ns:List Int}{i:Nat}{a b:Int}(h1:pl[i]? =some a)(h2:ns[i]? =some b):(nH pl ns)[i]? =some (a+b):=by unfold nH;rw[List.getElem?_zipWith,h1,h2]
structure kN(rs pl:List Int):Prop where
 len:pl.length=rs.length
 at':∀(i:Nat)(x r:Int),pl[i]? =some x->rs[i]? =some r->0<=x/\x<=r
end Wk
namespace L2
open PySem PySem.Spec PyProof.Rows
def G8(z:Str):It:=⟨λi _=>i<z.cps.size,λi H x H'=>H'=H/\∃c,z.cps.toList[i]? =some c/\x= .str ⟨#[c]⟩,λi _=>z.cps.size<=i⟩
theorem Q8{P:a9}{w:World}{K:a7}{tg:Expr}(it:Addr)(z:Str)(t:Tok)(ty:String)(Em:["enumerate","zip","dict_itemiterator","dict_reverseitemiterator","odict_iterator","itertools.zip_longest","itertools.pairwise"].contains ty=false) (W:∀A':ag,A'.handled=none->Walks P w A' it [it] [it] z.cps.size (SignAt z) (λi h=>h.IsStrIter it ty z t i)) (self:∀(A:ag)(i:Nat)(s:a8)(Q:Value->a8->Prop)(E:Value->a8->Prop),s.heap.IsStrIter it ty z t i->Q (.ref it) s->wpAny (model P w) A (pyIter (.ref it)) Q E s): Turn P w K tg (G8 z) [it] it (λi h=>h.IsStrIter it ty z t i/\i<=z.cps.size) where
 mem:=by simp
 obj:=λi h st b hb=>by
  have e:b=it:=by simpa using hb
  subst e;obtain⟨⟨o,e,c,d⟩,_⟩:=st;exact⟨o,e,λv z=>by rw[d]at z;cases z⟩
 keep:=λi h h' st k=>⟨let⟨o,e,r⟩:=st.1;⟨o,k it (by simp) o e,r⟩,st.2⟩
 item:=by intro X hP hw hK hc i aj s O H E I hf st hg;subst hP hw hK;obtain⟨f0,f1,f2,f3,f4,f5⟩:=hf it (by simp);refine(W X.A (I.ok.hd hc)).item i s _ _ hg st.1 λv h' tk hv gn kk=>?_;obtain⟨c,u,ec,rfl⟩:=hv;have I1:Inv X aj O H {s with heap:=h',toks:=tk}:=I.turned (λb o hb e=>kk b o (by simpa using hb) e) f0 f1 f3 f4 f5;obtain⟨o,e,cl,d⟩:=id gn;exact⟨_,Z,wm (s:={s with heap:=h',toks:=tk}) e cl d Em ⟨.str ⟨#[c]⟩,H,I1,⟨u,Z⟩,⟨Z,c,by simpa using ec,Z⟩,⟨gn,hg⟩,λb hb=>(hf b hb).1⟩⟩
 done:=by intro X hP hw hK hc i aj s O H E I hf st hg;subst hP hw hK;obtain⟨f0,f1,f2,f3,f4,f5⟩:=hf it (by simp);obtain⟨st,hle⟩:=st;have ei:i=z.cps.size:=Nat.le_antisymm hle hg;subst ei;exact(W X.A (I.ok.hd hc)).done s _ _ st λh' tk eb=>⟨Z,I.turned (λb o hb e=>eb b o (by simpa using hb) e) f0 f1 f3 f4 f5⟩
 self:=λA i s Q E st h=>self A i s Q E st.1 h
section
variable {X:Cx} {tg:Expr}
inductive a4P(R:It->Hp->Prop)(x:V)(H1:Hp):Prop |mk (z:_)(h0:x= .str z)(h1:R (G8 z) H1)
def X1(tl:TE):TI:=λO H R=>tl O H λx H1=>a4P R x H1
theorem Th{l:Expr}{tl:TE}(hl:PE X l tl):PI X tg l (X1 tl):=by
 intro aj s O H R I h;refine aL (hl aj s O H _ I h) λv s1 ⟨x,H1,I1,r1,q1⟩=>?_;obtain⟨z,e,q⟩:=q1;subst e;obtain⟨t,rfl⟩:=r1;have fin:∀ty,["enumerate","zip","dict_itemiterator","dict_reverseitemiterator","odict_iterator","itertools.zip_longest","itertools.pairwise"].contains ty=false->(∀A':ag,A'.handled=none->Walks X.prog X.w A' s1.heap.objs.size [s1.heap.objs.size] [s1.heap.objs.size] z.cps.size (SignAt z) (λi h=>h.IsStrIter s1.heap.objs.size ty z t i))->(∀(A:ag)(i:Nat)(s:a8)(Q:Value->a8->Prop)(E:Value->a8->Prop),s.heap.IsStrIter s1.heap.objs.size ty z t i->Q (.ref s1.heap.objs.size) s->wpAny (model X.prog X.w) A (pyIter (.ref s1.heap.objs.size)) Q E s)->G5 X aj O tg R (.ref s1.heap.objs.size) {s1 with heap:=s1.heap.push {cls:=.type ty,data:=.fields #[.str z t,.int 0 0]}}:=λty h1 h2 h3=>by
  refine⟨s1.heap.objs.size,[s1.heap.objs.size],_,_,H1,Z,I1.kept (t':=s1.toks) λb o e=>bV _ e,Q8 _ z t ty h1 h2 h3,⟨⟨_,dU _ Z,Z,Z⟩,dS _⟩,λb hb=>?_,q⟩;have e:b=s1.heap.objs.size:=by simpa using hb
  subst e;exact I1.p9 (ba _) (I1.aW.fresh (ba _))
 cases ha:z.cps.all (·<128)
 ·exact wpAny_pyIter_wide ha (fin "str_iterator" au (λA' hA=>Walks.strWide hA _ z t) (λ_ _ _ _ _ st h=>wpAny_pyIter_striter_wide st h))
 ·exact wpAny_pyIter_ascii ha (fin "str_ascii_iterator" au (λA' hA=>Walks.strAscii hA _ z t) (λ_ _ _ _ _ st h=>wpAny_pyIter_striter_ascii st h))
theorem a1L{z:Str}{f:Nat->Bool}{te:TE}{Q:VK}{D:Addr}{H H0:Hp}(rest:St)(nw:Nw H H0 D (.lst []))(hz:z.length<=1000) (hs:∀(c:Nat)(H2:Hp)(Q':VK),c∈z.cps.toList->aA H H2->(∀H3,aA H2 H3->Q' (.bl (f c)) H3)->te (some (.str ⟨#[c]⟩)::rest) H2 Q') (hq:∀H',aA H H'->H' D=some (.lst ((z.cps.toList.map f).map V.bl))->Q (.ref D) H'):j6 (G8 z) (fE 0) i9 te Q D (none::rest) H0:=by
 have hl:z.cps.toList.length=z.cps.size:=by simp
 refine NA (xs:=z.cps.toList.map λc=>V.str ⟨#[c]⟩) (bs:=z.cps.toList.map f) rest nw (by simp) (by simpa[Str.length]using hz) ?_ ?_ ?_ hq
 ·intro i x H2 ex s2
  rw[bN]at ex;cases ec:z.cps.toList[i]? with |none=>rw[ec]at ex;cases ex |some c=>rw[ec]at ex;cases ex;refine⟨by have:=(cy.mp ec).1;show i<z.cps.size;omega,λy H3 ⟨e3,c',N9,e⟩=>⟨e3,?_⟩⟩;rw[ec]at N9;cases N9;exact e
 ·intro H2 s2
  show z.cps.size<=(z.cps.toList.map _).length;rw[bu,hl];exact ba _
 ·intro i x b H2 Q' ex eb s2 lP
  rw[bN]at ex eb;cases ec:z.cps.toList[i]? with |none=>rw[ec]at ex;cases ex |some c=>rw[ec]at ex eb;cases ex;cases eb;exact hs c H2 Q' (fO ec) s2 lP
theorem TY:cx X (compareOp .In) (λx y H Q=>∃c j,x= .str ⟨#[c]⟩/\y= .str j/\Q (.bl (decide (c∈j.cps.toList))) H):=by intro aj s O H x y v u Q I rx ry h;obtain⟨c,j,rfl,rfl,q⟩:=h;refine TX aj s O H _ _ v u Q I rx ry ⟨_,_,Z,Z,?_⟩;rw[PySem.StrLaws.found_one];exact q
inductive a4E(K:a7)(x:V)(y:V)(H:Hp)(Q:VK):Prop |mk (p:_)(xs:_)(d:_)(ds:_)(h0:y= .ref p)(h1:aK K H p xs)(h2:RD K H x d)(h3:aC K H xs ds)(h4:SeqAt.shaped d=true)(h5:(∀e∈ds,SeqAt.shaped e=true))(h6:Q (.bl (ds.any λe=>PyData.eqv e d)) H)
def SK(K:a7):R2:=λx y H Q=>a4E K x y H Q
theorem WW(K:a7)(hK:X.K=K)(hu:X.A.units+65<cLine):cx X (compareOp .In) (SK K):=by
 subst hK;intro aj s O H x y v u Q I rx ry h;obtain⟨p,xs,d,ds,rfl,hx,hd,jQ,sd,RM,q⟩:=h;cases ry;obtain⟨its,r,pl,hz⟩:=I.tuple hx;obtain⟨k1,k2⟩:=MU I hu rx hd sd r jQ RM;refine SeqAt.in_tupleAt (qU s.heap d) (show s.heap.IsTuple p its.toArray from pl) (λw hw=>k1 w (by simpa using hw)) ⟨.bl _,H,I,Z,?_⟩;have e:its.toArray.any (qU s.heap d)=ds.any λe=>PyData.eqv e d:=by rw[<-k2];simp
 rw[e];exact q
end
inductive a4J(K:a7)(x:V)(y:V)(H:Hp)(Q:VK):Prop |mk (a:_)(b:_)(xs:_)(ys:_)(h0:x= .ref a)(h1:y= .ref b)(h2:aK K H a xs)(h3:aK K H b ys)(h4:xs.length+ys.length<=sizeLine)(h5:∀c H',aA H H'->aK K H' c (xs++ys)->Q (.ref c) H')
def SM(K:a7):R2:=λx y H Q=>a4J K x y H Q
section
variable {X:Cx}
theorem a21(K:a7)(hK:X.K=K):cx X (binaryOp .Add) (SM K):=by
 subst hK;intro aj s O H x y v u Q I rx ry h;obtain⟨a,b,xs,ys,rfl,rfl,ha,hb,hz,q⟩:=h;cases rx;cases ry;obtain⟨its,r1,p1,_⟩:=I.tuple ha;obtain⟨gf,r2,p2,_⟩:=I.tuple hb;by_cases e0:xs=[]
 ·subst e0
  have i0:its=[]:=r1.DM.mpr rfl;subst i0;obtain⟨⟨cls,dd,data,sl⟩,ho,hc,n,hd⟩:=id p1;obtain⟨⟨NF,ue,data2,sQ⟩,iU,iW,n2,hd2⟩:=id p2;simp only at hc hd iW hd2;subst hc hd iW hd2;exact concat_meets ⟨_,ho,Z⟩ ⟨_,iU,Z⟩ noFill_tuple_add seq_tuple_add OX OY (OZ _ _) (tuple_addW0 a b _ gf.toArray n n2 dd ue sl sQ (by simp)) ⟨ho,iU,⟨.ref b,H,I,Z,q _ _ (aA.refl H) hb⟩⟩
 ·refine HT.a20 p1 p2 (λz=>e0 (r1.DM.mp z)) (λz=>⟨.ref a,H,I,Z,?_⟩) (λz=>?_) (by rw[<-r1.length,<-r2.length];exact hz)
  ·have e1:ys=[]:=r2.DM.mp z
   subst e1;exact q _ _ (aA.refl H) (by rw[sj];exact ha)
  ·have hf:H s.heap.objs.size=none:=I.aW.fresh (ba _)
   have nw:Nw H (upd H s.heap.objs.size (.tup (xs++ys))) s.heap.objs.size (.tup (xs++ys)):=.of hf;refine⟨.ref s.heap.objs.size,_,I.laid (t':=s.toks) (o:=.tup (xs++ys)) (λb ob q=>bV _ q) (ba _) ?_,Z,q _ _ nw.same (aK.of nw.at')⟩;exact⟨by rw[cD];exact hz,_,r1.append r2,IsTup.new _ _⟩
theorem yJ(K:a7)(h:X.K=K){o e:Expr}{to:TE}{t:TA}{apos dm:Pos}(ho:PE X o to)(ha:PA X [e] t) (qP:attributeBase o "extend" X.env (eval o X.env)=eval o X.env:=by rfl) (qL:((backTo dm (starEach [e] X.env)).all (λx=>!x.1)&&(backToKw dm (keywordEach [] X.env)).all (λx=>x.1.isSome) &&decide ([e].length+([]:List Keyword).length+(if([]:List Keyword).isEmpty then 0 else 1)<30))=true:=by rfl) (qH:(apos.endLine==dm.line)=true:=by rfl)(hs:starEach [e] X.env=(false,eval e X.env)::starEach [] X.env:=by rfl)(qD:(backTo dm (starEach [] X.env)).any (·.1)=false:=by rfl): PE X (.Call (.Attribute o "extend" apos) [e] [] dm) (y6 K "list" K7 to t):=by subst h;exact Dz PySem.F.plainAttrs_list PySem.F.slot_list_extend PySem.F.type_list_extend VT ho ha qP qL qH hs qD
open PyProof
end
end L2
namespace L2
open PySem PySem.Spec PyProof.Rows
section
variable {K:a7} {H H' H2:Hp}
end
section
variable {X:Cx} {tg:Expr}
end
theorem a1K{K:a7}{b1 b2:Bool}{l1 l2:Addr}{xs ys:List V}{bs:List Bool}{te:TE}{Q:VK}{D:Addr}{H H0:Hp}{n:Nat}(rest:St)(hn:n=2)(h1:dJ b1 K H l1 xs)(h2:dJ b2 K H l2 ys)(nw:Nw H H0 D (.lst [])) (hl:min xs.length ys.length=bs.length)(hz:bs.length<=100000) (hs:∀(i:Nat)(x y:V)(b:Bool)(H2:Hp)(Q':VK),xs[i]? =some x->ys[i]? =some y->bs[i]? =some b->aA H H2->(∀H3,aA H2 H3->Q' (.bl b) H3)->te (some x::some y::rest) H2 Q') (hq:∀H',aA H H'->H' D=some (.lst (bs.map V.bl))->Q (.ref D) H'):j6 (rP K b1 b2 l1 l2) (zI K n (wo (fE 0) (wo (fE 1) ES))) i9 te Q D (none::none::rest) H0:=by
 subst hn;have hD:=nw.no;refine rC bs.length (λi O H2=>aA H H2/\H2 D=some (.lst ((bs.take i).map V.bl))/\∃v v',O=v::v'::rest) ?_ ?_ ?_
 ·exact⟨nw.same,nw.at',none,none,Z⟩
 ·rintro i O H2 hi ⟨s2,d2,v,v',rfl⟩
  have hx:i<xs.length:=by lia
  have hy:i<ys.length:=by lia
  have ex:=bw hx;have ey:=bw hy;have eb:=bw hi;refine⟨⟨xs,ys,_,_,h1.go s2,h2.go s2,ex,ey⟩,λy' H3 kr=>?_⟩;obtain⟨T,x0,y0,rfl,k1,k2,n3⟩:=kr;have e1:=k1 _ (h1.go s2);have e2:=k2 _ (h2.go s2);rw[ex]at e1;rw[ey]at e2;cases e1;cases e2;refine⟨T,_,Z,aK.of n3.at',Z,_,_,Z,_,_,Z,Z,?_⟩;refine yes (aY ?_);refine hs i _ _ _ _ _ ex ey eb (s2.trans n3.same) λH4 s4=>?_;refine⟨_,s4 _ _ (n3.same _ _ d2),?_,bs.length-(i+1),ak,Z,ak,λb o e=>?_,?_,_,_,Z⟩
  ·rw[bu,kW]
   have:(100000:Nat)<sizeLine:=by decide
   lia
  ·rw[bf (cC e hD)];exact s4 b o (n3.same b o (s2 b o e))
  ·rw[bX,rY,eb,i8];rfl
 ·rintro O H2 ⟨s2,d2,v,v',rfl⟩
  refine⟨⟨xs,ys,h1.go s2,h2.go s2,ak⟩,hq H2 s2 ?_⟩;rw[d2,AG]
section
variable {P:a9}{w:World}{K:a7}{mg:bI}{ao:Heap}
end
section
variable {X:Cx}{k:Nat}{x m:Str}{C:Addr}{p pos apos:Pos}{o e:Expr}{es:List Expr}{t:TA}{ta:TE}{sp:Sp}
end
section
variable {K:a7} {H H' H2:Hp}
end
abbrev i4(elt tg iter dW dG:Expr)(scope:Scope)(pos:Pos):Expr:=.ListComp elt [⟨tg,iter,[],0⟩,⟨dW,dG,[],0⟩] scope pos
theorem a1P(elt tg iter dW dG:Expr)(scope:Scope)(pos:Pos)(it acc:Value)(env:Env): compTurn (i4 elt tg iter dW dG scope pos) 0 it acc env=(do standAt iter.pos match<-pyNext it with
 |none=>pure (.done .next) |some v=>
  letOwnedTupleGo tg it v
  assign tg env v
  let mut ok:=true
  for c in([]:List Expr) do if ok then ok<-isTrue c env (eval c env)
  if ok then
   let x<-eval dG env
   standAt dG.pos
   let x<-foldedSetIterable dG env x
   let _<-runOwn (.compStart (i4 elt tg iter dW dG scope pos) 1 (<-holding [x] (pyIter x)) acc env) env
  again (.compLoop (i4 elt tg iter dW dG scope pos) 0 it acc env)):=by rfl
theorem a1O(elt tg iter dW dG:Expr)(scope:Scope)(pos:Pos)(it acc:Value)(env:Env): compTurn (i4 elt tg iter dW dG scope pos) 1 it acc env=(do standAt dG.pos match<-pyNext it with
 |none=>pure (.done .next) |some v=>
  letOwnedTupleGo dW it v
  assign dW env v
  (do let _<-call (.builtin "list.append") [acc,<-eval elt env])
  again (.compLoop (i4 elt tg iter dW dG scope pos) 1 it acc env)):=by rfl
section
variable {prog:a9}{w:World}{A:ag}{R:Result->a8->Prop}{s:a8}{elt tg iter dW dG:Expr}{scope:Scope}{pos:Pos}{it acc:Value}{env:Env}
theorem a1R(I:Nat->a8->Prop) (turn:∀n s,I n s->wpAny (model prog w) A (pyNext it) (λr s₁=>match r with |none=>R (.ok .next) s₁ |some v=>wpAny (model prog w) A (letOwnedTupleGo dW it v) (λ_ s₁=>wpAny (model prog w) A (assign dW env v) (λ_ s₂=>wpAny (model prog w) A (eval elt env) (λx s₄=>wpAny (model prog w) A (call (.builtin "list.append") [acc,x]) (λ_ s₅=>∃m,m<n/\I m s₅) (λ_ _=>False) s₄) (λ_ _=>False) s₂) (λ_ _=>False) s₁) (λ_ _=>False) s₁) (λ_ _=>False) s) (n:Nat)(h:I n s):codeAny (model prog w) A (.compLoop (i4 elt tg iter dW dG scope pos) 1 it acc env) R s:=by refine codeAny_loop Z I (λn s hI=>?_) n h;show wpAny _ A ((compTurn (i4 elt tg iter dW dG scope pos) 1 it acc env).onRaise (λx=>do noteFrame x env;theTreesLotGoes x)) _ _ s;refine wpAny_noted ?_;rw[a1O];refine az (kR (az (dR (turn n s hI) (λr s₁ h₁=>?_) λ_ _ h'=>h'.elim)));cases r with |none=>exact bc h₁ |some v=>refine az (dR h₁ (λ_ Ho h₁=>?_) λ_ _ h'=>h'.elim);refine az (dR h₁ (λ_ s₂ h₂=>?_) λ_ _ h'=>h'.elim);exact az (az (dR h₂ (λx s₄ h₄=>az (dR h₄ (λ_ s₅ h₅=>bc (bc ⟨Z,h₅⟩)) λ_ _ h'=>h'.elim)) λ_ _ h'=>h'.elim))
theorem a1Q(h0:codeAny (model prog w) A (.compLoop (i4 elt tg iter dW dG scope pos) 1 it acc env) R s) (h:wpAny (model prog w) A (pyIter it) (λLG s'=>codeAny (model prog w) A (.compLoop (i4 elt tg iter dW dG scope pos) 1 LG acc env) R s') (notedBy (model prog w) A env λx s'=>R (.error x) s') s): codeAny (model prog w) A (.compStart (i4 elt tg iter dW dG scope pos) 1 it acc env) R s:=by
 refine codeAny_of_tree ?_;show wpAny _ _ ((compStart (i4 elt tg iter dW dG scope pos) 1 it acc env).onRaise (λx=>do noteFrame x env;standAt theWindowsPlace)) _ _ s;refine wpAny_notedAt ?_;unfold compStart;show wpAny _ _ (ask>>=_) _ _ s;refine az (wpAny_askSetting (wpAny_ite ?_));split
 ·first |exact az (bc (bc (And.intro Z h0))) |exact bc (And.intro Z h0)
 ·first |exact az (uo (az (kR (az (dR h (λLG s' h'=>bc ⟨Z,h'⟩) λ_ _ h'=>h')))))
theorem a1S(I:Nat->a8->Prop)(ik:∀x,foldedSetIterable dG env x=pure x) (turn:∀n s,I n s->wpAny (model prog w) A (pyNext it) (λr s₁=>match r with |none=>R (.ok .next) s₁ |some v=>wpAny (model prog w) A (letOwnedTupleGo tg it v) (λ_ s₁=>wpAny (model prog w) A (assign tg env v) (λ_ s₂=>wpAny (model prog w) A (eval dG env) (λx s₃=>wpAny (model prog w) A (pyIter x) (λzo s₄=>codeAny (model prog w) A (.compStart (i4 elt tg iter dW dG scope pos) 1 zo acc env) (λr s₅=>match r with| .ok _=>∃m,m<n/\I m s₅| .error _=>False) s₄) (λ_ _=>False) s₃) (λ_ _=>False) s₂) (λ_ _=>False) s₁) (λ_ _=>False) s₁) (λ_ _=>False) s) (n:Nat)(h:I n s):codeAny (model prog w) A (.compLoop (i4 elt tg iter dW dG scope pos) 0 it acc env) R s:=by refine codeAny_loop Z I (λn s hI=>?_) n h;show wpAny _ A ((compTurn (i4 elt tg iter dW dG scope pos) 0 it acc env).onRaise (λx=>do noteFrame x env;theTreesLotGoes x)) _ _ s;refine wpAny_noted ?_;rw[a1P];refine az (kR (az (dR (turn n s hI) (λr s₁ h₁=>?_) λ_ _ h'=>h'.elim)));cases r with |none=>exact bc h₁ |some v=>refine az (dR h₁ (λ_ Ho h₁=>?_) λ_ _ h'=>h'.elim);refine az (dR h₁ (λ_ s₂ h₂=>?_) λ_ _ h'=>h'.elim);refine az (wpAny_tests_nil ?_);simp only[kT];refine az (dR h₂ (λx s₃ h₃=>?_) λ_ _ h'=>h'.elim);refine az (kR (az (rT (ik x) (az (gU (dR h₃ (λzo s₄ h₄=>?_) λ_ _ h'=>h'.elim))))));refine az (wpAny_runOwn (ur h₄ λr s₅ h₅=>?_));cases r with |error e=>exact h₅.elim |ok f=>exact bc ⟨Z,h₅⟩
end
def a4M(J:It)(g:TG)(te:TE)(D:Addr)(R:St->Hp->Prop)(O:St)(H:Hp):Prop:=∃W:Nat->Nat->St->Hp->Prop,(∃m,W 0 m O H)/\∀i m σ' H',W i m σ' H'->(J.stop i H'/\R σ' H')\/(J.go i H'/\∀x H2,J.gH i H' x H2->g x σ' H2 λσ3 H3=>te σ3 H3 λy H5=>∃ys,H5 D=some (.lst ys)/\ys.length<sizeLine/\∃m',m'<m/\W (i+1) m' σ3 (upd H5 D (.lst (ys++[y]))))
def OJ(J:It)(g:TG)(mD:TI)(g2:TG)(te:TE)(Q:VK)(D:Addr)(O:St)(H:Hp):Prop:=∃W:Nat->Nat->St->Hp->Prop,(∃m,W 0 m O H)/\∀i m σ' H',W i m σ' H'->(J.stop i H'/\Q (.ref D) H')\/(J.go i H'/\∀x H2,J.gH i H' x H2->g x σ' H2 λσ3 H3=>mD σ3 H3 λJ2 H4=>a4M J2 g2 te D (λσ5 H5=>∃m',m'<m/\W (i+1) m' σ5 H5) σ3 H4)
def QN(js:List (Option Nat))(wi:TI)(g:TG)(mD:TI)(g2:TG)(te:TE):TE:=λO H Q=>wi O H λJ H1=>∀D H2,Nw H1 H2 D (.lst [])->OJ J g mD g2 te Q D (stC js O) H2
set_option maxHeartbeats 1000000 in
theorem Tu{X:Cx}{N:List Str}{js:List (Option Nat)}{elt tg iter dW dG:Expr}{scope:Scope}{pos:Pos}{wi:TI}{g:TG}{mD:TI}{g2:TG}{te:TE}(hc:X.calm=true)(hN:wN X N js scope=true)(hS:pH X scope=true) (hi:PI X tg iter wi)(hg:∀cl s H fp aj,PG (cu X N scope cl s H fp aj) tg g)(oW:∀cl s H fp aj,PI (cu X N scope cl s H fp aj) dW dG mD)(Yb:∀cl s H fp aj,PG (cu X N scope cl s H fp aj) dW g2)(he:∀cl s H fp aj,PE (cu X N scope cl s H fp aj) elt te) (hs:∀x,foldedSetIterable iter X.env x=pure x:=by intro _;rfl)(ik:∀env x,foldedSetIterable dG env x=pure x:=by intro _ _;rfl):PE X (.ListComp elt [⟨tg,iter,[],0⟩,⟨dW,dG,[],0⟩] scope pos) (QN js wi g mD g2 te):=by
 intro aj s O H Q I h;have kC:=hS;unfold pH at kC;rw[eF,eF]at kC;obtain⟨⟨k1,k2⟩,k3⟩:=kC;have iV:scope.kind= .function:=eB.mp k1;have oX:∀x∈scope.names,x.2= .free->∃c,X.env.cells.lookup x.1=some c:=λx hx e=>by have:=fJ.mp k3 x hx;rw[e]at this;exact I.ok.has x.1 (.inl (eB.mp this))
 have lX:∀x∈scope.names,x.2≠ .cell:=λx hx e=>by have:=fJ.mp k3 x hx;rw[e]at this;exact fQ this
 have vW:∀x∈scope.names,x.2= .local->scope.names.lookup x.1=some .local:=λx hx e=>by have:=fJ.mp k3 x hx;rw[e]at this;exact eB.mp this
 obtain⟨cl,we,c1,c2⟩:=FF oX;rw[eval_ListComp];refine OO (use:=none) Z hs we iV vW (aL (hi aj s O H _ I h) λv s1 h1=>aL h1 λvT s2 h2=>?_);obtain⟨it,fp,tn,J,H2,e,I2,T,l4,f2,h2⟩:=h2;subst e;have hD:H2 s2.heap.objs.size=none:=I2.aW.fresh (ba _);obtain⟨W,⟨m0,w0⟩,turn⟩:=h2 _ _ (Nw.of hD);refine mx (ON lX (by intro y hy;simp at hy) (λh₁ oS oQ=>?_) iV);have kH:∀b∈fp,b<s2.heap.objs.size:=λb hb=>by obtain⟨o,e,_⟩:=T.obj _ _ l4 b hb;exact bS e
 have I3:Inv X aj O (upd H2 s2.heap.objs.size (.lst [])) {s2 with heap:=s2.heap.push {cls:=.type "list",dict:=none,data:=.seq ([]:List Value).toArray}}:=I2.zc (its:=[]) (t':=s2.toks) .nil (dS _);generalize p5:s2.heap.push {cls:=.type "list",dict:=none,data:=.seq ([]:List Value).toArray}=h3 at I3 oS oQ;have nV:h3.objs.size=s2.heap.objs.size+1:=by rw[<-p5,pW]
 have vS:∀b o,s2.heap.get? b=some o->h3.get? b=some o:=λb o e=>by rw[<-p5];exact bV _ e
 have f3:∀b∈fp,i7 X aj (upd H2 s2.heap.objs.size (.lst [])) b:=λb hb=>⟨by rw[bf (dw (kH b hb))];exact(f2 b hb).1,(f2 b hb).2⟩;have oO:∀b o,h3.get? b=some o->h₁.get? b=some o:=λb o e=>(oQ.2 b (dw (bS e))).trans (bV _ e);have I4:Inv (cu X N scope cl {s2 with heap:=h3} (upd H2 s2.heap.objs.size (.lst [])) fp aj) [] (stC js O) (upd H2 s2.heap.objs.size (.lst [])) {s2 with heap:=h₁,toks:=s2.toks+([]:List (Str×Value)).length}:=I3.comp (s:={s2 with heap:=h3}) hN hS c1 c2 f3 (λb hb=>by show b<h3.objs.size;rw[nV];exact xD (kH b hb)) (by simpa using oS) oO;have nW:tn 0 h₁:=T.keep _ _ _ l4 λb _ o e=>oO b o (vS b o e);have loop:codeAny (model X.prog X.w) X.A (.compLoop (i4 elt tg iter dW dG scope pos) 0 (.ref it) (.ref s2.heap.objs.size) (compEnvC scope cl h3.objs.size X.env)) (compPost (model X.prog X.w) X.A X.xe none (EP X aj O Q) (.ref s2.heap.objs.size) h3.objs.size) {s2 with heap:=h₁,toks:=s2.toks+([]:List (Str×Value)).length}:=by
  refine a1S (λn s'=>∃i σ' H',Inv (cu X N scope cl {s2 with heap:=h3} (upd H2 s2.heap.objs.size (.lst [])) fp aj) [] σ' H' s'/\tn i s'.heap/\(∀b∈fp,H' b=none)/\W i n σ' H') (ik _) ?_ m0 ⟨0,_,_,I4,nW,λb hb=>(f3 b hb).1,w0⟩;rintro n s5 ⟨i,σ5,H5,I5,jI,m5,w5⟩;have ib:∀{H':Hp},(∀b∈fp,H' b=none)->∀b∈fp,i7 (cu X N scope cl {s2 with heap:=h3} (upd H2 s2.heap.objs.size (.lst [])) fp aj) [] H' b:=λ{H'} hn b hb=>by
   obtain⟨_,q1,q2,q3,q4,q5⟩:=f3 b hb;refine⟨hn b hb,λz=>?_,I4.ok.m6 b hb,.inl hb,λx c e=>q4 x c (c1 x c e),λp hp=>q5 p (by simpa[cu]using hp)⟩;have bG:b<h3.objs.size:=by rw[nV];exact xD (kH b hb)
   exact dw bG z
  rcases turn i n σ5 H5 w5 with⟨stop,qn⟩|⟨go,step⟩
  ·refine aL (T.done (cu X N scope cl {s2 with heap:=h3} (upd H2 s2.heap.objs.size (.lst [])) fp aj) rfl rfl rfl hc i [] s5 σ5 H5 _ I5 (ib m5) jI stop) λr s6 ⟨hr,I6⟩=>?_
   subst hr;obtain⟨m,hm,_⟩:=I6.loc;refine⟨m,hm,λh7 ng=>?_⟩;have u0:Un (eg X.stack) fp (upd H2 s2.heap.objs.size (.lst [])) H5 h3 s6.heap:=I6.ao;have ne:∀b o,h3.get? b=some o->b≠h3.objs.size:=λb o e=>dw (bS e);have u:Un (eg X.stack) fp (upd H2 s2.heap.objs.size (.lst [])) H5 h3 h7:=⟨λb o e n hb hx=>(ng.2 b (ne b o e)).trans (u0.keep b o e n hb hx),λb o e n hb hx=>let⟨sl,q⟩:=u0.slot b o e n hb hx;⟨sl,(ng.2 b (ne b o e)).trans q⟩,u0.free,λb o e hx=>let⟨o',q⟩:=u0.there b o e hx;⟨o',(ng.2 b (ne b o e)).trans q⟩,u0.iI,u0.ir,u0.iJ⟩;have I7:Inv X aj O H5 {s6 with heap:=h7}:=I3.wQ (s':={s6 with heap:=h7}) (ch:=fp) I6.os u (I6.aW.but I6.free ng) I6.bare λb hb=>⟨(f3 b hb).2.2.2.1,(f3 b hb).2.1,(f3 b hb).2.2.2.2.1,(f3 b hb).2.2.2.2.2⟩;exact⟨.ref s2.heap.objs.size,H5,I7,Z,qn⟩
  ·refine aL (T.item (cu X N scope cl {s2 with heap:=h3} (upd H2 s2.heap.objs.size (.lst [])) fp aj) rfl rfl rfl hc i [] s5 σ5 H5 _ I5 (ib m5) jI go) λr s6 ⟨u,hr,h6⟩=>?_
   subst hr;refine aL h6 λ_ s7 ⟨x,H7,I7,r7,y7,k9,wu⟩=>?_;have xn:=I7.pinned (ib wu) (T.obj _ _ k9);refine aL (hg _ _ _ _ _ _ s7 σ5 H7 x u _ xn r7 (step x H7 y7)) λ_ s8 ⟨σ8,H8,I8,q8⟩=>?_;have again:∀{s':a8}{σ7:St}{H7:Hp},Inv (cu X N scope cl {s2 with heap:=h3} (upd H2 s2.heap.objs.size (.lst [])) fp aj) ([]++mO fp s7.heap) σ7 H7 s'->(∃m',m'<n/\W (i+1) m' σ7 H7)->∃m,m<n/\∃i σ' H',Inv (cu X N scope cl {s2 with heap:=h3} (upd H2 s2.heap.objs.size (.lst [])) fp aj) [] σ' H' s'/\tn i s'.heap/\(∀b∈fp,H' b=none)/\W i m σ' H':=λ{s' σ7 H7} J7 n7=>by obtain⟨m',hm,w7⟩:=n7;refine⟨m',hm,i+1,σ7,H7,J7.pZ,T.keep _ _ _ k9 λb hb o e=>(J7.pin (b,o) (fP _ (fP _ (lK hb e)))).1,λb hb=>?_,w7⟩;obtain⟨o,e,d⟩:=T.obj _ _ k9 b hb;exact(J7.pin (b,o) (fP _ (fP _ (lK hb e)))).2.1
   refine aL (oW _ _ _ _ _ _ s8 σ8 H8 _ I8 q8) λv9 s9 h9=>aL h9 λa5D jb qS=>?_;obtain⟨zo,EX,Qg,J2,gC,e2,pO,T2,HA,MM,V,⟨k0,v0⟩,Qd⟩:=qS;subst e2;have B5:∀{H':Hp},(∀b∈EX,H' b=none)->∀b∈EX,i7 (cu X N scope cl {s2 with heap:=h3} (upd H2 s2.heap.objs.size (.lst [])) fp aj) ([]++mO fp s7.heap) H' b:=λ{H'} hn b hb=>⟨hn b hb,(MM b hb).2⟩;have Li:codeAny (model X.prog X.w) X.A (.compLoop (i4 elt tg iter dW dG scope pos) 1 (.ref zo) (.ref s2.heap.objs.size) (compEnvC scope cl h3.objs.size X.env)) (λr s₅=>match r with| .ok _=>∃m,m<n/\∃i σ' H',Inv (cu X N scope cl {s2 with heap:=h3} (upd H2 s2.heap.objs.size (.lst [])) fp aj) [] σ' H' s₅/\tn i s₅.heap/\(∀b∈fp,H' b=none)/\W i m σ' H'| .error _=>False) jb:=by
    refine a1R (λk s'=>∃i σ' H',Inv (cu X N scope cl {s2 with heap:=h3} (upd H2 s2.heap.objs.size (.lst [])) fp aj) ([]++mO fp s7.heap) σ' H' s'/\Qg i s'.heap/\(∀b∈EX,H' b=none)/\V i k σ' H') ?_ k0 ⟨0,_,_,pO,HA,λb hb=>(MM b hb).1,v0⟩;rintro k qh ⟨i2,xM,gB,uk,Hz,MC,v11⟩;rcases Qd i2 k xM gB v11 with⟨R5,q2⟩|⟨go2,R9⟩
    ·refine aL (T2.done (cu X N scope cl {s2 with heap:=h3} (upd H2 s2.heap.objs.size (.lst [])) fp aj) rfl rfl rfl hc i2 _ qh xM gB _ uk (B5 MC) Hz R5) λr fR ⟨hr,I12⟩=>?_
     subst hr;exact again I12 q2
    ·refine aL (T2.item (cu X N scope cl {s2 with heap:=h3} (upd H2 s2.heap.objs.size (.lst [])) fp aj) rfl rfl rfl hc i2 _ qh xM gB _ uk (B5 MC) Hz go2) λr fR ⟨u2,hr,EO⟩=>?_
     subst hr;refine aL EO λ_ ic ⟨x2,rQ,I13,SQ,PJ,B6,ZK⟩=>?_;have a50:=I13.pinned (B5 ZK) (T2.obj _ _ B6);refine aL (Yb _ _ _ _ _ _ ic xM rQ x2 u2 _ a50 SQ (R9 x2 rQ PJ)) λ_ jK ⟨xK,um,I14,SU⟩=>?_;refine aL (he _ _ _ _ _ _ jK xK um _ I14 SU) λyv o8 ⟨y,pP,I15,SO,ys,iT,hz,PR⟩=>?_;refine aL (yY _ o8 xK pP (.ref s2.heap.objs.size) [y] (.ref s2.heap.objs.size) [yv] (λ_ Aj=>∃m',m'<k/\V (i2+1) m' xK Aj) I15 Z (.cons SO .nil) ⟨_,ys,y,Z,Z,iT,hz,PR⟩) λ_ vh ⟨v16,Aj,G9,r16,SS⟩=>?_;obtain⟨m',hm,PQ⟩:=SS;refine⟨m',hm,i2+1,xK,Aj,G9.pZ,T2.keep _ _ _ B6 λb hb o e=>(G9.pin (b,o) (fP _ (fP _ (lK hb e)))).1,λb hb=>?_,PQ⟩;obtain⟨o,e,d⟩:=T2.obj _ _ B6 b hb;exact(G9.pin (b,o) (fP _ (fP _ (lK hb e)))).2.1
   exact a1Q Li (T2.self _ 0 _ _ _ HA Li)
 exact OP loop (T.self _ 0 _ _ _ nW loop)
section
variable {K:a7}
theorem Sg(n q:Nat):((List.range n).map λ_=>q).sum=n*q:=by induction n with |zero=>simp |succ n ih=>rw[Gw,i8,List.sum_append,Nat.add_mul,Nat.one_mul,ih];simp
theorem a1M{a1 a2:Addr}{xs ys:List V}{b:Nat->Nat->Bool}{mD:TI}{te:TE}{Q:VK}{D:Addr}{H H0:Hp}(rest:St)(hx:aF K H a1 xs)(hy:aF K H a2 ys)(nw:Nw H H0 D (.lst []))(hz:xs.length*ys.length<=1000) (hw:∀x v H3 R,aA H H3->R (pN K a2) H3->mD (some x::v::rest) H3 R) (hs:∀i j x y H2 Q',xs[i]? =some x->ys[j]? =some y->aA H H2->(∀H3,aA H2 H3->Q' (.bl (b i j)) H3)->te (some x::some y::rest) H2 Q') (hq:∀H',aA H H'->H' D=some (.lst ((((List.range xs.length).flatMap λi=>(List.range ys.length).map λj=>b i j)).map V.bl))->Q (.ref D) H'):OJ (pN K a1) (fE 0) mD (fE 1) te Q D (none::none::rest) H0:=by
 have hD:=nw.no;have line:(1000:Nat)<sizeLine:=by decide
 refine⟨λi m O H2=>m=xs.length-i/\i<=xs.length/\aA H H2/\H2 D=some (.lst ((((List.range i).flatMap λi=>(List.range ys.length).map λj=>b i j)).map V.bl))/\∃v v',O=v::v'::rest,⟨_,Z,dS _,nw.same,nw.at',none,none,Z⟩,?_⟩;rintro i m O H2 ⟨rfl,hi,s2,d2,v,v',rfl⟩;by_cases bG:i<xs.length
 ·refine .inr ⟨⟨xs,xs[i],hx.go s2,by simp[bG]⟩,λx H3 yl=>?_⟩
  obtain⟨e,yl⟩:=yl;subst e;have ex:=yl xs (hx.go s2);refine hw x v' _ _ s2 ?_;refine⟨λj k O H4=>k=ys.length-j/\j<=ys.length/\aA H H4/\H4 D=some (.lst ((((List.range i).flatMap λi=>(List.range ys.length).map λj=>b i j)++(List.range j).map (b i)).map V.bl))/\∃v',O=some x::v'::rest,⟨_,Z,dS _,s2,by simpa using d2,v',Z⟩,?_⟩;rintro j k O H4 ⟨rfl,hj,s4,d4,v',rfl⟩;by_cases M5:j<ys.length
  ·refine .inr ⟨⟨ys,ys[j],hy.go s4,by simp[M5]⟩,λy H5 yl=>?_⟩
   obtain⟨e,yl⟩:=yl;subst e;have ey:=yl ys (hy.go s4);refine hs i j x y _ _ ex ey s4 λH6 s6=>?_;have d6:=s6 _ _ d4;refine⟨_,d6,?_,ys.length-(j+1),aI,Z,aI,λq o e=>?_,?_,_,Z⟩
   ·have hl:(((List.range i).flatMap λi=>(List.range ys.length).map λj=>b i j)).length=i*ys.length:=by rw[List.length_flatMap];simp only[bu,gF];exact Sg _ _
    have h1:i*ys.length+j<xs.length*ys.length:=by have h2:(i+1)*ys.length<=xs.length*ys.length:=Nat.mul_le_mul_right _ bG;rw[Nat.add_mul,Nat.one_mul]at h2;omega
    rw[bu,cD,hl,bu,gF];omega
   ·rw[bf (cC e hD)];exact s6 _ _ (s4 _ _ e)
   ·rw[bX,Gw,i8,i8,i8,i8,List.append_assoc];rfl
  ·have e:j=ys.length:=by omega
   subst e;refine .inl ⟨⟨ys,hy.go s4,ba _⟩,xs.length-(i+1),aI,Z,aI,s4,?_,_,_,Z⟩;rw[Gw,List.flatMap_append];simpa using d4
 ·have e:i=xs.length:=by omega
  subst e;exact .inl ⟨⟨xs,hx.go s2,ba _⟩,hq H2 s2 d2⟩
theorem a2H{n m:Nat}{b:Nat->Nat->Bool}:(((List.range n).flatMap λi=>(List.range m).map λj=>b i j)).any id=(List.range n).any λi=>(List.range m).any λj=>b i j:=by rw[List.any_flatMap];congr 1;funext i;rw[List.any_map];rfl
end
theorem a1y(f:Array Value->Array Value)(o:Obj):(o.mapFields f).dict=o.dict:=by obtain⟨c,d,dt,sl⟩:=o;cases dt<;>rfl
def TrD(h B:Heap)(ex:Addr)(cls:Value)(dx:Option Addr)(fl:Value):Prop:=∃ob fs tb ot ts,h.get? ex=some ob/\ob.cls=cls/\ob.dict=dx/\ob.data= .fields fs/\fs[1]? =some (.ref tb)/\B.get? tb=none/\tb≠ex/\h.get? tb=some ot/\ot.data= .fields ts/\ts[3]? =some fl
def kO(B:Heap)(l:List Env)(ex:Addr)(cls:Value)(dx:Option Addr)(fl:Value)(h:Heap):Prop:=B.StaysIn h/\B.get? ex=none/\h.FunFrames B l/\TrD h B ex cls dx fl
theorem kO.there{B h:Heap}{l:List Env}{ex:Addr}{cls fl:Value}{dx:Option Addr}(x:kO B l ex cls dx fl h):∃ob,h.get? ex=some ob/\ob.cls=cls/\ob.dict=dx/\∃fs,ob.data= .fields fs:=by obtain⟨_,_,_,ob,fs,_,_,_,e,c,d,z,_⟩:=x;exact⟨ob,e,c,d,fs,z⟩
section
variable {M:Model}{A:ag}{E:Value->a8->Prop}{s:a8}{B:Heap}{env:Env}{outer:List Env}{L ex:Addr}{ob:Obj}{fs:Array Value}{head:Value}{nx:Bool}{Q:Unit->a8->Prop}{cls fl:Value}{dx:Option Addr}
theorem MW(hA:A.frames=some (env::outer))(ff:s.heap.FunFrames B (env::outer))(hL:env.frame=some L)(ho:s.heap.get? ex=some ob)(st:B.StaysIn s.heap)(hB:B.get? ex=none)(hd:ob.data= .fields fs)(hz:1<fs.size) (q:∀h',kO B (env::outer) ex ob.cls ob.dict (rawInt L) h'->s.heap.UpToSlots h'->Q () {s with heap:=h'}): wpAny M A (do let a<-frameOf env;let pl<-entryPlaceOf L nx;let b<-EntryCells.newEntry head a .none (rawInt L) .none pl;setField (.ref ex) 1 b) Q E s:=by
 have yU:ex∉(env::outer).filterMap (·.frame):=λhm=>by obtain⟨_,o,e1,nf⟩:=ff.mem hm;rw[ho]at e1;cases e1;exact nf fs hd
 refine az (wpAny_frameOf_fun hA ff hL λg1 k1=>az (wpAny_entryPlaceOf λpl hp=>?_));unfold EntryCells.newEntry newFields;refine az (mx ?_ (hp.sizeOk5 _ _ _ _ _));have o1:g1.get? ex=some ob:=(k1.2.1 ex yU).trans ho;have B7:B.StaysIn g1:=λb o e=>(k1.2.1 b λhm=>by rw[(ff.mem hm).1]at e;cases e).trans (st b o e);generalize hT:({cls:=.type "traceback",dict:=none,data:=.fields ([head,.ref L,.none,rawInt L,.none]++(if pl.isEmpty then List.replicate 6 Value.none else pl)).toArray}:Obj)=T;have o2:(g1.push T).get? ex=some ob:=bV T o1;refine Al o2 hd hz (q _ ?_ ?_);all_goals have ne:g1.objs.size≠ex:=xC (bS o1)
 all_goals have keep:∀b o,b≠ex->g1.get? b=some o->((g1.push T).update ex (Obj.mapFields (·.setIfInBounds 1 (Value.ref g1.objs.size)))).get? b=some o:=λb o nb e=>by rw[xI _ _ (iD nb)];exact bV _ e
 all_goals have oz:∀b o,s.heap.get? b=some o->(∀vs,o.data≠ .fields vs)->b≠ex:=λb o e nf z=>by rw[z,ho]at e;cases e;exact nf fs hd
 ·have d3:=AD hd (·.setIfInBounds 1 (Value.ref g1.objs.size))
  have o3:=AQ (Obj.mapFields (·.setIfInBounds 1 (Value.ref g1.objs.size))) o2 (Pa d3);refine⟨λb o e=>keep b o (λz=>by rw[z,hB]at e;cases e) (B7 b o e),hB,ff.of_keeps λb o e nf=>?_,?_⟩
  ·obtain⟨sl,e1⟩:=k1.2.2 b o e
   exact⟨_,keep b _ (oz b o e nf) e1,Z⟩
  ·refine⟨_,_,g1.objs.size,T,_,o3,Obj.cls_mapFields _ _,a1y _ _,d3,by simp[hz],B7.fresh,ne,?_,by rw[<-hT],?_⟩
   ·rw[xI _ _ (iD ne)];exact dU g1 (by rw[<-hT];rfl)
   ·first|(simp;done)|(rcases hp with rfl|⟨_,_,_,_,_,_,_,rfl⟩<;>simp)
 ·intro b o e nf
  obtain⟨sl,e1⟩:=k1.2.2 b o e;exact⟨sl,keep b _ (oz b o e nf) e1⟩
theorem Vy(hA:A.frames=some (env::outer))(ff:s.heap.FunFrames B (env::outer))(hL:env.frame=some L)(ho:s.heap.get? ex=some ob)(st:B.StaysIn s.heap)(hB:B.get? ex=none)(hd:ob.data= .fields fs)(h1:fs[1]? =some .none) (q:∀h',kO B (env::outer) ex ob.cls ob.dict (rawInt L) h'->s.heap.UpToSlots h'->Q () {s with heap:=h'}):wpAny M A (noteFrame (.ref ex) env) Q E s:=by unfold noteFrame;simp only[hL];refine az (fZ ho hd h1 ?_);rw[aO au];exact MW hA ff hL ho st hB hd (GG.mp h1).1 q
theorem Vx(hA:A.frames=some (env::outer))(hL:env.frame=some L)(x:kO B (env::outer) ex cls dx .none s.heap) (q:∀h',kO B (env::outer) ex cls dx (rawInt L) h'->s.heap.UpToSlots h'->Q () {s with heap:=h'}):wpAny M A (noteFrame (.ref ex) env) Q E s:=by
 obtain⟨st,hB,ff,ob,fs,tb,ot,ts,ho,rfl,rfl,hd,h1,zF,nt,ht,lV,h3⟩:=x;unfold noteFrame;simp only[hL];refine az (fZ ho hd h1 ?_);rw[aR (show(Value.ref tb !=Value.none)=true from by simp)];refine az (fZ ht lV h3 ?_);rw[aO (show¬((Value.none==rawInt L)=true)from by simp[rawInt])];refine az (Al ht lV (GG.mp h3).1 ?_);have other:∀b,b≠tb->(s.heap.update tb (Obj.mapFields (·.setIfInBounds 3 Value.none))).get? b=s.heap.get? b:=λb nb=>xI _ _ (iD nb);have oz:∀b o,s.heap.get? b=some o->(∀vs,o.data≠ .fields vs)->b≠tb:=λb o e nf z=>by rw[z,ht]at e;cases e;exact nf ts lV
 refine MW (s:={s with heap:=s.heap.update tb (Obj.mapFields (·.setIfInBounds 3 Value.none))}) hA (ff.of_keeps λb o e nf=>⟨o,(other b (oz b o e nf)).trans e,Z⟩) hL ((other ex (iD nt)).trans ho) (λb o e=>(other b λz=>by rw[z,zF]at e;cases e).trans (st b o e)) hB hd (GG.mp h1).1 λh' y up=>q h' y λb o e nf=>up b o ((other b (oz b o e nf)).trans e) nf
theorem F1{l:List Env}(x:kO B l ex cls dx fl s.heap)(q:∀h',kO B l ex cls dx .none h'->s.heap.UpToSlots h'->Q () {s with heap:=h'}):wpAny M A (setFlight (.ref ex) none) Q E s:=by
 obtain⟨st,hB,ff,ob,fs,tb,ot,ts,ho,hc,hx,hd,h1,zF,nt,ht,lV,h3⟩:=x;have z3:3<ts.size:=(GG.mp h3).1;have other:∀b,b≠tb->(s.heap.update tb (Obj.mapFields (·.setIfInBounds 3 ((none:Option Addr).elim Value.none λf=>rawInt f)))).get? b=s.heap.get? b:=λb nb=>xI _ _ (iD nb);have oz:∀b o,s.heap.get? b=some o->(∀vs,o.data≠ .fields vs)->b≠tb:=λb o e nf z=>by rw[z,ht]at e;cases e;exact nf ts lV
 unfold setFlight;refine az (fZ ho hd h1 ?_);rw[aR (show(Value.ref tb !=Value.none)=true from by simp)];refine Al ht lV z3 (q _ ⟨λb o e=>(other b λz=>by rw[z,zF]at e;cases e).trans (st b o e),hB,ff.of_keeps λb o e nf=>⟨o,(other b (oz b o e nf)).trans e,rfl⟩,?_⟩ λb o e nf=>⟨o.slots,(other b (oz b o e nf)).trans e⟩);exact⟨ob,fs,tb,_,_,(other ex (iD nt)).trans ho,hc,hx,hd,h1,zF,nt,AQ _ ht (Pa (AD lV _)),AD lV _,by simp[z3]⟩
theorem Ws(hA:A.frames=some (env::outer))(ff:s.heap.FunFrames B (env::outer))(hL:env.frame=some L)(ho:s.heap.get? ex=some ob)(st:B.StaysIn s.heap)(hB:B.get? ex=none)(hd:ob.data= .fields fs)(h1:fs[1]? =some .none) (q:∀h',kO B outer ex ob.cls ob.dict .none h'->s.heap.UpToSlots h'->Q () {s with heap:=h'}):wpAny M A (leaving env (.ref ex)) Q E s:=by unfold leaving;refine az (Vy hA ff hL ho st hB hd h1 λh1 x1 u1=>F1 x1 λh2 x2 u2=>q h2 ?_ (u1.trans u2));obtain⟨a,b,⟨_,_,c⟩,d⟩:=x2;exact⟨a,b,c,d⟩
end
end L2
namespace L2
open PySem PySem.Spec PyProof.Rows
open Builtin Builtin.ObjectAttr
def nT:List Value:=[.type "ValueError",.type "Exception",.type "BaseException",.type "object"]
def lF:List Value->Bool | .ref _::r=>lF r |l=>l==nT
theorem K1(self:Value){l:List Value}(e:lF l=true):refuseLoop self "__setattr__" l=pure ():=by induction l with |nil=>simp[lF,nT]at e |cons v r ih=>cases v with |ref c=>rw[refuseLoop_ref];exact ih (by simpa[lF]using e) |_=>have e':=eB.mp (show(_==nT)=true from e);rw[e'];exact PySem.F.store_ValueError.passes self
theorem Mj{t:String}(ht:(nT.contains (.type t))=true):∀{l:List Value},lF l=true->l.contains (.type t)=true |l,e=>by induction l with |nil=>simp[lF,nT]at e |cons v r ih=>cases v with |ref c=>rw[Pk,ih (by simpa[lF]using e),Bool.or_true] |_=>have e':=eB.mp (show(_==nT)=true from e);rw[e'];exact ht
def DC(K:a7)(C:Addr):Bool:=(PySem.W.clsIn K C).any λcd=>lF cd.mro
section
variable {prog:a9}{w:World}{A:ag}{E:Value->a8->Prop}{s:a8}{K:a7}{x C:Addr}{ox:Obj}{fs:Array Value}{name:Str}{v:Value}{Q:Unit->a8->Prop}
theorem RK(X:K.In s.heap)(hx:s.heap.get? x=some ox)(hc:ox.cls= .ref C)(hd:ox.dict=none)(hf:ox.data= .fields fs) (hs:PySem.W.findIn K (.ref C) "__setattr__"=some (some (.builtin "object.__setattr__")))(hp:DC K C=true)(ht:PySem.W.takerIn K C name=some none)(hh:PySem.W.hasDictIn K C=true) (h:∀h',h'.get? x=some {ox with dict:=some s.heap.objs.size}->h'.Ns1 s.heap.objs.size (λy=>if y=name then some v else none)->(∀b o,b≠x->s.heap.get? b=some o->h'.get? b=some o)->Q () {s with heap:=h',toks:=s.toks+2}): wpAny (model prog w) A (setAttr (.ref x) name v) Q E s:=by
 have I:PySem.W.InstAt s.heap x ox C none:=⟨hx,hc,by unfold PySem.W.notCls;rw[hf],by rw[hd];trivial⟩;refine PySem.W.set_plain X I hs ?_;have SF:=PySem.F.store_object;obtain⟨cd,e9,ho⟩:=Gj hp;have ne:cd.mro.isEmpty=false:=by cases q:cd.mro with|nil=>rw[q]at ho;simp[lF,nT]at ho|cons _ _=>rfl
 have sub:PySem.W.Looks (model prog w) s.heap (isInstance (.ref x) (.type "object")) true:=I.type.andThen (PySem.W.looks_mroIn X (by unfold PySem.W.mroIn;rw[e9,Option.bind_some,aO (by rw[ne];decide),Mj au ho]));refine Au SF.slot.plain SF.entry (@PySem.W.check_slot (model prog w) _ _ {s with toks:=s.toks+1} "object.__setattr__" "object" "__setattr__" (.ref x) [.str name s.toks,v] [] _ SF.kind SF.split sub (SF.args (.ref x) (.str name s.toks) v) ?_);obtain⟨attr,ha,hr⟩:=P9.mp ht;have hm:PySem.W.Looks (model prog w) s.heap (mroOf (.ref C)) cd.mro:=(Gg X e9).andThen .now;have L3:PySem.W.Looks (model prog w) s.heap (storeTaker? attr) none:=by cases attr with |none=>exact .now |some a=>obtain⟨b,hb,e⟩:=xB.mp hr;refine(PySem.W.looks_takesIn X hb).andThen ?_;cases b with |false=>exact .now |true=>cases e
 rw[PySem.W.osa_eq,refuse_eq];refine az (az (kU (s:={s with toks:=s.toks+1}) I.type (az (kU (s:={s with toks:=s.toks+1}) hm ?_))));rw[K1 _ ho];refine bc (az (kU (s:={s with toks:=s.toks+1}) I.type (az (kU (s:={s with toks:=s.toks+1}) (PySem.W.looks_findIn X ha) (az (kU (s:={s with toks:=s.toks+1}) L3 ?_))))));obtain⟨cd2,iW,hd2⟩:=Gj hh;refine az (bc (az (az (wpAny_loadPart (s:={s with toks:=s.toks+1}) hx ?_))));rw[hc];refine az (kU (s:={s with toks:=s.toks+1}) (Gg X iW) ?_);rw[hd2,hd,hf];rw[aO au];show wpAny _ _ (if(!true|| !typeHasDict (Value.ref C))=true then _ else _) _ _ _;rw[aO (by simp[typeHasDict])];have x1:(s.heap.push {cls:=.type "dict",data:=.dict #[]}).get? x=some ox:=bV _ hx;have nx:x≠s.heap.objs.size:=dw (bS hx);refine az (wpAny_alloc' (az (wpAny_update' x1 (bc ?_))));have gd:((s.heap.push {cls:=.type "dict",data:=.dict #[]}).update x λo=>{cls:=o.cls,dict:=some s.heap.objs.size,data:=o.data,slots:=o.slots}).get? s.heap.objs.size=some {cls:=.type "dict",data:=.dict #[]}:=(Heap.get?_update_ne _ _ _ _ nx.symm).trans (Heap.get?_push_at Z rfl);have n0:((s.heap.push {cls:=.type "dict",data:=.dict #[]}).update x λo=>{cls:=o.cls,dict:=some s.heap.objs.size,data:=o.data,slots:=o.slots}).Ns s.heap.objs.size (λ_=>none):=⟨_,#[],_,gd,Z,(λe he=>absurd he (by simp)),λ_=>rfl⟩;show wpAny _ _ (storeInDict s.heap.objs.size (.str name s.toks) name v) _ _ _;unfold storeInDict newKeyGuard;refine az (bc (az (wpAny_nsSet1 (Heap.Ns1.of_empty n0) λh2 n2 sb=>?_)));obtain⟨oD,esD,epD,e1,e2,e3⟩:=n2.count (PySem.Within.cons name v PySem.Within.nil);refine az (wpAny_lookBehind e1 (by rw[e2];exact pastItsLine_dict (fe e3 (by rw[mB,List.length_nil,sizeLine_eq];lia))) ?_);refine bc (h h2 ?_ n2 λb o nb e=>?_)
 ·refine(sb.2 x nx).trans (AQ _ x1 ?_)
  obtain⟨oc,od,DG,fm⟩:=ox;cases hf;rfl
 ·exact(sb.2 b (dw (bS e))).trans ((Heap.get?_update_ne _ _ _ _ nb).trans (bV _ e))
end
end L2
namespace L2
open PySem PySem.Spec PyProof.Rows
def nJ(ex C:Addr)(h:Heap):Prop:=∃ob fs,h.get? ex=some ob/\ob.cls= .ref C/\ob.dict=none/\ob.data= .fields fs/\fs[1]? =some .none
def jB(ex C dx:Addr)(h:Heap):Prop:=∃ob fs,h.get? ex=some ob/\ob.cls= .ref C/\ob.dict=some dx/\ob.data= .fields fs/\fs[1]? =some .none
structure uh(K:a7)(C:Addr)(f:Str):Prop where
 sa:PySem.W.findIn K (.ref C) "__setattr__"=some (some (.builtin "object.__setattr__"))
 ov:DC K C=true
 tk:PySem.W.takerIn K C f=some none
 hd:PySem.W.hasDictIn K C=true
inductive a4n(K:a7)(f:Str)(D:Ends)(O:St)(y:V)(x:V)(H2:Hp):Prop |mk (ex:_)(C:_)(h0:x= .ref ex)(h1:H2 ex=some (.ext (nJ ex C)))(h2:uh K C f)(h3:∀dx,H2 dx=none->dx≠ex->D.nx O (upd (upd H2 dx (.xd [(f,y)])) ex (.ext (jB ex C dx))))
def RQ(K:a7)(ta tv:TE)(f:Str):TS:=λD O H=>tv O H λy H1=>ta O H1 λx H2=>a4n K f D O y x H2
section
variable {X:Cx}{o e value:Expr}{f:Str}{pos pos' sF:Pos}{ta tv:TE}
theorem T6(K:a7)(hK:X.K=K)(ha:PE X o ta)(hv:PE X value tv)(hs:swapsWith value (some (.Attribute o f pos')) pos.line X.env=pure false:=by rfl):PS X (.Assign [.Attribute o f pos'] value pos) (RQ K ta tv f):=by
 subst hK;intro aj s O H D I h;refine plainObj_wpAny_Assign_Attribute (aL (hv aj s O H _ I h) λu s1 ⟨y,H1,I1,ry,q⟩=>aL (ha aj s1 O H1 _ I1 q) λov s2 ⟨x,H2,I2,rx,ex,C,e1,ee,xc,q2⟩=>?_) hs;subst e1;obtain rfl:ov=Value.ref ex:=rx;obtain⟨⟨ob,fs,g1,g2,g3,g4,g5⟩,_,_⟩:=(show eO X.prog X.w H2 s2.heap ex (.ext (nJ ex C))from I2.aW ex _ ee);refine RK I2.fB g1 g2 g3 g4 xc.sa xc.ov xc.tk xc.hd λh' k1 k2 k3=>?_;have ne:s2.heap.objs.size≠ex:=xC (bS g1);have fr:H2 s2.heap.objs.size=none:=I2.aW.fresh (ba _);obtain⟨oD,es,ep,d1,d2⟩:=id k2;have XE:(s2.heap.push oD).get? s2.heap.objs.size=some oD:=dU _ (by obtain⟨oc,od,DG,fm⟩:=oD;have:DG= .dict es ep:=d2.1;subst this;rfl);have Yk:eO X.prog X.w (upd H2 s2.heap.objs.size (.xd [(f,y)])) (s2.heap.push oD) s2.heap.objs.size (.xd [(f,y)]):=by
  refine⟨_,k2.at λo e=>?_,λg=>?_⟩
  ·rw[d1]at e;cases e;exact XE
  ·by_cases q:g=f
   ·subst q
    simp only[List.lookup,Av,kT];exact ry
   ·have:(g==f)=false:=by simpa using q
    simp only[List.lookup,this,aO q];trivial
 have J1:=I2.laid (a:=s2.heap.objs.size) (o:=.xd [(f,y)]) (h':=s2.heap.push oD) (t':=s2.toks+2) (λb u q=>bV _ q) (ba _) Yk;have J2:=J1.write (x:=ex) (e:=ex) (o:=.ext (jB ex C s2.heap.objs.size)) (h':=h') (t':=s2.toks+2) (by rw[bf ne.symm,ee];trivial) (.inl Z) (λb u nb e=>by
  rcases Pt e with⟨rfl,rfl⟩|e
  ·exact d1
  ·exact k3 b u nb e) ⟨_,k1⟩ ⟨⟨_,fs,k1,g2,Z,g4,g5⟩,⟨_,k1⟩,λh1 h2 ⟨qw,tZ,z1,z2⟩ k=>⟨qw,tZ,k _ z1,z2⟩⟩;exact⟨O,_,J2,q2 _ fr ne⟩
end
abbrev MP(rest:List Value):Obj:={cls:=.type "tuple",data:=.seq rest.toArray}
abbrev Fd(C t:Addr):Obj:={cls:=.ref C,data:=.fields #[.ref t,.none,.none,.none,.bool false,.none]}
abbrev kI(h:Heap)(C:Addr)(rest:List Value):Heap:=(h.push (MP rest)).push (Fd C h.objs.size)
section
variable {prog:a9}{w:World}{A:ag}{E:Value->a8->Prop}{h:Heap}{g:Array GenState}{d:Drawn}{t:Nat}{os:OsState}
variable {nm q:Str}{C N fI:Addr}{bs bm eL:List Value}{hdct:Bool}{sn:List Str}{sub:List Value}{ab:Bool}{col:Option Bool}{dd:Option Addr}{k0 k1 k2 k3 k5:Option Value}{B newId tL:String}{mN:bI}{rest:List Value}{oI:Obj}
theorem MQ:(kI h C rest).get? (h.objs.size+1)=some (Fd C h.objs.size):=by have:=dU (h.push (MP rest)) (o:=Fd C h.objs.size) rfl;rwa [pW]at this
theorem u7{b:Addr}{o:Obj}(e:h.get? b=some o):(kI h C rest).get? b=some o:=bV _ (bV _ e)
theorem Ql(F:ExcBaseFacts B newId tL eL)(T:OwnTail h eL bm){Q:Fin->a8->Prop}(hC:h.get? C=some (excClassObj nm q C N bs bm hdct sn sub ab col dd k0 k1 k2 k3 k5 newId))(hn:h.Ns N mN)(hi:mN "__init__"=some (.ref fI)) (hf:h.get? fI=some oI)(EI:oI.cls= .type "function")(hz:rest.length<=sizeLine) (hq:wpAny (model prog w) A (call (.ref fI) (.ref (h.objs.size+1)::rest)) (λr s'=>r= .none/\Q (.done (.ret (.ref (h.objs.size+1)))) s') E ⟨kI h C rest,g,d,t,os⟩): wpAny (model prog w) A (Builtin.«type.__call__» ⟨.ref C::rest,[]⟩) Q E ⟨h,g,d,t,os⟩:=by
 repeat (first|with_reducible refine rV hC ?_|with_reducible refine wpAny_madeBy_exc hC ?_|wp_step)
 refine codeAny_call_builtin_code (Code.quiet_builtin _ F.quiet) (wpAny_check_new_subT F T hC (codeAny_exc_new_subT F T hC ?_ hz));show wpAny _ _ _ _ _ _;have c1:=u7 (C:=C) (rest:=rest) hC;have f1:=u7 (C:=C) (rest:=rest) hf;have n1:(kI h C rest).Ns N mN:=let⟨o,es,ep,e,r⟩:=hn;⟨o,es,ep,u7 e,r⟩;have x1:=MQ (h:=h) (C:=C) (rest:=rest);have cc:(Value.ref C::bm).contains (.ref C)=true:=by simp
 have T1:=T.keeps (h':=kI h C rest) λb o e=>u7 e;unfold isInstance
 repeat (first|with_reducible refine rV x1 ?_|(with_reducible refine Ga c1 ?_;rw[cc])|wp_step)
 show wpAny _ _ (typeLookup (.ref C) _) _ _ _;refine wpAny_typeLookup_tail c1 n1 T1 F.mroIs F.init.lookup ?_;rw[hi];refine gU (az ?_);unfold bindSpecial;refine az (wpAny_typeOf (T:="function") ⟨_,f1,EI⟩ ?_);rw[aR au];refine bc (az (dR hq (λr s' ⟨e,z⟩=>?_) λ_ _ z=>z));subst e
 wp_walk;exact z
theorem a2e(F:ExcBaseFacts B newId tL eL)(T:OwnTail h eL bm){Q:Value->a8->Prop}(hC:h.get? C=some (excClassObj nm q C N bs bm hdct sn sub ab col dd k0 k1 k2 k3 k5 newId))(hn:h.Ns N mN)(hi:mN "__init__"=some (.ref fI)) (hf:h.get? fI=some oI)(EI:oI.cls= .type "function")(hz:rest.length<=sizeLine) (hq:wpAny (model prog w) (A.under (.builtin "type.__call__" ⟨.ref C::rest,[]⟩)) (call (.ref fI) (.ref (h.objs.size+1)::rest)) (λr s'=>r= .none/\Q (.ref (h.objs.size+1)) s') E ⟨kI h C rest,g,d,t,os⟩): wpAny (model prog w) A (call (.ref C) rest) Q E ⟨h,g,d,t,os⟩:=by
 have f1:=tc_lookup;have f2:=tc_bind (.ref C);have hT:(⟨h,g,d,t,os⟩:a8).TypeIs (.ref C) "type":=⟨_,hC,Z⟩;refine rW (codeAny_of_tree ?_);show wpAny _ _ (callAny (.ref C) _) _ _ _
 repeat (any_goals (first|assumption|with_reducible refine rV hC ?_|wp_step))
 refine⟨Z,codeAny_call_builtin_at (Code.quiet_builtin _ aJ) entry_typeCall (wpAny_check_type_call_sub hC (Ql F T hC hn hi hf EI hz ?_))⟩;exact hq
end
section
variable {M:Model}{A:ag}{E:Value->a8->Prop}{env:Env}{nm q:Str}{C N:Addr}{bs bm:List Value}{hdct:Bool}{sn:List Str}{sub:List Value}{ab:Bool}{col:Option Bool}{dd:Option Addr}{k0 k1 k2 k3 k5:Option Value}{newId:String}
theorem Sw{s:a8}{x:Sem Value}{Q:Flow->a8->Prop}(hb:bm.contains (.type "BaseException")=true)(hh:A.handled=none) (h:wpAny M A x (λv s1=>∃e oe fs,v= .ref e/\s1.heap.get? C=some (excClassObj nm q C N bs bm hdct sn sub ab col dd k0 k1 k2 k3 k5 newId)/\s1.heap.get? e=some oe/\oe.cls= .ref C/\oe.data= .fields fs/\fs[1]? =some .none/\E (.ref e) s1) E s): wpAny M A (raiseStmt env (some x) none) Q E s:=by
 have cb:(Value.ref C::bm).contains (.type "BaseException")=true:=by rw[Pk,hb,Bool.or_true]
 unfold raiseStmt;refine az (dR h (λv s1 ⟨e,oe,fs,ev,hC,he,hc,lV,h1,hE⟩=>?_) λ_ _ z=>z);subst ev;obtain⟨hp,g,d,tk,os⟩:=s1;obtain⟨oc,odd,DG,fm⟩:=oe;cases hc;cases lV
 repeat (first|with_reducible refine rV he ?_|with_reducible refine rV hC ?_|(with_reducible refine Ga hC ?_;rw[cb])|rw[h1]|wp_step)
 exact wpAny_raiseNew_none hh hE
end
def rS(P:a9)(w:World):iC:=λouter H s E e s'=>∃(ex:Addr)(cls:Value)(dx:Option Addr)(H':Hp)(B:Heap),e= .ref ex/\s'.os=s.os/\AllBare s'.gens/\kO B outer ex cls dx .none s'.heap/\Fl P w outer H s.heap ex H' B s'.heap/\E cls dx H'
theorem Fy{H:Hp}{p:Addr}:del H p p=none:=by unfold del;rw[aR rfl]
theorem rp{H:Hp}{p b:Addr}(h:b≠p):del H p b=H b:=by unfold del;rw[aO h]
theorem dg.del{P:a9}{w:World}{H:Hp}{h:Heap}{p:Addr}{φ:Heap->Prop}(ok:dg P w H h)(e:H p=some (.ext φ)):dg P w (del H p) h:=λb u q=>by
 obtain⟨nb,q⟩:=m9.mp q;refine(ok b u q).jH (λ_ _ _ z=>z) (λc z=>?_) λc xs z=>?_
 ·rw[rp (λy=>by rw[y,e]at z;cases z)];exact z
 ·rw[rp (λy=>by rw[y,e]at z;cases z)];exact z
section
variable {P:a9}{w:World}{K:a7}{mg:bI}{ao:Heap}{N:List Str}{qual:Str}{scope:Scope}{f:Addr}{cd:Value}{A:ag}{outer:List Env}{s:a8}{H:Hp}{E:XK}{aj:List (Addr×Obj)}{O:St}{H1:Hp}{s1:a8}{ex:Addr}{C:Addr}{dx:Addr}
theorem sy(I:Inv (gA (rS P w) P w K mg ao N qual scope f cd A outer s H E) aj O H1 s1)(hx:H1 ex=some (.ext (jB ex C dx)))(hs:s.heap.objs.size<=ex)(q:E (.ref C) (some dx) (del H1 ex)): (gA (rS P w) P w K mg ao N qual scope f cd A outer s H E).xe (.ref ex) s1:=by
 have jn:s1.heap.FunFrames ao (envOfC qual scope s.heap.objs.size f cd::outer):=I.stack;have nq:∀env∈(envOfC qual scope s.heap.objs.size f cd::outer),∀b,env.frame=some b->b∈ex::eg (envOfC qual scope s.heap.objs.size f cd::outer):=λenv he b hb=>.tail _ (uz.mpr ⟨env,he,hb⟩);have hB:(PySem.W.hideAll s1.heap (ex::eg (envOfC qual scope s.heap.objs.size f cd::outer))).StaysIn s1.heap:=λb o e=>PySem.W.of_hideAll _ e;obtain⟨⟨ob,fs,g1,g2,g3,g4,g5⟩,_,_⟩:=(show eO P w H1 s1.heap ex (.ext (jB ex C dx))from I.aW ex _ hx);have nw:s.heap.get? ex=none:=Heap.get?_none_of_le hs;have yU:∀b o,s.heap.get? b=some o->b∉eg outer->b∉ex::eg (envOfC qual scope s.heap.objs.size f cd::outer):=λb o e hb hm=>by
  rcases dj.mp hm with rfl|hm
  ·rw[nw]at e;cases e
  obtain⟨env,he,hf⟩:=uz.mp hm;rcases dj.mp he with rfl|he
  ·have e1:s.heap.objs.size=b:=dv hf
   have h1:=bS e;rw[<-e1]at h1;exact absurd h1 (ux _)
  ·exact hb (uz.mpr ⟨env,he,hf⟩)
 have DN:∀b u,H1 b=some u->(∀φ,u≠ .ext φ)->del H1 ex b=some u:=λb u e n=>by rw[rp (λz=>by rw[z,hx]at e;exact n _ (dv e).symm)];exact e
 have F0:Fl P w outer H s.heap ex (del H1 ex) (PySem.W.hideAll s1.heap (ex::eg (envOfC qual scope s.heap.objs.size f cd::outer))) s1.heap:=by
  refine⟨⟨I.ao.keep,I.ao.slot,λb o e n hb=>?_,I.ao.there,λb xs e=>DN b _ (I.ao.iI b xs e) (λ_ z=>nomatch z),λb o u e=>DN b _ (I.ao.ir b o u e) (λ_ z=>nomatch z),λb ps e=>?_⟩,I.aW.del hx,λb o e n hb=>Gh _ (I.ao.keep b o e n hb (fq)) (yU b o e hb),λb o e=>?_,λb o e hb=>?_,λb hb=>?_,nw,Fy⟩
  ·by_cases z:b=ex
   ·rw[z];exact Fy
   ·rw[rp z];exact I.ao.free b o e n hb
  ·obtain⟨more,e1⟩:=I.ao.iJ b ps e
   exact⟨more,DN b _ e1 (λ_ z=>nomatch z)⟩
  ·obtain⟨nb,e⟩:=m9.mp e
   obtain⟨qw,e1⟩:=(I.aW b o e).there;refine⟨qw,Gh _ e1 λhm=>?_⟩;rcases dj.mp hm with z|hm
   ·exact nb z
   ·rw[I.yb b hm]at e
    cases e
  ·obtain⟨qw,e1⟩:=I.ao.there b o e (fq)
   exact⟨qw,Gh _ e1 (yU b o e hb)⟩
  ·obtain⟨env,he,hf⟩:=uz.mp hb
   have e1:=I.yb b (uz.mpr ⟨env,.tail _ he,hf⟩);by_cases z:b=ex
   ·rw[z];exact Fy
   ·rw[rp z];exact e1
 show wpAny (model P w) (A.deeper (envOfC qual scope s.heap.objs.size f cd)) (leaving (envOfC qual scope s.heap.objs.size f cd) (.ref ex)) _ _ _;refine Ws (L:=s.heap.objs.size) I.ok.frames (PySem.W.funFrames_hide jn nq) Z g1 hB (PySem.W.hideAll_none _ (.head _)) g4 g5 λh' x1 x2=>?_;exact⟨ex,.ref C,some dx,del H1 ex,_,Z,I.os,I.bare,by rw[g2,g3]at x1;exact x1,F0.step hB x1.1 x2 jn.2.2,q⟩
end
def Fc(K:a7)(C fI:Addr)(eL:List Value)(newId:String):Bool:=match K.lookup C with |some ⟨.type "type",_,.cls cd,sl⟩=>(match cd.mro,sl.toList with | .ref C'::bm,[_,_,_,_,some (.builtin n),_]=>C'==C&&n==newId&& !cd.hasDel&&PySem.W.tailIn K eL bm&&PySem.W.nsOkIn K cd.ns&&(PySem.W.nsIn K cd.ns "__init__"==some (some (.ref fI))) |_,_=>false) |_=>false
structure rR(K:a7)(mg:bI)(x:Str)(C fI:Addr)(eL:List Value)(newId:String):Prop where
 at':mg x=some (.ref C)
 ok:Fc K C fI eL newId=true
theorem Vw{K:a7}{h:Heap}{N:Addr}{m:bI}{n:Str}{v:Value}(X:K.In h)(G:h.Ns N m)(e:PySem.W.nsIn K N n=some (some v)):m n=some v:=by
 obtain⟨o,es,ep,ho,hd,_,hf⟩:=G;unfold PySem.W.nsIn at e;split at e
 ·rename_i c d gh n' sl q
  have z:=X _ _ q;rw[ho]at z;cases z;cases hd;split at e
  ·rename_i en he
   cases e;rw[<-hf];unfold nsFind findBy;rw[<-Array.find?_toList,he];rfl
  ·split at e<;>cases e
 ·cases e
theorem rR.own{K:a7}{mg:bI}{x:Str}{C fI:Addr}{eL:List Value}{newId:String}{h:Heap}(e:rR K mg x C fI eL newId)(X:K.In h): ∃tl N nm q bs hdct sn sub ab col dd k0 k1 k2 k3 k5 mN,h.get? C=some (excClassObj nm q C N bs tl hdct sn sub ab col dd k0 k1 k2 k3 k5 newId)/\h.Ns N mN/\mN "__init__"=some (.ref fI)/\OwnTail h eL tl:=by
 have q:=e.ok;unfold Fc at q;split at q
 ·rename_i dd cd sl ho
  split at q
  ·rename_i D2 bl a0 a1 a2 a3 nn a5 hm hs
   simp only[eB,eF,Pw]at q;obtain⟨⟨⟨⟨⟨r1,r2⟩,wa⟩,ht⟩,aW⟩,vV⟩:=q;subst r1 r2;obtain⟨c1,c2,c3,c4,c5,c6,c7,c8,c9,FH,c11⟩:=cd;dsimp only at hm wa aW vV;subst hm wa;obtain⟨l⟩:=sl;simp only at hs;subst hs;have G:=Heap.Ns.of_isNs (PySem.W.isNs_of_in X aW);exact⟨bl,c4,c1,c5,c2,c6,c7,c8,c9,FH,dd,a0,a1,a2,a3,a5,_,X _ _ ho,G,Vw X G vV,PySem.W.tail_of_in X ht⟩
  ·cases q
 ·cases q
def fnAt(K:a7)(f:Addr):Bool:=match K.lookup f with |some o=>o.cls== .type "function" |none=>false
theorem ZO{K:a7}{h:Heap}{f:Addr}(X:K.In h)(e:fnAt K f=true):∃o,h.get? f=some o/\o.cls= .type "function":=by
 unfold fnAt at e;split at e
 ·rename_i o ho
  exact⟨o,X _ _ ho,eB.mp e⟩
 ·cases e
def Qt(E:XK)(C:Addr)(sp:Sp)(t:TA):TS:=λ_ O H=>t O H λvs H1=>vs.length<=sizeLine/\∀ex,H1 ex=none->sp (.ref ex::vs) (upd H1 ex (.ext (nJ ex C))) (λv H2=>v= .bM/\∃dx,H2 ex=some (.ext (jB ex C dx))/\E (.ref C) (some dx) (del H2 ex)) (λ_ _ _=>False)
section
variable {X:Cx}{x:Str}{C fI:Addr}{eL:List Value}{newId tL B:String}{e:Expr}{t:TA}{np dm pos:Pos}{k:Nat}{fd:FuncData}{ps:List Str}{sp:Sp}
end
def kQ(ex:Addr)(cls:Value)(dx:Option Addr)(h:Heap):Prop:=∃o,h.get? ex=some o/\o.cls=cls/\o.dict=dx/\∃fs,o.data= .fields fs
def ClsAt(K:a7)(C:Addr):Prop:=∀h,K.In h->∃nm q N bs tl hdct sn sub ab col dd k0 k1 k2 k3 k5 newId,h.get? C=some (excClassObj nm q C N bs tl hdct sn sub ab col dd k0 k1 k2 k3 k5 newId)
theorem rR.cls{K:a7}{mg:bI}{x:Str}{C fI:Addr}{eL:List Value}{newId:String}(e:rR K mg x C fI eL newId):ClsAt K C:=λh X=>by obtain⟨tl,N,nm,q,bs,hdct,sn,sub,ab,col,dd,k0,k1,k2,k3,k5,mN,hC,_⟩:=e.own X;exact⟨nm,q,N,bs,tl,hdct,sn,sub,ab,col,dd,k0,k1,k2,k3,k5,newId,hC⟩
section
variable {X:Cx}{i:Nat}{n y:Str}{Dc:Addr}{A2:List Value}{newD:String}{body uR:List Stmt}{b0:Stmt}{np qC pos:Pos}{tb:XK->TS}{th:TS}{Cs:Addr->Prop}
end
end L2
namespace L2
open PySem PySem.Spec PyProof.Rows PySem.W
section
variable {prog:a9}{w:World}{A:ag}{E:Value->a8->Prop}{h:Heap}{g:Array GenState}{d:Drawn}{t:Nat}{os:OsState}{K:Frag}{x C:Addr}{ox:Obj}{od:Obj}{f:Str}{v:Value}
theorem a16{b:Bool}{Q:Value->a8->Prop}(X:K.In h)(k:kP K C)(I:InstAt h x ox C (some od))(ha:findIn K (.ref C) f=some none)(hl:lookIn f od=some (some v))(hv:handedIn v=true) (hq:Q v ⟨h,g,d,t+1,os⟩):wpAny (model prog w) A (getAttr (.ref x) f b) Q E ⟨h,g,d,t,os⟩:=by
 have L0:=I.type (M:=model prog w);have L1:=As (M:=model prog w) X k.ga;have L2:=As (M:=model prog w) X k.gx;have L3:=looks_find (M:=model prog w) X I (findObj_own k.is ha Z hl);have f3:=Gn.ga.bind (.ref x);have Ej:(Value.builtin "BaseException.__getattribute__"==Value.builtin "object.__getattribute__")=false:=by decide+kernel
 have zq:(b&&onTheHeap (Value.builtin "BaseException.__getattribute__"))=false:=by cases b<;>rfl
 unfold getAttr getAttrBy;refine az (wpAny_mkText (gU (az (L0.at (az (L1.at ?_))))));show wpAny _ _ (if(onTheHeap (Value.ref C)&&Value.builtin "BaseException.__getattribute__"==Value.builtin "object.__getattribute__")=true then _ else _) _ _ _;rw[Ej,AR,aO au];unfold getAttrByItsOwn hookBefore;refine az ?_;show wpAny _ _ (typeLookup (.ref C) "__getattr__") _ _ _;refine L2.at (az (Ap (gU ?_)));unfold callGetattribute;rw[zq,aO au];unfold boundAndCalled;rw[f3];refine az (bc (rW ?_));refine Au Gn.ga.plain PySem.F.entry_bexc_ga (Mv X k L0 ?_);refine az (bc (az (bc (az (L0.at (az (L3.at ?_)))))));exact bc (handed_on hv hq)
end
inductive a3a(K:Frag)(f:Str)(Q:VK)(x:V)(H1:Hp):Prop |mk (ex:_)(C:_)(dx:_)(fs:_)(i:_)(h0:x= .ref ex)(h1:H1 ex=some (.ext (kQ ex (.ref C) (some dx))))(h2:H1 dx=some (.xd fs))(h3:kP K C)(h4:findIn K (.ref C) f=some none)(h5:fs.lookup f=some (.int i))(h6:Q (.int i) H1)
def Qn(K:Frag)(ta:TE)(f:Str):TE:=λO H Q=>ta O H λx H1=>a3a K f Q x H1
section
variable {X:Cx}{e:Expr}{f:Str}{pos:Pos}{ta:TE}
theorem yH(K:Frag)(hK:X.K=K)(he:PE X e ta)(hb:attributeBase e f X.env (eval e X.env)=eval e X.env:=by rfl):PE X (.Attribute e f pos) (Qn K ta f):=by subst hK;intro aj s O H Q I h;refine a2x hb (aL (he aj s O H _ I h) λu s1 ⟨x,H1,I1,rx,ex,C,dx,fs,i,ee,h1,h2,k,ha,hl,q⟩=>?_);subst ee;obtain rfl:u=Value.ref ex:=rx;obtain⟨⟨o,o1,o2,o3,tZ,o4⟩,_,_⟩:=(show eO X.prog X.w H1 s1.heap ex (.ext (kQ ex (.ref C) (some dx)))from I1.aW ex _ h1);obtain⟨mA,n1,n2⟩:=(show eO X.prog X.w H1 s1.heap dx (.xd fs)from I1.aW dx _ h2);obtain⟨od,e1,e2⟩:=Ll n1;have r:=n2 f;rw[hl]at r;cases em:mA f with |none=>rw[em]at r;exact r.elim |some v=>rw[em]at r;obtain⟨t,rfl⟩:=(show∃t,v=Value.int i t from r);have J:InstAt s1.heap ex o C (some od):=⟨o1,o2,by unfold notCls;rw[o4],by rw[o3];exact e1⟩;obtain⟨hp,g,d,tk,os⟩:=s1;exact a16 I1.fB k J ha (by rw[e2,em]) Z ⟨.int i,H1,I1.tok _,⟨t,Z⟩,q⟩
inductive a4D(K:Frag)(xs:List V)(H:Hp)(Q:VK):Prop |mk (ex:Addr)(C:Addr)(dx:Option Addr)(c:V)(cv:Value)(b:Bool)(h0:xs=[.ref ex,c])(h1:H ex=some (.ext (kQ ex (.ref C) dx)))(h2:kP K C)(h3:a1V c=some cv)(h4:kitOne K (.ref C) cv=some b)(h5:Q (.bl b) H)
def SJ(K:Frag):List V->Hp->VK->Prop:=λxs H Q=>a4D K xs H Q
inductive a4C(K:Frag)(xs:List V)(H:Hp)(Q:VK):Prop |mk (ex:Addr)(C:Addr)(p:Addr)(dx:Option Addr)(Ds:List Addr)(b:Bool)(h0:xs=[.ref ex,.ref p])(h1:H ex=some (.ext (kQ ex (.ref C) dx)))(h2:kP K C)(h3:H p=some (.tup (Ds.map V.ref)))(h4:kitAny K (.ref C) (Ds.map Value.ref)=some b)(h5:Q (.bl b) H)
def SI(K:Frag):List V->Hp->VK->Prop:=λxs H Q=>a4C K xs H Q
theorem Ef(K:Frag)(hK:X.K=K):eu X (.builtin "isinstance") (λxs H Q=>SJ K xs H Q\/SI K xs H Q):=by
 subst hK;intro aj s O H xs us Q I r h;rcases h with⟨ex,C,dx,c,cv,b,rfl,he,k,hc,kb,q⟩|⟨ex,C,p,dx,Ds,b,rfl,he,k,hp,kb,q⟩
 ·obtain⟨u,v,rfl,rx,rc⟩:=vals2 r
  cases(show u=Value.ref ex from rx);have hv:v=cv:=by cases c with |ref D=>cases(show v=Value.ref D from rc);exact dv hc |ty n=>cases(show v=Value.type n from rc);exact dv hc |_=>cases hc
  subst hv;obtain⟨o,o1,o2,_⟩:=(I.aW ex _ he).1;exact kia_one (Lz k) I.fB ⟨o,o1,o2⟩ kb (λz=>nomatch z) λtk=>⟨.bl b,H,I.tok _,rfl,q⟩
 ·obtain⟨u,v,rfl,rx,rc⟩:=vals2 r
  cases(show u=Value.ref ex from rx);cases(show v=Value.ref p from rc);obtain⟨o,o1,o2,_⟩:=(I.aW ex _ he).1;obtain⟨_,its,rv,⟨cls,dd,dt,sl⟩,h1,h2,n,h3⟩:=(show eO X.prog X.w H s.heap p (.tup (Ds.map V.ref))from I.aW p _ hp);simp only at h2 h3;subst h2 h3;have e:=GR rv;subst e;exact kia_tup (Lz k) I.fB ⟨o,o1,o2⟩ h1 kb (λz=>nomatch z) λtk=>⟨.bl b,H,I.tok _,rfl,q⟩
end
end L2
namespace L2
open PySem PySem.Spec PyProof.Rows
def xo(P:a9)(w:World)(K:a7)(mg:bI)(ao:Heap)(x:Str)(k:Nat)(sp:Sp):Prop:=∃f fd ps,gT P w K mg ao (rS P w) k f fd ps sp/\mg x=some (.ref f)/\PySem.W.keepIn K (.ref f)=true/\Binds K fd ps []
theorem FA.Yx{P:a9}{w:World}{K:a7}{mg:bI}{ao:Heap}{x:Str}{st:Stmt}{N ps:List Str}{k:Nat}{sp:Sp}(F:FA K mg x st)(S:bo N ps (aZ st))(len:∀vs H Q E,sp vs H Q E->vs.length=ps.length) (hb:∀(kV doc pm:Value)(an:Option Addr)(aH ct:Value)(us:List Value),us.length=ps.length->bindArgs (PySem.W.fnOf x x (me st) (gz st) (aZ st) .none kV doc pm an aH ct) ⟨us,[]⟩=pure (ps.zip us)) (iq:∀(f:Addr)(aH:Value)(A:ag)(outer:List Env)(s:a8)(H:Hp)(vs:List V)(Q:VK)(E:XK),cS k (A.deeper (envOfC x (aZ st) s.heap.objs.size f aH))->sp vs H Q E->∃t,fM (gA (rS P w) P w K mg ao N x (aZ st) f aH A outer s H E) (gz st) t/\t {nx:=λ_ H'=>Q .bM H',rt:=Q} (start N vs) H):xo P w K mg ao x (k+1) sp:=by obtain⟨f,fd,hm,F⟩:=F.ex;have ny:=F.binds hb;have kp:=F.kp;obtain⟨oc,od,kV,doc,pm,an,aH,ct,fm,rfl,lk,e9⟩:=F.ex;exact⟨f,_,ps,MF lk e9 S len λA outer s H vs Q E hr fC=>iq f aH A outer s H vs Q E hr fC,hm,kp,ny⟩
section
variable {X:Cx}{k:Nat}{x:Str}{p pos:Pos}{e:Expr}{es:List Expr}{t:TA}{sp:Sp}
end
theorem a1W{K:a7}{mg:bI}{h:Heap}{x:Str}{C fI:Addr}{eL:List Value}{newId:String}(X:K.In h)(G:h.Ns mainGlobals mg)(a:PySem.W.nsIn K mainGlobals x=some (some (.ref C)))(k:Fc K C fI eL newId=true):rR K mg x C fI eL newId:=⟨uv X G a,k⟩
structure kM(k:Nat)(A:ag):Prop where
 dp:A.depth+3*k+5<recursionLimit
 un:A.units+16*k+200<cLine
theorem kM.mono{j k:Nat}{A:ag}(r:kM k A)(h:j<=k):kM j A:=⟨by have:=r.dp;lia,by have:=r.un;lia⟩
theorem cS.mark{k:Nat}{A:ag}(r:cS k A)(v:Option Value):kM k (A.mark v):=⟨r.dp,r.un⟩
theorem kM.deeper{k:Nat}{A:ag}(r:kM (k+1) A)(env:Env):kM k (A.deeper env):=⟨by have:=r.dp;show A.depth+1+3*k+5<_;lia,by have:=r.un;show A.units+3+16*k+200<_;lia⟩
abbrev Fz(P:a9)(w:World)(K:a7)(mg:bI)(ao:Heap)(N:List Str)(qual:Str)(scope:Scope)(f:Addr)(cd:Value)(A:ag)(outer:List Env)(s:a8)(H:Hp):Cx:={(gA gm P w K mg ao N qual scope f cd A outer s H (λ_ _ _=>False))with calm:=false,xe:=λ_ _=>False}
def OH(P:a9)(w:World)(K:a7)(mg:bI)(ao:Heap)(k:Nat)(f:Addr)(fd:FuncData)(ps:List Str)(sp:Sp):Prop:=(∀vs H Q E,sp vs H Q E->vs.length=ps.length)/\∀(A:ag)(outer:List Env)(s:a8)(H:Hp)(args:Args)(us:List Value)(vs:List V)(Q:VK),kM k A->nK P w K mg ao A outer s H->BindsTo s fd args (ps.zip us)->Vals vs us->sp vs H Q (λ_ _ _=>False)->codeAny (model P w) A (.call (.ref f) args) (λr s'=>match r with| .ok (.ret u)=>CE outer P w H s Q u s'|_=>False) s
theorem ZM{P:a9}{w:World}{K:a7}{mg:bI}{ao:Heap}{k:Nat}{f:Addr}{name qual:Str}{params:Arguments}{body:List Stmt}{scope:Scope}{dV kV doc pm aH ct oc:Value}{an od:Option Addr} {fm:Array (Option Value)}{N ps:List Str}{sp:Sp}(lk:K.lookup f=some ⟨oc,od,.func (PySem.W.fnOf name qual params body scope dV kV doc pm an aH ct),fm⟩)(e9:PySem.W.codeIn K aH qual=true)(S:bo N ps scope)(len:∀vs H Q E,sp vs H Q E->vs.length=ps.length) (iq:∀(A:ag)(outer:List Env)(s:a8)(H:Hp)(vs:List V)(Q:VK),kM k (A.deeper (envOfC qual scope s.heap.objs.size f aH))->sp vs H Q (λ_ _ _=>False)->∃t,fM (Fz P w K mg ao N qual scope f aH A outer s H) body t/\t {nx:=λ_ H'=>Q .bM H',rt:=Q} (start N vs) H): OH P w K mg ao (k+1) f (PySem.W.fnOf name qual params body scope dV kV doc pm an aH ct) ps sp:=by
 refine⟨len,λA outer s H args us vs Q hr e0 hb r fC=>?_⟩;have hl:=len _ _ _ _ fC;have KX:K.In s.heap:=e0.mod.oN.keeps λb o e=>(e0.bs b o e).1;have lim:s.heap.NoLimit:=e0.mod.nolimit.keeps λb o e=>(e0.bs b o e).1;have hk:∀y∈ps.zip us,scope.names.lookup y.1=some .local\/(scope.names.lookup y.1=some .cell/\((cellsFrom (s.heap.objs.size+1) scope.names []).lookup y.1).isSome=true):=λ⟨n,v⟩ hy=>by
  rcases S.par n (uy hy).1 with q|q
  ·exact .inl q
  ·exact .inr ⟨q,Gi _ _ _ (.inl q)⟩
 refine OQ (by have:=hr.dp;lia) (KX _ _ lk) Z S.co S.gen Z (OT KX e9) (hb _ _ _ _ ?_);refine OM S.kind hk λenv he s1 x=>?_;subst he;refine⟨lim.keeps x.toInCall.keep,codeAny_func ?_⟩;obtain⟨t,ht,hq⟩:=iq A outer s H vs Q (hr.deeper _) fC;have e1:nK P w K mg ao {A with handled:=none} outer s H:=⟨e0.frames,e0.mod,e0.bs,e0.jy,e0.hX,e0.kF,e0.aW,e0.bare⟩;have I:=Eh (CX:=gm) (A:={A with handled:=none}) (E:=λ_ _ _=>False) S rfl e1 hl r x;have J:Inv (Fz P w K mg ao N qual scope f aH A outer s H) [] (start N vs) H s1:=⟨⟨I.ok.mod,I.ok.kind,I.ok.glob,I.ok.blt,I.ok.above,I.ok.inj,I.ok.has,I.ok.pI,λh=>(fQ h).elim,Around.frames_deeper e0.frames,I.ok.qc,I.ok.wA,I.ok.bs,I.ok.jy,I.ok.oE,I.ok.m6,I.ok.hX,I.ok.kF⟩,I.os,I.bare,I.ao,I.loc,I.cell,I.free,I.iu,I.pin,I.aW,I.len⟩;refine dR (ht [] s1 (start N vs) H _ J hq) (λfl s' hs=>?_) λe s' hs=>hs.elim;cases fl with |ret u=>obtain⟨v,σ',H',J',rv,q⟩:=hs;exact⟨v,H',J'.os,J'.bare,J'.ao,J'.aW,rv,q⟩ |next=>obtain⟨σ',H',J',q⟩:=hs;exact⟨V.bM,H',J'.os,J'.bare,J'.ao,J'.aW,Z,q⟩ |brk=>obtain⟨_,_,_,q⟩:=hs;exact False.elim q |cont=>obtain⟨_,_,_,q⟩:=hs;exact False.elim q
def Ak(P:a9)(w:World)(K:a7)(mg:bI)(ao:Heap)(x:Str)(k:Nat)(sp:Sp):Prop:=∃f fd ps,OH P w K mg ao k f fd ps sp/\mg x=some (.ref f)/\PySem.W.keepIn K (.ref f)=true/\Binds K fd ps []
theorem FA.Yw{P:a9}{w:World}{K:a7}{mg:bI}{ao:Heap}{x:Str}{st:Stmt}{N ps:List Str}{k:Nat}{sp:Sp}(F:FA K mg x st)(S:bo N ps (aZ st))(len:∀vs H Q E,sp vs H Q E->vs.length=ps.length) (hb:∀(kV doc pm:Value)(an:Option Addr)(aH ct:Value)(us:List Value),us.length=ps.length->bindArgs (PySem.W.fnOf x x (me st) (gz st) (aZ st) .none kV doc pm an aH ct) ⟨us,[]⟩=pure (ps.zip us)) (iq:∀(f:Addr)(aH:Value)(A:ag)(outer:List Env)(s:a8)(H:Hp)(vs:List V)(Q:VK),kM k (A.deeper (envOfC x (aZ st) s.heap.objs.size f aH))->sp vs H Q (λ_ _ _=>False)->∃t,fM (Fz P w K mg ao N x (aZ st) f aH A outer s H) (gz st) t/\t {nx:=λ_ H'=>Q .bM H',rt:=Q} (start N vs) H):Ak P w K mg ao x (k+1) sp:=by obtain⟨f,fd,hm,F⟩:=F.ex;have ny:=F.binds hb;have kp:=F.kp;obtain⟨oc,od,kV,doc,pm,an,aH,ct,fm,rfl,lk,e9⟩:=F.ex;exact⟨f,_,ps,ZM lk e9 S len λA outer s H vs Q hr fC=>iq f aH A outer s H vs Q hr fC,hm,kp,ny⟩
section
variable {X:Cx}{k:Nat}{x:Str}{p pos:Pos}{e:Expr}{es:List Expr}{t:TA}{sp:Sp}
def QK(sp:Sp)(t:TA):TE:=λO H Q=>t O H λvs H1=>sp vs H1 Q (λ_ _ _=>False)
theorem Kk(F:Ak X.prog X.w X.K X.mg X.ao x k sp)(hr:kM k X.A)(hg:Gl X x)(ha:PA X (e::es) t)(ip:(x==("__debug__":Str))=false:=by decide) (he:starEach (e::es) X.env=(false,eval e X.env)::starEach es X.env:=by rfl)(gy:(backTo pos (starEach es X.env)).any (·.1)=false:=by rfl):PE X (.Call (.Name x p) (e::es) [] pos) (QK sp t):=by
 obtain⟨f,fd,ps,F,hm,hk,hb⟩:=F;intro aj s O H Q I h;refine Aq (tJ I hg hm ?_ ip);refine OU (h₀:=X.ao) I.ok.mod.oN hk (aL (ha pos aj s O H _ I h) λus s1 ⟨vs,H1,I1,r,q⟩=>⟨I1.fB,?_⟩) he gy;have hl:(us++[]).length=ps.length:=by rw[sj,<-r.length];exact F.1 _ _ _ _ q
 have bt:=hb s1 us I1.fB hl;rw[sj]at bt;refine rW (ur (F.2 X.A X.stack s1 H1 ⟨us,[]⟩ us vs Q hr I1.zN bt r q) λr s' hq=>?_);cases r with |error e=>exact hq.elim |ok fl=>cases fl with |ret u=>exact I1.after hq |next=>exact hq.elim |brk=>exact hq.elim |cont=>exact hq.elim
end
section
variable {P:a9}{w:World}{K:a7}{mg:bI}{ao:Heap}{N:List Str}{qual:Str}{scope:Scope}{f:Addr}{cd:Value}{A:ag}{outer:List Env}{s:a8}{H:Hp}{E E0:XK}
end
end L2
namespace L2
open PySem PySem.Spec PyProof.Rows
open Builtin Builtin.ObjectAttr
section
variable {prog:a9}{w:World}{A:ag}{E:Value->a8->Prop}{s:a8}{K:a7}{x C dx:Addr}{ox:Obj}{fs:Array Value}{name:Str}{v:Value}{Q:Unit->a8->Prop}{mA:bI}{ks:List Str}
theorem RJ(X:K.In s.heap)(hx:s.heap.get? x=some ox)(hc:ox.cls= .ref C)(hd:ox.dict=some dx)(hf:ox.data= .fields fs)(hn:s.heap.Ns1 dx mA)(hw:PySem.Within mA ks)(hz:ks.length<1000) (hs:PySem.W.findIn K (.ref C) "__setattr__"=some (some (.builtin "object.__setattr__")))(hp:DC K C=true)(ht:PySem.W.takerIn K C name=some none)(hh:PySem.W.hasDictIn K C=true) (h:∀h',h'.Ns1 dx (λy=>if y=name then some v else mA y)->Heap.SameBut dx s.heap h'->Q () {s with heap:=h',toks:=s.toks+2}):wpAny (model prog w) A (setAttr (.ref x) name v) Q E s:=by
 obtain⟨oD,Xw,_⟩:=Ll hn;have I:PySem.W.InstAt s.heap x ox C (some oD):=⟨hx,hc,by unfold PySem.W.notCls;rw[hf],by rw[hd];exact Xw⟩;refine PySem.W.set_plain X I hs ?_;have S0:=PySem.F.store_object;obtain⟨cd,e9,ho⟩:=Gj hp;have ne:cd.mro.isEmpty=false:=by cases q:cd.mro with|nil=>rw[q]at ho;simp[lF,nT]at ho|cons _ _=>rfl
 have sub:PySem.W.Looks (model prog w) s.heap (isInstance (.ref x) (.type "object")) true:=I.type.andThen (PySem.W.looks_mroIn X (by unfold PySem.W.mroIn;rw[e9,Option.bind_some,aO (by rw[ne];decide),Mj au ho]));refine Au S0.slot.plain S0.entry (@PySem.W.check_slot (model prog w) _ _ {s with toks:=s.toks+1} "object.__setattr__" "object" "__setattr__" (.ref x) [.str name s.toks,v] [] _ S0.kind S0.split sub (S0.args (.ref x) (.str name s.toks) v) ?_);obtain⟨ml,ha,hr⟩:=P9.mp ht;have hm:PySem.W.Looks (model prog w) s.heap (mroOf (.ref C)) cd.mro:=(Gg X e9).andThen .now;have L3:PySem.W.Looks (model prog w) s.heap (storeTaker? ml) none:=by cases ml with |none=>exact .now |some a=>obtain⟨b,hb,e⟩:=xB.mp hr;refine(PySem.W.looks_takesIn X hb).andThen ?_;cases b with |false=>exact .now |true=>cases e
 rw[PySem.W.osa_eq,refuse_eq];refine az (az (kU (s:={s with toks:=s.toks+1}) I.type (az (kU (s:={s with toks:=s.toks+1}) hm ?_))));rw[K1 _ ho];refine bc (az (kU (s:={s with toks:=s.toks+1}) I.type (az (kU (s:={s with toks:=s.toks+1}) (PySem.W.looks_findIn X ha) (az (kU (s:={s with toks:=s.toks+1}) L3 ?_))))));obtain⟨cd2,iW,hd2⟩:=Gj hh;refine az (bc (az (az (wpAny_loadPart (s:={s with toks:=s.toks+1}) hx ?_))));rw[hc];refine az (kU (s:={s with toks:=s.toks+1}) (Gg X iW) ?_);rw[hd2,hd];rw[aO au];refine bc (a:=some dx) ?_;show wpAny _ _ (storeInDict dx (.str name s.toks) name v) _ _ _;unfold storeInDict newKeyGuard;refine az (bc (az (wpAny_nsSet1 hn λh2 n2 sb=>?_)));obtain⟨o2,es2,ep2,e1,e2,e3⟩:=n2.count (PySem.Within.cons name v hw);refine az (wpAny_lookBehind e1 (by rw[e2];exact pastItsLine_dict (fe e3 (by rw[mB,sizeLine_eq];lia))) ?_);exact bc (h h2 n2 sb)
end
inductive a4m(K:a7)(f:Str)(D:Ends)(O:St)(y:V)(x:V)(H2:Hp):Prop |mk (ex:_)(C:_)(dx:_)(fs:_)(h0:x= .ref ex)(h1:H2 ex=some (.ext (jB ex C dx)))(h2:H2 dx=some (.xd fs))(h3:uh K C f)(h4:fs.length<1000)(h5:D.nx O (upd H2 dx (.xd (oj f y fs))))
def RP(K:a7)(ta tv:TE)(f:Str):TS:=λD O H=>tv O H λy H1=>ta O H1 λx H2=>a4m K f D O y x H2
section
variable {X:Cx}{o e value:Expr}{f:Str}{pos pos' sF:Pos}{ta tv:TE}
theorem T5(K:a7)(hK:X.K=K)(ha:PE X o ta)(hv:PE X value tv)(hs:swapsWith value (some (.Attribute o f pos')) pos.line X.env=pure false:=by rfl):PS X (.Assign [.Attribute o f pos'] value pos) (RP K ta tv f):=by
 subst hK;intro aj s O H D I h;refine plainObj_wpAny_Assign_Attribute (aL (hv aj s O H _ I h) λu s1 ⟨y,H1,I1,ry,q⟩=>aL (ha aj s1 O H1 _ I1 q) λov s2 ⟨x,H2,I2,rx,ex,C,dx,fs,e1,ee,ed,xc,hl,q2⟩=>?_) hs;subst e1;obtain rfl:ov=Value.ref ex:=rx;obtain⟨⟨ob,vs,g1,g2,g3,g4,g5⟩,_,_⟩:=(show eO X.prog X.w H2 s2.heap ex (.ext (jB ex C dx))from I2.aW ex _ ee);obtain⟨mA,n1,n2⟩:=(show eO X.prog X.w H2 s2.heap dx (.xd fs)from I2.aW dx _ ed);have hw:PySem.Within mA (fs.map (·.1)):=λg hg=>by cases e:fs.lookup g with
  |none=>have r:=n2 g;rw[e]at r;cases em:mA g with |none=>exact absurd em hg |some _=>rw[em]at r;exact r.elim
  |some z=>exact fu.mpr ⟨(g,z),lookup_mem e,Z⟩
 refine RJ I2.fB g1 g2 g3 g4 n1 hw (by rw[bu];exact hl) xc.sa xc.ov xc.tk xc.hd λh' k1 k2=>?_;have keep:∀b u,b≠dx->s2.heap.get? b=some u->h'.get? b=some u:=λb u nb z=>(k2.2 b nb).trans z;have nd:∀b,H2 b=none->b≠dx:=λb z y=>by rw[y,ed]at z;cases z
 obtain⟨oD,_,_,eD,_⟩:=id k1;have un:Un X.fs [] H2 (upd H2 dx (.xd (oj f y fs))) s2.heap h':=by
  refine⟨λb o z n _ _=>keep b o (nd b n) z,λb o z n _ _=>⟨o.slots,keep b o (nd b n) z⟩,λb o z n _=>by rw[bf (nd b n)];exact n,λb o z _=>?_,λb xs z=>?_,λb o u z=>?_,λb ps z=>⟨#[],?_⟩⟩
  ·by_cases hb:b=dx
   ·rw[hb];exact⟨oD,eD⟩
   ·exact⟨o,keep b o hb z⟩
  ·rw[bf (λy=>by rw[y,ed]at z;cases z)];exact z
  ·rw[bf (λy=>by rw[y,ed]at z;cases z)];exact z
  ·rw[bf (λy=>by rw[y,ed]at z;cases z),Array.append_empty];exact z
 have aW:dg X.prog X.w (upd H2 dx (.xd (oj f y fs))) h':=λb u z=>by
  by_cases hb:b=dx
  ·subst hb
   rw[bX]at z;cases z;refine⟨_,k1,λg=>?_⟩;rw[Lk];by_cases hg:g=f
   ·rw[aR hg,aR hg];exact ry
   ·rw[aO hg,aO hg];exact n2 g
  ·rw[bf hb]at z
   refine(I2.aW b u z).jH (λc v hc y=>keep c v ?_ y) (λc y=>?_) λc xs y=>?_
   ·rcases hc with rfl|hc
    ·exact hb
    ·intro y;rw[y,ed]at hc;cases hc
   ·rw[bf (λy'=>by rw[y',ed]at y;cases y)];exact y
   ·rw[bf (λy'=>by rw[y',ed]at y;cases y)];exact y
 exact⟨O,_,I2.un (t':=s2.toks+2) un aW,q2⟩
end
end L2
namespace L2
open PySem PySem.Spec PyProof.Rows
section
variable {X:Cx}{x:Str}{C fI:Addr}{eL:List Value}{newId tL B:String}{e e2:Expr}{t:TA}{np dm pos:Pos}{k:Nat}{fd:FuncData}{ps:List Str}{sp:Sp}
theorem t7{E:XK}(hx:∀aj O H s ex dx,Inv X aj O H s->H ex=some (.ext (jB ex C dx))->X.s₀.heap.objs.size<=ex->E (.ref C) (some dx) (del H ex)->X.xe (.ref ex) s) (EC:rR X.K X.mg x C fI eL newId)(FB:ExcBaseFacts B newId tL eL)(hh:X.A.handled=none)(F:gT X.prog X.w X.K X.mg X.ao gm k fI fd ps sp)(hr:cS (k+1) X.A)(hb:Binds X.K fd ps [])(hf:fnAt X.K fI=true)(hg:Gl X x)(ha:PA X [e,e2] t) (he:starEach [e,e2] X.env=[(false,eval e X.env),(false,eval e2 X.env)]:=by rfl)(hd:(x==("__debug__":Str))=false:=by decide): PS X (.Raise (some (.Call (.Name x np) [e,e2] [] dm)) none pos) (Qt E C sp t):=by
 intro aj s O H D I h;obtain⟨tl,Nn,nm,q,bs,hdct,sn,sub,ab,col,dd,k0,k1,k2,k3,k5,mN,hC,hN,hi,T⟩:=EC.own I.ok.mod.oN;have hA:=ha dm aj s O H _ I h;rw[arm_exec_Raise];refine az (kR (Sw (C:=C) (nm:=nm) (q:=q) (N:=Nn) (bs:=bs) (bm:=tl) (hdct:=hdct) (sn:=sn) (sub:=sub) (ab:=ab) (col:=col) (dd:=dd) (k0:=k0) (k1:=k1) (k2:=k2) (k3:=k3) (k5:=k5) (newId:=newId) (T.hasType FB.hasBase) hh (az (dR (wpAny_Call_ofName (tJ I hg EC.at' ?_ hd)) (λv s3 h3=>az (kR (bc h3))) λ_ _ z=>z))));unfold callWith;rw[he]at hA⊢;refine az (gU (dR (Calls.evalArgs_plain (Q:=λ(a:Args) s2=>a.kw=[]/\AP X aj O (λvs H1=>vs.length<=sizeLine/\∀ex,H1 ex=none->sp (.ref ex::vs) (upd H1 ex (.ext (nJ ex C))) (λv H2=>v= .bM/\∃dx,H2 ex=some (.ext (jB ex C dx))/\E (.ref C) (some dx) (del H2 ex)) (λ_ _ _=>False)) a.pos s2) (aL hA λus s2 z=>⟨Z,z⟩)) (λa s2 z=>az (kR ?_)) λ_ _ z=>z));obtain⟨us,akw⟩:=a;obtain⟨XJ,vs,H1,I1,r1,z1,w1⟩:=z;obtain rfl:akw=[]:=XJ;have C2:=I1.bk _ _ hC;have T2:=T.keeps I1.bk;have N2:=hN.keeps I1.bk;obtain⟨oI,f1,f2⟩:=ZO I1.fB hf;have W6:us.length<=sizeLine:=by rw[<-r1.length];exact z1
 obtain⟨hp,g,d,tk,os⟩:=s2;rw[show(backTo dm [(false,eval e X.env),(false,eval e2 X.env)]).any (·.1)=false from rfl];refine az (wpAny_keeperOf_exc C2 ?_);have I1':Inv X aj O H1 ⟨kI hp C us,g,d,tk,os⟩:=I1.kept (t':=tk) (h':=kI hp C us) λb u e=>u7 e;have xa:=MQ (h:=hp) (C:=C) (rest:=us);have fx:H1 (hp.objs.size+1)=none:=I1.aW.fresh (Nat.le_succ _);have I2:Inv X aj O (upd H1 (hp.objs.size+1) (.ext (nJ (hp.objs.size+1) C))) ⟨kI hp C us,g,d,tk,os⟩:=by refine I1.laid (a:=hp.objs.size+1) (o:=.ext (nJ (hp.objs.size+1) C)) (h':=kI hp C us) (t':=tk) (λb u e=>u7 e) (Nat.le_succ _) ?_;exact⟨⟨_,_,xa,Z,Z,Z,Z⟩,⟨_,xa⟩,λh1 h2 ⟨qw,tZ,y1,y2⟩ k=>⟨qw,tZ,k _ y1,y2⟩⟩
 have hq:=w1 (hp.objs.size+1) fx;have r2:Vals (V.ref (hp.objs.size+1)::vs) (Value.ref (hp.objs.size+1)::us):=.cons Z r1;have hl:(Value.ref (hp.objs.size+1)::us++[]).length=ps.length:=by have e:=r2.length;rw[F.len _ _ _ _ hq]at e;rw[sj];exact e.symm
 have bt:=hb ⟨kI hp C us,g,d,tk,os⟩ (Value.ref (hp.objs.size+1)::us) I2.fB hl;rw[sj]at bt;refine az (a2e FB T2 C2 N2 hi f1 f2 W6 (rW (ur (F.run _ X.stack _ _ ⟨Value.ref (hp.objs.size+1)::us,[]⟩ (Value.ref (hp.objs.size+1)::us) _ _ (λ_ _ _=>False) (hr.make C us []) (I2.zN.make C us []) bt r2 hq) λr s' lP=>?_)));cases r with |error e=>exact False.elim lP |ok fl=>cases fl with |ret u=>obtain⟨v,H',I3,rv,ev,dx,ed,q3⟩:=I2.after lP;subst ev;refine⟨rv,az (gU (wpAny_point (bc ?_)))⟩;obtain⟨⟨ob,fs,g1,g2,g3,g4,g5⟩,_,_⟩:=(show eO X.prog X.w H' s'.heap _ (.ext (jB (hp.objs.size+1) C dx))from I3.aW _ _ ed);exact⟨_,ob,fs,Z,I3.bk _ _ hC,g1,g2,g4,g5,hx aj O H' s' _ dx I3 ed (fe I1.sz (Nat.le_succ _)) q3⟩ |next=>exact False.elim lP |brk=>exact False.elim lP |cont=>exact False.elim lP
end
theorem mq.Nu{X:Cx}{st:Stmt}{rest:List Stmt}{t u:TS}(h1:PS X st t)(h2:mq X rest u):mq X (st::rest) (uP t u):=by intro s O H D I h;refine Gb (dR (h1 [] s O H _ I h) (λf s1 q=>?_) λ_ _ x=>x);cases f with |next=>obtain⟨σ',H',I',q'⟩:=q;exact h2 s1 σ' H' D I' q' |brk=>exact q |cont=>exact q |ret v=>exact q
def Af(CX:iC)(X:Cx)(E:St->XK):Prop:=∀(aj:List (Addr×Obj))(O:St)(H:Hp)(s:a8)(e:Value)(s':a8),Inv X aj O H s->CX X.stack H s (E O) e s'->X.xe e s'
section
variable {X:Cx}{CX:iC}{k:Nat}{f:Addr}{fd:FuncData}{ps:List Str}{sp:Sp}{dvs:List V}{ds:List Value}{E:St->XK}{x:Str}{p pos:Pos}{e:Expr}{es:List Expr}{t:TA}
theorem Sb{aj:List (Addr×Obj)}{O:St}{H:Hp}{s:a8}{Q:VK}{us:List Value}{vs:List V}(F:gT X.prog X.w X.K X.mg X.ao CX k f fd ps sp)(hr:cS k X.A)(hb:Binds X.K fd ps ds)(hd:Vals dvs ds)(hx:Af CX X E)(I:Inv X aj O H s)(r:Vals vs us)(h:sp (vs++dvs) H Q (E O)):wpAny (model X.prog X.w) X.A (call (.ref f) us) (EP X aj O Q) X.xe s:=by
 have r2:Vals (vs++dvs) (us++ds):=r.append hd;have hl:(us++ds).length=ps.length:=by rw[<-r2.length];exact F.len _ _ _ _ h
 refine rW (ur (F.run X.A X.stack s H ⟨us,[]⟩ (us++ds) (vs++dvs) Q (E O) hr I.zN (hb s us I.fB hl) r2 h) λr s' hq=>?_);cases r with |error e=>exact hx aj O H s e s' I hq |ok fl=>cases fl with |ret u=>exact I.after hq |next=>exact False.elim hq |brk=>exact False.elim hq |cont=>exact False.elim hq
def QJ(sp:Sp)(E:St->XK)(t:TA):TE:=λO H Q=>t O H λvs H1=>sp vs H1 Q (E O)
theorem Tt(F:xo X.prog X.w X.K X.mg X.ao x k sp)(hp:Af (rS X.prog X.w) X E)(hr:cS k X.A)(hg:Gl X x)(ha:PA X (e::es) t)(ip:(x==("__debug__":Str))=false:=by decide) (he:starEach (e::es) X.env=(false,eval e X.env)::starEach es X.env:=by rfl)(gy:(backTo pos (starEach es X.env)).any (·.1)=false:=by rfl): PE X (.Call (.Name x p) (e::es) [] pos) (QJ sp E t):=by obtain⟨f,fd,ps,F,hm,hk,hb⟩:=F;intro aj s O H Q I h;refine Aq (tJ I hg hm ?_ ip);refine OU (h₀:=X.ao) I.ok.mod.oN hk (aL (ha pos aj s O H _ I h) λus s1 ⟨vs,H1,I1,r,q⟩=>⟨I1.fB,?_⟩) he gy;exact Sb (dvs:=[]) (ds:=[]) F hr hb .nil hp I1 r (by rw[sj];exact q)
end
inductive a3c(i:Nat)(Cs:Addr->Prop)(tb:(St->XK)->TS)(th:TS)(D:Ends)(O:St)(H:Hp):Prop |mk (E:St->XK)(h0:tb E D O H)(h1:(∀σ' cls dx H',E σ' cls dx H'->∃C,cls= .ref C/\Cs C))(h2:∀(C ex:Addr)(dx:Option Addr)(σ':St)(H':Hp),σ'.length=O.length->E σ' (.ref C) dx H'->H' ex=none->th {nx:=λσ2 H2=>D.nx (σ2.set i none) H2,rt:=D.rt,bk:=λσ2 H2=>D.bk (σ2.set i none) H2,ct:=λσ2 H2=>D.ct (σ2.set i none) H2} (σ'.set i (some (.ref ex))) (upd H' ex (.ext (kQ ex (.ref C) dx))))
def Qq(i:Nat)(Cs:Addr->Prop)(tb:(St->XK)->TS)(th:TS):TS:=λD O H=>a3c i Cs tb th D O H
section
variable {X:Cx}{i:Nat}{n y:Str}{Dc:Addr}{A2:List Value}{newD:String}{body uR:List Stmt}{b0:Stmt}{np qC pos:Pos}{tb:(St->XK)->TS}{th:TS}{Cs:Addr->Prop}
theorem T7(jn:X.stack=X.env::X.outer)(Yc:X.env.frame=some X.env.locals)(hN:X.N.Nodup)(hi:X.N[i]? =some n)(hk:X.env.kindOf n=some .local)(hs:X.env.scope.names.lookup n=some .local) (hb:∀(E:St->XK)(xe:Value->a8->Prop),Af (rS X.prog X.w) (X.iH xe) E->fM (X.iH xe) body (tb E)) (hg:Gl X y)(hy:Exc X.K X.mg y Dc A2 newD)(EL:A2.contains (.type "BaseException")=true)(EM:∀C,Cs C->ClsAt X.K C/\takes X.K C Dc) (hh:∀ex,fM (X.hand ex) (b0::uR) th)(ip:(y==("__debug__":Str))=false:=by decide): Oy X (.Try body [.ExceptHandler (some (.Name y np)) (some n) (b0::uR) qC] [] [] pos) (Qq i Cs tb th):=by
 intro s O H D I h;obtain⟨E,hq,qM,Xc⟩:=h;refine wpAny_Try_except ?_;have ps:Af (rS X.prog X.w) (X.iH λe s₁=>wpAny (model X.prog X.w) X.A (noteFrame e X.env) (λ_ s₂=>wpAny (model X.prog X.w) X.A (setFlight e none) (λ_ s₃=>wpAny (model X.prog X.w) X.A (handleBy e X.env [.ExceptHandler (some (.Name y np)) (some n) (b0::uR) qC]) (SP X [] D) X.xe s₃) X.xe s₂) X.xe s₁) E:=by
  intro Dx σ' H1 s1 ev s2 I1 hx;obtain⟨ex,cls,dx,H',B,rfl,ho,Mb,EY,F,hE⟩:=hx;obtain⟨C,rfl,hC⟩:=qM σ' cls dx H' hE;have I0:Inv X [] σ' H1 s1:=I1.kX.a2u;obtain⟨vU,g2,d2,t2,o2⟩:=s2;have ZP:kO B (X.env::X.outer) ex (.ref C) dx .none vU:=by rw[<-jn];exact EY
  have hA:X.A.frames=some (X.env::X.outer):=by rw[<-jn];exact I0.ok.frames
  refine Vx (s:=⟨vU,g2,d2,t2,o2⟩) hA Yc ZP λh4 zA PX=>?_;refine F1 zA λh5 wy PV=>?_;have F4:=F.step EY.1 zA.1 PX EY.2.2.1;have ZS:h4.FunFrames B X.stack:=by rw[jn];exact zA.2.2.1
  have F5:=F4.step zA.1 wy.1 PV ZS;have ZR:h5.FunFrames B X.stack:=by rw[jn];exact wy.2.2.1
  have I5:Inv X [] σ' H' ⟨h5,g2,d2,t2,o2⟩:=I0.wQ (s':=⟨h5,g2,d2,t2,o2⟩) ho F5.un F5.aW Mb (λb hb=>(fq hb).elim);refine wpAny_handleBy_cons (codeAny_handlers_test (tJ (X:=X.hand ex) (I5.hand ex) hg hy.at' ?_ ip)) (by intro q;cases q);obtain⟨eC,tk⟩:=EM C hC;obtain⟨nm,q,Nn,bs,tl,hdct,sn,sub,ab,col,dd,k0,k1,k2,k3,k5,nw,oC⟩:=eC _ I5.fB;obtain⟨tl',Nn',KI,q',NL,Mc,Ic,Hq,Oh,ND,Nq,j0,j1,j2,j3,j5,mN',oD,a5W,a5H,TL'⟩:=(hy.own I5.fB).obj;obtain⟨ob,Xv,Xu,_⟩:=wy.there;have En:(Value.ref C::tl).contains (.ref Dc)=true:=by
   obtain⟨cd,ha,zB⟩:=P9.mp tk;split at zB
   ·cases zB
   ·have hc:=dv zB
    unfold PySem.W.clsIn at ha;split at ha
    ·rename_i c1 c2 cd' c4 hl
     cases ha;have e1:=I5.fB _ _ hl;rw[show(Shared.heap ⟨h5,g2,d2,t2,o2⟩).get? C=some _ from oC]at e1;have e2:=dv e1;unfold excClassObj at e2;injection e2 with _ _ e3 _;injection e3 with e4;rw[<-e4]at hc;exact hc
    ·cases ha
  refine a14 oC oD Xv Xu (TL'.hasType EL) En ?_;refine codeAny_handlers_suite_as ?_;refine F1 (s:=⟨h5,g2,d2,t2,o2⟩) wy λh6 MH PU=>?_;have F6:=F5.step wy.1 MH.1 PU ZR;have Q3:Un (eg X.stack) [] H1 (upd H' ex (.ext (kQ ex (.ref C) dx))) s1.heap h6:=by
   have nb:∀b u,H' b=some u->b≠ex:=λb u e z=>by rw[z,F6.ne]at e;cases e
   refine⟨F6.un.keep,F6.un.slot,λb o e n hx=>?_,F6.un.there,λb xs e=>?_,λb o u e=>?_,λb ps e=>?_⟩
   ·rw[bf (λz=>by rw[z,F6.nw]at e;cases e)];exact F6.un.free b o e n hx
   ·have:=F6.un.iI b xs e;rw[bf (nb b _ this)];exact this
   ·have:=F6.un.ir b o u e;rw[bf (nb b _ this)];exact this
   ·obtain⟨more,e1⟩:=F6.un.iJ b ps e;exact⟨more,by rw[bf (nb b _ e1)];exact e1⟩
  have Xq:dg X.prog X.w (upd H' ex (.ext (kQ ex (.ref C) dx))) h6:=λb u e=>by
   by_cases Mf:b=ex
   ·subst Mf
    rw[bX]at e;cases e;obtain⟨o6,e6,c6⟩:=MH.there;exact⟨⟨o6,e6,c6⟩,⟨o6,e6⟩,λg1 g3 ⟨o7,e7,c7⟩ k=>⟨o7,k o7 e7,c7⟩⟩
   ·rw[bf Mf]at e
    refine(F6.aW b u e).jH (λc v hc q=>q) (λc q=>?_) λc xs q=>?_
    ·rw[bf (λz=>by rw[z,F6.ne]at q;cases q)];exact q
    ·rw[bf (λz=>by rw[z,F6.ne]at q;cases q)];exact q
  have I6:Inv X [] σ' (upd H' ex (.ext (kQ ex (.ref C) dx))) ⟨h6,g2,d2,t2,o2⟩:=I0.wQ (s':=⟨h6,g2,d2,t2,o2⟩) ho Q3 Xq Mb (λb hb=>(fq hb).elim);refine sI (X:=X.hand ex) (I6.hand ex) hN hi (.inl hs) (v:=.ref ex) Z (λs7 I7=>?_) (.inr hs);refine dR (hh ex [] s7 _ _ _ I7 (Xc C ex dx σ' H' (I0.len.trans I.len.symm) hE F.ne)) (λf s8 q=>?_) λe s8 q=>False.elim q;have un:∀(σ2:St)(H2:Hp)(Q:Unit->a8->Prop),Inv (X.hand ex) [] σ2 H2 s8->(∀s9,Inv X [] (σ2.set i none) H2 s9->Q () s9)->wpAny (model X.prog X.w) X.A (do bindName X.env n .none;unbindBehindTheSuite X.env n qC) Q X.xe s8:=λσ2 H2 Q I8 hq=>by
   have OF:=I8.back I0.ok;have bG:i<σ2.length:=by rw[OF.len];exact(cy.mp hi).1
   unfold bindName;refine az (az (gU (wpAny_point (az (sI OF hN hi (.inl hs) (v:=.bM) Z (λs9 I9=>wpAny_point ?_) (.inr hs))))));refine PZ I9 hN hi hk hs (v:=.bM) (xF bG) λjb pO=>hq jb ?_;rw[Gv]at pO;exact pO
  cases f with |next=>obtain⟨σ2,H2,I8,dq⟩:=q;exact un σ2 H2 _ I8 λs9 I9=>⟨_,H2,I9,dq⟩ |brk=>obtain⟨σ2,H2,I8,dq⟩:=q;exact un σ2 H2 _ I8 λs9 I9=>⟨_,H2,I9,dq⟩ |cont=>obtain⟨σ2,H2,I8,dq⟩:=q;exact un σ2 H2 _ I8 λs9 I9=>⟨_,H2,I9,dq⟩ |ret u=>obtain⟨v,σ2,H2,I8,r8,dq⟩:=q;exact un σ2 H2 _ I8 λs9 I9=>⟨v,_,H2,I9,r8,dq⟩
 refine dR (hb E _ ps [] s O H D (I.iH _) hq) (λf s1 q=>?_) λe s1 q=>q;have q':=q.kX;cases f with |next=>exact Ao q' |brk=>exact q' |cont=>exact q' |ret u=>exact q'
end
section
variable {prog:a9}{w:World}{A:ag}{E:Value->a8->Prop}{s:a8}
theorem RI{l b sl:Addr}{items new:Array Value}{n n2:Nat}{vl vu:Value}{a c:Nat}{c0:Int}{Q:Unit->a8->Prop} (e:s.heap.get? l=some {cls:=.type "list",data:=.seq items n})(e2:s.heap.get? b=some {cls:=.type "list",data:=.seq new n2})(fX:l≠b) (hs:s.heap.IsSliceOf sl vl vu .none)(pl:IsPart vl (some (a:Int)))(pu:IsPart vu (some c0))(qO:sliceBounds (some (a:Int)) (some c0) none items.size=((a:Int),(c:Int),1))(hac:a<=c)(hc:c<=items.size) (nc:items.size+new.size<=sizeLine)(h:Q () {s with heap:=s.heap.update l (Obj.mapSeq λxs=>xs.extract 0 a++new++xs.extract c xs.size)}): wpAny (model prog w) A (setItem (.ref l) (.ref sl) (.ref b)) Q E s:=by
  have hl:s.heap.IsList l items:=PySem.IsL.isList e;have hb:s.heap.IsList b new:=PySem.IsL.isList e2;obtain⟨os,lQ,jR,jQ⟩:=id hs;have zC:s.TypeIs (.ref sl) "slice":=⟨os,lQ,jR⟩;have Xg:¬((rawPart none==rawInt 0)=true):=fQ;have Ep:Builtin.List.listSameRef (.ref l) (.ref b)=false:=by unfold Builtin.List.listSameRef;exact Aw.mpr fX
  have XD:(max (a:Int) (c:Int)).toNat=c:=by omega
  have iS:((λxs:Array Value=>xs.extract 0 a++new++xs.extract c xs.size) items).size<=sizeLine+1:=by simp only[Array.size_append,Array.size_extract];omega
  unfold setItem
  try with_reducible refine gU ?_
  first|refine az (bc ?_)|skip
  refine az (wpAny_sequenceKey hl.typeIs au ?_);refine az (xu (name:=Str.ofString "__setitem__") hl.typeIs slot_list_setitem (xq slot_list_setitem hl.typeIs entry_list_setitem ?_ (args_list_setitem _ _ _)));show wpAny _ _ (Builtin.List.listSubscript? (.ref sl)>>=_) _ _ s;refine az ?_;unfold Builtin.List.listSubscript?;refine az (wpAny_specialOf zC slice_no_index ?_);simp only[Option.isNone_none,kT];refine bc ?_;show wpAny _ _ (typeOf (.ref sl)>>=_) _ _ s;refine az (wpAny_typeOf zC ?_)
  first |rw[aO au] |refine OV au ?_
  rw[listSliceParts_eq];refine az (az (fZ lQ jQ (x:=.none) Z (az (wpAny_listPart .none ?_))));rw[aO Xg];refine az (fZ lQ jQ (x:=vl) Z (az (wpAny_listPart pl ?_)));refine az (fZ lQ jQ (x:=vu) Z (az (wpAny_listPart pu (bc ?_))))
  first
    |simp only[Ep,Bool.false_eq_true,if_false] |refine OV Ep ?_
    | (dsimp only
       rw[aO (by rw[Ep];exact fQ)])
  refine az (m:=Builtin.List.listAllItems (.ref b) "must assign iterable to extended slice") ?_;unfold Builtin.List.listAllItems;refine az (wpAny_typeOf hb.typeIs ?_)
  first |refine PySem.W.KFB.if_so au ?_ |rw[aR au] |simp only[Av,Bool.true_or,kT]
  unfold Builtin.List.listItems;refine az (nM e2 Z (bc ?_));refine az (az (nM e Z (bc ?_)));refine az (rT ((sliceIndices_raw (some (a:Int)) (some c0) none items.size (by simp)).trans (congrArg (pure:Int×Int×Int->Sem (Int×Int×Int)) qO)) ?_);show wpAny _ _ (if((1:Int)==1)=true then _ else _) _ _ s;rw[aR au];refine az (uo ?_)
  first |simp only[yR nc,Bool.false_eq_true,if_false] |refine OV (yR nc) ?_
  first|refine az (bc ?_)|skip
  show wpAny _ _ (updateSeq l (λxs=>xs.extract 0 ((a:Int)).toNat++new++xs.extract (max (a:Int) (c:Int)).toNat xs.size)>>=_) _ _ s;rw[XD,GD];refine az (wpAny_updateSeq (hz:=fe (Pb _ _) nc) (_hz':=iS) e Z ?_);refine az (wpAny_letGo ?_)
  first |exact az (bc (bc ⟨.none,Z,bc h⟩)) |exact bc ⟨.none,Z,bc h⟩
theorem a2i{a n:Nat}{c0:Int}(h1:a<=n)(h2:(a:Int)<=c0):sliceBounds (some (a:Int)) (some c0) none n=((a:Int),((min c0.toNat n:Nat):Int),1):=by
 simp only[sliceBounds,P8];have g1:¬((a:Int)<0):=by omega
 have g2:¬(c0<0):=by omega
 simp only[g1,g2,if_false,show(1:Int)>0 by decide,kT];congr 1
 ·omega
 ·congr 1;omega
end
section
variable {X:Cx}
inductive a4s(o:V)(lo hi:Option Int)(v:V)(H:Hp)(Q:Hp->Prop):Prop |mk (p q:Addr)(xs ys:List V)(a:Nat)(c:Int)(h0:o= .ref p)(h1:v= .ref q)(h2:H p=some (.lst xs))(h3:H q=some (.lst ys))(fX:p≠q)(hl:lo=some (a:Int))(hh:hi=some c)(ha:a<=xs.length)(hc:(a:Int)<=c)(hz:xs.length+ys.length<=sizeLine)(h4:Q (upd H p (.lst (xs.take a++ys++xs.drop (min c.toNat xs.length)))))
def SA:V->Option Int->Option Int->V->Hp->(Hp->Prop)->Prop:=λo lo hi v H Q=>a4s o lo hi v H Q
def ZH(to:TE)(tl th:TO):TG:=λv O H Q=>to O H λo H1=>tl O H1 λl H2=>th O H2 λu H3=>SA o l u v H3 λH4=>Q O H4
theorem To{o:Expr}{lo hi:Option Expr}{to:TE}{tl th:TO}{pos p2:Pos}(ho:PE X o to)(hl:PO X lo tl)(hu:PO X hi th) (ha:∀v,assign (.Subscript o (.Slice lo hi none p2) pos) X.env v=(do
 let ov<-holding [v] (eval o X.env)
 let iv<-holding [v,ov] (eval (.Slice lo hi none p2) X.env)
 standAt pos
 holding [v,ov,iv] (setItem ov iv v)
 release [iv,v,ov] []):=by intro _;rfl):PG X (.Subscript o (.Slice lo hi none p2) pos) (ZH to tl th):=by
 intro aj s O H v u Q I r h;rw[ha];refine az (gU (aL (ho aj s O H _ I h) λov s1 ⟨x,H1,I1,r1,q1⟩=>?_));refine az (gU ?_);refine wpAny_Slice (aL (hl aj s1 O H1 _ I1 q1) λvl s2 ⟨l,H2,I2,pl,q2⟩=>aL (hu aj s2 O H2 _ I2 q2) λvu s3 ⟨uu,H3,I3,pu,q3⟩=>?_);rw[evalPart_none];refine bc ?_;have I4:Inv X aj O H3 {s3 with heap:=s3.heap.push {cls:=.type "slice",data:=.fields #[vl,vu,.none]}}:=I3.kept (t':=s3.toks) λb ob q=>bV _ q;obtain⟨p,q,xs,ys,a,c,rfl,rfl,e1,e2,fX,rfl,rfl,hal,hc,hz,q4⟩:=q3;cases r;cases r1;refine az (kR (az (gU ?_)));obtain⟨z,its,n,rr,lR,e⟩:=I4.tH e1;obtain⟨z2,gf,n2,Sh,hl3,e3⟩:=I4.tH e2;have hb:=a2i (a:=a) (n:=its.toArray.size) (c0:=c) (by rw[cB];omega) hc;refine RI (a:=a) (c:=min c.toNat its.toArray.size) (c0:=c) e e3 fX (Heap.IsSliceOf.new ..) pl pu hb (by rw[cB];omega) (by rw[cB];omega) (by rw[cB,cB];omega) ?_;refine wpAny_release ⟨O,_,I4.E3 (its':=its.take a++gf++its.drop (min c.toNat its.toArray.size)) (t':=s3.toks) e1 e ?_ (Vals.append (Vals.append (rr.take _) Sh) (rr.drop _)) ?_,?_⟩
 ·exact Rk its gf a _
 ·rw[cD,cD,kW,si,cB]
  omega
 ·rw[cB,<-lR];exact q4
end
end L2
namespace Lw
open PySem PySem.Spec PyProof.Rows L2
def nl(H H':Hp):Hp:=λb=>match H' b with
 |some (.lst xs)=>match H b with |none=>some (.lst xs) |some _=>none
 |o=>o
theorem gM{H H':Hp}{b:Addr}{o:HO}:nl H H' b=some o↔H' b=some o/\((∀xs,o≠ .lst xs)\/H b=none):=by unfold nl;cases e:H' b with |none=>simp |some u=>cases u with
 |lst xs=>cases e2:H b with |none=>simp |some z=>simp only[reduceCtorEq,kS,false_iff,not_and];intro h;injection h with h;exact λn=>n xs h.symm
 |_=>
  simp only[];constructor
  ·intro h;exact⟨h,.inl (by intro xs hx;injection h with h;rw[<-h]at hx;cases hx)⟩
  ·intro h;exact h.1
theorem VG{H H':Hp}:aA (nl H H') H':=λb o e=>(gM.mp e).1
theorem ZI{H H':Hp}:aA (fr H H') (nl H H'):=λb o e=>gM.mpr ⟨(kG.mp e).2,.inr (kG.mp e).1⟩
theorem DL{H H1 H2:Hp}(s:aA H1 H2):aA (nl H H1) (nl H H2):=λb o e=>gM.mpr ⟨s _ _ (gM.mp e).1,(gM.mp e).2⟩
theorem vH{H H1 H2:Hp}(f:∀b,H1 b=none->H b=none):aA (nl H1 H2) (nl H H2):=λb o e=>gM.mpr ⟨(gM.mp e).1,(gM.mp e).2.imp id (f b)⟩
theorem DK{H H':Hp}{K:a7}{a:Addr}{xs:List V}(h:aK K H' a xs):aK K (nl H H') a xs:=h.t (λc o n e=>gM.mpr ⟨e,.inl n⟩)
theorem aV.free{p:Addr}{H H':Hp}(b:aV p H H'):∀c,H' c=none->H c=none:=λc hc=>by cases e:H c with |none=>rfl |some o=>
 by_cases hp:c=p
 ·subst hp;exact(b.aM.ne hc).elim
 ·rw[b.same c o hp e]at hc;cases hc
theorem aV.vG{p:Addr}{H H1 H2:Hp}(hp:H p≠none)(bg:eQ H1 p)(b:aV p H1 H2):aA (nl H H1) (nl H H2):=λc o e=>by
 obtain⟨e1,e2⟩:=gM.mp e;refine gM.mpr ⟨b.same c o (λz=>?_) e1,e2⟩;subst z;rcases e2 with n|h
 ·obtain⟨c',m,e,_⟩:=bg
  rw[e]at e1;injection e1 with e1;exact n _ e1.symm
 ·exact hp h
theorem yS{H H':Hp}{p:Addr}(hp:H p≠none)(bg:eQ H' p):aA (nl H H') (del H' p):=λb o e=>by
 obtain⟨e1,e2⟩:=gM.mp e;refine m9.mpr ⟨λz=>?_,e1⟩;subst z;rcases e2 with n|h
 ·obtain⟨c',m,e,_⟩:=bg
  rw[e]at e1;injection e1 with e1;exact n _ e1.symm
 ·exact hp h
theorem KJ{H H':Hp}{D:Addr}{xs:List V}{o':HO}(hD:H D≠none)(e:H' D=some (.lst xs)):aA (nl H H') (nl H (L2.upd H' D o')):=λb o e'=>by
 obtain⟨e1,e2⟩:=gM.mp e';refine gM.mpr ⟨?_,e2⟩;rw[bf (λz=>?_)]
 ·exact e1
 ·subst z
  rcases e2 with n|h
  ·rw[e]at e1;injection e1 with e1;exact n _ e1.symm
  ·exact hD h
section
variable {K:a7}
theorem a1J{J:It}{te:TE}{Q:VK}{D p:Addr}{H H0:Hp}(n:Nat)(rest:L2.St)(nw:Nw H H0 D (.lst []))(bg:eQ H p)(hn:n<=1000)(xv:Nat->V) (go:∀i H2,i<n->aV p H H2->J.go i H2/\∀y H3,J.gH i H2 y H3->H3=H2/\y=xv i)(stop:∀H2,aV p H H2->J.stop n H2)(Pd:af->Prop) (hs:∀i H2 (Q':VK),i<n->aV p H H2->(∀y d H3,Pd d->RD K (nl H2 H3) y d->aV p H2 H3->Q' y H3)->te (some (xv i)::rest) H2 Q') (hq:∀H' ys ds,aV p H H'->H' D=some (.lst ys)->aC K (nl H0 H') ys ds->ds.length=n->(∀d∈ds,Pd d)->Q (.ref D) H'):j6 J (fE 0) i9 te Q D (none::rest) H0:=by
 have p7:D≠p:=λe=>bg.ne (e▸nw.no);have Zn:H0 p≠none:=(aV.cW bg nw.same).aM.ne;have Zo:H0 D≠none:=by rw[nw.at'];exact λz=>nomatch z
 refine rC n (λi O H3=>aV p H H3/\(∃ys ds,H3 D=some (.lst ys)/\aC K (nl H0 H3) ys ds/\ds.length=i/\(∀d∈ds,Pd d)/\∀b,H3 b=none->H0 b=none)/\∃v,O=v::rest) ?_ ?_ ?_
 ·exact⟨.cW bg nw.same,⟨[],[],nw.at',cf,Z,λd h=>(fq h).elim,λ_ h=>h⟩,none,Z⟩
 ·rintro i O H3 hi ⟨b3,⟨ys,ds,d3,r3,li,pi,f3⟩,v,rfl⟩
  obtain⟨g1,g2⟩:=go i H3 hi b3;refine⟨g1,λy H4 hy=>?_⟩;obtain⟨rfl,rfl⟩:=g2 y H4 hy;refine uI ?_;refine hs i _ _ hi b3 λz d H5 pz rz b5=>?_;have d5:=b5.same _ _ p7 d3;have s5:=KJ (o':=.lst (ys++[z])) Zo d5;refine⟨ys,d5,?_,n-(i+1),aI,Z,aI,?_,⟨ys++[z],ds++[d],bX,?_,?_,?_,?_⟩,_,Z⟩
  ·rw[r3.length,li]
   have:(1000:Nat)<sizeLine:=by decide
   omega
  ·have iA:=b3.trans b5
   refine⟨?_,λb o n e=>?_⟩
   ·obtain⟨c,m,e,ok⟩:=iA.aM
    exact⟨c,m,by rw[bf p7.symm];exact e,ok⟩
   ·rw[bf (cC e nw.no)];exact iA.same b o n e
  ·exact(aC.mono ((b5.vG Zn b3.aM).trans s5) _ r3).append (bK (RD.mono ((vH f3).trans s5) _ rz) cf)
  ·rw[cD,li];rfl
  ·intro x hx
   rcases jC.mp hx with h|h
   ·exact pi x h
   ·rw[mz.mp h];exact pz
  ·intro b hb
   by_cases hD:b=D
   ·subst hD;rw[bX]at hb;cases hb
   ·rw[bf hD]at hb
    exact f3 b (b5.free b hb)
 ·rintro O H3 ⟨b3,⟨ys,ds,d3,r3,li,pi,f3⟩,v,rfl⟩
  exact⟨stop H3 b3,hq H3 ys ds b3 d3 r3 li pi⟩
end
end Lw
namespace L2
open PySem PySem.Spec PyProof.Rows
section
variable {X:Cx}
end
theorem Zq{K:a7}{mg:bI}{x z:Str}{t:Tok}{h:Heap}(X:K.In h)(G:h.Ns mainGlobals mg)(a:PySem.W.nsIn K mainGlobals x=some (some (.str z t))):GV mg x (.str z):=⟨_,uv X G a,t,Z⟩
end L2
namespace Lw
open PySem PySem.Spec PyProof.Rows L2 Ln Rt Cn Pn Wk
open Ow (topR cornO mnO betR atO ownF leadF ownL OkI OkIs)
open Ow (Itm)
def top(i:Nat):Stmt:=PySem.Challenge.pw_glidequeue_k50_any_thing_as_a_tape.main.body.getD i (.Pass ⟨0,0,0,0⟩)
abbrev BK:Stmt:=top 78
abbrev CP:Stmt:=top 77
abbrev CL:Stmt:=top 25
abbrev Co:Stmt:=top 14
abbrev Ce:Stmt:=top 89
abbrev Cd:Stmt:=top 27
abbrev Cf:Stmt:=top 24
abbrev C4:Stmt:=top 21
abbrev Cb:Stmt:=top 22
abbrev Cc:Stmt:=top 23
abbrev Cz:Stmt:=top 19
abbrev Cu:Stmt:=top 18
abbrev C7:Stmt:=top 84
abbrev Cy:Stmt:=top 80
abbrev Cg:Stmt:=top 79
abbrev Cm:Stmt:=top 47
def i6:Str:="abcdefghijklmnopqrstuvwxyz"
abbrev C0:Stmt:=top 87
abbrev BB:Stmt:=top 28
abbrev BC:Stmt:=top 15
abbrev BD:Stmt:=top 38
abbrev CJ:Stmt:=top 35
abbrev Ck:Stmt:=top 37
abbrev BF:Stmt:=top 36
abbrev BE:Stmt:=top 92
abbrev CO:Stmt:=top 53
abbrev BZ:Stmt:=top 52
abbrev BX:Stmt:=top 20
abbrev BS:Stmt:=top 55
abbrev BL:Stmt:=top 81
abbrev Ca:Stmt:=top 82
abbrev C5:Stmt:=top 83
abbrev C6:Stmt:=top 58
abbrev BW:Stmt:=top 85
abbrev C8:Stmt:=top 86
abbrev Cq:Stmt:=top 50
abbrev Cp:Stmt:=top 49
abbrev CS:Stmt:=top 48
abbrev Cr:Stmt:=top 46
abbrev CF:Stmt:=top 60
abbrev BI:Stmt:=top 59
abbrev C3:Stmt:=top 31
abbrev BN:Stmt:=top 29
abbrev BR:Stmt:=top 30
abbrev CK:Stmt:=top 75
abbrev BG:Stmt:=top 73
abbrev BO:Stmt:=top 72
abbrev CC:Stmt:=top 71
abbrev BP:Stmt:=top 74
abbrev CB:Stmt:=top 56
abbrev BV:Stmt:=top 54
abbrev Cj:Stmt:=top 88
abbrev CD:Stmt:=top 61
abbrev CI:Stmt:=top 69
abbrev CQ:Stmt:=top 70
abbrev RS:Stmt:=top 68
abbrev CM:Stmt:=top 93
abbrev BM:Stmt:=top 90
abbrev BQ:Stmt:=top 91
abbrev BH:Stmt:=top 94
abbrev yj:Stmt:=top 95
abbrev CA:Stmt:=top 99
abbrev CH:Stmt:=top 96
abbrev Ct:Stmt:=top 97
abbrev CG:Stmt:=top 98
abbrev RT:Stmt:=top 100
def a1X(s:Stmt):List Stmt:=match s with | .ClassDef _ _ _ b _ _ _ _ _ _ _=>b |_=>[]
abbrev BA:Stmt:=(a1X (top 8)).getD 0 (.Pass ⟨0,0,0,0⟩)
structure OB(K:a7)(mg:bI)(C fI:Addr):Prop where
 e:rR K mg "NoTape" C fI FK KA
 i:PySem.W.findIn K (.ref C) "__init__"=some (some (.ref fI))
 x:uh K C "at"
 y:uh K C "why"
 f:fnAt K fI=true
 fn:∃fd,jU K "__init__" "NoTape.__init__" BA fI fd
structure OI(K:a7)(mg:bI)(C fI cG c0 c1 c2 c3 c4 c5 c6 c7 c8 c9:Addr):Prop where
 oc:OB K mg C fI
 g:Exc K mg "GlideError" cG FK KA
 t:takes K C cG
 k:kP K C
 h0:GV mg "Full" (.ref c0)
 h1:GV mg "Moving" (.ref c1)
 h2:GV mg "NoFraction" (.ref c2)
 h3:GV mg "NoItem" (.ref c3)
 h4:GV mg "NoLine" (.ref c4)
 h5:GV mg "NoMachine" (.ref c5)
 h6:GV mg "NoPlace" (.ref c6)
 h7:GV mg "NoRate" (.ref c7)
 h8:GV mg "NoText" (.ref c8)
 h9:GV mg "OffRails" (.ref c9)
 any:PySem.W.kitAny K (.ref C) [.ref c0,.ref c1,.ref c2,.ref c3,.ref c4,.ref c5,.ref c6,.ref c7,.ref c8,.ref c9]=some false
 own:PySem.W.kitOne K (.ref C) (.ref C)=some true
 ve:PySem.W.kitOne K (.ref C) (.type "ValueError")=some true
 v:mg "ValueError"=none
 fat:PySem.W.findIn K (.ref C) "at"=some none
 fwhy:PySem.W.findIn K (.ref C) "why"=some none
abbrev C9:Stmt:=top 101
abbrev kc:Stmt:=top 102
abbrev C1:Stmt:=top 103
abbrev BJ:Stmt:=top 62
def Bl(K:a7):Sp:=λvs H Q _=>∃(a:Addr)(ns:List Int),vs=[.ref a]/\aF K H a (ns.map V.int)/\ns.length<=63/\∀H',Q (.bl true) H'
abbrev sR:Stmt:=top 104
structure All(K:a7)(mg:bI):Prop where
 B:bB mg
 zH:GT K mg "NOUGHT" [.int 0,.int 1]
 Zv:GT K mg "SIDES" [.str "up",.str "down"]
 Zw:GV mg "NO_BORDER" (.int 4)
 Mw:GV mg "NOT_DUE" (.int 1)
 Zu:GV mg "WRONG_TICKS" (.int 2)
 ZF:GV mg "ABOVE_TOP" (.int 3)
 ZC:GV mg "LEAST_RATE" (.int 10)
 ZE:GV mg "GREATEST_RATE" (.int 200)
 Zx:GV mg "MOST_STEPS" (.int 100)
 ZD:GV mg "GREATEST_SPEED" (.int 20)
 Zy:GV mg "LONGEST_WAIT" (.int 1000)
 Zz:GV mg "LONGEST_NAME" (.int 8)
 ZA:GV mg "LETTERS" (.str i6)
 a0k:FA K mg "is_whole" Co
 a0j:FA K mg "is_whole_within" BC
 a0t:FA K mg "is_fraction" Cu
 a0v:FA K mg "fraction" Cz
 a06:FA K mg "plus_whole" BX
 a0b:FA K mg "minus" C4
 a0r:FA K mg "is_less" Cb
 a0f:FA K mg "least" Cc
 a0d:FA K mg "lowest_terms" Cf
 a0z:FA K mg "common_divisor" CL
 a0g:FA K mg "lead_of" Cd
 ZY:FA K mg "ways_of" BB
 a04:FA K mg "stand_at" BN
 a02:FA K mg "step_rows" BR
 a0a:FA K mg "nearest" C3
 a0y:FA K mg "corner_square" CJ
 ZZ:FA K mg "top_square" BF
 a0o:FA K mg "is_rate" Ck
 a0u:FA K mg "greatest_turn" BD
 a0s:FA K mg "is_item" Cr
 a0q:FA K mg "is_line" Cm
 a0D:FA K mg "are_steps" CS
 a0n:FA K mg "is_short_item" Cp
 a0p:FA K mg "is_name" Cq
 a09:FA K mg "own_bounds" BZ
 a0C:FA K mg "bound_between" CO
 a08:FA K mg "plan_of" BV
 a0h:FA K mg "kept_by_rise" BS
 a0i:FA K mg "kept_by_fall" CB
 a0c:FA K mg "middles" C6
 a00:FA K mg "ticks_of" BI
 MK:FA K mg "are_enough" CF
 a03:FA K mg "step_entry" CD
 a01:FA K mg "tape_of" BJ
 a0e:FA K mg "look" RS
 a0x:FA K mg "due_entries" CI
 a0B:FA K mg "bounds_between" CQ
 a0w:FA K mg "fault_of_entry" CC
 a0m:FA K mg "is_step_with" BO
 a0l:FA K mg "is_timed" BG
 a05:FA K mg "square_of" BP
 a0A:FA K mg "can_meet" CK
 a11:FA K mg "_law_bag" CP
 a0G:FA K mg "_law_take" BK
 ML:FA K mg "_law_number" Cg
 a0W:FA K mg "_law_frac" Cy
 a0H:FA K mg "_law_sum" BL
 a0S:FA K mg "_law_less" Ca
 a0N:FA K mg "_law_min" C5
 a0O:FA K mg "_law_machine" C7
 a0K:FA K mg "_law_place" BW
 a0R:FA K mg "_law_line" C8
 a0L:FA K mg "_law_other" C0
 a0U:FA K mg "_law_items" Cj
 a0T:FA K mg "_law_lead" Ce
 a0I:FA K mg "_law_stand" BM
 a0J:FA K mg "_law_rows" BQ
 a0E:FA K mg "_law_top" BE
 a10:FA K mg "_law_bounds" CM
 a0F:FA K mg "_law_ticks" BH
 zK:FA K mg "_law_alike" yj
 a0Z:FA K mg "_law_due_entries" CH
 a0V:FA K mg "_law_is_fraction" Ct
 a0Y:FA K mg "_law_entry_fault" CG
 a0X:FA K mg "_law_fits" CA
 a0Q:FA K mg "_law_look" RT
 a0P:FA K mg "_law_looked" C9
 wz:FA K mg "_law_any" kc
 a0M:FA K mg "_law_near" C1
 law:FA K mg "law" sR
 ex:∃C fI cG c0 c1 c2 c3 c4 c5 c6 c7 c8 c9,OI K mg C fI cG c0 c1 c2 c3 c4 c5 c6 c7 c8 c9
def xg(K:a7)(P:a9):Prop:=∀(w:World)(mg:bI)(ao:Heap)(f:Addr)(fd:FuncData),All K mg->jU K "law" "law" sR f fd->gT P w K mg ao gm 12 f fd ["_law_script"] (Bl K)
@[irreducible] noncomputable def KP:a7×a9:=Classical.epsilon λx=>¬xg x.1 x.2
@[irreducible] noncomputable def K:a7:=KP.1
@[irreducible] noncomputable def P:a9:=KP.2
theorem Qj(h:xg K P)(K':a7)(P':a9):xg K' P':=Classical.byContradiction λn=>by have e:=Classical.epsilon_spec (p:=λx:a7×a9=>¬xg x.1 x.2) ⟨(K',P'),n⟩;unfold K P KP at h;exact e h
end Lw
namespace Lw
open PySem PySem.Spec PyProof.Rows L2
section
variable {w:World} {mg:bI} {ao:Heap}
inductive a3w(vs:List V)(H:Hp)(Q:VK):Prop |mk (p:_)(many:_)(h0:vs=[.ref p,.int many])(h1:eQ H p)(h2:1<=many)(h3:many<=10^40)(h4:∀d H',0<=d->d<many->aV p H H'->Q (.int d) H')
def ka:Sp:=λvs H Q _=>a3w vs H Q
theorem Iy:bo ["_law_bag_here","_law_many","_law_digit","_law_number_here","_law_room"] ["_law_bag_here","_law_many"] (aZ BK):=bE aJ
theorem Ui(F:FA K mg "_law_take" BK)(B:bB mg):ay P w K mg ao "_law_take" 1 ka:=by
 refine F.has Iy (λvs H Q E h=>?_) (λ_ _ _ _ _ _=>dn λ_ _=>rfl) (λf aH A outer s H vs Q E hr h=>?_)
 ·obtain⟨p,many,rfl,_⟩:=h
  rfl
 ·obtain⟨p,many,rfl,⟨c,m,hp,ok⟩,h1,h2,k⟩:=h
  obtain⟨c0,m0,m1⟩:=id ok;have nd:=Iy.nd;refine⟨_,(aB (bD (bQ lC (px K (pv 0) aw) aw (bC _)) (aB (pS 2 nd (aG ou (px K (pv 0) aw) (pv 1))) (aB (eG (aG mS (px K (pv 0) aw) (pv 1)) (oq (pv 0) aw set_list)) (aD (aU (pv 2))))) bH) (aB (pS 3 nd aw) (aB (pS 4 nd aw) (aB (qk eE (bQ ji (pv 4) (pv 1) (bC _)) (aB (eG (aG ou (aG qo (aG cm (aG bJ (px K (pv 0) aw) aw) aw) aw) aw) (oq (pv 0) aw set_list)) (aB (pS 3 nd (aG cm (aG bJ (pv 3) aw) (aG ou (aG bJ (aG mS (px K (pv 0) aw) aw) aw) aw))) (aD (pS 4 nd (aG bJ (pv 4) aw)))))) (aD (aU (aG ou (pv 3) (pv 1)))))))),?_⟩;refine⟨_,Z,.inl ⟨p,_,0,.int c,Z,Z,aF.of hp,Z,_,_,Z,Z,_,Z,?_⟩⟩;refine eJ (λhc=>?_) (λ_=>?_)
  ·refine⟨_,Z,.inl ⟨p,_,0,.int c,Z,Z,aF.of hp,Z,_,Z,_,_,Z,Z,h1,?_⟩⟩
   refine⟨_,Z,.inl ⟨p,_,0,.int c,Z,Z,aF.of hp,Z,_,Z,_,_,Z,Z,⟨h1,GN ak h2⟩,?_⟩⟩;refine⟨_,Z,p,_,0,0,Z,Z,hp,Z,?_⟩;refine⟨_,Z,?_⟩;exact k _ _ (nR _ ak) (sk _ ak) (aV.upd ⟨Int.ediv_nonneg c0 ak,m0,m1⟩)
  ·refine pY (λO H2=>∃(v:Option V)(n r:Int),O=[some (.ref p),some (.int many),v,some (.int n),some (.int r)]/\aV p H H2/\1<=r) (λO _=>match O with|[_,_,_,_,some (.int r)]=>(many-r).toNat|_=>0) ?_ ?_ ?_
   ·exact⟨none,0,1,Z,.refl ⟨c,m,hp,ok⟩,jE _⟩
   ·rintro O H2 ⟨v,n,r,rfl,bx,Xl⟩
    obtain⟨c',m',zu,c0',m0',DW⟩:=id bx.aM;refine⟨_,Z,_,Z,_,_,Z,Z,_,Z,?_⟩;refine eJ (λhc=>?_) (λhc=>?_)
    ·have bG:r<many:=gW hc
     refine⟨_,Z,.inl ⟨p,_,1,.int m',Z,Z,aF.of zu,Z,_,_,Z,Z,.of_right (ck au au),_,_,Z,Z,_,_,Z,Z,⟨au,au,?_⟩,_,_,Z,Z,(by show(0:Int)<2147483629;decide),?_⟩⟩
     ·have jr:(2:Nat)^64=18446744073709551616:=by decide
      rw[jr];lia
     refine⟨_,Z,p,_,1,1,Z,Z,zu,Z,?_⟩;have g0:0<=((m'*48271+7919)^(5:Int).toNat)%2147483629:=nR _ au;have g1:((m'*48271+7919)^(5:Int).toNat)%2147483629<2147483629:=sk _ au;have bx2:aV p H (L2.upd H2 p (.lst [.int c',.int (((m'*48271+7919)^(5:Int).toNat)%2147483629)])):=bx.trans (.upd ⟨c0',g0,Int.lt_trans g1 au⟩);refine⟨_,Z,_,_,Z,Z,.of_right (ck au au),_,Z,.inl ⟨p,_,1,.int _,Z,Z,aF.of bX,Z,_,_,Z,Z,⟨au,GN au au⟩,_,_,Z,Z,.of_right (ck au au),_,_,Z,Z,(by show(0:Int)<1073741789;decide),_,_,Z,Z,?_⟩⟩;refine⟨_,Z,_,_,Z,Z,.of_right (ck au au),?_⟩;refine⟨⟨v,_,_,Z,bx2,?_⟩,?_⟩
     ·lia
     ·show(many-r*1073741789).toNat<(many-r).toNat
      lia
    ·refine⟨_,Z,_,Z,_,_,Z,Z,h1,?_⟩
     exact k _ _ (nR _ ak) (sk _ ak) bx
   ·rintro O H2 Q1 Q2 hq ⟨v1,e1,v2,e2,i,j,e3,e4,kk,e5,q⟩
    exact⟨v1,e1,v2,e2,i,j,e3,e4,kk,e5,hq _ _ q⟩
inductive a4j(K:a7)(vs:List V)(H:Hp)(Q:VK):Prop |mk (a:Addr)(ns:List Int)(at':Int)(h0:vs=[.ref a,.int at'])(h1:aF K H a (ns.map V.int))(h2:ns.length<=63)(h3:0<=at')(h4:at'<=100)(h5:∀p H',H p=none->eQ H' p->aA H H'->Q (.ref p) H')
def Ia(K:a7):Sp:=λvs H Q _=>a4j K vs H Q
theorem JB:bo ["_law_script","_law_at","_law_cell","_law_mix","_law_k"] ["_law_script","_law_at"] (aZ CP):=bE aJ
theorem LL{ns:List Int}{j:Nat}(h:j<ns.length):∃z,dI (ns.map V.int) (j:Int)=some (.int z):=⟨ns[j],a2A (by simp[h])⟩
theorem Vj(F:FA K mg "_law_bag" CP)(B:bB mg):ay P w K mg ao "_law_bag" 1 (Ia K):=by
 refine F.has JB (λvs H Q E h=>?_) (λ_ _ _ _ _ _=>dn λ_ _=>rfl) (λf aH A outer s H vs Q E hr h=>?_)
 ·obtain⟨a,ns,at',rfl,_⟩:=h
  rfl
 ·obtain⟨a,ns,at',rfl,hS,hlen,h0,h1,k⟩:=h
  obtain⟨j,rfl⟩:∃j:Nat,at'=(j:Int):=⟨at'.toNat,ak⟩;have nd:=JB.nd;refine⟨_,(aB (pS 2 nd aw) (aB (lu (bD (bQ ji (pv 1) (eH K B (ai (pv 0) aq)) (bC _)) (aD (pS 2 nd (dk (x:="abs") mh Z (B.at "abs") nO (ai (px K (pv 0) (pv 1)) aq)))) bH)) (aB (pS 3 nd (aG cm (aG cm (aG bJ (aG bJ aw (pv 1)) (pv 1)) (aG bJ aw (pv 1))) aw)) (aB (fh eE Z (lA Z (B.at "range") (ai (dk (x:="min") (FG rfl) rfl (B.at "min") P5 (ai (eH K B (ai (pv 0) aq)) (ai aw aq))) aq)) (aX 4 nd) (aD (pS 3 nd (aG ou (aG qo (aG cm (aG cm (aG bJ (pv 3) aw) (aG ou (px K (pv 0) (pv 4)) aw)) (aG bJ (pv 4) (pv 4))) aw) aw)))) (aB (lu (bD (bQ ji (pv 2) (aG qo aw aw) (bC _)) (aD (pS 2 nd aw)) bH)) (aD (aU (cI (ai (pv 2) (ai (pv 3) aq)))))))))),?_⟩;refine⟨λO H'=>H'=H/\∃c:Int,O=[some (.ref a),some (.int (j:Int)),some (.int c),none,none]/\0<=c,?_,?_⟩
  ·refine⟨_,Z,_,Z,a,_,Z,.inl hS,_,_,Z,Z,_,Z,?_⟩
   refine eJ (λhc=>?_) (λ_=>?_)
   ·have hj:(j:Int)<((ns.map V.int).length:Int):=gW hc
    rw[bu]at hj;obtain⟨z,hz⟩:=LL (ns:=ns) (j:=j) ak;refine⟨_,Z,_,Z,.inl ⟨a,_,_,_,Z,Z,hS,hz,z,Z,?_⟩⟩;exact⟨Z,_,Z,by split<;>lia⟩
   ·exact⟨Z,0,Z,jE _⟩
  rintro O H' ⟨rfl,c,rfl,c0⟩;refine⟨_,Z,_,_,Z,Z,.of_left (ck au au),_,Z,_,_,Z,Z,.of_right (ck ak ak),_,Z,_,_,Z,Z,.of_left (ck au au),_,_,Z,Z,_,_,Z,Z,?_⟩;refine⟨_,Z,a,_,Z,.inl hS,_,_,Z,_,Z,?_,?_,?_⟩
  ·split<;>lia
  ·split<;>(try rw[bu])<;>lia
  refine pe (Pv:=λi O H2=>H2=H'/\∃(m:Int)(v:Option V),O=[some (.ref a),some (.int (j:Int)),some (.int c),some (.int m),v]/\0<=m/\m<2147483648) ?_ ?_ ?_
  ·refine⟨Z,_,none,Z,?_,?_⟩
   ·have:(0:Int)<=(j:Int)*(j:Int):=mC ak ak
    rw[uG];lia
   ·have:(j:Int)*(j:Int)<=100*100:=Int.mul_le_mul ak ak ak ak
    rw[uG];lia
  ·rintro i O H2 hi ⟨rfl,m,v,rfl,m0,m1⟩
   have EG:i<ns.length:=by rw[bu]at hi;split at hi<;>lia
   obtain⟨z,hz⟩:=LL (ns:=ns) (j:=i) EG;rw[<-xH (i:Int)]at hz;have X6:0<=z%2147483647:=nR _ au;have zp:z%2147483647<2147483647:=sk _ au;have Y5:(0:Int)<=(0+(i:Int))*(0+(i:Int)):=mC ak ak;have vZ:(0+(i:Int))*(0+(i:Int))<=100*100:=Int.mul_le_mul ak ak ak ak;refine⟨_,Z,_,_,Z,Z,.of_right (ck au au),_,Z,_,Z,.inl ⟨a,_,_,_,Z,Z,hS,hz,_,_,Z,Z,(by show(0:Int)<2147483647;decide),_,_,Z,Z,_,Z,_,Z,_,_,Z,Z,.of_right (ck ak ak),_,_,Z,Z,_,_,Z,Z,⟨au,au,?_⟩,_,_,Z,Z,(by show(0:Int)<2147483629;decide),?_⟩⟩
   ·have jr:(2:Nat)^64=18446744073709551616:=by decide
    rw[jr];generalize(0+(i:Int))*(0+(i:Int))=ii at Y5 vZ⊢;generalize z%2147483647=zz at X6 zp⊢
    lia
   ·exact⟨Z,_,_,Z,nR _ au,Int.lt_trans (sk _ au) au⟩
  ·rintro O H2 ⟨rfl,m,v,rfl,m0,m1⟩
   refine⟨λO H3=>H3=H2/\∃c:Int,O=[some (.ref a),some (.int (j:Int)),some (.int c),some (.int m),v]/\0<=c,?_,?_⟩
   ·refine⟨_,Z,_,_,Z,Z,⟨au,au,au⟩,_,_,Z,Z,_,Z,?_⟩
    refine eJ (λhc=>?_) (λ_=>?_)
    ·exact⟨Z,0,Z,jE _⟩
    ·exact⟨Z,c,Z,c0⟩
   rintro O H3 ⟨rfl,c,rfl,c0⟩;refine⟨_,Z,_,Z,(by show 2<=sizeLine;decide),λp H4 nw=>?_⟩;exact k p H4 nw.no ⟨c,m,nw.at',c0,m0,m1⟩ nw.same
inductive a4c(vs:List V)(H:Hp)(Q:VK):Prop |mk (a:Int)(b:Int)(h0:vs=[.int a,.int b])(h1:Q (.int (Int.gcd a b)) H)
def yf:Sp:=λvs H Q _=>a4c vs H Q
inductive a3S(vs:List V)(H:Hp)(Q:VK):Prop |mk (a:Int)(b:Int)(h0:vs=[.int a,.int b])(h1:b≠0)(h2:Wd b)(h3:∀t H',Nw H H' t (.tup [.int (Ar.lowP a b),.int (Ar.fz a b)])->Q (.ref t) H')
def uY:Sp:=λvs H Q _=>a3S vs H Q
def eX(T:String):Bool:=eR T "int"&& !eR T "bool"
inductive a42(K:a7)(vs:List V)(H:Hp)(Q:VK):Prop |mk (v:_)(T:_)(h0:vs=[v])(h1:rK K H v T)(h2:Q (.bl (eX T)) H)
def iL(K:a7):Sp:=λvs H Q _=>a42 K vs H Q
theorem Jy:bo ["p","q","high","low"] ["p","q"] (aZ CL):=bE aJ
theorem Vf(F:FA K mg "common_divisor" CL)(B:bB mg):ay P w K mg ao "common_divisor" 1 yf:=by
 refine F.has Jy (λvs H Q E h=>?_) (λ_ _ _ _ _ _=>dn λ_ _=>rfl) (λf aH A outer s H vs Q E hr h=>?_)
 ·obtain⟨a,b,rfl,_⟩:=h
  rfl
 ·obtain⟨a,b,rfl,k⟩:=h
  have nd:=Jy.nd;refine⟨_,(aB (mL (i:=2) (j:=3) Z nd Z Z au Z Z (ai (dk (x:="abs") mh Z (B.at "abs") nO (ai (pv 0) aq)) (ai (dk (x:="abs") mh rfl (B.at "abs") nO (ai (pv 1) aq)) aq)) rfl) (aB (qk eE (bQ (iR K Z hr.units) (pv 3) aw (bC _)) (aD (mL (i:=2) (j:=3) Z nd Z Z au Z Z (ai (pv 3) (ai (aG ou (pv 2) (pv 3)) aq)) Z))) (aD (aU (pv 2))))),?_⟩;refine⟨_,Z,_,Z,_,Z,_,Z,_,_,Z,?_⟩;refine pY (λO H2=>H2=H/\∃(x y:Int),O=[some (.int a),some (.int b),some (.int x),some (.int y)]/\0<=x/\0<=y/\Int.gcd x y=Int.gcd a b) (λO _=>match O with|[_,_,_,some (.int y)]=>y.natAbs|_=>0) ?_ ?_ ?_
  ·refine⟨Z,_,_,Z,by split<;>lia,by split<;>lia,?_⟩
   have h1:(if a<0 then-a else a).natAbs=a.natAbs:=by split<;>lia
   have h2:(if b<0 then-b else b).natAbs=b.natAbs:=by split<;>lia
   unfold Int.gcd;rw[h1,h2]
  ·rintro O H2 ⟨rfl,x,y,rfl,x0,y0,e⟩
   refine⟨_,Z,.inl ⟨_,_,Z,Z,_,Z,?_⟩⟩;refine eJ (λhc=>?_) (λhc=>?_)
   ·have hy:y≠0:=by simpa using hc
    have kr:0<y:=by lia
    refine⟨_,Z,_,Z,_,Z,_,_,Z,Z,kr,_,_,Z,?_⟩;refine⟨⟨Z,_,_,Z,y0,nR _ hy,(Ar.Mu kr).trans e⟩,?_⟩;show(x%y).natAbs<y.natAbs;have:=nR x hy;have:=sk x kr
    lia
   ·have hy:y=0:=by simpa using hc
    subst hy;refine⟨_,Z,?_⟩;rw[Int.gcd_zero_right]at e;have e2:x=((Int.gcd a b:Nat):Int):=by lia
    rw[e2];exact k
  ·rintro O H2 Q1 Q2 hq ⟨v1,e1,h⟩
   refine⟨v1,e1,?_⟩;rcases h with⟨i,j,e3,e4,kk,e5,q⟩|⟨d,e,r1,r2,s1,s2,kk,e5,q⟩
   ·exact .inl ⟨i,j,e3,e4,kk,e5,hq _ _ q⟩
   ·exact .inr ⟨d,e,r1,r2,s1,s2,kk,e5,hq _ _ q⟩
theorem Jg:bo ["thing"] ["thing"] (aZ Co):=bE aJ
theorem US(F:FA K mg "is_whole" Co)(B:bB mg):ay P w K mg ao "is_whole" 1 (iL K):=by
 refine F.has Jg (λvs H Q E h=>?_) (λ_ _ _ _ _ _=>gj λ_=>rfl) (λf aH A outer s H vs Q E hr h=>?_)
 ·obtain⟨v,T,rfl,_⟩:=h
  rfl
 ·obtain⟨v,T,rfl,ty,k⟩:=h
  have nd:=Jg.nd;refine⟨_,(aD (aU (iQ (fk K B (ai (pv 0) (ai (eU (x:="int") (v:=.ty "int") Z (B.at "int") rX rfl) aq))) (jg (ql (fk K B (ai (pv 0) (ai (eU (x:="bool") (v:=.ty "bool") rfl (B.at "bool") P6 rfl) aq)))))))),?_⟩;refine⟨_,Z,.inl ⟨_,T,"int",_,Z,ty,au,Z,_,Z,?_⟩⟩;unfold eX at k;refine eJ (λhc=>?_) (λhc=>?_)
  ·refine⟨_,Z,.inl ⟨_,T,"bool",_,Z,ty,au,Z,_,Z,?_⟩⟩
   rw[hc,j8]at k;exact k
  ·rw[nS.mpr hc,iG]at k
   exact k
open Ln
def fA(ns:List Int)(sp:Int):af:=.tuple [.str "line",.tuple (ns.map PyData.int),.int sp]
theorem E8(ns:List Int)(sp:Int):cQ (fA ns sp)=true:=by simp[fA,cQ,cg,jN]
structure dP(ax:Nat)(m:Int)(ns:List Int):Prop where
 len:ns.length=ax
 bd:∀z∈ns,(z.natAbs:Int)<=m
 nz:∃z∈ns,z≠0
theorem dP.lead{ax:Nat}{m:Int}{ns:List Int}(h:dP ax m ns):0<aE ns/\(aE ns:Int)<=m:=by
 refine⟨Wt h.nz,?_⟩;have hm:0<=m:=by obtain⟨z,hz,_⟩:=h.nz;have:=h.bd z hz;lia
 have:=lM (ns:=ns) (m:=m.toNat) λz hz=>by have:=h.bd z hz;lia
 lia
theorem dP.ne{ax:Nat}{m:Int}{ns:List Int}(h:dP ax m ns):ns≠[]:=by obtain⟨z,hz,_⟩:=h.nz;intro e;subst e;cases hz
theorem kn{H:Hp}{v:V}{ns:List Int}{sp:Int}(h:RD K H v (fA ns sp)):∃a b,v= .ref a/\aK K H a [.str "line",.ref b,.int sp]/\aK K H b (ns.map V.int):=by obtain⟨a,xs,rfl,h1,h2⟩:=h.bT;obtain⟨x1,r1,rfl,e1,h2⟩:=h2.cons_inv;obtain⟨x2,r2,rfl,e2,h2⟩:=h2.cons_inv;obtain⟨x3,r3,rfl,e3,h2⟩:=h2.cons_inv;cases h2.nil_inv;cases e1.str_inv;cases e3.int_inv;obtain⟨b,ys,rfl,h3,h4⟩:=e2.bT;rw[h4.gP]at h3;exact⟨a,b,Z,h1,h3⟩
inductive a3Y(K:a7)(vs:List V)(H:Hp)(Q:VK):Prop |mk (v:_)(ns:_)(sp:_)(h0:vs=[v])(h1:RD K H v (fA ns sp))(h2:ns≠[])(h3:ns.length<=1000)(h4:∀H',aA H H'->Q (.int (aE ns)) H')
def iK(K:a7):Sp:=λvs H Q _=>a3Y K vs H Q
theorem mV{ns:List Int}{f:Int->af}{i:Nat}{d:af}(h:(ns.map f)[i]? =some d):∃n,ns[i]? =some n/\f n=d:=by rw[bN]at h;cases e:ns[i]? with |none=>rw[e]at h;cases h |some n=>rw[e]at h;exact⟨n,Z,dv h⟩
theorem vM{ns:List Int}{i:Nat}{x:V}{n:Int}(h:(ns.map V.int)[i]? =some x)(e:ns[i]? =some n):x= .int n:=by rw[bN,e]at h;exact(dv h).symm
theorem J8:bo ["_law_line_here"] ["_law_line_here"] (aZ Ce):=bE aJ
theorem UQ(F:FA K mg "_law_lead" Ce)(B:bB mg):ay P w K mg ao "_law_lead" 1 (iK K):=by
 refine F.has J8 (λvs H Q E h=>?_) (λ_ _ _ _ _ _=>gj λ_=>rfl) (λf aH A outer s H vs Q E hr h=>?_)
 ·obtain⟨v,ns,sp,rfl,_⟩:=h
  rfl
 ·obtain⟨v,ns,sp,rfl,rd,fX,hz,k⟩:=h
  have nd:=J8.nd;obtain⟨a,b,rfl,ha,hb⟩:=kn rd;refine⟨_,(aD (aU (dk (x:="max") (DV K Z Z) Z (B.at "max") Gp (ai (fV (N:=["_law_step"]) (js:=[none]) rfl rfl rfl (kh K rfl (px K (pv 0) aw)) (λ_ _ _ _ _=>(aX 0 (oF _))) (λ_ _ _ _ _=>f6) (λ_ _ _ _ _=>(dk (x:="abs") mh rfl (B.at "abs") nO (ai (pv 0) aq)))) aq)))),?_⟩;refine⟨_,Z,.inr ⟨a,_,1,.ref b,Z,Z,ha,Z,b,Z,⟨_,hb⟩,λD H0 nw=>?_⟩⟩;refine zY (K:=K) (xs:=ns.map V.int) (ds:=(ns.map gk).map PyData.int) [] hb nw (by simp) (by simpa using hz) (jN _) ?_ ?_
  ·intro i x d H2 Q' ex ed s2 hq
   obtain⟨m,em,rfl⟩:=mV ed;rw[bN]at em;cases en:ns[i]? with |none=>rw[en]at em;cases em |some n=>rw[en]at em;cases em;cases vM ex en;exact⟨_,Z,n,Z,hq _ _ (aA.refl _) (cM _)⟩
  ·intro H' ys s2 d2 r2
   rw[r2.gP]at d2;refine⟨D,_,Z,aF.of d2,by simpa using fX,λM h1 h2=>?_⟩;rw[Ea fX h1 h2];exact k H' s2
theorem J6:bo ["line"] ["line"] (aZ Cd):=bE aJ
theorem UP(F:FA K mg "lead_of" Cd)(B:bB mg):ay P w K mg ao "lead_of" 1 (iK K):=by
 refine F.has J6 (λvs H Q E h=>?_) (λ_ _ _ _ _ _=>gj λ_=>rfl) (λf aH A outer s H vs Q E hr h=>?_)
 ·obtain⟨v,ns,sp,rfl,_⟩:=h
  rfl
 ·obtain⟨v,ns,sp,rfl,rd,fX,hz,k⟩:=h
  have nd:=J6.nd;obtain⟨a,b,rfl,ha,hb⟩:=kn rd;refine⟨_,(aD (aU (dk (x:="max") (DV K Z Z) Z (B.at "max") Gp (ai (fV (N:=["step"]) (js:=[none]) rfl rfl rfl (kh K rfl (px K (pv 0) aw)) (λ_ _ _ _ _=>(aX 0 (oF _))) (λ_ _ _ _ _=>f6) (λ_ _ _ _ _=>(dk (x:="abs") mh rfl (B.at "abs") nO (ai (pv 0) aq)))) aq)))),?_⟩;refine⟨_,Z,.inr ⟨a,_,1,.ref b,Z,Z,ha,Z,b,Z,⟨_,hb⟩,λD H0 nw=>?_⟩⟩;refine zY (K:=K) (xs:=ns.map V.int) (ds:=(ns.map gk).map PyData.int) [] hb nw (by simp) (by simpa using hz) (jN _) ?_ ?_
  ·intro i x d H2 Q' ex ed s2 hq
   obtain⟨m,em,rfl⟩:=mV ed;rw[bN]at em;cases en:ns[i]? with |none=>rw[en]at em;cases em |some n=>rw[en]at em;cases em;cases vM ex en;exact⟨_,Z,n,Z,hq _ _ (aA.refl _) (cM _)⟩
  ·intro H' ys s2 d2 r2
   rw[r2.gP]at d2;refine⟨D,_,Z,aF.of d2,by simpa using fX,λM h1 h2=>?_⟩;rw[Ea fX h1 h2];exact k H' s2
end
end Lw
set_option exponentiation.threshold 6000
namespace Lw
open PySem PySem.Spec PyProof.Rows L2 Rt
section
variable {w:World} {mg:bI} {ao:Heap}
theorem Ja:bo ["p","q","divisor"] ["p","q"] (aZ Cf):=bE aJ
theorem UG(F:FA K mg "lowest_terms" Cf)(B:bB mg)(EJ:ay P w K mg ao "common_divisor" 1 yf):ay P w K mg ao "lowest_terms" 2 uY:=by
 refine F.has Ja (λvs H Q E h=>?_) (λ_ _ _ _ _ _=>dn λ_ _=>rfl) (λf aH A outer s H vs Q E hr h=>?_)
 ·obtain⟨a,b,rfl,_⟩:=h
  rfl
 ·obtain⟨a,b,rfl,hb,wb,k⟩:=h
  have nd:=Ja.nd;have sw:Wd (Ar.sg a b):=nP (Ar.Ig hb) wb;refine⟨_,(aB (pS 2 nd (pf EJ hr (ai (pv 0) (ai (pv 1) aq)))) (aB (lu (bD (bQ ji (pv 1) aw (bC _)) (aD (pS 2 nd (ki jY (pv 2)))) bH)) (aD (aU (cF (ai (aG Kv (pv 0) (pv 2)) (ai (aG Kv (pv 1) (pv 2)) aq))))))),?_⟩;refine⟨_,Z,_,Z,a,b,Z,?_⟩;refine⟨λO H'=>H'=H/\O=[some (.int a),some (.int b),some (.int (Ar.sg a b))],?_,?_⟩
  ·refine⟨_,Z,_,_,Z,Z,_,Z,?_⟩
   refine eJ (λhc=>?_) (λhc=>?_)
   ·have hd:b<0:=gW hc
    refine⟨_,Z,_,Z,?_⟩;refine⟨Z,?_⟩;unfold Ar.sg;rw[aR hd];rfl
   ·have hd:¬b<0:=λz=>hc (cj z)
    refine⟨Z,?_⟩;unfold Ar.sg;rw[aO hd];rfl
  rintro O H' ⟨rfl,rfl⟩;refine⟨_,Z,_,Z,_,_,Z,Z,⟨Ar.vd hb,sw⟩,_,Z,_,Z,_,_,Z,Z,⟨Ar.vd hb,sw⟩,(by show 2<=sizeLine;decide),λt H4 nw=>?_⟩;exact k t H4 nw
def bj(K:a7)(H:Hp)(v:V)(r:Rat):Prop:=∃p,v= .ref p/\aK K H p [.int r.num,.int r.den]
theorem bj.go{H H':Hp}{v:V}{r:Rat}(h:bj K H v r)(s:aA H H'):bj K H' v r:=by obtain⟨p,e,q⟩:=h;exact⟨p,e,q.go s⟩
def bL(r:Rat):af:=.tuple [.int r.num,.int r.den]
theorem bj.rd{H:Hp}{v:V}{r:Rat}(h:bj K H v r):RD K H v (bL r):=by obtain⟨p,rfl,q⟩:=h;exact dC q (bK (cM _) (bK (cM _) cf))
theorem yA(r:Rat):bU 1 (bL r):=dQ.tup (.cons (.int _) (.cons (.int _) .nil))
theorem Ss(r:Rat):SeqAt.shaped (bL r)=true:=(yA r).shaped au
theorem eqR{r s:Rat}(h:r=s):PyData.eqv (bL r) (bL s)=true:=by rw[h];exact(yA s).refl
theorem gX{n:Nat}{i:Int}(h:i.natAbs<2^n)(l:n<=5000):Wd i:=fH h (uw au l)
theorem _root_.Rt.Bd.wn{r:Rat}(h:Bd 2000 r):Wd r.num:=gX h.num au
theorem _root_.Rt.Bd.wd{r:Rat}(h:Bd 2000 r):Wd (r.den:Int):=gX (n:=2000) (by have:=h.den;omega) au
theorem AU{r s:Rat}(h:Bd 2000 r)(g:Bd 2000 s):Wd ((r.den:Int)*(s.den:Int)):=gX (n:=4000) (Np h g) au
theorem Dk{H':Hp}{t:Addr}{a b:Int}{r:Rat}(hb:b≠0)(e:r=Rat.divInt a b)(h:H' t=some (.tup [.int (Ar.lowP a b),.int (Ar.fz a b)])):bj K H' (.ref t) r:=by obtain⟨e1,e2⟩:=E4 (a:=a) hb;rw[e1,e2,<-e]at h;exact⟨t,Z,aK.of h⟩
inductive a3H(op:Rat->Rat->Rat)(K:a7)(vs:List V)(H:Hp)(Q:VK):Prop |mk (v1:_)(v2:_)(r:_)(s:_)(h0:vs=[v1,v2])(h1:bj K H v1 r)(h2:bj K H v2 s)(h3:Bd 2000 r)(h4:Bd 2000 s)(h5:∀v H',bj K H' v (op r s)->aA H H'->Q v H')
def qe(op:Rat->Rat->Rat)(K:a7):Sp:=λvs H Q _=>a3H op K vs H Q
theorem IU:bo ["one","other","p","q","r","s"] ["one","other"] (aZ C4):=bE aJ
theorem UB(F:FA K mg "minus" C4)(B:bB mg)(vY:ay P w K mg ao "lowest_terms" 2 uY):ay P w K mg ao "minus" 3 (qe (·-·) K):=by
 refine F.has IU (λvs H Q E h=>?_) (λ_ _ _ _ _ _=>dn λ_ _=>rfl) (λf aH A outer s H vs Q E hr h=>?_)
 ·obtain⟨v1,v2,r,s,rfl,_⟩:=h
  rfl
 ·obtain⟨v1,v2,r,s,rfl,⟨p,rfl,hp⟩,⟨q,rfl,hq⟩,br,bs,k⟩:=h
  have nd:=IU.nd;refine⟨_,(aB (eG (pv 0) (cV K Z (n:=2) Z (bF (aX 2 nd) (bF (aX 3 nd) cU)))) (aB (eG (pv 1) (cV K Z (n:=2) Z (bF (aX 4 nd) (bF (aX 5 nd) cU)))) (aD (aU (pf vY hr (ai (aG gs (aG bJ (pv 2) (pv 5)) (aG bJ (pv 4) (pv 3))) (ai (aG bJ (pv 3) (pv 5)) aq))))))),?_⟩;refine⟨_,Z,_,_,Z,hp,Z,_,_,Z,_,_,Z,Z,?_⟩;refine⟨_,Z,_,_,Z,hq,Z,_,_,Z,_,_,Z,Z,?_⟩;refine⟨_,Z,_,Z,_,_,Z,Z,gG br.wn.bits bs.wd.bits,_,Z,_,Z,_,_,Z,Z,gG bs.wn.bits br.wd.bits,_,_,Z,Z,_,Z,_,Z,_,_,Z,Z,gG br.wd.bits bs.wd.bits,?_⟩;exact⟨_,_,Z,wI r s,AU br bs,λt H' nw=>k _ _ (Dk (wI r s) (QW r s) nw.at') nw.same⟩
inductive a3W(K:a7)(vs:List V)(H:Hp)(Q:VK):Prop |mk (v1:_)(v2:_)(r:_)(s:_)(h0:vs=[v1,v2])(h1:bj K H v1 r)(h2:bj K H v2 s)(h3:Bd 2000 r)(h4:Bd 2000 s)(h5:Q (.bl (decide (r<s))) H)
def jJ(K:a7):Sp:=λvs H Q _=>a3W K vs H Q
theorem J4:bo ["one","other","p","q","r","s"] ["one","other"] (aZ Cb):=bE aJ
theorem UN(F:FA K mg "is_less" Cb)(B:bB mg):ay P w K mg ao "is_less" 1 (jJ K):=by
 refine F.has J4 (λvs H Q E h=>?_) (λ_ _ _ _ _ _=>dn λ_ _=>rfl) (λf aH A outer s H vs Q E hr h=>?_)
 ·obtain⟨v1,v2,r,s,rfl,_⟩:=h
  rfl
 ·obtain⟨v1,v2,r,s,rfl,⟨p,rfl,hp⟩,⟨q,rfl,hq⟩,br,bs,k⟩:=h
  have nd:=J4.nd;refine⟨_,(aB (eG (pv 0) (cV K Z (n:=2) Z (bF (aX 2 nd) (bF (aX 3 nd) cU)))) (aB (eG (pv 1) (cV K Z (n:=2) Z (bF (aX 4 nd) (bF (aX 5 nd) cU)))) (aD (aU (fW ji (aG bJ (pv 2) (pv 5)) (aG bJ (pv 4) (pv 3)) (bC _)))))),?_⟩;refine⟨_,Z,_,_,Z,hp,Z,_,_,Z,_,_,Z,Z,?_⟩;refine⟨_,Z,_,_,Z,hq,Z,_,_,Z,_,_,Z,Z,?_⟩;refine⟨_,Z,_,Z,_,_,Z,Z,gG br.wn.bits bs.wd.bits,_,Z,_,Z,_,_,Z,Z,gG bs.wn.bits br.wd.bits,_,_,Z,Z,?_⟩;have e:decide (r.num*(s.den:Int)<s.num*(r.den:Int))=decide (r<s):=by rw[pX,Ge,Ge,Rat.lt_iff]
  show Q (.bl (decide (r.num*(s.den:Int)<s.num*(r.den:Int)))) H;rw[e];exact k
def dr(K:a7)(H:Hp):List V->List Rat->Prop |[],[]=>True |v::vs,r::rs=>bj K H v r/\Bd 2000 r/\dr K H vs rs |_,_=>False
theorem dr.go{H H':Hp}(s:aA H H'):∀{vs:List V}{rs:List Rat},dr K H vs rs->dr K H' vs rs |[],[],_=>trivial |v::vs,r::rs,h=>⟨h.1.go s,h.2.1,dr.go s h.2.2⟩ |[],_::_,h=>h.elim |_::_,[],h=>h.elim
theorem dr.length{H:Hp}:∀{vs:List V}{rs:List Rat},dr K H vs rs->vs.length=rs.length |[],[],_=>rfl |v::vs,r::rs,h=>by rw[mB,mB,dr.length h.2.2] |[],_::_,h=>h.elim |_::_,[],h=>h.elim
theorem dr.get{H:Hp}:∀{vs:List V}{rs:List Rat}{i:Nat}{v:V},dr K H vs rs->vs[i]? =some v->∃r,rs[i]? =some r/\bj K H v r/\Bd 2000 r
 |[],[],i,v,_,e=>by simp at e |v::vs,r::rs,0,v',h,e=>by
  have e':v=v':=by simpa using e
  subst e';exact⟨r,Z,h.1,h.2.1⟩ |v::vs,r::rs,i+1,v',h,e=>by obtain⟨r',e1,q⟩:=dr.get h.2.2 (show vs[i]? =some v' by simpa using e);exact⟨r',by simpa using e1,q⟩ |[],_::_,_,_,h,_=>h.elim |_::_,[],_,_,h,_=>h.elim
inductive a3X(K:a7)(vs:List V)(H:Hp)(Q:VK):Prop |mk (l:_)(xs:_)(rs:_)(h0:vs=[.ref l])(h1:aF K H l xs)(h2:dr K H xs rs)(h3:xs≠[])(h4:∀(i:Nat)(v:V)(r:Rat),xs[i]? =some v->rs[i]? =some r->(∀s∈rs,r<=s)->Q v H)
def l7(K:a7):Sp:=λvs H Q _=>a3X K vs H Q
theorem J5:bo ["some","best","one"] ["some"] (aZ Cc):=bE aJ
theorem UO(F:FA K mg "least" Cc)(B:bB mg)(nk:ay P w K mg ao "is_less" 1 (jJ K)):ay P w K mg ao "least" 2 (l7 K):=by
 refine F.has J5 (λvs H Q E h=>?_) (λ_ _ _ _ _ _=>gj λ_=>rfl) (λf aH A outer s H vs Q E hr h=>?_)
 ·obtain⟨l,xs,rs,rfl,_⟩:=h
  rfl
 ·obtain⟨l,xs,rs,rfl,hl,nj,fX,k⟩:=h
  have nd:=J5.nd;refine⟨_,(aB (pS 1 nd (px K (pv 0) aw)) (aB (fh eE Z (oo K Z (pv 0)) (aX 2 nd) (aD (bD (bZ (pf nk hr (ai (pv 2) (ai (pv 1) aq)))) (aD (pS 1 nd (pv 2))) bH))) (aD (aU (pv 1))))),?_⟩;have hlen:=nj.length;have h0:0<xs.length:=AJ.mpr fX;have e0:=bw h0;refine⟨_,Z,.inl ⟨l,xs,0,xs[0],Z,Z,hl,cK au e0,?_⟩⟩;refine⟨_,Z,l,Z,⟨_,hl⟩,zJ (K:=K) (a:=l) (xs:=xs) (λi O H2=>H2=H/\∃(j:Nat)(b:V)(r:Rat)(v:Option V),xs[j]? =some b/\rs[j]? =some r/\(∀(m:Nat)(s:Rat),m<i->rs[m]? =some s->r<=s)/\O=[some (.ref l),some b,v]) ?_ (λi O H2 _ h=>by rw[h.1];exact hl) ?_ ?_⟩
  ·obtain⟨r,e1,_⟩:=nj.get e0
   exact⟨Z,0,_,r,none,e0,e1,λm s hm=>absurd hm (AF _),Z⟩
  ·rintro i x O H2 hx ⟨rfl,j,b,r,v,eb,er,hm,rfl⟩
   obtain⟨t,et,rt,bt⟩:=nj.get hx;obtain⟨r2,wB,rb,bb⟩:=nj.get eb;rw[er]at wB;cases wB;refine⟨_,Z,_,Z,x,b,t,r,Z,rt,rb,bt,bb,_,Z,?_⟩;refine eJ (λhc=>?_) (λhc=>?_)
   ·have bG:t<r:=gW hc
    refine⟨_,Z,?_⟩;refine⟨Z,i,x,t,_,hx,et,λm s qG es=>?_,Z⟩;rcases Gr.mp qG with h|h
    ·exact pR (Ay bG) (hm m s h es)
    ·subst h
     rw[et]at es;cases es;exact pT
   ·have Ew:¬t<r:=λz=>hc (cj z)
    refine⟨Z,j,b,r,_,eb,er,λm s qG es=>?_,Z⟩;rcases Gr.mp qG with h|h
    ·exact hm m s h es
    ·subst h
     rw[et]at es;cases es;exact Ax.mp Ew
  ·rintro O H2 ⟨rfl,j,b,r,v,eb,er,hm,rfl⟩
   refine⟨_,Z,k j b r eb er λs hs=>?_⟩;obtain⟨m,EB,em⟩:=Pc.mp hs;exact hm m s ak (by rw[bw EB,em])
inductive a3P(K:a7)(vs:List V)(H:Hp)(Q:VK):Prop |mk (a:_)(b:_)(h0:vs=[.int a,.int b])(h1:b≠0)(h2:Wd b)(h3:∀v H',bj K H' v (Rat.divInt a b)->aA H H'->Q v H')
def uX(K:a7):Sp:=λvs H Q _=>a3P K vs H Q
theorem Jn:bo ["p","q"] ["p","q"] (aZ Cz):=bE aJ
theorem V5(F:FA K mg "fraction" Cz)(B:bB mg)(kA:ay P w K mg ao "is_whole" 1 (iL K))(vY:ay P w K mg ao "lowest_terms" 2 uY):ay P w K mg ao "fraction" 3 (uX K):=by
 refine F.has Jn (λvs H Q E h=>?_) (λ_ _ _ _ _ _=>dn λ_ _=>rfl) (λf aH A outer s H vs Q E hr h=>?_)
 ·obtain⟨a,b,rfl,_⟩:=h
  rfl
 ·obtain⟨a,b,rfl,hb,wb,k⟩:=h
  have nd:=Jn.nd;refine⟨_,(aB (bD (PW.pt (fT (cT (bZ (pf kA hr (ai (pv 0) aq)))) (je (cT (bZ (pf kA hr (ai (pv 1) aq))))))) (aD Dv) bH) (aB (bD (bQ (dH K Z hr.units) (pv 1) aw (bC _)) (aD Dv) bH) (aD (aU (pf vY hr (ai (pv 0) (ai (pv 1) aq))))))),?_⟩;have iw:eX "int"=true:=by decide
  refine⟨_,Z,_,"int",Z,Z,_,Z,?_⟩;rw[iw];refine aQ ?_;refine⟨_,Z,_,"int",Z,Z,_,Z,?_⟩;rw[iw];refine aQ ?_;refine⟨_,Z,.inl ⟨_,_,Z,Z,_,Z,?_⟩⟩;rw[cY hb];refine aQ ?_;exact⟨_,Z,_,Z,_,_,Z,hb,wb,λt H' nw=>k _ _ (Dk hb Z nw.at') nw.same⟩
theorem Jl:bo ["thing","p","q"] ["thing"] (aZ Cu):=bE aJ
open Ln
def dZ(rs:List Int)(r f j t:Int):af:=.tuple [.tuple (rs.map PyData.int),.int r,.int f,.int j,.int t]
theorem Lf(rs:List Int)(r f j t:Int):cQ (dZ rs r f j t)=true:=by simp[dZ,cQ,cg,jN]
theorem km{H:Hp}{v:V}{rs:List Int}{r f j t:Int}(h:RD K H v (dZ rs r f j t)):∃a b,v= .ref a/\aK K H a [.ref b,.int r,.int f,.int j,.int t]/\aK K H b (rs.map V.int):=by obtain⟨a,xs,rfl,h1,h2⟩:=h.bT;obtain⟨x1,r1,rfl,e1,h2⟩:=h2.cons_inv;obtain⟨x2,r2,rfl,e2,h2⟩:=h2.cons_inv;obtain⟨x3,r3,rfl,e3,h2⟩:=h2.cons_inv;obtain⟨x4,r4,rfl,e4,h2⟩:=h2.cons_inv;obtain⟨x5,r5,rfl,e5,h2⟩:=h2.cons_inv;cases h2.nil_inv;cases e2.int_inv;cases e3.int_inv;cases e4.int_inv;cases e5.int_inv;obtain⟨b,ys,rfl,h3,h4⟩:=e1.bT;rw[h4.gP]at h3;exact⟨a,b,Z,h1,h3⟩
structure fb(rs:List Int)(r f j t:Int):Prop where
 len:rs.length=2\/rs.length=3
 rl:∀z∈rs,1<=z/\z<=100
 r1:1<=r/\r<=50
 f1:1<=f/\f<=50
 j1:1<=j/\j<=50
 t1:1<=t/\t<=100
inductive a3R(K:a7)(vs:List V)(H:Hp)(Q:VK):Prop |mk (p:_)(h0:vs=[.ref p])(h1:eQ H p)(h2:∀v rs r f j t H',RD K H' v (dZ rs r f j t)->fb rs r f j t->aV p H H'->Q v H')
def HS(K:a7):Sp:=λvs H Q _=>a3R K vs H Q
theorem IX:bo ["_law_bag_here","_law_kind","_law_most","_law_rails"] ["_law_bag_here"] (aZ C7):=bE aJ
theorem UE(F:FA K mg "_law_machine" C7)(B:bB mg)(cA:ay P w K mg ao "_law_take" 1 ka):ay P w K mg ao "_law_machine" 2 (HS K):=by
 refine F.has IX (λvs H Q E h=>?_) (λ_ _ _ _ _ _=>gj λ_=>rfl) (λf aH A outer s H vs Q E hr h=>?_)
 ·obtain⟨p,rfl,_⟩:=h
  rfl
 ·obtain⟨p,rfl,bg,k⟩:=h
  have nd:=IX.nd;refine⟨_,(aB (pS 1 nd (pf cA hr (ai (pv 0) (ai aw aq)))) (aB (pS 2 nd (px K (cI (ai aw (ai aw (ai aw (ai aw (ai aw (ai aw (ai aw (ai aw aq))))))))) (pv 1))) (aB (pS 3 nd (fj (x:="tuple") (j9 K Z) Z (B.at "tuple") fN (ai (fV (N:=["_law_axis","_law_bag_here","_law_most"]) (js:=[none,some 0,some 2]) rfl rfl rfl (lA rfl (B.at "range") (ai (aG cm aw (pf cA hr (ai (pv 0) (ai aw aq)))) aq)) (λ_ _ _ _ _=>(aX 0 (show List.Nodup (["_law_axis","_law_bag_here","_law_most"]:List Str) by decide+kernel))) (λ_ _ _ _ _=>f6) (λ_ _ _ _ _=>(aG cm aw (pf cA hr (ai (pv 1) (ai (pv 2) aq)))))) aq))) (aB (bD (bQ (dH K Z hr.units) (pv 1) aw (bC _)) (aD (aU (cF (ai (pv 3) (ai (aG cm aw (aG bJ aw (pf cA hr (ai (pv 0) (ai aw aq))))) (ai (aG cm aw (aG bJ aw (pf cA hr (ai (pv 0) (ai aw aq))))) (ai (aG cm aw (aG bJ aw (pf cA hr (ai (pv 0) (ai aw aq))))) (ai aw aq)))))))) bH) (aD (aU (cF (ai (pv 3) (ai (aG cm aw (pf cA hr (ai (pv 0) (ai aw aq)))) (ai (aG cm aw (pf cA hr (ai (pv 0) (ai aw aq)))) (ai (aG cm aw (pf cA hr (ai (pv 0) (ai aw aq)))) (ai (aG cm aw (pf cA hr (ai (pv 0) (ai aw aq)))) aq)))))))))))),?_⟩;refine⟨_,Z,p,8,Z,bg,au,au,λkd H1 k0 k1 b1=>?_⟩;refine⟨bA Z,λl H2 nw=>?_⟩;have b2:aV p H1 H2:=.cW b1.aM nw.same;obtain⟨qT,mf,ef⟩:=WT [100,100,100,60,60,20,5,100] k0 k1;have f1:1<=qT/\qT<=100:=by
   have h:∀z∈([100,100,100,60,60,20,5,100]:List Int),1<=z/\z<=100:=by decide
   exact h qT mf
  refine⟨_,Z,.inl ⟨l,_,_,_,Z,Z,aF.of nw.at',ef,?_⟩⟩;refine⟨_,Z,p,2,Z,b2.aM,au,au,λax H3 a0 a1 b3=>?_⟩;refine⟨_,_,Z,Z,_,Z,ak,ak,λD H4 n4=>?_⟩;refine a1N (J:=mr 0 (2+ax).toNat) (p:=p) (H:=H3) (2+ax).toNat _ n4 b3.aM ak (λi=>.int (0+(i:Int))) (λi H5 hi _=>⟨hi,λy H6 ⟨e,q⟩=>⟨e,q⟩⟩) (λH5 _=>ba _) (λz=>1<=z/\z<=100) ?_ ?_
  ·intro i H5 Q' hi b5 hq
   refine⟨_,Z,_,Z,p,qT,Z,b5.aM,f1.1,ak,λd H6 d0 d1 b6=>?_⟩;exact⟨_,_,Z,Z,hq _ _ ak b6⟩
  intro H5 is b5 d5 l5 NV;have wW:=b1.trans (b2.trans (b3.trans b5));refine⟨D,_,Z,.inl ⟨aF.of d5,λq H6 n6=>?_⟩⟩;have b6:aV p H5 H6:=.cW wW.aM n6.same;have q6:aK K H6 q (is.map V.int):=aK.of n6.at';refine⟨_,Z,.inl ⟨_,_,Z,Z,_,Z,?_⟩⟩;refine eJ (λhc=>?_) (λhc=>?_)
  ·refine⟨_,Z,_,Z,p,2,Z,b6.aM,au,au,λri H7 Sm Sl b7=>?_⟩
   refine⟨_,_,Z,Z,.of_left (ck au au),_,_,Z,Z,?_⟩;refine⟨_,Z,p,2,Z,b7.aM,au,au,λfa H8 ZX ZW b8=>?_⟩;refine⟨_,_,Z,Z,.of_left (ck au au),_,_,Z,Z,?_⟩;refine⟨_,Z,p,2,Z,b8.aM,au,au,λju H9 WE WD b9=>?_⟩;refine⟨_,_,Z,Z,.of_left (ck au au),_,_,Z,Z,?_⟩;refine⟨bA Z,λt gC mU=>?_⟩;have mj:aV p H9 gC:=.cW b9.aM mU.same;have NZ:=b7.trans (b8.trans (b9.trans mj));have SV:aK K gC q (is.map V.int):=aK.t (aV.t b6.aM NZ) q6;exact k (.ref t) is (1+49*ri) (1+49*fa) (1+49*ju) 100 gC (dC (aK.of mU.at') (bK (dC SV (sW is)) (bK (cM _) (bK (cM _) (bK (cM _) (bK (cM _) cf)))))) ⟨ak,NV,ak,ak,ak,ak⟩ (wW.trans (b6.trans NZ))
  ·refine⟨_,Z,_,Z,p,50,Z,b6.aM,au,au,λri H7 Sm Sl b7=>?_⟩
   refine⟨_,_,Z,Z,?_⟩;refine⟨_,Z,p,50,Z,b7.aM,au,au,λfa H8 ZX ZW b8=>?_⟩;refine⟨_,_,Z,Z,?_⟩;refine⟨_,Z,p,50,Z,b8.aM,au,au,λju H9 WE WD b9=>?_⟩;refine⟨_,_,Z,Z,?_⟩;refine⟨_,Z,p,100,Z,b9.aM,au,au,λti gC ti0 uN mj=>?_⟩;refine⟨_,_,Z,Z,bA Z,λt gB kj=>?_⟩;have nF:aV p gC gB:=.cW mj.aM kj.same;have NY:=b7.trans (b8.trans (b9.trans (mj.trans nF)));have vp:aK K gB q (is.map V.int):=aK.t (aV.t b6.aM NY) q6;exact k (.ref t) is (1+ri) (1+fa) (1+ju) (1+ti) gB (dC (aK.of kj.at') (bK (dC vp (sW is)) (bK (cM _) (bK (cM _) (bK (cM _) (bK (cM _) cf)))))) ⟨ak,NV,ak,ak,ak,ak⟩ (wW.trans (b6.trans NY))
inductive a46(K:a7)(vs:List V)(H:Hp)(Q:VK):Prop |mk (a:_)(b:_)(h0:vs=[.int a,.int b])(h1:0<b)(h2:Wd b)(h3:∀v H',bj K H' v (Rat.divInt a b)->aA H H'->Q v H')
def sN(K:a7):Sp:=λvs H Q _=>a46 K vs H Q
theorem Jm:bo ["_law_p","_law_q","_law_one","_law_other_here"] ["_law_p","_law_q"] (aZ Cy):=bE aJ
theorem V4(F:FA K mg "_law_frac" Cy)(B:bB mg):ay P w K mg ao "_law_frac" 1 (sN K):=by
 refine F.has Jm (λvs H Q E h=>?_) (λ_ _ _ _ _ _=>dn λ_ _=>rfl) (λf aH A outer s H vs Q E hr h=>?_)
 ·obtain⟨a,b,rfl,_⟩:=h
  rfl
 ·obtain⟨a,b,rfl,hb,wb,k⟩:=h
  have nd:=Jm.nd;refine⟨_,(aB (mL (i:=2) (j:=3) Z nd Z Z au Z Z (ai (dk (x:="abs") mh Z (B.at "abs") nO (ai (pv 0) aq)) (ai (pv 1) aq)) rfl) (aB (qk eE (bQ lC (pv 3) aw (bC _)) (aD (mL (i:=2) (j:=3) Z nd Z Z au Z Z (ai (pv 3) (ai (aG ou (pv 2) (pv 3)) aq)) Z))) (aD (aU (cF (ai (aG mS (pv 0) (pv 2)) (ai (aG mS (pv 1) (pv 2)) aq))))))),?_⟩;refine⟨_,Z,_,Z,_,Z,_,_,Z,?_⟩;refine pY (λO H2=>H2=H/\∃(x y:Int),O=[some (.int a),some (.int b),some (.int x),some (.int y)]/\0<=x/\0<=y/\Int.gcd x y=Int.gcd a b) (λO _=>match O with|[_,_,_,some (.int y)]=>y.natAbs|_=>0) ?_ ?_ ?_
  ·refine⟨Z,_,_,Z,by split<;>lia,ak,?_⟩
   have h1:(if a<0 then-a else a).natAbs=a.natAbs:=by split<;>lia
   unfold Int.gcd;rw[h1]
  ·rintro O H2 ⟨rfl,x,y,rfl,x0,y0,e⟩
   refine⟨_,Z,_,_,Z,Z,_,Z,?_⟩;refine eJ (λhc=>?_) (λhc=>?_)
   ·have kr:0<y:=gW hc
    have hy:y≠0:=by lia
    refine⟨_,Z,_,Z,_,Z,_,_,Z,Z,kr,_,_,Z,?_⟩;refine⟨⟨Z,_,_,Z,y0,nR _ hy,(Ar.Mu kr).trans e⟩,?_⟩;show(x%y).natAbs<y.natAbs;have:=nR x hy;have:=sk x kr
    lia
   ·have hy:y=0:=by
     have:¬y>0:=λz=>hc (cj z)
     lia
    subst hy;rw[Int.gcd_zero_right]at e;have ex:x=((Int.gcd a b:Nat):Int):=by lia
    have ny:b≠0:=by lia
    have gp:=Ar.zG (p:=a) ny;have es:Ar.sg a b=(Int.gcd a b:Int):=by unfold Ar.sg;rw[aO ak]
    have gw:Wd (Int.gcd a b:Int):=by rw[<-es];exact nP (Ar.Ig ny) wb
    obtain⟨e1,e2⟩:=E4 (a:=a) ny;have f1:a/(Int.gcd a b:Int)=(Rat.divInt a b).num:=by rw[<-e1];unfold Ar.lowP;rw[es,Pr _ ak]
    have f2:b/(Int.gcd a b:Int)=((Rat.divInt a b).den:Int):=by rw[<-e2];unfold Ar.fz;rw[es,Pr _ ak]
    subst ex;refine⟨_,Z,_,Z,_,_,Z,Z,⟨gp,gw⟩,_,Z,_,Z,_,_,Z,Z,⟨gp,gw⟩,bA Z,λt H6 n6=>?_⟩;have O8:=n6.at';simp only[f1,f2]at O8;exact k _ _ ⟨t,Z,aK.of O8⟩ n6.same
  ·rintro O H2 Q1 Q2 hq ⟨v1,e1,i,j,e3,e4,kk,e5,q⟩
   exact⟨v1,e1,i,j,e3,e4,kk,e5,hq _ _ q⟩
theorem Jb:bo ["_law_thing"] ["_law_thing"] (aZ Cg):=bE aJ
theorem UI(F:FA K mg "_law_number" Cg)(B:bB mg):ay P w K mg ao "_law_number" 1 (iL K):=by
 refine F.has Jb (λvs H Q E h=>?_) (λ_ _ _ _ _ _=>gj λ_=>rfl) (λf aH A outer s H vs Q E hr h=>?_)
 ·obtain⟨v,T,rfl,_⟩:=h
  rfl
 ·obtain⟨v,T,rfl,ty,k⟩:=h
  have nd:=Jb.nd;refine⟨_,(aD (aU (iQ (fk K B (ai (pv 0) (ai (eU (x:="int") (v:=.ty "int") Z (B.at "int") rX rfl) aq))) (jg (ql (fk K B (ai (pv 0) (ai (eU (x:="bool") (v:=.ty "bool") rfl (B.at "bool") P6 rfl) aq)))))))),?_⟩;refine⟨_,Z,.inl ⟨_,T,"int",_,Z,ty,au,Z,_,Z,?_⟩⟩;unfold eX at k;refine eJ (λhc=>?_) (λhc=>?_)
  ·refine⟨_,Z,.inl ⟨_,T,"bool",_,Z,ty,au,Z,_,Z,?_⟩⟩
   rw[hc,j8]at k;exact k
  ·rw[nS.mpr hc,iG]at k
   exact k
theorem AV:eR "tuple" "tuple"=true:=by decide
abbrev Itm:=Option (List Int × Int)
def itR(d:af)(o:Itm):Prop:=(∃ns sp,d=fA ns sp/\o=some (ns,sp))\/∃w x,d= .tuple [.str w,x]/\(w="wait"\/w="tool"\/w="mark")/\cQ x=true/\o=none
theorem itR.no{d:af}{o:Itm}(h:itR d o):cQ d=true:=by
 rcases h with⟨ns,sp,rfl,_⟩|⟨w,x,rfl,_,h,_⟩
 ·exact E8 _ _
 ·simp[cQ,cg,h]
theorem zm{H:Hp}{v:V}{d:af}{o:Itm}(h:RD K H v d)(i:itR d o):∃a w ys,v= .ref a/\aK K H a (.str w::ys)/\(PyData.eqv (.str w) (.str "line")=o.isSome)/\SeqAt.shaped (.str w)=true:=by
 rcases i with⟨ns,sp,rfl,rfl⟩|⟨w,x,rfl,hw,_,rfl⟩
 ·obtain⟨a,b,rfl,h1,_⟩:=kn h
  exact⟨a,_,_,Z,h1,(by show PyData.eqv (.str "line") (.str "line")=true;decide+kernel),aJ⟩
 ·obtain⟨a,xs,rfl,h1,h2⟩:=h.bT
  obtain⟨x1,r1,rfl,e1,h2⟩:=h2.cons_inv;cases e1.str_inv;refine⟨a,w,r1,Z,h1,?_,?_⟩
  ·show PyData.eqv (.str w) (.str "line")=false
   rcases hw with rfl|rfl|rfl<;>decide+kernel
  ·rcases hw with rfl|rfl|rfl<;>decide+kernel
theorem ze:SeqAt.shaped (.str "line")=true:=by decide+kernel
theorem jm{d:af}{ns:List Int}{sp:Int}(h:itR d (some (ns,sp))):d=fA ns sp:=by
 rcases h with⟨vE,vb,e1,e2⟩|⟨_,_,_,_,_,e2⟩
 ·cases e2;exact e1
 ·cases e2
structure cn(ax:Nat)(ds:List af)(os:List Itm):Prop where
 len:ds.length=os.length
 it:∀(i:Nat)(d:af)(o:Itm),ds[i]? =some d->os[i]? =some o->itR d o
 ok:∀(i:Nat)(ns:List Int)(sp:Int),os[i]? =some (some (ns,sp))->dP ax 100 ns/\1<=sp/\sp<=20
theorem cn.nil{ax:Nat}:cn ax [] []:=⟨Z,λi d o e=>by simp at e,λi ns sp e=>by simp at e⟩
theorem qf{α:Type}{xs:List α}{x y:α}{j:Nat}(e:(xs++[x])[j]? =some y):xs[j]? =some y\/(j=xs.length/\y=x):=by
 by_cases hj:j<xs.length
 ·rw[pV hj]at e;exact .inl e
 ·have qJ:j=xs.length:=by
   have:=(cy.mp e).1;rw[cD]at this;have:j<xs.length+1:=this
   lia
  rw[qJ,nQ (ba _),AE]at e;exact .inr ⟨qJ,(dv e).symm⟩
theorem cn.snoc{ax:Nat}{ds:List af}{os:List Itm}{d:af}{o:Itm}(h:cn ax ds os)(i:itR d o)(g:∀ns sp,o=some (ns,sp)->dP ax 100 ns/\1<=sp/\sp<=20):cn ax (ds++[d]) (os++[o]):=by
 have hl:=h.len;refine⟨by rw[cD,cD,h.len];rfl,λj d' o' e1 e2=>?_,λj ns sp e=>?_⟩
 ·rcases qf e1 with e1|⟨j1,rfl⟩
  ·rcases qf e2 with e2|⟨j2,rfl⟩
   ·exact h.it j d' o' e1 e2
   ·have:=(cy.mp e1).1;lia
  ·rcases qf e2 with e2|⟨j2,rfl⟩
   ·have:=(cy.mp e2).1;lia
   ·exact i
 ·rcases qf e with e|⟨_,e⟩
  ·exact h.ok j ns sp e
  ·exact g ns sp e.symm
theorem cn.no{ax:Nat}{ds:List af}{os:List Itm}(h:cn ax ds os):cg ds=true:=cP.mpr λd hd=>by obtain⟨i,hi⟩:=AH.mp hd;have hl:=(cy.mp hi).1;exact(h.it i d _ hi (bw (by rw[<-h.len];exact hl))).no
theorem cn.get{ax:Nat}{ds:List af}{os:List Itm}(h:cn ax ds os){i:Nat}{d:af}(e:ds[i]? =some d):∃o,os[i]? =some o/\itR d o:=by have hl:=(cy.mp e).1;have e2:=bw (show i<os.length by rw[<-h.len];exact hl);exact⟨_,e2,h.it i d _ e e2⟩
theorem aC.qg{H:Hp}{l:Addr}{ys:List V}{y:V}{ds:List af}{d:af}(dl:H l=some (.lst ys))(r:aC K H ys ds)(rd:RD K H y d)(n1:cg ds=true)(n2:cQ d=true):aC K (L2.upd H l (.lst (ys++[y]))) (ys++[y]) (ds++[d]):=by have t:cR H (L2.upd H l (.lst (ys++[y]))):=.fw dl;exact(aC.t t _ n1 r).append (bK (RD.t t _ n2 rd) cf)
inductive a43(K:a7)(vs:List V)(H:Hp)(Q:VK):Prop |mk (v:_)(d:_)(o:_)(h0:vs=[v])(h1:RD K H v d)(h2:itR d o)(h3:Q (.bl o.isSome) H)
def nY(K:a7):Sp:=λvs H Q _=>a43 K vs H Q
theorem Jf:bo ["item"] ["item"] (aZ Cm):=bE aJ
theorem UW(F:FA K mg "is_line" Cm)(B:bB mg):ay P w K mg ao "is_line" 1 (nY K):=by
 refine F.has Jf (λvs H Q E h=>?_) (λ_ _ _ _ _ _=>gj λ_=>rfl) (λf aH A outer s H vs Q E hr h=>?_)
 ·obtain⟨v,d,o,rfl,_⟩:=h
  rfl
 ·obtain⟨v,d,o,rfl,ri,it,k⟩:=h
  have nd:=Jf.nd;refine⟨_,(aD (aU (fW (dH K Z hr.units) (px K (pv 0) aw) dY (bC _)))),?_⟩;obtain⟨a,wd,ys,rfl,h1,ew,sw⟩:=zm ri it;refine⟨_,Z,.inr ⟨a,_,0,.str wd,Z,Z,h1,cK (jE 0) Z,.inr ⟨_,_,cE _,cE _,sw,ze,?_⟩⟩⟩;rw[ew];exact k
theorem Hr{H:Hp}:∀{xs:List V}{zs:List Str},aC K H xs (zs.map PyData.str)->xs=zs.map V.str |xs,[],h=>h.nil_inv |xs,n::ns,h=>by obtain⟨y,ys,rfl,h1,h2⟩:=h.cons_inv;rw[h1.str_inv,Hr h2];rfl
theorem a2X:i6.cps.toList.length=26:=by decide+kernel
theorem IP:bo ["_law_bag_here","_law_kind","_law_letters"] ["_law_bag_here"] (aZ C0):=bE aJ
theorem FV{α:Type}{xs:List α}{x:α}(h:xs.getLast? =some x):dI xs (-1)=some x:=by
 unfold dI gc;have hl:xs≠[]:=by intro e;rw[e]at h;cases h
 have h0:0<xs.length:=AJ.mpr hl;rw[aO au,aR ak];rw[Pg]at h;show xs[((-1:Int)+(xs.length:Int)).toNat]? =some x;have e:((-1:Int)+(xs.length:Int)).toNat=xs.length-1:=by lia
 rw[e];exact h
def PL(ns:List Int):af:=.tuple (ns.map λz=>bL (Rat.divInt z (Ln.aE ns)))
theorem kg(r:Rat):cQ (bL r)=true:=by simp[bL,cQ,cg]
theorem KD{α:Type}{f:α->af}(h:∀a,cQ (f a)=true)(l:List α):cg (l.map f)=true:=cP.mpr λd hd=>by obtain⟨a,_,rfl⟩:=fu.mp hd;exact h a
inductive a3m(K:a7)(vs:List V)(H:Hp)(Q:VK):Prop |mk (v:_)(ns:_)(sp:_)(h0:vs=[v])(h1:RD K H v (fA ns sp))(h2:dP ns.length 1000 ns)(h3:ns.length<=1000)(h4:∀v' H',RD K H' v' (PL ns)->aA H H'->Q v' H')
def HD(K:a7):Sp:=λvs H Q _=>a3m K vs H Q
theorem Il:bo ["line","lead"] ["line"] (aZ BB):=bE aJ
theorem U9(F:FA K mg "ways_of" BB)(B:bB mg)(jq:ay P w K mg ao "lead_of" 1 (iK K))(w6:ay P w K mg ao "fraction" 3 (uX K)):ay P w K mg ao "ways_of" 4 (HD K):=by
 refine F.has Il (λvs H Q E h=>?_) (λ_ _ _ _ _ _=>gj λ_=>rfl) (λf aH A outer s H vs Q E hr h=>?_)
 ·obtain⟨v,ns,sp,rfl,_⟩:=h
  rfl
 ·obtain⟨v,ns,sp,rfl,rd,ok,hz,k⟩:=h
  have nd:=Il.nd;refine⟨_,(aB (pS 1 nd (pf jq hr (ai (pv 0) aq))) (aD (aU (fj (x:="tuple") (j9 K Z) Z (B.at "tuple") fN (ai (fV (N:=["step","lead"]) (js:=[none,some 1]) rfl rfl rfl (kh K rfl (px K (pv 0) aw)) (λ_ _ _ _ _=>(aX 0 (hJ au))) (λ_ _ _ _ _=>f6) (λ_ _ _ _ _=>(pf w6 hr (ai (pv 0) (ai (pv 1) aq))))) aq))))),?_⟩;refine⟨_,Z,v,ns,sp,Z,rd,ok.ne,hz,λH1 s1=>?_⟩;obtain⟨a,b,rfl,ha,hb⟩:=kn (RD.mono s1 _ rd);obtain⟨lp,lm⟩:=ok.lead;refine⟨_,Z,.inr ⟨a,_,1,.ref b,Z,Z,ha,Z,b,Z,⟨_,hb⟩,λD H0 nw=>?_⟩⟩;refine zY (K:=K) (xs:=ns.map V.int) (ds:=ns.map λz=>bL (Rat.divInt z (Ln.aE ns))) _ hb nw (by simp) (by simpa using hz) (KD (λ_=>kg _) _) ?_ ?_
  ·intro i x d H2 Q' ex ed s2 hq
   obtain⟨n,en,rfl⟩:=mV ed;cases vM ex en;refine⟨_,Z,_,Z,n,_,Z,aI,gX (n:=20) aI au,λv3 H3 r3 s3=>?_⟩;exact hq _ _ s3 r3.rd
  ·intro H' ys s2 d2 r2
   refine⟨D,_,Z,.inl ⟨aF.of d2,λt H4 n4=>?_⟩⟩;exact k _ _ (dC (aK.of n4.at') (aC.mono n4.same _ r2)) (s1.trans (s2.trans n4.same))
theorem jF:eR "tuple" "tuple"=true:=by decide
theorem jX(d:af):(∃i,d= .int i/\eX (dM d)=true)\/(eX (dM d)=false/\∀i,d≠ .int i):=by cases d with |int i=>exact .inl ⟨i,Z,by simp[dM];decide⟩ |_=>exact .inr ⟨by simp[dM];decide,λ_ z=>nomatch z⟩
theorem xT(d:af):(∃ds,d= .tuple ds)\/(eR (dM d) "tuple"=false/\∀ds,d≠ .tuple ds):=by cases d with |tuple ds=>exact .inl ⟨ds,Z⟩ |_=>exact .inr ⟨by simp[dM];decide,λ_ z=>nomatch z⟩
def gu(lo hi:Int):af->Bool | .int i=>decide (lo<=i)&&decide (i<=hi) |_=>false
theorem WV{lo hi:Int}{d:af}(h:∀i,d≠ .int i):gu lo hi d=false:=by cases d<;>first|rfl|exact absurd rfl (h _)
inductive a3n(K:a7)(vs:List V)(H:Hp)(Q:VK):Prop |mk (v:_)(d:_)(lo:_)(hi:_)(h0:vs=[v,.int lo,.int hi])(h1:RD K H v d)(h2:Q (.bl (gu lo hi d)) H)
def sJ(K:a7):Sp:=λvs H Q _=>a3n K vs H Q
theorem Im:bo ["thing","low","high"] ["thing","low","high"] (aZ BC):=bE aJ
theorem U8(F:FA K mg "is_whole_within" BC)(B:bB mg)(kA:ay P w K mg ao "is_whole" 1 (iL K)):ay P w K mg ao "is_whole_within" 2 (sJ K):=by
 refine F.has Im (λvs H Q E h=>?_) (λ_ _ _ _ _ _=>j4 λ_ _ _=>rfl) (λf aH A outer s H vs Q E hr h=>?_)
 ·obtain⟨v,d,lo,hi,rfl,_⟩:=h
  rfl
 ·obtain⟨v,d,lo,hi,rfl,rd,k⟩:=h
  have nd:=Im.nd;refine⟨_,(aD (aU (iQ (pf kA hr (ai (pv 0) aq)) (jg (Tv yL yL (pv 1) (pv 0) (pv 2)))))),?_⟩;refine⟨_,Z,_,_,Z,rd.ty,_,Z,?_⟩;rcases jX d with⟨i,rfl,e⟩|⟨e,hn⟩
  ·cases rd.int_inv
   rw[e];refine aY ?_;have k:Q (.bl (decide (lo<=i)&&decide (i<=hi))) H:=k;refine⟨_,Z,_,Z,_,_,Z,Z,_,Z,?_⟩;refine eJ (λhc=>?_) (λhc=>?_)
   ·have gQ:decide (lo<=i)=true:=hc
    rw[gQ,j8]at k;exact⟨_,Z,_,_,Z,Z,k⟩
   ·have gQ:decide (lo<=i)=false:=nS.mpr hc
    rw[gQ,iG]at k;exact k
  ·rw[e]
   refine aQ ?_;rw[WV hn]at k;exact k
open Cn
theorem GH{ns ms:List Int}{i:Nat}{a b:Int}(h1:ns[i]? =some a)(h2:ms[i]? =some b):(cw ns ms)[i]? =some (a*(aE ms:Int)-b*(aE ns:Int)):=by unfold cw;rw[bN,(List.getElem?_zip_eq_some (z:=(a,b))).mpr ⟨h1,h2⟩];rfl
def wM(j:Int)(ns ms:List Int):af:=if aE (cw ns ms)=0 then .none else bL (Rat.divInt ((j*aE ns*aE ms)^2) ((aE (cw ns ms):Int)^2))
inductive a4f(K:a7)(vs:List V)(H:Hp)(Q:VK):Prop |mk (v:_)(v1:_)(v2:_)(rs:_)(r:_)(f:_)(j:_)(t:_)(ns:_)(ms:_)(cL:_)(cZ:_)(h0:vs=[v,v1,v2])(h1:RD K H v (dZ rs r f j t))(h2:RD K H v1 (fA ns cL))(h3:RD K H v2 (fA ms cZ))(h4:dP ns.length 1000 ns)(h5:dP ns.length 1000 ms)(h6:ns.length<=1000)(h7:1<=j)(h8:j<=50)(h9:∀v' H',RD K H' v' (wM j ns ms)->aA H H'->Q v' H')
def Bs(K:a7):Sp:=λvs H Q _=>a4f K vs H Q
theorem zip2{ns ms:List Int}(h:ms.length=ns.length){i:Nat}{x y:V}(ex:(ns.map V.int)[i]? =some x)(ey:(ms.map V.int)[i]? =some y):∃a b,ns[i]? =some a/\ms[i]? =some b/\x= .int a/\y= .int b:=by rw[bN]at ex ey;cases e1:ns[i]? with |none=>rw[e1]at ex;cases ex |some a=>cases e2:ms[i]? with |none=>rw[e2]at ey;cases ey |some b=>rw[e1]at ex;rw[e2]at ey;exact⟨a,b,Z,Z,(dv ex).symm,(dv ey).symm⟩
inductive a3p(K:a7)(vs:List V)(H:Hp)(Q:VK):Prop |mk (v1:_)(v2:_)(ns:_)(ms:_)(cL:_)(cZ:_)(h0:vs=[v1,v2])(h1:RD K H v1 (fA ns cL))(h2:RD K H v2 (fA ms cZ))(h3:dP ns.length 1000 ns)(h4:dP ns.length 1000 ms)(h5:ns.length<=1000)(h6:∀v' H',bj K H' v' (Rat.divInt (aE (cw ns ms)) ((aE ns:Int)*aE ms))->aA H H'->Q v' H')
def HF(K:a7):Sp:=λvs H Q _=>a3p K vs H Q
theorem Io:bo ["one","other","greatest","way","new_way","p","q","difference"] ["one","other"] (aZ BD):=bE aJ
theorem Ua(F:FA K mg "greatest_turn" BD)(B:bB mg)(LQ:ay P w K mg ao "ways_of" 4 (HD K))(XB:ay P w K mg ao "minus" 3 (qe (·-·) K))(nk:ay P w K mg ao "is_less" 1 (jJ K)):ay P w K mg ao "greatest_turn" 5 (HF K):=by
 refine F.has Io (λvs H Q E h=>?_) (λ_ _ _ _ _ _=>dn λ_ _=>rfl) (λf aH A outer s H vs Q E hr h=>?_)
 ·obtain⟨v1,v2,ns,ms,cL,cZ,rfl,_⟩:=h
  rfl
 ·obtain⟨v1,v2,ns,ms,cL,cZ,rfl,Dg,Df,dN,dF,hz,k⟩:=h
  have nd:=Io.nd;obtain⟨Wc,Wl⟩:=dN.lead;obtain⟨Wb,E6⟩:=dF.lead;have tM:ms.length<=1000:=by rw[dF.len];exact hz
  have Vo:dP ms.length 1000 ms:=⟨Z,dF.bd,dF.nz⟩;have cb:=zX (λz hz=>by have:=dN.bd z hz;lia) (λz hz=>by have:=dF.bd z hz;lia) (ns:=ns) (ms:=ms);have L0:(0:Int)<(aE ns:Int)*aE ms:=gb ak ak;have Lb:((aE ns:Int)*aE ms).natAbs<=1000*1000:=jj ak ak;have a64:(cw ns ms).length=ns.length:=by simp[cw,dF.len]
  have qO:∀c:Int,c.natAbs<=2000000->Bd 2000 (Rat.divInt c ((aE ns:Int)*aE ms)):=λc hc=>(qv (n:=30) ak ak ak).mono au;refine⟨_,(aB (pS 2 nd (cF (ai aw (ai aw aq)))) (aB (fh eE Z (mP K Z false false Z (B.at "zip") (ai (pf LQ hr (ai (pv 0) aq)) (ai (pf LQ hr (ai (pv 1) aq)) aq))) (cV K rfl (n:=2) rfl (bF (aX 3 nd) (bF (aX 4 nd) cU))) (aB (eG (pf XB hr (ai (pv 4) (ai (pv 3) aq))) (cV K Z (n:=2) Z (bF (aX 5 nd) (bF (aX 6 nd) cU)))) (aB (pS 7 nd (cF (ai (dk (x:="abs") mh Z (B.at "abs") nO (ai (pv 5) aq)) (ai (pv 6) aq)))) (aD (bD (bZ (pf nk hr (ai (pv 2) (ai (pv 7) aq)))) (aD (pS 2 nd (pv 7))) bH))))) (aD (aU (pv 2))))),?_⟩;refine⟨bA Z,λg0 H1 n1=>?_⟩;refine⟨_,Z,v1,ns,cL,Z,RD.mono n1.same _ Dg,dN,hz,λw1 H2 r2 s2=>?_⟩;have t2:=n1.same.trans s2;refine⟨_,Z,v2,ms,cZ,Z,RD.mono t2 _ Df,Vo,tM,λw2 H3 r3 s3=>?_⟩;have t3:=t2.trans s3;obtain⟨c1,xs1,rfl,h1,q1⟩:=(RD.mono s3 _ r2).bT;obtain⟨c2,xs2,rfl,h2,q2⟩:=r3.bT;have l1:=q1.length;have l2:=q2.length;rw[bu]at l1 l2;refine⟨c1,c2,Z,⟨_,h1⟩,⟨_,h2⟩,?_⟩;refine MD (K:=K) (b1:=false) (b2:=false) (xs:=xs1) (ys:=xs2) ns.length (by rw[l1,l2,dF.len];lia) (λi O H4=>aA H3 H4/\∃g u1 u2 u3 u4 u5,bj K H4 g (Rat.divInt (oU (cw ns ms) i) ((aE ns:Int)*aE ms))/\O=[some v1,some v2,some g,u1,u2,u3,u4,u5]) ?_ (λi O H4 _ h=>⟨h1.go h.1,h2.go h.1⟩) ?_ ?_
  ·refine⟨aA.refl _,.ref g0,none,none,none,none,none,⟨g0,Z,?_⟩,Z⟩
   have e0:Rat.divInt ((oU (cw ns ms) 0:Nat):Int) ((aE ns:Int)*aE ms)=0:=by show Rat.divInt 0 _=0;exact Rat.zero_divInt _
   rw[e0];exact aK.of (s3 _ _ (s2 _ _ n1.at'))
  ·rintro i x y O H4 ex ey ⟨s4,g,u1,u2,u3,u4,u5,rg,rfl⟩ T H5 n5
   obtain⟨d1,e1,rx⟩:=q1.get' i ex;obtain⟨d2,e2,ry⟩:=q2.get' i ey;obtain⟨a,ea,rfl⟩:=mV e1;obtain⟨b,eb,rfl⟩:=mV e2;have qa:=dN.bd a (fO ea);have qb:=dF.bd b (fO eb);have cz:=GH ea eb;have czb:=cb _ (fO cz);have t5:=s4.trans n5.same;refine⟨T,_,Z,aK.of n5.at',Z,_,_,Z,_,_,Z,Z,?_⟩;have fS:∀{H':Hp}{v:V}{r:Rat},RD K H' v (bL r)->bj K H' v r:=λ{H' v r} h=>by obtain⟨p,xs,rfl,h1,h2⟩:=h.bT;have:=h2.gP (ns:=[r.num,r.den]);subst this;exact⟨p,Z,h1⟩
   refine⟨_,Z,_,Z,y,x,_,_,Z,fS (RD.mono t5 _ ry),fS (RD.mono t5 _ rx),(qv (n:=30) ak ak ak).mono au,(qv (n:=30) ak ak ak).mono au,λv6 H6 r6 s6=>?_⟩;have ed:Rat.divInt b (aE ms)-Rat.divInt a (aE ns)=Rat.divInt (b*aE ns-a*aE ms) ((aE ns:Int)*aE ms):=QU ak ak;have r6:bj K H6 v6 (Rat.divInt b (aE ms)-Rat.divInt a (aE ns)):=r6;rw[ed]at r6;obtain⟨p6,rfl,h6⟩:=r6;refine⟨p6,_,Z,h6,Z,_,_,Z,_,_,Z,Z,?_⟩;refine⟨_,Z,_,Z,_,Z,bA Z,λdd H7 n7=>?_⟩;have kf:=s6.trans n7.same;have rD:bj K H7 (.ref dd) (Rat.divInt (((a*(aE ms:Int)-b*(aE ns:Int)).natAbs:Nat):Int) ((aE ns:Int)*aE ms)):=by
    have e:Rat.divInt (((a*(aE ms:Int)-b*(aE ns:Int)).natAbs:Nat):Int) ((aE ns:Int)*aE ms)=rJ (Rat.divInt (b*aE ns-a*aE ms) ((aE ns:Int)*aE ms)):=by rw[a2T L0,wY];congr 1;lia
    rw[e];refine⟨dd,Z,?_⟩;rw[a2S,a2U];exact aK.of n7.at'
   have rG:bj K H7 g _:=(rg.go n5.same).go kf;have hG:oU (cw ns ms) i<=2000000:=lM λz hz=>cb z (xE hz);refine⟨_,Z,_,Z,g,.ref dd,_,_,Z,rG,rD,qO _ ak,qO _ ak,_,Z,?_⟩;have hs:=Y8 cz;refine eJ (λhc=>?_) (λhc=>?_)
   ·have bG:=(Nm L0).mp (gW hc)
    refine⟨_,Z,?_⟩;refine⟨t5.trans kf,_,_,_,_,_,_,?_,Z⟩;rw[hs,Nat.max_eq_right ak];exact rD
   ·have Ya:¬_:=λz=>hc (cj ((Nm L0).mpr z))
    refine⟨t5.trans kf,_,_,_,_,_,_,?_,Z⟩;rw[hs,Nat.max_eq_left ak];exact rG
  ·rintro O H4 ⟨s4,g,u1,u2,u3,u4,u5,rg,rfl⟩
   refine⟨_,Z,k _ _ ?_ (t3.trans s4)⟩;have:oU (cw ns ms) ns.length=aE (cw ns ms):=by unfold oU;rw[rZ ak]
   rw[this]at rg;exact rg
theorem Jw:bo ["machine","one","other","jump","p","q"] ["machine","one","other"] (aZ CJ):=bE aJ
theorem Vd(F:FA K mg "corner_square" CJ)(B:bB mg)(Y9:ay P w K mg ao "greatest_turn" 5 (HF K))(w6:ay P w K mg ao "fraction" 3 (uX K)):ay P w K mg ao "corner_square" 6 (Bs K):=by
 refine F.has Jw (λvs H Q E h=>?_) (λ_ _ _ _ _ _=>j4 λ_ _ _=>rfl) (λf aH A outer s H vs Q E hr h=>?_)
 ·obtain⟨v,v1,v2,rs,r,f',j,t,ns,ms,cL,cZ,rfl,_⟩:=h
  rfl
 ·obtain⟨v,v1,v2,rs,r,f',j,t,ns,ms,cL,cZ,rfl,rd,Dg,Df,dN,dF,hz,j1,j2,k⟩:=h
  have nd:=Jw.nd;obtain⟨Wc,Wl⟩:=dN.lead;obtain⟨Wb,E6⟩:=dF.lead;have L0:(0:Int)<(aE ns:Int)*aE ms:=gb ak ak;have Lb:((aE ns:Int)*aE ms).natAbs<=1000*1000:=jj ak ak;have cb:=zX (λz hz=>by have:=dN.bd z hz;lia) (λz hz=>by have:=dF.bd z hz;lia) (ns:=ns) (ms:=ms);have hH:=lM cb;refine⟨_,(aB (pS 3 nd (px K (pv 0) aw)) (aB (eG (pf Y9 hr (ai (pv 1) (ai (pv 2) aq))) (cV K Z (n:=2) Z (bF (aX 4 nd) (bF (aX 5 nd) cU)))) (aB (bD (bQ (dH K Z hr.units) (pv 4) aw (bC _)) (aD (aU fi)) bH) (aD (aU (pf w6 hr (ai (aG bJ (aG bJ (aG bJ (pv 3) (pv 3)) (pv 5)) (pv 5)) (ai (aG bJ (pv 4) (pv 4)) aq)))))))),?_⟩;obtain⟨am,bm,rfl,fD,jO⟩:=km rd;refine⟨_,Z,.inr ⟨am,_,3,.int j,Z,Z,fD,Z,?_⟩⟩;refine⟨_,Z,_,Z,v1,v2,ns,ms,cL,cZ,Z,Dg,Df,dN,dF,hz,λv3 H3 r3 s3=>?_⟩;obtain⟨FT⟩:Nonempty (Bd 30 (Rat.divInt (aE (cw ns ms)) ((aE ns:Int)*aE ms))):=⟨qv (n:=30) ak ak ak⟩;have en:=xx (Rat.divInt (aE (cw ns ms)) ((aE ns:Int)*aE ms));obtain⟨R,hR⟩:∃R,Rat.divInt (aE (cw ns ms)) ((aE ns:Int)*aE ms)=R:=⟨_,Z⟩;rw[hR]at r3 FT en;have dp:=den_pos R;have wL:R.num*((aE ns:Int)*aE ms)=aE (cw ns ms)*R.den:=by rw[<-hR]at en;have:=(Rat.divInt_eq_divInt_iff (by rw[hR];lia) ak).mp en;rw[hR]at this;exact this
  have nb:=FT.num;have db:=FT.den;obtain⟨p3,rfl,h3⟩:=r3;refine⟨p3,_,Z,h3,Z,_,_,Z,_,_,Z,Z,?_⟩;refine⟨_,Z,.inl ⟨_,_,Z,Z,_,Z,?_⟩⟩;refine eJ (λhc=>?_) (λhc=>?_)
  ·have h0:R.num=0:=by simpa using hc
   have hl:aE (cw ns ms)=0:=by
    rw[h0,xG]at wL;rcases Int.mul_eq_zero.mp wL.symm with h|h
    ·lia
    ·lia
   refine k .bM H3 ?_ s3;unfold wM;rw[aR hl];exact vo
  ·have h0:R.num≠0:=by simpa using hc
   have hl:aE (cw ns ms)≠0:=by
    intro z;rw[z]at wL;have:R.num*((aE ns:Int)*aE ms)=0:=by rw[wL];exact xG _
    rcases Int.mul_eq_zero.mp this with h|h
    ·exact h0 h
    ·lia
   have m1:(j*j).natAbs<=50*50:=jj ak ak;have jr:(2:Nat)^64=18446744073709551616:=by decide
   refine⟨_,Z,_,Z,_,_,Z,Z,.of_left (ck ak ak),_,Z,_,_,Z,Z,.of_left (ck ak ak),_,Z,_,_,Z,Z,.of_right (ck ak ak),?_⟩;refine⟨_,Z,_,Z,_,_,Z,Z,.of_left (ck ak ak),?_⟩;refine⟨_,_,Z,GF h0 h0,?_,λv4 H4 r4 s4=>?_⟩
   ·refine gX (n:=60) ?_ au
    rw[g9];exact oG (n:=30) (m:=30) nb nb
   ·refine k _ _ ?_ (s3.trans s4)
    unfold wM;rw[aO hl];have e:=a1F (j:=j) (p:=R.num) (q:=R.den) (h:=aE (cw ns ms)) (L:=(aE ns:Int)*aE ms) h0 ak wL;rw[e,<-uG]at r4;exact r4.rd
def K4 (d:af):Bool:=gu 10 200 d
inductive a3G(K:a7)(vs:List V)(H:Hp)(Q:VK):Prop |mk (v:_)(d:_)(h0:vs=[v])(h1:RD K H v d)(h2:Q (.bl (K4 d)) H)
def Bf(K:a7):Sp:=λvs H Q _=>a3G K vs H Q
theorem Je:bo ["thing"] ["thing"] (aZ Ck):=bE aJ
theorem UU(F:FA K mg "is_rate" Ck)(B:bB mg)(YV:GV mg "LEAST_RATE" (.int 10))(YX:GV mg "GREATEST_RATE" (.int 200))(qK:ay P w K mg ao "is_whole_within" 2 (sJ K)):ay P w K mg ao "is_rate" 3 (Bf K):=by
 refine F.has Je (λvs H Q E h=>?_) (λ_ _ _ _ _ _=>gj λ_=>rfl) (λf aH A outer s H vs Q E hr h=>?_)
 ·obtain⟨v,d,rfl,_⟩:=h
  rfl
 ·obtain⟨v,d,rfl,rd,k⟩:=h
  have nd:=Je.nd;refine⟨_,(aD (aU (pf qK hr (ai (pv 0) (ai (cN (x:="LEAST_RATE") Z YV) (ai (cN (x:="GREATEST_RATE") Z YX) aq)))))),?_⟩;exact⟨_,Z,v,d,10,200,Z,rd,k⟩
inductive a3r(K:a7)(vs:List V)(H:Hp)(Q:VK):Prop |mk (v:_)(ns:_)(sp:_)(r:_)(h0:vs=[v,.int r])(h1:RD K H v (fA ns sp))(h2:1<=sp)(h3:sp<=20)(h4:10<=r)(h5:r<=200)(h6:∀v' H',bj K H' v' (Rat.divInt ((sp*r)^2) 10000)->aA H H'->Q v' H')
def sL(K:a7):Sp:=λvs H Q _=>a3r K vs H Q
theorem HB(a b:Int):a*a*b*b=(a*b)^2:=by rw[eZ,eZ,jW,jD];ac_rfl
theorem Sr{r:Int}(h1:10<=r)(h2:r<=200):K4 (.int r)=true:=by show(decide (10<=r)&&decide (r<=200))=true;rw[cj h1,cj h2];rfl
theorem Iq:bo ["line","rate","speed"] ["line","rate"] (aZ BF):=bE aJ
theorem Uc(F:FA K mg "top_square" BF)(B:bB mg)(XW:ay P w K mg ao "is_rate" 3 (Bf K))(w6:ay P w K mg ao "fraction" 3 (uX K)):ay P w K mg ao "top_square" 4 (sL K):=by
 refine F.has Iq (λvs H Q E h=>?_) (λ_ _ _ _ _ _=>dn λ_ _=>rfl) (λf aH A outer s H vs Q E hr h=>?_)
 ·obtain⟨v,ns,sp,r,rfl,_⟩:=h
  rfl
 ·obtain⟨v,ns,sp,r,rfl,rd,s1,s2,r1,r2,k⟩:=h
  have nd:=Iq.nd;refine⟨_,(aB (bD (cT (bZ (pf XW hr (ai (pv 1) aq)))) (aD Dv) bH) (aB (pS 2 nd (px K (pv 0) aw)) (aD (aU (pf w6 hr (ai (aG bJ (aG bJ (aG bJ (pv 2) (pv 2)) (pv 1)) (pv 1)) (ai (aG bJ aw aw) aq))))))),?_⟩;refine⟨_,Z,_,.int r,Z,cM r,_,Z,?_⟩;rw[Sr r1 r2];refine aQ ?_;obtain⟨a,b,rfl,ha,hb⟩:=kn rd;refine⟨_,Z,.inr ⟨a,_,2,.int sp,Z,Z,ha,Z,?_⟩⟩;have m1:(sp*sp).natAbs<=20*20:=by rw[g9];exact my ak ak
  refine⟨_,Z,_,Z,_,_,Z,Z,.of_left (ck ak ak),_,Z,_,_,Z,Z,.of_left (ck ak ak),_,Z,_,_,Z,Z,.of_right (ck ak ak),?_⟩;refine⟨_,_,Z,Z,.of_left (ck au au),?_⟩;refine⟨_,_,Z,au,gX (n:=20) au au,λv' H' r' s'=>k v' H' ?_ s'⟩;rw[HB]at r';exact r'
inductive a3q(K:a7)(vs:List V)(H:Hp)(Q:VK):Prop |mk (v:_)(ns:_)(sp:_)(r:_)(h0:vs=[v,.int r])(h1:RD K H v (fA ns sp))(h2:1<=sp)(h3:sp<=20)(h4:10<=r)(h5:r<=200)(h6:∀v' H',bj K H' v' (Rat.divInt ((sp*r)^2) 10000)->aA H H'->Q v' H')
def uW(K:a7):Sp:=λvs H Q _=>a3q K vs H Q
theorem Ip:bo ["_law_line_here","_law_rate"] ["_law_line_here","_law_rate"] (aZ BE):=bE aJ
open Pn
open Ow (topR cornO mnO betR atO ownF leadF ownL OkI OkIs)
theorem sP(n:Nat)(h:n<=1000):n<sizeLine:=nP h au
theorem fS{H:Hp}{v:V}{r:Rat}(h:RD K H v (bL r)):bj K H v r:=by obtain⟨p,xs,rfl,h1,h2⟩:=h.bT;have:=h2.gP (ns:=[r.num,r.den]);subst this;exact⟨p,Z,h1⟩
theorem dP.up{ax:Nat}{ns:List Int}(h:dP ax 100 ns):dP ns.length 1000 ns:=⟨Z,λz hz=>by have:=h.bd z hz;lia,h.nz⟩
theorem cn.oy{ax:Nat}{ds:List af}{os:List Itm}(h:cn ax ds os):OkIs os:=λi ns sp e=>by unfold atO at e;cases ho:os[i]? with |none=>rw[ho]at e;cases e |some o=>rw[ho]at e;have e':o=some (ns,sp):=e;subst e';obtain⟨a,b,c⟩:=h.ok i ns sp ho;exact⟨a.bd,b,c⟩
theorem DH{H:Hp}{a:Addr}(h:aK K H a [.int 0,.int 1]):bj K H (.ref a) 0:=⟨a,Z,h⟩
theorem a1H(j:Int)(ns ms:List Int):wM j ns ms=match cornO j ns ms with|none=>.none|some c=>bL c:=by unfold wM cornO;split<;>rfl
inductive a4i(K:a7)(vs:List V)(H:Hp)(Q:VK):Prop |mk (m:_)(v1:_)(v2:_)(rate:_)(rs:_)(r:_)(f:_)(j:_)(t:_)(d1:_)(d2:_)(o1:_)(o2:_)(ax:_)(h0:vs=[m,v1,v2,.int rate])(h1:RD K H m (dZ rs r f j t))(h2:1<=j)(h3:j<=50)(h4:RD K H v1 d1)(h5:RD K H v2 d2)(h6:itR d1 o1)(h7:itR d2 o2)(h8:(∀ns sp,o1=some (ns,sp)->dP ax 100 ns/\1<=sp/\sp<=20))(h9:(∀ns sp,o2=some (ns,sp)->dP ax 100 ns/\1<=sp/\sp<=20))(qS:ax<=100)(ER:10<=rate)(EO:rate<=200)(Zl:∀v H',bj K H' v (betR j rate o1 o2)->aA H H'->Q v H')
def Bu(K:a7):Sp:=λvs H Q _=>a4i K vs H Q
theorem JA:bo ["machine","one","other","rate","squares","corner"] ["machine","one","other","rate"] (aZ CO):=bE aJ
theorem Vh(F:FA K mg "bound_between" CO)(B:bB mg)(gN:GT K mg "NOUGHT" [.int 0,.int 1])(jP:ay P w K mg ao "is_line" 1 (nY K))(oP:ay P w K mg ao "top_square" 4 (sL K))(Ym:ay P w K mg ao "corner_square" 6 (Bs K))(qI:ay P w K mg ao "least" 2 (l7 K)):ay P w K mg ao "bound_between" 7 (Bu K):=by
 obtain⟨aN,nA,nX⟩:=gN;refine F.has JA (λvs H Q E h=>?_) (λ_ _ _ _ _ _=>rH λ_ _ _ _=>rfl) (λf aH A outer s H vs Q E hr h=>?_)
 ·obtain⟨m,v1,v2,rate,rs,r,f,j,t,d1,d2,o1,o2,ax,rfl,_⟩:=h
  rfl
 ·obtain⟨m,v1,v2,rate,rs,r,f,j,t,d1,d2,o1,o2,ax,rfl,rm,j1,j2,r1,r2,i1,i2,k1,k2,Mi,bP,bR,k⟩:=h
  have nd:=JA.nd;refine⟨_,(aB (bD (PW.pt (fT (cT (bZ (pf jP hr (ai (pv 1) aq)))) (je (cT (bZ (pf jP hr (ai (pv 2) aq))))))) (aD (aU (cN (x:="NOUGHT") Z nA))) bH) (aB (pS 4 nd (cI (ai (pf oP hr (ai (pv 1) (ai (pv 3) aq))) (ai (pf oP hr (ai (pv 2) (ai (pv 3) aq))) aq)))) (aB (pS 5 nd (pf Ym hr (ai (pv 0) (ai (pv 1) (ai (pv 2) aq))))) (aB (lu (bD (bQ mR (pv 5) fi (bC _)) (aD (fU (gY K Z (pv 4) (ai (pv 5) aq)))) bH)) (aD (aU (pf qI hr (ai (pv 4) aq)))))))),?_⟩;refine⟨_,Z,v1,d1,o1,Z,r1,i1,_,Z,?_⟩;cases o1 with |none=>refine aY (aY ?_);have:=k _ H (DH (nX H)) (aA.refl _);exact this |some q1=>obtain⟨ns,sp⟩:=q1;refine aQ ?_;refine⟨_,Z,v2,d2,o2,Z,r2,i2,_,Z,?_⟩;cases o2 with |none=>refine aY ?_;exact k _ H (DH (nX H)) (aA.refl _) |some q2=>obtain⟨ms,sq⟩:=q2;refine aQ ?_;have e1:=jm i1;have e2:=jm i2;subst e1 e2;obtain⟨dN,a1,a2⟩:=k1 ns sp rfl;obtain⟨dF,b1,b2⟩:=k2 ms sq rfl;refine⟨_,Z,_,Z,v1,ns,sp,rate,Z,r1,a1,a2,bP,bR,λt1 H1 D6 s1=>?_⟩;refine⟨_,Z,_,Z,v2,ms,sq,rate,Z,RD.mono s1 _ r2,b1,b2,bP,bR,λt2 H2 D5 s2=>?_⟩;refine⟨bA Z,λl H3 n3=>?_⟩;have t3:=s1.trans (s2.trans n3.same);have Vn:dP ns.length 1000 ms:=⟨by rw[dN.len,dF.len],dF.up.bd,dF.nz⟩;refine⟨_,Z,_,Z,_,Z,m,v1,v2,rs,r,f,j,t,ns,ms,sp,sq,Z,RD.mono t3 _ rm,RD.mono t3 _ r1,RD.mono t3 _ r2,dN.up,Vn,by rw[dN.len];lia,j1,j2,λc H4 rc s4=>?_⟩;have T1:Bd 2000 (topR rate sp):=(Ow.jG a1 a2 bP bR).mono au;have T2:Bd 2000 (topR rate sq):=(Ow.jG b1 b2 bP bR).mono au;have R1:bj K H4 t1 (topR rate sp):=((D6.go s2).go n3.same).go s4;have R2:bj K H4 t2 (topR rate sq):=(D5.go n3.same).go s4;have t4:=t3.trans s4;rw[a1H]at rc;cases hc:cornO j ns ms with
   |none=>
    rw[hc]at rc;cases rc.DI;refine⟨λO H5=>H5=H4/\O=[some m,some v1,some v2,some (.int rate),some (.ref l),some .bM],?_,?_⟩
    ·refine⟨_,Z,Z,_,Z,aQ ?_⟩
     exact⟨Z,Z⟩
    rintro O H5 ⟨rfl,rfl⟩;refine⟨_,Z,l,[t1,t2],[topR rate sp,topR rate sq],Z,aF.of (s4 _ _ n3.at'),⟨R1,T1,R2,T2,trivial⟩,by simp,λi v q e1 e2 hq=>?_⟩;have ku:betR j rate (some (ns,sp)) (some (ms,sq))=q:=by
     show mnO (mn _ _) (cornO j ns ms)=q;rw[hc];refine oH ?_ (hq _ (by simp)) (hq _ (by simp))
     match i,e2 with |0,e2=>cases e2;exact .inl rfl |1,e2=>cases e2;exact .inr rfl
    refine k v _ ?_ t4;rw[ku]
    match i,e1,e2 with |0,e1,e2=>cases e1;cases e2;exact R1 |1,e1,e2=>cases e1;cases e2;exact R2
   |some cq=>
    rw[hc]at rc;have Rc:bj K H4 c cq:=fS rc;have Tc:Bd 2000 cq:=(Ow.FC j1 j2 dN.bd dF.bd hc).mono au;have jw:=s4 _ _ n3.at';have tU:cR H4 (L2.upd H4 l (.lst ([t1,t2]++[c]))):=.fw jw;refine⟨λO H5=>H5=L2.upd H4 l (.lst ([t1,t2]++[c]))/\O=[some m,some v1,some v2,some (.int rate),some (.ref l),some c],?_,?_⟩
    ·obtain⟨pc,rfl,_⟩:=id Rc
     refine⟨_,Z,Z,_,Z,aY ?_⟩;refine⟨_,Z,.inl ⟨Z,_,aF.of jw⟩,_,Z,l,[t1,t2],_,Z,Z,jw,sP _ (Nat.le_of_ble_eq_true Z),?_⟩;exact⟨Z,Z⟩
    rintro O H5 ⟨rfl,rfl⟩;have up:∀{v:V}{q:Rat},bj K H4 v q->bj K (L2.upd H4 l (.lst ([t1,t2]++[c]))) v q:=λ{v q} h=>fS (RD.t tU _ (kg q) h.rd);refine⟨_,Z,l,[t1,t2,c],[topR rate sp,topR rate sq,cq],Z,aF.of bX,⟨up R1,T1,up R2,T2,up Rc,Tc,trivial⟩,by simp,λi v q e1 e2 hq=>?_⟩;have ku:betR j rate (some (ns,sp)) (some (ms,sq))=q:=by
     show mnO (mn _ _) (cornO j ns ms)=q;rw[hc];show mn (mn _ _) cq=q;have h1:=hq _ (show topR rate sp∈[topR rate sp,topR rate sq,cq] by simp);have h2:=hq _ (show topR rate sq∈[topR rate sp,topR rate sq,cq] by simp);have h3:=hq _ (show cq∈[topR rate sp,topR rate sq,cq] by simp);refine oH ?_ (mX h1 h2) h3
     match i,e2 with |0,e2=>cases e2;exact .inl (oH (.inl rfl) h1 h2).symm |1,e2=>cases e2;exact .inl (oH (.inr rfl) h1 h2).symm |2,e2=>cases e2;exact .inr rfl
    have sU:aA H (L2.upd H4 l (.lst ([t1,t2]++[c]))):=λb o e=>by have h0:H2 l=none:=n3.no;have e2:=s2 b o (s1 b o e);rw[bf (cC e2 h0)];exact t4 b o e
    refine k v _ ?_ sU;rw[ku]
    match i,e1,e2 with |0,e1,e2=>cases e1;cases e2;exact up R1 |1,e1,e2=>cases e1;cases e2;exact up R2 |2,e1,e2=>cases e1;cases e2;exact up Rc
theorem lI(qs:List Rat):cg (qs.map bL)=true:=KD kg qs
theorem aC.yi{H:Hp}{l:Addr}{ys:List V}{y:V}{ds:List af}{d:af}{i:Nat}(dl:H l=some (.lst ys))(r:aC K H ys ds)(rd:RD K H y d)(n1:cg ds=true)(n2:cQ d=true):aC K (L2.upd H l (.lst (ys.set i y))) (ys.set i y) (ds.set i d):=by have t:cR H (L2.upd H l (.lst (ys.set i y))):=.fw dl;have r':=aC.t t _ n1 r;have Dh:=RD.t t _ n2 rd;clear r rd dl t;generalize L2.upd H l (.lst (ys.set i y))=H' at r' Dh;induction ds generalizing ys i with |nil=>cases r'.nil_inv;exact cf |cons d0 ds ih=>
 obtain⟨y0,yr,rfl,h1,h2⟩:=r'.cons_inv;have VS:cg ds=true:=by rw[cg,eF]at n1;exact n1.2
 cases i with |zero=>exact bK Dh h2 |succ i=>exact bK h1 (ih VS h2)
theorem a1B(xs:List V):jT xs (some 1) none=xs.drop 1:=by unfold jT;have e:HT.bO xs.length 0 (some 1)=min 1 xs.length:=HT.Ci _ _ 1;rw[e,HT.JH];cases xs with |nil=>rfl |cons x xs=>
 have e2:min 1 (x::xs).length=1:=by simp
 rw[e2,rZ (by simp)]
inductive a3L(K:a7)(vs:List V)(H:Hp)(Q:VK):Prop |mk (m:_)(iv:_)(rate:_)(rs:_)(r:_)(f:_)(j:_)(t:_)(ds:_)(os:_)(h0:vs=[m,iv,.int rate])(h1:RD K H m (dZ rs r f j t))(h2:fb rs r f j t)(h3:RD K H iv (.tuple ds))(h4:cn rs.length ds os)(h5:ds.length<=100)(h6:10<=rate)(h7:rate<=200)(h8:∀l ys H',H l=none->H' l=some (.lst ys)->aC K H' ys ((ownL j rate os).map bL)->aA H H'->Q (.ref l) H')
def yd(K:a7):Sp:=λvs H Q _=>a3L K vs H Q
theorem IM:bo ["machine","items","rate","between"] ["machine","items","rate"] (aZ BZ):=bE aJ
theorem Uw(F:FA K mg "own_bounds" BZ)(B:bB mg)(gN:GT K mg "NOUGHT" [.int 0,.int 1])(Ys:ay P w K mg ao "bound_between" 7 (Bu K)):ay P w K mg ao "own_bounds" 8 (yd K):=by
 obtain⟨aN,nA,nX⟩:=gN;refine F.has IM (λvs H Q E h=>?_) (λ_ _ _ _ _ _=>j4 λ_ _ _=>rfl) (λf aH A outer s H vs Q E hr h=>?_)
 ·obtain⟨m,iv,rate,rs,r,f,j,t,ds,os,rfl,_⟩:=h
  rfl
 ·obtain⟨m,iv,rate,rs,r,f,j,t,ds,os,rfl,rm,aP,ri,row,hz,bP,bR,k⟩:=h
  have nd:=IM.nd;have rN:∀H',RD K H' (.ref aN) (bL 0):=λH'=>(DH (nX H')).rd;refine⟨_,(aB (bD (cT (SX K Z (pv 1))) (aD (aU (cI (ai (cN (x:="NOUGHT") Z nA) aq)))) bH) (aB (yE (i0:=3) nd Z (Or.inl Z) (N:=["one","other","machine","rate"]) (js:=[none,none,some 0,some 2]) Z Z Z (mP K Z false false Z (B.at "zip") (ai (pv 1) (ai (yI (yh K rfl) (pv 1) (td aw) yF) aq))) (λ_ _ _ _ _=>(cV K rfl (n:=2) rfl (bF (aX 0 (show List.Nodup (["one","other","machine","rate"]:List Str) by decide+kernel)) (bF (aX 1 (show List.Nodup (["one","other","machine","rate"]:List Str) by decide+kernel)) cU)))) (λ_ _ _ _ _=>f6) (λ_ _ _ _ _=>(pf Ys hr (ai (pv 2) (ai (pv 0) (ai (pv 1) (ai (pv 3) aq))))))) (aD (aU (aG (A0 K Z) (aG (A0 K Z) (cI (ai (cN (x:="NOUGHT") Z nA) aq)) (pv 3)) (cI (ai (cN (x:="NOUGHT") Z nA) aq))))))),?_⟩;obtain⟨ia,xs,rfl,hi,da⟩:=ri.bT;have lx:=da.length;have ll:=row.len;refine⟨_,Z,_,.inr (.inl ⟨_,hi,Z⟩),?_⟩;cases hd:xs with
  |nil=>
   subst hd;refine aY ?_;refine⟨bA Z,λl H1 n1=>?_⟩;refine k l [.ref aN] H1 n1.no n1.at' ?_ n1.same;have e:os=[]:=by
    have:os.length=0:=by rw[<-ll,<-lx];rfl
    exact Pf.mp this
   rw[e];exact bK (rN H1) cf |cons x0 xr=>
   refine aQ ?_;have fX:os≠[]:=by intro e;rw[e]at ll;rw[hd]at lx;simp at ll lx;rw[ll]at lx;cases lx
   have zq:0<xs.length:=by rw[hd];simp
   refine⟨_,Z,_,Z,1,Z,ia,xs,Z,.inr ⟨hi,?_,λtl H1 n1=>?_⟩⟩
   ·rintro⟨h1,_⟩
    have e:HT.bO xs.length 0 (some 1)=min 1 xs.length:=HT.Ci _ _ 1;rw[e]at h1
    lia
   refine⟨ia,tl,Z,⟨_,hi.go n1.same⟩,⟨_,aK.of n1.at'⟩,λD H2 n2=>?_⟩;have et:=n1.at';rw[a1B]at et;have Ky:∀(i:Nat)(o:Itm),os[i]? =some o->∀(ns:List Int)(sp:Int),o=some (ns,sp)->dP rs.length 100 ns/\1<=sp/\sp<=20:=λi o e ns sp e'=>row.ok i ns sp (by rw[e,e']);have lr:=aP.len;refine ug (K:=K) (b1:=false) (b2:=false) (xs:=xs) (ys:=xs.drop 1) (ds:=((List.range (os.length-1)).map (λi=>ownF j rate os (i+1))).map bL) _ Z (hi.go n1.same) (aK.of et) n2 (by rw[si];simp;lia) (by simp;lia) (lI _) ?_ ?_
   ·intro i x y d H3 Q' ex ey ed s3 hq
    have ic:=n1.same.trans s3;rw[List.getElem?_drop]at ey;obtain⟨d1,e1,r1⟩:=da.get' i ex;obtain⟨d2,e2,r2⟩:=da.get' (1+i) ey;obtain⟨o1,qV,i1⟩:=row.get e1;obtain⟨o2,pk,i2⟩:=row.get e2;have oW:1+i<os.length:=(cy.mp pk).1;have jv:d=bL (betR j rate o1 o2):=by rw[bN,bN,bw (by simp;lia),uB]at ed;have:=(dv ed).symm;rw[this];show bL (betR j rate (atO os i) (atO os (i+1)))=_;rw[Ow.rF qV,Ow.rF (show os[i+1]? =some o2 by rw[Nat.add_comm];exact pk)]
    subst jv;refine⟨_,Z,_,Z,_,Z,_,Z,m,x,y,rate,rs,r,f,j,t,d1,d2,o1,o2,rs.length,Z,RD.mono ic _ rm,aP.j1.1,aP.j1.2,RD.mono ic _ r1,RD.mono ic _ r2,i1,i2,Ky _ _ qV,Ky _ _ pk,ak,bP,bR,λv H4 rv s4=>?_⟩;exact hq _ _ s4 rv.rd
   ·intro H3 zs s3 d3 r3
    have lz:=r3.length;simp at lz;refine⟨bA Z,λl1 H4 n4=>?_⟩;refine⟨_,Z,l1,D,_,zs,Z,Z,aF.of n4.at',aF.of (n4.same _ _ d3),Bv _ (by simp;lia),λl2 H5 n5=>?_⟩;refine⟨bA Z,λl3 H6 n6=>?_⟩;refine⟨l2,l3,_,_,Z,Z,aF.of (n6.same _ _ n5.at'),aF.of n6.at',Bv _ (by simp;lia),λl H7 n7=>?_⟩;have mI:aA H H6:=n1.same.trans (s3.trans (n4.same.trans (n5.same.trans n6.same)));have nl:H l=none:=by cases e:H l with |none=>rfl |some o=>have:=mI _ _ e;rw[n7.no]at this;cases this
    refine k l _ H7 nl n7.at' ?_ (mI.trans n7.same);rw[Ow.TH j rate fX,i8,i8];exact((bK (rN H7) cf).append (aC.mono (n4.same.trans (n5.same.trans (n6.same.trans n7.same))) _ r3)).append (bK (rN H7) cf)
inductive a3K(K:a7)(vs:List V)(H:Hp)(Q:VK):Prop |mk (v:_)(r:_)(z:_)(h0:vs=[v,.int z])(h1:bj K H v r)(h2:Bd 2000 r)(h3:z.natAbs<2^24)(h4:∀v H',bj K H' v (r+(z:Rat))->aA H H'->Q v H')
def sM(K:a7):Sp:=λvs H Q _=>a3K K vs H Q
theorem xr_addz {r : Rat} {z : Int} (m : r + (z : Rat) = Rat.divInt (r.num * (1:Nat) + z * r.den) (r.den * (1:Nat))) : r.num + z * r.den = (r + (z : Rat)).num ∧ (r.den : Int) = (r + (z : Rat)).den := by
  have c : (r.num + z * r.den).natAbs.Coprime r.den := (Int.gcd_add_mul_right_left (r.den : Int) r.num z).trans r.reduced
  have e : r + (z : Rat) = ⟨r.num + z * r.den, r.den, r.den_nz, c⟩ := by
    rw [m, Rat.mk_eq_divInt, Int.natCast_one, Int.mul_one, Int.mul_one]
  rw [e]
  exact ⟨rfl, rfl⟩
theorem IL:bo ["one","more","p","q"] ["one","more"] (aZ BX):=bE aJ
theorem Us(F:FA K mg "plus_whole" BX)(B:bB mg):ay P w K mg ao "plus_whole" 4 (sM K):=by
 refine F.has IL (λvs H Q E h=>?_) (λ_ _ _ _ _ _=>dn λ_ _=>rfl) (λf aH A outer s H vs Q E hr h=>?_)
 ·obtain⟨v,r,z,rfl,_⟩:=h
  rfl
 ·obtain⟨v,r,z,rfl,rv,br,hz,k⟩:=h
  have nd:=IL.nd
  obtain ⟨p,rfl,hp⟩:=rv
  refine ⟨_,(aB (eG (pv 0) (cV K Z (n:=2) Z (bF (aX 2 nd) (bF (aX 3 nd) cU)))) (aD (aU (cF (ai (aG cm (pv 2) (aG bJ (pv 1) (pv 3))) (ai (pv 3) aq)))))),?_⟩
  refine ⟨_,rfl,_,_,rfl,hp,rfl,_,_,rfl,_,_,rfl,rfl,?_⟩
  have bz:Bd 24 (z:Rat):=⟨hz,by show 1<2^24;decide⟩
  obtain ⟨e1,e2⟩:=xr_addz (add_div r z)
  refine ⟨_,rfl,_,rfl,_,rfl,_,_,rfl,rfl,gG (bz.mono au).wn.bits br.wd.bits,_,_,rfl,rfl,_,rfl,bA Z,fun t H' n=>k _ _ ⟨t,rfl,aK.of ?_⟩ n.same⟩
  rw [← e1,← e2]; exact n.at'
theorem zi{os:List Itm}{i:Nat}{ns:List Int}{sp:Int}(h:os[i]? =some (some (ns,sp))):leadF os i=some (aE ns):=by unfold leadF;rw[Ow.rF h];rfl
theorem Lv{os:List Itm}{i:Nat}(h:os[i]? =some none):leadF os i=none:=by unfold leadF;rw[Ow.rF h];rfl
theorem vR{os:List Itm}(h:OkIs os){i m:Nat}(e:leadF os i=some m):m<=100:=by unfold leadF at e;cases ho:atO os i with |none=>rw[ho]at e;cases e |some q=>rw[ho]at e;cases e;obtain⟨a,_,_⟩:=h i q.1 q.2 ho;exact lM λz hz=>by have:=a z hz;lia
theorem uJ{r:Int}{m:Nat}(h1:1<=r)(h2:r<=50)(h3:m<=100):(2*r*(m:Int)).natAbs<2^24:=by
 have p8:(2:Nat)^24=16777216:=by decide
 have:=jj (a:=2*r) (b:=(m:Int)) (m:=100) (n:=100) ak ak;rw[p8];lia
inductive a3F(K:a7)(vs:List V)(H:Hp)(Q:VK):Prop |mk (m:_)(iv:_)(l:_)(ys:_)(rs:_)(r:_)(f:_)(j:_)(t:_)(ds:_)(os:_)(g:_)(h0:vs=[m,iv,.ref l])(h1:RD K H m (dZ rs r f j t))(h2:fb rs r f j t)(h3:RD K H iv (.tuple ds))(h4:cn rs.length ds os)(h5:ds.length<=30)(h6:H l=some (.lst ys))(h7:aC K H ys ((lst os.length g).map bL))(h8:(∀i,Bd 64 (g i)))(h9:∀l ys H',H l=none->H' l=some (.lst ys)->aC K H' ys ((lst os.length (Rz g (leadF os) (2*r))).map bL)->aA H H'->Q (.ref l) H')
def HN(K:a7):Sp:=λvs H Q _=>a3F K vs H Q
theorem IH:bo ["machine","items","squares","rise","kept","i","item"] ["machine","items","squares"] (aZ BS):=bE aJ
theorem Ur(F:FA K mg "kept_by_rise" BS)(B:bB mg)(jP:ay P w K mg ao "is_line" 1 (nY K))(jq:ay P w K mg ao "lead_of" 1 (iK K))(ky:ay P w K mg ao "plus_whole" 4 (sM K))(qI:ay P w K mg ao "least" 2 (l7 K)):ay P w K mg ao "kept_by_rise" 5 (HN K):=by
 refine F.has IH (λvs H Q E h=>?_) (λ_ _ _ _ _ _=>j4 λ_ _ _=>rfl) (λf aH A outer s H vs Q E hr h=>?_)
 · obtain⟨m,iv,l,ys,rs,r,f,j,t,ds,os,g,rfl,_⟩:=h
   rfl
 · obtain⟨m,iv,l,ys,rs,r,f,j,t,ds,os,g,rfl,rm,aP,ri,row,hz,dl,lj,bg,k⟩:=h
   have nd:=IH.nd;refine⟨_,(aB (pS 3 nd (px K (pv 0) aw)) (aB (pS 4 nd (fj (x:="list") (zd K Z) Z (B.at "list") nN (ai (pv 2) aq))) (aB (fh eE Z (tj K Z false Z (B.at "enumerate") (ai (pv 1) aq)) (cV K rfl (n:=2) rfl (bF (aX 5 nd) (bF (aX 6 nd) cU))) (aD (bD (bZ (pf jP hr (ai (pv 6) aq))) (aD (eG (pf qI hr (ai (cI (ai (px K (pv 4) (aG cm (pv 5) aw)) (ai (pf ky hr (ai (px K (pv 4) (pv 5)) (ai (aG bJ (aG bJ aw (pv 3)) (pf jq hr (ai (pv 6) aq))) aq))) aq))) aq)) (oq (pv 4) (aG cm (pv 5) aw) set_list))) bH))) (aD (aU (pv 4)))))),?_⟩;obtain⟨ma,mb,rfl,fD,jO⟩:=km rm;obtain⟨ia,xs,rfl,hi,da⟩:=ri.bT;have lx:=da.length;have ll:=row.len;have lr:=aP.len;have hL:∀i m,leadF os i=some m->(2*r*(m:Int)).natAbs<2^24:=λi m e=>uJ aP.r1.1 aP.r1.2 (vR row.oy e);have RB:∀i,i<=30->Bd 900 (Rz g (leadF os) (2*r) i):=λi hi=>(Ad bg hL i).mono aI;refine⟨_,Z,.inr ⟨ma,_,1,.int r,Z,Z,fD,Z,?_⟩⟩;refine⟨_,Z,l,ys,Z,.inl (aF.of dl),λD H1 n1=>?_⟩;refine⟨_,Z,ia,Z,⟨_,hi.go n1.same⟩,u6 (K:=K) (b:=false) (a:=ia) (xs:=xs) (λi O H2=>aA H H2/\∃zs v1 v2,H2 D=some (.lst zs)/\aC K H2 zs ((lst os.length λk=>if k<=i then Rz g (leadF os) (2*r) k else g k).map bL)/\O=[some (.ref ma),some (.ref ia),some (.ref l),some (.int r),some (.ref D),v1,v2]) ?_ (λi O H2 _ h=>hi.go h.1) ?_ ?_⟩
   · refine⟨n1.same,ys,none,none,n1.at',?_,Z⟩
     rw[tG (g:=λk=>if k<=0 then Rz g (leadF os) (2*r) k else g k) (g':=g)]
     ·exact aC.mono n1.same _ lj
     · intro k _
       show g k=if k<=0 then Rz g (leadF os) (2*r) k else g k;split
       · next h => have:k=0:=by omega
                   subst this;rfl
       ·rfl
   · rintro i y O H2 hy ⟨s2,zs,v1,v2,dz,rz,rfl⟩ T H3 n3
     have tN:i<xs.length:=(cy.mp hy).1;obtain⟨d,ed,rd⟩:=da.get' i hy;obtain⟨o,eo,it⟩:=row.get ed;have s3:=s2.trans n3.same;have lz:=rz.length;rw[bu,oJ]at lz;refine⟨T,_,Z,aK.of n3.at',Z,_,_,Z,_,_,Z,Z,?_⟩;refine⟨_,Z,y,d,o,Z,RD.mono s3 _ rd,it,_,Z,?_⟩;cases o with
     |none=>
       refine aQ ?_;refine⟨s3,zs,_,_,n3.same _ _ dz,?_,Z⟩;rw[tG (g:=λk=>if k<=i+1 then Rz g (leadF os) (2*r) k else g k) (g':=λk=>if k<=i then Rz g (leadF os) (2*r) k else g k)]
       ·exact aC.mono n3.same _ rz
       · intro k _
         show(if k<=i then Rz g (leadF os) (2*r) k else g k)=if k<=i+1 then Rz g (leadF os) (2*r) k else g k;by_cases h1:k<=i
         ·rw[aR h1,aR aI]
         · rw[aO h1]
           by_cases h2:k=i+1
           ·subst h2;rw[aR (ba _),G2 (Lv eo)]
           ·rw[aO aI] |some q=>
       obtain⟨ns,sp⟩:=q;refine aY ?_;have jv:=jm it;subst jv;obtain⟨bW,_,_⟩:=row.ok i ns sp eo;have Fs:=n3.same _ _ dz;have CZ:=aC.mono n3.same _ rz;obtain⟨z1,pg⟩:∃z,zs[i+1]? =some z:=⟨_,bw (show i+1<zs.length by omega)⟩;obtain⟨z0,iX⟩:∃z,zs[i]? =some z:=⟨_,bw (show i<zs.length by omega)⟩;have R1:bj K H3 z1 (g (i+1)):=by
        obtain⟨d1,e1,r1⟩:=CZ.get' (i+1) pg;rw[bN,mW _ (show i+1<=os.length by omega)]at e1;cases e1;have:¬(i+1<=i):=by omega
        simp only[aO this]at r1;exact fS r1
       have R0:bj K H3 z0 (Rz g (leadF os) (2*r) i):=by obtain⟨d1,e1,r1⟩:=CZ.get' i iX;rw[bN,mW _ (show i<=os.length by omega)]at e1;cases e1;simp only[aR (ba i)]at r1;exact fS r1
       have pC:((i:Int)+1).toNat=i+1:=by omega
       have ml:dI zs ((i:Int)+1)=some z1:=cK aI (by rw[pC];exact pg);have iZ:dI zs (i:Int)=some z0:=cK aI (by simpa using iX);refine⟨_,Z,_,Z,_,_,Z,Z,.inl ⟨D,_,_,_,Z,Z,aF.of Fs,ml,?_⟩⟩;refine⟨_,Z,_,Z,.inl ⟨D,_,_,_,Z,Z,aF.of Fs,iZ,?_⟩⟩;refine⟨_,Z,_,_,Z,Z,.of_left (ck au au),?_⟩;refine⟨_,Z,y,ns,sp,Z,RD.mono s3 _ rd,bW.ne,by rw[bW.len];omega,λH4 s4=>?_⟩;have jd:=aP.r1;refine⟨_,_,Z,Z,.of_left (ck aI aI),?_⟩;have us:=hL i _ (zi eo);refine⟨z0,_,_,Z,R0.go s4,(RB i aI).mono au,us,λu H5 ru s5=>?_⟩;refine⟨bA Z,λl2 H6 n6=>?_⟩;have mH:=s4.trans (s5.trans n6.same);have Oi:=R1.go mH;have Ru:=ru.go n6.same;have B1:Bd 2000 (g (i+1)):=(bg _).mono au;have B2:Bd 2000 (Rz g (leadF os) (2*r) i+((2*r*(aE ns:Int):Int):Rat)):=(i5 (RB i aI) us).mono au;refine⟨l2,[z1,u],[_,_],Z,aF.of n6.at',⟨Oi,B1,Ru,B2,trivial⟩,by simp,λc v q e1 e2 hq=>?_⟩;have ku:mn (g (i+1)) (Rz g (leadF os) (2*r) i+((2*r*(aE ns:Int):Int):Rat))=q:=by
        refine oH ?_ (hq _ (by simp)) (hq _ (by simp))
        match c,e2 with |0,e2=>cases e2;exact .inl rfl |1,e2=>cases e2;exact .inr rfl
       have Rv:bj K H6 v q:=by match c,e1,e2 with |0,e1,e2=>cases e1;cases e2;exact Oi |1,e1,e2=>cases e1;cases e2;exact Ru
       have pE:=mH _ _ Fs;have zl:gc zs.length ((i:Int)+1)=some (i+1):=by unfold gc;rw[aR aI,aR aI,pC]
       refine⟨_,Z,_,Z,_,_,Z,Z,D,zs,_,_,Z,Z,pE,zl,?_⟩;refine⟨λb o e=>?_,_,_,_,bX,?_,Z⟩
       ·rw[bf (cC e n1.no)];exact mH b o (s3 b o e)
       · have h:=aC.yi (i:=i+1) pE (aC.mono mH _ CZ) Rv.rd (lI _) (kg _)
         rw[<-uA]at h;have e:(lst os.length λk=>if k<=i then Rz g (leadF os) (2*r) k else g k).set (i+1) q=lst os.length λk=>if k<=i+1 then Rz g (leadF os) (2*r) k else g k:=by
          rw[<-Lh (g:=λk=>if k<=i then Rz g (leadF os) (2*r) k else g k) (g':=λk=>if k<=i+1 then Rz g (leadF os) (2*r) k else g k) (i:=i+1)]
          · simp only[aR (ba (i+1))]
            rw[G3 (zi eo),ku]
          · intro k _ hk
            show(if k<=i+1 then _ else _)=if k<=i then _ else _;by_cases h1:k<=i
            ·rw[aR h1,aR aI]
            ·rw[aO h1,aO aI]
         rw[e]at h;exact h
   · rintro O H2 ⟨s2,zs,v1,v2,dz,rz,rfl⟩
     rw[tG (g:=λk=>if k<=xs.length then Rz g (leadF os) (2*r) k else g k) (g':=Rz g (leadF os) (2*r)) (λk hk=>by show _=if k<=xs.length then _ else _;rw[aR aI])]at rz;exact⟨_,Z,k D zs H2 n1.no dz rz s2⟩
theorem Iz:bo ["_law_one","_law_other_here"] ["_law_one","_law_other_here"] (aZ BL):=bE aJ
theorem Uk(F:FA K mg "_law_sum" BL)(B:bB mg)(qQ:ay P w K mg ao "_law_frac" 1 (sN K)):ay P w K mg ao "_law_sum" 2 (qe (·+·) K):=by
 refine F.has Iz (λvs H Q E h=>?_) (λ_ _ _ _ _ _=>dn λ_ _=>rfl) (λf aH A outer s H vs Q E hr h=>?_)
 ·obtain⟨v1,v2,r,s,rfl,_⟩:=h
  rfl
 ·obtain⟨v1,v2,r,s,rfl,⟨p,rfl,hp⟩,⟨q,rfl,hq⟩,br,bs,k⟩:=h
  have nd:=Iz.nd;refine⟨_,(aD (aU (pf qQ hr (ai (aG cm (aG bJ (px K (pv 0) aw) (px K (pv 1) aw)) (aG bJ (px K (pv 1) aw) (px K (pv 0) aw))) (ai (aG bJ (px K (pv 0) aw) (px K (pv 1) aw)) aq))))),?_⟩;refine⟨_,Z,.inr ⟨p,_,0,.int r.num,Z,Z,hp,Z,_,Z,.inr ⟨q,_,1,.int s.den,Z,Z,hq,Z,_,_,Z,Z,gG br.wn.bits bs.wd.bits,?_⟩⟩⟩;refine⟨_,Z,.inr ⟨q,_,0,.int s.num,Z,Z,hq,Z,_,Z,.inr ⟨p,_,1,.int r.den,Z,Z,hp,Z,_,_,Z,Z,gG bs.wn.bits br.wd.bits,?_⟩⟩⟩;refine⟨_,_,Z,Z,?_⟩;refine⟨_,Z,.inr ⟨p,_,1,.int r.den,Z,Z,hp,Z,_,Z,.inr ⟨q,_,1,.int s.den,Z,Z,hq,Z,_,_,Z,Z,gG br.wd.bits bs.wd.bits,?_⟩⟩⟩;refine⟨_,_,Z,gb (den_pos r) (den_pos s),AU br bs,λv H' r' s'=>k v H' ?_ s'⟩;show bj K H' v (r+s);rw[add_div];exact r'
theorem J3:bo ["_law_one","_law_other_here"] ["_law_one","_law_other_here"] (aZ Ca):=bE aJ
theorem UM(F:FA K mg "_law_less" Ca)(B:bB mg):ay P w K mg ao "_law_less" 1 (jJ K):=by
 refine F.has J3 (λvs H Q E h=>?_) (λ_ _ _ _ _ _=>dn λ_ _=>rfl) (λf aH A outer s H vs Q E hr h=>?_)
 ·obtain⟨v1,v2,r,s,rfl,_⟩:=h
  rfl
 ·obtain⟨v1,v2,r,s,rfl,⟨p,rfl,hp⟩,⟨q,rfl,hq⟩,br,bs,k⟩:=h
  have nd:=J3.nd;refine⟨_,(aD (aU (fW ji (aG bJ (px K (pv 0) aw) (px K (pv 1) aw)) (aG bJ (px K (pv 1) aw) (px K (pv 0) aw)) (bC _)))),?_⟩;refine⟨_,Z,.inr ⟨p,_,0,.int r.num,Z,Z,hp,Z,_,Z,.inr ⟨q,_,1,.int s.den,Z,Z,hq,Z,_,_,Z,Z,gG br.wn.bits bs.wd.bits,?_⟩⟩⟩;refine⟨_,Z,.inr ⟨q,_,0,.int s.num,Z,Z,hq,Z,_,Z,.inr ⟨p,_,1,.int r.den,Z,Z,hp,Z,_,_,Z,Z,gG bs.wn.bits br.wd.bits,?_⟩⟩⟩;refine⟨_,_,Z,Z,?_⟩;have e:decide (r.num*(s.den:Int)<s.num*(r.den:Int))=decide (r<s):=by rw[pX,Ge,Ge,Rat.lt_iff]
  show Q (.bl (decide (r.num*(s.den:Int)<s.num*(r.den:Int)))) H;rw[e];exact k
theorem IV:bo ["_law_some","_law_best","_law_one"] ["_law_some"] (aZ C5):=bE aJ
theorem UC(F:FA K mg "_law_min" C5)(B:bB mg)(tR:ay P w K mg ao "_law_less" 1 (jJ K)):ay P w K mg ao "_law_min" 2 (l7 K):=by
 refine F.has IV (λvs H Q E h=>?_) (λ_ _ _ _ _ _=>gj λ_=>rfl) (λf aH A outer s H vs Q E hr h=>?_)
 ·obtain⟨l,xs,rs,rfl,_⟩:=h
  rfl
 ·obtain⟨l,xs,rs,rfl,hl,nj,fX,k⟩:=h
  have nd:=IV.nd;refine⟨_,(aB (pS 1 nd (px K (pv 0) aw)) (aB (fh eE Z (oo K Z (pv 0)) (aX 2 nd) (aD (bD (bZ (pf tR hr (ai (pv 2) (ai (pv 1) aq)))) (aD (pS 1 nd (pv 2))) bH))) (aD (aU (pv 1))))),?_⟩;have hlen:=nj.length;have h0:0<xs.length:=AJ.mpr fX;have e0:=bw h0;refine⟨_,Z,.inl ⟨l,xs,0,xs[0],Z,Z,hl,cK au e0,?_⟩⟩;refine⟨_,Z,l,Z,⟨_,hl⟩,zJ (K:=K) (a:=l) (xs:=xs) (λi O H2=>H2=H/\∃(j:Nat)(b:V)(r:Rat)(v:Option V),xs[j]? =some b/\rs[j]? =some r/\(∀(m:Nat)(s:Rat),m<i->rs[m]? =some s->r<=s)/\O=[some (.ref l),some b,v]) ?_ (λi O H2 _ h=>by rw[h.1];exact hl) ?_ ?_⟩
  ·obtain⟨r,e1,_⟩:=nj.get e0
   exact⟨Z,0,_,r,none,e0,e1,λm s hm=>absurd hm (AF _),Z⟩
  ·rintro i x O H2 hx ⟨rfl,j,b,r,v,eb,er,hm,rfl⟩
   obtain⟨t,et,rt,bt⟩:=nj.get hx;obtain⟨r2,wB,rb,bb⟩:=nj.get eb;rw[er]at wB;cases wB;refine⟨_,Z,_,Z,x,b,t,r,Z,rt,rb,bt,bb,_,Z,?_⟩;refine eJ (λhc=>?_) (λhc=>?_)
   ·have bG:t<r:=gW hc
    refine⟨_,Z,?_⟩;refine⟨Z,i,x,t,_,hx,et,λm s qG es=>?_,Z⟩;rcases Gr.mp qG with h|h
    ·exact pR (Ay bG) (hm m s h es)
    ·subst h
     rw[et]at es;cases es;exact pT
   ·have Ew:¬t<r:=λz=>hc (cj z)
    refine⟨Z,j,b,r,_,eb,er,λm s qG es=>?_,Z⟩;rcases Gr.mp qG with h|h
    ·exact hm m s h es
    ·subst h
     rw[et]at es;cases es;exact Ax.mp Ew
  ·rintro O H2 ⟨rfl,j,b,r,v,eb,er,hm,rfl⟩
   refine⟨_,Z,k j b r eb er λs hs=>?_⟩;obtain⟨m,EB,em⟩:=Pc.mp hs;exact hm m s ak (by rw[bw EB,em])
theorem Ub(F:FA K mg "_law_top" BE)(B:bB mg)(qQ:ay P w K mg ao "_law_frac" 1 (sN K)):ay P w K mg ao "_law_top" 2 (uW K):=by
 refine F.has Ip (λvs H Q E h=>?_) (λ_ _ _ _ _ _=>dn λ_ _=>rfl) (λf aH A outer s H vs Q E hr h=>?_)
 ·obtain⟨v,ns,sp,r,rfl,_⟩:=h
  rfl
 ·obtain⟨v,ns,sp,r,rfl,rd,s1,s2,r1,r2,k⟩:=h
  have nd:=Ip.nd;refine⟨_,(aD (aU (pf qQ hr (ai (aG bJ (aG bJ (aG bJ (px K (pv 0) aw) (px K (pv 0) aw)) (pv 1)) (pv 1)) (ai aw aq))))),?_⟩;obtain⟨a,b,rfl,ha,hb⟩:=kn rd;have m1:(sp*sp).natAbs<=20*20:=by rw[g9];exact my aI aI
  have m2:(sp*sp*r).natAbs<=400*200:=by rw[g9];exact my aI aI
  refine⟨_,Z,.inr ⟨a,_,2,.int sp,Z,Z,ha,Z,_,Z,.inr ⟨a,_,2,.int sp,Z,Z,ha,Z,_,_,Z,Z,.of_left (ck aI aI),?_⟩⟩⟩;refine⟨_,Z,_,_,Z,Z,.of_left (ck aI aI),_,Z,_,_,Z,Z,.of_left (ck aI aI),?_⟩;refine⟨_,_,Z,au,gX (n:=20) au au,λv' H' r' s'=>k v' H' ?_ s'⟩;rw[HB]at r';exact r'
def qx(r f:Int)(ld:Nat)(top b e:Rat)(k:Nat):Rat:=mn (mn (b+((r*(2*(1+(k:Int))-1):Int):Rat)) top) (e+((f*(2*((ld:Int)-(1+(k:Int)))+1):Int):Rat))
def DU(r f:Int)(ld:Nat)(top b e:Rat):List Rat:=(List.range ld).map (qx r f ld top b e)
theorem VV{x y z q:Rat}(h:q=x\/q=y\/q=z)(h1:q<=x)(h2:q<=y)(h3:q<=z):mn (mn x y) z=q:=by
 refine Rat.le_antisymm ?_ (mX (mX h1 h2) h3);rcases h with h|h|h
 ·rw[h];exact pR (yZ _ _) (yZ _ _)
 ·rw[h];exact pR (yZ _ _) (DS _ _)
 ·rw[h];exact DS _ _
theorem D8{r:Int}{k ld:Nat}(h1:1<=r)(h2:r<=50)(hk:k<ld)(hl:ld<=100):(r*(2*(1+(k:Int))-1)).natAbs<=50*200:=by rw[g9];exact my ak ak
theorem Fb{f:Int}{k ld:Nat}(h1:1<=f)(h2:f<=50)(hk:k<ld)(hl:ld<=100):(f*(2*((ld:Int)-(1+(k:Int)))+1)).natAbs<=50*201:=by rw[g9];exact my aI aI
theorem gq:(2:Nat)^24=16777216:=by decide
inductive a3Q(K:a7)(vs:List V)(H:Hp)(Q:VK):Prop |mk (m:_)(iv:_)(bv:_)(ev:_)(rate:_)(rs:_)(r:_)(f:_)(j:_)(t:_)(ns:_)(sp:_)(b:_)(e:_)(h0:vs=[m,iv,bv,ev,.int rate])(h1:RD K H m (dZ rs r f j t))(h2:fb rs r f j t)(h3:RD K H iv (fA ns sp))(h4:dP rs.length 100 ns)(h5:1<=sp)(h6:sp<=20)(h7:bj K H bv b)(h8:bj K H ev e)(h9:Bd 1800 b)(qS:Bd 1800 e)(ER:10<=rate)(EO:rate<=200)(Zl:∀l ys H',H l=none->H' l=some (.lst ys)->aC K H' ys ((DU r f (aE ns) (topR rate sp) b e).map bL)->aA H H'->Q (.ref l) H')
def Bi(K:a7):Sp:=λvs H Q _=>a3Q K vs H Q
theorem lN{n:Nat}{ns:List Int}(h:dP n 100 ns):aE ns<=100:=by have:=h.lead;lia
theorem Su{α:Type}(g:Nat->α)(i:Nat):(List.range (i+1)).map g=(List.range i).map g++[g i]:=by rw[Gw,i8];rfl
theorem IW:bo ["machine","line","begin","end","rate","rise","fall","top","lead","told","k","risen","falling"] ["machine","line","begin","end","rate"] (aZ C6):=bE aJ
theorem UD(F:FA K mg "middles" C6)(B:bB mg)(oP:ay P w K mg ao "top_square" 4 (sL K))(jq:ay P w K mg ao "lead_of" 1 (iK K))(ky:ay P w K mg ao "plus_whole" 4 (sM K))(qI:ay P w K mg ao "least" 2 (l7 K)):ay P w K mg ao "middles" 5 (Bi K):=by
 refine F.has IW (λvs H Q E h=>?_) (λ_ _ _ _ _ _=>FX λ_ _ _ _ _=>rfl) (λfa aH A outer s H vs Q E hr h=>?_)
 ·obtain⟨m,iv,bv,ev,rate,rs,r,f,j,t,ns,sp,b,e,rfl,_⟩:=h
  rfl
 ·obtain⟨m,iv,bv,ev,rate,rs,r,f,j,t,ns,sp,b,e,rfl,rm,aP,ri,bW,cL,cZ,Rb,Re,bb,be,bP,bR,k⟩:=h
  have nd:=IW.nd;refine⟨_,(aB (mL (i:=5) (j:=6) Z nd Z Z au Z Z (ai (px K (pv 0) aw) (ai (px K (pv 0) aw) aq)) Z) (aB (pS 7 nd (pf oP hr (ai (pv 1) (ai (pv 4) aq)))) (aB (pS 8 nd (pf jq hr (ai (pv 1) aq))) (aB (pS 9 nd (cI aq)) (aB (fh eE Z (Dy Z (B.at "range") (ai aw (ai (aG cm (pv 8) aw) aq))) (aX 10 nd) (aB (pS 11 nd (pf ky hr (ai (pv 2) (ai (aG bJ (pv 5) (aG gs (aG bJ aw (pv 10)) aw)) aq)))) (aB (pS 12 nd (pf ky hr (ai (pv 3) (ai (aG bJ (pv 6) (aG cm (aG bJ aw (aG gs (pv 8) (pv 10))) aw)) aq)))) (aD (fU (gY K Z (pv 9) (ai (pf qI hr (ai (cI (ai (pv 11) (ai (pv 7) (ai (pv 12) aq)))) aq)) aq))))))) (aD (aU (pv 9)))))))),?_⟩;obtain⟨ma,mb,rfl,fD,jO⟩:=km rm;have jd:=aP.r1;have jt:=aP.f1;have lr:=aP.len;have ko:=lN bW;refine⟨_,Z,.inr ⟨ma,_,1,.int r,Z,Z,fD,Z,_,Z,.inr ⟨ma,_,2,.int f,Z,Z,fD,Z,_,_,Z,?_⟩⟩⟩;refine⟨_,Z,_,Z,iv,ns,sp,rate,Z,ri,cL,cZ,bP,bR,λtv H1 Rt1 s1=>?_⟩;refine⟨_,Z,iv,ns,sp,Z,RD.mono s1 _ ri,bW.ne,by rw[bW.len];omega,λH2 s2=>?_⟩;refine⟨bA Z,λD H3 n3=>?_⟩;have ic:=s1.trans (s2.trans n3.same);have nD:H D=none:=by cases e:H D with |none=>rfl |some o=>have:=(s1.trans s2) _ _ e;rw[n3.no]at this;cases this
  refine⟨_,Z,_,_,Z,Z,_,_,Z,⟨aI,aI,aI,aI⟩,?_⟩;have eN:(((aE ns:Int)+1)-1).toNat=aE ns:=by omega
  rw[eN];have tb:Bd 2000 (topR rate sp):=(Ow.jG cL cZ bP bR).mono au;refine pe (Pv:=λi O H4=>aA H H4/\bj K H4 tv (topR rate sp)/\∃zs v1 v2 v3,H4 D=some (.lst zs)/\aC K H4 zs (((List.range i).map (qx r f (aE ns) (topR rate sp) b e)).map bL)/\O=[some (.ref ma),some iv,some bv,some ev,some (.int rate),some (.int r),some (.int f),some tv,some (.int (aE ns)),some (.ref D),v1,v2,v3]) ?_ ?_ ?_
  ·exact⟨ic,Rt1.go (s2.trans n3.same),[],none,none,none,n3.at',cf,Z⟩
  ·rintro i O H4 EF ⟨s4,Ae,zs,v1,v2,v3,dz,rz,rfl⟩
   have lz:=rz.length;rw[bu,bu,gF]at lz;have wj:=D8 jd.1 jd.2 EF ko;have oY:=Fb jt.1 jt.2 EF ko;refine⟨_,Z,_,Z,_,Z,_,_,Z,Z,.of_left (ck au au),_,_,Z,Z,_,_,Z,Z,.of_left (ck aI aI),?_⟩;refine⟨bv,b,_,Z,Rb.go s4,bb.mono au,(by rw[gq];omega),λu1 H5 ie s5=>?_⟩;refine⟨_,Z,_,Z,_,Z,_,Z,_,_,Z,Z,_,_,Z,Z,.of_left (ck au au),_,_,Z,Z,_,_,Z,Z,.of_left (ck aI aI),?_⟩;refine⟨ev,e,_,Z,Re.go (s4.trans s5),be.mono au,(by rw[gq];omega),λu2 H6 mJ s6=>?_⟩;have mG:=s5.trans s6;have pE:=mG _ _ dz;refine⟨_,Z,.inl ⟨Z,_,aF.of pE⟩,?_⟩;refine⟨_,Z,_,Z,_,Z,bA Z,λlq H7 n7=>?_⟩;have R1:=ie.go (s6.trans n7.same);have R2:=(Ae.go mG).go n7.same;have R3:=mJ.go n7.same;refine⟨lq,[u1,tv,u2],[_,_,_],Z,aF.of n7.at',⟨R1,(i5 bb (by rw[gq];omega)).mono au,R2,tb,R3,(i5 be (by rw[gq];omega)).mono au,trivial⟩,by simp,λc v q e1 e2 hq=>?_⟩;have ku:qx r f (aE ns) (topR rate sp) b e i=q:=by
    refine VV ?_ (hq _ (by simp)) (hq _ (by simp)) (hq _ (by simp))
    match c,e2 with |0,e2=>cases e2;exact .inl rfl |1,e2=>cases e2;exact .inr (.inl rfl) |2,e2=>cases e2;exact .inr (.inr rfl)
   have Rv:bj K H7 v q:=by match c,e1,e2 with |0,e1,e2=>cases e1;cases e2;exact R1 |1,e1,e2=>cases e1;cases e2;exact R2 |2,e1,e2=>cases e1;cases e2;exact R3
   have JJ:=mG.trans n7.same;have Fq:=n7.same _ _ pE;refine⟨D,zs,_,Z,Z,Fq,sP _ aI,?_⟩;have h8:=aC.qg Fq (aC.mono JJ _ rz) Rv.rd (lI _) (kg _);have Rt8:bj K (L2.upd H7 D (.lst (zs++[v]))) tv (topR rate sp):=by obtain⟨ta,rfl,ht⟩:=R2;exact⟨ta,Z,ht.t (.fw Fq)⟩
   refine⟨λb o e=>?_,Rt8,_,_,_,_,bX,?_,Z⟩
   ·rw[bf (cC e nD)];exact JJ b o (s4 b o e)
   ·rw[Su,i8,ku]
    exact h8
  ·rintro O H4 ⟨s4,Ae,zs,v1,v2,v3,dz,rz,rfl⟩
   exact⟨_,Z,k D zs H4 nD dz rz s4⟩
open Wk
def om(pl:List Int):af:=.tuple (pl.map PyData.int)
theorem yG(pl:List Int):cQ (om pl)=true:=by rw[om,cQ];exact jN pl
theorem Kh{H:Hp}{v:V}{pl:List Int}(h:RD K H v (om pl)):∃a,v= .ref a/\aK K H a (pl.map V.int):=by obtain⟨a,xs,rfl,h1,h2⟩:=h.bT;rw[h2.gP]at h1;exact⟨a,Z,h1⟩
theorem Kg{H:Hp}{a:Addr}{pl:List Int}(h:aK K H a (pl.map V.int)):RD K H (.ref a) (om pl):=dC h (sW pl)
def A4(pl:List Int):Itm->List Int |none=>pl |some (ns,_)=>nH pl ns
theorem aV.putL{p l:Addr}{H H1:Hp}{xs:List V}(b:aV p H H1)(hp:l≠p)(nl:H l=none):aV p H (L2.upd H1 l (.lst xs)):=by
 refine⟨?_,λc o n e=>?_⟩
 ·obtain⟨c',m',e,ok⟩:=b.aM
  exact⟨c',m',by rw[bf hp.symm];exact e,ok⟩
 ·rw[bf (cC e nl)];exact b.same c o n e
inductive a3J(K:a7)(vs:List V)(H:Hp)(Q:VK):Prop |mk (p:_)(m:_)(rs:_)(r:_)(f:_)(j:_)(t:_)(h0:vs=[.ref p,m])(h1:eQ H p)(h2:RD K H m (dZ rs r f j t))(h3:fb rs r f j t)(h4:∀v pl H',RD K H' v (om pl)->kN rs pl->aV p H H'->Q v H')
def HP(K:a7):Sp:=λvs H Q _=>a3J K vs H Q
theorem IK:bo ["_law_bag_here","_law_machine_here"] ["_law_bag_here","_law_machine_here"] (aZ BW):=bE aJ
theorem Uv(F:FA K mg "_law_place" BW)(B:bB mg)(cA:ay P w K mg ao "_law_take" 1 ka):ay P w K mg ao "_law_place" 2 (HP K):=by
 refine F.has IK (λvs H Q E h=>?_) (λ_ _ _ _ _ _=>dn λ_ _=>rfl) (λf aH A outer s H vs Q E hr h=>?_)
 ·obtain⟨p,m,rs,r,f,j,t,rfl,_⟩:=h
  rfl
 ·obtain⟨p,m,rs,r,f,j,t,rfl,bg,rm,lG,k⟩:=h
  have nd:=IK.nd;refine⟨_,(aD (aU (fj (x:="tuple") (j9 K Z) Z (B.at "tuple") fN (ai (fV (N:=["_law_rail","_law_bag_here"]) (js:=[none,some 0]) rfl rfl rfl (kh K rfl (px K (pv 1) aw)) (λ_ _ _ _ _=>(aX 0 (hJ au))) (λ_ _ _ _ _=>f6) (λ_ _ _ _ _=>(pf cA hr (ai (pv 1) (ai (aG cm (pv 0) aw) aq))))) aq)))),?_⟩;obtain⟨ma,mb,rfl,fD,jO⟩:=km rm;have lr:=lG.len;refine⟨_,Z,.inr ⟨ma,_,0,.ref mb,Z,Z,fD,cK (jE 0) Z,mb,Z,⟨_,jO⟩,λD H1 n1=>?_⟩⟩;refine Nz (K:=K) (J:=pM K mb) (p:=p) (H:=H) rs.length _ n1 bg ak (λi=>.int (rs.getD i 0)) (λi H2 hi b2=>?_) (λH2 b2=>?_) (λi d=>∃z r,d= .int z/\rs[i]? =some r/\0<=z/\z<=r) ?_ ?_
  ·have M1:=jO.t (aV.t bg b2)
   have e:(rs.map V.int)[i]? =some (.int (rs.getD i 0)):=by rw[bN,uD,bw hi];rfl
   exact⟨⟨_,_,M1,e⟩,λy H3 ⟨e3,y3⟩=>⟨e3,by have:=y3 _ M1;rw[e]at this;exact(dv this).symm⟩⟩
  ·exact⟨_,jO.t (aV.t bg b2),by rw[bu];exact ba _⟩
  ·intro i H2 Q' hi b2 hq
   have er:rs[i]? =some (rs.getD i 0):=by rw[uD,bw hi];rfl
   obtain⟨r0,r1⟩:=lG.rl _ (fO er);refine⟨_,Z,_,Z,_,_,Z,Z,p,_,Z,b2.aM,ak,ak,λz H3 z0 z1 b3=>?_⟩;exact hq _ _ _ ⟨z,_,Z,er,z0,ak⟩ Z (cM z) b3
  ·intro H2 ys ds b2 d2 r2 l2 nl pd
   have jQ:∃pl:List Int,ds=pl.map PyData.int/\kN rs pl:=by
    have key:∀(ds:List af),(∀d∈ds,∃z:Int,d= .int z)->∃pl:List Int,ds=pl.map PyData.int:=by intro ds;induction ds with |nil=>exact λ_=>⟨[],Z⟩ |cons d ds ih=>intro h;obtain⟨z,rfl⟩:=h d (.head _);obtain⟨pl,rfl⟩:=ih λx hx=>h x (.tail _ hx);exact⟨z::pl,Z⟩
    obtain⟨pl,rfl⟩:=key ds λd hd=>by obtain⟨i,hi⟩:=AH.mp hd;obtain⟨z,_,e,_⟩:=pd i d hi;exact⟨z,e⟩
    refine⟨pl,Z,by simpa using l2,λi x r e1 e2=>?_⟩;obtain⟨z,r',e,er,h0,h1⟩:=pd i (.int x) (by rw[bN,e1];rfl);cases e;rw[e2]at er;cases er;exact⟨h0,h1⟩
   obtain⟨pl,rfl,on⟩:=jQ;refine⟨D,_,Z,.inl ⟨aF.of d2,λt H3 n3=>?_⟩⟩;have et:=n3.at';rw[r2.gP]at et;exact k (.ref t) pl H3 (Kg (aK.of et)) on (b2.trans (.cW b2.aM n3.same))
inductive a3U(K:a7)(vs:List V)(H:Hp)(Q:VK):Prop |mk (p:_)(m:_)(rs:_)(r:_)(f:_)(j:_)(t:_)(x:_)(pl:_)(mo:_)(h0:vs=[.ref p,m,x,.int mo])(h1:eQ H p)(h2:RD K H m (dZ rs r f j t))(h3:fb rs r f j t)(h4:RD K H x (om pl))(h5:kN rs pl)(h6:1<=mo)(h7:mo<=100)(h8:∀v ns sp H',RD K H' v (fA ns sp)->dP rs.length 100 ns->1<=sp->sp<=20->kN rs (nH pl ns)->aV p H H'->Q v H')
def Bk(K:a7):Sp:=λvs H Q _=>a3U K vs H Q
def kL(rs pl is:List Int)(mo:Int):Prop:=∀(j:Nat)(z a r:Int),is[j]? =some z->pl[j]? =some a->rs[j]? =some r->0<=a+z/\a+z<=r/\(z.natAbs:Int)<=mo
theorem kL.on{rs pl is:List Int}{mo:Int}(h:kL rs pl is mo)(lp:pl.length=rs.length)(ls:is.length=pl.length):kN rs (nH pl is):=by
 refine⟨by rw[Aa ls];exact lp,?_⟩;intro j x r ej m7;have hj:j<pl.length:=by have:=(cy.mp ej).1;rw[Aa ls]at this;exact this
 have N5:=Of (bw hj) (bw (show j<is.length by lia));rw[ej]at N5;have ej3:=dv N5;have:=h j _ _ r (bw (show j<is.length by lia)) (bw hj) m7
 lia
theorem kL.bd{rs pl is:List Int}{mo:Int}(h:kL rs pl is mo)(lp:pl.length=rs.length)(ls:is.length=pl.length):∀z∈is,(z.natAbs:Int)<=mo:=λz iS=>by obtain⟨j,hj⟩:=AH.mp iS;have M5:=(cy.mp hj).1;exact(h j z _ _ hj (bw (show j<pl.length by lia)) (bw (show j<rs.length by lia))).2.2
theorem kL.snoc{rs pl is:List Int}{mo z a r:Int}(h:kL rs pl is mo)(ea:pl[is.length]? =some a)(er:rs[is.length]? =some r)(hz:0<=a+z/\a+z<=r/\(z.natAbs:Int)<=mo):kL rs pl (is++[z]) mo:=by
 intro j z' a' r' ej kJ m7;by_cases hj:j<is.length
 ·rw[pV hj]at ej
  exact h j z' a' r' ej kJ m7
 ·have qJ:j=is.length:=by
   have:=(cy.mp ej).1;rw[cD]at this;have:j<is.length+1:=this
   lia
  rw[qJ,nQ (ba _),AE]at ej;cases ej;rw[qJ]at kJ m7;rw[ea]at kJ;rw[er]at m7;cases kJ;cases m7;exact hz
theorem kL.set{rs pl is:List Int}{mo z a r:Int}{i:Nat}(h:kL rs pl is mo)(ea:pl[i]? =some a)(er:rs[i]? =some r)(hz:0<=a+z/\a+z<=r/\(z.natAbs:Int)<=mo):kL rs pl (is.set i z) mo:=by
 intro j z' a' r' ej kJ m7;by_cases hj:j=i
 ·subst hj
  rw[ea]at kJ;rw[er]at m7;cases kJ;cases m7;have hl:j<is.length:=by have:=(cy.mp ej).1;rwa [sf]at this
  rw[xF hl]at ej;cases ej;exact hz
 ·rw[GB (iD hj)]at ej
  exact h j z' a' r' ej kJ m7
theorem IZ:bo ["_law_bag_here","_law_machine_here","_law_place_here","_law_most","_law_steps","_law_flat","_law_axis","_law_stand_here","_law_low","_law_high"] ["_law_bag_here","_law_machine_here","_law_place_here","_law_most"] (aZ C8):=bE aJ
theorem UJ(F:FA K mg "_law_line" C8)(B:bB mg)(cA:ay P w K mg ao "_law_take" 1 ka):ay P w K mg ao "_law_line" 2 (Bk K):=by
 refine F.has IZ (λvs H Q E h=>?_) (λ_ _ _ _ _ _=>rH λ_ _ _ _=>rfl) (λfa aH A outer s H vs Q E hr h=>?_)
 ·obtain⟨p,m,rs,r,f,j,t,x,pl,mo,rfl,_⟩:=h
  rfl
 ·obtain⟨p,m,rs,r,f,j,t,x,pl,mo,rfl,bg,rm,lG,rx,on,L9,L8,k⟩:=h
  have nd:=IZ.nd;refine⟨_,(aB (pS 4 nd (cI aq)) (aB (pS 5 nd (pf cA hr (ai (pv 0) (ai aw aq)))) (aB (fh eE Z (tj K Z false Z (B.at "enumerate") (ai (pv 2) aq)) (cV K rfl (n:=2) rfl (bF (aX 6 nd) (bF (aX 7 nd) cU))) (aB (pS 8 nd (dk (x:="max") (a26 Z) Z (B.at "max") Gp (ai aw (ai (aG gs (pv 7) (pv 3)) aq)))) (aB (pS 9 nd (dk (x:="min") (FG Z) Z (B.at "min") P5 (ai (px K (px K (pv 1) aw) (pv 6)) (ai (aG cm (pv 7) (pv 3)) aq)))) (aB (fU (gY K Z (pv 4) (ai (aG gs (aG cm (pv 8) (pf cA hr (ai (pv 0) (ai (aG cm (aG gs (pv 9) (pv 8)) aw) aq)))) (pv 7)) aq))) (aD (bD (bQ (dH K Z hr.units) (pv 5) (pv 6) (bC _)) (aD (eG aw (oq (pv 4) (pv 6) set_list))) bH)))))) (aB (lu (bD (cT (bZ (dk (x:="any") (a2F K Z Z) Z (B.at "any") P7 (ai (pv 4) aq)))) (aB (pS 6 nd (pf cA hr (ai (pv 0) (ai (eH K B (ai (pv 4) aq)) aq)))) (aD (eG (aG gs aw (aG bJ aw (fj (x:="int") wO Z (B.at "int") rX (ai (fW lC (px K (pv 2) (pv 6)) aw (bC _)) aq)))) (oq (pv 4) (pv 6) set_list)))) bH)) (aD (aU (cF (ai dY (ai (fj (x:="tuple") (j9 K Z) Z (B.at "tuple") fN (ai (pv 4) aq)) (ai (aG cm aw (pf cA hr (ai (pv 0) (ai aw aq)))) aq)))))))))),?_⟩;have lr:=lG.len;have lp:=on.len;obtain⟨ma,mb,rfl,fD,jO⟩:=km rm;obtain⟨xa,rfl,Ei⟩:=Kh rx;refine⟨bA Z,λl H1 n1=>?_⟩;have b1:aV p H H1:=.cW bg n1.same;have tI:l≠p:=λz=>bg.ne (z▸n1.no);refine⟨_,Z,p,4,Z,b1.aM,au,au,λfl H2 f0 f1 b2=>?_⟩;have kK:=b1.trans b2;have QR:=aV.t bg kK;refine⟨_,Z,xa,Z,⟨_,Ei.t QR⟩,u6 (K:=K) (b:=false) (a:=xa) (xs:=pl.map V.int) (λi O H3=>aV p H H3/\∃(is:List Int)(v1 v2 v3 v4:Option V),H3 l=some (.lst (is.map V.int))/\is.length=i/\kL rs pl is mo/\O=[some (.ref p),some (.ref ma),some (.ref xa),some (.int mo),some (.ref l),some (.int fl),v1,v2,v3,v4]) ?_ (λi O H3 _ h=>Ei.t (aV.t bg h.1)) ?_ ?_⟩
  ·exact⟨kK,[],none,none,none,none,b2.same _ _ tI n1.at',Z,λj z a r e=>by simp at e,Z⟩
  ·rintro i y O H3 hy ⟨b3,is,v1,v2,v3,v4,dl,li,hz,rfl⟩ T H4 n4
   rw[bN]at hy;obtain⟨a,ea,rfl⟩:=xB.mp hy;have M6:i<pl.length:=(cy.mp ea).1;obtain⟨rl,er⟩:∃rl,rs[i]? =some rl:=⟨_,bw (show i<rs.length by lia)⟩;obtain⟨a0,a1⟩:=on.at' i a rl ea er;obtain⟨r0,r1⟩:=lG.rl rl (fO er);have b4:aV p H H4:=b3.trans (.cW b3.aM n4.same);have t4:=aV.t bg b4;have jw:=n4.same _ _ dl;have atr:dI (rs.map V.int) (i:Int)=some (.int rl):=cK ak (by rw[bN];simp[er]);refine⟨T,_,Z,aK.of n4.at',Z,_,_,Z,_,_,Z,Z,?_⟩;refine⟨_,Z,_,Z,_,_,Z,Z,_,_,Z,?_⟩;obtain⟨low,a1k,lo0,lo1,lo2⟩:∃low:Int,(if a-mo>0 then a-mo else 0)=low/\0<=low/\a-mo<=low/\low<=a:=⟨_,Z,by split<;>lia,by split<;>lia,by split<;>lia⟩;rw[a1k];refine⟨_,Z,.inr ⟨ma,_,0,.ref mb,Z,Z,fD.t t4,Z,_,Z,.inr ⟨mb,_,_,.int rl,Z,Z,jO.t t4,atr,_,Z,_,Z,_,_,Z,Z,_,_,Z,?_⟩⟩⟩;obtain⟨hi,qW,hi0,zy,oW⟩:∃hi:Int,(if a+mo<rl then a+mo else rl)=hi/\a<=hi/\hi<=rl/\hi<=a+mo:=⟨_,Z,by split<;>lia,by split<;>lia,by split<;>lia⟩;rw[qW];refine⟨_,Z,.inl ⟨Z,_,aF.of jw⟩,?_⟩;refine⟨_,Z,_,Z,_,Z,_,Z,_,_,Z,Z,_,_,Z,Z,p,hi-low+1,Z,b4.aM,ak,ak,λd H5 d0 d1 b5=>?_⟩;refine⟨_,_,Z,Z,_,Z,_,_,Z,Z,l,_,_,Z,Z,b5.same _ _ tI jw,?_,?_⟩
   ·rw[bu,li]
    have:(1000:Nat)<sizeLine:=by decide
    lia
   have b6:aV p H (L2.upd H5 l (.lst (is.map V.int++[.int (low+d-a)]))):=(b4.trans b5).putL tI n1.no;have e6:(L2.upd H5 l (.lst (is.map V.int++[.int (low+d-a)]))) l=some (.lst ((is++[low+d-a]).map V.int)):=by rw[bX,i8];rfl
   generalize L2.upd H5 l (.lst (is.map V.int++[.int (low+d-a)]))=H6 at b6 e6⊢;rw[<-li]at ea er;have Hx:=hz.snoc ea er (z:=low+d-a) ak;refine⟨_,Z,_,Z,.inl ⟨_,_,Z,Z,_,Z,?_⟩⟩;refine eJ (λhc=>?_) (λhc=>?_)
   ·have ix:gc ((is++[low+d-a]).map V.int).length (i:Int)=some i:=by unfold gc;rw[aR ak,aR (by rw[bu,cD];show(i:Int)<((is.length+1:Nat):Int);lia)];simp
    refine⟨_,Z,_,Z,l,_,_,_,Z,Z,e6,ix,?_⟩;refine⟨b6.putL tI n1.no,(is++[low+d-a]).set i 0,_,_,_,_,by rw[bX,uA],by rw[sf,cD,li];rfl,?_,Z⟩;rw[li]at ea er;exact Hx.set ea er ak
   ·exact⟨b6,is++[low+d-a],_,_,_,_,e6,by rw[cD,li];rfl,Hx,Z⟩
  ·rintro O H3 ⟨b3,is,v1,v2,v3,v4,dl,li,hz,rfl⟩
   rw[bu]at li;have t3:=aV.t bg b3;refine⟨λO H4=>aV p H H4/\∃(is:List Int)(v1:Option V),H4 l=some (.lst (is.map V.int))/\dP rs.length 100 is/\kN rs (nH pl is)/\O=[some (.ref p),some (.ref ma),some (.ref xa),some (.int mo),some (.ref l),some (.int fl),v1,v2,v3,v4],?_,?_⟩
   ·refine⟨_,Z,l,is,Z,.inl (aF.of dl),_,Z,?_⟩
    cases ha:is.any (· !=0)with |false=>
     refine aY ?_;refine⟨_,Z,_,Z,l,_,Z,.inl (aF.of dl),p,_,Z,b3.aM,(by rw[bu];lia),(by rw[bu];lia),λax H4 a0 a1 b4=>?_⟩;rw[bu]at a1;have O0:=b3.trans b4;have Mi:ax.toNat<pl.length:=by lia
     have ea:=bw Mi;have er:=bw (show ax.toNat<rs.length by lia);obtain⟨q0,q1⟩:=on.at' _ _ _ ea er;obtain⟨r0,r1⟩:=lG.rl _ (fO er);have O6:dI (pl.map V.int) ax=some (.int pl[ax.toNat]):=cK a0 (by rw[bN,ea];rfl);generalize pl[ax.toNat]=qa at ea q0 q1 O6;generalize rs[ax.toNat]=qr at er q1 r0 r1;refine⟨_,Z,_,Z,.inr ⟨xa,_,_,_,Z,Z,Ei.t (aV.t bg O0),O6,?_⟩⟩;refine⟨_,_,Z,Z,.inr ⟨_,Z,?_⟩⟩;refine⟨_,_,Z,Z,.of_left (ck au au),_,_,Z,Z,?_⟩;obtain⟨y,ey,y1,y2,y3⟩:∃y:Int,(1-2*(if decide (qa>0)=true then 1 else 0):Int)=y/\y.natAbs=1/\0<=qa+y/\qa+y<=qr:=by
      by_cases h:qa>0
      ·rw[cj h];exact⟨-1,Z,Z,ak,ak⟩
      ·rw[cY h];exact⟨1,Z,Z,ak,ak⟩
     have jw:=b4.same _ _ tI dl;have ix:gc (is.map V.int).length ax=some ax.toNat:=by unfold gc;rw[aR a0,aR (by rw[bu];lia)]
     refine⟨_,Z,_,Z,l,_,_,_,Z,Z,jw,ix,?_⟩;have st:=hz.set (i:=ax.toNat) ea er (z:=y) ak;have ls:(is.set ax.toNat y).length=pl.length:=by rw[sf];lia
     refine⟨O0.putL tI n1.no,is.set ax.toNat y,_,?_,⟨ak,λz iS=>?_,?_⟩,st.on lp ls,Z⟩
     ·rw[bX,<-uA]
      simp only[ey]
     ·have:=st.bd lp ls z iS;lia
     ·exact⟨y,Pc.mpr ⟨ax.toNat,by rw[sf];lia,by rw[List.getElem_set_self]⟩,ak⟩ |true=>
     refine aQ ?_;have ls:is.length=pl.length:=by lia
     refine⟨b3,is,_,dl,⟨ak,λz iS=>?_,?_⟩,hz.on lp ls,Z⟩
     ·have:=hz.bd lp ls z iS;lia
     ·obtain⟨z,iS,h0⟩:=uF.mp ha
      exact⟨z,iS,by simpa using h0⟩
   rintro O H4 ⟨b4,is,v1,dl,ok,yM,rfl⟩;refine⟨_,Z,l,_,Z,.inl ⟨aF.of dl,λq H5 n5=>?_⟩⟩;have b5:aV p H H5:=b4.trans (.cW b4.aM n5.same);have qp:q≠p:=λe=>b4.aM.ne (e▸n5.no);refine⟨_,Z,p,20,Z,b5.aM,au,au,λsp H6 p0 p1 b6=>?_⟩;refine⟨_,_,Z,Z,bA Z,λt H7 n7=>?_⟩;have b7:=b5.trans (b6.trans (.cW b6.aM n7.same));exact k (.ref t) is (1+sp) H7 (dC (aK.of n7.at') (bK (cE _) (bK (dC (aK.of (n7.same _ _ (b6.same _ _ qp n5.at'))) (sW is)) (bK (cM _) cf)))) ok ak ak yM b7
def f9(z:Str):Prop:=∀c∈z.cps.toList,c<0x110000
theorem f9.app{a b:Str}(ha:f9 a)(hb:f9 b):f9 (a++b):=λc hc=>by rw[OW,Px,jC]at hc;exact hc.elim (ha c) (hb c)
theorem f9.joined{sep:Str}(hs:f9 sep):∀l:List Str,(∀a∈l,f9 a)->f9 (PySem.Str.join sep l) |[],_=>λc hc=>by simp[PySem.Str.join,PySem.Str.empty]at hc |[x],h=>h x (.head _) |x::y::r,h=>((h x (.head _)).app hs).app (f9.joined hs (y::r) λa ha=>h a (.tail _ ha))
theorem f9.join{sep:Str}{l:List Str}(hs:f9 sep)(h:∀a∈l,f9 a):f9 (Txt.join sep l):=by show f9 (Builtin.Str.glued sep l);rw[StrLaws.glued_eq_join];exact f9.joined hs l h
theorem U6{n:Nat}{z:Str}(h:f9 z):bU n (.str z):=⟨by show PyData.strOk z=true;unfold PyData.strOk;rw[a58];exact λc hc=>cj (h c (by simpa using hc)),dS _⟩
theorem U4{n:Nat}{z:Str}(h:bU n (.str z)):f9 z:=λc hc=>by have q:PyData.strOk z=true:=h.lay;unfold PyData.strOk at q;rw[a58]at q;exact gW (q c (by simpa using hc))
theorem Kx{z:Str}(h:z.cps.all (·<0x110000)=true):f9 z:=U4 (n:=0) ⟨h,dS _⟩
theorem Hs:∀(ds:List af),(∀d∈ds,∃z:Str,d= .str z/\z.length=1/\f9 z/\z.cps.toList.all (λc=>decide (97<=c)&&decide (c<=122))=true)->∃zs:List Str,ds=zs.map PyData.str/\∀z∈zs,z.length=1/\f9 z/\z.cps.toList.all (λc=>decide (97<=c)&&decide (c<=122))=true |[],_=>⟨[],Z,λ_ h=>nomatch h⟩ |d::ds,h=>by obtain⟨z,rfl,e⟩:=h d (.head _);obtain⟨zs,rfl,q⟩:=Hs ds λx hx=>h x (.tail _ hx);exact⟨z::zs,Z,λy hy=>by
 rcases dj.mp hy with rfl|hy
 ·exact e
 ·exact q y hy⟩
theorem a2V:f9 i6:=Kx aJ
def DY(c:Nat):Bool:=decide (97<=c)&&decide (c<=122)
def vK(s:Str):Bool:=(decide (1<=s.length)&&decide (s.length<=8))&&s.cps.toList.all DY
def Ku(w s:Str):Prop:=(w="tool"/\(s="up"\/s="down"))\/(w="mark"/\vK s=true)
def fY(d:af):Prop:=(∃n,d= .tuple [.str "wait",.int n]/\1<=n/\n<=1000)\/∃w s,d= .tuple [.str w,.str s]/\(w="tool"\/w="mark")/\bU 0 (.str s)/\Ku w s
theorem Mr:∀l:List Str,(PySem.Str.join ("":Str) l).cps.toList=(l.map λz=>z.cps.toList).flatten
 |[]=>by simp[PySem.Str.join,PySem.Str.empty] |[x]=>by simp[PySem.Str.join] |x::y::r=>by
  show((x++("":Str))++PySem.Str.join ("":Str) (y::r)).cps.toList=_;rw[OW,OW,Px,Px,Mr (y::r)];have:(("":Str)).cps.toList=[]:=by decide+kernel
  rw[this];simp
theorem VR{l:List Str}(h1:1<=l.length)(h8:l.length<=8)(h:∀z∈l,z.length=1/\z.cps.toList.all DY=true):vK (Txt.join ("":Str) l)=true:=by
 have e:(Txt.join ("":Str) l).cps.toList=(l.map λz=>z.cps.toList).flatten:=by show(Builtin.Str.glued ("":Str) l).cps.toList=_;rw[StrLaws.glued_eq_join];exact Mr l
 have el:(Txt.join ("":Str) l).length=l.length:=by
  show(Txt.join ("":Str) l).cps.size=_;rw[<-xJ,e,List.length_flatten,List.map_map];have:∀(l:List Str),(∀z∈l,z.length=1/\z.cps.toList.all DY=true)->(l.map (List.length∘λz=>z.cps.toList)).sum=l.length:=by intro l;induction l with |nil=>intro _;rfl |cons a r ih=>
   intro h;rw[GA,List.sum_cons,ih λz hz=>h z (.tail _ hz),mB];have:=(h a (.head _)).1;have e2:(List.length∘λz:Str=>z.cps.toList) a=1:=by show a.cps.toList.length=1;rw[xJ];exact this
   rw[e2,Nat.add_comm]
  exact this l h
 unfold vK;rw[el,e,cj h1,cj h8,j8,j8,fJ];intro c hc;obtain⟨cs,jR,iW⟩:=List.mem_flatten.mp hc;obtain⟨z,hz,rfl⟩:=fu.mp jR;exact fJ.mp (h z hz).2 c iW
theorem fY.it{d:af}(h:fY d):itR d none:=by
 rcases h with⟨n,rfl,_⟩|⟨w,s,rfl,hw|hw,_⟩
 ·exact .inr ⟨_,_,Z,.inl Z,Z,Z⟩
 ·exact .inr ⟨_,_,Z,.inr (.inl hw),Z,Z⟩
 ·exact .inr ⟨_,_,Z,.inr (.inr hw),Z,Z⟩
inductive a3M(K:a7)(vs:List V)(H:Hp)(Q:VK):Prop |mk (p:Addr)(h0:vs=[.ref p])(h1:eQ H p)(h2:∀v d H',RD K H' v d->fY d->aV p H H'->Q v H')
def HQ(K:a7):Sp:=λvs H Q _=>a3M K vs H Q
theorem Ux(F:FA K mg "_law_other" C0)(B:bB mg)(cA:ay P w K mg ao "_law_take" 1 ka):ay P w K mg ao "_law_other" 2 (HQ K):=by
 refine F.has IP (λvs H Q E h=>?_) (λ_ _ _ _ _ _=>gj λ_=>rfl) (λf aH A outer s H vs Q E hr h=>?_)
 ·obtain⟨p,rfl,_⟩:=h
  rfl
 ·obtain⟨p,rfl,bg,k⟩:=h
  have nd:=IP.nd;refine⟨_,(aB (pS 1 nd (pf cA hr (ai (pv 0) (ai aw aq)))) (aB (bD (bQ (dH K Z hr.units) (pv 1) aw (bC _)) (aD (aU (cF (ai dY (ai (aG cm aw (pf cA hr (ai (pv 0) (ai (px K (cI (ai aw (ai aw aq))) (pf cA hr (ai (pv 0) (ai aw aq)))) aq)))) aq))))) bH) (aB (bD (bQ (dH K Z hr.units) (pv 1) aw (bC _)) (aD (aU (cF (ai dY (ai (px K (cI (ai dY (ai dY aq))) (pf cA hr (ai (pv 0) (ai aw aq)))) aq))))) bH) (aB (pS 2 nd dY) (aD (aU (cF (ai dY (ai (Tx K Z dY (ai (fV (N:=["_law_turn","_law_letters","_law_bag_here"]) (js:=[none,some 2,some 0]) Z Z Z (lA Z (B.at "range") (ai (aG cm aw (pf cA hr (ai (pv 0) (ai aw aq)))) aq)) (λ_ _ _ _ _=>(aX 0 (show List.Nodup (["_law_turn","_law_letters","_law_bag_here"]:List Str) by decide+kernel))) (λ_ _ _ _ _=>f6) (λ_ _ _ _ _=>(Kj WH (pv 1) (pf cA hr (ai (pv 2) (ai aw aq))) (λ_ _=>rfl)))) aq)) aq))))))))),?_⟩;refine⟨_,Z,p,3,Z,bg,au,au,λso H1 s0 s1 b1=>?_⟩;refine⟨_,Z,.inl ⟨_,_,Z,Z,_,Z,?_⟩⟩;refine eJ (λhc=>?_) (λhc=>?_)
  ·refine⟨_,Z,bA Z,λc H2' DR=>?_⟩
   have O1:aV p H1 H2':=.cW b1.aM DR.same;have cp:c≠p:=λz=>b1.aM.ne (z▸DR.no);refine⟨_,Z,p,2,Z,O1.aM,au,au,λi H3' i0 i1 FU=>?_⟩;have hi:∃z:Int,dI ([.int 1000,.int 2]:List V) i=some (.int z)/\2<=z/\z<=1000:=by
    rcases(show i=0\/i=1 by lia)with rfl|rfl
    ·exact⟨1000,Z,au,au⟩
    ·exact⟨2,Z,au,au⟩
   obtain⟨z,ez,z2,a59⟩:=hi;refine .inl ⟨c,_,_,_,Z,Z,aF.of (FU.same _ _ cp DR.at'),ez,?_⟩;refine⟨p,z,Z,FU.aM,ak,ak,λn H2 n0 n1 a2w=>?_⟩;have b2:=O1.trans (FU.trans a2w);refine⟨_,_,Z,Z,bA Z,λt H3 n3=>?_⟩;exact k (.ref t) _ H3 (dC (aK.of n3.at') (bK (cE _) (bK (cM _) cf))) (.inl ⟨_,Z,ak,ak⟩) (b1.trans (b2.trans (.cW b2.aM n3.same)))
  refine⟨_,Z,.inl ⟨_,_,Z,Z,_,Z,?_⟩⟩;refine eJ (λhc=>?_) (λhc=>?_)
  ·refine⟨bA Z,λc H2 n2=>?_⟩
   have b2:aV p H1 H2:=.cW b1.aM n2.same;have cp:c≠p:=λz=>b1.aM.ne (z▸n2.no);refine⟨_,Z,p,2,Z,b2.aM,au,au,λi H3 i0 i1 b3=>?_⟩;have hi:∃z:Str,dI ([.str "up",.str "down"]:List V) i=some (.str z)/\bU 0 (.str z)/\Ku "tool" z:=by
    rcases(show i=0\/i=1 by lia)with rfl|rfl
    ·exact⟨"up",Z,⟨aJ,aJ⟩,.inl ⟨Z,.inl Z⟩⟩
    ·exact⟨"down",Z,⟨aJ,aJ⟩,.inl ⟨Z,.inr Z⟩⟩
   obtain⟨z,ez,U3,U2⟩:=hi;refine .inl ⟨c,_,_,_,Z,Z,aF.of (b3.same _ _ cp n2.at'),ez,bA Z,λt H4 n4=>?_⟩;exact k (.ref t) _ H4 (dC (aK.of n4.at') (bK (cE _) (bK (cE _) cf))) (.inr ⟨_,_,Z,.inl Z,U3,U2⟩) (b1.trans (b2.trans (b3.trans (.cW b3.aM n4.same))))
  refine⟨Z,?_⟩;refine⟨_,Z,p,8,Z,b1.aM,au,au,λn H2 n0 n1 b2=>?_⟩;refine⟨_,_,Z,Z,_,Z,ak,ak,λD H3 nD=>?_⟩;refine Nz (K:=K) (J:=mr 0 (1+n).toNat) (p:=p) (H:=H2) (1+n).toNat _ nD b2.aM ak (λi=>.int (0+(i:Int))) (λi H3 hi _=>⟨hi,λy H4 ⟨e,q⟩=>⟨e,q⟩⟩) (λH3 _=>ba _) (λ_ d=>∃z:Str,d= .str z/\z.length=1/\f9 z/\z.cps.toList.all (λc=>decide (97<=c)&&decide (c<=122))=true) ?_ ?_
  ·intro i H3 Q' hi b3 hq
   refine⟨_,Z,_,Z,p,26,Z,b3.aM,au,au,λd H4 d0 d1 b4=>?_⟩;have hd:d.toNat<i6.cps.toList.length:=by rw[a2X];lia
   refine⟨i6,d,i6.cps.toList[d.toNat],Z,Z,aJ,cK d0 (bw hd),?_⟩;have dN:f9 ⟨#[i6.cps.toList[d.toNat]]⟩:=λc hc=>by have gQ:c=i6.cps.toList[d.toNat]:=mz.mp hc;rw[gQ];exact a2V _ (uC hd)
   have dF:(⟨#[i6.cps.toList[d.toNat]]⟩:Str).cps.toList.all (λc=>decide (97<=c)&&decide (c<=122))=true:=by have:=fJ.mp (show i6.cps.toList.all (λc=>decide (97<=c)&&decide (c<=122))=true by decide+kernel) _ (uC hd);show([i6.cps.toList[d.toNat]]:List Nat).all _=true;rw[AM,List.all_nil,Bool.and_true];exact this
   exact hq _ _ _ ⟨_,Z,Z,dN,dF⟩ Z (cE _) b4
  ·intro H3 ys ds b3 d3 r3 l3 nl pd
   obtain⟨zs,rfl,hz⟩:=Hs ds λd hd=>by obtain⟨i,hi⟩:=AH.mp hd;exact pd i d hi
   rw[Hr r3]at d3;rw[bu]at l3;refine⟨"",D,zs,Z,Z,aF.of d3,λz iS=>by rw[(hz z iS).1];decide,au,ak,bA Z,λt H4 n4=>?_⟩;exact k (.ref t) _ H4 (dC (aK.of n4.at') (bK (cE _) (bK (cE _) cf))) (.inr ⟨_,_,Z,.inr Z,U6 (f9.join (Kx aJ) λa ha=>(hz a ha).2.1),.inr ⟨Z,VR ak ak λz iS=>⟨(hz z iS).1,(hz z iS).2.2⟩⟩⟩) (b1.trans (b2.trans (b3.trans (.cW b3.aM n4.same))))
open Ow (Itm)
theorem W2{H:Hp}{v:V}{rs:List Int}{es:List af}(h:RD K H v (.tuple (.tuple (rs.map PyData.int)::es))):∃a b ys,v= .ref a/\aK K H a (.ref b::ys)/\aK K H b (rs.map V.int):=by obtain⟨a,xs,rfl,h1,h2⟩:=h.bT;obtain⟨x1,r1,rfl,e1,h2⟩:=h2.cons_inv;obtain⟨b,ys,rfl,h3,h4⟩:=e1.bT;rw[h4.gP]at h3;exact⟨a,b,r1,Z,h1,h3⟩
def eK(z:Str):af->Bool | .str x=>x==z |_=>false
theorem m8(z:Str)(d:af):PyData.eqv d (.str z)=eK z d:=by cases d<;>simp[PyData.eqv,eK]
theorem MT(z:Str)(d:af):PyData.eqv (.str z) d=eK z d:=by cases d<;>simp[PyData.eqv,eK];rw[pX];simp;exact eq_comm
theorem LH{z:Str}{d:af}(h:eK z d=true):d= .str z:=by cases d<;>simp[eK]at h;rw[h]
theorem Ht(d:af):(∃z,d= .str z)\/(eR (dM d) "str"=false/\∀z,d≠ .str z):=by cases d with |str z=>exact .inl ⟨z,Z⟩ |_=>exact .inr ⟨by simp[dM];decide,λ_ z=>nomatch z⟩
theorem GX:eR "str" "str"=true:=by decide
def Eg(d:af):Bool:=eK "up" d||eK "down" d
def tD(c:Nat):Bool:=decide (97<=c)&&decide (c<=122)
def isNm:af->Bool | .str x=>(decide (1<=x.length)&&decide (x.length<=8))&&x.cps.toList.all tD |_=>false
def mZ(wd v:af):Bool:=if eK "wait" wd then gu 1 1000 v else if eK "tool" wd then Eg v else eK "mark" wd&&isNm v
def vC:af->Bool | .int i=>i !=0 |_=>true
def qt(n:Nat):af->Bool | .tuple ds=>(ds.length==n&&ds.all (gu (-100) 100))&&ds.any vC |_=>false
def lO(n:Nat):af->Bool | .tuple [wd,a,b]=>eK "line" wd&&(qt n a&&gu 1 20 b) | .tuple [wd,v]=>mZ wd v |_=>false
def lg:af->Bool | .str x=>decide (x.length<=900) |_=>true
def vc:af->Bool | .tuple ds=>ds.all lg |_=>true
inductive a3o(f:af->Bool)(K:a7)(vs:List V)(H:Hp)(Q:VK):Prop |mk (v:_)(d:_)(h0:vs=[v])(h1:RD K H v d)(h2:lg d=true)(h3:∀H',aA H H'->Q (.bl (f d)) H')
def HE(f:af->Bool)(K:a7):Sp:=λvs H Q _=>a3o f K vs H Q
theorem RF{z:Str}(h:lg (.str z)=true):z.length<=900:=gW h
theorem KW(n:Nat):decide ((1:Int)<=(n:Int))=decide (1<=n):=by rw[pX];simp;omega
theorem VP(n:Nat):decide ((n:Int)<=8)=decide (n<=8):=by rw[pX];simp;omega
theorem a2J{l:List Nat}{f:Nat->Bool}:(l.map f).all id=l.all f:=by rw[List.all_map];rfl
theorem a2W:∀c<128,decide (c∈i6.cps.toList)=tD c:=by decide+kernel
theorem a2Z:∀c∈i6.cps.toList,c<128:=by decide+kernel
theorem a2Y(c:Nat):decide (c∈i6.cps.toList)=tD c:=by
 by_cases h:c<128
 ·exact a2W c h
 ·rw[cY (λhc=>h (a2Z c hc)),tD,cY (show¬c<=122 by omega),AR]
theorem Ji:bo ["thing"] ["thing"] (aZ Cq):=bE aJ
theorem UY(F:FA K mg "is_name" Cq)(B:bB mg)(YT:GV mg "LONGEST_NAME" (.int 8))(YU:GV mg "LETTERS" (.str i6)):ay P w K mg ao "is_name" 1 (HE isNm K):=by
 refine F.has Ji (λvs H Q E h=>?_) (λ_ _ _ _ _ _=>gj λ_=>rfl) (λf aH A outer s H vs Q E hr h=>?_)
 ·obtain⟨v,d,rfl,_⟩:=h
  rfl
 ·obtain⟨v,d,rfl,rd,sh,k⟩:=h
  have nd:=Ji.nd;refine⟨_,(aB (bD (PW.pt (fT (cT (bZ (fk K B (ai (pv 0) (ai (eU (x:="str") (v:=.ty "str") Z (B.at "str") P4 rfl) aq))))) (je (cT (SY yL yL aw (dk (x:="len") a28 rfl (B.at "len") PySem.boot_len (ai (pv 0) aq)) (cN (x:="LONGEST_NAME") rfl YT)))))) (aD (aU iP)) bH) (aD (aU (dk (x:="all") (wX K Z Z) Z (B.at "all") AB (ai (fV (N:=["letter"]) (js:=[none]) rfl rfl rfl (Th (pv 0)) (λ_ _ _ _ _=>(aX 0 (oF _))) (λ_ _ _ _ _=>f6) (λ_ _ _ _ _=>(fW TY (pv 0) (cN (x:="LETTERS") rfl YU) (by with_unfolding_all rfl)))) aq))))),?_⟩;rcases Ht d with⟨z,rfl⟩|⟨ht,hn⟩
  ·refine⟨_,Z,.inl ⟨_,_,"str",true,Z,rd.ty,au,GX,_,Z,aQ ?_⟩⟩
   cases rd.str_inv;have hl:=RF sh;have k:∀H',aA H H'->Q (.bl ((decide (1<=z.length)&&decide (z.length<=8))&&z.cps.toList.all tD)) H':=k;refine⟨_,Z,z,Z,fe hl au,_,_,Z,Z,_,Z,?_⟩;refine eJ (λh1=>?_) (λh1=>?_)
   ·rw[<-KW,show decide ((1:Int)<=(z.length:Int))=true from h1,j8]at k
    refine⟨_,_,Z,Z,_,Z,?_⟩;rw[VP];cases e8:decide (z.length<=8)with |false=>rw[e8,iG]at k;exact aY (k H (aA.refl _)) |true=>
     rw[e8,j8]at k;refine aQ ⟨_,Z,z,Z,λD H0 nw=>?_⟩;refine a1L (f:=tD) [] nw ak (λc H2 Q' hc s2 hq=>?_) (λH2 s2 d2=>?_)
     ·refine⟨_,Z,c,i6,Z,Z,?_⟩
      rw[a2Y];exact hq _ (aA.refl _)
     ·refine⟨D,_,Z,aF.of d2,?_⟩
      rw[a2J];exact k H2 s2
   ·rw[<-KW,show decide ((1:Int)<=(z.length:Int))=false from nS.mpr h1,iG,iG]at k
    exact⟨_,Z,aY (k H (aA.refl _))⟩
  ·have e:isNm d=false:=by cases d<;>first|rfl|exact absurd rfl (hn _)
   rw[e]at k;refine⟨_,Z,.inl ⟨_,_,"str",false,Z,rd.ty,au,ht,_,Z,aY ?_⟩⟩;exact k H (aA.refl _)
inductive a3A(K:a7)(vs:List V)(H:Hp)(Q:VK):Prop |mk (x:_)(v:_)(wd:_)(d:_)(h0:vs=[x,v])(h1:RD K H x wd)(h2:RD K H v d)(h3:bU 8 wd)(h4:bU 8 d)(h5:lg d=true)(h6:∀H',aA H H'->Q (.bl (mZ wd d)) H')
def HK(K:a7):Sp:=λvs H Q _=>a3A K vs H Q
theorem gI{d:af}(h:bU 8 d):SeqAt.shaped d=true:=h.shaped au
theorem Jh:bo ["word","value"] ["word","value"] (aZ Cp):=bE aJ
theorem UX(F:FA K mg "is_short_item" Cp)(B:bB mg)(YS:GV mg "LONGEST_WAIT" (.int 1000))(gS:GT K mg "SIDES" [.str "up",.str "down"])(qK:ay P w K mg ao "is_whole_within" 2 (sJ K))(XX:ay P w K mg ao "is_name" 1 (HE isNm K)):ay P w K mg ao "is_short_item" 3 (HK K):=by
 refine F.has Jh (λvs H Q E h=>?_) (λ_ _ _ _ _ _=>dn λ_ _=>rfl) (λf aH A outer s H vs Q E hr h=>?_)
 ·obtain⟨x,v,wd,d,rfl,_⟩:=h
  rfl
 ·obtain⟨x,v,wd,d,rfl,vi,rd,DE,vy,sh,k⟩:=h
  have nd:=Jh.nd;obtain⟨aS,YG,Rj⟩:=gS;refine⟨_,(aB (bD (bQ (dH K Z hr.units) (pv 0) dY (bC _)) (aD (aU (pf qK hr (ai (pv 1) (ai aw (ai (cN (x:="LONGEST_WAIT") Z YS) aq)))))) bH) (aB (bD (bQ (dH K Z hr.units) (pv 0) dY (bC _)) (aD (aU (fW (WW K Z (hr.PY)) (pv 1) (cN (x:="SIDES") Z YG) (by with_unfolding_all rfl)))) bH) (aD (aU (iQ (fW (dH K Z hr.units) (pv 0) dY (bC _)) (jg (pf XX hr (ai (pv 1) aq)))))))),?_⟩;have k:∀H',aA H H'->Q (.bl (if eK "wait" wd then gu 1 1000 d else if eK "tool" wd then Eg d else eK "mark" wd&&isNm d)) H':=k;refine⟨_,Z,.inr ⟨_,_,vi,cE _,gI DE,aJ,_,Z,?_⟩⟩;rw[m8];cases e1:eK "wait" wd with |true=>rw[e1,aR rfl]at k;exact aY ⟨_,Z,_,d,1,1000,Z,rd,k H (aA.refl _)⟩ |false=>rw[e1,aO fQ]at k;refine aQ ⟨_,Z,.inr ⟨_,_,vi,cE _,gI DE,aJ,_,Z,?_⟩⟩;rw[m8];cases e2:eK "tool" wd with
   |true=>
    rw[e2,aR rfl]at k;refine aY ⟨_,Z,aS,_,d,[.str "up",.str "down"],Z,Rj H,rd,bK (cE _) (bK (cE _) cf),gI vy,?_,?_⟩
    ·intro e he
     rcases dj.mp he with rfl|he
     ·decide+kernel
     rcases dj.mp he with rfl|he
     ·decide+kernel
     ·exact(fq he).elim
    ·have e:([.str "up",.str "down"]:List af).any (λe=>PyData.eqv e d)=Eg d:=by rw[AL,AL,List.any_nil,MT,MT,Bool.or_false];rfl
     rw[e];exact k H (aA.refl _) |false=>rw[e2,aO fQ]at k;refine aQ ⟨_,Z,.inr ⟨_,_,vi,cE _,gI DE,aJ,_,Z,?_⟩⟩;rw[m8];cases e3:eK "mark" wd with |true=>rw[e3,j8]at k;exact aY ⟨_,Z,_,d,Z,rd,sh,k⟩ |false=>rw[e3,iG]at k;exact aQ (k H (aA.refl _))
theorem Vs(i:Int):(!decide (i=0))=(i !=0):=by rw[pX];simp
theorem LM{lo hi:Int}{d:af}(h:gu lo hi d=true):∃i,d= .int i:=by cases d<;>simp[gu]at h;exact⟨_,Z⟩
theorem any_map'{ds:List af}{f:af->Bool}:(ds.map f).any id=ds.any f:=by rw[List.any_map];rfl
inductive a3z(K:a7)(vs:List V)(H:Hp)(Q:VK):Prop |mk (m:V)(v:V)(rs:List Int)(es:List af)(d:af)(h0:vs=[m,v])(h1:RD K H m ((.tuple (.tuple (rs.map PyData.int)::es))))(h2:RD K H v d)(h3:rs.length<=3)(h4:∀H',aA H H'->Q (.bl (qt rs.length d)) H')
def HJ(K:a7):Sp:=λvs H Q _=>a3z K vs H Q
theorem JD:bo ["machine","thing","rails"] ["machine","thing"] (aZ CS):=bE aJ
theorem Vl(F:FA K mg "are_steps" CS)(B:bB mg)(Ml:GV mg "MOST_STEPS" (.int 100))(qK:ay P w K mg ao "is_whole_within" 2 (sJ K)):ay P w K mg ao "are_steps" 3 (HJ K):=by
 refine F.has JD (λvs H Q E h=>?_) (λ_ _ _ _ _ _=>dn λ_ _=>rfl) (λf aH A outer s H vs Q E hr h=>?_)
 ·obtain⟨m,v,rs,es,d,rfl,_⟩:=h
  rfl
 ·obtain⟨m,v,rs,es,d,rfl,rm,rd,l3,k⟩:=h
  have nd:=JD.nd;refine⟨_,(aB (pS 2 nd (px K (pv 0) aw)) (aB (bD (PW.pt (fT (cT (bZ (fk K B (ai (pv 1) (ai (eU (x:="tuple") (v:=.ty "tuple") Z (B.at "tuple") fN rfl) aq))))) (je (bQ (iR K rfl hr.units) (eH K B (ai (pv 1) aq)) (eH K B (ai (pv 2) aq)) (bC _))))) (aD (aU iP)) bH) (aB (bD (cT (bZ (dk (x:="all") (wX K Z Z) Z (B.at "all") AB (ai (fV (N:=["step"]) (js:=[none]) rfl rfl rfl (kh K rfl (pv 1)) (λ_ _ _ _ _=>(aX 0 (oF _))) (λ_ _ _ _ _=>f6) (λ_ _ _ _ _=>(pf qK hr (ai (pv 0) (ai (ki jY (cN (x:="MOST_STEPS") rfl Ml)) (ai (cN (x:="MOST_STEPS") rfl Ml) aq)))))) aq)))) (aD (aU iP)) bH) (aD (aU (dk (x:="any") (Od K Z Z) Z (B.at "any") P7 (ai (fV (N:=["step"]) (js:=[none]) rfl rfl rfl (kh K rfl (pv 1)) (λ_ _ _ _ _=>(aX 0 (oF _))) (λ_ _ _ _ _=>f6) (λ_ _ _ _ _=>(fW (iR K rfl hr.units) (pv 0) aw (bC _)))) aq))))))),?_⟩;obtain⟨am,ar,ym,rfl,hm,YA⟩:=W2 rm;refine⟨_,Z,.inr ⟨am,_,0,_,Z,Z,hm,cK (jE 0) Z,?_⟩⟩;rcases xT d with⟨ds,rfl⟩|⟨ht,hn⟩
  ·refine⟨_,Z,.inl ⟨_,_,"tuple",true,Z,rd.ty,au,jF,_,Z,aQ ?_⟩⟩
   obtain⟨av,xs,rfl,hx,hd⟩:=rd.bT;have hl:=hd.length;refine⟨_,Z,av,_,Z,.inr hx,_,Z,ar,_,Z,.inr YA,.inl ⟨_,_,Z,Z,_,Z,?_⟩⟩;have k:∀H',aA H H'->Q (.bl ((ds.length==rs.length&&ds.all (gu (-100) 100))&&ds.any vC)) H':=k;have e0:(!decide ((xs.length:Int)=((rs.map V.int).length:Int)))= !(ds.length==rs.length):=by rw[hl,bu];congr 1;rw[pX];simp;lia
   rw[e0];cases e:(ds.length==rs.length)with |false=>rw[e,iG,iG]at k;exact aY (k H (aA.refl _)) |true=>
    rw[e,j8]at k;refine aQ ?_;have el:ds.length=rs.length:=eB.mp e;refine⟨_,Z,av,Z,⟨_,hx⟩,λD H0 nw=>?_⟩;refine zZ (xs:=xs) (bs:=ds.map (gu (-100) 100)) [] hx nw (by rw[bu,hl]) ak ?_ ?_
    ·intro i x b H2 Q' ex eb s2 hq
     obtain⟨d,ed,rfl⟩:=Ld eb;obtain⟨x',ph,rx⟩:=hd.get i ed;rw[ex]at ph;cases ph;exact⟨_,Z,_,Z,_,d,-100,100,Z,RD.mono s2 _ rx,hq _ (aA.refl _)⟩
    ·intro H2 s2 d2
     refine⟨D,_,Z,aF.of d2,_,Z,?_⟩;rw[all_map];cases e1:ds.all (gu (-100) 100)with |false=>rw[e1,iG]at k;exact aY (k H2 s2) |true=>
      rw[e1,j8]at k;refine aQ ⟨_,Z,av,Z,⟨_,hx.go s2⟩,λD2 H3 n3=>?_⟩;refine zZ (xs:=xs) (bs:=ds.map vC) [] (hx.go s2) n3 (by rw[bu,hl]) ak ?_ ?_
      ·intro i x b H4 Q' ex eb s4 hq
       obtain⟨d,ed,rfl⟩:=Ld eb;obtain⟨x',ph,rx⟩:=hd.get i ed;rw[ex]at ph;cases ph;obtain⟨z,rfl⟩:=LM (fJ.mp e1 d (fO ed));cases rx.int_inv;refine⟨_,Z,.inl ⟨_,_,Z,Z,?_⟩⟩;show Q' (.bl (!decide (z=0))) H4;rw[Vs];exact hq _ (aA.refl _)
      ·intro H4 s4 d4
       refine⟨D2,_,Z,aF.of d4,?_⟩;rw[any_map'];exact k H4 (s2.trans s4)
  ·have e:qt rs.length d=false:=by cases d<;>first|rfl|exact absurd rfl (hn _)
   rw[e]at k;refine⟨_,Z,.inl ⟨_,_,"tuple",false,Z,rd.ty,au,ht,_,Z,aY ?_⟩⟩;exact k H (aA.refl _)
theorem item_cases(n:Nat)(d:af):(∃wd a b,d= .tuple [wd,a,b])\/(∃wd v,d= .tuple [wd,v])\/(∃ds,d= .tuple ds/\ds.length≠3/\ds.length≠2/\lO n d=false)\/(eR (dM d) "tuple"=false/\lO n d=false):=by
 rcases xT d with⟨ds,rfl⟩|⟨ht,hn⟩
 ·match ds with |[r,a,b]=>exact .inl ⟨r,a,b,Z⟩ |[r,a]=>exact .inr (.inl ⟨r,a,Z⟩) |[]=>exact .inr (.inr (.inl ⟨_,Z,by simp,by simp,by simp[lO]⟩)) |[_]=>exact .inr (.inr (.inl ⟨_,Z,by simp,by simp,by simp[lO]⟩)) |_::_::_::_::_=>exact .inr (.inr (.inl ⟨_,Z,by simp,by simp,by simp[lO]⟩))
 ·exact .inr (.inr (.inr ⟨ht,by cases d<;>first|rfl|exact absurd rfl (hn _)⟩))
inductive a41(K:a7)(vs:List V)(H:Hp)(Q:VK):Prop |mk (m:V)(v:V)(rs:List Int)(es:List af)(d:af)(h0:vs=[m,v])(h1:RD K H m ((.tuple (.tuple (rs.map PyData.int)::es))))(h2:RD K H v d)(h3:rs.length<=3)(h4:bU 8 d)(h5:vc d=true)(h6:∀H',aA H H'->Q (.bl (lO rs.length d)) H')
def Bn(K:a7):Sp:=λvs H Q _=>a41 K vs H Q
theorem qu{ds:List af}(h:bU 8 (.tuple ds)){d:af}(hd:d∈ds):bU 8 d:=((bU.bT (n:=7) h) d hd).le au
theorem RH{ds:List af}(h:vc (.tuple ds)=true){d:af}(hd:d∈ds):lg d=true:=fJ.mp (show ds.all lg=true from h) d hd
theorem Jj:bo ["machine","thing","word","steps","speed","value"] ["machine","thing"] (aZ Cr):=bE aJ
theorem UZ(F:FA K mg "is_item" Cr)(B:bB mg)(YW:GV mg "GREATEST_SPEED" (.int 20))(qK:ay P w K mg ao "is_whole_within" 2 (sJ K))(Yz:ay P w K mg ao "are_steps" 3 (HJ K))(XU:ay P w K mg ao "is_short_item" 3 (HK K)):ay P w K mg ao "is_item" 4 (Bn K):=by
 refine F.has Jj (λvs H Q E h=>?_) (λ_ _ _ _ _ _=>dn λ_ _=>rfl) (λf aH A outer s H vs Q E hr h=>?_)
 ·obtain⟨m,v,rs,es,d,rfl,_⟩:=h
  rfl
 ·obtain⟨m,v,rs,es,d,rfl,rm,rd,l3,vy,sh,k⟩:=h
  have nd:=Jj.nd;refine⟨_,(aB (bD (cT (bZ (fk K B (ai (pv 1) (ai (eU (x:="tuple") (v:=.ty "tuple") Z (B.at "tuple") fN rfl) aq))))) (aD (aU iP)) bH) (aB (bD (bQ (dH K Z hr.units) (eH K B (ai (pv 1) aq)) aw (bC _)) (aB (eG (pv 1) (cV K Z (n:=3) Z (bF (aX 2 nd) (bF (aX 3 nd) (bF (aX 4 nd) cU))))) (aD (aU (iQ (fW (dH K Z hr.units) (pv 2) dY (bC _)) (iQ (pf Yz hr (ai (pv 0) (ai (pv 3) aq))) (jg (pf qK hr (ai (pv 4) (ai aw (ai (cN (x:="GREATEST_SPEED") Z YW) aq)))))))))) bH) (aB (bD (bQ (dH K Z hr.units) (eH K B (ai (pv 1) aq)) aw (bC _)) (aB (eG (pv 1) (cV K Z (n:=2) Z (bF (aX 2 nd) (bF (aX 5 nd) cU)))) (aD (aU (pf XU hr (ai (pv 2) (ai (pv 5) aq)))))) bH) (aD (aU iP))))),?_⟩;rcases item_cases rs.length d with⟨wd,a,b,rfl⟩|⟨wd,a,rfl⟩|⟨ds,rfl,h3,h2,hf⟩|⟨ht,hf⟩
  ·refine⟨_,Z,.inl ⟨_,_,"tuple",true,Z,rd.ty,au,jF,_,Z,aQ ?_⟩⟩
   obtain⟨p,xs,rfl,hx,hd⟩:=rd.bT;obtain⟨u1,ys,rfl,r1,hd⟩:=hd.cons_inv;obtain⟨u2,ys,rfl,r2,hd⟩:=hd.cons_inv;obtain⟨u3,ys,rfl,r3,hd⟩:=hd.cons_inv;cases hd.nil_inv;have k:∀H',aA H H'->Q (.bl (eK "line" wd&&(qt rs.length a&&gu 1 20 b))) H':=k;refine⟨_,Z,p,_,Z,.inr hx,.inl ⟨_,_,Z,Z,_,Z,aY ?_⟩⟩;refine⟨_,Z,p,_,Z,hx,Z,_,_,Z,_,_,Z,_,_,Z,Z,?_⟩;refine⟨_,Z,.inr ⟨_,_,r1,cE _,gI (qu vy (by simp)),aJ,_,Z,?_⟩⟩;rw[m8];cases e1:eK "line" wd with |false=>rw[e1,iG]at k;exact aQ (k H (aA.refl _)) |true=>rw[e1,j8]at k;refine aY ⟨_,Z,_,Z,_,_,rs,es,a,Z,rm,r2,l3,λH1 s1=>⟨_,Z,?_⟩⟩;cases e2:qt rs.length a with |false=>rw[e2,iG]at k;exact aQ (k H1 s1) |true=>rw[e2,j8]at k;exact aY ⟨_,Z,_,b,1,20,Z,RD.mono s1 _ r3,k H1 s1⟩
  ·refine⟨_,Z,.inl ⟨_,_,"tuple",true,Z,rd.ty,au,jF,_,Z,aQ ?_⟩⟩
   obtain⟨p,xs,rfl,hx,hd⟩:=rd.bT;obtain⟨u1,ys,rfl,r1,hd⟩:=hd.cons_inv;obtain⟨u2,ys,rfl,r2,hd⟩:=hd.cons_inv;cases hd.nil_inv;have k:∀H',aA H H'->Q (.bl (mZ wd a)) H':=k;refine⟨_,Z,p,_,Z,.inr hx,.inl ⟨_,_,Z,Z,_,Z,aQ ?_⟩⟩;refine⟨_,Z,p,_,Z,.inr hx,.inl ⟨_,_,Z,Z,_,Z,aY ?_⟩⟩;refine⟨_,Z,p,_,Z,hx,Z,_,_,Z,_,_,Z,Z,?_⟩;exact⟨_,Z,_,Z,_,_,wd,a,Z,r1,r2,qu vy (by simp),qu vy (by simp),RH sh (by simp),k⟩
  ·rw[hf]at k
   refine⟨_,Z,.inl ⟨_,_,"tuple",true,Z,rd.ty,au,jF,_,Z,aQ ?_⟩⟩;obtain⟨p,xs,rfl,hx,hd⟩:=rd.bT;have hl:=hd.length;refine⟨_,Z,p,_,Z,.inr hx,.inl ⟨_,_,Z,Z,_,Z,?_⟩⟩;rw[show decide ((xs.length:Int)=3)=false from cY ak];refine aQ ⟨_,Z,p,_,Z,.inr hx,.inl ⟨_,_,Z,Z,_,Z,?_⟩⟩;rw[show decide ((xs.length:Int)=2)=false from cY ak];exact aQ (k H (aA.refl _))
  ·rw[hf]at k
   refine⟨_,Z,.inl ⟨_,_,"tuple",false,Z,rd.ty,au,ht,_,Z,aY ?_⟩⟩;exact k H (aA.refl _)
structure xm(n:Nat)(d:af)(o:Itm):Prop where
 it:itR d o
 ln:∀ns sp,o=some (ns,sp)->dP n 100 ns/\1<=sp/\sp<=20
 ot:o=none->fY d
theorem VQ{z:Str}(h:vK z=true):isNm (.str z)=true:=h
theorem a2C:∀{ns:List Int},(∃z∈ns,z≠0)->(ns.map PyData.int).any vC=true:=λ{ns} ⟨z,hz,h⟩=>uF.mpr ⟨.int z,fu.mpr ⟨z,hz,Z⟩,by show(z !=0)=true;simpa using h⟩
theorem a2M{ns:List Int}(h:∀z∈ns,(z.natAbs:Int)<=100):(ns.map PyData.int).all (gu (-100) 100)=true:=by rw[fJ];intro d hd;obtain⟨z,hz,rfl⟩:=fu.mp hd;have:=h z hz;show(decide (-100<=z)&&decide (z<=100))=true;rw[cj aI,cj aI];rfl
theorem xm.is{n:Nat}{d:af}{o:Itm}(h:xm n d o):lO n d=true/\bU 8 d/\vc d=true:=by cases o with
 |some q=>
  obtain⟨ns,sp⟩:=q;have ed:=jm h.it;subst ed;obtain⟨bW,s1,s2⟩:=h.ln ns sp rfl;refine⟨?_,?_,Z⟩
  ·show(eK "line" (.str "line")&&(qt n (.tuple (ns.map PyData.int))&&gu 1 20 (.int sp)))=true
   have e1:eK "line" (.str "line")=true:=by decide+kernel
   have e2:qt n (.tuple (ns.map PyData.int))=true:=by show(((ns.map PyData.int).length==n&&(ns.map PyData.int).all (gu (-100) 100))&&(ns.map PyData.int).any vC)=true;rw[a2M bW.bd,a2C bW.nz,bu,bW.len,Av];rfl
   have e3:gu 1 20 (.int sp)=true:=by show(decide (1<=sp)&&decide (sp<=20))=true;rw[cj s1,cj s2];rfl
   rw[e1,e2,e3];rfl
  ·refine(dQ.tup (n:=1) (.cons ⟨aJ,dS _⟩ (.cons (dQ.tup (n:=0) λd hd=>?_) (.cons (.int _) .nil)))).le au
   obtain⟨a,_,rfl⟩:=fu.mp hd;exact .int _ |none=>
  rcases h.ot rfl with⟨z,rfl,z1,z2⟩|⟨w,s,rfl,hw,U5,on⟩
  ·refine⟨?_,(dQ.tup (n:=0) (.cons ⟨aJ,dS _⟩ (.cons (.int _) .nil))).le au,Z⟩
   show mZ (.str "wait") (.int z)=true;unfold mZ;rw[aR aJ];show(decide (1<=z)&&decide (z<=1000))=true;rw[cj z1,cj z2];rfl
  ·have Wx:lg (.str s)=true:=by
    refine cj ?_;rcases on with⟨_,rfl|rfl⟩|⟨_,hn⟩
    ·decide+kernel
    ·decide+kernel
    ·unfold vK at hn
     simp only[eF,Gf]at hn
     lia
   refine⟨?_,(dQ.tup (n:=0) (.cons ?_ (.cons U5 .nil))).le au,?_⟩
   ·rcases on with⟨rfl,hs⟩|⟨rfl,hn⟩
    ·show mZ (.str "tool") (.str s)=true
     unfold mZ;rw[aO aJ,aR aJ];rcases hs with rfl|rfl<;>decide+kernel
    ·show mZ (.str "mark") (.str s)=true
     unfold mZ;rw[aO aJ,aO aJ];rw[VQ hn];decide+kernel
   ·rcases hw with rfl|rfl<;>exact⟨aJ,dS _⟩
   ·show([.str w,.str s]:List af).all lg=true
    rw[AM,AM,List.all_nil,Wx];rcases hw with rfl|rfl<;>decide+kernel
def cX(ti:Int)(q:Rat)(t:Int):Bool:=decide (ti*ti*(q.den:Int)<=t*t*q.num)
inductive a4a(K:a7)(vs:List V)(H:Hp)(Q:VK):Prop |mk (m:_)(sq:_)(t:_)(rs:_)(r:_)(f:_)(j:_)(ti:_)(q:_)(h0:vs=[m,sq,.int t])(h1:RD K H m (dZ rs r f j ti))(h2:bj K H sq q)(h3:Bd 2000 q)(h4:1<=ti)(h5:ti<=100)(h6:0<=t)(h7:t.natAbs<2^2400)(h8:Q (.bl (cX ti q t)) H)
def ye(K:a7):Sp:=λvs H Q _=>a4a K vs H Q
theorem Js:bo ["machine","square","t","p","q","ticks"] ["machine","square","t"] (aZ CF):=bE aJ
theorem Kz(F:FA K mg "are_enough" CF)(B:bB mg):ay P w K mg ao "are_enough" 1 (ye K):=by
 refine F.has Js (λvs H Q E h=>?_) (λ_ _ _ _ _ _=>j4 λ_ _ _=>rfl) (λf aH A outer s H vs Q E hr h=>?_)
 ·obtain⟨m,sq,t,rs,r,f,j,ti,q,rfl,_⟩:=h
  rfl
 ·obtain⟨m,sq,t,rs,r,f,j,ti,q,rfl,rm,⟨p,rfl,hp⟩,bq,t1,t2,t0,tw,k⟩:=h
  have nd:=Js.nd;refine⟨_,(aB (eG (pv 1) (cV K Z (n:=2) Z (bF (aX 3 nd) (bF (aX 4 nd) cU)))) (aB (pS 5 nd (px K (pv 0) aw)) (aD (aU (fW DD (aG bJ (aG bJ (pv 2) (pv 2)) (pv 3)) (aG bJ (aG bJ (pv 5) (pv 5)) (pv 4)) (bC _)))))),?_⟩;obtain⟨a,b,rfl,ha,hb⟩:=km rm;have wt:Wd t:=gX tw au;have xR:Wd (t*t):=gX (n:=4800) (by rw[g9];exact oG (n:=2400) (m:=2400) tw tw) au;have m1:(ti*ti).natAbs<=100*100:=by rw[g9];exact my aI aI
  refine⟨_,Z,_,_,Z,hp,Z,_,_,Z,_,_,Z,Z,?_⟩;refine⟨_,Z,.inr ⟨a,_,4,.int ti,Z,Z,ha,Z,?_⟩⟩;refine⟨_,Z,_,Z,_,_,Z,Z,gG wt.bits wt.bits,_,Z,_,_,Z,Z,gG xR.bits bq.wn.bits,?_⟩;refine⟨_,Z,_,Z,_,_,Z,Z,.of_left (ck aI aI),_,Z,_,_,Z,Z,.of_left (ck aI aI),?_⟩;exact⟨_,_,Z,Z,k⟩
theorem MZ{ti t:Int}{q:Rat}(hq:0<q.num)(h0:0<=t)(h:ti*ti*(q.den:Int)<=t):cX ti q t=true:=by
 refine cj (Int.le_trans h ?_);by_cases ht:t=0
 ·subst ht;simp
 ·have e1:t*1<=t*t:=Pp ak h0
  have e2:t*t*1<=t*t*q.num:=Pp ak (mC h0 h0)
  lia
theorem MX{ti:Int}{q:Rat}(h1:1<=ti):cX ti q 0=false:=by
 refine cY λh=>?_;have:=gb (gb (show 0<ti by lia) (show 0<ti by lia)) (den_pos q);simp only[xG]at h
 lia
inductive a3u(K:a7)(vs:List V)(H:Hp)(Q:VK):Prop |mk (m:_)(sq:_)(rs:_)(r:_)(f:_)(j:_)(ti:_)(q:_)(h0:vs=[m,sq])(h1:RD K H m (dZ rs r f j ti))(h2:bj K H sq q)(h3:Bd 2000 q)(h4:1<=ti)(h5:ti<=100)(h6:0<q.num)(h7:∀T,1<=T->T.natAbs<2^2400->cX ti q T=true->cX ti q (T-1)=false->Q (.int T) H)
def HH(K:a7):Sp:=λvs H Q _=>a3u K vs H Q
theorem Iv:bo ["machine","square","enough","too_few","between"] ["machine","square"] (aZ BI):=bE aJ
theorem Ug(F:FA K mg "ticks_of" BI)(B:bB mg)(wk:ay P w K mg ao "are_enough" 1 (ye K)):ay P w K mg ao "ticks_of" 2 (HH K):=by
 refine F.has Iv (λvs H Q E h=>?_) (λ_ _ _ _ _ _=>dn λ_ _=>rfl) (λf aH A outer s H vs Q E hr h=>?_)
 ·obtain⟨m,sq,rs,r,f,j,ti,q,rfl,_⟩:=h
  rfl
 ·obtain⟨m,sq,rs,r,f,j,ti,q,rfl,rm,rq,bq,t1,t2,hq,k⟩:=h
  have nd:=Iv.nd;refine⟨_,(aB (pS 2 nd aw) (aB (qk eE (cT (bZ (pf wk hr (ai (pv 0) (ai (pv 1) (ai (pv 2) aq)))))) (aD (pS 2 nd (aG bJ aw (pv 2))))) (aB (pS 3 nd (aG mS (pv 2) aw)) (aB (qk eE (bQ lC (aG gs (pv 2) (pv 3)) aw (bC _)) (aB (pS 4 nd (aG mS (aG cm (pv 3) (pv 2)) aw)) (aD (bD (bZ (pf wk hr (ai (pv 0) (ai (pv 1) (ai (pv 4) aq))))) (aD (pS 2 nd (pv 4))) (aD (pS 3 nd (pv 4))))))) (aD (aU (pv 2))))))),?_⟩;have lim:(ti*ti*(q.den:Int)).natAbs<2^2399:=by
   have m1:(ti*ti).natAbs<=100*100:=by rw[g9];exact my ak ak
   have hd:=bq.den;rw[g9];have:(q.den:Int).natAbs=q.den:=rfl;rw[this];have:=oG (n:=14) (m:=2000) (a:=(ti*ti).natAbs) (b:=q.den) (nP m1 au) hd;exact fH this (uw au au)
  have p0:0<ti*ti*(q.den:Int):=gb (gb ak ak) (den_pos q);have e2:(2:Nat)^2400=2^2399*2:=Nat.pow_succ 2 2399;generalize hL:ti*ti*(q.den:Int)=L at lim p0;refine pY (λO H2=>H2=H/\∃(x:Int),O=[some m,some sq,some (.int x),none,none]/\1<=x/\x<=2*L/\cX ti q (x/2)=false) (λO _=>match O with|[_,_,some (.int x),_,_]=>(L-x).toNat|_=>0) ?_ ?_ ?_
  ·exact⟨Z,1,Z,ak,ak,MX t1⟩
  ·rintro O H2 ⟨rfl,x,rfl,x1,xL,hx⟩
   have xw:x.natAbs<2^2400:=by lia
   refine⟨_,Z,_,Z,_,Z,m,sq,x,rs,r,f,j,ti,q,Z,rm,rq,bq,t1,t2,ak,xw,_,Z,?_⟩;cases nv:cX ti q x with
   |false=>
    have bG:x<L:=by
     by_cases bG:x<L
     ·exact bG
     ·rw[MZ hq ak ak]at nv;cases nv
    refine eJ (λhc=>?_) (λhc=>(hc Z).elim);refine⟨_,Z,_,_,Z,Z,.of_left (ck au au),?_⟩;refine⟨⟨Z,_,Z,ak,ak,?_⟩,?_⟩
    ·have:2*x/2=x:=by lia
     rw[this];exact nv
    ·show(L-2*x).toNat<(L-x).toNat
     lia |true=>
    refine eJ (λhc=>nomatch hc) (λhc=>?_);refine⟨_,Z,_,_,Z,Z,⟨au,gX (n:=2) au au⟩,?_⟩;refine pY (λO H3=>H3=H2/\∃(lo hi:Int)(v:Option V),O=[some m,some sq,some (.int hi),some (.int lo),v]/\0<=lo/\lo<hi/\hi<=2*L/\cX ti q lo=false/\cX ti q hi=true) (λO _=>match O with|[_,_,some (.int x),some (.int y),_]=>(x-y).toNat|_=>0) ?_ ?_ ?_
    ·exact⟨Z,x/2,x,none,Z,ak,ak,xL,hx,nv⟩
    ·rintro O H3 ⟨rfl,lo,hi,v,rfl,l0,lh,qR,wC,qW⟩
     refine⟨_,Z,_,Z,_,_,Z,Z,_,_,Z,Z,_,Z,?_⟩;refine eJ (λhc=>?_) (λhc=>?_)
     ·have Ma:hi-lo>1:=gW hc
      refine⟨_,Z,_,Z,_,_,Z,Z,_,_,Z,Z,⟨au,gX (n:=2) au au⟩,?_⟩;have mw:((lo+hi)/2).natAbs<2^2400:=by lia
      refine⟨_,Z,_,Z,_,Z,m,sq,(lo+hi)/2,rs,r,f,j,ti,q,Z,rm,rq,bq,t1,t2,ak,mw,_,Z,?_⟩;cases hm:cX ti q ((lo+hi)/2)with
      |true=>
       refine aY ?_;refine⟨_,Z,⟨Z,lo,_,_,Z,l0,ak,ak,wC,hm⟩,?_⟩;show((lo+hi)/2-lo).toNat<(hi-lo).toNat
       lia |false=>
       refine aQ ?_;refine⟨_,Z,⟨Z,_,hi,_,Z,ak,ak,qR,hm,qW⟩,?_⟩;show(hi-(lo+hi)/2).toNat<(hi-lo).toNat
       lia
     ·have hle:¬hi-lo>1:=λz=>hc (cj z)
      have e:lo=hi-1:=by lia
      subst e;exact⟨_,Z,k hi ak ak qW wC⟩
    ·rintro O H2 Q1 Q2 hq ⟨v1,e1,v2,e2,i,j,e3,e4,i2,j2,e5,e6,kk,e7,q⟩
     exact⟨v1,e1,v2,e2,i,j,e3,e4,i2,j2,e5,e6,kk,e7,hq _ _ q⟩
  ·rintro O H2 Q1 Q2 hq ⟨v1,e1,v2,e2,v3,e3,m',uV,x',jM,r',f',j',uO,q',e4,h1,h2,h3,h4,h5,h6,h7,b,eb,q⟩
   exact⟨v1,e1,v2,e2,v3,e3,m',uV,x',jM,r',f',j',uO,q',e4,h1,h2,h3,h4,h5,h6,h7,b,eb,hq _ _ q⟩
theorem GL{j:Int}(h:j.natAbs<2^64):Wd j:=Nat.lt_trans h aJ
inductive a3O(vs:List V)(H:Hp)(Q:VK):Prop |mk (p:Int)(q:Int)(h0:vs=[.int p,.int q])(h1:0<q)(h2:q<=10^6)(h3:p.natAbs<=10^9)(h4:Q (.int (gO p q)) H)
def Bh:Sp:=λvs H Q _=>a3O vs H Q
theorem IT:bo ["p","q","size"] ["p","q"] (aZ C3):=bE aJ
theorem UA(F:FA K mg "nearest" C3)(B:bB mg):ay P w K mg ao "nearest" 1 Bh:=by
 refine F.has IT (λvs H Q E h=>?_) (λ_ _ _ _ _ _=>dn λ_ _=>rfl) (λf aH A outer s H vs Q E hr h=>?_)
 ·obtain⟨p,q,rfl,_⟩:=h
  rfl
 ·obtain⟨p,q,rfl,q0,q1,p1,k⟩:=h
  have nd:=IT.nd;refine⟨_,(aB (pS 2 nd (aG mS (aG cm (aG bJ aw (dk (x:="abs") mh Z (B.at "abs") nO (ai (pv 0) aq))) (pv 1)) (aG bJ aw (pv 1)))) (aD (aU (vv (bQ DD (pv 0) aw (bC _)) (pv 2) (ki jY (pv 2)))))),?_⟩;refine⟨_,Z,p,Z,_,_,Z,Z,.of_left (ck au au),_,Z,_,_,Z,Z,_,Z,_,_,Z,Z,.of_left (ck au au),_,_,Z,Z,⟨ak,GL ak⟩,?_⟩;have e:(2*(if p<0 then-p else p)+q)/(2*q)=ja p q:=by unfold ja;rw[<-wY];rfl
  refine⟨_,Z,_,_,Z,Z,_,Z,?_⟩;unfold gO at k;rw[<-e]at k;refine eJ (λhc=>?_) (λhc=>?_)
  ·have hp:p>=0:=gW hc
   rw[aR hp]at k;exact⟨_,Z,k⟩
  ·have hp:¬p>=0:=λz=>hc (cj z)
   rw[aO hp]at k;exact⟨_,Z,_,Z,k⟩
def uU(ns:List Int)(k:Int):af:=.tuple ((ns.map λz=>gO (k*z) (aE ns)).map PyData.int)
theorem Kb{k z:Int}(h:k.natAbs<=10^6)(g:(z.natAbs:Int)<=1000):(k*z).natAbs<=10^9:=by rw[g9];exact fe (my h (show z.natAbs<=1000 by lia)) au
inductive a3y(K:a7)(vs:List V)(H:Hp)(Q:VK):Prop |mk (v:_)(ns:_)(sp:_)(k:_)(h0:vs=[v,.int k])(h1:RD K H v (fA ns sp))(h2:dP ns.length 1000 ns)(h3:ns.length<=1000)(h4:k.natAbs<=10^6)(h5:∀v' H',RD K H' v' (uU ns k)->aA H H'->Q v' H')
def Bc(K:a7):Sp:=λvs H Q _=>a3y K vs H Q
theorem IB:bo ["line","k","lead"] ["line","k"] (aZ BN):=bE aJ
theorem Um(F:FA K mg "stand_at" BN)(B:bB mg)(jq:ay P w K mg ao "lead_of" 1 (iK K))(Xz:ay P w K mg ao "nearest" 1 Bh):ay P w K mg ao "stand_at" 2 (Bc K):=by
 refine F.has IB (λvs H Q E h=>?_) (λ_ _ _ _ _ _=>dn λ_ _=>rfl) (λf aH A outer s H vs Q E hr h=>?_)
 ·obtain⟨v,ns,sp,k,rfl,_⟩:=h
  rfl
 ·obtain⟨v,ns,sp,kk,rfl,rd,ok,hz,hk,k⟩:=h
  have nd:=IB.nd;refine⟨_,(aB (pS 2 nd (pf jq hr (ai (pv 0) aq))) (aD (aU (fj (x:="tuple") (j9 K Z) Z (B.at "tuple") fN (ai (fV (N:=["step","lead","k"]) (js:=[none,some 2,some 1]) rfl rfl rfl (kh K rfl (px K (pv 0) aw)) (λ_ _ _ _ _=>(aX 0 (show List.Nodup (["step","lead","k"]:List Str) by decide+kernel))) (λ_ _ _ _ _=>f6) (λ_ _ _ _ _=>(pf Xz hr (ai (aG bJ (pv 2) (pv 0)) (ai (pv 1) aq))))) aq))))),?_⟩;refine⟨_,Z,v,ns,sp,Z,rd,ok.ne,hz,λH1 s1=>?_⟩;obtain⟨a,b,rfl,ha,hb⟩:=kn (RD.mono s1 _ rd);obtain⟨lp,lm⟩:=ok.lead;refine⟨_,Z,.inr ⟨a,_,1,.ref b,Z,Z,ha,Z,b,Z,⟨_,hb⟩,λD H0 nw=>?_⟩⟩;refine zY (K:=K) (xs:=ns.map V.int) (ds:=(ns.map λz=>gO (kk*z) (aE ns)).map PyData.int) _ hb nw (by simp) (by simpa using hz) (jN _) ?_ ?_
  ·intro i x d H2 Q' ex ed s2 hq
   rw[List.map_map]at ed;obtain⟨n,en,rfl⟩:=mV ed;cases vM ex en;refine⟨_,Z,_,Z,_,_,Z,Z,.of_left (ck ak ak),_,Z,_,_,Z,ak,ak,Kb hk (ok.bd n (fO en)),?_⟩;exact hq _ _ (aA.refl _) (cM _)
  ·intro H' ys s2 d2 r2
   refine⟨D,_,Z,.inl ⟨aF.of d2,λt H4 n4=>?_⟩⟩;exact k _ _ (dC (aK.of n4.at') (aC.mono n4.same _ r2)) (s1.trans (s2.trans n4.same))
def fK(ns:List Int)(j:Nat):List Int:=ns.map λz=>gO (((j:Int)+1)*z) (aE ns)-gO ((j:Int)*z) (aE ns)
def gK(ns:List Int):List af:=(List.range (aE ns)).map λj=>.tuple ((fK ns j).map PyData.int)
theorem vm(zs:List Int):cQ (.tuple (zs.map PyData.int))=true:=by rw[cQ];exact jN zs
theorem JS(ns:List Int):cg (gK ns)=true:=cP.mpr λd hd=>by obtain⟨j,_,rfl⟩:=fu.mp hd;exact vm _
theorem JT{ns:List Int}{i:Nat}(h:i<aE ns):(gK ns)[i]? =some (.tuple ((fK ns i).map PyData.int)):=by unfold gK;rw[bN,bw (by simpa using h),uB];rfl
theorem yt(ns:List Int):(gK ns).length=aE ns:=by simp[gK]
inductive a3E(K:a7)(vs:List V)(H:Hp)(Q:VK):Prop |mk (v:_)(ns:_)(sp:_)(h0:vs=[v])(h1:RD K H v (fA ns sp))(h2:dP ns.length 1000 ns)(h3:ns.length<=1000)(h4:∀l ys H',H l=none->H' l=some (.lst ys)->aC K H' ys (gK ns)->aA H H'->Q (.ref l) H')
def yc(K:a7):Sp:=λvs H Q _=>a3E K vs H Q
theorem IG:bo ["line","rows","before","k","behind"] ["line"] (aZ BR):=bE aJ
theorem Uq(F:FA K mg "step_rows" BR)(B:bB mg)(jq:ay P w K mg ao "lead_of" 1 (iK K))(LR:ay P w K mg ao "stand_at" 2 (Bc K)):ay P w K mg ao "step_rows" 3 (yc K):=by
 refine F.has IG (λvs H Q E h=>?_) (λ_ _ _ _ _ _=>gj λ_=>rfl) (λf aH A outer s H vs Q E hr h=>?_)
 ·obtain⟨v,ns,sp,rfl,_⟩:=h
  rfl
 ·obtain⟨v,ns,sp,rfl,rd,ok,hz,k⟩:=h
  have nd:=IG.nd;obtain⟨lp,lm⟩:=ok.lead;refine⟨_,(aB (pS 1 nd (cI aq)) (aB (pS 2 nd (pf LR hr (ai (pv 0) (ai aw aq)))) (aB (fh eE Z (Dy Z (B.at "range") (ai aw (ai (aG cm (pf jq hr (ai (pv 0) aq)) aw) aq))) (aX 3 nd) (aB (pS 4 nd (pf LR hr (ai (pv 0) (ai (pv 3) aq)))) (aB (fU (gY K Z (pv 1) (ai (fj (x:="tuple") (j9 K Z) Z (B.at "tuple") fN (ai (fV (N:=["new","old"]) (js:=[none,none]) rfl rfl rfl (mP K rfl false false rfl (B.at "zip") (ai (pv 4) (ai (pv 2) aq))) (λ_ _ _ _ _=>(cV K rfl (n:=2) rfl (bF (aX 0 (hJ au)) (bF (aX 1 (hJ au)) cU)))) (λ_ _ _ _ _=>f6) (λ_ _ _ _ _=>(aG gs (pv 0) (pv 1)))) aq)) aq))) (aD (pS 2 nd (pv 4)))))) (aD (aU (pv 1)))))),?_⟩;refine⟨bA Z,λl H1 n1=>?_⟩;refine⟨_,Z,v,ns,sp,0,Z,RD.mono n1.same _ rd,ok,hz,au,λu H2 ru s2=>?_⟩;have t2:=n1.same.trans s2;refine⟨_,Z,v,ns,sp,Z,RD.mono t2 _ rd,ok.ne,hz,λH3 s3=>?_⟩;refine⟨_,_,Z,Z,_,_,Z,⟨ak,ak,ak,ak⟩,?_⟩;have t3:=t2.trans s3;have e3:((aE ns:Int)+1-1).toNat=aE ns:=by lia
  refine pe (Pv:=λi O H4=>aA H H4/\(∃ys,H4 l=some (.lst ys)/\aC K H4 ys ((gK ns).take i))/\∃b v1 v2,RD K H4 b (uU ns i)/\O=[some v,some (.ref l),some b,v1,v2]) ?_ ?_ ?_
  ·exact⟨t3,⟨[],s3 _ _ (s2 _ _ n1.at'),cf⟩,u,none,none,RD.mono s3 _ ru,Z⟩
  ·rintro i O H4 hi ⟨t4,⟨ys,dl,ry⟩,b,v1,v2,rb,rfl⟩
   have EG:i<aE ns:=by lia
   refine⟨_,Z,_,Z,v,ns,sp,_,Z,RD.mono t4 _ rd,ok,hz,ak,λb2 H5 Di s5=>?_⟩;refine⟨_,Z,.inl ⟨Z,_,aF.of (s5 _ _ dl)⟩,?_⟩;obtain⟨a1,xs1,rfl,h1,q1⟩:=Di.bT;have e1:=q1.gP;subst e1;obtain⟨a0,xs0,rfl,h0,q0⟩:=(RD.mono s5 _ rb).bT;have e0:=q0.gP;subst e0;refine⟨_,Z,_,Z,a1,a0,Z,⟨_,h1⟩,⟨_,h0⟩,λD H6 nw=>?_⟩;refine ug (K:=K) (b1:=false) (b2:=false) (ds:=(fK ns i).map PyData.int) [] rfl h1 h0 nw (by simp[fK]) (by simpa[fK]using hz) (jN _) ?_ ?_
   ·intro j x y d H7 Q' ex ey ed s7 hq
    obtain⟨m,em,rfl⟩:=mV ed;unfold fK at em;rw[bN]at em ex ey;rw[bN]at ex ey;cases en:ns[j]? with |none=>rw[en]at em;cases em |some n=>
     rw[en]at em ex ey;cases em;cases ex;cases ey;refine⟨_,Z,_,Z,_,_,Z,Z,?_⟩;have ee:(1:Int)+(i:Int)=(i:Int)+1:=by lia
     rw[ee];exact hq _ _ (aA.refl _) (cM _)
   ·intro H7 zs s7 d7 r7
    refine⟨D,_,Z,.inl ⟨aF.of d7,λt H8 n8=>?_⟩⟩;have gJ:=s5.trans (s7.trans n8.same);have zU:=gJ _ _ dl;have len:=ry.length;rw[kW,yt]at len;refine⟨l,ys,_,Z,Z,zU,?_,?_⟩
    ·have:(1000:Nat)<sizeLine:=by decide
     lia
    refine⟨_,Z,?_⟩;have tt:cR H8 (L2.upd H8 l (.lst (ys++[.ref t]))):=.fw zU;refine⟨λb o e=>?_,⟨_,bX,?_⟩,_,_,_,?_,Z⟩
    ·rw[bf (cC e n1.no)];exact gJ b o (t4 b o e)
    ·rw[rY,JT EG]
     have nt:cg ((gK ns).take i)=true:=cP.mpr λd hd=>cP.mp (JS ns) d (xE hd);exact(aC.t tt _ nt (aC.mono gJ _ ry)).append (bK (RD.t tt _ (vm _) (dC (aK.of n8.at') (aC.mono n8.same _ r7))) cf)
    ·have ee:(1:Int)+(i:Int)=((i+1:Nat):Int):=by lia
     rw[ee]at Di;exact RD.t tt _ (vm _) (RD.mono (s7.trans n8.same) _ Di)
  ·rintro O H4 ⟨t4,⟨ys,dl,ry⟩,b,v1,v2,rb,rfl⟩
   rw[e3,rZ (by rw[yt];exact ba _)]at ry;exact⟨_,Z,k l ys H4 n1.no dl ry t4⟩
def jA(K:a7)(H:Hp)(v:V):Option Rat->Prop |none=>v= .bM |some q=>bj K H v q
theorem jA.go{H H':Hp}{v:V}:∀{o:Option Rat},jA K H v o->aA H H'->jA K H' v o |none,h,_=>h |some _,h,s=>bj.go h s
theorem bj.tt{H H':Hp}{v:V}{q:Rat}(h:bj K H v q)(s:cR H H'):bj K H' v q:=by obtain⟨a,rfl,h⟩:=h;exact⟨a,Z,h.t s⟩
def rO(n:Nat):Option Rat->Prop |none=>True |some q=>Bd n q
def oK(r f:Int)(e b:Option Rat):List Rat:=(0::e.toList.map λq=>q+((-f:Int):Rat))++b.toList.map λq=>q+((-r:Int):Rat)
def oT(r f:Int)(bd:Rat)(e b:Option Rat):List Rat:=(bd::e.toList.map λq=>q+(r:Rat))++b.toList.map λq=>q+(f:Rat)
def kl(r f:Int)(bd:Rat)(e b:Option Rat):Bool:=!((oK r f e b).any λl=>(oT r f bd e b).any λh=>decide (h<l))
theorem dr.tt{H H':Hp}(s:cR H H'):∀{vs:List V}{rs:List Rat},dr K H vs rs->dr K H' vs rs |[],[],_=>trivial |v::vs,q::rs,h=>⟨h.1.tt s,h.2.1,dr.tt s h.2.2⟩ |[],_::_,h=>h.elim |_::_,[],h=>h.elim
theorem dr.snoc{H:Hp}{v:V}{q:Rat}(hv:bj K H v q)(hb:Bd 2000 q):∀{vs:List V}{rs:List Rat},dr K H vs rs->dr K H (vs++[v]) (rs++[q]) |[],[],_=>⟨hv,hb,trivial⟩ |v::vs,q::rs,h=>⟨h.1,h.2.1,dr.snoc hv hb h.2.2⟩ |[],_::_,h=>h.elim |_::_,[],h=>h.elim
theorem Oa{α:Type}(l:List α)(p:α->Bool)(g:Nat->Bool)(h:∀i x,l[i]? =some x->g i=p x):(List.range l.length).any g=l.any p:=by
 rw[pX,uF,uF];refine⟨λ⟨i,hi,e⟩=>?_,λ⟨x,hx,e⟩=>?_⟩
 ·have hi:=Gy.mp hi
  exact⟨l[i],uC hi,by rw[<-h i _ (bw hi)];exact e⟩
 ·obtain⟨i,hi⟩:=AH.mp hx
  exact⟨i,Gy.mpr (cy.mp hi).1,by rw[h i x hi];exact e⟩
inductive a4g(K:a7)(vs:List V)(H:Hp)(Q:VK):Prop |mk (m:_)(bv:_)(ev:_)(gv:_)(rs:_)(r:_)(f:_)(j:_)(t:_)(bd:_)(e:_)(b:_)(h0:vs=[m,bv,ev,gv])(h1:RD K H m (dZ rs r f j t))(h2:fb rs r f j t)(h3:bj K H bv bd)(h4:Bd 1900 bd)(h5:jA K H ev e)(h6:rO 1900 e)(h7:jA K H gv b)(h8:rO 1900 b)(h9:∀H',aA H H'->Q (.bl (kl r f bd e b)) H')
def yg(K:a7):Sp:=λvs H Q _=>a4g K vs H Q
theorem Jx:bo ["machine","bound","ended","begun","rise","fall","lows","highs"] ["machine","bound","ended","begun"] (aZ CK):=bE aJ
theorem Ve(F:FA K mg "can_meet" CK)(B:bB mg)(gN:GT K mg "NOUGHT" [.int 0,.int 1])(ky:ay P w K mg ao "plus_whole" 4 (sM K))(nk:ay P w K mg ao "is_less" 1 (jJ K)):ay P w K mg ao "can_meet" 5 (yg K):=by
 refine F.has Jx (λvs H Q E h=>?_) (λ_ _ _ _ _ _=>rH λ_ _ _ _=>rfl) (λfa aH A outer s H vs Q E hr h=>?_)
 ·obtain⟨m,bv,ev,gv,rs,r,f,j,t,bd,e,b,rfl,_⟩:=h
  rfl
 ·obtain⟨m,bv,ev,gv,rs,r,f,j,t,bd,e,b,rfl,rm,aP,Rb,bb,Re,be,Rg,bg,k⟩:=h
  have nd:=Jx.nd;obtain⟨aN,nA,nX⟩:=gN;refine⟨_,(aB (mL (i:=4) (j:=5) Z nd Z Z au Z Z (ai (px K (pv 0) aw) (ai (px K (pv 0) aw) aq)) Z) (aB (pS 6 nd (cI (ai (cN (x:="NOUGHT") Z nA) aq))) (aB (pS 7 nd (cI (ai (pv 1) aq))) (aB (lu (bD (bQ mR (pv 2) fi (bC _)) (aB (fU (gY K Z (pv 6) (ai (pf ky hr (ai (pv 2) (ai (ki jY (pv 5)) aq))) aq))) (aD (fU (gY K Z (pv 7) (ai (pf ky hr (ai (pv 2) (ai (pv 4) aq))) aq))))) bH)) (aB (lu (bD (bQ mR (pv 3) fi (bC _)) (aB (fU (gY K Z (pv 6) (ai (pf ky hr (ai (pv 3) (ai (ki jY (pv 4)) aq))) aq))) (aD (fU (gY K Z (pv 7) (ai (pf ky hr (ai (pv 3) (ai (pv 5) aq))) aq))))) bH)) (aD (aU (ql (dk (x:="any") (Od K Z Z) Z (B.at "any") P7 (ai (Tu (N:=["low","high","highs"]) (js:=[none,none,some 7]) rfl rfl rfl (oo K rfl (pv 6)) (λ_ _ _ _ _=>(aX 0 (show List.Nodup (["low","high","highs"]:List Str) by decide+kernel))) (λ_ _ _ _ _=>(oo K rfl (pv 2))) (λ_ _ _ _ _=>(aX 1 (show List.Nodup (["low","high","highs"]:List Str) by decide+kernel))) (λ_ _ _ _ _=>(pf nk hr (ai (pv 1) (ai (pv 0) aq))))) aq)))))))))),?_⟩;obtain⟨ma,mb,rfl,fD,jO⟩:=km rm;have jd:=aP.r1;have jt:=aP.f1;refine⟨_,Z,.inr ⟨ma,_,1,.int r,Z,Z,fD,Z,_,Z,.inr ⟨ma,_,2,.int f,Z,Z,fD,Z,_,_,Z,?_⟩⟩⟩;refine⟨bA Z,λl1 H1 n1=>?_⟩;refine⟨_,Z,bA Z,λl2 H2 n2=>?_⟩;have zk:l1≠l2:=cC n1.at' n2.no;have KH:H l1=none:=n1.no;have KG:H l2=none:=by cases e:H l2 with |none=>rfl |some o=>have:=n1.same _ _ e;rw[n2.no]at this;cases this
  have R0:∀H',bj K H' (.ref aN) 0:=λH'=>⟨aN,Z,nX H'⟩;have b0:Bd 2000 (0:Rat):=⟨au,au⟩;have s2:=n1.same.trans n2.same;have ap:∀{H3:Hp}{l:Addr}{xs:List V}{v:V},H l=none->aA H H3->aA H (L2.upd H3 l (.lst (xs++[v]))):=λ{H3 l xs v} hn s3=>λq o eq=>by rw[bf (cC eq hn)];exact s3 _ _ eq
  refine⟨λO H3=>aA H H3/\∃xs ys,H3 l1=some (.lst xs)/\H3 l2=some (.lst ys)/\dr K H3 xs (0::e.toList.map λq=>q+((-f:Int):Rat))/\dr K H3 ys (bd::e.toList.map λq=>q+(r:Rat))/\O=[some (.ref ma),some bv,some ev,some gv,some (.int r),some (.int f),some (.ref l1),some (.ref l2)],?_,?_⟩
  ·refine⟨_,Z,Z,_,Z,?_⟩
   have V1:dr K H2 [.ref aN] [0]:=⟨R0 _,b0,trivial⟩;have V2:dr K H2 [bv] [bd]:=⟨Rb.go s2,bb.mono au,trivial⟩;cases e with |none=>have e0:ev= .bM:=Re;subst e0;exact aQ ⟨s2,_,_,n2.same _ _ n1.at',n2.at',V1,V2,Z⟩ |some q=>
    have Re:bj K H ev q:=Re;have be:Bd 1900 q:=be;obtain⟨ae,e0,he⟩:=id Re;subst e0;refine aY ?_;have d1:=n2.same _ _ n1.at';refine⟨_,Z,.inl ⟨Z,_,aF.of d1⟩,?_⟩;refine⟨_,Z,_,Z,_,Z,.ref ae,q,_,Z,Re.go s2,be.mono au,(by rw[gq];lia),λu1 H3 ie s3=>?_⟩;have wK:=s3 _ _ d1;refine⟨l1,_,u1,Z,Z,wK,bA Z,?_⟩;have t3:cR H3 (L2.upd H3 l1 (.lst ([.ref aN]++[u1]))):=.fw wK;have yn:=s2.trans s3;have Cw:=ap (l:=l1) (xs:=[.ref aN]) (v:=u1) KH yn;have d2:(L2.upd H3 l1 (.lst ([.ref aN]++[u1]))) l2=some (.lst [bv]):=by rw[bf zk.symm];exact s3 _ _ n2.at'
    have wJ:(L2.upd H3 l1 (.lst ([.ref aN]++[u1]))) l1=some (.lst ([.ref aN]++[u1])):=bX;have xb:dr K (L2.upd H3 l1 (.lst ([.ref aN]++[u1]))) ([.ref aN]++[u1]) ([0]++[q+((-f:Int):Rat)]):=(dr.snoc ie ((i5 be (by rw[gq];lia)).mono au) (V1.go s3)).tt t3;have wZ:=(V2.go s3).tt t3;have Oq:=Re.go Cw;generalize L2.upd H3 l1 (.lst ([.ref aN]++[u1]))=H4 at Cw d2 wJ xb wZ Oq⊢;refine⟨_,Z,.inl ⟨Z,_,aF.of d2⟩,?_⟩;refine⟨_,Z,_,Z,.ref ae,q,_,Z,Oq,be.mono au,(by rw[gq];lia),λu2 H5 mJ s5=>?_⟩;have uf:=s5 _ _ d2;refine⟨l2,_,u2,Z,Z,uf,bA Z,?_⟩;have t5:cR H5 (L2.upd H5 l2 (.lst ([bv]++[u2]))):=.fw uf;exact⟨ap (l:=l2) KG (Cw.trans s5),_,_,(bf zk).trans (s5 _ _ wJ),bX,(xb.go s5).tt t5,(dr.snoc mJ ((i5 be (by rw[gq];lia)).mono au) (wZ.go s5)).tt t5,Z⟩
  rintro O H3 ⟨s3,xs,ys,d1,d2,V1,V2,rfl⟩;have lx:=V1.length;have ly:=V2.length;have le:e.toList.length<=1:=by cases e<;>simp
  have zp:xs.length<=2:=by rw[lx,mB,bu];lia
  have tM:ys.length<=2:=by rw[ly,mB,bu];lia
  refine⟨λO H4=>aA H H4/\∃xs ys,H4 l1=some (.lst xs)/\H4 l2=some (.lst ys)/\dr K H4 xs (oK r f e b)/\dr K H4 ys (oT r f bd e b)/\O=[some (.ref ma),some bv,some ev,some gv,some (.int r),some (.int f),some (.ref l1),some (.ref l2)],?_,?_⟩
  ·refine⟨_,Z,Z,_,Z,?_⟩
   cases b with |none=>have e0:gv= .bM:=Rg;subst e0;exact aQ ⟨s3,_,_,d1,d2,by unfold oK;simpa using V1,by unfold oT;simpa using V2,Z⟩ |some q=>
    have Rg:bj K H gv q:=Rg;have bg:Bd 1900 q:=bg;obtain⟨ae,e0,he⟩:=id Rg;subst e0;refine aY ?_;refine⟨_,Z,.inl ⟨Z,_,aF.of d1⟩,?_⟩;refine⟨_,Z,_,Z,_,Z,.ref ae,q,_,Z,Rg.go s3,bg.mono au,(by rw[gq];lia),λu1 H4 ie s4=>?_⟩;have wK:=s4 _ _ d1;refine⟨l1,_,u1,Z,Z,wK,sP _ ak,?_⟩;have t4:cR H4 (L2.upd H4 l1 (.lst (xs++[u1]))):=.fw wK;have RZ:=s3.trans s4;have Cv:=ap (l:=l1) (xs:=xs) (v:=u1) KH RZ;have uf:(L2.upd H4 l1 (.lst (xs++[u1]))) l2=some (.lst ys):=by rw[bf zk.symm];exact s4 _ _ d2
    have wJ:(L2.upd H4 l1 (.lst (xs++[u1]))) l1=some (.lst (xs++[u1])):=bX;have xb:=(dr.snoc ie ((i5 bg (by rw[gq];lia)).mono au) (V1.go s4)).tt t4;have wZ:=(V2.go s4).tt t4;have Om:=Rg.go Cv;generalize L2.upd H4 l1 (.lst (xs++[u1]))=H5 at Cv uf wJ xb wZ Om⊢;refine⟨_,Z,.inl ⟨Z,_,aF.of uf⟩,?_⟩;refine⟨_,Z,_,Z,.ref ae,q,_,Z,Om,bg.mono au,(by rw[gq];lia),λu2 H6 mJ s6=>?_⟩;have Nr:=s6 _ _ uf;refine⟨l2,_,u2,Z,Z,Nr,sP _ ak,?_⟩;have t6:cR H6 (L2.upd H6 l2 (.lst (ys++[u2]))):=.fw Nr;exact⟨ap (l:=l2) KG (Cv.trans s6),_,_,(bf zk).trans (s6 _ _ wJ),bX,(xb.go s6).tt t6,(dr.snoc mJ ((i5 bg (by rw[gq];lia)).mono au) (wZ.go s6)).tt t6,Z⟩
  rintro O H4 ⟨s4,xs,ys,d1,d2,V1,V2,rfl⟩;have lx:=V1.length;have ly:=V2.length;have lb:b.toList.length<=1:=by cases b<;>simp
  have zp:xs.length<=3:=by rw[lx];unfold oK;rw[cD,mB,bu,bu];lia
  have tM:ys.length<=3:=by rw[ly];unfold oT;rw[cD,mB,bu,bu];lia
  refine⟨_,Z,l1,Z,⟨_,aF.of d1⟩,λD H5 n5=>?_⟩;refine a1M (K:=K) (b:=λi j=>((oT r f bd e b)[j]?.bind λh=>(oK r f e b)[i]?.map λl=>decide (h<l)).getD false) _ (aF.of d1) (aF.of d2) n5 (fe (my zp tM) au) ?_ ?_ ?_
  ·intro x v H6 R s6 hR
   exact⟨_,Z,l2,Z,⟨_,aF.of (s6 _ _ d2)⟩,hR⟩
  ·intro i j' x y H6 Q' ex ey s6 hq
   obtain⟨l,el,Rl,bl⟩:=V1.get ex;obtain⟨h,eh,Rh,bh⟩:=V2.get ey;have hq:=hq H6 (aA.refl _);rw[el,eh]at hq;exact⟨_,Z,_,Z,y,x,h,l,Z,Rh.go s6,Rl.go s6,bh,bl,hq⟩
  ·intro H6 s6 d6
   refine⟨D,_,Z,aF.of d6,?_⟩;have ea:(((List.range xs.length).flatMap λi=>(List.range ys.length).map λj=>((oT r f bd e b)[j]?.bind λh=>(oK r f e b)[i]?.map λl=>decide (h<l)).getD false)).any id=(oK r f e b).any λl=>(oT r f bd e b).any λh=>decide (h<l):=by rw[a2H,lx,ly];refine Oa _ _ _ λi l el=>Oa _ _ _ λj' h eh=>?_;rw[el,eh];rfl
   rw[ea];exact⟨_,Z,k H6 (s4.trans s6)⟩
def Hu(fy:List Int)(t:Int)(q:Rat):af:=.tuple [.str "step",.tuple (fy.map PyData.int),.int t,bL q]
theorem QZ{H:Hp}{v:V}{zs:List Int}{t:Int}{q:Rat}(h:RD K H v (Hu zs t q)):∃a b c,v= .ref a/\aK K H a [.str "step",.ref b,.int t,c]/\aK K H b (zs.map V.int)/\bj K H c q:=by obtain⟨a,xs,rfl,hx,hd⟩:=h.bT;obtain⟨u1,ys,rfl,r1,hd⟩:=hd.cons_inv;obtain⟨u2,ys,rfl,r2,hd⟩:=hd.cons_inv;obtain⟨u3,ys,rfl,r3,hd⟩:=hd.cons_inv;obtain⟨u4,ys,rfl,r4,hd⟩:=hd.cons_inv;cases hd.nil_inv;cases r1.str_inv;cases r3.int_inv;obtain⟨b,bs,rfl,hb,Yq⟩:=r2.bT;rw[Yq.gP]at hb;obtain⟨c,cs,rfl,hc,jR⟩:=r4.bT;obtain⟨c1,cr,rfl,e1,jR⟩:=jR.cons_inv;obtain⟨c2,cr,rfl,e2,jR⟩:=jR.cons_inv;cases jR.nil_inv;cases e1.int_inv;cases e2.int_inv;exact⟨a,b,_,Z,hx,hb,c,Z,hc⟩
theorem Ir:bo ["machine","t","square"] ["machine","t","square"] (aZ BG):=bE aJ
theorem IC:bo ["row","entry"] ["row","entry"] (aZ BO):=bE aJ
def fF(zs:List Int)(top:Rat):af:=.tuple [.str "step",.tuple (zs.map PyData.int),bL top]
theorem Jq:bo ["machine","expected","entry","word","row","top"] ["machine","expected","entry"] (aZ CC):=bE aJ
theorem ID:bo ["entry"] ["entry"] (aZ BP):=bE aJ
inductive a47(K:a7)(vs:List V)(H:Hp)(Q:VK):Prop |mk (m:_)(iv:_)(l:_)(ys:_)(rs:_)(r:_)(f:_)(j:_)(t:_)(ds:_)(os:_)(g:_)(h0:vs=[m,iv,.ref l])(h1:RD K H m (dZ rs r f j t))(h2:fb rs r f j t)(h3:RD K H iv (.tuple ds))(h4:cn rs.length ds os)(h5:ds.length<=30)(h6:H l=some (.lst ys))(h7:aC K H ys ((lst os.length g).map bL))(h8:(∀i,i<=os.length->Bd 900 (g i)))(h9:∀l ys H',H l=none->H' l=some (.lst ys)->aC K H' ys ((lst os.length (fl os.length (leadF os) (2*f) g)).map bL)->aA H H'->Q (.ref l) H')
def HX(K:a7):Sp:=λvs H Q _=>a47 K vs H Q
theorem Jp:bo ["machine","items","squares","fall","kept","i"] ["machine","items","squares"] (aZ CB):=bE aJ
theorem V8(F:FA K mg "kept_by_fall" CB)(B:bB mg)(jP:ay P w K mg ao "is_line" 1 (nY K))(jq:ay P w K mg ao "lead_of" 1 (iK K))(ky:ay P w K mg ao "plus_whole" 4 (sM K))(qI:ay P w K mg ao "least" 2 (l7 K)):ay P w K mg ao "kept_by_fall" 5 (HX K):=by
 refine F.has Jp (λvs H Q E h=>?_) (λ_ _ _ _ _ _=>j4 λ_ _ _=>rfl) (λfa aH A outer s H vs Q E hr h=>?_)
 · obtain⟨m,iv,l,ys,rs,r,f,j,t,ds,os,g,rfl,_⟩:=h
   rfl
 · obtain⟨m,iv,l,ys,rs,r,f,j,t,ds,os,g,rfl,rm,aP,ri,row,hz,dl,lj,bg,k⟩:=h
   have nd:=Jp.nd;refine⟨_,(aB (pS 3 nd (px K (pv 0) aw)) (aB (pS 4 nd (fj (x:="list") (zd K Z) Z (B.at "list") nN (ai (pv 2) aq))) (aB (fh eE Z (Ti Z (B.at "reversed") (ai (fj (x:="range") a25 rfl (B.at "range") PyProof.Rows.boot_range (ai (eH K B (ai (pv 1) aq)) aq)) aq)) (aX 5 nd) (aD (bD (bZ (pf jP hr (ai (px K (pv 1) (pv 5)) aq))) (aD (eG (pf qI hr (ai (cI (ai (px K (pv 4) (pv 5)) (ai (pf ky hr (ai (px K (pv 4) (aG cm (pv 5) aw)) (ai (aG bJ (aG bJ aw (pv 3)) (pf jq hr (ai (px K (pv 1) (pv 5)) aq))) aq))) aq))) aq)) (oq (pv 4) (pv 5) set_list))) bH))) (aD (aU (pv 4)))))),?_⟩;obtain⟨ma,mb,rfl,fD,jO⟩:=km rm;obtain⟨ia,xs,rfl,hi,da⟩:=ri.bT;have lx:=da.length;have ll:=row.len;have lr:=aP.len;have hL:∀i m,leadF os i=some m->(2*f*(m:Int)).natAbs<2^24:=λi m e=>uJ aP.f1.1 aP.f1.2 (vR row.oy e);have FB:∀i,i<=os.length->Bd 1700 (fl os.length (leadF os) (2*f) g i):=λi hi=>(MG bg hL i hi).mono ak;refine⟨_,Z,.inr ⟨ma,_,2,.int f,Z,Z,fD,Z,?_⟩⟩;refine⟨_,Z,l,ys,Z,.inl (aF.of dl),λD H1 n1=>?_⟩;refine⟨_,Z,ia,_,Z,.inr (hi.go n1.same),_,Z,λpr H2 n2=>?_⟩;refine⟨pr,_,Z,n2.at',ak,ak,?_⟩;have eN:((xs.length:Int)).toNat=os.length:=by lia
   rw[eN];refine ZL (Pv:=λi O H5=>aA H H5/\∃zs v1,H5 D=some (.lst zs)/\aC K H5 zs ((lst os.length λk=>if os.length<=k+i then fl os.length (leadF os) (2*f) g k else g k).map bL)/\O=[some (.ref ma),some (.ref ia),some (.ref l),some (.int f),some (.ref D),v1]) ?_ ?_ ?_
   · refine⟨n1.same.trans n2.same,ys,none,n2.same _ _ n1.at',?_,Z⟩
     rw[tG (g:=λk=>if os.length<=k+0 then fl os.length (leadF os) (2*f) g k else g k) (g':=g)]
     ·exact aC.mono (n1.same.trans n2.same) _ lj
     · intro k hk
       show g k=if os.length<=k+0 then _ else g k;split
       · next h => have:k=os.length:=by lia
                   subst this;exact F3.symm
       ·rfl
   · rintro i O H3 nq ⟨s3,zs,v1,dz,rz,rfl⟩
     obtain⟨x,hx⟩:∃x,xs[os.length-1-i]? =some x:=⟨_,bw (show os.length-1-i<xs.length by lia)⟩;generalize hc:os.length-1-i=c at hx;have qM:c<os.length:=by lia
     have eI:((os.length:Int)-1-(i:Int))=(c:Int):=by lia
     rw[eI];obtain⟨d,ed,rd⟩:=da.get' c hx;obtain⟨o,eo,it⟩:=row.get ed;have lz:=rz.length;rw[bu,oJ]at lz;have O5:dI xs (c:Int)=some x:=cK ak (by simpa using hx);refine⟨_,Z,_,Z,.inr ⟨ia,_,_,_,Z,Z,hi.go s3,O5,?_⟩⟩;refine⟨x,d,o,Z,RD.mono s3 _ rd,it,_,Z,?_⟩;cases o with
     |none=>
       refine aQ ?_;refine⟨s3,zs,_,dz,?_,Z⟩;rw[tG (g:=λk=>if os.length<=k+(i+1)then fl os.length (leadF os) (2*f) g k else g k) (g':=λk=>if os.length<=k+i then fl os.length (leadF os) (2*f) g k else g k)]
       ·exact rz
       · intro k _
         show(if os.length<=k+i then _ else g k)=if os.length<=k+(i+1)then _ else g k;by_cases h1:os.length<=k+i
         ·rw[aR h1,aR ak]
         · rw[aO h1]
           by_cases h2:k=c
           ·subst h2;rw[aR ak,F2 qM (Lv eo)]
           ·rw[aO ak] |some q=>
       obtain⟨ns,sp⟩:=q;refine aY ?_;have jv:=jm it;subst jv;obtain⟨bW,_,_⟩:=row.ok c ns sp eo;obtain⟨z1,pg⟩:∃z,zs[c+1]? =some z:=⟨_,bw (show c+1<zs.length by lia)⟩;obtain⟨z0,iX⟩:∃z,zs[c]? =some z:=⟨_,bw (show c<zs.length by lia)⟩;have R1:bj K H3 z1 (fl os.length (leadF os) (2*f) g (c+1)):=by
        obtain⟨d1,e1,r1⟩:=rz.get' (c+1) pg;rw[bN,mW _ (show c+1<=os.length by lia)]at e1;cases e1;have:os.length<=c+1+i:=by lia
        simp only[aR this]at r1;exact fS r1
       have R0:bj K H3 z0 (g c):=by
        obtain⟨d1,e1,r1⟩:=rz.get' c iX;rw[bN,mW _ (show c<=os.length by lia)]at e1;cases e1;have:¬os.length<=c+i:=by lia
        simp only[aO this]at r1;exact fS r1
       have pC:((c:Int)+1).toNat=c+1:=by lia
       have ml:dI zs ((c:Int)+1)=some z1:=cK ak (by rw[pC];exact pg);have iZ:dI zs (c:Int)=some z0:=cK ak (by simpa using iX);refine⟨_,Z,_,Z,.inl ⟨D,_,_,_,Z,Z,aF.of dz,iZ,?_⟩⟩;refine⟨_,Z,_,Z,_,_,Z,Z,.inl ⟨D,_,_,_,Z,Z,aF.of dz,ml,?_⟩⟩;refine⟨_,Z,_,_,Z,Z,.of_left (ck au au),?_⟩;refine⟨_,Z,_,Z,.inr ⟨ia,_,_,_,Z,Z,hi.go s3,O5,?_⟩⟩;refine⟨x,ns,sp,Z,RD.mono s3 _ rd,bW.ne,by rw[bW.len];lia,λH4 s4=>?_⟩;have jt:=aP.f1;refine⟨_,_,Z,Z,.of_left (ck ak ak),?_⟩;have us:=hL c _ (zi eo);refine⟨z1,_,_,Z,R1.go s4,(FB (c+1) ak).mono au,us,λu H5 ru s5=>?_⟩;refine⟨bA Z,λl2 H6 n6=>?_⟩;have mH:=s4.trans (s5.trans n6.same);have Oj:=R0.go mH;have Ru:=ru.go n6.same;have B1:Bd 2000 (g c):=(bg _ ak).mono au;have B2:Bd 2000 (fl os.length (leadF os) (2*f) g (c+1)+((2*f*(aE ns:Int):Int):Rat)):=(i5 (FB (c+1) ak) us).mono au;refine⟨l2,[z0,u],[_,_],Z,aF.of n6.at',⟨Oj,B1,Ru,B2,trivial⟩,by simp,λc' v q e1 e2 hq=>?_⟩;have ku:mn (g c) (fl os.length (leadF os) (2*f) g (c+1)+((2*f*(aE ns:Int):Int):Rat))=q:=by
        refine oH ?_ (hq _ (by simp)) (hq _ (by simp))
        match c',e2 with |0,e2=>cases e2;exact .inl rfl |1,e2=>cases e2;exact .inr rfl
       have Rv:bj K H6 v q:=by match c',e1,e2 with |0,e1,e2=>cases e1;cases e2;exact Oj |1,e1,e2=>cases e1;cases e2;exact Ru
       have pE:=mH _ _ dz;have WK:gc zs.length (c:Int)=some c:=by unfold gc;rw[aR ak,aR ak];simp
       refine⟨_,Z,_,Z,D,zs,_,_,Z,Z,pE,WK,?_⟩;refine⟨λb o e=>?_,_,_,bX,?_,Z⟩
       ·rw[bf (cC e n1.no)];exact mH b o (s3 b o e)
       · have h:=aC.yi (i:=c) pE (aC.mono mH _ rz) Rv.rd (lI _) (kg _)
         rw[<-uA]at h;have e:(lst os.length λk=>if os.length<=k+i then fl os.length (leadF os) (2*f) g k else g k).set c q=lst os.length λk=>if os.length<=k+(i+1)then fl os.length (leadF os) (2*f) g k else g k:=by
          rw[<-Lh (g:=λk=>if os.length<=k+i then fl os.length (leadF os) (2*f) g k else g k) (g':=λk=>if os.length<=k+(i+1)then fl os.length (leadF os) (2*f) g k else g k) (i:=c)]
          · have:os.length<=c+(i+1):=by lia
            simp only[aR this];rw[F7 qM (zi eo),ku]
          · intro k _ hk
            show(if os.length<=k+(i+1)then _ else g k)=if os.length<=k+i then _ else g k;by_cases h1:os.length<=k+i
            ·rw[aR h1,aR ak]
            ·rw[aO h1,aO ak]
         rw[e]at h;exact h
   · rintro O H3 ⟨s3,zs,v1,dz,rz,rfl⟩
     rw[tG (g:=λk=>if os.length<=k+os.length then fl os.length (leadF os) (2*f) g k else g k) (g':=fl os.length (leadF os) (2*f) g) (λk hk=>by show _=if os.length<=k+os.length then _ else _;rw[aR ak])]at rz;exact⟨_,Z,k D zs H3 n1.no dz rz s3⟩
def iO(r f j rate:Int)(os:List Itm):Nat->Rat:=tf os.length (ownF j rate os) (leadF os) (2*r) (2*f)
def Dw(r f j rate:Int)(os:List Itm):List Rat:=lst os.length (iO r f j rate os)
theorem Td(r f j rate:Int)(os:List Itm):(Dw r f j rate os).length=os.length+1:=oJ _ _
inductive a3I(K:a7)(vs:List V)(H:Hp)(Q:VK):Prop |mk (m:_)(iv:_)(rate:_)(rs:_)(r:_)(f:_)(j:_)(t:_)(ds:_)(os:_)(h0:vs=[m,iv,.int rate])(h1:RD K H m (dZ rs r f j t))(h2:fb rs r f j t)(h3:RD K H iv (.tuple ds))(h4:cn rs.length ds os)(h5:ds.length<=30)(h6:10<=rate)(h7:rate<=200)(h8:∀l ys H',H l=none->H' l=some (.lst ys)->aC K H' ys ((Dw r f j rate os).map bL)->aA H H'->Q (.ref l) H')
def Bg(K:a7):Sp:=λvs H Q _=>a3I K vs H Q
theorem IJ:bo ["machine","items","rate","risen"] ["machine","items","rate"] (aZ BV):=bE aJ
theorem Uu(F:FA K mg "plan_of" BV)(B:bB mg)(Er:ay P w K mg ao "own_bounds" 8 (yd K))(XO:ay P w K mg ao "kept_by_rise" 5 (HN K))(XQ:ay P w K mg ao "kept_by_fall" 5 (HX K)):ay P w K mg ao "plan_of" 9 (Bg K):=by
 refine F.has IJ (λvs H Q E h=>?_) (λ_ _ _ _ _ _=>j4 λ_ _ _=>rfl) (λfa aH A outer s H vs Q E hr h=>?_)
 ·obtain⟨m,iv,rate,rs,r,f,j,t,ds,os,rfl,_⟩:=h
  rfl
 ·obtain⟨m,iv,rate,rs,r,f,j,t,ds,os,rfl,rm,aP,ri,row,hz,bP,bR,k⟩:=h
  have nd:=IJ.nd;refine⟨_,(aB (pS 3 nd (pf XO hr (ai (pv 0) (ai (pv 1) (ai (pf Er hr (ai (pv 0) (ai (pv 1) (ai (pv 2) aq)))) aq))))) (aD (aU (pf XQ hr (ai (pv 0) (ai (pv 1) (ai (pv 3) aq))))))),?_⟩;have ll:=row.len;have hB:=Ow.DB aP.j1.1 aP.j1.2 bP bR row.oy;have hL:∀i m,leadF os i=some m->(2*r*(m:Int)).natAbs<2^24:=λi m e=>uJ aP.r1.1 aP.r1.2 (vR row.oy e);refine⟨_,Z,_,Z,_,Z,_,Z,_,Z,m,iv,rate,rs,r,f,j,t,ds,os,Z,rm,aP,ri,row,aI,bP,bR,λl1 y1 H1 KL d1 r1 s1=>?_⟩;refine⟨m,iv,l1,y1,rs,r,f,j,t,ds,os,ownF j rate os,Z,RD.mono s1 _ rm,aP,RD.mono s1 _ ri,row,hz,d1,r1,hB,λl2 y2 H2 VJ d2 r2 s2=>?_⟩;have fR:=s1.trans s2;refine⟨_,Z,_,Z,_,Z,m,iv,l2,y2,rs,r,f,j,t,ds,os,_,Z,RD.mono fR _ rm,aP,RD.mono fR _ ri,row,hz,d2,r2,λi hi=>(Ad hB hL i).mono aI,λl3 y3 H3 yT d3 r3 s3=>?_⟩;have nl:H l3=none:=by cases e:H l3 with |none=>rfl |some o=>have:=fR _ _ e;rw[yT]at this;cases this
  exact k l3 y3 H3 nl d3 r3 (fR.trans s3)
def RowW(ds:List af)(os:List Itm):Prop:=∀(i:Nat)(d:af),os[i]? =some none->ds[i]? =some d->fY d
theorem RowW.snoc{ds:List af}{os:List Itm}{d:af}{o:Itm}(h:RowW ds os)(hl:ds.length=os.length)(hd:o=none->fY d):RowW (ds++[d]) (os++[o]):=by
 intro i x e1 e2;rcases qf e1 with h1|⟨h1,Zm⟩
 ·rcases qf e2 with h2|⟨h2,_⟩
  ·exact h i x h1 h2
  ·have:=(cy.mp h1).1;lia
 ·rcases qf e2 with h2|⟨_,Zk⟩
  ·have:=(cy.mp h2).1;lia
  ·subst Zk;exact hd Zm.symm
def rM(rs pl:List Int)(os:List Itm):Prop:=∀i,i<=os.length->kN rs ((os.take i).foldl A4 pl)
theorem rM.nil{rs pl:List Int}(h:kN rs pl):rM rs pl []:=λi hi=>by simpa using h
theorem rM.snoc{rs pl:List Int}{os:List Itm}{o:Itm}(h:rM rs pl os)(g:kN rs (A4 (os.foldl A4 pl) o)):rM rs pl (os++[o]):=λi hi=>by
 rw[cD]at hi;by_cases c:i<=os.length
 ·rw[List.take_append_of_le_length c];exact h i c
 ·have e:i=(os++[o]).length:=by rw[cD];have:[o].length=1:=rfl;lia
  rw[e,AG,Ph];exact g
inductive a40(K:a7)(vs:List V)(H:Hp)(Q:VK):Prop |mk (p:_)(m:_)(rs:_)(r:_)(f:_)(j:_)(t:_)(jf:_)(pl:_)(many:_)(most:_)(h0:vs=[.ref p,m,jf,.int many,.int most])(h1:eQ H p)(h2:RD K H m (dZ rs r f j t))(h3:fb rs r f j t)(h4:RD K H jf (om pl))(h5:kN rs pl)(h6:1<=many)(h7:many<=20)(h8:1<=most)(h9:most<=100)(qS:∀v ds os H',RD K H' v (.tuple ds)->cn rs.length ds os->RowW ds os->(ds.length:Int)<=many/\rM rs pl os->aV p H H'->Q v H')
def Bm(K:a7):Sp:=λvs H Q _=>a40 K vs H Q
theorem Jd:bo ["_law_bag_here","_law_machine_here","_law_place_here","_law_many","_law_most","_law_items_here","_law_straight","_law_turn"] ["_law_bag_here","_law_machine_here","_law_place_here","_law_many","_law_most"] (aZ Cj):=bE aJ
theorem UT(F:FA K mg "_law_items" Cj)(B:bB mg)(cA:ay P w K mg ao "_law_take" 1 ka)(Z6:ay P w K mg ao "_law_other" 2 (HQ K))(Za:ay P w K mg ao "_law_line" 2 (Bk K)):ay P w K mg ao "_law_items" 3 (Bm K):=by
 refine F.has Jd (λvs H Q E h=>?_) (λ_ _ _ _ _ _=>FX λ_ _ _ _ _=>rfl) (λfa aH A outer s H vs Q E hr h=>?_)
 ·obtain⟨p,m,rs,r,f,j,t,jf,pl,many,most,rfl,_⟩:=h
  rfl
 ·obtain⟨p,m,rs,r,f,j,t,jf,pl,many,most,rfl,bg,rm,aP,sV,on,my1,my2,L9,L8,k⟩:=h
  have nd:=Jd.nd;refine⟨_,(aB (pS 5 nd (cI aq)) (aB (pS 6 nd (pf cA hr (ai (pv 0) (ai aw aq)))) (aB (fh eE Z (lA Z (B.at "range") (ai (pf cA hr (ai (pv 0) (ai (aG cm (pv 3) aw) aq))) aq)) (aX 7 nd) (aD (bD (bQ (dH K Z hr.units) (pf cA hr (ai (pv 0) (ai (aG cm aw (aG bJ aw (fj (x:="int") wO Z (B.at "int") rX (ai (fW (dH K rfl hr.units) (pv 6) aw (bC _)) aq)))) aq))) aw (bC _)) (aD (fU (gY K Z (pv 5) (ai (pf Z6 hr (ai (pv 0) aq)) aq)))) (aB (fU (gY K Z (pv 5) (ai (pf Za hr (ai (pv 0) (ai (pv 1) (ai (pv 2) (ai (pv 4) aq))))) aq))) (aD (pS 2 nd (fj (x:="tuple") (j9 K Z) Z (B.at "tuple") fN (ai (fV (N:=["_law_stand_here","_law_step"]) (js:=[none,none]) rfl rfl rfl (mP K rfl false false rfl (B.at "zip") (ai (pv 2) (ai (px K (px K (pv 5) (ki jY aw)) aw) aq))) (λ_ _ _ _ _=>(cV K rfl (n:=2) rfl (bF (aX 0 (hJ au)) (bF (aX 1 (hJ au)) cU)))) (λ_ _ _ _ _=>f6) (λ_ _ _ _ _=>(aG cm (pv 0) (pv 1)))) aq)))))))) (aD (aU (fj (x:="tuple") (j9 K Z) Z (B.at "tuple") fN (ai (pv 5) aq))))))),?_⟩;have lr:=aP.len;have nm:=Lf rs r f j t;refine⟨bA Z,λl H1 n1=>?_⟩;have b1:aV p H H1:=.cW bg n1.same;have lp:l≠p:=λz=>bg.ne (z▸n1.no);refine⟨_,Z,p,3,Z,b1.aM,au,au,λst H2 st0 B7 b2=>?_⟩;refine⟨_,Z,_,Z,_,_,Z,Z,p,many+1,Z,b2.aM,aI,aI,λcnt H3 c0 c1 b3=>?_⟩;have mi:=b1.trans (b2.trans b3);refine⟨_,Z,aI,aI,?_⟩;refine pe (Pv:=λi O H4=>aV p H H4/\∃zs es qs jf mM v1,(qs.foldl A4 pl=mM/\rM rs pl qs)/\H4 l=some (.lst zs)/\aC K H4 zs es/\cn rs.length es qs/\RowW es qs/\es.length<=i/\RD K H4 jf (om mM)/\kN rs mM/\O=[some (.ref p),some m,some jf,some (.int many),some (.int most),some (.ref l),some (.int st),v1]) ?_ ?_ ?_
  ·exact⟨mi,[],[],[],jf,pl,none,⟨Z,.nil on⟩,(b2.trans b3).same _ _ lp n1.at',cf,cn.nil,(λi d e=>by simp at e),ba _,RD.t (aV.t bg mi) _ (yG _) sV,on,Z⟩
  ·rintro i O H4 EF ⟨b4,zs,es,qs,jf,mM,v1,⟨wD,vk⟩,dl,rz,row,fy,hl,sV,on,rfl⟩
   have lz:=rz.length;refine⟨_,Z,_,Z,.inl ⟨_,_,Z,Z,.inr ⟨_,Z,?_⟩⟩⟩;refine⟨_,_,Z,Z,.of_left (ck au au),_,_,Z,Z,?_⟩;refine⟨p,_,Z,b4.aM,(by split<;>omega),(by split<;>omega),λg H5 g0 g1 b5=>?_⟩;have FR:=b4.trans b5;have zV:=b5.same _ _ lp dl;have t5:=aV.t b4.aM b5;have JN:=aC.t t5 _ row.no rz;have D7:=RD.t t5 _ (yG _) sV;refine .inl ⟨_,_,Z,Z,_,Z,?_⟩;refine eJ (λhc=>?_) (λhc=>?_)
   ·refine⟨_,Z,.inl ⟨Z,_,aF.of zV⟩,?_⟩
    refine⟨_,Z,p,Z,b5.aM,λov d H6 ro ot b6=>?_⟩;have it:=ot.it;have rj:=b6.same _ _ lp zV;have t6:=aV.t b5.aM b6;refine⟨l,zs,_,Z,Z,rj,sP _ aI,?_⟩;have tu:cR H6 (L2.upd H6 l (.lst (zs++[ov]))):=.fw rj;refine⟨(FR.trans b6).putL lp n1.no,_,_,_,_,mM,_,⟨by rw[Ph,wD];rfl,vk.snoc (by rw[wD];exact on)⟩,bX,aC.qg rj (aC.t t6 _ row.no JN) ro row.no it.no,row.snoc it (λvE vb e=>nomatch e),fy.snoc row.len (λ_=>ot),?_,RD.t (t6.trans tu) _ (yG _) D7,on,rfl⟩;rw[cD];show es.length+1<=i+1;omega
   ·refine⟨_,Z,.inl ⟨Z,_,aF.of zV⟩,?_⟩
    have yu:=RD.t (aV.t bg FR) _ nm rm;refine⟨_,Z,_,Z,_,Z,_,Z,p,m,rs,r,f,j,t,jf,mM,most,Z,b5.aM,yu,aP,D7,on,L9,L8,λlv ns sp H6 rl bW cL cZ yM b6=>?_⟩;have rj:=b6.same _ _ lp zV;have t6:=aV.t b5.aM b6;refine⟨l,zs,_,Z,Z,rj,sP _ aI,?_⟩;have tu:cR H6 (L2.upd H6 l (.lst (zs++[lv]))):=.fw rj;have b7:aV p H (L2.upd H6 l (.lst (zs++[lv]))):=(FR.trans b6).putL lp n1.no;have JM:=aC.qg rj (aC.t t6 _ row.no JN) rl row.no (E8 _ _);have JR:=RD.t (t6.trans tu) _ (yG _) D7;have JY:=RD.t tu _ (E8 _ _) rl;have Fw:(L2.upd H6 l (.lst (zs++[lv]))) l=some (.lst (zs++[lv])):=bX;generalize L2.upd H6 l (.lst (zs++[lv]))=H7 at b7 JM JR JY Fw⊢;have Si:cn rs.length (es++[fA ns sp]) (qs++[some (ns,sp)]):=row.snoc (.inl ⟨_,_,Z,Z⟩) λvE vb e=>by cases e;exact⟨bW,cL,cZ⟩
    obtain⟨pa,rfl,LV⟩:=Kh JR;obtain⟨la,lb,rfl,XI,M3⟩:=kn JY;have lpl:=on.len;refine⟨_,Z,_,Z,_,Z,.inl ⟨l,_,_,.ref la,Z,Z,aF.of Fw,FV (by simp),.inr ⟨la,_,1,.ref lb,Z,Z,XI,Z,pa,lb,Z,⟨_,LV⟩,⟨_,M3⟩,λD H8 n8=>?_⟩⟩⟩;have lns:=bW.len;refine ug (K:=K) (b1:=false) (b2:=false) (xs:=mM.map V.int) (ys:=ns.map V.int) (ds:=(nH mM ns).map PyData.int) _ Z LV M3 n8 (by rw[bu,bu,bu,Aa aI];omega) (by rw[bu,Aa aI];omega) (jN _) ?_ ?_
    ·intro q x y dd H9 Q' ex ey ed s9 hq
     rw[bN]at ex ey ed;obtain⟨x',ph,rfl⟩:=xB.mp ex;obtain⟨y',ey',rfl⟩:=xB.mp ey;rw[Of ph ey']at ed;cases ed;exact⟨_,Z,_,Z,_,_,Z,Z,hq _ _ (aA.refl _) (cM _)⟩
    ·intro H9 ys s9 d9 r9
     refine⟨D,_,Z,.inl ⟨aF.of d9,λtp gC mU=>?_⟩⟩;have CT:=s9.trans mU.same;have Nb:=mU.at';rw[r9.gP]at Nb;exact⟨b7.trans (.cW b7.aM CT),_,_,_,_,_,_,⟨by rw[Ph,wD];rfl,vk.snoc (by rw[wD];exact yM)⟩,CT _ _ Fw,aC.mono CT _ JM,Si,fy.snoc row.len (λe=>nomatch e),(by rw[cD];show es.length+1<=i+1;omega),Kg (aK.of Nb),yM,rfl⟩
  ·rintro O H4 ⟨b4,zs,es,qs,jf,mM,v1,⟨wD,vk⟩,dl,rz,row,fy,hl,sV,on,rfl⟩
   refine⟨_,Z,l,_,Z,.inl ⟨aF.of dl,λtq H5 n5=>?_⟩⟩;exact k (.ref tq) es qs H5 (dC (aK.of n5.at') (aC.mono n5.same _ rz)) row fy ⟨aI,vk⟩ (b4.trans (.cW b4.aM n5.same))
def ui(ti:Int)(q:Rat)(T:Int):Prop:=1<=T/\cX ti q T=true/\cX ti q (T-1)=false
open Classical in
noncomputable def kY(ti:Int)(q:Rat):Int:=if h:∃T,ui ti q T then h.choose else 0
theorem MY{ti:Int}{q:Rat}{s t:Int}(hq:0<=q.num)(h0:0<=s)(h:s<=t)(e:cX ti q s=true):cX ti q t=true:=by refine cj (Int.le_trans (gW e) ?_);exact a57 (Int.mul_le_mul h h h0 ak) hq
theorem Qk{ti:Int}{q:Rat}{S T:Int}(hq:0<=q.num)(h1:ui ti q S)(h2:ui ti q T):S=T:=by
 obtain⟨a1,a2,a3⟩:=h1;obtain⟨b1,b2,b3⟩:=h2;by_cases h:S<=T-1
 ·have:=MY hq ak h a2
  rw[b3]at this;cases this
 ·by_cases h':T<=S-1
  ·have:=MY hq ak h' b2
   rw[a3]at this;cases this
  ·lia
theorem xW{ti:Int}{q:Rat}{T:Int}(hq:0<=q.num)(h:ui ti q T):kY ti q=T:=by have hx:∃T,ui ti q T:=⟨T,h⟩;unfold kY;rw[dif_pos hx];exact Qk hq hx.choose_spec h
theorem yP{q:Rat}(h:0<q):0<q.num:=by
 have h1:=Rat.num_nonneg.mpr (Ay h);have h2:q.num≠0:=λe=>by rw[Rat.num_eq_zero.mp e]at h;exact absurd h au
 lia
noncomputable def jZ(ti:Int)(zs:List Int)(q:Rat):af:=.tuple [.str "step",.tuple (zs.map PyData.int),.int (kY ti q),bL q]
theorem R8(ti:Int)(zs:List Int)(q:Rat):cQ (jZ ti zs q)=true:=by simp[jZ,cQ,cg,jN,kg]
inductive a49(K:a7)(vs:List V)(H:Hp)(Q:VK):Prop |mk (m:_)(rv:_)(sq:_)(rs:_)(r:_)(f:_)(j:_)(ti:_)(zs:_)(q:_)(h0:vs=[m,rv,sq])(h1:RD K H m (dZ rs r f j ti))(h2:fb rs r f j ti)(h3:RD K H rv (.tuple (zs.map PyData.int)))(h4:bj K H sq q)(h5:Bd 2000 q)(h6:0<q)(h7:∀v H',RD K H' v (jZ ti zs q)->aA H H'->Q v H')
def Bq(K:a7):Sp:=λvs H Q _=>a49 K vs H Q
theorem Jr:bo ["machine","row","square"] ["machine","row","square"] (aZ CD):=bE aJ
theorem V9(F:FA K mg "step_entry" CD)(B:bB mg)(Xb:ay P w K mg ao "ticks_of" 2 (HH K)):ay P w K mg ao "step_entry" 3 (Bq K):=by
 refine F.has Jr (λvs H Q E h=>?_) (λ_ _ _ _ _ _=>j4 λ_ _ _=>rfl) (λf aH A outer s H vs Q E hr h=>?_)
 ·obtain⟨m,rv,sq,rs,r,f,j,ti,zs,q,rfl,_⟩:=h
  rfl
 ·obtain⟨m,rv,sq,rs,r,f,j,ti,zs,q,rfl,rm,aP,rr,Rq,bq,q0,k⟩:=h
  have nd:=Jr.nd;refine⟨_,(aD (aU (cF (ai dY (ai (pv 1) (ai (pf Xb hr (ai (pv 0) (ai (pv 2) aq))) (ai (pv 2) aq))))))),?_⟩;have t1:=aP.t1;have qn:0<q.num:=yP q0;refine⟨_,Z,_,Z,_,Z,m,sq,rs,r,f,j,ti,q,Z,rm,Rq,bq,t1.1,t1.2,qn,λT T1 _ T2 T3=>?_⟩;refine⟨_,Z,bA Z,λt H1 n1=>k (.ref t) H1 ?_ n1.same⟩;have e:=xW ak ⟨T1,T2,T3⟩;unfold jZ;rw[e];exact dC (aK.of n1.at') (bK (cE _) (bK (RD.mono n1.same _ rr) (bK (cM _) (bK (Rq.go n1.same).rd cf))))
noncomputable def lL(r f ti:Int)(ns:List Int)(top b e:Rat):List af:=(List.range (aE ns)).map λk=>jZ ti (fK ns k) (qx r f (aE ns) top b e k)
noncomputable def pq(r f j ti rate:Int)(ds:List af)(os:List Itm)(i:Nat):List af:=match os[i]? with |some (some (ns,sp))=>lL r f ti ns (topR rate sp) (iO r f j rate os i) (iO r f j rate os (i+1)) |_=>[ds.getD i .none]
noncomputable def kZ(r f j ti rate:Int)(ds:List af)(os:List Itm):Nat->List af |0=>[] |i+1=>kZ r f j ti rate ds os i++pq r f j ti rate ds os i
theorem E9(r f ti:Int)(ns:List Int)(top b e:Rat):cg (lL r f ti ns top b e)=true:=cP.mpr λd hd=>by obtain⟨k,_,rfl⟩:=fu.mp hd;exact R8 _ _ _
theorem Lc{r f:Int}{ld k:Nat}{top b e:Rat}(hr:1<=r)(hf:1<=f)(hk:k<ld)(ht:0<top)(hb:0<=b)(he:0<=e):0<qx r f ld top b e k:=by
 have pos:∀{x:Rat}{z:Int},0<=x->0<z->0<x+(z:Rat):=λ{x z} hx hz=>by have h1:((0:Int):Rat)<(z:Rat):=Rat.intCast_lt_intCast.mpr hz;have h2:x+((0:Int):Rat)<x+(z:Rat):=Rat.add_lt_add_left.mpr h1;rw[show((0:Int):Rat)=0 from Z,Rat.add_zero]at h2;exact Std.lt_of_le_of_lt hx h2
 have h1:=pos (z:=r*(2*(1+(k:Int))-1)) hb (gb ak ak);have h2:=pos (z:=f*(2*((ld:Int)-(1+(k:Int)))+1)) he (gb ak ak);unfold qx;rcases z9 (mn (b+((r*(2*(1+(k:Int))-1):Int):Rat)) top) (e+((f*(2*((ld:Int)-(1+(k:Int)))+1):Int):Rat))with h|h
 ·rw[h]
  rcases z9 (b+((r*(2*(1+(k:Int))-1):Int):Rat)) top with h'|h'<;>rw[h']<;>assumption
 ·rw[h];exact h2
theorem Hc{rate sp:Int}(h1:1<=sp)(h2:10<=rate):0<topR rate sp:=by
 have h0:=Ow.AX rate sp;refine Std.lt_of_le_of_ne h0 λe=>?_;have hp:0<(sp*rate)^2:=by rw[eZ,eZ,jW,jD];exact gb (gb ak ak) (gb ak ak)
 have h2:0<=Rat.divInt (-((sp*rate)^2)) 10000:=by rw[<-Rat.neg_divInt];show 0<=-(topR rate sp);rw[<-e];decide
 have:=(Az au).mp h2
 lia
def hZ(rate:Int)(ds:List af)(os:List Itm)(i:Nat):List af:=match os[i]? with |some (some (ns,sp))=>(List.range (aE ns)).map λk=>fF (fK ns k) (topR rate sp) |_=>[ds.getD i .none]
def fo(rate:Int)(ds:List af)(os:List Itm):Nat->List af |0=>[] |i+1=>fo rate ds os i++hZ rate ds os i
def jz(j rate:Int)(os:List Itm)(i:Nat):List Rat:=match os[i]? with |some (some (ns,sp))=>ownF j rate os i::List.replicate (aE ns-1) (topR rate sp) |_=>[ownF j rate os i]
def iz(j rate:Int)(os:List Itm):Nat->List Rat |0=>[] |i+1=>iz j rate os i++jz j rate os i
theorem qY{rate:Int}{ds:List af}{os:List Itm}{i:Nat}{ns:List Int}{sp:Int}(h:os[i]? =some (some (ns,sp))):hZ rate ds os i=(List.range (aE ns)).map λk=>fF (fK ns k) (topR rate sp):=by unfold hZ;rw[h]
theorem wH{rate:Int}{ds:List af}{os:List Itm}{i:Nat}{d:af}(h:os[i]? =some none)(hd:ds[i]? =some d):hZ rate ds os i=[d]:=by unfold hZ;rw[h,uD,hd];rfl
theorem wV{j rate:Int}{os:List Itm}{i:Nat}{ns:List Int}{sp:Int}(h:os[i]? =some (some (ns,sp))):jz j rate os i=ownF j rate os i::List.replicate (aE ns-1) (topR rate sp):=by unfold jz;rw[h]
theorem A5{j rate:Int}{os:List Itm}{i:Nat}(h:os[i]? =some none):jz j rate os i=[ownF j rate os i]:=by unfold jz;rw[h]
theorem Nd(zs:List Int)(q:Rat):cQ (fF zs q)=true:=by
 have:cg (zs.map PyData.int)=true:=cP.mpr λd hd=>by obtain⟨i,_,rfl⟩:=fu.mp hd;rfl
 simp[fF,cQ,cg,this,bL]
theorem ud{n:Nat}{rate:Int}{ds:List af}{os:List Itm}(row:cn n ds os):∀i,i<=os.length->(fo rate ds os i).length<=100*i/\cg (fo rate ds os i)=true
 |0,_=>⟨ba _,Z⟩ |i+1,h=>by
  have ll:=row.len;obtain⟨ih,WU⟩:=ud (rate:=rate) row i ak;obtain⟨o,eo⟩:∃o,os[i]? =some o:=⟨_,bw (show i<os.length by lia)⟩;have key:(hZ rate ds os i).length<=100/\cg (hZ rate ds os i)=true:=by cases o with |none=>obtain⟨d',ed⟩:∃d',ds[i]? =some d':=⟨_,bw (show i<ds.length by lia)⟩;rw[wH eo ed];have:=cP.mp row.no _ (fO ed);exact⟨by simp,by simp[cg,this]⟩ |some q=>obtain⟨ns,sp⟩:=q;obtain⟨bW,_,_⟩:=row.ok i ns sp eo;have:=lN bW;rw[qY eo,bu,gF];refine⟨ak,cP.mpr λd hd=>?_⟩;obtain⟨k,_,rfl⟩:=fu.mp hd;exact Nd _ _
  refine⟨?_,?_⟩
  ·show(fo rate ds os i++hZ rate ds os i).length<=_
   rw[cD];lia
  ·refine cP.mpr λd hd=>?_
   rcases jC.mp hd with h1|h1
   ·exact cP.mp WU d h1
   ·exact cP.mp key.2 d h1
theorem pJ{n:Nat}{j rate:Int}{ds:List af}{os:List Itm}(row:cn n ds os):∀i,i<=os.length->(iz j rate os i).length=(fo rate ds os i).length |0,_=>rfl |i+1,h=>by have ll:=row.len;show(iz j rate os i++jz j rate os i).length=(fo rate ds os i++hZ rate ds os i).length;rw[cD,cD,pJ row i ak];obtain⟨o,eo⟩:∃o,os[i]? =some o:=⟨_,bw (show i<os.length by lia)⟩;cases o with |none=>obtain⟨d',ed⟩:∃d',ds[i]? =some d':=⟨_,bw (show i<ds.length by lia)⟩;rw[wH eo ed,A5 eo];rfl |some q=>
 obtain⟨ns,sp⟩:=q;obtain⟨bW,_,_⟩:=row.ok i ns sp eo;have:=bW.lead;rw[qY eo,wV eo];simp
 lia
inductive a4e(K:a7)(vs:List V)(H:Hp)(Q:VK):Prop |mk (iv:_)(rate:_)(n:_)(ds:_)(os:_)(h0:vs=[iv,.int rate])(h1:RD K H iv (.tuple ds))(h2:cn n ds os)(h3:n<=3)(h4:ds.length<=30)(h5:10<=rate)(h6:rate<=200)(h7:∀l ys H',H l=none->H' l=some (.lst ys)->aC K H' ys (fo rate ds os os.length)->aA H H'->Q (.ref l) H')
def HZ(K:a7):Sp:=λvs H Q _=>a4e K vs H Q
theorem Jv:bo ["items","rate","due","item","top"] ["items","rate"] (aZ CI):=bE aJ
theorem Vc(F:FA K mg "due_entries" CI)(B:bB mg)(jP:ay P w K mg ao "is_line" 1 (nY K))(oP:ay P w K mg ao "top_square" 4 (sL K))(Eo:ay P w K mg ao "step_rows" 3 (yc K)):ay P w K mg ao "due_entries" 5 (HZ K):=by
 refine F.has Jv (λvs H Q E h=>?_) (λ_ _ _ _ _ _=>dn λ_ _=>rfl) (λfa aH A outer s H vs Q E hr h=>?_)
 ·obtain⟨iv,rate,n,ds,os,rfl,_⟩:=h
  rfl
 ·obtain⟨iv,rate,n,ds,os,rfl,ri,row,n3,hz,bP,bR,k⟩:=h
  have nd:=Jv.nd;refine⟨_,(aB (pS 2 nd (cI aq)) (aB (fh eE Z (kh K Z (pv 0)) (aX 3 nd) (aD (bD (bZ (pf jP hr (ai (pv 3) aq))) (aB (pS 4 nd (pf oP hr (ai (pv 3) (ai (pv 1) aq)))) (aD (fU (yJ K Z (pv 2) (ai (fV (N:=["row","top"]) (js:=[none,some 4]) Z Z Z (oo K Z (pf Eo hr (ai (pv 3) aq))) (λ_ _ _ _ _=>(aX 0 (hJ au))) (λ_ _ _ _ _=>f6) (λ_ _ _ _ _=>(cF (ai dY (ai (pv 0) (ai (pv 1) aq)))))) aq))))) (aD (fU (gY K Z (pv 2) (ai (pv 3) aq))))))) (aD (aU (pv 2))))),?_⟩;have ll:=row.len;have p8:sizeLine=16777216:=by decide
  refine⟨bA Z,λD H2 n2=>?_⟩;have nD:=n2.no;obtain⟨ia,xs,rfl,hi,da⟩:=ri.bT;have lx:=da.length;refine⟨_,Z,ia,Z,⟨_,hi.go n2.same⟩,ME (K:=K) (a:=ia) (xs:=xs) (λi O H3=>aA H H3/\∃zs v1 v2,H3 D=some (.lst zs)/\aC K H3 zs (fo rate ds os i)/\O=[some (.ref ia),some (.int rate),some (.ref D),v1,v2]) ⟨n2.same,[],none,none,n2.at',cf,Z⟩ (λi O H3 _ h=>hi.go h.1) ?_ ?_⟩
  ·rintro i y O H3 hy ⟨s3,zs,v1,v2,dz,rz,rfl⟩
   have tN:i<xs.length:=(cy.mp hy).1;obtain⟨d,ed,rd⟩:=da.get' i hy;obtain⟨o,eo,it⟩:=row.get ed;have yz:=RD.mono s3 _ rd;obtain⟨tl,tn⟩:=ud (rate:=rate) row i ak;have lz:=rz.length;refine⟨_,Z,y,d,o,Z,yz,it,_,Z,?_⟩;cases o with
   |none=>
    refine aQ ?_;refine⟨_,Z,.inl ⟨Z,_,aF.of dz⟩,_,Z,D,zs,_,Z,Z,dz,ak,?_⟩;refine⟨λb o e=>?_,_,_,_,bX,?_,Z⟩
    ·rw[bf (cC e nD)];exact s3 b o e
    ·show aC K _ _ (fo rate ds os i++hZ rate ds os i)
     rw[wH eo ed];exact aC.qg dz rz yz tn it.no |some q=>
    obtain⟨ns,sp⟩:=q;refine aY ?_;have jv:=jm it;subst jv;obtain⟨bW,cL,cZ⟩:=row.ok i ns sp eo;have ko:=lN bW;refine⟨_,Z,_,Z,y,ns,sp,rate,Z,yz,cL,cZ,bP,bR,λtv H4 Ae s4=>?_⟩;have gR:=s4 _ _ dz;refine⟨_,Z,.inl ⟨Z,_,aF.of gR⟩,?_⟩;refine⟨_,Z,y,ns,sp,Z,RD.mono s4 _ yz,⟨Z,λz hz=>by have:=bW.bd z hz;lia,bW.nz⟩,by rw[bW.len];lia,λl3 y3 H6 yT pF o9 s6=>?_⟩;have qy:=o9.length;rw[gK,bu,gF]at qy;refine⟨l3,Z,⟨_,aF.of pF⟩,λD2 H7 n7=>?_⟩;have nE:cg (hZ rate ds os i)=true:=by rw[qY eo];exact cP.mpr λd hd=>by obtain⟨k,_,rfl⟩:=fu.mp hd;exact Nd _ _
    have lE:(hZ rate ds os i).length=aE ns:=by rw[qY eo,bu,gF]
    refine Nx (K:=K) (ds:=hZ rate ds os i) _ (aF.of pF) n7 (by rw[lE,qy]) ak nE ?_ ?_
    ·intro q x dd H8 Q' ex pA s8 hq
     have hW:q<aE ns:=by have:=(cy.mp ex).1;lia
     obtain⟨d3,e3,r3⟩:=o9.get' q ex;rw[gK,bN,jV hW]at e3;cases e3;rw[qY eo,bN,jV hW]at pA;cases pA;refine⟨_,Z,_,Z,bA Z,λt H9 n9=>?_⟩;refine hq _ _ n9.same (dC (aK.of n9.at') (bK (cE _) (bK (RD.mono (s8.trans n9.same) _ r3) (bK (Ae.go ((s6.trans s8).trans n9.same)).rd cf))))
    ·intro H8 z8 s8 d8 r8
     have gJ:=s4.trans (s6.trans s8);have pD:=gJ _ _ dz;have l8:=r8.length;refine⟨D,D2,zs,z8,Z,Z,pD,d8,ak,?_⟩;have tu:cR H8 (L2.upd H8 D (.lst (zs++z8))):=.fw pD;refine⟨λb o e=>?_,_,_,_,bX,?_,Z⟩
     ·rw[bf (cC e nD)];exact gJ b o (s3 b o e)
     ·exact(aC.t tu _ tn (aC.mono gJ _ rz)).append (aC.t tu _ nE r8)
  ·rintro O H3 ⟨s3,zs,v1,v2,dz,rz,rfl⟩
   rw[lx,ll]at rz;exact⟨_,Z,k D zs H3 nD dz rz s3⟩
theorem ZQ(n:Nat)(v:V):(List.replicate n [v]).flatten=List.replicate n v:=by induction n with |zero=>rfl |succ n ih=>rw[pU,AK,ih,pU];rfl
theorem K2{H:Hp}{v:V}{q:Rat}(h:bj K H v q):∀n,aC K H (List.replicate n v) ((List.replicate n q).map bL) |0=>cf |n+1=>by rw[pU,pU,GA];exact bK h.rd (K2 h n)
inductive a4k(K:a7)(vs:List V)(H:Hp)(Q:VK):Prop |mk (m:_)(iv:_)(rate:_)(rs:_)(r:_)(f:_)(j:_)(t:_)(ds:_)(os:_)(h0:vs=[m,iv,.int rate])(h1:RD K H m (dZ rs r f j t))(h2:fb rs r f j t)(h3:RD K H iv (.tuple ds))(h4:cn rs.length ds os)(h5:ds.length<=30)(h6:10<=rate)(h7:rate<=200)(h8:∀l ys H',H l=none->H' l=some (.lst ys)->aC K H' ys ((iz j rate os os.length++[ownF j rate os os.length]).map bL)->aA H H'->Q (.ref l) H')
def Ib(K:a7):Sp:=λvs H Q _=>a4k K vs H Q
theorem JC:bo ["machine","items","rate","own","bounds","i","item"] ["machine","items","rate"] (aZ CQ):=bE aJ
theorem Vi(F:FA K mg "bounds_between" CQ)(B:bB mg)(Er:ay P w K mg ao "own_bounds" 8 (yd K))(jP:ay P w K mg ao "is_line" 1 (nY K))(oP:ay P w K mg ao "top_square" 4 (sL K))(jq:ay P w K mg ao "lead_of" 1 (iK K)):ay P w K mg ao "bounds_between" 9 (Ib K):=by
 refine F.has JC (λvs H Q E h=>?_) (λ_ _ _ _ _ _=>j4 λ_ _ _=>rfl) (λfa aH A outer s H vs Q E hr h=>?_)
 ·obtain⟨m,iv,rate,rs,r,f,j,t,ds,os,rfl,_⟩:=h
  rfl
 ·obtain⟨m,iv,rate,rs,r,f,j,t,ds,os,rfl,rm,aP,ri,row,hz,bP,bR,k⟩:=h
  have nd:=JC.nd;refine⟨_,(aB (pS 3 nd (pf Er hr (ai (pv 0) (ai (pv 1) (ai (pv 2) aq))))) (aB (pS 4 nd (cI aq)) (aB (fh eE Z (tj K Z false Z (B.at "enumerate") (ai (pv 1) aq)) (cV K rfl (n:=2) rfl (bF (aX 5 nd) (bF (aX 6 nd) cU))) (aB (fU (gY K Z (pv 4) (ai (px K (pv 3) (pv 5)) aq))) (aD (bD (bZ (pf jP hr (ai (pv 6) aq))) (aD (fU (yJ K Z (pv 4) (ai (aG TN (cI (ai (pf oP hr (ai (pv 6) (ai (pv 2) aq))) aq)) (aG gs (pf jq hr (ai (pv 6) aq)) aw)) aq)))) bH)))) (aD (aU (aG (A0 K Z) (pv 4) (cI (ai (px K (pv 3) (ki jY aw)) aq)))))))),?_⟩;have ll:=row.len;have lr:=aP.len;have p8:sizeLine=16777216:=by decide
  refine⟨_,Z,_,Z,_,Z,m,iv,rate,rs,r,f,j,t,ds,os,Z,rm,aP,ri,row,ak,bP,bR,λl1 y1 H1 KL zW vn s1=>?_⟩;have za:=vn.length;rw[bu,ownL,bu,gF]at za;have own:∀(c:Nat)(u:V)(H':Hp),c<=os.length->y1[c]? =some u->aA H1 H'->bj K H' u (ownF j rate os c):=by intro c u H' hc e t';obtain⟨d1,e1,r1⟩:=vn.get' c e;rw[bN,ownL,bN,jV ak]at e1;cases e1;exact(fS r1).go t'
  refine⟨bA Z,λD H2 n2=>?_⟩;have nD:H D=none:=by cases e:H D with |none=>rfl |some o=>have:=s1 _ _ e;rw[n2.no]at this;cases this
  obtain⟨ia,xs,rfl,hi,da⟩:=ri.bT;have lx:=da.length;have VC:∀i,cg ((iz j rate os i).map bL)=true:=λi=>lI _;refine⟨_,Z,ia,Z,⟨_,hi.go (s1.trans n2.same)⟩,u6 (K:=K) (b:=false) (a:=ia) (xs:=xs) (λi O H3=>aA H1 H3/\∃zs v1 v2,H3 D=some (.lst zs)/\aC K H3 zs ((iz j rate os i).map bL)/\O=[some m,some (.ref ia),some (.int rate),some (.ref l1),some (.ref D),v1,v2]) ⟨n2.same,[],none,none,n2.at',cf,Z⟩ (λi O H3 _ h=>hi.go (s1.trans h.1)) ?_ ?_⟩
  ·rintro i y O H3 hy ⟨s3,zs,v1,v2,dz,rz,rfl⟩ T H4 n4
   have tN:i<xs.length:=(cy.mp hy).1;obtain⟨d,ed,rd⟩:=da.get' i hy;obtain⟨o,eo,it⟩:=row.get ed;have jK:=s3.trans n4.same;have s4:=s1.trans jK;have gR:=n4.same _ _ dz;have qi:=aC.mono n4.same _ rz;have oh:=RD.mono s4 _ rd;have lz:=rz.length;rw[bu,pJ row i ak]at lz;have tl:=(ud (rate:=rate) row i ak).1;obtain⟨z0,iX⟩:∃z,y1[i]? =some z:=⟨_,bw (show i<y1.length by lia)⟩;have R0:=own i z0 H4 ak iX jK;have jw:=jK _ _ zW;refine⟨T,_,Z,aK.of n4.at',Z,_,_,Z,_,_,Z,Z,?_⟩;refine⟨_,Z,.inl ⟨Z,_,aF.of gR⟩,?_⟩;refine⟨_,Z,_,Z,.inl ⟨l1,_,_,z0,Z,Z,aF.of jw,cK ak (by simpa using iX),?_⟩⟩;refine⟨D,zs,z0,Z,Z,gR,ak,?_⟩;have t5:cR H4 (L2.upd H4 D (.lst (zs++[z0]))):=.fw gR;have o8:aA H1 (L2.upd H4 D (.lst (zs++[z0]))):=λb o e=>by rw[bf (cC e n2.no)];exact jK b o e
   have d5:(L2.upd H4 D (.lst (zs++[z0]))) D=some (.lst (zs++[z0])):=bX;have r5:aC K (L2.upd H4 D (.lst (zs++[z0]))) (zs++[z0]) ((iz j rate os i++[ownF j rate os i]).map bL):=by rw[i8];exact aC.qg gR qi R0.rd (VC i) (kg _)
   generalize L2.upd H4 D (.lst (zs++[z0]))=H5 at t5 o8 d5 r5⊢;have s5:=s1.trans o8;have De:=RD.mono s5 _ rd;refine⟨_,Z,y,d,o,Z,De,it,_,Z,?_⟩;cases o with |none=>refine aQ ⟨o8,_,_,_,d5,?_,Z⟩;show aC K H5 _ ((iz j rate os i++jz j rate os i).map bL);rw[A5 eo];exact r5 |some q=>
    obtain⟨ns,sp⟩:=q;refine aY ?_;have jv:=jm it;subst jv;obtain⟨bW,cL,cZ⟩:=row.ok i ns sp eo;have ko:=lN bW;have lT:=bW.lead;refine⟨_,Z,.inl ⟨Z,_,aF.of d5⟩,?_⟩;refine⟨_,Z,_,Z,y,ns,sp,rate,Z,De,cL,cZ,bP,bR,λtv H6 Rt6 s6=>?_⟩;refine⟨bA Z,λlt H7 n7=>?_⟩;refine⟨_,Z,y,ns,sp,Z,RD.mono (s6.trans n7.same) _ De,bW.ne,by rw[bW.len];lia,λH8 s8=>?_⟩;have d7:=s8 _ _ n7.at';have ek:((aE ns:Int)-1).toNat=aE ns-1:=by lia
    refine⟨_,_,Z,Z,lt,_,_,Z,Z,d7,ak,ak,by rw[ek];show 1*_<=_;lia,λlp VF=>?_⟩;rw[ek,ZQ];have n9:Nw H8 (L2.upd H8 lp (.lst (List.replicate (aE ns-1) tv))) lp (.lst (List.replicate (aE ns-1) tv)):=.of VF;generalize L2.upd H8 lp (.lst (List.replicate (aE ns-1) tv))=H9 at n9⊢;have mF:=s6.trans (n7.same.trans (s8.trans n9.same));have d9:=mF _ _ d5;refine⟨D,lp,_,_,Z,Z,d9,n9.at',by rw[cD,List.length_replicate];show _+1+_<=_;lia,?_⟩;have t9:cR H9 (L2.upd H9 D (.lst (zs++[z0]++List.replicate (aE ns-1) tv))):=.fw d9;refine⟨λb o e=>?_,_,_,_,bX,?_,Z⟩
    ·rw[bf (cC e n2.no)];exact mF b o (o8 b o e)
    ·show aC K _ _ ((iz j rate os i++jz j rate os i).map bL)
     have eb:iz j rate os i++jz j rate os i=(iz j rate os i++[ownF j rate os i])++List.replicate (aE ns-1) (topR rate sp):=by rw[wV eo];simp
     rw[eb,i8];exact(aC.t t9 _ (lI _) (aC.mono mF _ r5)).append (aC.t t9 _ (lI _) (K2 (Rt6.go (n7.same.trans (s8.trans n9.same))) _))
  ·rintro O H3 ⟨s3,zs,v1,v2,dz,rz,rfl⟩
   rw[lx,ll]at rz;have lz:=rz.length;rw[bu,pJ row _ (ba _)]at lz;have tl:=(ud (rate:=rate) row _ (ba _)).1;obtain⟨z0,iX⟩:∃z,y1[os.length]? =some z:=⟨_,bw (show os.length<y1.length by lia)⟩;have R0:=own _ z0 H3 (ba _) iX s3;refine⟨_,Z,_,Z,1,Z,.inl ⟨l1,_,-1,z0,Z,Z,aF.of (s3 _ _ zW),FV (by rw[Pg,za];exact iX),?_⟩⟩;refine⟨bA Z,λl5 H4 n4=>?_⟩;refine⟨D,l5,_,_,Z,Z,aF.of (n4.same _ _ dz),aF.of n4.at',by show _+1<=_;lia,λl6 H5 n5=>?_⟩;have VI:H l6=none:=by cases e:H l6 with |none=>rfl |some o=>have:=n4.same _ _ (s3 _ _ (s1 _ _ e));rw[n5.no]at this;cases this
   have vf:=n4.same.trans n5.same;refine k l6 _ H5 VI n5.at' ?_ (s1.trans (s3.trans vf));rw[i8];exact(aC.mono vf _ rz).append (bK (R0.go vf).rd cf)
def gL(sq:Nat->Option Rat):Nat->Option Rat |0=>none |k+1=>sq k
def df(j rate:Int)(os:List Itm):List Rat:=iz j rate os os.length++[ownF j rate os os.length]
theorem Hf{ti:Int}{q:Rat}(h0:1<=ti):∀n:Nat,1<=n->cX ti q (n:Int)=true->∃T:Int,T<=n/\ui ti q T |0,h,_=>by lia |n+1,_,h=>by cases e:cX ti q (n:Int)with |false=>exact⟨((n+1:Nat):Int),jE _,ak,h,by rw[Int.natCast_add,Int.natCast_one,Int.add_sub_cancel];exact e⟩ |true=>
 by_cases hn:1<=n
 ·obtain⟨T,h1,h2⟩:=Hf h0 n hn e
  exact⟨T,ak,h2⟩
 ·have hn:n=0:=by lia
  subst hn;have e:=gW e;have hp:0<ti*ti*(q.den:Int):=gb (gb ak ak) (by have:=q.den_pos;lia);simp at e
  lia
theorem xV{ti:Int}{q:Rat}(h1:1<=ti)(h2:ti<=100)(q0:0<q)(bq:Bd 2000 q):1<=kY ti q/\(kY ti q).natAbs<2^2400/\cX ti q (kY ti q)=true/\cX ti q (kY ti q-1)=false:=by
 have hn:=yP q0;have hd:=q.den_pos;have e:cX ti q ((ti.toNat*q.den:Nat):Int)=true:=by
  refine cj ?_;have et:((ti.toNat*q.den:Nat):Int)=ti*(q.den:Int):=by rw[Int.natCast_mul,Pl ak]
  rw[et];have p1:0<=ti*ti*(q.den:Int):=mC (mC ak ak) ak;have:ti*(q.den:Int)*(ti*(q.den:Int))*q.num=(ti*ti*(q.den:Int))*((q.den:Int)*q.num):=by simp only[Int.mul_comm,Int.mul_left_comm,uG]
  rw[this];have p2:1<=(q.den:Int)*q.num:=by
   have:0<(q.den:Int)*q.num:=gb ak hn
   lia
  have:=Pp p2 p1;rw[Int.mul_one]at this;exact this
 obtain⟨T,hT,tc⟩:=Hf h1 (ti.toNat*q.den) (Nat.mul_pos ak hd) e;have eT:=xW (AO hn) tc;rw[eT];refine⟨tc.1,?_,tc.2.1,tc.2.2⟩;have b1:ti.toNat*q.den<128*2^2000:=Nat.mul_lt_mul_of_lt_of_le ak (Gu bq.den) (Nat.two_pow_pos _);have b2:128*2^2000<=2^2400:=by rw[show 128=2^7 from Z,<-Nat.pow_add];exact uw au au
 have:=tc.1
 lia
theorem NT{rs:List Int}{r f j t rate:Int}{ds:List af}{os:List Itm}(aP:fb rs r f j t)(row:cn rs.length ds os)(bP:10<=rate)(bR:rate<=200):∀b∈df j rate os,Bd 1900 b:=by
 have hB:=Ow.DB aP.j1.1 aP.j1.2 bP bR row.oy;have key:∀i,i<=os.length->∀b∈iz j rate os i,Bd 1900 b:=by intro i;induction i with |zero=>intro _ b hb;exact(fq hb).elim |succ i ih=>
  intro hi b hb;rcases jC.mp hb with h1|h1
  ·exact ih ak b h1
  ·obtain⟨o,eo⟩:∃o,os[i]? =some o:=⟨_,bw (show i<os.length by lia)⟩
   cases o with |none=>rw[A5 eo,mz]at h1;rw[h1];exact(hB i).mono au |some q=>
    obtain⟨ns,sp⟩:=q;obtain⟨bW,cL,cZ⟩:=row.ok i ns sp eo;rw[wV eo]at h1;rcases dj.mp h1 with h1|h1
    ·rw[h1];exact(hB i).mono au
    ·rw[(List.mem_replicate.mp h1).2];exact(Ow.jG cL cZ bP bR).mono au
 intro b hb;rcases jC.mp hb with h1|h1
 ·exact key _ (ba _) b h1
 ·rw[mz.mp h1];exact(hB _).mono au
inductive a4h(K:a7)(vs:List V)(H:Hp)(Q:VK):Prop |mk (m:_)(iv:_)(rate:_)(rs:_)(r:_)(f:_)(j:_)(t:_)(ds:_)(os:_)(h0:vs=[m,iv,.int rate])(h1:RD K H m (dZ rs r f j t))(h2:fb rs r f j t)(h3:RD K H iv (.tuple ds))(h4:cn rs.length ds os)(h5:ds.length<=100)(h6:10<=rate)(h7:rate<=200)(h8:∀l ys H',H l=none->H' l=some (.lst ys)->aC K H' ys ((ownL j rate os).map bL)->aA H H'->Q (.ref l) H')
def Bt(K:a7):Sp:=λvs H Q _=>a4h K vs H Q
def gZ(j rate:Int)(os:List Itm)(i:Nat):List Rat:=(List.range (os.length+1)).map λk=>if k<=i then ownF j rate os k else 0
theorem tm(j rate:Int)(os:List Itm)(i:Nat){k:Nat}(h:k<=os.length):(gZ j rate os i)[k]? =some (if k<=i then ownF j rate os k else 0):=by unfold gZ;rw[bN,bw (by simp;lia),uB];rfl
theorem mQ(j rate:Int)(os:List Itm)(i:Nat):(gZ j rate os i).length=os.length+1:=by simp[gZ]
theorem Kn(j rate:Int)(os:List Itm)(i:Nat)(h:i+1<=os.length):(gZ j rate os i).set (i+1) (ownF j rate os (i+1))=gZ j rate os (i+1):=by
 apply uE;intro k;by_cases hk:k<=os.length
 ·rw[tm j rate os (i+1) hk,List.getElem?_set]
  by_cases e:i+1=k
  ·subst e
   rw[aR Z,aR (by rw[mQ];lia),aR (ba _)]
  ·rw[aO e,tm j rate os i hk]
   congr 1;by_cases h1:k<=i
   ·rw[aR h1,aR ak]
   ·rw[aO h1,aO ak]
 ·rw[j7 (by rw[sf,mQ];lia),j7 (by rw[mQ];lia)]
theorem TF(j rate:Int)(os:List Itm)(i:Nat)(h:i+1<=os.length)(e:ownF j rate os (i+1)=0):gZ j rate os (i+1)=gZ j rate os i:=by
 apply uE;intro k;by_cases hk:k<=os.length
 ·rw[tm j rate os (i+1) hk,tm j rate os i hk]
  congr 1;by_cases h1:k<=i
  ·rw[aR h1,aR ak]
  ·rw[aO h1]
   by_cases h2:k=i+1
   ·subst h2;rw[aR (ba _),e]
   ·rw[aO ak]
 ·rw[j7 (by rw[mQ];lia),j7 (by rw[mQ];lia)]
theorem Jz:bo ["_law_machine_here","_law_items_here","_law_rate","_law_found","_law_border","_law_one","_law_other_here","_law_a","_law_b","_law_gap","_law_corner"] ["_law_machine_here","_law_items_here","_law_rate"] (aZ CM):=bE aJ
theorem Vg(F:FA K mg "_law_bounds" CM)(B:bB mg)(tS:ay P w K mg ao "_law_lead" 1 (iK K))(zD:ay P w K mg ao "_law_min" 2 (l7 K))(tQ:ay P w K mg ao "_law_top" 2 (uW K))(qQ:ay P w K mg ao "_law_frac" 1 (sN K)):ay P w K mg ao "_law_bounds" 3 (Bt K):=by
 refine F.has Jz (λvs H Q E h=>?_) (λ_ _ _ _ _ _=>j4 λ_ _ _=>rfl) (λf aH A outer s H vs Q E hr h=>?_)
 · obtain⟨m,iv,rate,rs,r,f,j,t,ds,os,rfl,_⟩:=h
   rfl
 · obtain⟨m,iv,rate,rs,r,f,j,t,ds,os,rfl,rm,aP,ri,row,hz,bP,bR,k⟩:=h
   have nd:=Jz.nd;refine⟨_,(aB (yE (i0:=3) nd Z (Or.inl Z) (N:=["_law_border"]) (js:=[none]) Z Z Z (lA Z (B.at "range") (ai (aG cm (eH K B (ai (pv 1) aq)) aw) aq)) (λ_ _ _ _ _=>(aX 0 (oF _))) (λ_ _ _ _ _=>f6) (λ_ _ _ _ _=>(cF (ai aw (ai aw aq))))) (aB (fh eE Z (Dy Z (B.at "range") (ai aw (ai (eH K B (ai (pv 1) aq)) aq))) (aX 4 nd) (aB (mL (i:=5) (j:=6) Z nd Z Z au Z Z (ai (px K (pv 1) (aG gs (pv 4) aw)) (ai (px K (pv 1) (pv 4)) aq)) Z) (aD (bD (PW.pt (sZ (bQ (dH K Z hr.units) (px K (pv 5) aw) dY (bC _)) (vq (bQ (dH K Z hr.units) (px K (pv 6) aw) dY (bC _))))) (aB (eG (cF (ai (pf tS hr (ai (pv 5) aq)) (ai (pf tS hr (ai (pv 6) aq)) aq))) (cV K Z (n:=2) Z (bF (aX 7 nd) (bF (aX 8 nd) cU)))) (aB (pS 9 nd (dk (x:="max") (DV K Z Z) Z (B.at "max") Gp (ai (fV (N:=["_law_x","_law_y","_law_b","_law_a"]) (js:=[none,none,some 8,some 7]) rfl rfl rfl (mP K rfl false false rfl (B.at "zip") (ai (px K (pv 5) aw) (ai (px K (pv 6) aw) aq))) (λ_ _ _ _ _=>(cV K rfl (n:=2) rfl (bF (aX 0 (show List.Nodup (["_law_x","_law_y","_law_b","_law_a"]:List Str) by decide+kernel)) (bF (aX 1 (show List.Nodup (["_law_x","_law_y","_law_b","_law_a"]:List Str) by decide+kernel)) cU)))) (λ_ _ _ _ _=>f6) (λ_ _ _ _ _=>(dk (x:="abs") mh rfl (B.at "abs") nO (ai (aG gs (aG bJ (pv 0) (pv 2)) (aG bJ (pv 1) (pv 3))) aq)))) aq))) (aB (eG (pf zD hr (ai (cI (ai (pf tQ hr (ai (pv 5) (ai (pv 2) aq))) (ai (pf tQ hr (ai (pv 6) (ai (pv 2) aq))) aq))) aq)) (oq (pv 3) (pv 4) set_list)) (aD (bD (bQ lC (pv 9) aw (bC _)) (aB (pS 10 nd (pf qQ hr (ai (aG qo (aG bJ (aG bJ (px K (pv 0) aw) (pv 7)) (pv 8)) aw) (ai (aG qo (pv 9) aw) aq)))) (aD (eG (pf zD hr (ai (cI (ai (px K (pv 3) (pv 4)) (ai (pv 10) aq))) aq)) (oq (pv 3) (pv 4) set_list)))) bH))))) bH)))) (aD (aU (pv 3))))),?_⟩;obtain⟨ia,xs,rfl,hi,da⟩:=ri.bT;obtain⟨ma,mb,rfl,fD,jO⟩:=km rm;have lx:=da.length;have ll:=row.len;have lr:=aP.len;refine⟨_,Z,ia,_,Z,.inr hi,_,_,Z,Z,_,Z,ak,ak,λD H1 n1=>?_⟩;have eN:((xs.length:Int)+1).toNat=os.length+1:=by lia
   rw[eN];refine Nv (K:=K) (lo:=0) (n:=os.length+1) (ds:=(gZ j rate os 0).map bL) _ n1 (by rw[bu,mQ]) ak (lI _) ?_ ?_
   · intro i d H2 Q' ed s2 hq
     have M6:i<=os.length:=by have:=(cy.mp ed).1;rw[bu,mQ]at this;lia
     have e0:d=bL 0:=by
      rw[bN,tm j rate os 0 M6]at ed;have:=(dv ed).symm;rw[this];congr 1;split
      · next h => have:i=0:=by lia
                  subst this;rfl
      ·rfl
     subst e0;refine⟨bA Z,λz H3 n3=>?_⟩;exact hq _ _ n3.same (bj.rd ⟨z,Z,aK.of n3.at'⟩)
   intro H2 ys s2 d2 r2;refine⟨_,Z,ia,_,Z,.inr (hi.go s2),_,_,Z,⟨au,au,ak,ak⟩,?_⟩;refine pe (Pv:=λi O H5=>aA H H5/\∃(ys:List V)(v1 v2 v3 v4 v5 v6 v7:Option V),H5 D=some (.lst ys)/\aC K H5 ys ((gZ j rate os i).map bL)/\O=[some (.ref ma),some (.ref ia),some (.int rate),some (.ref D),v1,v2,v3,v4,v5,v6,v7]) ?_ ?_ ?_
   ·exact⟨s2,ys,none,none,none,none,none,none,none,d2,r2,Z⟩
   · rintro i O H5 nq ⟨s5,ys,v1,v2,v3,v4,v5,v6,v7,dl,lj,rfl⟩
     have Y2:i+1<os.length:=by lia
     have qV:=bw (show i<os.length by lia);have pk:=bw Y2;obtain⟨x1,MS⟩:∃x,xs[i]? =some x:=⟨_,bw (show i<xs.length by lia)⟩;obtain⟨x2,MR⟩:∃x,xs[i+1]? =some x:=⟨_,bw (show i+1<xs.length by lia)⟩;obtain⟨d1,e1,r1⟩:=da.get' i MS;obtain⟨d2,e2,r2⟩:=da.get' (i+1) MR;have i1:=row.it i d1 _ e1 qV;have i2:=row.it (i+1) d2 _ e2 pk;have zv:ownF j rate os (i+1)=betR j rate os[i] os[i+1]:=by show betR j rate (atO os i) (atO os (i+1))=_;rw[Ow.rF qV,Ow.rF pk]
     have pC:((1:Int)+(i:Int)-1).toNat=i:=by lia
     have Fp:((1:Int)+(i:Int)).toNat=i+1:=by lia
     have ml:dI xs ((1:Int)+(i:Int)-1)=some x1:=cK ak (by rw[pC];exact MS);have at2:dI xs ((1:Int)+(i:Int))=some x2:=cK ak (by rw[Fp];exact MR);have M9:=hi.go s5;obtain⟨a1,w1,y1,rfl,h1,ew1,QT⟩:=zm (RD.mono s5 _ r1) i1;obtain⟨a2,w2,y2,rfl,h2,ew2,QS⟩:=zm (RD.mono s5 _ r2) i2;have same:os[i]=none\/os[i+1]=none->aC K H5 ys ((gZ j rate os (i+1)).map bL):=λhn=>by
      rw[TF j rate os i ak]
      ·exact lj
      · rw[zv]
        rcases hn with e|e
        ·rw[e];exact Ow.a2p _ _ _
        ·rw[e];exact Ow.FO _ _ _
     refine⟨_,Z,_,Z,_,_,Z,Z,.inr ⟨ia,_,_,_,Z,Z,M9,ml,_,Z,_,Z,.inr ⟨ia,_,_,_,Z,Z,M9,at2,_,_,Z,?_⟩⟩⟩;refine⟨_,Z,.inr ⟨a1,_,0,.str w1,Z,Z,h1,cK (jE 0) Z,.inr ⟨_,_,cE _,cE _,QT,ze,_,Z,?_⟩⟩⟩;rw[ew1];cases Eu:os[i]with |none=>exact aQ ⟨s5,ys,_,_,_,_,_,_,_,dl,same (.inl Eu),Z⟩ |some q1=>refine aY ?_;refine⟨_,Z,.inr ⟨a2,_,0,.str w2,Z,Z,h2,cK (jE 0) Z,.inr ⟨_,_,cE _,cE _,QS,ze,_,Z,?_⟩⟩⟩;rw[ew2];cases iU:os[i+1]with |none=>exact aQ ⟨s5,ys,_,_,_,_,_,_,_,dl,same (.inr iU),Z⟩ |some q2=>
         refine aY ?_;obtain⟨ns,sp⟩:=q1;obtain⟨ms,sq⟩:=q2;rw[Eu]at i1 qV;rw[iU]at i2 pk;have ed1:=jm i1;have ed2:=jm i2;subst ed1 ed2;obtain⟨dN,p1,p2⟩:=row.ok i ns sp qV;obtain⟨dF,q1,q2⟩:=row.ok (i+1) ms sq pk;have T1:Bd 2000 (topR rate sp):=(Ow.jG p1 p2 bP bR).mono au;have T2:Bd 2000 (topR rate sq):=(Ow.jG q1 q2 bP bR).mono au;have l1:=lN dN;have l2:=lN dF;have lq1:=dN.lead.1;have jk:=dF.lead.1;have ln1:ns.length<=3:=by rw[dN.len];lia
         have ln2:ms.length<=3:=by rw[dF.len];lia
         have Lm:ms.length=ns.length:=by rw[dN.len,dF.len]
         refine⟨_,Z,_,ns,sp,Z,RD.mono s5 _ r1,dN.ne,ak,λH6 s6=>?_⟩;have yk:=s5.trans s6;refine⟨_,Z,_,ms,sq,Z,RD.mono yk _ r2,dF.ne,ak,λH7 s7=>?_⟩;refine⟨bA Z,λtq H7' DP=>?_⟩;refine⟨tq,_,Z,aK.of DP.at',Z,_,_,Z,_,_,Z,Z,?_⟩;have kf:=yk.trans (s7.trans DP.same);have RX:=s6.trans (s7.trans DP.same);obtain⟨a1',b1,ea1,YD,wj⟩:=kn (RD.mono kf _ r1);obtain⟨a2',b2,ea2,YC,oY⟩:=kn (RD.mono kf _ r2);cases ea1;cases ea2;refine⟨_,Z,.inr ⟨a1,_,1,.ref b1,Z,Z,YD,Z,_,Z,.inr ⟨a2,_,1,.ref b2,Z,Z,YC,Z,b1,b2,Z,⟨_,wj⟩,⟨_,oY⟩,λD4 H8 n8=>?_⟩⟩⟩;refine ug (K:=K) (b1:=false) (b2:=false) (xs:=ns.map V.int) (ys:=ms.map V.int) (ds:=((cw ns ms).map gk).map PyData.int) _ Z wj oY n8 (by simp[cw]) (by simp[cw];lia) (jN _) ?_ ?_
         · intro i x y d H9 Q' ex ey ed s9 hq
           obtain⟨a,b,e1,e2,rfl,rfl⟩:=zip2 Lm ex ey;obtain⟨m,em,rfl⟩:=mV ed;rw[bN,GH e1 e2]at em;cases em;have q1:=dN.bd a (fO e1);have q2:=dF.bd b (fO e2);refine⟨_,Z,_,Z,_,_,Z,Z,.of_left (ck ak ak),?_⟩;refine⟨_,Z,_,Z,_,_,Z,Z,.of_left (ck ak ak),?_⟩;exact⟨_,_,Z,Z,_,Z,hq _ _ (aA.refl _) (cM _)⟩
         intro H9 zs s9 d9 r9;rw[r9.gP]at d9;have iY:cw ns ms≠[]:=by
          have hl:(cw ns ms).length=ns.length:=by simp[cw,Lm]
          intro e;rw[e]at hl;exact dN.ne (Pf.mp hl.symm)
         refine⟨D4,_,Z,aF.of d9,by simpa using iY,λM h1 h2=>?_⟩;have eM:=Ea iY h1 h2;subst eM;have mF:=kf.trans s9;have RW:=RX.trans s9;refine⟨_,Z,_,Z,_,ns,sp,rate,Z,RD.mono mF _ r1,p1,p2,bP,bR,λt1 gC D6 jb=>?_⟩;refine⟨_,Z,_,Z,_,ms,sq,rate,Z,RD.mono (mF.trans jb) _ r2,q1,q2,bP,bR,λt2 gB D5 qh=>?_⟩;refine⟨bA Z,λlm pQ yX=>?_⟩;have R1:bj K pQ t1 (topR rate sp):=(D6.go qh).go yX.same;have R2:bj K pQ t2 (topR rate sq):=D5.go yX.same;refine⟨lm,[t1,t2],[topR rate sp,topR rate sq],Z,aF.of yX.at',⟨R1,T1,R2,T2,trivial⟩,by simp,λc lv q ec1 N8 hq=>?_⟩;have ku:mn (topR rate sp) (topR rate sq)=q:=by
          refine oH ?_ (hq _ (by simp)) (hq _ (by simp))
          match c,N8 with |0,e2=>cases e2;exact .inl rfl |1,e2=>cases e2;exact .inr rfl
         have rl:bj K pQ lv (mn (topR rate sp) (topR rate sq)):=by
          rw[ku]
          match c,ec1,N8 with |0,e1,e2=>cases e1;cases e2;exact R1 |1,e1,e2=>cases e1;cases e2;exact R2
         have RV:=jb.trans (qh.trans yX.same);have CU:=RW.trans RV;have Fx:=CU _ _ dl;have ly:=lj.length;rw[bu,mQ]at ly;have zl:gc ys.length ((1:Int)+(i:Int))=some (i+1):=by unfold gc;rw[aR ak,aR ak,Fp]
         refine⟨_,Z,_,Z,D,ys,_,_,Z,Z,Fx,zl,?_⟩;have Dd:=aC.yi (i:=i+1) Fx (aC.mono CU _ lj) rl.rd (lI _) (kg _);have sD:∀{o:HO},aA H (L2.upd pQ D o):=λ{o} b o' e=>by rw[bf (cC e n1.no)];exact CU b o' (s5 b o' e)
         have tU:cR pQ (L2.upd pQ D (.lst (ys.set (i+1) lv))):=.fw Fx;refine⟨_,Z,_,_,Z,Z,_,Z,?_⟩;rw[Eu,iU]at zv;have cO:cornO j ns ms=if aE (cw ns ms)=0 then none else some (Rat.divInt ((j*aE ns*aE ms)^2) ((aE (cw ns ms):Int)^2)):=rfl;show if decide ((aE (cw ns ms):Int)>0)=true then _ else _;by_cases h0:aE (cw ns ms)=0
         · rw[cY ak]
           refine aQ ?_;rw[aR h0]at cO;refine⟨sD,ys.set (i+1) lv,_,_,_,_,_,_,_,bX,?_,Z⟩;rw[<-uA]at Dd;have e:(gZ j rate os i).set (i+1) (mn (topR rate sp) (topR rate sq))=gZ j rate os (i+1):=by rw[<-Kn j rate os i ak,zv];show _=List.set _ _ (mnO _ (cornO j ns ms));rw[cO];rfl
           rw[<-e];exact Dd
         · rw[cj ak]
           refine aY ?_;rw[aO h0]at cO;have jl:(j*aE ns).natAbs<=50*100:=jj (by have:=aP.j1;lia) ak;have jl2:(j*aE ns*aE ms).natAbs<=50*100*100:=jj jl ak;have cb:=zX (λz hz=>by have:=dN.bd z hz;lia) (λz hz=>by have:=dF.bd z hz;lia) (ns:=ns) (ms:=ms);have zB:=lM cb;have jr:(2:Nat)^64=18446744073709551616:=by decide
           refine⟨_,Z,.inr ⟨ma,_,3,.int j,Z,Z,fD.go sD,Z,?_⟩⟩;refine⟨_,Z,_,_,Z,Z,.of_left (ck (by have:=aP.j1;lia) (by have:=aP.j1;lia)),_,Z,_,_,Z,Z,.of_right (ck ak ak),?_⟩;refine⟨_,_,Z,Z,⟨au,au,by rw[jr];lia⟩,_,Z,_,_,Z,Z,⟨au,au,by rw[jr];lia⟩,_,_,Z,?_,?_,λv6 rQ r6 ic=>?_⟩
           · show 0<(aE (cw ns ms):Int)^2
             rw[eZ,eZ,jW,jD];exact gb ak ak
           · refine gX (n:=64) ?_ au
             show((aE (cw ns ms):Int)^2).natAbs<_;rw[eZ,eZ,jW,jD,jr];have:=jj (a:=(aE (cw ns ms):Int)) (b:=(aE (cw ns ms):Int)) (m:=2000000) (n:=2000000) ak ak
             lia
           have Rc:bj K rQ v6 (Rat.divInt ((j*aE ns*aE ms)^2) ((aE (cw ns ms):Int)^2)):=r6;have Tc:Bd 2000 (Rat.divInt ((j*aE ns*aE ms)^2) ((aE (cw ns ms):Int)^2)):=(Ow.FC aP.j1.1 aP.j1.2 dN.bd dF.bd cO).mono au;generalize Rat.divInt ((j*aE ns*aE ms)^2) ((aE (cw ns ms):Int)^2)=cq at Rc Tc cO;have Nk:=ic _ _ (bX (H:=pQ) (a:=D) (o:=.lst (ys.set (i+1) lv)));have at3:dI (ys.set (i+1) lv) ((1:Int)+(i:Int))=some lv:=cK ak (by rw[Fp,xF ak]);have a37:bj K rQ lv (mn (topR rate sp) (topR rate sq)):=fS (RD.mono ic _ (RD.t tU _ (kg _) rl.rd));refine⟨_,Z,_,Z,.inl ⟨D,_,_,_,Z,Z,aF.of Nk,at3,_,Z,?_⟩⟩;refine⟨bA Z,λE6 um mT=>?_⟩;have Ou:=a37.go mT.same;have Ot:=Rc.go mT.same;refine⟨E6,[lv,v6],[mn (topR rate sp) (topR rate sq),cq],Z,aF.of mT.at',⟨Ou,Ow.lJ T1 T2,Ot,Tc,trivial⟩,by simp,λc' W5 q' a1p N7 lP=>?_⟩;have Xn:mn (mn (topR rate sp) (topR rate sq)) cq=q':=by
            refine oH ?_ (lP _ (by simp)) (lP _ (by simp))
            match c',N7 with |0,e2=>cases e2;exact .inl rfl |1,e2=>cases e2;exact .inr rfl
           have yx:bj K um W5 (mn (mn (topR rate sp) (topR rate sq)) cq):=by
            rw[Xn]
            match c',a1p,N7 with |0,e1,e2=>cases e1;cases e2;exact Ou |1,e1,e2=>cases e1;cases e2;exact Ot
           have Nj:=mT.same _ _ Nk;refine⟨_,Z,_,Z,D,_,_,_,Z,Z,Nj,(by rw[sf];exact zl),?_⟩;have K3:=aC.yi (i:=i+1) Nj (aC.mono (ic.trans mT.same) _ Dd) yx.rd (by rw[<-uA];exact lI _) (kg _);refine⟨λb o' e=>by rw[bf (cC e n1.no)];exact mT.same b o' (ic b o' (sD b o' e)),_,_,_,_,_,_,_,_,bX,?_,Z⟩;rw[Gv,Gv,<-uA]at K3;have e:(gZ j rate os i).set (i+1) (mn (mn (topR rate sp) (topR rate sq)) cq)=gZ j rate os (i+1):=by rw[<-Kn j rate os i ak,zv];show _=List.set _ _ (mnO _ (cornO j ns ms));rw[cO];rfl
           rw[<-e,Gv];exact K3
   · rintro O H5 ⟨s5,ys,v1,v2,v3,v4,v5,v6,v7,dl,lj,rfl⟩
     have e:gZ j rate os ((xs.length:Int)-1).toNat=ownL j rate os:=by
      apply uE;intro k;by_cases hk:k<=os.length
      · rw[tm j rate os _ hk,Ow.Kp j rate os hk]
        congr 1;split
        ·rfl
        · have:k=os.length:=by lia
          exact(Ow.Ks j rate os k this).symm
      ·rw[j7 (by rw[mQ];lia),j7 (by rw[Ow.Ko];lia)]
     rw[e]at lj;exact⟨_,Z,k D ys H5 n1.no dl lj s5⟩
inductive a3x(K:a7)(vs:List V)(H:Hp)(Q:VK):Prop |mk (v:_)(ns:_)(sp:_)(k:_)(h0:vs=[v,.int k])(h1:RD K H v (fA ns sp))(h2:dP ns.length 1000 ns)(h3:ns.length<=1000)(h4:0<=k)(h5:k<=10^6)(h6:∀v' H',RD K H' v' (uU ns k)->aA H H'->Q v' H')
def HI(K:a7):Sp:=λvs H Q _=>a3x K vs H Q
theorem ZU{k n q:Int}(hk:0<=k)(hq:0<q):(if n<0 then-((2*k*gk n+q)/(2*q))else(2*k*gk n+q)/(2*q))=gO (k*n) q:=by
 have e:2*k*gk n=2*((k*n).natAbs:Int):=by rw[wY,g9,Int.natCast_mul,uG,Int.natAbs_of_nonneg hk]
 rw[e];show(if n<0 then-(ja (k*n) q)else ja (k*n) q)=gO (k*n) q;rcases Int.lt_or_le n 0 with hn|hn
 ·rw[aR hn]
  rcases Int.lt_or_le 0 k with h0|h0
  ·have:k*n<0:=Int.mul_neg_of_pos_of_neg h0 hn
   unfold gO;rw[aO ak]
  ·have e0:k=0:=by lia
   rw[e0,xG,KN hq];have:=KN hq;unfold gO at this;rw[aR ak]at this
   lia
 ·rw[aO ak]
  have:0<=k*n:=mC hk hn;unfold gO;rw[aR this]
theorem IA:bo ["_law_line_here","_law_k","_law_lead_here","_law_found","_law_step","_law_far"] ["_law_line_here","_law_k"] (aZ BM):=bE aJ
theorem Ul(F:FA K mg "_law_stand" BM)(B:bB mg)(tS:ay P w K mg ao "_law_lead" 1 (iK K)):ay P w K mg ao "_law_stand" 2 (HI K):=by
 refine F.has IA (λvs H Q E h=>?_) (λ_ _ _ _ _ _=>dn λ_ _=>rfl) (λf aH A outer s H vs Q E hr h=>?_)
 ·obtain⟨v,ns,sp,k,rfl,_⟩:=h
  rfl
 ·obtain⟨v,ns,sp,kk,rfl,rd,ok,hz,hk,hk2,k⟩:=h
  have nd:=IA.nd;refine⟨_,(aB (pS 2 nd (pf tS hr (ai (pv 0) aq))) (aB (pS 3 nd (cI aq)) (aB (fh eE Z (kh K Z (px K (pv 0) aw)) (aX 4 nd) (aB (pS 5 nd (aG mS (aG cm (aG bJ (aG bJ aw (pv 1)) (dk (x:="abs") mh Z (B.at "abs") nO (ai (pv 4) aq))) (pv 2)) (aG bJ aw (pv 2)))) (aD (fU (gY K Z (pv 3) (ai (px K (cI (ai (pv 5) (ai (ki jY (pv 5)) aq))) (fj (x:="int") wO Z (B.at "int") rX (ai (fW ji (pv 4) aw (bC _)) aq))) aq)))))) (aD (aU (fj (x:="tuple") (j9 K Z) Z (B.at "tuple") fN (ai (pv 3) aq))))))),?_⟩;refine⟨_,Z,v,ns,sp,Z,rd,ok.ne,hz,λH1 s1=>?_⟩;obtain⟨lp,lm⟩:=ok.lead;refine⟨bA Z,λl H2 n2=>?_⟩;obtain⟨a,b,rfl,ha,hb⟩:=kn (RD.mono (s1.trans n2.same) _ rd);refine⟨_,Z,.inr ⟨a,_,1,.ref b,Z,Z,ha,Z,b,Z,⟨_,hb⟩,ME (K:=K) (a:=b) (xs:=ns.map V.int) (λi O H3=>aA H1 H3/\aK K H3 b (ns.map V.int)/\H3 l=some (.lst (((ns.map λz=>gO (kk*z) (aE ns)).take i).map V.int))/\∃v1 v2,O=[some (.ref a),some (.int kk),some (.int (aE ns)),some (.ref l),v1,v2]) ⟨n2.same,hb,n2.at',none,none,Z⟩ (λi O H3 _ h=>h.2.1) ?_ ?_⟩⟩
  ·rintro i x O H3 hx ⟨s3,Mh,dl,v1,v2,rfl⟩
   obtain⟨n,en⟩:∃n,ns[i]? =some n:=by rw[bN]at hx;cases e:ns[i]? with |none=>rw[e]at hx;cases hx |some n=>exact⟨n,Z⟩
   cases vM hx en;have nb:=ok.bd n (fO en);have hi:i<ns.length:=(cy.mp en).1;have ab:gk n=(n.natAbs:Int):=wY n;have pb:=Kb (k:=kk) (z:=n) ak nb;have eA:2*kk*gk n=2*((kk*n).natAbs:Int):=by rw[ab,g9,Int.natCast_mul,uG,Int.natAbs_of_nonneg hk]
   refine⟨_,Z,_,_,Z,Z,.of_left (ck au au),_,Z,_,Z,_,_,Z,Z,.of_left (ck ak ak),_,Z,_,_,Z,Z,_,Z,_,_,Z,Z,.of_left (ck au au),_,_,Z,Z,⟨ak,GL ak⟩,?_⟩;have fn:=ZU (n:=n) hk (show(0:Int)<aE ns by lia);refine⟨_,Z,.inl ⟨Z,_,aF.of dl⟩,_,Z,_,Z,_,Z,bA Z,λc H4 n4=>?_⟩;refine⟨_,Z,_,_,Z,Z,.inr ⟨_,Z,?_⟩⟩;have KU:=n4.same _ _ dl;have Yv:dI ([.int ((2*kk*gk n+(aE ns:Int))/(2*(aE ns:Int))),.int (-((2*kk*gk n+(aE ns:Int))/(2*(aE ns:Int))))]:List V) (if decide (n<0)=true then 1 else 0)=some (.int (gO (kk*n) (aE ns))):=by
    rw[<-fn];by_cases hn:n<0
    ·rw[aR (cj hn),aR hn];rfl
    ·rw[aO (λz=>hn (gW z)),aO hn];rfl
   refine .inl ⟨c,_,_,_,Z,Z,aF.of n4.at',Yv,?_⟩;refine⟨l,_,_,Z,Z,KU,?_,?_⟩
   ·have:(1000:Nat)<sizeLine:=by decide
    rw[bu,kW,bu];lia
   refine⟨λb o e=>?_,aK.t (.fw KU) (Mh.go n4.same),?_,_,_,Z⟩
   ·rw[bf (cC e n2.no)];exact n4.same b o (s3 b o e)
   ·rw[bX,rY,bN,en,i8];rfl
  ·rintro O H3 ⟨s3,Mh,dl,v1,v2,rfl⟩
   rw[rZ (by simp)]at dl;refine⟨_,Z,l,_,Z,.inl ⟨aF.of dl,λt H4 n4=>?_⟩⟩;exact k _ _ (dC (aK.of n4.at') (sW _)) (s1.trans (s3.trans n4.same))
theorem IE:bo ["_law_line_here","_law_stands","_law_found","_law_one","_law_other_here"] ["_law_line_here"] (aZ BQ):=bE aJ
inductive a3D(K:a7)(vs:List V)(H:Hp)(Q:VK):Prop |mk (v:_)(ns:_)(sp:_)(h0:vs=[v])(h1:RD K H v (fA ns sp))(h2:dP ns.length 100 ns)(h3:ns.length<=1000)(h4:∀l ys H',H l=none->H' l=some (.lst ys)->aC K H' ys (gK ns)->aA H H'->Q (.ref l) H')
def Be(K:a7):Sp:=λvs H Q _=>a3D K vs H Q
def qd(ns:List Int):List af:=(List.range (aE ns+1)).map λ(j:Nat)=>uU ns (j:Int)
theorem Hw(ns:List Int):cg (qd ns)=true:=cP.mpr λd hd=>by obtain⟨j,_,rfl⟩:=fu.mp hd;exact vm _
theorem B4{ns:List Int}{i:Nat}(h:i<=aE ns):(qd ns)[i]? =some (uU ns (i:Int)):=by unfold qd;rw[bN,jV ak];rfl
theorem a1C(xs:List V):jT xs (some 1) none=xs.drop 1:=by
 unfold jT;have e:HT.bO xs.length 0 (some 1)=min 1 xs.length:=HT.Ci _ _ 1;rw[e,HT.JH];rcases Gs 0 xs.length with h|h
 ·rw[show min 1 xs.length=1 by lia,rZ]
  rw[si];exact ba _
 ·have:xs=[]:=Pf.mp ak
  subst this;rfl
theorem Up(F:FA K mg "_law_rows" BQ)(B:bB mg)(tS:ay P w K mg ao "_law_lead" 1 (iK K))(Z3:ay P w K mg ao "_law_stand" 2 (HI K)):ay P w K mg ao "_law_rows" 3 (Be K):=by
 refine F.has IE (λvs H Q E h=>?_) (λ_ _ _ _ _ _=>gj λ_=>rfl) (λf aH A outer s H vs Q E hr h=>?_)
 ·obtain⟨v,ns,sp,rfl,_⟩:=h
  rfl
 ·obtain⟨v,ns,sp,rfl,rd,dN,hz,k⟩:=h
  have nd:=IE.nd;obtain⟨lp,lm⟩:=dN.lead;have ok:dP ns.length 1000 ns:=⟨Z,λz hz=>by have:=dN.bd z hz;lia,dN.nz⟩;refine⟨_,(aB (yE (i0:=1) nd Z (Or.inl Z) (N:=["_law_k","_law_line_here"]) (js:=[none,some 0]) Z Z Z (lA Z (B.at "range") (ai (aG cm (pf tS hr (ai (pv 0) aq)) aw) aq)) (λ_ _ _ _ _=>(aX 0 (hJ au))) (λ_ _ _ _ _=>f6) (λ_ _ _ _ _=>(pf Z3 hr (ai (pv 1) (ai (pv 0) aq))))) (aB (pS 2 nd (cI aq)) (aB (fh eE Z (mP K Z true true Z (B.at "zip") (ai (pv 1) (ai (yI (yh K rfl) (pv 1) (td aw) yF) aq))) (cV K rfl (n:=2) rfl (bF (aX 3 nd) (bF (aX 4 nd) cU))) (aD (fU (gY K Z (pv 2) (ai (fj (x:="tuple") (j9 K Z) Z (B.at "tuple") fN (ai (fV (N:=["_law_here","_law_there"]) (js:=[none,none]) rfl rfl rfl (mP K rfl false false rfl (B.at "zip") (ai (pv 3) (ai (pv 4) aq))) (λ_ _ _ _ _=>(cV K rfl (n:=2) rfl (bF (aX 0 (hJ au)) (bF (aX 1 (hJ au)) cU)))) (λ_ _ _ _ _=>f6) (λ_ _ _ _ _=>(aG gs (pv 1) (pv 0)))) aq)) aq))))) (aD (aU (pv 2)))))),?_⟩;refine⟨_,Z,v,ns,sp,Z,rd,ok.ne,hz,λH1 s1=>?_⟩;refine⟨_,_,Z,Z,_,Z,ak,ak,λD H2 n2=>?_⟩;have e1:((aE ns:Int)+1).toNat=aE ns+1:=by lia
  rw[e1];have lS:(qd ns).length=aE ns+1:=by simp[qd]
  refine Nv (K:=K) (ds:=qd ns) _ n2 lS.symm ak (Hw ns) ?_ ?_
  ·intro i d H3 Q' ed s3 hq
   have hi:i<aE ns+1:=by rw[<-lS];exact(cy.mp ed).1
   rw[B4 ak]at ed;cases ed;refine⟨_,Z,_,Z,v,ns,sp,_,Z,RD.mono (s1.trans s3) _ rd,ok,hz,ak,ak,λu H4 ru s4=>hq u H4 s4 ?_⟩;have e0:(0:Int)+(i:Int)=i:=by lia
   rw[e0]at ru;exact ru
  intro H3 ys s3 d3 r3;have ly:=r3.length;rw[lS]at ly;refine⟨bA Z,λl H4 n4=>?_⟩;have nl:H l=none:=by cases e:H l with |none=>rfl |some o=>have:=(s1.trans s3) _ _ e;rw[n4.no]at this;cases this
  have d4:=n4.same _ _ d3;refine⟨_,Z,_,Z,_,Z,D,_,Z,.inl ⟨aF.of d4,λc H5 n5=>?_⟩⟩;have d5:=n5.same _ _ d4;have KZ:=n5.at';rw[a1C]at KZ;have r5:=aC.mono (n4.same.trans n5.same) _ r3;refine⟨D,c,Z,⟨_,aF.of d5⟩,⟨_,aF.of n5.at'⟩,?_⟩;refine MD (K:=K) (b1:=true) (b2:=true) (xs:=ys) (ys:=ys.drop 1) (aE ns) (by rw[si];lia) (λi O H6=>aA H3 H6/\H6 D=some (.lst ys)/\H6 c=some (.lst (ys.drop 1))/\aC K H6 ys (qd ns)/\(∃zs,H6 l=some (.lst zs)/\aC K H6 zs ((gK ns).take i))/\∃v1 v2,O=[some v,some (.ref D),some (.ref l),v1,v2]) ⟨n4.same.trans n5.same,d5,KZ,r5,⟨[],n5.same _ _ n4.at',cf⟩,none,none,Z⟩ (λi O H6 _ h=>⟨aF.of h.2.1,aF.of h.2.2.1⟩) ?_ ?_
  ·rintro i x y O H6 ex ey ⟨s6,dD,dc,rD,⟨zs,dl,rz⟩,v1,v2,rfl⟩ T H7 n7
   have hi:i<aE ns:=by have:=(cy.mp ey).1;rw[si]at this;lia
   obtain⟨dx,qX,rx⟩:=rD.get' i ex;rw[B4 ak]at qX;cases qX;rw[List.getElem?_drop]at ey;obtain⟨dy,N6,ry⟩:=rD.get' (1+i) ey;rw[B4 ak]at N6;cases N6;obtain⟨a1,xs1,rfl,h1,q1⟩:=(RD.mono n7.same _ ry).bT;have e1:=q1.gP;subst e1;obtain⟨a0,xs0,rfl,h0,q0⟩:=(RD.mono n7.same _ rx).bT;have e0:=q0.gP;subst e0;refine⟨T,_,Z,aK.of n7.at',Z,_,_,Z,_,_,Z,Z,?_⟩;refine⟨_,Z,.inl ⟨Z,_,aF.of (n7.same _ _ dl)⟩,?_⟩;refine⟨_,Z,_,Z,a0,a1,Z,⟨_,h0⟩,⟨_,h1⟩,λD2 H8 nw=>?_⟩;refine ug (K:=K) (b1:=false) (b2:=false) (ds:=(fK ns i).map PyData.int) [] rfl h0 h1 nw (by simp[fK]) (by simpa[fK]using hz) (jN _) ?_ ?_
   ·intro j x y d H9 Q' ex ey ed s9 hq
    obtain⟨m,em,rfl⟩:=mV ed;unfold fK at em;rw[bN]at em ex ey;rw[bN]at ex ey;cases en:ns[j]? with |none=>rw[en]at em;cases em |some n=>
     rw[en]at em ex ey;cases em;cases ex;cases ey;refine⟨_,Z,_,Z,_,_,Z,Z,?_⟩;have ee:((1+i:Nat):Int)=(i:Int)+1:=by lia
     rw[ee];exact hq _ _ (aA.refl _) (cM _)
   ·intro H9 ws s9 d9 r9
    refine⟨D2,_,Z,.inl ⟨aF.of d9,λt gC mU=>?_⟩⟩;have sS:=n7.same.trans (s9.trans mU.same);have Nl:=sS _ _ dl;have len:=rz.length;rw[kW,yt]at len;refine⟨l,zs,_,Z,Z,Nl,?_,?_⟩
    ·have:(1000:Nat)<sizeLine:=by decide
     lia
    have tt:cR gC (L2.upd gC l (.lst (zs++[.ref t]))):=.fw Nl;have lD:D≠l:=λe=>by rw[<-e]at n4;have:=n4.no;rw[d3]at this;cases this
    have lc:c≠l:=λe=>by rw[e]at n5;have:=n5.no;rw[n4.at']at this;cases this
    refine⟨λb o e=>?_,?_,?_,?_,⟨_,bX,?_⟩,_,_,Z⟩
    ·rw[bf (cC e n4.no)];exact sS b o (s6 b o e)
    ·rw[bf lD];exact sS _ _ dD
    ·rw[bf lc];exact sS _ _ dc
    ·exact aC.t tt _ (Hw ns) (aC.mono sS _ rD)
    ·rw[rY,JT hi]
     have nt:cg ((gK ns).take i)=true:=cP.mpr λd hd=>cP.mp (JS ns) d (xE hd);exact(aC.t tt _ nt (aC.mono sS _ rz)).append (bK (RD.t tt _ (vm _) (dC (aK.of mU.at') (aC.mono mU.same _ r9))) cf)
  ·rintro O H6 ⟨s6,dD,dc,rD,⟨zs,dl,rz⟩,v1,v2,rfl⟩
   rw[rZ (by rw[yt];exact ba _)]at rz;exact⟨_,Z,k l zs H6 nl dl rz ((s1.trans s3).trans s6)⟩
inductive a3t(K:a7)(vs:List V)(H:Hp)(Q:VK):Prop |mk (m:_)(sq:_)(rs:_)(r:_)(f:_)(j:_)(ti:_)(q:_)(h0:vs=[m,sq])(h1:RD K H m (dZ rs r f j ti))(h2:bj K H sq q)(h3:Bd 2000 q)(h4:1<=ti)(h5:ti<=100)(h6:0<q.num)(h7:∀T,1<=T->T.natAbs<2^2400->cX ti q T=true->cX ti q (T-1)=false->∀H',aA H H'->Q (.int T) H')
def Ba(K:a7):Sp:=λvs H Q _=>a3t K vs H Q
theorem Iu:bo ["_law_machine_here","_law_square","_law_wanted","_law_low","_law_high","_law_half"] ["_law_machine_here","_law_square"] (aZ BH):=bE aJ
theorem Ue(F:FA K mg "_law_ticks" BH)(B:bB mg):ay P w K mg ao "_law_ticks" 1 (Ba K):=by
 refine F.has Iu (λvs H Q E h=>?_) (λ_ _ _ _ _ _=>dn λ_ _=>rfl) (λf aH A outer s H vs Q E hr h=>?_)
 · obtain⟨m,sq,rs,r,f,j,ti,q,rfl,_⟩:=h
   rfl
 · obtain⟨m,sq,rs,r,f,j,ti,q,rfl,rm,⟨p,rfl,hp⟩,bq,t1,t2,hq,k⟩:=h
   have nd:=Iu.nd;refine⟨_,(aB (pS 2 nd (aG bJ (aG qo (px K (pv 0) aw) aw) (px K (pv 1) aw))) (aB (eG (cF (ai aw (ai aw aq))) (cV K Z (n:=2) Z (bF (aX 3 nd) (bF (aX 4 nd) cU)))) (aB (qk eE (bQ ji (aG bJ (aG bJ (pv 4) (pv 4)) (px K (pv 1) aw)) (pv 2) (bC _)) (aD (mL (i:=3) (j:=4) Z nd Z Z au Z Z (ai (pv 4) (ai (aG bJ aw (pv 4)) aq)) Z))) (aB (qk eE (bQ lC (aG gs (pv 4) (pv 3)) aw (bC _)) (aB (pS 5 nd (aG mS (aG cm (pv 3) (pv 4)) aw)) (aD (bD (bQ ji (aG bJ (aG bJ (pv 5) (pv 5)) (px K (pv 1) aw)) (pv 2) (bC _)) (aD (pS 3 nd (pv 5))) (aD (pS 4 nd (pv 5))))))) (aD (aU (pv 4))))))),?_⟩;obtain⟨a,b,rfl,ha,hb⟩:=km rm;have m1:(ti*ti).natAbs<=100*100:=by rw[g9];exact my ak ak
   have eP:ti^(2:Int).toNat=ti*ti:=by show ti^2=ti*ti;rw[eZ,eZ,jW,jD]
   have lim:(ti*ti*(q.den:Int)).natAbs<2^2399:=by have hd:=bq.den;rw[g9];have:(q.den:Int).natAbs=q.den:=rfl;rw[this];have:=oG (n:=14) (m:=2000) (a:=(ti*ti).natAbs) (b:=q.den) (nP m1 au) hd;exact fH this (uw au au)
   have p0:0<ti*ti*(q.den:Int):=gb (gb ak ak) (den_pos q);have e2:(2:Nat)^2400=2^2399*2:=Nat.pow_succ 2 2399;have xR:∀{t:Int},t.natAbs<2^2400->Wd (t*t):=λ{t} tw=>gX (n:=4800) (by rw[g9];exact oG (n:=2400) (m:=2400) tw tw) au;have wt:∀{t:Int},t.natAbs<2^2400->Wd t:=λ{t} tw=>gX tw au;refine⟨_,Z,.inr ⟨a,_,4,.int ti,Z,Z,ha,Z,?_⟩⟩
   refine ⟨_, _, rfl, rfl, ⟨by decide, by decide, by have:(2:Nat)^64=18446744073709551616:=by decide
                                                     lia⟩,?_⟩;refine⟨_,Z,.inr ⟨p,_,1,.int q.den,Z,Z,hp,Z,?_⟩⟩;refine⟨_,_,Z,Z,by rw[eP];exact .of_left (ck ak ak),?_⟩;have eW:ti^(2:Int).toNat*(q.den:Int)=ti*ti*(q.den:Int):=by rw[eP]
   have N1:∀t:Int,decide (t*t*q.num<ti^(2:Int).toNat*(q.den:Int))= !cX ti q t:=λt=>by unfold cX;rw[eW,<-decide_not];exact decide_eq_decide.mpr ak
   refine⟨bA Z,λc0 H0 n0=>?_⟩;refine⟨c0,_,Z,aK.of n0.at',Z,_,_,Z,_,_,Z,Z,?_⟩;have LW:=hp.go n0.same;have k':∀T:Int,1<=T->T.natAbs<2^2400->cX ti q T=true->cX ti q (T-1)=false->Q (.int T) H0:=λT a1 a2 a3 a4=>(k T a1 a2 a3 a4) H0 n0.same;generalize hL:ti*ti*(q.den:Int)=L at lim p0;refine pY (λO H2=>H2=H0/\∃(lo x:Int),O=[some (.ref a),some (.ref p),some (.int (ti^(2:Int).toNat*(q.den:Int))),some (.int lo),some (.int x),none]/\0<=lo/\lo<x/\x<=2*L/\cX ti q lo=false) (λO _=>match O with|[_,_,_,_,some (.int x),_]=>(L-x).toNat|_=>0) ?_ ?_ ?_
   ·exact⟨Z,0,1,Z,ak,ak,ak,MX t1⟩
   · rintro O H2 ⟨rfl,lo,x,rfl,l0,lx,xL,hx⟩
     have xw:x.natAbs<2^2400:=by lia
     refine⟨_,Z,_,Z,_,_,Z,Z,gG (wt xw).bits (wt xw).bits,_,Z,.inr ⟨p,_,0,.int q.num,Z,Z,LW,Z,_,_,Z,Z,gG (xR xw).bits bq.wn.bits,?_⟩⟩;refine⟨_,Z,_,_,Z,Z,_,Z,?_⟩;show if decide (x*x*q.num<ti^(2:Int).toNat*(q.den:Int))=true then _ else _;rw[N1];cases nv:cX ti q x with
     |false=>
       have bG:x<L:=by
        by_cases bG:x<L
        ·exact bG
        ·rw[MZ hq ak ak]at nv;cases nv
       refine aY ?_;refine⟨_,Z,_,Z,_,_,Z,Z,.of_left (ck au au),_,_,Z,?_⟩;refine⟨⟨Z,x,2*x,Z,ak,ak,ak,nv⟩,?_⟩;show(L-2*x).toNat<(L-x).toNat
       lia |true=>
       refine aQ ?_;refine pY (λO H3=>H3=H2/\∃(lo hi:Int)(v:Option V),O=[some (.ref a),some (.ref p),some (.int (ti^(2:Int).toNat*(q.den:Int))),some (.int lo),some (.int hi),v]/\0<=lo/\lo<hi/\hi<=2*L/\cX ti q lo=false/\cX ti q hi=true) (λO _=>match O with|[_,_,_,some (.int y),some (.int x),_]=>(x-y).toNat|_=>0) ?_ ?_ ?_
       ·exact⟨Z,lo,x,none,Z,ak,ak,xL,hx,nv⟩
       · rintro O H3 ⟨rfl,lo,hi,v,rfl,l0,lh,qR,wC,qW⟩
         refine⟨_,Z,_,Z,_,_,Z,Z,_,_,Z,Z,_,Z,?_⟩;refine eJ (λhc=>?_) (λhc=>?_)
         · have Ma:hi-lo>1:=gW hc
           refine⟨_,Z,_,Z,_,_,Z,Z,_,_,Z,Z,⟨au,gX (n:=2) au au⟩,?_⟩;have mw:((lo+hi)/2).natAbs<2^2400:=by lia
           refine⟨_,Z,_,Z,_,_,Z,Z,gG (wt mw).bits (wt mw).bits,_,Z,.inr ⟨p,_,0,.int q.num,Z,Z,LW,Z,_,_,Z,Z,gG (xR mw).bits bq.wn.bits,?_⟩⟩;refine⟨_,Z,_,_,Z,Z,_,Z,?_⟩;show if decide ((lo+hi)/2*((lo+hi)/2)*q.num<ti^(2:Int).toNat*(q.den:Int))=true then _ else _;rw[N1];cases hm:cX ti q ((lo+hi)/2)with
           |true=>
             refine aQ ?_;refine⟨_,Z,⟨Z,lo,_,_,Z,l0,ak,ak,wC,hm⟩,?_⟩;show((lo+hi)/2-lo).toNat<(hi-lo).toNat
             lia |false=>
             refine aY ?_;refine⟨_,Z,⟨Z,_,hi,_,Z,ak,ak,qR,hm,qW⟩,?_⟩;show(hi-(lo+hi)/2).toNat<(hi-lo).toNat
             lia
         · have hle:¬hi-lo>1:=λz=>hc (cj z)
           have e:lo=hi-1:=by lia
           subst e;exact⟨_,Z,k' hi ak ak qW wC⟩
       · rintro O H2 Q1 Q2 hq ⟨v1,e1,v2,e2,i,j,e3,e4,i2,j2,e5,e6,kk,e7,q⟩
         exact⟨v1,e1,v2,e2,i,j,e3,e4,i2,j2,e5,e6,kk,e7,hq _ _ q⟩
   · rintro O H2 Q1 Q2 hq ⟨v1,e1,v2,e2,i,j,e3,e4,mo,v3,e5,h⟩
     refine⟨v1,e1,v2,e2,i,j,e3,e4,mo,v3,e5,?_⟩;rcases h with⟨a,xs,ii,x,f1,f2,f3,f4,i2,j2,g1,g2,g3,v4,g4,i3,j3,g5,g6,kk,g7,q⟩|⟨a,xs,ii,x,f1,f2,f3,f4,i2,j2,g1,g2,g3,v4,g4,i3,j3,g5,g6,kk,g7,q⟩
     ·exact .inl ⟨a,xs,ii,x,f1,f2,f3,f4,i2,j2,g1,g2,g3,v4,g4,i3,j3,g5,g6,kk,g7,hq _ _ q⟩
     ·exact .inr ⟨a,xs,ii,x,f1,f2,f3,f4,i2,j2,g1,g2,g3,v4,g4,i3,j3,g5,g6,kk,g7,hq _ _ q⟩
theorem GW:eR "tuple" "list"=false:=by decide
def OE(D:af):Prop:=(∃z,D= .int z)\/∃s,D= .str s/\SeqAt.shaped (.str s)=true/\PyData.eqv (.str s) (.str s)=true
theorem Bz:bo ["_law_found","_law_due"] ["_law_found","_law_due"] (aZ yj):=bE aJ
theorem a2D{ls hs:List Rat}{lo hi:Rat}(l1:lo∈ls)(l2:∀l∈ls,l<=lo)(h1:hi∈hs)(h2:∀h∈hs,hi<=h):(ls.any λl=>hs.any λh=>decide (h<l))=decide (hi<lo):=by rw[pX,uF,Gf];refine⟨λ⟨l,hl,e⟩=>?_,λe=>⟨lo,l1,uF.mpr ⟨hi,h1,cj e⟩⟩⟩;obtain⟨h,hh,e⟩:=uF.mp e;have e:=gW e;exact Rat.not_le.mp λhle=>Ax.mpr (pR (l2 l hl) (pR hle (h2 h hh))) e
theorem K5{H:Hp}{a:Addr}{z:Int}(h:aK K H a [.int z,.int 1]):bj K H (.ref a) (z:Rat):=by refine⟨a,Z,?_⟩;rw[Rat.num_intCast,Rat.den_intCast];exact h
theorem NU{z:Int}(h:z.natAbs<=1000):Bd 2000 (z:Rat):=⟨by rw[Rat.num_intCast];exact nP h (fH (by decide:1000<2^10) (uw au au)),by rw[Rat.den_intCast];exact Nat.one_lt_two_pow au⟩
def vB(e b:Option Rat)(i:Nat):Option Rat:=if i=0 then e else b
def nC(r f:Int)(i:Nat):Int:=if i=0 then f else r
def mE(r f:Int)(i:Nat):Int:=if i=0 then r else f
def jk(r f:Int)(e b:Option Rat):Nat->List Rat |0=>[0] |i+1=>jk r f e b i++(vB e b i).toList.map λq=>q+((-(nC r f i):Int):Rat)
def kx(r f:Int)(bd:Rat)(e b:Option Rat):Nat->List Rat |0=>[bd] |i+1=>kx r f bd e b i++(vB e b i).toList.map λq=>q+(mE r f i:Rat)
theorem Jo:bo ["_law_machine_here","_law_bound","_law_ahead","_law_behind","_law_low","_law_high","_law_square","_law_down","_law_up","_law_least_one"] ["_law_machine_here","_law_bound","_law_ahead","_law_behind"] (aZ CA):=bE aJ
theorem V6(F:FA K mg "_law_fits" CA)(B:bB mg)(Mm:ay P w K mg ao "_law_sum" 2 (qe (·+·) K))(tR:ay P w K mg ao "_law_less" 1 (jJ K))(zD:ay P w K mg ao "_law_min" 2 (l7 K)):ay P w K mg ao "_law_fits" 3 (yg K):=by
 refine F.has Jo (λvs H Q E h=>?_) (λ_ _ _ _ _ _=>rH λ_ _ _ _=>rfl) (λfa aH A outer s H vs Q E hr h=>?_)
 ·obtain⟨m,bv,ev,gv,rs,r,f,j,t,bd,e,b,rfl,_⟩:=h
  rfl
 ·obtain⟨m,bv,ev,gv,rs,r,f,j,t,bd,e,b,rfl,rm,aP,Rb,bb,Re,be,Rg,bg,k⟩:=h
  have nd:=Jo.nd;refine⟨_,(aB (mL (i:=4) (j:=5) Z nd Z Z au Z Z (ai (cF (ai aw (ai aw aq))) (ai (pv 1) aq)) Z) (aB (fh eE Z (oo K Z (cI (ai (cF (ai (pv 2) (ai (px K (pv 0) aw) (ai (px K (pv 0) aw) aq)))) (ai (cF (ai (pv 3) (ai (px K (pv 0) aw) (ai (px K (pv 0) aw) aq)))) aq)))) (cV K Z (n:=3) Z (bF (aX 6 nd) (bF (aX 7 nd) (bF (aX 8 nd) cU)))) (aD (bD (bQ mR (pv 6) fi (bC _)) (aB (pS 9 nd (pf Mm hr (ai (pv 6) (ai (cF (ai (ki jY (pv 7)) (ai aw aq))) aq)))) (aB (lu (bD (bZ (pf tR hr (ai (pv 4) (ai (pv 9) aq)))) (aD (pS 4 nd (pv 9))) bH)) (aD (pS 5 nd (pf zD hr (ai (cI (ai (pv 5) (ai (pf Mm hr (ai (pv 6) (ai (cF (ai (pv 8) (ai aw aq))) aq))) aq))) aq)))))) bH))) (aD (aU (ql (pf tR hr (ai (pv 5) (ai (pv 4) aq)))))))),?_⟩;obtain⟨ma,mb,rfl,fD,jO⟩:=km rm;have jd:=aP.r1;have jt:=aP.f1;refine⟨bA Z,λl0 H1 n1=>?_⟩;refine⟨_,Z,_,_,Z,?_⟩;have R0:bj K H1 (.ref l0) 0:=⟨l0,Z,aK.of n1.at'⟩;have b0:Bd 1950 (0:Rat):=⟨au,au⟩;refine⟨_,Z,_,Z,.inr ⟨ma,_,2,.int f,Z,Z,fD.go n1.same,Z,_,Z,.inr ⟨ma,_,1,.int r,Z,Z,fD.go n1.same,Z,?_⟩⟩⟩;refine⟨bA Z,λt0 H2 n2=>?_⟩;have s2:=n1.same.trans n2.same;refine⟨_,Z,_,Z,.inr ⟨ma,_,1,.int r,Z,Z,fD.go s2,Z,_,Z,.inr ⟨ma,_,2,.int f,Z,Z,fD.go s2,Z,?_⟩⟩⟩;refine⟨bA Z,λt1 H3 n3=>?_⟩;have s3:=s2.trans n3.same;refine⟨bA Z,λll H4 n4=>?_⟩;have s4:=s3.trans n4.same;have T0:H4 t0=some (.tup [ev,.int f,.int r]):=n4.same _ _ (n3.same _ _ n2.at');have T1:H4 t1=some (.tup [gv,.int r,.int f]):=n4.same _ _ n3.at';have da:∀i x,([.ref t0,.ref t1]:List V)[i]? =some x->i<2/\∃ta sv,x= .ref ta/\H4 ta=some (.tup [sv,.int (nC r f i),.int (mE r f i)])/\jA K H4 sv (vB e b i)/\rO 1900 (vB e b i):=by
   intro i x ex
   match i,ex with |0,ex=>cases ex;exact⟨au,t0,ev,rfl,T0,Re.go s4,be⟩ |1,ex=>cases ex;exact⟨au,t1,gv,rfl,T1,Rg.go s4,bg⟩
  have du:∀i,1<=nC r f i/\nC r f i<=50/\1<=mE r f i/\mE r f i<=50:=λi=>by unfold nC mE;split<;>lia
  refine⟨ll,Z,⟨_,aF.of n4.at'⟩,zJ (K:=K) (a:=ll) (xs:=[.ref t0,.ref t1]) (λi O H5=>aA H4 H5/\∃lv hv v6 v7 v8 v9 lo hi,bj K H5 lv lo/\bj K H5 hv hi/\Bd 1950 lo/\Bd 1950 hi/\lo∈jk r f e b i/\(∀l∈jk r f e b i,l<=lo)/\hi∈kx r f bd e b i/\(∀h∈kx r f bd e b i,hi<=h)/\O=[some (.ref ma),some bv,some ev,some gv,some lv,some hv,v6,v7,v8,v9]) ?_ (λi O H5 _ h=>aF.of (h.1 _ _ n4.at')) ?_ ?_⟩
  ·refine⟨aA.refl _,.ref l0,bv,none,none,none,none,0,bd,R0.go (n2.same.trans (n3.same.trans n4.same)),Rb.go s4,b0,bb.mono au,by simp[jk],λl hl=>?_,by simp[kx],λh hh=>?_,Z⟩
   ·have:l=0:=by simpa[jk]using hl
    rw[this];exact pT
   ·have:h=bd:=by simpa[kx]using hh
    rw[this];exact pT
  ·rintro i x O H5 ex ⟨s5,lv,hv,v6,v7,v8,v9,lo,hi,Rl,Rh,bl,bh,m1,m2,m3,m4,rfl⟩
   obtain⟨oW,ta,sv,rfl,hT,oV,oB⟩:=da i x ex;obtain⟨d1,d2,u1,u2⟩:=du i;refine⟨ta,_,Z,aK.of (s5 _ _ hT),Z,_,_,Z,_,_,Z,_,_,Z,Z,?_⟩;refine⟨_,Z,Z,_,Z,?_⟩;cases ho:vB e b i with
   |none=>
    rw[ho]at oV;have ev0:sv= .bM:=oV;subst ev0;refine aQ ⟨s5,lv,hv,_,_,_,_,lo,hi,Rl,Rh,bl,bh,?_,λl hl=>m2 l ?_,?_,λh hh=>m4 h ?_,Z⟩
    ·simpa[jk,ho]using m1
    ·simpa[jk,ho]using hl
    ·simpa[kx,ho]using m3
    ·simpa[kx,ho]using hh |some q=>
    rw[ho]at oV oB;have oV:bj K H4 sv q:=oV;have oB:Bd 1900 q:=oB;obtain⟨sa,e0,_⟩:=id oV;subst e0;refine aY ?_;refine⟨_,Z,_,Z,_,Z,bA Z,λp1 H6 n6=>?_⟩;have yk:=s5.trans n6.same;refine⟨.ref sa,.ref p1,q,_,Z,oV.go yk,K5 (aK.of n6.at'),oB.mono au,NU ak,λv1 H7 R7 s7=>?_⟩;have A1:Bd 1950 (q+((-(nC r f i):Int):Rat)):=(i5 oB (by rw[gq];lia)).mono au;have kf:=n6.same.trans s7;refine⟨λO H8=>aA H7 H8/\∃vN qz,bj K H8 vN qz/\Bd 1950 qz/\qz∈jk r f e b (i+1)/\(∀l∈jk r f e b (i+1),l<=qz)/\O=[some (.ref ma),some bv,some ev,some gv,some vN,some hv,some (.ref sa),some (.int (nC r f i)),some (.int (mE r f i)),some v1],?_,?_⟩
    ·refine⟨_,Z,_,Z,lv,v1,lo,_,Z,Rl.go kf,R7,bl.mono au,A1.mono au,_,Z,?_⟩
     have mem:∀l,l∈jk r f e b (i+1)↔l∈jk r f e b i\/l=q+((-(nC r f i):Int):Rat):=λl=>by simp[jk,ho]
     by_cases bG:lo<q+((-(nC r f i):Int):Rat)
     ·rw[cj bG]
      refine aY ⟨_,Z,aA.refl _,v1,_,R7,A1,(mem _).mpr (.inr Z),λl hl=>?_,Z⟩;rcases(mem l).mp hl with h|h
      ·exact pR (m2 l h) (Ay bG)
      ·rw[h];exact pT
     ·rw[cY bG]
      refine aQ ⟨aA.refl _,lv,lo,Rl.go kf,bl,(mem _).mpr (.inl m1),λl hl=>?_,Z⟩;rcases(mem l).mp hl with h|h
      ·exact m2 l h
      ·rw[h];exact Ax.mp bG
    rintro O H8 ⟨s8,vN,qz,Ol,NN,DW,Lg,rfl⟩;have RY:=kf.trans s8;refine⟨_,Z,_,Z,_,Z,bA Z,λp2 H9 n9=>?_⟩;have mF:=RY.trans n9.same;refine⟨.ref sa,.ref p2,q,_,Z,oV.go (s5.trans mF),K5 (aK.of n9.at'),oB.mono au,NU ak,λv2 gC R10 jb=>?_⟩;have wU:Bd 1950 (q+(mE r f i:Rat)):=(i5 oB (by rw[gq];lia)).mono au;refine⟨bA Z,λlq gB kj=>?_⟩;have CV:=mF.trans (jb.trans kj.same);have Ra:=Rh.go CV;have Rc:=R10.go kj.same;refine⟨lq,[hv,v2],[hi,q+(mE r f i:Rat)],Z,aF.of kj.at',⟨Ra,bh.mono au,Rc,wU.mono au,trivial⟩,by simp,λc v q' e1 e2 hq=>?_⟩;have mem:∀l,l∈kx r f bd e b (i+1)↔l∈kx r f bd e b i\/l=q+(mE r f i:Rat):=λl=>by simp[kx,ho]
    have M0:∀h∈kx r f bd e b (i+1),q'<=h:=λh hh=>by
     rcases(mem h).mp hh with h1|h1
     ·exact pR (hq hi (by simp)) (m4 h h1)
     ·rw[h1];exact hq _ (by simp)
    have JI:=n9.same.trans (jb.trans kj.same)
    match c,e1,e2 with |0,e1,e2=>cases e1;cases e2;exact⟨s5.trans CV,vN,hv,_,_,_,_,qz,hi,Ol.go JI,Ra,NN,bh,DW,Lg,(mem _).mpr (.inl m3),M0,rfl⟩ |1,e1,e2=>cases e1;cases e2;exact⟨s5.trans CV,vN,v2,_,_,_,_,qz,_,Ol.go JI,Rc,NN,wU,DW,Lg,(mem _).mpr (.inr rfl),M0,rfl⟩
  ·rintro O H5 ⟨s5,lv,hv,v6,v7,v8,v9,lo,hi,Rl,Rh,bl,bh,m1,m2,m3,m4,rfl⟩
   refine⟨_,Z,_,Z,hv,lv,hi,lo,Z,Rh,Rl,bh.mono au,bl.mono au,_,Z,?_⟩;have e1:=a2D (ls:=oK r f e b) (hs:=oT r f bd e b) m1 m2 m3 m4;have:=k H5 (s4.trans s5);unfold kl at this;rw[e1]at this;exact this
def fg(zs:List Int):af:=.tuple (zs.map PyData.int)
def fG(os:List Itm)(i:Nat):List af:=match os[i]? with |some (some (ns,_))=>(List.range (aE ns)).map λk=>.tuple [.int i,fg (fK ns k)] |_=>[.tuple [.int i,.none]]
def cJ(os:List Itm):Nat->List af |0=>[] |i+1=>cJ os i++fG os i
theorem rf{os:List Itm}{i:Nat}{ns:List Int}{sp:Int}(h:os[i]? =some (some (ns,sp))):fG os i=(List.range (aE ns)).map λk=>.tuple [.int i,fg (fK ns k)]:=by unfold fG;rw[h]
theorem qZ{os:List Itm}{i:Nat}(h:os[i]? =some none):fG os i=[.tuple [.int i,.none]]:=by unfold fG;rw[h]
theorem S5(zs:List Int):cQ (fg zs)=true:=by
 have:cg (zs.map PyData.int)=true:=cP.mpr λd hd=>by obtain⟨i,_,rfl⟩:=fu.mp hd;rfl
 simp[fg,cQ,this]
theorem Nf(os:List Itm)(i:Nat):cg (fG os i)=true:=by
 unfold fG;split
 ·exact cP.mpr λd hd=>by obtain⟨k,_,rfl⟩:=fu.mp hd;simp[cQ,cg,S5]
 ·simp[cQ,cg]
theorem Nh(os:List Itm):∀i,cg (cJ os i)=true
 |0=>rfl |i+1=>cP.mpr λd hd=>by
  rcases jC.mp hd with h|h
  ·exact cP.mp (Nh os i) d h
  ·exact cP.mp (Nf os i) d h
theorem rh{n:Nat}{rate:Int}{ds:List af}{os:List Itm}(row:cn n ds os):∀i,i<=os.length->(cJ os i).length=(fo rate ds os i).length |0,_=>rfl |i+1,h=>by have ll:=row.len;show(cJ os i++fG os i).length=(fo rate ds os i++hZ rate ds os i).length;rw[cD,cD,rh row i ak];obtain⟨o,eo⟩:∃o,os[i]? =some o:=⟨_,bw (show i<os.length by lia)⟩;cases o with |none=>obtain⟨d',ed⟩:∃d',ds[i]? =some d':=⟨_,bw (show i<ds.length by lia)⟩;rw[wH eo ed,qZ eo];rfl |some q=>obtain⟨ns,sp⟩:=q;rw[qY eo,rf eo,bu,bu]
inductive a4d(K:a7)(vs:List V)(H:Hp)(Q:VK):Prop |mk (iv:_)(n:_)(ds:_)(os:_)(h0:vs=[iv])(h1:RD K H iv (.tuple ds))(h2:cn n ds os)(h3:n<=3)(h4:ds.length<=30)(h5:∀l ys H',H l=none->H' l=some (.lst ys)->aC K H' ys (cJ os os.length)->aA H H'->Q (.ref l) H')
def HY(K:a7):Sp:=λvs H Q _=>a4d K vs H Q
theorem Ju:bo ["_law_items_here","_law_found","_law_number_here","_law_item"] ["_law_items_here"] (aZ CH):=bE aJ
theorem Vb(F:FA K mg "_law_due_entries" CH)(B:bB mg)(Z4:ay P w K mg ao "_law_rows" 3 (Be K)):ay P w K mg ao "_law_due_entries" 4 (HY K):=by
 refine F.has Ju (λvs H Q E h=>?_) (λ_ _ _ _ _ _=>gj λ_=>rfl) (λfa aH A outer s H vs Q E hr h=>?_)
 ·obtain⟨iv,n,ds,os,rfl,_⟩:=h
  rfl
 ·obtain⟨iv,n,ds,os,rfl,ri,row,n3,hz,k⟩:=h
  have nd:=Ju.nd;refine⟨_,(aB (pS 1 nd (cI aq)) (aB (fh eE Z (tj K Z false Z (B.at "enumerate") (ai (pv 0) aq)) (cV K rfl (n:=2) rfl (bF (aX 2 nd) (bF (aX 3 nd) cU))) (aD (bD (bQ (dH K Z hr.units) (px K (pv 3) aw) dY (bC _)) (aD (fU (yJ K Z (pv 1) (ai (fV (N:=["_law_row","_law_number_here"]) (js:=[none,some 2]) Z Z Z (oo K Z (pf Z4 hr (ai (pv 3) aq))) (λ_ _ _ _ _=>(aX 0 (hJ au))) (λ_ _ _ _ _=>f6) (λ_ _ _ _ _=>(cF (ai (pv 1) (ai (pv 0) aq))))) aq)))) (aD (fU (gY K Z (pv 1) (ai (cF (ai (pv 2) (ai fi aq))) aq))))))) (aD (aU (pv 1))))),?_⟩;have ll:=row.len;have p8:sizeLine=16777216:=by decide
  refine⟨bA Z,λD H2 n2=>?_⟩;have nD:=n2.no;obtain⟨ia,xs,rfl,hi,da⟩:=ri.bT;have lx:=da.length;refine⟨_,Z,ia,Z,⟨_,hi.go n2.same⟩,u6 (K:=K) (b:=false) (a:=ia) (xs:=xs) (λi O H3=>aA H H3/\∃zs v1 v2,H3 D=some (.lst zs)/\aC K H3 zs (cJ os i)/\O=[some (.ref ia),some (.ref D),v1,v2]) ⟨n2.same,[],none,none,n2.at',cf,Z⟩ (λi O H3 _ h=>hi.go h.1) ?_ ?_⟩
  ·rintro i y O H3 hy ⟨s3,zs,v1,v2,dz,rz,rfl⟩ T H4 n4
   have tN:i<xs.length:=(cy.mp hy).1;obtain⟨d,ed,rd⟩:=da.get' i hy;obtain⟨o,eo,it⟩:=row.get ed;have s4:=s3.trans n4.same;have oh:=RD.mono s4 _ rd;have gR:=n4.same _ _ dz;have qi:=aC.mono n4.same _ rz;have tl:=(ud (rate:=100) row i ak).1;have tn:=Nh os i;have lz:=rz.length;rw[rh (rate:=100) row i ak]at lz;obtain⟨a,wd,yw,rfl,h1,ew,sw⟩:=zm oh it;refine⟨T,_,Z,aK.of n4.at',Z,_,_,Z,_,_,Z,Z,?_⟩;refine⟨_,Z,.inr ⟨a,_,0,.str wd,Z,Z,h1,cK (jE 0) Z,.inr ⟨_,_,cE _,cE _,sw,ze,_,Z,?_⟩⟩⟩;rw[ew];cases o with
   |none=>
    refine aQ ?_;refine⟨_,Z,.inl ⟨Z,_,aF.of gR⟩,?_⟩;refine⟨_,Z,bA Z,λt H5 n5=>?_⟩;have zT:=n5.same _ _ gR;refine⟨D,zs,_,Z,Z,zT,ak,?_⟩;refine⟨λb o e=>?_,_,_,_,bX,?_,Z⟩
    ·rw[bf (cC e nD)];exact n5.same b o (s4 b o e)
    ·show aC K _ _ (cJ os i++fG os i)
     rw[qZ eo];exact aC.qg zT (aC.mono n5.same _ qi) (dC (aK.of n5.at') (bK (cM _) (bK vo cf))) tn (by simp[cQ,cg]) |some q=>
    obtain⟨ns,sp⟩:=q;refine aY ?_;have jv:=jm it;subst jv;obtain⟨bW,cL,cZ⟩:=row.ok i ns sp eo;have ko:=lN bW;refine⟨_,Z,.inl ⟨Z,_,aF.of gR⟩,?_⟩;refine⟨_,Z,_,ns,sp,Z,oh,⟨Z,bW.bd,bW.nz⟩,by rw[bW.len];lia,λl3 y3 H6 yT pF o9 s6=>?_⟩;have qy:=o9.length;rw[gK,bu,gF]at qy;refine⟨l3,Z,⟨_,aF.of pF⟩,λD2 H7 n7=>?_⟩;have nE:=Nf os i;have lE:(fG os i).length=aE ns:=by rw[rf eo,bu,gF]
    refine Nx (K:=K) (ds:=fG os i) _ (aF.of pF) n7 (by rw[lE,qy]) ak nE ?_ ?_
    ·intro q x dd H8 Q' ex pA s8 hq
     have hW:q<aE ns:=by have:=(cy.mp ex).1;lia
     obtain⟨d3,e3,r3⟩:=o9.get' q ex;rw[gK,bN,jV hW]at e3;cases e3;rw[rf eo,bN,jV hW]at pA;cases pA;refine⟨_,Z,_,Z,bA Z,λt H9 n9=>?_⟩;exact hq _ _ n9.same (dC (aK.of n9.at') (bK (cM _) (bK (RD.mono (s8.trans n9.same) _ r3) cf)))
    ·intro H8 z8 s8 d8 r8
     have gJ:=s6.trans s8;have pD:=gJ _ _ gR;have l8:=r8.length;refine⟨D,D2,zs,z8,Z,Z,pD,d8,ak,?_⟩;have tu:cR H8 (L2.upd H8 D (.lst (zs++z8))):=.fw pD;refine⟨λb o e=>?_,_,_,_,bX,?_,Z⟩
     ·rw[bf (cC e nD)];exact gJ b o (s4 b o e)
     ·exact(aC.t tu _ tn (aC.mono gJ _ qi)).append (aC.t tu _ nE r8)
  ·rintro O H3 ⟨s3,zs,v1,v2,dz,rz,rfl⟩
   rw[lx,ll]at rz;exact⟨_,Z,k D zs H3 nD dz rz s3⟩
theorem Jk:bo ["_law_thing"] ["_law_thing"] (aZ Ct):=bE aJ
theorem zh{z:Str}(h:SeqAt.shaped (.str z)=true):OE (.str z):=.inr ⟨z,Z,h,by simp[PyData.eqv]⟩
theorem Jt:bo ["_law_machine_here","_law_item","_law_row","_law_rate","_law_entry","_law_t","_law_square"] ["_law_machine_here","_law_item","_law_row","_law_rate","_law_entry"] (aZ CG):=bE aJ
theorem Ng{n:Nat}{ds:List af}{os:List Itm}(row:cn n ds os){i:Nat}(hi:i<os.length):1<=(fG os i).length:=by obtain⟨o,eo⟩:∃o,os[i]? =some o:=⟨_,bw hi⟩;cases o with |none=>rw[qZ eo];exact ba _ |some q=>obtain⟨ns,sp⟩:=q;obtain⟨bW,_,_⟩:=row.ok i ns sp eo;have:=bW.lead;rw[rf eo,bu,gF];lia
theorem Fv(os:List Itm){i k:Nat}(h:i<=k):(cJ os i).length<=(cJ os k).length:=by induction h with |refl=>exact ba _ |step _ ih=>refine fe ih ?_;show _<=(cJ os _++fG os _).length;rw[cD];lia
theorem Nc{n0:Nat}{j rate:Int}{ds:List af}{os:List Itm}(row:cn n0 ds os):∀n,n<=os.length->∀k,k<(cJ os n).length->∃i c,i<n/\k=(cJ os i).length+c/\c<(fG os i).length/\(cJ os n)[k]? =(fG os i)[c]? /\(fo rate ds os n)[k]? =(hZ rate ds os i)[c]? /\(iz j rate os n)[k]? =(jz j rate os i)[c]?
 |0,_,k,h=>by simp[cJ]at h |n+1,hn,k,h=>by
  have l1:=rh (rate:=rate) row n ak;have l2:=pJ (j:=j) (rate:=rate) row n ak;by_cases hk:k<(cJ os n).length
  ·obtain⟨i,c,a1,a2,a3,a4,a5,a6⟩:=Nc (j:=j) (rate:=rate) row n ak k hk
   refine⟨i,c,ak,a2,a3,?_,?_,?_⟩
   ·rw[<-a4];exact pV hk
   ·rw[<-a5];exact pV ak
   ·rw[<-a6];exact pV ak
  ·have h':k<(cJ os n++fG os n).length:=h
   rw[cD]at h';refine⟨n,k-(cJ os n).length,ak,ak,ak,?_,?_,?_⟩
   ·exact nQ ak
   ·rw[l1];exact nQ ak
   ·rw[l1,<-l2];exact nQ ak
structure At(j rate:Int)(ds:List af)(os:List Itm)(k i c:Nat):Prop where
 hi:i<os.length
 ek:k=(cJ os i).length+c
 hc:c<(fG os i).length
 dl:(cJ os os.length)[k]? =(fG os i)[c]?
 du:(fo rate ds os os.length)[k]? =(hZ rate ds os i)[c]?
 bd:(df j rate os)[k]? =(jz j rate os i)[c]?
theorem A8{n0:Nat}{j rate:Int}{ds:List af}{os:List Itm}(row:cn n0 ds os){k:Nat}(h:k<(cJ os os.length).length):∃i c,At j rate ds os k i c:=by obtain⟨i,c,a1,a2,a3,a4,a5,a6⟩:=Nc (j:=j) (rate:=rate) row _ (ba _) k h;refine⟨i,c,a1,a2,a3,a4,a5,?_⟩;rw[<-a6];refine pV ?_;rw[pJ (ds:=ds) row _ (ba _),<-rh row _ (ba _)];exact h
theorem At.num{j rate:Int}{ds:List af}{os:List Itm}{k i c:Nat}(h:At j rate ds os k i c):∃rd,(cJ os os.length)[k]? =some (.tuple [.int i,rd]):=by obtain⟨o,eo⟩:∃o,os[i]? =some o:=⟨_,bw h.hi⟩;have hc:=h.hc;rw[h.dl];cases o with
 |none=>
  rw[qZ eo]at hc⊢;have:c=0:=by simpa using hc
  subst this;exact⟨_,Z⟩ |some q=>obtain⟨ns,sp⟩:=q;rw[rf eo]at hc⊢;rw[bu,gF]at hc;rw[bN,jV hc];exact⟨_,Z⟩
theorem At.prev{n0:Nat}{j rate:Int}{ds:List af}{os:List Itm}(row:cn n0 ds os){k i c i' c':Nat}(h:At j rate ds os (k+1) i c)(g:At j rate ds os k i' c'):(i'=i/\0<c)\/(i'+1=i/\c=0):=by
 have e1:=h.ek;have e2:=g.ek;have b1:=h.hc;have b2:=g.hc;have step:∀x,(cJ os (x+1)).length=(cJ os x).length+(fG os x).length:=λx=>by show(cJ os x++fG os x).length=_;rw[cD]
 rcases Nat.lt_trichotomy i' i with bG|heq|Ma
 ·by_cases hs:i'+1=i
  ·subst hs
   rw[step]at e1;exact .inr ⟨Z,ak⟩
  ·have m1:=Fv os (show i'+2<=i by lia)
   have s1:=step i';have s2:=step (i'+1);have ne:=Ng row (show i'+1<os.length by have:=h.hi;lia);rw[show i'+2=i'+1+1 from Z,s2,s1]at m1
   lia
 ·subst heq
  exact .inl ⟨Z,ak⟩
 ·have m1:=Fv os (show i+1<=i' by lia)
  rw[step]at m1
  lia
theorem TC(j rate:Int)(os:List Itm):ownF j rate os os.length=0:=by cases h:os.length with |zero=>rfl |succ n=>show betR j rate (atO os n) (atO os (n+1))=0;rw[Ow.O7 (i:=n+1) ak,Ow.FO]
theorem TB{j rate:Int}{os:List Itm}{i:Nat}(h:os[i]? =some none):ownF j rate os (i+1)=0:=by show betR j rate (atO os i) (atO os (i+1))=0;rw[Ow.rF h];rfl
theorem FQ{j rate:Int}{os:List Itm}{i:Nat}(hi:i<os.length):(jz j rate os i)[0]? =some (ownF j rate os i):=by obtain⟨o,eo⟩:∃o,os[i]? =some o:=⟨_,bw hi⟩;cases o with |none=>rw[A5 eo];rfl |some q=>obtain⟨ns,sp⟩:=q;rw[wV eo];rfl
theorem a2t{j rate:Int}{os:List Itm}{i c:Nat}{ns:List Int}{sp:Int}(eo:os[i]? =some (some (ns,sp)))(h0:0<c)(hc:c<aE ns):(jz j rate os i)[c]? =some (topR rate sp):=by rw[wV eo];obtain⟨c',rfl⟩:∃c',c=c'+1:=⟨c-1,ak⟩;rw[List.getElem?_cons_succ,List.getElem?_replicate,aR ak]
theorem uc{d:af}{zs:List Int}{top:Rat}(h:fY d):d≠fF zs top:=λe=>by rcases h with⟨n,rfl,_,_⟩|⟨wd,z,rfl,_⟩<;>simp[fF]at e
theorem WN{d:af}{zs:List Int}{top:Rat}(h:itR d none):d≠fF zs top:=λe=>by
 rcases h with⟨ns,sp,_,h⟩|⟨wd,x,rfl,_,_,_⟩
 ·cases h
 ·simp[fF]at e
def ij:af->Bool | .tuple [.int p,.int q]=>decide (0<q)&&decide ((Int.gcd p q:Int)=1) |_=>false
theorem AW(d:af):(∃a b,d= .tuple [a,b])\/(∃ds,d= .tuple ds/\ds.length≠2/\ij d=false)\/(eR (dM d) "tuple"=false/\ij d=false):=by cases d with
 |tuple ds=>match ds with |[a,b]=>exact .inl ⟨a,b,Z⟩ |[]=>exact .inr (.inl ⟨_,Z,au,Z⟩) |[_]=>exact .inr (.inl ⟨_,Z,by simp,by simp[ij]⟩) |_::_::_::_=>exact .inr (.inl ⟨_,Z,by simp,by simp[ij]⟩)
 |_=>exact .inr (.inr ⟨by simp[dM];decide,Z⟩)
theorem EW{a b:af}(h:∀i,a≠ .int i):ij (.tuple [a,b])=false:=by cases a<;>first|rfl|exact absurd rfl (h _)
theorem EV{a b:af}(h:∀i,b≠ .int i):ij (.tuple [a,b])=false:=by cases a<;>cases b<;>first|rfl|exact absurd rfl (h _)
inductive a44(K:a7)(vs:List V)(H:Hp)(Q:VK):Prop |mk (v:_)(d:_)(h0:vs=[v])(h1:RD K H v d)(h2:Q (.bl (ij d)) H)
def Bo(K:a7):Sp:=λvs H Q _=>a44 K vs H Q
theorem V3(F:FA K mg "is_fraction" Cu)(B:bB mg)(kA:ay P w K mg ao "is_whole" 1 (iL K))(EJ:ay P w K mg ao "common_divisor" 1 yf):ay P w K mg ao "is_fraction" 2 (Bo K):=by
 refine F.has Jl (λvs H Q E h=>?_) (λ_ _ _ _ _ _=>gj λ_=>rfl) (λf aH A outer s H vs Q E hr h=>?_)
 ·obtain⟨v,d,rfl,_⟩:=h
  rfl
 ·obtain⟨v,d,rfl,rd,k⟩:=h
  have nd:=Jl.nd;refine⟨_,(aB (bD (PW.pt (fT (cT (bZ (fk K B (ai (pv 0) (ai (eU (x:="tuple") (v:=.ty "tuple") Z (B.at "tuple") fN rfl) aq))))) (je (bQ (iR K rfl hr.units) (eH K B (ai (pv 0) aq)) aw (bC _))))) (aD (aU iP)) bH) (aB (eG (pv 0) (cV K Z (n:=2) Z (bF (aX 1 nd) (bF (aX 2 nd) cU)))) (aB (bD (PW.pt (fT (cT (bZ (pf kA hr (ai (pv 1) aq)))) (je (cT (bZ (pf kA hr (ai (pv 2) aq))))))) (aD (aU iP)) bH) (aD (aU (iQ (fW lC (pv 2) aw (bC _)) (jg (fW (dH K Z hr.units) (pf EJ hr (ai (pv 1) (ai (pv 2) aq))) aw (bC _))))))))),?_⟩;rcases AW d with⟨x,y,rfl⟩|⟨ds,rfl,hl,hf⟩|⟨ht,hf⟩
  ·refine⟨_,Z,.inl ⟨_,_,"tuple",true,Z,rd.ty,au,jF,_,Z,aQ ?_⟩⟩
   obtain⟨p,xs,rfl,hx,hd⟩:=rd.bT;obtain⟨u1,ys,rfl,r1,hd⟩:=hd.cons_inv;obtain⟨u2,ys,rfl,r2,hd⟩:=hd.cons_inv;cases hd.nil_inv;refine⟨_,Z,p,_,Z,.inr hx,.inl ⟨_,_,Z,Z,_,Z,aQ ?_⟩⟩;refine⟨_,Z,p,_,Z,hx,Z,_,_,Z,_,_,Z,Z,?_⟩;refine⟨_,Z,_,_,Z,r1.ty,_,Z,?_⟩;rcases jX x with⟨i,rfl,e⟩|⟨e,hn⟩
   ·cases r1.int_inv
    rw[e];refine aQ ?_;refine⟨_,Z,_,_,Z,r2.ty,_,Z,?_⟩;rcases jX y with⟨j,rfl,e⟩|⟨e,hn⟩
    ·cases r2.int_inv
     rw[e];refine aQ ?_;refine⟨_,Z,_,_,Z,Z,_,Z,?_⟩;have k:Q (.bl (decide (0<j)&&decide ((Int.gcd i j:Int)=1))) H:=k;refine eJ (λhc=>?_) (λhc=>?_)
     ·have gQ:decide (0<j)=true:=hc
      rw[gQ,j8]at k;exact⟨_,Z,_,Z,_,_,Z,.inl ⟨_,_,Z,Z,k⟩⟩
     ·have gQ:decide (0<j)=false:=nS.mpr hc
      rw[gQ,iG]at k;exact k
    ·rw[e]
     refine aY ?_;rw[EV hn]at k;exact k
   ·rw[e]
    refine aY ?_;rw[EW hn]at k;exact k
  ·rw[hf]at k
   refine⟨_,Z,.inl ⟨_,_,"tuple",true,Z,rd.ty,au,jF,_,Z,aQ ?_⟩⟩;obtain⟨p,xs,rfl,hx,hd⟩:=rd.bT;refine⟨_,Z,p,_,Z,.inr hx,.inl ⟨_,_,Z,Z,_,Z,?_⟩⟩;have e:(!decide ((xs.length:Int)=2))=true:=by rw[hd.length];simp;omega
   rw[e];exact aY k
  ·rw[hf]at k
   refine⟨_,Z,.inl ⟨_,_,"tuple",false,Z,rd.ty,au,ht,_,Z,aY ?_⟩⟩;exact k
theorem EU{d:af}(h:ij d=true):∃q:Rat,d=bL q:=by
 rcases AW d with⟨x,y,rfl⟩|⟨ds,rfl,_,hf⟩|⟨_,hf⟩
 ·rcases jX x with⟨p,rfl,_⟩|⟨_,hn⟩
  ·rcases jX y with⟨q,rfl,_⟩|⟨_,hn⟩
   ·have h:(decide (0<q)&&decide ((Int.gcd p q:Int)=1))=true:=h
    rw[eF]at h;have h1:=gW h.1;have h2:=gW h.2;refine⟨⟨p,q.toNat,aI,?_⟩,?_⟩
    ·have:Nat.gcd p.natAbs q.natAbs=1:=by unfold Int.gcd at h2;omega
     rw[show q.toNat=q.natAbs by omega];exact this
    ·show PyData.tuple [.int p,.int q]= .tuple [.int p,.int (q.toNat:Int)]
     rw[Pl aI]
   ·rw[EV hn]at h;cases h
  ·rw[EW hn]at h;cases h
 ·rw[hf]at h;cases h
 ·rw[hf]at h;cases h
theorem Dj(q:Rat):ij (bL q)=true:=by show(decide (0<(q.den:Int))&&decide ((Int.gcd q.num q.den:Int)=1))=true;have h1:=q.den_pos;have h2:Nat.gcd q.num.natAbs q.den=1:=q.reduced;rw[eF];refine⟨cj aI,cj ?_⟩;unfold Int.gcd;rw[AN,h2];rfl
noncomputable def pB(p:Prop):Bool:=@decide p (Classical.propDecidable p)
theorem jh{p:Prop}(h:p):pB p=true:=@decide_eq_true p (Classical.propDecidable p) h
theorem eV{p:Prop}(h:¬p):pB p=false:=@decide_eq_false p (Classical.propDecidable p) h
theorem yK(p:Prop):(p/\pB p=true)\/(¬p/\pB p=false):=(Classical.em p).elim (λh=>.inl ⟨h,jh h⟩) λh=>.inr ⟨h,eV h⟩
def xh(zs:List Int)(e:af):Prop:=∃a b,e= .tuple [.str "step",fg zs,a,b]
def rL(ti:Int)(a b:af):Prop:=∃q:Rat,0<q/\b=bL q/\a= .int (kY ti q)
theorem GZ(d:af):(∃a b c e,d= .tuple [a,b,c,e])\/(∃ds,d= .tuple ds/\ds.length≠4)\/(eR (dM d) "tuple"=false/\∀ds,d≠ .tuple ds):=by
 rcases xT d with⟨ds,rfl⟩|h
 ·match ds with |[a,b,c,e]=>exact .inl ⟨a,b,c,e,Z⟩ |[]=>exact .inr (.inl ⟨_,Z,by simp⟩) |[_]=>exact .inr (.inl ⟨_,Z,by simp⟩) |[_,_]=>exact .inr (.inl ⟨_,Z,by simp⟩) |[_,_,_]=>exact .inr (.inl ⟨_,Z,by simp⟩) |_::_::_::_::_::_=>exact .inr (.inl ⟨_,Z,by simp⟩)
 ·exact .inr (.inr h)
theorem Ff:∀{xs ys:List af},PyData.eqvAll xs ys=true->xs.length=ys.length/\∀(i:Nat)(x y:af),xs[i]? =some x->ys[i]? =some y->PyData.eqv x y=true
 |[],[],_=>⟨Z,λi x y e=>by simp at e⟩ |x::xs,y::ys,h=>by rw[PyData.eqvAll,eF]at h;obtain⟨h1,h2⟩:=Ff h.2;refine⟨by simp[h1],λi a b e1 e2=>?_⟩;cases i with |zero=>cases e1;cases e2;exact h.1 |succ i=>exact h2 i a b (by simpa using e1) (by simpa using e2)
 |[],_::_,h=>by simp[PyData.eqvAll]at h |_::_,[],h=>by simp[PyData.eqvAll]at h
theorem zM{x:af}{z:Int}(h:PyData.eqv x (.int z)=true)(w:eX (dM x)=true):x= .int z:=by
 rcases jX x with⟨i,rfl,_⟩|⟨e,_⟩
 ·have:(i==z)=true:=by simpa[PyData.eqv]using h
  rw[eB.mp this]
 ·rw[e]at w;cases w
theorem a1b{b:af}{zs:List Int}(h:PyData.eqv b (fg zs)=true):∃bs,b= .tuple bs/\bs.length=zs.length/\∀(i:Nat)(x:af)(z:Int),bs[i]? =some x->zs[i]? =some z->PyData.eqv x (.int z)=true:=by cases b with
 |tuple bs=>
  have h:PyData.eqvAll bs (zs.map PyData.int)=true:=by simpa[fg,PyData.eqv]using h
  obtain⟨h1,h2⟩:=Ff h;exact⟨bs,Z,by simpa using h1,λi x z e1 e2=>h2 i x _ e1 (by rw[bN,e2];rfl)⟩ |_=>simp[fg,PyData.eqv]at h
theorem yq(zs:List Int):bU 1 (fg zs):=dQ.tup (n:=0) λd hd=>by obtain⟨i,_,rfl⟩:=fu.mp hd;exact .int i
theorem a2I{bs:List af}{zs:List Int}(hl:bs.length=zs.length)(h:∀(i:Nat)(x:af)(z:Int),bs[i]? =some x->zs[i]? =some z->PyData.eqv x (.int z)=true):(bs.map λx=>eX (dM x)).all id=pB (PyData.tuple bs=fg zs):=by
 rcases yK (PyData.tuple bs=fg zs)with⟨e,hp⟩|⟨ne,hp⟩
 ·rw[hp,fJ]
  intro y hy;obtain⟨x,hx,rfl⟩:=fu.mp hy;injection e with e;rw[e]at hx;obtain⟨z,_,rfl⟩:=fu.mp hx;exact(by decide:eX "int"=true)
 ·rw[hp]
  cases e:(bs.map λx=>eX (dM x)).all id with |false=>rfl |true=>refine(ne ?_).elim;have e:=fJ.mp e;show PyData.tuple bs= .tuple (zs.map PyData.int);congr 1;refine uE λi=>?_;rw[bN];cases ez:zs[i]? with |none=>exact j7 (by rw[hl];exact List.getElem?_eq_none_iff.mp ez) |some z=>obtain⟨x,ex⟩:∃x,bs[i]? =some x:=⟨_,bw (by rw[hl];exact(cy.mp ez).1)⟩;rw[ex];have wx:=e _ (fu.mpr ⟨x,fO ex,Z⟩);rw[zM (h i x z ex ez) wx];rfl
theorem yy{H:Hp}{v:V}{a b c d:af}(h:RD K H v (.tuple [a,b,c,d])):∃p u1 u2 u3 u4,v= .ref p/\aK K H p [u1,u2,u3,u4]/\RD K H u1 a/\RD K H u2 b/\RD K H u3 c/\RD K H u4 d:=by obtain⟨p,xs,rfl,hx,hd⟩:=h.bT;obtain⟨u1,ys,rfl,r1,hd⟩:=hd.cons_inv;obtain⟨u2,ys,rfl,r2,hd⟩:=hd.cons_inv;obtain⟨u3,ys,rfl,r3,hd⟩:=hd.cons_inv;obtain⟨u4,ys,rfl,r4,hd⟩:=hd.cons_inv;cases hd.nil_inv;exact⟨p,u1,u2,u3,u4,Z,hx,r1,r2,r3,r4⟩
inductive a3B(K:a7)(vs:List V)(H:Hp)(Q:VK):Prop |mk (v:_)(u:_)(zs:_)(e:_)(h0:vs=[v,u])(h1:RD K H v (fg zs))(h2:RD K H u e)(h3:bU 8 e)(h4:zs.length<=1000)(h5:∀H',aA H H'->Q (.bl (pB (xh zs e))) H')
def HL(K:a7):Sp:=λvs H Q _=>a3B K vs H Q
theorem Uj(F:FA K mg "is_step_with" BO)(B:bB mg)(kA:ay P w K mg ao "is_whole" 1 (iL K)):ay P w K mg ao "is_step_with" 2 (HL K):=by
 refine F.has IC (λvs H Q E h=>?_) (λ_ _ _ _ _ _=>dn λ_ _=>rfl) (λfa aH A outer s H vs Q E hr h=>?_)
 ·obtain⟨v,u,zs,e,rfl,_⟩:=h
  rfl
 ·obtain⟨v,u,zs,e,rfl,rv,ru,ok,lz,k⟩:=h
  have nd:=IC.nd;refine⟨_,(aB (bD (PW.pt (fT (cT (bZ (fk K B (ai (pv 1) (ai (eU (x:="tuple") (v:=.ty "tuple") Z (B.at "tuple") fN rfl) aq))))) (fT (bQ (iR K rfl hr.units) (eH K B (ai (pv 1) aq)) aw (bC _)) (je (bQ (iR K rfl hr.units) (px K (pv 1) aw) dY (bC _)))))) (aD (aU iP)) bH) (aD (aU (iQ (fW (dH K Z hr.units) (px K (pv 1) aw) (pv 0) (bC _)) (jg (dk (x:="all") (wX K Z Z) Z (B.at "all") AB (ai (fV (N:=["number"]) (js:=[none]) rfl rfl rfl (kh K rfl (px K (pv 1) aw)) (λ_ _ _ _ _=>(aX 0 (oF _))) (λ_ _ _ _ _=>f6) (λ_ _ _ _ _=>(pf kA hr (ai (pv 0) aq)))) aq))))))),?_⟩;rcases GZ e with⟨a,b,c,d,rfl⟩|⟨ds,rfl,hl⟩|⟨ht,hn⟩
  ·obtain⟨p,u1,u2,u3,u4,rfl,h1,r1,r2,r3,r4⟩:=yy ru
   refine⟨_,Z,.inl ⟨_,_,"tuple",true,Z,ru.ty,au,jF,_,Z,aQ ?_⟩⟩;refine⟨_,Z,p,_,Z,.inr h1,.inl ⟨_,_,Z,Z,_,Z,aQ ?_⟩⟩;refine⟨_,Z,.inr ⟨p,_,0,u1,Z,Z,h1,Z,.inr ⟨a,_,r1,cE _,gI (qu ok (by simp)),aJ,_,Z,?_⟩⟩⟩;rw[m8];cases ea:eK "step" a with |false=>rw[eV (λ⟨x,y,z⟩=>by injection z with z;injection z with z;subst z;revert ea;decide+kernel)]at k;exact aY (k H (aA.refl _)) |true=>cases LH ea;refine aQ ?_;refine⟨_,Z,.inr ⟨p,_,1,u2,Z,Z,h1,Z,_,Z,.inr ⟨b,_,r2,rv,gI (qu ok (by simp)),(yq zs).shaped au,?_⟩⟩⟩;cases eb:PyData.eqv b (fg zs)with |false=>rw[eV (λ⟨x,y,z⟩=>by injection z with z;injection z with _ z;injection z with z;subst z;rw[(yq zs).refl]at eb;cases eb)]at k;exact⟨_,Z,aQ (k H (aA.refl _))⟩ |true=>
    obtain⟨bs,rfl,lb,hb⟩:=a1b eb;obtain⟨bp,bx,rfl,Mg,qO⟩:=r2.bT;have lx:=qO.length;refine⟨_,Z,aY ?_⟩;refine⟨_,Z,.inr ⟨p,_,1,.ref bp,Z,Z,h1,Z,bp,Z,⟨_,Mg⟩,λD H2 n2=>?_⟩⟩;refine zZ (xs:=bx) (bs:=bs.map λx=>eX (dM x)) [] Mg n2 (by rw[bu];omega) aI ?_ ?_
    ·intro i x y H3 Q' ex ey s3 hq
     obtain⟨d2,e2,rx⟩:=qO.get' i ex;rw[bN,e2]at ey;cases ey;exact⟨_,Z,x,_,Z,(RD.mono s3 _ rx).ty,hq _ (aA.refl _)⟩
    ·intro H3 s3 d3
     refine⟨D,_,Z,aF.of d3,?_⟩;have e:pB (xh zs (.tuple [.str "step",.tuple bs,c,d]))=pB (PyData.tuple bs=fg zs):=by
      rcases yK (PyData.tuple bs=fg zs)with⟨e,hp⟩|⟨ne,hp⟩
      ·rw[hp,e];exact jh ⟨_,_,Z⟩
      ·rw[hp];exact eV λ⟨x,y,z⟩=>ne (by injection z with z;injection z with _ z;injection z)
     rw[a2I lb hb,<-e];exact k H3 s3
  ·rw[eV (λ⟨x,y,z⟩=>by injection z with z;subst z;exact hl rfl)]at k
   refine⟨_,Z,.inl ⟨_,_,"tuple",true,Z,ru.ty,au,jF,_,Z,aQ ?_⟩⟩;obtain⟨p,xs,rfl,hx,hd⟩:=ru.bT;refine⟨_,Z,p,_,Z,.inr hx,.inl ⟨_,_,Z,Z,_,Z,?_⟩⟩;have e:(!decide ((xs.length:Int)=4))=true:=by rw[hd.length];simp;omega
   rw[e];exact aY (k H (aA.refl _))
  ·rw[eV (λ⟨x,y,z⟩=>hn _ z)]at k
   exact⟨_,Z,.inl ⟨_,_,"tuple",false,Z,ru.ty,au,ht,_,Z,aY (k H (aA.refl _))⟩⟩
inductive a3s(K:a7)(vs:List V)(H:Hp)(Q:VK):Prop |mk (m:_)(tv:_)(sv:_)(rs:_)(r:_)(f:_)(j:_)(ti:_)(dt:_)(dq:_)(h0:vs=[m,tv,sv])(h1:RD K H m (dZ rs r f j ti))(h2:RD K H tv dt)(h3:RD K H sv dq)(h4:1<=ti)(h5:ti<=100)(h6:(∀t,dt= .int t->t.natAbs<2^2400))(h7:(∀q,dq=bL q->Bd 1900 q))(h8:∀H',aA H H'->Q (.bl (pB (rL ti dt dq))) H')
def HG(K:a7):Sp:=λvs H Q _=>a3s K vs H Q
theorem yC{q p:Rat}(h:bL q=bL p):q=p:=by unfold bL at h;injection h with h;injection h with h1 h;injection h with h2 h;injection h1 with h1;injection h2 with h2;exact Rat.ext h1 aI
theorem rL.iff{ti t:Int}{q:Rat}(h1:1<=ti)(h2:ti<=100)(bq:Bd 2000 q)(q0:0<q)(t1:1<=t):rL ti (.int t) (bL q)↔cX ti q t=true/\cX ti q (t-1)=false:=by
 constructor
 ·rintro⟨p,p0,e1,e2⟩
  cases yC e1;injection e2 with e2;subst e2;exact(xV h1 h2 q0 bq).2.2
 ·rintro⟨a,b⟩
  exact⟨q,q0,Z,by rw[xW (AO (yP q0)) ⟨t1,a,b⟩]⟩
theorem Ud(F:FA K mg "is_timed" BG)(B:bB mg)(gN:GT K mg "NOUGHT" [.int 0,.int 1])(kA:ay P w K mg ao "is_whole" 1 (iL K))(XZ:ay P w K mg ao "is_fraction" 2 (Bo K))(nk:ay P w K mg ao "is_less" 1 (jJ K))(wk:ay P w K mg ao "are_enough" 1 (ye K)):ay P w K mg ao "is_timed" 3 (HG K):=by
 refine F.has Ir (λvs H Q E h=>?_) (λ_ _ _ _ _ _=>j4 λ_ _ _=>rfl) (λfa aH A outer s H vs Q E hr h=>?_)
 ·obtain⟨m,tv,sv,rs,r,f,j,ti,dt,dq,rfl,_⟩:=h
  rfl
 ·obtain⟨m,tv,sv,rs,r,f,j,ti,dt,dq,rfl,rm,rt,rq,uN,xX,bt,bq,k⟩:=h
  have nd:=Ir.nd;obtain⟨aN,nA,nX⟩:=gN;refine⟨_,(aB (bD (PW.pt (fT (cT (bZ (pf kA hr (ai (pv 1) aq)))) (fT (bQ ji (pv 1) aw (bC _)) (fT (cT (bZ (pf XZ hr (ai (pv 2) aq)))) (je (cT (bZ (pf nk hr (ai (cN (x:="NOUGHT") Z nA) (ai (pv 2) aq)))))))))) (aD (aU iP)) bH) (aD (aU (iQ (pf wk hr (ai (pv 0) (ai (pv 2) (ai (pv 1) aq)))) (jg (ql (pf wk hr (ai (pv 0) (ai (pv 2) (ai (aG gs (pv 1) aw) aq)))))))))),?_⟩;have k:=k H (aA.refl _);refine⟨_,Z,_,_,Z,rt.ty,_,Z,?_⟩;rcases jX dt with⟨t,rfl,e⟩|⟨e,hn⟩
  ·cases rt.int_inv
   have t2:=bt t rfl;rw[e];refine aQ ⟨_,Z,_,_,Z,Z,_,Z,?_⟩;by_cases t1:t<1
   ·rw[cj t1]
    rw[eV (λ⟨q,q0,e1,e2⟩=>by injection e2 with e2;subst e1;have:=(xV uN xX q0 ((bq q rfl).mono au)).1;omega)]at k;exact aY k
   rw[cY t1];refine aQ ?_;refine⟨_,Z,sv,dq,Z,rq,_,Z,?_⟩;cases fr:ij dq with |false=>rw[eV (λ⟨q,q0,e1,e2⟩=>by subst e1;rw[Dj]at fr;cases fr)]at k;exact aY k |true=>
    obtain⟨q,rfl⟩:=EU fr;have bq:=(bq q Z).mono (m:=2000) au;have Rq:bj K H sv q:=fS rq;refine aQ ?_;refine⟨_,Z,.ref aN,sv,0,q,Z,⟨aN,Z,nX H⟩,Rq,⟨au,au⟩,bq,_,Z,?_⟩;by_cases q0:0<q
    ·rw[cj q0]
     have uO:=rL.iff uN xX bq q0 (show 1<=t by omega);refine aQ ?_;refine⟨_,Z,_,Z,_,Z,m,sv,t,rs,r,f,j,ti,q,Z,rm,Rq,bq,uN,xX,aI,t2,?_⟩;cases N4:cX ti q t with |false=>rw[eV (λh=>by have:=(uO.mp h).1;rw[N4]at this;cases this)]at k;exact⟨_,Z,aQ k⟩ |true=>refine⟨_,Z,aY ?_⟩;refine⟨_,Z,_,Z,_,Z,_,_,Z,Z,m,sv,t-1,rs,r,f,j,ti,q,Z,rm,Rq,bq,uN,xX,aI,aI,?_⟩;cases N3:cX ti q (t-1)with |true=>rw[eV (λh=>by have:=(uO.mp h).2;rw[N3]at this;cases this)]at k;exact⟨_,Z,k⟩ |false=>rw[jh (uO.mpr ⟨N4,N3⟩)]at k;exact⟨_,Z,k⟩
    ·rw[cY q0]
     rw[eV (λ⟨p,p0,e1,e2⟩=>by cases yC e1;exact q0 p0)]at k;exact aY k
  ·rw[e]
   rw[eV (λ⟨q,q0,e1,e2⟩=>hn _ e2)]at k;exact aY k
structure gE(e:af):Prop where
 ok:bU 7 e
 sh:vc e=true
 bt:∀a b t c,e= .tuple [a,b,.int t,c]->t.natAbs<2^2400
 bq:∀a b c p q,e= .tuple [a,b,c,.tuple [.int p,.int q]]->p.natAbs<2^1900/\q.natAbs<2^1900
theorem gE.bd{a b c:af}{q:Rat}(h:gE (.tuple [a,b,c,bL q])):Bd 1900 q:=by obtain⟨h1,h2⟩:=h.bq a b c q.num q.den rfl;exact⟨h1,by rw[AN]at h2;exact h2⟩
inductive fc(ti:Int)(du e:af):Option Rat->Nat->Prop |gr:e=du->fY du->fc ti du e none 0 |vw:e≠du->fY du->gE e->fc ti du e none 1 |sH (zs:List Int)(top q:Rat):du=fF zs top->e=jZ ti zs q->0<q->Bd 1900 q->Bd 2000 top->zs.length<=1000->fc ti du e (some q) (if top<q then 3 else 0) |uT (zs:List Int)(top:Rat):du=fF zs top->¬xh zs e->gE e->zs.length<=1000->fc ti du e none 1 |uS (zs:List Int)(top:Rat)(a b:af):du=fF zs top->e= .tuple [.str "step",fg zs,a,b]->¬rL ti a b->gE e->zs.length<=1000->fc ti du e none 2
theorem fc.vz{ti:Int}{du e:af}{s:Option Rat}{y:Nat}(h:fc ti du e s y):rO 1900 s:=by cases h with |sH _ _ _ _ _ _ b _ _=>exact b |_=>trivial
theorem a1g(ti:Int){du e:af}(o:fY du)(h:gE e):∃y,fc ti du e none y:=by
 by_cases he:e=du
 ·exact⟨_,.gr he o⟩
 ·exact⟨_,.vw he o h⟩
theorem a1f(ti:Int){zs:List Int}{top:Rat}{e:af}(bt:Bd 2000 top)(lz:zs.length<=1000)(h:gE e):∃s y,fc ti (fF zs top) e s y:=by
 by_cases hw:xh zs e
 ·obtain⟨a,b,rfl⟩:=hw
  by_cases ht:rL ti a b
  ·obtain⟨q,q0,rfl,rfl⟩:=ht
   exact⟨_,_,.sH zs top q Z Z q0 h.bd bt lz⟩
  ·exact⟨_,_,.uS zs top a b Z Z ht h lz⟩
 ·exact⟨_,_,.uT zs top Z hw h lz⟩
theorem Kt{d:af}(o:fY d):∃wd u,d= .tuple [.str wd,u]/\eK "step" (.str wd)=false/\SeqAt.shaped (.str wd)=true:=by
 rcases o with⟨n,rfl,_,_⟩|⟨wd,z,rfl,hw,_,_⟩
 ·exact⟨"wait",_,Z,aJ,aJ⟩
 ·refine⟨wd,_,Z,?_⟩
  rcases hw with rfl|rfl<;>exact⟨aJ,aJ⟩
theorem zL{x:af}{z:Str}(h:PyData.eqv x (.str z)=true):x= .str z:=LH (by rw[<-m8];exact h)
theorem Fe{e x y:af}(h:PyData.eqv e (.tuple [x,y])=true):∃a b,e= .tuple [a,b]/\PyData.eqv a x=true/\PyData.eqv b y=true:=by cases e with
 |tuple bs=>
  have h:PyData.eqvAll bs [x,y]=true:=by simpa[PyData.eqv]using h
  obtain⟨h1,h2⟩:=Ff h
  match bs,h1 with |[a,b],_=>exact⟨a,b,Z,h2 0 a x Z Z,h2 1 b y Z Z⟩
 |_=>simp[PyData.eqv]at h
theorem TK{n:Nat}{d e:af}(o:fY d)(h:PyData.eqv e d=true)(i:lO n e=true):e=d:=by
 rcases o with⟨m,rfl,_,_⟩|⟨wd,z,rfl,hw,_,_⟩
 ·obtain⟨a,b,rfl,h1,h2⟩:=Fe h
  cases zL h1;have i:gu 1 1000 b=true:=i;obtain⟨k,rfl⟩:=LM i;rw[zM h2 (by decide:eX "int"=true)]
 ·obtain⟨a,b,rfl,h1,h2⟩:=Fe h
  cases zL h1;cases zL h2;rfl
def fv(y:Nat):V:=if y=0 then .bM else .int (y:Nat)
theorem fc.kind{ti:Int}{du e:af}{s:Option Rat}{y:Nat}(h:fc ti du e s y):fY du\/∃zs top,du=fF zs top/\zs.length<=1000:=by cases h with |gr _ o=>exact .inl o |vw _ o _=>exact .inl o |sH zs top q h1 _ _ _ _ l=>exact .inr ⟨zs,top,h1,l⟩ |uT zs top h1 _ _ l=>exact .inr ⟨zs,top,h1,l⟩ |uS zs top a b h1 _ _ _ l=>exact .inr ⟨zs,top,h1,l⟩
theorem fc.other{ti:Int}{du e:af}{s:Option Rat}{y:Nat}(n:Nat)(h:fc ti du e s y)(o:fY du):s=none/\bU 8 e/\vc e=true/\((e=du/\y=0/\lO n e=true)\/(e≠du/\y=1)):=by cases h with |gr h1 _=>subst h1;obtain⟨i1,i2,i3⟩:=xm.is (n:=n) (d:=e) (o:=none) ⟨o.it,(λ_ _ z=>nomatch z),λ_=>o⟩;exact⟨Z,i2,i3,.inl ⟨Z,Z,i1⟩⟩ |vw h1 _ d=>exact⟨Z,d.ok.le au,d.sh,.inr ⟨h1,Z⟩⟩ |sH zs top q h1 _ _ _ _ _=>exact(uc o h1).elim |uT zs top h1 _ _ _=>exact(uc o h1).elim |uS zs top a b h1 _ _ _ _=>exact(uc o h1).elim
theorem Ft{zs uH:List Int}{top uM:Rat}(h:fF zs top=fF uH uM):zs=uH/\top=uM:=by
 simp only[fF,PyData.tuple.injEq,List.cons.injEq,true_and,and_true,bL]at h;obtain⟨h1,h2,h3⟩:=h;refine⟨?_,?_⟩
 ·exact(List.map_inj_right (f:=PyData.int) (λx y e=>by injection e)).mp h1
 ·refine Rat.ext ?_ ?_
  ·injection h2 with h2
  ·injection h3 with h3;lia
theorem QY(zs:List Int)(t:Int)(q:Rat):bU 8 (Hu zs t q):=(dQ.tup (n:=1) (.cons (⟨aJ,dS _⟩:bU 1 (.str "step")) (.cons (yq zs) (.cons (.int _) (.cons (yA q) .nil))))).le au
theorem fc.step{ti:Int}{zs:List Int}{top:Rat}{e:af}{s:Option Rat}{y:Nat}(h:fc ti (fF zs top) e s y)(t1:1<=ti)(t2:ti<=100):bU 8 e/\((¬xh zs e/\y=1/\s=none)\/∃a b,e= .tuple [.str "step",fg zs,a,b]/\(∀t,a= .int t->t.natAbs<2^2400)/\(∀p q,b= .tuple [.int p,.int q]->p.natAbs<2^1900/\q.natAbs<2^1900)/\((¬rL ti a b/\y=2/\s=none)\/∃q,0<q/\Bd 1900 q/\b=bL q/\a= .int (kY ti q)/\Bd 2000 top/\y=(if top<q then 3 else 0)/\s=some q)):=by cases h with
 |gr h1 o=>exact(uc o Z).elim |vw _ o _=>exact(uc o Z).elim |sH uH uM q h1 h2 q0 bq bt _=>
  obtain⟨rfl,rfl⟩:=Ft h1;subst h2;refine⟨QY _ _ _,.inr ⟨_,_,Z,λt e=>?_,λp q' e=>?_,.inr ⟨q,q0,bq,Z,Z,bt,Z,Z⟩⟩⟩
  ·injection e with e;subst e;exact(xV t1 t2 q0 (bq.mono au)).2.1
  ·unfold bL at e
   injection e with e;injection e with e1 e;injection e with e2 e;injection e1 with e1;injection e2 with e2;subst e1 e2;exact⟨bq.num,by rw[AN];exact bq.den⟩ |uT uH uM h1 h2 d _=>obtain⟨rfl,rfl⟩:=Ft h1;exact⟨d.ok.le au,.inl ⟨h2,Z,Z⟩⟩ |uS uH uM a b h1 h2 h3 d _=>obtain⟨rfl,rfl⟩:=Ft h1;subst h2;exact⟨d.ok.le au,.inr ⟨a,b,Z,λt e=>d.bt _ _ t _ (by rw[e]),λp q e=>d.bq _ _ _ p q (by rw[e]),.inl ⟨h3,Z,Z⟩⟩⟩
theorem NS{b:af}(h:∀p q,b= .tuple [.int p,.int q]->p.natAbs<2^1900/\q.natAbs<2^1900):∀q,b=bL q->Bd 1900 q:=λq e=>by obtain⟨h1,h2⟩:=h q.num q.den e;exact⟨h1,by rw[AN]at h2;exact h2⟩
inductive a48(K:a7)(vs:List V)(H:Hp)(Q:VK):Prop |mk (m:_)(xv:_)(ev:_)(rs:_)(r:_)(f:_)(j:_)(ti:_)(du:_)(e:_)(s:_)(y:_)(h0:vs=[m,xv,ev])(h1:RD K H m (dZ rs r f j ti))(h2:fb rs r f j ti)(h3:RD K H xv du)(h4:RD K H ev e)(h5:fc ti du e s y)(h6:∀H',aA H H'->Q (fv y) H')
def Bp(K:a7):Sp:=λvs H Q _=>a48 K vs H Q
theorem V7(F:FA K mg "fault_of_entry" CC)(B:bB mg)(tP:GV mg "NOT_DUE" (.int 1))(YE:GV mg "WRONG_TICKS" (.int 2))(YZ:GV mg "ABOVE_TOP" (.int 3))(XY:ay P w K mg ao "is_item" 4 (Bn K))(XT:ay P w K mg ao "is_step_with" 2 (HL K))(XS:ay P w K mg ao "is_timed" 3 (HG K))(nk:ay P w K mg ao "is_less" 1 (jJ K)):ay P w K mg ao "fault_of_entry" 5 (Bp K):=by
 refine F.has Jq (λvs H Q E h=>?_) (λ_ _ _ _ _ _=>j4 λ_ _ _=>rfl) (λfa aH A outer s H vs Q E hr h=>?_)
 ·obtain⟨m,xv,ev,rs,r,f,j,ti,du,e,sq,y,rfl,_⟩:=h
  rfl
 ·obtain⟨m,xv,ev,rs,r,f,j,ti,du,e,sq,y,rfl,rm,aP,rx,re,ent,k⟩:=h
  have nd:=Jq.nd;have lr:=aP.len;refine⟨_,(aB (bD (bQ (iR K Z hr.units) (px K (pv 1) aw) dY (bC _)) (aD (aU (vv (PW.pt (sZ (bZ (pf XY hr (ai (pv 0) (ai (pv 2) aq)))) (vq (bQ (dH K Z hr.units) (pv 2) (pv 1) (bC _))))) fi (cN (x:="NOT_DUE") Z tP)))) bH) (aB (eG (pv 1) (cV K Z (n:=3) Z (bF (aX 3 nd) (bF (aX 4 nd) (bF (aX 5 nd) cU))))) (aB (bD (cT (bZ (pf XT hr (ai (pv 4) (ai (pv 2) aq))))) (aD (aU (cN (x:="NOT_DUE") Z tP))) bH) (aB (bD (cT (bZ (pf XS hr (ai (pv 0) (ai (px K (pv 2) aw) (ai (px K (pv 2) aw) aq)))))) (aD (aU (cN (x:="WRONG_TICKS") Z YE))) bH) (aD (aU (vv (bZ (pf nk hr (ai (pv 5) (ai (px K (pv 2) aw) aq)))) (cN (x:="ABOVE_TOP") Z YZ) fi))))))),?_⟩;rcases ent.kind with gr|⟨zs,top,rfl,lz⟩
  ·obtain⟨_,lH,RG,hy⟩:=ent.other rs.length gr
   obtain⟨wd,u,rfl,hw,hs⟩:=Kt gr;obtain⟨a,xs,rfl,h1,hd⟩:=id rx.bT;obtain⟨u1,ys,rfl,e1,hd⟩:=hd.cons_inv;cases e1.str_inv;obtain⟨_,i2,_⟩:=xm.is (n:=rs.length) (d:=.tuple [.str wd,u]) (o:=none) ⟨gr.it,(λ_ _ z=>nomatch z),λ_=>gr⟩;refine⟨_,Z,.inr ⟨a,_,0,.str wd,Z,Z,h1,cK (jE 0) Z,.inr ⟨_,_,cE _,cE _,hs,aJ,_,Z,?_⟩⟩⟩;rw[m8,hw];refine aY ⟨_,Z,_,Z,m,ev,rs,[PyData.int r,.int f,.int j,.int ti],_,Z,rm,re,aI,lH,RG,λH1 s1=>?_⟩;have k:=k H1 s1;cases ei:lO rs.length e with
   |false=>
    rcases hy with⟨_,_,i1⟩|⟨_,rfl⟩
    ·rw[ei]at i1;cases i1
    refine⟨_,Z,aQ ?_⟩;exact aQ k |true=>
    refine⟨_,Z,aY ?_⟩;refine⟨_,Z,_,Z,.inr ⟨_,_,RD.mono s1 _ re,RD.mono s1 _ rx,gI lH,gI i2,_,Z,?_⟩⟩;rcases hy with⟨rfl,rfl,_⟩|⟨ne,rfl⟩
    ·rw[eqv_refl _ i2.lay]
     exact aY k
    ·rw[show PyData.eqv e (.tuple [.str wd,u])=false from nS.mpr λh=>ne (TK gr h ei)]
     exact aQ k
  ·obtain⟨lH,hy⟩:=ent.step aP.t1.1 aP.t1.2
   obtain⟨x,xs,rfl,g1,hd⟩:=id rx.bT;obtain⟨u1,ys,rfl,e1,hd⟩:=hd.cons_inv;obtain⟨u2,ys,rfl,e2,hd⟩:=hd.cons_inv;obtain⟨u3,ys,rfl,e3,hd⟩:=hd.cons_inv;cases hd.nil_inv;cases e1.str_inv;have Rt':bj K H u3 top:=fS e3;refine⟨_,Z,.inr ⟨x,_,0,.str "step",Z,Z,g1,cK (jE 0) Z,.inr ⟨_,_,cE _,cE _,aJ,aJ,_,Z,?_⟩⟩⟩;rw[m8,show eK "step" (.str "step")=true by decide+kernel];refine aQ ?_;refine⟨_,Z,x,_,Z,g1,Z,_,_,Z,_,_,Z,_,_,Z,Z,?_⟩;refine⟨_,Z,_,Z,u2,ev,zs,e,Z,e2,re,lH,lz,λH1 s1=>?_⟩;rcases hy with⟨nw,rfl,_⟩|⟨a,b,rfl,bt,bq,hy⟩
   ·rw[eV nw]
    exact⟨_,Z,aY (k H1 s1)⟩
   rw[jh ⟨a,b,Z⟩];refine⟨_,Z,aQ ?_⟩;obtain⟨p,v1,v2,v3,v4,rfl,h1,r1,r2,r3,r4⟩:=yy re;refine⟨_,Z,_,Z,.inr ⟨p,_,2,v3,Z,Z,h1.go s1,Z,_,Z,.inr ⟨p,_,3,v4,Z,Z,h1.go s1,Z,?_⟩⟩⟩;refine⟨m,v3,v4,rs,r,f,j,ti,a,b,Z,RD.mono s1 _ rm,RD.mono s1 _ r3,RD.mono s1 _ r4,aP.t1.1,aP.t1.2,bt,NS bq,λH2 s2=>?_⟩;have fR:=s1.trans s2;rcases hy with⟨nt,rfl,_⟩|⟨q,q0,A1,rfl,rfl,NK,rfl,_⟩
   ·rw[eV nt]
    exact⟨_,Z,aY (k H2 fR)⟩
   rw[jh ⟨q,q0,Z,Z⟩];refine⟨_,Z,aQ ?_⟩;refine⟨_,Z,_,Z,.inr ⟨p,_,3,v4,Z,Z,h1.go fR,Z,?_⟩⟩;refine⟨u3,v4,top,q,Z,Rt'.go fR,(fS r4).go fR,NK,A1.mono au,_,Z,?_⟩;have k:=k H2 fR;by_cases bG:top<q
   ·rw[aR bG]at k
    rw[cj bG];exact aY k
   ·rw[aO bG]at k
    rw[cY bG];exact aQ k
theorem fc.zero{ti:Int}{du e:af}{s:Option Rat}(h:fc ti du e s 0):(e=du/\fY du/\s=none)\/∃zs top q,du=fF zs top/\e=jZ ti zs q/\s=some q:=by
 have key:∀{y:Nat},fc ti du e s y->y=0->(e=du/\fY du/\s=none)\/∃zs top q,du=fF zs top/\e=jZ ti zs q/\s=some q:=λh hy=>by cases h with |gr h1 o=>exact .inl ⟨h1,o,Z⟩ |sH zs top q h1 h2 _ _ _ _=>exact .inr ⟨zs,top,q,h1,h2,Z⟩ |vw _ _ _=>cases hy |uT _ _ _ _ _ _=>cases hy |uS _ _ _ _ _ _ _ _ _=>cases hy
 exact key h rfl
inductive a3C(K:a7)(vs:List V)(H:Hp)(Q:VK):Prop |mk (ev:_)(ti:_)(du:_)(e:_)(s:_)(h0:vs=[ev])(h1:RD K H ev e)(h2:fc ti du e s 0)(h3:∀v,jA K H v s->Q v H)
def HM(K:a7):Sp:=λvs H Q _=>a3C K vs H Q
theorem Uo(F:FA K mg "square_of" BP)(B:bB mg):ay P w K mg ao "square_of" 1 (HM K):=by
 refine F.has ID (λvs H Q E h=>?_) (λ_ _ _ _ _ _=>gj λ_=>rfl) (λfa aH A outer s H vs Q E hr h=>?_)
 ·obtain⟨ev,ti,du,e,sq,rfl,_⟩:=h
  rfl
 ·obtain⟨ev,ti,du,e,sq,rfl,re,ent,k⟩:=h
  have nd:=ID.nd;refine⟨_,(aD (aU (vv (bQ (dH K Z hr.units) (px K (pv 0) aw) dY (bC _)) (px K (pv 0) aw) fi))),?_⟩;rcases ent.zero with⟨rfl,gr,rfl⟩|⟨zs,top,q,rfl,rfl,rfl⟩
  ·obtain⟨wd,u,rfl,hw,hs⟩:=Kt gr
   obtain⟨a,xs,rfl,h1,hd⟩:=id re.bT;obtain⟨u1,ys,rfl,e1,hd⟩:=hd.cons_inv;cases e1.str_inv;refine⟨_,Z,.inr ⟨a,_,0,.str wd,Z,Z,h1,cK (jE 0) Z,.inr ⟨_,_,cE _,cE _,hs,aJ,_,Z,?_⟩⟩⟩;rw[m8,hw];exact aQ (k _ Z)
  ·obtain⟨a,b,c,rfl,h1,h2,h3⟩:=QZ re
   refine⟨_,Z,.inr ⟨a,_,0,.str "step",Z,Z,h1,Z,.inr ⟨_,_,cE _,cE _,aJ,aJ,_,Z,?_⟩⟩⟩;rw[m8,show eK "step" (.str "step")=true by decide+kernel];exact aY ⟨_,Z,.inr ⟨a,_,3,c,Z,Z,h1,Z,k _ h3⟩⟩
def Ny(A:af->Prop)(D:af):Prop:=OE D\/∃ds,D= .tuple ds/\ds.length<=1000/\∀x∈ds,A x
inductive a4l(A:af->Prop)(K:a7)(vs:List V)(H:Hp)(Q:VK):Prop |mk (v:_)(u:_)(X:_)(D:_)(h0:vs=[v,u])(h1:RD K H v X)(h2:RD K H u D)(h3:bU 8 X)(h4:A D)(h5:∀H',aA H H'->Q (.bl (pB (X=D))) H')
def uZ(A:af->Prop)(K:a7):Sp:=λvs H Q _=>a4l A K vs H Q
theorem E2(d:af):(∃ds,d= .list ds)\/(eR (dM d) "list"=false/\∀ds,d≠ .list ds):=by cases d with |list ds=>exact .inl ⟨ds,Z⟩ |_=>exact .inr ⟨by simp[dM];decide,λ_ z=>nomatch z⟩
theorem GI:∀{xs ds:List af},xs.length=ds.length->(List.zipWith (λx d=>pB (x=d)) xs ds).all id=pB (PyData.tuple xs= .tuple ds)
 |[],[],_=>by rw[jh rfl];rfl |x::xs,d::ds,h=>by
  have ih:=GI (xs:=xs) (ds:=ds) (by simpa using h);rw[List.zipWith_cons_cons,AM,ih];rcases yK (x=d)with⟨e,hp⟩|⟨e,hp⟩
  ·rcases yK (PyData.tuple xs= .tuple ds)with⟨e2,vU⟩|⟨e2,vU⟩
   ·injection e2 with e2
    subst e e2;rw[jh Z,jh Z,jh rfl];rfl
   ·rw[vU,AR,eV (λz=>e2 (by injection z with z;injection z with _ z;rw[z]))]
  ·rw[id,hp,iG,eV (λz=>e (by injection z with z;injection z))] |[],_::_,h=>by cases h |_::_,[],h=>by cases h
theorem Vk(F:FA K mg "_law_alike" yj)(B:bB mg):ay P w K mg ao "_law_alike" 1 (uZ (λ_=>False) K):=by
 refine F.has Bz (λvs H Q E h=>?_) (λ_ _ _ _ _ _=>dn λ_ _=>rfl) (λf aH A outer s H vs Q E hr h=>?_)
 ·obtain⟨v,u,X,D,rfl,_,_,_,h,_⟩:=h
  exact h.elim
 ·obtain⟨v,u,X,D,rfl,_,_,_,h,_⟩:=h
  exact h.elim
theorem DF{A:af->Prop}{n:Nat}(hn:1<=n)(F:FA K mg "_law_alike" yj)(B:bB mg)(oZ:ay P w K mg ao "_law_number" 1 (iL K))(zE:ay P w K mg ao "_law_alike" n (uZ A K)):ay P w K mg ao "_law_alike" (n+1) (uZ (Ny A) K):=by
 refine F.has Bz (λvs H Q E h=>?_) (λ_ _ _ _ _ _=>dn λ_ _=>rfl) (λf aH A' outer s H vs Q E hr h=>?_)
 ·obtain⟨v,u,X,D,rfl,_⟩:=h
  rfl
 ·obtain⟨v,u,X,D,rfl,rv,ru,ok,hD,k⟩:=h
  have nd:=Bz.nd;refine⟨_,(aB (bD (bZ (fk K B (ai (pv 1) (ai (cF (ai (eU (x:="list") (v:=.ty "list") Z (B.at "list") nN rfl) (ai (eU (x:="tuple") (v:=.ty "tuple") rfl (B.at "tuple") fN rfl) aq))) aq)))) (aB (bD (PW.pt (fT (bQ (iR K Z hr.units) (fk K B (ai (pv 1) (ai (eU (x:="list") (v:=.ty "list") Z (B.at "list") nN rfl) aq))) (fk K B (ai (pv 0) (ai (eU (x:="list") (v:=.ty "list") rfl (B.at "list") nN rfl) aq))) (bC _)) (je (bQ (iR K rfl hr.units) (fk K B (ai (pv 1) (ai (eU (x:="tuple") (v:=.ty "tuple") rfl (B.at "tuple") fN rfl) aq))) (fk K B (ai (pv 0) (ai (eU (x:="tuple") (v:=.ty "tuple") rfl (B.at "tuple") fN rfl) aq))) (bC _))))) (aD (aU iP)) bH) (aD (aU (iQ (fW (dH K Z hr.units) (eH K B (ai (pv 0) aq)) (eH K B (ai (pv 1) aq)) (bC _)) (jg (dk (x:="all") (wX K Z Z) Z (B.at "all") AB (ai (fV (N:=["_law_one","_law_two"]) (js:=[none,none]) rfl rfl rfl (mP K rfl false false rfl (B.at "zip") (ai (pv 0) (ai (pv 1) aq))) (λ_ _ _ _ _=>(cV K rfl (n:=2) rfl (bF (aX 0 (hJ au)) (bF (aX 1 (hJ au)) cU)))) (λ_ _ _ _ _=>f6) (λ_ _ _ _ _=>(qm zE (hr.mono aI) rfl (ai (pv 0) (ai (pv 1) aq))))) aq))))))) bH) (aB (bD (bZ (fk K B (ai (pv 1) (ai (eU (x:="str") (v:=.ty "str") Z (B.at "str") P4 rfl) aq)))) (aD (aU (iQ (fk K B (ai (pv 0) (ai (eU (x:="str") (v:=.ty "str") Z (B.at "str") P4 rfl) aq))) (jg (fW (dH K rfl hr.units) (pv 0) (pv 1) (bC _)))))) bH) (aD (aU (iQ (qm oZ (hr.mono aI) Z (ai (pv 0) aq)) (jg (fW (dH K Z hr.units) (pv 0) (pv 1) (bC _)))))))),?_⟩;rcases hD with(⟨z,rfl⟩|⟨z,rfl,sh,eq⟩)|⟨ds,rfl,hz,hA⟩
  ·cases ru.int_inv
   refine⟨_,Z,bA Z,λtt H1 n1=>.inr ⟨_,"int",tt,["list","tuple"],_,Z,n1.at',Z,au,Z,_,Z,aQ ?_⟩⟩;have k:=k H1 n1.same;refine⟨_,Z,.inl ⟨_,"int","str",_,Z,Z,au,Z,_,Z,aQ ?_⟩⟩;refine⟨_,Z,v,_,Z,(RD.mono n1.same _ rv).ty,_,Z,?_⟩;rcases jX X with⟨i,rfl,e⟩|⟨e,hn⟩
   ·cases rv.int_inv
    rw[e];refine aY ?_;refine⟨_,Z,_,Z,.inl ⟨_,_,Z,Z,?_⟩⟩;by_cases h:i=z
    ·rw[jh (by rw[h])]at k
     show Q (.bl (decide (i=z))) H1;rw[cj h];exact k
    ·rw[eV (λx=>h (by injection x))]at k
     show Q (.bl (decide (i=z))) H1;rw[cY h];exact k
   ·rw[e]
    rw[eV (λx=>hn _ x)]at k;exact aQ k
  ·cases ru.str_inv
   refine⟨_,Z,bA Z,λtt H1 n1=>.inr ⟨_,"str",tt,["list","tuple"],_,Z,n1.at',Z,au,Z,_,Z,aQ ?_⟩⟩;have k:=k H1 n1.same;refine⟨_,Z,.inl ⟨_,"str","str",_,Z,Z,au,Z,_,Z,aY ?_⟩⟩;refine⟨_,Z,.inl ⟨_,_,"str",_,Z,(RD.mono n1.same _ rv).ty,au,Z,_,Z,?_⟩⟩;rcases Ht X with⟨x,rfl⟩|⟨e,hn⟩
   ·cases rv.str_inv
    rw[show eR (dM (.str x)) "str"=true from GX];refine aY ?_;refine⟨_,Z,_,Z,.inr ⟨_,_,cE _,cE _,gI ok,sh,?_⟩⟩;cases e:PyData.eqv (.str x) (.str z)with |true=>rw[jh (zL e)]at k;exact k |false=>rw[eV (λx=>by rw[x,eq]at e;cases e)]at k;exact k
   ·rw[e]
    rw[eV (λx=>hn _ x)]at k;exact aQ k
  ·obtain⟨ua,ys,rfl,hU,iT⟩:=ru.bT
   have ly:=iT.length;refine⟨_,Z,bA Z,λtt H1 n1=>.inr ⟨_,"tuple",tt,["list","tuple"],_,Z,n1.at',.inr ⟨Z,_,hU.go n1.same⟩,au,Z,_,Z,aY ?_⟩⟩;have s1:=n1.same;rcases E2 X with⟨Xs,rfl⟩|⟨hl,_⟩
   ·rw[eV (λx=>nomatch x)]at k
    exact⟨_,Z,.inl ⟨_,"tuple","list",_,Z,.inr ⟨Z,_,hU.go s1⟩,au,GW,_,Z,.inl ⟨_,_,"list",_,Z,(RD.mono s1 _ rv).ty,au,(by decide:eR "list" "list"=true),.inr ⟨.bool false,.bool true,mK _,mK _,Z,Z,_,Z,aY (k H1 s1)⟩⟩⟩⟩
   refine⟨_,Z,.inl ⟨_,"tuple","list",_,Z,.inr ⟨Z,_,hU.go s1⟩,au,GW,_,Z,.inl ⟨_,_,"list",_,Z,(RD.mono s1 _ rv).ty,au,hl,.inr ⟨.bool false,.bool false,mK _,mK _,Z,Z,_,Z,aQ ?_⟩⟩⟩⟩;rcases xT X with⟨Xs,rfl⟩|⟨ht,hn⟩
   ·obtain⟨va,xs,rfl,hV,da⟩:=rv.bT
    have lx:=da.length;refine⟨_,Z,.inl ⟨_,"tuple","tuple",_,Z,.inr ⟨Z,_,hU.go s1⟩,au,AV,_,Z,.inl ⟨_,"tuple","tuple",_,Z,.inr ⟨Z,_,hV.go s1⟩,au,AV,.inr ⟨.bool true,.bool true,mK _,mK _,Z,Z,_,Z,aQ ?_⟩⟩⟩⟩;refine⟨_,Z,va,_,Z,.inr (hV.go s1),_,Z,ua,_,Z,.inr (hU.go s1),.inl ⟨_,_,Z,Z,_,Z,?_⟩⟩;by_cases hlen:Xs.length=ds.length
    ·rw[cj (show(xs.length:Int)=(ys.length:Int) by omega)]
     refine aY ?_;refine⟨_,Z,_,Z,va,ua,Z,⟨_,hV.go s1⟩,⟨_,hU.go s1⟩,λD2 H2 n2=>?_⟩;have lz:(List.zipWith (λx d=>pB (x=d)) Xs ds).length=ds.length:=by rw[List.length_zipWith];omega
     refine a1K (K:=K) (b1:=false) (b2:=false) (xs:=xs) (ys:=ys) (bs:=List.zipWith (λx d=>pB (x=d)) Xs ds) _ Z (hV.go s1) (hU.go s1) n2 aI aI ?_ ?_
     ·intro q x y b H3 Q' ex ey eb s3 hq
      have ic:=s1.trans s3;obtain⟨d1,e1,r1⟩:=da.get' q ex;obtain⟨d2,e2,r2⟩:=iT.get' q ey;rw[List.getElem?_zipWith,e1,e2]at eb;cases eb;exact⟨_,Z,_,Z,x,y,d1,d2,Z,RD.mono ic _ r1,RD.mono ic _ r2,qu ok (fO e1),hA d2 (fO e2),λH4 s4=>hq H4 s4⟩
     ·intro H3 s3 d3
      refine⟨D2,_,Z,aF.of d3,?_⟩;rw[GI hlen];exact k H3 (s1.trans s3)
    ·rw[cY (show¬(xs.length:Int)=(ys.length:Int) by omega)]
     rw[eV (λx=>hlen (by injection x with x;rw[x]))]at k;exact aQ (k H1 s1)
   ·rw[eV (λx=>hn _ x)]at k
    exact⟨_,Z,.inl ⟨_,"tuple","tuple",_,Z,.inr ⟨Z,_,hU.go s1⟩,au,AV,_,Z,.inl ⟨_,_,"tuple",_,Z,(RD.mono s1 _ rv).ty,au,ht,.inr ⟨.bool true,.bool false,mK _,mK _,Z,Z,_,Z,aY (k H1 s1)⟩⟩⟩⟩
abbrev Y1:af->Prop:=Ny λ_=>False
abbrev Y3:af->Prop:=Ny (Ny Y1)
theorem TJ{d:af}(h:fY d):Y3 d:=by
 rcases h with⟨n,rfl,_,_⟩|⟨wd,z,rfl,hw,ok,_⟩
 ·refine .inr ⟨_,Z,by simp,λx hx=>.inl ?_⟩
  simp only[dj,fq,kS]at hx;rcases hx with rfl|rfl
  ·exact zh aJ
  ·exact .inl ⟨_,Z⟩
 ·refine .inr ⟨_,Z,by simp,λx hx=>.inl ?_⟩
  simp only[dj,fq,kS]at hx;rcases hx with rfl|rfl
  ·rcases hw with rfl|rfl<;>exact zh aJ
  ·exact zh (ok.shaped au)
theorem S4{zs:List Int}(h:zs.length<=1000):Y3 (.tuple [.str "step",fg zs]):=by
 refine .inr ⟨_,Z,by simp,λx hx=>?_⟩;simp only[dj,fq,kS]at hx;rcases hx with rfl|rfl
 ·exact .inl (zh aJ)
 ·refine .inr ⟨_,Z,by rw[bu];omega,λx hx=>.inl ?_⟩
  obtain⟨i,_,rfl⟩:=fu.mp hx;exact .inl ⟨_,Z⟩
theorem a1c{p q:Int}(h:0<q):PyData.eqv (bL (Rat.divInt p q)) (.tuple [.int p,.int q])=ij (.tuple [.int p,.int q]):=by cases e:ij (.tuple [.int p,.int q])with |true=>obtain⟨r,hr⟩:=EU e;rw[hr];unfold bL at hr;injection hr with hr;injection hr with h1 hr;injection hr with h2 hr;injection h1 with h1;injection h2 with h2;exact eqR (by rw[h1,h2,xx]) |false=>
 refine nS.mpr λhh=>?_;obtain⟨a,b,e1,h1,h2⟩:=Fe hh;unfold bL at e1;injection e1 with e1;injection e1 with e1 e2;injection e2 with e2 _;subst e1 e2;have h1:=zM h1 (by decide:eX "int"=true);have h2:=zM h2 (by decide:eX "int"=true);have:PyData.tuple [.int p,.int q]=bL (Rat.divInt p q):=by unfold bL;rw[h1,h2]
 rw[this,Dj]at e;cases e
inductive a45(K:a7)(vs:List V)(H:Hp)(Q:VK):Prop |mk (v:_)(d:_)(h0:vs=[v])(h1:RD K H v d)(h2:bU 8 d)(h3:(∀p q,d= .tuple [.int p,.int q]->p.natAbs<2^1900/\q.natAbs<2^1900))(h4:∀H',aA H H'->Q (.bl (ij d)) H')
def HW(K:a7):Sp:=λvs H Q _=>a45 K vs H Q
theorem V0(F:FA K mg "_law_is_fraction" Ct)(B:bB mg)(oZ:ay P w K mg ao "_law_number" 1 (iL K))(qQ:ay P w K mg ao "_law_frac" 1 (sN K)):ay P w K mg ao "_law_is_fraction" 2 (HW K):=by
 refine F.has Jk (λvs H Q E h=>?_) (λ_ _ _ _ _ _=>gj λ_=>rfl) (λfa aH A outer s H vs Q E hr h=>?_)
 ·obtain⟨v,d,rfl,_⟩:=h
  rfl
 ·obtain⟨v,d,rfl,rd,ok,bq,k⟩:=h
  have nd:=Jk.nd;refine⟨_,(aB (bD (PW.pt (fT (cT (bZ (fk K B (ai (pv 0) (ai (eU (x:="tuple") (v:=.ty "tuple") Z (B.at "tuple") fN rfl) aq))))) (fT (bQ (iR K rfl hr.units) (eH K B (ai (pv 0) aq)) aw (bC _)) (je (cT (bZ (dk (x:="all") (wX K rfl rfl) rfl (B.at "all") AB (ai (fV (N:=["_law_one"]) (js:=[none]) rfl rfl rfl (kh K rfl (pv 0)) (λ_ _ _ _ _=>(aX 0 (oF _))) (λ_ _ _ _ _=>f6) (λ_ _ _ _ _=>(pf oZ hr (ai (pv 0) aq)))) aq)))))))) (aD (aU iP)) bH) (aD (aU (iQ (fW lC (px K (pv 0) aw) aw (bC _)) (jg (fW (dH K Z hr.units) (pf qQ hr (ai (px K (pv 0) aw) (ai (px K (pv 0) aw) aq))) (pv 0) (bC _))))))),?_⟩;rcases AW d with⟨x,y,rfl⟩|⟨ds,rfl,hl,hf⟩|⟨ht,hf⟩
  ·refine⟨_,Z,.inl ⟨_,_,"tuple",true,Z,rd.ty,au,jF,_,Z,aQ ?_⟩⟩
   obtain⟨a,xs,rfl,h1,hd⟩:=rd.bT;obtain⟨u1,ys,rfl,r1,hd⟩:=hd.cons_inv;obtain⟨u2,ys,rfl,r2,hd⟩:=hd.cons_inv;cases hd.nil_inv;refine⟨_,Z,a,_,Z,.inr h1,.inl ⟨_,_,Z,Z,_,Z,aQ ?_⟩⟩;refine⟨_,Z,a,Z,⟨_,h1⟩,λD H2 n2=>?_⟩;refine zZ (xs:=[u1,u2]) (bs:=[eX (dM x),eX (dM y)]) [] h1 n2 Z (by simp) ?_ ?_
   ·intro i u b H3 Q' ex ey s3 hq
    match i,ex,ey with |0,ex,ey=>cases ex;cases ey;exact⟨_,rfl,_,_,rfl,(RD.mono s3 _ r1).ty,hq _ (aA.refl _)⟩ |1,ex,ey=>cases ex;cases ey;exact⟨_,rfl,_,_,rfl,(RD.mono s3 _ r2).ty,hq _ (aA.refl _)⟩
   intro H3 s3 d3;refine⟨D,_,Z,aF.of d3,_,Z,?_⟩;rw[show[eX (dM x),eX (dM y)].all id=(eX (dM x)&&eX (dM y)) by simp];rcases jX x with⟨p,rfl,e1⟩|⟨e1,hn⟩
   ·rcases jX y with⟨q,rfl,e2⟩|⟨e2,hn⟩
    ·cases r1.int_inv
     cases r2.int_inv;rw[e1,e2];refine aQ ?_;refine⟨_,Z,.inr ⟨a,_,1,_,Z,Z,h1.go s3,Z,_,_,Z,Z,_,Z,?_⟩⟩;by_cases q0:0<q
     ·rw[cj q0]
      refine aY ?_;refine⟨_,Z,.inr ⟨a,_,0,_,Z,Z,h1.go s3,Z,?_⟩⟩;refine⟨_,Z,.inr ⟨a,_,1,_,Z,Z,h1.go s3,Z,?_⟩⟩;refine⟨_,_,Z,q0,gX (bq p q Z).2 au,λv H4 R4 s4=>?_⟩;have dX:=s3.trans s4;refine⟨_,Z,.inr ⟨_,_,R4.rd,RD.mono dX _ rd,Ss _,gI ok,?_⟩⟩;rw[a1c q0];exact k H4 dX
     ·rw[cY q0]
      have:ij (.tuple [.int p,.int q])=false:=by show(decide (0<q)&&_)=false;rw[cY q0];rfl
      rw[this]at k;exact aQ (k H3 s3)
    ·rw[e1,e2]
     rw[EV hn]at k;exact aY (k H3 s3)
   ·rw[e1]
    rw[EW hn]at k;exact aY (k H3 s3)
  ·rw[hf]at k
   refine⟨_,Z,.inl ⟨_,_,"tuple",true,Z,rd.ty,au,jF,_,Z,aQ ?_⟩⟩;obtain⟨p,xs,rfl,hx,hd⟩:=rd.bT;refine⟨_,Z,p,_,Z,.inr hx,.inl ⟨_,_,Z,Z,_,Z,?_⟩⟩;have e:(!decide ((xs.length:Int)=2))=true:=by rw[hd.length];simp;omega
   rw[e];exact aY (k H (aA.refl _))
  ·rw[hf]at k
   exact⟨_,Z,.inl ⟨_,_,"tuple",false,Z,rd.ty,au,ht,_,Z,aY (k H (aA.refl _))⟩⟩
inductive a4b(K:a7)(vs:List V)(H:Hp)(Q:VK):Prop |mk (m:_)(iv:_)(rv:_)(rate:_)(ev:_)(rs:_)(r:_)(f:_)(j:_)(ti:_)(du:_)(e:_)(s:_)(y:_)(h0:vs=[m,iv,rv,.int rate,ev])(h1:RD K H m (dZ rs r f j ti))(h2:fb rs r f j ti)(h3:RD K H ev e)(h4:fc ti du e s y)(h5:((rv= .bM/\fY du/\RD K H iv du)\/ ∃ns sp zs,du=fF zs (topR rate sp)/\RD K H iv (fA ns sp)/\1<=sp/\sp<=20/\10<=rate/\rate<=200/\RD K H rv (fg zs)/\zs.length<=1000))(h6:∀H',aA H H'->Q (.int (y:Nat)) H')
def Br(K:a7):Sp:=λvs H Q _=>a4b K vs H Q
theorem Va(F:FA K mg "_law_entry_fault" CG)(B:bB mg)(zE:ay P w K mg ao "_law_alike" 4 (uZ Y3 K))(oZ:ay P w K mg ao "_law_number" 1 (iL K))(Zc:ay P w K mg ao "_law_is_fraction" 2 (HW K))(Z2:ay P w K mg ao "_law_ticks" 1 (Ba K))(tR:ay P w K mg ao "_law_less" 1 (jJ K))(tQ:ay P w K mg ao "_law_top" 2 (uW K)):ay P w K mg ao "_law_entry_fault" 5 (Br K):=by
 refine F.has Jt (λvs H Q E h=>?_) (λ_ _ _ _ _ _=>FX λ_ _ _ _ _=>rfl) (λfa aH A outer s H vs Q E hr h=>?_)
 ·obtain⟨m,iv,rv,rate,ev,rs,r,f,j,ti,du,e,sq,y,rfl,_⟩:=h
  rfl
 ·obtain⟨m,iv,rv,rate,ev,rs,r,f,j,ti,du,e,sq,y,rfl,rm,aP,re,ent,hc,k⟩:=h
  have nd:=Jt.nd;refine⟨_,(aB (bD (bQ TV (pv 2) fi (bC _)) (aD (aU (fj (x:="int") wO Z (B.at "int") rX (ai (ql (pf zE hr (ai (pv 4) (ai (pv 1) aq)))) aq)))) bH) (aB (bD (PW.pt (fT (cT (bZ (fk K B (ai (pv 4) (ai (eU (x:="tuple") (v:=.ty "tuple") Z (B.at "tuple") fN rfl) aq))))) (fT (bQ (iR K rfl hr.units) (eH K B (ai (pv 4) aq)) aw (bC _)) (je (cT (bZ (pf zE hr (ai (yI (yh K rfl) (pv 4) yF (td aw)) (ai (cF (ai dY (ai (pv 2) aq))) aq))))))))) (aD (aU aw)) bH) (aB (eG (yI (yh K Z) (pv 4) (td aw) yF) (cV K Z (n:=2) Z (bF (aX 5 nd) (bF (aX 6 nd) cU)))) (aB (bD (PW.pt (fT (cT (bZ (pf oZ hr (ai (pv 5) aq)))) (fT (cT (bZ (pf Zc hr (ai (pv 6) aq)))) (fT (bQ ji (px K (pv 6) aw) aw (bC _)) (je (bQ (iR K Z hr.units) (pv 5) (pf Z2 hr (ai (pv 0) (ai (pv 6) aq))) (bC _))))))) (aD (aU aw)) bH) (aD (aU (aG bJ aw (fj (x:="int") wO Z (B.at "int") rX (ai (pf tR hr (ai (pf tQ hr (ai (pv 1) (ai (pv 3) aq))) (ai (pv 6) aq))) aq))))))))),?_⟩;rcases hc with⟨rfl,gr,ri⟩|⟨ns,sp,zs,rfl,ri,cL,cZ,bP,bR,rr,lz⟩
  ·obtain⟨_,lH,_,hy⟩:=ent.other 0 gr
   refine⟨_,Z,Z,_,Z,aY ?_⟩;refine⟨_,Z,_,Z,ev,iv,e,du,Z,re,ri,lH,TJ gr,λH1 s1=>?_⟩;rcases hy with⟨rfl,rfl,_⟩|⟨ne,rfl⟩
   ·rw[jh rfl]
    exact⟨_,Z,.inr ⟨_,Z,k H1 s1⟩⟩
   ·rw[eV ne]
    exact⟨_,Z,.inr ⟨_,Z,k H1 s1⟩⟩
  ·obtain⟨lH,hy⟩:=ent.step aP.t1.1 aP.t1.2
   obtain⟨ra,S3,rfl,Xl,_⟩:=id rr.bT;refine⟨_,Z,Z,_,Z,aQ ?_⟩;rcases GZ e with⟨a,b,c,d,rfl⟩|⟨es,rfl,hl⟩|⟨ht,hn⟩
   ·obtain⟨p0,v1,v2,v3,v4,rfl,h1,r1,r2,r3,r4⟩:=yy re
    refine⟨_,Z,.inl ⟨_,_,"tuple",true,Z,re.ty,au,jF,_,Z,aQ ?_⟩⟩;refine⟨_,Z,p0,_,Z,.inr h1,.inl ⟨_,_,Z,Z,_,Z,aQ ?_⟩⟩;refine⟨_,Z,_,Z,p0,_,Z,.inr ⟨h1,(by show¬(HT.bO 4 0 none=0/\HT.bO 4 4 (some 2)=4);decide),λp H1 n1=>?_⟩⟩;have n1:Nw H H1 p (.tup [v1,v2]):=n1;refine⟨_,Z,bA Z,λp2 H2 n2=>?_⟩;have s2:=n1.same.trans n2.same;have dF:bU 8 (.tuple [a,b]):=dQ.tup (n:=7) (.cons ((bU.bT (n:=7) lH) a (by simp)) (.cons ((bU.bT (n:=7) lH) b (by simp)) .nil));refine⟨.ref p,.ref p2,.tuple [a,b],.tuple [.str "step",fg zs],Z,dC (aK.of (n2.same _ _ n1.at')) (bK (RD.mono s2 _ r1) (bK (RD.mono s2 _ r2) cf)),dC (aK.of n2.at') (bK (cE _) (bK (RD.mono s2 _ rr) cf)),dF,S4 lz,λH3 s3=>?_⟩;have jL:=s2.trans s3;rcases hy with⟨nw,rfl,_⟩|⟨a',b',e',bt,bq,hy⟩
    ·rw[eV (λz=>nw ⟨c,d,by injection z with z;injection z with z1 z;injection z with z2 z;rw[z1,z2]⟩)]
     exact⟨_,Z,aY (k H3 jL)⟩
    injection e' with e';injection e' with z1 e';injection e' with z2 e';injection e' with z3 e';injection e' with z4 e';subst z1 z2 z3 z4;rw[jh rfl];refine⟨_,Z,aQ ?_⟩;refine⟨_,Z,_,Z,p0,_,Z,.inr ⟨h1.go jL,(by show¬(HT.bO 4 0 (some 2)=0/\HT.bO 4 4 none=4);decide),λp3 H4 n4=>?_⟩⟩;have n4:Nw H3 H4 p3 (.tup [v3,v4]):=n4;have dX:=jL.trans n4.same;refine⟨p3,_,Z,aK.of n4.at',Z,_,_,Z,_,_,Z,Z,?_⟩;refine⟨_,Z,v3,_,Z,(RD.mono dX _ r3).ty,_,Z,?_⟩;rcases jX c with⟨t,rfl,e1⟩|⟨e1,hn⟩
    rotate_left
    ·rw[e1]
     rcases hy with⟨_,rfl,_⟩|⟨q,_,_,_,rfl,_⟩
     ·exact aY (k H4 dX)
     ·exact(hn _ Z).elim
    rw[e1];cases r3.int_inv;refine aQ ?_;have K9:=RD.mono dX _ r4;refine⟨_,Z,v4,d,Z,K9,qu lH (by simp),bq,λH5 s5=>⟨_,Z,?_⟩⟩;have jc:=dX.trans s5;cases fr:ij d with
    |false=>
     rcases hy with⟨_,rfl,_⟩|⟨q,_,_,rfl,_⟩
     ·exact aY (k H5 jc)
     ·rw[Dj]at fr;cases fr |true=>
     refine aQ ?_;obtain⟨q,rfl⟩:=EU fr;have bq:=NS bq q rfl;have wU:Bd 2000 q:=bq.mono au;obtain⟨ca,e4,hc⟩:=(fS (RD.mono s5 _ K9):bj K H5 v4 q);subst e4;refine⟨_,Z,.inr ⟨ca,_,0,_,Z,Z,hc,Z,_,_,Z,Z,_,Z,?_⟩⟩;by_cases q1:q.num<1
     ·rw[cj q1]
      rcases hy with⟨_,rfl,_⟩|⟨p,p0,_,e4,_⟩
      ·exact aY (k H5 jc)
      ·cases yC e4
       have:=yP p0;omega
     rw[cY q1];refine aQ ?_;have qn:0<q.num:=by omega
     have q0:0<q:=(Rt.Vu q).mp qn;refine⟨_,Z,_,Z,_,Z,m,.ref ca,rs,r,f,j,ti,q,Z,RD.mono jc _ rm,⟨ca,Z,hc⟩,wU,aP.t1.1,aP.t1.2,qn,λT T1 T2 T3 T4 H6 s6=>?_⟩;have eT:=xW (AO qn) ⟨T1,T3,T4⟩;have mI:=jc.trans s6;refine .inl ⟨_,_,Z,Z,_,Z,?_⟩;rcases hy with⟨nt,rfl,_⟩|⟨p,p0,_,e4,e5,NK,rfl,_⟩
     ·rw[cY (show¬t=T from λh=>nt ⟨q,q0,Z,by rw[eT,h]⟩)]
      exact aY (k H6 mI)
     cases yC e4;injection e5 with e5;rw[cj (show t=T by rw[e5,eT])];refine aQ ?_;refine⟨_,Z,_,Z,iv,ns,sp,rate,Z,RD.mono mI _ ri,cL,cZ,bP,bR,λtv H7 R7 s7=>?_⟩;refine⟨_,Z,tv,.ref ca,topR rate sp,q,Z,R7,bj.go ⟨ca,Z,hc⟩ (s6.trans s7),(Ow.jG cL cZ bP bR).mono au,wU,.inr ⟨_,Z,?_⟩⟩;refine⟨_,_,Z,Z,.of_left (ck au au),?_⟩;have k:=k H7 (mI.trans s7);by_cases bG:topR rate sp<q
     ·rw[aR bG]at k
      rw[cj bG];exact k
     ·rw[aO bG]at k
      rw[cY bG];exact k
   ·have hy:y=1:=by
     rcases hy with⟨_,h,_⟩|⟨a,b,h,_⟩
     ·exact h
     ·injection h with h;subst h;exact(hl rfl).elim
    subst hy;refine⟨_,Z,.inl ⟨_,_,"tuple",true,Z,re.ty,au,jF,_,Z,aQ ?_⟩⟩;obtain⟨p,xs,rfl,hx,hd⟩:=re.bT;refine⟨_,Z,p,_,Z,.inr hx,.inl ⟨_,_,Z,Z,_,Z,?_⟩⟩;have e:(!decide ((xs.length:Int)=4))=true:=by rw[hd.length];simp;omega
    rw[e];exact aY (k H (aA.refl _))
   ·have hy:y=1:=by
     rcases hy with⟨_,h,_⟩|⟨a,b,h,_⟩
     ·exact h
     ·exact(hn _ h).elim
    subst hy;exact⟨_,Z,.inl ⟨_,_,"tuple",false,Z,re.ty,au,ht,_,Z,aY (k H (aA.refl _))⟩⟩
theorem Ik:bo ["self","at","why"] ["self","at","why"] (aZ BA):=bE aJ
def vD(x y:V):List (Str×V):=oj "why" y [("at",x)]
inductive a3l(K:a7)(vs:List V)(H:Hp)(Q:VK):Prop |mk (ex:_)(C:_)(x:_)(y:_)(h0:vs=[.ref ex,x,y])(h1:H ex=some (.ext (nJ ex C)))(h2:uh K C "at")(h3:uh K C "why")(h4:∀dx,H dx=none->dx≠ex->Q .bM (L2.upd (L2.upd (L2.upd H dx (.xd [("at",x)])) ex (.ext (jB ex C dx))) dx (.xd (vD x y))))
def B9(K:a7):Sp:=λvs H Q _=>a3l K vs H Q
theorem U7{f:Addr}{fd:FuncData}(F:jU K "__init__" "NoTape.__init__" BA f fd):gT P w K mg ao gm 1 f fd ["self","at","why"] (B9 K):=by
 refine F.ok Ik (λvs H Q E h=>?_) (λaH A outer s H vs Q E hr h=>?_)
 ·obtain⟨ex,C,x,y,rfl,_⟩:=h
  rfl
 ·obtain⟨ex,C,x,y,rfl,e1,xc,xw,k⟩:=h
  have nd:=Ik.nd;refine⟨_,(aB (T6 K Z (pv 0) (pv 1)) (aD (T5 K Z (pv 0) (pv 2)))),?_⟩;exact⟨_,Z,_,Z,ex,C,Z,e1,xc,λdx fd ne=>⟨_,Z,_,Z,ex,C,dx,_,Z,bX,by rw[bf ne];exact bX,xw,(by show 1<1000;decide),k dx fd ne⟩⟩
structure pK(ti rate:Int)(ds:List af)(os:List Itm)(es:List af)(sq:Nat->Option Rat)(fa:Nat->Nat):Prop where
 ent:∀k e du,es[k]? =some e->(fo rate ds os os.length)[k]? =some du->fc ti du e (sq k) (fa k)
 uV:sq es.length=none
 MJ:fa es.length=0
 small:es.length<=1000000
def f7(r f:Int)(bd:List Rat)(n m:Nat)(sq:Nat->Option Rat)(fa:Nat->Nat)(k:Nat):Nat:=if k=m/\m<n then 1 else if k=n/\n<m then 1 else if fa k=0 then(if kl r f (bd.getD k 0) (gL sq k) (sq k)=true then 0 else 4)else fa k
def Ah(n:Nat)(ft:Nat->Nat):Option (Nat×Nat)->Prop |none=>∀k,k<=n->ft k=0 |some (k,y)=>k<=n/\ft k=y/\y≠0/\∀i,i<k->ft i=0
theorem Lq(ft:Nat->Nat):∀n,∃res,Ah n ft res
 |0=>by
  by_cases h:ft 0=0
  ·exact⟨none,λk hk=>by rw[Nat.le_zero.mp hk];exact h⟩
  ·exact⟨some (0,ft 0),ba _,Z,h,λi hi=>absurd hi (AF _)⟩ |n+1=>by obtain⟨res,h⟩:=Lq ft n;cases res with |some p=>obtain⟨k,y⟩:=p;exact⟨some (k,y),Nat.le_succ_of_le h.1,h.2.1,h.2.2⟩ |none=>
   by_cases hn:ft (n+1)=0
   ·refine⟨none,λk hk=>?_⟩
    rcases Gs n k with h1|h1
    ·rw[show k=n+1 by lia];exact hn
    ·exact h k h1
   ·exact⟨some (n+1,ft (n+1)),ba _,Z,hn,λi hi=>h i ak⟩
theorem Lr{n:Nat}{ft:Nat->Nat}{res:Option (Nat×Nat)}(h:Ah n ft res){i y:Nat}(hi:i<=n)(pre:∀k,k<i->ft k=0)(e:ft i=y)(hy:y≠0):res=some (i,y):=by cases res with |none=>exact absurd (e▸h i hi) hy |some p=>
 obtain⟨k,z⟩:=p;obtain⟨h1,h2,h3,h4⟩:=h;have:k=i:=by
  rcases Nat.lt_trichotomy k i with a|a|a
  ·exact absurd (h2▸pre k a) h3
  ·exact a
  ·exact absurd (e▸h4 i a) hy
 subst this;rw[<-h2,e]
theorem Lp{n:Nat}{ft:Nat->Nat}{res:Option (Nat×Nat)}(h:Ah n ft res)(pre:∀k,k<=n->ft k=0):res=none:=by cases res with |none=>rfl |some p=>obtain⟨k,z⟩:=p;exact absurd (h.2.1▸pre k h.1) h.2.2.1
theorem Kc{ft:Nat->Nat}{i:Nat}(h:∀k,k<i->ft k=0)(e:ft i=0):∀k,k<i+1->ft k=0:=λk hk=>by
 rcases Gs k i with a|a
 ·exact h k a
 ·rw[show k=i by lia];exact e
def cH(rate:Int)(ds:List af)(os:List Itm):Nat:=(fo rate ds os os.length).length
def LkW(r f j rate:Int)(ds:List af)(os:List Itm)(es:List af)(sq:Nat->Option Rat)(fa:Nat->Nat):Option (Nat×Nat)->Prop:=Ah (min es.length (cH rate ds os)) (f7 r f (df j rate os) (cH rate ds os) es.length sq fa)
def Ai(r f j ti rate:Int)(ds:List af)(os:List Itm)(D:af)(res:Option (Nat×Nat)):Prop:=(∃es sq fa,D= .list es/\pK ti rate ds os es sq fa/\LkW r f j rate ds os es sq fa res)\/(eR (dM D) "list"=false/\res=some (0,1))
inductive a3T(K:a7)(C:Addr)(vs:List V)(H:Hp)(Q:VK)(E:XK):Prop |mk (m:_)(iv:_)(rate:_)(tv:_)(rs:_)(r:_)(f:_)(j:_)(t:_)(ds:_)(os:_)(D:_)(res:_)(h0:vs=[m,iv,.int rate,tv])(h1:RD K H m (dZ rs r f j t))(h2:fb rs r f j t)(h3:RD K H iv (.tuple ds))(h4:cn rs.length ds os)(h5:ds.length<=30)(h6:10<=rate)(h7:rate<=200)(h8:RD K H tv D)(h9:Ai r f j t rate ds os D res)(qS:(res=none->∀H',aA H H'->Q .bM H'))(ER:∀k y,res=some (k,y)->∀H' dx,aA H H'->H' dx=some (.xd (vD (.int (k:Nat)) (.int (y:Nat))))->E (.ref C) (some dx) H')
def Bj(K:a7)(C:Addr):Sp:=λvs H Q E=>a3T K C vs H Q E
theorem pK.vz{ti rate:Int}{ds:List af}{os:List Itm}{es:List af}{sq:Nat->Option Rat}{fa:Nat->Nat}(tp:pK ti rate ds os es sq fa):∀c,c<es.length->c<cH rate ds os->rO 1900 (sq c):=λc hc hd=>by obtain⟨e,ee⟩:∃e,es[c]? =some e:=⟨_,bw hc⟩;obtain⟨du,ed⟩:∃d,(fo rate ds os os.length)[c]? =some d:=⟨_,bw hd⟩;exact(tp.ent c e du ee ed).vz
theorem pK.DA{ti rate:Int}{ds:List af}{os:List Itm}{es:List af}{sq:Nat->Option Rat}{fa:Nat->Nat}(tp:pK ti rate ds os es sq fa):∀c,c<=es.length->c<=cH rate ds os->rO 1900 (gL sq c):=λc hc hd=>by cases c with |zero=>trivial |succ c=>exact tp.vz c aI aI
theorem aA.refused{H H5:Hp}{C ex dx:Addr}{x y:V}(vf:aA H H5)(fx:H5 ex=none)(F9:H5 dx=none)(_:dx≠ex):aA H (L2.del (L2.upd (L2.upd (L2.upd (L2.upd H5 ex (.ext (nJ ex C))) dx (.xd [("at",x)])) ex (.ext (jB ex C dx))) dx (.xd (vD x y))) ex):=λb o e=>by have e5:=vf b o e;have nb:b≠ex:=cC e5 fx;have hJ:b≠dx:=cC e5 F9;rw[rp nb,bf hJ,bf nb,bf hJ,bf nb];exact e5
abbrev JF:Stmt:=top 68
theorem IY:bo ["machine","items","rate","thing","due","bounds","ended","at","expected","why","begun"] ["machine","items","rate","thing"] (aZ JF):=bE aJ
theorem UH{C fI:Addr}(F:FA K mg "look" JF)(B:bB mg)(NC:OB K mg C fI)(tP:GV mg "NOT_DUE" (.int 1))(Mk:GV mg "NO_BORDER" (.int 4))(Yi:ay P w K mg ao "due_entries" 5 (HZ K))(Yr:ay P w K mg ao "bounds_between" 9 (Ib K))(Yf:ay P w K mg ao "fault_of_entry" 5 (Bp K))(Xh:ay P w K mg ao "square_of" 1 (HM K))(Me:ay P w K mg ao "can_meet" 5 (yg K)):xo P w K mg ao "look" 10 (Bj K C):=by
 obtain⟨fd,FI⟩:=NC.fn;have tX:=NC.e;have tV:gT P w K mg ao gm 1 fI fd ["self","at","why"] (B9 K):=U7 FI;have tY:Binds K fd ["self","at","why"] []:=FI.binds (λ_ _ _ _ _ _=>j4 λ_ _ _=>rfl);have tW:=NC.f;refine F.Yx IY (λvs H Q E h=>?_) (λ_ _ _ _ _ _=>rH λ_ _ _ _=>rfl) (λfa aH A outer s H vs Q E hr h=>?_)
 ·obtain⟨m,iv,rate,tv,rs,r,f,j,t,ds,os,D,res,rfl,_⟩:=h
  rfl
 ·obtain⟨m,iv,rate,tv,rs,r,f,j,t,ds,os,D,res,rfl,rm,aP,ri,row,hz,bP,bR,rt,vP,kq,ke⟩:=h
  have nd:=IY.nd;refine⟨_,(aB (bD (cT (bZ (fk K B (ai (pv 3) (ai (eU (x:="list") (v:=.ty "list") Z (B.at "list") nN rfl) aq))))) (aD (t7 (λ_ _ _ _ _ _ I a b q=>sy I a b q) tX xy hr.hd tV (hr.mono au) tY tW Z (ai aw (ai (cN (x:="NOT_DUE") Z tP) aq)))) bH) (aB (pS 4 nd (pf Yi hr (ai (pv 1) (ai (pv 2) aq)))) (aB (pS 5 nd (pf Yr hr (ai (pv 0) (ai (pv 1) (ai (pv 2) aq))))) (aB (pS 6 nd fi) (aB (fh PassesOwn.leaving Z (tj K Z true Z (B.at "enumerate") (ai (pv 4) aq)) (cV K rfl (n:=2) rfl (bF (aX 7 nd) (bF (aX 8 nd) cU))) (aB (bD (bQ (dH K Z hr.units) (pv 7) (eH K B (ai (pv 3) aq)) (bC _)) (aD (t7 (λ_ _ _ _ _ _ I a b q=>sy I a b q) tX xy hr.hd tV (hr.mono au) tY tW Z (ai (pv 7) (ai (cN (x:="NOT_DUE") Z tP) aq)))) bH) (aB (pS 9 nd (pf Yf hr (ai (pv 0) (ai (pv 8) (ai (px K (pv 3) (pv 7)) aq))))) (aB (bD (bQ mR (pv 9) fi (bC _)) (aD (t7 (λ_ _ _ _ _ _ I a b q=>sy I a b q) tX xy hr.hd tV (hr.mono au) tY tW Z (ai (pv 7) (ai (pv 9) aq)))) bH) (aB (pS 10 nd (pf Xh hr (ai (px K (pv 3) (pv 7)) aq))) (aB (bD (cT (bZ (pf Me hr (ai (pv 0) (ai (px K (pv 5) (pv 7)) (ai (pv 6) (ai (pv 10) aq))))))) (aD (t7 (λ_ _ _ _ _ _ I a b q=>sy I a b q) tX xy hr.hd tV (hr.mono au) tY tW Z (ai (pv 7) (ai (cN (x:="NO_BORDER") Z Mk) aq)))) bH) (aD (pS 6 nd (pv 10))))))))) (aB (bD (bQ lC (eH K B (ai (pv 3) aq)) (eH K B (ai (pv 4) aq)) (bC _)) (aD (t7 (λ_ _ _ _ _ _ I a b q=>sy I a b q) tX xy hr.hd tV (hr.mono au) tY tW Z (ai (eH K B (ai (pv 4) aq)) (ai (cN (x:="NOT_DUE") Z tP) aq)))) bH) (aD (bD (cT (bZ (pf Me hr (ai (pv 0) (ai (px K (pv 5) (ki jY aw)) (ai (pv 6) (ai fi aq))))))) (aD (t7 (λ_ _ _ _ _ _ I a b q=>sy I a b q) tX xy hr.hd tV (hr.mono au) tY tW Z (ai (eH K B (ai (pv 4) aq)) (ai (cN (x:="NO_BORDER") Z Mk) aq)))) bH)))))))),?_⟩;have ll:=row.len;have lr:=aP.len;have FP:=NT aP row bP bR;have rz:∀(i y:Nat),res=some (i,y)->∀(H5:Hp)(iv yv:V),iv= .int (i:Nat)->yv= .int (y:Nat)->aA H H5->∀ex,H5 ex=none->B9 K [.ref ex,iv,yv] (L2.upd H5 ex (.ext (nJ ex C))) (λv H2=>v= .bM/\∃dx,H2 ex=some (.ext (jB ex C dx))/\E (.ref C) (some dx) (L2.del H2 ex)) (λ_ _ _=>False):=by
   rintro i y er H5 _ _ rfl rfl s5 ex fx;refine⟨ex,C,_,_,Z,bX,NC.x,NC.y,λdx MI ne=>⟨Z,dx,by rw[bf ne.symm];exact bX,?_⟩⟩;have F9:H5 dx=none:=by rw[bf ne]at MI;exact MI
   refine ke i y er _ dx (aA.refused s5 fx F9 ne) ?_;rw[rp ne];exact bX
  rcases vP with⟨es,sq,fa,rfl,tp,lk⟩|⟨hl,er⟩
  rotate_left
  ·refine⟨_,Z,.inl ⟨_,_,"list",false,Z,rt.ty,au,hl,_,Z,aY ?_⟩⟩
   exact⟨bA Z,λex fx=>rz 0 1 er H _ _ Z Z (aA.refl _) ex fx⟩
  refine⟨_,Z,.inl ⟨_,_,"list",true,Z,rt.ty,au,(by decide:eR "list" "list"=true),_,Z,aQ ?_⟩⟩;refine⟨_,Z,_,Z,iv,rate,rs.length,ds,os,Z,ri,row,ak,hz,bP,bR,λlD yD H1 nD dD rD s1=>?_⟩;refine⟨_,Z,_,Z,_,Z,m,iv,rate,rs,r,f,j,t,ds,os,Z,RD.mono s1 _ rm,aP,RD.mono s1 _ ri,row,hz,bP,bR,λlB yB H2 nB dB rB s2=>?_⟩;have fR:=s1.trans s2;obtain⟨ta,xt,rfl,ht,qB⟩:=rt.lst_inv;have W4:=qB.length;have DX:yD.length=cH rate ds os:=rD.length;have tF:=rB.length;have Ly:(df j rate os).length=cH rate ds os+1:=by unfold df;rw[cD,pJ row _ (ba _)];rfl
  rw[bu]at tF;have tF:yB.length=cH rate ds os+1:=by rw[tF];exact Ly
  have bv:∀(c:Nat)(u:V)(H':Hp),yB[c]? =some u->aA H2 H'->∃b,(df j rate os)[c]? =some b/\(df j rate os).getD c 0=b/\bj K H' u b/\Bd 1900 b:=by intro c u H' e sm;obtain⟨d1,e1,r1⟩:=rB.get' c e;rw[bN]at e1;obtain⟨b,eb,rfl⟩:=xB.mp e1;have eb:(df j rate os)[c]? =some b:=eb;exact⟨b,eb,by rw[uD,eb];rfl,(fS r1).go sm,FP b (fO eb)⟩
  have jM:∀(i y:Nat),i<=es.length->i<=cH rate ds os->(∀k,k<i->f7 r f (df j rate os) (cH rate ds os) es.length sq fa k=0)->f7 r f (df j rate os) (cH rate ds os) es.length sq fa i=y->y≠0->res=some (i,y):=λi y zy oW pre e hy=>Lr lk (Nat.le_min.mpr ⟨zy,oW⟩) pre e hy;refine⟨_,Z,lD,Z,⟨_,aF.of (s2 _ _ dD)⟩,u6 (K:=K) (b:=true) (a:=lD) (xs:=yD) (λi O H3=>aA H2 H3/\i<=es.length/\(∀k,k<i->f7 r f (df j rate os) (cH rate ds os) es.length sq fa k=0)/\∃ev v1 v2 v3 v4,jA K H3 ev (gL sq i)/\O=[some m,some iv,some (.int rate),some (.ref ta),some (.ref lD),some (.ref lB),some ev,v1,v2,v3,v4]) ⟨aA.refl _,dS _,λ_ h=>absurd h (AF _),.bM,none,none,none,none,Z,Z⟩ (λi O H3 _ h=>aF.of (h.1 _ _ (s2 _ _ dD))) ?_ ?_⟩
  ·rintro i y O H3 hy ⟨s3,a5N,pre,ev,v1,v2,v3,v4,oe,rfl⟩ T H4 n4
   have hiy:i<yD.length:=(cy.mp hy).1;obtain⟨du,iy,Sq⟩:=rD.get' i hy;have eS:=s3.trans n4.same;have dX:=fR.trans eS;have rE:∀{α:Type}{l:List α}{u:α},l[i]? =some u->dI l (i:Int)=some u:=λh=>cK ak (by simpa using h);obtain⟨ub,pj⟩:∃u,yB[i]? =some u:=⟨_,bw ak⟩;refine⟨T,_,Z,aK.of n4.at',Z,_,_,Z,_,_,Z,Z,?_⟩;refine⟨_,Z,_,Z,ta,_,Z,.inl (ht.go dX),.inl ⟨_,_,Z,Z,_,Z,?_⟩⟩;by_cases lU:i=es.length
   ·rw[cj (show((i:Int)=(xt.length:Int)) by lia)]
    refine aY ⟨_,Z,bA Z,λex fx=>?_⟩;exact rz _ _ (jM i 1 ak ak pre (aR ⟨lU,ak⟩) au) H4 _ _ Z Z dX ex fx
   rw[cY (show¬((i:Int)=(xt.length:Int)) by lia)];refine aQ ?_;have lU:i<es.length:=by lia
   obtain⟨e,ee⟩:∃e,es[i]? =some e:=⟨_,bw lU⟩;obtain⟨x,ex,rx⟩:=qB.get i ee;have ent:=tp.ent i e du ee iy;have eY:f7 r f (df j rate os) (cH rate ds os) es.length sq fa i=if fa i=0 then(if kl r f ((df j rate os).getD i 0) (gL sq i) (sq i)=true then 0 else 4)else fa i:=by unfold f7;rw[aO ak,aO ak]
   have pb:=tp.DA i ak ak;have ob:=tp.vz i ak ak;refine⟨_,Z,_,Z,_,Z,_,Z,.inl ⟨ta,_,_,x,Z,Z,ht.go dX,rE ex,m,y,x,rs,r,f,j,t,du,e,sq i,fa i,Z,RD.mono dX _ rm,aP,RD.mono (s2.trans eS) _ Sq,RD.mono dX _ rx,ent,λH5 s5=>?_⟩⟩;have jc:=dX.trans s5;by_cases hf:fa i=0
   ·rw[hf]
    rw[hf]at ent;rw[aR hf]at eY;refine⟨_,Z,Z,_,Z,aQ ?_⟩;refine⟨_,Z,_,Z,.inl ⟨ta,_,_,x,Z,Z,ht.go jc,rE ex,x,t,du,e,sq i,Z,RD.mono jc _ rx,ent,λgv OG=>?_⟩⟩;obtain⟨b,eb,Fo,Rb,bb⟩:=bv i ub H5 pj (eS.trans s5);rw[Fo]at eY;refine⟨_,Z,_,Z,_,Z,.inl ⟨lB,_,_,ub,Z,Z,aF.of ((eS.trans s5) _ _ dB),rE pj,_,Z,_,Z,m,ub,ev,gv,rs,r,f,j,t,b,gL sq i,sq i,Z,RD.mono jc _ rm,aP,Rb,bb,oe.go (n4.same.trans s5),pb,OG,ob,λH6 s6=>?_⟩⟩;cases mt:kl r f b (gL sq i) (sq i)with |true=>rw[mt,aR rfl]at eY;exact⟨_,Z,aQ ⟨_,Z,(eS.trans s5).trans s6,ak,Kc pre eY,gv,_,_,_,_,jA.go OG s6,Z⟩⟩ |false=>rw[mt,aO au]at eY;refine⟨_,Z,aY ⟨_,Z,bA Z,λex fx=>?_⟩⟩;exact rz _ _ (jM i 4 ak ak pre eY au) H6 _ _ Z Z (jc.trans s6) ex fx
   ·rw[aO hf]at eY
    rw[show fv (fa i)= .int (fa i:Nat)from aO hf];refine⟨_,Z,Z,_,Z,aY ?_⟩;refine⟨_,Z,_,Z,bA Z,λex fx=>?_⟩;exact rz _ _ (jM i (fa i) ak ak pre eY hf) H5 _ _ Z Z jc ex fx
  ·rintro O H3 ⟨s3,hde,pre,ev,v1,v2,v3,v4,oe,rfl⟩
   have jL:=fR.trans s3;have d3:=s3 _ _ (s2 _ _ dD);refine⟨_,Z,ta,_,Z,.inl (ht.go jL),_,Z,lD,_,Z,.inl (aF.of d3),_,_,Z,Z,_,Z,?_⟩;by_cases bG:yD.length<es.length
   ·rw[cj (show((xt.length:Int)>(yD.length:Int)) by lia)]
    refine aY ⟨_,Z,lD,_,Z,.inl (aF.of d3),bA Z,λex fx=>?_⟩;exact rz _ _ (jM yD.length 1 ak ak pre (by unfold f7;rw[aO ak,aR ⟨DX,ak⟩]) au) H3 _ _ Z Z jL ex fx
   rw[cY (show¬((xt.length:Int)>(yD.length:Int)) by lia)];refine aQ ?_;have e1:yD.length=es.length:=by lia
   have eY:f7 r f (df j rate os) (cH rate ds os) es.length sq fa yD.length=if kl r f ((df j rate os).getD yD.length 0) (gL sq es.length) none=true then 0 else 4:=by unfold f7;rw[aO ak,aO ak,e1,tp.MJ,tp.uV,aR rfl]
   obtain⟨ub,pj⟩:∃u,yB[yD.length]? =some u:=⟨_,bw ak⟩;obtain⟨b,eb,Fo,Rb,bb⟩:=bv _ ub H3 pj s3;rw[Fo]at eY;refine⟨_,Z,_,Z,1,Z,.inl ⟨lB,_,-1,ub,Z,Z,aF.of (s3 _ _ dB),FV (by rw[Pg,tF,<-DX];exact pj),_,Z,m,ub,ev,.bM,rs,r,f,j,t,b,gL sq es.length,none,Z,RD.mono jL _ rm,aP,Rb,bb,by rw[<-e1];exact oe,tp.DA _ (ba _) ak,Z,trivial,λH4 s4=>?_⟩⟩;cases mt:kl r f b (gL sq es.length) none with
   |true=>
    rw[mt,aR rfl]at eY;refine⟨_,Z,aQ (kq (Lp lk λk hk=>?_) H4 (jL.trans s4))⟩;rcases Gs k yD.length with a|a
    ·exact pre k a
    ·rw[show k=yD.length by lia];exact eY |false=>rw[mt,aO au]at eY;refine⟨_,Z,aY ⟨_,Z,lD,_,Z,.inl (aF.of (s4 _ _ d3)),bA Z,λex fx=>?_⟩⟩;exact rz _ _ (jM yD.length 4 ak ak pre eY au) H4 _ _ Z Z (jL.trans s4) ex fx
def D9:Option (Nat×Nat)->af |none=>.none |some (k,y)=>.tuple [.int (k:Nat),.int (y:Nat)]
theorem At.kind{n0:Nat}{j rate:Int}{ds:List af}{os:List Itm}(row:cn n0 ds os){k i c:Nat}(a:At j rate ds os k i c): (os[i]? =some none/\c=0/\(cJ os os.length)[k]? =some (.tuple [.int i,.none])/\∃d,ds[i]? =some d/\itR d none/\(fo rate ds os os.length)[k]? =some d)\/ ∃ns sp,os[i]? =some (some (ns,sp))/\c<aE ns/\(cJ os os.length)[k]? =some (.tuple [.int i,fg (fK ns c)])/\(fo rate ds os os.length)[k]? =some (fF (fK ns c) (topR rate sp)):=by have ll:=row.len;obtain⟨o,eo⟩:∃o,os[i]? =some o:=⟨_,bw a.hi⟩;have hc:=a.hc;cases o with
 |none=>
  obtain⟨d',ed⟩:∃d',ds[i]? =some d':=⟨_,bw (show i<ds.length by have:=a.hi;lia)⟩;rw[qZ eo]at hc;have h0:c=0:=by simpa using hc
  subst h0;have e1:=a.dl;rw[qZ eo]at e1;have e2:=a.du;rw[wH eo ed]at e2;exact .inl ⟨eo,Z,e1,d',ed,row.it i d' none ed eo,e2⟩ |some p=>obtain⟨ns,sp⟩:=p;rw[rf eo,bu,gF]at hc;have e1:=a.dl;rw[rf eo,bN,jV hc]at e1;have e2:=a.du;rw[qY eo,bN,jV hc]at e2;exact .inr ⟨ns,sp,eo,hc,e1,e2⟩
theorem pK.NM{n0:Nat}{j ti rate:Int}{ds:List af}{os:List Itm}{es:List af}{sq:Nat->Option Rat}{fa:Nat->Nat}(tp:pK ti rate ds os es sq fa)(row:cn n0 ds os){k i c:Nat}(a:At j rate ds os k i c)(hk:k<es.length)(hd:k<cH rate ds os)(h:gL sq k=none)(h0:∀c,c<k->fa c=0):(df j rate os)[k]? =some 0:=by have Fu:(cJ os os.length).length=cH rate ds os:=rh (rate:=rate) row _ (ba os.length);rw[a.bd];cases k with
 |zero=>
  have e:=a.ek;have c0:c=0:=by omega
  have i0:i=0:=by
   by_cases hi:i=0
   ·exact hi
   ·have m:=Fv os (show 1<=i by omega)
    have:=Ng row (show 0<os.length by have:=a.hi;omega);have:(cJ os 1).length=(fG os 0).length:=by show([]++fG os 0).length=_;rfl
    omega
  subst c0 i0;exact FQ a.hi |succ k=>
  have h:sq k=none:=h;obtain⟨i',c',a'⟩:=A8 (j:=j) (rate:=rate) row (show k<(cJ os os.length).length by omega);obtain⟨e,ee⟩:∃e,es[k]? =some e:=⟨_,bw aI⟩;rcases a'.kind row with⟨eo,c0,_⟩|⟨ns,sp,_,_,_,iy⟩
  ·rcases a.prev row a' with⟨rfl,hc⟩|⟨rfl,rfl⟩
   ·have:=a.hc
    rw[qZ eo]at this;simp at this;omega
   ·rw[FQ a.hi,TB eo]
  ·have en:=tp.ent k e _ ee iy
   rw[h,h0 k (Nat.lt_succ_self k)]at en;rcases en.zero with⟨_,o,_⟩|⟨_,_,_,_,_,hs⟩
   ·exact(uc o Z).elim
   ·cases hs
theorem At.a2k{n0:Nat}{j rate:Int}{ds:List af}{os:List Itm}(row:cn n0 ds os){k i c:Nat}(a:At j rate ds os (k+1) i c)(hk:k+1<(cJ os os.length).length):∃i' rd,(cJ os os.length)[k]? =some (.tuple [.int (i':Nat),rd])/\(i'=i->∃ns sp,os[i]? =some (some (ns,sp))/\(df j rate os)[k+1]? =some (topR rate sp))/\(i'≠i->(df j rate os)[k+1]? =some (ownF j rate os i)):=by
 obtain⟨i',c',a'⟩:=A8 (j:=j) (rate:=rate) row (show k<(cJ os os.length).length by lia);obtain⟨rd,e1⟩:=a'.num;refine⟨i',rd,e1,λh=>?_,λh=>?_⟩
 ·rcases a.prev row a' with⟨_,hc⟩|⟨h2,_⟩
  ·rcases a.kind row with⟨_,c0,_⟩|⟨ns,sp,eo,hl,_⟩
   ·lia
   ·exact⟨ns,sp,eo,by rw[a.bd];exact a2t eo hc hl⟩
  ·lia
 ·rcases a.prev row a' with⟨h2,_⟩|⟨_,rfl⟩
  ·exact(h h2).elim
  ·rw[a.bd];exact FQ a.hi
inductive a3Z(K:a7)(vs:List V)(H:Hp)(Q:VK):Prop |mk (m:_)(iv:_)(rate:_)(tv:_)(rs:_)(r:_)(f:_)(j:_)(t:_)(ds:_)(os:_)(D:_)(res:_)(h0:vs=[m,iv,.int rate,tv])(h1:RD K H m (dZ rs r f j t))(h2:fb rs r f j t)(h3:RD K H iv (.tuple ds))(h4:cn rs.length ds os)(h5:ds.length<=30)(h6:10<=rate)(h7:rate<=200)(h8:RD K H tv D)(h9:Ai r f j t rate ds os D res)(qS:∀v H',aA H H'->RD K H' v (D9 res)->Q v H')
def HV(K:a7):Sp:=λvs H Q _=>a3Z K vs H Q
abbrev JG:Stmt:=top 100
theorem Jc:bo ["_law_machine_here","_law_items_here","_law_rate","_law_tape","_law_due","_law_bounds_here","_law_ahead","_law_at","_law_behind","_law_bound","_law_number_here","_law_row","_law_why"] ["_law_machine_here","_law_items_here","_law_rate","_law_tape"] (aZ JG):=bE aJ
theorem UK(F:FA K mg "_law_look" JG)(B:bB mg)(Zf:ay P w K mg ao "_law_due_entries" 4 (HY K))(Zg:ay P w K mg ao "_law_bounds" 3 (Bt K))(Ze:ay P w K mg ao "_law_entry_fault" 5 (Br K))(tQ:ay P w K mg ao "_law_top" 2 (uW K))(Zd:ay P w K mg ao "_law_fits" 3 (yg K)):ay P w K mg ao "_law_look" 6 (HV K):=by
 refine F.has Jc (λvs H Q E h=>?_) (λ_ _ _ _ _ _=>rH λ_ _ _ _=>rfl) (λfa aH A outer s H vs Q E hr h=>?_)
 ·obtain⟨m,iv,rate,tv,rs,r,f,j,t,ds,os,D,res,rfl,_⟩:=h
  rfl
 ·obtain⟨m,iv,rate,tv,rs,r,f,j,t,ds,os,D,res,rfl,rm,aP,ri,row,hz,bP,bR,rt,vP,k⟩:=h
  have nd:=Jc.nd;refine⟨_,(aB (bD (cT (bZ (fk K B (ai (pv 3) (ai (eU (x:="list") (v:=.ty "list") Z (B.at "list") nN rfl) aq))))) (aD (aU (cF (ai aw (ai aw aq))))) bH) (aB (pS 4 nd (pf Zf hr (ai (pv 1) aq))) (aB (pS 5 nd (pf Zg hr (ai (pv 0) (ai (pv 1) (ai (pv 2) aq))))) (aB (pS 6 nd fi) (aB (fh eE Z (lA Z (B.at "range") (ai (aG cm (eH K B (ai (pv 3) aq)) aw) aq)) (aX 7 nd) (aB (eG (cF (ai fi (ai (cF (ai aw (ai aw aq))) aq))) (cV K Z (n:=2) Z (bF (aX 8 nd) (bF (aX 9 nd) cU)))) (aB (lu (bD (bQ (dH K Z hr.units) (pv 7) (eH K B (ai (pv 3) aq)) (bC _)) (aD (bD (bQ ji (pv 7) (eH K B (ai (pv 4) aq)) (bC _)) (aD (aU (cF (ai (pv 7) (ai aw aq))))) bH)) (aB (bD (bQ DD (pv 7) (eH K B (ai (pv 4) aq)) (bC _)) (aD (aU (cF (ai (pv 7) (ai aw aq))))) bH) (aB (eG (px K (pv 4) (pv 7)) (cV K Z (n:=2) Z (bF (aX 10 nd) (bF (aX 11 nd) cU)))) (aB (pS 12 nd (pf Ze hr (ai (pv 0) (ai (px K (pv 1) (pv 10)) (ai (pv 11) (ai (pv 2) (ai (px K (pv 3) (pv 7)) aq))))))) (aB (bD (bQ lC (pv 12) aw (bC _)) (aD (aU (cF (ai (pv 7) (ai (pv 12) aq))))) bH) (aB (lu (bD (bQ mR (pv 11) fi (bC _)) (aD (pS 8 nd (px K (px K (pv 3) (pv 7)) aw))) bH)) (aD (bD (bQ mR (pv 6) fi (bC _)) (aB (pS 9 nd (px K (pv 5) (pv 10))) (aD (bD (bQ (dH K Z hr.units) (px K (px K (pv 4) (aG gs (pv 7) aw)) aw) (pv 10) (bC _)) (aD (pS 9 nd (pf tQ hr (ai (px K (pv 1) (pv 10)) (ai (pv 2) aq))))) bH))) bH))))))))) (aB (bD (cT (bZ (pf Zd hr (ai (pv 0) (ai (pv 9) (ai (pv 6) (ai (pv 8) aq))))))) (aD (aU (cF (ai (pv 7) (ai aw aq))))) bH) (aD (pS 6 nd (pv 8))))))) (aD (aU fi))))))),?_⟩;have ll:=row.len;have lr:=aP.len;have FP:=NT aP row bP bR;have rz:∀(i y:Nat),res=some (i,y)->∀(p:Addr)(H5 H6:Hp)(iv yv:V),iv= .int (i:Nat)->yv= .int (y:Nat)->aA H H5->Nw H5 H6 p (.tup [iv,yv])->Q (.ref p) H6:=by rintro i y er p H5 H6 _ _ rfl rfl s5 n6;refine k _ H6 (s5.trans n6.same) ?_;rw[er];exact dC (aK.of n6.at') (bK (cM _) (bK (cM _) cf))
  rcases vP with⟨es,sq,fa,rfl,tp,lk⟩|⟨hl,er⟩
  rotate_left
  ·refine⟨_,Z,.inl ⟨_,_,"list",false,Z,rt.ty,au,hl,_,Z,aY ?_⟩⟩
   exact⟨bA Z,λp H5 n5=>rz 0 1 er p H H5 _ _ Z Z (aA.refl _) n5⟩
  refine⟨_,Z,.inl ⟨_,_,"list",true,Z,rt.ty,au,(by decide:eR "list" "list"=true),_,Z,aQ ?_⟩⟩;refine⟨_,Z,iv,rs.length,ds,os,Z,ri,row,ak,hz,λlD yD H1 nD dD rD s1=>?_⟩;refine⟨_,Z,_,Z,_,Z,m,iv,rate,rs,r,f,j,t,ds,os,Z,RD.mono s1 _ rm,aP,RD.mono s1 _ ri,row,ak,bP,bR,λlB yB H2 nB dB rB s2=>?_⟩;have fR:=s1.trans s2;obtain⟨ta,xt,rfl,ht,qB⟩:=rt.lst_inv;obtain⟨ia,xi,rfl,M8,Y0⟩:=ri.bT;have W4:=qB.length;have DX:=rD.length;have tF:=rB.length;rw[bu,ownL,bu,gF]at tF;have Fu:(cJ os os.length).length=cH rate ds os:=rh (rate:=rate) row _ (ba os.length);have dl:cH rate ds os<=100*os.length:=(ud (rate:=rate) row _ (ba _)).1;have p8:sizeLine=16777216:=by decide
  have hsm:=tp.small;have Ly:(df j rate os).length=cH rate ds os+1:=by unfold df;rw[cD,pJ (ds:=ds) row _ (ba _)];rfl
  have own:∀(c:Nat)(u:V)(H':Hp),c<=os.length->yB[c]? =some u->aA H2 H'->bj K H' u (ownF j rate os c):=by intro c u H' hc e t';obtain⟨d1,e1,r1⟩:=rB.get' c e;rw[bN,ownL,bN,jV ak]at e1;cases e1;exact(fS r1).go t'
  have jM:∀(i y:Nat),i<=es.length->i<=cH rate ds os->(∀k,k<i->f7 r f (df j rate os) (cH rate ds os) es.length sq fa k=0)->f7 r f (df j rate os) (cH rate ds os) es.length sq fa i=y->y≠0->res=some (i,y):=λi y zy oW pre e hy=>Lr lk (Nat.le_min.mpr ⟨zy,oW⟩) pre e hy;refine⟨_,Z,ta,_,Z,.inl (ht.go fR),_,_,Z,Z,_,Z,ak,ak,?_⟩;have eN:((xt.length:Int)+1).toNat=es.length+1:=by lia
  rw[eN];refine pe (Pv:=λi O H3=>aA H2 H3/\i<=cH rate ds os+1/\(∀k,k<i->f7 r f (df j rate os) (cH rate ds os) es.length sq fa k=0)/\∃av v1 v2 v3 v4 v5 v6,jA K H3 av (gL sq i)/\O=[some m,some (.ref ia),some (.int rate),some (.ref ta),some (.ref lD),some (.ref lB),some av,v1,v2,v3,v4,v5,v6]) ?_ ?_ ?_
  ·exact⟨aA.refl _,dS _,λ_ h=>absurd h (AF _),.bM,none,none,none,none,none,none,Z,Z⟩
  ·rintro i O H3 hi ⟨s3,XA,pre,av,v1,v2,v3,v4,v5,v6,oa,rfl⟩
   have nq:i<=cH rate ds os:=by
    by_cases h:i=cH rate ds os+1
    ·have:=pre (cH rate ds os) ak
     unfold f7 at this;rw[aO ak,aR ⟨Z,ak⟩]at this;cases this
    ·lia
   have rE:∀{α:Type}{l:List α}{u:α},l[i]? =some u->dI l (0+(i:Int))=some u:=λh=>cK ak (by rw[xH];simpa using h);refine⟨bA Z,λz0 H40 L6=>?_⟩;refine⟨bA Z,λz1 H4 DQ=>?_⟩;refine⟨z1,_,Z,aK.of DQ.at',Z,_,_,Z,_,_,Z,Z,?_⟩;have L5:=L6.same.trans DQ.same;have eS:=s3.trans L5;have dX:=fR.trans eS;have R0:bj K H4 (.ref z0) 0:=⟨z0,Z,aK.of (DQ.same _ _ L6.at')⟩;have vA:=oa.go L5;refine⟨λO H5=>aA H4 H5/\∃gv bv b sE GP GO,jA K H5 gv (sq i)/\bj K H5 bv b/\(df j rate os)[i]? =some b/\f7 r f (df j rate os) (cH rate ds os) es.length sq fa i=(if kl r f b (gL sq i) (sq i)=true then 0 else 4)/\O=[some m,some (.ref ia),some (.int rate),some (.ref ta),some (.ref lD),some (.ref lB),some av,some (.int (0+(i:Int))),some gv,some bv,sE,GP,GO],?_,?_⟩
   ·refine⟨_,Z,_,Z,ta,_,Z,.inl (ht.go dX),.inl ⟨_,_,Z,Z,_,Z,?_⟩⟩
    by_cases lU:i=es.length
    ·rw[cj (show(0+(i:Int)=(xt.length:Int)) by lia)]
     refine aY ?_;refine⟨_,Z,_,Z,lD,_,Z,.inl (aF.of ((s2.trans eS) _ _ dD)),_,_,Z,Z,_,Z,?_⟩;by_cases bG:i<cH rate ds os
     ·rw[cj (show(0+(i:Int)<(yD.length:Int)) by lia)]
      refine aY ⟨_,Z,bA Z,λp H5 n5=>?_⟩;exact rz _ _ (jM i 1 ak nq pre (by unfold f7;rw[aR ⟨lU,ak⟩]) au) p H4 H5 _ _ (by rw[xH]) Z dX n5
     rw[cY (show¬(0+(i:Int)<(yD.length:Int)) by lia)];have hl:(iz j rate os os.length).length=i:=by
      rw[pJ (ds:=ds) (rate:=rate) row _ (ba _)];show cH rate ds os=i
      lia
     have eb:(df j rate os)[i]? =some 0:=by unfold df;rw[nQ ak,hl,AE,TC];rfl
     refine aQ ⟨aA.refl _,.bM,.ref z0,0,_,_,_,by rw[lU,tp.uV];rfl,R0,eb,?_,Z⟩;unfold f7;rw[aO ak,aO ak,lU,tp.MJ,aR Z,uD,<-lU,eb];rfl
    ·rw[cY (show¬(0+(i:Int)=(xt.length:Int)) by lia)]
     refine aQ ?_;have EE:i<es.length:=by lia
     refine⟨_,Z,_,Z,lD,_,Z,.inl (aF.of ((s2.trans eS) _ _ dD)),_,_,Z,Z,_,Z,?_⟩;by_cases Ya:cH rate ds os<=i
     ·rw[cj (show((yD.length:Int)<=0+(i:Int)) by lia)]
      refine aY ⟨_,Z,bA Z,λp H5 n5=>?_⟩;exact rz _ _ (jM i 1 ak nq pre (by unfold f7;rw[aO ak,aR ⟨ak,ak⟩]) au) p H4 H5 _ _ (by rw[xH]) Z dX n5
     rw[cY (show¬((yD.length:Int)<=0+(i:Int)) by lia)];refine aQ ?_;have w4:i<cH rate ds os:=by lia
     obtain⟨ix,c,iZ⟩:=A8 (j:=j) (rate:=rate) row (show i<(cJ os os.length).length by lia);obtain⟨e,ee⟩:∃e,es[i]? =some e:=⟨_,bw EE⟩;obtain⟨x,ex,rx⟩:=qB.get i ee;have eY:f7 r f (df j rate os) (cH rate ds os) es.length sq fa i=if fa i=0 then(if kl r f ((df j rate os).getD i 0) (gL sq i) (sq i)=true then 0 else 4)else fa i:=by unfold f7;rw[aO ak,aO ak]
     have wq:fa i=0->∀b,(df j rate os)[i]? =some b->f7 r f (df j rate os) (cH rate ds os) es.length sq fa i=(if kl r f b (gL sq i) (sq i)=true then 0 else 4):=λh b eb=>by rw[eY,h,aR Z,uD,eb];rfl
     have knd:=iZ.kind row;obtain⟨rd,Fj⟩:=iZ.num;obtain⟨y,ey,ry⟩:=rD.get i Fj;obtain⟨ya,ys,rfl,X7,iT⟩:=(RD.mono (s2.trans eS) _ ry).bT;obtain⟨u1,yr,rfl,e1,iT⟩:=iT.cons_inv;obtain⟨rv,yr,rfl,e2,iT⟩:=iT.cons_inv;cases iT.nil_inv;cases e1.int_inv;obtain⟨dx,qX⟩:∃d,ds[ix]? =some d:=⟨_,bw (by have:=iZ.hi;lia)⟩;obtain⟨xv,MN,D1⟩:=Y0.get ix qX;refine⟨_,Z,_,Z,.inl ⟨lD,_,_,.ref ya,Z,Z,aF.of ((s2.trans eS) _ _ dD),rE ey,ya,_,Z,X7,Z,_,_,Z,_,_,Z,Z,?_⟩⟩;refine⟨_,Z,_,Z,_,Z,.inr ⟨ia,_,_,xv,Z,Z,M8.go dX,cK ak (by simpa using MN),?_⟩⟩;refine⟨_,Z,_,Z,_,Z,_,Z,.inl ⟨ta,_,_,x,Z,Z,ht.go dX,rE ex,?_⟩⟩;have Kd:∀c,c<i->fa c=0:=λc hc=>by
      have z:=pre c hc;unfold f7 at z;rw[aO ak,aO ak]at z;by_cases h:fa c=0
      ·exact h
      ·rw[aO h]at z;exact(h z).elim
     obtain⟨du,iy⟩:∃d,(fo rate ds os os.length)[i]? =some d:=⟨_,bw w4⟩;have ent:=tp.ent i e du ee iy;have hk:(rv= .bM/\fY du/\RD K H4 xv du)\/∃ns sp zs,du=fF zs (topR rate sp)/\RD K H4 xv (fA ns sp)/\1<=sp/\sp<=20/\10<=rate/\rate<=200/\RD K H4 rv (fg zs)/\zs.length<=1000:=by
      rcases knd with⟨eo,c0,wG,d',zR,WM,wF⟩|⟨ns,sp,eo,qM,wG,wF⟩
      ·rw[Fj]at wG
       cases wG;cases e2.DI;rw[qX]at zR;cases zR;rw[iy]at wF;cases wF;refine .inl ⟨Z,?_,RD.mono dX _ D1⟩;rcases ent.kind with o|⟨zs,top,h1,_⟩
       ·exact o
       ·exact(WN WM h1).elim
      ·rw[Fj]at wG
       cases wG;have Fm:=jm (row.it ix dx _ qX eo);subst Fm;obtain⟨bW,cL,cZ⟩:=row.ok ix ns sp eo;rw[iy]at wF;cases wF;exact .inr ⟨ns,sp,_,Z,RD.mono dX _ D1,cL,cZ,bP,bR,e2,by unfold fK;rw[bu,bW.len];lia⟩
     refine⟨m,xv,rv,rate,x,rs,r,f,j,t,du,e,sq i,fa i,Z,RD.mono dX _ rm,aP,RD.mono dX _ rx,ent,hk,λH6 s6=>?_⟩;by_cases hf:fa i=0
     rotate_left
     ·refine⟨_,Z,_,_,Z,Z,_,Z,?_⟩
      rw[cj (show((fa i:Nat):Int)>0 by lia)];refine aY ⟨_,Z,_,Z,bA Z,λp H7 n7=>?_⟩;exact rz _ _ (jM i (fa i) ak nq pre (by rw[eY,aO hf]) hf) p H6 H7 _ _ (by rw[xH]) Z (dX.trans s6) n7
     rw[hf];rw[hf]at ent;have wq:=wq hf;refine⟨_,Z,_,_,Z,Z,_,Z,aQ ?_⟩;refine⟨λO H7=>H7=H6/\∃gv,jA K H6 gv (sq i)/\O=[some m,some (.ref ia),some (.int rate),some (.ref ta),some (.ref lD),some (.ref lB),some av,some (.int (0+(i:Int))),some gv,some (.ref z0),some (.int (ix:Int)),some rv,some (.int 0)],?_,?_⟩
     ·rcases hk with⟨rfl,gr,_⟩|⟨ns,sp,zs,rfl,_,_,_,_,_,rr,_⟩
      ·obtain⟨hs,_⟩:=ent.other 0 gr
       exact⟨_,Z,Z,_,Z,aQ ⟨Z,.bM,by rw[hs];rfl,Z⟩⟩
      ·obtain⟨ra,S3,rfl,LS,_⟩:=id rr.bT
       obtain⟨_,⟨_,z,_⟩|⟨a',b',rfl,_,_,⟨_,z,_⟩|⟨q,q0,bq,rfl,rfl,_,_,hs⟩⟩⟩:=ent.step aP.t1.1 aP.t1.2
       ·cases z
       ·cases z
       obtain⟨kJ,v1,v2,v3,v4,rfl,k1,_,_,_,k4⟩:=yy (RD.mono (dX.trans s6) _ rx);refine⟨_,Z,Z,_,Z,aY ?_⟩;exact⟨_,Z,_,Z,.inl ⟨ta,_,_,.ref kJ,Z,Z,ht.go (dX.trans s6),rE ex,.inr ⟨kJ,_,3,v4,Z,Z,k1,Z,Z,v4,by rw[hs];exact fS k4,Z⟩⟩⟩
     rintro O H7 ⟨rfl,gv,OG,rfl⟩;cases hp:gL sq i with |none=>rw[hp]at vA;have ea:av= .bM:=vA;subst ea;refine⟨_,Z,Z,_,Z,aQ ?_⟩;exact⟨s6,gv,.ref z0,0,_,_,_,OG,R0.go s6,tp.NM row iZ EE w4 hp Kd,(by have z:=wq _ (tp.NM row iZ EE w4 hp Kd);rw[hp]at z;exact z),Z⟩ |some q'=>cases M7:i with |zero=>rw[M7]at hp;cases hp |succ kk=>
      subst M7;rw[hp]at vA;obtain⟨aa,ea,_⟩:=id (show bj K H4 av q' from vA);subst ea;refine⟨_,Z,Z,_,Z,aY ?_⟩;have vg:=eS.trans s6;have mI:=fR.trans vg;obtain⟨ub,pj⟩:∃u,yB[ix]? =some u:=⟨_,bw (by have:=iZ.hi;lia)⟩;have Ro:=own ix ub H7 (by have:=iZ.hi;lia) pj vg;refine⟨_,Z,_,Z,.inl ⟨lB,_,_,ub,Z,Z,aF.of (vg _ _ dB),cK ak (by simpa using pj),?_⟩⟩;obtain⟨i',Dh,edp,b1,b2⟩:=iZ.a2k row ak;obtain⟨yp,eyp,S2⟩:=rD.get kk edp;obtain⟨GK,yps,rfl,hyp,hyps⟩:=(RD.mono (s2.trans vg) _ S2).bT;obtain⟨u1,yr,rfl,eu1,hyps⟩:=hyps.cons_inv;cases eu1.int_inv;refine⟨_,Z,_,Z,_,_,Z,Z,.inl ⟨lD,_,_,.ref GK,Z,Z,aF.of ((s2.trans vg) _ _ dD),cK ak (by rw[show(0+((kk+1:Nat):Int)-1).toNat=kk by lia];exact eyp),?_⟩⟩;refine .inr ⟨GK,_,0,.int (i':Int),Z,Z,hyp,cK (jE 0) Z,?_⟩;refine⟨_,Z,.inl ⟨_,_,Z,Z,_,Z,?_⟩⟩;by_cases vZ:i'=ix
      ·rw[cj (show((i':Int)=(ix:Int)) by lia)]
       obtain⟨vE,vb,MV,Na⟩:=b1 vZ;obtain⟨a5l,Rn,Rm⟩:=row.ok ix vE vb MV;have Fm:=jm (row.it ix dx _ qX MV);subst Fm;refine aY ⟨_,Z,_,Z,.inr ⟨ia,_,_,xv,Z,Z,M8.go mI,cK ak (by simpa using MN),?_⟩⟩;refine⟨_,Z,xv,vE,vb,rate,Z,RD.mono mI _ D1,Rn,Rm,bP,bR,λQ5 H7 R7 s7=>?_⟩;exact⟨s6.trans s7,gv,Q5,_,_,_,_,jA.go OG s7,R7,Na,(by have z:=wq _ Na;rw[hp]at z;exact z),Z⟩
      ·rw[cY (show¬((i':Int)=(ix:Int)) by lia)]
       exact aQ ⟨s6,gv,ub,_,_,_,_,OG,Ro,b2 vZ,(by have z:=wq _ (b2 vZ);rw[hp]at z;exact z),Z⟩
   ·rintro O H5 ⟨s5,gv,bv,b,sE,GP,GO,og,Rb,eb,eY,rfl⟩
    have jc:=dX.trans s5;have Vr:rO 1900 (sq i):=by
     by_cases lU:i=es.length
     ·rw[lU,tp.uV];trivial
     by_cases w4:i=cH rate ds os
     ·have hh:f7 r f (df j rate os) (cH rate ds os) es.length sq fa i=1:=by unfold f7;rw[aO ak,aR ⟨w4,ak⟩]
      rw[hh]at eY;split at eY<;>cases eY
     ·exact tp.vz i ak ak
    refine⟨_,Z,_,Z,_,Z,_,Z,m,bv,av,gv,rs,r,f,j,t,b,gL sq i,sq i,Z,RD.mono jc _ rm,aP,Rb,FP b (fO eb),vA.go s5,tp.DA i ak nq,og,Vr,λH6 s6=>?_⟩;cases mt:kl r f b (gL sq i) (sq i)with |true=>rw[mt,aR rfl]at eY;exact⟨_,Z,aQ ⟨_,Z,(eS.trans s5).trans s6,ak,Kc pre eY,gv,_,_,_,_,_,_,og.go s6,Z⟩⟩ |false=>rw[mt,aO au]at eY;refine⟨_,Z,aY ⟨_,Z,bA Z,λp H7 n7=>?_⟩⟩;exact rz _ _ (jM i 4 ak nq pre eY au) p H6 H7 _ _ (by rw[xH]) Z (jc.trans s6) n7
  ·rintro O H3 ⟨s3,XA,pre,av,v1,v2,v3,v4,v5,v6,oa,rfl⟩
   have er:=Lp lk λk hk=>pre k (by have:=Nat.le_min.mp hk;lia);refine k .bM H3 (fR.trans s3) ?_;rw[er];exact vo
theorem RL{t u:TS}{D:Ends}{O:L2.St}{H:Hp}(Pm:L2.St->Hp->Prop)(h2:∀σ' H',Pm σ' H'->u D σ' H')(h1:∀R:TS,(∀σ' H',Pm σ' H'->R D σ' H')->uP t R D O H):uP t u D O H:=h1 u h2
abbrev JE:Stmt:=top 79
theorem IQ:bo ["_law_thing"] ["_law_thing"] (aZ JE):=bE aJ
theorem Uy(F:FA K mg "_law_number" JE)(B:bB mg):Ak P w K mg ao "_law_number" 1 (iL K):=by
 refine F.Yw IQ (λvs H Q E h=>?_) (λ_ _ _ _ _ _=>gj λ_=>rfl) (λf aH A outer s H vs Q hr h=>?_)
 ·obtain⟨v,T,rfl,_⟩:=h
  rfl
 ·obtain⟨v,T,rfl,ty,k⟩:=h
  have nd:=IQ.nd;refine⟨_,(aD (aU (iQ (fk K B (ai (pv 0) (ai (eU (x:="int") (v:=.ty "int") Z (B.at "int") rX rfl) aq))) (jg (ql (fk K B (ai (pv 0) (ai (eU (x:="bool") (v:=.ty "bool") rfl (B.at "bool") P6 rfl) aq)))))))),?_⟩;refine⟨_,Z,.inl ⟨_,T,"int",_,Z,ty,au,Z,_,Z,?_⟩⟩;unfold eX at k;refine eJ (λhc=>?_) (λhc=>?_)
  ·refine⟨_,Z,.inl ⟨_,T,"bool",_,Z,ty,au,Z,_,Z,?_⟩⟩
   rw[hc,j8]at k;exact k
  ·rw[nS.mpr hc,iG]at k
   exact k
inductive a3V(K:a7)(vs:List V)(H:Hp)(Q:VK):Prop |mk (m:_)(iv:_)(rate:_)(tv:_)(rs:_)(r:_)(f:_)(j:_)(t:_)(ds:_)(os:_)(D:_)(res:_)(h0:vs=[m,iv,.int rate,tv])(h1:RD K H m (dZ rs r f j t))(h2:fb rs r f j t)(h3:RD K H iv (.tuple ds))(h4:cn rs.length ds os)(h5:ds.length<=30)(h6:10<=rate)(h7:rate<=200)(h8:RD K H tv D)(h9:bU 8 D)(qS:Ai r f j t rate ds os D res)(ER:∀v H',aA H H'->RD K H' v (D9 res)->Q v H')
def HU(K:a7):Sp:=λvs H Q _=>a3V K vs H Q
theorem J0:bo ["_law_machine_here","_law_items_here","_law_rate","_law_tape","_law_kept","_law_found","e","_law_others"] ["_law_machine_here","_law_items_here","_law_rate","_law_tape"] (aZ C9):=bE aJ
theorem UL{C fI cG c0 c1 c2 c3 c4 c5 c6 c7 c8 c9:Addr}(F:FA K mg "_law_looked" C9)(B:bB mg)(EA:OI K mg C fI cG c0 c1 c2 c3 c4 c5 c6 c7 c8 c9)(XG:xo P w K mg ao "look" 10 (Bj K C))(oZ:Ak P w K mg ao "_law_number" 1 (iL K)):ay P w K mg ao "_law_looked" 11 (HU K):=by
 refine F.Yy J0 (λvs H Q E h=>?_) (λ_ _ _ _ _ _=>rH λ_ _ _ _=>rfl) (λf aH A outer s H vs Q E hr h=>?_)
 ·obtain⟨m,iv,rate,tv,rs,r,f,j,t,ds,os,D,res,rfl,_⟩:=h
  rfl
 ·obtain⟨m,iv,rate,tv,rs,r,f,j,t,ds,os,D,res,rfl,rm,aP,ri,row,hz,bP,bR,rt,ok,lk,k⟩:=h
  have nd:=J0.nd;have hy:=EA.g;have EL:(FK).contains (.type "BaseException")=true:=by decide
  have EM:∀C',C'=C->ClsAt K C'/\takes K C' cG:=λC' e=>by subst e;exact⟨EA.oc.e.cls,EA.t⟩
  have YY:=EA.h0;have YR:=EA.h1;have YQ:=EA.h2;have YO:=EA.h3;have YN:=EA.h4;have YM:=EA.h5;have YL:=EA.h6;have YK:=EA.h7;have YI:=EA.h8;have YH:=EA.h9;have YF:=EA.v;have YJ:GV mg "NoTape" (.ref C):=⟨_,EA.oc.e.at',Z⟩;refine⟨_,(mq.Nu (pS 4 nd (vv (bZ (fk K B (ai (pv 3) (ai (eU (x:="list") (v:=.ty "list") Z (B.at "list") nN rfl) aq)))) (fj (x:="list") (zd K rfl) rfl (B.at "list") nN (ai (pv 3) aq)) fi)) (mq.Nu (pS 5 nd fi) (mq.a1I (T7 (i:=6) Z Z nd Z Z Z (λE xe hp=>(aD (bD (bQ mR (Tt XG hp (hr.mono au) Z (ai (pv 0) (ai (pv 1) (ai (pv 2) (ai (pv 3) aq))))) fi (bC _)) (aD (pS 5 nd dY)) bH))) Z hy EL EM (λex=>(aB (pS 7 nd (dk (x:="isinstance") (Ef K Z) Z (B.at "isinstance") Gq (ai (pv 6) (ai (cF (ai (cN (x:="Full") rfl YY) (ai (cN (x:="Moving") rfl YR) (ai (cN (x:="NoFraction") rfl YQ) (ai (cN (x:="NoItem") rfl YO) (ai (cN (x:="NoLine") rfl YN) (ai (cN (x:="NoMachine") rfl YM) (ai (cN (x:="NoPlace") rfl YL) (ai (cN (x:="NoRate") rfl YK) (ai (cN (x:="NoText") rfl YI) (ai (cN (x:="OffRails") rfl YH) aq))))))))))) aq)))) (aB (pS 5 nd dY) (aD (bD (PW.pt (sZ (bZ (dk (x:="isinstance") (Ef K Z) Z (B.at "isinstance") Gq (ai (pv 6) (ai (cN (x:="NoTape") rfl YJ) aq)))) (sZ (cT (bZ (pv 7))) (vq (bZ (dk (x:="isinstance") (Ef K rfl) rfl (B.at "isinstance") Gq (ai (pv 6) (ai (eU (x:="ValueError") (v:=.ty "ValueError") rfl YF a2j rfl) aq)))))))) (aD (bD (PW.pt (sZ (bZ (Kk oZ ((hr.mark _).mono au) Z (ai (yH K Z (pv 6)) aq))) (vq (bZ (Kk oZ ((hr.mark _).mono au) Z (ai (yH K Z (pv 6)) aq)))))) (aD (pS 5 nd (cF (ai (yH K Z (pv 6)) (ai (yH K Z (pv 6)) aq))))) bH)) bH)))))) (aB (bD (PW.pt (sZ (bQ mR (pv 4) fi (bC _)) (vq (bQ (iR K Z hr.units) (pv 3) (pv 4) (bC _))))) (aD (aU dY)) bH) (aD (aU (pv 5))))))),?_⟩;refine RL (λO H1=>∃kv,aA H H1/\(kv= .bM\/∃l1,kv= .ref l1/\RD K H1 kv D)/\O=[some m,some iv,some (.int rate),some tv,some kv,none,none,none]) ?_ λR hR=>?_
  rotate_left
  ·rcases E2 D with⟨es,rfl⟩|⟨hl,_⟩
   ·obtain⟨ta,xt,rfl,ht,qB⟩:=id rt.lst_inv
    refine⟨_,Z,.inl ⟨_,_,"list",true,Z,rt.ty,au,(by decide:eR "list" "list"=true),_,Z,aY ?_⟩⟩;refine⟨_,Z,ta,_,Z,.inl ht,λl1 H1 n1=>hR _ _ ?_⟩;exact⟨_,n1.same,.inr ⟨l1,Z,sX (aF.of n1.at') (aC.mono n1.same _ qB)⟩,Z⟩
   ·refine⟨_,Z,.inl ⟨_,_,"list",false,Z,rt.ty,au,hl,_,Z,aQ (hR _ _ ?_)⟩⟩
    exact⟨_,aA.refl _,.inl Z,Z⟩
  rintro O H1 ⟨kv,s1,M4,rfl⟩;refine⟨λσ' cls dx H'=>σ'=[some m,some iv,some (.int rate),some tv,some kv,some .bM,none,none]/\cls= .ref C/\∃(d:Addr)(kk y:Nat),dx=some d/\res=some (kk,y)/\aA H1 H'/\H' d=some (.xd (vD (.int (kk:Nat)) (.int (y:Nat)))),?_,λσ' cls dx H' h=>⟨C,h.2.1,Z⟩,?_⟩
  ·refine⟨_,Z,_,Z,_,Z,_,Z,m,iv,rate,tv,rs,r,f,j,t,ds,os,D,res,Z,RD.mono s1 _ rm,aP,RD.mono s1 _ ri,row,hz,bP,bR,RD.mono s1 _ rt,lk,λer H2 s2=>?_,λkk y er H' dx sm hd=>⟨Z,Z,dx,kk,y,Z,er,sm,hd⟩⟩
   refine⟨Z,_,Z,aQ ?_⟩;have JL:=s1.trans s2;have k:=k .bM H2 JL (by rw[er];exact vo);rcases M4 with rfl|⟨l1,rfl,rk⟩
   ·exact⟨_,Z,Z,_,Z,aQ ⟨_,Z,k⟩⟩
   refine⟨_,Z,Z,_,Z,aY ?_⟩;refine⟨_,Z,_,Z,.inr ⟨_,_,RD.mono JL _ rt,RD.mono s2 _ rk,gI ok,gI ok,_,Z,?_⟩⟩;rw[eqv_refl _ ok.lay];exact aQ ⟨_,Z,k⟩
  ·rintro C' ex dx σ' H' hl ⟨rfl,eC,d,kk,y,rfl,er,sm,hd⟩ hex
   cases eC;have e1:(L2.upd H' ex (.ext (kQ ex (.ref C) (some d)))) ex=some (.ext (kQ ex (.ref C) (some d))):=bX;have dne:d≠ex:=cC hd hex;have e3:(L2.upd H' ex (.ext (kQ ex (.ref C) (some d)))) d=some (.xd (vD (.int (kk:Nat)) (.int (y:Nat)))):=by rw[bf dne];exact hd
   refine⟨_,Z,bA Z,λt H2 nw=>?_⟩;have e2:=nw.same _ _ e1;have e4:=nw.same _ _ e3;refine .inr ⟨ex,C,t,some d,[c0,c1,c2,c3,c4,c5,c6,c7,c8,c9],false,Z,e2,EA.k,nw.at',EA.any,?_⟩;refine⟨_,Z,.inl ⟨ex,C,some d,.ref C,.ref C,true,Z,e2,EA.k,Z,EA.own,_,Z,aY ?_⟩⟩;refine⟨_,Z,_,Z,aY ?_⟩;refine⟨_,Z,.inl ⟨ex,C,some d,.ty "ValueError",.type "ValueError",true,Z,e2,EA.k,Z,EA.ve,_,Z,aY ?_⟩⟩;refine⟨_,Z,ex,C,d,_,(kk:Int),Z,e2,e4,EA.k,EA.fat,Z,_,_,Z,(cM (K:=K) (H:=H2) (kk:Int)).ty,_,Z,?_⟩;rw[show eX (dM (.int (kk:Int)))=true from(by decide:eX "int"=true)];refine aY ?_;refine⟨_,Z,ex,C,d,_,(y:Int),Z,e2,e4,EA.k,EA.fwhy,Z,_,_,Z,(cM (K:=K) (H:=H2) (y:Int)).ty,_,Z,?_⟩;rw[show eX (dM (.int (y:Int)))=true from(by decide:eX "int"=true)];refine aY ?_;refine⟨_,Z,ex,C,d,_,(kk:Int),Z,e2,e4,EA.k,EA.fat,Z,_,Z,ex,C,d,_,(y:Int),Z,e2,e4,EA.k,EA.fwhy,Z,bA Z,λp H3 n3=>?_⟩;have yn:aA H1 H3:=sm.trans ((aA.new hex).trans (nw.same.trans n3.same));have jL:=s1.trans yn;have k:=k (.ref p) H3 jL (by rw[er];exact dC (aK.of n3.at') (bK (cM _) (bK (cM _) cf)));rcases M4 with rfl|⟨l1,rfl,rk⟩
   ·exact⟨_,Z,Z,_,Z,aQ ⟨_,Z,k⟩⟩
   refine⟨_,Z,Z,_,Z,aY ?_⟩;refine⟨_,Z,_,Z,.inr ⟨_,_,RD.mono jL _ rt,RD.mono yn _ rk,gI ok,gI ok,_,Z,?_⟩⟩;rw[eqv_refl _ ok.lay];exact aQ ⟨_,Z,k⟩
inductive Gd:af->Prop |bM:Gd .none |bl (b:Bool):Gd (.bool b) |int (z:Int):z.natAbs<=10^39->Gd (.int z) |str (s:Str):s.length<=900->Gd (.str s) |tup (ds:List af):(∀d∈ds,Gd d)->Gd (.tuple ds) |lst (ds:List af):ds.length<=1000->(∀d∈ds,Gd d)->Gd (.list ds)
def nG:List af:=[.none,.bool true,.bool false,.int 0,.int 1,.int (-1),.int 2,.int (10^(39:Int).toNat),.int (-(10^(39:Int).toNat)),.str "",.str "step",.str "a",.tuple [],.list [],.tuple [.int 0,.int 1],.tuple [.int 1,.int 1]]
def sC:af:=.tuple [.str "wait",.int 1]
theorem O9:∀d∈nG++[sC],bU 1 d:=ow.mpr ⟨aJ,aJ⟩
theorem Ms{a b:af}(h1:Gd a)(h2:Gd b):Gd (.tuple [a,b]):=.tup _ λd hd=>by
 rcases dj.mp hd with rfl|hd
 ·exact h1
 ·rw[mz.mp hd];exact h2
theorem Oc:∀d∈nG++[sC],Gd d:=λd hd=>by simp only[nG,sC,List.cons_append,List.nil_append,dj,fq,kS]at hd;rcases hd with rfl|rfl|rfl|rfl|rfl|rfl|rfl|rfl|rfl|rfl|rfl|rfl|rfl|rfl|rfl|rfl|rfl;all_goals first |exact .bM |exact .bl _ |exact .int _ aJ |exact .str _ aJ |exact .tup _ (λd h=>(fq h).elim) |exact .lst _ (dS _) (λd h=>(fq h).elim) |exact Ms (.int _ aJ) (.int _ aJ) |exact Ms (.str _ aJ) (.int _ aJ)
def sO(K:a7):Nat->Sp |0=>λ_ _ _ _=>False |n+1=>λvs H Q _=>∃p,vs=[.ref p,.int (n:Nat)]/\eQ H p/\∀v d H',RD K (nl H H') v d->bU (n+1) d->Gd d->aV p H H'->Q v H'
theorem Bx:bo ["_law_bag_here","_law_deep","_law_kind","_law_some","_law_things"] ["_law_bag_here","_law_deep"] (aZ kc):=bE aJ
def A9:Expr:=match gz kc with|_:: .If _ (.Assign _ e _::_) _ _::_=>e|_=>.Constant .none 0 ⟨0,0,0,0⟩
theorem a2G:lit 4 A9=some (.list nG):=by kernel_rfl
def La(e:Expr):List Stmt:=match gz kc with|a:: .If c (.Assign ts _ p::r) o q::rest=>a:: .If c (.Assign ts e p::r) o q::rest|r=>r
theorem VW:La A9=gz kc:=by kernel_rfl
theorem Ob{p t:Addr}{H H1 H2 H3 H5 H6:Hp}{xs:List V}{i:Int}(bg:eQ H p)(b1:aV p H H1)(b2:aV p H H2)(nZ:aA H2 H5)(b6:aV p H5 H6)(hd:aC K (fr H1 H2) xs nG)(n3:Nw H2 H3 t (.tup [.str "wait",.int 1]))(s3:aA H3 H5)(i0:0<=i)(i1:i<17):∃y d,(xs++[.ref t])[i.toNat]? =some y/\RD K (nl H H6) y d/\d∈nG++[sC]:=by
 have hp:=bg.ne;have b5:eQ H5 p:=(aV.cW b2.aM nZ).aM;have s6:aA (nl H H5) (nl H H6):=b6.vG hp b5;have sA:aA (fr H1 H2) (nl H H6):=ZI.trans ((vH b1.free).trans ((DL nZ).trans s6));have ht:aK K (nl H H6) t [.str "wait",.int 1]:=(DK (aK.of (s3 _ _ n3.at'))).go s6;have hA:aC K (nl H H6) (xs++[.ref t]) (nG++[sC]):=(aC.mono sA _ hd).append (bK (dC ht (bK (cE _) (bK (cM _) cf))) cf);have hl:i.toNat<(nG++[sC]).length:=by show i.toNat<17;omega
 obtain⟨y,ey,ry⟩:=hA.get i.toNat (bw hl);exact⟨y,_,ey,ry,uC hl⟩
theorem Vm(F:FA K mg "_law_any" kc)(B:bB mg):ay P w K mg ao "_law_any" 1 (sO K 0):=by
 refine F.has Bx (λvs H Q E h=>?_) (λ_ _ _ _ _ _=>dn λ_ _=>rfl) (λf aH A outer s H vs Q E hr h=>?_)
 ·exact(show False from h).elim
 ·exact(show False from h).elim
theorem a2E{n:Nat}{f:Addr}{aH:Value}{A:ag}{outer:List Env}{s:a8}{H:Hp}{p:Addr}{Q:VK}{E:XK}(e:Expr)(hr:cS (n+1) (A.deeper (envOfC "_law_any" (aZ kc) s.heap.objs.size f aH))) (he:Oz (gA gm P w K mg ao ["_law_bag_here","_law_deep","_law_kind","_law_some","_law_things"] "_law_any" (aZ kc) f aH A outer s H E).oA e (xY K (.list nG))) (nh:∀x l,swapsWith e (some x) l (gA gm P w K mg ao ["_law_bag_here","_law_deep","_law_kind","_law_some","_law_things"] "_law_any" (aZ kc) f aH A outer s H E).oA.env=pure false) (B:bB mg)(cA:ay P w K mg ao "_law_take" 1 ka)(p4:ay P w K mg ao "_law_any" (n+1) (sO K n))(bg:eQ H p)(k:∀v d H',RD K (nl H H') v d->bU (n+1) d->Gd d->aV p H H'->Q v H'): ∃t,fM (gA gm P w K mg ao ["_law_bag_here","_law_deep","_law_kind","_law_some","_law_things"] "_law_any" (aZ kc) f aH A outer s H E).oA (La e) t/\t {nx:=λ_ H'=>Q .bM H',rt:=Q} (start ["_law_bag_here","_law_deep","_law_kind","_law_some","_law_things"] [.ref p,.int (n:Nat)]) H:=by
 have nd:=Bx.nd;refine⟨_,(aB (pS 2 nd (qm cA (hr.mono aI) Z (ai (pv 0) (ai aw aq)))) (aB (bD (PW.pt (fT (bQ ji (pv 2) aw (bC _)) (je (bQ (dH K Z hr.units) (pv 1) aw (bC _))))) (aB (Ka (i:=3) nd Z (Or.inl Z) he.out (nh _ _)) (aD (aU (px K (aG (A0 K Z) (pv 3) (cI (ai (cF (ai dY (ai aw aq))) aq))) (qm cA (hr.mono aI) Z (ai (pv 0) (ai aw aq))))))) bH) (aB (yE (i0:=4) nd Z (Or.inl Z) (N:=["_law_turn","_law_bag_here","_law_deep"]) (js:=[none,some 0,some 1]) Z Z Z (lA Z (B.at "range") (ai (qm cA (hr.mono aI) rfl (ai (pv 0) (ai aw aq))) aq)) (λ_ _ _ _ _=>(aX 0 (show List.Nodup (["_law_turn","_law_bag_here","_law_deep"]:List Str) by decide+kernel))) (λ_ _ _ _ _=>f6) (λ_ _ _ _ _=>(qm p4 (hr.mono aI) rfl (ai (pv 1) (ai (aG gs (pv 2) aw) aq))))) (aD (aU (px K (cI (ai (pv 4) (ai (fj (x:="tuple") (j9 K Z) Z (B.at "tuple") fN (ai (pv 4) aq)) (ai (aG (a21 K rfl) (cF (ai dY aq)) (fj (x:="tuple") (j9 K rfl) rfl (B.at "tuple") fN (ai (pv 4) aq))) aq)))) (aG gs (pv 2) aw))))))),?_⟩;refine⟨_,Z,p,7,Z,bg,au,au,λkd H1 k0 k1 b1=>?_⟩;refine⟨_,Z,_,_,Z,Z,_,Z,?_⟩;by_cases hk:kd<4
 ·rw[cj hk]
  refine aY ?_;intro l H2 s2 r2;obtain⟨a,xs,rfl,hx,hd⟩:=r2.lst_inv;have lx:=hd.length;refine⟨_,Z,bA Z,λt H3 n3=>?_⟩;refine⟨bA Z,λl2 H4 n4=>?_⟩;have eS:=n3.same.trans n4.same;refine⟨a,l2,xs,[.ref t],Z,Z,(hx.go MA).go eS,aF.of n4.at',by rw[lx];show 17<=sizeLine;decide,λq H5 n5=>?_⟩;have b2:aV p H H2:=b1.trans (.cW b1.aM s2);have nZ:=eS.trans n5.same;have b5:aV p H H5:=b2.trans (.cW b2.aM nZ);refine⟨_,Z,p,17,Z,b5.aM,au,au,λi H6 i0 i1 b6=>?_⟩;obtain⟨y,d,ey,ry,md⟩:=Ob bg b1 b2 nZ b6 hd n3 (n4.same.trans n5.same) i0 i1;exact .inl ⟨q,_,i,y,Z,Z,aF.of (b6.same _ _ (λz=>b2.aM.ne (by rw[<-z];exact eS.free n5.no)) n5.at'),cK i0 ey,k y d H6 ry ((O9 d md).le aI) (Oc d md) (b5.trans b6)⟩
 ·rw[cY hk]
  refine aQ ?_;refine⟨_,Z,.inl ⟨_,_,Z,Z,_,Z,?_⟩⟩;cases n with |zero=>refine aY ?_;intro l H2 s2 r2;obtain⟨a,xs,rfl,hx,hd⟩:=r2.lst_inv;have lx:=hd.length;refine⟨_,Z,bA Z,λt H3 n3=>?_⟩;refine⟨bA Z,λl2 H4 n4=>?_⟩;have eS:=n3.same.trans n4.same;refine⟨a,l2,xs,[.ref t],Z,Z,(hx.go MA).go eS,aF.of n4.at',by rw[lx];show 17<=sizeLine;decide,λq H5 n5=>?_⟩;have b2:aV p H H2:=b1.trans (.cW b1.aM s2);have nZ:=eS.trans n5.same;have b5:aV p H H5:=b2.trans (.cW b2.aM nZ);refine⟨_,Z,p,17,Z,b5.aM,au,au,λi H6 i0 i1 b6=>?_⟩;obtain⟨y,d,ey,ry,md⟩:=Ob bg b1 b2 nZ b6 hd n3 (n4.same.trans n5.same) i0 i1;exact .inl ⟨q,_,i,y,Z,Z,aF.of (b6.same _ _ (λz=>b2.aM.ne (by rw[<-z];exact eS.free n5.no)) n5.at'),cK i0 ey,k y d H6 ry ((O9 d md).le aI) (Oc d md) (b5.trans b6)⟩ |succ n=>
   rw[cY (show¬(((n+1:Nat):Int)=0) by omega)];refine aQ ?_;refine⟨_,Z,p,5,Z,b1.aM,au,au,λc H2 c0 c1 b2=>?_⟩;refine⟨_,Z,aI,aI,λD H3 n3=>?_⟩;have A7:=b1.trans b2;refine a1J (K:=K) (p:=p) (H:=H2) c.toNat _ n3 b2.aM aI (λi=>.int (0+(i:Int))) (λi H5 hi b5=>⟨hi,λy H6 ⟨e1,e2⟩=>⟨e1,e2⟩⟩) (λH5 b5=>ba _) (λd=>bU (n+1) d/\Gd d) ?_ ?_
   ·intro i H5 Q' hi b5 hq
    refine⟨_,Z,_,Z,_,_,Z,Z,p,?_,b5.aM,λv d H6 r6 o6 g6 b6=>hq v d H6 ⟨o6,g6⟩ r6 b6⟩;show[V.ref p,V.int ((n+1:Nat)-1)]=[V.ref p,V.int (n:Nat)];rw[show(((n+1:Nat):Int)-1)=(n:Int) by omega]
   intro H4 ys ds b4 d4 r4 lds Kl;have O4:=A7.trans b4;have r4':=aC.mono VG _ r4;have ly:=r4.length;have p8:sizeLine=16777216:=by decide
   refine⟨_,Z,_,Z,D,ys,Z,.inl ⟨aF.of d4,λt1 H5 n5=>?_⟩⟩;refine⟨bA Z,λt2 H6 n6=>?_⟩;have mG:=n5.same.trans n6.same;refine⟨_,Z,D,ys,Z,.inl ⟨aF.of (mG _ _ d4),λt3 H7 n7=>?_⟩⟩;refine⟨t2,t3,_,ys,Z,Z,aK.of (n7.same _ _ n6.at'),aK.of n7.at',(by show 1+ys.length<=sizeLine;omega),λt4 H8 s8 q4=>?_⟩;refine⟨bA Z,λl9 H9 n9=>?_⟩;refine⟨_,Z,_,_,Z,Z,?_⟩;have gJ:=mG.trans (n7.same.trans s8);have CW:=gJ.trans n9.same;have b9:aV p H H9:=O4.trans (.cW O4.aM CW);have rA:aC K (nl H H9) ys ds:=aC.mono ((vH (aV.free (A7.trans (.cW A7.aM n3.same)))).trans (DL CW)) _ r4;have dA:nl H H9 D=some (.lst ys):=gM.mpr ⟨CW _ _ d4,.inr (A7.free D n3.no)⟩;have r1:RD K (nl H H9) (.ref D) (.list ds):=sX (aF.of dA) rA;have r2:RD K (nl H H9) (.ref t1) (.tuple ds):=dC (DK (aK.of ((n6.same.trans (n7.same.trans (s8.trans n9.same))) _ _ n5.at'))) rA;have r3:RD K (nl H H9) (.ref t4) (.tuple (.str "step"::ds)):=dC (DK (q4.go n9.same)) (bK (cE _) rA);have oD:∀d∈ds,bU (n+1) d:=λd hd=>(Kl d hd).1;have gD:∀d∈ds,Gd d:=λd hd=>(Kl d hd).2;have g3:∀d∈PyData.str "step"::ds,Gd d:=λd hd=>by
    rcases dj.mp hd with rfl|hd
    ·exact .str _ aJ
    ·exact gD d hd
   have o3:bU (n+1) (.str "step"):=⟨aJ,dS _⟩;have ix:∀v,[V.ref D,.ref t1,.ref t4][(kd-4).toNat]? =some v->Q v H9:=λv ev=>by
    have:kd=4\/kd=5\/kd=6:=by omega
    rcases this with rfl|rfl|rfl
    ·cases ev;exact k _ _ H9 r1 (dQ.lst oD) (.lst _ aI gD) b9
    ·cases ev;exact k _ _ H9 r2 (dQ.tup oD) (.tup _ gD) b9
    ·cases ev;exact k _ _ H9 r3 (dQ.tup (.cons o3 oD)) (.tup _ g3) b9
   obtain⟨v,ev⟩:∃v,[V.ref D,.ref t1,.ref t4][(kd-4).toNat]? =some v:=⟨_,bw (show(kd-4).toNat<3 by omega)⟩;exact .inl ⟨l9,_,kd-4,v,Z,Z,aF.of n9.at',cK aI ev,ix v ev⟩
theorem yN{n:Nat}(F:FA K mg "_law_any" kc)(B:bB mg)(cA:ay P w K mg ao "_law_take" 1 ka)(p4:ay P w K mg ao "_law_any" (n+1) (sO K n)):ay P w K mg ao "_law_any" (n+2) (sO K (n+1)):=by
 refine F.has Bx (λvs H Q E h=>?_) (λ_ _ _ _ _ _=>dn λ_ _=>rfl) (λf aH A outer s H vs Q E hr h=>?_)
 ·obtain⟨p,rfl,_⟩:=h
  rfl
 ·obtain⟨p,rfl,bg,k⟩:=h
  rw[<-VW];exact a2E A9 hr (Tr K Z 4 A9 _ a2G) (λ_ _=>rfl) B cA p4 bg k
theorem Mt{d:af}(h:bU 7 d)(g:Gd d):gE d:=by
 have big:(10:Nat)^39<2^1900:=by decide+kernel
 have a2n:(10:Nat)^39<2^2400:=by decide+kernel
 refine⟨h,?_,?_,?_⟩
 ·cases g with
  |tup ds hd=>show ds.all lg=true;rw[fJ];intro x hx;cases hd x hx with |str s hs=>exact cj hs |_=>rfl
  |_=>rfl
 ·rintro a b t c rfl
  cases g with |tup ds hd=>cases hd (.int t) (by simp)with |int z hz=>exact nP hz a2n
 ·rintro a b c p q rfl
  cases g with |tup ds hd=>cases hd (.tuple [.int p,.int q]) (by simp)with |tup es he=>cases he (.int p) (by simp)with |int z hz=>cases he (.int q) (by simp)with |int z tM=>exact⟨nP hz big,nP tM big⟩
inductive a3N(K:a7)(vs:List V)(H:Hp)(Q:VK):Prop |mk (p:_)(tv:_)(es:_)(h0:vs=[.ref p,tv])(h1:eQ H p)(h2:RD K H tv (.list es))(h3:cg es=true)(h4:(∀e∈es,gE e))(h5:es.length<=10000)(h6:∀v gh H',RD K (nl H H') v (.list gh)->(∀e∈gh,gE e)->gh.length<=es.length+2->aV p H H'->Q v H')
def HR(K:a7):Sp:=λvs H Q _=>a3N K vs H Q
theorem IS:bo ["_law_bag_here","_law_tape","_law_found","_law_turn","_law_at"] ["_law_bag_here","_law_tape"] (aZ C1):=bE aJ
theorem Uz(F:FA K mg "_law_near" C1)(B:bB mg)(cA:ay P w K mg ao "_law_take" 1 ka)(p4:ay P w K mg ao "_law_any" 4 (sO K 3)):ay P w K mg ao "_law_near" 5 (HR K):=by
 refine F.has IS (λvs H Q E h=>?_) (λ_ _ _ _ _ _=>dn λ_ _=>rfl) (λf aH A outer s H vs Q E hr h=>?_)
 ·obtain⟨p,tv,es,rfl,_⟩:=h
  rfl
 ·obtain⟨p,tv,es,rfl,bg,rt,ns,hd,lz,k⟩:=h
  have nd:=IS.nd;refine⟨_,(aB (pS 2 nd (fj (x:="list") (zd K Z) Z (B.at "list") nN (ai (pv 1) aq))) (aB (fh eE Z (lA Z (B.at "range") (ai (aG cm aw (pf cA hr (ai (pv 0) (ai aw aq)))) aq)) (aX 3 nd) (aB (pS 4 nd (pf cA hr (ai (pv 0) (ai (aG cm (eH K B (ai (pv 2) aq)) aw) aq)))) (aD (eG (cI (ai (pf p4 hr (ai (pv 0) (ai aw aq))) aq)) (To (pv 2) (td (pv 4)) (td (aG cm (pv 4) (pf cA hr (ai (pv 0) (ai aw aq)))))))))) (aD (aU (pv 2))))),?_⟩;obtain⟨ta,xs,rfl,ht,da⟩:=rt.lst_inv;have lx:=da.length;have p8:sizeLine=16777216:=by decide
  refine⟨_,Z,ta,xs,Z,.inl ht,λl H1 n1=>?_⟩;have b1:aV p H H1:=.cW bg n1.same;have lp:l≠p:=λz=>bg.ne (by rw[<-z];exact n1.no);have lT:H1 l≠none:=by rw[n1.at'];exact λz=>nomatch z
  refine⟨_,Z,p,2,Z,b1.aM,au,au,λc H2 c0 c1 b2=>?_⟩;refine⟨_,_,Z,Z,_,Z,aI,aI,?_⟩;have eN:((1:Int)+c).toNat=c.toNat+1:=by omega
  have sT:cR H (nl H1 H1):=λc o n e=>gM.mpr ⟨n1.same _ _ e,.inl n⟩;have r1:aC K (nl H1 H1) xs es:=aC.t sT _ ns da;refine pe (Pv:=λi O H3=>aV p H H3/\(∀b,H3 b=none->H1 b=none)/\(∃ys gh,H3 l=some (.lst ys)/\aC K (nl H1 H3) ys gh/\(∀e∈gh,gE e)/\gh.length<=es.length+i)/\∃v1 v2,O=[some (.ref p),some (.ref ta),some (.ref l),v1,v2]) ?_ ?_ ?_
  ·exact⟨b1.trans b2,b2.free,⟨xs,es,b2.same _ _ lp n1.at',aC.mono (b2.vG b1.aM.ne b1.aM) _ r1,hd,ba _⟩,none,none,Z⟩
  ·rintro i O H3 hi ⟨b3,f3,⟨ys,gh,d3,r3,de,le⟩,v1,v2,rfl⟩
   have ly:=r3.length;refine⟨_,Z,_,Z,l,_,Z,.inl (aF.of d3),_,_,Z,Z,p,_,Z,b3.aM,aI,aI,λa H4 a0 a1 b4=>?_⟩;refine⟨_,Z,p,Z,b4.aM,λv d H5 r5 o5 g5 b5=>?_⟩;refine⟨bA Z,λq H6 n6=>?_⟩;have b6:aV p H4 H6:=b5.trans (.cW b5.aM n6.same);refine⟨_,Z,_,Z,_,Z,_,Z,_,Z,p,2,Z,b6.aM,au,au,λt H7 t0 t1 b7=>?_⟩;have b47:=b6.trans b7;have A6:=b4.trans b47;have d7:=A6.same _ _ lp d3;have Xm:q≠p:=λz=>b5.aM.ne (by rw[<-z];exact n6.no);have XF:l≠q:=λz=>by have:=(b4.trans b5).same _ _ lp d3;rw[z,n6.no]at this;cases this
   refine⟨_,_,Z,Z,_,Z,⟨l,q,ys,[v],a.toNat,a+t,Z,Z,d7,b7.same _ _ Xm n6.at',XF,by rw[Pl a0],Z,aI,aI,(by show ys.length+1<=sizeLine;omega),?_⟩⟩;have su:=KJ (o':=.lst (ys.take a.toNat++[v]++ys.drop (min (a+t).toNat ys.length))) lT d7;have Mp:=b1.aM.ne;have rv:RD K (nl H1 (L2.upd H7 l (.lst (ys.take a.toNat++[v]++ys.drop (min (a+t).toNat ys.length))))) v d:=RD.mono ((vH λb hb=>f3 b (b4.free b hb)).trans ((DL n6.same).trans ((b7.vG Mp b6.aM).trans su))) _ r5;have ry:=aC.mono ((A6.vG Mp b3.aM).trans su) _ r3;refine⟨?_,λb hb=>?_,⟨_,gh.take a.toNat++[d]++gh.drop (min (a+t).toNat ys.length),bX,((ry.take _).append (bK rv cf)).append (ry.drop _),λe he=>?_,?_⟩,_,_,Z⟩
   ·have O3:=b3.trans A6
    refine⟨?_,λb o n e=>?_⟩
    ·obtain⟨c,m,e,ok⟩:=O3.aM
     exact⟨c,m,by rw[bf lp.symm];exact e,ok⟩
    ·rw[bf (cC e n1.no)];exact O3.same b o n e
   ·by_cases oY:b=l
    ·subst oY;rw[bX]at hb;cases hb
    ·rw[bf oY]at hb
     exact f3 b (A6.free b hb)
   ·rcases jC.mp he with he|he
    ·rcases jC.mp he with he|he
     ·exact de e (xE he)
     ·rw[mz.mp he];exact Mt (o5.le au) g5
    ·exact de e (List.mem_of_mem_drop he)
   ·rw[cD,cD,kW,si,List.length_singleton]
    omega
  ·rintro O H3 ⟨b3,f3,⟨ys,gh,d3,r3,de,le⟩,v1,v2,rfl⟩
   refine⟨_,Z,k _ gh H3 (sX (aF.of (gM.mpr ⟨d3,.inr n1.no⟩)) (aC.mono (vH b1.free) _ r3)) de aI b3⟩
theorem zP{r f j ti rate:Int}{ds:List af}{os:List Itm}{i:Nat}{ns:List Int}{sp:Int}(h:os[i]? =some (some (ns,sp))):pq r f j ti rate ds os i=lL r f ti ns (topR rate sp) (iO r f j rate os i) (iO r f j rate os (i+1)):=by unfold pq;rw[h]
theorem zO{r f j ti rate:Int}{ds:List af}{os:List Itm}{i:Nat}{d:af}(h:os[i]? =some none)(hd:ds[i]? =some d):pq r f j ti rate ds os i=[d]:=by unfold pq;rw[h,uD,hd];rfl
theorem AZ{n:Nat}{r f j ti rate:Int}{ds:List af}{os:List Itm}(row:cn n ds os):∀i,i<=os.length->cg (kZ r f j ti rate ds os i)=true
 |0,_=>rfl |i+1,h=>by
  have ll:=row.len;refine cP.mpr λd hd=>?_;rcases jC.mp hd with h1|h1
  ·exact cP.mp (AZ row i ak) d h1
  ·obtain⟨o,eo⟩:∃o,os[i]? =some o:=⟨_,bw (show i<os.length by lia)⟩
   cases o with |none=>obtain⟨d',ed⟩:∃d',ds[i]? =some d':=⟨_,bw (show i<ds.length by lia)⟩;rw[zO eo ed,mz]at h1;subst h1;exact cP.mp row.no _ (fO ed) |some q=>obtain⟨ns,sp⟩:=q;rw[zP eo]at h1;exact cP.mp (E9 _ _ _ _ _ _ _) d h1
theorem B0{n:Nat}{r f j ti rate:Int}{ds:List af}{os:List Itm}(row:cn n ds os):∀i,i<=os.length->(kZ r f j ti rate ds os i).length<=100*i |0,_=>ba _ |i+1,h=>by have ll:=row.len;have ih:=B0 (r:=r) (f:=f) (j:=j) (ti:=ti) (rate:=rate) row i ak;show(kZ r f j ti rate ds os i++pq r f j ti rate ds os i).length<=_;rw[cD];obtain⟨o,eo⟩:∃o,os[i]? =some o:=⟨_,bw (show i<os.length by lia)⟩;cases o with
 |none=>
  obtain⟨d',ed⟩:∃d',ds[i]? =some d':=⟨_,bw (show i<ds.length by lia)⟩;rw[zO eo ed];show _+1<=_
  lia |some q=>
  obtain⟨ns,sp⟩:=q;obtain⟨bW,_,_⟩:=row.ok i ns sp eo;have:=lN bW;rw[zP eo,lL,bu,gF]
  lia
inductive a3v(K:a7)(vs:List V)(H:Hp)(Q:VK):Prop |mk (m:_)(iv:_)(rate:_)(rs:_)(r:_)(f:_)(j:_)(t:_)(ds:_)(os:_)(h0:vs=[m,iv,.int rate])(h1:RD K H m (dZ rs r f j t))(h2:fb rs r f j t)(h3:RD K H iv (.tuple ds))(h4:cn rs.length ds os)(h5:ds.length<=30)(h6:10<=rate)(h7:rate<=200)(h8:∀l ys H',H l=none->H' l=some (.lst ys)->aC K H' ys (kZ r f j t rate ds os os.length)->aA H H'->Q (.ref l) H')
def Bb(K:a7):Sp:=λvs H Q _=>a3v K vs H Q
theorem Kf{rs:List Int}{r f j t rate:Int}{ds:List af}{os:List Itm}(aP:fb rs r f j t)(row:cn rs.length ds os)(hz:ds.length<=30)(bP:10<=rate)(bR:rate<=200):∀i,i<=os.length->Bd 1700 (iO r f j rate os i):=λi hi=>by have ll:=row.len;have hB:=Ow.DB aP.j1.1 aP.j1.2 bP bR row.oy;have hL:∀i m,leadF os i=some m->(2*r*(m:Int)).natAbs<2^24:=λi m e=>uJ aP.r1.1 aP.r1.2 (vR row.oy e);have qR:∀i m,leadF os i=some m->(2*f*(m:Int)).natAbs<2^24:=λi m e=>uJ aP.f1.1 aP.f1.2 (vR row.oy e);exact(MG (b:=900) (λi hi=>(Ad hB hL i).mono ak) qR i hi).mono ak
theorem Iw:bo ["machine","items","rate","plan","tape","i","item","squares"] ["machine","items","rate"] (aZ BJ):=bE aJ
theorem Uh(F:FA K mg "tape_of" BJ)(B:bB mg)(Xp:ay P w K mg ao "plan_of" 9 (Bg K))(jP:ay P w K mg ao "is_line" 1 (nY K))(XC:ay P w K mg ao "middles" 5 (Bi K))(Eo:ay P w K mg ao "step_rows" 3 (yc K))(Xf:ay P w K mg ao "step_entry" 3 (Bq K)):ay P w K mg ao "tape_of" 10 (Bb K):=by
 refine F.has Iw (λvs H Q E h=>?_) (λ_ _ _ _ _ _=>j4 λ_ _ _=>rfl) (λfa aH A outer s H vs Q E hr h=>?_)
 ·obtain⟨m,iv,rate,rs,r,f,j,t,ds,os,rfl,_⟩:=h
  rfl
 ·obtain⟨m,iv,rate,rs,r,f,j,t,ds,os,rfl,rm,aP,ri,row,hz,bP,bR,k⟩:=h
  have nd:=Iw.nd;refine⟨_,(aB (pS 3 nd (pf Xp hr (ai (pv 0) (ai (pv 1) (ai (pv 2) aq))))) (aB (pS 4 nd (cI aq)) (aB (fh eE Z (tj K Z false Z (B.at "enumerate") (ai (pv 1) aq)) (cV K rfl (n:=2) rfl (bF (aX 5 nd) (bF (aX 6 nd) cU))) (aD (bD (bZ (pf jP hr (ai (pv 6) aq))) (aB (pS 7 nd (pf XC hr (ai (pv 0) (ai (pv 6) (ai (px K (pv 3) (pv 5)) (ai (px K (pv 3) (aG cm (pv 5) aw)) (ai (pv 2) aq))))))) (aD (fU (yJ K Z (pv 4) (ai (fV (N:=["row","square","machine"]) (js:=[none,none,some 0]) Z Z Z (mP K Z true true Z (B.at "zip") (ai (pf Eo hr (ai (pv 6) aq)) (ai (pv 7) aq))) (λ_ _ _ _ _=>(cV K rfl (n:=2) rfl (bF (aX 0 (show List.Nodup (["row","square","machine"]:List Str) by decide+kernel)) (bF (aX 1 (show List.Nodup (["row","square","machine"]:List Str) by decide+kernel)) cU)))) (λ_ _ _ _ _=>f6) (λ_ _ _ _ _=>(pf Xf hr (ai (pv 2) (ai (pv 0) (ai (pv 1) aq)))))) aq))))) (aD (fU (gY K Z (pv 4) (ai (pv 6) aq))))))) (aD (aU (pv 4)))))),?_⟩;have ll:=row.len;have lr:=aP.len;have jd:=aP.r1;have jt:=aP.f1;have PB:=Kf aP row hz bP bR;have PN:∀i,i<=os.length->0<=iO r f j rate os i:=Ke aI aI (λi _=>Ow.Kr j rate os i);refine⟨_,Z,_,Z,_,Z,m,iv,rate,rs,r,f,j,t,ds,os,Z,rm,aP,ri,row,hz,bP,bR,λl1 y1 H1 KL zW vn s1=>?_⟩;have za:=vn.length;rw[bu,Td]at za;refine⟨bA Z,λD H2 n2=>?_⟩;have nD:H D=none:=by cases e:H D with |none=>rfl |some o=>have:=s1 _ _ e;rw[n2.no]at this;cases this
  obtain⟨ia,xs,rfl,hi,da⟩:=ri.bT;have lx:=da.length;refine⟨_,Z,ia,Z,⟨_,hi.go (s1.trans n2.same)⟩,u6 (K:=K) (b:=false) (a:=ia) (xs:=xs) (λi O H3=>aA H1 H3/\∃zs v1 v2 v3,H3 D=some (.lst zs)/\aC K H3 zs (kZ r f j t rate ds os i)/\O=[some m,some (.ref ia),some (.int rate),some (.ref l1),some (.ref D),v1,v2,v3]) ⟨n2.same,[],none,none,none,n2.at',cf,Z⟩ (λi O H3 _ h=>hi.go (s1.trans h.1)) ?_ ?_⟩
  ·rintro i y O H3 hy ⟨s3,zs,v1,v2,v3,dz,rz,rfl⟩ T H4 n4
   have tN:i<xs.length:=(cy.mp hy).1;obtain⟨d,ed,rd⟩:=da.get' i hy;obtain⟨o,eo,it⟩:=row.get ed;have jK:=s3.trans n4.same;have s4:=s1.trans jK;have gR:=n4.same _ _ dz;have qi:=aC.mono n4.same _ rz;have oh:=RD.mono s4 _ rd;have tn:=AZ (r:=r) (f:=f) (j:=j) (ti:=t) (rate:=rate) row i aI;have tl:=B0 (r:=r) (f:=f) (j:=j) (ti:=t) (rate:=rate) row i aI;have lz:=rz.length;have p8:sizeLine=16777216:=by decide
   refine⟨T,_,Z,aK.of n4.at',Z,_,_,Z,_,_,Z,Z,?_⟩;refine⟨_,Z,y,d,o,Z,oh,it,_,Z,?_⟩;cases o with
   |none=>
    refine aQ ?_;refine⟨_,Z,.inl ⟨Z,_,aF.of gR⟩,_,Z,D,zs,_,Z,Z,gR,aI,?_⟩;refine⟨λb o e=>?_,_,_,_,_,bX,?_,Z⟩
    ·rw[bf (cC e n2.no)];exact jK b o e
    ·show aC K _ _ (kZ r f j t rate ds os i++pq r f j t rate ds os i)
     rw[zO eo ed];exact aC.qg gR qi oh tn it.no |some q=>
    obtain⟨ns,sp⟩:=q;refine aY ?_;have jv:=jm it;subst jv;obtain⟨bW,cL,cZ⟩:=row.ok i ns sp eo;have ko:=lN bW;have jw:=jK _ _ zW;have Sj:=aC.mono jK _ vn;obtain⟨z0,iX⟩:∃z,y1[i]? =some z:=⟨_,bw (show i<y1.length by omega)⟩;obtain⟨z1,pg⟩:∃z,y1[i+1]? =some z:=⟨_,bw (show i+1<y1.length by omega)⟩;have pC:((i:Int)+1).toNat=i+1:=by omega
    have iZ:dI y1 (i:Int)=some z0:=cK aI (by simpa using iX);have ml:dI y1 ((i:Int)+1)=some z1:=cK aI (by rw[pC];exact pg);have rat:∀(c:Nat)(u:V),c<=os.length->y1[c]? =some u->bj K H4 u (iO r f j rate os c):=by intro c u hc e;obtain⟨d1,e1,r1⟩:=Sj.get' c e;rw[bN]at e1;have e2:(Dw r f j rate os)[c]? =some (iO r f j rate os c):=mW _ hc;rw[e2]at e1;cases e1;exact fS r1
    have R0:=rat i z0 aI iX;have R1:=rat (i+1) z1 aI pg;have P0:=PN i aI;have P1:=PN (i+1) aI;refine⟨_,Z,_,Z,_,Z,_,Z,.inl ⟨l1,_,_,_,Z,Z,aF.of jw,iZ,?_⟩⟩;refine⟨_,Z,_,Z,_,_,Z,Z,.inl ⟨l1,_,_,_,Z,Z,aF.of jw,ml,?_⟩⟩;refine⟨_,Z,m,y,z0,z1,rate,rs,r,f,j,t,ns,sp,_,_,Z,RD.mono s4 _ rm,aP,oh,bW,cL,cZ,R0,R1,(PB i aI).mono au,(PB (i+1) aI).mono au,bP,bR,λl2 y2 H5 VJ dl2 yx s5=>?_⟩;have zT:=s5 _ _ gR;refine⟨_,Z,.inl ⟨Z,_,aF.of zT⟩,?_⟩;refine⟨_,Z,y,ns,sp,Z,RD.mono s5 _ oh,⟨Z,λz hz=>by have:=bW.bd z hz;omega,bW.nz⟩,by rw[bW.len];omega,λl3 y3 H6 yT pF o9 s6=>?_⟩;have Ni:=s6 _ _ dl2;have Sk:=aC.mono s6 _ yx;have W3:=yx.length;rw[bu,DU,bu,gF]at W3;have qy:=o9.length;rw[gK,bu,gF]at qy;refine⟨_,Z,l3,l2,Z,⟨_,aF.of pF⟩,⟨_,aF.of Ni⟩,λD2 H7 n7=>?_⟩;have mG:=s5.trans s6;refine ug (K:=K) (b1:=true) (b2:=true) (xs:=y3) (ys:=y2) (ds:=lL r f t ns (topR rate sp) (iO r f j rate os i) (iO r f j rate os (i+1))) _ Z (aF.of pF) (aF.of Ni) n7 (by rw[lL,bu,gF];omega) (by rw[lL,bu,gF];omega) (E9 _ _ _ _ _ _ _) ?_ ?_
    ·intro q x y' dd H8 Q' ex ey pA s8 hq
     have hW:q<aE ns:=by have:=(cy.mp ex).1;omega
     obtain⟨d3,e3,r3⟩:=o9.get' q ex;obtain⟨d2,e2,r2⟩:=Sk.get' q ey;rw[gK,bN,jV hW]at e3;cases e3;rw[DU,bN,bN,jV hW]at e2;cases e2;rw[lL,bN,jV hW]at pA;cases pA;have wj:=D8 jd.1 jd.2 hW ko;have oY:=Fb jt.1 jt.2 hW ko;have bm:Bd 2000 (qx r f (aE ns) (topR rate sp) (iO r f j rate os i) (iO r f j rate os (i+1)) q):=lJ (lJ ((i5 (PB i aI) (by rw[gq];omega)).mono au) ((Ow.jG cL cZ bP bR).mono au)) ((i5 (PB (i+1) aI) (by rw[gq];omega)).mono au);refine⟨_,Z,_,Z,_,Z,m,x,y',rs,r,f,j,t,fK ns q,_,Z,RD.mono (s4.trans (mG.trans s8)) _ rm,aP,RD.mono s8 _ r3,fS (RD.mono s8 _ r2),bm,Lc jd.1 jt.1 hW (Hc cL bP) P0 P1,λv H9 rv s9=>hq v H9 s9 rv⟩
    ·intro H8 z8 s8 d8 r8
     have gJ:=mG.trans s8;have pD:=gJ _ _ gR;have l8:=r8.length;rw[lL,bu,gF]at l8;refine⟨D,D2,zs,z8,Z,Z,pD,d8,aI,?_⟩;have tu:cR H8 (L2.upd H8 D (.lst (zs++z8))):=.fw pD;refine⟨λb o e=>?_,_,_,_,_,bX,?_,Z⟩
     ·rw[bf (cC e n2.no)];exact gJ b o (jK b o e)
     ·show aC K _ _ (kZ r f j t rate ds os i++pq r f j t rate ds os i)
      rw[zP eo];exact(aC.t tu _ tn (aC.mono gJ _ qi)).append (aC.t tu _ (E9 _ _ _ _ _ _ _) r8)
  ·rintro O H3 ⟨s3,zs,v1,v2,v3,dz,rz,rfl⟩
   have e:xs.length=os.length:=by omega
   rw[e]at rz;exact⟨_,Z,k D zs H3 nD dz rz (s1.trans s3)⟩
end
end Lw
set_option maxHeartbeats 4000000
namespace Lw
open PySem PySem.Spec PyProof.Rows L2 Rt Ln Cn Pn
open Ow (topR cornO mnO betR atO ownF leadF ownL OkI OkIs)
section
variable {w:World} {mg:bI} {ao:Heap}
theorem TL{d:af}(o:fY d):gE d:=by
 obtain⟨_,_,i3⟩:=xm.is (n:=0) (d:=d) (o:=none) ⟨o.it,(λ_ _ z=>nomatch z),λ_=>o⟩;rcases o with⟨n,rfl,_,_⟩|⟨wd,z,rfl,hw,ok,_⟩
 ·exact⟨(dQ.tup (n:=0) (.cons ⟨aJ,dS _⟩ (.cons (.int _) .nil))).le au,i3,λa b t c e=>by simp at e,λa b c p q e=>by simp at e⟩
 ·refine⟨(dQ.tup (n:=0) (.cons ?_ (.cons ok .nil))).le au,i3,λa b t c e=>by simp at e,λa b c p q e=>by simp at e⟩
  rcases hw with rfl|rfl<;>exact⟨aJ,dS _⟩
theorem QX{ti:Int}{zs:List Int}{q:Rat}(h1:1<=ti)(h2:ti<=100)(q0:0<q)(bq:Bd 1900 q):gE (jZ ti zs q):=by
 refine⟨(dQ.tup (n:=1) (.cons (⟨aJ,dS _⟩:bU 1 (.str "step")) (.cons (yq zs) (.cons (.int _) (.cons (yA q) .nil))))).le au,?_,λa b t c e=>?_,λa b c p q' e=>?_⟩
 ·show[PyData.str "step",fg zs,.int (kY ti q),bL q].all lg=true
  simp only[AM,List.all_nil,Bool.and_true,eF];exact⟨aJ,Z,Z,Z⟩
 ·unfold jZ at e
  injection e with e;injection e with _ e;injection e with _ e;injection e with e _;injection e with e;rw[<-e];exact(xV h1 h2 q0 (bq.mono au)).2.1
 ·unfold jZ bL at e
  injection e with e;injection e with _ e;injection e with _ e;injection e with _ e;injection e with e _;injection e with e;injection e with e1 e;injection e with e2 _;injection e1 with e1;injection e2 with e2;subst e1 e2;exact⟨bq.num,by rw[AN];exact bq.den⟩
theorem Hg{rs:List Int}{r f j t rate:Int}{ds:List af}{os:List Itm}(aP:fb rs r f j t)(row:cn rs.length ds os)(fy:RowW ds os)(hz:ds.length<=30)(bP:10<=rate)(bR:rate<=200):∀i,i<=os.length->∀e∈kZ r f j t rate ds os i,gE e
 |0,_=>λe he=>(fq he).elim |i+1,h=>λe he=>by
  have ll:=row.len;rcases jC.mp he with h1|h1
  ·exact Hg aP row fy hz bP bR i aI e h1
  ·obtain⟨o,eo⟩:∃o,os[i]? =some o:=⟨_,bw (show i<os.length by omega)⟩
   cases o with |none=>obtain⟨d',ed⟩:∃d',ds[i]? =some d':=⟨_,bw (show i<ds.length by omega)⟩;rw[zO eo ed,mz]at h1;subst h1;exact TL (fy i _ eo ed) |some q=>obtain⟨ns,sp⟩:=q;obtain⟨bW,cL,cZ⟩:=row.ok i ns sp eo;have ko:=lN bW;have jd:=aP.r1;have jt:=aP.f1;have PB:=Kf aP row hz bP bR;have PN:∀i,i<=os.length->0<=iO r f j rate os i:=Ke aI aI (λi _=>Ow.Kr j rate os i);rw[zP eo,lL]at h1;obtain⟨c,hc,rfl⟩:=fu.mp h1;have hW:=Gy.mp hc;have wj:=D8 jd.1 jd.2 hW ko;have oY:=Fb jt.1 jt.2 hW ko;exact QX aP.t1.1 aP.t1.2 (Lc jd.1 jt.1 hW (Hc cL bP) (PN i aI) (PN (i+1) aI)) (lJ (lJ ((i5 (PB i aI) (by rw[gq];omega)).mono au) ((Ow.jG cL cZ bP bR).mono au)) ((i5 (PB (i+1) aI) (by rw[gq];omega)).mono au))
theorem Qf{rs:List Int}{r f j ti rate:Int}{ds:List af}{os:List Itm}{es:List af}(aP:fb rs r f j ti)(row:cn rs.length ds os)(fy:RowW ds os)(bP:10<=rate)(bR:rate<=200)(hd:∀e∈es,gE e)(hz:es.length<=1000000):∃sq fa,pK ti rate ds os es sq fa:=by
 have Fu:(cJ os os.length).length=(fo rate ds os os.length).length:=rh (rate:=rate) row _ (ba os.length);have ex:∀k e du,es[k]? =some e->(fo rate ds os os.length)[k]? =some du->∃p:Option Rat×Nat,fc ti du e p.1 p.2:=λk e du ee ed=>by
  have he:=hd e (fO ee);obtain⟨i,c,a⟩:=A8 (j:=j) (rate:=rate) row (show k<(cJ os os.length).length by rw[Fu];exact(cy.mp ed).1);rcases a.kind row with⟨eo,_,_,d,zR,_,iy⟩|⟨ns,sp,eo,_,_,iy⟩
  ·rw[ed]at iy
   injection iy with iy;subst iy;obtain⟨y,h⟩:=a1g ti (fy i du eo zR) he;exact⟨(none,y),h⟩
  ·rw[ed]at iy
   cases iy;obtain⟨bW,cL,cZ⟩:=row.ok i ns sp eo;obtain⟨s,y,h⟩:=a1f ti (zs:=fK ns c) (top:=topR rate sp) ((Ow.jG cL cZ bP bR).mono au) (by unfold fK;rw[bu,bW.len];have:=aP.len;omega) he;exact⟨(s,y),h⟩
 have cl:∀k:Nat,∃p:Option Rat×Nat,(∀(e du:af),es[k]? =some e->(fo rate ds os os.length)[k]? =some du->fc ti du e p.1 p.2)/\(es[k]? =none->p=(none,0)):=λk=>by cases ee:es[k]? with |none=>exact⟨(none,0),(λe du h=>nomatch h),(λ_=>rfl)⟩ |some e=>cases ed:(fo rate ds os os.length)[k]? with |none=>exact⟨(none,0),(λe du _ h=>nomatch h),(λh=>nomatch h)⟩ |some du=>obtain⟨p,hp⟩:=ex k e du ee ed;exact⟨p,(λe' du' h1 h2=>by cases h1;cases h2;exact hp),(λh=>nomatch h)⟩
 obtain⟨g,hg⟩:=Classical.skolem.mp cl;have hn:=(hg es.length).2 (j7 (ba _));exact⟨λk=>(g k).1,λk=>(g k).2,λk e du ee ed=>(hg k).1 e du ee ed,by show(g es.length).1=none;rw[hn],by show(g es.length).2=0;rw[hn],hz⟩
def xf(d:af):Prop:=bU 8 d/\∀es,d= .list es->(∀e∈es,gE e)/\es.length<=1000000
theorem Wn{rs:List Int}{r f j ti rate:Int}{ds:List af}{os:List Itm}{D:af}(aP:fb rs r f j ti)(row:cn rs.length ds os)(fy:RowW ds os)(bP:10<=rate)(bR:rate<=200)(h:xf D):∃res,Ai r f j ti rate ds os D res:=by
 rcases E2 D with⟨es,rfl⟩|⟨hl,_⟩
 ·obtain⟨h1,h2⟩:=h.2 es rfl
  obtain⟨sq,fa,tp⟩:=Qf (j:=j) aP row fy bP bR h1 h2;obtain⟨res,lk⟩:=Lq (f7 r f (df j rate os) (cH rate ds os) es.length sq fa) (min es.length (cH rate ds os));exact⟨res,.inl ⟨es,sq,fa,Z,tp,lk⟩⟩
 ·exact⟨some (0,1),.inr ⟨hl,Z⟩⟩
theorem He{n:Nat}{d:af}(hn:n<=7)(o:bU (n+1) d)(g:Gd d):xf d:=by refine⟨o.le aI,?_⟩;rintro es rfl;cases g with |lst ds hz hd=>exact⟨λe he=>Mt ((o.lst_inv e he).le hn) (hd e he),aI⟩
theorem AY{es:List af}(h:∀e∈es,gE e)(hz:es.length<=1000000):xf (.list es):=⟨dQ.lst (n:=7) λe he=>(h e he).ok,λgh e=>by injection e with e;subst e;exact⟨h,hz⟩⟩
theorem Qi{es:List af}(h:∀e∈es,gE e):xf (.tuple es):=⟨dQ.tup (n:=7) λe he=>(h e he).ok,λgh e=>nomatch e⟩
theorem So(res:Option (Nat×Nat)):bU 1 (D9 res):=by cases res with |none=>exact⟨aJ,aJ⟩ |some p=>
 obtain⟨k,y⟩:=p;have hs:dQ 0 [.int (k:Nat),.int (y:Nat)]:=λd hd=>by simp only[dj,fq,kS]at hd;rcases hd with rfl|rfl<;>exact .int _
 exact hs.tup
theorem J9:bo ["_law_script","_law_k","_law_bag_here","_law_machine_here","_law_rate","_law_items_here","_law_tape","_law_things","_law_thing"] ["_law_script"] (aZ sR):=bE aJ
theorem UR{f:Addr}{fd:FuncData}(F:jU K "law" "law" sR f fd)(B:bB mg)(Zh:ay P w K mg ao "_law_bag" 1 (Ia K))(cA:ay P w K mg ao "_law_take" 1 ka)(Z7:ay P w K mg ao "_law_machine" 2 (HS K))(Z5:ay P w K mg ao "_law_place" 2 (HP K))(Zb:ay P w K mg ao "_law_items" 3 (Bm K))(Xd:ay P w K mg ao "tape_of" 10 (Bb K))(p4:ay P w K mg ao "_law_any" 5 (sO K 4))(Mn:ay P w K mg ao "_law_near" 5 (HR K))(Z9:ay P w K mg ao "_law_look" 6 (HV K))(Z8:ay P w K mg ao "_law_looked" 11 (HU K)):gT P w K mg ao gm 12 f fd ["_law_script"] (Bl K):=by
 refine F.ok J9 (λvs H Q E h=>?_) (λaH A outer s H vs Q E hr h=>?_)
 ·obtain⟨a,ns,rfl,_⟩:=h
  rfl
 ·obtain⟨a,ns,rfl,hS,hlen,k⟩:=h
  have nd:=J9.nd;refine⟨_,(aB (fh eE Z (lA Z (B.at "range") (ai (aG cm (dk (x:="min") (FG rfl) rfl (B.at "min") P5 (ai aw (ai (eH K B (ai (pv 0) aq)) aq))) aw) aq)) (aX 1 nd) (aB (pS 2 nd (pf Zh hr (ai (pv 0) (ai (pv 1) aq)))) (aB (pS 3 nd (pf Z7 hr (ai (pv 2) aq))) (aB (pS 4 nd (aG cm aw (pf cA hr (ai (pv 2) (ai aw aq))))) (aB (pS 5 nd (pf Zb hr (ai (pv 2) (ai (pv 3) (ai (pf Z5 hr (ai (pv 2) (ai (pv 3) aq))) (ai aw (ai aw aq))))))) (aB (pS 6 nd (pf Xd hr (ai (pv 3) (ai (pv 5) (ai (pv 4) aq))))) (aB (pS 7 nd (cI (ai (pf p4 hr (ai (pv 2) (ai aw aq))) (ai (pf p4 hr (ai (pv 2) (ai aw aq))) (ai (fj (x:="tuple") (j9 K Z) Z (B.at "tuple") fN (ai (pv 6) aq)) (ai (pf Mn hr (ai (pv 2) (ai (pv 6) aq))) (ai (pf Mn hr (ai (pv 2) (ai (pv 6) aq))) (ai (cI aq) aq)))))))) (aD (fh eE Z (oo K Z (pv 7)) (aX 8 nd) (aD (bD (bQ (iR K Z hr.units) (pf Z8 hr (ai (pv 3) (ai (pv 5) (ai (pv 4) (ai (pv 8) aq))))) (pf Z9 hr (ai (pv 3) (ai (pv 5) (ai (pv 4) (ai (pv 8) aq))))) (bC _)) (aD (aU iP)) bH))))))))))) (aD (aU iP))),?_⟩;refine⟨_,Z,a,_,Z,.inl hS,_,_,Z,_,_,Z,Z,_,Z,?_,?_,?_⟩
  ·split<;>lia
  ·split<;>(try rw[bu])<;>lia
  have hN:((if((ns.map V.int).length:Int)<6 then((ns.map V.int).length:Int)else 6)+1).toNat<=32:=by split<;>lia
  refine pe (Pv:=λi O H2=>aA H H2/\∃v1 v2 v3 v4 v5 v6 v7 v8,O=[some (.ref a),v1,v2,v3,v4,v5,v6,v7,v8]) ?_ ?_ ?_
  ·exact⟨aA.refl _,none,none,none,none,none,none,none,none,Z⟩
  ·rintro i O H2 hi ⟨s2,v1,v2,v3,v4,v5,v6,v7,v8,rfl⟩
   have hi8:i<32:=fH hi hN;refine⟨_,Z,_,Z,a,ns,_,Z,s2.seq hS,hlen,ak,ak,λp H3 np bg3 s3=>?_⟩;refine⟨_,Z,p,Z,bg3,λmv rs r f j ti H4 rm aP b4=>?_⟩;have nm:=Lf rs r f j ti;refine⟨_,Z,p,191,Z,b4.aM,au,au,λrt H5 r0 r1 b5=>?_⟩;refine⟨_,_,Z,Z,?_⟩;have yu:=RD.t (aV.t b4.aM b5) _ nm rm;refine⟨_,Z,_,Z,_,Z,_,Z,p,mv,rs,r,f,j,ti,Z,b5.aM,yu,aP,λjf pl H6 sV on b6=>?_⟩;have JW:=RD.t (aV.t b5.aM b6) _ nm yu;refine⟨p,mv,rs,r,f,j,ti,jf,pl,3,3,Z,b6.aM,JW,aP,sV,on,au,au,au,au,λiv ds os H7 ri row fy hl b7=>?_⟩;obtain⟨hl,vk⟩:=hl;have JV:=RD.t (aV.t b6.aM b7) _ nm JW;have VD:cQ (.tuple ds)=true:=by have:=row.no;simpa[cQ]using this
   have bP:10<=10+rt:=by lia
   have bR:10+rt<=200:=by lia
   have zj:ds.length<=30:=by lia
   refine⟨_,Z,_,Z,_,Z,mv,iv,10+rt,rs,r,f,j,ti,ds,os,Z,JV,aP,ri,row,zj,bP,bR,λl ys H8 VH zU JX s8=>?_⟩;have ll:=row.len;have dE:=Hg aP row fy zj bP bR os.length (ba _);have tn:=AZ (r:=r) (f:=f) (j:=j) (ti:=ti) (rate:=10+rt) row os.length (ba _);have tl:=B0 (r:=r) (f:=f) (j:=j) (ti:=ti) (rate:=10+rt) row os.length (ba _);generalize kZ r f j ti (10+rt) ds os os.length=es at JX dE tn tl;have b8:aV p H7 H8:=.cW b7.aM s8;have lp:l≠p:=λe=>b7.aM.ne (e▸VH);have keep:∀{v:V}{d:af}{Ha Hb:Hp},aV p Ha Hb->RD K (del Ha p) v d->RD K (del Hb p) v d:=λb r=>RD.mono b.sd _ r;have RR:∀{Ha:Hp},eQ Ha p->cR Ha (del Ha p):=λbg c o n e=>m9.mpr ⟨bg.KO e n,e⟩;have Se:RD K (del H8 p) (.ref l) (.list es):=sX (aF.of (m9.mpr ⟨lp,zU⟩)) (aC.t (RR b8.aM) _ tn JX);refine⟨_,Z,p,Z,b8.aM,λv1 d1 H9 Sa o1 g1 b9=>?_⟩;refine⟨_,Z,p,Z,b9.aM,λv2 d2 gC S9 o2 g2 mj=>?_⟩;have JQ:=keep (b9.trans mj) Se;obtain⟨la,xa,ea,ha,LS⟩:=(RD.mono rn _ JQ).lst_inv;cases ea;refine⟨_,Z,l,xa,Z,.inl ⟨ha,λt gB kj=>?_⟩⟩;have nF:aV p gC gB:=.cW mj.aM kj.same;have JP:=keep nF JQ;refine⟨_,Z,_,Z,p,.ref l,es,Z,nF.aM,RD.mono rn _ JP,tn,dE,ak,λv4 e4 pQ S8 de4 le4 kK=>?_⟩;have Sf:=keep kK JP;refine⟨_,Z,_,Z,p,.ref l,es,Z,kK.aM,RD.mono rn _ Sf,tn,dE,ak,λv5 e5 rQ S7 de5 le5 mi=>?_⟩;refine⟨bA Z,λl6 um mT=>?_⟩;have O2:aV p rQ um:=.cW mi.aM mT.same;refine⟨bA Z,λL pP yW=>?_⟩;have wW:aV p um pP:=.cW O2.aM yW.same;have iA:=O2.trans wW;have things:∀(j:Nat)(x:V),([v1,v2,.ref t,v4,v5,.ref l6]:List V)[j]? =some x->∃d,RD K pP x d/\xf d:=λj x e=>by match j,e with |0,e=>cases e;exact⟨_,RD.mono rn _ (keep (mj.trans (nF.trans (kK.trans (mi.trans iA)))) (RD.mono (yS b8.aM.ne b9.aM) _ Sa)),He au o1 g1⟩ |1,e=>cases e;exact⟨_,RD.mono rn _ (keep (nF.trans (kK.trans (mi.trans iA))) (RD.mono (yS b9.aM.ne mj.aM) _ S9)),He au o2 g2⟩ |2,e=>cases e;have tT:cR gB pP:=aV.t nF.aM (kK.trans (mi.trans iA));exact⟨.tuple es,RD.t tT _ (by simpa[cQ]using tn) (dC (aK.of kj.at') (aC.mono kj.same _ LS)),Qi dE⟩ |3,e=>cases e;exact⟨_,RD.mono rn _ (keep (mi.trans iA) (RD.mono (yS nF.aM.ne kK.aM) _ S8)),AY de4 ak⟩ |4,e=>cases e;exact⟨_,RD.mono rn _ (keep iA (RD.mono (yS kK.aM.ne mi.aM) _ S7)),AY de5 ak⟩ |5,e=>cases e;exact⟨_,sX (aF.of (yW.same _ _ mT.at')) cf,AY (λe he=>(fq he).elim) (dS _)⟩
   have NX:aV p H7 pP:=b8.trans (b9.trans (mj.trans (nF.trans (kK.trans (mi.trans iA)))));have Hn:=aV.t b7.aM NX;have JU:=RD.t Hn _ nm JV;have JZ:=RD.t Hn _ VD ri;have o8:aA H2 pP:=(b4.trans (b5.trans (b6.trans (b7.trans NX)))).RO s3 np;refine⟨_,Z,L,Z,⟨_,aF.of yW.at'⟩,zJ (K:=K) (a:=L) (xs:=[v1,v2,.ref t,v4,v5,.ref l6]) (λ_ O H'=>aA pP H'/\∃v8,O=[some (.ref a),some (.int (0+(i:Int))),some (.ref p),some mv,some (.int (10+rt)),some iv,some (.ref l),some (.ref L),v8]) ⟨aA.refl _,_,Z⟩ (λ_ O H' _ h=>aF.of (h.1 _ _ yW.at')) ?_ ?_⟩
   ·rintro jx x O Aj hx ⟨vh,v8,rfl⟩
    obtain⟨D,rD,th⟩:=things jx x hx;obtain⟨res,lk⟩:=Wn (j:=j) aP row fy bP bR th;refine⟨_,Z,_,Z,_,Z,_,Z,mv,iv,10+rt,x,rs,r,f,j,ti,ds,os,D,res,Z,RD.mono vh _ JU,aP,RD.mono vh _ JZ,row,zj,bP,bR,RD.mono vh _ rD,th.1,lk,λw1 H17 S1 vi=>?_⟩;have yo:=vh.trans S1;refine⟨_,Z,_,Z,_,Z,_,Z,mv,iv,10+rt,x,rs,r,f,j,ti,ds,os,D,res,Z,RD.mono yo _ JU,aP,RD.mono yo _ JZ,row,zj,bP,bR,RD.mono yo _ rD,lk,λw2 H18 JK S6=>?_⟩;have lG:=(So res).le (show 1<=8 by decide);refine .inr ⟨_,_,RD.mono JK _ vi,S6,gI lG,gI lG,_,Z,?_⟩;rw[eqv_refl _ lG.lay];exact aQ ⟨yo.trans JK,_,Z⟩
   ·rintro O H' ⟨s',v8,rfl⟩
    exact⟨s2.trans (o8.trans s'),_,_,_,_,_,_,_,_,Z⟩
  ·rintro O H2 ⟨s2,v1,v2,v3,v4,v5,v6,v7,v8,rfl⟩
   exact k _
end
end Lw
set_option maxHeartbeats 1000000
namespace Lw
open PySem PySem.Spec PyProof.Rows L2
theorem lY{K:a7}{mg:bI}{h:Heap}{x:Str}{c:Addr}(X:K.In h)(G:h.Ns mainGlobals mg)(a:PySem.W.nsIn K mainGlobals x=some (some (.ref c))):GV mg x (.ref c):=⟨_,uv X G a,Z⟩
theorem a15{K:a7}{mg:bI}{h:Heap}{x:Str}{c:Addr}{bm:List Value}{nw:String}(X:K.In h)(G:h.Ns mainGlobals mg)(a:PySem.W.nsIn K mainGlobals x=some (some (.ref c)))(q:PySem.W.excIn K c bm nw=true):Exc K mg x c bm nw:=⟨uv X G a,q⟩
theorem Hd{K:a7}{C:Addr}{f:Str}(h:PySem.W.findIn K (.ref C) f=some none):PySem.W.takerIn K C f=some none:=by unfold PySem.W.takerIn;rw[h];rfl
theorem a2K:xg K P:=by intro w mg ao f fd A F;have tk:ay P w K mg ao "_law_take" 1 ka:=Ui A.a0G A.B;have cd:ay P w K mg ao "common_divisor" 1 yf:=Vf A.a0z A.B;have lt:ay P w K mg ao "lowest_terms" 2 uY:=UG A.a0d A.B cd;have iw:ay P w K mg ao "is_whole" 1 (iL K):=US A.a0k A.B;have ww:ay P w K mg ao "is_whole_within" 2 (sJ K):=U8 A.a0j A.B iw;have fn:ay P w K mg ao "fraction" 3 (uX K):=V5 A.a0v A.B iw lt;have ld:ay P w K mg ao "lead_of" 1 (iK K):=UP A.a0g A.B;have ls:ay P w K mg ao "is_less" 1 (jJ K):=UN A.a0r A.B;have cp:ay P w K mg ao "corner_square" 6 (Bs K):=Vd A.a0y A.B (Ua A.a0u A.B (U9 A.ZY A.B ld fn) (UB A.a0b A.B lt) ls) fn;have WR:ay P w K mg ao "is_rate" 3 (Bf K):=UU A.a0o A.B A.ZC A.ZE ww;have tp:ay P w K mg ao "top_square" 4 (sL K):=Uc A.ZZ A.B WR fn;have tK:ay P w K mg ao "is_line" 1 (nY K):=UW A.a0q A.B;have lst:ay P w K mg ao "least" 2 (l7 K):=UO A.a0f A.B ls;have bet:ay P w K mg ao "bound_between" 7 (Bu K):=Vh A.a0C A.B A.zH tK tp cp lst;have own:ay P w K mg ao "own_bounds" 8 (yd K):=Uw A.a09 A.B A.zH bet;have pw:ay P w K mg ao "plus_whole" 4 (sM K):=Us A.a06 A.B;have pl:ay P w K mg ao "plan_of" 9 (Bg K):=Uu A.a08 A.B own (Ur A.a0h A.B tK ld pw lst) (V8 A.a0i A.B tK ld pw lst);have mid:ay P w K mg ao "middles" 5 (Bi K):=UD A.a0c A.B tp ld pw lst;have nr:ay P w K mg ao "nearest" 1 Bh:=UA A.a0a A.B;have R6:ay P w K mg ao "stand_at" 2 (Bc K):=Um A.a04 A.B ld nr;have sr:ay P w K mg ao "step_rows" 3 (yc K):=Uq A.a02 A.B ld R6;have ent:ay P w K mg ao "step_entry" 3 (Bq K):=V9 A.a03 A.B (Ug A.a00 A.B (Kz A.MK A.B));have Qm:ay P w K mg ao "tape_of" 10 (Bb K):=Uh A.a01 A.B pl tK mid sr ent;have ln:ay P w K mg ao "_law_line" 2 (Bk K):=UJ A.a0R A.B tk;have its:ay P w K mg ao "_law_items" 3 (Bm K):=UT A.a0U A.B tk (Ux A.a0L A.B tk) ln;have WL:ay P w K mg ao "is_item" 4 (Bn K):=UZ A.a0s A.B A.ZD ww (Vl A.a0D A.B A.Zx ww) (UX A.a0n A.B A.Zy A.Zv ww (UY A.a0p A.B A.Zz A.ZA));obtain⟨CN,fI,cG,c0,c1,c2,c3,c4,c5,c6,c7,c8,c9,EA⟩:=A.ex;have led:ay P w K mg ao "_law_lead" 1 (iK K):=UQ A.a0T A.B;have Wa:ay P w K mg ao "_law_rows" 3 (Be K):=Up A.a0J A.B led (Ul A.a0I A.B led);have zf:ay P w K mg ao "_law_frac" 1 (sN K):=V4 A.a0W A.B;have E7:ay P w K mg ao "_law_less" 1 (jJ K):=UM A.a0S A.B;have Lo:ay P w K mg ao "_law_min" 2 (l7 K):=UC A.a0N A.B E7;have W9:ay P w K mg ao "_law_sum" 2 (qe (·+·) K):=Uk A.a0H A.B zf;have E1:ay P w K mg ao "_law_top" 2 (uW K):=Ub A.a0E A.B zf;have vO:ay P w K mg ao "_law_number" 1 (iL K):=UI A.ML A.B;have alk:ay P w K mg ao "_law_alike" 4 (uZ Y3 K):=DF au A.zK A.B vO (DF au A.zK A.B vO (DF au A.zK A.B vO (Vk A.zK A.B)));have W7:ay P w K mg ao "_law_ticks" 1 (Ba K):=Ue A.a0F A.B;have Wu:ay P w K mg ao "_law_bounds" 3 (Bt K):=Vg A.a10 A.B led Lo E1 zf;have WZ:ay P w K mg ao "is_fraction" 2 (Bo K):=V3 A.a0t A.B iw cd;have aen:ay P w K mg ao "are_enough" 1 (ye K):=Kz A.MK A.B;have ZT:ay P w K mg ao "fault_of_entry" 5 (Bp K):=V7 A.a0w A.B A.Mw A.Zu A.ZF WL (Uj A.a0m A.B iw) (Ud A.a0l A.B A.zH iw WZ ls aen) ls;have Wj:xo P w K mg ao "look" 10 (Bj K CN):=UH A.a0e A.B EA.oc A.Mw A.Zw (Vc A.a0x A.B tK tp sr) (Vi A.a0B A.B own tK tp ld) ZT (Uo A.a05 A.B) (Ve A.a0A A.B A.zH pw ls);have vP:=UL A.a0P A.B EA Wj (Uy A.ML A.B);have efx:ay P w K mg ao "_law_entry_fault" 5 (Br K):=Va A.a0Y A.B alk vO (V0 A.a0V A.B vO zf) W7 E7 E1;have Wm:=UK A.a0Q A.B (Vb A.a0Z A.B Wa) Wu efx E1 (V6 A.a0X A.B W9 E7 Lo);have Oe:=yN A.wz A.B tk (yN A.wz A.B tk (yN A.wz A.B tk (Vm A.wz A.B)));exact UR F A.B (Vj A.a11 A.B) tk (UE A.a0O A.B tk) (Uv A.a0K A.B tk) its Qm (yN A.wz A.B tk Oe) (Uz A.a0M A.B tk Oe) Wm vP
theorem a2L{P:a9}{w:World}{K:a7}{mg:bI}{ao:Heap}{f:Addr}{fd:FuncData}(A:All K mg)(F:jU K "law" "law" sR f fd):gT P w K mg ao gm 12 f fd ["_law_script"] (Bl K):=Qj a2K K P w mg ao f fd A F
end Lw
def PySem.W.Fast.tw3841968706568389278:PySem.Program:=PySem.Challenge.pw_glidequeue_k50_any_thing_as_a_tape
theorem PySem.W.Fast.te3841968706568389278:PySem.Challenge.pw_glidequeue_k50_any_thing_as_a_tape=PySem.W.Fast.tw3841968706568389278:=rfl
local macro_rules|`(command|universe $x:ident)=>return Lean.mkNullNode (<-((x.getId.toString.splitOn "_").drop 1).toArray.mapM fun i=>`(command|theorem $(Lean.mkIdent (`_root_.PySem.W.Fast++Lean.Name.mkSimple s!"tw{(`PySem.Challenge.cw_glidequeue_k50_any_thing_as_a_tape_holds++Lean.Name.mkSimple ((match i.front with|'h'=>"heap"|'t'=>"tree"|'v'=>"view"|'s'=>"sts"|'e'=>"env"|_=>"o")++"_"++(i.drop 1).toString)).hash}")):ident:True:=True.intro))
universe t_h710_h39_t660_t585_v39_t498_t709_t430_t363_t285_s586_o661_t234_s431_s661_o586_t219_s499_t182_o431_s286_t160_o499_o364_t145_t130_o690_o286_o688_o638_o636_o681_o486_o683_o484_o609_o709_o707_t108_o477_o597_s235_o479_o599_o529_o607_o453_o604_o669_o531_o439_o667_o451_o498_o235_o650_o444_t93_o695_o648_o220_o399_o489_o626_o624_o385_o602_o342_o676_o340_o693_o387_o585_o446_o674_o507_o404_o491_o519_o496_o505_o423_o379_o437_o397_o655_o411_o583_t78_o377_o421_o205_o653_o621_o700_o416_o183_o538_s364_o702_o536_o512_o619_o161_o414_o510_o660_o146_o658_o643_o131_o271_o337_o409_o517_o557_o449_o406_o269_o645_o109_o335_o356_o460_o278_o330_o94_o458_o354_o465_o332_o430_o294_o322_o79_o349_o363_o292_o428_o592_o276_o361_o545_o64_o614_o467_o543_o590_o559_o301_o679_o49_o580_o299_o306_o283_o327_o320_o595_o256_o474_t63_s161_o188_o325_o552_o482_o612_o472_o315_o564_o285_o308_o263_o672_o641_o177_o347_o578_o254_o705_o550_o313_o261_o631_o372_o566_o633_o175_o185_o370_s183_o375_o686
open PySem PySem.W PyProof.Rows
set_option maxRecDepth 100000 in
set_option maxHeartbeats 0 in
theorem PySem.Challenge.cw_glidequeue_k50_any_thing_as_a_tape_holds : PySem.Challenge.rw_glidequeue_k50_any_thing_as_a_tape.Holds := by
 w_on; o_law; k_head; (case hw=>w_witness2)
 k_fill
 refine L2.Wv (l:=PySem.Challenge.rw_glidequeue_k50_any_thing_as_a_tape) (k:=12) (x:="_law_script") (st:=Lw.sR) rfl rfl ⟨rfl,by decide,by decide⟩ (fun w h Y=>PySem.W.kIn_of Y) Lw.All ?F (fun _ _ A=>A.law) (fun _ _ _ _ _ _ _=>rfl) (fun _ _ _ _ _ _ _ A F=>Lw.a2L A F)
 case F=>
  intro w mg h KX G
  refine⟨L2.a2l KX G ?b,?x1,?x2,?x3,?x4,?x5,?x6,?x7,?x8,?x9,?x10,?x11,?x12,?x13,?x14,?x15,?x16,?x17,?x19,?x20,?x21,?x22,?x23,?x24,?x25,?x26,?x27,?x28,?x29,?x30,?x31,?x32,?x33,?x34,?x35,?x36,?x37,?x38,?x39,?x40,?x41,?x42,?x43,?x44,?x45,?x46,?x47,?x48,?x49,?x50,?x51,?x52,?x53,?x54,?x55,?x56,?x57,?x58,?x59,?x60,?x61,?x62,?x63,?x64,?x65,?x66,?x67,?x68,?x69,?x70,?x71,?x72,?x73,?x74,?x75,?x76,?x77,?x78,?x79,?x80,?x81,?x82,?x83,?x84,?x85⟩
  case b=>(unfold L2.A3; repeat (refine L2.pL.cons ?z ?_; (case z=>k_is))); exact L2.pL.nil
  case x1=>refine' L2.Mq KX G ?a ?l ?z ?r; (case a=>k_is); (case l=>k_is); (case z=>decide); (case r=>exact .cons ⟨_,rfl⟩ (.cons ⟨_,rfl⟩ .nil))
  case x2=>refine' L2.Mq KX G ?a ?l ?z ?r; (case a=>k_is); (case l=>k_is); (case z=>decide); (case r=>exact .cons ⟨_,rfl⟩ (.cons ⟨_,rfl⟩ .nil))
  case x3=>(refine' L2.lZ KX G ?z; (case z=>k_is))
  case x4=>(refine' L2.lZ KX G ?z; (case z=>k_is))
  case x5=>(refine' L2.lZ KX G ?z; (case z=>k_is))
  case x6=>(refine' L2.lZ KX G ?z; (case z=>k_is))
  case x7=>(refine' L2.lZ KX G ?z; (case z=>k_is))
  case x8=>(refine' L2.lZ KX G ?z; (case z=>k_is))
  case x9=>(refine' L2.lZ KX G ?z; (case z=>k_is))
  case x10=>(refine' L2.lZ KX G ?z; (case z=>k_is))
  case x11=>(refine' L2.lZ KX G ?z; (case z=>k_is))
  case x12=>(refine' L2.lZ KX G ?z; (case z=>k_is))
  case x13=>(refine' L2.Zq KX G ?z; (case z=>k_is))
  case x85=>
   refine' ⟨_,_,_,_,_,_,_,_,_,_,_,_,_,⟨L2.a1W KX G ?a1 ?q1,?i1,⟨?x1,?x2,Lw.Hd ?x3,?x4⟩,⟨?y1,?y2,Lw.Hd ?y3,?y4⟩,?f,_,L2.Mx ?l ?c ?kk⟩,Lw.a15 KX G ?a2 ?q2,?t,⟨?k1,?k2,?k3,?k4,?k5,?k6,?k7,?k8⟩,Lw.lY KX G ?h0,Lw.lY KX G ?h1,Lw.lY KX G ?h2,Lw.lY KX G ?h3,Lw.lY KX G ?h4,Lw.lY KX G ?h5,Lw.lY KX G ?h6,Lw.lY KX G ?h7,Lw.lY KX G ?h8,Lw.lY KX G ?h9,?any,?own,?ve,PySem.W.mg_none_of KX G ?v,?fat,?fwhy⟩
   case a1=>k_is
   case a2=>k_is
   case i1=>k_is
   case h0=>k_is
   case h1=>k_is
   case h2=>k_is
   case h3=>k_is
   case h4=>k_is
   case h5=>k_is
   case h6=>k_is
   case h7=>k_is
   case h8=>k_is
   case h9=>k_is
   case x1=>k_is
   case x3=>k_is
   case x4=>k_is
   case y1=>k_is
   case y3=>k_is
   case y4=>k_is
   case l=>k_is
   case c=>k_is
   case kk=>k_is
   case k1=>k_is
   case k2=>k_is
   case k3=>k_is
   case k4=>k_is
   case k5=>k_is
   case k6=>k_is
   case k7=>k_is
   case k8=>k_is
   case v=>k_is
   case fat=>k_is
   case fwhy=>k_is
   case q1=>kernel_rfl
   case x2=>kernel_rfl
   case y2=>kernel_rfl
   case f=>kernel_rfl
   case q2=>k_exc
   case t=>(show PySem.W.mroIn _ _ _=_; k_is)
   case any=>kit_is
   case own=>kit_is
   case ve=>kit_is
  all_goals (refine' L2.ZV KX G ?a ?l ?c ?k; (case a=>k_is); (case l=>k_is); (case c=>k_is); (case k=>k_is))
#print axioms PySem.Challenge.cw_glidequeue_k50_any_thing_as_a_tape_holds
