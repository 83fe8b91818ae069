import PyProof.Rows.All
import Wide.All
import OpenK.AllK
import Wide.FinOn
import Lean
import PyProof.EqAt
import PyProof.EqKinds
import PyProof.TupleCall
import PySem.Challenge.RW_glidequeue_k55_fed_at_a_desk
set_option Elab.async false
set_option linter.all false
set_option maxRecDepth 100000
abbrev bf:=PySem.Str->Option PySem.Value
theorem az{p:Prop}(h:p:=by decide):p:=h
theorem aJ{p:Prop}(h:p:=by decide+kernel):p:=h
theorem aw {p:Prop} (h:p:=by lia):p:=h
theorem bp{p:Prop}(h:p:=by omega):p:=h
theorem Z {α : Sort _} {a : α}:a=a:=rfl
abbrev aa:=PySem.W.Frag
abbrev ae:=PySem.Shared
abbrev af:=PySem.Program
abbrev ah:=PySem.PyData
abbrev ai:=PySem.Around
abbrev aD:=@PySem.wpAny_bind
abbrev aU:=@if_pos
abbrev aV:=@if_neg
abbrev bq:=@Nat.le_refl
abbrev bA:=@PySem.wpAny_pure
abbrev bD:=@List.length_map
abbrev bJ:=@List.getElem?_map
abbrev bN:=@PySem.Heap.lt_size
abbrev bQ:=@PySem.Heap.get?_push_of_some
abbrev bR:=@decide_eq_true
abbrev bS:=@List.mem_cons
abbrev cB:=@List.mem_map
abbrev cC:=@List.getElem?_eq_getElem
abbrev cH:=@PySem.intBits_le_64
abbrev cS:=@PySem.Heap.get?_push_size
abbrev cW:=@Option.some.inj
abbrev de:=@Bool.false_ne_true
abbrev dj:=@beq_iff_eq
abbrev dm:=@Bool.and_eq_true
abbrev dw:=@Nat.ne_of_lt
abbrev dG:=@List.size_toArray
abbrev dP:=@decide_eq_false
abbrev dQ:=@List.getElem?_eq_some_iff
abbrev dZ:=@PySem.strLen_append
abbrev e9:=@List.mem_singleton
abbrev eQ:=@Nat.zero_le
abbrev eR:=@List.not_mem_nil
abbrev f9:=@Nat.le_trans
abbrev fb:=@List.all_eq_true
abbrev fj:=@PyProof.Rows.boot_str
abbrev fk:=@Nat.lt_of_lt_of_le
abbrev fE:=@Int.pow_succ
abbrev fF:=@Int.le_refl
abbrev fO:=@PySem.wpAny_mono
abbrev fP:=@List.mem_of_getElem?
abbrev fW:=@List.length_cons
abbrev fX:=@Bool.true_and
abbrev fY:=@Bool.false_and
abbrev gC:=@PySem.wpAny_field
abbrev gD:=@PyProof.Rows.boot_tuple
abbrev gO:=@PySem.wpAny_holding
abbrev iy:=@Rat.le_refl
abbrev iz:=@Ne.symm
abbrev iA:=@List.mem_filterMap
abbrev iB:=@List.lookup_cons
abbrev iC:=@List.length_append
abbrev j4:=@List.mem_append_right
abbrev j6:=@Bool.eq_iff_iff
abbrev jw:=@PyProof.Rows.boot_isinstance
abbrev jK:=@or_false
abbrev jL:=@congrArg
abbrev jM:=@PySem.PassesOwn.never
abbrev jN:=@List.mem_append
abbrev kG:=@Rat.le_trans
abbrev lD:=@PySem.wpAny_truthy_bool
abbrev lE:=@of_decide_eq_true
abbrev lF:=@List.map_append
abbrev lG:=@List.append_nil
abbrev lH:=@Int.pow_zero
abbrev lI:=@Int.one_mul
abbrev mJ:=@PySem.wpAny_newObj_type
abbrev mK:=@PySem.IntMulOk.of_bits
abbrev mL:=@Int.emod_nonneg
abbrev mM:=@PySem.Heap.size_push
abbrev nU:=@Rat.not_lt
abbrev nV:=@PySem.W.mg_of
abbrev nW:=@PyProof.Rows.boot_abs
abbrev nX:=@Nat.lt_irrefl
abbrev nY:=@List.mem_iff_getElem?
abbrev nZ:=@List.getElem?_zip_eq_some
abbrev o8:=@Int.natAbs_mul
abbrev pX:=@PySem.wpAny_standAt
abbrev pY:=@PySem.wpAny_seqItems
abbrev pZ:=@PySem.wpAny_loadPart_at
abbrev qc:=@PySem.wpAny_call
abbrev qd:=@if_true
abbrev qe:=@List.of_mem_zip
abbrev qf:=@List.map_cons
abbrev qh:=@Int.mul_pos
abbrev qi:=@Int.emod_lt_of_pos
abbrev sx:=@PySem.wpAny_passesOwn
abbrev sy:=@PySem.call_meets
abbrev sA:=@PySem.W.hideAll_get
abbrev sC:=@PySem.W.Looks.here
abbrev sD:=@PySem.Str.cps_append
abbrev sE:=@PyProof.Rows.callWith_type1
abbrev sF:=@PyProof.Rows.boot_all
abbrev sG:=@List.mem_cons_of_mem
abbrev sH:=@List.length_take
abbrev sI:=@List.getElem?_eq_none
abbrev sJ:=@List.any_cons
abbrev sL:=@List.all_cons
abbrev sM:=@Array.toList_append
abbrev vq:=@PySem.wpAny_setField_rec
abbrev vt:=@PySem.wpAny_pyIter_list
abbrev vw:=@PySem.wpAny_of_eq
abbrev vx:=@PySem.wpAny_execs_nil
abbrev vy:=@PySem.wpAny_Call_Name_kw
abbrev vz:=@PySem.sizeLine_eq
abbrev vA:=@decide_eq_true_iff
abbrev vB:=@decide_eq_true_eq
abbrev vC:=@PySem.codeAny_mono
abbrev vD:=@beq_self_eq_true
abbrev vE:=@PySem.StrLaws.glued_eq_join
abbrev vF:=@Rat.num_divInt_den
abbrev vG:=@Rat.lt_iff
abbrev vI:=@Rat.le_antisymm
abbrev vJ:=@PySem.F.excBase_ValueError
abbrev vK:=@Option.map_eq_some_iff
abbrev vL:=@Nat.pow_le_pow_right
abbrev vM:=@Nat.ne_of_gt
abbrev vN:=@Nat.lt_trans
abbrev vO:=@List.take_succ
abbrev vP:=@List.map_map
abbrev vQ:=@List.length_pos_iff
abbrev vR:=@List.getElem_mem
abbrev vS:=@List.getElem?_append_left
abbrev vT:=@Int.mul_nonneg
abbrev vU:=@Int.mul_assoc
abbrev vV:=@PySem.Heap.get?_update_other
abbrev vW:=@Bool.eq_false_iff
abbrev vX:=@Bool.and_false
abbrev vY:=@Array.length_toList
abbrev zo:=@PySem.wpAny_setField
abbrev zp:=@PySem.wpAny_onRaise
abbrev zq:=@PySem.wpAny_call_entry
abbrev zr:=@PySem.wpAny_callSpecial?_slot
abbrev zt:=@PySem.wpAny_attempt
abbrev zu:=@PySem.W.looks_findIn
abbrev zv:=@PyProof.Rows.assignInOrder_cons
abbrev zw:=@Rat.num_intCast
abbrev zx:=@Rat.den_intCast
abbrev zy:=@PySem.mem_of_lookup
abbrev zA:=@PySem.W.callWith_K
abbrev zB:=@PySem.Obj.data_mapFields
abbrev zC:=@List.take_of_length_le
abbrev zD:=@List.take_length
abbrev zE:=@List.mem_of_mem_take
abbrev zF:=@List.map_set
abbrev zG:=@List.getElem_range
abbrev zH:=@List.getElem?_append_right
abbrev zI:=@PySem.Heap.get?_update_self
abbrev Fw:=@PySem.wpAny_pyIter_rangeiter
abbrev Fx:=@PySem.wpAny_isSubtype_exc
abbrev Fy:=@PySem.codeAny_call_builtin
abbrev Fz:=@beq_eq_false_iff_ne
abbrev FC:=@Rat.le_of_lt
abbrev FE:=@Rat.divInt_nonneg_iff_of_pos_right
abbrev FF:=@PySem.W.cellsFrom_some
abbrev FG:=@PySem.Str.append_assoc
abbrev FH:=@PySem.F.slot_zip_next
abbrev FJ:=@PySem.F.slot_tuple_iterator_next
abbrev FK:=@PySem.F.excAttr_ValueError
abbrev FL:=@PyProof.Rows.boot_max
abbrev FO:=@Nat.mul_le_mul
abbrev FP:=@Nat.lt_succ_of_lt
abbrev FQ:=@Nat.lt_of_le_of_lt
abbrev FR:=@List.nodup_cons
abbrev FT:=@List.mem_cons_self
abbrev FU:=@List.mem_append_left
abbrev FV:=@List.length_singleton
abbrev FW:=@List.length_set
abbrev FX:=@List.length_drop
abbrev FY:=@List.getElem?_set_self
abbrev G0:=@List.forIn_cons
abbrev G1:=@List.all_nil
abbrev G2:=@List.all_map
abbrev G3:=@Int.mul_ne_zero
abbrev G4:=@Bool.and_true
abbrev G5:=@Array.getElem?_eq_some_iff
abbrev OE:=@PySem.wpAny_updateSeq_pair
abbrev OF:=@PySem.wpAny_pyNext_range_end
abbrev OG:=@PySem.wpAny_newFunctionEnv_cells
abbrev OH:=@ne_true_of_eq_false
abbrev OI:=@PySem.codeAny_call_function
abbrev OJ:=@Rat.divInt_sub_divInt
abbrev OK:=@Rat.divInt_eq_divInt_iff
abbrev OL:=@PySem.W.plainGet_of
abbrev OM:=@PySem.W.of_hideAll
abbrev ON:=@PySem.W.looks_clsIn
abbrev OO:=@PySem.W.hideAll_none
abbrev OP:=@PySem.W.codeRec_of
abbrev OQ:=@PySem.W.any_some
abbrev OS:=@PySem.F.slot_tuple_add
abbrev OT:=@PySem.F.plainAttrs_str
abbrev OU:=@PySem.F.plainAttrs_list
abbrev OV:=@PySem.F.entry_tuple_add
abbrev OW:=@PySem.F.args_tuple_add_2
abbrev OX:=@PyProof.Rows.slot_tuple_getitem
abbrev OY:=@PyProof.Rows.boot_min
abbrev OZ:=@PyProof.Rows.boot_list
abbrev P0:=@PyProof.Rows.boot_any
abbrev P1:=@PySem.Obj.isFreed_of_fields
abbrev P2:=@Nat.mul_le_mul_right
abbrev P4:=@Nat.lt_succ_self
abbrev P5:=@Nat.le_of_ble_eq_true
abbrev P6:=@List.length_eq_zero_iff
abbrev P7:=@List.getLastD_eq_getLast?
abbrev P8:=@List.getLast?_eq_some_getLast
abbrev P9:=@List.getElem?_set_ne
abbrev Pa:=@List.filterMap_cons
abbrev Pb:=@List.ext_getElem?
abbrev Pc:=@List.contains_cons
abbrev Pe:=@List.any_eq_true
abbrev Pf:=@Int.toNat_natCast
abbrev Pg:=@Int.mul_nonneg_of_nonpos_of_nonpos
abbrev Ph:=@Int.fdiv_eq_ediv_of_nonneg
abbrev Pj:=@PySem.Heap.get?_push_cases
abbrev Pk:=@PySem.F.slot_range_reversed
abbrev Pl:=@PySem.Calls.evalArgs_plain
abbrev Pm:=@Bool.not_eq_true'
abbrev Po:=@Array.all_eq_true_iff_forall_mem
abbrev a6x:=@PySem.F.entry_tuple_iterator_next
abbrev a6y:=@PySem.F.args_tuple_iterator_next_1
namespace L2
open PySem PySem.Spec PyProof.Rows
abbrev Key:=Sum Int Str
def Lp:Key->Value->Bool | .inl k,v=>Value.isInt k v | .inr x,v=>Value.isStrOf x v
def Xz(w:World):Key->Int | .inl k=>hashInt k | .inr x=>hashStr w x
theorem m4:∀{k:Key}{v:Value},Lp k v=true->(∃i t,k=Sum.inl i/\v=Value.int i t)\/(∃x t,k=Sum.inr x/\v=Value.str x t) | .inl i,v,h=>by obtain⟨t,e⟩:=Value.isInt_shape (k:=i) (v:=v) h;exact .inl ⟨i,t,Z,e⟩ | .inr x,v,h=>by obtain⟨t,e⟩:=Value.isStrOf_shape (x:=x) (v:=v) h;exact .inr ⟨x,t,Z,e⟩
theorem Xy(a b:Int):decide ((Sum.inl a:Key)=Sum.inl b)=(a==b):=by
 by_cases e:a=b
 ·subst e;simp
 ·have h:¬(Sum.inl a:Key)=Sum.inl b:=λq=>e (Sum.inl.inj q)
  rw[dP h];exact(Fz.mpr e).symm
theorem Xv(a b:Str):decide ((Sum.inr a:Key)=Sum.inr b)=decide (a=b):=by
 by_cases e:a=b
 ·subst e;simp
 ·have h:¬(Sum.inr a:Key)=Sum.inr b:=λq=>e (Sum.inr.inj q)
  rw[dP h,dP e]
theorem Xx(a:Int)(b:Str):decide ((Sum.inl a:Key)=Sum.inr b)=false:=dP (λq=>nomatch q)
theorem Xw(a:Str)(b:Int):decide ((Sum.inr a:Key)=Sum.inl b)=false:=dP (λq=>nomatch q)
def CZ(prog:af)(w:World):PySem.KeyKind prog w Key where
 is:=Lp
 hash:=Xz w
 inj:=λv a b ha hb=>by
  rcases m4 ha with⟨i,t,rfl,rfl⟩|⟨x,t,rfl,rfl⟩
  ·rcases m4 hb with⟨j,u,rfl,e⟩|⟨y,u,rfl,e⟩
   ·injection e with e1 _;rw[e1]
   ·exact nomatch e
  ·rcases m4 hb with⟨j,u,rfl,e⟩|⟨y,u,rfl,e⟩
   ·exact nomatch e
   ·injection e with e1 _;rw[e1]
 byValue:=λk v h=>by rcases m4 h with⟨i,t,rfl,rfl⟩|⟨x,t,rfl,rfl⟩<;>rfl
 pyHash:=λhv h=>by
  rcases m4 hv with⟨i,t,rfl,rfl⟩|⟨x,t,rfl,rfl⟩
  ·exact wpAny_pyHash_int h
  ·exact wpAny_pyHash_str h
 eqBool:=λhu hv h=>by
  rcases m4 hu with⟨i,t,rfl,rfl⟩|⟨x,t,rfl,rfl⟩
  ·rcases m4 hv with⟨j,u,rfl,rfl⟩|⟨y,u,rfl,rfl⟩
   ·rw[Xy]at h;exact wpAny_eqBool_int h
   ·rw[Xx]at h;exact SeqAt.EqAt.int_str i t y u _ _ _ _ h
  ·rcases m4 hv with⟨j,u,rfl,rfl⟩|⟨y,u,rfl,rfl⟩
   ·rw[Xw]at h;exact SeqAt.EqAt.str_int x t j u _ _ _ _ h
   ·rw[Xv]at h;exact wpAny_eqBool_str h
 «strs»:=λk x t v h=>by
  rcases m4 h with⟨i,u,rfl,e⟩|⟨y,u,rfl,e⟩
  ·exact nomatch e
  ·injection e with e1 _
   subst e1;cases v<;>rfl
inductive V where |aZ|bl (b:Bool)|int (i:Int)|str (x:Str)|iV (b:Array UInt8)|yy (b:UInt64)|ref (a:Addr)|ty (n:String) deriving DecidableEq
def RelV:V->Value->Prop | .aZ,u=>u=Value.none | .bl b,u=>u=Value.bool b | .int i,u=>∃t,u=Value.int i t | .str x,u=>∃t,u=Value.str x t | .iV b,u=>∃t,u=Value.bytes b t | .yy b,u=>∃t,u=Value.float b t | .ref a,u=>u=Value.ref a | .ty n,u=>u=Value.type n
abbrev Vals:List V->List Value->Prop:=Paired RelV
theorem Vals.length{xs:List V}{us:List Value}(r:Vals xs us):xs.length=us.length:=Paired.length r
theorem Vals.get:∀{xs:List V}{us:List Value}{i:Nat}{x:V},Vals xs us->xs[i]? =some x->∃u,us[i]? =some u/\RelV x u |_,_,_,_,.nil,e=>by simp at e |_,_,0,_,.cons r _,e=>by simp at e;subst e;exact⟨_,rfl,r⟩ |_,_,i+1,x,.cons _ t,e=>by obtain⟨u,h1,h2⟩:=Vals.get (i:=i) (x:=x) t (by simpa using e);exact⟨u,by simpa using h1,h2⟩
theorem Vals.set{x:V}{u:Value}(r:RelV x u):∀{xs:List V}{us:List Value}(i:Nat),Vals xs us->Vals (xs.set i x) (us.set i u) |_,_,_,.nil=>.nil |_,_,0,.cons _ t=>.cons r t |_,_,i+1,.cons q t=>.cons q (Vals.set r i t)
theorem Vals.append:∀{xs ys:List V}{us ws:List Value},Vals xs us->Vals ys ws->Vals (xs++ys) (us++ws) |_,_,_,_,.nil,s=>s |_,_,_,_,.cons r t,s=>.cons r (Vals.append t s)
theorem Vals.take:∀{xs:List V}{us:List Value}(n:Nat),Vals xs us->Vals (xs.take n) (us.take n) |_,_,0,_=>.nil |_,_,_+1,.nil=>.nil |_,_,n+1,.cons r t=>.cons r (Vals.take n t)
theorem Vals.drop:∀{xs:List V}{us:List Value}(n:Nat),Vals xs us->Vals (xs.drop n) (us.drop n) |_,_,0,r=>r |_,_,_+1,.nil=>.nil |_,_,n+1,.cons _ t=>Vals.drop n t
def lC:Option V->Option Value->Prop |some v,some u=>RelV v u |none,none=>True |_,_=>False
def KV{κ:Type}:List (κ×V)->List (κ×Value)->Prop:=Paired λ(p:κ×V)(q:κ×Value)=>p.1=q.1/\RelV p.2 q.2
def kV:Key->V | .inl i=>.int i | .inr x=>.str x
inductive HO where /--a list -/ |lst (xs:List V) /--a tuple (never changes) -/ |tup (xs:List V) /--a dict Py keys are ints and texts; one Py keys are tuples of ints and texts (qk empty one is both) -/ |dK (cT:List (Key×V))|dT (cT:List (List Key×V)) /--a set of ints: its members,its size -/ |set (S:Int->Bool)(n:Nat) /--an instance of qk class at C,its dict at dx,its attributes -/ |ins (C dx:Addr)(fs:List (Str×V)) /--qk dict of qk instance at x -/ |own (x:Addr) /--qk dict of an exception -/ |xd (fs:List (Str×V)) /--a bound method,f of x -/ |met (f x:Addr) /--a range object lo,lo+1,.. below hi -/ |oF (lo hi:Int) /--a Qg a6E is known to qk object (qk a6Q; a dict while a loop walks it): read,never written while it is so -/ |ky (o:Obj)(u:HO) /--a code a6Y table -/ |lJ (ps:Array Value) /--any other Qg,by what is true of its one object (a def of a6X own: a7T a S n:=HO.ext λh=>..) -/ |ext (φ:Heap->Prop)
abbrev Hp:=Addr->Option HO
def upd(H:Hp)(a:Addr)(o:HO):Hp:=λb=>if b=a then some o else H b
theorem bV{H:Hp}{a:Addr}{o:HO}:upd H a o a=some o:=by unfold upd;rw[aU rfl]
theorem bj{H:Hp}{a b:Addr}{o:HO}(h:b≠a):upd H a o b=H b:=by unfold upd;rw[aV h]
theorem nc{H:Hp}{a b:Addr}{o u:HO}(h:H a=some o)(h':H b=some u)(d:o≠u):a≠b:=by intro e;subst e;rw[h]at h';exact d (cW h')
theorem ft{H:Hp}{a b:Addr}{o:HO}(h:H a=some o)(h':H b=none):a≠b:=by intro e;subst e;rw[h]at h';cases h'
section
variable (P:af) (w:World)
def eP(H:Hp)(h:Heap)(a:Addr):HO->Prop | .lst xs=>xs.length<=sizeLine/\∃(its:List Value)(n:Nat),Vals xs its/\h.get? a=some {cls:=.type "list",data:=.seq its.toArray n} | .tup xs=>xs.length<=sizeLine/\∃its:List Value,Vals xs its/\IsTup h a its.toArray | .dK cT=>cT.length<=sizeLine/\(a==sysModules)=false/\∃vs,KV cT vs/\h.DictOf (CZ P w) a vs | .dT cT=>cT.length<=sizeLine/\(a==sysModules)=false/\∃xs:List (List Key×Addr×Value),Paired (λ(p:List Key×V)(q:List Key×Addr×Value)=>p.1=q.1/\H q.2.1=some (.tup (p.1.map kV))/\RelV p.2 q.2.2) cT xs/\∃o es ep,h.get? a=some o/\o.ExactDict/\o.data= .dict es ep/\es.toList=xs.map (entryOfKey (tupleKind (CZ P w)))/\(xs.map (·.1)).Nodup | .set S n=>h.SetOf (intKind P w) a S n | .ins C dx fs=>H dx=some (.own a)/\fs.length<=1000/\dx≠a/\h.get? a=some (PySem.W.instObj C dx)/\∃mA,h.Ns1 dx mA/\(∀f,lC (fs.lookup f) (mA f))/\PySem.Within mA (fs.map (·.1)) | .own _=>∃o,h.get? a=some o | .xd fs=>∃mA,h.Ns1 a mA/\∀f,lC (fs.lookup f) (mA f) | .oF lo hi=>∃t u v,h.get? a=some {cls:=.type "range",data:=.fields #[.int lo t,.int hi u,.int 1 v]} | .ky o u=>h.get? a=some o/\eP H h a u | .lJ ps=>h.get? a=some {cls:=.none,data:=.fields ps} | .met f x=>h.get? a=some (PySem.W.methodObj (.ref f) (.ref x)) | .ext φ=>φ h/\(∃o,h.get? a=some o)/\∀h1 h2:Heap,φ h1->(∀o,h1.get? a=some o->h2.get? a=some o)->φ h2
def dc(H:Hp)(h:Heap):Prop:=∀a o,H a=some o->eP P w H h a o
end
section
variable {P:af}{w:World}{H H':Hp}{h h':Heap}{a:Addr}{o:HO}
theorem eP.lt(x:eP P w H h a o):a<h.objs.size:=by cases o with |lst xs=>obtain⟨_,_,_,_,e⟩:=x;exact bN e |tup xs=>obtain⟨_,_,_,p⟩:=x;exact p.lt |dK cT=>obtain⟨_,_,_,_,o,_,_,e,_⟩:=x;exact bN e |dT cT=>obtain⟨_,_,_,_,o,_,_,e,_⟩:=x;exact bN e |set S n=>obtain⟨o,_,_,_,e,_⟩:=x;exact bN e |ins C dx fs=>obtain⟨_,_,_,e,_⟩:=x;exact bN e |own y=>obtain⟨_,e⟩:=x;exact bN e |xd fs=>obtain⟨_,⟨_,_,_,e,_⟩,_⟩:=x;exact bN e |oF lo hi=>obtain⟨_,_,_,e⟩:=x;exact bN e |ky ob u=>obtain⟨e,_⟩:=x;exact bN e |lJ ps=>exact bN (show h.get? a=some _ from x) |met f y=>exact bN (show h.get? a=some _ from x) |ext φ=>obtain⟨_,⟨_,e⟩,_⟩:=x;exact bN e
theorem Paired.KZ{α β:Type}{F G:α->β->Prop}:∀{l₁:List α}{l₂:List β},Paired F l₁ l₂->(∀a b,F a b->G a b)->Paired G l₁ l₂ |_,_,.nil,_=>.nil |_,_,.cons r t,f=>.cons (f _ _ r) (Paired.KZ t f)
theorem eP.jQ(x:eP P w H h a o)(k:∀b u,(b=a\/H b=some (.own a))->h.get? b=some u->h'.get? b=some u) (ho:∀b,H b=some (.own a)->H' b=some (.own a))(ht:∀b xs,H b=some (.tup xs)->H' b=some (.tup xs)):eP P w H' h' a o:=by induction o with |lst xs=>obtain⟨z,its,n,r,e⟩:=x;exact⟨z,its,n,r,k _ _ (.inl Z) e⟩ |tup xs=>obtain⟨z,its,r,ob,e,c⟩:=x;exact⟨z,its,r,ob,k _ _ (.inl Z) e,c⟩ |dK cT=>obtain⟨z,y,vs,r,ob,es,ep,e,c⟩:=x;exact⟨z,y,vs,r,ob,es,ep,k _ _ (.inl Z) e,c⟩ |dT cT=>obtain⟨z,y,xs,r,ob,es,ep,e,c⟩:=x;exact⟨z,y,xs,Paired.KZ r λp q z=>⟨z.1,ht _ _ z.2.1,z.2.2⟩,ob,es,ep,k _ _ (.inl Z) e,c⟩ |set S n=>obtain⟨ob,es,ep,t,e,c⟩:=x;exact⟨ob,es,ep,t,k _ _ (.inl Z) e,c⟩ |ins C dx fs=>obtain⟨d,z,ne,e,mA,⟨od,es,ep,e2,c⟩,r⟩:=x;exact⟨ho _ d,z,ne,k _ _ (.inl Z) e,mA,⟨od,es,ep,k _ _ (.inr d) e2,c⟩,r⟩ |own y=>obtain⟨ob,e⟩:=x;exact⟨ob,k _ _ (.inl Z) e⟩ |xd fs=>obtain⟨mA,⟨od,es,ep,e,c⟩,r⟩:=x;exact⟨mA,⟨od,es,ep,k _ _ (.inl Z) e,c⟩,r⟩ |oF lo hi=>obtain⟨t,u,v,e⟩:=x;exact⟨t,u,v,k _ _ (.inl Z) e⟩ |ky ob u ih=>obtain⟨e,q⟩:=x;exact⟨k _ _ (.inl Z) e,ih q⟩ |lJ ps=>have e:h.get? a=some {cls:=.none,data:=.fields ps}:=x;show h'.get? a=some {cls:=.none,data:=.fields ps};exact k a _ (.inl Z) e |met f y=>have e:h.get? a=some (PySem.W.methodObj (.ref f) (.ref y)):=x;show h'.get? a=some (PySem.W.methodObj (.ref f) (.ref y));exact k a _ (.inl Z) e |ext φ=>obtain⟨p,⟨o,e⟩,st⟩:=x;exact⟨st _ _ p λo q=>k _ _ (.inl Z) q,⟨o,k _ _ (.inl Z) e⟩,st⟩
theorem dc.lt(x:dc P w H h)(e:H a=some o):a<h.objs.size:=(x a o e).lt
theorem dc.fresh(x:dc P w H h)(e:h.objs.size<=a):H a=none:=by cases q:H a with |none=>rfl |some u=>exact absurd (fk (x.lt q) e) (nX _)
theorem dc.kept(x:dc P w H h)(k:∀b u,h.get? b=some u->h'.get? b=some u):dc P w H h':=λa o e=>(x a o e).jQ (λb u _ q=>k b u q) (λ_ q=>q) λ_ _ q=>q
theorem dc.laid(x:dc P w H h)(k:∀b u,h.get? b=some u->h'.get? b=some u)(hp:h.objs.size<=a)(new:eP P w (upd H a o) h' a o):dc P w (upd H a o) h':=λb u e=>by
 have hn:=x.fresh hp;by_cases hb:b=a
 ·subst hb;rw[bV]at e;cases e;exact new
 ·rw[bj hb]at e
  exact(x b u e).jQ (λc v _ q=>k c v q) (λc q=>by rw[bj (ft q hn)];exact q) λc xs q=>by rw[bj (ft q hn)];exact q
end
def Rd(H:Hp)(a:Addr)(u:HO):Prop:=H a=some u\/∃o,H a=some (.ky o u)
theorem Rd.ok{P:af}{w:World}{H:Hp}{h:Heap}{a:Addr}{u:HO}(r:Rd H a u)(x:dc P w H h):eP P w H h a u:=by
 rcases r with r|⟨o,r⟩
 ·exact x a u r
 ·obtain⟨_,q⟩:=x a _ r
  exact q
def zk:Option HO->Prop |some (.lst _)=>True |some (.dK _)=>True |some (.dT _)=>True |some (.set _ _)=>True |some (.ins _ _ _)=>True |some (.ext _)=>True |_=>False
section
variable {P:af}{w:World}{H:Hp}{h h':Heap}{x e:Addr}{o':HO}
theorem dc.write(ok:dc P w H h)(mu:zk (H x))(he:e=x\/H e=some (.own x))(k:∀b u,b≠e->h.get? b=some u->h'.get? b=some u)(rA:∃u,h'.get? e=some u) (new:eP P w (upd H x o') h' x o'):dc P w (upd H x o') h':=λb u q=>by
 have Kx:∀c y,H c=some (.own y)->c≠x:=λc y r z=>by subst z;rw[r]at mu;exact mu
 have W5:∀c xs,H c=some (.tup xs)->c≠x:=λc xs r z=>by subst z;rw[r]at mu;exact mu
 by_cases hb:b=x
 ·subst hb;rw[bV]at q;cases q;exact new
 ·rw[bj hb]at q
  by_cases pA:b=e
  ·have q':H b=some (.own x):=by
    rcases he with z|z
    ·exact absurd (pA.trans z) hb
    ·rw[pA];exact z
   rw[q]at q';cases q';obtain⟨v,hv⟩:=rA;exact⟨v,by rw[pA];exact hv⟩
  ·refine(ok b u q).jQ (λc v hc r=>k c v ?_ r) (λc r=>by rw[bj (Kx c b r)];exact r) λc xs r=>by rw[bj (W5 c xs r)];exact r
   rcases hc with rfl|hc
   ·exact pA
   ·rintro rfl
    rcases he with z|z
    ·exact Kx c b hc z
    ·rw[hc]at z;cases z;exact hb rfl
end
structure Un(fs ex:List Addr)(H H':Hp)(h h':Heap):Prop where
 keep:∀b o,h.get? b=some o->H b=none->b∉fs->b∉ex->h'.get? b=some o
 slot:∀b o,h.get? b=some o->H b=none->b∈fs->b∉ex->∃sl,h'.get? b=some {o with slots:=sl}
 free:∀b o,h.get? b=some o->H b=none->b∉ex->H' b=none
 there:∀b o,h.get? b=some o->b∉ex->∃o',h'.get? b=some o'
 gQ:∀b xs,H b=some (.tup xs)->H' b=some (.tup xs)
 gJ:∀b o u,H b=some (.ky o u)->H' b=some (.ky o u)
 gR:∀b ps,H b=some (.lJ ps)->∃more,H' b=some (.lJ (ps++more))
section
variable {fs rE ex ip:List Addr}{H H1 H2:Hp}{h h1 h2 h':Heap}{a x e:Addr}{o:HO}
theorem Un.any(u:Un fs ex H H1 h h1){b:Addr}{ob:Obj}(q:h.get? b=some ob)(n:H b=none)(hx:b∉ex):∃sl,h1.get? b=some {ob with slots:=sl}:=by
 by_cases hb:b∈fs
 ·exact u.slot b ob q n hb hx
 ·exact⟨ob.slots,u.keep b ob q n hb hx⟩
theorem Un.kept(k:∀b u,h.get? b=some u->h'.get? b=some u):Un fs ex H H h h':=⟨λb ob q _ _ _=>k b ob q,λb ob q _ _ _=>⟨ob.slots,k b ob q⟩,λ_ _ _ n _=>n,λb ob q _=>⟨ob,k b ob q⟩,λ_ _ q=>q,λ_ _ _ q=>q,λ_ ps q=>⟨#[],by rw[q];simp⟩⟩
theorem Un.refl:Un fs ex H H h h:=Un.kept λ_ _ q=>q
theorem Un.laid(k:∀b u,h.get? b=some u->h'.get? b=some u)(hp:h.objs.size<=a)(hn:H a=none):Un fs ex H (upd H a o) h h' where
 keep:=λb u q _ _ _=>k b u q
 slot:=λb u q _ _ _=>⟨u.slots,k b u q⟩
 free:=λb u q n _=>by rw[bj (dw (fk (bN q) hp))];exact n
 there:=λb u q _=>⟨u,k b u q⟩
 gQ:=λb xs q=>by rw[bj (ft q hn)];exact q
 gJ:=λb u xs q=>by rw[bj (ft q hn)];exact q
 gR:=λb ps q=>⟨#[],by rw[bj (ft q hn),q];simp⟩
theorem Un.write(mu:zk (H x))(he:e=x\/H e=some (.own x))(k:∀b u,b≠e->h.get? b=some u->h'.get? b=some u)(rA:∃u,h'.get? e=some u):Un fs ex H (upd H x o) h h':=by
 have hx:∀b,H b=none->b≠x:=λb n z=>by subst z;rw[n]at mu;exact mu
 have hb:∀b,H b=none->b≠e:=λb n z=>by
  subst z;rcases he with r|r
  ·exact hx b n r
  ·rw[n]at r;cases r
 have hm:∀b u,H b=some u->¬zk (some u)->b≠x:=λb u q nm z=>by subst z;rw[q]at mu;exact nm mu
 refine⟨λb u q n _ _=>k b u (hb b n) q,λb u q n _ _=>⟨u.slots,k b u (hb b n) q⟩,λb u q n _=>by rw[bj (hx b n)];exact n,λb u q _=>?_,λb xs q=>by rw[bj (hm b _ q λz=>z)];exact q,λb u xs q=>by rw[bj (hm b _ q λz=>z)];exact q,λb ps q=>⟨#[],by rw[bj (hm b _ q λz=>z),q];simp⟩⟩;by_cases pA:b=e
 ·subst pA;exact rA
 ·exact⟨u,k b u pA q⟩
end
def wu(h:Heap)(H:Hp):List Addr:=(List.range h.objs.size).filter λa=>(H a).isSome
def m8(h:Heap)(H:Hp):Heap:=PySem.W.hideAll h (wu h H)
theorem Z4(h:Heap)(H:Hp):(m8 h H).objs.size=h.objs.size:=PySem.W.hideAll_size _ _
theorem Z5{h:Heap}{H:Hp}{b:Addr}{o:Obj}(e:h.get? b=some o)(n:H b=none):(m8 h H).get? b=some o:=sA _ e λhm=>by have q:(H b).isSome=true:=(List.mem_filter.mp hm).2;rw[n]at q;simp at q
theorem VX{h:Heap}{H:Hp}{b:Addr}{o:Obj}(e:(m8 h H).get? b=some o):h.get? b=some o/\H b=none:=by have e':h.get? b=some o:=OM (wu h H) e;refine⟨e',?_⟩;cases q:H b with |none=>rfl |some x=>have hm:b∈wu h H:=List.mem_filter.mpr ⟨List.mem_range.mpr (bN e'),by simp[q]⟩;have z:(m8 h H).get? b=none:=OO (wu h H) hm;rw[z]at e;cases e
structure Mod(K:aa)(mg:bf)(au:Heap):Prop where
 kh:K.In au
 glob:au.Ns mainGlobals mg
 blt:∃mb,au.Ns builtinsNs mb/\∀x:Str,x≠"__name__"->mb x=bootBuiltins x
 nolimit:au.NoLimit
structure Cx where
 prog:af
 w:World
 K:aa
 mg:bf
 au:Heap
 A:ai
 N:List Str
 s₀:ae
 H₀:Hp
 env:Env
 outer:List Env
 stack:List Env
 ex:List Addr
 fn:Str->Bool
 calm:Bool
 pn:List (Addr×Obj)
 xe:Value->ae->Prop
def cR(l:List Env):List Addr:=l.filterMap (·.frame)
abbrev Cx.fs(X:Cx):List Addr:=cR X.outer
def zd(sc:Scope)(x:Str):Prop:=sc.names.lookup x=some .local\/sc.names.lookup x=some .cell\/sc.names.lookup x=some .free
def Loc(sc:Scope)(x:Str):Prop:=sc.names.lookup x=some .local\/sc.names.lookup x=some .cell
def Look(env:Env)(h:Heap)(m:bf)(x:Str)(u:Value):Prop:=(env.kindOf x=some .local/\m x=some u)\/((env.kindOf x=some .cell\/env.kindOf x=some .free)/\∃c,env.cells.lookup x=some c/\h.IsCell c (some u))
structure Cx.Ok(X:Cx):Prop where
 mod:Mod X.K X.mg X.au
 kind:X.env.scope.kind= .function
 glob:X.env.globals=mainGlobals
 blt:X.env.builtins=builtinsNs
 above:X.s₀.heap.objs.size<=X.env.locals
 inj:∀x y c,X.env.cells.lookup x=some c->X.env.cells.lookup y=some c->x=y
 has:∀x,(X.env.kindOf x=some .cell\/X.env.kindOf x=some .free)->∃c,X.env.cells.lookup x=some c
 nN:∀x c,X.fn x=true->X.env.cells.lookup x=some c->X.s₀.heap.objs.size<=c
 hd:X.calm=true->X.A.handled=none
 frames:X.A.frames=some X.stack
 oj:X.stack=X.outer\/(X.stack=X.env::X.outer/\X.env.frame=some X.env.locals)
 uU:∀b∈X.ex,b≠X.env.locals/\∀x c,X.env.cells.lookup x=some c->c≠b
 bs:∀b o,X.au.get? b=some o->X.s₀.heap.get? b=some o/\X.H₀ b=none
 jq:X.au.objs.size<=X.s₀.heap.objs.size
 mY:∀b o,X.au.get? b=some o->b∉X.ex
 mq:∀b∈X.ex,b∉X.fs
 gI:X.s₀.heap.FunFrames X.au X.outer
 kz:∀b∈X.fs,X.H₀ b=none
structure Inv(X:Cx)(ak:List (Addr×Obj))(O:List (Option V))(H:Hp)(s:ae):Prop where
 ok:X.Ok
 os:s.os=X.s₀.os
 bare:AllBare s.gens
 au:Un X.fs X.ex X.H₀ H X.s₀.heap s.heap
 loc:∃m,s.heap.Ns X.env.locals m/\∀(i:Nat)(x:Str)(v:V),X.N[i]? =some x->O[i]? =some (some v)->zd X.env.scope x->∃u,RelV v u/\Look X.env s.heap m x u
 cell:∀x c,X.env.cells.lookup x=some c->∃v,s.heap.IsCell c v
 free:H X.env.locals=none
 ij:∀x c,X.env.cells.lookup x=some c->H c=none
 pin:∀p∈X.pn++ak,s.heap.get? p.1=some p.2/\H p.1=none/\p.1≠X.env.locals/\p.1∉X.fs/\∀v,p.2.data≠ .cell v
 aY:dc X.prog X.w H s.heap
 len:O.length=X.N.length
section
variable {X:Cx}{ak:List (Addr×Obj)}{O:List (Option V)}{H H':Hp}{s:ae}{h':Heap}
theorem Cx.Ok.Wc(ok:X.Ok){b:Addr}{o:Obj}(e:X.au.get? b=some o):b∉X.fs:=λhb=>by have:=(ok.gI.mem hb).1;rw[e]at this;cases this
theorem Inv.bs(I:Inv X ak O H s):∀b o,X.au.get? b=some o->s.heap.get? b=some o/\H b=none:=λb o e=>⟨I.au.keep b o (I.ok.bs b o e).1 (I.ok.bs b o e).2 (I.ok.Wc e) (I.ok.mY b o e),I.au.free b o (I.ok.bs b o e).1 (I.ok.bs b o e).2 (I.ok.mY b o e)⟩
theorem Inv.bk(I:Inv X ak O H s):∀b o,X.au.get? b=some o->s.heap.get? b=some o:=λb o e=>(I.bs b o e).1
theorem Inv.mod(I:Inv X ak O H s):Mod X.K X.mg X.au:=I.ok.mod
theorem Inv.dB(I:Inv X ak O H s):X.K.In s.heap:=I.ok.mod.kh.keeps I.bk
theorem Inv.lt(I:Inv X ak O H s):X.env.locals<s.heap.objs.size:=let⟨_,hn,_⟩:=I.loc;hn.lt
theorem Inv.sz(I:Inv X ak O H s):X.s₀.heap.objs.size<=s.heap.objs.size:=f9 I.ok.above (Nat.le_of_lt I.lt)
theorem Inv.Wa(I:Inv X ak O H s){a:Addr}(h:s.heap.objs.size<=a):a∉X.fs:=λhb=>by obtain⟨_,o,ho,_⟩:=I.ok.gI.mem hb;exact absurd (fk (bN ho) (f9 I.sz h)) (nX _)
theorem Inv.iU(I:Inv X ak O H s):∀x c,X.env.cells.lookup x=some c->c≠X.env.locals:=λx c e z=>by obtain⟨v,o,ho,hd⟩:=I.cell x c e;obtain⟨m,⟨o',es,ep,kl,pj,_⟩,_⟩:=I.loc;rw[z,kl]at ho;cases ho;rw[pj]at hd;cases hd
theorem Inv.gI(I:Inv X ak O H s):s.heap.FunFrames X.au X.outer:=by
 have all:∀(l:List Env),(∀b∈cR l,b∈X.fs)->X.s₀.heap.FunFrames X.au l->s.heap.FunFrames X.au l:=by intro l;induction l with |nil=>intro _ _;trivial |cons env r ih=>intro hs hl;obtain⟨hk,⟨L,o,hf,hn,ho,hd⟩,hr⟩:=hl;have hL:L∈X.fs:=hs L (by unfold cR;rw[Pa,hf];exact FT);obtain⟨sl,e⟩:=I.au.slot L o ho (I.ok.kz L hL) hL λz=>I.ok.mq L z hL;exact⟨hk,⟨L,_,hf,hn,e,hd⟩,ih (λb hb=>hs b (by unfold cR;rw[Pa,hf];exact sG _ hb)) hr⟩
 exact all X.outer (λ_ hb=>hb) I.ok.gI
theorem Inv.stack(I:Inv X ak O H s):s.heap.FunFrames X.au X.stack:=by
 rcases I.ok.oj with e|⟨e,hf⟩
 ·rw[e];exact I.gI
 ·rw[e]
  obtain⟨m,hn,_⟩:=I.loc;refine .cons (by rw[I.ok.kind];decide) hf hn ?_ I.gI;exact Heap.get?_none_of_le (f9 I.ok.jq I.ok.above)
theorem Inv.zS(I:Inv X ak O H s):∀b∈cR X.stack,b∈X.env.locals::X.fs:=λb hb=>by
 rcases I.ok.oj with e|⟨e,hf⟩
 ·rw[e]at hb;exact sG _ hb
 ·rw[e]at hb
  unfold cR at hb;rw[Pa,hf]at hb;exact hb
theorem Inv.qm(I:Inv X ak O H s):∀b∈cR X.stack,H b=none:=λb hb=>by
 rcases bS.mp (I.zS b hb)with e|hb
 ·rw[e];exact I.free
 ·obtain⟨_,o,ho,_⟩:=I.ok.gI.mem hb
  exact I.au.free b o ho (I.ok.kz b hb) λz=>I.ok.mq b z hb
theorem Inv.step{g':Array GenState}{t':Nat}{d':Drawn}{ch:List Addr}(I:Inv X ak O H s) (jE:∀b∈ch,(b∈X.ex\/X.s₀.heap.objs.size<=b)/\b≠X.env.locals/\(∀x c,X.env.cells.lookup x=some c->c≠b)/\∀p∈X.pn++ak,p.1≠b) (keep:∀b o,b≠X.env.locals->b∉X.fs->b∉ch->s.heap.get? b=some o->H b=none->h'.get? b=some o) (slot:∀b o,b≠X.env.locals->b∈X.fs->b∉ch->s.heap.get? b=some o->H b=none->∃sl,h'.get? b=some {o with slots:=sl})(free:∀b o,b∉ch->s.heap.get? b=some o->H b=none->H' b=none) (there:∀b o,b∉ch->s.heap.get? b=some o->∃o',h'.get? b=some o') (gQ:∀b xs,H b=some (.tup xs)->H' b=some (.tup xs))(gJ:∀b o u,H b=some (.ky o u)->H' b=some (.ky o u))(gR:∀b ps,H b=some (.lJ ps)->∃more,H' b=some (.lJ (ps++more))) (ns:∀m,s.heap.Ns X.env.locals m->h'.Ns X.env.locals m)(aY:dc X.prog X.w H' h')(hg:AllBare g'): Inv X ak O H' {s with heap:=h',gens:=g',drawn:=d',toks:=t'}:=by
 have KH:∀b o,X.s₀.heap.get? b=some o->b≠X.env.locals:=λb o e=>dw (fk (bN e) I.ok.above);have xy:∀b o,X.s₀.heap.get? b=some o->b∉X.ex->b∉ch:=λb o e hx hb=>by
  rcases(jE b hb).1 with z|z
  ·exact hx z
  ·exact absurd (fk (bN e) z) (nX _)
 have cellK:∀x c,X.env.cells.lookup x=some c->∀v,s.heap.IsCell c v->h'.IsCell c v:=λx c e v ⟨o,ho,hd⟩=>by
  have uc:c∉ch:=λz=>(jE c z).2.2.1 x c e rfl;by_cases hc:c∈X.fs
  ·obtain⟨sl,q⟩:=slot c o (I.iU x c e) hc uc ho (I.ij x c e)
   exact⟨_,q,hd⟩
  ·exact⟨o,keep c o (I.iU x c e) hc uc ho (I.ij x c e),hd⟩
 refine⟨I.ok,I.os,hg,⟨λb o e n hb hx=>?_,λb o e n hb hx=>?_,λb o e n hx=>?_,λb o e hx=>?_,λb xs e=>gQ b xs (I.au.gQ b xs e),λb o xs e=>gJ b o xs (I.au.gJ b o xs e),λb ps e=>?_⟩,?_,λx c e=>?_,?_,λx c e=>?_,λp hp=>?_,aY,I.len⟩
 ·exact keep b o (KH b o e) hb (xy b o e hx) (I.au.keep b o e n hb hx) (I.au.free b o e n hx)
 ·obtain⟨sl,e1⟩:=I.au.slot b o e n hb hx
  obtain⟨Aa,e2⟩:=slot b _ (KH b o e) hb (xy b o e hx) e1 (I.au.free b o e n hx);exact⟨Aa,e2⟩
 ·obtain⟨o',e1⟩:=I.au.there b o e hx
  exact free b o' (xy b o e hx) e1 (I.au.free b o e n hx)
 ·obtain⟨o',e1⟩:=I.au.there b o e hx
  exact there b o' (xy b o e hx) e1
 ·obtain⟨m1,e1⟩:=I.au.gR b ps e
  obtain⟨m2,e2⟩:=gR b _ e1;exact⟨m1++m2,by rw[e2,Array.append_assoc]⟩
 ·obtain⟨m,hn,hl⟩:=I.loc
  refine⟨m,ns m hn,λi x v e1 e2 e3=>?_⟩;obtain⟨u,r,l⟩:=hl i x v e1 e2 e3;refine⟨u,r,?_⟩;rcases l with l|⟨k,c,e,z⟩
  ·exact .inl l
  ·exact .inr ⟨k,c,e,cellK x c e _ z⟩
 ·obtain⟨v,z⟩:=I.cell x c e
  exact⟨v,cellK x c e v z⟩
 ·obtain⟨m,⟨o,_,_,ho,_⟩,_⟩:=I.loc
  exact free _ o (λz=>(jE _ z).2.1 Z) ho I.free
 ·obtain⟨v,o,ho,hd⟩:=I.cell x c e
  exact free c o (λz=>(jE c z).2.2.1 x c e Z) ho (I.ij x c e)
 ·obtain⟨e,n,ne,nf,d⟩:=I.pin p hp
  have uc:p.1∉ch:=λz=>(jE p.1 z).2.2.2 p hp rfl;exact⟨keep p.1 p.2 ne nf uc e n,free p.1 p.2 uc e n,ne,nf,d⟩
theorem Inv.un{t':Nat}(I:Inv X ak O H s)(u:Un X.fs [] H H' s.heap h')(aY:dc X.prog X.w H' h'):Inv X ak O H' {s with heap:=h',toks:=t'}:=by obtain⟨m,⟨o,es,ep,ho,r⟩,_⟩:=id I.loc;obtain⟨sl,hL⟩:=u.any ho I.free (by simp);exact I.step (g':=s.gens) (d':=s.drawn) (ch:=[]) (λ_ z=>nomatch z) (λb o _ hb _ e n=>u.keep b o e n hb (by simp)) (λb o _ hb _ e n=>u.slot b o e n hb (by simp)) (λb o _ e n=>u.free b o e n (by simp)) (λb o _ e=>u.there b o e (by simp)) u.gQ u.gJ u.gR (λm' hm=>by obtain⟨o',yB,EE,kl,r'⟩:=hm;rw[ho]at kl;cases kl;exact⟨_,yB,EE,hL,r'⟩) aY I.bare
theorem Inv.call{g':Array GenState}{t':Nat}{d':Drawn}{ch:List Addr}(I:Inv X ak O H s)(u:Un (cR X.stack) ch H H' s.heap h')(aY:dc X.prog X.w H' h')(hg:AllBare g') (jE:∀b∈ch,(b∈X.ex\/X.s₀.heap.objs.size<=b)/\b≠X.env.locals/\(∀x c,X.env.cells.lookup x=some c->c≠b)/\∀p∈X.pn++ak,p.1≠b): Inv X ak O H' {s with heap:=h',gens:=g',drawn:=d',toks:=t'}:=by obtain⟨m,⟨o,es,ep,ho,r⟩,_⟩:=id I.loc;obtain⟨sl,hL⟩:=u.any ho I.free λz=>(jE _ z).2.1 rfl;exact I.step (ch:=ch) jE (λb o hL hb hc e n=>u.keep b o e n (λz=>(bS.mp (I.zS b z)).elim hL hb) hc) (λb o _ _ hc e n=>u.any e n hc) (λb o hc e n=>u.free b o e n hc) (λb o hc e=>u.there b o e hc) u.gQ u.gJ u.gR (λm' hm=>by obtain⟨o',yB,EE,kl,r'⟩:=hm;rw[ho]at kl;cases kl;exact⟨_,yB,EE,hL,r'⟩) aY hg
theorem Inv.turned{t':Nat}{it:Addr}(I:Inv X ak O H s)(k:∀b o,b≠it->s.heap.get? b=some o->h'.get? b=some o)(hn:H it=none)(hL:it≠X.env.locals) (h1:it∈X.ex\/X.s₀.heap.objs.size<=it)(h2:∀x c,X.env.cells.lookup x=some c->c≠it)(h3:∀p∈X.pn++ak,p.1≠it):Inv X ak O H {s with heap:=h',toks:=t'}:=by
 have u9:∀b u,H b=some u->b≠it:=λb u e z=>by rw[z,hn]at e;cases e
 refine I.step (g':=s.gens) (d':=s.drawn) (ch:=[it]) (λb hb=>?_) (λb o _ _ hc e _=>k b o (λz=>hc (by simp[z])) e) (λb o _ _ hc e _=>⟨o.slots,k b o (λz=>hc (by simp[z])) e⟩) (λ_ _ _ _ n=>n) (λb o hc e=>⟨o,k b o (λz=>hc (by simp[z])) e⟩) (λ_ _ e=>e) (λ_ _ _ e=>e) (λb ps e=>⟨#[],by rw[e];simp⟩) (λm hm=>?_) (λb u e=>?_) I.bare
 ·have e:b=it:=by simpa using hb
  subst e;exact⟨h1,hL,h2,h3⟩
 ·obtain⟨o,es,ep,ho,r⟩:=hm
  exact⟨o,es,ep,k _ o (iz hL) ho,r⟩
 ·refine(I.aY b u e).jQ (λc v hc q=>k c v ?_ q) (λ_ q=>q) λ_ _ q=>q
  rcases hc with z|z
  ·rw[z];exact u9 b u e
  ·exact u9 c _ z
theorem Inv.tok(I:Inv X ak O H s)(t:Nat):Inv X ak O H {s with toks:=t}:=I.un (h':=s.heap) (t':=t) Un.refl I.aY
theorem Inv.kept{t':Nat}(I:Inv X ak O H s)(k:∀b u,s.heap.get? b=some u->h'.get? b=some u):Inv X ak O H {s with heap:=h',toks:=t'}:=I.un (Un.kept k) (I.aY.kept k)
theorem Inv.laid{a:Addr}{o:HO}{t':Nat}(I:Inv X ak O H s)(k:∀b u,s.heap.get? b=some u->h'.get? b=some u)(hp:s.heap.objs.size<=a)(new:eP X.prog X.w (upd H a o) h' a o): Inv X ak O (upd H a o) {s with heap:=h',toks:=t'}:=I.un (Un.laid k hp (I.aY.fresh hp)) (I.aY.laid k hp new)
theorem Inv.write{x e:Addr}{o:HO}{t':Nat}(I:Inv X ak O H s)(mu:zk (H x))(he:e=x\/H e=some (.own x))(k:∀b u,b≠e->s.heap.get? b=some u->h'.get? b=some u)(rA:∃u,h'.get? e=some u) (new:eP X.prog X.w (upd H x o) h' x o):Inv X ak O (upd H x o) {s with heap:=h',toks:=t'}:=I.un (Un.write mu he k rA) (I.aY.write mu he k rA new)
theorem Inv.K0{Cg:List (Addr×Obj)}(I:Inv X ak O H s)(h:∀p∈Cg,s.heap.get? p.1=some p.2/\H p.1=none/\p.1≠X.env.locals/\p.1∉X.fs/\∀v,p.2.data≠ .cell v):Inv X Cg O H s:=⟨I.ok,I.os,I.bare,I.au,I.loc,I.cell,I.free,I.ij,λp hp=>(jN.mp hp).elim (λz=>I.pin p (FU _ z)) (h p),I.aY,I.len⟩
theorem CL{N:List Str}(hN:N.Nodup){i j:Nat}{x:Str}(a:N[i]? =some x)(b:N[j]? =some x):i=j:=by obtain⟨h1,e1⟩:=dQ.mp a;obtain⟨h2,e2⟩:=dQ.mp b;exact(List.getElem_inj hN).mp (e1.trans e2.symm)
theorem GO{M:Model}{A:ai}{E:Value->ae->Prop}{i:Nat}{x:Str}{v:V}{u:Value}{Q:Unit->ae->Prop}(I:Inv X ak O H s)(hN:X.N.Nodup)(hi:X.N[i]? =some x)(hx:Loc X.env.scope x)(r:RelV v u) (h:∀s',Inv X ak (O.set i (some v)) H s'->(∃a,Heap.SameBut a s.heap s'.heap/\(a=X.env.locals\/X.env.cells.lookup x=some a))->Q () s')(hf:X.fn x=true\/X.env.scope.names.lookup x=some .local:=by first|exact .inl rfl|exact .inr rfl|assumption):wpAny M A (storeName X.env x u) Q E s:=by
 obtain⟨m,hn,hl⟩:=id I.loc;have uK:(X.env.scope.kind== .class||(X.env.scope.kind== .module&&X.env.locals !=X.env.globals))=false:=by rw[I.ok.kind];rfl
 have y9:i<O.length:=by rw[I.len];exact(dQ.mp hi).1
 have iU:=I.iU;have tracked:∀{a:Addr}{h':Heap},(∃o,s.heap.get? a=some o/\H a=none)->Heap.SameBut a s.heap h'->dc X.prog X.w H h':=λ{a h'} ha hs b ob e=>by
  obtain⟨_,_,rn⟩:=ha;refine(I.aY b ob e).jQ (λc w' hc q=>(hs.2 c ?_).trans q) (λ_ q=>q) λ_ _ q=>q;rintro rfl;rcases hc with rfl|hc
  ·rw[rn]at e;cases e
  ·rw[rn]at hc;cases hc
 rcases hx with hk|hk
 ·refine wpAny_storeName_local hk hn (λh' uz hs=>?_) uK
  obtain⟨oL,_,_,LN,_⟩:=id hn;refine h _ ⟨I.ok,I.os,I.bare,⟨λb o e n hb hx=>?_,λb o e n hb hx=>?_,I.au.free,λb o e hx=>?_,I.au.gQ,I.au.gJ,I.au.gR⟩,⟨_,uz,λj y v' e1 e2 e3=>?_⟩,λy c e=>?_,I.free,I.ij,λp hp=>?_,tracked ⟨oL,LN,I.free⟩ hs,by simpa using I.len⟩ ⟨_,hs,.inl rfl⟩
  ·exact(hs.2 b (dw (fk (bN e) I.ok.above))).trans (I.au.keep b o e n hb hx)
  ·obtain⟨sl,e1⟩:=I.au.slot b o e n hb hx
   exact⟨sl,(hs.2 b (dw (fk (bN e) I.ok.above))).trans e1⟩
  ·obtain⟨o',e1⟩:=I.au.there b o e hx
   exact⟨o',(hs.2 b (dw (fk (bN e) I.ok.above))).trans e1⟩
  ·by_cases hj:j=i
   ·subst hj
    rw[hi]at e1;cases e1;rw[FY y9]at e2;cases e2;exact⟨u,r,.inl ⟨hk,by simp⟩⟩
   ·rw[P9 (iz hj)]at e2
    obtain⟨u',r',q⟩:=hl j y v' e1 e2 e3;refine⟨u',r',?_⟩;rcases q with⟨k,e⟩|⟨k,c,e,z⟩
    ·refine .inl ⟨k,?_⟩
     have:y≠x:=λe=>hj (CL hN e1 (e▸hi));simp[this,e]
    ·exact .inr ⟨k,c,e,z.sameBut hs (iU y c e)⟩
  ·obtain⟨w',z⟩:=I.cell y c e
   exact⟨w',z.sameBut hs (iU y c e)⟩
  ·obtain⟨e,n,ne,nf,d⟩:=I.pin p hp
   exact⟨(hs.2 p.1 ne).trans e,n,ne,nf,d⟩
 ·have DU:X.fn x=true:=by
   rcases hf with z|z
   ·exact z
   ·rw[z]at hk;cases hk
  obtain⟨c,hc⟩:=I.ok.has x (.inl hk);obtain⟨w',z⟩:=I.cell x c hc;refine wpAny_storeName_cell I.ok.kind hk hc z (λh' gy hs=>?_);obtain⟨oc,LM,Yx⟩:=id z;refine h {s with heap:=h'} ⟨I.ok,I.os,I.bare,⟨λb o e n hb hx=>?_,λb o e n hb hx=>?_,I.au.free,λb o e hx=>?_,I.au.gQ,I.au.gJ,I.au.gR⟩,⟨m,hn.sameBut hs (iz (iU x c hc)),λj y v' e1 e2 e3=>?_⟩,λy c' e=>?_,I.free,I.ij,λp hp=>?_,tracked ⟨oc,LM,I.ij x c hc⟩ hs,by simpa using I.len⟩ ⟨c,hs,.inr hc⟩
  ·exact(hs.2 b (dw (fk (bN e) (I.ok.nN x c DU hc)))).trans (I.au.keep b o e n hb hx)
  ·obtain⟨sl,e1⟩:=I.au.slot b o e n hb hx
   exact⟨sl,(hs.2 b (dw (fk (bN e) (I.ok.nN x c DU hc)))).trans e1⟩
  ·obtain⟨o',e1⟩:=I.au.there b o e hx
   exact⟨o',(hs.2 b (dw (fk (bN e) (I.ok.nN x c DU hc)))).trans e1⟩
  ·by_cases hj:j=i
   ·subst hj
    rw[hi]at e1;cases e1;rw[FY y9]at e2;cases e2;exact⟨u,r,.inr ⟨.inl hk,c,hc,gy⟩⟩
   ·rw[P9 (iz hj)]at e2
    obtain⟨u',r',q⟩:=hl j y v' e1 e2 e3;refine⟨u',r',?_⟩;rcases q with q|⟨k,c',e,z'⟩
    ·exact .inl q
    ·refine .inr ⟨k,c',e,z'.sameBut hs ?_⟩
     rintro rfl;exact hj (CL hN e1 (I.ok.inj _ _ _ e hc▸hi))
  ·by_cases LW:c'=c
   ·subst LW;exact⟨_,gy⟩
   ·obtain⟨w2,z2⟩:=I.cell y c' e
    exact⟨w2,z2.sameBut hs LW⟩
  ·obtain⟨e,n,ne,nf,d⟩:=I.pin p hp
   refine⟨(hs.2 p.1 ?_).trans e,n,ne,nf,d⟩;intro q;rw[q,LM]at e;have q':oc=p.2:=cW e;exact d w' (by rw[<-q'];exact Yx)
theorem ql{M:Model}{A:ai}{E:Value->ae->Prop}{i:Nat}{x:Str}{v:V}{u:Value}{Q:Unit->ae->Prop}(I:Inv X ak O H s)(hN:X.N.Nodup)(hi:X.N[i]? =some x)(hx:Loc X.env.scope x)(r:RelV v u) (h:∀s',Inv X ak (O.set i (some v)) H s'->Q () s')(hf:X.fn x=true\/X.env.scope.names.lookup x=some .local:=by first|exact .inl rfl|exact .inr rfl|assumption):wpAny M A (storeName X.env x u) Q E s:=GO I hN hi hx r (λs' I' _=>h s' I') hf
theorem Inv.yT{s':ae}{ch:List Addr}(I:Inv X ak O H s)(ho:s'.os=s.os)(u:Un (cR X.stack) ch H H' s.heap s'.heap)(aY:dc X.prog X.w H' s'.heap)(hg:AllBare s'.gens) (jE:∀b∈ch,(b∈X.ex\/X.s₀.heap.objs.size<=b)/\b≠X.env.locals/\(∀x c,X.env.cells.lookup x=some c->c≠b)/\∀p∈X.pn++ak,p.1≠b):Inv X ak O H' s':=by obtain⟨h',g',d',t',o'⟩:=s';have e:o'=s.os:=ho;subst e;exact I.call (g':=g') (t':=t') (d':=d') u aY hg jE
end
abbrev XK:=Value->Option Addr->Hp->Prop
abbrev St:=List (Option V)
abbrev VK:=V->Hp->Prop
abbrev TE:=St->Hp->VK->Prop
abbrev TT:=St->Hp->(Bool->Hp->Prop)->Prop
abbrev TA:=St->Hp->(List V->Hp->Prop)->Prop
structure Ends where
 nx:St->Hp->Prop
 rt:VK
 bk:St->Hp->Prop:=λ_ _=>False
 ct:St->Hp->Prop:=λ_ _=>False
abbrev TS:=Ends->St->Hp->Prop
def EP(X:Cx)(ak:List (Addr×Obj))(O:St)(Q:VK)(u:Value)(s':ae):Prop:=∃v H',Inv X ak O H' s'/\RelV v u/\Q v H'
def TP(X:Cx)(ak:List (Addr×Obj))(O:St)(Q:Bool->Hp->Prop)(b:Bool)(s':ae):Prop:=∃H',Inv X ak O H' s'/\Q b H'
def AP(X:Cx)(ak:List (Addr×Obj))(O:St)(Q:List V->Hp->Prop)(us:List Value)(s':ae):Prop:=∃vs H',Inv X ak O H' s'/\Vals vs us/\Q vs H'
def SP(X:Cx)(ak:List (Addr×Obj))(D:Ends)(f:Flow)(s':ae):Prop:=match f with | .next=>∃σ' H',Inv X ak σ' H' s'/\D.nx σ' H' | .brk=>∃σ' H',Inv X ak σ' H' s'/\D.bk σ' H' | .cont=>∃σ' H',Inv X ak σ' H' s'/\D.ct σ' H' | .ret u=>∃v σ' H',Inv X ak σ' H' s'/\RelV v u/\D.rt v H'
def PE(X:Cx)(e:Expr)(t:TE):Prop:=∀(ak:List (Addr×Obj))(s:ae)(O:St)(H:Hp)(Q:VK),Inv X ak O H s->t O H Q->wpAny (model X.prog X.w) X.A (eval e X.env) (EP X ak O Q) X.xe s
def PT(X:Cx)(e:Expr)(t:TT):Prop:=∀(ak:List (Addr×Obj))(s:ae)(O:St)(H:Hp)(Q:Bool->Hp->Prop),Inv X ak O H s->t O H Q->wpAny (model X.prog X.w) X.A (isTrue e X.env (eval e X.env)) (TP X ak O Q) X.xe s
def PW(X:Cx)(e:Expr)(t:TT):Prop:=∀(whole:Sem Value)(ak:List (Addr×Obj))(s:ae)(O:St)(H:Hp)(Q:Bool->Hp->Prop),Inv X ak O H s->t O H Q->wpAny (model X.prog X.w) X.A (isTrue e X.env whole) (TP X ak O Q) X.xe s
theorem PW.pt{X:Cx}{e:Expr}{t:TT}(h:PW X e t):PT X e t:=h _
def PA(X:Cx)(es:List Expr)(t:TA):Prop:=∀(pos:Pos)(ak:List (Addr×Obj))(s:ae)(O:St)(H:Hp)(Q:List V->Hp->Prop),Inv X ak O H s->t O H Q->wpAny (model X.prog X.w) X.A (spliced (backTo pos (starEach es X.env))) (AP X ak O Q) X.xe s
def PS(X:Cx)(st:Stmt)(t:TS):Prop:=∀(ak:List (Addr×Obj))(s:ae)(O:St)(H:Hp)(D:Ends),Inv X ak O H s->t D O H->wpAny (model X.prog X.w) X.A (exec st X.env) (SP X ak D) X.xe s
def eV(X:Cx)(st:List Stmt)(t:TS):Prop:=∀(ak:List (Addr×Obj))(s:ae)(O:St)(H:Hp)(D:Ends),Inv X ak O H s->t D O H->wpAny (model X.prog X.w) X.A (execs st X.env) (SP X ak D) X.xe s
theorem aW{α:Type}{t:Sem α}{Q Q':α->ae->Prop}{M:Model}{A:ai}{E:Value->ae->Prop}{s:ae}(h:wpAny M A t Q E s)(hQ:∀a s,Q a s->Q' a s):wpAny M A t Q' E s:=fO h hQ λ_ _ x=>x
section
variable {X:Cx}
inductive a4x(i:Nat)(O:St)(H:Hp)(Q:VK):Prop |mk (v:_)(h0:O[i]? =some (some v))(h1:Q v H)
def Gw(i:Nat):TE:=λO H Q=>a4x i O H Q
def tC (v:V):TE:=λ_ H Q=>Q v H
theorem K2{i:Nat}{x:Str}{pos:Pos}(hN:X.N[i]? =some x)(hv:zd X.env.scope x)(hd:(x==("__debug__":Str))=false:=by decide)(dX:(x==("__classdict__":Str))=false:=by decide):PE X (.Name x pos) (Gw i):=by
 intro ak s O H Q I h;obtain⟨v,e,h⟩:=h;obtain⟨m,hn,hl⟩:=I.loc;obtain⟨u,r,l⟩:=hl i x v hN e hv;have fin:EP X ak O Q u s:=⟨v,H,I,r,h⟩;rcases l with⟨hk,hm⟩|⟨hk,c,hc,nA⟩
 ·exact wpAny_Name (wpAny_loadName_local I.ok.kind hk hn hm fin) hd
 ·rcases hk with hk|hk
  ·exact wpAny_Name (wpAny_loadName_cell I.ok.kind hk hc nA fin) hd
  ·exact wpAny_Name (wpAny_loadName_free I.ok.kind hk hc nA fin dX) hd
theorem aB{i j pos}:PE X (.Constant (.int i) j pos) (tC (.int i)):=λ_ _ _ H _ I h=>wpAny_Constant_int ⟨.int i,H,I.tok _,⟨_,Z⟩,h⟩
theorem gr{b j pos}:PE X (.Constant (.bool b) j pos) (tC (.bl b)):=λ_ _ _ H _ I h=>Constant_bool ⟨.bl b,H,I,Z,h⟩
theorem g9{j pos}:PE X (.Constant .none j pos) (tC .aZ):=λ_ _ _ H _ I h=>Constant_none ⟨.aZ,H,I,Z,h⟩
theorem bu{x j pos}:PE X (.Constant (.str x) j pos) (tC (.str x)):=λ_ _ _ H _ I h=>Calls.Constant_str ⟨.str x,H,I.tok _,⟨_,Z⟩,h⟩
def Gl(X:Cx)(x:Str):Prop:=X.env.kindOf x=some .globalImplicit
theorem lZ{E:Value->ae->Prop}{ak:List (Addr×Obj)}{s:ae}{O:St}{H:Hp}{x:Str}{u:Value}{pos:Pos}{Q:Value->ae->Prop}(I:Inv X ak O H s)(hg:Gl X x)(hm:X.mg x=some u)(h:Q u s) (hd:(x==("__debug__":Str))=false:=by decide):wpAny (model X.prog X.w) X.A (eval (.Name x pos) X.env) Q E s:=Calls.Name_function_global I.ok.kind hg (Calls.loadGlobal_global (by rw[I.ok.glob];exact I.mod.glob.keeps I.bk) hm h) hd
theorem m3{E:Value->ae->Prop}{ak:List (Addr×Obj)}{s:ae}{O:St}{H:Hp}{x:Str}{u:Value}{pos:Pos}{Q:Value->ae->Prop}(I:Inv X ak O H s)(hg:Gl X x)(hm:X.mg x=none)(hv:bootBuiltins x=some u)(h:Q u s) (hn:x≠"__name__":=by decide)(hd:(x==("__debug__":Str))=false:=by decide):wpAny (model X.prog X.w) X.A (eval (.Name x pos) X.env) Q E s:=by obtain⟨mb,h1,h2⟩:=I.mod.blt;exact Calls.Name_function_global I.ok.kind hg (Calls.loadGlobal_builtin (by rw[I.ok.glob];exact I.mod.glob.keeps I.bk) hm (by rw[I.ok.blt];exact h1.keeps I.bk) ((h2 x hn).trans hv) h) hd
theorem TX{x:Str}{v:V}{u:Value}{pos:Pos}(hg:Gl X x)(hm:X.mg x=some u)(r:RelV v u)(hd:(x==("__debug__":Str))=false:=by decide):PE X (.Name x pos) (tC v):=λ_ _ _ H _ I h=>lZ I hg hm ⟨v,H,I,r,h⟩ hd
theorem jV{x:Str}{v:V}{u:Value}{pos:Pos}(hg:Gl X x)(hm:X.mg x=none)(hv:bootBuiltins x=some u)(r:RelV v u)(hn:x≠"__name__":=by decide)(hd:(x==("__debug__":Str))=false:=by decide):PE X (.Name x pos) (tC v):=λ_ _ _ H _ I h=>m3 I hg hm hv ⟨v,H,I,r,h⟩ hn hd
variable {a b:Expr}{ta tb:TE}{pos:Pos}
def PC(X:Cx)(op:CmpOp)(a b:Expr)(t:TE):Prop:=∀(ak:List (Addr×Obj))(s:ae)(O:St)(H:Hp)(Q:VK),Inv X ak O H s->t O H Q->wpAny (model X.prog X.w) X.A (eval a X.env) (λv s₁=>wpAny (model X.prog X.w) X.A (eval b X.env) (λu s₂=>wpAny (model X.prog X.w) X.A (compareOp op v u) (EP X ak O Q) X.xe s₂) X.xe s₁) X.xe s
inductive ItB(Q:Bool->Hp->Prop)(x:V)(H1:Hp):Prop |mk (c:_)(h0:x= .bl c)(h1:Q c H1)
def tB(t:TE):TT:=λO H Q=>t O H λx H1=>ItB Q x H1
theorem JS{op:CmpOp}{t:TE}(h:PC X op a b t)(h1:behindInMarks op b=false:=by first|exact a6Z _ az az|rfl):PT X (.Compare a [op] [b] pos) (tB t):=by intro ak s O H Q I hw;refine wpAny_isTrue_Compare1 (aW (h ak s O H _ I hw) λv s1 h1=>aW h1 λu s2 h2=>aW h2 λc s3 ⟨x,H1,I1,r1,q1⟩=>?_) h1;obtain⟨d,rfl,q⟩:=q1;cases r1;exact lD ⟨H1,I1,q⟩
theorem cD{e:Expr}{t:TE}(h:PE X e t)(he:∀whole,isTrue e X.env whole=(do let v<-whole;standAt e.pos;holding [v] (truthy v)):=by intro _;rfl):PT X e (tB t):=by intro ak s O H Q I hw;refine isTrue_plain (aW (h ak s O H _ I hw) λv s1 ⟨x,H1,I1,r1,q1⟩=>?_) (he _);obtain⟨d,rfl,q⟩:=q1;cases r1;exact lD ⟨H1,I1,q⟩
variable {tA wD:TT} {rest:List Expr}
def GK(t u:TT):TT:=λO H Q=>t O H λc H1=>if c=true then u O H1 Q else Q false H1
def Gz(t u:TT):TT:=λO H Q=>t O H λc H1=>if c=true then Q true H1 else u O H1 Q
def Qv(t:TT):TT:=λO H Q=>t O H λc H1=>Q (!c) H1
theorem C8(ha:PT X a tA):PW X (.BoolOp .And [a] pos) tA:=by intro wh ak s O H Q I h;refine isTrue_and (aW (ha ak s O H Q I h) λc s1 e=>?_);cases c with |true=>exact isTrue_and_nil e |false=>exact e
theorem gW(ha:PT X a tA):PW X (.BoolOp .Or [a] pos) tA:=by intro wh ak s O H Q I h;refine isTrue_or (aW (ha ak s O H Q I h) λc s1 e=>?_);cases c with |false=>exact isTrue_or_nil e |true=>exact e
theorem C9(ha:PT X a tA)(hb:PW X (.BoolOp .And (b::rest) pos) wD):PW X (.BoolOp .And (a::b::rest) pos) (GK tA wD):=by intro wh ak s O H Q I h;refine isTrue_and (aW (ha ak s O H _ I h) λc s1 ⟨H1,I1,q1⟩=>?_);cases c with |true=>exact hb wh ak s1 O H1 Q I1 q1 |false=>exact⟨H1,I1,q1⟩
theorem gX(ha:PT X a tA)(hb:PW X (.BoolOp .Or (b::rest) pos) wD):PW X (.BoolOp .Or (a::b::rest) pos) (Gz tA wD):=by intro wh ak s O H Q I h;refine isTrue_or (aW (ha ak s O H _ I h) λc s1 ⟨H1,I1,q1⟩=>?_);cases c with |true=>exact⟨H1,I1,q1⟩ |false=>exact hb wh ak s1 O H1 Q I1 q1
theorem dg(ha:PT X a tA):PT X (.UnaryOp .Not a pos) (Qv tA):=by intro ak s O H Q I h;exact isTrue_not (ha ak s O H (λc H1=>Q (!c) H1) I h)
inductive a4H(tb:TE)(O:St)(Q:VK)(x:V)(H1:Hp):Prop |mk (c:_)(h0:x= .bl c)(h1:if c=true then tb O H1 Q else Q (.bl false) H1)
def QK(ta tb:TE):TE:=λO H Q=>ta O H λx H1=>a4H tb O Q x H1
inductive a4D(Q:VK)(x:V)(H1:Hp):Prop |mk (c:_)(h0:x= .bl c)(h1:Q (.bl (!c)) H1)
def Qu(ta:TE):TE:=λO H Q=>ta O H λx H1=>a4D Q x H1
theorem qx{op}{t:TE}(h:PE X a t):PE X (.BoolOp op [a] pos) t:=λak s O H Q I hw=>BoolOp_one (h ak s O H Q I hw)
theorem qA(ha:PE X a ta)(hb:PE X (.BoolOp .And (b::rest) pos) tb):PE X (.BoolOp .And (a::b::rest) pos) (QK ta tb):=by intro ak s O H Q I h;refine BoolOp_and (aW (ha ak s O H _ I h) λv s1 ⟨x,H1,I1,r1,q1⟩=>?_);obtain⟨c,rfl,q1⟩:=q1;cases r1;refine lD ?_;cases c with |true=>exact hb ak s1 O H1 Q I1 q1 |false=>exact⟨.bl false,H1,I1,Z,q1⟩
theorem TQ(ha:PE X a ta):PE X (.UnaryOp .Not a pos) (Qu ta):=by intro ak s O H Q I h;refine UnaryOp_ (aW (ha ak s O H _ I h) λv s1 ⟨x,H1,I1,r1,q1⟩=>?_);obtain⟨c,rfl,q1⟩:=q1;cases r1;exact not_of (lD ⟨.bl (!c),H1,I1,Z,q1⟩)
def QE(t:TT)(ta tb:TE):TE:=λO H Q=>t O H λc H1=>if c=true then ta O H1 Q else tb O H1 Q
theorem jc{c:Expr}(hc:PT X c tA)(ha:PE X a ta)(hb:PE X b tb):PE X (.IfExp c a b pos) (QE tA ta tb):=by intro ak s O H Q I h;refine wpAny_IfExp (aW (hc ak s O H _ I h) λd s1 ⟨H1,I1,q1⟩=>?_);cases d with |true=>exact ha ak s1 O H1 Q I1 q1 |false=>exact hb ak s1 O H1 Q I1 q1
end
def aH(K:aa)(H:Hp)(a:Addr)(xs:List V):Prop:=Rd H a (.lst xs)\/ ∃(o:Obj)(its:Array Value)(n:Nat),K.lookup a=some o/\o.cls= .type "list"/\o.dict=none/\o.data= .seq its n/\its.size<=sizeLine/\Vals xs its.toList
def aQ(K:aa)(H:Hp)(a:Addr)(xs:List V):Prop:=Rd H a (.tup xs)\/ ∃(o:Obj)(its:Array Value)(n:Nat),K.lookup a=some o/\o.cls= .type "tuple"/\o.data= .seq its n/\its.size<=sizeLine/\Vals xs its.toList
def a4a:Value->Option V | .none=>some .aZ | .bool b=>some (.bl b) | .int i _=>some (.int i) | .str x _=>some (.str x) | .bytes b _=>some (.iV b) | .float b _=>some (.yy b) | .ref a=>some (.ref a) | .type n=>some (.ty n) |_=>none
theorem RelV.abs{x:V}{u:Value}(r:RelV x u):a4a u=some x:=by cases x with |aZ=>cases r;rfl |bl _=>cases r;rfl |int _=>obtain⟨t,rfl⟩:=r;rfl |str _=>obtain⟨t,rfl⟩:=r;rfl |iV _=>obtain⟨t,rfl⟩:=r;rfl |yy _=>obtain⟨t,rfl⟩:=r;rfl |ref _=>cases r;rfl |ty _=>cases r;rfl
theorem RelV.inj{x y:V}{u:Value}(r:RelV x u)(q:RelV y u):x=y:=cW (r.abs.symm.trans q.abs)
theorem Vals.inj:∀{xs ys:List V}{us:List Value},Vals xs us->Vals ys us->xs=ys |_,_,_,.nil,.nil=>rfl |_,_,_,.cons r t,.cons r' t'=>by rw[r.inj r',Vals.inj t t']
section
variable {X:Cx}{ak:List (Addr×Obj)}{O:St}{H:Hp}{s:ae}{a:Addr}{xs ys:List V}
theorem aH.of{K:aa}(h:H a=some (.lst xs)):aH K H a xs:=.inl (.inl h)
theorem aQ.of{K:aa}(h:H a=some (.tup xs)):aQ K H a xs:=.inl (.inl h)
theorem Inv.list(I:Inv X ak O H s)(h:aH X.K H a xs):∃its:List Value,Vals xs its/\PlainL s.heap a its.toArray/\xs.length<=sizeLine:=by
 rcases h with h|⟨o,its,n,hk,hc,hd,hs,hz,r⟩
 ·obtain⟨z,its,n,r,e⟩:=h.ok I.aY
  exact⟨its,r,⟨_,n,e,Z,Z,Z⟩,z⟩
 ·refine⟨its.toList,r,⟨o,n,I.dB a o hk,hc,hd,by simpa using hs⟩,?_⟩
  have e:=r.length;simp only[vY]at e
  lia
theorem Inv.tuple(I:Inv X ak O H s)(h:aQ X.K H a xs):∃its:List Value,Vals xs its/\IsTup s.heap a its.toArray/\xs.length<=sizeLine:=by
 rcases h with h|⟨o,its,n,hk,hc,hs,hz,r⟩
 ·obtain⟨z,its,r,p⟩:=h.ok I.aY
  exact⟨its,r,p,z⟩
 ·refine⟨its.toList,r,⟨o,I.dB a o hk,hc,n,by simpa using hs⟩,?_⟩
  have e:=r.length;simp only[vY]at e
  lia
theorem Inv.Ld(I:Inv X ak O H s)(h:aH X.K H a xs)(h':aH X.K H a ys):xs=ys:=by
 obtain⟨its,r,⟨o,n,e,_,_,d⟩,_⟩:=I.list h;obtain⟨its',r',⟨o',n',e',_,_,d'⟩,_⟩:=I.list h';rw[e]at e';cases e';rw[d]at d';injection d' with d1 _;have:its=its':=by simpa using jL Array.toList d1
 subst this;exact r.inj r'
theorem Inv.Gp(I:Inv X ak O H s)(h:aQ X.K H a xs)(h':aQ X.K H a ys):xs=ys:=by
 obtain⟨its,r,⟨o,e,_,n,d⟩,_⟩:=I.tuple h;obtain⟨its',r',⟨o',e',_,n',d'⟩,_⟩:=I.tuple h';rw[e]at e';cases e';rw[d]at d';injection d' with d1 _;have:its=its':=by simpa using jL Array.toList d1
 subst this;exact r.inj r'
end
abbrev Cx.iE(X:Cx)(E:Value->ae->Prop):Cx:={X with xe:=E}
abbrev Cx.oW(X:Cx):Cx:=X.iE λ_ _=>False
theorem Cx.Ok.iE{X:Cx}(ok:X.Ok)(E:Value->ae->Prop):(X.iE E).Ok:=⟨ok.mod,ok.kind,ok.glob,ok.blt,ok.above,ok.inj,ok.has,ok.nN,ok.hd,ok.frames,ok.oj,ok.uU,ok.bs,ok.jq,ok.mY,ok.mq,ok.gI,ok.kz⟩
theorem Cx.Ok.kH{X:Cx}{E:Value->ae->Prop}(ok:(X.iE E).Ok):X.Ok:=⟨ok.mod,ok.kind,ok.glob,ok.blt,ok.above,ok.inj,ok.has,ok.nN,ok.hd,ok.frames,ok.oj,ok.uU,ok.bs,ok.jq,ok.mY,ok.mq,ok.gI,ok.kz⟩
section
variable {X:Cx}{ak:List (Addr×Obj)}{O:St}{H:Hp}{s:ae}{E:Value->ae->Prop}
theorem Inv.iE(I:Inv X ak O H s)(E:Value->ae->Prop):Inv (X.iE E) ak O H s:=⟨I.ok.iE E,I.os,I.bare,I.au,I.loc,I.cell,I.free,I.ij,I.pin,I.aY,I.len⟩
theorem Inv.kH(I:Inv (X.iE E) ak O H s):Inv X ak O H s:=⟨I.ok.kH,I.os,I.bare,I.au,I.loc,I.cell,I.free,I.ij,I.pin,I.aY,I.len⟩
theorem SP.kH{D:Ends}{f:Flow}{s':ae}(h:SP (X.iE E) ak D f s'):SP X ak D f s':=by cases f with |next=>obtain⟨σ',H',I,q⟩:=h;exact⟨σ',H',I.kH,q⟩ |brk=>obtain⟨σ',H',I,q⟩:=h;exact⟨σ',H',I.kH,q⟩ |cont=>obtain⟨σ',H',I,q⟩:=h;exact⟨σ',H',I.kH,q⟩ |ret u=>obtain⟨v,σ',H',I,r,q⟩:=h;exact⟨v,σ',H',I.kH,r,q⟩
theorem eV.oW{st:List Stmt}{t:TS}(h:eV X.oW st t):eV X st t:=λak s O H D I hw=>fO (h ak s O H D (I.iE _) hw) (λ_ _ q=>q.kH) λ_ _ z=>False.elim z
end
section
variable {X:Cx}{st:Stmt}{rest:List Stmt}{t u:TS}{e:Expr}{te:TE}{pos:Pos}
def Qx:TS:=λD O H=>D.nx O H
def Gy(t u:TS):TS:=λD O H=>t {D with nx:=u D} O H
theorem bC:eV X [] Qx:=λ_ _ O H _ I h=>vx ⟨O,H,I,h⟩
theorem aF(h1:PS X st t)(h2:eV X rest u):eV X (st::rest) (Gy t u):=by intro ak s O H D I h;refine wpAny_execs_cons (aW (h1 ak s O H {D with nx:=u D} I h) λf s1 q=>?_);cases f with |next=>obtain⟨σ',H',I',q⟩:=q;exact h2 ak s1 σ' H' D I' q |ret v=>exact q |brk=>exact q |cont=>exact q
theorem aI(h1:PS X st t):eV X [st] t:=by intro ak s O H D I h;refine wpAny_execs_cons (aW (h1 ak s O H D I h) λf s1 q=>?_);cases f with |next=>exact vx q |ret v=>exact q |brk=>exact q |cont=>exact q
theorem Inv.quiet{ak:List (Addr×Obj)}{O:St}{H:Hp}{s:ae}(I:Inv X ak O H s):interactive X.env=false:=by simp[interactive,I.ok.kind]
def QH(te:TE):TS:=λD O H=>te O H λ_ H1=>D.nx O H1
theorem Cd(he:PE X e te)(hs:swapsWith e none pos.line X.env=pure false:=by rfl):PS X (.Expr e pos) (QH te):=by intro ak s O H D I h;exact wpAny_Expr_any (aW (he ak s O H _ I h) λv s1 ⟨x,H1,I1,r1,q1⟩=>⟨O,H1,I1,q1⟩) I.quiet hs
def Qo(te:TE):TS:=λD O H=>te O H D.rt
theorem aR(he:PE X e te):PS X (.Return (some e) pos) (Qo te):=by intro ak s O H D I h;exact wpAny_Return_some (aW (he ak s O H _ I h) λv s1 ⟨x,H1,I1,r1,q1⟩=>⟨x,O,H1,I1,r1,q1⟩)
def GG(c:TT)(t u:TS):TS:=λD O H=>c O H λb H1=>if b=true then t D O H1 else u D O H1
theorem bB{c:Expr}{a b:List Stmt}{tc:TT}(hc:PT X c tc)(ha:eV X a t)(hb:eV X b u):PS X (.If c a b pos) (GG tc t u):=by intro ak s O H D I h;refine wpAny_If (aW (hc ak s O H _ I h) λd s1 ⟨H1,I1,q1⟩=>?_);cases d with |true=>exact ha ak s1 O H1 D I1 q1 |false=>exact hb ak s1 O H1 D I1 q1
def GB:TS:=λ_ _ _=>False
theorem oJ:PS X st GB:=λ_ _ _ _ _ _ h=>h.elim
theorem xf{QS:List Stmt}:eV X QS GB:=λ_ _ _ _ _ _ h=>h.elim
end
abbrev TG:=V->St->Hp->(St->Hp->Prop)->Prop
abbrev lB:=List V->St->Hp->(St->Hp->Prop)->Prop
def PG(X:Cx)(target:Expr)(t:TG):Prop:=∀(ak:List (Addr×Obj))(s:ae)(O:St)(H:Hp)(v:V)(u:Value)(Q:St->Hp->Prop),Inv X ak O H s->RelV v u->t v O H Q->wpAny (model X.prog X.w) X.A (assign target X.env u) (λ_ s'=>∃σ' H',Inv X ak σ' H' s'/\Q σ' H') X.xe s
def vi(X:Cx)(ts:List Expr)(t:lB):Prop:=∀(ak:List (Addr×Obj))(s:ae)(O:St)(H:Hp)(vs:List V)(us:List Value)(Q:St->Hp->Prop),Inv X ak O H s->Vals vs us->t vs O H Q->wpAny (model X.prog X.w) X.A (assignInOrder ((assignEach ts X.env).map (·.2)) us) (λ_ s'=>∃σ' H',Inv X ak σ' H' s'/\Q σ' H') X.xe s
abbrev Fg:=V->V->V->Hp->(Hp->Prop)->Prop
def Oi(X:Cx)(t:Fg):Prop:=∀(ak:List (Addr×Obj))(s:ae)(O:St)(H:Hp)(o i v:V)(ov iv u:Value)(Q:Hp->Prop),Inv X ak O H s->RelV o ov->RelV i iv->RelV v u->t o i v H Q->wpAny (model X.prog X.w) X.A (setItem ov iv u) (λ_ s'=>∃H',Inv X ak O H' s'/\Q H') X.xe s
section
variable {X:Cx} {pos:Pos}
def fT(i:Nat):TG:=λv O H Q=>Q (O.set i (some v)) H
theorem TL{i:Nat}{x:Str}(hN:X.N.Nodup)(hi:X.N[i]? =some x)(hx:Loc X.env.scope x)(hf:X.fn x=true\/X.env.scope.names.lookup x=some .local:=by first|exact .inl rfl|exact .inr rfl|assumption):PG X (.Name x pos) (fT i):=by intro ak s O H v u Q I r h;exact wpAny_assign_Name (ql I hN hi hx r (λs' I'=>⟨_,H,I',h⟩) hf)
def Em:lB:=λvs O H Q=>vs=[]/\Q O H
inductive a6n(t:TG)(u:lB)(vs:List V)(O:St)(H:Hp)(Q:St->Hp->Prop):Prop |mk (v:_)(r:_)(h0:vs=v::r)(h1:t v O H λσ' H'=>u r σ' H' Q)
def uQ(t:TG)(u:lB):lB:=λvs O H Q=>a6n t u vs O H Q
theorem dR:vi X [] Em:=by intro ak s O H vs us Q I r h;obtain⟨e,h⟩:=h;subst e;cases r;exact assignInOrder_nil ⟨O,H,I,h⟩
theorem bM{e:Expr}{es:List Expr}{t:TG}{u:lB}(h1:PG X e t)(h2:vi X es u) (hs:(assignEach (e::es) X.env).map (·.2)=assign e X.env::(assignEach es X.env).map (·.2):=by rfl):vi X (e::es) (uQ t u):=by intro ak s O H vs us Q I r h;obtain⟨v,vr,e1,h⟩:=h;subst e1;cases r with |cons r rr=>rw[hs];refine zv (aW (h1 ak s O H _ _ _ I r h) λ_ s1 ⟨σ1,H1,I1,q1⟩=>?_);exact h2 ak s1 σ1 H1 _ _ Q I1 rr q1
inductive a6l(K:aa)(n:Nat)(t:lB)(v:V)(O:St)(H:Hp)(Q:St->Hp->Prop):Prop |mk (a:_)(xs:_)(h0:v= .ref a)(h1:aQ K H a xs)(h2:xs.length=n)(h3:t xs O H Q)
def yn(K:aa)(n:Nat)(t:lB):TG:=λv O H Q=>a6l K n t v O H Q
theorem TK{es:List Expr}{k:Nat}{t:lB}{n:Nat}(hc:X.calm=true)(h:vi X es t) (hn:(assignEach es X.env).length=n:=by rfl)(fh:(assignEach es X.env).findIdx? (·.1)=none:=by rfl):PG X (.Tuple es k pos) (yn X.K n t):=by intro ak s O H v u Q I r hw;obtain⟨a,xs,e1,hq,hl,hw⟩:=hw;subst e1;cases r;obtain⟨its,rv,ht,hz⟩:=I.tuple hq;refine assign_Tuple_tuple (I.ok.hd hc) ht (by simp[hn,<-hl,rv.length]) fh λh' hx=>?_;have I1:Inv X ak O H {s with heap:=h'}:=I.kept (t':=s.toks) λb o e=>hx b o (dw (bN e)) e;exact h ak _ O H xs _ Q I1 (by simpa using rv) hw
def a1d(to ti:TE)(t:Fg):TG:=λv O H Q=>to O H λo H1=>ti O H1 λi H2=>t o i v H2 λH3=>Q O H3
theorem oN{o i:Expr}{to ti:TE}{t:Fg}(ho:PE X o to)(hi:PE X i ti)(hs:Oi X t) (ha:∀v,assign (.Subscript o i pos) X.env v=(do
 let ov<-holding [v] (eval o X.env)
 let iv<-holding [v,ov] (eval i X.env)
 standAt pos
 holding [v,ov,iv] (setItem ov iv v)
 release [v,ov,iv] []):=by intro _;rfl):PG X (.Subscript o i pos) (a1d to ti t):=by
 intro ak s O H v u Q I r h;rw[ha];refine aD (gO (aW (ho ak s O H _ I h) λov s1 ⟨x,H1,I1,r1,q1⟩=>?_));refine aD (gO (aW (hi ak s1 O H1 _ I1 q1) λiv s2 ⟨y,H2,I2,r2,q2⟩=>?_));refine aD (pX (aD (gO (aW (hs ak s2 O H2 x y v ov iv u _ I2 r1 r2 r q2) λ_ s3 ⟨H3,I3,q3⟩=>?_))));exact wpAny_release ⟨O,H3,I3,q3⟩
def wF(te:TE)(g:TG):TS:=λD O H=>te O H λx H1=>g x O H1 D.nx
theorem eu{tg e:Expr}{te:TE}{g:TG}(he:PE X e te)(hg:PG X tg g)(hs:swapsWithSole [tg] e pos.line X.env=pure false:=by rfl)(hw:swappedStores [tg] e X.env=pure none:=by rfl) (h1:(assignEach [tg] X.env).map (·.2)=[assign tg X.env]:=by rfl):PS X (.Assign [tg] e pos) (wF te g):=by intro ak s O H D I h;refine wpAny_Assign_stores (aW (he ak s O H _ I h) λv s1 ⟨x,H1,I1,r1,q1⟩=>?_) hs hw;rw[h1];exact aW (hg ak s1 O H1 x v _ I1 r1 q1) λ_ s2 q=>q
theorem JT{i:Nat}{x:Str}{e:Expr}{te:TE}{pos':Pos}(hN:X.N.Nodup)(hi:X.N[i]? =some x)(hx:Loc X.env.scope x)(he:PE X e te)(hs:swapsWith e (some (.Name x pos')) pos.line X.env=pure false:=by rfl)(hf:X.fn x=true\/X.env.scope.names.lookup x=some .local:=by first|exact .inl rfl|exact .inr rfl|assumption): PS X (.Assign [.Name x pos'] e pos) (wF te (fT i)):=by intro ak s O H D I h;refine wpAny_Assign_Name (aW (he ak s O H _ I h) λv s1 ⟨y,H1,I1,r1,q1⟩=>?_) hs;exact ql I1 hN hi hx r1 (λs2 I2=>⟨_,H1,I2,q1⟩) hf
inductive a4B(i:Nat)(j:Nat)(D:Ends)(O:St)(vs:List V)(H1:Hp):Prop |mk (v:_)(w:_)(h0:vs=[v,w])(h1:D.nx ((O.set i (some v)).set j (some w)) H1)
def Qs(i j:Nat)(ta:TA):TS:=λD O H=>ta O H λvs H1=>a4B i j D O vs H1
theorem xg{i j:Nat}{x y:Str}{a b:Expr}{ta:TA}{px py pt:Pos} {kt k2 Ca}(hc:X.calm=true)(hN:X.N.Nodup)(hi:X.N[i]? =some x)(hj:X.N[j]? =some y)(Z1:i≠j) (hx:X.env.scope.names.lookup x=some .local)(hy:X.env.scope.names.lookup y=some .local)(ha:PA X [a,b] ta) (hw:swappedStores [.Tuple [.Name x px,.Name y py] kt pt] (.Tuple [a,b] k2 Ca) X.env=pure (some [x,y])) (hs:swapsWithSole [.Tuple [.Name x px,.Name y py] kt pt] (.Tuple [a,b] k2 Ca) pos.line X.env=pure false:=by rfl): PS X (.Assign [.Tuple [.Name x px,.Name y py] kt pt] (.Tuple [a,b] k2 Ca) pos) (Qs i j ta):=by
 intro ak s O H D I h;rw[exec_Assign_arm];refine aD (pX ?_);rw[hs];refine aD (bA ?_);rw[aV az];refine aD (Tuple_ (aW (ha _ ak s O H _ I h) λus s1 ⟨vs,H1,I1,r1,q1⟩=>?_));obtain⟨v,w,e1,q1⟩:=q1;subst e1;obtain⟨u1,u2,rfl,rv,kM⟩:∃u1 u2,us=[u1,u2]/\RelV v u1/\RelV w u2:=by cases r1 with |cons p q=>cases q with |cons p' q'=>cases q';exact⟨_,_,Z,p,p'⟩
 refine mJ ?_ (by show 2<=sizeLine;decide);have I2:Inv X ak O H1 {s1 with heap:=s1.heap.push {cls:=.type "tuple",data:=.seq [u1,u2].toArray}}:=I1.kept (t':=s1.toks) λb o e=>bQ _ e;rw[hw];refine aD (bA ?_);show wpAny (model X.prog X.w) X.A (do rule "assign.swapped-stores";let items<-unpackItems (.ref s1.heap.objs.size) 2 none;assignInOrder [λv=>bindName X.env y v,λv=>bindName X.env x v] items.reverse;pure Flow.next) _ _ _;refine aD (wpAny_rule (aD (unpackItems_tuple (items:=#[u1,u2]) (I.ok.hd hc) (IsTup.new s1.heap _) λh' Yb=>?_)));have I3:=I2.kept (h':=h') (t':=s1.toks) λb o e=>Yb b o (dw (bN e)) e;show wpAny _ _ (assignInOrder [λv=>bindName X.env y v,λv=>bindName X.env x v] [u2,u1]>>=λ_=>pure Flow.next) _ _ _;refine aD (zv (wpAny_bindName (ql I3 hN hj (.inl hy) kM (λs2 I4=>?_) (.inr hy))));refine zv (wpAny_bindName (ql I4 hN hi (.inl hx) rv (λs3 I5=>assignInOrder_nil (bA ?_)) (.inr hx)));rw[List.set_comm _ _ (iz Z1)]at I5;exact⟨_,H1,I5,q1⟩
def Gv(c:TT)(tb:TS):TS:=λD O H=>∃W:Nat->St->Hp->Prop,(∃m,W m O H)/\∀m O H,W m O H->c O H λb H1=>if b=true then∃N:St->Hp->Prop,(∀σ' H',N σ' H'->∃m',m'<m/\W m' σ' H')/\tb {D with nx:=N,ct:=N,bk:=D.nx} O H1 else D.nx O H1
theorem Cb{c:Expr}{body:List Stmt}{tc:TT}{tb:TS}(hp:PassesOwn (model X.prog X.w) X.A X.env X.xe)(hc:PT X c tc)(hb:eV X body tb):PS X (.While c body [] pos) (Gv tc tb):=by intro ak s O H D I h;obtain⟨W,⟨m0,w0⟩,turn⟩:=h;refine wpAny_While (codeAny_whileLoop (λn s'=>∃σ' H',Inv X ak σ' H' s'/\W n σ' H') ?_ m0 ⟨O,H,I,w0⟩);rintro n s1 ⟨σ1,H1,I1,w1⟩;refine sx hp (aW (hc ak s1 σ1 H1 _ I1 (turn n σ1 H1 w1)) λb s2 ⟨H2,I2,q2⟩=>?_);cases b with
 |true=>obtain⟨N,hN,q2⟩:=q2;rw[aU rfl];refine sx hp (aW (hb ak s2 σ1 H2 _ I2 q2) λf s3 q3=>?_);cases f with |next=>obtain⟨σ3,H3,I3,n3⟩:=q3;obtain⟨m',hm,w3⟩:=hN σ3 H3 n3;exact⟨m',hm,σ3,H3,I3,w3⟩ |cont=>obtain⟨σ3,H3,I3,n3⟩:=q3;obtain⟨m',hm,w3⟩:=hN σ3 H3 n3;exact⟨m',hm,σ3,H3,I3,w3⟩ |brk=>exact q3 |ret v=>exact q3
 |false=>rw[aV de];exact vx ⟨σ1,H2,I2,q2⟩
end
structure It where
 go:Nat->Hp->Prop
 iD:Nat->Hp->V->Hp->Prop
 stop:Nat->Hp->Prop
def jt(X:Cx)(ak:List (Addr×Obj))(H:Hp)(b:Addr):Prop:=H b=none/\b≠X.env.locals/\b∉X.fs/\(b∈X.ex\/X.s₀.heap.objs.size<=b)/\(∀x c,X.env.cells.lookup x=some c->c≠b)/\∀p∈X.pn++ak,p.1≠b
theorem Inv.mi{X:Cx}{ak:List (Addr×Obj)}{O:St}{H H':Hp}{s:ae}{b:Addr}(I:Inv X ak O H s)(hb:s.heap.objs.size<=b)(hn:H' b=none):jt X ak H' b:=by
 refine⟨hn,vM (fk I.lt hb),I.Wa hb,.inr (f9 I.sz hb),λx c e z=>?_,λp hp z=>?_⟩
 ·obtain⟨v,q⟩:=I.cell x c e
  exact absurd (fk q.lt (by rw[z];exact hb)) (nX _)
 ·exact absurd (fk (bN (I.pin p hp).1) (by rw[z];exact hb)) (nX _)
structure Turn(P:af)(w:World)(K:aa)(tg:Expr)(J:It)(fp:List Addr)(it:Addr)(tn:Nat->Heap->Prop):Prop where
 mem:it∈fp
 obj:∀i h,tn i h->∀b∈fp,∃o,h.get? b=some o/\∀v,o.data≠ .cell v
 keep:∀i h h',tn i h->(∀b∈fp,∀o,h.get? b=some o->h'.get? b=some o)->tn i h'
 item:∀(X:Cx),X.prog=P->X.w=w->X.K=K->X.calm=true->∀(i:Nat)(ak:List (Addr×Obj))(s:ae)(O:St)(H:Hp)(E:Value->ae->Prop),Inv X ak O H s->(∀b∈fp,jt X ak H b)->tn i s.heap->J.go i H->wpAny (model P w) X.A (pyNext (.ref it)) (λr s1=>∃u,r=some u/\wpAny (model P w) X.A (letOwnedTupleGo tg (.ref it) u) (λ_ s2=>∃x H',Inv X ak O H' s2/\RelV x u/\J.iD i H x H'/\tn (i+1) s2.heap/\∀b∈fp,H' b=none) E s1) E s
 done:∀(X:Cx),X.prog=P->X.w=w->X.K=K->X.calm=true->∀(i:Nat)(ak:List (Addr×Obj))(s:ae)(O:St)(H:Hp)(E:Value->ae->Prop),Inv X ak O H s->(∀b∈fp,jt X ak H b)->tn i s.heap->J.stop i H->wpAny (model P w) X.A (pyNext (.ref it)) (λr s1=>r=none/\Inv X ak O H s1) E s
 self:∀(A:ai)(i:Nat)(s:ae)(Q:Value->ae->Prop)(E:Value->ae->Prop),tn i s.heap->Q (.ref it) s->wpAny (model P w) A (pyIter (.ref it)) Q E s
abbrev TI:=St->Hp->(It->Hp->Prop)->Prop
def zi(X:Cx)(ak:List (Addr×Obj))(O:St)(tg:Expr)(R:It->Hp->Prop)(xO:Value)(s2:ae):Prop:=∃(it:Addr)(fp:List Addr)(tn:Nat->Heap->Prop)(J:It)(H':Hp),xO= .ref it/\Inv X ak O H' s2/\Turn X.prog X.w X.K tg J fp it tn/\tn 0 s2.heap/\(∀b∈fp,jt X ak H' b)/\R J H'
def PI(X:Cx)(tg iter:Expr)(wi:TI):Prop:=∀(ak:List (Addr×Obj))(s:ae)(O:St)(H:Hp)(R:It->Hp->Prop),Inv X ak O H s->wi O H R->wpAny (model X.prog X.w) X.A (eval iter X.env) (λv s1=>wpAny (model X.prog X.w) X.A (pyIter v) (zi X ak O tg R) X.xe s1) X.xe s
theorem rC{M:Model}{A:ai}{E:Value->ae->Prop}{s:ae}{tg:Expr}{it:Addr}{u:Value}{o:Obj}{n:String}{vs:Array Value}{Q:Unit->ae->Prop}(ho:s.heap.get? it=some o)(hc:o.cls= .type n)(hd:o.data= .fields vs) (hn:["enumerate","zip","dict_itemiterator","dict_reverseitemiterator","odict_iterator","itertools.zip_longest","itertools.pairwise"].contains n=false)(hQ:Q () s):wpAny M A (letOwnedTupleGo tg (.ref it) u) Q E s:=by unfold letOwnedTupleGo;cases tg<;>first |exact bA hQ |(cases u<;>first
        |exact bA hQ
        | (refine aD (wpAny_load ho ?_)
           rw[hc,hd];show wpAny M A (if(["enumerate","zip","dict_itemiterator","dict_reverseitemiterator","odict_iterator","itertools.zip_longest","itertools.pairwise"].contains n&&vs[0]? ==some (rawInt _))=true then _ else _) Q E s;rw[aV (by intro h;rw[hn,fY]at h;cases h)];exact bA hQ))
def sf(K:aa)(a:Addr):It:=⟨λi H=>∃xs x,aH K H a xs/\xs[i]? =some x,λi H x H'=>H'=H/\∀xs,aH K H a xs->xs[i]? =some x,λi H=>∃xs,aH K H a xs/\xs.length<=i⟩
def vk(K:aa)(a:Addr):It:=⟨λi H=>∃xs x,aQ K H a xs/\xs[i]? =some x,λi H x H'=>H'=H/\∀xs,aQ K H a xs->xs[i]? =some x,λi H=>∃xs,aQ K H a xs/\xs.length<=i⟩
def mE(lo:Int)(n:Nat):It:=⟨λi _=>i<n,λi H x H'=>H'=H/\x= .int (lo+i),λi _=>n<=i⟩
theorem Q6{P:af}{w:World}{K:aa}{tg:Expr}(a it:Addr):Turn P w K tg (sf K a) [it] it (λi h=>h.IsListIter it a i) where
 mem:=by simp
 obj:=λi h st b hb=>by
  have e:b=it:=by simpa using hb
  subst e;obtain⟨o,e,c,d⟩:=st;exact⟨o,e,λv z=>by rw[d]at z;cases z⟩
 keep:=λi h h' st k=>st.at λo e=>k it (by simp) o e
 item:=by intro X hP hw hK hc i ak s O H E I hf st hg;subst hP hw hK;obtain⟨xs,x,hq,hx⟩:=hg;obtain⟨its,rv,p,hz⟩:=I.list hq;obtain⟨u,hu,ru⟩:=rv.get hx;obtain⟨f0,f1,f2,f3,f4,f5⟩:=hf it (by simp);refine wpAny_pyNext_list_item st p.isList (x:=u) (by simpa using hu) λh' fc sb=>?_;have I1:Inv X ak O H {s with heap:=h'}:=I.turned (t':=s.toks) (λb o hb e=>(sb.2 b hb).trans e) f0 f1 f3 f4 f5;obtain⟨o,e,c,d⟩:=id fc;exact⟨u,Z,rC (s:={s with heap:=h'}) e c d az ⟨x,H,I1,ru,⟨Z,λys hy=>by rw[I.Ld hy hq];exact hx⟩,fc,λb hb=>(hf b hb).1⟩⟩
 done:=by intro X hP hw hK hc i ak s O H E I hf st hg;subst hP hw hK;obtain⟨xs,hq,hx⟩:=hg;obtain⟨its,rv,p,hz⟩:=I.list hq;obtain⟨f0,f1,f2,f3,f4,f5⟩:=hf it (by simp);have hl:=rv.length;exact wpAny_pyNext_list_end (I.ok.hd hc) st p.isList (by simp;lia) λh' eb=>⟨Z,I.turned (t':=s.toks) (λb o hb e=>eb b o hb e) f0 f1 f3 f4 f5⟩
 self:=λ_ _ _ _ _ st h=>wpAny_pyIter_listiter st h
theorem Q0{P:af}{w:World}{K:aa}{tg:Expr}(a it:Addr):Turn P w K tg (vk K a) [it] it (λi h=>h.IsTupleIter it a i) where
 mem:=by simp
 obj:=λi h st b hb=>by
  have e:b=it:=by simpa using hb
  subst e;obtain⟨o,e,c,d⟩:=st;exact⟨o,e,λv z=>by rw[d]at z;cases z⟩
 keep:=λi h h' st k=>st.at λo e=>k it (by simp) o e
 item:=by intro X hP hw hK hc i ak s O H E I hf st hg;subst hP hw hK;obtain⟨xs,x,hq,hx⟩:=hg;obtain⟨its,rv,p,hz⟩:=I.tuple hq;obtain⟨u,hu,ru⟩:=rv.get hx;obtain⟨f0,f1,f2,f3,f4,f5⟩:=hf it (by simp);refine wpAny_pyNext_tuple_item st (show s.heap.IsTuple a its.toArray from p) (x:=u) (by simpa using hu) λh' fc sb=>?_;have I1:Inv X ak O H {s with heap:=h'}:=I.turned (t':=s.toks) (λb o hb e=>(sb.2 b hb).trans e) f0 f1 f3 f4 f5;obtain⟨o,e,c,d⟩:=id fc;exact⟨u,Z,rC (s:={s with heap:=h'}) e c d az ⟨x,H,I1,ru,⟨Z,λys hy=>by rw[I.Gp hy hq];exact hx⟩,fc,λb hb=>(hf b hb).1⟩⟩
 done:=by intro X hP hw hK hc i ak s O H E I hf st hg;subst hP hw hK;obtain⟨xs,hq,hx⟩:=hg;obtain⟨its,rv,p,hz⟩:=I.tuple hq;obtain⟨f0,f1,f2,f3,f4,f5⟩:=hf it (by simp);have hl:=rv.length;exact wpAny_pyNext_tuple_end (I.ok.hd hc) st (show s.heap.IsTuple a its.toArray from p) (by simp;lia) λh' eb=>⟨Z,I.turned (t':=s.toks) (λb o hb e=>eb b o hb e) f0 f1 f3 f4 f5⟩
 self:=λ_ _ _ _ _ st h=>wpAny_pyIter_tupleiter st h
theorem Q5{P:af}{w:World}{K:aa}{tg:Expr}(it:Addr)(lo:Int)(n:Nat):Turn P w K tg (mE lo n) [it] it (λi h=>IsRangeIter h it (lo+(i:Nat)*1) ((n:Int)-(i:Nat)) 1) where
 mem:=by simp
 obj:=λi h st b hb=>by
  have e:b=it:=by simpa using hb
  subst e;exact⟨_,st,λv z=>by have z':Data.fields _=Data.cell v:=z;cases z'⟩
 keep:=λi h h' st k=>k it (by simp) _ st
 item:=by intro X hP hw hK hc i ak s O H E I hf st hg;subst hP hw hK;obtain⟨f0,f1,f2,f3,f4,f5⟩:=hf it (by simp);have W:=Walks.range (prog:=X.prog) (w:=X.w) (I.ok.hd hc) it lo 1 n;refine W.item i s _ _ hg st λv h' tk hv fc kk=>?_;obtain⟨t,rfl⟩:=hv;have I1:Inv X ak O H {s with heap:=h',toks:=tk}:=I.turned (λb o hb e=>kk b o (by simpa using hb) e) f0 f1 f3 f4 f5;refine⟨_,Z,rC (s:={s with heap:=h',toks:=tk}) (n:="range_iterator") fc rfl rfl az ⟨.int (lo+i),H,I1,⟨t,?_⟩,⟨Z,Z⟩,fc,λb hb=>(hf b hb).1⟩⟩;rw[Int.mul_one]
 done:=by intro X hP hw hK hc i ak s O H E I hf st hg;subst hP hw hK;obtain⟨f0,f1,f2,f3,f4,f5⟩:=hf it (by simp);exact OF (I.ok.hd hc) st (by have:n<=i:=hg;lia) λh' eb=>⟨Z,I.turned (t':=s.toks) (λb o hb e=>eb b o hb e) f0 f1 f3 f4 f5⟩
 self:=λ_ _ _ _ _ st h=>Fw st h
section
variable {X:Cx} {tg:Expr}
inductive a6j(K:aa)(R:It->Hp->Prop)(x:V)(H1:Hp):Prop |mk (a:_)(h0:x= .ref a)(h1:(∃xs,aH K H1 a xs))(h2:R (sf K a) H1)
def LD(K:aa)(tl:TE):TI:=λO H R=>tl O H λx H1=>a6j K R x H1
inductive a6d(K:aa)(R:It->Hp->Prop)(x:V)(H1:Hp):Prop |mk (a:_)(h0:x= .ref a)(h1:(∃xs,aQ K H1 a xs))(h2:R (vk K a) H1)
def LC(K:aa)(tl:TE):TI:=λO H R=>tl O H λx H1=>a6d K R x H1
theorem TF{l:Expr}{tl:TE}(hl:PE X l tl):PI X tg l (LD X.K tl):=by
 intro ak s O H R I h;refine aW (hl ak s O H _ I h) λv s1 ⟨x,H1,I1,r1,q1⟩=>?_;obtain⟨a,e,⟨xs,hq⟩,q⟩:=q1;subst e;cases r1;obtain⟨its,rv,p,hz⟩:=I1.list hq;refine vt p.isList ?_;refine⟨s1.heap.objs.size,[s1.heap.objs.size],_,_,H1,Z,I1.kept (t':=s1.toks) λb o e=>bQ _ e,Q6 a _,⟨_,cS _ Z,Z,Z⟩,λb hb=>?_,q⟩;have e:b=s1.heap.objs.size:=by simpa using hb
 subst e;exact I1.mi (bq _) (I1.aY.fresh (bq _))
theorem Tw{l:Expr}{tl:TE}(hl:PE X l tl):PI X tg l (LC X.K tl):=by
 intro ak s O H R I h;refine aW (hl ak s O H _ I h) λv s1 ⟨x,H1,I1,r1,q1⟩=>?_;obtain⟨a,e,⟨xs,hq⟩,q⟩:=q1;subst e;cases r1;obtain⟨its,rv,p,hz⟩:=I1.tuple hq;refine wpAny_pyIter_tuple (show s1.heap.IsTuple a its.toArray from p) ?_;refine⟨s1.heap.objs.size,[s1.heap.objs.size],_,_,H1,Z,I1.kept (t':=s1.toks) λb o e=>bQ _ e,Q0 a _,⟨_,cS _ Z,Z,Z⟩,λb hb=>?_,q⟩;have e:b=s1.heap.objs.size:=by simpa using hb
 subst e;exact I1.mi (bq _) (I1.aY.fresh (bq _))
theorem JM{ak:List (Addr×Obj)}{O:St}{H:Hp}{s:ae}{R:It->Hp->Prop}{E:Value->ae->Prop}{lo hi:Int}{t u v:Tok}{tk:Nat}(I:Inv X ak O H s)(h1:-(2^62)<=lo)(h2:lo<2^62)(h3:-(2^62)<=hi)(h4:hi<2^62) (q:R (mE lo (hi-lo).toNat) H):wpAny (model X.prog X.w) X.A (pyIter (.ref s.heap.objs.size)) (zi X ak O tg R) E {s with heap:=s.heap.push {cls:=.type "range",data:=.fields #[.int lo t,.int hi u,.int 1 v]},toks:=tk}:=by
 refine wpAny_pyIter_range (IsRange.new ..) (small_one h1 h2 h3 h4) ?_;have I1:Inv X ak O H {s with heap:=s.heap.push {cls:=.type "range",data:=.fields #[.int lo t,.int hi u,.int 1 v]},toks:=tk}:=I.kept λb o e=>bQ _ e;refine⟨(s.heap.push {cls:=.type "range",data:=.fields #[.int lo t,.int hi u,.int 1 v]}).objs.size,[(s.heap.push {cls:=.type "range",data:=.fields #[.int lo t,.int hi u,.int 1 v]}).objs.size],_,_,H,Z,I1.kept (t':=tk) λb o e=>bQ _ e,Q5 _ lo (hi-lo).toNat,?_,λb hb=>?_,q⟩
 ·have e1:lo+((0:Nat):Int)*1=lo:=by simp
  have e2:(((hi-lo).toNat:Nat):Int)-((0:Nat):Int)=Builtin.Range.rangeSize lo hi 1:=by rw[rangeSize_one];split<;>lia
  show IsRangeIter _ _ (lo+((0:Nat):Int)*1) ((((hi-lo).toNat:Nat):Int)-((0:Nat):Int)) 1;rw[e1,e2];exact cS _ rfl
 ·have e:b=(s.heap.push {cls:=.type "range",data:=.fields #[.int lo t,.int hi u,.int 1 v]}).objs.size:=by simpa using hb
  subst e;exact I1.mi (bq _) (I1.aY.fresh (bq _))
inductive a6h(R:It->Hp->Prop)(vs:List V)(H1:Hp):Prop |mk (j:Int)(h0:vs=[.int j])(h1:-(2^62)<=j)(h2:j<2^62)(h3:R (mE 0 j.toNat) H1)
def Y4(ta:TA):TI:=λO H R=>ta O H λvs H1=>a6h R vs H1
inductive a6g(R:It->Hp->Prop)(vs:List V)(H1:Hp):Prop |mk (i:Int)(j:Int)(h0:vs=[.int i,.int j])(h1:(-(2^62)<=i/\i<2^62/\-(2^62)<=j/\j<2^62))(h2:R (mE i (j-i).toNat) H1)
def Y3(ta:TA):TI:=λO H R=>ta O H λvs H1=>a6g R vs H1
theorem oK{a:Expr}{ta:TA}{p pos:Pos}(hg:Gl X "range")(hm:X.mg "range"=none)(ha:PA X [a] ta)(hs:starEach [a] X.env=[(false,eval a X.env)]:=by rfl):PI X tg (.Call (.Name "range" p) [a] [] pos) (Y4 ta):=by intro ak s O H R I h;refine Call_ (m3 I hg hm boot_range (sE (aW (ha pos ak s O H _ I h) λus s1 ⟨vs,H1,I1,r1,q1⟩=>?_) hs Z));obtain⟨j,e,q1,q2,q⟩:=q1;subst e;cases r1 with |cons r rr=>cases rr;obtain⟨t,rfl⟩:=r;exact call_range_1 (JM I1 aw aw q1 q2 (by simpa using q))
theorem TB{a b:Expr}{ta:TA}{p pos:Pos}(hg:Gl X "range")(hm:X.mg "range"=none)(ha:PA X [a,b] ta)(hs:starEach [a,b] X.env=[(false,eval a X.env),(false,eval b X.env)]:=by rfl)(gv:starEach [b] X.env=[(false,eval b X.env)]:=by rfl): PI X tg (.Call (.Name "range" p) [a,b] [] pos) (Y3 ta):=by intro ak s O H R I h;refine Call_ (m3 I hg hm boot_range (sE (aW (ha pos ak s O H _ I h) λus s1 ⟨vs,H1,I1,r1,q1⟩=>?_) (by rw[hs,gv]) (by rw[gv];rfl)));obtain⟨i,j,e,⟨q1,q2,q3,q4⟩,q⟩:=q1;subst e;cases r1 with |cons r rr=>cases rr with |cons r' rr=>cases rr;obtain⟨t,rfl⟩:=r;obtain⟨t',rfl⟩:=r';exact call_range_2 (JM I1 q1 q2 q3 q4 q)
def QF(wi:TI)(g:TG)(tb:TS):TS:=λD O H=>wi O H λJ H1=>∃W:Nat->Nat->St->Hp->Prop,(∃m,W 0 m O H1)/\∀i m O H,W i m O H->(J.stop i H/\D.nx O H)\/(J.go i H/\∃N:St->Hp->Prop,(∀σ' H',N σ' H'->∃m',m'<m/\W (i+1) m' σ' H')/\∀x H',J.iD i H x H'->g x O H' λσ2 H2=>tb {D with nx:=N,ct:=N,bk:=D.nx} σ2 H2)
def qw(fp:List Addr)(h:Heap):List (Addr×Obj):=fp.filterMap λb=>(h.get? b).map λo=>(b,o)
theorem qQ{fp:List Addr}{h:Heap}{b:Addr}{o:Obj}(hb:b∈fp)(e:h.get? b=some o):(b,o)∈qw fp h:=iA.mpr ⟨b,hb,by rw[e];rfl⟩
theorem VW{fp:List Addr}{h:Heap}{p:Addr×Obj}(hp:p∈qw fp h):p.1∈fp/\h.get? p.1=some p.2:=by obtain⟨b,hb,e⟩:=iA.mp hp;cases q:h.get? b with |none=>rw[q]at e;cases e |some o=>rw[q]at e;have e':(b,o)=p:=cW e;subst e';exact⟨hb,q⟩
theorem Inv.pinned{ak:List (Addr×Obj)}{O:St}{H:Hp}{s:ae}{fp:List Addr}(I:Inv X ak O H s)(hf:∀b∈fp,jt X ak H b)(ho:∀b∈fp,∃o,s.heap.get? b=some o/\∀v,o.data≠ .cell v):Inv X (ak++qw fp s.heap) O H s:=I.K0 λp hp=>(jN.mp hp).elim (λz=>I.pin p (j4 _ z)) λz=>by obtain⟨hb,e⟩:=VW z;obtain⟨f0,f1,f2,_⟩:=hf p.1 hb;obtain⟨o,e',d⟩:=ho p.1 hb;rw[e]at e';cases e';exact⟨e,f0,f1,f2,d⟩
theorem Inv.sR{ak pl:List (Addr×Obj)}{O:St}{H:Hp}{s:ae}(I:Inv X (ak++pl) O H s):Inv X ak O H s:=I.K0 λp hp=>I.pin p (j4 _ (FU _ hp))
theorem kO{iter:Expr}{body:List Stmt}{wi:TI}{g:TG}{tb:TS}{pos:Pos}(hp:PassesOwn (model X.prog X.w) X.A X.env X.xe)(hc:X.calm=true)(hi:PI X tg iter wi)(hg:PG X tg g)(hb:eV X body tb) (hs:∀x,foldedSetIterable iter X.env x=pure x:=by intro _;rfl):PS X (.For tg iter body [] pos) (QF wi g tb):=by
 intro ak s O H D I h;refine wpAny_For (aW (hi ak s O H _ I h) λv s1 h1=>aW h1 λxO s2 h2=>?_) hs;obtain⟨it,fp,tn,J,H2,e,I2,T,oo,f2,W,⟨m0,w0⟩,turn⟩:=h2;subst e;have jR:∀{H':Hp},(∀b∈fp,H' b=none)->∀b∈fp,jt X ak H' b:=λhn b hb=>⟨hn b hb,(f2 b hb).2⟩;refine codeAny_forLoop_any (λn s'=>∃i σ' H',Inv X ak σ' H' s'/\tn i s'.heap/\(∀b∈fp,H' b=none)/\W i n σ' H') ?_ m0 ⟨0,O,H2,I2,oo,λb hb=>(f2 b hb).1,w0⟩;rintro n s3 ⟨i,σ3,H3,I3,GP,yt,w3⟩;rcases turn i n σ3 H3 w3 with⟨stop,qn⟩|⟨go,N,hN,step⟩
 ·refine sx hp (aW (T.done X Z Z Z hc i ak s3 σ3 H3 X.xe I3 (jR yt) GP stop) λr s4 ⟨hr,I4⟩=>?_)
  subst hr;exact vx ⟨σ3,H3,I4,qn⟩
 ·refine sx hp (aW (T.item X Z Z Z hc i ak s3 σ3 H3 X.xe I3 (jR yt) GP go) λr s4 ⟨u,hr,h4⟩=>?_)
  subst hr;refine sx hp (aW h4 λ_ s5 ⟨x,H5,I5,r5,y5,lK,kA⟩=>?_);have I5':=I5.pinned (jR kA) (T.obj _ _ lK);refine sx hp (aW (hg _ s5 σ3 H5 x u _ I5' r5 (step x H5 y5)) λ_ s6 ⟨σ6,H6,I6,q6⟩=>?_);refine sx hp (aW (hb _ s6 σ6 H6 _ I6 q6) λf s7 q7=>?_);have again:∀{σ7:St}{H7:Hp},Inv X (ak++qw fp s5.heap) σ7 H7 s7->N σ7 H7->∃m,m<n/\∃i σ' H',Inv X ak σ' H' s7/\tn i s7.heap/\(∀b∈fp,H' b=none)/\W i m σ' H':=λ{σ7 H7} I7 n7=>by obtain⟨m',hm,w7⟩:=hN σ7 H7 n7;refine⟨m',hm,i+1,σ7,H7,I7.sR,T.keep _ _ _ lK λb hb o e=>(I7.pin (b,o) (j4 _ (j4 _ (qQ hb e)))).1,λb hb=>?_,w7⟩;obtain⟨o,e,d⟩:=T.obj _ _ lK b hb;exact(I7.pin (b,o) (j4 _ (j4 _ (qQ hb e)))).2.1
  cases f with |next=>obtain⟨σ7,H7,I7,n7⟩:=q7;exact again I7 n7 |cont=>obtain⟨σ7,H7,I7,n7⟩:=q7;exact again I7 n7 |brk=>obtain⟨σ7,H7,I7,q7⟩:=q7;exact⟨σ7,H7,I7.sR,q7⟩ |ret v=>obtain⟨x7,σ7,H7,I7,r7,q7⟩:=q7;exact⟨x7,σ7,H7,I7.sR,r7,q7⟩
end
theorem Ms{K:aa}{a:Addr}{xs:List V}{g:TG}{tb:TS}{D:Ends}{O:St}{H:Hp}(Pv:Nat->St->Hp->Prop)(h0:Pv 0 O H)(hl:∀i O H,i<=xs.length->Pv i O H->aH K H a xs) (hs:∀i x O H,xs[i]? =some x->Pv i O H->g x O H λσ2 H2=>tb {D with nx:=Pv (i+1),ct:=Pv (i+1),bk:=D.nx} σ2 H2)(hd:∀O H,Pv xs.length O H->D.nx O H): ∃W:Nat->Nat->St->Hp->Prop,(∃m,W 0 m O H)/\∀i m O H,W i m O H->((sf K a).stop i H/\D.nx O H)\/((sf K a).go i H/\∃N:St->Hp->Prop,(∀σ' H',N σ' H'->∃m',m'<m/\W (i+1) m' σ' H')/\∀x H',(sf K a).iD i H x H'->g x O H' λσ2 H2=>tb {D with nx:=N,ct:=N,bk:=D.nx} σ2 H2):=by
 refine⟨λi m O H=>m=xs.length-i/\i<=xs.length/\Pv i O H,⟨xs.length,by simp,eQ _,h0⟩,?_⟩;rintro i m O H ⟨rfl,hi,p⟩;have q:=hl i O H hi p;by_cases bZ:i<xs.length
 ·refine .inr ⟨⟨xs,xs[i],q,by simp[bZ]⟩,Pv (i+1),λσ' H' p'=>⟨xs.length-(i+1),aw,Z,bZ,p'⟩,λx H' y=>?_⟩
  obtain⟨e,y⟩:=y;subst e;exact hs i x O _ (y xs q) p
 ·have e:i=xs.length:=by lia
  subst e;exact .inl ⟨⟨xs,q,bq _⟩,hd O H p⟩
theorem yu{lo:Int}{n:Nat}{g:TG}{tb:TS}{D:Ends}{O:St}{H:Hp}(Pv:Nat->St->Hp->Prop)(h0:Pv 0 O H) (hs:∀i O H,i<n->Pv i O H->g (.int (lo+i)) O H λσ2 H2=>tb {D with nx:=Pv (i+1),ct:=Pv (i+1),bk:=D.nx} σ2 H2)(hd:∀O H,Pv n O H->D.nx O H): ∃W:Nat->Nat->St->Hp->Prop,(∃m,W 0 m O H)/\∀i m O H,W i m O H->((mE lo n).stop i H/\D.nx O H)\/((mE lo n).go i H/\∃N:St->Hp->Prop,(∀σ' H',N σ' H'->∃m',m'<m/\W (i+1) m' σ' H')/\∀x H',(mE lo n).iD i H x H'->g x O H' λσ2 H2=>tb {D with nx:=N,ct:=N,bk:=D.nx} σ2 H2):=by
 refine⟨λi m O H=>m=n-i/\i<=n/\Pv i O H,⟨n,by simp,eQ _,h0⟩,?_⟩;rintro i m O H ⟨rfl,hi,p⟩;by_cases bZ:i<n
 ·refine .inr ⟨bZ,Pv (i+1),λσ' H' p'=>⟨n-(i+1),aw,Z,bZ,p'⟩,λx H' y=>?_⟩
  obtain⟨e,y⟩:=y;subst e y;exact hs i O _ bZ p
 ·have e:i=n:=by lia
  subst e;exact .inl ⟨bq _,hd O H p⟩
theorem zL{c:TT}{tb:TS}{D:Ends}{O:St}{H:Hp}(Pv:St->Hp->Prop)(μ:St->Hp->Nat)(h0:Pv O H) (hs:∀O H,Pv O H->c O H λb H1=>if b=true then tb {D with nx:=λσ' H'=>Pv σ' H'/\μ σ' H'<μ O H,ct:=λσ' H'=>Pv σ' H'/\μ σ' H'<μ O H,bk:=D.nx} O H1 else D.nx O H1) (mono:∀O H Q Q',(∀b H1,Q b H1->Q' b H1)->c O H Q->c O H Q'):Gv c tb D O H:=by refine⟨λm O H=>m=μ O H/\Pv O H,⟨_,Z,h0⟩,?_⟩;rintro m O H ⟨rfl,p⟩;refine mono O H _ _ (λb H1 q=>?_) (hs O H p);cases b with |true=>exact⟨_,λσ' H' ⟨p',l⟩=>⟨_,l,Z,p'⟩,q⟩ |false=>exact q
abbrev R2:=V->V->Hp->VK->Prop
def cg(X:Cx)(f:Value->Value->Sem Value)(r:R2):Prop:=∀(ak:List (Addr×Obj))(s:ae)(O:St)(H:Hp)(x y:V)(v u:Value)(Q:VK),Inv X ak O H s->RelV x v->RelV y u->r x y H Q->wpAny (model X.prog X.w) X.A (f v u) (EP X ak O Q) X.xe s
def Fe(X:Cx)(f:Value->Sem Value)(r:V->Hp->VK->Prop):Prop:=∀(ak:List (Addr×Obj))(s:ae)(O:St)(H:Hp)(x:V)(v:Value)(Q:VK),Inv X ak O H s->RelV x v->r x H Q->wpAny (model X.prog X.w) X.A (f v) (EP X ak O Q) X.xe s
def dI(X:Cx)(f:Value)(r:List V->Hp->VK->Prop):Prop:=∀(ak:List (Addr×Obj))(s:ae)(O:St)(H:Hp)(xs:List V)(us:List Value)(Q:VK),Inv X ak O H s->Vals xs us->r xs H Q->wpAny (model X.prog X.w) X.A (call f us) (EP X ak O Q) X.xe s
def a4l(X:Cx)(r:V->Hp->(Bool->Hp->Prop)->Prop):Prop:=∀(ak:List (Addr×Obj))(s:ae)(O:St)(H:Hp)(x:V)(v:Value)(Q:Bool->Hp->Prop),Inv X ak O H s->RelV x v->r x H Q->wpAny (model X.prog X.w) X.A (truthy v) (TP X ak O Q) X.xe s
def sW(r:R2)(ta tb:TE):TE:=λO H Q=>ta O H λx H1=>tb O H1 λy H2=>r x y H2 Q
def Qk(r:V->Hp->VK->Prop)(ta:TE):TE:=λO H Q=>ta O H λx H1=>r x H1 Q
inductive IrI(C:Int->Int->Prop)(g:Int->Int->V)(x:V)(y:V)(H:Hp)(Q:VK):Prop |mk (i:_)(j:_)(h0:x= .int i)(h1:y= .int j)(h2:C i j)(h3:Q (g i j) H)
def rI(C:Int->Int->Prop)(g:Int->Int->V):R2:=λx y H Q=>IrI C g x y H Q
inductive a66(g:Int->Int->V)(x:V)(y:V)(H:Hp)(Q:VK):Prop |mk (i:_)(j:_)(h0:x= .int i)(h1:y= .int j)(h2:Q (g i j) H)
def iH(g:Int->Int->V):R2:=λx y H Q=>a66 g x y H Q
inductive IrU(g:Int->V)(x:V)(H:Hp)(Q:VK):Prop |mk (i:_)(h0:x= .int i)(h1:Q (g i) H)
def rU(g:Int->V):V->Hp->VK->Prop:=λx H Q=>IrU g x H Q
section
variable {X:Cx}{a b c:Expr}{ta tb tc:TE}{pos:Pos}
theorem EZ(ha:PE X a ta)(hb:PE X b tb){ak:List (Addr×Obj)}{s:ae}{O:St}{H:Hp}{R:V->V->Hp->Prop}(I:Inv X ak O H s) (h:ta O H λx H1=>tb O H1 λy H2=>R x y H2){Q:Value->ae->Prop}{f:Value->Value->Sem Value} (hf:∀v u s2 x y H2,Inv X ak O H2 s2->RelV x v->RelV y u->R x y H2->wpAny (model X.prog X.w) X.A (f v u) Q X.xe s2): wpAny (model X.prog X.w) X.A (eval a X.env) (λv s₁=>wpAny (model X.prog X.w) X.A (eval b X.env) (λu s₂=>wpAny (model X.prog X.w) X.A (f v u) Q X.xe s₂) X.xe s₁) X.xe s:=by refine aW (ha ak s O H _ I h) λv s1 ⟨x,H1,I1,r1,q1⟩=>?_;refine aW (hb ak s1 O H1 _ I1 q1) λu s2 ⟨y,H2,I2,r2,q2⟩=>?_;exact hf v u s2 x y H2 I2 r1 r2 q2
theorem aL{op:Operator}{r:R2}(ho:cg X (binaryOp op) r)(ha:PE X a ta)(hb:PE X b tb):PE X (.BinOp a op b pos) (sW r ta tb):=by intro ak s O H Q I h;exact wpAny_BinOp (EZ ha hb I h λv u s2 x y H2 I2 rx ry q=>ho ak s2 O H2 x y v u Q I2 rx ry q)
theorem kQ{op:UnaryOp}{r:V->Hp->VK->Prop}(ho:Fe X (unaryOp op) r)(ha:PE X a ta):PE X (.UnaryOp op a pos) (Qk r ta):=by intro ak s O H Q I h;exact UnaryOp_ (aW (ha ak s O H _ I h) λv s1 ⟨x,H1,I1,r1,q1⟩=>ho ak s1 O H1 x v Q I1 r1 q1)
theorem tW{f:Value->Value->Sem Value}{C:Int->Int->Prop}{g:Int->Int->Int} (rule:∀(i j:Int)(t u:Tok)(s:ae)(Q:Value->ae->Prop)(E:Value->ae->Prop),C i j->Q (.int (g i j) s.toks) {s with toks:=s.toks+1}->wpAny (model X.prog X.w) X.A (f (.int i t) (.int j u)) Q E s): cg X f (rI C λi j=>.int (g i j)):=by intro ak s O H x y v u Q I rx ry h;obtain⟨i,j,rfl,rfl,hc,q⟩:=h;obtain⟨t,rfl⟩:=rx;obtain⟨t',rfl⟩:=ry;exact rule i j t t' s _ _ hc ⟨.int (g i j),H,I.tok _,⟨_,Z⟩,q⟩
theorem Kk{f:Value->Value->Sem Value}{g:Int->Int->Int} (rule:∀(i j:Int)(t u:Tok)(s:ae)(Q:Value->ae->Prop)(E:Value->ae->Prop),Q (.int (g i j) s.toks) {s with toks:=s.toks+1}->wpAny (model X.prog X.w) X.A (f (.int i t) (.int j u)) Q E s): cg X f (iH λi j=>.int (g i j)):=by intro ak s O H x y v u Q I rx ry h;obtain⟨i,j,rfl,rfl,q⟩:=h;obtain⟨t,rfl⟩:=rx;obtain⟨t',rfl⟩:=ry;exact rule i j t t' s _ _ ⟨.int (g i j),H,I.tok _,⟨_,Z⟩,q⟩
theorem qG{f:Value->Value->Sem Value}{g:Int->Int->Bool} (rule:∀(i j:Int)(t u:Tok)(s:ae)(Q:Value->ae->Prop)(E:Value->ae->Prop),Q (.bool (g i j)) s->wpAny (model X.prog X.w) X.A (f (.int i t) (.int j u)) Q E s): cg X f (iH λi j=>.bl (g i j)):=by intro ak s O H x y v u Q I rx ry h;obtain⟨i,j,rfl,rfl,q⟩:=h;obtain⟨t,rfl⟩:=rx;obtain⟨t',rfl⟩:=ry;exact rule i j t t' s _ _ ⟨.bl (g i j),H,I,Z,q⟩
def a6w(i j:Int):Prop:=0<=j/\j<=1000000/\i.natAbs<2^64
theorem dr:cg X (binaryOp .Add) (iH λi j=>.int (i+j)):=Kk λ_ _ _ _ _ _ _ q=>add_int q
theorem jW:cg X (binaryOp .Sub) (iH λi j=>.int (i-j)):=Kk λ_ _ _ _ _ _ _ q=>sub_int q
theorem lP:cg X (binaryOp .Mod) (rI (λ_ j=>0<j) λi j=>.int (i%j)):=tW λi j _ _ _ _ _ hc q=>by have h1:(0:Int)<j:=hc;exact mod_int' aw (by rw[Int.fmod_eq_emod_of_nonneg i aw];exact q)
theorem tV:cg X (binaryOp .Pow) (rI a6w λi j=>.int (i^j.toNat)):=tW λ_ _ _ _ _ _ _ hc q=>pow_int_small hc.1 hc.2.1 hc.2.2 q
theorem PU{f:Value->Sem Value}{g:Int->Int} (rule:∀(i:Int)(t:Tok)(s:ae)(Q:Value->ae->Prop)(E:Value->ae->Prop),Q (.int (g i) s.toks) {s with toks:=s.toks+1}->wpAny (model X.prog X.w) X.A (f (.int i t)) Q E s): Fe X f (rU λi=>.int (g i)):=by intro ak s O H x v Q I rx h;obtain⟨i,rfl,q⟩:=h;obtain⟨t,rfl⟩:=rx;exact rule i t s _ _ ⟨.int (g i),H,I.tok _,⟨_,Z⟩,q⟩
theorem kI:Fe X (unaryOp .USub) (rU λi=>.int (-i)):=PU λ_ _ _ _ _ q=>neg_int q
end
def HP:V->V->Bool | .aZ,.aZ=>true| .aZ,.int _=>true| .int _,.aZ=>true| .aZ,.bl _=>true| .bl _,.aZ=>true| .aZ,.str _=>true| .str _,.aZ=>true | .int _,.int _=>true| .bl _,.bl _=>true| .str _,.str _=>true| .iV _,.iV _=>true | .int _,.str _=>true| .str _,.int _=>true| .bl _,.str _=>true| .str _,.bl _=>true |_,_=>false
def T4:R2:=λx y H Q=>HP x y=true/\Q (.bl (decide (x=y))) H
def SU:R2:=λx y H Q=>HP x y=true/\Q (.bl (!decide (x=y))) H
theorem Nk{i j:Int}:decide (V.int i=V.int j)=(i==j):=by rw[j6];simp
theorem Np{i j:Bool}:decide (V.bl i=V.bl j)=(i==j):=by rw[j6];simp
theorem Nj{i j:Str}:decide (V.str i=V.str j)=(i==j):=by rw[j6];simp
theorem Nl{i j:Array UInt8}:decide (V.iV i=V.iV j)=(i.toList==j.toList):=by rw[j6];cases i;cases j;simp
section
variable {X:Cx}{a b c:Expr}{ta tb tc:TE}{pos:Pos}
theorem cZ{ak:List (Addr×Obj)}{O:St}{H:Hp}{s:ae}{Q:VK}{k k':Bool}(I:Inv X ak O H s)(q:Q (.bl k) H)(e:k=k'):EP X ak O Q (.bool k') s:=by subst e;exact⟨.bl k,H,I,Z,q⟩
theorem qF:cg X (compareOp .Eq) T4:=by intro ak s O H x y v u Q I rx ry h;obtain⟨hs,q⟩:=h;cases x with
 |aZ=>cases rx;cases y with |aZ=>cases ry;exact PySem.EqNone.eq_none_none (cZ I q (by simp)) |bl j=>cases ry;exact PySem.EqNone.eq_none_bool (cZ I q (by simp)) |int j=>obtain⟨t',rfl⟩:=ry;exact PySem.EqNone.eq_none_int (cZ I q (by simp)) |str j=>obtain⟨t',rfl⟩:=ry;exact PySem.EqNone.eq_none_str (cZ I q (by simp)) |_=>exact absurd (show false=true from hs) de
 |bl i=>cases rx;cases y with |aZ=>cases ry;exact PySem.EqNone.eq_bool_none (cZ I q (by simp)) |bl j=>cases ry;exact eq_bool (cZ I q Np) |str j=>obtain⟨t',rfl⟩:=ry;exact PySem.EqMixed.eq_bool_str (cZ I q (by simp)) |_=>exact absurd (show false=true from hs) de
 |int i=>obtain⟨t,rfl⟩:=rx;cases y with |aZ=>cases ry;exact PySem.EqNone.eq_int_none (cZ I q (by simp)) |int j=>obtain⟨t',rfl⟩:=ry;exact eq_int (cZ I q Nk) |str j=>obtain⟨t',rfl⟩:=ry;exact PySem.EqMixed.eq_int_str (cZ I q (by simp)) |_=>exact absurd (show false=true from hs) de
 |str i=>obtain⟨t,rfl⟩:=rx;cases y with |aZ=>cases ry;exact PySem.EqNone.eq_str_none (cZ I q (by simp)) |bl j=>cases ry;exact PySem.EqMixed.eq_str_bool (cZ I q (by simp)) |int j=>obtain⟨t',rfl⟩:=ry;exact PySem.EqMixed.eq_str_int (cZ I q (by simp)) |str j=>obtain⟨t',rfl⟩:=ry;exact eq_str (cZ I q Nj) |_=>exact absurd (show false=true from hs) de
 |iV i=>obtain⟨t,rfl⟩:=rx;cases y with |iV j=>obtain⟨t',rfl⟩:=ry;exact PySem.W.eq_bytes (cZ I q Nl) |_=>exact absurd (show false=true from hs) de
 |_=>cases y<;>exact absurd (show false=true from hs) de
theorem lO:cg X (compareOp .NotEq) SU:=by intro ak s O H x y v u Q I rx ry h;obtain⟨hs,q⟩:=h;cases x with
 |aZ=>cases rx;cases y with |aZ=>cases ry;exact PySem.EqNone.ne_none_none (cZ I q (by simp)) |bl j=>cases ry;exact PySem.EqNone.ne_none_bool (cZ I q (by simp)) |int j=>obtain⟨t',rfl⟩:=ry;exact PySem.EqNone.ne_none_int (cZ I q (by simp)) |str j=>obtain⟨t',rfl⟩:=ry;exact PySem.EqNone.ne_none_str (cZ I q (by simp)) |_=>exact absurd (show false=true from hs) de
 |bl i=>cases rx;cases y with |aZ=>cases ry;exact PySem.EqNone.ne_bool_none (cZ I q (by simp)) |bl j=>cases ry;exact ne_bool (cZ I q (jL not Np)) |str j=>obtain⟨t',rfl⟩:=ry;exact PySem.EqMixed.ne_bool_str (cZ I q (by simp)) |_=>exact absurd (show false=true from hs) de
 |int i=>obtain⟨t,rfl⟩:=rx;cases y with |aZ=>cases ry;exact PySem.EqNone.ne_int_none (cZ I q (by simp)) |int j=>obtain⟨t',rfl⟩:=ry;exact ne_int (cZ I q (jL not Nk)) |str j=>obtain⟨t',rfl⟩:=ry;exact PySem.EqMixed.ne_int_str (cZ I q (by simp)) |_=>exact absurd (show false=true from hs) de
 |str i=>obtain⟨t,rfl⟩:=rx;cases y with |aZ=>cases ry;exact PySem.EqNone.ne_str_none (cZ I q (by simp)) |bl j=>cases ry;exact PySem.EqMixed.ne_str_bool (cZ I q (by simp)) |int j=>obtain⟨t',rfl⟩:=ry;exact PySem.EqMixed.ne_str_int (cZ I q (by simp)) |str j=>obtain⟨t',rfl⟩:=ry;exact ne_str (cZ I q (jL not Nj)) |_=>exact absurd (show false=true from hs) de
 |iV i=>obtain⟨t,rfl⟩:=rx;cases y with |iV j=>obtain⟨t',rfl⟩:=ry;exact PySem.W.ne_bytes (cZ I q (jL not Nl)) |_=>exact absurd (show false=true from hs) de
 |_=>cases y<;>exact absurd (show false=true from hs) de
theorem qC:cg X (compareOp .Lt) (iH λi j=>.bl (decide (i<j))):=qG λ_ _ _ _ _ _ _ q=>lt_int q
theorem qD:cg X (compareOp .LtE) (iH λi j=>.bl (decide (i<=j))):=qG λ_ _ _ _ _ _ _ q=>le_int q
theorem Kh:cg X (compareOp .Gt) (iH λi j=>.bl (decide (j<i))):=qG λ_ _ _ _ _ _ _ q=>gt_int q
theorem Ki:cg X (compareOp .GtE) (iH λi j=>.bl (decide (j<=i))):=qG λ_ _ _ _ _ _ _ q=>ge_int q
theorem Ue:cg X (compareOp .In) (λx y H Q=>∃i j,x= .str i/\y= .str j/\Q (.bl (!(Builtin.Str.occurrences j i 0 j.length 1).isEmpty)) H):=by intro ak s O H x y v u Q I rx ry h;obtain⟨i,j,rfl,rfl,q⟩:=h;obtain⟨t,rfl⟩:=rx;obtain⟨t',rfl⟩:=ry;exact in_str (cZ I q Z)
theorem xn:cg X (compareOp .Is) (λx y H Q=>y= .aZ/\Q (.bl (decide (x= .aZ))) H):=by intro ak s O H x y v u Q I rx ry h;obtain⟨rfl,q⟩:=h;cases ry;refine is_none_gen (cZ I q ?_);cases x<;>first |(cases rx;rfl) |(obtain⟨t,rfl⟩:=rx;rfl)
theorem Kf:cg X (compareOp .IsNot) (λx y H Q=>y= .aZ/\Q (.bl (!decide (x= .aZ))) H):=by intro ak s O H x y v u Q I rx ry h;obtain⟨rfl,q⟩:=h;cases ry;refine isnot_none_gen (cZ I q ?_);cases x<;>first |(cases rx;rfl) |(obtain⟨t,rfl⟩:=rx;rfl)
theorem cg.or{f:Value->Value->Sem Value}{r r':R2}(h:cg X f r)(h':cg X f r'):cg X f (λx y H Q=>r x y H Q\/r' x y H Q):=by
 intro ak s O H x y v u Q I rx ry q;rcases q with q|q
 ·exact h ak s O H x y v u Q I rx ry q
 ·exact h' ak s O H x y v u Q I rx ry q
theorem bE(b:Expr){op:CmpOp}(h:op≠ .In:=by decide)(h2:op≠ .NotIn:=by decide):behindInMarks op b=false:=by
 have e1:(op==CmpOp.In)=false:=by cases op<;>first|rfl|exact absurd rfl h
 have e2:(op==CmpOp.NotIn)=false:=by cases op<;>first|rfl|exact absurd rfl h2
 cases b<;>simp[behindInMarks,e1,e2]
theorem jy{op:CmpOp}{r:R2}(ho:cg X (compareOp op) r)(ha:PE X a ta)(hb:PE X b tb)(hm:behindInMarks op b=false):PE X (.Compare a [op] [b] pos) (sW r ta tb):=by intro ak s O H Q I h;exact wpAny_Compare1 (EZ ha hb I h λv u s2 x y H2 I2 rx ry q=>ho ak s2 O H2 x y v u Q I2 rx ry q) hm
inductive a4z(Q:Bool->Hp->Prop)(x:V)(H':Hp):Prop |mk (k:_)(h0:x= .bl k)(h1:Q k H')
def Gx(t:TE):TT:=λO H Q=>t O H λx H'=>a4z Q x H'
theorem bK{op:CmpOp}{r:R2}(ho:cg X (compareOp op) r)(ha:PE X a ta)(hb:PE X b tb)(hm:behindInMarks op b=false):PT X (.Compare a [op] [b] pos) (Gx (sW r ta tb)):=by intro ak s O H Q I h;refine wpAny_isTrue_Compare1 (aW (ha ak s O H _ I h) λv s1 ⟨x,H1,I1,r1,q1⟩=>aW (hb ak s1 O H1 _ I1 q1) λu s2 ⟨y,H2,I2,r2,q2⟩=>aW (ho ak s2 O H2 x y v u _ I2 r1 r2 q2) λc s3 ⟨z,H3,I3,r3,k,e,q3⟩=>?_) hm;subst e;cases r3;exact lD ⟨H3,I3,q3⟩
inductive a4F(r':R2)(tc:TE)(O:St)(Q:VK)(y:V)(z:V)(H3:Hp):Prop |mk (k:_)(h0:z= .bl k)(h1:(if k=true then tc O H3 λw' H4=>r' y w' H4 Q else Q (.bl false) H3))
def GJ(r r':R2)(ta tb tc:TE):TE:=λO H Q=>ta O H λx H1=>tb O H1 λy H2=>r x y H2 λz H3=>a4F r' tc O Q y z H3
theorem K5{op oP:CmpOp}{r r':R2}(ho:cg X (compareOp op) r)(kl:cg X (compareOp oP) r')(ha:PE X a ta)(hb:PE X b tb)(hc:PE X c tc) (hm:lastMarks [op,oP] [b,c]=false:=by with_unfolding_all rfl):PE X (.Compare a [op,oP] [b,c] pos) (GJ r r' ta tb tc):=by intro ak s O H Q I h;refine Compare_chain (aW (ha ak s O H _ I h) λv s1 ⟨x,H1,I1,r1,q1⟩=>chain_link (aW (hb ak s1 O H1 _ I1 q1) λu s2 ⟨y,H2,I2,r2,q2⟩=>aW (ho ak s2 O H2 x y v u _ I2 r1 r2 q2) λd s3 ⟨z,H3,I3,r3,k,e,q3⟩=>?_)) hm;subst e;cases r3;refine lD ?_;cases k with |false=>exact ite_ff ⟨.bl false,H3,I3,Z,q3⟩ |true=>exact ite_tt (chain_last (aW (hc ak s3 O H3 _ I3 q3) λw' s4 ⟨z',H4,I4,r4,q4⟩=>kl ak s4 O H4 y z' u w' Q I4 r2 r4 q4))
theorem Tf{op oP:CmpOp}{r r':R2}(ho:cg X (compareOp op) r)(kl:cg X (compareOp oP) r')(ha:PE X a ta)(hb:PE X b tb)(hc:PE X c tc) (hm:lastMarks [op,oP] [b,c]=false:=by with_unfolding_all rfl):PT X (.Compare a [op,oP] [b,c] pos) (Gx (GJ r r' ta tb tc)):=by intro ak s O H Q I h;refine isTrue_chain (aW (ha ak s O H _ I h) λv s1 ⟨x,H1,I1,r1,q1⟩=>test_link (aW (hb ak s1 O H1 _ I1 q1) λu s2 ⟨y,H2,I2,r2,q2⟩=>aW (ho ak s2 O H2 x y v u _ I2 r1 r2 q2) λd s3 ⟨z,H3,I3,r3,k,e,q3⟩=>?_)) hm;subst e;cases r3;refine lD ?_;cases k with |false=>obtain⟨k',e',q'⟩:=q3;cases e';exact ite_ff ⟨H3,I3,q'⟩ |true=>refine ite_tt (test_last (aW (hc ak s3 O H3 _ I3 q3) λw' s4 ⟨z',H4,I4,r4,q4⟩=>aW (kl ak s4 O H4 y z' u w' _ I4 r2 r4 q4) λd' s5 ⟨z2,H5,I5,r5,k2,e2,q5⟩=>?_));subst e2;cases r5;exact lD ⟨H5,I5,q5⟩
def Ff(K:aa)(x:V)(H:Hp)(k:Bool):Prop:=match x with | .aZ=>k=false | .bl b=>k=b | .int i=>k=(i !=0) | .str y=>y.length<=sizeLine/\k=((y.length:Int) !=0) | .iV y=>y.size<=sizeLine/\k=((y.size:Int) !=0) | .ref p=>(∃xs,aH K H p xs/\k= !xs.isEmpty)\/(∃xs,aQ K H p xs/\k= !xs.isEmpty)\/∃cT,H p=some (.dK cT)/\k= !cT.isEmpty |_=>False
theorem XO{κ:Type}{cT:List (κ×V)}{vs:List (κ×Value)}(r:KV cT vs):(!vs.isEmpty)= !cT.isEmpty:=by cases r<;>rfl
theorem Lv{xs:List V}{its:List Value}(r:Vals xs its):(!its.toArray.isEmpty)= !xs.isEmpty:=by cases r<;>simp
theorem oY:(sizeLine:Nat)<2^63:=by rw[vz];decide
theorem Q9:a4l X (λx H Q=>∃k,Ff X.K x H k/\Q k H):=by intro ak s O H x v Q I rx h;obtain⟨k,e,q⟩:=h;have hl:=oY;have hs:sizeLine=16777216:=vz;cases x with |aZ=>cases rx;have e':k=false:=e;subst e';exact truthy_none ⟨H,I,q⟩ |bl b=>cases rx;have e':k=b:=e;subst e';exact lD ⟨H,I,q⟩ |int i=>obtain⟨t,rfl⟩:=rx;have e':k=(i !=0):=e;subst e';exact PySem.P.truthy_int ⟨H,I,q⟩ |str y=>obtain⟨t,rfl⟩:=rx;obtain⟨hy,e'⟩:y.length<=sizeLine/\k=((y.length:Int) !=0):=e;subst e';exact PySem.P.truthy_str aw ⟨H,I.tok _,q⟩ |iV y=>obtain⟨t,rfl⟩:=rx;obtain⟨hy,e'⟩:y.size<=sizeLine/\k=((y.size:Int) !=0):=e;subst e';exact PySem.W.truthy_bytes aw ⟨H,I.tok _,q⟩ |ref p=>
 cases rx;have e':(∃xs,aH X.K H p xs/\k= !xs.isEmpty)\/(∃xs,aQ X.K H p xs/\k= !xs.isEmpty)\/∃cT,H p=some (.dK cT)/\k= !cT.isEmpty:=e;rcases e' with⟨xs,hx,e'⟩|⟨xs,hx,e'⟩|⟨cT,hx,e'⟩
 ·subst e'
  obtain⟨its,r,pl,hz⟩:=I.list hx;have hlen:=r.length;exact wpAny_truthy_list pl.isList (by simp only[dG];lia) ⟨H,I.tok _,by rw[Lv r];exact q⟩
 ·subst e'
  obtain⟨its,r,pl,hz⟩:=I.tuple hx;have hlen:=r.length;exact truthy_tuple pl (by simp only[dG];lia) ⟨H,I.tok _,by rw[Lv r];exact q⟩
 ·subst e'
  obtain⟨hz,hS,vs,r,m⟩:cT.length<=sizeLine/\(p==sysModules)=false/\∃vs,KV cT vs/\s.heap.DictOf (CZ X.prog X.w) p vs:=I.aY p _ hx;have hlen:cT.length=vs.length:=Paired.length r;exact wpAny_truthy_dict hS m aw ⟨H,I.tok _,by rw[XO r];exact q⟩ |_=>exact(show False from e).elim
theorem Te(ha:PE X a ta)(he:∀whole,isTrue a X.env whole=(do let v<-whole;standAt a.pos;holding [v] (truthy v))): PT X a (λO H Q=>ta O H λx H'=>∃k,Ff X.K x H' k/\Q k H'):=by intro ak s O H Q I h;exact isTrue_plain (aW (ha ak s O H _ I h) λv s1 ⟨x,H1,I1,r1,q1⟩=>Q9 ak s1 O H1 x v Q I1 r1 q1) (he _)
theorem iJ:cg X (binaryOp .Add) (λx y H Q=>∃i j,x= .str i/\y= .str j/\i.length+j.length<=sizeLine/\Q (.str (i++j)) H):=by intro ak s O H x y v u Q I rx ry h;obtain⟨i,j,rfl,rfl,hz,q⟩:=h;obtain⟨t,rfl⟩:=rx;obtain⟨t',rfl⟩:=ry;exact add_str (λt' tk=>⟨.str (i++j),H,I.tok _,⟨_,Z⟩,q⟩) hz
theorem vals1{x:V}{us:List Value}(r:Vals [x] us):∃u,us=[u]/\RelV x u:=by cases r with |cons r1 r2=>cases r2;exact⟨_,rfl,r1⟩
theorem vals2{x y:V}{us:List Value}(r:Vals [x,y] us):∃u w',us=[u,w']/\RelV x u/\RelV y w':=by cases r with |cons r1 r2=>cases r2 with |cons r3 r4=>cases r4;exact⟨_,_,rfl,r1,r3⟩
theorem my:dI X (.builtin "abs") (λxs H Q=>∃i,xs=[.int i]/\Q (.int (if i<0 then-i else i)) H):=by intro ak s O H xs us Q I r h;obtain⟨i,rfl,q⟩:=h;obtain⟨u,rfl,t,rfl⟩:=vals1 r;exact call_abs_int λu tk=>⟨.int (if i<0 then-i else i),H,I.tok _,⟨_,Z⟩,q⟩
theorem a3w(hc:X.calm=true):dI X (.builtin "max") (λxs H Q=>∃i j,xs=[.int i,.int j]/\Q (.int (if j>i then j else i)) H):=by
 intro ak s O H xs us Q I r h;obtain⟨i,j,rfl,q⟩:=h;obtain⟨u,w',rfl,⟨t,rfl⟩,⟨t',rfl⟩⟩:=vals2 r;refine max_two_ints (I.ok.hd hc) λh' tk k=>⟨_,H,I.kept k,?_,q⟩;by_cases hj:j>i
 ·rw[aU hj,aU hj];exact⟨_,Z⟩
 ·rw[aV hj,aV hj];exact⟨_,Z⟩
theorem EU(hc:X.calm=true):dI X (.builtin "min") (λxs H Q=>∃i j,xs=[.int i,.int j]/\Q (.int (if j<i then j else i)) H):=by
 intro ak s O H xs us Q I r h;obtain⟨i,j,rfl,q⟩:=h;obtain⟨u,w',rfl,⟨t,rfl⟩,⟨t',rfl⟩⟩:=vals2 r;refine min_two_ints (I.ok.hd hc) λh' tk k=>⟨_,H,I.kept k,?_,q⟩;by_cases hj:j<i
 ·rw[aU hj,aU hj];exact⟨_,Z⟩
 ·rw[aV hj,aV hj];exact⟨_,Z⟩
end
structure pT(h:Heap)(x dx C:Addr)(mA:bf):Prop where
 obj:h.get? x=some (PySem.W.instObj C dx)
 ns:h.Ns1 dx mA
 ne:dx≠x
theorem L9{h:Heap}{dx:Addr}{mA:bf}(n:h.Ns1 dx mA):∃od,h.get? dx=some od/\∀name,PySem.W.lookIn name od=some (mA name):=by
 obtain⟨o,es,ep,ho,hd,hk,_,hm⟩:=n;refine⟨o,ho,λname=>?_⟩;have e:=hm name;unfold nsFind findBy at e;rw[<-Array.find?_toList]at e;unfold PySem.W.lookIn;rw[hd];dsimp only;split
 ·rename_i y q
  rw[q]at e;exact jL some e
 ·rename_i q
  rw[q]at e;have a:es.toList.any (·.refKey)=false:=by rw[List.any_eq_false];intro y hy;obtain⟨z,t,YO⟩:=hk y (Array.mem_toList_iff.mp hy);simp[DictEntry.refKey,YO]
  have a':¬es.toList.any (·.refKey)=true:=by rw[a];exact de
  rw[aV a'];exact jL some e
theorem pT.look{h:Heap}{x dx C:Addr}{mA:bf}(I:pT h x dx C mA):∃od,PySem.W.InstAt h x (PySem.W.instObj C dx) C (some od)/\∀name,PySem.W.lookIn name od=some (mA name):=let⟨od,ho,hl⟩:=L9 I.ns
 ⟨od,⟨I.obj,Z,Z,ho⟩,hl⟩
section
variable {prog:af}{w:World}{A:ai}{E:Value->ae->Prop}{s:ae}{K:aa}{x dx C f:Addr}{mA:bf}{name:Str}{v:Value}
theorem get_map{expr:Bool}{Q:Value->ae->Prop}(X:K.In s.heap)(I:pT s.heap x dx C mA)(hg:PySem.W.plainGet K C name=true)(hh:PySem.W.hasDictIn K C=true) (ha:PySem.W.findIn K (.ref C) name=some none)(hv:mA name=some v)(xW:PySem.W.handedIn v=true)(h:Q v {s with toks:=s.toks+1}): wpAny (model prog w) A (getAttr (.ref x) name expr) Q E s:=by obtain⟨od,J,hl⟩:=I.look;exact PySem.W.get_value X J (OL hg).1 (PySem.W.findObj_own hh ha Z (by rw[hl,hv])) xW h
theorem a0Q{pl:Sem Bool}{Q:Value×List Value->ae->Prop}(X:K.In s.heap)(I:pT s.heap x dx C mA)(hg:PySem.W.plainGet K C name=true) (hf:PySem.W.findIn K (.ref C) name=some (some (.ref f)))(ht:PySem.W.isFn K (.ref f)=true)(hv:mA name=none)(h:Q (.ref f,[.ref x]) s): wpAny (model prog w) A (getMethod (.ref x) name pl) Q E s:=by obtain⟨od,J,hl⟩:=I.look;exact PySem.W.method_fn X J (OL hg).1 (OL hg).2 hf (dj.mp ht) (by show(PySem.W.lookIn name od).map (·.isSome)=some false;rw[hl,hv];rfl) h
theorem RF{ns:List Str}{Q:Unit->ae->Prop}(X:K.In s.heap)(I:pT s.heap x dx C mA) (hs:PySem.W.findIn K (.ref C) "__setattr__"=some (some (.builtin "object.__setattr__")))(hp:PySem.W.plainOver K C=true)(ht:PySem.W.takerIn K C name=some none)(hh:PySem.W.hasDictIn K C=true) (hw:PySem.Within mA ns)(hsz:ns.length<=sizeLine) (h:∀h',pT h' x dx C (λy=>if y=name then some v else mA y)->Heap.SameBut dx s.heap h'->Q () {s with heap:=h',toks:=s.toks+2}): wpAny (model prog w) A (setAttr (.ref x) name v) Q E s:=by obtain⟨od,J,hl⟩:=I.look;refine PySem.W.set_plain X J hs (PySem.W.osa_open (s:={s with toks:=s.toks+1}) (r:=none) X J hp ht λb=>?_);obtain⟨cd,hc,pj⟩:=OQ hh;have hx:s.heap.get? x=some ⟨.ref C,some dx,.plain,#[]⟩:=I.obj;refine aD (bA (aD (aD (wpAny_loadPart hx (aD (sC (s:={s with toks:=s.toks+1}) (ON X hc) ?_))))));rw[pj];refine bA (a:=some dx) (aD (bA (aD ?_)));refine wpAny_nsSet1 (s:={s with toks:=s.toks+1}) I.ns λh' rj gv=>?_;obtain⟨oD,esD,epD,YA,Zj,Zq⟩:=rj.count (PySem.Within.cons name v hw);refine aD (wpAny_lookBehind YA (by rw[Zj];exact pastItsLine_dict (f9 Zq (by rw[fW];lia))) ?_);exact bA (h _ ⟨(gv.2 _ (iz I.ne)).trans I.obj,rj,I.ne⟩ gv)
theorem WO{R:Result->ae->Prop}{vs:List Value}{kw:List (Str×Value)}(X:K.In s.heap)(hm:PySem.W.makesIn K C=true) (hi:PySem.W.findIn K (.ref C) "__init__"=some (some (.ref f)))(hf:PySem.W.typeIn K (.ref f)=some (.type "function")) (h:codeAny (model prog w) (A.under (.builtin "type.__call__" ⟨.ref C::vs,kw⟩)) (.call (.ref f) ⟨.ref (s.heap.objs.size+1)::vs,kw⟩) (PySem.W.InitBack (s.heap.objs.size+1) R) {s with heap:=(s.heap.push PySem.W.emptyDict).push (PySem.W.instObj C s.heap.objs.size)}): codeAny (model prog w) A (.call (.ref C) ⟨vs,kw⟩) R s:=by obtain⟨hh,g,d,t,os⟩:=s;exact PySem.W.make_core (PySem.W.makes_of X hm) (PySem.W.looks_findIn X hi) (λself=>PySem.W.bind_fn X self hf) (.inl Z) h
end
def gE(f:Str)(v:V):List (Str×V)->List (Str×V) |[]=>[(f,v)] |(g,x)::r=>if g=f then(g,v)::r else(g,x)::gE f v r
theorem L8(f g:Str)(v:V):∀fs:List (Str×V),(gE f v fs).lookup g=if g=f then some v else fs.lookup g
 |[]=>by
  show List.lookup g [(f,v)]=_;by_cases h:g=f
  ·have hb:(g==f)=true:=dj.mpr h
   simp only[List.lookup,hb,aU h]
  ·have hb:(g==f)=false:=Fz.mpr h
   simp only[List.lookup,hb,aV h] |(k,x)::r=>by
  have ih:=L8 f g v r;rw[show gE f v ((k,x)::r)=(if k=f then(k,v)::r else(k,x)::gE f v r)from rfl];by_cases hk:k=f
  ·rw[aU hk]
   by_cases h:g=k
   ·have hb:(g==k)=true:=dj.mpr h
    simp only[List.lookup,hb,aU (h.trans hk)]
   ·have hb:(g==k)=false:=Fz.mpr h
    simp only[List.lookup,hb,aV (λe:g=f=>h (e.trans hk.symm))]
  ·rw[aV hk]
   by_cases h:g=k
   ·have hb:(g==k)=true:=dj.mpr h
    simp only[List.lookup,hb,aV (λe:g=f=>hk (h.symm.trans e))]
   ·have hb:(g==k)=false:=Fz.mpr h
    simp only[List.lookup,hb];exact ih
theorem Dl(f:Str)(v:V):∀fs:List (Str×V),f∈(gE f v fs).map (·.1)/\∀g,g∈fs.map (·.1)->g∈(gE f v fs).map (·.1)
 |[]=>⟨by simp[gE],λg h=>by simp at h⟩ |(k,x)::r=>by
  obtain⟨i1,i2⟩:=Dl f v r;rw[show gE f v ((k,x)::r)=(if k=f then(k,v)::r else(k,x)::gE f v r)from rfl];by_cases hk:k=f
  ·rw[aU hk]
   subst hk;exact⟨by simp,λg h=>by simpa using h⟩
  ·rw[aV hk]
   refine⟨?_,λg h=>?_⟩
   ·rw[qf]
    exact sG _ i1
   ·rw[qf]at h⊢
    rcases bS.mp h with e|e
    ·exact bS.mpr (.inl e)
    ·exact sG _ (i2 g e)
theorem Lf(f:Str)(v:V):∀fs:List (Str×V),(gE f v fs).length<=fs.length+1
 |[]=>by simp[gE] |(k,x)::r=>by
  have ih:=Lf f v r;rw[show gE f v ((k,x)::r)=(if k=f then(k,v)::r else(k,x)::gE f v r)from rfl];by_cases hk:k=f
  ·rw[aU hk,fW,fW];lia
  ·rw[aV hk,fW,fW];lia
theorem lC.some_of{v:V}{o:Option Value}(r:lC (some v) o):∃u,o=some u/\RelV v u:=by cases o with |none=>exact(show False from r).elim |some u=>exact⟨u,Z,r⟩
theorem lC.none_of{o:Option Value}(r:lC none o):o=none:=by cases o with |none=>rfl |some u=>exact(show False from r).elim
theorem ZE{v:V}{u:Value}(r:RelV v u):PySem.W.handedIn u=true:=by cases v with |aZ=>cases(show u=Value.none from r);rfl |bl b=>cases(show u=Value.bool b from r);rfl |int i=>obtain⟨t,e⟩:=(show∃t,u=Value.int i t from r);cases e;rfl |str x=>obtain⟨t,e⟩:=(show∃t,u=Value.str x t from r);cases e;rfl |iV b=>obtain⟨t,e⟩:=(show∃t,u=Value.bytes b t from r);cases e;rfl |yy b=>obtain⟨t,e⟩:=(show∃t,u=Value.float b t from r);cases e;rfl |ref a=>cases(show u=Value.ref a from r);rfl |ty n=>cases(show u=Value.type n from r);rfl
section
variable {P:af}{w:World}{H H':Hp}{h h':Heap}{a C dx:Addr}{fs rE:List (Str×V)}
theorem Dt(aY:dc P w H h)(e:H a=some (.ins C dx fs)):∃mA,pT h a dx C mA/\(∀f,lC (fs.lookup f) (mA f))/\PySem.Within mA (fs.map (·.1))/\fs.length<=1000/\H dx=some (.own a):=by obtain⟨d,z,ne,ob,mA,n,r,q⟩:=(show eP P w H h a (.ins C dx fs)from aY a _ e);exact⟨mA,⟨ob,n,ne⟩,r,q,z,d⟩
end
structure gM(K:aa)(C:Addr):Prop where
 pg:PySem.W.plainGet K C Str.empty=true
 hd:PySem.W.hasDictIn K C=true
 po:PySem.W.plainOver K C=true
 sa:PySem.W.findIn K (.ref C) "__setattr__"=some (some (.builtin "object.__setattr__"))
theorem gM.get{K:aa}{C:Addr}(c:gM K C)(f:Str):PySem.W.plainGet K C f=true:=c.pg
def gj(K:aa)(C:Addr)(f:Str):Prop:=PySem.W.findIn K (.ref C) f=some none
theorem gj.Qi{K:aa}{C:Addr}{f:Str}(n:gj K C f):PySem.W.takerIn K C f=some none:=by unfold PySem.W.takerIn;rw[show PySem.W.findIn K (.ref C) f=some none from n];rfl
structure Meth(K:aa)(C:Addr)(m:Str)(f:Addr):Prop where
 at_:PySem.W.findIn K (.ref C) m=some (some (.ref f))
 fn:PySem.W.isFn K (.ref f)=true
 kp:PySem.W.keepIn K (.ref f)=true
section
variable {X:Cx}{ak:List (Addr×Obj)}{O:St}{H:Hp}{s:ae}{a C dx:Addr}{fs:List (Str×V)}{f:Str}{v:V}{A:ai}{E:Value->ae->Prop}
theorem a0P{b:Bool}{Q:Value->ae->Prop}(I:Inv X ak O H s)(e:H a=some (.ins C dx fs))(c:gM X.K C)(n:gj X.K C f)(l:fs.lookup f=some v) (h:∀u s',Inv X ak O H s'->RelV v u->Q u s'):wpAny (model X.prog X.w) A (getAttr (.ref a) f b) Q E s:=by obtain⟨mA,a81,r,_,_,_⟩:=Dt I.aY e;obtain⟨u,hu,ru⟩:=lC.some_of (v:=v) (o:=mA f) (by rw[<-l];exact r f);exact get_map I.dB a81 (c.get f) c.hd n hu (ZE ru) (h u _ (I.tok _) ru)
theorem Mb{m:Str}{g:Addr}{pl:Sem Bool}{Q:Value×List Value->ae->Prop}(I:Inv X ak O H s)(e:H a=some (.ins C dx fs))(c:gM X.K C)(k:Meth X.K C m g)(l:fs.lookup m=none) (h:Q (.ref g,[.ref a]) s):wpAny (model X.prog X.w) A (getMethod (.ref a) m pl) Q E s:=by obtain⟨mA,a81,r,_,_,_⟩:=Dt I.aY e;have hn:mA m=none:=lC.none_of (by rw[<-l];exact r m);exact a0Q I.dB a81 (c.get m) k.at_ k.fn hn h
theorem RA{y:V}{u:Value}{Q:Unit->ae->Prop}(I:Inv X ak O H s)(e:H a=some (.ins C dx fs))(c:gM X.K C)(n:gj X.K C f)(hl:fs.length<1000)(ry:RelV y u) (h:∀s',Inv X ak O (upd H a (.ins C dx (gE f y fs))) s'->Q () s'):wpAny (model X.prog X.w) A (setAttr (.ref a) f u) Q E s:=by
 obtain⟨mA,a81,r,wi,_,ho⟩:=Dt I.aY e;have hz:(fs.map (·.1)).length<=sizeLine:=by rw[bD,vz];lia
 refine RF I.dB a81 c.sa c.po n.Qi c.hd wi hz λh' O' sb=>h _ ?_;have hd:∃o,h'.get? dx=some o:=let⟨o,_,_,e',_⟩:=O'.ns;⟨o,e'⟩;refine I.write (x:=a) (e:=dx) (by rw[e];exact True.intro) (.inr ho) (λb q hb z=>(sb.2 b hb).trans z) hd ?_;refine⟨by rw[bj a81.ne];exact ho,?_,a81.ne,O'.obj,_,O'.ns,λg=>?_,λg hg=>?_⟩
 ·have:=Lf f y fs;lia
 ·show lC ((gE f y fs).lookup g) (if g=f then some u else mA g)
  rw[L8];by_cases q:g=f
  ·rw[aU q,aU q];exact ry
  ·rw[aV q,aV q];exact r g
 ·by_cases q:g=f
  ·rw[q];exact(Dl f y fs).1
  ·refine(Dl f y fs).2 g (wi g λz=>hg ?_)
   show(if g=f then some u else mA g)=none;rw[aV q];exact z
theorem Inv.made(I:Inv X ak O H s):Inv X ak O (upd (upd H s.heap.objs.size (.own (s.heap.objs.size+1))) (s.heap.objs.size+1) (.ins C s.heap.objs.size [])) {s with heap:=(s.heap.push PySem.W.emptyDict).push (PySem.W.instObj C s.heap.objs.size)}:=by
 have e1:(s.heap.push PySem.W.emptyDict).get? s.heap.objs.size=some PySem.W.emptyDict:=cS s.heap rfl;have e2:((s.heap.push PySem.W.emptyDict).push (PySem.W.instObj C s.heap.objs.size)).get? (s.heap.objs.size+1)=some (PySem.W.instObj C s.heap.objs.size):=by have:=cS (s.heap.push PySem.W.emptyDict) (o:=PySem.W.instObj C s.heap.objs.size) rfl;rwa [mM]at this
 have e3:(s.heap.push PySem.W.emptyDict).Ns s.heap.objs.size (λ_=>none):=⟨PySem.W.emptyDict,#[],_,e1,Z,(λe he=>absurd he (by simp)),λ_=>rfl⟩;have I1:=I.laid (a:=s.heap.objs.size) (o:=.own (s.heap.objs.size+1)) (h':=s.heap.push PySem.W.emptyDict) (t':=s.toks) (λb u q=>bQ _ q) (bq _) ⟨_,e1⟩;refine I1.laid (a:=s.heap.objs.size+1) (o:=.ins C s.heap.objs.size []) (t':=s.toks) (λb u q=>bQ _ q) (Nat.le_of_eq (mM _ _)) ?_;have ne:s.heap.objs.size≠s.heap.objs.size+1:=dw (P4 _);refine⟨by rw[bj ne,bV],eQ _,ne,e2,λ_=>none,(Heap.Ns1.of_empty e3).at λo q=>bQ _ q,λ_=>True.intro,λy hy=>absurd rfl hy⟩
theorem O1{prog:af}{w:World}{env:Env}{e:Expr}{f:Str}{pos:Pos}{s:ae}{Q:Value->ae->Prop}(hb:attributeBase e f env (eval e env)=eval e env) (h:wpAny (model prog w) A (eval e env) (λo s₁=>wpAny (model prog w) A (getAttr o f true) Q E s₁) E s):wpAny (model prog w) A (eval (.Attribute e f pos) env) Q E s:=Attribute_any_ h (by rw[arm_eval_Attribute,hb])
end
section
variable {X:Cx}{o e value:Expr}{f:Str}{pos pos' og:Pos}{ta tv:TE}
end
section
variable {X:Cx}{ak:List (Addr×Obj)}{O:St}{H:Hp}{s:ae}{A:ai}{E:Value->ae->Prop}{Q:Value->ae->Prop}{c:Value}{b:Bool}
end
structure cn(k:Nat)(A:ai):Prop where
 hd:A.handled=none
 dp:A.depth+3*k+5<recursionLimit
 un:A.units+16*k+200<cLine
theorem cn.mono{j k:Nat}{A:ai}(r:cn k A)(h:j<=k):cn j A:=⟨r.hd,by have:=r.dp;lia,by have:=r.un;lia⟩
theorem cn.deeper{k:Nat}{A:ai}(r:cn (k+1) A)(env:Env):cn k (A.deeper env):=⟨r.hd,by have:=r.dp;show A.depth+1+3*k+5<_;lia,by have:=r.un;show A.units+3+16*k+200<_;lia⟩
theorem WQ{A:ai}{C:Addr}{us:List Value}{kw:List (Str×Value)}:(A.under (.builtin "type.__call__" ⟨.ref C::us,kw⟩)).depth=A.depth+1:=by first|rfl|simp[Around.under,Code.weight,Code.isCreation,Code.isGuard,Code.isCaller,Code.frames,Code.isFrame,guardIds]
theorem WN{A:ai}{C:Addr}{us:List Value}{kw:List (Str×Value)}:(A.under (.builtin "type.__call__" ⟨.ref C::us,kw⟩)).units=A.units+1:=by first|rfl|simp[Around.under,Code.cUnits,Code.frames,Code.isFrame]
theorem cn.make{k:Nat}{A:ai}(r:cn (k+1) A)(C:Addr)(us:List Value)(kw:List (Str×Value)):cn k (A.under (.builtin "type.__call__" ⟨.ref C::us,kw⟩)):=⟨r.hd,by have:=r.dp;rw[WQ];omega,by have:=r.un;rw[WN];omega⟩
theorem cn.depth{k:Nat}{A:ai}(r:cn k A):A.depth<recursionLimit:=by have:=r.dp;lia
theorem cn.units{k:Nat}{A:ai}(r:cn k A):A.units+64<cLine:=by have:=r.un;lia
def wA:TA:=λ_ H Q=>Q [] H
def QI(ta:TE)(tr:TA):TA:=λO H Q=>ta O H λx H1=>tr O H1 λxs H2=>Q (x::xs) H2
section
variable {X:Cx}{e:Expr}{es:List Expr}{te:TE}{t:TA}{pos:Pos}
theorem ay:PA X [] wA:=λ_ _ _ _ H Q I h=>Calls.spliced_nil ⟨[],H,I,.nil,h⟩
theorem ao(ha:PE X e te)(hr:PA X es t)(hs:starEach (e::es) X.env=(false,eval e X.env)::starEach es X.env:=by rfl):PA X (e::es) (QI te t):=by intro pos ak s O H Q I h;rw[hs];show wpAny _ _ (spliced ((false,eval e X.env)::backTo pos (starEach es X.env))) _ _ s;refine Calls.spliced_cons (aW (ha ak s O H _ I h) λu s1 ⟨x,H1,I1,r1,q1⟩=>?_);exact aW (hr pos ak s1 O H1 _ I1 q1) λus s2 ⟨xs,H2,I2,r2,q2⟩=>⟨x::xs,H2,I2,.cons r1 r2,q2⟩
end
abbrev Sp:=List V->Hp->VK->XK->Prop
abbrev iu:=List Env->Hp->ae->XK->Value->ae->Prop
structure mH(P:af)(w:World)(K:aa)(mg:bf)(au:Heap)(A:ai)(outer:List Env)(s:ae)(H:Hp):Prop where
 frames:A.frames=some outer
 mod:Mod K mg au
 bs:∀b o,au.get? b=some o->s.heap.get? b=some o/\H b=none
 jq:au.objs.size<=s.heap.objs.size
 gI:s.heap.FunFrames au outer
 kz:∀b∈cR outer,H b=none
 aY:dc P w H s.heap
 bare:AllBare s.gens
def CE(outer:List Env)(P:af)(w:World)(H:Hp)(s:ae)(Q:VK)(u:Value)(s':ae):Prop:=∃v H',s'.os=s.os/\AllBare s'.gens/\Un (cR outer) [] H H' s.heap s'.heap/\dc P w H' s'.heap/\RelV v u/\Q v H'
def CR(CX:iu)(outer:List Env)(P:af)(w:World)(H:Hp)(s:ae)(Q:VK)(E:XK)(r:Result)(s':ae):Prop:=match r with | .ok (.ret u)=>CE outer P w H s Q u s' | .ok _=>False | .error e=>CX outer H s E e s'
structure f7(P:af)(w:World)(K:aa)(mg:bf)(au:Heap)(CX:iu)(k:Nat)(f:Addr)(fd:FuncData)(ps:List Str)(sp:Sp):Prop where
 len:∀vs H Q E,sp vs H Q E->vs.length=ps.length
 run:∀(A:ai)(outer:List Env)(s:ae)(H:Hp)(args:Args)(us:List Value)(vs:List V)(Q:VK)(E:XK),cn k A->mH P w K mg au A outer s H->BindsTo s fd args (ps.zip us)->Vals vs us->sp vs H Q E->codeAny (model P w) A (.call (.ref f) args) (CR CX outer P w H s Q E) s
theorem mH.make{P:af}{w:World}{K:aa}{mg:bf}{au:Heap}{A:ai}{outer:List Env}{s:ae}{H:Hp}(e:mH P w K mg au A outer s H)(C:Addr)(us:List Value)(kw:List (Str×Value)): mH P w K mg au (A.under (.builtin "type.__call__" ⟨.ref C::us,kw⟩)) outer s H:=⟨by first|exact e.frames|(simpa[Around.under,Code.envs,Code.isFrame,pushEnvs]using e.frames),e.mod,e.bs,e.jq,e.gI,e.kz,e.aY,e.bare⟩
section
variable {X:Cx}{ak:List (Addr×Obj)}{O:St}{H:Hp}{s s':ae}
theorem Inv.yE(I:Inv X ak O H s):mH X.prog X.w X.K X.mg X.au X.A X.stack s H:=⟨I.ok.frames,I.ok.mod,I.bs,f9 I.ok.jq I.sz,I.stack,I.qm,I.aY,I.bare⟩
theorem Inv.after{Q:VK}{u:Value}(I:Inv X ak O H s)(h:CE X.stack X.prog X.w H s Q u s'):EP X ak O Q u s':=by obtain⟨v,H',os,bare,un,aY,r,q⟩:=h;obtain⟨hh,g,d,t,qB⟩:=s';obtain rfl:qB=s.os:=os;exact⟨v,H',I.call (h':=hh) (g':=g) (d':=d) (t':=t) (ch:=[]) un aY bare (λb z=>absurd z (by simp)),r,q⟩
end
def QJ(sp:Sp)(f6:List V)(E:XK)(t:TA):TE:=λO H Q=>t O H λvs H1=>sp (vs++f6) H1 Q E
inductive sj(C:Addr)(m:Str)(sp:Sp)(f6:List V)(E:XK)(t:TA)(O:St)(Q:VK)(x:V)(H1:Hp):Prop |mk (a:_)(dx:_)(fs:_)(h0:x= .ref a)(h1:H1 a=some (.ins C dx fs))(h2:fs.lookup m=none)(h3:t O H1 λvs H2=>sp (x::(vs++f6)) H2 Q E)
def GF(C:Addr)(m:Str)(sp:Sp)(f6:List V)(E:XK)(ta:TE)(t:TA):TE:=λO H Q=>ta O H λx H1=>sj C m sp f6 E t O Q x H1
def QB(C:Addr)(sp:Sp)(f6:List V)(E:XK)(t:TA):TE:=λO H Q=>t O H λvs H1=>∀x dx,H1 x=none->H1 dx=none->dx≠x->sp (.ref x::(vs++f6)) (upd (upd H1 dx (.own x)) x (.ins C dx [])) (λv H2=>v= .aZ/\Q (.ref x) H2) E
def Binds(K:aa)(fd:FuncData)(ps:List Str)(ds:List Value):Prop:=∀(s:ae)(us:List Value),K.In s.heap->(us++ds).length=ps.length->BindsTo s fd ⟨us,[]⟩ (ps.zip (us++ds))
theorem Binds.all{K:aa}{fd:FuncData}{ps:List Str}(h:∀us:List Value,us.length=ps.length->bindArgs fd ⟨us,[]⟩=pure (ps.zip us)):Binds K fd ps []:=λs us _ hl=>by rw[lG]at hl⊢;exact .of_eq (h us hl)
def Passes(CX:iu)(X:Cx)(E:XK):Prop:=∀(ak:List (Addr×Obj))(O:St)(H:Hp)(s:ae)(e:Value)(s':ae),Inv X ak O H s->CX X.stack H s E e s'->X.xe e s'
section
variable {X:Cx}{CX:iu}{k:Nat}{f C:Addr}{fd:FuncData}{ps:List Str}{sp:Sp}{f6:List V}{ds:List Value}{E:XK}{x m:Str}{p pos apos:Pos}{e o:Expr}{es:List Expr}{ta:TE}{t:TA}
theorem x9{ak:List (Addr×Obj)}{O:St}{H:Hp}{s:ae}{Q:VK}{us:List Value}{vs:List V}(F:f7 X.prog X.w X.K X.mg X.au CX k f fd ps sp)(hr:cn k X.A)(hb:Binds X.K fd ps ds)(hd:Vals f6 ds)(hx:Passes CX X E) (I:Inv X ak O H s)(r:Vals vs us)(h:sp (vs++f6) H Q E):wpAny (model X.prog X.w) X.A (call (.ref f) us) (EP X ak O Q) X.xe s:=by
 have r2:Vals (vs++f6) (us++ds):=r.append hd;have hl:(us++ds).length=ps.length:=by rw[<-r2.length];exact F.len _ _ _ _ h
 refine qc (vC (F.run X.A X.stack s H ⟨us,[]⟩ (us++ds) (vs++f6) Q E hr I.yE (hb s us I.dB hl) r2 h) λr s' hq=>?_);cases r with |error e=>exact hx ak O H s e s' I hq |ok fl=>cases fl with |ret u=>exact I.after hq |next=>exact False.elim hq |brk=>exact False.elim hq |cont=>exact False.elim hq
theorem U2(F:f7 X.prog X.w X.K X.mg X.au CX k f fd ps sp)(hr:cn k X.A)(hg:Gl X x)(hm:X.mg x=some (.ref f))(hk:PySem.W.keepIn X.K (.ref f)=true)(hb:Binds X.K fd ps ds)(hd:Vals f6 ds)(hx:Passes CX X E) (ha:PA X (e::es) t)(fv:(x==("__debug__":Str))=false:=by decide)(he:starEach (e::es) X.env=(false,eval e X.env)::starEach es X.env:=by rfl)(dN:(backTo pos (starEach es X.env)).any (·.1)=false:=by rfl): PE X (.Call (.Name x p) (e::es) [] pos) (QJ sp f6 E t):=by intro ak s O H Q I h;refine vy (lZ I hg hm ?_ fv);refine zA (h₀:=X.au) I.ok.mod.kh hk (aW (ha pos ak s O H _ I h) λus s1 ⟨vs,H1,I1,r,q⟩=>⟨I1.dB,?_⟩) he dN;exact x9 F hr hb hd hx I1 r q
theorem K4{pl:Sem Bool}(he:PE X o ta)(c:gM X.K C)(hm:Meth X.K C m f)(F:f7 X.prog X.w X.K X.mg X.au CX k f fd ps sp)(hr:cn k X.A)(hb:Binds X.K fd ps ds)(hd:Vals f6 ds)(hx:Passes CX X E)(ha:PA X (e::es) t) (fh:starEach (e::es) X.env=(false,eval e X.env)::starEach es X.env:=by rfl)(dN:(backTo pos (starEach es X.env)).any (·.1)=false:=by rfl) (ht:eval (.Call (.Attribute o m apos) (e::es) [] pos) X.env=(do
 let ov<-eval o X.env
 standAt apos.atName
 let(f,first)<-holding [ov] (getMethod ov m pl)
 callWith pos f first (backTo pos (starEach (e::es) X.env)) (backToKw pos (keywordEach [] X.env))):=by rfl): PE X (.Call (.Attribute o m apos) (e::es) [] pos) (GF C m sp f6 E ta t):=by
 intro ak s O H Q I h;refine PySem.W.methodCall_KW (pl:=pl) (aW (he ak s O H _ I h) λu s1 ⟨x,H1,I1,rx,a,dx,fs,ex,ea,l,q⟩=>?_) ht;subst ex;obtain rfl:u=Value.ref a:=rx;refine Mb I1 ea c hm l ?_;refine zA (first:=[.ref a]) (h₀:=X.au) I.ok.mod.kh hm.kp (aW (ha pos ak s1 O H1 _ I1 q) λus s2 ⟨vs,H2,I2,r,q2⟩=>⟨I2.dB,?_⟩) fh dN;exact x9 (us:=.ref a::us) (vs:=.ref a::vs) F hr hb hd hx I2 (.cons Z r) q2
theorem TR{pl:Sem Bool}(he:PE X o ta)(c:gM X.K C)(hm:Meth X.K C m f)(F:f7 X.prog X.w X.K X.mg X.au CX k f fd ps sp)(hr:cn k X.A)(hb:Binds X.K fd ps ds)(hd:Vals f6 ds)(hx:Passes CX X E) (ht:eval (.Call (.Attribute o m apos) [] [] pos) X.env=(do
 let ov<-eval o X.env
 standAt apos.atName
 let(f,first)<-holding [ov] (getMethod ov m pl)
 callWith pos f first (backTo pos (starEach [] X.env)) (backToKw pos (keywordEach [] X.env))):=by rfl): PE X (.Call (.Attribute o m apos) [] [] pos) (GF C m sp f6 E ta wA):=by
 intro ak s O H Q I h;refine PySem.W.methodCall_KW (pl:=pl) (aW (he ak s O H _ I h) λu s1 ⟨x,H1,I1,rx,a,dx,fs,ex,ea,l,q⟩=>?_) ht;subst ex;obtain rfl:u=Value.ref a:=rx;refine Mb I1 ea c hm l ?_;exact PySem.W.callWith_K0 (first:=[.ref a]) I1.dB hm.kp (x9 (us:=[.ref a]) (vs:=[.ref a]) F hr hb hd hx I1 (.cons rfl .nil) q)
structure Mk(K:aa)(C f:Addr):Prop where
 makes:PySem.W.makesIn K C=true
 init:PySem.W.findIn K (.ref C) "__init__"=some (some (.ref f))
 fn:PySem.W.isFn K (.ref f)=true
 kp:PySem.W.keepIn K (.ref C)=true
theorem Sb{ak:List (Addr×Obj)}{O:St}{H:Hp}{s:ae}{Q:VK}{us:List Value}{vs:List V}(M:Mk X.K C f)(F:f7 X.prog X.w X.K X.mg X.au CX k f fd ps sp)(hr:cn (k+1) X.A)(hb:Binds X.K fd ps ds)(hd:Vals f6 ds) (hx:Passes CX X E)(I:Inv X ak O H s)(r:Vals vs us) (h:∀x dx,H x=none->H dx=none->dx≠x->sp (.ref x::(vs++f6)) (upd (upd H dx (.own x)) x (.ins C dx [])) (λv H2=>v= .aZ/\Q (.ref x) H2) E): wpAny (model X.prog X.w) X.A (call (.ref C) us) (EP X ak O Q) X.xe s:=by
 have hq:=h (s.heap.objs.size+1) s.heap.objs.size (I.aY.fresh (Nat.le_succ _)) (I.aY.fresh (bq _)) (dw (P4 _));have I2:=Inv.made (C:=C) I;have r2:Vals (V.ref (s.heap.objs.size+1)::(vs++f6)) (Value.ref (s.heap.objs.size+1)::(us++ds)):=.cons Z (r.append hd);have hl:(Value.ref (s.heap.objs.size+1)::us++ds).length=ps.length:=by have e:=r2.length;rw[F.len _ _ _ _ hq]at e;exact e.symm
 refine qc (WO (f:=f) I.dB M.makes M.init (dj.mp M.fn) (vC (F.run _ X.stack _ _ ⟨Value.ref (s.heap.objs.size+1)::us,[]⟩ (Value.ref (s.heap.objs.size+1)::(us++ds)) _ _ E (hr.make C us []) (I2.yE.make C us []) (hb _ (Value.ref (s.heap.objs.size+1)::us) I2.dB hl) r2 hq) λr s' jh=>?_));cases r with |error e=>exact hx ak O _ _ e s' I2 jh |ok fl=>cases fl with |ret u=>obtain⟨v,H',I3,rv,ev,q3⟩:=I2.after jh;subst ev;exact⟨rv,⟨V.ref (s.heap.objs.size+1),H',I3,Z,q3⟩⟩ |next=>exact False.elim jh |brk=>exact False.elim jh |cont=>exact False.elim jh
theorem TU(M:Mk X.K C f)(F:f7 X.prog X.w X.K X.mg X.au CX k f fd ps sp)(hr:cn (k+1) X.A)(hg:Gl X x)(hm:X.mg x=some (.ref C))(hb:Binds X.K fd ps ds)(hd:Vals f6 ds)(hx:Passes CX X E) (ha:PA X (e::es) t)(fv:(x==("__debug__":Str))=false:=by decide)(he:starEach (e::es) X.env=(false,eval e X.env)::starEach es X.env:=by rfl)(dN:(backTo pos (starEach es X.env)).any (·.1)=false:=by rfl): PE X (.Call (.Name x p) (e::es) [] pos) (QB C sp f6 E t):=by intro ak s O H Q I h;refine vy (lZ I hg hm ?_ fv);refine zA (h₀:=X.au) I.ok.mod.kh M.kp (aW (ha pos ak s O H _ I h) λus s1 ⟨vs,H1,I1,r,q⟩=>⟨I1.dB,?_⟩) he dN;exact Sb M F hr hb hd hx I1 r q
end
section
variable {X:Cx}{CX:iu}{k:Nat}{f C:Addr}{fd:FuncData}{ps ks:List Str}{sp:Sp}{E:XK}{x m:Str}{p pos apos a7g:Pos}{e o:Expr}{es:List Expr}{kws:List Keyword}{te ta:TE}{t tk:TA}{nm:Option Str}
variable {g:List Value->List Value->List Value}{gV:List V->List V->List V}
end
structure bh(N P:List Str)(sc:Scope):Prop where
 kind:sc.kind= .function
 co:sc.isCoroutine=false
 gen:sc.isGenerator=false
 nd:N.Nodup
 pre:N.take P.length=P
 par:∀x∈P,sc.names.lookup x=some .local\/sc.names.lookup x=some .cell
 Wb:∀y∈sc.names,y.2≠ .free
theorem NQ{kindOf:Str->Option NameKind}{x:Str}:∀{binds:List (Str×Value)}{m:bf},(∀v,(x,v)∉binds)->bindL kindOf binds m x=m x
 |[],_,_=>rfl |(n,v)::r,m,h=>by
  unfold bindL;rw[NQ λw hw=>h w (sG _ hw)];split
  ·have:x≠n:=by rintro rfl;exact h v FT
   simp[this]
  ·rfl
theorem NS{kindOf:Str->Option NameKind}{x:Str}:∀{binds:List (Str×Value)}{m:bf},(∀v,(x,v)∉binds)->bindC kindOf binds m x=m x
 |[],_,_=>rfl |(n,v)::r,m,h=>by
  unfold bindC;rw[NS λw hw=>h w (sG _ hw)];split
  ·rfl
  ·have:x≠n:=by rintro rfl;exact h v FT
   simp[this]
theorem NR{kindOf:Str->Option NameKind}{x:Str}{v:Value}:∀{P:List Str}{vs:List Value}{i:Nat}{m:bf},P.Nodup->P[i]? =some x->vs[i]? =some v->kindOf x=some .local->bindL kindOf (P.zip vs) m x=some v |[],_,_,_,_,h,_,_=>by simp at h |_::_,[],_,_,_,_,h,_=>by simp at h |p::P,w::vs,0,m,nd,h1,h2,hk=>by simp at h1 h2;subst h1;subst h2;show bindL kindOf ((p,w)::P.zip vs) m p=_;unfold bindL;rw[NQ λv hv=>(FR.mp nd).1 (qe hv).1,aU hk];simp |p::P,w::vs,i+1,m,nd,h1,h2,hk=>by show bindL kindOf ((p,w)::P.zip vs) m x=_;unfold bindL;exact NR (i:=i) (FR.mp nd).2 (by simpa using h1) (by simpa using h2) hk
theorem NT{kindOf:Str->Option NameKind}{x:Str}{v:Value}:∀{P:List Str}{vs:List Value}{i:Nat}{m:bf},P.Nodup->P[i]? =some x->vs[i]? =some v->kindOf x≠some .local->bindC kindOf (P.zip vs) m x=some v |[],_,_,_,_,h,_,_=>by simp at h |_::_,[],_,_,_,_,h,_=>by simp at h |p::P,w::vs,0,m,nd,h1,h2,hk=>by simp at h1 h2;subst h1;subst h2;show bindC kindOf ((p,w)::P.zip vs) m p=_;unfold bindC;rw[NS λv hv=>(FR.mp nd).1 (qe hv).1,aV hk];simp |p::P,w::vs,i+1,m,nd,h1,h2,hk=>by show bindC kindOf ((p,w)::P.zip vs) m x=_;unfold bindC;exact NT (i:=i) (FR.mp nd).2 (by simpa using h1) (by simpa using h2) hk
def start(N:List Str)(vs:List V):St:=vs.map some++List.replicate (N.length-vs.length) none
def fz(CX:iu)(P:af)(w:World)(K:aa)(mg:bf)(au:Heap)(N:List Str)(qual:Str)(scope:Scope)(f:Addr)(cd:Value)(A:ai)(outer:List Env)(s:ae)(H:Hp)(E:XK):Cx where
 prog:=P
 w:=w
 K:=K
 mg:=mg
 au:=au
 A:=A.deeper (envOfC qual scope s.heap.objs.size f cd)
 N:=N
 s₀:=s
 H₀:=H
 env:=envOfC qual scope s.heap.objs.size f cd
 outer:=outer
 stack:=envOfC qual scope s.heap.objs.size f cd::outer
 ex:=[]
 calm:=true
 fn:=λ_=>true
 pn:=[]
 xe:=λe s'=>wpAny (model P w) (A.deeper (envOfC qual scope s.heap.objs.size f cd)) (leaving (envOfC qual scope s.heap.objs.size f cd) e) (λ_ BJ=>CX outer H s E e BJ) (λe' BJ=>CX outer H s E e' BJ) s'
theorem NK{sc:Scope}{n:Nat}{x:Str}(h:sc.names.lookup x=some .cell):∃c,(cellsFrom n sc.names []).lookup x=some c:=by have q:=FF sc.names n [] (.inl h);exact Option.isSome_iff_exists.mp q
theorem Dr{CX:iu}{P:af}{w:World}{K:aa}{mg:bf}{au:Heap}{N ps:List Str}{qual:Str}{scope:Scope}{f:Addr}{cd:Value}{A:ai}{outer:List Env}{s s1:ae}{H:Hp}{E:XK}{us:List Value}{vs:List V} (S:bh N ps scope)(hd:A.handled=none)(e0:mH P w K mg au A outer s H)(hl:vs.length=ps.length)(r:Vals vs us) (x:InCallC s s.heap.objs.size (bindL (envOfC qual scope s.heap.objs.size f cd).kindOf (ps.zip us) λ_=>none) (cellsFrom (s.heap.objs.size+1) scope.names []) (bindC (envOfC qual scope s.heap.objs.size f cd).kindOf (ps.zip us) λ_=>none) s1): Inv (fz CX P w K mg au N qual scope f cd A outer s H E) [] (start N vs) H s1:=by
 have dN:ps.length<=N.length:=by have:=jL List.length S.pre;rw[sH]at this;lia
 obtain⟨h1,tk,rfl,hk⟩:=x.done;have u7:∀b:Addr,b∉(fz CX P w K mg au N qual scope f cd A outer s H E).ex:=λb z=>absurd (show b∈([]:List Addr)from z) (by simp);refine⟨⟨e0.mod,S.kind,Z,Z,bq _,λy z c h1 h2=>?_,λy hy=>?_,λy c _ h=>?_,λ_=>hd,Around.frames_deeper e0.frames,.inr ⟨Z,Z⟩,λb z=>absurd z (u7 b),e0.bs,e0.jq,λb _ _=>u7 b,λb z=>absurd z (u7 b),e0.gI,e0.kz⟩,rfl,e0.bare,Un.kept hk,⟨_,x.toInCall.ns,λi y v h1 h2 h3=>?_⟩,λy c h=>⟨_,x.cell y c h⟩,e0.aY.fresh (bq _),λy c h=>?_,λp hp=>absurd (show p∈([]:List (Addr×Obj))from hp) (by simp),e0.aY.kept hk,?_⟩
 ·exact name_of_addr x.apart (zy h1) (zy h2)
 ·have hy:scope.names.lookup y=some .cell\/scope.names.lookup y=some .free:=hy
  rcases hy with hy|hy
  ·exact NK hy
  ·exact absurd Z (S.Wb _ (zy hy))
 ·exact Nat.le_of_lt (x.above y c (zy h))
 ·have hi:i<vs.length:=by
   unfold start at h2;by_cases hi:i<vs.length
   ·exact hi
   ·rw[zH (by simpa using hi)]at h2
    rw[List.getElem?_replicate]at h2;split at h2<;>cases h2
  have ha:vs[i]? =some v:=by unfold start at h2;rw[vS (by simpa using hi),bJ]at h2;cases e:vs[i]? with |none=>rw[e]at h2;cases h2 |some a=>rw[e]at h2;cases h2;rfl
  obtain⟨u,hu,rv⟩:=r.get ha;have hp:ps[i]? =some y:=by rw[<-S.pre,List.getElem?_take_of_lt aw];exact h1
  have KI:ps.Nodup:=by rw[<-S.pre];exact S.nd.sublist (List.take_sublist _ _)
  refine⟨u,rv,?_⟩;rcases S.par y (fP hp)with k|k
  ·exact .inl ⟨k,NR KI hp hu k⟩
  ·obtain⟨c,e⟩:=NK (n:=s.heap.objs.size+1) k
   refine .inr ⟨.inl k,c,e,?_⟩;have q:=x.cell y c e;rw[NT KI hp hu (by show scope.names.lookup y≠_;rw[k];decide)]at q;exact q
 ·exact e0.aY.fresh (Nat.le_of_lt (x.above y c (zy h)))
 ·unfold start
  show _=N.length;rw[iC,bD,List.length_replicate]
  lia
theorem Mt{CX:iu}{P:af}{w:World}{K:aa}{mg:bf}{au:Heap}{k:Nat}{f:Addr}{name qual:Str}{params:Arguments}{body:List Stmt}{scope:Scope}{dV kV doc pm aG ct oc:Value}{an od:Option Addr} {dU:Array (Option Value)}{N ps:List Str}{sp:Sp}(lk:K.lookup f=some ⟨oc,od,.func (PySem.W.fnOf name qual params body scope dV kV doc pm an aG ct),dU⟩)(dX:PySem.W.codeIn K aG qual=true)(S:bh N ps scope) (len:∀vs H Q E,sp vs H Q E->vs.length=ps.length) (fw:∀(A:ai)(outer:List Env)(s:ae)(H:Hp)(vs:List V)(Q:VK)(E:XK),cn k (A.deeper (envOfC qual scope s.heap.objs.size f aG))->sp vs H Q E->∃t,eV (fz CX P w K mg au N qual scope f aG A outer s H E) body t/\t {nx:=λ_ H'=>Q .aZ H',rt:=Q} (start N vs) H): f7 P w K mg au CX (k+1) f (PySem.W.fnOf name qual params body scope dV kV doc pm an aG ct) ps sp:=by
 refine⟨len,λA outer s H args us vs Q E hr e0 hb r eL=>?_⟩;have hl:=len _ _ _ _ eL;have KX:K.In s.heap:=e0.mod.kh.keeps λb o e=>(e0.bs b o e).1;have lim:s.heap.NoLimit:=e0.mod.nolimit.keeps λb o e=>(e0.bs b o e).1;have kq:∀y∈ps.zip us,scope.names.lookup y.1=some .local\/(scope.names.lookup y.1=some .cell/\((cellsFrom (s.heap.objs.size+1) scope.names []).lookup y.1).isSome=true):=λ⟨n,v⟩ hy=>by
  rcases S.par n (qe hy).1 with q|q
  ·exact .inl q
  ·exact .inr ⟨q,FF _ _ _ (.inl q)⟩
 refine OI hr.depth (KX _ _ lk) Z S.co S.gen Z (OP KX dX) (hb _ _ _ _ ?_);refine OG S.kind kq λenv he s1 x=>?_;subst he;refine⟨lim.keeps x.toInCall.keep,codeAny_func ?_⟩;obtain⟨t,ht,hq⟩:=fw A outer s H vs Q E (hr.deeper _) eL;have I:Inv (fz CX P w K mg au N qual scope f aG A outer s H E) [] (start N vs) H s1:=Dr S hr.hd e0 hl r x;refine fO (ht [] s1 (start N vs) H _ I hq) (λfl s' hs=>?_) λe s' hs=>hs;have fin:∀{σ':St}{H':Hp}{v:V}{u:Value},Inv (fz CX P w K mg au N qual scope f aG A outer s H E) [] σ' H' s'->RelV v u->Q v H'->CE outer P w H s Q u s':=λ{σ' H' v u} J rv q=>⟨v,H',J.os,J.bare,J.au,J.aY,rv,q⟩;cases fl with |ret u=>obtain⟨v,σ',H',J,rv,q⟩:=hs;exact fin J rv q |next=>obtain⟨σ',H',J,q⟩:=hs;exact fin (v:=V.aZ) (u:=Value.none) J Z q |brk=>obtain⟨_,_,_,q⟩:=hs;exact False.elim q |cont=>obtain⟨_,_,_,q⟩:=hs;exact False.elim q
section
variable {X:Cx}{x:Str}{p pos:Pos}{e:Expr}{es:List Expr}{t:TA}{id T:String}{r:List V->Hp->VK->Prop}
def wC(r:List V->Hp->VK->Prop)(t:TA):TE:=λO H Q=>t O H λvs H1=>r vs H1 Q
theorem cw(hc:dI X (.builtin id) r)(hg:Gl X x)(hm:X.mg x=none)(hv:bootBuiltins x=some (.builtin id))(ha:PA X (e::es) t)(hn:x≠"__name__":=by decide)(fv:(x==("__debug__":Str))=false:=by decide) (he:starEach (e::es) X.env=(false,eval e X.env)::starEach es X.env:=by rfl)(dN:(backTo pos (starEach es X.env)).any (·.1)=false:=by rfl):PE X (.Call (.Name x p) (e::es) [] pos) (wC r t):=by intro ak s O H Q I h;refine vy (m3 I hg hm hv ?_ hn fv);exact PyProof.Rows.callWith_builtin1 (aW (ha pos ak s O H _ I h) λus s1 ⟨vs,H1,I1,r1,q1⟩=>hc ak s1 O H1 vs us Q I1 r1 q1) he dN
theorem cE(hc:dI X (.type T) r)(hg:Gl X x)(hm:X.mg x=none)(hv:bootBuiltins x=some (.type T))(ha:PA X (e::es) t)(hn:x≠"__name__":=by decide)(fv:(x==("__debug__":Str))=false:=by decide) (he:starEach (e::es) X.env=(false,eval e X.env)::starEach es X.env:=by rfl)(dN:(backTo pos (starEach es X.env)).any (·.1)=false:=by rfl):PE X (.Call (.Name x p) (e::es) [] pos) (wC r t):=by intro ak s O H Q I h;refine vy (m3 I hg hm hv ?_ hn fv);exact sE (aW (ha pos ak s O H _ I h) λus s1 ⟨vs,H1,I1,r1,q1⟩=>hc ak s1 O H1 vs us Q I1 r1 q1) he dN
end
end L2
namespace HT
open PySem PyProof.Rows
section
open PySem.SeqAt
open PySem.AutoSeq1 (wpAny_loadPart')
open PySem.MeetsSeq PySem.MeetsSeq2 PySem.MeetsSeq3
end
section
variable {prog:af}{w:World}{A:ai}{E:Value->ae->Prop}{s:ae}
theorem a3r{t b:Addr}{vs ws:List Value}{Q:Value->ae->Prop}(ht:IsTup s.heap t vs.toArray)(hb:IsTup s.heap b ws.toArray)(hv:vs≠[]) (h1:ws=[]->Q (.ref t) s)(h2:ws≠[]->Q (.ref s.heap.objs.size) {s with heap:=s.heap.push {cls:=.type "tuple",data:=.seq (vs++ws).toArray}}) (hsz:vs.length+ws.length<=sizeLine):wpAny (model prog w) A (binaryOp .Add (.ref t) (.ref b)) Q E s:=by
 obtain⟨⟨cls,dd,data,sl⟩,ho,hc,n,hd⟩:=id ht;obtain⟨⟨NH,rP,data2,mS⟩,kZ,fi,n2,hd2⟩:=id hb;simp only at hc hd fi hd2;subst hc hd fi hd2;have e:vs.toArray++ws.toArray=(vs++ws).toArray:=by simp
 by_cases hw:ws=[]
 ·exact concat_meets ⟨_,ho,Z⟩ ⟨_,kZ,Z⟩ noFill_tuple_add seq_tuple_add OS OV (OW _ _) (tuple_addW1 t b vs.toArray ws.toArray n n2 dd rP sl mS (by simpa using hv) (by simp[hw])) ⟨ho,kZ,h1 hw⟩
 ·refine concat_meets ⟨_,ho,Z⟩ ⟨_,kZ,Z⟩ noFill_tuple_add seq_tuple_add OS OV (OW _ _) (tuple_addW2 t b vs.toArray ws.toArray n n2 dd rP sl mS (by simpa using hv) (by simpa using hw) (by rw[dG,dG];exact hsz)) ⟨ho,kZ,?_⟩;rw[e];exact h2 hw
def bO(n d:Nat):Option Int->Nat |none=>d |some v=>if v<0 then(v+(n:Int)).toNat else min v.toNat n
theorem B7 (n d:Nat):bO n d none=d:=rfl
theorem B8(n d k:Nat):bO n d (some (k:Int))=min k n:=by show(if(k:Int)<0 then((k:Int)+(n:Int)).toNat else min (k:Int).toNat n)=min k n;rw[aV aw,Pf]
theorem RZ(n d:Nat)(hd:d<=n)(o:Option Int):bO n d o<=n:=by cases o with |none=>exact hd |some v=>
 show(if v<0 then(v+(n:Int)).toNat else min v.toNat n)<=n;by_cases hv:v<0
 ·rw[aU hv];lia
 ·rw[aV hv];exact Nat.min_le_right _ _
theorem ET(v:Int)(n d:Nat):(if v<0 then max (v+(n:Int)) 0 else min v (n:Int))=((bO n d (some v):Nat):Int):=by
 show(if v<0 then max (v+(n:Int)) 0 else min v (n:Int))=(((if v<0 then(v+(n:Int)).toNat else min v.toNat n):Nat):Int);by_cases hv:v<0
 ·simp only[aU hv];lia
 ·simp only[aV hv];lia
theorem a47(lo hi:Option Int)(n:Nat):Builtin.Slice.sliceAdjust lo hi 1 (n:Int)=(((bO n 0 lo:Nat):Int),((bO n n hi:Nat):Int)):=by
 have h1:¬((1:Int)<0):=by lia
 unfold Builtin.Slice.sliceAdjust;simp only[h1,if_false];refine Prod.ext ?_ ?_
 ·cases lo with |none=>rfl |some v=>exact ET v n 0
 ·cases hi with |none=>rfl |some v=>exact ET v n n
theorem Tt(i j:Nat):Builtin.Slice.slicePlaces (i:Int) (j:Int) 1=j-i:=by
 unfold Builtin.Slice.slicePlaces;have h1:(1:Int)>0:=by lia
 simp only[h1,qd,Int.ediv_one];split<;>lia
theorem HJ{v:Value}{o:Option Int}{Q:Option Int->ae->Prop}(p:IsPart v o)(h:Q o s):wpAny (model prog w) A (Builtin.Slice.slicePartIndex v) Q E s:=by cases p with |none=>exact slicePart_none h |int i t=>exact slicePart_int h
theorem Rm{sl:Addr}{vl vu:Value}{lo hi:Option Int}{n:Nat}{Q:Int×Int×Nat->ae->Prop}(hs:s.heap.IsSliceOf sl vl vu .none)(pl:IsPart vl lo)(pu:IsPart vu hi) (h:Q (((bO n 0 lo:Nat):Int),1,bO n n hi-bO n 0 lo) s):wpAny (model prog w) A (Builtin.Slice.sliceApplied (.ref sl) (pure (n:Int))) Q E s:=by obtain⟨os,uw,yd,ny⟩:=id hs;unfold Builtin.Slice.sliceApplied Builtin.Slice.sliceFields;refine aD (aD (gC uw ny (x:=vl) Z (aD (gC uw ny (x:=vu) Z (aD (gC uw ny (x:=.none) Z (bA ?_)))))));refine aD (slicePart_none ?_);show wpAny _ _ (if((1:Int)==0)=true then _ else _) _ _ s;rw[aV az];refine aD (HJ pl (aD (HJ pu (aD (bA ?_)))));show wpAny _ _ (match Builtin.Slice.sliceAdjust lo hi 1 (n:Int)with|(lo,hi)=>pure (lo,(1:Int),Builtin.Slice.slicePlaces lo hi 1)) _ _ s;rw[a47 lo hi n];show wpAny _ _ (pure (((bO n 0 lo:Nat):Int),(1:Int),Builtin.Slice.slicePlaces ((bO n 0 lo:Nat):Int) ((bO n n hi:Nat):Int) 1)) _ _ s;rw[Tt];exact bA h
theorem Tv(xs:Array Value)(i k:Nat):((List.range k).filterMap λ(m:Nat)=>xs[((i:Int)+(m:Int)*1).toNat]?).toArray=((xs.toList.drop i).take k).toArray:=by
 have e:(λ(m:Nat)=>xs[((i:Int)+(m:Int)*1).toNat]?)=λm=>xs[i+m]?:=by
  funext m;have:((i:Int)+(m:Int)*1).toNat=i+m:=by lia
  rw[this]
 rw[e];have:=pick_run xs i k;rw[List.filterMap_map]at this;have e2:((λx=>xs[x]?)∘λx=>i+x)=λm=>xs[i+m]?:=rfl;rw[e2]at this;rw[this]
theorem a0R{t sl:Addr}{items:Array Value}{vl vu:Value}{lo hi:Option Int}{Q:Value->ae->Prop}(ht:IsTup s.heap t items)(hs:s.heap.IsSliceOf sl vl vu .none)(pl:IsPart vl lo)(pu:IsPart vu hi) (hw:¬(bO items.size 0 lo=0/\bO items.size items.size hi=items.size)) (h:Q (.ref s.heap.objs.size) {s with heap:=s.heap.push {cls:=.type "tuple",data:=.seq ((items.toList.drop (bO items.size 0 lo)).take (bO items.size items.size hi-bO items.size 0 lo)).toArray}}) (hsz:items.size<=sizeLine):wpAny (model prog w) A (getItem (.ref t) (.ref sl)) Q E s:=by
 have xX:sizeOk (.seq ((items.toList.drop (bO items.size 0 lo)).take (bO items.size items.size hi-bO items.size 0 lo)).toArray):=by show((items.toList.drop (bO items.size 0 lo)).take (bO items.size items.size hi-bO items.size 0 lo)).toArray.size<=sizeLine;rw[dG,sH,FX,vY];omega
 have hj:bO items.size items.size hi<=items.size:=RZ _ _ (bq _) hi;obtain⟨os,uw,yd,ny⟩:=id hs;have hTs:s.TypeIs (.ref sl) "slice":=⟨os,uw,yd⟩;unfold getItem
 try with_reducible refine gO ?_
 first|refine aD (bA ?_)|skip
 refine aD (wpAny_sequenceKey ht.typeIs az ?_);refine aD (zr (name:=Str.ofString "__getitem__") ht.typeIs OX (zq OX ht.typeIs entry_tuple_getitem ?_ (args_tuple_getitem _ _)));show wpAny _ _ (Builtin.Tuple.tupleItemsOf (.ref t)>>=_) _ _ s;refine aD (tupleItemsOf_ ht ?_);refine aD (wpAny_typeOf hTs ?_);rw[aU az];refine aD (Rm hs pl pu ?_);have YB:¬((((bO items.size 0 lo:Nat):Int)==0&&(1:Int)==1&&(bO items.size items.size hi-bO items.size 0 lo)==items.size)=true):=by intro q;rw[dm,dm]at q;have q1:((bO items.size 0 lo:Nat):Int)=0:=eq_of_beq q.1.1;have q2:bO items.size items.size hi-bO items.size 0 lo=items.size:=eq_of_beq q.2;exact hw ⟨bp,bp⟩
 show wpAny _ _ (if(((bO items.size 0 lo:Nat):Int)==0&&(1:Int)==1&&(bO items.size items.size hi-bO items.size 0 lo)==items.size)=true then _ else _) _ _ s;rw[aV YB,Tv]
 first |exact aD (m:=Builtin.Tuple.tupleExact _) (mJ (bA ⟨_,Z,bA h⟩) xX) |exact aD (m:=Builtin.Tuple.tupleExact _) (mJ (aD (bA (bA ⟨_,Z,bA h⟩))) xX) |exact aD (aD (m:=Builtin.Tuple.tupleExact _) (mJ (bA (bA ⟨_,Z,bA h⟩)) xX)) |exact aD (aD (m:=Builtin.Tuple.tupleExact _) (mJ (bA ⟨_,Z,bA h⟩) xX))
end
end HT
namespace L2
open PySem PySem.Spec PyProof.Rows
abbrev TO:=St->Hp->(Option Int->Hp->Prop)->Prop
def PO(X:Cx)(e:Option Expr)(t:TO):Prop:=∀(ak:List (Addr×Obj))(s:ae)(O:St)(H:Hp)(Q:Option Int->Hp->Prop),Inv X ak O H s->t O H Q->wpAny (model X.prog X.w) X.A (evalPart e X.env) (λu s'=>∃o H',Inv X ak O H' s'/\IsPart u o/\Q o H') X.xe s
def Qw:TO:=λ_ H Q=>Q none H
inductive a4A(Q:Option Int->Hp->Prop)(x:V)(H1:Hp):Prop |mk (i:_)(h0:x= .int i)(h1:Q (some i) H1)
def Qr(t:TE):TO:=λO H Q=>t O H λx H1=>a4A Q x H1
section
variable {X:Cx}{e:Expr}{te:TE}{lo hi:Option Expr}{tl th:TO}{pos p2:Pos}
theorem tQ:PO X none Qw:=by intro ak s O H Q I h;rw[evalPart_none];exact bA ⟨none,H,I,.none,h⟩
theorem tP(h:PE X e te):PO X (some e) (Qr te):=by intro ak s O H Q I hw;rw[evalPart_some];refine aW (h ak s O H _ I hw) λu s1 ⟨x,H1,I1,r1,q1⟩=>?_;obtain⟨i,rfl,q⟩:=q1;obtain⟨t,rfl⟩:=r1;exact⟨some i,H1,I1,.int i t,q⟩
def ze(X:Cx)(r:V->Option Int->Option Int->Hp->VK->Prop):Prop:=∀(ak:List (Addr×Obj))(s:ae)(O:St)(H:Hp)(x:V)(v vl vu:Value)(lo hi:Option Int)(sl:Addr)(Q:VK),Inv X ak O H s->RelV x v->s.heap.IsSliceOf sl vl vu .none->IsPart vl lo->IsPart vu hi->r x lo hi H Q->∃T id,typeLookup (.type T) "__getitem__"=pure (some (.builtin id))/\s.TypeIs v T/\wpAny (model X.prog X.w) X.A (getItem v (.ref sl)) (EP X ak O Q) X.xe s
def Qn(r:V->Option Int->Option Int->Hp->VK->Prop)(te:TE)(tl th:TO):TE:=λO H Q=>te O H λx H1=>tl O H1 λl H2=>th O H2 λu H3=>r x l u H3 Q
theorem tR{r:V->Option Int->Option Int->Hp->VK->Prop}(hr:ze X r)(he:PE X e te)(hl:PO X lo tl)(hu:PO X hi th):PE X (.Subscript e (.Slice lo hi none p2) pos) (Qn r te tl th):=by intro ak s O H Q I h;refine Subscript_ (aW (he ak s O H _ I h) λv s1 ⟨x,H1,I1,r1,q1⟩=>?_);refine wpAny_Slice (aW (hl ak s1 O H1 _ I1 q1) λvl s2 ⟨l,H2,I2,pl,q2⟩=>aW (hu ak s2 O H2 _ I2 q2) λvu s3 ⟨u,H3,I3,pu,q3⟩=>?_);rw[evalPart_none];refine bA ?_;have I4:Inv X ak O H3 {s3 with heap:=s3.heap.push {cls:=.type "slice",data:=.fields #[vl,vu,.none]}}:=I3.kept (t':=s3.toks) λb ob q=>bQ _ q;obtain⟨T,id,hT,ht,hg⟩:=hr ak {s3 with heap:=s3.heap.push {cls:=.type "slice",data:=.fields #[vl,vu,.none]}} O H3 x v vl vu l u s3.heap.objs.size Q I4 r1 (Heap.IsSliceOf.new ..) pl pu q3;show wpAny (model X.prog X.w) X.A (subscriptTail e (.Slice lo hi none p2) v (.ref s3.heap.objs.size)) (EP X ak O Q) X.xe {s3 with heap:=s3.heap.push {cls:=.type "slice",data:=.fields #[vl,vu,.none]}};exact tail_any (ops:=[.ref s3.heap.objs.size,v]) ht hT hg (by with_unfolding_all rfl)
def iT(xs:List V)(lo hi:Option Int):List V:=(xs.drop (HT.bO xs.length 0 lo)).take (HT.bO xs.length xs.length hi-HT.bO xs.length 0 lo)
theorem Nx(xs:List V)(lo hi:Option Int):(iT xs lo hi).length<=xs.length:=by
 unfold iT;rw[sH,FX]
 lia
inductive a5P(K:aa)(x:V)(lo:Option Int)(hi:Option Int)(H:Hp)(Q:VK):Prop |mk (a:_)(xs:_)(h0:x= .ref a)(h1:aQ K H a xs)(h2:¬(HT.bO xs.length 0 lo=0/\HT.bO xs.length xs.length hi=xs.length))(h3:∀p,H p=none->Q (.ref p) (upd H p (.tup (iT xs lo hi))))
def SO(K:aa):V->Option Int->Option Int->Hp->VK->Prop:=λx lo hi H Q=>a5P K x lo hi H Q
theorem Ro:ze X (SO X.K):=by
 intro ak s O H x v vl vu lo hi sl Q I rx hs pl pu h;obtain⟨a,xs,rfl,hx,hw,q⟩:=h;cases rx;obtain⟨its,r,ht,hz⟩:=I.tuple hx;have hlen:its.toArray.size=xs.length:=by rw[dG];exact r.length.symm
 refine⟨"tuple",_,OX.lookup,ht.typeIs,?_⟩;refine HT.a0R ht hs pl pu (by rw[hlen];exact hw) ?_ (by rw[hlen];exact hz);rw[hlen];refine⟨.ref s.heap.objs.size,_,I.laid (t':=s.toks) (o:=.tup (iT xs lo hi)) (λb ob q=>bQ _ q) (bq _) ?_,Z,q _ (I.aY.fresh (bq _))⟩;exact⟨f9 (Nx xs lo hi) hz,_,(r.drop (HT.bO xs.length 0 lo)).take (HT.bO xs.length xs.length hi-HT.bO xs.length 0 lo),IsTup.new _ _⟩
theorem Vals.CN{xs:List V}{us:List Value}(r:Vals xs us):us=[]↔xs=[]:=by cases r with |nil=>simp |cons _ _=>simp
end
def gc(n:Nat)(i:Int):Option Nat:=if 0<=i then(if i<n then some i.toNat else none)else if-(n:Int)<=i then some (i+n).toNat else none
def dY{α:Type}(xs:List α)(i:Int):Option α:=(gc xs.length i).bind λj=>xs[j]?
theorem Lr{n:Nat}{i:Int}{j:Nat}(h:gc n i=some j):seqIndex? i n=some j/\j<n/\-(n:Int)<=i/\i<n:=by
 unfold gc at h;by_cases h0:0<=i
 ·rw[aU h0]at h
  by_cases h1:i<n
  ·rw[aU h1]at h
   have e:i.toNat=j:=cW h;exact⟨by rw[seqIndex_of h0 h1,e],aw,aw,h1⟩
  ·rw[aV h1]at h;cases h
 ·rw[aV h0]at h
  by_cases h1:-(n:Int)<=i
  ·rw[aU h1]at h
   have e:(i+n).toNat=j:=cW h;exact⟨by rw[seqIndex_neg aw h1,e],aw,h1,aw⟩
  ·rw[aV h1]at h;cases h
theorem F9{α:Type}{xs:List α}{i:Int}{v:α}(h:dY xs i=some v):∃j,seqIndex? i xs.length=some j/\xs[j]? =some v/\j<xs.length/\-(xs.length:Int)<=i/\i<xs.length:=by unfold dY at h;cases e:gc xs.length i with |none=>rw[e]at h;cases h |some j=>rw[e]at h;obtain⟨h1,h2,h3,h4⟩:=Lr e;exact⟨j,h1,h,h2,h3,h4⟩
theorem a3U{α:Type}{xs:List α}{j:Nat}{v:α}(h:xs[j]? =some v):dY xs (j:Int)=some v:=by
 have hj:j<xs.length:=(dQ.mp h).1;have e:gc xs.length (j:Int)=some j:=by unfold gc;rw[aU aw,aU aw];simp
 unfold dY;rw[e];exact h
def Oh(b:Expr):Prop:=∀o i,subscripted b false o i=operate [o,i] (getItem o i)
def mD(X:Cx)(r:R2):Prop:=∀(value slice:Expr)(ak:List (Addr×Obj))(s:ae)(O:St)(H:Hp)(x y:V)(v u:Value)(Q:VK),Inv X ak O H s->RelV x v->RelV y u->r x y H Q->subscripted slice false v u=operate [v,u] (getItem v u)->wpAny (model X.prog X.w) X.A (subscriptTail value slice v u) (EP X ak O Q) X.xe s
def rY(X:Cx)(id:String)(r:V->List V->Hp->VK->Prop):Prop:=∀(ak:List (Addr×Obj))(s:ae)(O:St)(H:Hp)(x:V)(xs:List V)(v:Value)(us:List Value)(Q:VK),Inv X ak O H s->RelV x v->Vals xs us->r x xs H Q->wpAny (model X.prog X.w) X.A (call (.builtin id) (v::us)) (EP X ak O Q) X.xe s
section
variable {X:Cx}{a b:Expr}{ta tb:TE}{pos:Pos}
theorem mD.or{r r':R2}(h:mD X r)(h':mD X r'):mD X (λx y H Q=>r x y H Q\/r' x y H Q):=by
 intro value slice ak s O H x y v u Q I rx ry q hs;rcases q with q|q
 ·exact h value slice ak s O H x y v u Q I rx ry q hs
 ·exact h' value slice ak s O H x y v u Q I rx ry q hs
theorem Ck{r:R2}(hr:mD X r)(ha:PE X a ta)(hb:PE X b tb)(hs:Oh b):PE X (.Subscript a b pos) (sW r ta tb):=by intro ak s O H Q I h;exact Subscript_ (EZ ha hb I h λv u s2 x y H2 I2 rx ry q=>hr a b ak s2 O H2 x y v u Q I2 rx ry q (hs _ _))
inductive a5Y(K:aa)(x:V)(y:V)(H:Hp)(Q:VK):Prop |mk (p:_)(xs:_)(i:_)(v:_)(h0:x= .ref p)(h1:y= .int i)(h2:aH K H p xs)(h3:dY xs i=some v)(h4:Q v H)
def C1(K:aa):R2:=λx y H Q=>a5Y K x y H Q
inductive a5W(K:aa)(x:V)(y:V)(H:Hp)(Q:VK):Prop |mk (p:_)(xs:_)(i:_)(v:_)(h0:x= .ref p)(h1:y= .int i)(h2:aQ K H p xs)(h3:dY xs i=some v)(h4:Q v H)
def C0(K:aa):R2:=λx y H Q=>a5W K x y H Q
inductive a5X(x:V)(y:V)(H:Hp)(Q:VK):Prop |mk (z:_)(i:_)(c:_)(h0:x= .str z)(h1:y= .int i)(h2:z.length<=sizeLine)(h3:dY z.cps.toList i=some c)(h4:Q (.str ⟨#[c]⟩) H)
def SV:R2:=λx y H Q=>a5X x y H Q
theorem XG:mD X (C1 X.K):=by
 intro value slice ak s O H x y v u Q I rx ry h hs;obtain⟨p,xs,i,z,rfl,rfl,hq,he,q⟩:=h;cases rx;obtain⟨t,rfl⟩:=ry;obtain⟨its,r,pl,hz⟩:=I.list hq;obtain⟨j,h1,h2,h3,h4,h5⟩:=F9 he;obtain⟨w,ew,kM⟩:=r.get h2;have hl:=r.length;have hn:=oY;have fin:EP X ak O Q w s:=⟨z,H,I,kM,q⟩;by_cases h0:0<=i
 ·have hj:i.toNat=j:=by rw[seqIndex_of h0 h5]at h1;exact cW h1
  exact item_listR pl.isList h0 aw (by rw[hj];simpa using ew) fin hs
 ·have hj:(i+(its.toArray.size:Int)).toNat=j:=by rw[seqIndex_neg aw h4]at h1;rw[dG,<-hl];exact cW h1
  exact subscriptTail_builtinR (x:=w) pl.isList.typeIs slot_list_getitem.lookup (wpAny_getItem_list_neg (Q:=λr s'=>r=w/\EP X ak O Q r s') pl.isList aw (by rw[dG]<;>lia) aw (by rw[hj];simpa using ew) ⟨Z,fin⟩) hs
theorem XF:mD X (C0 X.K):=by intro value slice ak s O H x y v u Q I rx ry h hs;obtain⟨p,xs,i,z,rfl,rfl,hq,he,q⟩:=h;cases rx;obtain⟨t,rfl⟩:=ry;obtain⟨its,r,pl,hz⟩:=I.tuple hq;obtain⟨j,h1,h2,h3,h4,h5⟩:=F9 he;obtain⟨w,ew,kM⟩:=r.get h2;have hl:=r.length;have hn:=oY;have fin:EP X ak O Q w s:=⟨z,H,I,kM,q⟩;exact subscriptTail_builtinR (x:=w) pl.typeIs slot_tuple_getitem.lookup (getItem_tuple (j:=j) (Q:=λr s'=>r=w/\EP X ak O Q r s') pl aw aw (by rw[dG,<-hl];exact h1) (by simpa using ew) ⟨Z,fin⟩) hs
theorem Lq:mD X SV:=by
 intro value slice ak s O H x y v u Q I rx ry h hs;obtain⟨z,i,c,rfl,rfl,hz,he,q⟩:=h;obtain⟨t,rfl⟩:=rx;obtain⟨t',rfl⟩:=ry;obtain⟨j,h1,h2,h3,h4,h5⟩:=F9 he;have hl:z.cps.toList.length=z.length:=by simp[Str.length]
 rw[hl]at h1 h4 h5;have hn:=oY;exact tail_any (typeIs_str s z t) slot_str_getitem.lookup (getItem_str (c:=c) (by have e1:decide (i< -(2^63:Int))=false:=dP aw;have e2:decide (i>=2^63)=false:=dP aw;rw[e1,e2,Bool.or_false]) (by rw[h1];simpa using h2) ⟨.str ⟨#[c]⟩,H,I.tok _,⟨_,Z⟩,q⟩) hs
theorem WM(its:List Value)(n j:Nat)(u:Value):Obj.mapSeq (·.setIfInBounds j u) {cls:=.type "list",data:=.seq its.toArray n}={cls:=.type "list",data:=.seq (its.set j u).toArray n}:=by simp[Obj.mapSeq]
theorem Inv.lst{ak:List (Addr×Obj)}{O:St}{H:Hp}{s:ae}{p:Addr}{xs:List V}(I:Inv X ak O H s)(h:H p=some (.lst xs)): ∃(its:List Value)(n:Nat),Vals xs its/\s.heap.get? p=some {cls:=.type "list",data:=.seq its.toArray n}/\xs.length<=sizeLine:=by obtain⟨z,its,n,r,e⟩:=I.aY p _ h;exact⟨its,n,r,e,z⟩
theorem Inv.X8{ak:List (Addr×Obj)}{O:St}{H:Hp}{s:ae}{p:Addr}{xs ys:List V}{its its':List Value}{n n':Nat}{f:Obj->Obj}(I:Inv X ak O H s)(h:H p=some (.lst xs)) (ho:s.heap.get? p=some {cls:=.type "list",data:=.seq its.toArray n})(hf:f {cls:=.type "list",data:=.seq its.toArray n}={cls:=.type "list",data:=.seq its'.toArray n'})(r:Vals ys its')(hz:ys.length<=sizeLine)(t:Nat): Inv X ak O (upd H p (.lst ys)) {s with heap:=s.heap.update p f,toks:=t}:=by
 have e:(s.heap.update p f).get? p=some {cls:=.type "list",data:=.seq its'.toArray n'}:=by rw[zI f ho (by rw[hf]<;>rfl),hf]
 refine I.write (x:=p) (e:=p) (by rw[h];trivial) (.inl Z) (λb u hb q=>(vV _ _ (iz hb)).trans q) ⟨_,e⟩ ?_;exact⟨hz,its',n',r,e⟩
inductive a5S(o:V)(i:V)(v:V)(H:Hp)(Q:Hp->Prop):Prop |mk (p:_)(xs:_)(k:_)(j:_)(h0:o= .ref p)(h1:i= .int k)(h2:H p=some (.lst xs))(h3:gc xs.length k=some j)(h4:Q (upd H p (.lst (xs.set j v))))
def SS:V->V->V->Hp->(Hp->Prop)->Prop:=λo i v H Q=>a5S o i v H Q
theorem set_list:Oi X SS:=by
 intro ak s O H o i v ov iv u Q I ro ri rv h;obtain⟨p,xs,k,j,rfl,rfl,hp,hj,q⟩:=h;cases ro;obtain⟨t,rfl⟩:=ri;obtain⟨its,n,r,ho,hz⟩:=I.lst hp;obtain⟨h1,h2,h3,h4⟩:=Lr hj;have hl:=r.length;have hn:=oY;have I':Inv X ak O (upd H p (.lst (xs.set j v))) {s with heap:=s.heap.update p (Obj.mapSeq (·.setIfInBounds j u))}:=I.X8 hp ho (WM its n j u) (r.set rv j) (by rw[FW];exact hz) s.toks;by_cases h0:0<=k
 ·have hk:k.toNat=j:=by rw[seqIndex_of h0 h4]at h1;exact cW h1
  exact PySem.W.ki_setAt ho h0 aw (by rw[dG,<-hl];exact h4) (by rw[hk];exact⟨_,I',q⟩)
 ·have hk:(k+(its.toArray.size:Int)).toNat=j:=by rw[seqIndex_neg aw h3]at h1;rw[dG,<-hl];exact cW h1
  exact PySem.W.ki_setBack ho aw (by rw[dG,<-hl];exact h3) aw (by rw[hk];exact⟨_,I',q⟩)
theorem Rk(lo hi:Option Int)(n:Nat):(sliceBounds lo hi none n).1=((HT.bO n 0 lo:Nat):Int)/\(sliceBounds lo hi none n).2.1=((HT.bO n n hi:Nat):Int)/\(sliceBounds lo hi none n).2.2=1:=by
 refine⟨?_,?_,Z⟩
 ·cases lo with |none=>simp[sliceBounds,HT.bO] |some i=>
  simp only[sliceBounds,HT.bO,Option.getD_none,show(1:Int)>0 by decide,qd];by_cases h:i<0
  ·simp only[h,qd]<;>lia
  ·simp only[h,if_false]<;>lia
 ·cases hi with |none=>simp[sliceBounds,HT.bO] |some i=>
  simp only[sliceBounds,HT.bO,Option.getD_none,show(1:Int)>0 by decide,qd];by_cases h:i<0
  ·simp only[h,qd]<;>lia
  ·simp only[h,if_false]<;>lia
theorem Rl(its:List Value)(lo hi:Option Int):slicePick its.toArray lo hi none=((its.drop (HT.bO its.length 0 lo)).take (HT.bO its.length its.length hi-HT.bO its.length 0 lo)).toArray:=by obtain⟨h1,h2,h3⟩:=Rk lo hi its.toArray.size;unfold slicePick;rw[h1,h2,h3];simp only[sliceRange_one,pick_run,dG]<;>rfl
inductive a5Q(K:aa)(x:V)(lo:Option Int)(hi:Option Int)(H:Hp)(Q:VK):Prop |mk (a:_)(xs:_)(h0:x= .ref a)(h1:aH K H a xs)(h2:∀p,H p=none->Q (.ref p) (upd H p (.lst (iT xs lo hi))))
def SQ(K:aa):V->Option Int->Option Int->Hp->VK->Prop:=λx lo hi H Q=>a5Q K x lo hi H Q
theorem Rp:ze X (SQ X.K):=by intro ak s O H x v vl vu lo hi sl Q I rx hs pl pu h;obtain⟨a,xs,rfl,hx,q⟩:=h;cases rx;obtain⟨its,r,ht,hz⟩:=I.list hx;have hlen:=r.length;refine⟨"list",_,slot_list_getitem.lookup,ht.isList.typeIs,?_⟩;refine wpAny_getItem_list_slice ht.isList hs pl pu .none (by simp) ?_ (by rw[dG]<;>lia);rw[Rl,<-hlen];refine⟨.ref s.heap.objs.size,_,I.laid (t':=s.toks) (o:=.lst (iT xs lo hi)) (λb ob q=>bQ _ q) (bq _) ?_,Z,q _ (I.aY.fresh (bq _))⟩;exact⟨f9 (Nx xs lo hi) hz,_,0,(r.drop (HT.bO xs.length 0 lo)).take (HT.bO xs.length xs.length hi-HT.bO xs.length 0 lo),cS _ Z⟩
def nC:V->Bool | .aZ=>true | .bl _=>true | .int _=>true | .str _=>true |_=>false
def nG:V->V->Bool | .aZ,.aZ=>true | .bl a,.bl b=>a==b | .bl a,.int b=>(if a then 1 else 0)==b | .int a,.bl b=>a==(if b then 1 else 0) | .int a,.int b=>a==b | .str a,.str b=>a==b |_,_=>false
theorem a2P{A:ai}{s:ae}{y x:V}{u v:Value}(ry:RelV y u)(rx:RelV x v)(fy:nC y=true)(fx:nC x=true):SeqAt.EqAt A s u v (nG y x):=by cases y with
 |aZ=>cases ry;cases x with |aZ=>cases rx;exact SeqAt.EqAt.same _ |bl b=>cases rx;exact SeqAt.EqAt.none_bool b |int b=>obtain⟨t,rfl⟩:=rx;exact SeqAt.EqAt.none_int b t |str b=>obtain⟨t,rfl⟩:=rx;exact SeqAt.EqAt.none_str b t |_=>exact absurd (show false=true from fx) de
 |bl a=>cases ry;cases x with |aZ=>cases rx;exact SeqAt.EqAt.bool_none a |bl b=>cases rx;exact SeqAt.EqAt.bool_bool a b |int b=>obtain⟨t,rfl⟩:=rx;exact SeqAt.EqAt.bool_int a b t |str b=>obtain⟨t,rfl⟩:=rx;exact SeqAt.EqAt.bool_str a b t |_=>exact absurd (show false=true from fx) de
 |int a=>obtain⟨t',rfl⟩:=ry;cases x with |aZ=>cases rx;exact SeqAt.EqAt.int_none a t' |bl b=>cases rx;exact SeqAt.EqAt.int_bool a t' b |int b=>obtain⟨t,rfl⟩:=rx;exact SeqAt.EqAt.int_int a t' b t |str b=>obtain⟨t,rfl⟩:=rx;exact SeqAt.EqAt.int_str a t' b t |_=>exact absurd (show false=true from fx) de
 |str a=>obtain⟨t',rfl⟩:=ry;cases x with |aZ=>cases rx;exact SeqAt.EqAt.str_none a t' |bl b=>cases rx;exact SeqAt.EqAt.str_bool a t' b |int b=>obtain⟨t,rfl⟩:=rx;exact SeqAt.EqAt.str_int a t' b t |str b=>obtain⟨t,rfl⟩:=rx;exact SeqAt.EqAt.str_str a t' b t |_=>exact absurd (show false=true from fx) de
 |_=>exact absurd (show false=true from fy) de
def mr(x:V)(u:Value):Bool:=match u with | .none=>nG .aZ x | .bool b=>nG (.bl b) x | .int i _=>nG (.int i) x | .str z _=>nG (.str z) x |_=>false
theorem MU{x y:V}{u:Value}(r:RelV y u)(f:nC y=true):mr x u=nG y x:=by cases y with |aZ=>cases r;rfl |bl b=>cases r;rfl |int i=>obtain⟨t,rfl⟩:=r;rfl |str z=>obtain⟨t,rfl⟩:=r;rfl |_=>exact absurd (show false=true from f) de
theorem Fb{x:V}:∀{xs:List V}{us:List Value},Vals xs us->xs.all nC=true->us.any (mr x)=xs.any λy=>nG y x |_,_,.nil,_=>rfl |y::xs,u::us,.cons r t,f=>by rw[sL,dm]at f;rw[sJ,sJ,MU r f.1,Fb t f.2]
theorem D3{A:ai}{s:ae}{x:V}{v:Value}(rx:RelV x v)(fx:nC x=true):∀{xs:List V}{us:List Value},Vals xs us->xs.all nC=true->∀u∈us,SeqAt.EqAt A s u v (mr x u)
 |_,_,.nil,_=>λu hu=>by cases hu |y::xs,u::us,.cons r t,f=>λu' hu=>by
  rw[sL,dm]at f;rcases bS.mp hu with rfl|hu
  ·rw[MU r f.1];exact a2P r rx f.1 fx
  ·exact D3 rx fx t f.2 u' hu
def xS(x:V)(xs:List V):Bool:=xs.any λy=>nG y x
inductive a65(K:aa)(neg:Bool)(x:V)(y:V)(H:Hp)(Q:VK):Prop |mk (p:_)(xs:_)(h0:y= .ref p)(h1:(aH K H p xs\/aQ K H p xs))(h2:nC x=true)(h3:xs.all nC=true)(h4:Q (.bl (if neg then !xS x xs else xS x xs)) H)
def JQ(K:aa)(neg:Bool):R2:=λx y H Q=>a65 K neg x y H Q
theorem Ua:cg X (compareOp .NotIn) (JQ X.K true):=by
 intro ak s O H x y v u Q I rx ry h;obtain⟨p,xs,rfl,hq,fx,fs,q⟩:=h;cases ry;rcases hq with hq|hq
 ·obtain⟨its,r,pl,hz⟩:=I.list hq
  refine SeqAt.notIn_listAt (mr x) pl.isList (λw hw=>D3 rx fx r fs w (by simpa using hw)) ⟨.bl _,H,I,Z,?_⟩;rw[show its.toArray.any (mr x)=its.any (mr x) by simp,Fb r fs];exact q
 ·obtain⟨its,r,pl,hz⟩:=I.tuple hq
  refine SeqAt.notIn_tupleAt (mr x) pl (λw hw=>D3 rx fx r fs w (by simpa using hw)) ⟨.bl _,H,I,Z,?_⟩;rw[show its.toArray.any (mr x)=its.any (mr x) by simp,Fb r fs];exact q
theorem a3z:dI X (.builtin "len") (λxs H Q=>∃p ys,xs=[.ref p]/\(aH X.K H p ys\/aQ X.K H p ys)/\Q (.int ys.length) H):=by
 intro ak s O H xs us Q I r h;obtain⟨p,ys,rfl,hq,q⟩:=h;obtain⟨u,rfl,rx⟩:=vals1 r;cases rx;have hn:=oY;rcases hq with hq|hq
 ·obtain⟨its,r',pl,hz⟩:=I.list hq
  have hlen:=r'.length;exact Calls.call_len_list pl.isList (by simp only[dG]<;>lia) ⟨.int ys.length,H,I.tok _,⟨s.toks+1,by rw[dG,hlen]⟩,q⟩
 ·obtain⟨its,r',pl,hz⟩:=I.tuple hq
  have hlen:=r'.length;exact len_tuple pl (by simp only[dG]<;>lia) ⟨.int ys.length,H,I.tok _,⟨s.toks+1,by rw[dG,hlen]⟩,q⟩
theorem a3y:dI X (.builtin "len") (λxs H Q=>∃z,xs=[.str z]/\z.length<=sizeLine/\Q (.int z.length) H):=by intro ak s O H xs us Q I r h;obtain⟨z,rfl,hz,q⟩:=h;obtain⟨u,rfl,t,rfl⟩:=vals1 r;have hn:=oY;exact len_str aw ⟨.int z.length,H,I.tok _,⟨_,Z⟩,q⟩
theorem dI.or{f:Value}{r r':List V->Hp->VK->Prop}(h:dI X f r)(h':dI X f r'):dI X f (λxs H Q=>r xs H Q\/r' xs H Q):=by
 intro ak s O H xs us Q I rs q;rcases q with q|q
 ·exact h ak s O H xs us Q I rs q
 ·exact h' ak s O H xs us Q I rs q
theorem a3x:dI X (.type "list") (λxs H Q=>∃p ys,xs=[.ref p]/\(aH X.K H p ys\/aQ X.K H p ys)/\∀l,H l=none->Q (.ref l) (upd H l (.lst ys))):=by
 intro ak s O H xs us Q I r h;obtain⟨p,ys,rfl,hq,q⟩:=h;obtain⟨u,rfl,rx⟩:=vals1 r;cases rx;have fin:∀(its:List Value),Vals ys its->ys.length<=sizeLine->∀(h':Heap)(c':Nat),(∀b o',s.heap.get? b=some o'->h'.get? b=some o')->h'.get? s.heap.objs.size=some {cls:=.type "list",dict:=none,data:=.seq its.toArray c',slots:=#[]}->EP X ak O Q (.ref s.heap.objs.size) {s with heap:=h'}:=λits r' hz h' c' kp e=>⟨.ref s.heap.objs.size,_,I.laid (t':=s.toks) kp (bq _) (show eP X.prog X.w _ h' _ (.lst ys)from⟨hz,its,c',r',e⟩),Z,q _ (I.aY.fresh (bq _))⟩;rcases hq with hq|hq
 ·obtain⟨its,r',pl,hz⟩:=I.list hq
  have hlen:=r'.length;obtain⟨o,ho,hc,n,hd⟩:=pl.isList;exact call_list_seq p (.inl Z) ho hc hd (λh' c' kp e=>fin its r' hz h' c' kp e) (by simp only[dG]<;>lia)
 ·obtain⟨its,r',pl,hz⟩:=I.tuple hq
  have hlen:=r'.length;obtain⟨o,ho,hc,n,hd⟩:=pl;exact call_list_seq p (.inr Z) ho hc hd (λh' c' kp e=>fin its r' hz h' c' kp e) (by simp only[dG]<;>lia)
theorem a3s:dI X (.type "tuple") (λxs H Q=>∃p ys,xs=[.ref p]/\((aH X.K H p ys/\∀l,H l=none->Q (.ref l) (upd H l (.tup ys)))\/(aQ X.K H p ys/\Q (.ref p) H))):=by
 intro ak s O H xs us Q I r h;obtain⟨p,ys,rfl,h⟩:=h;obtain⟨u,rfl,rx⟩:=vals1 r;cases rx;rcases h with⟨hq,q⟩|⟨hq,q⟩
 ·obtain⟨its,r',pl,hz⟩:=I.list hq
  have hlen:=r'.length;refine call_tuple_list pl.isList (λh' kp=>?_) (by simp only[dG]<;>lia);have I1:Inv X ak O H {s with heap:=h'}:=I.kept (t':=s.toks) kp;have I2:Inv X ak O (upd H h'.objs.size (.tup ys)) {s with heap:=h'.push {cls:=.type "tuple",data:=.seq its.toArray}}:=I1.laid (t':=s.toks) (λb o e=>bQ _ e) (bq _) (show eP X.prog X.w _ _ _ (.tup ys)from⟨hz,its,r',IsTup.new _ _⟩);exact⟨.ref h'.objs.size,_,I2,Z,q _ (I1.aY.fresh (bq _))⟩
 ·obtain⟨its,r',pl,hz⟩:=I.tuple hq
  exact call_tuple_same pl ⟨.ref p,H,I,Z,q⟩
def Gj(K:aa)(T:String)(x:V)(H:Hp):Prop:=match x with | .str _=>T="str" | .int _=>T="int" | .ref p=>(T="list"/\∃xs,aH K H p xs)\/(T="tuple"/\∃o,K.lookup p=some o/\o.cls= .type "tuple"/\o.dict=none)\/ (T="dict"/\((∃cT,H p=some (.dK cT))\/∃cT,H p=some (.dT cT)))\/(T="set"/\∃S n,H p=some (.set S n)) |_=>False
theorem PX{ak:List (Addr×Obj)}{O:St}{H:Hp}{s:ae}{T:String}{x:V}{v:Value}(I:Inv X ak O H s)(r:RelV x v)(ty:Gj X.K T x H): s.TypeIs v T/\∀a,v= .ref a->∃ob,s.heap.get? a=some ob/\ob.dict=none:=by cases x with
 |str z=>obtain⟨t,rfl⟩:=r;cases(show T="str" from ty);exact⟨typeIs_str s z t,λ_ e=>nomatch e⟩ |int i=>obtain⟨t,rfl⟩:=r;cases(show T="int" from ty);exact⟨typeIs_int s i t,λ_ e=>nomatch e⟩ |ref p=>
  cases r;rcases ty with⟨rfl,xs,hq⟩|⟨rfl,o,hk,hc,hd⟩|⟨rfl,hk⟩|⟨rfl,S,n,hk⟩
  ·obtain⟨its,_,pl,_⟩:=I.list hq
   refine⟨pl.isList.typeIs,λa e=>?_⟩;cases e;obtain⟨o,n,e,c,hd,_⟩:=pl;exact⟨o,e,hd⟩
  ·refine⟨⟨o,I.dB p o hk,hc⟩,λa e=>?_⟩
   cases e;exact⟨o,I.dB _ o hk,hd⟩
  ·have z:∃o,s.heap.get? p=some o/\o.ExactDict:=by
    rcases hk with⟨cT,hk⟩|⟨cT,hk⟩
    ·obtain⟨_,_,_,_,o,_,_,e,ex,_⟩:=I.aY p _ hk
     exact⟨o,e,ex⟩
    ·obtain⟨_,_,_,_,o,_,_,e,ex,_⟩:=I.aY p _ hk
     exact⟨o,e,ex⟩
   obtain⟨o,e,ex⟩:=z;refine⟨⟨o,e,ex.1⟩,λa e2=>?_⟩;cases e2;exact⟨o,e,ex.2.1⟩
  ·obtain⟨o,_,_,_,e,ex,_⟩:=I.aY p _ hk
   refine⟨⟨o,e,ex.1⟩,λa e2=>?_⟩;cases e2;exact⟨o,e,ex.2.1⟩ |_=>exact False.elim ty
def oh(K:aa)(T:String)(r:V->List V->Hp->VK->Prop)(to:TE)(t:TA):TE:=λO H Q=>to O H λx H1=>Gj K T x H1/\t O H1 λxs H2=>r x xs H2 Q
variable {o e:Expr}{es:List Expr}{to:TE}{t:TA}{name:Str}{apos bT:Pos}{T id:String}{r:V->List V->Hp->VK->Prop}
theorem qz(pa:PlainAttrs T)(slot:Slot T name id)(Dz:typeOf (.builtin id)=pure (.type "method_descriptor"))(hm:rY X id r)(ho:PE X o to)(ha:PA X (e::es) t) (jm:attributeBase o name X.env (eval o X.env)=eval o X.env:=by rfl) (jk:((backTo bT (starEach (e::es) X.env)).all (λx=>!x.1)&&(backToKw bT (keywordEach [] X.env)).all (λx=>x.1.isSome) &&decide ((e::es).length+([]:List Keyword).length+(if([]:List Keyword).isEmpty then 0 else 1)<30))=true:=by rfl) (jj:(apos.endLine==bT.line)=true:=by rfl)(hs:starEach (e::es) X.env=(false,eval e X.env)::starEach es X.env:=by rfl)(ji:(backTo bT (starEach es X.env)).any (·.1)=false:=by rfl): PE X (.Call (.Attribute o name apos) (e::es) [] bT) (oh X.K T r to t):=by intro ak s O H Q I h;refine wpAny_Call_method_late jm jk jj Z (aW (ho ak s O H _ I h) λv s1 ⟨x,H1,I1,r1,ty,q1⟩=>?_);obtain⟨h1,h2⟩:=PX I1 r1 ty;refine⟨T,id,pa,slot,Dz,h1,h2,?_⟩;have hA:=ha bT ak s1 O H1 _ I1 q1;rw[hs]at hA⊢;refine Calls.callWith_builtin (by show(false||(backTo bT (starEach es X.env)).any (·.1))=false;rw[ji]<;>rfl) (Pl ?_);exact aW hA λus s2 ⟨vs,H2,I2,r2,q2⟩=>hm ak s2 O H2 x vs v us Q I2 r1 r2 q2
end
def MtM(X:Cx)(id:String)(r:V->List V->Hp->VK->Prop):Prop:=∀(ak:List (Addr×Obj))(s:ae)(O:St)(H:Hp)(x:V)(xs:List V)(v:Value)(us:List Value)(Q:VK),Inv X ak O H s->RelV x v->Vals xs us->r x xs H Q->wpAny (model X.prog X.w) X.A (call (.builtin id) (v::us)) (EP X ak O Q) X.xe s
theorem Vals.one:∀{x:V}{us:List Value},Vals [x] us->∃u,us=[u]/\RelV x u |_,_,.cons r .nil=>⟨_,Z,r⟩
section
variable {X:Cx}{ak:List (Addr×Obj)}{O:St}{H:Hp}{s:ae}{l b:Addr}{xs ys zs:List V}
theorem Inv.Xa{its its':List Value}{n:Nat}{f:Array Value->Array Value}{t':Nat}(I:Inv X ak O H s)(hH:H l=some (.lst xs)) (e:s.heap.get? l=some {cls:=.type "list",data:=.seq its.toArray n})(hf:f its.toArray=its'.toArray)(hv:Vals ys its')(hz:ys.length<=sizeLine): Inv X ak O (upd H l (.lst ys)) {s with heap:=s.heap.update l (Obj.mapSeq f),toks:=t'}:=by have q:=PySem.IsL.update e f;rw[hf]at q;refine I.write (x:=l) (e:=l) (by rw[hH];exact trivial) (.inl Z) (λb' u hb hu=>(vV s.heap (Obj.mapSeq f) (iz hb)).trans hu) ⟨_,q⟩ ?_;exact⟨hz,its',_,hv,q⟩
theorem Inv.Lc{its:List Value}{t':Nat}(I:Inv X ak O H s)(hv:Vals ys its)(hz:ys.length<=sizeLine): Inv X ak O (upd H s.heap.objs.size (.lst ys)) {s with heap:=s.heap.push {cls:=.type "list",data:=.seq its.toArray},toks:=t'}:=I.laid (λ_ _ q=>bQ _ q) (bq _) ⟨hz,its,0,hv,cS _ Z⟩
theorem Inv.X9(I:Inv X ak O H s)(hH:H l=some (.lst xs)):xs.length<=sizeLine/\∃(its:List Value)(n:Nat),Vals xs its/\xs.length=its.length/\s.heap.get? l=some {cls:=.type "list",data:=.seq its.toArray n}:=by obtain⟨z,its,n,r,e⟩:=I.aY l _ hH;exact⟨z,its,n,r,r.length,e⟩
end
section
variable {X:Cx}
inductive a6b(x:V)(vs:List V)(H:Hp)(Q:VK):Prop |mk (l:_)(xs:_)(y:_)(h0:x= .ref l)(h1:vs=[y])(h2:H l=some (.lst xs))(h3:xs.length<sizeLine)(h4:Q .aZ (upd H l (.lst (xs++[y]))))
def JR:V->List V->Hp->VK->Prop:=λx vs H Q=>a6b x vs H Q
theorem CW:MtM X "list.append" JR:=by
 intro ak s O H x vs v us Q I rx rv h;obtain⟨l,xs,y,rfl,rfl,hH,hz,q⟩:=h;cases rx;obtain⟨u,rfl,ru⟩:=rv.one;obtain⟨z,its,n,r,hl,e⟩:=I.X9 hH;refine sy F.slot_list_append ⟨_,e,Z⟩ F.entry_list_append (F.args_list_append_2 _ _) (PySem.list_append l its.toArray n u (by rw[dG];lia)) ⟨e,?_⟩;refine⟨.aZ,_,I.Xa (its':=its++[u]) hH e (by simp) (r.append (.cons ru .nil)) ?_,Z,q⟩;rw[iC,FV]
 lia
end
section
variable {prog:af}{w:World}{A:ai}{E:Value->ae->Prop}{s:ae}
end
section
variable {X:Cx}
end
end L2
namespace Att
open PySem PySem.W PySem.Calls PyProof.Rows
theorem XR{P:Params}{h:Heap}:∀(ns:List Int)(vs:List Value),WellAll P h vs (ns.map WData.int)->IntsAre vs ns:=by intro ns;induction ns with |nil=>intro vs w;rw[List.map_nil]at w;cases w;exact .nil |cons n ns ih=>intro vs w;rw[qf]at w;cases w with |cons a b=>cases a;exact .cons _ _ (ih _ b)
theorem RI{l:OpenLaw}{n:Nat}(hn:l.most=some n){P:Params}{h:Heap}{args:List WData}{vals:List Value} (y4:l.row.toRowW.claim.pre args=true)(p5:WellAll P h vals args): ∃a vs ns,vals=[Value.ref a]/\args=[WData.list (ns.map WData.int)]/\h.get? a=some {cls:=.type "list",data:=.seq vs.toArray}/\IntsAre vs ns/\ns.length<=n:=by
 have Yo:WShape.hasAll [] args [.list .int]=true:=(pre_splitW y4).1;have hc:l.pre.holds [] {args:=args}=true:=(pre_splitW y4).2;obtain⟨d,r,rfl,h1,h2⟩:=hasAllW_cons Yo;obtain rfl:=hasAllW_nil h2;obtain⟨xs,rfl,h3⟩:=hasW_list h1;obtain⟨ns,rfl⟩:=items_int h3;have hlen:ns.length<=n:=by
  unfold OpenLaw.pre at hc;have h4:(WTm.not (.lt (.lit (.int (n:Int))) (.len (.arg 0)))).holds [] {args:=[.list (ns.map .int)]}=true:=by have h4:=(holds_andW hc).1;rw[hn]at h4;exact h4
  have h5:=condW_of h4 (w_not (w_lt w_lit (w_len_list (w_arg Z))));rw[bD]at h5;refine Nat.le_of_not_lt λq=>?_;have q':(n:Int)<((ns.length:Nat):Int):=by omega
  first |(rw[bR q']at h5;exact absurd h5 az) |(simp at h5;omega)
 cases p5 with |cons w1 w2=>cases w2;cases w1 with |list ho ZG=>exact⟨_,_,ns,Z,Z,ho,XR ns _ ZG,hlen⟩
theorem Tn(l:OpenLaw)(args:List WData):l.row.toRowW.claim.post args (.bool true) args=true:=postW_of (r:=l.row.toRowW) (X:=(true==true)) (show WShape.has [] (.bool true) .bool=true by first|rfl|decide|simp[WShape.has,WShape.arms,WShape.armsAll]) (show(WTm.eq .res (.lit (.bool true))).value [] {args:=args,res:=some (.bool true),after:=args}=some (.bool (true==true))from w_eq_bool (w_res Z) w_lit) rfl
theorem a3S{l:OpenLaw}{n:Nat}{q:af}{loose:List Str}{XP:(bf)->Heap->Prop}{YP:World->Heap->Prop}{d:DefRec} (hn:l.most=some n)(uI:d.params.defaults=[]) (call:∀(w:World)(s₀ s₁:ae)(mg mb:bf)(fa:Addr)(o:Obj)(pm cd doc:Value)(a:Addr)(vs:List Value)(ns:List Int),Ground q loose [] XP w s₀ mg mb s₁.heap->YP w s₁.heap->s₁.heap.get? fa=some o->o.data= .func (docDef d.name d.params d.body d.scope pm cd doc)->s₁.heap.CodeRec cd d.name->mg d.name=some (.ref fa)->s₁.heap.get? a=some {cls:=.type "list",data:=.seq vs.toArray}->IntsAre vs ns->ns.length<=n->s₁.gens=#[]->codeAny (model l.prog w) callerA (.call (.ref fa) ⟨[.ref a],[]⟩) (λr s'=>r= .ok (.ret (.bool true))/\OldK s₁.heap s'.heap/\s'.os=s₁.os/\AllBare s'.gens) s₁): WalkO q loose XP YP l.row.toRowW d [] (λf vs=>PySem.call f vs):=by intro w s₀ s₁ mg mb G Y fa o pm cd doc dV kV ho hd dX hD uA hg args vals as y4 a7p hrd p5 hlo;obtain rfl:dV= .none:=Dflts.none hD uI;obtain rfl:kV= .none:=Dflts.noKw hD;obtain⟨a,vs,ns,rfl,rfl,DJ,hints,hlen⟩:=RI hn y4 p5;refine enter_call (vC (call w s₀ s₁ mg mb fa o pm cd doc a vs ns G Y ho (fd_plain hd) dX uA DJ hints hlen hg) λr s' hq=>?_);obtain⟨rfl,h2,h3,h4⟩:=hq;exact⟨.inl ⟨.bool true,.bool true,[],Z,λ_=>rfl,.bool true,Tn l _,λ_=>⟨List.Pairwise.nil,λ_ hm=>(nomatch hm)⟩⟩,h2,h3,h4⟩
section
variable {prog:af}{w:World}{A:ai}{E:Value->ae->Prop}{s:ae}{K:Frag}
end
end Att
namespace L2
open PySem PySem.Spec PyProof.Rows
theorem Gi:∀{vs:List Value}{ns:List Int},IntsAre vs ns->Vals (ns.map V.int) vs |_,_,.nil=>.nil |_,_,.cons n t h=>.cons ⟨t,Z⟩ (Gi h)
def Fm(H:Hp):Prop:=∀b,H b=none\/∃o xs,H b=some (.ky o (.lst xs))
theorem Xt{P:af}{w:World}{K:aa}{mg mb:bf}{CX:iu}{k:Nat}{fa a:Addr}{fd:FuncData}{x:Str}{sp:Sp}{s₁:ae}{vs:List Value}{ns:List Int} (KX:K.In s₁.heap)(LO:s₁.heap.Ns mainGlobals mg)(hb:s₁.heap.Ns builtinsNs mb)(Zv:∀x:Str,x≠"__name__"->mb x=bootBuiltins x)(YI:s₁.heap.NoLimit)(hg:s₁.gens=#[]) (ha:s₁.heap.get? a=some {cls:=.type "list",data:=.seq vs.toArray})(hi:IntsAre vs ns)(hl:ns.length<=sizeLine)(hr:cn k callerA) (F:∀au:Heap,K.In au->au.Ns mainGlobals mg->f7 P w K mg au CX k fa fd [x] sp)(Zu:∀(s:ae)(u:Value),BindsTo s fd ⟨[u],[]⟩ [(x,u)]) (eL:∀H:Hp,Fm H->aH K H a (ns.map V.int)->sp [.ref a] H (λv _=>v= .bl true) λ_ _ _=>False) (Ef:∀H e s',CX [] H s₁ (λ_ _ _=>False) e s'->False): codeAny (model P w) callerA (.call (.ref fa) ⟨[.ref a],[]⟩) (λr s'=>r= .ok (.ret (.bool true))/\OldK s₁.heap s'.heap/\s'.os=s₁.os/\AllBare s'.gens) s₁:=by
 have rv:=Gi hi;have Xo:=hi.length;have core:∀H:Hp,Fm H->aH K H a (ns.map V.int)->dc P w H s₁.heap->(∀b,H b≠none->b=a)->(H a≠none->K.lookup a=none)->codeAny (model P w) callerA (.call (.ref fa) ⟨[.ref a],[]⟩) (λr s'=>r= .ok (.ret (.bool true))/\OldK s₁.heap s'.heap/\s'.os=s₁.os/\AllBare s'.gens) s₁:=by
  intro H hO hS aY hA hK;have NX:∀{b:Addr}{o:Obj},s₁.heap.get? b=some o->H b=none->(m8 s₁.heap H).get? b=some o:=λe n=>Z5 e n;have u7:∀{b:Addr}{o:Obj}{es:Array DictEntry}{ep:Nat},s₁.heap.get? b=some o->o.data= .dict es ep->H b=none:=λ{b o es ep} e d=>by cases q:H b with |none=>rfl |some u=>have e':b=a:=hA b (by rw[q];simp);subst e';rw[ha]at e;cases e;have d':Data.seq vs.toArray _=Data.dict es ep:=d;cases d'
  have xx:∀{b:Addr}{m:bf},s₁.heap.Ns b m->(m8 s₁.heap H).Ns b m:=λ{b m} ⟨o,es,ep,e,d,r⟩=>⟨o,es,ep,NX e (u7 e d),d,r⟩;have M4:K.In (m8 s₁.heap H):=λb o e=>NX (KX b o e) (by cases q:H b with |none=>rfl |some u=>have e':b=a:=hA b (by rw[q];simp);subst e';rw[hK (by rw[q];simp)]at e;cases e);have hM:Mod K mg (m8 s₁.heap H):=⟨M4,xx LO,⟨mb,xx hb,Zv⟩,let⟨mc,h1,h2⟩:=YI;⟨mc,xx h1,h2⟩⟩;have e0:mH P w K mg (m8 s₁.heap H) callerA [] s₁ H:=⟨Z,hM,λb o e=>VX e,Nat.le_of_eq (Z4 _ _),trivial,λb hb=>absurd (show b∈([]:List Addr)from hb) (by simp),aY,.of_eq hg⟩;refine vC ((F _ M4 (xx LO)).run callerA [] s₁ H ⟨[.ref a],[]⟩ [.ref a] [.ref a] _ _ hr e0 (Zu s₁ (.ref a)) (.cons Z .nil) (eL H hO hS)) λr s' h=>?_;cases r with |error e=>exact(Ef H e s' h).elim |ok fl=>cases fl with |next=>exact False.elim h |brk=>exact False.elim h |cont=>exact False.elim h |ret u=>obtain⟨v,H',os,bare,un,Yw,r',q⟩:=h;have q':v= .bl true:=q;subst q';obtain rfl:u=Value.bool true:=r';refine⟨Z,OldK.of_keep λb o e=>?_,os,bare⟩;cases q:H b with |none=>exact un.keep b o e q (by intro z;exact absurd (show b∈([]:List Addr)from z) (by simp)) (by simp) |some u=>
   rcases hO b with z|⟨ob,xs,z⟩
   ·rw[q]at z;cases z
   ·have z2:=un.gJ b ob _ z
    obtain⟨e1,_⟩:=aY b _ z;obtain⟨e2,_⟩:=Yw b _ z2;rw[e]at e1;cases e1;exact e2
 cases hk:K.lookup a with |some o=>have e:=KX a o hk;rw[ha]at e;cases e;refine core (λ_=>none) (λ_=>.inl Z) (.inr ⟨_,vs.toArray,_,hk,Z,Z,Z,by rw[dG,Xo];exact hl,by simpa using rv⟩) (λb u z=>by have z':(none:Option HO)=some u:=z;cases z') (λb z=>absurd rfl z) λz=>absurd rfl z |none=>
  refine core (λb=>if b=a then some (.ky {cls:=.type "list",data:=.seq vs.toArray} (.lst (ns.map V.int)))else none) (λb=>?_) (.inl (.inr ⟨{cls:=.type "list",data:=.seq vs.toArray},aU Z⟩)) (λb u z=>?_) (λb z=>?_) λ_=>hk
  ·by_cases hb:b=a
   ·exact .inr ⟨_,_,aU hb⟩
   ·exact .inl (aV hb)
  ·by_cases hb:b=a
   ·have z':=(aU hb).symm.trans z
    cases z';subst hb;exact⟨ha,by rw[bD];exact hl,vs,_,rv,ha⟩
   ·have z':=(aV hb).symm.trans z
    cases z'
  ·by_cases hb:b=a
   ·exact hb
   ·exact absurd (aV hb) z
theorem PH{l:PySem.W.OpenLaw}{n k:Nat}{q:af}{loose:List Str}{XP:(bf)->Heap->Prop}{YP:World->Heap->Prop}{d:DefRec}{K:Params->aa}{CX:World->iu}{sp:World->Sp}{x:Str} (hn:l.most=some n)(rj:n<=sizeLine)(uI:d.params.defaults=[])(hr:cn k callerA) (hY:∀(w:World)(h:Heap),YP w h->(K w.params).In h) (F:∀(w:World)(mg:bf)(fa:Addr)(h:Heap),(K w.params).In h->h.Ns mainGlobals mg->mg d.name=some (.ref fa)->∃fd:FuncData,(∀(s:ae)(u:Value),BindsTo s fd ⟨[u],[]⟩ [(x,u)])/\∀au:Heap,(K w.params).In au->au.Ns mainGlobals mg->f7 l.prog w (K w.params) mg au (CX w) k fa fd [x] (sp w)) (eL:∀(w:World)(H:Hp)(a:Addr)(ns:List Int),ns.length<=n->Fm H->aH (K w.params) H a (ns.map V.int)->sp w [.ref a] H (λv _=>v= .bl true) λ_ _ _=>False) (Ef:∀(w:World)(H:Hp)(s:ae)(e:Value)(s':ae),CX w [] H s (λ_ _ _=>False) e s'->False): PySem.W.WalkO q loose XP YP l.row.toRowW d [] (λf vs=>PySem.call f vs):=by refine Att.a3S hn uI λw s₀ s₁ mg mb fa o pm cd doc a vs ns G Y ho hd dX uA DJ hints hlen hg=>?_;have KX:=hY w _ Y;obtain⟨fd,hb,hF⟩:=F w mg fa _ KX G.T.g uA;exact Xt KX G.T.g G.T.b G.T.builtins G.T.nolimit hg DJ hints (f9 hlen rj) hr hF hb (λH hO hS=>eL w H a ns hlen hO hS) λH e s'=>Ef w H s₁ e s'
def inClass(s:Stmt)(j:Nat):Stmt:=match s with | .ClassDef _ _ _ body _ _ _ _ _ _ _=>body.getD j (.Pass ⟨0,0,0,0⟩) |_=>.Pass ⟨0,0,0,0⟩
def iS(s:Stmt):Arguments:=match s with | .FunctionDef _ a _ _ _ _ _ _ _ _=>a |_=>{posonlyargs:=[],args:=[],vararg:=none,kwonlyargs:=[],kw_defaults:=[],kwarg:=none,defaults:=[]}
def eO(s:Stmt):List Stmt:=match s with | .FunctionDef _ _ b _ _ _ _ _ _ _=>b |_=>[]
def aP(s:Stmt):Scope:=match s with | .FunctionDef _ _ _ _ _ _ sc _ _ _=>sc |_=>{kind:=.function,names:=[],isGenerator:=false,isCoroutine:=false}
abbrev fV:iu:=λ_ _ _ _ _ _=>False
abbrev E0:XK:=λ_ _ _=>False
theorem tT{X:Cx}:Passes fV X E0:=λ_ _ _ _ _ _ _ h=>h.elim
structure ir(K:aa)(x qual:Str)(st:Stmt)(f:Addr)(fd:FuncData):Prop where
 ex:∃(oc:Value)(od:Option Addr)(kV doc pm:Value)(an:Option Addr)(aG ct:Value)(dU:Array (Option Value)),fd=PySem.W.fnOf x qual (iS st) (eO st) (aP st) .none kV doc pm an aG ct/\K.lookup f=some ⟨oc,od,.func fd,dU⟩/\PySem.W.codeIn K aG qual=true
 kp:PySem.W.keepIn K (.ref f)=true
section
variable {P:af}{w:World}{K:aa}{mg:bf}{au:Heap}
theorem ir.ok{x qual:Str}{st:Stmt}{f:Addr}{fd:FuncData}{N ps:List Str}{k:Nat}{sp:Sp}(F:ir K x qual st f fd)(S:bh N ps (aP st))(len:∀vs H Q E,sp vs H Q E->vs.length=ps.length) (fw:∀(aG:Value)(A:ai)(outer:List Env)(s:ae)(H:Hp)(vs:List V)(Q:VK)(E:XK),cn k (A.deeper (envOfC qual (aP st) s.heap.objs.size f aG))->sp vs H Q E->∃t,eV (fz fV P w K mg au N qual (aP st) f aG A outer s H E).oW (eO st) t/\t {nx:=λ_ H'=>Q .aZ H',rt:=Q} (start N vs) H):f7 P w K mg au fV (k+1) f fd ps sp:=by obtain⟨oc,od,kV,doc,pm,an,aG,ct,dU,rfl,lk,dX⟩:=F.ex;refine Mt lk dX S len λA outer s H vs Q E hr eL=>?_;obtain⟨t,h,q⟩:=fw aG A outer s H vs Q E hr eL;exact⟨t,h.oW,q⟩
theorem ir.binds{x qual:Str}{st:Stmt}{f:Addr}{fd:FuncData}{ps:List Str}(F:ir K x qual st f fd) (h:∀(kV doc pm:Value)(an:Option Addr)(aG ct:Value)(us:List Value),us.length=ps.length->bindArgs (PySem.W.fnOf x qual (iS st) (eO st) (aP st) .none kV doc pm an aG ct) ⟨us,[]⟩=pure (ps.zip us)):Binds K fd ps []:=by obtain⟨oc,od,kV,doc,pm,an,aG,ct,dU,rfl,lk,dX⟩:=F.ex;exact .all (h kV doc pm an aG ct)
theorem yo{x qual:Str}{st:Stmt}{f:Addr}{oc:Value}{od an:Option Addr}{dU:Array (Option Value)}{kV doc pm aG ct:Value}(l:K.lookup f=some ⟨oc,od,.func (PySem.W.fnOf x qual (iS st) (eO st) (aP st) .none kV doc pm an aG ct),dU⟩) (c:PySem.W.codeIn K aG qual=true)(k:PySem.W.keepIn K (.ref f)=true):ir K x qual st f (PySem.W.fnOf x qual (iS st) (eO st) (aP st) .none kV doc pm an aG ct):=⟨⟨oc,od,kV,doc,pm,an,aG,ct,dU,Z,l,c⟩,k⟩
end
section
variable {X:Cx}
theorem pv(i:Nat){x:Str}{pos:Pos}(hN:X.N[i]? =some x:=by rfl)(hv:zd X.env.scope x:=by first|exact Or.inl rfl|exact Or.inr (Or.inl rfl)|exact Or.inr (Or.inr rfl))(hd:(x==("__debug__":Str))=false:=by decide) (dX:(x==("__classdict__":Str))=false:=by decide):PE X (.Name x pos) (Gw i):=K2 hN hv hd dX
end
theorem bc{A B:Prop}(h:B):if false=true then A else B:=by rw[aV de];exact h
theorem bF{A B:Prop}(h:A):if true=true then A else B:=by rw[aU rfl];exact h
theorem eJ{c A B:Prop}[Decidable c](h1:c->A)(h2:¬c->B):if c then A else B:=by
 by_cases h:c
 ·rw[aU h]
  exact h1 h
 ·rw[aV h]
  exact h2 h
def aA(H H':Hp):Prop:=∀b o,H b=some o->H' b=some o
theorem aA.refl(H:Hp):aA H H:=λ_ _ h=>h
theorem aA.trans{H H1 H2:Hp}(a:aA H H1)(b:aA H1 H2):aA H H2:=λc o h=>b c o (a c o h)
theorem aA.free{H H':Hp}(e:aA H H'){l:Addr}(h:H' l=Option.none):H l=Option.none:=by cases q:H l with |none=>rfl |some o=>rw[e l o q]at h;cases h
theorem aA.seq{K:aa}{H H':Hp}{a:Addr}{xs:List V}(e:aA H H')(h:aH K H a xs):aH K H' a xs:=by
 rcases h with(h|⟨o,h⟩)|h
 ·exact .inl (.inl (e _ _ h))
 ·exact .inl (.inr ⟨o,e _ _ h⟩)
 ·exact .inr h
def Wd (i:Int):Prop:=i.natAbs<2^5000
theorem Wd.bits{i:Int}(h:Wd i):Builtin.Int.intBits i<=2^20:=f9 (PyProof.Rows.intBits_le h) az
theorem Wd.log{i:Int}(h:Wd i):i.natAbs.log2<9000:=by
 by_cases e:i.natAbs=0
 ·rw[e];decide
 ·have h1:i.natAbs.log2<5000:=(Nat.log2_lt e).mpr h
  lia
section
variable {X:Cx}
theorem qE:cg X (binaryOp .FloorDiv) (rI (λ_ j=>0<j/\Wd j) λi j=>.int (i/j)):=tW λi j _ _ _ _ _ hc q=>by have h1:(0:Int)<j:=hc.1;exact floordiv_int aw (by rw[Ph i aw];exact q) (.inl (PyProof.noPylong_of_log2 hc.2.log))
theorem Kj:cg X (binaryOp .FloorDiv) (rI (λ_ j=>j≠0/\Wd j) λi j=>.int (i.fdiv j)):=tW λ_ _ _ _ _ _ _ hc q=>floordiv_int hc.1 q (.inl (PyProof.noPylong_of_log2 hc.2.log))
end
def pP(K:aa)(H:Hp)(x:V)(T:String):Prop:=match x with | .aZ=>T="NoneType" | .bl _=>T="bool" | .int _=>T="int" | .str _=>T="str" | .ref a=>(T="list"/\∃xs,aH K H a xs)\/(T="tuple"/\∃xs,aQ K H a xs) |_=>False
def gP(T n:String):Bool:=T==n||(T=="bool"&&n=="int")
def wo:List String:=["NoneType","bool","int","str","list","tuple"]
def sS:List String:=["bool","int","str","list","tuple"]
theorem Lm{K:aa}{T n:String}(h1:T∈wo)(h2:n∈sS):PySem.W.kitOne K (.type T) (.type n)=some (gP T n):=by
 have all:wo.all (λT=>sS.all λn=>PySem.W.kitOne [] (.type T) (.type n)==some (gP T n))=true:=by decide+kernel
 have a1:=fb.mp all T h1;have a2:=fb.mp a1 n h2;have e:PySem.W.kitOne K (.type T) (.type n)=PySem.W.kitOne [] (.type T) (.type n):=by unfold PySem.W.kitOne PySem.W.kitCls PySem.W.subIn;rfl
 rw[e];exact dj.mp a2
section
variable {X:Cx}
theorem pP.mem{K:aa}{H:Hp}{x:V}{T:String}(h:pP K H x T):T∈wo:=by cases x with |aZ=>cases(show T="NoneType" from h);decide |bl b=>cases(show T="bool" from h);decide |int b=>cases(show T="int" from h);decide |str b=>cases(show T="str" from h);decide |ref a=>rcases(show(T="list"/\∃xs,aH K H a xs)\/(T="tuple"/\∃xs,aQ K H a xs)from h)with⟨e,_⟩|⟨e,_⟩<;>cases e<;>decide |_=>exact(show False from h).elim
theorem Lo{ak:List (Addr×Obj)}{s:ae}{O:St}{H:Hp}{x:V}{u:Value}{T:String}(I:Inv X ak O H s)(rx:RelV x u)(ty:pP X.K H x T): ∃P:Heap->Prop,PySem.W.KitX X.K u (.type T) P/\P s.heap/\u≠ .builtin "__main__.__loader__#opaque":=by cases x with
 |aZ=>cases(show T="NoneType" from ty);cases(show u=Value.none from rx);exact⟨_,PySem.W.kitx_none,True.intro,λz=>nomatch z⟩ |bl b=>cases(show T="bool" from ty);cases(show u=Value.bool b from rx);exact⟨_,PySem.W.kitx_bool,True.intro,λz=>nomatch z⟩ |int b=>cases(show T="int" from ty);obtain⟨t,q⟩:=(show∃t,u=Value.int b t from rx);cases q;exact⟨_,PySem.W.kitx_int,True.intro,λz=>nomatch z⟩ |str b=>cases(show T="str" from ty);obtain⟨t,q⟩:=(show∃t,u=Value.str b t from rx);cases q;exact⟨_,PySem.W.kitx_str,True.intro,λz=>nomatch z⟩ |ref a=>
  cases(show u=Value.ref a from rx);rcases(show(T="list"/\∃xs,aH X.K H a xs)\/(T="tuple"/\∃xs,aQ X.K H a xs)from ty)with⟨e,xs,hx⟩|⟨e,xs,hx⟩
  ·cases e
   obtain⟨its,r,⟨o,n,h1,h2,_⟩,_⟩:=I.list hx;exact⟨_,PySem.W.kitx_list,⟨o,h1,h2⟩,λz=>nomatch z⟩
  ·cases e
   obtain⟨its,r,⟨o,h1,h2,_⟩,_⟩:=I.tuple hx;exact⟨_,PySem.W.kitx_tuple,⟨o,h1,h2⟩,λz=>nomatch z⟩ |_=>exact(show False from ty).elim
inductive a60(K:aa)(xs:List V)(H:Hp)(Q:VK):Prop |mk (x:_)(T:_)(n:_)(b:_)(h0:xs=[x,.ty n])(h1:pP K H x T)(h2:n∈sS)(h3:gP T n=b)(h4:Q (.bl b) H)
def C4(K:aa):List V->Hp->VK->Prop:=λxs H Q=>a60 K xs H Q
theorem a3B:dI X (.builtin "isinstance") (C4 X.K):=by intro ak s O H xs us Q I r h;obtain⟨x,T,n,b,rfl,ty,hn,rfl,q⟩:=h;obtain⟨u,c,rfl,rx,rc⟩:=vals2 r;cases(show c=Value.type n from rc);obtain⟨P,a80,p,hx⟩:=Lo I rx ty;exact PySem.W.kia_one a80 I.dB p (Lm ty.mem hn) hx λtk=>⟨.bl (gP T n),H,I.tok _,Z,q⟩
inductive a5Z(K:aa)(xs:List V)(H:Hp)(Q:VK):Prop |mk (x:V)(T:String)(p:Addr)(ns:List String)(b:Bool)(h0:xs=[x,.ref p])(h1:H p=some (.tup (ns.map V.ty)))(h2:pP K H x T)(h3:(∀n∈ns,n∈sS))(h4:ns.any (gP T)=b)(h5:Q (.bl b) H)
def C3(K:aa):List V->Hp->VK->Prop:=λxs H Q=>a5Z K xs H Q
theorem Ll{K:aa}{T:String}(h1:T∈wo):∀{ns:List String},(∀n∈ns,n∈sS)->PySem.W.kitAny K (.type T) (ns.map Value.type)=some (ns.any (gP T)) |[],_=>rfl |n::r,h=>by have e:=Lm (K:=K) h1 (h n (FT ..));have ih:=Ll (K:=K) h1 (ns:=r) λm hm=>h m (sG _ hm);rw[qf,PySem.W.kitAny,e,sJ];cases gP T n with |true=>rfl |false=>simpa using ih
theorem Gg:∀{ns:List String}{us:List Value},Vals (ns.map V.ty) us->us=ns.map Value.type |[],_,.nil=>rfl |n::r,_,.cons q t=>by cases(show _=Value.type n from q);rw[Gg t];rfl
theorem a3A:dI X (.builtin "isinstance") (C3 X.K):=by intro ak s O H xs us Q I r h;obtain⟨x,T,p,ns,b,rfl,hp,ty,hn,rfl,q⟩:=h;obtain⟨u,c,rfl,rx,rc⟩:=vals2 r;cases(show c=Value.ref p from rc);obtain⟨P,a80,pp,hx⟩:=Lo I rx ty;obtain⟨_,its,rv,⟨cls,dd,dt,sl⟩,h1,h2,n,h3⟩:=(show eP X.prog X.w H s.heap p (.tup (ns.map V.ty))from I.aY p _ hp);simp only at h2 h3;subst h2 h3;have e:=Gg rv;subst e;exact PySem.W.kia_tup a80 I.dB pp h1 (Ll ty.mem hn) hx λtk=>⟨.bl _,H,I.tok _,Z,q⟩
end
mutual
def RD(K:aa)(H:Hp):V->ah->Prop |x,.none=>x= .aZ |x,.bool b=>x= .bl b |x,.int i=>x= .int i |x,.str y=>x= .str y |x,.list ds=>∃a xs,x= .ref a/\aH K H a xs/\aK K H xs ds |x,.tuple ds=>∃a xs,x= .ref a/\aQ K H a xs/\aK K H xs ds |_,.dict _=>False
def aK (K:aa)(H:Hp):List V->List ah->Prop |xs,[]=>xs=[] |xs,d::ds=>∃y ys,xs=y::ys/\RD K H y d/\aK K H ys ds
end
section
variable {X:Cx}
mutual
theorem RD.reads{ak:List (Addr×Obj)}{s:ae}{O:St}{H:Hp}(I:Inv X ak O H s):∀{x:V}{u:Value}(d:ah),RelV x u->RD X.K H x d->∃as,Reads s.heap u d as |x,u,.none,r,h=>by cases(show x= .aZ from by simpa[RD]using h);cases(show u=Value.none from r);exact⟨_,.none⟩ |x,u,.bool b,r,h=>by cases(show x= .bl b from by simpa[RD]using h);cases(show u=Value.bool b from r);exact⟨_,.bool b⟩ |x,u,.int i,r,h=>by cases(show x= .int i from by simpa[RD]using h);obtain⟨t,q⟩:=(show∃t,u=Value.int i t from r);cases q;exact⟨_,.int i t⟩ |x,u,.str y,r,h=>by cases(show x= .str y from by simpa[RD]using h);obtain⟨t,q⟩:=(show∃t,u=Value.str y t from r);cases q;exact⟨_,.str y t⟩ |x,u,.list ds,r,h=>by rw[RD]at h;obtain⟨a,xs,rfl,hx,hd⟩:=h;cases(show u=Value.ref a from r);obtain⟨its,rv,⟨o,n,h1,h2,h3,h4⟩,_⟩:=I.list hx;obtain⟨as,q⟩:=aK.reads I ds rv hd;exact⟨_,.list h1 h2 h4 (by simpa using q)⟩ |x,u,.tuple ds,r,h=>by rw[RD]at h;obtain⟨a,xs,rfl,hx,hd⟩:=h;cases(show u=Value.ref a from r);obtain⟨its,rv,⟨o,h1,h2,n,h4⟩,_⟩:=I.tuple hx;obtain⟨as,q⟩:=aK.reads I ds rv hd;exact⟨_,.tuple h1 h2 h4 (by simpa using q)⟩ |x,u,.dict _,r,h=>by simp[RD]at h
theorem aK.reads {ak:List (Addr×Obj)}{s:ae}{O:St}{H:Hp}(I:Inv X ak O H s):∀{xs:List V}{us:List Value}(ds:List ah),Vals xs us->aK X.K H xs ds->∃as,ReadsAll s.heap us ds as |xs,us,[],r,h=>by cases(show xs=[]from by simpa[aK]using h);cases r;exact⟨_,.nil⟩ |xs,us,d::ds,r,h=>by rw[aK]at h;obtain⟨y,ys,rfl,h1,h2⟩:=h;cases r with |cons ra rb=>obtain⟨as,q⟩:=RD.reads I d ra h1;obtain⟨bs,q'⟩:=aK.reads I ds rb h2;exact⟨_,.cons q q'⟩
end
inductive a68(K:aa)(x:V)(y:V)(H:Hp)(Q:VK):Prop |mk (d:_)(e:_)(h0:RD K H x d)(h1:RD K H y e)(h2:SeqAt.shaped d=true)(h3:SeqAt.shaped e=true)(h4:Q (.bl (PyData.eqv d e)) H)
def C5(K:aa):R2:=λx y H Q=>a68 K x y H Q
inductive a5U(K:aa)(x:V)(y:V)(H:Hp)(Q:VK):Prop |mk (d:_)(e:_)(h0:RD K H x d)(h1:RD K H y e)(h2:SeqAt.shaped d=true)(h3:SeqAt.shaped e=true)(h4:Q (.bl (!PyData.eqv d e)) H)
def BZ(K:aa):R2:=λx y H Q=>a5U K x y H Q
theorem Uh(hu:X.A.units+64<cLine):cg X (compareOp .Eq) (C5 X.K):=by intro ak s O H x y v u Q I rx ry h;obtain⟨d,e,hd,he,sd,se,q⟩:=h;obtain⟨as,ra⟩:=RD.reads I d rx hd;obtain⟨bs,rb⟩:=RD.reads I e ry he;exact eq_dataH ra rb sd se hu ⟨.bl _,H,I,Z,q⟩
theorem Uc(hu:X.A.units+64<cLine):cg X (compareOp .NotEq) (BZ X.K):=by intro ak s O H x y v u Q I rx ry h;obtain⟨d,e,hd,he,sd,se,q⟩:=h;obtain⟨as,ra⟩:=RD.reads I d rx hd;obtain⟨bs,rb⟩:=RD.reads I e ry he;exact ne_dataH ra rb sd se hu ⟨.bl _,H,I,Z,q⟩
end
theorem aA.new{H:Hp}{t:Addr}{o:HO}(ht:H t=none):aA H (upd H t o):=λb o' e=>by rw[bj (ft e ht)];exact e
structure Nw(H H':Hp)(p:Addr)(o:HO):Prop where
 no:H p=none
 at':H' p=some o
 same:aA H H'
 eq:H'=upd H p o
theorem Nw.of{H:Hp}{p:Addr}{o:HO}(h:H p=none):Nw H (upd H p o) p o:=⟨h,bV,.new h,Z⟩
def yV:List Str:=["len","abs","min","max","range","isinstance","int","bool","str","tuple","list","any","all","sum","zip","enumerate","sorted","reversed","ord","chr","divmod","repr","dict","set"]
def bw (mg:bf):Prop:=∀x∈yV,mg x=none
theorem bw.at{mg:bf}(B:bw mg)(x:Str)(h:x∈yV:=by decide):mg x=none:=B x h
theorem cJ{α:Type}{C:List α->Prop}(h:∀a,C [a]):∀us:List α,us.length=1->C us |[_],_=>h _
theorem da{α:Type}{C:List α->Prop}(h:∀a b,C [a,b]):∀us:List α,us.length=2->C us |[_,_],_=>h _ _
theorem lA{α:Type}{C:List α->Prop}(h:∀a b c,C [a,b,c]):∀us:List α,us.length=3->C us |[_,_,_],_=>h _ _ _
theorem O9{α:Type}{C:List α->Prop}(h:∀a b c d,C [a,b,c,d]):∀us:List α,us.length=4->C us |[_,_,_,_],_=>h _ _ _ _
theorem al5{α:Type}{C:List α->Prop}(h:∀a b c d e,C [a,b,c,d,e]):∀us:List α,us.length=5->C us |[_,_,_,_,_],_=>h _ _ _ _ _
def Mm(N P:List Str)(sc:Scope):Bool:=decide (sc.kind= .function)&& !sc.isCoroutine&& !sc.isGenerator&&decide N.Nodup&&decide (N.take P.length=P)&&P.all (λx=>decide (sc.names.lookup x=some .local\/sc.names.lookup x=some .cell))&&sc.names.all λy=>decide (y.2≠ .free)
theorem bo{N P:List Str}{sc:Scope}(h:Mm N P sc=true):bh N P sc:=by unfold Mm at h;simp only[dm,vB,Pm,fb]at h;obtain⟨⟨⟨⟨⟨⟨h1,h2⟩,h3⟩,h4⟩,h5⟩,h6⟩,h7⟩:=h;exact⟨h1,h2,h3,h4,h5,h6,h7⟩
structure FA(K:aa)(mg:bf)(x:Str)(st:Stmt):Prop where ex:∃f fd,mg x=some (.ref f)/\ir K x x st f fd
def aE(P:af)(w:World)(K:aa)(mg:bf)(au:Heap)(x:Str)(k:Nat)(sp:Sp):Prop:=∃f fd ps,f7 P w K mg au fV k f fd ps sp/\mg x=some (.ref f)/\PySem.W.keepIn K (.ref f)=true/\Binds K fd ps []
section
variable {P:af}{w:World}{K:aa}{mg:bf}{au:Heap}
theorem a1B{h:Heap}{x:Str}{st:Stmt}{f:Addr}{oc:Value}{od an:Option Addr}{dU:Array (Option Value)}{kV doc pm aG ct:Value}(X:K.In h)(G:h.Ns mainGlobals mg) (a:PySem.W.nsIn K mainGlobals x=some (some (.ref f))) (l:K.lookup f=some ⟨oc,od,.func (PySem.W.fnOf x x (iS st) (eO st) (aP st) .none kV doc pm an aG ct),dU⟩) (c:PySem.W.codeIn K aG x=true)(k:PySem.W.keepIn K (.ref f)=true):FA K mg x st:=⟨f,_,nV X G a,yo l c k⟩
theorem FA.has{x:Str}{st:Stmt}{N ps:List Str}{k:Nat}{sp:Sp}(F:FA K mg x st)(S:bh N ps (aP st))(len:∀vs H Q E,sp vs H Q E->vs.length=ps.length) (hb:∀(kV doc pm:Value)(an:Option Addr)(aG ct:Value)(us:List Value),us.length=ps.length->bindArgs (PySem.W.fnOf x x (iS st) (eO st) (aP st) .none kV doc pm an aG ct) ⟨us,[]⟩=pure (ps.zip us)) (fw:∀(f:Addr)(aG:Value)(A:ai)(outer:List Env)(s:ae)(H:Hp)(vs:List V)(Q:VK)(E:XK),cn k (A.deeper (envOfC x (aP st) s.heap.objs.size f aG))->sp vs H Q E->∃t,eV (fz fV P w K mg au N x (aP st) f aG A outer s H E).oW (eO st) t/\t {nx:=λ_ H'=>Q .aZ H',rt:=Q} (start N vs) H):aE P w K mg au x (k+1) sp:=by obtain⟨f,fd,hm,F⟩:=F.ex;exact⟨f,fd,ps,F.ok S len λaG A outer s H vs Q E=>fw f aG A outer s H vs Q E,hm,F.kp,F.binds hb⟩
end
section
variable {X:Cx}{k:Nat}{x:Str}{p pos:Pos}{e:Expr}{es:List Expr}{t:TA}{sp:Sp}
def GH(sp:Sp)(t:TA):TE:=λO H Q=>t O H λvs H1=>sp vs H1 Q E0
theorem U0(F:aE X.prog X.w X.K X.mg X.au x k sp)(hr:cn k X.A)(hg:Gl X x)(ha:PA X (e::es) t)(fv:(x==("__debug__":Str))=false:=by decide) (he:starEach (e::es) X.env=(false,eval e X.env)::starEach es X.env:=by rfl)(dN:(backTo pos (starEach es X.env)).any (·.1)=false:=by rfl): PE X (.Call (.Name x p) (e::es) [] pos) (GH sp t):=by
 obtain⟨f,fd,ps,F,hm,hk,hb⟩:=F;have h:=U2 (pos:=pos) (p:=p) F hr hg hm hk hb .nil tT ha fv he dN;intro ak s O H Q I hq;refine h ak s O H Q I ?_;have e1:(λ(vs:List V) H1=>sp (vs++[]) H1 Q E0)=λvs H1=>sp vs H1 Q E0:=by funext vs H1;rw[lG]
 show t O H λvs H1=>sp (vs++[]) H1 Q E0;rw[e1];exact hq
theorem pf{j:Nat}(F:aE X.prog X.w X.K X.mg X.au x j sp)(hr:cn k X.A)(ha:PA X (e::es) t)(YT:j<=k:=by decide)(hg:Gl X x:=by rfl)(fv:(x==("__debug__":Str))=false:=by decide)(he:starEach (e::es) X.env=(false,eval e X.env)::starEach es X.env:=by rfl)(dN:(backTo pos (starEach es X.env)).any (·.1)=false:=by rfl):PE X (.Call (.Name x p) (e::es) [] pos) (GH sp t):=U0 F (hr.mono YT) hg ha fv he dN
theorem bU:cg X (binaryOp .Mult) (rI (λi j=>IntMulOk i j) λi j=>.int (i*j)):=tW λ_ _ _ _ _ _ _ hc q=>mul_int q hc
theorem Ug:cg X (compareOp .Eq) (iH λi j=>.bl (decide (i=j))):=qG λ_ _ _ _ _ _ _ q=>eq_int (by rw[Bool.beq_eq_decide_eq];exact q)
theorem Ub:cg X (compareOp .NotEq) (iH λi j=>.bl (!decide (i=j))):=qG λ_ _ _ _ _ _ _ q=>ne_int (by rw[bne,Bool.beq_eq_decide_eq];exact q)
theorem Ui(hu:X.A.units+64<cLine):cg X (compareOp .Eq) (λx y H Q=>iH (λi j=>.bl (decide (i=j))) x y H Q\/C5 X.K x y H Q):=Ug.or (Uh hu)
theorem Ud(hu:X.A.units+64<cLine):cg X (compareOp .NotEq) (λx y H Q=>iH (λi j=>.bl (!decide (i=j))) x y H Q\/BZ X.K x y H Q):=Ub.or (Uc hu)
mutual
theorem eqv_refl:∀d:ah,d.canLay0=true->PyData.eqv d d=true | .none,_=>by simp[PyData.eqv] | .bool b,_=>by simp[PyData.eqv] | .int i,_=>by simp[PyData.eqv] | .str x,_=>by simp[PyData.eqv] | .list ds,h=>by simp only[PyData.eqv];exact eqvAll_refl ds (by simpa[PyData.canLay0]using h) | .tuple ds,h=>by simp only[PyData.eqv];exact eqvAll_refl ds (by simpa[PyData.canLay0]using h) | .dict _,h=>by simp[PyData.canLay0]at h
theorem eqvAll_refl:∀ds:List ah,PyData.canLayAll0 ds=true->PyData.eqvAll ds ds=true |[],_=>by simp[PyData.eqvAll] |d::ds,h=>by simp only[PyData.canLayAll0,dm]at h;simp only[PyData.eqvAll,dm];exact⟨eqv_refl d h.1,eqvAll_refl ds h.2⟩
end
theorem SE{K:aa}{H:Hp}(b:Bool):RD K H (.bl b) (.bool b):=by simp[RD]
theorem ek{K:aa}{H:Hp}(i:Int):RD K H (.int i) (.int i):=by simp[RD]
theorem bP{K:aa}{H:Hp}(x:Str):RD K H (.str x) (.str x):=by simp[RD]
theorem qr{K:aa}{H:Hp}:RD K H .aZ .none:=by simp[RD]
theorem eX{K:aa}{H:Hp}{p:Addr}{xs:List V}{ds:List ah}(h:aQ K H p xs)(r:aK K H xs ds):RD K H (.ref p) (.tuple ds):=by rw[RD];exact⟨p,xs,Z,h,r⟩
theorem BU{K:aa}{H:Hp}{p:Addr}{xs:List V}{ds:List ah}(h:aH K H p xs)(r:aK K H xs ds):RD K H (.ref p) (.list ds):=by rw[RD];exact⟨p,xs,Z,h,r⟩
theorem df{K:aa}{H:Hp}:aK K H [] []:=by simp[aK]
theorem ck{K:aa}{H:Hp}{x:V}{xs:List V}{d:ah}{ds:List ah}(h:RD K H x d)(r:aK K H xs ds):aK K H (x::xs) (d::ds):=by rw[aK];exact⟨x,xs,Z,h,r⟩
inductive a4E(t:TS)(D:Ends)(O:St)(H:Hp):Prop |mk (Fp:St->Hp->Prop)(h0:t {D with nx:=Fp} O H)(h1:∀σ' H',Fp σ' H'->D.nx σ' H')
def QA(t:TS):TS:=λD O H=>a4E t D O H
theorem jT{st:Stmt}{t:TS}(h:PS X st t):PS X st (QA t):=by intro ak s O H D I hq;obtain⟨Fp,q,m⟩:=hq;refine aW (h ak s O H _ I q) λf s1 q1=>?_;cases f with |next=>obtain⟨σ',H',I',q'⟩:=q1;exact⟨σ',H',I',m _ _ q'⟩ |brk=>exact q1 |cont=>exact q1 |ret u=>exact q1
end
def nR(K:aa)(xs:List Str):Prop:=∀x∈xs,PySem.W.nsIn K mainGlobals x=some none
theorem nR.nil{K:aa}:nR K []:=λ_ h=>nomatch h
theorem nR.cons{K:aa}{x:Str}{xs:List Str}(a:PySem.W.nsIn K mainGlobals x=some none)(r:nR K xs):nR K (x::xs):=λy hy=>by
 rcases bS.mp hy with e|e
 ·rw[e];exact a
 ·exact r y e
theorem a3K{K:aa}{mg:bf}{h:Heap}(X:K.In h)(G:h.Ns mainGlobals mg)(a:nR K yV):bw mg:=λx hx=>PySem.W.mg_none_of X G (a x hx)
theorem ES{env:Env}:∀(ns:List (Str×NameKind))(cs:List (Str×Addr)),(∀x∈ns,x.2= .free->∃c,env.cells.lookup x.1=some c)->(∀x c,cs.lookup x=some c->env.cells.lookup x=some c)->∃cl,(forIn ns cs (λx r=>if(x.2==NameKind.free)=true then do let a<-cellOf env x.1;pure (ForInStep.yield ((x.1,a)::r))else pure (ForInStep.yield r)):Sem (List (Str×Addr)))=pure cl/\(∀x c,cl.lookup x=some c->env.cells.lookup x=some c)/\(∀x c,cs.lookup x=some c->∃c',cl.lookup x=some c')/\∀x∈ns,x.2= .free->∃c,cl.lookup x.1=some c
 |[],cs,_,h2=>⟨cs,Z,h2,λx c e=>⟨c,e⟩,λ_ h=>nomatch h⟩ |(n,k)::r,cs,h1,h2=>by
  by_cases hk:k= .free
  ·subst hk
   obtain⟨c,hc⟩:=h1 (n,.free) (.head _) rfl;have e1:cellOf env n=pure c:=by unfold cellOf;rw[show env.cells.lookup n=some c from hc]
   obtain⟨cl,a1,a2,a3,a4⟩:=ES r ((n,c)::cs) (λx hx=>h1 x (.tail _ hx)) (λx d e=>by rw[iB]at e;cases z:x==n with |true=>rw[z]at e;cases e;rw[dj.mp z];exact hc |false=>rw[z]at e;exact h2 x d e);refine⟨cl,?_,a2,λx d e=>?_,λx hx hf=>?_⟩
   ·rw[G0]
    show(do let r'<-(if(NameKind.free==NameKind.free)=true then do let a<-cellOf env n;pure (ForInStep.yield ((n,a)::cs))else pure (ForInStep.yield cs));_)=_;rw[aU (by rfl),e1];exact a1
   ·by_cases z:x==n
    ·exact a3 x c (by rw[iB,z])
    ·exact a3 x d (by rw[iB,vW.mpr z];exact e)
   ·rcases bS.mp hx with rfl|hx
    ·exact a3 n c (by rw[iB,vD])
    ·exact a4 x hx hf
  ·obtain⟨cl,a1,a2,a3,a4⟩:=ES r cs (λx hx=>h1 x (.tail _ hx)) h2
   refine⟨cl,?_,a2,a3,λx hx hf=>?_⟩
   ·rw[G0]
    show(do let r'<-(if(k==NameKind.free)=true then do let a<-cellOf env n;pure (ForInStep.yield ((n,a)::cs))else pure (ForInStep.yield cs));_)=_;rw[aV (by simpa using hk)];exact a1
   ·rcases bS.mp hx with rfl|hx
    ·exact absurd hf hk
    ·exact a4 x hx hf
theorem NI{env:Env}{scope:Scope}(h1:∀x∈scope.names,x.2= .free->∃c,env.cells.lookup x.1=some c): ∃cl,closureFor scope env=pure cl/\(∀x c,cl.lookup x=some c->env.cells.lookup x=some c)/\∀x∈scope.names,x.2= .free->∃c,cl.lookup x.1=some c:=by
 obtain⟨cl,a1,a2,_,a4⟩:=ES (env:=env) scope.names [] h1 (λx c e=>nomatch e);refine⟨cl,?_,a2,a4⟩;unfold closureFor;show(forIn scope.names ([]:List (Str×Addr)) (λ(x:Str×NameKind) r=>match x with|(name,kind)=>if(kind==NameKind.free)=true then do let a<-cellOf env name;pure (ForInStep.yield ((name,a)::r))else pure (ForInStep.yield r))>>=λr=>(pure r:Sem (List (Str×Addr))))=pure cl;have ef:(λ(x:Str×NameKind)(r:List (Str×Addr))=>match x with|(name,kind)=>(if(kind==NameKind.free)=true then do let a<-cellOf env name;pure (ForInStep.yield ((name,a)::r))else pure (ForInStep.yield r):Sem (ForInStep (List (Str×Addr))))) =λx r=>if(x.2==NameKind.free)=true then do let a<-cellOf env x.1;pure (ForInStep.yield ((x.1,a)::r))else pure (ForInStep.yield r):=by funext x r;obtain⟨n,k⟩:=x;rfl
 rw[ef,a1];rfl
theorem L7{env:Env}(hk:env.scope.kind= .function){x:Str}(hx:env.kindOf x=some .cell):∀{names:List (Str×NameKind)},names.lookup x=some .free->(names.map λ(n,k)=>if(k==NameKind.free&&env.scope.kind== .function&&env.kindOf n==some .cell)then(n,NameKind.cell)else(n,k)).lookup x=some .cell |[],h=>nomatch h |(n,k)::r,h=>by have ih:=@L7 env hk x hx r;show List.lookup x ((if(k==NameKind.free&&env.scope.kind== .function&&env.kindOf n==some .cell)=true then(n,NameKind.cell)else(n,k))::_)=_;cases z:x==n with |true=>simp only[iB,z]at h;cases h;have e:=dj.mp z;subst e;rw[aU (by rw[hk,hx];rfl),iB,z] |false=>simp only[iB,z]at h;split<;>(simp only[iB,z];exact ih h)
def eF(X:Cx)(N:List Str)(scope:Scope)(cl:List (Str×Addr))(s:ae)(H:Hp)(fp:List Addr)(ak:List (Addr×Obj)):Cx:={prog:=X.prog,w:=X.w,K:=X.K,mg:=X.mg,au:=X.au,A:=X.A,N:=N,s₀:=s,H₀:=H,env:=compEnvC scope cl s.heap.objs.size X.env,outer:=X.stack,stack:=X.stack,ex:=fp,fn:=λ_=>false,calm:=X.calm,pn:=X.pn++ak,xe:=λ_ _=>False}
def stC(js:List (Option Nat))(O:St):St:=js.map λ|none=>none|some j=>(O[j]?).join
def yS(X:Cx)(N:List Str)(js:List (Option Nat))(scope:Scope):Bool:=N.length==js.length&&(N.zip js).all λp=>match p.2 with|none=>true|some j=>X.N[j]? ==some p.1&&scope.names.lookup p.1==some NameKind.free&&X.env.kindOf p.1==some NameKind.cell
def rS(X:Cx)(scope:Scope):Bool:=scope.kind== .function&&X.env.scope.kind== .function&&scope.names.all λx=>match x.2 with | .free=>X.env.kindOf x.1==some NameKind.cell | .cell=>false | .local=>scope.names.lookup x.1==some NameKind.local |_=>true
section
variable {X:Cx}{ak:List (Addr×Obj)}{O:St}{H:Hp}{s:ae}
theorem lookup_mem{α β:Type}[BEq α][LawfulBEq α]:∀{l:List (α×β)}{x:α}{b:β},l.lookup x=some b->(x,b)∈l |[],_,_,h=>nomatch h |(n,k)::r,x,b,h=>by rw[iB]at h;cases z:x==n with |true=>rw[z]at h;cases h;rw[dj.mp z];exact .head _ |false=>rw[z]at h;exact .tail _ (lookup_mem h)
theorem JH{env:Env}{x:Str}{k:NameKind}:∀{names:List (Str×NameKind)},(names.map λ(n,k)=>if(k==NameKind.free&&env.scope.kind== .function&&env.kindOf n==some .cell)then(n,NameKind.cell)else(n,k)).lookup x=some k->names.lookup x=some k\/(k= .cell/\names.lookup x=some .free) |[],h=>nomatch h |(n,k')::r,h=>by have ih:=@JH env x k r;have h':List.lookup x ((if(k'==NameKind.free&&env.scope.kind== .function&&env.kindOf n==some .cell)=true then(n,NameKind.cell)else(n,k'))::(r.map λ(n,k)=>if(k==NameKind.free&&env.scope.kind== .function&&env.kindOf n==some .cell)then(n,NameKind.cell)else(n,k)))=some k:=h;cases z:x==n with
 |true=>
  split at h'
  ·rename_i hc
   simp only[iB,z]at h';cases h';rw[dm,dm]at hc;have e:k'= .free:=dj.mp hc.1.1;subst e;exact .inr ⟨Z,by rw[iB,z]⟩
  ·simp only[iB,z]at h'
   cases h';exact .inl (by rw[iB,z]) |false=>
  rw[iB,z];refine ih ?_;split at h'
  ·simpa only[iB,z]using h'
  ·simpa only[iB,z]using h'
theorem Inv.comp{N:List Str}{js:List (Option Nat)}{scope:Scope}{cl:List (Str×Addr)}{fp:List Addr}{h':Heap}{tk:Nat}(I:Inv X ak O H s)(hN:yS X N js scope=true)(hS:rS X scope=true) (c1:∀x c,cl.lookup x=some c->X.env.cells.lookup x=some c)(c2:∀x∈scope.names,x.2= .free->∃c,cl.lookup x.1=some c)(hf:∀b∈fp,jt X ak H b)(Zc:∀b∈fp,b<s.heap.objs.size) (hn:h'.Ns s.heap.objs.size λ_=>none)(hk:∀b o,s.heap.get? b=some o->h'.get? b=some o):Inv (eF X N scope cl s H fp ak) [] (stC js O) H {s with heap:=h',toks:=tk}:=by
 unfold rS at hS;rw[dm,dm]at hS;obtain⟨⟨s1,s2⟩,s3⟩:=hS;have kq:scope.kind= .function:=dj.mp s1;have YN:X.env.scope.kind= .function:=dj.mp s2;unfold yS at hN;rw[dm]at hN;obtain⟨n1,n2⟩:=hN;have hlen:N.length=js.length:=dj.mp n1;have LB:∀x k,(relabel scope X.env).names.lookup x=some k->scope.names.lookup x=some k\/(k= .cell/\scope.names.lookup x=some .free):=λx k e=>JH e;have We:∀x,scope.names.lookup x≠some .cell:=λx e=>by have:=fb.mp s3 _ (lookup_mem e);exact de this
 have Ml:∀b∈(eF X N scope cl s H fp ak).fs,b∈X.env.locals::X.fs:=I.zS;have ok:(eF X N scope cl s H fp ak).Ok:={
  mod:=I.ok.mod
  kind:=kq
  glob:=I.ok.glob
  blt:=I.ok.blt
  above:=bq _
  inj:=λx y c e1 e2=>I.ok.inj x y c (c1 x c e1) (c1 y c e2)
  has:=λx hx=>by
   have fr:scope.names.lookup x=some .free->∃c,cl.lookup x=some c:=λe=>c2 (x,.free) (lookup_mem e) rfl;rcases hx with e|e
   ·rcases LB x _ e with e|⟨_,e⟩
    ·exact absurd e (We x)
    ·exact fr e
   ·rcases LB x _ e with e|⟨z,_⟩
    ·exact fr e
    ·cases z
  nN:=λx c e=>nomatch e
  hd:=I.ok.hd
  frames:=I.ok.frames
  oj:=.inl rfl
  uU:=λb hb=>⟨dw (Zc b hb),λx c e=>(hf b hb).2.2.2.2.1 x c (c1 x c e)⟩
  bs:=I.bs
  jq:=f9 I.ok.jq I.sz
  mY:=λb o e hb=>by
   rcases(hf b hb).2.2.2.1 with z|z
   ·exact I.ok.mY b o e z
   ·exact absurd (fk (bN e) (f9 I.ok.jq z)) (nX _)
  mq:=λb hb z=>by
   obtain⟨_,q1,q2,_⟩:=hf b hb;rcases bS.mp (Ml b z)with e|e
   ·exact q1 e
   ·exact q2 e
  gI:=I.stack
  kz:=I.qm};refine⟨ok,Z,I.bare,Un.kept hk,⟨_,hn,λi x v e1 e2 e3=>?_⟩,λx c e=>?_,I.aY.fresh (bq _),λx c e=>I.ij x c (c1 x c e),λp hp=>?_,I.aY.kept hk,?_⟩
 ·have rO:(js.map λ|none=>none|some j=>(O[j]?).join)[i]? =some (some v):=e2
  rw[bJ]at rO;cases hj:js[i]? with |none=>rw[hj]at rO;cases rO |some o=>rw[hj]at rO;cases o with |none=>cases rO |some j=>
   have hz:(N.zip js)[i]? =some (x,some j):=by rw[nZ];exact⟨e1,hj⟩
   have NJ:=fb.mp n2 _ (fP hz);simp only[dm,dj]at NJ;obtain⟨⟨h1,h2⟩,h3⟩:=NJ;have yL:(O[j]?).join=some v:=by simpa using rO
   have hσ:O[j]? =some (some v):=by cases q:O[j]? with |none=>rw[q]at yL;cases yL |some o=>
    rw[q]at yL;have:o=some v:=by simpa using yL
    rw[this]
   obtain⟨m,hm,hl⟩:=I.loc;obtain⟨u,r,l⟩:=hl j x v h1 hσ (.inr (.inl h3));refine⟨u,r,?_⟩;rcases l with⟨k,_⟩|⟨_,c,hc,nA⟩
   ·rw[h3]at k;cases k
   ·obtain⟨c',gy⟩:=c2 (x,.free) (lookup_mem h2) rfl
    have:=c1 x c' gy;rw[hc]at this;cases this;refine .inr ⟨.inl (L7 YN h3 h2),c,gy,?_⟩;obtain⟨ob,ho,hd⟩:=nA;exact⟨ob,hk _ _ ho,hd⟩
 ·obtain⟨v,ob,ho,hd⟩:=I.cell x c (c1 x c e)
  exact⟨v,ob,hk _ _ ho,hd⟩
 ·have rf:p∈X.pn++ak:=by simpa[eF]using hp
  obtain⟨a1,a2,a3,a4,a5⟩:=I.pin p rf;refine⟨hk _ _ a1,a2,dw (bN a1),λz=>?_,a5⟩;rcases bS.mp (Ml p.1 z)with e|e
  ·exact a3 e
  ·exact a4 e
 ·show(js.map _).length=N.length
  rw[bD,hlen]
end
theorem NF{prog:af}{w:World}{A:ai}{R:Result->ae->Prop}{s:ae}{elt target iter:Expr}{ifs:List Expr}{scope:Scope}{pos:Pos}{it acc:Value}{env:Env}(I:Nat->ae->Prop) (turn:∀n s,I n s->wpAny (model prog w) A (pyNext it) (λr s₁=>match r with |none=>R (.ok .next) s₁ |some v=>wpAny (model prog w) A (letOwnedTupleGo target it v) (λ_ s₁=>wpAny (model prog w) A (assign target env v) (λ_ s₂=>wpAny (model prog w) A (forIn ifs true λc r=>if r=true then do let ok<-isTrue c env (eval c env);pure (ForInStep.yield ok)else pure (ForInStep.yield r)) (λok s₃=>if ok=true then wpAny (model prog w) A (eval elt env) (λx s₄=>wpAny (model prog w) A (call (.builtin "list.append") [acc,x]) (λ_ s₅=>∃m,m<n/\I m s₅) (λ_ _=>False) s₄) (λ_ _=>False) s₃ else∃m,m<n/\I m s₃) (λ_ _=>False) s₂) (λ_ _=>False) s₁) (λ_ _=>False) s₁) (λ_ _=>False) s) (n:Nat)(h:I n s):codeAny (model prog w) A (.compLoop (.ListComp elt [⟨target,iter,ifs,0⟩] scope pos) 0 it acc env) R s:=by refine codeAny_loop Z I (λn s hI=>?_) n h;show wpAny _ A ((compTurn (.ListComp elt [⟨target,iter,ifs,0⟩] scope pos) 0 it acc env).onRaise (λx=>do noteFrame x env;theTreesLotGoes x)) _ _ s;refine wpAny_noted ?_;rw[compTurn_list];refine aD (pX (aD (fO (turn n s hI) (λr s₁ h₁=>?_) λ_ _ h'=>h'.elim)));cases r with |none=>exact bA h₁ |some v=>refine aD (fO h₁ (λ_ a6M h₁=>?_) λ_ _ h'=>h'.elim);refine aD (fO h₁ (λ_ s₂ h₂=>aD (fO h₂ (λok s₃ h₃=>?_) λ_ _ h'=>h'.elim)) λ_ _ h'=>h'.elim);cases ok with |false=>exact bA ⟨Z,h₃⟩ |true=>exact aD (aD (fO h₃ (λx s₄ h₄=>aD (fO h₄ (λ_ s₅ h₅=>bA (bA ⟨Z,h₅⟩)) λ_ _ h'=>h'.elim)) λ_ _ h'=>h'.elim))
def Fj(X:Cx)(ifs:List Expr)(t:TT):Prop:=∀(ak:List (Addr×Obj))(s:ae)(O:St)(H:Hp)(Q:Bool->Hp->Prop),Inv X ak O H s->t O H Q->wpAny (model X.prog X.w) X.A (forIn ifs true λc r=>if r=true then do let ok<-isTrue c X.env (eval c X.env);pure (ForInStep.yield ok)else pure (ForInStep.yield r)) (TP X ak O Q) X.xe s
def j8:TT:=λ_ H Q=>Q true H
theorem cX{X:Cx}:Fj X [] j8:=λ_ _ _ H _ I h=>wpAny_tests_nil ⟨H,I,h⟩
def jJ(J:It)(g:TG)(tt:TT)(te:TE)(Q:VK)(D:Addr)(O:St)(H:Hp):Prop:=∃W:Nat->Nat->St->Hp->Prop,(∃m,W 0 m O H)/\∀i m σ' H',W i m σ' H'->(J.stop i H'/\Q (.ref D) H')\/(J.go i H'/\∀x H2,J.iD i H' x H2->g x σ' H2 λσ3 H3=>tt σ3 H3 λok H4=>if ok=true then te σ3 H4 λy H5=>∃ys,H5 D=some (.lst ys)/\ys.length<sizeLine/\∃m',m'<m/\W (i+1) m' σ3 (upd H5 D (.lst (ys++[y]))) else∃m',m'<m/\W (i+1) m' σ3 H4)
def GI(js:List (Option Nat))(wi:TI)(g:TG)(tt:TT)(te:TE):TE:=λO H Q=>wi O H λJ H1=>∀D H2,Nw H1 H2 D (.lst [])->jJ J g tt te Q D (stC js O) H2
theorem dc.but{P:af}{w:World}{H:Hp}{h h':Heap}{C:Addr}(ok:dc P w H h)(hn:H C=none)(hs:Heap.SameBut C h h'):dc P w H h':=λb ob e=>by
 refine(ok b ob e).jQ (λc w' hc q=>(hs.2 c ?_).trans q) (λ_ q=>q) λ_ _ q=>q;rintro rfl;rcases hc with rfl|hc
 ·rw[hn]at e;cases e
 ·rw[hn]at hc;cases hc
set_option maxHeartbeats 1000000 in
theorem dA{X:Cx}{N:List Str}{js:List (Option Nat)}{elt tg iter:Expr}{ifs:List Expr}{scope:Scope}{pos:Pos}{wi:TI}{g:TG}{tt:TT}{te:TE}(hc:X.calm=true)(hN:yS X N js scope=true)(hS:rS X scope=true) (hi:PI X tg iter wi)(hg:∀cl s H fp ak,PG (eF X N scope cl s H fp ak) tg g)(ht:∀cl s H fp ak,Fj (eF X N scope cl s H fp ak) ifs tt)(he:∀cl s H fp ak,PE (eF X N scope cl s H fp ak) elt te) (hs:∀x,foldedSetIterable iter X.env x=pure x:=by intro _;rfl):PE X (.ListComp elt [⟨tg,iter,ifs,0⟩] scope pos) (GI js wi g tt te):=by
 intro ak s O H Q I h;have pB:=hS;unfold rS at pB;rw[dm,dm]at pB;obtain⟨⟨k1,k2⟩,k3⟩:=pB;have kq:scope.kind= .function:=dj.mp k1;have rn:∀x∈scope.names,x.2= .free->∃c,X.env.cells.lookup x.1=some c:=λx hx e=>by have:=fb.mp k3 x hx;rw[e]at this;exact I.ok.has x.1 (.inl (dj.mp this))
 have nA:∀x∈scope.names,x.2≠ .cell:=λx hx e=>by have:=fb.mp k3 x hx;rw[e]at this;exact de this
 have DM:∀x∈scope.names,x.2= .local->scope.names.lookup x.1=some .local:=λx hx e=>by have:=fb.mp k3 x hx;rw[e]at this;exact dj.mp this
 obtain⟨cl,DY,c1,c2⟩:=NI rn;rw[eval_ListComp];refine wpAny_comprehension_free (use:=none) Z hs DY kq DM (aW (hi ak s O H _ I h) λv s1 h1=>aW h1 λxO s2 h2=>?_);obtain⟨it,fp,tn,J,H2,e,I2,T,oo,f2,h2⟩:=h2;subst e;have hD:H2 s2.heap.objs.size=none:=I2.aY.fresh (bq _);obtain⟨W,⟨m0,w0⟩,turn⟩:=h2 _ _ (Nw.of hD);refine mJ (wpAny_newFunctionEnv nA (by intro y hy;simp at hy) (λh₁ uy uu=>?_) kq);have pD:∀b∈fp,b<s2.heap.objs.size:=λb hb=>by obtain⟨o,e,_⟩:=T.obj _ _ oo b hb;exact bN e
 have I3:Inv X ak O (upd H2 s2.heap.objs.size (.lst [])) {s2 with heap:=s2.heap.push {cls:=.type "list",dict:=none,data:=.seq ([]:List Value).toArray}}:=I2.Lc (its:=[]) (t':=s2.toks) .nil (eQ _);generalize uO:s2.heap.push {cls:=.type "list",dict:=none,data:=.seq ([]:List Value).toArray}=h3 at I3 uy uu;have sX:h3.objs.size=s2.heap.objs.size+1:=by rw[<-uO,mM]
 have Dm:∀b o,s2.heap.get? b=some o->h3.get? b=some o:=λb o e=>by rw[<-uO];exact bQ _ e
 have f3:∀b∈fp,jt X ak (upd H2 s2.heap.objs.size (.lst [])) b:=λb hb=>⟨by rw[bj (dw (pD b hb))];exact(f2 b hb).1,(f2 b hb).2⟩;have uj:∀b o,h3.get? b=some o->h₁.get? b=some o:=λb o e=>(uu.2 b (dw (bN e))).trans (bQ _ e);have I4:Inv (eF X N scope cl {s2 with heap:=h3} (upd H2 s2.heap.objs.size (.lst [])) fp ak) [] (stC js O) (upd H2 s2.heap.objs.size (.lst [])) {s2 with heap:=h₁,toks:=s2.toks+([]:List (Str×Value)).length}:=I3.comp (s:={s2 with heap:=h3}) hN hS c1 c2 f3 (λb hb=>by show b<h3.objs.size;rw[sX];exact FP (pD b hb)) (by simpa using uy) uj;have sY:tn 0 h₁:=T.keep _ _ _ oo λb _ o e=>uj b o (Dm b o e);have loop:codeAny (model X.prog X.w) X.A (.compLoop (.ListComp elt [⟨tg,iter,ifs,0⟩] scope pos) 0 (.ref it) (.ref s2.heap.objs.size) (compEnvC scope cl h3.objs.size X.env)) (compPost (model X.prog X.w) X.A X.xe none (EP X ak O Q) (.ref s2.heap.objs.size) h3.objs.size) {s2 with heap:=h₁,toks:=s2.toks+([]:List (Str×Value)).length}:=by
  refine NF (λn s'=>∃i σ' H',Inv (eF X N scope cl {s2 with heap:=h3} (upd H2 s2.heap.objs.size (.lst [])) fp ak) [] σ' H' s'/\tn i s'.heap/\(∀b∈fp,H' b=none)/\W i n σ' H') ?_ m0 ⟨0,_,_,I4,sY,λb hb=>(f3 b hb).1,w0⟩;rintro n s5 ⟨i,σ5,H5,I5,lK,kA,w5⟩;have jR:∀{H':Hp},(∀b∈fp,H' b=none)->∀b∈fp,jt (eF X N scope cl {s2 with heap:=h3} (upd H2 s2.heap.objs.size (.lst [])) fp ak) [] H' b:=λ{H'} hn b hb=>by
   obtain⟨_,q1,q2,q3,q4,q5⟩:=f3 b hb;refine⟨hn b hb,λz=>?_,I4.ok.mq b hb,.inl hb,λx c e=>q4 x c (c1 x c e),λp hp=>q5 p (by simpa[eF]using hp)⟩;have bZ:b<h3.objs.size:=by rw[sX];exact FP (pD b hb)
   exact dw bZ z
  rcases turn i n σ5 H5 w5 with⟨stop,qn⟩|⟨go,step⟩
  ·refine aW (T.done (eF X N scope cl {s2 with heap:=h3} (upd H2 s2.heap.objs.size (.lst [])) fp ak) rfl rfl rfl hc i [] s5 σ5 H5 _ I5 (jR kA) lK stop) λr s6 ⟨hr,I6⟩=>?_
   subst hr;obtain⟨m,hm,_⟩:=I6.loc;refine⟨m,hm,λh7 xY=>?_⟩;have u0:Un (cR X.stack) fp (upd H2 s2.heap.objs.size (.lst [])) H5 h3 s6.heap:=I6.au;have ne:∀b o,h3.get? b=some o->b≠h3.objs.size:=λb o e=>dw (bN e);have u:Un (cR X.stack) fp (upd H2 s2.heap.objs.size (.lst [])) H5 h3 h7:=⟨λb o e n hb hx=>(xY.2 b (ne b o e)).trans (u0.keep b o e n hb hx),λb o e n hb hx=>let⟨sl,q⟩:=u0.slot b o e n hb hx;⟨sl,(xY.2 b (ne b o e)).trans q⟩,u0.free,λb o e hx=>let⟨o',q⟩:=u0.there b o e hx;⟨o',(xY.2 b (ne b o e)).trans q⟩,u0.gQ,u0.gJ,u0.gR⟩;have I7:Inv X ak O H5 {s6 with heap:=h7}:=I3.yT (s':={s6 with heap:=h7}) (ch:=fp) I6.os u (I6.aY.but I6.free xY) I6.bare λb hb=>⟨(f3 b hb).2.2.2.1,(f3 b hb).2.1,(f3 b hb).2.2.2.2.1,(f3 b hb).2.2.2.2.2⟩;exact⟨.ref s2.heap.objs.size,H5,I7,Z,qn⟩
  ·refine aW (T.item (eF X N scope cl {s2 with heap:=h3} (upd H2 s2.heap.objs.size (.lst [])) fp ak) rfl rfl rfl hc i [] s5 σ5 H5 _ I5 (jR kA) lK go) λr s6 ⟨u,hr,h6⟩=>?_
   subst hr;refine aW h6 λ_ s7 ⟨x,H7,I7,r7,y7,om,Eo⟩=>?_;have Fs:=I7.pinned (jR Eo) (T.obj _ _ om);refine aW (hg _ _ _ _ _ _ s7 σ5 H7 x u _ Fs r7 (step x H7 y7)) λ_ s8 ⟨σ8,H8,I8,q8⟩=>?_;refine aW (ht _ _ _ _ _ _ s8 σ8 H8 _ I8 q8) λok s9 ⟨H9,I9,q9⟩=>?_;have again:∀{s':ae}{σ7:St}{H7:Hp},Inv (eF X N scope cl {s2 with heap:=h3} (upd H2 s2.heap.objs.size (.lst [])) fp ak) ([]++qw fp s7.heap) σ7 H7 s'->(∃m',m'<n/\W (i+1) m' σ7 H7)->∃m,m<n/\∃i σ' H',Inv (eF X N scope cl {s2 with heap:=h3} (upd H2 s2.heap.objs.size (.lst [])) fp ak) [] σ' H' s'/\tn i s'.heap/\(∀b∈fp,H' b=none)/\W i m σ' H':=λ{s' σ7 H7} J7 n7=>by obtain⟨m',hm,w7⟩:=n7;refine⟨m',hm,i+1,σ7,H7,J7.sR,T.keep _ _ _ om λb hb o e=>(J7.pin (b,o) (j4 _ (j4 _ (qQ hb e)))).1,λb hb=>?_,w7⟩;obtain⟨o,e,d⟩:=T.obj _ _ om b hb;exact(J7.pin (b,o) (j4 _ (j4 _ (qQ hb e)))).2.1
   cases ok with |false=>rw[aV de]at q9⊢;exact again I9 q9 |true=>rw[aU rfl]at q9⊢;refine aW (he _ _ _ _ _ _ s9 σ8 H9 _ I9 q9) λyv kL ⟨y,fD,sk,C6,ys,xT,hz,sO⟩=>?_;refine aW (CW _ kL σ8 fD (.ref s2.heap.objs.size) [y] (.ref s2.heap.objs.size) [yv] (λ_ gm=>∃m',m'<n/\W (i+1) m' σ8 gm) sk Z (.cons C6 .nil) ⟨_,ys,y,Z,Z,xT,hz,sO⟩) λ_ mT ⟨v11,gm,Ft,T9,C7⟩=>?_;exact again Ft C7
 exact codeAny_compStart_list loop (T.self _ 0 _ _ _ sY loop)
theorem EV:∀{bs:List Bool}{us:List Value},Vals (bs.map V.bl) us->us=bs.map Value.bool |[],_,.nil=>rfl |b::r,_,.cons q t=>by cases(show _=Value.bool b from q);rw[EV t];rfl
section
variable {X:Cx}
theorem a3E(hc:X.calm=true):dI X (.builtin "all") (λxs H Q=>∃(l:Addr)(bs:List Bool),xs=[.ref l]/\aH X.K H l (bs.map V.bl)/\Q (.bl (bs.all id)) H):=by
 intro ak s O H xs us Q I r h;obtain⟨l,bs,rfl,hl,q⟩:=h;obtain⟨u,rfl,ru⟩:=vals1 r;cases(show u=Value.ref l from ru);obtain⟨its,rv,pl,hz⟩:=I.list hl;have e:=EV rv;subst e;have ie:=pl.isList;have bZ:l<s.heap.objs.size:=by obtain⟨_,e,_⟩:=ie;exact bN e
 have hh:=I.ok.hd hc;refine call_all_walk (vt ie ?_);refine⟨s.heap.objs.size,[s.heap.objs.size,l],[s.heap.objs.size],(bs.map Value.bool).toArray.size,_,_,λi=>(bs[i]?).getD true,Z,Walks.list (A:=X.A.in1) hh _ l (dw bZ) (bs.map Value.bool).toArray,⟨⟨_,cS _ Z,Z,Z⟩,ie.push _⟩,λi v s' Q' E' hP hQ=>?_,λh' tk hk=>?_⟩
 ·have ku:(bs.map Value.bool)[i]? =some v:=by simpa using hP
  rw[bJ]at ku;cases e:bs[i]? with |none=>rw[e]at ku;cases ku |some b=>rw[e]at ku;cases ku;simp only[e,Option.getD_some]at hQ;exact lD hQ
 ·have e:((List.range (bs.map Value.bool).toArray.size).all λi=>(bs[i]?).getD true)=bs.all id:=by rw[dG,bD];exact LSm.range_all bs
  rw[e];exact⟨.bl _,H,I.kept (LSm.kept_iter hk),Z,q⟩
theorem a3D(hc:X.calm=true):dI X (.builtin "any") (λxs H Q=>∃(l:Addr)(bs:List Bool),xs=[.ref l]/\aH X.K H l (bs.map V.bl)/\Q (.bl (bs.any id)) H):=by
 intro ak s O H xs us Q I r h;obtain⟨l,bs,rfl,hl,q⟩:=h;obtain⟨u,rfl,ru⟩:=vals1 r;cases(show u=Value.ref l from ru);obtain⟨its,rv,pl,hz⟩:=I.list hl;have e:=EV rv;subst e;have ie:=pl.isList;have bZ:l<s.heap.objs.size:=by obtain⟨_,e,_⟩:=ie;exact bN e
 have hh:=I.ok.hd hc;refine call_any_walk (vt ie ?_);refine⟨s.heap.objs.size,[s.heap.objs.size,l],[s.heap.objs.size],(bs.map Value.bool).toArray.size,_,_,λi=>(bs[i]?).getD false,Z,Walks.list (A:=X.A.in1) hh _ l (dw bZ) (bs.map Value.bool).toArray,⟨⟨_,cS _ Z,Z,Z⟩,ie.push _⟩,λi v s' Q' E' hP hQ=>?_,λh' tk hk=>?_⟩
 ·have ku:(bs.map Value.bool)[i]? =some v:=by simpa using hP
  rw[bJ]at ku;cases e:bs[i]? with |none=>rw[e]at ku;cases ku |some b=>rw[e]at ku;cases ku;simp only[e,Option.getD_some]at hQ;exact lD hQ
 ·have e:((List.range (bs.map Value.bool).toArray.size).any λi=>(bs[i]?).getD false)=bs.any id:=by rw[dG,bD];exact LSm.range_any bs
  rw[e];exact⟨.bl _,H,I.kept (LSm.kept_iter hk),Z,q⟩
end
theorem rR{J:It}{g:TG}{tt:TT}{te:TE}{Q:VK}{D:Addr}{O:St}{H:Hp}(n:Nat)(Pv:Nat->St->Hp->Prop)(h0:Pv 0 O H) (hs:∀i O H,i<n->Pv i O H->J.go i H/\∀x H2,J.iD i H x H2->g x O H2 λσ3 H3=>tt σ3 H3 λok H4=>if ok=true then te σ3 H4 λy H5=>∃ys,H5 D=some (.lst ys)/\ys.length<sizeLine/\∃m',m'<n-i/\m'=n-(i+1)/\i+1<=n/\Pv (i+1) σ3 (upd H5 D (.lst (ys++[y]))) else∃m',m'<n-i/\m'=n-(i+1)/\i+1<=n/\Pv (i+1) σ3 H4) (hd:∀O H,Pv n O H->J.stop n H/\Q (.ref D) H): jJ J g tt te Q D O H:=by
 refine⟨λi m O H=>m=n-i/\i<=n/\Pv i O H,⟨n,by simp,eQ _,h0⟩,?_⟩;rintro i m O H ⟨rfl,hi,p⟩;by_cases bZ:i<n
 ·exact .inr (hs i O H bZ p)
 ·have e:i=n:=by lia
  subst e;exact .inl (hd O H p)
section
variable {X:Cx} {tg:Expr}
theorem XH(K:aa)(h:X.K=K):mD X (λx y H Q=>C1 K x y H Q\/C0 K x y H Q):=by subst h;exact XG.or XF
inductive a5R(K:aa)(x:V)(lo:Option Int)(hi:Option Int)(H:Hp)(Q:VK):Prop |mk (a:_)(xs:_)(h0:x= .ref a)(h1:((aH K H a xs/\∀p H',Nw H H' p (.lst (iT xs lo hi))->Q (.ref p) H')\/ (aQ K H a xs/\¬(HT.bO xs.length 0 lo=0/\HT.bO xs.length xs.length hi=xs.length)/\∀p H',Nw H H' p (.tup (iT xs lo hi))->Q (.ref p) H')))
def SR(K:aa):V->Option Int->Option Int->Hp->VK->Prop:=λx lo hi H Q=>a5R K x lo hi H Q
theorem tw(K:aa)(h:X.K=K):ze X (SR K):=by
 subst h;intro ak s O H x v vl vu lo hi sl Q I rx hs pl pu hq;obtain⟨a,xs,e,hq⟩:=hq;rcases hq with⟨h1,k⟩|⟨h1,h2,k⟩
 ·exact Rp ak s O H x v vl vu lo hi sl Q I rx hs pl pu ⟨a,xs,e,h1,λp hp=>k p _ (.of hp)⟩
 ·exact Ro ak s O H x v vl vu lo hi sl Q I rx hs pl pu ⟨a,xs,e,h1,h2,λp hp=>k p _ (.of hp)⟩
theorem Xp(K:aa)(h:X.K=K):dI X (.builtin "len") (λxs H Q=>∃p ys,xs=[.ref p]/\(aH K H p ys\/aQ K H p ys)/\Q (.int ys.length) H):=by subst h;exact a3z
theorem XM(K:aa)(h:X.K=K):dI X (.builtin "isinstance") (λxs H Q=>C4 K xs H Q\/C3 K xs H Q):=by subst h;exact a3B.or a3A
theorem dC(K:aa)(h:X.K=K)(hu:X.A.units+64<cLine):cg X (compareOp .Eq) (λx y H Q=>iH (λi j=>.bl (decide (i=j))) x y H Q\/C5 K x y H Q):=by subst h;exact Ui hu
theorem lV(K:aa)(h:X.K=K)(hu:X.A.units+64<cLine):cg X (compareOp .NotEq) (λx y H Q=>iH (λi j=>.bl (!decide (i=j))) x y H Q\/BZ K x y H Q):=by subst h;exact Ud hu
theorem pN(K:aa)(h:X.K=K)(hc:X.calm=true):dI X (.builtin "all") (λxs H Q=>∃(l:Addr)(bs:List Bool),xs=[.ref l]/\aH K H l (bs.map V.bl)/\Q (.bl (bs.all id)) H):=by subst h;exact a3E hc
theorem a40(K:aa)(h:X.K=K)(hc:X.calm=true):dI X (.builtin "any") (λxs H Q=>∃(l:Addr)(bs:List Bool),xs=[.ref l]/\aH K H l (bs.map V.bl)/\Q (.bl (bs.any id)) H):=by subst h;exact a3D hc
theorem De(K:aa)(h:X.K=K):dI X (.type "list") (λxs H Q=>∃p ys,xs=[.ref p]/\(aH K H p ys\/aQ K H p ys)/\∀l H',Nw H H' l (.lst ys)->Q (.ref l) H'):=by subst h;intro ak s O H xs us Q I r hq;obtain⟨p,ys,e,h1,k⟩:=hq;exact a3x ak s O H xs us Q I r ⟨p,ys,e,h1,λl hl=>k l _ (.of hl)⟩
theorem j7(K:aa)(h:X.K=K):dI X (.type "tuple") (λxs H Q=>∃p ys,xs=[.ref p]/\((aH K H p ys/\∀l H',Nw H H' l (.tup ys)->Q (.ref l) H')\/(aQ K H p ys/\Q (.ref p) H))):=by subst h;intro ak s O H xs us Q I r hq;obtain⟨p,ys,e,h1⟩:=hq;exact a3s ak s O H xs us Q I r ⟨p,ys,e,h1.imp (λ⟨a,k⟩=>⟨a,λl hl=>k l _ (.of hl)⟩) id⟩
def Ql(t:TA):TE:=λO H Q=>t O H λxs H1=>xs.length<=sizeLine/\∀p H',Nw H1 H' p (.tup xs)->Q (.ref p) H'
def QC(t:TA):TE:=λO H Q=>t O H λxs H1=>xs.length<=sizeLine/\∀p H',Nw H1 H' p (.lst xs)->Q (.ref p) H'
theorem eA{es:List Expr}{t:TA}{pos:Pos} {x1}(h:PA X es t):PE X (.Tuple es x1 pos) (Ql t):=by intro ak s O H Q I hq;refine wpAny_Tuple_spliced (aW (h pos ak s O H _ I hq) λus s1 ⟨xs,H1,I1,r,z,q⟩=>⟨by rw[<-r.length];exact z,?_⟩);have hf:H1 s1.heap.objs.size=none:=I1.aY.fresh (bq _);refine⟨.ref s1.heap.objs.size,upd H1 s1.heap.objs.size (.tup xs),I1.laid (t':=s1.toks) (λb u e=>bQ _ e) (bq _) ?_,Z,q _ _ (.of hf)⟩;exact⟨z,us,r,⟨_,cS _ Z,Z,_,Z⟩⟩
theorem fJ{es:List Expr}{t:TA}{pos:Pos}(h:PA X es t):PE X (.List es pos) (QC t):=by intro ak s O H Q I hq;refine wpAny_List_spliced (aW (h pos ak s O H _ I hq) λus s1 ⟨xs,H1,I1,r,z,q⟩=>⟨by rw[<-r.length];exact z,?_⟩);have hf:H1 s1.heap.objs.size=none:=I1.aY.fresh (bq _);refine⟨.ref s1.heap.objs.size,upd H1 s1.heap.objs.size (.lst xs),I1.laid (t':=s1.toks) (λb u e=>bQ _ e) (bq _) ?_,Z,q _ _ (.of hf)⟩;exact⟨z,us,0,r,cS _ Z⟩
theorem oM(K:aa)(h:X.K=K){l:Expr}{tl:TE}(hl:PE X l tl):PI X tg l (LD K tl):=by subst h;exact TF hl
theorem jb(K:aa)(h:X.K=K){l:Expr}{tl:TE}(hl:PE X l tl):PI X tg l (LC K tl):=by subst h;exact Tw hl
theorem dS(K:aa)(h:X.K=K){es:List Expr}{k:Nat}{t:lB}{n:Nat}{pos:Pos}(hc:X.calm=true)(hg:vi X es t)(hn:(assignEach es X.env).length=n:=by rfl)(fh:(assignEach es X.env).findIdx? (·.1)=none:=by rfl): PG X (.Tuple es k pos) (yn K n t):=by subst h;exact TK hc hg hn fh
theorem Co(K:aa)(h:X.K=K){o e:Expr}{to:TE}{t:TA}{apos bT:Pos}(ho:PE X o to)(ha:PA X [e] t) (jm:attributeBase o "append" X.env (eval o X.env)=eval o X.env:=by rfl) (jk:((backTo bT (starEach [e] X.env)).all (λx=>!x.1)&&(backToKw bT (keywordEach [] X.env)).all (λx=>x.1.isSome) &&decide ([e].length+([]:List Keyword).length+(if([]:List Keyword).isEmpty then 0 else 1)<30))=true:=by rfl) (jj:(apos.endLine==bT.line)=true:=by rfl)(hs:starEach [e] X.env=(false,eval e X.env)::starEach [] X.env:=by rfl)(ji:(backTo bT (starEach [] X.env)).any (·.1)=false:=by rfl): PE X (.Call (.Attribute o "append" apos) [e] [] bT) (oh K "list" JR to t):=by subst h;exact qz OU PySem.F.slot_list_append PySem.F.type_list_append CW ho ha jm jk jj hs ji
theorem wk{j:Nat}{x:V}{O:St}{H:Hp}{A B:St->Hp->Prop}(h:A (O.set j (some x)) H):fT j x O H λσ3 H3=>j8 σ3 H3 λok H4=>if ok=true then A σ3 H4 else B σ3 H4:=by show if true=true then A (O.set j (some x)) H else B (O.set j (some x)) H;rw[aU rfl];exact h
theorem yes{O:St}{H:Hp}{Q:Bool->Hp->Prop}(h:Q true H):j8 O H Q:=h
end
theorem aH.go{K:aa}{H H':Hp}{a:Addr}{xs:List V}(s:aA H H')(h:aH K H a xs):aH K H' a xs:=h.imp (λr=>r.imp (s _ _) λ⟨o,e⟩=>⟨o,s _ _ e⟩) id
theorem aQ.go{K:aa}{H H':Hp}{a:Addr}{xs:List V}(s:aA H H')(h:aQ K H a xs):aQ K H' a xs:=h.imp (λr=>r.imp (s _ _) λ⟨o,e⟩=>⟨o,s _ _ e⟩) id
mutual
theorem RD.mono{K:aa}{H H':Hp}(s:aA H H'):∀{x:V}(d:ah),RD K H x d->RD K H' x d |x,.none,h=>by simpa[RD]using h |x,.bool b,h=>by simpa[RD]using h |x,.int i,h=>by simpa[RD]using h |x,.str y,h=>by simpa[RD]using h |x,.list ds,h=>by rw[RD]at h⊢;obtain⟨a,xs,e,h1,h2⟩:=h;exact⟨a,xs,e,h1.go s,aK.mono s ds h2⟩ |x,.tuple ds,h=>by rw[RD]at h⊢;obtain⟨a,xs,e,h1,h2⟩:=h;exact⟨a,xs,e,h1.go s,aK.mono s ds h2⟩ |x,.dict _,h=>by simp[RD]at h
theorem aK.mono {K:aa}{H H':Hp}(s:aA H H'):∀{xs:List V}(ds:List ah),aK K H xs ds->aK K H' xs ds |xs,[],h=>by simpa[aK]using h |xs,d::ds,h=>by rw[aK]at h⊢;obtain⟨y,ys,e,h1,h2⟩:=h;exact⟨y,ys,e,RD.mono s d h1,aK.mono s ds h2⟩
end
section
variable {K:aa} {H H':Hp}
theorem aK.nil_inv{xs:List V}(h:aK K H xs []):xs=[]:=by simpa[aK]using h
theorem aK.cons_inv{xs:List V}{d:ah}{ds:List ah}(h:aK K H xs (d::ds)):∃y ys,xs=y::ys/\RD K H y d/\aK K H ys ds:=by rw[aK]at h;exact h
theorem RD.cj{x:V}{ds:List ah}(h:RD K H x (.tuple ds)):∃a xs,x= .ref a/\aQ K H a xs/\aK K H xs ds:=by rw[RD]at h;exact h
theorem RD.lst_inv{x:V}{ds:List ah}(h:RD K H x (.list ds)):∃a xs,x= .ref a/\aH K H a xs/\aK K H xs ds:=by rw[RD]at h;exact h
theorem RD.int_inv{x:V}{i:Int}(h:RD K H x (.int i)):x= .int i:=by rw[RD]at h;exact h
theorem RD.a3L{x:V}{i:Bool}(h:RD K H x (.bool i)):x= .bl i:=by rw[RD]at h;exact h
theorem RD.str_inv{x:V}{i:Str}(h:RD K H x (.str i)):x= .str i:=by rw[RD]at h;exact h
theorem RD.CK{x:V}(h:RD K H x .none):x= .aZ:=by rw[RD]at h;exact h
theorem aK.length:∀{xs:List V}{ds:List ah},aK K H xs ds->xs.length=ds.length |xs,[],h=>by rw[h.nil_inv];rfl |xs,d::ds,h=>by obtain⟨y,ys,rfl,_,h2⟩:=h.cons_inv;rw[fW,fW,aK.length h2]
theorem aK.append:∀{xs ys:List V}{ds es:List ah},aK K H xs ds->aK K H ys es->aK K H (xs++ys) (ds++es) |xs,ys,[],es,h,g=>by rw[h.nil_inv];exact g |xs,ys,d::ds,es,h,g=>by obtain⟨y,zs,rfl,h1,h2⟩:=h.cons_inv;exact ck h1 (aK.append h2 g)
theorem aK.take:∀(n:Nat){xs:List V}{ds:List ah},aK K H xs ds->aK K H (xs.take n) (ds.take n) |0,xs,ds,h=>by rw[List.take_zero,List.take_zero];exact df |n+1,xs,[],h=>by rw[h.nil_inv];exact df |n+1,xs,d::ds,h=>by obtain⟨y,zs,rfl,h1,h2⟩:=h.cons_inv;exact ck h1 (aK.take n h2)
theorem aK.get:∀(n:Nat){xs:List V}{ds:List ah}{d:ah},aK K H xs ds->ds[n]? =some d->∃x,xs[n]? =some x/\RD K H x d
 |n,xs,[],d,h,e=>by simp at e |0,xs,d'::ds,d,h,e=>by
  obtain⟨y,zs,rfl,h1,h2⟩:=h.cons_inv;have e':d'=d:=by simpa using e
  subst e';exact⟨y,Z,h1⟩ |n+1,xs,d'::ds,d,h,e=>by obtain⟨y,zs,rfl,h1,h2⟩:=h.cons_inv;exact aK.get n h2 (by simpa using e)
theorem aK.get'(n:Nat){xs:List V}{ds:List ah}{x:V}(h:aK K H xs ds)(e:xs[n]? =some x):∃d,ds[n]? =some d/\RD K H x d:=by
 have hl:n<ds.length:=by rw[<-h.length];exact(dQ.mp e).1
 obtain⟨y,e1,r⟩:=h.get n (cC hl);rw[e]at e1;cases e1;exact⟨_,cC hl,r⟩
def jO:ah->String | .none=>"NoneType" | .bool _=>"bool" | .int _=>"int" | .str _=>"str" | .list _=>"list" | .tuple _=>"tuple" | .dict _=>"dict"
theorem RD.ty{x:V}:∀{d:ah},RD K H x d->pP K H x (jO d) | .none,h=>by rw[h.CK];rfl | .bool b,h=>by rw[h.a3L];rfl | .int b,h=>by rw[h.int_inv];rfl | .str b,h=>by rw[h.str_inv];rfl | .list ds,h=>by obtain⟨a,xs,rfl,h1,_⟩:=h.lst_inv;exact .inl ⟨Z,xs,h1⟩ | .tuple ds,h=>by obtain⟨a,xs,rfl,h1,_⟩:=h.cj;exact .inr ⟨Z,xs,h1⟩ | .dict _,h=>by simp[RD]at h
structure cA(n:Nat)(d:ah):Prop where
 lay:d.canLay0=true
 dep:d.depth<=n
def fU(n:Nat)(ds:List ah):Prop:=∀d∈ds,cA n d
theorem cA.le{n m:Nat}{d:ah}(h:cA n d)(l:n<=m):cA m d:=⟨h.lay,f9 h.dep l⟩
theorem xo{n:Nat}:∀{ds:List ah},fU n ds↔(PyData.canLayAll0 ds=true/\PyData.depthAll ds<=n)
 |[]=>⟨λ_=>⟨Z,eQ _⟩,λ_ _ h=>nomatch h⟩ |d::ds=>by
  have ih:=xo (n:=n) (ds:=ds);simp only[PyData.canLayAll0,PyData.depthAll,dm];constructor
  ·intro h
   have h1:=h d (.head _);have h2:=ih.mp λx hx=>h x (.tail _ hx);exact⟨⟨h1.lay,h2.1⟩,Nat.max_le.mpr ⟨h1.dep,h2.2⟩⟩
  ·rintro⟨⟨a,b⟩,c⟩ x hx
   have c':=Nat.max_le.mp c;rcases bS.mp hx with rfl|hx
   ·exact⟨a,c'.1⟩
   ·exact ih.mpr ⟨b,c'.2⟩ x hx
theorem fU.tup{n:Nat}{ds:List ah}(h:fU n ds):cA (n+1) (.tuple ds):=⟨by simpa[PyData.canLay0]using(xo.mp h).1,by simpa[PyData.depth]using(xo.mp h).2⟩
theorem cA.cj{n:Nat}{ds:List ah}(h:cA (n+1) (.tuple ds)):fU n ds:=xo.mpr ⟨by simpa[PyData.canLay0]using h.lay,by simpa[PyData.depth]using h.dep⟩
theorem cA.int{n:Nat}(i:Int):cA n (.int i):=⟨Z,eQ _⟩
theorem cA.aZ{n:Nat}:cA n .none:=⟨Z,eQ _⟩
theorem fU.nil{n:Nat}:fU n []:=λ_ h=>nomatch h
theorem fU.cons{n:Nat}{d:ah}{ds:List ah}(h:cA n d)(g:fU n ds):fU n (d::ds):=λx hx=>by
 rcases bS.mp hx with rfl|hx
 ·exact h
 ·exact g x hx
theorem cA.shaped{n:Nat}{d:ah}(h:cA n d)(l:n<=64):SeqAt.shaped d=true:=by unfold SeqAt.shaped;rw[h.lay,fX];exact bR (f9 h.dep l)
theorem cA.refl{n:Nat}{d:ah}(h:cA n d):PyData.eqv d d=true:=eqv_refl d h.lay
def del(H:Hp)(p:Addr):Hp:=λb=>if b=p then none else H b
theorem Ni{H:Hp}{p b:Addr}{o:HO}:del H p b=some o↔b≠p/\H b=some o:=by
 unfold del;by_cases e:b=p
 ·rw[aU e];simp[e]
 ·rw[aV e];simp[e]
variable {p:Addr}{n m:Nat}{v:V}{vs:List V}{d:ah}{ds es:List ah}
end
section
variable {X:Cx}
end
end L2
namespace HT
open PySem PySem.Spec PyProof.Rows
section
variable {prog:af}{w:World}{A:ai}{E:Value->ae->Prop}{s:ae}
end
end HT
namespace L2
open PySem PySem.Spec PyProof.Rows
section
variable {X:Cx}
end
def fr(H H':Hp):Hp:=λb=>match H b with|none=>H' b|some _=>none
theorem mh{H H':Hp}{b:Addr}{o:HO}:fr H H' b=some o↔H b=none/\H' b=some o:=by unfold fr;cases H b<;>simp
theorem a1f{H H':Hp}:aA (fr H H') H':=λb o e=>(mh.mp e).2
theorem En{H H1 H2:Hp}(s:aA H1 H2):aA (fr H H1) (fr H H2):=λb o e=>mh.mpr ⟨(mh.mp e).1,s _ _ (mh.mp e).2⟩
theorem a1g{H H1 H2:Hp}(s:aA H H1):aA (fr H1 H2) (fr H H2):=λb o e=>mh.mpr ⟨s.free (mh.mp e).1,(mh.mp e).2⟩
def wB(K:aa)(d:ah):TE:=λ_ H Q=>∀v H',aA H H'->RD K (fr H H') v d->Q v H'
def QD(K:aa)(ds:List ah):TA:=λ_ H Q=>∀vs H',aA H H'->aK K (fr H H') vs ds->Q vs H'
def ui(f:Expr->Option ah):List Expr->Option (List ah) |[]=>some [] |e::es=>match f e,ui f es with |some d,some ds=>some (d::ds) |_,_=>none
def lit:Nat->Expr->Option ah
 |0,_=>none |_+1,.Constant .none _ _=>some .none |_+1,.Constant (.bool b) _ _=>some (.bool b) |_+1,.Constant (.int i) _ _=>some (.int i) |_+1,.Constant (.str x) _ _=>some (.str x) |n+1,.Tuple es _ _=>match ui (lit n) es with |some ds=>if ds.length<=1000 then some (.tuple ds)else none |none=>none
 |n+1,.List es _=>match ui (lit n) es with |some ds=>if ds.length<=1000 then some (.list ds)else none |none=>none
 |n+1,.UnaryOp .USub a _=>match lit n a with |some (.int i)=>some (.int (-i)) |_=>none
 |n+1,.BinOp a .Pow b _=>match lit n a,lit n b with |some (.int i),some (.int j)=>if 0<=j/\j<=1000000/\i.natAbs<2^64 then some (.int (i^j.toNat))else none |_,_=>none
 |_,_=>none
section
variable {X:Cx}
theorem QZ{e:Expr}{es:List Expr}{env:Env}(h:∀a b,e≠ .Starred a b):starEach (e::es) env=(false,eval e env)::starEach es env:=by cases e<;>first|rfl|exact absurd rfl (h _ _)
theorem Xm{n:Nat}{e:Expr}{d:ah}(h:lit n e=some d):∀a b,e≠ .Starred a b:=by intro a b z;subst z;cases n<;>simp[lit]at h
theorem K7(K:aa)(f:Expr->Option ah)(hp:∀e d,f e=some d->∀a b,e≠ .Starred a b)(hf:∀e d,f e=some d->PE X e (wB K d)):∀(es:List Expr)(ds:List ah),ui f es=some ds->PA X es (QD K ds)
 |[],ds,h=>by cases h;intro pos ak s O H Q I hq;exact ay pos ak s O H Q I (hq [] H (aA.refl H) df) |e::es,ds,h=>by
  rw[ui]at h;split at h
  ·rename_i d nJ e1 e2
   cases h;intro pos ak s O H Q I hq;refine ao (hf e d e1) (K7 K f hp hf es nJ e2) (QZ (hp e d e1)) pos ak s O H Q I ?_;intro v H1 s1 r1 vs H2 s2 r2;exact hq (v::vs) H2 (s1.trans s2) (ck (RD.mono (En s2) _ r1) (aK.mono (a1g s1) _ r2))
  ·cases h
theorem tS(K:aa)(hK:X.K=K):∀(n:Nat)(e:Expr)(d:ah),lit n e=some d->PE X e (wB K d)
 |0,e,d,h=>by simp[lit]at h |n+1,e,d,h=>by
  have hA:=K7 (X:=X) K (lit n) (λe d h=>Xm h) (λe d h=>tS K hK n e d h);unfold lit at h;split at h
  case h_1=>cases‹Nat.succ n=0›
  case h_2=>cases h;intro ak s O H Q I hq;exact g9 ak s O H Q I (hq .aZ H (aA.refl H) qr)
  case h_3=>cases h;intro ak s O H Q I hq;exact gr ak s O H Q I (hq (.bl _) H (aA.refl H) (SE _))
  case h_4=>cases h;intro ak s O H Q I hq;exact aB ak s O H Q I (hq (.int _) H (aA.refl H) (ek _))
  case h_5=>cases h;intro ak s O H Q I hq;exact bu ak s O H Q I (hq (.str _) H (aA.refl H) (bP _))
  case h_6=>
   rename_i m es _ _ hm;cases hm;split at h
   ·rename_i ds e1
    by_cases hl:ds.length<=1000
    ·rw[aU hl]at h
     cases h;intro ak s O H Q I hq;refine eA (hA es ds e1) ak s O H Q I ?_;intro vs H1 s1 r1;refine⟨by rw[r1.length];exact f9 hl az,λp H' nw=>?_⟩;refine hq _ _ (s1.trans nw.same) (eX (aQ.of (mh.mpr ⟨s1.free nw.no,nw.at'⟩)) (aK.mono (En nw.same) _ r1))
    ·rw[aV hl]at h;cases h
   ·cases h
  case h_7=>
   rename_i m es _ hm;cases hm;split at h
   ·rename_i ds e1
    by_cases hl:ds.length<=1000
    ·rw[aU hl]at h
     cases h;intro ak s O H Q I hq;refine fJ (hA es ds e1) ak s O H Q I ?_;intro vs H1 s1 r1;refine⟨by rw[r1.length];exact f9 hl az,λp H' nw=>?_⟩;refine hq _ _ (s1.trans nw.same) (BU (aH.of (mh.mpr ⟨s1.free nw.no,nw.at'⟩)) (aK.mono (En nw.same) _ r1))
    ·rw[aV hl]at h;cases h
   ·cases h
  case h_8=>
   rename_i m a _ hm;cases hm;split at h
   ·rename_i i e1
    cases h;intro ak s O H Q I hq;refine kQ kI (tS K hK n a _ e1) ak s O H Q I ?_;intro v H1 s1 r1;exact⟨i,r1.int_inv,hq _ _ s1 (ek _)⟩
   ·cases h
  case h_9=>
   rename_i m a b _ hm;cases hm;split at h
   ·rename_i i j e1 e2
    by_cases hc:0<=j/\j<=1000000/\i.natAbs<2^64
    ·rw[aU hc]at h
     cases h;intro ak s O H Q I hq;refine aL tV (tS K hK n a _ e1) (tS K hK n b _ e2) ak s O H Q I ?_;intro v H1 s1 r1 v2 H2 s2 r2;exact⟨i,j,r1.int_inv,r2.int_inv,hc,hq _ _ (s1.trans s2) (ek _)⟩
    ·rw[aV hc]at h;cases h
   ·cases h
  case h_10=>cases h
end
end L2
namespace L2
theorem cM{α:Type}{xs:List α}{i:Int}{v:α}(h0:0<=i)(h:xs[i.toNat]? =some v):dY xs i=some v:=by have hl:i.toNat<xs.length:=(dQ.mp h).1;unfold dY gc;rw[aU h0,aU aw];exact h
end L2
namespace L2
open PySem PySem.Spec PyProof.Rows
theorem tq(n:Nat)(h:n<=1000):n<=sizeLine:=f9 h az
structure Ol(X:Cx)(e:Expr)(t:TE):Prop where out:PE X e t
theorem TV{X:Cx}(K:aa)(hK:X.K=K)(n:Nat)(e:Expr)(d:ah)(h:lit n e=some d):Ol X e (wB K d):=⟨tS K hK n e d h⟩
section
variable {X:Cx}{p pos pos':Pos}{a b e:Expr}{es:List Expr}{ta tb te:TE}{t:TA}{x:Str}
theorem px(K:aa)(ha:PE X a ta)(hb:PE X b tb)(hK:X.K=K:=by rfl)(hp:Oh b:=by exact λ_ _=>rfl):PE X (.Subscript a b pos) (sW (λx y H Q=>C1 K x y H Q\/C0 K x y H Q) ta tb):=Ck (XH K hK) ha hb hp
theorem kR(K:aa)(B:bw X.mg)(ha:PA X (e::es) t)(hK:X.K=K:=by rfl)(hg:Gl X "isinstance":=by rfl)(he:starEach (e::es) X.env=(false,eval e X.env)::starEach es X.env:=by rfl)(dN:(backTo pos (starEach es X.env)).any (·.1)=false:=by rfl):PE X (.Call (.Name "isinstance" p) (e::es) [] pos) (wC (λxs H Q=>C4 K xs H Q\/C3 K xs H Q) t):=cw (XM K hK) hg (B.at "isinstance") jw ha az az he dN
theorem eB(K:aa)(B:bw X.mg)(ha:PA X (e::es) t)(hK:X.K=K:=by rfl)(hg:Gl X "len":=by rfl)(he:starEach (e::es) X.env=(false,eval e X.env)::starEach es X.env:=by rfl)(dN:(backTo pos (starEach es X.env)).any (·.1)=false:=by rfl):PE X (.Call (.Name "len" p) (e::es) [] pos) (wC (λxs H Q=>∃p ys,xs=[.ref p]/\(aH K H p ys\/aQ K H p ys)/\Q (.int ys.length) H) t):=cw (Xp K hK) hg (B.at "len") PySem.boot_len ha az az he dN
theorem pS(i:Nat)(hN:X.N.Nodup)(he:PE X e te)(hi:X.N[i]? =some x:=by rfl)(hx:Loc X.env.scope x:=by first|exact Or.inl rfl|exact Or.inr rfl)(hs:swapsWith e (some (.Name x pos')) pos.line X.env=pure false:=by rfl)(hf:X.fn x=true\/X.env.scope.names.lookup x=some .local:=by first|exact .inl rfl|exact .inr rfl|assumption):PS X (.Assign [.Name x pos'] e pos) (wF te (fT i)):=JT hN hi hx he hs hf
theorem ba(i:Nat)(hN:X.N.Nodup)(hi:X.N[i]? =some x:=by rfl)(hx:Loc X.env.scope x:=by first|exact Or.inl rfl|exact Or.inr rfl)(hf:X.fn x=true\/X.env.scope.names.lookup x=some .local:=by first|exact .inl rfl|exact .inr rfl|assumption):PG X (.Name x pos) (fT i):=TL hN hi hx hf
theorem gu (a:Str):[a].Nodup:=by simp
theorem gb{a b:Str}(h:(a==b)=false):[a,b].Nodup:=by
 have:a≠b:=λz=>by rw[z,vD]at h;cases h
 simp[this]
theorem bW{n:Nat}(h:Nat.ble n 1000=true):n<=sizeLine:=tq n (P5 h)
end
def GV(mg:bf)(x:Str)(v:V):Prop:=∃u,mg x=some u/\RelV v u
def GT(K:aa)(mg:bf)(x:Str)(vs:List V):Prop:=∃a,GV mg x (.ref a)/\∀H,aQ K H a vs
theorem cK{X:Cx}{x:Str}{v:V}{pos:Pos}(hg:Gl X x)(h:GV X.mg x v)(hd:(x==("__debug__":Str))=false:=by decide):PE X (.Name x pos) (tC v):=by obtain⟨u,hm,r⟩:=h;exact TX hg hm r hd
section
variable {K:aa} {mg:bf} {h:Heap}
theorem kx{x:Str}{i:Int}{t:Tok}(X:K.In h)(G:h.Ns mainGlobals mg)(a:PySem.W.nsIn K mainGlobals x=some (some (.int i t))):GV mg x (.int i):=⟨_,nV X G a,t,Z⟩
theorem Ej{x:Str}{vs:List V}{b:Addr}{its:Array Value}{n:Nat}{od:Option Addr}{dU:Array (Option Value)}(X:K.In h)(G:h.Ns mainGlobals mg)(a:PySem.W.nsIn K mainGlobals x=some (some (.ref b))) (l:K.lookup b=some ⟨.type "tuple",od,.seq its n,dU⟩)(hz:its.size<=sizeLine)(r:Vals vs its.toList):GT K mg x vs:=⟨b,⟨_,nV X G a,Z⟩,λH=>.inr ⟨_,its,n,l,Z,Z,hz,r⟩⟩
end
section
variable {X:Cx}
theorem W9(K:aa)(h:X.K=K):cg X (compareOp .NotIn) (JQ K true):=by subst h;exact Ua
end
theorem ND{J:It}{xs:List V}{bs:List Bool}{te:TE}{Q:VK}{D:Addr}{H H0:Hp}(rest:St)(nw:Nw H H0 D (.lst []))(hl:xs.length=bs.length)(hz:xs.length<=1000) (go:∀i x H2,xs[i]? =some x->aA H H2->J.go i H2/\∀y H3,J.iD i H2 y H3->H3=H2/\y=x)(stop:∀H2,aA H H2->J.stop xs.length H2) (hs:∀(i:Nat)(x:V)(b:Bool)(H2:Hp)(Q':VK),xs[i]? =some x->bs[i]? =some b->aA H H2->(∀H3,aA H2 H3->Q' (.bl b) H3)->te (some x::rest) H2 Q') (hq:∀H',aA H H'->H' D=some (.lst (bs.map V.bl))->Q (.ref D) H'):jJ J (fT 0) j8 te Q D (none::rest) H0:=by
 have hD:=nw.no;refine rR xs.length (λi O H2=>aA H H2/\H2 D=some (.lst ((bs.take i).map V.bl))/\∃v,O=v::rest) ?_ ?_ ?_
 ·exact⟨nw.same,nw.at',none,Z⟩
 ·rintro i O H2 hi ⟨s2,d2,v,rfl⟩
  have yb:i<bs.length:=by rw[<-hl];exact hi
  have ex:=cC hi;have eb:=cC yb;obtain⟨g1,g2⟩:=go i _ H2 ex s2;refine⟨g1,λy H3 hy=>?_⟩;obtain⟨rfl,rfl⟩:=g2 y H3 hy;refine wk ?_;refine hs i _ _ _ _ ex eb s2 λH4 s4=>?_;refine⟨_,s4 _ _ d2,?_,xs.length-(i+1),aw,Z,aw,λb o e=>?_,?_,_,Z⟩
  ·rw[bD,sH]
   have:(1000:Nat)<sizeLine:=by decide
   lia
  ·rw[bj (ft e hD)];exact s4 b o (s2 b o e)
  ·rw[bV,vO,eb,lF];rfl
 ·rintro O H2 ⟨s2,d2,v,rfl⟩
  refine⟨stop H2 s2,hq H2 s2 ?_⟩;rw[d2,hl,zD]
theorem yQ{K:aa}{a:Addr}{xs:List V}{bs:List Bool}{te:TE}{Q:VK}{D:Addr}{H H0:Hp}(rest:St)(hx:aQ K H a xs)(nw:Nw H H0 D (.lst []))(hl:xs.length=bs.length)(hz:xs.length<=1000) (hs:∀(i:Nat)(x:V)(b:Bool)(H2:Hp)(Q':VK),xs[i]? =some x->bs[i]? =some b->aA H H2->(∀H3,aA H2 H3->Q' (.bl b) H3)->te (some x::rest) H2 Q') (hq:∀H',aA H H'->H' D=some (.lst (bs.map V.bl))->Q (.ref D) H'):jJ (vk K a) (fT 0) j8 te Q D (none::rest) H0:=ND rest nw hl hz (λi x H2 e s=>⟨⟨xs,x,hx.go s,e⟩,λy H3 ⟨e3,y3⟩=>⟨e3,by have:=y3 _ (hx.go s);rw[e]at this;exact(cW this).symm⟩⟩) (λH2 s=>⟨xs,hx.go s,bq _⟩) hs hq
theorem xF{ds:List ah}{f:ah->Bool}{i:Nat}{b:Bool}(h:(ds.map f)[i]? =some b):∃d,ds[i]? =some d/\f d=b:=by rw[bJ]at h;cases e:ds[i]? with |none=>rw[e]at h;cases h |some d=>rw[e]at h;exact⟨d,Z,cW h⟩
theorem all_map{ds:List ah}{f:ah->Bool}:(ds.map f).all id=ds.all f:=by rw[G2];rfl
section
variable {X:Cx}
inductive a6a(K:aa)(x:V)(y:V)(H:Hp)(Q:VK):Prop |mk (a:_)(b:_)(xs:_)(ys:_)(h0:x= .ref a)(h1:y= .ref b)(h2:aH K H a xs)(h3:aH K H b ys)(h4:xs.length+ys.length<=sizeLine)(h5:∀p H',Nw H H' p (.lst (xs++ys))->Q (.ref p) H')
def T6(K:aa):R2:=λx y H Q=>a6a K x y H Q
theorem rT(K:aa)(hK:X.K=K):cg X (binaryOp .Add) (T6 K):=by
 subst hK;intro ak s O H x y v u Q I rx ry h;obtain⟨a,b,xs,ys,rfl,rfl,ha,hb,hz,q⟩:=h;cases rx;cases ry;obtain⟨its,r1,p1,_⟩:=I.list ha;obtain⟨nj,r2,p2,_⟩:=I.list hb;obtain⟨⟨cls,dd,data,sl⟩,n,ho,hc,hdd,hd⟩:=id p1;obtain⟨⟨NH,rP,data2,mS⟩,n2,kZ,fi,a7w,hd2⟩:=id p2;simp only at hc hd fi hd2;subst hc hd fi hd2;have e:its.toArray++nj.toArray=(its++nj).toArray:=by simp
 refine concat_meets ⟨_,ho,Z⟩ ⟨_,kZ,Z⟩ noFill_list_add seq_list_add PySem.F.slot_list_add PySem.F.entry_list_add (PySem.F.args_list_add_2 _ _) (list_addW a b its.toArray nj.toArray n n2 dd rP sl mS (by rw[dG,dG,<-r1.length,<-r2.length];exact hz)) ⟨ho,kZ,?_⟩;rw[e];have nw:Nw H (upd H s.heap.objs.size (.lst (xs++ys))) s.heap.objs.size (.lst (xs++ys)):=.of (I.aY.fresh (bq _));refine⟨.ref s.heap.objs.size,_,I.laid (t':=s.toks) (o:=.lst (xs++ys)) (λb ob q=>bQ _ q) (bq _) ?_,Z,q _ _ nw⟩;exact⟨by rw[iC];exact hz,_,0,r1.append r2,cS _ Z⟩
open Classical in
noncomputable def pG(h:Heap)(d:ah)(w:Value):Bool:=if q:∃e as,Reads h w e as then PyData.eqv q.choose d else false
theorem a2O{h:Heap}{d e:ah}{w:Value}{as:List Addr}(r:Reads h w e as):pG h d w=PyData.eqv e d:=by have q:∃e as,Reads h w e as:=⟨e,as,r⟩;unfold pG;rw[dif_pos q];obtain⟨as',r'⟩:=q.choose_spec;rw[(Reads.unique r' e as r).1]
theorem MS{ak:List (Addr×Obj)}{s:ae}{O:St}{H:Hp}(I:Inv X ak O H s)(hu:X.A.units+65<cLine){x:V}{u:Value}{d:ah}(rx:RelV x u)(hd:RD X.K H x d)(sd:SeqAt.shaped d=true): ∀{xs:List V}{us:List Value}{ds:List ah},Vals xs us->aK X.K H xs ds->(∀e∈ds,SeqAt.shaped e=true)->(∀w∈us,SeqAt.EqAt X.A.in1 s w u (pG s.heap d w))/\us.any (pG s.heap d)=ds.any λe=>PyData.eqv e d |xs,us,[],rv,h,_=>by cases h.nil_inv;cases rv;exact⟨λ_ h=>(eR h).elim,Z⟩ |xs,us,e::ds,rv,h,se=>by obtain⟨y,ys,rfl,h1,h2⟩:=h.cons_inv;cases rv with |cons ra rb=>
 rename_i w ws;obtain⟨as,q1⟩:=RD.reads I e ra h1;obtain⟨bs,q2⟩:=RD.reads I d rx hd;have key:SeqAt.EqAt X.A.in1 s w u (PyData.eqv e d):=SeqAt.eqAt_reads e d X.A.in1 s w u as bs q1 q2 (SeqAt.canLay_of_shaped (se e (.head _))) (SeqAt.canLay_of_shaped sd) (SeqAt.room_of_shaped (se e (.head _)) (by show X.A.units+1+64<cLine;omega));obtain⟨k1,k2⟩:=MS I hu rx hd sd rb h2 (λe' he=>se e' (.tail _ he));have ew:pG s.heap d w=PyData.eqv e d:=a2O q1;refine⟨λz hz=>?_,?_⟩
 ·rcases bS.mp hz with rfl|hz
  ·rw[ew];exact key
  ·exact k1 z hz
 ·rw[sJ,sJ,ew,k2]
end
end L2
namespace L2
theorem cn.PQ{k:Nat}{A:PySem.Around}(r:cn k A):A.units+65<PySem.cLine:=by have:=r.un;lia
end L2
namespace L2
open PySem PySem.Spec PyProof.Rows
def iq(b:Bool)(h:Heap)(it l:Addr)(k:Nat):Prop:=match b with|true=>h.IsListIter it l k|false=>h.IsTupleIter it l k
def fA(b:Bool)(h:Heap)(l:Addr)(xs:Array Value):Prop:=match b with|true=>h.IsList l xs|false=>h.IsTuple l xs
def nM(b:Bool):String:=match b with|true=>"list_iterator"|false=>"tuple_iterator"
theorem iq.to{b:Bool}{h g:Heap}{it l:Addr}{k:Nat}(x:iq b h it l k)(e:∀o,h.get? it=some o->g.get? it=some o):iq b g it l k:=by cases b<;>(obtain⟨o,ho,r⟩:=x;exact⟨o,e o ho,r⟩)
theorem fA.to{b:Bool}{h g:Heap}{l:Addr}{xs:Array Value}(x:fA b h l xs)(e:∀o,h.get? l=some o->g.get? l=some o):fA b g l xs:=by cases b<;>(obtain⟨o,ho,r⟩:=x;exact⟨o,e o ho,r⟩)
theorem iq.ob{b:Bool}{h:Heap}{it l:Addr}{k:Nat}(x:iq b h it l k):∃o,h.get? it=some o/\o.cls= .type (nM b)/\∀v,o.data≠ .cell v:=by cases b<;>(obtain⟨o,ho,c,d⟩:=x;exact⟨o,ho,c,λv z=>by rw[d]at z;cases z⟩)
section
variable {prog:af}{w:World}{A:ai}{E:Value->ae->Prop}{s:ae}
theorem qN{b:Bool}{l:Addr}{xs:Array Value}{Q:Value->ae->Prop}(x:fA b s.heap l xs) (q:Q (.ref s.heap.objs.size) {s with heap:=s.heap.push {cls:=.type (nM b),data:=.fields #[.ref l,.int 0 0]}}):wpAny (model prog w) A (pyIter (.ref l)) Q E s:=by
 cases b
 ·exact wpAny_pyIter_tuple x q
 ·exact vt x q
theorem W2{it t:Addr}{k:Nat}{ts:Array Value}{x:Value}{Q:Value->ae->Prop}(hi:s.heap.IsTupleIter it t k)(ht:s.heap.IsTuple t ts)(hx:ts[k]? =some x) (q:∀g,g.IsTupleIter it t (k+1)->Heap.SameBut it s.heap g->Q x {s with heap:=g}):wpAny (model prog w) A (Builtin.SmallTypes.nextOf (.ref it)) Q E s:=by obtain⟨oi,ib,ci,di⟩:=id hi;obtain⟨ot,DI,_,nt,dt⟩:=ht;unfold Builtin.SmallTypes.nextOf;refine aD (zr (name:=Str.ofString "__next__") hi.typeIs FJ (zq FJ hi.typeIs a6x ?_ (a6y _)));show wpAny _ _ (field (.ref it) 0>>=_) _ _ s;refine aD (gC ib di (x:=.ref t) Z ?_);show wpAny _ _ (if(Value.ref t==Value.none)=true then _ else _) _ _ s;rw[aV (show¬((Value.ref t==Value.none)=true)from de)];show wpAny _ _ (field (.ref it) 1>>=_) _ _ s;refine aD (gC ib di (x:=.int k 0) Z ?_);show wpAny _ _ (seqItems? (.ref t)>>=_) _ _ s;refine aD (pY DI dt ?_);simp only[Pf,hx];refine aD (zo ib di (by simp) (bA ⟨x,Z,bA (q _ ?_ (Heap.SameBut.update ..))⟩));exact⟨_,zI _ ib (P1 (zB di _)),(Obj.cls_mapFields ..).trans ci,by rw[zB di];simp[rawInt]⟩
theorem a2S{it t:Addr}{k:Nat}{ts:Array Value}{Q:Value->ae->Prop}(hh:A.handled=none)(hi:s.heap.IsTupleIter it t k)(ht:s.heap.IsTuple t ts)(hx:ts[k]? =none) (q:∀g e,Heap.ExtBut it s.heap g->(∃o,g.get? e=some o/\o.cls= .type "StopIteration")->E (.ref e) {s with heap:=g}):wpAny (model prog w) A (Builtin.SmallTypes.nextOf (.ref it)) Q E s:=by
 obtain⟨oi,ib,ci,di⟩:=id hi;obtain⟨ot,DI,_,nt,dt⟩:=ht;unfold Builtin.SmallTypes.nextOf;refine aD (zr (name:=Str.ofString "__next__") hi.typeIs FJ (zq FJ hi.typeIs a6x ?_ (a6y _)));show wpAny _ _ (field (.ref it) 0>>=_) _ _ s;refine aD (gC ib di (x:=.ref t) Z ?_);show wpAny _ _ (if(Value.ref t==Value.none)=true then _ else _) _ _ s;rw[aV (show¬((Value.ref t==Value.none)=true)from de)];show wpAny _ _ (field (.ref it) 1>>=_) _ _ s;refine aD (gC ib di (x:=.int k 0) Z ?_);show wpAny _ _ (seqItems? (.ref t)>>=_) _ _ s;refine aD (pY DI dt ?_);simp only[Pf,hx];refine aD (wpAny_rule (aD (zo ib di (by simp) ?_)));show wpAny _ _ (newExc (.type "StopIteration") []>>=_) _ _ _;refine aD ?_;simp only[newExc,newTuple];refine aD (mJ ?_ (by size_fits));refine aD (m:=firstArgMember _ _) (vw (a:=Value.none) (by first|rfl|(simp only[firstArgMember];rfl)) ?_);refine mJ ?_ (by size_fits);simp only[raiseNew];refine aD (wpAny_handled ?_)
 first|rw[show A.in1.handled=none from hh]|rw[hh]
 exact aD (bA (wpAny_throw (q _ _ (((Heap.SameBut.update ..).extBut.push _).push _) ⟨_,cS _ Z,Z⟩)))
theorem xu{b:Bool}{it l:Addr}{k:Nat}{xs:Array Value}{x:Value}{Q:Value->ae->Prop}(hi:iq b s.heap it l k)(hl:fA b s.heap l xs)(hx:xs[k]? =some x) (q:∀g,iq b g it l (k+1)->Heap.SameBut it s.heap g->Q x {s with heap:=g}):wpAny (model prog w) A (Builtin.SmallTypes.nextOf (.ref it)) Q E s:=by
 cases b
 ·exact W2 hi hl hx q
 ·exact wpAny_nextOf_list_item hi hl hx q
theorem EF{b:Bool}{it l:Addr}{k:Nat}{xs:Array Value}{Q:Value->ae->Prop}(hh:A.handled=none)(hi:iq b s.heap it l k)(hl:fA b s.heap l xs)(hx:xs[k]? =none) (q:∀g e,Heap.ExtBut it s.heap g->(∃o,g.get? e=some o/\o.cls= .type "StopIteration")->E (.ref e) {s with heap:=g}):wpAny (model prog w) A (Builtin.SmallTypes.nextOf (.ref it)) Q E s:=by
 cases b
 ·exact a2S hh hi hl hx q
 ·exact wpAny_nextOf_list_end hh hi hl hx q
structure Zp(b1 b2:Bool)(h:Heap)(z TI TO i1 i2 l1 l2:Addr)(f0:Value)(k:Nat):Prop where
 zz:IsZip h z TI TO f0
 ti:IsPair h TI (.ref i1) (.ref i2)
 to:∃a b,IsPair h TO a b
 n1:iq b1 h i1 l1 k
 n2:iq b2 h i2 l2 k
theorem Ka{z TI TO:Addr}{Q:Bool->ae->Prop}(hz:IsZip s.heap z TI TO .none)(q:Q true s):wpAny (model prog w) A (Builtin.SmallTypes.ownedTupleIsFree (.ref z)) Q E s:=by unfold Builtin.SmallTypes.ownedTupleIsFree;exact aD (gC hz Z (x:=.none) Z (bA q))
theorem Pt{b1 b2:Bool}{z TI TO i1 i2 l1 l2:Addr}{k:Nat}{xs ys:Array Value}{x y:Value}{Q:Value->ae->Prop}(D:ZipApart z TI TO i1 i2 l1 l2)(a80:Zp b1 b2 s.heap z TI TO i1 i2 l1 l2 .none k) (km:fA b1 s.heap l1 xs)(pe:fA b2 s.heap l2 ys)(hx:xs[k]? =some x)(hy:ys[k]? =some y) (q:∀g,Zp b1 b2 g z TI TO i1 i2 l1 l2 (rawInt s.heap.objs.size) (k+1)->IsPair g s.heap.objs.size x y->(∀c o,c≠z->c≠TO->c≠i1->c≠i2->s.heap.get? c=some o->g.get? c=some o)->Q (.ref s.heap.objs.size) {s with heap:=g}): wpAny (model prog w) A (Builtin.«zip.__next__» ⟨[.ref z],[]⟩) (λr s'=>∃v,r= .done (.ret v)/\Q v s') E s:=by
 obtain⟨hz,jF,⟨a,b,kr⟩,h1,h2⟩:=a80;show wpAny _ _ (field (.ref z) 2>>=_) _ _ _;refine aD (gC hz Z (x:=.bool false) Z ?_);show wpAny _ _ (field (.ref z) 3>>=_) _ _ _;refine aD (gC hz Z (x:=.ref TI) Z (aD (pY jF Z ?_)));show wpAny _ _ (Builtin.SmallTypes.ownedTupleIsFree (.ref z)>>=_) _ _ _;refine aD (Ka hz ?_);simp only[qd];refine aD (wpAny_rule (aD (gC hz Z (x:=.ref TO) Z (aD (vq hz (by simp) λg1 z1 e1=>?_)))));replace z1:IsZip g1 z TI TO .ellipsis:=z1;refine aD ?_;simp only[List.zipIdx_cons,List.zipIdx_nil,G0,List.forIn_nil];refine aD (aD (zp ?_));show wpAny _ _ (Builtin.SmallTypes.nextOf (.ref i1)>>=_) _ _ _;refine aD (xu (h1.to λo e=>e1.extBut _ _ D.i1z e) (km.to λo e=>e1.extBut _ _ D.l1z e) hx λg2 n1 e2=>bA ?_);have t2:IsPair g2 TO a b:=e2.extBut _ _ D.TOi1 (e1.extBut _ _ D.TOz kr);refine aD (pY t2 Z (aD (OE t2 λg3 t3 e3=>?_)));replace t3:IsPair g3 TO x b:=t3;refine aD (wpAny_letGo (bA ?_));refine aD (aD (zp ?_));show wpAny _ _ (Builtin.SmallTypes.nextOf (.ref i2)>>=_) _ _ _;refine aD (xu (h2.to λo e=>e3.extBut _ _ D.TOi2.symm (e2.extBut _ _ D.i12.symm (e1.extBut _ _ D.i2z e))) (pe.to λo e=>e3.extBut _ _ D.l2TO (e2.extBut _ _ D.l2i1 (e1.extBut _ _ D.l2z e))) hy λg4 n2 e4=>bA ?_);have t4:IsPair g4 TO x b:=e4.extBut _ _ D.TOi2 t3;refine aD (pY t4 Z (aD (OE t4 λg5 t5 e5=>?_)));replace t5:IsPair g5 TO x y:=t5;refine aD (wpAny_letGo (bA (bA ?_)));refine aD (pY t5 Z (aD (wpAny_newTuple ?_)));have sz:g5.objs.size=s.heap.objs.size:=by rw[e5.1,e4.1,e3.1,e2.1,e1.1]
 have z5:IsZip g5 z TI TO .ellipsis:=e5.extBut _ _ D.TOz.symm (e4.extBut _ _ D.i2z.symm (e3.extBut _ _ D.TOz.symm (e2.extBut _ _ D.i1z.symm z1)));have kp:∀c o,c≠z->c≠TO->c≠i1->c≠i2->s.heap.get? c=some o->g5.get? c=some o:=λc o c1 c2 c3 c4 e=>e5.extBut _ _ c2 (e4.extBut _ _ c4 (e3.extBut _ _ c2 (e2.extBut _ _ c3 (e1.extBut _ _ c1 e))));have m1:iq b1 g5 i1 l1 (k+1):=n1.to λo e=>e5.extBut _ _ D.TOi1.symm (e4.extBut _ _ D.i12 (e3.extBut _ _ D.TOi1.symm e));have m2:iq b2 g5 i2 l2 (k+1):=n2.to λo e=>e5.extBut _ _ D.TOi2.symm e;have zJ:z<g5.objs.size:=bN z5;show wpAny _ _ (Builtin.SmallTypes.ownedTupleHandOut (.ref z) (.ref g5.objs.size)>>=_) _ _ _;refine aD ?_;unfold Builtin.SmallTypes.ownedTupleHandOut;have z6:IsZip (g5.push {cls:=.type "tuple",data:=.seq #[x,y]}) z TI TO .ellipsis:=bQ _ z5;refine aD (vq z6 (by simp) λg7 z7 e7=>?_);replace z7:IsZip g7 z TI TO (rawInt g5.objs.size):=z7;refine vq z7 (by simp) λg8 z8 e8=>?_;replace z8:IsZip g8 z TI TO (rawInt g5.objs.size):=z8;have up:∀c o,c≠z->g5.get? c=some o->g8.get? c=some o:=λc o c1 e=>e8.extBut _ _ c1 (e7.extBut _ _ c1 (bQ _ e));have t8:IsPair g8 g5.objs.size x y:=e8.extBut _ _ (vM zJ) (e7.extBut _ _ (vM zJ) (cS _ Z));rw[sz]at z8 t8;refine bA ⟨_,Z,?_⟩;show Q (.ref g5.objs.size) _;rw[sz];exact q g8 ⟨z8,up _ _ D.TIz (kp _ _ D.TIz D.TITO D.TIi1 D.TIi2 jF),⟨_,_,up _ _ D.TOz t5⟩,m1.to λo e=>up _ o D.i1z e,m2.to λo e=>up _ o D.i2z e⟩ t8 λc o c1 c2 c3 c4 e=>up c o c1 (kp c o c1 c2 c3 c4 e)
theorem Pu{b1 b2:Bool}{z TI TO i1 i2 l1 l2:Addr}{k:Nat}{xs ys:Array Value}{Q:Fin->ae->Prop}(hh:A.handled=none)(D:ZipApart z TI TO i1 i2 l1 l2)(a80:Zp b1 b2 s.heap z TI TO i1 i2 l1 l2 .none k) (km:fA b1 s.heap l1 xs)(pe:fA b2 s.heap l2 ys)(uH:xs[k]? =none\/ys[k]? =none) (q:∀g e,(∀c o,c≠z->c≠TO->c≠i1->c≠i2->s.heap.get? c=some o->g.get? c=some o)->(∃o,g.get? e=some o/\o.cls= .type "StopIteration")->E (.ref e) {s with heap:=g}): wpAny (model prog w) A (Builtin.«zip.__next__» ⟨[.ref z],[]⟩) Q E s:=by obtain⟨hz,jF,⟨a,b,kr⟩,h1,h2⟩:=a80;show wpAny _ _ (field (.ref z) 2>>=_) _ _ _;refine aD (gC hz Z (x:=.bool false) Z ?_);show wpAny _ _ (field (.ref z) 3>>=_) _ _ _;refine aD (gC hz Z (x:=.ref TI) Z (aD (pY jF Z ?_)));show wpAny _ _ (Builtin.SmallTypes.ownedTupleIsFree (.ref z)>>=_) _ _ _;refine aD (Ka hz ?_);simp only[qd];refine aD (wpAny_rule (aD (gC hz Z (x:=.ref TO) Z (aD (vq hz (by simp) λg1 z1 e1=>?_)))));replace z1:IsZip g1 z TI TO .ellipsis:=z1;refine aD ?_;simp only[List.zipIdx_cons,List.zipIdx_nil,G0,List.forIn_nil];refine aD (aD (zp ?_));show wpAny _ _ (Builtin.SmallTypes.nextOf (.ref i1)>>=_) _ _ _;have j1:=h1.to λo e=>e1.extBut _ _ D.i1z e;have k1:=km.to λo e=>e1.extBut _ _ D.l1z e;cases hx:xs[k]? with
 |none=>
  refine aD (EF hh j1 k1 hx λg2 er e2 ⟨oe,p7,uL⟩=>?_);have z2:IsZip g2 z TI TO .ellipsis:=e2 _ _ D.i1z.symm z1;have nz:er≠z:=λv=>by subst v;rw[z2]at p7;cases p7;simp at uL
  refine vq z2 (by simp) λg3 _ e3=>q g3 er (λc o c1 _ c3 _ v=>e3.extBut _ _ c1 (e2 _ _ c3 (e1.extBut _ _ c1 v))) ⟨oe,e3.extBut _ _ nz p7,uL⟩ |some x=>
  have hy:ys[k]? =none:=by rcases uH with h|h;rw[hx]at h;cases h;exact h
  refine aD (xu j1 k1 hx λg2 n1 e2=>bA ?_);have t2:IsPair g2 TO a b:=e2.extBut _ _ D.TOi1 (e1.extBut _ _ D.TOz kr);refine aD (pY t2 Z (aD (OE t2 λg3 t3 e3=>?_)));refine aD (wpAny_letGo (bA ?_));refine aD (aD (zp ?_));show wpAny _ _ (Builtin.SmallTypes.nextOf (.ref i2)>>=_) _ _ _;refine aD (EF hh (h2.to λo e=>e3.extBut _ _ D.TOi2.symm (e2.extBut _ _ D.i12.symm (e1.extBut _ _ D.i2z e))) (pe.to λo e=>e3.extBut _ _ D.l2TO (e2.extBut _ _ D.l2i1 (e1.extBut _ _ D.l2z e))) hy λg4 er e4 ⟨oe,p7,uL⟩=>?_);have z4:IsZip g4 z TI TO .ellipsis:=e4 _ _ D.i2z.symm (e3.extBut _ _ D.TOz.symm (e2.extBut _ _ D.i1z.symm z1));have nz:er≠z:=λv=>by subst v;rw[z4]at p7;cases p7;simp at uL
  refine vq z4 (by simp) λg5 _ e5=>q g5 er (λc o c1 c2 c3 c4 v=>e5.extBut _ _ c1 (e4 _ _ c4 (e3.extBut _ _ c2 (e2.extBut _ _ c3 (e1.extBut _ _ c1 v))))) ⟨oe,e5.extBut _ _ nz p7,uL⟩
abbrev wj(b1:Bool)(h:Heap)(l1:Addr):Heap:=h.push {cls:=.type (nM b1),data:=.fields #[.ref l1,.int 0 0]}
abbrev wg(b1 b2:Bool)(h:Heap)(l1 l2:Addr):Heap:=(wj b1 h l1).push {cls:=.type (nM b2),data:=.fields #[.ref l2,.int 0 0]}
abbrev we(b1 b2:Bool)(h:Heap)(l1 l2:Addr):Heap:=(wg b1 b2 h l1 l2).push {cls:=.type "tuple",data:=.seq #[.ref h.objs.size,.ref (wj b1 h l1).objs.size]}
abbrev wc(b1 b2:Bool)(h:Heap)(l1 l2:Addr):Heap:=(we b1 b2 h l1 l2).push {cls:=.type "tuple",data:=.seq #[.none,.none]}
abbrev qj(b1 b2:Bool)(h:Heap)(l1 l2:Addr):Heap:=(wc b1 b2 h l1 l2).push {cls:=.type "zip",data:=.fields #[.none,.bool false,.bool false,.ref (wg b1 b2 h l1 l2).objs.size,.ref (we b1 b2 h l1 l2).objs.size]}
theorem Pr(b1 b2:Bool)(l1 l2:Addr)(xs ys:Array Value):Meets (Builtin.«zip.__new__» ⟨[.type "zip",.ref l1,.ref l2],[]⟩) (λ_ R s=>fA b1 s.heap l1 xs/\fA b2 s.heap l2 ys/\R (.ok (.ret (.ref (wc b1 b2 s.heap l1 l2).objs.size))) {s with heap:=qj b1 b2 s.heap l1 l2}):=.of_wp λprog w A R s h=>by
 obtain⟨hp,gg,d,tk,os⟩:=s;obtain⟨km,pe,h⟩:=h;have DA:=sub_zip;have hL1:fA b1 (Shared.heap ⟨hp,gg,d,tk,os⟩) l1 xs:=km;have rB:fA b2 (Shared.heap ⟨hp.push {cls:=.type (nM b1),data:=.fields #[.ref l1,.int 0 0]},gg,d,tk,os⟩) l2 ys:=pe.to λo e=>bQ _ e
 wp_walk using qN hL1,qN rB;exact⟨_,Z,h⟩
theorem Pw{b1 b2:Bool}{l1 l2:Addr}{xs ys:Array Value}{Q:Value->ae->Prop}(km:fA b1 s.heap l1 xs)(pe:fA b2 s.heap l2 ys) (q:∀g,Zp b1 b2 g (s.heap.objs.size+4) (s.heap.objs.size+2) (s.heap.objs.size+3) s.heap.objs.size (s.heap.objs.size+1) l1 l2 .none 0->(∀c o,s.heap.get? c=some o->g.get? c=some o)->Q (.ref (s.heap.objs.size+4)) {s with heap:=g}): wpAny (model prog w) A (call (.type "zip") [.ref l1,.ref l2]) Q E s:=by
 refine callType_new PySem.F.called_zip az (PySem.F.typeCall_zip_2 _ _) (PySem.F.newCall_zip_2 _ _) (λobj=>PySem.F.args_object_init_3 obj _ _) PySem.F.entry_zip_new (Pr b1 b2 l1 l2 xs ys) ⟨km,pe,?_⟩;have z1:(wj b1 s.heap l1).objs.size=s.heap.objs.size+1:=mM ..;have z2:(wg b1 b2 s.heap l1 l2).objs.size=s.heap.objs.size+2:=by rw[mM,z1]
 have z3:(we b1 b2 s.heap l1 l2).objs.size=s.heap.objs.size+3:=by rw[mM,z2]
 have z4:(wc b1 b2 s.heap l1 l2).objs.size=s.heap.objs.size+4:=by rw[mM,z3]
 have g5:(qj b1 b2 s.heap l1 l2).get? (wc b1 b2 s.heap l1 l2).objs.size=some _:=cS _ rfl;have g4:(qj b1 b2 s.heap l1 l2).get? (we b1 b2 s.heap l1 l2).objs.size=some _:=bQ _ (cS _ Z);have g3:(qj b1 b2 s.heap l1 l2).get? (wg b1 b2 s.heap l1 l2).objs.size=some _:=bQ _ (bQ _ (cS _ Z));have g2:(qj b1 b2 s.heap l1 l2).get? (wj b1 s.heap l1).objs.size=some _:=bQ _ (bQ _ (bQ _ (cS _ Z)));have g1:(qj b1 b2 s.heap l1 l2).get? s.heap.objs.size=some _:=bQ _ (bQ _ (bQ _ (bQ _ (cS _ Z))));show _/\_;rw[z2,z3,z4]at g5;rw[z1,z2]at g3;rw[z3]at g4;rw[z1]at g2;rw[z4];refine⟨⟨_,g5,Z⟩,q _ ⟨g5,g3,⟨_,_,g4⟩,?_,?_⟩ λc o e=>bQ _ (bQ _ (bQ _ (bQ _ (bQ _ e))))⟩
 ·cases b1<;>exact⟨_,g1,rfl,rfl⟩
 ·cases b2<;>exact⟨_,g2,rfl,rfl⟩
end
section
variable {X:Cx}{ak:List (Addr×Obj)}{O:St}{H:Hp}{s:ae}{h':Heap}
theorem Inv.sT{t':Nat}{fp:List Addr}(I:Inv X ak O H s)(k:∀b o,b∉fp->s.heap.get? b=some o->h'.get? b=some o)(hf:∀b∈fp,jt X ak H b):Inv X ak O H {s with heap:=h',toks:=t'}:=by
 have u9:∀b u,H b=some u->b∉fp:=λb u e z=>by rw[(hf b z).1]at e;cases e
 have hL:X.env.locals∉fp:=λz=>(hf _ z).2.1 rfl;refine I.step (g':=s.gens) (d':=s.drawn) (ch:=fp) (λb hb=>?_) (λb o _ _ hc e _=>k b o hc e) (λb o _ _ hc e _=>⟨o.slots,k b o hc e⟩) (λ_ _ _ _ n=>n) (λb o hc e=>⟨o,k b o hc e⟩) (λ_ _ e=>e) (λ_ _ _ e=>e) (λb ps e=>⟨#[],by rw[e];simp⟩) (λm hm=>?_) (λb u e=>?_) I.bare
 ·obtain⟨f0,f1,f2,f3,f4,f5⟩:=hf b hb
  exact⟨f3,f1,f4,f5⟩
 ·obtain⟨o,es,ep,ho,r⟩:=hm
  exact⟨o,es,ep,k _ o hL ho,r⟩
 ·refine(I.aY b u e).jQ (λc v hc q=>k c v ?_ q) (λ_ q=>q) λ_ _ q=>q
  rcases hc with z|z
  ·rw[z];exact u9 b u e
  ·exact u9 c _ z
end
def dE(b:Bool)(K:aa)(H:Hp)(a:Addr)(xs:List V):Prop:=match b with|true=>aH K H a xs|false=>aQ K H a xs
theorem dE.get{X:Cx}{ak:List (Addr×Obj)}{O:St}{H:Hp}{s:ae}{b:Bool}{a:Addr}{xs:List V}(I:Inv X ak O H s)(h:dE b X.K H a xs):∃its:List Value,Vals xs its/\fA b s.heap a its.toArray:=by
 cases b
 ·obtain⟨its,r,p,_⟩:=I.tuple h;exact⟨its,r,p⟩
 ·obtain⟨its,r,p,_⟩:=I.list h;exact⟨its,r,p.isList⟩
theorem dE.inj{X:Cx}{ak:List (Addr×Obj)}{O:St}{H:Hp}{s:ae}{b:Bool}{a:Addr}{xs ys:List V}(I:Inv X ak O H s)(h:dE b X.K H a xs)(g:dE b X.K H a ys):xs=ys:=by
 cases b
 ·exact I.Gp h g
 ·exact I.Ld h g
def pU(K:aa)(b1 b2:Bool)(l1 l2:Addr):It:=⟨λi H=>∃xs ys x y,dE b1 K H l1 xs/\dE b2 K H l2 ys/\xs[i]? =some x/\ys[i]? =some y,λi H v H'=>∃T x y,v= .ref T/\(∀xs,dE b1 K H l1 xs->xs[i]? =some x)/\(∀ys,dE b2 K H l2 ys->ys[i]? =some y)/\Nw H H' T (.tup [x,y]),λi H=>∃xs ys,dE b1 K H l1 xs/\dE b2 K H l2 ys/\(xs.length<=i\/ys.length<=i)⟩
theorem PZ{P:af}{w:World}{K:aa}{elts:List Expr}{kt:Nat}{pos:Pos}{b1 b2:Bool}{z TI TO i1 i2 l1 l2:Addr}(D:ZipApart z TI TO i1 i2 l1 l2): Turn P w K (.Tuple elts kt pos) (pU K b1 b2 l1 l2) [z,TI,TO,i1,i2] z (λi h=>Zp b1 b2 h z TI TO i1 i2 l1 l2 .none i) where
 mem:=by simp
 obj:=λi h st b hb=>by
  obtain⟨hz,jF,⟨a,c,kr⟩,h1,h2⟩:=st;simp only[bS,eR,jK]at hb;rcases hb with rfl|rfl|rfl|rfl|rfl
  ·exact⟨_,hz,λv e=>by cases e⟩
  ·exact⟨_,jF,λv e=>by cases e⟩
  ·exact⟨_,kr,λv e=>by cases e⟩
  ·obtain⟨o,e,_,n⟩:=h1.ob;exact⟨o,e,n⟩
  ·obtain⟨o,e,_,n⟩:=h2.ob;exact⟨o,e,n⟩
 keep:=λi h h' st k=>by obtain⟨hz,jF,⟨a,c,kr⟩,h1,h2⟩:=st;exact⟨k z (by simp) _ hz,k TI (by simp) _ jF,⟨a,c,k TO (by simp) _ kr⟩,h1.to λo e=>k i1 (by simp) o e,h2.to λo e=>k i2 (by simp) o e⟩
 item:=by
  intro X hP hw hK hc i ak s O H E I hf st hg;subst hP hw hK;obtain⟨xs,ys,x,y,q1,q2,e1,e2⟩:=hg;obtain⟨Dn,r1,p1⟩:=q1.get I;obtain⟨nj,r2,p2⟩:=q2.get I;obtain⟨u1,Dy,lM⟩:=r1.get e1;obtain⟨u2,Ye,BO⟩:=r2.get e2;have hT:s.TypeIs (.ref z) "zip":=⟨_,st.zz,Z⟩;unfold pyNext;refine aD (zt (zr (name:=Str.ofString "__next__") hT FH (zq FH hT PySem.F.entry_zip_next (Pt D st p1 p2 (x:=u1) (y:=u2) (by simpa using Dy) (by simpa using Ye) λg zg tg kp=>bA ?_) (PySem.F.args_zip_next_1 _))));refine⟨_,Z,?_⟩;refine wpAny_letOwnedTupleGo_zip zg.zz λg' Pp sb=>?_;have hs:=sb.extBut;have zJ:z<s.heap.objs.size:=bN st.zz;have nw:Nw H (upd H s.heap.objs.size (.tup [x,y])) s.heap.objs.size (.tup [x,y]):=.of (I.aY.fresh (bq _));have I1:Inv X ak O (upd H s.heap.objs.size (.tup [x,y])) {s with heap:=s.heap.push {cls:=.type "tuple",data:=.seq #[u1,u2]}}:=I.laid (t':=s.toks) (λb ob q=>bQ _ q) (bq _) ⟨by show 2<=sizeLine;decide,[u1,u2],.cons lM (.cons BO .nil),⟨_,cS _ Z,Z,_,Z⟩⟩;have D6:∀b∈[z,TI,TO,i1,i2],b<s.heap.objs.size:=λb hb=>by
   simp only[bS,eR,jK]at hb;obtain⟨hz,jF,⟨a,c,kr⟩,h1,h2⟩:=st;rcases hb with rfl|rfl|rfl|rfl|rfl
   ·exact bN hz
   ·exact bN jF
   ·exact bN kr
   ·obtain⟨o,e,_⟩:=h1.ob;exact bN e
   ·obtain⟨o,e,_⟩:=h2.ob;exact bN e
  have hn:∀b∈[z,TI,TO,i1,i2],upd H s.heap.objs.size (.tup [x,y]) b=none:=λb hb=>by rw[bj (dw (D6 b hb))];exact(hf b hb).1
  have I2:Inv X ak O (upd H s.heap.objs.size (.tup [x,y])) {s with heap:=g'}:=Inv.sT (s:={s with heap:=s.heap.push {cls:=.type "tuple",data:=.seq #[u1,u2]}}) (t':=s.toks) (fp:=[z,TI,TO,i1,i2]) I1 (λb o hb e=>by
   have e:(s.heap.push {cls:=.type "tuple",data:=.seq #[u1,u2]}).get? b=some o:=e;have nz:b≠z:=λq=>hb (by simp[q]);rcases Pj e with⟨DZ,rfl⟩|e'
   ·subst DZ
    exact hs _ _ nz tg
   ·exact hs _ _ nz (kp b o nz (λq=>hb (by simp[q])) (λq=>hb (by simp[q])) (λq=>hb (by simp[q])) e')) (λb hb=>by obtain⟨f0,f1,f2,f3,f4,f5⟩:=hf b hb;exact⟨hn b hb,f1,f2,f3,f4,f5⟩);refine⟨.ref s.heap.objs.size,_,I2,Z,⟨s.heap.objs.size,x,y,Z,λzs hz=>?_,λzs hz=>?_,nw⟩,?_,hn⟩
  ·rw[dE.inj I hz q1];exact e1
  ·rw[dE.inj I hz q2];exact e2
  ·obtain⟨_,jF,⟨a,c,kr⟩,h1,h2⟩:=zg
   exact⟨Pp,hs _ _ D.TIz jF,⟨a,c,hs _ _ D.TOz kr⟩,h1.to λo e=>hs _ o D.i1z e,h2.to λo e=>hs _ o D.i2z e⟩
 done:=by intro X hP hw hK hc i ak s O H E I hf st hg;subst hP hw hK;obtain⟨xs,ys,q1,q2,uH⟩:=hg;obtain⟨Dn,r1,p1⟩:=q1.get I;obtain⟨nj,r2,p2⟩:=q2.get I;have hT:s.TypeIs (.ref z) "zip":=⟨_,st.zz,Z⟩;have l1:=r1.length;have l2:=r2.length;unfold pyNext;refine aD (zt (zr (name:=Str.ofString "__next__") hT FH (zq FH hT PySem.F.entry_zip_next (Pu (I.ok.hd hc) D st p1 p2 (uH.imp (λh=>by simp;lia) λh=>by simp;lia) λg e kp he=>?_) (PySem.F.args_zip_next_1 _))));obtain⟨o,ho,lj⟩:=he;refine aD (wpAny_isInstance (T:="StopIteration") (b:=true) ⟨o,ho,lj⟩ isSubtype_stop (bA ⟨Z,?_⟩));exact I.sT (t':=s.toks) (fp:=[z,TI,TO,i1,i2]) (λb o hb e=>kp b o (λq=>hb (by simp[q])) (λq=>hb (by simp[q])) (λq=>hb (by simp[q])) (λq=>hb (by simp[q])) e) hf
 self:=λ_ _ _ _ _ st h=>wpAny_pyIter_zip st.zz h
inductive a6c(K:aa)(b1:Bool)(b2:Bool)(R:It->Hp->Prop)(vs:List V)(H1:Hp):Prop |mk (l1:_)(l2:_)(h0:vs=[.ref l1,.ref l2])(h1:(∃xs,dE b1 K H1 l1 xs))(h2:(∃ys,dE b2 K H1 l2 ys))(h3:R (pU K b1 b2 l1 l2) H1)
def Y0(K:aa)(b1 b2:Bool)(ta:TA):TI:=λO H R=>ta O H λvs H1=>a6c K b1 b2 R vs H1
theorem kP(K:aa){X:Cx}(hK:X.K=K)(b1 b2:Bool){elts:List Expr}{kt:Nat}{og:Pos}{a b:Expr}{ta:TA}{p pos:Pos}(hg:Gl X "zip")(hm:X.mg "zip"=none)(ha:PA X [a,b] ta)(hs:starEach [a,b] X.env=[(false,eval a X.env),(false,eval b X.env)]:=by rfl)(gv:starEach [b] X.env=[(false,eval b X.env)]:=by rfl): PI X (.Tuple elts kt og) (.Call (.Name "zip" p) [a,b] [] pos) (Y0 K b1 b2 ta):=by
 subst hK;intro ak s O H R I h;refine Call_ (m3 I hg hm PyProof.Rows.boot_zip (sE (aW (ha pos ak s O H _ I h) λus s1 ⟨vs,H1,I1,r1,q1⟩=>?_) (by rw[hs,gv]) (by rw[gv];rfl)));obtain⟨l1,l2,e,⟨xs,h1⟩,⟨ys,h2⟩,q⟩:=q1;subst e;obtain⟨u1,u2,rfl,lM,BO⟩:=vals2 r1;cases(show u1=Value.ref l1 from lM);cases(show u2=Value.ref l2 from BO);obtain⟨Dn,v1,p1⟩:=h1.get I1;obtain⟨nj,v2,p2⟩:=h2.get I1;have a1:l1<s1.heap.objs.size:=by cases b1<;>(obtain⟨o,e,_⟩:=p1;exact bN e)
 have a2:l2<s1.heap.objs.size:=by cases b2<;>(obtain⟨o,e,_⟩:=p2;exact bN e)
 refine Pw p1 p2 λg zg kp=>wpAny_pyIter_zip zg.zz ?_;refine⟨_,_,_,_,H1,Z,I1.kept (t':=s1.toks) kp,PZ (zipApart_new a1 a2),zg,λc hc=>?_,q⟩;have hle:s1.heap.objs.size<=c:=by simp only[bS,eR,jK]at hc;rcases hc with rfl|rfl|rfl|rfl|rfl<;>first|exact bq _|exact Nat.le_add_right _ _
 exact I1.mi hle (I1.aY.fresh hle)
theorem dE.go{b:Bool}{K:aa}{H H':Hp}{a:Addr}{xs:List V}(s:aA H H')(h:dE b K H a xs):dE b K H' a xs:=by
 cases b
 ·exact aQ.go s h
 ·exact aH.go s h
theorem NB{K:aa}{b1 b2:Bool}{l1 l2:Addr}{xs ys:List V}{bs:List Bool}{te:TE}{Q:VK}{D:Addr}{H H0:Hp}{n:Nat}(rest:St)(hn:n=2)(h1:dE b1 K H l1 xs)(h2:dE b2 K H l2 ys)(nw:Nw H H0 D (.lst [])) (hl:min xs.length ys.length=bs.length)(hz:bs.length<=1000) (hs:∀(i:Nat)(x y:V)(b:Bool)(H2:Hp)(Q':VK),xs[i]? =some x->ys[i]? =some y->bs[i]? =some b->aA H H2->(∀H3,aA H2 H3->Q' (.bl b) H3)->te (some x::some y::rest) H2 Q') (hq:∀H',aA H H'->H' D=some (.lst (bs.map V.bl))->Q (.ref D) H'):jJ (pU K b1 b2 l1 l2) (yn K n (uQ (fT 0) (uQ (fT 1) Em))) j8 te Q D (none::none::rest) H0:=by
 subst hn;have hD:=nw.no;refine rR bs.length (λi O H2=>aA H H2/\H2 D=some (.lst ((bs.take i).map V.bl))/\∃v v',O=v::v'::rest) ?_ ?_ ?_
 ·exact⟨nw.same,nw.at',none,none,Z⟩
 ·rintro i O H2 hi ⟨s2,d2,v,v',rfl⟩
  have hx:i<xs.length:=by lia
  have hy:i<ys.length:=by lia
  have ex:=cC hx;have ey:=cC hy;have eb:=cC hi;refine⟨⟨xs,ys,_,_,h1.go s2,h2.go s2,ex,ey⟩,λy' H3 ki=>?_⟩;obtain⟨T,x0,y0,rfl,k1,k2,n3⟩:=ki;have e1:=k1 _ (h1.go s2);have e2:=k2 _ (h2.go s2);rw[ex]at e1;rw[ey]at e2;cases e1;cases e2;refine⟨T,_,Z,aQ.of n3.at',Z,_,_,Z,_,_,Z,Z,?_⟩;refine yes (bF ?_);refine hs i _ _ _ _ _ ex ey eb (s2.trans n3.same) λH4 s4=>?_;refine⟨_,s4 _ _ (n3.same _ _ d2),?_,bs.length-(i+1),aw,Z,aw,λb o e=>?_,?_,_,_,Z⟩
  ·rw[bD,sH]
   have:(1000:Nat)<sizeLine:=by decide
   lia
  ·rw[bj (ft e hD)];exact s4 b o (n3.same b o (s2 b o e))
  ·rw[bV,vO,eb,lF];rfl
 ·rintro O H2 ⟨s2,d2,v,v',rfl⟩
  refine⟨⟨xs,ys,h1.go s2,h2.go s2,aw⟩,hq H2 s2 ?_⟩;rw[d2,zD]
theorem eP.there{P:af}{w:World}{H:Hp}{h:Heap}{a:Addr}{o:HO}(x:eP P w H h a o):∃ob,h.get? a=some ob:=by induction o with |lst xs=>obtain⟨_,_,_,_,e⟩:=x;exact⟨_,e⟩ |tup xs=>obtain⟨_,_,_,ob,e,_⟩:=x;exact⟨ob,e⟩ |dK cT=>obtain⟨_,_,_,_,ob,_,_,e,_⟩:=x;exact⟨ob,e⟩ |dT cT=>obtain⟨_,_,_,_,ob,_,_,e,_⟩:=x;exact⟨ob,e⟩ |set S n=>obtain⟨ob,_,_,_,e,_⟩:=x;exact⟨ob,e⟩ |ins C dx fs=>obtain⟨_,_,_,e,_⟩:=x;exact⟨_,e⟩ |own y=>exact x |xd fs=>obtain⟨_,⟨ob,_,_,e,_⟩,_⟩:=x;exact⟨ob,e⟩ |oF lo hi=>obtain⟨_,_,_,e⟩:=x;exact⟨_,e⟩ |ky ob u=>exact⟨_,x.1⟩ |lJ ps=>exact⟨_,x⟩ |met f y=>exact⟨_,x⟩ |ext φ=>exact x.2.1
structure Fl(P:af)(w:World)(outer:List Env)(H:Hp)(h₁:Heap)(ex:Addr)(H':Hp)(B h:Heap):Prop where
 un:Un (cR outer) [] H H' h₁ h
 aY:dc P w H' h
 k1:∀b o,h₁.get? b=some o->H b=none->b∉cR outer->B.get? b=some o
 k2:∀b o,H' b=some o->∃ob,B.get? b=some ob
 k3:∀b o,h₁.get? b=some o->b∉cR outer->∃ob,B.get? b=some ob
 fr:∀b∈cR outer,H' b=none
 nw:h₁.get? ex=none
 ne:H' ex=none
theorem Fl.step{P:af}{w:World}{outer:List Env}{H H':Hp}{h₁ B h h':Heap}{ex:Addr}{au:Heap}(F:Fl P w outer H h₁ ex H' B h)(st:B.StaysIn h)(fc:B.StaysIn h')(up:h.UpToSlots h')(ff:h.FunFrames au outer):Fl P w outer H h₁ ex H' B h':=by
 have slot:∀b o,h₁.get? b=some o->H b=none->b∈cR outer->∃sl,h'.get? b=some {o with slots:=sl}:=λb o e n hb=>by obtain⟨sl,e1⟩:=F.un.slot b o e n hb (by simp);obtain⟨_,o2,e2,hd⟩:=ff.mem hb;rw[e1]at e2;cases e2;obtain⟨Aa,e3⟩:=up b _ e1 (λvs=>hd vs);exact⟨Aa,e3⟩
 refine⟨⟨λb o e n hb _=>fc b o (F.k1 b o e n hb),λb o e n hb _=>slot b o e n hb,F.un.free,λb o e hx=>?_,F.un.gQ,F.un.gJ,F.un.gR⟩,λb u e=>?_,F.k1,F.k2,F.k3,F.fr,F.nw,F.ne⟩
 ·by_cases hb:b∈cR outer
  ·obtain⟨_,o2,e2,hd⟩:=ff.mem hb
   obtain⟨sl,e3⟩:=up b o2 e2 hd;exact⟨_,e3⟩
  ·obtain⟨ob,e1⟩:=F.k3 b o e hb
   exact⟨ob,fc b ob e1⟩
 ·refine(F.aY b u e).jQ (λc v hc q=>?_) (λ_ q=>q) λ_ _ q=>q
  have XX:∃ob,B.get? c=some ob:=by
   rcases hc with z|z
   ·rw[z];exact F.k2 b u e
   ·exact F.k2 c _ z
  obtain⟨ob,e1⟩:=XX;have e2:=st c ob e1;rw[q]at e2;cases e2;exact fc c _ e1
section
variable {P:af}{w:World}{K:aa}{mg:bf}{au:Heap}{N:List Str}{qual:Str}{scope:Scope}{f:Addr}{cd:Value}{A:ai}{outer:List Env}{s:ae}{H:Hp}{E:XK}{ak:List (Addr×Obj)}{O:St}{H1:Hp}{s1:ae}{h2:Heap}{ex:Addr}{cls:Value}{vs:List Value}
end
structure Exc(K:aa)(mg:bf)(x:Str)(C:Addr)(dH:List Value)(newId:String):Prop where
 at':mg x=some (.ref C)
 ok:PySem.W.excIn K C dH newId=true
theorem Exc.own{K:aa}{mg:bf}{x:Str}{C:Addr}{dH:List Value}{newId:String}{h:Heap}(e:Exc K mg x C dH newId)(X:K.In h):OwnCls x C dH newId mg h:=by
 refine⟨e.at',?_⟩;have q:=e.ok;unfold PySem.W.excIn at q;split at q
 ·rename_i dd cd sl ho
  split at q
  ·rename_i D2 bl a0 a1 a2 a3 nn a5 hm hs
   simp only[dj,dm,Pm]at q;obtain⟨⟨⟨⟨⟨r1,r2⟩,uJ⟩,ht⟩,aY⟩,p8⟩:=q;subst r1 r2;obtain⟨c1,c2,c3,c4,c5,c6,c7,c8,c9,c10,c11⟩:=cd;dsimp only at hm uJ aY p8;subst hm uJ;obtain⟨l⟩:=sl;simp only at hs;subst hs;exact⟨bl,c4,c1,c5,c2,c6,c7,c8,c9,c10,dd,a0,a1,a2,a3,a5,_,X _ _ ho,.of_isNs (PySem.W.isNs_of_in X aY),PySem.W.nsMap_none_of_in X aY p8,PySem.W.tail_of_in X ht⟩
  ·cases q
 ·cases q
section
variable {X:Cx}{x:Str}{C:Addr}{dH:List Value}{newId qW B:String}{e:Expr}{t:TA}{np bT pos:Pos}
def Qq(E:XK)(cls:Value)(t:TA):TS:=λ_ O H=>t O H λvs H1=>vs.length<=sizeLine/\E cls none H1
theorem tO{E:XK}(hx:∀ak O H s h2 ex vs,Inv X ak O H s->Heap.MadeExcOf s.heap h2 ex (.ref C) vs->E (.ref C) none H->X.xe (.ref ex) {s with heap:=h2})(EC:Exc X.K X.mg x C dH newId)(FB:ExcBaseFacts B newId qW dH)(hh:X.A.handled=none)(hg:Gl X x)(ha:PA X [e] t) (he:starEach [e] X.env=[(false,eval e X.env)]:=by rfl)(hd:(x==("__debug__":Str))=false:=by decide): PS X (.Raise (some (.Call (.Name x np) [e] [] bT)) none pos) (Qq E (.ref C) t):=by intro ak s O H D I h;obtain⟨tl,Nn,nm,q,bs,hdct,sn,sub,ab,col,dd,k0,k1,k2,k3,k5,mN,hC,hN,p8,T⟩:=(EC.own I.ok.mod.kh).obj;refine wpAny_Raise_call_subT (C:=C) (nm:=nm) (q:=q) (N:=Nn) (bs:=bs) (bm:=tl) (hdct:=hdct) (sn:=sn) (sub:=sub) (ab:=ab) (col:=col) (dd:=dd) (k0:=k0) (k1:=k1) (k2:=k2) (k3:=k3) (k5:=k5) FB (mN:=mN) (T.hasType FB.hasBase) hh (by rw[he];rfl) p8 (lZ I hg EC.at' ⟨Z,?_⟩ hd);have hA:=ha bT ak s O H _ I h;rw[he]at hA⊢;refine Pl (aW hA λus s2 ⟨vs,H1,I1,r1,z,w1⟩=>⟨Z,by rw[<-r1.length];exact z,I1.bk _ _ hC,hN.keeps I1.bk,T.keeps I1.bk,λh' ex hm=>hx ak O H1 s2 h' ex us I1 hm w1⟩)
end
section
variable {M:Model}{A:ai}{Ex:Value->ae->Prop}
theorem a2F{h:Heap}{g:Array GenState}{d:Drawn}{tk:Nat}{os:OsState}{e:Addr}{oe:Obj}{Q:Bool->ae->Prop}{C D N N':Addr}{nm KD q q':Str}{bs NP bm EY:List Value}{hdct LV:Bool}{sn HH:List Str}{sub GL:List Value}{ab Ob:Bool}{col NG:Option Bool}{dd Nq:Option Addr}{k0 k1 k2 k3 k5 j0 j1 j2 j3 j5:Option Value}{newId Wh:String} (hC:h.get? C=some (excClassObj nm q C N bs bm hdct sn sub ab col dd k0 k1 k2 k3 k5 newId))(hD:h.get? D=some (excClassObj KD q' D N' NP EY LV HH GL Ob NG Nq j0 j1 j2 j3 j5 Wh)) (he:h.get? e=some oe)(uK:oe.cls= .ref C)(hb:EY.contains (.type "BaseException")=true)(hs:(Value.ref C::bm).contains (.ref D)=true) (hq:Q true ⟨h,g,d,tk,os⟩):wpAny M A (excMatches (.ref e) (.ref D)) Q Ex ⟨h,g,d,tk,os⟩:=by
 have Zr:(Value.ref D::EY).contains (.type "BaseException")=true:=by rw[Pc,hb,Bool.or_true]
 have f:=tc_notTuple;unfold excMatches
 repeat (first|(with_reducible refine pZ he ?_;rw[uK])|with_reducible refine pZ hD ?_|(with_reducible refine Fx hD ?_;rw[Zr])|(with_reducible refine Fx hC ?_;rw[hs])|with_reducible refine pZ hC ?_|wp_step)
 exact hq
end
section
variable {X:Cx}{k:Nat}{x:Str}{p pos:Pos}{e:Expr}{es:List Expr}{t:TA}{sp:Sp}
end
abbrev Cx.hand(X:Cx)(ex:Addr):Cx:={X with A:=X.A.mark (some (.ref ex)),calm:=false,xe:=λ_ _=>False}
section
variable {X:Cx}{ak:List (Addr×Obj)}{O:St}{H:Hp}{s:ae}
theorem Inv.hand(I:Inv X ak O H s)(ex:Addr):Inv (X.hand ex) ak O H s:=⟨⟨I.ok.mod,I.ok.kind,I.ok.glob,I.ok.blt,I.ok.above,I.ok.inj,I.ok.has,I.ok.nN,λh=>(de h).elim,I.ok.frames,I.ok.oj,I.ok.uU,I.ok.bs,I.ok.jq,I.ok.mY,I.ok.mq,I.ok.gI,I.ok.kz⟩,I.os,I.bare,I.au,I.loc,I.cell,I.free,I.ij,I.pin,I.aY,I.len⟩
theorem Inv.back{ex:Addr}(ok:X.Ok)(I:Inv (X.hand ex) ak O H s):Inv X ak O H s:=⟨ok,I.os,I.bare,I.au,I.loc,I.cell,I.free,I.ij,I.pin,I.aY,I.len⟩
theorem PR{M:Model}{A:ai}{E:Value->ae->Prop}{i:Nat}{x:Str}{v:V}{pos:Pos}{Q:Unit->ae->Prop}(I:Inv X ak O H s)(hN:X.N.Nodup)(hi:X.N[i]? =some x)(hk:X.env.kindOf x=some .local)(hs:X.env.scope.names.lookup x=some .local) (hv:O[i]? =some (some v))(h:∀s',Inv X ak (O.set i none) H s'->Q () s'):wpAny M A (unbindBehindTheSuite X.env x pos) Q E s:=by
 obtain⟨m,hn,hl⟩:=id I.loc;have uK:(X.env.scope.kind== .class||(X.env.scope.kind== .module&&X.env.locals !=X.env.globals))=false:=by rw[I.ok.kind];rfl
 have y9:i<O.length:=by rw[I.len];exact(dQ.mp hi).1
 have iU:=I.iU;obtain⟨u,r,look⟩:=hl i x v hi hv (.inl hs);have hm:m x=some u:=by
  rcases look with⟨_,e⟩|⟨k,_⟩
  ·exact e
  ·rcases k with k|k<;>(rw[hk]at k;cases k)
 unfold unbindBehindTheSuite;refine zp (wpAny_unbindName_local hk hn hm uK λh' u' uz m6=>?_);obtain⟨oL,_,_,LN,_⟩:=id hn;have tr:dc X.prog X.w H h':=λb ob e=>by
  refine(I.aY b ob e).jQ (λc w' hc q=>(m6.2 c ?_).trans q) (λ_ q=>q) λ_ _ q=>q;rintro rfl;rcases hc with rfl|hc
  ·rw[I.free]at e;cases e
  ·rw[I.free]at hc;cases hc
 have lt:∀b o,X.s₀.heap.get? b=some o->b≠X.env.locals:=λb o e=>dw (fk (bN e) I.ok.above);refine h _ ⟨I.ok,I.os,I.bare,⟨λb o e n hb hx=>(m6.2 b (lt b o e)).trans (I.au.keep b o e n hb hx),λb o e n hb hx=>?_,I.au.free,λb o e hx=>?_,I.au.gQ,I.au.gJ,I.au.gR⟩,⟨_,uz,λj y v' e1 e2 e3=>?_⟩,λy c e=>?_,I.free,I.ij,λp hp=>?_,tr,by simpa using I.len⟩
 ·obtain⟨sl,e1⟩:=I.au.slot b o e n hb hx
  exact⟨sl,(m6.2 b (lt b o e)).trans e1⟩
 ·obtain⟨o',e1⟩:=I.au.there b o e hx
  exact⟨o',(m6.2 b (lt b o e)).trans e1⟩
 ·by_cases hj:j=i
  ·subst hj
   rw[FY y9]at e2;cases e2
  ·rw[P9 (iz hj)]at e2
   obtain⟨u2,r2,q⟩:=hl j y v' e1 e2 e3;refine⟨u2,r2,?_⟩;rcases q with⟨k,e⟩|⟨k,c,e,z⟩
   ·have:y≠x:=λe=>hj (CL hN e1 (e▸hi))
    exact .inl ⟨k,by simp[this,e]⟩
   ·exact .inr ⟨k,c,e,z.sameBut m6 (iU y c e)⟩
 ·obtain⟨w',z⟩:=I.cell y c e
  exact⟨w',z.sameBut m6 (iU y c e)⟩
 ·obtain⟨e,n,ne,nf,d⟩:=I.pin p hp
  exact⟨(m6.2 p.1 ne).trans e,n,ne,nf,d⟩
end
def vh(X:Cx)(st:List Stmt)(t:TS):Prop:=∀(s:ae)(O:St)(H:Hp)(D:Ends),Inv X [] O H s->t D O H->wpAny (model X.prog X.w) X.A (execs st X.env) (SP X [] D) X.xe s
def Oj(X:Cx)(st:Stmt)(t:TS):Prop:=∀(s:ae)(O:St)(H:Hp)(D:Ends),Inv X [] O H s->t D O H->wpAny (model X.prog X.w) X.A (exec st X.env) (SP X [] D) X.xe s
theorem vh.one{X:Cx}{st:Stmt}{t:TS}(h:Oj X st t):vh X [st] t:=by intro s O H D I q;refine wpAny_execs_cons (aW (h s O H D I q) λf s1 q=>?_);cases f with |next=>exact vx q |ret v=>exact q |brk=>exact q |cont=>exact q
theorem Inv.a3R{X:Cx}{ak:List (Addr×Obj)}{O:St}{H:Hp}{s:ae}(I:Inv X ak O H s):Inv X [] O H s:=⟨I.ok,I.os,I.bare,I.au,I.loc,I.cell,I.free,I.ij,λp hp=>I.pin p (FU _ (by simpa using hp)),I.aY,I.len⟩
theorem a1n{CX:iu}{P:af}{w:World}{K:aa}{mg:bf}{au:Heap}{k:Nat}{f:Addr}{name qual:Str}{params:Arguments}{body:List Stmt}{scope:Scope}{dV kV doc pm aG ct oc:Value}{an od:Option Addr} {dU:Array (Option Value)}{N ps:List Str}{sp:Sp}(lk:K.lookup f=some ⟨oc,od,.func (PySem.W.fnOf name qual params body scope dV kV doc pm an aG ct),dU⟩)(dX:PySem.W.codeIn K aG qual=true)(S:bh N ps scope) (len:∀vs H Q E,sp vs H Q E->vs.length=ps.length) (fw:∀(A:ai)(outer:List Env)(s:ae)(H:Hp)(vs:List V)(Q:VK)(E:XK),cn k (A.deeper (envOfC qual scope s.heap.objs.size f aG))->sp vs H Q E->∃t,vh (fz CX P w K mg au N qual scope f aG A outer s H E) body t/\t {nx:=λ_ H'=>Q .aZ H',rt:=Q} (start N vs) H): f7 P w K mg au CX (k+1) f (PySem.W.fnOf name qual params body scope dV kV doc pm an aG ct) ps sp:=by
 refine⟨len,λA outer s H args us vs Q E hr e0 hb r eL=>?_⟩;have hl:=len _ _ _ _ eL;have KX:K.In s.heap:=e0.mod.kh.keeps λb o e=>(e0.bs b o e).1;have lim:s.heap.NoLimit:=e0.mod.nolimit.keeps λb o e=>(e0.bs b o e).1;have kq:∀y∈ps.zip us,scope.names.lookup y.1=some .local\/(scope.names.lookup y.1=some .cell/\((cellsFrom (s.heap.objs.size+1) scope.names []).lookup y.1).isSome=true):=λ⟨n,v⟩ hy=>by
  rcases S.par n (qe hy).1 with q|q
  ·exact .inl q
  ·exact .inr ⟨q,FF _ _ _ (.inl q)⟩
 refine OI hr.depth (KX _ _ lk) Z S.co S.gen Z (OP KX dX) (hb _ _ _ _ ?_);refine OG S.kind kq λenv he s1 x=>?_;subst he;refine⟨lim.keeps x.toInCall.keep,codeAny_func ?_⟩;obtain⟨t,ht,hq⟩:=fw A outer s H vs Q E (hr.deeper _) eL;have I:Inv (fz CX P w K mg au N qual scope f aG A outer s H E) [] (start N vs) H s1:=Dr S hr.hd e0 hl r x;refine fO (ht s1 (start N vs) H _ I hq) (λfl s' hs=>?_) λe s' hs=>hs;have fin:∀{σ':St}{H':Hp}{v:V}{u:Value},Inv (fz CX P w K mg au N qual scope f aG A outer s H E) [] σ' H' s'->RelV v u->Q v H'->CE outer P w H s Q u s':=λ{σ' H' v u} J rv q=>⟨v,H',J.os,J.bare,J.au,J.aY,rv,q⟩;cases fl with |ret u=>obtain⟨v,σ',H',J,rv,q⟩:=hs;exact fin J rv q |next=>obtain⟨σ',H',J,q⟩:=hs;exact fin (v:=V.aZ) (u:=Value.none) J Z q |brk=>obtain⟨_,_,_,q⟩:=hs;exact False.elim q |cont=>obtain⟨_,_,_,q⟩:=hs;exact False.elim q
def ExcAt(ex:Addr)(cls:Value)(h:Heap):Prop:=∃o,h.get? ex=some o/\o.cls=cls
def takes(K:aa)(C D:Addr):Prop:=PySem.W.mroIn K C (.ref D)=some true
section
variable {X:Cx}{i:Nat}{n y:Str}{Dc:Addr}{EW:List Value}{newD:String}{body wG:List Stmt}{b0:Stmt}{np qZ pos:Pos}{tb:XK->TS}{th:TS}{Cs:Addr->Prop}
end
end L2
namespace L2
open PySem PySem.Spec PyProof.Rows PySem.W Builtin.Getset_descriptor
section
variable {prog:af}{w:World}{A:ai}{E:Value->ae->Prop}{h:Heap}{g:Array GenState}{d:Drawn}{t:Nat}{os:OsState}{K:Frag}{x C:Addr}{o:Obj}
theorem MI{M:Model}(h1:h.get? x=some o)(h2:o.cls= .ref C):Looks M h (typeOf (.ref x)) (.ref C):=h2▸(Looks.ld h1).andThen .now
structure iZ(K:Frag)(C:Addr):Prop where
 ga:findIn K (.ref C) "__getattribute__"=some (some (.builtin "BaseException.__getattribute__"))
 gx:findIn K (.ref C) "__getattr__"=some none
 cl:findIn K (.ref C) "__class__"=some (some (.builtin "object.__class__"))
 gt:specialIn K (.builtin "object.__class__") "__get__"=some (some (.builtin "getset_descriptor.__get__"))
 tk:takesIn K (.builtin "object.__class__")=some true
 ob:mroIn K C (.type "object")=some true
 be:mroIn K C (.type "BaseException")=some true
 is:hasDictIn K C=true
theorem Xi{M:Model}(X:K.In h)(k:iZ K C):Looks M h (Builtin.ObjectAttr.find (.ref x) (.ref C) "__class__") (.bind (.builtin "getset_descriptor.__get__") (.builtin "object.__class__")):=by have L1:=zu (M:=M) X k.cl;have L2:Looks M h (Builtin.ObjectAttr.getOf (some (.builtin "object.__class__"))) (some (.builtin "getset_descriptor.__get__")):=looks_specialIn X k.gt;have L3:=looks_takesIn (M:=M) X k.tk;unfold Builtin.ObjectAttr.find;refine L1.andThen (L2.andThen ?_);have L4:Looks M h (Builtin.ObjectAttr.dataDescriptor? (some (.builtin "object.__class__")) (some (.builtin "getset_descriptor.__get__"))) (some (.builtin "getset_descriptor.__get__",.builtin "object.__class__")):=L3.andThen .now;exact L4.andThen (Looks.tag .now)
theorem Md{M:Model}{KL:Value}{Q:Unit->ae->Prop}(X:K.In h)(k:iZ K C)(L0:Looks M h (typeOf (.ref x)) (.ref C))(hq:Q () ⟨h,g,d,t,os⟩): wpAny M A (checkBuiltinCall "BaseException.__getattribute__" ⟨[.ref x,KL],[]⟩) Q E ⟨h,g,d,t,os⟩:=by
 have hk:builtinKind "BaseException.__getattribute__"=some .slot:=by decide+kernel
 have eL:splitId "BaseException.__getattribute__"=some ("BaseException","__getattribute__"):=by decide+kernel
 have ha:=PySem.F.args_bexc_ga (.ref x) KL;have L1:=looks_mroIn (M:=M) X k.be;simp only[checkBuiltinCall,hk,eL];refine aD ?_;unfold isInstance;refine aD (L0.at (L1.at ?_))
 repeat (first|assumption|wp_step)
theorem get_cls{R:Result->ae->Prop}{tp:Value}(X:K.In h)(k:iZ K C)(L0:Looks (model prog w) h (typeOf (.ref x)) (.ref C))(hq:R (.ok (.ret (.ref C))) ⟨h,g,d,t,os⟩): codeAny (model prog w) A (.call (.builtin "getset_descriptor.__get__") ⟨[.builtin "object.__class__",.ref x,tp],[]⟩) R ⟨h,g,d,t,os⟩:=by
 have L1:=looks_mroIn (M:=model prog w) X k.ob;refine Fy KF.slot_gs.plain KF.entry_gs (KF.slot_gs.check _ _ _ _ _ _ _ _ KF.type_class (KF.args_gs _ _ _) ?_);unfold Builtin.«getset_descriptor.__get__»descrGet;rw[dga_obj];refine aD (bA ?_);unfold descrGetter descrCheckInstance descrNameAndClass isInstance;simp only[KF.owner_class];repeat lk
 refine⟨Code.quiet_builtin _ aJ,codeAny_builtin KF.entry_class ?_⟩;unfold Builtin.«object.__class__»shownTypeOf;repeat lk
 exact hq
theorem a0U{tk:Tok}{Q:Fin->ae->Prop}(X:K.In h)(k:iZ K C)(L0:Looks (model prog w) h (typeOf (.ref x)) (.ref C)) (hq:Q (.done (.ret (.ref C))) ⟨h,g,d,t,os⟩):wpAny (model prog w) A (Builtin.«object.__getattribute__» ⟨[.ref x,.str "__class__" tk],[]⟩) Q E ⟨h,g,d,t,os⟩:=by have L1:=Xi (M:=model prog w) (x:=x) X k;refine aD (bA (aD (bA (aD (L0.at (aD (L1.at ?_)))))));show wpAny _ _ (Builtin.ObjectAttr.bindTo _ _ (.ref x) (.ref C)) _ _ _;unfold Builtin.ObjectAttr.bindTo;show wpAny _ _ (holding [_] (call (.builtin "getset_descriptor.__get__") [.builtin "object.__class__",.ref x,.ref C])>>=_) _ _ _;exact aD (gO (qc (get_cls X k L0 (bA hq))))
theorem a3l{Q:Option Value->ae->Prop}(X:K.In h)(k:iZ K C)(L0:Looks (model prog w) h (typeOf (.ref x)) (.ref C)) (hq:Q (some (.ref C)) ⟨h,g,d,t+1,os⟩):wpAny (model prog w) A (getAttr? (.ref x) "__class__") Q E ⟨h,g,d,t,os⟩:=by
 have L1:=zu (M:=model prog w) X k.ga;have L2:=zu (M:=model prog w) X k.gx;have f3:=FK.ga.bind (.ref x);have Du:(Value.builtin "BaseException.__getattribute__"==Value.builtin "object.__getattribute__")=false:=by decide+kernel
 unfold getAttr? getAttrBy? getAttrBy;refine aD (wpAny_mkText (aD (zt (gO (aD (L0.at (aD (L1.at ?_))))))));show wpAny _ _ (if(onTheHeap (Value.ref C)&&Value.builtin "BaseException.__getattribute__"==Value.builtin "object.__getattribute__")=true then _ else _) _ _ _;rw[Du,vX,aV az];unfold getAttrByItsOwn hookBefore;refine aD ?_;show wpAny _ _ (typeLookup (.ref C) "__getattr__") _ _ _;refine L2.at (aD (zt (gO ?_)));unfold callGetattribute;show wpAny _ _ (boundAndCalled _ _ _) _ _ _;unfold boundAndCalled;rw[f3];refine aD (bA (qc ?_));refine Fy FK.ga.plain PySem.F.entry_bexc_ga (Md X k L0 (a0U X k L0 ?_));exact handed_on Z (bA hq)
theorem Lk(k:iZ K C):KitX K (.ref x) (.ref C) (ExcAt x (.ref C)) where
 ty:=λM h _ p=>by obtain⟨o,h1,h2⟩:=p;exact MI h1 h2
 it:=λ_ _ X _=>by
  obtain⟨cd,hc,_⟩:=any_some k.is;unfold clsIn at hc;split at hc
  ·rename_i c1 d1 cd1 sl1 ho
   intro A' Q' E' s' kk q;unfold isType loadHead;exact aD (wpAny_loadPart (kk _ _ (X _ _ ho)) (bA q))
  ·cases hc
 ne:=λh tp dd its n sl X Yg=>by
  obtain⟨cd,hc,_⟩:=any_some k.is;refine vW.mpr λq=>?_;have e:C=tp:=Value.ref.inj (dj.mp q);subst e;unfold clsIn at hc;split at hc
  ·rename_i c1 d1 cd1 sl1 ho
   cases(X _ _ ho).symm.trans Yg
  ·cases hc
 ca:=λ{prog w A E Q s} X p q=>by obtain⟨o,h1,h2⟩:=p;obtain⟨h0,g0,d0,t0,os0⟩:=s;exact a3l X k (MI h1 h2) q
end
end L2
namespace L2
open PySem PySem.Spec PyProof.Rows
def a3m:V->Option Value | .ref D=>some (.ref D) | .ty n=>some (.type n) |_=>none
theorem Gh:∀{Ds:List Addr}{us:List Value},Vals (Ds.map V.ref) us->us=Ds.map Value.ref |[],_,.nil=>rfl |n::r,_,.cons q t=>by cases(show _=Value.ref n from q);rw[Gh t];rfl
section
variable {X:Cx}
end
theorem a3J:bootBuiltins "ValueError"=some (.type "ValueError"):=by kernel_rfl
abbrev gz:List Value:=[.type "ValueError",.type "Exception",.type "BaseException",.type "object"]
abbrev gF:String:="ValueError.__new__"
theorem FA.Zy{P:af}{w:World}{K:aa}{mg:bf}{au:Heap}{x:Str}{st:Stmt}{N ps:List Str}{k:Nat}{sp:Sp}(F:FA K mg x st)(S:bh N ps (aP st))(len:∀vs H Q E,sp vs H Q E->vs.length=ps.length) (hb:∀(kV doc pm:Value)(an:Option Addr)(aG ct:Value)(us:List Value),us.length=ps.length->bindArgs (PySem.W.fnOf x x (iS st) (eO st) (aP st) .none kV doc pm an aG ct) ⟨us,[]⟩=pure (ps.zip us)) (fw:∀(f:Addr)(aG:Value)(A:ai)(outer:List Env)(s:ae)(H:Hp)(vs:List V)(Q:VK)(E:XK),cn k (A.deeper (envOfC x (aP st) s.heap.objs.size f aG))->sp vs H Q E->∃t,vh (fz fV P w K mg au N x (aP st) f aG A outer s H E) (eO st) t/\t {nx:=λ_ H'=>Q .aZ H',rt:=Q} (start N vs) H):aE P w K mg au x (k+1) sp:=by obtain⟨f,fd,hm,F⟩:=F.ex;have pk:=F.binds hb;have kp:=F.kp;obtain⟨oc,od,kV,doc,pm,an,aG,ct,dU,rfl,lk,dX⟩:=F.ex;exact⟨f,_,ps,a1n lk dX S len λA outer s H vs Q E hr eL=>fw f aG A outer s H vs Q E hr eL,hm,kp,pk⟩
end L2
namespace Ar
theorem a0T(a b:Int):Int.gcd b (a.fmod b)=Int.gcd a b:=by rw[Int.fmod_def,Int.gcd_sub_mul_left_right,Int.gcd_comm]
theorem Mc{a b:Int}(h:0<b):Int.gcd b (a%b)=Int.gcd a b:=by rw[<-Int.fmod_eq_emod_of_nonneg a (Int.le_of_lt h)];exact a0T a b
def sg(p q:Int):Int:=if q<0 then-(Int.gcd p q:Int)else(Int.gcd p q:Int)
def lowP (p q:Int):Int:=p.fdiv (sg p q)
def fg (p q:Int):Int:=q.fdiv (sg p q)
theorem yk{p q:Int}(h:q≠0):0<(Int.gcd p q:Int):=by
 have:Int.gcd p q≠0:=λz=>h (Int.gcd_eq_zero_iff.mp z).2
 lia
theorem tE{p q:Int}(h:q≠0):sg p q≠0:=by have:=yk (p:=p) h;unfold sg;split<;>omega
theorem HM(p q:Int):sg p q∣p:=by
 unfold sg;split
 ·exact Int.neg_dvd.mpr (Int.gcd_dvd_left p q)
 ·exact Int.gcd_dvd_left p q
theorem HL(p q:Int):sg p q∣q:=by
 unfold sg;split
 ·exact Int.neg_dvd.mpr (Int.gcd_dvd_right p q)
 ·exact Int.gcd_dvd_right p q
theorem D8(p q:Int):sg p q*lowP p q=p:=by unfold lowP;rw[Int.fdiv_eq_ediv_of_dvd (HM p q)];exact Int.mul_ediv_cancel' (HM p q)
theorem xI(p q:Int):sg p q*fg p q=q:=by unfold fg;rw[Int.fdiv_eq_ediv_of_dvd (HL p q)];exact Int.mul_ediv_cancel' (HL p q)
theorem HN(p q:Int):(sg p q).natAbs=Int.gcd p q:=by unfold sg;split<;>lia
theorem Xe{p q:Int}(h:q≠0):Int.gcd (lowP p q) (fg p q)=1:=by
 have e:Int.gcd (sg p q*lowP p q) (sg p q*fg p q)=(sg p q).natAbs*Int.gcd (lowP p q) (fg p q):=Int.gcd_mul_left _ _ _;rw[D8,xI,HN]at e;have g:=yk (p:=p) h;have g':0<Int.gcd p q:=by lia
 have e':Int.gcd p q*1=Int.gcd p q*Int.gcd (lowP p q) (fg p q):=by lia
 exact(Nat.eq_of_mul_eq_mul_left g' e').symm
theorem Xf{p q:Int}(h:q≠0):0<fg p q:=by
 have e:=xI p q;have g:=yk (p:=p) h;by_cases hq:q<0
 ·have es:sg p q=-(Int.gcd p q:Int):=by unfold sg;rw[aU hq]
  rw[es]at e;refine Int.not_le.mp λhl=>?_;have:0<=-(Int.gcd p q:Int)*fg p q:=Pg aw hl
  lia
 ·have es:sg p q=(Int.gcd p q:Int):=by unfold sg;rw[aV hq]
  rw[es]at e;refine Int.not_le.mp λhl=>?_;have:(Int.gcd p q:Int)*fg p q<=0:=Int.mul_nonpos_of_nonneg_of_nonpos aw hl
  lia
theorem Oa{s x y:Int}(hs:s≠0)(e:s*x=y):x.natAbs<=y.natAbs:=by rw[<-e,o8];exact Nat.le_mul_of_pos_left _ aw
theorem Xh{p q:Int}(h:q≠0):(lowP p q).natAbs<=p.natAbs:=Oa (tE h) (D8 p q)
theorem Xg{p q:Int}(h:q≠0):(fg p q).natAbs<=q.natAbs:=Oa (tE h) (xI p q)
theorem HK{p q:Int}(h:q≠0):(sg p q).natAbs<=q.natAbs:=by rw[HN];exact Nat.le_of_dvd aw (Int.gcd_dvd_natAbs_right p q)
end Ar
namespace Rt
open Rat
theorem D7{a b:Int}(hb:b≠0):Ar.lowP a b=(Rat.divInt a b).num/\Ar.fg a b=((Rat.divInt a b).den:Int):=by
 have hp:=Ar.Xf (p:=a) hb;have hc:=Ar.Xe (p:=a) hb;have Zi:(Ar.fg a b).natAbs≠0:=by lia
 have Zn:(Ar.lowP a b).natAbs.Coprime (Ar.fg a b).natAbs:=hc;have e1:Rat.divInt a b=Rat.divInt (Ar.lowP a b) (Ar.fg a b):=by have h:=Rat.divInt_mul_left (a:=Ar.sg a b) (n:=Ar.lowP a b) (d:=Ar.fg a b) (Ar.tE hb);rw[Ar.D8,Ar.xI]at h;exact h
 have e2:(⟨Ar.lowP a b,(Ar.fg a b).natAbs,Zi,Zn⟩:Rat)=Rat.divInt (Ar.lowP a b) (((Ar.fg a b).natAbs:Nat):Int):=Rat.mk_eq_divInt;have e3:(((Ar.fg a b).natAbs:Nat):Int)=Ar.fg a b:=by lia
 rw[e3]at e2;rw[e1,<-e2];exact⟨Z,e3.symm⟩
theorem den_pos(r:Rat):(0:Int)<(r.den:Int):=by have:=r.den_pos;omega
structure Bd(n:Nat)(r:Rat):Prop where
 num:r.num.natAbs<2^n
 den:r.den<2^n
theorem Bd.mono{n m:Nat}{r:Rat}(h:Bd n r)(l:n<=m):Bd m r:=⟨fk h.num (vL az l),fk h.den (vL az l)⟩
theorem uf{a b n m:Nat}(h:a<2^n)(g:b<2^m):a*b<2^(n+m):=by rw[Nat.pow_add];exact Nat.mul_lt_mul'' h g
theorem oT{n:Nat}{a b:Int}(hb:b≠0)(h1:a.natAbs<2^n)(h2:b.natAbs<2^n):Bd n (Rat.divInt a b):=by
 obtain⟨e1,e2⟩:=D7 (a:=a) hb;have l1:=Ar.Xh (p:=a) hb;have l2:=Ar.Xg (p:=a) hb;refine⟨?_,?_⟩
 ·rw[<-e1];lia
 ·lia
theorem uX(r s:Rat):(r.den:Int)*(s.den:Int)≠0:=Int.ne_of_gt (qh (den_pos r) (den_pos s))
theorem add_div(r s:Rat):r+s=Rat.divInt (r.num*s.den+s.num*r.den) (r.den*s.den):=by have h:=Rat.divInt_add_divInt r.num s.num (d₁:=r.den) (d₂:=s.den) (by have:=den_pos r;lia) (by have:=den_pos s;lia);rw[vF,vF]at h;exact h
theorem QQ(r s:Rat):r-s=Rat.divInt (r.num*s.den-s.num*r.den) (r.den*s.den):=by have h:=OJ r.num s.num (d₁:=r.den) (d₂:=s.den) (by have:=den_pos r;lia) (by have:=den_pos s;lia);rw[vF,vF]at h;exact h
section
variable {n m:Nat} {r s:Rat}
theorem a3c(h:Bd n r)(g:Bd m s):(r.num*s.den).natAbs<2^(n+m):=by rw[o8];exact uf h.num (by have:=g.den;omega)
theorem a3b(h:Bd n r)(g:Bd m s):(s.num*r.den).natAbs<2^(n+m):=by rw[o8,Nat.mul_comm];exact uf (by have:=h.den;lia) g.num
theorem Nh(h:Bd n r)(g:Bd m s):((r.den:Int)*(s.den:Int)).natAbs<2^(n+m):=by rw[o8];exact uf (by have:=h.den;lia) (by have:=g.den;lia)
theorem Bd.add(h:Bd n r)(g:Bd m s):Bd (n+m+1) (r+s):=by
 rw[add_div];have h1:=a3c h g;have h2:=a3b h g;have h3:=Nh h g;have e:2^(n+m+1)=2^(n+m)+2^(n+m):=by rw[Nat.pow_succ];omega
 exact oT (uX r s) bp bp
end
end Rt
namespace L2
open PySem PySem.Spec PyProof.Rows
def gB(H H':Hp):Prop:=∀b o,(∀xs,o≠ .lst xs)->H b=some o->H' b=some o
section
variable {K:aa} {H H' H2:Hp}
theorem gB.trans(a:gB H H')(b:gB H' H2):gB H H2:=λc o n e=>b c o n (a c o n e)
theorem gB.sQ{D:Addr}{xs ys:List V}(h:H D=some (.lst xs)):gB H (upd H D (.lst ys)):=λb o n e=>by rw[bj (nc e h (n xs))];exact e
theorem aQ.t{a:Addr}{xs:List V}(s:gB H H')(h:aQ K H a xs):aQ K H' a xs:=h.imp (λr=>r.imp (s _ _ λ_ z=>nomatch z) λ⟨o,e⟩=>⟨o,s _ _ (λ_ z=>nomatch z) e⟩) id
mutual
def eZ:ah->Bool | .list _=>false | .dict _=>false | .tuple ds=>cF ds | .none=>true | .bool _=>true | .int _=>true | .str _=>true
def cF:List ah->Bool |[]=>true |d::ds=>eZ d&&cF ds
end
theorem iL:∀{ds:List ah},cF ds=true↔∀d∈ds,eZ d=true
 |[]=>⟨λ_ _ h=>(nomatch h),λ_=>by simp[cF]⟩ |d::ds=>by
  rw[cF,dm,iL (ds:=ds)];constructor
  ·rintro⟨a,b⟩ x hx
   rcases bS.mp hx with rfl|hx
   ·exact a
   ·exact b x hx
  ·intro h
   exact⟨h d (.head _),λx hx=>h x (.tail _ hx)⟩
theorem jZ(ns:List Int):cF (ns.map PyData.int)=true:=iL.mpr λd hd=>by obtain⟨i,_,rfl⟩:=cB.mp hd;simp[eZ]
mutual
theorem RD.t(s:gB H H'):∀{x:V}(d:ah),eZ d=true->RD K H x d->RD K H' x d |x,.none,_,h=>by simpa[RD]using h |x,.bool b,_,h=>by simpa[RD]using h |x,.int i,_,h=>by simpa[RD]using h |x,.str y,_,h=>by simpa[RD]using h |x,.list ds,n,h=>by simp[eZ]at n |x,.tuple ds,n,h=>by rw[RD]at h⊢;obtain⟨a,xs,e,h1,h2⟩:=h;exact⟨a,xs,e,h1.t s,aK.t s ds (by simpa[eZ]using n) h2⟩ |x,.dict _,_,h=>by simp[RD]at h
theorem aK.t (s:gB H H'):∀{xs:List V}(ds:List ah),cF ds=true->aK K H xs ds->aK K H' xs ds |xs,[],_,h=>by simpa[aK]using h |xs,d::ds,n,h=>by rw[aK]at h⊢;rw[cF,dm]at n;obtain⟨y,ys,e,h1,h2⟩:=h;exact⟨y,ys,e,RD.t s d n.1 h1,aK.t s ds n.2 h2⟩
end
theorem aK.eK:∀{xs:List V}{ns:List Int},aK K H xs (ns.map PyData.int)->xs=ns.map V.int |xs,[],h=>h.nil_inv |xs,n::ns,h=>by obtain⟨y,ys,rfl,h1,h2⟩:=h.cons_inv;rw[h1.int_inv,aK.eK h2];rfl
theorem mU:∀(ns:List Int),aK K H (ns.map V.int) (ns.map PyData.int) |[]=>df |n::ns=>ck (ek n) (mU ns)
theorem Nz{J:It}{xs:List V}{ds:List ah}{te:TE}{Q:VK}{D:Addr}{H0:Hp}(rest:St)(nw:Nw H H0 D (.lst []))(hl:xs.length=ds.length)(hz:xs.length<=1000)(hn:cF ds=true) (go:∀i x H2,xs[i]? =some x->aA H H2->J.go i H2/\∀y H3,J.iD i H2 y H3->H3=H2/\y=x)(stop:∀H2,aA H H2->J.stop xs.length H2) (hs:∀(i:Nat)(x:V)(d:ah)(H2:Hp)(Q':VK),xs[i]? =some x->ds[i]? =some d->aA H H2->(∀y H3,aA H2 H3->RD K H3 y d->Q' y H3)->te (some x::rest) H2 Q') (hq:∀H' ys,aA H H'->H' D=some (.lst ys)->aK K H' ys ds->Q (.ref D) H'):jJ J (fT 0) j8 te Q D (none::rest) H0:=by
 have hD:=nw.no;refine rR xs.length (λi O H2=>aA H H2/\(∃ys,H2 D=some (.lst ys)/\aK K H2 ys (ds.take i))/\∃v,O=v::rest) ?_ ?_ ?_
 ·exact⟨nw.same,⟨[],nw.at',df⟩,none,Z⟩
 ·rintro i O H2 hi ⟨s2,⟨ys,d2,r2⟩,v,rfl⟩
  have yb:i<ds.length:=by rw[<-hl];exact hi
  have ex:=cC hi;have eb:=cC yb;obtain⟨g1,g2⟩:=go i _ H2 ex s2;refine⟨g1,λy H3 hy=>?_⟩;obtain⟨rfl,rfl⟩:=g2 y H3 hy;refine wk ?_;refine hs i _ _ _ _ ex eb s2 λz H4 s4 r4=>?_;have d4:=s4 _ _ d2;have len:=r2.length;rw[sH]at len;refine⟨ys,d4,?_,xs.length-(i+1),aw,Z,aw,λb o e=>?_,⟨ys++[z],bV,?_⟩,_,Z⟩
  ·have:(1000:Nat)<sizeLine:=by decide
   lia
  ·rw[bj (ft e hD)];exact s4 b o (s2 b o e)
  ·have t:gB H4 (upd H4 D (.lst (ys++[z]))):=.sQ d4
   rw[vO,eb];have n1:cF (ds.take i)=true:=iL.mpr λd hd=>iL.mp hn d (zE hd);exact(aK.t t _ n1 (aK.mono s4 _ r2)).append (ck (RD.t t _ (iL.mp hn _ (vR yb)) r4) df)
 ·rintro O H2 ⟨s2,⟨ys,d2,r2⟩,v,rfl⟩
  refine⟨stop H2 s2,hq H2 ys s2 d2 ?_⟩;rw[hl,zD]at r2;exact r2
theorem nL{a:Addr}{xs:List V}{ds:List ah}{te:TE}{Q:VK}{D:Addr}{H0:Hp}(rest:St)(hx:aQ K H a xs)(nw:Nw H H0 D (.lst []))(hl:xs.length=ds.length)(hz:xs.length<=1000)(hn:cF ds=true) (hs:∀(i:Nat)(x:V)(d:ah)(H2:Hp)(Q':VK),xs[i]? =some x->ds[i]? =some d->aA H H2->(∀y H3,aA H2 H3->RD K H3 y d->Q' y H3)->te (some x::rest) H2 Q') (hq:∀H' ys,aA H H'->H' D=some (.lst ys)->aK K H' ys ds->Q (.ref D) H'):jJ (vk K a) (fT 0) j8 te Q D (none::rest) H0:=Nz rest nw hl hz hn (λi x H2 e s=>⟨⟨xs,x,hx.go s,e⟩,λy H3 ⟨e3,y3⟩=>⟨e3,by have:=y3 _ (hx.go s);rw[e]at this;exact(cW this).symm⟩⟩) (λH2 s=>⟨xs,hx.go s,bq _⟩) hs hq
theorem vb{a:Addr}{xs:List V}{ds:List ah}{te:TE}{Q:VK}{D:Addr}{H0:Hp}(rest:St)(hx:aH K H a xs)(nw:Nw H H0 D (.lst []))(hl:xs.length=ds.length)(hz:xs.length<=1000)(hn:cF ds=true) (hs:∀(i:Nat)(x:V)(d:ah)(H2:Hp)(Q':VK),xs[i]? =some x->ds[i]? =some d->aA H H2->(∀y H3,aA H2 H3->RD K H3 y d->Q' y H3)->te (some x::rest) H2 Q') (hq:∀H' ys,aA H H'->H' D=some (.lst ys)->aK K H' ys ds->Q (.ref D) H'):jJ (sf K a) (fT 0) j8 te Q D (none::rest) H0:=Nz rest nw hl hz hn (λi x H2 e s=>⟨⟨xs,x,hx.go s,e⟩,λy H3 ⟨e3,y3⟩=>⟨e3,by have:=y3 _ (hx.go s);rw[e]at this;exact(cW this).symm⟩⟩) (λH2 s=>⟨xs,hx.go s,bq _⟩) hs hq
theorem pJ{b1 b2:Bool}{l1 l2:Addr}{xs ys:List V}{ds:List ah}{te:TE}{Q:VK}{D:Addr}{H0:Hp}{n:Nat}(rest:St)(rj:n=2)(h1:dE b1 K H l1 xs)(h2:dE b2 K H l2 ys)(nw:Nw H H0 D (.lst [])) (hl:min xs.length ys.length=ds.length)(hz:ds.length<=1000)(hn:cF ds=true) (hs:∀(i:Nat)(x y:V)(d:ah)(H2:Hp)(Q':VK),xs[i]? =some x->ys[i]? =some y->ds[i]? =some d->aA H H2->(∀z H3,aA H2 H3->RD K H3 z d->Q' z H3)->te (some x::some y::rest) H2 Q') (hq:∀H' zs,aA H H'->H' D=some (.lst zs)->aK K H' zs ds->Q (.ref D) H'):jJ (pU K b1 b2 l1 l2) (yn K n (uQ (fT 0) (uQ (fT 1) Em))) j8 te Q D (none::none::rest) H0:=by
 subst rj;have hD:=nw.no;refine rR ds.length (λi O H2=>aA H H2/\(∃zs,H2 D=some (.lst zs)/\aK K H2 zs (ds.take i))/\∃v v',O=v::v'::rest) ?_ ?_ ?_
 ·exact⟨nw.same,⟨[],nw.at',df⟩,none,none,Z⟩
 ·rintro i O H2 hi ⟨s2,⟨zs,d2,r2⟩,v,v',rfl⟩
  have hx:i<xs.length:=by lia
  have hy:i<ys.length:=by lia
  have ex:=cC hx;have ey:=cC hy;have eb:=cC hi;refine⟨⟨xs,ys,_,_,h1.go s2,h2.go s2,ex,ey⟩,λy' H3 ki=>?_⟩;obtain⟨T,x0,y0,rfl,k1,k2,n3⟩:=ki;have e1:=k1 _ (h1.go s2);have e2:=k2 _ (h2.go s2);rw[ex]at e1;rw[ey]at e2;cases e1;cases e2;refine⟨T,_,Z,aQ.of n3.at',Z,_,_,Z,_,_,Z,Z,?_⟩;refine yes (bF ?_);refine hs i _ _ _ _ _ ex ey eb (s2.trans n3.same) λz H4 s4 r4=>?_;have BF:=n3.same.trans s4;have d4:=BF _ _ d2;have len:=r2.length;rw[sH]at len;refine⟨zs,d4,?_,ds.length-(i+1),aw,Z,aw,λb o e=>?_,⟨zs++[z],bV,?_⟩,_,_,Z⟩
  ·have:(1000:Nat)<sizeLine:=by decide
   lia
  ·rw[bj (ft e hD)];exact BF b o (s2 b o e)
  ·have t:gB H4 (upd H4 D (.lst (zs++[z]))):=.sQ d4
   rw[vO,eb];have n1:cF (ds.take i)=true:=iL.mpr λd hd=>iL.mp hn d (zE hd);exact(aK.t t _ n1 (aK.mono BF _ r2)).append (ck (RD.t t _ (iL.mp hn _ (vR hi)) r4) df)
 ·rintro O H2 ⟨s2,⟨zs,d2,r2⟩,v,v',rfl⟩
  refine⟨⟨xs,ys,h1.go s2,h2.go s2,aw⟩,hq H2 zs s2 d2 ?_⟩;rw[zD]at r2;exact r2
end
theorem Lx:∀{ns:List Int}{us:List Value},Vals (ns.map V.int) us->(∀v∈us,∃a t,v=Value.int a t)/\numsOf us=ns
 |[],_,.nil=>⟨λ_ h=>(nomatch h),rfl⟩ |n::ns,_,.cons q r=>by
  obtain⟨t,rfl⟩:=(show∃t,_=Value.int n t from q);obtain⟨h1,h2⟩:=Lx r;refine⟨λv hv=>?_,?_⟩
  ·rcases bS.mp hv with rfl|hv
   ·exact⟨n,t,Z⟩
   ·exact h1 v hv
  ·show n::numsOf _=_
   rw[h2]
section
variable {X:Cx}
theorem D5(K:aa)(hK:X.K=K)(hc:X.calm=true):dI X (.builtin "max") (λxs H Q=>∃(l:Addr)(ns:List Int),xs=[.ref l]/\aH K H l (ns.map V.int)/\ns≠[]/\∀M,M∈ns->(∀a∈ns,a<=M)->Q (.int M) H):=by
 subst hK;intro ak s O H xs us Q I r h;obtain⟨l,ns,rfl,hl,cQ,q⟩:=h;obtain⟨u,rfl,ru⟩:=vals1 r;cases(show u=Value.ref l from ru);obtain⟨its,rv,pl,hz⟩:=I.list hl;obtain⟨a1,a2⟩:=Lx rv;have all:AllInts its.toArray:=λv hv=>a1 v (by simpa using hv);obtain⟨ps,LK⟩:=all.items;have e0:numsOf (intItems ps).toList=ns:=by rw[<-LK];exact a2
 rw[nums_intItems]at e0;have hlen:ps.size=ns.length:=by rw[<-e0,bD,vY]
 have qZ:0<ps.size:=by rw[hlen];exact vQ.mpr cQ
 refine max_intList (I.ok.hd hc) (by rw[<-LK];exact pl.isList) qZ λv h' tk hv hk=>?_;obtain⟨t,rfl⟩:=intItems_at hv;obtain⟨h1,h2⟩:=argBest_gt (numAt ps) (ps.size-1);refine⟨.int _,H,I.kept hk,⟨_,Z⟩,q _ ?_ λa ha=>?_⟩
 ·rw[numAt_eq,e0];exact getD_mem bp
 ·obtain⟨j,hj,rfl⟩:=mem_getD ha
  rw[<-e0,<-numAt_eq];exact h2 j bp
theorem Lz{ns:List Int}{us:List Value}(r:Vals (ns.map V.int) us){i:Nat}{v:Value}(h:us[i]? =some v):∃n t,ns[i]? =some n/\v=Value.int n t:=by
 have hl:=r.length;rw[bD]at hl;have hi:i<ns.length:=by rw[hl];exact(dQ.mp h).1
 obtain⟨u,e,ru⟩:=r.get (i:=i) (x:=.int ns[i]) (by rw[bJ,cC hi];rfl);rw[h]at e;cases e;obtain⟨t,rfl⟩:=(show∃t,v=Value.int ns[i] t from ru);exact⟨_,t,cC hi,Z⟩
theorem SM(ns:List Int):((List.range ns.length).any λi=>((ns.map (· !=0))[i]?).getD false)=ns.any (· !=0):=by have:=LSm.range_any (ns.map (· !=0));rw[bD]at this;rw[this,List.any_map];rfl
theorem O7(K:aa)(hK:X.K=K)(hc:X.calm=true):dI X (.builtin "any") (λxs H Q=>∃(l:Addr)(ns:List Int),xs=[.ref l]/\(aH K H l (ns.map V.int)\/aQ K H l (ns.map V.int))/\Q (.bl (ns.any (· !=0))) H):=by
 subst hK;intro ak s O H xs us Q I r h;obtain⟨l,ns,rfl,hl,q⟩:=h;obtain⟨u,rfl,ru⟩:=vals1 r;cases(show u=Value.ref l from ru);have hh:=I.ok.hd hc;have fin:∀(its:List Value),Vals (ns.map V.int) its->((List.range its.toArray.size).any λi=>((ns.map (· !=0))[i]?).getD false)=ns.any (· !=0):=λits rv=>by rw[dG,<-rv.length,bD];exact SM ns
 rcases hl with hl|hl
 ·obtain⟨its,rv,pl,hz⟩:=I.list hl
  have ie:=pl.isList;have bZ:l<s.heap.objs.size:=by obtain⟨_,e,_⟩:=ie;exact bN e
  refine call_any_walk (vt ie ?_);refine⟨s.heap.objs.size,[s.heap.objs.size,l],[s.heap.objs.size],its.toArray.size,_,_,λi=>((ns.map (· !=0))[i]?).getD false,Z,Walks.list (A:=X.A.in1) hh _ l (dw bZ) its.toArray,⟨⟨_,cS _ Z,Z,Z⟩,ie.push _⟩,λi v s' Q' E' hP hQ=>?_,λh' tk hk=>?_⟩
  ·obtain⟨n,t,e,rfl⟩:=Lz rv (i:=i) (v:=v) (by simpa using hP)
   simp only[bJ,e]at hQ;exact truthy_int hQ
  ·rw[fin its rv]
   exact⟨.bl _,H,I.kept (LSm.kept_iter hk),Z,q⟩
 ·obtain⟨its,rv,pl,hz⟩:=I.tuple hl
  have ie:s.heap.IsTuple l its.toArray:=by obtain⟨⟨cls,dd,data,sl⟩,ho,gy,n,hd⟩:=pl;exact⟨_,ho,gy,by simpa using⟨n,hd⟩⟩
  have bZ:l<s.heap.objs.size:=by obtain⟨_,e,_⟩:=ie;exact bN e
  refine call_any_walk (wpAny_pyIter_tuple ie ?_);refine⟨s.heap.objs.size,[s.heap.objs.size,l],[s.heap.objs.size],its.toArray.size,_,_,λi=>((ns.map (· !=0))[i]?).getD false,Z,Walks.tuple (A:=X.A.in1) hh _ l (dw bZ) its.toArray,⟨⟨_,cS _ Z,Z,Z⟩,ie.push _⟩,λi v s' Q' E' hP hQ=>?_,λh' tk hk=>?_⟩
  ·obtain⟨n,t,e,rfl⟩:=Lz rv (i:=i) (v:=v) (by simpa using hP)
   simp only[bJ,e]at hQ;exact truthy_int hQ
  ·rw[fin its rv]
   exact⟨.bl _,H,I.kept (LSm.kept_iter hk),Z,q⟩
end
end L2
set_option maxHeartbeats 1000000
namespace Lw
open PySem PySem.Spec PyProof.Rows L2
def Om(c m:Int):Prop:=0<=c/\0<=m/\m<2147483648
def fN(H:Hp)(p:Addr):Prop:=∃c m,H p=some (.lst [.int c,.int m])/\Om c m
structure bG(p:Addr)(H H':Hp):Prop where
 bI:fN H' p
 same:∀b o,b≠p->H b=some o->H' b=some o
theorem bG.refl{p:Addr}{H:Hp}(h:fN H p):bG p H H:=⟨h,λ_ _ _ e=>e⟩
theorem bG.trans{p:Addr}{H H1 H2:Hp}(a:bG p H H1)(b:bG p H1 H2):bG p H H2:=⟨b.bI,λc o n e=>b.same c o n (a.same c o n e)⟩
theorem bG.upd{p:Addr}{H:Hp}{c m:Int}(h:Om c m):bG p H (L2.upd H p (.lst [.int c,.int m])):=⟨⟨c,m,bV,h⟩,λb o n e=>by rw[bj n];exact e⟩
theorem bG.eU{p:Addr}{H H':Hp}(h:fN H p)(s:aA H H'):bG p H H':=by obtain⟨c,m,e,ok⟩:=h;exact⟨⟨c,m,s _ _ e,ok⟩,λb o _ e=>s b o e⟩
theorem Ge{j:Int}(h0:0<=j)(h:j<=10^40):Wd j:=by
 have:j.natAbs<=10^40:=by lia
 exact FQ this aJ
theorem fN.ne{H:Hp}{p:Addr}(h:fN H p):H p≠none:=by obtain⟨c,m,e,_⟩:=h;rw[e];exact λz=>nomatch z
theorem fN.Wj{H:Hp}{p:Addr}{q:Addr}{o:HO}(h:fN H p)(e:H q=some o)(n:∀xs,o≠ .lst xs):q≠p:=by obtain⟨c,m,e',_⟩:=h;exact nc e e' (n _)
theorem bG.t{p:Addr}{H H':Hp}(bg:fN H p)(b:bG p H H'):gB H H':=λc o n e=>b.same c o (bg.Wj e n) e
theorem bG.RW{p:Addr}{H0 H H':Hp}(s:aA H0 H)(hp:H0 p=none)(b:bG p H H'):aA H0 H':=λc o e=>b.same c o (ft e hp) (s c o e)
section
variable {K:aa}
theorem ER{J:It}{te:TE}{Q:VK}{D p:Addr}{H H0:Hp}(n:Nat)(rest:L2.St)(nw:Nw H H0 D (.lst []))(bg:fN H p)(hn:n<=1000)(xv:Nat->V) (go:∀i H2,i<n->bG p H H2->J.go i H2/\∀y H3,J.iD i H2 y H3->H3=H2/\y=xv i)(stop:∀H2,bG p H H2->J.stop n H2)(Pz:Int->Prop) (hs:∀i H2 (Q':VK),i<n->bG p H H2->(∀z H3,Pz z->bG p H2 H3->Q' (.int z) H3)->te (some (xv i)::rest) H2 Q') (hq:∀H' (is:List Int),bG p H H'->H' D=some (.lst (is.map V.int))->is.length=n->(∀z∈is,Pz z)->Q (.ref D) H'):jJ J (fT 0) j8 te Q D (none::rest) H0:=by
 have uP:D≠p:=λe=>bg.ne (e▸nw.no);refine rR n (λi O H3=>bG p H H3/\(∃is:List Int,H3 D=some (.lst (is.map V.int))/\is.length=i/\∀z∈is,Pz z)/\∃v,O=v::rest) ?_ ?_ ?_
 ·exact⟨.eU bg nw.same,⟨[],nw.at',Z,λ_ h=>(eR h).elim⟩,none,Z⟩
 ·rintro i O H3 hi ⟨b3,⟨is,d3,li,pi⟩,v,rfl⟩
  obtain⟨g1,g2⟩:=go i H3 hi b3;refine⟨g1,λy H4 hy=>?_⟩;obtain⟨rfl,rfl⟩:=g2 y H4 hy;refine wk ?_;refine hs i _ _ hi b3 λz H5 pz b5=>?_;refine⟨_,b5.same _ _ uP d3,?_,n-(i+1),aw,Z,aw,?_,⟨is++[z],?_,?_,?_⟩,_,Z⟩
  ·rw[bD,li]
   have:(1000:Nat)<sizeLine:=by decide
   lia
  ·have vc:=b3.trans b5
   refine⟨?_,λb o n e=>?_⟩
   ·obtain⟨c,m,e,ok⟩:=vc.bI
    exact⟨c,m,by rw[bj uP.symm];exact e,ok⟩
   ·rw[bj (ft e nw.no)];exact vc.same b o n e
  ·rw[bV,lF];rfl
  ·rw[iC,li];rfl
  ·intro y hy
   rcases jN.mp hy with h|h
   ·exact pi y h
   ·rw[e9.mp h];exact pz
 ·rintro O H3 ⟨b3,⟨is,d3,li,pi⟩,v,rfl⟩
  exact⟨stop H3 b3,hq H3 is b3 d3 li pi⟩
theorem Ly(ns:List Int){i:Int}(h0:0<=i)(h:i<ns.length):∃z,z∈ns/\dY (ns.map V.int) i=some (.int z):=by
 have hl:i.toNat<ns.length:=by omega
 exact⟨ns[i.toNat],vR hl,cM h0 (by rw[bJ,cC hl];rfl)⟩
theorem Ny{J:It}{te:TE}{Q:VK}{D p:Addr}{H H0:Hp}(n:Nat)(rest:L2.St)(nw:Nw H H0 D (.lst []))(bg:fN H p)(hn:n<=1000)(xv:Nat->V) (go:∀i H2,i<n->bG p H H2->J.go i H2/\∀y H3,J.iD i H2 y H3->H3=H2/\y=xv i)(stop:∀H2,bG p H H2->J.stop n H2)(Pd:Nat->ah->Prop) (hs:∀i H2 (Q':VK),i<n->bG p H H2->(∀y d H3,Pd i d->eZ d=true->RD K H3 y d->bG p H2 H3->Q' y H3)->te (some (xv i)::rest) H2 Q') (hq:∀H' ys ds,bG p H H'->H' D=some (.lst ys)->aK K H' ys ds->ds.length=n->cF ds=true->(∀i d,ds[i]? =some d->Pd i d)->Q (.ref D) H'):jJ J (fT 0) j8 te Q D (none::rest) H0:=by
  have uP:D≠p:=λe=>bg.ne (e▸nw.no);refine rR n (λi O H3=>bG p H H3/\(∃ys ds,H3 D=some (.lst ys)/\aK K H3 ys ds/\ds.length=i/\cF ds=true/\∀j d,ds[j]? =some d->Pd j d)/\∃v,O=v::rest) ?_ ?_ ?_
  ·exact⟨.eU bg nw.same,⟨[],[],nw.at',df,Z,Z,λj d e=>by simp at e⟩,none,Z⟩
  · rintro i O H3 hi ⟨b3,⟨ys,ds,d3,r3,li,ni,pi⟩,v,rfl⟩
    obtain⟨g1,g2⟩:=go i H3 hi b3;refine⟨g1,λy H4 hy=>?_⟩;obtain⟨rfl,rfl⟩:=g2 y H4 hy;refine wk ?_;refine hs i _ _ hi b3 λz d H5 pz nz rz b5=>?_;have d5:=b5.same _ _ uP d3;have t:gB H5 (L2.upd H5 D (.lst (ys++[z]))):=.sQ d5;refine⟨ys,d5,?_,n-(i+1),aw,Z,aw,?_,⟨ys++[z],ds++[d],bV,?_,?_,?_,?_⟩,_,Z⟩
    · rw[r3.length,li]
      have:(1000:Nat)<sizeLine:=by decide
      lia
    · have vc:=b3.trans b5
      refine⟨?_,λb o n e=>?_⟩
      · obtain⟨c,m,e,ok⟩:=vc.bI
        exact⟨c,m,by rw[bj uP.symm];exact e,ok⟩
      ·rw[bj (ft e nw.no)];exact vc.same b o n e
    ·exact(aK.t ((bG.t b3.bI b5).trans t) _ ni r3).append (ck (RD.t t _ nz rz) df)
    ·rw[iC,li];rfl
    ·exact iL.mpr λx hx=>by
        rcases jN.mp hx with h|h
        ·exact iL.mp ni x h
        ·rw[e9.mp h];exact nz
    · intro j e he
      by_cases hj:j<ds.length
      · rw[vS hj]at he
        exact pi j e he
      · have ph:j=ds.length:=by
          have:=(dQ.mp he).1;rw[iC]at this;have:j<ds.length+1:=this
          lia
        subst ph;rw[zH (bq _),Nat.sub_self]at he;cases he;rw[li];exact pz
  · rintro O H3 ⟨b3,⟨ys,ds,d3,r3,li,ni,pi⟩,v,rfl⟩
    exact⟨stop H3 b3,hq H3 ys ds b3 d3 r3 li ni pi⟩
end
end Lw
namespace Ln
open PySem L2
def jH(i:Int):Int:=if i<0 then-i else i
theorem Fc(i:Int):jH i=(i.natAbs:Int):=by unfold jH;split<;>lia
def aM(ns:List Int):Nat:=ns.foldr (λz m=>max z.natAbs m) 0
theorem Di:∀{ns:List Int}{z:Int},z∈ns->z.natAbs<=aM ns
 |n::ns,z,h=>by
  show z.natAbs<=max n.natAbs (aM ns);rcases bS.mp h with rfl|h
  ·exact Nat.le_max_left _ _
  ·exact f9 (Di h) (Nat.le_max_right _ _)
theorem Dh:∀{ns:List Int},ns≠[]->∃z∈ns,z.natAbs=aM ns
 |[],h=>absurd Z h |[n],_=>⟨n,.head _,by show n.natAbs=max n.natAbs 0;lia⟩ |n::m::ns,_=>by
  obtain⟨z,hz,e⟩:=Dh (ns:=m::ns) (by simp);by_cases h:n.natAbs<=aM (m::ns)
  ·exact⟨z,.tail _ hz,by show _=max n.natAbs (aM (m::ns));lia⟩
  ·exact⟨n,.head _,by show _=max n.natAbs (aM (m::ns));lia⟩
theorem kX{ns:List Int}{m:Nat}(h:∀z∈ns,z.natAbs<=m):aM ns<=m:=by cases ns with |nil=>exact eQ _ |cons a r=>obtain⟨z,hz,e⟩:=Dh (ns:=a::r) (by simp);rw[<-e];exact h z hz
theorem Xr{ns:List Int}(h:∃z∈ns,z≠0):0<aM ns:=by
 obtain⟨z,hz,h0⟩:=h;have:=Di hz
 lia
theorem Dg{ns:List Int}(cQ:ns≠[]){M:Int}(h1:M∈ns.map jH)(h2:∀a∈ns.map jH,a<=M):M=(aM ns:Int):=by
 obtain⟨z,hz,e⟩:=cB.mp h1;obtain⟨y,hy,ey⟩:=Dh cQ;have a1:=Di hz;have a2:=h2 (jH y) (cB.mpr ⟨y,hy,Z⟩);rw[Fc]at e a2
 lia
def wR(p q:Int):Int:=(2*(p.natAbs:Int)+q)/(2*q)
def ub(p q:Int):Int:=if p>=0 then wR p q else-wR p q
end Ln
namespace L2
open PySem PySem.Spec PyProof.Rows
abbrev yF(b:Bool)(h:Heap)(l:Addr):Heap:=h.push {cls:=.type (nM b),data:=.fields #[.ref l,.int 0 0]}
abbrev EG(b:Bool)(h:Heap)(l:Addr):Heap:=(yF b h l).push {cls:=.type "enumerate",data:=.fields #[.none,.bool false,.ref h.objs.size,rawInt 0,.none,.none]}
theorem a2T(b:Bool)(l:Addr)(xs:Array Value):Meets (Builtin.«enumerate.__new__» ⟨[.type "enumerate",.ref l],[]⟩) (λ_ R s=>fA b s.heap l xs/\R (.ok (.ret (.ref (yF b s.heap l).objs.size))) {s with heap:=EG b s.heap l}):=.of_wp λprog w A R s h=>by
 obtain⟨hp,gg,d,tk,os⟩:=s;obtain⟨hl,h⟩:=h;have DA:=sub_enumerate;have hL:fA b (Shared.heap ⟨hp,gg,d,tk,os⟩) l xs:=hl
 wp_walk using qN hL;refine wpAny_stack_any λst=>bA ?_;split
 ·rename_i c _ _ _ _ _
  cases(c==Value.type "enumerate")
  ·wp_walk using qN hL
   exact⟨_,Z,h⟩
  ·wp_walk using qN hL
   exact⟨_,Z,h⟩
 ·wp_walk using qN hL
  exact⟨_,Z,h⟩
section
variable {prog:af}{w:World}{A:ai}{E:Value->ae->Prop}{s:ae}
theorem a2U{b:Bool}{l:Addr}{xs:Array Value}{Q:Value->ae->Prop}(hl:fA b s.heap l xs) (q:∀g,IsEnum g (s.heap.objs.size+1) s.heap.objs.size 0 .none->iq b g s.heap.objs.size l 0->(∀c o,s.heap.get? c=some o->g.get? c=some o)->Q (.ref (s.heap.objs.size+1)) {s with heap:=g}): wpAny (model prog w) A (call (.type "enumerate") [.ref l]) Q E s:=by refine callType_new PySem.F.called_enumerate az (PySem.F.typeCall_enumerate_1 _) (PySem.F.newCall_enumerate_1 _) (λobj=>PySem.F.args_object_init_2 obj _) PySem.F.entry_enumerate_new (a2T b l xs) ⟨hl,?_⟩;have z1:(yF b s.heap l).objs.size=s.heap.objs.size+1:=mM ..;have g2:(EG b s.heap l).get? (yF b s.heap l).objs.size=some _:=cS _ rfl;have g1:(EG b s.heap l).get? s.heap.objs.size=some _:=bQ _ (cS _ Z);show _/\_;rw[z1]at g2⊢;refine⟨⟨_,g2,Z⟩,q _ g2 ?_ λc o e=>bQ _ (bQ _ e)⟩;cases b<;>exact⟨_,g1,rfl,rfl⟩
theorem MY{b:Bool}{it l:Addr}{xs:Array Value}(hh:A.handled=none)(ne:l≠it):Draws prog w A it [it,l] xs.size (λi x=>xs[i]? =some x) (λi h=>iq b h it l i/\fA b h l xs) where
 live:=λi h st=>by obtain⟨o,e,_⟩:=st.1.ob;exact⟨o,e⟩
 frame:=λi h h' st k=>⟨st.1.to λo e=>k it (by simp) o e,st.2.to λo e=>k l (by simp) o e⟩
 item:=λi s Q E hi st hQ=>xu st.1 st.2 (x:=xs[i]) (by simp[hi]) λg gi sb=>hQ _ g s.toks (by simp[hi]) ⟨gi,st.2.to λo e=>sb.extBut _ _ ne e⟩ sb
 done:=λs Q E st hE=>EF hh st.1 st.2 (by simp) λg e a b=>hE g e a b
end
def vm(K:aa)(b:Bool)(l:Addr):It:=⟨λi H=>∃xs x,dE b K H l xs/\xs[i]? =some x,λi H v H'=>∃T x,v= .ref T/\(∀xs,dE b K H l xs->xs[i]? =some x)/\Nw H H' T (.tup [.int i,x]),λi H=>∃xs,dE b K H l xs/\xs.length=i⟩
theorem Q7{P:af}{w:World}{K:aa}{elts:List Expr}{kt:Nat}{pos:Pos}{b:Bool}{e it l:Addr}(D:e≠it): Turn P w K (.Tuple elts kt pos) (vm K b l) [e,it] e (λi h=>(∃old,IsEnum h e it i old)/\iq b h it l i) where
 mem:=by simp
 obj:=λi h st c hc=>by
  obtain⟨⟨old,he⟩,h1⟩:=st;simp only[bS,eR,jK]at hc;rcases hc with rfl|rfl
  ·exact⟨_,he,λv e=>by cases e⟩
  ·obtain⟨o,e,_,n⟩:=h1.ob;exact⟨o,e,n⟩
 keep:=λi h h' st k=>by obtain⟨⟨old,he⟩,h1⟩:=st;exact⟨⟨old,k e (by simp) _ he⟩,h1.to λo q=>k it (by simp) o q⟩
 item:=by
  intro X hP hw hK hc i ak s O H E I hf st hg;subst hP hw hK;obtain⟨xs,x,q1,e1⟩:=hg;obtain⟨its,r1,p1⟩:=q1.get I;obtain⟨u1,Dy,lM⟩:=r1.get e1;obtain⟨⟨old,he⟩,h1⟩:=st;obtain⟨oi,ib,ci,_⟩:=h1.ob;have Dk:∃o,s.heap.get? l=some o/\(o.cls= .type "list"\/o.cls= .type "tuple"):=by cases b<;>(obtain⟨o,ho,cc,_⟩:=p1;first|exact⟨o,ho,.inl cc⟩|exact⟨o,ho,.inr cc⟩)
  obtain⟨ol,m7,cl⟩:=Dk;have Wi:e≠l:=λz=>by subst z;rw[he]at m7;cases m7;rcases cl with h|h<;>simp at h
  have nil:l≠it:=λz=>by subst z;rw[ib]at m7;cases m7;rw[ci]at cl;cases b<;>(rcases cl with h|h<;>simp[nM]at h)
  have bZ:i<its.toArray.size:=by rw[dG,<-r1.length];exact(dQ.mp e1).1
  refine wpAny_pyNext_enum_itemD (MY (I.ok.hd hc) nil) he ⟨h1,p1⟩ bZ D (by simp[D,Wi]) λy h' tk hPy ho fh hT hsz kp=>⟨_,Z,?_⟩;have ey:y=u1:=by
   have a1:its.toArray[i]? =some y:=hPy;have a2:its.toArray[i]? =some u1:=by simpa using Dy
   rw[a1]at a2;exact cW a2
  subst ey;refine wpAny_letOwnedTupleGo_enum ho λg' Ze sb=>?_;have hs:=sb.extBut;have elt:e<s.heap.objs.size:=bN he;have XZ:it<s.heap.objs.size:=bN ib;have nw:Nw H (upd H s.heap.objs.size (.tup [.int i,x])) s.heap.objs.size (.tup [.int i,x]):=.of (I.aY.fresh (bq _));have I1:Inv X ak O (upd H s.heap.objs.size (.tup [.int i,x])) {s with heap:=s.heap.push {cls:=.type "tuple",data:=.seq #[.int i tk,y]},toks:=tk+1}:=I.laid (t':=tk+1) (λb ob q=>bQ _ q) (bq _) ⟨by show 2<=sizeLine;decide,[.int i tk,y],.cons ⟨tk,Z⟩ (.cons lM .nil),⟨_,cS _ Z,Z,_,Z⟩⟩;have D6:∀c∈[e,it],c<s.heap.objs.size:=λc hc=>by
   simp only[bS,eR,jK]at hc;rcases hc with rfl|rfl
   ·exact elt
   ·exact XZ
  have hn:∀c∈[e,it],upd H s.heap.objs.size (.tup [.int i,x]) c=none:=λc hc=>by rw[bj (dw (D6 c hc))];exact(hf c hc).1
  have I2:Inv X ak O (upd H s.heap.objs.size (.tup [.int i,x])) {s with heap:=g',toks:=tk+1}:=Inv.sT (s:={s with heap:=s.heap.push {cls:=.type "tuple",data:=.seq #[.int i tk,y]},toks:=tk+1}) (t':=tk+1) (fp:=[e,it]) I1 (λc o hc q=>by
   have q:(s.heap.push {cls:=.type "tuple",data:=.seq #[.int i tk,y]}).get? c=some o:=q;have nz:c≠e:=λz=>hc (by simp[z]);rcases Pj q with⟨DZ,rfl⟩|q'
   ·subst DZ
    exact hs _ _ nz hT
   ·exact hs _ _ nz (kp c o nz (λz=>hc (by simp[z])) q')) (λc hc=>by obtain⟨f0,f1,f2,f3,f4,f5⟩:=hf c hc;exact⟨hn c hc,f1,f2,f3,f4,f5⟩);refine⟨.ref s.heap.objs.size,_,I2,Z,⟨s.heap.objs.size,x,Z,λzs hz=>?_,nw⟩,⟨⟨_,by simpa using Ze⟩,fh.1.to λo q=>hs _ o (iz D) q⟩,hn⟩;rw[dE.inj I hz q1];exact e1
 done:=by
  intro X hP hw hK hc i ak s O H E I hf st hg;subst hP hw hK;obtain⟨xs,q1,uH⟩:=hg;obtain⟨its,r1,p1⟩:=q1.get I;obtain⟨⟨old,he⟩,h1⟩:=st;obtain⟨oi,ib,ci,_⟩:=h1.ob;have Dk:∃o,s.heap.get? l=some o/\(o.cls= .type "list"\/o.cls= .type "tuple"):=by cases b<;>(obtain⟨o,ho,cc,_⟩:=p1;first|exact⟨o,ho,.inl cc⟩|exact⟨o,ho,.inr cc⟩)
  obtain⟨ol,m7,cl⟩:=Dk;have nil:l≠it:=λz=>by subst z;rw[ib]at m7;cases m7;rw[ci]at cl;cases b<;>(rcases cl with h|h<;>simp[nM]at h)
  have hi:i=its.toArray.size:=by rw[dG,<-r1.length];exact uH.symm
  subst hi;refine wpAny_pyNext_enum_endD (MY (I.ok.hd hc) nil) he ⟨h1,p1⟩ λh' kp=>⟨Z,?_⟩;exact I.sT (t':=s.toks) (fp:=[e,it]) (λc o hc q=>kp c o (λz=>hc (by simp[z])) q) hf
 self:=λ_ _ _ _ _ st h=>by obtain⟨⟨old,he⟩,_⟩:=st;exact wpAny_pyIter_enum he h
inductive a6k(K:aa)(b:Bool)(R:It->Hp->Prop)(vs:List V)(H1:Hp):Prop |mk (l:_)(h0:vs=[.ref l])(h1:(∃xs,dE b K H1 l xs))(h2:R (vm K b l) H1)
def Y6(K:aa)(b:Bool)(ta:TA):TI:=λO H R=>ta O H λvs H1=>a6k K b R vs H1
theorem TH(K:aa){X:Cx}(hK:X.K=K)(b:Bool){elts:List Expr}{kt:Nat}{og:Pos}{a:Expr}{ta:TA}{p pos:Pos}(hg:Gl X "enumerate")(hm:X.mg "enumerate"=none)(ha:PA X [a] ta)(hs:starEach [a] X.env=[(false,eval a X.env)]:=by rfl)(gv:starEach [] X.env=[]:=by rfl): PI X (.Tuple elts kt og) (.Call (.Name "enumerate" p) [a] [] pos) (Y6 K b ta):=by
 subst hK;intro ak s O H R I h;refine Call_ (m3 I hg hm PyProof.Rows.boot_enumerate (sE (aW (ha pos ak s O H _ I h) λus s1 ⟨vs,H1,I1,r1,q1⟩=>?_) (by rw[hs,gv]) (by rw[gv];rfl)));obtain⟨l,e,⟨xs,h1⟩,q⟩:=q1;subst e;obtain⟨u1,rfl,lM⟩:=vals1 r1;cases(show u1=Value.ref l from lM);obtain⟨Dn,v1,p1⟩:=h1.get I1;refine a2U p1 λg zg ig kp=>wpAny_pyIter_enum zg ?_;refine⟨_,_,_,_,H1,Z,I1.kept (t':=s1.toks) kp,Q7 (vM (P4 _)),⟨⟨_,zg⟩,ig⟩,λc hc=>?_,q⟩;have hle:s1.heap.objs.size<=c:=by simp only[bS,eR,jK]at hc;rcases hc with rfl|rfl<;>first|exact bq _|exact Nat.le_add_right _ _
 exact I1.mi hle (I1.aY.fresh hle)
theorem a1k{K:aa}{b:Bool}{a:Addr}{xs:List V}{g:TG}{tb:TS}{D:Ends}{O:St}{H:Hp}(Pv:Nat->St->Hp->Prop)(h0:Pv 0 O H)(hl:∀i O H,i<=xs.length->Pv i O H->dE b K H a xs) (hs:∀i x O H,xs[i]? =some x->Pv i O H->∀T H',Nw H H' T (.tup [.int i,x])->g (.ref T) O H' λσ2 H2=>tb {D with nx:=Pv (i+1),ct:=Pv (i+1),bk:=D.nx} σ2 H2)(hd:∀O H,Pv xs.length O H->D.nx O H): ∃W:Nat->Nat->St->Hp->Prop,(∃m,W 0 m O H)/\∀i m O H,W i m O H->((vm K b a).stop i H/\D.nx O H)\/((vm K b a).go i H/\∃N:St->Hp->Prop,(∀σ' H',N σ' H'->∃m',m'<m/\W (i+1) m' σ' H')/\∀x H',(vm K b a).iD i H x H'->g x O H' λσ2 H2=>tb {D with nx:=N,ct:=N,bk:=D.nx} σ2 H2):=by
 refine⟨λi m O H=>m=xs.length-i/\i<=xs.length/\Pv i O H,⟨xs.length,by simp,eQ _,h0⟩,?_⟩;rintro i m O H ⟨rfl,hi,p⟩;have q:=hl i O H hi p;by_cases bZ:i<xs.length
 ·refine .inr ⟨⟨xs,xs[i],q,by simp[bZ]⟩,Pv (i+1),λσ' H' p'=>⟨xs.length-(i+1),aw,Z,bZ,p'⟩,λx H' y=>?_⟩
  obtain⟨T,z,rfl,ez,nw⟩:=y;exact hs i z O H (ez xs q) p T H' nw
 ·have e:i=xs.length:=by lia
  subst e;exact .inl ⟨⟨xs,q,Z⟩,hd O H p⟩
theorem a1i{K:aa}{b1 b2:Bool}{a1 a2:Addr}{xs ys:List V}{g:TG}{tb:TS}{D:Ends}{O:St}{H:Hp}(n:Nat)(hn:n=min xs.length ys.length)(Pv:Nat->St->Hp->Prop)(h0:Pv 0 O H)(hl:∀i O H,i<=n->Pv i O H->dE b1 K H a1 xs/\dE b2 K H a2 ys) (hs:∀i x y O H,xs[i]? =some x->ys[i]? =some y->Pv i O H->∀T H',Nw H H' T (.tup [x,y])->g (.ref T) O H' λσ2 H2=>tb {D with nx:=Pv (i+1),ct:=Pv (i+1),bk:=D.nx} σ2 H2)(hd:∀O H,Pv n O H->D.nx O H): ∃W:Nat->Nat->St->Hp->Prop,(∃m,W 0 m O H)/\∀i m O H,W i m O H->((pU K b1 b2 a1 a2).stop i H/\D.nx O H)\/((pU K b1 b2 a1 a2).go i H/\∃N:St->Hp->Prop,(∀σ' H',N σ' H'->∃m',m'<m/\W (i+1) m' σ' H')/\∀x H',(pU K b1 b2 a1 a2).iD i H x H'->g x O H' λσ2 H2=>tb {D with nx:=N,ct:=N,bk:=D.nx} σ2 H2):=by
 refine⟨λi m O H=>m=n-i/\i<=n/\Pv i O H,⟨n,by simp,eQ _,h0⟩,?_⟩;rintro i m O H ⟨rfl,hi,p⟩;obtain⟨q1,q2⟩:=hl i O H hi p;by_cases bZ:i<n
 ·have l1:i<xs.length:=by lia
  have l2:i<ys.length:=by lia
  refine .inr ⟨⟨xs,ys,xs[i],ys[i],q1,q2,by simp[l1],by simp[l2]⟩,Pv (i+1),λσ' H' p'=>⟨n-(i+1),aw,Z,bZ,p'⟩,λx H' y=>?_⟩;obtain⟨T,z1,z2,rfl,e1,e2,nw⟩:=y;exact hs i z1 z2 O H (e1 xs q1) (e2 ys q2) p T H' nw
 ·have e:i=n:=by lia
  subst e;exact .inl ⟨⟨xs,ys,q1,q2,aw⟩,hd O H p⟩
section
variable {X:Cx}
end
set_option maxHeartbeats 1000000 in
theorem Cc{X:Cx}{N:List Str}{js:List (Option Nat)}{elt tg iter:Expr}{ifs:List Expr}{scope:Scope}{pos:Pos}{wi:TI}{g:TG}{tt:TT}{te:TE}{i0:Nat}{x0:Str}{qt GS:Pos}(hNd:X.N.Nodup)(LS:X.N[i0]? =some x0)(xU:Loc X.env.scope x0)(hc:X.calm=true)(hN:yS X N js scope=true)(hS:rS X scope=true) (hi:PI X tg iter wi)(hg:∀cl s H fp ak,PG (eF X N scope cl s H fp ak) tg g)(ht:∀cl s H fp ak,Fj (eF X N scope cl s H fp ak) ifs tt)(he:∀cl s H fp ak,PE (eF X N scope cl s H fp ak) elt te) (Yi:swapsWith (.ListComp elt [⟨tg,iter,ifs,0⟩] scope pos) (some (.Name x0 qt)) GS.line X.env=pure true:=by rfl)(Zd:X.fn x0=true\/X.env.scope.names.lookup x0=some .local:=by first|exact .inl rfl|exact .inr rfl) (hs:∀x,foldedSetIterable iter X.env x=pure x:=by intro _;rfl):PS X (.Assign [.Name x0 qt] (.ListComp elt [⟨tg,iter,ifs,0⟩] scope pos) GS) (wF (GI js wi g tt te) (fT i0)):=by
 intro ak s O H D0 I h;have pB:=hS;unfold rS at pB;rw[dm,dm]at pB;obtain⟨⟨k1,k2⟩,k3⟩:=pB;have kq:scope.kind= .function:=dj.mp k1;have rn:∀x∈scope.names,x.2= .free->∃c,X.env.cells.lookup x.1=some c:=λx hx e=>by have:=fb.mp k3 x hx;rw[e]at this;exact I.ok.has x.1 (.inl (dj.mp this))
 have nA:∀x∈scope.names,x.2≠ .cell:=λx hx e=>by have:=fb.mp k3 x hx;rw[e]at this;exact de this
 have DM:∀x∈scope.names,x.2= .local->scope.names.lookup x.1=some .local:=λx hx e=>by have:=fb.mp k3 x hx;rw[e]at this;exact dj.mp this
 obtain⟨cl,DY,c1,c2⟩:=NI rn;rw[exec_Assign_Name_used _ _ _ _ Yi];refine aD (pX (aD ?_));show wpAny _ X.A (do let _<-comprehension (.ListComp elt [⟨tg,iter,ifs,0⟩] scope pos) scope X.env _ (newList []) false (eval iter X.env) (some (assign (.Name x0 qt) X.env))) _ _ s;refine aD (fO (wpAny_comprehension_free (use:=some (assign (.Name x0 qt) X.env)) (Q:=λ_ s'=>SP X ak D0 .next s') Z hs DY kq DM (aW (hi ak s O H _ I h) λv s1 h1=>aW h1 λxO s2 h2=>?_)) (λ_ s' hq=>bA (bA hq)) λ_ _ e=>e);obtain⟨it,fp,tn,J,H2,e,I2,T,oo,f2,h2⟩:=h2;subst e;have hD:H2 s2.heap.objs.size=none:=I2.aY.fresh (bq _);obtain⟨W,⟨m0,w0⟩,turn⟩:=h2 _ _ (Nw.of hD);refine mJ (wpAny_newFunctionEnv nA (by intro y hy;simp at hy) (λh₁ uy uu=>?_) kq);have pD:∀b∈fp,b<s2.heap.objs.size:=λb hb=>by obtain⟨o,e,_⟩:=T.obj _ _ oo b hb;exact bN e
 have I3:Inv X ak O (upd H2 s2.heap.objs.size (.lst [])) {s2 with heap:=s2.heap.push {cls:=.type "list",dict:=none,data:=.seq ([]:List Value).toArray}}:=I2.Lc (its:=[]) (t':=s2.toks) .nil (eQ _);generalize uO:s2.heap.push {cls:=.type "list",dict:=none,data:=.seq ([]:List Value).toArray}=h3 at I3 uy uu;have sX:h3.objs.size=s2.heap.objs.size+1:=by rw[<-uO,mM]
 have Dm:∀b o,s2.heap.get? b=some o->h3.get? b=some o:=λb o e=>by rw[<-uO];exact bQ _ e
 have f3:∀b∈fp,jt X ak (upd H2 s2.heap.objs.size (.lst [])) b:=λb hb=>⟨by rw[bj (dw (pD b hb))];exact(f2 b hb).1,(f2 b hb).2⟩;have uj:∀b o,h3.get? b=some o->h₁.get? b=some o:=λb o e=>(uu.2 b (dw (bN e))).trans (bQ _ e);have I4:Inv (eF X N scope cl {s2 with heap:=h3} (upd H2 s2.heap.objs.size (.lst [])) fp ak) [] (stC js O) (upd H2 s2.heap.objs.size (.lst [])) {s2 with heap:=h₁,toks:=s2.toks+([]:List (Str×Value)).length}:=I3.comp (s:={s2 with heap:=h3}) hN hS c1 c2 f3 (λb hb=>by show b<h3.objs.size;rw[sX];exact FP (pD b hb)) (by simpa using uy) uj;have sY:tn 0 h₁:=T.keep _ _ _ oo λb _ o e=>uj b o (Dm b o e);have loop:codeAny (model X.prog X.w) X.A (.compLoop (.ListComp elt [⟨tg,iter,ifs,0⟩] scope pos) 0 (.ref it) (.ref s2.heap.objs.size) (compEnvC scope cl h3.objs.size X.env)) (compPost (model X.prog X.w) X.A X.xe (some (assign (.Name x0 qt) X.env)) (λ_ s'=>SP X ak D0 .next s') (.ref s2.heap.objs.size) h3.objs.size) {s2 with heap:=h₁,toks:=s2.toks+([]:List (Str×Value)).length}:=by
  refine NF (λn s'=>∃i σ' H',Inv (eF X N scope cl {s2 with heap:=h3} (upd H2 s2.heap.objs.size (.lst [])) fp ak) [] σ' H' s'/\tn i s'.heap/\(∀b∈fp,H' b=none)/\W i n σ' H') ?_ m0 ⟨0,_,_,I4,sY,λb hb=>(f3 b hb).1,w0⟩;rintro n s5 ⟨i,σ5,H5,I5,lK,kA,w5⟩;have jR:∀{H':Hp},(∀b∈fp,H' b=none)->∀b∈fp,jt (eF X N scope cl {s2 with heap:=h3} (upd H2 s2.heap.objs.size (.lst [])) fp ak) [] H' b:=λ{H'} hn b hb=>by
   obtain⟨_,q1,q2,q3,q4,q5⟩:=f3 b hb;refine⟨hn b hb,λz=>?_,I4.ok.mq b hb,.inl hb,λx c e=>q4 x c (c1 x c e),λp hp=>q5 p (by simpa[eF]using hp)⟩;have bZ:b<h3.objs.size:=by rw[sX];exact FP (pD b hb)
   exact dw bZ z
  rcases turn i n σ5 H5 w5 with⟨stop,qn⟩|⟨go,step⟩
  ·refine aW (T.done (eF X N scope cl {s2 with heap:=h3} (upd H2 s2.heap.objs.size (.lst [])) fp ak) rfl rfl rfl hc i [] s5 σ5 H5 _ I5 (jR kA) lK stop) λr s6 ⟨hr,I6⟩=>?_
   subst hr;obtain⟨m,hm,_⟩:=I6.loc;have u0:Un (cR X.stack) fp (upd H2 s2.heap.objs.size (.lst [])) H5 h3 s6.heap:=I6.au;have I7:Inv X ak O H5 s6:=I3.yT (s':=s6) (ch:=fp) I6.os u0 I6.aY I6.bare λb hb=>⟨(f3 b hb).2.2.2.1,(f3 b hb).2.1,(f3 b hb).2.2.2.2.1,(f3 b hb).2.2.2.2.2⟩;have hC:jt X ak H5 h3.objs.size:=I3.mi (bq _) I6.free;show wpAny _ X.A (assign (.Name x0 qt) X.env (.ref s2.heap.objs.size)) _ _ s6;refine wpAny_assign_Name (GO I7 hNd LS xU (show RelV (.ref s2.heap.objs.size) (.ref s2.heap.objs.size)from Z) (λs8 I8 Yp=>?_) Zd);obtain⟨a,sb,ha⟩:=Yp;have hCa:h3.objs.size≠a:=by
    rcases ha with rfl|ha
    ·exact hC.2.1
    ·exact λz=>hC.2.2.2.2.1 x0 a ha z.symm
   refine⟨m,hm.sameBut sb hCa,λh9 Yq=>⟨_,H5,?_,qn⟩⟩;exact I8.sT (t':=s8.toks) (fp:=[h3.objs.size]) (λb o hb e=>Yq.extBut b o (λz=>hb (by simp[z])) e) λb hb=>by rw[e9.mp hb];exact hC
  ·refine aW (T.item (eF X N scope cl {s2 with heap:=h3} (upd H2 s2.heap.objs.size (.lst [])) fp ak) rfl rfl rfl hc i [] s5 σ5 H5 _ I5 (jR kA) lK go) λr s6 ⟨u,hr,h6⟩=>?_
   subst hr;refine aW h6 λ_ s7 ⟨x,H7,I7,r7,y7,om,Eo⟩=>?_;have Fs:=I7.pinned (jR Eo) (T.obj _ _ om);refine aW (hg _ _ _ _ _ _ s7 σ5 H7 x u _ Fs r7 (step x H7 y7)) λ_ s8 ⟨σ8,H8,I8,q8⟩=>?_;refine aW (ht _ _ _ _ _ _ s8 σ8 H8 _ I8 q8) λok s9 ⟨H9,I9,q9⟩=>?_;have again:∀{s':ae}{σ7:St}{H7:Hp},Inv (eF X N scope cl {s2 with heap:=h3} (upd H2 s2.heap.objs.size (.lst [])) fp ak) ([]++qw fp s7.heap) σ7 H7 s'->(∃m',m'<n/\W (i+1) m' σ7 H7)->∃m,m<n/\∃i σ' H',Inv (eF X N scope cl {s2 with heap:=h3} (upd H2 s2.heap.objs.size (.lst [])) fp ak) [] σ' H' s'/\tn i s'.heap/\(∀b∈fp,H' b=none)/\W i m σ' H':=λ{s' σ7 H7} J7 n7=>by obtain⟨m',hm,w7⟩:=n7;refine⟨m',hm,i+1,σ7,H7,J7.sR,T.keep _ _ _ om λb hb o e=>(J7.pin (b,o) (j4 _ (j4 _ (qQ hb e)))).1,λb hb=>?_,w7⟩;obtain⟨o,e,d⟩:=T.obj _ _ om b hb;exact(J7.pin (b,o) (j4 _ (j4 _ (qQ hb e)))).2.1
   cases ok with |false=>rw[aV de]at q9⊢;exact again I9 q9 |true=>rw[aU rfl]at q9⊢;refine aW (he _ _ _ _ _ _ s9 σ8 H9 _ I9 q9) λyv kL ⟨y,fD,sk,C6,ys,xT,hz,sO⟩=>?_;refine aW (CW _ kL σ8 fD (.ref s2.heap.objs.size) [y] (.ref s2.heap.objs.size) [yv] (λ_ gm=>∃m',m'<n/\W (i+1) m' σ8 gm) sk Z (.cons C6 .nil) ⟨_,ys,y,Z,Z,xT,hz,sO⟩) λ_ mT ⟨v11,gm,Ft,T9,C7⟩=>?_;exact again Ft C7
 exact codeAny_compStart_list loop (T.self _ 0 _ _ _ sY loop)
theorem NM:∀{zs:List Str}{us:List Value},Vals (zs.map V.str) us->CarriedAll us (zs.map PyData.str) |[],_,.nil=>.nil |z::zs,_,.cons q r=>by obtain⟨t,rfl⟩:=(show∃t,_=Value.str z t from q);exact .cons (.str z t) (NM r)
section
variable {X:Cx}
end
section
variable {X:Cx}{ak:List (Addr×Obj)}{O:St}{H:Hp}{s:ae}
end
section
variable {X:Cx}
theorem a3v:dI X (.type "range") (λxs H Q=>∃n,xs=[.int n]/\∀p H',Nw H H' p (.oF 0 n)->Q (.ref p) H'):=by intro ak s O H xs us Q I r h;obtain⟨n,rfl,q⟩:=h;obtain⟨u,rfl,t,rfl⟩:=vals1 r;refine call_range_1 ?_;have hf:H s.heap.objs.size=none:=I.aY.fresh (bq _);refine⟨.ref s.heap.objs.size,upd H s.heap.objs.size (.oF 0 n),I.laid (t':=s.toks+1+1) (λb u e=>bQ _ e) (bq _) ?_,Z,q _ _ (.of hf)⟩;exact⟨_,_,_,cS _ Z⟩
end
theorem QO:isSubtype (.type "range_iterator") (.type "reversed")=pure false:=by rw[isSubtype_type];kernel_rfl
section
variable {prog:af}{w:World}{A:ai}{E:Value->ae->Prop}{s:ae}
abbrev tL(n:Nat):Obj:={cls:=.type "range_iterator",data:=.fields #[rawInt (0+((n:Int)-1)*1),rawInt (n:Int),rawInt (-1)]}
abbrev BN(n:Nat):Bool:=Builtin.Range.rangeFitsLong 0&&Builtin.Range.rangeFitsLong n&&Builtin.Range.rangeFitsLong 1&&Builtin.Range.rangeFitsLong (-1)&&Builtin.Range.rangeFitsLong (0-1)&&Builtin.Range.rangeFitsLong (Builtin.Range.rangeSize 0 n 1)
theorem Jz{n:Nat}(h:n<2^62):BN n=true:=by unfold BN;rw[rangeSize_one];simp only[Builtin.Range.rangeFitsLong,dm,vB];split<;>lia
theorem Sz(r:Addr)(a b c:Int)(t u v:Tok)(hc0:¬(!(Builtin.Range.rangeFitsLong a&&Builtin.Range.rangeFitsLong b&&Builtin.Range.rangeFitsLong c&&Builtin.Range.rangeFitsLong (-c)&&Builtin.Range.rangeFitsLong (a-c)&&Builtin.Range.rangeFitsLong (Builtin.Range.rangeSize a b c)))=true):Meets (Builtin.«range.__reversed__» ⟨[.ref r],[]⟩) (λ_ R s=>s.heap.get? r=some {cls:=.type "range",dict:=none,data:=.fields #[.int a t,.int b u,.int c v],slots:=#[]}/\R (.ok (.ret (.ref s.heap.objs.size))) {s with heap:=s.heap.push {cls:=.type (if(Builtin.Range.rangeFitsLong a&&Builtin.Range.rangeFitsLong b&&Builtin.Range.rangeFitsLong c&&Builtin.Range.rangeFitsLong (-c)&&Builtin.Range.rangeFitsLong (a-c)&&Builtin.Range.rangeFitsLong (Builtin.Range.rangeSize a b c))=true then "range_iterator" else "longrange_iterator"),data:=.fields #[rawInt (a+(Builtin.Range.rangeSize a b c-1)*c),rawInt (Builtin.Range.rangeSize a b c),rawInt (-c)]},toks:=s.toks}):=.of_wp λprog w A R s h=>by
 obtain⟨hp,g,d,tk,os⟩:=s;obtain⟨hl,h⟩:=h
 wp_walk;exact⟨_,Z,h⟩
theorem a3t{l:Addr}{n:Nat}{t u v:Tok}{Q:Value->ae->Prop}(hn:n<2^62)(hl:s.heap.get? l=some {cls:=.type "range",data:=.fields #[.int 0 t,.int n u,.int 1 v]}) (h:Q (.ref s.heap.objs.size) {s with heap:=s.heap.push (tL n)}):wpAny (model prog w) A (call (.builtin "range.__reversed__") [.ref l]) Q E s:=by
 have hT:s.TypeIs (.ref l) "range":=⟨_,hl,Z⟩;refine sy Pk hT F.entry_range_reversed (F.args_range_reversed_1 _) (Sz l 0 n 1 t u v (by have:=Jz hn;unfold BN at this;rw[this];decide)) ⟨hl,?_⟩;rw[aU (Jz hn)];have e:Builtin.Range.rangeSize 0 n 1=n:=by rw[rangeSize_one];split<;>lia
 rw[e];exact h
theorem a3h{l:Addr}{n:Nat}{t u v:Tok}{Q₁:Value->ae->Prop}(hn:n<2^62)(hl:s.heap.get? l=some {cls:=.type "range",data:=.fields #[.int 0 t,.int n u,.int 1 v]}) (h:Q₁ (.ref s.heap.objs.size) {s with heap:=s.heap.push (tL n)}): codeAny (model prog w) A (.call (.builtin "reversed.__new__") ⟨[.type "reversed",.ref l],[]⟩) (wants Q₁ E) s:=by
 have hT:s.TypeIs (.ref l) "range":=⟨_,hl,Z⟩;refine codeAny_of_tree ?_;show wpAny _ A.in1 (do checkBuiltinCall "reversed.__new__" ⟨[.type "reversed",.ref l],[]⟩;again (.builtin "reversed.__new__" ⟨[.type "reversed",.ref l],[]⟩)) _ _ s;refine aD (vw (F.newCall_reversed_1 _) (bA ⟨plainId_quiet F.plain_reversed_new _,codeAny_builtin F.entry_reversed_new ?_⟩));rw[Around.under_plainId F.plain_reversed_new _];unfold Builtin.«reversed.__new__»;refine aD (vw (newClass_reversed _) ?_)
 try dsimp only
 refine aD (vw (a:=()) (by first|rfl|kernel_rfl) ?_);refine aD (vw (a:=()) (by first|rfl|kernel_rfl) ?_)
 try dsimp only
 refine aD (wpAny_specialOf hT Pk.lookup ?_)
 try dsimp only
 refine aD (vw (Pk.bind _) ?_)
 try dsimp only
 first |rw[aV (show¬((Value.builtin "range.__reversed__"==Value.none)=true)from de)] |(show wpAny _ _ (if(Value.builtin "range.__reversed__"==Value.none)=true then _ else _) _ _ _;rw[aV (show¬((Value.builtin "range.__reversed__"==Value.none)=true)from de)])
 refine aD (wpAny_rule ?_);refine aD (m:=runValue (.call (.builtin "range.__reversed__") ⟨[.ref l],[]⟩)) (show wpAny _ _ (call (.builtin "range.__reversed__") [.ref l]) _ _ _ from a3t hn hl ?_)
 first |exact bA h |exact aD (bA (bA h))
theorem a3u{l:Addr}{n:Nat}{t u v:Tok}{Q:Value->ae->Prop}(hn:n<2^62)(hl:s.heap.get? l=some {cls:=.type "range",data:=.fields #[.int 0 t,.int n u,.int 1 v]}) (h:Q (.ref s.heap.objs.size) {s with heap:=s.heap.push (tL n)}):wpAny (model prog w) A (call (.type "reversed") [.ref l]) Q E s:=by refine callType_other (U:="range_iterator") (Q₁:=λobj s₁=>obj= .ref s.heap.objs.size/\s₁={s with heap:=s.heap.push (tL n)}) aJ F.create_reversed ⟨_,_,F.mro_reversed⟩ F.made_reversed QO (F.typeCall_reversed_1 _) (a3h hn hl ⟨Z,Z⟩) ?_;rintro obj s₁ ⟨rfl,rfl⟩;exact⟨⟨_,cS _ Z,Z⟩,h⟩
end
def vj(n:Nat):It:=⟨λi _=>i<n,λi H x H'=>H'=H/\x= .int ((n:Int)-1-i),λi _=>n<=i⟩
theorem Q4{P:af}{w:World}{K:aa}{tg:Expr}(it:Addr)(n:Nat):Turn P w K tg (vj n) [it] it (λi h=>IsRangeIter h it ((0+((n:Int)-1)*1)+(i:Nat)*(-1)) ((n:Int)-(i:Nat)) (-1)) where
 mem:=by simp
 obj:=λi h st b hb=>by
  have e:b=it:=by simpa using hb
  subst e;exact⟨_,st,λv z=>by have z':Data.fields _=Data.cell v:=z;cases z'⟩
 keep:=λi h h' st k=>k it (by simp) _ st
 item:=by
  intro X hP hw hK hc i ak s O H E I hf st hg;subst hP hw hK;obtain⟨f0,f1,f2,f3,f4,f5⟩:=hf it (by simp);have W:=Walks.range (prog:=X.prog) (w:=X.w) (I.ok.hd hc) it (0+((n:Int)-1)*1) (-1) n;refine W.item i s _ _ hg st λv h' tk hv fc kk=>?_;obtain⟨t,rfl⟩:=hv;have I1:Inv X ak O H {s with heap:=h',toks:=tk}:=I.turned (λb o hb e=>kk b o (by simpa using hb) e) f0 f1 f3 f4 f5;refine⟨_,Z,rC (s:={s with heap:=h',toks:=tk}) (n:="range_iterator") fc rfl rfl az ⟨.int ((n:Int)-1-i),H,I1,⟨t,?_⟩,⟨Z,Z⟩,fc,λb hb=>(hf b hb).1⟩⟩;have e:(0+((n:Int)-1)*1)+(i:Int)*(-1)=(n:Int)-1-i:=by lia
  rw[e]
 done:=by intro X hP hw hK hc i ak s O H E I hf st hg;subst hP hw hK;obtain⟨f0,f1,f2,f3,f4,f5⟩:=hf it (by simp);exact OF (I.ok.hd hc) st (by have:n<=i:=hg;lia) λh' eb=>⟨Z,I.turned (t':=s.toks) (λb o hb e=>eb b o hb e) f0 f1 f3 f4 f5⟩
 self:=λ_ _ _ _ _ st h=>Fw st h
inductive a6i(R:It->Hp->Prop)(vs:List V)(H1:Hp):Prop |mk (p:_)(n:_)(h0:vs=[.ref p])(h1:H1 p=some (.oF 0 n))(h2:0<=n)(h3:n<2^62)(h4:R (vj n.toNat) H1)
def Y5(ta:TA):TI:=λO H R=>ta O H λvs H1=>a6i R vs H1
theorem Tx{X:Cx}{tg:Expr}{a:Expr}{ta:TA}{p pos:Pos}(hg:Gl X "reversed")(hm:X.mg "reversed"=none)(ha:PA X [a] ta)(hs:starEach [a] X.env=[(false,eval a X.env)]:=by rfl)(gv:starEach [] X.env=[]:=by rfl): PI X tg (.Call (.Name "reversed" p) [a] [] pos) (Y5 ta):=by
 intro ak s O H R I h;refine Call_ (m3 I hg hm PyProof.Rows.boot_reversed (sE (aW (ha pos ak s O H _ I h) λus s1 ⟨vs,H1,I1,r1,q1⟩=>?_) (by rw[hs,gv]) (by rw[gv];rfl)));obtain⟨l,n,e,hl,n0,n1,q⟩:=q1;subst e;obtain⟨u1,rfl,lM⟩:=vals1 r1;cases(show u1=Value.ref l from lM);obtain⟨t,u,v,e⟩:∃t u v,s1.heap.get? l=some {cls:=.type "range",data:=.fields #[.int 0 t,.int n u,.int 1 v]}:=I1.aY l _ hl;obtain⟨m,rfl⟩:∃m:Nat,n=m:=⟨n.toNat,aw⟩;refine a3u aw e ?_;have hit:IsRangeIter (s1.heap.push (tL m)) s1.heap.objs.size ((0+((m:Int)-1)*1)+((0:Nat):Int)*(-1)) ((m:Int)-((0:Nat):Int)) (-1):=by
  have e1:(0+((m:Int)-1)*1)+((0:Nat):Int)*(-1)=0+((m:Int)-1)*1:=by lia
  have e2:(m:Int)-((0:Nat):Int)=m:=by lia
  rw[e1,e2];exact cS _ rfl
 refine Fw hit ?_;refine⟨s1.heap.objs.size,[s1.heap.objs.size],_,_,H1,Z,I1.kept (t':=s1.toks) λb o e=>bQ _ e,Q4 _ m,hit,λb hb=>?_,q⟩;have e:b=s1.heap.objs.size:=by simpa using hb
 subst e;exact I1.mi (bq _) (I1.aY.fresh (bq _))
theorem a1j{n:Nat}{g:TG}{tb:TS}{D:Ends}{O:St}{H:Hp}(Pv:Nat->St->Hp->Prop)(h0:Pv 0 O H) (hs:∀i O H,i<n->Pv i O H->g (.int ((n:Int)-1-i)) O H λσ2 H2=>tb {D with nx:=Pv (i+1),ct:=Pv (i+1),bk:=D.nx} σ2 H2)(hd:∀O H,Pv n O H->D.nx O H): ∃W:Nat->Nat->St->Hp->Prop,(∃m,W 0 m O H)/\∀i m O H,W i m O H->((vj n).stop i H/\D.nx O H)\/((vj n).go i H/\∃N:St->Hp->Prop,(∀σ' H',N σ' H'->∃m',m'<m/\W (i+1) m' σ' H')/\∀x H',(vj n).iD i H x H'->g x O H' λσ2 H2=>tb {D with nx:=N,ct:=N,bk:=D.nx} σ2 H2):=by
 refine⟨λi m O H=>m=n-i/\i<=n/\Pv i O H,⟨n,by simp,eQ _,h0⟩,?_⟩;rintro i m O H ⟨rfl,hi,p⟩;by_cases bZ:i<n
 ·refine .inr ⟨bZ,Pv (i+1),λσ' H' q=>⟨n-(i+1),aw,Z,bZ,q⟩,λx H' hy=>?_⟩
  obtain⟨rfl,rfl⟩:=hy;exact hs i O _ bZ p
 ·have e:i=n:=by lia
  subst e;exact .inl ⟨bq _,hd O H p⟩
theorem xb(K:aa){X:Cx}(hK:X.K=K){a:Expr}{ta:TE}(ha:PE X a ta)(he:∀whole,isTrue a X.env whole=(do let v<-whole;standAt a.pos;holding [v] (truthy v)):=by intro _;rfl): PT X a (λO H Q=>ta O H λx H'=>∃k,Ff K x H' k/\Q k H'):=by subst hK;exact Te ha he
end L2
namespace Cn
open Ln
def cy(ns ms:List Int):List Int:=(ns.zip ms).map λp=>p.1*(aM ms:Int)-p.2*(aM ns:Int)
theorem WK{ns ms:List Int}{z:Int}(h:z∈cy ns ms):∃a b,a∈ns/\b∈ms/\z=a*(aM ms:Int)-b*(aM ns:Int):=by obtain⟨⟨a,b⟩,hp,rfl⟩:=cB.mp h;exact⟨a,b,(qe hp).1,(qe hp).2,Z⟩
theorem iO{a b:Int}{m n:Nat}(h:a.natAbs<=m)(g:b.natAbs<=n):(a*b).natAbs<=m*n:=by rw[o8];exact FO h g
theorem yO{ns ms:List Int}(h1:∀z∈ns,z.natAbs<=1000)(h2:∀z∈ms,z.natAbs<=1000):∀z∈cy ns ms,z.natAbs<=2000000:=λz hz=>by obtain⟨a,b,ha,hb,rfl⟩:=WK hz;have l1:=kX h1;have l2:=kX h2;have e1:=iO (b:=(aM ms:Int)) (n:=1000) (h1 a ha) bp;have e2:=iO (b:=(aM ns:Int)) (n:=1000) (h2 b hb) bp;omega
def nu(zs:List Int)(i:Nat):Nat:=aM (zs.take i)
theorem Li:∀(xs ys:List Int),aM (xs++ys)=max (aM xs) (aM ys) |[],ys=>by simp[aM] |x::xs,ys=>by show max x.natAbs (aM (xs++ys))=max (max x.natAbs (aM xs)) (aM ys);rw[Li xs ys];lia
theorem Z6{zs:List Int}{i:Nat}{z:Int}(h:zs[i]? =some z):nu zs (i+1)=max (nu zs i) z.natAbs:=by
 unfold nu;rw[vO,h,Li];show max _ (max z.natAbs 0)=_
 lia
def pO(r:Rat):Rat:=if r.num<0 then-r else r
theorem a4b(r:Rat):(pO r).num=jH r.num:=by
 unfold pO jH;split
 ·rfl
 ·rfl
theorem a4d(r:Rat):(pO r).den=r.den:=by
 unfold pO;split
 ·rfl
 ·rfl
theorem a34{a b:Int}(hb:0<b):0<=(Rat.divInt a b).num↔0<=a:=by rw[Rat.num_nonneg,FE hb]
theorem a4c{c L:Int}(hL:0<L):pO (Rat.divInt c L)=Rat.divInt (jH c) L:=by
 have h:=a34 (a:=c) hL;unfold pO jH;by_cases hc:c<0
 ·rw[aU hc,aU aw,Rat.neg_divInt]
 ·rw[aV hc,aV aw]
theorem a35{a b L:Int}(hL:0<L):Rat.divInt a L<=Rat.divInt b L↔a<=b:=by
 rw[Rat.le_iff_sub_nonneg,OJ _ _ aw aw,FE (qh hL hL),<-Int.sub_mul];constructor
 ·intro h
  have:=Int.nonneg_of_mul_nonneg_left h hL
  lia
 ·intro h
  exact vT aw aw
theorem Nf{a b L:Int}(hL:0<L):Rat.divInt a L<Rat.divInt b L↔a<b:=by rw[<-Rat.not_le,a35 hL];lia
theorem QN{a b l1 l2:Int}(h1:0<l1)(h2:0<l2):Rat.divInt b l2-Rat.divInt a l1=Rat.divInt (b*l1-a*l2) (l1*l2):=by rw[OJ _ _ aw aw,Int.mul_comm l2 l1]
theorem a3e{j p q h L:Int}(hp:p≠0)(hh:h≠0)(e:p*L=h*q):Rat.divInt (j*j*q*q) (p*p)=Rat.divInt ((j*L)^2) (h^2):=by
 rw[OK (G3 hp hp) (by rw[fE,fE,lH,lI];exact G3 hh hh)];have e2:(p*L)*(p*L)=(h*q)*(h*q):=by rw[e]
 rw[fE,fE,lH,lI,fE,fE,lH,lI];have a1:j*j*q*q*(h*h)=(j*j)*((h*q)*(h*q)):=by ac_rfl
 have a2:j*L*(j*L)*(p*p)=(j*j)*((p*L)*(p*L)):=by ac_rfl
 rw[a1,a2,e2]
end Cn
namespace Pn
def mn(a b:Rat):Rat:=if b<a then b else a
theorem xC(a b:Rat):mn a b<=a:=by
 unfold mn;split
 ·next h=>exact FC h
 ·exact iy
theorem ug(a b:Rat):mn a b<=b:=by
 unfold mn;split
 ·exact iy
 ·next h=>exact nU.mp h
theorem kg{a b c:Rat}(h1:c<=a)(h2:c<=b):c<=mn a b:=by unfold mn;split<;>assumption
theorem xD(a b:Rat):mn a b=a\/mn a b=b:=by
 unfold mn;split
 ·exact .inr rfl
 ·exact .inl rfl
theorem oX{a b c:Rat}(hc:c=a\/c=b)(h1:c<=a)(h2:c<=b):mn a b=c:=by
 rcases hc with rfl|rfl
 ·exact vI (xC _ _) (kg h1 h2)
 ·exact vI (ug _ _) (kg h1 h2)
theorem qT{a b c:Rat}(h:a<=b)(hc:0<=c):a<=b+c:=kG h (by have:=(Rat.add_le_add_left (c:=b)).mpr hc;rwa [Rat.add_zero]at this)
theorem add_r{a b c:Rat}(h:a<=b):a+c<=b+c:=Rat.add_le_add_right.mpr h
section
variable (n:Nat)(own:Nat->Rat)(L:Nat->Option Nat)(r f:Int)
def Rz:Nat->Rat |0=>own 0 |i+1=>match L i with |some m=>mn (own (i+1)) (Rz i+((r*(m:Int):Int):Rat)) |none=>own (i+1)
def Pz(g:Nat->Rat):Nat->Rat |0=>g n |k+1=>match L (n-(k+1))with |some m=>mn (g (n-(k+1))) (Pz g k+((f*(m:Int):Int):Rat)) |none=>g (n-(k+1))
def fl(g:Nat->Rat)(i:Nat):Rat:=Pz n L f g (n-i)
def gq(i:Nat):Rat:=fl n L f (Rz own L r) i
end
section
variable {n:Nat}{own g:Nat->Rat}{L:Nat->Option Nat}{r f:Int}
theorem nE:fl n L f g n=g n:=by unfold fl;rw[Nat.sub_self];rfl
theorem nF{i m:Nat}(hi:i<n)(h:L i=some m):fl n L f g i=mn (g i) (fl n L f g (i+1)+((f*(m:Int):Int):Rat)):=by
 unfold fl;have e:n-i=(n-(i+1))+1:=by omega
 rw[e];show(match L (n-((n-(i+1))+1))with|some m=>_|none=>_)=_;have e2:n-((n-(i+1))+1)=i:=by omega
 rw[e2,h]
theorem pE{i:Nat}(hi:i<n)(h:L i=none):fl n L f g i=g i:=by
 unfold fl;have e:n-i=(n-(i+1))+1:=by lia
 rw[e];show(match L (n-((n-(i+1))+1))with|some m=>_|none=>_)=_;have e2:n-((n-(i+1))+1)=i:=by lia
 rw[e2,h]
theorem JW:gq n own L r f n=Rz own L r n:=nE
theorem xh{i m:Nat}(hi:i<n)(h:L i=some m):gq n own L r f i=mn (Rz own L r i) (gq n own L r f (i+1)+((f*(m:Int):Int):Rat)):=nF hi h
theorem JV{i:Nat}(hi:i<n)(h:L i=none):gq n own L r f i=Rz own L r i:=pE hi h
theorem jI{i m:Nat}(h:L i=some m):Rz own L r (i+1)=mn (own (i+1)) (Rz own L r i+((r*(m:Int):Int):Rat)):=by show(match L i with|some m=>_|none=>_)=_;rw[h]
theorem mB{i:Nat}(h:L i=none):Rz own L r (i+1)=own (i+1):=by show(match L i with|some m=>_|none=>_)=_;rw[h]
theorem zf(i:Nat):Rz own L r i<=own i:=by cases i with |zero=>exact iy |succ i=>cases h:L i with |none=>rw[mB h];exact iy |some m=>rw[jI h];exact xC _ _
theorem JX{i:Nat}(hi:i<=n):gq n own L r f i<=Rz own L r i:=by
 rcases Nat.lt_or_eq_of_le hi with hi|rfl
 ·cases h:L i with |none=>rw[JV hi h];exact iy |some m=>rw[xh hi h];exact xC _ _
 ·rw[JW];exact iy
theorem Tq{i:Nat}(hi:i<=n):gq n own L r f i<=own i:=kG (JX hi) (zf i)
theorem Ts{i m:Nat}(hi:i<n)(h:L i=some m):gq n own L r f i<=gq n own L r f (i+1)+((f*(m:Int):Int):Rat):=by rw[xh hi h];exact ug _ _
theorem qP{a:Int}{m:Nat}(h:0<=a):(0:Rat)<=((a*(m:Int):Int):Rat):=by have:((0:Int):Rat)<=((a*(m:Int):Int):Rat):=Rat.intCast_le_intCast.mpr (vT h aw);exact this
theorem Tp{i m:Nat}(hi:i<n)(h:L i=some m)(hr:0<=r)(hf:0<=f):gq n own L r f (i+1)<=gq n own L r f i+((r*(m:Int):Int):Rat):=by
 have h1:gq n own L r f (i+1)<=Rz own L r i+((r*(m:Int):Int):Rat):=by refine kG (JX hi) ?_;rw[jI h];exact ug _ _
 rw[xh hi h];rcases xD (Rz own L r i) (gq n own L r f (i+1)+((f*(m:Int):Int):Rat))with e|e
 ·rw[e];exact h1
 ·rw[e];exact qT (qT iy (qP hf)) (qP hr)
theorem Oc(hr:0<=r)(h0:∀i,i<=n->0<=own i):∀i,i<=n->0<=Rz own L r i |0,hi=>h0 0 hi |i+1,hi=>by cases h:L i with |none=>rw[mB h];exact h0 _ hi |some m=>rw[jI h];exact kg (h0 _ hi) (qT (Oc hr h0 i aw) (qP hr))
theorem down{C:Nat->Prop}(hn:C n)(hs:∀i,i<n->C (i+1)->C i):∀i,i<=n->C i:=by
 have key:∀k,k<=n->C (n-k):=λk=>by induction k with |zero=>intro _;exact hn |succ k ih=>
  intro hk;refine hs _ bp ?_;have e:n-(k+1)+1=n-k:=by omega
  rw[e];exact ih bp
 intro i hi;have:=key (n-i) bp;have e:n-(n-i)=i:=by omega
 rwa [e]at this
structure Keeps(n:Nat)(own:Nat->Rat)(L:Nat->Option Nat)(r f:Int)(q:Nat->Rat):Prop where
 own:∀i,i<=n->q i<=own i
 rise:∀i m,i<n->L i=some m->q (i+1)<=q i+((r*(m:Int):Int):Rat)
 MF:∀i m,i<n->L i=some m->q i<=q (i+1)+((f*(m:Int):Int):Rat)
theorem Tr(hr:0<=r)(hf:0<=f):Keeps n own L r f (gq n own L r f):=⟨λi hi=>Tq hi,λi m hi h=>Tp hi h hr hf,λi m hi h=>Ts hi h⟩
theorem xM{q:Nat->Rat}(k:Keeps n own L r f q):∀i,i<=n->q i<=Rz own L r i |0,hi=>k.own 0 hi |i+1,hi=>by cases h:L i with |none=>rw[mB h];exact k.own _ hi |some m=>rw[jI h];exact kg (k.own _ hi) (kG (k.rise i m aw h) (add_r (xM k i aw)))
theorem XA{q:Nat->Rat}(k:Keeps n own L r f q):∀i,i<=n->q i<=gq n own L r f i:=by
 refine down ?_ λi hi ih=>?_
 ·rw[JW];exact xM k n (bq _)
 ·cases h:L i with |none=>rw[JV hi h];exact xM k i aw |some m=>rw[xh hi h];exact kg (xM k i aw) (kG (k.MF i m hi h) (add_r ih))
theorem To{q:Nat->Rat}(hr:0<=r)(hf:0<=f)(k:Keeps n own L r f q)(g:∀q',Keeps n own L r f q'->∀i,i<=n->q' i<=q i):∀i,i<=n->q i=gq n own L r f i:=λi hi=>vI (XA k i hi) (g _ (Tr hr hf) i hi)
end
open Rt
theorem uh{n:Nat}{a b:Rat}(h1:Bd n a)(h2:Bd n b):Bd n (mn a b):=by rcases xD a b with e|e<;>rw[e]<;>assumption
theorem rW{n:Nat}{q:Rat}{z:Int}(h:Bd n q)(hz:z.natAbs<2^24):Bd (n+25) (q+(z:Rat)):=by have b:Bd 24 (z:Rat):=⟨hz,by show 1<2^24;decide⟩;exact(h.add b).mono aw
theorem vg{b:Nat}{own:Nat->Rat}{L:Nat->Option Nat}{r:Int}(ho:∀i,Bd b (own i))(hL:∀i m,L i=some m->(r*(m:Int)).natAbs<2^24):∀i,Bd (b+25*i) (Rz own L r i) |0=>ho 0 |i+1=>by cases h:L i with |none=>rw[mB h];exact(ho _).mono aw |some m=>rw[jI h];exact uh ((ho _).mono aw) ((rW (vg ho hL i) (hL i m h)).mono aw)
theorem Ep{n b:Nat}{g:Nat->Rat}{L:Nat->Option Nat}{f:Int}(ho:∀i,i<=n->Bd b (g i))(hL:∀i m,L i=some m->(f*(m:Int)).natAbs<2^24):∀i,i<=n->Bd (b+25*(n-i)) (fl n L f g i):=by
 refine down ?_ λi hi ih=>?_
 ·rw[nE];exact(ho n (bq _)).mono aw
 ·cases h:L i with |none=>rw[pE hi h];exact(ho i aw).mono aw |some m=>rw[nF hi h];exact uh ((ho i aw).mono aw) ((rW ih (hL i m h)).mono aw)
def lst(n:Nat)(g:Nat->Rat):List Rat:=(List.range (n+1)).map g
theorem jB(n:Nat)(g:Nat->Rat):(lst n g).length=n+1:=by simp[lst]
theorem je{n:Nat}(g:Nat->Rat){i:Nat}(h:i<=n):(lst n g)[i]? =some (g i):=by unfold lst;rw[bJ,cC (by simp;lia),zG];rfl
theorem xH{n:Nat}{g g':Nat->Rat}{i:Nat}(h:∀k,k<=n->k≠i->g' k=g k):(lst n g).set i (g' i)=lst n g':=by
 apply Pb;intro k;by_cases hk:k<=n
 ·rw[je g' hk,List.getElem?_set]
  by_cases e:i=k
  ·subst e;rw[aU rfl,aU (by rw[jB];lia)]
  ·rw[aV e,je g hk,h k hk (λz=>e z.symm)]
 ·rw[sI (by rw[FW,jB];lia),sI (by rw[jB];lia)]
theorem jC{n:Nat}{g g':Nat->Rat}(h:∀k,k<=n->g' k=g k):lst n g=lst n g':=by
 apply Pb;intro k;by_cases hk:k<=n
 ·rw[je g hk,je g' hk,h k hk]
 ·rw[sI (by rw[jB];lia),sI (by rw[jB];lia)]
end Pn
namespace Ow
open Pn Cn Ln Rt
abbrev Itm:=Option (List Int × Int)
def topR(rate sp:Int):Rat:=Rat.divInt ((sp*rate)^2) 10000
def cornO(j:Int)(ns ms:List Int):Option Rat:=if aM (cy ns ms)=0 then none else some (Rat.divInt ((j*aM ns*aM ms)^2) ((aM (cy ns ms):Int)^2))
def mnO(a:Rat):Option Rat->Rat |none=>a |some c=>mn a c
def betR(j rate:Int):Itm->Itm->Rat |some (ns,sp),some (ms,sq)=>mnO (mn (topR rate sp) (topR rate sq)) (cornO j ns ms) |_,_=>0
def atO(os:List Itm)(i:Nat):Itm:=(os[i]?).join
def ownF(j rate:Int)(os:List Itm):Nat->Rat |0=>0 |i+1=>betR j rate (atO os i) (atO os (i+1))
def leadF(os:List Itm)(i:Nat):Option Nat:=(atO os i).map λq=>aM q.1
def ownL(j rate:Int)(os:List Itm):List Rat:=(List.range (os.length+1)).map (ownF j rate os)
theorem rV{os:List Itm}{i:Nat}{o:Itm}(h:os[i]? =some o):atO os i=o:=by unfold atO;rw[h];rfl
theorem a3T{os:List Itm}{i:Nat}(h:os.length<=i):atO os i=none:=by unfold atO;rw[sI h];rfl
theorem NV(j rate:Int)(o:Itm):betR j rate o none=0:=by unfold betR;split<;>simp_all
theorem a3N(j rate:Int)(o:Itm):betR j rate none o=0:=by unfold betR;split<;>simp_all
theorem Kb(j rate:Int)(os:List Itm):∀n,n=os.length->ownF j rate os n=0 |0,_=>rfl |n+1,h=>by show betR j rate (atO os n) (atO os (n+1))=0;rw[a3T (i:=n+1) aw];exact NV _ _ _
theorem U6(j rate:Int)(os:List Itm):(ownL j rate os).length=os.length+1:=by simp[ownL]
theorem U7(j rate:Int)(os:List Itm){i:Nat}(h:i<=os.length):(ownL j rate os)[i]? =some (ownF j rate os i):=by unfold ownL;rw[bJ,cC (by simp;lia),zG];rfl
theorem K9(j rate:Int){os:List Itm}(h:os≠[]):ownL j rate os=[0]++(List.range (os.length-1)).map (λi=>ownF j rate os (i+1))++[0]:=by
 have h0:0<os.length:=vQ.mpr h;apply Pb;intro i;by_cases hi:i<=os.length
 ·rw[U7 j rate os hi]
  rcases Nat.eq_zero_or_pos i with rfl|hp
  ·rfl
  ·by_cases hl:i=os.length
   ·rw[zH (by simp;lia),hl,Kb j rate os _ rfl]
    have:os.length-([0]++List.map (λi=>ownF j rate os (i+1)) (List.range (os.length-1))).length=0:=by simp;lia
    rw[this];rfl
   ·rw[vS (by simp;lia),zH (by simp;lia),bJ]
    have e:i-[(0:Rat)].length=i-1:=rfl;rw[e,cC (by simp;lia),zG];show some _=some (ownF j rate os (i-1+1));rw[Nat.sub_add_cancel hp]
 ·rw[sI (by rw[U6];lia),sI (by simp;lia)]
theorem Gq(rate sp:Int):0<=topR rate sp:=by
 unfold topR;rw[FE az,fE,fE,lH,lI];rcases Int.le_total 0 (sp*rate)with h|h
 ·exact vT h h
 ·exact Pg h h
theorem R7(a:Int):0<=a^2:=by
 rw[fE,fE,lH,lI];rcases Int.le_total 0 a with h|h
 ·exact vT h h
 ·exact Pg h h
theorem a3f{j:Int}{ns ms:List Int}{c:Rat}(h:cornO j ns ms=some c):0<=c:=by
 unfold cornO at h;split at h
 ·cases h
 ·next h0=>
  cases h;rw[FE]
  ·exact R7 _
  ·rw[fE,fE,lH,lI];exact qh aw aw
theorem a3O(j rate:Int)(o p:Itm):0<=betR j rate o p:=by
 unfold betR;split
 ·next ns sp ms sq=>
  have h:=kg (Gq rate sp) (Gq rate sq);unfold mnO;split
  ·exact h
  ·next c e=>exact kg h (a3f e)
 ·exact iy
theorem U8(j rate:Int)(os:List Itm):∀i,0<=ownF j rate os i |0=>iy |i+1=>a3O _ _ _ _
def OkI(o:Itm):Prop:=∀ns sp,o=some (ns,sp)->(∀z∈ns,(z.natAbs:Int)<=100)/\1<=sp/\sp<=20
theorem zU{a:Int}{m:Nat}(h:a.natAbs<=m):(a^2).natAbs<=m*m:=by rw[fE,fE,lH,lI];exact iO h h
theorem wx{rate sp:Int}(h1:1<=sp)(h2:sp<=20)(h3:10<=rate)(h4:rate<=200):Bd 64 (topR rate sp):=by
 have jn:(2:Nat)^64=18446744073709551616:=by decide
 have a:=zU (iO (a:=sp) (b:=rate) (m:=20) (n:=200) aw aw);exact oT az (by rw[jn];lia) az
theorem EO{j:Int}{ns ms:List Int}{c:Rat}(h1:1<=j)(h2:j<=50)(hn:∀z∈ns,(z.natAbs:Int)<=100)(hm:∀z∈ms,(z.natAbs:Int)<=100)(h:cornO j ns ms=some c):Bd 64 c:=by
 have jn:(2:Nat)^64=18446744073709551616:=by decide
 have cb:=yO (λz hz=>by have:=hn z hz;lia) (λz hz=>by have:=hm z hz;lia) (ns:=ns) (ms:=ms);have hb:=kX cb;have l1:=kX (ns:=ns) (m:=100) λz hz=>by have:=hn z hz;lia
 have l2:=kX (ns:=ms) (m:=100) λz hz=>by have:=hm z hz;lia
 unfold cornO at h;split at h
 ·cases h
 ·next h0=>cases h;have a:=zU (iO (iO (a:=j) (b:=(aM ns:Int)) (m:=50) (n:=100) aw aw) (b:=(aM ms:Int)) (n:=100) aw);have b:=zU (a:=(aM (cy ns ms):Int)) (m:=2000000) aw;refine oT ?_ (by rw[jn];lia) (by rw[jn];lia);rw[fE,fE,lH,lI];exact G3 aw aw
theorem uh{n:Nat}{a b:Rat}(h1:Bd n a)(h2:Bd n b):Bd n (mn a b):=by rcases xD a b with e|e<;>rw[e]<;>assumption
theorem zK:Bd 64 (0:Rat):=⟨ az,az⟩
theorem a3P{j rate:Int}{o p:Itm}(h1:1<=j)(h2:j<=50)(h3:10<=rate)(h4:rate<=200)(ho:OkI o)(hp:OkI p):Bd 64 (betR j rate o p):=by
 unfold betR;split
 ·next ns sp ms sq=>
  obtain⟨a1,a2,a3⟩:=ho ns sp rfl;obtain⟨b1,b2,b3⟩:=hp ms sq rfl;have h:=uh (wx a2 a3 h3 h4) (wx b2 b3 h3 h4);unfold mnO;split
  ·exact h
  ·next c e=>exact uh h (EO h1 h2 a1 b1 e)
 ·exact zK
def OkIs(os:List Itm):Prop:=∀i,OkI (atO os i)
theorem Cq{j rate:Int}{os:List Itm}(h1:1<=j)(h2:j<=50)(h3:10<=rate)(h4:rate<=200)(ho:OkIs os):∀i,Bd 64 (ownF j rate os i) |0=>zK |i+1=>a3P h1 h2 h3 h4 (ho i) (ho (i+1))
end Ow
namespace Wk
open PySem L2
def iW(pl ns:List Int):List Int:=List.zipWith (λa b=>a+b) pl ns
theorem zc{pl ns:List Int}(h:ns.length=pl.length):(iW pl ns).length=pl.length:=by unfold iW;rw[List.length_zipWith,h];exact Nat.min_self _
theorem a49{pl ns:List Int}{i:Nat}{a b:Int}(h1:pl[i]? =some a)(h2:ns[i]? =some b):(iW pl ns)[i]? =some (a+b):=by unfold iW;rw[List.getElem?_zipWith,h1,h2]
def gs(rs pl:List Int):Bool:=(pl.zip rs).all λp=>decide (0<=p.1)&&decide (p.1<=p.2)
structure fC(rs pl:List Int):Prop where
 len:pl.length=rs.length
 at':∀(i:Nat)(x r:Int),pl[i]? =some x->rs[i]? =some r->0<=x/\x<=r
theorem Uo{rs pl:List Int}(h:pl.length=rs.length):gs rs pl=true↔fC rs pl:=by
 unfold gs;rw[fb];constructor
 ·intro a
  refine⟨h,λi x r e1 e2=>?_⟩;have:=a (x,r) (fP ((nZ (z:=(x,r))).mpr ⟨e1,e2⟩));rw[dm,vA,vA]at this;exact this
 ·rintro a ⟨x,r⟩ hp
  obtain⟨i,hi⟩:=nY.mp hp;obtain⟨e1,e2⟩:=(nZ (z:=(x,r))).mp hi;have:=a.at' i x r e1 e2;rw[dm,vA,vA];exact this
end Wk
namespace L2
open PySem PySem.Spec PyProof.Rows
def Fq(z:Str):It:=⟨λi _=>i<z.cps.size,λi H x H'=>H'=H/\∃c,z.cps.toList[i]? =some c/\x= .str ⟨#[c]⟩,λi _=>z.cps.size<=i⟩
theorem Q3{P:af}{w:World}{K:aa}{tg:Expr}(it:Addr)(z:Str)(t:Tok)(ty:String)(Dz:["enumerate","zip","dict_itemiterator","dict_reverseitemiterator","odict_iterator","itertools.zip_longest","itertools.pairwise"].contains ty=false) (W:∀A':ai,A'.handled=none->Walks P w A' it [it] [it] z.cps.size (SignAt z) (λi h=>h.IsStrIter it ty z t i)) (self:∀(A:ai)(i:Nat)(s:ae)(Q:Value->ae->Prop)(E:Value->ae->Prop),s.heap.IsStrIter it ty z t i->Q (.ref it) s->wpAny (model P w) A (pyIter (.ref it)) Q E s): Turn P w K tg (Fq z) [it] it (λi h=>h.IsStrIter it ty z t i/\i<=z.cps.size) where
 mem:=by simp
 obj:=λi h st b hb=>by
  have e:b=it:=by simpa using hb
  subst e;obtain⟨⟨o,e,c,d⟩,_⟩:=st;exact⟨o,e,λv z=>by rw[d]at z;cases z⟩
 keep:=λi h h' st k=>⟨let⟨o,e,r⟩:=st.1;⟨o,k it (by simp) o e,r⟩,st.2⟩
 item:=by intro X hP hw hK hc i ak s O H E I hf st hg;subst hP hw hK;obtain⟨f0,f1,f2,f3,f4,f5⟩:=hf it (by simp);refine(W X.A (I.ok.hd hc)).item i s _ _ hg st.1 λv h' tk hv fc kk=>?_;obtain⟨c,u,ec,rfl⟩:=hv;have I1:Inv X ak O H {s with heap:=h',toks:=tk}:=I.turned (λb o hb e=>kk b o (by simpa using hb) e) f0 f1 f3 f4 f5;obtain⟨o,e,cl,d⟩:=id fc;exact⟨_,Z,rC (s:={s with heap:=h',toks:=tk}) e cl d Dz ⟨.str ⟨#[c]⟩,H,I1,⟨u,Z⟩,⟨Z,c,by simpa using ec,Z⟩,⟨fc,hg⟩,λb hb=>(hf b hb).1⟩⟩
 done:=by intro X hP hw hK hc i ak s O H E I hf st hg;subst hP hw hK;obtain⟨f0,f1,f2,f3,f4,f5⟩:=hf it (by simp);obtain⟨st,hle⟩:=st;have ei:i=z.cps.size:=Nat.le_antisymm hle hg;subst ei;exact(W X.A (I.ok.hd hc)).done s _ _ st λh' tk eb=>⟨Z,I.turned (λb o hb e=>eb b o (by simpa using hb) e) f0 f1 f3 f4 f5⟩
 self:=λA i s Q E st h=>self A i s Q E st.1 h
section
variable {X:Cx} {tg:Expr}
inductive a6e(R:It->Hp->Prop)(x:V)(H1:Hp):Prop |mk (z:_)(h0:x= .str z)(h1:R (Fq z) H1)
def Y1(tl:TE):TI:=λO H R=>tl O H λx H1=>a6e R x H1
theorem K1{l:Expr}{tl:TE}(hl:PE X l tl):PI X tg l (Y1 tl):=by
 intro ak s O H R I h;refine aW (hl ak s O H _ I h) λv s1 ⟨x,H1,I1,r1,q1⟩=>?_;obtain⟨z,e,q⟩:=q1;subst e;obtain⟨t,rfl⟩:=r1;have fin:∀ty,["enumerate","zip","dict_itemiterator","dict_reverseitemiterator","odict_iterator","itertools.zip_longest","itertools.pairwise"].contains ty=false->(∀A':ai,A'.handled=none->Walks X.prog X.w A' s1.heap.objs.size [s1.heap.objs.size] [s1.heap.objs.size] z.cps.size (SignAt z) (λi h=>h.IsStrIter s1.heap.objs.size ty z t i))->(∀(A:ai)(i:Nat)(s:ae)(Q:Value->ae->Prop)(E:Value->ae->Prop),s.heap.IsStrIter s1.heap.objs.size ty z t i->Q (.ref s1.heap.objs.size) s->wpAny (model X.prog X.w) A (pyIter (.ref s1.heap.objs.size)) Q E s)->zi X ak O tg R (.ref s1.heap.objs.size) {s1 with heap:=s1.heap.push {cls:=.type ty,data:=.fields #[.str z t,.int 0 0]}}:=λty h1 h2 h3=>by
  refine⟨s1.heap.objs.size,[s1.heap.objs.size],_,_,H1,Z,I1.kept (t':=s1.toks) λb o e=>bQ _ e,Q3 _ z t ty h1 h2 h3,⟨⟨_,cS _ Z,Z,Z⟩,eQ _⟩,λb hb=>?_,q⟩;have e:b=s1.heap.objs.size:=by simpa using hb
  subst e;exact I1.mi (bq _) (I1.aY.fresh (bq _))
 cases ha:z.cps.all (·<128)
 ·exact wpAny_pyIter_wide ha (fin "str_iterator" az (λA' hA=>Walks.strWide hA _ z t) (λ_ _ _ _ _ st h=>wpAny_pyIter_striter_wide st h))
 ·exact wpAny_pyIter_ascii ha (fin "str_ascii_iterator" az (λA' hA=>Walks.strAscii hA _ z t) (λ_ _ _ _ _ st h=>wpAny_pyIter_striter_ascii st h))
theorem NC{z:Str}{f:Nat->Bool}{te:TE}{Q:VK}{D:Addr}{H H0:Hp}(rest:St)(nw:Nw H H0 D (.lst []))(hz:z.length<=1000) (hs:∀(c:Nat)(H2:Hp)(Q':VK),c∈z.cps.toList->aA H H2->(∀H3,aA H2 H3->Q' (.bl (f c)) H3)->te (some (.str ⟨#[c]⟩)::rest) H2 Q') (hq:∀H',aA H H'->H' D=some (.lst ((z.cps.toList.map f).map V.bl))->Q (.ref D) H'):jJ (Fq z) (fT 0) j8 te Q D (none::rest) H0:=by
 have hl:z.cps.toList.length=z.cps.size:=by simp
 refine ND (xs:=z.cps.toList.map λc=>V.str ⟨#[c]⟩) (bs:=z.cps.toList.map f) rest nw (by simp) (by simpa[Str.length]using hz) ?_ ?_ ?_ hq
 ·intro i x H2 ex s2
  rw[bJ]at ex;cases ec:z.cps.toList[i]? with |none=>rw[ec]at ex;cases ex |some c=>rw[ec]at ex;cases ex;refine⟨by have:=(dQ.mp ec).1;show i<z.cps.size;omega,λy H3 ⟨e3,c',N0,e⟩=>⟨e3,?_⟩⟩;rw[ec]at N0;cases N0;exact e
 ·intro H2 s2
  show z.cps.size<=(z.cps.toList.map _).length;rw[bD,hl];exact bq _
 ·intro i x b H2 Q' ex eb s2 jh
  rw[bJ]at ex eb;cases ec:z.cps.toList[i]? with |none=>rw[ec]at ex;cases ex |some c=>rw[ec]at ex eb;cases ex;cases eb;exact hs c H2 Q' (fP ec) s2 jh
theorem Kg:cg X (compareOp .In) (λx y H Q=>∃c j,x= .str ⟨#[c]⟩/\y= .str j/\Q (.bl (decide (c∈j.cps.toList))) H):=by intro ak s O H x y v u Q I rx ry h;obtain⟨c,j,rfl,rfl,q⟩:=h;refine Ue ak s O H _ _ v u Q I rx ry ⟨_,_,Z,Z,?_⟩;rw[PySem.StrLaws.found_one];exact q
inductive a64(K:aa)(x:V)(y:V)(H:Hp)(Q:VK):Prop |mk (p:_)(xs:_)(d:_)(ds:_)(h0:y= .ref p)(h1:aQ K H p xs)(h2:RD K H x d)(h3:aK K H xs ds)(h4:SeqAt.shaped d=true)(h5:(∀e∈ds,SeqAt.shaped e=true))(h6:Q (.bl (ds.any λe=>PyData.eqv e d)) H)
def SY(K:aa):R2:=λx y H Q=>a64 K x y H Q
theorem XW(K:aa)(hK:X.K=K)(hu:X.A.units+65<cLine):cg X (compareOp .In) (SY K):=by
 subst hK;intro ak s O H x y v u Q I rx ry h;obtain⟨p,xs,d,ds,rfl,hx,hd,ny,sd,RH,q⟩:=h;cases ry;obtain⟨its,r,pl,hz⟩:=I.tuple hx;obtain⟨k1,k2⟩:=MS I hu rx hd sd r ny RH;refine SeqAt.in_tupleAt (pG s.heap d) (show s.heap.IsTuple p its.toArray from pl) (λw hw=>k1 w (by simpa using hw)) ⟨.bl _,H,I,Z,?_⟩;have e:its.toArray.any (pG s.heap d)=ds.any λe=>PyData.eqv e d:=by rw[<-k2];simp
 rw[e];exact q
end
inductive a69(K:aa)(x:V)(y:V)(H:Hp)(Q:VK):Prop |mk (a:_)(b:_)(xs:_)(ys:_)(h0:x= .ref a)(h1:y= .ref b)(h2:aQ K H a xs)(h3:aQ K H b ys)(h4:xs.length+ys.length<=sizeLine)(h5:∀c H',aA H H'->aQ K H' c (xs++ys)->Q (.ref c) H')
def T5(K:aa):R2:=λx y H Q=>a69 K x y H Q
section
variable {X:Cx}
theorem NL(K:aa)(hK:X.K=K):cg X (binaryOp .Add) (T5 K):=by
 subst hK;intro ak s O H x y v u Q I rx ry h;obtain⟨a,b,xs,ys,rfl,rfl,ha,hb,hz,q⟩:=h;cases rx;cases ry;obtain⟨its,r1,p1,_⟩:=I.tuple ha;obtain⟨nj,r2,p2,_⟩:=I.tuple hb;by_cases e0:xs=[]
 ·subst e0
  have i0:its=[]:=r1.CN.mpr rfl;subst i0;obtain⟨⟨cls,dd,data,sl⟩,ho,hc,n,hd⟩:=id p1;obtain⟨⟨NH,rP,data2,mS⟩,kZ,fi,n2,hd2⟩:=id p2;simp only at hc hd fi hd2;subst hc hd fi hd2;exact concat_meets ⟨_,ho,Z⟩ ⟨_,kZ,Z⟩ noFill_tuple_add seq_tuple_add OS OV (OW _ _) (tuple_addW0 a b _ nj.toArray n n2 dd rP sl mS (by simp)) ⟨ho,kZ,⟨.ref b,H,I,Z,q _ _ (aA.refl H) hb⟩⟩
 ·refine HT.a3r p1 p2 (λz=>e0 (r1.CN.mp z)) (λz=>⟨.ref a,H,I,Z,?_⟩) (λz=>?_) (by rw[<-r1.length,<-r2.length];exact hz)
  ·have e1:ys=[]:=r2.CN.mp z
   subst e1;exact q _ _ (aA.refl H) (by rw[lG];exact ha)
  ·have hf:H s.heap.objs.size=none:=I.aY.fresh (bq _)
   have nw:Nw H (upd H s.heap.objs.size (.tup (xs++ys))) s.heap.objs.size (.tup (xs++ys)):=.of hf;refine⟨.ref s.heap.objs.size,_,I.laid (t':=s.toks) (o:=.tup (xs++ys)) (λb ob q=>bQ _ q) (bq _) ?_,Z,q _ _ nw.same (aQ.of nw.at')⟩;exact⟨by rw[iC];exact hz,_,r1.append r2,IsTup.new _ _⟩
end
theorem a3a(xs:List V)(k:Nat):iT xs none (some (k:Int))=xs.take k:=by unfold iT;rw[HT.B7,HT.B8];simp
theorem Nu(xs:List V):iT xs none (some (-1))=xs.take (xs.length-1):=by
 unfold iT;have e:=HT.ET (-1) xs.length xs.length;rw[HT.B7];have e2:HT.bO xs.length xs.length (some (-1))=xs.length-1:=by simp at e;omega
 rw[e2];simp
section
variable {X:Cx}
open PyProof
end
end L2
namespace L2
open PySem PySem.Spec PyProof.Rows
section
variable {K:aa} {H H' H2:Hp}
end
def si(lo:Int)(n:Nat):It:=⟨λi _=>i<n,λi H x H'=>H'=H/\x= .int (lo-i),λi _=>n<=i⟩
theorem Q8{P:af}{w:World}{K:aa}{tg:Expr}(it:Addr)(lo:Int)(n:Nat):Turn P w K tg (si lo n) [it] it (λi h=>IsRangeIter h it (lo+(i:Nat)*(-1)) ((n:Int)-(i:Nat)) (-1)) where
 mem:=by simp
 obj:=λi h st b hb=>by
  have e:b=it:=by simpa using hb
  subst e;exact⟨_,st,λv z=>by have z':Data.fields _=Data.cell v:=z;cases z'⟩
 keep:=λi h h' st k=>k it (by simp) _ st
 item:=by
  intro X hP hw hK hc i ak s O H E I hf st hg;subst hP hw hK;obtain⟨f0,f1,f2,f3,f4,f5⟩:=hf it (by simp);have W:=Walks.range (prog:=X.prog) (w:=X.w) (I.ok.hd hc) it lo (-1) n;refine W.item i s _ _ hg st λv h' tk hv fc kk=>?_;obtain⟨t,rfl⟩:=hv;have I1:Inv X ak O H {s with heap:=h',toks:=tk}:=I.turned (λb o hb e=>kk b o (by simpa using hb) e) f0 f1 f3 f4 f5;refine⟨_,Z,rC (s:={s with heap:=h',toks:=tk}) (n:="range_iterator") fc rfl rfl az ⟨.int (lo-i),H,I1,⟨t,?_⟩,⟨Z,Z⟩,fc,λb hb=>(hf b hb).1⟩⟩;have e:lo+(i:Int)*(-1)=lo-i:=by lia
  rw[e]
 done:=by intro X hP hw hK hc i ak s O H E I hf st hg;subst hP hw hK;obtain⟨f0,f1,f2,f3,f4,f5⟩:=hf it (by simp);exact OF (I.ok.hd hc) st (by have:n<=i:=hg;lia) λh' eb=>⟨Z,I.turned (t':=s.toks) (λb o hb e=>eb b o hb e) f0 f1 f3 f4 f5⟩
 self:=λ_ _ _ _ _ st h=>Fw st h
theorem Rh{a b:Int}(ha:-(2^62)<=a)(ha':a<2^62)(hb:-(2^62)<=b)(m9:b<2^62):Builtin.Range.small a b (-1)=true:=by unfold Builtin.Range.small Builtin.Range.rangeSize;rw[aV az,show(-(-1):Int)=1 by decide,Int.ediv_one];simp only[Builtin.Range.rangeFitsLong,dm,Bool.or_eq_true,vB,dj,show¬((-1:Int)>0) by decide,if_false];split<;>lia
theorem Rq(a b:Int):Builtin.Range.rangeSize a b (-1)=(((a-b).toNat:Nat):Int):=by unfold Builtin.Range.rangeSize;rw[aV az,show(-(-1):Int)=1 by decide,Int.ediv_one];split<;>lia
inductive a6f(R:It->Hp->Prop)(vs:List V)(H1:Hp):Prop |mk (i:Int)(j:Int)(h0:vs=[.int i,.int j,.int (-1)])(h1:(-(2^62)<=i/\i<2^62/\-(2^62)<=j/\j<2^62))(h2:R (si i (i-j).toNat) H1)
def Y2(ta:TA):TI:=λO H R=>ta O H λvs H1=>a6f R vs H1
section
variable {X:Cx} {tg:Expr}
theorem SK{ak:List (Addr×Obj)}{O:St}{H:Hp}{s:ae}{R:It->Hp->Prop}{E:Value->ae->Prop}{lo hi:Int}{t u v:Tok}{tk:Nat}(I:Inv X ak O H s)(h1:-(2^62)<=lo)(h2:lo<2^62)(h3:-(2^62)<=hi)(h4:hi<2^62) (q:R (si lo (lo-hi).toNat) H):wpAny (model X.prog X.w) X.A (pyIter (.ref s.heap.objs.size)) (zi X ak O tg R) E {s with heap:=s.heap.push {cls:=.type "range",data:=.fields #[.int lo t,.int hi u,.int (-1) v]},toks:=tk}:=by
 refine wpAny_pyIter_range (IsRange.new ..) (Rh h1 h2 h3 h4) ?_;have I1:Inv X ak O H {s with heap:=s.heap.push {cls:=.type "range",data:=.fields #[.int lo t,.int hi u,.int (-1) v]},toks:=tk}:=I.kept λb o e=>bQ _ e;refine⟨(s.heap.push {cls:=.type "range",data:=.fields #[.int lo t,.int hi u,.int (-1) v]}).objs.size,[(s.heap.push {cls:=.type "range",data:=.fields #[.int lo t,.int hi u,.int (-1) v]}).objs.size],_,_,H,Z,I1.kept (t':=tk) λb o e=>bQ _ e,Q8 _ lo (lo-hi).toNat,?_,λb hb=>?_,q⟩
 ·have e1:lo+((0:Nat):Int)*(-1)=lo:=by simp
  have e2:(((lo-hi).toNat:Nat):Int)-((0:Nat):Int)=Builtin.Range.rangeSize lo hi (-1):=by rw[Rq];lia
  show IsRangeIter _ _ (lo+((0:Nat):Int)*(-1)) ((((lo-hi).toNat:Nat):Int)-((0:Nat):Int)) (-1);rw[e1,e2];exact cS _ rfl
 ·have e:b=(s.heap.push {cls:=.type "range",data:=.fields #[.int lo t,.int hi u,.int (-1) v]}).objs.size:=by simpa using hb
  subst e;exact I1.mi (bq _) (I1.aY.fresh (bq _))
theorem Tz{a b c:Expr}{ta:TA}{p pos:Pos}(hg:Gl X "range")(hm:X.mg "range"=none)(ha:PA X [a,b,c] ta)(hs:starEach [a,b,c] X.env=[(false,eval a X.env),(false,eval b X.env),(false,eval c X.env)]:=by rfl)(gv:starEach [b,c] X.env=[(false,eval b X.env),(false,eval c X.env)]:=by rfl): PI X tg (.Call (.Name "range" p) [a,b,c] [] pos) (Y2 ta):=by intro ak s O H R I h;refine Call_ (m3 I hg hm boot_range (sE (aW (ha pos ak s O H _ I h) λus s1 ⟨vs,H1,I1,r1,q1⟩=>?_) (by rw[hs,gv]) (by rw[gv];rfl)));obtain⟨i,j,e,⟨q1,q2,q3,q4⟩,q⟩:=q1;subst e;cases r1 with |cons r rr=>cases rr with |cons r' rr=>cases rr with |cons Tb rr=>cases rr;obtain⟨t,rfl⟩:=r;obtain⟨t',rfl⟩:=r';obtain⟨t'',rfl⟩:=Tb;exact call_range_3 az (SK I1 q1 q2 q3 q4 q) (Or.inl (PyProof.noPylong_small aw))
theorem a1l{lo:Int}{n:Nat}{g:TG}{tb:TS}{D:Ends}{O:St}{H:Hp}(Pv:Nat->St->Hp->Prop)(h0:Pv 0 O H) (hs:∀i O H,i<n->Pv i O H->g (.int (lo-i)) O H λσ2 H2=>tb {D with nx:=Pv (i+1),ct:=Pv (i+1),bk:=D.nx} σ2 H2)(hd:∀O H,Pv n O H->D.nx O H): ∃W:Nat->Nat->St->Hp->Prop,(∃m,W 0 m O H)/\∀i m O H,W i m O H->((si lo n).stop i H/\D.nx O H)\/((si lo n).go i H/\∃N:St->Hp->Prop,(∀σ' H',N σ' H'->∃m',m'<m/\W (i+1) m' σ' H')/\∀x H',(si lo n).iD i H x H'->g x O H' λσ2 H2=>tb {D with nx:=N,ct:=N,bk:=D.nx} σ2 H2):=by
 refine⟨λi m O H=>m=n-i/\i<=n/\Pv i O H,⟨n,by simp,eQ _,h0⟩,?_⟩;rintro i m O H ⟨rfl,hi,hp⟩;by_cases h:i<n
 ·refine .inr ⟨h,Pv (i+1),λσ' H' rf=>⟨n-(i+1),aw,Z,aw,rf⟩,?_⟩
  rintro x H' ⟨rfl,rfl⟩;exact hs i O H' h hp
 ·have e:i=n:=by lia
  subst e;exact .inl ⟨bq _,hd O H hp⟩
end
structure MA(K:aa)(C:Addr)(m qual:Str)(st:Stmt):Prop where ex:∃f fd,Meth K C m f/\ir K m qual st f fd
def cU(P:af)(w:World)(K:aa)(mg:bf)(au:Heap)(C:Addr)(m:Str)(k:Nat)(sp:Sp):Prop:=∃f fd ps,f7 P w K mg au fV k f fd ps sp/\Meth K C m f/\Binds K fd ps []
structure CA(K:aa)(mg:bf)(C:Addr)(x qual:Str)(st:Stmt):Prop where
 WJ:mg x=some (.ref C)
 ex:∃f fd,Mk K C f/\ir K "__init__" qual st f fd
def rZ(P:af)(w:World)(K:aa)(mg:bf)(au:Heap)(C:Addr)(x:Str)(k:Nat)(sp:Sp):Prop:=∃f fd ps,f7 P w K mg au fV k f fd ps sp/\Mk K C f/\Binds K fd ps []/\mg x=some (.ref C)
section
variable {P:af}{w:World}{K:aa}{mg:bf}{au:Heap}
theorem jd{C:Addr}{m qual:Str}{st:Stmt}{f:Addr}{oc:Value}{od an:Option Addr}{dU:Array (Option Value)}{kV doc pm aG ct:Value} (a:PySem.W.findIn K (.ref C) m=some (some (.ref f)))(i:PySem.W.isFn K (.ref f)=true) (l:K.lookup f=some ⟨oc,od,.func (PySem.W.fnOf m qual (iS st) (eO st) (aP st) .none kV doc pm an aG ct),dU⟩) (c:PySem.W.codeIn K aG qual=true)(k:PySem.W.keepIn K (.ref f)=true):MA K C m qual st:=⟨f,_,⟨a,i,k⟩,yo l c k⟩
theorem NO{h:Heap}{C:Addr}{x qual:Str}{st:Stmt}{f:Addr}{oc:Value}{od an:Option Addr}{dU:Array (Option Value)}{kV doc pm aG ct:Value}(X:K.In h)(G:h.Ns mainGlobals mg) (aC:PySem.W.nsIn K mainGlobals x=some (some (.ref C)))(mk:PySem.W.makesIn K C=true)(kc:PySem.W.keepIn K (.ref C)=true) (a:PySem.W.findIn K (.ref C) "__init__"=some (some (.ref f)))(i:PySem.W.isFn K (.ref f)=true) (l:K.lookup f=some ⟨oc,od,.func (PySem.W.fnOf "__init__" qual (iS st) (eO st) (aP st) .none kV doc pm an aG ct),dU⟩) (c:PySem.W.codeIn K aG qual=true)(k:PySem.W.keepIn K (.ref f)=true):CA K mg C x qual st:=⟨nV X G aC,f,_,⟨mk,a,i,kc⟩,yo l c k⟩
theorem MA.has{C:Addr}{m qual:Str}{st:Stmt}{N ps:List Str}{k:Nat}{sp:Sp}(F:MA K C m qual st)(S:bh N ps (aP st))(len:∀vs H Q E,sp vs H Q E->vs.length=ps.length) (hb:∀(kV doc pm:Value)(an:Option Addr)(aG ct:Value)(us:List Value),us.length=ps.length->bindArgs (PySem.W.fnOf m qual (iS st) (eO st) (aP st) .none kV doc pm an aG ct) ⟨us,[]⟩=pure (ps.zip us)) (fw:∀(f:Addr)(aG:Value)(A:ai)(outer:List Env)(s:ae)(H:Hp)(vs:List V)(Q:VK)(E:XK),cn k (A.deeper (envOfC qual (aP st) s.heap.objs.size f aG))->sp vs H Q E->∃t,eV (fz fV P w K mg au N qual (aP st) f aG A outer s H E).oW (eO st) t/\t {nx:=λ_ H'=>Q .aZ H',rt:=Q} (start N vs) H):cU P w K mg au C m (k+1) sp:=by obtain⟨f,fd,hm,F⟩:=F.ex;exact⟨f,fd,ps,F.ok S len λaG A outer s H vs Q E=>fw f aG A outer s H vs Q E,hm,F.binds hb⟩
theorem CA.has{C:Addr}{x qual:Str}{st:Stmt}{N ps:List Str}{k:Nat}{sp:Sp}(F:CA K mg C x qual st)(S:bh N ps (aP st))(len:∀vs H Q E,sp vs H Q E->vs.length=ps.length) (hb:∀(kV doc pm:Value)(an:Option Addr)(aG ct:Value)(us:List Value),us.length=ps.length->bindArgs (PySem.W.fnOf "__init__" qual (iS st) (eO st) (aP st) .none kV doc pm an aG ct) ⟨us,[]⟩=pure (ps.zip us)) (fw:∀(f:Addr)(aG:Value)(A:ai)(outer:List Env)(s:ae)(H:Hp)(vs:List V)(Q:VK)(E:XK),cn k (A.deeper (envOfC qual (aP st) s.heap.objs.size f aG))->sp vs H Q E->∃t,eV (fz fV P w K mg au N qual (aP st) f aG A outer s H E).oW (eO st) t/\t {nx:=λ_ H'=>Q .aZ H',rt:=Q} (start N vs) H):rZ P w K mg au C x (k+1) sp:=by obtain⟨f,fd,hm,F'⟩:=F.ex;exact⟨f,fd,ps,F'.ok S len λaG A outer s H vs Q E=>fw f aG A outer s H vs Q E,hm,F'.binds hb,F.WJ⟩
end
section
variable {X:Cx}{k:Nat}{x m:Str}{C:Addr}{p pos apos:Pos}{o e:Expr}{es:List Expr}{t:TA}{ta:TE}{sp:Sp}
inductive Ou(C:Addr)(m:Str)(sp:Sp)(t:TA)(O:St)(Q:VK)(x:V)(H1:Hp):Prop |mk (a:_)(dx:_)(fs:_)(h0:x= .ref a)(h1:H1 a=some (.ins C dx fs))(h2:fs.lookup m=none)(h3:t O H1 λvs H2=>sp (x::vs) H2 Q E0)
def GC(C:Addr)(m:Str)(sp:Sp)(ta:TE)(t:TA):TE:=λO H Q=>ta O H λx H1=>Ou C m sp t O Q x H1
theorem KS{O:St}{Q:VK}{x:V}{H1:Hp}:sj C m sp [] E0 t O Q x H1=Ou C m sp t O Q x H1:=by
 have e1:(λ(vs:List V) H1=>sp (x::(vs++[])) H1 Q E0)=λvs H1=>sp (x::vs) H1 Q E0:=by funext vs H1;rw[lG]
 refine propext ⟨λ⟨a,dx,fs,h0,h1,h2,h3⟩=>⟨a,dx,fs,h0,h1,h2,?_⟩,λ⟨a,dx,fs,h0,h1,h2,h3⟩=>⟨a,dx,fs,h0,h1,h2,?_⟩⟩
 ·rw[<-e1];exact h3
 ·rw[e1];exact h3
theorem qy{pl:Sem Bool}(F:cU X.prog X.w X.K X.mg X.au C m k sp)(c:gM X.K C)(hr:cn k X.A)(he:PE X o ta)(ha:PA X (e::es) t) (fh:starEach (e::es) X.env=(false,eval e X.env)::starEach es X.env:=by rfl)(dN:(backTo pos (starEach es X.env)).any (·.1)=false:=by rfl) (ht:eval (.Call (.Attribute o m apos) (e::es) [] pos) X.env=(do
 let ov<-eval o X.env
 standAt apos.atName
 let(f,first)<-holding [ov] (getMethod ov m pl)
 callWith pos f first (backTo pos (starEach (e::es) X.env)) (backToKw pos (keywordEach [] X.env))):=by rfl): PE X (.Call (.Attribute o m apos) (e::es) [] pos) (GC C m sp ta t):=by
 obtain⟨f,fd,ps,F,hm,hb⟩:=F;have h:=K4 (pos:=pos) (apos:=apos) (pl:=pl) he c hm F hr hb .nil tT ha fh dN ht;intro ak s O H Q I hq;refine h ak s O H Q I ?_;show ta O H λx H1=>sj C m sp [] E0 t O Q x H1;simp only[KS];exact hq
theorem iI{pl:Sem Bool}(F:cU X.prog X.w X.K X.mg X.au C m k sp)(c:gM X.K C)(hr:cn k X.A)(he:PE X o ta) (ht:eval (.Call (.Attribute o m apos) [] [] pos) X.env=(do
 let ov<-eval o X.env
 standAt apos.atName
 let(f,first)<-holding [ov] (getMethod ov m pl)
 callWith pos f first (backTo pos (starEach [] X.env)) (backToKw pos (keywordEach [] X.env))):=by rfl): PE X (.Call (.Attribute o m apos) [] [] pos) (GC C m sp ta wA):=by
 obtain⟨f,fd,ps,F,hm,hb⟩:=F;have h:=TR (pos:=pos) (apos:=apos) (pl:=pl) he c hm F hr hb .nil tT ht;intro ak s O H Q I hq;refine h ak s O H Q I ?_;show ta O H λx H1=>sj C m sp [] E0 wA O Q x H1;simp only[KS];exact hq
def Qz(C:Addr)(sp:Sp)(t:TA):TE:=λO H Q=>t O H λvs H1=>∀x dx,H1 x=none->H1 dx=none->dx≠x->sp (.ref x::vs) (upd (upd H1 dx (.own x)) x (.ins C dx [])) (λv H2=>v= .aZ/\Q (.ref x) H2) E0
theorem K3(F:rZ X.prog X.w X.K X.mg X.au C x k sp)(hr:cn (k+1) X.A)(hg:Gl X x)(ha:PA X (e::es) t)(fv:(x==("__debug__":Str))=false:=by decide) (he:starEach (e::es) X.env=(false,eval e X.env)::starEach es X.env:=by rfl)(dN:(backTo pos (starEach es X.env)).any (·.1)=false:=by rfl): PE X (.Call (.Name x p) (e::es) [] pos) (Qz C sp t):=by
 obtain⟨f,fd,ps,F,M,hb,hm⟩:=F;have h:=TU (pos:=pos) (p:=p) M F hr hg hm hb .nil tT ha fv he dN;intro ak s O H Q I hq;refine h ak s O H Q I ?_;have e1:(λ(vs:List V) H1=>∀x dx,H1 x=none->H1 dx=none->dx≠x->sp (.ref x::(vs++[])) (upd (upd H1 dx (.own x)) x (.ins C dx [])) (λv H2=>v= .aZ/\Q (.ref x) H2) E0) =λvs H1=>∀x dx,H1 x=none->H1 dx=none->dx≠x->sp (.ref x::vs) (upd (upd H1 dx (.own x)) x (.ins C dx [])) (λv H2=>v= .aZ/\Q (.ref x) H2) E0:=by funext vs H1;rw[lG]
 show t O H λvs H1=>∀x dx,H1 x=none->H1 dx=none->dx≠x->sp (.ref x::(vs++[])) (upd (upd H1 dx (.own x)) x (.ins C dx [])) (λv H2=>v= .aZ/\Q (.ref x) H2) E0;rw[e1];exact hq
inductive IAt(C:Addr)(x:Str)(Q:VK)(v:V)(H1:Hp):Prop |mk (a dx:Addr)(fs:List (Str×V))(u:V)(h0:v= .ref a)(h1:H1 a=some (.ins C dx fs))(h2:fs.lookup x=some u)(h3:Q u H1)
theorem dM(T:gM X.K C)(hn:gj X.K C x)(he:PE X e ta)(hb:attributeBase e x X.env (eval e X.env)=eval e X.env:=by rfl): PE X (.Attribute e x pos) (λO H Q=>ta O H λv H1=>IAt C x Q v H1):=by intro ak s O H Q I h;refine O1 hb (aW (he ak s O H _ I h) λu s1 ⟨v,H1,I1,rx,a,dx,fs,w,ex,ea,l,q⟩=>?_);subst ex;obtain rfl:u=Value.ref a:=rx;exact a0P I1 ea T hn l λu' s2 I2 ru=>⟨w,H1,I2,ru,q⟩
inductive a6o(C:Addr)(x:Str)(D:Ends)(O:St)(y v:V)(H2:Hp):Prop |mk (a dx:Addr)(fs:List (Str×V))(h0:v= .ref a)(h1:H2 a=some (.ins C dx fs))(h2:fs.length<1000)(h3:D.nx O (upd H2 a (.ins C dx (gE x y fs))))
theorem gY{value:Expr}{tv:TE}{pos':Pos}(T:gM X.K C)(hn:gj X.K C x)(ha:PE X o ta)(hv:PE X value tv)(hs:swapsWith value (some (.Attribute o x pos')) pos.line X.env=pure false:=by rfl): PS X (.Assign [.Attribute o x pos'] value pos) (λD O H=>tv O H λy H1=>ta O H1 λv H2=>a6o C x D O y v H2):=by intro ak s O H D I h;refine plainObj_wpAny_Assign_Attribute (aW (hv ak s O H _ I h) λu s1 ⟨y,H1,I1,ry,q⟩=>aW (ha ak s1 O H1 _ I1 q) λov s2 ⟨v,H2,I2,rx,a,dx,fs,ex,ea,l,q2⟩=>?_) hs;subst ex;obtain rfl:ov=Value.ref a:=rx;exact RA I2 ea T hn l ry λs3 I3=>⟨O,_,I3,q2⟩
end
def cV(S:List Addr)(H H':Hp):Prop:=∀b o,H b=some o->b∉S->H' b=some o
theorem cV.refl(S:List Addr)(H:Hp):cV S H H:=λ_ _ e _=>e
def Fu:HO->Prop | .lst _=>True | .ins _ _ _=>True | .dK _=>True | .lJ _=>True |_=>False
def eG(H H':Hp):Prop:=∀b o,¬Fu o->H b=some o->H' b=some o
section
variable {K:aa} {H H' H2:Hp}
theorem eG.trans(a:eG H H')(b:eG H' H2):eG H H2:=λc o n e=>b c o n (a c o n e)
theorem gB.v(s:gB H H'):eG H H':=λb o n e=>s b o (λxs z=>n (by rw[z];trivial)) e
theorem aA.v(s:aA H H'):eG H H':=λb o _ e=>s b o e
theorem cV.v{S:List Addr}(s:cV S H H')(h:∀x∈S,∀o,H x=some o->Fu o):eG H H':=λb o n e=>s b o e λz=>n (h b z o e)
theorem eG.upd{a:Addr}{o o':HO}(h:H a=some o)(m:Fu o):eG H (upd H a o'):=λb p n e=>by
 have hb:b≠a:=λz=>by rw[z,h]at e;cases e;exact n m
 rw[bj hb];exact e
theorem aQ.v{a:Addr}{xs:List V}(s:eG H H')(h:aQ K H a xs):aQ K H' a xs:=h.imp (λr=>r.imp (s _ _ (λz=>z)) λ⟨o,e⟩=>⟨o,s _ _ (λz=>z) e⟩) id
mutual
theorem RD.v(s:eG H H'):∀{x:V}(d:ah),eZ d=true->RD K H x d->RD K H' x d |x,.none,_,h=>by simpa[RD]using h |x,.bool b,_,h=>by simpa[RD]using h |x,.int i,_,h=>by simpa[RD]using h |x,.str y,_,h=>by simpa[RD]using h |x,.list ds,n,h=>by simp[eZ]at n |x,.tuple ds,n,h=>by rw[RD]at h⊢;obtain⟨a,xs,e,h1,h2⟩:=h;exact⟨a,xs,e,h1.v s,aK.v s ds (by simpa[eZ]using n) h2⟩ |x,.dict _,_,h=>by simp[RD]at h
theorem aK.v (s:eG H H'):∀{xs:List V}(ds:List ah),cF ds=true->aK K H xs ds->aK K H' xs ds |xs,[],_,h=>by simpa[aK]using h |xs,d::ds,n,h=>by rw[aK]at h⊢;rw[cF,dm]at n;obtain⟨y,ys,e,h1,h2⟩:=h;exact⟨y,ys,e,RD.v s d n.1 h1,aK.v s ds n.2 h2⟩
end
end
section
variable {X:Cx}
end
theorem Ei{K:aa}{mg:bf}{x z:Str}{t:Tok}{h:Heap}(X:K.In h)(G:h.Ns mainGlobals mg)(a:PySem.W.nsIn K mainGlobals x=some (some (.str z t))):GV mg x (.str z):=⟨_,nV X G a,t,Z⟩
end L2
set_option exponentiation.threshold 6000
namespace L2
open PySem PySem.Spec PyProof.Rows
section
variable {X:Cx}
theorem fL:dI X (.type "str") (λxs H Q=>(∃i,xs=[.int i]/\i.natAbs.log2<1920/\Q (.str (toString i)) H)\/∃z,xs=[.str z]/\Q (.str z) H):=by
 intro ak s O H xs us Q I r h;rcases h with⟨i,rfl,hz,q⟩|⟨z,rfl,q⟩
 ·obtain⟨u,rfl,t,rfl⟩:=vals1 r
  exact PySem.P.str_of_int hz ⟨.str _,H,I.tok _,⟨_,Z⟩,q⟩
 ·obtain⟨u,rfl,t,rfl⟩:=vals1 r
  exact PySem.P.str_of_str ⟨.str _,H,I,⟨_,Z⟩,q⟩
def T3(x:V)(H:Hp)(Q:VK):Prop:=(∃i,x= .int i/\i.natAbs.log2<1920/\Q (.str (toString i)) H)\/∃z,x= .str z/\z.length<=sizeLine/\Q (.str z) H
theorem oO{e:Expr}{te:TE}{pos:Pos}(h:PE X e te):PE X (.FormattedValue e (-1) none pos) (λO H Q=>te O H λx H'=>T3 x H' Q):=by
 intro ak s O H Q I ht;refine wpAny_FormattedValue_plain (aW (h ak s O H _ I ht) λv s1 ⟨x,H1,I1,r1,q1⟩=>?_);rcases q1 with⟨i,rfl,hz,q⟩|⟨z,rfl,hz,q⟩
 ·obtain⟨t,rfl⟩:=r1
  exact wpAny_formatField_int hz ⟨.str _,H1,I1.tok _,⟨_,Z⟩,q⟩
 ·obtain⟨t,rfl⟩:=r1
  exact wpAny_formatField_str ⟨.str _,H1,I1,⟨_,Z⟩,q⟩ ⟨.str _,H1,I1.tok _,⟨_,Z⟩,q⟩ hz
abbrev TJ:=Str->St->Hp->VK->Prop
def PJ(X:Cx)(es:List Expr)(t:TJ):Prop:=∀(ak:List (Addr×Obj))(s:ae)(O:St)(H:Hp)(Q:VK)(acc:Str),Inv X ak O H s->t acc O H Q->Joins (model X.prog X.w) X.A X.xe (evalEach es X.env) acc (λout s₁=>out.length<=sizeLine/\EP X ak O Q (.str out s₁.toks) {s₁ with toks:=s₁.toks+1}) s
theorem Cf:PJ X [] (λacc O H Q=>acc.length<=sizeLine/\Q (.str acc) H):=by intro ak s O H Q acc I h;exact⟨h.1,.str _,H,I.tok _,⟨_,Z⟩,h.2⟩
theorem jU{e:Expr}{es:List Expr}{te:TE}{tj:TJ}(h:PE X e te)(hj:PJ X es tj)(he:evalEach (e::es) X.env=eval e X.env::evalEach es X.env:=by rfl): PJ X (e::es) (λacc O H Q=>te O H λx H'=>∃y,x= .str y/\(acc++y).length<=sizeLine/\tj (acc++y) O H' Q):=by intro ak s O H Q acc I ht;rw[he];refine aW (h ak s O H _ I ht) λv s1 ⟨x,H1,I1,r1,q1⟩=>?_;obtain⟨y,rfl,hl,q⟩:=q1;obtain⟨t,rfl⟩:=r1;exact⟨y,t,Z,hl,hj ak s1 O H1 Q _ I1 q⟩
theorem Cj{e1 e2:Expr}{es:List Expr}{t:TJ}{pos:Pos}(h:PJ X (e1::e2::es) t):PE X (.JoinedStr (e1::e2::es) pos) (λO H Q=>t Str.empty O H Q):=λak s O H Q I ht=>wpAny_JoinedStr (h ak s O H Q _ I ht)
theorem xN(sep:Str){B:Nat}:∀(zs:List Str),(∀z∈zs,z.length<=B)->(Txt.join sep zs).length<=zs.length*(B+sep.length)
 |[],_=>eQ _ |a::r,h=>by
  show(Builtin.Str.glued sep (a::r)).length<=_;rw[vE,len_join_cons];have:=sumLen_le_of_bound id B (a::r) h;rw[List.map_id]at this;rw[fW]at this⊢;have e1:(r.length+1)*(B+sep.length)=B*(r.length+1)+(r.length*sep.length+sep.length):=by rw[Nat.mul_add,Nat.mul_comm (r.length+1) B,Nat.add_mul r.length 1 sep.length,Nat.one_mul]
  lia
inductive a5V(K:aa)(x:V)(vs:List V)(H:Hp)(Q:VK):Prop |mk (sep:Str)(l:Addr)(zs:List Str)(h0:x= .str sep)(h1:vs=[.ref l])(h2:aH K H l (zs.map V.str))(h3:(∀z∈zs,z.length<=4000))(h4:sep.length<=8)(h5:zs.length<=1000)(h6:Q (.str (Txt.join sep zs)) H)
def JP(K:aa):V->List V->Hp->VK->Prop:=λx vs H Q=>a5V K x vs H Q
theorem WD(K:aa)(hK:X.K=K):rY X "str.join" (JP K):=by subst hK;intro ak s O H x vs v us Q I rx rv h;obtain⟨sep,l,zs,rfl,rfl,hl,hz,hs,hn,q⟩:=h;obtain⟨t,rfl⟩:=rx;obtain⟨u,rfl,ru⟩:=vals1 rv;cases(show u=Value.ref l from ru);obtain⟨its,r,pl,_⟩:=I.list hl;have Yj:=sumLen_le_of_bound id 4000 zs hz;rw[List.map_id]at Yj;have h1:zs.length*sep.length<=1000*8:=FO hn hs;refine join_list (ys:=zs) pl.isList (StrsAre.of_carried (NM r)) aw λt' k=>?_;exact⟨.str _,H,I.tok _,⟨_,Z⟩,q⟩
theorem lN(K:aa)(h:X.K=K){o e:Expr}{to:TE}{t:TA}{apos bT:Pos}(ho:PE X o to)(ha:PA X [e] t) (jm:attributeBase o "join" X.env (eval o X.env)=eval o X.env:=by rfl) (jk:((backTo bT (starEach [e] X.env)).all (λx=>!x.1)&&(backToKw bT (keywordEach [] X.env)).all (λx=>x.1.isSome) &&decide ([e].length+([]:List Keyword).length+(if([]:List Keyword).isEmpty then 0 else 1)<30))=true:=by rfl) (jj:(apos.endLine==bT.line)=true:=by rfl)(hs:starEach [e] X.env=(false,eval e X.env)::starEach [] X.env:=by rfl)(ji:(backTo bT (starEach [] X.env)).any (·.1)=false:=by rfl): PE X (.Call (.Attribute o "join" apos) [e] [] bT) (oh K "str" (JP K) to t):=by subst h;exact qz OT PySem.F.slot_str_join PySem.F.type_str_join (WD X.K rfl) ho ha jm jk jj hs ji
theorem Gk{i:Int}(h:i.natAbs<10^40):(Str.ofString (toString i)).length<=41:=by rw[PySem.ofString_length];exact int_text_length_le10 (k:=40) az h
theorem iQ{i:Int}(h:i.natAbs<10^40):i.natAbs.log2<1920:=by
 by_cases h0:i.natAbs=0
 ·rw[h0];decide
 ·exact(Nat.log2_lt h0).mpr (vN h az)
theorem NN:∀(l:List (Str×Tok)),Vals ((l.map (·.1)).map V.str) (strValues l) |[]=>.nil |(z,t)::l=>.cons ⟨t,Z⟩ (NN l)
theorem split_len(x y:Str):(Txt.split x y).length<=x.length+2:=by
 unfold Txt.split;split
 ·simp
 ·split
  ·simp
  ·have e1:=StrLaws.occ_length_le x y 0 x.length (x.length+1)
   rw[length_partsBetween];omega
inductive a5O(x:V)(vs:List V)(H:Hp)(Q:VK):Prop |mk (z y:Str)(h0:x= .str z)(h1:vs=[.str y])(h2:(y.length==0)=false)(h3:z.length+2<=sizeLine)(h4:∀p H',Nw H H' p (.lst ((Txt.split z y).map V.str))->Q (.ref p) H')
def JN:V->List V->Hp->VK->Prop:=λx vs H Q=>a5O x vs H Q
theorem WB:rY X "str.split" JN:=by
 intro ak s O H x0 vs v us Q I rx rv h;obtain⟨x,y,rfl,rfl,hy,hz,q⟩:=h;obtain⟨t,rfl⟩:=rx;obtain⟨u0,rfl,u,rfl⟩:=vals1 rv;have key:∀(l:List (Str×Tok))(k:Nat),l.map (·.1)=Txt.split x y->EP X ak O Q (.ref s.heap.objs.size) {s with toks:=k,heap:=s.heap.push {cls:=.type "list",data:=.seq (strValues l).toArray}}:=λl k e=>by have nw:Nw H (upd H s.heap.objs.size (.lst ((Txt.split x y).map V.str))) s.heap.objs.size (.lst ((Txt.split x y).map V.str)):=.of (I.aY.fresh (bq _));refine⟨.ref s.heap.objs.size,_,I.laid (t':=k) (o:=.lst ((Txt.split x y).map V.str)) (λb ob q=>bQ _ q) (bq _) ?_,Z,q _ _ nw⟩;have:=split_len x y;exact⟨by rw[bD];omega,_,0,by rw[<-e];exact NN l,cS _ Z⟩
 cases h1:(decide (x.length<y.length)||decide (Builtin.Str.strKind x<Builtin.Str.strKind y))
 ·cases hf:(Builtin.Str.occurrences x y 0 x.length (x.length+1)).isEmpty
  ·have e1:=StrLaws.occ_length_le x y 0 x.length (x.length+1)
   refine sy F.slot_str_split (typeIs_str _ _ _) F.entry_str_split (F.args_str_split_2 _ _) (meets_str_split_sep x y t u h1 hy hf bp (by rw[length_partsBetween];omega)) ?_;show wants _ _ _ {s with toks:=_,heap:=s.heap.push {cls:=.type "list",data:=.seq (strsFrom s.toks (Builtin.Str.partsBetween x (Builtin.Str.occurrences x y 0 x.length (x.length+1)) y.length)).toArray}};rw[strsFrom_eq];exact key (numbered s.toks _) _ ((numbered_texts _ _).trans ((aV (OH h1)).trans (aV (OH hf))).symm)
  ·exact sy F.slot_str_split (typeIs_str _ _ _) F.entry_str_split (F.args_str_split_2 _ _) (meets_str_split_not_found x y t u h1 hy hf) (key [(x,t)] s.toks ((aV (OH h1)).trans (aU hf)).symm)
 ·exact sy F.slot_str_split (typeIs_str _ _ _) F.entry_str_split (F.args_str_split_2 _ _) (meets_str_split_cannot_occur x y t u h1) (key [(x,t)] s.toks (aU h1).symm)
theorem Cm(K:aa)(h:X.K=K){o e:Expr}{to:TE}{t:TA}{apos bT:Pos}(ho:PE X o to)(ha:PA X [e] t) (jm:attributeBase o "split" X.env (eval o X.env)=eval o X.env:=by rfl) (jk:((backTo bT (starEach [e] X.env)).all (λx=>!x.1)&&(backToKw bT (keywordEach [] X.env)).all (λx=>x.1.isSome) &&decide ([e].length+([]:List Keyword).length+(if([]:List Keyword).isEmpty then 0 else 1)<30))=true:=by rfl) (jj:(apos.endLine==bT.line)=true:=by rfl)(hs:starEach [e] X.env=(false,eval e X.env)::starEach [] X.env:=by rfl)(ji:(backTo bT (starEach [] X.env)).any (·.1)=false:=by rfl): PE X (.Call (.Attribute o "split" apos) [e] [] bT) (oh K "str" JN to t):=by subst h;exact qz OT PySem.F.slot_str_split PySem.F.type_str_split WB ho ha jm jk jj hs ji
inductive a5T(x:V)(vs:List V)(H:Hp)(Q:VK):Prop |mk (z y:Str)(h0:x= .str z)(h1:vs=[.str y])(h3:z.length<=sizeLine)(h4:Q (.str (Txt.removeprefix z y)) H)
def JO:V->List V->Hp->VK->Prop:=λx vs H Q=>a5T x vs H Q
theorem WC:rY X "str.removeprefix" JO:=by intro ak s O H x0 vs v us Q I rx rv h;obtain⟨x,y,rfl,rfl,hz,q⟩:=h;obtain⟨t,rfl⟩:=rx;obtain⟨u0,rfl,u,rfl⟩:=vals1 rv;exact SC.removeprefix (λt' k=>⟨.str _,H,I.kept (t':=k) (λ_ _ e=>e),⟨_,Z⟩,q⟩) (hsz:=hz)
theorem U3(K:aa)(h:X.K=K){o e:Expr}{to:TE}{t:TA}{apos bT:Pos}(ho:PE X o to)(ha:PA X [e] t) (jm:attributeBase o "removeprefix" X.env (eval o X.env)=eval o X.env:=by rfl) (jk:((backTo bT (starEach [e] X.env)).all (λx=>!x.1)&&(backToKw bT (keywordEach [] X.env)).all (λx=>x.1.isSome) &&decide ([e].length+([]:List Keyword).length+(if([]:List Keyword).isEmpty then 0 else 1)<30))=true:=by rfl) (jj:(apos.endLine==bT.line)=true:=by rfl)(hs:starEach [e] X.env=(false,eval e X.env)::starEach [] X.env:=by rfl)(ji:(backTo bT (starEach [] X.env)).any (·.1)=false:=by rfl): PE X (.Call (.Attribute o "removeprefix" apos) [e] [] bT) (oh K "str" JO to t):=by subst h;exact qz OT PySem.F.slot_str_removeprefix PySem.F.type_str_removeprefix WC ho ha jm jk jj hs ji
inductive a63(xs:List V)(H:Hp)(Q:VK):Prop |mk (z:Str)(n:Int)(h0:xs=[.str z])(h1:PySem.intText? z=some n)(h2:z.length<=640)(h3:Q (.int n) H)
theorem a3C:dI X (.type "int") (λxs H Q=>a63 xs H Q):=by intro ak s O H xs us Q I r h;obtain⟨z,n,rfl,hn,hl,q⟩:=h;obtain⟨u,rfl,t,rfl⟩:=vals1 r;exact PySem.W.KIN.call_text hn hl ⟨.int _,H,I.tok _,⟨_,Z⟩,q⟩
inductive a6m(K:aa)(t1 t2:TG)(v:V)(O:St)(H:Hp)(Q:St->Hp->Prop):Prop |mk (a:Addr)(x:V)(xs:List V)(h0:v= .ref a)(h1:aH K H a (x::xs))(h2:xs.length<=16000)(h3:∀p H',Nw H H' p (.lst xs)->t1 x O H' λσ1 H1=>t2 (.ref p) σ1 H1 Q)
def a1e(K:aa)(t1 t2:TG):TG:=λv O H Q=>a6m K t1 t2 v O H Q
theorem Ci(K:aa)(hK:X.K=K){e1 e2:Expr}{k:Nat}{t1 t2:TG}{sp pos:Pos}(hc:X.calm=true)(h1:PG X e1 t1)(h2:PG X e2 t2) (hs:assignEach [e1,.Starred e2 sp] X.env=[(false,assign e1 X.env),(true,assign e2 X.env)]:=by rfl):PG X (.Tuple [e1,.Starred e2 sp] k pos) (a1e K t1 t2):=by subst hK;intro ak s O H v u Q I r hw;obtain⟨a,x,xs,e,hq,hl,hw⟩:=hw;subst e;cases r;obtain⟨its,rv,ht,hz⟩:=I.list hq;have hh:X.A.handled=none:=I.ok.hd hc;have uC:=ht.isList;cases rv with |cons r1 rr=>
 rename_i ux fQ;have hlen:=rr.length;have bZ:a≠s.heap.objs.size:=by obtain⟨o,ho,_⟩:=uC;exact dw (bN ho)
 rw[assign_Tuple];refine aD (pX ?_);unfold unpack;rw[hs];refine aD (gO ?_);show wpAny _ _ (unpackItems (.ref a) 2 (some 1)) _ _ _;unfold unpackItems;refine aD ?_;unfold notIterableAtAll;refine aD (wpAny_specialOf uC.typeIs slot_list_iter.lookup ?_);refine bA ?_;simp only[Bool.false_eq_true,if_false];refine aD (gO (vt uC ?_));have sz:(ux::fQ).toArray.size=xs.length+1:=by rw[dG,fW,hlen]
 refine aD (gO (PySem.W.kun_draw bZ 1 0 _ _ ⟨_,cS _ Z,Z,Z⟩ (uC.push _) bp λh₁ DQ LI=>?_));have LQ:h₁.IsList a (ux::fQ).toArray:=(uC.push _).extBut LI.extBut bZ;rw[Nat.zero_add]at DQ;have YV:=DQ;obtain⟨oi,ib,_⟩:=YV;have YH:=LQ;obtain⟨ol,m7,_⟩:=YH;rw[aV (by simp)];refine aD (gO (PySem.W.kun_collect (s:={s with heap:=h₁}) (T:="list_iterator") (.inr (.inr (.inl rfl))) (Walks.list (A:=X.A.in1) hh s.heap.objs.size a bZ (ux::fQ).toArray) (λj u st=>st.1.typeIs) (k:=1) bp ⟨DQ,LQ⟩ (bN ib) (bN m7) (λh₂ tk hk=>?_) (by rw[vz];omega)));have ea:(ux::fQ).toArray.toList.drop 1=fQ:=by simp
 rw[ea];show wpAny _ _ (if fQ.length<2-1-1 then _ else _) _ _ _;rw[aV bp];show wpAny _ _ (newList (fQ.take (fQ.length-(2-1-1)))>>=λd=>pure ((ux::fQ).toArray.toList.take 1++[d]++fQ.drop (fQ.length-(2-1-1)))) _ _ _;have eb:fQ.take (fQ.length-(2-1-1))=fQ:=zC bp;have ec:fQ.drop (fQ.length-(2-1-1))=[]:=List.drop_eq_nil_of_le bp;rw[eb,ec];have he:Heap.ExtBut s.heap.objs.size s.heap h₂:=λb o hb e=>hk b o hb (LI.extBut b o hb (bQ _ e));refine aD (wpAny_newList (s:={s with heap:=h₂,toks:=tk}) (bA ?_) ?_)
 ·have I2:Inv X ak O H {s with heap:=h₂,toks:=tk}:=I.kept (t':=tk) λb o e=>he b o (dw (bN e)) e
  have nw:Nw H (upd H h₂.objs.size (.lst xs)) h₂.objs.size (.lst xs):=.of (I2.aY.fresh (bq _));have I3:Inv X ak O (upd H h₂.objs.size (.lst xs)) {s with heap:=h₂.push {cls:=.type "list",data:=.seq fQ.toArray},toks:=tk}:=I2.laid (t':=tk) (o:=.lst xs) (λb ob q=>bQ _ q) (bq _) ⟨by rw[fW]at hz;omega,fQ,0,rr,cS _ rfl⟩;show wpAny _ _ (assignInOrder (assign e1 X.env::[assign e2 X.env]) (ux::[Value.ref h₂.objs.size])) _ _ _;refine zv (aW (h1 ak _ O _ _ _ _ I3 r1 (hw _ _ nw)) λ_ s1 ⟨σ1,H1,I1,q1⟩=>?_);refine zv (aW (h2 ak s1 σ1 H1 (.ref h₂.objs.size) _ _ I1 Z q1) λ_ s2 ⟨σ2,H2,I2,q2⟩=>?_);exact assignInOrder_nil ⟨σ2,H2,I2,q2⟩
 ·rw[<-hlen,vz];omega
end
end L2
namespace Tm
open PySem PySem.Spec PyProof.Rows PySem.NumText
def Free(c:Nat)(z:Str):Prop:=c∉z.cps.toList
def gl(c:Nat):List (List Nat)->List Nat |[]=>[] |[x]=>x |x::y::r=>x++c::gl c (y::r)
theorem Ek(c:Nat):∀zs:List Str,(PySem.Str.join ⟨#[c]⟩ zs).cps.toList=gl c (zs.map λz=>z.cps.toList) |[]=>by simp[PySem.Str.join,PySem.Str.empty,gl] |[x]=>rfl |x::y::r=>by show((x++⟨#[c]⟩)++PySem.Str.join ⟨#[c]⟩ (y::r)).cps.toList=_;rw[sD,sD,sM,sM,Ek c (y::r)];show(x.cps.toList++[c])++gl c _=x.cps.toList++c::gl c _;rw[List.append_assoc];rfl
theorem Nv{c:Nat}:∀{a b r s:List Nat},c∉a->c∉b->a++c::r=b++c::s->a=b/\r=s |[],[],r,s,_,_,e=>by simpa using e |[],y::b,r,s,_,h,e=>by simp at e;exact(h (by rw[e.1];exact .head _)).elim |x::a,[],r,s,h,_,e=>by simp at e;exact(h (by rw[<-e.1];exact .head _)).elim |x::a,y::b,r,s,h1,h2,e=>by simp only[List.cons_append,List.cons.injEq]at e;obtain⟨e1,e2⟩:=Nv (λz=>h1 (.tail _ z)) (λz=>h2 (.tail _ z)) e.2;exact⟨by rw[e.1,e1],e2⟩
theorem Ma{c:Nat}:∀{as bs:List (List Nat)},as≠[]->bs≠[]->(∀a∈as,c∉a)->(∀b∈bs,c∉b)->gl c as=gl c bs->as=bs
 |[],_,h,_,_,_,_=>(h Z).elim |_,[],_,h,_,_,_=>(h Z).elim |[a],[b],_,_,_,_,e=>by rw[show a=b from e] |[a],b::b'::r,_,_,ha,_,e=>by
  have:c∈a:=by rw[show a=b++c::gl c (b'::r)from e];simp
  exact(ha a (.head _) this).elim |a::a'::r,[b],_,_,_,hb,e=>by
  have:c∈b:=by rw[<-show a++c::gl c (a'::r)=b from e];simp
  exact(hb b (.head _) this).elim |a::a'::r,b::b'::s,_,_,ha,hb,e=>by obtain⟨e1,e2⟩:=Nv (ha a (.head _)) (hb b (.head _)) (show a++c::gl c (a'::r)=b++c::gl c (b'::s)from e);rw[e1,Ma (by simp) (by simp) (λx hx=>ha x (.tail _ hx)) (λx hx=>hb x (.tail _ hx)) e2]
theorem EN{x y:Str}(h:x.cps.toList=y.cps.toList):x=y:=PySem.Str.ext' (Array.toList_inj.mp h)
theorem map_inj:∀{xs ys:List Str},xs.map (λz=>z.cps.toList)=ys.map (λz=>z.cps.toList)->xs=ys |[],[],_=>rfl |[],y::ys,h=>by simp at h |x::xs,[],h=>by simp at h |x::xs,y::ys,h=>by simp only[qf,List.cons.injEq]at h;rw[EN h.1,map_inj h.2]
theorem GU(x y:Str):Txt.split x y≠[]:=by
 unfold Txt.split;split
 ·simp
 ·split
  ·simp
  ·rw[StrLaws.partsBetween_eq]
   obtain⟨p,r,e⟩:=StrLaws.partsFrom_ne x y.length 0 (Builtin.Str.occurrences x y 0 x.length (x.length+1));rw[e];simp
theorem GW{c:Nat}{zs:List Str}(cQ:zs≠[])(hf:∀z∈zs,Free c z):Txt.split (Txt.join ⟨#[c]⟩ zs) ⟨#[c]⟩=zs:=by
 have e:=StrLaws.join_split (Txt.join ⟨#[c]⟩ zs) ⟨#[c]⟩;have fr:=StrLaws.split_free (Txt.join ⟨#[c]⟩ zs) c;have e2:Txt.join ⟨#[c]⟩ zs=PySem.Str.join ⟨#[c]⟩ zs:=vE _ _;have e3:=jL (λz:Str=>z.cps.toList) (e.trans e2);simp only[Ek]at e3;refine map_inj (Ma (by simpa using GU _ _) (by simpa using cQ) (λa ha=>?_) (λb hb=>?_) e3)
 ·obtain⟨z,hz,rfl⟩:=cB.mp ha
  exact fr z hz
 ·obtain⟨z,hz,rfl⟩:=cB.mp hb
  exact hf z hz
def numS(i:Int):Str:=Str.ofString (toString i)
def isFig(c:Nat):Bool:=decide (48<=c)&&decide (c<=57)
def figs(z:Str):List Nat:=match z.cps.toList with |45::r=>r |l=>l
def numIn? (z:Str):Option Int:=bif (figs z).isEmpty|| !(figs z).all isFig then none else bif decide ((figs z)[0]? =some 48)&& !decide (z="0")then none else intText? z
theorem Mx{cs:List Nat}(h:cs.all isFig=true):AllDigits cs:=λc hc=>by have:=fb.mp h c hc;simpa[isFig]using this
theorem Ng{cs:List Nat}(h:AllDigits cs):cs.all isFig=true:=fb.mpr λc hc=>by have:=h c hc;simpa[isFig]using this
theorem uZ(m:Nat):(numS (m:Int)).cps.toList=(Nat.toDigits 10 m).map Char.toNat:=PySem.W.KIN.signs_num m
theorem yP(m:Nat):(numS (Int.negSucc m)).cps.toList=45::(Nat.toDigits 10 (m+1)).map Char.toNat:=by unfold numS;rw[signs_ofString];show("-"++Nat.repr (m+1)).toList.map Char.toNat=_;rw[String.toList_append,lF,Nat.toList_repr];rfl
theorem lu(m:Nat):AllDigits ((Nat.toDigits 10 m).map Char.toNat):=λc hc=>by obtain⟨ch,jE,e⟩:=cB.mp hc;have r:=digit_range (Nat.isDigit_of_mem_toDigits az az jE);rw[<-e];exact r
theorem yN(m:Nat):(Nat.toDigits 10 m).map Char.toNat≠[]:=λe=>by have h:=toDigits_len_ge 10 m;rw[List.map_eq_nil_iff.mp e]at h;exact absurd h az
theorem a39:∀d:Nat,d<10->d≠0->(Nat.digitChar d).toNat≠48:=by decide
theorem Lh(m:Nat)(h0:m≠0):((Nat.toDigits 10 m).map Char.toNat)[0]? ≠some 48:=by induction m using Nat.strongRecOn with |_ m ih=>
 by_cases h:m<10
 ·rw[Nat.toDigits_of_lt_base h]
  simpa using a39 m h h0
 ·have hm:m%10<10:=Nat.mod_lt m az
  have t:Nat.toDigits 10 (m/10)++Nat.toDigits 10 (m%10)=Nat.toDigits 10 (10*(m/10)+m%10):=Nat.toDigits_append_toDigits az bp hm;rw[Nat.div_add_mod]at t;rw[<-t,lF,vS (vQ.mpr (yN _))];exact ih (m/10) bp bp
theorem a37(m:Nat):((Nat.toDigits 10 m).map Char.toNat).head? ≠some 45:=λe=>by have:=lu m 45 (List.mem_of_mem_head? e);omega
theorem a1u{z:Str}{l:List Nat}(h:z.cps.toList=l)(hh:l.head? ≠some 45):figs z=l:=by
 unfold figs;rw[h];split
 ·simp at hh
 ·rfl
theorem a1w(m:Nat):figs (numS (m:Int))=(Nat.toDigits 10 m).map Char.toNat:=a1u (uZ m) (a37 m)
theorem a1v(m:Nat):figs (numS (Int.negSucc m))=(Nat.toDigits 10 (m+1)).map Char.toNat:=by unfold figs;rw[yP];rfl
theorem MZ(m:Nat):((Nat.toDigits 10 m).map Char.toNat).isEmpty=false:=by have:=yN m;cases h:(Nat.toDigits 10 m).map Char.toNat with |nil=>exact(this h).elim |cons=>rfl
theorem CH{i:Int}(hl:(numS i).length<=4300):numIn? (numS i)=some i:=by unfold numIn?;cases i with
 |ofNat m=>
  have ef:figs (numS (Int.ofNat m))=(Nat.toDigits 10 m).map Char.toNat:=a1w m;have ec:(numS (Int.ofNat m)).cps.toList=(Nat.toDigits 10 m).map Char.toNat:=uZ m;have e:=intText_digits (x:=numS (Int.ofNat m)) (by rw[ec];exact lu m) (by rw[ec];exact yN m) hl;rw[ec,PySem.W.KIN.val_back]at e;rw[ef,Ng (lu m),MZ,e];have h2:(decide (((Nat.toDigits 10 m).map Char.toNat)[0]? =some 48)&& !decide (numS (Int.ofNat m)="0"))=false:=by
   by_cases h0:m=0
   ·subst h0;decide+kernel
   ·rw[dP (Lh m h0)];rfl
  rw[h2];rfl |negSucc m=>have e:=intText_neg (x:=numS (Int.negSucc m)) (yP m) (lu (m+1)) (yN (m+1)) hl;rw[PySem.W.KIN.val_back]at e;rw[a1v,Ng (lu (m+1)),MZ,dP (Lh (m+1) bp),e];exact jL some (Int.negSucc_eq m).symm
theorem mW{i:Int}{c:Nat}(h:c≠45)(h1:c<48):Free c (numS i):=λhc=>by cases i with |ofNat m=>rw[show(numS (Int.ofNat m)).cps.toList=_ from uZ m]at hc;have:=lu m c hc;omega |negSucc m=>
 rw[yP]at hc;rcases bS.mp hc with e|hc
 ·exact h e
 ·have:=lu (m+1) c hc
  omega
theorem XS{z:Str}(h1:figs z≠[])(h2:(figs z).all isFig=true)(hl:z.length<=4300):∃n,intText? z=some n:=by
 unfold figs at h1 h2;split at h1
 ·rename_i r h
  rw[h]at h2;exact⟨_,intText_neg h (Mx h2) h1 hl⟩
 ·rename_i h
  split at h2
  ·rename_i r h'
   exact(h r h').elim
  ·exact⟨_,intText_digits (Mx h2) h1 hl⟩
theorem Sr(z:Str):(Txt.removeprefix z "-").cps.toList=figs z:=by
 rw[StrLaws.removeprefix_eq];have e1:(Str.ofString "-").cps.toList=[45]:=by decide+kernel
 have e2:(Str.ofString "-").length=1:=by decide+kernel
 have hn:z.cps.toList.length=z.length:=by simp[Str.length]
 rw[e2,StrLaws.subAt_eq,e1,e2,List.drop_zero];unfold figs;cases hz:z.cps.toList with |nil=>rw[hz]at hn;have h0:z.length=0:=hn.symm;rw[aV (by simp)];exact hz |cons a r=>
  rw[hz]at hn;simp only[fW]at hn;by_cases ha:a=45
  ·subst ha
   rw[aU (by simp;omega)];show((List.drop 1 (45::r)).take _).toArray.toList=r;rw[List.drop_one,List.tail_cons,zC bp]
  ·rw[aV (by simp;intro _;exact λe=>ha (by simpa using e))]
   rw[hz];split
   ·rename_i h;simp at h;exact(ha h.1).elim
   ·rfl
end Tm
namespace Pn
section
variable {n:Nat}{own:Nat->Rat}{L:Nat->Option Nat}{r f:Int}
end
end Pn
namespace Ow
open Pn Ln Cn
end Ow
namespace Pn
section
variable {n:Nat}{own Kc:Nat->Rat}{L L':Nat->Option Nat}{r f:Int}
end
section
variable {n:Nat}{own Kc q:Nat->Rat}{L:Nat->Option Nat}{r f r' f':Int}
end
end Pn
namespace Ow
open Pn Ln Cn
end Ow
namespace Pn
section
variable {n:Nat}{own Kc:Nat->Rat}{L L':Nat->Option Nat}{r f:Int}{c:Nat}
end
end Pn
namespace Ow
open Pn
section
variable (j rate:Int) (os1 Cu:List Itm)
end
end Ow
namespace Pn
section
variable {n:Nat}{own:Nat->Rat}{L:Nat->Option Nat}{r f:Int}
theorem Mv{g:Nat->Rat}{i:Nat}(hi:i<=n):fl n L f g i<=g i:=by
 rcases Nat.lt_or_ge i n with h|h
 ·cases e:L i with |none=>rw[pE h e];exact iy |some m=>rw[nF h e];exact xC _ _
 ·have:i=n:=by lia
  subst this;rw[nE];exact iy
theorem Mu{g:Nat->Rat}(hf:0<=f)(h0:∀i,i<=n->0<=g i):∀i,i<=n->0<=fl n L f g i:=by
 refine down ?_ ?_
 ·rw[nE];exact h0 n (bq _)
 ·intro i hi ih
  cases e:L i with |none=>rw[pE hi e];exact h0 i aw |some m=>rw[nF hi e];exact kg (h0 i aw) (qT ih (qP hf))
theorem a4r(hr:0<=r)(hf:0<=f):∀i,i<=n->Rz (fl n L f own) L r i=gq n own L r f i:=by
 refine To hr hf ⟨λi hi=>kG (zf i) (Mv hi),λi m hi h=>?_,λi m hi h=>?_⟩ ?_
 ·rw[jI h];exact ug _ _
 ·rw[jI h]
  rcases xD (fl n L f own (i+1)) (Rz (fl n L f own) L r i+((r*(m:Int):Int):Rat))with e|e
  ·rw[e]
   refine kG (zf i) ?_;rw[nF hi h];exact ug _ _
  ·rw[e]
   exact qT (qT iy (qP hr)) (qP hf)
 ·intro q' k
  have h1:∀i,i<=n->q' i<=fl n L f own i:=by
   refine down ?_ ?_
   ·rw[nE];exact k.own n (bq _)
   ·intro i hi ih
    cases e:L i with |none=>rw[pE hi e];exact k.own i aw |some m=>rw[nF hi e];exact kg (k.own i aw) (kG (k.MF i m hi e) (add_r ih))
  intro i;induction i with |zero=>exact λhi=>h1 0 hi |succ i ih=>intro hi;cases e:L i with |none=>rw[mB e];exact h1 _ hi |some m=>rw[jI e];exact kg (h1 _ hi) (kG (k.rise i m aw e) (add_r (ih aw)))
theorem a1q{g:Nat->Rat}(hf:0<=f)(h0:∀i,i<=n->0<=g i)(hg:g 0=0):fl n L f g 0=g 0:=vI (Mv (eQ _)) (by rw[hg];exact Mu hf h0 0 (eQ _))
theorem a4q{g:Nat->Rat}(hr:0<=r)(h0:∀i,i<=n->0<=g i)(hg:g n=0):Rz g L r n=g n:=vI (zf n) (by rw[hg];exact Oc hr h0 n (bq _))
end
end Pn
namespace Rn
open Pn Rt Ln
open Ow (topR ownF leadF Itm OkIs)
structure Dd(D:Nat)(q:Rat):Prop where
 nn:0<=q
 den:q.den<2^D
theorem Dd.mono{D E:Nat}{q:Rat}(h:Dd D q)(l:D<=E):Dd E q:=⟨h.nn,fk h.den (vL az l)⟩
theorem Dd.bd{D:Nat}{q:Rat}(h:Dd D q)(hl:q<=2000):Bd (D+11) q:=by
 have h1:=Rat.num_nonneg.mpr h.nn;have pC:¬((2000:Rat)<q):=nU.mpr hl;rw[vG]at pC;have e1:(2000:Rat).num=2000:=rfl;have e2:(2000:Rat).den=1:=rfl;rw[e1,e2]at pC;have h2:q.num<=2000*(q.den:Int):=by lia
 refine⟨?_,fk h.den (vL az aw)⟩;have h3:=h.den;have h4:q.num.natAbs<=2000*q.den:=by lia
 have h5:(2:Nat)^(D+11)=2^D*2048:=by rw[Nat.pow_add]
 rw[h5];have h6:2000*q.den<2000*2^D:=Nat.mul_lt_mul_of_pos_left h3 az
 lia
abbrev pR:=Option (Rat × Int × Int)
def a4p(D:Nat)(pc:Rat):pR->Prop |none=>True |some (sq,st,gn)=>0<=gn/\gn<=st/\st<=1000/\Dd D sq/\sq<=2000/\(st=0->pc=0)/\pc*(st:Rat)<=sq*((st-gn:Int):Rat)
def Halt(pc:Rat)(eg:pR):Prop:=eg≠none/\pc=0
section
variable {D:Nat}{r f:Int}{pc top R:Rat}{left:Int}{eg:pR}
end
end Rn
namespace L2
open PySem PySem.Spec PyProof.Rows
theorem a38(f:Array Value->Array Value)(o:Obj):(o.mapFields f).dict=o.dict:=by obtain⟨c,d,dt,sl⟩:=o;cases dt<;>rfl
def TrD(h B:Heap)(ex:Addr)(cls:Value)(dx:Option Addr)(fl:Value):Prop:=∃ob fs tb ot ts,h.get? ex=some ob/\ob.cls=cls/\ob.dict=dx/\ob.data= .fields fs/\fs[1]? =some (.ref tb)/\B.get? tb=none/\tb≠ex/\h.get? tb=some ot/\ot.data= .fields ts/\ts[3]? =some fl/\fs[2]? =some .none
def iY(B:Heap)(l:List Env)(ex:Addr)(cls:Value)(dx:Option Addr)(fl:Value)(h:Heap):Prop:=B.StaysIn h/\B.get? ex=none/\h.FunFrames B l/\TrD h B ex cls dx fl
theorem iY.there{B h:Heap}{l:List Env}{ex:Addr}{cls fl:Value}{dx:Option Addr}(x:iY B l ex cls dx fl h):∃ob,h.get? ex=some ob/\ob.cls=cls/\ob.dict=dx/\∃fs,ob.data= .fields fs/\fs[2]? =some .none:=by obtain⟨_,_,_,ob,fs,_,_,_,e,c,d,z,_,_,_,_,_,_,z2⟩:=x;exact⟨ob,e,c,d,fs,z,z2⟩
section
variable {M:Model}{A:ai}{E:Value->ae->Prop}{s:ae}{B:Heap}{env:Env}{outer:List Env}{L ex:Addr}{ob:Obj}{fs:Array Value}{head:Value}{nx:Bool}{Q:Unit->ae->Prop}{cls fl:Value}{dx:Option Addr}
theorem MX(hA:A.frames=some (env::outer))(ff:s.heap.FunFrames B (env::outer))(hL:env.frame=some L)(ho:s.heap.get? ex=some ob)(st:B.StaysIn s.heap)(hB:B.get? ex=none)(hd:ob.data= .fields fs)(hz:1<fs.size)(fi:fs[2]? =some .none) (q:∀h',iY B (env::outer) ex ob.cls ob.dict (rawInt L) h'->s.heap.UpToSlots h'->Q () {s with heap:=h'}): wpAny M A (do let a<-frameOf env;let pl<-entryPlaceOf L nx;let b<-EntryCells.newEntry head a .none (rawInt L) .none pl;setField (.ref ex) 1 b) Q E s:=by
 have ka:ex∉(env::outer).filterMap (·.frame):=λhm=>by obtain⟨_,o,e1,nf⟩:=ff.mem hm;rw[ho]at e1;cases e1;exact nf fs hd
 refine aD (wpAny_frameOf_fun hA ff hL λg1 k1=>aD (wpAny_entryPlaceOf λpl hp=>?_));unfold EntryCells.newEntry newFields;refine aD (mJ ?_ (hp.sizeOk5 _ _ _ _ _));have o1:g1.get? ex=some ob:=(k1.2.1 ex ka).trans ho;have GQ:B.StaysIn g1:=λb o e=>(k1.2.1 b λhm=>by rw[(ff.mem hm).1]at e;cases e).trans (st b o e);generalize hT:({cls:=.type "traceback",dict:=none,data:=.fields ([head,.ref L,.none,rawInt L,.none]++(if pl.isEmpty then List.replicate 6 Value.none else pl)).toArray}:Obj)=T;have o2:(g1.push T).get? ex=some ob:=bQ T o1;refine zo o2 hd hz (q _ ?_ ?_);all_goals have ne:g1.objs.size≠ex:=vM (bN o1)
 all_goals have keep:∀b o,b≠ex->g1.get? b=some o->((g1.push T).update ex (Obj.mapFields (·.setIfInBounds 1 (Value.ref g1.objs.size)))).get? b=some o:=λb o nb e=>by rw[vV _ _ (iz nb)];exact bQ _ e
 all_goals have mX:∀b o,s.heap.get? b=some o->(∀vs,o.data≠ .fields vs)->b≠ex:=λb o e nf z=>by rw[z,ho]at e;cases e;exact nf fs hd
 ·have d3:=zB hd (·.setIfInBounds 1 (Value.ref g1.objs.size))
  have o3:=zI (Obj.mapFields (·.setIfInBounds 1 (Value.ref g1.objs.size))) o2 (P1 d3);refine⟨λb o e=>keep b o (λz=>by rw[z,hB]at e;cases e) (GQ b o e),hB,ff.of_keeps λb o e nf=>?_,?_⟩
  ·obtain⟨sl,e1⟩:=k1.2.2 b o e
   exact⟨_,keep b _ (mX b o e nf) e1,Z⟩
  ·refine⟨_,_,g1.objs.size,T,_,o3,Obj.cls_mapFields _ _,a38 _ _,d3,by simp[hz],GQ.fresh,ne,?_,by rw[<-hT],?_⟩
   ·rw[vV _ _ (iz ne)];exact cS g1 (by rw[<-hT];rfl)
   ·refine⟨?_,by simpa using fi⟩
    first|(simp;done)|(rcases hp with rfl|⟨_,_,_,_,_,_,_,rfl⟩<;>simp)
 ·intro b o e nf
  obtain⟨sl,e1⟩:=k1.2.2 b o e;exact⟨sl,keep b _ (mX b o e nf) e1⟩
theorem W8(hA:A.frames=some (env::outer))(ff:s.heap.FunFrames B (env::outer))(hL:env.frame=some L)(ho:s.heap.get? ex=some ob)(st:B.StaysIn s.heap)(hB:B.get? ex=none)(hd:ob.data= .fields fs)(h1:fs[1]? =some .none)(fi:fs[2]? =some .none) (q:∀h',iY B (env::outer) ex ob.cls ob.dict (rawInt L) h'->s.heap.UpToSlots h'->Q () {s with heap:=h'}):wpAny M A (noteFrame (.ref ex) env) Q E s:=by unfold noteFrame;simp only[hL];refine aD (gC ho hd h1 ?_);rw[aV az];exact MX hA ff hL ho st hB hd (G5.mp h1).1 fi q
theorem Ky(hA:A.frames=some (env::outer))(hL:env.frame=some L)(x:iY B (env::outer) ex cls dx .none s.heap) (q:∀h',iY B (env::outer) ex cls dx (rawInt L) h'->s.heap.UpToSlots h'->Q () {s with heap:=h'}):wpAny M A (noteFrame (.ref ex) env) Q E s:=by
 obtain⟨st,hB,ff,ob,fs,tb,ot,ts,ho,rfl,rfl,hd,h1,yj,nt,ht,lg,h3,fi⟩:=x;unfold noteFrame;simp only[hL];refine aD (gC ho hd h1 ?_);rw[aU (show(Value.ref tb !=Value.none)=true from by simp)];refine aD (gC ht lg h3 ?_);rw[aV (show¬((Value.none==rawInt L)=true)from by simp[rawInt])];refine aD (zo ht lg (G5.mp h3).1 ?_);have other:∀b,b≠tb->(s.heap.update tb (Obj.mapFields (·.setIfInBounds 3 Value.none))).get? b=s.heap.get? b:=λb nb=>vV _ _ (iz nb);have mX:∀b o,s.heap.get? b=some o->(∀vs,o.data≠ .fields vs)->b≠tb:=λb o e nf z=>by rw[z,ht]at e;cases e;exact nf ts lg
 refine MX (s:={s with heap:=s.heap.update tb (Obj.mapFields (·.setIfInBounds 3 Value.none))}) hA (ff.of_keeps λb o e nf=>⟨o,(other b (mX b o e nf)).trans e,Z⟩) hL ((other ex (iz nt)).trans ho) (λb o e=>(other b λz=>by rw[z,yj]at e;cases e).trans (st b o e)) hB hd (G5.mp h1).1 fi λh' y up=>q h' y λb o e nf=>up b o ((other b (mX b o e nf)).trans e) nf
theorem yz{l:List Env}(x:iY B l ex cls dx fl s.heap)(q:∀h',iY B l ex cls dx .none h'->s.heap.UpToSlots h'->Q () {s with heap:=h'}):wpAny M A (setFlight (.ref ex) none) Q E s:=by
 obtain⟨st,hB,ff,ob,fs,tb,ot,ts,ho,hc,hx,hd,h1,yj,nt,ht,lg,h3,fi⟩:=x;have z3:3<ts.size:=(G5.mp h3).1;have other:∀b,b≠tb->(s.heap.update tb (Obj.mapFields (·.setIfInBounds 3 ((none:Option Addr).elim Value.none λf=>rawInt f)))).get? b=s.heap.get? b:=λb nb=>vV _ _ (iz nb);have mX:∀b o,s.heap.get? b=some o->(∀vs,o.data≠ .fields vs)->b≠tb:=λb o e nf z=>by rw[z,ht]at e;cases e;exact nf ts lg
 unfold setFlight;refine aD (gC ho hd h1 ?_);rw[aU (show(Value.ref tb !=Value.none)=true from by simp)];refine zo ht lg z3 (q _ ⟨λb o e=>(other b λz=>by rw[z,yj]at e;cases e).trans (st b o e),hB,ff.of_keeps λb o e nf=>⟨o,(other b (mX b o e nf)).trans e,rfl⟩,?_⟩ λb o e nf=>⟨o.slots,(other b (mX b o e nf)).trans e⟩);exact⟨ob,fs,tb,_,_,(other ex (iz nt)).trans ho,hc,hx,hd,h1,yj,nt,zI _ ht (P1 (zB lg _)),zB lg _,by simp[z3],fi⟩
theorem Lg(hA:A.frames=some (env::outer))(ff:s.heap.FunFrames B (env::outer))(hL:env.frame=some L)(ho:s.heap.get? ex=some ob)(st:B.StaysIn s.heap)(hB:B.get? ex=none)(hd:ob.data= .fields fs)(h1:fs[1]? =some .none)(fi:fs[2]? =some .none) (q:∀h',iY B outer ex ob.cls ob.dict .none h'->s.heap.UpToSlots h'->Q () {s with heap:=h'}):wpAny M A (leaving env (.ref ex)) Q E s:=by unfold leaving;refine aD (W8 hA ff hL ho st hB hd h1 fi λh1 x1 u1=>yz x1 λh2 x2 u2=>q h2 ?_ (u1.trans u2));obtain⟨a,b,⟨_,_,c⟩,d⟩:=x2;exact⟨a,b,c,d⟩
theorem Xq(hA:A.frames=some (env::outer))(hL:env.frame=some L)(x:iY B (env::outer) ex cls dx .none s.heap) (q:∀h',iY B outer ex cls dx .none h'->s.heap.UpToSlots h'->Q () {s with heap:=h'}):wpAny M A (leaving env (.ref ex)) Q E s:=by unfold leaving;refine aD (Ky hA hL x λh1 x1 u1=>yz x1 λh2 x2 u2=>q h2 ?_ (u1.trans u2));obtain⟨a,b,⟨_,_,c⟩,d⟩:=x2;exact⟨a,b,c,d⟩
end
end L2
namespace L2
open PySem PySem.Spec PyProof.Rows
open Builtin Builtin.ObjectAttr
def o9:List Value:=[.type "ValueError",.type "Exception",.type "BaseException",.type "object"]
def lR:List Value->Bool | .ref _::r=>lR r |l=>l==o9
theorem SA(self:Value){l:List Value}(e:lR l=true):refuseLoop self "__setattr__" l=pure ():=by induction l with |nil=>simp[lR,o9]at e |cons v r ih=>cases v with |ref c=>rw[refuseLoop_ref];exact ih (by simpa[lR]using e) |_=>have e':=dj.mp (show(_==o9)=true from e);rw[e'];exact PySem.F.store_ValueError.passes self
theorem Zw{t:String}(ht:(o9.contains (.type t))=true):∀{l:List Value},lR l=true->l.contains (.type t)=true |l,e=>by induction l with |nil=>simp[lR,o9]at e |cons v r ih=>cases v with |ref c=>rw[Pc,ih (by simpa[lR]using e),Bool.or_true] |_=>have e':=dj.mp (show(_==o9)=true from e);rw[e'];exact ht
def Kd(K:aa)(C:Addr):Bool:=(PySem.W.clsIn K C).any λcd=>lR cd.mro
section
variable {prog:af}{w:World}{A:ai}{E:Value->ae->Prop}{s:ae}{K:aa}{x C:Addr}{ox:Obj}{fs:Array Value}{name:Str}{v:Value}{Q:Unit->ae->Prop}
theorem RG(X:K.In s.heap)(hx:s.heap.get? x=some ox)(hc:ox.cls= .ref C)(hd:ox.dict=none)(hf:ox.data= .fields fs) (hs:PySem.W.findIn K (.ref C) "__setattr__"=some (some (.builtin "object.__setattr__")))(hp:Kd K C=true)(ht:PySem.W.takerIn K C name=some none)(hh:PySem.W.hasDictIn K C=true) (h:∀h',h'.get? x=some {ox with dict:=some s.heap.objs.size}->h'.Ns1 s.heap.objs.size (λy=>if y=name then some v else none)->(∀b o,b≠x->s.heap.get? b=some o->h'.get? b=some o)->Q () {s with heap:=h',toks:=s.toks+2}): wpAny (model prog w) A (setAttr (.ref x) name v) Q E s:=by
 have I:PySem.W.InstAt s.heap x ox C none:=⟨hx,hc,by unfold PySem.W.notCls;rw[hf],by rw[hd];trivial⟩;refine PySem.W.set_plain X I hs ?_;have SF:=PySem.F.store_object;obtain⟨cd,dX,ho⟩:=OQ hp;have ne:cd.mro.isEmpty=false:=by cases q:cd.mro with|nil=>rw[q]at ho;simp[lR,o9]at ho|cons _ _=>rfl
 have sub:PySem.W.Looks (model prog w) s.heap (isInstance (.ref x) (.type "object")) true:=I.type.andThen (PySem.W.looks_mroIn X (by unfold PySem.W.mroIn;rw[dX,Option.bind_some,aV (by rw[ne];decide),Zw az ho]));refine Fy SF.slot.plain SF.entry (@PySem.W.check_slot (model prog w) _ _ {s with toks:=s.toks+1} "object.__setattr__" "object" "__setattr__" (.ref x) [.str name s.toks,v] [] _ SF.kind SF.split sub (SF.args (.ref x) (.str name s.toks) v) ?_);obtain⟨attr,ha,hr⟩:=Option.bind_eq_some_iff.mp ht;have hm:PySem.W.Looks (model prog w) s.heap (mroOf (.ref C)) cd.mro:=(ON X dX).andThen .now;have L3:PySem.W.Looks (model prog w) s.heap (storeTaker? attr) none:=by cases attr with |none=>exact .now |some a=>obtain⟨b,hb,e⟩:=vK.mp hr;refine(PySem.W.looks_takesIn X hb).andThen ?_;cases b with |false=>exact .now |true=>cases e
 rw[PySem.W.osa_eq,refuse_eq];refine aD (aD (sC (s:={s with toks:=s.toks+1}) I.type (aD (sC (s:={s with toks:=s.toks+1}) hm ?_))));rw[SA _ ho];refine bA (aD (sC (s:={s with toks:=s.toks+1}) I.type (aD (sC (s:={s with toks:=s.toks+1}) (PySem.W.looks_findIn X ha) (aD (sC (s:={s with toks:=s.toks+1}) L3 ?_))))));obtain⟨cd2,fi,hd2⟩:=OQ hh;refine aD (bA (aD (aD (wpAny_loadPart (s:={s with toks:=s.toks+1}) hx ?_))));rw[hc];refine aD (sC (s:={s with toks:=s.toks+1}) (ON X fi) ?_);rw[hd2,hd,hf];rw[aV az];show wpAny _ _ (if(!true|| !typeHasDict (Value.ref C))=true then _ else _) _ _ _;rw[aV (by simp[typeHasDict])];have x1:(s.heap.push {cls:=.type "dict",data:=.dict #[]}).get? x=some ox:=bQ _ hx;have nx:x≠s.heap.objs.size:=dw (bN hx);refine aD (wpAny_alloc' (aD (wpAny_update' x1 (bA ?_))));have gd:((s.heap.push {cls:=.type "dict",data:=.dict #[]}).update x λo=>{cls:=o.cls,dict:=some s.heap.objs.size,data:=o.data,slots:=o.slots}).get? s.heap.objs.size=some {cls:=.type "dict",data:=.dict #[]}:=(Heap.get?_update_ne _ _ _ _ nx.symm).trans (Heap.get?_push_at Z rfl);have n0:((s.heap.push {cls:=.type "dict",data:=.dict #[]}).update x λo=>{cls:=o.cls,dict:=some s.heap.objs.size,data:=o.data,slots:=o.slots}).Ns s.heap.objs.size (λ_=>none):=⟨_,#[],_,gd,Z,(λe he=>absurd he (by simp)),λ_=>rfl⟩;show wpAny _ _ (storeInDict s.heap.objs.size (.str name s.toks) name v) _ _ _;unfold storeInDict newKeyGuard;refine aD (bA (aD (wpAny_nsSet1 (Heap.Ns1.of_empty n0) λh2 n2 sb=>?_)));obtain⟨oD,esD,epD,e1,e2,e3⟩:=n2.count (PySem.Within.cons name v PySem.Within.nil);refine aD (wpAny_lookBehind e1 (by rw[e2];exact pastItsLine_dict (f9 e3 (by rw[fW,List.length_nil,vz];lia))) ?_);refine bA (h h2 ?_ n2 λb o nb e=>?_)
 ·refine(sb.2 x nx).trans (zI _ x1 ?_)
  obtain⟨oc,od,CD,dU⟩:=ox;cases hf;rfl
 ·exact(sb.2 b (dw (bN e))).trans ((Heap.get?_update_ne _ _ _ _ nb).trans (bQ _ e))
end
end L2
namespace L2
open PySem PySem.Spec PyProof.Rows
def pV(ex C:Addr)(h:Heap):Prop:=∃ob fs,h.get? ex=some ob/\ob.cls= .ref C/\ob.dict=none/\ob.data= .fields fs/\fs[1]? =some .none/\fs[2]? =some .none
def mG(ex C dx:Addr)(h:Heap):Prop:=∃ob fs,h.get? ex=some ob/\ob.cls= .ref C/\ob.dict=some dx/\ob.data= .fields fs/\fs[1]? =some .none/\fs[2]? =some .none
structure Fd(K:aa)(C:Addr)(f:Str):Prop where
 sa:PySem.W.findIn K (.ref C) "__setattr__"=some (some (.builtin "object.__setattr__"))
 ov:Kd K C=true
 tk:PySem.W.takerIn K C f=some none
 hd:PySem.W.hasDictIn K C=true
inductive a5M(K:aa)(f:Str)(D:Ends)(O:St)(y:V)(x:V)(H2:Hp):Prop |mk (ex:_)(C:_)(h0:x= .ref ex)(h1:H2 ex=some (.ext (pV ex C)))(h2:Fd K C f)(h3:∀dx,H2 dx=none->dx≠ex->D.nx O (upd (upd H2 dx (.xd [(f,y)])) ex (.ext (mG ex C dx))))
def RY(K:aa)(ta tv:TE)(f:Str):TS:=λD O H=>tv O H λy H1=>ta O H1 λx H2=>a5M K f D O y x H2
section
variable {X:Cx}{o e value:Expr}{f:Str}{pos pos' og:Pos}{ta tv:TE}
theorem Tg(K:aa)(hK:X.K=K)(ha:PE X o ta)(hv:PE X value tv)(hs:swapsWith value (some (.Attribute o f pos')) pos.line X.env=pure false:=by rfl):PS X (.Assign [.Attribute o f pos'] value pos) (RY K ta tv f):=by
 subst hK;intro ak s O H D I h;refine plainObj_wpAny_Assign_Attribute (aW (hv ak s O H _ I h) λu s1 ⟨y,H1,I1,ry,q⟩=>aW (ha ak s1 O H1 _ I1 q) λov s2 ⟨x,H2,I2,rx,ex,C,e1,ee,xc,q2⟩=>?_) hs;subst e1;obtain rfl:ov=Value.ref ex:=rx;obtain⟨⟨ob,fs,g1,g2,g3,g4,g5,g6⟩,_,_⟩:=(show eP X.prog X.w H2 s2.heap ex (.ext (pV ex C))from I2.aY ex _ ee);refine RG I2.dB g1 g2 g3 g4 xc.sa xc.ov xc.tk xc.hd λh' k1 k2 k3=>?_;have ne:s2.heap.objs.size≠ex:=vM (bN g1);have fr:H2 s2.heap.objs.size=none:=I2.aY.fresh (bq _);obtain⟨oD,es,ep,d1,d2⟩:=id k2;have YG:(s2.heap.push oD).get? s2.heap.objs.size=some oD:=cS _ (by obtain⟨oc,od,CD,dU⟩:=oD;have:CD= .dict es ep:=d2.1;subst this;rfl);have DX:eP X.prog X.w (upd H2 s2.heap.objs.size (.xd [(f,y)])) (s2.heap.push oD) s2.heap.objs.size (.xd [(f,y)]):=by
  refine⟨_,k2.at λo e=>?_,λg=>?_⟩
  ·rw[d1]at e;cases e;exact YG
  ·by_cases q:g=f
   ·subst q
    simp only[List.lookup,vD,qd];exact ry
   ·have:(g==f)=false:=by simpa using q
    simp only[List.lookup,this,aV q];trivial
 have J1:=I2.laid (a:=s2.heap.objs.size) (o:=.xd [(f,y)]) (h':=s2.heap.push oD) (t':=s2.toks+2) (λb u q=>bQ _ q) (bq _) DX;have J2:=J1.write (x:=ex) (e:=ex) (o:=.ext (mG ex C s2.heap.objs.size)) (h':=h') (t':=s2.toks+2) (by rw[bj ne.symm,ee];trivial) (.inl Z) (λb u nb e=>by
  rcases Pj e with⟨rfl,rfl⟩|e
  ·exact d1
  ·exact k3 b u nb e) ⟨_,k1⟩ ⟨⟨_,fs,k1,g2,Z,g4,g5,g6⟩,⟨_,k1⟩,λh1 h2 ⟨jX,rE,z1,z2⟩ k=>⟨jX,rE,k _ z1,z2⟩⟩;exact⟨O,_,J2,q2 _ fr ne⟩
end
abbrev MK(rest:List Value):Obj:={cls:=.type "tuple",data:=.seq rest.toArray}
abbrev Ez(C t:Addr):Obj:={cls:=.ref C,data:=.fields #[.ref t,.none,.none,.none,.bool false,.none]}
abbrev kD(h:Heap)(C:Addr)(rest:List Value):Heap:=(h.push (MK rest)).push (Ez C h.objs.size)
section
variable {prog:af}{w:World}{A:ai}{E:Value->ae->Prop}{h:Heap}{g:Array GenState}{d:Drawn}{t:Nat}{os:OsState}
variable {nm q:Str}{C N fI:Addr}{bs bm dH:List Value}{hdct:Bool}{sn:List Str}{sub:List Value}{ab:Bool}{col:Option Bool}{dd:Option Addr}{k0 k1 k2 k3 k5:Option Value}{B newId qW:String}{mN:bf}{rest:List Value}{oI:Obj}
theorem ML:(kD h C rest).get? (h.objs.size+1)=some (Ez C h.objs.size):=by have:=cS (h.push (MK rest)) (o:=Ez C h.objs.size) rfl;rwa [mM]at this
theorem rK{b:Addr}{o:Obj}(e:h.get? b=some o):(kD h C rest).get? b=some o:=bQ _ (bQ _ e)
theorem Qh(F:ExcBaseFacts B newId qW dH)(T:OwnTail h dH bm){Q:Fin->ae->Prop}(hC:h.get? C=some (excClassObj nm q C N bs bm hdct sn sub ab col dd k0 k1 k2 k3 k5 newId))(hn:h.Ns N mN)(hi:mN "__init__"=some (.ref fI)) (hf:h.get? fI=some oI)(DV:oI.cls= .type "function")(hz:rest.length<=sizeLine) (hq:wpAny (model prog w) A (call (.ref fI) (.ref (h.objs.size+1)::rest)) (λr s'=>r= .none/\Q (.done (.ret (.ref (h.objs.size+1)))) s') E ⟨kD h C rest,g,d,t,os⟩): wpAny (model prog w) A (Builtin.«type.__call__» ⟨.ref C::rest,[]⟩) Q E ⟨h,g,d,t,os⟩:=by
 repeat (first|with_reducible refine pZ hC ?_|with_reducible refine wpAny_madeBy_exc hC ?_|wp_step)
 refine codeAny_call_builtin_code (Code.quiet_builtin _ F.quiet) (wpAny_check_new_subT F T hC (codeAny_exc_new_subT F T hC ?_ hz));show wpAny _ _ _ _ _ _;have c1:=rK (C:=C) (rest:=rest) hC;have f1:=rK (C:=C) (rest:=rest) hf;have n1:(kD h C rest).Ns N mN:=let⟨o,es,ep,e,r⟩:=hn;⟨o,es,ep,rK e,r⟩;have x1:=ML (h:=h) (C:=C) (rest:=rest);have cc:(Value.ref C::bm).contains (.ref C)=true:=by simp
 have T1:=T.keeps (h':=kD h C rest) λb o e=>rK e;unfold isInstance
 repeat (first|with_reducible refine pZ x1 ?_|(with_reducible refine Fx c1 ?_;rw[cc])|wp_step)
 show wpAny _ _ (typeLookup (.ref C) _) _ _ _;refine wpAny_typeLookup_tail c1 n1 T1 F.mroIs F.init.lookup ?_;rw[hi];refine gO (aD ?_);unfold bindSpecial;refine aD (wpAny_typeOf (T:="function") ⟨_,f1,DV⟩ ?_);rw[aU az];refine bA (aD (fO hq (λr s' ⟨e,z⟩=>?_) λ_ _ z=>z));subst e
 wp_walk;exact z
theorem a3F(F:ExcBaseFacts B newId qW dH)(T:OwnTail h dH bm){Q:Value->ae->Prop}(hC:h.get? C=some (excClassObj nm q C N bs bm hdct sn sub ab col dd k0 k1 k2 k3 k5 newId))(hn:h.Ns N mN)(hi:mN "__init__"=some (.ref fI)) (hf:h.get? fI=some oI)(DV:oI.cls= .type "function")(hz:rest.length<=sizeLine) (hq:wpAny (model prog w) (A.under (.builtin "type.__call__" ⟨.ref C::rest,[]⟩)) (call (.ref fI) (.ref (h.objs.size+1)::rest)) (λr s'=>r= .none/\Q (.ref (h.objs.size+1)) s') E ⟨kD h C rest,g,d,t,os⟩): wpAny (model prog w) A (call (.ref C) rest) Q E ⟨h,g,d,t,os⟩:=by
 have f1:=tc_lookup;have f2:=tc_bind (.ref C);have hT:(⟨h,g,d,t,os⟩:ae).TypeIs (.ref C) "type":=⟨_,hC,Z⟩;refine qc (codeAny_of_tree ?_);show wpAny _ _ (callAny (.ref C) _) _ _ _
 repeat (any_goals (first|assumption|with_reducible refine pZ hC ?_|wp_step))
 refine⟨Z,codeAny_call_builtin_at (Code.quiet_builtin _ aJ) entry_typeCall (wpAny_check_type_call_sub hC (Qh F T hC hn hi hf DV hz ?_))⟩;exact hq
end
section
variable {M:Model}{A:ai}{E:Value->ae->Prop}{env:Env}{nm q:Str}{C N:Addr}{bs bm:List Value}{hdct:Bool}{sn:List Str}{sub:List Value}{ab:Bool}{col:Option Bool}{dd:Option Addr}{k0 k1 k2 k3 k5:Option Value}{newId:String}
theorem SN{s:ae}{x:Sem Value}{Q:Flow->ae->Prop}(hb:bm.contains (.type "BaseException")=true)(hh:A.handled=none) (h:wpAny M A x (λv s1=>∃e oe fs,v= .ref e/\s1.heap.get? C=some (excClassObj nm q C N bs bm hdct sn sub ab col dd k0 k1 k2 k3 k5 newId)/\s1.heap.get? e=some oe/\oe.cls= .ref C/\oe.data= .fields fs/\fs[1]? =some .none/\E (.ref e) s1) E s): wpAny M A (raiseStmt env (some x) none) Q E s:=by
 have cb:(Value.ref C::bm).contains (.type "BaseException")=true:=by rw[Pc,hb,Bool.or_true]
 unfold raiseStmt;refine aD (fO h (λv s1 ⟨e,oe,fs,ev,hC,he,hc,lg,h1,hE⟩=>?_) λ_ _ z=>z);subst ev;obtain⟨hp,g,d,tk,os⟩:=s1;obtain⟨oc,odd,CD,dU⟩:=oe;cases hc;cases lg
 repeat (first|with_reducible refine pZ he ?_|with_reducible refine pZ hC ?_|(with_reducible refine Fx hC ?_;rw[cb])|rw[h1]|wp_step)
 exact wpAny_raiseNew_none hh hE
end
def jv(P:af)(w:World):iu:=λouter H s E e s'=>∃(ex:Addr)(cls:Value)(dx:Option Addr)(H':Hp)(B:Heap),e= .ref ex/\s'.os=s.os/\AllBare s'.gens/\iY B outer ex cls dx .none s'.heap/\Fl P w outer H s.heap ex H' B s'.heap/\E cls dx H'
theorem EM{H:Hp}{p:Addr}:del H p p=none:=by unfold del;rw[aU rfl]
theorem pI{H:Hp}{p b:Addr}(h:b≠p):del H p b=H b:=by unfold del;rw[aV h]
theorem dc.del{P:af}{w:World}{H:Hp}{h:Heap}{p:Addr}{φ:Heap->Prop}(ok:dc P w H h)(e:H p=some (.ext φ)):dc P w (del H p) h:=λb u q=>by
 obtain⟨nb,q⟩:=Ni.mp q;refine(ok b u q).jQ (λ_ _ _ z=>z) (λc z=>?_) λc xs z=>?_
 ·rw[pI (λy=>by rw[y,e]at z;cases z)];exact z
 ·rw[pI (λy=>by rw[y,e]at z;cases z)];exact z
section
variable {P:af}{w:World}{K:aa}{mg:bf}{au:Heap}{N:List Str}{qual:Str}{scope:Scope}{f:Addr}{cd:Value}{A:ai}{outer:List Env}{s:ae}{H:Hp}{E:XK}{ak:List (Addr×Obj)}{O:St}{H1:Hp}{s1:ae}{ex:Addr}{C:Addr}{dx:Addr}
theorem Px(I:Inv (fz (jv P w) P w K mg au N qual scope f cd A outer s H E) ak O H1 s1)(hx:H1 ex=some (.ext (mG ex C dx)))(hs:s.heap.objs.size<=ex)(q:E (.ref C) (some dx) (del H1 ex)): (fz (jv P w) P w K mg au N qual scope f cd A outer s H E).xe (.ref ex) s1:=by
 have fh:s1.heap.FunFrames au (envOfC qual scope s.heap.objs.size f cd::outer):=I.stack;have rk:∀env∈(envOfC qual scope s.heap.objs.size f cd::outer),∀b,env.frame=some b->b∈ex::cR (envOfC qual scope s.heap.objs.size f cd::outer):=λenv he b hb=>.tail _ (iA.mpr ⟨env,he,hb⟩);have hB:(PySem.W.hideAll s1.heap (ex::cR (envOfC qual scope s.heap.objs.size f cd::outer))).StaysIn s1.heap:=λb o e=>OM _ e;obtain⟨⟨ob,fs,g1,g2,g3,g4,g5,g6⟩,_,_⟩:=(show eP P w H1 s1.heap ex (.ext (mG ex C dx))from I.aY ex _ hx);have nw:s.heap.get? ex=none:=Heap.get?_none_of_le hs;have ka:∀b o,s.heap.get? b=some o->b∉cR outer->b∉ex::cR (envOfC qual scope s.heap.objs.size f cd::outer):=λb o e hb hm=>by
  rcases bS.mp hm with rfl|hm
  ·rw[nw]at e;cases e
  obtain⟨env,he,hf⟩:=iA.mp hm;rcases bS.mp he with rfl|he
  ·have e1:s.heap.objs.size=b:=cW hf
   have h1:=bN e;rw[<-e1]at h1;exact absurd h1 (nX _)
  ·exact hb (iA.mpr ⟨env,he,hf⟩)
 have CO:∀b u,H1 b=some u->(∀φ,u≠ .ext φ)->del H1 ex b=some u:=λb u e n=>by rw[pI (λz=>by rw[z,hx]at e;exact n _ (cW e).symm)];exact e
 have F0:Fl P w outer H s.heap ex (del H1 ex) (PySem.W.hideAll s1.heap (ex::cR (envOfC qual scope s.heap.objs.size f cd::outer))) s1.heap:=by
  refine⟨⟨I.au.keep,I.au.slot,λb o e n hb=>?_,I.au.there,λb xs e=>CO b _ (I.au.gQ b xs e) (λ_ z=>nomatch z),λb o u e=>CO b _ (I.au.gJ b o u e) (λ_ z=>nomatch z),λb ps e=>?_⟩,I.aY.del hx,λb o e n hb=>sA _ (I.au.keep b o e n hb (eR)) (ka b o e hb),λb o e=>?_,λb o e hb=>?_,λb hb=>?_,nw,EM⟩
  ·by_cases z:b=ex
   ·rw[z];exact EM
   ·rw[pI z];exact I.au.free b o e n hb
  ·obtain⟨more,e1⟩:=I.au.gR b ps e
   exact⟨more,CO b _ e1 (λ_ z=>nomatch z)⟩
  ·obtain⟨nb,e⟩:=Ni.mp e
   obtain⟨jX,e1⟩:=(I.aY b o e).there;refine⟨jX,sA _ e1 λhm=>?_⟩;rcases bS.mp hm with z|hm
   ·exact nb z
   ·rw[I.qm b hm]at e
    cases e
  ·obtain⟨jX,e1⟩:=I.au.there b o e (eR)
   exact⟨jX,sA _ e1 (ka b o e hb)⟩
  ·obtain⟨env,he,hf⟩:=iA.mp hb
   have e1:=I.qm b (iA.mpr ⟨env,.tail _ he,hf⟩);by_cases z:b=ex
   ·rw[z];exact EM
   ·rw[pI z];exact e1
 show wpAny (model P w) (A.deeper (envOfC qual scope s.heap.objs.size f cd)) (leaving (envOfC qual scope s.heap.objs.size f cd) (.ref ex)) _ _ _;refine Lg (L:=s.heap.objs.size) I.ok.frames (PySem.W.funFrames_hide fh rk) Z g1 hB (OO _ (.head _)) g4 g5 g6 λh' x1 x2=>?_;exact⟨ex,.ref C,some dx,del H1 ex,_,Z,I.os,I.bare,by rw[g2,g3]at x1;exact x1,F0.step hB x1.1 x2 fh.2.2,q⟩
end
def Ey(K:aa)(C fI:Addr)(dH:List Value)(newId:String):Bool:=match K.lookup C with |some ⟨.type "type",_,.cls cd,sl⟩=>(match cd.mro,sl.toList with | .ref C'::bm,[_,_,_,_,some (.builtin n),_]=>C'==C&&n==newId&& !cd.hasDel&&PySem.W.tailIn K dH bm&&PySem.W.nsOkIn K cd.ns&&(PySem.W.nsIn K cd.ns "__init__"==some (some (.ref fI))) |_,_=>false) |_=>false
structure pW(K:aa)(mg:bf)(x:Str)(C fI:Addr)(dH:List Value)(newId:String):Prop where
 at':mg x=some (.ref C)
 ok:Ey K C fI dH newId=true
theorem W6{K:aa}{h:Heap}{N:Addr}{m:bf}{n:Str}{v:Value}(X:K.In h)(G:h.Ns N m)(e:PySem.W.nsIn K N n=some (some v)):m n=some v:=by
 obtain⟨o,es,ep,ho,hd,_,hf⟩:=G;unfold PySem.W.nsIn at e;split at e
 ·rename_i c d yB n' sl q
  have z:=X _ _ q;rw[ho]at z;cases z;cases hd;split at e
  ·rename_i en he
   cases e;rw[<-hf];unfold nsFind findBy;rw[<-Array.find?_toList,he];rfl
  ·split at e<;>cases e
 ·cases e
theorem pW.own{K:aa}{mg:bf}{x:Str}{C fI:Addr}{dH:List Value}{newId:String}{h:Heap}(e:pW K mg x C fI dH newId)(X:K.In h): ∃tl N nm q bs hdct sn sub ab col dd k0 k1 k2 k3 k5 mN,h.get? C=some (excClassObj nm q C N bs tl hdct sn sub ab col dd k0 k1 k2 k3 k5 newId)/\h.Ns N mN/\mN "__init__"=some (.ref fI)/\OwnTail h dH tl:=by
 have q:=e.ok;unfold Ey at q;split at q
 ·rename_i dd cd sl ho
  split at q
  ·rename_i D2 bl a0 a1 a2 a3 nn a5 hm hs
   simp only[dj,dm,Pm]at q;obtain⟨⟨⟨⟨⟨r1,r2⟩,uJ⟩,ht⟩,aY⟩,p8⟩:=q;subst r1 r2;obtain⟨c1,c2,c3,c4,c5,c6,c7,c8,c9,c10,c11⟩:=cd;dsimp only at hm uJ aY p8;subst hm uJ;obtain⟨l⟩:=sl;simp only at hs;subst hs;have G:=Heap.Ns.of_isNs (PySem.W.isNs_of_in X aY);exact⟨bl,c4,c1,c5,c2,c6,c7,c8,c9,c10,dd,a0,a1,a2,a3,a5,_,X _ _ ho,G,W6 X G p8,PySem.W.tail_of_in X ht⟩
  ·cases q
 ·cases q
def fnAt(K:aa)(f:Addr):Bool:=match K.lookup f with |some o=>o.cls== .type "function" |none=>false
theorem a1o{K:aa}{h:Heap}{f:Addr}(X:K.In h)(e:fnAt K f=true):∃o,h.get? f=some o/\o.cls= .type "function":=by
 unfold fnAt at e;split at e
 ·rename_i o ho
  exact⟨o,X _ _ ho,dj.mp e⟩
 ·cases e
def Qp(E:XK)(C:Addr)(sp:Sp)(t:TA):TS:=λ_ O H=>t O H λvs H1=>vs.length<=sizeLine/\∀ex,H1 ex=none->sp (.ref ex::vs) (upd H1 ex (.ext (pV ex C))) (λv H2=>v= .aZ/\∃dx,H2 ex=some (.ext (mG ex C dx))/\E (.ref C) (some dx) (del H2 ex)) (λ_ _ _=>False)
section
variable {X:Cx}{x:Str}{C fI:Addr}{dH:List Value}{newId qW B:String}{e:Expr}{t:TA}{np bT pos:Pos}{k:Nat}{fd:FuncData}{ps:List Str}{sp:Sp}
theorem Ti{E:XK}(hx:∀ak O H s ex dx,Inv X ak O H s->H ex=some (.ext (mG ex C dx))->X.s₀.heap.objs.size<=ex->E (.ref C) (some dx) (del H ex)->X.xe (.ref ex) s) (EC:pW X.K X.mg x C fI dH newId)(FB:ExcBaseFacts B newId qW dH)(hh:X.A.handled=none)(F:f7 X.prog X.w X.K X.mg X.au fV k fI fd ps sp)(hr:cn (k+1) X.A)(hb:Binds X.K fd ps [])(hf:fnAt X.K fI=true)(hg:Gl X x)(ha:PA X [e] t) (he:starEach [e] X.env=[(false,eval e X.env)]:=by rfl)(hd:(x==("__debug__":Str))=false:=by decide): PS X (.Raise (some (.Call (.Name x np) [e] [] bT)) none pos) (Qp E C sp t):=by
 intro ak s O H D I h;obtain⟨tl,Nn,nm,q,bs,hdct,sn,sub,ab,col,dd,k0,k1,k2,k3,k5,mN,hC,hN,hi,T⟩:=EC.own I.ok.mod.kh;have hA:=ha bT ak s O H _ I h;rw[arm_exec_Raise];refine aD (pX (SN (C:=C) (nm:=nm) (q:=q) (N:=Nn) (bs:=bs) (bm:=tl) (hdct:=hdct) (sn:=sn) (sub:=sub) (ab:=ab) (col:=col) (dd:=dd) (k0:=k0) (k1:=k1) (k2:=k2) (k3:=k3) (k5:=k5) (newId:=newId) (T.hasType FB.hasBase) hh (aD (fO (wpAny_Call_ofName (lZ I hg EC.at' ?_ hd)) (λv s3 h3=>aD (pX (bA h3))) λ_ _ z=>z))));unfold callWith;rw[he]at hA⊢;refine aD (gO (fO (Pl (Q:=λ(a:Args) s2=>a.kw=[]/\AP X ak O (λvs H1=>vs.length<=sizeLine/\∀ex,H1 ex=none->sp (.ref ex::vs) (upd H1 ex (.ext (pV ex C))) (λv H2=>v= .aZ/\∃dx,H2 ex=some (.ext (mG ex C dx))/\E (.ref C) (some dx) (del H2 ex)) (λ_ _ _=>False)) a.pos s2) (aW hA λus s2 z=>⟨Z,z⟩)) (λa s2 z=>aD (pX ?_)) λ_ _ z=>z));obtain⟨us,akw⟩:=a;obtain⟨YM,vs,H1,I1,r1,z1,w1⟩:=z;obtain rfl:akw=[]:=YM;have C2:=I1.bk _ _ hC;have T2:=T.keeps I1.bk;have N2:=hN.keeps I1.bk;obtain⟨oI,f1,f2⟩:=a1o I1.dB hf;have X7:us.length<=sizeLine:=by rw[<-r1.length];exact z1
 obtain⟨hp,g,d,tk,os⟩:=s2;rw[show(backTo bT [(false,eval e X.env)]).any (·.1)=false from rfl];refine aD (wpAny_keeperOf_exc C2 ?_);have I1':Inv X ak O H1 ⟨kD hp C us,g,d,tk,os⟩:=I1.kept (t':=tk) (h':=kD hp C us) λb u e=>rK e;have xa:=ML (h:=hp) (C:=C) (rest:=us);have fx:H1 (hp.objs.size+1)=none:=I1.aY.fresh (Nat.le_succ _);have I2:Inv X ak O (upd H1 (hp.objs.size+1) (.ext (pV (hp.objs.size+1) C))) ⟨kD hp C us,g,d,tk,os⟩:=by refine I1.laid (a:=hp.objs.size+1) (o:=.ext (pV (hp.objs.size+1) C)) (h':=kD hp C us) (t':=tk) (λb u e=>rK e) (Nat.le_succ _) ?_;exact⟨⟨_,_,xa,Z,Z,Z,Z,Z⟩,⟨_,xa⟩,λh1 h2 ⟨jX,rE,y1,y2⟩ k=>⟨jX,rE,k _ y1,y2⟩⟩
 have hq:=w1 (hp.objs.size+1) fx;have r2:Vals (V.ref (hp.objs.size+1)::vs) (Value.ref (hp.objs.size+1)::us):=.cons Z r1;have hl:(Value.ref (hp.objs.size+1)::us++[]).length=ps.length:=by have e:=r2.length;rw[F.len _ _ _ _ hq]at e;rw[lG];exact e.symm
 have bt:=hb ⟨kD hp C us,g,d,tk,os⟩ (Value.ref (hp.objs.size+1)::us) I2.dB hl;rw[lG]at bt;refine aD (a3F FB T2 C2 N2 hi f1 f2 X7 (qc (vC (F.run _ X.stack _ _ ⟨Value.ref (hp.objs.size+1)::us,[]⟩ (Value.ref (hp.objs.size+1)::us) _ _ (λ_ _ _=>False) (hr.make C us []) (I2.yE.make C us []) bt r2 hq) λr s' jh=>?_)));cases r with |error e=>exact False.elim jh |ok fl=>cases fl with |ret u=>obtain⟨v,H',I3,rv,ev,dx,ed,q3⟩:=I2.after jh;subst ev;refine⟨rv,aD (gO (wpAny_point (bA ?_)))⟩;obtain⟨⟨ob,fs,g1,g2,g3,g4,g5,g6⟩,_,_⟩:=(show eP X.prog X.w H' s'.heap _ (.ext (mG (hp.objs.size+1) C dx))from I3.aY _ _ ed);exact⟨_,ob,fs,Z,I3.bk _ _ hC,g1,g2,g4,g5,hx ak O H' s' _ dx I3 ed (f9 I1.sz (Nat.le_succ _)) q3⟩ |next=>exact False.elim jh |brk=>exact False.elim jh |cont=>exact False.elim jh
end
def ju(ex:Addr)(cls:Value)(dx:Option Addr)(h:Heap):Prop:=∃o,h.get? ex=some o/\o.cls=cls/\o.dict=dx/\∃fs,o.data= .fields fs/\fs[2]? =some .none
def ClsAt(K:aa)(C:Addr):Prop:=∀h,K.In h->∃nm q N bs tl hdct sn sub ab col dd k0 k1 k2 k3 k5 newId,h.get? C=some (excClassObj nm q C N bs tl hdct sn sub ab col dd k0 k1 k2 k3 k5 newId)
theorem pW.cls{K:aa}{mg:bf}{x:Str}{C fI:Addr}{dH:List Value}{newId:String}(e:pW K mg x C fI dH newId):ClsAt K C:=λh X=>by obtain⟨tl,N,nm,q,bs,hdct,sn,sub,ab,col,dd,k0,k1,k2,k3,k5,mN,hC,_⟩:=e.own X;exact⟨nm,q,N,bs,tl,hdct,sn,sub,ab,col,dd,k0,k1,k2,k3,k5,newId,hC⟩
theorem Exc.cls{K:aa}{mg:bf}{x:Str}{C:Addr}{dH:List Value}{newId:String}(e:Exc K mg x C dH newId):ClsAt K C:=λh X=>by obtain⟨tl,N,nm,q,bs,hdct,sn,sub,ab,col,dd,k0,k1,k2,k3,k5,mN,hC,_⟩:=(e.own X).obj;exact⟨nm,q,N,bs,tl,hdct,sn,sub,ab,col,dd,k0,k1,k2,k3,k5,newId,hC⟩
inductive a4y(i:Nat)(Cs:Addr->Prop)(tb:XK->TS)(th:TS)(D:Ends)(O:St)(H:Hp):Prop |mk (E:XK)(h0:tb E D O H)(h1:(∀cls dx H',E cls dx H'->∃C,cls= .ref C/\Cs C))(h2:∀(C ex:Addr)(dx:Option Addr)(σ':St)(H':Hp),σ'.length=O.length->E (.ref C) dx H'->H' ex=none->th {nx:=λσ2 H2=>D.nx (σ2.set i none) H2,rt:=D.rt,bk:=λσ2 H2=>D.bk (σ2.set i none) H2,ct:=λσ2 H2=>D.ct (σ2.set i none) H2} (σ'.set i (some (.ref ex))) (upd H' ex (.ext (ju ex (.ref C) dx))))
def Qm(i:Nat)(Cs:Addr->Prop)(tb:XK->TS)(th:TS):TS:=λD O H=>a4y i Cs tb th D O H
section
variable {X:Cx}{i:Nat}{n y:Str}{Dc:Addr}{EW:List Value}{newD:String}{body wG:List Stmt}{b0:Stmt}{np qZ pos:Pos}{tb:XK->TS}{th:TS}{Cs:Addr->Prop}
theorem Th(fh:X.stack=X.env::X.outer)(Zb:X.env.frame=some X.env.locals)(hN:X.N.Nodup)(hi:X.N[i]? =some n)(hk:X.env.kindOf n=some .local)(hs:X.env.scope.names.lookup n=some .local) (hb:∀(E:XK)(xe:Value->ae->Prop),Passes (jv X.prog X.w) (X.iE xe) E->eV (X.iE xe) body (tb E)) (hg:Gl X y)(hy:Exc X.K X.mg y Dc EW newD)(E1:EW.contains (.type "BaseException")=true)(Ee:∀C,Cs C->ClsAt X.K C/\takes X.K C Dc) (hh:∀ex,eV (X.hand ex) (b0::wG) th)(fv:(y==("__debug__":Str))=false:=by decide): Oj X (.Try body [.ExceptHandler (some (.Name y np)) (some n) (b0::wG) qZ] [] [] pos) (Qm i Cs tb th):=by
 intro s O H D I h;obtain⟨E,hq,lj,Yh⟩:=h;refine wpAny_Try_except ?_;have ps:Passes (jv X.prog X.w) (X.iE λe s₁=>wpAny (model X.prog X.w) X.A (noteFrame e X.env) (λ_ s₂=>wpAny (model X.prog X.w) X.A (setFlight e none) (λ_ s₃=>wpAny (model X.prog X.w) X.A (handleBy e X.env [.ExceptHandler (some (.Name y np)) (some n) (b0::wG) qZ]) (SP X [] D) X.xe s₃) X.xe s₂) X.xe s₁) E:=by
  intro Cg σ' H1 s1 ev s2 I1 hx;obtain⟨ex,cls,dx,H',B,rfl,ho,LU,mj,F,hE⟩:=hx;obtain⟨C,rfl,hC⟩:=lj cls dx H' hE;have I0:Inv X [] σ' H1 s1:=I1.kH.a3R;obtain⟨LL,g2,d2,t2,o2⟩:=s2;have a1p:iY B (X.env::X.outer) ex (.ref C) dx .none LL:=by rw[<-fh];exact mj
  have hA:X.A.frames=some (X.env::X.outer):=by rw[<-fh];exact I0.ok.frames
  refine Ky (s:=⟨LL,g2,d2,t2,o2⟩) hA Zb a1p λh4 yc PN=>?_;refine yz yc λh5 uR PM=>?_;have F4:=F.step mj.1 yc.1 PN mj.2.2.1;have ff4:h4.FunFrames B X.stack:=by rw[fh];exact yc.2.2.1
  have F5:=F4.step yc.1 uR.1 PM ff4;have ff5:h5.FunFrames B X.stack:=by rw[fh];exact uR.2.2.1
  have I5:Inv X [] σ' H' ⟨h5,g2,d2,t2,o2⟩:=I0.yT (s':=⟨h5,g2,d2,t2,o2⟩) ho F5.un F5.aY LU (λb hb=>(eR hb).elim);refine wpAny_handleBy_cons (codeAny_handlers_test (lZ (X:=X.hand ex) (I5.hand ex) hg hy.at' ?_ fv)) (by intro q;cases q);obtain⟨eC,tk⟩:=Ee C hC;obtain⟨nm,q,Nn,bs,tl,hdct,sn,sub,ab,col,dd,k0,k1,k2,k3,k5,nw,oC⟩:=eC _ I5.dB;obtain⟨tl',Nn',KD,q',NP,LV,HH,GL,Ob,NG,Nq,j0,j1,j2,j3,j5,mN',oD,a7B,a7k,TL'⟩:=(hy.own I5.dB).obj;obtain⟨ob,Yz,Yy,_⟩:=uR.there;have DA:(Value.ref C::tl).contains (.ref Dc)=true:=by
   obtain⟨cd,ha,m9⟩:=Option.bind_eq_some_iff.mp tk;split at m9
   ·cases m9
   ·have hc:=cW m9
    unfold PySem.W.clsIn at ha;split at ha
    ·rename_i c1 c2 cd' c4 hl
     cases ha;have e1:=I5.dB _ _ hl;rw[show(Shared.heap ⟨h5,g2,d2,t2,o2⟩).get? C=some _ from oC]at e1;have e2:=cW e1;unfold excClassObj at e2;injection e2 with _ _ e3 _;injection e3 with e4;rw[<-e4]at hc;exact hc
    ·cases ha
  refine a2F oC oD Yz Yy (TL'.hasType E1) DA ?_;refine codeAny_handlers_suite_as ?_;refine yz (s:=⟨h5,g2,d2,t2,o2⟩) uR λh6 Mw PL=>?_;have F6:=F5.step uR.1 Mw.1 PL ff5;have PV:Un (cR X.stack) [] H1 (upd H' ex (.ext (ju ex (.ref C) dx))) s1.heap h6:=by
   have nb:∀b u,H' b=some u->b≠ex:=λb u e z=>by rw[z,F6.ne]at e;cases e
   refine⟨F6.un.keep,F6.un.slot,λb o e n hx=>?_,F6.un.there,λb xs e=>?_,λb o u e=>?_,λb ps e=>?_⟩
   ·rw[bj (λz=>by rw[z,F6.nw]at e;cases e)];exact F6.un.free b o e n hx
   ·have:=F6.un.gQ b xs e;rw[bj (nb b _ this)];exact this
   ·have:=F6.un.gJ b o u e;rw[bj (nb b _ this)];exact this
   ·obtain⟨more,e1⟩:=F6.un.gR b ps e;exact⟨more,by rw[bj (nb b _ e1)];exact e1⟩
  have Yv:dc X.prog X.w (upd H' ex (.ext (ju ex (.ref C) dx))) h6:=λb u e=>by
   by_cases LX:b=ex
   ·subst LX
    rw[bV]at e;cases e;obtain⟨o6,e6,c6⟩:=Mw.there;exact⟨⟨o6,e6,c6⟩,⟨o6,e6⟩,λg1 g3 ⟨o7,e7,c7⟩ k=>⟨o7,k o7 e7,c7⟩⟩
   ·rw[bj LX]at e
    refine(F6.aY b u e).jQ (λc v hc q=>q) (λc q=>?_) λc xs q=>?_
    ·rw[bj (λz=>by rw[z,F6.ne]at q;cases q)];exact q
    ·rw[bj (λz=>by rw[z,F6.ne]at q;cases q)];exact q
  have I6:Inv X [] σ' (upd H' ex (.ext (ju ex (.ref C) dx))) ⟨h6,g2,d2,t2,o2⟩:=I0.yT (s':=⟨h6,g2,d2,t2,o2⟩) ho PV Yv LU (λb hb=>(eR hb).elim);refine ql (X:=X.hand ex) (I6.hand ex) hN hi (.inl hs) (v:=.ref ex) Z (λs7 I7=>?_) (.inr hs);refine fO (hh ex [] s7 _ _ _ I7 (Yh C ex dx σ' H' (I0.len.trans I.len.symm) hE F.ne)) (λf s8 q=>?_) λe s8 q=>False.elim q;have un:∀(σ2:St)(H2:Hp)(Q:Unit->ae->Prop),Inv (X.hand ex) [] σ2 H2 s8->(∀s9,Inv X [] (σ2.set i none) H2 s9->Q () s9)->wpAny (model X.prog X.w) X.A (do bindName X.env n .none;unbindBehindTheSuite X.env n qZ) Q X.xe s8:=λσ2 H2 Q I8 hq=>by
   have Oy:=I8.back I0.ok;have bZ:i<σ2.length:=by rw[Oy.len];exact(dQ.mp hi).1
   unfold bindName;refine aD (aD (gO (wpAny_point (aD (ql Oy hN hi (.inl hs) (v:=.aZ) Z (λs9 I9=>wpAny_point ?_) (.inr hs))))));refine PR I9 hN hi hk hs (v:=.aZ) (FY bZ) λkL sk=>hq kL ?_;rw[List.set_set]at sk;exact sk
  cases f with |next=>obtain⟨σ2,H2,I8,dq⟩:=q;exact un σ2 H2 _ I8 λs9 I9=>⟨_,H2,I9,dq⟩ |brk=>obtain⟨σ2,H2,I8,dq⟩:=q;exact un σ2 H2 _ I8 λs9 I9=>⟨_,H2,I9,dq⟩ |cont=>obtain⟨σ2,H2,I8,dq⟩:=q;exact un σ2 H2 _ I8 λs9 I9=>⟨_,H2,I9,dq⟩ |ret u=>obtain⟨v,σ2,H2,I8,r8,dq⟩:=q;exact un σ2 H2 _ I8 λs9 I9=>⟨v,_,H2,I9,r8,dq⟩
 refine fO (hb E _ ps [] s O H D (I.iE _) hq) (λf s1 q=>?_) λe s1 q=>q;have q':=q.kH;cases f with |next=>exact vx q' |brk=>exact q' |cont=>exact q' |ret u=>exact q'
end
end L2
namespace L2
open PySem PySem.Spec PyProof.Rows PySem.W
section
variable {prog:af}{w:World}{A:ai}{E:Value->ae->Prop}{h:Heap}{g:Array GenState}{d:Drawn}{t:Nat}{os:OsState}{K:Frag}{x C:Addr}{ox:Obj}{od:Obj}{f:Str}{v:Value}
theorem a2G{b:Bool}{Q:Value->ae->Prop}(X:K.In h)(k:iZ K C)(I:InstAt h x ox C (some od))(ha:findIn K (.ref C) f=some none)(hl:lookIn f od=some (some v))(hv:handedIn v=true) (hq:Q v ⟨h,g,d,t+1,os⟩):wpAny (model prog w) A (getAttr (.ref x) f b) Q E ⟨h,g,d,t,os⟩:=by
 have L0:=I.type (M:=model prog w);have L1:=zu (M:=model prog w) X k.ga;have L2:=zu (M:=model prog w) X k.gx;have L3:=looks_find (M:=model prog w) X I (findObj_own k.is ha Z hl);have f3:=FK.ga.bind (.ref x);have Du:(Value.builtin "BaseException.__getattribute__"==Value.builtin "object.__getattribute__")=false:=by decide+kernel
 have xU:(b&&onTheHeap (Value.builtin "BaseException.__getattribute__"))=false:=by cases b<;>rfl
 unfold getAttr getAttrBy;refine aD (wpAny_mkText (gO (aD (L0.at (aD (L1.at ?_))))));show wpAny _ _ (if(onTheHeap (Value.ref C)&&Value.builtin "BaseException.__getattribute__"==Value.builtin "object.__getattribute__")=true then _ else _) _ _ _;rw[Du,vX,aV az];unfold getAttrByItsOwn hookBefore;refine aD ?_;show wpAny _ _ (typeLookup (.ref C) "__getattr__") _ _ _;refine L2.at (aD (zt (gO ?_)));unfold callGetattribute;rw[xU,aV az];unfold boundAndCalled;rw[f3];refine aD (bA (qc ?_));refine Fy FK.ga.plain PySem.F.entry_bexc_ga (Md X k L0 ?_);refine aD (bA (aD (bA (aD (L0.at (aD (L3.at ?_)))))));exact bA (handed_on hv hq)
end
inductive a4w(K:Frag)(f:Str)(Q:VK)(x:V)(H1:Hp):Prop |mk (ex:_)(C:_)(dx:_)(fs:_)(i:_)(h0:x= .ref ex)(h1:H1 ex=some (.ext (ju ex (.ref C) (some dx))))(h2:H1 dx=some (.xd fs))(h3:iZ K C)(h4:findIn K (.ref C) f=some none)(h5:fs.lookup f=some (.int i))(h6:Q (.int i) H1)
def Qj(K:Frag)(ta:TE)(f:Str):TE:=λO H Q=>ta O H λx H1=>a4w K f Q x H1
section
variable {X:Cx}{e:Expr}{f:Str}{pos:Pos}{ta:TE}
theorem TM(K:Frag)(hK:X.K=K)(he:PE X e ta)(hb:attributeBase e f X.env (eval e X.env)=eval e X.env:=by rfl):PE X (.Attribute e f pos) (Qj K ta f):=by subst hK;intro ak s O H Q I h;refine O1 hb (aW (he ak s O H _ I h) λu s1 ⟨x,H1,I1,rx,ex,C,dx,fs,i,ee,h1,h2,k,ha,hl,q⟩=>?_);subst ee;obtain rfl:u=Value.ref ex:=rx;obtain⟨⟨o,o1,o2,o3,rE,o4,o5⟩,_,_⟩:=(show eP X.prog X.w H1 s1.heap ex (.ext (ju ex (.ref C) (some dx)))from I1.aY ex _ h1);obtain⟨mA,n1,n2⟩:=(show eP X.prog X.w H1 s1.heap dx (.xd fs)from I1.aY dx _ h2);obtain⟨od,e1,e2⟩:=L9 n1;have r:=n2 f;rw[hl]at r;cases em:mA f with |none=>rw[em]at r;exact r.elim |some v=>rw[em]at r;obtain⟨t,rfl⟩:=(show∃t,v=Value.int i t from r);have J:InstAt s1.heap ex o C (some od):=⟨o1,o2,by unfold notCls;rw[o4],by rw[o3];exact e1⟩;obtain⟨hp,g,d,tk,os⟩:=s1;exact a2G I1.dB k J ha (by rw[e2,em]) Z ⟨.int i,H1,I1.tok _,⟨t,Z⟩,q⟩
inductive a62(K:Frag)(xs:List V)(H:Hp)(Q:VK):Prop |mk (ex:Addr)(C:Addr)(dx:Option Addr)(c:V)(cv:Value)(b:Bool)(h0:xs=[.ref ex,c])(h1:H ex=some (.ext (ju ex (.ref C) dx)))(h2:iZ K C)(h3:a3m c=some cv)(h4:kitOne K (.ref C) cv=some b)(h5:Q (.bl b) H)
def SX(K:Frag):List V->Hp->VK->Prop:=λxs H Q=>a62 K xs H Q
inductive a61(K:Frag)(xs:List V)(H:Hp)(Q:VK):Prop |mk (ex:Addr)(C:Addr)(p:Addr)(dx:Option Addr)(Ds:List Addr)(b:Bool)(h0:xs=[.ref ex,.ref p])(h1:H ex=some (.ext (ju ex (.ref C) dx)))(h2:iZ K C)(h3:H p=some (.tup (Ds.map V.ref)))(h4:kitAny K (.ref C) (Ds.map Value.ref)=some b)(h5:Q (.bl b) H)
def SW(K:Frag):List V->Hp->VK->Prop:=λxs H Q=>a61 K xs H Q
theorem jg(K:Frag)(hK:X.K=K):dI X (.builtin "isinstance") (λxs H Q=>SX K xs H Q\/SW K xs H Q):=by
 subst hK;intro ak s O H xs us Q I r h;rcases h with⟨ex,C,dx,c,cv,b,rfl,he,k,hc,kb,q⟩|⟨ex,C,p,dx,Ds,b,rfl,he,k,hp,kb,q⟩
 ·obtain⟨u,v,rfl,rx,rc⟩:=vals2 r
  cases(show u=Value.ref ex from rx);have hv:v=cv:=by cases c with |ref D=>cases(show v=Value.ref D from rc);exact cW hc |ty n=>cases(show v=Value.type n from rc);exact cW hc |_=>cases hc
  subst hv;obtain⟨o,o1,o2,_⟩:=(I.aY ex _ he).1;exact kia_one (Lk k) I.dB ⟨o,o1,o2⟩ kb (λz=>nomatch z) λtk=>⟨.bl b,H,I.tok _,rfl,q⟩
 ·obtain⟨u,v,rfl,rx,rc⟩:=vals2 r
  cases(show u=Value.ref ex from rx);cases(show v=Value.ref p from rc);obtain⟨o,o1,o2,_⟩:=(I.aY ex _ he).1;obtain⟨_,its,rv,⟨cls,dd,dt,sl⟩,h1,h2,n,h3⟩:=(show eP X.prog X.w H s.heap p (.tup (Ds.map V.ref))from I.aY p _ hp);simp only at h2 h3;subst h2 h3;have e:=Gh rv;subst e;exact kia_tup (Lk k) I.dB ⟨o,o1,o2⟩ h1 kb (λz=>nomatch z) λtk=>⟨.bl b,H,I.tok _,rfl,q⟩
end
end L2
namespace L2
open PySem PySem.Spec PyProof.Rows
section
variable {X:Cx}{k:Nat}{x:Str}{p pos:Pos}{e:Expr}{es:List Expr}{t:TA}{sp:Sp}
end
theorem a3n{K:aa}{mg:bf}{h:Heap}{x:Str}{C fI:Addr}{dH:List Value}{newId:String}(X:K.In h)(G:h.Ns mainGlobals mg)(a:PySem.W.nsIn K mainGlobals x=some (some (.ref C)))(k:Ey K C fI dH newId=true):pW K mg x C fI dH newId:=⟨nV X G a,k⟩
structure iX(k:Nat)(A:ai):Prop where
 dp:A.depth+3*k+5<recursionLimit
 un:A.units+16*k+200<cLine
theorem iX.mono{j k:Nat}{A:ai}(r:iX k A)(h:j<=k):iX j A:=⟨by have:=r.dp;lia,by have:=r.un;lia⟩
theorem iX.units{k:Nat}{A:ai}(r:iX k A):A.units+64<cLine:=by have:=r.un;lia
theorem cn.mark{k:Nat}{A:ai}(r:cn k A)(v:Option Value):iX k (A.mark v):=⟨r.dp,r.un⟩
theorem iX.deeper{k:Nat}{A:ai}(r:iX (k+1) A)(env:Env):iX k (A.deeper env):=⟨by have:=r.dp;show A.depth+1+3*k+5<_;lia,by have:=r.un;show A.units+3+16*k+200<_;lia⟩
abbrev rQ(P:af)(w:World)(K:aa)(mg:bf)(au:Heap)(N:List Str)(qual:Str)(scope:Scope)(f:Addr)(cd:Value)(A:ai)(outer:List Env)(s:ae)(H:Hp):Cx:={(fz fV P w K mg au N qual scope f cd A outer s H (λ_ _ _=>False))with calm:=false,xe:=λ_ _=>False}
def OB(P:af)(w:World)(K:aa)(mg:bf)(au:Heap)(k:Nat)(f:Addr)(fd:FuncData)(ps:List Str)(sp:Sp):Prop:=(∀vs H Q E,sp vs H Q E->vs.length=ps.length)/\∀(A:ai)(outer:List Env)(s:ae)(H:Hp)(args:Args)(us:List Value)(vs:List V)(Q:VK),iX k A->mH P w K mg au A outer s H->BindsTo s fd args (ps.zip us)->Vals vs us->sp vs H Q (λ_ _ _=>False)->codeAny (model P w) A (.call (.ref f) args) (λr s'=>match r with| .ok (.ret u)=>CE outer P w H s Q u s'|_=>False) s
theorem a1m{P:af}{w:World}{K:aa}{mg:bf}{au:Heap}{k:Nat}{f:Addr}{name qual:Str}{params:Arguments}{body:List Stmt}{scope:Scope}{dV kV doc pm aG ct oc:Value}{an od:Option Addr} {dU:Array (Option Value)}{N ps:List Str}{sp:Sp}(lk:K.lookup f=some ⟨oc,od,.func (PySem.W.fnOf name qual params body scope dV kV doc pm an aG ct),dU⟩)(dX:PySem.W.codeIn K aG qual=true)(S:bh N ps scope)(len:∀vs H Q E,sp vs H Q E->vs.length=ps.length) (fw:∀(A:ai)(outer:List Env)(s:ae)(H:Hp)(vs:List V)(Q:VK),iX k (A.deeper (envOfC qual scope s.heap.objs.size f aG))->sp vs H Q (λ_ _ _=>False)->∃t,eV (rQ P w K mg au N qual scope f aG A outer s H) body t/\t {nx:=λ_ H'=>Q .aZ H',rt:=Q} (start N vs) H): OB P w K mg au (k+1) f (PySem.W.fnOf name qual params body scope dV kV doc pm an aG ct) ps sp:=by
 refine⟨len,λA outer s H args us vs Q hr e0 hb r eL=>?_⟩;have hl:=len _ _ _ _ eL;have KX:K.In s.heap:=e0.mod.kh.keeps λb o e=>(e0.bs b o e).1;have lim:s.heap.NoLimit:=e0.mod.nolimit.keeps λb o e=>(e0.bs b o e).1;have hk:∀y∈ps.zip us,scope.names.lookup y.1=some .local\/(scope.names.lookup y.1=some .cell/\((cellsFrom (s.heap.objs.size+1) scope.names []).lookup y.1).isSome=true):=λ⟨n,v⟩ hy=>by
  rcases S.par n (qe hy).1 with q|q
  ·exact .inl q
  ·exact .inr ⟨q,FF _ _ _ (.inl q)⟩
 refine OI (by have:=hr.dp;lia) (KX _ _ lk) Z S.co S.gen Z (OP KX dX) (hb _ _ _ _ ?_);refine OG S.kind hk λenv he s1 x=>?_;subst he;refine⟨lim.keeps x.toInCall.keep,codeAny_func ?_⟩;obtain⟨t,ht,hq⟩:=fw A outer s H vs Q (hr.deeper _) eL;have e1:mH P w K mg au {A with handled:=none} outer s H:=⟨e0.frames,e0.mod,e0.bs,e0.jq,e0.gI,e0.kz,e0.aY,e0.bare⟩;have I:=Dr (CX:=fV) (A:={A with handled:=none}) (E:=λ_ _ _=>False) S rfl e1 hl r x;have J:Inv (rQ P w K mg au N qual scope f aG A outer s H) [] (start N vs) H s1:=⟨⟨I.ok.mod,I.ok.kind,I.ok.glob,I.ok.blt,I.ok.above,I.ok.inj,I.ok.has,I.ok.nN,λh=>(de h).elim,Around.frames_deeper e0.frames,I.ok.oj,I.ok.uU,I.ok.bs,I.ok.jq,I.ok.mY,I.ok.mq,I.ok.gI,I.ok.kz⟩,I.os,I.bare,I.au,I.loc,I.cell,I.free,I.ij,I.pin,I.aY,I.len⟩;refine fO (ht [] s1 (start N vs) H _ J hq) (λfl s' hs=>?_) λe s' hs=>hs.elim;cases fl with |ret u=>obtain⟨v,σ',H',J',rv,q⟩:=hs;exact⟨v,H',J'.os,J'.bare,J'.au,J'.aY,rv,q⟩ |next=>obtain⟨σ',H',J',q⟩:=hs;exact⟨V.aZ,H',J'.os,J'.bare,J'.au,J'.aY,Z,q⟩ |brk=>obtain⟨_,_,_,q⟩:=hs;exact False.elim q |cont=>obtain⟨_,_,_,q⟩:=hs;exact False.elim q
def zm(P:af)(w:World)(K:aa)(mg:bf)(au:Heap)(x:Str)(k:Nat)(sp:Sp):Prop:=∃f fd ps,OB P w K mg au k f fd ps sp/\mg x=some (.ref f)/\PySem.W.keepIn K (.ref f)=true/\Binds K fd ps []
theorem FA.Zx{P:af}{w:World}{K:aa}{mg:bf}{au:Heap}{x:Str}{st:Stmt}{N ps:List Str}{k:Nat}{sp:Sp}(F:FA K mg x st)(S:bh N ps (aP st))(len:∀vs H Q E,sp vs H Q E->vs.length=ps.length) (hb:∀(kV doc pm:Value)(an:Option Addr)(aG ct:Value)(us:List Value),us.length=ps.length->bindArgs (PySem.W.fnOf x x (iS st) (eO st) (aP st) .none kV doc pm an aG ct) ⟨us,[]⟩=pure (ps.zip us)) (fw:∀(f:Addr)(aG:Value)(A:ai)(outer:List Env)(s:ae)(H:Hp)(vs:List V)(Q:VK),iX k (A.deeper (envOfC x (aP st) s.heap.objs.size f aG))->sp vs H Q (λ_ _ _=>False)->∃t,eV (rQ P w K mg au N x (aP st) f aG A outer s H) (eO st) t/\t {nx:=λ_ H'=>Q .aZ H',rt:=Q} (start N vs) H):zm P w K mg au x (k+1) sp:=by obtain⟨f,fd,hm,F⟩:=F.ex;have pk:=F.binds hb;have kp:=F.kp;obtain⟨oc,od,kV,doc,pm,an,aG,ct,dU,rfl,lk,dX⟩:=F.ex;exact⟨f,_,ps,a1m lk dX S len λA outer s H vs Q hr eL=>fw f aG A outer s H vs Q hr eL,hm,kp,pk⟩
section
variable {X:Cx}{k:Nat}{x:Str}{p pos:Pos}{e:Expr}{es:List Expr}{t:TA}{sp:Sp}
def QG(sp:Sp)(t:TA):TE:=λO H Q=>t O H λvs H1=>sp vs H1 Q (λ_ _ _=>False)
theorem TZ(F:zm X.prog X.w X.K X.mg X.au x k sp)(hr:iX k X.A)(hg:Gl X x)(ha:PA X (e::es) t)(fv:(x==("__debug__":Str))=false:=by decide) (he:starEach (e::es) X.env=(false,eval e X.env)::starEach es X.env:=by rfl)(dN:(backTo pos (starEach es X.env)).any (·.1)=false:=by rfl):PE X (.Call (.Name x p) (e::es) [] pos) (QG sp t):=by
 obtain⟨f,fd,ps,F,hm,hk,hb⟩:=F;intro ak s O H Q I h;refine vy (lZ I hg hm ?_ fv);refine zA (h₀:=X.au) I.ok.mod.kh hk (aW (ha pos ak s O H _ I h) λus s1 ⟨vs,H1,I1,r,q⟩=>⟨I1.dB,?_⟩) he dN;have hl:(us++[]).length=ps.length:=by rw[lG,<-r.length];exact F.1 _ _ _ _ q
 have bt:=hb s1 us I1.dB hl;rw[lG]at bt;refine qc (vC (F.2 X.A X.stack s1 H1 ⟨us,[]⟩ us vs Q hr I1.yE bt r q) λr s' hq=>?_);cases r with |error e=>exact hq.elim |ok fl=>cases fl with |ret u=>exact I1.after hq |next=>exact hq.elim |brk=>exact hq.elim |cont=>exact hq.elim
end
section
variable {P:af}{w:World}{K:aa}{mg:bf}{au:Heap}{N:List Str}{qual:Str}{scope:Scope}{f:Addr}{cd:Value}{A:ai}{outer:List Env}{s:ae}{H:Hp}{E E0:XK}
theorem Cp(he:∀cls dx H',E cls dx H'->E0 cls dx H'):Passes (jv P w) (fz (jv P w) P w K mg au N qual scope f cd A outer s H E0) E:=by
 intro ak O H1 s1 e s2 I hx;obtain⟨ex,cls,dx,H',B,rfl,ho,hg,mj,F,q⟩:=hx;have mj:iY B (envOfC qual scope s.heap.objs.size f cd::outer) ex cls dx .none s2.heap:=mj;show wpAny (model P w) (A.deeper (envOfC qual scope s.heap.objs.size f cd)) (leaving (envOfC qual scope s.heap.objs.size f cd) (.ref ex)) _ _ _;refine Xq (L:=s.heap.objs.size) I.ok.frames Z mj λh' x1 x2=>?_;have F2:=F.step mj.1 x1.1 x2 mj.2.2.1;have sub:∀b,b∈cR outer->b∈cR (envOfC qual scope s.heap.objs.size f cd::outer):=λb hb=>by obtain⟨env,h1,h2⟩:=iA.mp hb;exact iA.mpr ⟨env,.tail _ h1,h2⟩
 have ka:∀b o,s.heap.get? b=some o->b∉cR outer->b∉cR (envOfC qual scope s.heap.objs.size f cd::outer):=λb o e hb hm=>by
  obtain⟨env,h1,h2⟩:=iA.mp hm;rcases bS.mp h1 with z|h1
  ·subst z
   have e1:s.heap.objs.size=b:=cW h2;have e2:=bN e;rw[<-e1]at e2;exact absurd e2 (nX _)
  ·exact hb (iA.mpr ⟨env,h1,h2⟩)
 have nx:∀b:Addr,b∉([]:List Addr):=λ_=>eR;refine⟨ex,cls,dx,H',B,Z,ho.trans I.os,hg,x1,⟨⟨λb o e n hb _=>?_,λb o e n hb _=>?_,λb o e n _=>?_,λb o e _=>?_,λb xs e=>?_,λb o u e=>?_,λb ps e=>?_⟩,F2.aY,λb o e n hb=>?_,F2.k2,λb o e hb=>?_,λb hb=>F2.fr b (sub b hb),?_,F2.ne⟩,he _ _ _ q⟩
 ·exact F2.un.keep b o (I.au.keep b o e n hb (nx b)) (I.au.free b o e n (nx b)) (ka b o e hb) (nx b)
 ·obtain⟨sl,e1⟩:=I.au.slot b o e n hb (nx b)
  obtain⟨mS,e2⟩:=F2.un.slot b _ e1 (I.au.free b o e n (nx b)) (sub b hb) (nx b);exact⟨mS,e2⟩
 ·obtain⟨sl,e1⟩:=I.au.any e n (nx b)
  exact F2.un.free b _ e1 (I.au.free b o e n (nx b)) (nx b)
 ·obtain⟨o1,e1⟩:=I.au.there b o e (nx b)
  exact F2.un.there b o1 e1 (nx b)
 ·exact F2.un.gQ b xs (I.au.gQ b xs e)
 ·exact F2.un.gJ b o u (I.au.gJ b o u e)
 ·obtain⟨m1,e1⟩:=I.au.gR b ps e
  obtain⟨m2,e2⟩:=F2.un.gR b _ e1;exact⟨m1++m2,by rw[<-Array.append_assoc];exact e2⟩
 ·exact F2.k1 b o (I.au.keep b o e n hb (nx b)) (I.au.free b o e n (nx b)) (ka b o e hb)
 ·obtain⟨o1,e1⟩:=I.au.there b o e (nx b)
  exact F2.k3 b o1 e1 (ka b o e hb)
 ·cases e:s.heap.get? ex with |none=>rfl |some o=>obtain⟨o1,e1⟩:=I.au.there ex o e (nx ex);rw[F2.nw]at e1;cases e1
end
end L2
namespace L2
open PySem PySem.Spec PyProof.Rows
open Builtin Builtin.ObjectAttr
section
variable {prog:af}{w:World}{A:ai}{E:Value->ae->Prop}{s:ae}{K:aa}{x C dx:Addr}{ox:Obj}{fs:Array Value}{name:Str}{v:Value}{Q:Unit->ae->Prop}{mA:bf}{ks:List Str}
end
section
variable {X:Cx}{o e value:Expr}{f:Str}{pos pos' og:Pos}{ta tv:TE}
end
end L2
namespace L2
open PySem PySem.Spec PyProof.Rows
def mC(P:af)(w:World)(K:aa)(mg:bf)(au:Heap)(C:Addr)(m:Str)(k:Nat)(sp:Sp):Prop:=∃f fd ps,f7 P w K mg au (jv P w) k f fd ps sp/\Meth K C m f/\Binds K fd ps []
section
variable {P:af}{w:World}{K:aa}{mg:bf}{au:Heap}
theorem ir.VS{m qual:Str}{st:Stmt}{f:Addr}{fd:FuncData}{N ps:List Str}{k:Nat}{sp:Sp}(F:ir K m qual st f fd)(S:bh N ps (aP st))(len:∀vs H Q E,sp vs H Q E->vs.length=ps.length) (fw:∀(aG:Value)(A:ai)(outer:List Env)(s:ae)(H:Hp)(vs:List V)(Q:VK)(E:XK),cn k (A.deeper (envOfC qual (aP st) s.heap.objs.size f aG))->sp vs H Q E->∃t,eV (fz (jv P w) P w K mg au N qual (aP st) f aG A outer s H E) (eO st) t/\t {nx:=λ_ H'=>Q .aZ H',rt:=Q} (start N vs) H):f7 P w K mg au (jv P w) (k+1) f fd ps sp:=by obtain⟨oc,od,kV,doc,pm,an,aG,ct,dU,rfl,lk,dX⟩:=F.ex;exact Mt lk dX S len λA outer s H vs Q E hr eL=>fw aG A outer s H vs Q E hr eL
theorem MA.E2{C:Addr}{m qual:Str}{st:Stmt}{N ps:List Str}{k:Nat}{sp:Sp}(F:MA K C m qual st)(S:bh N ps (aP st))(len:∀vs H Q E,sp vs H Q E->vs.length=ps.length) (hb:∀(kV doc pm:Value)(an:Option Addr)(aG ct:Value)(us:List Value),us.length=ps.length->bindArgs (PySem.W.fnOf m qual (iS st) (eO st) (aP st) .none kV doc pm an aG ct) ⟨us,[]⟩=pure (ps.zip us)) (fw:∀(f:Addr)(aG:Value)(A:ai)(outer:List Env)(s:ae)(H:Hp)(vs:List V)(Q:VK)(E:XK),cn k (A.deeper (envOfC qual (aP st) s.heap.objs.size f aG))->sp vs H Q E->∃t,eV (fz (jv P w) P w K mg au N qual (aP st) f aG A outer s H E) (eO st) t/\t {nx:=λ_ H'=>Q .aZ H',rt:=Q} (start N vs) H):mC P w K mg au C m (k+1) sp:=by obtain⟨f,fd,hm,F⟩:=F.ex;exact⟨f,fd,ps,F.VS S len λaG A outer s H vs Q E=>fw f aG A outer s H vs Q E,hm,F.binds hb⟩
end
section
variable {X:Cx}{k:Nat}{x m:Str}{C:Addr}{p pos apos:Pos}{o e:Expr}{es:List Expr}{t:TA}{ta:TE}{sp:Sp}{E:XK}
inductive Ot(C:Addr)(m:Str)(sp:Sp)(E:XK)(t:TA)(O:St)(Q:VK)(x:V)(H1:Hp):Prop |mk (a:Addr)(dx:Addr)(fs:List (Str×V))(h0:x= .ref a)(h1:H1 a=some (.ins C dx fs))(h2:fs.lookup m=none)(h3:t O H1 λvs H2=>sp (x::vs) H2 Q E)
def Qy(C:Addr)(m:Str)(sp:Sp)(E:XK)(ta:TE)(t:TA):TE:=λO H Q=>ta O H λx H1=>Ot C m sp E t O Q x H1
theorem WG{O:St}{Q:VK}{x:V}{H1:Hp}:sj C m sp [] E t O Q x H1=Ot C m sp E t O Q x H1:=by
 have e1:(λ(vs:List V) H1=>sp (x::(vs++[])) H1 Q E)=λvs H1=>sp (x::vs) H1 Q E:=by funext vs H1;rw[lG]
 refine propext ⟨λ⟨a,dx,fs,h0,h1,h2,h3⟩=>⟨a,dx,fs,h0,h1,h2,?_⟩,λ⟨a,dx,fs,h0,h1,h2,h3⟩=>⟨a,dx,fs,h0,h1,h2,?_⟩⟩
 ·rw[<-e1];exact h3
 ·rw[e1];exact h3
theorem xk{pl:Sem Bool}(F:mC X.prog X.w X.K X.mg X.au C m k sp)(hp:Passes (jv X.prog X.w) X E)(c:gM X.K C)(hr:cn k X.A)(he:PE X o ta)(ha:PA X (e::es) t) (fh:starEach (e::es) X.env=(false,eval e X.env)::starEach es X.env:=by rfl)(dN:(backTo pos (starEach es X.env)).any (·.1)=false:=by rfl) (ht:eval (.Call (.Attribute o m apos) (e::es) [] pos) X.env=(do
 let ov<-eval o X.env
 standAt apos.atName
 let(f,first)<-holding [ov] (getMethod ov m pl)
 callWith pos f first (backTo pos (starEach (e::es) X.env)) (backToKw pos (keywordEach [] X.env))):=by rfl): PE X (.Call (.Attribute o m apos) (e::es) [] pos) (Qy C m sp E ta t):=by
 obtain⟨f,fd,ps,F,hm,hb⟩:=F;have h:=K4 (pos:=pos) (apos:=apos) (pl:=pl) he c hm F hr hb .nil hp ha fh dN ht;intro ak s O H Q I hq;refine h ak s O H Q I ?_;show ta O H λx H1=>sj C m sp [] E t O Q x H1;simp only[WG];exact hq
end
end L2
namespace L2
open PySem PySem.Spec PyProof.Rows SeqAt
section
variable {X:Cx}{k:Nat}{x:Str}{p pos:Pos}{e:Expr}{es:List Expr}{t:TA}{sp:Sp}{E:XK}
inductive a6r(X:Cx)(i:Nat)(CX:iu)(E:XK)(t:TA)(O:St)(H:Hp)(Q:VK):Prop |mk (f:Addr)(fd:FuncData)(ps:List Str)(k:Nat)(sp:Sp)(h0:O[i]? =some (some (.ref f)))(h1:f7 X.prog X.w X.K X.mg X.au CX k f fd ps sp)(h2:PySem.W.keepIn X.K (.ref f)=true)(h3:Binds X.K fd ps [])(h4:cn k X.A)(h5:t O H λvs H1=>sp vs H1 Q E)
theorem U1(i:Nat){CX:iu}(hp:Passes CX X E)(hN:X.N[i]? =some x:=by rfl)(hv:zd X.env.scope x:=by first|exact Or.inl rfl|exact Or.inr (Or.inl rfl)|exact Or.inr (Or.inr rfl))(ha:PA X (e::es) t)(hd:(x==("__debug__":Str))=false:=by decide) (dX:(x==("__classdict__":Str))=false:=by decide)(he:starEach (e::es) X.env=(false,eval e X.env)::starEach es X.env:=by rfl)(dN:(backTo pos (starEach es X.env)).any (·.1)=false:=by rfl): PE X (.Call (.Name x p) (e::es) [] pos) (λO H Q=>a6r X i CX E t O H Q):=by intro ak s O H Q I h;obtain⟨f,fd,ps,k,sp,h0,F,hk,hb,hr,ht⟩:=h;refine vy (aW (K2 (pos:=p) hN hv hd dX ak s O H (λv H'=>v= .ref f/\H'=H) I ⟨_,h0,Z,Z⟩) λu s1 ⟨v,H1,I1,rv,e1,e2⟩=>?_);subst e1 e2;cases(show u=Value.ref f from rv);refine zA (h₀:=X.au) I1.ok.mod.kh hk (aW (ha pos ak s1 O H1 _ I1 ht) λus s2 ⟨vs,H2,I2,r,q⟩=>⟨I2.dB,?_⟩) he dN;refine x9 F hr hb .nil hp I2 r ?_;rw[lG];exact q
end
section
variable {X:Cx}
theorem zM:∀{bs:List Bool}{us:List Value},Vals (bs.map V.bl) us->us=bs.map Value.bool |[],_,.nil=>rfl |b::bs,_,.cons q r=>by cases(show _=Value.bool b from q);rw[zM r];rfl
def p4:Value->Bool | .bool b=>b |_=>false
theorem MT{bs:List Bool}(A:ai)(s:ae):∀y,y∈(bs.map Value.bool).toArray->EqAt A s y (.bool true) (p4 y):=λy hy=>by obtain⟨b,_,rfl⟩:=cB.mp (List.mem_toArray.mp hy);have:=EqAt.bool_bool (A:=A) (s:=s) b true;cases b<;>exact this
theorem a3d(bs:List Bool):(bs.map Value.bool).countP p4=bs.count true:=by induction bs with |nil=>rfl |cons b r ih=>cases b<;>simp[List.countP_cons,p4,ih,List.count_cons]
inductive Ox(K:aa)(x:V)(vs:List V)(H:Hp)(Q:VK):Prop |mk (l:Addr)(bs:List Bool)(h0:x= .ref l)(h1:vs=[.bl true])(h2:aH K H l (bs.map V.bl))(h3:Q (.int (bs.count true:Nat)) H)
theorem WH(K:aa)(hK:X.K=K):rY X "list.count" (λx vs H Q=>Ox K x vs H Q):=by subst hK;intro ak s O H x vs v us Q I rx rv h;obtain⟨l,bs,rfl,rfl,hl,q⟩:=h;cases rx;obtain⟨u,rfl,ru⟩:=vals1 rv;cases(show u=Value.bool true from ru);obtain⟨its,r,pl,_⟩:=I.list hl;rw[zM r]at pl;obtain⟨⟨cls,dd,data,sl⟩,ho,hc,n,hd⟩:=id pl.isList;simp only at hc hd;subst hc hd;refine sy PySem.F.slot_list_count ⟨_,ho,Z⟩ PySem.F.entry_list_count (PySem.F.args_list_count_2 _ _) (list_countAt l _ n dd sl (.bool true) p4) ⟨ho,MT _ _,?_⟩;rw[show(bs.map Value.bool).toArray.toList=bs.map Value.bool from Z,a3d];exact⟨.int _,H,I.tok _,⟨_,Z⟩,q⟩
inductive Ov(K:aa)(x:V)(vs:List V)(H:Hp)(Q:VK):Prop |mk (l:Addr)(bs:List Bool)(j:Nat)(h0:x= .ref l)(h1:vs=[.bl true])(h2:aH K H l (bs.map V.bl))(h3:bs[j]? =some true)(h4:∀m,m<j->bs[m]? =some false)(h5:j<1000)(h6:Q (.int (j:Nat)) H)
theorem WE(K:aa)(hK:X.K=K):rY X "list.index" (λx vs H Q=>Ov K x vs H Q):=by
 subst hK;intro ak s O H x vs v us Q I rx rv h;obtain⟨l,bs,j,rfl,rfl,hl,hj,hm,a7E,q⟩:=h;cases rx;obtain⟨u,rfl,ru⟩:=vals1 rv;cases(show u=Value.bool true from ru);obtain⟨its,r,pl,_⟩:=I.list hl;rw[zM r]at pl;obtain⟨⟨cls,dd,data,sl⟩,ho,hc,n,hd⟩:=id pl.isList;simp only at hc hd;subst hc hd;have YS:=(dQ.mp hj);obtain⟨YU,ph⟩:=YS;refine sy PySem.F.slot_list_index ⟨_,ho,Z⟩ PySem.F.entry_list_index (PySem.F.args_list_index_2 _ _) (list_indexAt l _ n dd sl (.bool true) p4 j (by simpa using YU) aw ?_ (λm hm1 y6=>?_)) ⟨ho,MT _ _,⟨.int _,H,I.tok _,⟨_,Z⟩,q⟩⟩
 ·simp[ph,p4]
 ·have:=hm m y6
  obtain⟨h1,h2⟩:=dQ.mp this;simp[h2,p4]
theorem U5(K:aa)(h:X.K=K){o e:Expr}{to:TE}{t:TA}{apos bT:Pos}(ho:PE X o to)(ha:PA X [e] t) (jm:attributeBase o "count" X.env (eval o X.env)=eval o X.env:=by rfl) (jk:((backTo bT (starEach [e] X.env)).all (λx=>!x.1)&&(backToKw bT (keywordEach [] X.env)).all (λx=>x.1.isSome) &&decide ([e].length+([]:List Keyword).length+(if([]:List Keyword).isEmpty then 0 else 1)<30))=true:=by rfl) (jj:(apos.endLine==bT.line)=true:=by rfl)(hs:starEach [e] X.env=(false,eval e X.env)::starEach [] X.env:=by rfl)(ji:(backTo bT (starEach [] X.env)).any (·.1)=false:=by rfl): PE X (.Call (.Attribute o "count" apos) [e] [] bT) (oh K "list" (λx vs H Q=>Ox K x vs H Q) to t):=by subst h;exact qz OU PySem.F.slot_list_count PySem.F.type_list_count (WH X.K rfl) ho ha jm jk jj hs ji
theorem U4(K:aa)(h:X.K=K){o e:Expr}{to:TE}{t:TA}{apos bT:Pos}(ho:PE X o to)(ha:PA X [e] t) (jm:attributeBase o "index" X.env (eval o X.env)=eval o X.env:=by rfl) (jk:((backTo bT (starEach [e] X.env)).all (λx=>!x.1)&&(backToKw bT (keywordEach [] X.env)).all (λx=>x.1.isSome) &&decide ([e].length+([]:List Keyword).length+(if([]:List Keyword).isEmpty then 0 else 1)<30))=true:=by rfl) (jj:(apos.endLine==bT.line)=true:=by rfl)(hs:starEach [e] X.env=(false,eval e X.env)::starEach [] X.env:=by rfl)(ji:(backTo bT (starEach [] X.env)).any (·.1)=false:=by rfl): PE X (.Call (.Attribute o "index" apos) [e] [] bT) (oh K "list" (λx vs H Q=>Ov K x vs H Q) to t):=by subst h;exact qz OU PySem.F.slot_list_index PySem.F.type_list_index (WE X.K rfl) ho ha jm jk jj hs ji
end
end L2
namespace L2
open PySem PySem.Spec PyProof.Rows PySem.W
section
variable {P:af}{w:World}{K:Frag}{mg:bf}{au:Heap}{N:List Str}{qual:Str}{scope:Scope}{f:Addr}{cd:Value}{cl:List (Str×Addr)}{A:ai}{outer:List Env}{s:ae}{H:Hp}{E E0:XK}
end
section
variable {X:Cx}{x:Str}{p pos:Pos}{E:XK}
end
section
variable {X:Cx}{ak:List (Addr×Obj)}{O:St}{H:Hp}{s:ae}{pr:Arguments}{bd:Expr}{sc:Scope}{Xb:Pos}{cl:List (Str×Addr)}{T c:Addr}{q:Str}
end
section
variable {X:Cx}{k:Nat}{x:Str}{p pos Xb:Pos}{pr:Arguments}{bd:Expr}{sc:Scope}{sp:SpH}{T c:Addr}{q:Str}{N:List Str}
end
section
variable {P:af}{w:World}{K:Frag}{mg:bf}{au:Heap}
end
end L2
namespace L2
open PySem PySem.Spec PyProof.Rows
section
variable {P:af}{w:World}{K:aa}{mg:bf}{au:Heap}{N:List Str}{qual:Str}{scope:Scope}{f:Addr}{cd:Value}{A:ai}{outer:List Env}{s:ae}{H:Hp}{E:XK}{ak:List (Addr×Obj)}{O:St}{H1:Hp}{s1:ae}{ex:Addr}{C:Addr}{dx:Addr}{φ:Heap->Prop}{cls:Value}{dxo:Option Addr}{h2:Heap}{vs:List Value}
theorem sN(I:Inv (fz (jv P w) P w K mg au N qual scope f cd A outer s H E) ak O H1 s1)(hx:Heap.MadeExcOf s1.heap h2 ex cls vs)(q:E cls none H1):(fz (jv P w) P w K mg au N qual scope f cd A outer s H E).xe (.ref ex) {s1 with heap:=h2}:=by
 obtain⟨t,e1,_⟩:=hx.there;have hf:H1 ex=none:=by cases e:H1 ex with |none=>rfl |some o=>obtain⟨ob,e2⟩:=(I.aY ex o e).there;rw[hx.new]at e2;cases e2
 have nw:s.heap.get? ex=none:=by cases e:s.heap.get? ex with |none=>rfl |some o=>obtain⟨ob,e2⟩:=I.au.there ex o e (eR);rw[hx.new]at e2;cases e2
 have I2:=I.kept (t':=s1.toks) hx.keeps;have fh:h2.FunFrames au (envOfC qual scope s.heap.objs.size f cd::outer):=I2.stack;have rk:∀env∈(envOfC qual scope s.heap.objs.size f cd::outer),∀b,env.frame=some b->b∈ex::cR (envOfC qual scope s.heap.objs.size f cd::outer):=λenv he b hb=>.tail _ (iA.mpr ⟨env,he,hb⟩);have hB:(PySem.W.hideAll h2 (ex::cR (envOfC qual scope s.heap.objs.size f cd::outer))).StaysIn h2:=λb o e=>OM _ e;have ka:∀b o,s.heap.get? b=some o->b∉cR outer->b∉ex::cR (envOfC qual scope s.heap.objs.size f cd::outer):=λb o e hb hm=>by
  rcases bS.mp hm with rfl|hm
  ·rw[nw]at e;cases e
  obtain⟨env,he,hf⟩:=iA.mp hm;rcases bS.mp he with rfl|he
  ·have e1:s.heap.objs.size=b:=cW hf
   have h1:=bN e;rw[<-e1]at h1;exact absurd h1 (nX _)
  ·exact hb (iA.mpr ⟨env,he,hf⟩)
 have F0:Fl P w outer H s.heap ex H1 (PySem.W.hideAll h2 (ex::cR (envOfC qual scope s.heap.objs.size f cd::outer))) h2:=by
  refine⟨I2.au,I2.aY,λb o e n hb=>sA _ (I2.au.keep b o e n hb (eR)) (ka b o e hb),λb o e=>?_,λb o e hb=>?_,λb hb=>?_,nw,hf⟩
  ·obtain⟨jX,e1⟩:=(I2.aY b o e).there
   refine⟨jX,sA _ e1 λhm=>?_⟩;rcases bS.mp hm with z|hm
   ·rw[z,hf]at e;cases e
   ·rw[I2.qm b hm]at e
    cases e
  ·obtain⟨jX,e1⟩:=I2.au.there b o e (eR)
   exact⟨jX,sA _ e1 (ka b o e hb)⟩
  ·obtain⟨env,he,hf⟩:=iA.mp hb
   exact I2.qm b (iA.mpr ⟨env,.tail _ he,hf⟩)
 show wpAny (model P w) (A.deeper (envOfC qual scope s.heap.objs.size f cd)) (leaving (envOfC qual scope s.heap.objs.size f cd) (.ref ex)) _ _ _;refine Lg (L:=s.heap.objs.size) I.ok.frames (PySem.W.funFrames_hide fh rk) Z e1 hB (OO _ (.head _)) Z Z Z λh' x1 x2=>?_;exact⟨ex,cls,none,H1,_,Z,I.os,I.bare,x1,F0.step hB x1.1 x2 fh.2.2,q⟩
end
section
variable {X:Cx} {sc:Scope}
end
section
variable {κ : Type} [DecidableEq κ]
end
section
variable {P:af}{w:World}{H:Hp}{h:Heap}{a:Addr}
end
section
variable {X:Cx}{ak:List (Addr×Obj)}{O:St}{H:Hp}{s:ae}{a:Addr}{y v:V}{u r:Value}{o:Option V}{A:ai}{E:Value->ae->Prop}
end
section
variable {X:Cx}{ak:List (Addr×Obj)}{O:St}{H:Hp}{s:ae}{a:Addr}{cT:List (Key×V)}{k:Key}{u:Value}{A:ai}{E:Value->ae->Prop}
end
def Oq(i:Expr):Prop:=∀ov iv,subscripted i false ov iv=operate [ov,iv] (getItem ov iv)
theorem QR{prog:af}{w:World}{A:ai}{E:Value->ae->Prop}{s:ae}{env:Env}{value slice:Expr}{pos:Pos}{T id:String}{Q:Value->ae->Prop} (hl:typeLookup (.type T) "__getitem__"=pure (some (.builtin id)))(hs:Oq slice) (h:wpAny (model prog w) A (eval value env) (λo s₁=>wpAny (model prog w) A (eval slice env) (λi s₂=>s₂.TypeIs o T/\wpAny (model prog w) A (getItem o i) Q E s₂) E s₁) E s): wpAny (model prog w) A (eval (.Subscript value slice pos) env) Q E s:=by
 refine Subscript_ (fO h (λo s₁ h₁=>fO h₁ (λi s₂ h₂=>?_) λ_ _ x=>x) λ_ _ x=>x);obtain⟨hT,h₂⟩:=h₂;unfold subscriptTail;refine aD ?_;rw[getitemInPython_of_ne hT.not_modules];refine aD (wpAny_specialOf hT hl ?_);have fin:wpAny (model prog w) A (subscripted slice false o i) (λr s₃=>wpAny (model prog w) A (letTemporaryGo value o r>>=λ_=>pure r) Q E s₃) E s₂:=by rw[hs o i];exact wpAny_operating (fO h₂ (λr s₃ h₃=>aD (wpAny_letTemporaryGo (bA h₃))) λ_ _ x=>x)
 first |exact bA (aD fin) |exact aD (bA (aD fin)) |exact aD fin
section
variable {X:Cx}{o i e value:Expr}{pos pos' og:Pos}{td ty tv:TE}
end
section
variable {X:Cx} {pos:Pos}
end
section
variable {X:Cx}{ak:List (Addr×Obj)}{O:St}{H:Hp}{s:ae}{a:Addr}{y d:V}{u r:Value}{o:Option V}{A:ai}{E:Value->ae->Prop}
end
section
variable {X:Cx}{o e f:Expr}{apos bT:Pos}{td ty tx:TE}
end
section
variable {X:Cx}{ak:List (Addr×Obj)}{O:St}{H:Hp}{s:ae}{a:Addr}{cT:List (Key×V)}{A:ai}{E:Value->ae->Prop}
end
section
variable {X:Cx}{ak:List (Addr×Obj)}{O:St}{H:Hp}{s:ae}{a:Addr}{y:V}{u:Value}{A:ai}{E:Value->ae->Prop}
end
end L2
namespace L2
open PySem PySem.Spec PyProof.Rows PySem.W
structure GD(w:World)(K:Frag)(mg:bf)(x:Str)(a:Addr):Prop where
 at':mg x=some (.ref a)
 ob:∃es n,K.lookup a=some ⟨.type "dict",none,.dict es n,#[]⟩/\KeysLit w.params es.toList
 lo:(a==sysModules)=false
theorem a0S{w:World}{K:Frag}{mg:bf}{x:Str}{a:Addr}{h:Heap}{es:Array DictEntry}{n:Nat}(X:K.In h)(G:h.Ns mainGlobals mg)(e:nsIn K mainGlobals x=some (some (.ref a)))(hl:K.lookup a=some ⟨.type "dict",none,.dict es n,#[]⟩)(hk:KeysLit w.params es.toList)(lo:(a==sysModules)=false):GD w K mg x a:=⟨mg_of X G e,⟨es,n,hl,hk⟩,lo⟩
section
variable {X:Cx}{i:Expr}{x:Str}{a:Addr}{pos p:Pos}{ty:TE}
inductive a6p(K:Frag)(a:Addr)(Q:VK)(y:V)(H:Hp):Prop |mk (z:Str)(r:Option Value)(h0:y= .str z)(h1:nsIn K a z=some r)(h2:Q (.bl r.isSome) H)
theorem K6(G:GD X.w X.K X.mg x a)(hg:Gl X x)(hi:PE X i ty)(fv:(x==("__debug__":Str))=false:=by decide):PC X .In i (.Name x p) (λO H Q=>ty O H λy H1=>a6p X.K a Q y H1):=by intro ak s O H Q I h;obtain⟨es,n,hl,hk⟩:=G.ob;refine aW (hi ak s O H _ I h) λiv s1 ⟨y,H1,I1,ry,z,r,ey,e,q⟩=>lZ I1 hg G.at' ?_ fv;subst ey;obtain⟨t,rfl⟩:=ry;refine wpAny_in_of (strKind_is X.prog X.w z t) G.lo (mapOf_K (prog:=X.prog) I1.dB hl hk) ?_;rw[find_K hl e];exact⟨.bl r.isSome,H1,I1.tok _,Z,q⟩
inductive a6q(K:Frag)(a:Addr)(Q:VK)(y:V)(H:Hp):Prop |mk (z:Str)(u:Value)(v:V)(h0:y= .str z)(h1:nsIn K a z=some (some u))(h2:RelV v u)(h3:Q v H)
theorem TY(G:GD X.w X.K X.mg x a)(hg:Gl X x)(hi:PE X i ty)(hs:Oq i)(fv:(x==("__debug__":Str))=false:=by decide):PE X (.Subscript (.Name x p) i pos) (λO H Q=>ty O H λy H1=>a6q X.K a Q y H1):=by intro ak s O H Q I h;obtain⟨es,n,hl,hk⟩:=G.ob;refine QR PySem.F.slot_dict_getitem.lookup hs (lZ I hg G.at' ?_ fv);refine aW (hi ak s O H _ I h) λiv s1 ⟨y,H1,I1,ry,z,u,v,ey,e,rv,q⟩=>?_;subst ey;obtain⟨t,rfl⟩:=ry;have hm:=mapOf_K (prog:=X.prog) (w:=X.w) I1.dB hl hk;exact⟨hm.typeIs,wpAny_getItem_of (strKind_is X.prog X.w z t) hm (find_K hl e) ⟨v,H1,I1.tok _,rv,q⟩⟩
end
theorem Xs{l:OpenLaw}{q:af}{loose:List Str}{XP:(bf)->Heap->Prop}{YP:World->Heap->Prop}{d:DefRec}{K:Params->Frag}{k:Nat}{x:Str}{st:Stmt}(hn:l.most=some 63)(uI:d.params.defaults=[]) (hr:cn k callerA)(hY:∀(w:World)(h:Heap),YP w h->(K w.params).In h)(All:World->Frag->(bf)->Prop) (F:∀(w:World)(mg:bf)(h:Heap),(K w.params).In h->h.Ns mainGlobals mg->All w (K w.params) mg) (L:∀(w:World)(K:Frag)(mg:bf),All w K mg->FA K mg d.name st) (hb:∀(kV doc pm:Value)(an:Option Addr)(aG ct u:Value),bindArgs (fnOf d.name d.name (iS st) (eO st) (aP st) .none kV doc pm an aG ct) ⟨[u],[]⟩=pure [(x,u)]) (ok:∀(P:af)(w:World)(K:Frag)(mg:bf)(au:Heap)(f:Addr)(fd:FuncData),All w K mg->ir K d.name d.name st f fd->f7 P w K mg au fV k f fd [x] (λvs H Q _=>∃(a:Addr)(ns:List Int),vs=[.ref a]/\aH K H a (ns.map V.int)/\ns.length<=63/\∀H',Q (.bl true) H')): WalkO q loose XP YP l.row.toRowW d [] (λf vs=>PySem.call f vs):=L2.PH (n:=63) (k:=k) (x:=x) (CX:=λ_=>fV) (sp:=λw=>λvs H Q _=>∃(a:Addr)(ns:List Int),vs=[.ref a]/\aH (K w.params) H a (ns.map V.int)/\ns.length<=63/\∀H',Q (.bl true) H') hn az uI hr hY (λw mg fa h KX G uA=>by
 have A:=F w mg h KX G;obtain⟨f,fd,hm,Fn⟩:=(L _ _ _ A).ex;have e:fa=f:=by rw[uA]at hm;injection (cW hm)
 subst e;refine⟨fd,λs u=>?_,λau _ _=>ok l.prog w _ mg au fa fd A Fn⟩;obtain⟨oc,od,kV,doc,pm,an,aG,ct,dU,rfl,lk,dX⟩:=Fn.ex;exact .of_eq (hb kV doc pm an aG ct u)) (λ_ _ a ns hl _ hS=>⟨a,ns,Z,hS,hl,λ_=>rfl⟩) λ_ _ _ _ _ z=>z
end L2
namespace L2
open PySem PySem.Spec PyProof.Rows
inductive a4C(tb:TE)(O:St)(Q:VK)(x:V)(H1:Hp):Prop |mk (z:Str)(h0:x= .str z)(h1:z.length<=16777216)(h2:if z="" then tb O H1 Q else Q (.str z) H1)
def Qt(ta tb:TE):TE:=λO H Q=>ta O H λx H1=>a4C tb O Q x H1
theorem QT{z:Str}(h:z.length=0):z="":=Tm.EN (by have:z.cps.size=0:=h;rw[Array.eq_empty_of_size_eq_zero this];rfl)
theorem TN{X:Cx}{a b:Expr}{rest:List Expr}{pos:Pos}{ta tb:TE}(ha:PE X a ta)(hb:PE X (.BoolOp .Or (b::rest) pos) tb):PE X (.BoolOp .Or (a::b::rest) pos) (Qt ta tb):=by
 intro ak s O H Q I h;refine BoolOp_or (aW (ha ak s O H _ I h) λv s1 ⟨x,H1,I1,r1,q1⟩=>?_);obtain⟨z,rfl,hl,q1⟩:=q1;obtain⟨t,rfl⟩:=(show∃t,v=Value.str z t from r1);refine P.truthy_str bp ?_;by_cases e:z=""
 ·rw[aU e]at q1
  subst e;exact hb ak _ O H1 Q (I1.tok _) q1
 ·rw[aV e]at q1
  have:((z.length:Int) !=0)=true:=by rw[bne_iff_ne];intro h0;exact e (QT bp)
  rw[this];exact⟨.str z,H1,I1.tok _,⟨t,Z⟩,q1⟩
end L2
namespace Lw
open PySem PySem.Spec PyProof.Rows L2
def top(i:Nat):Stmt:=PySem.Challenge.pw_glidequeue_k55_fed_at_a_desk.main.body.getD i (.Pass ⟨0,0,0,0⟩)
section
variable {P:af}{w:World}{K:aa}{mg:bf}{au:Heap}
inductive a4Q(vs:List V)(H:Hp)(Q:VK):Prop |mk (p:_)(many:_)(h0:vs=[.ref p,.int many])(h1:fN H p)(h2:1<=many)(h3:many<=10^40)(h4:∀d H',0<=d->d<many->bG p H H'->Q (.int d) H')
def mR:Sp:=λvs H Q _=>a4Q vs H Q
abbrev Ah:Stmt:=top 106
theorem HX:bh ["_law_bag_here","_law_many","_law_digit","_law_number","_law_room"] ["_law_bag_here","_law_many"] (aP Ah):=bo aJ
theorem UA(F:FA K mg "_law_take" Ah)(B:bw mg):aE P w K mg au "_law_take" 1 mR:=by
 refine F.has HX (λvs H Q E h=>?_) (λ_ _ _ _ _ _=>da λ_ _=>rfl) (λf aG A outer s H vs Q E hr h=>?_)
 ·obtain⟨p,many,rfl,_⟩:=h
  rfl
 ·obtain⟨p,many,rfl,⟨c,m,hp,ok⟩,h1,h2,k⟩:=h
  obtain⟨c0,m0,m1⟩:=id ok;have nd:=HX.nd;refine⟨_,(aF (bB (bK Kh (px K (pv 0) aB) aB (bE _)) (aF (pS 2 nd (aL lP (px K (pv 0) aB) (pv 1))) (aF (eu (aL qE (px K (pv 0) aB) (pv 1)) (oN (pv 0) aB set_list)) (aI (aR (pv 2))))) bC) (aF (pS 3 nd aB) (aF (pS 4 nd aB) (aF (Cb jM (bK qC (pv 4) (pv 1) (bE _)) (aF (eu (aL lP (aL tV (aL dr (aL bU (px K (pv 0) aB) aB) aB) aB) aB) (oN (pv 0) aB set_list)) (aF (pS 3 nd (aL dr (aL bU (pv 3) aB) (aL lP (aL bU (aL qE (px K (pv 0) aB) aB) aB) aB))) (aI (pS 4 nd (aL bU (pv 4) aB)))))) (aI (aR (aL lP (pv 3) (pv 1)))))))),?_⟩;refine⟨_,Z,.inl ⟨p,_,0,.int c,Z,Z,aH.of hp,Z,_,_,Z,Z,_,Z,?_⟩⟩;refine eJ (λhc=>?_) (λ_=>?_)
  ·refine⟨_,Z,.inl ⟨p,_,0,.int c,Z,Z,aH.of hp,Z,_,Z,_,_,Z,Z,h1,?_⟩⟩
   refine⟨_,Z,.inl ⟨p,_,0,.int c,Z,Z,aH.of hp,Z,_,Z,_,_,Z,Z,⟨h1,Ge aw h2⟩,?_⟩⟩;refine⟨_,Z,p,_,0,0,Z,Z,hp,Z,?_⟩;refine⟨_,Z,?_⟩;exact k _ _ (mL _ aw) (qi _ aw) (bG.upd ⟨Int.ediv_nonneg c0 aw,m0,m1⟩)
  ·refine zL (λO H2=>∃(v:Option V)(n r:Int),O=[some (.ref p),some (.int many),v,some (.int n),some (.int r)]/\bG p H H2/\1<=r) (λO _=>match O with|[_,_,_,_,some (.int r)]=>(many-r).toNat|_=>0) ?_ ?_ ?_
   ·exact⟨none,0,1,Z,.refl ⟨c,m,hp,ok⟩,fF _⟩
   ·rintro O H2 ⟨v,n,r,rfl,bx,xZ⟩
    obtain⟨c',m',rf,c0',m0',m1'⟩:=id bx.bI;refine⟨_,Z,_,Z,_,_,Z,Z,_,Z,?_⟩;refine eJ (λhc=>?_) (λhc=>?_)
    ·have bZ:r<many:=lE hc
     refine⟨_,Z,.inl ⟨p,_,1,.int m',Z,Z,aH.of rf,Z,_,_,Z,Z,.of_right (cH az az),_,_,Z,Z,_,_,Z,Z,⟨az,az,?_⟩,_,_,Z,Z,(by show(0:Int)<2147483629;decide),?_⟩⟩
     ·have jn:(2:Nat)^64=18446744073709551616:=by decide
      rw[jn];lia
     refine⟨_,Z,p,_,1,1,Z,Z,rf,Z,?_⟩;have g0:0<=((m'*48271+7919)^(3:Int).toNat)%2147483629:=mL _ az;have g1:((m'*48271+7919)^(3:Int).toNat)%2147483629<2147483629:=qi _ az;have bx2:bG p H (L2.upd H2 p (.lst [.int c',.int (((m'*48271+7919)^(3:Int).toNat)%2147483629)])):=bx.trans (.upd ⟨c0',g0,Int.lt_trans g1 az⟩);refine⟨_,Z,_,_,Z,Z,.of_right (cH az az),_,Z,.inl ⟨p,_,1,.int _,Z,Z,aH.of bV,Z,_,_,Z,Z,⟨az,Ge az az⟩,_,_,Z,Z,.of_right (cH az az),_,_,Z,Z,(by show(0:Int)<1073741789;decide),_,_,Z,Z,?_⟩⟩;refine⟨_,Z,_,_,Z,Z,.of_right (cH az az),?_⟩;refine⟨⟨v,_,_,Z,bx2,?_⟩,?_⟩
     ·lia
     ·show(many-r*1073741789).toNat<(many-r).toNat
      lia
    ·refine⟨_,Z,_,Z,_,_,Z,Z,h1,?_⟩
     exact k _ _ (mL _ aw) (qi _ aw) bx
   ·rintro O H2 Q1 Q2 hq ⟨v1,e1,v2,e2,i,j,e3,e4,kk,e5,q⟩
    exact⟨v1,e1,v2,e2,i,j,e3,e4,kk,e5,hq _ _ q⟩
inductive a5J(K:aa)(vs:List V)(H:Hp)(Q:VK):Prop |mk (a:Addr)(ns:List Int)(at':Int)(h0:vs=[.ref a,.int at'])(h1:aH K H a (ns.map V.int))(h2:ns.length<=63)(h3:0<=at')(h4:at'<=100)(h5:∀p H',H p=none->fN H' p->aA H H'->Q (.ref p) H')
def HE(K:aa):Sp:=λvs H Q _=>a5J K vs H Q
abbrev Bu:Stmt:=top 105
theorem Jj:bh ["_law_script","_law_at","_law_cell","_law_mix","_law_k"] ["_law_script","_law_at"] (aP Bu):=bo aJ
theorem LA{ns:List Int}{j:Nat}(h:j<ns.length):∃z,dY (ns.map V.int) (j:Int)=some (.int z):=⟨ns[j],a3U (by simp[h])⟩
theorem VJ(F:FA K mg "_law_bag" Bu)(B:bw mg):aE P w K mg au "_law_bag" 1 (HE K):=by
 refine F.has Jj (λvs H Q E h=>?_) (λ_ _ _ _ _ _=>da λ_ _=>rfl) (λf aG A outer s H vs Q E hr h=>?_)
 ·obtain⟨a,ns,at',rfl,_⟩:=h
  rfl
 ·obtain⟨a,ns,at',rfl,hS,hlen,h0,h1,k⟩:=h
  obtain⟨j,rfl⟩:∃j:Nat,at'=(j:Int):=⟨at'.toNat,aw⟩;have nd:=Jj.nd;refine⟨_,(aF (pS 2 nd aB) (aF (jT (bB (bK qC (pv 1) (eB K B (ao (pv 0) ay)) (bE _)) (aI (pS 2 nd (cw (x:="abs") my Z (B.at "abs") nW (ao (px K (pv 0) (pv 1)) ay)))) bC)) (aF (pS 3 nd (aL dr (aL dr (aL bU (aL bU aB (pv 1)) (pv 1)) (aL bU aB (pv 1))) aB)) (aF (kO jM Z (oK Z (B.at "range") (ao (cw (x:="min") (EU rfl) rfl (B.at "min") OY (ao (eB K B (ao (pv 0) ay)) (ao aB ay))) ay)) (ba 4 nd) (aI (pS 3 nd (aL lP (aL tV (aL dr (aL dr (aL bU (pv 3) aB) (aL lP (px K (pv 0) (pv 4)) aB)) (aL bU (pv 4) (pv 4))) aB) aB)))) (aF (jT (bB (bK qC (pv 2) (aL tV aB aB) (bE _)) (aI (pS 2 nd aB)) bC)) (aI (aR (fJ (ao (pv 2) (ao (pv 3) ay)))))))))),?_⟩;refine⟨λO H'=>H'=H/\∃c:Int,O=[some (.ref a),some (.int (j:Int)),some (.int c),none,none]/\0<=c,?_,?_⟩
  ·refine⟨_,Z,_,Z,a,_,Z,.inl hS,_,_,Z,Z,_,Z,?_⟩
   refine eJ (λhc=>?_) (λ_=>?_)
   ·have hj:(j:Int)<((ns.map V.int).length:Int):=lE hc
    rw[bD]at hj;obtain⟨z,hz⟩:=LA (ns:=ns) (j:=j) aw;refine⟨_,Z,_,Z,.inl ⟨a,_,_,_,Z,Z,hS,hz,z,Z,?_⟩⟩;exact⟨Z,_,Z,by split<;>lia⟩
   ·exact⟨Z,0,Z,fF _⟩
  rintro O H' ⟨rfl,c,rfl,c0⟩;refine⟨_,Z,_,_,Z,Z,.of_left (cH az az),_,Z,_,_,Z,Z,.of_right (cH aw aw),_,Z,_,_,Z,Z,.of_left (cH az az),_,_,Z,Z,_,_,Z,Z,?_⟩;refine⟨_,Z,a,_,Z,.inl hS,_,_,Z,_,Z,?_,?_,?_⟩
  ·split<;>lia
  ·split<;>(try rw[bD])<;>lia
  refine yu (Pv:=λi O H2=>H2=H'/\∃(m:Int)(v:Option V),O=[some (.ref a),some (.int (j:Int)),some (.int c),some (.int m),v]/\0<=m/\m<2147483648) ?_ ?_ ?_
  ·refine⟨Z,_,none,Z,?_,?_⟩
   ·have:(0:Int)<=(j:Int)*(j:Int):=vT aw aw
    rw[vU];lia
   ·have:(j:Int)*(j:Int)<=100*100:=Int.mul_le_mul aw aw aw aw
    rw[vU];lia
  ·rintro i O H2 hi ⟨rfl,m,v,rfl,m0,m1⟩
   have uF:i<ns.length:=by rw[bD]at hi;split at hi<;>lia
   obtain⟨z,hz⟩:=LA (ns:=ns) (j:=i) uF;rw[<-Int.zero_add (i:Int)]at hz;have Y9:0<=z%2147483647:=mL _ az;have Y8:z%2147483647<2147483647:=qi _ az;have Z2:(0:Int)<=(0+(i:Int))*(0+(i:Int)):=vT aw aw;have Z3:(0+(i:Int))*(0+(i:Int))<=100*100:=Int.mul_le_mul aw aw aw aw;refine⟨_,Z,_,_,Z,Z,.of_right (cH az az),_,Z,_,Z,.inl ⟨a,_,_,_,Z,Z,hS,hz,_,_,Z,Z,(by show(0:Int)<2147483647;decide),_,_,Z,Z,_,Z,_,Z,_,_,Z,Z,.of_right (cH aw aw),_,_,Z,Z,_,_,Z,Z,⟨az,az,?_⟩,_,_,Z,Z,(by show(0:Int)<2147483629;decide),?_⟩⟩
   ·have jn:(2:Nat)^64=18446744073709551616:=by decide
    rw[jn];generalize(0+(i:Int))*(0+(i:Int))=ii at Z2 Z3⊢;generalize z%2147483647=zz at Y9 Y8⊢
    lia
   ·exact⟨Z,_,_,Z,mL _ az,Int.lt_trans (qi _ az) az⟩
  ·rintro O H2 ⟨rfl,m,v,rfl,m0,m1⟩
   refine⟨λO H3=>H3=H2/\∃c:Int,O=[some (.ref a),some (.int (j:Int)),some (.int c),some (.int m),v]/\0<=c,?_,?_⟩
   ·refine⟨_,Z,_,_,Z,Z,⟨az,az,az⟩,_,_,Z,Z,_,Z,?_⟩
    refine eJ (λhc=>?_) (λ_=>?_)
    ·exact⟨Z,0,Z,fF _⟩
    ·exact⟨Z,c,Z,c0⟩
   rintro O H3 ⟨rfl,c,rfl,c0⟩;refine⟨_,Z,_,Z,(by show 2<=sizeLine;decide),λp H4 nw=>?_⟩;exact k p H4 nw.no ⟨c,m,nw.at',c0,m0,m1⟩ nw.same
inductive a5C(vs:List V)(H:Hp)(Q:VK):Prop |mk (a:Int)(b:Int)(h0:vs=[.int a,.int b])(h1:Q (.int (Int.gcd a b)) H)
def A6:Sp:=λvs H Q _=>a5C vs H Q
inductive a5k(vs:List V)(H:Hp)(Q:VK):Prop |mk (a:Int)(b:Int)(h0:vs=[.int a,.int b])(h1:b≠0)(h2:Wd b)(h3:∀t H',Nw H H' t (.tup [.int (Ar.lowP a b),.int (Ar.fg a b)])->Q (.ref t) H')
def t6:Sp:=λvs H Q _=>a5k vs H Q
def uq(T:String):Bool:=gP T "int"&& !gP T "bool"
inductive a5u(K:aa)(vs:List V)(H:Hp)(Q:VK):Prop |mk (v:_)(T:_)(h0:vs=[v])(h1:pP K H v T)(h2:Q (.bl (uq T)) H)
def wO(K:aa):Sp:=λvs H Q _=>a5u K vs H Q
abbrev Br:Stmt:=top 48
theorem Jg:bh ["p","q","high","low"] ["p","q"] (aP Br):=bo aJ
theorem VG(F:FA K mg "common_divisor" Br)(B:bw mg):aE P w K mg au "common_divisor" 1 A6:=by
 refine F.has Jg (λvs H Q E h=>?_) (λ_ _ _ _ _ _=>da λ_ _=>rfl) (λf aG A outer s H vs Q E hr h=>?_)
 ·obtain⟨a,b,rfl,_⟩:=h
  rfl
 ·obtain⟨a,b,rfl,k⟩:=h
  have nd:=Jg.nd;refine⟨_,(aF (xg (i:=2) (j:=3) Z nd Z Z az Z Z (ao (cw (x:="abs") my Z (B.at "abs") nW (ao (pv 0) ay)) (ao (cw (x:="abs") my rfl (B.at "abs") nW (ao (pv 1) ay)) ay)) rfl) (aF (Cb jM (bK (lV K Z hr.units) (pv 3) aB (bE _)) (aI (xg (i:=2) (j:=3) Z nd Z Z az Z Z (ao (pv 3) (ao (aL lP (pv 2) (pv 3)) ay)) Z))) (aI (aR (pv 2))))),?_⟩;refine⟨_,Z,_,Z,_,Z,_,Z,_,_,Z,?_⟩;refine zL (λO H2=>H2=H/\∃(x y:Int),O=[some (.int a),some (.int b),some (.int x),some (.int y)]/\0<=x/\0<=y/\Int.gcd x y=Int.gcd a b) (λO _=>match O with|[_,_,_,some (.int y)]=>y.natAbs|_=>0) ?_ ?_ ?_
  ·refine⟨Z,_,_,Z,by split<;>lia,by split<;>lia,?_⟩
   have h1:(if a<0 then-a else a).natAbs=a.natAbs:=by split<;>lia
   have h2:(if b<0 then-b else b).natAbs=b.natAbs:=by split<;>lia
   unfold Int.gcd;rw[h1,h2]
  ·rintro O H2 ⟨rfl,x,y,rfl,x0,y0,e⟩
   refine⟨_,Z,.inl ⟨_,_,Z,Z,_,Z,?_⟩⟩;refine eJ (λhc=>?_) (λhc=>?_)
   ·have hy:y≠0:=by simpa using hc
    have ki:0<y:=by lia
    refine⟨_,Z,_,Z,_,Z,_,_,Z,Z,ki,_,_,Z,?_⟩;refine⟨⟨Z,_,_,Z,y0,mL _ hy,(Ar.Mc ki).trans e⟩,?_⟩;show(x%y).natAbs<y.natAbs;have:=mL x hy;have:=qi x ki
    lia
   ·have hy:y=0:=by simpa using hc
    subst hy;refine⟨_,Z,?_⟩;rw[Int.gcd_zero_right]at e;have e2:x=((Int.gcd a b:Nat):Int):=by lia
    rw[e2];exact k
  ·rintro O H2 Q1 Q2 hq ⟨v1,e1,h⟩
   refine⟨v1,e1,?_⟩;rcases h with⟨i,j,e3,e4,kk,e5,q⟩|⟨d,e,r1,r2,s1,s2,kk,e5,q⟩
   ·exact .inl ⟨i,j,e3,e4,kk,e5,hq _ _ q⟩
   ·exact .inr ⟨d,e,r1,r2,s1,s2,kk,e5,hq _ _ q⟩
abbrev Be:Stmt:=top 14
theorem IZ:bh ["thing"] ["thing"] (aP Be):=bo aJ
theorem Vn(F:FA K mg "is_whole" Be)(B:bw mg):aE P w K mg au "is_whole" 1 (wO K):=by
 refine F.has IZ (λvs H Q E h=>?_) (λ_ _ _ _ _ _=>cJ λ_=>rfl) (λf aG A outer s H vs Q E hr h=>?_)
 ·obtain⟨v,T,rfl,_⟩:=h
  rfl
 ·obtain⟨v,T,rfl,ty,k⟩:=h
  have nd:=IZ.nd;refine⟨_,(aI (aR (qA (kR K B (ao (pv 0) (ao (jV (x:="int") (v:=.ty "int") Z (B.at "int") PyProof.Rows.boot_int rfl) ay))) (qx (TQ (kR K B (ao (pv 0) (ao (jV (x:="bool") (v:=.ty "bool") rfl (B.at "bool") PyProof.Rows.boot_bool rfl) ay)))))))),?_⟩;refine⟨_,Z,.inl ⟨_,T,"int",_,Z,ty,az,Z,_,Z,?_⟩⟩;unfold uq at k;refine eJ (λhc=>?_) (λhc=>?_)
  ·refine⟨_,Z,.inl ⟨_,T,"bool",_,Z,ty,az,Z,_,Z,?_⟩⟩
   rw[hc,fX]at k;exact k
  ·rw[vW.mpr hc,fY]at k
   exact k
open Ln
def du(ns:List Int)(sp:Int):ah:=.tuple [.str "line",.tuple (ns.map PyData.int),.int sp]
theorem Xn(ns:List Int)(sp:Int):eZ (du ns sp)=true:=by simp[du,eZ,cF,jZ]
structure eH(ax:Nat)(m:Int)(ns:List Int):Prop where
 len:ns.length=ax
 bd:∀z∈ns,(z.natAbs:Int)<=m
 nz:∃z∈ns,z≠0
theorem eH.lead{ax:Nat}{m:Int}{ns:List Int}(h:eH ax m ns):0<aM ns/\(aM ns:Int)<=m:=by
 refine⟨Xr h.nz,?_⟩;have hm:0<=m:=by obtain⟨z,hz,_⟩:=h.nz;have:=h.bd z hz;lia
 have:=kX (ns:=ns) (m:=m.toNat) λz hz=>by have:=h.bd z hz;lia
 lia
theorem eH.ne{ax:Nat}{m:Int}{ns:List Int}(h:eH ax m ns):ns≠[]:=by obtain⟨z,hz,_⟩:=h.nz;intro e;subst e;cases hz
theorem kW{H:Hp}{v:V}{ns:List Int}{sp:Int}(h:RD K H v (du ns sp)):∃a b,v= .ref a/\aQ K H a [.str "line",.ref b,.int sp]/\aQ K H b (ns.map V.int):=by obtain⟨a,xs,rfl,h1,h2⟩:=h.cj;obtain⟨x1,r1,rfl,e1,h2⟩:=h2.cons_inv;obtain⟨x2,r2,rfl,e2,h2⟩:=h2.cons_inv;obtain⟨x3,r3,rfl,e3,h2⟩:=h2.cons_inv;cases h2.nil_inv;cases e1.str_inv;cases e3.int_inv;obtain⟨b,ys,rfl,h3,h4⟩:=e2.cj;rw[h4.eK]at h3;exact⟨a,b,Z,h1,h3⟩
inductive a5n(K:aa)(vs:List V)(H:Hp)(Q:VK):Prop |mk (v:_)(ns:_)(sp:_)(h0:vs=[v])(h1:RD K H v (du ns sp))(h2:ns≠[])(h3:ns.length<=1000)(h4:∀H',aA H H'->Q (.int (aM ns)) H')
def lL(K:aa):Sp:=λvs H Q _=>a5n K vs H Q
theorem ke{ns:List Int}{f:Int->ah}{i:Nat}{d:ah}(h:(ns.map f)[i]? =some d):∃n,ns[i]? =some n/\f n=d:=by rw[bJ]at h;cases e:ns[i]? with |none=>rw[e]at h;cases h |some n=>rw[e]at h;exact⟨n,Z,cW h⟩
theorem xE{ns:List Int}{i:Nat}{x:V}{n:Int}(h:(ns.map V.int)[i]? =some x)(e:ns[i]? =some n):x= .int n:=by rw[bJ,e]at h;exact(cW h).symm
abbrev B0:Stmt:=top 50
theorem IL:bh ["line"] ["line"] (aP B0):=bo aJ
theorem Vk(F:FA K mg "lead_of" B0)(B:bw mg):aE P w K mg au "lead_of" 1 (lL K):=by
 refine F.has IL (λvs H Q E h=>?_) (λ_ _ _ _ _ _=>cJ λ_=>rfl) (λf aG A outer s H vs Q E hr h=>?_)
 ·obtain⟨v,ns,sp,rfl,_⟩:=h
  rfl
 ·obtain⟨v,ns,sp,rfl,rd,cQ,hz,k⟩:=h
  have nd:=IL.nd;obtain⟨a,b,rfl,ha,hb⟩:=kW rd;refine⟨_,(aI (aR (cw (x:="max") (D5 K Z Z) Z (B.at "max") FL (ao (dA (N:=["step"]) (js:=[none]) rfl rfl rfl (jb K rfl (px K (pv 0) aB)) (λ_ _ _ _ _=>(ba 0 (gu _))) (λ_ _ _ _ _=>cX) (λ_ _ _ _ _=>(cw (x:="abs") my rfl (B.at "abs") nW (ao (pv 0) ay)))) ay)))),?_⟩;refine⟨_,Z,.inr ⟨a,_,1,.ref b,Z,Z,ha,Z,b,Z,⟨_,hb⟩,λD H0 nw=>?_⟩⟩;refine nL (K:=K) (xs:=ns.map V.int) (ds:=(ns.map jH).map PyData.int) [] hb nw (by simp) (by simpa using hz) (jZ _) ?_ ?_
  ·intro i x d H2 Q' ex ed s2 hq
   obtain⟨m,em,rfl⟩:=ke ed;rw[bJ]at em;cases en:ns[i]? with |none=>rw[en]at em;cases em |some n=>rw[en]at em;cases em;cases xE ex en;exact⟨_,Z,n,Z,hq _ _ (aA.refl _) (ek _)⟩
  ·intro H' ys s2 d2 r2
   rw[r2.eK]at d2;refine⟨D,_,Z,aH.of d2,by simpa using cQ,λM h1 h2=>?_⟩;rw[Dg cQ h1 h2];exact k H' s2
open Rt
abbrev B4:Stmt:=top 47
theorem IQ:bh ["p","q","divisor"] ["p","q"] (aP B4):=bo aJ
theorem Ve(F:FA K mg "lowest_terms" B4)(B:bw mg)(Zo:aE P w K mg au "common_divisor" 1 A6):aE P w K mg au "lowest_terms" 2 t6:=by
 refine F.has IQ (λvs H Q E h=>?_) (λ_ _ _ _ _ _=>da λ_ _=>rfl) (λf aG A outer s H vs Q E hr h=>?_)
 ·obtain⟨a,b,rfl,_⟩:=h
  rfl
 ·obtain⟨a,b,rfl,hb,wb,k⟩:=h
  have nd:=IQ.nd;have sw:Wd (Ar.sg a b):=FQ (Ar.HK hb) wb;refine⟨_,(aF (pS 2 nd (pf Zo hr (ao (pv 0) (ao (pv 1) ay)))) (aF (jT (bB (bK qC (pv 1) aB (bE _)) (aI (pS 2 nd (kQ kI (pv 2)))) bC)) (aI (aR (eA (ao (aL Kj (pv 0) (pv 2)) (ao (aL Kj (pv 1) (pv 2)) ay))))))),?_⟩;refine⟨_,Z,_,Z,a,b,Z,?_⟩;refine⟨λO H'=>H'=H/\O=[some (.int a),some (.int b),some (.int (Ar.sg a b))],?_,?_⟩
  ·refine⟨_,Z,_,_,Z,Z,_,Z,?_⟩
   refine eJ (λhc=>?_) (λhc=>?_)
   ·have hd:b<0:=lE hc
    refine⟨_,Z,_,Z,?_⟩;refine⟨Z,?_⟩;unfold Ar.sg;rw[aU hd];rfl
   ·have hd:¬b<0:=λz=>hc (bR z)
    refine⟨Z,?_⟩;unfold Ar.sg;rw[aV hd];rfl
  rintro O H' ⟨rfl,rfl⟩;refine⟨_,Z,_,Z,_,_,Z,Z,⟨Ar.tE hb,sw⟩,_,Z,_,Z,_,_,Z,Z,⟨Ar.tE hb,sw⟩,(by show 2<=sizeLine;decide),λt H4 nw=>?_⟩;exact k t H4 nw
def bL(K:aa)(H:Hp)(v:V)(r:Rat):Prop:=∃p,v= .ref p/\aQ K H p [.int r.num,.int r.den]
theorem bL.go{H H':Hp}{v:V}{r:Rat}(h:bL K H v r)(s:aA H H'):bL K H' v r:=by obtain⟨p,e,q⟩:=h;exact⟨p,e,q.go s⟩
def cx(r:Rat):ah:=.tuple [.int r.num,.int r.den]
theorem bL.rd{H:Hp}{v:V}{r:Rat}(h:bL K H v r):RD K H v (cx r):=by obtain⟨p,rfl,q⟩:=h;exact eX q (ck (ek _) (ck (ek _) df))
theorem SJ(r:Rat):cA 1 (cx r):=fU.tup (.cons (.int _) (.cons (.int _) .nil))
theorem eqR{r s:Rat}(h:r=s):PyData.eqv (cx r) (cx s)=true:=by rw[h];exact(SJ s).refl
theorem mO{n:Nat}{i:Int}(h:i.natAbs<2^n)(l:n<=5000):Wd i:=fk h (vL az l)
theorem _root_.Rt.Bd.wn{r:Rat}(h:Bd 2000 r):Wd r.num:=mO h.num az
theorem _root_.Rt.Bd.wd{r:Rat}(h:Bd 2000 r):Wd (r.den:Int):=mO (n:=2000) (by have:=h.den;omega) az
theorem Gd{r s:Rat}(h:Bd 2000 r)(g:Bd 2000 s):Wd ((r.den:Int)*(s.den:Int)):=mO (n:=4000) (Nh h g) az
theorem BX{H':Hp}{t:Addr}{a b:Int}{r:Rat}(hb:b≠0)(e:r=Rat.divInt a b)(h:H' t=some (.tup [.int (Ar.lowP a b),.int (Ar.fg a b)])):bL K H' (.ref t) r:=by obtain⟨e1,e2⟩:=D7 (a:=a) hb;rw[e1,e2,<-e]at h;exact⟨t,Z,aQ.of h⟩
inductive a53(op:Rat->Rat->Rat)(K:aa)(vs:List V)(H:Hp)(Q:VK):Prop |mk (v1:_)(v2:_)(r:_)(s:_)(h0:vs=[v1,v2])(h1:bL K H v1 r)(h2:bL K H v2 s)(h3:Bd 2000 r)(h4:Bd 2000 s)(h5:∀v H',bL K H' v (op r s)->aA H H'->Q v H')
def wH(op:Rat->Rat->Rat)(K:aa):Sp:=λvs H Q _=>a53 op K vs H Q
abbrev AF:Stmt:=top 41
theorem Io:bh ["one","other","p","q","r","s"] ["one","other"] (aP AF):=bo aJ
theorem UZ(F:FA K mg "plus" AF)(B:bw mg)(uB:aE P w K mg au "lowest_terms" 2 t6):aE P w K mg au "plus" 3 (wH (·+·) K):=by
 refine F.has Io (λvs H Q E h=>?_) (λ_ _ _ _ _ _=>da λ_ _=>rfl) (λf aG A outer s H vs Q E hr h=>?_)
 ·obtain⟨v1,v2,r,s,rfl,_⟩:=h
  rfl
 ·obtain⟨v1,v2,r,s,rfl,⟨p,rfl,hp⟩,⟨q,rfl,hq⟩,br,bs,k⟩:=h
  have nd:=Io.nd;refine⟨_,(aF (eu (pv 0) (dS K Z (n:=2) Z (bM (ba 2 nd) (bM (ba 3 nd) dR)))) (aF (eu (pv 1) (dS K Z (n:=2) Z (bM (ba 4 nd) (bM (ba 5 nd) dR)))) (aI (aR (pf uB hr (ao (aL dr (aL bU (pv 2) (pv 5)) (aL bU (pv 4) (pv 3))) (ao (aL bU (pv 3) (pv 5)) ay))))))),?_⟩;refine⟨_,Z,_,_,Z,hp,Z,_,_,Z,_,_,Z,Z,?_⟩;refine⟨_,Z,_,_,Z,hq,Z,_,_,Z,_,_,Z,Z,?_⟩;refine⟨_,Z,_,Z,_,_,Z,Z,mK br.wn.bits bs.wd.bits,_,Z,_,Z,_,_,Z,Z,mK bs.wn.bits br.wd.bits,_,_,Z,Z,_,Z,_,Z,_,_,Z,Z,mK br.wd.bits bs.wd.bits,?_⟩;exact⟨_,_,Z,uX r s,Gd br bs,λt H' nw=>k _ _ (BX (uX r s) (add_div r s) nw.at') nw.same⟩
abbrev AU:Stmt:=top 43
theorem IE:bh ["one","other","p","q","r","s"] ["one","other"] (aP AU):=bo aJ
theorem Vb(F:FA K mg "minus" AU)(B:bw mg)(uB:aE P w K mg au "lowest_terms" 2 t6):aE P w K mg au "minus" 3 (wH (·-·) K):=by
 refine F.has IE (λvs H Q E h=>?_) (λ_ _ _ _ _ _=>da λ_ _=>rfl) (λf aG A outer s H vs Q E hr h=>?_)
 ·obtain⟨v1,v2,r,s,rfl,_⟩:=h
  rfl
 ·obtain⟨v1,v2,r,s,rfl,⟨p,rfl,hp⟩,⟨q,rfl,hq⟩,br,bs,k⟩:=h
  have nd:=IE.nd;refine⟨_,(aF (eu (pv 0) (dS K Z (n:=2) Z (bM (ba 2 nd) (bM (ba 3 nd) dR)))) (aF (eu (pv 1) (dS K Z (n:=2) Z (bM (ba 4 nd) (bM (ba 5 nd) dR)))) (aI (aR (pf uB hr (ao (aL jW (aL bU (pv 2) (pv 5)) (aL bU (pv 4) (pv 3))) (ao (aL bU (pv 3) (pv 5)) ay))))))),?_⟩;refine⟨_,Z,_,_,Z,hp,Z,_,_,Z,_,_,Z,Z,?_⟩;refine⟨_,Z,_,_,Z,hq,Z,_,_,Z,_,_,Z,Z,?_⟩;refine⟨_,Z,_,Z,_,_,Z,Z,mK br.wn.bits bs.wd.bits,_,Z,_,Z,_,_,Z,Z,mK bs.wn.bits br.wd.bits,_,_,Z,Z,_,Z,_,Z,_,_,Z,Z,mK br.wd.bits bs.wd.bits,?_⟩;exact⟨_,_,Z,uX r s,Gd br bs,λt H' nw=>k _ _ (BX (uX r s) (QQ r s) nw.at') nw.same⟩
inductive a5l(K:aa)(vs:List V)(H:Hp)(Q:VK):Prop |mk (v1:_)(v2:_)(r:_)(s:_)(h0:vs=[v1,v2])(h1:bL K H v1 r)(h2:bL K H v2 s)(h3:Bd 2000 r)(h4:Bd 2000 s)(h5:Q (.bl (decide (r<s))) H)
def wM(K:aa):Sp:=λvs H Q _=>a5l K vs H Q
abbrev AX:Stmt:=top 45
theorem II:bh ["one","other","p","q","r","s"] ["one","other"] (aP AX):=bo aJ
theorem Vh(F:FA K mg "is_less" AX)(B:bw mg):aE P w K mg au "is_less" 1 (wM K):=by
 refine F.has II (λvs H Q E h=>?_) (λ_ _ _ _ _ _=>da λ_ _=>rfl) (λf aG A outer s H vs Q E hr h=>?_)
 ·obtain⟨v1,v2,r,s,rfl,_⟩:=h
  rfl
 ·obtain⟨v1,v2,r,s,rfl,⟨p,rfl,hp⟩,⟨q,rfl,hq⟩,br,bs,k⟩:=h
  have nd:=II.nd;refine⟨_,(aF (eu (pv 0) (dS K Z (n:=2) Z (bM (ba 2 nd) (bM (ba 3 nd) dR)))) (aF (eu (pv 1) (dS K Z (n:=2) Z (bM (ba 4 nd) (bM (ba 5 nd) dR)))) (aI (aR (jy qC (aL bU (pv 2) (pv 5)) (aL bU (pv 4) (pv 3)) (bE _)))))),?_⟩;refine⟨_,Z,_,_,Z,hp,Z,_,_,Z,_,_,Z,Z,?_⟩;refine⟨_,Z,_,_,Z,hq,Z,_,_,Z,_,_,Z,Z,?_⟩;refine⟨_,Z,_,Z,_,_,Z,Z,mK br.wn.bits bs.wd.bits,_,Z,_,Z,_,_,Z,Z,mK bs.wn.bits br.wd.bits,_,_,Z,Z,?_⟩;have e:decide (r.num*(s.den:Int)<s.num*(r.den:Int))=decide (r<s):=by rw[j6,vA,vA,vG]
  show Q (.bl (decide (r.num*(s.den:Int)<s.num*(r.den:Int)))) H;rw[e];exact k
def nQ(K:aa)(H:Hp):List V->List Rat->Prop |[],[]=>True |v::vs,r::rs=>bL K H v r/\Bd 2000 r/\nQ K H vs rs |_,_=>False
theorem nQ.length{H:Hp}:∀{vs:List V}{rs:List Rat},nQ K H vs rs->vs.length=rs.length |[],[],_=>rfl |v::vs,r::rs,h=>by rw[fW,fW,nQ.length h.2.2] |[],_::_,h=>h.elim |_::_,[],h=>h.elim
theorem nQ.get{H:Hp}:∀{vs:List V}{rs:List Rat}{i:Nat}{v:V},nQ K H vs rs->vs[i]? =some v->∃r,rs[i]? =some r/\bL K H v r/\Bd 2000 r
 |[],[],i,v,_,e=>by simp at e |v::vs,r::rs,0,v',h,e=>by
  have e':v=v':=by simpa using e
  subst e';exact⟨r,Z,h.1,h.2.1⟩ |v::vs,r::rs,i+1,v',h,e=>by obtain⟨r',e1,q⟩:=nQ.get h.2.2 (show vs[i]? =some v' by simpa using e);exact⟨r',by simpa using e1,q⟩ |[],_::_,_,_,h,_=>h.elim |_::_,[],_,_,h,_=>h.elim
inductive a5m(K:aa)(vs:List V)(H:Hp)(Q:VK):Prop |mk (l:_)(xs:_)(rs:_)(h0:vs=[.ref l])(h1:aH K H l xs)(h2:nQ K H xs rs)(h3:xs≠[])(h4:∀(i:Nat)(v:V)(r:Rat),xs[i]? =some v->rs[i]? =some r->(∀s∈rs,r<=s)->Q v H)
def t7(K:aa):Sp:=λvs H Q _=>a5m K vs H Q
abbrev AY:Stmt:=top 46
theorem IJ:bh ["some","best","one"] ["some"] (aP AY):=bo aJ
theorem Vi(F:FA K mg "least" AY)(B:bw mg)(DR:aE P w K mg au "is_less" 1 (wM K)):aE P w K mg au "least" 2 (t7 K):=by
 refine F.has IJ (λvs H Q E h=>?_) (λ_ _ _ _ _ _=>cJ λ_=>rfl) (λf aG A outer s H vs Q E hr h=>?_)
 ·obtain⟨l,xs,rs,rfl,_⟩:=h
  rfl
 ·obtain⟨l,xs,rs,rfl,hl,kY,cQ,k⟩:=h
  have nd:=IJ.nd;refine⟨_,(aF (pS 1 nd (px K (pv 0) aB)) (aF (kO jM Z (oM K Z (pv 0)) (ba 2 nd) (aI (bB (cD (pf DR hr (ao (pv 2) (ao (pv 1) ay)))) (aI (pS 1 nd (pv 2))) bC))) (aI (aR (pv 1))))),?_⟩;have hlen:=kY.length;have h0:0<xs.length:=vQ.mpr cQ;have e0:=cC h0;refine⟨_,Z,.inl ⟨l,xs,0,xs[0],Z,Z,hl,cM az e0,?_⟩⟩;refine⟨_,Z,l,Z,⟨_,hl⟩,Ms (K:=K) (a:=l) (xs:=xs) (λi O H2=>H2=H/\∃(j:Nat)(b:V)(r:Rat)(v:Option V),xs[j]? =some b/\rs[j]? =some r/\(∀(m:Nat)(s:Rat),m<i->rs[m]? =some s->r<=s)/\O=[some (.ref l),some b,v]) ?_ (λi O H2 _ h=>by rw[h.1];exact hl) ?_ ?_⟩
  ·obtain⟨r,e1,_⟩:=kY.get e0
   exact⟨Z,0,_,r,none,e0,e1,λm s hm=>absurd hm (Nat.not_lt_zero _),Z⟩
  ·rintro i x O H2 hx ⟨rfl,j,b,r,v,eb,er,hm,rfl⟩
   obtain⟨t,et,rt,bt⟩:=kY.get hx;obtain⟨r2,MP,rb,bb⟩:=kY.get eb;rw[er]at MP;cases MP;refine⟨_,Z,_,Z,x,b,t,r,Z,rt,rb,bt,bb,_,Z,?_⟩;refine eJ (λhc=>?_) (λhc=>?_)
   ·have bZ:t<r:=lE hc
    refine⟨_,Z,?_⟩;refine⟨Z,i,x,t,_,hx,et,λm s DP es=>?_,Z⟩;rcases Nat.lt_succ_iff_lt_or_eq.mp DP with h|h
    ·exact kG (FC bZ) (hm m s h es)
    ·subst h
     rw[et]at es;cases es;exact iy
   ·have YC:¬t<r:=λz=>hc (bR z)
    refine⟨Z,j,b,r,_,eb,er,λm s DP es=>?_,Z⟩;rcases Nat.lt_succ_iff_lt_or_eq.mp DP with h|h
    ·exact hm m s h es
    ·subst h
     rw[et]at es;cases es;exact nU.mp YC
  ·rintro O H2 ⟨rfl,j,b,r,v,eb,er,hm,rfl⟩
   refine⟨_,Z,k j b r eb er λs hs=>?_⟩;obtain⟨m,YE,em⟩:=List.mem_iff_getElem.mp hs;exact hm m s aw (by rw[cC YE,em])
inductive a5h(K:aa)(vs:List V)(H:Hp)(Q:VK):Prop |mk (a:_)(b:_)(h0:vs=[.int a,.int b])(h1:b≠0)(h2:Wd b)(h3:∀v H',bL K H' v (Rat.divInt a b)->aA H H'->Q v H')
def sZ(K:aa):Sp:=λvs H Q _=>a5h K vs H Q
abbrev Bl:Stmt:=top 40
theorem J9:bh ["p","q"] ["p","q"] (aP Bl):=bo aJ
theorem Vz(F:FA K mg "fraction" Bl)(B:bw mg)(ya:aE P w K mg au "is_whole" 1 (wO K))(uB:aE P w K mg au "lowest_terms" 2 t6):aE P w K mg au "fraction" 3 (sZ K):=by
 refine F.has J9 (λvs H Q E h=>?_) (λ_ _ _ _ _ _=>da λ_ _=>rfl) (λf aG A outer s H vs Q E hr h=>?_)
 ·obtain⟨a,b,rfl,_⟩:=h
  rfl
 ·obtain⟨a,b,rfl,hb,wb,k⟩:=h
  have nd:=J9.nd;refine⟨_,(aF (bB (PW.pt (gX (dg (cD (pf ya hr (ao (pv 0) ay)))) (gW (dg (cD (pf ya hr (ao (pv 1) ay))))))) (aI oJ) bC) (aF (bB (bK (dC K Z hr.units) (pv 1) aB (bE _)) (aI oJ) bC) (aI (aR (pf uB hr (ao (pv 0) (ao (pv 1) ay))))))),?_⟩;have iw:uq "int"=true:=by decide
  refine⟨_,Z,_,"int",Z,Z,_,Z,?_⟩;rw[iw];refine bc ?_;refine⟨_,Z,_,"int",Z,Z,_,Z,?_⟩;rw[iw];refine bc ?_;refine⟨_,Z,.inl ⟨_,_,Z,Z,_,Z,?_⟩⟩;rw[dP hb];refine bc ?_;exact⟨_,Z,_,Z,_,_,Z,hb,wb,λt H' nw=>k _ _ (BX hb Z nw.at') nw.same⟩
def hV(rs:List Int)(r f j t:Int):ah:=.tuple [.tuple (rs.map PyData.int),.int r,.int f,.int j,.int t]
theorem iP(rs:List Int)(r f j t:Int):eZ (hV rs r f j t)=true:=by simp[hV,eZ,cF,jZ]
theorem lY{H:Hp}{v:V}{rs:List Int}{r f j t:Int}(h:RD K H v (hV rs r f j t)):∃a b,v= .ref a/\aQ K H a [.ref b,.int r,.int f,.int j,.int t]/\aQ K H b (rs.map V.int):=by obtain⟨a,xs,rfl,h1,h2⟩:=h.cj;obtain⟨x1,r1,rfl,e1,h2⟩:=h2.cons_inv;obtain⟨x2,r2,rfl,e2,h2⟩:=h2.cons_inv;obtain⟨x3,r3,rfl,e3,h2⟩:=h2.cons_inv;obtain⟨x4,r4,rfl,e4,h2⟩:=h2.cons_inv;obtain⟨x5,r5,rfl,e5,h2⟩:=h2.cons_inv;cases h2.nil_inv;cases e2.int_inv;cases e3.int_inv;cases e4.int_inv;cases e5.int_inv;obtain⟨b,ys,rfl,h3,h4⟩:=e1.cj;rw[h4.eK]at h3;exact⟨a,b,Z,h1,h3⟩
structure kF(rs:List Int)(r f j t:Int):Prop where
 len:rs.length=2\/rs.length=3
 rl:∀z∈rs,1<=z/\z<=100
 r1:1<=r/\r<=50
 f1:1<=f/\f<=50
 j1:1<=j/\j<=50
 t1:1<=t/\t<=100
inductive a5j(K:aa)(vs:List V)(H:Hp)(Q:VK):Prop |mk (p:_)(h0:vs=[.ref p])(h1:fN H p)(h2:∀v rs r f j t H',RD K H' v (hV rs r f j t)->kF rs r f j t->bG p H H'->Q v H')
def Ht(K:aa):Sp:=λvs H Q _=>a5j K vs H Q
inductive a5y(K:aa)(vs:List V)(H:Hp)(Q:VK):Prop |mk (a:_)(b:_)(h0:vs=[.int a,.int b])(h1:0<b)(h2:Wd b)(h3:∀v H',bL K H' v (Rat.divInt a b)->aA H H'->Q v H')
def Hy(K:aa):Sp:=λvs H Q _=>a5y K vs H Q
abbrev Bk:Stmt:=top 115
theorem J8:bh ["_law_p","_law_q","_law_one","_law_other"] ["_law_p","_law_q"] (aP Bk):=bo aJ
theorem Vy(F:FA K mg "_law_frac" Bk)(B:bw mg):aE P w K mg au "_law_frac" 1 (Hy K):=by
 refine F.has J8 (λvs H Q E h=>?_) (λ_ _ _ _ _ _=>da λ_ _=>rfl) (λf aG A outer s H vs Q E hr h=>?_)
 ·obtain⟨a,b,rfl,_⟩:=h
  rfl
 ·obtain⟨a,b,rfl,hb,wb,k⟩:=h
  have nd:=J8.nd;refine⟨_,(aF (xg (i:=2) (j:=3) Z nd Z Z az Z Z (ao (cw (x:="abs") my Z (B.at "abs") nW (ao (pv 0) ay)) (ao (pv 1) ay)) rfl) (aF (Cb jM (bK Kh (pv 3) aB (bE _)) (aI (xg (i:=2) (j:=3) Z nd Z Z az Z Z (ao (pv 3) (ao (aL lP (pv 2) (pv 3)) ay)) Z))) (aI (aR (eA (ao (aL qE (pv 0) (pv 2)) (ao (aL qE (pv 1) (pv 2)) ay))))))),?_⟩;refine⟨_,Z,_,Z,_,Z,_,_,Z,?_⟩;refine zL (λO H2=>H2=H/\∃(x y:Int),O=[some (.int a),some (.int b),some (.int x),some (.int y)]/\0<=x/\0<=y/\Int.gcd x y=Int.gcd a b) (λO _=>match O with|[_,_,_,some (.int y)]=>y.natAbs|_=>0) ?_ ?_ ?_
  ·refine⟨Z,_,_,Z,by split<;>lia,aw,?_⟩
   have h1:(if a<0 then-a else a).natAbs=a.natAbs:=by split<;>lia
   unfold Int.gcd;rw[h1]
  ·rintro O H2 ⟨rfl,x,y,rfl,x0,y0,e⟩
   refine⟨_,Z,_,_,Z,Z,_,Z,?_⟩;refine eJ (λhc=>?_) (λhc=>?_)
   ·have ki:0<y:=lE hc
    have hy:y≠0:=by lia
    refine⟨_,Z,_,Z,_,Z,_,_,Z,Z,ki,_,_,Z,?_⟩;refine⟨⟨Z,_,_,Z,y0,mL _ hy,(Ar.Mc ki).trans e⟩,?_⟩;show(x%y).natAbs<y.natAbs;have:=mL x hy;have:=qi x ki
    lia
   ·have hy:y=0:=by
     have:¬y>0:=λz=>hc (bR z)
     lia
    subst hy;rw[Int.gcd_zero_right]at e;have ex:x=((Int.gcd a b:Nat):Int):=by lia
    have pk:b≠0:=by lia
    have gp:=Ar.yk (p:=a) pk;have es:Ar.sg a b=(Int.gcd a b:Int):=by unfold Ar.sg;rw[aV aw]
    have gw:Wd (Int.gcd a b:Int):=by rw[<-es];exact FQ (Ar.HK pk) wb
    obtain⟨e1,e2⟩:=D7 (a:=a) pk;have f1:a/(Int.gcd a b:Int)=(Rat.divInt a b).num:=by rw[<-e1];unfold Ar.lowP;rw[es,Ph _ aw]
    have f2:b/(Int.gcd a b:Int)=((Rat.divInt a b).den:Int):=by rw[<-e2];unfold Ar.fg;rw[es,Ph _ aw]
    subst ex;refine⟨_,Z,_,Z,_,_,Z,Z,⟨gp,gw⟩,_,Z,_,Z,_,_,Z,Z,⟨gp,gw⟩,bW Z,λt H6 n6=>?_⟩;have O4:=n6.at';simp only[f1,f2]at O4;exact k _ _ ⟨t,Z,aQ.of O4⟩ n6.same
  ·rintro O H2 Q1 Q2 hq ⟨v1,e1,i,j,e3,e4,kk,e5,q⟩
   exact⟨v1,e1,i,j,e3,e4,kk,e5,hq _ _ q⟩
abbrev Itm:=Option (List Int × Int)
def itR(d:ah)(o:Itm):Prop:=(∃ns sp,d=du ns sp/\o=some (ns,sp))\/∃w x,d= .tuple [.str w,x]/\(w="wait"\/w="tool"\/w="mark")/\eZ x=true/\o=none
theorem itR.no{d:ah}{o:Itm}(h:itR d o):eZ d=true:=by
 rcases h with⟨ns,sp,rfl,_⟩|⟨w,x,rfl,_,h,_⟩
 ·exact Xn _ _
 ·simp[eZ,cF,h]
theorem qV{H:Hp}{v:V}{d:ah}{o:Itm}(h:RD K H v d)(i:itR d o):∃a w ys,v= .ref a/\aQ K H a (.str w::ys)/\(PyData.eqv (.str w) (.str "line")=o.isSome)/\SeqAt.shaped (.str w)=true:=by
 rcases i with⟨ns,sp,rfl,rfl⟩|⟨w,x,rfl,hw,_,rfl⟩
 ·obtain⟨a,b,rfl,h1,_⟩:=kW h
  exact⟨a,_,_,Z,h1,(by show PyData.eqv (.str "line") (.str "line")=true;decide+kernel),aJ⟩
 ·obtain⟨a,xs,rfl,h1,h2⟩:=h.cj
  obtain⟨x1,r1,rfl,e1,h2⟩:=h2.cons_inv;cases e1.str_inv;refine⟨a,w,r1,Z,h1,?_,?_⟩
  ·show PyData.eqv (.str w) (.str "line")=false
   rcases hw with rfl|rfl|rfl<;>decide+kernel
  ·rcases hw with rfl|rfl|rfl<;>decide+kernel
theorem ng:SeqAt.shaped (.str "line")=true:=by decide+kernel
theorem jf{d:ah}{ns:List Int}{sp:Int}(h:itR d (some (ns,sp))):d=du ns sp:=by
 rcases h with⟨W7,Rg,e1,e2⟩|⟨_,_,_,_,_,e2⟩
 ·cases e2;exact e1
 ·cases e2
structure gh(ax:Nat)(ds:List ah)(os:List Itm):Prop where
 len:ds.length=os.length
 it:∀(i:Nat)(d:ah)(o:Itm),ds[i]? =some d->os[i]? =some o->itR d o
 ok:∀(i:Nat)(ns:List Int)(sp:Int),os[i]? =some (some (ns,sp))->eH ax 100 ns/\1<=sp/\sp<=20
theorem gh.nil{ax:Nat}:gh ax [] []:=⟨Z,λi d o e=>by simp at e,λi ns sp e=>by simp at e⟩
theorem oy{α:Type}{xs:List α}{x y:α}{j:Nat}(e:(xs++[x])[j]? =some y):xs[j]? =some y\/(j=xs.length/\y=x):=by
 by_cases hj:j<xs.length
 ·rw[vS hj]at e;exact .inl e
 ·have ph:j=xs.length:=by
   have:=(dQ.mp e).1;rw[iC]at this;have:j<xs.length+1:=this
   lia
  rw[ph,zH (bq _),Nat.sub_self]at e;exact .inr ⟨ph,(cW e).symm⟩
theorem gh.snoc{ax:Nat}{ds:List ah}{os:List Itm}{d:ah}{o:Itm}(h:gh ax ds os)(i:itR d o)(g:∀ns sp,o=some (ns,sp)->eH ax 100 ns/\1<=sp/\sp<=20):gh ax (ds++[d]) (os++[o]):=by
 have hl:=h.len;refine⟨by rw[iC,iC,h.len];rfl,λj d' o' e1 e2=>?_,λj ns sp e=>?_⟩
 ·rcases oy e1 with e1|⟨j1,rfl⟩
  ·rcases oy e2 with e2|⟨j2,rfl⟩
   ·exact h.it j d' o' e1 e2
   ·have:=(dQ.mp e1).1;lia
  ·rcases oy e2 with e2|⟨j2,rfl⟩
   ·have:=(dQ.mp e2).1;lia
   ·exact i
 ·rcases oy e with e|⟨_,e⟩
  ·exact h.ok j ns sp e
  ·exact g ns sp e.symm
theorem gh.no{ax:Nat}{ds:List ah}{os:List Itm}(h:gh ax ds os):cF ds=true:=iL.mpr λd hd=>by obtain⟨i,hi⟩:=nY.mp hd;have hl:=(dQ.mp hi).1;exact(h.it i d _ hi (cC (by rw[<-h.len];exact hl))).no
theorem gh.get{ax:Nat}{ds:List ah}{os:List Itm}(h:gh ax ds os){i:Nat}{d:ah}(e:ds[i]? =some d):∃o,os[i]? =some o/\itR d o:=by have hl:=(dQ.mp e).1;have e2:=cC (show i<os.length by rw[<-h.len];exact hl);exact⟨_,e2,h.it i d _ e e2⟩
inductive a5w(K:aa)(vs:List V)(H:Hp)(Q:VK):Prop |mk (v:_)(d:_)(o:_)(h0:vs=[v])(h1:RD K H v d)(h2:itR d o)(h3:Q (.bl o.isSome) H)
def qo(K:aa):Sp:=λvs H Q _=>a5w K vs H Q
abbrev Bc:Stmt:=top 32
theorem IX:bh ["item"] ["item"] (aP Bc):=bo aJ
theorem Vr(F:FA K mg "is_line" Bc)(B:bw mg):aE P w K mg au "is_line" 1 (qo K):=by
 refine F.has IX (λvs H Q E h=>?_) (λ_ _ _ _ _ _=>cJ λ_=>rfl) (λf aG A outer s H vs Q E hr h=>?_)
 ·obtain⟨v,d,o,rfl,_⟩:=h
  rfl
 ·obtain⟨v,d,o,rfl,ri,it,k⟩:=h
  have nd:=IX.nd;refine⟨_,(aI (aR (jy (dC K Z hr.units) (px K (pv 0) aB) bu (bE _)))),?_⟩;obtain⟨a,wd,ys,rfl,h1,ew,sw⟩:=qV ri it;refine⟨_,Z,.inr ⟨a,_,0,.str wd,Z,Z,h1,cM (fF 0) Z,.inr ⟨_,_,bP _,bP _,sw,ng,?_⟩⟩⟩;rw[ew];exact k
theorem jP{H:Hp}:∀{xs:List V}{zs:List Str},aK K H xs (zs.map PyData.str)->xs=zs.map V.str |xs,[],h=>h.nil_inv |xs,n::ns,h=>by obtain⟨y,ys,rfl,h1,h2⟩:=h.cons_inv;rw[h1.str_inv,jP h2];rfl
def gK:Str:="abcdefghijklmnopqrstuvwxyz"
theorem a4g:gK.cps.toList.length=26:=by decide+kernel
theorem O2{α:Type}{xs:List α}{x:α}(h:xs.getLast? =some x):dY xs (-1)=some x:=by
 unfold dY gc;have hl:xs≠[]:=by intro e;rw[e]at h;cases h
 have h0:0<xs.length:=vQ.mpr hl;rw[aV az,aU aw];rw[List.getLast?_eq_getElem?]at h;show xs[((-1:Int)+(xs.length:Int)).toNat]? =some x;have e:((-1:Int)+(xs.length:Int)).toNat=xs.length-1:=by lia
 rw[e];exact h
def PF(ns:List Int):ah:=.tuple (ns.map λz=>cx (Rat.divInt z (Ln.aM ns)))
theorem oH(r:Rat):eZ (cx r)=true:=by simp[cx,eZ,cF]
theorem Kz{α:Type}{f:α->ah}(h:∀a,eZ (f a)=true)(l:List α):cF (l.map f)=true:=iL.mpr λd hd=>by obtain⟨a,_,rfl⟩:=cB.mp hd;exact h a
inductive a4J(K:aa)(vs:List V)(H:Hp)(Q:VK):Prop |mk (v:_)(ns:_)(sp:_)(h0:vs=[v])(h1:RD K H v (du ns sp))(h2:eH ns.length 1000 ns)(h3:ns.length<=1000)(h4:∀v' H',RD K H' v' (PF ns)->aA H H'->Q v' H')
def GZ(K:aa):Sp:=λvs H Q _=>a4J K vs H Q
abbrev Ac:Stmt:=top 51
theorem HR:bh ["line","lead"] ["line"] (aP Ac):=bo aJ
theorem Uw(F:FA K mg "ways_of" Ac)(B:bw mg)(p9:aE P w K mg au "lead_of" 1 (lL K))(uG:aE P w K mg au "fraction" 3 (sZ K)):aE P w K mg au "ways_of" 4 (GZ K):=by
 refine F.has HR (λvs H Q E h=>?_) (λ_ _ _ _ _ _=>cJ λ_=>rfl) (λf aG A outer s H vs Q E hr h=>?_)
 ·obtain⟨v,ns,sp,rfl,_⟩:=h
  rfl
 ·obtain⟨v,ns,sp,rfl,rd,ok,hz,k⟩:=h
  have nd:=HR.nd;refine⟨_,(aF (pS 1 nd (pf p9 hr (ao (pv 0) ay))) (aI (aR (cE (x:="tuple") (j7 K Z) Z (B.at "tuple") gD (ao (dA (N:=["step","lead"]) (js:=[none,some 1]) rfl rfl rfl (jb K rfl (px K (pv 0) aB)) (λ_ _ _ _ _=>(ba 0 (gb az))) (λ_ _ _ _ _=>cX) (λ_ _ _ _ _=>(pf uG hr (ao (pv 0) (ao (pv 1) ay))))) ay))))),?_⟩;refine⟨_,Z,v,ns,sp,Z,rd,ok.ne,hz,λH1 s1=>?_⟩;obtain⟨a,b,rfl,ha,hb⟩:=kW (RD.mono s1 _ rd);obtain⟨lp,lm⟩:=ok.lead;refine⟨_,Z,.inr ⟨a,_,1,.ref b,Z,Z,ha,Z,b,Z,⟨_,hb⟩,λD H0 nw=>?_⟩⟩;refine nL (K:=K) (xs:=ns.map V.int) (ds:=ns.map λz=>cx (Rat.divInt z (Ln.aM ns))) _ hb nw (by simp) (by simpa using hz) (Kz (λ_=>oH _) _) ?_ ?_
  ·intro i x d H2 Q' ex ed s2 hq
   obtain⟨n,en,rfl⟩:=ke ed;cases xE ex en;refine⟨_,Z,_,Z,n,_,Z,bp,mO (n:=20) bp az,λv3 H3 r3 s3=>?_⟩;exact hq _ _ s3 r3.rd
  ·intro H' ys s2 d2 r2
   refine⟨D,_,Z,.inl ⟨aH.of d2,λt H4 n4=>?_⟩⟩;exact k _ _ (eX (aQ.of n4.at') (aK.mono n4.same _ r2)) (s1.trans (s2.trans n4.same))
theorem mP:gP "tuple" "tuple"=true:=by decide
theorem PB(d:ah):(∃i,d= .int i/\uq (jO d)=true)\/(uq (jO d)=false/\∀i,d≠ .int i):=by cases d with |int i=>exact .inl ⟨i,Z,by simp[jO];decide⟩ |_=>exact .inr ⟨by simp[jO];decide,λ_ z=>nomatch z⟩
theorem sV(d:ah):(∃ds,d= .tuple ds)\/(gP (jO d) "tuple"=false/\∀ds,d≠ .tuple ds):=by cases d with |tuple ds=>exact .inl ⟨ds,Z⟩ |_=>exact .inr ⟨by simp[jO];decide,λ_ z=>nomatch z⟩
def cu(lo hi:Int):ah->Bool | .int i=>decide (lo<=i)&&decide (i<=hi) |_=>false
theorem XT{lo hi:Int}{d:ah}(h:∀i,d≠ .int i):cu lo hi d=false:=by cases d<;>first|rfl|exact absurd rfl (h _)
inductive a4K(K:aa)(vs:List V)(H:Hp)(Q:VK):Prop |mk (v:_)(d:_)(lo:_)(hi:_)(h0:vs=[v,.int lo,.int hi])(h1:RD K H v d)(h2:Q (.bl (cu lo hi d)) H)
def kJ(K:aa):Sp:=λvs H Q _=>a4K K vs H Q
abbrev Ad:Stmt:=top 15
theorem HS:bh ["thing","low","high"] ["thing","low","high"] (aP Ad):=bo aJ
theorem Uv(F:FA K mg "is_whole_within" Ad)(B:bw mg)(ya:aE P w K mg au "is_whole" 1 (wO K)):aE P w K mg au "is_whole_within" 2 (kJ K):=by
 refine F.has HS (λvs H Q E h=>?_) (λ_ _ _ _ _ _=>lA λ_ _ _=>rfl) (λf aG A outer s H vs Q E hr h=>?_)
 ·obtain⟨v,d,lo,hi,rfl,_⟩:=h
  rfl
 ·obtain⟨v,d,lo,hi,rfl,rd,k⟩:=h
  have nd:=HS.nd;refine⟨_,(aI (aR (qA (pf ya hr (ao (pv 0) ay)) (qx (K5 qD qD (pv 1) (pv 0) (pv 2)))))),?_⟩;refine⟨_,Z,_,_,Z,rd.ty,_,Z,?_⟩;rcases PB d with⟨i,rfl,e⟩|⟨e,hn⟩
  ·cases rd.int_inv
   rw[e];refine bF ?_;have k:Q (.bl (decide (lo<=i)&&decide (i<=hi))) H:=k;refine⟨_,Z,_,Z,_,_,Z,Z,_,Z,?_⟩;refine eJ (λhc=>?_) (λhc=>?_)
   ·have gy:decide (lo<=i)=true:=hc
    rw[gy,fX]at k;exact⟨_,Z,_,_,Z,Z,k⟩
   ·have gy:decide (lo<=i)=false:=vW.mpr hc
    rw[gy,fY]at k;exact k
  ·rw[e]
   refine bc ?_;rw[XT hn]at k;exact k
open Cn
theorem G6{ns ms:List Int}{i:Nat}{a b:Int}(h1:ns[i]? =some a)(h2:ms[i]? =some b):(cy ns ms)[i]? =some (a*(aM ms:Int)-b*(aM ns:Int)):=by unfold cy;rw[bJ,(nZ (z:=(a,b))).mpr ⟨h1,h2⟩];rfl
def va(j:Int)(ns ms:List Int):ah:=if aM (cy ns ms)=0 then .none else cx (Rat.divInt ((j*aM ns*aM ms)^2) ((aM (cy ns ms):Int)^2))
inductive a5F(K:aa)(vs:List V)(H:Hp)(Q:VK):Prop |mk (v:_)(v1:_)(v2:_)(rs:_)(r:_)(f:_)(j:_)(t:_)(ns:_)(ms:_)(eS:_)(iG:_)(h0:vs=[v,v1,v2])(h1:RD K H v (hV rs r f j t))(h2:RD K H v1 (du ns eS))(h3:RD K H v2 (du ms iG))(h4:eH ns.length 1000 ns)(h5:eH ns.length 1000 ms)(h6:ns.length<=1000)(h7:1<=j)(h8:j<=50)(h9:∀v' H',RD K H' v' (va j ns ms)->aA H H'->Q v' H')
def A7(K:aa):Sp:=λvs H Q _=>a5F K vs H Q
theorem zip2{ns ms:List Int}(h:ms.length=ns.length){i:Nat}{x y:V}(ex:(ns.map V.int)[i]? =some x)(ey:(ms.map V.int)[i]? =some y):∃a b,ns[i]? =some a/\ms[i]? =some b/\x= .int a/\y= .int b:=by rw[bJ]at ex ey;cases e1:ns[i]? with |none=>rw[e1]at ex;cases ex |some a=>cases e2:ms[i]? with |none=>rw[e2]at ey;cases ey |some b=>rw[e1]at ex;rw[e2]at ey;exact⟨a,b,Z,Z,(cW ex).symm,(cW ey).symm⟩
inductive a4M(K:aa)(vs:List V)(H:Hp)(Q:VK):Prop |mk (v1:_)(v2:_)(ns:_)(ms:_)(eS:_)(iG:_)(h0:vs=[v1,v2])(h1:RD K H v1 (du ns eS))(h2:RD K H v2 (du ms iG))(h3:eH ns.length 1000 ns)(h4:eH ns.length 1000 ms)(h5:ns.length<=1000)(h6:∀v' H',bL K H' v' (Rat.divInt (aM (cy ns ms)) ((aM ns:Int)*aM ms))->aA H H'->Q v' H')
def Hd(K:aa):Sp:=λvs H Q _=>a4M K vs H Q
abbrev Ae:Stmt:=top 61
theorem HU:bh ["one","other","greatest","way","new_way","p","q","difference"] ["one","other"] (aP Ae):=bo aJ
theorem Ux(F:FA K mg "greatest_turn" Ae)(B:bw mg)(LF:aE P w K mg au "ways_of" 4 (GZ K))(YF:aE P w K mg au "minus" 3 (wH (·-·) K))(DR:aE P w K mg au "is_less" 1 (wM K)):aE P w K mg au "greatest_turn" 5 (Hd K):=by
 refine F.has HU (λvs H Q E h=>?_) (λ_ _ _ _ _ _=>da λ_ _=>rfl) (λf aG A outer s H vs Q E hr h=>?_)
 ·obtain⟨v1,v2,ns,ms,eS,iG,rfl,_⟩:=h
  rfl
 ·obtain⟨v1,v2,ns,ms,eS,iG,rfl,BW,BV,eT,dW,hz,k⟩:=h
  have nd:=HU.nd;obtain⟨Xd,Xk⟩:=eT.lead;obtain⟨Xc,Xj⟩:=dW.lead;have Y7:ms.length<=1000:=by rw[dW.len];exact hz
  have VT:eH ms.length 1000 ms:=⟨Z,dW.bd,dW.nz⟩;have cb:=yO (λz hz=>by have:=eT.bd z hz;lia) (λz hz=>by have:=dW.bd z hz;lia) (ns:=ns) (ms:=ms);have L0:(0:Int)<(aM ns:Int)*aM ms:=qh aw aw;have Lb:((aM ns:Int)*aM ms).natAbs<=1000*1000:=iO aw aw;have a7J:(cy ns ms).length=ns.length:=by simp[cy,dW.len]
  have LY:∀c:Int,c.natAbs<=2000000->Bd 2000 (Rat.divInt c ((aM ns:Int)*aM ms)):=λc hc=>(oT (n:=30) aw aw aw).mono az;refine⟨_,(aF (pS 2 nd (eA (ao aB (ao aB ay)))) (aF (kO jM Z (kP K Z false false Z (B.at "zip") (ao (pf LF hr (ao (pv 0) ay)) (ao (pf LF hr (ao (pv 1) ay)) ay))) (dS K rfl (n:=2) rfl (bM (ba 3 nd) (bM (ba 4 nd) dR))) (aF (eu (pf YF hr (ao (pv 4) (ao (pv 3) ay))) (dS K Z (n:=2) Z (bM (ba 5 nd) (bM (ba 6 nd) dR)))) (aF (pS 7 nd (eA (ao (cw (x:="abs") my Z (B.at "abs") nW (ao (pv 5) ay)) (ao (pv 6) ay)))) (aI (bB (cD (pf DR hr (ao (pv 2) (ao (pv 7) ay)))) (aI (pS 2 nd (pv 7))) bC))))) (aI (aR (pv 2))))),?_⟩;refine⟨bW Z,λg0 H1 n1=>?_⟩;refine⟨_,Z,v1,ns,eS,Z,RD.mono n1.same _ BW,eT,hz,λw1 H2 r2 s2=>?_⟩;have t2:=n1.same.trans s2;refine⟨_,Z,v2,ms,iG,Z,RD.mono t2 _ BV,VT,Y7,λw2 H3 r3 s3=>?_⟩;have t3:=t2.trans s3;obtain⟨c1,xs1,rfl,h1,q1⟩:=(RD.mono s3 _ r2).cj;obtain⟨c2,xs2,rfl,h2,q2⟩:=r3.cj;have l1:=q1.length;have l2:=q2.length;rw[bD]at l1 l2;refine⟨c1,c2,Z,⟨_,h1⟩,⟨_,h2⟩,?_⟩;refine a1i (K:=K) (b1:=false) (b2:=false) (xs:=xs1) (ys:=xs2) ns.length (by rw[l1,l2,dW.len];lia) (λi O H4=>aA H3 H4/\∃g u1 u2 u3 u4 u5,bL K H4 g (Rat.divInt (nu (cy ns ms) i) ((aM ns:Int)*aM ms))/\O=[some v1,some v2,some g,u1,u2,u3,u4,u5]) ?_ (λi O H4 _ h=>⟨h1.go h.1,h2.go h.1⟩) ?_ ?_
  ·refine⟨aA.refl _,.ref g0,none,none,none,none,none,⟨g0,Z,?_⟩,Z⟩
   have e0:Rat.divInt ((nu (cy ns ms) 0:Nat):Int) ((aM ns:Int)*aM ms)=0:=by show Rat.divInt 0 _=0;exact Rat.zero_divInt _
   rw[e0];exact aQ.of (s3 _ _ (s2 _ _ n1.at'))
  ·rintro i x y O H4 ex ey ⟨s4,g,u1,u2,u3,u4,u5,rg,rfl⟩ T H5 n5
   obtain⟨d1,e1,rx⟩:=q1.get' i ex;obtain⟨d2,e2,ry⟩:=q2.get' i ey;obtain⟨a,ea,rfl⟩:=ke e1;obtain⟨b,eb,rfl⟩:=ke e2;have qa:=eT.bd a (fP ea);have qb:=dW.bd b (fP eb);have cz:=G6 ea eb;have czb:=cb _ (fP cz);have t5:=s4.trans n5.same;refine⟨T,_,Z,aQ.of n5.at',Z,_,_,Z,_,_,Z,Z,?_⟩;have ja:∀{H':Hp}{v:V}{r:Rat},RD K H' v (cx r)->bL K H' v r:=λ{H' v r} h=>by obtain⟨p,xs,rfl,h1,h2⟩:=h.cj;have:=h2.eK (ns:=[r.num,r.den]);subst this;exact⟨p,Z,h1⟩
   refine⟨_,Z,_,Z,y,x,_,_,Z,ja (RD.mono t5 _ ry),ja (RD.mono t5 _ rx),(oT (n:=30) aw aw aw).mono az,(oT (n:=30) aw aw aw).mono az,λv6 H6 r6 s6=>?_⟩;have ed:Rat.divInt b (aM ms)-Rat.divInt a (aM ns)=Rat.divInt (b*aM ns-a*aM ms) ((aM ns:Int)*aM ms):=QN aw aw;have r6:bL K H6 v6 (Rat.divInt b (aM ms)-Rat.divInt a (aM ns)):=r6;rw[ed]at r6;obtain⟨p6,rfl,h6⟩:=r6;refine⟨p6,_,Z,h6,Z,_,_,Z,_,_,Z,Z,?_⟩;refine⟨_,Z,_,Z,_,Z,bW Z,λdd H7 n7=>?_⟩;have BE:=s6.trans n7.same;have rD:bL K H7 (.ref dd) (Rat.divInt (((a*(aM ms:Int)-b*(aM ns:Int)).natAbs:Nat):Int) ((aM ns:Int)*aM ms)):=by
    have e:Rat.divInt (((a*(aM ms:Int)-b*(aM ns:Int)).natAbs:Nat):Int) ((aM ns:Int)*aM ms)=pO (Rat.divInt (b*aM ns-a*aM ms) ((aM ns:Int)*aM ms)):=by rw[a4c L0,Fc];congr 1;lia
    rw[e];refine⟨dd,Z,?_⟩;rw[a4b,a4d];exact aQ.of n7.at'
   have rG:bL K H7 g _:=(rg.go n5.same).go BE;have hG:nu (cy ns ms) i<=2000000:=kX λz hz=>cb z (zE hz);refine⟨_,Z,_,Z,g,.ref dd,_,_,Z,rG,rD,LY _ aw,LY _ aw,_,Z,?_⟩;have hs:=Z6 cz;refine eJ (λhc=>?_) (λhc=>?_)
   ·have bZ:=(Nf L0).mp (lE hc)
    refine⟨_,Z,?_⟩;refine⟨t5.trans BE,_,_,_,_,_,_,?_,Z⟩;rw[hs,Nat.max_eq_right aw];exact rD
   ·have hge:¬_:=λz=>hc (bR ((Nf L0).mpr z))
    refine⟨t5.trans BE,_,_,_,_,_,_,?_,Z⟩;rw[hs,Nat.max_eq_left aw];exact rG
  ·rintro O H4 ⟨s4,g,u1,u2,u3,u4,u5,rg,rfl⟩
   refine⟨_,Z,k _ _ ?_ (t3.trans s4)⟩;have:nu (cy ns ms) ns.length=aM (cy ns ms):=by unfold nu;rw[zC aw]
   rw[this]at rg;exact rg
abbrev Bq:Stmt:=top 58
theorem Je:bh ["machine","one","other","jump","p","q"] ["machine","one","other"] (aP Bq):=bo aJ
theorem VE(F:FA K mg "corner_square" Bq)(B:bw mg)(Za:aE P w K mg au "greatest_turn" 5 (Hd K))(uG:aE P w K mg au "fraction" 3 (sZ K)):aE P w K mg au "corner_square" 6 (A7 K):=by
 refine F.has Je (λvs H Q E h=>?_) (λ_ _ _ _ _ _=>lA λ_ _ _=>rfl) (λf aG A outer s H vs Q E hr h=>?_)
 ·obtain⟨v,v1,v2,rs,r,f',j,t,ns,ms,eS,iG,rfl,_⟩:=h
  rfl
 ·obtain⟨v,v1,v2,rs,r,f',j,t,ns,ms,eS,iG,rfl,rd,BW,BV,eT,dW,hz,j1,j2,k⟩:=h
  have nd:=Je.nd;obtain⟨Xd,Xk⟩:=eT.lead;obtain⟨Xc,Xj⟩:=dW.lead;have L0:(0:Int)<(aM ns:Int)*aM ms:=qh aw aw;have Lb:((aM ns:Int)*aM ms).natAbs<=1000*1000:=iO aw aw;have cb:=yO (λz hz=>by have:=eT.bd z hz;lia) (λz hz=>by have:=dW.bd z hz;lia) (ns:=ns) (ms:=ms);have hH:=kX cb;refine⟨_,(aF (pS 3 nd (px K (pv 0) aB)) (aF (eu (pf Za hr (ao (pv 1) (ao (pv 2) ay))) (dS K Z (n:=2) Z (bM (ba 4 nd) (bM (ba 5 nd) dR)))) (aF (bB (bK (dC K Z hr.units) (pv 4) aB (bE _)) (aI (aR g9)) bC) (aI (aR (pf uG hr (ao (aL bU (aL bU (aL bU (pv 3) (pv 3)) (pv 5)) (pv 5)) (ao (aL bU (pv 4) (pv 4)) ay)))))))),?_⟩;obtain⟨am,bm,rfl,gf,iR⟩:=lY rd;refine⟨_,Z,.inr ⟨am,_,3,.int j,Z,Z,gf,Z,?_⟩⟩;refine⟨_,Z,_,Z,v1,v2,ns,ms,eS,iG,Z,BW,BV,eT,dW,hz,λv3 H3 r3 s3=>?_⟩;obtain⟨F3⟩:Nonempty (Bd 30 (Rat.divInt (aM (cy ns ms)) ((aM ns:Int)*aM ms))):=⟨oT (n:=30) aw aw aw⟩;have en:=vF (Rat.divInt (aM (cy ns ms)) ((aM ns:Int)*aM ms));obtain⟨R,hR⟩:∃R,Rat.divInt (aM (cy ns ms)) ((aM ns:Int)*aM ms)=R:=⟨_,Z⟩;rw[hR]at r3 F3 en;have dp:=den_pos R;have uY:R.num*((aM ns:Int)*aM ms)=aM (cy ns ms)*R.den:=by rw[<-hR]at en;have:=(OK (by rw[hR];lia) aw).mp en;rw[hR]at this;exact this
  have nb:=F3.num;have db:=F3.den;obtain⟨p3,rfl,h3⟩:=r3;refine⟨p3,_,Z,h3,Z,_,_,Z,_,_,Z,Z,?_⟩;refine⟨_,Z,.inl ⟨_,_,Z,Z,_,Z,?_⟩⟩;refine eJ (λhc=>?_) (λhc=>?_)
  ·have h0:R.num=0:=by simpa using hc
   have hl:aM (cy ns ms)=0:=by
    rw[h0,Int.zero_mul]at uY;rcases Int.mul_eq_zero.mp uY.symm with h|h
    ·lia
    ·lia
   refine k .aZ H3 ?_ s3;unfold va;rw[aU hl];exact qr
  ·have h0:R.num≠0:=by simpa using hc
   have hl:aM (cy ns ms)≠0:=by
    intro z;rw[z]at uY;have:R.num*((aM ns:Int)*aM ms)=0:=by rw[uY];exact Int.zero_mul _
    rcases Int.mul_eq_zero.mp this with h|h
    ·exact h0 h
    ·lia
   have m1:(j*j).natAbs<=50*50:=iO aw aw;have jn:(2:Nat)^64=18446744073709551616:=by decide
   refine⟨_,Z,_,Z,_,_,Z,Z,.of_left (cH aw aw),_,Z,_,_,Z,Z,.of_left (cH aw aw),_,Z,_,_,Z,Z,.of_right (cH aw aw),?_⟩;refine⟨_,Z,_,Z,_,_,Z,Z,.of_left (cH aw aw),?_⟩;refine⟨_,_,Z,G3 h0 h0,?_,λv4 H4 r4 s4=>?_⟩
   ·refine mO (n:=60) ?_ az
    rw[o8];exact uf (n:=30) (m:=30) nb nb
   ·refine k _ _ ?_ (s3.trans s4)
    unfold va;rw[aV hl];have e:=a3e (j:=j) (p:=R.num) (q:=R.den) (h:=aM (cy ns ms)) (L:=(aM ns:Int)*aM ms) h0 aw uY;rw[e,<-vU]at r4;exact r4.rd
def JK (d:ah):Bool:=cu 10 200 d
inductive a4Y(K:aa)(vs:List V)(H:Hp)(Q:VK):Prop |mk (v:_)(d:_)(h0:vs=[v])(h1:RD K H v d)(h2:Q (.bl (JK d)) H)
def zX(K:aa):Sp:=λvs H Q _=>a4Y K vs H Q
abbrev Bb:Stmt:=top 60
theorem IW:bh ["thing"] ["thing"] (aP Bb):=bo aJ
theorem Vq(F:FA K mg "is_rate" Bb)(B:bw mg)(ZZ:GV mg "LEAST_RATE" (.int 10))(a00:GV mg "GREATEST_RATE" (.int 200))(gH:aE P w K mg au "is_whole_within" 2 (kJ K)):aE P w K mg au "is_rate" 3 (zX K):=by
 refine F.has IW (λvs H Q E h=>?_) (λ_ _ _ _ _ _=>cJ λ_=>rfl) (λf aG A outer s H vs Q E hr h=>?_)
 ·obtain⟨v,d,rfl,_⟩:=h
  rfl
 ·obtain⟨v,d,rfl,rd,k⟩:=h
  have nd:=IW.nd;refine⟨_,(aI (aR (pf gH hr (ao (pv 0) (ao (cK (x:="LEAST_RATE") Z ZZ) (ao (cK (x:="GREATEST_RATE") Z a00) ay)))))),?_⟩;exact⟨_,Z,v,d,10,200,Z,rd,k⟩
inductive a4N(K:aa)(vs:List V)(H:Hp)(Q:VK):Prop |mk (v:_)(ns:_)(sp:_)(r:_)(h0:vs=[v,.int r])(h1:RD K H v (du ns sp))(h2:1<=sp)(h3:sp<=20)(h4:10<=r)(h5:r<=200)(h6:∀v' H',bL K H' v' (Rat.divInt ((sp*r)^2) 10000)->aA H H'->Q v' H')
def zV(K:aa):Sp:=λvs H Q _=>a4N K vs H Q
theorem Rb(a b:Int):a*a*b*b=(a*b)^2:=by rw[fE,fE,lH,lI];ac_rfl
theorem SH{r:Int}(h1:10<=r)(h2:r<=200):JK (.int r)=true:=by show(decide (10<=r)&&decide (r<=200))=true;rw[bR h1,bR h2];rfl
abbrev Af:Stmt:=top 59
theorem HV:bh ["line","rate","speed"] ["line","rate"] (aP Af):=bo aJ
theorem Uy(F:FA K mg "top_square" Af)(B:bw mg)(YY:aE P w K mg au "is_rate" 3 (zX K))(uG:aE P w K mg au "fraction" 3 (sZ K)):aE P w K mg au "top_square" 4 (zV K):=by
 refine F.has HV (λvs H Q E h=>?_) (λ_ _ _ _ _ _=>da λ_ _=>rfl) (λf aG A outer s H vs Q E hr h=>?_)
 ·obtain⟨v,ns,sp,r,rfl,_⟩:=h
  rfl
 ·obtain⟨v,ns,sp,r,rfl,rd,s1,s2,r1,r2,k⟩:=h
  have nd:=HV.nd;refine⟨_,(aF (bB (dg (cD (pf YY hr (ao (pv 1) ay)))) (aI oJ) bC) (aF (pS 2 nd (px K (pv 0) aB)) (aI (aR (pf uG hr (ao (aL bU (aL bU (aL bU (pv 2) (pv 2)) (pv 1)) (pv 1)) (ao (aL bU aB aB) ay))))))),?_⟩;refine⟨_,Z,_,.int r,Z,ek r,_,Z,?_⟩;rw[SH r1 r2];refine bc ?_;obtain⟨a,b,rfl,ha,hb⟩:=kW rd;refine⟨_,Z,.inr ⟨a,_,2,.int sp,Z,Z,ha,Z,?_⟩⟩;have m1:(sp*sp).natAbs<=20*20:=by rw[o8];exact FO aw aw
  refine⟨_,Z,_,Z,_,_,Z,Z,.of_left (cH aw aw),_,Z,_,_,Z,Z,.of_left (cH aw aw),_,Z,_,_,Z,Z,.of_right (cH aw aw),?_⟩;refine⟨_,_,Z,Z,.of_left (cH az az),?_⟩;refine⟨_,_,Z,az,mO (n:=20) az az,λv' H' r' s'=>k v' H' ?_ s'⟩;rw[Rb]at r';exact r'
open Pn
open Ow (topR cornO mnO betR atO ownF leadF ownL OkI OkIs)
theorem Ri(n:Nat)(h:n<=1000):n<sizeLine:=FQ h az
theorem ja{H:Hp}{v:V}{r:Rat}(h:RD K H v (cx r)):bL K H v r:=by obtain⟨p,xs,rfl,h1,h2⟩:=h.cj;have:=h2.eK (ns:=[r.num,r.den]);subst this;exact⟨p,Z,h1⟩
theorem eH.up{ax:Nat}{ns:List Int}(h:eH ax 100 ns):eH ns.length 1000 ns:=⟨Z,λz hz=>by have:=h.bd z hz;lia,h.nz⟩
theorem gh.kS{ax:Nat}{ds:List ah}{os:List Itm}(h:gh ax ds os):OkIs os:=λi ns sp e=>by unfold atO at e;cases ho:os[i]? with |none=>rw[ho]at e;cases e |some o=>rw[ho]at e;have e':o=some (ns,sp):=e;subst e';obtain⟨a,b,c⟩:=h.ok i ns sp ho;exact⟨a.bd,b,c⟩
theorem u6{H:Hp}{a:Addr}(h:aQ K H a [.int 0,.int 1]):bL K H (.ref a) 0:=⟨a,Z,h⟩
theorem a3g(j:Int)(ns ms:List Int):va j ns ms=match cornO j ns ms with|none=>.none|some c=>cx c:=by unfold va cornO;split<;>rfl
inductive a5H(K:aa)(vs:List V)(H:Hp)(Q:VK):Prop |mk (m:_)(v1:_)(v2:_)(rate:_)(rs:_)(r:_)(f:_)(j:_)(t:_)(d1:_)(d2:_)(o1:_)(o2:_)(ax:_)(h0:vs=[m,v1,v2,.int rate])(h1:RD K H m (hV rs r f j t))(h2:1<=j)(h3:j<=50)(h4:RD K H v1 d1)(h5:RD K H v2 d2)(h6:itR d1 o1)(h7:itR d2 o2)(h8:(∀ns sp,o1=some (ns,sp)->eH ax 100 ns/\1<=sp/\sp<=20))(h9:(∀ns sp,o2=some (ns,sp)->eH ax 100 ns/\1<=sp/\sp<=20))(h10:ax<=100)(h11:10<=rate)(Eh:rate<=200)(h13:∀v H',bL K H' v (betR j rate o1 o2)->aA H H'->Q v H')
def A8(K:aa):Sp:=λvs H Q _=>a5H K vs H Q
abbrev Bs:Stmt:=top 64
theorem Jh:bh ["machine","one","other","rate","squares","corner"] ["machine","one","other","rate"] (aP Bs):=bo aJ
theorem VH(F:FA K mg "bound_between" Bs)(B:bw mg)(gN:GT K mg "NOUGHT" [.int 0,.int 1])(la:aE P w K mg au "is_line" 1 (qo K))(LG:aE P w K mg au "top_square" 4 (zV K))(Zm:aE P w K mg au "corner_square" 6 (A7 K))(uD:aE P w K mg au "least" 2 (t7 K)):aE P w K mg au "bound_between" 7 (A8 K):=by
 obtain⟨aN,md,mQ⟩:=gN;refine F.has Jh (λvs H Q E h=>?_) (λ_ _ _ _ _ _=>O9 λ_ _ _ _=>rfl) (λf aG A outer s H vs Q E hr h=>?_)
 ·obtain⟨m,v1,v2,rate,rs,r,f,j,t,d1,d2,o1,o2,ax,rfl,_⟩:=h
  rfl
 ·obtain⟨m,v1,v2,rate,rs,r,f,j,t,d1,d2,o1,o2,ax,rfl,rm,j1,j2,r1,r2,i1,i2,k1,k2,hax,fS,fR,k⟩:=h
  have nd:=Jh.nd;refine⟨_,(aF (bB (PW.pt (gX (dg (cD (pf la hr (ao (pv 1) ay)))) (gW (dg (cD (pf la hr (ao (pv 2) ay))))))) (aI (aR (cK (x:="NOUGHT") Z md))) bC) (aF (pS 4 nd (fJ (ao (pf LG hr (ao (pv 1) (ao (pv 3) ay))) (ao (pf LG hr (ao (pv 2) (ao (pv 3) ay))) ay)))) (aF (pS 5 nd (pf Zm hr (ao (pv 0) (ao (pv 1) (ao (pv 2) ay))))) (aF (jT (bB (bK Kf (pv 5) g9 (bE _)) (aI (Cd (Co K Z (pv 4) (ao (pv 5) ay)))) bC)) (aI (aR (pf uD hr (ao (pv 4) ay)))))))),?_⟩;refine⟨_,Z,v1,d1,o1,Z,r1,i1,_,Z,?_⟩;cases o1 with |none=>refine bF (bF ?_);have:=k _ H (u6 (mQ H)) (aA.refl _);exact this |some q1=>obtain⟨ns,sp⟩:=q1;refine bc ?_;refine⟨_,Z,v2,d2,o2,Z,r2,i2,_,Z,?_⟩;cases o2 with |none=>refine bF ?_;exact k _ H (u6 (mQ H)) (aA.refl _) |some q2=>obtain⟨ms,sq⟩:=q2;refine bc ?_;have e1:=jf i1;have e2:=jf i2;subst e1 e2;obtain⟨eT,a1,a2⟩:=k1 ns sp rfl;obtain⟨dW,b1,b2⟩:=k2 ms sq rfl;refine⟨_,Z,_,Z,v1,ns,sp,rate,Z,r1,a1,a2,fS,fR,λt1 H1 Sg s1=>?_⟩;refine⟨_,Z,_,Z,v2,ms,sq,rate,Z,RD.mono s1 _ r2,b1,b2,fS,fR,λt2 H2 Sf s2=>?_⟩;refine⟨bW Z,λl H3 n3=>?_⟩;have t3:=s1.trans (s2.trans n3.same);have jz:eH ns.length 1000 ms:=⟨by rw[eT.len,dW.len],dW.up.bd,dW.nz⟩;refine⟨_,Z,_,Z,_,Z,m,v1,v2,rs,r,f,j,t,ns,ms,sp,sq,Z,RD.mono t3 _ rm,RD.mono t3 _ r1,RD.mono t3 _ r2,eT.up,jz,by rw[eT.len];lia,j1,j2,λc H4 rc s4=>?_⟩;have T1:Bd 2000 (topR rate sp):=(Ow.wx a1 a2 fS fR).mono az;have T2:Bd 2000 (topR rate sq):=(Ow.wx b1 b2 fS fR).mono az;have R1:bL K H4 t1 (topR rate sp):=((Sg.go s2).go n3.same).go s4;have R2:bL K H4 t2 (topR rate sq):=(Sf.go n3.same).go s4;have t4:=t3.trans s4;rw[a3g]at rc;cases hc:cornO j ns ms with
   |none=>
    rw[hc]at rc;cases rc.CK;refine⟨λO H5=>H5=H4/\O=[some m,some v1,some v2,some (.int rate),some (.ref l),some .aZ],?_,?_⟩
    ·refine⟨_,Z,Z,_,Z,bc ?_⟩
     exact⟨Z,Z⟩
    rintro O H5 ⟨rfl,rfl⟩;refine⟨_,Z,l,[t1,t2],[topR rate sp,topR rate sq],Z,aH.of (s4 _ _ n3.at'),⟨R1,T1,R2,T2,trivial⟩,by simp,λi v q e1 e2 hq=>?_⟩;have kj:betR j rate (some (ns,sp)) (some (ms,sq))=q:=by
     show mnO (mn _ _) (cornO j ns ms)=q;rw[hc];refine oX ?_ (hq _ (by simp)) (hq _ (by simp))
     match i,e2 with |0,e2=>cases e2;exact .inl rfl |1,e2=>cases e2;exact .inr rfl
    refine k v _ ?_ t4;rw[kj]
    match i,e1,e2 with |0,e1,e2=>cases e1;cases e2;exact R1 |1,e1,e2=>cases e1;cases e2;exact R2
   |some cq=>
    rw[hc]at rc;have Rc:bL K H4 c cq:=ja rc;have Tc:Bd 2000 cq:=(Ow.EO j1 j2 eT.bd dW.bd hc).mono az;have EK:=s4 _ _ n3.at';have tU:gB H4 (L2.upd H4 l (.lst ([t1,t2]++[c]))):=.sQ EK;refine⟨λO H5=>H5=L2.upd H4 l (.lst ([t1,t2]++[c]))/\O=[some m,some v1,some v2,some (.int rate),some (.ref l),some c],?_,?_⟩
    ·obtain⟨pc,rfl,_⟩:=id Rc
     refine⟨_,Z,Z,_,Z,bF ?_⟩;refine⟨_,Z,.inl ⟨Z,_,aH.of EK⟩,_,Z,l,[t1,t2],_,Z,Z,EK,Ri _ (P5 Z),?_⟩;exact⟨Z,Z⟩
    rintro O H5 ⟨rfl,rfl⟩;have up:∀{v:V}{q:Rat},bL K H4 v q->bL K (L2.upd H4 l (.lst ([t1,t2]++[c]))) v q:=λ{v q} h=>ja (RD.t tU _ (oH q) h.rd);refine⟨_,Z,l,[t1,t2,c],[topR rate sp,topR rate sq,cq],Z,aH.of bV,⟨up R1,T1,up R2,T2,up Rc,Tc,trivial⟩,by simp,λi v q e1 e2 hq=>?_⟩;have kj:betR j rate (some (ns,sp)) (some (ms,sq))=q:=by
     show mnO (mn _ _) (cornO j ns ms)=q;rw[hc];show mn (mn _ _) cq=q;have h1:=hq _ (show topR rate sp∈[topR rate sp,topR rate sq,cq] by simp);have h2:=hq _ (show topR rate sq∈[topR rate sp,topR rate sq,cq] by simp);have h3:=hq _ (show cq∈[topR rate sp,topR rate sq,cq] by simp);refine oX ?_ (kg h1 h2) h3
     match i,e2 with |0,e2=>cases e2;exact .inl (oX (.inl rfl) h1 h2).symm |1,e2=>cases e2;exact .inl (oX (.inr rfl) h1 h2).symm |2,e2=>cases e2;exact .inr rfl
    have sU:aA H (L2.upd H4 l (.lst ([t1,t2]++[c]))):=λb o e=>by have h0:H2 l=none:=n3.no;have e2:=s2 b o (s1 b o e);rw[bj (ft e2 h0)];exact t4 b o e
    refine k v _ ?_ sU;rw[kj]
    match i,e1,e2 with |0,e1,e2=>cases e1;cases e2;exact up R1 |1,e1,e2=>cases e1;cases e2;exact up R2 |2,e1,e2=>cases e1;cases e2;exact up Rc
theorem qM(qs:List Rat):cF (qs.map cx)=true:=Kz oH qs
theorem aK.wU{H:Hp}{l:Addr}{ys:List V}{y:V}{ds:List ah}{d:ah}{i:Nat}(dl:H l=some (.lst ys))(r:aK K H ys ds)(rd:RD K H y d)(n1:cF ds=true)(n2:eZ d=true):aK K (L2.upd H l (.lst (ys.set i y))) (ys.set i y) (ds.set i d):=by have t:gB H (L2.upd H l (.lst (ys.set i y))):=.sQ dl;have r':=aK.t t _ n1 r;have JJ:=RD.t t _ n2 rd;clear r rd dl t;generalize L2.upd H l (.lst (ys.set i y))=H' at r' JJ;induction ds generalizing ys i with |nil=>cases r'.nil_inv;exact df |cons d0 ds ih=>
 obtain⟨y0,yr,rfl,h1,h2⟩:=r'.cons_inv;have Ww:cF ds=true:=by rw[cF,dm]at n1;exact n1.2
 cases i with |zero=>exact ck JJ h2 |succ i=>exact ck h1 (ih Ww h2)
theorem Nt(xs:List V):iT xs (some 1) none=xs.drop 1:=by unfold iT;have e:HT.bO xs.length 0 (some 1)=min 1 xs.length:=HT.B8 _ _ 1;rw[e,HT.B7];cases xs with |nil=>rfl |cons x xs=>
 have e2:min 1 (x::xs).length=1:=by simp
 rw[e2,zC (by simp)]
inductive a58(K:aa)(vs:List V)(H:Hp)(Q:VK):Prop |mk (m:_)(iv:_)(rate:_)(rs:_)(r:_)(f:_)(j:_)(t:_)(ds:_)(os:_)(h0:vs=[m,iv,.int rate])(h1:RD K H m (hV rs r f j t))(h2:kF rs r f j t)(h3:RD K H iv (.tuple ds))(h4:gh rs.length ds os)(h5:ds.length<=100)(h6:10<=rate)(h7:rate<=200)(h8:∀l ys H',H l=none->H' l=some (.lst ys)->aK K H' ys ((ownL j rate os).map cx)->aA H H'->Q (.ref l) H')
def A1(K:aa):Sp:=λvs H Q _=>a58 K vs H Q
abbrev AK:Stmt:=top 63
theorem Iv:bh ["machine","items","rate","between"] ["machine","items","rate"] (aP AK):=bo aJ
theorem V3(F:FA K mg "own_bounds" AK)(B:bw mg)(gN:GT K mg "NOUGHT" [.int 0,.int 1])(Zt:aE P w K mg au "bound_between" 7 (A8 K)):aE P w K mg au "own_bounds" 8 (A1 K):=by
 obtain⟨aN,md,mQ⟩:=gN;refine F.has Iv (λvs H Q E h=>?_) (λ_ _ _ _ _ _=>lA λ_ _ _=>rfl) (λf aG A outer s H vs Q E hr h=>?_)
 ·obtain⟨m,iv,rate,rs,r,f,j,t,ds,os,rfl,_⟩:=h
  rfl
 ·obtain⟨m,iv,rate,rs,r,f,j,t,ds,os,rfl,rm,aO,ri,row,hz,fS,fR,k⟩:=h
  have nd:=Iv.nd;have rN:∀H',RD K H' (.ref aN) (cx 0):=λH'=>(u6 (mQ H')).rd;refine⟨_,(aF (bB (dg (xb K Z (pv 1))) (aI (aR (fJ (ao (cK (x:="NOUGHT") Z md) ay)))) bC) (aF (Cc (i0:=3) nd Z (Or.inl Z) (N:=["one","other","machine","rate"]) (js:=[none,none,some 0,some 2]) Z Z Z (kP K Z false false Z (B.at "zip") (ao (pv 1) (ao (tR (tw K rfl) (pv 1) (tP aB) tQ) ay))) (λ_ _ _ _ _=>(dS K rfl (n:=2) rfl (bM (ba 0 (show List.Nodup (["one","other","machine","rate"]:List Str) by decide+kernel)) (bM (ba 1 (show List.Nodup (["one","other","machine","rate"]:List Str) by decide+kernel)) dR)))) (λ_ _ _ _ _=>cX) (λ_ _ _ _ _=>(pf Zt hr (ao (pv 2) (ao (pv 0) (ao (pv 1) (ao (pv 3) ay))))))) (aI (aR (aL (rT K Z) (aL (rT K Z) (fJ (ao (cK (x:="NOUGHT") Z md) ay)) (pv 3)) (fJ (ao (cK (x:="NOUGHT") Z md) ay))))))),?_⟩;obtain⟨ia,xs,rfl,hi,gG⟩:=ri.cj;have lx:=gG.length;have ll:=row.len;refine⟨_,Z,_,.inr (.inl ⟨_,hi,Z⟩),?_⟩;cases hd:xs with
  |nil=>
   subst hd;refine bF ?_;refine⟨bW Z,λl H1 n1=>?_⟩;refine k l [.ref aN] H1 n1.no n1.at' ?_ n1.same;have e:os=[]:=by
    have:os.length=0:=by rw[<-ll,<-lx];rfl
    exact P6.mp this
   rw[e];exact ck (rN H1) df |cons x0 xr=>
   refine bc ?_;have cQ:os≠[]:=by intro e;rw[e]at ll;rw[hd]at lx;simp at ll lx;rw[ll]at lx;cases lx
   have xU:0<xs.length:=by rw[hd];simp
   refine⟨_,Z,_,Z,1,Z,ia,xs,Z,.inr ⟨hi,?_,λtl H1 n1=>?_⟩⟩
   ·rintro⟨h1,_⟩
    have e:HT.bO xs.length 0 (some 1)=min 1 xs.length:=HT.B8 _ _ 1;rw[e]at h1
    lia
   refine⟨ia,tl,Z,⟨_,hi.go n1.same⟩,⟨_,aQ.of n1.at'⟩,λD H2 n2=>?_⟩;have et:=n1.at';rw[Nt]at et;have tX:∀(i:Nat)(o:Itm),os[i]? =some o->∀(ns:List Int)(sp:Int),o=some (ns,sp)->eH rs.length 100 ns/\1<=sp/\sp<=20:=λi o e ns sp e'=>row.ok i ns sp (by rw[e,e']);have lr:=aO.len;refine pJ (K:=K) (b1:=false) (b2:=false) (xs:=xs) (ys:=xs.drop 1) (ds:=((List.range (os.length-1)).map (λi=>ownF j rate os (i+1))).map cx) _ Z (hi.go n1.same) (aQ.of et) n2 (by rw[FX];simp;lia) (by simp;lia) (qM _) ?_ ?_
   ·intro i x y d H3 Q' ex ey ed s3 hq
    have jx:=n1.same.trans s3;rw[List.getElem?_drop]at ey;obtain⟨d1,e1,r1⟩:=gG.get' i ex;obtain⟨d2,e2,r2⟩:=gG.get' (1+i) ey;obtain⟨o1,uW,i1⟩:=row.get e1;obtain⟨o2,pH,i2⟩:=row.get e2;have Z7:1+i<os.length:=(dQ.mp pH).1;have dv:d=cx (betR j rate o1 o2):=by rw[bJ,bJ,cC (by simp;lia),zG]at ed;have:=(cW ed).symm;rw[this];show cx (betR j rate (atO os i) (atO os (i+1)))=_;rw[Ow.rV uW,Ow.rV (show os[i+1]? =some o2 by rw[Nat.add_comm];exact pH)]
    subst dv;refine⟨_,Z,_,Z,_,Z,_,Z,m,x,y,rate,rs,r,f,j,t,d1,d2,o1,o2,rs.length,Z,RD.mono jx _ rm,aO.j1.1,aO.j1.2,RD.mono jx _ r1,RD.mono jx _ r2,i1,i2,tX _ _ uW,tX _ _ pH,aw,fS,fR,λv H4 rv s4=>?_⟩;exact hq _ _ s4 rv.rd
   ·intro H3 zs s3 d3 r3
    have lz:=r3.length;simp at lz;refine⟨bW Z,λl1 H4 n4=>?_⟩;refine⟨_,Z,l1,D,_,zs,Z,Z,aH.of n4.at',aH.of (n4.same _ _ d3),tq _ (by simp;lia),λl2 H5 n5=>?_⟩;refine⟨bW Z,λl3 H6 n6=>?_⟩;refine⟨l2,l3,_,_,Z,Z,aH.of (n6.same _ _ n5.at'),aH.of n6.at',tq _ (by simp;lia),λl H7 n7=>?_⟩;have Ju:aA H H6:=n1.same.trans (s3.trans (n4.same.trans (n5.same.trans n6.same)));have nl:H l=none:=by cases e:H l with |none=>rfl |some o=>have:=Ju _ _ e;rw[n7.no]at this;cases this
    refine k l _ H7 nl n7.at' ?_ (Ju.trans n7.same);rw[Ow.K9 j rate cQ,lF,lF];exact((ck (rN H7) df).append (aK.mono (n4.same.trans (n5.same.trans (n6.same.trans n7.same))) _ r3)).append (ck (rN H7) df)
inductive a57(K:aa)(vs:List V)(H:Hp)(Q:VK):Prop |mk (v:_)(r:_)(z:_)(h0:vs=[v,.int z])(h1:bL K H v r)(h2:Bd 2000 r)(h3:z.natAbs<2^24)(h4:∀v H',bL K H' v (r+(z:Rat))->aA H H'->Q v H')
def wI(K:aa):Sp:=λvs H Q _=>a57 K vs H Q
abbrev AJ:Stmt:=top 42
theorem Iu:bh ["one","more"] ["one","more"] (aP AJ):=bo aJ
theorem UY(F:FA K mg "plus_whole" AJ)(B:bw mg)(Yr:aE P w K mg au "plus" 3 (wH (·+·) K)):aE P w K mg au "plus_whole" 4 (wI K):=by
 refine F.has Iu (λvs H Q E h=>?_) (λ_ _ _ _ _ _=>da λ_ _=>rfl) (λf aG A outer s H vs Q E hr h=>?_)
 ·obtain⟨v,r,z,rfl,_⟩:=h
  rfl
 ·obtain⟨v,r,z,rfl,rv,br,hz,k⟩:=h
  have nd:=Iu.nd;refine⟨_,(aI (aR (pf Yr hr (ao (pv 0) (ao (eA (ao (pv 1) (ao aB ay))) ay))))),?_⟩;refine⟨_,Z,_,Z,bW Z,λt H1 n1=>?_⟩;have bz:Bd 24 (z:Rat):=⟨hz,by show 1<2^24;decide⟩;exact⟨v,.ref t,r,(z:Rat),Z,rv.go n1.same,⟨t,Z,aQ.of n1.at'⟩,br,bz.mono az,λv' H' r' s'=>k v' H' r' (n1.same.trans s')⟩
theorem nh{os:List Itm}{i:Nat}{ns:List Int}{sp:Int}(h:os[i]? =some (some (ns,sp))):leadF os i=some (aM ns):=by unfold leadF;rw[Ow.rV h];rfl
theorem xJ{os:List Itm}{i:Nat}(h:os[i]? =some none):leadF os i=none:=by unfold leadF;rw[Ow.rV h];rfl
theorem oZ{os:List Itm}(h:OkIs os){i m:Nat}(e:leadF os i=some m):m<=100:=by unfold leadF at e;cases ho:atO os i with |none=>rw[ho]at e;cases e |some q=>rw[ho]at e;cases e;obtain⟨a,_,_⟩:=h i q.1 q.2 ho;exact kX λz hz=>by have:=a z hz;lia
theorem oa{r:Int}{m:Nat}(h1:1<=r)(h2:r<=50)(h3:m<=100):(2*r*(m:Int)).natAbs<2^24:=by
 have jo:(2:Nat)^24=16777216:=by decide
 have:=iO (a:=2*r) (b:=(m:Int)) (m:=100) (n:=100) aw aw;rw[jo];lia
inductive a4X(K:aa)(vs:List V)(H:Hp)(Q:VK):Prop |mk (m:_)(iv:_)(l:_)(ys:_)(rs:_)(r:_)(f:_)(j:_)(t:_)(ds:_)(os:_)(g:_)(h0:vs=[m,iv,.ref l])(h1:RD K H m (hV rs r f j t))(h2:kF rs r f j t)(h3:RD K H iv (.tuple ds))(h4:gh rs.length ds os)(h5:ds.length<=30)(h6:H l=some (.lst ys))(h7:aK K H ys ((lst os.length g).map cx))(h8:(∀i,Bd 64 (g i)))(h9:∀l ys H',H l=none->H' l=some (.lst ys)->aK K H' ys ((lst os.length (Rz g (leadF os) (2*r))).map cx)->aA H H'->Q (.ref l) H')
def Hk(K:aa):Sp:=λvs H Q _=>a4X K vs H Q
abbrev Ap:Stmt:=top 66
theorem Ih:bh ["machine","items","squares","rise","kept","i","item"] ["machine","items","squares"] (aP Ap):=bo aJ
theorem UQ(F:FA K mg "kept_by_rise" Ap)(B:bw mg)(la:aE P w K mg au "is_line" 1 (qo K))(p9:aE P w K mg au "lead_of" 1 (lL K))(DF:aE P w K mg au "plus_whole" 4 (wI K))(uD:aE P w K mg au "least" 2 (t7 K)):aE P w K mg au "kept_by_rise" 5 (Hk K):=by
 refine F.has Ih (λvs H Q E h=>?_) (λ_ _ _ _ _ _=>lA λ_ _ _=>rfl) (λf aG A outer s H vs Q E hr h=>?_)
 · obtain⟨m,iv,l,ys,rs,r,f,j,t,ds,os,g,rfl,_⟩:=h
   rfl
 · obtain⟨m,iv,l,ys,rs,r,f,j,t,ds,os,g,rfl,rm,aO,ri,row,hz,dl,BS,bg,k⟩:=h
   have nd:=Ih.nd;refine⟨_,(aF (pS 3 nd (px K (pv 0) aB)) (aF (pS 4 nd (cE (x:="list") (De K Z) Z (B.at "list") OZ (ao (pv 2) ay))) (aF (kO jM Z (TH K Z false Z (B.at "enumerate") (ao (pv 1) ay)) (dS K rfl (n:=2) rfl (bM (ba 5 nd) (bM (ba 6 nd) dR))) (aI (bB (cD (pf la hr (ao (pv 6) ay))) (aI (eu (pf uD hr (ao (fJ (ao (px K (pv 4) (aL dr (pv 5) aB)) (ao (pf DF hr (ao (px K (pv 4) (pv 5)) (ao (aL bU (aL bU aB (pv 3)) (pf p9 hr (ao (pv 6) ay))) ay))) ay))) ay)) (oN (pv 4) (aL dr (pv 5) aB) set_list))) bC))) (aI (aR (pv 4)))))),?_⟩;obtain⟨ma,mb,rfl,gf,iR⟩:=lY rm;obtain⟨ia,xs,rfl,hi,gG⟩:=ri.cj;have lx:=gG.length;have ll:=row.len;have lr:=aO.len;have hL:∀i m,leadF os i=some m->(2*r*(m:Int)).natAbs<2^24:=λi m e=>oa aO.r1.1 aO.r1.2 (oZ row.kS e);have RB:∀i,i<=30->Bd 900 (Rz g (leadF os) (2*r) i):=λi hi=>(vg bg hL i).mono bp;refine⟨_,Z,.inr ⟨ma,_,1,.int r,Z,Z,gf,Z,?_⟩⟩;refine⟨_,Z,l,ys,Z,.inl (aH.of dl),λD H1 n1=>?_⟩;refine⟨_,Z,ia,Z,⟨_,hi.go n1.same⟩,a1k (K:=K) (b:=false) (a:=ia) (xs:=xs) (λi O H2=>aA H H2/\∃zs v1 v2,H2 D=some (.lst zs)/\aK K H2 zs ((lst os.length λk=>if k<=i then Rz g (leadF os) (2*r) k else g k).map cx)/\O=[some (.ref ma),some (.ref ia),some (.ref l),some (.int r),some (.ref D),v1,v2]) ?_ (λi O H2 _ h=>hi.go h.1) ?_ ?_⟩
   · refine⟨n1.same,ys,none,none,n1.at',?_,Z⟩
     rw[jC (g:=λk=>if k<=0 then Rz g (leadF os) (2*r) k else g k) (g':=g)]
     ·exact aK.mono n1.same _ BS
     · intro k _
       show g k=if k<=0 then Rz g (leadF os) (2*r) k else g k;split
       · next h => have:k=0:=by omega
                   subst this;rfl
       ·rfl
   · rintro i y O H2 hy ⟨s2,zs,v1,v2,dz,rz,rfl⟩ T H3 n3
     have LS:i<xs.length:=(dQ.mp hy).1;obtain⟨d,ed,rd⟩:=gG.get' i hy;obtain⟨o,eo,it⟩:=row.get ed;have s3:=s2.trans n3.same;have lz:=rz.length;rw[bD,jB]at lz;refine⟨T,_,Z,aQ.of n3.at',Z,_,_,Z,_,_,Z,Z,?_⟩;refine⟨_,Z,y,d,o,Z,RD.mono s3 _ rd,it,_,Z,?_⟩;cases o with
     |none=>
       refine bc ?_;refine⟨s3,zs,_,_,n3.same _ _ dz,?_,Z⟩;rw[jC (g:=λk=>if k<=i+1 then Rz g (leadF os) (2*r) k else g k) (g':=λk=>if k<=i then Rz g (leadF os) (2*r) k else g k)]
       ·exact aK.mono n3.same _ rz
       · intro k _
         show(if k<=i then Rz g (leadF os) (2*r) k else g k)=if k<=i+1 then Rz g (leadF os) (2*r) k else g k;by_cases h1:k<=i
         ·rw[aU h1,aU bp]
         · rw[aV h1]
           by_cases h2:k=i+1
           ·subst h2;rw[aU (bq _),mB (xJ eo)]
           ·rw[aV bp] |some q=>
       obtain⟨ns,sp⟩:=q;refine bF ?_;have dv:=jf it;subst dv;obtain⟨eD,_,_⟩:=row.ok i ns sp eo;have EI:=n3.same _ _ dz;have BK:=aK.mono n3.same _ rz;obtain⟨z1,kB⟩:∃z,zs[i+1]? =some z:=⟨_,cC (show i+1<zs.length by omega)⟩;obtain⟨z0,kC⟩:∃z,zs[i]? =some z:=⟨_,cC (show i<zs.length by omega)⟩;have R1:bL K H3 z1 (g (i+1)):=by
        obtain⟨d1,e1,r1⟩:=BK.get' (i+1) kB;rw[bJ,je _ (show i+1<=os.length by omega)]at e1;cases e1;have:¬(i+1<=i):=by omega
        simp only[aV this]at r1;exact ja r1
       have R0:bL K H3 z0 (Rz g (leadF os) (2*r) i):=by obtain⟨d1,e1,r1⟩:=BK.get' i kC;rw[bJ,je _ (show i<=os.length by omega)]at e1;cases e1;simp only[aU (bq i)]at r1;exact ja r1
       have rM:((i:Int)+1).toNat=i+1:=by omega
       have pL:dY zs ((i:Int)+1)=some z1:=cM bp (by rw[rM];exact kB);have pM:dY zs (i:Int)=some z0:=cM bp (by simpa using kC);refine⟨_,Z,_,Z,_,_,Z,Z,.inl ⟨D,_,_,_,Z,Z,aH.of EI,pL,?_⟩⟩;refine⟨_,Z,_,Z,.inl ⟨D,_,_,_,Z,Z,aH.of EI,pM,?_⟩⟩;refine⟨_,Z,_,_,Z,Z,.of_left (cH az az),?_⟩;refine⟨_,Z,y,ns,sp,Z,RD.mono s3 _ rd,eD.ne,by rw[eD.len];omega,λH4 s4=>?_⟩;have T7:=aO.r1;refine⟨_,_,Z,Z,.of_left (cH bp bp),?_⟩;have us:=hL i _ (nh eo);refine⟨z0,_,_,Z,R0.go s4,(RB i bp).mono az,us,λu H5 ru s5=>?_⟩;refine⟨bW Z,λl2 H6 n6=>?_⟩;have fo:=s4.trans (s5.trans n6.same);have Od:=R1.go fo;have Ru:=ru.go n6.same;have B1:Bd 2000 (g (i+1)):=(bg _).mono az;have B2:Bd 2000 (Rz g (leadF os) (2*r) i+((2*r*(aM ns:Int):Int):Rat)):=(rW (RB i bp) us).mono az;refine⟨l2,[z1,u],[_,_],Z,aH.of n6.at',⟨Od,B1,Ru,B2,trivial⟩,by simp,λc v q e1 e2 hq=>?_⟩;have kj:mn (g (i+1)) (Rz g (leadF os) (2*r) i+((2*r*(aM ns:Int):Int):Rat))=q:=by
        refine oX ?_ (hq _ (by simp)) (hq _ (by simp))
        match c,e2 with |0,e2=>cases e2;exact .inl rfl |1,e2=>cases e2;exact .inr rfl
       have Rv:bL K H6 v q:=by match c,e1,e2 with |0,e1,e2=>cases e1;cases e2;exact Od |1,e1,e2=>cases e1;cases e2;exact Ru
       have kE:=fo _ _ EI;have XI:gc zs.length ((i:Int)+1)=some (i+1):=by unfold gc;rw[aU bp,aU bp,rM]
       refine⟨_,Z,_,Z,_,_,Z,Z,D,zs,_,_,Z,Z,kE,XI,?_⟩;refine⟨λb o e=>?_,_,_,_,bV,?_,Z⟩
       ·rw[bj (ft e n1.no)];exact fo b o (s3 b o e)
       · have h:=aK.wU (i:=i+1) kE (aK.mono fo _ BK) Rv.rd (qM _) (oH _)
         rw[<-zF]at h;have e:(lst os.length λk=>if k<=i then Rz g (leadF os) (2*r) k else g k).set (i+1) q=lst os.length λk=>if k<=i+1 then Rz g (leadF os) (2*r) k else g k:=by
          rw[<-xH (g:=λk=>if k<=i then Rz g (leadF os) (2*r) k else g k) (g':=λk=>if k<=i+1 then Rz g (leadF os) (2*r) k else g k) (i:=i+1)]
          · simp only[aU (bq (i+1))]
            rw[jI (nh eo),kj]
          · intro k _ hk
            show(if k<=i+1 then _ else _)=if k<=i then _ else _;by_cases h1:k<=i
            ·rw[aU h1,aU bp]
            ·rw[aV h1,aV bp]
         rw[e]at h;exact h
   · rintro O H2 ⟨s2,zs,v1,v2,dz,rz,rfl⟩
     rw[jC (g:=λk=>if k<=xs.length then Rz g (leadF os) (2*r) k else g k) (g':=Rz g (leadF os) (2*r)) (λk hk=>by show _=if k<=xs.length then _ else _;rw[aU bp])]at rz;exact⟨_,Z,k D zs H2 n1.no dz rz s2⟩
theorem Dj{n:Nat}{ns:List Int}(h:eH n 100 ns):aM ns<=100:=by have:=h.lead;lia
open Wk
def cI(pl:List Int):ah:=.tuple (pl.map PyData.int)
theorem hU(pl:List Int):eZ (cI pl)=true:=by rw[cI,eZ];exact jZ pl
theorem Tu{H:Hp}{v:V}{pl:List Int}(h:RD K H v (cI pl)):∃a,v= .ref a/\aQ K H a (pl.map V.int):=by obtain⟨a,xs,rfl,h1,h2⟩:=h.cj;rw[h2.eK]at h1;exact⟨a,Z,h1⟩
theorem JY{H:Hp}{a:Addr}{pl:List Int}(h:aQ K H a (pl.map V.int)):RD K H (.ref a) (cI pl):=eX h (mU pl)
def dD(pl:List Int):Itm->List Int |none=>pl |some (ns,_)=>iW pl ns
inductive a56(K:aa)(vs:List V)(H:Hp)(Q:VK):Prop |mk (p:_)(m:_)(rs:_)(r:_)(f:_)(j:_)(t:_)(h0:vs=[.ref p,m])(h1:fN H p)(h2:RD K H m (hV rs r f j t))(h3:kF rs r f j t)(h4:∀v pl H',RD K H' v (cI pl)->fC rs pl->bG p H H'->Q v H')
def A0(K:aa):Sp:=λvs H Q _=>a56 K vs H Q
abbrev AI:Stmt:=top 108
theorem Ir:bh ["_law_bag_here","_law_machine_here"] ["_law_bag_here","_law_machine_here"] (aP AI):=bo aJ
theorem V2(F:FA K mg "_law_place" AI)(B:bw mg)(eE:aE P w K mg au "_law_take" 1 mR):aE P w K mg au "_law_place" 2 (A0 K):=by
 refine F.has Ir (λvs H Q E h=>?_) (λ_ _ _ _ _ _=>da λ_ _=>rfl) (λf aG A outer s H vs Q E hr h=>?_)
 ·obtain⟨p,m,rs,r,f,j,t,rfl,_⟩:=h
  rfl
 ·obtain⟨p,m,rs,r,f,j,t,rfl,bg,rm,Kn,k⟩:=h
  have nd:=Ir.nd;refine⟨_,(aI (aR (cE (x:="tuple") (j7 K Z) Z (B.at "tuple") gD (ao (dA (N:=["_law_rail","_law_bag_here"]) (js:=[none,some 0]) rfl rfl rfl (jb K rfl (px K (pv 1) aB)) (λ_ _ _ _ _=>(ba 0 (gb az))) (λ_ _ _ _ _=>cX) (λ_ _ _ _ _=>(pf eE hr (ao (pv 1) (ao (aL dr (pv 0) aB) ay))))) ay)))),?_⟩;obtain⟨ma,mb,rfl,gf,iR⟩:=lY rm;have lr:=Kn.len;refine⟨_,Z,.inr ⟨ma,_,0,.ref mb,Z,Z,gf,cM (fF 0) Z,mb,Z,⟨_,iR⟩,λD H1 n1=>?_⟩⟩;refine Ny (K:=K) (J:=vk K mb) (p:=p) (H:=H) rs.length _ n1 bg aw (λi=>.int (rs.getD i 0)) (λi H2 hi b2=>?_) (λH2 b2=>?_) (λi d=>∃z r,d= .int z/\rs[i]? =some r/\0<=z/\z<=r) ?_ ?_
  ·have y6:=iR.t (bG.t bg b2)
   have e:(rs.map V.int)[i]? =some (.int (rs.getD i 0)):=by rw[bJ,List.getD_eq_getElem?_getD,cC hi];rfl
   exact⟨⟨_,_,y6,e⟩,λy H3 ⟨e3,y3⟩=>⟨e3,by have:=y3 _ y6;rw[e]at this;exact(cW this).symm⟩⟩
  ·exact⟨_,iR.t (bG.t bg b2),by rw[bD];exact bq _⟩
  ·intro i H2 Q' hi b2 hq
   have er:rs[i]? =some (rs.getD i 0):=by rw[List.getD_eq_getElem?_getD,cC hi];rfl
   obtain⟨r0,r1⟩:=Kn.rl _ (fP er);refine⟨_,Z,_,Z,_,_,Z,Z,p,_,Z,b2.bI,aw,aw,λz H3 z0 z1 b3=>?_⟩;exact hq _ _ _ ⟨z,_,Z,er,z0,aw⟩ Z (ek z) b3
  ·intro H2 ys ds b2 d2 r2 l2 nl pd
   have ny:∃pl:List Int,ds=pl.map PyData.int/\fC rs pl:=by
    have key:∀(ds:List ah),(∀d∈ds,∃z:Int,d= .int z)->∃pl:List Int,ds=pl.map PyData.int:=by intro ds;induction ds with |nil=>exact λ_=>⟨[],Z⟩ |cons d ds ih=>intro h;obtain⟨z,rfl⟩:=h d (.head _);obtain⟨pl,rfl⟩:=ih λx hx=>h x (.tail _ hx);exact⟨z::pl,Z⟩
    obtain⟨pl,rfl⟩:=key ds λd hd=>by obtain⟨i,hi⟩:=nY.mp hd;obtain⟨z,_,e,_⟩:=pd i d hi;exact⟨z,e⟩
    refine⟨pl,Z,by simpa using l2,λi x r e1 e2=>?_⟩;obtain⟨z,r',e,er,h0,h1⟩:=pd i (.int x) (by rw[bJ,e1];rfl);cases e;rw[e2]at er;cases er;exact⟨h0,h1⟩
   obtain⟨pl,rfl,on⟩:=ny;refine⟨D,_,Z,.inl ⟨aH.of d2,λt H3 n3=>?_⟩⟩;have et:=n3.at';rw[r2.eK]at et;exact k (.ref t) pl H3 (JY (aQ.of et)) on (b2.trans (.eU b2.bI n3.same))
open Ow (Itm)
theorem WS{H:Hp}{v:V}{rs:List Int}{es:List ah}(h:RD K H v (.tuple (.tuple (rs.map PyData.int)::es))):∃a b ys,v= .ref a/\aQ K H a (.ref b::ys)/\aQ K H b (rs.map V.int):=by obtain⟨a,xs,rfl,h1,h2⟩:=h.cj;obtain⟨x1,r1,rfl,e1,h2⟩:=h2.cons_inv;obtain⟨b,ys,rfl,h3,h4⟩:=e1.cj;rw[h4.eK]at h3;exact⟨a,b,r1,Z,h1,h3⟩
def fu(z:Str):ah->Bool | .str x=>x==z |_=>false
theorem yC(z:Str)(d:ah):PyData.eqv d (.str z)=fu z d:=by cases d<;>simp[PyData.eqv,fu]
theorem MR(z:Str)(d:ah):PyData.eqv (.str z) d=fu z d:=by cases d<;>simp[PyData.eqv,fu];rw[j6];simp;exact eq_comm
theorem QU(d:ah):(∃z,d= .str z)\/(gP (jO d) "str"=false/\∀z,d≠ .str z):=by cases d with |str z=>exact .inl ⟨z,Z⟩ |_=>exact .inr ⟨by simp[jO];decide,λ_ z=>nomatch z⟩
theorem PY:gP "str" "str"=true:=by decide
def Dq(d:ah):Bool:=fu "up" d||fu "down" d
def qJ(c:Nat):Bool:=decide (97<=c)&&decide (c<=122)
def isNm:ah->Bool | .str x=>(decide (1<=x.length)&&decide (x.length<=8))&&x.cps.toList.all qJ |_=>false
def m5(wd v:ah):Bool:=if fu "wait" wd then cu 1 1000 v else if fu "tool" wd then Dq v else fu "mark" wd&&isNm v
def oU:ah->Bool | .int i=>i !=0 |_=>true
def lT(n:Nat):ah->Bool | .tuple ds=>(ds.length==n&&ds.all (cu (-100) 100))&&ds.any oU |_=>false
def hW(n:Nat):ah->Bool | .tuple [wd,a,b]=>fu "line" wd&&(lT n a&&cu 1 20 b) | .tuple [wd,v]=>m5 wd v |_=>false
def fH:ah->Bool | .str x=>decide (x.length<=900) |_=>true
def oz:ah->Bool | .tuple ds=>ds.all fH |_=>true
inductive a4L(f:ah->Bool)(K:aa)(vs:List V)(H:Hp)(Q:VK):Prop |mk (v:_)(d:_)(h0:vs=[v])(h1:RD K H v d)(h2:fH d=true)(h3:∀H',aA H H'->Q (.bl (f d)) H')
def Hc(f:ah->Bool)(K:aa):Sp:=λvs H Q _=>a4L f K vs H Q
theorem Rw{z:Str}(h:fH (.str z)=true):z.length<=900:=lE h
theorem KJ(n:Nat):decide ((1:Int)<=(n:Int))=decide (1<=n):=by rw[j6];simp;omega
theorem Wm(n:Nat):decide ((n:Int)<=8)=decide (n<=8):=by rw[j6];simp;omega
theorem O8{l:List Nat}{f:Nat->Bool}:(l.map f).all id=l.all f:=by rw[G2];rfl
theorem a4f:∀c<128,decide (c∈gK.cps.toList)=qJ c:=by decide+kernel
theorem a4i:∀c∈gK.cps.toList,c<128:=by decide+kernel
theorem a4h(c:Nat):decide (c∈gK.cps.toList)=qJ c:=by
 by_cases h:c<128
 ·exact a4f c h
 ·rw[dP (λhc=>h (a4i c hc)),qJ,dP (show¬c<=122 by omega),vX]
abbrev Bh:Stmt:=top 37
theorem J4:bh ["thing"] ["thing"] (aP Bh):=bo aJ
theorem Vv(F:FA K mg "is_name" Bh)(B:bw mg)(ZX:GV mg "LONGEST_NAME" (.int 8))(ZY:GV mg "LETTERS" (.str gK)):aE P w K mg au "is_name" 1 (Hc isNm K):=by
 refine F.has J4 (λvs H Q E h=>?_) (λ_ _ _ _ _ _=>cJ λ_=>rfl) (λf aG A outer s H vs Q E hr h=>?_)
 ·obtain⟨v,d,rfl,_⟩:=h
  rfl
 ·obtain⟨v,d,rfl,rd,sh,k⟩:=h
  have nd:=J4.nd;refine⟨_,(aF (bB (PW.pt (gX (dg (cD (kR K B (ao (pv 0) (ao (jV (x:="str") (v:=.ty "str") Z (B.at "str") fj rfl) ay))))) (gW (dg (Tf qD qD aB (cw (x:="len") a3y rfl (B.at "len") PySem.boot_len (ao (pv 0) ay)) (cK (x:="LONGEST_NAME") rfl ZX)))))) (aI (aR gr)) bC) (aI (aR (cw (x:="all") (pN K Z Z) Z (B.at "all") sF (ao (dA (N:=["letter"]) (js:=[none]) rfl rfl rfl (K1 (pv 0)) (λ_ _ _ _ _=>(ba 0 (gu _))) (λ_ _ _ _ _=>cX) (λ_ _ _ _ _=>(jy Kg (pv 0) (cK (x:="LETTERS") rfl ZY) (by with_unfolding_all rfl)))) ay))))),?_⟩;rcases QU d with⟨z,rfl⟩|⟨ht,hn⟩
  ·refine⟨_,Z,.inl ⟨_,_,"str",true,Z,rd.ty,az,PY,_,Z,bc ?_⟩⟩
   cases rd.str_inv;have hl:=Rw sh;have k:∀H',aA H H'->Q (.bl ((decide (1<=z.length)&&decide (z.length<=8))&&z.cps.toList.all qJ)) H':=k;refine⟨_,Z,z,Z,f9 hl az,_,_,Z,Z,_,Z,?_⟩;refine eJ (λh1=>?_) (λh1=>?_)
   ·rw[<-KJ,show decide ((1:Int)<=(z.length:Int))=true from h1,fX]at k
    refine⟨_,_,Z,Z,_,Z,?_⟩;rw[Wm];cases e8:decide (z.length<=8)with |false=>rw[e8,fY]at k;exact bF (k H (aA.refl _)) |true=>
     rw[e8,fX]at k;refine bc ⟨_,Z,z,Z,λD H0 nw=>?_⟩;refine NC (f:=qJ) [] nw aw (λc H2 Q' hc s2 hq=>?_) (λH2 s2 d2=>?_)
     ·refine⟨_,Z,c,gK,Z,Z,?_⟩
      rw[a4h];exact hq _ (aA.refl _)
     ·refine⟨D,_,Z,aH.of d2,?_⟩
      rw[O8];exact k H2 s2
   ·rw[<-KJ,show decide ((1:Int)<=(z.length:Int))=false from vW.mpr h1,fY,fY]at k
    exact⟨_,Z,bF (k H (aA.refl _))⟩
  ·have e:isNm d=false:=by cases d<;>first|rfl|exact absurd rfl (hn _)
   rw[e]at k;refine⟨_,Z,.inl ⟨_,_,"str",false,Z,rd.ty,az,ht,_,Z,bF ?_⟩⟩;exact k H (aA.refl _)
inductive a4T(K:aa)(vs:List V)(H:Hp)(Q:VK):Prop |mk (x:_)(v:_)(wd:_)(d:_)(h0:vs=[x,v])(h1:RD K H x wd)(h2:RD K H v d)(h3:cA 8 wd)(h4:cA 8 d)(h5:fH d=true)(h6:∀H',aA H H'->Q (.bl (m5 wd d)) H')
def Hg(K:aa):Sp:=λvs H Q _=>a4T K vs H Q
theorem tD{d:ah}(h:cA 8 d):SeqAt.shaped d=true:=h.shaped az
abbrev Bf:Stmt:=top 36
theorem J0:bh ["word","value"] ["word","value"] (aP Bf):=bo aJ
theorem Vt(F:FA K mg "is_short_item" Bf)(B:bw mg)(ZV:GV mg "LONGEST_WAIT" (.int 1000))(gS:GT K mg "SIDES" [.str "up",.str "down"])(gH:aE P w K mg au "is_whole_within" 2 (kJ K))(YZ:aE P w K mg au "is_name" 1 (Hc isNm K)):aE P w K mg au "is_short_item" 3 (Hg K):=by
 refine F.has J0 (λvs H Q E h=>?_) (λ_ _ _ _ _ _=>da λ_ _=>rfl) (λf aG A outer s H vs Q E hr h=>?_)
 ·obtain⟨x,v,wd,d,rfl,_⟩:=h
  rfl
 ·obtain⟨x,v,wd,d,rfl,BM,rd,Cw,oS,sh,k⟩:=h
  have nd:=J0.nd;obtain⟨aS,ZI,R9⟩:=gS;refine⟨_,(aF (bB (bK (dC K Z hr.units) (pv 0) bu (bE _)) (aI (aR (pf gH hr (ao (pv 1) (ao aB (ao (cK (x:="LONGEST_WAIT") Z ZV) ay)))))) bC) (aF (bB (bK (dC K Z hr.units) (pv 0) bu (bE _)) (aI (aR (jy (XW K Z (hr.PQ)) (pv 1) (cK (x:="SIDES") Z ZI) (by with_unfolding_all rfl)))) bC) (aI (aR (qA (jy (dC K Z hr.units) (pv 0) bu (bE _)) (qx (pf YZ hr (ao (pv 1) ay)))))))),?_⟩;have k:∀H',aA H H'->Q (.bl (if fu "wait" wd then cu 1 1000 d else if fu "tool" wd then Dq d else fu "mark" wd&&isNm d)) H':=k;refine⟨_,Z,.inr ⟨_,_,BM,bP _,tD Cw,aJ,_,Z,?_⟩⟩;rw[yC];cases e1:fu "wait" wd with |true=>rw[e1,aU rfl]at k;exact bF ⟨_,Z,_,d,1,1000,Z,rd,k H (aA.refl _)⟩ |false=>rw[e1,aV de]at k;refine bc ⟨_,Z,.inr ⟨_,_,BM,bP _,tD Cw,aJ,_,Z,?_⟩⟩;rw[yC];cases e2:fu "tool" wd with
   |true=>
    rw[e2,aU rfl]at k;refine bF ⟨_,Z,aS,_,d,[.str "up",.str "down"],Z,R9 H,rd,ck (bP _) (ck (bP _) df),tD oS,?_,?_⟩
    ·intro e he
     rcases bS.mp he with rfl|he
     ·decide+kernel
     rcases bS.mp he with rfl|he
     ·decide+kernel
     ·exact(eR he).elim
    ·have e:([.str "up",.str "down"]:List ah).any (λe=>PyData.eqv e d)=Dq d:=by rw[sJ,sJ,List.any_nil,MR,MR,Bool.or_false];rfl
     rw[e];exact k H (aA.refl _) |false=>rw[e2,aV de]at k;refine bc ⟨_,Z,.inr ⟨_,_,BM,bP _,tD Cw,aJ,_,Z,?_⟩⟩;rw[yC];cases e3:fu "mark" wd with |true=>rw[e3,fX]at k;exact bF ⟨_,Z,_,d,Z,rd,sh,k⟩ |false=>rw[e3,fY]at k;exact bc (k H (aA.refl _))
theorem W0(i:Int):(!decide (i=0))=(i !=0):=by rw[j6];simp
theorem XU{lo hi:Int}{d:ah}(h:cu lo hi d=true):∃i,d= .int i:=by cases d<;>simp[cu]at h;exact⟨_,Z⟩
theorem any_map'{ds:List ah}{f:ah->Bool}:(ds.map f).any id=ds.any f:=by rw[List.any_map];rfl
inductive a4S(K:aa)(vs:List V)(H:Hp)(Q:VK):Prop |mk (m:V)(v:V)(rs:List Int)(es:List ah)(d:ah)(h0:vs=[m,v])(h1:RD K H m ((.tuple (.tuple (rs.map PyData.int)::es))))(h2:RD K H v d)(h3:rs.length<=3)(h4:∀H',aA H H'->Q (.bl (lT rs.length d)) H')
def Hf(K:aa):Sp:=λvs H Q _=>a4S K vs H Q
abbrev Bw:Stmt:=top 35
theorem Jk:bh ["machine","thing","rails"] ["machine","thing"] (aP Bw):=bo aJ
theorem VM(F:FA K mg "are_steps" Bw)(B:bw mg)(M0:GV mg "MOST_STEPS" (.int 100))(gH:aE P w K mg au "is_whole_within" 2 (kJ K)):aE P w K mg au "are_steps" 3 (Hf K):=by
 refine F.has Jk (λvs H Q E h=>?_) (λ_ _ _ _ _ _=>da λ_ _=>rfl) (λf aG A outer s H vs Q E hr h=>?_)
 ·obtain⟨m,v,rs,es,d,rfl,_⟩:=h
  rfl
 ·obtain⟨m,v,rs,es,d,rfl,rm,rd,l3,k⟩:=h
  have nd:=Jk.nd;refine⟨_,(aF (pS 2 nd (px K (pv 0) aB)) (aF (bB (PW.pt (gX (dg (cD (kR K B (ao (pv 1) (ao (jV (x:="tuple") (v:=.ty "tuple") Z (B.at "tuple") gD rfl) ay))))) (gW (bK (lV K rfl hr.units) (eB K B (ao (pv 1) ay)) (eB K B (ao (pv 2) ay)) (bE _))))) (aI (aR gr)) bC) (aF (bB (dg (cD (cw (x:="all") (pN K Z Z) Z (B.at "all") sF (ao (dA (N:=["step"]) (js:=[none]) rfl rfl rfl (jb K rfl (pv 1)) (λ_ _ _ _ _=>(ba 0 (gu _))) (λ_ _ _ _ _=>cX) (λ_ _ _ _ _=>(pf gH hr (ao (pv 0) (ao (kQ kI (cK (x:="MOST_STEPS") rfl M0)) (ao (cK (x:="MOST_STEPS") rfl M0) ay)))))) ay)))) (aI (aR gr)) bC) (aI (aR (cw (x:="any") (a40 K Z Z) Z (B.at "any") P0 (ao (dA (N:=["step"]) (js:=[none]) rfl rfl rfl (jb K rfl (pv 1)) (λ_ _ _ _ _=>(ba 0 (gu _))) (λ_ _ _ _ _=>cX) (λ_ _ _ _ _=>(jy (lV K rfl hr.units) (pv 0) aB (bE _)))) ay))))))),?_⟩;obtain⟨am,ar,ym,rfl,hm,ZC⟩:=WS rm;refine⟨_,Z,.inr ⟨am,_,0,_,Z,Z,hm,cM (fF 0) Z,?_⟩⟩;rcases sV d with⟨ds,rfl⟩|⟨ht,hn⟩
  ·refine⟨_,Z,.inl ⟨_,_,"tuple",true,Z,rd.ty,az,mP,_,Z,bc ?_⟩⟩
   obtain⟨av,xs,rfl,hx,hd⟩:=rd.cj;have hl:=hd.length;refine⟨_,Z,av,_,Z,.inr hx,_,Z,ar,_,Z,.inr ZC,.inl ⟨_,_,Z,Z,_,Z,?_⟩⟩;have k:∀H',aA H H'->Q (.bl ((ds.length==rs.length&&ds.all (cu (-100) 100))&&ds.any oU)) H':=k;have e0:(!decide ((xs.length:Int)=((rs.map V.int).length:Int)))= !(ds.length==rs.length):=by rw[hl,bD];congr 1;rw[j6];simp;lia
   rw[e0];cases e:(ds.length==rs.length)with |false=>rw[e,fY,fY]at k;exact bF (k H (aA.refl _)) |true=>
    rw[e,fX]at k;refine bc ?_;have el:ds.length=rs.length:=dj.mp e;refine⟨_,Z,av,Z,⟨_,hx⟩,λD H0 nw=>?_⟩;refine yQ (xs:=xs) (bs:=ds.map (cu (-100) 100)) [] hx nw (by rw[bD,hl]) aw ?_ ?_
    ·intro i x b H2 Q' ex eb s2 hq
     obtain⟨d,ed,rfl⟩:=xF eb;obtain⟨x',ip,rx⟩:=hd.get i ed;rw[ex]at ip;cases ip;exact⟨_,Z,_,Z,_,d,-100,100,Z,RD.mono s2 _ rx,hq _ (aA.refl _)⟩
    ·intro H2 s2 d2
     refine⟨D,_,Z,aH.of d2,_,Z,?_⟩;rw[all_map];cases e1:ds.all (cu (-100) 100)with |false=>rw[e1,fY]at k;exact bF (k H2 s2) |true=>
      rw[e1,fX]at k;refine bc ⟨_,Z,av,Z,⟨_,hx.go s2⟩,λD2 H3 n3=>?_⟩;refine yQ (xs:=xs) (bs:=ds.map oU) [] (hx.go s2) n3 (by rw[bD,hl]) aw ?_ ?_
      ·intro i x b H4 Q' ex eb s4 hq
       obtain⟨d,ed,rfl⟩:=xF eb;obtain⟨x',ip,rx⟩:=hd.get i ed;rw[ex]at ip;cases ip;obtain⟨z,rfl⟩:=XU (fb.mp e1 d (fP ed));cases rx.int_inv;refine⟨_,Z,.inl ⟨_,_,Z,Z,?_⟩⟩;show Q' (.bl (!decide (z=0))) H4;rw[W0];exact hq _ (aA.refl _)
      ·intro H4 s4 d4
       refine⟨D2,_,Z,aH.of d4,?_⟩;rw[any_map'];exact k H4 (s2.trans s4)
  ·have e:lT rs.length d=false:=by cases d<;>first|rfl|exact absurd rfl (hn _)
   rw[e]at k;refine⟨_,Z,.inl ⟨_,_,"tuple",false,Z,rd.ty,az,ht,_,Z,bF ?_⟩⟩;exact k H (aA.refl _)
theorem item_cases(n:Nat)(d:ah):(∃wd a b,d= .tuple [wd,a,b])\/(∃wd v,d= .tuple [wd,v])\/(∃ds,d= .tuple ds/\ds.length≠3/\ds.length≠2/\hW n d=false)\/(gP (jO d) "tuple"=false/\hW n d=false):=by
 rcases sV d with⟨ds,rfl⟩|⟨ht,hn⟩
 ·match ds with |[r,a,b]=>exact .inl ⟨r,a,b,Z⟩ |[r,a]=>exact .inr (.inl ⟨r,a,Z⟩) |[]=>exact .inr (.inr (.inl ⟨_,Z,by simp,by simp,by simp[hW]⟩)) |[_]=>exact .inr (.inr (.inl ⟨_,Z,by simp,by simp,by simp[hW]⟩)) |_::_::_::_::_=>exact .inr (.inr (.inl ⟨_,Z,by simp,by simp,by simp[hW]⟩))
 ·exact .inr (.inr (.inr ⟨ht,by cases d<;>first|rfl|exact absurd rfl (hn _)⟩))
inductive a5r(K:aa)(vs:List V)(H:Hp)(Q:VK):Prop |mk (m:V)(v:V)(rs:List Int)(es:List ah)(d:ah)(h0:vs=[m,v])(h1:RD K H m ((.tuple (.tuple (rs.map PyData.int)::es))))(h2:RD K H v d)(h3:rs.length<=3)(h4:cA 8 d)(h5:oz d=true)(h6:∀H',aA H H'->Q (.bl (hW rs.length d)) H')
def wN(K:aa):Sp:=λvs H Q _=>a5r K vs H Q
theorem Cz{ds:List ah}(h:cA 8 (.tuple ds)){d:ah}(hd:d∈ds):cA 8 d:=((cA.cj (n:=7) h) d hd).le az
theorem Rx{ds:List ah}(h:oz (.tuple ds)=true){d:ah}(hd:d∈ds):fH d=true:=fb.mp (show ds.all fH=true from h) d hd
abbrev Bj:Stmt:=top 31
theorem J6:bh ["machine","thing","word","steps","speed","value"] ["machine","thing"] (aP Bj):=bo aJ
theorem Vx(F:FA K mg "is_item" Bj)(B:bw mg)(E4:GV mg "GREATEST_SPEED" (.int 20))(gH:aE P w K mg au "is_whole_within" 2 (kJ K))(Zz:aE P w K mg au "are_steps" 3 (Hf K))(YX:aE P w K mg au "is_short_item" 3 (Hg K)):aE P w K mg au "is_item" 4 (wN K):=by
 refine F.has J6 (λvs H Q E h=>?_) (λ_ _ _ _ _ _=>da λ_ _=>rfl) (λf aG A outer s H vs Q E hr h=>?_)
 ·obtain⟨m,v,rs,es,d,rfl,_⟩:=h
  rfl
 ·obtain⟨m,v,rs,es,d,rfl,rm,rd,l3,oS,sh,k⟩:=h
  have nd:=J6.nd;refine⟨_,(aF (bB (dg (cD (kR K B (ao (pv 1) (ao (jV (x:="tuple") (v:=.ty "tuple") Z (B.at "tuple") gD rfl) ay))))) (aI (aR gr)) bC) (aF (bB (bK (dC K Z hr.units) (eB K B (ao (pv 1) ay)) aB (bE _)) (aF (eu (pv 1) (dS K Z (n:=3) Z (bM (ba 2 nd) (bM (ba 3 nd) (bM (ba 4 nd) dR))))) (aI (aR (qA (jy (dC K Z hr.units) (pv 2) bu (bE _)) (qA (pf Zz hr (ao (pv 0) (ao (pv 3) ay))) (qx (pf gH hr (ao (pv 4) (ao aB (ao (cK (x:="GREATEST_SPEED") Z E4) ay)))))))))) bC) (aF (bB (bK (dC K Z hr.units) (eB K B (ao (pv 1) ay)) aB (bE _)) (aF (eu (pv 1) (dS K Z (n:=2) Z (bM (ba 2 nd) (bM (ba 5 nd) dR)))) (aI (aR (pf YX hr (ao (pv 2) (ao (pv 5) ay)))))) bC) (aI (aR gr))))),?_⟩;rcases item_cases rs.length d with⟨wd,a,b,rfl⟩|⟨wd,a,rfl⟩|⟨ds,rfl,h3,h2,hf⟩|⟨ht,hf⟩
  ·refine⟨_,Z,.inl ⟨_,_,"tuple",true,Z,rd.ty,az,mP,_,Z,bc ?_⟩⟩
   obtain⟨p,xs,rfl,hx,hd⟩:=rd.cj;obtain⟨u1,ys,rfl,r1,hd⟩:=hd.cons_inv;obtain⟨u2,ys,rfl,r2,hd⟩:=hd.cons_inv;obtain⟨u3,ys,rfl,r3,hd⟩:=hd.cons_inv;cases hd.nil_inv;have k:∀H',aA H H'->Q (.bl (fu "line" wd&&(lT rs.length a&&cu 1 20 b))) H':=k;refine⟨_,Z,p,_,Z,.inr hx,.inl ⟨_,_,Z,Z,_,Z,bF ?_⟩⟩;refine⟨_,Z,p,_,Z,hx,Z,_,_,Z,_,_,Z,_,_,Z,Z,?_⟩;refine⟨_,Z,.inr ⟨_,_,r1,bP _,tD (Cz oS (by simp)),aJ,_,Z,?_⟩⟩;rw[yC];cases e1:fu "line" wd with |false=>rw[e1,fY]at k;exact bc (k H (aA.refl _)) |true=>rw[e1,fX]at k;refine bF ⟨_,Z,_,Z,_,_,rs,es,a,Z,rm,r2,l3,λH1 s1=>⟨_,Z,?_⟩⟩;cases e2:lT rs.length a with |false=>rw[e2,fY]at k;exact bc (k H1 s1) |true=>rw[e2,fX]at k;exact bF ⟨_,Z,_,b,1,20,Z,RD.mono s1 _ r3,k H1 s1⟩
  ·refine⟨_,Z,.inl ⟨_,_,"tuple",true,Z,rd.ty,az,mP,_,Z,bc ?_⟩⟩
   obtain⟨p,xs,rfl,hx,hd⟩:=rd.cj;obtain⟨u1,ys,rfl,r1,hd⟩:=hd.cons_inv;obtain⟨u2,ys,rfl,r2,hd⟩:=hd.cons_inv;cases hd.nil_inv;have k:∀H',aA H H'->Q (.bl (m5 wd a)) H':=k;refine⟨_,Z,p,_,Z,.inr hx,.inl ⟨_,_,Z,Z,_,Z,bc ?_⟩⟩;refine⟨_,Z,p,_,Z,.inr hx,.inl ⟨_,_,Z,Z,_,Z,bF ?_⟩⟩;refine⟨_,Z,p,_,Z,hx,Z,_,_,Z,_,_,Z,Z,?_⟩;exact⟨_,Z,_,Z,_,_,wd,a,Z,r1,r2,Cz oS (by simp),Cz oS (by simp),Rx sh (by simp),k⟩
  ·rw[hf]at k
   refine⟨_,Z,.inl ⟨_,_,"tuple",true,Z,rd.ty,az,mP,_,Z,bc ?_⟩⟩;obtain⟨p,xs,rfl,hx,hd⟩:=rd.cj;have hl:=hd.length;refine⟨_,Z,p,_,Z,.inr hx,.inl ⟨_,_,Z,Z,_,Z,?_⟩⟩;rw[show decide ((xs.length:Int)=3)=false from dP aw];refine bc ⟨_,Z,p,_,Z,.inr hx,.inl ⟨_,_,Z,Z,_,Z,?_⟩⟩;rw[show decide ((xs.length:Int)=2)=false from dP aw];exact bc (k H (aA.refl _))
  ·rw[hf]at k
   refine⟨_,Z,.inl ⟨_,_,"tuple",false,Z,rd.ty,az,ht,_,Z,bF ?_⟩⟩;exact k H (aA.refl _)
def xR(rs:List Int):ah->Bool | .tuple es=>es.length==rs.length&&((es.zip rs).map λp=>cu 0 p.2 p.1).all id |_=>false
inductive a5v(K:aa)(vs:List V)(H:Hp)(Q:VK):Prop |mk (m:V)(v:V)(rs:List Int)(ds:List ah)(d:ah)(h0:vs=[m,v])(h1:RD K H m (.tuple (.tuple (rs.map PyData.int)::ds)))(h2:RD K H v d)(h3:rs.length<=3)(h4:∀H',aA H H'->Q (.bl (xR rs d)) H')
def tf(K:aa):Sp:=λvs H Q _=>a5v K vs H Q
theorem zip_get{es:List ah}{rs:List Int}{i:Nat}{b:Bool}(h:((es.zip rs).map λp=>cu 0 p.2 p.1)[i]? =some b):∃e r,es[i]? =some e/\rs[i]? =some r/\cu 0 r e=b:=by rw[bJ]at h;cases q:(es.zip rs)[i]? with |none=>rw[q]at h;cases h |some p=>rw[q]at h;obtain⟨e1,e2⟩:=nZ.mp q;exact⟨p.1,p.2,e1,e2,cW h⟩
theorem ints_get{rs:List Int}{i:Nat}{r:Int}(h:rs[i]? =some r):(rs.map V.int)[i]? =some (.int r):=by rw[bJ,h];rfl
abbrev Bg:Stmt:=top 22
theorem J3:bh ["machine","thing","rails"] ["machine","thing"] (aP Bg):=bo aJ
theorem Vu(F:FA K mg "is_place" Bg)(B:bw mg)(gH:aE P w K mg au "is_whole_within" 2 (kJ K)):aE P w K mg au "is_place" 3 (tf K):=by
 refine F.has J3 (λvs H Q E h=>?_) (λ_ _ _ _ _ _=>da λ_ _=>rfl) (λf aG A outer s H vs Q E hr h=>?_)
 ·obtain⟨m,v,rs,ds,d,rfl,_⟩:=h
  rfl
 ·obtain⟨m,v,rs,ds,d,rfl,rm,rd,l3,k⟩:=h
  have nd:=J3.nd;refine⟨_,(aF (pS 2 nd (px K (pv 0) aB)) (aF (bB (PW.pt (gX (dg (cD (kR K B (ao (pv 1) (ao (jV (x:="tuple") (v:=.ty "tuple") Z (B.at "tuple") gD rfl) ay))))) (gW (bK (lV K rfl hr.units) (eB K B (ao (pv 1) ay)) (eB K B (ao (pv 2) ay)) (bE _))))) (aI (aR gr)) bC) (aI (aR (cw (x:="all") (pN K Z Z) Z (B.at "all") sF (ao (dA (N:=["number","rail"]) (js:=[none,none]) rfl rfl rfl (kP K rfl false false rfl (B.at "zip") (ao (pv 1) (ao (pv 2) ay))) (λ_ _ _ _ _=>(dS K rfl (n:=2) rfl (bM (ba 0 (gb az)) (bM (ba 1 (gb az)) dR)))) (λ_ _ _ _ _=>cX) (λ_ _ _ _ _=>(pf gH hr (ao (pv 0) (ao aB (ao (pv 1) ay)))))) ay)))))),?_⟩;obtain⟨am,xm,rfl,hm,Zh⟩:=rm.cj;obtain⟨yr,ym,rfl,r1,a7v⟩:=Zh.cons_inv;obtain⟨ar,xr,rfl,xZ,Zg⟩:=r1.cj;cases Zg.eK;refine⟨_,Z,.inr ⟨am,_,0,_,Z,Z,hm,cM (fF 0) Z,?_⟩⟩;rcases sV d with⟨es,rfl⟩|⟨ht,hn⟩
  ·refine⟨_,Z,.inl ⟨_,_,"tuple",true,Z,rd.ty,az,mP,_,Z,bc ?_⟩⟩
   obtain⟨av,xs,rfl,hx,hd⟩:=rd.cj;have hl:=hd.length;refine⟨_,Z,av,_,Z,.inr hx,_,Z,ar,_,Z,.inr xZ,.inl ⟨_,_,Z,Z,_,Z,?_⟩⟩;have k:∀H',aA H H'->Q (.bl (es.length==rs.length&&((es.zip rs).map λp=>cu 0 p.2 p.1).all id)) H':=k;have e0:(decide ((xs.length:Int)=((rs.map V.int).length:Int)))=(es.length==rs.length):=by rw[hl,bD,j6];simp;lia
   rw[e0];cases e:(es.length==rs.length)with |false=>rw[e,fY]at k;exact bF (k H (aA.refl _)) |true=>
    rw[e,fX]at k;refine bc ?_;have el:es.length=rs.length:=dj.mp e;refine⟨_,Z,_,Z,av,ar,Z,⟨_,hx⟩,⟨_,xZ⟩,λD H0 nw=>?_⟩;refine NB (b1:=false) (b2:=false) (xs:=xs) (ys:=rs.map V.int) (bs:=(es.zip rs).map λp=>cu 0 p.2 p.1) [] rfl hx xZ nw (by rw[bD,bD,List.length_zip,hl]) (by rw[bD,List.length_zip];lia) ?_ ?_
    ·intro i x y b H2 Q' ex ey eb s2 hq
     obtain⟨e',r,ee,er,rfl⟩:=zip_get eb;obtain⟨x',ip,rx⟩:=hd.get i ee;rw[ex]at ip;cases ip;rw[ints_get er]at ey;cases ey;exact⟨_,Z,_,Z,_,e',0,r,Z,RD.mono s2 _ rx,hq _ (aA.refl _)⟩
    ·intro H2 s2 d2
     exact⟨D,_,Z,aH.of d2,k H2 s2⟩
  ·have e:xR rs d=false:=by cases d<;>first|rfl|exact absurd rfl (hn _)
   rw[e]at k;refine⟨_,Z,.inl ⟨_,_,"tuple",false,Z,rd.ty,az,ht,_,Z,bF ?_⟩⟩;exact k H (aA.refl _)
inductive a5f(K:aa)(vs:List V)(H:Hp)(Q:VK):Prop |mk (pw:_)(b:_)(pl:_)(ns:_)(h0:vs=[pw,.ref b])(h1:RD K H pw (cI pl))(h2:aQ K H b (ns.map V.int))(h3:ns.length=pl.length)(h4:pl.length<=1000)(h5:∀v' H',RD K H' v' (cI (iW pl ns))->aA H H'->Q v' H')
def wL(K:aa):Sp:=λvs H Q _=>a5f K vs H Q
abbrev AR:Stmt:=top 34
theorem IC:bh ["place","steps"] ["place","steps"] (aP AR):=bo aJ
theorem V9(F:FA K mg "moved" AR)(B:bw mg):aE P w K mg au "moved" 1 (wL K):=by
 refine F.has IC (λvs H Q E h=>?_) (λ_ _ _ _ _ _=>da λ_ _=>rfl) (λf aG A outer s H vs Q E hr h=>?_)
 ·obtain⟨pw,b,pl,ns,rfl,_⟩:=h
  rfl
 ·obtain⟨pw,b,pl,ns,rfl,rp,hb,ln,hz,k⟩:=h
  have nd:=IC.nd;refine⟨_,(aI (aR (cE (x:="tuple") (j7 K Z) Z (B.at "tuple") gD (ao (dA (N:=["number","step"]) (js:=[none,none]) rfl rfl rfl (kP K rfl false false rfl (B.at "zip") (ao (pv 0) (ao (pv 1) ay))) (λ_ _ _ _ _=>(dS K rfl (n:=2) rfl (bM (ba 0 (gb az)) (bM (ba 1 (gb az)) dR)))) (λ_ _ _ _ _=>cX) (λ_ _ _ _ _=>(aL dr (pv 0) (pv 1)))) ay)))),?_⟩;obtain⟨pa,rfl,hp⟩:=Tu rp;refine⟨_,Z,_,Z,pa,b,Z,⟨_,hp⟩,⟨_,hb⟩,λD H1 n1=>?_⟩;refine pJ (K:=K) (b1:=false) (b2:=false) (xs:=pl.map V.int) (ys:=ns.map V.int) (ds:=(iW pl ns).map PyData.int) [] rfl hp hb n1 (by simp[zc ln,ln]) (by rw[bD,zc ln];exact hz) (jZ _) ?_ ?_
  ·intro i x y d H2 Q' ex ey ed s2 hq
   obtain⟨m,em,rfl⟩:=ke ed;rw[bJ]at ex ey;cases e1:pl[i]? with |none=>rw[e1]at ex;cases ex |some u=>cases e2:ns[i]? with |none=>rw[e2]at ey;cases ey |some v=>rw[e1]at ex;rw[e2]at ey;cases ex;cases ey;rw[a49 e1 e2]at em;cases em;exact⟨_,Z,_,Z,_,_,Z,Z,hq _ _ (aA.refl _) (ek _)⟩
  ·intro H2 zs s2 d2 r2
   refine⟨D,_,Z,.inl ⟨aH.of d2,λt H3 n3=>?_⟩⟩;have et:=n3.at';rw[r2.eK]at et;exact k (.ref t) H3 (JY (aQ.of et)) (s2.trans n3.same)
inductive a5I(K:aa)(vs:List V)(H:Hp)(Q:VK):Prop |mk (pw:_)(iv:_)(pl:_)(d:_)(o:_)(h0:vs=[pw,iv])(h1:RD K H pw (cI pl))(h2:RD K H iv d)(h3:itR d o)(h4:(∀ns sp,o=some (ns,sp)->ns.length=pl.length))(h5:pl.length<=1000)(h6:∀v' H',RD K H' v' (cI (dD pl o))->aA H H'->Q v' H')
def ou(K:aa):Sp:=λvs H Q _=>a5I K vs H Q
abbrev Bt:Stmt:=top 33
theorem Ji:bh ["place","item"] ["place","item"] (aP Bt):=bo aJ
theorem VI(F:FA K mg "place_behind" Bt)(B:bw mg)(la:aE P w K mg au "is_line" 1 (qo K))(DN:aE P w K mg au "moved" 1 (wL K)):aE P w K mg au "place_behind" 2 (ou K):=by
 refine F.has Ji (λvs H Q E h=>?_) (λ_ _ _ _ _ _=>da λ_ _=>rfl) (λf aG A outer s H vs Q E hr h=>?_)
 ·obtain⟨pw,iv,pl,d,o,rfl,_⟩:=h
  rfl
 ·obtain⟨pw,iv,pl,d,o,rfl,rp,ri,it,hl,hz,k⟩:=h
  have nd:=Ji.nd;refine⟨_,(aI (aR (jc (cD (pf la hr (ao (pv 1) ay))) (pf DN hr (ao (pv 0) (ao (px K (pv 1) aB) ay))) (pv 0)))),?_⟩;refine⟨_,Z,iv,d,o,Z,ri,it,_,Z,?_⟩;cases o with |some q=>obtain⟨ns,sp⟩:=q;refine bF ?_;have ed:=jf it;subst ed;obtain⟨a,b,rfl,ha,hb⟩:=kW ri;exact⟨_,Z,_,Z,.inr ⟨a,_,1,.ref b,Z,Z,ha,Z,pw,b,pl,ns,Z,rp,hb,hl ns sp Z,hz,λv' H' r s=>k v' H' r s⟩⟩ |none=>refine bc ?_;exact⟨_,Z,k pw H rp (aA.refl _)⟩
end
end Lw
namespace Lw
open PySem PySem.Spec PyProof.Rows L2 Ln Wk
open Tm (numS numIn? figs isFig Free)
section
variable {P:af}{w:World}{K:aa}{mg:bf}{au:Heap}
def oV:Option Int->V |some i=>.int i |none=>.aZ
def oD:Option Int->ah |some i=>.int i |none=>.none
def rF:Str:="0123456789"
theorem a1x:∀c<128,decide (c∈rF.cps.toList)=isFig c:=by decide+kernel
theorem a1z:∀c∈rF.cps.toList,c<128:=by decide+kernel
theorem a1y(c:Nat):decide (c∈rF.cps.toList)=isFig c:=by
 by_cases h:c<128
 ·exact a1x c h
 ·rw[dP (λhc=>h (a1z c hc)),isFig,dP (show¬c<=57 by omega),vX]
inductive a5c(vs:List V)(H:Hp)(Q:VK):Prop |mk (z:Str)(h0:vs=[.str z])(h1:z.length<=640)(h2:∀H',aA H H'->Q (oV (numIn? z)) H')
def wK:Sp:=λvs H Q _=>a5c vs H Q
abbrev AQ:Stmt:=top 86
theorem IB:bh ["word","figures"] ["word"] (aP AQ):=bo aJ
theorem V6(F:FA K mg "number_in" AQ)(B:bw mg)(a04:GV mg "FIGURES" (.str rF)):aE P w K mg au "number_in" 1 wK:=by
 refine F.has IB (λvs H Q E h=>?_) (λ_ _ _ _ _ _=>cJ λ_=>rfl) (λf aG A outer s H vs Q E hr h=>?_)
 ·obtain⟨z,rfl,_⟩:=h
  rfl
 ·obtain⟨z,rfl,hl,k⟩:=h
  have nd:=IB.nd;have jo:sizeLine=16777216:=by decide
  refine⟨_,(aF (pS 1 nd (U3 K Z (pv 0) (ao bu ay))) (aF (bB (PW.pt (gX (bK qF (pv 1) bu (bE _)) (gW (dg (cD (cw (x:="all") (pN K Z Z) Z (B.at "all") sF (ao (dA (N:=["sign"]) (js:=[none]) rfl rfl rfl (K1 (pv 1)) (λ_ _ _ _ _=>(ba 0 (gu _))) (λ_ _ _ _ _=>cX) (λ_ _ _ _ _=>(jy Kg (pv 0) (cK (x:="FIGURES") rfl a04) (by with_unfolding_all rfl)))) ay))))))) (aI (aR g9)) bC) (aF (bB (PW.pt (C9 (bK qF (Ck Lq (pv 1) aB (λ_ _=>rfl)) bu (bE _)) (C8 (bK lO (pv 0) bu (bE _))))) (aI (aR g9)) bC) (aI (aR (cE (x:="int") a3C Z (B.at "int") PyProof.Rows.boot_int (ao (pv 0) ay))))))),?_⟩;refine⟨_,Z,Z,z,"-",Z,Z,bp,?_⟩;have ef:=Tm.Sr z;generalize hz:Txt.removeprefix z "-"=y at ef;unfold numIn? at k;rw[<-ef]at k;have hly:y.length<=z.length:=by
   have e1:y.cps.toList.length=(figs z).length:=by rw[ef]
   have e2:(figs z).length<=z.cps.toList.length:=by
    unfold figs;split
    ·rename_i h;rw[h];simp
    ·rename_i h _;exact bq _
   simpa[Str.length]using f9 (Nat.le_of_eq e1) e2
  refine⟨_,Z,Z,_,Z,?_⟩;refine eJ (λh0=>?_) (λh0=>?_)
  ·have hy:y="":=by simpa using h0
   rw[hy]at k;exact bF (k H (aA.refl _))
  ·have hy:y≠"":=by simpa using h0
   have cQ:y.cps.toList≠[]:=λe=>hy (Tm.EN (by rw[e];rfl));have he:y.cps.toList.isEmpty=false:=by cases h:y.cps.toList with|nil=>exact(cQ h).elim|cons=>rfl
   rw[he,Bool.false_or]at k;refine⟨_,Z,y,Z,λD H0 nw=>?_⟩;refine NC (f:=isFig) [] nw bp (λc H2 Q' hc s2 hq=>?_) (λH2 s2 d2=>?_)
   ·refine⟨_,Z,c,rF,Z,Z,?_⟩
    rw[a1y];exact hq _ (aA.refl _)
   ·refine⟨D,_,Z,aH.of d2,?_⟩
    rw[O8];refine⟨_,Z,?_⟩;cases hf:y.cps.toList.all isFig with |false=>rw[hf]at k;exact bF (k H2 s2) |true=>rw[hf]at k;refine bc ?_;obtain⟨n,hn⟩:=Tm.XS (z:=z) (by rw[<-ef];exact cQ) (by rw[<-ef];exact hf) bp;rw[hn]at k;cases hc:y.cps.toList with |nil=>exact(cQ hc).elim |cons c r=>
     refine⟨_,Z,y,0,c,Z,Z,bp,cM (fF 0) (by rw[hc];rfl),Z,_,Z,?_⟩;have e0:decide (y.cps.toList[0]? =some 48)=decide (V.str ⟨#[c]⟩=V.str "0"):=by
      rw[hc,j6];simp only[vB];refine⟨λh=>?_,λh=>?_⟩
      ·have h:c=48:=by simpa using h
       rw[h];decide+kernel
      ·have h:(⟨#[c]⟩:Str)="0":=by simpa using h
       have h2:[c]=[48]:=(jL (λz:Str=>z.cps.toList) h).trans aJ;simpa using h2
     rw[e0]at k;have e1:(!decide (z="0"))= !decide (V.str z=V.str "0"):=by simp
     rw[e1]at k;cases h1:decide (V.str ⟨#[c]⟩=V.str "0")with
     |true=>rw[h1,fX]at k;refine bF ⟨_,Z,Z,_,Z,?_⟩;cases h2: !decide (V.str z=V.str "0")with |true=>rw[h2]at k;exact bF (k H2 s2) |false=>rw[h2]at k;exact bc ⟨_,Z,z,n,Z,hn,hl,k H2 s2⟩
     |false=>rw[h1,fY]at k;exact bc ⟨_,Z,z,n,Z,hn,hl,k H2 s2⟩
inductive a5a(K:aa)(vs:List V)(H:Hp)(Q:VK):Prop |mk (l:Addr)(zs:List Str)(h0:vs=[.ref l])(h1:aH K H l (zs.map V.str))(h2:zs.length<=1000)(h3:(∀z∈zs,z.length<=640))(h4:∀p H',aA H H'->H p=none->H' p=some (.lst (zs.map λz=>oV (numIn? z)))->Q (.ref p) H')
def wJ(K:aa):Sp:=λvs H Q _=>a5a K vs H Q
theorem xt{H:Hp}(o:Option Int):RD K H (oV o) (oD o):=by cases o with |none=>exact qr |some i=>exact ek _
theorem VY{H:Hp}{v:V}{o:Option Int}(h:RD K H v (oD o)):v=oV o:=by cases o with |none=>exact h.CK |some i=>exact h.int_inv
theorem Ks{H:Hp}:∀{xs:List V}{zs:List Str},aK K H xs (zs.map λz=>oD (numIn? z))->xs=zs.map λz=>oV (numIn? z) |xs,[],h=>h.nil_inv |xs,n::ns,h=>by obtain⟨y,ys,rfl,h1,h2⟩:=h.cons_inv;rw[VY h1,Ks h2];rfl
theorem VZ(zs:List Str):cF (zs.map λz=>oD (numIn? z))=true:=iL.mpr λd hd=>by obtain⟨z,_,rfl⟩:=cB.mp hd;cases numIn? z<;>rfl
abbrev AM:Stmt:=top 85
theorem Iy:bh ["words"] ["words"] (aP AM):=bo aJ
theorem V5(F:FA K mg "numbers_in" AM)(B:bw mg)(DL:aE P w K mg au "number_in" 1 wK):aE P w K mg au "numbers_in" 2 (wJ K):=by
 refine F.has Iy (λvs H Q E h=>?_) (λ_ _ _ _ _ _=>cJ λ_=>rfl) (λf aG A outer s H vs Q E hr h=>?_)
 ·obtain⟨l,zs,rfl,_⟩:=h
  rfl
 ·obtain⟨l,zs,rfl,hl,hn,hz,k⟩:=h
  have nd:=Iy.nd;refine⟨_,(aI (aR (dA (N:=["word"]) (js:=[none]) Z Z Z (oM K Z (pv 0)) (λ_ _ _ _ _=>(ba 0 (gu _))) (λ_ _ _ _ _=>cX) (λ_ _ _ _ _=>(pf DL hr (ao (pv 0) ay)))))),?_⟩;refine⟨_,Z,l,Z,⟨_,hl⟩,λD H1 n1=>?_⟩;refine vb (K:=K) (ds:=zs.map λz=>oD (numIn? z)) _ hl n1 (by simp) (by simp;omega) (VZ _) ?_ ?_
  ·intro i x d H2 Q' ex ed s2 hq
   rw[bJ]at ex ed;obtain⟨z,ez,rfl⟩:=vK.mp ex;rw[ez]at ed;cases ed;exact⟨_,Z,z,Z,hz z (fP ez),λH3 s3=>hq _ _ s3 (xt _)⟩
  ·intro H2 ys s2 d2 r2
   rw[Ks r2]at d2;exact k D H2 s2 n1.no d2
def pQ(z:Str):Prop:=∀c∈z.cps.toList,c<0x110000
theorem Cy{n:Nat}{z:Str}(h:pQ z):cA n (.str z):=⟨by show PyData.strOk z=true;unfold PyData.strOk;rw[Po];exact λc hc=>bR (h c (by simpa using hc)),eQ _⟩
theorem M8{c x:Nat}:∀{as:List (List Nat)}{a:List Nat},a∈as->x∈a->x∈Tm.gl c as
 |[],a,h,_=>nomatch h |[b],a,h,hx=>by rw[e9.mp h]at hx;exact hx |b::d::r,a,h,hx=>by
  show x∈b++c::Tm.gl c (d::r);rcases bS.mp h with rfl|h
  ·exact FU _ hx
  ·exact j4 _ (.tail _ (M8 h hx))
theorem M9{c:Nat}:∀{as:List (List Nat)}{a:List Nat},a∈as->a.length<=(Tm.gl c as).length
 |[],a,h=>nomatch h |[b],a,h=>by rw[e9.mp h];exact bq _ |b::d::r,a,h=>by
  show a.length<=(b++c::Tm.gl c (d::r)).length;rw[iC,fW];rcases bS.mp h with rfl|h
  ·omega
  ·have:=M9 (c:=c) h;omega
theorem GX(z:Str)(c:Nat):Tm.gl c ((Txt.split z ⟨#[c]⟩).map λy=>y.cps.toList)=z.cps.toList:=by rw[<-Tm.Ek,StrLaws.join_split]
theorem Rf{z y:Str}{c:Nat}(h:pQ z)(hy:y∈Txt.split z ⟨#[c]⟩):pQ y:=λx hx=>h x (by rw[<-GX z c];exact M8 (cB.mpr ⟨y,hy,Z⟩) hx)
theorem split_le{z y:Str}{c:Nat}(hy:y∈Txt.split z ⟨#[c]⟩):y.length<=z.length:=by have:=M9 (c:=c) (cB.mpr ⟨y,hy,Z⟩:y.cps.toList∈(Txt.split z ⟨#[c]⟩).map λy=>y.cps.toList);rw[GX]at this;simpa[Str.length]using this
theorem oq:(" ":Str)=⟨#[32]⟩:=by decide+kernel
def nI (z:Str):ah:=oD (numIn? z)
def fm:List Str->ah |[]=>.none |w::rest=>if w="line" then(match rest with |[]=>.none |r::rs=>.tuple [.str w,.tuple (((r::rs).map nI).take rs.length),((r::rs).map nI).getLastD .none]) else match rest with |[r]=>.tuple [.str w,if w="wait" then nI r else .str r] |_=>.none
def qU(n:Nat)(z:Str):ah:=bif hW n (fm (Txt.split z " "))then fm (Txt.split z " ")else .none
theorem Kr{H:Hp}:∀(zs:List Str),aK K H (zs.map λz=>oV (numIn? z)) (zs.map nI) |[]=>by simp[aK] |z::zs=>by rw[qf,qf,aK];exact⟨_,_,Z,xt _,Kr zs⟩
theorem oG{H:Hp}{x:V}{xs:List V}{d:ah}{ds:List ah}(h:RD K H x d)(r:aK K H xs ds):aK K H (x::xs) (d::ds):=by rw[aK];exact⟨_,_,Z,h,r⟩
theorem BR{H:Hp}:aK K H [] []:=by simp[aK]
theorem CQ{n:Nat}(z:Str):cA n (nI z):=by unfold nI;cases numIn? z with |none=>exact .aZ |some i=>exact .int i
theorem KO(z:Str):fH (nI z)=true:=by unfold nI;cases numIn? z<;>rfl
theorem Gu:fm ["line"]= .none:=by unfold fm;dsimp only;rw[aU rfl]
theorem zP{r:Str}{rs:List Str}:fm ("line"::r::rs)= .tuple [.str "line",.tuple (((r::rs).map nI).take rs.length),((r::rs).map nI).getLastD .none]:=by unfold fm;dsimp only;rw[aU rfl]
theorem wz{w r:Str}(h:w≠"line"):fm [w,r]= .tuple [.str w,if w="wait" then nI r else .str r]:=by unfold fm;dsimp only;rw[aV h]
theorem zO{w:Str}{ws:List Str}(h:w≠"line")(hl:ws.length≠1):fm (w::ws)= .none:=by
 unfold fm;dsimp only;rw[aV h];split
 ·exact(hl Z).elim
 ·rfl
theorem Qf{ws:List Str}(h:∀w∈ws,pQ w/\w.length<=640):cA 8 (fm ws)/\oz (fm ws)=true:=by cases ws with |nil=>exact⟨.aZ,Z⟩ |cons w rest=>
 obtain⟨hw,hl⟩:=h w (.head _);have sw:fH (.str w)=true:=bR bp;by_cases hx:w="line"
 ·subst hx
  cases rest with |nil=>rw[Gu];exact⟨.aZ,Z⟩ |cons r rs=>
   rw[zP];have hm:∀d∈(r::rs).map nI,cA 0 d:=λd hd=>by obtain⟨z,_,rfl⟩:=cB.mp hd;exact CQ z
   have LR:cA 0 (((r::rs).map nI).getLastD .none)/\fH (((r::rs).map nI).getLastD .none)=true:=by rw[P7];cases e:((r::rs).map nI).getLast? with |none=>exact⟨.aZ,Z⟩ |some d=>obtain⟨z,_,rfl⟩:=cB.mp (List.mem_of_getLast? e);exact⟨CQ z,KO z⟩
   have hs:fU 2 [.str "line",.tuple (((r::rs).map nI).take rs.length),((r::rs).map nI).getLastD .none]:=λd hd=>by
    simp only[bS,eR,jK]at hd;rcases hd with rfl|rfl|rfl
    ·exact Cy hw
    ·exact(fU.tup (n:=0) λd hd=>hm d (zE hd)).le az
    ·exact LR.1.le az
   refine⟨hs.tup.le az,?_⟩;show[_,_,_].all fH=true;simp only[sL,G1,G4,sw,LR.2];rfl
 ·match rest,h with
  |[],_=>rw[zO hx (by simp)];exact⟨.aZ,Z⟩ |[r],h=>
   rw[wz hx];obtain⟨hr,hlr⟩:=h r (.tail _ (.head _));have hv:cA 0 (if w="wait" then nI r else .str r)/\fH (if w="wait" then nI r else .str r)=true:=by
    split
    ·exact⟨CQ r,KO r⟩
    ·exact⟨Cy hr,bR bp⟩
   have hs:fU 1 [.str w,if w="wait" then nI r else .str r]:=λd hd=>by
    simp only[bS,eR,jK]at hd;rcases hd with rfl|rfl
    ·exact Cy hw
    ·exact hv.1.le az
   refine⟨hs.tup.le az,?_⟩;show[_,_].all fH=true;simp only[sL,G1,G4,sw,hv.2] |_::_::_,_=>rw[zO hx (by simp)];exact⟨.aZ,Z⟩
inductive a5q(K:aa)(vs:List V)(H:Hp)(Q:VK):Prop |mk (m:V)(rs:List Int)(es:List ah)(z:Str)(h0:vs=[m,.str z])(h1:RD K H m (.tuple (.tuple (rs.map PyData.int)::es)))(h2:cF es=true)(h3:rs.length<=3)(h4:z.length<=600)(h5:pQ z)(h6:∀v H',aA H H'->RD K H' v (qU rs.length z)->Q v H')
def A5(K:aa):Sp:=λvs H Q _=>a5q K vs H Q
abbrev Ba:Stmt:=top 84
theorem IV:bh ["machine","row","word","rest","thing","numbers"] ["machine","row"] (aP Ba):=bo aJ
theorem Vo(F:FA K mg "item_in" Ba)(B:bw mg)(DL:aE P w K mg au "number_in" 1 wK)(DK:aE P w K mg au "numbers_in" 2 (wJ K))(DS:aE P w K mg au "is_item" 4 (wN K)):aE P w K mg au "item_in" 5 (A5 K):=by
 refine F.has IV (λvs H Q E h=>?_) (λ_ _ _ _ _ _=>da λ_ _=>rfl) (λf aG A outer s H vs Q E hr h=>?_)
 ·obtain⟨m,rs,es,z,rfl,_⟩:=h
  rfl
 ·obtain⟨m,rs,es,z,rfl,rm,ne,l3,hz,tz,k⟩:=h
  have nd:=IV.nd;have jo:sizeLine=16777216:=by decide
  have p5:∀y∈Txt.split z " ",pQ y/\y.length<=640:=λy hy=>by rw[oq]at hy;have:=split_le hy;exact⟨Rf tz hy,bp⟩
  have qY:=split_len z " ";refine⟨_,(aF (eu (Cm K Z (pv 1) (ao bu ay)) (Ci K Z Z (ba 2 nd) (ba 3 nd))) (aF (pS 4 nd g9) (aF (jT (bB (bK qF (pv 2) bu (bE _)) (aF (pS 5 nd (pf DK hr (ao (pv 3) ay))) (aI (pS 4 nd (jc (xb K Z (pv 5)) (eA (ao (pv 2) (ao (cE (x:="tuple") (j7 K Z) Z (B.at "tuple") gD (ao (tR (tw K rfl) (pv 5) tQ (tP (kQ kI aB))) ay)) (ao (px K (pv 5) (kQ kI aB)) ay)))) g9)))) (aI (bB (bK qF (eB K B (ao (pv 3) ay)) aB (bE _)) (aI (pS 4 nd (eA (ao (pv 2) (ao (jc (bK qF (pv 2) bu (bE _)) (pf DL hr (ao (px K (pv 3) aB) ay)) (px K (pv 3) aB)) ay))))) bC)))) (aI (aR (jc (cD (pf DS hr (ao (pv 0) (ao (pv 4) ay)))) (pv 4) g9)))))),?_⟩;refine⟨_,Z,Z,z," ",Z,Z,aJ,bp,λl H1 n1=>?_⟩;obtain⟨x,ws,ew⟩:∃x ws,Txt.split z " "=x::ws:=by cases e:Txt.split z " " with |nil=>exact(Tm.GU _ _ e).elim |cons x ws=>exact⟨x,ws,Z⟩
  unfold qU at k;rw[ew]at n1 p5 qY k;rw[fW]at qY;refine⟨l,.str x,ws.map V.str,Z,aH.of n1.at',by rw[bD];omega,λp H2 n2=>?_⟩;have s2:=n1.same.trans n2.same;have xV:∀y∈ws,y.length<=640:=λy hy=>(p5 y (.tail _ hy)).2;refine⟨λO H3=>∃t w5,O=[some m,some (.str z),some (.str x),some (.ref p),some t,w5]/\aA H H3/\RD K H3 t (fm (x::ws)),?_,?_⟩
  ·refine⟨_,Z,Z,_,Z,?_⟩
   refine eJ (λh0=>?_) (λh0=>?_)
   ·have hx:x="line":=by simpa using h0
    subst hx;refine⟨_,Z,p,ws,Z,aH.of n2.at',bp,xV,λq H3 s3 nq e3=>?_⟩;refine⟨_,Z,!(ws.map λz=>oV (numIn? z)).isEmpty,.inl ⟨_,aH.of e3,Z⟩,?_⟩;cases ws with |nil=>refine bc ⟨.aZ,_,Z,s2.trans s3,?_⟩;rw[Gu];exact qr |cons r tK=>
     refine bF ⟨_,Z,?_⟩;refine⟨_,Z,1,Z,_,Z,q,_,Z,.inl ⟨aH.of e3,λq2 H4 n4=>?_⟩⟩;rw[Nu]at n4;have Wu:=n4.at';refine⟨q2,_,Z,.inl ⟨aH.of Wu,λq3 H5 n5=>?_⟩⟩;obtain⟨v,ev⟩:∃v,((r::tK).map λz=>oV (numIn? z)).getLast? =some v:=⟨_,P8 (by simp)⟩;have e5:=n5.same _ _ (n4.same _ _ e3);refine⟨_,Z,1,Z,.inl ⟨q,_,-1,v,Z,Z,aH.of e5,O2 ev,?_⟩⟩;refine⟨by show 3<=sizeLine;omega,λq6 H6 n6=>?_⟩;have s6:=(((s2.trans s3).trans n4.same).trans n5.same).trans n6.same;refine⟨_,_,Z,s6,?_⟩;rw[zP];have el:((r::tK).map nI).getLastD .none=oD (numIn? ((r::tK).getLast (by simp))):=by rw[P7,List.getLast?_map,P8 (by simp)];rfl
     have evv:v=oV (numIn? ((r::tK).getLast (by simp))):=by rw[List.getLast?_map,P8 (by simp)]at ev;exact(cW ev).symm
     refine eX (aQ.of n6.at') (oG (bP _) (oG ?_ (oG ?_ BR)))
     ·refine eX (aQ.of (n6.same _ _ n5.at')) ?_
      rw[bD,fW,Nat.add_sub_cancel];exact(Kr (r::tK)).take _
     ·rw[el,evv];exact xt _
   ·have hx:x≠"line":=by simpa using h0
    refine⟨_,Z,p,_,Z,.inl (aH.of n2.at'),Z,_,Z,?_⟩;refine eJ (λh1=>?_) (λh1=>?_)
    ·have km:ws.length=1:=by have h1:=lE h1;rw[bD]at h1;injection h1 with h1;omega
     match ws,km,n2,xV,k with
     |[r],_,n2,xV,k=>
      refine⟨_,Z,_,Z,Z,_,Z,?_⟩;refine eJ (λh2=>?_) (λh2=>?_)
      ·have Dv:x="wait":=by simpa using h2
       refine⟨_,Z,.inl ⟨p,_,0,.str r,Z,Z,aH.of n2.at',Z,?_⟩⟩;refine⟨r,Z,xV r (.head _),λH3 s3=>?_⟩;refine⟨by show 2<=sizeLine;omega,λq6 H6 n6=>?_⟩;refine⟨_,_,Z,(s2.trans s3).trans n6.same,?_⟩;rw[wz hx,aU Dv];exact eX (aQ.of n6.at') (oG (bP _) (oG (xt _) BR))
      ·have Dv:x≠"wait":=by simpa using h2
       refine⟨_,Z,.inl ⟨p,_,0,.str r,Z,Z,aH.of n2.at',Z,?_⟩⟩;refine⟨by show 2<=sizeLine;omega,λq6 H6 n6=>?_⟩;refine⟨_,_,Z,s2.trans n6.same,?_⟩;rw[wz hx,aV Dv];exact eX (aQ.of n6.at') (oG (bP _) (oG (bP _) BR))
    ·have km:ws.length≠1:=λe=>h1 (bR (by rw[bD,e];rfl))
     refine⟨.aZ,_,Z,s2,?_⟩;rw[zO hx km];exact qr
  ·rintro O H3 ⟨t,w5,rfl,s3,rt⟩
   have ok:=Qf (ws:=x::ws) p5;refine⟨_,Z,_,Z,m,t,rs,es,fm (x::ws),Z,RD.mono s3 _ rm,rt,l3,ok.1,ok.2,λH4 s4=>⟨_,Z,?_⟩⟩;cases hi:hW rs.length (fm (x::ws))with |true=>rw[hi]at k;exact bF ⟨_,Z,k _ _ (s3.trans s4) (RD.mono s4 _ rt)⟩ |false=>rw[hi]at k;exact bc (k _ _ (s3.trans s4) qr)
end
end Lw
set_option maxHeartbeats 2000000
namespace Lw
open PySem PySem.Spec PyProof.Rows L2 Ln Wk
open Tm (numS numIn? figs isFig Free)
section
variable {P:af}{w:World}{K:aa}{mg:bf}{au:Heap}
def sP:ah->Str | .int i=>numS i | .str z=>z |_=>Str.empty
def jA(ns:List Int):Str:=Txt.join " " (ns.map numS)
def me(a b:Int):Str:=if b=1 then numS a else numS a++"/"++numS b
def cY:ah->Str | .tuple [.str _,.tuple xs,.int sp]=>"line "++Txt.join " " (xs.map sP)++" "++numS sp | .tuple [.str w,u]=>w++" "++sP u |_=>Str.empty
def Nm (i:Int):Prop:=i.natAbs<10^40
def mz(w:Str):Prop:=w="wait"\/w="tool"\/w="mark"
def TI(d:ah):Prop:=(∃ns sp,d=du ns sp/\ns.length<=3/\(∀n∈ns,Nm n)/\Nm sp)\/(∃w i,d= .tuple [.str w,.int i]/\mz w/\Nm i)\/∃w z,d= .tuple [.str w,.str z]/\mz w/\z.length<=100
theorem WL(ns:List Int):(ns.map PyData.int).map sP=ns.map numS:=by rw[vP];rfl
theorem xP(ns:List Int)(sp:Int):cY (du ns sp)="line "++jA ns++" "++numS sp:=by show Str.ofString "line "++Txt.join " " ((ns.map PyData.int).map sP)++" "++numS sp=_;rw[WL];rfl
theorem fq{i:Int}(h:Nm i):(numS i).length<=41:=Gk h
theorem CF{ns:List Int}(h:∀n∈ns,Nm n)(hl:ns.length<=3):(jA ns).length<=126:=by
 have:=xN " " (B:=41) (ns.map numS) (λz hz=>by obtain⟨n,hn,rfl⟩:=cB.mp hz;exact fq (h n hn));rw[bD]at this;have e:Str.length " "=1:=by decide+kernel
 rw[e]at this;unfold jA;omega
theorem wm{w:Str}(h:mz w):w.length=4:=by rcases h with rfl|rfl|rfl<;>decide+kernel
theorem uo{d:ah}(h:TI d):(cY d).length<=400:=by
 have e1:Str.length " "=1:=by decide+kernel
 have e2:Str.length "line "=5:=by decide+kernel
 rcases h with⟨ns,sp,rfl,hl,hb,hs⟩|⟨w,i,rfl,hw,hi⟩|⟨w,z,rfl,hw,hz⟩
 ·rw[xP]
  have h1:=CF hb hl;have h2:=fq hs;simp only[dZ];omega
 ·show(w++" "++numS i).length<=400
  have h2:=fq hi;have h3:=wm hw;simp only[dZ];omega
 ·show(w++" "++z).length<=400
  have h3:=wm hw;simp only[dZ];omega
theorem qS:SeqAt.shaped (.str "line")=true:=by decide+kernel
theorem yD(x y:Str):PyData.eqv (.str x) (.str y)=decide (x=y):=by show(x==y)=decide (x=y);rw[j6];simp
theorem zN{H:Hp}{v:V}{d:ah}(h:RD K H v d)(i:TI d):(∃ns sp a b,d=du ns sp/\v= .ref a/\aQ K H a [.str "line",.ref b,.int sp]/\RD K H (.ref b) (.tuple (ns.map PyData.int))/\ns.length<=3/\(∀n∈ns,Nm n)/\Nm sp)\/∃w u a y,d= .tuple [.str w,u]/\mz w/\v= .ref a/\aQ K H a [.str w,y]/\RD K H y u/\((∃i,u= .int i/\y= .int i/\Nm i)\/∃z,u= .str z/\y= .str z/\z.length<=100):=by
 rcases i with⟨ns,sp,rfl,hl,hb,hs⟩|⟨w,i,rfl,hw,hi⟩|⟨w,z,rfl,hw,hz⟩
 ·obtain⟨a,xs,rfl,h1,h2⟩:=h.cj
  obtain⟨x1,r,rfl,e1,h2⟩:=h2.cons_inv;obtain⟨x2,r,rfl,e2,h2⟩:=h2.cons_inv;obtain⟨x3,r,rfl,e3,h2⟩:=h2.cons_inv;cases h2.nil_inv;cases e1.str_inv;cases e3.int_inv;obtain⟨b,ys,rfl,_,_⟩:=id e2.cj;exact .inl ⟨ns,sp,a,b,Z,Z,h1,e2,hl,hb,hs⟩
 ·obtain⟨a,xs,rfl,h1,h2⟩:=h.cj
  obtain⟨x1,r,rfl,e1,h2⟩:=h2.cons_inv;obtain⟨x2,r,rfl,e2,h2⟩:=h2.cons_inv;cases h2.nil_inv;cases e1.str_inv;cases e2.int_inv;exact .inr ⟨w,_,a,_,Z,hw,Z,h1,e2,.inl ⟨i,Z,Z,hi⟩⟩
 ·obtain⟨a,xs,rfl,h1,h2⟩:=h.cj
  obtain⟨x1,r,rfl,e1,h2⟩:=h2.cons_inv;obtain⟨x2,r,rfl,e2,h2⟩:=h2.cons_inv;cases h2.nil_inv;cases e1.str_inv;cases e2.str_inv;exact .inr ⟨w,_,a,_,Z,hw,Z,h1,e2,.inr ⟨z,Z,Z,hz⟩⟩
theorem G9{w:Str}(h:mz w):SeqAt.shaped (.str w)=true:=by rcases h with rfl|rfl|rfl<;>decide+kernel
theorem Ga{w:Str}(h:mz w):decide (w="line")=false/\decide (w="step")=false:=by rcases h with rfl|rfl|rfl<;>decide+kernel
inductive a5b(K:aa)(vs:List V)(H:Hp)(Q:VK):Prop |mk (v:_)(ns:_)(h0:vs=[v])(h1:RD K H v (.tuple (ns.map PyData.int)))(h2:ns.length<=3)(h3:(∀n∈ns,Nm n))(h4:∀H',aA H H'->Q (.str (jA ns)) H')
def A2(K:aa):Sp:=λvs H Q _=>a5b K vs H Q
theorem mZ(zs:List Str):cF (zs.map PyData.str)=true:=iL.mpr λd hd=>by obtain⟨z,_,rfl⟩:=cB.mp hd;rfl
abbrev Ak:Stmt:=top 80
theorem Ia:bh ["numbers"] ["numbers"] (aP Ak):=bo aJ
theorem UD(F:FA K mg "show_numbers" Ak)(B:bw mg):aE P w K mg au "show_numbers" 1 (A2 K):=by
 refine F.has Ia (λvs H Q E h=>?_) (λ_ _ _ _ _ _=>cJ λ_=>rfl) (λf aG A outer s H vs Q E hr h=>?_)
 ·obtain⟨v,ns,rfl,_⟩:=h
  rfl
 ·obtain⟨v,ns,rfl,rv,hl,hb,k⟩:=h
  have nd:=Ia.nd;refine⟨_,(aI (aR (lN K Z bu (ao (dA (N:=["number"]) (js:=[none]) Z Z Z (jb K Z (pv 0)) (λ_ _ _ _ _=>(ba 0 (gu _))) (λ_ _ _ _ _=>cX) (λ_ _ _ _ _=>(cE (x:="str") fL Z (B.at "str") fj (ao (pv 0) ay)))) ay)))),?_⟩;obtain⟨a,xs,rfl,h1,h2⟩:=rv.cj;rw[h2.eK]at h1;refine⟨Z,?_⟩;refine⟨_,Z,a,Z,⟨_,h1⟩,λD H1 n1=>?_⟩;refine nL (K:=K) (ds:=(ns.map numS).map PyData.str) _ h1 n1 (by simp) (by simp;omega) (mZ _) ?_ ?_
  ·intro i x d H2 Q' ex ed s2 hq
   rw[bJ]at ex;obtain⟨n,en,rfl⟩:=vK.mp ex;rw[bJ,bJ,en]at ed;cases ed;have hn:=hb n (fP en);exact⟨_,Z,.inl ⟨n,Z,iQ hn,hq _ _ (aA.refl _) (bP _)⟩⟩
  ·intro H2 zs s2 d2 r2
   rw[jP r2]at d2;refine⟨" ",D,ns.map numS,Z,Z,aH.of d2,λz hz=>?_,aJ,by rw[bD];omega,k _ s2⟩;obtain⟨n,hn,rfl⟩:=cB.mp hz;have:=fq (hb n hn);omega
inductive a5t(K:aa)(vs:List V)(H:Hp)(Q:VK):Prop |mk (v:_)(d:_)(h0:vs=[v])(h1:RD K H v d)(h2:TI d)(h3:(∀b:Bool,(b=true↔∃ns sp,d=du ns sp)->Q (.bl b) H))
def Hx(K:aa):Sp:=λvs H Q _=>a5t K vs H Q
theorem Gs{w:Str}{u:ah}(h:mz w):¬∃ns sp,PyData.tuple [.str w,u]=du ns sp:=by rintro⟨ns,sp,e⟩;unfold du at e;injection e with e;injection e with e1 e2;injection e2 with e2 e3;cases e3
abbrev Jn:Stmt:=top 32
theorem IY:bh ["item"] ["item"] (aP Jn):=bo aJ
theorem Vs(F:FA K mg "is_line" Jn)(B:bw mg):aE P w K mg au "is_line" 1 (Hx K):=by
 refine F.has IY (λvs H Q E h=>?_) (λ_ _ _ _ _ _=>cJ λ_=>rfl) (λf aG A outer s H vs Q E hr h=>?_)
 ·obtain⟨v,d,rfl,_⟩:=h
  rfl
 ·obtain⟨v,d,rfl,rv,ti,k⟩:=h
  have nd:=IY.nd;refine⟨_,(aI (aR (jy (dC K Z hr.units) (px K (pv 0) aB) bu (bE _)))),?_⟩;rcases zN rv ti with⟨ns,sp,a,b,rfl,rfl,h1,_⟩|⟨w,u,a,y,rfl,hw,rfl,h1,_⟩
  ·refine⟨_,Z,.inr ⟨a,_,0,.str "line",Z,Z,h1,cM (fF 0) Z,.inr ⟨_,_,bP _,bP _,qS,qS,?_⟩⟩⟩
   rw[yD,bR rfl];exact k true ⟨λ_=>⟨_,_,Z⟩,λ_=>rfl⟩
  ·refine⟨_,Z,.inr ⟨a,_,0,.str w,Z,Z,h1,cM (fF 0) Z,.inr ⟨_,_,bP _,bP _,G9 hw,qS,?_⟩⟩⟩
   rw[yD,(Ga hw).1];exact k false ⟨λz=>(by cases z),λz=>(Gs hw z).elim⟩
inductive a5p(K:aa)(vs:List V)(H:Hp)(Q:VK):Prop |mk (v:_)(d:_)(h0:vs=[v])(h1:RD K H v d)(h2:TI d)(h3:∀H',aA H H'->Q (.str (cY d)) H')
def t9(K:aa):Sp:=λvs H Q _=>a5p K vs H Q
abbrev Al:Stmt:=top 81
theorem Ib:bh ["item","word","steps","speed","value"] ["item"] (aP Al):=bo aJ
theorem UE(F:FA K mg "show_item" Al)(B:bw mg)(la:aE P w K mg au "is_line" 1 (Hx K))(DB:aE P w K mg au "show_numbers" 1 (A2 K)):aE P w K mg au "show_item" 2 (t9 K):=by
 refine F.has Ib (λvs H Q E h=>?_) (λ_ _ _ _ _ _=>cJ λ_=>rfl) (λf aG A outer s H vs Q E hr h=>?_)
 ·obtain⟨v,d,rfl,_⟩:=h
  rfl
 ·obtain⟨v,d,rfl,rv,ti,k⟩:=h
  have nd:=Ib.nd;have jo:sizeLine=16777216:=by decide
  have e1:Str.length " "=1:=by decide+kernel
  have e2:Str.length "line"=4:=by decide+kernel
  have e0:Str.empty.length=0:=by decide+kernel
  refine⟨_,(aF (bB (cD (pf la hr (ao (pv 0) ay))) (aF (eu (pv 0) (dS K Z (n:=3) Z (bM (ba 1 nd) (bM (ba 2 nd) (bM (ba 3 nd) dR))))) (aI (aR (Cj (jU (oO (pv 1)) (jU bu (jU (oO (pf DB hr (ao (pv 2) ay))) (jU bu (jU (oO (pv 3)) Cf))))))))) bC) (aF (eu (pv 0) (dS K Z (n:=2) Z (bM (ba 1 nd) (bM (ba 4 nd) dR)))) (aI (aR (Cj (jU (oO (pv 1)) (jU bu (jU (oO (pv 4)) Cf)))))))),?_⟩;refine⟨_,Z,v,d,Z,rv,ti,λb hb=>⟨_,Z,?_⟩⟩;rcases zN rv ti with⟨ns,sp,a,b',rfl,rfl,h1,r2,hl,hn,hs⟩|⟨w,u,a,y,rfl,hw,rfl,h1,ry,hv⟩
  ·cases(hb.mpr ⟨_,_,rfl⟩)
   refine bF ?_;have a0N:=CF hn hl;have Eg:=fq hs;refine⟨_,Z,a,_,Z,h1,Z,_,_,Z,_,_,Z,_,_,Z,Z,?_⟩;refine⟨_,Z,.inr ⟨"line",Z,bp,_,Z,by simp only[dZ];omega,?_⟩⟩;refine⟨_,Z,by simp only[dZ];omega,?_⟩;refine⟨_,Z,.ref b',ns,Z,r2,hl,hn,λH1 s1=>.inr ⟨_,Z,bp,_,Z,by simp only[dZ];omega,?_⟩⟩;refine⟨_,Z,by simp only[dZ];omega,?_⟩;refine⟨_,Z,.inl ⟨sp,Z,iQ hs,_,Z,by simp only[dZ];change _+(numS sp).length<=_;omega,?_⟩⟩;refine⟨by simp only[dZ];change _+(numS sp).length<=_;omega,?_⟩;have e:Str.empty++"line"++" "++jA ns++" "++numS sp=cY (du ns sp):=by
    rw[xP,Str.empty_append];have:(Str.ofString "line"++Str.ofString " ")=Str.ofString "line ":=by decide+kernel
    rw[this]
   have:=k H1 s1;rw[<-e]at this;exact this
  ·have m9:b=false:=by cases b with |false=>rfl |true=>exact(Gs hw (hb.mp Z)).elim
   subst m9;refine bc ?_;have w4:=wm hw;refine⟨_,Z,a,_,Z,h1,Z,_,_,Z,_,_,Z,Z,?_⟩;refine⟨_,Z,.inr ⟨w,Z,bp,_,Z,by simp only[dZ];omega,?_⟩⟩;refine⟨_,Z,by simp only[dZ];omega,?_⟩;have fin:=k H (aA.refl _);have e:Str.empty++w++" "++sP u=cY (.tuple [.str w,u]):=by rw[Str.empty_append];rcases hv with⟨i,rfl,_⟩|⟨z,rfl,_⟩<;>rfl
   rw[<-e]at fin;rcases hv with⟨i,rfl,rfl,hi⟩|⟨z,rfl,rfl,hz⟩
   ·have Eg:=fq hi
    refine⟨_,Z,.inl ⟨i,Z,iQ hi,_,Z,by simp only[dZ];change _+(numS i).length<=_;omega,?_⟩⟩;exact⟨by simp only[dZ];change _+(numS i).length<=_;omega,fin⟩
   ·refine⟨_,Z,.inr ⟨z,Z,bp,_,Z,by simp only[dZ];omega,?_⟩⟩
    exact⟨by simp only[dZ];omega,fin⟩
theorem sz:sizeLine=16777216:=by decide
theorem eS:Str.length " "=1:=by decide+kernel
theorem HF:Str.empty.length=0:=by decide+kernel
inductive a5o(K:aa)(vs:List V)(H:Hp)(Q:VK):Prop |mk (v:_)(ds:_)(h0:vs=[v])(h1:RD K H v (.list ds))(h2:(∀d∈ds,TI d))(h3:cF ds=true)(h4:ds.length<=30)(h5:∀H',aA H H'->Q (.str (Txt.join "\n" (ds.map cY))) H')
def Hv(K:aa):Sp:=λvs H Q _=>a5o K vs H Q
abbrev Am:Stmt:=top 82
theorem Ic:bh ["items"] ["items"] (aP Am):=bo aJ
theorem UG(F:FA K mg "show_items" Am)(B:bw mg)(Ym:aE P w K mg au "show_item" 2 (t9 K)):aE P w K mg au "show_items" 3 (Hv K):=by
 refine F.has Ic (λvs H Q E h=>?_) (λ_ _ _ _ _ _=>cJ λ_=>rfl) (λf aG A outer s H vs Q E hr h=>?_)
 ·obtain⟨v,ds,rfl,_⟩:=h
  rfl
 ·obtain⟨v,ds,rfl,rv,ti,no,hl,k⟩:=h
  have nd:=Ic.nd;refine⟨_,(aI (aR (lN K Z bu (ao (dA (N:=["item"]) (js:=[none]) Z Z Z (oM K Z (pv 0)) (λ_ _ _ _ _=>(ba 0 (gu _))) (λ_ _ _ _ _=>cX) (λ_ _ _ _ _=>(pf Ym hr (ao (pv 0) ay)))) ay)))),?_⟩;obtain⟨a,xs,rfl,h1,h2⟩:=rv.lst_inv;have lx:=h2.length;refine⟨Z,?_⟩;refine⟨_,Z,a,Z,⟨_,h1⟩,λD H1 n1=>?_⟩;refine vb (K:=K) (ds:=(ds.map cY).map PyData.str) _ h1 n1 (by simp;exact lx) bp (mZ _) ?_ ?_
  ·intro i x d H2 Q' ex ed s2 hq
   obtain⟨d',dv,rx⟩:=h2.get' i ex;rw[bJ,bJ,dv]at ed;cases ed;exact⟨_,Z,x,d',Z,RD.mono s2 _ rx,ti d' (fP dv),λH3 s3=>hq _ _ s3 (bP _)⟩
  ·intro H2 zs s2 d2 r2
   rw[jP r2]at d2;refine⟨"\n",D,ds.map cY,Z,Z,aH.of d2,λz hz=>?_,aJ,by rw[bD];omega,k _ s2⟩;obtain⟨d,hd,rfl⟩:=cB.mp hz;have:=uo (ti d hd);omega
def nS (i:Int):Prop:=i.natAbs<10^540
theorem qK{i:Int}(h:nS i):(numS i).length<=541:=by show(Str.ofString (toString i)).length<=541;rw[PySem.ofString_length];exact int_text_length_le10 (k:=540) az h
theorem qR{i:Int}(h:nS i):i.natAbs.log2<1920:=by
 by_cases h0:i.natAbs=0
 ·rw[h0];decide
 ·exact(Nat.log2_lt h0).mpr (vN h aJ)
inductive a5x(K:aa)(vs:List V)(H:Hp)(Q:VK):Prop |mk (v:_)(a:_)(b:_)(h0:vs=[v])(h1:RD K H v (.tuple [.int a,.int b]))(h2:nS a)(h3:nS b)(h4:Q (.str (me a b)) H)
def wQ(K:aa):Sp:=λvs H Q _=>a5x K vs H Q
theorem Gm{H:Hp}{v:V}{a b:Int}(h:RD K H v (.tuple [.int a,.int b])):∃p,v= .ref p/\aQ K H p [.int a,.int b]:=by obtain⟨p,xs,rfl,h1,h2⟩:=h.cj;obtain⟨x1,r,rfl,e1,h2⟩:=h2.cons_inv;obtain⟨x2,r,rfl,e2,h2⟩:=h2.cons_inv;cases h2.nil_inv;cases e1.int_inv;cases e2.int_inv;exact⟨p,Z,h1⟩
theorem A9:Str.length "/"=1:=by decide+kernel
theorem Mo{a b:Int}(ha:nS a)(hb:nS b):(me a b).length<=1100:=by
 have h1:=qK ha;have h2:=qK hb;have h3:=A9;unfold me;split
 ·omega
 ·simp only[dZ];omega
abbrev An:Stmt:=top 79
theorem Ie:bh ["one","p","q"] ["one"] (aP An):=bo aJ
theorem UH(F:FA K mg "show_fraction" An)(B:bw mg):aE P w K mg au "show_fraction" 1 (wQ K):=by
 refine F.has Ie (λvs H Q E h=>?_) (λ_ _ _ _ _ _=>cJ λ_=>rfl) (λf aG A outer s H vs Q E hr h=>?_)
 ·obtain⟨v,a,b,rfl,_⟩:=h
  rfl
 ·obtain⟨v,a,b,rfl,rv,na,nb,k⟩:=h
  have nd:=Ie.nd;refine⟨_,(aF (eu (pv 0) (dS K Z (n:=2) Z (bM (ba 1 nd) (bM (ba 2 nd) dR)))) (aI (aR (jc (bK (dC K Z hr.units) (pv 2) aB (bE _)) (cE (x:="str") fL Z (B.at "str") fj (ao (pv 1) ay)) (Cj (jU (oO (pv 1)) (jU bu (jU (oO (pv 2)) Cf)))))))),?_⟩;obtain⟨p,rfl,h1⟩:=Gm rv;have l1:=qK na;have l2:=qK nb;have hs:=sz;have h0:=HF;have qY:=A9;refine⟨_,Z,p,_,Z,h1,Z,_,_,Z,_,_,Z,Z,?_⟩;refine⟨_,Z,.inl ⟨_,_,Z,Z,_,Z,?_⟩⟩;by_cases hb:b=1
  ·rw[bR hb]
   refine bF ⟨_,Z,.inl ⟨a,Z,qR na,?_⟩⟩;unfold me at k;rw[aU hb]at k;exact k
  ·rw[dP hb]
   refine bc ⟨_,Z,.inl ⟨a,Z,qR na,_,Z,by simp only[dZ];change _+(numS a).length<=_;omega,?_⟩⟩;refine⟨_,Z,by simp only[dZ];change _+(numS a).length+_<=_;omega,?_⟩;refine⟨_,Z,.inl ⟨b,Z,qR nb,_,Z,by simp only[dZ];change _+(numS a).length+_+(numS b).length<=_;omega,?_⟩⟩;refine⟨by simp only[dZ];change _+(numS a).length+_+(numS b).length<=_;omega,?_⟩;unfold me at k;rw[aV hb]at k;have e:Str.empty++numS a++"/"++numS b=numS a++"/"++numS b:=by rw[Str.empty_append]
   rw[<-e]at k;exact k
abbrev B6:Stmt:=top 112
theorem IT:bh ["_law_one"] ["_law_one"] (aP B6):=bo aJ
theorem Vg(F:FA K mg "_law_fraction_text" B6)(B:bw mg):aE P w K mg au "_law_fraction_text" 1 (wQ K):=by
 refine F.has IT (λvs H Q E h=>?_) (λ_ _ _ _ _ _=>cJ λ_=>rfl) (λf aG A outer s H vs Q E hr h=>?_)
 ·obtain⟨v,a,b,rfl,_⟩:=h
  rfl
 ·obtain⟨v,a,b,rfl,rv,na,nb,k⟩:=h
  have nd:=IT.nd;refine⟨_,(aI (aR (jc (bK (dC K Z hr.units) (px K (pv 0) aB) aB (bE _)) (cE (x:="str") fL Z (B.at "str") fj (ao (px K (pv 0) aB) ay)) (aL iJ (aL iJ (cE (x:="str") fL rfl (B.at "str") fj (ao (px K (pv 0) aB) ay)) bu) (cE (x:="str") fL rfl (B.at "str") fj (ao (px K (pv 0) aB) ay)))))),?_⟩;obtain⟨p,rfl,h1⟩:=Gm rv;have l1:=qK na;have l2:=qK nb;have hs:=sz;have qY:=A9;refine⟨_,Z,.inr ⟨p,_,1,.int b,Z,Z,h1,Z,.inl ⟨_,_,Z,Z,_,Z,?_⟩⟩⟩;by_cases hb:b=1
  ·rw[bR hb]
   refine bF ⟨_,Z,.inr ⟨p,_,0,.int a,Z,Z,h1,Z,.inl ⟨a,Z,qR na,?_⟩⟩⟩;unfold me at k;rw[aU hb]at k;exact k
  ·rw[dP hb]
   refine bc ⟨_,Z,.inr ⟨p,_,0,.int a,Z,Z,h1,Z,.inl ⟨a,Z,qR na,?_⟩⟩⟩;refine⟨_,_,Z,Z,by change (numS a).length+_<=_;omega,?_⟩;refine⟨_,Z,.inr ⟨p,_,1,.int b,Z,Z,h1,Z,.inl ⟨b,Z,qR nb,?_⟩⟩⟩;refine⟨_,_,Z,Z,by simp only[dZ];change (numS a).length+_+(numS b).length<=_;omega,?_⟩;unfold me at k;rw[aV hb]at k;exact k
abbrev B5:Stmt:=top 111
theorem IS:bh ["_law_item_here"] ["_law_item_here"] (aP B5):=bo aJ
theorem Vf(F:FA K mg "_law_item_text" B5)(B:bw mg):aE P w K mg au "_law_item_text" 1 (t9 K):=by
 refine F.has IS (λvs H Q E h=>?_) (λ_ _ _ _ _ _=>cJ λ_=>rfl) (λf aG A outer s H vs Q E hr h=>?_)
 ·obtain⟨v,d,rfl,_⟩:=h
  rfl
 ·obtain⟨v,d,rfl,rv,ti,k⟩:=h
  have nd:=IS.nd;refine⟨_,(aF (bB (bK (dC K Z hr.units) (px K (pv 0) aB) bu (bE _)) (aI (aR (aL iJ (aL iJ (aL iJ bu (lN K Z bu (ao (dA (N:=["_law_step"]) (js:=[none]) Z Z Z (jb K Z (px K (pv 0) aB)) (λ_ _ _ _ _=>(ba 0 (gu _))) (λ_ _ _ _ _=>cX) (λ_ _ _ _ _=>(cE (x:="str") fL Z (B.at "str") fj (ao (pv 0) ay)))) ay))) bu) (cE (x:="str") fL rfl (B.at "str") fj (ao (px K (pv 0) aB) ay))))) bC) (aI (aR (aL iJ (aL iJ (px K (pv 0) aB) bu) (cE (x:="str") fL Z (B.at "str") fj (ao (px K (pv 0) aB) ay)))))),?_⟩;have hs:=sz;have M5:=eS;have h5:Str.length "line "=5:=by decide+kernel
  rcases zN rv ti with⟨ns,sp,a,b,rfl,rfl,h1,r2,hl,hn,eL⟩|⟨w,u,a,y,rfl,hw,rfl,h1,ry,hv⟩
  ·refine⟨_,Z,.inr ⟨a,_,0,.str "line",Z,Z,h1,cM (fF 0) Z,.inr ⟨_,_,bP _,bP _,qS,qS,_,Z,?_⟩⟩⟩
   rw[yD,bR rfl];refine bF ?_;have a0N:=CF hn hl;have Eg:=fq eL;obtain⟨b',xs,e',g1,g2⟩:=r2.cj;cases e';rw[g2.eK]at g1;refine⟨Z,?_⟩;refine⟨_,Z,.inr ⟨a,_,1,.ref b,Z,Z,h1,cM az Z,b,Z,⟨_,g1⟩,λD H1 n1=>?_⟩⟩;refine nL (K:=K) (ds:=(ns.map numS).map PyData.str) _ g1 n1 (by simp) (by simp;omega) (mZ _) ?_ ?_
   ·intro i x d H2 Q' ex ed s2 hq
    rw[bJ]at ex;obtain⟨n,en,rfl⟩:=vK.mp ex;rw[bJ,bJ,en]at ed;cases ed;have hn:=hn n (fP en);exact⟨_,Z,.inl ⟨n,Z,iQ hn,hq _ _ (aA.refl _) (bP _)⟩⟩
   ·intro H2 zs s2 d2 r2
    rw[jP r2]at d2;refine⟨" ",D,ns.map numS,Z,Z,aH.of d2,λz hz=>?_,aJ,by rw[bD];omega,?_⟩
    ·obtain⟨n,uz,rfl⟩:=cB.mp hz
     have:=fq (hn n uz);omega
    refine⟨_,_,Z,Z,by change _+(jA ns).length<=_;omega,?_⟩;refine⟨_,_,Z,Z,by simp only[dZ];change _+(jA ns).length+_<=_;omega,?_⟩;refine⟨_,Z,.inr ⟨a,_,2,.int sp,Z,Z,h1.go s2,cM az Z,.inl ⟨sp,Z,iQ eL,?_⟩⟩⟩;refine⟨_,_,Z,Z,by simp only[dZ];change _+(jA ns).length+_+(numS sp).length<=_;omega,?_⟩;have:=k H2 s2;rw[xP]at this;exact this
  ·refine⟨_,Z,.inr ⟨a,_,0,.str w,Z,Z,h1,cM (fF 0) Z,.inr ⟨_,_,bP _,bP _,G9 hw,qS,_,Z,?_⟩⟩⟩
   rw[yD,(Ga hw).1];refine bc ?_;have w4:=wm hw;have fin:=k H (aA.refl _);refine⟨_,Z,.inr ⟨a,_,0,.str w,Z,Z,h1,cM (fF 0) Z,?_⟩⟩;refine⟨_,_,Z,Z,bp,?_⟩;refine⟨_,Z,.inr ⟨a,_,1,y,Z,Z,h1,cM az Z,?_⟩⟩;rcases hv with⟨i,rfl,rfl,hi⟩|⟨z,rfl,rfl,hz⟩
   ·have Eg:=fq hi
    exact .inl ⟨i,Z,iQ hi,_,_,Z,Z,by simp only[dZ];change _+(numS i).length<=_;omega,fin⟩
   ·exact .inr ⟨z,Z,_,_,Z,Z,by simp only[dZ];omega,fin⟩
end
end Lw
set_option maxHeartbeats 1000000
namespace Lw
open PySem PySem.Spec PyProof.Rows L2 Rt Ln Wk
section
variable {P:af}{w:World}{K:aa}{mg:bf}{au:Heap}
def dF(z:Str):Prop:=∀c∈z.cps.toList,c<0x110000
theorem dF.app{a b:Str}(ha:dF a)(hb:dF b):dF (a++b):=λc hc=>by rw[sD,sM,jN]at hc;exact hc.elim (ha c) (hb c)
theorem dF.joined{sep:Str}(hs:dF sep):∀l:List Str,(∀a∈l,dF a)->dF (PySem.Str.join sep l) |[],_=>λc hc=>by simp[PySem.Str.join,PySem.Str.empty]at hc |[x],h=>h x (.head _) |x::y::r,h=>((h x (.head _)).app hs).app (dF.joined hs (y::r) λa ha=>h a (.tail _ ha))
theorem dF.join{sep:Str}{l:List Str}(hs:dF sep)(h:∀a∈l,dF a):dF (Txt.join sep l):=by show dF (Builtin.Str.glued sep l);rw[vE];exact dF.joined hs l h
theorem Us{n:Nat}{z:Str}(h:dF z):cA n (.str z):=⟨by show PyData.strOk z=true;unfold PyData.strOk;rw[Po];exact λc hc=>bR (h c (by simpa using hc)),eQ _⟩
theorem Km{n:Nat}{z:Str}(h:cA n (.str z)):dF z:=λc hc=>by have q:PyData.strOk z=true:=h.lay;unfold PyData.strOk at q;rw[Po]at q;exact lE (q c (by simpa using hc))
theorem oQ{z:Str}(h:z.cps.all (·<0x110000)=true):dF z:=Km (n:=0) ⟨h,eQ _⟩
theorem GN:∀(ds:List ah),(∀d∈ds,∃z:Str,d= .str z/\z.length=1/\dF z/\z.cps.toList.all (λc=>decide (97<=c)&&decide (c<=122))=true)->∃zs:List Str,ds=zs.map PyData.str/\∀z∈zs,z.length=1/\dF z/\z.cps.toList.all (λc=>decide (97<=c)&&decide (c<=122))=true |[],_=>⟨[],Z,λ_ h=>nomatch h⟩ |d::ds,h=>by obtain⟨z,rfl,e⟩:=h d (.head _);obtain⟨zs,rfl,q⟩:=GN ds λx hx=>h x (.tail _ hx);exact⟨z::zs,Z,λy hy=>by
 rcases bS.mp hy with rfl|hy
 ·exact e
 ·exact q y hy⟩
theorem a4e:dF gK:=oQ aJ
def xG(c:Nat):Bool:=decide (97<=c)&&decide (c<=122)
def lW(s:Str):Bool:=(decide (1<=s.length)&&decide (s.length<=8))&&s.cps.toList.all xG
def Cr(w s:Str):Prop:=(w="tool"/\(s="up"\/s="down"))\/(w="mark"/\lW s=true)
def rX(d:ah):Prop:=(∃n,d= .tuple [.str "wait",.int n]/\1<=n/\n<=1000)\/∃w s,d= .tuple [.str w,.str s]/\(w="tool"\/w="mark")/\cA 0 (.str s)/\Cr w s
theorem M7:∀l:List Str,(PySem.Str.join ("":Str) l).cps.toList=(l.map λz=>z.cps.toList).flatten
 |[]=>by simp[PySem.Str.join,PySem.Str.empty] |[x]=>by simp[PySem.Str.join] |x::y::r=>by
  show((x++("":Str))++PySem.Str.join ("":Str) (y::r)).cps.toList=_;rw[sD,sD,sM,sM,M7 (y::r)];have:(("":Str)).cps.toList=[]:=by decide+kernel
  rw[this];simp
theorem Wo{l:List Str}(h1:1<=l.length)(h8:l.length<=8)(h:∀z∈l,z.length=1/\z.cps.toList.all xG=true):lW (Txt.join ("":Str) l)=true:=by
 have e:(Txt.join ("":Str) l).cps.toList=(l.map λz=>z.cps.toList).flatten:=by show(Builtin.Str.glued ("":Str) l).cps.toList=_;rw[vE];exact M7 l
 have el:(Txt.join ("":Str) l).length=l.length:=by
  show(Txt.join ("":Str) l).cps.size=_;rw[<-vY,e,List.length_flatten,vP];have:∀(l:List Str),(∀z∈l,z.length=1/\z.cps.toList.all xG=true)->(l.map (List.length∘λz=>z.cps.toList)).sum=l.length:=by intro l;induction l with |nil=>intro _;rfl |cons a r ih=>
   intro h;rw[qf,List.sum_cons,ih λz hz=>h z (.tail _ hz),fW];have:=(h a (.head _)).1;have e2:(List.length∘λz:Str=>z.cps.toList) a=1:=by show a.cps.toList.length=1;rw[vY];exact this
   rw[e2,Nat.add_comm]
  exact this l h
 unfold lW;rw[el,e,bR h1,bR h8,fX,fX,fb];intro c hc;obtain⟨cs,yd,fi⟩:=List.mem_flatten.mp hc;obtain⟨z,hz,rfl⟩:=cB.mp yd;exact fb.mp (h z hz).2 c fi
theorem rX.it{d:ah}(h:rX d):itR d none:=by
 rcases h with⟨n,rfl,_⟩|⟨w,s,rfl,hw|hw,_⟩
 ·exact .inr ⟨_,_,Z,.inl Z,Z,Z⟩
 ·exact .inr ⟨_,_,Z,.inr (.inl hw),Z,Z⟩
 ·exact .inr ⟨_,_,Z,.inr (.inr hw),Z,Z⟩
open Ow (Itm)
structure gL(n:Nat)(d:ah)(o:Itm):Prop where
 it:itR d o
 ln:∀ns sp,o=some (ns,sp)->eH n 100 ns/\1<=sp/\sp<=20
 ot:o=none->rX d
theorem Wn{z:Str}(h:lW z=true):isNm (.str z)=true:=h
theorem a3Z:∀{ns:List Int},(∃z∈ns,z≠0)->(ns.map PyData.int).any oU=true:=λ{ns} ⟨z,hz,h⟩=>Pe.mpr ⟨.int z,cB.mpr ⟨z,hz,Z⟩,by show(z !=0)=true;simpa using h⟩
theorem a44{ns:List Int}(h:∀z∈ns,(z.natAbs:Int)<=100):(ns.map PyData.int).all (cu (-100) 100)=true:=by rw[fb];intro d hd;obtain⟨z,hz,rfl⟩:=cB.mp hd;have:=h z hz;show(decide (-100<=z)&&decide (z<=100))=true;rw[bR bp,bR bp];rfl
theorem gL.is{n:Nat}{d:ah}{o:Itm}(h:gL n d o):hW n d=true/\cA 8 d/\oz d=true:=by cases o with
 |some q=>
  obtain⟨ns,sp⟩:=q;have ed:=jf h.it;subst ed;obtain⟨eD,s1,s2⟩:=h.ln ns sp rfl;refine⟨?_,?_,Z⟩
  ·show(fu "line" (.str "line")&&(lT n (.tuple (ns.map PyData.int))&&cu 1 20 (.int sp)))=true
   have e1:fu "line" (.str "line")=true:=by decide+kernel
   have e2:lT n (.tuple (ns.map PyData.int))=true:=by show(((ns.map PyData.int).length==n&&(ns.map PyData.int).all (cu (-100) 100))&&(ns.map PyData.int).any oU)=true;rw[a44 eD.bd,a3Z eD.nz,bD,eD.len,vD];rfl
   have e3:cu 1 20 (.int sp)=true:=by show(decide (1<=sp)&&decide (sp<=20))=true;rw[bR s1,bR s2];rfl
   rw[e1,e2,e3];rfl
  ·refine(fU.tup (n:=1) (.cons ⟨aJ,eQ _⟩ (.cons (fU.tup (n:=0) λd hd=>?_) (.cons (.int _) .nil)))).le az
   obtain⟨a,_,rfl⟩:=cB.mp hd;exact .int _ |none=>
  rcases h.ot rfl with⟨z,rfl,z1,z2⟩|⟨w,s,rfl,hw,mV,on⟩
  ·refine⟨?_,(fU.tup (n:=0) (.cons ⟨aJ,eQ _⟩ (.cons (.int _) .nil))).le az,Z⟩
   show m5 (.str "wait") (.int z)=true;unfold m5;rw[aU aJ];show(decide (1<=z)&&decide (z<=1000))=true;rw[bR z1,bR z2];rfl
  ·have Xu:fH (.str s)=true:=by
    refine bR ?_;rcases on with⟨_,rfl|rfl⟩|⟨_,hn⟩
    ·decide+kernel
    ·decide+kernel
    ·unfold lW at hn
     simp only[dm,vB]at hn
     lia
   refine⟨?_,(fU.tup (n:=0) (.cons ?_ (.cons mV .nil))).le az,?_⟩
   ·rcases on with⟨rfl,hs⟩|⟨rfl,hn⟩
    ·show m5 (.str "tool") (.str s)=true
     unfold m5;rw[aV aJ,aU aJ];rcases hs with rfl|rfl<;>decide+kernel
    ·show m5 (.str "mark") (.str s)=true
     unfold m5;rw[aV aJ,aV aJ];rw[Wn hn];decide+kernel
   ·rcases hw with rfl|rfl<;>exact⟨aJ,eQ _⟩
   ·show([.str w,.str s]:List ah).all fH=true
    rw[sL,sL,G1,Xu];rcases hw with rfl|rfl<;>decide+kernel
abbrev AW:Stmt:=top 107
theorem IH:bh ["_law_bag_here","_law_axes","_law_far","_law_rails","_law_bounds"] ["_law_bag_here"] (aP AW):=bo aJ
theorem Vd(F:FA K mg "_law_machine" AW)(B:bw mg)(eE:aE P w K mg au "_law_take" 1 mR):aE P w K mg au "_law_machine" 2 (Ht K):=by
 refine F.has IH (λvs H Q E h=>?_) (λ_ _ _ _ _ _=>cJ λ_=>rfl) (λf aG A outer s H vs Q E hr h=>?_)
 ·obtain⟨p,rfl,_⟩:=h
  rfl
 ·obtain⟨p,rfl,bg,k⟩:=h
  have nd:=IH.nd;refine⟨_,(aF (pS 1 nd (aL dr aB (pf eE hr (ao (pv 0) (ao aB ay))))) (aF (pS 2 nd (px K (fJ (ao aB (ao aB ay))) (pf eE hr (ao (pv 0) (ao aB ay))))) (aF (pS 3 nd (cE (x:="tuple") (j7 K Z) Z (B.at "tuple") gD (ao (dA (N:=["_law_axis","_law_bag_here","_law_far"]) (js:=[none,some 0,some 2]) rfl rfl rfl (oK rfl (B.at "range") (ao (pv 1) ay)) (λ_ _ _ _ _=>(ba 0 (show List.Nodup (["_law_axis","_law_bag_here","_law_far"]:List Str) by decide+kernel))) (λ_ _ _ _ _=>cX) (λ_ _ _ _ _=>(aL dr aB (pf eE hr (ao (pv 1) (ao (pv 2) ay)))))) ay))) (aF (pS 4 nd (cE (x:="tuple") (j7 K Z) Z (B.at "tuple") gD (ao (dA (N:=["_law_k","_law_bag_here"]) (js:=[none,some 0]) rfl rfl rfl (oK rfl (B.at "range") (ao aB ay)) (λ_ _ _ _ _=>(ba 0 (gb az))) (λ_ _ _ _ _=>cX) (λ_ _ _ _ _=>(aL dr aB (pf eE hr (ao (pv 1) (ao aB ay)))))) ay))) (aI (aR (aL (NL K Z) (aL (NL K Z) (eA (ao (pv 3) ay)) (pv 4)) (eA (ao (aL dr aB (pf eE hr (ao (pv 0) (ao aB ay)))) ay))))))))),?_⟩;refine⟨_,Z,p,2,Z,bg,az,az,λt0 H1 t00 t01 b1=>?_⟩;refine⟨_,_,Z,Z,?_⟩;refine⟨bW Z,λl H2 nw=>?_⟩;have b2:bG p H1 H2:=.eU b1.bI nw.same;have D9:l≠p:=λe=>b1.bI.ne (e▸nw.no);refine⟨_,Z,p,2,Z,b2.bI,az,az,λi H3 i0 i1 b3=>?_⟩;obtain⟨yA,mf,ef⟩:=Ly [100,20] i0 i1;have f1:1<=yA/\yA<=100:=by
   rcases bS.mp mf with rfl|mf
   ·exact⟨az,az⟩
   rcases bS.mp mf with rfl|mf
   ·exact⟨az,az⟩
   ·exact(eR mf).elim
  refine .inl ⟨l,_,_,_,Z,Z,aH.of (b3.same _ _ D9 nw.at'),ef,?_⟩;refine⟨_,Z,_,Z,aw,aw,λD H4 n4=>?_⟩;have hN:(2+t0).toNat<=1000:=by lia
  refine ER (2+t0).toNat [some (.ref p),some (.int yA)] n4 b3.bI hN (λi=>.int (0+(i:Int))) (λi H5 hi b5=>⟨hi,λy H6 ⟨e1,e2⟩=>⟨e1,e2⟩⟩) (λH5 b5=>bq _) (λz=>1<=z/\z<=100) ?_ ?_
  ·intro i H5 Q' hi b5 hq
   refine⟨_,Z,_,Z,p,yA,Z,b5.bI,f1.1,aw,λz H6 z0 z1 b6=>?_⟩;exact⟨_,_,Z,Z,hq _ _ ⟨aw,aw⟩ b6⟩
  intro H5 rs b5 d5 lr pr;refine⟨D,_,Z,.inl ⟨aH.of d5,λq H6 n6=>?_⟩⟩;have b6:bG p H5 H6:=.eU b5.bI n6.same;refine⟨3,Z,az,az,λD2 H7 n7=>?_⟩;refine ER 3 [some (.ref p)] n7 b6.bI az (λi=>.int (0+(i:Int))) (λi H8 hi b8=>⟨hi,λy H9 ⟨e1,e2⟩=>⟨e1,e2⟩⟩) (λH8 b8=>bq _) (λz=>1<=z/\z<=50) ?_ ?_
  ·intro i H8 Q' hi b8 hq
   refine⟨_,Z,p,50,Z,b8.bI,az,az,λz H9 z0 z1 b9=>?_⟩;exact⟨_,_,Z,Z,hq _ _ ⟨aw,aw⟩ b9⟩
  intro H8 bs b8 d8 lb pb;refine⟨D2,_,Z,.inl ⟨aH.of d8,λq2 H9 n9=>?_⟩⟩;have b9:bG p H8 H9:=.eU b8.bI n9.same;refine⟨_,Z,bW Z,λt1 fD iM=>?_⟩;have fM:bG p H9 fD:=.eU b9.bI iM.same
  match bs,lb,pb,n9 with |[x1,x2,x3],_,pb,n9=>have p1:=pb x1 (.head _);have p2:=pb x2 (.tail _ (.head _));have p3:=pb x3 (.tail _ (.tail _ (.head _)));refine⟨_,Z,t1,q2,_,_,Z,Z,aQ.of iM.at',aQ.of (iM.same _ _ n9.at'),bW Z,λv1 gm mT a11=>?_⟩;have za:bG p fD gm:=.eU fM.bI mT;refine⟨_,Z,p,100,Z,za.bI,az,az,λz su z0 z1 z9=>?_⟩;refine⟨_,_,Z,Z,bW Z,λt2 sr CT=>?_⟩;have nO:bG p su sr:=.eU z9.bI CT.same;refine⟨v1,t2,_,_,Z,Z,(aQ.t (bG.t za.bI z9) a11).go CT.same,aQ.of CT.at',bW Z,λv2 vn j9 a14=>?_⟩;have pK:bG p sr vn:=.eU nO.bI j9;have sq:aQ K vn q (rs.map V.int):=aQ.t (bG.t b6.bI (b8.trans (b9.trans (fM.trans (za.trans (z9.trans (nO.trans pK))))))) (aQ.of n6.at');refine k (.ref v2) rs x1 x2 x3 (1+z) vn (eX a14 (ck (eX sq (mU rs)) (ck (ek _) (ck (ek _) (ck (ek _) (ck (ek _) df)))))) ⟨aw,pr,p1,p2,p3,aw⟩ (b1.trans (b2.trans (b3.trans (b5.trans (b6.trans (b8.trans (b9.trans (fM.trans (za.trans (z9.trans (nO.trans pK)))))))))))
inductive a5e(vs:List V)(H:Hp)(Q:VK):Prop |mk (p:_)(h0:vs=[.ref p])(h1:fN H p)(h2:∀z H',cA 0 (.str z)->lW z=true->bG p H H'->Q (.str z) H')
def Hr(K:aa):Sp:=λvs H Q _=>a5e vs H Q
abbrev AO:Stmt:=top 109
theorem IA:bh ["_law_bag_here"] ["_law_bag_here"] (aP AO):=bo aJ
theorem V8(F:FA K mg "_law_name" AO)(B:bw mg)(eE:aE P w K mg au "_law_take" 1 mR):aE P w K mg au "_law_name" 2 (Hr K):=by
 refine F.has IA (λvs H Q E h=>?_) (λ_ _ _ _ _ _=>cJ λ_=>rfl) (λf aG A outer s H vs Q E hr h=>?_)
 ·obtain⟨p,rfl,_⟩:=h
  rfl
 ·obtain⟨p,rfl,bg,k⟩:=h
  have nd:=IA.nd;refine⟨_,(aI (aR (lN K Z bu (ao (dA (N:=["_law_k","_law_bag_here"]) (js:=[none,some 0]) Z Z Z (oK Z (B.at "range") (ao (aL dr aB (pf eE hr (ao (pv 0) (ao aB ay)))) ay)) (λ_ _ _ _ _=>(ba 0 (gb az))) (λ_ _ _ _ _=>cX) (λ_ _ _ _ _=>(Ck Lq bu (pf eE hr (ao (pv 1) (ao aB ay))) (λ_ _=>rfl)))) ay)))),?_⟩;refine⟨Z,?_⟩;refine⟨_,Z,p,8,Z,bg,az,az,λn H1 n0 n1 b1=>?_⟩;refine⟨_,_,Z,Z,_,Z,bp,bp,λD H2 nD=>?_⟩;refine Ny (K:=K) (J:=mE 0 (1+n).toNat) (p:=p) (H:=H1) (1+n).toNat _ nD b1.bI bp (λi=>.int (0+(i:Int))) (λi H3 hi _=>⟨hi,λy H4 ⟨e,q⟩=>⟨e,q⟩⟩) (λH3 _=>bq _) (λ_ d=>∃z:Str,d= .str z/\z.length=1/\dF z/\z.cps.toList.all (λc=>decide (97<=c)&&decide (c<=122))=true) ?_ ?_
  ·intro i H3 Q' hi b3 hq
   refine⟨_,Z,p,26,Z,b3.bI,az,az,λd H4 d0 d1 b4=>?_⟩;have hd:d.toNat<gK.cps.toList.length:=by rw[a4g];omega
   refine⟨gK,d,gK.cps.toList[d.toNat],Z,Z,aJ,cM d0 (cC hd),?_⟩;have eT:dF ⟨#[gK.cps.toList[d.toNat]]⟩:=λc hc=>by have gy:c=gK.cps.toList[d.toNat]:=e9.mp hc;rw[gy];exact a4e _ (vR hd)
   have dW:(⟨#[gK.cps.toList[d.toNat]]⟩:Str).cps.toList.all (λc=>decide (97<=c)&&decide (c<=122))=true:=by have:=fb.mp (show gK.cps.toList.all (λc=>decide (97<=c)&&decide (c<=122))=true by decide+kernel) _ (vR hd);show([gK.cps.toList[d.toNat]]:List Nat).all _=true;rw[sL,G1,G4];exact this
   exact hq _ _ _ ⟨_,Z,Z,eT,dW⟩ Z (bP _) b4
  ·intro H3 ys ds b3 d3 r3 l3 nl pd
   obtain⟨zs,rfl,hz⟩:=GN ds λd hd=>by obtain⟨i,hi⟩:=nY.mp hd;exact pd i d hi
   rw[jP r3]at d3;rw[bD]at l3;refine⟨"",D,zs,Z,Z,aH.of d3,λz qX=>by rw[(hz z qX).1];decide,az,bp,?_⟩;exact k _ _ (Us (dF.join (oQ aJ) λa ha=>(hz a ha).2.1)) (Wo bp bp λz qX=>⟨(hz z qX).1,(hz z qX).2.2⟩) (b1.trans b3)
inductive a5s(K:aa)(vs:List V)(H:Hp)(Q:VK):Prop |mk (p:Addr)(ax:Nat)(h0:vs=[.ref p,.int ax])(h1:fN H p)(h2:1<=ax)(h3:ax<=3)(h4:∀v d o H',RD K H' v d->gL ax d o->bG p H H'->Q v H')
def Hw(K:aa):Sp:=λvs H Q _=>a5s K vs H Q
theorem gL.Ct{n:Nat}{d:ah}(h:rX d):gL n d none:=⟨h.it,(λ_ _ z=>nomatch z),λ_=>h⟩
abbrev B9:Stmt:=top 110
theorem IU:bh ["_law_bag_here","_law_axes","_law_sort","_law_speed","_law_most","_law_steps"] ["_law_bag_here","_law_axes"] (aP B9):=bo aJ
theorem Vp(F:FA K mg "_law_item" B9)(B:bw mg)(eE:aE P w K mg au "_law_take" 1 mR)(a0k:aE P w K mg au "_law_name" 2 (Hr K)):aE P w K mg au "_law_item" 3 (Hw K):=by
 refine F.has IU (λvs H Q E h=>?_) (λ_ _ _ _ _ _=>da λ_ _=>rfl) (λf aG A outer s H vs Q E hr h=>?_)
 ·obtain⟨p,ax,rfl,_⟩:=h
  rfl
 ·obtain⟨p,ax,rfl,bg,ax1,ax2,k⟩:=h
  have nd:=IU.nd;refine⟨_,(aF (pS 2 nd (pf eE hr (ao (pv 0) (ao aB ay)))) (aF (bB (bK (dC K Z hr.units) (pv 2) aB (bE _)) (aI (aR (eA (ao bu (ao (aL dr aB (pf eE hr (ao (pv 0) (ao aB ay)))) ay))))) bC) (aF (bB (bK (dC K Z hr.units) (pv 2) aB (bE _)) (aI (aR (eA (ao bu (ao (px K (fJ (ao bu (ao bu ay))) (pf eE hr (ao (pv 0) (ao aB ay)))) ay))))) bC) (aF (bB (bK (dC K Z hr.units) (pv 2) aB (bE _)) (aI (aR (eA (ao bu (ao (pf a0k hr (ao (pv 0) ay)) ay))))) bC) (aF (pS 3 nd (aL dr aB (pf eE hr (ao (pv 0) (ao aB ay))))) (aF (pS 4 nd (px K (fJ (ao aB (ao aB (ao aB ay)))) (pf eE hr (ao (pv 0) (ao aB ay))))) (aF (Cc (i0:=5) nd Z (Or.inl Z) (N:=["_law_axis","_law_most","_law_bag_here"]) (js:=[none,some 4,some 0]) Z Z Z (oK Z (B.at "range") (ao (pv 1) ay)) (λ_ _ _ _ _=>(ba 0 (show List.Nodup (["_law_axis","_law_most","_law_bag_here"]:List Str) by decide+kernel))) (λ_ _ _ _ _=>cX) (λ_ _ _ _ _=>(aL jW (pf eE hr (ao (pv 2) (ao (aL dr (aL bU aB (pv 1)) aB) ay))) (pv 1)))) (aF (jT (bB (dg (cD (cw (x:="any") (O7 K Z Z) Z (B.at "any") P0 (ao (pv 5) ay)))) (aI (eu aB (oN (pv 5) (pf eE hr (ao (pv 0) (ao (pv 1) ay))) set_list))) bC)) (aI (aR (eA (ao bu (ao (cE (x:="tuple") (j7 K Z) Z (B.at "tuple") gD (ao (pv 5) ay)) (ao (pv 3) ay)))))))))))))),?_⟩;refine⟨_,Z,p,6,Z,bg,az,az,λso H1 s0 s1 b1=>?_⟩;refine⟨_,Z,.inl ⟨_,_,Z,Z,_,Z,?_⟩⟩;refine eJ (λhc=>?_) (λhc=>?_)
  ·refine⟨_,Z,p,1000,Z,b1.bI,az,az,λn H2 n0 n1 b2=>?_⟩
   refine⟨_,_,Z,Z,bW Z,λt H3 n3=>?_⟩;exact k (.ref t) _ none H3 (eX (aQ.of n3.at') (ck (bP _) (ck (ek _) df))) (.Ct (.inl ⟨_,Z,bp,bp⟩)) (b1.trans (b2.trans (.eU b2.bI n3.same)))
  refine⟨_,Z,.inl ⟨_,_,Z,Z,_,Z,?_⟩⟩;refine eJ (λhc=>?_) (λhc=>?_)
  ·refine⟨bW Z,λc H2 n2=>?_⟩
   have b2:bG p H1 H2:=.eU b1.bI n2.same;have cp:c≠p:=λz=>b1.bI.ne (z▸n2.no);refine⟨_,Z,p,2,Z,b2.bI,az,az,λi H3 i0 i1 b3=>?_⟩;have hi:∃z:Str,dY ([.str "up",.str "down"]:List V) i=some (.str z)/\cA 0 (.str z)/\Cr "tool" z:=by
    rcases(show i=0\/i=1 by omega)with rfl|rfl
    ·exact⟨"up",Z,⟨aJ,aJ⟩,.inl ⟨Z,.inl Z⟩⟩
    ·exact⟨"down",Z,⟨aJ,aJ⟩,.inl ⟨Z,.inr Z⟩⟩
   obtain⟨z,ez,Cv,Ul⟩:=hi;refine .inl ⟨c,_,_,_,Z,Z,aH.of (b3.same _ _ cp n2.at'),ez,bW Z,λt H4 n4=>?_⟩;exact k (.ref t) _ none H4 (eX (aQ.of n4.at') (ck (bP _) (ck (bP _) df))) (.Ct (.inr ⟨_,_,Z,.inl Z,Cv,Ul⟩)) (b1.trans (b2.trans (b3.trans (.eU b3.bI n4.same))))
  refine⟨_,Z,.inl ⟨_,_,Z,Z,_,Z,?_⟩⟩;refine eJ (λhc=>?_) (λhc=>?_)
  ·refine⟨_,Z,p,Z,b1.bI,λz H2 Cv nz b2=>⟨bW Z,λt H3 n3=>?_⟩⟩
   exact k (.ref t) _ none H3 (eX (aQ.of n3.at') (ck (bP _) (ck (bP _) df))) (.Ct (.inr ⟨_,_,Z,.inr Z,Cv,.inr ⟨Z,nz⟩⟩)) (b1.trans (b2.trans (.eU b2.bI n3.same)))
  refine⟨_,Z,p,20,Z,b1.bI,az,az,λsp H2 p0 p1 b2=>?_⟩;refine⟨_,_,Z,Z,?_⟩;refine⟨bW Z,λc H3 n3=>?_⟩;have b3:bG p H2 H3:=.eU b2.bI n3.same;have cp:c≠p:=λz=>b2.bI.ne (z▸n3.no);refine⟨_,Z,p,3,Z,b3.bI,az,az,λi H4 i0 i1 b4=>?_⟩;have hm:∃m:Int,dY ([.int 3,.int 20,.int 100]:List V) i=some (.int m)/\1<=m/\m<=100:=by
   rcases(show i=0\/i=1\/i=2 by omega)with rfl|rfl|rfl
   ·exact⟨3,Z,az,az⟩
   ·exact⟨20,Z,az,az⟩
   ·exact⟨100,Z,az,az⟩
  obtain⟨m,em,m1,m2⟩:=hm;refine .inl ⟨c,_,_,_,Z,Z,aH.of (b4.same _ _ cp n3.at'),em,?_⟩;have pK:=b1.trans (b2.trans (b3.trans b4));refine⟨_,Z,_,Z,bp,bp,λD H5 nD=>?_⟩;refine ER (J:=mE 0 ax) (p:=p) (H:=H4) ax _ nD pK.bI bp (λi=>.int (0+(i:Int))) (λi H3 hi _=>⟨hi,λy H4 ⟨e,q⟩=>⟨e,q⟩⟩) (λH3 _=>bq _) (λz=>(z.natAbs:Int)<=m) ?_ ?_
  ·intro i H6 Q' hi b6 hq
   refine⟨_,Z,_,Z,_,_,Z,Z,.of_left (cH az az),_,_,Z,Z,p,2*m+1,Z,b6.bI,bp,bp,λd H7 d0 d1 b7=>?_⟩;exact⟨_,Z,_,_,Z,Z,hq _ _ bp b7⟩
  intro H6 is b6 d6 l6 NW;have F7:=pK.trans b6;have lp:D≠p:=λz=>pK.bI.ne (z▸nD.no);have nl:H D=none:=by cases e:H D with |none=>rfl |some o=>have:=pK.same _ _ lp e;rw[nD.no]at this;cases this
  refine⟨λO H7=>bG p H H7/\∃(is:List Int),H7 D=some (.lst (is.map V.int))/\eH ax 100 is/\O=[some (.ref p),some (.int ax),some (.int so),some (.int (1+sp)),some (.int m),some (.ref D)],?_,?_⟩
  ·refine⟨_,Z,D,is,Z,.inl (aH.of d6),_,Z,?_⟩
   cases ha:is.any (· !=0)with |false=>
    refine bF ?_;refine⟨_,Z,_,Z,_,Z,p,(ax:Int),Z,F7.bI,bp,bp,λix H7 i0 i1 b7=>?_⟩;have d7:=b7.same _ _ lp d6;refine⟨D,_,ix,ix.toNat,Z,Z,d7,?_,?_⟩
    ·unfold gc;rw[aU i0,aU (by rw[bD,l6];exact i1)]
    refine⟨?_,is.set ix.toNat 1,?_,⟨?_,?_,?_⟩,Z⟩
    ·have NY:=F7.trans b7
     refine⟨?_,λb o n e=>?_⟩
     ·obtain⟨c',m',e,ok⟩:=NY.bI
      exact⟨c',m',by rw[bj lp.symm];exact e,ok⟩
     ·rw[bj (ft e nl)];exact NY.same b o n e
    ·rw[bV,zF]
    ·rw[FW];exact l6
    ·intro z hz
     rcases List.mem_or_eq_of_mem_set hz with h|h
     ·have:=NW z h;omega
     ·rw[h];decide
    ·exact⟨1,List.mem_iff_getElem.mpr ⟨ix.toNat,by rw[FW];omega,by rw[List.getElem_set_self]⟩,az⟩ |true=>refine bc ?_;refine⟨F7,is,d6,⟨l6,λz hz=>by have:=NW z hz;omega,?_⟩,Z⟩;obtain⟨z,hz,h0⟩:=Pe.mp ha;exact⟨z,hz,by simpa using h0⟩
  rintro O H7 ⟨b7,is,d7,ok,rfl⟩;refine⟨_,Z,D,_,Z,.inl ⟨aH.of d7,λq H8 n8=>?_⟩⟩;refine⟨_,Z,bW Z,λt H9 n9=>?_⟩;refine k (.ref t) (du is (1+sp)) (some (is,1+sp)) H9 (eX (aQ.of n9.at') (ck (bP _) (ck (eX (aQ.of (n9.same _ _ n8.at')) (mU is)) (ck (ek _) df)))) ⟨.inl ⟨is,_,Z,Z⟩,λns sp e=>by cases e;exact⟨ok,bp,bp⟩,λz=>nomatch z⟩ (b7.trans (.eU b7.bI (n8.same.trans n9.same)))
end
end Lw
set_option maxHeartbeats 2000000
namespace Lw
open PySem PySem.Spec PyProof.Rows L2 Ln Wk
open Tm (numS numIn? figs isFig Free)
open Ow (Itm)
section
variable {P:af}{w:World}{K:aa}{mg:bf}{au:Heap}
theorem uk(sep a:Str)(as:List Str)(h:as≠[]):Txt.join sep (a::as)=a++sep++Txt.join sep as:=by show Builtin.Str.glued sep (a::as)=a++sep++Builtin.Str.glued sep as;rw[vE,vE];cases as with |nil=>exact(h Z).elim |cons b r=>rfl
theorem join_snoc(sep b:Str):∀(as:List Str),as≠[]->Txt.join sep (as++[b])=Txt.join sep as++sep++b |[],h=>(h Z).elim |[a],_=>rfl |a::c::r,_=>by have e:=join_snoc sep b (c::r) (by simp);rw[List.cons_append,uk sep a (c::r++[b]) (by simp),e,uk sep a (c::r) (by simp)];simp only[FG]
theorem Df(ns:List Int)(sp:Int)(h:ns≠[]):cY (du ns sp)=Txt.join ⟨#[32]⟩ ("line"::(ns.map numS++[numS sp])):=by
 have hn:ns.map numS≠[]:=by simpa using h
 rw[xP,<-oq,uk _ _ _ (by simp),join_snoc _ _ _ hn];have e:("line ":Str)="line"++" ":=by decide+kernel
 rw[e];unfold jA;simp only[FG]
theorem yp{c:Nat}{a b:Str}(ha:Free c a)(hb:Free c b):Free c (a++b):=λh=>by rw[sD,sM,jN]at h;exact h.elim ha hb
theorem Mn{c:Nat}{sep:Str}(hs:Free c sep):∀l:List Str,(∀a∈l,Free c a)->Free c (Txt.join sep l) |[],_=>λh=>by have e:(Txt.join sep []).cps.toList=[]:=rfl;rw[e]at h;cases h |[x],h=>h x (.head _) |x::y::r,h=>by rw[uk _ _ _ (by simp)];exact yp (yp (h x (.head _)) hs) (Mn hs (y::r) λa ha=>h a (.tail _ ha))
theorem CG(i:Int):dF (numS i):=λc hc=>by cases i with |ofNat m=>rw[show(numS (Int.ofNat m)).cps.toList=_ from Tm.uZ m]at hc;have:=Tm.lu m c hc;omega |negSucc m=>
 rw[Tm.yP]at hc;rcases bS.mp hc with e|hc
 ·omega
 ·have:=Tm.lu (m+1) c hc
  omega
structure mF(n:Nat)(d:ah):Prop where
 rt:qU n (cY d)=d
 len:(cY d).length<=400
 ok:pQ (cY d)
 fr:Free 10 (cY d)
 ti:TI d
 oS:cA 8 d
theorem jG{c:Nat}{z:Str}(h:(z.cps.toList.all λx=>x !=c)=true):Free c z:=λhc=>by have:=fb.mp h c hc;simp at this
theorem Wq{c:Nat}{z:Str}(h:lW z=true)(hc:c<97):Free c z:=λh'=>by unfold lW at h;rw[dm]at h;have:=fb.mp h.2 c h';unfold xG at this;simp at this;omega
theorem Ke{c:Nat}{w s:Str}(h:Cr w s)(hc:c=10\/c=32):Free c s:=by
 rcases h with⟨_,rfl|rfl⟩|⟨_,hn⟩
 ·rcases hc with rfl|rfl<;>exact jG aJ
 ·rcases hc with rfl|rfl<;>exact jG aJ
 ·exact Wq hn bp
theorem CS{i:Int}(h:i.natAbs<10^40):nI (numS i)= .int i:=by unfold nI;have:(numS i).length<=41:=Gk h;rw[Tm.CH bp];rfl
theorem Wt{ns:List Int}(h:∀z∈ns,z.natAbs<10^40):(ns.map numS).map nI=ns.map PyData.int:=by rw[vP];exact List.map_congr_left λz hz=>CS (h z hz)
theorem Lu{n:Nat}{d:ah}{ws:List Str}(e:cY d=Txt.join ⟨#[32]⟩ ws)(hn:ws≠[])(hf:∀z∈ws,Free 32 z)(ht:fm ws=d)(hi:hW n d=true):qU n (cY d)=d:=by unfold qU;rw[e,oq,Tm.GW hn hf,ht,hi];rfl
theorem gL.tx{n:Nat}{d:ah}{o:Itm}(h:gL n d o)(n1:1<=n)(n3:n<=3):mF n d:=by have hi:=h.is.1;have eS:dF (" ":Str):=oQ aJ;have Mj:Free 10 (" ":Str):=jG aJ;cases o with
 |some q=>
  obtain⟨ns,sp⟩:=q;have ed:=jf h.it;subst ed;obtain⟨eD,s1,s2⟩:=h.ln ns sp rfl;have hb:∀z∈ns,z.natAbs<10^40:=λz hz=>by have:=eD.bd z hz;omega
  have hs:sp.natAbs<10^40:=by omega
  have cQ:ns≠[]:=λe=>by rw[e]at eD;have:=eD.len;simp at this;omega
  have ti:TI (du ns sp):=.inl ⟨ns,sp,Z,by rw[eD.len];exact n3,hb,hs⟩;refine⟨Lu (Df ns sp cQ) (by simp) (λz hz=>?_) ?_ hi,uo ti,?_,?_,ti,h.is.2.1⟩
  ·rcases bS.mp hz with rfl|hz
   ·exact jG aJ
   ·rcases jN.mp hz with hz|hz
    ·obtain⟨i,_,rfl⟩:=cB.mp hz
     exact Tm.mW az az
    ·rw[e9.mp hz];exact Tm.mW az az
  ·obtain⟨x,xs,rfl⟩:∃x xs,ns=x::xs:=by cases ns with|nil=>exact(cQ rfl).elim|cons x xs=>exact⟨x,xs,rfl⟩
   have e1:(x::xs).map numS++[numS sp]=numS x::(xs.map numS++[numS sp]):=rfl;have e2:(numS x::(xs.map numS++[numS sp])).map nI=(x::xs).map PyData.int++[.int sp]:=by rw[<-e1,lF,Wt hb];show _++[nI (numS sp)]=_;rw[CS hs]
   rw[e1,zP,e2,iC,bD,FV,List.take_left' (by simp),P7,List.getLast?_append,List.getLast?_singleton];rfl
  ·rw[Df ns sp cQ,<-oq]
   refine dF.join eS λa ha=>?_;rcases bS.mp ha with rfl|ha
   ·exact oQ aJ
   ·rcases jN.mp ha with ha|ha
    ·obtain⟨i,_,rfl⟩:=cB.mp ha
     exact CG i
    ·rw[e9.mp ha];exact CG sp
  ·rw[Df ns sp cQ,<-oq]
   refine Mn Mj _ λa ha=>?_;rcases bS.mp ha with rfl|ha
   ·exact jG aJ
   ·rcases jN.mp ha with ha|ha
    ·obtain⟨i,_,rfl⟩:=cB.mp ha
     exact Tm.mW az az
    ·rw[e9.mp ha];exact Tm.mW az az |none=>
  have key:∀(w y:Str)(u:ah),d= .tuple [.str w,u]->cY d=w++" "++y->w≠"line"->(if w="wait" then nI y else .str y)=u->Free 32 w->Free 32 y->Free 10 w->Free 10 y->dF w->dF y->TI d->mF n d:=λw y u e1 e2 hw hu f1 f2 f3 f4 o1 o2 ti=>by
   have ej:cY d=Txt.join ⟨#[32]⟩ [w,y]:=by rw[e2,<-oq];rfl
   refine⟨Lu ej (by simp) (λz hz=>?_) ?_ hi,uo ti,?_,?_,ti,h.is.2.1⟩
   ·simp only[bS,eR,jK]at hz
    rcases hz with rfl|rfl
    ·exact f1
    ·exact f2
   ·rw[wz hw,hu,e1]
   ·rw[e2];exact(o1.app eS).app o2
   ·rw[e2];exact yp (yp f3 Mj) f4
  rcases h.ot rfl with⟨z,rfl,z1,z2⟩|⟨w,s,rfl,hw,mV,on⟩
  ·have hb:z.natAbs<10^40:=by omega
   exact key "wait" (numS z) (.int z) Z Z aJ (by rw[aU Z,CS hb]) (jG aJ) (Tm.mW az az) (jG aJ) (Tm.mW az az) (oQ aJ) (CG z) (.inr (.inl ⟨_,_,Z,.inl Z,hb⟩))
  ·have hl:s.length<=100:=by
    rcases on with⟨_,rfl|rfl⟩|⟨_,hn⟩
    ·decide+kernel
    ·decide+kernel
    ·unfold lW at hn
     simp only[dm,vB]at hn;omega
   have cQ:w≠"line"/\w≠"wait"/\Free 32 w/\Free 10 w/\dF w:=by
    rcases hw with rfl|rfl
    ·exact⟨aJ,aJ,jG aJ,jG aJ,oQ aJ⟩
    ·exact⟨aJ,aJ,jG aJ,jG aJ,oQ aJ⟩
   exact key w s (.str s) Z Z cQ.1 (by rw[aV cQ.2.1]) cQ.2.2.1 (Ke on (.inr Z)) cQ.2.2.2.1 (Ke on (.inl Z)) cQ.2.2.2.2 (Km mV) (.inr (.inr ⟨_,_,Z,.inr hw,hl⟩))
theorem mF.ne{n:Nat}{d:ah}(h:mF n d):d≠ .none:=by rcases h.ti with⟨ns,sp,rfl,_⟩|⟨w,i,rfl,_⟩|⟨w,z,rfl,_⟩<;>exact λz=>nomatch z
end
end Lw
set_option maxHeartbeats 1000000
namespace Lw
open PySem PySem.Spec PyProof.Rows L2 Rt Ln Cn Pn
open Ow (topR cornO mnO betR atO ownF leadF ownL OkI OkIs)
section
variable {P:af}{w:World}{K:aa}{mg:bf}{au:Heap}
inductive a5A(K:aa)(vs:List V)(H:Hp)(Q:VK):Prop |mk (m:_)(iv:_)(l:_)(ys:_)(rs:_)(r:_)(f:_)(j:_)(t:_)(ds:_)(os:_)(g:_)(h0:vs=[m,iv,.ref l])(h1:RD K H m (hV rs r f j t))(h2:kF rs r f j t)(h3:RD K H iv (.tuple ds))(h4:gh rs.length ds os)(h5:ds.length<=30)(h6:H l=some (.lst ys))(h7:aK K H ys ((lst os.length g).map cx))(h8:(∀i,i<=os.length->Bd 900 (g i)))(h9:∀l ys H',H l=none->H' l=some (.lst ys)->aK K H' ys ((lst os.length (fl os.length (leadF os) (2*f) g)).map cx)->aA H H'->Q (.ref l) H')
def HA(K:aa):Sp:=λvs H Q _=>a5A K vs H Q
abbrev Bn:Stmt:=top 67
theorem Jb:bh ["machine","items","squares","fall","kept","i"] ["machine","items","squares"] (aP Bn):=bo aJ
theorem VB(F:FA K mg "kept_by_fall" Bn)(B:bw mg)(la:aE P w K mg au "is_line" 1 (qo K))(p9:aE P w K mg au "lead_of" 1 (lL K))(DF:aE P w K mg au "plus_whole" 4 (wI K))(uD:aE P w K mg au "least" 2 (t7 K)):aE P w K mg au "kept_by_fall" 5 (HA K):=by
 refine F.has Jb (λvs H Q E h=>?_) (λ_ _ _ _ _ _=>lA λ_ _ _=>rfl) (λfa aG A outer s H vs Q E hr h=>?_)
 · obtain⟨m,iv,l,ys,rs,r,f,j,t,ds,os,g,rfl,_⟩:=h
   rfl
 · obtain⟨m,iv,l,ys,rs,r,f,j,t,ds,os,g,rfl,rm,aO,ri,row,hz,dl,BS,bg,k⟩:=h
   have nd:=Jb.nd;refine⟨_,(aF (pS 3 nd (px K (pv 0) aB)) (aF (pS 4 nd (cE (x:="list") (De K Z) Z (B.at "list") OZ (ao (pv 2) ay))) (aF (kO jM Z (Tx Z (B.at "reversed") (ao (cE (x:="range") a3v rfl (B.at "range") PyProof.Rows.boot_range (ao (eB K B (ao (pv 1) ay)) ay)) ay)) (ba 5 nd) (aI (bB (cD (pf la hr (ao (px K (pv 1) (pv 5)) ay))) (aI (eu (pf uD hr (ao (fJ (ao (px K (pv 4) (pv 5)) (ao (pf DF hr (ao (px K (pv 4) (aL dr (pv 5) aB)) (ao (aL bU (aL bU aB (pv 3)) (pf p9 hr (ao (px K (pv 1) (pv 5)) ay))) ay))) ay))) ay)) (oN (pv 4) (pv 5) set_list))) bC))) (aI (aR (pv 4)))))),?_⟩;obtain⟨ma,mb,rfl,gf,iR⟩:=lY rm;obtain⟨ia,xs,rfl,hi,gG⟩:=ri.cj;have lx:=gG.length;have ll:=row.len;have lr:=aO.len;have hL:∀i m,leadF os i=some m->(2*f*(m:Int)).natAbs<2^24:=λi m e=>oa aO.f1.1 aO.f1.2 (oZ row.kS e);have FB:∀i,i<=os.length->Bd 1700 (fl os.length (leadF os) (2*f) g i):=λi hi=>(Ep bg hL i hi).mono aw;refine⟨_,Z,.inr ⟨ma,_,2,.int f,Z,Z,gf,Z,?_⟩⟩;refine⟨_,Z,l,ys,Z,.inl (aH.of dl),λD H1 n1=>?_⟩;refine⟨_,Z,ia,_,Z,.inr (hi.go n1.same),_,Z,λpr H2 n2=>?_⟩;refine⟨pr,_,Z,n2.at',aw,aw,?_⟩;have eN:((xs.length:Int)).toNat=os.length:=by lia
   rw[eN];refine a1j (Pv:=λi O H5=>aA H H5/\∃zs v1,H5 D=some (.lst zs)/\aK K H5 zs ((lst os.length λk=>if os.length<=k+i then fl os.length (leadF os) (2*f) g k else g k).map cx)/\O=[some (.ref ma),some (.ref ia),some (.ref l),some (.int f),some (.ref D),v1]) ?_ ?_ ?_
   · refine⟨n1.same.trans n2.same,ys,none,n2.same _ _ n1.at',?_,Z⟩
     rw[jC (g:=λk=>if os.length<=k+0 then fl os.length (leadF os) (2*f) g k else g k) (g':=g)]
     ·exact aK.mono (n1.same.trans n2.same) _ BS
     · intro k hk
       show g k=if os.length<=k+0 then _ else g k;split
       · next h => have:k=os.length:=by lia
                   subst this;exact nE.symm
       ·rfl
   · rintro i O H3 rk ⟨s3,zs,v1,dz,rz,rfl⟩
     obtain⟨x,hx⟩:∃x,xs[os.length-1-i]? =some x:=⟨_,cC (show os.length-1-i<xs.length by lia)⟩;generalize hc:os.length-1-i=c at hx;have lj:c<os.length:=by lia
     have eI:((os.length:Int)-1-(i:Int))=(c:Int):=by lia
     rw[eI];obtain⟨d,ed,rd⟩:=gG.get' c hx;obtain⟨o,eo,it⟩:=row.get ed;have lz:=rz.length;rw[bD,jB]at lz;have nP:dY xs (c:Int)=some x:=cM aw (by simpa using hx);refine⟨_,Z,_,Z,.inr ⟨ia,_,_,_,Z,Z,hi.go s3,nP,?_⟩⟩;refine⟨x,d,o,Z,RD.mono s3 _ rd,it,_,Z,?_⟩;cases o with
     |none=>
       refine bc ?_;refine⟨s3,zs,_,dz,?_,Z⟩;rw[jC (g:=λk=>if os.length<=k+(i+1)then fl os.length (leadF os) (2*f) g k else g k) (g':=λk=>if os.length<=k+i then fl os.length (leadF os) (2*f) g k else g k)]
       ·exact rz
       · intro k _
         show(if os.length<=k+i then _ else g k)=if os.length<=k+(i+1)then _ else g k;by_cases h1:os.length<=k+i
         ·rw[aU h1,aU aw]
         · rw[aV h1]
           by_cases h2:k=c
           ·subst h2;rw[aU aw,pE lj (xJ eo)]
           ·rw[aV aw] |some q=>
       obtain⟨ns,sp⟩:=q;refine bF ?_;have dv:=jf it;subst dv;obtain⟨eD,_,_⟩:=row.ok c ns sp eo;obtain⟨z1,kB⟩:∃z,zs[c+1]? =some z:=⟨_,cC (show c+1<zs.length by lia)⟩;obtain⟨z0,kC⟩:∃z,zs[c]? =some z:=⟨_,cC (show c<zs.length by lia)⟩;have R1:bL K H3 z1 (fl os.length (leadF os) (2*f) g (c+1)):=by
        obtain⟨d1,e1,r1⟩:=rz.get' (c+1) kB;rw[bJ,je _ (show c+1<=os.length by lia)]at e1;cases e1;have:os.length<=c+1+i:=by lia
        simp only[aU this]at r1;exact ja r1
       have R0:bL K H3 z0 (g c):=by
        obtain⟨d1,e1,r1⟩:=rz.get' c kC;rw[bJ,je _ (show c<=os.length by lia)]at e1;cases e1;have:¬os.length<=c+i:=by lia
        simp only[aV this]at r1;exact ja r1
       have rM:((c:Int)+1).toNat=c+1:=by lia
       have pL:dY zs ((c:Int)+1)=some z1:=cM aw (by rw[rM];exact kB);have pM:dY zs (c:Int)=some z0:=cM aw (by simpa using kC);refine⟨_,Z,_,Z,.inl ⟨D,_,_,_,Z,Z,aH.of dz,pM,?_⟩⟩;refine⟨_,Z,_,Z,_,_,Z,Z,.inl ⟨D,_,_,_,Z,Z,aH.of dz,pL,?_⟩⟩;refine⟨_,Z,_,_,Z,Z,.of_left (cH az az),?_⟩;refine⟨_,Z,_,Z,.inr ⟨ia,_,_,_,Z,Z,hi.go s3,nP,?_⟩⟩;refine⟨x,ns,sp,Z,RD.mono s3 _ rd,eD.ne,by rw[eD.len];lia,λH4 s4=>?_⟩;have MH:=aO.f1;refine⟨_,_,Z,Z,.of_left (cH aw aw),?_⟩;have us:=hL c _ (nh eo);refine⟨z1,_,_,Z,R1.go s4,(FB (c+1) aw).mono az,us,λu H5 ru s5=>?_⟩;refine⟨bW Z,λl2 H6 n6=>?_⟩;have fo:=s4.trans (s5.trans n6.same);have Oe:=R0.go fo;have Ru:=ru.go n6.same;have B1:Bd 2000 (g c):=(bg _ aw).mono az;have B2:Bd 2000 (fl os.length (leadF os) (2*f) g (c+1)+((2*f*(aM ns:Int):Int):Rat)):=(rW (FB (c+1) aw) us).mono az;refine⟨l2,[z0,u],[_,_],Z,aH.of n6.at',⟨Oe,B1,Ru,B2,trivial⟩,by simp,λc' v q e1 e2 hq=>?_⟩;have kj:mn (g c) (fl os.length (leadF os) (2*f) g (c+1)+((2*f*(aM ns:Int):Int):Rat))=q:=by
        refine oX ?_ (hq _ (by simp)) (hq _ (by simp))
        match c',e2 with |0,e2=>cases e2;exact .inl rfl |1,e2=>cases e2;exact .inr rfl
       have Rv:bL K H6 v q:=by match c',e1,e2 with |0,e1,e2=>cases e1;cases e2;exact Oe |1,e1,e2=>cases e1;cases e2;exact Ru
       have kE:=fo _ _ dz;have um:gc zs.length (c:Int)=some c:=by unfold gc;rw[aU aw,aU aw];simp
       refine⟨_,Z,_,Z,D,zs,_,_,Z,Z,kE,um,?_⟩;refine⟨λb o e=>?_,_,_,bV,?_,Z⟩
       ·rw[bj (ft e n1.no)];exact fo b o (s3 b o e)
       · have h:=aK.wU (i:=c) kE (aK.mono fo _ rz) Rv.rd (qM _) (oH _)
         rw[<-zF]at h;have e:(lst os.length λk=>if os.length<=k+i then fl os.length (leadF os) (2*f) g k else g k).set c q=lst os.length λk=>if os.length<=k+(i+1)then fl os.length (leadF os) (2*f) g k else g k:=by
          rw[<-xH (g:=λk=>if os.length<=k+i then fl os.length (leadF os) (2*f) g k else g k) (g':=λk=>if os.length<=k+(i+1)then fl os.length (leadF os) (2*f) g k else g k) (i:=c)]
          · have:os.length<=c+(i+1):=by lia
            simp only[aU this];rw[nF lj (nh eo),kj]
          · intro k _ hk
            show(if os.length<=k+(i+1)then _ else g k)=if os.length<=k+i then _ else g k;by_cases h1:os.length<=k+i
            ·rw[aU h1,aU aw]
            ·rw[aV h1,aV aw]
         rw[e]at h;exact h
   · rintro O H3 ⟨s3,zs,v1,dz,rz,rfl⟩
     rw[jC (g:=λk=>if os.length<=k+os.length then fl os.length (leadF os) (2*f) g k else g k) (g':=fl os.length (leadF os) (2*f) g) (λk hk=>by show _=if os.length<=k+os.length then _ else _;rw[aU aw])]at rz;exact⟨_,Z,k D zs H3 n1.no dz rz s3⟩
def qv(r f j rate:Int)(os:List Itm):Nat->Rat:=gq os.length (ownF j rate os) (leadF os) (2*r) (2*f)
def gZ(r f j rate:Int)(os:List Itm):List Rat:=lst os.length (qv r f j rate os)
inductive a55(K:aa)(vs:List V)(H:Hp)(Q:VK):Prop |mk (m:_)(iv:_)(rate:_)(rs:_)(r:_)(f:_)(j:_)(t:_)(ds:_)(os:_)(h0:vs=[m,iv,.int rate])(h1:RD K H m (hV rs r f j t))(h2:kF rs r f j t)(h3:RD K H iv (.tuple ds))(h4:gh rs.length ds os)(h5:ds.length<=30)(h6:10<=rate)(h7:rate<=200)(h8:∀l ys H',H l=none->H' l=some (.lst ys)->aK K H' ys ((gZ r f j rate os).map cx)->aA H H'->Q (.ref l) H')
def zZ(K:aa):Sp:=λvs H Q _=>a55 K vs H Q
abbrev AH:Stmt:=top 65
theorem Iq:bh ["machine","items","rate","risen"] ["machine","items","rate"] (aP AH):=bo aJ
theorem V1(F:FA K mg "plan_of" AH)(B:bw mg)(Yt:aE P w K mg au "own_bounds" 8 (A1 K))(YQ:aE P w K mg au "kept_by_rise" 5 (Hk K))(YR:aE P w K mg au "kept_by_fall" 5 (HA K)):aE P w K mg au "plan_of" 9 (zZ K):=by
 refine F.has Iq (λvs H Q E h=>?_) (λ_ _ _ _ _ _=>lA λ_ _ _=>rfl) (λfa aG A outer s H vs Q E hr h=>?_)
 ·obtain⟨m,iv,rate,rs,r,f,j,t,ds,os,rfl,_⟩:=h
  rfl
 ·obtain⟨m,iv,rate,rs,r,f,j,t,ds,os,rfl,rm,aO,ri,row,hz,fS,fR,k⟩:=h
  have nd:=Iq.nd;refine⟨_,(aF (pS 3 nd (pf YQ hr (ao (pv 0) (ao (pv 1) (ao (pf Yt hr (ao (pv 0) (ao (pv 1) (ao (pv 2) ay)))) ay))))) (aI (aR (pf YR hr (ao (pv 0) (ao (pv 1) (ao (pv 3) ay))))))),?_⟩;have ll:=row.len;have hB:=Ow.Cq aO.j1.1 aO.j1.2 fS fR row.kS;have hL:∀i m,leadF os i=some m->(2*r*(m:Int)).natAbs<2^24:=λi m e=>oa aO.r1.1 aO.r1.2 (oZ row.kS e);refine⟨_,Z,_,Z,_,Z,_,Z,_,Z,m,iv,rate,rs,r,f,j,t,ds,os,Z,rm,aO,ri,row,bp,fS,fR,λl1 y1 H1 nl1 d1 r1 s1=>?_⟩;refine⟨m,iv,l1,y1,rs,r,f,j,t,ds,os,ownF j rate os,Z,RD.mono s1 _ rm,aO,RD.mono s1 _ ri,row,hz,d1,r1,hB,λl2 y2 H2 nl2 d2 r2 s2=>?_⟩;have fZ:=s1.trans s2;refine⟨_,Z,_,Z,_,Z,m,iv,l2,y2,rs,r,f,j,t,ds,os,_,Z,RD.mono fZ _ rm,aO,RD.mono fZ _ ri,row,hz,d2,r2,λi hi=>(vg hB hL i).mono bp,λl3 y3 H3 Wg d3 r3 s3=>?_⟩;have nl:H l3=none:=by cases e:H l3 with |none=>rfl |some o=>have:=fZ _ _ e;rw[Wg]at this;cases this
  exact k l3 y3 H3 nl d3 r3 (fZ.trans s3)
open Wk
def RowW(ds:List ah)(os:List Itm):Prop:=∀(i:Nat)(d:ah),os[i]? =some none->ds[i]? =some d->rX d
theorem RowW.snoc{ds:List ah}{os:List Itm}{d:ah}{o:Itm}(h:RowW ds os)(hl:ds.length=os.length)(hd:o=none->rX d):RowW (ds++[d]) (os++[o]):=by
 intro i x e1 e2;rcases oy e1 with h1|⟨h1,M5⟩
 ·rcases oy e2 with h2|⟨h2,_⟩
  ·exact h i x h1 h2
  ·have:=(dQ.mp h1).1;lia
 ·rcases oy e2 with h2|⟨_,pC⟩
  ·have:=(dQ.mp h2).1;lia
  ·subst pC;exact hd M5.symm
theorem PD{j:Int}(h:j.natAbs<2^64):Wd j:=vN h aJ
inductive a5d(vs:List V)(H:Hp)(Q:VK):Prop |mk (p:Int)(q:Int)(h0:vs=[.int p,.int q])(h1:0<q)(h2:q<=10^6)(h3:p.natAbs<=10^9)(h4:Q (.int (ub p q)) H)
def A3:Sp:=λvs H Q _=>a5d vs H Q
abbrev AN:Stmt:=top 54
theorem Iz:bh ["p","q","size"] ["p","q"] (aP AN):=bo aJ
theorem V7(F:FA K mg "nearest" AN)(B:bw mg):aE P w K mg au "nearest" 1 A3:=by
 refine F.has Iz (λvs H Q E h=>?_) (λ_ _ _ _ _ _=>da λ_ _=>rfl) (λf aG A outer s H vs Q E hr h=>?_)
 ·obtain⟨p,q,rfl,_⟩:=h
  rfl
 ·obtain⟨p,q,rfl,q0,q1,p1,k⟩:=h
  have nd:=Iz.nd;refine⟨_,(aF (pS 2 nd (aL qE (aL dr (aL bU aB (cw (x:="abs") my Z (B.at "abs") nW (ao (pv 0) ay))) (pv 1)) (aL bU aB (pv 1)))) (aI (aR (jc (bK Ki (pv 0) aB (bE _)) (pv 2) (kQ kI (pv 2)))))),?_⟩;refine⟨_,Z,p,Z,_,_,Z,Z,.of_left (cH az az),_,Z,_,_,Z,Z,_,Z,_,_,Z,Z,.of_left (cH az az),_,_,Z,Z,⟨aw,PD aw⟩,?_⟩;have e:(2*(if p<0 then-p else p)+q)/(2*q)=wR p q:=by unfold wR;rw[<-Fc];rfl
  refine⟨_,Z,_,_,Z,Z,_,Z,?_⟩;unfold ub at k;rw[<-e]at k;refine eJ (λhc=>?_) (λhc=>?_)
  ·have hp:p>=0:=lE hc
   rw[aU hp]at k;exact⟨_,Z,k⟩
  ·have hp:¬p>=0:=λz=>hc (bR z)
   rw[aV hp]at k;exact⟨_,Z,_,Z,k⟩
def R6(ns:List Int)(k:Int):ah:=.tuple ((ns.map λz=>ub (k*z) (aM ns)).map PyData.int)
theorem Tj{k z:Int}(h:k.natAbs<=10^6)(g:(z.natAbs:Int)<=1000):(k*z).natAbs<=10^9:=by rw[o8];exact f9 (FO h (show z.natAbs<=1000 by lia)) az
inductive a4R(K:aa)(vs:List V)(H:Hp)(Q:VK):Prop |mk (v:_)(ns:_)(sp:_)(k:_)(h0:vs=[v,.int k])(h1:RD K H v (du ns sp))(h2:eH ns.length 1000 ns)(h3:ns.length<=1000)(h4:k.natAbs<=10^6)(h5:∀v' H',RD K H' v' (R6 ns k)->aA H H'->Q v' H')
def zW(K:aa):Sp:=λvs H Q _=>a4R K vs H Q
abbrev Ai:Stmt:=top 52
theorem HY:bh ["line","k","lead"] ["line","k"] (aP Ai):=bo aJ
theorem UC(F:FA K mg "stand_at" Ai)(B:bw mg)(p9:aE P w K mg au "lead_of" 1 (lL K))(YD:aE P w K mg au "nearest" 1 A3):aE P w K mg au "stand_at" 2 (zW K):=by
 refine F.has HY (λvs H Q E h=>?_) (λ_ _ _ _ _ _=>da λ_ _=>rfl) (λf aG A outer s H vs Q E hr h=>?_)
 ·obtain⟨v,ns,sp,k,rfl,_⟩:=h
  rfl
 ·obtain⟨v,ns,sp,kk,rfl,rd,ok,hz,hk,k⟩:=h
  have nd:=HY.nd;refine⟨_,(aF (pS 2 nd (pf p9 hr (ao (pv 0) ay))) (aI (aR (cE (x:="tuple") (j7 K Z) Z (B.at "tuple") gD (ao (dA (N:=["step","lead","k"]) (js:=[none,some 2,some 1]) rfl rfl rfl (jb K rfl (px K (pv 0) aB)) (λ_ _ _ _ _=>(ba 0 (show List.Nodup (["step","lead","k"]:List Str) by decide+kernel))) (λ_ _ _ _ _=>cX) (λ_ _ _ _ _=>(pf YD hr (ao (aL bU (pv 2) (pv 0)) (ao (pv 1) ay))))) ay))))),?_⟩;refine⟨_,Z,v,ns,sp,Z,rd,ok.ne,hz,λH1 s1=>?_⟩;obtain⟨a,b,rfl,ha,hb⟩:=kW (RD.mono s1 _ rd);obtain⟨lp,lm⟩:=ok.lead;refine⟨_,Z,.inr ⟨a,_,1,.ref b,Z,Z,ha,Z,b,Z,⟨_,hb⟩,λD H0 nw=>?_⟩⟩;refine nL (K:=K) (xs:=ns.map V.int) (ds:=(ns.map λz=>ub (kk*z) (aM ns)).map PyData.int) _ hb nw (by simp) (by simpa using hz) (jZ _) ?_ ?_
  ·intro i x d H2 Q' ex ed s2 hq
   rw[vP]at ed;obtain⟨n,en,rfl⟩:=ke ed;cases xE ex en;refine⟨_,Z,_,Z,_,_,Z,Z,.of_left (cH aw aw),_,Z,_,_,Z,aw,aw,Tj hk (ok.bd n (fP en)),?_⟩;exact hq _ _ (aA.refl _) (ek _)
  ·intro H' ys s2 d2 r2
   refine⟨D,_,Z,.inl ⟨aH.of d2,λt H4 n4=>?_⟩⟩;exact k _ _ (eX (aQ.of n4.at') (aK.mono n4.same _ r2)) (s1.trans (s2.trans n4.same))
open Classical in
theorem xj{rs:List Int}{r f j t rate:Int}{ds:List ah}{os:List Itm}(aO:kF rs r f j t)(row:gh rs.length ds os)(hz:ds.length<=30)(fS:10<=rate)(fR:rate<=200):∀i,i<=os.length->Bd 1700 (qv r f j rate os i):=λi hi=>by have ll:=row.len;have hB:=Ow.Cq aO.j1.1 aO.j1.2 fS fR row.kS;have hL:∀i m,leadF os i=some m->(2*r*(m:Int)).natAbs<2^24:=λi m e=>oa aO.r1.1 aO.r1.2 (oZ row.kS e);have rB:∀i m,leadF os i=some m->(2*f*(m:Int)).natAbs<2^24:=λi m e=>oa aO.f1.1 aO.f1.2 (oZ row.kS e);exact(Ep (b:=900) (λi hi=>(vg hB hL i).mono aw) rB i hi).mono aw
open Rn
def kN(m b d q p r s k t:V):List (Str×V):=[("machine",m),("begun_at",b),("done",d),("queue",q),("pace",p),("rate_now",r),("side",s),("mark",k),("stopping",t)]
structure fB(K:aa)(C:Addr):Prop where
 cl:gM K C
 lX:gj K C "machine"
 ue:gj K C "begun_at"
 xB:gj K C "done"
 kU:gj K C "queue"
 xA:gj K C "pace"
 KN:gj K C "rate_now"
 Wr:gj K C "side"
 Ws:gj K C "mark"
 CP:gj K C "stopping"
structure bX where
 rs:List Int
 r:Int
 f:Int
 j:Int
 t:Int
abbrev bX.D(M:bX):ah:=hV M.rs M.r M.f M.j M.t
abbrev bX.Ok(M:bX):Prop:=kF M.rs M.r M.f M.j M.t
structure cf where
 pl:List Int
 dn:Nat
 ds:List ah
 os:List Itm
 pc:Rat
 rate:Int
 side:Str
 mark:Str
 eg:Rn.pR
def vf(K:aa)(H:Hp)(v:V):Rn.pR->Prop |none=>v= .aZ |some (sq,st,gn)=>∃a u,v= .ref a/\aQ K H a [u,.int st,.int gn]/\bL K H u sq
structure dh(M:bX)(D:Nat)(S:cf):Prop where
 row:gh M.rs.length S.ds S.os
 rw:RowW S.ds S.os
 len:S.ds.length<=20
 fS:10<=S.rate
 fR:S.rate<=200
 dn:S.dn=0\/∃ns sp,S.os[0]? =some (some (ns,sp))/\S.dn<aM ns
 pl:S.pl.length=M.rs.length
 pd:Dd (D+10) S.pc
 pm:S.pc<=1600
 eg:a4p D S.pc S.eg
 D1:64<=D
 D2:D<=1500
structure cN(K:aa)(C:Addr)(H:Hp)(a q:Addr)(M:bX)(S:cf):Prop where
 ob:∃dx mv bv cP tv,H a=some (.ins C dx (kN mv bv (.int S.dn) (.ref q) cP (.int S.rate) (.str S.side) (.str S.mark) tv))/\RD K H mv M.D/\RD K H bv (cI S.pl)/\bL K H cP S.pc/\vf K H tv S.eg
 qu:∃ys,H q=some (.lst ys)/\aK K H ys S.ds
theorem bL.v{H H':Hp}{v:V}{q:Rat}(s:eG H H')(h:bL K H v q):bL K H' v q:=by obtain⟨p,rfl,hp⟩:=h;exact⟨p,Z,aQ.v s hp⟩
theorem vf.v{H H':Hp}{v:V}{t:Rn.pR}(s:eG H H')(h:vf K H v t):vf K H' v t:=by cases t with |none=>exact h |some q=>obtain⟨sq,st,gn⟩:=q;obtain⟨a,u,rfl,h1,h2⟩:=h;exact⟨a,u,Z,aQ.v s h1,bL.v s h2⟩
theorem cN.go{C:Addr}{H H':Hp}{a q:Addr}{M:bX}{S:cf}(h:cN K C H a q M S)(hn:cF S.ds=true)(s:eG H H')(ea:∀o,H a=some o->H' a=some o)(eq:∀o,H q=some o->H' q=some o):cN K C H' a q M S:=by obtain⟨⟨dx,mv,bv,cP,tv,e,r1,r2,r3,r4⟩,ys,uV,rq⟩:=h;exact⟨⟨dx,mv,bv,cP,tv,ea _ e,RD.v s _ (iP _ _ _ _ _) r1,RD.v s _ (hU _) r2,r3.v s,r4.v s⟩,ys,eq _ uV,aK.v s _ hn rq⟩
theorem cN.same{C:Addr}{H H':Hp}{a q:Addr}{M:bX}{S:cf}(h:cN K C H a q M S)(hn:cF S.ds=true)(s:aA H H'):cN K C H' a q M S:=h.go hn s.v (λo e=>s _ _ e) (λo e=>s _ _ e)
theorem cN.ne{C:Addr}{H:Hp}{a q:Addr}{M:bX}{S:cf}(h:cN K C H a q M S):a≠q:=by obtain⟨⟨dx,mv,bv,cP,tv,e,_⟩,ys,uV,_⟩:=h;exact nc e uV (by intro z;cases z)
theorem cN.v{C:Addr}{H H':Hp}{a q:Addr}{M:bX}{S:cf}(h:cN K C H a q M S)(b:cV [a,q] H H'):eG H H':=by
 obtain⟨⟨dx,mv,bv,cP,tv,e,_⟩,ys,uV,_⟩:=h;refine b.v λx hx o eo=>?_;simp only[bS,eR,jK]at hx;rcases hx with rfl|rfl
 ·rw[e]at eo;cases eo;trivial
 ·rw[uV]at eo;cases eo;trivial
inductive a4P(K:aa)(C:Addr)(G:bX->cf->Hp->VK->Prop)(vs:List V)(H:Hp)(Q:VK):Prop |mk (a:_)(q:_)(M:_)(D:_)(S:_)(h0:vs=[.ref a])(h1:cN K C H a q M S)(h2:dh M D S)(h3:M.Ok)(h4:G M S H Q)
def fG(K:aa)(C:Addr)(G:bX->cf->Hp->VK->Prop):Sp:=λvs H Q _=>a4P K C G vs H Q
abbrev Av:Stmt:=inClass (top 75) 4
theorem RL:bh ["self"] ["self"] (aP Av):=bo aJ
theorem UM{C:Addr}(F:MA K C "rate" "Runner.rate" Av)(TC:fB K C):cU P w K mg au C "rate" 1 (fG K C λ_ S H Q=>Q (.int S.rate) H):=by
 refine F.has RL (λvs H Q E h=>?_) (λ_ _ _ _ _ _=>cJ λ_=>rfl) (λf aG A outer s H vs Q E hr h=>?_)
 ·obtain⟨a,q,M,D,S,rfl,_⟩:=h
  rfl
 ·obtain⟨a,q,M,D,S,rfl,R,ok,aO,k⟩:=h
  obtain⟨dx,mv,bv,cP,tv,e,r1,r2,r3,r4⟩:=R.ob;exact⟨_,(aI (aR (dM TC.cl TC.KN (pv 0)))),_,Z,a,dx,_,_,Z,e,Z,k⟩
abbrev Aq:Stmt:=inClass (top 75) 7
theorem RJ:bh ["self"] ["self"] (aP Aq):=bo aJ
theorem UJ{C:Addr}(F:MA K C "waiting" "Runner.waiting" Aq)(TC:fB K C)(B:bw mg):cU P w K mg au C "waiting" 1 (fG K C λ_ S H Q=>∀l ys H',H l=none->H' l=some (.lst ys)->aK K H' ys S.ds->aA H H'->Q (.ref l) H'):=by
 refine F.has RJ (λvs H Q E h=>?_) (λ_ _ _ _ _ _=>cJ λ_=>rfl) (λf aG A outer s H vs Q E hr h=>?_)
 ·obtain⟨a,q,M,D,S,rfl,_⟩:=h
  rfl
 ·obtain⟨a,q,M,D,S,rfl,R,ok,aO,k⟩:=h
  obtain⟨dx,mv,bv,cP,tv,e,r1,r2,r3,r4⟩:=R.ob;obtain⟨ys,eq,rq⟩:=R.qu;refine⟨_,(aI (aR (cE (x:="list") (De K Z) Z (B.at "list") OZ (ao (dM TC.cl TC.kU (pv 0)) ay)))),_,Z,a,dx,_,_,Z,e,Z,q,ys,Z,.inl (aH.of eq),λl H1 n1=>?_⟩;exact k l ys H1 n1.no n1.at' (aK.mono n1.same _ rq) n1.same
abbrev AB:Stmt:=inClass (top 75) 8
theorem RP:bh ["self"] ["self"] (aP AB):=bo aJ
theorem UU{C:Addr}(F:MA K C "is_held" "Runner.is_held" AB)(TC:fB K C):cU P w K mg au C "is_held" 1 (fG K C λ_ S H Q=>Q (.bl S.eg.isSome) H):=by
 refine F.has RP (λvs H Q E h=>?_) (λ_ _ _ _ _ _=>cJ λ_=>rfl) (λf aG A outer s H vs Q E hr h=>?_)
 ·obtain⟨a,q,M,D,S,rfl,_⟩:=h
  rfl
 ·obtain⟨a,q,M,D,S,rfl,R,ok,aO,k⟩:=h
  obtain⟨dx,mv,bv,cP,tv,e,r1,r2,r3,r4⟩:=R.ob;refine⟨_,(aI (aR (jy Kf (dM TC.cl TC.CP (pv 0)) g9 (bE _)))),_,Z,a,dx,_,_,Z,e,Z,?_⟩;cases hs:S.eg with |none=>rw[hs]at r4 k;cases(show tv= .aZ from r4);exact⟨Z,k⟩ |some z=>rw[hs]at r4 k;obtain⟨sq,st,gn⟩:=z;obtain⟨b,u,rfl,_⟩:=r4;exact⟨Z,k⟩
theorem SI(q:Rat):PyData.eqv (cx q) (cx 0)=decide (q=0):=by
 by_cases h:q=0
 ·rw[bR h];exact eqR h
 ·rw[dP h]
  cases e:PyData.eqv (cx q) (cx 0)with |false=>rfl |true=>
   exfalso;apply h;have e':(PyData.eqv (.int q.num) (.int (0:Rat).num)&&(PyData.eqv (.int (q.den:Int)) (.int ((0:Rat).den:Int))&&true))=true:=e;rw[G4,dm]at e';obtain⟨a,b⟩:=e';have h1:q.num=(0:Rat).num:=by simpa[PyData.eqv]using a
   have h2:(q.den:Int)=((0:Rat).den:Int):=by simpa[PyData.eqv]using b
   exact Rat.ext h1 aw
abbrev Au:Stmt:=inClass (top 75) 9
theorem RK:bh ["self"] ["self"] (aP Au):=bo aJ
theorem UL{C:Addr}(F:MA K C "stands" "Runner.stands" Au)(TC:fB K C)(gN:GT K mg "NOUGHT" [.int 0,.int 1]):cU P w K mg au C "stands" 1 (fG K C λ_ S H Q=>Q (.bl (decide (S.pc=0))) H):=by
 obtain⟨aN,md,mQ⟩:=gN;refine F.has RK (λvs H Q E h=>?_) (λ_ _ _ _ _ _=>cJ λ_=>rfl) (λf aG A outer s H vs Q E hr h=>?_)
 ·obtain⟨a,q,M,D,S,rfl,_⟩:=h
  rfl
 ·obtain⟨a,q,M,D,S,rfl,R,ok,aO,k⟩:=h
  obtain⟨dx,mv,bv,cP,tv,e,r1,r2,r3,r4⟩:=R.ob;refine⟨_,(aI (aR (jy (dC K Z hr.units) (dM TC.cl TC.xA (pv 0)) (cK (x:="NOUGHT") rfl md) (bE _)))),_,Z,a,dx,_,_,Z,e,Z,.inr ⟨_,_,r3.rd,(u6 (mQ H)).rd,Z,Z,?_⟩⟩;rw[SI];exact k
abbrev AA:Stmt:=inClass (top 75) 10
theorem RO:bh ["self"] ["self"] (aP AA):=bo aJ
theorem UT{C:Addr}(F:MA K C "is_halted" "Runner.is_halted" AA)(TC:fB K C)(E8:cU P w K mg au C "is_held" 1 (fG K C λ_ S H Q=>Q (.bl S.eg.isSome) H))(a09:cU P w K mg au C "stands" 1 (fG K C λ_ S H Q=>Q (.bl (decide (S.pc=0))) H)):cU P w K mg au C "is_halted" 2 (fG K C λ_ S H Q=>Q (.bl (S.eg.isSome&&decide (S.pc=0))) H):=by
 refine F.has RO (λvs H Q E h=>?_) (λ_ _ _ _ _ _=>cJ λ_=>rfl) (λf aG A outer s H vs Q E hr h=>?_)
 ·obtain⟨a,q,M,D,S,rfl,_⟩:=h
  rfl
 ·obtain⟨a,q,M,D,S,rfl,R,ok,aO,k⟩:=h
  obtain⟨dx,mv,bv,cP,tv,e,r1,r2,r3,r4⟩:=R.ob;refine⟨_,(aI (aR (qA (iI E8 TC.cl (hr.mono az) (pv 0)) (qx (iI a09 TC.cl (hr.mono az) (pv 0)))))),_,Z,a,dx,_,Z,e,Z,a,q,M,D,S,Z,R,ok,aO,_,Z,?_⟩;cases hs:S.eg.isSome with |false=>rw[hs]at k;exact bc k |true=>rw[hs]at k;refine bF ⟨_,Z,a,dx,_,Z,e,Z,a,q,M,D,S,Z,R,ok,aO,?_⟩;exact k
def zT(ns:List Int)(k:Int):List Int:=ns.map λz=>ub (k*z) (aM ns)
def hJ(S:cf):List Int:=if S.dn=0 then S.pl else match S.os[0]? with |some (some (ns,_))=>iW S.pl (zT ns S.dn) |_=>S.pl
def cm(S:cf):List Int:=S.os.foldl dD S.pl
theorem yW{n:Nat}{pl:List Int}{o:Itm}(h:pl.length=n)(ho:∀ns sp,o=some (ns,sp)->ns.length=n):(dD pl o).length=n:=by cases o with |none=>exact h |some q=>obtain⟨ns,sp⟩:=q;show(iW pl ns).length=n;rw[zc (by rw[ho ns sp Z,h])];exact h
theorem yx{n:Nat}:∀(os:List Itm)(pl:List Int),pl.length=n->(∀o∈os,∀ns sp,o=some (ns,sp)->ns.length=n)->(os.foldl dD pl).length=n |[],pl,h,_=>h |o::os,pl,h,ho=>yx os (dD pl o) (yW h (ho o (.head _))) λx hx=>ho x (.tail _ hx)
theorem dh.mV{M:bX}{D:Nat}{S:cf}(h:dh M D S):∀o∈S.os,∀ns sp,o=some (ns,sp)->ns.length=M.rs.length:=λo ho ns sp e=>by obtain⟨i,hi⟩:=nY.mp ho;rw[e]at hi;exact(h.row.ok i ns sp hi).1.len
theorem dh.first{M:bX}{D:Nat}{S:cf}(h:dh M D S)(hn:S.dn≠0):∃ns sp,S.os[0]? =some (some (ns,sp))/\S.dn<aM ns:=by
 rcases h.dn with e|e
 ·exact(hn e).elim
 ·exact e
abbrev Aw:Stmt:=inClass (top 75) 1
theorem RM:bh ["self"] ["self"] (aP Aw):=bo aJ
theorem UN{C:Addr}(F:MA K C "place" "Runner.place" Aw)(TC:fB K C)(DN:aE P w K mg au "moved" 1 (wL K))(Yk:aE P w K mg au "stand_at" 2 (zW K)):cU P w K mg au C "place" 3 (fG K C λ_ S H Q=>∀v H',RD K H' v (cI (hJ S))->aA H H'->Q v H'):=by
 refine F.has RM (λvs H Q E h=>?_) (λ_ _ _ _ _ _=>cJ λ_=>rfl) (λf aG A outer s H vs Q E hr h=>?_)
 ·obtain⟨a,q,M,D,S,rfl,_⟩:=h
  rfl
 ·obtain⟨a,q,M,D,S,rfl,R,ok,aO,k⟩:=h
  obtain⟨dx,mv,bv,cP,tv,e,r1,r2,r3,r4⟩:=R.ob;obtain⟨ys,eq,rq⟩:=R.qu;refine⟨_,(aF (bB (bK (dC K Z hr.units) (dM TC.cl TC.xB (pv 0)) aB (bE _)) (aI (aR (dM TC.cl TC.ue (pv 0)))) bC) (aI (aR (pf DN hr (ao (dM TC.cl TC.ue (pv 0)) (ao (pf Yk hr (ao (px K (dM TC.cl TC.kU (pv 0)) aB) (ao (dM TC.cl TC.xB (pv 0)) ay))) ay)))))),_,Z,a,dx,_,_,Z,e,Z,.inl ⟨_,_,Z,Z,_,Z,?_⟩⟩;by_cases h0:S.dn=0
  ·rw[bR aw]
   have ep:hJ S=S.pl:=by unfold hJ;rw[aU h0]
   rw[ep]at k;exact bF ⟨_,Z,a,dx,_,_,Z,e,Z,k bv H r2 (aA.refl _)⟩
  ·rw[dP aw]
   refine bc ?_;obtain⟨ns,sp,eo,hd⟩:=ok.first h0;obtain⟨eD,eS,iG⟩:=ok.row.ok 0 ns sp eo;have ep:hJ S=iW S.pl (zT ns S.dn):=by unfold hJ;rw[aV h0,eo]
   rw[ep]at k;have ll:=ok.row.len;have hl0:0<S.os.length:=(dQ.mp eo).1;obtain⟨d,ed⟩:∃d,S.ds[0]? =some d:=⟨_,cC (show 0<S.ds.length by lia)⟩;obtain⟨y,ey,ry⟩:=rq.get 0 ed;have it:=ok.row.it 0 d _ ed eo;have dv:=jf it;subst dv;have a7e:=Dj eD;have lr:=aO.len;refine⟨_,Z,a,dx,_,_,Z,e,Z,?_⟩;refine⟨_,Z,a,dx,_,_,Z,e,Z,.inl ⟨q,_,0,y,Z,Z,aH.of eq,cM (fF 0) ey,?_⟩⟩;refine⟨_,Z,a,dx,_,_,Z,e,Z,y,ns,sp,_,Z,ry,⟨Z,λz hz=>by have:=eD.bd z hz;lia,eD.nz⟩,by rw[eD.len];lia,aw,λu H1 ru s1=>?_⟩;obtain⟨b,xs,rfl,hb,hx⟩:=ru.cj;rw[hx.eK]at hb;exact⟨bv,b,S.pl,_,Z,RD.mono s1 _ r2,hb,by rw[bD,eD.len,ok.pl],by rw[ok.pl];lia,λv H2 rv s2=>k v H2 rv (s1.trans s2)⟩
abbrev Ax:Stmt:=inClass (top 75) 2
theorem Ij:bh ["self","here","item"] ["self"] (aP Ax):=bo aJ
theorem UP{C:Addr}(F:MA K C "leads_to" "Runner.leads_to" Ax)(TC:fB K C)(DG:aE P w K mg au "place_behind" 2 (ou K)):cU P w K mg au C "leads_to" 3 (fG K C λ_ S H Q=>∀v H',RD K H' v (cI (cm S))->aA H H'->Q v H'):=by
 refine F.has Ij (λvs H Q E h=>?_) (λ_ _ _ _ _ _=>cJ λ_=>rfl) (λf aG A outer s H vs Q E hr h=>?_)
 ·obtain⟨a,q,M,D,S,rfl,_⟩:=h
  rfl
 ·obtain⟨a,q,M,D,S,rfl,R,ok,aO,k⟩:=h
  obtain⟨dx,mv,bv,cP,tv,e,r1,r2,r3,r4⟩:=R.ob;obtain⟨ys,eq,rq⟩:=R.qu;have nd:=Ij.nd;have ll:=ok.row.len;have ly:=rq.length;have lr:=aO.len;refine⟨_,(aF (pS 1 nd (dM TC.cl TC.ue (pv 0))) (aF (kO jM Z (oM K Z (dM TC.cl TC.kU (pv 0))) (ba 2 nd) (aI (pS 1 nd (pf DG hr (ao (pv 1) (ao (pv 2) ay)))))) (aI (aR (pv 1))))),_,Z,a,dx,_,_,Z,e,Z,_,Z,a,dx,_,_,Z,e,Z,q,Z,⟨_,aH.of eq⟩,?_⟩;refine Ms (K:=K) (a:=q) (xs:=ys) (λi O H1=>aA H H1/\∃hv v2,RD K H1 hv (cI ((S.os.take i).foldl dD S.pl))/\O=[some (.ref a),some hv,v2]) ⟨aA.refl _,bv,none,r2,Z⟩ (λi O H1 _ h=>aH.of (h.1 _ _ eq)) ?_ ?_
  ·rintro i x O H1 hx ⟨s1,hv,v2,rh,rfl⟩
   obtain⟨d,ed,rd⟩:=rq.get' i hx;obtain⟨o,eo,it⟩:=ok.row.get ed;have lp:((S.os.take i).foldl dD S.pl).length=M.rs.length:=yx _ _ ok.pl λo ho=>ok.mV o (zE ho);refine⟨_,Z,_,Z,hv,x,_,d,o,Z,rh,RD.mono s1 _ rd,it,λns sp e'=>by rw[lp];exact ok.mV o (fP eo) ns sp e',aw,λv H2 rv s2=>?_⟩;refine⟨s1.trans s2,v,_,?_,Z⟩;rw[vO,eo,List.foldl_append];exact rv
  ·rintro O H1 ⟨s1,hv,v2,rh,rfl⟩
   rw[ly,ll,zD]at rh;exact⟨_,Z,k hv H1 rh s1⟩
abbrev Ay:Stmt:=inClass (top 75) 0
theorem RN:bh ["self","machine","place"] ["self","machine","place"] (aP Ay):=bo aJ
def gU(pl:List Int):cf:=⟨pl,0,[],[],0,100,"up","",none⟩
inductive a4Z(K:aa)(C:Addr)(vs:List V)(H:Hp)(Q:VK):Prop |mk (a:_)(dx:_)(mv:_)(eY:_)(M:_)(pl:_)(h0:vs=[.ref a,mv,eY])(h1:H a=some (.ins C dx []))(h2:RD K H mv (bX.D M))(h3:RD K H eY (cI pl))(h4:∀q H',cN K C H' a q M (gU pl)->H q=none->cV [a] H H'->Q .aZ H')
def Hl(K:aa)(C:Addr):Sp:=λvs H Q _=>a4Z K C vs H Q
theorem UR{C:Addr}(F:CA K mg C "Runner" "Runner.__init__" Ay)(TC:fB K C)(gN:GT K mg "NOUGHT" [.int 0,.int 1])(a03:GV mg "FIRST_RATE" (.int 100)):rZ P w K mg au C "Runner" 1 (Hl K C):=by
 obtain⟨aN,md,mQ⟩:=gN;refine F.has RN (λvs H Q E h=>?_) (λ_ _ _ _ _ _=>lA λ_ _ _=>rfl) (λf aG A outer s H vs Q E hr h=>?_)
 ·obtain⟨a,dx,mv,eY,M,pl,rfl,_⟩:=h
  rfl
 ·obtain⟨a,dx,mv,eY,M,pl,rfl,e,rm,rp,k⟩:=h
  refine⟨_,(aF (gY TC.cl TC.lX (pv 0) (pv 1)) (aF (gY TC.cl TC.ue (pv 0) (pv 2)) (aF (gY TC.cl TC.xB (pv 0) aB) (aF (gY TC.cl TC.kU (pv 0) (fJ ay)) (aF (gY TC.cl TC.xA (pv 0) (cK (x:="NOUGHT") rfl md)) (aF (gY TC.cl TC.KN (pv 0) (cK (x:="FIRST_RATE") rfl a03)) (aF (gY TC.cl TC.Wr (pv 0) bu) (aF (gY TC.cl TC.Ws (pv 0) bu) (aI (gY TC.cl TC.CP (pv 0) g9)))))))))),?_⟩;refine⟨_,Z,_,Z,a,dx,_,Z,e,az,?_⟩;refine⟨_,Z,_,Z,a,dx,_,Z,bV,by show 1<1000;decide,?_⟩;refine⟨_,Z,a,dx,_,Z,bV,by show 2<1000;decide,?_⟩;refine⟨bW Z,λq H1 n1=>?_⟩;have aq:a≠q:=λz=>by have:=n1.no;rw[<-z,bV]at this;cases this
  have e1:=n1.same _ _ (bV (a:=a));refine⟨_,Z,a,dx,_,Z,e1,by show 3<1000;decide,?_⟩;refine⟨_,Z,a,dx,_,Z,bV,by show 4<1000;decide,?_⟩;refine⟨_,Z,a,dx,_,Z,bV,by show 5<1000;decide,?_⟩;refine⟨_,Z,a,dx,_,Z,bV,by show 6<1000;decide,?_⟩;refine⟨_,Z,a,dx,_,Z,bV,by show 7<1000;decide,?_⟩;refine⟨_,Z,a,dx,_,Z,bV,by show 8<1000;decide,?_⟩;have key:∀X:Hp,(∀b,b≠a->X b=H1 b)->Q .aZ (L2.upd X a (.ins C dx (kN mv eY (.int 0) (.ref q) (.ref aN) (.int 100) (.str "up") (.str "") .aZ))):=by
   intro X hX;have bt:cV [a] H (L2.upd X a (.ins C dx (kN mv eY (.int 0) (.ref q) (.ref aN) (.int 100) (.str "up") (.str "") .aZ))):=λb o eb hb=>by have ha:b≠a:=λz=>hb (by rw[z];exact .head _);rw[bj ha,hX b ha];exact n1.same _ _ (by rw[bj ha,bj ha,bj ha];exact eb)
   have sv:=bt.v λx hx o eo=>by rw[e9]at hx;rw[hx,e]at eo;cases eo;trivial
   refine k q _ ⟨⟨dx,mv,eY,.ref aN,.aZ,bV,RD.v sv _ (iP _ _ _ _ _) rm,RD.v sv _ (hU _) rp,u6 (mQ _),Z⟩,[],?_,df⟩ ?_ bt
   ·rw[bj aq.symm,hX q aq.symm];exact n1.at'
   ·have:=n1.no
    rw[bj aq.symm,bj aq.symm,bj aq.symm]at this;exact this
  exact key _ (λb hb=>by rw[bj hb,bj hb,bj hb,bj hb,bj hb])
theorem So{M:bX}{pl:List Int}(hp:pl.length=M.rs.length):dh M 64 (gU pl):=⟨.nil,λi d e=>by simp[gU]at e,by simp[gU],(show(10:Int)<=100 by decide),(show(100:Int)<=200 by decide),.inl rfl,hp,⟨(show(0:Rat)<=0 by decide),(show(0:Rat).den<2^74 by decide+kernel)⟩,(show(0:Rat)<=1600 by decide+kernel),trivial,az,az⟩
theorem Kl{rs pl:List Int}(h:fC rs pl):xR rs (cI pl)=true:=by show((pl.map PyData.int).length==rs.length&&(((pl.map PyData.int).zip rs).map λp=>cu 0 p.2 p.1).all id)=true;rw[bD,h.len,vD,fX,fb];intro b hb;obtain⟨⟨d,r⟩,hm,rfl⟩:=cB.mp hb;obtain⟨i,hi⟩:=nY.mp hm;obtain⟨e1,e2⟩:=(nZ (z:=(d,r))).mp hi;rw[bJ]at e1;cases e:pl[i]? with |none=>rw[e]at e1;cases e1 |some x=>rw[e]at e1;cases e1;obtain⟨a1,a2⟩:=h.at' i x r e e2;show(decide (0<=x)&&decide (x<=r))=true;rw[bR a1,bR a2];rfl
def lq(S:cf)(d:ah)(o:Itm):cf:={S with ds:=S.ds++[d],os:=S.os++[o]}
theorem dh.rH{M:bX}{D:Nat}{S:cf}{d:ah}{o:Itm}(h:dh M D S)(it:gL M.rs.length d o)(hl:S.ds.length<20):dh M D (lq S d o):=by
 have ll:=h.row.len;refine⟨h.row.snoc it.it it.ln,RowW.snoc h.rw ll it.ot,by show(S.ds++[d]).length<=20;rw[iC];show _+1<=20;lia,h.fS,h.fR,?_,h.pl,h.pd,h.pm,h.eg,h.D1,h.D2⟩;rcases h.dn with e|⟨ns,sp,e,e2⟩
 ·exact .inl e
 ·refine .inr ⟨ns,sp,?_,e2⟩
  show(S.os++[o])[0]? =_;rw[vS (dQ.mp e).1];exact e
abbrev AD:Stmt:=inClass (top 75) 11
theorem Il:bh ["self","item"] ["self","item"] (aP AD):=bo aJ
def a3p(s:Stmt):List Stmt:=match s with | .ClassDef _ _ _ b _ _ _ _ _ _ _=>b |_=>[]
abbrev Ab:Stmt:=(a3p (top 5)).getD 0 (.Pass ⟨0,0,0,0⟩)
theorem HQ:bh ["self","at"] ["self","at"] (aP Ab):=bo aJ
inductive a4I(K:aa)(vs:List V)(H:Hp)(Q:VK):Prop |mk (ex:_)(C:_)(y:_)(h0:vs=[.ref ex,y])(h1:H ex=some (.ext (pV ex C)))(h2:Fd K C "at")(h3:∀dx,H dx=none->dx≠ex->Q .aZ (L2.upd (L2.upd H dx (.xd [("at",y)])) ex (.ext (mG ex C dx))))
def GY(K:aa):Sp:=λvs H Q _=>a4I K vs H Q
theorem Uu{f:Addr}{fd:FuncData}(F:ir K "__init__" "OffRails.__init__" Ab f fd):f7 P w K mg au fV 1 f fd ["self","at"] (GY K):=by
 refine F.ok HQ (λvs H Q E h=>?_) (λaG A outer s H vs Q E hr h=>?_)
 ·obtain⟨ex,C,y,rfl,_⟩:=h
  rfl
 ·obtain⟨ex,C,y,rfl,e1,xc,k⟩:=h
  have nd:=HQ.nd;refine⟨_,(aI (Tg K Z (pv 0) (pv 1))),?_⟩;exact⟨_,Z,_,Z,ex,C,Z,e1,xc,k⟩
structure Oo(K:aa)(mg:bf)(C fI:Addr):Prop where
 e:pW K mg "OffRails" C fI gz gF
 i:PySem.W.findIn K (.ref C) "__init__"=some (some (.ref fI))
 x:Fd K C "at"
 f:fnAt K fI=true
 fn:∃fd,ir K "__init__" "OffRails.__init__" Ab fI fd
structure jr where
 n:Addr
 o:Addr
 f:Addr
 m:Addr
 r:Addr
 i:Addr
structure zh(K:aa)(mg:bf)(R:jr):Prop where
 n:Exc K mg "NoItem" R.n gz gF
 o:Oo K mg R.o R.i
 f:Exc K mg "Full" R.f gz gF
 m:Exc K mg "Moving" R.m gz gF
 r:Exc K mg "NoRate" R.r gz gF
theorem XN{rs pl:List Int}(h:pl.length=rs.length):xR rs (cI pl)=gs rs pl:=by show((pl.map PyData.int).length==rs.length&&(((pl.map PyData.int).zip rs).map λp=>cu 0 p.2 p.1).all id)=_;rw[bD,h,vD,fX,List.zip_map_left,vP,G2];rfl
inductive a51(K:aa)(C:Addr)(R:jr)(vs:List V)(H:Hp)(Q:VK)(E:XK):Prop |mk (a:_)(q:_)(M:_)(D:_)(S:_)(v:_)(d:_)(h0:vs=[.ref a,v])(h1:cN K C H a q M S)(h2:dh M D S)(h3:M.Ok)(h4:RD K H v d)(h5:cA 8 d)(h6:oz d=true)(h7:((hW M.rs.length d=false/\∀H',aA H H'->E (.ref R.n) none H')\/∃o,gL M.rs.length d o/\(gs M.rs (dD (cm S) o)=false->∀H' dx,aA H H'->H' dx=some (.xd [("at",.int (S.ds.length:Int))])->E (.ref R.o) (some dx) H')/\(gs M.rs (dD (cm S) o)=true->S.ds.length=20->∀H',aA H H'->E (.ref R.f) none H')/\(gs M.rs (dD (cm S) o)=true->S.ds.length<20->∀H',cN K C H' a q M (lq S d o)->cV [a,q] H H'->Q (.int (S.ds.length+1:Nat)) H')))
def zY(K:aa)(C:Addr)(R:jr):Sp:=λvs H Q E=>a51 K C R vs H Q E
theorem UW{C:Addr}{R:jr}(F:MA K C "feed" "Runner.feed" AD)(TC:fB K C)(B:bw mg)(X:zh K mg R)(ZT:GV mg "MOST_WAITING" (.int 20))(DS:aE P w K mg au "is_item" 4 (wN K))(uE:aE P w K mg au "is_place" 3 (tf K))(DG:aE P w K mg au "place_behind" 2 (ou K))(E7:cU P w K mg au C "leads_to" 3 (fG K C λ_ S H Q=>∀v H',RD K H' v (cI (cm S))->aA H H'->Q v H')):mC P w K mg au C "feed" 5 (zY K C R):=by
 have OC:=X.o;obtain⟨fd,FI⟩:=OC.fn;have a0C:=X.n;have a0D:=X.f;have a0B:=OC.e;have a0t:f7 P w K mg au fV 1 R.i fd ["self","at"] (GY K):=Uu FI;have a0M:Binds K fd ["self","at"] []:=FI.binds (λ_ _ _ _ _ _=>da λ_ _=>rfl);have a0A:=OC.f;refine F.E2 Il (λvs H Q E h=>?_) (λ_ _ _ _ _ _=>da λ_ _=>rfl) (λf aG A outer s H vs Q E hr h=>?_)
 ·obtain⟨a,q,M,D,S,v,d,rfl,_⟩:=h
  rfl
 ·obtain⟨a,q,M,D,S,v,d,rfl,Ra,ok,aO,rd,i2,i3,kk⟩:=h
  obtain⟨dx,mv,bv,cP,tv,e,r1,r2,r3,r4⟩:=Ra.ob;obtain⟨ys,eq,rq⟩:=Ra.qu;have nd:=Il.nd;have lr:=aO.len;have ly:=rq.length;refine⟨_,(aF (bB (dg (cD (pf DS hr (ao (dM TC.cl TC.lX (pv 0)) (ao (pv 1) ay))))) (aI (tO (λ_ _ _ _ _ _ _ I m q=>sN I m q) a0C vJ hr.hd Z (ao bu ay))) bC) (aF (bB (dg (cD (pf uE hr (ao (dM TC.cl TC.lX (pv 0)) (ao (pf DG hr (ao (iI E7 TC.cl (hr.mono az) (pv 0)) (ao (pv 1) ay))) ay))))) (aI (Ti (λ_ _ _ _ _ _ I a b q=>Px I a b q) a0B vJ hr.hd a0t (hr.mono az) a0M a0A Z (ao (eB K B (ao (dM TC.cl TC.kU (pv 0)) ay)) ay))) bC) (aF (bB (bK Ki (eB K B (ao (dM TC.cl TC.kU (pv 0)) ay)) (cK (x:="MOST_WAITING") rfl ZT) (bE _)) (aI (tO (λ_ _ _ _ _ _ _ I m q=>sN I m q) a0D vJ hr.hd Z (ao bu ay))) bC) (aF (Cd (Co K Z (dM TC.cl TC.kU (pv 0)) (ao (pv 1) ay))) (aI (aR (eB K B (ao (dM TC.cl TC.kU (pv 0)) ay)))))))),?_⟩;refine⟨_,Z,a,dx,_,_,Z,e,Z,_,Z,mv,v,M.rs,_,d,Z,r1,rd,aw,i2,i3,λH1 s1=>⟨_,Z,?_⟩⟩;rcases kk with⟨i1,kn⟩|⟨o,it,ko,kf,kd⟩
  ·rw[i1]
   exact bF ⟨bW Z,kn _ s1⟩
  rw[it.is.1];refine bc ?_;have e1:=s1 _ _ e;have R1:=Ra.same ok.row.no s1;refine⟨_,Z,a,dx,_,_,Z,e1,Z,?_⟩;refine⟨_,Z,a,dx,_,Z,e1,Z,a,q,M,D,S,Z,R1,ok,aO,λg H2 rg s2=>?_⟩;have fZ:=s1.trans s2;have gl:(cm S).length=M.rs.length:=yx _ _ ok.pl ok.mV;have bl:(dD (cm S) o).length=M.rs.length:=yW gl λns sp eo=>(it.ln ns sp eo).1.len;refine⟨_,Z,g,v,cm S,d,o,Z,rg,RD.mono fZ _ rd,it.it,λns sp e'=>by rw[gl];exact(it.ln ns sp e').1.len,aw,λu H3 ru s3=>?_⟩;have jx:=fZ.trans s3;refine⟨mv,u,M.rs,_,_,Z,RD.mono jx _ r1,ru,aw,λH4 s4=>⟨_,Z,?_⟩⟩;rw[XN bl];have j9:=jx.trans s4;have e4:=j9 _ _ e;have eq4:=j9 _ _ eq;cases ho:gs M.rs (dD (cm S) o)with
  |false=>
   refine bF ?_;refine⟨_,Z,a,dx,_,_,Z,e4,Z,q,_,Z,.inl (aH.of eq4),bW Z,λex fx=>?_⟩;refine⟨ex,R.o,_,Z,bV,OC.x,λdd My ne=>⟨Z,dd,bV,?_⟩⟩;have fdx:H4 dd=none:=by rw[bj ne]at My;exact My
   rw[ly];refine ko ho _ dd (λb o' eb=>?_) ?_
   ·have e5:=j9 b o' eb
    have nb:b≠ex:=ft e5 fx;have gb:b≠dd:=ft e5 fdx;rw[pI nb,bj nb,bj gb,bj nb];exact e5
   ·rw[pI ne,bj ne,bV] |true=>
   refine bc ?_;refine⟨_,Z,a,dx,_,_,Z,e4,Z,q,_,Z,.inl (aH.of eq4),_,_,Z,Z,_,Z,?_⟩;by_cases nB:S.ds.length=20
   ·rw[show decide ((ys.length:Int)>=20)=true from bR aw]
    exact bF ⟨bW Z,kf ho nB _ j9⟩
   have xK:=ok.len;rw[show decide ((ys.length:Int)>=20)=false from dP aw];refine bc ?_;have jo:sizeLine=16777216:=by decide
   refine⟨_,Z,a,dx,_,_,Z,e4,Z,.inl ⟨Z,_,aH.of eq4⟩,_,Z,q,ys,_,Z,Z,eq4,aw,?_⟩;have aq:=Ra.ne;have tu:eG H4 (L2.upd H4 q (.lst (ys++[v]))):=.upd eq4 trivial;have e5:(L2.upd H4 q (.lst (ys++[v]))) a=some (.ins C dx (kN mv bv (.int S.dn) (.ref q) cP (.int S.rate) (.str S.side) (.str S.mark) tv)):=by rw[bj aq];exact e4
   refine⟨_,Z,a,dx,_,_,Z,e5,Z,q,_,Z,.inl (aH.of bV),?_⟩;have sv:eG H (L2.upd H4 q (.lst (ys++[v]))):=j9.v.trans tu;have el:((ys++[v]).length:Int)=((S.ds.length+1:Nat):Int):=by rw[iC,ly];rfl
   rw[el];refine kd ho aw _ ⟨⟨dx,mv,bv,cP,tv,e5,RD.v sv _ (iP _ _ _ _ _) r1,RD.v sv _ (hU _) r2,r3.v sv,r4.v sv⟩,_,bV,?_⟩ λb o' eb hb=>?_
   ·exact(aK.v sv _ ok.row.no rq).append (ck (RD.v sv _ it.it.no rd) df)
   ·have m9:b≠q:=λz=>hb (by rw[z];simp)
    rw[bj m9];exact j9 _ _ eb
end
end Lw
set_option maxHeartbeats 2000000
namespace Lw
open PySem PySem.Spec PyProof.Rows L2 Rt Ln Cn Pn Wk Rn
open Ow (topR cornO mnO betR atO ownF leadF ownL OkI OkIs)
section
variable {P:af}{w:World}{K:aa}{mg:bf}{au:Heap}
theorem cN.Td{C:Addr}{H:Hp}{a q dx:Addr}{M:bX}{S S':cf}{mv bv cP tv:V}(R:cN K C H a q M S)(e:H a=some (.ins C dx (kN mv bv (.int S.dn) (.ref q) cP (.int S.rate) (.str S.side) (.str S.mark) tv))){yU xl wt:V}(hn:cF S.ds=true)(hd:S'.ds=S.ds) (r1:RD K H mv M.D)(r2:RD K H yU (cI S'.pl))(r3:bL K H xl S'.pc)(r4:vf K H wt S'.eg):cN K C (L2.upd H a (.ins C dx (kN mv yU (.int S'.dn) (.ref q) xl (.int S'.rate) (.str S'.side) (.str S'.mark) wt))) a q M S':=by
 have v:eG H (L2.upd H a (.ins C dx (kN mv yU (.int S'.dn) (.ref q) xl (.int S'.rate) (.str S'.side) (.str S'.mark) wt))):=.upd e trivial;obtain⟨ys,eq,rq⟩:=R.qu;refine⟨⟨dx,mv,yU,xl,wt,bV,RD.v v _ (iP _ _ _ _ _) r1,RD.v v _ (hU _) r2,r3.v v,r4.v v⟩,ys,?_,?_⟩
 ·rw[bj R.ne.symm];exact eq
 ·rw[hd];exact aK.v v _ hn rq
def gT(f:Int)(pc:Rat):Int:=(pc.num+2*f*(pc.den:Int)-1)/(2*f*(pc.den:Int))
theorem QV{f:Int}(hf:1<=f){pc:Rat}(h:0<=pc):(0<=gT f pc)/\(gT f pc=0->pc=0)/\pc<=((2*f*gT f pc:Int):Rat)/\(pc<=1600->gT f pc<=1000):=by
 have hn:=Rat.num_nonneg.mpr h;have hd:0<2*f*(pc.den:Int):=qh aw (den_pos pc);have DX:2*(pc.den:Int)<=2*f*(pc.den:Int):=by
  have:2*1*(pc.den:Int)<=2*f*(pc.den:Int):=Int.mul_le_mul_of_nonneg_right aw aw
  lia
 unfold gT;generalize hD:2*f*(pc.den:Int)=dd at hd DX;have q1:=Int.mul_ediv_add_emod (pc.num+dd-1) dd;have q2:=mL (pc.num+dd-1) (show dd≠0 by lia);have q3:=qi (pc.num+dd-1) hd;have q0:0<=(pc.num+dd-1)/dd:=Int.ediv_nonneg aw aw;generalize hQ:(pc.num+dd-1)/dd=Q at q0 q1;generalize(pc.num+dd-1)%dd=R at q1 q2 q3;have hle:pc.num<=dd*Q:=by lia
 refine⟨q0,λe=>?_,?_,λhm=>?_⟩
 ·rw[e,Int.mul_zero]at hle
  have:pc.num=0:=by lia
  exact Rat.num_eq_zero.mp this
 ·refine nU.mp λbZ=>?_
  rw[vG,zw,zx]at bZ;have e1:2*f*Q*(pc.den:Int)=dd*Q:=by rw[<-hD,Int.mul_right_comm]
  rw[e1]at bZ
  lia
 ·have pC:¬((1600:Rat)<pc):=nU.mpr hm
  rw[vG]at pC;have e1:(1600:Rat).num=1600:=rfl;have e2:(1600:Rat).den=1:=rfl;rw[e1,e2]at pC;have h3:pc.num<=1600*(pc.den:Int):=by lia
  refine Int.not_lt.mp λbZ=>?_;have h4:dd*1001<=dd*Q:=Int.mul_le_mul_of_nonneg_left aw aw
  lia
abbrev As:Stmt:=inClass (top 75) 17
theorem Ii:bh ["self","p","q","in_one"] ["self"] (aP As):=bo aJ
theorem UK{C:Addr}(F:MA K C "stops_in" "Runner.stops_in" As)(TC:fB K C):cU P w K mg au C "stops_in" 1 (fG K C λM S H Q=>Q (.int (gT M.f S.pc)) H):=by
 refine F.has Ii (λvs H Q E h=>?_) (λ_ _ _ _ _ _=>cJ λ_=>rfl) (λf aG A outer s H vs Q E hr h=>?_)
 ·obtain⟨a,q,M,D,S,rfl,_⟩:=h
  rfl
 ·obtain⟨a,q,M,D,S,rfl,R,ok,aO,k⟩:=h
  obtain⟨dx,mv,bv,cP,tv,e,r1,r2,⟨pa,rfl,uv⟩,r4⟩:=R.ob;have nd:=Ii.nd;have MH:=aO.f1;obtain⟨ma,mb,rfl,gf,iR⟩:=lY r1;have bd:Bd 1600 S.pc:=(ok.pd.bd (kG ok.pm aJ)).mono (by have:=ok.D2;lia);have hd:0<2*M.f*(S.pc.den:Int):=qh aw (den_pos S.pc);have wd:Wd (2*M.f*(S.pc.den:Int)):=by
   refine mO (n:=1700) ?_ az;rw[o8];have h1:(2*M.f).natAbs<2^7:=by lia
   have:=uf h1 bd.den;exact fk this (vL az az)
  refine⟨_,(aF (eu (dM TC.cl TC.xA (pv 0)) (dS K rfl (n:=2) rfl (bM (ba 1 nd) (bM (ba 2 nd) dR)))) (aF (pS 3 nd (aL bU (aL bU aB (px K (dM TC.cl TC.lX (pv 0)) aB)) (pv 2))) (aI (aR (aL qE (aL jW (aL dr (pv 1) (pv 3)) aB) (pv 3)))))),?_⟩;refine⟨_,Z,a,dx,_,_,Z,e,Z,pa,_,Z,uv,Z,_,_,Z,_,_,Z,Z,?_⟩;refine⟨_,Z,a,dx,_,_,Z,e,Z,.inr ⟨ma,_,2,.int M.f,Z,Z,gf,Z,_,_,Z,Z,.of_left (cH az az),?_⟩⟩;refine⟨_,Z,_,_,Z,Z,.of_left (cH aw aw),?_⟩;refine⟨_,Z,_,Z,_,_,Z,Z,_,_,Z,Z,_,Z,_,_,Z,Z,⟨hd,wd⟩,?_⟩;exact k
abbrev Az:Stmt:=inClass (top 75) 18
theorem Ik:bh ["self","steps"] ["self"] (aP Az):=bo aJ
def hZ(M:bX)(S:cf):cf:=match S.eg with |none=>{S with eg:=some (S.pc,gT M.f S.pc,0)} |some _=>S
inductive a50(K:aa)(C:Addr)(vs:List V)(H:Hp)(Q:VK):Prop |mk (a:_)(q:_)(M:_)(D:_)(S:_)(h0:vs=[.ref a])(h1:cN K C H a q M S)(h2:dh M D S)(h3:M.Ok)(h4:∀H',cN K C H' a q M (hZ M S)->cV [a] H H'->Q (.int (gT M.f S.pc)) H')
def Hm(K:aa)(C:Addr):Sp:=λvs H Q _=>a50 K C vs H Q
theorem dh.hold{M:bX}{D:Nat}{S:cf}(h:dh M D S)(aO:M.Ok)(hD:D<=1490):dh M (D+10) (hZ M S):=by have D1:=h.D1;unfold hZ;cases hs:S.eg with |some z=>show dh M (D+10) S;have st:=h.eg;refine⟨h.row,h.rw,h.len,h.fS,h.fR,h.dn,h.pl,h.pd.mono aw,h.pm,?_,aw,aw⟩;rw[hs]at st⊢;obtain⟨sq,fc,gn⟩:=z;obtain⟨a1,a2,a3,a4,a5⟩:=st;exact⟨a1,a2,a3,a4.mono aw,a5⟩ |none=>obtain⟨z1,z2,z3,z4⟩:=QV aO.f1.1 h.pd.nn;refine⟨h.row,h.rw,h.len,h.fS,h.fR,h.dn,h.pl,h.pd.mono aw,h.pm,?_,aw,aw⟩;refine⟨fF _,z1,z4 h.pm,h.pd,kG h.pm aJ,z2,?_⟩;show S.pc*(gT M.f S.pc:Rat)<=S.pc*((gT M.f S.pc-0:Int):Rat);rw[Int.sub_zero];exact iy
theorem US{C:Addr}(F:MA K C "hold" "Runner.hold" Az)(TC:fB K C)(a08:cU P w K mg au C "stops_in" 1 (fG K C λM S H Q=>Q (.int (gT M.f S.pc)) H))(E8:cU P w K mg au C "is_held" 1 (fG K C λ_ S H Q=>Q (.bl S.eg.isSome) H)):cU P w K mg au C "hold" 2 (Hm K C):=by
 refine F.has Ik (λvs H Q E h=>?_) (λ_ _ _ _ _ _=>cJ λ_=>rfl) (λf aG A outer s H vs Q E hr h=>?_)
 ·obtain⟨a,q,M,D,S,rfl,_⟩:=h
  rfl
 ·obtain⟨a,q,M,D,S,rfl,R,ok,aO,k⟩:=h
  obtain⟨dx,mv,bv,cP,tv,e,r1,r2,r3,r4⟩:=R.ob;have nd:=Ik.nd;refine⟨_,(aF (pS 1 nd (iI a08 TC.cl (hr.mono az) (pv 0))) (aF (jT (bB (dg (cD (iI E8 TC.cl (hr.mono az) (pv 0)))) (aI (gY TC.cl TC.CP (pv 0) (eA (ao (dM TC.cl TC.xA (pv 0)) (ao (pv 1) (ao aB ay)))))) bC)) (aI (aR (pv 1))))),?_⟩;refine⟨_,Z,a,dx,_,Z,e,Z,a,q,M,D,S,Z,R,ok,aO,?_⟩;refine⟨λO H1=>O=[some (.ref a),some (.int (gT M.f S.pc))]/\cN K C H1 a q M (hZ M S)/\cV [a] H H1,?_,?_⟩
  ·refine⟨_,Z,a,dx,_,Z,e,Z,a,q,M,D,S,Z,R,ok,aO,_,Z,?_⟩
   cases hs:S.eg with |some z=>refine bc ⟨Z,?_,cV.refl _ _⟩;unfold hZ;rw[hs];exact R |none=>
    refine bF ?_;refine⟨_,Z,a,dx,_,_,Z,e,Z,_,Z,bW Z,λt H1 n1=>?_⟩;have e1:=n1.same _ _ e;refine⟨_,Z,a,dx,_,Z,e1,by show 9<1000;decide,?_⟩;have eh:hZ M S={S with eg:=some (S.pc,gT M.f S.pc,0)}:=by unfold hZ;rw[hs]
    refine⟨Z,?_,λb o' eb hb=>?_⟩
    ·rw[eh]
     exact(R.same ok.row.no n1.same).Td (S':={S with eg:=some (S.pc,gT M.f S.pc,0)}) e1 ok.row.no rfl (RD.mono n1.same _ r1) (RD.mono n1.same _ r2) (r3.go n1.same) ⟨t,cP,Z,aQ.of n1.at',r3.go n1.same⟩
    ·have ha:b≠a:=λz=>hb (by rw[z];simp)
     rw[bj ha];exact n1.same _ _ eb
  ·rintro O H1 ⟨rfl,R1,b1⟩
   exact⟨_,Z,k H1 R1 b1⟩
theorem JZ{M:bX}{D:Nat}{S:cf}(ok:dh M D S):(hJ S).length=M.rs.length:=by
 unfold hJ;split
 ·exact ok.pl
 ·split
  ·next ns sp eo=>rw[zc (by rw[ok.pl];simp[zT];exact(ok.row.ok 0 ns sp eo).1.len)];exact ok.pl
  ·exact ok.pl
def nK(S:cf):cf:={S with pl:=hJ S,dn:=0,ds:=[],os:=[]}
theorem dh.drop{M:bX}{D:Nat}{S:cf}(h:dh M D S):dh M D (nK S):=⟨.nil,λi d e=>by simp[nK]at e,by simp[nK],h.fS,h.fR,.inl rfl,JZ h,h.pd,h.pm,h.eg,h.D1,h.D2⟩
theorem ZF{pc:Rat}{t:Rn.pR}:(t.isSome&&decide (pc=0))=true↔Halt pc t:=by unfold Halt;cases t with |none=>simp |some z=>simp
abbrev AE:Stmt:=inClass (top 75) 20
theorem Im:bh ["self","dropped"] ["self"] (aP AE):=bo aJ
inductive a52(K:aa)(C:Addr)(vs:List V)(H:Hp)(Q:VK):Prop |mk (a:_)(q:_)(M:_)(D:_)(S:_)(h0:vs=[.ref a])(h1:cN K C H a q M S)(h2:dh M D S)(h3:M.Ok)(h4:Halt S.pc S.eg)(h5:∀q' H',cN K C H' a q' M (nK S)->H q'=none->cV [a] H H'->Q (.int (S.ds.length:Nat)) H')
def Hn(K:aa)(C:Addr):Sp:=λvs H Q E=>a52 K C vs H Q
theorem UX{C:Addr}(F:MA K C "drop" "Runner.drop" AE)(TC:fB K C)(B:bw mg)(a0b:cU P w K mg au C "is_halted" 2 (fG K C λ_ S H Q=>Q (.bl (S.eg.isSome&&decide (S.pc=0))) H))(E6:cU P w K mg au C "place" 3 (fG K C λ_ S H Q=>∀v H',RD K H' v (cI (hJ S))->aA H H'->Q v H')):cU P w K mg au C "drop" 5 (Hn K C):=by
 refine F.has Im (λvs H Q E h=>?_) (λ_ _ _ _ _ _=>cJ λ_=>rfl) (λf aG A outer s H vs Q E hr h=>?_)
 ·obtain⟨a,q,M,D,S,rfl,_⟩:=h
  rfl
 ·obtain⟨a,q,M,D,S,rfl,Ra,ok,aO,hH,k2⟩:=h
  obtain⟨dx,mv,bv,cP,tv,e,r1,r2,r3,r4⟩:=Ra.ob;obtain⟨ys,eq,rq⟩:=Ra.qu;have aq:=Ra.ne;have nd:=Im.nd;have ly:=rq.length;refine⟨_,(aF (bB (dg (cD (iI a0b TC.cl (hr.mono az) (pv 0)))) (aI oJ) bC) (aF (pS 1 nd (eB K B (ao (dM TC.cl TC.kU (pv 0)) ay))) (aF (gY TC.cl TC.ue (pv 0) (iI E6 TC.cl (hr.mono az) (pv 0))) (aF (gY TC.cl TC.xB (pv 0) aB) (aF (gY TC.cl TC.kU (pv 0) (fJ ay)) (aI (aR (pv 1)))))))),?_⟩;refine⟨_,Z,a,dx,_,Z,e,Z,a,q,M,D,S,Z,Ra,ok,aO,_,Z,?_⟩;rw[ZF.mpr hH];refine bc ?_;refine⟨_,Z,a,dx,_,_,Z,e,Z,q,_,Z,.inl (aH.of eq),?_⟩;refine⟨_,Z,a,dx,_,Z,e,Z,a,q,M,D,S,Z,Ra,ok,aO,λu H1 ru s1=>?_⟩;have e1:=s1 _ _ e;refine⟨_,Z,a,dx,_,Z,e1,by show 9<1000;decide,?_⟩;refine⟨_,Z,a,dx,_,Z,bV,by show 9<1000;decide,?_⟩;refine⟨bW Z,λq' H2 n2=>?_⟩;have e2:=n2.same _ _ (bV (a:=a));refine⟨_,Z,a,dx,_,Z,e2,by show 9<1000;decide,?_⟩;have zb:a≠q':=λz=>by have:=n2.no;rw[<-z,bV]at this;cases this
  have key:∀X:Hp,(∀b,b≠a->X b=H2 b)->Q (.int (S.ds.length:Nat)) (L2.upd X a (.ins C dx (kN mv u (.int 0) (.ref q') cP (.int S.rate) (.str S.side) (.str S.mark) tv))):=by
   intro X hX;have Eh:∀b o',b≠a->H1 b=some o'->H2 b=some o':=λb o' ha eb=>n2.same _ _ (by rw[bj ha,bj ha];exact eb);have bt:cV [a] H (L2.upd X a (.ins C dx (kN mv u (.int 0) (.ref q') cP (.int S.rate) (.str S.side) (.str S.mark) tv))):=λb o' eb hb=>by have ha:b≠a:=λz=>hb (by rw[z];exact .head _);rw[bj ha,hX b ha];exact Eh _ _ ha (s1 _ _ eb)
   have sv:=bt.v λx hx o' eo=>by rw[e9]at hx;rw[hx,e]at eo;cases eo;trivial
   have QM:eG H1 (L2.upd X a (.ins C dx (kN mv u (.int 0) (.ref q') cP (.int S.rate) (.str S.side) (.str S.mark) tv))):=λb o' nb eb=>by
    have ha:b≠a:=λz=>by rw[z,e1]at eb;cases eb;exact nb trivial
    rw[bj ha,hX b ha];exact Eh _ _ ha eb
   refine k2 q' _ ⟨⟨dx,mv,u,cP,tv,bV,RD.v sv _ (iP _ _ _ _ _) r1,RD.v QM _ (hU _) ru,r3.v sv,r4.v sv⟩,[],?_,df⟩ ?_ bt
   ·rw[bj zb.symm,hX q' zb.symm];exact n2.at'
   ·cases e':H q' with |none=>rfl |some o'=>have h1:=s1 _ _ e';have h2:=n2.no;rw[bj zb.symm,bj zb.symm,h1]at h2;cases h2
  refine⟨_,Z,?_⟩;rw[ly];exact key _ (λb hb=>rfl)
end
end Lw
set_option maxHeartbeats 1000000
namespace Lw
open PySem PySem.Spec PyProof.Rows L2 Rt Ln Cn Pn
open Ow (topR cornO mnO betR atO ownF leadF ownL OkI OkIs)
section
variable {P:af}{w:World}{K:aa}{mg:bf}{au:Heap}
theorem Pq{z:Int}(h:z.natAbs<2^24):Bd 100 (z:Rat):=⟨by rw[zw];exact vN h az,by rw[zx];decide⟩
theorem JL{H:Hp}{a:Addr}{z:Int}(h:aQ K H a [.int z,.int 1]):bL K H (.ref a) (z:Rat):=⟨a,Z,by rw[zw,zx];exact h⟩
theorem a48(r:Rat)(n:Int):(r+(n:Rat)).num=r.num+n*r.den/\(r+(n:Rat)).den=r.den:=by
 have c:(r.num+n*r.den).natAbs.Coprime r.den:=by have h:=Int.gcd_add_mul_right_left (r.den:Int) r.num n;exact h.trans r.reduced
 have e:r+(n:Rat)=⟨r.num+n*r.den,r.den,r.den_nz,c⟩:=by
  rw[Rat.mk_eq_divInt,add_div,zw,zx];congr 1
  ·simp
  ·simp
 rw[e];exact⟨Z,Z⟩
theorem KU{a b:Rat}(h:a<b):mn a b=a:=by unfold mn;rw[aV (nU.mpr (FC h))]
theorem CY{a b:Rat}(h:¬a<b):mn a b=b:=by
 unfold mn;split
 ·rfl
 ·next h2=>exact vI (nU.mp h2) (nU.mp h)
theorem KW(a b:Rat):mn a b=mn b a:=by
 by_cases h:a<b
 ·rw[KU h,CY (nU.mpr (FC h))]
 ·rw[CY h]
  unfold mn;rw[aV h]
inductive a5i(K:aa)(vs:List V)(H:Hp)(Q:VK):Prop |mk (v1:_)(v2:_)(r:_)(s:_)(h0:vs=[v1,v2])(h1:bL K H v1 r)(h2:bL K H v2 s)(h3:Bd 2000 r)(h4:Bd 2000 s)(h5:∀v,bL K H v (mn r s)->Q v H)
def A4(K:aa):Sp:=λvs H Q _=>a5i K vs H Q
abbrev AV:Stmt:=top 116
theorem IG:bh ["_law_one","_law_other"] ["_law_one","_law_other"] (aP AV):=bo aJ
theorem Vc(F:FA K mg "_law_min" AV)(B:bw mg):aE P w K mg au "_law_min" 1 (A4 K):=by
 refine F.has IG (λvs H Q E h=>?_) (λ_ _ _ _ _ _=>da λ_ _=>rfl) (λf aG A outer s H vs Q E hr h=>?_)
 ·obtain⟨v1,v2,r,s,rfl,_⟩:=h
  rfl
 ·obtain⟨v1,v2,r,s,rfl,⟨p,rfl,hp⟩,⟨q,rfl,hq⟩,br,bs,k⟩:=h
  have nd:=IG.nd;refine⟨_,(aI (aR (jc (bK qC (aL bU (px K (pv 0) aB) (px K (pv 1) aB)) (aL bU (px K (pv 1) aB) (px K (pv 0) aB)) (bE _)) (pv 0) (pv 1)))),?_⟩;refine⟨_,Z,.inr ⟨p,_,0,.int r.num,Z,Z,hp,Z,_,Z,.inr ⟨q,_,1,.int s.den,Z,Z,hq,Z,_,_,Z,Z,mK br.wn.bits bs.wd.bits,?_⟩⟩⟩;refine⟨_,Z,.inr ⟨q,_,0,.int s.num,Z,Z,hq,Z,_,Z,.inr ⟨p,_,1,.int r.den,Z,Z,hp,Z,_,_,Z,Z,mK bs.wn.bits br.wd.bits,?_⟩⟩⟩;refine⟨_,_,Z,Z,_,Z,?_⟩;refine eJ (λhc=>?_) (λhc=>?_)
  ·have h:r<s:=(vG r s).mpr (lE hc)
   refine⟨_,Z,k _ ?_⟩;rw[KU h];exact⟨p,Z,hp⟩
  ·have h:¬r<s:=λz=>hc (bR ((vG r s).mp z))
   refine⟨_,Z,k _ ?_⟩;rw[CY h];exact⟨q,Z,hq⟩
inductive a5g(K:aa)(vs:List V)(H:Hp)(Q:VK):Prop |mk (v1:_)(r:_)(n:_)(h0:vs=[v1,.int n])(h1:bL K H v1 r)(h2:Bd 2000 r)(h3:n.natAbs<2^24)(h4:∀v H',bL K H' v (r+(n:Rat))->aA H H'->Q v H')
def Hs(K:aa):Sp:=λvs H Q _=>a5g K vs H Q
abbrev AS:Stmt:=top 117
theorem ID:bh ["_law_one","_law_number"] ["_law_one","_law_number"] (aP AS):=bo aJ
theorem Va(F:FA K mg "_law_more" AS)(B:bw mg):aE P w K mg au "_law_more" 1 (Hs K):=by
 refine F.has ID (λvs H Q E h=>?_) (λ_ _ _ _ _ _=>da λ_ _=>rfl) (λf aG A outer s H vs Q E hr h=>?_)
 ·obtain⟨v1,r,n,rfl,_⟩:=h
  rfl
 ·obtain⟨v1,r,n,rfl,⟨p,rfl,hp⟩,br,bn,k⟩:=h
  have nd:=ID.nd;refine⟨_,(aI (aR (eA (ao (aL dr (px K (pv 0) aB) (aL bU (pv 1) (px K (pv 0) aB))) (ao (px K (pv 0) aB) ay))))),?_⟩;have jn:(2:Nat)^24<2^63:=by decide
  refine⟨_,Z,.inr ⟨p,_,0,.int r.num,Z,Z,hp,Z,_,Z,_,Z,.inr ⟨p,_,1,.int r.den,Z,Z,hp,Z,_,_,Z,Z,.of_left (cH aw aw),?_⟩⟩⟩;refine⟨_,_,Z,Z,?_⟩;refine⟨_,Z,.inr ⟨p,_,1,.int r.den,Z,Z,hp,Z,?_⟩⟩;refine⟨bW Z,λq H1 n1=>k _ _ ⟨q,Z,?_⟩ n1.same⟩;have:=a48 r n;rw[this.1,this.2];exact aQ.of n1.at'
abbrev AZ:Stmt:=top 118
theorem IK:bh ["_law_item_here"] ["_law_item_here"] (aP AZ):=bo aJ
theorem Vj(F:FA K mg "_law_lead" AZ)(B:bw mg):aE P w K mg au "_law_lead" 1 (lL K):=by
 refine F.has IK (λvs H Q E h=>?_) (λ_ _ _ _ _ _=>cJ λ_=>rfl) (λf aG A outer s H vs Q E hr h=>?_)
 ·obtain⟨v,ns,sp,rfl,_⟩:=h
  rfl
 ·obtain⟨v,ns,sp,rfl,rd,cQ,hz,k⟩:=h
  have nd:=IK.nd;obtain⟨a,b,rfl,ha,hb⟩:=kW rd;refine⟨_,(aI (aR (jc (bK (dC K Z hr.units) (px K (pv 0) aB) bu (bE _)) (cw (x:="max") (D5 K Z Z) Z (B.at "max") FL (ao (dA (N:=["_law_step"]) (js:=[none]) rfl rfl rfl (jb K rfl (px K (pv 0) aB)) (λ_ _ _ _ _=>(ba 0 (gu _))) (λ_ _ _ _ _=>cX) (λ_ _ _ _ _=>(cw (x:="abs") my rfl (B.at "abs") nW (ao (pv 0) ay)))) ay)) aB))),?_⟩;refine⟨_,Z,.inr ⟨a,_,0,.str "line",Z,Z,ha,Z,.inr ⟨_,_,bP _,bP _,ng,ng,_,Z,?_⟩⟩⟩;refine bF ?_;refine⟨_,Z,.inr ⟨a,_,1,.ref b,Z,Z,ha,Z,b,Z,⟨_,hb⟩,λD H0 nw=>?_⟩⟩;refine nL (K:=K) (xs:=ns.map V.int) (ds:=(ns.map jH).map PyData.int) [] hb nw (by simp) (by simpa using hz) (jZ _) ?_ ?_
  ·intro i x d H2 Q' ex ed s2 hq
   obtain⟨m,em,rfl⟩:=ke ed;rw[bJ]at em;cases en:ns[i]? with |none=>rw[en]at em;cases em |some n=>rw[en]at em;cases em;cases xE ex en;exact⟨_,Z,n,Z,hq _ _ (aA.refl _) (ek _)⟩
  ·intro H' ys s2 d2 r2
   rw[r2.eK]at d2;refine⟨D,_,Z,aH.of d2,by simpa using cQ,λM h1 h2=>?_⟩;rw[Dg cQ h1 h2];exact k H' s2
theorem Gr(sp:Int):topR 100 sp=((sp*sp:Int):Rat):=by
 show Rat.divInt ((sp*100)^2) 10000=_;rw[<-vF ((sp*sp:Int):Rat),zw,zx];refine(OK az az).mpr ?_;rw[fE,fE,lH];simp only[lI,Int.mul_one];have:sp*100*(sp*100)=sp*sp*10000:=by rw[vU,Int.mul_left_comm 100,<-vU,<-vU];lia
 rw[this];exact Int.mul_one _
theorem GR{a b:Int}(h0:0<=a)(h:a<=b):((a*a:Int):Rat)<=((b*b:Int):Rat):=Rat.intCast_le_intCast.mpr (Int.mul_le_mul h h h0 aw)
theorem Rj{a b:Int}(ha:0<=a)(hb:0<=b):((((if b<a then b else a)*(if b<a then b else a):Int)):Rat)=mn (topR 100 a) (topR 100 b):=by
 rw[Gr,Gr];refine(oX ?_ ?_ ?_).symm
 ·split
  ·exact .inr rfl
  ·exact .inl rfl
 ·split
  ·exact GR hb aw
  ·exact iy
 ·split
  ·exact iy
  ·exact GR ha aw
inductive a59(K:aa)(vs:List V)(H:Hp)(Q:VK):Prop |mk (m:_)(x:_)(y:_)(rs:_)(r:_)(f:_)(j:_)(t:_)(d1:_)(d2:_)(o1:_)(o2:_)(h0:vs=[m,x,y])(h1:RD K H m (hV rs r f j t))(h2:kF rs r f j t)(h3:RD K H x d1)(h4:RD K H y d2)(h5:itR d1 o1)(h6:itR d2 o2)(h7:(∀ns sp,o1=some (ns,sp)->eH rs.length 100 ns/\1<=sp/\sp<=20))(h8:(∀ns sp,o2=some (ns,sp)->eH rs.length 100 ns/\1<=sp/\sp<=20))(h9:∀v H',bL K H' v (betR j 100 o1 o2)->aA H H'->Q v H')
def Hq(K:aa):Sp:=λvs H Q _=>a59 K vs H Q
abbrev AL:Stmt:=top 119
theorem Iw:bh ["_law_machine_here","_law_one","_law_other","_law_a","_law_b","_law_gap","_law_slow"] ["_law_machine_here","_law_one","_law_other"] (aP AL):=bo aJ
theorem V4(F:FA K mg "_law_own_bound" AL)(B:bw mg)(uN:aE P w K mg au "_law_lead" 1 (lL K))(yh:aE P w K mg au "_law_min" 1 (A4 K))(a0o:aE P w K mg au "_law_frac" 1 (Hy K)):aE P w K mg au "_law_own_bound" 2 (Hq K):=by
 refine F.has Iw (λvs H Q E h=>?_) (λ_ _ _ _ _ _=>lA λ_ _ _=>rfl) (λf aG A outer s H vs Q E hr h=>?_)
 ·obtain⟨m,x,y,rs,r,f,j,t,d1,d2,o1,o2,rfl,_⟩:=h
  rfl
 ·obtain⟨m,x,y,rs,r,f,j,t,d1,d2,o1,o2,rfl,rm,aO,r1,r2,i1,i2,Uk,Uj,k⟩:=h
  have nd:=Iw.nd;refine⟨_,(aF (bB (PW.pt (gX (bK (lV K Z hr.units) (px K (pv 1) aB) bu (bE _)) (gW (bK (lV K Z hr.units) (px K (pv 2) aB) bu (bE _))))) (aI (aR (eA (ao aB (ao aB ay))))) bC) (aF (pS 3 nd (pf uN hr (ao (pv 1) ay))) (aF (pS 4 nd (pf uN hr (ao (pv 2) ay))) (aF (pS 5 nd (cw (x:="max") (D5 K Z Z) Z (B.at "max") FL (ao (dA (N:=["_law_x","_law_y","_law_b","_law_a"]) (js:=[none,none,some 4,some 3]) rfl rfl rfl (kP K rfl false false rfl (B.at "zip") (ao (px K (pv 1) aB) (ao (px K (pv 2) aB) ay))) (λ_ _ _ _ _=>(dS K rfl (n:=2) rfl (bM (ba 0 (show List.Nodup (["_law_x","_law_y","_law_b","_law_a"]:List Str) by decide+kernel)) (bM (ba 1 (show List.Nodup (["_law_x","_law_y","_law_b","_law_a"]:List Str) by decide+kernel)) dR)))) (λ_ _ _ _ _=>cX) (λ_ _ _ _ _=>(cw (x:="abs") my rfl (B.at "abs") nW (ao (aL jW (aL bU (pv 0) (pv 2)) (aL bU (pv 1) (pv 3))) ay)))) ay))) (aF (pS 6 nd (cw (x:="min") (EU Z) Z (B.at "min") OY (ao (px K (pv 1) aB) (ao (px K (pv 2) aB) ay)))) (aF (bB (bK (dC K Z hr.units) (pv 5) aB (bE _)) (aI (aR (eA (ao (aL bU (pv 6) (pv 6)) (ao aB ay))))) bC) (aI (aR (pf yh hr (ao (eA (ao (aL bU (pv 6) (pv 6)) (ao aB ay))) (ao (pf a0o hr (ao (aL tV (aL bU (aL bU (px K (pv 0) aB) (pv 3)) (pv 4)) aB) (ao (aL bU (pv 5) (pv 5)) ay))) ay))))))))))),?_⟩;obtain⟨ma,mb,rfl,gf,iR⟩:=lY rm;obtain⟨a1,w1,y1,rfl,h1,ED,zR⟩:=qV r1 i1;obtain⟨a2,w2,y2,rfl,h2,ew2,QL⟩:=qV r2 i2;refine⟨_,Z,.inr ⟨a1,_,0,.str w1,Z,Z,h1,cM (fF 0) Z,.inr ⟨_,_,bP _,bP _,zR,ng,_,Z,?_⟩⟩⟩;rw[ED];cases o1 with |none=>refine bF ?_;refine⟨bW Z,λz H3 n3=>k _ _ ?_ n3.same⟩;rw[Ow.a3N];exact⟨z,Z,aQ.of n3.at'⟩ |some q1=>refine bc ?_;refine⟨_,Z,.inr ⟨a2,_,0,.str w2,Z,Z,h2,cM (fF 0) Z,.inr ⟨_,_,bP _,bP _,QL,ng,_,Z,?_⟩⟩⟩;rw[ew2];cases o2 with |none=>refine bF ?_;refine⟨bW Z,λz H3 n3=>k _ _ ?_ n3.same⟩;rw[Ow.NV];exact⟨z,Z,aQ.of n3.at'⟩ |some q2=>
   refine bc ?_;obtain⟨ns,sp⟩:=q1;obtain⟨ms,sq⟩:=q2;have ed1:=jf i1;have ed2:=jf i2;subst ed1 ed2;obtain⟨eT,p1,p2⟩:=Uk ns sp rfl;obtain⟨dW,q1,q2⟩:=Uj ms sq rfl;have lr:=aO.len;have l1:=Dj eT;have l2:=Dj dW;have ln1:ns.length<=3:=by rw[eT.len];lia
   have ln2:ms.length<=3:=by rw[dW.len];lia
   have La:ms.length=ns.length:=by rw[eT.len,dW.len]
   refine⟨_,Z,_,ns,sp,Z,r1,eT.ne,aw,λH6 s6=>?_⟩;refine⟨_,Z,_,ms,sq,Z,RD.mono s6 _ r2,dW.ne,aw,λH7 s7=>?_⟩;have BD:=s6.trans s7;obtain⟨a1',b1,ea1,yg,LZ⟩:=kW (RD.mono BD _ r1);obtain⟨a2',b2,yK,yf,ye⟩:=kW (RD.mono BD _ r2);cases ea1;cases yK;refine⟨_,Z,.inr ⟨a1,_,1,.ref b1,Z,Z,yg,Z,_,Z,.inr ⟨a2,_,1,.ref b2,Z,Z,yf,Z,b1,b2,Z,⟨_,LZ⟩,⟨_,ye⟩,λD4 H8 n8=>?_⟩⟩⟩;refine pJ (K:=K) (b1:=false) (b2:=false) (xs:=ns.map V.int) (ys:=ms.map V.int) (ds:=((cy ns ms).map jH).map PyData.int) _ Z LZ ye n8 (by simp[cy]) (by simp[cy];lia) (jZ _) ?_ ?_
   ·intro i x y d H9 Q' ex ey ed s9 hq
    obtain⟨a,b,e1,e2,rfl,rfl⟩:=zip2 La ex ey;obtain⟨m,em,rfl⟩:=ke ed;rw[bJ,G6 e1 e2]at em;cases em;have q1:=eT.bd a (fP e1);have q2:=dW.bd b (fP e2);refine⟨_,Z,_,Z,_,_,Z,Z,.of_left (cH aw aw),?_⟩;refine⟨_,Z,_,Z,_,_,Z,Z,.of_left (cH aw aw),?_⟩;exact⟨_,_,Z,Z,_,Z,hq _ _ (aA.refl _) (ek _)⟩
   intro H9 zs s9 d9 r9;rw[r9.eK]at d9;have iU:cy ns ms≠[]:=by
    have hl:(cy ns ms).length=ns.length:=by simp[cy,La]
    intro e;rw[e]at hl;exact eT.ne (P6.mp hl.symm)
   refine⟨D4,_,Z,aH.of d9,by simpa using iU,λM h1 h2=>?_⟩;have eM:=Dg iU h1 h2;subst eM;have oE:=BD.trans s9;have yg:=yg.go s9;have yf:=yf.go s9;refine⟨_,Z,.inr ⟨a1,_,2,.int sp,Z,Z,yg,Z,_,Z,.inr ⟨a2,_,2,.int sq,Z,Z,yf,Z,_,_,Z,?_⟩⟩⟩;have es:=Rj (a:=sp) (b:=sq) aw aw;generalize qY:(if sq<sp then sq else sp)=sl at es⊢;have sl1:1<=sl/\sl<=20:=by rw[<-qY];split<;>lia
   have cO:cornO j ns ms=if aM (cy ns ms)=0 then none else some (Rat.divInt ((j*aM ns*aM ms)^2) ((aM (cy ns ms):Int)^2)):=rfl;have hB:betR j 100 (some (ns,sp)) (some (ms,sq))=mnO (mn (topR 100 sp) (topR 100 sq)) (cornO j ns ms):=rfl;rw[hB,<-es]at k;refine⟨_,Z,.inl ⟨_,_,Z,Z,_,Z,?_⟩⟩;by_cases h0:aM (cy ns ms)=0
   ·rw[bR aw]
    refine bF ?_;rw[aU h0]at cO;rw[cO]at k;refine⟨_,Z,_,Z,_,_,Z,Z,.of_left (cH aw aw),?_⟩;refine⟨bW Z,λz H3 n3=>k _ _ (JL (aQ.of n3.at')) (oE.trans n3.same)⟩
   ·rw[dP aw]
    refine bc ?_;rw[aV h0]at cO;rw[cO]at k;have jl:(j*aM ns).natAbs<=50*100:=iO (by have:=aO.j1;lia) aw;have XE:(j*aM ns*aM ms).natAbs<=50*100*100:=iO jl aw;have cb:=yO (λz hz=>by have:=eT.bd z hz;lia) (λz hz=>by have:=dW.bd z hz;lia) (ns:=ns) (ms:=ms);have m9:=kX cb;have jn:(2:Nat)^64=18446744073709551616:=by decide
    refine⟨_,Z,_,Z,_,_,Z,Z,.of_left (cH aw aw),?_⟩;refine⟨bW Z,λz H3 n3=>?_⟩;refine⟨_,Z,.inr ⟨ma,_,3,.int j,Z,Z,gf.go (oE.trans n3.same),Z,?_⟩⟩;refine⟨_,Z,_,_,Z,Z,.of_left (cH (by have:=aO.j1;lia) (by have:=aO.j1;lia)),_,Z,_,_,Z,Z,.of_right (cH aw aw),?_⟩;refine⟨_,_,Z,Z,⟨az,az,by rw[jn];lia⟩,?_⟩;have qq:(aM (cy ns ms):Int)*(aM (cy ns ms):Int)=(aM (cy ns ms):Int)^2:=by rw[fE,fE,lH,lI]
    refine⟨_,Z,_,Z,_,_,Z,Z,.of_left (cH aw aw),?_⟩;rw[qq];refine⟨_,_,Z,?_,?_,λv6 sr r6 jx=>?_⟩
    ·rw[<-qq];exact qh aw aw
    ·refine mO (n:=64) ?_ az
     rw[<-qq,jn];have:=iO (a:=(aM (cy ns ms):Int)) (b:=(aM (cy ns ms):Int)) (m:=2000000) (n:=2000000) aw aw
     lia
    have Rc:bL K sr v6 (Rat.divInt ((j*aM ns*aM ms)^2) ((aM (cy ns ms):Int)^2)):=r6;have Tc:Bd 2000 (Rat.divInt ((j*aM ns*aM ms)^2) ((aM (cy ns ms):Int)^2)):=(Ow.EO aO.j1.1 aO.j1.2 eT.bd dW.bd cO).mono az;have bs:Bd 2000 ((sl*sl:Int):Rat):=(Pq (by
     have:=iO (a:=sl) (b:=sl) (m:=20) (n:=20) aw aw
     lia)).mono az;exact⟨.ref z,v6,_,_,Z,(JL (aQ.of n3.at')).go jx,Rc,bs,Tc,λv rv=>k v sr rv (oE.trans (n3.same.trans jx))⟩
inductive a54(K:aa)(vs:List V)(H:Hp)(Q:VK):Prop |mk (m:_)(iv:_)(rs:_)(r:_)(f:_)(j:_)(t:_)(ds:_)(os:_)(h0:vs=[m,iv])(h1:RD K H m (hV rs r f j t))(h2:kF rs r f j t)(h3:RD K H iv (.list ds))(h4:gh rs.length ds os)(h5:ds.length<=30)(h6:∀l ys H',H l=none->H' l=some (.lst ys)->aK K H' ys ((gZ r f j 100 os).map cx)->aA H H'->Q (.ref l) H')
def Ho(K:aa):Sp:=λvs H Q _=>a54 K vs H Q
abbrev AG:Stmt:=top 120
theorem Ip:bh ["_law_machine_here","_law_items","_law_found","_law_border","_law_from_behind","_law_from_ahead"] ["_law_machine_here","_law_items"] (aP AG):=bo aJ
theorem V0(F:FA K mg "_law_plan" AG)(B:bw mg)(a0j:aE P w K mg au "_law_own_bound" 2 (Hq K))(M1:aE P w K mg au "_law_more" 1 (Hs K))(uN:aE P w K mg au "_law_lead" 1 (lL K))(yh:aE P w K mg au "_law_min" 1 (A4 K)):aE P w K mg au "_law_plan" 3 (Ho K):=by
 refine F.has Ip (λvs H Q E h=>?_) (λ_ _ _ _ _ _=>da λ_ _=>rfl) (λfa aG A outer s H vs Q E hr h=>?_)
 · obtain⟨m,iv,rs,r,f,j,t,ds,os,rfl,_⟩:=h
   rfl
 · obtain⟨m,iv,rs,r,f,j,t,ds,os,rfl,rm,aO,ri,row,hz,k⟩:=h
   have nd:=Ip.nd;refine⟨_,(aF (pS 2 nd (aL (rT K Z) (aL (rT K Z) (fJ (ao (eA (ao aB (ao aB ay))) ay)) (dA (N:=["_law_one","_law_other","_law_machine_here"]) (js:=[none,none,some 0]) Z Z Z (kP K Z true true Z (B.at "zip") (ao (pv 1) (ao (tR (tw K rfl) (pv 1) (tP aB) tQ) ay))) (λ_ _ _ _ _=>(dS K rfl (n:=2) rfl (bM (ba 0 (show List.Nodup (["_law_one","_law_other","_law_machine_here"]:List Str) by decide+kernel)) (bM (ba 1 (show List.Nodup (["_law_one","_law_other","_law_machine_here"]:List Str) by decide+kernel)) dR)))) (λ_ _ _ _ _=>cX) (λ_ _ _ _ _=>(pf a0j hr (ao (pv 2) (ao (pv 0) (ao (pv 1) ay))))))) (fJ (ao (eA (ao aB (ao aB ay))) ay)))) (aF (pS 2 nd (tR (tw K Z) (pv 2) tQ (tP (aL dr (eB K B (ao (pv 1) ay)) aB)))) (aF (kO jM Z (Tz Z (B.at "range") (ao (aL jW (eB K B (ao (pv 1) ay)) aB) (ao aB (ao (kQ kI aB) ay)))) (ba 3 nd) (aI (bB (bK (dC K Z hr.units) (px K (px K (pv 1) (pv 3)) aB) bu (bE _)) (aF (pS 4 nd (pf M1 hr (ao (px K (pv 2) (aL dr (pv 3) aB)) (ao (aL bU (aL bU aB (px K (pv 0) aB)) (pf uN hr (ao (px K (pv 1) (pv 3)) ay))) ay)))) (aI (eu (pf yh hr (ao (pv 4) (ao (px K (pv 2) (pv 3)) ay))) (oN (pv 2) (pv 3) set_list)))) bC))) (aF (kO jM Z (TB Z (B.at "range") (ao aB (ao (eB K B (ao (pv 1) ay)) ay))) (ba 3 nd) (aI (bB (bK (dC K Z hr.units) (px K (px K (pv 1) (aL jW (pv 3) aB)) aB) bu (bE _)) (aF (pS 5 nd (pf M1 hr (ao (px K (pv 2) (aL jW (pv 3) aB)) (ao (aL bU (aL bU aB (px K (pv 0) aB)) (pf uN hr (ao (px K (pv 1) (aL jW (pv 3) aB)) ay))) ay)))) (aI (eu (pf yh hr (ao (pv 5) (ao (px K (pv 2) (pv 3)) ay))) (oN (pv 2) (pv 3) set_list)))) bC))) (aI (aR (pv 2))))))),?_⟩;have ll:=row.len;have T7:=aO.r1;have MH:=aO.f1;have lr:=aO.len;obtain⟨ma,mb,rfl,gf,iR⟩:=lY rm;obtain⟨ia,xs,rfl,hi,gG⟩:=ri.lst_inv;have lx:=gG.length;refine⟨bW Z,λt0 H1 n1=>?_⟩;refine⟨bW Z,λl0 H2 n2=>?_⟩;have Jv:=n1.same.trans n2.same;refine⟨_,Z,_,Z,1,Z,ia,xs,Z,.inl ⟨hi.go Jv,λtl H3 n3=>?_⟩⟩;have x6:=Jv.trans n3.same;refine⟨ia,tl,Z,⟨_,hi.go x6⟩,⟨_,aH.of n3.at'⟩,λD0 H4 n4=>?_⟩;have et:=n3.at';rw[Nt]at et;have tX:∀(i:Nat)(o:Itm),os[i]? =some o->∀(ns:List Int)(sp:Int),o=some (ns,sp)->eH rs.length 100 ns/\1<=sp/\sp<=20:=λi o e ns sp e'=>row.ok i ns sp (by rw[e,e']);refine pJ (K:=K) (b1:=true) (b2:=true) (xs:=xs) (ys:=xs.drop 1) (ds:=((List.range (os.length-1)).map (λi=>ownF j 100 os (i+1))).map cx) _ Z (hi.go x6) (aH.of et) n4 (by rw[FX];simp;lia) (by simp;lia) (qM _) ?_ ?_
   · intro i x y d H5 Q' ex ey ed s5 hq
     have tJ:=x6.trans s5;rw[List.getElem?_drop]at ey;obtain⟨d1,e1,r1⟩:=gG.get' i ex;obtain⟨d2,e2,r2⟩:=gG.get' (1+i) ey;obtain⟨o1,uW,i1⟩:=row.get e1;obtain⟨o2,pH,i2⟩:=row.get e2;have Z7:1+i<os.length:=(dQ.mp pH).1;have dv:d=cx (betR j 100 o1 o2):=by rw[bJ,bJ,cC (by simp;lia),zG]at ed;have:=(cW ed).symm;rw[this];show cx (betR j 100 (atO os i) (atO os (i+1)))=_;rw[Ow.rV uW,Ow.rV (show os[i+1]? =some o2 by rw[Nat.add_comm];exact pH)]
     subst dv;exact⟨_,Z,_,Z,_,Z,.ref ma,x,y,rs,r,f,j,t,d1,d2,o1,o2,Z,RD.mono tJ _ rm,aO,RD.mono tJ _ r1,RD.mono tJ _ r2,i1,i2,tX _ _ uW,tX _ _ pH,λv H6 rv s6=>hq _ _ s6 rv.rd⟩
   intro H5 vZ s5 d5 r5;have X5:=r5.length;simp at X5;have tJ:=x6.trans s5;refine⟨l0,D0,_,vZ,Z,Z,aH.of (s5 _ _ (n3.same _ _ n2.at')),aH.of d5,tq _ (by simp;lia),λl2 H6 n6=>?_⟩;refine⟨bW Z,λt1 H7 n7=>?_⟩;refine⟨bW Z,λl3 H8 n8=>?_⟩;refine⟨l2,l3,_,_,Z,Z,aH.of (n8.same _ _ (n7.same _ _ n6.at')),aH.of n8.at',tq _ (by simp;lia),λl4 H9 n9=>?_⟩;have oE:=n6.same.trans (n7.same.trans (n8.same.trans n9.same));have BI:=tJ.trans oE;refine⟨_,Z,_,Z,ia,xs,Z,.inl (hi.go BI),_,_,Z,Z,_,Z,l4,_,Z,.inl ⟨aH.of n9.at',λD fD iM=>?_⟩⟩;have s1:aA H fD:=BI.trans iM.same;have nD:H D=none:=by cases e:H D with |none=>rfl |some o=>have:=BI _ _ e;rw[iM.no]at this;cases this
   have hB:=Ow.Cq (rate:=100) aO.j1.1 aO.j1.2 az az row.kS;have hN:=Ow.U8 j 100 os;have h0:ownF j 100 os 0=0:=rfl;have hn:=Ow.Kb j 100 os os.length rfl;have z0:RD K fD (.ref t0) (cx 0):=(show bL K fD (.ref t0) 0 from⟨t0,Z,aQ.of (iM.same _ _ (oE _ _ (s5 _ _ (n3.same _ _ (n2.same _ _ n1.at')))))⟩).rd;have z1:RD K fD (.ref t1) (cx 0):=(show bL K fD (.ref t1) 0 from⟨t1,Z,aQ.of (iM.same _ _ (n9.same _ _ (n8.same _ _ n7.at')))⟩).rd;have r1:aK K fD (([V.ref t0]++vZ++[V.ref t1]).take (xs.length+1)) ((ownL j 100 os).map cx):=by
    by_cases cQ:os=[]
    · have e0:os.length=0:=by rw[cQ];rfl
      have ez:vZ=[]:=P6.mp aw;have ex:xs.length=0:=by lia
      rw[ez,ex,cQ];exact ck z0 df
    · have h1:0<os.length:=vQ.mpr cQ
      rw[zC (by simp;lia),Ow.K9 j 100 cQ,lF,lF];exact((ck z0 df).append (aK.mono (oE.trans iM.same) _ r5)).append (ck z1 df)
   have d1:=iM.at';rw[show((xs.length:Int)+1)=((xs.length+1:Nat):Int)from Z,a3a]at d1;generalize([V.ref t0]++vZ++[V.ref t1]).take (xs.length+1)=y1 at r1 d1;generalize hg:ownF j 100 os=g at hB hN h0 hn;have Ta:aK K fD y1 ((lst os.length g).map cx):=by rw[<-hg];exact r1
   have hL:∀i m,leadF os i=some m->(2*f*(m:Int)).natAbs<2^24:=λi m e=>oa aO.f1.1 aO.f1.2 (oZ row.kS e);have rB:∀i m,leadF os i=some m->(2*r*(m:Int)).natAbs<2^24:=λi m e=>oa aO.r1.1 aO.r1.2 (oZ row.kS e);have FB:∀i,i<=os.length->Bd 900 (fl os.length (leadF os) (2*f) g i):=λi hi=>(Ep (λi _=>hB i) hL i hi).mono aw;have FZ:=a1q (n:=os.length) (L:=leadF os) (f:=2*f) (g:=g) aw (λi _=>hN i) h0;have FN:=Mu (n:=os.length) (L:=leadF os) (f:=2*f) (g:=g) aw (λi _=>hN i);refine⟨_,Z,ia,_,Z,.inl (hi.go s1),_,_,Z,Z,_,Z,_,_,Z,⟨aw,aw,az,az⟩,?_⟩;have eN:((xs.length:Int)-1-0).toNat=os.length-1:=by lia
   rw[eN];refine a1l (Pv:=λi O H5=>aA H H5/\∃zs v1 v2 v3,H5 D=some (.lst zs)/\aK K H5 zs ((lst os.length λk=>if os.length<=k+i then fl os.length (leadF os) (2*f) g k else g k).map cx)/\O=[some (.ref ma),some (.ref ia),some (.ref D),v1,v2,v3]) ?_ ?_ ?_
   · refine⟨s1,y1,none,none,none,d1,?_,Z⟩
     rw[jC (g:=λk=>if os.length<=k+0 then fl os.length (leadF os) (2*f) g k else g k) (g':=g)]
     ·exact Ta
     · intro k hk
       show g k=if os.length<=k+0 then _ else g k;split
       · next h => have:k=os.length:=by lia
                   subst this;exact nE.symm
       ·rfl
   · rintro i O H3 rk ⟨s3,zs,v1,v2,v3,dz,rz,rfl⟩
     obtain⟨x,hx⟩:∃x,xs[os.length-1-i]? =some x:=⟨_,cC (show os.length-1-i<xs.length by lia)⟩;generalize hc:os.length-1-i=c at hx;have lj:c<os.length:=by lia
     have eI:((xs.length:Int)-1-(i:Int))=(c:Int):=by lia
     rw[eI];obtain⟨d,ed,rd⟩:=gG.get' c hx;obtain⟨o,eo,it⟩:=row.get ed;have lz:=rz.length;rw[bD,jB]at lz;have nP:dY xs (c:Int)=some x:=cM aw (by simpa using hx);obtain⟨a,wd,yw,rfl,h1,ew,sw⟩:=qV (RD.mono s3 _ rd) it;refine⟨_,Z,_,Z,.inl ⟨ia,_,_,_,Z,Z,hi.go s3,nP,.inr ⟨a,_,0,.str wd,Z,Z,h1,cM (fF 0) Z,.inr ⟨_,_,bP _,bP _,sw,ng,_,Z,?_⟩⟩⟩⟩;rw[ew];cases o with
     |none=>
       refine bc ?_;refine⟨s3,zs,_,_,_,dz,?_,Z⟩;rw[jC (g:=λk=>if os.length<=k+(i+1)then fl os.length (leadF os) (2*f) g k else g k) (g':=λk=>if os.length<=k+i then fl os.length (leadF os) (2*f) g k else g k)]
       ·exact rz
       · intro k _
         show(if os.length<=k+i then _ else g k)=if os.length<=k+(i+1)then _ else g k;by_cases h1:os.length<=k+i
         ·rw[aU h1,aU aw]
         · rw[aV h1]
           by_cases h2:k=c
           ·subst h2;rw[aU aw,pE lj (xJ eo)]
           ·rw[aV aw] |some q=>
       obtain⟨ns,sp⟩:=q;refine bF ?_;have dv:=jf it;subst dv;obtain⟨eD,_,_⟩:=row.ok c ns sp eo;obtain⟨z1,kB⟩:∃z,zs[c+1]? =some z:=⟨_,cC (show c+1<zs.length by lia)⟩;obtain⟨z0,kC⟩:∃z,zs[c]? =some z:=⟨_,cC (show c<zs.length by lia)⟩;have R1:bL K H3 z1 (fl os.length (leadF os) (2*f) g (c+1)):=by
        obtain⟨d1,e1,r1⟩:=rz.get' (c+1) kB;rw[bJ,je _ (show c+1<=os.length by lia)]at e1;cases e1;have:os.length<=c+1+i:=by lia
        simp only[aU this]at r1;exact ja r1
       have R0:bL K H3 z0 (g c):=by
        obtain⟨d1,e1,r1⟩:=rz.get' c kC;rw[bJ,je _ (show c<=os.length by lia)]at e1;cases e1;have:¬os.length<=c+i:=by lia
        simp only[aV this]at r1;exact ja r1
       have rM:((c:Int)+1).toNat=c+1:=by lia
       have pL:dY zs ((c:Int)+1)=some z1:=cM aw (by rw[rM];exact kB);have pM:dY zs (c:Int)=some z0:=cM aw (by simpa using kC);refine⟨_,Z,_,Z,_,_,Z,Z,.inl ⟨D,_,_,_,Z,Z,aH.of dz,pL,?_⟩⟩;refine⟨_,Z,.inr ⟨ma,_,2,.int f,Z,Z,gf.go s3,Z,_,_,Z,Z,.of_left (cH az az),?_⟩⟩;refine⟨_,Z,_,Z,.inl ⟨ia,_,_,_,Z,Z,hi.go s3,nP,?_⟩⟩;refine⟨_,ns,sp,Z,RD.mono s3 _ rd,eD.ne,by rw[eD.len];lia,λH4 s4=>?_⟩;refine⟨_,_,Z,Z,.of_left (cH aw aw),?_⟩;have us:=hL c _ (nh eo);refine⟨z1,_,_,Z,R1.go s4,(FB (c+1) aw).mono az,us,λu H6 ru s5=>?_⟩;have fo:=s4.trans s5;have EH:=fo _ _ dz;refine⟨_,Z,_,Z,_,Z,.inl ⟨D,_,_,_,Z,Z,aH.of EH,pM,?_⟩⟩;have B1:Bd 2000 (g c):=(hB _).mono az;have B2:Bd 2000 (fl os.length (leadF os) (2*f) g (c+1)+((2*f*(aM ns:Int):Int):Rat)):=(rW (FB (c+1) aw) us).mono az;refine⟨u,z0,_,_,Z,ru,R0.go fo,B2,B1,λv rv=>?_⟩;rw[KW]at rv;generalize kj:mn (g c) (fl os.length (leadF os) (2*f) g (c+1)+((2*f*(aM ns:Int):Int):Rat))=q at rv;have Rv:bL K H6 v q:=rv;have kE:=fo _ _ dz;have um:gc zs.length (c:Int)=some c:=by unfold gc;rw[aU aw,aU aw];simp
       refine⟨_,Z,_,Z,D,zs,_,_,Z,Z,kE,um,?_⟩;refine⟨λb o e=>?_,_,_,_,_,bV,?_,Z⟩
       ·rw[bj (ft e nD)];exact fo b o (s3 b o e)
       · have h:=aK.wU (i:=c) kE (aK.mono fo _ rz) Rv.rd (qM _) (oH _)
         rw[<-zF]at h;have e:(lst os.length λk=>if os.length<=k+i then fl os.length (leadF os) (2*f) g k else g k).set c q=lst os.length λk=>if os.length<=k+(i+1)then fl os.length (leadF os) (2*f) g k else g k:=by
          rw[<-xH (g:=λk=>if os.length<=k+i then fl os.length (leadF os) (2*f) g k else g k) (g':=λk=>if os.length<=k+(i+1)then fl os.length (leadF os) (2*f) g k else g k) (i:=c)]
          · have:os.length<=c+(i+1):=by lia
            simp only[aU this];rw[nF lj (nh eo),kj]
          · intro k _ hk
            show(if os.length<=k+(i+1)then _ else g k)=if os.length<=k+i then _ else g k;by_cases h1:os.length<=k+i
            ·rw[aU h1,aU aw]
            ·rw[aV h1,aV aw]
         rw[e]at h;exact h
   · rintro O H3 ⟨s3,zs,v1,v2,v3,dz,rz,rfl⟩
     generalize hG:fl os.length (leadF os) (2*f) g=G at FB FZ FN rz;have Gn:G os.length=0:=by rw[<-hG,nE];exact hn
     have S8:aK K H3 zs ((lst os.length G).map cx):=by
      rw[jC (g:=λk=>if os.length<=k+(os.length-1)then G k else g k) (g':=G)]at rz
      ·exact rz
      · intro k hk
        show G k=if os.length<=k+(os.length-1)then _ else _;split
        ·rfl
        · next h => have:k=0:=by lia
                    subst this;exact FZ
     have RB:∀i,i<=os.length->Bd 1700 (Rz (λi=>if i<=os.length then G i else 0) (leadF os) (2*r) i):=λi hi=>(vg (b:=900) (λi=>by
      by_cases h:i<=os.length
      ·simp only[aU h];exact FB i h
      ·simp only[aV h];exact(Ow.zK).mono az) rB i).mono aw;have RE:∀i,i<=os.length->Rz (λi=>if i<=os.length then G i else 0) (leadF os) (2*r) i=Rz G (leadF os) (2*r) i:=by
      intro i;induction i with |zero=>intro _;show(if 0<=os.length then G 0 else 0)=G 0;rw[aU (eQ _)] |succ i ih=>intro hi;have e:(if i+1<=os.length then G (i+1)else 0)=G (i+1):=aU hi;cases hl:leadF os i with |none=>rw[mB hl,mB hl];exact e |some m=>rw[jI hl,jI hl,ih aw];show mn (if i+1<=os.length then G (i+1)else 0) _=_;rw[e]
     have Og:∀i,i<=os.length->Bd 1700 (Rz G (leadF os) (2*r) i):=λi hi=>by rw[<-RE i hi];exact RB i hi
     refine⟨_,Z,ia,_,Z,.inl (hi.go s3),_,_,Z,⟨az,az,aw,aw⟩,?_⟩;have eN2:((xs.length:Int)-1).toNat=os.length-1:=by lia
     rw[eN2];refine yu (Pv:=λi O H5=>aA H H5/\∃zs v1 v2 v3,H5 D=some (.lst zs)/\aK K H5 zs ((lst os.length λk=>if k<=i then Rz G (leadF os) (2*r) k else G k).map cx)/\O=[some (.ref ma),some (.ref ia),some (.ref D),v1,v2,v3]) ?_ ?_ ?_
     · refine⟨s3,zs,v1,v2,v3,dz,?_,Z⟩
       rw[jC (g:=λk=>if k<=0 then Rz G (leadF os) (2*r) k else G k) (g':=G)]
       ·exact S8
       · intro k _
         show G k=if k<=0 then Rz G (leadF os) (2*r) k else G k;split
         · next h => have:k=0:=by lia
                     subst this;rfl
         ·rfl
     · rintro i O H3 rk ⟨s3,zs,v1,v2,v3,dz,rz,rfl⟩
       have lj:i+1<os.length:=by lia
       obtain⟨x,hx⟩:∃x,xs[i]? =some x:=⟨_,cC (show i<xs.length by lia)⟩;have eI:((1:Int)+(i:Int)-1)=(i:Int):=by lia
       obtain⟨d,ed,rd⟩:=gG.get' i hx;obtain⟨o,eo,it⟩:=row.get ed;have lz:=rz.length;rw[bD,jB]at lz;have nP:dY xs ((1:Int)+(i:Int)-1)=some x:=by rw[eI];exact cM aw (by simpa using hx)
       obtain⟨a,wd,yw,rfl,h1,ew,sw⟩:=qV (RD.mono s3 _ rd) it;refine⟨_,Z,_,Z,_,_,Z,Z,.inl ⟨ia,_,_,_,Z,Z,hi.go s3,nP,.inr ⟨a,_,0,.str wd,Z,Z,h1,cM (fF 0) Z,.inr ⟨_,_,bP _,bP _,sw,ng,_,Z,?_⟩⟩⟩⟩;rw[ew];cases o with
       |none=>
         refine bc ?_;refine⟨s3,zs,_,_,_,dz,?_,Z⟩;rw[jC (g:=λk=>if k<=i+1 then Rz G (leadF os) (2*r) k else G k) (g':=λk=>if k<=i then Rz G (leadF os) (2*r) k else G k)]
         ·exact rz
         · intro k _
           show(if k<=i then _ else G k)=if k<=i+1 then _ else G k;by_cases h1:k<=i
           ·rw[aU h1,aU aw]
           · rw[aV h1]
             by_cases h2:k=i+1
             ·subst h2;rw[aU aw,mB (xJ eo)]
             ·rw[aV aw] |some q=>
         obtain⟨ns,sp⟩:=q;refine bF ?_;have dv:=jf it;subst dv;obtain⟨eD,_,_⟩:=row.ok i ns sp eo;obtain⟨z1,kB⟩:∃z,zs[i]? =some z:=⟨_,cC (show i<zs.length by lia)⟩;obtain⟨z0,kC⟩:∃z,zs[i+1]? =some z:=⟨_,cC (show i+1<zs.length by lia)⟩;have R1:bL K H3 z1 (Rz G (leadF os) (2*r) i):=by obtain⟨d1,e1,r1⟩:=rz.get' i kB;rw[bJ,je _ (show i<=os.length by lia)]at e1;cases e1;simp only[aU (bq i)]at r1;exact ja r1
         have R0:bL K H3 z0 (G (i+1)):=by
          obtain⟨d1,e1,r1⟩:=rz.get' (i+1) kC;rw[bJ,je _ (show i+1<=os.length by lia)]at e1;cases e1;have:¬i+1<=i:=by lia
          simp only[aV this]at r1;exact ja r1
         have N1:((1:Int)+(i:Int)).toNat=i+1:=by lia
         have pL:dY zs ((1:Int)+(i:Int)-1)=some z1:=by rw[eI];exact cM aw (by simpa using kB)
         have pM:dY zs ((1:Int)+(i:Int))=some z0:=cM aw (by rw[N1];exact kC);refine⟨_,Z,_,Z,_,_,Z,Z,.inl ⟨D,_,_,_,Z,Z,aH.of dz,pL,?_⟩⟩;refine⟨_,Z,.inr ⟨ma,_,1,.int r,Z,Z,gf.go s3,Z,_,_,Z,Z,.of_left (cH az az),?_⟩⟩;refine⟨_,Z,_,Z,_,_,Z,Z,.inl ⟨ia,_,_,_,Z,Z,hi.go s3,nP,?_⟩⟩;refine⟨_,ns,sp,Z,RD.mono s3 _ rd,eD.ne,by rw[eD.len];lia,λH4 s4=>?_⟩;refine⟨_,_,Z,Z,.of_left (cH aw aw),?_⟩;have us:=rB i _ (nh eo);refine⟨z1,_,_,Z,R1.go s4,(Og i aw).mono az,us,λu H6 ru s5=>?_⟩;have fo:=s4.trans s5;have EH:=fo _ _ dz;refine⟨_,Z,_,Z,_,Z,.inl ⟨D,_,_,_,Z,Z,aH.of EH,pM,?_⟩⟩;have B1:Bd 2000 (G (i+1)):=(FB _ aw).mono az;have B2:Bd 2000 (Rz G (leadF os) (2*r) i+((2*r*(aM ns:Int):Int):Rat)):=(rW (Og i aw) us).mono az;refine⟨u,z0,_,_,Z,ru,R0.go fo,B2,B1,λv rv=>?_⟩;rw[KW]at rv;generalize kj:mn (G (i+1)) (Rz G (leadF os) (2*r) i+((2*r*(aM ns:Int):Int):Rat))=q at rv;have Rv:bL K H6 v q:=rv;have kE:=fo _ _ dz;have um:gc zs.length ((1:Int)+(i:Int))=some (i+1):=by unfold gc;rw[aU aw,aU aw,N1]
         refine⟨_,Z,_,Z,D,zs,_,_,Z,Z,kE,um,?_⟩;refine⟨λb o e=>?_,_,_,_,_,bV,?_,Z⟩
         ·rw[bj (ft e nD)];exact fo b o (s3 b o e)
         · have h:=aK.wU (i:=i+1) kE (aK.mono fo _ rz) Rv.rd (qM _) (oH _)
           rw[<-zF]at h;have e:(lst os.length λk=>if k<=i then Rz G (leadF os) (2*r) k else G k).set (i+1) q=lst os.length λk=>if k<=i+1 then Rz G (leadF os) (2*r) k else G k:=by
            rw[<-xH (g:=λk=>if k<=i then Rz G (leadF os) (2*r) k else G k) (g':=λk=>if k<=i+1 then Rz G (leadF os) (2*r) k else G k) (i:=i+1)]
            · simp only[aU (bq (i+1))]
              rw[jI (nh eo),kj]
            · intro k _ hk
              show(if k<=i+1 then _ else G k)=if k<=i then _ else G k;by_cases h1:k<=i
              ·rw[aU h1,aU aw]
              ·rw[aV h1,aV aw]
           rw[e]at h;exact h
     · rintro O H4 ⟨s4,zs,v1,v2,v3,dz,rz,rfl⟩
       refine⟨_,Z,k D zs H4 nD dz ?_ s4⟩;have e:gZ r f j 100 os=lst os.length λk=>if k<=os.length-1 then Rz G (leadF os) (2*r) k else G k:=by
        refine(jC λk hk=>?_);show(if k<=os.length-1 then Rz G (leadF os) (2*r) k else G k)=qv r f j 100 os k;have e1:Rz G (leadF os) (2*r) k=qv r f j 100 os k:=by rw[<-hG,<-hg];exact a4r aw aw k hk
        split
        ·exact e1
        ·next h=>
          have:k=os.length:=by lia
          subst this;rw[<-e1];exact(a4q aw FN Gn).symm
       rw[e];exact rz
open Wk Rn
open Tm (numS)
inductive a5L(K:aa)(C:Addr)(G:Addr->Addr->bX->cf->Hp->VK->Prop)(vs:List V)(H:Hp)(Q:VK):Prop |mk (a:_)(q:_)(M:_)(D:_)(S:_)(h0:vs=[.ref a])(h1:cN K C H a q M S)(h2:dh M D S)(h3:M.Ok)(h4:G a q M S H Q)
def jS(K:aa)(C:Addr)(G:Addr->Addr->bX->cf->Hp->VK->Prop):Sp:=λvs H Q _=>a5L K C G vs H Q
def Mh(K:aa)(C:Addr):Addr->Addr->bX->cf->Hp->VK->Prop:=λa q M S H Q=>S.pc=0/\∀H',cN K C H' a q M (hZ M S)->cV [a] H H'->Q (.str "0") H'
abbrev BB:Stmt:=top 90
theorem RS:bh ["runner"] ["runner"] (aP BB):=bo aJ
theorem QW(f:Int)(h:1<=f):gT f 0=0:=by show((0:Rat).num+2*f*((0:Rat).den:Int)-1)/(2*f*((0:Rat).den:Int))=0;rw[show(0:Rat).num=0 from Z,show((0:Rat).den:Int)=1 from rfl];exact Int.ediv_eq_zero_of_lt aw aw
theorem VQ{C:Addr}(F:FA K mg "answer_hold" BB)(B:bw mg)(TC:fB K C)(a0c:cU P w K mg au C "hold" 2 (Hm K C)):aE P w K mg au "answer_hold" 3 (jS K C (Mh K C)):=by
 refine F.has RS (λvs H Q E h=>?_) (λ_ _ _ _ _ _=>cJ λ_=>rfl) (λf aG A outer s H vs Q E hr h=>?_)
 ·obtain⟨a,q,M,D,S,rfl,_⟩:=h
  rfl
 ·obtain⟨a,q,M,D,S,rfl,R,ok,aO,p0,k⟩:=h
  obtain⟨dx,mv,bv,cP,tv,e,r1,r2,r3,r4⟩:=R.ob;refine⟨_,(aI (aR (cE (x:="str") fL Z (B.at "str") fj (ao (iI a0c TC.cl (hr.mono az) (pv 0)) ay)))),_,Z,a,dx,_,Z,e,Z,a,q,M,D,S,Z,R,ok,aO,λH' R' b'=>?_⟩;rw[p0,QW _ aO.f1.1];exact .inl ⟨0,Z,az,k H' R' b'⟩
def Mi(K:aa)(C:Addr):Addr->Addr->bX->cf->Hp->VK->Prop:=λa q M S H Q=>Halt S.pc S.eg/\∀q' H',cN K C H' a q' M (nK S)->H q'=none->cV [a] H H'->Q (.str (numS (S.ds.length:Nat))) H'
abbrev BC:Stmt:=top 92
theorem RT:bh ["runner"] ["runner"] (aP BC):=bo aJ
theorem VR{C:Addr}(F:FA K mg "answer_drop" BC)(B:bw mg)(TC:fB K C)(a0d:cU P w K mg au C "drop" 5 (Hn K C)):aE P w K mg au "answer_drop" 6 (jS K C (Mi K C)):=by
 refine F.has RT (λvs H Q E h=>?_) (λ_ _ _ _ _ _=>cJ λ_=>rfl) (λf aG A outer s H vs Q E hr h=>?_)
 ·obtain⟨a,q,M,D,S,rfl,_⟩:=h
  rfl
 ·obtain⟨a,q,M,D,S,rfl,R,ok,aO,hH,k⟩:=h
  obtain⟨dx,mv,bv,cP,tv,e,r1,r2,r3,r4⟩:=R.ob;refine⟨_,(aI (aR (cE (x:="str") fL Z (B.at "str") fj (ao (iI a0d TC.cl (hr.mono az) (pv 0)) ay)))),_,Z,a,dx,_,Z,e,Z,a,q,M,D,S,Z,R,ok,aO,hH,λq' H' R' nq b'=>?_⟩;have hl:=ok.len;exact .inl ⟨_,Z,iQ (show Nm _ by show Int.natAbs _<10^40;omega),k q' H' R' nq b'⟩
def Mg:Addr->Addr->bX->cf->Hp->VK->Prop:=λ_ _ _ S H Q=>(∀n∈hJ S,Nm n)/\∀H',aA H H'->Q (.str (jA (hJ S))) H'
abbrev BA:Stmt:=top 93
theorem RR:bh ["runner"] ["runner"] (aP BA):=bo aJ
theorem VP{C:Addr}(F:FA K mg "answer_place" BA)(TC:fB K C)(DB:aE P w K mg au "show_numbers" 1 (A2 K))(E6:cU P w K mg au C "place" 3 (fG K C λ_ S H Q=>∀v H',RD K H' v (cI (hJ S))->aA H H'->Q v H')):aE P w K mg au "answer_place" 4 (jS K C Mg):=by
 refine F.has RR (λvs H Q E h=>?_) (λ_ _ _ _ _ _=>cJ λ_=>rfl) (λf aG A outer s H vs Q E hr h=>?_)
 ·obtain⟨a,q,M,D,S,rfl,_⟩:=h
  rfl
 ·obtain⟨a,q,M,D,S,rfl,R,ok,aO,hn,k⟩:=h
  obtain⟨dx,mv,bv,cP,tv,e,r1,r2,r3,r4⟩:=R.ob;have lr:=aO.len;have lp:=JZ ok;exact⟨_,(aI (aR (pf DB hr (ao (iI E6 TC.cl (hr.mono az) (pv 0)) ay)))),_,Z,a,dx,_,Z,e,Z,a,q,M,D,S,Z,R,ok,aO,λv H1 rv s1=>⟨v,hJ S,Z,rv,aw,hn,λH2 s2=>k _ (s1.trans s2)⟩⟩
def jY(z:Str):Str:=if z="" then "none" else z
def El:Addr->Addr->bX->cf->Hp->VK->Prop:=λ_ _ _ S H Q=>(∀d∈S.ds,TI d)/\∀H',aA H H'->Q (.str (jY (Txt.join "\n" (S.ds.map cY)))) H'
abbrev Bv:Stmt:=top 96
theorem RQ:bh ["runner"] ["runner"] (aP Bv):=bo aJ
theorem VL{C:Addr}(F:FA K mg "answer_waits" Bv)(TC:fB K C)(ZR:GV mg "NOTHING" (.str "none"))(Yl:aE P w K mg au "show_items" 3 (Hv K))(E5:cU P w K mg au C "waiting" 1 (fG K C λ_ S H Q=>∀l ys H',H l=none->H' l=some (.lst ys)->aK K H' ys S.ds->aA H H'->Q (.ref l) H')):aE P w K mg au "answer_waits" 4 (jS K C El):=by
 refine F.has RQ (λvs H Q E h=>?_) (λ_ _ _ _ _ _=>cJ λ_=>rfl) (λf aG A outer s H vs Q E hr h=>?_)
 ·obtain⟨a,q,M,D,S,rfl,_⟩:=h
  rfl
 ·obtain⟨a,q,M,D,S,rfl,R,ok,aO,hn,k⟩:=h
  obtain⟨dx,mv,bv,cP,tv,e,r1,r2,r3,r4⟩:=R.ob;have hl:=ok.len;refine⟨_,(aI (aR (TN (pf Yl hr (ao (iI E5 TC.cl (hr.mono az) (pv 0)) ay)) (qx (cK (x:="NOTHING") Z ZR))))),?_⟩;refine⟨_,Z,a,dx,_,Z,e,Z,a,q,M,D,S,Z,R,ok,aO,λl ys H1 nl el rl s1=>?_⟩;refine⟨.ref l,S.ds,Z,BU (aH.of el) rl,hn,ok.row.no,aw,λH2 s2=>?_⟩;have hj:=xN "\n" (B:=400) (S.ds.map cY) (λz hz=>by obtain⟨d,hd,rfl⟩:=cB.mp hz;exact uo (hn d hd));have n1:Str.length "\n"=1:=by decide+kernel
  rw[n1,bD]at hj;have ph:S.ds.length*(400+1)<=20*401:=P2 _ hl;have k2:=k H2 (s1.trans s2);unfold jY at k2;refine⟨_,Z,aw,?_⟩;split
  ·next e0=>rw[aU e0]at k2;exact k2
  ·next e0=>rw[aV e0]at k2;exact k2
def tN (q:Rat):Str:=me q.num q.den
theorem K8:2^1700<10^540:=by decide+kernel
theorem yX{q:Rat}(h:Bd 1700 q):nS q.num/\nS q.den:=⟨vN h.num K8,vN (show(q.den:Int).natAbs<2^1700 from h.den) K8⟩
def Ce(r f j rate:Int)(os:List Itm):Str:=Txt.join " " ((gZ r f j rate os).map tN)
def Mf:Addr->Addr->bX->cf->Hp->VK->Prop:=λ_ _ M S H Q=>∀H',aA H H'->Q (.str (Ce M.r M.f M.j S.rate S.os)) H'
theorem xi{r f j rate:Int}{os:List Itm}{i:Nat}{q:Rat}(h:(gZ r f j rate os)[i]? =some q):i<=os.length/\q=qv r f j rate os i:=by
 have hl:i<(gZ r f j rate os).length:=(dQ.mp h).1;have e:(gZ r f j rate os).length=os.length+1:=jB _ _;have h2:i<=os.length:=by lia
 refine⟨h2,?_⟩;have:=je (qv r f j rate os) h2;exact cW (h.symm.trans this)
abbrev Bz:Stmt:=top 97
theorem Jm:bh ["runner","plan"] ["runner"] (aP Bz):=bo aJ
theorem VO{C:Addr}(F:FA K mg "answer_plan" Bz)(B:bw mg)(TC:fB K C)(Ys:aE P w K mg au "plan_of" 9 (zZ K))(Yn:aE P w K mg au "show_fraction" 1 (wQ K))(E5:cU P w K mg au C "waiting" 1 (fG K C λ_ S H Q=>∀l ys H',H l=none->H' l=some (.lst ys)->aK K H' ys S.ds->aA H H'->Q (.ref l) H'))(a0a:cU P w K mg au C "rate" 1 (fG K C λ_ S H Q=>Q (.int S.rate) H)):aE P w K mg au "answer_plan" 10 (jS K C Mf):=by
 refine F.has Jm (λvs H Q E h=>?_) (λ_ _ _ _ _ _=>cJ λ_=>rfl) (λf aG A outer s H vs Q E hr h=>?_)
 ·obtain⟨a,q,M,D,S,rfl,_⟩:=h
  rfl
 ·obtain⟨a,q,M,D,S,rfl,R,ok,aO,k⟩:=h
  obtain⟨dx,mv,bv,cP,tv,e,r1,r2,r3,r4⟩:=R.ob;have hl:=ok.len;have nd:=Jm.nd;refine⟨_,(aF (pS 1 nd (pf Ys hr (ao (dM TC.cl TC.lX (pv 0)) (ao (cE (x:="tuple") (j7 K rfl) rfl (B.at "tuple") gD (ao (iI E5 TC.cl (hr.mono az) (pv 0)) ay)) (ao (iI a0a TC.cl (hr.mono az) (pv 0)) ay))))) (aI (aR (lN K Z bu (ao (dA (N:=["square"]) (js:=[none]) Z Z Z (oM K Z (pv 1)) (λ_ _ _ _ _=>(ba 0 (gu _))) (λ_ _ _ _ _=>cX) (λ_ _ _ _ _=>(pf Yn hr (ao (pv 0) ay)))) ay))))),?_⟩;refine⟨_,Z,a,dx,_,_,Z,e,Z,?_⟩;refine⟨_,Z,a,dx,_,Z,e,Z,a,q,M,D,S,Z,R,ok,aO,λl ys H1 nl el rl s1=>?_⟩;refine⟨l,ys,Z,.inl ⟨aH.of el,λt H2 n2=>?_⟩⟩;have s2:=s1.trans n2.same;have e2:=s2 _ _ e;refine⟨_,Z,a,dx,_,Z,e2,Z,a,q,M,D,S,Z,R.same ok.row.no s2,ok,aO,?_⟩;refine⟨mv,.ref t,S.rate,M.rs,M.r,M.f,M.j,M.t,S.ds,S.os,Z,RD.mono s2 _ r1,aO,eX (aQ.of n2.at') (aK.mono n2.same _ rl),ok.row,aw,ok.fS,ok.fR,λp zs H3 np ep rp s3=>?_⟩;refine⟨Z,?_⟩;have lz:=rp.length;have lp:(gZ M.r M.f M.j S.rate S.os).length=S.os.length+1:=jB _ _;have ll:=ok.row.len;rw[bD,lp]at lz;refine⟨_,Z,p,Z,⟨_,aH.of ep⟩,λD2 H4 n4=>?_⟩;refine vb (K:=K) (ds:=((gZ M.r M.f M.j S.rate S.os).map tN).map PyData.str) _ (aH.of ep) n4 (by rw[bD,bD,lp];exact lz) aw (mZ _) ?_ ?_
  ·intro i x d H5 Q' ex ed s5 hq
   obtain⟨d',dv,rx⟩:=rp.get' i ex;rw[bJ]at dv;rw[bJ,bJ]at ed;cases eq:(gZ M.r M.f M.j S.rate S.os)[i]? with |none=>rw[eq]at dv;cases dv |some qq=>rw[eq]at dv ed;cases dv;cases ed;obtain⟨hi,rfl⟩:=xi eq;obtain⟨n1,n2⟩:=yX (xj aO ok.row aw ok.fS ok.fR i hi);exact⟨_,Z,x,_,_,Z,RD.mono s5 _ rx,n1,n2,hq _ _ (aA.refl _) (bP _)⟩
  ·intro H5 ws s5 d5 r5
   rw[jP r5]at d5;refine⟨" ",D2,_,Z,Z,aH.of d5,λz hz=>?_,aJ,by rw[bD,lp];lia,k _ (s2.trans (s3.trans s5))⟩;obtain⟨qq,hq,rfl⟩:=cB.mp hz;obtain⟨i,hi⟩:=nY.mp hq;obtain⟨uF,rfl⟩:=xi hi;obtain⟨n1,n2⟩:=yX (xj aO ok.row aw ok.fS ok.fR i uF);have:=Mo n1 n2;show(me _ _).length<=_
   lia
def nk:ah->Bool | .tuple ds=>(ds.length==2||ds.length==3)&&ds.all (cu 1 100) |_=>false
def jD:ah->Bool | .tuple [r,a,b,c,t]=>nk r&&cu 1 100 t&&[a,b,c].all (cu 1 50) |_=>false
theorem XY(n:Nat):xS (.int n) [.int 2,.int 3]=(n==2||n==3):=by
 show((2:Int)==n||((3:Int)==n||false))=_;rw[Bool.or_false];congr 1
 ·rw[j6];simp;lia
 ·rw[j6];simp;lia
inductive a5E(f:ah->Bool)(K:aa)(vs:List V)(H:Hp)(Q:VK):Prop |mk (v:_)(d:_)(h0:vs=[v])(h1:RD K H v d)(h2:∀H',aA H H'->Q (.bl (f d)) H')
def tm(f:ah->Bool)(K:aa):Sp:=λvs H Q _=>a5E f K vs H Q
abbrev Bx:Stmt:=top 23
theorem Jl:bh ["thing"] ["thing"] (aP Bx):=bo aJ
theorem VN(F:FA K mg "are_rails" Bx)(B:bw mg)(g1:GT K mg "AXES" [.int 2,.int 3])(ZW:GV mg "LONGEST_RAIL" (.int 100))(gH:aE P w K mg au "is_whole_within" 2 (kJ K)):aE P w K mg au "are_rails" 3 (tm nk K):=by
 refine F.has Jl (λvs H Q E h=>?_) (λ_ _ _ _ _ _=>cJ λ_=>rfl) (λf aG A outer s H vs Q E hr h=>?_)
 ·obtain⟨v,d,rfl,_⟩:=h
  rfl
 ·obtain⟨v,d,rfl,rd,k⟩:=h
  have nd:=Jl.nd;obtain⟨aX,a05,R8⟩:=g1;refine⟨_,(aF (bB (PW.pt (gX (dg (cD (kR K B (ao (pv 0) (ao (jV (x:="tuple") (v:=.ty "tuple") Z (B.at "tuple") gD rfl) ay))))) (gW (bK (W9 K rfl) (eB K B (ao (pv 0) ay)) (cK (x:="AXES") rfl a05) (by with_unfolding_all rfl))))) (aI (aR gr)) bC) (aI (aR (cw (x:="all") (pN K Z Z) Z (B.at "all") sF (ao (dA (N:=["rail"]) (js:=[none]) rfl rfl rfl (jb K rfl (pv 0)) (λ_ _ _ _ _=>(ba 0 (gu _))) (λ_ _ _ _ _=>cX) (λ_ _ _ _ _=>(pf gH hr (ao (pv 0) (ao aB (ao (cK (x:="LONGEST_RAIL") rfl ZW) ay)))))) ay))))),?_⟩;rcases sV d with⟨ds,rfl⟩|⟨ht,hn⟩
  ·refine⟨_,Z,.inl ⟨_,_,"tuple",true,Z,rd.ty,az,mP,_,Z,bc ?_⟩⟩
   obtain⟨p,xs,rfl,hx,hd⟩:=rd.cj;have hl:=hd.length;refine⟨_,Z,p,_,Z,.inr hx,aX,_,Z,.inr (R8 H),Z,Z,_,Z,?_⟩;have k:∀H',aA H H'->Q (.bl ((ds.length==2||ds.length==3)&&ds.all (cu 1 100))) H':=k;show if(!xS (.int xs.length) [.int 2,.int 3])=true then _ else _;rw[XY,hl];cases e23:(ds.length==2||ds.length==3)with |false=>rw[e23,fY]at k;exact bF (k H (aA.refl _)) |true=>
    rw[e23,fX]at k;refine bc ?_;have l3:ds.length<=3:=by rw[Bool.or_eq_true,dj,dj]at e23;lia
    refine⟨_,Z,p,Z,⟨_,hx⟩,λD H0 nw=>?_⟩;refine yQ (xs:=xs) (bs:=ds.map (cu 1 100)) [] hx nw (by rw[bD,hl]) aw ?_ ?_
    ·intro i x b H2 Q' ex eb s2 hq
     obtain⟨d,ed,rfl⟩:=xF eb;obtain⟨x',ip,rx⟩:=hd.get i ed;rw[ex]at ip;cases ip;exact⟨_,Z,_,d,1,100,Z,RD.mono s2 _ rx,hq _ (aA.refl _)⟩
    ·intro H2 s2 d2
     refine⟨D,_,Z,aH.of d2,?_⟩;rw[all_map];exact k H2 s2
  ·have e:nk d=false:=by cases d<;>first|rfl|exact absurd rfl (hn _)
   rw[e]at k;refine⟨_,Z,.inl ⟨_,_,"tuple",false,Z,rd.ty,az,ht,_,Z,bF ?_⟩⟩;exact k H (aA.refl _)
theorem WT(d:ah):(∃r a b c t,d= .tuple [r,a,b,c,t])\/(∃ds,d= .tuple ds/\ds.length≠5/\jD d=false)\/(gP (jO d) "tuple"=false/\jD d=false):=by
 rcases sV d with⟨ds,rfl⟩|⟨ht,hn⟩
 ·match ds with |[r,a,b,c,t]=>exact .inl ⟨r,a,b,c,t,Z⟩ |[]=>exact .inr (.inl ⟨_,Z,by simp,by simp[jD]⟩) |[_]=>exact .inr (.inl ⟨_,Z,by simp,by simp[jD]⟩) |[_,_]=>exact .inr (.inl ⟨_,Z,by simp,by simp[jD]⟩) |[_,_,_]=>exact .inr (.inl ⟨_,Z,by simp,by simp[jD]⟩) |[_,_,_,_]=>exact .inr (.inl ⟨_,Z,by simp,by simp[jD]⟩) |_::_::_::_::_::_::_=>exact .inr (.inl ⟨_,Z,by simp,by simp[jD]⟩)
 ·exact .inr (.inr ⟨ht,by cases d<;>first|rfl|exact absurd rfl (hn _)⟩)
abbrev Bi:Stmt:=top 21
theorem J5:bh ["thing","rails","rise","fall","jump","ticks"] ["thing"] (aP Bi):=bo aJ
theorem Vw(F:FA K mg "is_machine" Bi)(B:bw mg)(ZU:GV mg "MOST_TICKS" (.int 100))(a01:GV mg "GREATEST_CHANGE" (.int 50))(gH:aE P w K mg au "is_whole_within" 2 (kJ K))(ZA:aE P w K mg au "are_rails" 3 (tm nk K)):aE P w K mg au "is_machine" 4 (tm jD K):=by
 refine F.has J5 (λvs H Q E h=>?_) (λ_ _ _ _ _ _=>cJ λ_=>rfl) (λf aG A outer s H vs Q E hr h=>?_)
 ·obtain⟨v,d,rfl,_⟩:=h
  rfl
 ·obtain⟨v,d,rfl,rd,k⟩:=h
  have nd:=J5.nd;refine⟨_,(aF (bB (PW.pt (gX (dg (cD (kR K B (ao (pv 0) (ao (jV (x:="tuple") (v:=.ty "tuple") Z (B.at "tuple") gD rfl) ay))))) (gW (bK (lV K rfl hr.units) (eB K B (ao (pv 0) ay)) aB (bE _))))) (aI (aR gr)) bC) (aF (eu (pv 0) (dS K Z (n:=5) Z (bM (ba 1 nd) (bM (ba 2 nd) (bM (ba 3 nd) (bM (ba 4 nd) (bM (ba 5 nd) dR))))))) (aF (bB (PW.pt (gX (dg (cD (pf ZA hr (ao (pv 1) ay)))) (gW (dg (cD (pf gH hr (ao (pv 5) (ao aB (ao (cK (x:="MOST_TICKS") Z ZU) ay))))))))) (aI (aR gr)) bC) (aI (aR (cw (x:="all") (pN K Z Z) Z (B.at "all") sF (ao (dA (N:=["change"]) (js:=[none]) rfl rfl rfl (jb K rfl (eA (ao (pv 2) (ao (pv 3) (ao (pv 4) ay))))) (λ_ _ _ _ _=>(ba 0 (gu _))) (λ_ _ _ _ _=>cX) (λ_ _ _ _ _=>(pf gH hr (ao (pv 0) (ao aB (ao (cK (x:="GREATEST_CHANGE") rfl a01) ay)))))) ay))))))),?_⟩;rcases WT d with⟨r,a,b,c,t,rfl⟩|⟨ds,rfl,hl,hf⟩|⟨ht,hf⟩
  ·refine⟨_,Z,.inl ⟨_,_,"tuple",true,Z,rd.ty,az,mP,_,Z,bc ?_⟩⟩
   obtain⟨p,xs,rfl,hx,hd⟩:=rd.cj;obtain⟨u1,ys,rfl,r1,hd⟩:=hd.cons_inv;obtain⟨u2,ys,rfl,r2,hd⟩:=hd.cons_inv;obtain⟨u3,ys,rfl,r3,hd⟩:=hd.cons_inv;obtain⟨u4,ys,rfl,r4,hd⟩:=hd.cons_inv;obtain⟨u5,ys,rfl,r5,hd⟩:=hd.cons_inv;cases hd.nil_inv;have k:∀H',aA H H'->Q (.bl (nk r&&cu 1 100 t&&[a,b,c].all (cu 1 50))) H':=k;refine⟨_,Z,p,_,Z,.inr hx,.inl ⟨_,_,Z,Z,_,Z,bc ?_⟩⟩;refine⟨_,Z,p,_,Z,hx,Z,_,_,Z,_,_,Z,_,_,Z,_,_,Z,_,_,Z,Z,?_⟩;refine⟨_,Z,_,r,Z,r1,λH1 s1=>⟨_,Z,?_⟩⟩;cases e1:nk r with |false=>rw[e1,fY,fY]at k;exact bF (k H1 s1) |true=>rw[e1,fX]at k;refine bc ?_;refine⟨_,Z,_,t,1,100,Z,RD.mono s1 _ r5,_,Z,?_⟩;cases e2:cu 1 100 t with |false=>rw[e2,fY]at k;exact bF (k H1 s1) |true=>
    rw[e2,fX]at k;refine bc ?_;refine⟨_,Z,_,Z,_,Z,bW Z,λq H2 nq=>?_⟩;have s2:=s1.trans nq.same;refine⟨q,Z,⟨_,aQ.of nq.at'⟩,λD H0 nw=>?_⟩;have Zl:aK K H2 [u2,u3,u4] [a,b,c]:=ck (RD.mono s2 _ r2) (ck (RD.mono s2 _ r3) (ck (RD.mono s2 _ r4) df));refine yQ (xs:=[u2,u3,u4]) (bs:=[a,b,c].map (cu 1 50)) [] (aQ.of nq.at') nw Z (P5 Z) ?_ ?_
    ·intro i x b' H3 Q' ex eb s3 hq
     obtain⟨d,ed,rfl⟩:=xF eb;obtain⟨x',ip,rx⟩:=Zl.get i ed;rw[ex]at ip;cases ip;exact⟨_,Z,_,d,1,50,Z,RD.mono s3 _ rx,hq _ (aA.refl _)⟩
    ·intro H3 s3 d3
     refine⟨D,_,Z,aH.of d3,?_⟩;rw[all_map];exact k H3 (s2.trans s3)
  ·rw[hf]at k
   refine⟨_,Z,.inl ⟨_,_,"tuple",true,Z,rd.ty,az,mP,_,Z,bc ?_⟩⟩;obtain⟨p,xs,rfl,hx,hd⟩:=rd.cj;refine⟨_,Z,p,_,Z,.inr hx,.inl ⟨_,_,Z,Z,_,Z,?_⟩⟩;have e:(!decide ((xs.length:Int)=5))=true:=by rw[hd.length];simp;lia
   rw[e];exact bF (k H (aA.refl _))
  ·rw[hf]at k
   refine⟨_,Z,.inl ⟨_,_,"tuple",false,Z,rd.ty,az,ht,_,Z,bF ?_⟩⟩;exact k H (aA.refl _)
structure mI(K:aa)(D:Addr):Prop where
 cl:gM K D
 lX:gj K D "machine"
 ud:gj K D "runner"
def vp(K:aa)(D:Addr)(H:Hp)(a r:Addr)(M:bX):Prop:=∃dx mv,H a=some (.ins D dx [("machine",mv),("runner",.ref r)])/\RD K H mv M.D
theorem WR{rs:List Int}{r f j t:Int}(h:kF rs r f j t):jD (hV rs r f j t)=true:=by
 show(nk (.tuple (rs.map PyData.int))&&cu 1 100 (.int t)&&[PyData.int r,.int f,.int j].all (cu 1 50))=true;have h1:nk (.tuple (rs.map PyData.int))=true:=by show(((rs.map PyData.int).length==2||(rs.map PyData.int).length==3)&&(rs.map PyData.int).all (cu 1 100))=true;rw[bD,dm,Bool.or_eq_true,dj,dj];refine⟨h.len,fb.mpr λd hd=>?_⟩;obtain⟨z,hz,rfl⟩:=cB.mp hd;have:=h.rl z hz;show(decide (1<=z)&&decide (z<=100))=true;rw[bR this.1,bR this.2];rfl
 have q:∀{lo hi z:Int},lo<=z/\z<=hi->cu lo hi (.int z)=true:=λ{lo hi z} h=>by show(decide (lo<=z)&&decide (z<=hi))=true;rw[bR h.1,bR h.2];rfl
 rw[h1,q h.t1];show(cu 1 50 (.int r)&&(cu 1 50 (.int f)&&(cu 1 50 (.int j)&&true)))=true;rw[q h.r1,q h.f1,q h.j1];rfl
abbrev Bp:Stmt:=inClass (top 102) 0
theorem Jd:bh ["self","machine","place"] ["self","machine","place"] (aP Bp):=bo aJ
inductive a5D(K:aa)(C:Addr)(D:Addr)(vs:List V)(H:Hp)(Q:VK):Prop |mk (a:_)(dx:_)(mv:_)(eY:_)(M:_)(pl:_)(h0:vs=[.ref a,mv,eY])(h1:H a=some (.ins D dx []))(h2:RD K H mv (bX.D M))(h3:RD K H eY (cI pl))(h4:M.Ok)(h5:fC M.rs pl)(h6:∀r q H',vp K D H' a r M->cN K C H' r q M (gU pl)->H r=none->H q=none->cV [a] H H'->Q .aZ H')
def HC(K:aa)(C D:Addr):Sp:=λvs H Q _=>a5D K C D vs H Q
theorem VD{C D:Addr}(F:CA K mg D "Desk" "Desk.__init__" Bp)(TC:mI K D)(Z0:aE P w K mg au "is_machine" 4 (tm jD K))(uE:aE P w K mg au "is_place" 3 (tf K))(a07:rZ P w K mg au C "Runner" 1 (Hl K C)):rZ P w K mg au D "Desk" 5 (HC K C D):=by
 refine F.has Jd (λvs H Q E h=>?_) (λ_ _ _ _ _ _=>lA λ_ _ _=>rfl) (λf aG A outer s H vs Q E hr h=>?_)
 ·obtain⟨a,dx,mv,eY,M,pl,rfl,_⟩:=h
  rfl
 ·obtain⟨a,dx,mv,eY,M,pl,rfl,e,rm,rp,aO,iK,k⟩:=h
  have nd:=Jd.nd;have lr:=aO.len;refine⟨_,(aF (bB (dg (cD (pf Z0 hr (ao (pv 1) ay)))) (aI oJ) bC) (aF (bB (dg (cD (pf uE hr (ao (pv 1) (ao (pv 2) ay))))) (aI oJ) bC) (aF (gY TC.cl TC.lX (pv 0) (pv 1)) (aI (gY TC.cl TC.ud (pv 0) (K3 a07 (hr.mono az) rfl (ao (pv 1) (ao (pv 2) ay)))))))),?_⟩;refine⟨_,Z,mv,_,Z,rm,λH1 s1=>⟨_,Z,?_⟩⟩;rw[WR aO];refine bc ?_;refine⟨_,Z,_,Z,mv,eY,M.rs,_,_,Z,RD.mono s1 _ rm,RD.mono s1 _ rp,aw,λH2 s2=>⟨_,Z,?_⟩⟩;rw[Kl iK];refine bc ?_;have fZ:=s1.trans s2;have e2:=fZ _ _ e;refine⟨_,Z,_,Z,a,dx,_,Z,e2,az,?_⟩;have v2:eG H (L2.upd H2 a (.ins D dx [("machine",mv)])):=fZ.v.trans (.upd e2 trivial);refine⟨_,Z,_,Z,λr rx kY DD ne=>?_⟩;have ar:a≠r:=λz=>by rw[<-z,bV]at kY;cases kY
  have O6:a≠rx:=λz=>by rw[<-z,bV]at DD;cases DD
  have s3:aA (L2.upd H2 a (.ins D dx [("machine",mv)])) (L2.upd (L2.upd (L2.upd H2 a (.ins D dx [("machine",mv)])) rx (.own r)) r (.ins C rx [])):=(aA.new DD).trans (aA.new (by rw[bj ne.symm];exact kY));have v3:=v2.trans s3.v;refine⟨r,rx,mv,eY,M,pl,Z,bV,RD.v v3 _ (iP _ _ _ _ _) rm,RD.v v3 _ (hU _) rp,λq H3 R3 nq bt=>⟨Z,?_⟩⟩;have nr:H r=none:=by cases e':H r with |none=>rfl |some o=>rw[bj ar.symm,fZ _ _ e']at kY;cases kY
  have qL:q≠a:=λz=>by rw[z,bj ar,bj O6,bV]at nq;cases nq
  have CJ:H q=none:=by cases e':H q with |none=>rfl |some o=>
   have h1:(L2.upd H2 a (.ins D dx [("machine",mv)])) q=some o:=by rw[bj qL];exact fZ _ _ e'
   cases(s3 _ _ h1).symm.trans nq
  have e3:=bt a _ (by rw[bj ar,bj O6];exact bV) (λz=>ar (e9.mp z));refine⟨_,Z,a,dx,_,Z,e3,by show 1<1000;decide,?_⟩;have v4:eG H3 (L2.upd H3 a (.ins D dx [("machine",mv),("runner",.ref r)])):=.upd e3 trivial;have bH:cV [a] H (L2.upd H3 a (.ins D dx [("machine",mv),("runner",.ref r)])):=λb o eb hb=>by
   have ha:b≠a:=λz=>hb (by rw[z];exact .head _);have Zs:b≠r:=λz=>by rw[z,nr]at eb;cases eb
   rw[bj ha];refine bt b o (s3 _ _ (by rw[bj ha];exact fZ _ _ eb)) (λz=>Zs (e9.mp z))
  have vH:=bH.v λx hx o eo=>by rw[e9]at hx;rw[hx,e]at eo;cases eo;trivial
  refine k r q _ ⟨dx,mv,bV,RD.v vH _ (iP _ _ _ _ _) rm⟩ ?_ nr CJ bH;exact R3.go Z v4 (λo eo=>by rw[bj ar.symm];exact eo) (λo eo=>by rw[bj qL];exact eo)
inductive a5K(D:Addr)(z:Str)(sp:Sp)(vs:List V)(H:Hp)(Q:VK):Prop |mk (a:_)(r:_)(dx:_)(mv:_)(h0:vs=[.ref a,.str z])(h1:H a=some (.ins D dx [("machine",mv),("runner",.ref r)]))(h2:∀H' E',aA H H'->sp [.ref r] H' Q E')
def ow(D:Addr)(z:Str)(sp:Sp):Sp:=λvs H Q _=>a5K D z sp vs H Q
abbrev wX:Stmt:=inClass (top 102) 1
theorem wV:bh ["self","text","word","rest","answer","item"] ["self","text"] (aP wX):=bo aJ
theorem tY{D gA:Addr}{z fn:Str}{n:Nat}{sp:Sp}(F:MA K D "say" "Desk.say" wX)(B:bw mg)(TC:mI K D)(GA:GD w K mg "ANSWERS" gA)(hz:Txt.split z " "=[z])(hl:z.length<=100)(hG:PySem.W.nsIn K gA z=some (mg fn))(ZD:aE P w K mg au fn n sp):cU P w K mg au D "say" (n+1) (ow D z sp):=by
 refine F.has wV (λvs H Q E h=>?_) (λ_ _ _ _ _ _=>da λ_ _=>rfl) (λf0 aG A outer s H vs Q E hr h=>?_)
 ·obtain⟨a,r,dx,mv,rfl,_⟩:=h
  rfl
 ·obtain⟨a,r,dx,mv,rfl,ea,k⟩:=h
  obtain⟨f,fd,ps,Fo,hm,hk,hb⟩:=ZD;rw[hm]at hG;have nd:=wV.nd;have jo:sizeLine=16777216:=by decide
  refine⟨_,(aF (bB (dg (cD (kR K B (ao (pv 1) (ao (jV (x:="str") (v:=.ty "str") Z (B.at "str") fj rfl) ay))))) (aI oJ) bC) (aF (eu (Cm K Z (pv 1) (ao bu ay)) (Ci K Z Z (ba 2 nd) (ba 3 nd))) (aF (bB (PW.pt (C9 (JS (K6 GA Z (pv 2)) (by with_unfolding_all rfl)) (C8 (dg (xb K Z (pv 3)))))) (aF (pS 4 nd (TY GA Z (pv 2) (λ_ _=>rfl))) (aI (aR (U1 4 tT (ha:=(ao (dM TC.cl TC.ud (pv 0)) ay)))))) bC) xf))),?_⟩;refine⟨_,Z,.inl ⟨_,"str","str",true,Z,Z,az,az,_,Z,bc ?_⟩⟩;refine⟨_,Z,Z,z," ",Z,Z,aJ,aw,λl H1 n1=>?_⟩;rw[hz]at n1;refine⟨l,.str z,[],Z,aH.of n1.at',az,λp H2 n2=>?_⟩;have s2:=n1.same.trans n2.same;refine⟨_,Z,z,_,Z,hG,true,Z,bF ?_⟩;refine⟨_,Z,false,.inl ⟨_,aH.of n2.at',Z⟩,bF ?_⟩;refine⟨_,Z,z,_,.ref f,Z,hG,Z,?_⟩;exact⟨f,fd,ps,n,_,Z,Fo,hk,hb,hr.mono aw,_,Z,a,dx,_,_,Z,s2 _ _ ea,Z,k H2 _ s2⟩
end
end Lw
namespace Lw
open PySem PySem.Spec PyProof.Rows L2 Rt Ln Cn Pn Wk Rn
open Ow (topR cornO mnO betR atO ownF leadF ownL OkI OkIs)
open Tm (numS numIn? Free)
section
variable {P:af}{w:World}{K:aa}{mg:bf}{au:Heap}
def dJ(a b:List Int):List Int:=(a.zip b).map λp=>p.1-p.2
def vo(K:aa)(C:Addr)(R:jr)(a q:Addr)(M:bX)(S:cf)(d:ah)(H:Hp)(Q:VK)(E:XK):Prop:=(hW M.rs.length d=false/\∀H',aA H H'->E (.ref R.n) none H')\/∃o,gL M.rs.length d o/\(gs M.rs (dD (cm S) o)=false->∀H' dx,aA H H'->H' dx=some (.xd [("at",.int (S.ds.length:Int))])->E (.ref R.o) (some dx) H')/\(gs M.rs (dD (cm S) o)=true->S.ds.length=20->∀H',aA H H'->E (.ref R.f) none H')/\(gs M.rs (dD (cm S) o)=true->S.ds.length<20->∀H',cN K C H' a q M (lq S d o)->cV [a,q] H H'->Q (.str (numS (S.ds.length+1:Nat))) H')
theorem vo.go{C:Addr}{R:jr}{a q:Addr}{M:bX}{S:cf}{d:ah}{H H1:Hp}{Q:VK}{E:XK}(h:vo K C R a q M S d H Q E)(s:aA H H1):vo K C R a q M S d H1 Q E:=by
 rcases h with⟨h1,h2⟩|⟨o,h1,h2,h3,h4⟩
 ·exact .inl ⟨h1,λH' s'=>h2 H' (s.trans s')⟩
 ·refine .inr ⟨o,h1,λa1 H' dx s'=>h2 a1 H' dx (s.trans s'),λa1 a2 H' s'=>h3 a1 a2 H' (s.trans s'),λa1 a2 H' R' b'=>h4 a1 a2 H' R' λb o' eb hb=>b' b o' (s b o' eb) hb⟩
theorem xw{n:Nat}(h:n<=20):((n+1:Nat):Int).natAbs.log2<1920:=iQ (show((n+1:Nat):Int).natAbs<10^40 by omega)
def toS(ns:List Int)(sp:Int):Str:=Txt.join " " ("to"::(ns.map numS++[numS sp]))
theorem W4{ns:List Int}(h:∀n∈ns,Nm n):(ns.map numS).map (λz=>oV (numIn? z))=ns.map V.int:=by rw[vP];refine List.map_congr_left λn hn=>?_;show oV (numIn? (numS n))=_;rw[Tm.CH (by have:=fq (h n hn);lia)];rfl
theorem qH{rs pl:List Int}(h:fC rs pl)(hr:∀z∈rs,1<=z/\z<=100):∀n∈pl,0<=n/\n<=100:=λn hn=>by
 obtain⟨i,hi⟩:=nY.mp hn;have hl:i<rs.length:=by rw[<-h.len];exact(dQ.mp hi).1
 have e:=cC hl;have:=h.at' i n _ hi e;have:=hr _ (vR hl)
 lia
theorem Le(ns:List Int)(sp:Int):cA 8 (du ns sp)/\oz (du ns sp)=true:=by refine⟨(fU.tup (n:=1) (.cons ⟨aJ,eQ _⟩ (.cons (fU.tup (n:=0) λd hd=>?_) (.cons (.int _) .nil)))).le az,Z⟩;obtain⟨a,_,rfl⟩:=cB.mp hd;exact .int _
abbrev Aj:Stmt:=inClass (top 102) 2
theorem HZ:bh ["self","words","numbers","place","steps"] ["self","words"] (aP Aj):=bo aJ
inductive a4V(K:aa)(C:Addr)(D:Addr)(R:jr)(vs:List V)(H:Hp)(Q:VK)(E:XK):Prop |mk (a:_)(r:_)(q:_)(M:_)(D':_)(S:_)(l:_)(ns:_)(sp:_)(h0:vs=[.ref a,.ref l])(h1:vp K D H a r M)(h2:cN K C H r q M S)(h3:dh M D' S)(h4:M.Ok)(h5:aH K H l ((ns.map numS++[numS sp]).map V.str))(h6:fC M.rs ns)(h7:1<=sp)(h8:sp<=20)(h9:vo K C R r q M S (du (dJ ns (cm S)) sp) H Q E)
def Hi(K:aa)(C D:Addr)(R:jr):Sp:=λvs H Q E=>a4V K C D R vs H Q E
theorem UB{C D:Addr}{R:jr}(F:MA K D "say_to" "Desk.say_to" Aj)(TC:mI K D)(RC:fB K C)(B:bw mg)(E4:GV mg "GREATEST_SPEED" (.int 20)){cL:Addr}(yi:Exc K mg "NoLine" cL gz gF)(DK:aE P w K mg au "numbers_in" 2 (wJ K))(uE:aE P w K mg au "is_place" 3 (tf K))(gH:aE P w K mg au "is_whole_within" 2 (kJ K))(E7:cU P w K mg au C "leads_to" 3 (fG K C λ_ S H Q=>∀v H',RD K H' v (cI (cm S))->aA H H'->Q v H'))(E9:mC P w K mg au C "feed" 5 (zY K C R)):mC P w K mg au D "say_to" 6 (Hi K C D R):=by
 refine F.E2 HZ (λvs H Q E h=>?_) (λ_ _ _ _ _ _=>da λ_ _=>rfl) (λf0 aG A outer s H vs Q E hr h=>?_)
 ·obtain⟨a,r,q,M,D',S,l,ns,sp,rfl,_⟩:=h
  rfl
 ·obtain⟨a,r,q,M,D',S,l,ns,sp,rfl,⟨dx,mv,ea,rm⟩,Ra,ok,aO,hl,iK,eS,iG,fe⟩:=h
  have nd:=HZ.nd;have lr:=aO.len;have ln:=iK.len;have nb:=qH iK aO.rl;have nm:∀n∈ns,Nm n:=λn hn=>by have:=nb n hn;show n.natAbs<10^40;lia
  have sm:Nm sp:=by show sp.natAbs<10^40;lia
  refine⟨_,(aF (pS 2 nd (pf DK hr (ao (pv 1) ay))) (aF (pS 3 nd (cE (x:="tuple") (j7 K Z) Z (B.at "tuple") gD (ao (tR (tw K rfl) (pv 2) tQ (tP (kQ kI aB))) ay))) (aF (bB (PW.pt (gX (dg (cD (pf uE hr (ao (dM TC.cl TC.lX (pv 0)) (ao (pv 3) ay))))) (gW (dg (cD (pf gH hr (ao (px K (pv 2) (kQ kI aB)) (ao aB (ao (cK (x:="GREATEST_SPEED") rfl E4) ay))))))))) (aI (tO (λ_ _ _ _ _ _ _ I m q=>sN I m q) yi vJ hr.hd Z (ao bu ay))) bC) (aF (pS 4 nd (cE (x:="tuple") (j7 K Z) Z (B.at "tuple") gD (ao (dA (N:=["number","begun"]) (js:=[none,none]) rfl rfl rfl (kP K rfl false false rfl (B.at "zip") (ao (pv 3) (ao (iI E7 RC.cl (hr.mono az) (dM TC.cl TC.ud (pv 0))) ay))) (λ_ _ _ _ _=>(dS K rfl (n:=2) rfl (bM (ba 0 (gb az)) (bM (ba 1 (gb az)) dR)))) (λ_ _ _ _ _=>cX) (λ_ _ _ _ _=>(aL jW (pv 0) (pv 1)))) ay))) (aI (aR (cE (x:="str") fL Z (B.at "str") fj (ao (xk E9 (Cp λ_ _ _ z=>z) RC.cl (hr.mono az) (dM TC.cl TC.ud (pv 0)) (ao (eA (ao bu (ao (pv 4) (ao (px K (pv 2) (kQ kI aB)) ay)))) ay)) ay)))))))),?_⟩;refine⟨_,Z,l,_,Z,hl,by simp;lia,λz hz=>?_,λp H1 s1 np d1=>?_⟩
  ·rcases jN.mp hz with hz|hz
   ·obtain⟨n,hn,rfl⟩:=cB.mp hz
    have:=fq (nm n hn);lia
   ·rw[e9.mp hz]
    have:=fq sm;lia
  rw[lF,W4 nm,show[numS sp].map (λz=>oV (numIn? z))=[V.int sp] by show[oV (numIn? (numS sp))]=_;rw[Tm.CH (by have:=fq sm;lia)];rfl]at d1;have cl:=Nu (ns.map V.int++[V.int sp]);rw[iC,bD,FV,Nat.add_sub_cancel,List.take_left' (by rw[bD])]at cl;refine⟨_,Z,_,Z,_,Z,p,_,Z,.inl ⟨aH.of d1,λl2 H2 n2=>?_⟩⟩;have d2:=n2.at';rw[show(-(1:Int))=-1 from Z,cl]at d2;refine⟨l2,_,Z,.inl ⟨aH.of d2,λt H3 n3=>?_⟩⟩;have s3:=s1.trans (n2.same.trans n3.same);have yJ:=s3 _ _ ea;have rt:RD K H3 (.ref t) (cI ns):=eX (aQ.of n3.at') (mU ns);refine⟨_,Z,a,dx,_,_,Z,yJ,Z,_,Z,mv,.ref t,M.rs,_,_,Z,RD.mono s3 _ rm,rt,aw,λH4 s4=>⟨_,Z,?_⟩⟩;rw[Kl iK];refine bc ?_;have wY:=s3.trans s4;have Nd:H4 p=some (.lst (ns.map V.int++[V.int sp])):=s4 _ _ (n3.same _ _ (n2.same _ _ d1));have O3:dY (ns.map V.int++[V.int sp]) (-1)=some (.int sp):=O2 (by simp);refine⟨_,Z,_,Z,.inl ⟨p,_,-1,.int sp,Z,Z,aH.of Nd,O3,_,.int sp,1,20,Z,ek _,_,Z,?_⟩⟩;rw[show cu 1 20 (.int sp)=true by show(decide (1<=sp)&&decide (sp<=20))=true;rw[bR eS,bR iG];rfl];refine bc ?_;have yI:=wY _ _ ea;obtain⟨rx,Sq,SG,Sk,Sd,er,_⟩:=Ra.ob;have er4:=wY _ _ er;have R4:=Ra.same ok.row.no wY;refine⟨_,Z,_,Z,a,dx,_,_,Z,yI,Z,r,rx,_,Z,er4,Z,r,q,M,D',S,Z,R4,ok,aO,λg H5 rg s5=>?_⟩;obtain⟨ga,gx,rfl,hg,Z9⟩:=rg.cj;rw[Z9.eK]at hg;have gl:(cm S).length=M.rs.length:=yx _ _ ok.pl ok.mV;have LH:aQ K H5 t (ns.map V.int):=aQ.of (s5 _ _ (s4 _ _ n3.at'));refine⟨t,ga,Z,⟨_,LH⟩,⟨_,hg⟩,λD2 H6 n6=>?_⟩;refine pJ (K:=K) (b1:=false) (b2:=false) (xs:=ns.map V.int) (ys:=(cm S).map V.int) (ds:=(dJ ns (cm S)).map PyData.int) _ Z LH hg n6 (by simp[dJ]) (by simp[dJ];lia) (jZ _) ?_ ?_
  ·intro i x y d H7 Q' ex ey ed s7 hq
   obtain⟨u,v,e1,e2,rfl,rfl⟩:=zip2 aw ex ey;obtain⟨m,em,rfl⟩:=ke ed;unfold dJ at em;rw[bJ,(nZ (z:=(u,v))).mpr ⟨e1,e2⟩]at em;cases em;exact⟨_,Z,_,Z,_,_,Z,Z,hq _ _ (aA.refl _) (ek _)⟩
  intro H7 zs s7 d7 r7;rw[r7.eK]at d7;refine⟨D2,_,Z,.inl ⟨aH.of d7,λtt H8 n8=>?_⟩⟩;have Jq:=s5.trans (s7.trans n8.same);have s8:=wY.trans Jq;refine⟨_,Z,a,dx,_,_,Z,s8 _ _ ea,Z,r,rx,_,Z,s8 _ _ er,Z,?_⟩;refine⟨_,Z,_,Z,_,Z,.inl ⟨p,_,-1,.int sp,Z,Z,aH.of (Jq _ _ Nd),O3,bW Z,λtu H9 n9=>?_⟩⟩;have s9:=s8.trans n9.same;have rl:RD K H9 (.ref tu) (du (dJ ns (cm S)) sp):=eX (aQ.of n9.at') (ck (bP _) (ck (eX (aQ.of (n9.same _ _ n8.at')) (mU _)) (ck (ek _) df)));obtain⟨o1,o2⟩:=Le (dJ ns (cm S)) sp;refine⟨r,q,M,D',S,.ref tu,_,Z,Ra.same ok.row.no s9,ok,aO,rl,o1,o2,?_⟩;rcases fe.go s9 with⟨h1,h2⟩|⟨o,h1,h2,h3,h4⟩
  ·exact .inl ⟨h1,h2⟩
  ·exact .inr ⟨o,h1,h2,h3,λa1 a2 H' R' b'=>.inl ⟨_,Z,xw aw,h4 a1 a2 H' R' b'⟩⟩
theorem Qe{ws:List Str}{d:ah}(h:fm ws=d)(hd:d≠ .none):∃z y rest ds,ws=z::y::rest/\d= .tuple (.str z::ds):=by
 subst h
 match ws with
 |[]=>exact(hd Z).elim |[z]=>exact(hd (by unfold fm;dsimp only;split<;>rfl)).elim |z::y::rest=>
  refine⟨z,y,rest,?_⟩;unfold fm at hd⊢;dsimp only at hd⊢;split
  ·exact⟨_,Z,Z⟩
  ·next hz=>
   rw[aV hz]at hd
   match rest,hd with |[],_=>exact⟨_,Z,Z⟩ |_::_,hd=>exact(hd Z).elim
def Fi (z:Str):Prop:=z = "line" \/ mz z
theorem mF.word{n:Nat}{d:ah}(h:mF n d):∃z y rest,Txt.split (cY d) " "=z::y::rest/\Fi z:=by
 have e:=h.rt;unfold qU at e;have e2:fm (Txt.split (cY d) " ")=d:=by cases hc:hW n (fm (Txt.split (cY d) " "))with |true=>rw[hc]at e;exact e |false=>rw[hc]at e;exact(h.ne e.symm).elim
 obtain⟨z,y,rest,ds,hw,hd⟩:=Qe e2 h.ne;refine⟨z,y,rest,hw,?_⟩;rcases h.ti with⟨ns,sp,rfl,_⟩|⟨w,i,rfl,hw,_⟩|⟨w,y,rfl,hw,_⟩
 ·cases hd;exact .inl rfl
 ·cases hd;exact .inr hw
 ·cases hd;exact .inr hw
inductive a4U(K:aa)(C:Addr)(D:Addr)(R:jr)(vs:List V)(H:Hp)(Q:VK)(E:XK):Prop |mk (a:_)(r:_)(q:_)(M:_)(D':_)(S:_)(z:_)(d:_)(h0:vs=[.ref a,.str z])(h1:vp K D H a r M)(h2:cN K C H r q M S)(h3:dh M D' S)(h4:M.Ok)(h5:(mF M.rs.length d/\z=cY d\/∃ns sp,z=toS ns sp/\fC M.rs ns/\1<=sp/\sp<=20/\d=du (dJ ns (cm S)) sp))(h6:vo K C R r q M S d H Q E)
def Hh(K:aa)(C D:Addr)(R:jr):Sp:=λvs H Q E=>a4U K C D R vs H Q E
structure zj(K:aa)(gA:Addr):Prop where
 line:PySem.W.nsIn K gA "line"=some none
 wait:PySem.W.nsIn K gA "wait"=some none
 Qa:∃v,PySem.W.nsIn K gA "tool"=some (some v)
 mark:∃v,PySem.W.nsIn K gA "mark"=some (some v)
 to:PySem.W.nsIn K gA "to"=some none
theorem a42{ta tb:TT}{O:L2.St}{H:Hp}{Q:Bool->Hp->Prop}(h1:∀Q':Bool->Hp->Prop,(∀c,Q' c H)->ta O H Q')(h2:∀Q':Bool->Hp->Prop,Q' false H->tb O H Q')(k:Q false H):GK ta tb O H Q:=h1 _ λc=>by cases c with |true=>exact h2 _ k |false=>exact k
structure RwW(y:Str):Prop where
 sh:SeqAt.shaped (.str y)=true
 n1:PyData.eqv (.str y) (.str "to")=false
 n2:PyData.eqv (.str y) (.str "steps")=false
 n3:PyData.eqv (.str y) (.str "rate")=false
theorem S9{y:Str}(h:Fi y):RwW y:=by rcases h with rfl|rfl|rfl|rfl<;>exact⟨aJ,aJ,aJ,aJ⟩
theorem qp:SeqAt.shaped (.str "to")=true/\SeqAt.shaped (.str "steps")=true/\SeqAt.shaped (.str "rate")=true/\PyData.eqv (.str "to") (.str "to")=true:=by decide+kernel
theorem zj.row{gA:Addr}(h:zj K gA){y:Str}(hy:Fi y):∃ov,PySem.W.nsIn K gA y=some ov:=by
 rcases hy with rfl|rfl|rfl|rfl
 ·exact⟨_,h.line⟩
 ·exact⟨_,h.wait⟩
 ·exact⟨_,h.Qa.choose_spec⟩
 ·exact⟨_,h.mark.choose_spec⟩
theorem Gf{y:Str}(h:mz y):fH (.str y)=true:=by rcases h with rfl|rfl|rfl<;>decide+kernel
theorem TI.sh{d:ah}(h:TI d):oz d=true:=by
 rcases h with⟨ns,sp,rfl,_⟩|⟨y,i,rfl,hw,_⟩|⟨y,z,rfl,hw,zl⟩
 ·exact(Le ns sp).2
 ·show(fH (.str y)&&(fH (.int i)&&true))=true
  rw[Gf hw];rfl
 ·show(fH (.str y)&&(fH (.str z)&&true))=true
  rw[Gf hw,show fH (.str z)=true from bR aw];rfl
theorem Qb{ns:List Int}{sp:Int}:Txt.split (toS ns sp) " "=("to":Str)::(ns.map numS++[numS sp]):=by
 unfold toS;rw[oq];refine Tm.GW (by simp) λz hz=>?_;rcases bS.mp hz with rfl|hz
 ·exact jG aJ
 ·rcases jN.mp hz with hz|hz
  ·obtain⟨i,_,rfl⟩:=cB.mp hz
   exact Tm.mW az az
  ·rw[e9.mp hz];exact Tm.mW az az
theorem Qc{ns:List Int}{sp:Int}(h:∀n∈ns,Nm n)(hs:Nm sp)(hl:ns.length<=3):(toS ns sp).length<=400:=by
 have:=xN " " (B:=41) ("to"::(ns.map numS++[numS sp])) (λz hz=>by
  rcases bS.mp hz with rfl|hz
  ·decide+kernel
  ·rcases jN.mp hz with hz|hz
   ·obtain⟨i,hi,rfl⟩:=cB.mp hz
    exact fq (h i hi)
   ·rw[e9.mp hz];exact fq hs);rw[eS,fW,iC,bD,FV]at this;unfold toS;have:(ns.length+1+1)*(41+1)<=5*42:=P2 _ aw
 lia
theorem UI{C D gA:Addr}{R:jr}(F:MA K D "say" "Desk.say" wX)(TC:mI K D)(RC:fB K C)(B:bw mg)(GA:GD w K mg "ANSWERS" gA)(NA:zj K gA){cL:Addr}(yi:Exc K mg "NoLine" cL gz gF)(YW:aE P w K mg au "item_in" 5 (A5 K))(a0F:mC P w K mg au D "say_to" 6 (Hi K C D R))(E9:mC P w K mg au C "feed" 5 (zY K C R)):mC P w K mg au D "say" 7 (Hh K C D R):=by
 refine F.E2 wV (λvs H Q E h=>?_) (λ_ _ _ _ _ _=>da λ_ _=>rfl) (λf0 aG A outer s H vs Q E hr h=>?_)
 ·obtain⟨a,r,q,M,D',S,z,d,rfl,_⟩:=h
  rfl
 ·obtain⟨a,r,q,M,D',S,z,d,rfl,⟨dx,mv,ea,rm⟩,Ra,ok,aO,hz,fe⟩:=h
  have nd:=wV.nd;have lr:=aO.len;have jo:sizeLine=16777216:=by decide
  refine⟨_,(aF (bB (dg (cD (kR K B (ao (pv 1) (ao (jV (x:="str") (v:=.ty "str") Z (B.at "str") fj rfl) ay))))) (aI (tO (λ_ _ _ _ _ _ _ I m q=>sN I m q) yi vJ hr.hd Z (ao bu ay))) bC) (aF (eu (Cm K Z (pv 1) (ao bu ay)) (Ci K Z Z (ba 2 nd) (ba 3 nd))) (aF (bB (PW.pt (C9 (JS (K6 GA Z (pv 2)) (by with_unfolding_all rfl)) (C8 (dg (xb K Z (pv 3)))))) xf bC) (aF (bB (bK (dC K Z hr.units) (pv 2) bu (bE _)) (aI (aR (xk a0F (Cp λ_ _ _ z=>z) TC.cl (hr.mono az) (pv 0) (ao (pv 3) ay)))) bC) (aF (bB (bK (dC K Z hr.units) (pv 2) bu (bE _)) xf bC) (aF (bB (bK (dC K Z hr.units) (pv 2) bu (bE _)) xf bC) (aF (pS 5 nd (pf YW hr (ao (dM TC.cl TC.lX (pv 0)) (ao (pv 1) ay)))) (aF (bB (bK xn (pv 5) g9 (bE _)) (aI (tO (λ_ _ _ _ _ _ _ I m q=>sN I m q) yi vJ hr.hd Z (ao bu ay))) bC) (aI (aR (cE (x:="str") fL Z (B.at "str") fj (ao (xk E9 (Cp λ_ _ _ z=>z) RC.cl (hr.mono az) (dM TC.cl TC.ud (pv 0)) (ao (pv 5) ay)) ay)))))))))))),?_⟩;refine⟨_,Z,.inl ⟨_,"str","str",true,Z,Z,az,az,_,Z,bc ?_⟩⟩;have a7C:(16777216:Nat)=sizeLine:=jo.symm;rcases hz with⟨tx,rfl⟩|⟨ns,sp,rfl,iK,eS,iG,rfl⟩
  ·obtain⟨y,y2,G7,hs,hy⟩:=tx.word
   obtain⟨ov,Yu⟩:=NA.row hy;generalize eys:y2::G7=ys at hs;have W:=S9 hy;have hl:=tx.len;have xT:ys.length<=1000:=by
    have:=split_len (cY d) " ";rw[hs,fW]at this
    lia
   refine⟨_,Z,Z,_," ",Z,Z,aJ,aw,λl H1 n1=>?_⟩;rw[hs]at n1;refine⟨l,.str y,ys.map V.str,Z,aH.of n1.at',by rw[bD];lia,λp H2 n2=>?_⟩;have s2:=n1.same.trans n2.same;unfold fT;dsimp only;unfold Gy GG;dsimp only;refine a42 (λQ' hq=>⟨_,Z,y,ov,Z,Yu,_,Z,hq _⟩) (λQ' hq=>⟨_,Z,true,.inl ⟨_,aH.of n2.at',by rw[<-eys];rfl⟩,hq⟩) ?_;refine bc ?_;refine⟨_,Z,.inr ⟨_,_,bP _,bP _,W.sh,qp.1,_,Z,?_⟩⟩;rw[W.n1];refine bc ⟨_,Z,.inr ⟨_,_,bP _,bP _,W.sh,qp.2.1,_,Z,?_⟩⟩;rw[W.n2];refine bc ⟨_,Z,.inr ⟨_,_,bP _,bP _,W.sh,qp.2.2.1,_,Z,?_⟩⟩;rw[W.n3];refine bc ?_;refine⟨_,Z,a,dx,_,_,Z,s2 _ _ ea,Z,_,Z,mv,M.rs,_,_,Z,RD.mono s2 _ rm,Z,aw,aw,tx.ok,λv H3 s3 rv=>?_⟩;rw[tx.rt]at rv;have wZ:=s2.trans s3;have nv:v≠ .aZ:=λe=>by rw[e]at rv;rcases tx.ti with⟨ns,sp,rfl,_⟩|⟨w,i,rfl,_⟩|⟨w,z,rfl,_⟩<;>(obtain⟨p,xs,e,_⟩:=rv.cj;cases e)
   refine⟨_,Z,Z,_,Z,?_⟩;rw[dP nv];refine bc ?_;obtain⟨rx,Sq,SG,Sk,Sd,er,_⟩:=Ra.ob;refine⟨_,Z,a,dx,_,_,Z,wZ _ _ ea,Z,r,rx,_,Z,wZ _ _ er,Z,_,Z,?_⟩;refine⟨r,q,M,D',S,v,d,Z,Ra.same ok.row.no wZ,ok,aO,rv,tx.oS,tx.ti.sh,?_⟩;rcases fe.go wZ with⟨h1,h2⟩|⟨o,h1,h2,h3,h4⟩
   ·exact .inl ⟨h1,h2⟩
   ·exact .inr ⟨o,h1,h2,h3,λa1 a2 H' R' b'=>.inl ⟨_,Z,xw aw,h4 a1 a2 H' R' b'⟩⟩
  ·have nb:=qH iK aO.rl
   have ln:=iK.len;have nm:∀n∈ns,Nm n:=λn hn=>by have:=nb n hn;show n.natAbs<10^40;lia
   have sm:Nm sp:=by show sp.natAbs<10^40;lia
   have hl:=Qc nm sm aw;refine⟨_,Z,Z,_," ",Z,Z,aJ,aw,λl H1 n1=>?_⟩;rw[Qb]at n1;refine⟨l,.str "to",(ns.map numS++[numS sp]).map V.str,Z,aH.of n1.at',by simp;lia,λp H2 n2=>?_⟩;have s2:=n1.same.trans n2.same;refine⟨_,Z,"to",_,Z,NA.to,false,Z,bc ?_⟩;refine⟨_,Z,.inr ⟨_,_,bP _,bP _,qp.1,qp.1,_,Z,?_⟩⟩;rw[qp.2.2.2];refine bF ?_;refine⟨_,Z,a,dx,_,Z,s2 _ _ ea,Z,_,Z,a,r,q,M,D',S,p,ns,sp,Z,⟨dx,mv,s2 _ _ ea,RD.mono s2 _ rm⟩,Ra.same ok.row.no s2,ok,aO,aH.of n2.at',iK,eS,iG,fe.go s2⟩
end
open Tm (numS numIn? Free)
section
variable {P:af}{w:World}{K:aa}{mg:bf}{au:Heap}
structure CC where
 g:Addr
 c0:Addr
 c1:Addr
 c2:Addr
 c3:Addr
 c4:Addr
 c5:Addr
 c6:Addr
 c7:Addr
 c8:Addr
 c9:Addr
 c10:Addr
structure KC(K:aa)(X:CC)(C:Addr)(b0 b1 b2 b3 b4 b5 b6 b7 b8 b9 fM:Bool):Prop where
 tk:takes K C X.g
 k:iZ K C
 i0:PySem.W.kitOne K (.ref C) (.ref X.c0)=some b0
 i1:PySem.W.kitOne K (.ref C) (.ref X.c1)=some b1
 i2:PySem.W.kitOne K (.ref C) (.ref X.c2)=some b2
 i3:PySem.W.kitOne K (.ref C) (.ref X.c3)=some b3
 i4:PySem.W.kitOne K (.ref C) (.ref X.c4)=some b4
 i5:PySem.W.kitOne K (.ref C) (.ref X.c5)=some b5
 i6:PySem.W.kitOne K (.ref C) (.ref X.c6)=some b6
 i7:PySem.W.kitOne K (.ref C) (.ref X.c7)=some b7
 i8:PySem.W.kitOne K (.ref C) (.ref X.c8)=some b8
 i9:PySem.W.kitOne K (.ref C) (.ref X.c9)=some b9
 i10:PySem.W.kitOne K (.ref C) (.ref X.c10)=some fM
 ve:PySem.W.kitOne K (.ref C) (.type "ValueError")=some true
structure Fv(mg:bf)(X:CC):Prop where
 h0:GV mg "NoFraction" (.ref X.c0)
 h1:GV mg "NoRate" (.ref X.c1)
 h2:GV mg "NoItem" (.ref X.c2)
 h3:GV mg "OffRails" (.ref X.c3)
 h4:GV mg "Full" (.ref X.c4)
 h5:GV mg "Moving" (.ref X.c5)
 h6:GV mg "NoTape" (.ref X.c6)
 h7:GV mg "NoText" (.ref X.c7)
 h8:GV mg "NoMachine" (.ref X.c8)
 h9:GV mg "NoPlace" (.ref X.c9)
 h10:GV mg "NoLine" (.ref X.c10)
 v:mg "ValueError"=none
def mx:List Str:=["fraction","rate","item","off","full","moving","tape","text","machine","place","line"]
inductive a5G(K:aa)(X:CC)(vs:List V)(H:Hp)(Q:VK):Prop |mk (ex:Addr)(C:Addr)(dx:Option Addr)(b0:Bool)(b1:Bool)(b2:Bool)(b3:Bool)(b4:Bool)(b5:Bool)(b6:Bool)(b7:Bool)(b8:Bool)(b9:Bool)(fM:Bool)(j:Nat)(z:Str)(h0:vs=[.ref ex])(h1:H ex=some (.ext (ju ex (.ref C) dx)))(h2:KC K X C b0 b1 b2 b3 b4 b5 b6 b7 b8 b9 fM)(h3:[b0,b1,b2,b3,b4,b5,b6,b7,b8,b9,fM].count true=1)(h4:[b0,b1,b2,b3,b4,b5,b6,b7,b8,b9,fM][j]? =some true)(h5:(∀m:Nat,m<j->[b0,b1,b2,b3,b4,b5,b6,b7,b8,b9,fM][m]? =some false))(h6:mx[j]? =some z)(h7:∀H',aA H H'->Q (.str ("refused "++z)) H')
def HD(K:aa)(X:CC):Sp:=λvs H Q _=>a5G K X vs H Q
abbrev kK:Stmt:=top 113
theorem Jf:bh ["_law_e","_law_some","_law_names"] ["_law_e"] (aP kK):=bo aJ
theorem a3j{j:Nat}{z:Str}(h:mx[j]? =some z):j<1000/\z.length<=100:=by
 have hm:=fP h;refine⟨by have:=(dQ.mp h).1;have e:mx.length=11:=rfl;omega,?_⟩;have:∀y∈mx,y.length<=100:=by decide+kernel
 exact this z hm
def yR:Expr:=match eO kK with|_::_::_:: .Assign _ e _::_=>e|_=>.Constant .none 0 ⟨0,0,0,0⟩
theorem a3o:lit 4 yR=some (.list (mx.map PyData.str)):=by kernel_rfl
def KY(e:Expr):List Stmt:=match eO kK with|a::b::c:: .Assign ts _ p::r=>a::b::c:: .Assign ts e p::r|r=>r
theorem WI:KY yR=eO kK:=by kernel_rfl
theorem a3k{X:CC}{f:Addr}{aG:Value}{A:ai}{outer:List Env}{s:ae}{H:Hp}{Q:VK}(e:Expr)(hr:iX 0 (A.deeper (envOfC "_law_class" (aP kK) s.heap.objs.size f aG))) (he:Ol (rQ P w K mg au ["_law_e","_law_some","_law_names"] "_law_class" (aP kK) f aG A outer s H) e (wB K (.list (mx.map PyData.str)))) (m6:∀x l,swapsWith e (some x) l (rQ P w K mg au ["_law_e","_law_some","_law_names"] "_law_class" (aP kK) f aG A outer s H).env=pure false)(B:bw mg)(N:Fv mg X) {ex C:Addr}{dx:Option Addr}{b0 b1 b2 b3 b4 b5 b6 b7 b8 b9 fM:Bool}{j:Nat}{z:Str}(e1:H ex=some (.ext (ju ex (.ref C) dx)))(kc:KC K X C b0 b1 b2 b3 b4 b5 b6 b7 b8 b9 fM)(cnt:[b0,b1,b2,b3,b4,b5,b6,b7,b8,b9,fM].count true=1)(o2:[b0,b1,b2,b3,b4,b5,b6,b7,b8,b9,fM][j]? =some true)(o3:∀m:Nat,m<j->[b0,b1,b2,b3,b4,b5,b6,b7,b8,b9,fM][m]? =some false)(o5:mx[j]? =some z)(k:∀H',aA H H'->Q (.str ("refused "++z)) H'): ∃t,eV (rQ P w K mg au ["_law_e","_law_some","_law_names"] "_law_class" (aP kK) f aG A outer s H) (KY e) t/\t {nx:=λ_ H'=>Q .aZ H',rt:=Q} (start ["_law_e","_law_some","_law_names"] [.ref ex]) H:=by
 have nd:=Jf.nd;have ZQ:=N.h0;have ZL:=N.h1;have ZP:=N.h2;have E3:=N.h3;have a02:=N.h4;have ZS:=N.h5;have ZK:=N.h6;have ZJ:=N.h7;have ZN:=N.h8;have ZM:=N.h9;have ZO:=N.h10;have ZH:=N.v;have jo:sizeLine=16777216:=by decide
 refine⟨_,(aF (pS 1 nd (fJ (ao (cw (x:="isinstance") (jg K Z) Z (B.at "isinstance") jw (ao (pv 0) (ao (cK (x:="NoFraction") rfl ZQ) ay))) (ao (cw (x:="isinstance") (jg K rfl) rfl (B.at "isinstance") jw (ao (pv 0) (ao (cK (x:="NoRate") rfl ZL) ay))) (ao (cw (x:="isinstance") (jg K rfl) rfl (B.at "isinstance") jw (ao (pv 0) (ao (cK (x:="NoItem") rfl ZP) ay))) (ao (cw (x:="isinstance") (jg K rfl) rfl (B.at "isinstance") jw (ao (pv 0) (ao (cK (x:="OffRails") rfl E3) ay))) ay)))))) (aF (pS 1 nd (aL (rT K Z) (pv 1) (fJ (ao (cw (x:="isinstance") (jg K Z) Z (B.at "isinstance") jw (ao (pv 0) (ao (cK (x:="Full") rfl a02) ay))) (ao (cw (x:="isinstance") (jg K rfl) rfl (B.at "isinstance") jw (ao (pv 0) (ao (cK (x:="Moving") rfl ZS) ay))) (ao (cw (x:="isinstance") (jg K rfl) rfl (B.at "isinstance") jw (ao (pv 0) (ao (cK (x:="NoTape") rfl ZK) ay))) (ao (cw (x:="isinstance") (jg K rfl) rfl (B.at "isinstance") jw (ao (pv 0) (ao (cK (x:="NoText") rfl ZJ) ay))) ay))))))) (aF (pS 1 nd (aL (rT K Z) (pv 1) (fJ (ao (cw (x:="isinstance") (jg K Z) Z (B.at "isinstance") jw (ao (pv 0) (ao (cK (x:="NoMachine") rfl ZN) ay))) (ao (cw (x:="isinstance") (jg K rfl) rfl (B.at "isinstance") jw (ao (pv 0) (ao (cK (x:="NoPlace") rfl ZM) ay))) (ao (cw (x:="isinstance") (jg K rfl) rfl (B.at "isinstance") jw (ao (pv 0) (ao (cK (x:="NoLine") rfl ZO) ay))) ay)))))) (aF (JT (i:=2) nd Z (Or.inl Z) he.out (m6 _ _)) (aF (bB (PW.pt (gX (bK (lV K Z hr.units) (U5 K Z (pv 1) (ao gr ay)) aB (bE _)) (gW (dg (cD (cw (x:="isinstance") (jg K Z) Z (B.at "isinstance") jw (ao (pv 0) (ao (jV (x:="ValueError") (v:=.ty "ValueError") rfl ZH a3J rfl) ay)))))))) (aI (aR bu)) bC) (aI (aR (aL iJ bu (px K (pv 2) (U4 K Z (pv 1) (ao gr ay))))))))))),?_⟩;refine⟨_,Z,.inl ⟨ex,C,dx,.ref X.c0,.ref X.c0,b0,Z,e1,kc.k,Z,kc.i0,?_⟩⟩;refine⟨_,Z,.inl ⟨ex,C,dx,.ref X.c1,.ref X.c1,b1,Z,e1,kc.k,Z,kc.i1,?_⟩⟩;refine⟨_,Z,.inl ⟨ex,C,dx,.ref X.c2,.ref X.c2,b2,Z,e1,kc.k,Z,kc.i2,?_⟩⟩;refine⟨_,Z,.inl ⟨ex,C,dx,.ref X.c3,.ref X.c3,b3,Z,e1,kc.k,Z,kc.i3,?_⟩⟩;refine⟨bW Z,λl1 H1 n1=>?_⟩;have e2:=n1.same _ _ e1;refine⟨_,Z,?_⟩;refine⟨_,Z,.inl ⟨ex,C,dx,.ref X.c4,.ref X.c4,b4,Z,e2,kc.k,Z,kc.i4,?_⟩⟩;refine⟨_,Z,.inl ⟨ex,C,dx,.ref X.c5,.ref X.c5,b5,Z,e2,kc.k,Z,kc.i5,?_⟩⟩;refine⟨_,Z,.inl ⟨ex,C,dx,.ref X.c6,.ref X.c6,b6,Z,e2,kc.k,Z,kc.i6,?_⟩⟩;refine⟨_,Z,.inl ⟨ex,C,dx,.ref X.c7,.ref X.c7,b7,Z,e2,kc.k,Z,kc.i7,?_⟩⟩;refine⟨bW Z,λl2 H2 n2=>?_⟩;refine⟨l1,l2,_,_,Z,Z,aH.of (n2.same _ _ n1.at'),aH.of n2.at',by show 8<=_;omega,λl3 H3 n3=>?_⟩;have s3:=n1.same.trans (n2.same.trans n3.same);have e3:=s3 _ _ e1;refine⟨_,Z,?_⟩;refine⟨_,Z,.inl ⟨ex,C,dx,.ref X.c8,.ref X.c8,b8,Z,e3,kc.k,Z,kc.i8,?_⟩⟩;refine⟨_,Z,.inl ⟨ex,C,dx,.ref X.c9,.ref X.c9,b9,Z,e3,kc.k,Z,kc.i9,?_⟩⟩;refine⟨_,Z,.inl ⟨ex,C,dx,.ref X.c10,.ref X.c10,fM,Z,e3,kc.k,Z,kc.i10,?_⟩⟩;refine⟨bW Z,λl4 H4 n4=>?_⟩;refine⟨l3,l4,_,_,Z,Z,aH.of (n4.same _ _ n3.at'),aH.of n4.at',by show 11<=_;omega,λl5 H5 n5=>?_⟩;have YJ:aH K H5 l5 ([b0,b1,b2,b3,b4,b5,b6,b7,b8,b9,fM].map V.bl):=aH.of n5.at';have s5:=s3.trans (n4.same.trans n5.same);intro l6v H6 KP r6;obtain⟨l6,xs6,rfl,Ya,Zk⟩:=(RD.mono a1f _ r6).lst_inv;cases jP Zk;have s6:=s5.trans KP;have y8:=YJ.go KP;have e6:=s6 _ _ e1;refine⟨_,Z,.inl ⟨Z,_,y8⟩,l5,_,Z,Z,y8,.inl ⟨_,_,Z,Z,_,Z,?_⟩⟩;rw[show(!decide (((([b0,b1,b2,b3,b4,b5,b6,b7,b8,b9,fM].count true:Nat)):Int)=1))=false by rw[cnt];rfl];refine bc ?_;refine⟨_,Z,.inl ⟨ex,C,dx,.ty "ValueError",.type "ValueError",true,Z,e6,kc.k,Z,kc.ve,_,Z,bc ?_⟩⟩;obtain⟨j1,z1⟩:=a3j o5;have o6:(mx.map V.str)[j]? =some (.str z):=by rw[bJ,o5];rfl
 refine⟨_,Z,_,Z,.inl ⟨Z,_,y8⟩,l5,_,j,Z,Z,y8,o2,o3,j1,?_⟩;refine .inl ⟨l6,mx.map V.str,_,_,Z,Z,Ya,cM bp o6,?_⟩;refine⟨_,_,Z,Z,?_,k _ s6⟩;have e8:Str.length "refused "=8:=by decide+kernel
 omega
theorem VF{X:CC}(F:FA K mg "_law_class" kK)(B:bw mg)(N:Fv mg X):zm P w K mg au "_law_class" 1 (HD K X):=by
 refine F.Zx Jf (λvs H Q E h=>?_) (λ_ _ _ _ _ _=>cJ λ_=>rfl) (λf aG A outer s H vs Q hr h=>?_)
 ·obtain⟨ex,C,dx,b0,b1,b2,b3,b4,b5,b6,b7,b8,b9,fM,j,z,rfl,_⟩:=h
  rfl
 ·obtain⟨ex,C,dx,b0,b1,b2,b3,b4,b5,b6,b7,b8,b9,fM,j,z,rfl,e1,kc,cnt,o2,o3,o5,k⟩:=h
  rw[<-WI];exact a3k yR hr (TV K Z 4 yR _ a3o) (λ_ _=>rfl) B N e1 kc cnt o2 o3 o5 k
end
open Tm (numS numIn? Free)
section
variable {P:af}{w:World}{K:aa}{mg:bf}{au:Heap}
structure Fh(K:aa)(mg:bf)(X:CC):Prop where
 g:Exc K mg "GlideError" X.g gz gF
 n:Fv mg X
 k2:KC K X X.c2 false false true false false false false false false false false
 k3:KC K X X.c3 false false false true false false false false false false false
 k4:KC K X X.c4 false false false false true false false false false false false
 at3:PySem.W.findIn K (.ref X.c3) "at"=some none
def refOf(X:CC)(i:Addr):jr:=⟨X.c2,X.c3,X.c4,X.c5,X.c1,i⟩
def kT(n:Nat):Str:="refused off"++(" "++numS (n:Int))
def a4n(K:aa)(C r q:Addr)(M:bX)(S:cf)(d:ah)(H:Hp)(Q:VK):Prop:=(hW M.rs.length d=false/\∀H',aA H H'->Q (.str "refused item") H')\/∃o,gL M.rs.length d o/\(gs M.rs (dD (cm S) o)=false->∀H',aA H H'->Q (.str (kT S.ds.length)) H')/\(gs M.rs (dD (cm S) o)=true->S.ds.length=20->∀H',aA H H'->Q (.str "refused full") H')/\(gs M.rs (dD (cm S) o)=true->S.ds.length<20->∀H',cN K C H' r q M (lq S d o)->cV [r,q] H H'->Q (.str (numS (S.ds.length+1:Nat))) H')
inductive a4O(K:aa)(C:Addr)(D:Addr)(vs:List V)(H:Hp)(Q:VK):Prop |mk (a:_)(r:_)(q:_)(M:_)(D':_)(S:_)(z:_)(d:_)(h0:vs=[.ref a,.str z])(h1:vp K D H a r M)(h2:cN K C H r q M S)(h3:dh M D' S)(h4:M.Ok)(h5:(mF M.rs.length d/\z=cY d\/∃ns sp,z=toS ns sp/\fC M.rs ns/\1<=sp/\sp<=20/\d=du (dJ ns (cm S)) sp))(h6:a4n K C r q M S d H Q)
def He(K:aa)(C D:Addr):Sp:=λvs H Q _=>a4O K C D vs H Q
theorem a1t:∀m:Nat,m<2->[false,false,true,false,false,false,false,false,false,false,false][m]? =some false:=by decide
theorem a1s:∀m:Nat,m<3->[false,false,false,true,false,false,false,false,false,false,false][m]? =some false:=by decide
theorem a1r:∀m:Nat,m<4->[false,false,false,false,true,false,false,false,false,false,false][m]? =some false:=by decide
abbrev Ag:Stmt:=top 114
theorem HW:bh ["_law_desk","_law_text","_law_e"] ["_law_desk","_law_text"] (aP Ag):=bo aJ
theorem Uz{C D:Addr}{X:CC}{i:Addr}(F:FA K mg "_law_told" Ag)(B:bw mg)(DC:mI K D)(EX:Fh K mg X)(RX:zh K mg (refOf X i))(a0K:mC P w K mg au D "say" 7 (Hh K C D (refOf X i)))(a0q:zm P w K mg au "_law_class" 1 (HD K X)):aE P w K mg au "_law_told" 8 (He K C D):=by
 refine F.Zy HW (λvs H Q E h=>?_) (λ_ _ _ _ _ _=>da λ_ _=>rfl) (λf aG A outer s H vs Q E hr h=>?_)
 ·obtain⟨a,r,q,M,D',S,z,d,rfl,_⟩:=h
  rfl
 ·obtain⟨a,r,q,M,D',S,z,d,rfl,dk,Ra,ok,aO,hz,k⟩:=h
  have nd:=HW.nd;have hy:=EX.g;have E3:=EX.n.h3;have E1:(gz).contains (.type "BaseException")=true:=by decide
  have Ee:∀C',(C'=X.c2\/C'=X.c3\/C'=X.c4)->ClsAt K C'/\takes K C' X.g:=λC' e=>by
   rcases e with rfl|rfl|rfl
   ·exact⟨RX.n.cls,EX.k2.tk⟩
   ·exact⟨RX.o.e.cls,EX.k3.tk⟩
   ·exact⟨RX.f.cls,EX.k4.tk⟩
  refine⟨_,(vh.one (Th (i:=2) Z Z nd Z Z Z (λE xe hp=>(aI (aR (xk a0K hp DC.cl (hr.mono az) (pv 0) (ao (pv 1) ay))))) Z hy E1 Ee (λex=>(aI (aR (aL iJ (TZ a0q ((hr.mark _).mono az) Z (ao (pv 2) ay)) (jc (cD (cw (x:="isinstance") (jg K Z) Z (B.at "isinstance") jw (ao (pv 2) (ao (cK (x:="OffRails") rfl E3) ay)))) (aL iJ bu (cE (x:="str") fL rfl (B.at "str") fj (ao (TM K rfl (pv 2)) ay))) bu))))))),?_⟩;obtain⟨Nb,mv,ea,rm⟩:=id dk;refine⟨λcls dx H'=>aA H H'/\((cls= .ref X.c2/\∀nT,aA H nT->Q (.str "refused item") nT)\/(cls= .ref X.c3/\(∃d',dx=some d'/\H' d'=some (.xd [("at",.int (S.ds.length:Int))]))/\∀nT,aA H nT->Q (.str (kT S.ds.length)) nT)\/(cls= .ref X.c4/\∀nT,aA H nT->Q (.str "refused full") nT)),?_,λcls dx H' h=>?_,?_⟩
  ·refine⟨_,Z,a,Nb,_,Z,ea,Z,_,Z,a,r,q,M,D',S,z,d,Z,dk,Ra,ok,aO,hz,?_⟩
   rcases k with⟨h1,h2⟩|⟨o,h1,h2,h3,h4⟩
   ·exact .inl ⟨h1,λH' s'=>⟨s',.inl ⟨Z,h2⟩⟩⟩
   ·exact .inr ⟨o,h1,λa1 H' dx s' e'=>⟨s',.inr (.inl ⟨Z,⟨dx,Z,e'⟩,h2 a1⟩)⟩,λa1 a2 H' s'=>⟨s',.inr (.inr ⟨Z,h3 a1 a2⟩)⟩,h4⟩
  ·rcases h.2 with⟨e,_⟩|⟨e,_⟩|⟨e,_⟩
   ·exact⟨_,e,.inl Z⟩
   ·exact⟨_,e,.inr (.inl Z)⟩
   ·exact⟨_,e,.inr (.inr Z)⟩
  ·rintro C' ex dx σ' H' hl ⟨sm,hE⟩ hex
   have YK:σ'.length=3:=hl
   match σ',YK with
   |[u1,u2,u3],_=>
    have e1:(L2.upd H' ex (.ext (ju ex (.ref C') dx))) ex=some (.ext (ju ex (.ref C') dx)):=bV;have sn:=sm.trans (aA.new (o:=.ext (ju ex (.ref C') dx)) hex);rcases hE with⟨eC,kk⟩|⟨eC,⟨d',ed,pj⟩,kk⟩|⟨eC,kk⟩
    ·cases eC
     refine⟨_,Z,ex,X.c2,dx,_,_,_,_,_,_,_,_,_,_,_,2,"item",Z,e1,EX.k2,az,Z,a1t,Z,λH2 s2=>?_⟩;refine⟨_,Z,.inl ⟨ex,X.c2,dx,.ref X.c3,.ref X.c3,false,Z,s2 _ _ e1,EX.k2.k,Z,EX.k2.i3,_,Z,bc ?_⟩⟩;refine⟨_,_,Z,Z,aJ,?_⟩;have:=kk H2 (sn.trans s2);rw[show(Str.ofString "refused item")=Str.ofString "refused "++Str.ofString "item"++Str.ofString "" by decide+kernel]at this;exact this
    ·cases eC
     refine⟨_,Z,ex,X.c3,dx,_,_,_,_,_,_,_,_,_,_,_,3,"off",Z,e1,EX.k3,az,Z,a1s,Z,λH2 s2=>?_⟩;have a7q:=ok.len;have nm:Nm (S.ds.length:Int):=by show Int.natAbs _<10^40;lia
     have ln:=fq nm;have jo:sizeLine=16777216:=by decide
     have l1:Str.length " "=1:=eS;refine⟨_,Z,.inl ⟨ex,X.c3,dx,.ref X.c3,.ref X.c3,true,Z,s2 _ _ e1,EX.k3.k,Z,EX.k3.i3,_,Z,bF ?_⟩⟩;subst ed;have Wl:d'≠ex:=λz=>by rw[z,hex]at pj;cases pj
     refine⟨_,Z,ex,X.c3,d',_,(S.ds.length:Int),Z,s2 _ _ e1,s2 _ _ (by rw[bj Wl];exact pj),EX.k3.k,EX.at3,Z,?_⟩;refine .inl ⟨_,Z,iQ nm,_,_,Z,Z,?_,_,_,Z,Z,?_,?_⟩
     ·show Str.length " "+(numS (S.ds.length:Int)).length<=_
      lia
     ·have e0:Str.length "refused "=8:=by decide+kernel
      have e1':Str.length "off"=3:=by decide+kernel
      simp only[dZ];change Str.length "refused "+Str.length "off"+(Str.length " "+(numS (S.ds.length:Int)).length)<=_;rw[e0,e1',l1];lia
     ·have:=kk H2 (sn.trans s2)
      unfold kT at this;rw[show(Str.ofString "refused off")=Str.ofString "refused "++Str.ofString "off" by decide+kernel]at this;exact this
    ·cases eC
     refine⟨_,Z,ex,X.c4,dx,_,_,_,_,_,_,_,_,_,_,_,4,"full",Z,e1,EX.k4,az,Z,a1r,Z,λH2 s2=>?_⟩;refine⟨_,Z,.inl ⟨ex,X.c4,dx,.ref X.c3,.ref X.c3,false,Z,s2 _ _ e1,EX.k4.k,Z,EX.k4.i3,_,Z,bc ?_⟩⟩;refine⟨_,_,Z,Z,aJ,?_⟩;have:=kk H2 (sn.trans s2);rw[show(Str.ofString "refused full")=Str.ofString "refused "++Str.ofString "full"++Str.ofString "" by decide+kernel]at this;exact this
end
open Tm (numS numIn? Free)
section
variable {P:af}{w:World}{K:aa}{mg:bf}{au:Heap}
abbrev B3:Stmt:=top 121
theorem IM:bh ["_law_place_here","_law_item_here"] ["_law_place_here","_law_item_here"] (aP B3):=bo aJ
theorem Vl(F:FA K mg "_law_leads" B3)(B:bw mg):aE P w K mg au "_law_leads" 1 (ou K):=by
 refine F.has IM (λvs H Q E h=>?_) (λ_ _ _ _ _ _=>da λ_ _=>rfl) (λf aG A outer s H vs Q E hr h=>?_)
 ·obtain⟨pw,iv,pl,d,o,rfl,_⟩:=h
  rfl
 ·obtain⟨pw,iv,pl,d,o,rfl,rp,ri,it,hl,hz,k⟩:=h
  have nd:=IM.nd;refine⟨_,(aF (bB (bK (lV K Z hr.units) (px K (pv 1) aB) bu (bE _)) (aI (aR (pv 0))) bC) (aI (aR (cE (x:="tuple") (j7 K Z) Z (B.at "tuple") gD (ao (dA (N:=["_law_at","_law_step"]) (js:=[none,none]) rfl rfl rfl (kP K rfl false false rfl (B.at "zip") (ao (pv 0) (ao (px K (pv 1) aB) ay))) (λ_ _ _ _ _=>(dS K rfl (n:=2) rfl (bM (ba 0 (gb az)) (bM (ba 1 (gb az)) dR)))) (λ_ _ _ _ _=>cX) (λ_ _ _ _ _=>(aL dr (pv 0) (pv 1)))) ay))))),?_⟩;obtain⟨a1,w1,y1,rfl,h1,ED,zR⟩:=qV ri it;refine⟨_,Z,.inr ⟨a1,_,0,.str w1,Z,Z,h1,cM (fF 0) Z,.inr ⟨_,_,bP _,bP _,zR,ng,_,Z,?_⟩⟩⟩;rw[ED];cases o with |none=>refine bF ?_;exact⟨_,Z,k pw H rp (aA.refl _)⟩ |some q=>
   obtain⟨ns,sp⟩:=q;refine bc ?_;have ed:=jf it;subst ed;have lns:=hl ns sp rfl;obtain⟨pa,px,rfl,hp,DE⟩:=rp.cj;rw[DE.eK]at hp;obtain⟨a,b,e1,ha,hb⟩:=kW ri;cases e1;refine⟨_,Z,_,Z,.inr ⟨a1,_,1,.ref b,Z,Z,ha,Z,pa,b,Z,⟨_,hp⟩,⟨_,hb⟩,λD2 H6 n6=>?_⟩⟩;refine pJ (K:=K) (b1:=false) (b2:=false) (xs:=pl.map V.int) (ys:=ns.map V.int) (ds:=(iW pl ns).map PyData.int) _ Z hp hb n6 (by simp[iW]) (by simp[iW];lia) (jZ _) ?_ ?_
   ·intro i x y d H7 Q' ex ey ed s7 hq
    obtain⟨u,v,e1,e2,rfl,rfl⟩:=zip2 aw ex ey;obtain⟨m,em,rfl⟩:=ke ed;unfold iW at em;rw[List.getElem?_zipWith,e1,e2]at em;cases em;exact⟨_,Z,_,Z,_,_,Z,Z,hq _ _ (aA.refl _) (ek _)⟩
   intro H7 zs s7 d7 r7;rw[r7.eK]at d7;exact⟨D2,_,Z,.inl ⟨aH.of d7,λtt H8 n8=>k _ _ (eX (aQ.of n8.at') (mU _)) (s7.trans n8.same)⟩⟩
theorem to_eq{ns:List Int}{sp:Int}(h:ns≠[]):toS ns sp=("to ":Str)++Txt.join " " (ns.map numS)++" "++numS sp:=by
 have hn:ns.map numS≠[]:=by simpa using h
 unfold toS;rw[uk _ _ _ (by simp),join_snoc _ _ _ hn];have e:("to ":Str)="to"++" ":=by decide+kernel
 rw[e];simp only[FG]
def Kt(ns:List Int):Bool:=ns.any (· !=0)
def Of(K:aa)(M:bX)(here:List Int)(H:Hp)(z:Str)(iv:V):Prop:=(∃d o,gL M.rs.length d o/\z=cY d/\RD K H iv d)\/∃ns sp,z=toS ns sp/\fC M.rs ns/\1<=sp/\sp<=20/\((Kt (dJ ns here)=true/\RD K H iv (du (dJ ns here) sp))\/(Kt (dJ ns here)=false/\iv= .aZ))
inductive a4W(K:aa)(vs:List V)(H:Hp)(Q:VK):Prop |mk (p:_)(m:_)(hv:_)(M:_)(here:_)(h0:vs=[.ref p,m,hv])(h1:fN H p)(h2:RD K H m (bX.D M))(h3:M.Ok)(h4:RD K H hv (cI here))(h5:fC M.rs here)(h6:∀t z iv H',aQ K H' t [.str z,iv]->Of K M here H' z iv->bG p H H'->Q (.ref t) H')
def Hj(K:aa):Sp:=λvs H Q _=>a4W K vs H Q
abbrev Ao:Stmt:=top 122
theorem Ig:bh ["_law_bag_here","_law_machine_here","_law_here","_law_how","_law_same","_law_item_here","_law_there","_law_speed","_law_text","_law_steps"] ["_law_bag_here","_law_machine_here","_law_here"] (aP Ao):=bo aJ
theorem UO(F:FA K mg "_law_row" Ao)(B:bw mg)(eE:aE P w K mg au "_law_take" 1 mR)(a0m:aE P w K mg au "_law_item" 3 (Hw K))(Ec:aE P w K mg au "_law_item_text" 1 (t9 K))(Ea:aE P w K mg au "_law_place" 2 (A0 K)):aE P w K mg au "_law_row" 4 (Hj K):=by
 refine F.has Ig (λvs H Q E h=>?_) (λ_ _ _ _ _ _=>lA λ_ _ _=>rfl) (λf aG A outer s H vs Q E hr h=>?_)
 ·obtain⟨p,m,hv,M,here,rfl,_⟩:=h
  rfl
 ·obtain⟨p,m,hv,M,here,rfl,bg,rm,aO,rh,iK,k⟩:=h
  have nd:=Ig.nd;have lr:=aO.len;refine⟨_,(aF (pS 3 nd (pf eE hr (ao (pv 0) (ao aB ay)))) (aF (pS 4 nd (jy (dC K Z hr.units) (pf eE hr (ao (pv 0) (ao aB ay))) aB (bE _))) (aF (pS 5 nd (pf a0m hr (ao (pv 0) (ao (eB K B (ao (px K (pv 1) aB) ay)) ay)))) (aF (bB (bK (dC K Z hr.units) (pv 3) aB (bE _)) (aI (aR (eA (ao (pf Ec hr (ao (pv 5) ay)) (ao (pv 5) ay))))) bC) (aF (jT (pS 6 nd (jc (cD (pv 4)) (pv 2) (pf Ea hr (ao (pv 0) (ao (pv 1) ay)))))) (aF (pS 7 nd (aL dr aB (pf eE hr (ao (pv 0) (ao aB ay))))) (aF (pS 8 nd (aL iJ (aL iJ (aL iJ bu (lN K Z bu (ao (dA (N:=["_law_at"]) (js:=[none]) Z Z Z (jb K Z (pv 6)) (λ_ _ _ _ _=>(ba 0 (gu _))) (λ_ _ _ _ _=>cX) (λ_ _ _ _ _=>(cE (x:="str") fL Z (B.at "str") fj (ao (pv 0) ay)))) ay))) bu) (cE (x:="str") fL rfl (B.at "str") fj (ao (pv 7) ay)))) (aF (pS 9 nd (cE (x:="tuple") (j7 K Z) Z (B.at "tuple") gD (ao (dA (N:=["_law_one","_law_other"]) (js:=[none,none]) rfl rfl rfl (kP K rfl false false rfl (B.at "zip") (ao (pv 6) (ao (pv 2) ay))) (λ_ _ _ _ _=>(dS K rfl (n:=2) rfl (bM (ba 0 (gb az)) (bM (ba 1 (gb az)) dR)))) (λ_ _ _ _ _=>cX) (λ_ _ _ _ _=>(aL jW (pv 0) (pv 1)))) ay))) (aI (aR (eA (ao (pv 8) (ao (jc (cD (cw (x:="any") (O7 K Z Z) Z (B.at "any") P0 (ao (pv 9) ay))) (eA (ao bu (ao (pv 9) (ao (pv 7) ay)))) g9) ay))))))))))))),?_⟩;refine⟨_,Z,p,3,Z,bg,az,az,λhow H1 a7j a7i b1=>?_⟩;refine⟨_,Z,p,8,Z,b1.bI,az,az,λsm H2 sm0 sm1 b2=>?_⟩;refine .inl ⟨_,_,Z,Z,?_⟩;have t2:=((bG.t bg (b1.trans b2)).v);obtain⟨ma,mb,rfl,gf,iR⟩:=lY (RD.v t2 _ (iP _ _ _ _ _) rm);refine⟨_,Z,_,Z,.inr ⟨ma,_,0,.ref mb,Z,Z,gf,cM (fF 0) Z,mb,_,Z,.inr iR,?_⟩⟩;rw[bD];refine⟨p,M.rs.length,Z,b2.bI,aw,aw,λiv d o H3 ri it b3=>?_⟩;refine⟨_,Z,.inl ⟨_,_,Z,Z,_,Z,?_⟩⟩;have tx:=it.tx aw aw;refine eJ (λ_=>?_) (λ_=>?_)
  ·refine⟨_,Z,iv,d,Z,ri,tx.ti,λH4 s4=>?_⟩
   refine⟨_,Z,bW Z,λt H5 n5=>?_⟩;have b5:bG p H3 H5:=.eU b3.bI (s4.trans n5.same);exact k t _ iv H5 (aQ.of n5.at') (.inl ⟨d,o,it,Z,RD.mono (s4.trans n5.same) _ ri⟩) (b1.trans (b2.trans (b3.trans b5)))
  have F8:=b1.trans (b2.trans b3);have v3:=(bG.t bg F8).v;have Ss:=RD.v v3 _ (iP _ _ _ _ _) rm;have tM:=RD.v v3 _ (hU _) rh;refine⟨λO H4=>bG p H H4/\∃tv ns,RD K H4 tv (cI ns)/\fC M.rs ns/\O=[some (.ref p),some (.ref ma),some hv,some (.int how),some (.bl (decide (sm=0))),some iv,some tv,none,none,none],?_,?_⟩
  ·refine⟨_,Z,_,Z,?_⟩
   refine eJ (λ_=>?_) (λ_=>?_)
   ·exact⟨_,Z,F8,hv,here,tM,iK,Z⟩
   ·exact⟨_,Z,_,Z,p,_,M.rs,M.r,M.f,M.j,M.t,Z,b3.bI,Ss,aO,λv pl H4 rv Uq b4=>⟨F8.trans b4,v,pl,rv,Uq,Z⟩⟩
  rintro O H4 ⟨b4,tv,ns,rt,lQ,rfl⟩;refine⟨_,Z,p,20,Z,b4.bI,az,az,λsp H5 HF a6N b5=>⟨_,_,Z,Z,?_⟩⟩;have v5:=(bG.t b4.bI b5).v;have Se:=RD.v v5 _ (hU _) rt;obtain⟨ta,txs,rfl,ur,Yf⟩:=Se.cj;rw[Yf.eK]at ur;have ln:=lQ.len;have nb:=qH lQ aO.rl;have nm:∀n∈ns,Nm n:=λn hn=>by have:=nb n hn;show n.natAbs<10^40;lia
  have HI:Nm (1+sp):=by show(1+sp).natAbs<10^40;lia
  refine⟨Z,?_⟩;have Wf:ns≠[]:=λe=>by rw[e]at ln;simp at ln;lia
  have jo:sizeLine=16777216:=by decide
  have jl:=xN " " (B:=41) (ns.map numS) (λz hz=>by obtain⟨n,hn,rfl⟩:=cB.mp hz;exact fq (nm n hn));rw[eS,bD]at jl;have XE:ns.length*(41+1)<=3*42:=P2 _ aw;have sl:=fq HI;have t3:Str.length "to "=3:=by decide+kernel
  refine⟨_,Z,ta,Z,⟨_,ur⟩,λD H6 n6=>?_⟩;refine nL (K:=K) (ds:=(ns.map numS).map PyData.str) _ ur n6 (by simp) (by simp;lia) (mZ _) ?_ ?_
  ·intro i x d H7 Q' ex ed s7 hq
   rw[bJ]at ex;obtain⟨n,en,rfl⟩:=vK.mp ex;rw[bJ,bJ,en]at ed;cases ed;have hn:=nm n (fP en);exact⟨_,Z,.inl ⟨n,Z,iQ hn,hq _ _ (aA.refl _) (bP _)⟩⟩
  intro H7 ws s7 d7 r7;rw[jP r7]at d7;refine⟨" ",D,ns.map numS,Z,Z,aH.of d7,λz hz=>?_,aJ,by rw[bD];lia,?_⟩
  ·obtain⟨n,hn,rfl⟩:=cB.mp hz
   have:=fq (nm n hn)
   lia
  refine⟨_,_,Z,Z,by rw[t3];lia,_,_,Z,Z,by simp only[dZ];rw[t3,eS];lia,?_⟩;refine⟨_,Z,.inl ⟨_,Z,iQ HI,_,_,Z,Z,?_,?_⟩⟩
  ·simp only[dZ]
   rw[t3,eS];change _+(numS (1+sp)).length<=_
   lia
  have ez:("to ":Str)++Txt.join " " (ns.map numS)++" "++numS (1+sp)=toS ns (1+sp):=(to_eq Wf).symm;have N3:bG p H5 H7:=.eU b5.bI s7;have NZ:=b4.trans (b5.trans N3);have v7:=(bG.t bg NZ).v;have Sw:=RD.v v7 _ (hU _) rh;obtain⟨ha,gG,rfl,DT,Z8⟩:=Sw.cj;rw[Z8.eK]at DT;have lh:=iK.len;refine⟨_,Z,_,Z,ta,ha,Z,⟨_,ur.go s7⟩,⟨_,DT⟩,λD2 H8 n8=>?_⟩;refine pJ (K:=K) (b1:=false) (b2:=false) (xs:=ns.map V.int) (ys:=here.map V.int) (ds:=(dJ ns here).map PyData.int) _ Z (ur.go s7) DT n8 (by simp[dJ]) (by simp[dJ];lia) (jZ _) ?_ ?_
  ·intro i x y d H9 Q' ex ey ed s9 hq
   obtain⟨u,v,e1,e2,rfl,rfl⟩:=zip2 aw ex ey;obtain⟨m,em,rfl⟩:=ke ed;unfold dJ at em;rw[bJ,(nZ (z:=(u,v))).mpr ⟨e1,e2⟩]at em;cases em;exact⟨_,Z,_,Z,_,_,Z,Z,hq _ _ (aA.refl _) (ek _)⟩
  intro H9 zs s9 d9 r9;rw[r9.eK]at d9;refine⟨D2,_,Z,.inl ⟨aH.of d9,λtt fD iM=>?_⟩⟩;have F1:bG p H7 fD:=.eU N3.bI (s9.trans iM.same);have O0:=NZ.trans F1;refine⟨_,Z,_,Z,tt,dJ ns here,Z,.inr (aQ.of iM.at'),_,Z,?_⟩;cases hz:(dJ ns here).any (· !=0)with |true=>refine bF ?_;refine⟨_,Z,_,Z,bW Z,λt2 gm CU=>?_⟩;refine⟨bW Z,λzQ su qO=>?_⟩;have S7:=CU.same.trans qO.same;refine k zQ _ (.ref t2) su (aQ.of qO.at') (.inr ⟨ns,1+sp,ez,lQ,aw,aw,.inl ⟨hz,?_⟩⟩) (O0.trans (.eU F1.bI S7));exact RD.mono qO.same _ (eX (aQ.of CU.at') (ck (bP _) (ck (eX (aQ.of (CU.same _ _ iM.at')) (mU _)) (ck (ek _) df)))) |false=>refine bc ?_;refine⟨bW Z,λzQ su qO=>?_⟩;exact k zQ _ .aZ su (aQ.of qO.at') (.inr ⟨ns,1+sp,ez,lQ,aw,aw,.inr ⟨hz,Z⟩⟩) (O0.trans (.eU F1.bI qO.same))
def mw(M:bX)(here:List Int)(n:Nat)(o:Itm):Str:=if gs M.rs (dD here o)=true then(if n=20 then "refused full" else numS (n+1:Nat))else kT n
theorem VV(n:Nat):("refused off ":Str)++numS (n:Int)=kT n:=by
 unfold kT;have e:("refused off ":Str)="refused off"++" ":=by decide+kernel
 rw[e,FG]
def EJ(M:bX)(here:List Int)(n:Nat):Option Itm->Str |none=>"refused item" |some o=>mw M here n o
inductive a5B(K:aa)(vs:List V)(H:Hp)(Q:VK):Prop |mk (m:_)(hv:_)(wl:_)(iv:_)(M:_)(here:_)(ys:_)(x:_)(h0:vs=[m,hv,.ref wl,iv])(h1:RD K H m (bX.D M))(h2:M.Ok)(h3:RD K H hv (cI here))(h4:here.length=M.rs.length)(h5:aH K H wl ys)(h6:ys.length<=20)(h7:((x=none/\iv= .aZ)\/∃d o,x=some o/\RD K H iv d/\gL M.rs.length d o))(h8:∀H',aA H H'->Q (.str (EJ M here ys.length x)) H')
def HB(K:aa):Sp:=λvs H Q _=>a5B K vs H Q
abbrev Bo:Stmt:=top 123
theorem Jc:bh ["_law_machine_here","_law_here","_law_waits","_law_item_here"] ["_law_machine_here","_law_here","_law_waits","_law_item_here"] (aP Bo):=bo aJ
theorem VC(F:FA K mg "_law_due" Bo)(B:bw mg)(Eb:aE P w K mg au "_law_leads" 1 (ou K)):aE P w K mg au "_law_due" 2 (HB K):=by
 refine F.has Jc (λvs H Q E h=>?_) (λ_ _ _ _ _ _=>O9 λ_ _ _ _=>rfl) (λf aG A outer s H vs Q E hr h=>?_)
 ·obtain⟨m,hv,wl,iv,M,here,ys,x,rfl,_⟩:=h
  rfl
 ·obtain⟨m,hv,wl,iv,M,here,ys,x,rfl,rm,aO,rh,lh,hw,xK,hk,k⟩:=h
  have nd:=Jc.nd;have lr:=aO.len;refine⟨_,(aF (bB (bK xn (pv 3) g9 (bE _)) (aI (aR bu)) bC) (aF (bB (dg (cD (cw (x:="all") (pN K Z Z) Z (B.at "all") sF (ao (dA (N:=["_law_at","_law_rail"]) (js:=[none,none]) rfl rfl rfl (kP K rfl false false rfl (B.at "zip") (ao (pf Eb hr (ao (pv 1) (ao (pv 3) ay))) (ao (px K (pv 0) aB) ay))) (λ_ _ _ _ _=>(dS K rfl (n:=2) rfl (bM (ba 0 (gb az)) (bM (ba 1 (gb az)) dR)))) (λ_ _ _ _ _=>cX) (λ_ _ _ _ _=>(K5 qD qD aB (pv 0) (pv 1)))) ay)))) (aI (aR (aL iJ bu (cE (x:="str") fL Z (B.at "str") fj (ao (eB K B (ao (pv 2) ay)) ay))))) bC) (aF (bB (bK (dC K Z hr.units) (eB K B (ao (pv 2) ay)) aB (bE _)) (aI (aR bu)) bC) (aI (aR (cE (x:="str") fL Z (B.at "str") fj (ao (aL dr (eB K B (ao (pv 2) ay)) aB) ay))))))),?_⟩;rcases hk with⟨rfl,rfl⟩|⟨d,o,rfl,ri,it⟩
  ·refine⟨_,Z,Z,_,Z,?_⟩
   rw[bR rfl];exact bF (k H (aA.refl _))
  have k:∀H',aA H H'->Q (.str (mw M here ys.length o)) H':=k;have nv:iv≠ .aZ:=λe=>by subst e;rcases(it.tx aw aw).ti with⟨ns,sp,rfl,_⟩|⟨w,i,rfl,_⟩|⟨w,z,rfl,_⟩<;>(obtain⟨p,xs,e,_⟩:=ri.cj;cases e)
  refine⟨_,Z,Z,_,Z,?_⟩;rw[dP nv];refine bc ?_;have bl:(dD here o).length=M.rs.length:=yW lh λns sp eo=>(it.ln ns sp eo).1.len;refine⟨_,Z,_,Z,hv,iv,here,d,o,Z,rh,ri,it.it,λns sp e'=>by rw[lh];exact(it.ln ns sp e').1.len,aw,λu H1 ru s1=>?_⟩;obtain⟨ma,mb,rfl,gf,iR⟩:=lY (RD.mono s1 _ rm);obtain⟨ua,fQ,rfl,Dx,Yd⟩:=ru.cj;rw[Yd.eK]at Dx;refine⟨_,Z,.inr ⟨ma,_,0,.ref mb,Z,Z,gf,cM (fF 0) Z,ua,mb,Z,⟨_,Dx⟩,⟨_,iR⟩,λD H2 n2=>?_⟩⟩;refine NB (b1:=false) (b2:=false) (xs:=(dD here o).map V.int) (ys:=M.rs.map V.int) (bs:=((dD here o).zip M.rs).map λp=>decide (0<=p.1)&&decide (p.1<=p.2)) [] rfl Dx iR n2 (by simp) (by simp;lia) ?_ ?_
  ·intro i x y b H3 Q' ex ey eb s3 hq
   obtain⟨u,v,e1,e2,rfl,rfl⟩:=zip2 aw ex ey;rw[bJ,(nZ (z:=(u,v))).mpr ⟨e1,e2⟩]at eb;cases eb;refine⟨_,Z,_,_,Z,Z,_,Z,?_⟩;refine eJ (λhc=>?_) (λhc=>?_)
   ·have gy:decide (0<=u)=true:=hc
    refine⟨_,Z,_,_,Z,Z,?_⟩;have:=hq H3 (aA.refl _);dsimp only at this;rw[gy,fX]at this;exact this
   ·have gy:decide (0<=u)=false:=vW.mpr hc
    have:=hq H3 (aA.refl _);dsimp only at this;rw[gy,fY]at this;exact this
  intro H3 s3 d3;have jx:=s1.trans s3;have k3:=k H3 jx;unfold mw at k3;have Dw:=hw.go jx;have jo:sizeLine=16777216:=by decide
  refine⟨D,_,Z,aH.of d3,_,Z,?_⟩;rw[G2];show if(!gs M.rs (dD here o))=true then _ else _;have nm:Nm (ys.length:Int):=by show Int.natAbs _<10^40;lia
  cases ho:gs M.rs (dD here o)with
  |false=>
   rw[ho,aV az]at k3;refine bF ?_;have sl:=fq nm;have e12:Str.length "refused off "=12:=by decide+kernel
   refine⟨_,Z,wl,ys,Z,.inl Dw,.inl ⟨_,Z,iQ nm,_,_,Z,Z,?_,?_⟩⟩
   ·change _+(numS (ys.length:Int)).length<=_
    rw[e12];lia
   ·rw[<-VV]at k3
    exact k3 |true=>
   rw[ho,aU rfl]at k3;refine bc ?_;refine⟨_,Z,wl,ys,Z,.inl Dw,.inl ⟨_,_,Z,Z,_,Z,?_⟩⟩;by_cases nB:ys.length=20
   ·rw[aU nB]at k3
    rw[bR aw];exact bF k3
   ·rw[aV nB]at k3
    rw[dP aw];refine bc ?_;exact⟨_,Z,wl,ys,Z,.inl Dw,_,_,Z,Z,.inl ⟨_,Z,xw xK,k3⟩⟩
end
open Tm (numS numIn? Free)
section
variable {P:af}{w:World}{K:aa}{mg:bf}{au:Heap}
structure FD(K:aa)(C D:Addr)(M:bX)(p a r:Addr)(m:V)(H:Hp)(q:Addr)(S:cf):Prop where
 bg:fN H p
 dk:vp K D H a r M
 ra:cN K C H r q M S
 ms:RD K H m M.D
 pq:p≠q
theorem yY{H:Hp}{p:Addr}(h:fN H p):∃xs,H p=some (.lst xs):=by obtain⟨c,m,e,_⟩:=h;exact⟨_,e⟩
section
variable {C D:Addr}{M:bX}{p a r q:Addr}{m:V}{H H':Hp}{S:cf}
theorem FD.kinds(h:FD K C D M p a r m H q S):p≠a/\p≠r/\a≠r/\a≠q/\r≠q:=by obtain⟨xs,ep⟩:=yY h.bg;obtain⟨dx,mv,ea,_⟩:=h.dk;obtain⟨rx,CV,bv,cP,tv,er,_⟩:=h.ra.ob;obtain⟨ys,eq,_⟩:=h.ra.qu;refine⟨nc ep ea (by intro z;cases z),nc ep er (by intro z;cases z),nc ea er (by intro z;injection z with _ _ z;cases z),nc ea eq (by intro z;cases z),nc er eq (by intro z;cases z)⟩
theorem FD.move{S':cf}(h:FD K C D M p a r m H q S)(v:eG H H')(bg:fN H' p)(ea:∀o,H a=some o->H' a=some o)(ra:cN K C H' r q M S'):FD K C D M p a r m H' q S':=by obtain⟨dx,mv,e,rm⟩:=h.dk;exact⟨bg,⟨dx,mv,ea _ e,RD.v v _ (iP _ _ _ _ _) rm⟩,ra,RD.v v _ (iP _ _ _ _ _) h.ms,h.pq⟩
theorem FD.same(h:FD K C D M p a r m H q S)(no:cF S.ds=true)(s:aA H H'):FD K C D M p a r m H' q S:=h.move s.v (bG.eU h.bg s).bI (λo e=>s _ _ e) (h.ra.same no s)
theorem FD.draw(h:FD K C D M p a r m H q S)(no:cF S.ds=true)(b:bG p H H'):FD K C D M p a r m H' q S:=by obtain⟨k1,k2,_⟩:=h.kinds;exact h.move (bG.t h.bg b).v b.bI (λo e=>b.same _ _ k1.symm e) (h.ra.go no (bG.t h.bg b).v (λo e=>b.same _ _ k2.symm e) (λo e=>b.same _ _ h.pq.symm e))
theorem FD.rH{S':cf}(h:FD K C D M p a r m H q S)(ra:cN K C H' r q M S')(b:cV [r,q] H H'):FD K C D M p a r m H' q S':=by
 obtain⟨k1,k2,k3,k4,k5⟩:=h.kinds;have hp:p∉[r,q]:=by
  intro z;rcases bS.mp z with z|z
  ·exact k2 z
  ·exact h.pq (e9.mp z)
 refine h.move (h.ra.v b) ?_ (λo e=>b _ _ e ?_) ra
 ·obtain⟨c,m',e,ok⟩:=h.bg
  exact⟨c,m',b _ _ e hp,ok⟩
 ·intro z
  rcases bS.mp z with z|z
  ·exact k3 z
  ·exact k4 (e9.mp z)
end
end
open Tm (numS numIn? Free)
section
variable {P:af}{w:World}{K:aa}{mg:bf}{au:Heap}
theorem QP{a b:List Int}{z:Int}(h:z∈dJ a b):∃u v,u∈a/\v∈b/\z=u-v:=by obtain⟨⟨u,v⟩,hp,rfl⟩:=cB.mp h;obtain⟨h1,h2⟩:=qe hp;exact⟨u,v,h1,h2,Z⟩
theorem Sn{M:bX}{here:List Int}{H:Hp}{z:Str}{iv:V}(aO:M.Ok)(lS:fC M.rs here)(h:Of K M here H z iv):∃d x,(mF M.rs.length d/\z=cY d\/∃ns sp,z=toS ns sp/\fC M.rs ns/\1<=sp/\sp<=20/\d=du (dJ ns here) sp)/\((x=none/\iv= .aZ/\hW M.rs.length d=false)\/∃o,x=some o/\RD K H iv d/\gL M.rs.length d o):=by
 have lr:=aO.len;rcases h with⟨d,o,it,rfl,ri⟩|⟨ns,sp,rfl,lQ,s1,s2,h⟩
 ·exact⟨d,some o,.inl ⟨it.tx aw aw,Z⟩,.inr ⟨o,Z,ri,it⟩⟩
 ·rcases h with⟨nz,ri⟩|⟨nz,rfl⟩
  ·refine⟨_,some (some (dJ ns here,sp)),.inr ⟨ns,sp,Z,lQ,s1,s2,Z⟩,.inr ⟨_,Z,ri,⟨.inl ⟨_,_,Z,Z⟩,λW7 Rg e=>?_,λe=>nomatch e⟩⟩⟩
   cases e;refine⟨⟨?_,λz hz=>?_,?_⟩,s1,s2⟩
   ·have h1:=lQ.len
    have h2:=lS.len;unfold dJ;rw[bD,List.length_zip];lia
   ·obtain⟨u,v,hu,hv,rfl⟩:=QP hz
    have:=qH lQ aO.rl u hu;have:=qH lS aO.rl v hv
    lia
   ·obtain⟨z,hz,h0⟩:=Pe.mp nz
    exact⟨z,hz,by simpa using h0⟩
  ·refine⟨_,none,.inr ⟨ns,sp,Z,lQ,s1,s2,Z⟩,.inl ⟨Z,Z,?_⟩⟩
   show(fu "line" (.str "line")&&(lT M.rs.length (.tuple ((dJ ns here).map PyData.int))&&cu 1 20 (.int sp)))=false;have e:lT M.rs.length (.tuple ((dJ ns here).map PyData.int))=false:=by
    show((((dJ ns here).map PyData.int).length==M.rs.length&&((dJ ns here).map PyData.int).all (cu (-100) 100))&&((dJ ns here).map PyData.int).any oU)=false;have:((dJ ns here).map PyData.int).any oU=false:=by rw[List.any_map];exact nz
    rw[this,vX]
   rw[e,fY,vX]
theorem W3{z:Str}(h:z.cps.toList.head? =some 114)(n:Nat):z≠numS (n:Int):=λe=>by
 rw[e,show(numS (n:Int)).cps.toList=_ from Tm.uZ n]at h;have hm:=List.mem_of_mem_head? h;have:=Tm.lu n 114 hm
 lia
theorem Kq(n:Nat):(kT n).cps.toList.head? =some 114:=by
 unfold kT;rw[sD,sM];have e:(Str.ofString "refused off").cps.toList=[114,101,102,117,115,101,100,32,111,102,102]:=by decide+kernel
 rw[e];rfl
theorem a33{M:bX}{here:List Int}{n:Nat}{x:Option Itm}(h:∀o,x=some o->gs M.rs (dD here o)=true->n=20):(EJ M here n x).cps.toList.head? =some 114:=by cases x with |none=>show(Str.ofString "refused item").cps.toList.head? =some 114;decide+kernel |some o=>
 show(mw M here n o).cps.toList.head? =some 114;unfold mw;split
 ·next ho=>rw[aU (h o Z ho)];decide+kernel
 ·exact Kq n
theorem U9{ta tb:TT}{O:L2.St}{H:Hp}{Q:Bool->Hp->Prop}(h1:∀Q':Bool->Hp->Prop,(∀c,Q' c H)->ta O H Q')(h2:∀Q':Bool->Hp->Prop,(∀c,Q' c H)->tb O H Q')(k:∀c,Q c H):Gz ta tb O H Q:=h1 _ λc=>by cases c with |true=>exact k true |false=>exact h2 _ k
theorem M6(S:cf)(d:ah)(o:Itm):cm (lq S d o)=dD (cm S) o:=by show(S.os++[o]).foldl dD S.pl=_;rw[List.foldl_append];rfl
def dy(S:cf)(ds:List ah)(os:List Itm):cf:={S with ds:=ds,os:=os}
inductive a5z(K:aa)(C:Addr)(D:Addr)(vs:List V)(H:Hp)(Q:VK):Prop |mk (p:_)(a:_)(m:_)(hv:_)(n:_)(r:_)(q:_)(M:_)(D':_)(S:_)(h0:vs=[.ref p,.ref a,m,hv,.int n])(h1:FD K C D M p a r m H q S)(h2:dh M D' S)(h3:M.Ok)(h4:RD K H hv (cI (cm S)))(h5:fC M.rs (cm S))(h6:S.ds=[])(h7:S.os=[])(h8:S.rate=100)(h9:0<=n)(h10:n<=40)(h11:∀wl ys ds os H',FD K C D M p a r m H' q (dy S ds os)->dh M D' (dy S ds os)->H' wl=some (.lst ys)->ys.length=ds.length->cV [p,r,q] H H'->Q (.ref wl) H')
def Hz(K:aa)(C D:Addr):Sp:=λvs H Q _=>a5z K C D vs H Q
abbrev Bm:Stmt:=top 124
theorem Ja:bh ["_law_bag_here","_law_desk","_law_machine_here","_law_here","_law_many","_law_waits","_law_k","_law_text","_law_item_here","_law_due_here","_law_squares","_law_shown"] ["_law_bag_here","_law_desk","_law_machine_here","_law_here","_law_many"] (aP Bm):=bo aJ
theorem VA{C D:Addr}(F:FA K mg "_law_all_fed" Bm)(B:bw mg)(DC:mI K D)(a0h:aE P w K mg au "_law_row" 4 (Hj K))(a0p:aE P w K mg au "_law_due" 2 (HB K))(a0g:aE P w K mg au "_law_told" 8 (He K C D))(Eb:aE P w K mg au "_law_leads" 1 (ou K))(a0i:aE P w K mg au "_law_plan" 3 (Ho K))(a0n:aE P w K mg au "_law_fraction_text" 1 (wQ K))(Ec:aE P w K mg au "_law_item_text" 1 (t9 K))(a0G:cU P w K mg au D "say" 11 (ow D "plan" (jS K C Mf)))(Ed:cU P w K mg au D "say" 5 (ow D "waits" (jS K C El))):aE P w K mg au "_law_all_fed" 12 (Hz K C D):=by
 refine F.has Ja (λvs H Q E h=>?_) (λ_ _ _ _ _ _=>al5 λ_ _ _ _ _=>rfl) (λf aG A outer s H vs Q E hr h=>?_)
 ·obtain⟨p,a,m,hv,n,r,q,M,D',S,rfl,_⟩:=h
  rfl
 ·obtain⟨p,a,m,Yc,n,r,q,M,D',S0,rfl,ml,Kp,aO,Sy,Ur,ed0,eo0,er0,n0,n40,k⟩:=h
  have nd:=Ja.nd;have lr:=aO.len;refine⟨_,(aF (pS 5 nd (fJ ay)) (aF (kO jM Z (oK Z (B.at "range") (ao (pv 4) ay)) (ba 6 nd) (aF (eu (pf a0h hr (ao (pv 0) (ao (pv 2) (ao (pv 3) ay)))) (dS K Z (n:=2) Z (bM (ba 7 nd) (bM (ba 8 nd) dR)))) (aF (pS 9 nd (pf a0p hr (ao (pv 2) (ao (pv 3) (ao (pv 5) (ao (pv 8) ay)))))) (aF (jT (bB (bK lO (pf a0g hr (ao (pv 1) (ao (pv 7) ay))) (pv 9) (bE _)) (aI (aR g9)) bC)) (aF (jT (bB (bK qF (pv 9) (cE (x:="str") fL Z (B.at "str") fj (ao (aL dr (eB K B (ao (pv 5) ay)) aB) ay)) (bE _)) (aF (Cd (Co K Z (pv 5) (ao (pv 8) ay))) (aI (pS 3 nd (pf Eb hr (ao (pv 3) (ao (pv 8) ay)))))) bC)) (aF (jT (bB (PW.pt (gX (bK (dC K Z hr.units) (aL lP (pv 6) aB) aB (bE _)) (gW (bK (dC K Z hr.units) (pv 6) (aL jW (pv 4) aB) (bE _))))) (aF (Cc (i0:=10) nd Z (Or.inl Z) (N:=["_law_one"]) (js:=[none]) Z Z Z (oM K Z (pf a0i hr (ao (pv 2) (ao (pv 5) ay)))) (λ_ _ _ _ _=>(ba 0 (gu _))) (λ_ _ _ _ _=>cX) (λ_ _ _ _ _=>(pf a0n hr (ao (pv 0) ay)))) (aI (bB (bK lO (qy a0G DC.cl (hr.mono az) (pv 1) (ao bu ay)) (lN K Z bu (ao (pv 10) ay)) (bE _)) (aI (aR g9)) bC))) bC)) (aF (pS 11 nd (lN K Z bu (ao (dA (N:=["_law_one"]) (js:=[none]) Z Z Z (oM K Z (pv 5)) (λ_ _ _ _ _=>(ba 0 (gu _))) (λ_ _ _ _ _=>cX) (λ_ _ _ _ _=>(pf Ec hr (ao (pv 0) ay)))) ay))) (aI (bB (bK lO (qy Ed DC.cl (hr.mono az) (pv 1) (ao bu ay)) (jc (bK lO (pv 11) bu (bE _)) (pv 11) bu) (bE _)) (aI (aR g9)) bC))))))))) (aI (aR (pv 5))))),?_⟩;refine⟨bW Z,λwl H1 n1=>?_⟩;have nw:=n1.no;refine⟨_,Z,_,Z,aw,aw,?_⟩;refine yu (Pv:=λi O H2=>∃ds os hv ys v6 v7 v8 v9 v10 v11,O=[some (.ref p),some (.ref a),some m,some hv,some (.int n),some (.ref wl),v6,v7,v8,v9,v10,v11]/\FD K C D M p a r m H2 q (dy S0 ds os)/\dh M D' (dy S0 ds os)/\RD K H2 hv (cI (cm (dy S0 ds os)))/\fC M.rs (cm (dy S0 ds os))/\H2 wl=some (.lst ys)/\aK K H2 ys ds/\(∀d∈ds,TI d)/\cV [p,r,q] H H2) ?_ ?_ ?_
  ·have e0:dy S0 [] []=S0:=by cases S0;cases ed0;cases eo0;rfl
   refine⟨[],[],Yc,[],none,none,none,none,none,none,Z,?_,?_,?_,?_,n1.at',df,(λd hd=>nomatch hd),λb o eb _=>n1.same _ _ eb⟩
   ·rw[e0];exact ml.same Kp.row.no n1.same
   ·rw[e0];exact Kp
   ·rw[e0];exact RD.mono n1.same _ Sy
   ·rw[e0];exact Ur
  ·rintro i O H2 hi ⟨ds,os,hv,ys,v6,v7,v8,v9,v10,v11,rfl,fd,ok,rh,lS,ew,kM,ti,fr⟩
   generalize hS:dy S0 ds os=S at fd ok rh lS;have yG:S.ds=ds:=by rw[<-hS];rfl
   have eos:S.os=os:=by rw[<-hS];rfl
   have no:=ok.row.no;have xK:=ok.len;have ly:=kM.length;rw[yG]at xK no;refine⟨_,Z,_,Z,_,Z,p,m,hv,M,_,Z,fd.bg,fd.ms,aO,rh,lS,λt z iv H3 ht JI b3=>?_⟩;refine⟨t,_,Z,ht,Z,_,_,Z,_,_,Z,Z,?_⟩;have Er:=fd.draw (by rw[yG];exact no) b3;have v3:=(bG.t fd.bg b3).v;have pw:wl≠p:=λe=>by obtain⟨xs,ex⟩:=yY ml.bg;rw[<-e,nw]at ex;cases ex
   have EB:=b3.same _ _ pw ew;have Jy:=aK.v v3 _ no kM;have tM:=RD.v v3 _ (hU _) rh;obtain⟨d,x,LJ,hx⟩:=Sn aO lS JI;have gl:=lS.len;refine⟨_,Z,_,Z,_,Z,_,Z,m,hv,wl,iv,M,_,ys,x,Z,Er.ms,aO,tM,gl,aH.of EB,aw,?_,λH4 s4=>?_⟩
   ·rcases hx with⟨h1,h2,_⟩|⟨o,h1,h2,h3⟩
    ·exact .inl ⟨h1,h2⟩
    ·exact .inr ⟨d,o,h1,h2,h3⟩
   have Kv:cF S.ds=true:=by rw[yG];exact no
   have uT:=Er.same Kv s4;have yt:cV [p,r,q] H H3:=λb o eb hb=>b3.same _ _ (λz=>hb (by rw[z];exact .head _)) (fr _ _ eb hb);have Mp:cV [p,r,q] H H4:=λb o eb hb=>s4 _ _ (yt _ _ eb hb);have MN:=s4 _ _ EB;have Jx:=aK.mono s4 _ Jy;have JF:=RD.mono s4 _ tM;generalize DW:EJ M (cm S) ys.length x=fK;refine⟨λO H5=>O=[some (.ref p),some (.ref a),some m,some hv,some (.int n),some (.ref wl),some (.int (0+(i:Int))),some (.str z),some iv,some (.str fK),v10,v11]/\∃S5,FD K C D M p a r m H5 q S5/\dh M D' S5/\H5 wl=some (.lst ys)/\aK K H5 ys ds/\RD K H5 hv (cI (cm S))/\cV [p,r,q] H H5/\((fK.cps.toList.head? =some 114/\S5=S)\/∃o,S5=lq S d o/\RD K H5 iv d/\gL M.rs.length d o/\fC M.rs (dD (cm S) o)/\fK=numS (ys.length+1:Nat)),?_,?_⟩
   ·have ls:ys.length=S.ds.length:=by rw[yG];exact ly
    have fin:∀{H5:Hp},aA H4 H5->fK.cps.toList.head? =some 114->∃S5,FD K C D M p a r m H5 q S5/\dh M D' S5/\H5 wl=some (.lst ys)/\aK K H5 ys ds/\RD K H5 hv (cI (cm S))/\cV [p,r,q] H H5/\((fK.cps.toList.head? =some 114/\S5=S)\/∃o,S5=lq S d o/\RD K H5 iv d/\gL M.rs.length d o/\fC M.rs (dD (cm S) o)/\fK=numS (ys.length+1:Nat)):=λ{H5} s5 hh=>⟨S,uT.same Kv s5,ok,s5 _ _ MN,aK.mono s5 _ Jx,RD.mono s5 _ JF,λb o eb hb=>s5 _ _ (Mp _ _ eb hb),.inl ⟨hh,Z⟩⟩;refine⟨_,Z,_,Z,a,r,q,M,D',S,z,d,Z,uT.dk,uT.ra,ok,aO,LJ,?_⟩;rcases hx with⟨rfl,h2,h3⟩|⟨o,rfl,h2,h3⟩
    ·have e1:fK="refused item":=DW.symm
     refine .inl ⟨h3,λH5 s5=>?_⟩;refine⟨_,Z,Z,_,Z,?_⟩;rw[show(!decide (V.str (Str.ofString "refused item")=V.str fK))=false by rw[e1,bR rfl];rfl];refine bc ⟨Z,?_⟩;exact fin s5 (by rw[<-DW];exact a33 λo h _=>nomatch h)
    ·have e1:mw M (cm S) ys.length o=fK:=DW
     refine .inr ⟨o,h3,λho H5 s5=>?_,λho nB H5 s5=>?_,λho nB H5 R5 b5=>?_⟩
     ·have e2:fK=kT S.ds.length:=by rw[<-e1,ls];unfold mw;rw[ho,aV az]
      refine⟨_,Z,Z,_,Z,?_⟩;rw[show(!decide (V.str (kT S.ds.length)=V.str fK))=false by rw[e2,bR rfl];rfl];refine bc ⟨Z,?_⟩;exact fin s5 (by rw[e2];exact Kq _)
     ·have e2:fK="refused full":=by rw[<-e1,ls];unfold mw;rw[ho,aU Z,aU nB]
      refine⟨_,Z,Z,_,Z,?_⟩;rw[show(!decide (V.str (Str.ofString "refused full")=V.str fK))=false by rw[e2,bR rfl];rfl];refine bc ⟨Z,?_⟩;exact fin s5 (by rw[e2];decide+kernel)
     ·have e2:fK=numS (S.ds.length+1:Nat):=by rw[<-e1,ls];unfold mw;rw[ho,aU Z,aV aw]
      refine⟨_,Z,Z,_,Z,?_⟩;rw[show(!decide (V.str (numS (S.ds.length+1:Nat))=V.str fK))=false by rw[e2,bR rfl];rfl];have v5:=uT.ra.v b5;obtain⟨k1,k2,k3,k4,k5⟩:=ml.kinds;have wr:wl∉[r,q]:=λz=>by
       rcases bS.mp z with z|z
       ·obtain⟨rx,CV,bv,cP,tv,er,_⟩:=ml.ra.ob
        rw[<-z,nw]at er;cases er
       ·obtain⟨yq,eq,_⟩:=ml.ra.qu
        rw[<-e9.mp z,nw]at eq;cases eq
      have bl:(dD (cm S) o).length=M.rs.length:=yW gl λns sp eo=>(h3.ln ns sp eo).1.len;refine bc ⟨Z,lq S d o,uT.rH R5 b5,ok.rH h3 nB,b5 _ _ MN wr,aK.v v5 _ no Jx,RD.v v5 _ (hU _) JF,λb o' eb hb=>b5 _ _ (Mp _ _ eb hb) (λz=>hb (.tail _ z)),.inr ⟨o,Z,?_,h3,(Uo bl).mp ho,by rw[ls,e2]⟩⟩;exact RD.v v5 _ h3.it.no (RD.mono s4 _ h2)
   rintro O H5 ⟨rfl,S5,uS,xp,rL,BL,BQ,kA,hc⟩;refine⟨λO H6=>∃ds os hv ys v10 v11,O=[some (.ref p),some (.ref a),some m,some hv,some (.int n),some (.ref wl),some (.int (0+(i:Int))),some (.str z),some iv,some (.str fK),v10,v11]/\FD K C D M p a r m H6 q (dy S0 ds os)/\dh M D' (dy S0 ds os)/\RD K H6 hv (cI (cm (dy S0 ds os)))/\fC M.rs (cm (dy S0 ds os))/\H6 wl=some (.lst ys)/\aK K H6 ys ds/\(∀d∈ds,TI d)/\cV [p,r,q] H H6,?_,?_⟩
   ·refine⟨_,Z,_,Z,wl,ys,Z,.inl (aH.of rL),_,_,Z,Z,.inl ⟨_,Z,xw aw,Z,_,Z,?_⟩⟩
    rcases hc with⟨hh,rfl⟩|⟨o,rfl,JD,it,Um,ed⟩
    ·rw[show decide (V.str fK=V.str (Str.ofString (toString ((ys.length:Int)+1))))=false from dP λe=>W3 hh (ys.length+1) (by injection e)]
     refine bc ⟨ds,os,hv,ys,v10,v11,Z,?_,?_,?_,?_,rL,BL,ti,kA⟩
     ·rw[hS];exact uS
     ·rw[hS];exact xp
     ·rw[hS];exact BQ
     ·rw[hS];exact lS
    ·rw[show decide (V.str fK=V.str (Str.ofString (toString ((ys.length:Int)+1))))=true from bR (by rw[ed];rfl)]
     refine bF ?_;have jo:sizeLine=16777216:=by decide
     refine⟨_,Z,.inl ⟨Z,_,aH.of rL⟩,_,Z,wl,ys,_,Z,Z,rL,aw,?_⟩;have tu:eG H5 (L2.upd H5 wl (.lst (ys++[iv]))):=.upd rL trivial;refine⟨_,Z,_,Z,hv,iv,cm S,d,o,Z,RD.v tu _ (hU _) BQ,RD.v tu _ it.it.no JD,it.it,λns sp e'=>by rw[gl];exact(it.ln ns sp e').1.len,aw,λu H7 ru s7=>?_⟩;obtain⟨xs,ep⟩:=yY ml.bg;have wp:p≠wl:=λe=>by rw[e,nw]at ep;cases ep
     obtain⟨Nb,mv0,ea0,_⟩:=ml.dk;have wa:a≠wl:=λe=>by rw[e,nw]at ea0;cases ea0
     obtain⟨rx0,a73,bv0,pc0,tv0,MQ,_⟩:=ml.ra.ob;have wr:r≠wl:=λe=>by rw[e,nw]at MQ;cases MQ
     obtain⟨yq0,MV,_⟩:=ml.ra.qu;have wq:q≠wl:=λe=>by rw[e,nw]at MV;cases MV
     have KA:=xp.row.no;have pF:FD K C D M p a r m (L2.upd H5 wl (.lst (ys++[iv]))) q (lq S d o):=uS.move tu (by obtain⟨c,m',e,Ut⟩:=uS.bg;exact⟨c,m',by rw[bj wp];exact e,Ut⟩) (λo' e=>by rw[bj wa];exact e) (uS.ra.go KA tu (λo' e=>by rw[bj wr];exact e) (λo' e=>by rw[bj wq];exact e));have eW:lq S d o=dy S0 (ds++[d]) (os++[o]):=by rw[<-hS];rfl
     refine⟨ds++[d],os++[o],u,ys++[iv],v10,v11,Z,?_,?_,?_,?_,s7 _ _ bV,?_,?_,λb o' eb hb=>s7 _ _ ?_⟩
     ·rw[<-eW];exact pF.same KA s7
     ·rw[<-eW];exact xp
     ·rw[<-eW,M6];exact ru
     ·rw[<-eW,M6];exact Um
     ·exact(aK.mono s7 _ (aK.v tu _ no BL)).append (ck (RD.mono s7 _ (RD.v tu _ it.it.no JD)) df)
     ·intro d1 h1
      rcases jN.mp h1 with h1|h1
      ·exact ti d1 h1
      ·rw[e9.mp h1];exact(it.tx aw aw).ti
     ·have ye:b≠wl:=λe=>by rw[e,nw]at eb;cases eb
      rw[bj ye];exact kA _ _ eb hb
   clear hc BL BQ rL uS xp kA hx LJ tM Jy EB Er JI;rintro O H6 ⟨ds,os,hv,ys,v10,v11,rfl,pF,lU,Sx,Up,EA,x8,wy,fr6⟩;have l6:=lU.len;have Xl:=lU.row.len;have CM:=lU.row.no;have X6:=x8.length;have l6':ds.length<=20:=l6;have a7a:ds.length=os.length:=Xl;obtain⟨yM,KR,yH,a6S⟩:=pF.dk;refine⟨λO H7=>∃v10,O=[some (.ref p),some (.ref a),some m,some hv,some (.int n),some (.ref wl),some (.int (0+(i:Int))),some (.str z),some iv,some (.str fK),v10,v11]/\aA H6 H7,?_,?_⟩
   ·refine U9 (λQ' hq=>⟨_,Z,_,_,Z,Z,az,.inl ⟨_,_,Z,Z,_,Z,hq _⟩⟩) (λQ' hq=>⟨_,Z,_,Z,_,_,Z,Z,.inl ⟨_,_,Z,Z,_,Z,hq _⟩⟩) (λc=>?_)
    cases c with |false=>exact bc ⟨_,Z,aA.refl _⟩ |true=>
     refine bF ?_;refine⟨_,Z,_,Z,m,.ref wl,M.rs,M.r,M.f,M.j,M.t,ds,os,Z,pF.ms,aO,BU (aH.of EA) x8,lU.row,aw,λl zs H7 nl el rl s7=>?_⟩;have lp:(gZ M.r M.f M.j 100 os).length=os.length+1:=jB _ _;have lz:=rl.length;rw[bD,lp]at lz;refine⟨l,Z,⟨_,aH.of el⟩,λD2 H8 n8=>?_⟩;refine vb (K:=K) (ds:=((gZ M.r M.f M.j 100 os).map tN).map PyData.str) _ (aH.of el) n8 (by rw[bD,bD,lp];exact lz) aw (mZ _) ?_ ?_
     ·intro i x d H9 Q' ex ed s9 hq
      obtain⟨d',dv,rx⟩:=rl.get' i ex;rw[bJ]at dv;rw[bJ,bJ]at ed;cases eq:(gZ M.r M.f M.j 100 os)[i]? with |none=>rw[eq]at dv;cases dv |some qq=>rw[eq]at dv ed;cases dv;cases ed;obtain⟨hi,rfl⟩:=xi eq;obtain⟨n1,n2⟩:=yX (xj (rate:=100) aO lU.row aw az az i hi);exact⟨_,Z,x,_,_,Z,RD.mono s9 _ rx,n1,n2,hq _ _ (aA.refl _) (bP _)⟩
     intro H9 ws s9 d9 r9;rw[jP r9]at d9;have oA:=s7.trans s9;refine⟨_,Z,a,yM,_,Z,oA _ _ yH,Z,a,r,yM,KR,Z,oA _ _ yH,λfD E' kL=>?_⟩;have tI:=oA.trans kL;refine⟨r,q,M,D',_,Z,pF.ra.same CM tI,lU,aO,λgm mT=>?_⟩;have oB:=tI.trans mT;refine⟨Z,_,Z," ",D2,_,Z,Z,aH.of (mT _ _ (kL _ _ d9)),λz hz=>?_,aJ,by rw[bD,lp];lia,?_⟩
     ·obtain⟨qq,hq,rfl⟩:=cB.mp hz
      obtain⟨i,hi⟩:=nY.mp hq;obtain⟨uF,rfl⟩:=xi hi;obtain⟨n1,n2⟩:=yX (xj (rate:=100) aO lU.row aw az az i uF);exact f9 (Mo n1 n2) az
     refine⟨Z,_,Z,?_⟩;have er:(dy S0 ds os).rate=100:=er0;rw[er];rw[show(!decide (V.str (Ce M.r M.f M.j 100 (dy S0 ds os).os)=V.str (Txt.join (Str.ofString " ") ((gZ M.r M.f M.j 100 os).map tN))))=false by rw[bR (show V.str (Ce M.r M.f M.j 100 (dy S0 ds os).os)=V.str (Txt.join (Str.ofString " ") ((gZ M.r M.f M.j 100 os).map tN))from rfl)];rfl];exact bc ⟨_,Z,oB⟩
   rintro O H7 ⟨v10,rfl,s7⟩;have MM:=s7 _ _ EA;have Sa:=aK.mono s7 _ x8;refine⟨Z,?_⟩;refine⟨_,Z,wl,Z,⟨_,aH.of MM⟩,λD2 H8 n8=>?_⟩;refine vb (K:=K) (ds:=(ds.map cY).map PyData.str) _ (aH.of MM) n8 (by rw[bD,bD];exact X6) aw (mZ _) ?_ ?_
   ·intro i x d H9 Q' ex ed s9 hq
    obtain⟨d',dv,rx⟩:=Sa.get' i ex;rw[bJ,bJ,dv]at ed;cases ed;exact⟨_,Z,x,d',Z,RD.mono s9 _ rx,wy d' (fP dv),λH3 s3=>hq _ _ s3 (bP _)⟩
   intro H9 ws s9 d9 r9;rw[jP r9]at d9;refine⟨"\n",D2,ds.map cY,Z,Z,aH.of d9,λz hz=>?_,aJ,by rw[bD];lia,?_⟩
   ·obtain⟨d,hd,rfl⟩:=cB.mp hz
    have:=uo (wy d hd)
    lia
   have oA:=s7.trans s9;refine⟨_,Z,a,yM,_,Z,oA _ _ yH,Z,a,r,yM,KR,Z,oA _ _ yH,λfD E' kL=>?_⟩;have tI:=oA.trans kL;refine⟨r,q,M,D',_,Z,pF.ra.same CM tI,lU,aO,wy,λgm mT=>?_⟩;have oB:=tI.trans mT;generalize hz:Txt.join (Str.ofString "\n") (ds.map cY)=zz;have qX:Txt.join (Str.ofString "\n") ((dy S0 ds os).ds.map cY)=zz:=hz;rw[qX];refine⟨_,Z,Z,_,Z,?_⟩;have fin:∃nJ qB xW G8 w6 w7 w8 w9 sO PK,[some (.ref p),some (.ref a),some m,some hv,some (.int n),some (.ref wl),some (.int (0+(i:Int))),some (.str z),some iv,some (.str fK),v10,some (.str zz)]=[some (.ref p),some (.ref a),some m,some xW,some (.int n),some (.ref wl),w6,w7,w8,w9,sO,PK]/\FD K C D M p a r m gm q (dy S0 nJ qB)/\dh M D' (dy S0 nJ qB)/\RD K gm xW (cI (cm (dy S0 nJ qB)))/\fC M.rs (cm (dy S0 nJ qB))/\gm wl=some (.lst G8)/\aK K gm G8 nJ/\(∀d∈nJ,TI d)/\cV [p,r,q] H gm:=⟨ds,os,hv,ys,_,_,_,_,_,_,Z,pF.same CM oB,lU,RD.mono oB _ Sx,Up,oB _ _ EA,aK.mono oB _ x8,wy,λb o eb hb=>oB _ _ (fr6 _ _ eb hb)⟩;by_cases e0:zz=""
   ·rw[show(!decide (V.str zz=V.str (Str.ofString "")))=false by rw[bR (by rw[e0])];rfl]
    refine bc ⟨Z,_,Z,?_⟩;rw[show(!decide (V.str (jY zz)=V.str (Str.ofString "none")))=false by rw[bR (show V.str (jY zz)=V.str (Str.ofString "none") by unfold jY;rw[aU e0])];rfl];exact bc fin
   ·rw[show(!decide (V.str zz=V.str (Str.ofString "")))=true by rw[dP (λe=>e0 (by injection e))];rfl];refine bF ⟨_,Z,Z,_,Z,?_⟩;rw[show(!decide (V.str (jY zz)=V.str zz))=false by rw[bR (show V.str (jY zz)=V.str zz by unfold jY;rw[aV e0])];rfl];exact bc fin
  ·rintro O H2 ⟨ds,os,hv,ys,v6,v7,v8,v9,v10,v11,rfl,fd,ok,rh,lS,ew,kM,ti,fr⟩
   exact⟨_,Z,k wl ys ds os H2 fd ok ew kM.length fr⟩
end
end Lw
set_option maxHeartbeats 2000000
namespace Lw
open PySem PySem.Spec PyProof.Rows L2 Rt Ln Cn Pn Wk Rn
open Ow (topR cornO mnO betR atO ownF leadF ownL OkI OkIs)
open Tm (numS numIn? Free)
section
variable {P:af}{w:World}{K:aa}{mg:bf}{au:Heap}
section
variable {C D:Addr}{M:bX}{p a r q:Addr}{m:V}{H H':Hp}{S:cf}
theorem FD.v(h:FD K C D M p a r m H q S)(b:cV [p,r,q] H H'):eG H H':=by
 obtain⟨xs,ep⟩:=yY h.bg;obtain⟨rx,CV,bv,cP,tv,er,_⟩:=h.ra.ob;obtain⟨ys,eq,_⟩:=h.ra.qu;refine b.v λx hx o eo=>?_;simp only[bS,eR,jK]at hx;rcases hx with rfl|rfl|rfl
 ·rw[ep]at eo;cases eo;trivial
 ·rw[er]at eo;cases eo;trivial
 ·rw[eq]at eo;cases eo;trivial
theorem FD.v1(h:FD K C D M p a r m H q S)(b:cV [r] H H'):eG H H':=h.v λx o e hx=>b x o e λz=>hx (.tail _ (by rw[e9.mp z];exact .head _))
theorem FD.one{S':cf}(h:FD K C D M p a r m H q S)(ra:cN K C H' r q M S')(b:cV [r] H H'):FD K C D M p a r m H' q S':=h.rH ra λx o e hx=>b x o e λz=>hx (by rw[e9.mp z];exact .head _)
theorem FD.drop{S':cf}{q':Addr}(h:FD K C D M p a r m H q S)(ra:cN K C H' r q' M S')(nq:H q'=none)(b:cV [r] H H'):FD K C D M p a r m H' q' S':=by
 obtain⟨k1,k2,k3,k4,k5⟩:=h.kinds;obtain⟨dx,mv,e,rm⟩:=h.dk;have v:=h.v1 b;refine⟨?_,⟨dx,mv,b _ _ e λz=>k3 (e9.mp z),RD.v v _ (iP _ _ _ _ _) rm⟩,ra,RD.v v _ (iP _ _ _ _ _) h.ms,λz=>?_⟩
 ·obtain⟨c,m',e',ok⟩:=h.bg
  exact⟨c,m',b _ _ e' λz=>k2 (e9.mp z),ok⟩
 ·obtain⟨c,m',e',ok⟩:=h.bg
  rw[z,nq]at e';cases e'
theorem wW{Ha Hb:Hp}{L:List Addr}(s:aA H Ha)(b:cV L Ha Hb)(hn:∀x∈L,H x=none):aA H Hb:=λx o e=>b x o (s x o e) λz=>by rw[hn x z]at e;cases e
end
def Hu(K:aa):Sp:=λvs H Q _=>∃(a:Addr)(ns:List Int),vs=[.ref a]/\aH K H a (ns.map V.int)/\ns.length<=63/\∀H',Q (.bl true) H'
abbrev tF:Stmt:=top 125
theorem IP:bh ["_law_script","_law_at","_law_bag_here","_law_many","_law_machine_here","_law_place_here","_law_desk","_law_waits"] ["_law_script"] (aP tF):=bo aJ
theorem Vm{C D:Addr}{f:Addr}{fd:FuncData}(F:ir K "law" "law" tF f fd)(B:bw mg)(DC:mI K D)(a0r:aE P w K mg au "_law_bag" 1 (HE K))(eE:aE P w K mg au "_law_take" 1 mR)(a0l:aE P w K mg au "_law_machine" 2 (Ht K))(Ea:aE P w K mg au "_law_place" 2 (A0 K))(a0E:rZ P w K mg au D "Desk" 5 (HC K C D))(M3:aE P w K mg au "_law_all_fed" 12 (Hz K C D))(a0I:cU P w K mg au D "say" 4 (ow D "hold" (jS K C (Mh K C))))(a0J:cU P w K mg au D "say" 7 (ow D "drop" (jS K C (Mi K C))))(Ed:cU P w K mg au D "say" 5 (ow D "waits" (jS K C El)))(a0H:cU P w K mg au D "say" 5 (ow D "place" (jS K C Mg))):f7 P w K mg au fV 13 f fd ["_law_script"] (Hu K):=by
 refine F.ok IP (λvs H Q E h=>?_) (λaG A outer s H vs Q E hr h=>?_)
 ·obtain⟨a,ns,rfl,_⟩:=h
  rfl
 ·obtain⟨a,ns,rfl,hS,hlen,k⟩:=h
  have nd:=IP.nd;refine⟨_,(aF (kO jM Z (oK Z (B.at "range") (ao (cw (x:="max") (a3w rfl) rfl (B.at "max") FL (ao aB (ao (cw (x:="min") (EU rfl) rfl (B.at "min") OY (ao aB (ao (eB K B (ao (pv 0) ay)) ay))) ay))) ay)) (ba 1 nd) (aF (pS 2 nd (pf a0r hr (ao (pv 0) (ao (pv 1) ay)))) (aF (pS 3 nd (px K (fJ (ao (aL dr aB (pf eE hr (ao (pv 2) (ao aB ay)))) (ao (aL dr aB (pf eE hr (ao (pv 2) (ao aB ay)))) (ao aB ay)))) (pf eE hr (ao (pv 2) (ao aB ay))))) (aF (pS 4 nd (pf a0l hr (ao (pv 2) ay))) (aF (pS 5 nd (pf Ea hr (ao (pv 2) (ao (pv 4) ay)))) (aF (pS 6 nd (K3 a0E (hr.mono az) Z (ao (pv 4) (ao (pv 5) ay)))) (aF (pS 7 nd (pf M3 hr (ao (pv 2) (ao (pv 6) (ao (pv 4) (ao (pv 5) (ao (pv 3) ay))))))) (aF (bB (PW.pt (gX (bK xn (pv 7) g9 (bE _)) (gW (bK lO (qy a0I DC.cl (hr.mono az) (pv 6) (ao bu ay)) bu (bE _))))) (aI (aR gr)) bC) (aF (bB (PW.pt (gX (bK lO (qy a0J DC.cl (hr.mono az) (pv 6) (ao bu ay)) (cE (x:="str") fL Z (B.at "str") fj (ao (eB K B (ao (pv 7) ay)) ay)) (bE _)) (gW (bK lO (qy Ed DC.cl (hr.mono az) (pv 6) (ao bu ay)) bu (bE _))))) (aI (aR gr)) bC) (aF (bB (bK xn (pf M3 hr (ao (pv 2) (ao (pv 6) (ao (pv 4) (ao (pv 5) (ao aB ay)))))) g9 (bE _)) (aI (aR gr)) bC) (aI (bB (bK lO (qy a0H DC.cl (hr.mono az) (pv 6) (ao bu ay)) (lN K Z bu (ao (dA (N:=["_law_one"]) (js:=[none]) Z Z Z (jb K Z (pv 5)) (λ_ _ _ _ _=>(ba 0 (gu _))) (λ_ _ _ _ _=>cX) (λ_ _ _ _ _=>(cE (x:="str") fL Z (B.at "str") fj (ao (pv 0) ay)))) ay)) (bE _)) (aI (aR gr)) bC)))))))))))) (aI (aR gr))),?_⟩;refine⟨_,Z,a,_,Z,.inl hS,_,_,Z,_,_,Z,_,Z,?_,?_,?_⟩
  ·split<;>(try split)<;>lia
  ·split<;>(try split)<;>(try rw[bD])<;>lia
  have hN:(if(if((ns.map V.int).length:Int)<4 then((ns.map V.int).length:Int)else 4)>1 then(if((ns.map V.int).length:Int)<4 then((ns.map V.int).length:Int)else 4)else 1).toNat<=4:=by split<;>(try split)<;>lia
  refine yu (Pv:=λi O H2=>aA H H2/\∃v1 v2 v3 v4 v5 v6 v7,O=[some (.ref a),v1,v2,v3,v4,v5,v6,v7]) ?_ ?_ ?_
  ·exact⟨aA.refl _,none,none,none,none,none,none,none,Z⟩
  ·rintro i O H2 hi ⟨s2,v1,v2,v3,v4,v5,v6,v7,rfl⟩
   have hi8:i<4:=fk hi hN;refine⟨_,Z,_,Z,a,ns,_,Z,s2.seq hS,hlen,aw,aw,λp H3 np bg3 s3=>?_⟩;refine⟨_,Z,p,25,Z,bg3,az,az,λt1 H4 t10 t11 b4=>⟨_,_,Z,Z,?_⟩⟩;refine⟨_,Z,p,8,Z,b4.bI,az,az,λt2 H5 t20 t21 b5=>⟨_,_,Z,Z,?_⟩⟩;refine⟨bW Z,λl H6 n6=>?_⟩;have b6:bG p H5 H6:=.eU b5.bI n6.same;have D9:l≠p:=λe=>b5.bI.ne (e▸n6.no);refine⟨_,Z,p,3,Z,b6.bI,az,az,λix H7 i0 i1 b7=>?_⟩;obtain⟨many,mm,em⟩:=Ly [2+t1,2+t2,36] i0 i1;have L5:0<=many/\many<=40:=by
    rcases bS.mp mm with rfl|mm
    ·lia
    rcases bS.mp mm with rfl|mm
    ·lia
    rcases bS.mp mm with rfl|mm
    ·lia
    ·exact(eR mm).elim
   refine .inl ⟨l,_,_,_,Z,Z,aH.of (b7.same _ _ D9 n6.at'),em,?_⟩;refine⟨_,Z,p,Z,b7.bI,λm rs r f' j t H8 rm aO b8=>?_⟩;refine⟨_,Z,_,Z,p,m,rs,r,f',j,t,Z,b8.bI,rm,aO,λeY pl H9 rp iK b9=>?_⟩;have DH:H p=none:=by cases e:H p with |none=>rfl |some o=>exact absurd (s2 _ _ e) (by rw[np];exact λz=>nomatch z)
   have Jo:aA H H9:=bG.RW (s2.trans s3) DH (b4.trans (b5.trans (b6.trans (b7.trans (b8.trans b9)))));have BP:RD K H9 m (bX.D ⟨rs,r,f',j,t⟩):=RD.v (bG.t b8.bI b9).v _ (iP _ _ _ _ _) rm;generalize hM:(⟨rs,r,f',j,t⟩:bX)=M at BP;have jz:M.Ok:=by rw[<-hM];exact aO
   have qI:fC M.rs pl:=by rw[<-hM];exact iK
   refine⟨_,Z,_,Z,λx dx hx Zf ne=>?_⟩;have tG:aA H9 (L2.upd (L2.upd H9 dx (.own x)) x (.ins D dx [])):=(aA.new Zf).trans (aA.new (by rw[bj ne.symm];exact hx));refine⟨x,dx,m,eY,M,pl,Z,bV,RD.mono tG _ BP,RD.mono tG _ rp,jz,qI,λr' q fD dk R nr nq bt=>⟨Z,?_⟩⟩;have tH:aA H9 fD:=λb o eb=>bt b o (tG b o eb) λz=>by rw[e9.mp z,hx]at eb;cases eb
   have CI:H9 r'=none:=by cases e:H9 r' with |none=>rfl |some o=>rw[tG _ _ e]at nr;cases nr
   have Kw:H9 q=none:=by cases e:H9 q with |none=>rfl |some o=>rw[tG _ _ e]at nq;cases nq
   have nH:∀{b:Addr},H9 b=none->H b=none:=λ{b} h=>by cases e:H b with |none=>rfl |some o=>rw[Jo _ _ e]at h;cases h
   have pq:p≠q:=λz=>b9.bI.ne (by rw[z];exact Kw);have ME:FD K C D M p x r' m fD q (gU pl):=⟨(bG.eU b9.bI tH).bI,dk,R,RD.mono tH _ BP,pq⟩;have VU:dh M 64 (gU pl):=So qI.len;refine⟨_,Z,_,Z,_,Z,_,Z,_,Z,p,x,m,eY,many,r',q,M,64,gU pl,Z,ME,VU,jz,RD.mono tH _ rp,qI,Z,Z,Z,L5.1,L5.2,λwl ys ds os gm Ew xq MO YL Mr=>?_⟩;have S4:aA H gm:=wW (Jo.trans tH) Mr λb hb=>by
    simp only[bS,eR,jK]at hb;rcases hb with rfl|rfl|rfl
    ·exact DH
    ·exact nH CI
    ·exact nH Kw
   have Sm:RD K gm eY (cI pl):=RD.v (ME.v Mr) _ (hU _) (RD.mono tH _ rp);refine⟨_,Z,Z,_,Z,?_⟩;rw[dP (λz=>nomatch z)];refine bc ?_;obtain⟨Na,WA,ea1,_⟩:=Ew.dk;refine⟨_,Z,x,Na,_,Z,ea1,Z,x,r',Na,WA,Z,ea1,λsu E' fZ=>?_⟩;have Eu:=Ew.same xq.row.no fZ;refine⟨r',q,M,64,_,Z,Eu.ra,xq,jz,Z,λsr R13 nO=>⟨Z,_,Z,?_⟩⟩;rw[bR rfl];refine bc ?_;have MD:=Eu.one R13 nO;have CB:=xq.hold jz az;have a0u:Halt (hZ M (dy (gU pl) ds os)).pc (hZ M (dy (gU pl) ds os)).eg:=⟨(λz=>nomatch z),rfl⟩;obtain⟨N9,Wz,yK,_⟩:=MD.dk;refine⟨_,Z,x,N9,_,Z,yK,Z,x,r',N9,Wz,Z,yK,λvn E' j9=>?_⟩;have Et:=MD.same CB.row.no j9;refine⟨r',q,M,_,_,Z,Et.ra,CB,jz,a0u,λq' H15 R15 qL yZ=>?_⟩;have MC:=Et.drop R15 qL yZ;have tZ:=CB.drop;have Gb:wl∉[r']:=λz=>by obtain⟨rx,CV,bv,cP,tv,er,_⟩:=Ew.ra.ob;rw[<-e9.mp z,MO]at er;cases er
   have a2I:H15 wl=some (.lst ys):=yZ _ _ (j9 _ _ (nO _ _ (fZ _ _ MO) Gb)) Gb;have ll:=xq.len;have ll':ds.length<=20:=ll;refine⟨_,Z,wl,ys,Z,.inl (aH.of a2I),.inl ⟨_,Z,iQ (show Nm _ by show Int.natAbs _<10^40;lia),Z,_,Z,?_⟩⟩;rw[show(!decide (V.str (numS (((hZ M (dy (gU pl) ds os)).ds.length:Nat):Int))=V.str (Str.ofString (toString (ys.length:Int)))))=false by rw[YL,bR (show V.str (numS (((hZ M (dy (gU pl) ds os)).ds.length:Nat):Int))=V.str (Str.ofString (toString (ds.length:Int)))from Z)];rfl];refine bc ?_;obtain⟨N8,Wy,yJ,_⟩:=MC.dk;refine⟨_,Z,x,N8,_,Z,yJ,Z,x,r',N8,Wy,Z,yJ,λH16 E' BH=>?_⟩;have MB:=MC.same tZ.row.no BH;refine⟨r',q',M,_,_,Z,MB.ra,tZ,jz,(λd hd=>nomatch hd),λOA BG=>⟨rfl,_,rfl,?_⟩⟩;rw[show(!decide (V.str (jY (Txt.join (Str.ofString "\n") ((nK (hZ M (dy (gU pl) ds os))).ds.map cY)))=V.str (Str.ofString "none")))=false by
    have e0:jY (Txt.join (Str.ofString "\n") ([]:List Str))=Str.ofString "none":=by decide+kernel
    have e1:V.str (jY (Txt.join (Str.ofString "\n") ((nK (hZ M (dy (gU pl) ds os))).ds.map cY)))=V.str (Str.ofString "none"):=jL V.str e0;rw[bR e1];rfl];refine bc ?_;have Es:=MB.same tZ.row.no BG;generalize uM:nK (hZ M (dy (gU pl) ds os))=S3 at Es tZ;have N4:S3.pl=pl:=by rw[<-uM];rfl
   have e3d:S3.dn=0:=by rw[<-uM];rfl
   have e3s:S3.ds=[]:=by rw[<-uM];rfl
   have N5:S3.os=[]:=by rw[<-uM];rfl
   have e3r:S3.rate=100:=by rw[<-uM];rfl
   have N6:cm S3=pl:=by unfold cm;rw[N5,N4];rfl
   have vr:∀{Ha Hb:Hp}{q0:Addr}{S0:cf},FD K C D M p x r' m Ha q0 S0->cV [r'] Ha Hb->RD K Ha eY (cI pl)->RD K Hb eY (cI pl):=λfd b rd=>RD.v (fd.v1 b) _ (hU _) rd;have JB:RD K OA eY (cI pl):=RD.mono BG _ (RD.mono BH _ (vr Et yZ (RD.mono j9 _ (vr Eu nO (RD.mono fZ _ Sm)))));have LP:∀b∈[r'],H b=none:=λb hb=>by rw[e9.mp hb];exact nH CI
   have Jp:aA H vn:=(wW (S4.trans fZ) nO LP).trans j9;have S2:aA H OA:=((wW Jp yZ LP).trans BH).trans BG;have CJ:H q'=none:=by cases e:H q' with |none=>rfl |some o=>rw[Jp _ _ e]at qL;cases qL
   refine⟨_,Z,_,Z,_,Z,_,Z,p,x,m,eY,3,r',q',M,_,S3,Z,Es,tZ,jz,by rw[N6];exact JB,by rw[N6];exact qI,e3s,N5,e3r,az,az,λwl2 G7 Nc Cu Oz Mz Ko a7F a7r Mq=>?_⟩;refine⟨Z,_,Z,?_⟩;rw[dP (λz=>nomatch z)];refine bc ?_;have Sl:RD K Oz eY (cI pl):=RD.v (Es.v Mq) _ (hU _) JB;have S1:aA H Oz:=wW S2 Mq λb hb=>by
    simp only[bS,eR,jK]at hb;rcases hb with rfl|rfl|rfl
    ·exact DH
    ·exact nH CI
    ·exact CJ
   have nb:=qH qI jz.rl;have nm:∀n∈pl,Nm n:=λn hn=>by have:=nb n hn;show n.natAbs<10^40;lia
   have MW:hJ (dy S3 Nc Cu)=pl:=by unfold hJ;rw[aU (show(dy S3 Nc Cu).dn=0 from e3d)];exact N4
   obtain⟨N7,Wx,yI,_⟩:=Mz.dk;refine⟨_,Z,x,N7,_,Z,yI,Z,x,r',N7,Wx,Z,yI,λH19 E' Js=>?_⟩;refine⟨r',q',M,_,_,Z,Mz.ra.same Ko.row.no Js,Ko,jz,by rw[MW];exact nm,λH20 S6=>?_⟩;rw[MW];have Jt:=Js.trans S6;obtain⟨pa,pxs,rfl,uv,DE⟩:=(RD.mono Jt _ Sl).cj;rw[DE.eK]at uv;have lr:=jz.len;have L6:=qI.len;refine⟨Z,?_⟩;refine⟨_,Z,pa,Z,⟨_,uv⟩,λD2 H21 Wv=>?_⟩;refine nL (K:=K) (ds:=(pl.map numS).map PyData.str) _ uv Wv (by simp) (by simp;lia) (mZ _) ?_ ?_
   ·intro i x d H22 Q' ex ed Jr hq
    rw[bJ]at ex;obtain⟨n,en,rfl⟩:=vK.mp ex;rw[bJ,bJ,en]at ed;cases ed;have hn:=nm n (fP en);exact⟨_,Z,.inl ⟨n,Z,iQ hn,hq _ _ (aA.refl _) (bP _)⟩⟩
   intro H22 ws Jr Nr T8;rw[jP T8]at Nr;refine⟨" ",D2,pl.map numS,Z,Z,aH.of Nr,λz hz=>?_,aJ,by rw[bD];lia,Z,_,Z,?_⟩
   ·obtain⟨n,hn,rfl⟩:=cB.mp hz
    have:=fq (nm n hn)
    lia
   rw[show(!decide (V.str (jA pl)=V.str (Txt.join (Str.ofString " ") (pl.map numS))))=false by rw[bR (show V.str (jA pl)=V.str (Txt.join (Str.ofString " ") (pl.map numS))from Z)];rfl];exact bc ⟨S1.trans (Jt.trans Jr),_,_,_,_,_,_,_,Z⟩
  ·rintro O H2 ⟨_,v1,v2,v3,v4,v5,v6,v7,rfl⟩
   exact k H2
end
end Lw
set_option maxHeartbeats 1000000
namespace Lw
open PySem PySem.Spec PyProof.Rows L2
theorem Qd{K:aa}{C:Addr}{f:Str}(h:PySem.W.findIn K (.ref C) f=some none):PySem.W.takerIn K C f=some none:=by unfold PySem.W.takerIn;rw[h];rfl
theorem kv{K:aa}{mg:bf}{h:Heap}{x:Str}{c:Addr}(X:K.In h)(G:h.Ns mainGlobals mg)(a:PySem.W.nsIn K mainGlobals x=some (some (.ref c))):GV mg x (.ref c):=⟨_,nV X G a,Z⟩
theorem rJ{K:aa}{mg:bf}{h:Heap}{x:Str}{c:Addr}{bm:List Value}{nw:String}(X:K.In h)(G:h.Ns mainGlobals mg)(a:PySem.W.nsIn K mainGlobals x=some (some (.ref c)))(q:PySem.W.excIn K c bm nw=true):Exc K mg x c bm nw:=⟨nV X G a,q⟩
theorem a3i{K:aa}{mg:bf}{h:Heap}{cG c0 c1 c2 c3 c4 c5 c6 c7 c8 c9 c10 i:Addr}(X:K.In h)(G:h.Ns mainGlobals mg)(ag:PySem.W.nsIn K mainGlobals "GlideError"=some (some (.ref cG)))(qg:PySem.W.excIn K cG gz gF=true) (h0:PySem.W.nsIn K mainGlobals "NoFraction"=some (some (.ref c0)))(h1:PySem.W.nsIn K mainGlobals "NoRate"=some (some (.ref c1)))(h2:PySem.W.nsIn K mainGlobals "NoItem"=some (some (.ref c2)))(h3:PySem.W.nsIn K mainGlobals "OffRails"=some (some (.ref c3)))(h4:PySem.W.nsIn K mainGlobals "Full"=some (some (.ref c4)))(h5:PySem.W.nsIn K mainGlobals "Moving"=some (some (.ref c5)))(h6:PySem.W.nsIn K mainGlobals "NoTape"=some (some (.ref c6)))(h7:PySem.W.nsIn K mainGlobals "NoText"=some (some (.ref c7)))(h8:PySem.W.nsIn K mainGlobals "NoMachine"=some (some (.ref c8)))(h9:PySem.W.nsIn K mainGlobals "NoPlace"=some (some (.ref c9)))(h10:PySem.W.nsIn K mainGlobals "NoLine"=some (some (.ref c10)))(v:PySem.W.nsIn K mainGlobals "ValueError"=some none) (q2:PySem.W.excIn K c2 gz gF=true)(q4:PySem.W.excIn K c4 gz gF=true)(q5:PySem.W.excIn K c5 gz gF=true)(q1:PySem.W.excIn K c1 gz gF=true)(q10:PySem.W.excIn K c10 gz gF=true)(o:Oo K mg c3 i)(at3:PySem.W.findIn K (.ref c3) "at"=some none) (kat:takes K c2 cG)(XD:iZ K c2)(kai0:PySem.W.kitOne K (.ref c2) (.ref c0)=some false)(kai1:PySem.W.kitOne K (.ref c2) (.ref c1)=some false)(kai2:PySem.W.kitOne K (.ref c2) (.ref c2)=some true)(kai3:PySem.W.kitOne K (.ref c2) (.ref c3)=some false)(kai4:PySem.W.kitOne K (.ref c2) (.ref c4)=some false)(kai5:PySem.W.kitOne K (.ref c2) (.ref c5)=some false)(kai6:PySem.W.kitOne K (.ref c2) (.ref c6)=some false)(kai7:PySem.W.kitOne K (.ref c2) (.ref c7)=some false)(kai8:PySem.W.kitOne K (.ref c2) (.ref c8)=some false)(kai9:PySem.W.kitOne K (.ref c2) (.ref c9)=some false)(kai10:PySem.W.kitOne K (.ref c2) (.ref c10)=some false)(kav:PySem.W.kitOne K (.ref c2) (.type "ValueError")=some true) (kbt:takes K c3 cG)(XC:iZ K c3)(kbi0:PySem.W.kitOne K (.ref c3) (.ref c0)=some false)(kbi1:PySem.W.kitOne K (.ref c3) (.ref c1)=some false)(kbi2:PySem.W.kitOne K (.ref c3) (.ref c2)=some false)(kbi3:PySem.W.kitOne K (.ref c3) (.ref c3)=some true)(kbi4:PySem.W.kitOne K (.ref c3) (.ref c4)=some false)(kbi5:PySem.W.kitOne K (.ref c3) (.ref c5)=some false)(kbi6:PySem.W.kitOne K (.ref c3) (.ref c6)=some false)(kbi7:PySem.W.kitOne K (.ref c3) (.ref c7)=some false)(kbi8:PySem.W.kitOne K (.ref c3) (.ref c8)=some false)(kbi9:PySem.W.kitOne K (.ref c3) (.ref c9)=some false)(kbi10:PySem.W.kitOne K (.ref c3) (.ref c10)=some false)(kbv:PySem.W.kitOne K (.ref c3) (.type "ValueError")=some true) (kct:takes K c4 cG)(XB:iZ K c4)(kci0:PySem.W.kitOne K (.ref c4) (.ref c0)=some false)(kci1:PySem.W.kitOne K (.ref c4) (.ref c1)=some false)(kci2:PySem.W.kitOne K (.ref c4) (.ref c2)=some false)(kci3:PySem.W.kitOne K (.ref c4) (.ref c3)=some false)(kci4:PySem.W.kitOne K (.ref c4) (.ref c4)=some true)(kci5:PySem.W.kitOne K (.ref c4) (.ref c5)=some false)(kci6:PySem.W.kitOne K (.ref c4) (.ref c6)=some false)(kci7:PySem.W.kitOne K (.ref c4) (.ref c7)=some false)(kci8:PySem.W.kitOne K (.ref c4) (.ref c8)=some false)(kci9:PySem.W.kitOne K (.ref c4) (.ref c9)=some false)(kci10:PySem.W.kitOne K (.ref c4) (.ref c10)=some false)(kcv:PySem.W.kitOne K (.ref c4) (.type "ValueError")=some true) :∃X i,Fh K mg X/\zh K mg (refOf X i)/\Exc K mg "NoLine" X.c10 gz gF:=⟨⟨cG,c0,c1,c2,c3,c4,c5,c6,c7,c8,c9,c10⟩,i,⟨rJ X G ag qg,⟨kv X G h0,kv X G h1,kv X G h2,kv X G h3,kv X G h4,kv X G h5,kv X G h6,kv X G h7,kv X G h8,kv X G h9,kv X G h10,PySem.W.mg_none_of X G v⟩,⟨kat,XD,kai0,kai1,kai2,kai3,kai4,kai5,kai6,kai7,kai8,kai9,kai10,kav⟩,⟨kbt,XC,kbi0,kbi1,kbi2,kbi3,kbi4,kbi5,kbi6,kbi7,kbi8,kbi9,kbi10,kbv⟩,⟨kct,XB,kci0,kci1,kci2,kci3,kci4,kci5,kci6,kci7,kci8,kci9,kci10,kcv⟩,at3⟩,⟨rJ X G h2 q2,o,rJ X G h4 q4,rJ X G h5 q5,rJ X G h1 q1⟩,rJ X G h10 q10⟩
theorem vd{K:aa}{mg:bf}{h:Heap}{a:Addr}{v:Value}{fn z:Str}(X:K.In h)(G:h.Ns mainGlobals mg)(e1:PySem.W.nsIn K mainGlobals fn=some (some v))(e2:PySem.W.nsIn K a z=some (some v)):PySem.W.nsIn K a z=some (mg fn):=by rw[e2,nV X G e1]
theorem MJ{K:aa}{a:Addr}{v:Value}{fn z:Str}(e1:PySem.W.nsIn K mainGlobals fn=some (some v))(e2:PySem.W.nsIn K a z=some (some v)):∃v,PySem.W.nsIn K a z=some (some v):=⟨v,e2⟩
structure OD(K:aa)(mg:bf)(C D:Addr):Prop where
 tc:fB K C
 init:CA K mg C "Runner" "Runner.__init__" Ay
 WY:MA K C "place" "Runner.place" Aw
 WZ:MA K C "leads_to" "Runner.leads_to" Ax
 WX:MA K C "rate" "Runner.rate" Av
 WU:MA K C "waiting" "Runner.waiting" Aq
 X0:MA K C "is_held" "Runner.is_held" AB
 WW:MA K C "stands" "Runner.stands" Au
 X1:MA K C "is_halted" "Runner.is_halted" AA
 X3:MA K C "feed" "Runner.feed" AD
 WV:MA K C "stops_in" "Runner.stops_in" As
 X2:MA K C "hold" "Runner.hold" Az
 X4:MA K C "drop" "Runner.drop" AE
 td:mI K D
 a36:CA K mg D "Desk" "Desk.__init__" Bp
 say:MA K D "say" "Desk.say" wX
 RU:MA K D "say_to" "Desk.say_to" Aj
structure All(w:World)(K:aa)(mg:bf):Prop where
 B:bw mg
 yl:GT K mg "NOUGHT" [.int 0,.int 1]
 a0V:GT K mg "SIDES" [.str "up",.str "down"]
 a1c:GT K mg "AXES" [.int 2,.int 3]
 a13:GV mg "LONGEST_RAIL" (.int 100)
 a19:GV mg "GREATEST_CHANGE" (.int 50)
 a0Y:GV mg "MOST_TICKS" (.int 100)
 a0Z:GV mg "MOST_STEPS" (.int 100)
 Me:GV mg "GREATEST_SPEED" (.int 20)
 a12:GV mg "LONGEST_WAIT" (.int 1000)
 a15:GV mg "LONGEST_NAME" (.int 8)
 a17:GV mg "LEAST_RATE" (.int 10)
 a18:GV mg "GREATEST_RATE" (.int 200)
 a1a:GV mg "FIRST_RATE" (.int 100)
 a0X:GV mg "MOST_WAITING" (.int 20)
 a16:GV mg "LETTERS" (.str gK)
 a1b:GV mg "FIGURES" (.str rF)
 a0W:GV mg "NOTHING" (.str "none")
 ans:∃a,GD w K mg "ANSWERS" a/\PySem.W.nsIn K a "hold"=some (mg "answer_hold")/\PySem.W.nsIn K a "drop"=some (mg "answer_drop")/\PySem.W.nsIn K a "place"=some (mg "answer_place")/\PySem.W.nsIn K a "waits"=some (mg "answer_waits")/\PySem.W.nsIn K a "plan"=some (mg "answer_plan")/\zj K a
 cls:∃X i,Fh K mg X/\zh K mg (refOf X i)/\Exc K mg "NoLine" X.c10 gz gF
 dk:∃C D,OD K mg C D
 law:FA K mg "law" tF
 a20:FA K mg "is_whole" Be
 a1Z:FA K mg "is_whole_within" Ad
 a25:FA K mg "is_machine" Bi
 a23:FA K mg "is_place" Bg
 a2e:FA K mg "are_rails" Bx
 a27:FA K mg "is_item" Bj
 MG:FA K mg "is_line" Bc
 a1M:FA K mg "place_behind" Bt
 a1R:FA K mg "moved" AR
 a2d:FA K mg "are_steps" Bw
 a21:FA K mg "is_short_item" Bf
 a24:FA K mg "is_name" Bh
 a29:FA K mg "fraction" Bl
 a1K:FA K mg "plus" AF
 a1J:FA K mg "plus_whole" AJ
 a1S:FA K mg "minus" AU
 a26:FA K mg "is_less" AX
 a1U:FA K mg "least" AY
 a1T:FA K mg "lowest_terms" B4
 a2b:FA K mg "common_divisor" Br
 a1V:FA K mg "lead_of" B0
 a1C:FA K mg "ways_of" Ac
 a1E:FA K mg "stand_at" Ai
 a1Q:FA K mg "nearest" AN
 a2a:FA K mg "corner_square" Bq
 a1D:FA K mg "top_square" Af
 a22:FA K mg "is_rate" Bb
 a28:FA K mg "greatest_turn" Ae
 a1N:FA K mg "own_bounds" AK
 a2c:FA K mg "bound_between" Bs
 a1L:FA K mg "plan_of" AH
 a1W:FA K mg "kept_by_rise" Ap
 a1X:FA K mg "kept_by_fall" Bn
 a1I:FA K mg "show_fraction" An
 a1F:FA K mg "show_numbers" Ak
 a1H:FA K mg "show_item" Al
 a1G:FA K mg "show_items" Am
 a1Y:FA K mg "item_in" Ba
 a1O:FA K mg "numbers_in" AM
 a1P:FA K mg "number_in" AQ
 a2i:FA K mg "answer_hold" BB
 a2j:FA K mg "answer_drop" BC
 a2h:FA K mg "answer_place" BA
 a2f:FA K mg "answer_waits" Bv
 a2g:FA K mg "answer_plan" Bz
 a2C:FA K mg "_law_bag" Bu
 a2l:FA K mg "_law_take" Ah
 a2t:FA K mg "_law_machine" AW
 a2o:FA K mg "_law_place" AI
 a2q:FA K mg "_law_name" AO
 a2x:FA K mg "_law_item" B9
 a2w:FA K mg "_law_item_text" B5
 a2y:FA K mg "_law_fraction_text" B6
 a2B:FA K mg "_law_class" kK
 a2k:FA K mg "_law_told" Ag
 a2z:FA K mg "_law_frac" Bk
 a2s:FA K mg "_law_min" AV
 a2r:FA K mg "_law_more" AS
 a2v:FA K mg "_law_lead" AZ
 a2p:FA K mg "_law_own_bound" AL
 a2n:FA K mg "_law_plan" AG
 a2u:FA K mg "_law_leads" B3
 a2m:FA K mg "_law_row" Ao
 a2A:FA K mg "_law_due" Bo
 a2D:FA K mg "_law_all_fed" Bm
theorem a43{P:af}{w:World}{K:aa}{mg:bf}{au:Heap}{f:Addr}{fd:FuncData}(A:All w K mg)(F:ir K "law" "law" tF f fd):f7 P w K mg au fV 13 f fd ["_law_script"] (Hu K):=by obtain⟨gA,GA,hGh,hGd,hGp,hGw,hGl,NA⟩:=A.ans;obtain⟨X,i,EX,RX,EL⟩:=A.cls;obtain⟨C,D,R⟩:=A.dk;have TC:=R.tc;have tk:aE P w K mg au "_law_take" 1 mR:=UA A.a2l A.B;have cd:aE P w K mg au "common_divisor" 1 A6:=VG A.a2b A.B;have lt:aE P w K mg au "lowest_terms" 2 t6:=Ve A.a1T A.B cd;have iw:aE P w K mg au "is_whole" 1 (wO K):=Vn A.a20 A.B;have ww:aE P w K mg au "is_whole_within" 2 (kJ K):=Uv A.a1Z A.B iw;have fn:aE P w K mg au "fraction" 3 (sZ K):=Vz A.a29 A.B iw lt;have ld:aE P w K mg au "lead_of" 1 (lL K):=Vk A.a1V A.B;have ls:aE P w K mg au "is_less" 1 (wM K):=Vh A.a26 A.B;have cp:aE P w K mg au "corner_square" 6 (A7 K):=VE A.a2a A.B (Ux A.a28 A.B (Uw A.a1C A.B ld fn) (Vb A.a1S A.B lt) ls) fn;have XQ:aE P w K mg au "is_rate" 3 (zX K):=Vq A.a22 A.B A.a17 A.a18 ww;have tp:aE P w K mg au "top_square" 4 (zV K):=Uy A.a1D A.B XQ fn;have xQ:aE P w K mg au "is_line" 1 (qo K):=Vr A.MG A.B;have lst:aE P w K mg au "least" 2 (t7 K):=Vi A.a1U A.B ls;have bet:aE P w K mg au "bound_between" 7 (A8 K):=VH A.a2c A.B A.yl xQ tp cp lst;have own:aE P w K mg au "own_bounds" 8 (A1 K):=V3 A.a1N A.B A.yl bet;have pw:aE P w K mg au "plus_whole" 4 (wI K):=UY A.a1J A.B (UZ A.a1K A.B lt);have pl:aE P w K mg au "plan_of" 9 (zZ K):=V1 A.a1L A.B own (UQ A.a1W A.B xQ ld pw lst) (VB A.a1X A.B xQ ld pw lst);have nr:aE P w K mg au "nearest" 1 A3:=V7 A.a1Q A.B;have QY:aE P w K mg au "stand_at" 2 (zW K):=UC A.a1E A.B ld nr;have Ls:aE P w K mg au "is_item" 4 (wN K):=Vx A.a27 A.B A.Me ww (VM A.a2d A.B A.a0Z ww) (Vt A.a21 A.B A.a12 A.a0V ww (Vv A.a24 A.B A.a15 A.a16));have Dp:aE P w K mg au "is_place" 3 (tf K):=Vu A.a23 A.B ww;have im:aE P w K mg au "is_machine" 4 (tm jD K):=Vw A.a25 A.B A.a0Y A.a19 ww (VN A.a2e A.B A.a1c A.a13 ww);have KQ:aE P w K mg au "moved" 1 (wL K):=V9 A.a1R A.B;have NU:aE P w K mg au "place_behind" 2 (ou K):=VI A.a1M A.B xQ KQ;have JE:=UU (P:=P) (w:=w) (mg:=mg) (au:=au) R.X0 TC;have Si:=UL (P:=P) (w:=w) (au:=au) R.WW TC A.yl;have Sv:=UT R.X1 TC JE Si;have JC:=UP R.WZ TC NU;have Sh:=UK (P:=P) (w:=w) (mg:=mg) (au:=au) R.WV TC;have Su:=US R.X2 TC Sh JE;have JA:=UN R.WY TC KQ QY;have SD:=UX R.X4 TC A.B Sv JA;have Jw:=UJ (P:=P) (w:=w) (au:=au) R.WU TC A.B;have Sj:=UM (P:=P) (w:=w) (mg:=mg) (au:=au) R.WX TC;have JG:=UW R.X3 TC A.B RX A.a0X Ls Dp NU JC;have KG:aE P w K mg au "number_in" 1 wK:=V6 A.a1P A.B A.a1b;have Ku:aE P w K mg au "numbers_in" 2 (wJ K):=V5 A.a1O A.B KG;have XJ:aE P w K mg au "item_in" 5 (A5 K):=Vo A.a1Y A.B KG Ku Ls;have HG:=UD (P:=P) (w:=w) (au:=au) A.a1F A.B;have Rr:=UG (P:=P) (w:=w) (au:=au) A.a1G A.B (UE A.a1H A.B (Vs A.MG A.B) HG);have Ry:=UH (P:=P) (w:=w) (au:=au) A.a1I A.B;have lit:=Vf (P:=P) (w:=w) (au:=au) A.a2w A.B;have a3X:=tY R.say A.B R.td GA (z:="hold") aJ aJ hGh (VQ A.a2i A.B TC Su);have a3Y:=tY R.say A.B R.td GA (z:="drop") aJ aJ hGd (VR A.a2j A.B TC SD);have a3V:=tY R.say A.B R.td GA (z:="place") aJ aJ hGp (VP A.a2h TC HG JA);have O5:=tY R.say A.B R.td GA (z:="waits") aJ aJ hGw (VL A.a2f TC A.a0W Rr Jw);have a3W:=tY R.say A.B R.td GA (z:="plan") aJ aJ hGl (VO A.a2g A.B TC pl Ry Jw Sj);have QX:=UB R.RU R.td TC A.B A.Me EL Ku Dp ww JC JG;have RV:=UI R.say R.td TC A.B GA NA EL XJ QX JG;have told:=Uz A.a2k A.B R.td EX RX RV (VF A.a2B A.B EX.n);have Lj:=Vl (P:=P) (w:=w) (au:=au) A.a2u A.B;have JU:=V2 A.a2o A.B tk;have row:=UO A.a2m A.B tk (Vp A.a2x A.B tk (V8 A.a2q A.B tk)) lit JU;have mn:=Vc (P:=P) (w:=w) (au:=au) A.a2s A.B;have lx:=Vj (P:=P) (w:=w) (au:=au) A.a2v A.B;have L6:=V0 A.a2n A.B (V4 A.a2p A.B lx mn (Vy A.a2z A.B)) (Va A.a2r A.B) lx mn;have rH:=VA A.a2D A.B R.td row (VC A.a2A A.B Lj) told Lj L6 (Vg A.a2y A.B) lit a3W O5;exact Vm F A.B R.td (VJ A.a2C A.B) tk (Vd A.a2t A.B tk) JU (VD R.a36 R.td im Dp (UR R.init TC A.yl A.a1a)) rH a3X a3Y O5 a3V
end Lw
def PySem.W.Fast.tw18202652765771256201:PySem.Program:=PySem.Challenge.pw_glidequeue_k55_fed_at_a_desk
theorem PySem.W.Fast.te18202652765771256201:PySem.Challenge.pw_glidequeue_k55_fed_at_a_desk=PySem.W.Fast.tw18202652765771256201:=rfl
def PySem.W.Fast.tw15812960418869209942:Nat:=0
def PySem.W.Fast.tw12492624706507600958:Nat:=0
def PySem.W.Fast.tw4002385656964559739:Nat:=0
def PySem.W.Fast.tw7563684022595665707:Nat:=0
def PySem.W.Fast.tw3117100854108614636:Nat:=0
def PySem.W.Fast.tw6614491396711720716:Nat:=0
def PySem.W.Fast.tw15710797465832397005:Nat:=0
def PySem.W.Fast.tw8092528571577619451:Nat:=0
def PySem.W.Fast.tw8498538250983558648:Nat:=0
def PySem.W.Fast.tw120491220221556228:Nat:=0
def PySem.W.Fast.tw14620837849675976737:Nat:=0
def PySem.W.Fast.tw2115875726901746062:Nat:=0
def PySem.W.Fast.tw11352062771800884255:Nat:=0
def PySem.W.Fast.tw11776704636151668699:Nat:=0
def PySem.W.Fast.tw14385577930432997549:Nat:=0
def PySem.W.Fast.tw11914015501162457062:Nat:=0
def PySem.W.Fast.tw14888176191009777525:Nat:=0
def PySem.W.Fast.tw14938062374559252173:Nat:=0
def PySem.W.Fast.tw5874758427127684119:Nat:=0
def PySem.W.Fast.tw13819454640467961213:Nat:=0
def PySem.W.Fast.tw1979407964412686504:Nat:=0
def PySem.W.Fast.tw18136547484893771080:Nat:=0
def PySem.W.Fast.tw4653318119933058283:Nat:=0
def PySem.W.Fast.tw12829890211336210392:Nat:=0
def PySem.W.Fast.tw14690483411340172855:Nat:=0
def PySem.W.Fast.tw13627548287998702273:Nat:=0
def PySem.W.Fast.tw17660035710224189092:Nat:=0
def PySem.W.Fast.tw10090029322001428538:Nat:=0
def PySem.W.Fast.tw16468613696130445779:Nat:=0
def PySem.W.Fast.tw5419096544824178731:Nat:=0
def PySem.W.Fast.tw185259101555810249:Nat:=0
def PySem.W.Fast.tw187413826737305595:Nat:=0
def PySem.W.Fast.tw3663820736202631899:Nat:=0
def PySem.W.Fast.tw4317263614310531904:Nat:=0
def PySem.W.Fast.tw8062340712589018938:Nat:=0
def PySem.W.Fast.tw5400510400814399211:Nat:=0
def PySem.W.Fast.tw17996288145654243770:Nat:=0
def PySem.W.Fast.tw14296974960062682986:Nat:=0
def PySem.W.Fast.tw16000329966959729991:Nat:=0
def PySem.W.Fast.tw10190672976901550507:Nat:=0
def PySem.W.Fast.tw2893700328335813574:Nat:=0
def PySem.W.Fast.tw7525521845412229434:Nat:=0
def PySem.W.Fast.tw14729578170862387493:Nat:=0
def PySem.W.Fast.tw1957881022482763243:Nat:=0
def PySem.W.Fast.tw12869152917226966013:Nat:=0
def PySem.W.Fast.tw4914763275415362057:Nat:=0
def PySem.W.Fast.tw9431852045778032912:Nat:=0
def PySem.W.Fast.tw1535152522354527174:Nat:=0
def PySem.W.Fast.tw15071906689220431999:Nat:=0
def PySem.W.Fast.tw7618809663836273198:Nat:=0
def PySem.W.Fast.tw8315103521741587650:Nat:=0
def PySem.W.Fast.tw16898227963142462974:Nat:=0
def PySem.W.Fast.tw13377931909235825820:Nat:=0
def PySem.W.Fast.tw14818359518584647156:Nat:=0
def PySem.W.Fast.tw13435291899854374528:Nat:=0
def PySem.W.Fast.tw2983934225677334499:Nat:=0
def PySem.W.Fast.tw16805504212734974756:Nat:=0
def PySem.W.Fast.tw9943789258913529012:Nat:=0
def PySem.W.Fast.tw15441128571980218039:Nat:=0
def PySem.W.Fast.tw11257027346847955021:Nat:=0
def PySem.W.Fast.tw16108994597418245257:Nat:=0
def PySem.W.Fast.tw7847231818704121037:Nat:=0
def PySem.W.Fast.tw3442794552577617586:Nat:=0
def PySem.W.Fast.tw11840659514033757386:Nat:=0
def PySem.W.Fast.tw199849649004733781:Nat:=0
def PySem.W.Fast.tw4662280199668495615:Nat:=0
def PySem.W.Fast.tw10602941534610455057:Nat:=0
def PySem.W.Fast.tw4349097987583936990:Nat:=0
def PySem.W.Fast.tw1219300683696888138:Nat:=0
def PySem.W.Fast.tw5828927991900546057:Nat:=0
def PySem.W.Fast.tw3857617843234301698:Nat:=0
def PySem.W.Fast.tw15392712441541174249:Nat:=0
def PySem.W.Fast.tw320622206467497249:Nat:=0
def PySem.W.Fast.tw5705822813848381608:Nat:=0
def PySem.W.Fast.tw6640361453186275234:Nat:=0
def PySem.W.Fast.tw4734798346635928914:Nat:=0
def PySem.W.Fast.tw17037043936632223436:Nat:=0
def PySem.W.Fast.tw12453585317211049650:Nat:=0
def PySem.W.Fast.tw8945868670423953496:Nat:=0
def PySem.W.Fast.tw6713609472757918360:Nat:=0
def PySem.W.Fast.tw6744144911931960229:Nat:=0
def PySem.W.Fast.tw16612018748377678326:Nat:=0
def PySem.W.Fast.tw2703939540758940794:Nat:=0
def PySem.W.Fast.tw5212449353081580331:Nat:=0
def PySem.W.Fast.tw10100855824470314024:Nat:=0
def PySem.W.Fast.tw2184286327425084738:Nat:=0
def PySem.W.Fast.tw7268895734624225019:Nat:=0
def PySem.W.Fast.tw1316011688919638376:Nat:=0
def PySem.W.Fast.tw2567001749994606487:Nat:=0
def PySem.W.Fast.tw13443073981276107253:Nat:=0
def PySem.W.Fast.tw17562456063393891337:Nat:=0
def PySem.W.Fast.tw7103544686166882468:Nat:=0
def PySem.W.Fast.tw6869588886306065917:Nat:=0
def PySem.W.Fast.tw485370936974075441:Nat:=0
def PySem.W.Fast.tw12084864889251478686:Nat:=0
def PySem.W.Fast.tw11958947153086335439:Nat:=0
def PySem.W.Fast.tw17943610234354720946:Nat:=0
def PySem.W.Fast.tw5466159850408123829:Nat:=0
def PySem.W.Fast.tw11275391602892179075:Nat:=0
def PySem.W.Fast.tw8917582561458364396:Nat:=0
def PySem.W.Fast.tw894275096101418889:Nat:=0
def PySem.W.Fast.tw12386864455637526610:Nat:=0
def PySem.W.Fast.tw12653949598978898108:Nat:=0
def PySem.W.Fast.tw11548139354900192731:Nat:=0
def PySem.W.Fast.tw2780202564176082168:Nat:=0
def PySem.W.Fast.tw12946240796750516915:Nat:=0
def PySem.W.Fast.tw14195642300835770331:Nat:=0
def PySem.W.Fast.tw13211527825315303769:Nat:=0
def PySem.W.Fast.tw7207013447815916657:Nat:=0
def PySem.W.Fast.tw10365938423519494007:Nat:=0
def PySem.W.Fast.tw13199581068988219241:Nat:=0
def PySem.W.Fast.tw8324346780763259047:Nat:=0
def PySem.W.Fast.tw9763593071560382372:Nat:=0
def PySem.W.Fast.tw7229895772734423552:Nat:=0
def PySem.W.Fast.tw9398416259976351367:Nat:=0
def PySem.W.Fast.tw9359078631603415174:Nat:=0
def PySem.W.Fast.tw14951963104631041709:Nat:=0
def PySem.W.Fast.tw13847733282440455324:Nat:=0
def PySem.W.Fast.tw5720030040042703643:Nat:=0
open PySem PySem.W PyProof.Rows
set_option maxRecDepth 100000 in
set_option maxHeartbeats 0 in
theorem PySem.Challenge.cw_glidequeue_k55_fed_at_a_desk_holds : PySem.Challenge.rw_glidequeue_k55_fed_at_a_desk.Holds := by
 w_on; o_law; k_head; (case hw=>w_witness2)
 k_fill
 refine L2.Xs (l:=PySem.Challenge.rw_glidequeue_k55_fed_at_a_desk) (k:=13) (x:="_law_script") (st:=Lw.tF) rfl rfl ⟨rfl,by decide,by decide⟩ (fun w h Y=>PySem.W.kIn_of Y) Lw.All ?F (fun _ _ _ A=>A.law) (fun _ _ _ _ _ _ _=>rfl) (fun _ _ _ _ _ _ _ A F=>Lw.a43 A F)
 case F=>
  intro w mg h KX G
  refine⟨L2.a3K KX G ?b,?t1,?t2,?t3,?gi0,?gi1,?gi2,?gi3,?gi4,?gi5,?gi6,?gi7,?gi8,?gi9,?gi10,?gs0,?gs1,?gs2,?an,?cl,?dk,?fl,?ff0,?ff1,?ff2,?ff3,?ff4,?ff5,?ff6,?ff7,?ff8,?ff9,?ff10,?ff11,?ff12,?ff13,?ff14,?ff15,?ff16,?ff17,?ff18,?ff19,?ff20,?ff21,?ff22,?ff23,?ff24,?ff25,?ff26,?ff27,?ff28,?ff29,?ff30,?ff31,?ff32,?ff33,?ff34,?ff35,?ff36,?ff37,?ff38,?ff39,?ff40,?ff41,?ff42,?ff43,?ff44,?ff45,?ff46,?ff47,?ff48,?ff49,?ff50,?ff51,?ff52,?ff53,?ff54,?ff55,?ff56,?ff57,?ff58,?ff59,?ff60,?ff61,?ff62,?ff63,?ff64⟩
  case b=>(unfold L2.yV; repeat (refine L2.nR.cons ?z ?_; (case z=>k_is))); exact L2.nR.nil
  case t1=>refine' L2.Ej KX G ?a ?l ?z ?r; (case a=>k_is); (case l=>k_is); (case z=>decide); (case r=>exact .cons ⟨_,rfl⟩ (.cons ⟨_,rfl⟩ .nil))
  case t2=>refine' L2.Ej KX G ?a ?l ?z ?r; (case a=>k_is); (case l=>k_is); (case z=>decide); (case r=>exact .cons ⟨_,rfl⟩ (.cons ⟨_,rfl⟩ .nil))
  case t3=>refine' L2.Ej KX G ?a ?l ?z ?r; (case a=>k_is); (case l=>k_is); (case z=>decide); (case r=>exact .cons ⟨_,rfl⟩ (.cons ⟨_,rfl⟩ .nil))
  case gi0=>(refine' L2.kx KX G ?z; (case z=>k_is))
  case gi1=>(refine' L2.kx KX G ?z; (case z=>k_is))
  case gi2=>(refine' L2.kx KX G ?z; (case z=>k_is))
  case gi3=>(refine' L2.kx KX G ?z; (case z=>k_is))
  case gi4=>(refine' L2.kx KX G ?z; (case z=>k_is))
  case gi5=>(refine' L2.kx KX G ?z; (case z=>k_is))
  case gi6=>(refine' L2.kx KX G ?z; (case z=>k_is))
  case gi7=>(refine' L2.kx KX G ?z; (case z=>k_is))
  case gi8=>(refine' L2.kx KX G ?z; (case z=>k_is))
  case gi9=>(refine' L2.kx KX G ?z; (case z=>k_is))
  case gi10=>(refine' L2.kx KX G ?z; (case z=>k_is))
  case gs0=>(refine' L2.Ei KX G ?z; (case z=>k_is))
  case gs1=>(refine' L2.Ei KX G ?z; (case z=>k_is))
  case gs2=>(refine' L2.Ei KX G ?z; (case z=>k_is))
  case an=>
   refine' ⟨_,L2.a0S KX G ?ga ?gl ?gk ?go,Lw.vd KX G ?e10 ?e20,Lw.vd KX G ?e11 ?e21,Lw.vd KX G ?e12 ?e22,Lw.vd KX G ?e13 ?e23,Lw.vd KX G ?e14 ?e24,⟨?na0,?na1,Lw.MJ (fn:="answer_tool") ?ea0 ?eb0,Lw.MJ (fn:="answer_mark") ?ea1 ?eb1,?na4⟩⟩
   case ga=>k_is
   case gl=>k_is
   case go=>decide
   case e10=>k_is
   case e20=>k_is
   case e11=>k_is
   case e21=>k_is
   case e12=>k_is
   case e22=>k_is
   case e13=>k_is
   case e23=>k_is
   case e14=>k_is
   case e24=>k_is
   case gk=>
    show KeysLit _ (_::_)
    repeat (first | exact trivial | refine And.intro ⟨_,_,rfl,rfl⟩ ?_)
   case ea0=>k_is
   case eb0=>k_is
   case ea1=>k_is
   case eb1=>k_is
   case na0 | na1 | na4=>k_is
  case cl=>
   refine' Lw.a3i KX G ?ag ?qg ?h0 ?h1 ?h2 ?h3 ?h4 ?h5 ?h6 ?h7 ?h8 ?h9 ?h10 ?vv ?q2 ?q4 ?q5 ?q1 ?q10 ⟨L2.a3n KX G ?oa1 ?oq1,?oi1,⟨?ox1,?ox2,Lw.Qd ?ox3,?ox4⟩,?off,_,L2.yo ?ol ?oc ?okk⟩ ?at3 ?kat ⟨?kak1,?kak2,?kak3,?kak4,?kak5,?kak6,?kak7,?kak8⟩ ?kai0 ?kai1 ?kai2 ?kai3 ?kai4 ?kai5 ?kai6 ?kai7 ?kai8 ?kai9 ?kai10 ?kav ?kbt ⟨?kbk1,?kbk2,?kbk3,?kbk4,?kbk5,?kbk6,?kbk7,?kbk8⟩ ?kbi0 ?kbi1 ?kbi2 ?kbi3 ?kbi4 ?kbi5 ?kbi6 ?kbi7 ?kbi8 ?kbi9 ?kbi10 ?kbv ?kct ⟨?kck1,?kck2,?kck3,?kck4,?kck5,?kck6,?kck7,?kck8⟩ ?kci0 ?kci1 ?kci2 ?kci3 ?kci4 ?kci5 ?kci6 ?kci7 ?kci8 ?kci9 ?kci10 ?kcv
   case ag | h0 | h1 | h2 | h3 | h4 | h5 | h6 | h7 | h8 | h9 | h10 | vv=>k_is
   case oa1=>k_is
   case oi1=>k_is
   case ox1=>k_is
   case ox3=>k_is
   case ox4=>k_is
   case ol=>k_is
   case oc=>k_is
   case okk=>k_is
   case at3=>k_is
   case qg | q2 | q4 | q5 | q1 | q10=>k_exc
   case oq1=>kernel_rfl
   case ox2=>kernel_rfl
   case off=>kernel_rfl
   case kat=>(show PySem.W.mroIn _ _ _=_; k_is)
   case kbt=>(show PySem.W.mroIn _ _ _=_; k_is)
   case kct=>(show PySem.W.mroIn _ _ _=_; k_is)
   case kak1 | kak2 | kak3 | kak4 | kak5 | kak6 | kak7 | kak8 | kbk1 | kbk2 | kbk3 | kbk4 | kbk5 | kbk6 | kbk7 | kbk8 | kck1 | kck2 | kck3 | kck4 | kck5 | kck6 | kck7 | kck8=>k_is
   case kai0 | kai1 | kai2 | kai3 | kai4 | kai5 | kai6 | kai7 | kai8 | kai9 | kai10 | kbi0 | kbi1 | kbi2 | kbi3 | kbi4 | kbi5 | kbi6 | kbi7 | kbi8 | kbi9 | kbi10 | kci0 | kci1 | kci2 | kci3 | kci4 | kci5 | kci6 | kci7 | kci8 | kci9 | kci10 | kav | kbv | kcv=>kit_is
  case dk=>
   refine' ⟨_,_,Lw.OD.mk (Lw.fB.mk (L2.gM.mk ?pg ?hd ?po ?sa) ?n1 ?n2 ?n3 ?n4 ?n5 ?n6 ?n7 ?n8 ?n9) (L2.NO KX G ?aC ?mk ?kc ?ia ?iii ?il ?ic ?ik) (L2.jd ?a0 ?i0 ?l0 ?c0 ?k0) (L2.jd ?a1 ?i1 ?l1 ?c1 ?k1) (L2.jd ?a2 ?i2 ?l2 ?c2 ?k2) (L2.jd ?a3 ?i3 ?l3 ?c3 ?k3) (L2.jd ?a4 ?i4 ?l4 ?c4 ?k4) (L2.jd ?a5 ?i5 ?l5 ?c5 ?k5) (L2.jd ?a6 ?i6 ?l6 ?c6 ?k6) (L2.jd ?a7 ?i7 ?l7 ?c7 ?k7) (L2.jd ?a8 ?i8 ?l8 ?c8 ?k8) (L2.jd ?a9 ?i9 ?l9 ?c9 ?k9) (L2.jd ?a10 ?i10 ?l10 ?c10 ?k10) (Lw.mI.mk (L2.gM.mk ?dpg ?dhd ?dpo ?dsa) ?d1 ?d2) (L2.NO KX G ?daC ?dmk ?dkc ?dia ?dii ?dil ?dic ?dik) (L2.jd ?sa0 ?si0 ?sl0 ?sc0 ?sk0) (L2.jd ?sa1 ?si1 ?sl1 ?sc1 ?sk1)⟩
   (case aC=>k_is)
   (case daC=>k_is)
   case n1 | n2 | n3 | n4 | n5 | n6 | n7 | n8 | n9 | d1 | d2=>(unfold L2.gj; k_is)
   case pg | hd | po | sa | mk | kc | ia | iii | il | ic | ik | dpg | dhd | dpo | dsa | dmk | dkc | dia | dii | dil | dic | dik | sa0 | si0 | sl0 | sc0 | sk0 | sa1 | si1 | sl1 | sc1 | sk1 | a0 | i0 | l0 | c0 | k0 | a1 | i1 | l1 | c1 | k1 | a2 | i2 | l2 | c2 | k2 | a3 | i3 | l3 | c3 | k3 | a4 | i4 | l4 | c4 | k4 | a5 | i5 | l5 | c5 | k5 | a6 | i6 | l6 | c6 | k6 | a7 | i7 | l7 | c7 | k7 | a8 | i8 | l8 | c8 | k8 | a9 | i9 | l9 | c9 | k9 | a10 | i10 | l10 | c10 | k10=>k_is
  all_goals (refine' L2.a1B KX G ?a ?l ?c ?k; (case a=>k_is); (case l=>k_is); (case c=>k_is); (case k=>k_is))
#print axioms PySem.Challenge.cw_glidequeue_k55_fed_at_a_desk_holds
