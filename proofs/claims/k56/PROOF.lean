import PyProof.Rows.All
import Wide.All
import OpenK.AllK
import Wide.FinOn
import Lean
import PyProof.EqAt
import PyProof.EqKinds
import PyProof.TupleCall
import PySem.Challenge.RW_glidequeue_k56_asked_at_a_desk
set_option Elab.async false
set_option linter.all false
set_option compiler.extract_closed false
set_option maxRecDepth 100000
def PySem.p9(x:Lean.Syntax):Lean.Command:=⟨x.rewriteBottomUp (·.setInfo .none)⟩
noncomputable section
local macro_rules|`(command|def $i:declId $s $v:declVal)=>return PySem.p9 (<-`(command|noncomputable def $i:declId $s $v:declVal))
local macro_rules|`(command|abbrev $i:declId $s $v:declVal)=>return PySem.p9 (<-`(command|noncomputable abbrev $i:declId $s $v:declVal))
local macro_rules|`(tactic|trivial)=>`(tactic|first|exact Or.inl rfl|exact Or.inr rfl|exact Or.inr (Or.inl rfl)|exact Or.inr (Or.inr rfl)|assumption|exact fun _=>rfl|exact fun _ _=>rfl)
theorem r8_(h:True:=by rfl):True:=h
theorem q8_(h:True:=by decide):True:=h
theorem d8_(h:True:=by first|exact .inl rfl|exact .inr rfl|assumption):True:=h
theorem f8_(h:True:=by trivial):True:=h
theorem v8_(h:True:=by with_unfolding_all rfl):True:=h
theorem k8_(h:True:=by first|exact Or.inl rfl|exact Or.inr (Or.inl rfl)|exact Or.inr (Or.inr rfl)):True:=h
theorem z8_(h:True:=by first|exact Or.inl rfl|exact Or.inr rfl):True:=h
abbrev bD:=PySem.Str->Option PySem.Value
theorem ay{p:Prop}(h:autoParam (p) q8_._auto_1):p:=h
theorem aF{p:Prop}(h:p:=by decide+kernel):p:=h
theorem au {p:Prop} (h:p:=by lia):p:=h
theorem bC{p:Prop}(h:p:=by omega):p:=h
theorem Z {α : Sort _} {a : α}:a=a:=rfl
abbrev aa:=PySem.W.Frag
abbrev ae:=PySem.Shared
abbrev af:=PySem.Program
abbrev ah:=PySem.PyData
abbrev ai:=PySem.Around
abbrev aK:=@PySem.wpAny_bind
abbrev bc:=@if_pos
abbrev bf:=@if_neg
abbrev bI:=@Nat.le_refl
abbrev bM:=@List.length_map
abbrev bR:=@List.getElem?_map
abbrev bT:=@PySem.wpAny_pure
abbrev cf:=@decide_eq_true
abbrev cg:=@List.mem_cons
abbrev cm:=@PySem.Heap.lt_size
abbrev cw:=@PySem.Heap.get?_push_of_some
abbrev cy:=@List.getElem?_eq_getElem
abbrev cK:=@PySem.strLen_append
abbrev cW:=@List.mem_singleton
abbrev cY:=@List.mem_map
abbrev dv:=@PySem.intBits_le_64
abbrev dw:=@List.getElem?_eq_some_iff
abbrev dE:=@decide_eq_false
abbrev dG:=@Option.some.inj
abbrev dH:=@PySem.Heap.get?_push_size
abbrev dP:=@List.size_toArray
abbrev dQ:=@Bool.false_ne_true
abbrev dY:=@Int.le_refl
abbrev eH:=@Rat.le_trans
abbrev eK:=@Bool.and_eq_true
abbrev eR:=@Nat.ne_of_lt
abbrev eT:=@List.not_mem_nil
abbrev fc:=@List.mem_of_getElem?
abbrev fe:=@List.length_append
abbrev fm:=@beq_iff_eq
abbrev fC:=@Nat.zero_le
abbrev fD:=@Nat.lt_of_lt_of_le
abbrev fU:=@List.all_eq_true
abbrev gm:=@PyProof.Rows.boot_str
abbrev gp:=@List.length_cons
abbrev gq:=@Int.pow_succ
abbrev gH:=@Nat.le_trans
abbrev gT:=@PySem.PassesOwn.never
abbrev gU:=@Int.natAbs_mul
abbrev iz:=@PySem.wpAny_field
abbrev iA:=@Bool.true_and
abbrev iB:=@Bool.false_and
abbrev iS:=@PySem.wpAny_mono
abbrev iT:=@or_false
abbrev iU:=@PyProof.Rows.boot_tuple
abbrev iV:=@Ne.symm
abbrev jf:=@List.lookup_cons
abbrev jg:=@Bool.eq_iff_iff
abbrev jE:=@PySem.wpAny_holding
abbrev jF:=@List.mem_append_right
abbrev jG:=@List.map_append
abbrev jH:=@Int.mul_pos
abbrev kg:=@of_decide_eq_true
abbrev kh:=@PyProof.Rows.boot_isinstance
abbrev ki:=@List.mem_append
abbrev kj:=@Int.mul_nonneg
abbrev kJ:=@Array.length_toList
abbrev lW:=@congrArg
abbrev lX:=@Int.one_mul
abbrev ny:=@PySem.wpAny_truthy_bool
abbrev nC:=@PySem.wpAny_newObj_type
abbrev nH:=@List.mem_filterMap
abbrev nK:=@PySem.IntMulOk.of_bits
abbrev nN:=@Int.pow_zero
abbrev nO:=@Array.toList_append
abbrev p8:=@Nat.lt_trans
abbrev p9:=@List.mem_iff_getElem?
abbrev ph:=@PySem.Heap.size_push
abbrev qH:=@PySem.StrLaws.glued_eq_join
abbrev qI:=@PySem.Str.cps_append
abbrev qJ:=@Nat.pow_le_pow_right
abbrev qK:=@Nat.mul_le_mul
abbrev qL:=@Nat.lt_irrefl
abbrev qM:=@List.map_cons
abbrev qN:=@List.getElem?_eq_none
abbrev qO:=@List.append_nil
abbrev qP:=@Int.emod_nonneg
abbrev tK:=@PySem.wpAny_seqItems
abbrev tL:=@PySem.call_meets
abbrev tN:=@Rat.num_divInt_den
abbrev tO:=@Rat.le_refl
abbrev tP:=@PySem.W.mg_of
abbrev tQ:=@Nat.pow_succ
abbrev tR:=@List.length_take
abbrev tS:=@Int.emod_lt_of_pos
abbrev vG:=@PySem.wpAny_passesOwn
abbrev vI:=@PySem.wpAny_call
abbrev vJ:=@PySem.codeAny_mono
abbrev vK:=@Rat.divInt_nonneg_iff_of_pos_right
abbrev vL:=@PyProof.Rows.callWith_type1
abbrev vM:=@PyProof.Rows.boot_int
abbrev vN:=@PyProof.Rows.boot_abs
abbrev vO:=@Nat.ne_of_gt
abbrev vP:=@List.take_succ
abbrev vQ:=@List.take_length
abbrev vR:=@List.of_mem_zip
abbrev vS:=@List.mem_cons_of_mem
abbrev vT:=@List.length_set
abbrev vU:=@List.getElem_mem
abbrev vV:=@List.getElem?_append_left
abbrev vW:=@List.any_cons
abbrev vX:=@List.all_cons
abbrev yN:=@PySem.wpAny_setField_rec
abbrev yO:=@PySem.wpAny_pyIter_list
abbrev yP:=@PySem.wpAny_of_eq
abbrev yQ:=@PySem.wpAny_execs_nil
abbrev yR:=@PySem.wpAny_Call_Name_kw
abbrev yS:=@PySem.typeIs_str
abbrev yT:=@PySem.sizeLine_eq
abbrev yU:=@PySem.F.plainAttrs_str
abbrev yV:=@PyProof.Rows.boot_all
abbrev yW:=@Option.map_eq_some_iff
abbrev yX:=@List.take_of_length_le
abbrev yY:=@List.mem_of_mem_take
abbrev yZ:=@List.getElem_range
abbrev z9:=@List.getElem?_append_right
abbrev zb:=@Int.mul_one
abbrev zc:=@Int.mul_le_mul
abbrev zd:=@PySem.Heap.get?_update_other
abbrev ze:=@Bool.not_eq_true'
abbrev zf:=@Bool.and_true
abbrev C4:=@PySem.wpAny_standAt
abbrev C5:=@PySem.wpAny_specialOf
abbrev C6:=@PySem.wpAny_setField
abbrev C7:=@PySem.wpAny_onRaise
abbrev C8:=@PySem.wpAny_call_entry
abbrev C9:=@PySem.wpAny_callSpecial?_slot
abbrev Ca:=@PySem.wpAny_attempt
abbrev Cb:=@PySem.W.looks_findIn
abbrev Cc:=@decide_eq_true_eq
abbrev Cd:=@PyProof.Rows.assignInOrder_cons
abbrev Ce:=@PySem.Str.empty_append
abbrev Cf:=@Rat.not_lt
abbrev Cg:=@PySem.mem_of_lookup
abbrev Ci:=@PySem.W.callWith_K
abbrev Cj:=@PySem.Obj.data_mapFields
abbrev Ck:=@Nat.lt_of_le_of_lt
abbrev Cm:=@Nat.le_of_lt
abbrev Co:=@List.map_set
abbrev Cp:=@List.length_singleton
abbrev Cq:=@List.length_pos_iff
abbrev Cr:=@Int.zero_mul
abbrev Ct:=@Int.mul_le_mul_of_nonneg_right
abbrev Cu:=@Int.mul_comm
abbrev Cv:=@Int.mul_assoc
abbrev Cw:=@Bool.eq_false_iff
abbrev Cy:=@Bool.and_false
abbrev K5:=@PySem.intText_digits
abbrev K6:=@decide_eq_true_iff
abbrev K7:=@PySem.codeAny_call_builtin
abbrev K8:=@PySem.codeAny_builtin
abbrev K9:=@beq_self_eq_true
abbrev Ka:=@beq_eq_false_iff_ne
abbrev Kb:=@Std.lt_of_le_of_ne
abbrev Kc:=@Rat.num_nonneg
abbrev Kd:=@Rat.le_antisymm
abbrev Ke:=@PySem.W.hideAll_get
abbrev Kf:=@PySem.W.cellsFrom_some
abbrev Kg:=@PySem.F.slot_zip_next
abbrev Kh:=@PySem.F.slot_tuple_iterator_next
abbrev Ki:=@PySem.F.plainAttrs_list
abbrev Kj:=@PySem.F.excAttr_ValueError
abbrev Kk:=@PyProof.Rows.boot_list
abbrev Kl:=@Nat.sub_self
abbrev Km:=@Nat.mul_comm
abbrev Kn:=@Nat.lt_succ_of_lt
abbrev Ko:=@List.nodup_cons
abbrev Kp:=@List.mem_cons_self
abbrev Kq:=@List.mem_append_left
abbrev Kr:=@List.map_map
abbrev Ks:=@List.length_drop
abbrev Kt:=@List.getElem?_zip_eq_some
abbrev Ku:=@List.getElem?_set_self
abbrev Kv:=@List.forIn_cons
abbrev Kw:=@List.ext_getElem?
abbrev Kx:=@List.all_nil
abbrev Ky:=@Int.mul_ne_zero
abbrev Kz:=@Int.mul_le_mul_of_nonneg_left
abbrev KA:=@Int.le_of_lt
abbrev KD:=@PySem.Heap.get?_update_self
abbrev KG:=@Array.getElem?_eq_some_iff
abbrev KH:=@Array.getElem?_eq_getElem
abbrev KI:=@Array.all_eq_true_iff_forall_mem
abbrev UH:=@PySem.wpAny_updateSeq_pair
abbrev UI:=@PySem.wpAny_pyIter_rangeiter
abbrev UJ:=@PySem.wpAny_newFunctionEnv_cells
abbrev UK:=@ne_true_of_eq_false
abbrev UL:=@PySem.int_text_length_le10
abbrev UM:=@PySem.codeAny_call_function
abbrev UN:=@Rat.intCast_lt_intCast
abbrev UO:=@Rat.divInt_sub_divInt
abbrev UP:=@Rat.divInt_mul_divInt
abbrev UQ:=@PySem.ofString_length
abbrev UR:=@PySem.W.plainGet_of
abbrev US:=@PySem.W.codeRec_of
abbrev UT:=@PySem.F.slot_tuple_add
abbrev UU:=@PySem.F.excBase_ValueError
abbrev UW:=@PySem.F.entry_tuple_add
abbrev UX:=@PySem.F.args_tuple_add_2
abbrev UY:=@PyProof.noPylong_of_log2
abbrev UZ:=@PyProof.Rows.slot_tuple_getitem
abbrev V0:=@PyProof.Rows.boot_min
abbrev V1:=@PyProof.Rows.boot_max
abbrev V2:=@PyProof.Rows.boot_any
abbrev V3:=@PySem.Obj.isFreed_of_fields
abbrev V4:=@Nat.toDigits_of_lt_base
abbrev V5:=@Nat.lt_succ_self
abbrev V6:=@Nat.le_of_ble_eq_true
abbrev V7:=@List.mem_iff_getElem
abbrev V8:=@List.map_reverse
abbrev V9:=@List.length_eq_zero_iff
abbrev Va:=@List.getLastD_eq_getLast?
abbrev Vb:=@List.getLast?_eq_some_getLast
abbrev Vc:=@List.getElem_set_self
abbrev Vd:=@List.getElem?_set_ne
abbrev Ve:=@List.foldl_append
abbrev Vf:=@List.filterMap_cons
abbrev Vg:=@List.append_assoc
abbrev Vh:=@List.any_eq_true
abbrev Vi:=@Int.toNat_natCast
abbrev Vj:=@Int.natAbs_natCast
abbrev Vk:=@Int.mul_nonneg_of_nonpos_of_nonpos
abbrev Vl:=@Int.lt_trichotomy
abbrev Vm:=@Int.fmod_eq_emod_of_nonneg
abbrev Vn:=@PySem.F.slot_range_reversed
abbrev Vo:=@PySem.Calls.evalArgs_plain
abbrev Vp:=@Bool.beq_eq_decide_eq
abbrev Vq:=@Array.getElem?_toList
abbrev Vr:=@PySem.Around.under_plainId
abbrev acU:=@PySem.F.entry_tuple_iterator_next
abbrev acV:=@PySem.F.args_tuple_iterator_next_1
namespace _L
open PySem PySem.Spec PyProof.Rows
abbrev Key:=Sum Int Str
def QF:Key->Value->Bool | .inl k,v=>Value.isInt k v | .inr x,v=>Value.isStrOf x v
def a3G(w:World):Key->Int | .inl k=>hashInt k | .inr x=>hashStr w x
theorem ou:∀{k:Key}{v:Value},QF k v=true->(∃i t,k=Sum.inl i/\v=Value.int i t)\/(∃x t,k=Sum.inr x/\v=Value.str x t) | .inl i,v,h=>by obtain⟨t,e⟩:=Value.isInt_shape (k:=i) (v:=v) h;exact .inl ⟨i,t,Z,e⟩ | .inr x,v,h=>by obtain⟨t,e⟩:=Value.isStrOf_shape (x:=x) (v:=v) h;exact .inr ⟨x,t,Z,e⟩
theorem a3F(a b:Int):decide ((Sum.inl a:Key)=Sum.inl b)=(a==b):=by
 by_cases e:a=b
 ·subst e;simp
 ·have h:¬(Sum.inl a:Key)=Sum.inl b:=λq=>e (Sum.inl.inj q)
  rw[dE h];exact(Ka.mpr e).symm
theorem a3C(a b:Str):decide ((Sum.inr a:Key)=Sum.inr b)=decide (a=b):=by
 by_cases e:a=b
 ·subst e;simp
 ·have h:¬(Sum.inr a:Key)=Sum.inr b:=λq=>e (Sum.inr.inj q)
  rw[dE h,dE e]
theorem a3E(a:Int)(b:Str):decide ((Sum.inl a:Key)=Sum.inr b)=false:=dE (λq=>nomatch q)
theorem a3D(a:Str)(b:Int):decide ((Sum.inr a:Key)=Sum.inl b)=false:=dE (λq=>nomatch q)
def GR(prog:af)(w:World):PySem.KeyKind prog w Key where
 is:=QF
 hash:=a3G w
 inj:=λv a b ha hb=>by
  rcases ou ha with⟨i,t,rfl,rfl⟩|⟨x,t,rfl,rfl⟩
  ·rcases ou hb with⟨j,u,rfl,e⟩|⟨y,u,rfl,e⟩
   ·injection e with e1 _;rw[e1]
   ·exact nomatch e
  ·rcases ou hb with⟨j,u,rfl,e⟩|⟨y,u,rfl,e⟩
   ·exact nomatch e
   ·injection e with e1 _;rw[e1]
 byValue:=λk v h=>by rcases ou h with⟨i,t,rfl,rfl⟩|⟨x,t,rfl,rfl⟩<;>rfl
 pyHash:=λhv h=>by
  rcases ou hv with⟨i,t,rfl,rfl⟩|⟨x,t,rfl,rfl⟩
  ·exact wpAny_pyHash_int h
  ·exact wpAny_pyHash_str h
 eqBool:=λhu hv h=>by
  rcases ou hu with⟨i,t,rfl,rfl⟩|⟨x,t,rfl,rfl⟩
  ·rcases ou hv with⟨j,u,rfl,rfl⟩|⟨y,u,rfl,rfl⟩
   ·rw[a3F]at h;exact wpAny_eqBool_int h
   ·rw[a3E]at h;exact SeqAt.EqAt.int_str i t y u _ _ _ _ h
  ·rcases ou hv with⟨j,u,rfl,rfl⟩|⟨y,u,rfl,rfl⟩
   ·rw[a3D]at h;exact SeqAt.EqAt.str_int x t j u _ _ _ _ h
   ·rw[a3C]at h;exact wpAny_eqBool_str h
 «strs»:=λk x t v h=>by
  rcases ou h with⟨i,u,rfl,e⟩|⟨y,u,rfl,e⟩
  ·exact nomatch e
  ·injection e with e1 _
   subst e1;cases v<;>rfl
inductive V where |bw|bl (b:Bool)|int (i:Int)|str (x:Str)|jz (b:Array UInt8)|BA (b:UInt64)|ref (a:Addr)|ty (n:String) deriving DecidableEq
def RelV:V->Value->Prop | .bw,u=>u=Value.none | .bl b,u=>u=Value.bool b | .int i,u=>∃t,u=Value.int i t | .str x,u=>∃t,u=Value.str x t | .jz b,u=>∃t,u=Value.bytes b t | .BA b,u=>∃t,u=Value.float b t | .ref a,u=>u=Value.ref a | .ty n,u=>u=Value.type n
abbrev Vals:List V->List Value->Prop:=Paired RelV
theorem Vals.length{xs:List V}{us:List Value}(r:Vals xs us):xs.length=us.length:=Paired.length r
theorem Vals.get:∀{xs:List V}{us:List Value}{i:Nat}{x:V},Vals xs us->xs[i]? =some x->∃u,us[i]? =some u/\RelV x u |_,_,_,_,.nil,e=>by simp at e |_,_,0,_,.cons r _,e=>by simp at e;subst e;exact⟨_,rfl,r⟩ |_,_,i+1,x,.cons _ t,e=>by obtain⟨u,h1,h2⟩:=Vals.get (i:=i) (x:=x) t (by simpa using e);exact⟨u,by simpa using h1,h2⟩
theorem Vals.set{x:V}{u:Value}(r:RelV x u):∀{xs:List V}{us:List Value}(i:Nat),Vals xs us->Vals (xs.set i x) (us.set i u) |_,_,_,.nil=>.nil |_,_,0,.cons _ t=>.cons r t |_,_,i+1,.cons q t=>.cons q (Vals.set r i t)
theorem Vals.append:∀{xs ys:List V}{us ws:List Value},Vals xs us->Vals ys ws->Vals (xs++ys) (us++ws) |_,_,_,_,.nil,s=>s |_,_,_,_,.cons r t,s=>.cons r (Vals.append t s)
theorem Vals.take:∀{xs:List V}{us:List Value}(n:Nat),Vals xs us->Vals (xs.take n) (us.take n) |_,_,0,_=>.nil |_,_,_+1,.nil=>.nil |_,_,n+1,.cons r t=>.cons r (Vals.take n t)
theorem Vals.drop:∀{xs:List V}{us:List Value}(n:Nat),Vals xs us->Vals (xs.drop n) (us.drop n) |_,_,0,r=>r |_,_,_+1,.nil=>.nil |_,_,n+1,.cons _ t=>Vals.drop n t
def ng:Option V->Option Value->Prop |some v,some u=>RelV v u |none,none=>True |_,_=>False
def KV{κ:Type}:List (κ×V)->List (κ×Value)->Prop:=Paired λ(p:κ×V)(q:κ×Value)=>p.1=q.1/\RelV p.2 q.2
def kV:Key->V | .inl i=>.int i | .inr x=>.str x
inductive HO where /--a list -/ |lst (xs:List V) /--a tuple (never changes) -/ |tup (xs:List V) /--a dict VD keys are ints and texts; one VD keys are tuples of ints and texts (tY empty one is both) -/ |dK (dJ:List (Key×V))|dT (dJ:List (List Key×V)) /--a set of ints: its members,its size -/ |set (S:Int->Bool)(n:Nat) /--an instance of tY class at C,its dict at dx,its attributes -/ |ins (C dx:Addr)(fs:List (Str×V)) /--tY dict of tY instance at x -/ |own (x:Addr) /--tY dict of an exception -/ |xd (fs:List (Str×V)) /--a bound method,f of x -/ |met (f x:Addr) /--a range object lo,lo+1,.. below hi -/ |rn (lo hi:Int) /--a Wl acZ is known to tY object (tY ad4; a dict while a loop walks it): read,never written while it is so -/ |lL (o:Obj)(u:HO) /--a code ade table -/ |nQ (ps:Array Value) /--any other Wl,by what is true of its one object (a def of adb own: aeb a S n:=HO.ext λh=>..) -/ |ext (φ:Heap->Prop)
abbrev Hp:=Addr->Option HO
def upd(H:Hp)(a:Addr)(o:HO):Hp:=λb=>if b=a then some o else H b
theorem bW{H:Hp}{a:Addr}{o:HO}:upd H a o a=some o:=by unfold upd;rw[bc rfl]
theorem aU{H:Hp}{a b:Addr}{o:HO}(h:b≠a):upd H a o b=H b:=by unfold upd;rw[bf h]
theorem xj{H:Hp}{a b:Addr}{o u:HO}(h:H a=some o)(h':H b=some u)(d:o≠u):a≠b:=by intro e;subst e;rw[h]at h';exact d (dG h')
theorem fY{H:Hp}{a b:Addr}{o:HO}(h:H a=some o)(h':H b=none):a≠b:=by intro e;subst e;rw[h]at h';cases h'
section
variable (P:af) (w:World)
def gj(H:Hp)(h:Heap)(a:Addr):HO->Prop | .lst xs=>xs.length<=sizeLine/\∃(its:List Value)(n:Nat),Vals xs its/\h.get? a=some {cls:=.type "list",data:=.seq its.toArray n} | .tup xs=>xs.length<=sizeLine/\∃its:List Value,Vals xs its/\IsTup h a its.toArray | .dK dJ=>dJ.length<=sizeLine/\(a==sysModules)=false/\∃vs,KV dJ vs/\h.DictOf (GR P w) a vs | .dT dJ=>dJ.length<=sizeLine/\(a==sysModules)=false/\∃xs:List (List Key×Addr×Value),Paired (λ(p:List Key×V)(q:List Key×Addr×Value)=>p.1=q.1/\H q.2.1=some (.tup (p.1.map kV))/\RelV p.2 q.2.2) dJ xs/\∃o es ep,h.get? a=some o/\o.ExactDict/\o.data= .dict es ep/\es.toList=xs.map (entryOfKey (tupleKind (GR P w)))/\(xs.map (·.1)).Nodup | .set S n=>h.SetOf (intKind P w) a S n | .ins C dx fs=>H dx=some (.own a)/\fs.length<=1000/\dx≠a/\h.get? a=some (PySem.W.instObj C dx)/\∃mA,h.Ns1 dx mA/\(∀f,ng (fs.lookup f) (mA f))/\PySem.Within mA (fs.map (·.1)) | .own _=>∃o,h.get? a=some o | .xd fs=>∃mA,h.Ns1 a mA/\∀f,ng (fs.lookup f) (mA f) | .rn lo hi=>∃t u v,h.get? a=some {cls:=.type "range",data:=.fields #[.int lo t,.int hi u,.int 1 v]} | .lL o u=>h.get? a=some o/\gj H h a u | .nQ ps=>h.get? a=some {cls:=.none,data:=.fields ps} | .met f x=>h.get? a=some (PySem.W.methodObj (.ref f) (.ref x)) | .ext φ=>φ h/\(∃o,h.get? a=some o)/\∀h1 h2:Heap,φ h1->(∀o,h1.get? a=some o->h2.get? a=some o)->φ h2
def eF(H:Hp)(h:Heap):Prop:=∀a o,H a=some o->gj P w H h a o
end
section
variable {P:af}{w:World}{H H':Hp}{h h':Heap}{a:Addr}{o:HO}
theorem gj.lt(x:gj P w H h a o):a<h.objs.size:=by cases o with |lst xs=>obtain⟨_,_,_,_,e⟩:=x;exact cm e |tup xs=>obtain⟨_,_,_,p⟩:=x;exact p.lt |dK dJ=>obtain⟨_,_,_,_,o,_,_,e,_⟩:=x;exact cm e |dT dJ=>obtain⟨_,_,_,_,o,_,_,e,_⟩:=x;exact cm e |set S n=>obtain⟨o,_,_,_,e,_⟩:=x;exact cm e |ins C dx fs=>obtain⟨_,_,_,e,_⟩:=x;exact cm e |own y=>obtain⟨_,e⟩:=x;exact cm e |xd fs=>obtain⟨_,⟨_,_,_,e,_⟩,_⟩:=x;exact cm e |rn lo hi=>obtain⟨_,_,_,e⟩:=x;exact cm e |lL ob u=>obtain⟨e,_⟩:=x;exact cm e |nQ ps=>exact cm (show h.get? a=some _ from x) |met f y=>exact cm (show h.get? a=some _ from x) |ext φ=>obtain⟨_,⟨_,e⟩,_⟩:=x;exact cm e
theorem Paired.Qe{α β:Type}{F G:α->β->Prop}:∀{l₁:List α}{l₂:List β},Paired F l₁ l₂->(∀a b,F a b->G a b)->Paired G l₁ l₂ |_,_,.nil,_=>.nil |_,_,.cons r t,f=>.cons (f _ _ r) (Paired.Qe t f)
theorem gj.m6(x:gj P w H h a o)(k:∀b u,(b=a\/H b=some (.own a))->h.get? b=some u->h'.get? b=some u) (ho:∀b,H b=some (.own a)->H' b=some (.own a))(ht:∀b xs,H b=some (.tup xs)->H' b=some (.tup xs)):gj P w H' h' a o:=by induction o with |lst xs=>obtain⟨z,its,n,r,e⟩:=x;exact⟨z,its,n,r,k _ _ (.inl Z) e⟩ |tup xs=>obtain⟨z,its,r,ob,e,c⟩:=x;exact⟨z,its,r,ob,k _ _ (.inl Z) e,c⟩ |dK dJ=>obtain⟨z,y,vs,r,ob,es,ep,e,c⟩:=x;exact⟨z,y,vs,r,ob,es,ep,k _ _ (.inl Z) e,c⟩ |dT dJ=>obtain⟨z,y,xs,r,ob,es,ep,e,c⟩:=x;exact⟨z,y,xs,Paired.Qe r λp q z=>⟨z.1,ht _ _ z.2.1,z.2.2⟩,ob,es,ep,k _ _ (.inl Z) e,c⟩ |set S n=>obtain⟨ob,es,ep,t,e,c⟩:=x;exact⟨ob,es,ep,t,k _ _ (.inl Z) e,c⟩ |ins C dx fs=>obtain⟨d,z,ne,e,mA,⟨od,es,ep,e2,c⟩,r⟩:=x;exact⟨ho _ d,z,ne,k _ _ (.inl Z) e,mA,⟨od,es,ep,k _ _ (.inr d) e2,c⟩,r⟩ |own y=>obtain⟨ob,e⟩:=x;exact⟨ob,k _ _ (.inl Z) e⟩ |xd fs=>obtain⟨mA,⟨od,es,ep,e,c⟩,r⟩:=x;exact⟨mA,⟨od,es,ep,k _ _ (.inl Z) e,c⟩,r⟩ |rn lo hi=>obtain⟨t,u,v,e⟩:=x;exact⟨t,u,v,k _ _ (.inl Z) e⟩ |lL ob u ih=>obtain⟨e,q⟩:=x;exact⟨k _ _ (.inl Z) e,ih q⟩ |nQ ps=>have e:h.get? a=some {cls:=.none,data:=.fields ps}:=x;show h'.get? a=some {cls:=.none,data:=.fields ps};exact k a _ (.inl Z) e |met f y=>have e:h.get? a=some (PySem.W.methodObj (.ref f) (.ref y)):=x;show h'.get? a=some (PySem.W.methodObj (.ref f) (.ref y));exact k a _ (.inl Z) e |ext φ=>obtain⟨p,⟨o,e⟩,st⟩:=x;exact⟨st _ _ p λo q=>k _ _ (.inl Z) q,⟨o,k _ _ (.inl Z) e⟩,st⟩
theorem eF.lt(x:eF P w H h)(e:H a=some o):a<h.objs.size:=(x a o e).lt
theorem eF.fresh(x:eF P w H h)(e:h.objs.size<=a):H a=none:=by cases q:H a with |none=>rfl |some u=>exact absurd (fD (x.lt q) e) (qL _)
theorem eF.kept(x:eF P w H h)(k:∀b u,h.get? b=some u->h'.get? b=some u):eF P w H h':=λa o e=>(x a o e).m6 (λb u _ q=>k b u q) (λ_ q=>q) λ_ _ q=>q
theorem eF.laid(x:eF P w H h)(k:∀b u,h.get? b=some u->h'.get? b=some u)(hp:h.objs.size<=a)(new:gj P w (upd H a o) h' a o):eF P w (upd H a o) h':=λb u e=>by
 have hn:=x.fresh hp;by_cases hb:b=a
 ·subst hb;rw[bW]at e;cases e;exact new
 ·rw[aU hb]at e
  exact(x b u e).m6 (λc v _ q=>k c v q) (λc q=>by rw[aU (fY q hn)];exact q) λc xs q=>by rw[aU (fY q hn)];exact q
end
def Rd(H:Hp)(a:Addr)(u:HO):Prop:=H a=some u\/∃o,H a=some (.lL o u)
theorem Rd.ok{P:af}{w:World}{H:Hp}{h:Heap}{a:Addr}{u:HO}(r:Rd H a u)(x:eF P w H h):gj P w H h a u:=by
 rcases r with r|⟨o,r⟩
 ·exact x a u r
 ·obtain⟨_,q⟩:=x a _ r
  exact q
def C3:Option HO->Prop |some (.lst _)=>True |some (.dK _)=>True |some (.dT _)=>True |some (.set _ _)=>True |some (.ins _ _ _)=>True |some (.ext _)=>True |_=>False
section
variable {P:af}{w:World}{H:Hp}{h h':Heap}{x e:Addr}{o':HO}
theorem eF.write(ok:eF P w H h)(mu:C3 (H x))(he:e=x\/H e=some (.own x))(k:∀b u,b≠e->h.get? b=some u->h'.get? b=some u)(uW:∃u,h'.get? e=some u) (new:gj P w (upd H x o') h' x o'):eF P w (upd H x o') h':=λb u q=>by
 have PB:∀c y,H c=some (.own y)->c≠x:=λc y r z=>by subst z;rw[r]at mu;exact mu
 have a1T:∀c xs,H c=some (.tup xs)->c≠x:=λc xs r z=>by subst z;rw[r]at mu;exact mu
 by_cases hb:b=x
 ·subst hb;rw[bW]at q;cases q;exact new
 ·rw[aU hb]at q
  by_cases sM:b=e
  ·have q':H b=some (.own x):=by
    rcases he with z|z
    ·exact absurd (sM.trans z) hb
    ·rw[sM];exact z
   rw[q]at q';cases q';obtain⟨v,hv⟩:=uW;exact⟨v,by rw[sM];exact hv⟩
  ·refine(ok b u q).m6 (λc v hc r=>k c v ?_ r) (λc r=>by rw[aU (PB c b r)];exact r) λc xs r=>by rw[aU (a1T c xs r)];exact r
   rcases hc with rfl|hc
   ·exact sM
   ·rintro rfl
    rcases he with z|z
    ·exact PB c b hc z
    ·rw[hc]at z;cases z;exact hb rfl
end
structure Un(fs ex:List Addr)(H H':Hp)(h h':Heap):Prop where
 keep:∀b o,h.get? b=some o->H b=none->b∉fs->b∉ex->h'.get? b=some o
 slot:∀b o,h.get? b=some o->H b=none->b∈fs->b∉ex->∃sl,h'.get? b=some {o with slots:=sl}
 free:∀b o,h.get? b=some o->H b=none->b∉ex->H' b=none
 there:∀b o,h.get? b=some o->b∉ex->∃o',h'.get? b=some o'
 jj:∀b xs,H b=some (.tup xs)->H' b=some (.tup xs)
 j7:∀b o u,H b=some (.lL o u)->H' b=some (.lL o u)
 jk:∀b ps,H b=some (.nQ ps)->∃more,H' b=some (.nQ (ps++more))
section
variable {fs lK ex ja:List Addr}{H H1 H2:Hp}{h h1 h2 h':Heap}{a x e:Addr}{o:HO}
theorem Un.any(u:Un fs ex H H1 h h1){b:Addr}{ob:Obj}(q:h.get? b=some ob)(n:H b=none)(hx:b∉ex):∃sl,h1.get? b=some {ob with slots:=sl}:=by
 by_cases hb:b∈fs
 ·exact u.slot b ob q n hb hx
 ·exact⟨ob.slots,u.keep b ob q n hb hx⟩
theorem Un.kept(k:∀b u,h.get? b=some u->h'.get? b=some u):Un fs ex H H h h':=⟨λb ob q _ _ _=>k b ob q,λb ob q _ _ _=>⟨ob.slots,k b ob q⟩,λ_ _ _ n _=>n,λb ob q _=>⟨ob,k b ob q⟩,λ_ _ q=>q,λ_ _ _ q=>q,λ_ ps q=>⟨#[],by rw[q];simp⟩⟩
theorem Un.refl:Un fs ex H H h h:=Un.kept λ_ _ q=>q
theorem Un.laid(k:∀b u,h.get? b=some u->h'.get? b=some u)(hp:h.objs.size<=a)(hn:H a=none):Un fs ex H (upd H a o) h h' where
 keep:=λb u q _ _ _=>k b u q
 slot:=λb u q _ _ _=>⟨u.slots,k b u q⟩
 free:=λb u q n _=>by rw[aU (eR (fD (cm q) hp))];exact n
 there:=λb u q _=>⟨u,k b u q⟩
 jj:=λb xs q=>by rw[aU (fY q hn)];exact q
 j7:=λb u xs q=>by rw[aU (fY q hn)];exact q
 jk:=λb ps q=>⟨#[],by rw[aU (fY q hn),q];simp⟩
theorem Un.write(mu:C3 (H x))(he:e=x\/H e=some (.own x))(k:∀b u,b≠e->h.get? b=some u->h'.get? b=some u)(uW:∃u,h'.get? e=some u):Un fs ex H (upd H x o) h h':=by
 have hx:∀b,H b=none->b≠x:=λb n z=>by subst z;rw[n]at mu;exact mu
 have hb:∀b,H b=none->b≠e:=λb n z=>by
  subst z;rcases he with r|r
  ·exact hx b n r
  ·rw[n]at r;cases r
 have hm:∀b u,H b=some u->¬C3 (some u)->b≠x:=λb u q nm z=>by subst z;rw[q]at mu;exact nm mu
 refine⟨λb u q n _ _=>k b u (hb b n) q,λb u q n _ _=>⟨u.slots,k b u (hb b n) q⟩,λb u q n _=>by rw[aU (hx b n)];exact n,λb u q _=>?_,λb xs q=>by rw[aU (hm b _ q λz=>z)];exact q,λb u xs q=>by rw[aU (hm b _ q λz=>z)];exact q,λb ps q=>⟨#[],by rw[aU (hm b _ q λz=>z),q];simp⟩⟩;by_cases sM:b=e
 ·subst sM;exact uW
 ·exact⟨u,k b u sM q⟩
end
def zx(h:Heap)(H:Hp):List Addr:=(List.range h.objs.size).filter λa=>(H a).isSome
def oE(h:Heap)(H:Hp):Heap:=PySem.W.hideAll h (zx h H)
theorem a5f(h:Heap)(H:Hp):(oE h H).objs.size=h.objs.size:=PySem.W.hideAll_size _ _
theorem a5g{h:Heap}{H:Hp}{b:Addr}{o:Obj}(e:h.get? b=some o)(n:H b=none):(oE h H).get? b=some o:=Ke _ e λhm=>by have q:(H b).isSome=true:=(List.mem_filter.mp hm).2;rw[n]at q;simp at q
theorem a1K{h:Heap}{H:Hp}{b:Addr}{o:Obj}(e:(oE h H).get? b=some o):h.get? b=some o/\H b=none:=by have e':h.get? b=some o:=PySem.W.of_hideAll (zx h H) e;refine⟨e',?_⟩;cases q:H b with |none=>rfl |some x=>have hm:b∈zx h H:=List.mem_filter.mpr ⟨List.mem_range.mpr (cm e'),by simp[q]⟩;have z:(oE h H).get? b=none:=PySem.W.hideAll_none (zx h H) hm;rw[z]at e;cases e
structure Mod(K:aa)(mg:bD)(ao:Heap):Prop where
 mJ:K.In ao
 glob:ao.Ns mainGlobals mg
 blt:∃mb,ao.Ns builtinsNs mb/\∀x:Str,x≠"__name__"->mb x=bootBuiltins x
 nolimit:ao.NoLimit
structure Cx where
 prog:af
 w:World
 K:aa
 mg:bD
 ao:Heap
 A:ai
 N:List Str
 s₀:ae
 H₀:Hp
 env:Env
 outer:List Env
 stack:List Env
 ex:List Addr
 fn:Str->Bool
 calm:Bool
 pn:List (Addr×Obj)
 xe:Value->ae->Prop
def eu(l:List Env):List Addr:=l.filterMap (·.frame)
abbrev Cx.fs(X:Cx):List Addr:=eu X.outer
def BW(sc:Scope)(x:Str):Prop:=sc.names.lookup x=some .local\/sc.names.lookup x=some .cell\/sc.names.lookup x=some .free
def Loc(sc:Scope)(x:Str):Prop:=sc.names.lookup x=some .local\/sc.names.lookup x=some .cell
def Look(env:Env)(h:Heap)(m:bD)(x:Str)(u:Value):Prop:=(env.kindOf x=some .local/\m x=some u)\/((env.kindOf x=some .cell\/env.kindOf x=some .free)/\∃c,env.cells.lookup x=some c/\h.IsCell c (some u))
structure Cx.Ok(X:Cx):Prop where
 mod:Mod X.K X.mg X.ao
 kind:X.env.scope.kind= .function
 glob:X.env.globals=mainGlobals
 blt:X.env.builtins=builtinsNs
 above:X.s₀.heap.objs.size<=X.env.locals
 inj:∀x y c,X.env.cells.lookup x=some c->X.env.cells.lookup y=some c->x=y
 has:∀x,(X.env.kindOf x=some .cell\/X.env.kindOf x=some .free)->∃c,X.env.cells.lookup x=some c
 qz:∀x c,X.fn x=true->X.env.cells.lookup x=some c->X.s₀.heap.objs.size<=c
 hd:X.calm=true->X.A.handled=none
 frames:X.A.frames=some X.stack
 qW:X.stack=X.outer\/(X.stack=X.env::X.outer/\X.env.frame=some X.env.locals)
 yk:∀b∈X.ex,b≠X.env.locals/\∀x c,X.env.cells.lookup x=some c->c≠b
 bs:∀b o,X.ao.get? b=some o->X.s₀.heap.get? b=some o/\X.H₀ b=none
 jY:X.ao.objs.size<=X.s₀.heap.objs.size
 pP:∀b o,X.ao.get? b=some o->b∉X.ex
 oP:∀b∈X.ex,b∉X.fs
 iK:X.s₀.heap.FunFrames X.ao X.outer
 lM:∀b∈X.fs,X.H₀ b=none
structure Inv(X:Cx)(pins:List (Addr×Obj))(O:List (Option V))(H:Hp)(s:ae):Prop where
 ok:X.Ok
 os:s.os=X.s₀.os
 bare:AllBare s.gens
 ao:Un X.fs X.ex X.H₀ H X.s₀.heap s.heap
 loc:∃m,s.heap.Ns X.env.locals m/\∀(i:Nat)(x:Str)(v:V),X.N[i]? =some x->O[i]? =some (some v)->BW X.env.scope x->∃u,RelV v u/\Look X.env s.heap m x u
 cell:∀x c,X.env.cells.lookup x=some c->∃v,s.heap.IsCell c v
 free:H X.env.locals=none
 j9:∀x c,X.env.cells.lookup x=some c->H c=none
 pin:∀p∈X.pn++pins,s.heap.get? p.1=some p.2/\H p.1=none/\p.1≠X.env.locals/\p.1∉X.fs/\∀v,p.2.data≠ .cell v
 bp:eF X.prog X.w H s.heap
 len:O.length=X.N.length
section
variable {X:Cx}{pins:List (Addr×Obj)}{O:List (Option V)}{H H':Hp}{s:ae}{h':Heap}
theorem Cx.Ok.a26(ok:X.Ok){b:Addr}{o:Obj}(e:X.ao.get? b=some o):b∉X.fs:=λhb=>by have:=(ok.iK.mem hb).1;rw[e]at this;cases this
theorem Inv.bs(I:Inv X pins O H s):∀b o,X.ao.get? b=some o->s.heap.get? b=some o/\H b=none:=λb o e=>⟨I.ao.keep b o (I.ok.bs b o e).1 (I.ok.bs b o e).2 (I.ok.a26 e) (I.ok.pP b o e),I.ao.free b o (I.ok.bs b o e).1 (I.ok.bs b o e).2 (I.ok.pP b o e)⟩
theorem Inv.bk(I:Inv X pins O H s):∀b o,X.ao.get? b=some o->s.heap.get? b=some o:=λb o e=>(I.bs b o e).1
theorem Inv.mod(I:Inv X pins O H s):Mod X.K X.mg X.ao:=I.ok.mod
theorem Inv.fh(I:Inv X pins O H s):X.K.In s.heap:=I.ok.mod.mJ.keeps I.bk
theorem Inv.lt(I:Inv X pins O H s):X.env.locals<s.heap.objs.size:=let⟨_,hn,_⟩:=I.loc;hn.lt
theorem Inv.sz(I:Inv X pins O H s):X.s₀.heap.objs.size<=s.heap.objs.size:=gH I.ok.above (Cm I.lt)
theorem Inv.a24(I:Inv X pins O H s){a:Addr}(h:s.heap.objs.size<=a):a∉X.fs:=λhb=>by obtain⟨_,o,ho,_⟩:=I.ok.iK.mem hb;exact absurd (fD (cm ho) (gH I.sz h)) (qL _)
theorem Inv.lO(I:Inv X pins O H s):∀x c,X.env.cells.lookup x=some c->c≠X.env.locals:=λx c e z=>by obtain⟨v,o,ho,hd⟩:=I.cell x c e;obtain⟨m,⟨o',es,ep,lB,Ij,_⟩,_⟩:=I.loc;rw[z,lB]at ho;cases ho;rw[Ij]at hd;cases hd
theorem Inv.iK(I:Inv X pins O H s):s.heap.FunFrames X.ao X.outer:=by
 have all:∀(l:List Env),(∀b∈eu l,b∈X.fs)->X.s₀.heap.FunFrames X.ao l->s.heap.FunFrames X.ao l:=by intro l;induction l with |nil=>intro _ _;trivial |cons env r ih=>intro hs hl;obtain⟨hk,⟨L,o,hf,hn,ho,hd⟩,hr⟩:=hl;have hL:L∈X.fs:=hs L (by unfold eu;rw[Vf,hf];exact Kp);obtain⟨sl,e⟩:=I.ao.slot L o ho (I.ok.lM L hL) hL λz=>I.ok.oP L z hL;exact⟨hk,⟨L,_,hf,hn,e,hd⟩,ih (λb hb=>hs b (by unfold eu;rw[Vf,hf];exact vS _ hb)) hr⟩
 exact all X.outer (λ_ hb=>hb) I.ok.iK
theorem Inv.stack(I:Inv X pins O H s):s.heap.FunFrames X.ao X.stack:=by
 rcases I.ok.qW with e|⟨e,hf⟩
 ·rw[e];exact I.iK
 ·rw[e]
  obtain⟨m,hn,_⟩:=I.loc;refine .cons (by rw[I.ok.kind];decide) hf hn ?_ I.iK;exact Heap.get?_none_of_le (gH I.ok.jY I.ok.above)
theorem Inv.CV(I:Inv X pins O H s):∀b∈eu X.stack,b∈X.env.locals::X.fs:=λb hb=>by
 rcases I.ok.qW with e|⟨e,hf⟩
 ·rw[e]at hb;exact vS _ hb
 ·rw[e]at hb
  unfold eu at hb;rw[Vf,hf]at hb;exact hb
theorem Inv.zK(I:Inv X pins O H s):∀b∈eu X.stack,H b=none:=λb hb=>by
 rcases cg.mp (I.CV b hb)with e|hb
 ·rw[e];exact I.free
 ·obtain⟨_,o,ho,_⟩:=I.ok.iK.mem hb
  exact I.ao.free b o ho (I.ok.lM b hb) λz=>I.ok.oP b z hb
theorem Inv.step{g':Array GenState}{t':Nat}{d':Drawn}{ch:List Addr}(I:Inv X pins O H s) (kF:∀b∈ch,(b∈X.ex\/X.s₀.heap.objs.size<=b)/\b≠X.env.locals/\(∀x c,X.env.cells.lookup x=some c->c≠b)/\∀p∈X.pn++pins,p.1≠b) (keep:∀b o,b≠X.env.locals->b∉X.fs->b∉ch->s.heap.get? b=some o->H b=none->h'.get? b=some o) (slot:∀b o,b≠X.env.locals->b∈X.fs->b∉ch->s.heap.get? b=some o->H b=none->∃sl,h'.get? b=some {o with slots:=sl})(free:∀b o,b∉ch->s.heap.get? b=some o->H b=none->H' b=none) (there:∀b o,b∉ch->s.heap.get? b=some o->∃o',h'.get? b=some o') (jj:∀b xs,H b=some (.tup xs)->H' b=some (.tup xs))(j7:∀b o u,H b=some (.lL o u)->H' b=some (.lL o u))(jk:∀b ps,H b=some (.nQ ps)->∃more,H' b=some (.nQ (ps++more))) (ns:∀m,s.heap.Ns X.env.locals m->h'.Ns X.env.locals m)(bp:eF X.prog X.w H' h')(hg:AllBare g'): Inv X pins O H' {s with heap:=h',gens:=g',drawn:=d',toks:=t'}:=by
 have PR:∀b o,X.s₀.heap.get? b=some o->b≠X.env.locals:=λb o e=>eR (fD (cm e) I.ok.above);have AI:∀b o,X.s₀.heap.get? b=some o->b∉X.ex->b∉ch:=λb o e hx hb=>by
  rcases(kF b hb).1 with z|z
  ·exact hx z
  ·exact absurd (fD (cm e) z) (qL _)
 have cellK:∀x c,X.env.cells.lookup x=some c->∀v,s.heap.IsCell c v->h'.IsCell c v:=λx c e v ⟨o,ho,hd⟩=>by
  have xk:c∉ch:=λz=>(kF c z).2.2.1 x c e rfl;by_cases hc:c∈X.fs
  ·obtain⟨sl,q⟩:=slot c o (I.lO x c e) hc xk ho (I.j9 x c e)
   exact⟨_,q,hd⟩
  ·exact⟨o,keep c o (I.lO x c e) hc xk ho (I.j9 x c e),hd⟩
 refine⟨I.ok,I.os,hg,⟨λb o e n hb hx=>?_,λb o e n hb hx=>?_,λb o e n hx=>?_,λb o e hx=>?_,λb xs e=>jj b xs (I.ao.jj b xs e),λb o xs e=>j7 b o xs (I.ao.j7 b o xs e),λb ps e=>?_⟩,?_,λx c e=>?_,?_,λx c e=>?_,λp hp=>?_,bp,I.len⟩
 ·exact keep b o (PR b o e) hb (AI b o e hx) (I.ao.keep b o e n hb hx) (I.ao.free b o e n hx)
 ·obtain⟨sl,e1⟩:=I.ao.slot b o e n hb hx
  obtain⟨Dz,e2⟩:=slot b _ (PR b o e) hb (AI b o e hx) e1 (I.ao.free b o e n hx);exact⟨Dz,e2⟩
 ·obtain⟨o',e1⟩:=I.ao.there b o e hx
  exact free b o' (AI b o e hx) e1 (I.ao.free b o e n hx)
 ·obtain⟨o',e1⟩:=I.ao.there b o e hx
  exact there b o' (AI b o e hx) e1
 ·obtain⟨m1,e1⟩:=I.ao.jk b ps e
  obtain⟨m2,e2⟩:=jk b _ e1;exact⟨m1++m2,by rw[e2,Array.append_assoc]⟩
 ·obtain⟨m,hn,hl⟩:=I.loc
  refine⟨m,ns m hn,λi x v e1 e2 e3=>?_⟩;obtain⟨u,r,l⟩:=hl i x v e1 e2 e3;refine⟨u,r,?_⟩;rcases l with l|⟨k,c,e,z⟩
  ·exact .inl l
  ·exact .inr ⟨k,c,e,cellK x c e _ z⟩
 ·obtain⟨v,z⟩:=I.cell x c e
  exact⟨v,cellK x c e v z⟩
 ·obtain⟨m,⟨o,_,_,ho,_⟩,_⟩:=I.loc
  exact free _ o (λz=>(kF _ z).2.1 Z) ho I.free
 ·obtain⟨v,o,ho,hd⟩:=I.cell x c e
  exact free c o (λz=>(kF c z).2.2.1 x c e Z) ho (I.j9 x c e)
 ·obtain⟨e,n,ne,nf,d⟩:=I.pin p hp
  have xk:p.1∉ch:=λz=>(kF p.1 z).2.2.2 p hp rfl;exact⟨keep p.1 p.2 ne nf xk e n,free p.1 p.2 xk e n,ne,nf,d⟩
theorem Inv.un{t':Nat}(I:Inv X pins O H s)(u:Un X.fs [] H H' s.heap h')(bp:eF X.prog X.w H' h'):Inv X pins O H' {s with heap:=h',toks:=t'}:=by obtain⟨m,⟨o,es,ep,ho,r⟩,_⟩:=id I.loc;obtain⟨sl,hL⟩:=u.any ho I.free (by simp);exact I.step (g':=s.gens) (d':=s.drawn) (ch:=[]) (λ_ z=>nomatch z) (λb o _ hb _ e n=>u.keep b o e n hb (by simp)) (λb o _ hb _ e n=>u.slot b o e n hb (by simp)) (λb o _ e n=>u.free b o e n (by simp)) (λb o _ e=>u.there b o e (by simp)) u.jj u.j7 u.jk (λm' hm=>by obtain⟨o',oQ,Jf,lB,r'⟩:=hm;rw[ho]at lB;cases lB;exact⟨_,oQ,Jf,hL,r'⟩) bp I.bare
theorem Inv.call{g':Array GenState}{t':Nat}{d':Drawn}{ch:List Addr}(I:Inv X pins O H s)(u:Un (eu X.stack) ch H H' s.heap h')(bp:eF X.prog X.w H' h')(hg:AllBare g') (kF:∀b∈ch,(b∈X.ex\/X.s₀.heap.objs.size<=b)/\b≠X.env.locals/\(∀x c,X.env.cells.lookup x=some c->c≠b)/\∀p∈X.pn++pins,p.1≠b): Inv X pins O H' {s with heap:=h',gens:=g',drawn:=d',toks:=t'}:=by obtain⟨m,⟨o,es,ep,ho,r⟩,_⟩:=id I.loc;obtain⟨sl,hL⟩:=u.any ho I.free λz=>(kF _ z).2.1 rfl;exact I.step (ch:=ch) kF (λb o hL hb hc e n=>u.keep b o e n (λz=>(cg.mp (I.CV b z)).elim hL hb) hc) (λb o _ _ hc e n=>u.any e n hc) (λb o hc e n=>u.free b o e n hc) (λb o hc e=>u.there b o e hc) u.jj u.j7 u.jk (λm' hm=>by obtain⟨o',oQ,Jf,lB,r'⟩:=hm;rw[ho]at lB;cases lB;exact⟨_,oQ,Jf,hL,r'⟩) bp hg
theorem Inv.turned{t':Nat}{it:Addr}(I:Inv X pins O H s)(k:∀b o,b≠it->s.heap.get? b=some o->h'.get? b=some o)(hn:H it=none)(hL:it≠X.env.locals) (h1:it∈X.ex\/X.s₀.heap.objs.size<=it)(h2:∀x c,X.env.cells.lookup x=some c->c≠it)(h3:∀p∈X.pn++pins,p.1≠it):Inv X pins O H {s with heap:=h',toks:=t'}:=by
 have xi:∀b u,H b=some u->b≠it:=λb u e z=>by rw[z,hn]at e;cases e
 refine I.step (g':=s.gens) (d':=s.drawn) (ch:=[it]) (λb hb=>?_) (λb o _ _ hc e _=>k b o (λz=>hc (by simp[z])) e) (λb o _ _ hc e _=>⟨o.slots,k b o (λz=>hc (by simp[z])) e⟩) (λ_ _ _ _ n=>n) (λb o hc e=>⟨o,k b o (λz=>hc (by simp[z])) e⟩) (λ_ _ e=>e) (λ_ _ _ e=>e) (λb ps e=>⟨#[],by rw[e];simp⟩) (λm hm=>?_) (λb u e=>?_) I.bare
 ·have e:b=it:=by simpa using hb
  subst e;exact⟨h1,hL,h2,h3⟩
 ·obtain⟨o,es,ep,ho,r⟩:=hm
  exact⟨o,es,ep,k _ o (iV hL) ho,r⟩
 ·refine(I.bp b u e).m6 (λc v hc q=>k c v ?_ q) (λ_ q=>q) λ_ _ q=>q
  rcases hc with z|z
  ·rw[z];exact xi b u e
  ·exact xi c _ z
theorem Inv.tok(I:Inv X pins O H s)(t:Nat):Inv X pins O H {s with toks:=t}:=I.un (h':=s.heap) (t':=t) Un.refl I.bp
theorem Inv.kept{t':Nat}(I:Inv X pins O H s)(k:∀b u,s.heap.get? b=some u->h'.get? b=some u):Inv X pins O H {s with heap:=h',toks:=t'}:=I.un (Un.kept k) (I.bp.kept k)
theorem Inv.laid{a:Addr}{o:HO}{t':Nat}(I:Inv X pins O H s)(k:∀b u,s.heap.get? b=some u->h'.get? b=some u)(hp:s.heap.objs.size<=a)(new:gj X.prog X.w (upd H a o) h' a o): Inv X pins O (upd H a o) {s with heap:=h',toks:=t'}:=I.un (Un.laid k hp (I.bp.fresh hp)) (I.bp.laid k hp new)
theorem Inv.write{x e:Addr}{o:HO}{t':Nat}(I:Inv X pins O H s)(mu:C3 (H x))(he:e=x\/H e=some (.own x))(k:∀b u,b≠e->s.heap.get? b=some u->h'.get? b=some u)(uW:∃u,h'.get? e=some u) (new:gj X.prog X.w (upd H x o) h' x o):Inv X pins O (upd H x o) {s with heap:=h',toks:=t'}:=I.un (Un.write mu he k uW) (I.bp.write mu he k uW new)
theorem Inv.OW{Ga:List (Addr×Obj)}(I:Inv X pins O H s)(h:∀p∈Ga,s.heap.get? p.1=some p.2/\H p.1=none/\p.1≠X.env.locals/\p.1∉X.fs/\∀v,p.2.data≠ .cell v):Inv X Ga O H s:=⟨I.ok,I.os,I.bare,I.ao,I.loc,I.cell,I.free,I.j9,λp hp=>(ki.mp hp).elim (λz=>I.pin p (Kq _ z)) (h p),I.bp,I.len⟩
theorem GB{N:List Str}(hN:N.Nodup){i j:Nat}{x:Str}(a:N[i]? =some x)(b:N[j]? =some x):i=j:=by obtain⟨h1,e1⟩:=dw.mp a;obtain⟨h2,e2⟩:=dw.mp b;exact(List.getElem_inj hN).mp (e1.trans e2.symm)
theorem Lo{M:Model}{A:ai}{E:Value->ae->Prop}{i:Nat}{x:Str}{v:V}{u:Value}{Q:Unit->ae->Prop}(I:Inv X pins O H s)(hN:X.N.Nodup)(hi:X.N[i]? =some x)(hx:Loc X.env.scope x)(r:RelV v u) (h:∀s',Inv X pins (O.set i (some v)) H s'->(∃a,Heap.SameBut a s.heap s'.heap/\(a=X.env.locals\/X.env.cells.lookup x=some a))->Q () s')(hf:autoParam (X.fn x=true\/X.env.scope.names.lookup x=some .local) d8_._auto_1):wpAny M A (storeName X.env x u) Q E s:=by
 obtain⟨m,hn,hl⟩:=id I.loc;have xQ:(X.env.scope.kind== .class||(X.env.scope.kind== .module&&X.env.locals !=X.env.globals))=false:=by rw[I.ok.kind];rfl
 have Bm:i<O.length:=by rw[I.len];exact(dw.mp hi).1
 have lO:=I.lO;have tracked:∀{a:Addr}{h':Heap},(∃o,s.heap.get? a=some o/\H a=none)->Heap.SameBut a s.heap h'->eF X.prog X.w H h':=λ{a h'} ha hs b ob e=>by
  obtain⟨_,_,uV⟩:=ha;refine(I.bp b ob e).m6 (λc w' hc q=>(hs.2 c ?_).trans q) (λ_ q=>q) λ_ _ q=>q;rintro rfl;rcases hc with rfl|hc
  ·rw[uV]at e;cases e
  ·rw[uV]at hc;cases hc
 rcases hx with hk|hk
 ·refine wpAny_storeName_local hk hn (λh' sJ hs=>?_) xQ
  obtain⟨oL,_,_,Rj,_⟩:=id hn;refine h _ ⟨I.ok,I.os,I.bare,⟨λb o e n hb hx=>?_,λb o e n hb hx=>?_,I.ao.free,λb o e hx=>?_,I.ao.jj,I.ao.j7,I.ao.jk⟩,⟨_,sJ,λj y v' e1 e2 e3=>?_⟩,λy c e=>?_,I.free,I.j9,λp hp=>?_,tracked ⟨oL,Rj,I.free⟩ hs,by simpa using I.len⟩ ⟨_,hs,.inl rfl⟩
  ·exact(hs.2 b (eR (fD (cm e) I.ok.above))).trans (I.ao.keep b o e n hb hx)
  ·obtain⟨sl,e1⟩:=I.ao.slot b o e n hb hx
   exact⟨sl,(hs.2 b (eR (fD (cm e) I.ok.above))).trans e1⟩
  ·obtain⟨o',e1⟩:=I.ao.there b o e hx
   exact⟨o',(hs.2 b (eR (fD (cm e) I.ok.above))).trans e1⟩
  ·by_cases hj:j=i
   ·subst hj
    rw[hi]at e1;cases e1;rw[Ku Bm]at e2;cases e2;exact⟨u,r,.inl ⟨hk,by simp⟩⟩
   ·rw[Vd (iV hj)]at e2
    obtain⟨u',r',q⟩:=hl j y v' e1 e2 e3;refine⟨u',r',?_⟩;rcases q with⟨k,e⟩|⟨k,c,e,z⟩
    ·refine .inl ⟨k,?_⟩
     have:y≠x:=λe=>hj (GB hN e1 (e▸hi));simp[this,e]
    ·exact .inr ⟨k,c,e,z.sameBut hs (lO y c e)⟩
  ·obtain⟨w',z⟩:=I.cell y c e
   exact⟨w',z.sameBut hs (lO y c e)⟩
  ·obtain⟨e,n,ne,nf,d⟩:=I.pin p hp
   exact⟨(hs.2 p.1 ne).trans e,n,ne,nf,d⟩
 ·have Ih:X.fn x=true:=by
   rcases hf with z|z
   ·exact z
   ·rw[z]at hk;cases hk
  obtain⟨c,hc⟩:=I.ok.has x (.inl hk);obtain⟨w',z⟩:=I.cell x c hc;refine wpAny_storeName_cell I.ok.kind hk hc z (λh' jU hs=>?_);obtain⟨oc,Ri,a4G⟩:=id z;refine h {s with heap:=h'} ⟨I.ok,I.os,I.bare,⟨λb o e n hb hx=>?_,λb o e n hb hx=>?_,I.ao.free,λb o e hx=>?_,I.ao.jj,I.ao.j7,I.ao.jk⟩,⟨m,hn.sameBut hs (iV (lO x c hc)),λj y v' e1 e2 e3=>?_⟩,λy c' e=>?_,I.free,I.j9,λp hp=>?_,tracked ⟨oc,Ri,I.j9 x c hc⟩ hs,by simpa using I.len⟩ ⟨c,hs,.inr hc⟩
  ·exact(hs.2 b (eR (fD (cm e) (I.ok.qz x c Ih hc)))).trans (I.ao.keep b o e n hb hx)
  ·obtain⟨sl,e1⟩:=I.ao.slot b o e n hb hx
   exact⟨sl,(hs.2 b (eR (fD (cm e) (I.ok.qz x c Ih hc)))).trans e1⟩
  ·obtain⟨o',e1⟩:=I.ao.there b o e hx
   exact⟨o',(hs.2 b (eR (fD (cm e) (I.ok.qz x c Ih hc)))).trans e1⟩
  ·by_cases hj:j=i
   ·subst hj
    rw[hi]at e1;cases e1;rw[Ku Bm]at e2;cases e2;exact⟨u,r,.inr ⟨.inl hk,c,hc,jU⟩⟩
   ·rw[Vd (iV hj)]at e2
    obtain⟨u',r',q⟩:=hl j y v' e1 e2 e3;refine⟨u',r',?_⟩;rcases q with q|⟨k,c',e,z'⟩
    ·exact .inl q
    ·refine .inr ⟨k,c',e,z'.sameBut hs ?_⟩
     rintro rfl;exact hj (GB hN e1 (I.ok.inj _ _ _ e hc▸hi))
  ·by_cases RL:c'=c
   ·subst RL;exact⟨_,jU⟩
   ·obtain⟨w2,z2⟩:=I.cell y c' e
    exact⟨w2,z2.sameBut hs RL⟩
  ·obtain⟨e,n,ne,nf,d⟩:=I.pin p hp
   refine⟨(hs.2 p.1 ?_).trans e,n,ne,nf,d⟩;intro q;rw[q,Ri]at e;have q':oc=p.2:=dG e;exact d w' (by rw[<-q'];exact a4G)
theorem u7{M:Model}{A:ai}{E:Value->ae->Prop}{i:Nat}{x:Str}{v:V}{u:Value}{Q:Unit->ae->Prop}(I:Inv X pins O H s)(hN:X.N.Nodup)(hi:X.N[i]? =some x)(hx:Loc X.env.scope x)(r:RelV v u) (h:∀s',Inv X pins (O.set i (some v)) H s'->Q () s')(hf:autoParam (X.fn x=true\/X.env.scope.names.lookup x=some .local) d8_._auto_1):wpAny M A (storeName X.env x u) Q E s:=Lo I hN hi hx r (λs' I' _=>h s' I') hf
theorem Inv.BQ{s':ae}{ch:List Addr}(I:Inv X pins O H s)(ho:s'.os=s.os)(u:Un (eu X.stack) ch H H' s.heap s'.heap)(bp:eF X.prog X.w H' s'.heap)(hg:AllBare s'.gens) (kF:∀b∈ch,(b∈X.ex\/X.s₀.heap.objs.size<=b)/\b≠X.env.locals/\(∀x c,X.env.cells.lookup x=some c->c≠b)/\∀p∈X.pn++pins,p.1≠b):Inv X pins O H' s':=by obtain⟨h',g',d',t',o'⟩:=s';have e:o'=s.os:=ho;subst e;exact I.call (g':=g') (t':=t') (d':=d') u bp hg kF
end
abbrev XK:=Value->Option Addr->Hp->Prop
abbrev St:=List (Option V)
abbrev VK:=V->Hp->Prop
abbrev TE:=St->Hp->VK->Prop
abbrev TT:=St->Hp->(Bool->Hp->Prop)->Prop
abbrev TA:=St->Hp->(List V->Hp->Prop)->Prop
structure Ends where
 nx:St->Hp->Prop
 rt:VK
 bk:St->Hp->Prop:=λ_ _=>False
 ct:St->Hp->Prop:=λ_ _=>False
abbrev TS:=Ends->St->Hp->Prop
def EP(X:Cx)(pins:List (Addr×Obj))(O:St)(Q:VK)(u:Value)(s':ae):Prop:=∃v H',Inv X pins O H' s'/\RelV v u/\Q v H'
def TP(X:Cx)(pins:List (Addr×Obj))(O:St)(Q:Bool->Hp->Prop)(b:Bool)(s':ae):Prop:=∃H',Inv X pins O H' s'/\Q b H'
def AP(X:Cx)(pins:List (Addr×Obj))(O:St)(Q:List V->Hp->Prop)(us:List Value)(s':ae):Prop:=∃vs H',Inv X pins O H' s'/\Vals vs us/\Q vs H'
def SP(X:Cx)(pins:List (Addr×Obj))(D:Ends)(f:Flow)(s':ae):Prop:=match f with | .next=>∃σ' H',Inv X pins σ' H' s'/\D.nx σ' H' | .brk=>∃σ' H',Inv X pins σ' H' s'/\D.bk σ' H' | .cont=>∃σ' H',Inv X pins σ' H' s'/\D.ct σ' H' | .ret u=>∃v σ' H',Inv X pins σ' H' s'/\RelV v u/\D.rt v H'
def PE(X:Cx)(e:Expr)(t:TE):Prop:=∀(pins:List (Addr×Obj))(s:ae)(O:St)(H:Hp)(Q:VK),Inv X pins O H s->t O H Q->wpAny (model X.prog X.w) X.A (eval e X.env) (EP X pins O Q) X.xe s
def PT(X:Cx)(e:Expr)(t:TT):Prop:=∀(pins:List (Addr×Obj))(s:ae)(O:St)(H:Hp)(Q:Bool->Hp->Prop),Inv X pins O H s->t O H Q->wpAny (model X.prog X.w) X.A (isTrue e X.env (eval e X.env)) (TP X pins O Q) X.xe s
def PW(X:Cx)(e:Expr)(t:TT):Prop:=∀(whole:Sem Value)(pins:List (Addr×Obj))(s:ae)(O:St)(H:Hp)(Q:Bool->Hp->Prop),Inv X pins O H s->t O H Q->wpAny (model X.prog X.w) X.A (isTrue e X.env whole) (TP X pins O Q) X.xe s
theorem PW.pt{X:Cx}{e:Expr}{t:TT}(h:PW X e t):PT X e t:=h _
def PA(X:Cx)(es:List Expr)(t:TA):Prop:=∀(pos:Pos)(pins:List (Addr×Obj))(s:ae)(O:St)(H:Hp)(Q:List V->Hp->Prop),Inv X pins O H s->t O H Q->wpAny (model X.prog X.w) X.A (spliced (backTo pos (starEach es X.env))) (AP X pins O Q) X.xe s
def PS(X:Cx)(st:Stmt)(t:TS):Prop:=∀(pins:List (Addr×Obj))(s:ae)(O:St)(H:Hp)(D:Ends),Inv X pins O H s->t D O H->wpAny (model X.prog X.w) X.A (exec st X.env) (SP X pins D) X.xe s
def fA(X:Cx)(st:List Stmt)(t:TS):Prop:=∀(pins:List (Addr×Obj))(s:ae)(O:St)(H:Hp)(D:Ends),Inv X pins O H s->t D O H->wpAny (model X.prog X.w) X.A (execs st X.env) (SP X pins D) X.xe s
theorem aZ{α:Type}{t:Sem α}{Q Q':α->ae->Prop}{M:Model}{A:ai}{E:Value->ae->Prop}{s:ae}(h:wpAny M A t Q E s)(hQ:∀a s,Q a s->Q' a s):wpAny M A t Q' E s:=iS h hQ λ_ _ x=>x
section
variable {X:Cx}
inductive aat(i:Nat)(O:St)(H:Hp)(Q:VK):Prop |mk (v:_)(h0:O[i]? =some (some v))(h1:Q v H)
def tZ(i:Nat):TE:=λO H Q=>aat i O H Q
def tC (v:V):TE:=λ_ H Q=>Q v H
theorem OZ{i:Nat}{x:Str}{pos:Pos}(hN:X.N[i]? =some x)(hv:BW X.env.scope x)(hd:autoParam ((x==("__debug__":Str))=false) q8_._auto_1)(fo:autoParam ((x==("__classdict__":Str))=false) q8_._auto_1):PE X (.Name x pos) (tZ i):=by
 intro pins s O H Q I h;obtain⟨v,e,h⟩:=h;obtain⟨m,hn,hl⟩:=I.loc;obtain⟨u,r,l⟩:=hl i x v hN e hv;have fin:EP X pins O Q u s:=⟨v,H,I,r,h⟩;rcases l with⟨hk,hm⟩|⟨hk,c,hc,qf⟩
 ·exact wpAny_Name (wpAny_loadName_local I.ok.kind hk hn hm fin) hd
 ·rcases hk with hk|hk
  ·exact wpAny_Name (wpAny_loadName_cell I.ok.kind hk hc qf fin) hd
  ·exact wpAny_Name (wpAny_loadName_free I.ok.kind hk hc qf fin fo) hd
theorem aE{i j pos}:PE X (.Constant (.int i) j pos) (tC (.int i)):=λ_ _ _ H _ I h=>wpAny_Constant_int ⟨.int i,H,I.tok _,⟨_,Z⟩,h⟩
theorem gK{b j pos}:PE X (.Constant (.bool b) j pos) (tC (.bl b)):=λ_ _ _ H _ I h=>Constant_bool ⟨.bl b,H,I,Z,h⟩
theorem jo{j pos}:PE X (.Constant .none j pos) (tC .bw):=λ_ _ _ H _ I h=>Constant_none ⟨.bw,H,I,Z,h⟩
theorem bo{x j pos}:PE X (.Constant (.str x) j pos) (tC (.str x)):=λ_ _ _ H _ I h=>Calls.Constant_str ⟨.str x,H,I.tok _,⟨_,Z⟩,h⟩
def Gl(X:Cx)(x:Str):Prop:=X.env.kindOf x=some .globalImplicit
theorem pV{E:Value->ae->Prop}{pins:List (Addr×Obj)}{s:ae}{O:St}{H:Hp}{x:Str}{u:Value}{pos:Pos}{Q:Value->ae->Prop}(I:Inv X pins O H s)(hg:Gl X x)(hm:X.mg x=some u)(h:Q u s) (hd:autoParam ((x==("__debug__":Str))=false) q8_._auto_1):wpAny (model X.prog X.w) X.A (eval (.Name x pos) X.env) Q E s:=Calls.Name_function_global I.ok.kind hg (Calls.loadGlobal_global (by rw[I.ok.glob];exact I.mod.glob.keeps I.bk) hm h) hd
theorem oq{E:Value->ae->Prop}{pins:List (Addr×Obj)}{s:ae}{O:St}{H:Hp}{x:Str}{u:Value}{pos:Pos}{Q:Value->ae->Prop}(I:Inv X pins O H s)(hg:Gl X x)(hm:X.mg x=none)(hv:bootBuiltins x=some u)(h:Q u s) (hn:autoParam (x≠"__name__") q8_._auto_1)(hd:autoParam ((x==("__debug__":Str))=false) q8_._auto_1):wpAny (model X.prog X.w) X.A (eval (.Name x pos) X.env) Q E s:=by obtain⟨mb,h1,h2⟩:=I.mod.blt;exact Calls.Name_function_global I.ok.kind hg (Calls.loadGlobal_builtin (by rw[I.ok.glob];exact I.mod.glob.keeps I.bk) hm (by rw[I.ok.blt];exact h1.keeps I.bk) ((h2 x hn).trans hv) h) hd
theorem Z9{x:Str}{v:V}{u:Value}{pos:Pos}(hg:Gl X x)(hm:X.mg x=some u)(r:RelV v u)(hd:autoParam ((x==("__debug__":Str))=false) q8_._auto_1):PE X (.Name x pos) (tC v):=λ_ _ _ H _ I h=>pV I hg hm ⟨v,H,I,r,h⟩ hd
theorem mr{x:Str}{v:V}{u:Value}{pos:Pos}(hg:Gl X x)(hm:X.mg x=none)(hv:bootBuiltins x=some u)(r:RelV v u)(hn:autoParam (x≠"__name__") q8_._auto_1)(hd:autoParam ((x==("__debug__":Str))=false) q8_._auto_1):PE X (.Name x pos) (tC v):=λ_ _ _ H _ I h=>oq I hg hm hv ⟨v,H,I,r,h⟩ hn hd
variable {a b:Expr}{ta tb:TE}{pos:Pos}
def PC(X:Cx)(op:CmpOp)(a b:Expr)(t:TE):Prop:=∀(pins:List (Addr×Obj))(s:ae)(O:St)(H:Hp)(Q:VK),Inv X pins O H s->t O H Q->wpAny (model X.prog X.w) X.A (eval a X.env) (λv s₁=>wpAny (model X.prog X.w) X.A (eval b X.env) (λu s₂=>wpAny (model X.prog X.w) X.A (compareOp op v u) (EP X pins O Q) X.xe s₂) X.xe s₁) X.xe s
inductive ItB(Q:Bool->Hp->Prop)(x:V)(H1:Hp):Prop |mk (c:_)(h0:x= .bl c)(h1:Q c H1)
def tB(t:TE):TT:=λO H Q=>t O H λx H1=>ItB Q x H1
theorem YO{op:CmpOp}{t:TE}(h:PC X op a b t)(h1:behindInMarks op b=false:=by first|exact adf _ ay ay|rfl):PT X (.Compare a [op] [b] pos) (tB t):=by intro pins s O H Q I hw;refine wpAny_isTrue_Compare1 (aZ (h pins s O H _ I hw) λv s1 h1=>aZ h1 λu s2 h2=>aZ h2 λc s3 ⟨x,H1,I1,r1,q1⟩=>?_) h1;obtain⟨d,rfl,q⟩:=q1;cases r1;exact ny ⟨H1,I1,q⟩
theorem cH{e:Expr}{t:TE}(h:PE X e t)(he:autoParam (∀whole,isTrue e X.env whole=(do let v<-whole;standAt e.pos;holding [v] (truthy v))) f8_._auto_1):PT X e (tB t):=by intro pins s O H Q I hw;refine isTrue_plain (aZ (h pins s O H _ I hw) λv s1 ⟨x,H1,I1,r1,q1⟩=>?_) (he _);obtain⟨d,rfl,q⟩:=q1;cases r1;exact ny ⟨H1,I1,q⟩
variable {tA zH:TT} {rest:List Expr}
def Lf(t u:TT):TT:=λO H Q=>t O H λc H1=>if c=true then u O H1 Q else Q false H1
def WA(t u:TT):TT:=λO H Q=>t O H λc H1=>if c=true then Q true H1 else u O H1 Q
def WC(t:TT):TT:=λO H Q=>t O H λc H1=>Q (!c) H1
theorem wW(ha:PT X a tA):PW X (.BoolOp .And [a] pos) tA:=by intro wh pins s O H Q I h;refine isTrue_and (aZ (ha pins s O H Q I h) λc s1 e=>?_);cases c with |true=>exact isTrue_and_nil e |false=>exact e
theorem kQ(ha:PT X a tA):PW X (.BoolOp .Or [a] pos) tA:=by intro wh pins s O H Q I h;refine isTrue_or (aZ (ha pins s O H Q I h) λc s1 e=>?_);cases c with |false=>exact isTrue_or_nil e |true=>exact e
theorem rJ(ha:PT X a tA)(hb:PW X (.BoolOp .And (b::rest) pos) zH):PW X (.BoolOp .And (a::b::rest) pos) (Lf tA zH):=by intro wh pins s O H Q I h;refine isTrue_and (aZ (ha pins s O H _ I h) λc s1 ⟨H1,I1,q1⟩=>?_);cases c with |true=>exact hb wh pins s1 O H1 Q I1 q1 |false=>exact⟨H1,I1,q1⟩
theorem kR(ha:PT X a tA)(hb:PW X (.BoolOp .Or (b::rest) pos) zH):PW X (.BoolOp .Or (a::b::rest) pos) (WA tA zH):=by intro wh pins s O H Q I h;refine isTrue_or (aZ (ha pins s O H _ I h) λc s1 ⟨H1,I1,q1⟩=>?_);cases c with |true=>exact⟨H1,I1,q1⟩ |false=>exact hb wh pins s1 O H1 Q I1 q1
theorem dB(ha:PT X a tA):PT X (.UnaryOp .Not a pos) (WC tA):=by intro pins s O H Q I h;exact isTrue_not (ha pins s O H (λc H1=>Q (!c) H1) I h)
inductive aaD(tb:TE)(O:St)(Q:VK)(x:V)(H1:Hp):Prop |mk (c:_)(h0:x= .bl c)(h1:if c=true then tb O H1 Q else Q (.bl false) H1)
def WR(ta tb:TE):TE:=λO H Q=>ta O H λx H1=>aaD tb O Q x H1
inductive aaz(Q:VK)(x:V)(H1:Hp):Prop |mk (c:_)(h0:x= .bl c)(h1:Q (.bl (!c)) H1)
def WB(ta:TE):TE:=λO H Q=>ta O H λx H1=>aaz Q x H1
theorem pK{op}{t:TE}(h:PE X a t):PE X (.BoolOp op [a] pos) t:=λpins s O H Q I hw=>BoolOp_one (h pins s O H Q I hw)
theorem uw(ha:PE X a ta)(hb:PE X (.BoolOp .And (b::rest) pos) tb):PE X (.BoolOp .And (a::b::rest) pos) (WR ta tb):=by intro pins s O H Q I h;refine BoolOp_and (aZ (ha pins s O H _ I h) λv s1 ⟨x,H1,I1,r1,q1⟩=>?_);obtain⟨c,rfl,q1⟩:=q1;cases r1;refine ny ?_;cases c with |true=>exact hb pins s1 O H1 Q I1 q1 |false=>exact⟨.bl false,H1,I1,Z,q1⟩
theorem Z6(ha:PE X a ta):PE X (.UnaryOp .Not a pos) (WB ta):=by intro pins s O H Q I h;refine UnaryOp_ (aZ (ha pins s O H _ I h) λv s1 ⟨x,H1,I1,r1,q1⟩=>?_);obtain⟨c,rfl,q1⟩:=q1;cases r1;exact not_of (ny ⟨.bl (!c),H1,I1,Z,q1⟩)
def Lc(t:TT)(ta tb:TE):TE:=λO H Q=>t O H λc H1=>if c=true then ta O H1 Q else tb O H1 Q
theorem gZ{c:Expr}(hc:PT X c tA)(ha:PE X a ta)(hb:PE X b tb):PE X (.IfExp c a b pos) (Lc tA ta tb):=by intro pins s O H Q I h;refine wpAny_IfExp (aZ (hc pins s O H _ I h) λd s1 ⟨H1,I1,q1⟩=>?_);cases d with |true=>exact ha pins s1 O H1 Q I1 q1 |false=>exact hb pins s1 O H1 Q I1 q1
end
def aI(K:aa)(H:Hp)(a:Addr)(xs:List V):Prop:=Rd H a (.lst xs)\/ ∃(o:Obj)(its:Array Value)(n:Nat),K.lookup a=some o/\o.cls= .type "list"/\o.dict=none/\o.data= .seq its n/\its.size<=sizeLine/\Vals xs its.toList
def aY(K:aa)(H:Hp)(a:Addr)(xs:List V):Prop:=Rd H a (.tup xs)\/ ∃(o:Obj)(its:Array Value)(n:Nat),K.lookup a=some o/\o.cls= .type "tuple"/\o.data= .seq its n/\its.size<=sizeLine/\Vals xs its.toList
def aac:Value->Option V | .none=>some .bw | .bool b=>some (.bl b) | .int i _=>some (.int i) | .str x _=>some (.str x) | .bytes b _=>some (.jz b) | .float b _=>some (.BA b) | .ref a=>some (.ref a) | .type n=>some (.ty n) |_=>none
theorem RelV.abs{x:V}{u:Value}(r:RelV x u):aac u=some x:=by cases x with |bw=>cases r;rfl |bl _=>cases r;rfl |int _=>obtain⟨t,rfl⟩:=r;rfl |str _=>obtain⟨t,rfl⟩:=r;rfl |jz _=>obtain⟨t,rfl⟩:=r;rfl |BA _=>obtain⟨t,rfl⟩:=r;rfl |ref _=>cases r;rfl |ty _=>cases r;rfl
theorem RelV.inj{x y:V}{u:Value}(r:RelV x u)(q:RelV y u):x=y:=dG (r.abs.symm.trans q.abs)
theorem Vals.inj:∀{xs ys:List V}{us:List Value},Vals xs us->Vals ys us->xs=ys |_,_,_,.nil,.nil=>rfl |_,_,_,.cons r t,.cons r' t'=>by rw[r.inj r',Vals.inj t t']
section
variable {X:Cx}{pins:List (Addr×Obj)}{O:St}{H:Hp}{s:ae}{a:Addr}{xs ys:List V}
theorem aI.of{K:aa}(h:H a=some (.lst xs)):aI K H a xs:=.inl (.inl h)
theorem aY.of{K:aa}(h:H a=some (.tup xs)):aY K H a xs:=.inl (.inl h)
theorem Inv.list(I:Inv X pins O H s)(h:aI X.K H a xs):∃its:List Value,Vals xs its/\PlainL s.heap a its.toArray/\xs.length<=sizeLine:=by
 rcases h with h|⟨o,its,n,hk,hc,hd,hs,hz,r⟩
 ·obtain⟨z,its,n,r,e⟩:=h.ok I.bp
  exact⟨its,r,⟨_,n,e,Z,Z,Z⟩,z⟩
 ·refine⟨its.toList,r,⟨o,n,I.fh a o hk,hc,hd,by simpa using hs⟩,?_⟩
  have e:=r.length;simp only[kJ]at e
  lia
theorem Inv.tuple(I:Inv X pins O H s)(h:aY X.K H a xs):∃its:List Value,Vals xs its/\IsTup s.heap a its.toArray/\xs.length<=sizeLine:=by
 rcases h with h|⟨o,its,n,hk,hc,hs,hz,r⟩
 ·obtain⟨z,its,r,p⟩:=h.ok I.bp
  exact⟨its,r,p,z⟩
 ·refine⟨its.toList,r,⟨o,I.fh a o hk,hc,n,by simpa using hs⟩,?_⟩
  have e:=r.length;simp only[kJ]at e
  lia
theorem Inv.Qr(I:Inv X pins O H s)(h:aI X.K H a xs)(h':aI X.K H a ys):xs=ys:=by
 obtain⟨its,r,⟨o,n,e,_,_,d⟩,_⟩:=I.list h;obtain⟨its',r',⟨o',n',e',_,_,d'⟩,_⟩:=I.list h';rw[e]at e';cases e';rw[d]at d';injection d' with d1 _;have:its=its':=by simpa using lW Array.toList d1
 subst this;exact r.inj r'
theorem Inv.KY(I:Inv X pins O H s)(h:aY X.K H a xs)(h':aY X.K H a ys):xs=ys:=by
 obtain⟨its,r,⟨o,e,_,n,d⟩,_⟩:=I.tuple h;obtain⟨its',r',⟨o',e',_,n',d'⟩,_⟩:=I.tuple h';rw[e]at e';cases e';rw[d]at d';injection d' with d1 _;have:its=its':=by simpa using lW Array.toList d1
 subst this;exact r.inj r'
end
abbrev Cx.ji(X:Cx)(E:Value->ae->Prop):Cx:={X with xe:=E}
abbrev Cx.rY(X:Cx):Cx:=X.ji λ_ _=>False
theorem Cx.Ok.ji{X:Cx}(ok:X.Ok)(E:Value->ae->Prop):(X.ji E).Ok:=⟨ok.mod,ok.kind,ok.glob,ok.blt,ok.above,ok.inj,ok.has,ok.qz,ok.hd,ok.frames,ok.qW,ok.yk,ok.bs,ok.jY,ok.pP,ok.oP,ok.iK,ok.lM⟩
theorem Cx.Ok.lY{X:Cx}{E:Value->ae->Prop}(ok:(X.ji E).Ok):X.Ok:=⟨ok.mod,ok.kind,ok.glob,ok.blt,ok.above,ok.inj,ok.has,ok.qz,ok.hd,ok.frames,ok.qW,ok.yk,ok.bs,ok.jY,ok.pP,ok.oP,ok.iK,ok.lM⟩
section
variable {X:Cx}{pins:List (Addr×Obj)}{O:St}{H:Hp}{s:ae}{E:Value->ae->Prop}
theorem Inv.ji(I:Inv X pins O H s)(E:Value->ae->Prop):Inv (X.ji E) pins O H s:=⟨I.ok.ji E,I.os,I.bare,I.ao,I.loc,I.cell,I.free,I.j9,I.pin,I.bp,I.len⟩
theorem Inv.lY(I:Inv (X.ji E) pins O H s):Inv X pins O H s:=⟨I.ok.lY,I.os,I.bare,I.ao,I.loc,I.cell,I.free,I.j9,I.pin,I.bp,I.len⟩
theorem SP.lY{D:Ends}{f:Flow}{s':ae}(h:SP (X.ji E) pins D f s'):SP X pins D f s':=by cases f with |next=>obtain⟨σ',H',I,q⟩:=h;exact⟨σ',H',I.lY,q⟩ |brk=>obtain⟨σ',H',I,q⟩:=h;exact⟨σ',H',I.lY,q⟩ |cont=>obtain⟨σ',H',I,q⟩:=h;exact⟨σ',H',I.lY,q⟩ |ret u=>obtain⟨v,σ',H',I,r,q⟩:=h;exact⟨v,σ',H',I.lY,r,q⟩
theorem fA.rY{st:List Stmt}{t:TS}(h:fA X.rY st t):fA X st t:=λpins s O H D I hw=>iS (h pins s O H D (I.ji _) hw) (λ_ _ q=>q.lY) λ_ _ z=>False.elim z
end
section
variable {X:Cx}{st:Stmt}{rest:List Stmt}{t u:TS}{e:Expr}{te:TE}{pos:Pos}
def WE:TS:=λD O H=>D.nx O H
def L7(t u:TS):TS:=λD O H=>t {D with nx:=u D} O H
theorem bK:fA X [] WE:=λ_ _ O H _ I h=>yQ ⟨O,H,I,h⟩
theorem aB(h1:PS X st t)(h2:fA X rest u):fA X (st::rest) (L7 t u):=by intro pins s O H D I h;refine wpAny_execs_cons (aZ (h1 pins s O H {D with nx:=u D} I h) λf s1 q=>?_);cases f with |next=>obtain⟨σ',H',I',q⟩:=q;exact h2 pins s1 σ' H' D I' q |ret v=>exact q |brk=>exact q |cont=>exact q
theorem aJ(h1:PS X st t):fA X [st] t:=by intro pins s O H D I h;refine wpAny_execs_cons (aZ (h1 pins s O H D I h) λf s1 q=>?_);cases f with |next=>exact yQ q |ret v=>exact q |brk=>exact q |cont=>exact q
theorem Inv.quiet{pins:List (Addr×Obj)}{O:St}{H:Hp}{s:ae}(I:Inv X pins O H s):interactive X.env=false:=by simp[interactive,I.ok.kind]
def WO(te:TE):TS:=λD O H=>te O H λ_ H1=>D.nx O H1
theorem ku(he:PE X e te)(hs:autoParam (swapsWith e none pos.line X.env=pure false) r8_._auto_1):PS X (.Expr e pos) (WO te):=by intro pins s O H D I h;exact wpAny_Expr_any (aZ (he pins s O H _ I h) λv s1 ⟨x,H1,I1,r1,q1⟩=>⟨O,H1,I1,q1⟩) I.quiet hs
def Wv(te:TE):TS:=λD O H=>te O H D.rt
theorem aP(he:PE X e te):PS X (.Return (some e) pos) (Wv te):=by intro pins s O H D I h;exact wpAny_Return_some (aZ (he pins s O H _ I h) λv s1 ⟨x,H1,I1,r1,q1⟩=>⟨x,O,H1,I1,r1,q1⟩)
def zF(c:TT)(t u:TS):TS:=λD O H=>c O H λb H1=>if b=true then t D O H1 else u D O H1
theorem bJ{c:Expr}{a b:List Stmt}{tc:TT}(hc:PT X c tc)(ha:fA X a t)(hb:fA X b u):PS X (.If c a b pos) (zF tc t u):=by intro pins s O H D I h;refine wpAny_If (aZ (hc pins s O H _ I h) λd s1 ⟨H1,I1,q1⟩=>?_);cases d with |true=>exact ha pins s1 O H1 D I1 q1 |false=>exact hb pins s1 O H1 D I1 q1
def L8:TS:=λ_ _ _=>False
theorem uu:PS X st L8:=λ_ _ _ _ _ _ h=>h.elim
theorem rK{X0:List Stmt}:fA X X0 L8:=λ_ _ _ _ _ _ h=>h.elim
end
abbrev TG:=V->St->Hp->(St->Hp->Prop)->Prop
abbrev nc:=List V->St->Hp->(St->Hp->Prop)->Prop
def PG(X:Cx)(target:Expr)(t:TG):Prop:=∀(pins:List (Addr×Obj))(s:ae)(O:St)(H:Hp)(v:V)(u:Value)(Q:St->Hp->Prop),Inv X pins O H s->RelV v u->t v O H Q->wpAny (model X.prog X.w) X.A (assign target X.env u) (λ_ s'=>∃σ' H',Inv X pins σ' H' s'/\Q σ' H') X.xe s
def yI(X:Cx)(ts:List Expr)(t:nc):Prop:=∀(pins:List (Addr×Obj))(s:ae)(O:St)(H:Hp)(vs:List V)(us:List Value)(Q:St->Hp->Prop),Inv X pins O H s->Vals vs us->t vs O H Q->wpAny (model X.prog X.w) X.A (assignInOrder ((assignEach ts X.env).map (·.2)) us) (λ_ s'=>∃σ' H',Inv X pins σ' H' s'/\Q σ' H') X.xe s
abbrev JS:=V->V->V->Hp->(Hp->Prop)->Prop
def Us(X:Cx)(t:JS):Prop:=∀(pins:List (Addr×Obj))(s:ae)(O:St)(H:Hp)(o i v:V)(ov iv u:Value)(Q:Hp->Prop),Inv X pins O H s->RelV o ov->RelV i iv->RelV v u->t o i v H Q->wpAny (model X.prog X.w) X.A (setItem ov iv u) (λ_ s'=>∃H',Inv X pins O H' s'/\Q H') X.xe s
abbrev Uk:=V->V->Hp->VK->Prop
def PIp(X:Cx)(op:Operator)(t:Uk):Prop:=∀(pins:List (Addr×Obj))(s:ae)(O:St)(H:Hp)(x y:V)(v u:Value)(Q:VK),Inv X pins O H s->RelV x v->RelV y u->t x y H Q->wpAny (model X.prog X.w) X.A (inplaceOp op v u) (EP X pins O Q) X.xe s
section
variable {X:Cx} {pos:Pos}
def gB(i:Nat):TG:=λv O H Q=>Q (O.set i (some v)) H
theorem Z4{i:Nat}{x:Str}(hN:X.N.Nodup)(hi:X.N[i]? =some x)(hx:Loc X.env.scope x)(hf:autoParam (X.fn x=true\/X.env.scope.names.lookup x=some .local) d8_._auto_1):PG X (.Name x pos) (gB i):=by intro pins s O H v u Q I r h;exact wpAny_assign_Name (u7 I hN hi hx r (λs' I'=>⟨_,H,I',h⟩) hf)
def IQ:nc:=λvs O H Q=>vs=[]/\Q O H
inductive acJ(t:TG)(u:nc)(vs:List V)(O:St)(H:Hp)(Q:St->Hp->Prop):Prop |mk (v:_)(r:_)(h0:vs=v::r)(h1:t v O H λσ' H'=>u r σ' H' Q)
def ye(t:TG)(u:nc):nc:=λvs O H Q=>acJ t u vs O H Q
theorem eW:yI X [] IQ:=by intro pins s O H vs us Q I r h;obtain⟨e,h⟩:=h;subst e;cases r;exact assignInOrder_nil ⟨O,H,I,h⟩
theorem bZ{e:Expr}{es:List Expr}{t:TG}{u:nc}(h1:PG X e t)(h2:yI X es u) (hs:autoParam ((assignEach (e::es) X.env).map (·.2)=assign e X.env::(assignEach es X.env).map (·.2)) r8_._auto_1):yI X (e::es) (ye t u):=by intro pins s O H vs us Q I r h;obtain⟨v,vr,e1,h⟩:=h;subst e1;cases r with |cons r rr=>rw[hs];refine Cd (aZ (h1 pins s O H _ _ _ I r h) λ_ s1 ⟨σ1,H1,I1,q1⟩=>?_);exact h2 pins s1 σ1 H1 _ _ Q I1 rr q1
inductive acH(K:aa)(n:Nat)(t:nc)(v:V)(O:St)(H:Hp)(Q:St->Hp->Prop):Prop |mk (a:_)(xs:_)(h0:v= .ref a)(h1:aY K H a xs)(h2:xs.length=n)(h3:t xs O H Q)
def Bw(K:aa)(n:Nat)(t:nc):TG:=λv O H Q=>acH K n t v O H Q
theorem Z3{es:List Expr}{k:Nat}{t:nc}{n:Nat}(hc:X.calm=true)(h:yI X es t) (hn:autoParam ((assignEach es X.env).length=n) r8_._auto_1)(g6:autoParam ((assignEach es X.env).findIdx? (·.1)=none) r8_._auto_1):PG X (.Tuple es k pos) (Bw X.K n t):=by intro pins s O H v u Q I r hw;obtain⟨a,xs,e1,hq,hl,hw⟩:=hw;subst e1;cases r;obtain⟨its,rv,ht,hz⟩:=I.tuple hq;refine assign_Tuple_tuple (I.ok.hd hc) ht (by simp[hn,<-hl,rv.length]) g6 λh' hx=>?_;have I1:Inv X pins O H {s with heap:=h'}:=I.kept (t':=s.toks) λb o e=>hx b o (eR (cm e)) e;exact h pins _ O H xs _ Q I1 (by simpa using rv) hw
def a72(to ti:TE)(t:JS):TG:=λv O H Q=>to O H λo H1=>ti O H1 λi H2=>t o i v H2 λH3=>Q O H3
theorem rP{o i:Expr}{to ti:TE}{t:JS}(ho:PE X o to)(hi:PE X i ti)(hs:Us X t) (ha:∀v,assign (.Subscript o i pos) X.env v=(do
 let ov<-holding [v] (eval o X.env)
 let iv<-holding [v,ov] (eval i X.env)
 standAt pos
 holding [v,ov,iv] (setItem ov iv v)
 release [v,ov,iv] []):=by intro _;rfl):PG X (.Subscript o i pos) (a72 to ti t):=by
 intro pins s O H v u Q I r h;rw[ha];refine aK (jE (aZ (ho pins s O H _ I h) λov s1 ⟨x,H1,I1,r1,q1⟩=>?_));refine aK (jE (aZ (hi pins s1 O H1 _ I1 q1) λiv s2 ⟨y,H2,I2,r2,q2⟩=>?_));refine aK (C4 (aK (jE (aZ (hs pins s2 O H2 x y v ov iv u _ I2 r1 r2 r q2) λ_ s3 ⟨H3,I3,q3⟩=>?_))));exact wpAny_release ⟨O,H3,I3,q3⟩
def wq(te:TE)(g:TG):TS:=λD O H=>te O H λx H1=>g x O H1 D.nx
theorem eM{tg e:Expr}{te:TE}{g:TG}(he:PE X e te)(hg:PG X tg g)(hs:autoParam (swapsWithSole [tg] e pos.line X.env=pure false) r8_._auto_1)(hw:autoParam (swappedStores [tg] e X.env=pure none) r8_._auto_1) (h1:autoParam ((assignEach [tg] X.env).map (·.2)=[assign tg X.env]) r8_._auto_1):PS X (.Assign [tg] e pos) (wq te g):=by intro pins s O H D I h;refine wpAny_Assign_stores (aZ (he pins s O H _ I h) λv s1 ⟨x,H1,I1,r1,q1⟩=>?_) hs hw;rw[h1];exact aZ (hg pins s1 O H1 x v _ I1 r1 q1) λ_ s2 q=>q
theorem OU{i:Nat}{x:Str}{e:Expr}{te:TE}{pos':Pos}(hN:X.N.Nodup)(hi:X.N[i]? =some x)(hx:Loc X.env.scope x)(he:PE X e te)(hs:autoParam (swapsWith e (some (.Name x pos')) pos.line X.env=pure false) r8_._auto_1)(hf:autoParam (X.fn x=true\/X.env.scope.names.lookup x=some .local) d8_._auto_1): PS X (.Assign [.Name x pos'] e pos) (wq te (gB i)):=by intro pins s O H D I h;refine wpAny_Assign_Name (aZ (he pins s O H _ I h) λv s1 ⟨y,H1,I1,r1,q1⟩=>?_) hs;exact u7 I1 hN hi hx r1 (λs2 I2=>⟨_,H1,I2,q1⟩) hf
inductive aax(i:Nat)(j:Nat)(D:Ends)(O:St)(vs:List V)(H1:Hp):Prop |mk (v:_)(w:_)(h0:vs=[v,w])(h1:D.nx ((O.set i (some v)).set j (some w)) H1)
def Wy(i j:Nat)(ta:TA):TS:=λD O H=>ta O H λvs H1=>aax i j D O vs H1
theorem G8{i j:Nat}{x y:Str}{a b:Expr}{ta:TA}{px py pt:Pos} {kt k2 G6}(hc:X.calm=true)(hN:X.N.Nodup)(hi:X.N[i]? =some x)(hj:X.N[j]? =some y)(hij:i≠j) (hx:X.env.scope.names.lookup x=some .local)(hy:X.env.scope.names.lookup y=some .local)(ha:PA X [a,b] ta) (hw:swappedStores [.Tuple [.Name x px,.Name y py] kt pt] (.Tuple [a,b] k2 G6) X.env=pure (some [x,y])) (hs:autoParam (swapsWithSole [.Tuple [.Name x px,.Name y py] kt pt] (.Tuple [a,b] k2 G6) pos.line X.env=pure false) r8_._auto_1): PS X (.Assign [.Tuple [.Name x px,.Name y py] kt pt] (.Tuple [a,b] k2 G6) pos) (Wy i j ta):=by
 intro pins s O H D I h;rw[exec_Assign_arm];refine aK (C4 ?_);rw[hs];refine aK (bT ?_);rw[bf ay];refine aK (Tuple_ (aZ (ha _ pins s O H _ I h) λus s1 ⟨vs,H1,I1,r1,q1⟩=>?_));obtain⟨v,w,e1,q1⟩:=q1;subst e1;obtain⟨u1,u2,rfl,rv,wM⟩:∃u1 u2,us=[u1,u2]/\RelV v u1/\RelV w u2:=by cases r1 with |cons p q=>cases q with |cons p' q'=>cases q';exact⟨_,_,Z,p,p'⟩
 refine nC ?_ (by show 2<=sizeLine;decide);have I2:Inv X pins O H1 {s1 with heap:=s1.heap.push {cls:=.type "tuple",data:=.seq [u1,u2].toArray}}:=I1.kept (t':=s1.toks) λb o e=>cw _ e;rw[hw];refine aK (bT ?_);show wpAny (model X.prog X.w) X.A (do rule "assign.swapped-stores";let items<-unpackItems (.ref s1.heap.objs.size) 2 none;assignInOrder [λv=>bindName X.env y v,λv=>bindName X.env x v] items.reverse;pure Flow.next) _ _ _;refine aK (wpAny_rule (aK (unpackItems_tuple (items:=#[u1,u2]) (I.ok.hd hc) (IsTup.new s1.heap _) λh' hx'=>?_)));have I3:=I2.kept (h':=h') (t':=s1.toks) λb o e=>hx' b o (eR (cm e)) e;show wpAny _ _ (assignInOrder [λv=>bindName X.env y v,λv=>bindName X.env x v] [u2,u1]>>=λ_=>pure Flow.next) _ _ _;refine aK (Cd (wpAny_bindName (u7 I3 hN hj (.inl hy) wM (λs2 I4=>?_) (.inr hy))));refine Cd (wpAny_bindName (u7 I4 hN hi (.inl hx) rv (λs3 I5=>assignInOrder_nil (bT ?_)) (.inr hx)));rw[List.set_comm _ _ (iV hij)]at I5;exact⟨_,H1,I5,q1⟩
inductive acy(f:Int->Int->Int)(x:V)(y:V)(H:Hp)(Q:VK):Prop |mk (i:_)(j:_)(h0:x= .int i)(h1:y= .int j)(h2:Q (.int (f i j)) H)
def ipI(f:Int->Int->Int):Uk:=λx y H Q=>acy f x y H Q
theorem a3U:PIp X .Add (ipI λi j=>i+j):=by intro pins s O H x y v u Q I r1 r2 h;obtain⟨i,j,e1,e2,q⟩:=h;subst e1;subst e2;obtain⟨t,rfl⟩:=r1;obtain⟨t',rfl⟩:=r2;exact iadd_int ⟨.int _,H,I.tok _,⟨_,Z⟩,q⟩
def L6(c:TT)(tb:TS):TS:=λD O H=>∃W:Nat->St->Hp->Prop,(∃m,W m O H)/\∀m O H,W m O H->c O H λb H1=>if b=true then∃N:St->Hp->Prop,(∀σ' H',N σ' H'->∃m',m'<m/\W m' σ' H')/\tb {D with nx:=N,ct:=N,bk:=D.nx} O H1 else D.nx O H1
theorem rL{c:Expr}{body:List Stmt}{tc:TT}{tb:TS}(hp:PassesOwn (model X.prog X.w) X.A X.env X.xe)(hc:PT X c tc)(hb:fA X body tb):PS X (.While c body [] pos) (L6 tc tb):=by intro pins s O H D I h;obtain⟨W,⟨m0,w0⟩,turn⟩:=h;refine wpAny_While (codeAny_whileLoop (λn s'=>∃σ' H',Inv X pins σ' H' s'/\W n σ' H') ?_ m0 ⟨O,H,I,w0⟩);rintro n s1 ⟨σ1,H1,I1,w1⟩;refine vG hp (aZ (hc pins s1 σ1 H1 _ I1 (turn n σ1 H1 w1)) λb s2 ⟨H2,I2,q2⟩=>?_);cases b with
 |true=>obtain⟨N,hN,q2⟩:=q2;rw[bc rfl];refine vG hp (aZ (hb pins s2 σ1 H2 _ I2 q2) λf s3 q3=>?_);cases f with |next=>obtain⟨σ3,H3,I3,n3⟩:=q3;obtain⟨m',hm,w3⟩:=hN σ3 H3 n3;exact⟨m',hm,σ3,H3,I3,w3⟩ |cont=>obtain⟨σ3,H3,I3,n3⟩:=q3;obtain⟨m',hm,w3⟩:=hN σ3 H3 n3;exact⟨m',hm,σ3,H3,I3,w3⟩ |brk=>exact q3 |ret v=>exact q3
 |false=>rw[bf dQ];exact yQ ⟨σ1,H2,I2,q2⟩
end
structure It where
 go:Nat->Hp->Prop
 jh:Nat->Hp->V->Hp->Prop
 stop:Nat->Hp->Prop
def kd(X:Cx)(pins:List (Addr×Obj))(H:Hp)(b:Addr):Prop:=H b=none/\b≠X.env.locals/\b∉X.fs/\(b∈X.ex\/X.s₀.heap.objs.size<=b)/\(∀x c,X.env.cells.lookup x=some c->c≠b)/\∀p∈X.pn++pins,p.1≠b
theorem Inv.oN{X:Cx}{pins:List (Addr×Obj)}{O:St}{H H':Hp}{s:ae}{b:Addr}(I:Inv X pins O H s)(hb:s.heap.objs.size<=b)(hn:H' b=none):kd X pins H' b:=by
 refine⟨hn,vO (fD I.lt hb),I.a24 hb,.inr (gH I.sz hb),λx c e z=>?_,λp hp z=>?_⟩
 ·obtain⟨v,q⟩:=I.cell x c e
  exact absurd (fD q.lt (by rw[z];exact hb)) (qL _)
 ·exact absurd (fD (cm (I.pin p hp).1) (by rw[z];exact hb)) (qL _)
structure Turn(P:af)(w:World)(K:aa)(tg:Expr)(J:It)(fp:List Addr)(it:Addr)(tn:Nat->Heap->Prop):Prop where
 mem:it∈fp
 obj:∀i h,tn i h->∀b∈fp,∃o,h.get? b=some o/\∀v,o.data≠ .cell v
 keep:∀i h h',tn i h->(∀b∈fp,∀o,h.get? b=some o->h'.get? b=some o)->tn i h'
 item:∀(X:Cx),X.prog=P->X.w=w->X.K=K->X.calm=true->∀(i:Nat)(pins:List (Addr×Obj))(s:ae)(O:St)(H:Hp)(E:Value->ae->Prop),Inv X pins O H s->(∀b∈fp,kd X pins H b)->tn i s.heap->J.go i H->wpAny (model P w) X.A (pyNext (.ref it)) (λr s1=>∃u,r=some u/\wpAny (model P w) X.A (letOwnedTupleGo tg (.ref it) u) (λ_ s2=>∃x H',Inv X pins O H' s2/\RelV x u/\J.jh i H x H'/\tn (i+1) s2.heap/\∀b∈fp,H' b=none) E s1) E s
 done:∀(X:Cx),X.prog=P->X.w=w->X.K=K->X.calm=true->∀(i:Nat)(pins:List (Addr×Obj))(s:ae)(O:St)(H:Hp)(E:Value->ae->Prop),Inv X pins O H s->(∀b∈fp,kd X pins H b)->tn i s.heap->J.stop i H->wpAny (model P w) X.A (pyNext (.ref it)) (λr s1=>r=none/\Inv X pins O H s1) E s
 self:∀(A:ai)(i:Nat)(s:ae)(Q:Value->ae->Prop)(E:Value->ae->Prop),tn i s.heap->Q (.ref it) s->wpAny (model P w) A (pyIter (.ref it)) Q E s
abbrev TI:=St->Hp->(It->Hp->Prop)->Prop
def JW(X:Cx)(pins:List (Addr×Obj))(O:St)(tg:Expr)(R:It->Hp->Prop)(AX:Value)(s2:ae):Prop:=∃(it:Addr)(fp:List Addr)(tn:Nat->Heap->Prop)(J:It)(H':Hp),AX= .ref it/\Inv X pins O H' s2/\Turn X.prog X.w X.K tg J fp it tn/\tn 0 s2.heap/\(∀b∈fp,kd X pins H' b)/\R J H'
def PI(X:Cx)(tg iter:Expr)(wi:TI):Prop:=∀(pins:List (Addr×Obj))(s:ae)(O:St)(H:Hp)(R:It->Hp->Prop),Inv X pins O H s->wi O H R->wpAny (model X.prog X.w) X.A (eval iter X.env) (λv s1=>wpAny (model X.prog X.w) X.A (pyIter v) (JW X pins O tg R) X.xe s1) X.xe s
theorem yc{M:Model}{A:ai}{E:Value->ae->Prop}{s:ae}{tg:Expr}{it:Addr}{u:Value}{o:Obj}{n:String}{vs:Array Value}{Q:Unit->ae->Prop}(ho:s.heap.get? it=some o)(hc:o.cls= .type n)(hd:o.data= .fields vs) (hn:["enumerate","zip","dict_itemiterator","dict_reverseitemiterator","odict_iterator","itertools.zip_longest","itertools.pairwise"].contains n=false)(hQ:Q () s):wpAny M A (letOwnedTupleGo tg (.ref it) u) Q E s:=by unfold letOwnedTupleGo;cases tg<;>first |exact bT hQ |(cases u<;>first
        |exact bT hQ
        | (refine aK (wpAny_load ho ?_)
           rw[hc,hd];show wpAny M A (if(["enumerate","zip","dict_itemiterator","dict_reverseitemiterator","odict_iterator","itertools.zip_longest","itertools.pairwise"].contains n&&vs[0]? ==some (rawInt _))=true then _ else _) Q E s;rw[bf (by intro h;rw[hn,iB]at h;cases h)];exact bT hQ))
def vD(K:aa)(a:Addr):It:=⟨λi H=>∃xs x,aI K H a xs/\xs[i]? =some x,λi H x H'=>H'=H/\∀xs,aI K H a xs->xs[i]? =some x,λi H=>∃xs,aI K H a xs/\xs.length<=i⟩
def yK(K:aa)(a:Addr):It:=⟨λi H=>∃xs x,aY K H a xs/\xs[i]? =some x,λi H x H'=>H'=H/\∀xs,aY K H a xs->xs[i]? =some x,λi H=>∃xs,aY K H a xs/\xs.length<=i⟩
def nj(lo:Int)(n:Nat):It:=⟨λi _=>i<n,λi H x H'=>H'=H/\x= .int (lo+i),λi _=>n<=i⟩
theorem Wa{P:af}{w:World}{K:aa}{tg:Expr}(a it:Addr):Turn P w K tg (vD K a) [it] it (λi h=>h.IsListIter it a i) where
 mem:=by simp
 obj:=λi h st b hb=>by
  have e:b=it:=by simpa using hb
  subst e;obtain⟨o,e,c,d⟩:=st;exact⟨o,e,λv z=>by rw[d]at z;cases z⟩
 keep:=λi h h' st k=>st.at λo e=>k it (by simp) o e
 item:=by intro X hP hw hK hc i pins s O H E I hf st hg;subst hP hw hK;obtain⟨xs,x,hq,hx⟩:=hg;obtain⟨its,rv,p,hz⟩:=I.list hq;obtain⟨u,hu,ru⟩:=rv.get hx;obtain⟨f0,f1,f2,f3,f4,f5⟩:=hf it (by simp);refine wpAny_pyNext_list_item st p.isList (x:=u) (by simpa using hu) λh' gs sb=>?_;have I1:Inv X pins O H {s with heap:=h'}:=I.turned (t':=s.toks) (λb o hb e=>(sb.2 b hb).trans e) f0 f1 f3 f4 f5;obtain⟨o,e,c,d⟩:=id gs;exact⟨u,Z,yc (s:={s with heap:=h'}) e c d ay ⟨x,H,I1,ru,⟨Z,λys hy=>by rw[I.Qr hy hq];exact hx⟩,gs,λb hb=>(hf b hb).1⟩⟩
 done:=by intro X hP hw hK hc i pins s O H E I hf st hg;subst hP hw hK;obtain⟨xs,hq,hx⟩:=hg;obtain⟨its,rv,p,hz⟩:=I.list hq;obtain⟨f0,f1,f2,f3,f4,f5⟩:=hf it (by simp);have hl:=rv.length;exact wpAny_pyNext_list_end (I.ok.hd hc) st p.isList (by simp;lia) λh' eb=>⟨Z,I.turned (t':=s.toks) (λb o hb e=>eb b o hb e) f0 f1 f3 f4 f5⟩
 self:=λ_ _ _ _ _ st h=>wpAny_pyIter_listiter st h
theorem W6{P:af}{w:World}{K:aa}{tg:Expr}(a it:Addr):Turn P w K tg (yK K a) [it] it (λi h=>h.IsTupleIter it a i) where
 mem:=by simp
 obj:=λi h st b hb=>by
  have e:b=it:=by simpa using hb
  subst e;obtain⟨o,e,c,d⟩:=st;exact⟨o,e,λv z=>by rw[d]at z;cases z⟩
 keep:=λi h h' st k=>st.at λo e=>k it (by simp) o e
 item:=by intro X hP hw hK hc i pins s O H E I hf st hg;subst hP hw hK;obtain⟨xs,x,hq,hx⟩:=hg;obtain⟨its,rv,p,hz⟩:=I.tuple hq;obtain⟨u,hu,ru⟩:=rv.get hx;obtain⟨f0,f1,f2,f3,f4,f5⟩:=hf it (by simp);refine wpAny_pyNext_tuple_item st (show s.heap.IsTuple a its.toArray from p) (x:=u) (by simpa using hu) λh' gs sb=>?_;have I1:Inv X pins O H {s with heap:=h'}:=I.turned (t':=s.toks) (λb o hb e=>(sb.2 b hb).trans e) f0 f1 f3 f4 f5;obtain⟨o,e,c,d⟩:=id gs;exact⟨u,Z,yc (s:={s with heap:=h'}) e c d ay ⟨x,H,I1,ru,⟨Z,λys hy=>by rw[I.KY hy hq];exact hx⟩,gs,λb hb=>(hf b hb).1⟩⟩
 done:=by intro X hP hw hK hc i pins s O H E I hf st hg;subst hP hw hK;obtain⟨xs,hq,hx⟩:=hg;obtain⟨its,rv,p,hz⟩:=I.tuple hq;obtain⟨f0,f1,f2,f3,f4,f5⟩:=hf it (by simp);have hl:=rv.length;exact wpAny_pyNext_tuple_end (I.ok.hd hc) st (show s.heap.IsTuple a its.toArray from p) (by simp;lia) λh' eb=>⟨Z,I.turned (t':=s.toks) (λb o hb e=>eb b o hb e) f0 f1 f3 f4 f5⟩
 self:=λ_ _ _ _ _ st h=>wpAny_pyIter_tupleiter st h
theorem W9{P:af}{w:World}{K:aa}{tg:Expr}(it:Addr)(lo:Int)(n:Nat):Turn P w K tg (nj lo n) [it] it (λi h=>IsRangeIter h it (lo+(i:Nat)*1) ((n:Int)-(i:Nat)) 1) where
 mem:=by simp
 obj:=λi h st b hb=>by
  have e:b=it:=by simpa using hb
  subst e;exact⟨_,st,λv z=>by have z':Data.fields _=Data.cell v:=z;cases z'⟩
 keep:=λi h h' st k=>k it (by simp) _ st
 item:=by intro X hP hw hK hc i pins s O H E I hf st hg;subst hP hw hK;obtain⟨f0,f1,f2,f3,f4,f5⟩:=hf it (by simp);have W:=Walks.range (prog:=X.prog) (w:=X.w) (I.ok.hd hc) it lo 1 n;refine W.item i s _ _ hg st λv h' tk hv gs kk=>?_;obtain⟨t,rfl⟩:=hv;have I1:Inv X pins O H {s with heap:=h',toks:=tk}:=I.turned (λb o hb e=>kk b o (by simpa using hb) e) f0 f1 f3 f4 f5;refine⟨_,Z,yc (s:={s with heap:=h',toks:=tk}) (n:="range_iterator") gs rfl rfl ay ⟨.int (lo+i),H,I1,⟨t,?_⟩,⟨Z,Z⟩,gs,λb hb=>(hf b hb).1⟩⟩;rw[zb]
 done:=by intro X hP hw hK hc i pins s O H E I hf st hg;subst hP hw hK;obtain⟨f0,f1,f2,f3,f4,f5⟩:=hf it (by simp);exact wpAny_pyNext_range_end (I.ok.hd hc) st (by have:n<=i:=hg;lia) λh' eb=>⟨Z,I.turned (t':=s.toks) (λb o hb e=>eb b o hb e) f0 f1 f3 f4 f5⟩
 self:=λ_ _ _ _ _ st h=>UI st h
section
variable {X:Cx} {tg:Expr}
inductive acF(K:aa)(R:It->Hp->Prop)(x:V)(H1:Hp):Prop |mk (a:_)(h0:x= .ref a)(h1:(∃xs,aI K H1 a xs))(h2:R (vD K a) H1)
def QU(K:aa)(tl:TE):TI:=λO H R=>tl O H λx H1=>acF K R x H1
inductive acA(K:aa)(R:It->Hp->Prop)(x:V)(H1:Hp):Prop |mk (a:_)(h0:x= .ref a)(h1:(∃xs,aY K H1 a xs))(h2:R (yK K a) H1)
def QT(K:aa)(tl:TE):TI:=λO H R=>tl O H λx H1=>acA K R x H1
theorem Z1{l:Expr}{tl:TE}(hl:PE X l tl):PI X tg l (QU X.K tl):=by
 intro pins s O H R I h;refine aZ (hl pins s O H _ I h) λv s1 ⟨x,H1,I1,r1,q1⟩=>?_;obtain⟨a,e,⟨xs,hq⟩,q⟩:=q1;subst e;cases r1;obtain⟨its,rv,p,hz⟩:=I1.list hq;refine yO p.isList ?_;refine⟨s1.heap.objs.size,[s1.heap.objs.size],_,_,H1,Z,I1.kept (t':=s1.toks) λb o e=>cw _ e,Wa a _,⟨_,dH _ Z,Z,Z⟩,λb hb=>?_,q⟩;have e:b=s1.heap.objs.size:=by simpa using hb
 subst e;exact I1.oN (bI _) (I1.bp.fresh (bI _))
theorem YZ{l:Expr}{tl:TE}(hl:PE X l tl):PI X tg l (QT X.K tl):=by
 intro pins s O H R I h;refine aZ (hl pins s O H _ I h) λv s1 ⟨x,H1,I1,r1,q1⟩=>?_;obtain⟨a,e,⟨xs,hq⟩,q⟩:=q1;subst e;cases r1;obtain⟨its,rv,p,hz⟩:=I1.tuple hq;refine wpAny_pyIter_tuple (show s1.heap.IsTuple a its.toArray from p) ?_;refine⟨s1.heap.objs.size,[s1.heap.objs.size],_,_,H1,Z,I1.kept (t':=s1.toks) λb o e=>cw _ e,W6 a _,⟨_,dH _ Z,Z,Z⟩,λb hb=>?_,q⟩;have e:b=s1.heap.objs.size:=by simpa using hb
 subst e;exact I1.oN (bI _) (I1.bp.fresh (bI _))
theorem OI{pins:List (Addr×Obj)}{O:St}{H:Hp}{s:ae}{R:It->Hp->Prop}{E:Value->ae->Prop}{lo hi:Int}{t u v:Tok}{tk:Nat}(I:Inv X pins O H s)(h1:-(2^62)<=lo)(h2:lo<2^62)(h3:-(2^62)<=hi)(h4:hi<2^62) (q:R (nj lo (hi-lo).toNat) H):wpAny (model X.prog X.w) X.A (pyIter (.ref s.heap.objs.size)) (JW X pins O tg R) E {s with heap:=s.heap.push {cls:=.type "range",data:=.fields #[.int lo t,.int hi u,.int 1 v]},toks:=tk}:=by
 refine wpAny_pyIter_range (IsRange.new ..) (small_one h1 h2 h3 h4) ?_;have I1:Inv X pins O H {s with heap:=s.heap.push {cls:=.type "range",data:=.fields #[.int lo t,.int hi u,.int 1 v]},toks:=tk}:=I.kept λb o e=>cw _ e;refine⟨(s.heap.push {cls:=.type "range",data:=.fields #[.int lo t,.int hi u,.int 1 v]}).objs.size,[(s.heap.push {cls:=.type "range",data:=.fields #[.int lo t,.int hi u,.int 1 v]}).objs.size],_,_,H,Z,I1.kept (t':=tk) λb o e=>cw _ e,W9 _ lo (hi-lo).toNat,?_,λb hb=>?_,q⟩
 ·have e1:lo+((0:Nat):Int)*1=lo:=by simp
  have e2:(((hi-lo).toNat:Nat):Int)-((0:Nat):Int)=Builtin.Range.rangeSize lo hi 1:=by rw[rangeSize_one];split<;>lia
  show IsRangeIter _ _ (lo+((0:Nat):Int)*1) ((((hi-lo).toNat:Nat):Int)-((0:Nat):Int)) 1;rw[e1,e2];exact dH _ rfl
 ·have e:b=(s.heap.push {cls:=.type "range",data:=.fields #[.int lo t,.int hi u,.int 1 v]}).objs.size:=by simpa using hb
  subst e;exact I1.oN (bI _) (I1.bp.fresh (bI _))
inductive acD(R:It->Hp->Prop)(vs:List V)(H1:Hp):Prop |mk (j:Int)(h0:vs=[.int j])(h1:-(2^62)<=j)(h2:j<2^62)(h3:R (nj 0 j.toNat) H1)
def a48(ta:TA):TI:=λO H R=>ta O H λvs H1=>acD R vs H1
inductive acC(R:It->Hp->Prop)(vs:List V)(H1:Hp):Prop |mk (i:Int)(j:Int)(h0:vs=[.int i,.int j])(h1:(-(2^62)<=i/\i<2^62/\-(2^62)<=j/\j<2^62))(h2:R (nj i (j-i).toNat) H1)
def a47(ta:TA):TI:=λO H R=>ta O H λvs H1=>acC R vs H1
theorem pJ{a:Expr}{ta:TA}{p pos:Pos}(hg:Gl X "range")(hm:X.mg "range"=none)(ha:PA X [a] ta)(hs:autoParam (starEach [a] X.env=[(false,eval a X.env)]) r8_._auto_1):PI X tg (.Call (.Name "range" p) [a] [] pos) (a48 ta):=by intro pins s O H R I h;refine Call_ (oq I hg hm boot_range (vL (aZ (ha pos pins s O H _ I h) λus s1 ⟨vs,H1,I1,r1,q1⟩=>?_) hs Z));obtain⟨j,e,q1,q2,q⟩:=q1;subst e;cases r1 with |cons r rr=>cases rr;obtain⟨t,rfl⟩:=r;exact call_range_1 (OI I1 au au q1 q2 (by simpa using q))
theorem Z0{a b:Expr}{ta:TA}{p pos:Pos}(hg:Gl X "range")(hm:X.mg "range"=none)(ha:PA X [a,b] ta)(hs:autoParam (starEach [a,b] X.env=[(false,eval a X.env),(false,eval b X.env)]) r8_._auto_1)(iu:autoParam (starEach [b] X.env=[(false,eval b X.env)]) r8_._auto_1): PI X tg (.Call (.Name "range" p) [a,b] [] pos) (a47 ta):=by intro pins s O H R I h;refine Call_ (oq I hg hm boot_range (vL (aZ (ha pos pins s O H _ I h) λus s1 ⟨vs,H1,I1,r1,q1⟩=>?_) (by rw[hs,iu]) (by rw[iu];rfl)));obtain⟨i,j,e,⟨q1,q2,q3,q4⟩,q⟩:=q1;subst e;cases r1 with |cons r rr=>cases rr with |cons r' rr=>cases rr;obtain⟨t,rfl⟩:=r;obtain⟨t',rfl⟩:=r';exact call_range_2 (OI I1 q1 q2 q3 q4 q)
def WM(wi:TI)(g:TG)(tb:TS):TS:=λD O H=>wi O H λJ H1=>∃W:Nat->Nat->St->Hp->Prop,(∃m,W 0 m O H1)/\∀i m O H,W i m O H->(J.stop i H/\D.nx O H)\/(J.go i H/\∃N:St->Hp->Prop,(∀σ' H',N σ' H'->∃m',m'<m/\W (i+1) m' σ' H')/\∀x H',J.jh i H x H'->g x O H' λσ2 H2=>tb {D with nx:=N,ct:=N,bk:=D.nx} σ2 H2)
def uv(fp:List Addr)(h:Heap):List (Addr×Obj):=fp.filterMap λb=>(h.get? b).map λo=>(b,o)
theorem uL{fp:List Addr}{h:Heap}{b:Addr}{o:Obj}(hb:b∈fp)(e:h.get? b=some o):(b,o)∈uv fp h:=nH.mpr ⟨b,hb,by rw[e];rfl⟩
theorem a1J{fp:List Addr}{h:Heap}{p:Addr×Obj}(hp:p∈uv fp h):p.1∈fp/\h.get? p.1=some p.2:=by obtain⟨b,hb,e⟩:=nH.mp hp;cases q:h.get? b with |none=>rw[q]at e;cases e |some o=>rw[q]at e;have e':(b,o)=p:=dG e;subst e';exact⟨hb,q⟩
theorem Inv.pinned{pins:List (Addr×Obj)}{O:St}{H:Hp}{s:ae}{fp:List Addr}(I:Inv X pins O H s)(hf:∀b∈fp,kd X pins H b)(ho:∀b∈fp,∃o,s.heap.get? b=some o/\∀v,o.data≠ .cell v):Inv X (pins++uv fp s.heap) O H s:=I.OW λp hp=>(ki.mp hp).elim (λz=>I.pin p (jF _ z)) λz=>by obtain⟨hb,e⟩:=a1J z;obtain⟨f0,f1,f2,_⟩:=hf p.1 hb;obtain⟨o,e',d⟩:=ho p.1 hb;rw[e]at e';cases e';exact⟨e,f0,f1,f2,d⟩
theorem Inv.w6{pins pl:List (Addr×Obj)}{O:St}{H:Hp}{s:ae}(I:Inv X (pins++pl) O H s):Inv X pins O H s:=I.OW λp hp=>I.pin p (jF _ (Kq _ hp))
theorem jN{iter:Expr}{body:List Stmt}{wi:TI}{g:TG}{tb:TS}{pos:Pos}(hp:PassesOwn (model X.prog X.w) X.A X.env X.xe)(hc:X.calm=true)(hi:PI X tg iter wi)(hg:PG X tg g)(hb:fA X body tb) (hs:autoParam (∀x,foldedSetIterable iter X.env x=pure x) f8_._auto_1):PS X (.For tg iter body [] pos) (WM wi g tb):=by
 intro pins s O H D I h;refine wpAny_For (aZ (hi pins s O H _ I h) λv s1 h1=>aZ h1 λAX s2 h2=>?_) hs;obtain⟨it,fp,tn,J,H2,e,I2,T,pD,f2,W,⟨m0,w0⟩,turn⟩:=h2;subst e;have kM:∀{H':Hp},(∀b∈fp,H' b=none)->∀b∈fp,kd X pins H' b:=λhn b hb=>⟨hn b hb,(f2 b hb).2⟩;refine codeAny_forLoop_any (λn s'=>∃i σ' H',Inv X pins σ' H' s'/\tn i s'.heap/\(∀b∈fp,H' b=none)/\W i n σ' H') ?_ m0 ⟨0,O,H2,I2,pD,λb hb=>(f2 b hb).1,w0⟩;rintro n s3 ⟨i,σ3,H3,I3,Lv,Si,w3⟩;rcases turn i n σ3 H3 w3 with⟨stop,qn⟩|⟨go,N,hN,step⟩
 ·refine vG hp (aZ (T.done X Z Z Z hc i pins s3 σ3 H3 X.xe I3 (kM Si) Lv stop) λr s4 ⟨hr,I4⟩=>?_)
  subst hr;exact yQ ⟨σ3,H3,I4,qn⟩
 ·refine vG hp (aZ (T.item X Z Z Z hc i pins s3 σ3 H3 X.xe I3 (kM Si) Lv go) λr s4 ⟨u,hr,h4⟩=>?_)
  subst hr;refine vG hp (aZ h4 λ_ s5 ⟨x,H5,I5,r5,y5,nS,sR⟩=>?_);have I5':=I5.pinned (kM sR) (T.obj _ _ nS);refine vG hp (aZ (hg _ s5 σ3 H5 x u _ I5' r5 (step x H5 y5)) λ_ s6 ⟨σ6,H6,I6,q6⟩=>?_);refine vG hp (aZ (hb _ s6 σ6 H6 _ I6 q6) λf s7 q7=>?_);have again:∀{σ7:St}{H7:Hp},Inv X (pins++uv fp s5.heap) σ7 H7 s7->N σ7 H7->∃m,m<n/\∃i σ' H',Inv X pins σ' H' s7/\tn i s7.heap/\(∀b∈fp,H' b=none)/\W i m σ' H':=λ{σ7 H7} I7 n7=>by obtain⟨m',hm,w7⟩:=hN σ7 H7 n7;refine⟨m',hm,i+1,σ7,H7,I7.w6,T.keep _ _ _ nS λb hb o e=>(I7.pin (b,o) (jF _ (jF _ (uL hb e)))).1,λb hb=>?_,w7⟩;obtain⟨o,e,d⟩:=T.obj _ _ nS b hb;exact(I7.pin (b,o) (jF _ (jF _ (uL hb e)))).2.1
  cases f with |next=>obtain⟨σ7,H7,I7,n7⟩:=q7;exact again I7 n7 |cont=>obtain⟨σ7,H7,I7,n7⟩:=q7;exact again I7 n7 |brk=>obtain⟨σ7,H7,I7,q7⟩:=q7;exact⟨σ7,H7,I7.w6,q7⟩ |ret v=>obtain⟨x7,σ7,H7,I7,r7,q7⟩:=q7;exact⟨x7,σ7,H7,I7.w6,r7,q7⟩
end
theorem IW{K:aa}{a:Addr}{xs:List V}{g:TG}{tb:TS}{D:Ends}{O:St}{H:Hp}(Pv:Nat->St->Hp->Prop)(h0:Pv 0 O H)(hl:∀i O H,i<=xs.length->Pv i O H->aI K H a xs) (hs:∀i x O H,xs[i]? =some x->Pv i O H->g x O H λσ2 H2=>tb {D with nx:=Pv (i+1),ct:=Pv (i+1),bk:=D.nx} σ2 H2)(hd:∀O H,Pv xs.length O H->D.nx O H): ∃W:Nat->Nat->St->Hp->Prop,(∃m,W 0 m O H)/\∀i m O H,W i m O H->((vD K a).stop i H/\D.nx O H)\/((vD K a).go i H/\∃N:St->Hp->Prop,(∀σ' H',N σ' H'->∃m',m'<m/\W (i+1) m' σ' H')/\∀x H',(vD K a).jh i H x H'->g x O H' λσ2 H2=>tb {D with nx:=N,ct:=N,bk:=D.nx} σ2 H2):=by
 refine⟨λi m O H=>m=xs.length-i/\i<=xs.length/\Pv i O H,⟨xs.length,by simp,fC _,h0⟩,?_⟩;rintro i m O H ⟨rfl,hi,p⟩;have q:=hl i O H hi p;by_cases cn:i<xs.length
 ·refine .inr ⟨⟨xs,xs[i],q,by simp[cn]⟩,Pv (i+1),λσ' H' p'=>⟨xs.length-(i+1),au,Z,cn,p'⟩,λx H' y=>?_⟩
  obtain⟨e,y⟩:=y;subst e;exact hs i x O _ (y xs q) p
 ·have e:i=xs.length:=by lia
  subst e;exact .inl ⟨⟨xs,q,bI _⟩,hd O H p⟩
theorem Bz{lo:Int}{n:Nat}{g:TG}{tb:TS}{D:Ends}{O:St}{H:Hp}(Pv:Nat->St->Hp->Prop)(h0:Pv 0 O H) (hs:∀i O H,i<n->Pv i O H->g (.int (lo+i)) O H λσ2 H2=>tb {D with nx:=Pv (i+1),ct:=Pv (i+1),bk:=D.nx} σ2 H2)(hd:∀O H,Pv n O H->D.nx O H): ∃W:Nat->Nat->St->Hp->Prop,(∃m,W 0 m O H)/\∀i m O H,W i m O H->((nj lo n).stop i H/\D.nx O H)\/((nj lo n).go i H/\∃N:St->Hp->Prop,(∀σ' H',N σ' H'->∃m',m'<m/\W (i+1) m' σ' H')/\∀x H',(nj lo n).jh i H x H'->g x O H' λσ2 H2=>tb {D with nx:=N,ct:=N,bk:=D.nx} σ2 H2):=by
 refine⟨λi m O H=>m=n-i/\i<=n/\Pv i O H,⟨n,by simp,fC _,h0⟩,?_⟩;rintro i m O H ⟨rfl,hi,p⟩;by_cases cn:i<n
 ·refine .inr ⟨cn,Pv (i+1),λσ' H' p'=>⟨n-(i+1),au,Z,cn,p'⟩,λx H' y=>?_⟩
  obtain⟨e,y⟩:=y;subst e y;exact hs i O _ cn p
 ·have e:i=n:=by lia
  subst e;exact .inl ⟨bI _,hd O H p⟩
theorem qQ{c:TT}{tb:TS}{D:Ends}{O:St}{H:Hp}(Pv:St->Hp->Prop)(μ:St->Hp->Nat)(h0:Pv O H) (hs:∀O H,Pv O H->c O H λb H1=>if b=true then tb {D with nx:=λσ' H'=>Pv σ' H'/\μ σ' H'<μ O H,ct:=λσ' H'=>Pv σ' H'/\μ σ' H'<μ O H,bk:=D.nx} O H1 else D.nx O H1) (mono:∀O H Q Q',(∀b H1,Q b H1->Q' b H1)->c O H Q->c O H Q'):L6 c tb D O H:=by refine⟨λm O H=>m=μ O H/\Pv O H,⟨_,Z,h0⟩,?_⟩;rintro m O H ⟨rfl,p⟩;refine mono O H _ _ (λb H1 q=>?_) (hs O H p);cases b with |true=>exact⟨_,λσ' H' ⟨p',l⟩=>⟨_,l,Z,p'⟩,q⟩ |false=>exact q
abbrev R2:=V->V->Hp->VK->Prop
def cO(X:Cx)(f:Value->Value->Sem Value)(r:R2):Prop:=∀(pins:List (Addr×Obj))(s:ae)(O:St)(H:Hp)(x y:V)(v u:Value)(Q:VK),Inv X pins O H s->RelV x v->RelV y u->r x y H Q->wpAny (model X.prog X.w) X.A (f v u) (EP X pins O Q) X.xe s
def JQ(X:Cx)(f:Value->Sem Value)(r:V->Hp->VK->Prop):Prop:=∀(pins:List (Addr×Obj))(s:ae)(O:St)(H:Hp)(x:V)(v:Value)(Q:VK),Inv X pins O H s->RelV x v->r x H Q->wpAny (model X.prog X.w) X.A (f v) (EP X pins O Q) X.xe s
def dX(X:Cx)(f:Value)(r:List V->Hp->VK->Prop):Prop:=∀(pins:List (Addr×Obj))(s:ae)(O:St)(H:Hp)(xs:List V)(us:List Value)(Q:VK),Inv X pins O H s->Vals xs us->r xs H Q->wpAny (model X.prog X.w) X.A (call f us) (EP X pins O Q) X.xe s
def aal(X:Cx)(r:V->Hp->(Bool->Hp->Prop)->Prop):Prop:=∀(pins:List (Addr×Obj))(s:ae)(O:St)(H:Hp)(x:V)(v:Value)(Q:Bool->Hp->Prop),Inv X pins O H s->RelV x v->r x H Q->wpAny (model X.prog X.w) X.A (truthy v) (TP X pins O Q) X.xe s
def u6(r:R2)(ta tb:TE):TE:=λO H Q=>ta O H λx H1=>tb O H1 λy H2=>r x y H2 Q
def Wq(r:V->Hp->VK->Prop)(ta:TE):TE:=λO H Q=>ta O H λx H1=>r x H1 Q
inductive IrI(C:Int->Int->Prop)(g:Int->Int->V)(x:V)(y:V)(H:Hp)(Q:VK):Prop |mk (i:_)(j:_)(h0:x= .int i)(h1:y= .int j)(h2:C i j)(h3:Q (g i j) H)
def rI(C:Int->Int->Prop)(g:Int->Int->V):R2:=λx y H Q=>IrI C g x y H Q
inductive aco(g:Int->Int->V)(x:V)(y:V)(H:Hp)(Q:VK):Prop |mk (i:_)(j:_)(h0:x= .int i)(h1:y= .int j)(h2:Q (g i j) H)
def jn(g:Int->Int->V):R2:=λx y H Q=>aco g x y H Q
inductive IrU(g:Int->V)(x:V)(H:Hp)(Q:VK):Prop |mk (i:_)(h0:x= .int i)(h1:Q (g i) H)
def rU(g:Int->V):V->Hp->VK->Prop:=λx H Q=>IrU g x H Q
section
variable {X:Cx}{a b c:Expr}{ta tb tc:TE}{pos:Pos}
theorem JE(ha:PE X a ta)(hb:PE X b tb){pins:List (Addr×Obj)}{s:ae}{O:St}{H:Hp}{R:V->V->Hp->Prop}(I:Inv X pins O H s) (h:ta O H λx H1=>tb O H1 λy H2=>R x y H2){Q:Value->ae->Prop}{f:Value->Value->Sem Value} (hf:∀v u s2 x y H2,Inv X pins O H2 s2->RelV x v->RelV y u->R x y H2->wpAny (model X.prog X.w) X.A (f v u) Q X.xe s2): wpAny (model X.prog X.w) X.A (eval a X.env) (λv s₁=>wpAny (model X.prog X.w) X.A (eval b X.env) (λu s₂=>wpAny (model X.prog X.w) X.A (f v u) Q X.xe s₂) X.xe s₁) X.xe s:=by refine aZ (ha pins s O H _ I h) λv s1 ⟨x,H1,I1,r1,q1⟩=>?_;refine aZ (hb pins s1 O H1 _ I1 q1) λu s2 ⟨y,H2,I2,r2,q2⟩=>?_;exact hf v u s2 x y H2 I2 r1 r2 q2
theorem aQ{op:Operator}{r:R2}(ho:cO X (binaryOp op) r)(ha:PE X a ta)(hb:PE X b tb):PE X (.BinOp a op b pos) (u6 r ta tb):=by intro pins s O H Q I h;exact wpAny_BinOp (JE ha hb I h λv u s2 x y H2 I2 rx ry q=>ho pins s2 O H2 x y v u Q I2 rx ry q)
theorem ml{op:UnaryOp}{r:V->Hp->VK->Prop}(ho:JQ X (unaryOp op) r)(ha:PE X a ta):PE X (.UnaryOp op a pos) (Wq r ta):=by intro pins s O H Q I h;exact UnaryOp_ (aZ (ha pins s O H _ I h) λv s1 ⟨x,H1,I1,r1,q1⟩=>ho pins s1 O H1 x v Q I1 r1 q1)
theorem x8{f:Value->Value->Sem Value}{C:Int->Int->Prop}{g:Int->Int->Int} (rule:∀(i j:Int)(t u:Tok)(s:ae)(Q:Value->ae->Prop)(E:Value->ae->Prop),C i j->Q (.int (g i j) s.toks) {s with toks:=s.toks+1}->wpAny (model X.prog X.w) X.A (f (.int i t) (.int j u)) Q E s): cO X f (rI C λi j=>.int (g i j)):=by intro pins s O H x y v u Q I rx ry h;obtain⟨i,j,rfl,rfl,hc,q⟩:=h;obtain⟨t,rfl⟩:=rx;obtain⟨t',rfl⟩:=ry;exact rule i j t t' s _ _ hc ⟨.int (g i j),H,I.tok _,⟨_,Z⟩,q⟩
theorem Pm{f:Value->Value->Sem Value}{g:Int->Int->Int} (rule:∀(i j:Int)(t u:Tok)(s:ae)(Q:Value->ae->Prop)(E:Value->ae->Prop),Q (.int (g i j) s.toks) {s with toks:=s.toks+1}->wpAny (model X.prog X.w) X.A (f (.int i t) (.int j u)) Q E s): cO X f (jn λi j=>.int (g i j)):=by intro pins s O H x y v u Q I rx ry h;obtain⟨i,j,rfl,rfl,q⟩:=h;obtain⟨t,rfl⟩:=rx;obtain⟨t',rfl⟩:=ry;exact rule i j t t' s _ _ ⟨.int (g i j),H,I.tok _,⟨_,Z⟩,q⟩
theorem uA{f:Value->Value->Sem Value}{g:Int->Int->Bool} (rule:∀(i j:Int)(t u:Tok)(s:ae)(Q:Value->ae->Prop)(E:Value->ae->Prop),Q (.bool (g i j)) s->wpAny (model X.prog X.w) X.A (f (.int i t) (.int j u)) Q E s): cO X f (jn λi j=>.bl (g i j)):=by intro pins s O H x y v u Q I rx ry h;obtain⟨i,j,rfl,rfl,q⟩:=h;obtain⟨t,rfl⟩:=rx;obtain⟨t',rfl⟩:=ry;exact rule i j t t' s _ _ ⟨.bl (g i j),H,I,Z,q⟩
def acT(i j:Int):Prop:=0<=j/\j<=1000000/\i.natAbs<2^64
theorem dI:cO X (binaryOp .Add) (jn λi j=>.int (i+j)):=Pm λ_ _ _ _ _ _ _ q=>add_int q
theorem jr:cO X (binaryOp .Sub) (jn λi j=>.int (i-j)):=Pm λ_ _ _ _ _ _ _ q=>sub_int q
theorem pM:cO X (binaryOp .Mod) (rI (λ_ j=>0<j) λi j=>.int (i%j)):=x8 λi j _ _ _ _ _ hc q=>by have h1:(0:Int)<j:=hc;exact mod_int' au (by rw[Vm i au];exact q)
theorem Ax:cO X (binaryOp .Pow) (rI acT λi j=>.int (i^j.toNat)):=x8 λ_ _ _ _ _ _ _ hc q=>pow_int_small hc.1 hc.2.1 hc.2.2 q
theorem VY{f:Value->Sem Value}{g:Int->Int} (rule:∀(i:Int)(t:Tok)(s:ae)(Q:Value->ae->Prop)(E:Value->ae->Prop),Q (.int (g i) s.toks) {s with toks:=s.toks+1}->wpAny (model X.prog X.w) X.A (f (.int i t)) Q E s): JQ X f (rU λi=>.int (g i)):=by intro pins s O H x v Q I rx h;obtain⟨i,rfl,q⟩:=h;obtain⟨t,rfl⟩:=rx;exact rule i t s _ _ ⟨.int (g i),H,I.tok _,⟨_,Z⟩,q⟩
theorem lZ:JQ X (unaryOp .USub) (rU λi=>.int (-i)):=VY λ_ _ _ _ _ q=>neg_int q
end
def Mn:V->V->Bool | .bw,.bw=>true| .bw,.int _=>true| .int _,.bw=>true| .bw,.bl _=>true| .bl _,.bw=>true| .bw,.str _=>true| .str _,.bw=>true | .int _,.int _=>true| .bl _,.bl _=>true| .str _,.str _=>true| .jz _,.jz _=>true | .int _,.str _=>true| .str _,.int _=>true| .bl _,.str _=>true| .str _,.bl _=>true |_,_=>false
def YI:R2:=λx y H Q=>Mn x y=true/\Q (.bl (decide (x=y))) H
def ON:R2:=λx y H Q=>Mn x y=true/\Q (.bl (!decide (x=y))) H
theorem Te{i j:Int}:decide (V.int i=V.int j)=(i==j):=by rw[jg];simp
theorem Tg{i j:Bool}:decide (V.bl i=V.bl j)=(i==j):=by rw[jg];simp
theorem Td{i j:Str}:decide (V.str i=V.str j)=(i==j):=by rw[jg];simp
theorem Tf{i j:Array UInt8}:decide (V.jz i=V.jz j)=(i.toList==j.toList):=by rw[jg];cases i;cases j;simp
section
variable {X:Cx}{a b c:Expr}{ta tb tc:TE}{pos:Pos}
theorem dR{pins:List (Addr×Obj)}{O:St}{H:Hp}{s:ae}{Q:VK}{k k':Bool}(I:Inv X pins O H s)(q:Q (.bl k) H)(e:k=k'):EP X pins O Q (.bool k') s:=by subst e;exact⟨.bl k,H,I,Z,q⟩
theorem x6:cO X (compareOp .Eq) YI:=by intro pins s O H x y v u Q I rx ry h;obtain⟨hs,q⟩:=h;cases x with
 |bw=>cases rx;cases y with |bw=>cases ry;exact PySem.EqNone.eq_none_none (dR I q (by simp)) |bl j=>cases ry;exact PySem.EqNone.eq_none_bool (dR I q (by simp)) |int j=>obtain⟨t',rfl⟩:=ry;exact PySem.EqNone.eq_none_int (dR I q (by simp)) |str j=>obtain⟨t',rfl⟩:=ry;exact PySem.EqNone.eq_none_str (dR I q (by simp)) |_=>exact absurd (show false=true from hs) dQ
 |bl i=>cases rx;cases y with |bw=>cases ry;exact PySem.EqNone.eq_bool_none (dR I q (by simp)) |bl j=>cases ry;exact eq_bool (dR I q Tg) |str j=>obtain⟨t',rfl⟩:=ry;exact PySem.EqMixed.eq_bool_str (dR I q (by simp)) |_=>exact absurd (show false=true from hs) dQ
 |int i=>obtain⟨t,rfl⟩:=rx;cases y with |bw=>cases ry;exact PySem.EqNone.eq_int_none (dR I q (by simp)) |int j=>obtain⟨t',rfl⟩:=ry;exact eq_int (dR I q Te) |str j=>obtain⟨t',rfl⟩:=ry;exact PySem.EqMixed.eq_int_str (dR I q (by simp)) |_=>exact absurd (show false=true from hs) dQ
 |str i=>obtain⟨t,rfl⟩:=rx;cases y with |bw=>cases ry;exact PySem.EqNone.eq_str_none (dR I q (by simp)) |bl j=>cases ry;exact PySem.EqMixed.eq_str_bool (dR I q (by simp)) |int j=>obtain⟨t',rfl⟩:=ry;exact PySem.EqMixed.eq_str_int (dR I q (by simp)) |str j=>obtain⟨t',rfl⟩:=ry;exact eq_str (dR I q Td) |_=>exact absurd (show false=true from hs) dQ
 |jz i=>obtain⟨t,rfl⟩:=rx;cases y with |jz j=>obtain⟨t',rfl⟩:=ry;exact PySem.W.eq_bytes (dR I q Tf) |_=>exact absurd (show false=true from hs) dQ
 |_=>cases y<;>exact absurd (show false=true from hs) dQ
theorem uy:cO X (compareOp .NotEq) ON:=by intro pins s O H x y v u Q I rx ry h;obtain⟨hs,q⟩:=h;cases x with
 |bw=>cases rx;cases y with |bw=>cases ry;exact PySem.EqNone.ne_none_none (dR I q (by simp)) |bl j=>cases ry;exact PySem.EqNone.ne_none_bool (dR I q (by simp)) |int j=>obtain⟨t',rfl⟩:=ry;exact PySem.EqNone.ne_none_int (dR I q (by simp)) |str j=>obtain⟨t',rfl⟩:=ry;exact PySem.EqNone.ne_none_str (dR I q (by simp)) |_=>exact absurd (show false=true from hs) dQ
 |bl i=>cases rx;cases y with |bw=>cases ry;exact PySem.EqNone.ne_bool_none (dR I q (by simp)) |bl j=>cases ry;exact ne_bool (dR I q (lW not Tg)) |str j=>obtain⟨t',rfl⟩:=ry;exact PySem.EqMixed.ne_bool_str (dR I q (by simp)) |_=>exact absurd (show false=true from hs) dQ
 |int i=>obtain⟨t,rfl⟩:=rx;cases y with |bw=>cases ry;exact PySem.EqNone.ne_int_none (dR I q (by simp)) |int j=>obtain⟨t',rfl⟩:=ry;exact ne_int (dR I q (lW not Te)) |str j=>obtain⟨t',rfl⟩:=ry;exact PySem.EqMixed.ne_int_str (dR I q (by simp)) |_=>exact absurd (show false=true from hs) dQ
 |str i=>obtain⟨t,rfl⟩:=rx;cases y with |bw=>cases ry;exact PySem.EqNone.ne_str_none (dR I q (by simp)) |bl j=>cases ry;exact PySem.EqMixed.ne_str_bool (dR I q (by simp)) |int j=>obtain⟨t',rfl⟩:=ry;exact PySem.EqMixed.ne_str_int (dR I q (by simp)) |str j=>obtain⟨t',rfl⟩:=ry;exact ne_str (dR I q (lW not Td)) |_=>exact absurd (show false=true from hs) dQ
 |jz i=>obtain⟨t,rfl⟩:=rx;cases y with |jz j=>obtain⟨t',rfl⟩:=ry;exact PySem.W.ne_bytes (dR I q (lW not Tf)) |_=>exact absurd (show false=true from hs) dQ
 |_=>cases y<;>exact absurd (show false=true from hs) dQ
theorem kX:cO X (compareOp .Lt) (jn λi j=>.bl (decide (i<j))):=uA λ_ _ _ _ _ _ _ q=>lt_int q
theorem Ay:cO X (compareOp .LtE) (jn λi j=>.bl (decide (i<=j))):=uA λ_ _ _ _ _ _ _ q=>le_int q
theorem Pk:cO X (compareOp .Gt) (jn λi j=>.bl (decide (j<i))):=uA λ_ _ _ _ _ _ _ q=>gt_int q
theorem Az:cO X (compareOp .GtE) (jn λi j=>.bl (decide (j<=i))):=uA λ_ _ _ _ _ _ _ q=>ge_int q
theorem ZE:cO X (compareOp .In) (λx y H Q=>∃i j,x= .str i/\y= .str j/\Q (.bl (!(Builtin.Str.occurrences j i 0 j.length 1).isEmpty)) H):=by intro pins s O H x y v u Q I rx ry h;obtain⟨i,j,rfl,rfl,q⟩:=h;obtain⟨t,rfl⟩:=rx;obtain⟨t',rfl⟩:=ry;exact in_str (dR I q Z)
theorem Ph:cO X (compareOp .Is) (λx y H Q=>y= .bw/\Q (.bl (decide (x= .bw))) H):=by intro pins s O H x y v u Q I rx ry h;obtain⟨rfl,q⟩:=h;cases ry;refine is_none_gen (dR I q ?_);cases x<;>first |(cases rx;rfl) |(obtain⟨t,rfl⟩:=rx;rfl)
theorem Pg:cO X (compareOp .IsNot) (λx y H Q=>y= .bw/\Q (.bl (!decide (x= .bw))) H):=by intro pins s O H x y v u Q I rx ry h;obtain⟨rfl,q⟩:=h;cases ry;refine isnot_none_gen (dR I q ?_);cases x<;>first |(cases rx;rfl) |(obtain⟨t,rfl⟩:=rx;rfl)
theorem cO.or{f:Value->Value->Sem Value}{r r':R2}(h:cO X f r)(h':cO X f r'):cO X f (λx y H Q=>r x y H Q\/r' x y H Q):=by
 intro pins s O H x y v u Q I rx ry q;rcases q with q|q
 ·exact h pins s O H x y v u Q I rx ry q
 ·exact h' pins s O H x y v u Q I rx ry q
theorem bL(b:Expr){op:CmpOp}(h:autoParam (op≠ .In) q8_._auto_1)(h2:autoParam (op≠ .NotIn) q8_._auto_1):behindInMarks op b=false:=by
 have e1:(op==CmpOp.In)=false:=by cases op<;>first|rfl|exact absurd rfl h
 have e2:(op==CmpOp.NotIn)=false:=by cases op<;>first|rfl|exact absurd rfl h2
 cases b<;>simp[behindInMarks,e1,e2]
theorem jq{op:CmpOp}{r:R2}(ho:cO X (compareOp op) r)(ha:PE X a ta)(hb:PE X b tb)(hm:behindInMarks op b=false):PE X (.Compare a [op] [b] pos) (u6 r ta tb):=by intro pins s O H Q I h;exact wpAny_Compare1 (JE ha hb I h λv u s2 x y H2 I2 rx ry q=>ho pins s2 O H2 x y v u Q I2 rx ry q) hm
inductive aav(Q:Bool->Hp->Prop)(x:V)(H':Hp):Prop |mk (k:_)(h0:x= .bl k)(h1:Q k H')
def CN(t:TE):TT:=λO H Q=>t O H λx H'=>aav Q x H'
theorem bX{op:CmpOp}{r:R2}(ho:cO X (compareOp op) r)(ha:PE X a ta)(hb:PE X b tb)(hm:behindInMarks op b=false):PT X (.Compare a [op] [b] pos) (CN (u6 r ta tb)):=by intro pins s O H Q I h;refine wpAny_isTrue_Compare1 (aZ (ha pins s O H _ I h) λv s1 ⟨x,H1,I1,r1,q1⟩=>aZ (hb pins s1 O H1 _ I1 q1) λu s2 ⟨y,H2,I2,r2,q2⟩=>aZ (ho pins s2 O H2 x y v u _ I2 r1 r2 q2) λc s3 ⟨z,H3,I3,r3,k,e,q3⟩=>?_) hm;subst e;cases r3;exact ny ⟨H3,I3,q3⟩
inductive aaB(r':R2)(tc:TE)(O:St)(Q:VK)(y:V)(z:V)(H3:Hp):Prop |mk (k:_)(h0:z= .bl k)(h1:(if k=true then tc O H3 λw' H4=>r' y w' H4 Q else Q (.bl false) H3))
def Le(r r':R2)(ta tb tc:TE):TE:=λO H Q=>ta O H λx H1=>tb O H1 λy H2=>r x y H2 λz H3=>aaB r' tc O Q y z H3
theorem Zc{op rQ:CmpOp}{r r':R2}(ho:cO X (compareOp op) r)(lB:cO X (compareOp rQ) r')(ha:PE X a ta)(hb:PE X b tb)(hc:PE X c tc) (hm:autoParam (lastMarks [op,rQ] [b,c]=false) v8_._auto_1):PE X (.Compare a [op,rQ] [b,c] pos) (Le r r' ta tb tc):=by intro pins s O H Q I h;refine Compare_chain (aZ (ha pins s O H _ I h) λv s1 ⟨x,H1,I1,r1,q1⟩=>chain_link (aZ (hb pins s1 O H1 _ I1 q1) λu s2 ⟨y,H2,I2,r2,q2⟩=>aZ (ho pins s2 O H2 x y v u _ I2 r1 r2 q2) λd s3 ⟨z,H3,I3,r3,k,e,q3⟩=>?_)) hm;subst e;cases r3;refine ny ?_;cases k with |false=>exact ite_ff ⟨.bl false,H3,I3,Z,q3⟩ |true=>exact ite_tt (chain_last (aZ (hc pins s3 O H3 _ I3 q3) λw' s4 ⟨z',H4,I4,r4,q4⟩=>lB pins s4 O H4 y z' u w' Q I4 r2 r4 q4))
theorem YQ{op rQ:CmpOp}{r r':R2}(ho:cO X (compareOp op) r)(lB:cO X (compareOp rQ) r')(ha:PE X a ta)(hb:PE X b tb)(hc:PE X c tc) (hm:autoParam (lastMarks [op,rQ] [b,c]=false) v8_._auto_1):PT X (.Compare a [op,rQ] [b,c] pos) (CN (Le r r' ta tb tc)):=by intro pins s O H Q I h;refine isTrue_chain (aZ (ha pins s O H _ I h) λv s1 ⟨x,H1,I1,r1,q1⟩=>test_link (aZ (hb pins s1 O H1 _ I1 q1) λu s2 ⟨y,H2,I2,r2,q2⟩=>aZ (ho pins s2 O H2 x y v u _ I2 r1 r2 q2) λd s3 ⟨z,H3,I3,r3,k,e,q3⟩=>?_)) hm;subst e;cases r3;refine ny ?_;cases k with |false=>obtain⟨k',e',q'⟩:=q3;cases e';exact ite_ff ⟨H3,I3,q'⟩ |true=>refine ite_tt (test_last (aZ (hc pins s3 O H3 _ I3 q3) λw' s4 ⟨z',H4,I4,r4,q4⟩=>aZ (lB pins s4 O H4 y z' u w' _ I4 r2 r4 q4) λd' s5 ⟨z2,H5,I5,r5,k2,e2,q5⟩=>?_));subst e2;cases r5;exact ny ⟨H5,I5,q5⟩
def JR(K:aa)(x:V)(H:Hp)(k:Bool):Prop:=match x with | .bw=>k=false | .bl b=>k=b | .int i=>k=(i !=0) | .str y=>y.length<=sizeLine/\k=((y.length:Int) !=0) | .jz y=>y.size<=sizeLine/\k=((y.size:Int) !=0) | .ref p=>(∃xs,aI K H p xs/\k= !xs.isEmpty)\/(∃xs,aY K H p xs/\k= !xs.isEmpty)\/∃dJ,H p=some (.dK dJ)/\k= !dJ.isEmpty |_=>False
theorem a3T{κ:Type}{dJ:List (κ×V)}{vs:List (κ×Value)}(r:KV dJ vs):(!vs.isEmpty)= !dJ.isEmpty:=by cases r<;>rfl
theorem QL{xs:List V}{its:List Value}(r:Vals xs its):(!its.toArray.isEmpty)= !xs.isEmpty:=by cases r<;>simp
theorem sy:(sizeLine:Nat)<2^63:=by rw[yT];decide
theorem Wc:aal X (λx H Q=>∃k,JR X.K x H k/\Q k H):=by intro pins s O H x v Q I rx h;obtain⟨k,e,q⟩:=h;have hl:=sy;have hs:sizeLine=16777216:=yT;cases x with |bw=>cases rx;have e':k=false:=e;subst e';exact truthy_none ⟨H,I,q⟩ |bl b=>cases rx;have e':k=b:=e;subst e';exact ny ⟨H,I,q⟩ |int i=>obtain⟨t,rfl⟩:=rx;have e':k=(i !=0):=e;subst e';exact PySem.P.truthy_int ⟨H,I,q⟩ |str y=>obtain⟨t,rfl⟩:=rx;obtain⟨hy,e'⟩:y.length<=sizeLine/\k=((y.length:Int) !=0):=e;subst e';exact PySem.P.truthy_str au ⟨H,I.tok _,q⟩ |jz y=>obtain⟨t,rfl⟩:=rx;obtain⟨hy,e'⟩:y.size<=sizeLine/\k=((y.size:Int) !=0):=e;subst e';exact PySem.W.truthy_bytes au ⟨H,I.tok _,q⟩ |ref p=>
 cases rx;have e':(∃xs,aI X.K H p xs/\k= !xs.isEmpty)\/(∃xs,aY X.K H p xs/\k= !xs.isEmpty)\/∃dJ,H p=some (.dK dJ)/\k= !dJ.isEmpty:=e;rcases e' with⟨xs,hx,e'⟩|⟨xs,hx,e'⟩|⟨dJ,hx,e'⟩
 ·subst e'
  obtain⟨its,r,pl,hz⟩:=I.list hx;have hlen:=r.length;exact wpAny_truthy_list pl.isList (by simp only[dP];lia) ⟨H,I.tok _,by rw[QL r];exact q⟩
 ·subst e'
  obtain⟨its,r,pl,hz⟩:=I.tuple hx;have hlen:=r.length;exact truthy_tuple pl (by simp only[dP];lia) ⟨H,I.tok _,by rw[QL r];exact q⟩
 ·subst e'
  obtain⟨hz,hS,vs,r,m⟩:dJ.length<=sizeLine/\(p==sysModules)=false/\∃vs,KV dJ vs/\s.heap.DictOf (GR X.prog X.w) p vs:=I.bp p _ hx;have hlen:dJ.length=vs.length:=Paired.length r;exact wpAny_truthy_dict hS m au ⟨H,I.tok _,by rw[a3T r];exact q⟩ |_=>exact(show False from e).elim
theorem YN(ha:PE X a ta)(he:∀whole,isTrue a X.env whole=(do let v<-whole;standAt a.pos;holding [v] (truthy v))): PT X a (λO H Q=>ta O H λx H'=>∃k,JR X.K x H' k/\Q k H'):=by intro pins s O H Q I h;exact isTrue_plain (aZ (ha pins s O H _ I h) λv s1 ⟨x,H1,I1,r1,q1⟩=>Wc pins s1 O H1 x v Q I1 r1 q1) (he _)
theorem gM:cO X (binaryOp .Add) (λx y H Q=>∃i j,x= .str i/\y= .str j/\i.length+j.length<=sizeLine/\Q (.str (i++j)) H):=by intro pins s O H x y v u Q I rx ry h;obtain⟨i,j,rfl,rfl,hz,q⟩:=h;obtain⟨t,rfl⟩:=rx;obtain⟨t',rfl⟩:=ry;exact add_str (λt' tk=>⟨.str (i++j),H,I.tok _,⟨_,Z⟩,q⟩) hz
theorem vals1{x:V}{us:List Value}(r:Vals [x] us):∃u,us=[u]/\RelV x u:=by cases r with |cons r1 r2=>cases r2;exact⟨_,rfl,r1⟩
theorem vals2{x y:V}{us:List Value}(r:Vals [x,y] us):∃u w',us=[u,w']/\RelV x u/\RelV y w':=by cases r with |cons r1 r2=>cases r2 with |cons r3 r4=>cases r4;exact⟨_,_,rfl,r1,r3⟩
theorem tf:dX X (.builtin "abs") (λxs H Q=>∃i,xs=[.int i]/\Q (.int (if i<0 then-i else i)) H):=by intro pins s O H xs us Q I r h;obtain⟨i,rfl,q⟩:=h;obtain⟨u,rfl,t,rfl⟩:=vals1 r;exact call_abs_int λu tk=>⟨.int (if i<0 then-i else i),H,I.tok _,⟨_,Z⟩,q⟩
theorem TN(hc:X.calm=true):dX X (.builtin "max") (λxs H Q=>∃i j,xs=[.int i,.int j]/\Q (.int (if j>i then j else i)) H):=by
 intro pins s O H xs us Q I r h;obtain⟨i,j,rfl,q⟩:=h;obtain⟨u,w',rfl,⟨t,rfl⟩,⟨t',rfl⟩⟩:=vals2 r;refine max_two_ints (I.ok.hd hc) λh' tk k=>⟨_,H,I.kept k,?_,q⟩;by_cases hj:j>i
 ·rw[bc hj,bc hj];exact⟨_,Z⟩
 ·rw[bf hj,bf hj];exact⟨_,Z⟩
theorem Jy(hc:X.calm=true):dX X (.builtin "min") (λxs H Q=>∃i j,xs=[.int i,.int j]/\Q (.int (if j<i then j else i)) H):=by
 intro pins s O H xs us Q I r h;obtain⟨i,j,rfl,q⟩:=h;obtain⟨u,w',rfl,⟨t,rfl⟩,⟨t',rfl⟩⟩:=vals2 r;refine min_two_ints (I.ok.hd hc) λh' tk k=>⟨_,H,I.kept k,?_,q⟩;by_cases hj:j<i
 ·rw[bc hj,bc hj];exact⟨_,Z⟩
 ·rw[bf hj,bf hj];exact⟨_,Z⟩
theorem JA:dX X (.type "int") (λxs H Q=>(∃i,xs=[.int i]/\Q (.int i) H)\/∃k,xs=[.bl k]/\Q (.int (if k then 1 else 0)) H):=by
 intro pins s O H xs us Q I r h;rcases h with⟨i,rfl,q⟩|⟨k,rfl,q⟩
 ·obtain⟨u,rfl,t,rfl⟩:=vals1 r
  exact call_int_int ⟨.int i,H,I,⟨_,Z⟩,q⟩
 ·obtain⟨u,rfl,r1⟩:=vals1 r
  cases r1;exact call_int_bool ⟨.int (if k then 1 else 0),H,I.tok _,⟨_,Z⟩,q⟩
end
structure tG(h:Heap)(x dx C:Addr)(mA:bD):Prop where
 obj:h.get? x=some (PySem.W.instObj C dx)
 ns:h.Ns1 dx mA
 ne:dx≠x
theorem Qm{h:Heap}{dx:Addr}{mA:bD}(n:h.Ns1 dx mA):∃od,h.get? dx=some od/\∀name,PySem.W.lookIn name od=some (mA name):=by
 obtain⟨o,es,ep,ho,hd,hk,_,hm⟩:=n;refine⟨o,ho,λname=>?_⟩;have e:=hm name;unfold nsFind findBy at e;rw[<-Array.find?_toList]at e;unfold PySem.W.lookIn;rw[hd];dsimp only;split
 ·rename_i y q
  rw[q]at e;exact lW some e
 ·rename_i q
  rw[q]at e;have a:es.toList.any (·.refKey)=false:=by rw[List.any_eq_false];intro y hy;obtain⟨z,t,a51⟩:=hk y (Array.mem_toList_iff.mp hy);simp[DictEntry.refKey,a51]
  have a':¬es.toList.any (·.refKey)=true:=by rw[a];exact dQ
  rw[bf a'];exact lW some e
theorem tG.look{h:Heap}{x dx C:Addr}{mA:bD}(I:tG h x dx C mA):∃od,PySem.W.InstAt h x (PySem.W.instObj C dx) C (some od)/\∀name,PySem.W.lookIn name od=some (mA name):=let⟨od,ho,hl⟩:=Qm I.ns
 ⟨od,⟨I.obj,Z,Z,ho⟩,hl⟩
section
variable {prog:af}{w:World}{A:ai}{E:Value->ae->Prop}{s:ae}{K:aa}{x dx C f:Addr}{mA:bD}{name:Str}{v:Value}
theorem get_map{expr:Bool}{Q:Value->ae->Prop}(X:K.In s.heap)(I:tG s.heap x dx C mA)(hg:PySem.W.plainGet K C name=true)(hh:PySem.W.hasDictIn K C=true) (ha:PySem.W.findIn K (.ref C) name=some none)(hv:mA name=some v)(hv':PySem.W.handedIn v=true)(h:Q v {s with toks:=s.toks+1}): wpAny (model prog w) A (getAttr (.ref x) name expr) Q E s:=by obtain⟨od,J,hl⟩:=I.look;exact PySem.W.get_value X J (UR hg).1 (PySem.W.findObj_own hh ha Z (by rw[hl,hv])) hv' h
theorem a6F{pl:Sem Bool}{Q:Value×List Value->ae->Prop}(X:K.In s.heap)(I:tG s.heap x dx C mA)(hg:PySem.W.plainGet K C name=true) (hf:PySem.W.findIn K (.ref C) name=some (some (.ref f)))(ht:PySem.W.isFn K (.ref f)=true)(hv:mA name=none)(h:Q (.ref f,[.ref x]) s): wpAny (model prog w) A (getMethod (.ref x) name pl) Q E s:=by obtain⟨od,J,hl⟩:=I.look;exact PySem.W.method_fn X J (UR hg).1 (UR hg).2 hf (fm.mp ht) (by show(PySem.W.lookIn name od).map (·.isSome)=some false;rw[hl,hv];rfl) h
theorem Xq{ns:List Str}{Q:Unit->ae->Prop}(X:K.In s.heap)(I:tG s.heap x dx C mA) (hs:PySem.W.findIn K (.ref C) "__setattr__"=some (some (.builtin "object.__setattr__")))(hp:PySem.W.plainOver K C=true)(ht:PySem.W.takerIn K C name=some none)(hh:PySem.W.hasDictIn K C=true) (hw:PySem.Within mA ns)(hsz:ns.length<=sizeLine) (h:∀h',tG h' x dx C (λy=>if y=name then some v else mA y)->Heap.SameBut dx s.heap h'->Q () {s with heap:=h',toks:=s.toks+2}): wpAny (model prog w) A (setAttr (.ref x) name v) Q E s:=by obtain⟨od,J,hl⟩:=I.look;refine PySem.W.set_plain X J hs (PySem.W.osa_open (s:={s with toks:=s.toks+1}) (r:=none) X J hp ht λb=>?_);obtain⟨cd,hc,Ij⟩:=PySem.W.any_some hh;have hx:s.heap.get? x=some ⟨.ref C,some dx,.plain,#[]⟩:=I.obj;refine aK (bT (aK (aK (wpAny_loadPart hx (aK (PySem.W.Looks.here (s:={s with toks:=s.toks+1}) (PySem.W.looks_clsIn X hc) ?_))))));rw[Ij];refine bT (a:=some dx) (aK (bT (aK ?_)));refine wpAny_nsSet1 (s:={s with toks:=s.toks+1}) I.ns λh' uT iu=>?_;obtain⟨oD,esD,epD,hoD,hdD,hcD⟩:=uT.count (PySem.Within.cons name v hw);refine aK (wpAny_lookBehind hoD (by rw[hdD];exact pastItsLine_dict (gH hcD (by rw[gp];lia))) ?_);exact bT (h _ ⟨(iu.2 _ (iV I.ne)).trans I.obj,uT,I.ne⟩ iu)
theorem a2M{R:Result->ae->Prop}{vs:List Value}{kw:List (Str×Value)}(X:K.In s.heap)(hm:PySem.W.makesIn K C=true) (hi:PySem.W.findIn K (.ref C) "__init__"=some (some (.ref f)))(hf:PySem.W.typeIn K (.ref f)=some (.type "function")) (h:codeAny (model prog w) (A.under (.builtin "type.__call__" ⟨.ref C::vs,kw⟩)) (.call (.ref f) ⟨.ref (s.heap.objs.size+1)::vs,kw⟩) (PySem.W.InitBack (s.heap.objs.size+1) R) {s with heap:=(s.heap.push PySem.W.emptyDict).push (PySem.W.instObj C s.heap.objs.size)}): codeAny (model prog w) A (.call (.ref C) ⟨vs,kw⟩) R s:=by obtain⟨hh,g,d,t,os⟩:=s;exact PySem.W.make_core (PySem.W.makes_of X hm) (PySem.W.looks_findIn X hi) (λself=>PySem.W.bind_fn X self hf) (.inl Z) h
end
def ip(f:Str)(v:V):List (Str×V)->List (Str×V) |[]=>[(f,v)] |(g,x)::r=>if g=f then(g,v)::r else(g,x)::ip f v r
theorem Ql(f g:Str)(v:V):∀fs:List (Str×V),(ip f v fs).lookup g=if g=f then some v else fs.lookup g
 |[]=>by
  show List.lookup g [(f,v)]=_;by_cases h:g=f
  ·have hb:(g==f)=true:=fm.mpr h
   simp only[List.lookup,hb,bc h]
  ·have hb:(g==f)=false:=Ka.mpr h
   simp only[List.lookup,hb,bf h] |(k,x)::r=>by
  have ih:=Ql f g v r;rw[show ip f v ((k,x)::r)=(if k=f then(k,v)::r else(k,x)::ip f v r)from rfl];by_cases hk:k=f
  ·rw[bc hk]
   by_cases h:g=k
   ·have hb:(g==k)=true:=fm.mpr h
    simp only[List.lookup,hb,bc (h.trans hk)]
   ·have hb:(g==k)=false:=Ka.mpr h
    simp only[List.lookup,hb,bf (λe:g=f=>h (e.trans hk.symm))]
  ·rw[bf hk]
   by_cases h:g=k
   ·have hb:(g==k)=true:=fm.mpr h
    simp only[List.lookup,hb,bf (λe:g=f=>hk (h.symm.trans e))]
   ·have hb:(g==k)=false:=Ka.mpr h
    simp only[List.lookup,hb];exact ih
theorem Hh(f:Str)(v:V):∀fs:List (Str×V),f∈(ip f v fs).map (·.1)/\∀g,g∈fs.map (·.1)->g∈(ip f v fs).map (·.1)
 |[]=>⟨by simp[ip],λg h=>by simp at h⟩ |(k,x)::r=>by
  obtain⟨i1,i2⟩:=Hh f v r;rw[show ip f v ((k,x)::r)=(if k=f then(k,v)::r else(k,x)::ip f v r)from rfl];by_cases hk:k=f
  ·rw[bc hk]
   subst hk;exact⟨by simp,λg h=>by simpa using h⟩
  ·rw[bf hk]
   refine⟨?_,λg h=>?_⟩
   ·rw[qM]
    exact vS _ i1
   ·rw[qM]at h⊢
    rcases cg.mp h with e|e
    ·exact cg.mpr (.inl e)
    ·exact vS _ (i2 g e)
theorem Qv(f:Str)(v:V):∀fs:List (Str×V),(ip f v fs).length<=fs.length+1
 |[]=>by simp[ip] |(k,x)::r=>by
  have ih:=Qv f v r;rw[show ip f v ((k,x)::r)=(if k=f then(k,v)::r else(k,x)::ip f v r)from rfl];by_cases hk:k=f
  ·rw[bc hk,gp,gp];lia
  ·rw[bf hk,gp,gp];lia
theorem ng.some_of{v:V}{o:Option Value}(r:ng (some v) o):∃u,o=some u/\RelV v u:=by cases o with |none=>exact(show False from r).elim |some u=>exact⟨u,Z,r⟩
theorem ng.none_of{o:Option Value}(r:ng none o):o=none:=by cases o with |none=>rfl |some u=>exact(show False from r).elim
theorem a5L{v:V}{u:Value}(r:RelV v u):PySem.W.handedIn u=true:=by cases v with |bw=>cases(show u=Value.none from r);rfl |bl b=>cases(show u=Value.bool b from r);rfl |int i=>obtain⟨t,e⟩:=(show∃t,u=Value.int i t from r);cases e;rfl |str x=>obtain⟨t,e⟩:=(show∃t,u=Value.str x t from r);cases e;rfl |jz b=>obtain⟨t,e⟩:=(show∃t,u=Value.bytes b t from r);cases e;rfl |BA b=>obtain⟨t,e⟩:=(show∃t,u=Value.float b t from r);cases e;rfl |ref a=>cases(show u=Value.ref a from r);rfl |ty n=>cases(show u=Value.type n from r);rfl
section
variable {P:af}{w:World}{H H':Hp}{h h':Heap}{a C dx:Addr}{fs lK:List (Str×V)}
theorem Hq(bp:eF P w H h)(e:H a=some (.ins C dx fs)):∃mA,tG h a dx C mA/\(∀f,ng (fs.lookup f) (mA f))/\PySem.Within mA (fs.map (·.1))/\fs.length<=1000/\H dx=some (.own a):=by obtain⟨d,z,ne,ob,mA,n,r,q⟩:=(show gj P w H h a (.ins C dx fs)from bp a _ e);exact⟨mA,⟨ob,n,ne⟩,r,q,z,d⟩
end
structure hZ(K:aa)(C:Addr):Prop where
 pg:PySem.W.plainGet K C Str.empty=true
 hd:PySem.W.hasDictIn K C=true
 po:PySem.W.plainOver K C=true
 sa:PySem.W.findIn K (.ref C) "__setattr__"=some (some (.builtin "object.__setattr__"))
theorem hZ.get{K:aa}{C:Addr}(c:hZ K C)(f:Str):PySem.W.plainGet K C f=true:=c.pg
def gR(K:aa)(C:Addr)(f:Str):Prop:=PySem.W.findIn K (.ref C) f=some none
theorem gR.Wn{K:aa}{C:Addr}{f:Str}(n:gR K C f):PySem.W.takerIn K C f=some none:=by unfold PySem.W.takerIn;rw[show PySem.W.findIn K (.ref C) f=some none from n];rfl
structure Meth(K:aa)(C:Addr)(m:Str)(f:Addr):Prop where
 at_:PySem.W.findIn K (.ref C) m=some (some (.ref f))
 fn:PySem.W.isFn K (.ref f)=true
 kp:PySem.W.keepIn K (.ref f)=true
section
variable {X:Cx}{pins:List (Addr×Obj)}{O:St}{H:Hp}{s:ae}{a C dx:Addr}{fs:List (Str×V)}{f:Str}{v:V}{A:ai}{E:Value->ae->Prop}
theorem S8{b:Bool}{Q:Value->ae->Prop}(I:Inv X pins O H s)(e:H a=some (.ins C dx fs))(c:hZ X.K C)(n:gR X.K C f)(l:fs.lookup f=some v) (h:∀u s',Inv X pins O H s'->RelV v u->Q u s'):wpAny (model X.prog X.w) A (getAttr (.ref a) f b) Q E s:=by obtain⟨mA,aee,r,_,_,_⟩:=Hq I.bp e;obtain⟨u,hu,ru⟩:=ng.some_of (v:=v) (o:=mA f) (by rw[<-l];exact r f);exact get_map I.fh aee (c.get f) c.hd n hu (a5L ru) (h u _ (I.tok _) ru)
theorem S7{m:Str}{g:Addr}{pl:Sem Bool}{Q:Value×List Value->ae->Prop}(I:Inv X pins O H s)(e:H a=some (.ins C dx fs))(c:hZ X.K C)(k:Meth X.K C m g)(l:fs.lookup m=none) (h:Q (.ref g,[.ref a]) s):wpAny (model X.prog X.w) A (getMethod (.ref a) m pl) Q E s:=by obtain⟨mA,aee,r,_,_,_⟩:=Hq I.bp e;have hn:mA m=none:=ng.none_of (by rw[<-l];exact r m);exact a6F I.fh aee (c.get m) k.at_ k.fn hn h
theorem Mm{y:V}{u:Value}{Q:Unit->ae->Prop}(I:Inv X pins O H s)(e:H a=some (.ins C dx fs))(c:hZ X.K C)(n:gR X.K C f)(hl:fs.length<1000)(ry:RelV y u) (h:∀s',Inv X pins O (upd H a (.ins C dx (ip f y fs))) s'->Q () s'):wpAny (model X.prog X.w) A (setAttr (.ref a) f u) Q E s:=by
 obtain⟨mA,aee,r,wi,_,ho⟩:=Hq I.bp e;have hz:(fs.map (·.1)).length<=sizeLine:=by rw[bM,yT];lia
 refine Xq I.fh aee c.sa c.po n.Wn c.hd wi hz λh' O' sb=>h _ ?_;have hd:∃o,h'.get? dx=some o:=let⟨o,_,_,e',_⟩:=O'.ns;⟨o,e'⟩;refine I.write (x:=a) (e:=dx) (by rw[e];exact True.intro) (.inr ho) (λb q hb z=>(sb.2 b hb).trans z) hd ?_;refine⟨by rw[aU aee.ne];exact ho,?_,aee.ne,O'.obj,_,O'.ns,λg=>?_,λg hg=>?_⟩
 ·have:=Qv f y fs;lia
 ·show ng ((ip f y fs).lookup g) (if g=f then some u else mA g)
  rw[Ql];by_cases q:g=f
  ·rw[bc q,bc q];exact ry
  ·rw[bf q,bf q];exact r g
 ·by_cases q:g=f
  ·rw[q];exact(Hh f y fs).1
  ·refine(Hh f y fs).2 g (wi g λz=>hg ?_)
   show(if g=f then some u else mA g)=none;rw[bf q];exact z
theorem Inv.made(I:Inv X pins O H s):Inv X pins O (upd (upd H s.heap.objs.size (.own (s.heap.objs.size+1))) (s.heap.objs.size+1) (.ins C s.heap.objs.size [])) {s with heap:=(s.heap.push PySem.W.emptyDict).push (PySem.W.instObj C s.heap.objs.size)}:=by
 have e1:(s.heap.push PySem.W.emptyDict).get? s.heap.objs.size=some PySem.W.emptyDict:=dH s.heap rfl;have e2:((s.heap.push PySem.W.emptyDict).push (PySem.W.instObj C s.heap.objs.size)).get? (s.heap.objs.size+1)=some (PySem.W.instObj C s.heap.objs.size):=by have:=dH (s.heap.push PySem.W.emptyDict) (o:=PySem.W.instObj C s.heap.objs.size) rfl;rwa [ph]at this
 have e3:(s.heap.push PySem.W.emptyDict).Ns s.heap.objs.size (λ_=>none):=⟨PySem.W.emptyDict,#[],_,e1,Z,(λe he=>absurd he (by simp)),λ_=>rfl⟩;have I1:=I.laid (a:=s.heap.objs.size) (o:=.own (s.heap.objs.size+1)) (h':=s.heap.push PySem.W.emptyDict) (t':=s.toks) (λb u q=>cw _ q) (bI _) ⟨_,e1⟩;refine I1.laid (a:=s.heap.objs.size+1) (o:=.ins C s.heap.objs.size []) (t':=s.toks) (λb u q=>cw _ q) (Nat.le_of_eq (ph _ _)) ?_;have ne:s.heap.objs.size≠s.heap.objs.size+1:=eR (V5 _);refine⟨by rw[aU ne,bW],fC _,ne,e2,λ_=>none,(Heap.Ns1.of_empty e3).at λo q=>cw _ q,λ_=>True.intro,λy hy=>absurd rfl hy⟩
theorem Ub{prog:af}{w:World}{env:Env}{e:Expr}{f:Str}{pos:Pos}{s:ae}{Q:Value->ae->Prop}(hb:attributeBase e f env (eval e env)=eval e env) (h:wpAny (model prog w) A (eval e env) (λo s₁=>wpAny (model prog w) A (getAttr o f true) Q E s₁) E s):wpAny (model prog w) A (eval (.Attribute e f pos) env) Q E s:=Attribute_any_ h (by rw[arm_eval_Attribute,hb])
end
def acx(X:Cx)(op:Operator)(rd:V->V->Hp->VK->Prop):Prop:=∀(pins:List (Addr×Obj))(s:ae)(O:St)(H:Hp)(x y:V)(u v:Value)(Q:VK),Inv X pins O H s->RelV x u->RelV y v->rd x y H Q->wpAny (model X.prog X.w) X.A (inplaceOp op u v) (EP X pins O Q) X.xe s
section
variable {X:Cx}{o e value:Expr}{f:Str}{pos pos' nP:Pos}{ta tv:TE}
end
section
variable {X:Cx}{pins:List (Addr×Obj)}{O:St}{H:Hp}{s:ae}{A:ai}{E:Value->ae->Prop}{Q:Value->ae->Prop}{c:Value}{b:Bool}
end
structure cN(k:Nat)(A:ai):Prop where
 hd:A.handled=none
 dp:A.depth+3*k+5<recursionLimit
 un:A.units+16*k+200<cLine
theorem cN.mono{j k:Nat}{A:ai}(r:cN k A)(h:j<=k):cN j A:=⟨r.hd,by have:=r.dp;lia,by have:=r.un;lia⟩
theorem cN.deeper{k:Nat}{A:ai}(r:cN (k+1) A)(env:Env):cN k (A.deeper env):=⟨r.hd,by have:=r.dp;show A.depth+1+3*k+5<_;lia,by have:=r.un;show A.units+3+16*k+200<_;lia⟩
theorem a2N{A:ai}{C:Addr}{us:List Value}{kw:List (Str×Value)}:(A.under (.builtin "type.__call__" ⟨.ref C::us,kw⟩)).depth=A.depth+1:=by first|rfl|simp[Around.under,Code.weight,Code.isCreation,Code.isGuard,Code.isCaller,Code.frames,Code.isFrame,guardIds]
theorem a2L{A:ai}{C:Addr}{us:List Value}{kw:List (Str×Value)}:(A.under (.builtin "type.__call__" ⟨.ref C::us,kw⟩)).units=A.units+1:=by first|rfl|simp[Around.under,Code.cUnits,Code.frames,Code.isFrame]
theorem cN.make{k:Nat}{A:ai}(r:cN (k+1) A)(C:Addr)(us:List Value)(kw:List (Str×Value)):cN k (A.under (.builtin "type.__call__" ⟨.ref C::us,kw⟩)):=⟨r.hd,by have:=r.dp;rw[a2N];omega,by have:=r.un;rw[a2L];omega⟩
theorem cN.depth{k:Nat}{A:ai}(r:cN k A):A.depth<recursionLimit:=by have:=r.dp;lia
theorem cN.units{k:Nat}{A:ai}(r:cN k A):A.units+64<cLine:=by have:=r.un;lia
def m4:TA:=λ_ H Q=>Q [] H
def wo(ta:TE)(tr:TA):TA:=λO H Q=>ta O H λx H1=>tr O H1 λxs H2=>Q (x::xs) H2
section
variable {X:Cx}{e:Expr}{es:List Expr}{te:TE}{t:TA}{pos:Pos}
theorem aw:PA X [] m4:=λ_ _ _ _ H Q I h=>Calls.spliced_nil ⟨[],H,I,.nil,h⟩
theorem ak(ha:PE X e te)(hr:PA X es t)(hs:autoParam (starEach (e::es) X.env=(false,eval e X.env)::starEach es X.env) r8_._auto_1):PA X (e::es) (wo te t):=by intro pos pins s O H Q I h;rw[hs];show wpAny _ _ (spliced ((false,eval e X.env)::backTo pos (starEach es X.env))) _ _ s;refine Calls.spliced_cons (aZ (ha pins s O H _ I h) λu s1 ⟨x,H1,I1,r1,q1⟩=>?_);exact aZ (hr pos pins s1 O H1 _ I1 q1) λus s2 ⟨xs,H2,I2,r2,q2⟩=>⟨x::xs,H2,I2,.cons r1 r2,q2⟩
end
abbrev Sp:=List V->Hp->VK->XK->Prop
abbrev iR:=List Env->Hp->ae->XK->Value->ae->Prop
structure p7(P:af)(w:World)(K:aa)(mg:bD)(ao:Heap)(A:ai)(outer:List Env)(s:ae)(H:Hp):Prop where
 frames:A.frames=some outer
 mod:Mod K mg ao
 bs:∀b o,ao.get? b=some o->s.heap.get? b=some o/\H b=none
 jY:ao.objs.size<=s.heap.objs.size
 iK:s.heap.FunFrames ao outer
 lM:∀b∈eu outer,H b=none
 bp:eF P w H s.heap
 bare:AllBare s.gens
def CE(outer:List Env)(P:af)(w:World)(H:Hp)(s:ae)(Q:VK)(u:Value)(s':ae):Prop:=∃v H',s'.os=s.os/\AllBare s'.gens/\Un (eu outer) [] H H' s.heap s'.heap/\eF P w H' s'.heap/\RelV v u/\Q v H'
def CR(CX:iR)(outer:List Env)(P:af)(w:World)(H:Hp)(s:ae)(Q:VK)(E:XK)(r:Result)(s':ae):Prop:=match r with | .ok (.ret u)=>CE outer P w H s Q u s' | .ok _=>False | .error e=>CX outer H s E e s'
structure eG(P:af)(w:World)(K:aa)(mg:bD)(ao:Heap)(CX:iR)(k:Nat)(f:Addr)(fd:FuncData)(ps:List Str)(sp:Sp):Prop where
 len:∀vs H Q E,sp vs H Q E->vs.length=ps.length
 run:∀(A:ai)(outer:List Env)(s:ae)(H:Hp)(args:Args)(us:List Value)(vs:List V)(Q:VK)(E:XK),cN k A->p7 P w K mg ao A outer s H->BindsTo s fd args (ps.zip us)->Vals vs us->sp vs H Q E->codeAny (model P w) A (.call (.ref f) args) (CR CX outer P w H s Q E) s
theorem eG.mono{P:af}{w:World}{K:aa}{mg:bD}{ao:Heap}{CX:iR}{j k:Nat}{f:Addr}{fd:FuncData}{ps:List Str}{sp:Sp}(F:eG P w K mg ao CX j f fd ps sp)(h:j<=k): eG P w K mg ao CX k f fd ps sp:=⟨F.len,λA outer s H args us vs Q E hr=>F.run A outer s H args us vs Q E (hr.mono h)⟩
theorem p7.make{P:af}{w:World}{K:aa}{mg:bD}{ao:Heap}{A:ai}{outer:List Env}{s:ae}{H:Hp}(e:p7 P w K mg ao A outer s H)(C:Addr)(us:List Value)(kw:List (Str×Value)): p7 P w K mg ao (A.under (.builtin "type.__call__" ⟨.ref C::us,kw⟩)) outer s H:=⟨by first|exact e.frames|(simpa[Around.under,Code.envs,Code.isFrame,pushEnvs]using e.frames),e.mod,e.bs,e.jY,e.iK,e.lM,e.bp,e.bare⟩
section
variable {X:Cx}{pins:List (Addr×Obj)}{O:St}{H:Hp}{s s':ae}
theorem Inv.Jg(I:Inv X pins O H s):p7 X.prog X.w X.K X.mg X.ao X.A X.stack s H:=⟨I.ok.frames,I.ok.mod,I.bs,gH I.ok.jY I.sz,I.stack,I.zK,I.bp,I.bare⟩
theorem Inv.after{Q:VK}{u:Value}(I:Inv X pins O H s)(h:CE X.stack X.prog X.w H s Q u s'):EP X pins O Q u s':=by obtain⟨v,H',os,bare,un,bp,r,q⟩:=h;obtain⟨hh,g,d,t,Aw⟩:=s';obtain rfl:Aw=s.os:=os;exact⟨v,H',I.call (h':=hh) (g':=g) (d':=d) (t':=t) (ch:=[]) un bp bare (λb z=>absurd z (by simp)),r,q⟩
end
def WQ(sp:Sp)(fP:List V)(E:XK)(t:TA):TE:=λO H Q=>t O H λvs H1=>sp (vs++fP) H1 Q E
inductive tJ(C:Addr)(m:Str)(sp:Sp)(fP:List V)(E:XK)(t:TA)(O:St)(Q:VK)(x:V)(H1:Hp):Prop |mk (a:_)(dx:_)(fs:_)(h0:x= .ref a)(h1:H1 a=some (.ins C dx fs))(h2:fs.lookup m=none)(h3:t O H1 λvs H2=>sp (x::(vs++fP)) H2 Q E)
def La(C:Addr)(m:Str)(sp:Sp)(fP:List V)(E:XK)(ta:TE)(t:TA):TE:=λO H Q=>ta O H λx H1=>tJ C m sp fP E t O Q x H1
def WI(C:Addr)(sp:Sp)(fP:List V)(E:XK)(t:TA):TE:=λO H Q=>t O H λvs H1=>∀x dx,H1 x=none->H1 dx=none->dx≠x->sp (.ref x::(vs++fP)) (upd (upd H1 dx (.own x)) x (.ins C dx [])) (λv H2=>v= .bw/\Q (.ref x) H2) E
def Binds(K:aa)(fd:FuncData)(ps:List Str)(ds:List Value):Prop:=∀(s:ae)(us:List Value),K.In s.heap->(us++ds).length=ps.length->BindsTo s fd ⟨us,[]⟩ (ps.zip (us++ds))
theorem Binds.all{K:aa}{fd:FuncData}{ps:List Str}(h:∀us:List Value,us.length=ps.length->bindArgs fd ⟨us,[]⟩=pure (ps.zip us)):Binds K fd ps []:=λs us _ hl=>by rw[qO]at hl⊢;exact .of_eq (h us hl)
def Passes(CX:iR)(X:Cx)(E:XK):Prop:=∀(pins:List (Addr×Obj))(O:St)(H:Hp)(s:ae)(e:Value)(s':ae),Inv X pins O H s->CX X.stack H s E e s'->X.xe e s'
section
variable {X:Cx}{CX:iR}{k:Nat}{f C:Addr}{fd:FuncData}{ps:List Str}{sp:Sp}{fP:List V}{ds:List Value}{E:XK}{x m:Str}{p pos apos:Pos}{e o:Expr}{es:List Expr}{ta:TE}{t:TA}
theorem Ab{pins:List (Addr×Obj)}{O:St}{H:Hp}{s:ae}{Q:VK}{us:List Value}{vs:List V}(F:eG X.prog X.w X.K X.mg X.ao CX k f fd ps sp)(hr:cN k X.A)(hb:Binds X.K fd ps ds)(hd:Vals fP ds)(hx:Passes CX X E) (I:Inv X pins O H s)(r:Vals vs us)(h:sp (vs++fP) H Q E):wpAny (model X.prog X.w) X.A (call (.ref f) us) (EP X pins O Q) X.xe s:=by
 have r2:Vals (vs++fP) (us++ds):=r.append hd;have hl:(us++ds).length=ps.length:=by rw[<-r2.length];exact F.len _ _ _ _ h
 refine vI (vJ (F.run X.A X.stack s H ⟨us,[]⟩ (us++ds) (vs++fP) Q E hr I.Jg (hb s us I.fh hl) r2 h) λr s' hq=>?_);cases r with |error e=>exact hx pins O H s e s' I hq |ok fl=>cases fl with |ret u=>exact I.after hq |next=>exact False.elim hq |brk=>exact False.elim hq |cont=>exact False.elim hq
theorem Ze(F:eG X.prog X.w X.K X.mg X.ao CX k f fd ps sp)(hr:cN k X.A)(hg:Gl X x)(hm:X.mg x=some (.ref f))(hk:PySem.W.keepIn X.K (.ref f)=true)(hb:Binds X.K fd ps ds)(hd:Vals fP ds)(hx:Passes CX X E) (ha:PA X (e::es) t)(gd:autoParam ((x==("__debug__":Str))=false) q8_._auto_1)(he:autoParam (starEach (e::es) X.env=(false,eval e X.env)::starEach es X.env) r8_._auto_1)(eZ:autoParam ((backTo pos (starEach es X.env)).any (·.1)=false) r8_._auto_1): PE X (.Call (.Name x p) (e::es) [] pos) (WQ sp fP E t):=by intro pins s O H Q I h;refine yR (pV I hg hm ?_ gd);refine Ci (h₀:=X.ao) I.ok.mod.mJ hk (aZ (ha pos pins s O H _ I h) λus s1 ⟨vs,H1,I1,r,q⟩=>⟨I1.fh,?_⟩) he eZ;exact Ab F hr hb hd hx I1 r q
theorem P2{pl:Sem Bool}(he:PE X o ta)(c:hZ X.K C)(hm:Meth X.K C m f)(F:eG X.prog X.w X.K X.mg X.ao CX k f fd ps sp)(hr:cN k X.A)(hb:Binds X.K fd ps ds)(hd:Vals fP ds)(hx:Passes CX X E)(ha:PA X (e::es) t) (g6:autoParam (starEach (e::es) X.env=(false,eval e X.env)::starEach es X.env) r8_._auto_1)(eZ:autoParam ((backTo pos (starEach es X.env)).any (·.1)=false) r8_._auto_1) (ht:eval (.Call (.Attribute o m apos) (e::es) [] pos) X.env=(do
 let ov<-eval o X.env
 standAt apos.atName
 let(f,first)<-holding [ov] (getMethod ov m pl)
 callWith pos f first (backTo pos (starEach (e::es) X.env)) (backToKw pos (keywordEach [] X.env))):=by rfl): PE X (.Call (.Attribute o m apos) (e::es) [] pos) (La C m sp fP E ta t):=by
 intro pins s O H Q I h;refine PySem.W.methodCall_KW (pl:=pl) (aZ (he pins s O H _ I h) λu s1 ⟨x,H1,I1,rx,a,dx,fs,ex,ea,l,q⟩=>?_) ht;subst ex;obtain rfl:u=Value.ref a:=rx;refine S7 I1 ea c hm l ?_;refine Ci (first:=[.ref a]) (h₀:=X.ao) I.ok.mod.mJ hm.kp (aZ (ha pos pins s1 O H1 _ I1 q) λus s2 ⟨vs,H2,I2,r,q2⟩=>⟨I2.fh,?_⟩) g6 eZ;exact Ab (us:=.ref a::us) (vs:=.ref a::vs) F hr hb hd hx I2 (.cons Z r) q2
theorem P1{pl:Sem Bool}(he:PE X o ta)(c:hZ X.K C)(hm:Meth X.K C m f)(F:eG X.prog X.w X.K X.mg X.ao CX k f fd ps sp)(hr:cN k X.A)(hb:Binds X.K fd ps ds)(hd:Vals fP ds)(hx:Passes CX X E) (ht:eval (.Call (.Attribute o m apos) [] [] pos) X.env=(do
 let ov<-eval o X.env
 standAt apos.atName
 let(f,first)<-holding [ov] (getMethod ov m pl)
 callWith pos f first (backTo pos (starEach [] X.env)) (backToKw pos (keywordEach [] X.env))):=by rfl): PE X (.Call (.Attribute o m apos) [] [] pos) (La C m sp fP E ta m4):=by
 intro pins s O H Q I h;refine PySem.W.methodCall_KW (pl:=pl) (aZ (he pins s O H _ I h) λu s1 ⟨x,H1,I1,rx,a,dx,fs,ex,ea,l,q⟩=>?_) ht;subst ex;obtain rfl:u=Value.ref a:=rx;refine S7 I1 ea c hm l ?_;exact PySem.W.callWith_K0 (first:=[.ref a]) I1.fh hm.kp (Ab (us:=[.ref a]) (vs:=[.ref a]) F hr hb hd hx I1 (.cons rfl .nil) q)
structure Mk(K:aa)(C f:Addr):Prop where
 makes:PySem.W.makesIn K C=true
 init:PySem.W.findIn K (.ref C) "__init__"=some (some (.ref f))
 fn:PySem.W.isFn K (.ref f)=true
 kp:PySem.W.keepIn K (.ref C)=true
theorem Y1{pins:List (Addr×Obj)}{O:St}{H:Hp}{s:ae}{Q:VK}{us:List Value}{vs:List V}(M:Mk X.K C f)(F:eG X.prog X.w X.K X.mg X.ao CX k f fd ps sp)(hr:cN (k+1) X.A)(hb:Binds X.K fd ps ds)(hd:Vals fP ds) (hx:Passes CX X E)(I:Inv X pins O H s)(r:Vals vs us) (h:∀x dx,H x=none->H dx=none->dx≠x->sp (.ref x::(vs++fP)) (upd (upd H dx (.own x)) x (.ins C dx [])) (λv H2=>v= .bw/\Q (.ref x) H2) E): wpAny (model X.prog X.w) X.A (call (.ref C) us) (EP X pins O Q) X.xe s:=by
 have hq:=h (s.heap.objs.size+1) s.heap.objs.size (I.bp.fresh (Nat.le_succ _)) (I.bp.fresh (bI _)) (eR (V5 _));have I2:=Inv.made (C:=C) I;have r2:Vals (V.ref (s.heap.objs.size+1)::(vs++fP)) (Value.ref (s.heap.objs.size+1)::(us++ds)):=.cons Z (r.append hd);have hl:(Value.ref (s.heap.objs.size+1)::us++ds).length=ps.length:=by have e:=r2.length;rw[F.len _ _ _ _ hq]at e;exact e.symm
 refine vI (a2M (f:=f) I.fh M.makes M.init (fm.mp M.fn) (vJ (F.run _ X.stack _ _ ⟨Value.ref (s.heap.objs.size+1)::us,[]⟩ (Value.ref (s.heap.objs.size+1)::(us++ds)) _ _ E (hr.make C us []) (I2.Jg.make C us []) (hb _ (Value.ref (s.heap.objs.size+1)::us) I2.fh hl) r2 hq) λr s' mO=>?_));cases r with |error e=>exact hx pins O _ _ e s' I2 mO |ok fl=>cases fl with |ret u=>obtain⟨v,H',I3,rv,ev,q3⟩:=I2.after mO;subst ev;exact⟨rv,⟨V.ref (s.heap.objs.size+1),H',I3,Z,q3⟩⟩ |next=>exact False.elim mO |brk=>exact False.elim mO |cont=>exact False.elim mO
theorem Z7(M:Mk X.K C f)(F:eG X.prog X.w X.K X.mg X.ao CX k f fd ps sp)(hr:cN (k+1) X.A)(hg:Gl X x)(hm:X.mg x=some (.ref C))(hb:Binds X.K fd ps ds)(hd:Vals fP ds)(hx:Passes CX X E) (ha:PA X (e::es) t)(gd:autoParam ((x==("__debug__":Str))=false) q8_._auto_1)(he:autoParam (starEach (e::es) X.env=(false,eval e X.env)::starEach es X.env) r8_._auto_1)(eZ:autoParam ((backTo pos (starEach es X.env)).any (·.1)=false) r8_._auto_1): PE X (.Call (.Name x p) (e::es) [] pos) (WI C sp fP E t):=by intro pins s O H Q I h;refine yR (pV I hg hm ?_ gd);refine Ci (h₀:=X.ao) I.ok.mod.mJ M.kp (aZ (ha pos pins s O H _ I h) λus s1 ⟨vs,H1,I1,r,q⟩=>⟨I1.fh,?_⟩) he eZ;exact Y1 M F hr hb hd hx I1 r q
end
section
variable {X:Cx}{CX:iR}{k:Nat}{f C:Addr}{fd:FuncData}{ps ks:List Str}{sp:Sp}{E:XK}{x m:Str}{p pos apos adu:Pos}{e o:Expr}{es:List Expr}{kws:List Keyword}{te ta:TE}{t tk:TA}{nm:Option Str}
variable {g:List Value->List Value->List Value}{gV:List V->List V->List V}
end
structure aW(N P:List Str)(sc:Scope):Prop where
 kind:sc.kind= .function
 co:sc.isCoroutine=false
 gen:sc.isGenerator=false
 nd:N.Nodup
 pre:N.take P.length=P
 par:∀x∈P,sc.names.lookup x=some .local\/sc.names.lookup x=some .cell
 a25:∀y∈sc.names,y.2≠ .free
theorem TU{kindOf:Str->Option NameKind}{x:Str}:∀{binds:List (Str×Value)}{m:bD},(∀v,(x,v)∉binds)->bindL kindOf binds m x=m x
 |[],_,_=>rfl |(n,v)::r,m,h=>by
  unfold bindL;rw[TU λw hw=>h w (vS _ hw)];split
  ·have:x≠n:=by rintro rfl;exact h v Kp
   simp[this]
  ·rfl
theorem TX{kindOf:Str->Option NameKind}{x:Str}:∀{binds:List (Str×Value)}{m:bD},(∀v,(x,v)∉binds)->bindC kindOf binds m x=m x
 |[],_,_=>rfl |(n,v)::r,m,h=>by
  unfold bindC;rw[TX λw hw=>h w (vS _ hw)];split
  ·rfl
  ·have:x≠n:=by rintro rfl;exact h v Kp
   simp[this]
theorem TV{kindOf:Str->Option NameKind}{x:Str}{v:Value}:∀{P:List Str}{vs:List Value}{i:Nat}{m:bD},P.Nodup->P[i]? =some x->vs[i]? =some v->kindOf x=some .local->bindL kindOf (P.zip vs) m x=some v |[],_,_,_,_,h,_,_=>by simp at h |_::_,[],_,_,_,_,h,_=>by simp at h |p::P,w::vs,0,m,nd,h1,h2,hk=>by simp at h1 h2;subst h1;subst h2;show bindL kindOf ((p,w)::P.zip vs) m p=_;unfold bindL;rw[TU λv hv=>(Ko.mp nd).1 (vR hv).1,bc hk];simp |p::P,w::vs,i+1,m,nd,h1,h2,hk=>by show bindL kindOf ((p,w)::P.zip vs) m x=_;unfold bindL;exact TV (i:=i) (Ko.mp nd).2 (by simpa using h1) (by simpa using h2) hk
theorem TY{kindOf:Str->Option NameKind}{x:Str}{v:Value}:∀{P:List Str}{vs:List Value}{i:Nat}{m:bD},P.Nodup->P[i]? =some x->vs[i]? =some v->kindOf x≠some .local->bindC kindOf (P.zip vs) m x=some v |[],_,_,_,_,h,_,_=>by simp at h |_::_,[],_,_,_,_,h,_=>by simp at h |p::P,w::vs,0,m,nd,h1,h2,hk=>by simp at h1 h2;subst h1;subst h2;show bindC kindOf ((p,w)::P.zip vs) m p=_;unfold bindC;rw[TX λv hv=>(Ko.mp nd).1 (vR hv).1,bf hk];simp |p::P,w::vs,i+1,m,nd,h1,h2,hk=>by show bindC kindOf ((p,w)::P.zip vs) m x=_;unfold bindC;exact TY (i:=i) (Ko.mp nd).2 (by simpa using h1) (by simpa using h2) hk
def start(N:List Str)(vs:List V):St:=vs.map some++List.replicate (N.length-vs.length) none
def gC(CX:iR)(P:af)(w:World)(K:aa)(mg:bD)(ao:Heap)(N:List Str)(qual:Str)(scope:Scope)(f:Addr)(cd:Value)(A:ai)(outer:List Env)(s:ae)(H:Hp)(E:XK):Cx where
 prog:=P
 w:=w
 K:=K
 mg:=mg
 ao:=ao
 A:=A.deeper (envOfC qual scope s.heap.objs.size f cd)
 N:=N
 s₀:=s
 H₀:=H
 env:=envOfC qual scope s.heap.objs.size f cd
 outer:=outer
 stack:=envOfC qual scope s.heap.objs.size f cd::outer
 ex:=[]
 calm:=true
 fn:=λ_=>true
 pn:=[]
 xe:=λe s'=>wpAny (model P w) (A.deeper (envOfC qual scope s.heap.objs.size f cd)) (leaving (envOfC qual scope s.heap.objs.size f cd) e) (λ_ ko=>CX outer H s E e ko) (λe' ko=>CX outer H s E e' ko) s'
theorem TB{sc:Scope}{n:Nat}{x:Str}(h:sc.names.lookup x=some .cell):∃c,(cellsFrom n sc.names []).lookup x=some c:=by have q:=Kf sc.names n [] (.inl h);exact Option.isSome_iff_exists.mp q
theorem Ho{CX:iR}{P:af}{w:World}{K:aa}{mg:bD}{ao:Heap}{N ps:List Str}{qual:Str}{scope:Scope}{f:Addr}{cd:Value}{A:ai}{outer:List Env}{s s1:ae}{H:Hp}{E:XK}{us:List Value}{vs:List V} (S:aW N ps scope)(hd:A.handled=none)(e0:p7 P w K mg ao A outer s H)(hl:vs.length=ps.length)(r:Vals vs us) (x:InCallC s s.heap.objs.size (bindL (envOfC qual scope s.heap.objs.size f cd).kindOf (ps.zip us) λ_=>none) (cellsFrom (s.heap.objs.size+1) scope.names []) (bindC (envOfC qual scope s.heap.objs.size f cd).kindOf (ps.zip us) λ_=>none) s1): Inv (gC CX P w K mg ao N qual scope f cd A outer s H E) [] (start N vs) H s1:=by
 have eZ:ps.length<=N.length:=by have:=lW List.length S.pre;rw[tR]at this;lia
 obtain⟨h1,tk,rfl,hk⟩:=x.done;have xg:∀b:Addr,b∉(gC CX P w K mg ao N qual scope f cd A outer s H E).ex:=λb z=>absurd (show b∈([]:List Addr)from z) (by simp);refine⟨⟨e0.mod,S.kind,Z,Z,bI _,λy z c h1 h2=>?_,λy hy=>?_,λy c _ h=>?_,λ_=>hd,Around.frames_deeper e0.frames,.inr ⟨Z,Z⟩,λb z=>absurd z (xg b),e0.bs,e0.jY,λb _ _=>xg b,λb z=>absurd z (xg b),e0.iK,e0.lM⟩,rfl,e0.bare,Un.kept hk,⟨_,x.toInCall.ns,λi y v h1 h2 h3=>?_⟩,λy c h=>⟨_,x.cell y c h⟩,e0.bp.fresh (bI _),λy c h=>?_,λp hp=>absurd (show p∈([]:List (Addr×Obj))from hp) (by simp),e0.bp.kept hk,?_⟩
 ·exact name_of_addr x.apart (Cg h1) (Cg h2)
 ·have hy:scope.names.lookup y=some .cell\/scope.names.lookup y=some .free:=hy
  rcases hy with hy|hy
  ·exact TB hy
  ·exact absurd Z (S.a25 _ (Cg hy))
 ·exact Cm (x.above y c (Cg h))
 ·have hi:i<vs.length:=by
   unfold start at h2;by_cases hi:i<vs.length
   ·exact hi
   ·rw[z9 (by simpa using hi)]at h2
    rw[List.getElem?_replicate]at h2;split at h2<;>cases h2
  have ha:vs[i]? =some v:=by unfold start at h2;rw[vV (by simpa using hi),bR]at h2;cases e:vs[i]? with |none=>rw[e]at h2;cases h2 |some a=>rw[e]at h2;cases h2;rfl
  obtain⟨u,hu,rv⟩:=r.get ha;have hp:ps[i]? =some y:=by rw[<-S.pre,List.getElem?_take_of_lt au];exact h1
  have PU:ps.Nodup:=by rw[<-S.pre];exact S.nd.sublist (List.take_sublist _ _)
  refine⟨u,rv,?_⟩;rcases S.par y (fc hp)with k|k
  ·exact .inl ⟨k,TV PU hp hu k⟩
  ·obtain⟨c,e⟩:=TB (n:=s.heap.objs.size+1) k
   refine .inr ⟨.inl k,c,e,?_⟩;have q:=x.cell y c e;rw[TY PU hp hu (by show scope.names.lookup y≠_;rw[k];decide)]at q;exact q
 ·exact e0.bp.fresh (Cm (x.above y c (Cg h)))
 ·unfold start
  show _=N.length;rw[fe,bM,List.length_replicate]
  lia
theorem IY{CX:iR}{P:af}{w:World}{K:aa}{mg:bD}{ao:Heap}{k:Nat}{f:Addr}{name qual:Str}{params:Arguments}{body:List Stmt}{scope:Scope}{dV kV doc pm aH ct oc:Value}{an od:Option Addr} {fz:Array (Option Value)}{N ps:List Str}{sp:Sp}(lk:K.lookup f=some ⟨oc,od,.func (PySem.W.fnOf name qual params body scope dV kV doc pm an aH ct),fz⟩)(fo:PySem.W.codeIn K aH qual=true)(S:aW N ps scope) (len:∀vs H Q E,sp vs H Q E->vs.length=ps.length) (fO:∀(A:ai)(outer:List Env)(s:ae)(H:Hp)(vs:List V)(Q:VK)(E:XK),cN k (A.deeper (envOfC qual scope s.heap.objs.size f aH))->sp vs H Q E->∃t,fA (gC CX P w K mg ao N qual scope f aH A outer s H E) body t/\t {nx:=λ_ H'=>Q .bw H',rt:=Q} (start N vs) H): eG P w K mg ao CX (k+1) f (PySem.W.fnOf name qual params body scope dV kV doc pm an aH ct) ps sp:=by
 refine⟨len,λA outer s H args us vs Q E hr e0 hb r fi=>?_⟩;have hl:=len _ _ _ _ fi;have KX:K.In s.heap:=e0.mod.mJ.keeps λb o e=>(e0.bs b o e).1;have lim:s.heap.NoLimit:=e0.mod.nolimit.keeps λb o e=>(e0.bs b o e).1;have lD:∀y∈ps.zip us,scope.names.lookup y.1=some .local\/(scope.names.lookup y.1=some .cell/\((cellsFrom (s.heap.objs.size+1) scope.names []).lookup y.1).isSome=true):=λ⟨n,v⟩ hy=>by
  rcases S.par n (vR hy).1 with q|q
  ·exact .inl q
  ·exact .inr ⟨q,Kf _ _ _ (.inl q)⟩
 refine UM hr.depth (KX _ _ lk) Z S.co S.gen Z (US KX fo) (hb _ _ _ _ ?_);refine UJ S.kind lD λenv he s1 x=>?_;subst he;refine⟨lim.keeps x.toInCall.keep,codeAny_func ?_⟩;obtain⟨t,ht,hq⟩:=fO A outer s H vs Q E (hr.deeper _) fi;have I:Inv (gC CX P w K mg ao N qual scope f aH A outer s H E) [] (start N vs) H s1:=Ho S hr.hd e0 hl r x;refine iS (ht [] s1 (start N vs) H _ I hq) (λfl s' hs=>?_) λe s' hs=>hs;have fin:∀{σ':St}{H':Hp}{v:V}{u:Value},Inv (gC CX P w K mg ao N qual scope f aH A outer s H E) [] σ' H' s'->RelV v u->Q v H'->CE outer P w H s Q u s':=λ{σ' H' v u} J rv q=>⟨v,H',J.os,J.bare,J.ao,J.bp,rv,q⟩;cases fl with |ret u=>obtain⟨v,σ',H',J,rv,q⟩:=hs;exact fin J rv q |next=>obtain⟨σ',H',J,q⟩:=hs;exact fin (v:=V.bw) (u:=Value.none) J Z q |brk=>obtain⟨_,_,_,q⟩:=hs;exact False.elim q |cont=>obtain⟨_,_,_,q⟩:=hs;exact False.elim q
section
variable {X:Cx}{x:Str}{p pos:Pos}{e:Expr}{es:List Expr}{t:TA}{id T:String}{r:List V->Hp->VK->Prop}
def zG(r:List V->Hp->VK->Prop)(t:TA):TE:=λO H Q=>t O H λvs H1=>r vs H1 Q
theorem dg(hc:dX X (.builtin id) r)(hg:Gl X x)(hm:X.mg x=none)(hv:bootBuiltins x=some (.builtin id))(ha:PA X (e::es) t)(hn:autoParam (x≠"__name__") q8_._auto_1)(gd:autoParam ((x==("__debug__":Str))=false) q8_._auto_1) (he:autoParam (starEach (e::es) X.env=(false,eval e X.env)::starEach es X.env) r8_._auto_1)(eZ:autoParam ((backTo pos (starEach es X.env)).any (·.1)=false) r8_._auto_1):PE X (.Call (.Name x p) (e::es) [] pos) (zG r t):=by intro pins s O H Q I h;refine yR (oq I hg hm hv ?_ hn gd);exact PyProof.Rows.callWith_builtin1 (aZ (ha pos pins s O H _ I h) λus s1 ⟨vs,H1,I1,r1,q1⟩=>hc pins s1 O H1 vs us Q I1 r1 q1) he eZ
theorem cS(hc:dX X (.type T) r)(hg:Gl X x)(hm:X.mg x=none)(hv:bootBuiltins x=some (.type T))(ha:PA X (e::es) t)(hn:autoParam (x≠"__name__") q8_._auto_1)(gd:autoParam ((x==("__debug__":Str))=false) q8_._auto_1) (he:autoParam (starEach (e::es) X.env=(false,eval e X.env)::starEach es X.env) r8_._auto_1)(eZ:autoParam ((backTo pos (starEach es X.env)).any (·.1)=false) r8_._auto_1):PE X (.Call (.Name x p) (e::es) [] pos) (zG r t):=by intro pins s O H Q I h;refine yR (oq I hg hm hv ?_ hn gd);exact vL (aZ (ha pos pins s O H _ I h) λus s1 ⟨vs,H1,I1,r1,q1⟩=>hc pins s1 O H1 vs us Q I1 r1 q1) he eZ
end
end _L
namespace _H
open PySem PyProof.Rows
section
open PySem.SeqAt
open PySem.AutoSeq1 (wpAny_loadPart')
open PySem.MeetsSeq PySem.MeetsSeq2 PySem.MeetsSeq3
end
section
variable {prog:af}{w:World}{A:ai}{E:Value->ae->Prop}{s:ae}
theorem a9x{t b:Addr}{vs ws:List Value}{Q:Value->ae->Prop}(ht:IsTup s.heap t vs.toArray)(hb:IsTup s.heap b ws.toArray)(hv:vs≠[]) (h1:ws=[]->Q (.ref t) s)(h2:ws≠[]->Q (.ref s.heap.objs.size) {s with heap:=s.heap.push {cls:=.type "tuple",data:=.seq (vs++ws).toArray}}) (hsz:vs.length+ws.length<=sizeLine):wpAny (model prog w) A (binaryOp .Add (.ref t) (.ref b)) Q E s:=by
 obtain⟨⟨cls,dd,data,sl⟩,ho,hc,n,hd⟩:=id ht;obtain⟨⟨Tw,vk,data2,sl2⟩,mS,gz,n2,hd2⟩:=id hb;simp only at hc hd gz hd2;subst hc hd gz hd2;have e:vs.toArray++ws.toArray=(vs++ws).toArray:=by simp
 by_cases hw:ws=[]
 ·exact concat_meets ⟨_,ho,Z⟩ ⟨_,mS,Z⟩ noFill_tuple_add seq_tuple_add UT UW (UX _ _) (tuple_addW1 t b vs.toArray ws.toArray n n2 dd vk sl sl2 (by simpa using hv) (by simp[hw])) ⟨ho,mS,h1 hw⟩
 ·refine concat_meets ⟨_,ho,Z⟩ ⟨_,mS,Z⟩ noFill_tuple_add seq_tuple_add UT UW (UX _ _) (tuple_addW2 t b vs.toArray ws.toArray n n2 dd vk sl sl2 (by simpa using hv) (by simpa using hw) (by rw[dP,dP];exact hsz)) ⟨ho,mS,?_⟩;rw[e];exact h2 hw
def cj(n d:Nat):Option Int->Nat |none=>d |some v=>if v<0 then(v+(n:Int)).toNat else min v.toNat n
theorem O2 (n d:Nat):cj n d none=d:=rfl
theorem O3(n d k:Nat):cj n d (some (k:Int))=min k n:=by show(if(k:Int)<0 then((k:Int)+(n:Int)).toNat else min (k:Int).toNat n)=min k n;rw[bf au,Vi]
theorem XI(n d:Nat)(hd:d<=n)(o:Option Int):cj n d o<=n:=by cases o with |none=>exact hd |some v=>
 show(if v<0 then(v+(n:Int)).toNat else min v.toNat n)<=n;by_cases hv:v<0
 ·rw[bc hv];lia
 ·rw[bf hv];exact Nat.min_le_right _ _
theorem Jw(v:Int)(n d:Nat):(if v<0 then max (v+(n:Int)) 0 else min v (n:Int))=((cj n d (some v):Nat):Int):=by
 show(if v<0 then max (v+(n:Int)) 0 else min v (n:Int))=(((if v<0 then(v+(n:Int)).toNat else min v.toNat n):Nat):Int);by_cases hv:v<0
 ·simp only[bc hv];lia
 ·simp only[bf hv];lia
theorem aa9(lo hi:Option Int)(n:Nat):Builtin.Slice.sliceAdjust lo hi 1 (n:Int)=(((cj n 0 lo:Nat):Int),((cj n n hi:Nat):Int)):=by
 have h1:¬((1:Int)<0):=by lia
 unfold Builtin.Slice.sliceAdjust;simp only[h1,if_false];refine Prod.ext ?_ ?_
 ·cases lo with |none=>rfl |some v=>exact Jw v n 0
 ·cases hi with |none=>rfl |some v=>exact Jw v n n
theorem YV(i j:Nat):Builtin.Slice.slicePlaces (i:Int) (j:Int) 1=j-i:=by
 unfold Builtin.Slice.slicePlaces;have h1:(1:Int)>0:=by lia
 simp only[h1,if_true,Int.ediv_one];split<;>lia
theorem Me{v:Value}{o:Option Int}{Q:Option Int->ae->Prop}(p:IsPart v o)(h:Q o s):wpAny (model prog w) A (Builtin.Slice.slicePartIndex v) Q E s:=by cases p with |none=>exact slicePart_none h |int i t=>exact slicePart_int h
theorem Xh{sl:Addr}{vl vu:Value}{lo hi:Option Int}{n:Nat}{Q:Int×Int×Nat->ae->Prop}(hs:s.heap.IsSliceOf sl vl vu .none)(pl:IsPart vl lo)(pu:IsPart vu hi) (h:Q (((cj n 0 lo:Nat):Int),1,cj n n hi-cj n 0 lo) s):wpAny (model prog w) A (Builtin.Slice.sliceApplied (.ref sl) (pure (n:Int))) Q E s:=by obtain⟨os,mR,Br,qe⟩:=id hs;unfold Builtin.Slice.sliceApplied Builtin.Slice.sliceFields;refine aK (aK (iz mR qe (x:=vl) Z (aK (iz mR qe (x:=vu) Z (aK (iz mR qe (x:=.none) Z (bT ?_)))))));refine aK (slicePart_none ?_);show wpAny _ _ (if((1:Int)==0)=true then _ else _) _ _ s;rw[bf ay];refine aK (Me pl (aK (Me pu (aK (bT ?_)))));show wpAny _ _ (match Builtin.Slice.sliceAdjust lo hi 1 (n:Int)with|(lo,hi)=>pure (lo,(1:Int),Builtin.Slice.slicePlaces lo hi 1)) _ _ s;rw[aa9 lo hi n];show wpAny _ _ (pure (((cj n 0 lo:Nat):Int),(1:Int),Builtin.Slice.slicePlaces ((cj n 0 lo:Nat):Int) ((cj n n hi:Nat):Int) 1)) _ _ s;rw[YV];exact bT h
theorem YY(xs:Array Value)(i k:Nat):((List.range k).filterMap λ(m:Nat)=>xs[((i:Int)+(m:Int)*1).toNat]?).toArray=((xs.toList.drop i).take k).toArray:=by
 have e:(λ(m:Nat)=>xs[((i:Int)+(m:Int)*1).toNat]?)=λm=>xs[i+m]?:=by
  funext m;have:((i:Int)+(m:Int)*1).toNat=i+m:=by lia
  rw[this]
 rw[e];have:=pick_run xs i k;rw[List.filterMap_map]at this;have e2:((λx=>xs[x]?)∘λx=>i+x)=λm=>xs[i+m]?:=rfl;rw[e2]at this;rw[this]
theorem a6G{t sl:Addr}{items:Array Value}{vl vu:Value}{lo hi:Option Int}{Q:Value->ae->Prop}(ht:IsTup s.heap t items)(hs:s.heap.IsSliceOf sl vl vu .none)(pl:IsPart vl lo)(pu:IsPart vu hi) (hw:¬(cj items.size 0 lo=0/\cj items.size items.size hi=items.size)) (h:Q (.ref s.heap.objs.size) {s with heap:=s.heap.push {cls:=.type "tuple",data:=.seq ((items.toList.drop (cj items.size 0 lo)).take (cj items.size items.size hi-cj items.size 0 lo)).toArray}}) (hsz:items.size<=sizeLine):wpAny (model prog w) A (getItem (.ref t) (.ref sl)) Q E s:=by
 have Bb:sizeOk (.seq ((items.toList.drop (cj items.size 0 lo)).take (cj items.size items.size hi-cj items.size 0 lo)).toArray):=by show((items.toList.drop (cj items.size 0 lo)).take (cj items.size items.size hi-cj items.size 0 lo)).toArray.size<=sizeLine;rw[dP,tR,Ks,kJ];omega
 have hj:cj items.size items.size hi<=items.size:=XI _ _ (bI _) hi;obtain⟨os,mR,Br,qe⟩:=id hs;have hTs:s.TypeIs (.ref sl) "slice":=⟨os,mR,Br⟩;unfold getItem
 try with_reducible refine jE ?_
 first|refine aK (bT ?_)|skip
 refine aK (wpAny_sequenceKey ht.typeIs ay ?_);refine aK (C9 (name:=Str.ofString "__getitem__") ht.typeIs UZ (C8 UZ ht.typeIs entry_tuple_getitem ?_ (args_tuple_getitem _ _)));show wpAny _ _ (Builtin.Tuple.tupleItemsOf (.ref t)>>=_) _ _ s;refine aK (tupleItemsOf_ ht ?_);refine aK (wpAny_typeOf hTs ?_);rw[bc ay];refine aK (Xh hs pl pu ?_);have kE:¬((((cj items.size 0 lo:Nat):Int)==0&&(1:Int)==1&&(cj items.size items.size hi-cj items.size 0 lo)==items.size)=true):=by intro q;rw[eK,eK]at q;have q1:((cj items.size 0 lo:Nat):Int)=0:=eq_of_beq q.1.1;have q2:cj items.size items.size hi-cj items.size 0 lo=items.size:=eq_of_beq q.2;exact hw ⟨bC,bC⟩
 show wpAny _ _ (if(((cj items.size 0 lo:Nat):Int)==0&&(1:Int)==1&&(cj items.size items.size hi-cj items.size 0 lo)==items.size)=true then _ else _) _ _ s;rw[bf kE,YY]
 first |exact aK (m:=Builtin.Tuple.tupleExact _) (nC (bT ⟨_,Z,bT h⟩) Bb) |exact aK (m:=Builtin.Tuple.tupleExact _) (nC (aK (bT (bT ⟨_,Z,bT h⟩))) Bb) |exact aK (aK (m:=Builtin.Tuple.tupleExact _) (nC (bT (bT ⟨_,Z,bT h⟩)) Bb)) |exact aK (aK (m:=Builtin.Tuple.tupleExact _) (nC (bT ⟨_,Z,bT h⟩) Bb))
end
end _H
namespace _L
open PySem PySem.Spec PyProof.Rows
abbrev TO:=St->Hp->(Option Int->Hp->Prop)->Prop
def PO(X:Cx)(e:Option Expr)(t:TO):Prop:=∀(pins:List (Addr×Obj))(s:ae)(O:St)(H:Hp)(Q:Option Int->Hp->Prop),Inv X pins O H s->t O H Q->wpAny (model X.prog X.w) X.A (evalPart e X.env) (λu s'=>∃o H',Inv X pins O H' s'/\IsPart u o/\Q o H') X.xe s
def WD:TO:=λ_ H Q=>Q none H
inductive aaw(Q:Option Int->Hp->Prop)(x:V)(H1:Hp):Prop |mk (i:_)(h0:x= .int i)(h1:Q (some i) H1)
def Wx(t:TE):TO:=λO H Q=>t O H λx H1=>aaw Q x H1
section
variable {X:Cx}{e:Expr}{te:TE}{lo hi:Option Expr}{tl th:TO}{pos p2:Pos}
theorem Ak:PO X none WD:=by intro pins s O H Q I h;rw[evalPart_none];exact bT ⟨none,H,I,.none,h⟩
theorem Aj(h:PE X e te):PO X (some e) (Wx te):=by intro pins s O H Q I hw;rw[evalPart_some];refine aZ (h pins s O H _ I hw) λu s1 ⟨x,H1,I1,r1,q1⟩=>?_;obtain⟨i,rfl,q⟩:=q1;obtain⟨t,rfl⟩:=r1;exact⟨some i,H1,I1,.int i t,q⟩
def BZ(X:Cx)(r:V->Option Int->Option Int->Hp->VK->Prop):Prop:=∀(pins:List (Addr×Obj))(s:ae)(O:St)(H:Hp)(x:V)(v vl vu:Value)(lo hi:Option Int)(sl:Addr)(Q:VK),Inv X pins O H s->RelV x v->s.heap.IsSliceOf sl vl vu .none->IsPart vl lo->IsPart vu hi->r x lo hi H Q->∃T id,typeLookup (.type T) "__getitem__"=pure (some (.builtin id))/\s.TypeIs v T/\wpAny (model X.prog X.w) X.A (getItem v (.ref sl)) (EP X pins O Q) X.xe s
def Wu(r:V->Option Int->Option Int->Hp->VK->Prop)(te:TE)(tl th:TO):TE:=λO H Q=>te O H λx H1=>tl O H1 λl H2=>th O H2 λu H3=>r x l u H3 Q
theorem Ao{r:V->Option Int->Option Int->Hp->VK->Prop}(hr:BZ X r)(he:PE X e te)(hl:PO X lo tl)(hu:PO X hi th):PE X (.Subscript e (.Slice lo hi none p2) pos) (Wu r te tl th):=by intro pins s O H Q I h;refine Subscript_ (aZ (he pins s O H _ I h) λv s1 ⟨x,H1,I1,r1,q1⟩=>?_);refine wpAny_Slice (aZ (hl pins s1 O H1 _ I1 q1) λvl s2 ⟨l,H2,I2,pl,q2⟩=>aZ (hu pins s2 O H2 _ I2 q2) λvu s3 ⟨u,H3,I3,pu,q3⟩=>?_);rw[evalPart_none];refine bT ?_;have I4:Inv X pins O H3 {s3 with heap:=s3.heap.push {cls:=.type "slice",data:=.fields #[vl,vu,.none]}}:=I3.kept (t':=s3.toks) λb ob q=>cw _ q;obtain⟨T,id,hT,ht,hg⟩:=hr pins {s3 with heap:=s3.heap.push {cls:=.type "slice",data:=.fields #[vl,vu,.none]}} O H3 x v vl vu l u s3.heap.objs.size Q I4 r1 (Heap.IsSliceOf.new ..) pl pu q3;show wpAny (model X.prog X.w) X.A (subscriptTail e (.Slice lo hi none p2) v (.ref s3.heap.objs.size)) (EP X pins O Q) X.xe {s3 with heap:=s3.heap.push {cls:=.type "slice",data:=.fields #[vl,vu,.none]}};exact tail_any (ops:=[.ref s3.heap.objs.size,v]) ht hT hg (by with_unfolding_all rfl)
def jX(xs:List V)(lo hi:Option Int):List V:=(xs.drop (_H.cj xs.length 0 lo)).take (_H.cj xs.length xs.length hi-_H.cj xs.length 0 lo)
theorem To(xs:List V)(lo hi:Option Int):(jX xs lo hi).length<=xs.length:=by
 unfold jX;rw[tR,Ks]
 lia
inductive ac4(K:aa)(x:V)(lo:Option Int)(hi:Option Int)(H:Hp)(Q:VK):Prop |mk (a:_)(xs:_)(h0:x= .ref a)(h1:aY K H a xs)(h2:¬(_H.cj xs.length 0 lo=0/\_H.cj xs.length xs.length hi=xs.length))(h3:∀p,H p=none->Q (.ref p) (upd H p (.tup (jX xs lo hi))))
def Yz(K:aa):V->Option Int->Option Int->Hp->VK->Prop:=λx lo hi H Q=>ac4 K x lo hi H Q
theorem Xi:BZ X (Yz X.K):=by
 intro pins s O H x v vl vu lo hi sl Q I rx hs pl pu h;obtain⟨a,xs,rfl,hx,hw,q⟩:=h;cases rx;obtain⟨its,r,ht,hz⟩:=I.tuple hx;have hlen:its.toArray.size=xs.length:=by rw[dP];exact r.length.symm
 refine⟨"tuple",_,UZ.lookup,ht.typeIs,?_⟩;refine _H.a6G ht hs pl pu (by rw[hlen];exact hw) ?_ (by rw[hlen];exact hz);rw[hlen];refine⟨.ref s.heap.objs.size,_,I.laid (t':=s.toks) (o:=.tup (jX xs lo hi)) (λb ob q=>cw _ q) (bI _) ?_,Z,q _ (I.bp.fresh (bI _))⟩;exact⟨gH (To xs lo hi) hz,_,(r.drop (_H.cj xs.length 0 lo)).take (_H.cj xs.length xs.length hi-_H.cj xs.length 0 lo),IsTup.new _ _⟩
theorem Vals.GH{xs:List V}{us:List Value}(r:Vals xs us):us=[]↔xs=[]:=by cases r with |nil=>simp |cons _ _=>simp
end
def ir(n:Nat)(i:Int):Option Nat:=if 0<=i then(if i<n then some i.toNat else none)else if-(n:Int)<=i then some (i+n).toNat else none
def fb{α:Type}(xs:List α)(i:Int):Option α:=(ir xs.length i).bind λj=>xs[j]?
theorem QH{n:Nat}{i:Int}{j:Nat}(h:ir n i=some j):seqIndex? i n=some j/\j<n/\-(n:Int)<=i/\i<n:=by
 unfold ir at h;by_cases h0:0<=i
 ·rw[bc h0]at h
  by_cases h1:i<n
  ·rw[bc h1]at h
   have e:i.toNat=j:=dG h;exact⟨by rw[seqIndex_of h0 h1,e],au,au,h1⟩
  ·rw[bf h1]at h;cases h
 ·rw[bf h0]at h
  by_cases h1:-(n:Int)<=i
  ·rw[bc h1]at h
   have e:(i+n).toNat=j:=dG h;exact⟨by rw[seqIndex_neg au h1,e],au,h1,au⟩
  ·rw[bf h1]at h;cases h
theorem JK{α:Type}{xs:List α}{i:Int}{v:α}(h:fb xs i=some v):∃j,seqIndex? i xs.length=some j/\xs[j]? =some v/\j<xs.length/\-(xs.length:Int)<=i/\i<xs.length:=by unfold fb at h;cases e:ir xs.length i with |none=>rw[e]at h;cases h |some j=>rw[e]at h;obtain⟨h1,h2,h3,h4⟩:=QH e;exact⟨j,h1,h,h2,h3,h4⟩
theorem aa1{α:Type}{xs:List α}{j:Nat}{v:α}(h:xs[j]? =some v):fb xs (j:Int)=some v:=by
 have hj:j<xs.length:=(dw.mp h).1;have e:ir xs.length (j:Int)=some j:=by unfold ir;rw[bc au,bc au];simp
 unfold fb;rw[e];exact h
def Ur(b:Expr):Prop:=∀o i,subscripted b false o i=operate [o,i] (getItem o i)
def p4(X:Cx)(r:R2):Prop:=∀(value slice:Expr)(pins:List (Addr×Obj))(s:ae)(O:St)(H:Hp)(x y:V)(v u:Value)(Q:VK),Inv X pins O H s->RelV x v->RelV y u->r x y H Q->subscripted slice false v u=operate [v,u] (getItem v u)->wpAny (model X.prog X.w) X.A (subscriptTail value slice v u) (EP X pins O Q) X.xe s
def qF(X:Cx)(id:String)(r:V->List V->Hp->VK->Prop):Prop:=∀(pins:List (Addr×Obj))(s:ae)(O:St)(H:Hp)(x:V)(xs:List V)(v:Value)(us:List Value)(Q:VK),Inv X pins O H s->RelV x v->Vals xs us->r x xs H Q->wpAny (model X.prog X.w) X.A (call (.builtin id) (v::us)) (EP X pins O Q) X.xe s
section
variable {X:Cx}{a b:Expr}{ta tb:TE}{pos:Pos}
theorem p4.or{r r':R2}(h:p4 X r)(h':p4 X r'):p4 X (λx y H Q=>r x y H Q\/r' x y H Q):=by
 intro value slice pins s O H x y v u Q I rx ry q hs;rcases q with q|q
 ·exact h value slice pins s O H x y v u Q I rx ry q hs
 ·exact h' value slice pins s O H x y v u Q I rx ry q hs
theorem Gf{r:R2}(hr:p4 X r)(ha:PE X a ta)(hb:PE X b tb)(hs:Ur b):PE X (.Subscript a b pos) (u6 r ta tb):=by intro pins s O H Q I h;exact Subscript_ (JE ha hb I h λv u s2 x y H2 I2 rx ry q=>hr a b pins s2 O H2 x y v u Q I2 rx ry q (hs _ _))
inductive acf(K:aa)(x:V)(y:V)(H:Hp)(Q:VK):Prop |mk (p:_)(xs:_)(i:_)(v:_)(h0:x= .ref p)(h1:y= .int i)(h2:aI K H p xs)(h3:fb xs i=some v)(h4:Q v H)
def FZ(K:aa):R2:=λx y H Q=>acf K x y H Q
inductive acd(K:aa)(x:V)(y:V)(H:Hp)(Q:VK):Prop |mk (p:_)(xs:_)(i:_)(v:_)(h0:x= .ref p)(h1:y= .int i)(h2:aY K H p xs)(h3:fb xs i=some v)(h4:Q v H)
def FY(K:aa):R2:=λx y H Q=>acd K x y H Q
inductive ace(x:V)(y:V)(H:Hp)(Q:VK):Prop |mk (z:_)(i:_)(c:_)(h0:x= .str z)(h1:y= .int i)(h2:z.length<=sizeLine)(h3:fb z.cps.toList i=some c)(h4:Q (.str ⟨#[c]⟩) H)
def YD:R2:=λx y H Q=>ace x y H Q
theorem a3K:p4 X (FZ X.K):=by
 intro value slice pins s O H x y v u Q I rx ry h hs;obtain⟨p,xs,i,z,rfl,rfl,hq,he,q⟩:=h;cases rx;obtain⟨t,rfl⟩:=ry;obtain⟨its,r,pl,hz⟩:=I.list hq;obtain⟨j,h1,h2,h3,h4,h5⟩:=JK he;obtain⟨w,ew,wM⟩:=r.get h2;have hl:=r.length;have hn:=sy;have fin:EP X pins O Q w s:=⟨z,H,I,wM,q⟩;by_cases h0:0<=i
 ·have hj:i.toNat=j:=by rw[seqIndex_of h0 h5]at h1;exact dG h1
  exact item_listR pl.isList h0 au (by rw[hj];simpa using ew) fin hs
 ·have hj:(i+(its.toArray.size:Int)).toNat=j:=by rw[seqIndex_neg au h4]at h1;rw[dP,<-hl];exact dG h1
  exact subscriptTail_builtinR (x:=w) pl.isList.typeIs slot_list_getitem.lookup (wpAny_getItem_list_neg (Q:=λr s'=>r=w/\EP X pins O Q r s') pl.isList au (by rw[dP]<;>lia) au (by rw[hj];simpa using ew) ⟨Z,fin⟩) hs
theorem a3J:p4 X (FY X.K):=by intro value slice pins s O H x y v u Q I rx ry h hs;obtain⟨p,xs,i,z,rfl,rfl,hq,he,q⟩:=h;cases rx;obtain⟨t,rfl⟩:=ry;obtain⟨its,r,pl,hz⟩:=I.tuple hq;obtain⟨j,h1,h2,h3,h4,h5⟩:=JK he;obtain⟨w,ew,wM⟩:=r.get h2;have hl:=r.length;have hn:=sy;have fin:EP X pins O Q w s:=⟨z,H,I,wM,q⟩;exact subscriptTail_builtinR (x:=w) pl.typeIs slot_tuple_getitem.lookup (getItem_tuple (j:=j) (Q:=λr s'=>r=w/\EP X pins O Q r s') pl au au (by rw[dP,<-hl];exact h1) (by simpa using ew) ⟨Z,fin⟩) hs
theorem QG:p4 X YD:=by
 intro value slice pins s O H x y v u Q I rx ry h hs;obtain⟨z,i,c,rfl,rfl,hz,he,q⟩:=h;obtain⟨t,rfl⟩:=rx;obtain⟨t',rfl⟩:=ry;obtain⟨j,h1,h2,h3,h4,h5⟩:=JK he;have hl:z.cps.toList.length=z.length:=by simp[Str.length]
 rw[hl]at h1 h4 h5;have hn:=sy;exact tail_any (yS s z t) slot_str_getitem.lookup (getItem_str (c:=c) (by have e1:decide (i< -(2^63:Int))=false:=dE au;have e2:decide (i>=2^63)=false:=dE au;rw[e1,e2,Bool.or_false]) (by rw[h1];simpa using h2) ⟨.str ⟨#[c]⟩,H,I.tok _,⟨_,Z⟩,q⟩) hs
theorem a2K(its:List Value)(n j:Nat)(u:Value):Obj.mapSeq (·.setIfInBounds j u) {cls:=.type "list",data:=.seq its.toArray n}={cls:=.type "list",data:=.seq (its.set j u).toArray n}:=by simp[Obj.mapSeq]
theorem Inv.lst{pins:List (Addr×Obj)}{O:St}{H:Hp}{s:ae}{p:Addr}{xs:List V}(I:Inv X pins O H s)(h:H p=some (.lst xs)): ∃(its:List Value)(n:Nat),Vals xs its/\s.heap.get? p=some {cls:=.type "list",data:=.seq its.toArray n}/\xs.length<=sizeLine:=by obtain⟨z,its,n,r,e⟩:=I.bp p _ h;exact⟨its,n,r,e,z⟩
theorem Inv.a3c{pins:List (Addr×Obj)}{O:St}{H:Hp}{s:ae}{p:Addr}{xs ys:List V}{its its':List Value}{n n':Nat}{f:Obj->Obj}(I:Inv X pins O H s)(h:H p=some (.lst xs)) (ho:s.heap.get? p=some {cls:=.type "list",data:=.seq its.toArray n})(hf:f {cls:=.type "list",data:=.seq its.toArray n}={cls:=.type "list",data:=.seq its'.toArray n'})(r:Vals ys its')(hz:ys.length<=sizeLine)(t:Nat): Inv X pins O (upd H p (.lst ys)) {s with heap:=s.heap.update p f,toks:=t}:=by
 have e:(s.heap.update p f).get? p=some {cls:=.type "list",data:=.seq its'.toArray n'}:=by rw[KD f ho (by rw[hf]<;>rfl),hf]
 refine I.write (x:=p) (e:=p) (by rw[h];trivial) (.inl Z) (λb u hb q=>(zd _ _ (iV hb)).trans q) ⟨_,e⟩ ?_;exact⟨hz,its',n',r,e⟩
inductive ac7(o:V)(i:V)(v:V)(H:Hp)(Q:Hp->Prop):Prop |mk (p:_)(xs:_)(k:_)(j:_)(h0:o= .ref p)(h1:i= .int k)(h2:H p=some (.lst xs))(h3:ir xs.length k=some j)(h4:Q (upd H p (.lst (xs.set j v))))
def YC:V->V->V->Hp->(Hp->Prop)->Prop:=λo i v H Q=>ac7 o i v H Q
theorem set_list:Us X YC:=by
 intro pins s O H o i v ov iv u Q I ro ri rv h;obtain⟨p,xs,k,j,rfl,rfl,hp,hj,q⟩:=h;cases ro;obtain⟨t,rfl⟩:=ri;obtain⟨its,n,r,ho,hz⟩:=I.lst hp;obtain⟨h1,h2,h3,h4⟩:=QH hj;have hl:=r.length;have hn:=sy;have I':Inv X pins O (upd H p (.lst (xs.set j v))) {s with heap:=s.heap.update p (Obj.mapSeq (·.setIfInBounds j u))}:=I.a3c hp ho (a2K its n j u) (r.set rv j) (by rw[vT];exact hz) s.toks;by_cases h0:0<=k
 ·have hk:k.toNat=j:=by rw[seqIndex_of h0 h4]at h1;exact dG h1
  exact PySem.W.ki_setAt ho h0 au (by rw[dP,<-hl];exact h4) (by rw[hk];exact⟨_,I',q⟩)
 ·have hk:(k+(its.toArray.size:Int)).toNat=j:=by rw[seqIndex_neg au h3]at h1;rw[dP,<-hl];exact dG h1
  exact PySem.W.ki_setBack ho au (by rw[dP,<-hl];exact h3) au (by rw[hk];exact⟨_,I',q⟩)
theorem Xf(lo hi:Option Int)(n:Nat):(sliceBounds lo hi none n).1=((_H.cj n 0 lo:Nat):Int)/\(sliceBounds lo hi none n).2.1=((_H.cj n n hi:Nat):Int)/\(sliceBounds lo hi none n).2.2=1:=by
 refine⟨?_,?_,Z⟩
 ·cases lo with |none=>simp[sliceBounds,_H.cj] |some i=>
  simp only[sliceBounds,_H.cj,Option.getD_none,show(1:Int)>0 by decide,if_true];by_cases h:i<0
  ·simp only[h,if_true]<;>lia
  ·simp only[h,if_false]<;>lia
 ·cases hi with |none=>simp[sliceBounds,_H.cj] |some i=>
  simp only[sliceBounds,_H.cj,Option.getD_none,show(1:Int)>0 by decide,if_true];by_cases h:i<0
  ·simp only[h,if_true]<;>lia
  ·simp only[h,if_false]<;>lia
theorem Xg(its:List Value)(lo hi:Option Int):slicePick its.toArray lo hi none=((its.drop (_H.cj its.length 0 lo)).take (_H.cj its.length its.length hi-_H.cj its.length 0 lo)).toArray:=by obtain⟨h1,h2,h3⟩:=Xf lo hi its.toArray.size;unfold slicePick;rw[h1,h2,h3];simp only[sliceRange_one,pick_run,dP]<;>rfl
inductive ac5(K:aa)(x:V)(lo:Option Int)(hi:Option Int)(H:Hp)(Q:VK):Prop |mk (a:_)(xs:_)(h0:x= .ref a)(h1:aI K H a xs)(h2:∀p,H p=none->Q (.ref p) (upd H p (.lst (jX xs lo hi))))
def YA(K:aa):V->Option Int->Option Int->Hp->VK->Prop:=λx lo hi H Q=>ac5 K x lo hi H Q
theorem Xj:BZ X (YA X.K):=by intro pins s O H x v vl vu lo hi sl Q I rx hs pl pu h;obtain⟨a,xs,rfl,hx,q⟩:=h;cases rx;obtain⟨its,r,ht,hz⟩:=I.list hx;have hlen:=r.length;refine⟨"list",_,slot_list_getitem.lookup,ht.isList.typeIs,?_⟩;refine wpAny_getItem_list_slice ht.isList hs pl pu .none (by simp) ?_ (by rw[dP]<;>lia);rw[Xg,<-hlen];refine⟨.ref s.heap.objs.size,_,I.laid (t':=s.toks) (o:=.lst (jX xs lo hi)) (λb ob q=>cw _ q) (bI _) ?_,Z,q _ (I.bp.fresh (bI _))⟩;exact⟨gH (To xs lo hi) hz,_,0,(r.drop (_H.cj xs.length 0 lo)).take (_H.cj xs.length xs.length hi-_H.cj xs.length 0 lo),dH _ Z⟩
def qi:V->Bool | .bw=>true | .bl _=>true | .int _=>true | .str _=>true |_=>false
def qo:V->V->Bool | .bw,.bw=>true | .bl a,.bl b=>a==b | .bl a,.int b=>(if a then 1 else 0)==b | .int a,.bl b=>a==(if b then 1 else 0) | .int a,.int b=>a==b | .str a,.str b=>a==b |_,_=>false
theorem a8J{A:ai}{s:ae}{y x:V}{u v:Value}(ry:RelV y u)(rx:RelV x v)(fy:qi y=true)(fx:qi x=true):SeqAt.EqAt A s u v (qo y x):=by cases y with
 |bw=>cases ry;cases x with |bw=>cases rx;exact SeqAt.EqAt.same _ |bl b=>cases rx;exact SeqAt.EqAt.none_bool b |int b=>obtain⟨t,rfl⟩:=rx;exact SeqAt.EqAt.none_int b t |str b=>obtain⟨t,rfl⟩:=rx;exact SeqAt.EqAt.none_str b t |_=>exact absurd (show false=true from fx) dQ
 |bl a=>cases ry;cases x with |bw=>cases rx;exact SeqAt.EqAt.bool_none a |bl b=>cases rx;exact SeqAt.EqAt.bool_bool a b |int b=>obtain⟨t,rfl⟩:=rx;exact SeqAt.EqAt.bool_int a b t |str b=>obtain⟨t,rfl⟩:=rx;exact SeqAt.EqAt.bool_str a b t |_=>exact absurd (show false=true from fx) dQ
 |int a=>obtain⟨t',rfl⟩:=ry;cases x with |bw=>cases rx;exact SeqAt.EqAt.int_none a t' |bl b=>cases rx;exact SeqAt.EqAt.int_bool a t' b |int b=>obtain⟨t,rfl⟩:=rx;exact SeqAt.EqAt.int_int a t' b t |str b=>obtain⟨t,rfl⟩:=rx;exact SeqAt.EqAt.int_str a t' b t |_=>exact absurd (show false=true from fx) dQ
 |str a=>obtain⟨t',rfl⟩:=ry;cases x with |bw=>cases rx;exact SeqAt.EqAt.str_none a t' |bl b=>cases rx;exact SeqAt.EqAt.str_bool a t' b |int b=>obtain⟨t,rfl⟩:=rx;exact SeqAt.EqAt.str_int a t' b t |str b=>obtain⟨t,rfl⟩:=rx;exact SeqAt.EqAt.str_str a t' b t |_=>exact absurd (show false=true from fx) dQ
 |_=>exact absurd (show false=true from fy) dQ
def oS(x:V)(u:Value):Bool:=match u with | .none=>qo .bw x | .bool b=>qo (.bl b) x | .int i _=>qo (.int i) x | .str z _=>qo (.str z) x |_=>false
theorem Sz{x y:V}{u:Value}(r:RelV y u)(f:qi y=true):oS x u=qo y x:=by cases y with |bw=>cases r;rfl |bl b=>cases r;rfl |int i=>obtain⟨t,rfl⟩:=r;rfl |str z=>obtain⟨t,rfl⟩:=r;rfl |_=>exact absurd (show false=true from f) dQ
theorem JM{x:V}:∀{xs:List V}{us:List Value},Vals xs us->xs.all qi=true->us.any (oS x)=xs.any λy=>qo y x |_,_,.nil,_=>rfl |y::xs,u::us,.cons r t,f=>by rw[vX,eK]at f;rw[vW,vW,Sz r f.1,JM t f.2]
theorem GS{A:ai}{s:ae}{x:V}{v:Value}(rx:RelV x v)(fx:qi x=true):∀{xs:List V}{us:List Value},Vals xs us->xs.all qi=true->∀u∈us,SeqAt.EqAt A s u v (oS x u)
 |_,_,.nil,_=>λu hu=>by cases hu |y::xs,u::us,.cons r t,f=>λu' hu=>by
  rw[vX,eK]at f;rcases cg.mp hu with rfl|hu
  ·rw[Sz r f.1];exact a8J r rx f.1 fx
  ·exact GS rx fx t f.2 u' hu
def B6(x:V)(xs:List V):Bool:=xs.any λy=>qo y x
inductive acn(K:aa)(neg:Bool)(x:V)(y:V)(H:Hp)(Q:VK):Prop |mk (p:_)(xs:_)(h0:y= .ref p)(h1:(aI K H p xs\/aY K H p xs))(h2:qi x=true)(h3:xs.all qi=true)(h4:Q (.bl (if neg then !B6 x xs else B6 x xs)) H)
def OP(K:aa)(neg:Bool):R2:=λx y H Q=>acn K neg x y H Q
theorem Zz:cO X (compareOp .NotIn) (OP X.K true):=by
 intro pins s O H x y v u Q I rx ry h;obtain⟨p,xs,rfl,hq,fx,fs,q⟩:=h;cases ry;rcases hq with hq|hq
 ·obtain⟨its,r,pl,hz⟩:=I.list hq
  refine SeqAt.notIn_listAt (oS x) pl.isList (λw hw=>GS rx fx r fs w (by simpa using hw)) ⟨.bl _,H,I,Z,?_⟩;rw[show its.toArray.any (oS x)=its.any (oS x) by simp,JM r fs];exact q
 ·obtain⟨its,r,pl,hz⟩:=I.tuple hq
  refine SeqAt.notIn_tupleAt (oS x) pl (λw hw=>GS rx fx r fs w (by simpa using hw)) ⟨.bl _,H,I,Z,?_⟩;rw[show its.toArray.any (oS x)=its.any (oS x) by simp,JM r fs];exact q
theorem a9E:dX X (.builtin "len") (λxs H Q=>∃p ys,xs=[.ref p]/\(aI X.K H p ys\/aY X.K H p ys)/\Q (.int ys.length) H):=by
 intro pins s O H xs us Q I r h;obtain⟨p,ys,rfl,hq,q⟩:=h;obtain⟨u,rfl,rx⟩:=vals1 r;cases rx;have hn:=sy;rcases hq with hq|hq
 ·obtain⟨its,r',pl,hz⟩:=I.list hq
  have hlen:=r'.length;exact Calls.call_len_list pl.isList (by simp only[dP]<;>lia) ⟨.int ys.length,H,I.tok _,⟨s.toks+1,by rw[dP,hlen]⟩,q⟩
 ·obtain⟨its,r',pl,hz⟩:=I.tuple hq
  have hlen:=r'.length;exact len_tuple pl (by simp only[dP]<;>lia) ⟨.int ys.length,H,I.tok _,⟨s.toks+1,by rw[dP,hlen]⟩,q⟩
theorem a9D:dX X (.builtin "len") (λxs H Q=>∃z,xs=[.str z]/\z.length<=sizeLine/\Q (.int z.length) H):=by intro pins s O H xs us Q I r h;obtain⟨z,rfl,hz,q⟩:=h;obtain⟨u,rfl,t,rfl⟩:=vals1 r;have hn:=sy;exact len_str au ⟨.int z.length,H,I.tok _,⟨_,Z⟩,q⟩
theorem dX.or{f:Value}{r r':List V->Hp->VK->Prop}(h:dX X f r)(h':dX X f r'):dX X f (λxs H Q=>r xs H Q\/r' xs H Q):=by
 intro pins s O H xs us Q I rs q;rcases q with q|q
 ·exact h pins s O H xs us Q I rs q
 ·exact h' pins s O H xs us Q I rs q
theorem a9C:dX X (.type "list") (λxs H Q=>∃p ys,xs=[.ref p]/\(aI X.K H p ys\/aY X.K H p ys)/\∀l,H l=none->Q (.ref l) (upd H l (.lst ys))):=by
 intro pins s O H xs us Q I r h;obtain⟨p,ys,rfl,hq,q⟩:=h;obtain⟨u,rfl,rx⟩:=vals1 r;cases rx;have fin:∀(its:List Value),Vals ys its->ys.length<=sizeLine->∀(h':Heap)(c':Nat),(∀b o',s.heap.get? b=some o'->h'.get? b=some o')->h'.get? s.heap.objs.size=some {cls:=.type "list",dict:=none,data:=.seq its.toArray c',slots:=#[]}->EP X pins O Q (.ref s.heap.objs.size) {s with heap:=h'}:=λits r' hz h' c' kp e=>⟨.ref s.heap.objs.size,_,I.laid (t':=s.toks) kp (bI _) (show gj X.prog X.w _ h' _ (.lst ys)from⟨hz,its,c',r',e⟩),Z,q _ (I.bp.fresh (bI _))⟩;rcases hq with hq|hq
 ·obtain⟨its,r',pl,hz⟩:=I.list hq
  have hlen:=r'.length;obtain⟨o,ho,hc,n,hd⟩:=pl.isList;exact call_list_seq p (.inl Z) ho hc hd (λh' c' kp e=>fin its r' hz h' c' kp e) (by simp only[dP]<;>lia)
 ·obtain⟨its,r',pl,hz⟩:=I.tuple hq
  have hlen:=r'.length;obtain⟨o,ho,hc,n,hd⟩:=pl;exact call_list_seq p (.inr Z) ho hc hd (λh' c' kp e=>fin its r' hz h' c' kp e) (by simp only[dP]<;>lia)
theorem a9z:dX X (.type "tuple") (λxs H Q=>∃p ys,xs=[.ref p]/\((aI X.K H p ys/\∀l,H l=none->Q (.ref l) (upd H l (.tup ys)))\/(aY X.K H p ys/\Q (.ref p) H))):=by
 intro pins s O H xs us Q I r h;obtain⟨p,ys,rfl,h⟩:=h;obtain⟨u,rfl,rx⟩:=vals1 r;cases rx;rcases h with⟨hq,q⟩|⟨hq,q⟩
 ·obtain⟨its,r',pl,hz⟩:=I.list hq
  have hlen:=r'.length;refine call_tuple_list pl.isList (λh' kp=>?_) (by simp only[dP]<;>lia);have I1:Inv X pins O H {s with heap:=h'}:=I.kept (t':=s.toks) kp;have I2:Inv X pins O (upd H h'.objs.size (.tup ys)) {s with heap:=h'.push {cls:=.type "tuple",data:=.seq its.toArray}}:=I1.laid (t':=s.toks) (λb o e=>cw _ e) (bI _) (show gj X.prog X.w _ _ _ (.tup ys)from⟨hz,its,r',IsTup.new _ _⟩);exact⟨.ref h'.objs.size,_,I2,Z,q _ (I1.bp.fresh (bI _))⟩
 ·obtain⟨its,r',pl,hz⟩:=I.tuple hq
  exact call_tuple_same pl ⟨.ref p,H,I,Z,q⟩
def CH(K:aa)(T:String)(x:V)(H:Hp):Prop:=match x with | .str _=>T="str" | .int _=>T="int" | .ref p=>(T="list"/\∃xs,aI K H p xs)\/(T="tuple"/\∃o,K.lookup p=some o/\o.cls= .type "tuple"/\o.dict=none)\/ (T="dict"/\((∃dJ,H p=some (.dK dJ))\/∃dJ,H p=some (.dT dJ)))\/(T="set"/\∃S n,H p=some (.set S n)) |_=>False
theorem KU{pins:List (Addr×Obj)}{O:St}{H:Hp}{s:ae}{T:String}{x:V}{v:Value}(I:Inv X pins O H s)(r:RelV x v)(ty:CH X.K T x H): s.TypeIs v T/\∀a,v= .ref a->∃ob,s.heap.get? a=some ob/\ob.dict=none:=by cases x with
 |str z=>obtain⟨t,rfl⟩:=r;cases(show T="str" from ty);exact⟨yS s z t,λ_ e=>nomatch e⟩ |int i=>obtain⟨t,rfl⟩:=r;cases(show T="int" from ty);exact⟨typeIs_int s i t,λ_ e=>nomatch e⟩ |ref p=>
  cases r;rcases ty with⟨rfl,xs,hq⟩|⟨rfl,o,hk,hc,hd⟩|⟨rfl,hk⟩|⟨rfl,S,n,hk⟩
  ·obtain⟨its,_,pl,_⟩:=I.list hq
   refine⟨pl.isList.typeIs,λa e=>?_⟩;cases e;obtain⟨o,n,e,c,hd,_⟩:=pl;exact⟨o,e,hd⟩
  ·refine⟨⟨o,I.fh p o hk,hc⟩,λa e=>?_⟩
   cases e;exact⟨o,I.fh _ o hk,hd⟩
  ·have z:∃o,s.heap.get? p=some o/\o.ExactDict:=by
    rcases hk with⟨dJ,hk⟩|⟨dJ,hk⟩
    ·obtain⟨_,_,_,_,o,_,_,e,ex,_⟩:=I.bp p _ hk
     exact⟨o,e,ex⟩
    ·obtain⟨_,_,_,_,o,_,_,e,ex,_⟩:=I.bp p _ hk
     exact⟨o,e,ex⟩
   obtain⟨o,e,ex⟩:=z;refine⟨⟨o,e,ex.1⟩,λa e2=>?_⟩;cases e2;exact⟨o,e,ex.2.1⟩
  ·obtain⟨o,_,_,_,e,ex,_⟩:=I.bp p _ hk
   refine⟨⟨o,e,ex.1⟩,λa e2=>?_⟩;cases e2;exact⟨o,e,ex.2.1⟩ |_=>exact False.elim ty
def m5(K:aa)(T:String)(r:V->List V->Hp->VK->Prop)(to:TE)(t:TA):TE:=λO H Q=>to O H λx H1=>CH K T x H1/\t O H1 λxs H2=>r x xs H2 Q
variable {o e:Expr}{es:List Expr}{to:TE}{t:TA}{name:Str}{apos bN:Pos}{T id:String}{r:V->List V->Hp->VK->Prop}
theorem nX(pa:PlainAttrs T)(slot:Slot T name id)(Hv:typeOf (.builtin id)=pure (.type "method_descriptor"))(hm:qF X id r)(ho:PE X o to)(ha:PA X (e::es) t) (gf:autoParam (attributeBase o name X.env (eval o X.env)=eval o X.env) r8_._auto_1) (gc:autoParam (((backTo bN (starEach (e::es) X.env)).all (λx=>!x.1)&&(backToKw bN (keywordEach [] X.env)).all (λx=>x.1.isSome) &&decide ((e::es).length+([]:List Keyword).length+(if([]:List Keyword).isEmpty then 0 else 1)<30))=true) r8_._auto_1) (gb:autoParam ((apos.endLine==bN.line)=true) r8_._auto_1)(hs:autoParam (starEach (e::es) X.env=(false,eval e X.env)::starEach es X.env) r8_._auto_1)(g9:autoParam ((backTo bN (starEach es X.env)).any (·.1)=false) r8_._auto_1): PE X (.Call (.Attribute o name apos) (e::es) [] bN) (m5 X.K T r to t):=by intro pins s O H Q I h;refine wpAny_Call_method_late gf gc gb Z (aZ (ho pins s O H _ I h) λv s1 ⟨x,H1,I1,r1,ty,q1⟩=>?_);obtain⟨h1,h2⟩:=KU I1 r1 ty;refine⟨T,id,pa,slot,Hv,h1,h2,?_⟩;have hA:=ha bN pins s1 O H1 _ I1 q1;rw[hs]at hA⊢;refine Calls.callWith_builtin (by show(false||(backTo bN (starEach es X.env)).any (·.1))=false;rw[g9]<;>rfl) (Vo ?_);exact aZ hA λus s2 ⟨vs,H2,I2,r2,q2⟩=>hm pins s2 O H2 x vs v us Q I2 r1 r2 q2
end
def Ux(X:Cx)(id:String)(r:V->List V->Hp->VK->Prop):Prop:=∀(pins:List (Addr×Obj))(s:ae)(O:St)(H:Hp)(x:V)(xs:List V)(v:Value)(us:List Value)(Q:VK),Inv X pins O H s->RelV x v->Vals xs us->r x xs H Q->wpAny (model X.prog X.w) X.A (call (.builtin id) (v::us)) (EP X pins O Q) X.xe s
theorem Vals.one:∀{x:V}{us:List Value},Vals [x] us->∃u,us=[u]/\RelV x u |_,_,.cons r .nil=>⟨_,Z,r⟩
section
variable {X:Cx}{pins:List (Addr×Obj)}{O:St}{H:Hp}{s:ae}{l b:Addr}{xs ys zs:List V}
theorem Inv.Qg{its its':List Value}{n:Nat}{f:Array Value->Array Value}{t':Nat}(I:Inv X pins O H s)(hH:H l=some (.lst xs)) (e:s.heap.get? l=some {cls:=.type "list",data:=.seq its.toArray n})(hf:f its.toArray=its'.toArray)(hv:Vals ys its')(hz:ys.length<=sizeLine): Inv X pins O (upd H l (.lst ys)) {s with heap:=s.heap.update l (Obj.mapSeq f),toks:=t'}:=by have q:=PySem.IsL.update e f;rw[hf]at q;refine I.write (x:=l) (e:=l) (by rw[hH];exact trivial) (.inl Z) (λb' u hb hu=>(zd s.heap (Obj.mapSeq f) (iV hb)).trans hu) ⟨_,q⟩ ?_;exact⟨hz,its',_,hv,q⟩
theorem Inv.Qn{its:List Value}{t':Nat}(I:Inv X pins O H s)(hv:Vals ys its)(hz:ys.length<=sizeLine): Inv X pins O (upd H s.heap.objs.size (.lst ys)) {s with heap:=s.heap.push {cls:=.type "list",data:=.seq its.toArray},toks:=t'}:=I.laid (λ_ _ q=>cw _ q) (bI _) ⟨hz,its,0,hv,dH _ Z⟩
theorem Inv.GZ(I:Inv X pins O H s)(hH:H l=some (.lst xs)):xs.length<=sizeLine/\∃(its:List Value)(n:Nat),Vals xs its/\xs.length=its.length/\s.heap.get? l=some {cls:=.type "list",data:=.seq its.toArray n}:=by obtain⟨z,its,n,r,e⟩:=I.bp l _ hH;exact⟨z,its,n,r,r.length,e⟩
theorem a21{n:Nat}(h:n<=sizeLine):Builtin.List.listTooLong n=false:=by unfold Builtin.List.listTooLong;exact dE au
end
section
variable {X:Cx}
inductive acw(x:V)(vs:List V)(H:Hp)(Q:VK):Prop |mk (l:_)(xs:_)(y:_)(h0:x= .ref l)(h1:vs=[y])(h2:H l=some (.lst xs))(h3:xs.length<sizeLine)(h4:Q .bw (upd H l (.lst (xs++[y]))))
def OS:V->List V->Hp->VK->Prop:=λx vs H Q=>acw x vs H Q
theorem GP:Ux X "list.append" OS:=by
 intro pins s O H x vs v us Q I rx rv h;obtain⟨l,xs,y,rfl,rfl,hH,hz,q⟩:=h;cases rx;obtain⟨u,rfl,ru⟩:=rv.one;obtain⟨z,its,n,r,hl,e⟩:=I.GZ hH;refine tL F.slot_list_append ⟨_,e,Z⟩ F.entry_list_append (F.args_list_append_2 _ _) (PySem.list_append l its.toArray n u (by rw[dP];lia)) ⟨e,?_⟩;refine⟨.bw,_,I.Qg (its':=its++[u]) hH e (by simp) (r.append (.cons ru .nil)) ?_,Z,q⟩;rw[fe,Cp]
 lia
inductive acq(x:V)(vs:List V)(H:Hp)(Q:VK):Prop |mk (l:_)(b:_)(xs:_)(zs:_)(h0:x= .ref l)(h1:vs=[.ref b])(h2:H l=some (.lst xs))(h3:H b=some (.lst zs))(h4:xs.length+zs.length<=sizeLine)(h5:Q .bw (upd H l (.lst (xs++zs))))
def OQ:V->List V->Hp->VK->Prop:=λx vs H Q=>acq x vs H Q
theorem a2v:Ux X "list.extend" OQ:=by
 intro pins s O H x vs v us Q I rx rv h;obtain⟨l,b,xs,zs,rfl,rfl,hH,hB,hz,q⟩:=h;cases rx;obtain⟨u,rfl,ru⟩:=rv.one;cases ru;obtain⟨z,its,n,r,hl,e⟩:=I.GZ hH;obtain⟨z2,jQ,n2,r2,mU,e2⟩:=I.GZ hB;have hsz:its.toArray.size+jQ.toArray.size<=sizeLine:=by rw[dP,dP];lia
 have a4U:¬(!its.toArray.isEmpty&&Builtin.List.listTooLong (its.toArray.size+jQ.toArray.size))=true:=by rw[a21 hsz,Cy];exact dQ
 refine tL F.slot_list_extend ⟨_,e,Z⟩ F.entry_list_extend (F.args_list_extend_2 _ _) (AutoSeq1.list_extend_list_list_0 l its.toArray n b jQ.toArray n2 a4U (by rw[dP];lia) au) ⟨e,e2,?_⟩;refine⟨.bw,_,I.Qg (its':=its++jQ) hH e (by simp) (r.append r2) ?_,Z,q⟩;rw[fe]
 lia
end
section
variable {prog:af}{w:World}{A:ai}{E:Value->ae->Prop}{s:ae}
end
section
variable {X:Cx}
end
end _L
namespace _AA
open PySem PySem.W PySem.Calls PyProof.Rows
theorem a3W{P:Params}{h:Heap}:∀(ns:List Int)(vs:List Value),WellAll P h vs (ns.map WData.int)->IntsAre vs ns:=by intro ns;induction ns with |nil=>intro vs w;rw[List.map_nil]at w;cases w;exact .nil |cons n ns ih=>intro vs w;rw[qM]at w;cases w with |cons a b=>cases a;exact .cons _ _ (ih _ b)
theorem Xs{l:OpenLaw}{n:Nat}(hn:l.most=some n){P:Params}{h:Heap}{args:List WData}{vals:List Value} (Bh:l.row.toRowW.claim.pre args=true)(sH:WellAll P h vals args): ∃a vs ns,vals=[Value.ref a]/\args=[WData.list (ns.map WData.int)]/\h.get? a=some {cls:=.type "list",data:=.seq vs.toArray}/\IntsAre vs ns/\ns.length<=n:=by
 have hsh:WShape.hasAll [] args [.list .int]=true:=(pre_splitW Bh).1;have hc:l.pre.holds [] {args:=args}=true:=(pre_splitW Bh).2;obtain⟨d,r,rfl,h1,h2⟩:=hasAllW_cons hsh;obtain rfl:=hasAllW_nil h2;obtain⟨xs,rfl,h3⟩:=hasW_list h1;obtain⟨ns,rfl⟩:=items_int h3;have hlen:ns.length<=n:=by
  unfold OpenLaw.pre at hc;have h4:(WTm.not (.lt (.lit (.int (n:Int))) (.len (.arg 0)))).holds [] {args:=[.list (ns.map .int)]}=true:=by have h4:=(holds_andW hc).1;rw[hn]at h4;exact h4
  have h5:=condW_of h4 (w_not (w_lt w_lit (w_len_list (w_arg Z))));rw[bM]at h5;refine Nat.le_of_not_lt λq=>?_;have q':(n:Int)<((ns.length:Nat):Int):=by omega
  first |(rw[cf q']at h5;exact absurd h5 ay) |(simp at h5;omega)
 cases sH with |cons w1 w2=>cases w2;cases w1 with |list ho a5M=>exact⟨_,_,ns,Z,Z,ho,a3W ns _ a5M,hlen⟩
theorem YT(l:OpenLaw)(args:List WData):l.row.toRowW.claim.post args (.bool true) args=true:=postW_of (r:=l.row.toRowW) (X:=(true==true)) (show WShape.has [] (.bool true) .bool=true by first|rfl|decide|simp[WShape.has,WShape.arms,WShape.armsAll]) (show(WTm.eq .res (.lit (.bool true))).value [] {args:=args,res:=some (.bool true),after:=args}=some (.bool (true==true))from w_eq_bool (w_res Z) w_lit) rfl
theorem a9Y{l:OpenLaw}{n:Nat}{q:af}{loose:List Str}{XP:(bD)->Heap->Prop}{YP:World->Heap->Prop}{d:DefRec} (hn:l.most=some n)(xP:d.params.defaults=[]) (call:∀(w:World)(s₀ s₁:ae)(mg mb:bD)(fa:Addr)(o:Obj)(pm cd doc:Value)(a:Addr)(vs:List Value)(ns:List Int),Ground q loose [] XP w s₀ mg mb s₁.heap->YP w s₁.heap->s₁.heap.get? fa=some o->o.data= .func (docDef d.name d.params d.body d.scope pm cd doc)->s₁.heap.CodeRec cd d.name->mg d.name=some (.ref fa)->s₁.heap.get? a=some {cls:=.type "list",data:=.seq vs.toArray}->IntsAre vs ns->ns.length<=n->s₁.gens=#[]->codeAny (model l.prog w) callerA (.call (.ref fa) ⟨[.ref a],[]⟩) (λr s'=>r= .ok (.ret (.bool true))/\OldK s₁.heap s'.heap/\s'.os=s₁.os/\AllBare s'.gens) s₁): WalkO q loose XP YP l.row.toRowW d [] (λf vs=>PySem.call f vs):=by intro w s₀ s₁ mg mb G Y fa o pm cd doc dV kV ho hd fo hD xK hg args vals as Bh adF hrd sH hlo;obtain rfl:dV= .none:=Dflts.none hD xP;obtain rfl:kV= .none:=Dflts.noKw hD;obtain⟨a,vs,ns,rfl,rfl,HU,hints,hlen⟩:=Xs hn Bh sH;refine enter_call (vJ (call w s₀ s₁ mg mb fa o pm cd doc a vs ns G Y ho (fd_plain hd) fo xK HU hints hlen hg) λr s' hq=>?_);obtain⟨rfl,h2,h3,h4⟩:=hq;exact⟨.inl ⟨.bool true,.bool true,[],Z,λ_=>rfl,.bool true,YT l _,λ_=>⟨List.Pairwise.nil,λ_ hm=>(nomatch hm)⟩⟩,h2,h3,h4⟩
section
variable {prog:af}{w:World}{A:ai}{E:Value->ae->Prop}{s:ae}{K:Frag}
end
end _AA
namespace _L
open PySem PySem.Spec PyProof.Rows
theorem KS:∀{vs:List Value}{ns:List Int},IntsAre vs ns->Vals (ns.map V.int) vs |_,_,.nil=>.nil |_,_,.cons n t h=>.cons ⟨t,Z⟩ (KS h)
def JX(H:Hp):Prop:=∀b,H b=none\/∃o xs,H b=some (.lL o (.lst xs))
theorem a3z{P:af}{w:World}{K:aa}{mg mb:bD}{CX:iR}{k:Nat}{fa a:Addr}{fd:FuncData}{x:Str}{sp:Sp}{s₁:ae}{vs:List Value}{ns:List Int} (KX:K.In s₁.heap)(Rk:s₁.heap.Ns mainGlobals mg)(hb:s₁.heap.Ns builtinsNs mb)(hbb:∀x:Str,x≠"__name__"->mb x=bootBuiltins x)(a4W:s₁.heap.NoLimit)(hg:s₁.gens=#[]) (ha:s₁.heap.get? a=some {cls:=.type "list",data:=.seq vs.toArray})(hi:IntsAre vs ns)(hl:ns.length<=sizeLine)(hr:cN k callerA) (F:∀ao:Heap,K.In ao->ao.Ns mainGlobals mg->eG P w K mg ao CX k fa fd [x] sp)(a5F:∀(s:ae)(u:Value),BindsTo s fd ⟨[u],[]⟩ [(x,u)]) (fi:∀H:Hp,JX H->aI K H a (ns.map V.int)->sp [.ref a] H (λv _=>v= .bl true) λ_ _ _=>False) (IH:∀H e s',CX [] H s₁ (λ_ _ _=>False) e s'->False): codeAny (model P w) callerA (.call (.ref fa) ⟨[.ref a],[]⟩) (λr s'=>r= .ok (.ret (.bool true))/\OldK s₁.heap s'.heap/\s'.os=s₁.os/\AllBare s'.gens) s₁:=by
 have rv:=KS hi;have a3r:=hi.length;have core:∀H:Hp,JX H->aI K H a (ns.map V.int)->eF P w H s₁.heap->(∀b,H b≠none->b=a)->(H a≠none->K.lookup a=none)->codeAny (model P w) callerA (.call (.ref fa) ⟨[.ref a],[]⟩) (λr s'=>r= .ok (.ret (.bool true))/\OldK s₁.heap s'.heap/\s'.os=s₁.os/\AllBare s'.gens) s₁:=by
  intro H hO hS bp hA hK;have U8:∀{b:Addr}{o:Obj},s₁.heap.get? b=some o->H b=none->(oE s₁.heap H).get? b=some o:=λe n=>a5g e n;have xg:∀{b:Addr}{o:Obj}{es:Array DictEntry}{ep:Nat},s₁.heap.get? b=some o->o.data= .dict es ep->H b=none:=λ{b o es ep} e d=>by cases q:H b with |none=>rfl |some u=>have e':b=a:=hA b (by rw[q];simp);subst e';rw[ha]at e;cases e;have d':Data.seq vs.toArray _=Data.dict es ep:=d;cases d'
  have AF:∀{b:Addr}{m:bD},s₁.heap.Ns b m->(oE s₁.heap H).Ns b m:=λ{b m} ⟨o,es,ep,e,d,r⟩=>⟨o,es,ep,U8 e (xg e d),d,r⟩;have RY:K.In (oE s₁.heap H):=λb o e=>U8 (KX b o e) (by cases q:H b with |none=>rfl |some u=>have e':b=a:=hA b (by rw[q];simp);subst e';rw[hK (by rw[q];simp)]at e;cases e);have hM:Mod K mg (oE s₁.heap H):=⟨RY,AF Rk,⟨mb,AF hb,hbb⟩,let⟨mc,h1,h2⟩:=a4W;⟨mc,AF h1,h2⟩⟩;have e0:p7 P w K mg (oE s₁.heap H) callerA [] s₁ H:=⟨Z,hM,λb o e=>a1K e,Nat.le_of_eq (a5f _ _),trivial,λb hb=>absurd (show b∈([]:List Addr)from hb) (by simp),bp,.of_eq hg⟩;refine vJ ((F _ RY (AF Rk)).run callerA [] s₁ H ⟨[.ref a],[]⟩ [.ref a] [.ref a] _ _ hr e0 (a5F s₁ (.ref a)) (.cons Z .nil) (fi H hO hS)) λr s' h=>?_;cases r with |error e=>exact(IH H e s' h).elim |ok fl=>cases fl with |next=>exact False.elim h |brk=>exact False.elim h |cont=>exact False.elim h |ret u=>obtain⟨v,H',os,bare,un,a4F,r',q⟩:=h;have q':v= .bl true:=q;subst q';obtain rfl:u=Value.bool true:=r';refine⟨Z,OldK.of_keep λb o e=>?_,os,bare⟩;cases q:H b with |none=>exact un.keep b o e q (by intro z;exact absurd (show b∈([]:List Addr)from z) (by simp)) (by simp) |some u=>
   rcases hO b with z|⟨ob,xs,z⟩
   ·rw[q]at z;cases z
   ·have z2:=un.j7 b ob _ z
    obtain⟨e1,_⟩:=bp b _ z;obtain⟨e2,_⟩:=a4F b _ z2;rw[e]at e1;cases e1;exact e2
 cases hk:K.lookup a with |some o=>have e:=KX a o hk;rw[ha]at e;cases e;refine core (λ_=>none) (λ_=>.inl Z) (.inr ⟨_,vs.toArray,_,hk,Z,Z,Z,by rw[dP,a3r];exact hl,by simpa using rv⟩) (λb u z=>by have z':(none:Option HO)=some u:=z;cases z') (λb z=>absurd rfl z) λz=>absurd rfl z |none=>
  refine core (λb=>if b=a then some (.lL {cls:=.type "list",data:=.seq vs.toArray} (.lst (ns.map V.int)))else none) (λb=>?_) (.inl (.inr ⟨{cls:=.type "list",data:=.seq vs.toArray},bc Z⟩)) (λb u z=>?_) (λb z=>?_) λ_=>hk
  ·by_cases hb:b=a
   ·exact .inr ⟨_,_,bc hb⟩
   ·exact .inl (bf hb)
  ·by_cases hb:b=a
   ·have z':=(bc hb).symm.trans z
    cases z';subst hb;exact⟨ha,by rw[bM];exact hl,vs,_,rv,ha⟩
   ·have z':=(bf hb).symm.trans z
    cases z'
  ·by_cases hb:b=a
   ·exact hb
   ·exact absurd (bf hb) z
theorem VJ{l:PySem.W.OpenLaw}{n k:Nat}{q:af}{loose:List Str}{XP:(bD)->Heap->Prop}{YP:World->Heap->Prop}{d:DefRec}{K:Params->aa}{CX:World->iR}{sp:World->Sp}{x:Str} (hn:l.most=some n)(uT:n<=sizeLine)(xP:d.params.defaults=[])(hr:cN k callerA) (hY:∀(w:World)(h:Heap),YP w h->(K w.params).In h) (F:∀(w:World)(mg:bD)(fa:Addr)(h:Heap),(K w.params).In h->h.Ns mainGlobals mg->mg d.name=some (.ref fa)->∃fd:FuncData,(∀(s:ae)(u:Value),BindsTo s fd ⟨[u],[]⟩ [(x,u)])/\∀ao:Heap,(K w.params).In ao->ao.Ns mainGlobals mg->eG l.prog w (K w.params) mg ao (CX w) k fa fd [x] (sp w)) (fi:∀(w:World)(H:Hp)(a:Addr)(ns:List Int),ns.length<=n->JX H->aI (K w.params) H a (ns.map V.int)->sp w [.ref a] H (λv _=>v= .bl true) λ_ _ _=>False) (IH:∀(w:World)(H:Hp)(s:ae)(e:Value)(s':ae),CX w [] H s (λ_ _ _=>False) e s'->False): PySem.W.WalkO q loose XP YP l.row.toRowW d [] (λf vs=>PySem.call f vs):=by refine _AA.a9Y hn xP λw s₀ s₁ mg mb fa o pm cd doc a vs ns G Y ho hd fo xK HU hints hlen hg=>?_;have KX:=hY w _ Y;obtain⟨fd,hb,hF⟩:=F w mg fa _ KX G.T.g xK;exact a3z KX G.T.g G.T.b G.T.builtins G.T.nolimit hg HU hints (gH hlen uT) hr hF hb (λH hO hS=>fi w H a ns hlen hO hS) λH e s'=>IH w H s₁ e s'
def inClass(s:Stmt)(j:Nat):Stmt:=match s with | .ClassDef _ _ _ body _ _ _ _ _ _ _=>body.getD j (.Pass ⟨0,0,0,0⟩) |_=>.Pass ⟨0,0,0,0⟩
def jb(s:Stmt):Arguments:=match s with | .FunctionDef _ a _ _ _ _ _ _ _ _=>a |_=>{posonlyargs:=[],args:=[],vararg:=none,kwonlyargs:=[],kw_defaults:=[],kwarg:=none,defaults:=[]}
def fj(s:Stmt):List Stmt:=match s with | .FunctionDef _ _ b _ _ _ _ _ _ _=>b |_=>[]
def aM(s:Stmt):Scope:=match s with | .FunctionDef _ _ _ _ _ _ sc _ _ _=>sc |_=>{kind:=.function,names:=[],isGenerator:=false,isCoroutine:=false}
abbrev ib:iR:=λ_ _ _ _ _ _=>False
abbrev E0:XK:=λ_ _ _=>False
theorem Au{X:Cx}:Passes ib X E0:=λ_ _ _ _ _ _ _ h=>h.elim
structure ka(K:aa)(x qual:Str)(st:Stmt)(f:Addr)(fd:FuncData):Prop where
 ex:∃(oc:Value)(od:Option Addr)(kV doc pm:Value)(an:Option Addr)(aH ct:Value)(fz:Array (Option Value)),fd=PySem.W.fnOf x qual (jb st) (fj st) (aM st) .none kV doc pm an aH ct/\K.lookup f=some ⟨oc,od,.func fd,fz⟩/\PySem.W.codeIn K aH qual=true
 kp:PySem.W.keepIn K (.ref f)=true
section
variable {P:af}{w:World}{K:aa}{mg:bD}{ao:Heap}
theorem ka.ok{x qual:Str}{st:Stmt}{f:Addr}{fd:FuncData}{N ps:List Str}{k:Nat}{sp:Sp}(F:ka K x qual st f fd)(S:aW N ps (aM st))(len:∀vs H Q E,sp vs H Q E->vs.length=ps.length) (fO:∀(aH:Value)(A:ai)(outer:List Env)(s:ae)(H:Hp)(vs:List V)(Q:VK)(E:XK),cN k (A.deeper (envOfC qual (aM st) s.heap.objs.size f aH))->sp vs H Q E->∃t,fA (gC ib P w K mg ao N qual (aM st) f aH A outer s H E).rY (fj st) t/\t {nx:=λ_ H'=>Q .bw H',rt:=Q} (start N vs) H):eG P w K mg ao ib (k+1) f fd ps sp:=by obtain⟨oc,od,kV,doc,pm,an,aH,ct,fz,rfl,lk,fo⟩:=F.ex;refine IY lk fo S len λA outer s H vs Q E hr fi=>?_;obtain⟨t,h,q⟩:=fO aH A outer s H vs Q E hr fi;exact⟨t,h.rY,q⟩
theorem ka.binds{x qual:Str}{st:Stmt}{f:Addr}{fd:FuncData}{ps:List Str}(F:ka K x qual st f fd) (h:∀(kV doc pm:Value)(an:Option Addr)(aH ct:Value)(us:List Value),us.length=ps.length->bindArgs (PySem.W.fnOf x qual (jb st) (fj st) (aM st) .none kV doc pm an aH ct) ⟨us,[]⟩=pure (ps.zip us)):Binds K fd ps []:=by obtain⟨oc,od,kV,doc,pm,an,aH,ct,fz,rfl,lk,fo⟩:=F.ex;exact .all (h kV doc pm an aH ct)
theorem IS{x qual:Str}{st:Stmt}{f:Addr}{oc:Value}{od an:Option Addr}{fz:Array (Option Value)}{kV doc pm aH ct:Value}(l:K.lookup f=some ⟨oc,od,.func (PySem.W.fnOf x qual (jb st) (fj st) (aM st) .none kV doc pm an aH ct),fz⟩) (c:PySem.W.codeIn K aH qual=true)(k:PySem.W.keepIn K (.ref f)=true):ka K x qual st f (PySem.W.fnOf x qual (jb st) (fj st) (aM st) .none kV doc pm an aH ct):=⟨⟨oc,od,kV,doc,pm,an,aH,ct,fz,Z,l,c⟩,k⟩
end
section
variable {X:Cx}
theorem pv(i:Nat){x:Str}{pos:Pos}(hN:autoParam (X.N[i]? =some x) r8_._auto_1)(hv:autoParam (BW X.env.scope x) k8_._auto_1)(hd:autoParam ((x==("__debug__":Str))=false) q8_._auto_1) (fo:autoParam ((x==("__classdict__":Str))=false) q8_._auto_1):PE X (.Name x pos) (tZ i):=OZ hN hv hd fo
end
theorem aV{A B:Prop}(h:B):if false=true then A else B:=by rw[bf dQ];exact h
theorem bG{A B:Prop}(h:A):if true=true then A else B:=by rw[bc rfl];exact h
theorem eP{c A B:Prop}[Decidable c](h1:c->A)(h2:¬c->B):if c then A else B:=by
 by_cases h:c
 ·rw[bc h]
  exact h1 h
 ·rw[bf h]
  exact h2 h
def aD(H H':Hp):Prop:=∀b o,H b=some o->H' b=some o
theorem aD.refl(H:Hp):aD H H:=λ_ _ h=>h
theorem aD.trans{H H1 H2:Hp}(a:aD H H1)(b:aD H1 H2):aD H H2:=λc o h=>b c o (a c o h)
theorem aD.free{H H':Hp}(e:aD H H'){l:Addr}(h:H' l=Option.none):H l=Option.none:=by cases q:H l with |none=>rfl |some o=>rw[e l o q]at h;cases h
theorem aD.seq{K:aa}{H H':Hp}{a:Addr}{xs:List V}(e:aD H H')(h:aI K H a xs):aI K H' a xs:=by
 rcases h with(h|⟨o,h⟩)|h
 ·exact .inl (.inl (e _ _ h))
 ·exact .inl (.inr ⟨o,e _ _ h⟩)
 ·exact .inr h
def Wd (i:Int):Prop:=i.natAbs<2^5000
theorem Wd.bits{i:Int}(h:Wd i):Builtin.Int.intBits i<=2^20:=gH (PyProof.Rows.intBits_le h) ay
theorem Wd.log{i:Int}(h:Wd i):i.natAbs.log2<9000:=by
 by_cases e:i.natAbs=0
 ·rw[e];decide
 ·have h1:i.natAbs.log2<5000:=(Nat.log2_lt e).mpr h
  lia
section
variable {X:Cx}
theorem uz:cO X (binaryOp .FloorDiv) (rI (λ_ j=>0<j/\Wd j) λi j=>.int (i/j)):=x8 λi j _ _ _ _ _ hc q=>by have h1:(0:Int)<j:=hc.1;exact floordiv_int au (by rw[Int.fdiv_eq_ediv_of_nonneg i au];exact q) (.inl (UY hc.2.log))
theorem Pl:cO X (binaryOp .FloorDiv) (rI (λ_ j=>j≠0/\Wd j) λi j=>.int (i.fdiv j)):=x8 λ_ _ _ _ _ _ _ hc q=>floordiv_int hc.1 q (.inl (UY hc.2.log))
end
def tE(K:aa)(H:Hp)(x:V)(T:String):Prop:=match x with | .bw=>T="NoneType" | .bl _=>T="bool" | .int _=>T="int" | .str _=>T="str" | .ref a=>(T="list"/\∃xs,aI K H a xs)\/(T="tuple"/\∃xs,aY K H a xs) |_=>False
def iW(T n:String):Bool:=T==n||(T=="bool"&&n=="int")
def zv:List String:=["NoneType","bool","int","str","list","tuple"]
def wc:List String:=["bool","int","str","list","tuple"]
theorem QD{K:aa}{T n:String}(h1:T∈zv)(h2:n∈wc):PySem.W.kitOne K (.type T) (.type n)=some (iW T n):=by
 have all:zv.all (λT=>wc.all λn=>PySem.W.kitOne [] (.type T) (.type n)==some (iW T n))=true:=by decide+kernel
 have a1:=fU.mp all T h1;have a2:=fU.mp a1 n h2;have e:PySem.W.kitOne K (.type T) (.type n)=PySem.W.kitOne [] (.type T) (.type n):=by unfold PySem.W.kitOne PySem.W.kitCls PySem.W.subIn;rfl
 rw[e];exact fm.mp a2
section
variable {X:Cx}
theorem tE.mem{K:aa}{H:Hp}{x:V}{T:String}(h:tE K H x T):T∈zv:=by cases x with |bw=>cases(show T="NoneType" from h);decide |bl b=>cases(show T="bool" from h);decide |int b=>cases(show T="int" from h);decide |str b=>cases(show T="str" from h);decide |ref a=>rcases(show(T="list"/\∃xs,aI K H a xs)\/(T="tuple"/\∃xs,aY K H a xs)from h)with⟨e,_⟩|⟨e,_⟩<;>cases e<;>decide |_=>exact(show False from h).elim
theorem QE{pins:List (Addr×Obj)}{s:ae}{O:St}{H:Hp}{x:V}{u:Value}{T:String}(I:Inv X pins O H s)(rx:RelV x u)(ty:tE X.K H x T): ∃P:Heap->Prop,PySem.W.KitX X.K u (.type T) P/\P s.heap/\u≠ .builtin "__main__.__loader__#opaque":=by cases x with
 |bw=>cases(show T="NoneType" from ty);cases(show u=Value.none from rx);exact⟨_,PySem.W.kitx_none,True.intro,λz=>nomatch z⟩ |bl b=>cases(show T="bool" from ty);cases(show u=Value.bool b from rx);exact⟨_,PySem.W.kitx_bool,True.intro,λz=>nomatch z⟩ |int b=>cases(show T="int" from ty);obtain⟨t,q⟩:=(show∃t,u=Value.int b t from rx);cases q;exact⟨_,PySem.W.kitx_int,True.intro,λz=>nomatch z⟩ |str b=>cases(show T="str" from ty);obtain⟨t,q⟩:=(show∃t,u=Value.str b t from rx);cases q;exact⟨_,PySem.W.kitx_str,True.intro,λz=>nomatch z⟩ |ref a=>
  cases(show u=Value.ref a from rx);rcases(show(T="list"/\∃xs,aI X.K H a xs)\/(T="tuple"/\∃xs,aY X.K H a xs)from ty)with⟨e,xs,hx⟩|⟨e,xs,hx⟩
  ·cases e
   obtain⟨its,r,⟨o,n,h1,h2,_⟩,_⟩:=I.list hx;exact⟨_,PySem.W.kitx_list,⟨o,h1,h2⟩,λz=>nomatch z⟩
  ·cases e
   obtain⟨its,r,⟨o,h1,h2,_⟩,_⟩:=I.tuple hx;exact⟨_,PySem.W.kitx_tuple,⟨o,h1,h2⟩,λz=>nomatch z⟩ |_=>exact(show False from ty).elim
inductive ach(K:aa)(xs:List V)(H:Hp)(Q:VK):Prop |mk (x:_)(T:_)(n:_)(b:_)(h0:xs=[x,.ty n])(h1:tE K H x T)(h2:n∈wc)(h3:iW T n=b)(h4:Q (.bl b) H)
def G1(K:aa):List V->Hp->VK->Prop:=λxs H Q=>ach K xs H Q
theorem a9G:dX X (.builtin "isinstance") (G1 X.K):=by intro pins s O H xs us Q I r h;obtain⟨x,T,n,b,rfl,ty,hn,rfl,q⟩:=h;obtain⟨u,c,rfl,rx,rc⟩:=vals2 r;cases(show c=Value.type n from rc);obtain⟨P,aed,p,hx⟩:=QE I rx ty;exact PySem.W.kia_one aed I.fh p (QD ty.mem hn) hx λtk=>⟨.bl (iW T n),H,I.tok _,Z,q⟩
inductive acg(K:aa)(xs:List V)(H:Hp)(Q:VK):Prop |mk (x:V)(T:String)(p:Addr)(ns:List String)(b:Bool)(h0:xs=[x,.ref p])(h1:H p=some (.tup (ns.map V.ty)))(h2:tE K H x T)(h3:(∀n∈ns,n∈wc))(h4:ns.any (iW T)=b)(h5:Q (.bl b) H)
def G0(K:aa):List V->Hp->VK->Prop:=λxs H Q=>acg K xs H Q
theorem QC{K:aa}{T:String}(h1:T∈zv):∀{ns:List String},(∀n∈ns,n∈wc)->PySem.W.kitAny K (.type T) (ns.map Value.type)=some (ns.any (iW T)) |[],_=>rfl |n::r,h=>by have e:=QD (K:=K) h1 (h n (Kp ..));have ih:=QC (K:=K) h1 (ns:=r) λm hm=>h m (vS _ hm);rw[qM,PySem.W.kitAny,e,vW];cases iW T n with |true=>rfl |false=>simpa using ih
theorem KQ:∀{ns:List String}{us:List Value},Vals (ns.map V.ty) us->us=ns.map Value.type |[],_,.nil=>rfl |n::r,_,.cons q t=>by cases(show _=Value.type n from q);rw[KQ t];rfl
theorem a9F:dX X (.builtin "isinstance") (G0 X.K):=by intro pins s O H xs us Q I r h;obtain⟨x,T,p,ns,b,rfl,hp,ty,hn,rfl,q⟩:=h;obtain⟨u,c,rfl,rx,rc⟩:=vals2 r;cases(show c=Value.ref p from rc);obtain⟨P,aed,pp,hx⟩:=QE I rx ty;obtain⟨_,its,rv,⟨cls,dd,dt,sl⟩,h1,h2,n,h3⟩:=(show gj X.prog X.w H s.heap p (.tup (ns.map V.ty))from I.bp p _ hp);simp only at h2 h3;subst h2 h3;have e:=KQ rv;subst e;exact PySem.W.kia_tup aed I.fh pp h1 (QC ty.mem hn) hx λtk=>⟨.bl _,H,I.tok _,Z,q⟩
end
mutual
def RD(K:aa)(H:Hp):V->ah->Prop |x,.none=>x= .bw |x,.bool b=>x= .bl b |x,.int i=>x= .int i |x,.str y=>x= .str y |x,.list ds=>∃a xs,x= .ref a/\aI K H a xs/\aL K H xs ds |x,.tuple ds=>∃a xs,x= .ref a/\aY K H a xs/\aL K H xs ds |_,.dict _=>False
def aL (K:aa)(H:Hp):List V->List ah->Prop |xs,[]=>xs=[] |xs,d::ds=>∃y ys,xs=y::ys/\RD K H y d/\aL K H ys ds
end
section
variable {X:Cx}
mutual
theorem RD.reads{pins:List (Addr×Obj)}{s:ae}{O:St}{H:Hp}(I:Inv X pins O H s):∀{x:V}{u:Value}(d:ah),RelV x u->RD X.K H x d->∃as,Reads s.heap u d as |x,u,.none,r,h=>by cases(show x= .bw from by simpa[RD]using h);cases(show u=Value.none from r);exact⟨_,.none⟩ |x,u,.bool b,r,h=>by cases(show x= .bl b from by simpa[RD]using h);cases(show u=Value.bool b from r);exact⟨_,.bool b⟩ |x,u,.int i,r,h=>by cases(show x= .int i from by simpa[RD]using h);obtain⟨t,q⟩:=(show∃t,u=Value.int i t from r);cases q;exact⟨_,.int i t⟩ |x,u,.str y,r,h=>by cases(show x= .str y from by simpa[RD]using h);obtain⟨t,q⟩:=(show∃t,u=Value.str y t from r);cases q;exact⟨_,.str y t⟩ |x,u,.list ds,r,h=>by rw[RD]at h;obtain⟨a,xs,rfl,hx,hd⟩:=h;cases(show u=Value.ref a from r);obtain⟨its,rv,⟨o,n,h1,h2,h3,h4⟩,_⟩:=I.list hx;obtain⟨as,q⟩:=aL.reads I ds rv hd;exact⟨_,.list h1 h2 h4 (by simpa using q)⟩ |x,u,.tuple ds,r,h=>by rw[RD]at h;obtain⟨a,xs,rfl,hx,hd⟩:=h;cases(show u=Value.ref a from r);obtain⟨its,rv,⟨o,h1,h2,n,h4⟩,_⟩:=I.tuple hx;obtain⟨as,q⟩:=aL.reads I ds rv hd;exact⟨_,.tuple h1 h2 h4 (by simpa using q)⟩ |x,u,.dict _,r,h=>by simp[RD]at h
theorem aL.reads {pins:List (Addr×Obj)}{s:ae}{O:St}{H:Hp}(I:Inv X pins O H s):∀{xs:List V}{us:List Value}(ds:List ah),Vals xs us->aL X.K H xs ds->∃as,ReadsAll s.heap us ds as |xs,us,[],r,h=>by cases(show xs=[]from by simpa[aL]using h);cases r;exact⟨_,.nil⟩ |xs,us,d::ds,r,h=>by rw[aL]at h;obtain⟨y,ys,rfl,h1,h2⟩:=h;cases r with |cons ra rb=>obtain⟨as,q⟩:=RD.reads I d ra h1;obtain⟨bs,q'⟩:=aL.reads I ds rb h2;exact⟨_,.cons q q'⟩
end
inductive acr(K:aa)(x:V)(y:V)(H:Hp)(Q:VK):Prop |mk (d:_)(e:_)(h0:RD K H x d)(h1:RD K H y e)(h2:SeqAt.shaped d=true)(h3:SeqAt.shaped e=true)(h4:Q (.bl (PyData.eqv d e)) H)
def G2(K:aa):R2:=λx y H Q=>acr K x y H Q
inductive ac9(K:aa)(x:V)(y:V)(H:Hp)(Q:VK):Prop |mk (d:_)(e:_)(h0:RD K H x d)(h1:RD K H y e)(h2:SeqAt.shaped d=true)(h3:SeqAt.shaped e=true)(h4:Q (.bl (!PyData.eqv d e)) H)
def FX(K:aa):R2:=λx y H Q=>ac9 K x y H Q
theorem ZG(hu:X.A.units+64<cLine):cO X (compareOp .Eq) (G2 X.K):=by intro pins s O H x y v u Q I rx ry h;obtain⟨d,e,hd,he,sd,se,q⟩:=h;obtain⟨as,ra⟩:=RD.reads I d rx hd;obtain⟨bs,rb⟩:=RD.reads I e ry he;exact eq_dataH ra rb sd se hu ⟨.bl _,H,I,Z,q⟩
theorem ZC(hu:X.A.units+64<cLine):cO X (compareOp .NotEq) (FX X.K):=by intro pins s O H x y v u Q I rx ry h;obtain⟨d,e,hd,he,sd,se,q⟩:=h;obtain⟨as,ra⟩:=RD.reads I d rx hd;obtain⟨bs,rb⟩:=RD.reads I e ry he;exact ne_dataH ra rb sd se hu ⟨.bl _,H,I,Z,q⟩
end
theorem aD.new{H:Hp}{t:Addr}{o:HO}(ht:H t=none):aD H (upd H t o):=λb o' e=>by rw[aU (fY e ht)];exact e
structure Nw(H H':Hp)(p:Addr)(o:HO):Prop where
 no:H p=none
 at':H' p=some o
 same:aD H H'
 eq:H'=upd H p o
theorem Nw.of{H:Hp}{p:Addr}{o:HO}(h:H p=none):Nw H (upd H p o) p o:=⟨h,bW,.new h,Z⟩
def BU:List Str:=["len","abs","min","max","range","isinstance","int","bool","str","tuple","list","any","all","sum","zip","enumerate","sorted","reversed","ord","chr","divmod","repr","dict","set"]
def bB (mg:bD):Prop:=∀x∈BU,mg x=none
theorem bB.at{mg:bD}(B:bB mg)(x:Str)(h:autoParam (x∈BU) q8_._auto_1):mg x=none:=B x h
theorem cu{α:Type}{C:List α->Prop}(h:∀a,C [a]):∀us:List α,us.length=1->C us |[_],_=>h _
theorem dN{α:Type}{C:List α->Prop}(h:∀a b,C [a,b]):∀us:List α,us.length=2->C us |[_,_],_=>h _ _
theorem jZ{α:Type}{C:List α->Prop}(h:∀a b c,C [a,b,c]):∀us:List α,us.length=3->C us |[_,_,_],_=>h _ _ _
theorem JO{α:Type}{C:List α->Prop}(h:∀a b c d,C [a,b,c,d]):∀us:List α,us.length=4->C us |[_,_,_,_],_=>h _ _ _ _
theorem al5{α:Type}{C:List α->Prop}(h:∀a b c d e,C [a,b,c,d,e]):∀us:List α,us.length=5->C us |[_,_,_,_,_],_=>h _ _ _ _ _
def Se(N P:List Str)(sc:Scope):Bool:=decide (sc.kind= .function)&& !sc.isCoroutine&& !sc.isGenerator&&decide N.Nodup&&decide (N.take P.length=P)&&P.all (λx=>decide (sc.names.lookup x=some .local\/sc.names.lookup x=some .cell))&&sc.names.all λy=>decide (y.2≠ .free)
theorem bh{N P:List Str}{sc:Scope}(h:Se N P sc=true):aW N P sc:=by unfold Se at h;simp only[eK,Cc,ze,fU]at h;obtain⟨⟨⟨⟨⟨⟨h1,h2⟩,h3⟩,h4⟩,h5⟩,h6⟩,h7⟩:=h;exact⟨h1,h2,h3,h4,h5,h6,h7⟩
structure FA(K:aa)(mg:bD)(x:Str)(st:Stmt):Prop where ex:∃f fd,mg x=some (.ref f)/\ka K x x st f fd
def aA(P:af)(w:World)(K:aa)(mg:bD)(ao:Heap)(x:Str)(k:Nat)(sp:Sp):Prop:=∃f fd ps,eG P w K mg ao ib k f fd ps sp/\mg x=some (.ref f)/\PySem.W.keepIn K (.ref f)=true/\Binds K fd ps []
section
variable {P:af}{w:World}{K:aa}{mg:bD}{ao:Heap}
theorem a7m{h:Heap}{x:Str}{st:Stmt}{f:Addr}{oc:Value}{od an:Option Addr}{fz:Array (Option Value)}{kV doc pm aH ct:Value}(X:K.In h)(G:h.Ns mainGlobals mg) (a:PySem.W.nsIn K mainGlobals x=some (some (.ref f))) (l:K.lookup f=some ⟨oc,od,.func (PySem.W.fnOf x x (jb st) (fj st) (aM st) .none kV doc pm an aH ct),fz⟩) (c:PySem.W.codeIn K aH x=true)(k:PySem.W.keepIn K (.ref f)=true):FA K mg x st:=⟨f,_,tP X G a,IS l c k⟩
theorem FA.has{x:Str}{st:Stmt}{N ps:List Str}{k:Nat}{sp:Sp}(F:FA K mg x st)(S:aW N ps (aM st))(len:∀vs H Q E,sp vs H Q E->vs.length=ps.length) (hb:∀(kV doc pm:Value)(an:Option Addr)(aH ct:Value)(us:List Value),us.length=ps.length->bindArgs (PySem.W.fnOf x x (jb st) (fj st) (aM st) .none kV doc pm an aH ct) ⟨us,[]⟩=pure (ps.zip us)) (fO:∀(f:Addr)(aH:Value)(A:ai)(outer:List Env)(s:ae)(H:Hp)(vs:List V)(Q:VK)(E:XK),cN k (A.deeper (envOfC x (aM st) s.heap.objs.size f aH))->sp vs H Q E->∃t,fA (gC ib P w K mg ao N x (aM st) f aH A outer s H E).rY (fj st) t/\t {nx:=λ_ H'=>Q .bw H',rt:=Q} (start N vs) H):aA P w K mg ao x (k+1) sp:=by obtain⟨f,fd,hm,F⟩:=F.ex;exact⟨f,fd,ps,F.ok S len λaH A outer s H vs Q E=>fO f aH A outer s H vs Q E,hm,F.kp,F.binds hb⟩
end
section
variable {X:Cx}{k:Nat}{x:Str}{p pos:Pos}{e:Expr}{es:List Expr}{t:TA}{sp:Sp}
def CP(sp:Sp)(t:TA):TE:=λO H Q=>t O H λvs H1=>sp vs H1 Q E0
theorem Zb(F:aA X.prog X.w X.K X.mg X.ao x k sp)(hr:cN k X.A)(hg:Gl X x)(ha:PA X (e::es) t)(gd:autoParam ((x==("__debug__":Str))=false) q8_._auto_1) (he:autoParam (starEach (e::es) X.env=(false,eval e X.env)::starEach es X.env) r8_._auto_1)(eZ:autoParam ((backTo pos (starEach es X.env)).any (·.1)=false) r8_._auto_1): PE X (.Call (.Name x p) (e::es) [] pos) (CP sp t):=by
 obtain⟨f,fd,ps,F,hm,hk,hb⟩:=F;have h:=Ze (pos:=pos) (p:=p) F hr hg hm hk hb .nil Au ha gd he eZ;intro pins s O H Q I hq;refine h pins s O H Q I ?_;have e1:(λ(vs:List V) H1=>sp (vs++[]) H1 Q E0)=λvs H1=>sp vs H1 Q E0:=by funext vs H1;rw[qO]
 show t O H λvs H1=>sp (vs++[]) H1 Q E0;rw[e1];exact hq
theorem pf{j:Nat}(F:aA X.prog X.w X.K X.mg X.ao x j sp)(hr:cN k X.A)(ha:PA X (e::es) t)(hjk:autoParam (j<=k) q8_._auto_1)(hg:autoParam (Gl X x) r8_._auto_1)(gd:autoParam ((x==("__debug__":Str))=false) q8_._auto_1)(he:autoParam (starEach (e::es) X.env=(false,eval e X.env)::starEach es X.env) r8_._auto_1)(eZ:autoParam ((backTo pos (starEach es X.env)).any (·.1)=false) r8_._auto_1):PE X (.Call (.Name x p) (e::es) [] pos) (CP sp t):=Zb F (hr.mono hjk) hg ha gd he eZ
theorem cD:cO X (binaryOp .Mult) (rI (λi j=>IntMulOk i j) λi j=>.int (i*j)):=x8 λ_ _ _ _ _ _ _ hc q=>mul_int q hc
theorem ZF:cO X (compareOp .Eq) (jn λi j=>.bl (decide (i=j))):=uA λ_ _ _ _ _ _ _ q=>eq_int (by rw[Vp];exact q)
theorem ZA:cO X (compareOp .NotEq) (jn λi j=>.bl (!decide (i=j))):=uA λ_ _ _ _ _ _ _ q=>ne_int (by rw[bne,Vp];exact q)
theorem ZH(hu:X.A.units+64<cLine):cO X (compareOp .Eq) (λx y H Q=>jn (λi j=>.bl (decide (i=j))) x y H Q\/G2 X.K x y H Q):=ZF.or (ZG hu)
theorem ZD(hu:X.A.units+64<cLine):cO X (compareOp .NotEq) (λx y H Q=>jn (λi j=>.bl (!decide (i=j))) x y H Q\/FX X.K x y H Q):=ZA.or (ZC hu)
mutual
theorem eqv_refl:∀d:ah,d.canLay0=true->PyData.eqv d d=true | .none,_=>by simp[PyData.eqv] | .bool b,_=>by simp[PyData.eqv] | .int i,_=>by simp[PyData.eqv] | .str x,_=>by simp[PyData.eqv] | .list ds,h=>by simp only[PyData.eqv];exact eqvAll_refl ds (by simpa[PyData.canLay0]using h) | .tuple ds,h=>by simp only[PyData.eqv];exact eqvAll_refl ds (by simpa[PyData.canLay0]using h) | .dict _,h=>by simp[PyData.canLay0]at h
theorem eqvAll_refl:∀ds:List ah,PyData.canLayAll0 ds=true->PyData.eqvAll ds ds=true |[],_=>by simp[PyData.eqvAll] |d::ds,h=>by simp only[PyData.canLayAll0,eK]at h;simp only[PyData.eqvAll,eK];exact⟨eqv_refl d h.1,eqvAll_refl ds h.2⟩
end
theorem Yq{K:aa}{H:Hp}(b:Bool):RD K H (.bl b) (.bool b):=by simp[RD]
theorem fE{K:aa}{H:Hp}(i:Int):RD K H (.int i) (.int i):=by simp[RD]
theorem bu{K:aa}{H:Hp}(x:Str):RD K H (.str x) (.str x):=by simp[RD]
theorem uh{K:aa}{H:Hp}:RD K H .bw .none:=by simp[RD]
theorem fR{K:aa}{H:Hp}{p:Addr}{xs:List V}{ds:List ah}(h:aY K H p xs)(r:aL K H xs ds):RD K H (.ref p) (.tuple ds):=by rw[RD];exact⟨p,xs,Z,h,r⟩
theorem wV{K:aa}{H:Hp}{p:Addr}{xs:List V}{ds:List ah}(h:aI K H p xs)(r:aL K H xs ds):RD K H (.ref p) (.list ds):=by rw[RD];exact⟨p,xs,Z,h,r⟩
theorem dy{K:aa}{H:Hp}:aL K H [] []:=by simp[aL]
theorem cF{K:aa}{H:Hp}{x:V}{xs:List V}{d:ah}{ds:List ah}(h:RD K H x d)(r:aL K H xs ds):aL K H (x::xs) (d::ds):=by rw[aL];exact⟨x,xs,Z,h,r⟩
inductive aaA(t:TS)(D:Ends)(O:St)(H:Hp):Prop |mk (JZ:St->Hp->Prop)(h0:t {D with nx:=JZ} O H)(h1:∀σ' H',JZ σ' H'->D.nx σ' H')
def WH(t:TS):TS:=λD O H=>aaA t D O H
theorem iX{st:Stmt}{t:TS}(h:PS X st t):PS X st (WH t):=by intro pins s O H D I hq;obtain⟨JZ,q,m⟩:=hq;refine aZ (h pins s O H _ I q) λf s1 q1=>?_;cases f with |next=>obtain⟨σ',H',I',q'⟩:=q1;exact⟨σ',H',I',m _ _ q'⟩ |brk=>exact q1 |cont=>exact q1 |ret u=>exact q1
end
def qE(K:aa)(xs:List Str):Prop:=∀x∈xs,PySem.W.nsIn K mainGlobals x=some none
theorem qE.nil{K:aa}:qE K []:=λ_ h=>nomatch h
theorem qE.cons{K:aa}{x:Str}{xs:List Str}(a:PySem.W.nsIn K mainGlobals x=some none)(r:qE K xs):qE K (x::xs):=λy hy=>by
 rcases cg.mp hy with e|e
 ·rw[e];exact a
 ·exact r y e
theorem a9R{K:aa}{mg:bD}{h:Heap}(X:K.In h)(G:h.Ns mainGlobals mg)(a:qE K BU):bB mg:=λx hx=>PySem.W.mg_none_of X G (a x hx)
theorem Jv{env:Env}:∀(ns:List (Str×NameKind))(cs:List (Str×Addr)),(∀x∈ns,x.2= .free->∃c,env.cells.lookup x.1=some c)->(∀x c,cs.lookup x=some c->env.cells.lookup x=some c)->∃cl,(forIn ns cs (λx r=>if(x.2==NameKind.free)=true then do let a<-cellOf env x.1;pure (ForInStep.yield ((x.1,a)::r))else pure (ForInStep.yield r)):Sem (List (Str×Addr)))=pure cl/\(∀x c,cl.lookup x=some c->env.cells.lookup x=some c)/\(∀x c,cs.lookup x=some c->∃c',cl.lookup x=some c')/\∀x∈ns,x.2= .free->∃c,cl.lookup x.1=some c
 |[],cs,_,h2=>⟨cs,Z,h2,λx c e=>⟨c,e⟩,λ_ h=>nomatch h⟩ |(n,k)::r,cs,h1,h2=>by
  by_cases hk:k= .free
  ·subst hk
   obtain⟨c,hc⟩:=h1 (n,.free) (.head _) rfl;have e1:cellOf env n=pure c:=by unfold cellOf;rw[show env.cells.lookup n=some c from hc]
   obtain⟨cl,a1,a2,a3,a4⟩:=Jv r ((n,c)::cs) (λx hx=>h1 x (.tail _ hx)) (λx d e=>by rw[jf]at e;cases z:x==n with |true=>rw[z]at e;cases e;rw[fm.mp z];exact hc |false=>rw[z]at e;exact h2 x d e);refine⟨cl,?_,a2,λx d e=>?_,λx hx hf=>?_⟩
   ·rw[Kv]
    show(do let r'<-(if(NameKind.free==NameKind.free)=true then do let a<-cellOf env n;pure (ForInStep.yield ((n,a)::cs))else pure (ForInStep.yield cs));_)=_;rw[bc (by rfl),e1];exact a1
   ·by_cases z:x==n
    ·exact a3 x c (by rw[jf,z])
    ·exact a3 x d (by rw[jf,Cw.mpr z];exact e)
   ·rcases cg.mp hx with rfl|hx
    ·exact a3 n c (by rw[jf,K9])
    ·exact a4 x hx hf
  ·obtain⟨cl,a1,a2,a3,a4⟩:=Jv r cs (λx hx=>h1 x (.tail _ hx)) h2
   refine⟨cl,?_,a2,a3,λx hx hf=>?_⟩
   ·rw[Kv]
    show(do let r'<-(if(k==NameKind.free)=true then do let a<-cellOf env n;pure (ForInStep.yield ((n,a)::cs))else pure (ForInStep.yield cs));_)=_;rw[bf (by simpa using hk)];exact a1
   ·rcases cg.mp hx with rfl|hx
    ·exact absurd hf hk
    ·exact a4 x hx hf
theorem Tx{env:Env}{scope:Scope}(h1:∀x∈scope.names,x.2= .free->∃c,env.cells.lookup x.1=some c): ∃cl,closureFor scope env=pure cl/\(∀x c,cl.lookup x=some c->env.cells.lookup x=some c)/\∀x∈scope.names,x.2= .free->∃c,cl.lookup x.1=some c:=by
 obtain⟨cl,a1,a2,_,a4⟩:=Jv (env:=env) scope.names [] h1 (λx c e=>nomatch e);refine⟨cl,?_,a2,a4⟩;unfold closureFor;show(forIn scope.names ([]:List (Str×Addr)) (λ(x:Str×NameKind) r=>match x with|(name,kind)=>if(kind==NameKind.free)=true then do let a<-cellOf env name;pure (ForInStep.yield ((name,a)::r))else pure (ForInStep.yield r))>>=λr=>(pure r:Sem (List (Str×Addr))))=pure cl;have ef:(λ(x:Str×NameKind)(r:List (Str×Addr))=>match x with|(name,kind)=>(if(kind==NameKind.free)=true then do let a<-cellOf env name;pure (ForInStep.yield ((name,a)::r))else pure (ForInStep.yield r):Sem (ForInStep (List (Str×Addr))))) =λx r=>if(x.2==NameKind.free)=true then do let a<-cellOf env x.1;pure (ForInStep.yield ((x.1,a)::r))else pure (ForInStep.yield r):=by funext x r;obtain⟨n,k⟩:=x;rfl
 rw[ef,a1];rfl
theorem Qk{env:Env}(hk:env.scope.kind= .function){x:Str}(hx:env.kindOf x=some .cell):∀{names:List (Str×NameKind)},names.lookup x=some .free->(names.map λ(n,k)=>if(k==NameKind.free&&env.scope.kind== .function&&env.kindOf n==some .cell)then(n,NameKind.cell)else(n,k)).lookup x=some .cell |[],h=>nomatch h |(n,k)::r,h=>by have ih:=@Qk env hk x hx r;show List.lookup x ((if(k==NameKind.free&&env.scope.kind== .function&&env.kindOf n==some .cell)=true then(n,NameKind.cell)else(n,k))::_)=_;cases z:x==n with |true=>simp only[jf,z]at h;cases h;have e:=fm.mp z;subst e;rw[bc (by rw[hk,hx];rfl),jf,z] |false=>simp only[jf,z]at h;split<;>(simp only[jf,z];exact ih h)
def ft(X:Cx)(N:List Str)(scope:Scope)(cl:List (Str×Addr))(s:ae)(H:Hp)(fp:List Addr)(pins:List (Addr×Obj)):Cx:={prog:=X.prog,w:=X.w,K:=X.K,mg:=X.mg,ao:=X.ao,A:=X.A,N:=N,s₀:=s,H₀:=H,env:=compEnvC scope cl s.heap.objs.size X.env,outer:=X.stack,stack:=X.stack,ex:=fp,fn:=λ_=>false,calm:=X.calm,pn:=X.pn++pins,xe:=λ_ _=>False}
def stC(js:List (Option Nat))(O:St):St:=js.map λ|none=>none|some j=>(O[j]?).join
def BP(X:Cx)(N:List Str)(js:List (Option Nat))(scope:Scope):Bool:=N.length==js.length&&(N.zip js).all λp=>match p.2 with|none=>true|some j=>X.N[j]? ==some p.1&&scope.names.lookup p.1==some NameKind.free&&X.env.kindOf p.1==some NameKind.cell
def vo(X:Cx)(scope:Scope):Bool:=scope.kind== .function&&X.env.scope.kind== .function&&scope.names.all λx=>match x.2 with | .free=>X.env.kindOf x.1==some NameKind.cell | .cell=>false | .local=>scope.names.lookup x.1==some NameKind.local |_=>true
section
variable {X:Cx}{pins:List (Addr×Obj)}{O:St}{H:Hp}{s:ae}
theorem lookup_mem{α β:Type}[BEq α][LawfulBEq α]:∀{l:List (α×β)}{x:α}{b:β},l.lookup x=some b->(x,b)∈l |[],_,_,h=>nomatch h |(n,k)::r,x,b,h=>by rw[jf]at h;cases z:x==n with |true=>rw[z]at h;cases h;rw[fm.mp z];exact .head _ |false=>rw[z]at h;exact .tail _ (lookup_mem h)
theorem OB{env:Env}{x:Str}{k:NameKind}:∀{names:List (Str×NameKind)},(names.map λ(n,k)=>if(k==NameKind.free&&env.scope.kind== .function&&env.kindOf n==some .cell)then(n,NameKind.cell)else(n,k)).lookup x=some k->names.lookup x=some k\/(k= .cell/\names.lookup x=some .free) |[],h=>nomatch h |(n,k')::r,h=>by have ih:=@OB env x k r;have h':List.lookup x ((if(k'==NameKind.free&&env.scope.kind== .function&&env.kindOf n==some .cell)=true then(n,NameKind.cell)else(n,k'))::(r.map λ(n,k)=>if(k==NameKind.free&&env.scope.kind== .function&&env.kindOf n==some .cell)then(n,NameKind.cell)else(n,k)))=some k:=h;cases z:x==n with
 |true=>
  split at h'
  ·rename_i hc
   simp only[jf,z]at h';cases h';rw[eK,eK]at hc;have e:k'= .free:=fm.mp hc.1.1;subst e;exact .inr ⟨Z,by rw[jf,z]⟩
  ·simp only[jf,z]at h'
   cases h';exact .inl (by rw[jf,z]) |false=>
  rw[jf,z];refine ih ?_;split at h'
  ·simpa only[jf,z]using h'
  ·simpa only[jf,z]using h'
theorem Inv.comp{N:List Str}{js:List (Option Nat)}{scope:Scope}{cl:List (Str×Addr)}{fp:List Addr}{h':Heap}{tk:Nat}(I:Inv X pins O H s)(hN:BP X N js scope=true)(hS:vo X scope=true) (c1:∀x c,cl.lookup x=some c->X.env.cells.lookup x=some c)(c2:∀x∈scope.names,x.2= .free->∃c,cl.lookup x.1=some c)(hf:∀b∈fp,kd X pins H b)(hfl:∀b∈fp,b<s.heap.objs.size) (hn:h'.Ns s.heap.objs.size λ_=>none)(hk:∀b o,s.heap.get? b=some o->h'.get? b=some o):Inv (ft X N scope cl s H fp pins) [] (stC js O) H {s with heap:=h',toks:=tk}:=by
 unfold vo at hS;rw[eK,eK]at hS;obtain⟨⟨s1,s2⟩,s3⟩:=hS;have lD:scope.kind= .function:=fm.mp s1;have a50:X.env.scope.kind= .function:=fm.mp s2;unfold BP at hN;rw[eK]at hN;obtain⟨n1,n2⟩:=hN;have hlen:N.length=js.length:=fm.mp n1;have QR:∀x k,(relabel scope X.env).names.lookup x=some k->scope.names.lookup x=some k\/(k= .cell/\scope.names.lookup x=some .free):=λx k e=>OB e;have a28:∀x,scope.names.lookup x≠some .cell:=λx e=>by have:=fU.mp s3 _ (lookup_mem e);exact dQ this
 have Sd:∀b∈(ft X N scope cl s H fp pins).fs,b∈X.env.locals::X.fs:=I.CV;have ok:(ft X N scope cl s H fp pins).Ok:={
  mod:=I.ok.mod
  kind:=lD
  glob:=I.ok.glob
  blt:=I.ok.blt
  above:=bI _
  inj:=λx y c e1 e2=>I.ok.inj x y c (c1 x c e1) (c1 y c e2)
  has:=λx hx=>by
   have fr:scope.names.lookup x=some .free->∃c,cl.lookup x=some c:=λe=>c2 (x,.free) (lookup_mem e) rfl;rcases hx with e|e
   ·rcases QR x _ e with e|⟨_,e⟩
    ·exact absurd e (a28 x)
    ·exact fr e
   ·rcases QR x _ e with e|⟨z,_⟩
    ·exact fr e
    ·cases z
  qz:=λx c e=>nomatch e
  hd:=I.ok.hd
  frames:=I.ok.frames
  qW:=.inl rfl
  yk:=λb hb=>⟨eR (hfl b hb),λx c e=>(hf b hb).2.2.2.2.1 x c (c1 x c e)⟩
  bs:=I.bs
  jY:=gH I.ok.jY I.sz
  pP:=λb o e hb=>by
   rcases(hf b hb).2.2.2.1 with z|z
   ·exact I.ok.pP b o e z
   ·exact absurd (fD (cm e) (gH I.ok.jY z)) (qL _)
  oP:=λb hb z=>by
   obtain⟨_,q1,q2,_⟩:=hf b hb;rcases cg.mp (Sd b z)with e|e
   ·exact q1 e
   ·exact q2 e
  iK:=I.stack
  lM:=I.zK};refine⟨ok,Z,I.bare,Un.kept hk,⟨_,hn,λi x v e1 e2 e3=>?_⟩,λx c e=>?_,I.bp.fresh (bI _),λx c e=>I.j9 x c (c1 x c e),λp hp=>?_,I.bp.kept hk,?_⟩
 ·have vj:(js.map λ|none=>none|some j=>(O[j]?).join)[i]? =some (some v):=e2
  rw[bR]at vj;cases hj:js[i]? with |none=>rw[hj]at vj;cases vj |some o=>rw[hj]at vj;cases o with |none=>cases vj |some j=>
   have hz:(N.zip js)[i]? =some (x,some j):=by rw[Kt];exact⟨e1,hj⟩
   have Tz:=fU.mp n2 _ (fc hz);simp only[eK,fm]at Tz;obtain⟨⟨h1,h2⟩,h3⟩:=Tz;have BH:(O[j]?).join=some v:=by simpa using vj
   have hσ:O[j]? =some (some v):=by cases q:O[j]? with |none=>rw[q]at BH;cases BH |some o=>
    rw[q]at BH;have:o=some v:=by simpa using BH
    rw[this]
   obtain⟨m,hm,hl⟩:=I.loc;obtain⟨u,r,l⟩:=hl j x v h1 hσ (.inr (.inl h3));refine⟨u,r,?_⟩;rcases l with⟨k,_⟩|⟨_,c,hc,qf⟩
   ·rw[h3]at k;cases k
   ·obtain⟨c',jU⟩:=c2 (x,.free) (lookup_mem h2) rfl
    have:=c1 x c' jU;rw[hc]at this;cases this;refine .inr ⟨.inl (Qk a50 h3 h2),c,jU,?_⟩;obtain⟨ob,ho,hd⟩:=qf;exact⟨ob,hk _ _ ho,hd⟩
 ·obtain⟨v,ob,ho,hd⟩:=I.cell x c (c1 x c e)
  exact⟨v,ob,hk _ _ ho,hd⟩
 ·have Bj:p∈X.pn++pins:=by simpa[ft]using hp
  obtain⟨a1,a2,a3,a4,a5⟩:=I.pin p Bj;refine⟨hk _ _ a1,a2,eR (cm a1),λz=>?_,a5⟩;rcases cg.mp (Sd p.1 z)with e|e
  ·exact a3 e
  ·exact a4 e
 ·show(js.map _).length=N.length
  rw[bM,hlen]
end
theorem Tt{prog:af}{w:World}{A:ai}{R:Result->ae->Prop}{s:ae}{elt target iter:Expr}{ifs:List Expr}{scope:Scope}{pos:Pos}{it acc:Value}{env:Env}(I:Nat->ae->Prop) (turn:∀n s,I n s->wpAny (model prog w) A (pyNext it) (λr s₁=>match r with |none=>R (.ok .next) s₁ |some v=>wpAny (model prog w) A (letOwnedTupleGo target it v) (λ_ s₁=>wpAny (model prog w) A (assign target env v) (λ_ s₂=>wpAny (model prog w) A (forIn ifs true λc r=>if r=true then do let ok<-isTrue c env (eval c env);pure (ForInStep.yield ok)else pure (ForInStep.yield r)) (λok s₃=>if ok=true then wpAny (model prog w) A (eval elt env) (λx s₄=>wpAny (model prog w) A (call (.builtin "list.append") [acc,x]) (λ_ s₅=>∃m,m<n/\I m s₅) (λ_ _=>False) s₄) (λ_ _=>False) s₃ else∃m,m<n/\I m s₃) (λ_ _=>False) s₂) (λ_ _=>False) s₁) (λ_ _=>False) s₁) (λ_ _=>False) s) (n:Nat)(h:I n s):codeAny (model prog w) A (.compLoop (.ListComp elt [⟨target,iter,ifs,0⟩] scope pos) 0 it acc env) R s:=by refine codeAny_loop Z I (λn s hI=>?_) n h;show wpAny _ A ((compTurn (.ListComp elt [⟨target,iter,ifs,0⟩] scope pos) 0 it acc env).onRaise (λx=>do noteFrame x env;theTreesLotGoes x)) _ _ s;refine wpAny_noted ?_;rw[compTurn_list];refine aK (C4 (aK (iS (turn n s hI) (λr s₁ h₁=>?_) λ_ _ h'=>h'.elim)));cases r with |none=>exact bT h₁ |some v=>refine aK (iS h₁ (λ_ ad2 h₁=>?_) λ_ _ h'=>h'.elim);refine aK (iS h₁ (λ_ s₂ h₂=>aK (iS h₂ (λok s₃ h₃=>?_) λ_ _ h'=>h'.elim)) λ_ _ h'=>h'.elim);cases ok with |false=>exact bT ⟨Z,h₃⟩ |true=>exact aK (aK (iS h₃ (λx s₄ h₄=>aK (iS h₄ (λ_ s₅ h₅=>bT (bT ⟨Z,h₅⟩)) λ_ _ h'=>h'.elim)) λ_ _ h'=>h'.elim))
def JV(X:Cx)(ifs:List Expr)(t:TT):Prop:=∀(pins:List (Addr×Obj))(s:ae)(O:St)(H:Hp)(Q:Bool->Hp->Prop),Inv X pins O H s->t O H Q->wpAny (model X.prog X.w) X.A (forIn ifs true λc r=>if r=true then do let ok<-isTrue c X.env (eval c X.env);pure (ForInStep.yield ok)else pure (ForInStep.yield r)) (TP X pins O Q) X.xe s
def jJ:TT:=λ_ H Q=>Q true H
theorem dS{X:Cx}:JV X [] jJ:=λ_ _ _ H _ I h=>wpAny_tests_nil ⟨H,I,h⟩
def kI(J:It)(g:TG)(tt:TT)(te:TE)(Q:VK)(D:Addr)(O:St)(H:Hp):Prop:=∃W:Nat->Nat->St->Hp->Prop,(∃m,W 0 m O H)/\∀i m σ' H',W i m σ' H'->(J.stop i H'/\Q (.ref D) H')\/(J.go i H'/\∀x H2,J.jh i H' x H2->g x σ' H2 λσ3 H3=>tt σ3 H3 λok H4=>if ok=true then te σ3 H4 λy H5=>∃ys,H5 D=some (.lst ys)/\ys.length<sizeLine/\∃m',m'<m/\W (i+1) m' σ3 (upd H5 D (.lst (ys++[y]))) else∃m',m'<m/\W (i+1) m' σ3 H4)
def Ld(js:List (Option Nat))(wi:TI)(g:TG)(tt:TT)(te:TE):TE:=λO H Q=>wi O H λJ H1=>∀D H2,Nw H1 H2 D (.lst [])->kI J g tt te Q D (stC js O) H2
theorem eF.but{P:af}{w:World}{H:Hp}{h h':Heap}{C:Addr}(ok:eF P w H h)(hn:H C=none)(hs:Heap.SameBut C h h'):eF P w H h':=λb ob e=>by
 refine(ok b ob e).m6 (λc w' hc q=>(hs.2 c ?_).trans q) (λ_ q=>q) λ_ _ q=>q;rintro rfl;rcases hc with rfl|hc
 ·rw[hn]at e;cases e
 ·rw[hn]at hc;cases hc
set_option maxHeartbeats 1000000 in
theorem eY{X:Cx}{N:List Str}{js:List (Option Nat)}{elt tg iter:Expr}{ifs:List Expr}{scope:Scope}{pos:Pos}{wi:TI}{g:TG}{tt:TT}{te:TE}(hc:X.calm=true)(hN:BP X N js scope=true)(hS:vo X scope=true) (hi:PI X tg iter wi)(hg:∀cl s H fp pins,PG (ft X N scope cl s H fp pins) tg g)(ht:∀cl s H fp pins,JV (ft X N scope cl s H fp pins) ifs tt)(he:∀cl s H fp pins,PE (ft X N scope cl s H fp pins) elt te) (hs:autoParam (∀x,foldedSetIterable iter X.env x=pure x) f8_._auto_1):PE X (.ListComp elt [⟨tg,iter,ifs,0⟩] scope pos) (Ld js wi g tt te):=by
 intro pins s O H Q I h;have oH:=hS;unfold vo at oH;rw[eK,eK]at oH;obtain⟨⟨k1,k2⟩,k3⟩:=oH;have lD:scope.kind= .function:=fm.mp k1;have uV:∀x∈scope.names,x.2= .free->∃c,X.env.cells.lookup x.1=some c:=λx hx e=>by have:=fU.mp k3 x hx;rw[e]at this;exact I.ok.has x.1 (.inl (fm.mp this))
 have qf:∀x∈scope.names,x.2≠ .cell:=λx hx e=>by have:=fU.mp k3 x hx;rw[e]at this;exact dQ this
 have HV:∀x∈scope.names,x.2= .local->scope.names.lookup x.1=some .local:=λx hx e=>by have:=fU.mp k3 x hx;rw[e]at this;exact fm.mp this
 obtain⟨cl,Ik,c1,c2⟩:=Tx uV;rw[eval_ListComp];refine wpAny_comprehension_free (use:=none) Z hs Ik lD HV (aZ (hi pins s O H _ I h) λv s1 h1=>aZ h1 λAX s2 h2=>?_);obtain⟨it,fp,tn,J,H2,e,I2,T,pD,f2,h2⟩:=h2;subst e;have hD:H2 s2.heap.objs.size=none:=I2.bp.fresh (bI _);obtain⟨W,⟨m0,w0⟩,turn⟩:=h2 _ _ (Nw.of hD);refine nC (wpAny_newFunctionEnv qf (by intro y hy;simp at hy) (λh₁ xJ xE=>?_) lD);have sS:∀b∈fp,b<s2.heap.objs.size:=λb hb=>by obtain⟨o,e,_⟩:=T.obj _ _ pD b hb;exact cm e
 have I3:Inv X pins O (upd H2 s2.heap.objs.size (.lst [])) {s2 with heap:=s2.heap.push {cls:=.type "list",dict:=none,data:=.seq ([]:List Value).toArray}}:=I2.Qn (its:=[]) (t':=s2.toks) .nil (fC _);generalize y4:s2.heap.push {cls:=.type "list",dict:=none,data:=.seq ([]:List Value).toArray}=h3 at I3 xJ xE;have wu:h3.objs.size=s2.heap.objs.size+1:=by rw[<-y4,ph]
 have Hi:∀b o,s2.heap.get? b=some o->h3.get? b=some o:=λb o e=>by rw[<-y4];exact cw _ e
 have f3:∀b∈fp,kd X pins (upd H2 s2.heap.objs.size (.lst [])) b:=λb hb=>⟨by rw[aU (eR (sS b hb))];exact(f2 b hb).1,(f2 b hb).2⟩;have xy:∀b o,h3.get? b=some o->h₁.get? b=some o:=λb o e=>(xE.2 b (eR (cm e))).trans (cw _ e);have I4:Inv (ft X N scope cl {s2 with heap:=h3} (upd H2 s2.heap.objs.size (.lst [])) fp pins) [] (stC js O) (upd H2 s2.heap.objs.size (.lst [])) {s2 with heap:=h₁,toks:=s2.toks+([]:List (Str×Value)).length}:=I3.comp (s:={s2 with heap:=h3}) hN hS c1 c2 f3 (λb hb=>by show b<h3.objs.size;rw[wu];exact Kn (sS b hb)) (by simpa using xJ) xy;have wx:tn 0 h₁:=T.keep _ _ _ pD λb _ o e=>xy b o (Hi b o e);have loop:codeAny (model X.prog X.w) X.A (.compLoop (.ListComp elt [⟨tg,iter,ifs,0⟩] scope pos) 0 (.ref it) (.ref s2.heap.objs.size) (compEnvC scope cl h3.objs.size X.env)) (compPost (model X.prog X.w) X.A X.xe none (EP X pins O Q) (.ref s2.heap.objs.size) h3.objs.size) {s2 with heap:=h₁,toks:=s2.toks+([]:List (Str×Value)).length}:=by
  refine Tt (λn s'=>∃i σ' H',Inv (ft X N scope cl {s2 with heap:=h3} (upd H2 s2.heap.objs.size (.lst [])) fp pins) [] σ' H' s'/\tn i s'.heap/\(∀b∈fp,H' b=none)/\W i n σ' H') ?_ m0 ⟨0,_,_,I4,wx,λb hb=>(f3 b hb).1,w0⟩;rintro n s5 ⟨i,σ5,H5,I5,nS,sR,w5⟩;have kM:∀{H':Hp},(∀b∈fp,H' b=none)->∀b∈fp,kd (ft X N scope cl {s2 with heap:=h3} (upd H2 s2.heap.objs.size (.lst [])) fp pins) [] H' b:=λ{H'} hn b hb=>by
   obtain⟨_,q1,q2,q3,q4,q5⟩:=f3 b hb;refine⟨hn b hb,λz=>?_,I4.ok.oP b hb,.inl hb,λx c e=>q4 x c (c1 x c e),λp hp=>q5 p (by simpa[ft]using hp)⟩;have cn:b<h3.objs.size:=by rw[wu];exact Kn (sS b hb)
   exact eR cn z
  rcases turn i n σ5 H5 w5 with⟨stop,qn⟩|⟨go,step⟩
  ·refine aZ (T.done (ft X N scope cl {s2 with heap:=h3} (upd H2 s2.heap.objs.size (.lst [])) fp pins) rfl rfl rfl hc i [] s5 σ5 H5 _ I5 (kM sR) nS stop) λr s6 ⟨hr,I6⟩=>?_
   subst hr;obtain⟨m,hm,_⟩:=I6.loc;refine⟨m,hm,λh7 Bf=>?_⟩;have u0:Un (eu X.stack) fp (upd H2 s2.heap.objs.size (.lst [])) H5 h3 s6.heap:=I6.ao;have ne:∀b o,h3.get? b=some o->b≠h3.objs.size:=λb o e=>eR (cm e);have u:Un (eu X.stack) fp (upd H2 s2.heap.objs.size (.lst [])) H5 h3 h7:=⟨λb o e n hb hx=>(Bf.2 b (ne b o e)).trans (u0.keep b o e n hb hx),λb o e n hb hx=>let⟨sl,q⟩:=u0.slot b o e n hb hx;⟨sl,(Bf.2 b (ne b o e)).trans q⟩,u0.free,λb o e hx=>let⟨o',q⟩:=u0.there b o e hx;⟨o',(Bf.2 b (ne b o e)).trans q⟩,u0.jj,u0.j7,u0.jk⟩;have I7:Inv X pins O H5 {s6 with heap:=h7}:=I3.BQ (s':={s6 with heap:=h7}) (ch:=fp) I6.os u (I6.bp.but I6.free Bf) I6.bare λb hb=>⟨(f3 b hb).2.2.2.1,(f3 b hb).2.1,(f3 b hb).2.2.2.2.1,(f3 b hb).2.2.2.2.2⟩;exact⟨.ref s2.heap.objs.size,H5,I7,Z,qn⟩
  ·refine aZ (T.item (ft X N scope cl {s2 with heap:=h3} (upd H2 s2.heap.objs.size (.lst [])) fp pins) rfl rfl rfl hc i [] s5 σ5 H5 _ I5 (kM sR) nS go) λr s6 ⟨u,hr,h6⟩=>?_
   subst hr;refine aZ h6 λ_ s7 ⟨x,H7,I7,r7,y7,nR,IV⟩=>?_;have K0:=I7.pinned (kM IV) (T.obj _ _ nR);refine aZ (hg _ _ _ _ _ _ s7 σ5 H7 x u _ K0 r7 (step x H7 y7)) λ_ s8 ⟨σ8,H8,I8,q8⟩=>?_;refine aZ (ht _ _ _ _ _ _ s8 σ8 H8 _ I8 q8) λok s9 ⟨H9,I9,q9⟩=>?_;have again:∀{s':ae}{σ7:St}{H7:Hp},Inv (ft X N scope cl {s2 with heap:=h3} (upd H2 s2.heap.objs.size (.lst [])) fp pins) ([]++uv fp s7.heap) σ7 H7 s'->(∃m',m'<n/\W (i+1) m' σ7 H7)->∃m,m<n/\∃i σ' H',Inv (ft X N scope cl {s2 with heap:=h3} (upd H2 s2.heap.objs.size (.lst [])) fp pins) [] σ' H' s'/\tn i s'.heap/\(∀b∈fp,H' b=none)/\W i m σ' H':=λ{s' σ7 H7} J7 n7=>by obtain⟨m',hm,w7⟩:=n7;refine⟨m',hm,i+1,σ7,H7,J7.w6,T.keep _ _ _ nR λb hb o e=>(J7.pin (b,o) (jF _ (jF _ (uL hb e)))).1,λb hb=>?_,w7⟩;obtain⟨o,e,d⟩:=T.obj _ _ nR b hb;exact(J7.pin (b,o) (jF _ (jF _ (uL hb e)))).2.1
   cases ok with |false=>rw[bf dQ]at q9⊢;exact again I9 q9 |true=>rw[bc rfl]at q9⊢;refine aZ (he _ _ _ _ _ _ s9 σ8 H9 _ I9 q9) λyv rj ⟨y,nk,vE,G3,ys,B7,hz,pk⟩=>?_;refine aZ (GP _ rj σ8 nk (.ref s2.heap.objs.size) [y] (.ref s2.heap.objs.size) [yv] (λ_ kH=>∃m',m'<n/\W (i+1) m' σ8 kH) vE Z (.cons G3 .nil) ⟨_,ys,y,Z,Z,B7,hz,pk⟩) λ_ FH ⟨v11,kH,K1,YM,G4⟩=>?_;exact again K1 G4
 exact codeAny_compStart_list loop (T.self _ 0 _ _ _ wx loop)
theorem JB:∀{bs:List Bool}{us:List Value},Vals (bs.map V.bl) us->us=bs.map Value.bool |[],_,.nil=>rfl |b::r,_,.cons q t=>by cases(show _=Value.bool b from q);rw[JB t];rfl
section
variable {X:Cx}
theorem a9J(hc:X.calm=true):dX X (.builtin "all") (λxs H Q=>∃(l:Addr)(bs:List Bool),xs=[.ref l]/\aI X.K H l (bs.map V.bl)/\Q (.bl (bs.all id)) H):=by
 intro pins s O H xs us Q I r h;obtain⟨l,bs,rfl,hl,q⟩:=h;obtain⟨u,rfl,ru⟩:=vals1 r;cases(show u=Value.ref l from ru);obtain⟨its,rv,pl,hz⟩:=I.list hl;have e:=JB rv;subst e;have fT:=pl.isList;have cn:l<s.heap.objs.size:=by obtain⟨_,e,_⟩:=fT;exact cm e
 have hh:=I.ok.hd hc;refine call_all_walk (yO fT ?_);refine⟨s.heap.objs.size,[s.heap.objs.size,l],[s.heap.objs.size],(bs.map Value.bool).toArray.size,_,_,λi=>(bs[i]?).getD true,Z,Walks.list (A:=X.A.in1) hh _ l (eR cn) (bs.map Value.bool).toArray,⟨⟨_,dH _ Z,Z,Z⟩,fT.push _⟩,λi v s' Q' E' hP hQ=>?_,λh' tk hk=>?_⟩
 ·have lI:(bs.map Value.bool)[i]? =some v:=by simpa using hP
  rw[bR]at lI;cases e:bs[i]? with |none=>rw[e]at lI;cases lI |some b=>rw[e]at lI;cases lI;simp only[e,Option.getD_some]at hQ;exact ny hQ
 ·have e:((List.range (bs.map Value.bool).toArray.size).all λi=>(bs[i]?).getD true)=bs.all id:=by rw[dP,bM];exact LSm.range_all bs
  rw[e];exact⟨.bl _,H,I.kept (LSm.kept_iter hk),Z,q⟩
theorem a9I(hc:X.calm=true):dX X (.builtin "any") (λxs H Q=>∃(l:Addr)(bs:List Bool),xs=[.ref l]/\aI X.K H l (bs.map V.bl)/\Q (.bl (bs.any id)) H):=by
 intro pins s O H xs us Q I r h;obtain⟨l,bs,rfl,hl,q⟩:=h;obtain⟨u,rfl,ru⟩:=vals1 r;cases(show u=Value.ref l from ru);obtain⟨its,rv,pl,hz⟩:=I.list hl;have e:=JB rv;subst e;have fT:=pl.isList;have cn:l<s.heap.objs.size:=by obtain⟨_,e,_⟩:=fT;exact cm e
 have hh:=I.ok.hd hc;refine call_any_walk (yO fT ?_);refine⟨s.heap.objs.size,[s.heap.objs.size,l],[s.heap.objs.size],(bs.map Value.bool).toArray.size,_,_,λi=>(bs[i]?).getD false,Z,Walks.list (A:=X.A.in1) hh _ l (eR cn) (bs.map Value.bool).toArray,⟨⟨_,dH _ Z,Z,Z⟩,fT.push _⟩,λi v s' Q' E' hP hQ=>?_,λh' tk hk=>?_⟩
 ·have lI:(bs.map Value.bool)[i]? =some v:=by simpa using hP
  rw[bR]at lI;cases e:bs[i]? with |none=>rw[e]at lI;cases lI |some b=>rw[e]at lI;cases lI;simp only[e,Option.getD_some]at hQ;exact ny hQ
 ·have e:((List.range (bs.map Value.bool).toArray.size).any λi=>(bs[i]?).getD false)=bs.any id:=by rw[dP,bM];exact LSm.range_any bs
  rw[e];exact⟨.bl _,H,I.kept (LSm.kept_iter hk),Z,q⟩
end
theorem vn{J:It}{g:TG}{tt:TT}{te:TE}{Q:VK}{D:Addr}{O:St}{H:Hp}(n:Nat)(Pv:Nat->St->Hp->Prop)(h0:Pv 0 O H) (hs:∀i O H,i<n->Pv i O H->J.go i H/\∀x H2,J.jh i H x H2->g x O H2 λσ3 H3=>tt σ3 H3 λok H4=>if ok=true then te σ3 H4 λy H5=>∃ys,H5 D=some (.lst ys)/\ys.length<sizeLine/\∃m',m'<n-i/\m'=n-(i+1)/\i+1<=n/\Pv (i+1) σ3 (upd H5 D (.lst (ys++[y]))) else∃m',m'<n-i/\m'=n-(i+1)/\i+1<=n/\Pv (i+1) σ3 H4) (hd:∀O H,Pv n O H->J.stop n H/\Q (.ref D) H): kI J g tt te Q D O H:=by
 refine⟨λi m O H=>m=n-i/\i<=n/\Pv i O H,⟨n,by simp,fC _,h0⟩,?_⟩;rintro i m O H ⟨rfl,hi,p⟩;by_cases cn:i<n
 ·exact .inr (hs i O H cn p)
 ·have e:i=n:=by lia
  subst e;exact .inl (hd O H p)
section
variable {X:Cx} {tg:Expr}
theorem ixK(K:aa)(h:X.K=K):p4 X (λx y H Q=>FZ K x y H Q\/FY K x y H Q):=by subst h;exact a3K.or a3J
inductive ac6(K:aa)(x:V)(lo:Option Int)(hi:Option Int)(H:Hp)(Q:VK):Prop |mk (a:_)(xs:_)(h0:x= .ref a)(h1:((aI K H a xs/\∀p H',Nw H H' p (.lst (jX xs lo hi))->Q (.ref p) H')\/ (aY K H a xs/\¬(_H.cj xs.length 0 lo=0/\_H.cj xs.length xs.length hi=xs.length)/\∀p H',Nw H H' p (.tup (jX xs lo hi))->Q (.ref p) H')))
def YB(K:aa):V->Option Int->Option Int->Hp->VK->Prop:=λx lo hi H Q=>ac6 K x lo hi H Q
theorem A1(K:aa)(h:X.K=K):BZ X (YB K):=by
 subst h;intro pins s O H x v vl vu lo hi sl Q I rx hs pl pu hq;obtain⟨a,xs,e,hq⟩:=hq;rcases hq with⟨h1,k⟩|⟨h1,h2,k⟩
 ·exact Xj pins s O H x v vl vu lo hi sl Q I rx hs pl pu ⟨a,xs,e,h1,λp hp=>k p _ (.of hp)⟩
 ·exact Xi pins s O H x v vl vu lo hi sl Q I rx hs pl pu ⟨a,xs,e,h1,h2,λp hp=>k p _ (.of hp)⟩
theorem a3s(K:aa)(h:X.K=K):dX X (.builtin "len") (λxs H Q=>∃p ys,xs=[.ref p]/\(aI K H p ys\/aY K H p ys)/\Q (.int ys.length) H):=by subst h;exact a9E
theorem a3S(K:aa)(h:X.K=K):dX X (.builtin "isinstance") (λxs H Q=>G1 K xs H Q\/G0 K xs H Q):=by subst h;exact a9G.or a9F
theorem dF(K:aa)(h:X.K=K)(hu:X.A.units+64<cLine):cO X (compareOp .Eq) (λx y H Q=>jn (λi j=>.bl (decide (i=j))) x y H Q\/G2 K x y H Q):=by subst h;exact ZH hu
theorem my(K:aa)(h:X.K=K)(hu:X.A.units+64<cLine):cO X (compareOp .NotEq) (λx y H Q=>jn (λi j=>.bl (!decide (i=j))) x y H Q\/FX K x y H Q):=by subst h;exact ZD hu
theorem vt(K:aa)(h:X.K=K)(hc:X.calm=true):dX X (.builtin "all") (λxs H Q=>∃(l:Addr)(bs:List Bool),xs=[.ref l]/\aI K H l (bs.map V.bl)/\Q (.bl (bs.all id)) H):=by subst h;exact a9J hc
theorem aa3(K:aa)(h:X.K=K)(hc:X.calm=true):dX X (.builtin "any") (λxs H Q=>∃(l:Addr)(bs:List Bool),xs=[.ref l]/\aI K H l (bs.map V.bl)/\Q (.bl (bs.any id)) H):=by subst h;exact a9I hc
theorem AU(K:aa)(h:X.K=K):dX X (.type "list") (λxs H Q=>∃p ys,xs=[.ref p]/\(aI K H p ys\/aY K H p ys)/\∀l H',Nw H H' l (.lst ys)->Q (.ref l) H'):=by subst h;intro pins s O H xs us Q I r hq;obtain⟨p,ys,e,h1,k⟩:=hq;exact a9C pins s O H xs us Q I r ⟨p,ys,e,h1,λl hl=>k l _ (.of hl)⟩
theorem kl(K:aa)(h:X.K=K):dX X (.type "tuple") (λxs H Q=>∃p ys,xs=[.ref p]/\((aI K H p ys/\∀l H',Nw H H' l (.tup ys)->Q (.ref l) H')\/(aY K H p ys/\Q (.ref p) H))):=by subst h;intro pins s O H xs us Q I r hq;obtain⟨p,ys,e,h1⟩:=hq;exact a9z pins s O H xs us Q I r ⟨p,ys,e,h1.imp (λ⟨a,k⟩=>⟨a,λl hl=>k l _ (.of hl)⟩) id⟩
def Ws(t:TA):TE:=λO H Q=>t O H λxs H1=>xs.length<=sizeLine/\∀p H',Nw H1 H' p (.tup xs)->Q (.ref p) H'
def WJ(t:TA):TE:=λO H Q=>t O H λxs H1=>xs.length<=sizeLine/\∀p H',Nw H1 H' p (.lst xs)->Q (.ref p) H'
theorem gJ{es:List Expr}{t:TA}{pos:Pos} {x1}(h:PA X es t):PE X (.Tuple es x1 pos) (Ws t):=by intro pins s O H Q I hq;refine wpAny_Tuple_spliced (aZ (h pos pins s O H _ I hq) λus s1 ⟨xs,H1,I1,r,z,q⟩=>⟨by rw[<-r.length];exact z,?_⟩);have hf:H1 s1.heap.objs.size=none:=I1.bp.fresh (bI _);refine⟨.ref s1.heap.objs.size,upd H1 s1.heap.objs.size (.tup xs),I1.laid (t':=s1.toks) (λb u e=>cw _ e) (bI _) ?_,Z,q _ _ (.of hf)⟩;exact⟨z,us,r,⟨_,dH _ Z,Z,_,Z⟩⟩
theorem da{es:List Expr}{t:TA}{pos:Pos}(h:PA X es t):PE X (.List es pos) (WJ t):=by intro pins s O H Q I hq;refine wpAny_List_spliced (aZ (h pos pins s O H _ I hq) λus s1 ⟨xs,H1,I1,r,z,q⟩=>⟨by rw[<-r.length];exact z,?_⟩);have hf:H1 s1.heap.objs.size=none:=I1.bp.fresh (bI _);refine⟨.ref s1.heap.objs.size,upd H1 s1.heap.objs.size (.lst xs),I1.laid (t':=s1.toks) (λb u e=>cw _ e) (bI _) ?_,Z,q _ _ (.of hf)⟩;exact⟨z,us,0,r,dH _ Z⟩
theorem kT(K:aa)(h:X.K=K){l:Expr}{tl:TE}(hl:PE X l tl):PI X tg l (QU K tl):=by subst h;exact Z1 hl
theorem kv(K:aa)(h:X.K=K){l:Expr}{tl:TE}(hl:PE X l tl):PI X tg l (QT K tl):=by subst h;exact YZ hl
theorem eX(K:aa)(h:X.K=K){es:List Expr}{k:Nat}{t:nc}{n:Nat}{pos:Pos}(hc:X.calm=true)(hg:yI X es t)(hn:autoParam ((assignEach es X.env).length=n) r8_._auto_1)(g6:autoParam ((assignEach es X.env).findIdx? (·.1)=none) r8_._auto_1): PG X (.Tuple es k pos) (Bw K n t):=by subst h;exact Z3 hc hg hn g6
theorem nY(K:aa)(h:X.K=K){o e:Expr}{to:TE}{t:TA}{apos bN:Pos}(ho:PE X o to)(ha:PA X [e] t) (gf:autoParam (attributeBase o "append" X.env (eval o X.env)=eval o X.env) r8_._auto_1) (gc:autoParam (((backTo bN (starEach [e] X.env)).all (λx=>!x.1)&&(backToKw bN (keywordEach [] X.env)).all (λx=>x.1.isSome) &&decide ([e].length+([]:List Keyword).length+(if([]:List Keyword).isEmpty then 0 else 1)<30))=true) r8_._auto_1) (gb:autoParam ((apos.endLine==bN.line)=true) r8_._auto_1)(hs:autoParam (starEach [e] X.env=(false,eval e X.env)::starEach [] X.env) r8_._auto_1)(g9:autoParam ((backTo bN (starEach [] X.env)).any (·.1)=false) r8_._auto_1): PE X (.Call (.Attribute o "append" apos) [e] [] bN) (m5 K "list" OS to t):=by subst h;exact nX Ki PySem.F.slot_list_append PySem.F.type_list_append GP ho ha gf gc gb hs g9
theorem zm{j:Nat}{x:V}{O:St}{H:Hp}{A B:St->Hp->Prop}(h:A (O.set j (some x)) H):gB j x O H λσ3 H3=>jJ σ3 H3 λok H4=>if ok=true then A σ3 H4 else B σ3 H4:=by show if true=true then A (O.set j (some x)) H else B (O.set j (some x)) H;rw[bc rfl];exact h
theorem yes{O:St}{H:Hp}{Q:Bool->Hp->Prop}(h:Q true H):jJ O H Q:=h
end
theorem aI.go{K:aa}{H H':Hp}{a:Addr}{xs:List V}(s:aD H H')(h:aI K H a xs):aI K H' a xs:=h.imp (λr=>r.imp (s _ _) λ⟨o,e⟩=>⟨o,s _ _ e⟩) id
theorem aY.go{K:aa}{H H':Hp}{a:Addr}{xs:List V}(s:aD H H')(h:aY K H a xs):aY K H' a xs:=h.imp (λr=>r.imp (s _ _) λ⟨o,e⟩=>⟨o,s _ _ e⟩) id
mutual
theorem RD.mono{K:aa}{H H':Hp}(s:aD H H'):∀{x:V}(d:ah),RD K H x d->RD K H' x d |x,.none,h=>by simpa[RD]using h |x,.bool b,h=>by simpa[RD]using h |x,.int i,h=>by simpa[RD]using h |x,.str y,h=>by simpa[RD]using h |x,.list ds,h=>by rw[RD]at h⊢;obtain⟨a,xs,e,h1,h2⟩:=h;exact⟨a,xs,e,h1.go s,aL.mono s ds h2⟩ |x,.tuple ds,h=>by rw[RD]at h⊢;obtain⟨a,xs,e,h1,h2⟩:=h;exact⟨a,xs,e,h1.go s,aL.mono s ds h2⟩ |x,.dict _,h=>by simp[RD]at h
theorem aL.mono {K:aa}{H H':Hp}(s:aD H H'):∀{xs:List V}(ds:List ah),aL K H xs ds->aL K H' xs ds |xs,[],h=>by simpa[aL]using h |xs,d::ds,h=>by rw[aL]at h⊢;obtain⟨y,ys,e,h1,h2⟩:=h;exact⟨y,ys,e,RD.mono s d h1,aL.mono s ds h2⟩
end
section
variable {K:aa} {H H':Hp}
theorem aL.nil_inv{xs:List V}(h:aL K H xs []):xs=[]:=by simpa[aL]using h
theorem aL.cons_inv{xs:List V}{d:ah}{ds:List ah}(h:aL K H xs (d::ds)):∃y ys,xs=y::ys/\RD K H y d/\aL K H ys ds:=by rw[aL]at h;exact h
theorem RD.cJ{x:V}{ds:List ah}(h:RD K H x (.tuple ds)):∃a xs,x= .ref a/\aY K H a xs/\aL K H xs ds:=by rw[RD]at h;exact h
theorem RD.lst_inv{x:V}{ds:List ah}(h:RD K H x (.list ds)):∃a xs,x= .ref a/\aI K H a xs/\aL K H xs ds:=by rw[RD]at h;exact h
theorem RD.int_inv{x:V}{i:Int}(h:RD K H x (.int i)):x= .int i:=by rw[RD]at h;exact h
theorem RD.a9S{x:V}{i:Bool}(h:RD K H x (.bool i)):x= .bl i:=by rw[RD]at h;exact h
theorem RD.str_inv{x:V}{i:Str}(h:RD K H x (.str i)):x= .str i:=by rw[RD]at h;exact h
theorem RD.Gz{x:V}(h:RD K H x .none):x= .bw:=by rw[RD]at h;exact h
theorem aL.length:∀{xs:List V}{ds:List ah},aL K H xs ds->xs.length=ds.length |xs,[],h=>by rw[h.nil_inv];rfl |xs,d::ds,h=>by obtain⟨y,ys,rfl,_,h2⟩:=h.cons_inv;rw[gp,gp,aL.length h2]
theorem aL.append:∀{xs ys:List V}{ds es:List ah},aL K H xs ds->aL K H ys es->aL K H (xs++ys) (ds++es) |xs,ys,[],es,h,g=>by rw[h.nil_inv];exact g |xs,ys,d::ds,es,h,g=>by obtain⟨y,zs,rfl,h1,h2⟩:=h.cons_inv;exact cF h1 (aL.append h2 g)
theorem aL.take:∀(n:Nat){xs:List V}{ds:List ah},aL K H xs ds->aL K H (xs.take n) (ds.take n) |0,xs,ds,h=>by rw[List.take_zero,List.take_zero];exact dy |n+1,xs,[],h=>by rw[h.nil_inv];exact dy |n+1,xs,d::ds,h=>by obtain⟨y,zs,rfl,h1,h2⟩:=h.cons_inv;exact cF h1 (aL.take n h2)
theorem aL.get:∀(n:Nat){xs:List V}{ds:List ah}{d:ah},aL K H xs ds->ds[n]? =some d->∃x,xs[n]? =some x/\RD K H x d
 |n,xs,[],d,h,e=>by simp at e |0,xs,d'::ds,d,h,e=>by
  obtain⟨y,zs,rfl,h1,h2⟩:=h.cons_inv;have e':d'=d:=by simpa using e
  subst e';exact⟨y,Z,h1⟩ |n+1,xs,d'::ds,d,h,e=>by obtain⟨y,zs,rfl,h1,h2⟩:=h.cons_inv;exact aL.get n h2 (by simpa using e)
theorem aL.get'(n:Nat){xs:List V}{ds:List ah}{x:V}(h:aL K H xs ds)(e:xs[n]? =some x):∃d,ds[n]? =some d/\RD K H x d:=by
 have hl:n<ds.length:=by rw[<-h.length];exact(dw.mp e).1
 obtain⟨y,e1,r⟩:=h.get n (cy hl);rw[e]at e1;cases e1;exact⟨_,cy hl,r⟩
def kL:ah->String | .none=>"NoneType" | .bool _=>"bool" | .int _=>"int" | .str _=>"str" | .list _=>"list" | .tuple _=>"tuple" | .dict _=>"dict"
theorem RD.ty{x:V}:∀{d:ah},RD K H x d->tE K H x (kL d) | .none,h=>by rw[h.Gz];rfl | .bool b,h=>by rw[h.a9S];rfl | .int b,h=>by rw[h.int_inv];rfl | .str b,h=>by rw[h.str_inv];rfl | .list ds,h=>by obtain⟨a,xs,rfl,h1,_⟩:=h.lst_inv;exact .inl ⟨Z,xs,h1⟩ | .tuple ds,h=>by obtain⟨a,xs,rfl,h1,_⟩:=h.cJ;exact .inr ⟨Z,xs,h1⟩ | .dict _,h=>by simp[RD]at h
structure dh(n:Nat)(d:ah):Prop where
 lay:d.canLay0=true
 dep:d.depth<=n
def gF(n:Nat)(ds:List ah):Prop:=∀d∈ds,dh n d
theorem dh.le{n m:Nat}{d:ah}(h:dh n d)(l:n<=m):dh m d:=⟨h.lay,gH h.dep l⟩
theorem uC{n:Nat}:∀{ds:List ah},gF n ds↔(PyData.canLayAll0 ds=true/\PyData.depthAll ds<=n)
 |[]=>⟨λ_=>⟨Z,fC _⟩,λ_ _ h=>nomatch h⟩ |d::ds=>by
  have ih:=uC (n:=n) (ds:=ds);simp only[PyData.canLayAll0,PyData.depthAll,eK];constructor
  ·intro h
   have h1:=h d (.head _);have h2:=ih.mp λx hx=>h x (.tail _ hx);exact⟨⟨h1.lay,h2.1⟩,Nat.max_le.mpr ⟨h1.dep,h2.2⟩⟩
  ·rintro⟨⟨a,b⟩,c⟩ x hx
   have c':=Nat.max_le.mp c;rcases cg.mp hx with rfl|hx
   ·exact⟨a,c'.1⟩
   ·exact ih.mpr ⟨b,c'.2⟩ x hx
theorem gF.tup{n:Nat}{ds:List ah}(h:gF n ds):dh (n+1) (.tuple ds):=⟨by simpa[PyData.canLay0]using(uC.mp h).1,by simpa[PyData.depth]using(uC.mp h).2⟩
theorem gF.lst{n:Nat}{ds:List ah}(h:gF n ds):dh (n+1) (.list ds):=⟨by simpa[PyData.canLay0]using(uC.mp h).1,by simpa[PyData.depth]using(uC.mp h).2⟩
theorem dh.cJ{n:Nat}{ds:List ah}(h:dh (n+1) (.tuple ds)):gF n ds:=uC.mpr ⟨by simpa[PyData.canLay0]using h.lay,by simpa[PyData.depth]using h.dep⟩
theorem dh.int{n:Nat}(i:Int):dh n (.int i):=⟨Z,fC _⟩
theorem dh.bw{n:Nat}:dh n .none:=⟨Z,fC _⟩
theorem gF.nil{n:Nat}:gF n []:=λ_ h=>nomatch h
theorem gF.cons{n:Nat}{d:ah}{ds:List ah}(h:dh n d)(g:gF n ds):gF n (d::ds):=λx hx=>by
 rcases cg.mp hx with rfl|hx
 ·exact h
 ·exact g x hx
theorem dh.shaped{n:Nat}{d:ah}(h:dh n d)(l:n<=64):SeqAt.shaped d=true:=by unfold SeqAt.shaped;rw[h.lay,iA];exact cf (gH h.dep l)
theorem dh.refl{n:Nat}{d:ah}(h:dh n d):PyData.eqv d d=true:=eqv_refl d h.lay
variable {p:Addr}{n m:Nat}{v:V}{vs:List V}{d:ah}{ds es:List ah}
end
section
variable {X:Cx}
end
end _L
namespace _H
open PySem PySem.Spec PyProof.Rows
section
variable {prog:af}{w:World}{A:ai}{E:Value->ae->Prop}{s:ae}
end
end _H
namespace _L
open PySem PySem.Spec PyProof.Rows
section
variable {X:Cx}
end
def fr(H H':Hp):Hp:=λb=>match H b with|none=>H' b|some _=>none
theorem oM{H H':Hp}{b:Addr}{o:HO}:fr H H' b=some o↔H b=none/\H' b=some o:=by unfold fr;cases H b<;>simp
theorem a74{H H':Hp}:aD (fr H H') H':=λb o e=>(oM.mp e).2
theorem IU{H H1 H2:Hp}(s:aD H1 H2):aD (fr H H1) (fr H H2):=λb o e=>oM.mpr ⟨(oM.mp e).1,s _ _ (oM.mp e).2⟩
theorem a75{H H1 H2:Hp}(s:aD H H1):aD (fr H1 H2) (fr H H2):=λb o e=>oM.mpr ⟨s.free (oM.mp e).1,(oM.mp e).2⟩
def zE(K:aa)(d:ah):TE:=λ_ H Q=>∀v H',aD H H'->RD K (fr H H') v d->Q v H'
def WK(K:aa)(ds:List ah):TA:=λ_ H Q=>∀vs H',aD H H'->aL K (fr H H') vs ds->Q vs H'
def xu(f:Expr->Option ah):List Expr->Option (List ah) |[]=>some [] |e::es=>match f e,xu f es with |some d,some ds=>some (d::ds) |_,_=>none
def lit:Nat->Expr->Option ah
 |0,_=>none |_+1,.Constant .none _ _=>some .none |_+1,.Constant (.bool b) _ _=>some (.bool b) |_+1,.Constant (.int i) _ _=>some (.int i) |_+1,.Constant (.str x) _ _=>some (.str x) |n+1,.Tuple es _ _=>match xu (lit n) es with |some ds=>if ds.length<=1000 then some (.tuple ds)else none |none=>none
 |n+1,.List es _=>match xu (lit n) es with |some ds=>if ds.length<=1000 then some (.list ds)else none |none=>none
 |n+1,.UnaryOp .USub a _=>match lit n a with |some (.int i)=>some (.int (-i)) |_=>none
 |n+1,.BinOp a .Pow b _=>match lit n a,lit n b with |some (.int i),some (.int j)=>if 0<=j/\j<=1000000/\i.natAbs<2^64 then some (.int (i^j.toNat))else none |_,_=>none
 |_,_=>none
section
variable {X:Cx}
theorem X5{e:Expr}{es:List Expr}{env:Env}(h:∀a b,e≠ .Starred a b):starEach (e::es) env=(false,eval e env)::starEach es env:=by cases e<;>first|rfl|exact absurd rfl (h _ _)
theorem a3o{n:Nat}{e:Expr}{d:ah}(h:lit n e=some d):∀a b,e≠ .Starred a b:=by intro a b z;subst z;cases n<;>simp[lit]at h
theorem P8(K:aa)(f:Expr->Option ah)(hp:∀e d,f e=some d->∀a b,e≠ .Starred a b)(hf:∀e d,f e=some d->PE X e (zE K d)):∀(es:List Expr)(ds:List ah),xu f es=some ds->PA X es (WK K ds)
 |[],ds,h=>by cases h;intro pos pins s O H Q I hq;exact aw pos pins s O H Q I (hq [] H (aD.refl H) dy) |e::es,ds,h=>by
  rw[xu]at h;split at h
  ·rename_i d Jp e1 e2
   cases h;intro pos pins s O H Q I hq;refine ak (hf e d e1) (P8 K f hp hf es Jp e2) (X5 (hp e d e1)) pos pins s O H Q I ?_;intro v H1 s1 r1 vs H2 s2 r2;exact hq (v::vs) H2 (s1.trans s2) (cF (RD.mono (IU s2) _ r1) (aL.mono (a75 s1) _ r2))
  ·cases h
theorem wY(K:aa)(hK:X.K=K):∀(n:Nat)(e:Expr)(d:ah),lit n e=some d->PE X e (zE K d)
 |0,e,d,h=>by simp[lit]at h |n+1,e,d,h=>by
  have hA:=P8 (X:=X) K (lit n) (λe d h=>a3o h) (λe d h=>wY K hK n e d h);unfold lit at h;split at h
  case h_1=>cases‹Nat.succ n=0›
  case h_2=>cases h;intro pins s O H Q I hq;exact jo pins s O H Q I (hq .bw H (aD.refl H) uh)
  case h_3=>cases h;intro pins s O H Q I hq;exact gK pins s O H Q I (hq (.bl _) H (aD.refl H) (Yq _))
  case h_4=>cases h;intro pins s O H Q I hq;exact aE pins s O H Q I (hq (.int _) H (aD.refl H) (fE _))
  case h_5=>cases h;intro pins s O H Q I hq;exact bo pins s O H Q I (hq (.str _) H (aD.refl H) (bu _))
  case h_6=>
   rename_i m es _ _ hm;cases hm;split at h
   ·rename_i ds e1
    by_cases hl:ds.length<=1000
    ·rw[bc hl]at h
     cases h;intro pins s O H Q I hq;refine gJ (hA es ds e1) pins s O H Q I ?_;intro vs H1 s1 r1;refine⟨by rw[r1.length];exact gH hl ay,λp H' nw=>?_⟩;refine hq _ _ (s1.trans nw.same) (fR (aY.of (oM.mpr ⟨s1.free nw.no,nw.at'⟩)) (aL.mono (IU nw.same) _ r1))
    ·rw[bf hl]at h;cases h
   ·cases h
  case h_7=>
   rename_i m es _ hm;cases hm;split at h
   ·rename_i ds e1
    by_cases hl:ds.length<=1000
    ·rw[bc hl]at h
     cases h;intro pins s O H Q I hq;refine da (hA es ds e1) pins s O H Q I ?_;intro vs H1 s1 r1;refine⟨by rw[r1.length];exact gH hl ay,λp H' nw=>?_⟩;refine hq _ _ (s1.trans nw.same) (wV (aI.of (oM.mpr ⟨s1.free nw.no,nw.at'⟩)) (aL.mono (IU nw.same) _ r1))
    ·rw[bf hl]at h;cases h
   ·cases h
  case h_8=>
   rename_i m a _ hm;cases hm;split at h
   ·rename_i i e1
    cases h;intro pins s O H Q I hq;refine ml lZ (wY K hK n a _ e1) pins s O H Q I ?_;intro v H1 s1 r1;exact⟨i,r1.int_inv,hq _ _ s1 (fE _)⟩
   ·cases h
  case h_9=>
   rename_i m a b _ hm;cases hm;split at h
   ·rename_i i j e1 e2
    by_cases hc:0<=j/\j<=1000000/\i.natAbs<2^64
    ·rw[bc hc]at h
     cases h;intro pins s O H Q I hq;refine aQ Ax (wY K hK n a _ e1) (wY K hK n b _ e2) pins s O H Q I ?_;intro v H1 s1 r1 v2 H2 s2 r2;exact⟨i,j,r1.int_inv,r2.int_inv,hc,hq _ _ (s1.trans s2) (fE _)⟩
    ·rw[bf hc]at h;cases h
   ·cases h
  case h_10=>cases h
end
end _L
namespace _L
theorem cE{α:Type}{xs:List α}{i:Int}{v:α}(h0:0<=i)(h:xs[i.toNat]? =some v):fb xs i=some v:=by have hl:i.toNat<xs.length:=(dw.mp h).1;unfold fb ir;rw[bc h0,bc au];exact h
end _L
namespace _L
open PySem PySem.Spec PyProof.Rows
theorem wD(n:Nat)(h:n<=1000):n<=sizeLine:=gH h ay
structure Uu(X:Cx)(e:Expr)(t:TE):Prop where out:PE X e t
theorem Z8{X:Cx}(K:aa)(hK:X.K=K)(n:Nat)(e:Expr)(d:ah)(h:lit n e=some d):Uu X e (zE K d):=⟨wY K hK n e d h⟩
section
variable {X:Cx}{p pos pos':Pos}{a b e:Expr}{es:List Expr}{ta tb te:TE}{t:TA}{x:Str}
theorem px(K:aa)(ha:PE X a ta)(hb:PE X b tb)(hK:autoParam (X.K=K) r8_._auto_1)(hp:Ur b:=by exact λ_ _=>rfl):PE X (.Subscript a b pos) (u6 (λx y H Q=>FZ K x y H Q\/FY K x y H Q) ta tb):=Gf (ixK K hK) ha hb hp
theorem nZ(K:aa)(B:bB X.mg)(ha:PA X (e::es) t)(hK:autoParam (X.K=K) r8_._auto_1)(hg:autoParam (Gl X "isinstance") r8_._auto_1)(he:autoParam (starEach (e::es) X.env=(false,eval e X.env)::starEach es X.env) r8_._auto_1)(eZ:autoParam ((backTo pos (starEach es X.env)).any (·.1)=false) r8_._auto_1):PE X (.Call (.Name "isinstance" p) (e::es) [] pos) (zG (λxs H Q=>G1 K xs H Q\/G0 K xs H Q) t):=dg (a3S K hK) hg (B.at "isinstance") kh ha ay ay he eZ
theorem fH(K:aa)(B:bB X.mg)(ha:PA X (e::es) t)(hK:autoParam (X.K=K) r8_._auto_1)(hg:autoParam (Gl X "len") r8_._auto_1)(he:autoParam (starEach (e::es) X.env=(false,eval e X.env)::starEach es X.env) r8_._auto_1)(eZ:autoParam ((backTo pos (starEach es X.env)).any (·.1)=false) r8_._auto_1):PE X (.Call (.Name "len" p) (e::es) [] pos) (zG (λxs H Q=>∃p ys,xs=[.ref p]/\(aI K H p ys\/aY K H p ys)/\Q (.int ys.length) H) t):=dg (a3s K hK) hg (B.at "len") PySem.boot_len ha ay ay he eZ
theorem pS(i:Nat)(hN:X.N.Nodup)(he:PE X e te)(hi:autoParam (X.N[i]? =some x) r8_._auto_1)(hx:autoParam (Loc X.env.scope x) z8_._auto_1)(hs:autoParam (swapsWith e (some (.Name x pos')) pos.line X.env=pure false) r8_._auto_1)(hf:autoParam (X.fn x=true\/X.env.scope.names.lookup x=some .local) d8_._auto_1):PS X (.Assign [.Name x pos'] e pos) (wq te (gB i)):=OU hN hi hx he hs hf
theorem bj(i:Nat)(hN:X.N.Nodup)(hi:autoParam (X.N[i]? =some x) r8_._auto_1)(hx:autoParam (Loc X.env.scope x) z8_._auto_1)(hf:autoParam (X.fn x=true\/X.env.scope.names.lookup x=some .local) d8_._auto_1):PG X (.Name x pos) (gB i):=Z4 hN hi hx hf
theorem hJ (a:Str):[a].Nodup:=by simp
theorem kx{a b:Str}(h:(a==b)=false):[a,b].Nodup:=by
 have:a≠b:=λz=>by rw[z,K9]at h;cases h
 simp[this]
theorem ck{n:Nat}(h:Nat.ble n 1000=true):n<=sizeLine:=wD n (V6 h)
end
def GV(mg:bD)(x:Str)(v:V):Prop:=∃u,mg x=some u/\RelV v u
def GT(K:aa)(mg:bD)(x:Str)(vs:List V):Prop:=∃a,GV mg x (.ref a)/\∀H,aY K H a vs
theorem cQ{X:Cx}{x:Str}{v:V}{pos:Pos}(hg:Gl X x)(h:GV X.mg x v)(hd:autoParam ((x==("__debug__":Str))=false) q8_._auto_1):PE X (.Name x pos) (tC v):=by obtain⟨u,hm,r⟩:=h;exact Z9 hg hm r hd
section
variable {K:aa} {mg:bD} {h:Heap}
theorem jw{x:Str}{i:Int}{t:Tok}(X:K.In h)(G:h.Ns mainGlobals mg)(a:PySem.W.nsIn K mainGlobals x=some (some (.int i t))):GV mg x (.int i):=⟨_,tP X G a,t,Z⟩
theorem IJ{x:Str}{vs:List V}{b:Addr}{its:Array Value}{n:Nat}{od:Option Addr}{fz:Array (Option Value)}(X:K.In h)(G:h.Ns mainGlobals mg)(a:PySem.W.nsIn K mainGlobals x=some (some (.ref b))) (l:K.lookup b=some ⟨.type "tuple",od,.seq its n,fz⟩)(hz:its.size<=sizeLine)(r:Vals vs its.toList):GT K mg x vs:=⟨b,⟨_,tP X G a,Z⟩,λH=>.inr ⟨_,its,n,l,Z,Z,hz,r⟩⟩
end
section
variable {X:Cx}
theorem a22(K:aa)(h:X.K=K):cO X (compareOp .NotIn) (OP K true):=by subst h;exact Zz
end
theorem Ts{J:It}{xs:List V}{bs:List Bool}{te:TE}{Q:VK}{D:Addr}{H H0:Hp}(rest:St)(nw:Nw H H0 D (.lst []))(hl:xs.length=bs.length)(hz:xs.length<=1000) (go:∀i x H2,xs[i]? =some x->aD H H2->J.go i H2/\∀y H3,J.jh i H2 y H3->H3=H2/\y=x)(stop:∀H2,aD H H2->J.stop xs.length H2) (hs:∀(i:Nat)(x:V)(b:Bool)(H2:Hp)(Q':VK),xs[i]? =some x->bs[i]? =some b->aD H H2->(∀H3,aD H2 H3->Q' (.bl b) H3)->te (some x::rest) H2 Q') (hq:∀H',aD H H'->H' D=some (.lst (bs.map V.bl))->Q (.ref D) H'):kI J (gB 0) jJ te Q D (none::rest) H0:=by
 have hD:=nw.no;refine vn xs.length (λi O H2=>aD H H2/\H2 D=some (.lst ((bs.take i).map V.bl))/\∃v,O=v::rest) ?_ ?_ ?_
 ·exact⟨nw.same,nw.at',none,Z⟩
 ·rintro i O H2 hi ⟨s2,d2,v,rfl⟩
  have Bo:i<bs.length:=by rw[<-hl];exact hi
  have ex:=cy hi;have eb:=cy Bo;obtain⟨g1,g2⟩:=go i _ H2 ex s2;refine⟨g1,λy H3 hy=>?_⟩;obtain⟨rfl,rfl⟩:=g2 y H3 hy;refine zm ?_;refine hs i _ _ _ _ ex eb s2 λH4 s4=>?_;refine⟨_,s4 _ _ d2,?_,xs.length-(i+1),au,Z,au,λb o e=>?_,?_,_,Z⟩
  ·rw[bM,tR]
   have:(1000:Nat)<sizeLine:=by decide
   lia
  ·rw[aU (fY e hD)];exact s4 b o (s2 b o e)
  ·rw[bW,vP,eb,jG];rfl
 ·rintro O H2 ⟨s2,d2,v,rfl⟩
  refine⟨stop H2 s2,hq H2 s2 ?_⟩;rw[d2,hl,vQ]
theorem BN{K:aa}{a:Addr}{xs:List V}{bs:List Bool}{te:TE}{Q:VK}{D:Addr}{H H0:Hp}(rest:St)(hx:aY K H a xs)(nw:Nw H H0 D (.lst []))(hl:xs.length=bs.length)(hz:xs.length<=1000) (hs:∀(i:Nat)(x:V)(b:Bool)(H2:Hp)(Q':VK),xs[i]? =some x->bs[i]? =some b->aD H H2->(∀H3,aD H2 H3->Q' (.bl b) H3)->te (some x::rest) H2 Q') (hq:∀H',aD H H'->H' D=some (.lst (bs.map V.bl))->Q (.ref D) H'):kI (yK K a) (gB 0) jJ te Q D (none::rest) H0:=Ts rest nw hl hz (λi x H2 e s=>⟨⟨xs,x,hx.go s,e⟩,λy H3 ⟨e3,y3⟩=>⟨e3,by have:=y3 _ (hx.go s);rw[e]at this;exact(dG this).symm⟩⟩) (λH2 s=>⟨xs,hx.go s,bI _⟩) hs hq
theorem AN{ds:List ah}{f:ah->Bool}{i:Nat}{b:Bool}(h:(ds.map f)[i]? =some b):∃d,ds[i]? =some d/\f d=b:=by rw[bR]at h;cases e:ds[i]? with |none=>rw[e]at h;cases h |some d=>rw[e]at h;exact⟨d,Z,dG h⟩
theorem all_map{ds:List ah}{f:ah->Bool}:(ds.map f).all id=ds.all f:=by rw[List.all_map];rfl
section
variable {X:Cx}
inductive acv(K:aa)(x:V)(y:V)(H:Hp)(Q:VK):Prop |mk (a:_)(b:_)(xs:_)(ys:_)(h0:x= .ref a)(h1:y= .ref b)(h2:aI K H a xs)(h3:aI K H b ys)(h4:xs.length+ys.length<=sizeLine)(h5:∀p H',Nw H H' p (.lst (xs++ys))->Q (.ref p) H')
def YK(K:aa):R2:=λx y H Q=>acv K x y H Q
theorem oW(K:aa)(hK:X.K=K):cO X (binaryOp .Add) (YK K):=by
 subst hK;intro pins s O H x y v u Q I rx ry h;obtain⟨a,b,xs,ys,rfl,rfl,ha,hb,hz,q⟩:=h;cases rx;cases ry;obtain⟨its,r1,p1,_⟩:=I.list ha;obtain⟨jQ,r2,p2,_⟩:=I.list hb;obtain⟨⟨cls,dd,data,sl⟩,n,ho,hc,hdd,hd⟩:=id p1;obtain⟨⟨Tw,vk,data2,sl2⟩,n2,mS,gz,adM,hd2⟩:=id p2;simp only at hc hd gz hd2;subst hc hd gz hd2;have e:its.toArray++jQ.toArray=(its++jQ).toArray:=by simp
 refine concat_meets ⟨_,ho,Z⟩ ⟨_,mS,Z⟩ noFill_list_add seq_list_add PySem.F.slot_list_add PySem.F.entry_list_add (PySem.F.args_list_add_2 _ _) (list_addW a b its.toArray jQ.toArray n n2 dd vk sl sl2 (by rw[dP,dP,<-r1.length,<-r2.length];exact hz)) ⟨ho,mS,?_⟩;rw[e];have nw:Nw H (upd H s.heap.objs.size (.lst (xs++ys))) s.heap.objs.size (.lst (xs++ys)):=.of (I.bp.fresh (bI _));refine⟨.ref s.heap.objs.size,_,I.laid (t':=s.toks) (o:=.lst (xs++ys)) (λb ob q=>cw _ q) (bI _) ?_,Z,q _ _ nw⟩;exact⟨by rw[fe];exact hz,_,0,r1.append r2,dH _ Z⟩
open Classical in
noncomputable def sX(h:Heap)(d:ah)(w:Value):Bool:=if q:∃e as,Reads h w e as then PyData.eqv q.choose d else false
theorem a8I{h:Heap}{d e:ah}{w:Value}{as:List Addr}(r:Reads h w e as):sX h d w=PyData.eqv e d:=by have q:∃e as,Reads h w e as:=⟨e,as,r⟩;unfold sX;rw[dif_pos q];obtain⟨as',r'⟩:=q.choose_spec;rw[(Reads.unique r' e as r).1]
theorem Sx{pins:List (Addr×Obj)}{s:ae}{O:St}{H:Hp}(I:Inv X pins O H s)(hu:X.A.units+65<cLine){x:V}{u:Value}{d:ah}(rx:RelV x u)(hd:RD X.K H x d)(sd:SeqAt.shaped d=true): ∀{xs:List V}{us:List Value}{ds:List ah},Vals xs us->aL X.K H xs ds->(∀e∈ds,SeqAt.shaped e=true)->(∀w∈us,SeqAt.EqAt X.A.in1 s w u (sX s.heap d w))/\us.any (sX s.heap d)=ds.any λe=>PyData.eqv e d |xs,us,[],rv,h,_=>by cases h.nil_inv;cases rv;exact⟨λ_ h=>(eT h).elim,Z⟩ |xs,us,e::ds,rv,h,se=>by obtain⟨y,ys,rfl,h1,h2⟩:=h.cons_inv;cases rv with |cons ra rb=>
 rename_i w ws;obtain⟨as,q1⟩:=RD.reads I e ra h1;obtain⟨bs,q2⟩:=RD.reads I d rx hd;have key:SeqAt.EqAt X.A.in1 s w u (PyData.eqv e d):=SeqAt.eqAt_reads e d X.A.in1 s w u as bs q1 q2 (SeqAt.canLay_of_shaped (se e (.head _))) (SeqAt.canLay_of_shaped sd) (SeqAt.room_of_shaped (se e (.head _)) (by show X.A.units+1+64<cLine;omega));obtain⟨k1,k2⟩:=Sx I hu rx hd sd rb h2 (λe' he=>se e' (.tail _ he));have ew:sX s.heap d w=PyData.eqv e d:=a8I q1;refine⟨λz hz=>?_,?_⟩
 ·rcases cg.mp hz with rfl|hz
  ·rw[ew];exact key
  ·exact k1 z hz
 ·rw[vW,vW,ew,k2]
end
end _L
namespace _L
theorem cN.VW{k:Nat}{A:PySem.Around}(r:cN k A):A.units+65<PySem.cLine:=by have:=r.un;lia
end _L
namespace _L
open PySem PySem.Spec PyProof.Rows
def je(b:Bool)(h:Heap)(it l:Addr)(k:Nat):Prop:=match b with|true=>h.IsListIter it l k|false=>h.IsTupleIter it l k
def gh(b:Bool)(h:Heap)(l:Addr)(xs:Array Value):Prop:=match b with|true=>h.IsList l xs|false=>h.IsTuple l xs
def qy(b:Bool):String:=match b with|true=>"list_iterator"|false=>"tuple_iterator"
theorem je.to{b:Bool}{h g:Heap}{it l:Addr}{k:Nat}(x:je b h it l k)(e:∀o,h.get? it=some o->g.get? it=some o):je b g it l k:=by cases b<;>(obtain⟨o,ho,r⟩:=x;exact⟨o,e o ho,r⟩)
theorem gh.to{b:Bool}{h g:Heap}{l:Addr}{xs:Array Value}(x:gh b h l xs)(e:∀o,h.get? l=some o->g.get? l=some o):gh b g l xs:=by cases b<;>(obtain⟨o,ho,r⟩:=x;exact⟨o,e o ho,r⟩)
theorem je.ob{b:Bool}{h:Heap}{it l:Addr}{k:Nat}(x:je b h it l k):∃o,h.get? it=some o/\o.cls= .type (qy b)/\∀v,o.data≠ .cell v:=by cases b<;>(obtain⟨o,ho,c,d⟩:=x;exact⟨o,ho,c,λv z=>by rw[d]at z;cases z⟩)
section
variable {prog:af}{w:World}{A:ai}{E:Value->ae->Prop}{s:ae}
theorem uI{b:Bool}{l:Addr}{xs:Array Value}{Q:Value->ae->Prop}(x:gh b s.heap l xs) (q:Q (.ref s.heap.objs.size) {s with heap:=s.heap.push {cls:=.type (qy b),data:=.fields #[.ref l,.int 0 0]}}):wpAny (model prog w) A (pyIter (.ref l)) Q E s:=by
 cases b
 ·exact wpAny_pyIter_tuple x q
 ·exact yO x q
theorem a1O{it t:Addr}{k:Nat}{ts:Array Value}{x:Value}{Q:Value->ae->Prop}(hi:s.heap.IsTupleIter it t k)(ht:s.heap.IsTuple t ts)(hx:ts[k]? =some x) (q:∀g,g.IsTupleIter it t (k+1)->Heap.SameBut it s.heap g->Q x {s with heap:=g}):wpAny (model prog w) A (Builtin.SmallTypes.nextOf (.ref it)) Q E s:=by obtain⟨oi,j4,ci,di⟩:=id hi;obtain⟨ot,HR,_,nt,dt⟩:=ht;unfold Builtin.SmallTypes.nextOf;refine aK (C9 (name:=Str.ofString "__next__") hi.typeIs Kh (C8 Kh hi.typeIs acU ?_ (acV _)));show wpAny _ _ (field (.ref it) 0>>=_) _ _ s;refine aK (iz j4 di (x:=.ref t) Z ?_);show wpAny _ _ (if(Value.ref t==Value.none)=true then _ else _) _ _ s;rw[bf (show¬((Value.ref t==Value.none)=true)from dQ)];show wpAny _ _ (field (.ref it) 1>>=_) _ _ s;refine aK (iz j4 di (x:=.int k 0) Z ?_);show wpAny _ _ (seqItems? (.ref t)>>=_) _ _ s;refine aK (tK HR dt ?_);simp only[Vi,hx];refine aK (C6 j4 di (by simp) (bT ⟨x,Z,bT (q _ ?_ (Heap.SameBut.update ..))⟩));exact⟨_,KD _ j4 (V3 (Cj di _)),(Obj.cls_mapFields ..).trans ci,by rw[Cj di];simp[rawInt]⟩
theorem a8O{it t:Addr}{k:Nat}{ts:Array Value}{Q:Value->ae->Prop}(hh:A.handled=none)(hi:s.heap.IsTupleIter it t k)(ht:s.heap.IsTuple t ts)(hx:ts[k]? =none) (q:∀g e,Heap.ExtBut it s.heap g->(∃o,g.get? e=some o/\o.cls= .type "StopIteration")->E (.ref e) {s with heap:=g}):wpAny (model prog w) A (Builtin.SmallTypes.nextOf (.ref it)) Q E s:=by
 obtain⟨oi,j4,ci,di⟩:=id hi;obtain⟨ot,HR,_,nt,dt⟩:=ht;unfold Builtin.SmallTypes.nextOf;refine aK (C9 (name:=Str.ofString "__next__") hi.typeIs Kh (C8 Kh hi.typeIs acU ?_ (acV _)));show wpAny _ _ (field (.ref it) 0>>=_) _ _ s;refine aK (iz j4 di (x:=.ref t) Z ?_);show wpAny _ _ (if(Value.ref t==Value.none)=true then _ else _) _ _ s;rw[bf (show¬((Value.ref t==Value.none)=true)from dQ)];show wpAny _ _ (field (.ref it) 1>>=_) _ _ s;refine aK (iz j4 di (x:=.int k 0) Z ?_);show wpAny _ _ (seqItems? (.ref t)>>=_) _ _ s;refine aK (tK HR dt ?_);simp only[Vi,hx];refine aK (wpAny_rule (aK (C6 j4 di (by simp) ?_)));show wpAny _ _ (newExc (.type "StopIteration") []>>=_) _ _ _;refine aK ?_;simp only[newExc,newTuple];refine aK (nC ?_ (by size_fits));refine aK (m:=firstArgMember _ _) (yP (a:=Value.none) (by first|rfl|(simp only[firstArgMember];rfl)) ?_);refine nC ?_ (by size_fits);simp only[raiseNew];refine aK (wpAny_handled ?_)
 first|rw[show A.in1.handled=none from hh]|rw[hh]
 exact aK (bT (wpAny_throw (q _ _ (((Heap.SameBut.update ..).extBut.push _).push _) ⟨_,dH _ Z,Z⟩)))
theorem AE{b:Bool}{it l:Addr}{k:Nat}{xs:Array Value}{x:Value}{Q:Value->ae->Prop}(hi:je b s.heap it l k)(hl:gh b s.heap l xs)(hx:xs[k]? =some x) (q:∀g,je b g it l (k+1)->Heap.SameBut it s.heap g->Q x {s with heap:=g}):wpAny (model prog w) A (Builtin.SmallTypes.nextOf (.ref it)) Q E s:=by
 cases b
 ·exact a1O hi hl hx q
 ·exact wpAny_nextOf_list_item hi hl hx q
theorem Jk{b:Bool}{it l:Addr}{k:Nat}{xs:Array Value}{Q:Value->ae->Prop}(hh:A.handled=none)(hi:je b s.heap it l k)(hl:gh b s.heap l xs)(hx:xs[k]? =none) (q:∀g e,Heap.ExtBut it s.heap g->(∃o,g.get? e=some o/\o.cls= .type "StopIteration")->E (.ref e) {s with heap:=g}):wpAny (model prog w) A (Builtin.SmallTypes.nextOf (.ref it)) Q E s:=by
 cases b
 ·exact a8O hh hi hl hx q
 ·exact wpAny_nextOf_list_end hh hi hl hx q
structure Zp(b1 b2:Bool)(h:Heap)(z TI TO i1 i2 l1 l2:Addr)(f0:Value)(k:Nat):Prop where
 zz:IsZip h z TI TO f0
 ti:IsPair h TI (.ref i1) (.ref i2)
 to:∃a b,IsPair h TO a b
 n1:je b1 h i1 l1 k
 n2:je b2 h i2 l2 k
theorem Pb{z TI TO:Addr}{Q:Bool->ae->Prop}(hz:IsZip s.heap z TI TO .none)(q:Q true s):wpAny (model prog w) A (Builtin.SmallTypes.ownedTupleIsFree (.ref z)) Q E s:=by unfold Builtin.SmallTypes.ownedTupleIsFree;exact aK (iz hz Z (x:=.none) Z (bT q))
theorem Vu{b1 b2:Bool}{z TI TO i1 i2 l1 l2:Addr}{k:Nat}{xs ys:Array Value}{x y:Value}{Q:Value->ae->Prop}(D:ZipApart z TI TO i1 i2 l1 l2)(aed:Zp b1 b2 s.heap z TI TO i1 i2 l1 l2 .none k) (lC:gh b1 s.heap l1 xs)(mU:gh b2 s.heap l2 ys)(hx:xs[k]? =some x)(hy:ys[k]? =some y) (q:∀g,Zp b1 b2 g z TI TO i1 i2 l1 l2 (rawInt s.heap.objs.size) (k+1)->IsPair g s.heap.objs.size x y->(∀c o,c≠z->c≠TO->c≠i1->c≠i2->s.heap.get? c=some o->g.get? c=some o)->Q (.ref s.heap.objs.size) {s with heap:=g}): wpAny (model prog w) A (Builtin.«zip.__next__» ⟨[.ref z],[]⟩) (λr s'=>∃v,r= .done (.ret v)/\Q v s') E s:=by
 obtain⟨hz,kG,⟨a,b,lH⟩,h1,h2⟩:=aed;show wpAny _ _ (field (.ref z) 2>>=_) _ _ _;refine aK (iz hz Z (x:=.bool false) Z ?_);show wpAny _ _ (field (.ref z) 3>>=_) _ _ _;refine aK (iz hz Z (x:=.ref TI) Z (aK (tK kG Z ?_)));show wpAny _ _ (Builtin.SmallTypes.ownedTupleIsFree (.ref z)>>=_) _ _ _;refine aK (Pb hz ?_);simp only[if_true];refine aK (wpAny_rule (aK (iz hz Z (x:=.ref TO) Z (aK (yN hz (by simp) λg1 z1 e1=>?_)))));replace z1:IsZip g1 z TI TO .ellipsis:=z1;refine aK ?_;simp only[List.zipIdx_cons,List.zipIdx_nil,Kv,List.forIn_nil];refine aK (aK (C7 ?_));show wpAny _ _ (Builtin.SmallTypes.nextOf (.ref i1)>>=_) _ _ _;refine aK (AE (h1.to λo e=>e1.extBut _ _ D.i1z e) (lC.to λo e=>e1.extBut _ _ D.l1z e) hx λg2 n1 e2=>bT ?_);have t2:IsPair g2 TO a b:=e2.extBut _ _ D.TOi1 (e1.extBut _ _ D.TOz lH);refine aK (tK t2 Z (aK (UH t2 λg3 t3 e3=>?_)));replace t3:IsPair g3 TO x b:=t3;refine aK (wpAny_letGo (bT ?_));refine aK (aK (C7 ?_));show wpAny _ _ (Builtin.SmallTypes.nextOf (.ref i2)>>=_) _ _ _;refine aK (AE (h2.to λo e=>e3.extBut _ _ D.TOi2.symm (e2.extBut _ _ D.i12.symm (e1.extBut _ _ D.i2z e))) (mU.to λo e=>e3.extBut _ _ D.l2TO (e2.extBut _ _ D.l2i1 (e1.extBut _ _ D.l2z e))) hy λg4 n2 e4=>bT ?_);have t4:IsPair g4 TO x b:=e4.extBut _ _ D.TOi2 t3;refine aK (tK t4 Z (aK (UH t4 λg5 t5 e5=>?_)));replace t5:IsPair g5 TO x y:=t5;refine aK (wpAny_letGo (bT (bT ?_)));refine aK (tK t5 Z (aK (wpAny_newTuple ?_)));have sz:g5.objs.size=s.heap.objs.size:=by rw[e5.1,e4.1,e3.1,e2.1,e1.1]
 have z5:IsZip g5 z TI TO .ellipsis:=e5.extBut _ _ D.TOz.symm (e4.extBut _ _ D.i2z.symm (e3.extBut _ _ D.TOz.symm (e2.extBut _ _ D.i1z.symm z1)));have kp:∀c o,c≠z->c≠TO->c≠i1->c≠i2->s.heap.get? c=some o->g5.get? c=some o:=λc o c1 c2 c3 c4 e=>e5.extBut _ _ c2 (e4.extBut _ _ c4 (e3.extBut _ _ c2 (e2.extBut _ _ c3 (e1.extBut _ _ c1 e))));have m1:je b1 g5 i1 l1 (k+1):=n1.to λo e=>e5.extBut _ _ D.TOi1.symm (e4.extBut _ _ D.i12 (e3.extBut _ _ D.TOi1.symm e));have m2:je b2 g5 i2 l2 (k+1):=n2.to λo e=>e5.extBut _ _ D.TOi2.symm e;have Cz:z<g5.objs.size:=cm z5;show wpAny _ _ (Builtin.SmallTypes.ownedTupleHandOut (.ref z) (.ref g5.objs.size)>>=_) _ _ _;refine aK ?_;unfold Builtin.SmallTypes.ownedTupleHandOut;have z6:IsZip (g5.push {cls:=.type "tuple",data:=.seq #[x,y]}) z TI TO .ellipsis:=cw _ z5;refine aK (yN z6 (by simp) λg7 z7 e7=>?_);replace z7:IsZip g7 z TI TO (rawInt g5.objs.size):=z7;refine yN z7 (by simp) λg8 z8 e8=>?_;replace z8:IsZip g8 z TI TO (rawInt g5.objs.size):=z8;have up:∀c o,c≠z->g5.get? c=some o->g8.get? c=some o:=λc o c1 e=>e8.extBut _ _ c1 (e7.extBut _ _ c1 (cw _ e));have t8:IsPair g8 g5.objs.size x y:=e8.extBut _ _ (vO Cz) (e7.extBut _ _ (vO Cz) (dH _ Z));rw[sz]at z8 t8;refine bT ⟨_,Z,?_⟩;show Q (.ref g5.objs.size) _;rw[sz];exact q g8 ⟨z8,up _ _ D.TIz (kp _ _ D.TIz D.TITO D.TIi1 D.TIi2 kG),⟨_,_,up _ _ D.TOz t5⟩,m1.to λo e=>up _ o D.i1z e,m2.to λo e=>up _ o D.i2z e⟩ t8 λc o c1 c2 c3 c4 e=>up c o c1 (kp c o c1 c2 c3 c4 e)
theorem Vv{b1 b2:Bool}{z TI TO i1 i2 l1 l2:Addr}{k:Nat}{xs ys:Array Value}{Q:Fin->ae->Prop}(hh:A.handled=none)(D:ZipApart z TI TO i1 i2 l1 l2)(aed:Zp b1 b2 s.heap z TI TO i1 i2 l1 l2 .none k) (lC:gh b1 s.heap l1 xs)(mU:gh b2 s.heap l2 ys)(lG:xs[k]? =none\/ys[k]? =none) (q:∀g e,(∀c o,c≠z->c≠TO->c≠i1->c≠i2->s.heap.get? c=some o->g.get? c=some o)->(∃o,g.get? e=some o/\o.cls= .type "StopIteration")->E (.ref e) {s with heap:=g}): wpAny (model prog w) A (Builtin.«zip.__next__» ⟨[.ref z],[]⟩) Q E s:=by obtain⟨hz,kG,⟨a,b,lH⟩,h1,h2⟩:=aed;show wpAny _ _ (field (.ref z) 2>>=_) _ _ _;refine aK (iz hz Z (x:=.bool false) Z ?_);show wpAny _ _ (field (.ref z) 3>>=_) _ _ _;refine aK (iz hz Z (x:=.ref TI) Z (aK (tK kG Z ?_)));show wpAny _ _ (Builtin.SmallTypes.ownedTupleIsFree (.ref z)>>=_) _ _ _;refine aK (Pb hz ?_);simp only[if_true];refine aK (wpAny_rule (aK (iz hz Z (x:=.ref TO) Z (aK (yN hz (by simp) λg1 z1 e1=>?_)))));replace z1:IsZip g1 z TI TO .ellipsis:=z1;refine aK ?_;simp only[List.zipIdx_cons,List.zipIdx_nil,Kv,List.forIn_nil];refine aK (aK (C7 ?_));show wpAny _ _ (Builtin.SmallTypes.nextOf (.ref i1)>>=_) _ _ _;have j1:=h1.to λo e=>e1.extBut _ _ D.i1z e;have k1:=lC.to λo e=>e1.extBut _ _ D.l1z e;cases hx:xs[k]? with
 |none=>
  refine aK (Jk hh j1 k1 hx λg2 er e2 ⟨oe,sI,xR⟩=>?_);have z2:IsZip g2 z TI TO .ellipsis:=e2 _ _ D.i1z.symm z1;have nz:er≠z:=λv=>by subst v;rw[z2]at sI;cases sI;simp at xR
  refine yN z2 (by simp) λg3 _ e3=>q g3 er (λc o c1 _ c3 _ v=>e3.extBut _ _ c1 (e2 _ _ c3 (e1.extBut _ _ c1 v))) ⟨oe,e3.extBut _ _ nz sI,xR⟩ |some x=>
  have hy:ys[k]? =none:=by rcases lG with h|h;rw[hx]at h;cases h;exact h
  refine aK (AE j1 k1 hx λg2 n1 e2=>bT ?_);have t2:IsPair g2 TO a b:=e2.extBut _ _ D.TOi1 (e1.extBut _ _ D.TOz lH);refine aK (tK t2 Z (aK (UH t2 λg3 t3 e3=>?_)));refine aK (wpAny_letGo (bT ?_));refine aK (aK (C7 ?_));show wpAny _ _ (Builtin.SmallTypes.nextOf (.ref i2)>>=_) _ _ _;refine aK (Jk hh (h2.to λo e=>e3.extBut _ _ D.TOi2.symm (e2.extBut _ _ D.i12.symm (e1.extBut _ _ D.i2z e))) (mU.to λo e=>e3.extBut _ _ D.l2TO (e2.extBut _ _ D.l2i1 (e1.extBut _ _ D.l2z e))) hy λg4 er e4 ⟨oe,sI,xR⟩=>?_);have z4:IsZip g4 z TI TO .ellipsis:=e4 _ _ D.i2z.symm (e3.extBut _ _ D.TOz.symm (e2.extBut _ _ D.i1z.symm z1));have nz:er≠z:=λv=>by subst v;rw[z4]at sI;cases sI;simp at xR
  refine yN z4 (by simp) λg5 _ e5=>q g5 er (λc o c1 c2 c3 c4 v=>e5.extBut _ _ c1 (e4 _ _ c4 (e3.extBut _ _ c2 (e2.extBut _ _ c3 (e1.extBut _ _ c1 v))))) ⟨oe,e5.extBut _ _ nz sI,xR⟩
abbrev zk(b1:Bool)(h:Heap)(l1:Addr):Heap:=h.push {cls:=.type (qy b1),data:=.fields #[.ref l1,.int 0 0]}
abbrev zj(b1 b2:Bool)(h:Heap)(l1 l2:Addr):Heap:=(zk b1 h l1).push {cls:=.type (qy b2),data:=.fields #[.ref l2,.int 0 0]}
abbrev zi(b1 b2:Bool)(h:Heap)(l1 l2:Addr):Heap:=(zj b1 b2 h l1 l2).push {cls:=.type "tuple",data:=.seq #[.ref h.objs.size,.ref (zk b1 h l1).objs.size]}
abbrev zh(b1 b2:Bool)(h:Heap)(l1 l2:Addr):Heap:=(zi b1 b2 h l1 l2).push {cls:=.type "tuple",data:=.seq #[.none,.none]}
abbrev tT(b1 b2:Bool)(h:Heap)(l1 l2:Addr):Heap:=(zh b1 b2 h l1 l2).push {cls:=.type "zip",data:=.fields #[.none,.bool false,.bool false,.ref (zj b1 b2 h l1 l2).objs.size,.ref (zi b1 b2 h l1 l2).objs.size]}
theorem Vt(b1 b2:Bool)(l1 l2:Addr)(xs ys:Array Value):Meets (Builtin.«zip.__new__» ⟨[.type "zip",.ref l1,.ref l2],[]⟩) (λ_ R s=>gh b1 s.heap l1 xs/\gh b2 s.heap l2 ys/\R (.ok (.ret (.ref (zh b1 b2 s.heap l1 l2).objs.size))) {s with heap:=tT b1 b2 s.heap l1 l2}):=.of_wp λprog w A R s h=>by
 obtain⟨hp,gg,d,tk,os⟩:=s;obtain⟨lC,mU,h⟩:=h;have Hy:=sub_zip;have hL1:gh b1 (Shared.heap ⟨hp,gg,d,tk,os⟩) l1 xs:=lC;have xZ:gh b2 (Shared.heap ⟨hp.push {cls:=.type (qy b1),data:=.fields #[.ref l1,.int 0 0]},gg,d,tk,os⟩) l2 ys:=mU.to λo e=>cw _ e
 wp_walk using uI hL1,uI xZ;exact⟨_,Z,h⟩
theorem Vw{b1 b2:Bool}{l1 l2:Addr}{xs ys:Array Value}{Q:Value->ae->Prop}(lC:gh b1 s.heap l1 xs)(mU:gh b2 s.heap l2 ys) (q:∀g,Zp b1 b2 g (s.heap.objs.size+4) (s.heap.objs.size+2) (s.heap.objs.size+3) s.heap.objs.size (s.heap.objs.size+1) l1 l2 .none 0->(∀c o,s.heap.get? c=some o->g.get? c=some o)->Q (.ref (s.heap.objs.size+4)) {s with heap:=g}): wpAny (model prog w) A (call (.type "zip") [.ref l1,.ref l2]) Q E s:=by
 refine callType_new PySem.F.called_zip ay (PySem.F.typeCall_zip_2 _ _) (PySem.F.newCall_zip_2 _ _) (λobj=>PySem.F.args_object_init_3 obj _ _) PySem.F.entry_zip_new (Vt b1 b2 l1 l2 xs ys) ⟨lC,mU,?_⟩;have z1:(zk b1 s.heap l1).objs.size=s.heap.objs.size+1:=ph ..;have z2:(zj b1 b2 s.heap l1 l2).objs.size=s.heap.objs.size+2:=by rw[ph,z1]
 have z3:(zi b1 b2 s.heap l1 l2).objs.size=s.heap.objs.size+3:=by rw[ph,z2]
 have z4:(zh b1 b2 s.heap l1 l2).objs.size=s.heap.objs.size+4:=by rw[ph,z3]
 have g5:(tT b1 b2 s.heap l1 l2).get? (zh b1 b2 s.heap l1 l2).objs.size=some _:=dH _ rfl;have g4:(tT b1 b2 s.heap l1 l2).get? (zi b1 b2 s.heap l1 l2).objs.size=some _:=cw _ (dH _ Z);have g3:(tT b1 b2 s.heap l1 l2).get? (zj b1 b2 s.heap l1 l2).objs.size=some _:=cw _ (cw _ (dH _ Z));have g2:(tT b1 b2 s.heap l1 l2).get? (zk b1 s.heap l1).objs.size=some _:=cw _ (cw _ (cw _ (dH _ Z)));have g1:(tT b1 b2 s.heap l1 l2).get? s.heap.objs.size=some _:=cw _ (cw _ (cw _ (cw _ (dH _ Z))));show _/\_;rw[z2,z3,z4]at g5;rw[z1,z2]at g3;rw[z3]at g4;rw[z1]at g2;rw[z4];refine⟨⟨_,g5,Z⟩,q _ ⟨g5,g3,⟨_,_,g4⟩,?_,?_⟩ λc o e=>cw _ (cw _ (cw _ (cw _ (cw _ e))))⟩
 ·cases b1<;>exact⟨_,g1,rfl,rfl⟩
 ·cases b2<;>exact⟨_,g2,rfl,rfl⟩
end
section
variable {X:Cx}{pins:List (Addr×Obj)}{O:St}{H:Hp}{s:ae}{h':Heap}
theorem Inv.wg{t':Nat}{fp:List Addr}(I:Inv X pins O H s)(k:∀b o,b∉fp->s.heap.get? b=some o->h'.get? b=some o)(hf:∀b∈fp,kd X pins H b):Inv X pins O H {s with heap:=h',toks:=t'}:=by
 have xi:∀b u,H b=some u->b∉fp:=λb u e z=>by rw[(hf b z).1]at e;cases e
 have hL:X.env.locals∉fp:=λz=>(hf _ z).2.1 rfl;refine I.step (g':=s.gens) (d':=s.drawn) (ch:=fp) (λb hb=>?_) (λb o _ _ hc e _=>k b o hc e) (λb o _ _ hc e _=>⟨o.slots,k b o hc e⟩) (λ_ _ _ _ n=>n) (λb o hc e=>⟨o,k b o hc e⟩) (λ_ _ e=>e) (λ_ _ _ e=>e) (λb ps e=>⟨#[],by rw[e];simp⟩) (λm hm=>?_) (λb u e=>?_) I.bare
 ·obtain⟨f0,f1,f2,f3,f4,f5⟩:=hf b hb
  exact⟨f3,f1,f4,f5⟩
 ·obtain⟨o,es,ep,ho,r⟩:=hm
  exact⟨o,es,ep,k _ o hL ho,r⟩
 ·refine(I.bp b u e).m6 (λc v hc q=>k c v ?_ q) (λ_ q=>q) λ_ _ q=>q
  rcases hc with z|z
  ·rw[z];exact xi b u e
  ·exact xi c _ z
end
def eD(b:Bool)(K:aa)(H:Hp)(a:Addr)(xs:List V):Prop:=match b with|true=>aI K H a xs|false=>aY K H a xs
theorem eD.get{X:Cx}{pins:List (Addr×Obj)}{O:St}{H:Hp}{s:ae}{b:Bool}{a:Addr}{xs:List V}(I:Inv X pins O H s)(h:eD b X.K H a xs):∃its:List Value,Vals xs its/\gh b s.heap a its.toArray:=by
 cases b
 ·obtain⟨its,r,p,_⟩:=I.tuple h;exact⟨its,r,p⟩
 ·obtain⟨its,r,p,_⟩:=I.list h;exact⟨its,r,p.isList⟩
theorem eD.inj{X:Cx}{pins:List (Addr×Obj)}{O:St}{H:Hp}{s:ae}{b:Bool}{a:Addr}{xs ys:List V}(I:Inv X pins O H s)(h:eD b X.K H a xs)(g:eD b X.K H a ys):xs=ys:=by
 cases b
 ·exact I.KY h g
 ·exact I.Qr h g
def tI(K:aa)(b1 b2:Bool)(l1 l2:Addr):It:=⟨λi H=>∃xs ys x y,eD b1 K H l1 xs/\eD b2 K H l2 ys/\xs[i]? =some x/\ys[i]? =some y,λi H v H'=>∃T x y,v= .ref T/\(∀xs,eD b1 K H l1 xs->xs[i]? =some x)/\(∀ys,eD b2 K H l2 ys->ys[i]? =some y)/\Nw H H' T (.tup [x,y]),λi H=>∃xs ys,eD b1 K H l1 xs/\eD b2 K H l2 ys/\(xs.length<=i\/ys.length<=i)⟩
theorem W5{P:af}{w:World}{K:aa}{elts:List Expr}{kt:Nat}{pos:Pos}{b1 b2:Bool}{z TI TO i1 i2 l1 l2:Addr}(D:ZipApart z TI TO i1 i2 l1 l2): Turn P w K (.Tuple elts kt pos) (tI K b1 b2 l1 l2) [z,TI,TO,i1,i2] z (λi h=>Zp b1 b2 h z TI TO i1 i2 l1 l2 .none i) where
 mem:=by simp
 obj:=λi h st b hb=>by
  obtain⟨hz,kG,⟨a,c,lH⟩,h1,h2⟩:=st;simp only[cg,eT,iT]at hb;rcases hb with rfl|rfl|rfl|rfl|rfl
  ·exact⟨_,hz,λv e=>by cases e⟩
  ·exact⟨_,kG,λv e=>by cases e⟩
  ·exact⟨_,lH,λv e=>by cases e⟩
  ·obtain⟨o,e,_,n⟩:=h1.ob;exact⟨o,e,n⟩
  ·obtain⟨o,e,_,n⟩:=h2.ob;exact⟨o,e,n⟩
 keep:=λi h h' st k=>by obtain⟨hz,kG,⟨a,c,lH⟩,h1,h2⟩:=st;exact⟨k z (by simp) _ hz,k TI (by simp) _ kG,⟨a,c,k TO (by simp) _ lH⟩,h1.to λo e=>k i1 (by simp) o e,h2.to λo e=>k i2 (by simp) o e⟩
 item:=by
  intro X hP hw hK hc i pins s O H E I hf st hg;subst hP hw hK;obtain⟨xs,ys,x,y,q1,q2,e1,e2⟩:=hg;obtain⟨Hl,r1,p1⟩:=q1.get I;obtain⟨jQ,r2,p2⟩:=q2.get I;obtain⟨u1,Hu,kO⟩:=r1.get e1;obtain⟨u2,hu2,wN⟩:=r2.get e2;have hT:s.TypeIs (.ref z) "zip":=⟨_,st.zz,Z⟩;unfold pyNext;refine aK (Ca (C9 (name:=Str.ofString "__next__") hT Kg (C8 Kg hT PySem.F.entry_zip_next (Vu D st p1 p2 (x:=u1) (y:=u2) (by simpa using Hu) (by simpa using hu2) λg zg tg kp=>bT ?_) (PySem.F.args_zip_next_1 _))));refine⟨_,Z,?_⟩;refine wpAny_letOwnedTupleGo_zip zg.zz λg' Vs sb=>?_;have hs:=sb.extBut;have Cz:z<s.heap.objs.size:=cm st.zz;have nw:Nw H (upd H s.heap.objs.size (.tup [x,y])) s.heap.objs.size (.tup [x,y]):=.of (I.bp.fresh (bI _));have I1:Inv X pins O (upd H s.heap.objs.size (.tup [x,y])) {s with heap:=s.heap.push {cls:=.type "tuple",data:=.seq #[u1,u2]}}:=I.laid (t':=s.toks) (λb ob q=>cw _ q) (bI _) ⟨by show 2<=sizeLine;decide,[u1,u2],.cons kO (.cons wN .nil),⟨_,dH _ Z,Z,_,Z⟩⟩;have GX:∀b∈[z,TI,TO,i1,i2],b<s.heap.objs.size:=λb hb=>by
   simp only[cg,eT,iT]at hb;obtain⟨hz,kG,⟨a,c,lH⟩,h1,h2⟩:=st;rcases hb with rfl|rfl|rfl|rfl|rfl
   ·exact cm hz
   ·exact cm kG
   ·exact cm lH
   ·obtain⟨o,e,_⟩:=h1.ob;exact cm e
   ·obtain⟨o,e,_⟩:=h2.ob;exact cm e
  have hn:∀b∈[z,TI,TO,i1,i2],upd H s.heap.objs.size (.tup [x,y]) b=none:=λb hb=>by rw[aU (eR (GX b hb))];exact(hf b hb).1
  have I2:Inv X pins O (upd H s.heap.objs.size (.tup [x,y])) {s with heap:=g'}:=Inv.wg (s:={s with heap:=s.heap.push {cls:=.type "tuple",data:=.seq #[u1,u2]}}) (t':=s.toks) (fp:=[z,TI,TO,i1,i2]) I1 (λb o hb e=>by
   have e:(s.heap.push {cls:=.type "tuple",data:=.seq #[u1,u2]}).get? b=some o:=e;have nz:b≠z:=λq=>hb (by simp[q]);rcases Heap.get?_push_cases e with⟨Im,rfl⟩|e'
   ·subst Im
    exact hs _ _ nz tg
   ·exact hs _ _ nz (kp b o nz (λq=>hb (by simp[q])) (λq=>hb (by simp[q])) (λq=>hb (by simp[q])) e')) (λb hb=>by obtain⟨f0,f1,f2,f3,f4,f5⟩:=hf b hb;exact⟨hn b hb,f1,f2,f3,f4,f5⟩);refine⟨.ref s.heap.objs.size,_,I2,Z,⟨s.heap.objs.size,x,y,Z,λzs hz=>?_,λzs hz=>?_,nw⟩,?_,hn⟩
  ·rw[eD.inj I hz q1];exact e1
  ·rw[eD.inj I hz q2];exact e2
  ·obtain⟨_,kG,⟨a,c,lH⟩,h1,h2⟩:=zg
   exact⟨Vs,hs _ _ D.TIz kG,⟨a,c,hs _ _ D.TOz lH⟩,h1.to λo e=>hs _ o D.i1z e,h2.to λo e=>hs _ o D.i2z e⟩
 done:=by intro X hP hw hK hc i pins s O H E I hf st hg;subst hP hw hK;obtain⟨xs,ys,q1,q2,lG⟩:=hg;obtain⟨Hl,r1,p1⟩:=q1.get I;obtain⟨jQ,r2,p2⟩:=q2.get I;have hT:s.TypeIs (.ref z) "zip":=⟨_,st.zz,Z⟩;have l1:=r1.length;have l2:=r2.length;unfold pyNext;refine aK (Ca (C9 (name:=Str.ofString "__next__") hT Kg (C8 Kg hT PySem.F.entry_zip_next (Vv (I.ok.hd hc) D st p1 p2 (lG.imp (λh=>by simp;lia) λh=>by simp;lia) λg e kp he=>?_) (PySem.F.args_zip_next_1 _))));obtain⟨o,ho,oG⟩:=he;refine aK (wpAny_isInstance (T:="StopIteration") (b:=true) ⟨o,ho,oG⟩ isSubtype_stop (bT ⟨Z,?_⟩));exact I.wg (t':=s.toks) (fp:=[z,TI,TO,i1,i2]) (λb o hb e=>kp b o (λq=>hb (by simp[q])) (λq=>hb (by simp[q])) (λq=>hb (by simp[q])) (λq=>hb (by simp[q])) e) hf
 self:=λ_ _ _ _ _ st h=>wpAny_pyIter_zip st.zz h
inductive acz(K:aa)(b1:Bool)(b2:Bool)(R:It->Hp->Prop)(vs:List V)(H1:Hp):Prop |mk (l1:_)(l2:_)(h0:vs=[.ref l1,.ref l2])(h1:(∃xs,eD b1 K H1 l1 xs))(h2:(∃ys,eD b2 K H1 l2 ys))(h3:R (tI K b1 b2 l1 l2) H1)
def a45(K:aa)(b1 b2:Bool)(ta:TA):TI:=λO H R=>ta O H λvs H1=>acz K b1 b2 R vs H1
theorem rO(K:aa){X:Cx}(hK:X.K=K)(b1 b2:Bool){elts:List Expr}{kt:Nat}{nP:Pos}{a b:Expr}{ta:TA}{p pos:Pos}(hg:Gl X "zip")(hm:X.mg "zip"=none)(ha:PA X [a,b] ta)(hs:autoParam (starEach [a,b] X.env=[(false,eval a X.env),(false,eval b X.env)]) r8_._auto_1)(iu:autoParam (starEach [b] X.env=[(false,eval b X.env)]) r8_._auto_1): PI X (.Tuple elts kt nP) (.Call (.Name "zip" p) [a,b] [] pos) (a45 K b1 b2 ta):=by
 subst hK;intro pins s O H R I h;refine Call_ (oq I hg hm PyProof.Rows.boot_zip (vL (aZ (ha pos pins s O H _ I h) λus s1 ⟨vs,H1,I1,r1,q1⟩=>?_) (by rw[hs,iu]) (by rw[iu];rfl)));obtain⟨l1,l2,e,⟨xs,h1⟩,⟨ys,h2⟩,q⟩:=q1;subst e;obtain⟨u1,u2,rfl,kO,wN⟩:=vals2 r1;cases(show u1=Value.ref l1 from kO);cases(show u2=Value.ref l2 from wN);obtain⟨Hl,v1,p1⟩:=h1.get I1;obtain⟨jQ,v2,p2⟩:=h2.get I1;have a1:l1<s1.heap.objs.size:=by cases b1<;>(obtain⟨o,e,_⟩:=p1;exact cm e)
 have a2:l2<s1.heap.objs.size:=by cases b2<;>(obtain⟨o,e,_⟩:=p2;exact cm e)
 refine Vw p1 p2 λg zg kp=>wpAny_pyIter_zip zg.zz ?_;refine⟨_,_,_,_,H1,Z,I1.kept (t':=s1.toks) kp,W5 (zipApart_new a1 a2),zg,λc hc=>?_,q⟩;have hle:s1.heap.objs.size<=c:=by simp only[cg,eT,iT]at hc;rcases hc with rfl|rfl|rfl|rfl|rfl<;>first|exact bI _|exact Nat.le_add_right _ _
 exact I1.oN hle (I1.bp.fresh hle)
theorem eD.go{b:Bool}{K:aa}{H H':Hp}{a:Addr}{xs:List V}(s:aD H H')(h:eD b K H a xs):eD b K H' a xs:=by
 cases b
 ·exact aY.go s h
 ·exact aI.go s h
theorem a9l{K:aa}{b1 b2:Bool}{l1 l2:Addr}{xs ys:List V}{bs:List Bool}{te:TE}{Q:VK}{D:Addr}{H H0:Hp}{n:Nat}(rest:St)(hn:n=2)(h1:eD b1 K H l1 xs)(h2:eD b2 K H l2 ys)(nw:Nw H H0 D (.lst [])) (hl:min xs.length ys.length=bs.length)(hz:bs.length<=1000) (hs:∀(i:Nat)(x y:V)(b:Bool)(H2:Hp)(Q':VK),xs[i]? =some x->ys[i]? =some y->bs[i]? =some b->aD H H2->(∀H3,aD H2 H3->Q' (.bl b) H3)->te (some x::some y::rest) H2 Q') (hq:∀H',aD H H'->H' D=some (.lst (bs.map V.bl))->Q (.ref D) H'):kI (tI K b1 b2 l1 l2) (Bw K n (ye (gB 0) (ye (gB 1) IQ))) jJ te Q D (none::none::rest) H0:=by
 subst hn;have hD:=nw.no;refine vn bs.length (λi O H2=>aD H H2/\H2 D=some (.lst ((bs.take i).map V.bl))/\∃v v',O=v::v'::rest) ?_ ?_ ?_
 ·exact⟨nw.same,nw.at',none,none,Z⟩
 ·rintro i O H2 hi ⟨s2,d2,v,v',rfl⟩
  have hx:i<xs.length:=by lia
  have hy:i<ys.length:=by lia
  have ex:=cy hx;have ey:=cy hy;have eb:=cy hi;refine⟨⟨xs,ys,_,_,h1.go s2,h2.go s2,ex,ey⟩,λy' H3 sG=>?_⟩;obtain⟨T,x0,y0,rfl,k1,k2,n3⟩:=sG;have e1:=k1 _ (h1.go s2);have e2:=k2 _ (h2.go s2);rw[ex]at e1;rw[ey]at e2;cases e1;cases e2;refine⟨T,_,Z,aY.of n3.at',Z,_,_,Z,_,_,Z,Z,?_⟩;refine yes (bG ?_);refine hs i _ _ _ _ _ ex ey eb (s2.trans n3.same) λH4 s4=>?_;refine⟨_,s4 _ _ (n3.same _ _ d2),?_,bs.length-(i+1),au,Z,au,λb o e=>?_,?_,_,_,Z⟩
  ·rw[bM,tR]
   have:(1000:Nat)<sizeLine:=by decide
   lia
  ·rw[aU (fY e hD)];exact s4 b o (n3.same b o (s2 b o e))
  ·rw[bW,vP,eb,jG];rfl
 ·rintro O H2 ⟨s2,d2,v,v',rfl⟩
  refine⟨⟨xs,ys,h1.go s2,h2.go s2,au⟩,hq H2 s2 ?_⟩;rw[d2,vQ]
theorem gj.there{P:af}{w:World}{H:Hp}{h:Heap}{a:Addr}{o:HO}(x:gj P w H h a o):∃ob,h.get? a=some ob:=by induction o with |lst xs=>obtain⟨_,_,_,_,e⟩:=x;exact⟨_,e⟩ |tup xs=>obtain⟨_,_,_,ob,e,_⟩:=x;exact⟨ob,e⟩ |dK dJ=>obtain⟨_,_,_,_,ob,_,_,e,_⟩:=x;exact⟨ob,e⟩ |dT dJ=>obtain⟨_,_,_,_,ob,_,_,e,_⟩:=x;exact⟨ob,e⟩ |set S n=>obtain⟨ob,_,_,_,e,_⟩:=x;exact⟨ob,e⟩ |ins C dx fs=>obtain⟨_,_,_,e,_⟩:=x;exact⟨_,e⟩ |own y=>exact x |xd fs=>obtain⟨_,⟨ob,_,_,e,_⟩,_⟩:=x;exact⟨ob,e⟩ |rn lo hi=>obtain⟨_,_,_,e⟩:=x;exact⟨_,e⟩ |lL ob u=>exact⟨_,x.1⟩ |nQ ps=>exact⟨_,x⟩ |met f y=>exact⟨_,x⟩ |ext φ=>exact x.2.1
structure Fl(P:af)(w:World)(outer:List Env)(H:Hp)(h₁:Heap)(ex:Addr)(H':Hp)(B h:Heap):Prop where
 un:Un (eu outer) [] H H' h₁ h
 bp:eF P w H' h
 k1:∀b o,h₁.get? b=some o->H b=none->b∉eu outer->B.get? b=some o
 k2:∀b o,H' b=some o->∃ob,B.get? b=some ob
 k3:∀b o,h₁.get? b=some o->b∉eu outer->∃ob,B.get? b=some ob
 fr:∀b∈eu outer,H' b=none
 nw:h₁.get? ex=none
 ne:H' ex=none
theorem Fl.step{P:af}{w:World}{outer:List Env}{H H':Hp}{h₁ B h h':Heap}{ex:Addr}{ao:Heap}(F:Fl P w outer H h₁ ex H' B h)(st:B.StaysIn h)(gs:B.StaysIn h')(up:h.UpToSlots h')(ff:h.FunFrames ao outer):Fl P w outer H h₁ ex H' B h':=by
 have slot:∀b o,h₁.get? b=some o->H b=none->b∈eu outer->∃sl,h'.get? b=some {o with slots:=sl}:=λb o e n hb=>by obtain⟨sl,e1⟩:=F.un.slot b o e n hb (by simp);obtain⟨_,o2,e2,hd⟩:=ff.mem hb;rw[e1]at e2;cases e2;obtain⟨Dz,e3⟩:=up b _ e1 (λvs=>hd vs);exact⟨Dz,e3⟩
 refine⟨⟨λb o e n hb _=>gs b o (F.k1 b o e n hb),λb o e n hb _=>slot b o e n hb,F.un.free,λb o e hx=>?_,F.un.jj,F.un.j7,F.un.jk⟩,λb u e=>?_,F.k1,F.k2,F.k3,F.fr,F.nw,F.ne⟩
 ·by_cases hb:b∈eu outer
  ·obtain⟨_,o2,e2,hd⟩:=ff.mem hb
   obtain⟨sl,e3⟩:=up b o2 e2 hd;exact⟨_,e3⟩
  ·obtain⟨ob,e1⟩:=F.k3 b o e hb
   exact⟨ob,gs b ob e1⟩
 ·refine(F.bp b u e).m6 (λc v hc q=>?_) (λ_ q=>q) λ_ _ q=>q
  have inB:∃ob,B.get? c=some ob:=by
   rcases hc with z|z
   ·rw[z];exact F.k2 b u e
   ·exact F.k2 c _ z
  obtain⟨ob,e1⟩:=inB;have e2:=st c ob e1;rw[q]at e2;cases e2;exact gs c _ e1
section
variable {P:af}{w:World}{K:aa}{mg:bD}{ao:Heap}{N:List Str}{qual:Str}{scope:Scope}{f:Addr}{cd:Value}{A:ai}{outer:List Env}{s:ae}{H:Hp}{E:XK}{pins:List (Addr×Obj)}{O:St}{H1:Hp}{s1:ae}{h2:Heap}{ex:Addr}{cls:Value}{vs:List Value}
end
structure Exc(K:aa)(mg:bD)(x:Str)(C:Addr)(lQ:List Value)(newId:String):Prop where
 at':mg x=some (.ref C)
 ok:PySem.W.excIn K C lQ newId=true
theorem Exc.own{K:aa}{mg:bD}{x:Str}{C:Addr}{lQ:List Value}{newId:String}{h:Heap}(e:Exc K mg x C lQ newId)(X:K.In h):OwnCls x C lQ newId mg h:=by
 refine⟨e.at',?_⟩;have q:=e.ok;unfold PySem.W.excIn at q;split at q
 ·rename_i dd cd sl ho
  split at q
  ·rename_i D2 bl a0 a1 a2 a3 nn a5 hm hs
   simp only[fm,eK,ze]at q;obtain⟨⟨⟨⟨⟨r1,r2⟩,RH⟩,ht⟩,bp⟩,Bk⟩:=q;subst r1 r2;obtain⟨c1,c2,c3,c4,c5,c6,c7,c8,c9,c10,c11⟩:=cd;dsimp only at hm RH bp Bk;subst hm RH;obtain⟨l⟩:=sl;simp only at hs;subst hs;exact⟨bl,c4,c1,c5,c2,c6,c7,c8,c9,c10,dd,a0,a1,a2,a3,a5,_,X _ _ ho,.of_isNs (PySem.W.isNs_of_in X bp),PySem.W.nsMap_none_of_in X bp Bk,PySem.W.tail_of_in X ht⟩
  ·cases q
 ·cases q
section
variable {X:Cx}{x:Str}{C:Addr}{lQ:List Value}{newId Hr B:String}{e:Expr}{t:TA}{np bN pos:Pos}
def Ww(E:XK)(cls:Value)(t:TA):TS:=λ_ O H=>t O H λvs H1=>vs.length<=sizeLine/\E cls none H1
theorem G7{E:XK}(hx:∀pins O H s h2 ex vs,Inv X pins O H s->Heap.MadeExcOf s.heap h2 ex (.ref C) vs->E (.ref C) none H->X.xe (.ref ex) {s with heap:=h2})(EC:Exc X.K X.mg x C lQ newId)(FB:ExcBaseFacts B newId Hr lQ)(hh:X.A.handled=none)(hg:Gl X x)(ha:PA X [e] t) (he:autoParam (starEach [e] X.env=[(false,eval e X.env)]) r8_._auto_1)(hd:autoParam ((x==("__debug__":Str))=false) q8_._auto_1): PS X (.Raise (some (.Call (.Name x np) [e] [] bN)) none pos) (Ww E (.ref C) t):=by intro pins s O H D I h;obtain⟨tl,Nn,nm,q,bs,hdct,sn,sub,ab,col,dd,k0,k1,k2,k3,k5,mN,hC,hN,Bk,T⟩:=(EC.own I.ok.mod.mJ).obj;refine wpAny_Raise_call_subT (C:=C) (nm:=nm) (q:=q) (N:=Nn) (bs:=bs) (bm:=tl) (hdct:=hdct) (sn:=sn) (sub:=sub) (ab:=ab) (col:=col) (dd:=dd) (k0:=k0) (k1:=k1) (k2:=k2) (k3:=k3) (k5:=k5) FB (mN:=mN) (T.hasType FB.hasBase) hh (by rw[he];rfl) Bk (pV I hg EC.at' ⟨Z,?_⟩ hd);have hA:=ha bN pins s O H _ I h;rw[he]at hA⊢;refine Vo (aZ hA λus s2 ⟨vs,H1,I1,r1,z,w1⟩=>⟨Z,by rw[<-r1.length];exact z,I1.bk _ _ hC,hN.keeps I1.bk,T.keeps I1.bk,λh' ex hm=>hx pins O H1 s2 h' ex us I1 hm w1⟩)
end
section
variable {M:Model}{A:ai}{Ex:Value->ae->Prop}
theorem a8E{h:Heap}{g:Array GenState}{d:Drawn}{tk:Nat}{os:OsState}{e:Addr}{oe:Obj}{Q:Bool->ae->Prop}{C D N N':Addr}{nm PK q q':Str}{bs TR bm JD:List Value}{hdct RK:Bool}{sn Md:List Str}{sub Lk:List Value}{ab Uj:Bool}{col Tv:Option Bool}{dd Tj:Option Addr}{k0 k1 k2 k3 k5 j0 j1 j2 j3 j5:Option Value}{newId a2f:String} (hC:h.get? C=some (excClassObj nm q C N bs bm hdct sn sub ab col dd k0 k1 k2 k3 k5 newId))(hD:h.get? D=some (excClassObj PK q' D N' TR JD RK Md Lk Uj Tv Tj j0 j1 j2 j3 j5 a2f)) (he:h.get? e=some oe)(xQ:oe.cls= .ref C)(hb:JD.contains (.type "BaseException")=true)(hs:(Value.ref C::bm).contains (.ref D)=true) (hq:Q true ⟨h,g,d,tk,os⟩):wpAny M A (excMatches (.ref e) (.ref D)) Q Ex ⟨h,g,d,tk,os⟩:=by
 have hcB:(Value.ref D::JD).contains (.type "BaseException")=true:=by rw[List.contains_cons,hb,Bool.or_true]
 have f:=tc_notTuple;unfold excMatches
 repeat (first|(with_reducible refine wpAny_loadPart_at he ?_;rw[xQ])|with_reducible refine wpAny_loadPart_at hD ?_|(with_reducible refine wpAny_isSubtype_exc hD ?_;rw[hcB])|(with_reducible refine wpAny_isSubtype_exc hC ?_;rw[hs])|with_reducible refine wpAny_loadPart_at hC ?_|wp_step)
 exact hq
end
section
variable {X:Cx}{k:Nat}{x:Str}{p pos:Pos}{e:Expr}{es:List Expr}{t:TA}{sp:Sp}
end
abbrev Cx.hand(X:Cx)(ex:Addr):Cx:={X with A:=X.A.mark (some (.ref ex)),calm:=false,xe:=λ_ _=>False}
section
variable {X:Cx}{pins:List (Addr×Obj)}{O:St}{H:Hp}{s:ae}
theorem Inv.hand(I:Inv X pins O H s)(ex:Addr):Inv (X.hand ex) pins O H s:=⟨⟨I.ok.mod,I.ok.kind,I.ok.glob,I.ok.blt,I.ok.above,I.ok.inj,I.ok.has,I.ok.qz,λh=>(dQ h).elim,I.ok.frames,I.ok.qW,I.ok.yk,I.ok.bs,I.ok.jY,I.ok.pP,I.ok.oP,I.ok.iK,I.ok.lM⟩,I.os,I.bare,I.ao,I.loc,I.cell,I.free,I.j9,I.pin,I.bp,I.len⟩
theorem Inv.back{ex:Addr}(ok:X.Ok)(I:Inv (X.hand ex) pins O H s):Inv X pins O H s:=⟨ok,I.os,I.bare,I.ao,I.loc,I.cell,I.free,I.j9,I.pin,I.bp,I.len⟩
theorem VX{M:Model}{A:ai}{E:Value->ae->Prop}{i:Nat}{x:Str}{v:V}{pos:Pos}{Q:Unit->ae->Prop}(I:Inv X pins O H s)(hN:X.N.Nodup)(hi:X.N[i]? =some x)(hk:X.env.kindOf x=some .local)(hs:X.env.scope.names.lookup x=some .local) (hv:O[i]? =some (some v))(h:∀s',Inv X pins (O.set i none) H s'->Q () s'):wpAny M A (unbindBehindTheSuite X.env x pos) Q E s:=by
 obtain⟨m,hn,hl⟩:=id I.loc;have xQ:(X.env.scope.kind== .class||(X.env.scope.kind== .module&&X.env.locals !=X.env.globals))=false:=by rw[I.ok.kind];rfl
 have Bm:i<O.length:=by rw[I.len];exact(dw.mp hi).1
 have lO:=I.lO;obtain⟨u,r,look⟩:=hl i x v hi hv (.inl hs);have hm:m x=some u:=by
  rcases look with⟨_,e⟩|⟨k,_⟩
  ·exact e
  ·rcases k with k|k<;>(rw[hk]at k;cases k)
 unfold unbindBehindTheSuite;refine C7 (wpAny_unbindName_local hk hn hm xQ λh' u' sJ kD=>?_);obtain⟨oL,_,_,Rj,_⟩:=id hn;have tr:eF X.prog X.w H h':=λb ob e=>by
  refine(I.bp b ob e).m6 (λc w' hc q=>(kD.2 c ?_).trans q) (λ_ q=>q) λ_ _ q=>q;rintro rfl;rcases hc with rfl|hc
  ·rw[I.free]at e;cases e
  ·rw[I.free]at hc;cases hc
 have lt:∀b o,X.s₀.heap.get? b=some o->b≠X.env.locals:=λb o e=>eR (fD (cm e) I.ok.above);refine h _ ⟨I.ok,I.os,I.bare,⟨λb o e n hb hx=>(kD.2 b (lt b o e)).trans (I.ao.keep b o e n hb hx),λb o e n hb hx=>?_,I.ao.free,λb o e hx=>?_,I.ao.jj,I.ao.j7,I.ao.jk⟩,⟨_,sJ,λj y v' e1 e2 e3=>?_⟩,λy c e=>?_,I.free,I.j9,λp hp=>?_,tr,by simpa using I.len⟩
 ·obtain⟨sl,e1⟩:=I.ao.slot b o e n hb hx
  exact⟨sl,(kD.2 b (lt b o e)).trans e1⟩
 ·obtain⟨o',e1⟩:=I.ao.there b o e hx
  exact⟨o',(kD.2 b (lt b o e)).trans e1⟩
 ·by_cases hj:j=i
  ·subst hj
   rw[Ku Bm]at e2;cases e2
  ·rw[Vd (iV hj)]at e2
   obtain⟨u2,r2,q⟩:=hl j y v' e1 e2 e3;refine⟨u2,r2,?_⟩;rcases q with⟨k,e⟩|⟨k,c,e,z⟩
   ·have:y≠x:=λe=>hj (GB hN e1 (e▸hi))
    exact .inl ⟨k,by simp[this,e]⟩
   ·exact .inr ⟨k,c,e,z.sameBut kD (lO y c e)⟩
 ·obtain⟨w',z⟩:=I.cell y c e
  exact⟨w',z.sameBut kD (lO y c e)⟩
 ·obtain⟨e,n,ne,nf,d⟩:=I.pin p hp
  exact⟨(kD.2 p.1 ne).trans e,n,ne,nf,d⟩
end
def vz(X:Cx)(st:List Stmt)(t:TS):Prop:=∀(s:ae)(O:St)(H:Hp)(D:Ends),Inv X [] O H s->t D O H->wpAny (model X.prog X.w) X.A (execs st X.env) (SP X [] D) X.xe s
def Ut(X:Cx)(st:Stmt)(t:TS):Prop:=∀(s:ae)(O:St)(H:Hp)(D:Ends),Inv X [] O H s->t D O H->wpAny (model X.prog X.w) X.A (exec st X.env) (SP X [] D) X.xe s
theorem vz.one{X:Cx}{st:Stmt}{t:TS}(h:Ut X st t):vz X [st] t:=by intro s O H D I q;refine wpAny_execs_cons (aZ (h s O H D I q) λf s1 q=>?_);cases f with |next=>exact yQ q |ret v=>exact q |brk=>exact q |cont=>exact q
theorem Inv.a9X{X:Cx}{pins:List (Addr×Obj)}{O:St}{H:Hp}{s:ae}(I:Inv X pins O H s):Inv X [] O H s:=⟨I.ok,I.os,I.bare,I.ao,I.loc,I.cell,I.free,I.j9,λp hp=>I.pin p (Kq _ (by simpa using hp)),I.bp,I.len⟩
theorem a79{CX:iR}{P:af}{w:World}{K:aa}{mg:bD}{ao:Heap}{k:Nat}{f:Addr}{name qual:Str}{params:Arguments}{body:List Stmt}{scope:Scope}{dV kV doc pm aH ct oc:Value}{an od:Option Addr} {fz:Array (Option Value)}{N ps:List Str}{sp:Sp}(lk:K.lookup f=some ⟨oc,od,.func (PySem.W.fnOf name qual params body scope dV kV doc pm an aH ct),fz⟩)(fo:PySem.W.codeIn K aH qual=true)(S:aW N ps scope) (len:∀vs H Q E,sp vs H Q E->vs.length=ps.length) (fO:∀(A:ai)(outer:List Env)(s:ae)(H:Hp)(vs:List V)(Q:VK)(E:XK),cN k (A.deeper (envOfC qual scope s.heap.objs.size f aH))->sp vs H Q E->∃t,vz (gC CX P w K mg ao N qual scope f aH A outer s H E) body t/\t {nx:=λ_ H'=>Q .bw H',rt:=Q} (start N vs) H): eG P w K mg ao CX (k+1) f (PySem.W.fnOf name qual params body scope dV kV doc pm an aH ct) ps sp:=by
 refine⟨len,λA outer s H args us vs Q E hr e0 hb r fi=>?_⟩;have hl:=len _ _ _ _ fi;have KX:K.In s.heap:=e0.mod.mJ.keeps λb o e=>(e0.bs b o e).1;have lim:s.heap.NoLimit:=e0.mod.nolimit.keeps λb o e=>(e0.bs b o e).1;have lD:∀y∈ps.zip us,scope.names.lookup y.1=some .local\/(scope.names.lookup y.1=some .cell/\((cellsFrom (s.heap.objs.size+1) scope.names []).lookup y.1).isSome=true):=λ⟨n,v⟩ hy=>by
  rcases S.par n (vR hy).1 with q|q
  ·exact .inl q
  ·exact .inr ⟨q,Kf _ _ _ (.inl q)⟩
 refine UM hr.depth (KX _ _ lk) Z S.co S.gen Z (US KX fo) (hb _ _ _ _ ?_);refine UJ S.kind lD λenv he s1 x=>?_;subst he;refine⟨lim.keeps x.toInCall.keep,codeAny_func ?_⟩;obtain⟨t,ht,hq⟩:=fO A outer s H vs Q E (hr.deeper _) fi;have I:Inv (gC CX P w K mg ao N qual scope f aH A outer s H E) [] (start N vs) H s1:=Ho S hr.hd e0 hl r x;refine iS (ht s1 (start N vs) H _ I hq) (λfl s' hs=>?_) λe s' hs=>hs;have fin:∀{σ':St}{H':Hp}{v:V}{u:Value},Inv (gC CX P w K mg ao N qual scope f aH A outer s H E) [] σ' H' s'->RelV v u->Q v H'->CE outer P w H s Q u s':=λ{σ' H' v u} J rv q=>⟨v,H',J.os,J.bare,J.ao,J.bp,rv,q⟩;cases fl with |ret u=>obtain⟨v,σ',H',J,rv,q⟩:=hs;exact fin J rv q |next=>obtain⟨σ',H',J,q⟩:=hs;exact fin (v:=V.bw) (u:=Value.none) J Z q |brk=>obtain⟨_,_,_,q⟩:=hs;exact False.elim q |cont=>obtain⟨_,_,_,q⟩:=hs;exact False.elim q
def ExcAt(ex:Addr)(cls:Value)(h:Heap):Prop:=∃o,h.get? ex=some o/\o.cls=cls
def takes(K:aa)(C D:Addr):Prop:=PySem.W.mroIn K C (.ref D)=some true
section
variable {X:Cx}{i:Nat}{n y:Str}{Dc:Addr}{JC:List Value}{newD:String}{body zI:List Stmt}{b0:Stmt}{np uS pos:Pos}{tb:XK->TS}{th:TS}{Cs:Addr->Prop}
end
end _L
namespace _L
open PySem PySem.Spec PyProof.Rows PySem.W Builtin.Getset_descriptor
section
variable {prog:af}{w:World}{A:ai}{E:Value->ae->Prop}{h:Heap}{g:Array GenState}{d:Drawn}{t:Nat}{os:OsState}{K:Frag}{x C:Addr}{o:Obj}
theorem Ss{M:Model}(h1:h.get? x=some o)(h2:o.cls= .ref C):Looks M h (typeOf (.ref x)) (.ref C):=h2▸(Looks.ld h1).andThen .now
structure kf(K:Frag)(C:Addr):Prop where
 ga:findIn K (.ref C) "__getattribute__"=some (some (.builtin "BaseException.__getattribute__"))
 gx:findIn K (.ref C) "__getattr__"=some none
 cl:findIn K (.ref C) "__class__"=some (some (.builtin "object.__class__"))
 gt:specialIn K (.builtin "object.__class__") "__get__"=some (some (.builtin "getset_descriptor.__get__"))
 tk:takesIn K (.builtin "object.__class__")=some true
 ob:mroIn K C (.type "object")=some true
 be:mroIn K C (.type "BaseException")=some true
 is:hasDictIn K C=true
theorem a3k{M:Model}(X:K.In h)(k:kf K C):Looks M h (Builtin.ObjectAttr.find (.ref x) (.ref C) "__class__") (.bind (.builtin "getset_descriptor.__get__") (.builtin "object.__class__")):=by have L1:=Cb (M:=M) X k.cl;have _L:Looks M h (Builtin.ObjectAttr.getOf (some (.builtin "object.__class__"))) (some (.builtin "getset_descriptor.__get__")):=looks_specialIn X k.gt;have L3:=looks_takesIn (M:=M) X k.tk;unfold Builtin.ObjectAttr.find;refine L1.andThen (_L.andThen ?_);have L4:Looks M h (Builtin.ObjectAttr.dataDescriptor? (some (.builtin "object.__class__")) (some (.builtin "getset_descriptor.__get__"))) (some (.builtin "getset_descriptor.__get__",.builtin "object.__class__")):=L3.andThen .now;exact L4.andThen (Looks.tag .now)
theorem S9{M:Model}{PX:Value}{Q:Unit->ae->Prop}(X:K.In h)(k:kf K C)(L0:Looks M h (typeOf (.ref x)) (.ref C))(hq:Q () ⟨h,g,d,t,os⟩): wpAny M A (checkBuiltinCall "BaseException.__getattribute__" ⟨[.ref x,PX],[]⟩) Q E ⟨h,g,d,t,os⟩:=by
 have hk:builtinKind "BaseException.__getattribute__"=some .slot:=by decide+kernel
 have fi:splitId "BaseException.__getattribute__"=some ("BaseException","__getattribute__"):=by decide+kernel
 have ha:=PySem.F.args_bexc_ga (.ref x) PX;have L1:=looks_mroIn (M:=M) X k.be;simp only[checkBuiltinCall,hk,fi];refine aK ?_;unfold isInstance;refine aK (L0.at (L1.at ?_))
 repeat (first|assumption|wp_step)
theorem get_cls{R:Result->ae->Prop}{tp:Value}(X:K.In h)(k:kf K C)(L0:Looks (model prog w) h (typeOf (.ref x)) (.ref C))(hq:R (.ok (.ret (.ref C))) ⟨h,g,d,t,os⟩): codeAny (model prog w) A (.call (.builtin "getset_descriptor.__get__") ⟨[.builtin "object.__class__",.ref x,tp],[]⟩) R ⟨h,g,d,t,os⟩:=by
 have L1:=looks_mroIn (M:=model prog w) X k.ob;refine K7 KF.slot_gs.plain KF.entry_gs (KF.slot_gs.check _ _ _ _ _ _ _ _ KF.type_class (KF.args_gs _ _ _) ?_);unfold Builtin.«getset_descriptor.__get__»descrGet;rw[dga_obj];refine aK (bT ?_);unfold descrGetter descrCheckInstance descrNameAndClass isInstance;simp only[KF.owner_class];repeat lk
 refine⟨Code.quiet_builtin _ aF,K8 KF.entry_class ?_⟩;unfold Builtin.«object.__class__»shownTypeOf;repeat lk
 exact hq
theorem a6K{tk:Tok}{Q:Fin->ae->Prop}(X:K.In h)(k:kf K C)(L0:Looks (model prog w) h (typeOf (.ref x)) (.ref C)) (hq:Q (.done (.ret (.ref C))) ⟨h,g,d,t,os⟩):wpAny (model prog w) A (Builtin.«object.__getattribute__» ⟨[.ref x,.str "__class__" tk],[]⟩) Q E ⟨h,g,d,t,os⟩:=by have L1:=a3k (M:=model prog w) (x:=x) X k;refine aK (bT (aK (bT (aK (L0.at (aK (L1.at ?_)))))));show wpAny _ _ (Builtin.ObjectAttr.bindTo _ _ (.ref x) (.ref C)) _ _ _;unfold Builtin.ObjectAttr.bindTo;show wpAny _ _ (holding [_] (call (.builtin "getset_descriptor.__get__") [.builtin "object.__class__",.ref x,.ref C])>>=_) _ _ _;exact aK (jE (vI (get_cls X k L0 (bT hq))))
theorem a9t{Q:Option Value->ae->Prop}(X:K.In h)(k:kf K C)(L0:Looks (model prog w) h (typeOf (.ref x)) (.ref C)) (hq:Q (some (.ref C)) ⟨h,g,d,t+1,os⟩):wpAny (model prog w) A (getAttr? (.ref x) "__class__") Q E ⟨h,g,d,t,os⟩:=by
 have L1:=Cb (M:=model prog w) X k.ga;have _L:=Cb (M:=model prog w) X k.gx;have f3:=Kj.ga.bind (.ref x);have pX:(Value.builtin "BaseException.__getattribute__"==Value.builtin "object.__getattribute__")=false:=by decide+kernel
 unfold getAttr? getAttrBy? getAttrBy;refine aK (wpAny_mkText (aK (Ca (jE (aK (L0.at (aK (L1.at ?_))))))));show wpAny _ _ (if(onTheHeap (Value.ref C)&&Value.builtin "BaseException.__getattribute__"==Value.builtin "object.__getattribute__")=true then _ else _) _ _ _;rw[pX,Cy,bf ay];unfold getAttrByItsOwn hookBefore;refine aK ?_;show wpAny _ _ (typeLookup (.ref C) "__getattr__") _ _ _;refine _L.at (aK (Ca (jE ?_)));unfold callGetattribute;show wpAny _ _ (boundAndCalled _ _ _) _ _ _;unfold boundAndCalled;rw[f3];refine aK (bT (vI ?_));refine K7 Kj.ga.plain PySem.F.entry_bexc_ga (S9 X k L0 (a6K X k L0 ?_));exact handed_on Z (bT hq)
theorem QB(k:kf K C):KitX K (.ref x) (.ref C) (ExcAt x (.ref C)) where
 ty:=λM h _ p=>by obtain⟨o,h1,h2⟩:=p;exact Ss h1 h2
 it:=λ_ _ X _=>by
  obtain⟨cd,hc,_⟩:=any_some k.is;unfold clsIn at hc;split at hc
  ·rename_i c1 d1 cd1 sl1 ho
   intro A' Q' E' s' kk q;unfold isType loadHead;exact aK (wpAny_loadPart (kk _ _ (X _ _ ho)) (bT q))
  ·cases hc
 ne:=λh tp dd its n sl X htp=>by
  obtain⟨cd,hc,_⟩:=any_some k.is;refine Cw.mpr λq=>?_;have e:C=tp:=Value.ref.inj (fm.mp q);subst e;unfold clsIn at hc;split at hc
  ·rename_i c1 d1 cd1 sl1 ho
   cases(X _ _ ho).symm.trans htp
  ·cases hc
 ca:=λ{prog w A E Q s} X p q=>by obtain⟨o,h1,h2⟩:=p;obtain⟨h0,g0,d0,t0,os0⟩:=s;exact a9t X k (Ss h1 h2) q
end
end _L
namespace _L
open PySem PySem.Spec PyProof.Rows
def a9u:V->Option Value | .ref D=>some (.ref D) | .ty n=>some (.type n) |_=>none
theorem KR:∀{Ds:List Addr}{us:List Value},Vals (Ds.map V.ref) us->us=Ds.map Value.ref |[],_,.nil=>rfl |n::r,_,.cons q t=>by cases(show _=Value.ref n from q);rw[KR t];rfl
section
variable {X:Cx}
end
theorem a9Q:bootBuiltins "ValueError"=some (.type "ValueError"):=by kernel_rfl
@[reducible]def lP:List Value:=[.type "ValueError",.type "Exception",.type "BaseException",.type "object"]
@[reducible]def o9:String:="ValueError.__new__"
theorem FA.RO{P:af}{w:World}{K:aa}{mg:bD}{ao:Heap}{x:Str}{st:Stmt}{N ps:List Str}{k:Nat}{sp:Sp}(F:FA K mg x st)(S:aW N ps (aM st))(len:∀vs H Q E,sp vs H Q E->vs.length=ps.length) (hb:∀(kV doc pm:Value)(an:Option Addr)(aH ct:Value)(us:List Value),us.length=ps.length->bindArgs (PySem.W.fnOf x x (jb st) (fj st) (aM st) .none kV doc pm an aH ct) ⟨us,[]⟩=pure (ps.zip us)) (fO:∀(f:Addr)(aH:Value)(A:ai)(outer:List Env)(s:ae)(H:Hp)(vs:List V)(Q:VK)(E:XK),cN k (A.deeper (envOfC x (aM st) s.heap.objs.size f aH))->sp vs H Q E->∃t,vz (gC ib P w K mg ao N x (aM st) f aH A outer s H E) (fj st) t/\t {nx:=λ_ H'=>Q .bw H',rt:=Q} (start N vs) H):aA P w K mg ao x (k+1) sp:=by obtain⟨f,fd,hm,F⟩:=F.ex;have xS:=F.binds hb;have kp:=F.kp;obtain⟨oc,od,kV,doc,pm,an,aH,ct,fz,rfl,lk,fo⟩:=F.ex;exact⟨f,_,ps,a79 lk fo S len λA outer s H vs Q E hr fi=>fO f aH A outer s H vs Q E hr fi,hm,kp,xS⟩
end _L
namespace _A
theorem a6I(a b:Int):Int.gcd b (a.fmod b)=Int.gcd a b:=by rw[Int.fmod_def,Int.gcd_sub_mul_left_right,Int.gcd_comm]
theorem a6J{a b:Int}(h:0<b):Int.gcd b (a%b)=Int.gcd a b:=by rw[<-Vm a (KA h)];exact a6I a b
def sg(p q:Int):Int:=if q<0 then-(Int.gcd p q:Int)else(Int.gcd p q:Int)
def lowP (p q:Int):Int:=p.fdiv (sg p q)
def fZ (p q:Int):Int:=q.fdiv (sg p q)
theorem IL{p q:Int}(h:q≠0):0<(Int.gcd p q:Int):=by
 have:Int.gcd p q≠0:=λz=>h (Int.gcd_eq_zero_iff.mp z).2
 lia
theorem wG{p q:Int}(h:q≠0):sg p q≠0:=by have:=IL (p:=p) h;unfold sg;split<;>omega
theorem Mj(p q:Int):sg p q∣p:=by
 unfold sg;split
 ·exact Int.neg_dvd.mpr (Int.gcd_dvd_left p q)
 ·exact Int.gcd_dvd_left p q
theorem Mi(p q:Int):sg p q∣q:=by
 unfold sg;split
 ·exact Int.neg_dvd.mpr (Int.gcd_dvd_right p q)
 ·exact Int.gcd_dvd_right p q
theorem Hb(p q:Int):sg p q*lowP p q=p:=by unfold lowP;rw[Int.fdiv_eq_ediv_of_dvd (Mj p q)];exact Int.mul_ediv_cancel' (Mj p q)
theorem AQ(p q:Int):sg p q*fZ p q=q:=by unfold fZ;rw[Int.fdiv_eq_ediv_of_dvd (Mi p q)];exact Int.mul_ediv_cancel' (Mi p q)
theorem Ml(p q:Int):(sg p q).natAbs=Int.gcd p q:=by unfold sg;split<;>lia
theorem a3h{p q:Int}(h:q≠0):Int.gcd (lowP p q) (fZ p q)=1:=by
 have e:Int.gcd (sg p q*lowP p q) (sg p q*fZ p q)=(sg p q).natAbs*Int.gcd (lowP p q) (fZ p q):=Int.gcd_mul_left _ _ _;rw[Hb,AQ,Ml]at e;have g:=IL (p:=p) h;have g':0<Int.gcd p q:=by lia
 have e':Int.gcd p q*1=Int.gcd p q*Int.gcd (lowP p q) (fZ p q):=by lia
 exact(Nat.eq_of_mul_eq_mul_left g' e').symm
theorem a3i{p q:Int}(h:q≠0):0<fZ p q:=by
 have e:=AQ p q;have g:=IL (p:=p) h;by_cases hq:q<0
 ·have es:sg p q=-(Int.gcd p q:Int):=by unfold sg;rw[bc hq]
  rw[es]at e;refine Int.not_le.mp λhl=>?_;have:0<=-(Int.gcd p q:Int)*fZ p q:=Vk au hl
  lia
 ·have es:sg p q=(Int.gcd p q:Int):=by unfold sg;rw[bf hq]
  rw[es]at e;refine Int.not_le.mp λhl=>?_;have:(Int.gcd p q:Int)*fZ p q<=0:=Int.mul_nonpos_of_nonneg_of_nonpos au hl
  lia
theorem Ui{s x y:Int}(hs:s≠0)(e:s*x=y):x.natAbs<=y.natAbs:=by rw[<-e,gU];exact Nat.le_mul_of_pos_left _ au
theorem a3j{p q:Int}(h:q≠0):(lowP p q).natAbs<=p.natAbs:=Ui (wG h) (Hb p q)
theorem Qj{p q:Int}(h:q≠0):(fZ p q).natAbs<=q.natAbs:=Ui (wG h) (AQ p q)
theorem Xp{p q:Int}(h:q≠0):(sg p q).natAbs<=q.natAbs:=by rw[Ml];exact Nat.le_of_dvd au (Int.gcd_dvd_natAbs_right p q)
end _A
namespace _r
open Rat
theorem Ha{a b:Int}(hb:b≠0):_A.lowP a b=(Rat.divInt a b).num/\_A.fZ a b=((Rat.divInt a b).den:Int):=by
 have hp:=_A.a3i (p:=a) hb;have hc:=_A.a3h (p:=a) hb;have a5u:(_A.fZ a b).natAbs≠0:=by lia
 have a5A:(_A.lowP a b).natAbs.Coprime (_A.fZ a b).natAbs:=hc;have e1:Rat.divInt a b=Rat.divInt (_A.lowP a b) (_A.fZ a b):=by have h:=Rat.divInt_mul_left (a:=_A.sg a b) (n:=_A.lowP a b) (d:=_A.fZ a b) (_A.wG hb);rw[_A.Hb,_A.AQ]at h;exact h
 have e2:(⟨_A.lowP a b,(_A.fZ a b).natAbs,a5u,a5A⟩:Rat)=Rat.divInt (_A.lowP a b) (((_A.fZ a b).natAbs:Nat):Int):=Rat.mk_eq_divInt;have e3:(((_A.fZ a b).natAbs:Nat):Int)=_A.fZ a b:=by lia
 rw[e3]at e2;rw[e1,<-e2];exact⟨Z,e3.symm⟩
theorem den_pos(r:Rat):(0:Int)<(r.den:Int):=by have:=r.den_pos;omega
structure Bd(n:Nat)(r:Rat):Prop where
 num:r.num.natAbs<2^n
 den:r.den<2^n
theorem Bd.mono{n m:Nat}{r:Rat}(h:Bd n r)(l:n<=m):Bd m r:=⟨fD h.num (qJ ay l),fD h.den (qJ ay l)⟩
theorem oj{a b n m:Nat}(h:a<2^n)(g:b<2^m):a*b<2^(n+m):=by rw[Nat.pow_add];exact Nat.mul_lt_mul'' h g
theorem jt{n:Nat}{a b:Int}(hb:b≠0)(h1:a.natAbs<2^n)(h2:b.natAbs<2^n):Bd n (Rat.divInt a b):=by
 obtain⟨e1,e2⟩:=Ha (a:=a) hb;have l1:=_A.a3j (p:=a) hb;have l2:=_A.Qj (p:=a) hb;refine⟨?_,?_⟩
 ·rw[<-e1];lia
 ·lia
theorem yt(r s:Rat):(r.den:Int)*(s.den:Int)≠0:=Int.ne_of_gt (jH (den_pos r) (den_pos s))
theorem add_div(r s:Rat):r+s=Rat.divInt (r.num*s.den+s.num*r.den) (r.den*s.den):=by have h:=Rat.divInt_add_divInt r.num s.num (d₁:=r.den) (d₂:=s.den) (by have:=den_pos r;lia) (by have:=den_pos s;lia);rw[tN,tN]at h;exact h
theorem WY(r s:Rat):r-s=Rat.divInt (r.num*s.den-s.num*r.den) (r.den*s.den):=by have h:=UO r.num s.num (d₁:=r.den) (d₂:=s.den) (by have:=den_pos r;lia) (by have:=den_pos s;lia);rw[tN,tN]at h;exact h
theorem mul_div(r s:Rat):r*s=Rat.divInt (r.num*s.num) (r.den*s.den):=by have h:=UP r.num s.num (d₁:=r.den) (d₂:=s.den);rw[tN,tN]at h;exact h
section
variable {n m:Nat} {r s:Rat}
theorem a9g(h:Bd n r)(g:Bd m s):(r.num*s.den).natAbs<2^(n+m):=by rw[gU];exact oj h.num (by have:=g.den;omega)
theorem a9f(h:Bd n r)(g:Bd m s):(s.num*r.den).natAbs<2^(n+m):=by rw[gU,Km];exact oj (by have:=h.den;lia) g.num
theorem Jq(h:Bd n r)(g:Bd m s):((r.den:Int)*(s.den:Int)).natAbs<2^(n+m):=by rw[gU];exact oj (by have:=h.den;lia) (by have:=g.den;lia)
theorem Bd.add(h:Bd n r)(g:Bd m s):Bd (n+m+1) (r+s):=by
 rw[add_div];have h1:=a9g h g;have h2:=a9f h g;have h3:=Jq h g;have e:2^(n+m+1)=2^(n+m)+2^(n+m):=by rw[tQ];omega
 exact jt (yt r s) bC bC
theorem Bd.mul(h:Bd n r)(g:Bd m s):Bd (n+m) (r*s):=by rw[mul_div];exact jt (yt r s) (by rw[gU];exact oj h.num g.num) (Jq h g)
end
end _r
namespace _L
open PySem PySem.Spec PyProof.Rows
def hV(H H':Hp):Prop:=∀b o,(∀xs,o≠ .lst xs)->H b=some o->H' b=some o
section
variable {K:aa} {H H' H2:Hp}
theorem hV.trans(a:hV H H')(b:hV H' H2):hV H H2:=λc o n e=>b c o n (a c o n e)
theorem hV.tW{D:Addr}{xs ys:List V}(h:H D=some (.lst xs)):hV H (upd H D (.lst ys)):=λb o n e=>by rw[aU (xj e h (n xs))];exact e
theorem aY.t{a:Addr}{xs:List V}(s:hV H H')(h:aY K H a xs):aY K H' a xs:=h.imp (λr=>r.imp (s _ _ λ_ z=>nomatch z) λ⟨o,e⟩=>⟨o,s _ _ (λ_ z=>nomatch z) e⟩) id
mutual
def ek:ah->Bool | .list _=>false | .dict _=>false | .tuple ds=>cx ds | .none=>true | .bool _=>true | .int _=>true | .str _=>true
def cx:List ah->Bool |[]=>true |d::ds=>ek d&&cx ds
end
theorem fN:∀{ds:List ah},cx ds=true↔∀d∈ds,ek d=true
 |[]=>⟨λ_ _ h=>(nomatch h),λ_=>by simp[cx]⟩ |d::ds=>by
  rw[cx,eK,fN (ds:=ds)];constructor
  ·rintro⟨a,b⟩ x hx
   rcases cg.mp hx with rfl|hx
   ·exact a
   ·exact b x hx
  ·intro h
   exact⟨h d (.head _),λx hx=>h x (.tail _ hx)⟩
theorem og(ns:List Int):cx (ns.map PyData.int)=true:=fN.mpr λd hd=>by obtain⟨i,_,rfl⟩:=cY.mp hd;simp[ek]
mutual
theorem RD.t(s:hV H H'):∀{x:V}(d:ah),ek d=true->RD K H x d->RD K H' x d |x,.none,_,h=>by simpa[RD]using h |x,.bool b,_,h=>by simpa[RD]using h |x,.int i,_,h=>by simpa[RD]using h |x,.str y,_,h=>by simpa[RD]using h |x,.list ds,n,h=>by simp[ek]at n |x,.tuple ds,n,h=>by rw[RD]at h⊢;obtain⟨a,xs,e,h1,h2⟩:=h;exact⟨a,xs,e,h1.t s,aL.t s ds (by simpa[ek]using n) h2⟩ |x,.dict _,_,h=>by simp[RD]at h
theorem aL.t (s:hV H H'):∀{xs:List V}(ds:List ah),cx ds=true->aL K H xs ds->aL K H' xs ds |xs,[],_,h=>by simpa[aL]using h |xs,d::ds,n,h=>by rw[aL]at h⊢;rw[cx,eK]at n;obtain⟨y,ys,e,h1,h2⟩:=h;exact⟨y,ys,e,RD.t s d n.1 h1,aL.t s ds n.2 h2⟩
end
theorem aL.gP:∀{xs:List V}{ns:List Int},aL K H xs (ns.map PyData.int)->xs=ns.map V.int |xs,[],h=>h.nil_inv |xs,n::ns,h=>by obtain⟨y,ys,rfl,h1,h2⟩:=h.cons_inv;rw[h1.int_inv,aL.gP h2];rfl
theorem wR:∀(ns:List Int),aL K H (ns.map V.int) (ns.map PyData.int) |[]=>dy |n::ns=>cF (fE n) (wR ns)
theorem Tq{J:It}{xs:List V}{ds:List ah}{te:TE}{Q:VK}{D:Addr}{H0:Hp}(rest:St)(nw:Nw H H0 D (.lst []))(hl:xs.length=ds.length)(hz:xs.length<=1000)(hn:cx ds=true) (go:∀i x H2,xs[i]? =some x->aD H H2->J.go i H2/\∀y H3,J.jh i H2 y H3->H3=H2/\y=x)(stop:∀H2,aD H H2->J.stop xs.length H2) (hs:∀(i:Nat)(x:V)(d:ah)(H2:Hp)(Q':VK),xs[i]? =some x->ds[i]? =some d->aD H H2->(∀y H3,aD H2 H3->RD K H3 y d->Q' y H3)->te (some x::rest) H2 Q') (hq:∀H' ys,aD H H'->H' D=some (.lst ys)->aL K H' ys ds->Q (.ref D) H'):kI J (gB 0) jJ te Q D (none::rest) H0:=by
 have hD:=nw.no;refine vn xs.length (λi O H2=>aD H H2/\(∃ys,H2 D=some (.lst ys)/\aL K H2 ys (ds.take i))/\∃v,O=v::rest) ?_ ?_ ?_
 ·exact⟨nw.same,⟨[],nw.at',dy⟩,none,Z⟩
 ·rintro i O H2 hi ⟨s2,⟨ys,d2,r2⟩,v,rfl⟩
  have Bo:i<ds.length:=by rw[<-hl];exact hi
  have ex:=cy hi;have eb:=cy Bo;obtain⟨g1,g2⟩:=go i _ H2 ex s2;refine⟨g1,λy H3 hy=>?_⟩;obtain⟨rfl,rfl⟩:=g2 y H3 hy;refine zm ?_;refine hs i _ _ _ _ ex eb s2 λz H4 s4 r4=>?_;have d4:=s4 _ _ d2;have len:=r2.length;rw[tR]at len;refine⟨ys,d4,?_,xs.length-(i+1),au,Z,au,λb o e=>?_,⟨ys++[z],bW,?_⟩,_,Z⟩
  ·have:(1000:Nat)<sizeLine:=by decide
   lia
  ·rw[aU (fY e hD)];exact s4 b o (s2 b o e)
  ·have t:hV H4 (upd H4 D (.lst (ys++[z]))):=.tW d4
   rw[vP,eb];have n1:cx (ds.take i)=true:=fN.mpr λd hd=>fN.mp hn d (yY hd);exact(aL.t t _ n1 (aL.mono s4 _ r2)).append (cF (RD.t t _ (fN.mp hn _ (vU Bo)) r4) dy)
 ·rintro O H2 ⟨s2,⟨ys,d2,r2⟩,v,rfl⟩
  refine⟨stop H2 s2,hq H2 ys s2 d2 ?_⟩;rw[hl,vQ]at r2;exact r2
theorem t9{a:Addr}{xs:List V}{ds:List ah}{te:TE}{Q:VK}{D:Addr}{H0:Hp}(rest:St)(hx:aY K H a xs)(nw:Nw H H0 D (.lst []))(hl:xs.length=ds.length)(hz:xs.length<=1000)(hn:cx ds=true) (hs:∀(i:Nat)(x:V)(d:ah)(H2:Hp)(Q':VK),xs[i]? =some x->ds[i]? =some d->aD H H2->(∀y H3,aD H2 H3->RD K H3 y d->Q' y H3)->te (some x::rest) H2 Q') (hq:∀H' ys,aD H H'->H' D=some (.lst ys)->aL K H' ys ds->Q (.ref D) H'):kI (yK K a) (gB 0) jJ te Q D (none::rest) H0:=Tq rest nw hl hz hn (λi x H2 e s=>⟨⟨xs,x,hx.go s,e⟩,λy H3 ⟨e3,y3⟩=>⟨e3,by have:=y3 _ (hx.go s);rw[e]at this;exact(dG this).symm⟩⟩) (λH2 s=>⟨xs,hx.go s,bI _⟩) hs hq
theorem qx{a:Addr}{xs:List V}{ds:List ah}{te:TE}{Q:VK}{D:Addr}{H0:Hp}(rest:St)(hx:aI K H a xs)(nw:Nw H H0 D (.lst []))(hl:xs.length=ds.length)(hz:xs.length<=1000)(hn:cx ds=true) (hs:∀(i:Nat)(x:V)(d:ah)(H2:Hp)(Q':VK),xs[i]? =some x->ds[i]? =some d->aD H H2->(∀y H3,aD H2 H3->RD K H3 y d->Q' y H3)->te (some x::rest) H2 Q') (hq:∀H' ys,aD H H'->H' D=some (.lst ys)->aL K H' ys ds->Q (.ref D) H'):kI (vD K a) (gB 0) jJ te Q D (none::rest) H0:=Tq rest nw hl hz hn (λi x H2 e s=>⟨⟨xs,x,hx.go s,e⟩,λy H3 ⟨e3,y3⟩=>⟨e3,by have:=y3 _ (hx.go s);rw[e]at this;exact(dG this).symm⟩⟩) (λH2 s=>⟨xs,hx.go s,bI _⟩) hs hq
theorem BM{b1 b2:Bool}{l1 l2:Addr}{xs ys:List V}{ds:List ah}{te:TE}{Q:VK}{D:Addr}{H0:Hp}{n:Nat}(rest:St)(uT:n=2)(h1:eD b1 K H l1 xs)(h2:eD b2 K H l2 ys)(nw:Nw H H0 D (.lst [])) (hl:min xs.length ys.length=ds.length)(hz:ds.length<=1000)(hn:cx ds=true) (hs:∀(i:Nat)(x y:V)(d:ah)(H2:Hp)(Q':VK),xs[i]? =some x->ys[i]? =some y->ds[i]? =some d->aD H H2->(∀z H3,aD H2 H3->RD K H3 z d->Q' z H3)->te (some x::some y::rest) H2 Q') (hq:∀H' zs,aD H H'->H' D=some (.lst zs)->aL K H' zs ds->Q (.ref D) H'):kI (tI K b1 b2 l1 l2) (Bw K n (ye (gB 0) (ye (gB 1) IQ))) jJ te Q D (none::none::rest) H0:=by
 subst uT;have hD:=nw.no;refine vn ds.length (λi O H2=>aD H H2/\(∃zs,H2 D=some (.lst zs)/\aL K H2 zs (ds.take i))/\∃v v',O=v::v'::rest) ?_ ?_ ?_
 ·exact⟨nw.same,⟨[],nw.at',dy⟩,none,none,Z⟩
 ·rintro i O H2 hi ⟨s2,⟨zs,d2,r2⟩,v,v',rfl⟩
  have hx:i<xs.length:=by lia
  have hy:i<ys.length:=by lia
  have ex:=cy hx;have ey:=cy hy;have eb:=cy hi;refine⟨⟨xs,ys,_,_,h1.go s2,h2.go s2,ex,ey⟩,λy' H3 sG=>?_⟩;obtain⟨T,x0,y0,rfl,k1,k2,n3⟩:=sG;have e1:=k1 _ (h1.go s2);have e2:=k2 _ (h2.go s2);rw[ex]at e1;rw[ey]at e2;cases e1;cases e2;refine⟨T,_,Z,aY.of n3.at',Z,_,_,Z,_,_,Z,Z,?_⟩;refine yes (bG ?_);refine hs i _ _ _ _ _ ex ey eb (s2.trans n3.same) λz H4 s4 r4=>?_;have FG:=n3.same.trans s4;have d4:=FG _ _ d2;have len:=r2.length;rw[tR]at len;refine⟨zs,d4,?_,ds.length-(i+1),au,Z,au,λb o e=>?_,⟨zs++[z],bW,?_⟩,_,_,Z⟩
  ·have:(1000:Nat)<sizeLine:=by decide
   lia
  ·rw[aU (fY e hD)];exact FG b o (s2 b o e)
  ·have t:hV H4 (upd H4 D (.lst (zs++[z]))):=.tW d4
   rw[vP,eb];have n1:cx (ds.take i)=true:=fN.mpr λd hd=>fN.mp hn d (yY hd);exact(aL.t t _ n1 (aL.mono FG _ r2)).append (cF (RD.t t _ (fN.mp hn _ (vU hi)) r4) dy)
 ·rintro O H2 ⟨s2,⟨zs,d2,r2⟩,v,v',rfl⟩
  refine⟨⟨xs,ys,h1.go s2,h2.go s2,au⟩,hq H2 zs s2 d2 ?_⟩;rw[vQ]at r2;exact r2
end
theorem QN:∀{ns:List Int}{us:List Value},Vals (ns.map V.int) us->(∀v∈us,∃a t,v=Value.int a t)/\numsOf us=ns
 |[],_,.nil=>⟨λ_ h=>(nomatch h),rfl⟩ |n::ns,_,.cons q r=>by
  obtain⟨t,rfl⟩:=(show∃t,_=Value.int n t from q);obtain⟨h1,h2⟩:=QN r;refine⟨λv hv=>?_,?_⟩
  ·rcases cg.mp hv with rfl|hv
   ·exact⟨n,t,Z⟩
   ·exact h1 v hv
  ·show n::numsOf _=_
   rw[h2]
section
variable {X:Cx}
theorem a2J(K:aa)(hK:X.K=K)(hc:X.calm=true):dX X (.builtin "max") (λxs H Q=>∃(l:Addr)(ns:List Int),xs=[.ref l]/\aI K H l (ns.map V.int)/\ns≠[]/\∀M,M∈ns->(∀a∈ns,a<=M)->Q (.int M) H):=by
 subst hK;intro pins s O H xs us Q I r h;obtain⟨l,ns,rfl,hl,cI,q⟩:=h;obtain⟨u,rfl,ru⟩:=vals1 r;cases(show u=Value.ref l from ru);obtain⟨its,rv,pl,hz⟩:=I.list hl;obtain⟨a1,a2⟩:=QN rv;have all:AllInts its.toArray:=λv hv=>a1 v (by simpa using hv);obtain⟨ps,Rg⟩:=all.items;have e0:numsOf (intItems ps).toList=ns:=by rw[<-Rg];exact a2
 rw[nums_intItems]at e0;have hlen:ps.size=ns.length:=by rw[<-e0,bM,kJ]
 have uS:0<ps.size:=by rw[hlen];exact Cq.mpr cI
 refine max_intList (I.ok.hd hc) (by rw[<-Rg];exact pl.isList) uS λv h' tk hv hk=>?_;obtain⟨t,rfl⟩:=intItems_at hv;obtain⟨h1,h2⟩:=argBest_gt (numAt ps) (ps.size-1);refine⟨.int _,H,I.kept hk,⟨_,Z⟩,q _ ?_ λa ha=>?_⟩
 ·rw[numAt_eq,e0];exact getD_mem bC
 ·obtain⟨j,hj,rfl⟩:=mem_getD ha
  rw[<-e0,<-numAt_eq];exact h2 j bC
theorem QO{ns:List Int}{us:List Value}(r:Vals (ns.map V.int) us){i:Nat}{v:Value}(h:us[i]? =some v):∃n t,ns[i]? =some n/\v=Value.int n t:=by
 have hl:=r.length;rw[bM]at hl;have hi:i<ns.length:=by rw[hl];exact(dw.mp h).1
 obtain⟨u,e,ru⟩:=r.get (i:=i) (x:=.int ns[i]) (by rw[bR,cy hi];rfl);rw[h]at e;cases e;obtain⟨t,rfl⟩:=(show∃t,v=Value.int ns[i] t from ru);exact⟨_,t,cy hi,Z⟩
theorem Yy(ns:List Int):((List.range ns.length).any λi=>((ns.map (· !=0))[i]?).getD false)=ns.any (· !=0):=by have:=LSm.range_any (ns.map (· !=0));rw[bM]at this;rw[this,List.any_map];rfl
theorem Ud(K:aa)(hK:X.K=K)(hc:X.calm=true):dX X (.builtin "any") (λxs H Q=>∃(l:Addr)(ns:List Int),xs=[.ref l]/\(aI K H l (ns.map V.int)\/aY K H l (ns.map V.int))/\Q (.bl (ns.any (· !=0))) H):=by
 subst hK;intro pins s O H xs us Q I r h;obtain⟨l,ns,rfl,hl,q⟩:=h;obtain⟨u,rfl,ru⟩:=vals1 r;cases(show u=Value.ref l from ru);have hh:=I.ok.hd hc;have fin:∀(its:List Value),Vals (ns.map V.int) its->((List.range its.toArray.size).any λi=>((ns.map (· !=0))[i]?).getD false)=ns.any (· !=0):=λits rv=>by rw[dP,<-rv.length,bM];exact Yy ns
 rcases hl with hl|hl
 ·obtain⟨its,rv,pl,hz⟩:=I.list hl
  have fT:=pl.isList;have cn:l<s.heap.objs.size:=by obtain⟨_,e,_⟩:=fT;exact cm e
  refine call_any_walk (yO fT ?_);refine⟨s.heap.objs.size,[s.heap.objs.size,l],[s.heap.objs.size],its.toArray.size,_,_,λi=>((ns.map (· !=0))[i]?).getD false,Z,Walks.list (A:=X.A.in1) hh _ l (eR cn) its.toArray,⟨⟨_,dH _ Z,Z,Z⟩,fT.push _⟩,λi v s' Q' E' hP hQ=>?_,λh' tk hk=>?_⟩
  ·obtain⟨n,t,e,rfl⟩:=QO rv (i:=i) (v:=v) (by simpa using hP)
   simp only[bR,e]at hQ;exact truthy_int hQ
  ·rw[fin its rv]
   exact⟨.bl _,H,I.kept (LSm.kept_iter hk),Z,q⟩
 ·obtain⟨its,rv,pl,hz⟩:=I.tuple hl
  have fT:s.heap.IsTuple l its.toArray:=by obtain⟨⟨cls,dd,data,sl⟩,ho,jU,n,hd⟩:=pl;exact⟨_,ho,jU,by simpa using⟨n,hd⟩⟩
  have cn:l<s.heap.objs.size:=by obtain⟨_,e,_⟩:=fT;exact cm e
  refine call_any_walk (wpAny_pyIter_tuple fT ?_);refine⟨s.heap.objs.size,[s.heap.objs.size,l],[s.heap.objs.size],its.toArray.size,_,_,λi=>((ns.map (· !=0))[i]?).getD false,Z,Walks.tuple (A:=X.A.in1) hh _ l (eR cn) its.toArray,⟨⟨_,dH _ Z,Z,Z⟩,fT.push _⟩,λi v s' Q' E' hP hQ=>?_,λh' tk hk=>?_⟩
  ·obtain⟨n,t,e,rfl⟩:=QO rv (i:=i) (v:=v) (by simpa using hP)
   simp only[bR,e]at hQ;exact truthy_int hQ
  ·rw[fin its rv]
   exact⟨.bl _,H,I.kept (LSm.kept_iter hk),Z,q⟩
end
end _L
set_option maxHeartbeats 1000000
namespace _b
open PySem PySem.Spec PyProof.Rows _L
def Uv(c m:Int):Prop:=0<=c/\0<=m/\m<2147483648
def fu(H:Hp)(p:Addr):Prop:=∃c m,H p=some (.lst [.int c,.int m])/\Uv c m
structure bP(p:Addr)(H H':Hp):Prop where
 bO:fu H' p
 same:∀b o,b≠p->H b=some o->H' b=some o
theorem bP.refl{p:Addr}{H:Hp}(h:fu H p):bP p H H:=⟨h,λ_ _ _ e=>e⟩
theorem bP.trans{p:Addr}{H H1 H2:Hp}(a:bP p H H1)(b:bP p H1 H2):bP p H H2:=⟨b.bO,λc o n e=>b.same c o n (a.same c o n e)⟩
theorem bP.upd{p:Addr}{H:Hp}{c m:Int}(h:Uv c m):bP p H (_L.upd H p (.lst [.int c,.int m])):=⟨⟨c,m,bW,h⟩,λb o n e=>by rw[aU n];exact e⟩
theorem bP.eg{p:Addr}{H H':Hp}(h:fu H p)(s:aD H H'):bP p H H':=by obtain⟨c,m,e,ok⟩:=h;exact⟨⟨c,m,s _ _ e,ok⟩,λb o _ e=>s b o e⟩
theorem KO{j:Int}(h0:0<=j)(h:j<=10^40):Wd j:=by
 have:j.natAbs<=10^40:=by lia
 exact Ck this aF
theorem fu.ne{H:Hp}{p:Addr}(h:fu H p):H p≠none:=by obtain⟨c,m,e,_⟩:=h;rw[e];exact λz=>nomatch z
theorem fu.a2l{H:Hp}{p:Addr}{q:Addr}{o:HO}(h:fu H p)(e:H q=some o)(n:∀xs,o≠ .lst xs):q≠p:=by obtain⟨c,m,e',_⟩:=h;exact xj e e' (n _)
theorem bP.t{p:Addr}{H H':Hp}(bg:fu H p)(b:bP p H H'):hV H H':=λc o n e=>b.same c o (bg.a2l e n) e
theorem bP.XH{p:Addr}{H0 H H':Hp}(s:aD H0 H)(hp:H0 p=none)(b:bP p H H'):aD H0 H':=λc o e=>b.same c o (fY e hp) (s c o e)
section
variable {K:aa}
theorem Ju{J:It}{te:TE}{Q:VK}{D p:Addr}{H H0:Hp}(n:Nat)(rest:_L.St)(nw:Nw H H0 D (.lst []))(bg:fu H p)(hn:n<=1000)(xv:Nat->V) (go:∀i H2,i<n->bP p H H2->J.go i H2/\∀y H3,J.jh i H2 y H3->H3=H2/\y=xv i)(stop:∀H2,bP p H H2->J.stop n H2)(Pz:Int->Prop) (hs:∀i H2 (Q':VK),i<n->bP p H H2->(∀z H3,Pz z->bP p H2 H3->Q' (.int z) H3)->te (some (xv i)::rest) H2 Q') (hq:∀H' (is:List Int),bP p H H'->H' D=some (.lst (is.map V.int))->is.length=n->(∀z∈is,Pz z)->Q (.ref D) H'):kI J (gB 0) jJ te Q D (none::rest) H0:=by
 have y6:D≠p:=λe=>bg.ne (e▸nw.no);refine vn n (λi O H3=>bP p H H3/\(∃is:List Int,H3 D=some (.lst (is.map V.int))/\is.length=i/\∀z∈is,Pz z)/\∃v,O=v::rest) ?_ ?_ ?_
 ·exact⟨.eg bg nw.same,⟨[],nw.at',Z,λ_ h=>(eT h).elim⟩,none,Z⟩
 ·rintro i O H3 hi ⟨b3,⟨is,d3,li,pi⟩,v,rfl⟩
  obtain⟨g1,g2⟩:=go i H3 hi b3;refine⟨g1,λy H4 hy=>?_⟩;obtain⟨rfl,rfl⟩:=g2 y H4 hy;refine zm ?_;refine hs i _ _ hi b3 λz H5 pz b5=>?_;refine⟨_,b5.same _ _ y6 d3,?_,n-(i+1),au,Z,au,?_,⟨is++[z],?_,?_,?_⟩,_,Z⟩
  ·rw[bM,li]
   have:(1000:Nat)<sizeLine:=by decide
   lia
  ·have qA:=b3.trans b5
   refine⟨?_,λb o n e=>?_⟩
   ·obtain⟨c,m,e,ok⟩:=qA.bO
    exact⟨c,m,by rw[aU y6.symm];exact e,ok⟩
   ·rw[aU (fY e nw.no)];exact qA.same b o n e
  ·rw[bW,jG];rfl
  ·rw[fe,li];rfl
  ·intro y hy
   rcases ki.mp hy with h|h
   ·exact pi y h
   ·rw[cW.mp h];exact pz
 ·rintro O H3 ⟨b3,⟨is,d3,li,pi⟩,v,rfl⟩
  exact⟨stop H3 b3,hq H3 is b3 d3 li pi⟩
theorem B0(ns:List Int){i:Int}(h0:0<=i)(h:i<ns.length):∃z,z∈ns/\fb (ns.map V.int) i=some (.int z):=by
 have hl:i.toNat<ns.length:=by omega
 exact⟨ns[i.toNat],vU hl,cE h0 (by rw[bR,cy hl];rfl)⟩
theorem Jt{J:It}{te:TE}{Q:VK}{D p:Addr}{H H0:Hp}(n:Nat)(rest:_L.St)(nw:Nw H H0 D (.lst []))(bg:fu H p)(hn:n<=1000)(xv:Nat->V) (go:∀i H2,i<n->bP p H H2->J.go i H2/\∀y H3,J.jh i H2 y H3->H3=H2/\y=xv i)(stop:∀H2,bP p H H2->J.stop n H2)(Pd:Nat->ah->Prop) (hs:∀i H2 (Q':VK),i<n->bP p H H2->(∀y d H3,Pd i d->ek d=true->RD K H3 y d->bP p H2 H3->Q' y H3)->te (some (xv i)::rest) H2 Q') (hq:∀H' ys ds,bP p H H'->H' D=some (.lst ys)->aL K H' ys ds->ds.length=n->cx ds=true->(∀i d,ds[i]? =some d->Pd i d)->Q (.ref D) H'):kI J (gB 0) jJ te Q D (none::rest) H0:=by
  have y6:D≠p:=λe=>bg.ne (e▸nw.no);refine vn n (λi O H3=>bP p H H3/\(∃ys ds,H3 D=some (.lst ys)/\aL K H3 ys ds/\ds.length=i/\cx ds=true/\∀j d,ds[j]? =some d->Pd j d)/\∃v,O=v::rest) ?_ ?_ ?_
  ·exact⟨.eg bg nw.same,⟨[],[],nw.at',dy,Z,Z,λj d e=>by simp at e⟩,none,Z⟩
  · rintro i O H3 hi ⟨b3,⟨ys,ds,d3,r3,li,ni,pi⟩,v,rfl⟩
    obtain⟨g1,g2⟩:=go i H3 hi b3;refine⟨g1,λy H4 hy=>?_⟩;obtain⟨rfl,rfl⟩:=g2 y H4 hy;refine zm ?_;refine hs i _ _ hi b3 λz d H5 pz nz rz b5=>?_;have d5:=b5.same _ _ y6 d3;have t:hV H5 (_L.upd H5 D (.lst (ys++[z]))):=.tW d5;refine⟨ys,d5,?_,n-(i+1),au,Z,au,?_,⟨ys++[z],ds++[d],bW,?_,?_,?_,?_⟩,_,Z⟩
    · rw[r3.length,li]
      have:(1000:Nat)<sizeLine:=by decide
      lia
    · have qA:=b3.trans b5
      refine⟨?_,λb o n e=>?_⟩
      · obtain⟨c,m,e,ok⟩:=qA.bO
        exact⟨c,m,by rw[aU y6.symm];exact e,ok⟩
      ·rw[aU (fY e nw.no)];exact qA.same b o n e
    ·exact(aL.t ((bP.t b3.bO b5).trans t) _ ni r3).append (cF (RD.t t _ nz rz) dy)
    ·rw[fe,li];rfl
    ·exact fN.mpr λx hx=>by
        rcases ki.mp hx with h|h
        ·exact fN.mp ni x h
        ·rw[cW.mp h];exact nz
    · intro j e he
      by_cases hj:j<ds.length
      · rw[vV hj]at he
        exact pi j e he
      · have lF:j=ds.length:=by
          have:=(dw.mp he).1;rw[fe]at this;have:j<ds.length+1:=this
          lia
        subst lF;rw[z9 (bI _),Kl]at he;cases he;rw[li];exact pz
  · rintro O H3 ⟨b3,⟨ys,ds,d3,r3,li,ni,pi⟩,v,rfl⟩
    exact⟨stop H3 b3,hq H3 ys ds b3 d3 r3 li ni pi⟩
end
end _b
namespace _l
open PySem _L
def mZ(i:Int):Int:=if i<0 then-i else i
theorem JP(i:Int):mZ i=(i.natAbs:Int):=by unfold mZ;split<;>lia
def aO(ns:List Int):Nat:=ns.foldr (λz m=>max z.natAbs m) 0
theorem He:∀{ns:List Int}{z:Int},z∈ns->z.natAbs<=aO ns
 |n::ns,z,h=>by
  show z.natAbs<=max n.natAbs (aO ns);rcases cg.mp h with rfl|h
  ·exact Nat.le_max_left _ _
  ·exact gH (He h) (Nat.le_max_right _ _)
theorem Hd:∀{ns:List Int},ns≠[]->∃z∈ns,z.natAbs=aO ns
 |[],h=>absurd Z h |[n],_=>⟨n,.head _,by show n.natAbs=max n.natAbs 0;lia⟩ |n::m::ns,_=>by
  obtain⟨z,hz,e⟩:=Hd (ns:=m::ns) (by simp);by_cases h:n.natAbs<=aO (m::ns)
  ·exact⟨z,.tail _ hz,by show _=max n.natAbs (aO (m::ns));lia⟩
  ·exact⟨n,.head _,by show _=max n.natAbs (aO (m::ns));lia⟩
theorem oo{ns:List Int}{m:Nat}(h:∀z∈ns,z.natAbs<=m):aO ns<=m:=by cases ns with |nil=>exact fC _ |cons a r=>obtain⟨z,hz,e⟩:=Hd (ns:=a::r) (by simp);rw[<-e];exact h z hz
theorem a3w{ns:List Int}(h:∃z∈ns,z≠0):0<aO ns:=by
 obtain⟨z,hz,h0⟩:=h;have:=He hz
 lia
theorem a3v{ns:List Int}(cI:ns≠[]){M:Int}(h1:M∈ns.map mZ)(h2:∀a∈ns.map mZ,a<=M):M=(aO ns:Int):=by
 obtain⟨z,hz,e⟩:=cY.mp h1;obtain⟨y,hy,ey⟩:=Hd cI;have a1:=He hz;have a2:=h2 (mZ y) (cY.mpr ⟨y,hy,Z⟩);rw[JP]at e a2
 lia
def iC(p q:Int):Int:=(2*(p.natAbs:Int)+q)/(2*q)
def fX(p q:Int):Int:=if p>=0 then iC p q else-iC p q
structure vB(x p q:Int):Prop where
 lo:-q<=2*(x*q-p)
 hi:2*(x*q-p)<=q
 sW:2*(x*q-p)=q\/2*(x*q-p)=-q->p.natAbs<=(x*q).natAbs
theorem Mf{p q:Int}(hq:0<q):2*q*iC p q<=2*(p.natAbs:Int)+q/\2*(p.natAbs:Int)+q<2*q*iC p q+2*q:=by have h:=Int.mul_ediv_add_emod (2*(p.natAbs:Int)+q) (2*q);have h0:=qP (2*(p.natAbs:Int)+q) (show 2*q≠0 by omega);have h1:=tS (2*(p.natAbs:Int)+q) (show 0<2*q by omega);unfold iC;constructor<;>omega
theorem Mg{p q:Int}(hq:0<q):0<=iC p q:=Int.ediv_nonneg au au
theorem near_is{p q:Int}(hq:0<q):vB (fX p q) p q:=by
 obtain⟨h1,h2⟩:=Mf (p:=p) hq;have h0:=Mg (p:=p) hq;rw[Cv,Cu q]at h1 h2;have hs0:0<=iC p q*q:=kj h0 (KA hq);unfold fX;split
 ·refine⟨?_,?_,λh=>?_⟩<;>(generalize iC p q*q=s at*;omega)
 ·refine⟨?_,?_,?_⟩<;>rw[Int.neg_mul]<;>(generalize iC p q*q=s at*;omega)
theorem xo{x y q:Int}(hq:0<q)(h:x<y):x*q+q<=y*q:=by have:(x+1)*q<=y*q:=Ct au au;rw[Int.add_mul,lX]at this;exact this
theorem a2h{x y p q:Int}(hq:0<q)(a:vB x p q)(b:vB y p q):x=y:=by
 have key:∀{x y:Int},vB x p q->vB y p q->¬x<y:=λ{x y} a b h=>by
  have g:=xo hq h;have e1:=a.lo;have e2:=a.hi;have e3:=b.lo;have e4:=b.hi;have f1:=a.sW;have f2:=b.sW;have hx:x*q=0\/q<=x*q\/x*q<=-q:=by
   rcases Vl x 0 with h|h|h
   ·have:=xo hq h;lia
   ·left;rw[h,Cr]
   ·have:=xo hq h;lia
  have hy:y*q=0\/q<=y*q\/y*q<=-q:=by
   rcases Vl y 0 with h|h|h
   ·have:=xo hq h;lia
   ·left;rw[h,Cr]
   ·have:=xo hq h;lia
  generalize x*q=u at*;generalize y*q=v at*;have hu:=f1 au;have hv:=f2 au
  lia
 rcases Vl x y with h|h|h
 ·exact absurd h (key a b)
 ·exact h
 ·exact absurd h (key b a)
theorem a2j{x p q:Int}(hq:0<q)(a:vB x p q):x=fX p q:=a2h hq a (near_is hq)
theorem PN{p q:Int}(hq:0<q):fX (-p) q=-fX p q:=by obtain⟨a,b,c⟩:=near_is (p:=p) hq;refine(a2j hq ?_).symm;refine⟨?_,?_,?_⟩<;>rw[Int.neg_mul]<;>omega
theorem a2i{p q:Int}(hq:0<q)(hp:0<=p):0<=fX p q:=by unfold fX;rw[bc hp];exact Mg hq
end _l
namespace _L
open PySem PySem.Spec PyProof.Rows
abbrev BF(b:Bool)(h:Heap)(l:Addr):Heap:=h.push {cls:=.type (qy b),data:=.fields #[.ref l,.int 0 0]}
abbrev Jm(b:Bool)(h:Heap)(l:Addr):Heap:=(BF b h l).push {cls:=.type "enumerate",data:=.fields #[.none,.bool false,.ref h.objs.size,rawInt 0,.none,.none]}
theorem a8P(b:Bool)(l:Addr)(xs:Array Value):Meets (Builtin.«enumerate.__new__» ⟨[.type "enumerate",.ref l],[]⟩) (λ_ R s=>gh b s.heap l xs/\R (.ok (.ret (.ref (BF b s.heap l).objs.size))) {s with heap:=Jm b s.heap l}):=.of_wp λprog w A R s h=>by
 obtain⟨hp,gg,d,tk,os⟩:=s;obtain⟨hl,h⟩:=h;have Hy:=sub_enumerate;have hL:gh b (Shared.heap ⟨hp,gg,d,tk,os⟩) l xs:=hl
 wp_walk using uI hL;refine wpAny_stack_any λst=>bT ?_;split
 ·rename_i c _ _ _ _ _
  cases(c==Value.type "enumerate")
  ·wp_walk using uI hL
   exact⟨_,Z,h⟩
  ·wp_walk using uI hL
   exact⟨_,Z,h⟩
 ·wp_walk using uI hL
  exact⟨_,Z,h⟩
section
variable {prog:af}{w:World}{A:ai}{E:Value->ae->Prop}{s:ae}
theorem a8Q{b:Bool}{l:Addr}{xs:Array Value}{Q:Value->ae->Prop}(hl:gh b s.heap l xs) (q:∀g,IsEnum g (s.heap.objs.size+1) s.heap.objs.size 0 .none->je b g s.heap.objs.size l 0->(∀c o,s.heap.get? c=some o->g.get? c=some o)->Q (.ref (s.heap.objs.size+1)) {s with heap:=g}): wpAny (model prog w) A (call (.type "enumerate") [.ref l]) Q E s:=by refine callType_new PySem.F.called_enumerate ay (PySem.F.typeCall_enumerate_1 _) (PySem.F.newCall_enumerate_1 _) (λobj=>PySem.F.args_object_init_2 obj _) PySem.F.entry_enumerate_new (a8P b l xs) ⟨hl,?_⟩;have z1:(BF b s.heap l).objs.size=s.heap.objs.size+1:=ph ..;have g2:(Jm b s.heap l).get? (BF b s.heap l).objs.size=some _:=dH _ rfl;have g1:(Jm b s.heap l).get? s.heap.objs.size=some _:=cw _ (dH _ Z);show _/\_;rw[z1]at g2⊢;refine⟨⟨_,g2,Z⟩,q _ g2 ?_ λc o e=>cw _ (cw _ e)⟩;cases b<;>exact⟨_,g1,rfl,rfl⟩
theorem SH{b:Bool}{it l:Addr}{xs:Array Value}(hh:A.handled=none)(ne:l≠it):Draws prog w A it [it,l] xs.size (λi x=>xs[i]? =some x) (λi h=>je b h it l i/\gh b h l xs) where
 live:=λi h st=>by obtain⟨o,e,_⟩:=st.1.ob;exact⟨o,e⟩
 frame:=λi h h' st k=>⟨st.1.to λo e=>k it (by simp) o e,st.2.to λo e=>k l (by simp) o e⟩
 item:=λi s Q E hi st hQ=>AE st.1 st.2 (x:=xs[i]) (by simp[hi]) λg gi sb=>hQ _ g s.toks (by simp[hi]) ⟨gi,st.2.to λo e=>sb.extBut _ _ ne e⟩ sb
 done:=λs Q E st hE=>Jk hh st.1 st.2 (by simp) λg e a b=>hE g e a b
end
def yL(K:aa)(b:Bool)(l:Addr):It:=⟨λi H=>∃xs x,eD b K H l xs/\xs[i]? =some x,λi H v H'=>∃T x,v= .ref T/\(∀xs,eD b K H l xs->xs[i]? =some x)/\Nw H H' T (.tup [.int i,x]),λi H=>∃xs,eD b K H l xs/\xs.length=i⟩
theorem Wb{P:af}{w:World}{K:aa}{elts:List Expr}{kt:Nat}{pos:Pos}{b:Bool}{e it l:Addr}(D:e≠it): Turn P w K (.Tuple elts kt pos) (yL K b l) [e,it] e (λi h=>(∃old,IsEnum h e it i old)/\je b h it l i) where
 mem:=by simp
 obj:=λi h st c hc=>by
  obtain⟨⟨old,he⟩,h1⟩:=st;simp only[cg,eT,iT]at hc;rcases hc with rfl|rfl
  ·exact⟨_,he,λv e=>by cases e⟩
  ·obtain⟨o,e,_,n⟩:=h1.ob;exact⟨o,e,n⟩
 keep:=λi h h' st k=>by obtain⟨⟨old,he⟩,h1⟩:=st;exact⟨⟨old,k e (by simp) _ he⟩,h1.to λo q=>k it (by simp) o q⟩
 item:=by
  intro X hP hw hK hc i pins s O H E I hf st hg;subst hP hw hK;obtain⟨xs,x,q1,e1⟩:=hg;obtain⟨its,r1,p1⟩:=q1.get I;obtain⟨u1,Hu,kO⟩:=r1.get e1;obtain⟨⟨old,he⟩,h1⟩:=st;obtain⟨oi,j4,ci,_⟩:=h1.ob;have Hg:∃o,s.heap.get? l=some o/\(o.cls= .type "list"\/o.cls= .type "tuple"):=by cases b<;>(obtain⟨o,ho,cc,_⟩:=p1;first|exact⟨o,ho,.inl cc⟩|exact⟨o,ho,.inr cc⟩)
  obtain⟨ol,oA,cl⟩:=Hg;have nel:e≠l:=λz=>by subst z;rw[he]at oA;cases oA;rcases cl with h|h<;>simp at h
  have nil:l≠it:=λz=>by subst z;rw[j4]at oA;cases oA;rw[ci]at cl;cases b<;>(rcases cl with h|h<;>simp[qy]at h)
  have cn:i<its.toArray.size:=by rw[dP,<-r1.length];exact(dw.mp e1).1
  refine wpAny_pyNext_enum_itemD (SH (I.ok.hd hc) nil) he ⟨h1,p1⟩ cn D (by simp[D,nel]) λy h' tk hPy ho g6 hT hsz kp=>⟨_,Z,?_⟩;have ey:y=u1:=by
   have a1:its.toArray[i]? =some y:=hPy;have a2:its.toArray[i]? =some u1:=by simpa using Hu
   rw[a1]at a2;exact dG a2
  subst ey;refine wpAny_letOwnedTupleGo_enum ho λg' Ii sb=>?_;have hs:=sb.extBut;have elt:e<s.heap.objs.size:=cm he;have ilt:it<s.heap.objs.size:=cm j4;have nw:Nw H (upd H s.heap.objs.size (.tup [.int i,x])) s.heap.objs.size (.tup [.int i,x]):=.of (I.bp.fresh (bI _));have I1:Inv X pins O (upd H s.heap.objs.size (.tup [.int i,x])) {s with heap:=s.heap.push {cls:=.type "tuple",data:=.seq #[.int i tk,y]},toks:=tk+1}:=I.laid (t':=tk+1) (λb ob q=>cw _ q) (bI _) ⟨by show 2<=sizeLine;decide,[.int i tk,y],.cons ⟨tk,Z⟩ (.cons kO .nil),⟨_,dH _ Z,Z,_,Z⟩⟩;have GX:∀c∈[e,it],c<s.heap.objs.size:=λc hc=>by
   simp only[cg,eT,iT]at hc;rcases hc with rfl|rfl
   ·exact elt
   ·exact ilt
  have hn:∀c∈[e,it],upd H s.heap.objs.size (.tup [.int i,x]) c=none:=λc hc=>by rw[aU (eR (GX c hc))];exact(hf c hc).1
  have I2:Inv X pins O (upd H s.heap.objs.size (.tup [.int i,x])) {s with heap:=g',toks:=tk+1}:=Inv.wg (s:={s with heap:=s.heap.push {cls:=.type "tuple",data:=.seq #[.int i tk,y]},toks:=tk+1}) (t':=tk+1) (fp:=[e,it]) I1 (λc o hc q=>by
   have q:(s.heap.push {cls:=.type "tuple",data:=.seq #[.int i tk,y]}).get? c=some o:=q;have nz:c≠e:=λz=>hc (by simp[z]);rcases Heap.get?_push_cases q with⟨Im,rfl⟩|q'
   ·subst Im
    exact hs _ _ nz hT
   ·exact hs _ _ nz (kp c o nz (λz=>hc (by simp[z])) q')) (λc hc=>by obtain⟨f0,f1,f2,f3,f4,f5⟩:=hf c hc;exact⟨hn c hc,f1,f2,f3,f4,f5⟩);refine⟨.ref s.heap.objs.size,_,I2,Z,⟨s.heap.objs.size,x,Z,λzs hz=>?_,nw⟩,⟨⟨_,by simpa using Ii⟩,g6.1.to λo q=>hs _ o (iV D) q⟩,hn⟩;rw[eD.inj I hz q1];exact e1
 done:=by
  intro X hP hw hK hc i pins s O H E I hf st hg;subst hP hw hK;obtain⟨xs,q1,lG⟩:=hg;obtain⟨its,r1,p1⟩:=q1.get I;obtain⟨⟨old,he⟩,h1⟩:=st;obtain⟨oi,j4,ci,_⟩:=h1.ob;have Hg:∃o,s.heap.get? l=some o/\(o.cls= .type "list"\/o.cls= .type "tuple"):=by cases b<;>(obtain⟨o,ho,cc,_⟩:=p1;first|exact⟨o,ho,.inl cc⟩|exact⟨o,ho,.inr cc⟩)
  obtain⟨ol,oA,cl⟩:=Hg;have nil:l≠it:=λz=>by subst z;rw[j4]at oA;cases oA;rw[ci]at cl;cases b<;>(rcases cl with h|h<;>simp[qy]at h)
  have hi:i=its.toArray.size:=by rw[dP,<-r1.length];exact lG.symm
  subst hi;refine wpAny_pyNext_enum_endD (SH (I.ok.hd hc) nil) he ⟨h1,p1⟩ λh' kp=>⟨Z,?_⟩;exact I.wg (t':=s.toks) (fp:=[e,it]) (λc o hc q=>kp c o (λz=>hc (by simp[z])) q) hf
 self:=λ_ _ _ _ _ st h=>by obtain⟨⟨old,he⟩,_⟩:=st;exact wpAny_pyIter_enum he h
inductive acG(K:aa)(b:Bool)(R:It->Hp->Prop)(vs:List V)(H1:Hp):Prop |mk (l:_)(h0:vs=[.ref l])(h1:(∃xs,eD b K H1 l xs))(h2:R (yL K b l) H1)
def a4a(K:aa)(b:Bool)(ta:TA):TI:=λO H R=>ta O H λvs H1=>acG K b R vs H1
theorem Z2(K:aa){X:Cx}(hK:X.K=K)(b:Bool){elts:List Expr}{kt:Nat}{nP:Pos}{a:Expr}{ta:TA}{p pos:Pos}(hg:Gl X "enumerate")(hm:X.mg "enumerate"=none)(ha:PA X [a] ta)(hs:autoParam (starEach [a] X.env=[(false,eval a X.env)]) r8_._auto_1)(iu:autoParam (starEach [] X.env=[]) r8_._auto_1): PI X (.Tuple elts kt nP) (.Call (.Name "enumerate" p) [a] [] pos) (a4a K b ta):=by
 subst hK;intro pins s O H R I h;refine Call_ (oq I hg hm PyProof.Rows.boot_enumerate (vL (aZ (ha pos pins s O H _ I h) λus s1 ⟨vs,H1,I1,r1,q1⟩=>?_) (by rw[hs,iu]) (by rw[iu];rfl)));obtain⟨l,e,⟨xs,h1⟩,q⟩:=q1;subst e;obtain⟨u1,rfl,kO⟩:=vals1 r1;cases(show u1=Value.ref l from kO);obtain⟨Hl,v1,p1⟩:=h1.get I1;refine a8Q p1 λg zg ig kp=>wpAny_pyIter_enum zg ?_;refine⟨_,_,_,_,H1,Z,I1.kept (t':=s1.toks) kp,Wb (vO (V5 _)),⟨⟨_,zg⟩,ig⟩,λc hc=>?_,q⟩;have hle:s1.heap.objs.size<=c:=by simp only[cg,eT,iT]at hc;rcases hc with rfl|rfl<;>first|exact bI _|exact Nat.le_add_right _ _
 exact I1.oN hle (I1.bp.fresh hle)
theorem a77{K:aa}{b:Bool}{a:Addr}{xs:List V}{g:TG}{tb:TS}{D:Ends}{O:St}{H:Hp}(Pv:Nat->St->Hp->Prop)(h0:Pv 0 O H)(hl:∀i O H,i<=xs.length->Pv i O H->eD b K H a xs) (hs:∀i x O H,xs[i]? =some x->Pv i O H->∀T H',Nw H H' T (.tup [.int i,x])->g (.ref T) O H' λσ2 H2=>tb {D with nx:=Pv (i+1),ct:=Pv (i+1),bk:=D.nx} σ2 H2)(hd:∀O H,Pv xs.length O H->D.nx O H): ∃W:Nat->Nat->St->Hp->Prop,(∃m,W 0 m O H)/\∀i m O H,W i m O H->((yL K b a).stop i H/\D.nx O H)\/((yL K b a).go i H/\∃N:St->Hp->Prop,(∀σ' H',N σ' H'->∃m',m'<m/\W (i+1) m' σ' H')/\∀x H',(yL K b a).jh i H x H'->g x O H' λσ2 H2=>tb {D with nx:=N,ct:=N,bk:=D.nx} σ2 H2):=by
 refine⟨λi m O H=>m=xs.length-i/\i<=xs.length/\Pv i O H,⟨xs.length,by simp,fC _,h0⟩,?_⟩;rintro i m O H ⟨rfl,hi,p⟩;have q:=hl i O H hi p;by_cases cn:i<xs.length
 ·refine .inr ⟨⟨xs,xs[i],q,by simp[cn]⟩,Pv (i+1),λσ' H' p'=>⟨xs.length-(i+1),au,Z,cn,p'⟩,λx H' y=>?_⟩
  obtain⟨T,z,rfl,ez,nw⟩:=y;exact hs i z O H (ez xs q) p T H' nw
 ·have e:i=xs.length:=by lia
  subst e;exact .inl ⟨⟨xs,q,Z⟩,hd O H p⟩
theorem Sj{K:aa}{b1 b2:Bool}{a1 a2:Addr}{xs ys:List V}{g:TG}{tb:TS}{D:Ends}{O:St}{H:Hp}(n:Nat)(hn:n=min xs.length ys.length)(Pv:Nat->St->Hp->Prop)(h0:Pv 0 O H)(hl:∀i O H,i<=n->Pv i O H->eD b1 K H a1 xs/\eD b2 K H a2 ys) (hs:∀i x y O H,xs[i]? =some x->ys[i]? =some y->Pv i O H->∀T H',Nw H H' T (.tup [x,y])->g (.ref T) O H' λσ2 H2=>tb {D with nx:=Pv (i+1),ct:=Pv (i+1),bk:=D.nx} σ2 H2)(hd:∀O H,Pv n O H->D.nx O H): ∃W:Nat->Nat->St->Hp->Prop,(∃m,W 0 m O H)/\∀i m O H,W i m O H->((tI K b1 b2 a1 a2).stop i H/\D.nx O H)\/((tI K b1 b2 a1 a2).go i H/\∃N:St->Hp->Prop,(∀σ' H',N σ' H'->∃m',m'<m/\W (i+1) m' σ' H')/\∀x H',(tI K b1 b2 a1 a2).jh i H x H'->g x O H' λσ2 H2=>tb {D with nx:=N,ct:=N,bk:=D.nx} σ2 H2):=by
 refine⟨λi m O H=>m=n-i/\i<=n/\Pv i O H,⟨n,by simp,fC _,h0⟩,?_⟩;rintro i m O H ⟨rfl,hi,p⟩;obtain⟨q1,q2⟩:=hl i O H hi p;by_cases cn:i<n
 ·have l1:i<xs.length:=by lia
  have l2:i<ys.length:=by lia
  refine .inr ⟨⟨xs,ys,xs[i],ys[i],q1,q2,by simp[l1],by simp[l2]⟩,Pv (i+1),λσ' H' p'=>⟨n-(i+1),au,Z,cn,p'⟩,λx H' y=>?_⟩;obtain⟨T,z1,z2,rfl,e1,e2,nw⟩:=y;exact hs i z1 z2 O H (e1 xs q1) (e2 ys q2) p T H' nw
 ·have e:i=n:=by lia
  subst e;exact .inl ⟨⟨xs,ys,q1,q2,au⟩,hd O H p⟩
section
variable {X:Cx}
end
set_option maxHeartbeats 1000000 in
theorem Ai{X:Cx}{N:List Str}{js:List (Option Nat)}{elt tg iter:Expr}{ifs:List Expr}{scope:Scope}{pos:Pos}{wi:TI}{g:TG}{tt:TT}{te:TE}{i0:Nat}{x0:Str}{ur Ly:Pos}(hNd:X.N.Nodup)(Rr:X.N[i0]? =some x0)(xB:Loc X.env.scope x0)(hc:X.calm=true)(hN:BP X N js scope=true)(hS:vo X scope=true) (hi:PI X tg iter wi)(hg:∀cl s H fp pins,PG (ft X N scope cl s H fp pins) tg g)(ht:∀cl s H fp pins,JV (ft X N scope cl s H fp pins) ifs tt)(he:∀cl s H fp pins,PE (ft X N scope cl s H fp pins) elt te) (hsw:autoParam (swapsWith (.ListComp elt [⟨tg,iter,ifs,0⟩] scope pos) (some (.Name x0 ur)) Ly.line X.env=pure true) r8_._auto_1)(hf0:X.fn x0=true\/X.env.scope.names.lookup x0=some .local:=by first|exact .inl rfl|exact .inr rfl) (hs:autoParam (∀x,foldedSetIterable iter X.env x=pure x) f8_._auto_1):PS X (.Assign [.Name x0 ur] (.ListComp elt [⟨tg,iter,ifs,0⟩] scope pos) Ly) (wq (Ld js wi g tt te) (gB i0)):=by
 intro pins s O H D0 I h;have oH:=hS;unfold vo at oH;rw[eK,eK]at oH;obtain⟨⟨k1,k2⟩,k3⟩:=oH;have lD:scope.kind= .function:=fm.mp k1;have uV:∀x∈scope.names,x.2= .free->∃c,X.env.cells.lookup x.1=some c:=λx hx e=>by have:=fU.mp k3 x hx;rw[e]at this;exact I.ok.has x.1 (.inl (fm.mp this))
 have qf:∀x∈scope.names,x.2≠ .cell:=λx hx e=>by have:=fU.mp k3 x hx;rw[e]at this;exact dQ this
 have HV:∀x∈scope.names,x.2= .local->scope.names.lookup x.1=some .local:=λx hx e=>by have:=fU.mp k3 x hx;rw[e]at this;exact fm.mp this
 obtain⟨cl,Ik,c1,c2⟩:=Tx uV;rw[exec_Assign_Name_used _ _ _ _ hsw];refine aK (C4 (aK ?_));show wpAny _ X.A (do let _<-comprehension (.ListComp elt [⟨tg,iter,ifs,0⟩] scope pos) scope X.env _ (newList []) false (eval iter X.env) (some (assign (.Name x0 ur) X.env))) _ _ s;refine aK (iS (wpAny_comprehension_free (use:=some (assign (.Name x0 ur) X.env)) (Q:=λ_ s'=>SP X pins D0 .next s') Z hs Ik lD HV (aZ (hi pins s O H _ I h) λv s1 h1=>aZ h1 λAX s2 h2=>?_)) (λ_ s' hq=>bT (bT hq)) λ_ _ e=>e);obtain⟨it,fp,tn,J,H2,e,I2,T,pD,f2,h2⟩:=h2;subst e;have hD:H2 s2.heap.objs.size=none:=I2.bp.fresh (bI _);obtain⟨W,⟨m0,w0⟩,turn⟩:=h2 _ _ (Nw.of hD);refine nC (wpAny_newFunctionEnv qf (by intro y hy;simp at hy) (λh₁ xJ xE=>?_) lD);have sS:∀b∈fp,b<s2.heap.objs.size:=λb hb=>by obtain⟨o,e,_⟩:=T.obj _ _ pD b hb;exact cm e
 have I3:Inv X pins O (upd H2 s2.heap.objs.size (.lst [])) {s2 with heap:=s2.heap.push {cls:=.type "list",dict:=none,data:=.seq ([]:List Value).toArray}}:=I2.Qn (its:=[]) (t':=s2.toks) .nil (fC _);generalize y4:s2.heap.push {cls:=.type "list",dict:=none,data:=.seq ([]:List Value).toArray}=h3 at I3 xJ xE;have wu:h3.objs.size=s2.heap.objs.size+1:=by rw[<-y4,ph]
 have Hi:∀b o,s2.heap.get? b=some o->h3.get? b=some o:=λb o e=>by rw[<-y4];exact cw _ e
 have f3:∀b∈fp,kd X pins (upd H2 s2.heap.objs.size (.lst [])) b:=λb hb=>⟨by rw[aU (eR (sS b hb))];exact(f2 b hb).1,(f2 b hb).2⟩;have xy:∀b o,h3.get? b=some o->h₁.get? b=some o:=λb o e=>(xE.2 b (eR (cm e))).trans (cw _ e);have I4:Inv (ft X N scope cl {s2 with heap:=h3} (upd H2 s2.heap.objs.size (.lst [])) fp pins) [] (stC js O) (upd H2 s2.heap.objs.size (.lst [])) {s2 with heap:=h₁,toks:=s2.toks+([]:List (Str×Value)).length}:=I3.comp (s:={s2 with heap:=h3}) hN hS c1 c2 f3 (λb hb=>by show b<h3.objs.size;rw[wu];exact Kn (sS b hb)) (by simpa using xJ) xy;have wx:tn 0 h₁:=T.keep _ _ _ pD λb _ o e=>xy b o (Hi b o e);have loop:codeAny (model X.prog X.w) X.A (.compLoop (.ListComp elt [⟨tg,iter,ifs,0⟩] scope pos) 0 (.ref it) (.ref s2.heap.objs.size) (compEnvC scope cl h3.objs.size X.env)) (compPost (model X.prog X.w) X.A X.xe (some (assign (.Name x0 ur) X.env)) (λ_ s'=>SP X pins D0 .next s') (.ref s2.heap.objs.size) h3.objs.size) {s2 with heap:=h₁,toks:=s2.toks+([]:List (Str×Value)).length}:=by
  refine Tt (λn s'=>∃i σ' H',Inv (ft X N scope cl {s2 with heap:=h3} (upd H2 s2.heap.objs.size (.lst [])) fp pins) [] σ' H' s'/\tn i s'.heap/\(∀b∈fp,H' b=none)/\W i n σ' H') ?_ m0 ⟨0,_,_,I4,wx,λb hb=>(f3 b hb).1,w0⟩;rintro n s5 ⟨i,σ5,H5,I5,nS,sR,w5⟩;have kM:∀{H':Hp},(∀b∈fp,H' b=none)->∀b∈fp,kd (ft X N scope cl {s2 with heap:=h3} (upd H2 s2.heap.objs.size (.lst [])) fp pins) [] H' b:=λ{H'} hn b hb=>by
   obtain⟨_,q1,q2,q3,q4,q5⟩:=f3 b hb;refine⟨hn b hb,λz=>?_,I4.ok.oP b hb,.inl hb,λx c e=>q4 x c (c1 x c e),λp hp=>q5 p (by simpa[ft]using hp)⟩;have cn:b<h3.objs.size:=by rw[wu];exact Kn (sS b hb)
   exact eR cn z
  rcases turn i n σ5 H5 w5 with⟨stop,qn⟩|⟨go,step⟩
  ·refine aZ (T.done (ft X N scope cl {s2 with heap:=h3} (upd H2 s2.heap.objs.size (.lst [])) fp pins) rfl rfl rfl hc i [] s5 σ5 H5 _ I5 (kM sR) nS stop) λr s6 ⟨hr,I6⟩=>?_
   subst hr;obtain⟨m,hm,_⟩:=I6.loc;have u0:Un (eu X.stack) fp (upd H2 s2.heap.objs.size (.lst [])) H5 h3 s6.heap:=I6.ao;have I7:Inv X pins O H5 s6:=I3.BQ (s':=s6) (ch:=fp) I6.os u0 I6.bp I6.bare λb hb=>⟨(f3 b hb).2.2.2.1,(f3 b hb).2.1,(f3 b hb).2.2.2.2.1,(f3 b hb).2.2.2.2.2⟩;have hC:kd X pins H5 h3.objs.size:=I3.oN (bI _) I6.free;show wpAny _ X.A (assign (.Name x0 ur) X.env (.ref s2.heap.objs.size)) _ _ s6;refine wpAny_assign_Name (Lo I7 hNd Rr xB (show RelV (.ref s2.heap.objs.size) (.ref s2.heap.objs.size)from Z) (λs8 I8 hsb=>?_) hf0);obtain⟨a,sb,ha⟩:=hsb;have hCa:h3.objs.size≠a:=by
    rcases ha with rfl|ha
    ·exact hC.2.1
    ·exact λz=>hC.2.2.2.2.1 x0 a ha z.symm
   refine⟨m,hm.sameBut sb hCa,λh9 hs9=>⟨_,H5,?_,qn⟩⟩;exact I8.wg (t':=s8.toks) (fp:=[h3.objs.size]) (λb o hb e=>hs9.extBut b o (λz=>hb (by simp[z])) e) λb hb=>by rw[cW.mp hb];exact hC
  ·refine aZ (T.item (ft X N scope cl {s2 with heap:=h3} (upd H2 s2.heap.objs.size (.lst [])) fp pins) rfl rfl rfl hc i [] s5 σ5 H5 _ I5 (kM sR) nS go) λr s6 ⟨u,hr,h6⟩=>?_
   subst hr;refine aZ h6 λ_ s7 ⟨x,H7,I7,r7,y7,nR,IV⟩=>?_;have K0:=I7.pinned (kM IV) (T.obj _ _ nR);refine aZ (hg _ _ _ _ _ _ s7 σ5 H7 x u _ K0 r7 (step x H7 y7)) λ_ s8 ⟨σ8,H8,I8,q8⟩=>?_;refine aZ (ht _ _ _ _ _ _ s8 σ8 H8 _ I8 q8) λok s9 ⟨H9,I9,q9⟩=>?_;have again:∀{s':ae}{σ7:St}{H7:Hp},Inv (ft X N scope cl {s2 with heap:=h3} (upd H2 s2.heap.objs.size (.lst [])) fp pins) ([]++uv fp s7.heap) σ7 H7 s'->(∃m',m'<n/\W (i+1) m' σ7 H7)->∃m,m<n/\∃i σ' H',Inv (ft X N scope cl {s2 with heap:=h3} (upd H2 s2.heap.objs.size (.lst [])) fp pins) [] σ' H' s'/\tn i s'.heap/\(∀b∈fp,H' b=none)/\W i m σ' H':=λ{s' σ7 H7} J7 n7=>by obtain⟨m',hm,w7⟩:=n7;refine⟨m',hm,i+1,σ7,H7,J7.w6,T.keep _ _ _ nR λb hb o e=>(J7.pin (b,o) (jF _ (jF _ (uL hb e)))).1,λb hb=>?_,w7⟩;obtain⟨o,e,d⟩:=T.obj _ _ nR b hb;exact(J7.pin (b,o) (jF _ (jF _ (uL hb e)))).2.1
   cases ok with |false=>rw[bf dQ]at q9⊢;exact again I9 q9 |true=>rw[bc rfl]at q9⊢;refine aZ (he _ _ _ _ _ _ s9 σ8 H9 _ I9 q9) λyv rj ⟨y,nk,vE,G3,ys,B7,hz,pk⟩=>?_;refine aZ (GP _ rj σ8 nk (.ref s2.heap.objs.size) [y] (.ref s2.heap.objs.size) [yv] (λ_ kH=>∃m',m'<n/\W (i+1) m' σ8 kH) vE Z (.cons G3 .nil) ⟨_,ys,y,Z,Z,B7,hz,pk⟩) λ_ FH ⟨v11,kH,K1,YM,G4⟩=>?_;exact again K1 G4
 exact codeAny_compStart_list loop (T.self _ 0 _ _ _ wx loop)
theorem Jx:∀{zs:List Str}{us:List Value},Vals (zs.map V.str) us->CarriedAll us (zs.map PyData.str) |[],_,.nil=>.nil |z::zs,_,.cons q r=>by obtain⟨t,rfl⟩:=(show∃t,_=Value.str z t from q);exact .cons (.str z t) (Jx r)
section
variable {X:Cx}
end
section
variable {X:Cx}{pins:List (Addr×Obj)}{O:St}{H:Hp}{s:ae}
end
section
variable {X:Cx}
theorem TM:dX X (.type "range") (λxs H Q=>∃n,xs=[.int n]/\∀p H',Nw H H' p (.rn 0 n)->Q (.ref p) H'):=by intro pins s O H xs us Q I r h;obtain⟨n,rfl,q⟩:=h;obtain⟨u,rfl,t,rfl⟩:=vals1 r;refine call_range_1 ?_;have hf:H s.heap.objs.size=none:=I.bp.fresh (bI _);refine⟨.ref s.heap.objs.size,upd H s.heap.objs.size (.rn 0 n),I.laid (t':=s.toks+1+1) (λb u e=>cw _ e) (bI _) ?_,Z,q _ _ (.of hf)⟩;exact⟨_,_,_,dH _ Z⟩
end
theorem WX:isSubtype (.type "range_iterator") (.type "reversed")=pure false:=by rw[isSubtype_type];kernel_rfl
section
variable {prog:af}{w:World}{A:ai}{E:Value->ae->Prop}{s:ae}
abbrev wO(n:Nat):Obj:={cls:=.type "range_iterator",data:=.fields #[rawInt (0+((n:Int)-1)*1),rawInt (n:Int),rawInt (-1)]}
abbrev FK(n:Nat):Bool:=Builtin.Range.rangeFitsLong 0&&Builtin.Range.rangeFitsLong n&&Builtin.Range.rangeFitsLong 1&&Builtin.Range.rangeFitsLong (-1)&&Builtin.Range.rangeFitsLong (0-1)&&Builtin.Range.rangeFitsLong (Builtin.Range.rangeSize 0 n 1)
theorem Od{n:Nat}(h:n<2^62):FK n=true:=by unfold FK;rw[rangeSize_one];simp only[Builtin.Range.rangeFitsLong,eK,Cc];split<;>lia
theorem Yn(r:Addr)(a b c:Int)(t u v:Tok)(hc0:¬(!(Builtin.Range.rangeFitsLong a&&Builtin.Range.rangeFitsLong b&&Builtin.Range.rangeFitsLong c&&Builtin.Range.rangeFitsLong (-c)&&Builtin.Range.rangeFitsLong (a-c)&&Builtin.Range.rangeFitsLong (Builtin.Range.rangeSize a b c)))=true):Meets (Builtin.«range.__reversed__» ⟨[.ref r],[]⟩) (λ_ R s=>s.heap.get? r=some {cls:=.type "range",dict:=none,data:=.fields #[.int a t,.int b u,.int c v],slots:=#[]}/\R (.ok (.ret (.ref s.heap.objs.size))) {s with heap:=s.heap.push {cls:=.type (if(Builtin.Range.rangeFitsLong a&&Builtin.Range.rangeFitsLong b&&Builtin.Range.rangeFitsLong c&&Builtin.Range.rangeFitsLong (-c)&&Builtin.Range.rangeFitsLong (a-c)&&Builtin.Range.rangeFitsLong (Builtin.Range.rangeSize a b c))=true then "range_iterator" else "longrange_iterator"),data:=.fields #[rawInt (a+(Builtin.Range.rangeSize a b c-1)*c),rawInt (Builtin.Range.rangeSize a b c),rawInt (-c)]},toks:=s.toks}):=.of_wp λprog w A R s h=>by
 obtain⟨hp,g,d,tk,os⟩:=s;obtain⟨hl,h⟩:=h
 wp_walk;exact⟨_,Z,h⟩
theorem a9A{l:Addr}{n:Nat}{t u v:Tok}{Q:Value->ae->Prop}(hn:n<2^62)(hl:s.heap.get? l=some {cls:=.type "range",data:=.fields #[.int 0 t,.int n u,.int 1 v]}) (h:Q (.ref s.heap.objs.size) {s with heap:=s.heap.push (wO n)}):wpAny (model prog w) A (call (.builtin "range.__reversed__") [.ref l]) Q E s:=by
 have hT:s.TypeIs (.ref l) "range":=⟨_,hl,Z⟩;refine tL Vn hT F.entry_range_reversed (F.args_range_reversed_1 _) (Yn l 0 n 1 t u v (by have:=Od hn;unfold FK at this;rw[this];decide)) ⟨hl,?_⟩;rw[bc (Od hn)];have e:Builtin.Range.rangeSize 0 n 1=n:=by rw[rangeSize_one];split<;>lia
 rw[e];exact h
theorem a9m{l:Addr}{n:Nat}{t u v:Tok}{Q₁:Value->ae->Prop}(hn:n<2^62)(hl:s.heap.get? l=some {cls:=.type "range",data:=.fields #[.int 0 t,.int n u,.int 1 v]}) (h:Q₁ (.ref s.heap.objs.size) {s with heap:=s.heap.push (wO n)}): codeAny (model prog w) A (.call (.builtin "reversed.__new__") ⟨[.type "reversed",.ref l],[]⟩) (wants Q₁ E) s:=by
 have hT:s.TypeIs (.ref l) "range":=⟨_,hl,Z⟩;refine codeAny_of_tree ?_;show wpAny _ A.in1 (do checkBuiltinCall "reversed.__new__" ⟨[.type "reversed",.ref l],[]⟩;again (.builtin "reversed.__new__" ⟨[.type "reversed",.ref l],[]⟩)) _ _ s;refine aK (yP (F.newCall_reversed_1 _) (bT ⟨plainId_quiet F.plain_reversed_new _,K8 F.entry_reversed_new ?_⟩));rw[Vr F.plain_reversed_new _];unfold Builtin.«reversed.__new__»;refine aK (yP (newClass_reversed _) ?_)
 try dsimp only
 refine aK (yP (a:=()) (by first|rfl|kernel_rfl) ?_);refine aK (yP (a:=()) (by first|rfl|kernel_rfl) ?_)
 try dsimp only
 refine aK (C5 hT Vn.lookup ?_)
 try dsimp only
 refine aK (yP (Vn.bind _) ?_)
 try dsimp only
 first |rw[bf (show¬((Value.builtin "range.__reversed__"==Value.none)=true)from dQ)] |(show wpAny _ _ (if(Value.builtin "range.__reversed__"==Value.none)=true then _ else _) _ _ _;rw[bf (show¬((Value.builtin "range.__reversed__"==Value.none)=true)from dQ)])
 refine aK (wpAny_rule ?_);refine aK (m:=runValue (.call (.builtin "range.__reversed__") ⟨[.ref l],[]⟩)) (show wpAny _ _ (call (.builtin "range.__reversed__") [.ref l]) _ _ _ from a9A hn hl ?_)
 first |exact bT h |exact aK (bT (bT h))
theorem a9B{l:Addr}{n:Nat}{t u v:Tok}{Q:Value->ae->Prop}(hn:n<2^62)(hl:s.heap.get? l=some {cls:=.type "range",data:=.fields #[.int 0 t,.int n u,.int 1 v]}) (h:Q (.ref s.heap.objs.size) {s with heap:=s.heap.push (wO n)}):wpAny (model prog w) A (call (.type "reversed") [.ref l]) Q E s:=by refine callType_other (U:="range_iterator") (Q₁:=λobj s₁=>obj= .ref s.heap.objs.size/\s₁={s with heap:=s.heap.push (wO n)}) aF F.create_reversed ⟨_,_,F.mro_reversed⟩ F.made_reversed WX (F.typeCall_reversed_1 _) (a9m hn hl ⟨Z,Z⟩) ?_;rintro obj s₁ ⟨rfl,rfl⟩;exact⟨⟨_,dH _ Z,Z⟩,h⟩
end
def yJ(n:Nat):It:=⟨λi _=>i<n,λi H x H'=>H'=H/\x= .int ((n:Int)-1-i),λi _=>n<=i⟩
theorem W8{P:af}{w:World}{K:aa}{tg:Expr}(it:Addr)(n:Nat):Turn P w K tg (yJ n) [it] it (λi h=>IsRangeIter h it ((0+((n:Int)-1)*1)+(i:Nat)*(-1)) ((n:Int)-(i:Nat)) (-1)) where
 mem:=by simp
 obj:=λi h st b hb=>by
  have e:b=it:=by simpa using hb
  subst e;exact⟨_,st,λv z=>by have z':Data.fields _=Data.cell v:=z;cases z'⟩
 keep:=λi h h' st k=>k it (by simp) _ st
 item:=by
  intro X hP hw hK hc i pins s O H E I hf st hg;subst hP hw hK;obtain⟨f0,f1,f2,f3,f4,f5⟩:=hf it (by simp);have W:=Walks.range (prog:=X.prog) (w:=X.w) (I.ok.hd hc) it (0+((n:Int)-1)*1) (-1) n;refine W.item i s _ _ hg st λv h' tk hv gs kk=>?_;obtain⟨t,rfl⟩:=hv;have I1:Inv X pins O H {s with heap:=h',toks:=tk}:=I.turned (λb o hb e=>kk b o (by simpa using hb) e) f0 f1 f3 f4 f5;refine⟨_,Z,yc (s:={s with heap:=h',toks:=tk}) (n:="range_iterator") gs rfl rfl ay ⟨.int ((n:Int)-1-i),H,I1,⟨t,?_⟩,⟨Z,Z⟩,gs,λb hb=>(hf b hb).1⟩⟩;have e:(0+((n:Int)-1)*1)+(i:Int)*(-1)=(n:Int)-1-i:=by lia
  rw[e]
 done:=by intro X hP hw hK hc i pins s O H E I hf st hg;subst hP hw hK;obtain⟨f0,f1,f2,f3,f4,f5⟩:=hf it (by simp);exact wpAny_pyNext_range_end (I.ok.hd hc) st (by have:n<=i:=hg;lia) λh' eb=>⟨Z,I.turned (t':=s.toks) (λb o hb e=>eb b o hb e) f0 f1 f3 f4 f5⟩
 self:=λ_ _ _ _ _ st h=>UI st h
inductive acE(R:It->Hp->Prop)(vs:List V)(H1:Hp):Prop |mk (p:_)(n:_)(h0:vs=[.ref p])(h1:H1 p=some (.rn 0 n))(h2:0<=n)(h3:n<2^62)(h4:R (yJ n.toNat) H1)
def a49(ta:TA):TI:=λO H R=>ta O H λvs H1=>acE R vs H1
theorem OX{X:Cx}{tg:Expr}{a:Expr}{ta:TA}{p pos:Pos}(hg:Gl X "reversed")(hm:X.mg "reversed"=none)(ha:PA X [a] ta)(hs:autoParam (starEach [a] X.env=[(false,eval a X.env)]) r8_._auto_1)(iu:autoParam (starEach [] X.env=[]) r8_._auto_1): PI X tg (.Call (.Name "reversed" p) [a] [] pos) (a49 ta):=by
 intro pins s O H R I h;refine Call_ (oq I hg hm PyProof.Rows.boot_reversed (vL (aZ (ha pos pins s O H _ I h) λus s1 ⟨vs,H1,I1,r1,q1⟩=>?_) (by rw[hs,iu]) (by rw[iu];rfl)));obtain⟨l,n,e,hl,n0,n1,q⟩:=q1;subst e;obtain⟨u1,rfl,kO⟩:=vals1 r1;cases(show u1=Value.ref l from kO);obtain⟨t,u,v,e⟩:∃t u v,s1.heap.get? l=some {cls:=.type "range",data:=.fields #[.int 0 t,.int n u,.int 1 v]}:=I1.bp l _ hl;obtain⟨m,rfl⟩:∃m:Nat,n=m:=⟨n.toNat,au⟩;refine a9B au e ?_;have hit:IsRangeIter (s1.heap.push (wO m)) s1.heap.objs.size ((0+((m:Int)-1)*1)+((0:Nat):Int)*(-1)) ((m:Int)-((0:Nat):Int)) (-1):=by
  have e1:(0+((m:Int)-1)*1)+((0:Nat):Int)*(-1)=0+((m:Int)-1)*1:=by lia
  have e2:(m:Int)-((0:Nat):Int)=m:=by lia
  rw[e1,e2];exact dH _ rfl
 refine UI hit ?_;refine⟨s1.heap.objs.size,[s1.heap.objs.size],_,_,H1,Z,I1.kept (t':=s1.toks) λb o e=>cw _ e,W8 _ m,hit,λb hb=>?_,q⟩;have e:b=s1.heap.objs.size:=by simpa using hb
 subst e;exact I1.oN (bI _) (I1.bp.fresh (bI _))
theorem Sk{n:Nat}{g:TG}{tb:TS}{D:Ends}{O:St}{H:Hp}(Pv:Nat->St->Hp->Prop)(h0:Pv 0 O H) (hs:∀i O H,i<n->Pv i O H->g (.int ((n:Int)-1-i)) O H λσ2 H2=>tb {D with nx:=Pv (i+1),ct:=Pv (i+1),bk:=D.nx} σ2 H2)(hd:∀O H,Pv n O H->D.nx O H): ∃W:Nat->Nat->St->Hp->Prop,(∃m,W 0 m O H)/\∀i m O H,W i m O H->((yJ n).stop i H/\D.nx O H)\/((yJ n).go i H/\∃N:St->Hp->Prop,(∀σ' H',N σ' H'->∃m',m'<m/\W (i+1) m' σ' H')/\∀x H',(yJ n).jh i H x H'->g x O H' λσ2 H2=>tb {D with nx:=N,ct:=N,bk:=D.nx} σ2 H2):=by
 refine⟨λi m O H=>m=n-i/\i<=n/\Pv i O H,⟨n,by simp,fC _,h0⟩,?_⟩;rintro i m O H ⟨rfl,hi,p⟩;by_cases cn:i<n
 ·refine .inr ⟨cn,Pv (i+1),λσ' H' q=>⟨n-(i+1),au,Z,cn,q⟩,λx H' hy=>?_⟩
  obtain⟨rfl,rfl⟩:=hy;exact hs i O _ cn p
 ·have e:i=n:=by lia
  subst e;exact .inl ⟨bI _,hd O H p⟩
theorem wX(K:aa){X:Cx}(hK:X.K=K){a:Expr}{ta:TE}(ha:PE X a ta)(he:autoParam (∀whole,isTrue a X.env whole=(do let v<-whole;standAt a.pos;holding [v] (truthy v))) f8_._auto_1): PT X a (λO H Q=>ta O H λx H'=>∃k,JR K x H' k/\Q k H'):=by subst hK;exact YN ha he
end _L
namespace _C
open _l
def fK(ns ms:List Int):List Int:=(ns.zip ms).map λp=>p.1*(aO ms:Int)-p.2*(aO ns:Int)
theorem a2H{ns ms:List Int}{z:Int}(h:z∈fK ns ms):∃a b,a∈ns/\b∈ms/\z=a*(aO ms:Int)-b*(aO ns:Int):=by obtain⟨⟨a,b⟩,hp,rfl⟩:=cY.mp h;exact⟨a,b,(vR hp).1,(vR hp).2,Z⟩
theorem mE{a b:Int}{m n:Nat}(h:a.natAbs<=m)(g:b.natAbs<=n):(a*b).natAbs<=m*n:=by rw[gU];exact qK h g
theorem Js{ns ms:List Int}(h1:∀z∈ns,z.natAbs<=1000)(h2:∀z∈ms,z.natAbs<=1000):∀z∈fK ns ms,z.natAbs<=2000000:=λz hz=>by obtain⟨a,b,ha,hb,rfl⟩:=a2H hz;have l1:=oo h1;have l2:=oo h2;have e1:=mE (b:=(aO ms:Int)) (n:=1000) (h1 a ha) bC;have e2:=mE (b:=(aO ns:Int)) (n:=1000) (h2 b hb) bC;omega
def pY(zs:List Int)(i:Nat):Nat:=aO (zs.take i)
theorem QA:∀(xs ys:List Int),aO (xs++ys)=max (aO xs) (aO ys) |[],ys=>by simp[aO] |x::xs,ys=>by show max x.natAbs (aO (xs++ys))=max (max x.natAbs (aO xs)) (aO ys);rw[QA xs ys];lia
theorem a5h{zs:List Int}{i:Nat}{z:Int}(h:zs[i]? =some z):pY zs (i+1)=max (pY zs i) z.natAbs:=by
 unfold pY;rw[vP,h,QA];show max _ (max z.natAbs 0)=_
 lia
def tD(r:Rat):Rat:=if r.num<0 then-r else r
theorem aad(r:Rat):(tD r).num=mZ r.num:=by
 unfold tD mZ;split
 ·rfl
 ·rfl
theorem aaf(r:Rat):(tD r).den=r.den:=by
 unfold tD;split
 ·rfl
 ·rfl
theorem a95{a b:Int}(hb:0<b):0<=(Rat.divInt a b).num↔0<=a:=by rw[Kc,vK hb]
theorem aae{c L:Int}(hL:0<L):tD (Rat.divInt c L)=Rat.divInt (mZ c) L:=by
 have h:=a95 (a:=c) hL;unfold tD mZ;by_cases hc:c<0
 ·rw[bc hc,bc au,Rat.neg_divInt]
 ·rw[bf hc,bf au]
theorem SY{a b L:Int}(hL:0<L):Rat.divInt a L<=Rat.divInt b L↔a<=b:=by
 rw[Rat.le_iff_sub_nonneg,UO _ _ au au,vK (jH hL hL),<-Int.sub_mul];constructor
 ·intro h
  have:=Int.nonneg_of_mul_nonneg_left h hL
  lia
 ·intro h
  exact kj au au
theorem SX{a b L:Int}(hL:0<L):Rat.divInt a L<Rat.divInt b L↔a<b:=by rw[<-Rat.not_le,SY hL];lia
theorem WW{a b l1 l2:Int}(h1:0<l1)(h2:0<l2):Rat.divInt b l2-Rat.divInt a l1=Rat.divInt (b*l1-a*l2) (l1*l2):=by rw[UO _ _ au au,Cu l2 l1]
theorem a9i{j p q h L:Int}(hp:p≠0)(hh:h≠0)(e:p*L=h*q):Rat.divInt (j*j*q*q) (p*p)=Rat.divInt ((j*L)^2) (h^2):=by
 rw[Rat.divInt_eq_divInt_iff (Ky hp hp) (by rw[gq,gq,nN,lX];exact Ky hh hh)];have e2:(p*L)*(p*L)=(h*q)*(h*q):=by rw[e]
 rw[gq,gq,nN,lX,gq,gq,nN,lX];have a1:j*j*q*q*(h*h)=(j*j)*((h*q)*(h*q)):=by ac_rfl
 have a2:j*L*(j*L)*(p*p)=(j*j)*((p*L)*(p*L)):=by ac_rfl
 rw[a1,a2,e2]
end _C
namespace _P
def mn(a b:Rat):Rat:=if b<a then b else a
theorem gu(a b:Rat):mn a b<=a:=by
 unfold mn;split
 ·next h=>exact Rat.le_of_lt h
 ·exact tO
theorem lj(a b:Rat):mn a b<=b:=by
 unfold mn;split
 ·exact tO
 ·next h=>exact Cf.mp h
theorem mI{a b c:Rat}(h1:c<=a)(h2:c<=b):c<=mn a b:=by unfold mn;split<;>assumption
theorem AM(a b:Rat):mn a b=a\/mn a b=b:=by
 unfold mn;split
 ·exact .inr rfl
 ·exact .inl rfl
theorem sj{a b c:Rat}(hc:c=a\/c=b)(h1:c<=a)(h2:c<=b):mn a b=c:=by
 rcases hc with rfl|rfl
 ·exact Kd (gu _ _) (mI h1 h2)
 ·exact Kd (lj _ _) (mI h1 h2)
theorem a3x{a b c:Rat}(h:a<=b)(hc:0<=c):a<=b+c:=eH h (by have:=(Rat.add_le_add_left (c:=b)).mpr hc;rwa [Rat.add_zero]at this)
section
variable (n:Nat)(own:Nat->Rat)(L:Nat->Option Nat)(r f:Int)
def Rz:Nat->Rat |0=>own 0 |i+1=>match L i with |some m=>mn (own (i+1)) (Rz i+((r*(m:Int):Int):Rat)) |none=>own (i+1)
def Pz(g:Nat->Rat):Nat->Rat |0=>g n |k+1=>match L (n-(k+1))with |some m=>mn (g (n-(k+1))) (Pz g k+((f*(m:Int):Int):Rat)) |none=>g (n-(k+1))
def fl(g:Nat->Rat)(i:Nat):Rat:=Pz n L f g (n-i)
def rM(i:Nat):Rat:=fl n L f (Rz own L r) i
end
section
variable {n:Nat}{own g:Nat->Rat}{L:Nat->Option Nat}{r f:Int}
theorem yh:fl n L f g n=g n:=by unfold fl;rw[Kl];rfl
theorem yi{i m:Nat}(hi:i<n)(h:L i=some m):fl n L f g i=mn (g i) (fl n L f g (i+1)+((f*(m:Int):Int):Rat)):=by
 unfold fl;have e:n-i=(n-(i+1))+1:=by omega
 rw[e];show(match L (n-((n-(i+1))+1))with|some m=>_|none=>_)=_;have e2:n-((n-(i+1))+1)=i:=by omega
 rw[e2,h]
theorem yg{i:Nat}(hi:i<n)(h:L i=none):fl n L f g i=g i:=by
 unfold fl;have e:n-i=(n-(i+1))+1:=by lia
 rw[e];show(match L (n-((n-(i+1))+1))with|some m=>_|none=>_)=_;have e2:n-((n-(i+1))+1)=i:=by lia
 rw[e2,h]
theorem Uo{i m:Nat}(h:L i=some m):Rz own L r (i+1)=mn (own (i+1)) (Rz own L r i+((r*(m:Int):Int):Rat)):=by show(match L i with|some m=>_|none=>_)=_;rw[h]
theorem Um{i:Nat}(h:L i=none):Rz own L r (i+1)=own (i+1):=by show(match L i with|some m=>_|none=>_)=_;rw[h]
theorem down{C:Nat->Prop}(hn:C n)(hs:∀i,i<n->C (i+1)->C i):∀i,i<=n->C i:=by
 have key:∀k,k<=n->C (n-k):=λk=>by induction k with |zero=>intro _;exact hn |succ k ih=>
  intro hk;refine hs _ bC ?_;have e:n-(k+1)+1=n-k:=by omega
  rw[e];exact ih bC
 intro i hi;have:=key (n-i) bC;have e:n-(n-i)=i:=by omega
 rwa [e]at this
end
open _r
theorem xp{n:Nat}{a b:Rat}(h1:Bd n a)(h2:Bd n b):Bd n (mn a b):=by rcases AM a b with e|e<;>rw[e]<;>assumption
theorem vx{n:Nat}{q:Rat}{z:Int}(h:Bd n q)(hz:z.natAbs<2^24):Bd (n+25) (q+(z:Rat)):=by have b:Bd 24 (z:Rat):=⟨hz,by show 1<2^24;decide⟩;exact(h.add b).mono au
theorem C0{b:Nat}{own:Nat->Rat}{L:Nat->Option Nat}{r:Int}(ho:∀i,Bd b (own i))(hL:∀i m,L i=some m->(r*(m:Int)).natAbs<2^24):∀i,Bd (b+25*i) (Rz own L r i) |0=>ho 0 |i+1=>by cases h:L i with |none=>rw[Um h];exact(ho _).mono au |some m=>rw[Uo h];exact xp ((ho _).mono au) ((vx (C0 ho hL i) (hL i m h)).mono au)
theorem IZ{n b:Nat}{g:Nat->Rat}{L:Nat->Option Nat}{f:Int}(ho:∀i,i<=n->Bd b (g i))(hL:∀i m,L i=some m->(f*(m:Int)).natAbs<2^24):∀i,i<=n->Bd (b+25*(n-i)) (fl n L f g i):=by
 refine down ?_ λi hi ih=>?_
 ·rw[yh];exact(ho n (bI _)).mono au
 ·cases h:L i with |none=>rw[yg hi h];exact(ho i au).mono au |some m=>rw[yi hi h];exact xp ((ho i au).mono au) ((vx ih (hL i m h)).mono au)
def lst(n:Nat)(g:Nat->Rat):List Rat:=(List.range (n+1)).map g
theorem kz(n:Nat)(g:Nat->Rat):(lst n g).length=n+1:=by simp[lst]
theorem kA{n:Nat}(g:Nat->Rat){i:Nat}(h:i<=n):(lst n g)[i]? =some (g i):=by unfold lst;rw[bR,cy (by simp;lia),yZ];rfl
theorem GY{n:Nat}{g g':Nat->Rat}{i:Nat}(h:∀k,k<=n->k≠i->g' k=g k):(lst n g).set i (g' i)=lst n g':=by
 apply Kw;intro k;by_cases hk:k<=n
 ·rw[kA g' hk,List.getElem?_set]
  by_cases e:i=k
  ·subst e;rw[bc rfl,bc (by rw[kz];lia)]
  ·rw[bf e,kA g hk,h k hk (λz=>e z.symm)]
 ·rw[qN (by rw[vT,kz];lia),qN (by rw[kz];lia)]
theorem om{n:Nat}{g g':Nat->Rat}(h:∀k,k<=n->g' k=g k):lst n g=lst n g':=by
 apply Kw;intro k;by_cases hk:k<=n
 ·rw[kA g hk,kA g' hk,h k hk]
 ·rw[qN (by rw[kz];lia),qN (by rw[kz];lia)]
end _P
namespace _O
open _P _C _l _r
abbrev Itm:=Option (List Int × Int)
def topR(az sp:Int):Rat:=Rat.divInt ((sp*az)^2) 10000
def cornO(j:Int)(ns ms:List Int):Option Rat:=if aO (fK ns ms)=0 then none else some (Rat.divInt ((j*aO ns*aO ms)^2) ((aO (fK ns ms):Int)^2))
def mnO(a:Rat):Option Rat->Rat |none=>a |some c=>mn a c
def betR(j az:Int):Itm->Itm->Rat |some (ns,sp),some (ms,sq)=>mnO (mn (topR az sp) (topR az sq)) (cornO j ns ms) |_,_=>0
def atO(os:List Itm)(i:Nat):Itm:=(os[i]?).join
def ownF(j az:Int)(os:List Itm):Nat->Rat |0=>0 |i+1=>betR j az (atO os i) (atO os (i+1))
def leadF(os:List Itm)(i:Nat):Option Nat:=(atO os i).map λq=>aO q.1
def ownL(j az:Int)(os:List Itm):List Rat:=(List.range (os.length+1)).map (ownF j az os)
theorem vq{os:List Itm}{i:Nat}{o:Itm}(h:os[i]? =some o):atO os i=o:=by unfold atO;rw[h];rfl
theorem aa0{os:List Itm}{i:Nat}(h:os.length<=i):atO os i=none:=by unfold atO;rw[qN h];rfl
theorem U0(j az:Int)(o:Itm):betR j az o none=0:=by unfold betR;split<;>simp_all
theorem a9U(j az:Int)(o:Itm):betR j az none o=0:=by unfold betR;split<;>simp_all
theorem Zx(j az:Int)(os:List Itm):∀n,n=os.length->ownF j az os n=0 |0,_=>rfl |n+1,h=>by show betR j az (atO os n) (atO os (n+1))=0;rw[aa0 (i:=n+1) au];exact U0 _ _ _
theorem Zu(j az:Int)(os:List Itm):(ownL j az os).length=os.length+1:=by simp[ownL]
theorem Zv(j az:Int)(os:List Itm){i:Nat}(h:i<=os.length):(ownL j az os)[i]? =some (ownF j az os i):=by unfold ownL;rw[bR,cy (by simp;lia),yZ];rfl
theorem Pa(j az:Int){os:List Itm}(h:os≠[]):ownL j az os=[0]++(List.range (os.length-1)).map (λi=>ownF j az os (i+1))++[0]:=by
 have h0:0<os.length:=Cq.mpr h;apply Kw;intro i;by_cases hi:i<=os.length
 ·rw[Zv j az os hi]
  rcases Nat.eq_zero_or_pos i with rfl|hp
  ·rfl
  ·by_cases hl:i=os.length
   ·rw[z9 (by simp;lia),hl,Zx j az os _ rfl]
    have:os.length-([0]++List.map (λi=>ownF j az os (i+1)) (List.range (os.length-1))).length=0:=by simp;lia
    rw[this];rfl
   ·rw[vV (by simp;lia),z9 (by simp;lia),bR]
    have e:i-[(0:Rat)].length=i-1:=rfl;rw[e,cy (by simp;lia),yZ];show some _=some (ownF j az os (i-1+1));rw[Nat.sub_add_cancel hp]
 ·rw[qN (by rw[Zu];lia),qN (by simp;lia)]
theorem zA(az sp:Int):0<=topR az sp:=by
 unfold topR;rw[vK ay,gq,gq,nN,lX];rcases Int.le_total 0 (sp*az)with h|h
 ·exact kj h h
 ·exact Vk h h
theorem X8(a:Int):0<=a^2:=by
 rw[gq,gq,nN,lX];rcases Int.le_total 0 a with h|h
 ·exact kj h h
 ·exact Vk h h
theorem a9j{j:Int}{ns ms:List Int}{c:Rat}(h:cornO j ns ms=some c):0<=c:=by
 unfold cornO at h;split at h
 ·cases h
 ·next h0=>
  cases h;rw[vK]
  ·exact X8 _
  ·rw[gq,gq,nN,lX];exact jH au au
theorem a9V(j az:Int)(o p:Itm):0<=betR j az o p:=by
 unfold betR;split
 ·next ns sp ms sq=>
  have h:=mI (zA az sp) (zA az sq);unfold mnO;split
  ·exact h
  ·next c e=>exact mI h (a9j e)
 ·exact tO
theorem Zw(j az:Int)(os:List Itm):∀i,0<=ownF j az os i |0=>tO |i+1=>a9V _ _ _ _
def OkI(o:Itm):Prop:=∀ns sp,o=some (ns,sp)->(∀z∈ns,(z.natAbs:Int)<=100)/\1<=sp/\sp<=20
theorem CZ{a:Int}{m:Nat}(h:a.natAbs<=m):(a^2).natAbs<=m*m:=by rw[gq,gq,nN,lX];exact mE h h
theorem zB{az sp:Int}(h1:1<=sp)(h2:sp<=20)(h3:10<=az)(h4:az<=200):Bd 64 (topR az sp):=by
 have oK:(2:Nat)^64=18446744073709551616:=by decide
 have a:=CZ (mE (a:=sp) (b:=az) (m:=20) (n:=200) au au);exact jt ay (by rw[oK];lia) ay
theorem Tp{j:Int}{ns ms:List Int}{c:Rat}(h1:1<=j)(h2:j<=50)(hn:∀z∈ns,(z.natAbs:Int)<=100)(hm:∀z∈ms,(z.natAbs:Int)<=100)(h:cornO j ns ms=some c):Bd 64 c:=by
 have oK:(2:Nat)^64=18446744073709551616:=by decide
 have cb:=Js (λz hz=>by have:=hn z hz;lia) (λz hz=>by have:=hm z hz;lia) (ns:=ns) (ms:=ms);have hb:=oo cb;have l1:=oo (ns:=ns) (m:=100) λz hz=>by have:=hn z hz;lia
 have l2:=oo (ns:=ms) (m:=100) λz hz=>by have:=hm z hz;lia
 unfold cornO at h;split at h
 ·cases h
 ·next h0=>cases h;have a:=CZ (mE (mE (a:=j) (b:=(aO ns:Int)) (m:=50) (n:=100) au au) (b:=(aO ms:Int)) (n:=100) au);have b:=CZ (a:=(aO (fK ns ms):Int)) (m:=2000000) au;refine jt ?_ (by rw[oK];lia) (by rw[oK];lia);rw[gq,gq,nN,lX];exact Ky au au
theorem xp{n:Nat}{a b:Rat}(h1:Bd n a)(h2:Bd n b):Bd n (mn a b):=by rcases AM a b with e|e<;>rw[e]<;>assumption
theorem KL:Bd 64 (0:Rat):=⟨ ay,ay⟩
theorem a9W{j az:Int}{o p:Itm}(h1:1<=j)(h2:j<=50)(h3:10<=az)(h4:az<=200)(ho:OkI o)(hp:OkI p):Bd 64 (betR j az o p):=by
 unfold betR;split
 ·next ns sp ms sq=>
  obtain⟨a1,a2,a3⟩:=ho ns sp rfl;obtain⟨b1,b2,b3⟩:=hp ms sq rfl;have h:=xp (zB a2 a3 h3 h4) (zB b2 b3 h3 h4);unfold mnO;split
  ·exact h
  ·next c e=>exact xp h (Tp h1 h2 a1 b1 e)
 ·exact KL
def OkIs(os:List Itm):Prop:=∀i,OkI (atO os i)
theorem Av{j az:Int}{os:List Itm}(h1:1<=j)(h2:j<=50)(h3:10<=az)(h4:az<=200)(ho:OkIs os):∀i,Bd 64 (ownF j az os i) |0=>KL |i+1=>a9W h1 h2 h3 h4 (ho i) (ho (i+1))
end _O
namespace _W
open PySem _L
def jc(pl ns:List Int):List Int:=List.zipWith (λa b=>a+b) pl ns
theorem oY{pl ns:List Int}(h:ns.length=pl.length):(jc pl ns).length=pl.length:=by unfold jc;rw[List.length_zipWith,h];exact Nat.min_self _
theorem yD{pl ns:List Int}{i:Nat}{a b:Int}(h1:pl[i]? =some a)(h2:ns[i]? =some b):(jc pl ns)[i]? =some (a+b):=by unfold jc;rw[List.getElem?_zipWith,h1,h2]
structure fQ(rs pl:List Int):Prop where
 len:pl.length=rs.length
 at':∀(i:Nat)(x r:Int),pl[i]? =some x->rs[i]? =some r->0<=x/\x<=r
end _W
namespace _L
open PySem PySem.Spec PyProof.Rows
inductive acu(K:aa)(x:V)(y:V)(H:Hp)(Q:VK):Prop |mk (a:_)(b:_)(xs:_)(ys:_)(h0:x= .ref a)(h1:y= .ref b)(h2:aY K H a xs)(h3:aY K H b ys)(h4:xs.length+ys.length<=sizeLine)(h5:∀c H',aD H H'->aY K H' c (xs++ys)->Q (.ref c) H')
def YJ(K:aa):R2:=λx y H Q=>acu K x y H Q
section
variable {X:Cx}
theorem TK(K:aa)(hK:X.K=K):cO X (binaryOp .Add) (YJ K):=by
 subst hK;intro pins s O H x y v u Q I rx ry h;obtain⟨a,b,xs,ys,rfl,rfl,ha,hb,hz,q⟩:=h;cases rx;cases ry;obtain⟨its,r1,p1,_⟩:=I.tuple ha;obtain⟨jQ,r2,p2,_⟩:=I.tuple hb;by_cases e0:xs=[]
 ·subst e0
  have i0:its=[]:=r1.GH.mpr rfl;subst i0;obtain⟨⟨cls,dd,data,sl⟩,ho,hc,n,hd⟩:=id p1;obtain⟨⟨Tw,vk,data2,sl2⟩,mS,gz,n2,hd2⟩:=id p2;simp only at hc hd gz hd2;subst hc hd gz hd2;exact concat_meets ⟨_,ho,Z⟩ ⟨_,mS,Z⟩ noFill_tuple_add seq_tuple_add UT UW (UX _ _) (tuple_addW0 a b _ jQ.toArray n n2 dd vk sl sl2 (by simp)) ⟨ho,mS,⟨.ref b,H,I,Z,q _ _ (aD.refl H) hb⟩⟩
 ·refine _H.a9x p1 p2 (λz=>e0 (r1.GH.mp z)) (λz=>⟨.ref a,H,I,Z,?_⟩) (λz=>?_) (by rw[<-r1.length,<-r2.length];exact hz)
  ·have e1:ys=[]:=r2.GH.mp z
   subst e1;exact q _ _ (aD.refl H) (by rw[qO];exact ha)
  ·have hf:H s.heap.objs.size=none:=I.bp.fresh (bI _)
   have nw:Nw H (upd H s.heap.objs.size (.tup (xs++ys))) s.heap.objs.size (.tup (xs++ys)):=.of hf;refine⟨.ref s.heap.objs.size,_,I.laid (t':=s.toks) (o:=.tup (xs++ys)) (λb ob q=>cw _ q) (bI _) ?_,Z,q _ _ nw.same (aY.of nw.at')⟩;exact⟨by rw[fe];exact hz,_,r1.append r2,IsTup.new _ _⟩
end
theorem a9e(xs:List V):jX xs none (some (-1))=xs.take (xs.length-1):=by
 unfold jX;have e:=_H.Jw (-1) xs.length xs.length;rw[_H.O2];have e2:_H.cj xs.length xs.length (some (-1))=xs.length-1:=by simp at e;omega
 rw[e2];simp
section
variable {X:Cx}
theorem Zk(K:aa)(h:X.K=K){o e:Expr}{to:TE}{t:TA}{apos bN:Pos}(ho:PE X o to)(ha:PA X [e] t) (gf:autoParam (attributeBase o "extend" X.env (eval o X.env)=eval o X.env) r8_._auto_1) (gc:autoParam (((backTo bN (starEach [e] X.env)).all (λx=>!x.1)&&(backToKw bN (keywordEach [] X.env)).all (λx=>x.1.isSome) &&decide ([e].length+([]:List Keyword).length+(if([]:List Keyword).isEmpty then 0 else 1)<30))=true) r8_._auto_1) (gb:autoParam ((apos.endLine==bN.line)=true) r8_._auto_1)(hs:autoParam (starEach [e] X.env=(false,eval e X.env)::starEach [] X.env) r8_._auto_1)(g9:autoParam ((backTo bN (starEach [] X.env)).any (·.1)=false) r8_._auto_1): PE X (.Call (.Attribute o "extend" apos) [e] [] bN) (m5 K "list" OQ to t):=by subst h;exact nX Ki PySem.F.slot_list_extend PySem.F.type_list_extend a2v ho ha gf gc gb hs g9
open PyProof
end
end _L
namespace _L
open PySem PySem.Spec PyProof.Rows
section
variable {K:aa} {H H' H2:Hp}
end
def vC(z:Str):It:=⟨λi _=>i<z.cps.size,λi H x H'=>H'=H/\∃c,z.cps.toList[i]? =some c/\x= .str ⟨#[c]⟩,λi _=>z.cps.size<=i⟩
theorem W7{P:af}{w:World}{K:aa}{tg:Expr}(it:Addr)(z:Str)(t:Tok)(ty:String)(Hv:["enumerate","zip","dict_itemiterator","dict_reverseitemiterator","odict_iterator","itertools.zip_longest","itertools.pairwise"].contains ty=false) (W:∀A':ai,A'.handled=none->Walks P w A' it [it] [it] z.cps.size (SignAt z) (λi h=>h.IsStrIter it ty z t i)) (self:∀(A:ai)(i:Nat)(s:ae)(Q:Value->ae->Prop)(E:Value->ae->Prop),s.heap.IsStrIter it ty z t i->Q (.ref it) s->wpAny (model P w) A (pyIter (.ref it)) Q E s): Turn P w K tg (vC z) [it] it (λi h=>h.IsStrIter it ty z t i/\i<=z.cps.size) where
 mem:=by simp
 obj:=λi h st b hb=>by
  have e:b=it:=by simpa using hb
  subst e;obtain⟨⟨o,e,c,d⟩,_⟩:=st;exact⟨o,e,λv z=>by rw[d]at z;cases z⟩
 keep:=λi h h' st k=>⟨let⟨o,e,r⟩:=st.1;⟨o,k it (by simp) o e,r⟩,st.2⟩
 item:=by intro X hP hw hK hc i pins s O H E I hf st hg;subst hP hw hK;obtain⟨f0,f1,f2,f3,f4,f5⟩:=hf it (by simp);refine(W X.A (I.ok.hd hc)).item i s _ _ hg st.1 λv h' tk hv gs kk=>?_;obtain⟨c,u,ec,rfl⟩:=hv;have I1:Inv X pins O H {s with heap:=h',toks:=tk}:=I.turned (λb o hb e=>kk b o (by simpa using hb) e) f0 f1 f3 f4 f5;obtain⟨o,e,cl,d⟩:=id gs;exact⟨_,Z,yc (s:={s with heap:=h',toks:=tk}) e cl d Hv ⟨.str ⟨#[c]⟩,H,I1,⟨u,Z⟩,⟨Z,c,by simpa using ec,Z⟩,⟨gs,hg⟩,λb hb=>(hf b hb).1⟩⟩
 done:=by intro X hP hw hK hc i pins s O H E I hf st hg;subst hP hw hK;obtain⟨f0,f1,f2,f3,f4,f5⟩:=hf it (by simp);obtain⟨st,hle⟩:=st;have ei:i=z.cps.size:=Nat.le_antisymm hle hg;subst ei;exact(W X.A (I.ok.hd hc)).done s _ _ st λh' tk eb=>⟨Z,I.turned (λb o hb e=>eb b o (by simpa using hb) e) f0 f1 f3 f4 f5⟩
 self:=λA i s Q E st h=>self A i s Q E st.1 h
section
variable {X:Cx} {tg:Expr}
inductive acB(R:It->Hp->Prop)(x:V)(H1:Hp):Prop |mk (z:_)(h0:x= .str z)(h1:R (vC z) H1)
def a46(tl:TE):TI:=λO H R=>tl O H λx H1=>acB R x H1
theorem Gb{l:Expr}{tl:TE}(hl:PE X l tl):PI X tg l (a46 tl):=by
 intro pins s O H R I h;refine aZ (hl pins s O H _ I h) λv s1 ⟨x,H1,I1,r1,q1⟩=>?_;obtain⟨z,e,q⟩:=q1;subst e;obtain⟨t,rfl⟩:=r1;have fin:∀ty,["enumerate","zip","dict_itemiterator","dict_reverseitemiterator","odict_iterator","itertools.zip_longest","itertools.pairwise"].contains ty=false->(∀A':ai,A'.handled=none->Walks X.prog X.w A' s1.heap.objs.size [s1.heap.objs.size] [s1.heap.objs.size] z.cps.size (SignAt z) (λi h=>h.IsStrIter s1.heap.objs.size ty z t i))->(∀(A:ai)(i:Nat)(s:ae)(Q:Value->ae->Prop)(E:Value->ae->Prop),s.heap.IsStrIter s1.heap.objs.size ty z t i->Q (.ref s1.heap.objs.size) s->wpAny (model X.prog X.w) A (pyIter (.ref s1.heap.objs.size)) Q E s)->JW X pins O tg R (.ref s1.heap.objs.size) {s1 with heap:=s1.heap.push {cls:=.type ty,data:=.fields #[.str z t,.int 0 0]}}:=λty h1 h2 h3=>by
  refine⟨s1.heap.objs.size,[s1.heap.objs.size],_,_,H1,Z,I1.kept (t':=s1.toks) λb o e=>cw _ e,W7 _ z t ty h1 h2 h3,⟨⟨_,dH _ Z,Z,Z⟩,fC _⟩,λb hb=>?_,q⟩;have e:b=s1.heap.objs.size:=by simpa using hb
  subst e;exact I1.oN (bI _) (I1.bp.fresh (bI _))
 cases ha:z.cps.all (·<128)
 ·exact wpAny_pyIter_wide ha (fin "str_iterator" ay (λA' hA=>Walks.strWide hA _ z t) (λ_ _ _ _ _ st h=>wpAny_pyIter_striter_wide st h))
 ·exact wpAny_pyIter_ascii ha (fin "str_ascii_iterator" ay (λA' hA=>Walks.strAscii hA _ z t) (λ_ _ _ _ _ st h=>wpAny_pyIter_striter_ascii st h))
theorem Tr{z:Str}{f:Nat->Bool}{te:TE}{Q:VK}{D:Addr}{H H0:Hp}(rest:St)(nw:Nw H H0 D (.lst []))(hz:z.length<=1000) (hs:∀(c:Nat)(H2:Hp)(Q':VK),c∈z.cps.toList->aD H H2->(∀H3,aD H2 H3->Q' (.bl (f c)) H3)->te (some (.str ⟨#[c]⟩)::rest) H2 Q') (hq:∀H',aD H H'->H' D=some (.lst ((z.cps.toList.map f).map V.bl))->Q (.ref D) H'):kI (vC z) (gB 0) jJ te Q D (none::rest) H0:=by
 have hl:z.cps.toList.length=z.cps.size:=by simp
 refine Ts (xs:=z.cps.toList.map λc=>V.str ⟨#[c]⟩) (bs:=z.cps.toList.map f) rest nw (by simp) (by simpa[Str.length]using hz) ?_ ?_ ?_ hq
 ·intro i x H2 ex s2
  rw[bR]at ex;cases ec:z.cps.toList[i]? with |none=>rw[ec]at ex;cases ex |some c=>rw[ec]at ex;cases ex;refine⟨by have:=(dw.mp ec).1;show i<z.cps.size;omega,λy H3 ⟨e3,c',SM,e⟩=>⟨e3,?_⟩⟩;rw[ec]at SM;cases SM;exact e
 ·intro H2 s2
  show z.cps.size<=(z.cps.toList.map _).length;rw[bM,hl];exact bI _
 ·intro i x b H2 Q' ex eb s2 mO
  rw[bR]at ex eb;cases ec:z.cps.toList[i]? with |none=>rw[ec]at ex;cases ex |some c=>rw[ec]at ex eb;cases ex;cases eb;exact hs c H2 Q' (fc ec) s2 mO
theorem Pj:cO X (compareOp .In) (λx y H Q=>∃c j,x= .str ⟨#[c]⟩/\y= .str j/\Q (.bl (decide (c∈j.cps.toList))) H):=by intro pins s O H x y v u Q I rx ry h;obtain⟨c,j,rfl,rfl,q⟩:=h;refine ZE pins s O H _ _ v u Q I rx ry ⟨_,_,Z,Z,?_⟩;rw[PySem.StrLaws.found_one];exact q
inductive acm(K:aa)(x:V)(y:V)(H:Hp)(Q:VK):Prop |mk (p:_)(xs:_)(d:_)(ds:_)(h0:y= .ref p)(h1:aY K H p xs)(h2:RD K H x d)(h3:aL K H xs ds)(h4:SeqAt.shaped d=true)(h5:(∀e∈ds,SeqAt.shaped e=true))(h6:Q (.bl (ds.any λe=>PyData.eqv e d)) H)
def YG(K:aa):R2:=λx y H Q=>acm K x y H Q
theorem a40(K:aa)(hK:X.K=K)(hu:X.A.units+65<cLine):cO X (compareOp .In) (YG K):=by
 subst hK;intro pins s O H x y v u Q I rx ry h;obtain⟨p,xs,d,ds,rfl,hx,hd,qe,sd,Xr,q⟩:=h;cases ry;obtain⟨its,r,pl,hz⟩:=I.tuple hx;obtain⟨k1,k2⟩:=Sx I hu rx hd sd r qe Xr;refine SeqAt.in_tupleAt (sX s.heap d) (show s.heap.IsTuple p its.toArray from pl) (λw hw=>k1 w (by simpa using hw)) ⟨.bl _,H,I,Z,?_⟩;have e:its.toArray.any (sX s.heap d)=ds.any λe=>PyData.eqv e d:=by rw[<-k2];simp
 rw[e];exact q
end
structure MA(K:aa)(C:Addr)(m qual:Str)(st:Stmt):Prop where ex:∃f fd,Meth K C m f/\ka K m qual st f fd
def bQ(P:af)(w:World)(K:aa)(mg:bD)(ao:Heap)(C:Addr)(m:Str)(k:Nat)(sp:Sp):Prop:=∃f fd ps,eG P w K mg ao ib k f fd ps sp/\Meth K C m f/\Binds K fd ps []
structure CA(K:aa)(mg:bD)(C:Addr)(x qual:Str)(st:Stmt):Prop where
 mgC:mg x=some (.ref C)
 ex:∃f fd,Mk K C f/\ka K "__init__" qual st f fd
def tH(P:af)(w:World)(K:aa)(mg:bD)(ao:Heap)(C:Addr)(x:Str)(k:Nat)(sp:Sp):Prop:=∃f fd ps,eG P w K mg ao ib k f fd ps sp/\Mk K C f/\Binds K fd ps []/\mg x=some (.ref C)
section
variable {P:af}{w:World}{K:aa}{mg:bD}{ao:Heap}
theorem fJ{C:Addr}{m qual:Str}{st:Stmt}{f:Addr}{oc:Value}{od an:Option Addr}{fz:Array (Option Value)}{kV doc pm aH ct:Value} (a:PySem.W.findIn K (.ref C) m=some (some (.ref f)))(i:PySem.W.isFn K (.ref f)=true) (l:K.lookup f=some ⟨oc,od,.func (PySem.W.fnOf m qual (jb st) (fj st) (aM st) .none kV doc pm an aH ct),fz⟩) (c:PySem.W.codeIn K aH qual=true)(k:PySem.W.keepIn K (.ref f)=true):MA K C m qual st:=⟨f,_,⟨a,i,k⟩,IS l c k⟩
theorem TQ{h:Heap}{C:Addr}{x qual:Str}{st:Stmt}{f:Addr}{oc:Value}{od an:Option Addr}{fz:Array (Option Value)}{kV doc pm aH ct:Value}(X:K.In h)(G:h.Ns mainGlobals mg) (aC:PySem.W.nsIn K mainGlobals x=some (some (.ref C)))(mk:PySem.W.makesIn K C=true)(kc:PySem.W.keepIn K (.ref C)=true) (a:PySem.W.findIn K (.ref C) "__init__"=some (some (.ref f)))(i:PySem.W.isFn K (.ref f)=true) (l:K.lookup f=some ⟨oc,od,.func (PySem.W.fnOf "__init__" qual (jb st) (fj st) (aM st) .none kV doc pm an aH ct),fz⟩) (c:PySem.W.codeIn K aH qual=true)(k:PySem.W.keepIn K (.ref f)=true):CA K mg C x qual st:=⟨tP X G aC,f,_,⟨mk,a,i,kc⟩,IS l c k⟩
theorem MA.has{C:Addr}{m qual:Str}{st:Stmt}{N ps:List Str}{k:Nat}{sp:Sp}(F:MA K C m qual st)(S:aW N ps (aM st))(len:∀vs H Q E,sp vs H Q E->vs.length=ps.length) (hb:∀(kV doc pm:Value)(an:Option Addr)(aH ct:Value)(us:List Value),us.length=ps.length->bindArgs (PySem.W.fnOf m qual (jb st) (fj st) (aM st) .none kV doc pm an aH ct) ⟨us,[]⟩=pure (ps.zip us)) (fO:∀(f:Addr)(aH:Value)(A:ai)(outer:List Env)(s:ae)(H:Hp)(vs:List V)(Q:VK)(E:XK),cN k (A.deeper (envOfC qual (aM st) s.heap.objs.size f aH))->sp vs H Q E->∃t,fA (gC ib P w K mg ao N qual (aM st) f aH A outer s H E).rY (fj st) t/\t {nx:=λ_ H'=>Q .bw H',rt:=Q} (start N vs) H):bQ P w K mg ao C m (k+1) sp:=by obtain⟨f,fd,hm,F⟩:=F.ex;exact⟨f,fd,ps,F.ok S len λaH A outer s H vs Q E=>fO f aH A outer s H vs Q E,hm,F.binds hb⟩
theorem CA.has{C:Addr}{x qual:Str}{st:Stmt}{N ps:List Str}{k:Nat}{sp:Sp}(F:CA K mg C x qual st)(S:aW N ps (aM st))(len:∀vs H Q E,sp vs H Q E->vs.length=ps.length) (hb:∀(kV doc pm:Value)(an:Option Addr)(aH ct:Value)(us:List Value),us.length=ps.length->bindArgs (PySem.W.fnOf "__init__" qual (jb st) (fj st) (aM st) .none kV doc pm an aH ct) ⟨us,[]⟩=pure (ps.zip us)) (fO:∀(f:Addr)(aH:Value)(A:ai)(outer:List Env)(s:ae)(H:Hp)(vs:List V)(Q:VK)(E:XK),cN k (A.deeper (envOfC qual (aM st) s.heap.objs.size f aH))->sp vs H Q E->∃t,fA (gC ib P w K mg ao N qual (aM st) f aH A outer s H E).rY (fj st) t/\t {nx:=λ_ H'=>Q .bw H',rt:=Q} (start N vs) H):tH P w K mg ao C x (k+1) sp:=by obtain⟨f,fd,hm,F'⟩:=F.ex;exact⟨f,fd,ps,F'.ok S len λaH A outer s H vs Q E=>fO f aH A outer s H vs Q E,hm,F'.binds hb,F.mgC⟩
end
section
variable {X:Cx}{k:Nat}{x m:Str}{C:Addr}{p pos apos:Pos}{o e:Expr}{es:List Expr}{t:TA}{ta:TE}{sp:Sp}
inductive Uz(C:Addr)(m:Str)(sp:Sp)(t:TA)(O:St)(Q:VK)(x:V)(H1:Hp):Prop |mk (a:_)(dx:_)(fs:_)(h0:x= .ref a)(h1:H1 a=some (.ins C dx fs))(h2:fs.lookup m=none)(h3:t O H1 λvs H2=>sp (x::vs) H2 Q E0)
def CO(C:Addr)(m:Str)(sp:Sp)(ta:TE)(t:TA):TE:=λO H Q=>ta O H λx H1=>Uz C m sp t O Q x H1
theorem Q5{O:St}{Q:VK}{x:V}{H1:Hp}:tJ C m sp [] E0 t O Q x H1=Uz C m sp t O Q x H1:=by
 have e1:(λ(vs:List V) H1=>sp (x::(vs++[])) H1 Q E0)=λvs H1=>sp (x::vs) H1 Q E0:=by funext vs H1;rw[qO]
 refine propext ⟨λ⟨a,dx,fs,h0,h1,h2,h3⟩=>⟨a,dx,fs,h0,h1,h2,?_⟩,λ⟨a,dx,fs,h0,h1,h2,h3⟩=>⟨a,dx,fs,h0,h1,h2,?_⟩⟩
 ·rw[<-e1];exact h3
 ·rw[e1];exact h3
theorem mq{pl:Sem Bool}(F:bQ X.prog X.w X.K X.mg X.ao C m k sp)(c:hZ X.K C)(hr:cN k X.A)(he:PE X o ta)(ha:PA X (e::es) t) (g6:autoParam (starEach (e::es) X.env=(false,eval e X.env)::starEach es X.env) r8_._auto_1)(eZ:autoParam ((backTo pos (starEach es X.env)).any (·.1)=false) r8_._auto_1) (ht:eval (.Call (.Attribute o m apos) (e::es) [] pos) X.env=(do
 let ov<-eval o X.env
 standAt apos.atName
 let(f,first)<-holding [ov] (getMethod ov m pl)
 callWith pos f first (backTo pos (starEach (e::es) X.env)) (backToKw pos (keywordEach [] X.env))):=by rfl): PE X (.Call (.Attribute o m apos) (e::es) [] pos) (CO C m sp ta t):=by
 obtain⟨f,fd,ps,F,hm,hb⟩:=F;have h:=P2 (pos:=pos) (apos:=apos) (pl:=pl) he c hm F hr hb .nil Au ha g6 eZ ht;intro pins s O H Q I hq;refine h pins s O H Q I ?_;show ta O H λx H1=>tJ C m sp [] E0 t O Q x H1;simp only[Q5];exact hq
theorem cZ{pl:Sem Bool}(F:bQ X.prog X.w X.K X.mg X.ao C m k sp)(c:hZ X.K C)(hr:cN k X.A)(he:PE X o ta) (ht:eval (.Call (.Attribute o m apos) [] [] pos) X.env=(do
 let ov<-eval o X.env
 standAt apos.atName
 let(f,first)<-holding [ov] (getMethod ov m pl)
 callWith pos f first (backTo pos (starEach [] X.env)) (backToKw pos (keywordEach [] X.env))):=by rfl): PE X (.Call (.Attribute o m apos) [] [] pos) (CO C m sp ta m4):=by
 obtain⟨f,fd,ps,F,hm,hb⟩:=F;have h:=P1 (pos:=pos) (apos:=apos) (pl:=pl) he c hm F hr hb .nil Au ht;intro pins s O H Q I hq;refine h pins s O H Q I ?_;show ta O H λx H1=>tJ C m sp [] E0 m4 O Q x H1;simp only[Q5];exact hq
def WG(C:Addr)(sp:Sp)(t:TA):TE:=λO H Q=>t O H λvs H1=>∀x dx,H1 x=none->H1 dx=none->dx≠x->sp (.ref x::vs) (upd (upd H1 dx (.own x)) x (.ins C dx [])) (λv H2=>v= .bw/\Q (.ref x) H2) E0
theorem Ge(F:tH X.prog X.w X.K X.mg X.ao C x k sp)(hr:cN (k+1) X.A)(hg:Gl X x)(ha:PA X (e::es) t)(gd:autoParam ((x==("__debug__":Str))=false) q8_._auto_1) (he:autoParam (starEach (e::es) X.env=(false,eval e X.env)::starEach es X.env) r8_._auto_1)(eZ:autoParam ((backTo pos (starEach es X.env)).any (·.1)=false) r8_._auto_1): PE X (.Call (.Name x p) (e::es) [] pos) (WG C sp t):=by
 obtain⟨f,fd,ps,F,M,hb,hm⟩:=F;have h:=Z7 (pos:=pos) (p:=p) M F hr hg hm hb .nil Au ha gd he eZ;intro pins s O H Q I hq;refine h pins s O H Q I ?_;have e1:(λ(vs:List V) H1=>∀x dx,H1 x=none->H1 dx=none->dx≠x->sp (.ref x::(vs++[])) (upd (upd H1 dx (.own x)) x (.ins C dx [])) (λv H2=>v= .bw/\Q (.ref x) H2) E0) =λvs H1=>∀x dx,H1 x=none->H1 dx=none->dx≠x->sp (.ref x::vs) (upd (upd H1 dx (.own x)) x (.ins C dx [])) (λv H2=>v= .bw/\Q (.ref x) H2) E0:=by funext vs H1;rw[qO]
 show t O H λvs H1=>∀x dx,H1 x=none->H1 dx=none->dx≠x->sp (.ref x::(vs++[])) (upd (upd H1 dx (.own x)) x (.ins C dx [])) (λv H2=>v= .bw/\Q (.ref x) H2) E0;rw[e1];exact hq
inductive IAt(C:Addr)(x:Str)(Q:VK)(v:V)(H1:Hp):Prop |mk (a dx:Addr)(fs:List (Str×V))(u:V)(h0:v= .ref a)(h1:H1 a=some (.ins C dx fs))(h2:fs.lookup x=some u)(h3:Q u H1)
theorem cC(T:hZ X.K C)(hn:gR X.K C x)(he:PE X e ta)(hb:autoParam (attributeBase e x X.env (eval e X.env)=eval e X.env) r8_._auto_1): PE X (.Attribute e x pos) (λO H Q=>ta O H λv H1=>IAt C x Q v H1):=by intro pins s O H Q I h;refine Ub hb (aZ (he pins s O H _ I h) λu s1 ⟨v,H1,I1,rx,a,dx,fs,w,ex,ea,l,q⟩=>?_);subst ex;obtain rfl:u=Value.ref a:=rx;exact S8 I1 ea T hn l λu' s2 I2 ru=>⟨w,H1,I2,ru,q⟩
inductive acK(C:Addr)(x:Str)(D:Ends)(O:St)(y v:V)(H2:Hp):Prop |mk (a dx:Addr)(fs:List (Str×V))(h0:v= .ref a)(h1:H2 a=some (.ins C dx fs))(h2:fs.length<1000)(h3:D.nx O (upd H2 a (.ins C dx (ip x y fs))))
inductive acO(C a:Addr)(x:Str)(D:Ends)(O:St)(z:V)(H3:Hp):Prop |mk (qv:Addr)(lK:List (Str×V))(h0:H3 a=some (.ins C qv lK))(h1:lK.length<1000)(h2:D.nx O (upd H3 a (.ins C qv (ip x z lK))))
inductive acP(C:Addr)(x:Str)(tv:TE)(rd:V->V->Hp->VK->Prop)(D:Ends)(O:St)(v:V)(H1:Hp):Prop |mk (a dx:Addr)(fs:List (Str×V))(u:V)(h0:v= .ref a)(h1:H1 a=some (.ins C dx fs))(h2:fs.lookup x=some u)(h3:tv O H1 λy H2=>rd u y H2 λz H3=>acO C a x D O z H3)
theorem fF{value:Expr}{tv:TE}{pos':Pos}(T:hZ X.K C)(hn:gR X.K C x)(ha:PE X o ta)(hv:PE X value tv)(hs:autoParam (swapsWith value (some (.Attribute o x pos')) pos.line X.env=pure false) r8_._auto_1): PS X (.Assign [.Attribute o x pos'] value pos) (λD O H=>tv O H λy H1=>ta O H1 λv H2=>acK C x D O y v H2):=by intro pins s O H D I h;refine plainObj_wpAny_Assign_Attribute (aZ (hv pins s O H _ I h) λu s1 ⟨y,H1,I1,ry,q⟩=>aZ (ha pins s1 O H1 _ I1 q) λov s2 ⟨v,H2,I2,rx,a,dx,fs,ex,ea,l,q2⟩=>?_) hs;subst ex;obtain rfl:ov=Value.ref a:=rx;exact Mm I2 ea T hn l ry λs3 I3=>⟨O,_,I3,q2⟩
theorem YR{op:Operator}{rd:V->V->Hp->VK->Prop}{value:Expr}{tv:TE}{nP:Pos}(T:hZ X.K C)(hn:gR X.K C x)(ha:PE X o ta)(hv:PE X value tv)(hop:acx X op rd): PS X (.AugAssign (.Attribute o x nP) op value pos) (λD O H=>ta O H λv H1=>acP C x tv rd D O v H1):=by intro pins s O H D I h;refine wpAny_AugAssign_AttributeAny (aZ (ha pins s O H _ I h) λov s1 ⟨v,H1,I1,rx,a,dx,fs,u,ex,ea,l,q⟩=>?_);subst ex;obtain rfl:ov=Value.ref a:=rx;refine S8 I1 ea T hn l λu s2 I2 ru=>aZ (hv pins s2 O H1 _ I2 q) λw3 s3 ⟨y,H2,I3,ry,q3⟩=>aZ (hop pins s3 O H2 _ y u w3 _ I3 ru ry q3) λw4 s4 ⟨z,H3,I4,rz,qv,lK,vh,l',q4⟩=>?_;exact Mm I4 vh T hn l' rz λs5 I5=>⟨O,_,I5,q4⟩
end
def cB(S:List Addr)(H H':Hp):Prop:=∀b o,H b=some o->b∉S->H' b=some o
theorem cB.refl(S:List Addr)(H:Hp):cB S H H:=λ_ _ e _=>e
theorem cB.of{S:List Addr}{H H':Hp}(s:aD H H'):cB S H H':=λb o e _=>s b o e
theorem cB.trans{S:List Addr}{H H1 H2:Hp}(a:cB S H H1)(b:cB S H1 H2):cB S H H2:=λc o e n=>b c o (a c o e n) n
theorem cB.mono{S S':List Addr}{H H1:Hp}(h:∀x,x∈S->x∈S')(a:cB S H H1):cB S' H H1:=λc o e n=>a c o e λz=>n (h c z)
theorem BS{S:List Addr}{H:Hp}{a:Addr}{o:HO}(h:a∈S):cB S H (upd H a o):=λb o' e n=>by have hb:b≠a:=λz=>n (by rw[z];exact h);rw[aU hb];exact e
def K3:HO->Prop | .lst _=>True | .ins _ _ _=>True | .dK _=>True | .nQ _=>True |_=>False
def cT(H H':Hp):Prop:=∀b o,¬K3 o->H b=some o->H' b=some o
section
variable {K:aa} {H H' H2:Hp}
theorem cT.refl:cT H H:=λ_ _ _ e=>e
theorem cT.trans(a:cT H H')(b:cT H' H2):cT H H2:=λc o n e=>b c o n (a c o n e)
theorem hV.v(s:hV H H'):cT H H':=λb o n e=>s b o (λxs z=>n (by rw[z];trivial)) e
theorem aD.v(s:aD H H'):cT H H':=λb o _ e=>s b o e
theorem cB.v{S:List Addr}(s:cB S H H')(h:∀x∈S,∀o,H x=some o->K3 o):cT H H':=λb o n e=>s b o e λz=>n (h b z o e)
theorem cT.upd{a:Addr}{o o':HO}(h:H a=some o)(m:K3 o):cT H (upd H a o'):=λb p n e=>by
 have hb:b≠a:=λz=>by rw[z,h]at e;cases e;exact n m
 rw[aU hb];exact e
theorem aY.v{a:Addr}{xs:List V}(s:cT H H')(h:aY K H a xs):aY K H' a xs:=h.imp (λr=>r.imp (s _ _ (λz=>z)) λ⟨o,e⟩=>⟨o,s _ _ (λz=>z) e⟩) id
mutual
theorem RD.v(s:cT H H'):∀{x:V}(d:ah),ek d=true->RD K H x d->RD K H' x d |x,.none,_,h=>by simpa[RD]using h |x,.bool b,_,h=>by simpa[RD]using h |x,.int i,_,h=>by simpa[RD]using h |x,.str y,_,h=>by simpa[RD]using h |x,.list ds,n,h=>by simp[ek]at n |x,.tuple ds,n,h=>by rw[RD]at h⊢;obtain⟨a,xs,e,h1,h2⟩:=h;exact⟨a,xs,e,h1.v s,aL.v s ds (by simpa[ek]using n) h2⟩ |x,.dict _,_,h=>by simp[RD]at h
theorem aL.v (s:cT H H'):∀{xs:List V}(ds:List ah),cx ds=true->aL K H xs ds->aL K H' xs ds |xs,[],_,h=>by simpa[aL]using h |xs,d::ds,n,h=>by rw[aL]at h⊢;rw[cx,eK]at n;obtain⟨y,ys,e,h1,h2⟩:=h;exact⟨y,ys,e,RD.v s d n.1 h1,aL.v s ds n.2 h2⟩
end
end
end _L
namespace _P
section
variable {n:Nat}{own:Nat->Rat}{L:Nat->Option Nat}{r f:Int}
end
end _P
namespace _O
open _P _l _C
end _O
namespace _P
section
variable {n:Nat}{own Pc:Nat->Rat}{L L':Nat->Option Nat}{r f:Int}
end
section
variable {n:Nat}{own Pc q:Nat->Rat}{L:Nat->Option Nat}{r f r' f':Int}
end
end _P
namespace _O
open _P _l _C
end _O
namespace _P
section
variable {n:Nat}{own Pc:Nat->Rat}{L L':Nat->Option Nat}{r f:Int}{c:Nat}
end
end _P
namespace _O
open _P
section
variable (j az:Int) (os1 os2:List Itm)
end
end _O
namespace _P
section
variable {n:Nat}{own:Nat->Rat}{L:Nat->Option Nat}{r f:Int}
theorem a7b{g:Nat->Rat}{i:Nat}(hi:i<=n):fl n L f g i<=g i:=by
 rcases Nat.lt_or_ge i n with h|h
 ·cases e:L i with |none=>rw[yg h e];exact tO |some m=>rw[yi h e];exact gu _ _
 ·have:i=n:=by lia
  subst this;rw[yh];exact tO
end
end _P
namespace _R
open _P _r _l
open _O (topR ownF leadF Itm OkIs)
theorem BK{n:Nat}{a b:Int}(hb:b≠0)(h2:b.natAbs<2^n):(Rat.divInt a b).den<2^n:=by obtain⟨-,e⟩:=Ha (a:=a) hb;have l2:=_A.Qj (p:=a) hb;omega
structure Dd(D:Nat)(q:Rat):Prop where
 nn:0<=q
 den:q.den<2^D
theorem Dd.mono{D E:Nat}{q:Rat}(h:Dd D q)(l:D<=E):Dd E q:=⟨h.nn,fD h.den (qJ ay l)⟩
theorem Dd.bd{D:Nat}{q:Rat}(h:Dd D q)(hl:q<=2000):Bd (D+11) q:=by
 have h1:=Kc.mpr h.nn;have sP:¬((2000:Rat)<q):=Cf.mpr hl;rw[Rat.lt_iff]at sP;have e1:(2000:Rat).num=2000:=rfl;have e2:(2000:Rat).den=1:=rfl;rw[e1,e2]at sP;have h2:q.num<=2000*(q.den:Int):=by lia
 refine⟨?_,fD h.den (qJ ay au)⟩;have h3:=h.den;have h4:q.num.natAbs<=2000*q.den:=by lia
 have h5:(2:Nat)^(D+11)=2^D*2048:=by rw[Nat.pow_add]
 rw[h5];have h6:2000*q.den<2000*2^D:=Nat.mul_lt_mul_of_pos_left h3 ay
 lia
theorem Dd.mn{D:Nat}{a b:Rat}(h1:Dd D a)(h2:Dd D b):Dd D (mn a b):=by rcases AM a b with e|e<;>rw[e]<;>assumption
theorem Dd.add{D:Nat}{q:Rat}(h:Dd D q){z:Int}(hz:0<=z):Dd D (q+(z:Rat)):=by
 refine⟨a3x h.nn (by have:=Rat.intCast_le_intCast.mpr hz;exact this),?_⟩;rw[add_div,Rat.num_intCast,Rat.den_intCast];have e:(q.den:Int)*((1:Nat):Int)=(q.den:Int):=by lia
 rw[e];have hd:=q.den_pos;exact BK au (by have:=h.den;lia)
theorem SW{a b:Int}(ha:0<=a)(hb:0<b):0<=Rat.divInt a b:=(vK hb).mpr ha
theorem div_pos{a b:Int}(ha:0<a)(hb:0<b):0<Rat.divInt a b:=by
 have h0:=SW (KA ha) hb;refine Kb h0 λe=>?_;have h2:0<=Rat.divInt (-a) b:=by rw[<-Rat.neg_divInt,<-e];decide
 have:=(vK hb).mp h2
 lia
theorem Dd.mul{D m:Nat}{q:Rat}(h:Dd D q){a s:Int}(ha:0<=a)(hs:0<s)(hm:s.natAbs<2^m):Dd (D+m) (q*Rat.divInt a s):=by refine⟨Rat.mul_nonneg h.nn (SW ha hs),?_⟩;have h1:(Rat.divInt a s).den<2^m:=BK au hm;rw[mul_div];have hd:=q.den_pos;have hd2:=(Rat.divInt a s).den_pos;refine BK (yt _ _) ?_;rw[gU];exact oj (by have:=h.den;lia) au
theorem CJ(az sp:Int):Dd 14 (topR az sp):=⟨_O.zA _ _,BK ay ay⟩
theorem zy{az sp:Int}(h1:1<=sp)(h2:sp<=20)(h3:10<=az)(h4:az<=200):topR az sp<=1600:=by
 have e:(1600:Rat)=Rat.divInt 16000000 10000:=by decide+kernel
 rw[e];refine(_C.SY ay).mpr ?_;have hp:sp*az<=20*200:=zc h2 h4 au au;have Bi:0<=sp*az:=kj au au;rw[gq,gq,nN,lX];have:=zc hp hp Bi ay
 lia
theorem Zt{j az:Int}{os:List Itm}(h1:1<=j)(h2:j<=50)(h3:10<=az)(h4:az<=200)(ho:OkIs os)(i:Nat):Dd 64 (ownF j az os i):=⟨_O.Zw _ _ _ _,(_O.Av h1 h2 h3 h4 ho i).den⟩
theorem a7c{D n:Nat}{g:Nat->Rat}{L:Nat->Option Nat}{f:Int}(hf:0<=f)(h:∀i,i<=n->Dd D (g i)):∀i,i<=n->Dd D (fl n L f g i):=by
 refine down ?_ ?_
 ·rw[yh];exact h n (bI _)
 ·intro i hi ih
  cases e:L i with |none=>rw[yg hi e];exact h i au |some m=>rw[yi hi e];exact(h i au).mn (ih.add (kj hf au))
theorem a9T{j az:Int}{o p:Itm}(h3:10<=az)(h4:az<=200)(ho:_O.OkI o):_O.betR j az o p<=1600:=by cases o with |none=>rw[_O.a9U];decide+kernel |some q=>cases p with |none=>rw[_O.U0];decide+kernel |some q'=>obtain⟨ns,sp⟩:=q;obtain⟨ms,sq⟩:=q';obtain⟨-,a1,a2⟩:=ho ns sp rfl;have ht:=zy a1 a2 h3 h4;show _O.mnO (mn (topR az sp) (topR az sq)) (_O.cornO j ns ms)<=1600;cases _O.cornO j ns ms with |none=>exact eH (gu _ _) ht |some c=>exact eH (gu _ _) (eH (gu _ _) ht)
theorem Zs{j az:Int}{os:List Itm}(h3:10<=az)(h4:az<=200)(ho:OkIs os):∀i,ownF j az os i<=1600 |0=>by show(0:Rat)<=1600;decide+kernel |i+1=>a9T h3 h4 (ho i)
abbrev lS:=Option (Rat × Int × Int)
def o8(r f:Int)(pc top R:Rat)(left:Int):lS->Rat |none=>mn (mn (pc+(r:Rat)) top) (R+((f*(2*left-1):Int):Rat)) |some (sq,st,gn)=>mn (mn (mn (pc+(r:Rat)) top) (R+((f*(2*left-1):Int):Rat))) (sq*Rat.divInt (2*(st-gn-1)+1) (2*st))
def uF(r f:Int)(pc top R:Rat)(left:Int):lS->Rat |none=>mn (mn (pc+((2*r:Int):Rat)) top) (R+((2*f*(left-1):Int):Rat)) |some (sq,st,gn)=>mn (mn (mn (pc+((2*r:Int):Rat)) top) (R+((2*f*(left-1):Int):Rat))) (sq*Rat.divInt (st-gn-1) st)
def Gu:lS->lS |none=>none |some (sq,st,gn)=>some (sq,st,gn+1)
def qC(D:Nat)(pc:Rat):lS->Prop |none=>True |some (sq,st,gn)=>0<=gn/\gn<=st/\st<=1000/\Dd D sq/\sq<=2000/\(st=0->pc=0)/\pc*(st:Rat)<=sq*((st-gn:Int):Rat)
def Halt(pc:Rat)(aR:lS):Prop:=aR≠none/\pc=0
theorem xc{D:Nat}{pc:Rat}{sq:Rat}{st gn:Int}(h:qC D pc (some (sq,st,gn)))(hp:0<=pc)(hn:¬Halt pc (some (sq,st,gn))):gn<st/\0<sq/\0<pc:=by
 obtain⟨g0,g1,g2,hd,hl,hz,hh⟩:=h;have xG:0<pc:=Kb hp λe=>hn ⟨by simp,e.symm⟩;have g6:gn<st:=by
  rcases Int.lt_or_le gn st with h|h
  ·exact h
  ·have e:st-gn=0:=by lia
   rw[e]at hh;have e0:sq*((0:Int):Rat)=0:=Rat.mul_zero sq;rw[e0]at hh;exfalso;rcases Int.lt_or_le 0 st with h3|h3
   ·have h4:(0:Rat)<(st:Rat):=UN.mpr h3
    have h5:=Rat.mul_pos xG h4;exact absurd (Std.lt_of_lt_of_le h5 hh) (Rat.lt_irrefl)
   ·rw[hz au]at xG;exact absurd xG (Rat.lt_irrefl)
 refine⟨g6,?_,xG⟩;refine Kb hd.nn λe=>?_;rw[<-e,Rat.zero_mul]at hh;have h4:(0:Rat)<(st:Rat):=UN.mpr (show(0:Int)<st by lia);exact absurd (Std.lt_of_lt_of_le (Rat.mul_pos xG h4) hh) (Rat.lt_irrefl)
section
variable {D:Nat}{r f:Int}{pc top R:Rat}{left:Int}{aR:lS}
theorem a8L:uF r f pc top R left aR<=top:=by cases aR with |none=>exact eH (gu _ _) (lj _ _) |some q=>obtain⟨sq,st,gn⟩:=q;exact eH (gu _ _) (eH (gu _ _) (lj _ _))
theorem Qa:o8 r f pc top R left aR<=top:=by cases aR with |none=>exact eH (gu _ _) (lj _ _) |some q=>obtain⟨sq,st,gn⟩:=q;exact eH (gu _ _) (eH (gu _ _) (lj _ _))
theorem a8M(hr:0<=r)(hf:0<=f)(hl:1<=left)(hp:Dd (D+10) pc)(ht:Dd (D+10) top)(hR:Dd (D+10) R)(hs:qC D pc aR)(hn:¬Halt pc aR):Dd (D+10) (uF r f pc top R left aR):=by have h1:=(hp.add (z:=2*r) au).mn ht;have h2:=hR.add (z:=2*f*(left-1)) (kj au au);cases aR with |none=>exact h1.mn h2 |some q=>obtain⟨sq,st,gn⟩:=q;obtain⟨a,b,c⟩:=xc hs hp.nn hn;obtain⟨g0,g1,g2,hd,hl,hz,hh⟩:=hs;exact(h1.mn h2).mn (hd.mul (m:=10) au au au)
theorem Qc(hr:0<=r)(hf:0<=f)(hl:1<=left)(hp:Dd (D+10) pc)(ht:Dd (D+10) top)(hR:Dd (D+10) R)(hs:qC D pc aR)(hn:¬Halt pc aR):Dd (D+11) (o8 r f pc top R left aR):=by have h1:=((hp.add (z:=r) au).mn ht).mono (show D+10<=D+11 by lia);have h2:=(hR.add (z:=f*(2*left-1)) (kj au au)).mono (show D+10<=D+11 by lia);cases aR with |none=>exact h1.mn h2 |some q=>obtain⟨sq,st,gn⟩:=q;obtain⟨a,b,c⟩:=xc hs hp.nn hn;obtain⟨g0,g1,g2,hd,hl,hz,hh⟩:=hs;exact(h1.mn h2).mn (hd.mul (m:=11) au au au)
theorem add_pos{x:Rat}{z:Int}(hx:0<=x)(hz:0<z):0<x+(z:Rat):=by have h1:((0:Int):Rat)<(z:Rat):=UN.mpr hz;have h2:x+((0:Int):Rat)<x+(z:Rat):=Rat.add_lt_add_left.mpr h1;rw[show((0:Int):Rat)=0 from Z,Rat.add_zero]at h2;exact Std.lt_of_le_of_lt hx h2
theorem GQ{a b:Rat}(ha:0<a)(hb:0<b):0<mn a b:=by rcases AM a b with e|e<;>rw[e]<;>assumption
theorem Qb(hr:1<=r)(hf:1<=f)(hl:1<=left)(hp:0<=pc)(ht:0<top)(hR:0<=R)(hs:qC D pc aR)(hn:¬Halt pc aR):0<o8 r f pc top R left aR:=by have h1:=GQ (GQ (add_pos hp (show 0<r by lia)) ht) (add_pos hR (show 0<f*(2*left-1)from jH au au));cases aR with |none=>exact h1 |some q=>obtain⟨sq,st,gn⟩:=q;obtain⟨a,b,c⟩:=xc hs hp hn;obtain⟨g0,g1,g2,hd,hl,hz,hh⟩:=hs;exact GQ h1 (Rat.mul_pos b (div_pos au au))
theorem SV(a:Int):Rat.divInt a 1=(a:Rat):=by
 conv=>rhs;rw[<-tN (a:Rat)]
 rfl
theorem a96{a s:Int}(hs:0<s):Rat.divInt a s*(s:Rat)=(a:Rat):=by
 have e:(s:Rat)=Rat.divInt s 1:=by rw[SV]
 rw[e,UP _ _,zb,Cu a s];have e2:Rat.divInt (s*a) s=Rat.divInt (s*a) (s*1):=by rw[zb]
 rw[e2,Rat.divInt_mul_left au,SV]
theorem X3(hs:qC D pc aR)(hp:0<=pc)(hn:¬Halt pc aR):qC D (uF r f pc top R left aR) (Gu aR):=by cases aR with |none=>trivial |some q=>
 obtain⟨sq,st,gn⟩:=q;obtain⟨a,b,c⟩:=xc hs hp hn;obtain⟨g0,g1,g2,hd,hl,hz,hh⟩:=hs;refine⟨au,au,g2,hd,hl,λe=>by lia,?_⟩;have h1:uF r f pc top R left (some (sq,st,gn))<=sq*Rat.divInt (st-gn-1) st:=lj _ _;have h2:(0:Rat)<=(st:Rat):=Rat.intCast_nonneg.mpr au;have h3:=Rat.mul_le_mul_of_nonneg_right h1 h2;have h4:sq*Rat.divInt (st-gn-1) st*(st:Rat)=sq*((st-(gn+1):Int):Rat):=by
  rw[Rat.mul_assoc,a96 au];congr 2
  lia
 rw[h4]at h3;exact h3
end
end _R
namespace _L
open PySem PySem.Spec PyProof.Rows
section
variable {X:Cx}
end
theorem II{K:aa}{mg:bD}{x z:Str}{t:Tok}{h:Heap}(X:K.In h)(G:h.Ns mainGlobals mg)(a:PySem.W.nsIn K mainGlobals x=some (some (.str z t))):GV mg x (.str z):=⟨_,tP X G a,t,Z⟩
theorem a99(f:Array Value->Array Value)(o:Obj):(o.mapFields f).dict=o.dict:=by obtain⟨c,d,dt,sl⟩:=o;cases dt<;>rfl
def TrD(h B:Heap)(ex:Addr)(cls:Value)(dx:Option Addr)(fl:Value):Prop:=∃ob fs tb ot ts,h.get? ex=some ob/\ob.cls=cls/\ob.dict=dx/\ob.data= .fields fs/\fs[1]? =some (.ref tb)/\B.get? tb=none/\tb≠ex/\h.get? tb=some ot/\ot.data= .fields ts/\ts[3]? =some fl/\fs[2]? =some .none
def jD(B:Heap)(l:List Env)(ex:Addr)(cls:Value)(dx:Option Addr)(fl:Value)(h:Heap):Prop:=B.StaysIn h/\B.get? ex=none/\h.FunFrames B l/\TrD h B ex cls dx fl
theorem jD.there{B h:Heap}{l:List Env}{ex:Addr}{cls fl:Value}{dx:Option Addr}(x:jD B l ex cls dx fl h):∃ob,h.get? ex=some ob/\ob.cls=cls/\ob.dict=dx/\∃fs,ob.data= .fields fs/\fs[2]? =some .none:=by obtain⟨_,_,_,ob,fs,_,_,_,e,c,d,z,_,_,_,_,_,_,z2⟩:=x;exact⟨ob,e,c,d,fs,z,z2⟩
section
variable {M:Model}{A:ai}{E:Value->ae->Prop}{s:ae}{B:Heap}{env:Env}{outer:List Env}{L ex:Addr}{ob:Obj}{fs:Array Value}{head:Value}{nx:Bool}{Q:Unit->ae->Prop}{cls fl:Value}{dx:Option Addr}
theorem SD(hA:A.frames=some (env::outer))(ff:s.heap.FunFrames B (env::outer))(hL:env.frame=some L)(ho:s.heap.get? ex=some ob)(st:B.StaysIn s.heap)(hB:B.get? ex=none)(hd:ob.data= .fields fs)(hz:1<fs.size)(gz:fs[2]? =some .none) (q:∀h',jD B (env::outer) ex ob.cls ob.dict (rawInt L) h'->s.heap.UpToSlots h'->Q () {s with heap:=h'}): wpAny M A (do let a<-frameOf env;let pl<-entryPlaceOf L nx;let b<-EntryCells.newEntry head a .none (rawInt L) .none pl;setField (.ref ex) 1 b) Q E s:=by
 have pQ:ex∉(env::outer).filterMap (·.frame):=λhm=>by obtain⟨_,o,e1,nf⟩:=ff.mem hm;rw[ho]at e1;cases e1;exact nf fs hd
 refine aK (wpAny_frameOf_fun hA ff hL λg1 k1=>aK (wpAny_entryPlaceOf λpl hp=>?_));unfold EntryCells.newEntry newFields;refine aK (nC ?_ (hp.sizeOk5 _ _ _ _ _));have o1:g1.get? ex=some ob:=(k1.2.1 ex pQ).trans ho;have zL:B.StaysIn g1:=λb o e=>(k1.2.1 b λhm=>by rw[(ff.mem hm).1]at e;cases e).trans (st b o e);generalize hT:({cls:=.type "traceback",dict:=none,data:=.fields ([head,.ref L,.none,rawInt L,.none]++(if pl.isEmpty then List.replicate 6 Value.none else pl)).toArray}:Obj)=T;have o2:(g1.push T).get? ex=some ob:=cw T o1;refine C6 o2 hd hz (q _ ?_ ?_);all_goals have ne:g1.objs.size≠ex:=vO (cm o1)
 all_goals have keep:∀b o,b≠ex->g1.get? b=some o->((g1.push T).update ex (Obj.mapFields (·.setIfInBounds 1 (Value.ref g1.objs.size)))).get? b=some o:=λb o nb e=>by rw[zd _ _ (iV nb)];exact cw _ e
 all_goals have pO:∀b o,s.heap.get? b=some o->(∀vs,o.data≠ .fields vs)->b≠ex:=λb o e nf z=>by rw[z,ho]at e;cases e;exact nf fs hd
 ·have d3:=Cj hd (·.setIfInBounds 1 (Value.ref g1.objs.size))
  have o3:=KD (Obj.mapFields (·.setIfInBounds 1 (Value.ref g1.objs.size))) o2 (V3 d3);refine⟨λb o e=>keep b o (λz=>by rw[z,hB]at e;cases e) (zL b o e),hB,ff.of_keeps λb o e nf=>?_,?_⟩
  ·obtain⟨sl,e1⟩:=k1.2.2 b o e
   exact⟨_,keep b _ (pO b o e nf) e1,Z⟩
  ·refine⟨_,_,g1.objs.size,T,_,o3,Obj.cls_mapFields _ _,a99 _ _,d3,by simp[hz],zL.fresh,ne,?_,by rw[<-hT],?_⟩
   ·rw[zd _ _ (iV ne)];exact dH g1 (by rw[<-hT];rfl)
   ·refine⟨?_,by simpa using gz⟩
    first|(simp;done)|(rcases hp with rfl|⟨_,_,_,_,_,_,_,rfl⟩<;>simp)
 ·intro b o e nf
  obtain⟨sl,e1⟩:=k1.2.2 b o e;exact⟨sl,keep b _ (pO b o e nf) e1⟩
theorem a1Z(hA:A.frames=some (env::outer))(ff:s.heap.FunFrames B (env::outer))(hL:env.frame=some L)(ho:s.heap.get? ex=some ob)(st:B.StaysIn s.heap)(hB:B.get? ex=none)(hd:ob.data= .fields fs)(h1:fs[1]? =some .none)(gz:fs[2]? =some .none) (q:∀h',jD B (env::outer) ex ob.cls ob.dict (rawInt L) h'->s.heap.UpToSlots h'->Q () {s with heap:=h'}):wpAny M A (noteFrame (.ref ex) env) Q E s:=by unfold noteFrame;simp only[hL];refine aK (iz ho hd h1 ?_);rw[bf ay];exact SD hA ff hL ho st hB hd (KG.mp h1).1 gz q
theorem PD(hA:A.frames=some (env::outer))(hL:env.frame=some L)(x:jD B (env::outer) ex cls dx .none s.heap) (q:∀h',jD B (env::outer) ex cls dx (rawInt L) h'->s.heap.UpToSlots h'->Q () {s with heap:=h'}):wpAny M A (noteFrame (.ref ex) env) Q E s:=by
 obtain⟨st,hB,ff,ob,fs,tb,ot,ts,ho,rfl,rfl,hd,h1,Bu,nt,ht,qd,h3,gz⟩:=x;unfold noteFrame;simp only[hL];refine aK (iz ho hd h1 ?_);rw[bc (show(Value.ref tb !=Value.none)=true from by simp)];refine aK (iz ht qd h3 ?_);rw[bf (show¬((Value.none==rawInt L)=true)from by simp[rawInt])];refine aK (C6 ht qd (KG.mp h3).1 ?_);have other:∀b,b≠tb->(s.heap.update tb (Obj.mapFields (·.setIfInBounds 3 Value.none))).get? b=s.heap.get? b:=λb nb=>zd _ _ (iV nb);have pO:∀b o,s.heap.get? b=some o->(∀vs,o.data≠ .fields vs)->b≠tb:=λb o e nf z=>by rw[z,ht]at e;cases e;exact nf ts qd
 refine SD (s:={s with heap:=s.heap.update tb (Obj.mapFields (·.setIfInBounds 3 Value.none))}) hA (ff.of_keeps λb o e nf=>⟨o,(other b (pO b o e nf)).trans e,Z⟩) hL ((other ex (iV nt)).trans ho) (λb o e=>(other b λz=>by rw[z,Bu]at e;cases e).trans (st b o e)) hB hd (KG.mp h1).1 gz λh' y up=>q h' y λb o e nf=>up b o ((other b (pO b o e nf)).trans e) nf
theorem BB{l:List Env}(x:jD B l ex cls dx fl s.heap)(q:∀h',jD B l ex cls dx .none h'->s.heap.UpToSlots h'->Q () {s with heap:=h'}):wpAny M A (setFlight (.ref ex) none) Q E s:=by
 obtain⟨st,hB,ff,ob,fs,tb,ot,ts,ho,hc,hx,hd,h1,Bu,nt,ht,qd,h3,gz⟩:=x;have z3:3<ts.size:=(KG.mp h3).1;have other:∀b,b≠tb->(s.heap.update tb (Obj.mapFields (·.setIfInBounds 3 ((none:Option Addr).elim Value.none λf=>rawInt f)))).get? b=s.heap.get? b:=λb nb=>zd _ _ (iV nb);have pO:∀b o,s.heap.get? b=some o->(∀vs,o.data≠ .fields vs)->b≠tb:=λb o e nf z=>by rw[z,ht]at e;cases e;exact nf ts qd
 unfold setFlight;refine aK (iz ho hd h1 ?_);rw[bc (show(Value.ref tb !=Value.none)=true from by simp)];refine C6 ht qd z3 (q _ ⟨λb o e=>(other b λz=>by rw[z,Bu]at e;cases e).trans (st b o e),hB,ff.of_keeps λb o e nf=>⟨o,(other b (pO b o e nf)).trans e,rfl⟩,?_⟩ λb o e nf=>⟨o.slots,(other b (pO b o e nf)).trans e⟩);exact⟨ob,fs,tb,_,_,(other ex (iV nt)).trans ho,hc,hx,hd,h1,Bu,nt,KD _ ht (V3 (Cj qd _)),Cj qd _,by simp[z3],gz⟩
theorem a3u(hA:A.frames=some (env::outer))(ff:s.heap.FunFrames B (env::outer))(hL:env.frame=some L)(ho:s.heap.get? ex=some ob)(st:B.StaysIn s.heap)(hB:B.get? ex=none)(hd:ob.data= .fields fs)(h1:fs[1]? =some .none)(gz:fs[2]? =some .none) (q:∀h',jD B outer ex ob.cls ob.dict .none h'->s.heap.UpToSlots h'->Q () {s with heap:=h'}):wpAny M A (leaving env (.ref ex)) Q E s:=by unfold leaving;refine aK (a1Z hA ff hL ho st hB hd h1 gz λh1 x1 u1=>BB x1 λh2 x2 u2=>q h2 ?_ (u1.trans u2));obtain⟨a,b,⟨_,_,c⟩,d⟩:=x2;exact⟨a,b,c,d⟩
theorem a3t(hA:A.frames=some (env::outer))(hL:env.frame=some L)(x:jD B (env::outer) ex cls dx .none s.heap) (q:∀h',jD B outer ex cls dx .none h'->s.heap.UpToSlots h'->Q () {s with heap:=h'}):wpAny M A (leaving env (.ref ex)) Q E s:=by unfold leaving;refine aK (PD hA hL x λh1 x1 u1=>BB x1 λh2 x2 u2=>q h2 ?_ (u1.trans u2));obtain⟨a,b,⟨_,_,c⟩,d⟩:=x2;exact⟨a,b,c,d⟩
end
end _L
namespace _L
open PySem PySem.Spec PyProof.Rows
open Builtin Builtin.ObjectAttr
section
variable {prog:af}{w:World}{A:ai}{E:Value->ae->Prop}{s:ae}{K:aa}{x C:Addr}{ox:Obj}{fs:Array Value}{name:Str}{v:Value}{Q:Unit->ae->Prop}
end
end _L
namespace _L
open PySem PySem.Spec PyProof.Rows
section
variable {X:Cx}{o e value:Expr}{f:Str}{pos pos' nP:Pos}{ta tv:TE}
end
section
variable {prog:af}{w:World}{A:ai}{E:Value->ae->Prop}{h:Heap}{g:Array GenState}{d:Drawn}{t:Nat}{os:OsState}
variable {nm q:Str}{C N fI:Addr}{bs bm lQ:List Value}{hdct:Bool}{sn:List Str}{sub:List Value}{ab:Bool}{col:Option Bool}{dd:Option Addr}{k0 k1 k2 k3 k5:Option Value}{B newId Hr:String}{mN:bD}{rest:List Value}{oI:Obj}
end
section
variable {M:Model}{A:ai}{E:Value->ae->Prop}{env:Env}{nm q:Str}{C N:Addr}{bs bm:List Value}{hdct:Bool}{sn:List Str}{sub:List Value}{ab:Bool}{col:Option Bool}{dd:Option Addr}{k0 k1 k2 k3 k5:Option Value}{newId:String}
end
def iQ(P:af)(w:World):iR:=λouter H s E e s'=>∃(ex:Addr)(cls:Value)(dx:Option Addr)(H':Hp)(B:Heap),e= .ref ex/\s'.os=s.os/\AllBare s'.gens/\jD B outer ex cls dx .none s'.heap/\Fl P w outer H s.heap ex H' B s'.heap/\E cls dx H'
section
variable {P:af}{w:World}{K:aa}{mg:bD}{ao:Heap}{N:List Str}{qual:Str}{scope:Scope}{f:Addr}{cd:Value}{A:ai}{outer:List Env}{s:ae}{H:Hp}{E:XK}{pins:List (Addr×Obj)}{O:St}{H1:Hp}{s1:ae}{ex:Addr}{C:Addr}{dx:Addr}
end
section
variable {X:Cx}{x:Str}{C fI:Addr}{lQ:List Value}{newId Hr B:String}{e:Expr}{t:TA}{np bN pos:Pos}{k:Nat}{fd:FuncData}{ps:List Str}{sp:Sp}
end
def iP(ex:Addr)(cls:Value)(dx:Option Addr)(h:Heap):Prop:=∃o,h.get? ex=some o/\o.cls=cls/\o.dict=dx/\∃fs,o.data= .fields fs/\fs[2]? =some .none
def ClsAt(K:aa)(C:Addr):Prop:=∀h,K.In h->∃nm q N bs tl hdct sn sub ab col dd k0 k1 k2 k3 k5 newId,h.get? C=some (excClassObj nm q C N bs tl hdct sn sub ab col dd k0 k1 k2 k3 k5 newId)
theorem Exc.cls{K:aa}{mg:bD}{x:Str}{C:Addr}{lQ:List Value}{newId:String}(e:Exc K mg x C lQ newId):ClsAt K C:=λh X=>by obtain⟨tl,N,nm,q,bs,hdct,sn,sub,ab,col,dd,k0,k1,k2,k3,k5,mN,hC,_⟩:=(e.own X).obj;exact⟨nm,q,N,bs,tl,hdct,sn,sub,ab,col,dd,k0,k1,k2,k3,k5,newId,hC⟩
inductive aau(i:Nat)(Cs:Addr->Prop)(tb:XK->TS)(th:TS)(D:Ends)(O:St)(H:Hp):Prop |mk (E:XK)(h0:tb E D O H)(h1:(∀cls dx H',E cls dx H'->∃C,cls= .ref C/\Cs C))(h2:∀(C ex:Addr)(dx:Option Addr)(σ':St)(H':Hp),σ'.length=O.length->E (.ref C) dx H'->H' ex=none->th {nx:=λσ2 H2=>D.nx (σ2.set i none) H2,rt:=D.rt,bk:=λσ2 H2=>D.bk (σ2.set i none) H2,ct:=λσ2 H2=>D.ct (σ2.set i none) H2} (σ'.set i (some (.ref ex))) (upd H' ex (.ext (iP ex (.ref C) dx))))
def Wt(i:Nat)(Cs:Addr->Prop)(tb:XK->TS)(th:TS):TS:=λD O H=>aau i Cs tb th D O H
section
variable {X:Cx}{i:Nat}{n y:Str}{Dc:Addr}{JC:List Value}{newD:String}{body zI:List Stmt}{b0:Stmt}{np uS pos:Pos}{tb:XK->TS}{th:TS}{Cs:Addr->Prop}
theorem OT(g6:X.stack=X.env::X.outer)(hfr:X.env.frame=some X.env.locals)(hN:X.N.Nodup)(hi:X.N[i]? =some n)(hk:X.env.kindOf n=some .local)(hs:X.env.scope.names.lookup n=some .local) (hb:∀(E:XK)(xe:Value->ae->Prop),Passes (iQ X.prog X.w) (X.ji xe) E->fA (X.ji xe) body (tb E)) (hg:Gl X y)(hy:Exc X.K X.mg y Dc JC newD)(xT:JC.contains (.type "BaseException")=true)(y9:∀C,Cs C->ClsAt X.K C/\takes X.K C Dc) (hh:∀ex,fA (X.hand ex) (b0::zI) th)(gd:autoParam ((y==("__debug__":Str))=false) q8_._auto_1): Ut X (.Try body [.ExceptHandler (some (.Name y np)) (some n) (b0::zI) uS] [] [] pos) (Wt i Cs tb th):=by
 intro s O H D I h;obtain⟨E,hq,oG,hth⟩:=h;refine wpAny_Try_except ?_;have ps:Passes (iQ X.prog X.w) (X.ji λe s₁=>wpAny (model X.prog X.w) X.A (noteFrame e X.env) (λ_ s₂=>wpAny (model X.prog X.w) X.A (setFlight e none) (λ_ s₃=>wpAny (model X.prog X.w) X.A (handleBy e X.env [.ExceptHandler (some (.Name y np)) (some n) (b0::zI) uS]) (SP X [] D) X.xe s₃) X.xe s₂) X.xe s₁) E:=by
  intro Ga σ' H1 s1 ev s2 I1 hx;obtain⟨ex,cls,dx,H',B,rfl,ho,Ry,oO,F,hE⟩:=hx;obtain⟨C,rfl,hC⟩:=oG cls dx H' hE;have I0:Inv X [] σ' H1 s1:=I1.lY.a9X;obtain⟨Rh,g2,d2,t2,o2⟩:=s2;have a7a:jD B (X.env::X.outer) ex (.ref C) dx .none Rh:=by rw[<-g6];exact oO
  have hA:X.A.frames=some (X.env::X.outer):=by rw[<-g6];exact I0.ok.frames
  refine PD (s:=⟨Rh,g2,d2,t2,o2⟩) hA hfr a7a λh4 Bq VV=>?_;refine BB Bq λh5 yj VU=>?_;have F4:=F.step oO.1 Bq.1 VV oO.2.2.1;have ff4:h4.FunFrames B X.stack:=by rw[g6];exact Bq.2.2.1
  have F5:=F4.step Bq.1 yj.1 VU ff4;have ff5:h5.FunFrames B X.stack:=by rw[g6];exact yj.2.2.1
  have I5:Inv X [] σ' H' ⟨h5,g2,d2,t2,o2⟩:=I0.BQ (s':=⟨h5,g2,d2,t2,o2⟩) ho F5.un F5.bp Ry (λb hb=>(eT hb).elim);refine wpAny_handleBy_cons (codeAny_handlers_test (pV (X:=X.hand ex) (I5.hand ex) hg hy.at' ?_ gd)) (by intro q;cases q);obtain⟨eC,tk⟩:=y9 C hC;obtain⟨nm,q,Nn,bs,tl,hdct,sn,sub,ab,col,dd,k0,k1,k2,k3,k5,nw,oC⟩:=eC _ I5.fh;obtain⟨tl',Nn',PK,q',TR,RK,Md,Lk,Uj,Tv,Tj,j0,j1,j2,j3,j5,mN',oD,adS,adA,TL'⟩:=(hy.own I5.fh).obj;obtain⟨ob,hob,a4H,_⟩:=yj.there;have Hy:(Value.ref C::tl).contains (.ref Dc)=true:=by
   obtain⟨cd,ha,sN⟩:=Option.bind_eq_some_iff.mp tk;split at sN
   ·cases sN
   ·have hc:=dG sN
    unfold PySem.W.clsIn at ha;split at ha
    ·rename_i c1 c2 cd' c4 hl
     cases ha;have e1:=I5.fh _ _ hl;rw[show(Shared.heap ⟨h5,g2,d2,t2,o2⟩).get? C=some _ from oC]at e1;have e2:=dG e1;unfold excClassObj at e2;injection e2 with _ _ e3 _;injection e3 with e4;rw[<-e4]at hc;exact hc
    ·cases ha
  refine a8E oC oD hob a4H (TL'.hasType xT) Hy ?_;refine codeAny_handlers_suite_as ?_;refine BB (s:=⟨h5,g2,d2,t2,o2⟩) yj λh6 Sl VT=>?_;have F6:=F5.step yj.1 Sl.1 VT ff5;have VZ:Un (eu X.stack) [] H1 (upd H' ex (.ext (iP ex (.ref C) dx))) s1.heap h6:=by
   have nb:∀b u,H' b=some u->b≠ex:=λb u e z=>by rw[z,F6.ne]at e;cases e
   refine⟨F6.un.keep,F6.un.slot,λb o e n hx=>?_,F6.un.there,λb xs e=>?_,λb o u e=>?_,λb ps e=>?_⟩
   ·rw[aU (λz=>by rw[z,F6.nw]at e;cases e)];exact F6.un.free b o e n hx
   ·have:=F6.un.jj b xs e;rw[aU (nb b _ this)];exact this
   ·have:=F6.un.j7 b o u e;rw[aU (nb b _ this)];exact this
   ·obtain⟨more,e1⟩:=F6.un.jk b ps e;exact⟨more,by rw[aU (nb b _ e1)];exact e1⟩
  have a4E:eF X.prog X.w (upd H' ex (.ext (iP ex (.ref C) dx))) h6:=λb u e=>by
   by_cases RM:b=ex
   ·subst RM
    rw[bW]at e;cases e;obtain⟨o6,e6,c6⟩:=Sl.there;exact⟨⟨o6,e6,c6⟩,⟨o6,e6⟩,λg1 g3 ⟨o7,e7,c7⟩ k=>⟨o7,k o7 e7,c7⟩⟩
   ·rw[aU RM]at e
    refine(F6.bp b u e).m6 (λc v hc q=>q) (λc q=>?_) λc xs q=>?_
    ·rw[aU (λz=>by rw[z,F6.ne]at q;cases q)];exact q
    ·rw[aU (λz=>by rw[z,F6.ne]at q;cases q)];exact q
  have I6:Inv X [] σ' (upd H' ex (.ext (iP ex (.ref C) dx))) ⟨h6,g2,d2,t2,o2⟩:=I0.BQ (s':=⟨h6,g2,d2,t2,o2⟩) ho VZ a4E Ry (λb hb=>(eT hb).elim);refine u7 (X:=X.hand ex) (I6.hand ex) hN hi (.inl hs) (v:=.ref ex) Z (λs7 I7=>?_) (.inr hs);refine iS (hh ex [] s7 _ _ _ I7 (hth C ex dx σ' H' (I0.len.trans I.len.symm) hE F.ne)) (λf s8 q=>?_) λe s8 q=>False.elim q;have un:∀(σ2:St)(H2:Hp)(Q:Unit->ae->Prop),Inv (X.hand ex) [] σ2 H2 s8->(∀s9,Inv X [] (σ2.set i none) H2 s9->Q () s9)->wpAny (model X.prog X.w) X.A (do bindName X.env n .none;unbindBehindTheSuite X.env n uS) Q X.xe s8:=λσ2 H2 Q I8 hq=>by
   have UC:=I8.back I0.ok;have cn:i<σ2.length:=by rw[UC.len];exact(dw.mp hi).1
   unfold bindName;refine aK (aK (jE (wpAny_point (aK (u7 UC hN hi (.inl hs) (v:=.bw) Z (λs9 I9=>wpAny_point ?_) (.inr hs))))));refine VX I9 hN hi hk hs (v:=.bw) (Ku cn) λrj vE=>hq rj ?_;rw[List.set_set]at vE;exact vE
  cases f with |next=>obtain⟨σ2,H2,I8,dq⟩:=q;exact un σ2 H2 _ I8 λs9 I9=>⟨_,H2,I9,dq⟩ |brk=>obtain⟨σ2,H2,I8,dq⟩:=q;exact un σ2 H2 _ I8 λs9 I9=>⟨_,H2,I9,dq⟩ |cont=>obtain⟨σ2,H2,I8,dq⟩:=q;exact un σ2 H2 _ I8 λs9 I9=>⟨_,H2,I9,dq⟩ |ret u=>obtain⟨v,σ2,H2,I8,r8,dq⟩:=q;exact un σ2 H2 _ I8 λs9 I9=>⟨v,_,H2,I9,r8,dq⟩
 refine iS (hb E _ ps [] s O H D (I.ji _) hq) (λf s1 q=>?_) λe s1 q=>q;have q':=q.lY;cases f with |next=>exact yQ q' |brk=>exact q' |cont=>exact q' |ret u=>exact q'
end
end _L
namespace _L
open PySem PySem.Spec PyProof.Rows PySem.W
section
variable {prog:af}{w:World}{A:ai}{E:Value->ae->Prop}{h:Heap}{g:Array GenState}{d:Drawn}{t:Nat}{os:OsState}{K:Frag}{x C:Addr}{ox:Obj}{od:Obj}{f:Str}{v:Value}
theorem a8F{b:Bool}{Q:Value->ae->Prop}(X:K.In h)(k:kf K C)(I:InstAt h x ox C (some od))(ha:findIn K (.ref C) f=some none)(hl:lookIn f od=some (some v))(hv:handedIn v=true) (hq:Q v ⟨h,g,d,t+1,os⟩):wpAny (model prog w) A (getAttr (.ref x) f b) Q E ⟨h,g,d,t,os⟩:=by
 have L0:=I.type (M:=model prog w);have L1:=Cb (M:=model prog w) X k.ga;have _L:=Cb (M:=model prog w) X k.gx;have L3:=looks_find (M:=model prog w) X I (findObj_own k.is ha Z hl);have f3:=Kj.ga.bind (.ref x);have pX:(Value.builtin "BaseException.__getattribute__"==Value.builtin "object.__getattribute__")=false:=by decide+kernel
 have xB:(b&&onTheHeap (Value.builtin "BaseException.__getattribute__"))=false:=by cases b<;>rfl
 unfold getAttr getAttrBy;refine aK (wpAny_mkText (jE (aK (L0.at (aK (L1.at ?_))))));show wpAny _ _ (if(onTheHeap (Value.ref C)&&Value.builtin "BaseException.__getattribute__"==Value.builtin "object.__getattribute__")=true then _ else _) _ _ _;rw[pX,Cy,bf ay];unfold getAttrByItsOwn hookBefore;refine aK ?_;show wpAny _ _ (typeLookup (.ref C) "__getattr__") _ _ _;refine _L.at (aK (Ca (jE ?_)));unfold callGetattribute;rw[xB,bf ay];unfold boundAndCalled;rw[f3];refine aK (bT (vI ?_));refine K7 Kj.ga.plain PySem.F.entry_bexc_ga (S9 X k L0 ?_);refine aK (bT (aK (bT (aK (L0.at (aK (L3.at ?_)))))));exact bT (handed_on hv hq)
end
inductive aas(K:Frag)(f:Str)(Q:VK)(x:V)(H1:Hp):Prop |mk (ex:_)(C:_)(dx:_)(fs:_)(i:_)(h0:x= .ref ex)(h1:H1 ex=some (.ext (iP ex (.ref C) (some dx))))(h2:H1 dx=some (.xd fs))(h3:kf K C)(h4:findIn K (.ref C) f=some none)(h5:fs.lookup f=some (.int i))(h6:Q (.int i) H1)
def Wo(K:Frag)(ta:TE)(f:Str):TE:=λO H Q=>ta O H λx H1=>aas K f Q x H1
section
variable {X:Cx}{e:Expr}{f:Str}{pos:Pos}{ta:TE}
theorem Z5(K:Frag)(hK:X.K=K)(he:PE X e ta)(hb:autoParam (attributeBase e f X.env (eval e X.env)=eval e X.env) r8_._auto_1):PE X (.Attribute e f pos) (Wo K ta f):=by subst hK;intro pins s O H Q I h;refine Ub hb (aZ (he pins s O H _ I h) λu s1 ⟨x,H1,I1,rx,ex,C,dx,fs,i,ee,h1,h2,k,ha,hl,q⟩=>?_);subst ee;obtain rfl:u=Value.ref ex:=rx;obtain⟨⟨o,o1,o2,o3,lK,o4,o5⟩,_,_⟩:=(show gj X.prog X.w H1 s1.heap ex (.ext (iP ex (.ref C) (some dx)))from I1.bp ex _ h1);obtain⟨mA,n1,n2⟩:=(show gj X.prog X.w H1 s1.heap dx (.xd fs)from I1.bp dx _ h2);obtain⟨od,e1,e2⟩:=Qm n1;have r:=n2 f;rw[hl]at r;cases em:mA f with |none=>rw[em]at r;exact r.elim |some v=>rw[em]at r;obtain⟨t,rfl⟩:=(show∃t,v=Value.int i t from r);have J:InstAt s1.heap ex o C (some od):=⟨o1,o2,by unfold notCls;rw[o4],by rw[o3];exact e1⟩;obtain⟨hp,g,d,tk,os⟩:=s1;exact a8F I1.fh k J ha (by rw[e2,em]) Z ⟨.int i,H1,I1.tok _,⟨t,Z⟩,q⟩
inductive acj(K:Frag)(xs:List V)(H:Hp)(Q:VK):Prop |mk (ex:Addr)(C:Addr)(dx:Option Addr)(c:V)(cv:Value)(b:Bool)(h0:xs=[.ref ex,c])(h1:H ex=some (.ext (iP ex (.ref C) dx)))(h2:kf K C)(h3:a9u c=some cv)(h4:kitOne K (.ref C) cv=some b)(h5:Q (.bl b) H)
def YF(K:Frag):List V->Hp->VK->Prop:=λxs H Q=>acj K xs H Q
inductive aci(K:Frag)(xs:List V)(H:Hp)(Q:VK):Prop |mk (ex:Addr)(C:Addr)(p:Addr)(dx:Option Addr)(Ds:List Addr)(b:Bool)(h0:xs=[.ref ex,.ref p])(h1:H ex=some (.ext (iP ex (.ref C) dx)))(h2:kf K C)(h3:H p=some (.tup (Ds.map V.ref)))(h4:kitAny K (.ref C) (Ds.map Value.ref)=some b)(h5:Q (.bl b) H)
def YE(K:Frag):List V->Hp->VK->Prop:=λxs H Q=>aci K xs H Q
theorem jR(K:Frag)(hK:X.K=K):dX X (.builtin "isinstance") (λxs H Q=>YF K xs H Q\/YE K xs H Q):=by
 subst hK;intro pins s O H xs us Q I r h;rcases h with⟨ex,C,dx,c,cv,b,rfl,he,k,hc,kb,q⟩|⟨ex,C,p,dx,Ds,b,rfl,he,k,hp,kb,q⟩
 ·obtain⟨u,v,rfl,rx,rc⟩:=vals2 r
  cases(show u=Value.ref ex from rx);have hv:v=cv:=by cases c with |ref D=>cases(show v=Value.ref D from rc);exact dG hc |ty n=>cases(show v=Value.type n from rc);exact dG hc |_=>cases hc
  subst hv;obtain⟨o,o1,o2,_⟩:=(I.bp ex _ he).1;exact kia_one (QB k) I.fh ⟨o,o1,o2⟩ kb (λz=>nomatch z) λtk=>⟨.bl b,H,I.tok _,rfl,q⟩
 ·obtain⟨u,v,rfl,rx,rc⟩:=vals2 r
  cases(show u=Value.ref ex from rx);cases(show v=Value.ref p from rc);obtain⟨o,o1,o2,_⟩:=(I.bp ex _ he).1;obtain⟨_,its,rv,⟨cls,dd,dt,sl⟩,h1,h2,n,h3⟩:=(show gj X.prog X.w H s.heap p (.tup (Ds.map V.ref))from I.bp p _ hp);simp only at h2 h3;subst h2 h3;have e:=KR rv;subst e;exact kia_tup (QB k) I.fh ⟨o,o1,o2⟩ h1 kb (λz=>nomatch z) λtk=>⟨.bl b,H,I.tok _,rfl,q⟩
end
end _L
namespace _L
open PySem PySem.Spec PyProof.Rows
def qG(P:af)(w:World)(K:aa)(mg:bD)(ao:Heap)(x:Str)(k:Nat)(sp:Sp):Prop:=∃f fd ps,eG P w K mg ao (iQ P w) k f fd ps sp/\mg x=some (.ref f)/\PySem.W.keepIn K (.ref f)=true/\Binds K fd ps []
theorem FA.uX{P:af}{w:World}{K:aa}{mg:bD}{ao:Heap}{x:Str}{st:Stmt}{N ps:List Str}{k:Nat}{sp:Sp}(F:FA K mg x st)(S:aW N ps (aM st))(len:∀vs H Q E,sp vs H Q E->vs.length=ps.length) (hb:∀(kV doc pm:Value)(an:Option Addr)(aH ct:Value)(us:List Value),us.length=ps.length->bindArgs (PySem.W.fnOf x x (jb st) (fj st) (aM st) .none kV doc pm an aH ct) ⟨us,[]⟩=pure (ps.zip us)) (fO:∀(f:Addr)(aH:Value)(A:ai)(outer:List Env)(s:ae)(H:Hp)(vs:List V)(Q:VK)(E:XK),cN k (A.deeper (envOfC x (aM st) s.heap.objs.size f aH))->sp vs H Q E->∃t,fA (gC (iQ P w) P w K mg ao N x (aM st) f aH A outer s H E) (fj st) t/\t {nx:=λ_ H'=>Q .bw H',rt:=Q} (start N vs) H):qG P w K mg ao x (k+1) sp:=by obtain⟨f,fd,hm,F⟩:=F.ex;have xS:=F.binds hb;have kp:=F.kp;obtain⟨oc,od,kV,doc,pm,an,aH,ct,fz,rfl,lk,fo⟩:=F.ex;exact⟨f,_,ps,IY lk fo S len λA outer s H vs Q E hr fi=>fO f aH A outer s H vs Q E hr fi,hm,kp,xS⟩
section
variable {X:Cx}{k:Nat}{x:Str}{p pos:Pos}{e:Expr}{es:List Expr}{t:TA}{sp:Sp}
end
structure jA(k:Nat)(A:ai):Prop where
 dp:A.depth+3*k+5<recursionLimit
 un:A.units+16*k+200<cLine
theorem jA.mono{j k:Nat}{A:ai}(r:jA k A)(h:j<=k):jA j A:=⟨by have:=r.dp;lia,by have:=r.un;lia⟩
theorem jA.units{k:Nat}{A:ai}(r:jA k A):A.units+64<cLine:=by have:=r.un;lia
theorem cN.mark{k:Nat}{A:ai}(r:cN k A)(v:Option Value):jA k (A.mark v):=⟨r.dp,r.un⟩
theorem jA.deeper{k:Nat}{A:ai}(r:jA (k+1) A)(env:Env):jA k (A.deeper env):=⟨by have:=r.dp;show A.depth+1+3*k+5<_;lia,by have:=r.un;show A.units+3+16*k+200<_;lia⟩
abbrev vm(P:af)(w:World)(K:aa)(mg:bD)(ao:Heap)(N:List Str)(qual:Str)(scope:Scope)(f:Addr)(cd:Value)(A:ai)(outer:List Env)(s:ae)(H:Hp):Cx:={(gC ib P w K mg ao N qual scope f cd A outer s H (λ_ _ _=>False))with calm:=false,xe:=λ_ _=>False}
def UE(P:af)(w:World)(K:aa)(mg:bD)(ao:Heap)(k:Nat)(f:Addr)(fd:FuncData)(ps:List Str)(sp:Sp):Prop:=(∀vs H Q E,sp vs H Q E->vs.length=ps.length)/\∀(A:ai)(outer:List Env)(s:ae)(H:Hp)(args:Args)(us:List Value)(vs:List V)(Q:VK),jA k A->p7 P w K mg ao A outer s H->BindsTo s fd args (ps.zip us)->Vals vs us->sp vs H Q (λ_ _ _=>False)->codeAny (model P w) A (.call (.ref f) args) (λr s'=>match r with| .ok (.ret u)=>CE outer P w H s Q u s'|_=>False) s
theorem a78{P:af}{w:World}{K:aa}{mg:bD}{ao:Heap}{k:Nat}{f:Addr}{name qual:Str}{params:Arguments}{body:List Stmt}{scope:Scope}{dV kV doc pm aH ct oc:Value}{an od:Option Addr} {fz:Array (Option Value)}{N ps:List Str}{sp:Sp}(lk:K.lookup f=some ⟨oc,od,.func (PySem.W.fnOf name qual params body scope dV kV doc pm an aH ct),fz⟩)(fo:PySem.W.codeIn K aH qual=true)(S:aW N ps scope)(len:∀vs H Q E,sp vs H Q E->vs.length=ps.length) (fO:∀(A:ai)(outer:List Env)(s:ae)(H:Hp)(vs:List V)(Q:VK),jA k (A.deeper (envOfC qual scope s.heap.objs.size f aH))->sp vs H Q (λ_ _ _=>False)->∃t,fA (vm P w K mg ao N qual scope f aH A outer s H) body t/\t {nx:=λ_ H'=>Q .bw H',rt:=Q} (start N vs) H): UE P w K mg ao (k+1) f (PySem.W.fnOf name qual params body scope dV kV doc pm an aH ct) ps sp:=by
 refine⟨len,λA outer s H args us vs Q hr e0 hb r fi=>?_⟩;have hl:=len _ _ _ _ fi;have KX:K.In s.heap:=e0.mod.mJ.keeps λb o e=>(e0.bs b o e).1;have lim:s.heap.NoLimit:=e0.mod.nolimit.keeps λb o e=>(e0.bs b o e).1;have hk:∀y∈ps.zip us,scope.names.lookup y.1=some .local\/(scope.names.lookup y.1=some .cell/\((cellsFrom (s.heap.objs.size+1) scope.names []).lookup y.1).isSome=true):=λ⟨n,v⟩ hy=>by
  rcases S.par n (vR hy).1 with q|q
  ·exact .inl q
  ·exact .inr ⟨q,Kf _ _ _ (.inl q)⟩
 refine UM (by have:=hr.dp;lia) (KX _ _ lk) Z S.co S.gen Z (US KX fo) (hb _ _ _ _ ?_);refine UJ S.kind hk λenv he s1 x=>?_;subst he;refine⟨lim.keeps x.toInCall.keep,codeAny_func ?_⟩;obtain⟨t,ht,hq⟩:=fO A outer s H vs Q (hr.deeper _) fi;have e1:p7 P w K mg ao {A with handled:=none} outer s H:=⟨e0.frames,e0.mod,e0.bs,e0.jY,e0.iK,e0.lM,e0.bp,e0.bare⟩;have I:=Ho (CX:=ib) (A:={A with handled:=none}) (E:=λ_ _ _=>False) S rfl e1 hl r x;have J:Inv (vm P w K mg ao N qual scope f aH A outer s H) [] (start N vs) H s1:=⟨⟨I.ok.mod,I.ok.kind,I.ok.glob,I.ok.blt,I.ok.above,I.ok.inj,I.ok.has,I.ok.qz,λh=>(dQ h).elim,Around.frames_deeper e0.frames,I.ok.qW,I.ok.yk,I.ok.bs,I.ok.jY,I.ok.pP,I.ok.oP,I.ok.iK,I.ok.lM⟩,I.os,I.bare,I.ao,I.loc,I.cell,I.free,I.j9,I.pin,I.bp,I.len⟩;refine iS (ht [] s1 (start N vs) H _ J hq) (λfl s' hs=>?_) λe s' hs=>hs.elim;cases fl with |ret u=>obtain⟨v,σ',H',J',rv,q⟩:=hs;exact⟨v,H',J'.os,J'.bare,J'.ao,J'.bp,rv,q⟩ |next=>obtain⟨σ',H',J',q⟩:=hs;exact⟨V.bw,H',J'.os,J'.bare,J'.ao,J'.bp,Z,q⟩ |brk=>obtain⟨_,_,_,q⟩:=hs;exact False.elim q |cont=>obtain⟨_,_,_,q⟩:=hs;exact False.elim q
def yM(P:af)(w:World)(K:aa)(mg:bD)(ao:Heap)(x:Str)(k:Nat)(sp:Sp):Prop:=∃f fd ps,UE P w K mg ao k f fd ps sp/\mg x=some (.ref f)/\PySem.W.keepIn K (.ref f)=true/\Binds K fd ps []
theorem FA.a5H{P:af}{w:World}{K:aa}{mg:bD}{ao:Heap}{x:Str}{st:Stmt}{N ps:List Str}{k:Nat}{sp:Sp}(F:FA K mg x st)(S:aW N ps (aM st))(len:∀vs H Q E,sp vs H Q E->vs.length=ps.length) (hb:∀(kV doc pm:Value)(an:Option Addr)(aH ct:Value)(us:List Value),us.length=ps.length->bindArgs (PySem.W.fnOf x x (jb st) (fj st) (aM st) .none kV doc pm an aH ct) ⟨us,[]⟩=pure (ps.zip us)) (fO:∀(f:Addr)(aH:Value)(A:ai)(outer:List Env)(s:ae)(H:Hp)(vs:List V)(Q:VK),jA k (A.deeper (envOfC x (aM st) s.heap.objs.size f aH))->sp vs H Q (λ_ _ _=>False)->∃t,fA (vm P w K mg ao N x (aM st) f aH A outer s H) (fj st) t/\t {nx:=λ_ H'=>Q .bw H',rt:=Q} (start N vs) H):yM P w K mg ao x (k+1) sp:=by obtain⟨f,fd,hm,F⟩:=F.ex;have xS:=F.binds hb;have kp:=F.kp;obtain⟨oc,od,kV,doc,pm,an,aH,ct,fz,rfl,lk,fo⟩:=F.ex;exact⟨f,_,ps,a78 lk fo S len λA outer s H vs Q hr fi=>fO f aH A outer s H vs Q hr fi,hm,kp,xS⟩
section
variable {X:Cx}{k:Nat}{x:Str}{p pos:Pos}{e:Expr}{es:List Expr}{t:TA}{sp:Sp}
def WN(sp:Sp)(t:TA):TE:=λO H Q=>t O H λvs H1=>sp vs H1 Q (λ_ _ _=>False)
theorem P4(F:yM X.prog X.w X.K X.mg X.ao x k sp)(hr:jA k X.A)(hg:Gl X x)(ha:PA X (e::es) t)(gd:autoParam ((x==("__debug__":Str))=false) q8_._auto_1) (he:autoParam (starEach (e::es) X.env=(false,eval e X.env)::starEach es X.env) r8_._auto_1)(eZ:autoParam ((backTo pos (starEach es X.env)).any (·.1)=false) r8_._auto_1):PE X (.Call (.Name x p) (e::es) [] pos) (WN sp t):=by
 obtain⟨f,fd,ps,F,hm,hk,hb⟩:=F;intro pins s O H Q I h;refine yR (pV I hg hm ?_ gd);refine Ci (h₀:=X.ao) I.ok.mod.mJ hk (aZ (ha pos pins s O H _ I h) λus s1 ⟨vs,H1,I1,r,q⟩=>⟨I1.fh,?_⟩) he eZ;have hl:(us++[]).length=ps.length:=by rw[qO,<-r.length];exact F.1 _ _ _ _ q
 have bt:=hb s1 us I1.fh hl;rw[qO]at bt;refine vI (vJ (F.2 X.A X.stack s1 H1 ⟨us,[]⟩ us vs Q hr I1.Jg bt r q) λr s' hq=>?_);cases r with |error e=>exact hq.elim |ok fl=>cases fl with |ret u=>exact I1.after hq |next=>exact hq.elim |brk=>exact hq.elim |cont=>exact hq.elim
end
section
variable {P:af}{w:World}{K:aa}{mg:bD}{ao:Heap}{N:List Str}{qual:Str}{scope:Scope}{f:Addr}{cd:Value}{A:ai}{outer:List Env}{s:ae}{H:Hp}{E E0:XK}
theorem As(he:∀cls dx H',E cls dx H'->E0 cls dx H'):Passes (iQ P w) (gC (iQ P w) P w K mg ao N qual scope f cd A outer s H E0) E:=by
 intro pins O H1 s1 e s2 I hx;obtain⟨ex,cls,dx,H',B,rfl,ho,hg,oO,F,q⟩:=hx;have oO:jD B (envOfC qual scope s.heap.objs.size f cd::outer) ex cls dx .none s2.heap:=oO;show wpAny (model P w) (A.deeper (envOfC qual scope s.heap.objs.size f cd)) (leaving (envOfC qual scope s.heap.objs.size f cd) (.ref ex)) _ _ _;refine a3t (L:=s.heap.objs.size) I.ok.frames Z oO λh' x1 x2=>?_;have F2:=F.step oO.1 x1.1 x2 oO.2.2.1;have sub:∀b,b∈eu outer->b∈eu (envOfC qual scope s.heap.objs.size f cd::outer):=λb hb=>by obtain⟨env,h1,h2⟩:=nH.mp hb;exact nH.mpr ⟨env,.tail _ h1,h2⟩
 have pQ:∀b o,s.heap.get? b=some o->b∉eu outer->b∉eu (envOfC qual scope s.heap.objs.size f cd::outer):=λb o e hb hm=>by
  obtain⟨env,h1,h2⟩:=nH.mp hm;rcases cg.mp h1 with z|h1
  ·subst z
   have e1:s.heap.objs.size=b:=dG h2;have e2:=cm e;rw[<-e1]at e2;exact absurd e2 (qL _)
  ·exact hb (nH.mpr ⟨env,h1,h2⟩)
 have nx:∀b:Addr,b∉([]:List Addr):=λ_=>eT;refine⟨ex,cls,dx,H',B,Z,ho.trans I.os,hg,x1,⟨⟨λb o e n hb _=>?_,λb o e n hb _=>?_,λb o e n _=>?_,λb o e _=>?_,λb xs e=>?_,λb o u e=>?_,λb ps e=>?_⟩,F2.bp,λb o e n hb=>?_,F2.k2,λb o e hb=>?_,λb hb=>F2.fr b (sub b hb),?_,F2.ne⟩,he _ _ _ q⟩
 ·exact F2.un.keep b o (I.ao.keep b o e n hb (nx b)) (I.ao.free b o e n (nx b)) (pQ b o e hb) (nx b)
 ·obtain⟨sl,e1⟩:=I.ao.slot b o e n hb (nx b)
  obtain⟨sl2,e2⟩:=F2.un.slot b _ e1 (I.ao.free b o e n (nx b)) (sub b hb) (nx b);exact⟨sl2,e2⟩
 ·obtain⟨sl,e1⟩:=I.ao.any e n (nx b)
  exact F2.un.free b _ e1 (I.ao.free b o e n (nx b)) (nx b)
 ·obtain⟨o1,e1⟩:=I.ao.there b o e (nx b)
  exact F2.un.there b o1 e1 (nx b)
 ·exact F2.un.jj b xs (I.ao.jj b xs e)
 ·exact F2.un.j7 b o u (I.ao.j7 b o u e)
 ·obtain⟨m1,e1⟩:=I.ao.jk b ps e
  obtain⟨m2,e2⟩:=F2.un.jk b _ e1;exact⟨m1++m2,by rw[<-Array.append_assoc];exact e2⟩
 ·exact F2.k1 b o (I.ao.keep b o e n hb (nx b)) (I.ao.free b o e n (nx b)) (pQ b o e hb)
 ·obtain⟨o1,e1⟩:=I.ao.there b o e (nx b)
  exact F2.k3 b o1 e1 (pQ b o e hb)
 ·cases e:s.heap.get? ex with |none=>rfl |some o=>obtain⟨o1,e1⟩:=I.ao.there ex o e (nx ex);rw[F2.nw]at e1;cases e1
end
end _L
namespace _L
open PySem PySem.Spec PyProof.Rows
open Builtin Builtin.ObjectAttr
section
variable {prog:af}{w:World}{A:ai}{E:Value->ae->Prop}{s:ae}{K:aa}{x C dx:Addr}{ox:Obj}{fs:Array Value}{name:Str}{v:Value}{Q:Unit->ae->Prop}{mA:bD}{ks:List Str}
end
section
variable {X:Cx}{o e value:Expr}{f:Str}{pos pos' nP:Pos}{ta tv:TE}
end
end _L
namespace _L
open PySem PySem.Spec PyProof.Rows
def jd(P:af)(w:World)(K:aa)(mg:bD)(ao:Heap)(C:Addr)(m:Str)(k:Nat)(sp:Sp):Prop:=∃f fd ps,eG P w K mg ao (iQ P w) k f fd ps sp/\Meth K C m f/\Binds K fd ps []
section
variable {P:af}{w:World}{K:aa}{mg:bD}{ao:Heap}
theorem ka.okD{m qual:Str}{st:Stmt}{f:Addr}{fd:FuncData}{N ps:List Str}{k:Nat}{sp:Sp}(F:ka K m qual st f fd)(S:aW N ps (aM st))(len:∀vs H Q E,sp vs H Q E->vs.length=ps.length) (fO:∀(aH:Value)(A:ai)(outer:List Env)(s:ae)(H:Hp)(vs:List V)(Q:VK)(E:XK),cN k (A.deeper (envOfC qual (aM st) s.heap.objs.size f aH))->sp vs H Q E->∃t,fA (gC (iQ P w) P w K mg ao N qual (aM st) f aH A outer s H E) (fj st) t/\t {nx:=λ_ H'=>Q .bw H',rt:=Q} (start N vs) H):eG P w K mg ao (iQ P w) (k+1) f fd ps sp:=by obtain⟨oc,od,kV,doc,pm,an,aH,ct,fz,rfl,lk,fo⟩:=F.ex;exact IY lk fo S len λA outer s H vs Q E hr fi=>fO aH A outer s H vs Q E hr fi
theorem MA.uX{C:Addr}{m qual:Str}{st:Stmt}{N ps:List Str}{k:Nat}{sp:Sp}(F:MA K C m qual st)(S:aW N ps (aM st))(len:∀vs H Q E,sp vs H Q E->vs.length=ps.length) (hb:∀(kV doc pm:Value)(an:Option Addr)(aH ct:Value)(us:List Value),us.length=ps.length->bindArgs (PySem.W.fnOf m qual (jb st) (fj st) (aM st) .none kV doc pm an aH ct) ⟨us,[]⟩=pure (ps.zip us)) (fO:∀(f:Addr)(aH:Value)(A:ai)(outer:List Env)(s:ae)(H:Hp)(vs:List V)(Q:VK)(E:XK),cN k (A.deeper (envOfC qual (aM st) s.heap.objs.size f aH))->sp vs H Q E->∃t,fA (gC (iQ P w) P w K mg ao N qual (aM st) f aH A outer s H E) (fj st) t/\t {nx:=λ_ H'=>Q .bw H',rt:=Q} (start N vs) H):jd P w K mg ao C m (k+1) sp:=by obtain⟨f,fd,hm,F⟩:=F.ex;exact⟨f,fd,ps,F.okD S len λaH A outer s H vs Q E=>fO f aH A outer s H vs Q E,hm,F.binds hb⟩
end
section
variable {X:Cx}{k:Nat}{x m:Str}{C:Addr}{p pos apos:Pos}{o e:Expr}{es:List Expr}{t:TA}{ta:TE}{sp:Sp}{E:XK}
inductive Uy(C:Addr)(m:Str)(sp:Sp)(E:XK)(t:TA)(O:St)(Q:VK)(x:V)(H1:Hp):Prop |mk (a:Addr)(dx:Addr)(fs:List (Str×V))(h0:x= .ref a)(h1:H1 a=some (.ins C dx fs))(h2:fs.lookup m=none)(h3:t O H1 λvs H2=>sp (x::vs) H2 Q E)
def L9(C:Addr)(m:Str)(sp:Sp)(E:XK)(ta:TE)(t:TA):TE:=λO H Q=>ta O H λx H1=>Uy C m sp E t O Q x H1
theorem Q6{O:St}{Q:VK}{x:V}{H1:Hp}:tJ C m sp [] E t O Q x H1=Uy C m sp E t O Q x H1:=by
 have e1:(λ(vs:List V) H1=>sp (x::(vs++[])) H1 Q E)=λvs H1=>sp (x::vs) H1 Q E:=by funext vs H1;rw[qO]
 refine propext ⟨λ⟨a,dx,fs,h0,h1,h2,h3⟩=>⟨a,dx,fs,h0,h1,h2,?_⟩,λ⟨a,dx,fs,h0,h1,h2,h3⟩=>⟨a,dx,fs,h0,h1,h2,?_⟩⟩
 ·rw[<-e1];exact h3
 ·rw[e1];exact h3
theorem Ap{pl:Sem Bool}(F:jd X.prog X.w X.K X.mg X.ao C m k sp)(hp:Passes (iQ X.prog X.w) X E)(c:hZ X.K C)(hr:cN k X.A)(he:PE X o ta)(ha:PA X (e::es) t) (g6:autoParam (starEach (e::es) X.env=(false,eval e X.env)::starEach es X.env) r8_._auto_1)(eZ:autoParam ((backTo pos (starEach es X.env)).any (·.1)=false) r8_._auto_1) (ht:eval (.Call (.Attribute o m apos) (e::es) [] pos) X.env=(do
 let ov<-eval o X.env
 standAt apos.atName
 let(f,first)<-holding [ov] (getMethod ov m pl)
 callWith pos f first (backTo pos (starEach (e::es) X.env)) (backToKw pos (keywordEach [] X.env))):=by rfl): PE X (.Call (.Attribute o m apos) (e::es) [] pos) (L9 C m sp E ta t):=by
 obtain⟨f,fd,ps,F,hm,hb⟩:=F;have h:=P2 (pos:=pos) (apos:=apos) (pl:=pl) he c hm F hr hb .nil hp ha g6 eZ ht;intro pins s O H Q I hq;refine h pins s O H Q I ?_;show ta O H λx H1=>tJ C m sp [] E t O Q x H1;simp only[Q6];exact hq
theorem P0{pl:Sem Bool}(F:jd X.prog X.w X.K X.mg X.ao C m k sp)(hp:Passes (iQ X.prog X.w) X E)(c:hZ X.K C)(hr:cN k X.A)(he:PE X o ta) (ht:eval (.Call (.Attribute o m apos) [] [] pos) X.env=(do
 let ov<-eval o X.env
 standAt apos.atName
 let(f,first)<-holding [ov] (getMethod ov m pl)
 callWith pos f first (backTo pos (starEach [] X.env)) (backToKw pos (keywordEach [] X.env))):=by rfl): PE X (.Call (.Attribute o m apos) [] [] pos) (L9 C m sp E ta m4):=by
 obtain⟨f,fd,ps,F,hm,hb⟩:=F;have h:=P1 (pos:=pos) (apos:=apos) (pl:=pl) he c hm F hr hb .nil hp ht;intro pins s O H Q I hq;refine h pins s O H Q I ?_;show ta O H λx H1=>tJ C m sp [] E m4 O Q x H1;simp only[Q6];exact hq
end
end _L
namespace _L
open PySem PySem.Spec PyProof.Rows SeqAt
section
variable {X:Cx}{k:Nat}{x:Str}{p pos:Pos}{e:Expr}{es:List Expr}{t:TA}{sp:Sp}{E:XK}
inductive acN(X:Cx)(i:Nat)(CX:iR)(E:XK)(t:TA)(O:St)(H:Hp)(Q:VK):Prop |mk (f:Addr)(fd:FuncData)(ps:List Str)(k:Nat)(sp:Sp)(h0:O[i]? =some (some (.ref f)))(h1:eG X.prog X.w X.K X.mg X.ao CX k f fd ps sp)(h2:PySem.W.keepIn X.K (.ref f)=true)(h3:Binds X.K fd ps [])(h4:cN k X.A)(h5:t O H λvs H1=>sp vs H1 Q E)
theorem Zd(i:Nat){CX:iR}(hp:Passes CX X E)(hN:autoParam (X.N[i]? =some x) r8_._auto_1)(hv:autoParam (BW X.env.scope x) k8_._auto_1)(ha:PA X (e::es) t)(hd:autoParam ((x==("__debug__":Str))=false) q8_._auto_1) (fo:autoParam ((x==("__classdict__":Str))=false) q8_._auto_1)(he:autoParam (starEach (e::es) X.env=(false,eval e X.env)::starEach es X.env) r8_._auto_1)(eZ:autoParam ((backTo pos (starEach es X.env)).any (·.1)=false) r8_._auto_1): PE X (.Call (.Name x p) (e::es) [] pos) (λO H Q=>acN X i CX E t O H Q):=by intro pins s O H Q I h;obtain⟨f,fd,ps,k,sp,h0,F,hk,hb,hr,ht⟩:=h;refine yR (aZ (OZ (pos:=p) hN hv hd fo pins s O H (λv H'=>v= .ref f/\H'=H) I ⟨_,h0,Z,Z⟩) λu s1 ⟨v,H1,I1,rv,e1,e2⟩=>?_);subst e1 e2;cases(show u=Value.ref f from rv);refine Ci (h₀:=X.ao) I1.ok.mod.mJ hk (aZ (ha pos pins s1 O H1 _ I1 ht) λus s2 ⟨vs,H2,I2,r,q⟩=>⟨I2.fh,?_⟩) he eZ;refine Ab F hr hb .nil hp I2 r ?_;rw[qO];exact q
end
section
variable {X:Cx}
theorem CF:∀{bs:List Bool}{us:List Value},Vals (bs.map V.bl) us->us=bs.map Value.bool |[],_,.nil=>rfl |b::bs,_,.cons q r=>by cases(show _=Value.bool b from q);rw[CF r];rfl
def sF:Value->Bool | .bool b=>b |_=>false
theorem Sy{bs:List Bool}(A:ai)(s:ae):∀y,y∈(bs.map Value.bool).toArray->EqAt A s y (.bool true) (sF y):=λy hy=>by obtain⟨b,_,rfl⟩:=cY.mp (List.mem_toArray.mp hy);have:=EqAt.bool_bool (A:=A) (s:=s) b true;cases b<;>exact this
theorem a9h(bs:List Bool):(bs.map Value.bool).countP sF=bs.count true:=by induction bs with |nil=>rfl |cons b r ih=>cases b<;>simp[List.countP_cons,sF,ih,List.count_cons]
inductive UB(K:aa)(x:V)(vs:List V)(H:Hp)(Q:VK):Prop |mk (l:Addr)(bs:List Bool)(h0:x= .ref l)(h1:vs=[.bl true])(h2:aI K H l (bs.map V.bl))(h3:Q (.int (bs.count true:Nat)) H)
theorem a2C(K:aa)(hK:X.K=K):qF X "list.count" (λx vs H Q=>UB K x vs H Q):=by subst hK;intro pins s O H x vs v us Q I rx rv h;obtain⟨l,bs,rfl,rfl,hl,q⟩:=h;cases rx;obtain⟨u,rfl,ru⟩:=vals1 rv;cases(show u=Value.bool true from ru);obtain⟨its,r,pl,_⟩:=I.list hl;rw[CF r]at pl;obtain⟨⟨cls,dd,data,sl⟩,ho,hc,n,hd⟩:=id pl.isList;simp only at hc hd;subst hc hd;refine tL PySem.F.slot_list_count ⟨_,ho,Z⟩ PySem.F.entry_list_count (PySem.F.args_list_count_2 _ _) (list_countAt l _ n dd sl (.bool true) sF) ⟨ho,Sy _ _,?_⟩;rw[show(bs.map Value.bool).toArray.toList=bs.map Value.bool from Z,a9h];exact⟨.int _,H,I.tok _,⟨_,Z⟩,q⟩
inductive UA(K:aa)(x:V)(vs:List V)(H:Hp)(Q:VK):Prop |mk (l:Addr)(bs:List Bool)(j:Nat)(h0:x= .ref l)(h1:vs=[.bl true])(h2:aI K H l (bs.map V.bl))(h3:bs[j]? =some true)(h4:∀m,m<j->bs[m]? =some false)(h5:j<1000)(h6:Q (.int (j:Nat)) H)
theorem a2B(K:aa)(hK:X.K=K):qF X "list.index" (λx vs H Q=>UA K x vs H Q):=by
 subst hK;intro pins s O H x vs v us Q I rx rv h;obtain⟨l,bs,j,rfl,rfl,hl,hj,hm,adU,q⟩:=h;cases rx;obtain⟨u,rfl,ru⟩:=vals1 rv;cases(show u=Value.bool true from ru);obtain⟨its,r,pl,_⟩:=I.list hl;rw[CF r]at pl;obtain⟨⟨cls,dd,data,sl⟩,ho,hc,n,hd⟩:=id pl.isList;simp only at hc hd;subst hc hd;have Rp:=(dw.mp hj);obtain⟨hj1,lF⟩:=Rp;refine tL PySem.F.slot_list_index ⟨_,ho,Z⟩ PySem.F.entry_list_index (PySem.F.args_list_index_2 _ _) (list_indexAt l _ n dd sl (.bool true) sF j (by simpa using hj1) au ?_ (λm hm1 xM=>?_)) ⟨ho,Sy _ _,⟨.int _,H,I.tok _,⟨_,Z⟩,q⟩⟩
 ·simp[lF,sF]
 ·have:=hm m xM
  obtain⟨h1,h2⟩:=dw.mp this;simp[h2,sF]
theorem Zl(K:aa)(h:X.K=K){o e:Expr}{to:TE}{t:TA}{apos bN:Pos}(ho:PE X o to)(ha:PA X [e] t) (gf:autoParam (attributeBase o "count" X.env (eval o X.env)=eval o X.env) r8_._auto_1) (gc:autoParam (((backTo bN (starEach [e] X.env)).all (λx=>!x.1)&&(backToKw bN (keywordEach [] X.env)).all (λx=>x.1.isSome) &&decide ([e].length+([]:List Keyword).length+(if([]:List Keyword).isEmpty then 0 else 1)<30))=true) r8_._auto_1) (gb:autoParam ((apos.endLine==bN.line)=true) r8_._auto_1)(hs:autoParam (starEach [e] X.env=(false,eval e X.env)::starEach [] X.env) r8_._auto_1)(g9:autoParam ((backTo bN (starEach [] X.env)).any (·.1)=false) r8_._auto_1): PE X (.Call (.Attribute o "count" apos) [e] [] bN) (m5 K "list" (λx vs H Q=>UB K x vs H Q) to t):=by subst h;exact nX Ki PySem.F.slot_list_count PySem.F.type_list_count (a2C X.K rfl) ho ha gf gc gb hs g9
theorem Zj(K:aa)(h:X.K=K){o e:Expr}{to:TE}{t:TA}{apos bN:Pos}(ho:PE X o to)(ha:PA X [e] t) (gf:autoParam (attributeBase o "index" X.env (eval o X.env)=eval o X.env) r8_._auto_1) (gc:autoParam (((backTo bN (starEach [e] X.env)).all (λx=>!x.1)&&(backToKw bN (keywordEach [] X.env)).all (λx=>x.1.isSome) &&decide ([e].length+([]:List Keyword).length+(if([]:List Keyword).isEmpty then 0 else 1)<30))=true) r8_._auto_1) (gb:autoParam ((apos.endLine==bN.line)=true) r8_._auto_1)(hs:autoParam (starEach [e] X.env=(false,eval e X.env)::starEach [] X.env) r8_._auto_1)(g9:autoParam ((backTo bN (starEach [] X.env)).any (·.1)=false) r8_._auto_1): PE X (.Call (.Attribute o "index" apos) [e] [] bN) (m5 K "list" (λx vs H Q=>UA K x vs H Q) to t):=by subst h;exact nX Ki PySem.F.slot_list_index PySem.F.type_list_index (a2B X.K rfl) ho ha gf gc gb hs g9
end
end _L
namespace _L
open PySem PySem.Spec PyProof.Rows
section
variable {κ : Type} [DecidableEq κ]
end
section
variable {P:af}{w:World}{H:Hp}{h:Heap}{a:Addr}
end
section
variable {X:Cx}{pins:List (Addr×Obj)}{O:St}{H:Hp}{s:ae}{a:Addr}{y v:V}{u r:Value}{o:Option V}{A:ai}{E:Value->ae->Prop}
end
section
variable {X:Cx}{pins:List (Addr×Obj)}{O:St}{H:Hp}{s:ae}{a:Addr}{dJ:List (Key×V)}{k:Key}{u:Value}{A:ai}{E:Value->ae->Prop}
end
def Uw(i:Expr):Prop:=∀ov iv,subscripted i false ov iv=operate [ov,iv] (getItem ov iv)
theorem WZ{prog:af}{w:World}{A:ai}{E:Value->ae->Prop}{s:ae}{env:Env}{value slice:Expr}{pos:Pos}{T id:String}{Q:Value->ae->Prop} (hl:typeLookup (.type T) "__getitem__"=pure (some (.builtin id)))(hs:Uw slice) (h:wpAny (model prog w) A (eval value env) (λo s₁=>wpAny (model prog w) A (eval slice env) (λi s₂=>s₂.TypeIs o T/\wpAny (model prog w) A (getItem o i) Q E s₂) E s₁) E s): wpAny (model prog w) A (eval (.Subscript value slice pos) env) Q E s:=by
 refine Subscript_ (iS h (λo s₁ h₁=>iS h₁ (λi s₂ h₂=>?_) λ_ _ x=>x) λ_ _ x=>x);obtain⟨hT,h₂⟩:=h₂;unfold subscriptTail;refine aK ?_;rw[getitemInPython_of_ne hT.not_modules];refine aK (C5 hT hl ?_);have fin:wpAny (model prog w) A (subscripted slice false o i) (λr s₃=>wpAny (model prog w) A (letTemporaryGo value o r>>=λ_=>pure r) Q E s₃) E s₂:=by rw[hs o i];exact wpAny_operating (iS h₂ (λr s₃ h₃=>aK (wpAny_letTemporaryGo (bT h₃))) λ_ _ x=>x)
 first |exact bT (aK fin) |exact aK (bT (aK fin)) |exact aK fin
section
variable {X:Cx}{o i e value:Expr}{pos pos' nP:Pos}{td ty tv:TE}
end
section
variable {X:Cx} {pos:Pos}
end
section
variable {X:Cx}{pins:List (Addr×Obj)}{O:St}{H:Hp}{s:ae}{a:Addr}{y d:V}{u r:Value}{o:Option V}{A:ai}{E:Value->ae->Prop}
end
section
variable {X:Cx}{o e f:Expr}{apos bN:Pos}{td ty tx:TE}
end
section
variable {X:Cx}{pins:List (Addr×Obj)}{O:St}{H:Hp}{s:ae}{a:Addr}{dJ:List (Key×V)}{A:ai}{E:Value->ae->Prop}
end
section
variable {X:Cx}{pins:List (Addr×Obj)}{O:St}{H:Hp}{s:ae}{a:Addr}{y:V}{u:Value}{A:ai}{E:Value->ae->Prop}
end
end _L
namespace _L
open PySem PySem.Spec PyProof.Rows PySem.W
structure GD(w:World)(K:Frag)(mg:bD)(x:Str)(a:Addr):Prop where
 at':mg x=some (.ref a)
 ob:∃es n,K.lookup a=some ⟨.type "dict",none,.dict es n,#[]⟩/\KeysLit w.params es.toList
 lo:(a==sysModules)=false
theorem a6H{w:World}{K:Frag}{mg:bD}{x:Str}{a:Addr}{h:Heap}{es:Array DictEntry}{n:Nat}(X:K.In h)(G:h.Ns mainGlobals mg)(e:nsIn K mainGlobals x=some (some (.ref a)))(hl:K.lookup a=some ⟨.type "dict",none,.dict es n,#[]⟩)(hk:KeysLit w.params es.toList)(lo:(a==sysModules)=false):GD w K mg x a:=⟨mg_of X G e,⟨es,n,hl,hk⟩,lo⟩
section
variable {X:Cx}{i:Expr}{x:Str}{a:Addr}{pos p:Pos}{ty:TE}
inductive acL(K:Frag)(a:Addr)(Q:VK)(y:V)(H:Hp):Prop |mk (z:Str)(r:Option Value)(h0:y= .str z)(h1:nsIn K a z=some r)(h2:Q (.bl r.isSome) H)
theorem Zq(G:GD X.w X.K X.mg x a)(hg:Gl X x)(hi:PE X i ty)(gd:autoParam ((x==("__debug__":Str))=false) q8_._auto_1):PC X .In i (.Name x p) (λO H Q=>ty O H λy H1=>acL X.K a Q y H1):=by intro pins s O H Q I h;obtain⟨es,n,hl,hk⟩:=G.ob;refine aZ (hi pins s O H _ I h) λiv s1 ⟨y,H1,I1,ry,z,r,ey,e,q⟩=>pV I1 hg G.at' ?_ gd;subst ey;obtain⟨t,rfl⟩:=ry;refine wpAny_in_of (strKind_is X.prog X.w z t) G.lo (mapOf_K (prog:=X.prog) I1.fh hl hk) ?_;rw[find_K hl e];exact⟨.bl r.isSome,H1,I1.tok _,Z,q⟩
inductive acM(K:Frag)(a:Addr)(Q:VK)(y:V)(H:Hp):Prop |mk (z:Str)(u:Value)(v:V)(h0:y= .str z)(h1:nsIn K a z=some (some u))(h2:RelV v u)(h3:Q v H)
theorem Za(G:GD X.w X.K X.mg x a)(hg:Gl X x)(hi:PE X i ty)(hs:Uw i)(gd:autoParam ((x==("__debug__":Str))=false) q8_._auto_1):PE X (.Subscript (.Name x p) i pos) (λO H Q=>ty O H λy H1=>acM X.K a Q y H1):=by intro pins s O H Q I h;obtain⟨es,n,hl,hk⟩:=G.ob;refine WZ PySem.F.slot_dict_getitem.lookup hs (pV I hg G.at' ?_ gd);refine aZ (hi pins s O H _ I h) λiv s1 ⟨y,H1,I1,ry,z,u,v,ey,e,rv,q⟩=>?_;subst ey;obtain⟨t,rfl⟩:=ry;have hm:=mapOf_K (prog:=X.prog) (w:=X.w) I1.fh hl hk;exact⟨hm.typeIs,wpAny_getItem_of (strKind_is X.prog X.w z t) hm (find_K hl e) ⟨v,H1,I1.tok _,rv,q⟩⟩
end
theorem a3y{l:OpenLaw}{q:af}{loose:List Str}{XP:(bD)->Heap->Prop}{YP:World->Heap->Prop}{d:DefRec}{K:Params->Frag}{k:Nat}{x:Str}{st:Stmt}(hn:l.most=some 63)(xP:d.params.defaults=[]) (hr:cN k callerA)(hY:∀(w:World)(h:Heap),YP w h->(K w.params).In h)(All:World->Frag->(bD)->Prop) (F:∀(w:World)(mg:bD)(h:Heap),(K w.params).In h->h.Ns mainGlobals mg->All w (K w.params) mg) (L:∀(w:World)(K:Frag)(mg:bD),All w K mg->FA K mg d.name st) (hb:∀(kV doc pm:Value)(an:Option Addr)(aH ct u:Value),bindArgs (fnOf d.name d.name (jb st) (fj st) (aM st) .none kV doc pm an aH ct) ⟨[u],[]⟩=pure [(x,u)]) (ok:∀(P:af)(w:World)(K:Frag)(mg:bD)(ao:Heap)(f:Addr)(fd:FuncData),All w K mg->ka K d.name d.name st f fd->eG P w K mg ao ib k f fd [x] (λvs H Q _=>∃(a:Addr)(ns:List Int),vs=[.ref a]/\aI K H a (ns.map V.int)/\ns.length<=63/\∀H',Q (.bl true) H')): WalkO q loose XP YP l.row.toRowW d [] (λf vs=>PySem.call f vs):=_L.VJ (n:=63) (k:=k) (x:=x) (CX:=λ_=>ib) (sp:=λw=>λvs H Q _=>∃(a:Addr)(ns:List Int),vs=[.ref a]/\aI (K w.params) H a (ns.map V.int)/\ns.length<=63/\∀H',Q (.bl true) H') hn ay xP hr hY (λw mg fa h KX G xK=>by
 have A:=F w mg h KX G;obtain⟨f,fd,hm,Fn⟩:=(L _ _ _ A).ex;have e:fa=f:=by rw[xK]at hm;injection (dG hm)
 subst e;refine⟨fd,λs u=>?_,λao _ _=>ok l.prog w _ mg ao fa fd A Fn⟩;obtain⟨oc,od,kV,doc,pm,an,aH,ct,fz,rfl,lk,fo⟩:=Fn.ex;exact .of_eq (hb kV doc pm an aH ct u)) (λ_ _ a ns hl _ hS=>⟨a,ns,Z,hS,hl,λ_=>rfl⟩) λ_ _ _ _ _ z=>z
end _L
set_option exponentiation.threshold 6000
namespace _L
open PySem PySem.Spec PyProof.Rows
section
variable {X:Cx}
theorem gD:dX X (.type "str") (λxs H Q=>(∃i,xs=[.int i]/\i.natAbs.log2<1920/\Q (.str (toString i)) H)\/∃z,xs=[.str z]/\Q (.str z) H):=by
 intro pins s O H xs us Q I r h;rcases h with⟨i,rfl,hz,q⟩|⟨z,rfl,q⟩
 ·obtain⟨u,rfl,t,rfl⟩:=vals1 r
  exact PySem.P.str_of_int hz ⟨.str _,H,I.tok _,⟨_,Z⟩,q⟩
 ·obtain⟨u,rfl,t,rfl⟩:=vals1 r
  exact PySem.P.str_of_str ⟨.str _,H,I,⟨_,Z⟩,q⟩
def YH(x:V)(H:Hp)(Q:VK):Prop:=(∃i,x= .int i/\i.natAbs.log2<1920/\Q (.str (toString i)) H)\/∃z,x= .str z/\z.length<=sizeLine/\Q (.str z) H
theorem iD{e:Expr}{te:TE}{pos:Pos}(h:PE X e te):PE X (.FormattedValue e (-1) none pos) (λO H Q=>te O H λx H'=>YH x H' Q):=by
 intro pins s O H Q I ht;refine wpAny_FormattedValue_plain (aZ (h pins s O H _ I ht) λv s1 ⟨x,H1,I1,r1,q1⟩=>?_);rcases q1 with⟨i,rfl,hz,q⟩|⟨z,rfl,hz,q⟩
 ·obtain⟨t,rfl⟩:=r1
  exact wpAny_formatField_int hz ⟨.str _,H1,I1.tok _,⟨_,Z⟩,q⟩
 ·obtain⟨t,rfl⟩:=r1
  exact wpAny_formatField_str ⟨.str _,H1,I1,⟨_,Z⟩,q⟩ ⟨.str _,H1,I1.tok _,⟨_,Z⟩,q⟩ hz
abbrev TJ:=Str->St->Hp->VK->Prop
def PJ(X:Cx)(es:List Expr)(t:TJ):Prop:=∀(pins:List (Addr×Obj))(s:ae)(O:St)(H:Hp)(Q:VK)(acc:Str),Inv X pins O H s->t acc O H Q->Joins (model X.prog X.w) X.A X.xe (evalEach es X.env) acc (λout s₁=>out.length<=sizeLine/\EP X pins O Q (.str out s₁.toks) {s₁ with toks:=s₁.toks+1}) s
theorem pI:PJ X [] (λacc O H Q=>acc.length<=sizeLine/\Q (.str acc) H):=by intro pins s O H Q acc I h;exact⟨h.1,.str _,H,I.tok _,⟨_,Z⟩,h.2⟩
theorem fg{e:Expr}{es:List Expr}{te:TE}{tj:TJ}(h:PE X e te)(hj:PJ X es tj)(he:autoParam (evalEach (e::es) X.env=eval e X.env::evalEach es X.env) r8_._auto_1): PJ X (e::es) (λacc O H Q=>te O H λx H'=>∃y,x= .str y/\(acc++y).length<=sizeLine/\tj (acc++y) O H' Q):=by intro pins s O H Q acc I ht;rw[he];refine aZ (h pins s O H _ I ht) λv s1 ⟨x,H1,I1,r1,q1⟩=>?_;obtain⟨y,rfl,hl,q⟩:=q1;obtain⟨t,rfl⟩:=r1;exact⟨y,t,Z,hl,hj pins s1 O H1 Q _ I1 q⟩
theorem pL{e1 e2:Expr}{es:List Expr}{t:TJ}{pos:Pos}(h:PJ X (e1::e2::es) t):PE X (.JoinedStr (e1::e2::es) pos) (λO H Q=>t Str.empty O H Q):=λpins s O H Q I ht=>wpAny_JoinedStr (h pins s O H Q _ I ht)
theorem Hj(sep:Str){B:Nat}:∀(zs:List Str),(∀z∈zs,z.length<=B)->(Txt.join sep zs).length<=zs.length*(B+sep.length)
 |[],_=>fC _ |a::r,h=>by
  show(Builtin.Str.glued sep (a::r)).length<=_;rw[qH,len_join_cons];have:=sumLen_le_of_bound id B (a::r) h;rw[List.map_id]at this;rw[gp]at this⊢;have e1:(r.length+1)*(B+sep.length)=B*(r.length+1)+(r.length*sep.length+sep.length):=by rw[Nat.mul_add,Km (r.length+1) B,Nat.add_mul r.length 1 sep.length,Nat.one_mul]
  lia
inductive aca(K:aa)(x:V)(vs:List V)(H:Hp)(Q:VK):Prop |mk (sep:Str)(l:Addr)(zs:List Str)(h0:x= .str sep)(h1:vs=[.ref l])(h2:aI K H l (zs.map V.str))(h3:(∀z∈zs,z.length<=4000))(h4:sep.length<=8)(h5:zs.length<=1000)(h6:Q (.str (Txt.join sep zs)) H)
def OO(K:aa):V->List V->Hp->VK->Prop:=λx vs H Q=>aca K x vs H Q
theorem a2A(K:aa)(hK:X.K=K):qF X "str.join" (OO K):=by subst hK;intro pins s O H x vs v us Q I rx rv h;obtain⟨sep,l,zs,rfl,rfl,hl,hz,hs,hn,q⟩:=h;obtain⟨t,rfl⟩:=rx;obtain⟨u,rfl,ru⟩:=vals1 rv;cases(show u=Value.ref l from ru);obtain⟨its,r,pl,_⟩:=I.list hl;have Hw:=sumLen_le_of_bound id 4000 zs hz;rw[List.map_id]at Hw;have h1:zs.length*sep.length<=1000*8:=qK hn hs;refine join_list (ys:=zs) pl.isList (StrsAre.of_carried (Jx r)) au λt' k=>?_;exact⟨.str _,H,I.tok _,⟨_,Z⟩,q⟩
theorem kU(K:aa)(h:X.K=K){o e:Expr}{to:TE}{t:TA}{apos bN:Pos}(ho:PE X o to)(ha:PA X [e] t) (gf:autoParam (attributeBase o "join" X.env (eval o X.env)=eval o X.env) r8_._auto_1) (gc:autoParam (((backTo bN (starEach [e] X.env)).all (λx=>!x.1)&&(backToKw bN (keywordEach [] X.env)).all (λx=>x.1.isSome) &&decide ([e].length+([]:List Keyword).length+(if([]:List Keyword).isEmpty then 0 else 1)<30))=true) r8_._auto_1) (gb:autoParam ((apos.endLine==bN.line)=true) r8_._auto_1)(hs:autoParam (starEach [e] X.env=(false,eval e X.env)::starEach [] X.env) r8_._auto_1)(g9:autoParam ((backTo bN (starEach [] X.env)).any (·.1)=false) r8_._auto_1): PE X (.Call (.Attribute o "join" apos) [e] [] bN) (m5 K "str" (OO K) to t):=by subst h;exact nX yU PySem.F.slot_str_join PySem.F.type_str_join (a2A X.K rfl) ho ha gf gc gb hs g9
theorem KW{i:Int}(h:i.natAbs<10^40):(Str.ofString (toString i)).length<=41:=by rw[UQ];exact UL (k:=40) ay h
theorem ju{i:Int}(h:i.natAbs<10^40):i.natAbs.log2<1920:=by
 by_cases h0:i.natAbs=0
 ·rw[h0];decide
 ·exact(Nat.log2_lt h0).mpr (p8 h ay)
theorem TL:∀(l:List (Str×Tok)),Vals ((l.map (·.1)).map V.str) (strValues l) |[]=>.nil |(z,t)::l=>.cons ⟨t,Z⟩ (TL l)
theorem split_len(x y:Str):(Txt.split x y).length<=x.length+2:=by
 unfold Txt.split;split
 ·simp
 ·split
  ·simp
  ·have e1:=StrLaws.occ_length_le x y 0 x.length (x.length+1)
   rw[length_partsBetween];omega
inductive ac3(x:V)(vs:List V)(H:Hp)(Q:VK):Prop |mk (z y:Str)(h0:x= .str z)(h1:vs=[.str y])(h2:(y.length==0)=false)(h3:z.length+2<=sizeLine)(h4:∀p H',Nw H H' p (.lst ((Txt.split z y).map V.str))->Q (.ref p) H')
def OL:V->List V->Hp->VK->Prop:=λx vs H Q=>ac3 x vs H Q
theorem a2y:qF X "str.split" OL:=by
 intro pins s O H x0 vs v us Q I rx rv h;obtain⟨x,y,rfl,rfl,hy,hz,q⟩:=h;obtain⟨t,rfl⟩:=rx;obtain⟨u0,rfl,u,rfl⟩:=vals1 rv;have key:∀(l:List (Str×Tok))(k:Nat),l.map (·.1)=Txt.split x y->EP X pins O Q (.ref s.heap.objs.size) {s with toks:=k,heap:=s.heap.push {cls:=.type "list",data:=.seq (strValues l).toArray}}:=λl k e=>by have nw:Nw H (upd H s.heap.objs.size (.lst ((Txt.split x y).map V.str))) s.heap.objs.size (.lst ((Txt.split x y).map V.str)):=.of (I.bp.fresh (bI _));refine⟨.ref s.heap.objs.size,_,I.laid (t':=k) (o:=.lst ((Txt.split x y).map V.str)) (λb ob q=>cw _ q) (bI _) ?_,Z,q _ _ nw⟩;have:=split_len x y;exact⟨by rw[bM];omega,_,0,by rw[<-e];exact TL l,dH _ Z⟩
 cases h1:(decide (x.length<y.length)||decide (Builtin.Str.strKind x<Builtin.Str.strKind y))
 ·cases hf:(Builtin.Str.occurrences x y 0 x.length (x.length+1)).isEmpty
  ·have e1:=StrLaws.occ_length_le x y 0 x.length (x.length+1)
   refine tL F.slot_str_split (yS _ _ _) F.entry_str_split (F.args_str_split_2 _ _) (meets_str_split_sep x y t u h1 hy hf bC (by rw[length_partsBetween];omega)) ?_;show wants _ _ _ {s with toks:=_,heap:=s.heap.push {cls:=.type "list",data:=.seq (strsFrom s.toks (Builtin.Str.partsBetween x (Builtin.Str.occurrences x y 0 x.length (x.length+1)) y.length)).toArray}};rw[strsFrom_eq];exact key (numbered s.toks _) _ ((numbered_texts _ _).trans ((bf (UK h1)).trans (bf (UK hf))).symm)
  ·exact tL F.slot_str_split (yS _ _ _) F.entry_str_split (F.args_str_split_2 _ _) (meets_str_split_not_found x y t u h1 hy hf) (key [(x,t)] s.toks ((bf (UK h1)).trans (bc hf)).symm)
 ·exact tL F.slot_str_split (yS _ _ _) F.entry_str_split (F.args_str_split_2 _ _) (meets_str_split_cannot_occur x y t u h1) (key [(x,t)] s.toks (bc h1).symm)
theorem Gg(K:aa)(h:X.K=K){o e:Expr}{to:TE}{t:TA}{apos bN:Pos}(ho:PE X o to)(ha:PA X [e] t) (gf:autoParam (attributeBase o "split" X.env (eval o X.env)=eval o X.env) r8_._auto_1) (gc:autoParam (((backTo bN (starEach [e] X.env)).all (λx=>!x.1)&&(backToKw bN (keywordEach [] X.env)).all (λx=>x.1.isSome) &&decide ([e].length+([]:List Keyword).length+(if([]:List Keyword).isEmpty then 0 else 1)<30))=true) r8_._auto_1) (gb:autoParam ((apos.endLine==bN.line)=true) r8_._auto_1)(hs:autoParam (starEach [e] X.env=(false,eval e X.env)::starEach [] X.env) r8_._auto_1)(g9:autoParam ((backTo bN (starEach [] X.env)).any (·.1)=false) r8_._auto_1): PE X (.Call (.Attribute o "split" apos) [e] [] bN) (m5 K "str" OL to t):=by subst h;exact nX yU PySem.F.slot_str_split PySem.F.type_str_split a2y ho ha gf gc gb hs g9
inductive ac8(x:V)(vs:List V)(H:Hp)(Q:VK):Prop |mk (z y:Str)(h0:x= .str z)(h1:vs=[.str y])(h3:z.length<=sizeLine)(h4:Q (.str (Txt.removeprefix z y)) H)
def OM:V->List V->Hp->VK->Prop:=λx vs H Q=>ac8 x vs H Q
theorem a2z:qF X "str.removeprefix" OM:=by intro pins s O H x0 vs v us Q I rx rv h;obtain⟨x,y,rfl,rfl,hz,q⟩:=h;obtain⟨t,rfl⟩:=rx;obtain⟨u0,rfl,u,rfl⟩:=vals1 rv;exact SC.removeprefix (λt' k=>⟨.str _,H,I.kept (t':=k) (λ_ _ e=>e),⟨_,Z⟩,q⟩) (hsz:=hz)
theorem Zh(K:aa)(h:X.K=K){o e:Expr}{to:TE}{t:TA}{apos bN:Pos}(ho:PE X o to)(ha:PA X [e] t) (gf:autoParam (attributeBase o "removeprefix" X.env (eval o X.env)=eval o X.env) r8_._auto_1) (gc:autoParam (((backTo bN (starEach [e] X.env)).all (λx=>!x.1)&&(backToKw bN (keywordEach [] X.env)).all (λx=>x.1.isSome) &&decide ([e].length+([]:List Keyword).length+(if([]:List Keyword).isEmpty then 0 else 1)<30))=true) r8_._auto_1) (gb:autoParam ((apos.endLine==bN.line)=true) r8_._auto_1)(hs:autoParam (starEach [e] X.env=(false,eval e X.env)::starEach [] X.env) r8_._auto_1)(g9:autoParam ((backTo bN (starEach [] X.env)).any (·.1)=false) r8_._auto_1): PE X (.Call (.Attribute o "removeprefix" apos) [e] [] bN) (m5 K "str" OM to t):=by subst h;exact nX yU PySem.F.slot_str_removeprefix PySem.F.type_str_removeprefix a2z ho ha gf gc gb hs g9
inductive ack(xs:List V)(H:Hp)(Q:VK):Prop |mk (z:Str)(n:Int)(h0:xs=[.str z])(h1:PySem.intText? z=some n)(h2:z.length<=640)(h3:Q (.int n) H)
theorem Jz:dX X (.type "int") (λxs H Q=>ack xs H Q):=by intro pins s O H xs us Q I r h;obtain⟨z,n,rfl,hn,hl,q⟩:=h;obtain⟨u,rfl,t,rfl⟩:=vals1 r;exact PySem.W.KIN.call_text hn hl ⟨.int _,H,I.tok _,⟨_,Z⟩,q⟩
inductive acI(K:aa)(t1 t2:TG)(v:V)(O:St)(H:Hp)(Q:St->Hp->Prop):Prop |mk (a:Addr)(x:V)(xs:List V)(h0:v= .ref a)(h1:aI K H a (x::xs))(h2:xs.length<=16000)(h3:∀p H',Nw H H' p (.lst xs)->t1 x O H' λσ1 H1=>t2 (.ref p) σ1 H1 Q)
def a73(K:aa)(t1 t2:TG):TG:=λv O H Q=>acI K t1 t2 v O H Q
theorem OY(K:aa)(hK:X.K=K){e1 e2:Expr}{k:Nat}{t1 t2:TG}{sp pos:Pos}(hc:X.calm=true)(h1:PG X e1 t1)(h2:PG X e2 t2) (hs:autoParam (assignEach [e1,.Starred e2 sp] X.env=[(false,assign e1 X.env),(true,assign e2 X.env)]) r8_._auto_1):PG X (.Tuple [e1,.Starred e2 sp] k pos) (a73 K t1 t2):=by subst hK;intro pins s O H v u Q I r hw;obtain⟨a,x,xs,e,hq,hl,hw⟩:=hw;subst e;cases r;obtain⟨its,rv,ht,hz⟩:=I.list hq;have hh:X.A.handled=none:=I.ok.hd hc;have xN:=ht.isList;cases rv with |cons r1 rr=>
 rename_i ux gW;have hlen:=rr.length;have cn:a≠s.heap.objs.size:=by obtain⟨o,ho,_⟩:=xN;exact eR (cm ho)
 rw[assign_Tuple];refine aK (C4 ?_);unfold unpack;rw[hs];refine aK (jE ?_);show wpAny _ _ (unpackItems (.ref a) 2 (some 1)) _ _ _;unfold unpackItems;refine aK ?_;unfold notIterableAtAll;refine aK (C5 xN.typeIs slot_list_iter.lookup ?_);refine bT ?_;simp only[Bool.false_eq_true,if_false];refine aK (jE (yO xN ?_));have sz:(ux::gW).toArray.size=xs.length+1:=by rw[dP,gp,hlen]
 refine aK (jE (PySem.W.kun_draw cn 1 0 _ _ ⟨_,dH _ Z,Z,Z⟩ (xN.push _) bC λh₁ HZ Rb=>?_));have Rm:h₁.IsList a (ux::gW).toArray:=(xN.push _).extBut Rb.extBut cn;rw[Nat.zero_add]at HZ;have a55:=HZ;obtain⟨oi,j4,_⟩:=a55;have a4S:=Rm;obtain⟨ol,oA,_⟩:=a4S;rw[bf (by simp)];refine aK (jE (PySem.W.kun_collect (s:={s with heap:=h₁}) (T:="list_iterator") (.inr (.inr (.inl rfl))) (Walks.list (A:=X.A.in1) hh s.heap.objs.size a cn (ux::gW).toArray) (λj u st=>st.1.typeIs) (k:=1) bC ⟨HZ,Rm⟩ (cm j4) (cm oA) (λh₂ tk hk=>?_) (by rw[yT];omega)));have ea:(ux::gW).toArray.toList.drop 1=gW:=by simp
 rw[ea];show wpAny _ _ (if gW.length<2-1-1 then _ else _) _ _ _;rw[bf bC];show wpAny _ _ (newList (gW.take (gW.length-(2-1-1)))>>=λd=>pure ((ux::gW).toArray.toList.take 1++[d]++gW.drop (gW.length-(2-1-1)))) _ _ _;have eb:gW.take (gW.length-(2-1-1))=gW:=yX bC;have ec:gW.drop (gW.length-(2-1-1))=[]:=List.drop_eq_nil_of_le bC;rw[eb,ec];have he:Heap.ExtBut s.heap.objs.size s.heap h₂:=λb o hb e=>hk b o hb (Rb.extBut b o hb (cw _ e));refine aK (wpAny_newList (s:={s with heap:=h₂,toks:=tk}) (bT ?_) ?_)
 ·have I2:Inv X pins O H {s with heap:=h₂,toks:=tk}:=I.kept (t':=tk) λb o e=>he b o (eR (cm e)) e
  have nw:Nw H (upd H h₂.objs.size (.lst xs)) h₂.objs.size (.lst xs):=.of (I2.bp.fresh (bI _));have I3:Inv X pins O (upd H h₂.objs.size (.lst xs)) {s with heap:=h₂.push {cls:=.type "list",data:=.seq gW.toArray},toks:=tk}:=I2.laid (t':=tk) (o:=.lst xs) (λb ob q=>cw _ q) (bI _) ⟨by rw[gp]at hz;omega,gW,0,rr,dH _ rfl⟩;show wpAny _ _ (assignInOrder (assign e1 X.env::[assign e2 X.env]) (ux::[Value.ref h₂.objs.size])) _ _ _;refine Cd (aZ (h1 pins _ O _ _ _ _ I3 r1 (hw _ _ nw)) λ_ s1 ⟨σ1,H1,I1,q1⟩=>?_);refine Cd (aZ (h2 pins s1 σ1 H1 (.ref h₂.objs.size) _ _ I1 Z q1) λ_ s2 ⟨σ2,H2,I2,q2⟩=>?_);exact assignInOrder_nil ⟨σ2,H2,I2,q2⟩
 ·rw[<-hlen,yT];omega
end
end _L
namespace _T
open PySem PySem.Spec PyProof.Rows PySem.NumText
def Free(c:Nat)(z:Str):Prop:=c∉z.cps.toList
def gl(c:Nat):List (List Nat)->List Nat |[]=>[] |[x]=>x |x::y::r=>x++c::gl c (y::r)
theorem IK(c:Nat):∀zs:List Str,(PySem.Str.join ⟨#[c]⟩ zs).cps.toList=gl c (zs.map λz=>z.cps.toList) |[]=>by simp[PySem.Str.join,PySem.Str.empty,gl] |[x]=>rfl |x::y::r=>by show((x++⟨#[c]⟩)++PySem.Str.join ⟨#[c]⟩ (y::r)).cps.toList=_;rw[qI,qI,nO,nO,IK c (y::r)];show(x.cps.toList++[c])++gl c _=x.cps.toList++c::gl c _;rw[Vg];rfl
theorem Tn{c:Nat}:∀{a b r s:List Nat},c∉a->c∉b->a++c::r=b++c::s->a=b/\r=s |[],[],r,s,_,_,e=>by simpa using e |[],y::b,r,s,_,h,e=>by simp at e;exact(h (by rw[e.1];exact .head _)).elim |x::a,[],r,s,h,_,e=>by simp at e;exact(h (by rw[<-e.1];exact .head _)).elim |x::a,y::b,r,s,h1,h2,e=>by simp only[List.cons_append,List.cons.injEq]at e;obtain⟨e1,e2⟩:=Tn (λz=>h1 (.tail _ z)) (λz=>h2 (.tail _ z)) e.2;exact⟨by rw[e.1,e1],e2⟩
theorem S6{c:Nat}:∀{as bs:List (List Nat)},as≠[]->bs≠[]->(∀a∈as,c∉a)->(∀b∈bs,c∉b)->gl c as=gl c bs->as=bs
 |[],_,h,_,_,_,_=>(h Z).elim |_,[],_,h,_,_,_=>(h Z).elim |[a],[b],_,_,_,_,e=>by rw[show a=b from e] |[a],b::b'::r,_,_,ha,_,e=>by
  have:c∈a:=by rw[show a=b++c::gl c (b'::r)from e];simp
  exact(ha a (.head _) this).elim |a::a'::r,[b],_,_,_,hb,e=>by
  have:c∈b:=by rw[<-show a++c::gl c (a'::r)=b from e];simp
  exact(hb b (.head _) this).elim |a::a'::r,b::b'::s,_,_,ha,hb,e=>by obtain⟨e1,e2⟩:=Tn (ha a (.head _)) (hb b (.head _)) (show a++c::gl c (a'::r)=b++c::gl c (b'::s)from e);rw[e1,S6 (by simp) (by simp) (λx hx=>ha x (.tail _ hx)) (λx hx=>hb x (.tail _ hx)) e2]
theorem yx{x y:Str}(h:x.cps.toList=y.cps.toList):x=y:=PySem.Str.ext' (Array.toList_inj.mp h)
theorem map_inj:∀{xs ys:List Str},xs.map (λz=>z.cps.toList)=ys.map (λz=>z.cps.toList)->xs=ys |[],[],_=>rfl |[],y::ys,h=>by simp at h |x::xs,[],h=>by simp at h |x::xs,y::ys,h=>by simp only[qM,List.cons.injEq]at h;rw[yx h.1,map_inj h.2]
theorem Lz(x y:Str):Txt.split x y≠[]:=by
 unfold Txt.split;split
 ·simp
 ·split
  ·simp
  ·rw[StrLaws.partsBetween_eq]
   obtain⟨p,r,e⟩:=StrLaws.partsFrom_ne x y.length 0 (Builtin.Str.occurrences x y 0 x.length (x.length+1));rw[e];simp
theorem LA{c:Nat}{zs:List Str}(cI:zs≠[])(hf:∀z∈zs,Free c z):Txt.split (Txt.join ⟨#[c]⟩ zs) ⟨#[c]⟩=zs:=by
 have e:=StrLaws.join_split (Txt.join ⟨#[c]⟩ zs) ⟨#[c]⟩;have fr:=StrLaws.split_free (Txt.join ⟨#[c]⟩ zs) c;have e2:Txt.join ⟨#[c]⟩ zs=PySem.Str.join ⟨#[c]⟩ zs:=qH _ _;have e3:=lW (λz:Str=>z.cps.toList) (e.trans e2);simp only[IK]at e3;refine map_inj (S6 (by simpa using Lz _ _) (by simpa using cI) (λa ha=>?_) (λb hb=>?_) e3)
 ·obtain⟨z,hz,rfl⟩:=cY.mp ha
  exact fr z hz
 ·obtain⟨z,hz,rfl⟩:=cY.mp hb
  exact hf z hz
def numS(i:Int):Str:=Str.ofString (toString i)
def isFig(c:Nat):Bool:=decide (48<=c)&&decide (c<=57)
def figs(z:Str):List Nat:=match z.cps.toList with |45::r=>r |l=>l
def numIn? (z:Str):Option Int:=bif (figs z).isEmpty|| !(figs z).all isFig then none else bif decide ((figs z)[0]? =some 48)&& !decide (z="0")then none else intText? z
theorem vc{cs:List Nat}(h:cs.all isFig=true):AllDigits cs:=λc hc=>by have:=fU.mp h c hc;simpa[isFig]using this
theorem Ta{cs:List Nat}(h:AllDigits cs):cs.all isFig=true:=fU.mpr λc hc=>by have:=h c hc;simpa[isFig]using this
theorem oT(m:Nat):(numS (m:Int)).cps.toList=(Nat.toDigits 10 m).map Char.toNat:=PySem.W.KIN.signs_num m
theorem yw(m:Nat):(numS (Int.negSucc m)).cps.toList=45::(Nat.toDigits 10 (m+1)).map Char.toNat:=by unfold numS;rw[signs_ofString];show("-"++Nat.repr (m+1)).toList.map Char.toNat=_;rw[String.toList_append,jG,Nat.toList_repr];rfl
theorem mY(m:Nat):AllDigits ((Nat.toDigits 10 m).map Char.toNat):=λc hc=>by obtain⟨ch,kF,e⟩:=cY.mp hc;have r:=digit_range (Nat.isDigit_of_mem_toDigits ay ay kF);rw[<-e];exact r
theorem BJ(m:Nat):(Nat.toDigits 10 m).map Char.toNat≠[]:=λe=>by have h:=toDigits_len_ge 10 m;rw[List.map_eq_nil_iff.mp e]at h;exact absurd h ay
theorem a9c:∀d:Nat,d<10->d≠0->(Nat.digitChar d).toNat≠48:=by decide
theorem Qy(m:Nat)(h0:m≠0):((Nat.toDigits 10 m).map Char.toNat)[0]? ≠some 48:=by induction m using Nat.strongRecOn with |_ m ih=>
 by_cases h:m<10
 ·rw[V4 h]
  simpa using a9c m h h0
 ·have hm:m%10<10:=Nat.mod_lt m ay
  have t:Nat.toDigits 10 (m/10)++Nat.toDigits 10 (m%10)=Nat.toDigits 10 (10*(m/10)+m%10):=Nat.toDigits_append_toDigits ay bC hm;rw[Nat.div_add_mod]at t;rw[<-t,jG,vV (Cq.mpr (BJ _))];exact ih (m/10) bC bC
theorem a98(m:Nat):((Nat.toDigits 10 m).map Char.toNat).head? ≠some 45:=λe=>by have:=mY m 45 (List.mem_of_mem_head? e);omega
theorem a7g{z:Str}{l:List Nat}(h:z.cps.toList=l)(hh:l.head? ≠some 45):figs z=l:=by
 unfold figs;rw[h];split
 ·simp at hh
 ·rfl
theorem a7i(m:Nat):figs (numS (m:Int))=(Nat.toDigits 10 m).map Char.toNat:=a7g (oT m) (a98 m)
theorem a7h(m:Nat):figs (numS (Int.negSucc m))=(Nat.toDigits 10 (m+1)).map Char.toNat:=by unfold figs;rw[yw];rfl
theorem SI(m:Nat):((Nat.toDigits 10 m).map Char.toNat).isEmpty=false:=by have:=BJ m;cases h:(Nat.toDigits 10 m).map Char.toNat with |nil=>exact(this h).elim |cons=>rfl
theorem Gw{i:Int}(hl:(numS i).length<=4300):numIn? (numS i)=some i:=by unfold numIn?;cases i with
 |ofNat m=>
  have ef:figs (numS (Int.ofNat m))=(Nat.toDigits 10 m).map Char.toNat:=a7i m;have ec:(numS (Int.ofNat m)).cps.toList=(Nat.toDigits 10 m).map Char.toNat:=oT m;have e:=K5 (x:=numS (Int.ofNat m)) (by rw[ec];exact mY m) (by rw[ec];exact BJ m) hl;rw[ec,PySem.W.KIN.val_back]at e;rw[ef,Ta (mY m),SI,e];have h2:(decide (((Nat.toDigits 10 m).map Char.toNat)[0]? =some 48)&& !decide (numS (Int.ofNat m)="0"))=false:=by
   by_cases h0:m=0
   ·subst h0;decide+kernel
   ·rw[dE (Qy m h0)];rfl
  rw[h2];rfl |negSucc m=>have e:=intText_neg (x:=numS (Int.negSucc m)) (yw m) (mY (m+1)) (BJ (m+1)) hl;rw[PySem.W.KIN.val_back]at e;rw[a7h,Ta (mY (m+1)),SI,dE (Qy (m+1) bC),e];exact lW some (Int.negSucc_eq m).symm
theorem rX{i:Int}{c:Nat}(h:c≠45)(h1:c<48):Free c (numS i):=λhc=>by cases i with |ofNat m=>rw[show(numS (Int.ofNat m)).cps.toList=_ from oT m]at hc;have:=mY m c hc;omega |negSucc m=>
 rw[yw]at hc;rcases cg.mp hc with e|hc
 ·exact h e
 ·have:=mY (m+1) c hc
  omega
theorem a3X{z:Str}(h1:figs z≠[])(h2:(figs z).all isFig=true)(hl:z.length<=4300):∃n,intText? z=some n:=by
 unfold figs at h1 h2;split at h1
 ·rename_i r h
  rw[h]at h2;exact⟨_,intText_neg h (vc h2) h1 hl⟩
 ·rename_i h
  split at h2
  ·rename_i r h'
   exact(h r h').elim
  ·exact⟨_,K5 (vc h2) h1 hl⟩
theorem Yi(z:Str):(Txt.removeprefix z "-").cps.toList=figs z:=by
 rw[StrLaws.removeprefix_eq];have e1:(Str.ofString "-").cps.toList=[45]:=by decide+kernel
 have e2:(Str.ofString "-").length=1:=by decide+kernel
 have hn:z.cps.toList.length=z.length:=by simp[Str.length]
 rw[e2,StrLaws.subAt_eq,e1,e2,List.drop_zero];unfold figs;cases hz:z.cps.toList with |nil=>rw[hz]at hn;have h0:z.length=0:=hn.symm;rw[bf (by simp)];exact hz |cons a r=>
  rw[hz]at hn;simp only[gp]at hn;by_cases ha:a=45
  ·subst ha
   rw[bc (by simp;omega)];show((List.drop 1 (45::r)).take _).toArray.toList=r;rw[List.drop_one,List.tail_cons,yX bC]
  ·rw[bf (by simp;intro _;exact λe=>ha (by simpa using e))]
   rw[hz];split
   ·rename_i h;simp at h;exact(ha h.1).elim
   ·rfl
end _T
namespace _L
open PySem PySem.Spec PyProof.Rows
inductive aay(tb:TE)(O:St)(Q:VK)(x:V)(H1:Hp):Prop |mk (z:Str)(h0:x= .str z)(h1:z.length<=16777216)(h2:if z="" then tb O H1 Q else Q (.str z) H1)
def Wz(ta tb:TE):TE:=λO H Q=>ta O H λx H1=>aay tb O Q x H1
theorem X1{z:Str}(h:z.length=0):z="":=_T.yx (by have:z.cps.size=0:=h;rw[Array.eq_empty_of_size_eq_zero this];rfl)
theorem Gd{X:Cx}{a b:Expr}{rest:List Expr}{pos:Pos}{ta tb:TE}(ha:PE X a ta)(hb:PE X (.BoolOp .Or (b::rest) pos) tb):PE X (.BoolOp .Or (a::b::rest) pos) (Wz ta tb):=by
 intro pins s O H Q I h;refine BoolOp_or (aZ (ha pins s O H _ I h) λv s1 ⟨x,H1,I1,r1,q1⟩=>?_);obtain⟨z,rfl,hl,q1⟩:=q1;obtain⟨t,rfl⟩:=(show∃t,v=Value.str z t from r1);refine P.truthy_str bC ?_;by_cases e:z=""
 ·rw[bc e]at q1
  subst e;exact hb pins _ O H1 Q (I1.tok _) q1
 ·rw[bf e]at q1
  have:((z.length:Int) !=0)=true:=by rw[bne_iff_ne];intro h0;exact e (X1 bC)
  rw[this];exact⟨.str z,H1,I1.tok _,⟨t,Z⟩,q1⟩
section
variable {P:af}{w:World}{K:aa}{mg:bD}{ao:Heap}{k:Nat}{sp:Sp}{C:Addr}{x m:Str}{f:Addr}{fd:FuncData}{ps:List Str}
theorem eG.d(F:eG P w K mg ao ib k f fd ps sp):eG P w K mg ao (iQ P w) k f fd ps sp:=⟨F.len,λA outer s H args us vs Q E hr he hb hv hs=>vJ (F.run A outer s H args us vs Q E hr he hb hv hs) λr s' hq=>by cases r with |ok fl=>cases fl<;>exact hq |error e=>exact hq.elim⟩
theorem eG.n(F:eG P w K mg ao (iQ P w) k f fd ps sp):eG P w K mg ao ib k f fd ps (λvs H Q _=>sp vs H Q E0):=⟨λvs H Q E h=>F.len vs H Q E0 h,λA outer s H args us vs Q E hr he hb hv hs=>vJ (F.run A outer s H args us vs Q E0 hr he hb hv hs) λr s' hq=>by cases r with |ok fl=>cases fl<;>exact hq |error e=>obtain⟨_,_,_,_,_,_,_,_,_,_,z⟩:=hq;exact z⟩
theorem aA.d(F:aA P w K mg ao x k sp):qG P w K mg ao x k sp:=by obtain⟨f,fd,ps,F,h1,h2,h3⟩:=F;exact⟨f,fd,ps,F.d,h1,h2,h3⟩
theorem qG.le{j:Nat}(F:qG P w K mg ao x k sp)(h:k<=j):qG P w K mg ao x j sp:=by obtain⟨f,fd,ps,F,h1,h2,h3⟩:=F;exact⟨f,fd,ps,F.mono h,h1,h2,h3⟩
theorem jd.n(F:jd P w K mg ao C m k sp):bQ P w K mg ao C m k (λvs H Q _=>sp vs H Q E0):=by obtain⟨f,fd,ps,F,h1,h2⟩:=F;exact⟨f,fd,ps,F.n,h1,h2⟩
end
end _L
namespace _L
open PySem PySem.Spec PyProof.Rows PySem.W
section
variable {P:af}{w:World}{K:Frag}{mg:bD}{ao:Heap}{N:List Str}{qual:Str}{scope:Scope}{f:Addr}{cd:Value}{cl:List (Str×Addr)}{A:ai}{outer:List Env}{s:ae}{H:Hp}{E E0:XK}
end
section
variable {X:Cx}{x:Str}{p pos:Pos}{E:XK}
end
section
variable {X:Cx}{pins:List (Addr×Obj)}{O:St}{H:Hp}{s:ae}{pr:Arguments}{bd:Expr}{sc:Scope}{Qi:Pos}{cl:List (Str×Addr)}{T c:Addr}{q:Str}
end
section
variable {X:Cx}{k:Nat}{x:Str}{p pos Qi:Pos}{pr:Arguments}{bd:Expr}{sc:Scope}{sp:SpH}{T c:Addr}{q:Str}{N:List Str}
end
section
variable {P:af}{w:World}{K:Frag}{mg:bD}{ao:Heap}
end
end _L
namespace _L
open PySem PySem.Spec PyProof.Rows
section
variable {P:af}{w:World}{K:aa}{mg:bD}{ao:Heap}{N:List Str}{qual:Str}{scope:Scope}{f:Addr}{cd:Value}{A:ai}{outer:List Env}{s:ae}{H:Hp}{E:XK}{pins:List (Addr×Obj)}{O:St}{H1:Hp}{s1:ae}{ex:Addr}{C:Addr}{dx:Addr}{φ:Heap->Prop}{cls:Value}{dxo:Option Addr}{h2:Heap}{vs:List Value}
theorem CD(I:Inv (gC (iQ P w) P w K mg ao N qual scope f cd A outer s H E) pins O H1 s1)(hx:Heap.MadeExcOf s1.heap h2 ex cls vs)(q:E cls none H1):(gC (iQ P w) P w K mg ao N qual scope f cd A outer s H E).xe (.ref ex) {s1 with heap:=h2}:=by
 obtain⟨t,e1,_⟩:=hx.there;have hf:H1 ex=none:=by cases e:H1 ex with |none=>rfl |some o=>obtain⟨ob,e2⟩:=(I.bp ex o e).there;rw[hx.new]at e2;cases e2
 have nw:s.heap.get? ex=none:=by cases e:s.heap.get? ex with |none=>rfl |some o=>obtain⟨ob,e2⟩:=I.ao.there ex o e (eT);rw[hx.new]at e2;cases e2
 have I2:=I.kept (t':=s1.toks) hx.keeps;have g6:h2.FunFrames ao (envOfC qual scope s.heap.objs.size f cd::outer):=I2.stack;have Ig:∀env∈(envOfC qual scope s.heap.objs.size f cd::outer),∀b,env.frame=some b->b∈ex::eu (envOfC qual scope s.heap.objs.size f cd::outer):=λenv he b hb=>.tail _ (nH.mpr ⟨env,he,hb⟩);have hB:(PySem.W.hideAll h2 (ex::eu (envOfC qual scope s.heap.objs.size f cd::outer))).StaysIn h2:=λb o e=>PySem.W.of_hideAll _ e;have pQ:∀b o,s.heap.get? b=some o->b∉eu outer->b∉ex::eu (envOfC qual scope s.heap.objs.size f cd::outer):=λb o e hb hm=>by
  rcases cg.mp hm with rfl|hm
  ·rw[nw]at e;cases e
  obtain⟨env,he,hf⟩:=nH.mp hm;rcases cg.mp he with rfl|he
  ·have e1:s.heap.objs.size=b:=dG hf
   have h1:=cm e;rw[<-e1]at h1;exact absurd h1 (qL _)
  ·exact hb (nH.mpr ⟨env,he,hf⟩)
 have F0:Fl P w outer H s.heap ex H1 (PySem.W.hideAll h2 (ex::eu (envOfC qual scope s.heap.objs.size f cd::outer))) h2:=by
  refine⟨I2.ao,I2.bp,λb o e n hb=>Ke _ (I2.ao.keep b o e n hb (eT)) (pQ b o e hb),λb o e=>?_,λb o e hb=>?_,λb hb=>?_,nw,hf⟩
  ·obtain⟨Gs,e1⟩:=(I2.bp b o e).there
   refine⟨Gs,Ke _ e1 λhm=>?_⟩;rcases cg.mp hm with z|hm
   ·rw[z,hf]at e;cases e
   ·rw[I2.zK b hm]at e
    cases e
  ·obtain⟨Gs,e1⟩:=I2.ao.there b o e (eT)
   exact⟨Gs,Ke _ e1 (pQ b o e hb)⟩
  ·obtain⟨env,he,hf⟩:=nH.mp hb
   exact I2.zK b (nH.mpr ⟨env,.tail _ he,hf⟩)
 show wpAny (model P w) (A.deeper (envOfC qual scope s.heap.objs.size f cd)) (leaving (envOfC qual scope s.heap.objs.size f cd) (.ref ex)) _ _ _;refine a3u (L:=s.heap.objs.size) I.ok.frames (PySem.W.funFrames_hide g6 Ig) Z e1 hB (PySem.W.hideAll_none _ (.head _)) Z Z Z λh' x1 x2=>?_;exact⟨ex,cls,none,H1,_,Z,I.os,I.bare,x1,F0.step hB x1.1 x2 g6.2.2,q⟩
end
section
variable {X:Cx} {sc:Scope}
end
end _L
namespace _t
open _l
end _t
namespace _L
open PySem PySem.Spec PyProof.Rows
theorem XW:typeLookup (.type "list_reverseiterator") "__len__"=pure none:=by rw[typeLookup_type,builtinLookup_eq_fast];kernel_rfl
theorem XY:typeLookup (.type "list_reverseiterator") "__length_hint__"=pure (some (.builtin "list_reverseiterator.__length_hint__")):=by rw[typeLookup_type,builtinLookup_eq_fast];kernel_rfl
section
variable {prog:af}{w:World}{A:ai}{E:Value->ae->Prop}{s:ae}
def C1(I l:Addr)(its:Array Value)(i:Nat)(s:ae):Prop:=i<=its.size/\s.heap.IsRevIter I l ((its.size:Int)-1-(i:Int))/\s.heap.IsList l its
theorem XT(hh:A.handled=none)(I l:Addr)(cI:l≠I)(its:Array Value): WalksS prog w A I [I,l] [I] Eq its.size (λi v=>its[its.size-1-i]? =some v) (C1 I l its) where
 sub:=λb hb=>cg.mpr (.inl (cW.mp hb))
 grefl:=λ_=>rfl
 gtrans:=λ_ _ _=>Eq.trans
 frame:=λi s h' tk x _ hk=>⟨x.1,x.2.1.at λo e=>hk I (by simp) o e,x.2.2.at λo e=>hk l (by simp) o e⟩
 item:=λi s Q E hi x hQ=>by
  have e:(its.size:Int)-1-(i:Int)=((its.size-1-i:Nat):Int):=by omega
  have hit:=x.2.1;rw[e]at hit;refine wpAny_pyNext_rev_item hit x.2.2 (KH (i:=its.size-1-i) bC) λh' a57 kD=>?_;refine hQ _ {s with heap:=h'} (KH bC) ⟨hi,?_,x.2.2.at λo eo=>(kD.2 l cI).trans eo⟩ ⟨λb o hb eo=>kD.extBut b o (λz=>hb (cW.mpr z)) eo,Z,Z,Z,bI _⟩;have e2:((its.size-1-i:Nat):Int)-1=(its.size:Int)-1-((i+1:Nat):Int):=by omega
  rw[<-e2];exact a57
 done:=λs Q E x hQ=>by have hit:=x.2.1;rw[show(its.size:Int)-1-(its.size:Int)=-1 by omega]at hit;exact wpAny_pyNext_rev_end hh hit λh' Ii=>hQ {s with heap:=h'} ⟨λb o hb eo=>Ii b o (λz=>hb (cW.mpr z)) eo,Z,Z,Z,bI _⟩
 self:=λ_ _ _ _ x hQ=>wpAny_pyIter_revIter x.2.1 hQ
theorem XZ{I l:Addr}{its:Array Value}{Q:List Value->ae->Prop}(hh:A.handled=none)(cI:l≠I)(x:C1 I l its 0 s)(hI:I<s.heap.objs.size)(hl:l<s.heap.objs.size)(hn:its.size<=sizeLine) (hQ:∀s' acc,Moved [I] Eq s s'->ItemsOf (λi v=>its[its.size-1-i]? =some v) acc its.size->Q acc.toList s'):wpAny (model prog w) A (collect (.ref I)) Q E s:=by
 have W:=XT (prog:=prog) (w:=w) (A:=A.in1) hh I l cI its;have hT:∀{i s},C1 I l its i s->s.TypeIs (.ref I) "list_reverseiterator":=λy=>y.2.1.typeIs;obtain⟨S,hS⟩:∃S,s.heap.objs.size=S:=⟨_,Z⟩;let nw:Obj:={cls:=.type "list",data:=.seq ([]:List Value).toArray};have RV:S≠I:=vO (hS▸hI);have hSl:S≠l:=vO (hS▸hl);have hSf:S∉[I,l]:=by simp[RV,hSl]
 have sf:Builtin.List.listSameRef (.ref S) (.ref I)=false:=by simp[Builtin.List.listSameRef,RV]
 have y:=W.frame 0 s (s.heap.push nw) s.toks x (bI _) λb _ o e=>cw _ e;have aS:(s.heap.push nw).get? S=some nw:=by rw[<-hS];exact dH _ rfl
 unfold collect;apply aK;apply wpAny_runValue;apply K8 F.entry_proto_collect;rw[Vr F.plain_proto_collect _];apply aK (m:=newList []);refine nC ?_;rw[hS];refine bT ⟨plainId_quiet F.plain_list_iadd _,K8 F.entry_list_iadd ?_⟩;rw[Vr F.plain_list_iadd _];show wpAny _ A.in1 (Builtin.List.listExtendWith (.ref S) (.ref I) (.ref S)) _ _ _;unfold Builtin.List.listExtendWith;apply aK;apply wpAny_typeOf (hT y);rw[bf (by rw[sf];decide)];apply aK;apply W.self 0 _ _ _ y;apply aK;apply jE;unfold Builtin.List.listLengthHint;apply aK;apply C5 (hT y) XW;apply aK (m:=specialOf (Value.ref I) (Str.ofString "__length_hint__"));apply C5 (hT y) XY
 (generalize Rw:("list_reverseiterator.__length_hint__":String)=z0;wp_delta;rw[show splitId z0=some ("list_reverseiterator","__length_hint__")from by subst Rw;decide+kernel];subst Rw);apply aK;apply wpAny_isInstance (b:=true) (hT y) (by rw[isSubtype_type];kernel_rfl);apply bT;rw[bf ay];refine bT ⟨plainId_quiet F.plain_extend_loop _,codeAny_extend_loopS W hn _ hSf _ its.size 0 _ _ _ Z (fC _) y aS (ItemsOf.nil _) λs' aaa c' hm oH uY=>?_⟩;apply aK (m:=load S);apply wpAny_load oH;exact bT (hQ s' aaa (Moved.drop_new (o:=nw) (tk:=s.toks) (hS▸hm) (bI _)) uY)
theorem XU(sep:Str):∀(ps:List (Str×Tok)),JoinOk sep (ps.map (·.1))=true->Gives (PySem.joinTail sep (strValues ps)) (joinMade sep ps) |[],h=>gives_joinTail sep [] ((ze _).mp h) |[p],h=>gives_joinTail sep [p] ((ze _).mp h) |p::q::r,h=>gives_joinTail sep (p::q::r) ((ze _).mp h)
theorem XX{I l:Addr}{its:Array Value}{zs:List Str}{sep:Str}{t:Tok}{Q:Value->ae->Prop}(hh:A.handled=none)(cI:l≠I)(x:C1 I l its 0 s)(hI:I<s.heap.objs.size)(hl:l<s.heap.objs.size) (hz:StrsAre its.toList zs)(hn:its.size<=sizeLine)(bp:(zs.map (·.length)).sum+zs.length*sep.length<=16777216) (hQ:∀h' t' k,(∀b o,b≠I->s.heap.get? b=some o->h'.get? b=some o)->Q (.str (Txt.join sep zs.reverse) t') {s with heap:=h',toks:=k}): wpAny (model prog w) A (call (.builtin "str.join") [.str sep t,.ref I]) Q E s:=by
 have hT:s.TypeIs (.ref I) "list_reverseiterator":=x.2.1.typeIs;apply vI;refine K7 F.slot_str_join.plain F.entry_str_join (F.slot_str_join.check _ _ _ _ _ _ _ _ (yS _ _ _) (F.args_str_join_2 _ _) ?_);rw[join_tree_other];refine aK (wpAny_typeOf hT ?_);show wpAny _ A.in1 ((pyIter (.ref I)).tryCatch _>>=λit=>collect it>>=λvs=>PySem.joinTail sep vs) _ _ s;refine aK (wpAny_tryCatch (wpAny_pyIter_revIter x.2.1 ?_));refine aK (XZ hh cI x hI hl hn λs' acc hm uY=>?_);have ea:acc.toList=its.toList.reverse:=by
  refine Kw λj=>?_;by_cases hj:j<its.size
  ·have h1:=uY.2 j _ (KH (by rw[uY.1];exact hj))
   rw[List.getElem?_reverse (by simpa using hj),kJ,Vq,Vq];exact(KH (by rw[uY.1];exact hj)).trans h1.symm
  ·exact(qN (by rw[kJ,uY.1];omega)).trans (qN (by rw[List.length_reverse,kJ];omega)).symm
 obtain⟨ps,hv,ht⟩:=strsAre_values hz;have ev:strValues ps.reverse=acc.toList:=by rw[ea,hv];unfold strValues;rw[V8]
 have et:(ps.reverse).map (·.1)=zs.reverse:=by rw[V8,ht]
 have ok:JoinOk sep (ps.reverse.map (·.1))=true:=joinOk_of (by rw[et,V8,List.sum_reverse,List.length_reverse];exact bp);rw[<-ev];have rW:=(ze _).mp ok;have post:(Txt.join sep (ps.reverse.map (·.1))).length<=sizeLine/\∀t' k,Q (.str (Txt.join sep (ps.reverse.map (·.1))) t') {s' with toks:=k}:=by
  refine⟨joinFit_length rW,λt' k=>?_⟩;rw[et];have e:({s' with toks:=k}:ae)={s with heap:=s'.heap,toks:=k}:=by rcases s' with⟨a,b,c,d,f⟩;have e1:_=b:=hm.gens;have e2:c=_:=hm.drawn;have e3:f=_:=hm.os;subst e1 e2 e3;rfl
  rw[e];exact hQ _ t' k λb o hb eo=>hm.heap b o (λz=>hb (cW.mp z)) eo
 exact XU sep ps.reverse ok prog w A (wants Q E) s' (post_join ps.reverse post)
end
section
variable {X:Cx}
inductive acb(K:aa)(x:V)(vs:List V)(H:Hp)(Q:VK):Prop |mk (sep:Str)(l:Addr)(zs:List Str)(h0:x= .str sep)(h1:vs=[.ref l])(h2:aI K H l (zs.map V.str))(h3:(∀z∈zs,z.length<=4000))(h4:sep.length<=8)(h5:zs.length<=1000)(h6:Q (.str (Txt.join sep zs.reverse)) H)
def WL(K:aa)(to:TE)(t:TA):TE:=λO H Q=>to O H λx H1=>CH K "str" x H1/\t O H1 λvs H2=>acb K x vs H2 Q
theorem Zi(K:aa)(h:X.K=K){o a:Expr}{to:TE}{t:TA}{apos bN p pos:Pos}(hg:Gl X "reversed")(hm:X.mg "reversed"=none)(ho:PE X o to)(ha:PA X [a] t)(hc:autoParam (X.calm=true) r8_._auto_1) (gf:autoParam (attributeBase o "join" X.env (eval o X.env)=eval o X.env) r8_._auto_1) (gc:autoParam (((backTo bN (starEach [.Call (.Name "reversed" p) [a] [] pos] X.env)).all (λx=>!x.1)&&(backToKw bN (keywordEach [] X.env)).all (λx=>x.1.isSome) &&decide ([Expr.Call (.Name "reversed" p) [a] [] pos].length+([]:List Keyword).length+(if([]:List Keyword).isEmpty then 0 else 1)<30))=true) r8_._auto_1) (gb:autoParam ((apos.endLine==bN.line)=true) r8_._auto_1)(hs:autoParam (starEach [.Call (.Name "reversed" p) [a] [] pos] X.env=(false,eval (.Call (.Name "reversed" p) [a] [] pos) X.env)::starEach [] X.env) r8_._auto_1) (g9:autoParam ((backTo bN (starEach [] X.env)).any (·.1)=false) r8_._auto_1)(hs1:autoParam (starEach [a] X.env=[(false,eval a X.env)]) r8_._auto_1)(iu:autoParam (starEach [] X.env=[]) r8_._auto_1): PE X (.Call (.Attribute o "join" apos) [.Call (.Name "reversed" p) [a] [] pos] [] bN) (WL K to t):=by
 subst h;intro pins s O H Q I h;refine wpAny_Call_method_late gf gc gb Z (aZ (ho pins s O H _ I h) λv s1 ⟨x,H1,I1,r1,ty,q1⟩=>?_);obtain⟨h1,h2⟩:=KU I1 r1 ty;refine⟨"str","str.join",yU,PySem.F.slot_str_join,PySem.F.type_str_join,h1,h2,?_⟩;rw[hs];refine Calls.callWith_builtin (by show(false||(backTo bN (starEach [] X.env)).any (·.1))=false;rw[g9]<;>rfl) (Vo ?_);show wpAny _ _ (spliced ((false,eval (.Call (.Name "reversed" p) [a] [] pos) X.env)::backTo bN (starEach [] X.env))) _ _ s1;refine Calls.spliced_cons ?_;refine Call_ (oq I1 hg hm PyProof.Rows.boot_reversed (vL (aZ (ha pos pins s1 O H1 _ I1 q1) λus s2 ⟨vs,H2,I2,r2,q2⟩=>?_) (by rw[hs1,iu]) (by rw[iu];rfl)));obtain⟨sep,l,zs,rfl,rfl,hl,hz,hb,hn,q⟩:=q2;obtain⟨tk,rfl⟩:=r1;obtain⟨u,rfl,ru⟩:=vals1 r2;cases(show u=Value.ref l from ru);obtain⟨its,r,pl,_⟩:=I2.list hl;have hlen:=r.length;rw[bM]at hlen;have Hw:=sumLen_le_of_bound id 4000 zs hz;rw[List.map_id]at Hw;have hle:zs.length*sep.length<=1000*8:=qK hn hb;refine call_reversed_list pl.isList ?_;have fresh:=I2.bp.fresh (bI s2.heap.objs.size);have I3:Inv X pins O H2 {s2 with heap:=s2.heap.push (revObj l ((its.toArray.size:Int)-1))}:=I2.kept (t':=s2.toks) λb o e=>cw _ e;obtain⟨f0,f1,f2,f3,f4,f5⟩:=I2.oN (pins:=pins) (bI s2.heap.objs.size) fresh;refine Calls.spliced_nil ?_;have cI:l≠s2.heap.objs.size:=λz=>by obtain⟨o,ho,_⟩:=pl.isList;exact absurd (cm ho) (by rw[z];exact qL _)
 have mU:l<s2.heap.objs.size:=by obtain⟨o,ho,_⟩:=pl.isList;exact cm ho
 have cn:∀{b},b<=s2.heap.objs.size->b<(s2.heap.push (revObj l ((its.toArray.size:Int)-1))).objs.size:=λ{b} e=>by rw[ph];exact Nat.lt_succ_of_le e
 refine XX (its:=its.toArray) (zs:=zs) (I2.ok.hd hc) cI ⟨fC _,⟨_,dH _ Z,Z,by show Data.fields _=Data.fields _;simp⟩,Heap.IsList.at pl.isList λo e=>cw _ e⟩ (cn (bI _)) (cn (Cm mU)) (StrsAre.of_carried (Jx r)) (by rw[dP,<-hlen,yT];omega) bC λh' t' k kk=>?_;exact⟨.str _,H2,I3.turned (t':=k) kk f0 f1 f3 f4 f5,⟨_,Z⟩,q⟩
inductive ac0(x:V)(vs:List V)(H:Hp)(Q:VK):Prop |mk (z:Str)(i:Int)(h0:x= .str z)(h1:vs=[.int i])(h3:PadOk i=true)(h4:Q (.str (Txt.zfill z i)) H)
def OJ:V->List V->Hp->VK->Prop:=λx vs H Q=>ac0 x vs H Q
theorem a2w:qF X "str.zfill" OJ:=by intro pins s O H x0 vs v us Q I rx rv h;obtain⟨x,i,rfl,rfl,hp,q⟩:=h;obtain⟨t,rfl⟩:=rx;obtain⟨u0,rfl,u,rfl⟩:=vals1 rv;exact SC.zfill hp λt' k=>⟨.str _,H,I.tok k,⟨_,Z⟩,q⟩
theorem Zf(K:aa)(h:X.K=K){o e:Expr}{to:TE}{t:TA}{apos bN:Pos}(ho:PE X o to)(ha:PA X [e] t) (gf:autoParam (attributeBase o "zfill" X.env (eval o X.env)=eval o X.env) r8_._auto_1) (gc:autoParam (((backTo bN (starEach [e] X.env)).all (λx=>!x.1)&&(backToKw bN (keywordEach [] X.env)).all (λx=>x.1.isSome) &&decide ([e].length+([]:List Keyword).length+(if([]:List Keyword).isEmpty then 0 else 1)<30))=true) r8_._auto_1) (gb:autoParam ((apos.endLine==bN.line)=true) r8_._auto_1)(hs:autoParam (starEach [e] X.env=(false,eval e X.env)::starEach [] X.env) r8_._auto_1)(g9:autoParam ((backTo bN (starEach [] X.env)).any (·.1)=false) r8_._auto_1): PE X (.Call (.Attribute o "zfill" apos) [e] [] bN) (m5 K "str" OJ to t):=by subst h;exact nX yU PySem.F.slot_str_zfill PySem.F.type_str_zfill a2w ho ha gf gc gb hs g9
inductive ac2(x:V)(vs:List V)(H:Hp)(Q:VK):Prop |mk (z y:Str)(h0:x= .str z)(h1:vs=[.str y])(h4:Q (.bl (Txt.startswith z y)) H)
def OK:V->List V->Hp->VK->Prop:=λx vs H Q=>ac2 x vs H Q
theorem a2x:qF X "str.startswith" OK:=by intro pins s O H x0 vs v us Q I rx rv h;obtain⟨x,y,rfl,rfl,q⟩:=h;obtain⟨t,rfl⟩:=rx;obtain⟨u0,rfl,u,rfl⟩:=vals1 rv;exact SC.startswith ⟨.bl _,H,I,Z,q⟩
theorem Zg(K:aa)(h:X.K=K){o e:Expr}{to:TE}{t:TA}{apos bN:Pos}(ho:PE X o to)(ha:PA X [e] t) (gf:autoParam (attributeBase o "startswith" X.env (eval o X.env)=eval o X.env) r8_._auto_1) (gc:autoParam (((backTo bN (starEach [e] X.env)).all (λx=>!x.1)&&(backToKw bN (keywordEach [] X.env)).all (λx=>x.1.isSome) &&decide ([e].length+([]:List Keyword).length+(if([]:List Keyword).isEmpty then 0 else 1)<30))=true) r8_._auto_1) (gb:autoParam ((apos.endLine==bN.line)=true) r8_._auto_1)(hs:autoParam (starEach [e] X.env=(false,eval e X.env)::starEach [] X.env) r8_._auto_1)(g9:autoParam ((backTo bN (starEach [] X.env)).any (·.1)=false) r8_._auto_1): PE X (.Call (.Attribute o "startswith" apos) [e] [] bN) (m5 K "str" OK to t):=by subst h;exact nX yU PySem.F.slot_str_startswith PySem.F.type_str_startswith a2x ho ha gf gc gb hs g9
inductive acs(xs:List V)(H:Hp)(Q:VK):Prop |mk (i j:Int)(h0:xs=[.int i,.int j])(h1:0<j)(h2:Wd j)(h3:∀p H',Nw H H' p (.tup [.int (i/j),.int (i%j)])->Q (.ref p) H')
theorem a9H:dX X (.builtin "divmod") (λxs H Q=>acs xs H Q):=by intro pins s O H xs us Q I r h;obtain⟨i,j,rfl,h1,h2,q⟩:=h;obtain⟨u,w',rfl,⟨t,rfl⟩,⟨t',rfl⟩⟩:=vals2 r;refine divmod_int bC ?_ (.inl (UY h2.log));rw[Int.fdiv_eq_ediv_of_nonneg i bC,Vm i bC];have hn:H s.heap.objs.size=none:=I.bp.fresh (bI _);refine⟨.ref s.heap.objs.size,upd H s.heap.objs.size (.tup [.int (i/j),.int (i%j)]),?_,Z,q _ _ (Nw.of hn)⟩;exact I.laid (λb o e=>cw _ e) (bI _) ⟨by show 2<=sizeLine;decide,[.int (i/j) s.toks,.int (i%j) (s.toks+1)],.cons ⟨_,Z⟩ (.cons ⟨_,Z⟩ .nil),_,dH s.heap Z,Z,0,Z⟩
end
theorem a76{z:Str}{g:TG}{tb:TS}{D:Ends}{O:St}{H:Hp}(Pv:Nat->St->Hp->Prop)(h0:Pv 0 O H) (hs:∀i c O H,z.cps.toList[i]? =some c->Pv i O H->g (.str ⟨#[c]⟩) O H λσ2 H2=>tb {D with nx:=Pv (i+1),ct:=Pv (i+1),bk:=D.nx} σ2 H2)(hd:∀O H,Pv z.cps.size O H->D.nx O H): ∃W:Nat->Nat->St->Hp->Prop,(∃m,W 0 m O H)/\∀i m O H,W i m O H->((vC z).stop i H/\D.nx O H)\/((vC z).go i H/\∃N:St->Hp->Prop,(∀σ' H',N σ' H'->∃m',m'<m/\W (i+1) m' σ' H')/\∀x H',(vC z).jh i H x H'->g x O H' λσ2 H2=>tb {D with nx:=N,ct:=N,bk:=D.nx} σ2 H2):=by
 refine⟨λi m O H=>m=z.cps.size-i/\i<=z.cps.size/\Pv i O H,⟨z.cps.size,by simp,fC _,h0⟩,?_⟩;rintro i m O H ⟨rfl,hi,p⟩;by_cases cn:i<z.cps.size
 ·refine .inr ⟨cn,Pv (i+1),λσ' H' q=>⟨z.cps.size-(i+1),bC,Z,cn,q⟩,λx H' hy=>?_⟩
  obtain⟨rfl,c,hc,rfl⟩:=hy;exact hs i c O _ hc p
 ·have e:i=z.cps.size:=by omega
  subst e;exact .inl ⟨bI _,hd O H p⟩
end _L
namespace _N
open PySem PySem.Spec PyProof.Rows PySem.NumText _T
def kW:Nat->Nat->List Char |0,_=>[] |e+1,r=>kW e (r/10)++[(r%10).digitChar]
theorem Tb:∀e m:Nat,10^e<=m->Nat.toDigits 10 m=Nat.toDigits 10 (m/10^e)++kW e (m%10^e)
 |0,m,_=>by simp[kW] |e+1,m,h=>by
  have hp:0<10^e:=Nat.pow_pos ay;have h10:10<=m:=by rw[tQ]at h;omega
  have hd:10^e<=m/10:=by rw[Nat.le_div_iff_mul_le ay];rw[tQ]at h;exact h
  rw[Nat.toDigits_of_base_le ay h10,Tb e (m/10) hd,Nat.div_div_eq_div_mul,<-Nat.pow_succ',Vg];show _=_++(kW e (m%10^(e+1)/10)++[(m%10^(e+1)%10).digitChar]);rw[Nat.pow_succ',Nat.mod_mul_right_div_self,Nat.mod_mul_right_mod]
theorem P5:∀e:Nat,kW e 0=List.replicate e '0' |0=>rfl |e+1=>by show kW e 0++['0']=_;rw[P5 e,List.replicate_succ']
theorem P6:∀e r:Nat,r<10^(e+1)->kW (e+1) r=List.replicate (e+1-(Nat.toDigits 10 r).length) '0'++Nat.toDigits 10 r
 |0,r,h=>by have h:r<10:=h;rw[V4 h];show[]++[(r%10).digitChar]=_;rw[Nat.mod_eq_of_lt h];rfl |e+1,r,h=>by
  show kW (e+1) (r/10)++[(r%10).digitChar]=_;by_cases hr:r<10
  ·rw[Nat.div_eq_of_lt hr,P5,Nat.mod_eq_of_lt hr,V4 hr]
   simp
  ·have hd:r/10<10^(e+1):=by rw[Nat.div_lt_iff_lt_mul ay,<-tQ];exact h
   rw[P6 e (r/10) hd,Nat.toDigits_of_base_le (b:=10) (n:=r) ay bC,fe,Vg];have:e+1+1-((Nat.toDigits 10 (r/10)).length+[(r%10).digitChar].length)=e+1-(Nat.toDigits 10 (r/10)).length:=by simp
   rw[this]
theorem KJ(r:Nat)(h:r<10^64):(Txt.zfill (numS (r:Int)) 64).cps.toList=(kW 64 r).map Char.toNat:=by
 have ec:=oT r;have el:(numS (r:Int)).length=(Nat.toDigits 10 r).length:=by show(numS (r:Int)).cps.size=_;rw[<-kJ,ec,bM]
 rw[P6 63 r h,jG,List.map_replicate];unfold Txt.zfill;split
 ·rename_i hl
  have:64-(Nat.toDigits 10 r).length=0:=by omega
  show(numS (r:Int)).cps.toList=_;rw[ec,show 63+1-(Nat.toDigits 10 r).length=0 by omega];rfl
 ·rename_i hl
  have hd:=mY r;have h0:∀c,(numS (r:Int)).cps[0]? =some c->48<=c:=λc e=>by rw[<-Vq,ec]at e;exact(hd c (fc e)).1
  have hz:zfilled (numS (r:Int)) ((64:Int).toNat-(numS (r:Int)).length)=Builtin.Str.padded (numS (r:Int)) ((64:Int).toNat-(numS (r:Int)).length) 0 48:=by
   unfold zfilled;split
   ·rename_i e;exact absurd (h0 _ e) ay
   ·rename_i e;exact absurd (h0 _ e) ay
   ·rfl
  rw[hz];show(Array.replicate _ 48++(numS (r:Int)).cps++Array.replicate 0 48).toList=_;rw[nO,nO,Array.toList_replicate,ec,el];simp
theorem a1S(m:Nat)(h:10^64<=m):numS (m:Int)=numS ((m/10^64:Nat):Int)++Txt.zfill (numS ((m%10^64:Nat):Int)) 64:=by refine yx ?_;rw[qI,nO,oT,oT,KJ _ (Nat.mod_lt _ (Nat.pow_pos ay)),<-jG,<-Tb 64 m h]
theorem a1R{i:Int}(h:i<0):numS i="-"++numS (-i):=by obtain⟨m,rfl⟩:∃m:Nat,i=Int.negSucc m:=⟨(-i-1).toNat,bC⟩;refine yx ?_;rw[qI,nO,yw,show-Int.negSucc m=((m+1:Nat):Int)from Z,oT];rfl
theorem Vy{r:Nat}(h:r<10^64):(Txt.zfill (numS (r:Int)) 64).length=64:=by
 show(Txt.zfill (numS (r:Int)) 64).cps.size=64;rw[<-kJ,KJ r h,bM];have:∀e r,(kW e r).length=e:=λe=>by induction e with |zero=>intro r;rfl |succ e ih=>intro r;show(kW e (r/10)++[_]).length=_;rw[fe,ih];rfl
 exact this 64 r
def cat(zs:List Str):Str:=Txt.join "" zs
theorem a9y:cat []=Str.empty:=by unfold cat Txt.join;rw[qH];rfl
theorem TH(z:Str)(zs:List Str):cat (z::zs)=z++cat zs:=by unfold cat Txt.join;rw[qH,qH];cases zs with |nil=>exact(Str.append_empty z).symm |cons y r=>show(z++"")++PySem.Str.join "" (y::r)=_;rw[show(Str.ofString "")=Str.empty from by decide+kernel,Str.append_empty]
structure Wr(N r:Nat)(zs:List Str):Prop where
 e:numS (N:Int)=numS (r:Int)++cat zs.reverse
 d:r=N/(10^64)^zs.length
 l:∀z∈zs,z.length<=64
 b:zs.length=0\/(10^64)^zs.length<=N
theorem Wr.nil(N:Nat):Wr N N []:=⟨by rw[show([]:List Str).reverse=[]from Z,a9y,Str.append_empty],by simp,λ_ h=>by simp at h,.inl rfl⟩
theorem Wr.step{N r:Nat}{zs:List Str}(h:Wr N r zs)(hr:10^64<=r):Wr N (r/10^64) (zs++[Txt.zfill (numS ((r%10^64:Nat):Int)) 64]):=by
 have hm:r%10^64<10^64:=Nat.mod_lt _ (Nat.pow_pos ay);refine⟨?_,?_,λz hz=>?_,.inr ?_⟩
 ·rw[List.reverse_append,List.reverse_cons,List.reverse_nil,List.nil_append,List.singleton_append,TH,<-Str.append_assoc,<-a1S r hr]
  exact h.e
 ·rw[fe,Cp,tQ (10^64) zs.length,<-Nat.div_div_eq_div_mul,<-h.d]
 ·rcases ki.mp hz with hz|hz
  ·exact h.l z hz
  ·rw[cW.mp hz,Vy hm];exact bI _
 ·rw[fe,Cp,tQ (10^64) zs.length,Km]
  have h2:=h.d;generalize(10^64)^zs.length=B at*;rw[h2]at hr;by_cases hB:B=0
  ·subst hB;simp
  ·exact(Nat.le_div_iff_mul_le (Nat.pos_of_ne_zero hB)).mp hr
theorem Wr.len{N r:Nat}{zs:List Str}(h:Wr N r zs)(hN:N<10^540):zs.length<=8:=by
 rcases h.b with e|e
 ·omega
 ·rw[<-Nat.pow_mul]at e
  have:=(Nat.pow_lt_pow_iff_right (a:=10) ay).mp (Ck e hN);omega
theorem Qt{m:Nat}(h:m<10^540):((m:Nat):Int).natAbs.log2<1920:=by
 rw[Vj];by_cases h0:m=0
 ·rw[h0];decide
 ·exact(Nat.log2_lt h0).mpr (p8 h aF)
theorem a3q{i:Int}(h:i.natAbs<10^540):(numS i).length<=541:=by show(Str.ofString (toString i)).length<=541;rw[UQ];exact UL (k:=540) ay h
theorem aab{i:Int}(h:¬i<0):((i.natAbs:Nat):Int)=i:=by omega
theorem abs_neg{i:Int}(h:i<0):((i.natAbs:Nat):Int)=-i:=by omega
theorem a8W(cs:List Nat)(c:Nat):digitsVal (cs++[c])=digitsVal cs*10+(c-48):=by unfold digitsVal;rw[Ve];rfl
theorem SO{cs:List Nat}{i c:Nat}(h:cs[i]? =some c):digitsVal (cs.take (i+1))=digitsVal (cs.take i)*10+(c-48):=by rw[List.take_add_one,h];exact a8W _ _
theorem SQ{cs:List Nat}(h:AllDigits cs):∀i,digitsVal (cs.take i)<10^i |0=>by simp[digitsVal] |i+1=>by have ih:=SQ h i;rw[tQ];cases hc:cs[i]? with |none=>rw[List.take_add_one,hc];simp;omega |some c=>have:=h c (fc hc);rw[SO hc];omega
theorem WV(z:Str):Txt.startswith z "-"=decide (z.cps.toList.head? =some 45):=by
 have e1:(Str.ofString "-").cps.toList=[45]:=by decide+kernel
 have e2:(Str.ofString "-").length=1:=by decide+kernel
 have hn:z.cps.toList.length=z.length:=by simp[Str.length]
 unfold Txt.startswith;rw[e2,StrLaws.subAt_eq,e1,e2,List.drop_zero,<-hn];cases z.cps.toList with |nil=>rfl |cons c r=>simp[Vp]
theorem a1Q{z y:Str}{n:Int}(ef:y.cps.toList=figs z)(h1:figs z≠[])(h2:(figs z).all isFig=true)(hl:z.length<=4300)(hn:intText? z=some n): n=if Txt.startswith z "-"=true then-((digitsVal y.cps.toList:Nat):Int)else((digitsVal y.cps.toList:Nat):Int):=by
 rw[WV,ef];unfold figs at*;split at h1
 ·rename_i r h
  rw[h]at h2;have e:=intText_neg h (vc h2) h1 hl;rw[hn]at e;rw[h];simpa using e
 ·rename_i h
  split at h2
  ·rename_i r h'
   exact(h r h').elim
  ·have e:=K5 (vc h2) h1 hl
   rw[hn]at e;have hh:z.cps.toList.head? ≠some 45:=λz'=>by cases hz:z.cps.toList with |nil=>rw[hz]at z';cases z' |cons c r=>rw[hz]at z';cases z';exact h r hz
   rw[dE hh];simpa using e
theorem W2{c:Nat}(h1:48<=c)(h2:c<=57):intText? ⟨#[c]⟩=some ((c-48:Nat):Int):=by have e:=K5 (x:=⟨#[c]⟩) (λa ha=>by rw[cW.mp ha];exact⟨h1,h2⟩) (by simp) (by show 1<=4300;decide);rw[e];show some (((0*10+(c-48):Nat):Nat):Int)=_;rw[Nat.zero_mul,Nat.zero_add]
end _N
namespace _b
open PySem PySem.Spec PyProof.Rows _L
def top(i:Nat):Stmt:=PySem.Challenge.pw_glidequeue_k56_asked_at_a_desk.main.body.getD i (.Pass ⟨0,0,0,0⟩)
section
variable {P:af}{w:World}{K:aa}{mg:bD}{ao:Heap}
inductive aaN(vs:List V)(H:Hp)(Q:VK):Prop |mk (p:_)(many:_)(h0:vs=[.ref p,.int many])(h1:fu H p)(h2:1<=many)(h3:many<=10^40)(h4:∀d H',0<=d->d<many->bP p H H'->Q (.int d) H')
def m9:Sp:=λvs H Q _=>aaN vs H Q
abbrev DN:Stmt:=top 109
theorem Mw:aW ["_law_bag_here","_law_many","_law_digit","_law_number","_law_room"] ["_law_bag_here","_law_many"] (aM DN):=bh aF
theorem ZV(F:FA K mg "_law_take" DN)(B:bB mg):aA P w K mg ao "_law_take" 1 m9:=by
 refine F.has Mw (λvs H Q E h=>?_) (λ_ _ _ _ _ _=>dN λ_ _=>rfl) (λf aH A outer s H vs Q E hr h=>?_)
 ·obtain⟨p,many,rfl,_⟩:=h
  rfl
 ·obtain⟨p,many,rfl,⟨c,m,hp,ok⟩,h1,h2,k⟩:=h
  obtain⟨c0,m0,m1⟩:=id ok;have nd:=Mw.nd;refine⟨_,(aB (bJ (bX Pk (px K (pv 0) aE) aE (bL _)) (aB (pS 2 nd (aQ pM (px K (pv 0) aE) (pv 1))) (aB (eM (aQ uz (px K (pv 0) aE) (pv 1)) (rP (pv 0) aE set_list)) (aJ (aP (pv 2))))) bK) (aB (pS 3 nd aE) (aB (pS 4 nd aE) (aB (rL gT (bX kX (pv 4) (pv 1) (bL _)) (aB (eM (aQ pM (aQ Ax (aQ dI (aQ cD (px K (pv 0) aE) aE) aE) aE) aE) (rP (pv 0) aE set_list)) (aB (pS 3 nd (aQ dI (aQ cD (pv 3) aE) (aQ pM (aQ cD (aQ uz (px K (pv 0) aE) aE) aE) aE))) (aJ (pS 4 nd (aQ cD (pv 4) aE)))))) (aJ (aP (aQ pM (pv 3) (pv 1)))))))),?_⟩;refine⟨_,Z,.inl ⟨p,_,0,.int c,Z,Z,aI.of hp,Z,_,_,Z,Z,_,Z,?_⟩⟩;refine eP (λhc=>?_) (λ_=>?_)
  ·refine⟨_,Z,.inl ⟨p,_,0,.int c,Z,Z,aI.of hp,Z,_,Z,_,_,Z,Z,h1,?_⟩⟩
   refine⟨_,Z,.inl ⟨p,_,0,.int c,Z,Z,aI.of hp,Z,_,Z,_,_,Z,Z,⟨h1,KO au h2⟩,?_⟩⟩;refine⟨_,Z,p,_,0,0,Z,Z,hp,Z,?_⟩;refine⟨_,Z,?_⟩;exact k _ _ (qP _ au) (tS _ au) (bP.upd ⟨Int.ediv_nonneg c0 au,m0,m1⟩)
  ·refine qQ (λO H2=>∃(v:Option V)(n r:Int),O=[some (.ref p),some (.int many),v,some (.int n),some (.int r)]/\bP p H H2/\1<=r) (λO _=>match O with|[_,_,_,_,some (.int r)]=>(many-r).toNat|_=>0) ?_ ?_ ?_
   ·exact⟨none,0,1,Z,.refl ⟨c,m,hp,ok⟩,dY _⟩
   ·rintro O H2 ⟨v,n,r,rfl,bx,Bg⟩
    obtain⟨c',m',Bj,c0',m0',m1'⟩:=id bx.bO;refine⟨_,Z,_,Z,_,_,Z,Z,_,Z,?_⟩;refine eP (λhc=>?_) (λhc=>?_)
    ·have cn:r<many:=kg hc
     refine⟨_,Z,.inl ⟨p,_,1,.int m',Z,Z,aI.of Bj,Z,_,_,Z,Z,.of_right (dv ay ay),_,_,Z,Z,_,_,Z,Z,⟨ay,ay,?_⟩,_,_,Z,Z,(by show(0:Int)<2147483629;decide),?_⟩⟩
     ·have oK:(2:Nat)^64=18446744073709551616:=by decide
      rw[oK];lia
     refine⟨_,Z,p,_,1,1,Z,Z,Bj,Z,?_⟩;have g0:0<=((m'*48271+7919)^(3:Int).toNat)%2147483629:=qP _ ay;have g1:((m'*48271+7919)^(3:Int).toNat)%2147483629<2147483629:=tS _ ay;have bx2:bP p H (_L.upd H2 p (.lst [.int c',.int (((m'*48271+7919)^(3:Int).toNat)%2147483629)])):=bx.trans (.upd ⟨c0',g0,Int.lt_trans g1 ay⟩);refine⟨_,Z,_,_,Z,Z,.of_right (dv ay ay),_,Z,.inl ⟨p,_,1,.int _,Z,Z,aI.of bW,Z,_,_,Z,Z,⟨ay,KO ay ay⟩,_,_,Z,Z,.of_right (dv ay ay),_,_,Z,Z,(by show(0:Int)<1073741789;decide),_,_,Z,Z,?_⟩⟩;refine⟨_,Z,_,_,Z,Z,.of_right (dv ay ay),?_⟩;refine⟨⟨v,_,_,Z,bx2,?_⟩,?_⟩
     ·lia
     ·show(many-r*1073741789).toNat<(many-r).toNat
      lia
    ·refine⟨_,Z,_,Z,_,_,Z,Z,h1,?_⟩
     exact k _ _ (qP _ au) (tS _ au) bx
   ·rintro O H2 Q1 Q2 hq ⟨v1,e1,v2,e2,i,j,e3,e4,kk,e5,q⟩
    exact⟨v1,e1,v2,e2,i,j,e3,e4,kk,e5,hq _ _ q⟩
inductive abY(K:aa)(vs:List V)(H:Hp)(Q:VK):Prop |mk (a:Addr)(ns:List Int)(at':Int)(h0:vs=[.ref a,.int at'])(h1:aI K H a (ns.map V.int))(h2:ns.length<=63)(h3:0<=at')(h4:at'<=100)(h5:∀p H',H p=none->fu H' p->aD H H'->Q (.ref p) H')
def Ma(K:aa):Sp:=λvs H Q _=>abY K vs H Q
abbrev Fi:Stmt:=top 108
theorem NN:aW ["_law_script","_law_at","_law_cell","_law_mix","_law_k"] ["_law_script","_law_at"] (aM Fi):=bh aF
theorem QP{ns:List Int}{j:Nat}(h:j<ns.length):∃z,fb (ns.map V.int) (j:Int)=some (.int z):=⟨ns[j],aa1 (by simp[h])⟩
theorem a1r(F:FA K mg "_law_bag" Fi)(B:bB mg):aA P w K mg ao "_law_bag" 1 (Ma K):=by
 refine F.has NN (λvs H Q E h=>?_) (λ_ _ _ _ _ _=>dN λ_ _=>rfl) (λf aH A outer s H vs Q E hr h=>?_)
 ·obtain⟨a,ns,at',rfl,_⟩:=h
  rfl
 ·obtain⟨a,ns,at',rfl,hS,hlen,h0,h1,k⟩:=h
  obtain⟨j,rfl⟩:∃j:Nat,at'=(j:Int):=⟨at'.toNat,au⟩;have nd:=NN.nd;refine⟨_,(aB (pS 2 nd aE) (aB (iX (bJ (bX kX (pv 1) (fH K B (ak (pv 0) aw)) (bL _)) (aJ (pS 2 nd (dg (x:="abs") tf Z (B.at "abs") vN (ak (px K (pv 0) (pv 1)) aw)))) bK)) (aB (pS 3 nd (aQ dI (aQ dI (aQ cD (aQ cD aE (pv 1)) (pv 1)) (aQ cD aE (pv 1))) aE)) (aB (jN gT Z (pJ Z (B.at "range") (ak (dg (x:="min") (Jy rfl) rfl (B.at "min") V0 (ak (fH K B (ak (pv 0) aw)) (ak aE aw))) aw)) (bj 4 nd) (aJ (pS 3 nd (aQ pM (aQ Ax (aQ dI (aQ dI (aQ cD (pv 3) aE) (aQ pM (px K (pv 0) (pv 4)) aE)) (aQ cD (pv 4) (pv 4))) aE) aE)))) (aB (iX (bJ (bX kX (pv 2) (aQ Ax aE aE) (bL _)) (aJ (pS 2 nd aE)) bK)) (aJ (aP (da (ak (pv 2) (ak (pv 3) aw)))))))))),?_⟩;refine⟨λO H'=>H'=H/\∃c:Int,O=[some (.ref a),some (.int (j:Int)),some (.int c),none,none]/\0<=c,?_,?_⟩
  ·refine⟨_,Z,_,Z,a,_,Z,.inl hS,_,_,Z,Z,_,Z,?_⟩
   refine eP (λhc=>?_) (λ_=>?_)
   ·have hj:(j:Int)<((ns.map V.int).length:Int):=kg hc
    rw[bM]at hj;obtain⟨z,hz⟩:=QP (ns:=ns) (j:=j) au;refine⟨_,Z,_,Z,.inl ⟨a,_,_,_,Z,Z,hS,hz,z,Z,?_⟩⟩;exact⟨Z,_,Z,by split<;>lia⟩
   ·exact⟨Z,0,Z,dY _⟩
  rintro O H' ⟨rfl,c,rfl,c0⟩;refine⟨_,Z,_,_,Z,Z,.of_left (dv ay ay),_,Z,_,_,Z,Z,.of_right (dv au au),_,Z,_,_,Z,Z,.of_left (dv ay ay),_,_,Z,Z,_,_,Z,Z,?_⟩;refine⟨_,Z,a,_,Z,.inl hS,_,_,Z,_,Z,?_,?_,?_⟩
  ·split<;>lia
  ·split<;>(try rw[bM])<;>lia
  refine Bz (Pv:=λi O H2=>H2=H'/\∃(m:Int)(v:Option V),O=[some (.ref a),some (.int (j:Int)),some (.int c),some (.int m),v]/\0<=m/\m<2147483648) ?_ ?_ ?_
  ·refine⟨Z,_,none,Z,?_,?_⟩
   ·have:(0:Int)<=(j:Int)*(j:Int):=kj au au
    rw[Cv];lia
   ·have:(j:Int)*(j:Int)<=100*100:=zc au au au au
    rw[Cv];lia
  ·rintro i O H2 hi ⟨rfl,m,v,rfl,m0,m1⟩
   have pZ:i<ns.length:=by rw[bM]at hi;split at hi<;>lia
   obtain⟨z,hz⟩:=QP (ns:=ns) (j:=i) pZ;rw[<-Int.zero_add (i:Int)]at hz;have QW:0<=z%2147483647:=qP _ ay;have hz1:z%2147483647<2147483647:=tS _ ay;have a5d:(0:Int)<=(0+(i:Int))*(0+(i:Int)):=kj au au;have hii:(0+(i:Int))*(0+(i:Int))<=100*100:=zc au au au au;refine⟨_,Z,_,_,Z,Z,.of_right (dv ay ay),_,Z,_,Z,.inl ⟨a,_,_,_,Z,Z,hS,hz,_,_,Z,Z,(by show(0:Int)<2147483647;decide),_,_,Z,Z,_,Z,_,Z,_,_,Z,Z,.of_right (dv au au),_,_,Z,Z,_,_,Z,Z,⟨ay,ay,?_⟩,_,_,Z,Z,(by show(0:Int)<2147483629;decide),?_⟩⟩
   ·have oK:(2:Nat)^64=18446744073709551616:=by decide
    rw[oK];generalize(0+(i:Int))*(0+(i:Int))=ii at a5d hii⊢;generalize z%2147483647=zz at QW hz1⊢
    lia
   ·exact⟨Z,_,_,Z,qP _ ay,Int.lt_trans (tS _ ay) ay⟩
  ·rintro O H2 ⟨rfl,m,v,rfl,m0,m1⟩
   refine⟨λO H3=>H3=H2/\∃c:Int,O=[some (.ref a),some (.int (j:Int)),some (.int c),some (.int m),v]/\0<=c,?_,?_⟩
   ·refine⟨_,Z,_,_,Z,Z,⟨ay,ay,ay⟩,_,_,Z,Z,_,Z,?_⟩
    refine eP (λhc=>?_) (λ_=>?_)
    ·exact⟨Z,0,Z,dY _⟩
    ·exact⟨Z,c,Z,c0⟩
   rintro O H3 ⟨rfl,c,rfl,c0⟩;refine⟨_,Z,_,Z,(by show 2<=sizeLine;decide),λp H4 nw=>?_⟩;exact k p H4 nw.no ⟨c,m,nw.at',c0,m0,m1⟩ nw.same
inductive abP(vs:List V)(H:Hp)(Q:VK):Prop |mk (a:Int)(b:Int)(h0:vs=[.int a,.int b])(h1:Q (.int (Int.gcd a b)) H)
def Dt:Sp:=λvs H Q _=>abP vs H Q
inductive abr(vs:List V)(H:Hp)(Q:VK):Prop |mk (a:Int)(b:Int)(h0:vs=[.int a,.int b])(h1:b≠0)(h2:Wd b)(h3:∀t H',Nw H H' t (.tup [.int (_A.lowP a b),.int (_A.fZ a b)])->Q (.ref t) H')
def wA:Sp:=λvs H Q _=>abr vs H Q
def xA(T:String):Bool:=iW T "int"&& !iW T "bool"
inductive abC(K:aa)(vs:List V)(H:Hp)(Q:VK):Prop |mk (v:_)(T:_)(h0:vs=[v])(h1:tE K H v T)(h2:Q (.bl (xA T)) H)
def zW(K:aa):Sp:=λvs H Q _=>abC K vs H Q
abbrev Fe:Stmt:=top 47
theorem NJ:aW ["p","q","high","low"] ["p","q"] (aM Fe):=bh aF
theorem a1n(F:FA K mg "common_divisor" Fe)(B:bB mg):aA P w K mg ao "common_divisor" 1 Dt:=by
 refine F.has NJ (λvs H Q E h=>?_) (λ_ _ _ _ _ _=>dN λ_ _=>rfl) (λf aH A outer s H vs Q E hr h=>?_)
 ·obtain⟨a,b,rfl,_⟩:=h
  rfl
 ·obtain⟨a,b,rfl,k⟩:=h
  have nd:=NJ.nd;refine⟨_,(aB (G8 (i:=2) (j:=3) Z nd Z Z ay Z Z (ak (dg (x:="abs") tf Z (B.at "abs") vN (ak (pv 0) aw)) (ak (dg (x:="abs") tf rfl (B.at "abs") vN (ak (pv 1) aw)) aw)) rfl) (aB (rL gT (bX (my K Z hr.units) (pv 3) aE (bL _)) (aJ (G8 (i:=2) (j:=3) Z nd Z Z ay Z Z (ak (pv 3) (ak (aQ pM (pv 2) (pv 3)) aw)) Z))) (aJ (aP (pv 2))))),?_⟩;refine⟨_,Z,_,Z,_,Z,_,Z,_,_,Z,?_⟩;refine qQ (λO H2=>H2=H/\∃(x y:Int),O=[some (.int a),some (.int b),some (.int x),some (.int y)]/\0<=x/\0<=y/\Int.gcd x y=Int.gcd a b) (λO _=>match O with|[_,_,_,some (.int y)]=>y.natAbs|_=>0) ?_ ?_ ?_
  ·refine⟨Z,_,_,Z,by split<;>lia,by split<;>lia,?_⟩
   have h1:(if a<0 then-a else a).natAbs=a.natAbs:=by split<;>lia
   have h2:(if b<0 then-b else b).natAbs=b.natAbs:=by split<;>lia
   unfold Int.gcd;rw[h1,h2]
  ·rintro O H2 ⟨rfl,x,y,rfl,x0,y0,e⟩
   refine⟨_,Z,.inl ⟨_,_,Z,Z,_,Z,?_⟩⟩;refine eP (λhc=>?_) (λhc=>?_)
   ·have hy:y≠0:=by simpa using hc
    have sG:0<y:=by lia
    refine⟨_,Z,_,Z,_,Z,_,_,Z,Z,sG,_,_,Z,?_⟩;refine⟨⟨Z,_,_,Z,y0,qP _ hy,(_A.a6J sG).trans e⟩,?_⟩;show(x%y).natAbs<y.natAbs;have:=qP x hy;have:=tS x sG
    lia
   ·have hy:y=0:=by simpa using hc
    subst hy;refine⟨_,Z,?_⟩;rw[Int.gcd_zero_right]at e;have e2:x=((Int.gcd a b:Nat):Int):=by lia
    rw[e2];exact k
  ·rintro O H2 Q1 Q2 hq ⟨v1,e1,h⟩
   refine⟨v1,e1,?_⟩;rcases h with⟨i,j,e3,e4,kk,e5,q⟩|⟨d,e,r1,r2,s1,s2,kk,e5,q⟩
   ·exact .inl ⟨i,j,e3,e4,kk,e5,hq _ _ q⟩
   ·exact .inr ⟨d,e,r1,r2,s1,s2,kk,e5,hq _ _ q⟩
abbrev ES:Stmt:=top 14
theorem Nl:aW ["thing"] ["thing"] (aM ES):=bh aF
theorem a0Q(F:FA K mg "is_whole" ES)(B:bB mg):aA P w K mg ao "is_whole" 1 (zW K):=by
 refine F.has Nl (λvs H Q E h=>?_) (λ_ _ _ _ _ _=>cu λ_=>rfl) (λf aH A outer s H vs Q E hr h=>?_)
 ·obtain⟨v,T,rfl,_⟩:=h
  rfl
 ·obtain⟨v,T,rfl,ty,k⟩:=h
  have nd:=Nl.nd;refine⟨_,(aJ (aP (uw (nZ K B (ak (pv 0) (ak (mr (x:="int") (v:=.ty "int") Z (B.at "int") vM rfl) aw))) (pK (Z6 (nZ K B (ak (pv 0) (ak (mr (x:="bool") (v:=.ty "bool") rfl (B.at "bool") PyProof.Rows.boot_bool rfl) aw)))))))),?_⟩;refine⟨_,Z,.inl ⟨_,T,"int",_,Z,ty,ay,Z,_,Z,?_⟩⟩;unfold xA at k;refine eP (λhc=>?_) (λhc=>?_)
  ·refine⟨_,Z,.inl ⟨_,T,"bool",_,Z,ty,ay,Z,_,Z,?_⟩⟩
   rw[hc,iA]at k;exact k
  ·rw[Cw.mpr hc,iB]at k
   exact k
open _l
def eO(ns:List Int)(sp:Int):ah:=.tuple [.str "line",.tuple (ns.map PyData.int),.int sp]
theorem Qs(ns:List Int)(sp:Int):ek (eO ns sp)=true:=by simp[eO,ek,cx,og]
structure eQ(ax:Nat)(m:Int)(ns:List Int):Prop where
 len:ns.length=ax
 bd:∀z∈ns,(z.natAbs:Int)<=m
 nz:∃z∈ns,z≠0
theorem eQ.lead{ax:Nat}{m:Int}{ns:List Int}(h:eQ ax m ns):0<aO ns/\(aO ns:Int)<=m:=by
 refine⟨a3w h.nz,?_⟩;have hm:0<=m:=by obtain⟨z,hz,_⟩:=h.nz;have:=h.bd z hz;lia
 have:=oo (ns:=ns) (m:=m.toNat) λz hz=>by have:=h.bd z hz;lia
 lia
theorem eQ.ne{ax:Nat}{m:Int}{ns:List Int}(h:eQ ax m ns):ns≠[]:=by obtain⟨z,hz,_⟩:=h.nz;intro e;subst e;cases hz
theorem uN{H:Hp}{v:V}{ns:List Int}{sp:Int}(h:RD K H v (eO ns sp)):∃a b,v= .ref a/\aY K H a [.str "line",.ref b,.int sp]/\aY K H b (ns.map V.int):=by obtain⟨a,xs,rfl,h1,h2⟩:=h.cJ;obtain⟨x1,r1,rfl,e1,h2⟩:=h2.cons_inv;obtain⟨x2,r2,rfl,e2,h2⟩:=h2.cons_inv;obtain⟨x3,r3,rfl,e3,h2⟩:=h2.cons_inv;cases h2.nil_inv;cases e1.str_inv;cases e3.int_inv;obtain⟨b,ys,rfl,h3,h4⟩:=e2.cJ;rw[h4.gP]at h3;exact⟨a,b,Z,h1,h3⟩
inductive abv(K:aa)(vs:List V)(H:Hp)(Q:VK):Prop |mk (v:_)(ns:_)(sp:_)(h0:vs=[v])(h1:RD K H v (eO ns sp))(h2:ns≠[])(h3:ns.length<=1000)(h4:∀H',aD H H'->Q (.int (aO ns)) H')
def nU(K:aa):Sp:=λvs H Q _=>abv K vs H Q
theorem sx{ns:List Int}{f:Int->ah}{i:Nat}{d:ah}(h:(ns.map f)[i]? =some d):∃n,ns[i]? =some n/\f n=d:=by rw[bR]at h;cases e:ns[i]? with |none=>rw[e]at h;cases h |some n=>rw[e]at h;exact⟨n,Z,dG h⟩
theorem GU{ns:List Int}{i:Nat}{x:V}{n:Int}(h:(ns.map V.int)[i]? =some x)(e:ns[i]? =some n):x= .int n:=by rw[bR,e]at h;exact(dG h).symm
abbrev EH:Stmt:=top 49
theorem N9:aW ["line"] ["line"] (aM EH):=bh aF
theorem a0O(F:FA K mg "lead_of" EH)(B:bB mg):aA P w K mg ao "lead_of" 1 (nU K):=by
 refine F.has N9 (λvs H Q E h=>?_) (λ_ _ _ _ _ _=>cu λ_=>rfl) (λf aH A outer s H vs Q E hr h=>?_)
 ·obtain⟨v,ns,sp,rfl,_⟩:=h
  rfl
 ·obtain⟨v,ns,sp,rfl,rd,cI,hz,k⟩:=h
  have nd:=N9.nd;obtain⟨a,b,rfl,ha,hb⟩:=uN rd;refine⟨_,(aJ (aP (dg (x:="max") (a2J K Z Z) Z (B.at "max") V1 (ak (eY (N:=["step"]) (js:=[none]) rfl rfl rfl (kv K rfl (px K (pv 0) aE)) (λ_ _ _ _ _=>(bj 0 (hJ _))) (λ_ _ _ _ _=>dS) (λ_ _ _ _ _=>(dg (x:="abs") tf rfl (B.at "abs") vN (ak (pv 0) aw)))) aw)))),?_⟩;refine⟨_,Z,.inr ⟨a,_,1,.ref b,Z,Z,ha,Z,b,Z,⟨_,hb⟩,λD H0 nw=>?_⟩⟩;refine t9 (K:=K) (xs:=ns.map V.int) (ds:=(ns.map mZ).map PyData.int) [] hb nw (by simp) (by simpa using hz) (og _) ?_ ?_
  ·intro i x d H2 Q' ex ed s2 hq
   obtain⟨m,em,rfl⟩:=sx ed;rw[bR]at em;cases en:ns[i]? with |none=>rw[en]at em;cases em |some n=>rw[en]at em;cases em;cases GU ex en;exact⟨_,Z,n,Z,hq _ _ (aD.refl _) (fE _)⟩
  ·intro H' ys s2 d2 r2
   rw[r2.gP]at d2;refine⟨D,_,Z,aI.of d2,by simpa using cI,λM h1 h2=>?_⟩;rw[a3v cI h1 h2];exact k H' s2
open _r
abbrev EI:Stmt:=top 46
theorem Nb:aW ["p","q","divisor"] ["p","q"] (aM EI):=bh aF
theorem a0I(F:FA K mg "lowest_terms" EI)(B:bB mg)(a5B:aA P w K mg ao "common_divisor" 1 Dt):aA P w K mg ao "lowest_terms" 2 wA:=by
 refine F.has Nb (λvs H Q E h=>?_) (λ_ _ _ _ _ _=>dN λ_ _=>rfl) (λf aH A outer s H vs Q E hr h=>?_)
 ·obtain⟨a,b,rfl,_⟩:=h
  rfl
 ·obtain⟨a,b,rfl,hb,wb,k⟩:=h
  have nd:=Nb.nd;have sw:Wd (_A.sg a b):=Ck (_A.Xp hb) wb;refine⟨_,(aB (pS 2 nd (pf a5B hr (ak (pv 0) (ak (pv 1) aw)))) (aB (iX (bJ (bX kX (pv 1) aE (bL _)) (aJ (pS 2 nd (ml lZ (pv 2)))) bK)) (aJ (aP (gJ (ak (aQ Pl (pv 0) (pv 2)) (ak (aQ Pl (pv 1) (pv 2)) aw))))))),?_⟩;refine⟨_,Z,_,Z,a,b,Z,?_⟩;refine⟨λO H'=>H'=H/\O=[some (.int a),some (.int b),some (.int (_A.sg a b))],?_,?_⟩
  ·refine⟨_,Z,_,_,Z,Z,_,Z,?_⟩
   refine eP (λhc=>?_) (λhc=>?_)
   ·have hd:b<0:=kg hc
    refine⟨_,Z,_,Z,?_⟩;refine⟨Z,?_⟩;unfold _A.sg;rw[bc hd];rfl
   ·have hd:¬b<0:=λz=>hc (cf z)
    refine⟨Z,?_⟩;unfold _A.sg;rw[bf hd];rfl
  rintro O H' ⟨rfl,rfl⟩;refine⟨_,Z,_,Z,_,_,Z,Z,⟨_A.wG hb,sw⟩,_,Z,_,Z,_,_,Z,Z,⟨_A.wG hb,sw⟩,(by show 2<=sizeLine;decide),λt H4 nw=>?_⟩;exact k t H4 nw
def bV(K:aa)(H:Hp)(v:V)(r:Rat):Prop:=∃p,v= .ref p/\aY K H p [.int r.num,.int r.den]
theorem bV.go{H H':Hp}{v:V}{r:Rat}(h:bV K H v r)(s:aD H H'):bV K H' v r:=by obtain⟨p,e,q⟩:=h;exact⟨p,e,q.go s⟩
def dj(r:Rat):ah:=.tuple [.int r.num,.int r.den]
theorem bV.rd{H:Hp}{v:V}{r:Rat}(h:bV K H v r):RD K H v (dj r):=by obtain⟨p,rfl,q⟩:=h;exact fR q (cF (fE _) (cF (fE _) dy))
theorem Yx(r:Rat):dh 1 (dj r):=gF.tup (.cons (.int _) (.cons (.int _) .nil))
theorem eqR{r s:Rat}(h:r=s):PyData.eqv (dj r) (dj s)=true:=by rw[h];exact(Yx s).refl
theorem jI{n:Nat}{i:Int}(h:i.natAbs<2^n)(l:n<=5000):Wd i:=fD h (qJ ay l)
theorem _root_._r.Bd.wn{r:Rat}(h:Bd 2000 r):Wd r.num:=jI h.num ay
theorem _root_._r.Bd.wd{r:Rat}(h:Bd 2000 r):Wd (r.den:Int):=jI (n:=2000) (by have:=h.den;omega) ay
theorem VF{r s:Rat}(h:Bd 2000 r)(g:Bd 2000 s):Wd ((r.den:Int)*(s.den:Int)):=jI (n:=4000) (Jq h g) ay
theorem Ag{H':Hp}{t:Addr}{a b:Int}{r:Rat}(hb:b≠0)(e:r=Rat.divInt a b)(h:H' t=some (.tup [.int (_A.lowP a b),.int (_A.fZ a b)])):bV K H' (.ref t) r:=by obtain⟨e1,e2⟩:=Ha (a:=a) hb;rw[e1,e2,<-e]at h;exact⟨t,Z,aY.of h⟩
inductive aba(op:Rat->Rat->Rat)(K:aa)(vs:List V)(H:Hp)(Q:VK):Prop |mk (v1:_)(v2:_)(r:_)(s:_)(h0:vs=[v1,v2])(h1:bV K H v1 r)(h2:bV K H v2 s)(h3:Bd 2000 r)(h4:Bd 2000 s)(h5:∀v H',bV K H' v (op r s)->aD H H'->Q v H')
def wy(op:Rat->Rat->Rat)(K:aa):Sp:=λvs H Q _=>aba op K vs H Q
abbrev ED:Stmt:=top 42
theorem N5:aW ["one","other","p","q","r","s"] ["one","other"] (aM ED):=bh aF
theorem a0G(F:FA K mg "minus" ED)(B:bB mg)(uU:aA P w K mg ao "lowest_terms" 2 wA):aA P w K mg ao "minus" 3 (wy (·-·) K):=by
 refine F.has N5 (λvs H Q E h=>?_) (λ_ _ _ _ _ _=>dN λ_ _=>rfl) (λf aH A outer s H vs Q E hr h=>?_)
 ·obtain⟨v1,v2,r,s,rfl,_⟩:=h
  rfl
 ·obtain⟨v1,v2,r,s,rfl,⟨p,rfl,hp⟩,⟨q,rfl,hq⟩,br,bs,k⟩:=h
  have nd:=N5.nd;refine⟨_,(aB (eM (pv 0) (eX K Z (n:=2) Z (bZ (bj 2 nd) (bZ (bj 3 nd) eW)))) (aB (eM (pv 1) (eX K Z (n:=2) Z (bZ (bj 4 nd) (bZ (bj 5 nd) eW)))) (aJ (aP (pf uU hr (ak (aQ jr (aQ cD (pv 2) (pv 5)) (aQ cD (pv 4) (pv 3))) (ak (aQ cD (pv 3) (pv 5)) aw))))))),?_⟩;refine⟨_,Z,_,_,Z,hp,Z,_,_,Z,_,_,Z,Z,?_⟩;refine⟨_,Z,_,_,Z,hq,Z,_,_,Z,_,_,Z,Z,?_⟩;refine⟨_,Z,_,Z,_,_,Z,Z,nK br.wn.bits bs.wd.bits,_,Z,_,Z,_,_,Z,Z,nK bs.wn.bits br.wd.bits,_,_,Z,Z,_,Z,_,Z,_,_,Z,Z,nK br.wd.bits bs.wd.bits,?_⟩;exact⟨_,_,Z,yt r s,VF br bs,λt H' nw=>k _ _ (Ag (yt r s) (WY r s) nw.at') nw.same⟩
theorem KN{a:Int}{b:Nat}{x:Rat}(hb:b≠0)(hx:Rat.divInt a b=x):∃g,a=x.num*g/\(b:Int)=x.den*g:=by obtain⟨g,_,p⟩:=Rat.divInt_num_den (z':=x.den_nz) (c:=x.reduced) bC hx;exact⟨g,p⟩
theorem VA{r s x y:Rat}(hx:Rat.divInt r.num s.den=x)(hy:Rat.divInt s.num r.den=y)(m:r*s=Rat.divInt (r.num*s.num) (r.den*s.den)):x.num*y.num=(r*s).num/\(y.den:Int)*x.den=(r*s).den:=by
 obtain⟨g,h1,h2⟩:=KN s.den_nz hx;obtain⟨h,h3,h4⟩:=KN r.den_nz hy;have w:∀{q:Rat}{a b g h:Int},q.num=a*g->q.den=b*h->a.natAbs.Coprime b.natAbs:=λ{q a b g h} p z=>by have c:Int.gcd q.num q.den=1:=q.reduced;rw[p,z,Int.gcd_eq_natAbs_gcd_natAbs,gU,gU]at c;exact Nat.Coprime.coprime_mul_right_right (Nat.Coprime.coprime_mul_right c)
 have c:(x.num*y.num).natAbs.gcd (x.den*y.den)=1:=by rw[gU];exact Nat.Coprime.mul_left (Nat.Coprime.mul_right x.reduced (w h1 h4)) (Nat.Coprime.mul_right (w h3 h2) y.reduced)
 have e:r*s=x*y:=by rw[m,<-hx,<-hy,UP,Cu (s.den:Int)]
 rw[e,Rat.num_mul,Rat.den_mul,c,Nat.div_one,Km x.den];exact⟨(Int.ediv_one _).symm,Z⟩
abbrev DL:Stmt:=top 43
theorem Mt:aW ["one","other","p","s","r","q"] ["one","other"] (aM DL):=bh aF
theorem ZT(F:FA K mg "times" DL)(B:bB mg)(uU:aA P w K mg ao "lowest_terms" 2 wA):aA P w K mg ao "times" 3 (wy (·*·) K):=by
 refine F.has Mt (λvs H Q E h=>?_) (λ_ _ _ _ _ _=>dN λ_ _=>rfl) (λf aH A outer s H vs Q E hr h=>?_)
 ·obtain⟨v1,v2,r,s,rfl,_⟩:=h
  rfl
 ·obtain⟨v1,v2,r,s,rfl,⟨p,rfl,hp⟩,⟨q,rfl,hq⟩,br,bs,k⟩:=h
  have nd:=Mt.nd;have nr:=Int.ne_of_gt (den_pos r);have ns:=Int.ne_of_gt (den_pos s);refine⟨_,(aB (eM (pf uU hr (ak (px K (pv 0) aE) (ak (px K (pv 1) aE) aw))) (eX K Z (n:=2) Z (bZ (bj 2 nd) (bZ (bj 3 nd) eW)))) (aB (eM (pf uU hr (ak (px K (pv 1) aE) (ak (px K (pv 0) aE) aw))) (eX K Z (n:=2) Z (bZ (bj 4 nd) (bZ (bj 5 nd) eW)))) (aJ (aP (gJ (ak (aQ cD (pv 2) (pv 4)) (ak (aQ cD (pv 5) (pv 3)) aw))))))),?_⟩;refine⟨_,Z,Or.inr ⟨_,_,_,_,Z,Z,hp,Z,_,Z,Or.inr ⟨_,_,_,_,Z,Z,hq,Z,_,_,Z,ns,bs.wd,λt1 H1 n1=>?_⟩⟩⟩;obtain⟨_,e,g1⟩:=Ag ns Z n1.at';cases e;refine⟨_,_,Z,g1,Z,_,_,Z,_,_,Z,Z,?_⟩;refine⟨_,Z,Or.inr ⟨_,_,_,_,Z,Z,hq.go n1.same,Z,_,Z,Or.inr ⟨_,_,_,_,Z,Z,hp.go n1.same,Z,_,_,Z,nr,br.wd,λt2 H2 n2=>?_⟩⟩⟩;obtain⟨_,e,g2⟩:=Ag nr Z n2.at';cases e;refine⟨_,_,Z,g2,Z,_,_,Z,_,_,Z,Z,?_⟩;have b1:Bd 2000 _:=jt ns br.num (by have:=bs.den;omega);have b2:Bd 2000 _:=jt nr bs.num (by have:=br.den;omega);refine⟨_,Z,_,Z,_,_,Z,Z,nK b1.wn.bits b2.wn.bits,_,Z,_,Z,_,_,Z,Z,nK b2.wd.bits b1.wd.bits,?_⟩;refine⟨ck Z,λt H' n=>k _ _ ⟨t,Z,aY.of ?_⟩ (n1.same.trans (n2.same.trans n.same))⟩;obtain⟨e1,e2⟩:=VA Z Z (mul_div r s);rw[<-e1,<-e2];exact n.at'
inductive abt(K:aa)(vs:List V)(H:Hp)(Q:VK):Prop |mk (v1:_)(v2:_)(r:_)(s:_)(h0:vs=[v1,v2])(h1:bV K H v1 r)(h2:bV K H v2 s)(h3:Bd 2000 r)(h4:Bd 2000 s)(h5:Q (.bl (decide (r<s))) H)
def zU(K:aa):Sp:=λvs H Q _=>abt K vs H Q
abbrev EF:Stmt:=top 44
theorem N7:aW ["one","other","p","q","r","s"] ["one","other"] (aM EF):=bh aF
theorem a0L(F:FA K mg "is_less" EF)(B:bB mg):aA P w K mg ao "is_less" 1 (zU K):=by
 refine F.has N7 (λvs H Q E h=>?_) (λ_ _ _ _ _ _=>dN λ_ _=>rfl) (λf aH A outer s H vs Q E hr h=>?_)
 ·obtain⟨v1,v2,r,s,rfl,_⟩:=h
  rfl
 ·obtain⟨v1,v2,r,s,rfl,⟨p,rfl,hp⟩,⟨q,rfl,hq⟩,br,bs,k⟩:=h
  have nd:=N7.nd;refine⟨_,(aB (eM (pv 0) (eX K Z (n:=2) Z (bZ (bj 2 nd) (bZ (bj 3 nd) eW)))) (aB (eM (pv 1) (eX K Z (n:=2) Z (bZ (bj 4 nd) (bZ (bj 5 nd) eW)))) (aJ (aP (jq kX (aQ cD (pv 2) (pv 5)) (aQ cD (pv 4) (pv 3)) (bL _)))))),?_⟩;refine⟨_,Z,_,_,Z,hp,Z,_,_,Z,_,_,Z,Z,?_⟩;refine⟨_,Z,_,_,Z,hq,Z,_,_,Z,_,_,Z,Z,?_⟩;refine⟨_,Z,_,Z,_,_,Z,Z,nK br.wn.bits bs.wd.bits,_,Z,_,Z,_,_,Z,Z,nK bs.wn.bits br.wd.bits,_,_,Z,Z,?_⟩;have e:decide (r.num*(s.den:Int)<s.num*(r.den:Int))=decide (r<s):=by rw[jg,K6,K6,Rat.lt_iff]
  show Q (.bl (decide (r.num*(s.den:Int)<s.num*(r.den:Int)))) H;rw[e];exact k
def qD(K:aa)(H:Hp):List V->List Rat->Prop |[],[]=>True |v::vs,r::rs=>bV K H v r/\Bd 2000 r/\qD K H vs rs |_,_=>False
theorem qD.length{H:Hp}:∀{vs:List V}{rs:List Rat},qD K H vs rs->vs.length=rs.length |[],[],_=>rfl |v::vs,r::rs,h=>by rw[gp,gp,qD.length h.2.2] |[],_::_,h=>h.elim |_::_,[],h=>h.elim
theorem qD.get{H:Hp}:∀{vs:List V}{rs:List Rat}{i:Nat}{v:V},qD K H vs rs->vs[i]? =some v->∃r,rs[i]? =some r/\bV K H v r/\Bd 2000 r
 |[],[],i,v,_,e=>by simp at e |v::vs,r::rs,0,v',h,e=>by
  have e':v=v':=by simpa using e
  subst e';exact⟨r,Z,h.1,h.2.1⟩ |v::vs,r::rs,i+1,v',h,e=>by obtain⟨r',e1,q⟩:=qD.get h.2.2 (show vs[i]? =some v' by simpa using e);exact⟨r',by simpa using e1,q⟩ |[],_::_,_,_,h,_=>h.elim |_::_,[],_,_,h,_=>h.elim
inductive abu(K:aa)(vs:List V)(H:Hp)(Q:VK):Prop |mk (l:_)(xs:_)(rs:_)(h0:vs=[.ref l])(h1:aI K H l xs)(h2:qD K H xs rs)(h3:xs≠[])(h4:∀(i:Nat)(v:V)(r:Rat),xs[i]? =some v->rs[i]? =some r->(∀s∈rs,r<=s)->Q v H)
def kN(K:aa):Sp:=λvs H Q _=>abu K vs H Q
abbrev EG:Stmt:=top 45
theorem N8:aW ["some","best","one"] ["some"] (aM EG):=bh aF
theorem a0N(F:FA K mg "least" EG)(B:bB mg)(Ic:aA P w K mg ao "is_less" 1 (zU K)):aA P w K mg ao "least" 2 (kN K):=by
 refine F.has N8 (λvs H Q E h=>?_) (λ_ _ _ _ _ _=>cu λ_=>rfl) (λf aH A outer s H vs Q E hr h=>?_)
 ·obtain⟨l,xs,rs,rfl,_⟩:=h
  rfl
 ·obtain⟨l,xs,rs,rfl,hl,mM,cI,k⟩:=h
  have nd:=N8.nd;refine⟨_,(aB (pS 1 nd (px K (pv 0) aE)) (aB (jN gT Z (kT K Z (pv 0)) (bj 2 nd) (aJ (bJ (cH (pf Ic hr (ak (pv 2) (ak (pv 1) aw)))) (aJ (pS 1 nd (pv 2))) bK))) (aJ (aP (pv 1))))),?_⟩;have hlen:=mM.length;have h0:0<xs.length:=Cq.mpr cI;have e0:=cy h0;refine⟨_,Z,.inl ⟨l,xs,0,xs[0],Z,Z,hl,cE ay e0,?_⟩⟩;refine⟨_,Z,l,Z,⟨_,hl⟩,IW (K:=K) (a:=l) (xs:=xs) (λi O H2=>H2=H/\∃(j:Nat)(b:V)(r:Rat)(v:Option V),xs[j]? =some b/\rs[j]? =some r/\(∀(m:Nat)(s:Rat),m<i->rs[m]? =some s->r<=s)/\O=[some (.ref l),some b,v]) ?_ (λi O H2 _ h=>by rw[h.1];exact hl) ?_ ?_⟩
  ·obtain⟨r,e1,_⟩:=mM.get e0
   exact⟨Z,0,_,r,none,e0,e1,λm s hm=>absurd hm (Nat.not_lt_zero _),Z⟩
  ·rintro i x O H2 hx ⟨rfl,j,b,r,v,eb,er,hm,rfl⟩
   obtain⟨t,et,rt,bt⟩:=mM.get hx;obtain⟨r2,Sv,rb,bb⟩:=mM.get eb;rw[er]at Sv;cases Sv;refine⟨_,Z,_,Z,x,b,t,r,Z,rt,rb,bt,bb,_,Z,?_⟩;refine eP (λhc=>?_) (λhc=>?_)
   ·have cn:t<r:=kg hc
    refine⟨_,Z,?_⟩;refine⟨Z,i,x,t,_,hx,et,λm s HX es=>?_,Z⟩;rcases Nat.lt_succ_iff_lt_or_eq.mp HX with h|h
    ·exact eH (Rat.le_of_lt cn) (hm m s h es)
    ·subst h
     rw[et]at es;cases es;exact tO
   ·have hnl:¬t<r:=λz=>hc (cf z)
    refine⟨Z,j,b,r,_,eb,er,λm s HX es=>?_,Z⟩;rcases Nat.lt_succ_iff_lt_or_eq.mp HX with h|h
    ·exact hm m s h es
    ·subst h
     rw[et]at es;cases es;exact Cf.mp hnl
  ·rintro O H2 ⟨rfl,j,b,r,v,eb,er,hm,rfl⟩
   refine⟨_,Z,k j b r eb er λs hs=>?_⟩;obtain⟨m,hml,em⟩:=V7.mp hs;exact hm m s au (by rw[cy hml,em])
inductive abp(K:aa)(vs:List V)(H:Hp)(Q:VK):Prop |mk (a:_)(b:_)(h0:vs=[.int a,.int b])(h1:b≠0)(h2:Wd b)(h3:∀v H',bV K H' v (Rat.divInt a b)->aD H H'->Q v H')
def uc(K:aa):Sp:=λvs H Q _=>abp K vs H Q
abbrev F1:Stmt:=top 40
theorem Ny:aW ["p","q"] ["p","q"] (aM F1):=bh aF
theorem a1c(F:FA K mg "fraction" F1)(B:bB mg)(Bn:aA P w K mg ao "is_whole" 1 (zW K))(uU:aA P w K mg ao "lowest_terms" 2 wA):aA P w K mg ao "fraction" 3 (uc K):=by
 refine F.has Ny (λvs H Q E h=>?_) (λ_ _ _ _ _ _=>dN λ_ _=>rfl) (λf aH A outer s H vs Q E hr h=>?_)
 ·obtain⟨a,b,rfl,_⟩:=h
  rfl
 ·obtain⟨a,b,rfl,hb,wb,k⟩:=h
  have nd:=Ny.nd;refine⟨_,(aB (bJ (PW.pt (kR (dB (cH (pf Bn hr (ak (pv 0) aw)))) (kQ (dB (cH (pf Bn hr (ak (pv 1) aw))))))) (aJ uu) bK) (aB (bJ (bX (dF K Z hr.units) (pv 1) aE (bL _)) (aJ uu) bK) (aJ (aP (pf uU hr (ak (pv 0) (ak (pv 1) aw))))))),?_⟩;have iw:xA "int"=true:=by decide
  refine⟨_,Z,_,"int",Z,Z,_,Z,?_⟩;rw[iw];refine aV ?_;refine⟨_,Z,_,"int",Z,Z,_,Z,?_⟩;rw[iw];refine aV ?_;refine⟨_,Z,.inl ⟨_,_,Z,Z,_,Z,?_⟩⟩;rw[dE hb];refine aV ?_;exact⟨_,Z,_,Z,_,_,Z,hb,wb,λt H' nw=>k _ _ (Ag hb Z nw.at') nw.same⟩
def gw(rs:List Int)(r f j t:Int):ah:=.tuple [.tuple (rs.map PyData.int),.int r,.int f,.int j,.int t]
theorem iG(rs:List Int)(r f j t:Int):ek (gw rs r f j t)=true:=by simp[gw,ek,cx,og]
theorem mF{H:Hp}{v:V}{rs:List Int}{r f j t:Int}(h:RD K H v (gw rs r f j t)):∃a b,v= .ref a/\aY K H a [.ref b,.int r,.int f,.int j,.int t]/\aY K H b (rs.map V.int):=by obtain⟨a,xs,rfl,h1,h2⟩:=h.cJ;obtain⟨x1,r1,rfl,e1,h2⟩:=h2.cons_inv;obtain⟨x2,r2,rfl,e2,h2⟩:=h2.cons_inv;obtain⟨x3,r3,rfl,e3,h2⟩:=h2.cons_inv;obtain⟨x4,r4,rfl,e4,h2⟩:=h2.cons_inv;obtain⟨x5,r5,rfl,e5,h2⟩:=h2.cons_inv;cases h2.nil_inv;cases e2.int_inv;cases e3.int_inv;cases e4.int_inv;cases e5.int_inv;obtain⟨b,ys,rfl,h3,h4⟩:=e1.cJ;rw[h4.gP]at h3;exact⟨a,b,Z,h1,h3⟩
structure jC(rs:List Int)(r f j t:Int):Prop where
 len:rs.length=2\/rs.length=3
 rl:∀z∈rs,1<=z/\z<=100
 r1:1<=r/\r<=50
 f1:1<=f/\f<=50
 j1:1<=j/\j<=50
 t1:1<=t/\t<=100
inductive abq(K:aa)(vs:List V)(H:Hp)(Q:VK):Prop |mk (p:_)(h0:vs=[.ref p])(h1:fu H p)(h2:∀v rs r f j t H',RD K H' v (gw rs r f j t)->jC rs r f j t->bP p H H'->Q v H')
def LV(K:aa):Sp:=λvs H Q _=>abq K vs H Q
abbrev Itm:=Option (List Int × Int)
def itR(d:ah)(o:Itm):Prop:=(∃ns sp,d=eO ns sp/\o=some (ns,sp))\/∃w x,d= .tuple [.str w,x]/\(w="wait"\/w="tool"\/w="mark")/\ek x=true/\o=none
theorem itR.no{d:ah}{o:Itm}(h:itR d o):ek d=true:=by
 rcases h with⟨ns,sp,rfl,_⟩|⟨w,x,rfl,_,h,_⟩
 ·exact Qs _ _
 ·simp[ek,cx,h]
theorem a3R{H:Hp}{v:V}{d:ah}{o:Itm}(h:RD K H v d)(i:itR d o):∃a w ys,v= .ref a/\aY K H a (.str w::ys)/\(PyData.eqv (.str w) (.str "line")=o.isSome)/\SeqAt.shaped (.str w)=true:=by
 rcases i with⟨ns,sp,rfl,rfl⟩|⟨w,x,rfl,hw,_,rfl⟩
 ·obtain⟨a,b,rfl,h1,_⟩:=uN h
  exact⟨a,_,_,Z,h1,(by show PyData.eqv (.str "line") (.str "line")=true;decide+kernel),aF⟩
 ·obtain⟨a,xs,rfl,h1,h2⟩:=h.cJ
  obtain⟨x1,r1,rfl,e1,h2⟩:=h2.cons_inv;cases e1.str_inv;refine⟨a,w,r1,Z,h1,?_,?_⟩
  ·show PyData.eqv (.str w) (.str "line")=false
   rcases hw with rfl|rfl|rfl<;>decide+kernel
  ·rcases hw with rfl|rfl|rfl<;>decide+kernel
theorem a3p:SeqAt.shaped (.str "line")=true:=by decide+kernel
theorem mK{d:ah}{ns:List Int}{sp:Int}(h:itR d (some (ns,sp))):d=eO ns sp:=by
 rcases h with⟨Gx,Dw,e1,e2⟩|⟨_,_,_,_,_,e2⟩
 ·cases e2;exact e1
 ·cases e2
structure fL(ax:Nat)(ds:List ah)(os:List Itm):Prop where
 len:ds.length=os.length
 it:∀(i:Nat)(d:ah)(o:Itm),ds[i]? =some d->os[i]? =some o->itR d o
 ok:∀(i:Nat)(ns:List Int)(sp:Int),os[i]? =some (some (ns,sp))->eQ ax 100 ns/\1<=sp/\sp<=20
theorem fL.nil{ax:Nat}:fL ax [] []:=⟨Z,λi d o e=>by simp at e,λi ns sp e=>by simp at e⟩
theorem qZ{α:Type}{xs:List α}{x y:α}{j:Nat}(e:(xs++[x])[j]? =some y):xs[j]? =some y\/(j=xs.length/\y=x):=by
 by_cases hj:j<xs.length
 ·rw[vV hj]at e;exact .inl e
 ·have lF:j=xs.length:=by
   have:=(dw.mp e).1;rw[fe]at this;have:j<xs.length+1:=this
   lia
  rw[lF,z9 (bI _),Kl]at e;exact .inr ⟨lF,(dG e).symm⟩
theorem fL.snoc{ax:Nat}{ds:List ah}{os:List Itm}{d:ah}{o:Itm}(h:fL ax ds os)(i:itR d o)(g:∀ns sp,o=some (ns,sp)->eQ ax 100 ns/\1<=sp/\sp<=20):fL ax (ds++[d]) (os++[o]):=by
 have hl:=h.len;refine⟨by rw[fe,fe,h.len];rfl,λj d' o' e1 e2=>?_,λj ns sp e=>?_⟩
 ·rcases qZ e1 with e1|⟨j1,rfl⟩
  ·rcases qZ e2 with e2|⟨j2,rfl⟩
   ·exact h.it j d' o' e1 e2
   ·have:=(dw.mp e1).1;lia
  ·rcases qZ e2 with e2|⟨j2,rfl⟩
   ·have:=(dw.mp e2).1;lia
   ·exact i
 ·rcases qZ e with e|⟨_,e⟩
  ·exact h.ok j ns sp e
  ·exact g ns sp e.symm
theorem fL.no{ax:Nat}{ds:List ah}{os:List Itm}(h:fL ax ds os):cx ds=true:=fN.mpr λd hd=>by obtain⟨i,hi⟩:=p9.mp hd;have hl:=(dw.mp hi).1;exact(h.it i d _ hi (cy (by rw[<-h.len];exact hl))).no
theorem fL.get{ax:Nat}{ds:List ah}{os:List Itm}(h:fL ax ds os){i:Nat}{d:ah}(e:ds[i]? =some d):∃o,os[i]? =some o/\itR d o:=by have hl:=(dw.mp e).1;have e2:=cy (show i<os.length by rw[<-h.len];exact hl);exact⟨_,e2,h.it i d _ e e2⟩
inductive abE(K:aa)(vs:List V)(H:Hp)(Q:VK):Prop |mk (v:_)(d:_)(o:_)(h0:vs=[v])(h1:RD K H v d)(h2:itR d o)(h3:Q (.bl o.isSome) H)
def pF(K:aa):Sp:=λvs H Q _=>abE K vs H Q
abbrev ER:Stmt:=top 32
theorem Nj:aW ["item"] ["item"] (aM ER):=bh aF
theorem a0U(F:FA K mg "is_line" ER)(B:bB mg):aA P w K mg ao "is_line" 1 (pF K):=by
 refine F.has Nj (λvs H Q E h=>?_) (λ_ _ _ _ _ _=>cu λ_=>rfl) (λf aH A outer s H vs Q E hr h=>?_)
 ·obtain⟨v,d,o,rfl,_⟩:=h
  rfl
 ·obtain⟨v,d,o,rfl,ri,it,k⟩:=h
  have nd:=Nj.nd;refine⟨_,(aJ (aP (jq (dF K Z hr.units) (px K (pv 0) aE) bo (bL _)))),?_⟩;obtain⟨a,wd,ys,rfl,h1,ew,sw⟩:=a3R ri it;refine⟨_,Z,.inr ⟨a,_,0,.str wd,Z,Z,h1,cE (dY 0) Z,.inr ⟨_,_,bu _,bu _,sw,a3p,?_⟩⟩⟩;rw[ew];exact k
theorem jK{H:Hp}:∀{xs:List V}{zs:List Str},aL K H xs (zs.map PyData.str)->xs=zs.map V.str |xs,[],h=>h.nil_inv |xs,n::ns,h=>by obtain⟨y,ys,rfl,h1,h2⟩:=h.cons_inv;rw[h1.str_inv,jK h2];rfl
def iL:Str:="abcdefghijklmnopqrstuvwxyz"
theorem aai:iL.cps.toList.length=26:=by decide+kernel
theorem a9Z{α:Type}{xs:List α}{x:α}(h:xs.getLast? =some x):fb xs (-1)=some x:=by
 unfold fb ir;have hl:xs≠[]:=by intro e;rw[e]at h;cases h
 have h0:0<xs.length:=Cq.mpr hl;rw[bf ay,bc au];rw[List.getLast?_eq_getElem?]at h;show xs[((-1:Int)+(xs.length:Int)).toNat]? =some x;have e:((-1:Int)+(xs.length:Int)).toNat=xs.length-1:=by lia
 rw[e];exact h
def VI(ns:List Int):ah:=.tuple (ns.map λz=>dj (Rat.divInt z (_l.aO ns)))
theorem rH(r:Rat):ek (dj r)=true:=by simp[dj,ek,cx]
theorem PH{α:Type}{f:α->ah}(h:∀a,ek (f a)=true)(l:List α):cx (l.map f)=true:=fN.mpr λd hd=>by obtain⟨a,_,rfl⟩:=cY.mp hd;exact h a
inductive aaE(K:aa)(vs:List V)(H:Hp)(Q:VK):Prop |mk (v:_)(ns:_)(sp:_)(h0:vs=[v])(h1:RD K H v (eO ns sp))(h2:eQ ns.length 1000 ns)(h3:ns.length<=1000)(h4:∀v' H',RD K H' v' (VI ns)->aD H H'->Q v' H')
def LC(K:aa):Sp:=λvs H Q _=>aaE K vs H Q
abbrev DG:Stmt:=top 50
theorem Mo:aW ["line","lead"] ["line"] (aM DG):=bh aF
theorem ZP(F:FA K mg "ways_of" DG)(B:bB mg)(jT:aA P w K mg ao "lead_of" 1 (nU K))(qc:aA P w K mg ao "fraction" 3 (uc K)):aA P w K mg ao "ways_of" 4 (LC K):=by
 refine F.has Mo (λvs H Q E h=>?_) (λ_ _ _ _ _ _=>cu λ_=>rfl) (λf aH A outer s H vs Q E hr h=>?_)
 ·obtain⟨v,ns,sp,rfl,_⟩:=h
  rfl
 ·obtain⟨v,ns,sp,rfl,rd,ok,hz,k⟩:=h
  have nd:=Mo.nd;refine⟨_,(aB (pS 1 nd (pf jT hr (ak (pv 0) aw))) (aJ (aP (cS (x:="tuple") (kl K Z) Z (B.at "tuple") iU (ak (eY (N:=["step","lead"]) (js:=[none,some 1]) rfl rfl rfl (kv K rfl (px K (pv 0) aE)) (λ_ _ _ _ _=>(bj 0 (kx ay))) (λ_ _ _ _ _=>dS) (λ_ _ _ _ _=>(pf qc hr (ak (pv 0) (ak (pv 1) aw))))) aw))))),?_⟩;refine⟨_,Z,v,ns,sp,Z,rd,ok.ne,hz,λH1 s1=>?_⟩;obtain⟨a,b,rfl,ha,hb⟩:=uN (RD.mono s1 _ rd);obtain⟨lp,lm⟩:=ok.lead;refine⟨_,Z,.inr ⟨a,_,1,.ref b,Z,Z,ha,Z,b,Z,⟨_,hb⟩,λD H0 nw=>?_⟩⟩;refine t9 (K:=K) (xs:=ns.map V.int) (ds:=ns.map λz=>dj (Rat.divInt z (_l.aO ns))) _ hb nw (by simp) (by simpa using hz) (PH (λ_=>rH _) _) ?_ ?_
  ·intro i x d H2 Q' ex ed s2 hq
   obtain⟨n,en,rfl⟩:=sx ed;cases GU ex en;refine⟨_,Z,_,Z,n,_,Z,bC,jI (n:=20) bC ay,λv3 H3 r3 s3=>?_⟩;exact hq _ _ s3 r3.rd
  ·intro H' ys s2 d2 r2
   refine⟨D,_,Z,.inl ⟨aI.of d2,λt H4 n4=>?_⟩⟩;exact k _ _ (fR (aY.of n4.at') (aL.mono n4.same _ r2)) (s1.trans (s2.trans n4.same))
theorem pA:iW "tuple" "tuple"=true:=by decide
theorem VE(d:ah):(∃i,d= .int i/\xA (kL d)=true)\/(xA (kL d)=false/\∀i,d≠ .int i):=by cases d with |int i=>exact .inl ⟨i,Z,by simp[kL];decide⟩ |_=>exact .inr ⟨by simp[kL];decide,λ_ z=>nomatch z⟩
theorem wj(d:ah):(∃ds,d= .tuple ds)\/(iW (kL d) "tuple"=false/\∀ds,d≠ .tuple ds):=by cases d with |tuple ds=>exact .inl ⟨ds,Z⟩ |_=>exact .inr ⟨by simp[kL];decide,λ_ z=>nomatch z⟩
def df(lo hi:Int):ah->Bool | .int i=>decide (lo<=i)&&decide (i<=hi) |_=>false
theorem a3Y{lo hi:Int}{d:ah}(h:∀i,d≠ .int i):df lo hi d=false:=by cases d<;>first|rfl|exact absurd rfl (h _)
inductive aaF(K:aa)(vs:List V)(H:Hp)(Q:VK):Prop |mk (v:_)(d:_)(lo:_)(hi:_)(h0:vs=[v,.int lo,.int hi])(h1:RD K H v d)(h2:Q (.bl (df lo hi d)) H)
def m8(K:aa):Sp:=λvs H Q _=>aaF K vs H Q
abbrev DH:Stmt:=top 15
theorem Mp:aW ["thing","low","high"] ["thing","low","high"] (aM DH):=bh aF
theorem ZO(F:FA K mg "is_whole_within" DH)(B:bB mg)(Bn:aA P w K mg ao "is_whole" 1 (zW K)):aA P w K mg ao "is_whole_within" 2 (m8 K):=by
 refine F.has Mp (λvs H Q E h=>?_) (λ_ _ _ _ _ _=>jZ λ_ _ _=>rfl) (λf aH A outer s H vs Q E hr h=>?_)
 ·obtain⟨v,d,lo,hi,rfl,_⟩:=h
  rfl
 ·obtain⟨v,d,lo,hi,rfl,rd,k⟩:=h
  have nd:=Mp.nd;refine⟨_,(aJ (aP (uw (pf Bn hr (ak (pv 0) aw)) (pK (Zc Ay Ay (pv 1) (pv 0) (pv 2)))))),?_⟩;refine⟨_,Z,_,_,Z,rd.ty,_,Z,?_⟩;rcases VE d with⟨i,rfl,e⟩|⟨e,hn⟩
  ·cases rd.int_inv
   rw[e];refine bG ?_;have k:Q (.bl (decide (lo<=i)&&decide (i<=hi))) H:=k;refine⟨_,Z,_,Z,_,_,Z,Z,_,Z,?_⟩;refine eP (λhc=>?_) (λhc=>?_)
   ·have jU:decide (lo<=i)=true:=hc
    rw[jU,iA]at k;exact⟨_,Z,_,_,Z,Z,k⟩
   ·have jU:decide (lo<=i)=false:=Cw.mpr hc
    rw[jU,iB]at k;exact k
  ·rw[e]
   refine aV ?_;rw[a3Y hn]at k;exact k
open _C
theorem Vx{ns ms:List Int}{i:Nat}{a b:Int}(h1:ns[i]? =some a)(h2:ms[i]? =some b):(fK ns ms)[i]? =some (a*(aO ms:Int)-b*(aO ns:Int)):=by unfold fK;rw[bR,(Kt (z:=(a,b))).mpr ⟨h1,h2⟩];rfl
def yy(j:Int)(ns ms:List Int):ah:=if aO (fK ns ms)=0 then .none else dj (Rat.divInt ((j*aO ns*aO ms)^2) ((aO (fK ns ms):Int)^2))
inductive abT(K:aa)(vs:List V)(H:Hp)(Q:VK):Prop |mk (v:_)(v1:_)(v2:_)(rs:_)(r:_)(f:_)(j:_)(t:_)(ns:_)(ms:_)(dZ:_)(ie:_)(h0:vs=[v,v1,v2])(h1:RD K H v (gw rs r f j t))(h2:RD K H v1 (eO ns dZ))(h3:RD K H v2 (eO ms ie))(h4:eQ ns.length 1000 ns)(h5:eQ ns.length 1000 ms)(h6:ns.length<=1000)(h7:1<=j)(h8:j<=50)(h9:∀v' H',RD K H' v' (yy j ns ms)->aD H H'->Q v' H')
def Du(K:aa):Sp:=λvs H Q _=>abT K vs H Q
inductive aaI(K:aa)(vs:List V)(H:Hp)(Q:VK):Prop |mk (v1:_)(v2:_)(ns:_)(ms:_)(dZ:_)(ie:_)(h0:vs=[v1,v2])(h1:RD K H v1 (eO ns dZ))(h2:RD K H v2 (eO ms ie))(h3:eQ ns.length 1000 ns)(h4:eQ ns.length 1000 ms)(h5:ns.length<=1000)(h6:∀v' H',bV K H' v' (Rat.divInt (aO (fK ns ms)) ((aO ns:Int)*aO ms))->aD H H'->Q v' H')
def LF(K:aa):Sp:=λvs H Q _=>aaI K vs H Q
abbrev DI:Stmt:=top 60
theorem Mq:aW ["one","other","greatest","way","new_way","p","q","difference"] ["one","other"] (aM DI):=bh aF
theorem ZQ(F:FA K mg "greatest_turn" DI)(B:bB mg)(QY:aA P w K mg ao "ways_of" 4 (LC K))(a4R:aA P w K mg ao "minus" 3 (wy (·-·) K))(Ic:aA P w K mg ao "is_less" 1 (zU K)):aA P w K mg ao "greatest_turn" 5 (LF K):=by
 refine F.has Mq (λvs H Q E h=>?_) (λ_ _ _ _ _ _=>dN λ_ _=>rfl) (λf aH A outer s H vs Q E hr h=>?_)
 ·obtain⟨v1,v2,ns,ms,dZ,ie,rfl,_⟩:=h
  rfl
 ·obtain⟨v1,v2,ns,ms,dZ,ie,rfl,rE,mi,iZ,fW,hz,k⟩:=h
  have nd:=Mq.nd;obtain⟨lp1,lm1⟩:=iZ.lead;obtain⟨lp2,lm2⟩:=fW.lead;have QV:ms.length<=1000:=by rw[fW.len];exact hz
  have a1I:eQ ms.length 1000 ms:=⟨Z,fW.bd,fW.nz⟩;have cb:=Js (λz hz=>by have:=iZ.bd z hz;lia) (λz hz=>by have:=fW.bd z hz;lia) (ns:=ns) (ms:=ms);have L0:(0:Int)<(aO ns:Int)*aO ms:=jH au au;have Lb:((aO ns:Int)*aO ms).natAbs<=1000*1000:=mE au au;have ae5:(fK ns ms).length=ns.length:=by simp[fK,fW.len]
  have RN:∀c:Int,c.natAbs<=2000000->Bd 2000 (Rat.divInt c ((aO ns:Int)*aO ms)):=λc hc=>(jt (n:=30) au au au).mono ay;refine⟨_,(aB (pS 2 nd (gJ (ak aE (ak aE aw)))) (aB (jN gT Z (rO K Z false false Z (B.at "zip") (ak (pf QY hr (ak (pv 0) aw)) (ak (pf QY hr (ak (pv 1) aw)) aw))) (eX K rfl (n:=2) rfl (bZ (bj 3 nd) (bZ (bj 4 nd) eW))) (aB (eM (pf a4R hr (ak (pv 4) (ak (pv 3) aw))) (eX K Z (n:=2) Z (bZ (bj 5 nd) (bZ (bj 6 nd) eW)))) (aB (pS 7 nd (gJ (ak (dg (x:="abs") tf Z (B.at "abs") vN (ak (pv 5) aw)) (ak (pv 6) aw)))) (aJ (bJ (cH (pf Ic hr (ak (pv 2) (ak (pv 7) aw)))) (aJ (pS 2 nd (pv 7))) bK))))) (aJ (aP (pv 2))))),?_⟩;refine⟨ck Z,λg0 H1 n1=>?_⟩;refine⟨_,Z,v1,ns,dZ,Z,RD.mono n1.same _ rE,iZ,hz,λw1 H2 r2 s2=>?_⟩;have t2:=n1.same.trans s2;refine⟨_,Z,v2,ms,ie,Z,RD.mono t2 _ mi,a1I,QV,λw2 H3 r3 s3=>?_⟩;have t3:=t2.trans s3;obtain⟨c1,xs1,rfl,h1,q1⟩:=(RD.mono s3 _ r2).cJ;obtain⟨c2,xs2,rfl,h2,q2⟩:=r3.cJ;have l1:=q1.length;have l2:=q2.length;rw[bM]at l1 l2;refine⟨c1,c2,Z,⟨_,h1⟩,⟨_,h2⟩,?_⟩;refine Sj (K:=K) (b1:=false) (b2:=false) (xs:=xs1) (ys:=xs2) ns.length (by rw[l1,l2,fW.len];lia) (λi O H4=>aD H3 H4/\∃g u1 u2 u3 u4 u5,bV K H4 g (Rat.divInt (pY (fK ns ms) i) ((aO ns:Int)*aO ms))/\O=[some v1,some v2,some g,u1,u2,u3,u4,u5]) ?_ (λi O H4 _ h=>⟨h1.go h.1,h2.go h.1⟩) ?_ ?_
  ·refine⟨aD.refl _,.ref g0,none,none,none,none,none,⟨g0,Z,?_⟩,Z⟩
   have e0:Rat.divInt ((pY (fK ns ms) 0:Nat):Int) ((aO ns:Int)*aO ms)=0:=by show Rat.divInt 0 _=0;exact Rat.zero_divInt _
   rw[e0];exact aY.of (s3 _ _ (s2 _ _ n1.at'))
  ·rintro i x y O H4 ex ey ⟨s4,g,u1,u2,u3,u4,u5,rg,rfl⟩ T H5 n5
   obtain⟨d1,e1,rx⟩:=q1.get' i ex;obtain⟨d2,e2,ry⟩:=q2.get' i ey;obtain⟨a,ea,rfl⟩:=sx e1;obtain⟨b,eb,rfl⟩:=sx e2;have qa:=iZ.bd a (fc ea);have qb:=fW.bd b (fc eb);have cz:=Vx ea eb;have czb:=cb _ (fc cz);have t5:=s4.trans n5.same;refine⟨T,_,Z,aY.of n5.at',Z,_,_,Z,_,_,Z,Z,?_⟩;have kr:∀{H':Hp}{v:V}{r:Rat},RD K H' v (dj r)->bV K H' v r:=λ{H' v r} h=>by obtain⟨p,xs,rfl,h1,h2⟩:=h.cJ;have:=h2.gP (ns:=[r.num,r.den]);subst this;exact⟨p,Z,h1⟩
   refine⟨_,Z,_,Z,y,x,_,_,Z,kr (RD.mono t5 _ ry),kr (RD.mono t5 _ rx),(jt (n:=30) au au au).mono ay,(jt (n:=30) au au au).mono ay,λv6 H6 r6 s6=>?_⟩;have ed:Rat.divInt b (aO ms)-Rat.divInt a (aO ns)=Rat.divInt (b*aO ns-a*aO ms) ((aO ns:Int)*aO ms):=WW au au;have r6:bV K H6 v6 (Rat.divInt b (aO ms)-Rat.divInt a (aO ns)):=r6;rw[ed]at r6;obtain⟨p6,rfl,h6⟩:=r6;refine⟨p6,_,Z,h6,Z,_,_,Z,_,_,Z,Z,?_⟩;refine⟨_,Z,_,Z,_,Z,ck Z,λdd H7 n7=>?_⟩;have FE:=s6.trans n7.same;have rD:bV K H7 (.ref dd) (Rat.divInt (((a*(aO ms:Int)-b*(aO ns:Int)).natAbs:Nat):Int) ((aO ns:Int)*aO ms)):=by
    have e:Rat.divInt (((a*(aO ms:Int)-b*(aO ns:Int)).natAbs:Nat):Int) ((aO ns:Int)*aO ms)=tD (Rat.divInt (b*aO ns-a*aO ms) ((aO ns:Int)*aO ms)):=by rw[aae L0,JP];congr 1;lia
    rw[e];refine⟨dd,Z,?_⟩;rw[aad,aaf];exact aY.of n7.at'
   have rG:bV K H7 g _:=(rg.go n5.same).go FE;have hG:pY (fK ns ms) i<=2000000:=oo λz hz=>cb z (yY hz);refine⟨_,Z,_,Z,g,.ref dd,_,_,Z,rG,rD,RN _ au,RN _ au,_,Z,?_⟩;have hs:=a5h cz;refine eP (λhc=>?_) (λhc=>?_)
   ·have cn:=(SX L0).mp (kg hc)
    refine⟨_,Z,?_⟩;refine⟨t5.trans FE,_,_,_,_,_,_,?_,Z⟩;rw[hs,Nat.max_eq_right au];exact rD
   ·have hge:¬_:=λz=>hc (cf ((SX L0).mpr z))
    refine⟨t5.trans FE,_,_,_,_,_,_,?_,Z⟩;rw[hs,Nat.max_eq_left au];exact rG
  ·rintro O H4 ⟨s4,g,u1,u2,u3,u4,u5,rg,rfl⟩
   refine⟨_,Z,k _ _ ?_ (t3.trans s4)⟩;have:pY (fK ns ms) ns.length=aO (fK ns ms):=by unfold pY;rw[yX au]
   rw[this]at rg;exact rg
abbrev Fd:Stmt:=top 57
theorem NH:aW ["machine","one","other","jump","p","q"] ["machine","one","other"] (aM Fd):=bh aF
theorem a1l(F:FA K mg "corner_square" Fd)(B:bB mg)(a5l:aA P w K mg ao "greatest_turn" 5 (LF K))(qc:aA P w K mg ao "fraction" 3 (uc K)):aA P w K mg ao "corner_square" 6 (Du K):=by
 refine F.has NH (λvs H Q E h=>?_) (λ_ _ _ _ _ _=>jZ λ_ _ _=>rfl) (λf aH A outer s H vs Q E hr h=>?_)
 ·obtain⟨v,v1,v2,rs,r,f',j,t,ns,ms,dZ,ie,rfl,_⟩:=h
  rfl
 ·obtain⟨v,v1,v2,rs,r,f',j,t,ns,ms,dZ,ie,rfl,rd,rE,mi,iZ,fW,hz,j1,j2,k⟩:=h
  have nd:=NH.nd;obtain⟨lp1,lm1⟩:=iZ.lead;obtain⟨lp2,lm2⟩:=fW.lead;have L0:(0:Int)<(aO ns:Int)*aO ms:=jH au au;have Lb:((aO ns:Int)*aO ms).natAbs<=1000*1000:=mE au au;have cb:=Js (λz hz=>by have:=iZ.bd z hz;lia) (λz hz=>by have:=fW.bd z hz;lia) (ns:=ns) (ms:=ms);have hH:=oo cb;refine⟨_,(aB (pS 3 nd (px K (pv 0) aE)) (aB (eM (pf a5l hr (ak (pv 1) (ak (pv 2) aw))) (eX K Z (n:=2) Z (bZ (bj 4 nd) (bZ (bj 5 nd) eW)))) (aB (bJ (bX (dF K Z hr.units) (pv 4) aE (bL _)) (aJ (aP jo)) bK) (aJ (aP (pf qc hr (ak (aQ cD (aQ cD (aQ cD (pv 3) (pv 3)) (pv 5)) (pv 5)) (ak (aQ cD (pv 4) (pv 4)) aw)))))))),?_⟩;obtain⟨am,bm,rfl,gQ,j6⟩:=mF rd;refine⟨_,Z,.inr ⟨am,_,3,.int j,Z,Z,gQ,Z,?_⟩⟩;refine⟨_,Z,_,Z,v1,v2,ns,ms,dZ,ie,Z,rE,mi,iZ,fW,hz,λv3 H3 r3 s3=>?_⟩;obtain⟨JG⟩:Nonempty (Bd 30 (Rat.divInt (aO (fK ns ms)) ((aO ns:Int)*aO ms))):=⟨jt (n:=30) au au au⟩;have en:=tN (Rat.divInt (aO (fK ns ms)) ((aO ns:Int)*aO ms));obtain⟨R,hR⟩:∃R,Rat.divInt (aO (fK ns ms)) ((aO ns:Int)*aO ms)=R:=⟨_,Z⟩;rw[hR]at r3 JG en;have dp:=den_pos R;have yu:R.num*((aO ns:Int)*aO ms)=aO (fK ns ms)*R.den:=by rw[<-hR]at en;have:=(Rat.divInt_eq_divInt_iff (by rw[hR];lia) au).mp en;rw[hR]at this;exact this
  have nb:=JG.num;have db:=JG.den;obtain⟨p3,rfl,h3⟩:=r3;refine⟨p3,_,Z,h3,Z,_,_,Z,_,_,Z,Z,?_⟩;refine⟨_,Z,.inl ⟨_,_,Z,Z,_,Z,?_⟩⟩;refine eP (λhc=>?_) (λhc=>?_)
  ·have h0:R.num=0:=by simpa using hc
   have hl:aO (fK ns ms)=0:=by
    rw[h0,Cr]at yu;rcases Int.mul_eq_zero.mp yu.symm with h|h
    ·lia
    ·lia
   refine k .bw H3 ?_ s3;unfold yy;rw[bc hl];exact uh
  ·have h0:R.num≠0:=by simpa using hc
   have hl:aO (fK ns ms)≠0:=by
    intro z;rw[z]at yu;have:R.num*((aO ns:Int)*aO ms)=0:=by rw[yu];exact Cr _
    rcases Int.mul_eq_zero.mp this with h|h
    ·exact h0 h
    ·lia
   have m1:(j*j).natAbs<=50*50:=mE au au;have oK:(2:Nat)^64=18446744073709551616:=by decide
   refine⟨_,Z,_,Z,_,_,Z,Z,.of_left (dv au au),_,Z,_,_,Z,Z,.of_left (dv au au),_,Z,_,_,Z,Z,.of_right (dv au au),?_⟩;refine⟨_,Z,_,Z,_,_,Z,Z,.of_left (dv au au),?_⟩;refine⟨_,_,Z,Ky h0 h0,?_,λv4 H4 r4 s4=>?_⟩
   ·refine jI (n:=60) ?_ ay
    rw[gU];exact oj (n:=30) (m:=30) nb nb
   ·refine k _ _ ?_ (s3.trans s4)
    unfold yy;rw[bf hl];have e:=a9i (j:=j) (p:=R.num) (q:=R.den) (h:=aO (fK ns ms)) (L:=(aO ns:Int)*aO ms) h0 au yu;rw[e,<-Cv]at r4;exact r4.rd
def kP (d:ah):Bool:=df 10 200 d
inductive aaY(K:aa)(vs:List V)(H:Hp)(Q:VK):Prop |mk (v:_)(d:_)(h0:vs=[v])(h1:RD K H v d)(h2:Q (.bl (kP d)) H)
def zQ(K:aa):Sp:=λvs H Q _=>aaY K vs H Q
abbrev EO:Stmt:=top 59
theorem Ni:aW ["thing"] ["thing"] (aM EO):=bh aF
theorem a0T(F:FA K mg "is_rate" EO)(B:bB mg)(a66:GV mg "LEAST_RATE" (.int 10))(a68:GV mg "GREATEST_RATE" (.int 200))(iI:aA P w K mg ao "is_whole_within" 2 (m8 K)):aA P w K mg ao "is_rate" 3 (zQ K):=by
 refine F.has Ni (λvs H Q E h=>?_) (λ_ _ _ _ _ _=>cu λ_=>rfl) (λf aH A outer s H vs Q E hr h=>?_)
 ·obtain⟨v,d,rfl,_⟩:=h
  rfl
 ·obtain⟨v,d,rfl,rd,k⟩:=h
  have nd:=Ni.nd;refine⟨_,(aJ (aP (pf iI hr (ak (pv 0) (ak (cQ (x:="LEAST_RATE") Z a66) (ak (cQ (x:="GREATEST_RATE") Z a68) aw)))))),?_⟩;exact⟨_,Z,v,d,10,200,Z,rd,k⟩
inductive aaJ(K:aa)(vs:List V)(H:Hp)(Q:VK):Prop |mk (v:_)(ns:_)(sp:_)(r:_)(h0:vs=[v,.int r])(h1:RD K H v (eO ns sp))(h2:1<=sp)(h3:sp<=20)(h4:10<=r)(h5:r<=200)(h6:∀v' H',bV K H' v' (Rat.divInt ((sp*r)^2) 10000)->aD H H'->Q v' H')
def zN(K:aa):Sp:=λvs H Q _=>aaJ K vs H Q
theorem Xb(a b:Int):a*a*b*b=(a*b)^2:=by rw[gq,gq,nN,lX];ac_rfl
theorem Yv{r:Int}(h1:10<=r)(h2:r<=200):kP (.int r)=true:=by show(decide (10<=r)&&decide (r<=200))=true;rw[cf h1,cf h2];rfl
abbrev DJ:Stmt:=top 58
theorem Mr:aW ["line","rate","speed"] ["line","rate"] (aM DJ):=bh aF
theorem ZR(F:FA K mg "top_square" DJ)(B:bB mg)(Ia:aA P w K mg ao "is_rate" 3 (zQ K))(qc:aA P w K mg ao "fraction" 3 (uc K)):aA P w K mg ao "top_square" 4 (zN K):=by
 refine F.has Mr (λvs H Q E h=>?_) (λ_ _ _ _ _ _=>dN λ_ _=>rfl) (λf aH A outer s H vs Q E hr h=>?_)
 ·obtain⟨v,ns,sp,r,rfl,_⟩:=h
  rfl
 ·obtain⟨v,ns,sp,r,rfl,rd,s1,s2,r1,r2,k⟩:=h
  have nd:=Mr.nd;refine⟨_,(aB (bJ (dB (cH (pf Ia hr (ak (pv 1) aw)))) (aJ uu) bK) (aB (pS 2 nd (px K (pv 0) aE)) (aJ (aP (pf qc hr (ak (aQ cD (aQ cD (aQ cD (pv 2) (pv 2)) (pv 1)) (pv 1)) (ak (aQ cD aE aE) aw))))))),?_⟩;refine⟨_,Z,_,.int r,Z,fE r,_,Z,?_⟩;rw[Yv r1 r2];refine aV ?_;obtain⟨a,b,rfl,ha,hb⟩:=uN rd;refine⟨_,Z,.inr ⟨a,_,2,.int sp,Z,Z,ha,Z,?_⟩⟩;have m1:(sp*sp).natAbs<=20*20:=by rw[gU];exact qK au au
  refine⟨_,Z,_,Z,_,_,Z,Z,.of_left (dv au au),_,Z,_,_,Z,Z,.of_left (dv au au),_,Z,_,_,Z,Z,.of_right (dv au au),?_⟩;refine⟨_,_,Z,Z,.of_left (dv ay ay),?_⟩;refine⟨_,_,Z,ay,jI (n:=20) ay ay,λv' H' r' s'=>k v' H' ?_ s'⟩;rw[Xb]at r';exact r'
open _P
open _O (topR cornO mnO betR atO ownF leadF ownL OkI OkIs)
theorem Xe(n:Nat)(h:n<=1000):n<sizeLine:=Ck h ay
theorem kr{H:Hp}{v:V}{r:Rat}(h:RD K H v (dj r)):bV K H v r:=by obtain⟨p,xs,rfl,h1,h2⟩:=h.cJ;have:=h2.gP (ns:=[r.num,r.den]);subst this;exact⟨p,Z,h1⟩
theorem eQ.up{ax:Nat}{ns:List Int}(h:eQ ax 100 ns):eQ ns.length 1000 ns:=⟨Z,λz hz=>by have:=h.bd z hz;lia,h.nz⟩
theorem fL.kY{ax:Nat}{ds:List ah}{os:List Itm}(h:fL ax ds os):OkIs os:=λi ns sp e=>by unfold atO at e;cases ho:os[i]? with |none=>rw[ho]at e;cases e |some o=>rw[ho]at e;have e':o=some (ns,sp):=e;subst e';obtain⟨a,b,c⟩:=h.ok i ns sp ho;exact⟨a.bd,b,c⟩
theorem uH{H:Hp}{a:Addr}(h:aY K H a [.int 0,.int 1]):bV K H (.ref a) 0:=⟨a,Z,h⟩
theorem a9k(j:Int)(ns ms:List Int):yy j ns ms=match cornO j ns ms with|none=>.none|some c=>dj c:=by unfold yy cornO;split<;>rfl
inductive abW(K:aa)(vs:List V)(H:Hp)(Q:VK):Prop |mk (m:_)(v1:_)(v2:_)(az:_)(rs:_)(r:_)(f:_)(j:_)(t:_)(d1:_)(d2:_)(o1:_)(o2:_)(ax:_)(h0:vs=[m,v1,v2,.int az])(h1:RD K H m (gw rs r f j t))(h2:1<=j)(h3:j<=50)(h4:RD K H v1 d1)(h5:RD K H v2 d2)(h6:itR d1 o1)(h7:itR d2 o2)(h8:(∀ns sp,o1=some (ns,sp)->eQ ax 100 ns/\1<=sp/\sp<=20))(h9:(∀ns sp,o2=some (ns,sp)->eQ ax 100 ns/\1<=sp/\sp<=20))(h10:ax<=100)(h11:10<=az)(sQ:az<=200)(h13:∀v H',bV K H' v (betR j az o1 o2)->aD H H'->Q v H')
def A0(K:aa):Sp:=λvs H Q _=>abW K vs H Q
abbrev Fg:Stmt:=top 63
theorem NL:aW ["machine","one","other","rate","squares","corner"] ["machine","one","other","rate"] (aM Fg):=bh aF
theorem a1p(F:FA K mg "bound_between" Fg)(B:bB mg)(gN:GT K mg "NOUGHT" [.int 0,.int 1])(jv:aA P w K mg ao "is_line" 1 (pF K))(Ba:aA P w K mg ao "top_square" 4 (zN K))(a5z:aA P w K mg ao "corner_square" 6 (Du K))(mT:aA P w K mg ao "least" 2 (kN K)):aA P w K mg ao "bound_between" 7 (A0 K):=by
 obtain⟨aN,jV,m7⟩:=gN;refine F.has NL (λvs H Q E h=>?_) (λ_ _ _ _ _ _=>JO λ_ _ _ _=>rfl) (λf aH A outer s H vs Q E hr h=>?_)
 ·obtain⟨m,v1,v2,az,rs,r,f,j,t,d1,d2,o1,o2,ax,rfl,_⟩:=h
  rfl
 ·obtain⟨m,v1,v2,az,rs,r,f,j,t,d1,d2,o1,o2,ax,rfl,rm,j1,j2,r1,r2,i1,i2,k1,k2,hax,cL,cV,k⟩:=h
  have nd:=NL.nd;refine⟨_,(aB (bJ (PW.pt (kR (dB (cH (pf jv hr (ak (pv 1) aw)))) (kQ (dB (cH (pf jv hr (ak (pv 2) aw))))))) (aJ (aP (cQ (x:="NOUGHT") Z jV))) bK) (aB (pS 4 nd (da (ak (pf Ba hr (ak (pv 1) (ak (pv 3) aw))) (ak (pf Ba hr (ak (pv 2) (ak (pv 3) aw))) aw)))) (aB (pS 5 nd (pf a5z hr (ak (pv 0) (ak (pv 1) (ak (pv 2) aw))))) (aB (iX (bJ (bX Pg (pv 5) jo (bL _)) (aJ (ku (nY K Z (pv 4) (ak (pv 5) aw)))) bK)) (aJ (aP (pf mT hr (ak (pv 4) aw)))))))),?_⟩;refine⟨_,Z,v1,d1,o1,Z,r1,i1,_,Z,?_⟩;cases o1 with |none=>refine bG (bG ?_);have:=k _ H (uH (m7 H)) (aD.refl _);exact this |some q1=>obtain⟨ns,sp⟩:=q1;refine aV ?_;refine⟨_,Z,v2,d2,o2,Z,r2,i2,_,Z,?_⟩;cases o2 with |none=>refine bG ?_;exact k _ H (uH (m7 H)) (aD.refl _) |some q2=>obtain⟨ms,sq⟩:=q2;refine aV ?_;have e1:=mK i1;have e2:=mK i2;subst e1 e2;obtain⟨iZ,a1,a2⟩:=k1 ns sp rfl;obtain⟨fW,b1,b2⟩:=k2 ms sq rfl;refine⟨_,Z,_,Z,v1,ns,sp,az,Z,r1,a1,a2,cL,cV,λt1 H1 Y7 s1=>?_⟩;refine⟨_,Z,_,Z,v2,ms,sq,az,Z,RD.mono s1 _ r2,b1,b2,cL,cV,λt2 H2 Y6 s2=>?_⟩;refine⟨ck Z,λl H3 n3=>?_⟩;have t3:=s1.trans (s2.trans n3.same);have AB:eQ ns.length 1000 ms:=⟨by rw[iZ.len,fW.len],fW.up.bd,fW.nz⟩;refine⟨_,Z,_,Z,_,Z,m,v1,v2,rs,r,f,j,t,ns,ms,sp,sq,Z,RD.mono t3 _ rm,RD.mono t3 _ r1,RD.mono t3 _ r2,iZ.up,AB,by rw[iZ.len];lia,j1,j2,λc H4 rc s4=>?_⟩;have T1:Bd 2000 (topR az sp):=(_O.zB a1 a2 cL cV).mono ay;have T2:Bd 2000 (topR az sq):=(_O.zB b1 b2 cL cV).mono ay;have R1:bV K H4 t1 (topR az sp):=((Y7.go s2).go n3.same).go s4;have R2:bV K H4 t2 (topR az sq):=(Y6.go n3.same).go s4;have t4:=t3.trans s4;rw[a9k]at rc;cases hc:cornO j ns ms with
   |none=>
    rw[hc]at rc;cases rc.Gz;refine⟨λO H5=>H5=H4/\O=[some m,some v1,some v2,some (.int az),some (.ref l),some .bw],?_,?_⟩
    ·refine⟨_,Z,Z,_,Z,aV ?_⟩
     exact⟨Z,Z⟩
    rintro O H5 ⟨rfl,rfl⟩;refine⟨_,Z,l,[t1,t2],[topR az sp,topR az sq],Z,aI.of (s4 _ _ n3.at'),⟨R1,T1,R2,T2,trivial⟩,by simp,λi v q e1 e2 hq=>?_⟩;have oz:betR j az (some (ns,sp)) (some (ms,sq))=q:=by
     show mnO (mn _ _) (cornO j ns ms)=q;rw[hc];refine sj ?_ (hq _ (by simp)) (hq _ (by simp))
     match i,e2 with |0,e2=>cases e2;exact .inl rfl |1,e2=>cases e2;exact .inr rfl
    refine k v _ ?_ t4;rw[oz]
    match i,e1,e2 with |0,e1,e2=>cases e1;cases e2;exact R1 |1,e1,e2=>cases e1;cases e2;exact R2
   |some cq=>
    rw[hc]at rc;have Rc:bV K H4 c cq:=kr rc;have Tc:Bd 2000 cq:=(_O.Tp j1 j2 iZ.bd fW.bd hc).mono ay;have qw:=s4 _ _ n3.at';have tU:hV H4 (_L.upd H4 l (.lst ([t1,t2]++[c]))):=.tW qw;refine⟨λO H5=>H5=_L.upd H4 l (.lst ([t1,t2]++[c]))/\O=[some m,some v1,some v2,some (.int az),some (.ref l),some c],?_,?_⟩
    ·obtain⟨pc,rfl,_⟩:=id Rc
     refine⟨_,Z,Z,_,Z,bG ?_⟩;refine⟨_,Z,.inl ⟨Z,_,aI.of qw⟩,_,Z,l,[t1,t2],_,Z,Z,qw,Xe _ (V6 Z),?_⟩;exact⟨Z,Z⟩
    rintro O H5 ⟨rfl,rfl⟩;have up:∀{v:V}{q:Rat},bV K H4 v q->bV K (_L.upd H4 l (.lst ([t1,t2]++[c]))) v q:=λ{v q} h=>kr (RD.t tU _ (rH q) h.rd);refine⟨_,Z,l,[t1,t2,c],[topR az sp,topR az sq,cq],Z,aI.of bW,⟨up R1,T1,up R2,T2,up Rc,Tc,trivial⟩,by simp,λi v q e1 e2 hq=>?_⟩;have oz:betR j az (some (ns,sp)) (some (ms,sq))=q:=by
     show mnO (mn _ _) (cornO j ns ms)=q;rw[hc];show mn (mn _ _) cq=q;have h1:=hq _ (show topR az sp∈[topR az sp,topR az sq,cq] by simp);have h2:=hq _ (show topR az sq∈[topR az sp,topR az sq,cq] by simp);have h3:=hq _ (show cq∈[topR az sp,topR az sq,cq] by simp);refine sj ?_ (mI h1 h2) h3
     match i,e2 with |0,e2=>cases e2;exact .inl (sj (.inl rfl) h1 h2).symm |1,e2=>cases e2;exact .inl (sj (.inr rfl) h1 h2).symm |2,e2=>cases e2;exact .inr rfl
    have sU:aD H (_L.upd H4 l (.lst ([t1,t2]++[c]))):=λb o e=>by have h0:H2 l=none:=n3.no;have e2:=s2 b o (s1 b o e);rw[aU (fY e2 h0)];exact t4 b o e
    refine k v _ ?_ sU;rw[oz]
    match i,e1,e2 with |0,e1,e2=>cases e1;cases e2;exact up R1 |1,e1,e2=>cases e1;cases e2;exact up R2 |2,e1,e2=>cases e1;cases e2;exact up Rc
theorem xf(qs:List Rat):cx (qs.map dj)=true:=PH rH qs
theorem aL.DE{H:Hp}{l:Addr}{ys:List V}{y:V}{ds:List ah}{d:ah}{i:Nat}(dl:H l=some (.lst ys))(r:aL K H ys ds)(rd:RD K H y d)(n1:cx ds=true)(n2:ek d=true):aL K (_L.upd H l (.lst (ys.set i y))) (ys.set i y) (ds.set i d):=by have t:hV H (_L.upd H l (.lst (ys.set i y))):=.tW dl;have r':=aL.t t _ n1 r;have OE:=RD.t t _ n2 rd;clear r rd dl t;generalize _L.upd H l (.lst (ys.set i y))=H' at r' OE;induction ds generalizing ys i with |nil=>cases r'.nil_inv;exact dy |cons d0 ds ih=>
 obtain⟨y0,yr,rfl,h1,h2⟩:=r'.cons_inv;have AJ:cx ds=true:=by rw[cx,eK]at n1;exact n1.2
 cases i with |zero=>exact cF OE h2 |succ i=>exact cF h1 (ih AJ h2)
theorem Jr(xs:List V):jX xs (some 1) none=xs.drop 1:=by unfold jX;have e:_H.cj xs.length 0 (some 1)=min 1 xs.length:=_H.O3 _ _ 1;rw[e,_H.O2];cases xs with |nil=>rfl |cons x xs=>
 have e2:min 1 (x::xs).length=1:=by simp
 rw[e2,yX (by simp)]
inductive abg(K:aa)(vs:List V)(H:Hp)(Q:VK):Prop |mk (m:_)(iv:_)(az:_)(rs:_)(r:_)(f:_)(j:_)(t:_)(ds:_)(os:_)(h0:vs=[m,iv,.int az])(h1:RD K H m (gw rs r f j t))(h2:jC rs r f j t)(h3:RD K H iv (.tuple ds))(h4:fL rs.length ds os)(h5:ds.length<=100)(h6:10<=az)(h7:az<=200)(h8:∀l ys H',H l=none->H' l=some (.lst ys)->aL K H' ys ((ownL j az os).map dj)->aD H H'->Q (.ref l) H')
def Dj(K:aa):Sp:=λvs H Q _=>abg K vs H Q
abbrev A5:Stmt:=top 62
theorem A3:aW ["machine","items","rate","between"] ["machine","items","rate"] (aM A5):=bh aF
theorem a0z(F:FA K mg "own_bounds" A5)(B:bB mg)(gN:GT K mg "NOUGHT" [.int 0,.int 1])(Il:aA P w K mg ao "bound_between" 7 (A0 K)):aA P w K mg ao "own_bounds" 8 (Dj K):=by
 obtain⟨aN,jV,m7⟩:=gN;refine F.has A3 (λvs H Q E h=>?_) (λ_ _ _ _ _ _=>jZ λ_ _ _=>rfl) (λf aH A outer s H vs Q E hr h=>?_)
 ·obtain⟨m,iv,az,rs,r,f,j,t,ds,os,rfl,_⟩:=h
  rfl
 ·obtain⟨m,iv,az,rs,r,f,j,t,ds,os,rfl,rm,aG,ri,row,hz,cL,cV,k⟩:=h
  have nd:=A3.nd;have rN:∀H',RD K H' (.ref aN) (dj 0):=λH'=>(uH (m7 H')).rd;refine⟨_,(aB (bJ (dB (wX K Z (pv 1))) (aJ (aP (da (ak (cQ (x:="NOUGHT") Z jV) aw)))) bK) (aB (Ai (i0:=3) nd Z (Or.inl Z) (N:=["one","other","machine","rate"]) (js:=[none,none,some 0,some 2]) Z Z Z (rO K Z false false Z (B.at "zip") (ak (pv 1) (ak (Ao (A1 K rfl) (pv 1) (Aj aE) Ak) aw))) (λ_ _ _ _ _=>(eX K rfl (n:=2) rfl (bZ (bj 0 (show List.Nodup (["one","other","machine","rate"]:List Str) by decide+kernel)) (bZ (bj 1 (show List.Nodup (["one","other","machine","rate"]:List Str) by decide+kernel)) eW)))) (λ_ _ _ _ _=>dS) (λ_ _ _ _ _=>(pf Il hr (ak (pv 2) (ak (pv 0) (ak (pv 1) (ak (pv 3) aw))))))) (aJ (aP (aQ (oW K Z) (aQ (oW K Z) (da (ak (cQ (x:="NOUGHT") Z jV) aw)) (pv 3)) (da (ak (cQ (x:="NOUGHT") Z jV) aw))))))),?_⟩;obtain⟨ia,xs,rfl,hi,iH⟩:=ri.cJ;have lx:=iH.length;have ll:=row.len;refine⟨_,Z,_,.inr (.inl ⟨_,hi,Z⟩),?_⟩;cases hd:xs with
  |nil=>
   subst hd;refine bG ?_;refine⟨ck Z,λl H1 n1=>?_⟩;refine k l [.ref aN] H1 n1.no n1.at' ?_ n1.same;have e:os=[]:=by
    have:os.length=0:=by rw[<-ll,<-lx];rfl
    exact V9.mp this
   rw[e];exact cF (rN H1) dy |cons x0 xr=>
   refine aV ?_;have cI:os≠[]:=by intro e;rw[e]at ll;rw[hd]at lx;simp at ll lx;rw[ll]at lx;cases lx
   have xB:0<xs.length:=by rw[hd];simp
   refine⟨_,Z,_,Z,1,Z,ia,xs,Z,.inr ⟨hi,?_,λtl H1 n1=>?_⟩⟩
   ·rintro⟨h1,_⟩
    have e:_H.cj xs.length 0 (some 1)=min 1 xs.length:=_H.O3 _ _ 1;rw[e]at h1
    lia
   refine⟨ia,tl,Z,⟨_,hi.go n1.same⟩,⟨_,aY.of n1.at'⟩,λD H2 n2=>?_⟩;have et:=n1.at';rw[Jr]at et;have x9:∀(i:Nat)(o:Itm),os[i]? =some o->∀(ns:List Int)(sp:Int),o=some (ns,sp)->eQ rs.length 100 ns/\1<=sp/\sp<=20:=λi o e ns sp e'=>row.ok i ns sp (by rw[e,e']);have lr:=aG.len;refine BM (K:=K) (b1:=false) (b2:=false) (xs:=xs) (ys:=xs.drop 1) (ds:=((List.range (os.length-1)).map (λi=>ownF j az os (i+1))).map dj) _ Z (hi.go n1.same) (aY.of et) n2 (by rw[Ks];simp;lia) (by simp;lia) (xf _) ?_ ?_
   ·intro i x y d H3 Q' ex ey ed s3 hq
    have eU:=n1.same.trans s3;rw[List.getElem?_drop]at ey;obtain⟨d1,e1,r1⟩:=iH.get' i ex;obtain⟨d2,e2,r2⟩:=iH.get' (1+i) ey;obtain⟨o1,yl,i1⟩:=row.get e1;obtain⟨o2,sZ,i2⟩:=row.get e2;have Rx:1+i<os.length:=(dw.mp sZ).1;have dD:d=dj (betR j az o1 o2):=by rw[bR,bR,cy (by simp;lia),yZ]at ed;have:=(dG ed).symm;rw[this];show dj (betR j az (atO os i) (atO os (i+1)))=_;rw[_O.vq yl,_O.vq (show os[i+1]? =some o2 by rw[Nat.add_comm];exact sZ)]
    subst dD;refine⟨_,Z,_,Z,_,Z,_,Z,m,x,y,az,rs,r,f,j,t,d1,d2,o1,o2,rs.length,Z,RD.mono eU _ rm,aG.j1.1,aG.j1.2,RD.mono eU _ r1,RD.mono eU _ r2,i1,i2,x9 _ _ yl,x9 _ _ sZ,au,cL,cV,λv H4 rv s4=>?_⟩;exact hq _ _ s4 rv.rd
   ·intro H3 zs s3 d3 r3
    have lz:=r3.length;simp at lz;refine⟨ck Z,λl1 H4 n4=>?_⟩;refine⟨_,Z,l1,D,_,zs,Z,Z,aI.of n4.at',aI.of (n4.same _ _ d3),wD _ (by simp;lia),λl2 H5 n5=>?_⟩;refine⟨ck Z,λl3 H6 n6=>?_⟩;refine⟨l2,l3,_,_,Z,Z,aI.of (n6.same _ _ n5.at'),aI.of n6.at',wD _ (by simp;lia),λl H7 n7=>?_⟩;have wL:aD H H6:=n1.same.trans (s3.trans (n4.same.trans (n5.same.trans n6.same)));have nl:H l=none:=by cases e:H l with |none=>rfl |some o=>have:=wL _ _ e;rw[n7.no]at this;cases this
    refine k l _ H7 nl n7.at' ?_ (wL.trans n7.same);rw[_O.Pa j az cI,jG,jG];exact((cF (rN H7) dy).append (aL.mono (n4.same.trans (n5.same.trans (n6.same.trans n7.same))) _ r3)).append (cF (rN H7) dy)
inductive abe(K:aa)(vs:List V)(H:Hp)(Q:VK):Prop |mk (v:_)(r:_)(z:_)(h0:vs=[v,.int z])(h1:bV K H v r)(h2:Bd 2000 r)(h3:z.natAbs<2^24)(h4:∀v H',bV K H' v (r+(z:Rat))->aD H H'->Q v H')
def ub(K:aa):Sp:=λvs H Q _=>abe K vs H Q
theorem VB{r:Rat}{z:Int}(m:r+(z:Rat)=Rat.divInt (r.num*(1:Nat)+z*r.den) (r.den*(1:Nat))):r.num+z*r.den=(r+(z:Rat)).num/\(r.den:Int)=(r+(z:Rat)).den:=by
 have c:(r.num+z*r.den).natAbs.Coprime r.den:=(Int.gcd_add_mul_right_left (r.den:Int) r.num z).trans r.reduced;have e:r+(z:Rat)=⟨r.num+z*r.den,r.den,r.den_nz,c⟩:=by rw[m,Rat.mk_eq_divInt,Int.natCast_one,zb,zb]
 rw[e];exact⟨Z,Z⟩
abbrev Et:Stmt:=top 41
theorem MY:aW ["one","more","p","q"] ["one","more"] (aM Et):=bh aF
theorem a0v(F:FA K mg "plus_whole" Et)(B:bB mg):aA P w K mg ao "plus_whole" 4 (ub K):=by
 refine F.has MY (λvs H Q E h=>?_) (λ_ _ _ _ _ _=>dN λ_ _=>rfl) (λf aH A outer s H vs Q E hr h=>?_)
 ·obtain⟨v,r,z,rfl,_⟩:=h
  rfl
 ·obtain⟨v,r,z,rfl,⟨p,rfl,hp⟩,br,hz,k⟩:=h
  have nd:=MY.nd;refine⟨_,(aB (eM (pv 0) (eX K Z (n:=2) Z (bZ (bj 2 nd) (bZ (bj 3 nd) eW)))) (aJ (aP (gJ (ak (aQ dI (pv 2) (aQ cD (pv 1) (pv 3))) (ak (pv 3) aw)))))),?_⟩;refine⟨_,Z,_,_,Z,hp,Z,_,_,Z,_,_,Z,Z,?_⟩;have bz:Bd 24 (z:Rat):=⟨hz,by show 1<2^24;decide⟩;obtain⟨e1,e2⟩:=VB (add_div r z);refine⟨_,Z,_,Z,_,Z,_,_,Z,Z,nK (bz.mono ay).wn.bits br.wd.bits,_,_,Z,Z,_,Z,(by show 2<=sizeLine;decide),λt H' n=>k _ _ ⟨t,Z,aY.of ?_⟩ n.same⟩;rw[<-e1,<-e2];exact n.at'
theorem uO{os:List Itm}{i:Nat}{ns:List Int}{sp:Int}(h:os[i]? =some (some (ns,sp))):leadF os i=some (aO ns):=by unfold leadF;rw[_O.vq h];rfl
theorem Hf{os:List Itm}{i:Nat}(h:os[i]? =some none):leadF os i=none:=by unfold leadF;rw[_O.vq h];rfl
theorem uP{os:List Itm}(h:OkIs os){i m:Nat}(e:leadF os i=some m):m<=100:=by unfold leadF at e;cases ho:atO os i with |none=>rw[ho]at e;cases e |some q=>rw[ho]at e;cases e;obtain⟨a,_,_⟩:=h i q.1 q.2 ho;exact oo λz hz=>by have:=a z hz;lia
theorem tX{r:Int}{m:Nat}(h1:1<=r)(h2:r<=50)(h3:m<=100):(2*r*(m:Int)).natAbs<2^24:=by
 have iJ:(2:Nat)^24=16777216:=by decide
 have:=mE (a:=2*r) (b:=(m:Int)) (m:=100) (n:=100) au au;rw[iJ];lia
inductive aaW(K:aa)(vs:List V)(H:Hp)(Q:VK):Prop |mk (m:_)(iv:_)(l:_)(ys:_)(rs:_)(r:_)(f:_)(j:_)(t:_)(ds:_)(os:_)(g:_)(h0:vs=[m,iv,.ref l])(h1:RD K H m (gw rs r f j t))(h2:jC rs r f j t)(h3:RD K H iv (.tuple ds))(h4:fL rs.length ds os)(h5:ds.length<=30)(h6:H l=some (.lst ys))(h7:aL K H ys ((lst os.length g).map dj))(h8:(∀i,Bd 64 (g i)))(h9:∀l ys H',H l=none->H' l=some (.lst ys)->aL K H' ys ((lst os.length (Rz g (leadF os) (2*r))).map dj)->aD H H'->Q (.ref l) H')
def LN(K:aa):Sp:=λvs H Q _=>aaW K vs H Q
abbrev E2:Stmt:=top 65
theorem MK:aW ["machine","items","squares","rise","kept","i","item"] ["machine","items","squares"] (aM E2):=bh aF
theorem a0k(F:FA K mg "kept_by_rise" E2)(B:bB mg)(jv:aA P w K mg ao "is_line" 1 (pF K))(jT:aA P w K mg ao "lead_of" 1 (nU K))(mQ:aA P w K mg ao "plus_whole" 4 (ub K))(mT:aA P w K mg ao "least" 2 (kN K)):aA P w K mg ao "kept_by_rise" 5 (LN K):=by
 refine F.has MK (λvs H Q E h=>?_) (λ_ _ _ _ _ _=>jZ λ_ _ _=>rfl) (λf aH A outer s H vs Q E hr h=>?_)
 · obtain⟨m,iv,l,ys,rs,r,f,j,t,ds,os,g,rfl,_⟩:=h
   rfl
 · obtain⟨m,iv,l,ys,rs,r,f,j,t,ds,os,g,rfl,rm,aG,ri,row,hz,dl,wU,bg,k⟩:=h
   have nd:=MK.nd;refine⟨_,(aB (pS 3 nd (px K (pv 0) aE)) (aB (pS 4 nd (cS (x:="list") (AU K Z) Z (B.at "list") Kk (ak (pv 2) aw))) (aB (jN gT Z (Z2 K Z false Z (B.at "enumerate") (ak (pv 1) aw)) (eX K rfl (n:=2) rfl (bZ (bj 5 nd) (bZ (bj 6 nd) eW))) (aJ (bJ (cH (pf jv hr (ak (pv 6) aw))) (aJ (eM (pf mT hr (ak (da (ak (px K (pv 4) (aQ dI (pv 5) aE)) (ak (pf mQ hr (ak (px K (pv 4) (pv 5)) (ak (aQ cD (aQ cD aE (pv 3)) (pf jT hr (ak (pv 6) aw))) aw))) aw))) aw)) (rP (pv 4) (aQ dI (pv 5) aE) set_list))) bK))) (aJ (aP (pv 4)))))),?_⟩;obtain⟨ma,mb,rfl,gQ,j6⟩:=mF rm;obtain⟨ia,xs,rfl,hi,iH⟩:=ri.cJ;have lx:=iH.length;have ll:=row.len;have lr:=aG.len;have hL:∀i m,leadF os i=some m->(2*r*(m:Int)).natAbs<2^24:=λi m e=>tX aG.r1.1 aG.r1.2 (uP row.kY e);have RB:∀i,i<=30->Bd 900 (Rz g (leadF os) (2*r) i):=λi hi=>(C0 bg hL i).mono bC;refine⟨_,Z,.inr ⟨ma,_,1,.int r,Z,Z,gQ,Z,?_⟩⟩;refine⟨_,Z,l,ys,Z,.inl (aI.of dl),λD H1 n1=>?_⟩;refine⟨_,Z,ia,Z,⟨_,hi.go n1.same⟩,a77 (K:=K) (b:=false) (a:=ia) (xs:=xs) (λi O H2=>aD H H2/\∃zs v1 v2,H2 D=some (.lst zs)/\aL K H2 zs ((lst os.length λk=>if k<=i then Rz g (leadF os) (2*r) k else g k).map dj)/\O=[some (.ref ma),some (.ref ia),some (.ref l),some (.int r),some (.ref D),v1,v2]) ?_ (λi O H2 _ h=>hi.go h.1) ?_ ?_⟩
   · refine⟨n1.same,ys,none,none,n1.at',?_,Z⟩
     rw[om (g:=λk=>if k<=0 then Rz g (leadF os) (2*r) k else g k) (g':=g)]
     ·exact aL.mono n1.same _ wU
     · intro k _
       show g k=if k<=0 then Rz g (leadF os) (2*r) k else g k;split
       · next h => have:k=0:=by omega
                   subst this;rfl
       ·rfl
   · rintro i y O H2 hy ⟨s2,zs,v1,v2,dz,rz,rfl⟩ T H3 n3
     have Rr:i<xs.length:=(dw.mp hy).1;obtain⟨d,ed,rd⟩:=iH.get' i hy;obtain⟨o,eo,it⟩:=row.get ed;have s3:=s2.trans n3.same;have lz:=rz.length;rw[bM,kz]at lz;refine⟨T,_,Z,aY.of n3.at',Z,_,_,Z,_,_,Z,Z,?_⟩;refine⟨_,Z,y,d,o,Z,RD.mono s3 _ rd,it,_,Z,?_⟩;cases o with
     |none=>
       refine aV ?_;refine⟨s3,zs,_,_,n3.same _ _ dz,?_,Z⟩;rw[om (g:=λk=>if k<=i+1 then Rz g (leadF os) (2*r) k else g k) (g':=λk=>if k<=i then Rz g (leadF os) (2*r) k else g k)]
       ·exact aL.mono n3.same _ rz
       · intro k _
         show(if k<=i then Rz g (leadF os) (2*r) k else g k)=if k<=i+1 then Rz g (leadF os) (2*r) k else g k;by_cases h1:k<=i
         ·rw[bc h1,bc bC]
         · rw[bf h1]
           by_cases h2:k=i+1
           ·subst h2;rw[bc (bI _),Um (Hf eo)]
           ·rw[bf bC] |some q=>
       obtain⟨ns,sp⟩:=q;refine bG ?_;have dD:=mK it;subst dD;obtain⟨du,_,_⟩:=row.ok i ns sp eo;have Jo:=n3.same _ _ dz;have FI:=aL.mono n3.same _ rz;obtain⟨z1,qk⟩:∃z,zs[i+1]? =some z:=⟨_,cy (show i+1<zs.length by omega)⟩;obtain⟨z0,qm⟩:∃z,zs[i]? =some z:=⟨_,cy (show i<zs.length by omega)⟩;have R1:bV K H3 z1 (g (i+1)):=by
        obtain⟨d1,e1,r1⟩:=FI.get' (i+1) qk;rw[bR,kA _ (show i+1<=os.length by omega)]at e1;cases e1;have:¬(i+1<=i):=by omega
        simp only[bf this]at r1;exact kr r1
       have R0:bV K H3 z0 (Rz g (leadF os) (2*r) i):=by obtain⟨d1,e1,r1⟩:=FI.get' i qm;rw[bR,kA _ (show i<=os.length by omega)]at e1;cases e1;simp only[bc (bI i)]at r1;exact kr r1
       have vi:((i:Int)+1).toNat=i+1:=by omega
       have yB:fb zs ((i:Int)+1)=some z1:=cE bC (by rw[vi];exact qk);have yC:fb zs (i:Int)=some z0:=cE bC (by simpa using qm);refine⟨_,Z,_,Z,_,_,Z,Z,.inl ⟨D,_,_,_,Z,Z,aI.of Jo,yB,?_⟩⟩;refine⟨_,Z,_,Z,.inl ⟨D,_,_,_,Z,Z,aI.of Jo,yC,?_⟩⟩;refine⟨_,Z,_,_,Z,Z,.of_left (dv ay ay),?_⟩;refine⟨_,Z,y,ns,sp,Z,RD.mono s3 _ rd,du.ne,by rw[du.len];omega,λH4 s4=>?_⟩;have uk:=aG.r1;refine⟨_,_,Z,Z,.of_left (dv bC bC),?_⟩;have us:=hL i _ (uO eo);refine⟨z0,_,_,Z,R0.go s4,(RB i bC).mono ay,us,λu H5 ru s5=>?_⟩;refine⟨ck Z,λl2 H6 n6=>?_⟩;have gX:=s4.trans (s5.trans n6.same);have Up:=R1.go gX;have Ru:=ru.go n6.same;have B1:Bd 2000 (g (i+1)):=(bg _).mono ay;have B2:Bd 2000 (Rz g (leadF os) (2*r) i+((2*r*(aO ns:Int):Int):Rat)):=(vx (RB i bC) us).mono ay;refine⟨l2,[z1,u],[_,_],Z,aI.of n6.at',⟨Up,B1,Ru,B2,trivial⟩,by simp,λc v q e1 e2 hq=>?_⟩;have oz:mn (g (i+1)) (Rz g (leadF os) (2*r) i+((2*r*(aO ns:Int):Int):Rat))=q:=by
        refine sj ?_ (hq _ (by simp)) (hq _ (by simp))
        match c,e2 with |0,e2=>cases e2;exact .inl rfl |1,e2=>cases e2;exact .inr rfl
       have Rv:bV K H6 v q:=by match c,e1,e2 with |0,e1,e2=>cases e1;cases e2;exact Up |1,e1,e2=>cases e1;cases e2;exact Ru
       have qr:=gX _ _ Jo;have ix1:ir zs.length ((i:Int)+1)=some (i+1):=by unfold ir;rw[bc bC,bc bC,vi]
       refine⟨_,Z,_,Z,_,_,Z,Z,D,zs,_,_,Z,Z,qr,ix1,?_⟩;refine⟨λb o e=>?_,_,_,_,bW,?_,Z⟩
       ·rw[aU (fY e n1.no)];exact gX b o (s3 b o e)
       · have h:=aL.DE (i:=i+1) qr (aL.mono gX _ FI) Rv.rd (xf _) (rH _)
         rw[<-Co]at h;have e:(lst os.length λk=>if k<=i then Rz g (leadF os) (2*r) k else g k).set (i+1) q=lst os.length λk=>if k<=i+1 then Rz g (leadF os) (2*r) k else g k:=by
          rw[<-GY (g:=λk=>if k<=i then Rz g (leadF os) (2*r) k else g k) (g':=λk=>if k<=i+1 then Rz g (leadF os) (2*r) k else g k) (i:=i+1)]
          · simp only[bc (bI (i+1))]
            rw[Uo (uO eo),oz]
          · intro k _ hk
            show(if k<=i+1 then _ else _)=if k<=i then _ else _;by_cases h1:k<=i
            ·rw[bc h1,bc bC]
            ·rw[bf h1,bf bC]
         rw[e]at h;exact h
   · rintro O H2 ⟨s2,zs,v1,v2,dz,rz,rfl⟩
     rw[om (g:=λk=>if k<=xs.length then Rz g (leadF os) (2*r) k else g k) (g':=Rz g (leadF os) (2*r)) (λk hk=>by show _=if k<=xs.length then _ else _;rw[bc bC])]at rz;exact⟨_,Z,k D zs H2 n1.no dz rz s2⟩
inductive abK(K:aa)(vs:List V)(H:Hp)(Q:VK):Prop |mk (m:_)(iv:_)(l:_)(ys:_)(rs:_)(r:_)(f:_)(j:_)(t:_)(ds:_)(os:_)(g:_)(h0:vs=[m,iv,.ref l])(h1:RD K H m (gw rs r f j t))(h2:jC rs r f j t)(h3:RD K H iv (.tuple ds))(h4:fL rs.length ds os)(h5:ds.length<=30)(h6:H l=some (.lst ys))(h7:aL K H ys ((lst os.length g).map dj))(h8:(∀i,i<=os.length->Bd 900 (g i)))(h9:∀l ys H',H l=none->H' l=some (.lst ys)->aL K H' ys ((lst os.length (fl os.length (leadF os) (2*f) g)).map dj)->aD H H'->Q (.ref l) H')
def M4(K:aa):Sp:=λvs H Q _=>abK K vs H Q
abbrev A6:Stmt:=top 66
theorem A4:aW ["machine","items","squares","fall","kept","i"] ["machine","items","squares"] (aM A6):=bh aF
theorem a1f(F:FA K mg "kept_by_fall" A6)(B:bB mg)(jv:aA P w K mg ao "is_line" 1 (pF K))(jT:aA P w K mg ao "lead_of" 1 (nU K))(mQ:aA P w K mg ao "plus_whole" 4 (ub K))(mT:aA P w K mg ao "least" 2 (kN K)):aA P w K mg ao "kept_by_fall" 5 (M4 K):=by
 refine F.has A4 (λvs H Q E h=>?_) (λ_ _ _ _ _ _=>jZ λ_ _ _=>rfl) (λfa aH A outer s H vs Q E hr h=>?_)
 · obtain⟨m,iv,l,ys,rs,r,f,j,t,ds,os,g,rfl,_⟩:=h
   rfl
 · obtain⟨m,iv,l,ys,rs,r,f,j,t,ds,os,g,rfl,rm,aG,ri,row,hz,dl,wU,bg,k⟩:=h
   have nd:=A4.nd;refine⟨_,(aB (pS 3 nd (px K (pv 0) aE)) (aB (pS 4 nd (cS (x:="list") (AU K Z) Z (B.at "list") Kk (ak (pv 2) aw))) (aB (jN gT Z (OX Z (B.at "reversed") (ak (cS (x:="range") TM rfl (B.at "range") PyProof.Rows.boot_range (ak (fH K B (ak (pv 1) aw)) aw)) aw)) (bj 5 nd) (aJ (bJ (cH (pf jv hr (ak (px K (pv 1) (pv 5)) aw))) (aJ (eM (pf mT hr (ak (da (ak (px K (pv 4) (pv 5)) (ak (pf mQ hr (ak (px K (pv 4) (aQ dI (pv 5) aE)) (ak (aQ cD (aQ cD aE (pv 3)) (pf jT hr (ak (px K (pv 1) (pv 5)) aw))) aw))) aw))) aw)) (rP (pv 4) (pv 5) set_list))) bK))) (aJ (aP (pv 4)))))),?_⟩;obtain⟨ma,mb,rfl,gQ,j6⟩:=mF rm;obtain⟨ia,xs,rfl,hi,iH⟩:=ri.cJ;have lx:=iH.length;have ll:=row.len;have lr:=aG.len;have hL:∀i m,leadF os i=some m->(2*f*(m:Int)).natAbs<2^24:=λi m e=>tX aG.f1.1 aG.f1.2 (uP row.kY e);have FB:∀i,i<=os.length->Bd 1700 (fl os.length (leadF os) (2*f) g i):=λi hi=>(IZ bg hL i hi).mono au;refine⟨_,Z,.inr ⟨ma,_,2,.int f,Z,Z,gQ,Z,?_⟩⟩;refine⟨_,Z,l,ys,Z,.inl (aI.of dl),λD H1 n1=>?_⟩;refine⟨_,Z,ia,_,Z,.inr (hi.go n1.same),_,Z,λpr H2 n2=>?_⟩;refine⟨pr,_,Z,n2.at',au,au,?_⟩;have eN:((xs.length:Int)).toNat=os.length:=by lia
   rw[eN];refine Sk (Pv:=λi O H5=>aD H H5/\∃zs v1,H5 D=some (.lst zs)/\aL K H5 zs ((lst os.length λk=>if os.length<=k+i then fl os.length (leadF os) (2*f) g k else g k).map dj)/\O=[some (.ref ma),some (.ref ia),some (.ref l),some (.int f),some (.ref D),v1]) ?_ ?_ ?_
   · refine⟨n1.same.trans n2.same,ys,none,n2.same _ _ n1.at',?_,Z⟩
     rw[om (g:=λk=>if os.length<=k+0 then fl os.length (leadF os) (2*f) g k else g k) (g':=g)]
     ·exact aL.mono (n1.same.trans n2.same) _ wU
     · intro k hk
       show g k=if os.length<=k+0 then _ else g k;split
       · next h => have:k=os.length:=by lia
                   subst this;exact yh.symm
       ·rfl
   · rintro i O H3 Ig ⟨s3,zs,v1,dz,rz,rfl⟩
     obtain⟨x,hx⟩:∃x,xs[os.length-1-i]? =some x:=⟨_,cy (show os.length-1-i<xs.length by lia)⟩;generalize hc:os.length-1-i=c at hx;have oG:c<os.length:=by lia
     have eI:((os.length:Int)-1-(i:Int))=(c:Int):=by lia
     rw[eI];obtain⟨d,ed,rd⟩:=iH.get' c hx;obtain⟨o,eo,it⟩:=row.get ed;have lz:=rz.length;rw[bM,kz]at lz;have yA:fb xs (c:Int)=some x:=cE au (by simpa using hx);refine⟨_,Z,_,Z,.inr ⟨ia,_,_,_,Z,Z,hi.go s3,yA,?_⟩⟩;refine⟨x,d,o,Z,RD.mono s3 _ rd,it,_,Z,?_⟩;cases o with
     |none=>
       refine aV ?_;refine⟨s3,zs,_,dz,?_,Z⟩;rw[om (g:=λk=>if os.length<=k+(i+1)then fl os.length (leadF os) (2*f) g k else g k) (g':=λk=>if os.length<=k+i then fl os.length (leadF os) (2*f) g k else g k)]
       ·exact rz
       · intro k _
         show(if os.length<=k+i then _ else g k)=if os.length<=k+(i+1)then _ else g k;by_cases h1:os.length<=k+i
         ·rw[bc h1,bc au]
         · rw[bf h1]
           by_cases h2:k=c
           ·subst h2;rw[bc au,yg oG (Hf eo)]
           ·rw[bf au] |some q=>
       obtain⟨ns,sp⟩:=q;refine bG ?_;have dD:=mK it;subst dD;obtain⟨du,_,_⟩:=row.ok c ns sp eo;obtain⟨z1,qk⟩:∃z,zs[c+1]? =some z:=⟨_,cy (show c+1<zs.length by lia)⟩;obtain⟨z0,qm⟩:∃z,zs[c]? =some z:=⟨_,cy (show c<zs.length by lia)⟩;have R1:bV K H3 z1 (fl os.length (leadF os) (2*f) g (c+1)):=by
        obtain⟨d1,e1,r1⟩:=rz.get' (c+1) qk;rw[bR,kA _ (show c+1<=os.length by lia)]at e1;cases e1;have:os.length<=c+1+i:=by lia
        simp only[bc this]at r1;exact kr r1
       have R0:bV K H3 z0 (g c):=by
        obtain⟨d1,e1,r1⟩:=rz.get' c qm;rw[bR,kA _ (show c<=os.length by lia)]at e1;cases e1;have:¬os.length<=c+i:=by lia
        simp only[bf this]at r1;exact kr r1
       have vi:((c:Int)+1).toNat=c+1:=by lia
       have yB:fb zs ((c:Int)+1)=some z1:=cE au (by rw[vi];exact qk);have yC:fb zs (c:Int)=some z0:=cE au (by simpa using qm);refine⟨_,Z,_,Z,.inl ⟨D,_,_,_,Z,Z,aI.of dz,yC,?_⟩⟩;refine⟨_,Z,_,Z,_,_,Z,Z,.inl ⟨D,_,_,_,Z,Z,aI.of dz,yB,?_⟩⟩;refine⟨_,Z,_,_,Z,Z,.of_left (dv ay ay),?_⟩;refine⟨_,Z,_,Z,.inr ⟨ia,_,_,_,Z,Z,hi.go s3,yA,?_⟩⟩;refine⟨x,ns,sp,Z,RD.mono s3 _ rd,du.ne,by rw[du.len];lia,λH4 s4=>?_⟩;have qj:=aG.f1;refine⟨_,_,Z,Z,.of_left (dv au au),?_⟩;have us:=hL c _ (uO eo);refine⟨z1,_,_,Z,R1.go s4,(FB (c+1) au).mono ay,us,λu H5 ru s5=>?_⟩;refine⟨ck Z,λl2 H6 n6=>?_⟩;have gX:=s4.trans (s5.trans n6.same);have yH:=R0.go gX;have Ru:=ru.go n6.same;have B1:Bd 2000 (g c):=(bg _ au).mono ay;have B2:Bd 2000 (fl os.length (leadF os) (2*f) g (c+1)+((2*f*(aO ns:Int):Int):Rat)):=(vx (FB (c+1) au) us).mono ay;refine⟨l2,[z0,u],[_,_],Z,aI.of n6.at',⟨yH,B1,Ru,B2,trivial⟩,by simp,λc' v q e1 e2 hq=>?_⟩;have oz:mn (g c) (fl os.length (leadF os) (2*f) g (c+1)+((2*f*(aO ns:Int):Int):Rat))=q:=by
        refine sj ?_ (hq _ (by simp)) (hq _ (by simp))
        match c',e2 with |0,e2=>cases e2;exact .inl rfl |1,e2=>cases e2;exact .inr rfl
       have Rv:bV K H6 v q:=by match c',e1,e2 with |0,e1,e2=>cases e1;cases e2;exact yH |1,e1,e2=>cases e1;cases e2;exact Ru
       have qr:=gX _ _ dz;have Hk:ir zs.length (c:Int)=some c:=by unfold ir;rw[bc au,bc au];simp
       refine⟨_,Z,_,Z,D,zs,_,_,Z,Z,qr,Hk,?_⟩;refine⟨λb o e=>?_,_,_,bW,?_,Z⟩
       ·rw[aU (fY e n1.no)];exact gX b o (s3 b o e)
       · have h:=aL.DE (i:=c) qr (aL.mono gX _ rz) Rv.rd (xf _) (rH _)
         rw[<-Co]at h;have e:(lst os.length λk=>if os.length<=k+i then fl os.length (leadF os) (2*f) g k else g k).set c q=lst os.length λk=>if os.length<=k+(i+1)then fl os.length (leadF os) (2*f) g k else g k:=by
          rw[<-GY (g:=λk=>if os.length<=k+i then fl os.length (leadF os) (2*f) g k else g k) (g':=λk=>if os.length<=k+(i+1)then fl os.length (leadF os) (2*f) g k else g k) (i:=c)]
          · have:os.length<=c+(i+1):=by lia
            simp only[bc this];rw[yi oG (uO eo),oz]
          · intro k _ hk
            show(if os.length<=k+(i+1)then _ else g k)=if os.length<=k+i then _ else g k;by_cases h1:os.length<=k+i
            ·rw[bc h1,bc au]
            ·rw[bf h1,bf au]
         rw[e]at h;exact h
   · rintro O H3 ⟨s3,zs,v1,dz,rz,rfl⟩
     rw[om (g:=λk=>if os.length<=k+os.length then fl os.length (leadF os) (2*f) g k else g k) (g':=fl os.length (leadF os) (2*f) g) (λk hk=>by show _=if os.length<=k+os.length then _ else _;rw[bc au])]at rz;exact⟨_,Z,k D zs H3 n1.no dz rz s3⟩
def An(r f j az:Int)(os:List Itm):Nat->Rat:=rM os.length (ownF j az os) (leadF os) (2*r) (2*f)
def kS(r f j az:Int)(os:List Itm):List Rat:=lst os.length (An r f j az os)
inductive abb(K:aa)(vs:List V)(H:Hp)(Q:VK):Prop |mk (m:_)(iv:_)(az:_)(rs:_)(r:_)(f:_)(j:_)(t:_)(ds:_)(os:_)(h0:vs=[m,iv,.int az])(h1:RD K H m (gw rs r f j t))(h2:jC rs r f j t)(h3:RD K H iv (.tuple ds))(h4:fL rs.length ds os)(h5:ds.length<=30)(h6:10<=az)(h7:az<=200)(h8:∀l ys H',H l=none->H' l=some (.lst ys)->aL K H' ys ((kS r f j az os).map dj)->aD H H'->Q (.ref l) H')
def zR(K:aa):Sp:=λvs H Q _=>abb K vs H Q
abbrev Er:Stmt:=top 64
theorem MW:aW ["machine","items","rate","risen"] ["machine","items","rate"] (aM Er):=bh aF
theorem a0w(F:FA K mg "plan_of" Er)(B:bB mg)(HQ:aA P w K mg ao "own_bounds" 8 (Dj K))(a52:aA P w K mg ao "kept_by_rise" 5 (LN K))(HY:aA P w K mg ao "kept_by_fall" 5 (M4 K)):aA P w K mg ao "plan_of" 9 (zR K):=by
 refine F.has MW (λvs H Q E h=>?_) (λ_ _ _ _ _ _=>jZ λ_ _ _=>rfl) (λfa aH A outer s H vs Q E hr h=>?_)
 ·obtain⟨m,iv,az,rs,r,f,j,t,ds,os,rfl,_⟩:=h
  rfl
 ·obtain⟨m,iv,az,rs,r,f,j,t,ds,os,rfl,rm,aG,ri,row,hz,cL,cV,k⟩:=h
  have nd:=MW.nd;refine⟨_,(aB (pS 3 nd (pf a52 hr (ak (pv 0) (ak (pv 1) (ak (pf HQ hr (ak (pv 0) (ak (pv 1) (ak (pv 2) aw)))) aw))))) (aJ (aP (pf HY hr (ak (pv 0) (ak (pv 1) (ak (pv 3) aw))))))),?_⟩;have ll:=row.len;have hB:=_O.Av aG.j1.1 aG.j1.2 cL cV row.kY;have hL:∀i m,leadF os i=some m->(2*r*(m:Int)).natAbs<2^24:=λi m e=>tX aG.r1.1 aG.r1.2 (uP row.kY e);refine⟨_,Z,_,Z,_,Z,_,Z,_,Z,m,iv,az,rs,r,f,j,t,ds,os,Z,rm,aG,ri,row,bC,cL,cV,λl1 y1 H1 nl1 d1 r1 s1=>?_⟩;refine⟨m,iv,l1,y1,rs,r,f,j,t,ds,os,ownF j az os,Z,RD.mono s1 _ rm,aG,RD.mono s1 _ ri,row,hz,d1,r1,hB,λl2 y2 H2 GF d2 r2 s2=>?_⟩;have ij:=s1.trans s2;refine⟨_,Z,_,Z,_,Z,m,iv,l2,y2,rs,r,f,j,t,ds,os,_,Z,RD.mono ij _ rm,aG,RD.mono ij _ ri,row,hz,d2,r2,λi hi=>(C0 hB hL i).mono bC,λl3 y3 H3 PM d3 r3 s3=>?_⟩;have nl:H l3=none:=by cases e:H l3 with |none=>rfl |some o=>have:=ij _ _ e;rw[PM]at this;cases this
  exact k l3 y3 H3 nl d3 r3 (ij.trans s3)
theorem mn3{x y z q:Rat}(h:q=x\/q=y\/q=z)(h1:q<=x)(h2:q<=y)(h3:q<=z):mn (mn x y) z=q:=by
 refine Kd ?_ (mI (mI h1 h2) h3);rcases h with h|h|h
 ·rw[h];exact eH (gu _ _) (gu _ _)
 ·rw[h];exact eH (gu _ _) (lj _ _)
 ·rw[h];exact lj _ _
theorem Qz{n:Nat}{ns:List Int}(h:eQ n 100 ns):aO ns<=100:=by have:=h.lead;lia
open _W
def fG(pl:List Int):ah:=.tuple (pl.map PyData.int)
theorem mj(pl:List Int):ek (fG pl)=true:=by rw[fG,ek];exact og pl
theorem YW{H:Hp}{v:V}{pl:List Int}(h:RD K H v (fG pl)):∃a,v= .ref a/\aY K H a (pl.map V.int):=by obtain⟨a,xs,rfl,h1,h2⟩:=h.cJ;rw[h2.gP]at h1;exact⟨a,Z,h1⟩
theorem OV{H:Hp}{a:Addr}{pl:List Int}(h:aY K H a (pl.map V.int)):RD K H (.ref a) (fG pl):=fR h (wR pl)
def iy(pl:List Int):Itm->List Int |none=>pl |some (ns,_)=>jc pl ns
inductive abd(K:aa)(vs:List V)(H:Hp)(Q:VK):Prop |mk (p:_)(m:_)(rs:_)(r:_)(f:_)(j:_)(t:_)(h0:vs=[.ref p,m])(h1:fu H p)(h2:RD K H m (gw rs r f j t))(h3:jC rs r f j t)(h4:∀v pl H',RD K H' v (fG pl)->fQ rs pl->bP p H H'->Q v H')
def LR(K:aa):Sp:=λvs H Q _=>abd K vs H Q
abbrev Es:Stmt:=top 111
theorem MX:aW ["_law_bag_here","_law_machine_here"] ["_law_bag_here","_law_machine_here"] (aM Es):=bh aF
theorem a0x(F:FA K mg "_law_place" Es)(B:bB mg)(dM:aA P w K mg ao "_law_take" 1 m9):aA P w K mg ao "_law_place" 2 (LR K):=by
 refine F.has MX (λvs H Q E h=>?_) (λ_ _ _ _ _ _=>dN λ_ _=>rfl) (λf aH A outer s H vs Q E hr h=>?_)
 ·obtain⟨p,m,rs,r,f,j,t,rfl,_⟩:=h
  rfl
 ·obtain⟨p,m,rs,r,f,j,t,rfl,bg,rm,uB,k⟩:=h
  have nd:=MX.nd;refine⟨_,(aJ (aP (cS (x:="tuple") (kl K Z) Z (B.at "tuple") iU (ak (eY (N:=["_law_rail","_law_bag_here"]) (js:=[none,some 0]) rfl rfl rfl (kv K rfl (px K (pv 1) aE)) (λ_ _ _ _ _=>(bj 0 (kx ay))) (λ_ _ _ _ _=>dS) (λ_ _ _ _ _=>(pf dM hr (ak (pv 1) (ak (aQ dI (pv 0) aE) aw))))) aw)))),?_⟩;obtain⟨ma,mb,rfl,gQ,j6⟩:=mF rm;have lr:=uB.len;refine⟨_,Z,.inr ⟨ma,_,0,.ref mb,Z,Z,gQ,cE (dY 0) Z,mb,Z,⟨_,j6⟩,λD H1 n1=>?_⟩⟩;refine Jt (K:=K) (J:=yK K mb) (p:=p) (H:=H) rs.length _ n1 bg au (λi=>.int (rs.getD i 0)) (λi H2 hi b2=>?_) (λH2 b2=>?_) (λi d=>∃z r,d= .int z/\rs[i]? =some r/\0<=z/\z<=r) ?_ ?_
  ·have xM:=j6.t (bP.t bg b2)
   have e:(rs.map V.int)[i]? =some (.int (rs.getD i 0)):=by rw[bR,List.getD_eq_getElem?_getD,cy hi];rfl
   exact⟨⟨_,_,xM,e⟩,λy H3 ⟨e3,y3⟩=>⟨e3,by have:=y3 _ xM;rw[e]at this;exact(dG this).symm⟩⟩
  ·exact⟨_,j6.t (bP.t bg b2),by rw[bM];exact bI _⟩
  ·intro i H2 Q' hi b2 hq
   have er:rs[i]? =some (rs.getD i 0):=by rw[List.getD_eq_getElem?_getD,cy hi];rfl
   obtain⟨r0,r1⟩:=uB.rl _ (fc er);refine⟨_,Z,_,Z,_,_,Z,Z,p,_,Z,b2.bO,au,au,λz H3 z0 z1 b3=>?_⟩;exact hq _ _ _ ⟨z,_,Z,er,z0,au⟩ Z (fE z) b3
  ·intro H2 ys ds b2 d2 r2 l2 nl pd
   have qe:∃pl:List Int,ds=pl.map PyData.int/\fQ rs pl:=by
    have key:∀(ds:List ah),(∀d∈ds,∃z:Int,d= .int z)->∃pl:List Int,ds=pl.map PyData.int:=by intro ds;induction ds with |nil=>exact λ_=>⟨[],Z⟩ |cons d ds ih=>intro h;obtain⟨z,rfl⟩:=h d (.head _);obtain⟨pl,rfl⟩:=ih λx hx=>h x (.tail _ hx);exact⟨z::pl,Z⟩
    obtain⟨pl,rfl⟩:=key ds λd hd=>by obtain⟨i,hi⟩:=p9.mp hd;obtain⟨z,_,e,_⟩:=pd i d hi;exact⟨z,e⟩
    refine⟨pl,Z,by simpa using l2,λi x r e1 e2=>?_⟩;obtain⟨z,r',e,er,h0,h1⟩:=pd i (.int x) (by rw[bR,e1];rfl);cases e;rw[e2]at er;cases er;exact⟨h0,h1⟩
   obtain⟨pl,rfl,on⟩:=qe;refine⟨D,_,Z,.inl ⟨aI.of d2,λt H3 n3=>?_⟩⟩;have et:=n3.at';rw[r2.gP]at et;exact k (.ref t) pl H3 (OV (aY.of et)) on (b2.trans (.eg b2.bO n3.same))
def cU(z:Str):Prop:=∀c∈z.cps.toList,c<0x110000
theorem cU.app{a b:Str}(ha:cU a)(hb:cU b):cU (a++b):=λc hc=>by rw[qI,nO,ki]at hc;exact hc.elim (ha c) (hb c)
theorem cU.joined{sep:Str}(hs:cU sep):∀l:List Str,(∀a∈l,cU a)->cU (PySem.Str.join sep l) |[],_=>λc hc=>by simp[PySem.Str.join,PySem.Str.empty]at hc |[x],h=>h x (.head _) |x::y::r,h=>((h x (.head _)).app hs).app (cU.joined hs (y::r) λa ha=>h a (.tail _ ha))
theorem cU.join{sep:Str}{l:List Str}(hs:cU sep)(h:∀a∈l,cU a):cU (Txt.join sep l):=by show cU (Builtin.Str.glued sep l);rw[qH];exact cU.joined hs l h
theorem ZN{n:Nat}{z:Str}(h:cU z):dh n (.str z):=⟨by show PyData.strOk z=true;unfold PyData.strOk;rw[KI];exact λc hc=>cf (h c (by simpa using hc)),fC _⟩
theorem Pp{n:Nat}{z:Str}(h:dh n (.str z)):cU z:=λc hc=>by have q:PyData.strOk z=true:=h.lay;unfold PyData.strOk at q;rw[KI]at q;exact kg (q c (by simpa using hc))
theorem iY{z:Str}(h:z.cps.all (·<0x110000)=true):cU z:=Pp (n:=0) ⟨h,fC _⟩
theorem Lm:∀(ds:List ah),(∀d∈ds,∃z:Str,d= .str z/\z.length=1/\cU z/\z.cps.toList.all (λc=>decide (97<=c)&&decide (c<=122))=true)->∃zs:List Str,ds=zs.map PyData.str/\∀z∈zs,z.length=1/\cU z/\z.cps.toList.all (λc=>decide (97<=c)&&decide (c<=122))=true |[],_=>⟨[],Z,λ_ h=>nomatch h⟩ |d::ds,h=>by obtain⟨z,rfl,e⟩:=h d (.head _);obtain⟨zs,rfl,q⟩:=Lm ds λx hx=>h x (.tail _ hx);exact⟨z::zs,Z,λy hy=>by
 rcases cg.mp hy with rfl|hy
 ·exact e
 ·exact q y hy⟩
theorem aag:cU iL:=iY aF
def AO(c:Nat):Bool:=decide (97<=c)&&decide (c<=122)
def oh(s:Str):Bool:=(decide (1<=s.length)&&decide (s.length<=8))&&s.cps.toList.all AO
def Gh(w s:Str):Prop:=(w="tool"/\(s="up"\/s="down"))\/(w="mark"/\oh s=true)
def vA(d:ah):Prop:=(∃n,d= .tuple [.str "wait",.int n]/\1<=n/\n<=1000)\/∃w s,d= .tuple [.str w,.str s]/\(w="tool"\/w="mark")/\dh 0 (.str s)/\Gh w s
theorem S0:∀l:List Str,(PySem.Str.join ("":Str) l).cps.toList=(l.map λz=>z.cps.toList).flatten
 |[]=>by simp[PySem.Str.join,PySem.Str.empty] |[x]=>by simp[PySem.Str.join] |x::y::r=>by
  show((x++("":Str))++PySem.Str.join ("":Str) (y::r)).cps.toList=_;rw[qI,qI,nO,nO,S0 (y::r)];have:(("":Str)).cps.toList=[]:=by decide+kernel
  rw[this];simp
theorem a2p{l:List Str}(h1:1<=l.length)(h8:l.length<=8)(h:∀z∈l,z.length=1/\z.cps.toList.all AO=true):oh (Txt.join ("":Str) l)=true:=by
 have e:(Txt.join ("":Str) l).cps.toList=(l.map λz=>z.cps.toList).flatten:=by show(Builtin.Str.glued ("":Str) l).cps.toList=_;rw[qH];exact S0 l
 have el:(Txt.join ("":Str) l).length=l.length:=by
  show(Txt.join ("":Str) l).cps.size=_;rw[<-kJ,e,List.length_flatten,Kr];have:∀(l:List Str),(∀z∈l,z.length=1/\z.cps.toList.all AO=true)->(l.map (List.length∘λz=>z.cps.toList)).sum=l.length:=by intro l;induction l with |nil=>intro _;rfl |cons a r ih=>
   intro h;rw[qM,List.sum_cons,ih λz hz=>h z (.tail _ hz),gp];have:=(h a (.head _)).1;have e2:(List.length∘λz:Str=>z.cps.toList) a=1:=by show a.cps.toList.length=1;rw[kJ];exact this
   rw[e2,Nat.add_comm]
  exact this l h
 unfold oh;rw[el,e,cf h1,cf h8,iA,iA,fU];intro c hc;obtain⟨cs,Br,gz⟩:=List.mem_flatten.mp hc;obtain⟨z,hz,rfl⟩:=cY.mp Br;exact fU.mp (h z hz).2 c gz
theorem vA.it{d:ah}(h:vA d):itR d none:=by
 rcases h with⟨n,rfl,_⟩|⟨w,s,rfl,hw|hw,_⟩
 ·exact .inr ⟨_,_,Z,.inl Z,Z,Z⟩
 ·exact .inr ⟨_,_,Z,.inr (.inl hw),Z,Z⟩
 ·exact .inr ⟨_,_,Z,.inr (.inr hw),Z,Z⟩
def RowW(ds:List ah)(os:List Itm):Prop:=∀(i:Nat)(d:ah),os[i]? =some none->ds[i]? =some d->vA d
theorem RowW.snoc{ds:List ah}{os:List Itm}{d:ah}{o:Itm}(h:RowW ds os)(hl:ds.length=os.length)(hd:o=none->vA d):RowW (ds++[d]) (os++[o]):=by
 intro i x e1 e2;rcases qZ e1 with h1|⟨h1,yb⟩
 ·rcases qZ e2 with h2|⟨h2,_⟩
  ·exact h i x h1 h2
  ·have:=(dw.mp h1).1;lia
 ·rcases qZ e2 with h2|⟨_,sP⟩
  ·have:=(dw.mp h2).1;lia
  ·subst sP;exact hd yb.symm
theorem VH{j:Int}(h:j.natAbs<2^64):Wd j:=p8 h aF
inductive abm(vs:List V)(H:Hp)(Q:VK):Prop |mk (p:Int)(q:Int)(h0:vs=[.int p,.int q])(h1:0<q)(h2:q<=10^6)(h3:p.natAbs<=10^9)(h4:Q (.int (fX p q)) H)
def Dm:Sp:=λvs H Q _=>abm vs H Q
abbrev Ey:Stmt:=top 53
theorem N1:aW ["p","q","size"] ["p","q"] (aM Ey):=bh aF
theorem a0D(F:FA K mg "nearest" Ey)(B:bB mg):aA P w K mg ao "nearest" 1 Dm:=by
 refine F.has N1 (λvs H Q E h=>?_) (λ_ _ _ _ _ _=>dN λ_ _=>rfl) (λf aH A outer s H vs Q E hr h=>?_)
 ·obtain⟨p,q,rfl,_⟩:=h
  rfl
 ·obtain⟨p,q,rfl,q0,q1,p1,k⟩:=h
  have nd:=N1.nd;refine⟨_,(aB (pS 2 nd (aQ uz (aQ dI (aQ cD aE (dg (x:="abs") tf Z (B.at "abs") vN (ak (pv 0) aw))) (pv 1)) (aQ cD aE (pv 1)))) (aJ (aP (gZ (bX Az (pv 0) aE (bL _)) (pv 2) (ml lZ (pv 2)))))),?_⟩;refine⟨_,Z,p,Z,_,_,Z,Z,.of_left (dv ay ay),_,Z,_,_,Z,Z,_,Z,_,_,Z,Z,.of_left (dv ay ay),_,_,Z,Z,⟨au,VH au⟩,?_⟩;have e:(2*(if p<0 then-p else p)+q)/(2*q)=iC p q:=by unfold iC;rw[<-JP];rfl
  refine⟨_,Z,_,_,Z,Z,_,Z,?_⟩;unfold fX at k;rw[<-e]at k;refine eP (λhc=>?_) (λhc=>?_)
  ·have hp:p>=0:=kg hc
   rw[bc hp]at k;exact⟨_,Z,k⟩
  ·have hp:¬p>=0:=λz=>hc (cf z)
   rw[bf hp]at k;exact⟨_,Z,_,Z,k⟩
def Lu(ns:List Int)(k:Int):ah:=.tuple ((ns.map λz=>fX (k*z) (aO ns)).map PyData.int)
theorem YS{k z:Int}(h:k.natAbs<=10^6)(g:(z.natAbs:Int)<=1000):(k*z).natAbs<=10^9:=by rw[gU];exact gH (qK h (show z.natAbs<=1000 by lia)) ay
inductive aaO(K:aa)(vs:List V)(H:Hp)(Q:VK):Prop |mk (v:_)(ns:_)(sp:_)(k:_)(h0:vs=[v,.int k])(h1:RD K H v (eO ns sp))(h2:eQ ns.length 1000 ns)(h3:ns.length<=1000)(h4:k.natAbs<=10^6)(h5:∀v' H',RD K H' v' (Lu ns k)->aD H H'->Q v' H')
def zO(K:aa):Sp:=λvs H Q _=>aaO K vs H Q
abbrev DQ:Stmt:=top 51
theorem My:aW ["line","k","lead"] ["line","k"] (aM DQ):=bh aF
theorem ZX(F:FA K mg "stand_at" DQ)(B:bB mg)(jT:aA P w K mg ao "lead_of" 1 (nU K))(a4O:aA P w K mg ao "nearest" 1 Dm):aA P w K mg ao "stand_at" 2 (zO K):=by
 refine F.has My (λvs H Q E h=>?_) (λ_ _ _ _ _ _=>dN λ_ _=>rfl) (λf aH A outer s H vs Q E hr h=>?_)
 ·obtain⟨v,ns,sp,k,rfl,_⟩:=h
  rfl
 ·obtain⟨v,ns,sp,kk,rfl,rd,ok,hz,hk,k⟩:=h
  have nd:=My.nd;refine⟨_,(aB (pS 2 nd (pf jT hr (ak (pv 0) aw))) (aJ (aP (cS (x:="tuple") (kl K Z) Z (B.at "tuple") iU (ak (eY (N:=["step","lead","k"]) (js:=[none,some 2,some 1]) rfl rfl rfl (kv K rfl (px K (pv 0) aE)) (λ_ _ _ _ _=>(bj 0 (show List.Nodup (["step","lead","k"]:List Str) by decide+kernel))) (λ_ _ _ _ _=>dS) (λ_ _ _ _ _=>(pf a4O hr (ak (aQ cD (pv 2) (pv 0)) (ak (pv 1) aw))))) aw))))),?_⟩;refine⟨_,Z,v,ns,sp,Z,rd,ok.ne,hz,λH1 s1=>?_⟩;obtain⟨a,b,rfl,ha,hb⟩:=uN (RD.mono s1 _ rd);obtain⟨lp,lm⟩:=ok.lead;refine⟨_,Z,.inr ⟨a,_,1,.ref b,Z,Z,ha,Z,b,Z,⟨_,hb⟩,λD H0 nw=>?_⟩⟩;refine t9 (K:=K) (xs:=ns.map V.int) (ds:=(ns.map λz=>fX (kk*z) (aO ns)).map PyData.int) _ hb nw (by simp) (by simpa using hz) (og _) ?_ ?_
  ·intro i x d H2 Q' ex ed s2 hq
   rw[Kr]at ed;obtain⟨n,en,rfl⟩:=sx ed;cases GU ex en;refine⟨_,Z,_,Z,_,_,Z,Z,.of_left (dv au au),_,Z,_,_,Z,au,au,YS hk (ok.bd n (fc en)),?_⟩;exact hq _ _ (aD.refl _) (fE _)
  ·intro H' ys s2 d2 r2
   refine⟨D,_,Z,.inl ⟨aI.of d2,λt H4 n4=>?_⟩⟩;exact k _ _ (fR (aY.of n4.at') (aL.mono n4.same _ r2)) (s1.trans (s2.trans n4.same))
def mh(ns:List Int)(j:Nat):List Int:=ns.map λz=>fX (((j:Int)+1)*z) (aO ns)-fX ((j:Int)*z) (aO ns)
def nW(ns:List Int):List ah:=(List.range (aO ns)).map λj=>.tuple ((mh ns j).map PyData.int)
theorem FR(zs:List Int):ek (.tuple (zs.map PyData.int))=true:=by rw[ek];exact og zs
theorem FP(ns:List Int):cx (nW ns)=true:=fN.mpr λd hd=>by obtain⟨j,_,rfl⟩:=cY.mp hd;exact FR _
theorem Om{ns:List Int}{i:Nat}(h:i<aO ns):(nW ns)[i]? =some (.tuple ((mh ns i).map PyData.int)):=by unfold nW;rw[bR,cy (by simpa using h),yZ];rfl
theorem FQ(ns:List Int):(nW ns).length=aO ns:=by simp[nW]
inductive aaV(K:aa)(vs:List V)(H:Hp)(Q:VK):Prop |mk (v:_)(ns:_)(sp:_)(h0:vs=[v])(h1:RD K H v (eO ns sp))(h2:eQ ns.length 1000 ns)(h3:ns.length<=1000)(h4:∀l ys H',H l=none->H' l=some (.lst ys)->aL K H' ys (nW ns)->aD H H'->Q (.ref l) H')
def D4(K:aa):Sp:=λvs H Q _=>aaV K vs H Q
abbrev E1:Stmt:=top 52
theorem MJ:aW ["line","rows","before","k","behind"] ["line"] (aM E1):=bh aF
theorem a0g(F:FA K mg "step_rows" E1)(B:bB mg)(jT:aA P w K mg ao "lead_of" 1 (nU K))(Bc:aA P w K mg ao "stand_at" 2 (zO K)):aA P w K mg ao "step_rows" 3 (D4 K):=by
 refine F.has MJ (λvs H Q E h=>?_) (λ_ _ _ _ _ _=>cu λ_=>rfl) (λf aH A outer s H vs Q E hr h=>?_)
 ·obtain⟨v,ns,sp,rfl,_⟩:=h
  rfl
 ·obtain⟨v,ns,sp,rfl,rd,ok,hz,k⟩:=h
  have nd:=MJ.nd;obtain⟨lp,lm⟩:=ok.lead;refine⟨_,(aB (pS 1 nd (da aw)) (aB (pS 2 nd (pf Bc hr (ak (pv 0) (ak aE aw)))) (aB (jN gT Z (Z0 Z (B.at "range") (ak aE (ak (aQ dI (pf jT hr (ak (pv 0) aw)) aE) aw))) (bj 3 nd) (aB (pS 4 nd (pf Bc hr (ak (pv 0) (ak (pv 3) aw)))) (aB (ku (nY K Z (pv 1) (ak (cS (x:="tuple") (kl K Z) Z (B.at "tuple") iU (ak (eY (N:=["new","old"]) (js:=[none,none]) rfl rfl rfl (rO K rfl false false rfl (B.at "zip") (ak (pv 4) (ak (pv 2) aw))) (λ_ _ _ _ _=>(eX K rfl (n:=2) rfl (bZ (bj 0 (kx ay)) (bZ (bj 1 (kx ay)) eW)))) (λ_ _ _ _ _=>dS) (λ_ _ _ _ _=>(aQ jr (pv 0) (pv 1)))) aw)) aw))) (aJ (pS 2 nd (pv 4)))))) (aJ (aP (pv 1)))))),?_⟩;refine⟨ck Z,λl H1 n1=>?_⟩;refine⟨_,Z,v,ns,sp,0,Z,RD.mono n1.same _ rd,ok,hz,ay,λu H2 ru s2=>?_⟩;have t2:=n1.same.trans s2;refine⟨_,Z,v,ns,sp,Z,RD.mono t2 _ rd,ok.ne,hz,λH3 s3=>?_⟩;refine⟨_,_,Z,Z,_,_,Z,⟨au,au,au,au⟩,?_⟩;have t3:=t2.trans s3;have e3:((aO ns:Int)+1-1).toNat=aO ns:=by lia
  refine Bz (Pv:=λi O H4=>aD H H4/\(∃ys,H4 l=some (.lst ys)/\aL K H4 ys ((nW ns).take i))/\∃b v1 v2,RD K H4 b (Lu ns i)/\O=[some v,some (.ref l),some b,v1,v2]) ?_ ?_ ?_
  ·exact⟨t3,⟨[],s3 _ _ (s2 _ _ n1.at'),dy⟩,u,none,none,RD.mono s3 _ ru,Z⟩
  ·rintro i O H4 hi ⟨t4,⟨ys,dl,ry⟩,b,v1,v2,rb,rfl⟩
   have pZ:i<aO ns:=by lia
   refine⟨_,Z,_,Z,v,ns,sp,_,Z,RD.mono t4 _ rd,ok,hz,au,λb2 H5 FW s5=>?_⟩;refine⟨_,Z,.inl ⟨Z,_,aI.of (s5 _ _ dl)⟩,?_⟩;obtain⟨a1,xs1,rfl,h1,q1⟩:=FW.cJ;have e1:=q1.gP;subst e1;obtain⟨a0,xs0,rfl,h0,q0⟩:=(RD.mono s5 _ rb).cJ;have e0:=q0.gP;subst e0;refine⟨_,Z,_,Z,a1,a0,Z,⟨_,h1⟩,⟨_,h0⟩,λD H6 nw=>?_⟩;refine BM (K:=K) (b1:=false) (b2:=false) (ds:=(mh ns i).map PyData.int) [] rfl h1 h0 nw (by simp[mh]) (by simpa[mh]using hz) (og _) ?_ ?_
   ·intro j x y d H7 Q' ex ey ed s7 hq
    obtain⟨m,em,rfl⟩:=sx ed;unfold mh at em;rw[bR]at em ex ey;rw[bR]at ex ey;cases en:ns[j]? with |none=>rw[en]at em;cases em |some n=>
     rw[en]at em ex ey;cases em;cases ex;cases ey;refine⟨_,Z,_,Z,_,_,Z,Z,?_⟩;have ee:(1:Int)+(i:Int)=(i:Int)+1:=by lia
     rw[ee];exact hq _ _ (aD.refl _) (fE _)
   ·intro H7 zs s7 d7 r7
    refine⟨D,_,Z,.inl ⟨aI.of d7,λt H8 n8=>?_⟩⟩;have FF:=s5.trans (s7.trans n8.same);have yp:=FF _ _ dl;have len:=ry.length;rw[tR,FQ]at len;refine⟨l,ys,_,Z,Z,yp,?_,?_⟩
    ·have:(1000:Nat)<sizeLine:=by decide
     lia
    refine⟨_,Z,?_⟩;have tt:hV H8 (_L.upd H8 l (.lst (ys++[.ref t]))):=.tW yp;refine⟨λb o e=>?_,⟨_,bW,?_⟩,_,_,_,?_,Z⟩
    ·rw[aU (fY e n1.no)];exact FF b o (t4 b o e)
    ·rw[vP,Om pZ]
     have nt:cx ((nW ns).take i)=true:=fN.mpr λd hd=>fN.mp (FP ns) d (yY hd);exact(aL.t tt _ nt (aL.mono FF _ ry)).append (cF (RD.t tt _ (FR _) (fR (aY.of n8.at') (aL.mono n8.same _ r7))) dy)
    ·have ee:(1:Int)+(i:Int)=((i+1:Nat):Int):=by lia
     rw[ee]at FW;exact RD.t tt _ (FR _) (RD.mono (s7.trans n8.same) _ FW)
  ·rintro O H4 ⟨t4,⟨ys,dl,ry⟩,b,v1,v2,rb,rfl⟩
   rw[e3,yX (by rw[FQ];exact bI _)]at ry;exact⟨_,Z,k l ys H4 n1.no dl ry t4⟩
def jy(ti:Int)(q:Rat)(t:Int):Bool:=decide (ti*ti*(q.den:Int)<=t*t*q.num)
inductive abN(K:aa)(vs:List V)(H:Hp)(Q:VK):Prop |mk (m:_)(sq:_)(t:_)(rs:_)(r:_)(f:_)(j:_)(ti:_)(q:_)(h0:vs=[m,sq,.int t])(h1:RD K H m (gw rs r f j ti))(h2:bV K H sq q)(h3:Bd 2000 q)(h4:1<=ti)(h5:ti<=100)(h6:0<=t)(h7:t.natAbs<2^2400)(h8:Q (.bl (jy ti q t)) H)
def M5(K:aa):Sp:=λvs H Q _=>abN K vs H Q
abbrev F8:Stmt:=top 69
theorem NC:aW ["machine","square","t","p","q","ticks"] ["machine","square","t"] (aM F8):=bh aF
theorem a1h(F:FA K mg "are_enough" F8)(B:bB mg):aA P w K mg ao "are_enough" 1 (M5 K):=by
 refine F.has NC (λvs H Q E h=>?_) (λ_ _ _ _ _ _=>jZ λ_ _ _=>rfl) (λf aH A outer s H vs Q E hr h=>?_)
 ·obtain⟨m,sq,t,rs,r,f,j,ti,q,rfl,_⟩:=h
  rfl
 ·obtain⟨m,sq,t,rs,r,f,j,ti,q,rfl,rm,⟨p,rfl,hp⟩,bq,t1,t2,t0,tw,k⟩:=h
  have nd:=NC.nd;refine⟨_,(aB (eM (pv 1) (eX K Z (n:=2) Z (bZ (bj 3 nd) (bZ (bj 4 nd) eW)))) (aB (pS 5 nd (px K (pv 0) aE)) (aJ (aP (jq Az (aQ cD (aQ cD (pv 2) (pv 2)) (pv 3)) (aQ cD (aQ cD (pv 5) (pv 5)) (pv 4)) (bL _)))))),?_⟩;obtain⟨a,b,rfl,ha,hb⟩:=mF rm;have wt:Wd t:=jI tw ay;have VC:Wd (t*t):=jI (n:=4800) (by rw[gU];exact oj (n:=2400) (m:=2400) tw tw) ay;have m1:(ti*ti).natAbs<=100*100:=by rw[gU];exact qK bC bC
  refine⟨_,Z,_,_,Z,hp,Z,_,_,Z,_,_,Z,Z,?_⟩;refine⟨_,Z,.inr ⟨a,_,4,.int ti,Z,Z,ha,Z,?_⟩⟩;refine⟨_,Z,_,Z,_,_,Z,Z,nK wt.bits wt.bits,_,Z,_,_,Z,Z,nK VC.bits bq.wn.bits,?_⟩;refine⟨_,Z,_,Z,_,_,Z,Z,.of_left (dv bC bC),_,Z,_,_,Z,Z,.of_left (dv bC bC),?_⟩;exact⟨_,_,Z,Z,k⟩
theorem SG{ti t:Int}{q:Rat}(hq:0<q.num)(h0:0<=t)(h:ti*ti*(q.den:Int)<=t):jy ti q t=true:=by
 refine cf (Int.le_trans h ?_);by_cases ht:t=0
 ·subst ht;simp
 ·have e1:t*1<=t*t:=Kz au h0
  have e2:t*t*1<=t*t*q.num:=Kz au (kj h0 h0)
  lia
theorem a8N{ti:Int}{q:Rat}(h1:1<=ti):jy ti q 0=false:=by
 refine dE λh=>?_;have:=jH (jH (show 0<ti by lia) (show 0<ti by lia)) (den_pos q);simp only[Cr]at h
 lia
inductive aaL(K:aa)(vs:List V)(H:Hp)(Q:VK):Prop |mk (m:_)(sq:_)(rs:_)(r:_)(f:_)(j:_)(ti:_)(q:_)(h0:vs=[m,sq])(h1:RD K H m (gw rs r f j ti))(h2:bV K H sq q)(h3:Bd 2000 q)(h4:1<=ti)(h5:ti<=100)(h6:0<q.num)(h7:∀T,1<=T->T.natAbs<2^2400->jy ti q T=true->jy ti q (T-1)=false->Q (.int T) H)
def LH(K:aa):Sp:=λvs H Q _=>aaL K vs H Q
abbrev DM:Stmt:=top 68
theorem Mu:aW ["machine","square","enough","too_few","between"] ["machine","square"] (aM DM):=bh aF
theorem ZU(F:FA K mg "ticks_of" DM)(B:bB mg)(RP:aA P w K mg ao "are_enough" 1 (M5 K)):aA P w K mg ao "ticks_of" 2 (LH K):=by
 refine F.has Mu (λvs H Q E h=>?_) (λ_ _ _ _ _ _=>dN λ_ _=>rfl) (λf aH A outer s H vs Q E hr h=>?_)
 ·obtain⟨m,sq,rs,r,f,j,ti,q,rfl,_⟩:=h
  rfl
 ·obtain⟨m,sq,rs,r,f,j,ti,q,rfl,rm,rq,bq,t1,t2,hq,k⟩:=h
  have nd:=Mu.nd;refine⟨_,(aB (pS 2 nd aE) (aB (rL gT (dB (cH (pf RP hr (ak (pv 0) (ak (pv 1) (ak (pv 2) aw)))))) (aJ (pS 2 nd (aQ cD aE (pv 2))))) (aB (pS 3 nd (aQ uz (pv 2) aE)) (aB (rL gT (bX Pk (aQ jr (pv 2) (pv 3)) aE (bL _)) (aB (pS 4 nd (aQ uz (aQ dI (pv 3) (pv 2)) aE)) (aJ (bJ (cH (pf RP hr (ak (pv 0) (ak (pv 1) (ak (pv 4) aw))))) (aJ (pS 2 nd (pv 4))) (aJ (pS 3 nd (pv 4))))))) (aJ (aP (pv 2))))))),?_⟩;have lim:(ti*ti*(q.den:Int)).natAbs<2^2399:=by
   have m1:(ti*ti).natAbs<=100*100:=by rw[gU];exact qK au au
   have hd:=bq.den;rw[gU];have:(q.den:Int).natAbs=q.den:=rfl;rw[this];have:=oj (n:=14) (m:=2000) (a:=(ti*ti).natAbs) (b:=q.den) (Ck m1 ay) hd;exact fD this (qJ ay ay)
  have p0:0<ti*ti*(q.den:Int):=jH (jH au au) (den_pos q);have e2:(2:Nat)^2400=2^2399*2:=tQ 2 2399;generalize hL:ti*ti*(q.den:Int)=L at lim p0;refine qQ (λO H2=>H2=H/\∃(x:Int),O=[some m,some sq,some (.int x),none,none]/\1<=x/\x<=2*L/\jy ti q (x/2)=false) (λO _=>match O with|[_,_,some (.int x),_,_]=>(L-x).toNat|_=>0) ?_ ?_ ?_
  ·exact⟨Z,1,Z,au,au,a8N t1⟩
  ·rintro O H2 ⟨rfl,x,rfl,x1,xL,hx⟩
   have xw:x.natAbs<2^2400:=by lia
   refine⟨_,Z,_,Z,_,Z,m,sq,x,rs,r,f,j,ti,q,Z,rm,rq,bq,t1,t2,au,xw,_,Z,?_⟩;cases Bp:jy ti q x with
   |false=>
    have cn:x<L:=by
     by_cases cn:x<L
     ·exact cn
     ·rw[SG hq au au]at Bp;cases Bp
    refine eP (λhc=>?_) (λhc=>(hc Z).elim);refine⟨_,Z,_,_,Z,Z,.of_left (dv ay ay),?_⟩;refine⟨⟨Z,_,Z,au,au,?_⟩,?_⟩
    ·have:2*x/2=x:=by lia
     rw[this];exact Bp
    ·show(L-2*x).toNat<(L-x).toNat
     lia |true=>
    refine eP (λhc=>nomatch hc) (λhc=>?_);refine⟨_,Z,_,_,Z,Z,⟨ay,jI (n:=2) ay ay⟩,?_⟩;refine qQ (λO H3=>H3=H2/\∃(lo hi:Int)(v:Option V),O=[some m,some sq,some (.int hi),some (.int lo),v]/\0<=lo/\lo<hi/\hi<=2*L/\jy ti q lo=false/\jy ti q hi=true) (λO _=>match O with|[_,_,some (.int x),some (.int y),_]=>(x-y).toNat|_=>0) ?_ ?_ ?_
    ·exact⟨Z,x/2,x,none,Z,au,au,xL,hx,Bp⟩
    ·rintro O H3 ⟨rfl,lo,hi,v,rfl,l0,lh,xZ,SJ,BE⟩
     refine⟨_,Z,_,Z,_,_,Z,Z,_,_,Z,Z,_,Z,?_⟩;refine eP (λhc=>?_) (λhc=>?_)
     ·have hgt:hi-lo>1:=kg hc
      refine⟨_,Z,_,Z,_,_,Z,Z,_,_,Z,Z,⟨ay,jI (n:=2) ay ay⟩,?_⟩;have mw:((lo+hi)/2).natAbs<2^2400:=by lia
      refine⟨_,Z,_,Z,_,Z,m,sq,(lo+hi)/2,rs,r,f,j,ti,q,Z,rm,rq,bq,t1,t2,au,mw,_,Z,?_⟩;cases hm:jy ti q ((lo+hi)/2)with
      |true=>
       refine bG ?_;refine⟨_,Z,⟨Z,lo,_,_,Z,l0,au,au,SJ,hm⟩,?_⟩;show((lo+hi)/2-lo).toNat<(hi-lo).toNat
       lia |false=>
       refine aV ?_;refine⟨_,Z,⟨Z,_,hi,_,Z,au,au,xZ,hm,BE⟩,?_⟩;show(hi-(lo+hi)/2).toNat<(hi-lo).toNat
       lia
     ·have hle:¬hi-lo>1:=λz=>hc (cf z)
      have e:lo=hi-1:=by lia
      subst e;exact⟨_,Z,k hi au au BE SJ⟩
    ·rintro O H2 Q1 Q2 hq ⟨v1,e1,v2,e2,i,j,e3,e4,i2,j2,e5,e6,kk,e7,q⟩
     exact⟨v1,e1,v2,e2,i,j,e3,e4,i2,j2,e5,e6,kk,e7,hq _ _ q⟩
  ·rintro O H2 Q1 Q2 hq ⟨v1,e1,v2,e2,v3,e3,m',Xc,x',rk,r',f',j',Wh,q',e4,h1,h2,h3,h4,h5,h6,h7,b,eb,q⟩
   exact⟨v1,e1,v2,e2,v3,e3,m',Xc,x',rk,r',f',j',Wh,q',e4,h1,h2,h3,h4,h5,h6,h7,b,eb,hq _ _ q⟩
def yF(ti:Int)(q:Rat)(T:Int):Prop:=1<=T/\jy ti q T=true/\jy ti q (T-1)=false
open Classical in
noncomputable def wk(ti:Int)(q:Rat):Int:=if h:∃T,yF ti q T then h.choose else 0
theorem SF{ti:Int}{q:Rat}{s t:Int}(hq:0<=q.num)(h0:0<=s)(h:s<=t)(e:jy ti q s=true):jy ti q t=true:=by refine cf (Int.le_trans (kg e) ?_);exact Ct (zc h h h0 au) hq
theorem Wm{ti:Int}{q:Rat}{S T:Int}(hq:0<=q.num)(h1:yF ti q S)(h2:yF ti q T):S=T:=by
 obtain⟨a1,a2,a3⟩:=h1;obtain⟨b1,b2,b3⟩:=h2;by_cases h:S<=T-1
 ·have:=SF hq au h a2
  rw[b3]at this;cases this
 ·by_cases h':T<=S-1
  ·have:=SF hq au h' b2
   rw[a3]at this;cases this
  ·lia
theorem Wg{ti:Int}{q:Rat}{T:Int}(hq:0<=q.num)(h:yF ti q T):wk ti q=T:=by have hx:∃T,yF ti q T:=⟨T,h⟩;unfold wk;rw[dif_pos hx];exact Wm hq hx.choose_spec h
theorem Pw{q:Rat}(h:0<q):0<q.num:=by
 have h1:=Kc.mpr (Rat.le_of_lt h);have h2:q.num≠0:=λe=>by rw[Rat.num_eq_zero.mp e]at h;exact absurd h ay
 lia
noncomputable def u9(ti:Int)(zs:List Int)(q:Rat):ah:=.tuple [.str "step",.tuple (zs.map PyData.int),.int (wk ti q),dj q]
theorem Ls(ti:Int)(zs:List Int)(q:Rat):ek (u9 ti zs q)=true:=by simp[u9,ek,cx,og,rH]
inductive abM(K:aa)(vs:List V)(H:Hp)(Q:VK):Prop |mk (m:_)(rv:_)(sq:_)(rs:_)(r:_)(f:_)(j:_)(ti:_)(zs:_)(q:_)(h0:vs=[m,rv,sq])(h1:RD K H m (gw rs r f j ti))(h2:jC rs r f j ti)(h3:RD K H rv (.tuple (zs.map PyData.int)))(h4:bV K H sq q)(h5:Bd 2000 q)(h6:0<q)(h7:∀v H',RD K H' v (u9 ti zs q)->aD H H'->Q v H')
def Dr(K:aa):Sp:=λvs H Q _=>abM K vs H Q
abbrev F7:Stmt:=top 70
theorem NB:aW ["machine","row","square"] ["machine","row","square"] (aM F7):=bh aF
theorem a1g(F:FA K mg "step_entry" F7)(B:bB mg)(a4j:aA P w K mg ao "ticks_of" 2 (LH K)):aA P w K mg ao "step_entry" 3 (Dr K):=by
 refine F.has NB (λvs H Q E h=>?_) (λ_ _ _ _ _ _=>jZ λ_ _ _=>rfl) (λf aH A outer s H vs Q E hr h=>?_)
 ·obtain⟨m,rv,sq,rs,r,f,j,ti,zs,q,rfl,_⟩:=h
  rfl
 ·obtain⟨m,rv,sq,rs,r,f,j,ti,zs,q,rfl,rm,aG,rr,Rq,bq,q0,k⟩:=h
  have nd:=NB.nd;refine⟨_,(aJ (aP (gJ (ak bo (ak (pv 1) (ak (pf a4j hr (ak (pv 0) (ak (pv 2) aw))) (ak (pv 2) aw))))))),?_⟩;have t1:=aG.t1;have qn:0<q.num:=Pw q0;refine⟨_,Z,_,Z,_,Z,m,sq,rs,r,f,j,ti,q,Z,rm,Rq,bq,t1.1,t1.2,qn,λT T1 _ T2 T3=>?_⟩;refine⟨_,Z,ck Z,λt H1 n1=>k (.ref t) H1 ?_ n1.same⟩;have e:=Wg au ⟨T1,T2,T3⟩;unfold u9;rw[e];exact fR (aY.of n1.at') (cF (bu _) (cF (RD.mono n1.same _ rr) (cF (fE _) (cF (Rq.go n1.same).rd dy))))
theorem KZ{az sp:Int}(h1:1<=sp)(h2:10<=az):0<topR az sp:=by
 have h0:=_O.zA az sp;refine Kb h0 λe=>?_;have hp:0<(sp*az)^2:=by rw[gq,gq,nN,lX];exact jH (jH au au) (jH au au)
 have h2:0<=Rat.divInt (-((sp*az)^2)) 10000:=by rw[<-Rat.neg_divInt];show 0<=-(topR az sp);rw[<-e];decide
 have:=(vK ay).mp h2
 lia
theorem Am{rs:List Int}{r f j t az:Int}{ds:List ah}{os:List Itm}(aG:jC rs r f j t)(row:fL rs.length ds os)(hz:ds.length<=30)(cL:10<=az)(cV:az<=200):∀i,i<=os.length->Bd 1700 (An r f j az os i):=λi hi=>by have ll:=row.len;have hB:=_O.Av aG.j1.1 aG.j1.2 cL cV row.kY;have hL:∀i m,leadF os i=some m->(2*r*(m:Int)).natAbs<2^24:=λi m e=>tX aG.r1.1 aG.r1.2 (uP row.kY e);have xZ:∀i m,leadF os i=some m->(2*f*(m:Int)).natAbs<2^24:=λi m e=>tX aG.f1.1 aG.f1.2 (uP row.kY e);exact(IZ (b:=900) (λi hi=>(C0 hB hL i).mono au) xZ i hi).mono au
inductive abf(K:aa)(vs:List V)(H:Hp)(Q:VK):Prop |mk (m:_)(iv:_)(az:_)(rs:_)(r:_)(f:_)(j:_)(t:_)(ds:_)(os:_)(h0:vs=[m,iv,.int az])(h1:RD K H m (gw rs r f j t))(h2:jC rs r f j t)(h3:RD K H iv (.list ds))(h4:fL rs.length ds os)(h5:ds.length<=100)(h6:10<=az)(h7:az<=200)(h8:∀l ys H',H l=none->H' l=some (.lst ys)->aL K H' ys ((ownL j az os).map dj)->aD H H'->Q (.ref l) H')
def LS(K:aa):Sp:=λvs H Q _=>abf K vs H Q
theorem a0y(F:FA K mg "own_bounds" A5)(B:bB mg)(gN:GT K mg "NOUGHT" [.int 0,.int 1])(Il:aA P w K mg ao "bound_between" 7 (A0 K)):aA P w K mg ao "own_bounds" 8 (LS K):=by
 obtain⟨aN,jV,m7⟩:=gN;refine F.has A3 (λvs H Q E h=>?_) (λ_ _ _ _ _ _=>jZ λ_ _ _=>rfl) (λf aH A outer s H vs Q E hr h=>?_)
 ·obtain⟨m,iv,az,rs,r,f,j,t,ds,os,rfl,_⟩:=h
  rfl
 ·obtain⟨m,iv,az,rs,r,f,j,t,ds,os,rfl,rm,aG,ri,row,hz,cL,cV,k⟩:=h
  have nd:=A3.nd;have rN:∀H',RD K H' (.ref aN) (dj 0):=λH'=>(uH (m7 H')).rd;refine⟨_,(aB (bJ (dB (wX K Z (pv 1))) (aJ (aP (da (ak (cQ (x:="NOUGHT") Z jV) aw)))) bK) (aB (Ai (i0:=3) nd Z (Or.inl Z) (N:=["one","other","machine","rate"]) (js:=[none,none,some 0,some 2]) Z Z Z (rO K Z true true Z (B.at "zip") (ak (pv 1) (ak (Ao (A1 K rfl) (pv 1) (Aj aE) Ak) aw))) (λ_ _ _ _ _=>(eX K rfl (n:=2) rfl (bZ (bj 0 (show List.Nodup (["one","other","machine","rate"]:List Str) by decide+kernel)) (bZ (bj 1 (show List.Nodup (["one","other","machine","rate"]:List Str) by decide+kernel)) eW)))) (λ_ _ _ _ _=>dS) (λ_ _ _ _ _=>(pf Il hr (ak (pv 2) (ak (pv 0) (ak (pv 1) (ak (pv 3) aw))))))) (aJ (aP (aQ (oW K Z) (aQ (oW K Z) (da (ak (cQ (x:="NOUGHT") Z jV) aw)) (pv 3)) (da (ak (cQ (x:="NOUGHT") Z jV) aw))))))),?_⟩;obtain⟨ia,xs,rfl,hi,iH⟩:=ri.lst_inv;have lx:=iH.length;have ll:=row.len;refine⟨_,Z,_,.inl ⟨_,hi,Z⟩,?_⟩;cases hd:xs with
  |nil=>
   subst hd;refine bG ?_;refine⟨ck Z,λl H1 n1=>?_⟩;refine k l [.ref aN] H1 n1.no n1.at' ?_ n1.same;have e:os=[]:=by
    have:os.length=0:=by rw[<-ll,<-lx];rfl
    exact V9.mp this
   rw[e];exact cF (rN H1) dy |cons x0 xr=>
   refine aV ?_;have cI:os≠[]:=by intro e;rw[e]at ll;rw[hd]at lx;simp at ll lx;rw[ll]at lx;cases lx
   have xB:0<xs.length:=by rw[hd];simp
   refine⟨_,Z,_,Z,1,Z,ia,xs,Z,.inl ⟨hi,λtl H1 n1=>?_⟩⟩;refine⟨ia,tl,Z,⟨_,hi.go n1.same⟩,⟨_,aI.of n1.at'⟩,λD H2 n2=>?_⟩;have et:=n1.at';rw[Jr]at et;have x9:∀(i:Nat)(o:Itm),os[i]? =some o->∀(ns:List Int)(sp:Int),o=some (ns,sp)->eQ rs.length 100 ns/\1<=sp/\sp<=20:=λi o e ns sp e'=>row.ok i ns sp (by rw[e,e']);have lr:=aG.len;refine BM (K:=K) (b1:=true) (b2:=true) (xs:=xs) (ys:=xs.drop 1) (ds:=((List.range (os.length-1)).map (λi=>ownF j az os (i+1))).map dj) _ Z (hi.go n1.same) (aI.of et) n2 (by rw[Ks];simp;lia) (by simp;lia) (xf _) ?_ ?_
   ·intro i x y d H3 Q' ex ey ed s3 hq
    have eU:=n1.same.trans s3;rw[List.getElem?_drop]at ey;obtain⟨d1,e1,r1⟩:=iH.get' i ex;obtain⟨d2,e2,r2⟩:=iH.get' (1+i) ey;obtain⟨o1,yl,i1⟩:=row.get e1;obtain⟨o2,sZ,i2⟩:=row.get e2;have Rx:1+i<os.length:=(dw.mp sZ).1;have dD:d=dj (betR j az o1 o2):=by rw[bR,bR,cy (by simp;lia),yZ]at ed;have:=(dG ed).symm;rw[this];show dj (betR j az (atO os i) (atO os (i+1)))=_;rw[_O.vq yl,_O.vq (show os[i+1]? =some o2 by rw[Nat.add_comm];exact sZ)]
    subst dD;refine⟨_,Z,_,Z,_,Z,_,Z,m,x,y,az,rs,r,f,j,t,d1,d2,o1,o2,rs.length,Z,RD.mono eU _ rm,aG.j1.1,aG.j1.2,RD.mono eU _ r1,RD.mono eU _ r2,i1,i2,x9 _ _ yl,x9 _ _ sZ,au,cL,cV,λv H4 rv s4=>?_⟩;exact hq _ _ s4 rv.rd
   ·intro H3 zs s3 d3 r3
    have lz:=r3.length;simp at lz;refine⟨ck Z,λl1 H4 n4=>?_⟩;refine⟨_,Z,l1,D,_,zs,Z,Z,aI.of n4.at',aI.of (n4.same _ _ d3),wD _ (by simp;lia),λl2 H5 n5=>?_⟩;refine⟨ck Z,λl3 H6 n6=>?_⟩;refine⟨l2,l3,_,_,Z,Z,aI.of (n6.same _ _ n5.at'),aI.of n6.at',wD _ (by simp;lia),λl H7 n7=>?_⟩;have wL:aD H H6:=n1.same.trans (s3.trans (n4.same.trans (n5.same.trans n6.same)));have nl:H l=none:=by cases e:H l with |none=>rfl |some o=>have:=wL _ _ e;rw[n7.no]at this;cases this
    refine k l _ H7 nl n7.at' ?_ (wL.trans n7.same);rw[_O.Pa j az cI,jG,jG];exact((cF (rN H7) dy).append (aL.mono (n4.same.trans (n5.same.trans (n6.same.trans n7.same))) _ r3)).append (cF (rN H7) dy)
inductive abJ(K:aa)(vs:List V)(H:Hp)(Q:VK):Prop |mk (m:_)(iv:_)(l:_)(ys:_)(rs:_)(r:_)(f:_)(j:_)(t:_)(ds:_)(os:_)(g:_)(h0:vs=[m,iv,.ref l])(h1:RD K H m (gw rs r f j t))(h2:jC rs r f j t)(h3:RD K H iv (.list ds))(h4:fL rs.length ds os)(h5:ds.length<=30)(h6:H l=some (.lst ys))(h7:aL K H ys ((lst os.length g).map dj))(h8:(∀i,i<=os.length->Bd 900 (g i)))(h9:∀l ys H',H l=none->H' l=some (.lst ys)->aL K H' ys ((lst os.length (fl os.length (leadF os) (2*f) g)).map dj)->aD H H'->Q (.ref l) H')
def M1(K:aa):Sp:=λvs H Q _=>abJ K vs H Q
theorem a1e(F:FA K mg "kept_by_fall" A6)(B:bB mg)(jv:aA P w K mg ao "is_line" 1 (pF K))(jT:aA P w K mg ao "lead_of" 1 (nU K))(mQ:aA P w K mg ao "plus_whole" 4 (ub K))(mT:aA P w K mg ao "least" 2 (kN K)):aA P w K mg ao "kept_by_fall" 5 (M1 K):=by
 refine F.has A4 (λvs H Q E h=>?_) (λ_ _ _ _ _ _=>jZ λ_ _ _=>rfl) (λfa aH A outer s H vs Q E hr h=>?_)
 · obtain⟨m,iv,l,ys,rs,r,f,j,t,ds,os,g,rfl,_⟩:=h
   rfl
 · obtain⟨m,iv,l,ys,rs,r,f,j,t,ds,os,g,rfl,rm,aG,ri,row,hz,dl,wU,bg,k⟩:=h
   have nd:=A4.nd;refine⟨_,(aB (pS 3 nd (px K (pv 0) aE)) (aB (pS 4 nd (cS (x:="list") (AU K Z) Z (B.at "list") Kk (ak (pv 2) aw))) (aB (jN gT Z (OX Z (B.at "reversed") (ak (cS (x:="range") TM rfl (B.at "range") PyProof.Rows.boot_range (ak (fH K B (ak (pv 1) aw)) aw)) aw)) (bj 5 nd) (aJ (bJ (cH (pf jv hr (ak (px K (pv 1) (pv 5)) aw))) (aJ (eM (pf mT hr (ak (da (ak (px K (pv 4) (pv 5)) (ak (pf mQ hr (ak (px K (pv 4) (aQ dI (pv 5) aE)) (ak (aQ cD (aQ cD aE (pv 3)) (pf jT hr (ak (px K (pv 1) (pv 5)) aw))) aw))) aw))) aw)) (rP (pv 4) (pv 5) set_list))) bK))) (aJ (aP (pv 4)))))),?_⟩;obtain⟨ma,mb,rfl,gQ,j6⟩:=mF rm;obtain⟨ia,xs,rfl,hi,iH⟩:=ri.lst_inv;have lx:=iH.length;have ll:=row.len;have lr:=aG.len;have hL:∀i m,leadF os i=some m->(2*f*(m:Int)).natAbs<2^24:=λi m e=>tX aG.f1.1 aG.f1.2 (uP row.kY e);have FB:∀i,i<=os.length->Bd 1700 (fl os.length (leadF os) (2*f) g i):=λi hi=>(IZ bg hL i hi).mono au;refine⟨_,Z,.inr ⟨ma,_,2,.int f,Z,Z,gQ,Z,?_⟩⟩;refine⟨_,Z,l,ys,Z,.inl (aI.of dl),λD H1 n1=>?_⟩;refine⟨_,Z,ia,_,Z,.inl (hi.go n1.same),_,Z,λpr H2 n2=>?_⟩;refine⟨pr,_,Z,n2.at',au,au,?_⟩;have eN:((xs.length:Int)).toNat=os.length:=by lia
   rw[eN];refine Sk (Pv:=λi O H5=>aD H H5/\∃zs v1,H5 D=some (.lst zs)/\aL K H5 zs ((lst os.length λk=>if os.length<=k+i then fl os.length (leadF os) (2*f) g k else g k).map dj)/\O=[some (.ref ma),some (.ref ia),some (.ref l),some (.int f),some (.ref D),v1]) ?_ ?_ ?_
   · refine⟨n1.same.trans n2.same,ys,none,n2.same _ _ n1.at',?_,Z⟩
     rw[om (g:=λk=>if os.length<=k+0 then fl os.length (leadF os) (2*f) g k else g k) (g':=g)]
     ·exact aL.mono (n1.same.trans n2.same) _ wU
     · intro k hk
       show g k=if os.length<=k+0 then _ else g k;split
       · next h => have:k=os.length:=by lia
                   subst this;exact yh.symm
       ·rfl
   · rintro i O H3 Ig ⟨s3,zs,v1,dz,rz,rfl⟩
     obtain⟨x,hx⟩:∃x,xs[os.length-1-i]? =some x:=⟨_,cy (show os.length-1-i<xs.length by lia)⟩;generalize hc:os.length-1-i=c at hx;have oG:c<os.length:=by lia
     have eI:((os.length:Int)-1-(i:Int))=(c:Int):=by lia
     rw[eI];obtain⟨d,ed,rd⟩:=iH.get' c hx;obtain⟨o,eo,it⟩:=row.get ed;have lz:=rz.length;rw[bM,kz]at lz;have yA:fb xs (c:Int)=some x:=cE au (by simpa using hx);refine⟨_,Z,_,Z,.inl ⟨ia,_,_,_,Z,Z,hi.go s3,yA,?_⟩⟩;refine⟨x,d,o,Z,RD.mono s3 _ rd,it,_,Z,?_⟩;cases o with
     |none=>
       refine aV ?_;refine⟨s3,zs,_,dz,?_,Z⟩;rw[om (g:=λk=>if os.length<=k+(i+1)then fl os.length (leadF os) (2*f) g k else g k) (g':=λk=>if os.length<=k+i then fl os.length (leadF os) (2*f) g k else g k)]
       ·exact rz
       · intro k _
         show(if os.length<=k+i then _ else g k)=if os.length<=k+(i+1)then _ else g k;by_cases h1:os.length<=k+i
         ·rw[bc h1,bc au]
         · rw[bf h1]
           by_cases h2:k=c
           ·subst h2;rw[bc au,yg oG (Hf eo)]
           ·rw[bf au] |some q=>
       obtain⟨ns,sp⟩:=q;refine bG ?_;have dD:=mK it;subst dD;obtain⟨du,_,_⟩:=row.ok c ns sp eo;obtain⟨z1,qk⟩:∃z,zs[c+1]? =some z:=⟨_,cy (show c+1<zs.length by lia)⟩;obtain⟨z0,qm⟩:∃z,zs[c]? =some z:=⟨_,cy (show c<zs.length by lia)⟩;have R1:bV K H3 z1 (fl os.length (leadF os) (2*f) g (c+1)):=by
        obtain⟨d1,e1,r1⟩:=rz.get' (c+1) qk;rw[bR,kA _ (show c+1<=os.length by lia)]at e1;cases e1;have:os.length<=c+1+i:=by lia
        simp only[bc this]at r1;exact kr r1
       have R0:bV K H3 z0 (g c):=by
        obtain⟨d1,e1,r1⟩:=rz.get' c qm;rw[bR,kA _ (show c<=os.length by lia)]at e1;cases e1;have:¬os.length<=c+i:=by lia
        simp only[bf this]at r1;exact kr r1
       have vi:((c:Int)+1).toNat=c+1:=by lia
       have yB:fb zs ((c:Int)+1)=some z1:=cE au (by rw[vi];exact qk);have yC:fb zs (c:Int)=some z0:=cE au (by simpa using qm);refine⟨_,Z,_,Z,.inl ⟨D,_,_,_,Z,Z,aI.of dz,yC,?_⟩⟩;refine⟨_,Z,_,Z,_,_,Z,Z,.inl ⟨D,_,_,_,Z,Z,aI.of dz,yB,?_⟩⟩;refine⟨_,Z,_,_,Z,Z,.of_left (dv ay ay),?_⟩;refine⟨_,Z,_,Z,.inl ⟨ia,_,_,_,Z,Z,hi.go s3,yA,?_⟩⟩;refine⟨x,ns,sp,Z,RD.mono s3 _ rd,du.ne,by rw[du.len];lia,λH4 s4=>?_⟩;have qj:=aG.f1;refine⟨_,_,Z,Z,.of_left (dv au au),?_⟩;have us:=hL c _ (uO eo);refine⟨z1,_,_,Z,R1.go s4,(FB (c+1) au).mono ay,us,λu H5 ru s5=>?_⟩;refine⟨ck Z,λl2 H6 n6=>?_⟩;have gX:=s4.trans (s5.trans n6.same);have yH:=R0.go gX;have Ru:=ru.go n6.same;have B1:Bd 2000 (g c):=(bg _ au).mono ay;have B2:Bd 2000 (fl os.length (leadF os) (2*f) g (c+1)+((2*f*(aO ns:Int):Int):Rat)):=(vx (FB (c+1) au) us).mono ay;refine⟨l2,[z0,u],[_,_],Z,aI.of n6.at',⟨yH,B1,Ru,B2,trivial⟩,by simp,λc' v q e1 e2 hq=>?_⟩;have oz:mn (g c) (fl os.length (leadF os) (2*f) g (c+1)+((2*f*(aO ns:Int):Int):Rat))=q:=by
        refine sj ?_ (hq _ (by simp)) (hq _ (by simp))
        match c',e2 with |0,e2=>cases e2;exact .inl rfl |1,e2=>cases e2;exact .inr rfl
       have Rv:bV K H6 v q:=by match c',e1,e2 with |0,e1,e2=>cases e1;cases e2;exact yH |1,e1,e2=>cases e1;cases e2;exact Ru
       have qr:=gX _ _ dz;have Hk:ir zs.length (c:Int)=some c:=by unfold ir;rw[bc au,bc au];simp
       refine⟨_,Z,_,Z,D,zs,_,_,Z,Z,qr,Hk,?_⟩;refine⟨λb o e=>?_,_,_,bW,?_,Z⟩
       ·rw[aU (fY e n1.no)];exact gX b o (s3 b o e)
       · have h:=aL.DE (i:=c) qr (aL.mono gX _ rz) Rv.rd (xf _) (rH _)
         rw[<-Co]at h;have e:(lst os.length λk=>if os.length<=k+i then fl os.length (leadF os) (2*f) g k else g k).set c q=lst os.length λk=>if os.length<=k+(i+1)then fl os.length (leadF os) (2*f) g k else g k:=by
          rw[<-GY (g:=λk=>if os.length<=k+i then fl os.length (leadF os) (2*f) g k else g k) (g':=λk=>if os.length<=k+(i+1)then fl os.length (leadF os) (2*f) g k else g k) (i:=c)]
          · have:os.length<=c+(i+1):=by lia
            simp only[bc this];rw[yi oG (uO eo),oz]
          · intro k _ hk
            show(if os.length<=k+(i+1)then _ else g k)=if os.length<=k+i then _ else g k;by_cases h1:os.length<=k+i
            ·rw[bc h1,bc au]
            ·rw[bf h1,bf au]
         rw[e]at h;exact h
   · rintro O H3 ⟨s3,zs,v1,dz,rz,rfl⟩
     rw[om (g:=λk=>if os.length<=k+os.length then fl os.length (leadF os) (2*f) g k else g k) (g':=fl os.length (leadF os) (2*f) g) (λk hk=>by show _=if os.length<=k+os.length then _ else _;rw[bc au])]at rz;exact⟨_,Z,k D zs H3 n1.no dz rz s3⟩
def OD(f j az:Int)(os:List Itm):Rat:=fl os.length (leadF os) (2*f) (ownF j az os) 1
inductive aaX(K:aa)(vs:List V)(H:Hp)(Q:VK):Prop |mk (m:_)(iv:_)(az:_)(rs:_)(r:_)(f:_)(j:_)(t:_)(ds:_)(os:_)(h0:vs=[m,iv,.int az])(h1:RD K H m (gw rs r f j t))(h2:jC rs r f j t)(h3:RD K H iv (.list ds))(h4:fL rs.length ds os)(h5:ds.length<=30)(h6:1<=ds.length)(h7:10<=az)(h8:az<=200)(h9:∀v H',bV K H' v (OD f j az os)->aD H H'->Q v H')
def D5(K:aa):Sp:=λvs H Q _=>aaX K vs H Q
abbrev E3:Stmt:=top 75
theorem ML:aW ["machine","items","rate"] ["machine","items","rate"] (aM E3):=bh aF
theorem a0u(F:FA K mg "reach_behind_first" E3)(B:bB mg)(HQ:aA P w K mg ao "own_bounds" 8 (LS K))(HY:aA P w K mg ao "kept_by_fall" 5 (M1 K)):aA P w K mg ao "reach_behind_first" 9 (D5 K):=by
 refine F.has ML (λvs H Q E h=>?_) (λ_ _ _ _ _ _=>jZ λ_ _ _=>rfl) (λfa aH A outer s H vs Q E hr h=>?_)
 ·obtain⟨m,iv,az,rs,r,f,j,t,ds,os,rfl,_⟩:=h
  rfl
 ·obtain⟨m,iv,az,rs,r,f,j,t,ds,os,rfl,rm,aG,ri,row,hz,h1,cL,cV,k⟩:=h
  have nd:=ML.nd;refine⟨_,(aJ (aP (px K (pf HY hr (ak (pv 0) (ak (pv 1) (ak (pf HQ hr (ak (pv 0) (ak (pv 1) (ak (pv 2) aw)))) aw)))) aE))),?_⟩;have ll:=row.len;have hB:=_O.Av aG.j1.1 aG.j1.2 cL cV row.kY;refine⟨_,Z,_,Z,_,Z,_,Z,_,Z,m,iv,az,rs,r,f,j,t,ds,os,Z,rm,aG,ri,row,au,cL,cV,λl1 y1 H1 nl1 d1 r1 s1=>?_⟩;refine⟨m,iv,l1,y1,rs,r,f,j,t,ds,os,ownF j az os,Z,RD.mono s1 _ rm,aG,RD.mono s1 _ ri,row,hz,d1,r1,λi _=>(hB i).mono ay,λl2 y2 H2 GF d2 r2 s2=>?_⟩;have ly:=r2.length;rw[bM,kz]at ly;obtain⟨z,ez⟩:∃z,y2[1]? =some z:=⟨_,cy (show 1<y2.length by lia)⟩;refine .inl ⟨l2,_,1,z,Z,Z,aI.of d2,cE ay ez,?_⟩;obtain⟨d,ed,rd⟩:=r2.get' 1 ez;rw[bR,kA _ (show 1<=os.length by lia)]at ed;cases ed;exact k z H2 (kr rd) (s1.trans s2)
open _O (Itm)
theorem a2P{H:Hp}{v:V}{rs:List Int}{es:List ah}(h:RD K H v (.tuple (.tuple (rs.map PyData.int)::es))):∃a b ys,v= .ref a/\aY K H a (.ref b::ys)/\aY K H b (rs.map V.int):=by obtain⟨a,xs,rfl,h1,h2⟩:=h.cJ;obtain⟨x1,r1,rfl,e1,h2⟩:=h2.cons_inv;obtain⟨b,ys,rfl,h3,h4⟩:=e1.cJ;rw[h4.gP]at h3;exact⟨a,b,r1,Z,h1,h3⟩
def gy(z:Str):ah->Bool | .str x=>x==z |_=>false
theorem BC(z:Str)(d:ah):PyData.eqv d (.str z)=gy z d:=by cases d<;>simp[PyData.eqv,gy]
theorem Sw(z:Str)(d:ah):PyData.eqv (.str z) d=gy z d:=by cases d<;>simp[PyData.eqv,gy];rw[jg];simp;exact eq_comm
theorem X2(d:ah):(∃z,d= .str z)\/(iW (kL d) "str"=false/\∀z,d≠ .str z):=by cases d with |str z=>exact .inl ⟨z,Z⟩ |_=>exact .inr ⟨by simp[kL];decide,λ_ z=>nomatch z⟩
theorem W0:iW "str" "str"=true:=by decide
def Hm(d:ah):Bool:=gy "up" d||gy "down" d
def uE(c:Nat):Bool:=decide (97<=c)&&decide (c<=122)
def isNm:ah->Bool | .str x=>(decide (1<=x.length)&&decide (x.length<=8))&&x.cps.toList.all uE |_=>false
def ow(wd v:ah):Bool:=if gy "wait" wd then df 1 1000 v else if gy "tool" wd then Hm v else gy "mark" wd&&isNm v
def xb:ah->Bool | .int i=>i !=0 |_=>true
def rV(n:Nat):ah->Bool | .tuple ds=>(ds.length==n&&ds.all (df (-100) 100))&&ds.any xb |_=>false
def lA(n:Nat):ah->Bool | .tuple [wd,a,b]=>gy "line" wd&&(rV n a&&df 1 20 b) | .tuple [wd,v]=>ow wd v |_=>false
def jl:ah->Bool | .str x=>decide (x.length<=900) |_=>true
def A2:ah->Bool | .tuple ds=>ds.all jl |_=>true
inductive aaH(f:ah->Bool)(K:aa)(vs:List V)(H:Hp)(Q:VK):Prop |mk (v:_)(d:_)(h0:vs=[v])(h1:RD K H v d)(h2:jl d=true)(h3:∀H',aD H H'->Q (.bl (f d)) H')
def LD(f:ah->Bool)(K:aa):Sp:=λvs H Q _=>aaH f K vs H Q
theorem Xn{z:Str}(h:jl (.str z)=true):z.length<=900:=kg h
theorem PV(n:Nat):decide ((1:Int)<=(n:Int))=decide (1<=n):=by rw[jg];simp;omega
theorem a2n(n:Nat):decide ((n:Int)<=8)=decide (n<=8):=by rw[jg];simp;omega
theorem Ug{l:List Nat}{f:Nat->Bool}:(l.map f).all id=l.all f:=by rw[List.all_map];rfl
theorem aah:∀c<128,decide (c∈iL.cps.toList)=uE c:=by decide+kernel
theorem aak:∀c∈iL.cps.toList,c<128:=by decide+kernel
theorem aaj(c:Nat):decide (c∈iL.cps.toList)=uE c:=by
 by_cases h:c<128
 ·exact aah c h
 ·rw[dE (λhc=>h (aak c hc)),uE,dE (show¬c<=122 by omega),Cy]
abbrev EV:Stmt:=top 37
theorem Nr:aW ["thing"] ["thing"] (aM EV):=bh aF
theorem a0Y(F:FA K mg "is_name" EV)(B:bB mg)(a64:GV mg "LONGEST_NAME" (.int 8))(a65:GV mg "LETTERS" (.str iL)):aA P w K mg ao "is_name" 1 (LD isNm K):=by
 refine F.has Nr (λvs H Q E h=>?_) (λ_ _ _ _ _ _=>cu λ_=>rfl) (λf aH A outer s H vs Q E hr h=>?_)
 ·obtain⟨v,d,rfl,_⟩:=h
  rfl
 ·obtain⟨v,d,rfl,rd,sh,k⟩:=h
  have nd:=Nr.nd;refine⟨_,(aB (bJ (PW.pt (kR (dB (cH (nZ K B (ak (pv 0) (ak (mr (x:="str") (v:=.ty "str") Z (B.at "str") gm rfl) aw))))) (kQ (dB (YQ Ay Ay aE (dg (x:="len") a9D rfl (B.at "len") PySem.boot_len (ak (pv 0) aw)) (cQ (x:="LONGEST_NAME") rfl a64)))))) (aJ (aP gK)) bK) (aJ (aP (dg (x:="all") (vt K Z Z) Z (B.at "all") yV (ak (eY (N:=["letter"]) (js:=[none]) rfl rfl rfl (Gb (pv 0)) (λ_ _ _ _ _=>(bj 0 (hJ _))) (λ_ _ _ _ _=>dS) (λ_ _ _ _ _=>(jq Pj (pv 0) (cQ (x:="LETTERS") rfl a65) (by with_unfolding_all rfl)))) aw))))),?_⟩;rcases X2 d with⟨z,rfl⟩|⟨ht,hn⟩
  ·refine⟨_,Z,.inl ⟨_,_,"str",true,Z,rd.ty,ay,W0,_,Z,aV ?_⟩⟩
   cases rd.str_inv;have hl:=Xn sh;have k:∀H',aD H H'->Q (.bl ((decide (1<=z.length)&&decide (z.length<=8))&&z.cps.toList.all uE)) H':=k;refine⟨_,Z,z,Z,gH hl ay,_,_,Z,Z,_,Z,?_⟩;refine eP (λh1=>?_) (λh1=>?_)
   ·rw[<-PV,show decide ((1:Int)<=(z.length:Int))=true from h1,iA]at k
    refine⟨_,_,Z,Z,_,Z,?_⟩;rw[a2n];cases e8:decide (z.length<=8)with |false=>rw[e8,iB]at k;exact bG (k H (aD.refl _)) |true=>
     rw[e8,iA]at k;refine aV ⟨_,Z,z,Z,λD H0 nw=>?_⟩;refine Tr (f:=uE) [] nw au (λc H2 Q' hc s2 hq=>?_) (λH2 s2 d2=>?_)
     ·refine⟨_,Z,c,iL,Z,Z,?_⟩
      rw[aaj];exact hq _ (aD.refl _)
     ·refine⟨D,_,Z,aI.of d2,?_⟩
      rw[Ug];exact k H2 s2
   ·rw[<-PV,show decide ((1:Int)<=(z.length:Int))=false from Cw.mpr h1,iB,iB]at k
    exact⟨_,Z,bG (k H (aD.refl _))⟩
  ·have e:isNm d=false:=by cases d<;>first|rfl|exact absurd rfl (hn _)
   rw[e]at k;refine⟨_,Z,.inl ⟨_,_,"str",false,Z,rd.ty,ay,ht,_,Z,bG ?_⟩⟩;exact k H (aD.refl _)
inductive aaR(K:aa)(vs:List V)(H:Hp)(Q:VK):Prop |mk (x:_)(v:_)(wd:_)(d:_)(h0:vs=[x,v])(h1:RD K H x wd)(h2:RD K H v d)(h3:dh 8 wd)(h4:dh 8 d)(h5:jl d=true)(h6:∀H',aD H H'->Q (.bl (ow wd d)) H')
def LK(K:aa):Sp:=λvs H Q _=>aaR K vs H Q
theorem wF{d:ah}(h:dh 8 d):SeqAt.shaped d=true:=h.shaped ay
abbrev ET:Stmt:=top 36
theorem Np:aW ["word","value"] ["word","value"] (aM ET):=bh aF
theorem a0W(F:FA K mg "is_short_item" ET)(B:bB mg)(a62:GV mg "LONGEST_WAIT" (.int 1000))(gS:GT K mg "SIDES" [.str "up",.str "down"])(iI:aA P w K mg ao "is_whole_within" 2 (m8 K))(a59:aA P w K mg ao "is_name" 1 (LD isNm K)):aA P w K mg ao "is_short_item" 3 (LK K):=by
 refine F.has Np (λvs H Q E h=>?_) (λ_ _ _ _ _ _=>dN λ_ _=>rfl) (λf aH A outer s H vs Q E hr h=>?_)
 ·obtain⟨x,v,wd,d,rfl,_⟩:=h
  rfl
 ·obtain⟨x,v,wd,d,rfl,FJ,rd,Gm,uD,sh,k⟩:=h
  have nd:=Np.nd;obtain⟨aS,a5O,Xa⟩:=gS;refine⟨_,(aB (bJ (bX (dF K Z hr.units) (pv 0) bo (bL _)) (aJ (aP (pf iI hr (ak (pv 1) (ak aE (ak (cQ (x:="LONGEST_WAIT") Z a62) aw)))))) bK) (aB (bJ (bX (dF K Z hr.units) (pv 0) bo (bL _)) (aJ (aP (jq (a40 K Z (hr.VW)) (pv 1) (cQ (x:="SIDES") Z a5O) (by with_unfolding_all rfl)))) bK) (aJ (aP (uw (jq (dF K Z hr.units) (pv 0) bo (bL _)) (pK (pf a59 hr (ak (pv 1) aw)))))))),?_⟩;have k:∀H',aD H H'->Q (.bl (if gy "wait" wd then df 1 1000 d else if gy "tool" wd then Hm d else gy "mark" wd&&isNm d)) H':=k;refine⟨_,Z,.inr ⟨_,_,FJ,bu _,wF Gm,aF,_,Z,?_⟩⟩;rw[BC];cases e1:gy "wait" wd with |true=>rw[e1,bc rfl]at k;exact bG ⟨_,Z,_,d,1,1000,Z,rd,k H (aD.refl _)⟩ |false=>rw[e1,bf dQ]at k;refine aV ⟨_,Z,.inr ⟨_,_,FJ,bu _,wF Gm,aF,_,Z,?_⟩⟩;rw[BC];cases e2:gy "tool" wd with
   |true=>
    rw[e2,bc rfl]at k;refine bG ⟨_,Z,aS,_,d,[.str "up",.str "down"],Z,Xa H,rd,cF (bu _) (cF (bu _) dy),wF uD,?_,?_⟩
    ·intro e he
     rcases cg.mp he with rfl|he
     ·decide+kernel
     rcases cg.mp he with rfl|he
     ·decide+kernel
     ·exact(eT he).elim
    ·have e:([.str "up",.str "down"]:List ah).any (λe=>PyData.eqv e d)=Hm d:=by rw[vW,vW,List.any_nil,Sw,Sw,Bool.or_false];rfl
     rw[e];exact k H (aD.refl _) |false=>rw[e2,bf dQ]at k;refine aV ⟨_,Z,.inr ⟨_,_,FJ,bu _,wF Gm,aF,_,Z,?_⟩⟩;rw[BC];cases e3:gy "mark" wd with |true=>rw[e3,iA]at k;exact bG ⟨_,Z,_,d,Z,rd,sh,k⟩ |false=>rw[e3,iB]at k;exact aV (k H (aD.refl _))
theorem a1N(i:Int):(!decide (i=0))=(i !=0):=by rw[jg];simp
theorem a3Z{lo hi:Int}{d:ah}(h:df lo hi d=true):∃i,d= .int i:=by cases d<;>simp[df]at h;exact⟨_,Z⟩
theorem any_map'{ds:List ah}{f:ah->Bool}:(ds.map f).any id=ds.any f:=by rw[List.any_map];rfl
inductive aaP(K:aa)(vs:List V)(H:Hp)(Q:VK):Prop |mk (m:V)(v:V)(rs:List Int)(es:List ah)(d:ah)(h0:vs=[m,v])(h1:RD K H m ((.tuple (.tuple (rs.map PyData.int)::es))))(h2:RD K H v d)(h3:rs.length<=3)(h4:∀H',aD H H'->Q (.bl (rV rs.length d)) H')
def LI(K:aa):Sp:=λvs H Q _=>aaP K vs H Q
abbrev Ft:Stmt:=top 35
theorem NT:aW ["machine","thing","rails"] ["machine","thing"] (aM Ft):=bh aF
theorem a1x(F:FA K mg "are_steps" Ft)(B:bB mg)(RU:GV mg "MOST_STEPS" (.int 100))(iI:aA P w K mg ao "is_whole_within" 2 (m8 K)):aA P w K mg ao "are_steps" 3 (LI K):=by
 refine F.has NT (λvs H Q E h=>?_) (λ_ _ _ _ _ _=>dN λ_ _=>rfl) (λf aH A outer s H vs Q E hr h=>?_)
 ·obtain⟨m,v,rs,es,d,rfl,_⟩:=h
  rfl
 ·obtain⟨m,v,rs,es,d,rfl,rm,rd,l3,k⟩:=h
  have nd:=NT.nd;refine⟨_,(aB (pS 2 nd (px K (pv 0) aE)) (aB (bJ (PW.pt (kR (dB (cH (nZ K B (ak (pv 1) (ak (mr (x:="tuple") (v:=.ty "tuple") Z (B.at "tuple") iU rfl) aw))))) (kQ (bX (my K rfl hr.units) (fH K B (ak (pv 1) aw)) (fH K B (ak (pv 2) aw)) (bL _))))) (aJ (aP gK)) bK) (aB (bJ (dB (cH (dg (x:="all") (vt K Z Z) Z (B.at "all") yV (ak (eY (N:=["step"]) (js:=[none]) rfl rfl rfl (kv K rfl (pv 1)) (λ_ _ _ _ _=>(bj 0 (hJ _))) (λ_ _ _ _ _=>dS) (λ_ _ _ _ _=>(pf iI hr (ak (pv 0) (ak (ml lZ (cQ (x:="MOST_STEPS") rfl RU)) (ak (cQ (x:="MOST_STEPS") rfl RU) aw)))))) aw)))) (aJ (aP gK)) bK) (aJ (aP (dg (x:="any") (aa3 K Z Z) Z (B.at "any") V2 (ak (eY (N:=["step"]) (js:=[none]) rfl rfl rfl (kv K rfl (pv 1)) (λ_ _ _ _ _=>(bj 0 (hJ _))) (λ_ _ _ _ _=>dS) (λ_ _ _ _ _=>(jq (my K rfl hr.units) (pv 0) aE (bL _)))) aw))))))),?_⟩;obtain⟨am,ar,ym,rfl,hm,har⟩:=a2P rm;refine⟨_,Z,.inr ⟨am,_,0,_,Z,Z,hm,cE (dY 0) Z,?_⟩⟩;rcases wj d with⟨ds,rfl⟩|⟨ht,hn⟩
  ·refine⟨_,Z,.inl ⟨_,_,"tuple",true,Z,rd.ty,ay,pA,_,Z,aV ?_⟩⟩
   obtain⟨av,xs,rfl,hx,hd⟩:=rd.cJ;have hl:=hd.length;refine⟨_,Z,av,_,Z,.inr hx,_,Z,ar,_,Z,.inr har,.inl ⟨_,_,Z,Z,_,Z,?_⟩⟩;have k:∀H',aD H H'->Q (.bl ((ds.length==rs.length&&ds.all (df (-100) 100))&&ds.any xb)) H':=k;have e0:(!decide ((xs.length:Int)=((rs.map V.int).length:Int)))= !(ds.length==rs.length):=by rw[hl,bM];congr 1;rw[jg];simp;lia
   rw[e0];cases e:(ds.length==rs.length)with |false=>rw[e,iB,iB]at k;exact bG (k H (aD.refl _)) |true=>
    rw[e,iA]at k;refine aV ?_;have el:ds.length=rs.length:=fm.mp e;refine⟨_,Z,av,Z,⟨_,hx⟩,λD H0 nw=>?_⟩;refine BN (xs:=xs) (bs:=ds.map (df (-100) 100)) [] hx nw (by rw[bM,hl]) au ?_ ?_
    ·intro i x b H2 Q' ex eb s2 hq
     obtain⟨d,ed,rfl⟩:=AN eb;obtain⟨x',ja,rx⟩:=hd.get i ed;rw[ex]at ja;cases ja;exact⟨_,Z,_,Z,_,d,-100,100,Z,RD.mono s2 _ rx,hq _ (aD.refl _)⟩
    ·intro H2 s2 d2
     refine⟨D,_,Z,aI.of d2,_,Z,?_⟩;rw[all_map];cases e1:ds.all (df (-100) 100)with |false=>rw[e1,iB]at k;exact bG (k H2 s2) |true=>
      rw[e1,iA]at k;refine aV ⟨_,Z,av,Z,⟨_,hx.go s2⟩,λD2 H3 n3=>?_⟩;refine BN (xs:=xs) (bs:=ds.map xb) [] (hx.go s2) n3 (by rw[bM,hl]) au ?_ ?_
      ·intro i x b H4 Q' ex eb s4 hq
       obtain⟨d,ed,rfl⟩:=AN eb;obtain⟨x',ja,rx⟩:=hd.get i ed;rw[ex]at ja;cases ja;obtain⟨z,rfl⟩:=a3Z (fU.mp e1 d (fc ed));cases rx.int_inv;refine⟨_,Z,.inl ⟨_,_,Z,Z,?_⟩⟩;show Q' (.bl (!decide (z=0))) H4;rw[a1N];exact hq _ (aD.refl _)
      ·intro H4 s4 d4
       refine⟨D2,_,Z,aI.of d4,?_⟩;rw[any_map'];exact k H4 (s2.trans s4)
  ·have e:rV rs.length d=false:=by cases d<;>first|rfl|exact absurd rfl (hn _)
   rw[e]at k;refine⟨_,Z,.inl ⟨_,_,"tuple",false,Z,rd.ty,ay,ht,_,Z,bG ?_⟩⟩;exact k H (aD.refl _)
theorem item_cases(n:Nat)(d:ah):(∃wd a b,d= .tuple [wd,a,b])\/(∃wd v,d= .tuple [wd,v])\/(∃ds,d= .tuple ds/\ds.length≠3/\ds.length≠2/\lA n d=false)\/(iW (kL d) "tuple"=false/\lA n d=false):=by
 rcases wj d with⟨ds,rfl⟩|⟨ht,hn⟩
 ·match ds with |[r,a,b]=>exact .inl ⟨r,a,b,Z⟩ |[r,a]=>exact .inr (.inl ⟨r,a,Z⟩) |[]=>exact .inr (.inr (.inl ⟨_,Z,by simp,by simp,by simp[lA]⟩)) |[_]=>exact .inr (.inr (.inl ⟨_,Z,by simp,by simp,by simp[lA]⟩)) |_::_::_::_::_=>exact .inr (.inr (.inl ⟨_,Z,by simp,by simp,by simp[lA]⟩))
 ·exact .inr (.inr (.inr ⟨ht,by cases d<;>first|rfl|exact absurd rfl (hn _)⟩))
inductive abz(K:aa)(vs:List V)(H:Hp)(Q:VK):Prop |mk (m:V)(v:V)(rs:List Int)(es:List ah)(d:ah)(h0:vs=[m,v])(h1:RD K H m ((.tuple (.tuple (rs.map PyData.int)::es))))(h2:RD K H v d)(h3:rs.length<=3)(h4:dh 8 d)(h5:A2 d=true)(h6:∀H',aD H H'->Q (.bl (lA rs.length d)) H')
def zV(K:aa):Sp:=λvs H Q _=>abz K vs H Q
theorem Gq{ds:List ah}(h:dh 8 (.tuple ds)){d:ah}(hd:d∈ds):dh 8 d:=((dh.cJ (n:=7) h) d hd).le ay
theorem Xo{ds:List ah}(h:A2 (.tuple ds)=true){d:ah}(hd:d∈ds):jl d=true:=fU.mp (show ds.all jl=true from h) d hd
abbrev EY:Stmt:=top 31
theorem Nv:aW ["machine","thing","word","steps","speed","value"] ["machine","thing"] (aM EY):=bh aF
theorem a1a(F:FA K mg "is_item" EY)(B:bB mg)(a67:GV mg "GREATEST_SPEED" (.int 20))(iI:aA P w K mg ao "is_whole_within" 2 (m8 K))(a5I:aA P w K mg ao "are_steps" 3 (LI K))(a58:aA P w K mg ao "is_short_item" 3 (LK K)):aA P w K mg ao "is_item" 4 (zV K):=by
 refine F.has Nv (λvs H Q E h=>?_) (λ_ _ _ _ _ _=>dN λ_ _=>rfl) (λf aH A outer s H vs Q E hr h=>?_)
 ·obtain⟨m,v,rs,es,d,rfl,_⟩:=h
  rfl
 ·obtain⟨m,v,rs,es,d,rfl,rm,rd,l3,uD,sh,k⟩:=h
  have nd:=Nv.nd;refine⟨_,(aB (bJ (dB (cH (nZ K B (ak (pv 1) (ak (mr (x:="tuple") (v:=.ty "tuple") Z (B.at "tuple") iU rfl) aw))))) (aJ (aP gK)) bK) (aB (bJ (bX (dF K Z hr.units) (fH K B (ak (pv 1) aw)) aE (bL _)) (aB (eM (pv 1) (eX K Z (n:=3) Z (bZ (bj 2 nd) (bZ (bj 3 nd) (bZ (bj 4 nd) eW))))) (aJ (aP (uw (jq (dF K Z hr.units) (pv 2) bo (bL _)) (uw (pf a5I hr (ak (pv 0) (ak (pv 3) aw))) (pK (pf iI hr (ak (pv 4) (ak aE (ak (cQ (x:="GREATEST_SPEED") Z a67) aw)))))))))) bK) (aB (bJ (bX (dF K Z hr.units) (fH K B (ak (pv 1) aw)) aE (bL _)) (aB (eM (pv 1) (eX K Z (n:=2) Z (bZ (bj 2 nd) (bZ (bj 5 nd) eW)))) (aJ (aP (pf a58 hr (ak (pv 2) (ak (pv 5) aw)))))) bK) (aJ (aP gK))))),?_⟩;rcases item_cases rs.length d with⟨wd,a,b,rfl⟩|⟨wd,a,rfl⟩|⟨ds,rfl,h3,h2,hf⟩|⟨ht,hf⟩
  ·refine⟨_,Z,.inl ⟨_,_,"tuple",true,Z,rd.ty,ay,pA,_,Z,aV ?_⟩⟩
   obtain⟨p,xs,rfl,hx,hd⟩:=rd.cJ;obtain⟨u1,ys,rfl,r1,hd⟩:=hd.cons_inv;obtain⟨u2,ys,rfl,r2,hd⟩:=hd.cons_inv;obtain⟨u3,ys,rfl,r3,hd⟩:=hd.cons_inv;cases hd.nil_inv;have k:∀H',aD H H'->Q (.bl (gy "line" wd&&(rV rs.length a&&df 1 20 b))) H':=k;refine⟨_,Z,p,_,Z,.inr hx,.inl ⟨_,_,Z,Z,_,Z,bG ?_⟩⟩;refine⟨_,Z,p,_,Z,hx,Z,_,_,Z,_,_,Z,_,_,Z,Z,?_⟩;refine⟨_,Z,.inr ⟨_,_,r1,bu _,wF (Gq uD (by simp)),aF,_,Z,?_⟩⟩;rw[BC];cases e1:gy "line" wd with |false=>rw[e1,iB]at k;exact aV (k H (aD.refl _)) |true=>rw[e1,iA]at k;refine bG ⟨_,Z,_,Z,_,_,rs,es,a,Z,rm,r2,l3,λH1 s1=>⟨_,Z,?_⟩⟩;cases e2:rV rs.length a with |false=>rw[e2,iB]at k;exact aV (k H1 s1) |true=>rw[e2,iA]at k;exact bG ⟨_,Z,_,b,1,20,Z,RD.mono s1 _ r3,k H1 s1⟩
  ·refine⟨_,Z,.inl ⟨_,_,"tuple",true,Z,rd.ty,ay,pA,_,Z,aV ?_⟩⟩
   obtain⟨p,xs,rfl,hx,hd⟩:=rd.cJ;obtain⟨u1,ys,rfl,r1,hd⟩:=hd.cons_inv;obtain⟨u2,ys,rfl,r2,hd⟩:=hd.cons_inv;cases hd.nil_inv;have k:∀H',aD H H'->Q (.bl (ow wd a)) H':=k;refine⟨_,Z,p,_,Z,.inr hx,.inl ⟨_,_,Z,Z,_,Z,aV ?_⟩⟩;refine⟨_,Z,p,_,Z,.inr hx,.inl ⟨_,_,Z,Z,_,Z,bG ?_⟩⟩;refine⟨_,Z,p,_,Z,hx,Z,_,_,Z,_,_,Z,Z,?_⟩;exact⟨_,Z,_,Z,_,_,wd,a,Z,r1,r2,Gq uD (by simp),Gq uD (by simp),Xo sh (by simp),k⟩
  ·rw[hf]at k
   refine⟨_,Z,.inl ⟨_,_,"tuple",true,Z,rd.ty,ay,pA,_,Z,aV ?_⟩⟩;obtain⟨p,xs,rfl,hx,hd⟩:=rd.cJ;have hl:=hd.length;refine⟨_,Z,p,_,Z,.inr hx,.inl ⟨_,_,Z,Z,_,Z,?_⟩⟩;rw[show decide ((xs.length:Int)=3)=false from dE au];refine aV ⟨_,Z,p,_,Z,.inr hx,.inl ⟨_,_,Z,Z,_,Z,?_⟩⟩;rw[show decide ((xs.length:Int)=2)=false from dE au];exact aV (k H (aD.refl _))
  ·rw[hf]at k
   refine⟨_,Z,.inl ⟨_,_,"tuple",false,Z,rd.ty,ay,ht,_,Z,bG ?_⟩⟩;exact k H (aD.refl _)
def Hn(rs:List Int):ah->Bool | .tuple es=>es.length==rs.length&&((es.zip rs).map λp=>df 0 p.2 p.1).all id |_=>false
inductive abD(K:aa)(vs:List V)(H:Hp)(Q:VK):Prop |mk (m:V)(v:V)(rs:List Int)(ds:List ah)(d:ah)(h0:vs=[m,v])(h1:RD K H m (.tuple (.tuple (rs.map PyData.int)::ds)))(h2:RD K H v d)(h3:rs.length<=3)(h4:∀H',aD H H'->Q (.bl (Hn rs d)) H')
def zX(K:aa):Sp:=λvs H Q _=>abD K vs H Q
theorem zip_get{es:List ah}{rs:List Int}{i:Nat}{b:Bool}(h:((es.zip rs).map λp=>df 0 p.2 p.1)[i]? =some b):∃e r,es[i]? =some e/\rs[i]? =some r/\df 0 r e=b:=by rw[bR]at h;cases q:(es.zip rs)[i]? with |none=>rw[q]at h;cases h |some p=>rw[q]at h;obtain⟨e1,e2⟩:=Kt.mp q;exact⟨p.1,p.2,e1,e2,dG h⟩
theorem ints_get{rs:List Int}{i:Nat}{r:Int}(h:rs[i]? =some r):(rs.map V.int)[i]? =some (.int r):=by rw[bR,h];rfl
abbrev EU:Stmt:=top 22
theorem Nq:aW ["machine","thing","rails"] ["machine","thing"] (aM EU):=bh aF
theorem a0X(F:FA K mg "is_place" EU)(B:bB mg)(iI:aA P w K mg ao "is_whole_within" 2 (m8 K)):aA P w K mg ao "is_place" 3 (zX K):=by
 refine F.has Nq (λvs H Q E h=>?_) (λ_ _ _ _ _ _=>dN λ_ _=>rfl) (λf aH A outer s H vs Q E hr h=>?_)
 ·obtain⟨m,v,rs,ds,d,rfl,_⟩:=h
  rfl
 ·obtain⟨m,v,rs,ds,d,rfl,rm,rd,l3,k⟩:=h
  have nd:=Nq.nd;refine⟨_,(aB (pS 2 nd (px K (pv 0) aE)) (aB (bJ (PW.pt (kR (dB (cH (nZ K B (ak (pv 1) (ak (mr (x:="tuple") (v:=.ty "tuple") Z (B.at "tuple") iU rfl) aw))))) (kQ (bX (my K rfl hr.units) (fH K B (ak (pv 1) aw)) (fH K B (ak (pv 2) aw)) (bL _))))) (aJ (aP gK)) bK) (aJ (aP (dg (x:="all") (vt K Z Z) Z (B.at "all") yV (ak (eY (N:=["number","rail"]) (js:=[none,none]) rfl rfl rfl (rO K rfl false false rfl (B.at "zip") (ak (pv 1) (ak (pv 2) aw))) (λ_ _ _ _ _=>(eX K rfl (n:=2) rfl (bZ (bj 0 (kx ay)) (bZ (bj 1 (kx ay)) eW)))) (λ_ _ _ _ _=>dS) (λ_ _ _ _ _=>(pf iI hr (ak (pv 0) (ak aE (ak (pv 1) aw)))))) aw)))))),?_⟩;obtain⟨am,xm,rfl,hm,hdm⟩:=rm.cJ;obtain⟨yr,ym,rfl,r1,adL⟩:=hdm.cons_inv;obtain⟨ar,xr,rfl,Bg,hdr⟩:=r1.cJ;cases hdr.gP;refine⟨_,Z,.inr ⟨am,_,0,_,Z,Z,hm,cE (dY 0) Z,?_⟩⟩;rcases wj d with⟨es,rfl⟩|⟨ht,hn⟩
  ·refine⟨_,Z,.inl ⟨_,_,"tuple",true,Z,rd.ty,ay,pA,_,Z,aV ?_⟩⟩
   obtain⟨av,xs,rfl,hx,hd⟩:=rd.cJ;have hl:=hd.length;refine⟨_,Z,av,_,Z,.inr hx,_,Z,ar,_,Z,.inr Bg,.inl ⟨_,_,Z,Z,_,Z,?_⟩⟩;have k:∀H',aD H H'->Q (.bl (es.length==rs.length&&((es.zip rs).map λp=>df 0 p.2 p.1).all id)) H':=k;have e0:(decide ((xs.length:Int)=((rs.map V.int).length:Int)))=(es.length==rs.length):=by rw[hl,bM,jg];simp;lia
   rw[e0];cases e:(es.length==rs.length)with |false=>rw[e,iB]at k;exact bG (k H (aD.refl _)) |true=>
    rw[e,iA]at k;refine aV ?_;have el:es.length=rs.length:=fm.mp e;refine⟨_,Z,_,Z,av,ar,Z,⟨_,hx⟩,⟨_,Bg⟩,λD H0 nw=>?_⟩;refine a9l (b1:=false) (b2:=false) (xs:=xs) (ys:=rs.map V.int) (bs:=(es.zip rs).map λp=>df 0 p.2 p.1) [] rfl hx Bg nw (by rw[bM,bM,List.length_zip,hl]) (by rw[bM,List.length_zip];lia) ?_ ?_
    ·intro i x y b H2 Q' ex ey eb s2 hq
     obtain⟨e',r,ee,er,rfl⟩:=zip_get eb;obtain⟨x',ja,rx⟩:=hd.get i ee;rw[ex]at ja;cases ja;rw[ints_get er]at ey;cases ey;exact⟨_,Z,_,Z,_,e',0,r,Z,RD.mono s2 _ rx,hq _ (aD.refl _)⟩
    ·intro H2 s2 d2
     exact⟨D,_,Z,aI.of d2,k H2 s2⟩
  ·have e:Hn rs d=false:=by cases d<;>first|rfl|exact absurd rfl (hn _)
   rw[e]at k;refine⟨_,Z,.inl ⟨_,_,"tuple",false,Z,rd.ty,ay,ht,_,Z,bG ?_⟩⟩;exact k H (aD.refl _)
inductive abo(K:aa)(vs:List V)(H:Hp)(Q:VK):Prop |mk (pw:_)(b:_)(pl:_)(ns:_)(h0:vs=[pw,.ref b])(h1:RD K H pw (fG pl))(h2:aY K H b (ns.map V.int))(h3:ns.length=pl.length)(h4:pl.length<=1000)(h5:∀v' H',RD K H' v' (fG (jc pl ns))->aD H H'->Q v' H')
def zT(K:aa):Sp:=λvs H Q _=>abo K vs H Q
abbrev EB:Stmt:=top 34
theorem N4:aW ["place","steps"] ["place","steps"] (aM EB):=bh aF
theorem a0F(F:FA K mg "moved" EB)(B:bB mg):aA P w K mg ao "moved" 1 (zT K):=by
 refine F.has N4 (λvs H Q E h=>?_) (λ_ _ _ _ _ _=>dN λ_ _=>rfl) (λf aH A outer s H vs Q E hr h=>?_)
 ·obtain⟨pw,b,pl,ns,rfl,_⟩:=h
  rfl
 ·obtain⟨pw,b,pl,ns,rfl,rp,hb,ln,hz,k⟩:=h
  have nd:=N4.nd;refine⟨_,(aJ (aP (cS (x:="tuple") (kl K Z) Z (B.at "tuple") iU (ak (eY (N:=["number","step"]) (js:=[none,none]) rfl rfl rfl (rO K rfl false false rfl (B.at "zip") (ak (pv 0) (ak (pv 1) aw))) (λ_ _ _ _ _=>(eX K rfl (n:=2) rfl (bZ (bj 0 (kx ay)) (bZ (bj 1 (kx ay)) eW)))) (λ_ _ _ _ _=>dS) (λ_ _ _ _ _=>(aQ dI (pv 0) (pv 1)))) aw)))),?_⟩;obtain⟨pa,rfl,hp⟩:=YW rp;refine⟨_,Z,_,Z,pa,b,Z,⟨_,hp⟩,⟨_,hb⟩,λD H1 n1=>?_⟩;refine BM (K:=K) (b1:=false) (b2:=false) (xs:=pl.map V.int) (ys:=ns.map V.int) (ds:=(jc pl ns).map PyData.int) [] rfl hp hb n1 (by simp[oY ln,ln]) (by rw[bM,oY ln];exact hz) (og _) ?_ ?_
  ·intro i x y d H2 Q' ex ey ed s2 hq
   obtain⟨m,em,rfl⟩:=sx ed;rw[bR]at ex ey;cases e1:pl[i]? with |none=>rw[e1]at ex;cases ex |some u=>cases e2:ns[i]? with |none=>rw[e2]at ey;cases ey |some v=>rw[e1]at ex;rw[e2]at ey;cases ex;cases ey;rw[yD e1 e2]at em;cases em;exact⟨_,Z,_,Z,_,_,Z,Z,hq _ _ (aD.refl _) (fE _)⟩
  ·intro H2 zs s2 d2 r2
   refine⟨D,_,Z,.inl ⟨aI.of d2,λt H3 n3=>?_⟩⟩;have et:=n3.at';rw[r2.gP]at et;exact k (.ref t) H3 (OV (aY.of et)) (s2.trans n3.same)
inductive abX(K:aa)(vs:List V)(H:Hp)(Q:VK):Prop |mk (pw:_)(iv:_)(pl:_)(d:_)(o:_)(h0:vs=[pw,iv])(h1:RD K H pw (fG pl))(h2:RD K H iv d)(h3:itR d o)(h4:(∀ns sp,o=some (ns,sp)->ns.length=pl.length))(h5:pl.length<=1000)(h6:∀v' H',RD K H' v' (fG (iy pl o))->aD H H'->Q v' H')
def wC(K:aa):Sp:=λvs H Q _=>abX K vs H Q
abbrev Fh:Stmt:=top 33
theorem NM:aW ["place","item"] ["place","item"] (aM Fh):=bh aF
theorem a1q(F:FA K mg "place_behind" Fh)(B:bB mg)(jv:aA P w K mg ao "is_line" 1 (pF K))(HW:aA P w K mg ao "moved" 1 (zT K)):aA P w K mg ao "place_behind" 2 (wC K):=by
 refine F.has NM (λvs H Q E h=>?_) (λ_ _ _ _ _ _=>dN λ_ _=>rfl) (λf aH A outer s H vs Q E hr h=>?_)
 ·obtain⟨pw,iv,pl,d,o,rfl,_⟩:=h
  rfl
 ·obtain⟨pw,iv,pl,d,o,rfl,rp,ri,it,hl,hz,k⟩:=h
  have nd:=NM.nd;refine⟨_,(aJ (aP (gZ (cH (pf jv hr (ak (pv 1) aw))) (pf HW hr (ak (pv 0) (ak (px K (pv 1) aE) aw))) (pv 0)))),?_⟩;refine⟨_,Z,iv,d,o,Z,ri,it,_,Z,?_⟩;cases o with |some q=>obtain⟨ns,sp⟩:=q;refine bG ?_;have ed:=mK it;subst ed;obtain⟨a,b,rfl,ha,hb⟩:=uN ri;exact⟨_,Z,_,Z,.inr ⟨a,_,1,.ref b,Z,Z,ha,Z,pw,b,pl,ns,Z,rp,hb,hl ns sp Z,hz,λv' H' r s=>k v' H' r s⟩⟩ |none=>refine aV ?_;exact⟨_,Z,k pw H rp (aD.refl _)⟩
open _R
def eV(m b d q p r s k t:V):List (Str×V):=[("machine",m),("begun_at",b),("done",d),("queue",q),("pace",p),("rate_now",r),("side",s),("mark",k),("stopping",t)]
structure cX(K:aa)(C:Addr):Prop where
 cl:hZ K C
 ky:gR K C "machine"
 rZ:gR K C "begun_at"
 mz:gR K C "done"
 iq:gR K C "queue"
 pR:gR K C "pace"
 xn:gR K C "rate_now"
 GI:gR K C "side"
 GJ:gR K C "mark"
 uJ:gR K C "stopping"
structure bE where
 rs:List Int
 r:Int
 f:Int
 j:Int
 t:Int
abbrev bE.D(M:bE):ah:=gw M.rs M.r M.f M.j M.t
abbrev bE.Ok(M:bE):Prop:=jC M.rs M.r M.f M.j M.t
structure ba where
 pl:List Int
 dn:Nat
 ds:List ah
 os:List Itm
 pc:Rat
 az:Int
 side:Str
 mark:Str
 aR:_R.lS
def vy(K:aa)(H:Hp)(v:V):_R.lS->Prop |none=>v= .bw |some (sq,st,gn)=>∃a u,v= .ref a/\aY K H a [u,.int st,.int gn]/\bV K H u sq
structure cA(M:bE)(D:Nat)(S:ba):Prop where
 row:fL M.rs.length S.ds S.os
 rw:RowW S.ds S.os
 len:S.ds.length<=20
 cL:10<=S.az
 cV:S.az<=200
 dn:S.dn=0\/∃ns sp,S.os[0]? =some (some (ns,sp))/\S.dn<aO ns
 pl:S.pl.length=M.rs.length
 pd:Dd (D+10) S.pc
 pm:S.pc<=1600
 aR:qC D S.pc S.aR
 D1:64<=D
 D2:D<=1500
structure bU(K:aa)(C:Addr)(H:Hp)(a q:Addr)(M:bE)(S:ba):Prop where
 ob:∃dx mv bv bS tv,H a=some (.ins C dx (eV mv bv (.int S.dn) (.ref q) bS (.int S.az) (.str S.side) (.str S.mark) tv))/\RD K H mv M.D/\RD K H bv (fG S.pl)/\bV K H bS S.pc/\vy K H tv S.aR
 qu:∃ys,H q=some (.lst ys)/\aL K H ys S.ds
theorem bV.v{H H':Hp}{v:V}{q:Rat}(s:cT H H')(h:bV K H v q):bV K H' v q:=by obtain⟨p,rfl,hp⟩:=h;exact⟨p,Z,aY.v s hp⟩
theorem vy.v{H H':Hp}{v:V}{t:_R.lS}(s:cT H H')(h:vy K H v t):vy K H' v t:=by cases t with |none=>exact h |some q=>obtain⟨sq,st,gn⟩:=q;obtain⟨a,u,rfl,h1,h2⟩:=h;exact⟨a,u,Z,aY.v s h1,bV.v s h2⟩
theorem bU.go{C:Addr}{H H':Hp}{a q:Addr}{M:bE}{S:ba}(h:bU K C H a q M S)(hn:cx S.ds=true)(s:cT H H')(ea:∀o,H a=some o->H' a=some o)(eq:∀o,H q=some o->H' q=some o):bU K C H' a q M S:=by obtain⟨⟨dx,mv,bv,bS,tv,e,r1,r2,r3,r4⟩,ys,sY,rq⟩:=h;exact⟨⟨dx,mv,bv,bS,tv,ea _ e,RD.v s _ (iG _ _ _ _ _) r1,RD.v s _ (mj _) r2,r3.v s,r4.v s⟩,ys,eq _ sY,aL.v s _ hn rq⟩
theorem bU.same{C:Addr}{H H':Hp}{a q:Addr}{M:bE}{S:ba}(h:bU K C H a q M S)(hn:cx S.ds=true)(s:aD H H'):bU K C H' a q M S:=h.go hn s.v (λo e=>s _ _ e) (λo e=>s _ _ e)
theorem bU.ne{C:Addr}{H:Hp}{a q:Addr}{M:bE}{S:ba}(h:bU K C H a q M S):a≠q:=by obtain⟨⟨dx,mv,bv,bS,tv,e,_⟩,ys,sY,_⟩:=h;exact xj e sY (by intro z;cases z)
theorem bU.v{C:Addr}{H H':Hp}{a q:Addr}{M:bE}{S:ba}(h:bU K C H a q M S)(b:cB [a,q] H H'):cT H H':=by
 obtain⟨⟨dx,mv,bv,bS,tv,e,_⟩,ys,sY,_⟩:=h;refine b.v λx hx o eo=>?_;simp only[cg,eT,iT]at hx;rcases hx with rfl|rfl
 ·rw[e]at eo;cases eo;trivial
 ·rw[sY]at eo;cases eo;trivial
inductive aaM(K:aa)(C:Addr)(G:bE->ba->Hp->VK->Prop)(vs:List V)(H:Hp)(Q:VK):Prop |mk (a:_)(q:_)(M:_)(D:_)(S:_)(h0:vs=[.ref a])(h1:bU K C H a q M S)(h2:cA M D S)(h3:M.Ok)(h4:G M S H Q)
def cP(K:aa)(C:Addr)(G:bE->ba->Hp->VK->Prop):Sp:=λvs H Q _=>aaM K C G vs H Q
abbrev E7:Stmt:=inClass (top 74) 3
theorem Xw:aW ["self"] ["self"] (aM E7):=bh aF
def IP(K:aa):bE->ba->Hp->VK->Prop:=λ_ S H Q=>∀v,bV K H v S.pc->Q v H
theorem a0a{C:Addr}(F:MA K C "square" "Runner.square" E7)(TC:cX K C):bQ P w K mg ao C "square" 1 (cP K C (IP K)):=by
 refine F.has Xw (λvs H Q E h=>?_) (λ_ _ _ _ _ _=>cu λ_=>rfl) (λf aH A outer s H vs Q E hr h=>?_)
 ·obtain⟨a,q,M,D,S,rfl,_⟩:=h
  rfl
 ·obtain⟨a,q,M,D,S,rfl,R,ok,aG,k⟩:=h
  obtain⟨dx,mv,bv,bS,tv,e,r1,r2,r3,r4⟩:=R.ob;exact⟨_,(aJ (aP (cC TC.cl TC.pR (pv 0)))),_,Z,a,dx,_,_,Z,e,Z,k bS r3⟩
abbrev Eb:Stmt:=inClass (top 74) 4
theorem Xy:aW ["self"] ["self"] (aM Eb):=bh aF
theorem a0e{C:Addr}(F:MA K C "rate" "Runner.rate" Eb)(TC:cX K C):bQ P w K mg ao C "rate" 1 (cP K C λ_ S H Q=>Q (.int S.az) H):=by
 refine F.has Xy (λvs H Q E h=>?_) (λ_ _ _ _ _ _=>cu λ_=>rfl) (λf aH A outer s H vs Q E hr h=>?_)
 ·obtain⟨a,q,M,D,S,rfl,_⟩:=h
  rfl
 ·obtain⟨a,q,M,D,S,rfl,R,ok,aG,k⟩:=h
  obtain⟨dx,mv,bv,bS,tv,e,r1,r2,r3,r4⟩:=R.ob;exact⟨_,(aJ (aP (cC TC.cl TC.xn (pv 0)))),_,Z,a,dx,_,_,Z,e,Z,k⟩
abbrev E6:Stmt:=inClass (top 74) 5
theorem Xv:aW ["self"] ["self"] (aM E6):=bh aF
theorem a08{C:Addr}(F:MA K C "tool" "Runner.tool" E6)(TC:cX K C):bQ P w K mg ao C "tool" 1 (cP K C λ_ S H Q=>Q (.str S.side) H):=by
 refine F.has Xv (λvs H Q E h=>?_) (λ_ _ _ _ _ _=>cu λ_=>rfl) (λf aH A outer s H vs Q E hr h=>?_)
 ·obtain⟨a,q,M,D,S,rfl,_⟩:=h
  rfl
 ·obtain⟨a,q,M,D,S,rfl,R,ok,aG,k⟩:=h
  obtain⟨dx,mv,bv,bS,tv,e,r1,r2,r3,r4⟩:=R.ob;exact⟨_,(aJ (aP (cC TC.cl TC.GI (pv 0)))),_,Z,a,dx,_,_,Z,e,Z,k⟩
abbrev Ee:Stmt:=inClass (top 74) 6
theorem XA:aW ["self"] ["self"] (aM Ee):=bh aF
theorem a0i{C:Addr}(F:MA K C "last_mark" "Runner.last_mark" Ee)(TC:cX K C):bQ P w K mg ao C "last_mark" 1 (cP K C λ_ S H Q=>Q (.str S.mark) H):=by
 refine F.has XA (λvs H Q E h=>?_) (λ_ _ _ _ _ _=>cu λ_=>rfl) (λf aH A outer s H vs Q E hr h=>?_)
 ·obtain⟨a,q,M,D,S,rfl,_⟩:=h
  rfl
 ·obtain⟨a,q,M,D,S,rfl,R,ok,aG,k⟩:=h
  obtain⟨dx,mv,bv,bS,tv,e,r1,r2,r3,r4⟩:=R.ob;exact⟨_,(aJ (aP (cC TC.cl TC.GJ (pv 0)))),_,Z,a,dx,_,_,Z,e,Z,k⟩
abbrev E4:Stmt:=inClass (top 74) 7
theorem Xt:aW ["self"] ["self"] (aM E4):=bh aF
theorem a07{C:Addr}(F:MA K C "waiting" "Runner.waiting" E4)(TC:cX K C)(B:bB mg):bQ P w K mg ao C "waiting" 1 (cP K C λ_ S H Q=>∀l ys H',H l=none->H' l=some (.lst ys)->aL K H' ys S.ds->aD H H'->Q (.ref l) H'):=by
 refine F.has Xt (λvs H Q E h=>?_) (λ_ _ _ _ _ _=>cu λ_=>rfl) (λf aH A outer s H vs Q E hr h=>?_)
 ·obtain⟨a,q,M,D,S,rfl,_⟩:=h
  rfl
 ·obtain⟨a,q,M,D,S,rfl,R,ok,aG,k⟩:=h
  obtain⟨dx,mv,bv,bS,tv,e,r1,r2,r3,r4⟩:=R.ob;obtain⟨ys,eq,rq⟩:=R.qu;refine⟨_,(aJ (aP (cS (x:="list") (AU K Z) Z (B.at "list") Kk (ak (cC TC.cl TC.iq (pv 0)) aw)))),_,Z,a,dx,_,_,Z,e,Z,q,ys,Z,.inl (aI.of eq),λl H1 n1=>?_⟩;exact k l ys H1 n1.no n1.at' (aL.mono n1.same _ rq) n1.same
abbrev Ej:Stmt:=inClass (top 74) 8
theorem XD:aW ["self"] ["self"] (aM Ej):=bh aF
theorem a0n{C:Addr}(F:MA K C "is_held" "Runner.is_held" Ej)(TC:cX K C):bQ P w K mg ao C "is_held" 1 (cP K C λ_ S H Q=>Q (.bl S.aR.isSome) H):=by
 refine F.has XD (λvs H Q E h=>?_) (λ_ _ _ _ _ _=>cu λ_=>rfl) (λf aH A outer s H vs Q E hr h=>?_)
 ·obtain⟨a,q,M,D,S,rfl,_⟩:=h
  rfl
 ·obtain⟨a,q,M,D,S,rfl,R,ok,aG,k⟩:=h
  obtain⟨dx,mv,bv,bS,tv,e,r1,r2,r3,r4⟩:=R.ob;refine⟨_,(aJ (aP (jq Pg (cC TC.cl TC.uJ (pv 0)) jo (bL _)))),_,Z,a,dx,_,_,Z,e,Z,?_⟩;cases hs:S.aR with |none=>rw[hs]at r4 k;cases(show tv= .bw from r4);exact⟨Z,k⟩ |some z=>rw[hs]at r4 k;obtain⟨sq,st,gn⟩:=z;obtain⟨b,u,rfl,_⟩:=r4;exact⟨Z,k⟩
theorem Yw(q:Rat):PyData.eqv (dj q) (dj 0)=decide (q=0):=by
 by_cases h:q=0
 ·rw[cf h];exact eqR h
 ·rw[dE h]
  cases e:PyData.eqv (dj q) (dj 0)with |false=>rfl |true=>
   exfalso;apply h;have e':(PyData.eqv (.int q.num) (.int (0:Rat).num)&&(PyData.eqv (.int (q.den:Int)) (.int ((0:Rat).den:Int))&&true))=true:=e;rw[zf,eK]at e';obtain⟨a,b⟩:=e';have h1:q.num=(0:Rat).num:=by simpa[PyData.eqv]using a
   have h2:(q.den:Int)=((0:Rat).den:Int):=by simpa[PyData.eqv]using b
   exact Rat.ext h1 au
abbrev Ea:Stmt:=inClass (top 74) 9
theorem Xx:aW ["self"] ["self"] (aM Ea):=bh aF
theorem a0d{C:Addr}(F:MA K C "stands" "Runner.stands" Ea)(TC:cX K C)(gN:GT K mg "NOUGHT" [.int 0,.int 1]):bQ P w K mg ao C "stands" 1 (cP K C λ_ S H Q=>Q (.bl (decide (S.pc=0))) H):=by
 obtain⟨aN,jV,m7⟩:=gN;refine F.has Xx (λvs H Q E h=>?_) (λ_ _ _ _ _ _=>cu λ_=>rfl) (λf aH A outer s H vs Q E hr h=>?_)
 ·obtain⟨a,q,M,D,S,rfl,_⟩:=h
  rfl
 ·obtain⟨a,q,M,D,S,rfl,R,ok,aG,k⟩:=h
  obtain⟨dx,mv,bv,bS,tv,e,r1,r2,r3,r4⟩:=R.ob;refine⟨_,(aJ (aP (jq (dF K Z hr.units) (cC TC.cl TC.pR (pv 0)) (cQ (x:="NOUGHT") rfl jV) (bL _)))),_,Z,a,dx,_,_,Z,e,Z,.inr ⟨_,_,r3.rd,(uH (m7 H)).rd,Z,Z,?_⟩⟩;rw[Yw];exact k
abbrev Ei:Stmt:=inClass (top 74) 10
theorem XC:aW ["self"] ["self"] (aM Ei):=bh aF
theorem a0m{C:Addr}(F:MA K C "is_halted" "Runner.is_halted" Ei)(TC:cX K C)(oJ:bQ P w K mg ao C "is_held" 1 (cP K C λ_ S H Q=>Q (.bl S.aR.isSome) H))(sO:bQ P w K mg ao C "stands" 1 (cP K C λ_ S H Q=>Q (.bl (decide (S.pc=0))) H)):bQ P w K mg ao C "is_halted" 2 (cP K C λ_ S H Q=>Q (.bl (S.aR.isSome&&decide (S.pc=0))) H):=by
 refine F.has XC (λvs H Q E h=>?_) (λ_ _ _ _ _ _=>cu λ_=>rfl) (λf aH A outer s H vs Q E hr h=>?_)
 ·obtain⟨a,q,M,D,S,rfl,_⟩:=h
  rfl
 ·obtain⟨a,q,M,D,S,rfl,R,ok,aG,k⟩:=h
  obtain⟨dx,mv,bv,bS,tv,e,r1,r2,r3,r4⟩:=R.ob;refine⟨_,(aJ (aP (uw (cZ oJ TC.cl (hr.mono ay) (pv 0)) (pK (cZ sO TC.cl (hr.mono ay) (pv 0)))))),_,Z,a,dx,_,Z,e,Z,a,q,M,D,S,Z,R,ok,aG,_,Z,?_⟩;cases hs:S.aR.isSome with |false=>rw[hs]at k;exact aV k |true=>rw[hs]at k;refine bG ⟨_,Z,a,dx,_,Z,e,Z,a,q,M,D,S,Z,R,ok,aG,?_⟩;exact k
structure iO(n:Nat)(d:ah)(o:Itm):Prop where
 it:itR d o
 ln:∀ns sp,o=some (ns,sp)->eQ n 100 ns/\1<=sp/\sp<=20
 ot:o=none->vA d
theorem a2o{z:Str}(h:oh z=true):isNm (.str z)=true:=h
theorem aa2:∀{ns:List Int},(∃z∈ns,z≠0)->(ns.map PyData.int).any xb=true:=λ{ns} ⟨z,hz,h⟩=>Vh.mpr ⟨.int z,cY.mpr ⟨z,hz,Z⟩,by show(z !=0)=true;simpa using h⟩
theorem aa7{ns:List Int}(h:∀z∈ns,(z.natAbs:Int)<=100):(ns.map PyData.int).all (df (-100) 100)=true:=by rw[fU];intro d hd;obtain⟨z,hz,rfl⟩:=cY.mp hd;have:=h z hz;show(decide (-100<=z)&&decide (z<=100))=true;rw[cf bC,cf bC];rfl
theorem iO.is{n:Nat}{d:ah}{o:Itm}(h:iO n d o):lA n d=true/\dh 8 d/\A2 d=true:=by cases o with
 |some q=>
  obtain⟨ns,sp⟩:=q;have ed:=mK h.it;subst ed;obtain⟨du,s1,s2⟩:=h.ln ns sp rfl;refine⟨?_,?_,Z⟩
  ·show(gy "line" (.str "line")&&(rV n (.tuple (ns.map PyData.int))&&df 1 20 (.int sp)))=true
   have e1:gy "line" (.str "line")=true:=by decide+kernel
   have e2:rV n (.tuple (ns.map PyData.int))=true:=by show(((ns.map PyData.int).length==n&&(ns.map PyData.int).all (df (-100) 100))&&(ns.map PyData.int).any xb)=true;rw[aa7 du.bd,aa2 du.nz,bM,du.len,K9];rfl
   have e3:df 1 20 (.int sp)=true:=by show(decide (1<=sp)&&decide (sp<=20))=true;rw[cf s1,cf s2];rfl
   rw[e1,e2,e3];rfl
  ·refine(gF.tup (n:=1) (.cons ⟨aF,fC _⟩ (.cons (gF.tup (n:=0) λd hd=>?_) (.cons (.int _) .nil)))).le ay
   obtain⟨a,_,rfl⟩:=cY.mp hd;exact .int _ |none=>
  rcases h.ot rfl with⟨z,rfl,z1,z2⟩|⟨w,s,rfl,hw,rS,on⟩
  ·refine⟨?_,(gF.tup (n:=0) (.cons ⟨aF,fC _⟩ (.cons (.int _) .nil))).le ay,Z⟩
   show ow (.str "wait") (.int z)=true;unfold ow;rw[bc aF];show(decide (1<=z)&&decide (z<=1000))=true;rw[cf z1,cf z2];rfl
  ·have a3A:jl (.str s)=true:=by
    refine cf ?_;rcases on with⟨_,rfl|rfl⟩|⟨_,hn⟩
    ·decide+kernel
    ·decide+kernel
    ·unfold oh at hn
     simp only[eK,Cc]at hn
     lia
   refine⟨?_,(gF.tup (n:=0) (.cons ?_ (.cons rS .nil))).le ay,?_⟩
   ·rcases on with⟨rfl,hs⟩|⟨rfl,hn⟩
    ·show ow (.str "tool") (.str s)=true
     unfold ow;rw[bf aF,bc aF];rcases hs with rfl|rfl<;>decide+kernel
    ·show ow (.str "mark") (.str s)=true
     unfold ow;rw[bf aF,bf aF];rw[a2o hn];decide+kernel
   ·rcases hw with rfl|rfl<;>exact⟨aF,fC _⟩
   ·show([.str w,.str s]:List ah).all jl=true
    rw[vX,vX,Kx,a3A];rcases hw with rfl|rfl<;>decide+kernel
def pC(ns:List Int)(k:Int):List Int:=ns.map λz=>fX (k*z) (aO ns)
def gI(S:ba):List Int:=if S.dn=0 then S.pl else match S.os[0]? with |some (some (ns,_))=>jc S.pl (pC ns S.dn) |_=>S.pl
def jx(S:ba):List Int:=S.os.foldl iy S.pl
theorem U6{n:Nat}{pl:List Int}{o:Itm}(h:pl.length=n)(ho:∀ns sp,o=some (ns,sp)->ns.length=n):(iy pl o).length=n:=by cases o with |none=>exact h |some q=>obtain⟨ns,sp⟩:=q;show(jc pl ns).length=n;rw[oY (by rw[ho ns sp Z,h])];exact h
theorem IX{n:Nat}:∀(os:List Itm)(pl:List Int),pl.length=n->(∀o∈os,∀ns sp,o=some (ns,sp)->ns.length=n)->(os.foldl iy pl).length=n |[],pl,h,_=>h |o::os,pl,h,ho=>IX os (iy pl o) (U6 h (ho o (.head _))) λx hx=>ho x (.tail _ hx)
theorem cA.rS{M:bE}{D:Nat}{S:ba}(h:cA M D S):∀o∈S.os,∀ns sp,o=some (ns,sp)->ns.length=M.rs.length:=λo ho ns sp e=>by obtain⟨i,hi⟩:=p9.mp ho;rw[e]at hi;exact(h.row.ok i ns sp hi).1.len
theorem cA.first{M:bE}{D:Nat}{S:ba}(h:cA M D S)(hn:S.dn≠0):∃ns sp,S.os[0]? =some (some (ns,sp))/\S.dn<aO ns:=by
 rcases h.dn with e|e
 ·exact(hn e).elim
 ·exact e
abbrev Ec:Stmt:=inClass (top 74) 1
theorem Xz:aW ["self"] ["self"] (aM Ec):=bh aF
theorem a0f{C:Addr}(F:MA K C "place" "Runner.place" Ec)(TC:cX K C)(HW:aA P w K mg ao "moved" 1 (zT K))(Bc:aA P w K mg ao "stand_at" 2 (zO K)):bQ P w K mg ao C "place" 3 (cP K C λ_ S H Q=>∀v H',RD K H' v (fG (gI S))->aD H H'->Q v H'):=by
 refine F.has Xz (λvs H Q E h=>?_) (λ_ _ _ _ _ _=>cu λ_=>rfl) (λf aH A outer s H vs Q E hr h=>?_)
 ·obtain⟨a,q,M,D,S,rfl,_⟩:=h
  rfl
 ·obtain⟨a,q,M,D,S,rfl,R,ok,aG,k⟩:=h
  obtain⟨dx,mv,bv,bS,tv,e,r1,r2,r3,r4⟩:=R.ob;obtain⟨ys,eq,rq⟩:=R.qu;refine⟨_,(aB (bJ (bX (dF K Z hr.units) (cC TC.cl TC.mz (pv 0)) aE (bL _)) (aJ (aP (cC TC.cl TC.rZ (pv 0)))) bK) (aJ (aP (pf HW hr (ak (cC TC.cl TC.rZ (pv 0)) (ak (pf Bc hr (ak (px K (cC TC.cl TC.iq (pv 0)) aE) (ak (cC TC.cl TC.mz (pv 0)) aw))) aw)))))),_,Z,a,dx,_,_,Z,e,Z,.inl ⟨_,_,Z,Z,_,Z,?_⟩⟩;by_cases h0:S.dn=0
  ·rw[cf au]
   have ep:gI S=S.pl:=by unfold gI;rw[bc h0]
   rw[ep]at k;exact bG ⟨_,Z,a,dx,_,_,Z,e,Z,k bv H r2 (aD.refl _)⟩
  ·rw[dE au]
   refine aV ?_;obtain⟨ns,sp,eo,hd⟩:=ok.first h0;obtain⟨du,dZ,ie⟩:=ok.row.ok 0 ns sp eo;have ep:gI S=jc S.pl (pC ns S.dn):=by unfold gI;rw[bf h0,eo]
   rw[ep]at k;have ll:=ok.row.len;have xO:0<S.os.length:=(dw.mp eo).1;obtain⟨d,ed⟩:∃d,S.ds[0]? =some d:=⟨_,cy (show 0<S.ds.length by lia)⟩;obtain⟨y,ey,ry⟩:=rq.get 0 ed;have it:=ok.row.it 0 d _ ed eo;have dD:=mK it;subst dD;have a3B:=Qz du;have lr:=aG.len;refine⟨_,Z,a,dx,_,_,Z,e,Z,?_⟩;refine⟨_,Z,a,dx,_,_,Z,e,Z,.inl ⟨q,_,0,y,Z,Z,aI.of eq,cE (dY 0) ey,?_⟩⟩;refine⟨_,Z,a,dx,_,_,Z,e,Z,y,ns,sp,_,Z,ry,⟨Z,λz hz=>by have:=du.bd z hz;lia,du.nz⟩,by rw[du.len];lia,au,λu H1 ru s1=>?_⟩;obtain⟨b,xs,rfl,hb,hx⟩:=ru.cJ;rw[hx.gP]at hb;exact⟨bv,b,S.pl,_,Z,RD.mono s1 _ r2,hb,by rw[bM,du.len,ok.pl],by rw[ok.pl];lia,λv H2 rv s2=>k v H2 rv (s1.trans s2)⟩
abbrev Ef:Stmt:=inClass (top 74) 2
theorem MP:aW ["self","here","item"] ["self"] (aM Ef):=bh aF
theorem a0j{C:Addr}(F:MA K C "leads_to" "Runner.leads_to" Ef)(TC:cX K C)(xF:aA P w K mg ao "place_behind" 2 (wC K)):bQ P w K mg ao C "leads_to" 3 (cP K C λ_ S H Q=>∀v H',RD K H' v (fG (jx S))->aD H H'->Q v H'):=by
 refine F.has MP (λvs H Q E h=>?_) (λ_ _ _ _ _ _=>cu λ_=>rfl) (λf aH A outer s H vs Q E hr h=>?_)
 ·obtain⟨a,q,M,D,S,rfl,_⟩:=h
  rfl
 ·obtain⟨a,q,M,D,S,rfl,R,ok,aG,k⟩:=h
  obtain⟨dx,mv,bv,bS,tv,e,r1,r2,r3,r4⟩:=R.ob;obtain⟨ys,eq,rq⟩:=R.qu;have nd:=MP.nd;have ll:=ok.row.len;have ly:=rq.length;have lr:=aG.len;refine⟨_,(aB (pS 1 nd (cC TC.cl TC.rZ (pv 0))) (aB (jN gT Z (kT K Z (cC TC.cl TC.iq (pv 0))) (bj 2 nd) (aJ (pS 1 nd (pf xF hr (ak (pv 1) (ak (pv 2) aw)))))) (aJ (aP (pv 1))))),_,Z,a,dx,_,_,Z,e,Z,_,Z,a,dx,_,_,Z,e,Z,q,Z,⟨_,aI.of eq⟩,?_⟩;refine IW (K:=K) (a:=q) (xs:=ys) (λi O H1=>aD H H1/\∃hv v2,RD K H1 hv (fG ((S.os.take i).foldl iy S.pl))/\O=[some (.ref a),some hv,v2]) ⟨aD.refl _,bv,none,r2,Z⟩ (λi O H1 _ h=>aI.of (h.1 _ _ eq)) ?_ ?_
  ·rintro i x O H1 hx ⟨s1,hv,v2,rh,rfl⟩
   obtain⟨d,ed,rd⟩:=rq.get' i hx;obtain⟨o,eo,it⟩:=ok.row.get ed;have lp:((S.os.take i).foldl iy S.pl).length=M.rs.length:=IX _ _ ok.pl λo ho=>ok.rS o (yY ho);refine⟨_,Z,_,Z,hv,x,_,d,o,Z,rh,RD.mono s1 _ rd,it,λns sp e'=>by rw[lp];exact ok.rS o (fc eo) ns sp e',au,λv H2 rv s2=>?_⟩;refine⟨s1.trans s2,v,_,?_,Z⟩;rw[vP,eo,Ve];exact rv
  ·rintro O H1 ⟨s1,hv,v2,rh,rfl⟩
   rw[ly,ll,vQ]at rh;exact⟨_,Z,k hv H1 rh s1⟩
structure Mv(a q:Addr)(H:Hp)(q':Addr)(H':Hp):Prop where
 but:cB [a,q] H H'
 nq:q'=q\/H q'=none
abbrev Eg:Stmt:=inClass (top 74) 0
theorem XB:aW ["self","machine","place"] ["self","machine","place"] (aM Eg):=bh aF
def nT(pl:List Int):ba:=⟨pl,0,[],[],0,100,"up","",none⟩
inductive ab2(K:aa)(C:Addr)(vs:List V)(H:Hp)(Q:VK):Prop |mk (a:_)(dx:_)(mv:_)(gY:_)(M:_)(pl:_)(h0:vs=[.ref a,mv,gY])(h1:H a=some (.ins C dx []))(h2:RD K H mv (bE.D M))(h3:RD K H gY (fG pl))(h4:∀q H',bU K C H' a q M (nT pl)->H q=none->cB [a] H H'->Q .bw H')
def D7(K:aa)(C:Addr):Sp:=λvs H Q _=>ab2 K C vs H Q
theorem Pq{C:Addr}(F:CA K mg C "Runner" "Runner.__init__" Eg)(TC:cX K C)(gN:GT K mg "NOUGHT" [.int 0,.int 1])(a6b:GV mg "FIRST_RATE" (.int 100)):tH P w K mg ao C "Runner" 1 (D7 K C):=by
 obtain⟨aN,jV,m7⟩:=gN;refine F.has XB (λvs H Q E h=>?_) (λ_ _ _ _ _ _=>jZ λ_ _ _=>rfl) (λf aH A outer s H vs Q E hr h=>?_)
 ·obtain⟨a,dx,mv,gY,M,pl,rfl,_⟩:=h
  rfl
 ·obtain⟨a,dx,mv,gY,M,pl,rfl,e,rm,rp,k⟩:=h
  refine⟨_,(aB (fF TC.cl TC.ky (pv 0) (pv 1)) (aB (fF TC.cl TC.rZ (pv 0) (pv 2)) (aB (fF TC.cl TC.mz (pv 0) aE) (aB (fF TC.cl TC.iq (pv 0) (da aw)) (aB (fF TC.cl TC.pR (pv 0) (cQ (x:="NOUGHT") rfl jV)) (aB (fF TC.cl TC.xn (pv 0) (cQ (x:="FIRST_RATE") rfl a6b)) (aB (fF TC.cl TC.GI (pv 0) bo) (aB (fF TC.cl TC.GJ (pv 0) bo) (aJ (fF TC.cl TC.uJ (pv 0) jo)))))))))),?_⟩;refine⟨_,Z,_,Z,a,dx,_,Z,e,ay,?_⟩;refine⟨_,Z,_,Z,a,dx,_,Z,bW,by show 1<1000;decide,?_⟩;refine⟨_,Z,a,dx,_,Z,bW,by show 2<1000;decide,?_⟩;refine⟨ck Z,λq H1 n1=>?_⟩;have aq:a≠q:=λz=>by have:=n1.no;rw[<-z,bW]at this;cases this
  have e1:=n1.same _ _ (bW (a:=a));refine⟨_,Z,a,dx,_,Z,e1,by show 3<1000;decide,?_⟩;refine⟨_,Z,a,dx,_,Z,bW,by show 4<1000;decide,?_⟩;refine⟨_,Z,a,dx,_,Z,bW,by show 5<1000;decide,?_⟩;refine⟨_,Z,a,dx,_,Z,bW,by show 6<1000;decide,?_⟩;refine⟨_,Z,a,dx,_,Z,bW,by show 7<1000;decide,?_⟩;refine⟨_,Z,a,dx,_,Z,bW,by show 8<1000;decide,?_⟩;have key:∀X:Hp,(∀b,b≠a->X b=H1 b)->Q .bw (_L.upd X a (.ins C dx (eV mv gY (.int 0) (.ref q) (.ref aN) (.int 100) (.str "up") (.str "") .bw))):=by
   intro X hX;have bt:cB [a] H (_L.upd X a (.ins C dx (eV mv gY (.int 0) (.ref q) (.ref aN) (.int 100) (.str "up") (.str "") .bw))):=λb o eb hb=>by have ha:b≠a:=λz=>hb (by rw[z];exact .head _);rw[aU ha,hX b ha];exact n1.same _ _ (by rw[aU ha,aU ha,aU ha];exact eb)
   have sv:=bt.v λx hx o eo=>by rw[cW]at hx;rw[hx,e]at eo;cases eo;trivial
   refine k q _ ⟨⟨dx,mv,gY,.ref aN,.bw,bW,RD.v sv _ (iG _ _ _ _ _) rm,RD.v sv _ (mj _) rp,uH (m7 _),Z⟩,[],?_,dy⟩ ?_ bt
   ·rw[aU aq.symm,hX q aq.symm];exact n1.at'
   ·have:=n1.no
    rw[aU aq.symm,aU aq.symm,aU aq.symm]at this;exact this
  exact key _ (λb hb=>by rw[aU hb,aU hb,aU hb,aU hb,aU hb])
theorem Yg{M:bE}{pl:List Int}(hp:pl.length=M.rs.length):cA M 64 (nT pl):=⟨.nil,λi d e=>by simp[nT]at e,by simp[nT],(show(10:Int)<=100 by decide),(show(100:Int)<=200 by decide),.inl rfl,hp,⟨(show(0:Rat)<=0 by decide),(show(0:Rat).den<2^74 by decide+kernel)⟩,(show(0:Rat)<=1600 by decide+kernel),trivial,ay,ay⟩
theorem Po{rs pl:List Int}(h:fQ rs pl):Hn rs (fG pl)=true:=by show((pl.map PyData.int).length==rs.length&&(((pl.map PyData.int).zip rs).map λp=>df 0 p.2 p.1).all id)=true;rw[bM,h.len,K9,iA,fU];intro b hb;obtain⟨⟨d,r⟩,hm,rfl⟩:=cY.mp hb;obtain⟨i,hi⟩:=p9.mp hm;obtain⟨e1,e2⟩:=(Kt (z:=(d,r))).mp hi;rw[bR]at e1;cases e:pl[i]? with |none=>rw[e]at e1;cases e1 |some x=>rw[e]at e1;cases e1;obtain⟨a1,a2⟩:=h.at' i x r e e2;show(decide (0<=x)&&decide (x<=r))=true;rw[cf a1,cf a2];rfl
def vf(S:ba)(d:ah)(o:Itm):ba:={S with ds:=S.ds++[d],os:=S.os++[o]}
theorem cA.sT{M:bE}{D:Nat}{S:ba}{d:ah}{o:Itm}(h:cA M D S)(it:iO M.rs.length d o)(hl:S.ds.length<20):cA M D (vf S d o):=by
 have ll:=h.row.len;refine⟨h.row.snoc it.it it.ln,RowW.snoc h.rw ll it.ot,by show(S.ds++[d]).length<=20;rw[fe];show _+1<=20;lia,h.cL,h.cV,?_,h.pl,h.pd,h.pm,h.aR,h.D1,h.D2⟩;rcases h.dn with e|⟨ns,sp,e,e2⟩
 ·exact .inl e
 ·refine .inr ⟨ns,sp,?_,e2⟩
  show(S.os++[o])[0]? =_;rw[vV (dw.mp e).1];exact e
abbrev El:Stmt:=inClass (top 74) 11
theorem MR:aW ["self","item"] ["self","item"] (aM El):=bh aF
inductive ab5(K:aa)(C:Addr)(vs:List V)(H:Hp)(Q:VK):Prop |mk (a:_)(q:_)(M:_)(D:_)(S:_)(v:_)(d:_)(o:_)(h0:vs=[.ref a,v])(h1:bU K C H a q M S)(h2:cA M D S)(h3:M.Ok)(h4:RD K H v d)(h5:iO M.rs.length d o)(h6:fQ M.rs (iy (jx S) o))(h7:S.ds.length<20)(h8:∀H',bU K C H' a q M (vf S d o)->cB [a,q] H H'->Q (.int (S.ds.length+1:Nat)) H')
def Df(K:aa)(C:Addr):Sp:=λvs H Q _=>ab5 K C vs H Q
theorem a0p{C:Addr}(F:MA K C "feed" "Runner.feed" El)(TC:cX K C)(B:bB mg)(a5Z:GV mg "MOST_WAITING" (.int 20))(Ie:aA P w K mg ao "is_item" 4 (zV K))(Ib:aA P w K mg ao "is_place" 3 (zX K))(xF:aA P w K mg ao "place_behind" 2 (wC K))(Iw:bQ P w K mg ao C "leads_to" 3 (cP K C λ_ S H Q=>∀v H',RD K H' v (fG (jx S))->aD H H'->Q v H')):bQ P w K mg ao C "feed" 5 (Df K C):=by
 refine F.has MR (λvs H Q E h=>?_) (λ_ _ _ _ _ _=>dN λ_ _=>rfl) (λf aH A outer s H vs Q E hr h=>?_)
 ·obtain⟨a,q,M,D,S,v,d,o,rfl,_⟩:=h
  rfl
 ·obtain⟨a,q,M,D,S,v,d,o,rfl,R,ok,aG,rd,it,jO,hl,k⟩:=h
  obtain⟨dx,mv,bv,bS,tv,e,r1,r2,r3,r4⟩:=R.ob;obtain⟨ys,eq,rq⟩:=R.qu;have nd:=MR.nd;have lr:=aG.len;have ly:=rq.length;obtain⟨i1,i2,i3⟩:=it.is;refine⟨_,(aB (bJ (dB (cH (pf Ie hr (ak (cC TC.cl TC.ky (pv 0)) (ak (pv 1) aw))))) (aJ uu) bK) (aB (bJ (dB (cH (pf Ib hr (ak (cC TC.cl TC.ky (pv 0)) (ak (pf xF hr (ak (cZ Iw TC.cl (hr.mono ay) (pv 0)) (ak (pv 1) aw))) aw))))) (aJ uu) bK) (aB (bJ (bX Az (fH K B (ak (cC TC.cl TC.iq (pv 0)) aw)) (cQ (x:="MOST_WAITING") rfl a5Z) (bL _)) (aJ uu) bK) (aB (ku (nY K Z (cC TC.cl TC.iq (pv 0)) (ak (pv 1) aw))) (aJ (aP (fH K B (ak (cC TC.cl TC.iq (pv 0)) aw)))))))),?_⟩;refine⟨_,Z,a,dx,_,_,Z,e,Z,_,Z,mv,v,M.rs,_,d,Z,r1,rd,au,i2,i3,λH1 s1=>⟨_,Z,?_⟩⟩;rw[i1];refine aV ?_;have e1:=s1 _ _ e;have R1:=R.same ok.row.no s1;refine⟨_,Z,a,dx,_,_,Z,e1,Z,?_⟩;refine⟨_,Z,a,dx,_,Z,e1,Z,a,q,M,D,S,Z,R1,ok,aG,λg H2 rg s2=>?_⟩;have ij:=s1.trans s2;have gl:(jx S).length=M.rs.length:=IX _ _ ok.pl ok.rS;refine⟨_,Z,g,v,jx S,d,o,Z,rg,RD.mono ij _ rd,it.it,λns sp e'=>by rw[gl];exact(it.ln ns sp e').1.len,au,λu H3 ru s3=>?_⟩;have eU:=ij.trans s3;refine⟨mv,u,M.rs,_,_,Z,RD.mono eU _ r1,ru,au,λH4 s4=>⟨_,Z,?_⟩⟩;rw[Po jO];refine aV ?_;have jm:=eU.trans s4;have e4:=jm _ _ e;have eq4:=jm _ _ eq;refine⟨_,Z,a,dx,_,_,Z,e4,Z,q,_,Z,.inl (aI.of eq4),_,_,Z,Z,_,Z,?_⟩;rw[show decide ((ys.length:Int)>=20)=false from dE au];refine aV ?_;have iJ:sizeLine=16777216:=by decide
  refine⟨_,Z,a,dx,_,_,Z,e4,Z,.inl ⟨Z,_,aI.of eq4⟩,_,Z,q,ys,_,Z,Z,eq4,au,?_⟩;have aq:=R.ne;have tu:cT H4 (_L.upd H4 q (.lst (ys++[v]))):=.upd eq4 trivial;have e5:(_L.upd H4 q (.lst (ys++[v]))) a=some (.ins C dx (eV mv bv (.int S.dn) (.ref q) bS (.int S.az) (.str S.side) (.str S.mark) tv)):=by rw[aU aq];exact e4
  refine⟨_,Z,a,dx,_,_,Z,e5,Z,q,_,Z,.inl (aI.of bW),?_⟩;have sv:cT H (_L.upd H4 q (.lst (ys++[v]))):=jm.v.trans tu;have el:((ys++[v]).length:Int)=((S.ds.length+1:Nat):Int):=by rw[fe,ly];rfl
  rw[el];refine k _ ⟨⟨dx,mv,bv,bS,tv,e5,RD.v sv _ (iG _ _ _ _ _) r1,RD.v sv _ (mj _) r2,r3.v sv,r4.v sv⟩,_,bW,?_⟩ λb o' eb hb=>?_
  ·exact(aL.v sv _ ok.row.no rq).append (cF (RD.v sv _ it.it.no rd) dy)
  ·have sN:b≠q:=λz=>hb (by rw[z];simp)
   rw[aU sN];exact jm _ _ eb
def mX(S:ba):ba:=match S.os with |o::os=>{S with pl:=iy S.pl o,ds:=S.ds.tail,os:=os,dn:=0} |[]=>S
theorem fL.tail{n:Nat}{d:ah}{ds:List ah}{o:Itm}{os:List Itm}(h:fL n (d::ds) (o::os)):fL n ds os:=⟨by have:=h.len;simpa using this,λi d' o' e1 e2=>h.it (i+1) d' o' (by simpa using e1) (by simpa using e2),λi ns sp e=>h.ok (i+1) ns sp (by simpa using e)⟩
theorem RowW.tail{d:ah}{ds:List ah}{o:Itm}{os:List Itm}(h:RowW (d::ds) (o::os)):RowW ds os:=λi d' e1 e2=>h (i+1) d' (by simpa using e1) (by simpa using e2)
structure jB(M:bE)(D:Nat)(S:ba):Prop where
 row:fL M.rs.length S.ds S.os
 rw:RowW S.ds S.os
 len:S.ds.length<=20
 cL:10<=S.az
 cV:S.az<=200
 pl:S.pl.length=M.rs.length
 pd:Dd (D+10) S.pc
 pm:S.pc<=1600
 aR:qC D S.pc S.aR
 D1:64<=D
 D2:D<=1500
theorem cA.raw{M:bE}{D:Nat}{S:ba}(h:cA M D S):jB M D S:=⟨h.row,h.rw,h.len,h.cL,h.cV,h.pl,h.pd,h.pm,h.aR,h.D1,h.D2⟩
theorem jB.ok{M:bE}{D:Nat}{S:ba}(h:jB M D S)(hd:S.dn=0\/∃ns sp,S.os[0]? =some (some (ns,sp))/\S.dn<aO ns):cA M D S:=⟨h.row,h.rw,h.len,h.cL,h.cV,hd,h.pl,h.pd,h.pm,h.aR,h.D1,h.D2⟩
theorem jB.end{M:bE}{D:Nat}{S:ba}(h:jB M D S)(hn:S.os≠[]):cA M D (mX S):=by obtain⟨pl,dn,ds,os,pc,az,side,mark,aR⟩:=S;cases os with |nil=>exact(hn Z).elim |cons o os=>have ll:=h.row.len;cases ds with |nil=>simp at ll |cons d ds=>
 refine⟨h.row.tail,h.rw.tail,?_,h.cL,h.cV,.inl Z,?_,h.pd,h.pm,h.aR,h.D1,h.D2⟩
 ·have:=h.len
  simp only[gp]at this;show ds.length<=20
  lia
 ·exact U6 h.pl λns sp e=>(h.row.ok 0 ns sp (by rw[<-e];rfl)).1.len
theorem a9d(xs:List V):jX xs (some 1) none=xs.drop 1:=Jr xs
abbrev Eo:Stmt:=inClass (top 74) 16
theorem MU:aW ["self"] ["self"] (aM Eo):=bh aF
inductive ab8(K:aa)(C:Addr)(vs:List V)(H:Hp)(Q:VK):Prop |mk (a:_)(q:_)(M:_)(D:_)(S:_)(h0:vs=[.ref a])(h1:bU K C H a q M S)(h2:jB M D S)(h3:M.Ok)(h4:S.os≠[])(h5:∀q' H',bU K C H' a q' M (mX S)->H q'=none->cB [a] H H'->Q .bw H')
def Dh(K:aa)(C:Addr):Sp:=λvs H Q _=>ab8 K C vs H Q
theorem a0s{C:Addr}(F:MA K C "end_first" "Runner.end_first" Eo)(TC:cX K C)(xF:aA P w K mg ao "place_behind" 2 (wC K)):bQ P w K mg ao C "end_first" 3 (Dh K C):=by
 refine F.has MU (λvs H Q E h=>?_) (λ_ _ _ _ _ _=>cu λ_=>rfl) (λf aH A outer s H vs Q E hr h=>?_)
 ·obtain⟨a,q,M,D,S,rfl,_⟩:=h
  rfl
 ·obtain⟨a,q,M,D,S,rfl,R,ok,aG,hn,k⟩:=h
  obtain⟨dx,mv,bv,bS,tv,e,r1,r2,r3,r4⟩:=R.ob;obtain⟨ys,eq,rq⟩:=R.qu;have aq:=R.ne;have nd:=MU.nd;have lr:=aG.len;have ll:=ok.row.len;refine⟨_,(aB (fF TC.cl TC.rZ (pv 0) (pf xF hr (ak (cC TC.cl TC.rZ (pv 0)) (ak (px K (cC TC.cl TC.iq (pv 0)) aE) aw)))) (aB (fF TC.cl TC.iq (pv 0) (Ao (A1 K rfl) (cC TC.cl TC.iq (pv 0)) (Aj aE) Ak)) (aJ (fF TC.cl TC.mz (pv 0) aE)))),?_⟩;obtain⟨pl,dn,ds,os,pc,az,side,mark,aR⟩:=S;cases os with |nil=>exact(hn Z).elim |cons o os=>cases ds with |nil=>simp at ll |cons d ds=>
   obtain⟨y,yr,rfl,ry,rr⟩:=rq.cons_inv;have it:itR d o:=ok.row.it 0 d o Z rfl;have lp:pl.length=M.rs.length:=ok.pl;refine⟨_,Z,a,dx,_,_,Z,e,Z,?_⟩;refine⟨_,Z,a,dx,_,_,Z,e,Z,.inl ⟨q,_,0,y,Z,Z,aI.of eq,cE (dY 0) Z,?_⟩⟩;refine⟨bv,y,pl,d,o,Z,r2,ry,it,λns sp e'=>by rw[lp];exact(ok.row.ok 0 ns sp (by rw[<-e'];rfl)).1.len,au,λu H1 ru s1=>?_⟩;have e1:=s1 _ _ e;refine⟨_,Z,a,dx,_,Z,e1,by show 9<1000;decide,?_⟩;have eq1:(_L.upd H1 a (.ins C dx (eV mv u (.int dn) (.ref q) bS (.int az) (.str side) (.str mark) tv))) q=some (.lst (y::yr)):=by rw[aU aq.symm];exact s1 _ _ eq
   refine⟨_,Z,a,dx,_,_,Z,bW,Z,_,Z,q,_,Z,.inl ⟨aI.of eq1,λq' H2 n2=>?_⟩⟩;have e2:=n2.same _ _ (bW (a:=a));refine⟨_,Z,a,dx,_,Z,e2,by show 9<1000;decide,?_⟩;refine⟨_,Z,a,dx,_,Z,bW,by show 9<1000;decide,?_⟩;have qB:a≠q':=λz=>by have:=n2.no;rw[<-z,bW]at this;cases this
   have key:∀X:Hp,(∀b,b≠a->X b=H2 b)->Q .bw (_L.upd X a (.ins C dx (eV mv u (.int 0) (.ref q') bS (.int az) (.str side) (.str mark) tv))):=by
    intro X hX;have bt:cB [a] H (_L.upd X a (.ins C dx (eV mv u (.int 0) (.ref q') bS (.int az) (.str side) (.str mark) tv))):=λb o' eb hb=>by have ha:b≠a:=λz=>hb (by rw[z];exact .head _);rw[aU ha,hX b ha];exact n2.same _ _ (by rw[aU ha];exact s1 _ _ eb)
    have sv:=bt.v λx hx o' eo=>by rw[cW]at hx;rw[hx,e]at eo;cases eo;trivial
    have CU:cT H1 (_L.upd X a (.ins C dx (eV mv u (.int 0) (.ref q') bS (.int az) (.str side) (.str mark) tv))):=λb o' nb eb=>by
     have ha:b≠a:=λz=>by rw[z,e1]at eb;cases eb;exact nb trivial
     rw[aU ha,hX b ha];exact n2.same _ _ (by rw[aU ha];exact eb)
    have mO:=n2.at';rw[a9d]at mO;refine k q' _ ⟨⟨dx,mv,u,bS,tv,bW,RD.v sv _ (iG _ _ _ _ _) r1,RD.v CU _ (mj _) ru,r3.v sv,r4.v sv⟩,yr,?_,?_⟩ ?_ bt
    ·rw[aU qB.symm,hX q' qB.symm];exact mO
    ·exact aL.v sv _ ok.row.tail.no rr
    ·cases e':H q' with |none=>rfl |some o'=>have h1:=s1 _ _ e';have h2:=n2.no;rw[aU qB.symm,h1]at h2;cases h2
   exact key _ (λb hb=>by rw[aU hb])
theorem mn4{x y z u q:Rat}(h:q=x\/q=y\/q=z\/q=u)(h1:q<=x)(h2:q<=y)(h3:q<=z)(h4:q<=u):mn (mn (mn x y) z) u=q:=by
 refine Kd ?_ (mI (mI (mI h1 h2) h3) h4);rcases h with h|h|h|h
 ·rw[h];exact eH (gu _ _) (eH (gu _ _) (gu _ _))
 ·rw[h];exact eH (gu _ _) (eH (gu _ _) (lj _ _))
 ·rw[h];exact eH (gu _ _) (lj _ _)
 ·rw[h];exact lj _ _
theorem Qx{H:Hp}{Q:VK}{l:Addr}{u1 u2 u3:V}{x y z:Rat}(dl:H l=some (.lst [u1,u2,u3]))(R1:bV K H u1 x)(R2:bV K H u2 y)(R3:bV K H u3 z)(b1:Bd 2000 x)(b2:Bd 2000 y)(b3:Bd 2000 z)(k:∀v,bV K H v (mn (mn x y) z)->Q v H):kN K [.ref l] H Q E0:=by
 refine⟨l,[u1,u2,u3],[x,y,z],Z,aI.of dl,⟨R1,b1,R2,b2,R3,b3,trivial⟩,by simp,λc v q e1 e2 hq=>k v ?_⟩;have e:mn (mn x y) z=q:=by
  refine mn3 ?_ (hq _ (by simp)) (hq _ (by simp)) (hq _ (by simp))
  match c,e2 with |0,e2=>cases e2;exact .inl rfl |1,e2=>cases e2;exact .inr (.inl rfl) |2,e2=>cases e2;exact .inr (.inr rfl)
 rw[e]
 match c,e1,e2 with |0,e1,e2=>cases e1;cases e2;exact R1 |1,e1,e2=>cases e1;cases e2;exact R2 |2,e1,e2=>cases e1;cases e2;exact R3
theorem Qw{H:Hp}{Q:VK}{l:Addr}{u1 u2 u3 u4:V}{x y z t:Rat}(dl:H l=some (.lst [u1,u2,u3,u4]))(R1:bV K H u1 x)(R2:bV K H u2 y)(R3:bV K H u3 z)(R4:bV K H u4 t)(b1:Bd 2000 x)(b2:Bd 2000 y)(b3:Bd 2000 z)(b4:Bd 2000 t)(k:∀v,bV K H v (mn (mn (mn x y) z) t)->Q v H):kN K [.ref l] H Q E0:=by
 refine⟨l,[u1,u2,u3,u4],[x,y,z,t],Z,aI.of dl,⟨R1,b1,R2,b2,R3,b3,R4,b4,trivial⟩,by simp,λc v q e1 e2 hq=>k v ?_⟩;have e:mn (mn (mn x y) z) t=q:=by
  refine mn4 ?_ (hq _ (by simp)) (hq _ (by simp)) (hq _ (by simp)) (hq _ (by simp))
  match c,e2 with |0,e2=>cases e2;exact .inl rfl |1,e2=>cases e2;exact .inr (.inl rfl) |2,e2=>cases e2;exact .inr (.inr (.inl rfl)) |3,e2=>cases e2;exact .inr (.inr (.inr rfl))
 rw[e]
 match c,e1,e2 with |0,e1,e2=>cases e1;cases e2;exact R1 |1,e1,e2=>cases e1;cases e2;exact R2 |2,e1,e2=>cases e1;cases e2;exact R3 |3,e1,e2=>cases e1;cases e2;exact R4
theorem BL{D:Nat}{q:Rat}{z:Int}(h:Dd D q)(hl:q<=1600)(hz:0<=z)(QV:z<2^24)(hD:D<=1700):Bd 2000 (q+(z:Rat)):=by have b:Bd (D+11) q:=h.bd (eH hl aF);exact(vx b au).mono au
abbrev Ed:Stmt:=inClass (top 74) 15
theorem MO:aW ["self","top","reach","left","rise","fall","middles","ends","square","steps","gone","still"] ["self","top","reach","left"] (aM Ed):=bh aF
def Gv(M:bE)(S:ba)(top R:Rat)(left:Int):ba:={S with pc:=uF M.r M.f S.pc top R left S.aR,aR:=Gu S.aR}
inductive ab1(K:aa)(C:Addr)(vs:List V)(H:Hp)(Q:VK):Prop |mk (a:_)(q:_)(M:_)(D:_)(S:_)(tv:_)(Rv:_)(top:_)(R:_)(left:_)(h0:vs=[.ref a,tv,Rv,.int left])(h1:bU K C H a q M S)(h2:cA M D S)(h3:M.Ok)(h4:bV K H tv top)(h5:Dd 14 top)(h6:top<=1600)(h7:bV K H Rv R)(h8:Dd 64 R)(h9:R<=1600)(h10:1<=left)(h11:left<=100)(sQ:¬Halt S.pc S.aR)(h13:∀v H',bV K H' v (o8 M.r M.f S.pc top R left S.aR)->bU K C H' a q M (Gv M S top R left)->cB [a] H H'->Q v H')
def LP(K:aa)(C:Addr):Sp:=λvs H Q _=>ab1 K C vs H Q
theorem a0h{C:Addr}(F:MA K C "next_square" "Runner.next_square" Ed)(TC:cX K C)(mQ:aA P w K mg ao "plus_whole" 4 (ub K))(QZ:aA P w K mg ao "times" 3 (wy (·*·) K))(qc:aA P w K mg ao "fraction" 3 (uc K))(mT:aA P w K mg ao "least" 2 (kN K))(oJ:bQ P w K mg ao C "is_held" 1 (cP K C λ_ S H Q=>Q (.bl S.aR.isSome) H)):bQ P w K mg ao C "next_square" 5 (LP K C):=by
 refine F.has MO (λvs H Q E h=>?_) (λ_ _ _ _ _ _=>JO λ_ _ _ _=>rfl) (λf aH A outer s H vs Q E hr h=>?_)
 ·obtain⟨a,q,M,D,S,tv,Rv,top,R,left,rfl,_⟩:=h
  rfl
 ·obtain⟨a,q,M,D,S,tv,Rv,top,R,left,rfl,R0,ok,aG,rt,td,tl,rR,Rd,Rl,l1,l2,nh,k⟩:=h
  obtain⟨dx,mv,bv,bS,sv,e,r1,r2,r3,r4⟩:=R0.ob;obtain⟨ys,eq,rq⟩:=R0.qu;have aq:=R0.ne;have nd:=MO.nd;have uk:=aG.r1;have qj:=aG.f1;have D1:=ok.D1;have D2:=ok.D2;have iJ:(2:Int)^24=16777216:=by decide
  obtain⟨ma,mb,rfl,gQ,j6⟩:=mF r1;refine⟨_,(aB (G8 (i:=4) (j:=5) Z nd Z Z ay Z Z (ak (px K (cC TC.cl TC.ky (pv 0)) aE) (ak (px K (cC TC.cl TC.ky (pv 0)) aE) aw)) rfl) (aB (pS 6 nd (da (ak (pf mQ hr (ak (cC TC.cl TC.pR (pv 0)) (ak (pv 4) aw))) (ak (pv 1) (ak (pf mQ hr (ak (pv 2) (ak (aQ cD (pv 5) (aQ jr (aQ cD aE (pv 3)) aE)) aw))) aw))))) (aB (pS 7 nd (da (ak (pf mQ hr (ak (cC TC.cl TC.pR (pv 0)) (ak (aQ cD aE (pv 4)) aw))) (ak (pv 1) (ak (pf mQ hr (ak (pv 2) (ak (aQ cD (aQ cD aE (pv 5)) (aQ jr (pv 3) aE)) aw))) aw))))) (aB (iX (bJ (cH (cZ oJ TC.cl (hr.mono ay) (pv 0))) (aB (eM (cC TC.cl TC.uJ (pv 0)) (eX K rfl (n:=3) rfl (bZ (bj 8 nd) (bZ (bj 9 nd) (bZ (bj 10 nd) eW))))) (aB (pS 11 nd (aQ jr (aQ jr (pv 9) (pv 10)) aE)) (aB (ku (nY K Z (pv 6) (ak (pf QZ hr (ak (pv 8) (ak (pf qc hr (ak (aQ dI (aQ cD aE (pv 11)) aE) (ak (aQ cD aE (pv 9)) aw))) aw))) aw))) (aB (ku (nY K Z (pv 7) (ak (pf QZ hr (ak (pv 8) (ak (pf qc hr (ak (pv 11) (ak (pv 9) aw))) aw))) aw))) (aJ (fF TC.cl TC.uJ (pv 0) (gJ (ak (pv 8) (ak (pv 9) (ak (aQ dI (pv 10) aE) aw)))))))))) bK)) (aB (fF TC.cl TC.pR (pv 0) (pf mT hr (ak (pv 7) aw))) (aJ (aP (pf mT hr (ak (pv 6) aw))))))))),?_⟩;refine⟨_,Z,a,dx,_,_,Z,e,Z,.inr ⟨ma,_,1,.int M.r,Z,Z,gQ,Z,?_⟩⟩;refine⟨_,Z,a,dx,_,_,Z,e,Z,.inr ⟨ma,_,2,.int M.f,Z,Z,gQ,Z,_,_,Z,?_⟩⟩;have fl1:(M.f*(2*left-1)).natAbs<=50*200:=by rw[gU];exact qK au au
  have a7e:0<=M.f*(2*left-1):=kj au au;have fl2:(2*M.f*(left-1)).natAbs<=100*100:=by rw[gU];exact qK au au
  have a7d:0<=2*M.f*(left-1):=kj au au;have P7:Bd 2000 S.pc:=(ok.pd.bd (eH ok.pm aF)).mono au;have RB:Bd 2000 R:=(Rd.bd (eH Rl aF)).mono ay;have tB:Bd 2000 top:=(td.bd (eH tl aF)).mono ay;have B1:Bd 2000 (S.pc+(M.r:Rat)):=BL ok.pd ok.pm au au au;have B2:Bd 2000 (R+((M.f*(2*left-1):Int):Rat)):=BL Rd Rl a7e au au;have B3:Bd 2000 (S.pc+((2*M.r:Int):Rat)):=BL ok.pd ok.pm au au au;have B4:Bd 2000 (R+((2*M.f*(left-1):Int):Rat)):=BL Rd Rl a7d au au;refine⟨_,Z,a,dx,_,_,Z,e,Z,_,Z,bS,_,_,Z,r3,P7,au,λu1 H1 kO s1=>?_⟩;refine⟨_,Z,_,Z,_,Z,_,Z,_,_,Z,Z,.of_left (dv ay ay),_,_,Z,Z,_,_,Z,Z,.of_left (dv au au),Rv,_,_,Z,rR.go s1,RB,au,λu2 H2 wN s2=>?_⟩;refine⟨ck Z,λlm H3 n3=>?_⟩;have eU:=s1.trans (s2.trans n3.same);refine⟨_,Z,a,dx,_,_,Z,eU _ _ e,Z,_,Z,_,_,Z,Z,.of_left (dv ay ay),bS,_,_,Z,r3.go eU,P7,au,λu3 H4 Y3 s4=>?_⟩;have jm:=eU.trans s4;refine⟨_,Z,_,Z,_,Z,_,_,Z,Z,.of_left (dv ay ay),_,Z,_,_,Z,Z,_,_,Z,Z,.of_left (dv au au),Rv,_,_,Z,rR.go jm,RB,au,λu4 H5 Y2 s5=>?_⟩;refine⟨ck Z,λle H6 n6=>?_⟩;have nV:=jm.trans (s5.trans n6.same);have gX:=s4.trans (s5.trans n6.same);have e6:=nV _ _ e;have R6:=R0.same ok.row.no nV;have U1:=kO.go (s2.trans (n3.same.trans gX));have U2:=wN.go (n3.same.trans gX);have U3:=Y3.go (s5.trans n6.same);have U4:=Y2.go n6.same;have T6:=rt.go nV;have dm:=gX _ _ n3.at';have de:=n6.at';have JN:a≠lm:=λz=>by have:=n3.no;rw[<-z,(s1.trans s2) _ _ e]at this;cases this
  have Uh:a≠le:=λz=>by have:=n6.no;rw[<-z,(jm.trans s5) _ _ e]at this;cases this
  have Qp:lm≠le:=λz=>by have:=n6.no;rw[<-z,(s4.trans s5) _ _ n3.at']at this;cases this
  have nlm:H lm=none:=by cases e':H lm with |none=>rfl |some o=>have:=(s1.trans s2) _ _ e';rw[n3.no]at this;cases this
  have nle:H le=none:=by cases e':H le with |none=>rfl |some o=>have:=(jm.trans s5) _ _ e';rw[n6.no]at this;cases this
  refine⟨λO H7=>∃qV w8 w9 pk KP um ue,O=[some (.ref a),some tv,some Rv,some (.int left),some (.int M.r),some (.int M.f),some (.ref lm),some (.ref le),w8,w9,pk,KP]/\cB [a,lm,le] H6 H7/\H7 a=some (.ins C dx (eV (.ref ma) bv (.int S.dn) (.ref q) bS (.int S.az) (.str S.side) (.str S.mark) qV))/\vy K H7 qV (Gu S.aR)/\H7 lm=some (.lst um)/\H7 le=some (.lst ue)/\(∀H8 Q',cT H7 H8->H8 lm=some (.lst um)->(∀v,bV K H8 v (o8 M.r M.f S.pc top R left S.aR)->Q' v H8)->kN K [.ref lm] H8 Q' E0)/\(∀H8 Q',cT H7 H8->H8 le=some (.lst ue)->(∀v,bV K H8 v (uF M.r M.f S.pc top R left S.aR)->Q' v H8)->kN K [.ref le] H8 Q' E0),?_,?_⟩
  ·refine⟨_,Z,a,dx,_,Z,e6,Z,a,q,M,D,S,Z,R6,ok,aG,_,Z,?_⟩
   cases hs:S.aR with |none=>rw[hs]at r4;refine aV ⟨sv,_,_,_,_,_,_,Z,cB.refl _ _,e6,r4,dm,de,λH8 Q' sV d8 kq=>Qx d8 (U1.v sV) (T6.v sV) (U2.v sV) B1 tB B2 kq,λH8 Q' sV d8 kq=>Qx d8 (U3.v sV) (T6.v sV) (U4.v sV) B3 tB B4 kq⟩ |some z=>
    obtain⟨sq,st,gn⟩:=z;rw[hs]at r4;have sk:=ok.aR;rw[hs]at sk nh;obtain⟨g1,g2,g3⟩:=xc sk ok.pd.nn nh;obtain⟨gn0,gn1,zL,CY,CW,_,_⟩:=sk;obtain⟨ta,su,rfl,hta,hsu⟩:=r4;refine bG ?_;have a4l:=hta.go nV;have HH:=hsu.go nV;have Lx:Bd 2000 sq:=(CY.bd CW).mono au;refine⟨_,Z,a,dx,_,_,Z,e6,Z,ta,_,Z,a4l,Z,_,_,Z,_,_,Z,_,_,Z,Z,?_⟩;refine⟨_,Z,_,Z,_,_,Z,Z,_,_,Z,Z,?_⟩;have iJ:sizeLine=16777216:=by decide
    refine⟨_,Z,.inl ⟨Z,_,aI.of dm⟩,_,Z,_,Z,_,_,Z,Z,.of_left (dv ay ay),_,_,Z,Z,_,Z,_,_,Z,Z,.of_left (dv ay ay),_,_,Z,au,jI (n:=64) au ay,λfv H7 rf s7=>?_⟩;have fB:Bd 2000 (Rat.divInt (2*(st-gn-1)+1) (2*st)):=(jt (n:=12) au au au).mono ay;have fB2:Bd 2000 (Rat.divInt (st-gn-1) st):=(jt (n:=12) au au au).mono ay;have pB:Bd 2000 (sq*Rat.divInt (2*(st-gn-1)+1) (2*st)):=((CY.bd CW).mul (jt (n:=12) au au au)).mono au;have Zr:Bd 2000 (sq*Rat.divInt (st-gn-1) st):=((CY.bd CW).mul (jt (n:=12) au au au)).mono au;refine⟨su,fv,sq,_,Z,HH.go s7,rf,Lx,fB,λx1 H8 XR s8=>?_⟩;have ug:=s7.trans s8;have SR:=ug _ _ dm;refine⟨lm,_,_,Z,Z,SR,by show 3<sizeLine;lia,?_⟩;have v8:cT H8 (_L.upd H8 lm (.lst ([u1,tv,u2]++[x1]))):=.upd SR trivial;have Th:(_L.upd H8 lm (.lst ([u1,tv,u2]++[x1]))) le=some (.lst [u3,tv,u4]):=by rw[aU Qp.symm];exact ug _ _ de
    refine⟨_,Z,.inl ⟨Z,_,aI.of Th⟩,_,Z,_,Z,_,Z,_,_,Z,au,jI (n:=64) au ay,λgv H9 rg s9=>?_⟩;refine⟨su,gv,sq,_,Z,((HH.go ug).v v8).go s9,rg,Lx,fB2,λx2 nk XQ rj=>?_⟩;have uf:=s9.trans rj;have Ti:=uf _ _ Th;refine⟨le,_,_,Z,Z,Ti,by show 3<sizeLine;lia,?_⟩;have v10:cT nk (_L.upd nk le (.lst ([u3,tv,u4]++[x2]))):=.upd Ti trivial;refine⟨_,Z,_,Z,_,Z,_,_,Z,Z,ck Z,λtn kH pT=>?_⟩;have VO:cT H6 nk:=(ug.v.trans v8).trans uf.v;have VN:cT H6 kH:=(VO.trans v10).trans pT.same.v;have e8:(_L.upd H8 lm (.lst ([u1,tv,u2]++[x1]))) a=some (.ins C dx (eV (.ref ma) bv (.int S.dn) (.ref q) bS (.int S.az) (.str S.side) (.str S.mark) (.ref ta))):=by rw[aU JN];exact ug _ _ e6
    have SN:kH a=some (.ins C dx (eV (.ref ma) bv (.int S.dn) (.ref q) bS (.int S.az) (.str S.side) (.str S.mark) (.ref ta))):=pT.same _ _ (by rw[aU Uh];exact uf _ _ e8);refine⟨_,Z,a,dx,_,Z,SN,by show 9<1000;decide,?_⟩;have zu:cT kH (_L.upd kH a (.ins C dx (eV (.ref ma) bv (.int S.dn) (.ref q) bS (.int S.az) (.str S.side) (.str S.mark) (.ref tn)))):=.upd SN trivial;have qS:=VN.trans zu;have VM:=(((v8.trans uf.v).trans v10).trans pT.same.v).trans zu;have VQ:=(v10.trans pT.same.v).trans zu;refine⟨.ref tn,_,_,_,_,[u1,tv,u2,x1],[u3,tv,u4,x2],Z,λb o' eb hb=>?_,bW,⟨tn,su,Z,aY.v zu (aY.of pT.at'),HH.v qS⟩,?_,?_,λH' Q' sV d' kq=>?_,λH' Q' sV d' kq=>?_⟩
    ·have ha:b≠a:=λz=>hb (by rw[z];simp)
     have hlm:b≠lm:=λz=>hb (by rw[z];simp);have hle:b≠le:=λz=>hb (by rw[z];simp);rw[aU ha];exact pT.same _ _ (by rw[aU hle];exact uf _ _ (by rw[aU hlm];exact ug _ _ eb))
    ·rw[aU JN.symm]
     exact pT.same _ _ (by rw[aU Qp];exact uf _ _ bW)
    ·rw[aU Uh.symm]
     exact pT.same _ _ bW
    ·exact Qw d' ((U1.v qS).v sV) ((T6.v qS).v sV) ((U2.v qS).v sV) ((XR.v VM).v sV) B1 tB B2 pB kq
    ·exact Qw d' ((U3.v qS).v sV) ((T6.v qS).v sV) ((U4.v qS).v sV) ((XQ.v VQ).v sV) B3 tB B4 Zr kq
  ·rintro O H7 ⟨qV,w8,w9,pk,KP,um,ue,rfl,bt,e7,nR,dm7,de7,km,ke⟩
   refine⟨_,Z,?_⟩;dsimp only[m4];refine ke H7 _ .refl de7 λpe Yd=>?_;refine⟨_,Z,a,dx,_,Z,e7,by show 9<1000;decide,?_⟩;have v8:cT H7 (_L.upd H7 a (.ins C dx (eV (.ref ma) bv (.int S.dn) (.ref q) pe (.int S.az) (.str S.side) (.str S.mark) qV))):=.upd e7 trivial;refine⟨_,Z,?_⟩;dsimp only[m4];refine km _ _ v8 (by rw[aU JN.symm];exact dm7) λv rv=>?_;have bH:cB [a] H (_L.upd H7 a (.ins C dx (eV (.ref ma) bv (.int S.dn) (.ref q) pe (.int S.az) (.str S.side) (.str S.mark) qV))):=λb o' eb hb=>by
    have ha:b≠a:=λz=>hb (by rw[z];simp);rw[aU ha];refine bt b o' (nV _ _ eb) λhm=>?_;simp only[cg,eT,iT]at hm;rcases hm with h|h|h
    ·exact ha h
    ·rw[h,nlm]at eb;cases eb
    ·rw[h,nle]at eb;cases eb
   have vH:cT H (_L.upd H7 a (.ins C dx (eV (.ref ma) bv (.int S.dn) (.ref q) pe (.int S.az) (.str S.side) (.str S.mark) qV))):=bH.v λx hx o' eo=>by rw[cW]at hx;rw[hx,e]at eo;cases eo;trivial
   refine k v _ rv ⟨⟨dx,.ref ma,bv,pe,qV,bW,RD.v vH _ (iG _ _ _ _ _) r1,RD.v vH _ (mj _) r2,Yd.v v8,nR.v v8⟩,ys,bH _ _ eq (by rw[cW];exact aq.symm),aL.v vH _ ok.row.no rq⟩ bH
end
end _b
set_option maxHeartbeats 2000000
namespace _b
open PySem PySem.Spec PyProof.Rows _L _r _l _C _P _W _R
open _O (topR cornO mnO betR atO ownF leadF ownL OkI OkIs)
section
variable {P:af}{w:World}{K:aa}{mg:bD}{ao:Heap}
noncomputable def jM(M:bE)(S:ba):Rat:=OD M.f M.j S.az S.os
noncomputable def xt(M:bE)(S:ba)(ns:List Int)(sp:Int):Rat:=o8 M.r M.f S.pc (topR S.az sp) (jM M S) ((aO ns:Int)-S.dn) S.aR
noncomputable def uM(M:bE)(S:ba)(ns:List Int)(sp:Int):ah:=u9 M.t (mh ns S.dn) (xt M S ns sp)
noncomputable def mH(M:bE)(S:ba)(ns:List Int)(sp:Int):ba:={Gv M S (topR S.az sp) (jM M S) ((aO ns:Int)-S.dn)with dn:=S.dn+1}
def iE(ns:List Int)(S:ba):ba:=if S.dn=aO ns then mX S else S
def eL(d:ah)(S:ba):ba:=match d with | .tuple [.str w,.str s]=>if w="tool" then{S with side:=s}else if w="mark" then{S with mark:=s}else S |_=>S
inductive One(M:bE):ba->ah->ba->Prop |line {S:ba}{ns:List Int}{sp:Int}:S.os[0]? =some (some (ns,sp))->¬Halt S.pc S.aR->One M S (uM M S ns sp) (iE ns (mH M S ns sp)) |gL {S:ba}{d:ah}:S.os[0]? =some none->S.ds[0]? =some d->¬Halt S.pc S.aR->One M S d (mX (eL d S))
inductive Run(M:bE):ba->List ah->ba->Prop |nil (S:ba):Run M S [] S |cons {S S1 S2:ba}{e:ah}{es:List ah}:One M S e S1->Run M S1 es S2->Run M S (e::es) S2
theorem Run.trans{M:bE}{S S1 S2:ba}{es fs:List ah}(h:Run M S es S1)(g:Run M S1 fs S2):Run M S (es++fs) S2:=by induction h with |nil=>exact g |cons o _ ih=>exact .cons o (ih g)
theorem Run.snoc{M:bE}{S S1 S2:ba}{es:List ah}{e:ah}(h:Run M S es S1)(g:One M S1 e S2):Run M S (es++[e]) S2:=h.trans (.cons g (.nil _))
theorem DF{M:bE}{D:Nat}{S:ba}(h:jB M D S)(d:ah):jB M D (eL d S)/\(eL d S).os=S.os/\(eL d S).ds=S.ds/\(eL d S).dn=S.dn/\(eL d S).pl=S.pl:=by
 unfold eL;split
 ·split
  ·exact⟨⟨h.row,h.rw,h.len,h.cL,h.cV,h.pl,h.pd,h.pm,h.aR,h.D1,h.D2⟩,Z,Z,Z,Z⟩
  ·split
   ·exact⟨⟨h.row,h.rw,h.len,h.cL,h.cV,h.pl,h.pd,h.pm,h.aR,h.D1,h.D2⟩,Z,Z,Z,Z⟩
   ·exact⟨h,Z,Z,Z,Z⟩
 ·exact⟨h,Z,Z,Z,Z⟩
theorem FV{M:bE}{D:Nat}{S:ba}(h:jB M D S)(aG:M.Ok)(hn:S.os≠[]):Dd 64 (jM M S)/\jM M S<=1600:=by
 have h1:1<=S.os.length:=by cases e:S.os with|nil=>exact(hn e).elim|cons _ _=>simp
 refine⟨a7c (by have:=aG.f1;lia) (λi _=>Zt aG.j1.1 aG.j1.2 h.cL h.cV h.row.kY i) 1 h1,?_⟩;exact eH (a7b h1) (Zs h.cL h.cV h.row.kY 1)
theorem Qo{M:bE}{D:Nat}{S:ba}{ns:List Int}{sp:Int}(h:jB M D S)(aG:M.Ok)(eo:S.os[0]? =some (some (ns,sp)))(hd:S.dn<aO ns)(nh:¬Halt S.pc S.aR):jB M D (mH M S ns sp):=by
 have hn:S.os≠[]:=λe=>by rw[e]at eo;simp at eo
 obtain⟨R1,R2⟩:=FV h aG hn;obtain⟨du,s1,s2⟩:=h.row.ok 0 ns sp eo;have D1:=h.D1;have uk:=aG.r1;have qj:=aG.f1;refine⟨h.row,h.rw,h.len,h.cL,h.cV,h.pl,?_,?_,?_,h.D1,h.D2⟩
 ·exact a8M au au au h.pd ((CJ _ _).mono au) (R1.mono au) h.aR nh
 ·exact eH a8L (zy s1 s2 h.cL h.cV)
 ·exact X3 h.aR h.pd.nn nh
theorem One.ok{M:bE}{D:Nat}{S S1:ba}{e:ah}(h:cA M D S)(aG:M.Ok)(o:One M S e S1):cA M D S1:=by cases o with
 |@line ns sp eo nh=>
  have hd:S.dn<aO ns:=by
   rcases h.dn with e|⟨Gx,Dw,e1,e2⟩
   ·rw[e];exact(h.row.ok 0 ns sp eo).1.lead.1
   ·rw[eo]at e1;cases e1;exact e2
  have raw:=Qo h.raw aG eo hd nh;have hn:S.os≠[]:=λe=>by rw[e]at eo;simp at eo
  unfold iE;split
  ·exact raw.end hn
  ·next cI=>
   refine raw.ok (.inr ⟨ns,sp,eo,?_⟩);have:(mH M S ns sp).dn=S.dn+1:=rfl
   lia |gL eo ed nh=>obtain⟨h1,h2,_⟩:=DF h.raw e;refine h1.end ?_;rw[h2];intro z;rw[z]at eo;simp at eo
theorem Run.ok{M:bE}{D:Nat}{S S1:ba}{es:List ah}(h:cA M D S)(aG:M.Ok)(r:Run M S es S1):cA M D S1:=by induction r with |nil=>exact h |cons o _ ih=>exact ih (o.ok h aG)
theorem One.no{M:bE}{D:Nat}{S S1:ba}{e:ah}(h:cA M D S)(o:One M S e S1):ek e=true:=by cases o with |line _ _=>exact Ls _ _ _ |gL eo ed _=>exact fN.mp h.row.no _ (fc ed)
theorem Run.no{M:bE}{D:Nat}{S S1:ba}{es:List ah}(h:cA M D S)(aG:M.Ok)(r:Run M S es S1):cx es=true:=by induction r with |nil=>rfl |cons o _ ih=>rw[cx,eK];exact⟨o.no h,ih (o.ok h aG)⟩
theorem AZ{b:Bool}{A B A' B':Prop}(h1:A->A')(h2:B->B'):(if b=true then A else B)->(if b=true then A' else B'):=by
 cases b
 ·exact h2
 ·exact h1
abbrev E9:Stmt:=inClass (top 74) 14
theorem MN:aW ["self","most","line","lead","rows","top","reach","told","middle"] ["self","most"] (aM E9):=bh aF
inductive ab0(K:aa)(C:Addr)(vs:List V)(H:Hp)(Q:VK):Prop |mk (a:_)(q:_)(M:_)(D:_)(S:_)(ns:_)(sp:_)(most:_)(h0:vs=[.ref a,.int most])(h1:bU K C H a q M S)(h2:cA M D S)(h3:M.Ok)(h4:S.os[0]? =some (some (ns,sp)))(h5:¬Halt S.pc S.aR)(h6:1<=most)(h7:most<=1000)(h8:∀l ys es S' q' H',H l=none->H' l=some (.lst ys)->aL K H' ys es->Run M S es S'->1<=es.length->(es.length:Int)<=most->bU K C H' a q' M S'->Mv a q H q' H'->l≠q'->Q (.ref l) H')
def LO(K:aa)(C:Addr):Sp:=λvs H Q _=>ab0 K C vs H Q
theorem a0c{C:Addr}(F:MA K C "steps_of_first" "Runner.steps_of_first" E9)(TC:cX K C)(B:bB mg)(jT:aA P w K mg ao "lead_of" 1 (nU K))(a4p:aA P w K mg ao "step_rows" 3 (D4 K))(Ba:aA P w K mg ao "top_square" 4 (zN K))(a4y:aA P w K mg ao "reach_behind_first" 9 (D5 K))(a4q:aA P w K mg ao "step_entry" 3 (Dr K))(xX:bQ P w K mg ao C "is_halted" 2 (cP K C λ_ S H Q=>Q (.bl (S.aR.isSome&&decide (S.pc=0))) H))(a6i:bQ P w K mg ao C "next_square" 5 (LP K C))(IC:bQ P w K mg ao C "end_first" 3 (Dh K C)):bQ P w K mg ao C "steps_of_first" 10 (LO K C):=by
 refine F.has MN (λvs H Q E h=>?_) (λ_ _ _ _ _ _=>dN λ_ _=>rfl) (λf aH A outer s H vs Q E hr h=>?_)
 ·obtain⟨a,q,M,D,S,ns,sp,most,rfl,_⟩:=h
  rfl
 ·obtain⟨a,q,M,D,S,ns,sp,most,rfl,R0,ok,aG,eo,nh,m1,m2,k⟩:=h
  obtain⟨dx,mv,bv,bS,tv,e,r1,r2,r3,r4⟩:=R0.ob;obtain⟨ys,eq,rq⟩:=R0.qu;have aq:=R0.ne;have nd:=MN.nd;have lr:=aG.len;have uk:=aG.r1;have qj:=aG.f1;have ll:=ok.row.len;have h20:=ok.len;have xO:0<S.os.length:=(dw.mp eo).1;have cI:S.os≠[]:=λz=>by rw[z]at xO;exact absurd xO ay
  obtain⟨d,ed⟩:∃d,S.ds[0]? =some d:=⟨_,cy (show 0<S.ds.length by lia)⟩;obtain⟨y,ey,ry⟩:=rq.get 0 ed;have dD:=mK (ok.row.it 0 d _ ed eo);subst dD;obtain⟨du,dZ,ie⟩:=ok.row.ok 0 ns sp eo;have ZM:eQ ns.length 1000 ns:=⟨Z,λz hz=>by have:=du.bd z hz;lia,du.nz⟩;have Qi:=du.lead.1;have a3B:=Qz du;have PM:ns.length<=3:=by rw[du.len];lia
  have hd0:S.dn<aO ns:=by
   rcases ok.dn with e'|⟨Gx,Dw,e1,e2⟩
   ·lia
   ·rw[eo]at e1;cases e1;exact e2
  obtain⟨Rd,Rl⟩:=FV ok.raw aG cI;refine⟨_,(aB (pS 2 nd (px K (cC TC.cl TC.iq (pv 0)) aE)) (aB (pS 3 nd (pf jT hr (ak (pv 2) aw))) (aB (pS 4 nd (pf a4p hr (ak (pv 2) aw))) (aB (pS 5 nd (pf Ba hr (ak (pv 2) (ak (cC TC.cl TC.xn (pv 0)) aw)))) (aB (pS 6 nd (pf a4y hr (ak (cC TC.cl TC.ky (pv 0)) (ak (cC TC.cl TC.iq (pv 0)) (ak (cC TC.cl TC.xn (pv 0)) aw))))) (aB (pS 7 nd (da aw)) (aB (iX (rL gT (PW.pt (rJ (bX kX (fH K B (ak (pv 7) aw)) (pv 1) (bL _)) (rJ (bX kX (cC TC.cl TC.mz (pv 0)) (pv 3) (bL _)) (wW (dB (cH (cZ xX TC.cl (hr.mono ay) (pv 0)))))))) (aB (pS 8 nd (mq a6i TC.cl (hr.mono ay) (pv 0) (ak (pv 5) (ak (pv 6) (ak (aQ jr (pv 3) (cC TC.cl TC.mz (pv 0))) aw))))) (aB (ku (nY K Z (pv 7) (ak (pf a4q hr (ak (cC TC.cl TC.ky (pv 0)) (ak (px K (pv 4) (cC TC.cl TC.mz (pv 0))) (ak (pv 8) aw)))) aw))) (aJ (YR TC.cl TC.mz (pv 0) aE a3U)))))) (aB (iX (bJ (bX (dF K Z hr.units) (cC TC.cl TC.mz (pv 0)) (pv 3) (bL _)) (aJ (ku (cZ IC TC.cl (hr.mono ay) (pv 0)))) bK)) (aJ (aP (pv 7))))))))))),?_⟩;refine⟨_,Z,a,dx,_,_,Z,e,Z,.inl ⟨q,_,0,y,Z,Z,aI.of eq,cE (dY 0) ey,?_⟩⟩;refine⟨_,Z,y,ns,sp,Z,ry,du.ne,au,λH1 s1=>?_⟩;refine⟨_,Z,y,ns,sp,Z,RD.mono s1 _ ry,ZM,au,λmG yr H2 nlr SS Ou s2=>?_⟩;have ij:=s1.trans s2;refine⟨_,Z,_,Z,a,dx,_,_,Z,ij _ _ e,Z,y,ns,sp,S.az,Z,RD.mono ij _ ry,dZ,ie,ok.cL,ok.cV,λqT H3 Y5 s3=>?_⟩;have eU:=ij.trans s3;have e3:=eU _ _ e;refine⟨_,Z,a,dx,_,_,Z,e3,Z,_,Z,a,dx,_,_,Z,e3,Z,_,Z,a,dx,_,_,Z,e3,Z,mv,.ref q,S.az,M.rs,M.r,M.f,M.j,M.t,S.ds,S.os,Z,RD.mono eU _ r1,aG,wV (aI.of (eU _ _ eq)) (aL.mono eU _ rq),ok.row,au,au,ok.cL,ok.cV,λrF H4 Ya s4=>?_⟩;have jm:=eU.trans s4;refine⟨ck Z,λl H5 n5=>?_⟩;have pH:=jm.trans n5.same;have O6:aD H2 H5:=s3.trans (s4.trans n5.same);have nl:H l=none:=by cases e':H l with |none=>rfl |some o=>have:=jm _ _ e';rw[n5.no]at this;cases this
  have PL:H mG=none:=by cases e':H mG with |none=>rfl |some o=>have:=s1 _ _ e';rw[nlr]at this;cases this
  have al:a≠l:=λz=>by rw[<-z,e]at nl;cases nl
  have ql:q≠l:=λz=>by rw[<-z,eq]at nl;cases nl
  have Ue:a≠mG:=λz=>by rw[<-z,e]at PL;cases PL
  have llr:l≠mG:=λz=>by have:=n5.no;rw[z,(s3.trans s4) _ _ SS]at this;cases this
  have Vz:=Ou.length;rw[FQ]at Vz;have td:=CJ S.az sp;have tl:=zy dZ ie ok.cL ok.cV;have tp:=KZ dZ ok.cL;have a1W:iE ns S=S:=by unfold iE;rw[bf au]
  have iJ:sizeLine=16777216:=by decide
  refine⟨λO H6=>∃T es us w8,O=[some (.ref a),some (.int most),some y,some (.int (aO ns)),some (.ref mG),some qT,some rF,some (.ref l),w8]/\cB [a,l] H5 H6/\bU K C H6 a q M T/\jB M D T/\T.os=S.os/\T.ds=S.ds/\T.az=S.az/\T.dn<=aO ns/\1<=es.length/\(es.length:Int)<=most/\H6 l=some (.lst us)/\aL K H6 us es/\cx es=true/\Run M S es (iE ns T),?_,?_⟩
  ·refine qQ (λO H6=>∃T es us w8,O=[some (.ref a),some (.int most),some y,some (.int (aO ns)),some (.ref mG),some qT,some rF,some (.ref l),w8]/\cB [a,l] H5 H6/\bU K C H6 a q M T/\jB M D T/\T.os=S.os/\T.ds=S.ds/\T.az=S.az/\T.dn=S.dn+es.length/\T.dn<=aO ns/\(es.length:Int)<=most/\H6 l=some (.lst us)/\aL K H6 us es/\cx es=true/\Run M S es (iE ns T)/\(es=[]->¬Halt T.pc T.aR)) (λ_ H6=>match H6 l with|some (.lst us)=>2000-us.length|_=>0) ?_ ?_ ?_
   ·exact⟨S,[],[],none,Z,cB.refl _ _,R0.same ok.row.no pH,ok.raw,Z,Z,Z,Z,au,by simp;lia,n5.at',dy,Z,by rw[a1W];exact .nil _,λ_=>nh⟩
   ·rintro O H6 ⟨T,es,us,w8,rfl,bt,RT,raw,qp,BG,vg,edn,RF,oF,dl,rd,kE,run,hnh⟩
    have lu:=rd.length;obtain⟨t6,mv6,bv6,Zn,W3,e6,t1,t2,t3,t4⟩:=RT.ob;have CG:cT H5 H6:=bt.v λx hx o' fq=>by
     simp only[cg,eT,iT]at hx;rcases hx with rfl|rfl
     ·rw[pH _ _ e]at fq;cases fq;trivial
     ·rw[n5.at']at fq;cases fq;trivial
    have nos:cx T.ds=true:=by rw[BG];exact ok.row.no
    have Je:1<=es.length->∃T' oQ kK zr,[some (.ref a),some (.int most),some y,some (.int (aO ns)),some (.ref mG),some qT,some rF,some (.ref l),w8]=[some (.ref a),some (.int most),some y,some (.int (aO ns)),some (.ref mG),some qT,some rF,some (.ref l),zr]/\cB [a,l] H5 H6/\bU K C H6 a q M T'/\jB M D T'/\T'.os=S.os/\T'.ds=S.ds/\T'.az=S.az/\T'.dn<=aO ns/\1<=oQ.length/\(oQ.length:Int)<=most/\H6 l=some (.lst kK)/\aL K H6 kK oQ/\cx oQ=true/\Run M S oQ (iE ns T'):=λh1=>⟨T,es,us,w8,Z,bt,RT,raw,qp,BG,vg,RF,h1,oF,dl,rd,kE,run⟩;refine⟨_,Z,l,us,Z,.inl (aI.of dl),_,Z,_,_,Z,Z,_,Z,?_⟩;show if decide ((us.length:Int)<most)=true then _ else _;by_cases c1:(us.length:Int)<most
    ·rw[cf c1]
     refine bG ?_;refine⟨_,Z,a,t6,_,_,Z,e6,Z,_,Z,_,_,Z,Z,_,Z,?_⟩;show if decide ((T.dn:Int)<(aO ns:Int))=true then _ else _;by_cases c2:T.dn<aO ns
     ·rw[cf au]
      refine bG ?_;have Pr:cA M D T:=raw.ok (.inr ⟨ns,sp,by rw[qp];exact eo,c2⟩);have a1V:iE ns T=T:=by unfold iE;rw[bf au]
      refine⟨_,Z,a,t6,_,Z,e6,Z,a,q,M,D,T,Z,RT,Pr,aG,_,Z,?_⟩;by_cases c3:Halt T.pc T.aR
      ·have hb:(T.aR.isSome&&decide (T.pc=0))=true:=by obtain⟨h1,h2⟩:=c3;rw[cf h2,zf];cases hs:T.aR with |none=>exact(h1 hs).elim |some _=>rfl
       rw[hb];refine aV ?_;refine Je ?_;cases es with |nil=>exact(hnh Z c3).elim |cons _ _=>simp
      ·have hb:(T.aR.isSome&&decide (T.pc=0))=false:=by cases hs:T.aR with |none=>rfl |some _=>show decide (T.pc=0)=false;exact dE λh2=>c3 ⟨by rw[hs];simp,h2⟩
       rw[hb];refine bG ?_;have rT:jM M T=jM M S:=by unfold jM;rw[qp,vg]
       refine⟨_,Z,a,t6,_,Z,e6,Z,?_⟩;refine⟨_,Z,_,Z,_,Z,_,Z,a,t6,_,_,Z,e6,Z,_,_,Z,Z,?_⟩;have Y4:bV K H6 qT (topR S.az sp):=((Y5.go s4).go n5.same).v CG;have Y9:bV K H6 rF (jM M S):=(Ya.go n5.same).v CG;refine⟨a,q,M,D,T,qT,rF,topR S.az sp,jM M S,_,Z,RT,Pr,aG,Y4,td,tl,Y9,Rd,Rl,au,au,c3,λmid H7 Yj R7 b7=>?_⟩;obtain⟨qt,si,BR,Aq,zw,e7',Lg,WU,WT,WS⟩:=R7.ob;have e7:H7 a=some (.ins C qt (eV si BR (.int T.dn) (.ref q) Aq (.int T.az) (.str T.side) (.str T.mark) zw)):=e7';have zt:cT H6 H7:=b7.v λx hx o' fq=>by rw[cW]at hx;rw[hx,e6]at fq;cases fq;trivial
       have BI:=b7 _ _ dl (by rw[cW];exact al.symm);have a92:=O6 _ _ SS;have a91:=bt _ _ a92 (by simp;exact⟨Ue.symm,llr.symm⟩);have a90:=b7 _ _ a91 (by rw[cW];exact Ue.symm);have Yk:aL K H7 yr (nW ns):=aL.v zt _ (FP ns) (aL.v CG _ (FP ns) (aL.mono O6 _ Ou));obtain⟨rv,Su⟩:∃rv,yr[T.dn]? =some rv:=⟨_,cy (show T.dn<yr.length by lia)⟩;obtain⟨dr,SK,Af⟩:=Yk.get' T.dn Su;rw[Om c2]at SK;cases SK;have mB:Bd 2000 (o8 M.r M.f T.pc (topR S.az sp) (jM M S) ((aO ns:Int)-T.dn) T.aR):=by have D1:=raw.D1;have D2:=raw.D2;exact((Qc au au au raw.pd (td.mono au) (Rd.mono au) raw.aR c3).bd (eH Qa (eH tl aF))).mono au
       have mP:0<o8 M.r M.f T.pc (topR S.az sp) (jM M S) ((aO ns:Int)-T.dn) T.aR:=Qb uk.1 qj.1 au raw.pd.nn tp Rd.nn raw.aR c3;refine⟨_,Z,.inl ⟨Z,_,aI.of BI⟩,?_⟩;refine⟨_,Z,a,qt,_,_,Z,e7,Z,?_⟩;refine⟨_,Z,_,Z,a,qt,_,_,Z,e7,Z,.inl ⟨mG,_,_,_,Z,Z,aI.of a90,cE (show(0:Int)<=(T.dn:Int) by lia) (by simpa using Su),?_⟩⟩;refine⟨_,Z,si,rv,mid,M.rs,M.r,M.f,M.j,M.t,mh ns T.dn,_,Z,Lg,aG,Af,Yj,mB,mP,λent H8 Yp s8=>?_⟩;have yp:=s8 _ _ BI;refine⟨l,us,_,Z,Z,yp,au,?_⟩;have e8:(_L.upd H8 l (.lst (us++[ent]))) a=some (.ins C qt (eV si BR (.int T.dn) (.ref q) Aq (.int T.az) (.str T.side) (.str T.mark) zw)):=by rw[aU al];exact s8 _ _ e7
       refine⟨_,Z,a,qt,_,_,Z,e8,Z,_,_,Z,Z,qt,_,e8,by show 9<1000;decide,?_⟩;have vl:cT H8 (_L.upd H8 l (.lst (us++[ent]))):=.upd yp trivial;have va:cT (_L.upd H8 l (.lst (us++[ent]))) (_L.upd (_L.upd H8 l (.lst (us++[ent]))) a (.ins C qt (eV si BR (.int ((T.dn:Int)+1)) (.ref q) Aq (.int T.az) (.str T.side) (.str T.mark) zw))):=.upd e8 trivial;have v7:=(s8.v.trans vl).trans va;have eS:mH M T ns sp={Gv M T (topR S.az sp) (jM M S) ((aO ns:Int)-T.dn)with dn:=T.dn+1}:=by unfold mH;rw[rT,vg]
       have eE:uM M T ns sp=u9 M.t (mh ns T.dn) (o8 M.r M.f T.pc (topR S.az sp) (jM M S) ((aO ns:Int)-T.dn) T.aR):=by unfold uM xt;rw[rT,vg]
       have a4C:One M T (uM M T ns sp) (iE ns (mH M T ns sp)):=.line (by rw[qp];exact eo) c3;obtain⟨yq,eq7,Yb⟩:=R7.qu;have GC:cx (es++[uM M T ns sp])=true:=fN.mpr λd hd=>by
        rcases ki.mp hd with h|h
        ·exact fN.mp kE d h
        ·rw[cW]at h;rw[h];exact Ls _ _ _
       have q7l:q≠l:=ql;refine⟨⟨mH M T ns sp,es++[uM M T ns sp],us++[ent],_,Z,λb o' eb hb=>?_,?_,Qo raw aG (by rw[qp];exact eo) c2 c3,qp,BG,vg,?_,?_,?_,?_,?_,?_,?_,λz=>by simp at z⟩,?_⟩
       ·have ha:b≠a:=λz=>hb (by rw[z];simp)
        have fT:b≠l:=λz=>hb (by rw[z];simp);rw[aU ha,aU fT];exact s8 _ _ (b7 _ _ (bt _ _ eb hb) (by rw[cW];exact ha))
       ·rw[eS]
        refine⟨⟨qt,si,BR,Aq,zw,?_,RD.v v7 _ (iG _ _ _ _ _) Lg,RD.v v7 _ (mj _) WU,WT.v v7,WS.v v7⟩,yq,?_,aL.v v7 _ nos Yb⟩
        ·exact bW
        ·rw[aU aq.symm,aU ql];exact s8 _ _ eq7
       ·show T.dn+1=_
        rw[fe];show _=_+(_+1);lia
       ·show T.dn+1<=_
        lia
       ·rw[fe];show((es.length+1:Nat):Int)<=most;lia
       ·rw[aU al.symm,bW]
       ·refine aL.v va _ GC (aL.v vl _ GC ?_)
        have r7:aL K H8 us es:=aL.mono s8 _ (aL.v zt _ kE rd);refine r7.append (cF ?_ dy);rw[eE];exact Yp
       ·exact GC
       ·rw[a1V]at run
        exact run.snoc a4C
       ·show(match(_L.upd (_L.upd H8 l (.lst (us++[ent]))) a _) l with|some (.lst us)=>2000-us.length|_=>0)<(match H6 l with|some (.lst us)=>2000-us.length|_=>0)
        rw[aU al.symm,bW,dl];show 2000-(us++[ent]).length<2000-us.length;rw[fe];show 2000-(us.length+1)<_
        lia
     ·rw[dE au]
      refine aV ?_;exact Je au
    ·rw[dE c1]
     refine aV ?_;exact Je au
   ·rintro O H6 Q1 Q2 hq ⟨v1,f1,l',kK,f2,f3,v2,f4,i1,i2,f5,f6,b1,f7,h⟩
    refine⟨v1,f1,l',kK,f2,f3,v2,f4,i1,i2,f5,f6,b1,f7,AZ ?_ (hq _ _) h⟩;rintro⟨v3,f8,a',qv,lK,u',f9,Jc,Jb,v4,f12,i3,i4,f13,f14,b2,Ja,h⟩;refine⟨v3,f8,a',qv,lK,u',f9,Jc,Jb,v4,f12,i3,i4,f13,f14,b2,Ja,AZ ?_ (hq _ _) h⟩;rintro⟨v5,J9,a2,jW,IT,J8,J6,J5,a3,q3,M3,D3,S3,J4,J3,J2,J1,b3,J0,h⟩;exact⟨v5,J9,a2,jW,IT,J8,J6,J5,a3,q3,M3,D3,S3,J4,J3,J2,J1,b3,J0,hq _ _ h⟩
  ·rintro O H6 ⟨T,es,us,w8,rfl,bt,RT,raw,qp,BG,vg,RF,h1,oF,dl,rd,kE,run⟩
   obtain⟨t6,mv6,bv6,Zn,W3,e6,t1,t2,t3,t4⟩:=RT.ob;have a4P:T.os≠[]:=by rw[qp];exact cI
   have bH:∀{H7:Hp},cB [a] H6 H7->cB [a,q] H H7:=λ{H7} b7 b o' eb hb=>by
    have ha:b≠a:=λz=>hb (by rw[z];simp);refine b7 _ _ (bt _ _ (pH _ _ eb) λhm=>?_) (by rw[cW];exact ha);simp only[cg,eT,iT]at hm;rcases hm with h|h
    ·exact ha h
    ·rw[h,nl]at eb;cases eb
   refine⟨λO H7=>∃q' zr,O=[some (.ref a),some (.int most),some y,some (.int (aO ns)),some (.ref mG),some qT,some rF,some (.ref l),zr]/\bU K C H7 a q' M (iE ns T)/\Mv a q H q' H7/\l≠q'/\∃kK,H7 l=some (.lst kK)/\aL K H7 kK es,?_,?_⟩
   ·refine⟨_,Z,a,t6,_,_,Z,e6,Z,_,Z,.inl ⟨_,_,Z,Z,_,Z,?_⟩⟩
    show if decide ((T.dn:Int)=(aO ns:Int))=true then _ else _;by_cases c:T.dn=aO ns
    ·rw[cf au]
     refine bG ?_;refine⟨_,Z,a,t6,_,Z,e6,Z,a,q,M,D,T,Z,RT,raw,aG,a4P,λq' H7 R7 nq b7=>?_⟩;have zt:cT H6 H7:=b7.v λx hx o' fq=>by rw[cW]at hx;rw[hx,e6]at fq;cases fq;trivial
     refine⟨q',_,Z,by unfold iE;rw[bc c];exact R7,⟨bH b7,.inr ?_⟩,λz=>?_,us,b7 _ _ dl (by rw[cW];exact al.symm),aL.v zt _ kE rd⟩
     ·cases e':H q' with |none=>rfl |some o'=>
      have h5:=pH _ _ e';by_cases ha:q'=a
      ·rw[ha,e6]at nq;cases nq
      ·by_cases fT:q'=l
       ·rw[fT,nl]at e';cases e'
       ·have:=bt _ _ h5 (by simp;exact⟨ha,fT⟩)
        rw[nq]at this;cases this
     ·rw[<-z,dl]at nq;cases nq
    ·rw[dE au]
     refine aV ?_;exact⟨q,_,Z,by unfold iE;rw[bf c];exact RT,⟨bH (cB.refl _ _),.inl Z⟩,ql.symm,us,dl,rd⟩
   ·rintro O H7 ⟨q',zr,rfl,R7,si,lq,kK,BI,Yr⟩
    exact⟨_,Z,k l kK es (iE ns T) q' H7 nl BI Yr run h1 oF R7 si lq⟩
theorem Mv.trans{a q q1 q2:Addr}{H H1 H2:Hp}(m1:Mv a q H q1 H1)(m2:Mv a q1 H1 q2 H2)(ha:H1 a≠none):Mv a q H q2 H2:=by
 refine⟨λb o e hb=>?_,?_⟩
 ·refine m2.but _ _ (m1.but _ _ e hb) λhm=>?_
  simp only[cg,eT,iT]at hm hb;rcases hm with h|h
  ·exact hb (.inl h)
  ·rcases m1.nq with h1|h1
   ·exact hb (.inr (h.trans h1))
   ·rw[<-h]at h1;rw[h1]at e;cases e
 ·rcases m2.nq with h|h
  ·rw[h];exact m1.nq
  ·cases e:H q2 with |none=>exact .inr rfl |some o=>
   by_cases h1:q2=q
   ·exact .inl h1
   ·by_cases h2:q2=a
    ·rw[h2]at h;exact(ha h).elim
    ·have:=m1.but _ _ e (by simp;exact⟨h2,h1⟩)
     rw[h]at this;cases this
inductive ab6(K:aa)(C:Addr)(vs:List V)(H:Hp)(Q:VK):Prop |mk (a:_)(q:_)(M:_)(D:_)(S:_)(most:_)(h0:vs=[.ref a,.int most])(h1:bU K C H a q M S)(h2:cA M D S)(h3:M.Ok)(h4:S.os≠[])(h5:¬Halt S.pc S.aR)(h6:1<=most)(h7:most<=1000)(h8:∀l ys es S' q' H',H l=none->H' l=some (.lst ys)->aL K H' ys es->Run M S es S'->1<=es.length->(es.length:Int)<=most->bU K C H' a q' M S'->Mv a q H q' H'->l≠q'->Q (.ref l) H')
def LQ(K:aa)(C:Addr):Sp:=λvs H Q _=>ab6 K C vs H Q
abbrev Em:Stmt:=inClass (top 74) 13
theorem MS:aW ["self","most","item"] ["self","most"] (aM Em):=bh aF
theorem a0q{C:Addr}(F:MA K C "entries_of_first" "Runner.entries_of_first" Em)(TC:cX K C)(jv:aA P w K mg ao "is_line" 1 (pF K))(a6h:bQ P w K mg ao C "steps_of_first" 10 (LO K C))(IC:bQ P w K mg ao C "end_first" 3 (Dh K C)):bQ P w K mg ao C "entries_of_first" 11 (LQ K C):=by
 refine F.has MS (λvs H Q E h=>?_) (λ_ _ _ _ _ _=>dN λ_ _=>rfl) (λf aH A outer s H vs Q E hr h=>?_)
 · obtain⟨a,q,M,D,S,most,rfl,_⟩:=h
   rfl
 · obtain⟨a,q,M,D,S,most,rfl,R0,ok,aG,cI,nh,m1,m2,k⟩:=h
   obtain⟨dx,mv,bv,bS,tv,e,r1,r2,r3,r4⟩:=R0.ob;obtain⟨ys,eq,rq⟩:=R0.qu;have aq:=R0.ne;have nd:=MS.nd;have ll:=ok.row.len;have xO:0<S.os.length:=by cases h:S.os with|nil=>exact(cI h).elim|cons _ _=>simp
   obtain⟨d,ed⟩:∃d,S.ds[0]? =some d:=⟨_,cy (show 0<S.ds.length by lia)⟩;obtain⟨y,ey,ry⟩:=rq.get 0 ed;obtain⟨o,eo,it⟩:=ok.row.get ed;refine⟨_,(aB (pS 2 nd (px K (cC TC.cl TC.iq (pv 0)) aE)) (aB (bJ (cH (pf jv hr (ak (pv 2) aw))) (aJ (aP (mq a6h TC.cl (hr.mono ay) (pv 0) (ak (pv 1) aw)))) bK) (aB (iX (bJ (bX (dF K Z hr.units) (px K (pv 2) aE) bo (bL _)) (aJ (fF TC.cl TC.GI (pv 0) (px K (pv 2) aE))) bK)) (aB (iX (bJ (bX (dF K Z hr.units) (px K (pv 2) aE) bo (bL _)) (aJ (fF TC.cl TC.GJ (pv 0) (px K (pv 2) aE))) bK)) (aB (ku (cZ IC TC.cl (hr.mono ay) (pv 0))) (aJ (aP (da (ak (pv 2) aw))))))))),?_⟩;refine⟨_,Z,a,dx,_,_,Z,e,Z,.inl ⟨q,_,0,y,Z,Z,aI.of eq,cE (dY 0) ey,?_⟩⟩;refine⟨_,Z,y,d,o,Z,ry,it,_,Z,?_⟩;cases o with |some z=>obtain⟨ns,sp⟩:=z;refine bG ?_;exact⟨_,Z,a,dx,_,Z,e,Z,_,Z,a,q,M,D,S,ns,sp,most,Z,R0,ok,aG,eo,nh,m1,m2,k⟩ |none=>
     refine aV ?_;have gL:=ok.rw 0 d eo ed;have wd:∃z u ya yr,d= .tuple [.str z,u]/\y= .ref ya/\aY K H ya (.str z::[yr])/\RD K H yr u/\SeqAt.shaped (.str z)=true:=by
      rcases gL with⟨n,rfl,_⟩|⟨w',s',rfl,hw,_⟩
      · obtain⟨ya,xs,rfl,h1,h2⟩:=ry.cJ
        obtain⟨x1,rr,rfl,e1,h2⟩:=h2.cons_inv;obtain⟨x2,rr,rfl,e2,h2⟩:=h2.cons_inv;cases h2.nil_inv;cases e1.str_inv;exact⟨_,_,ya,x2,Z,Z,h1,e2,aF⟩
      · obtain⟨ya,xs,rfl,h1,h2⟩:=ry.cJ
        obtain⟨x1,rr,rfl,e1,h2⟩:=h2.cons_inv;obtain⟨x2,rr,rfl,e2,h2⟩:=h2.cons_inv;cases h2.nil_inv;cases e1.str_inv;exact⟨_,_,ya,x2,Z,Z,h1,e2,by rcases hw with rfl|rfl<;>decide+kernel⟩
     obtain⟨z,u,ya,yr,rfl,rfl,Hs,Oc,sz⟩:=wd;have tU:SeqAt.shaped (.str "tool")=true:=by decide+kernel
     have tM:SeqAt.shaped (.str "mark")=true:=by decide+kernel
     have eqT:∀(x y:Str),PyData.eqv (.str x) (.str y)=decide (x=y):=λx y=>by show(x==y)=decide (x=y);rw[jg];simp
     refine⟨λO H1=>O=[some (.ref a),some (.int most),some (.ref ya)]/\cB [a] H H1/\H1 a=some (.ins C dx (eV mv bv (.int S.dn) (.ref q) bS (.int S.az) (.str (if z="tool" then(eL (.tuple [.str z,u]) S).side else S.side)) (.str S.mark) tv)),?_,?_⟩
     · refine⟨_,Z,.inr ⟨ya,_,0,.str z,Z,Z,Hs,cE (dY 0) Z,.inr ⟨_,_,bu _,bu _,sz,tU,_,Z,?_⟩⟩⟩
       rw[eqT];by_cases c:z="tool"
       · rw[cf c]
         refine bG ?_;have hu:∃s',u= .str s':=by
          rcases gL with⟨n,h,_⟩|⟨w',s',h,hw,_⟩
          ·cases h;exact absurd c aF
          ·cases h;exact⟨_,rfl⟩
         obtain⟨s',rfl⟩:=hu;cases Oc.str_inv;refine⟨_,Z,.inr ⟨ya,_,1,.str s',Z,Z,Hs,cE ay Z,_,Z,a,dx,_,Z,e,by show 9<1000;decide,?_⟩⟩;refine⟨Z,BS (by simp),?_⟩;rw[bc c];have es:(eL (.tuple [.str z,.str s']) S).side=s':=by unfold eL;simp only[bc c]
         rw[es];exact bW
       · rw[dE c]
         refine aV ⟨Z,cB.refl _ _,?_⟩;rw[bf c];exact e
     rintro O H1 ⟨rfl,b1,e1⟩;have VS:cT H H1:=b1.v λx hx o' fq=>by rw[cW]at hx;rw[hx,e]at fq;cases fq;trivial
     have QX:=aY.v VS Hs;refine⟨λO H2=>O=[some (.ref a),some (.int most),some (.ref ya)]/\cB [a] H H2/\H2 a=some (.ins C dx (eV mv bv (.int S.dn) (.ref q) bS (.int S.az) (.str (eL (.tuple [.str z,u]) S).side) (.str (eL (.tuple [.str z,u]) S).mark) tv)),?_,?_⟩
     · refine⟨_,Z,.inr ⟨ya,_,0,.str z,Z,Z,QX,cE (dY 0) Z,.inr ⟨_,_,bu _,bu _,sz,tM,_,Z,?_⟩⟩⟩
       rw[eqT];by_cases c:z="mark"
       · rw[cf c]
         refine bG ?_;have nt:¬z="tool":=by rw[c];decide+kernel
         rw[bf nt]at e1;have hu:∃s',u= .str s':=by
          rcases gL with⟨n,h,_⟩|⟨w',s',h,hw,_⟩
          ·cases h;exact absurd c aF
          ·cases h;exact⟨_,rfl⟩
         obtain⟨s',rfl⟩:=hu;cases Oc.str_inv;refine⟨_,Z,.inr ⟨ya,_,1,.str s',Z,Z,QX,cE ay Z,_,Z,a,dx,_,Z,e1,by show 9<1000;decide,?_⟩⟩;refine⟨Z,b1.trans (BS (by simp)),?_⟩;have es:(eL (.tuple [.str z,.str s']) S).side=S.side/\(eL (.tuple [.str z,.str s']) S).mark=s':=by constructor<;>(unfold eL;simp only[bf nt,bc c])
         rw[es.1,es.2];exact bW
       · rw[dE c]
         refine aV ⟨Z,b1,?_⟩;have em:(eL (.tuple [.str z,u]) S).mark=S.mark:=by
          unfold eL;split
          · next h => cases h;split
                      ·rfl
                      ·first|rfl|rw[bf c]
          ·rfl
         have es:(if z="tool" then(eL (.tuple [.str z,u]) S).side else S.side)=(eL (.tuple [.str z,u]) S).side:=by
          by_cases c2:z="tool"
          ·rw[bc c2]
          · rw[bf c2]
            unfold eL;split
            ·next h=>cases h;first|rfl|rw[bf c2,bf c]
            ·rfl
         rw[es]at e1;rw[em];exact e1
     rintro O H2 ⟨rfl,b2,e2⟩;have vZ:cT H H2:=b2.v λx hx o' fq=>by rw[cW]at hx;rw[hx,e]at fq;cases fq;trivial
     obtain⟨OG,Aw,Jp,dn',YX⟩:=DF ok.raw (.tuple [.str z,u]);have fx:(eL (.tuple [.str z,u]) S).pc=S.pc/\(eL (.tuple [.str z,u]) S).az=S.az/\(eL (.tuple [.str z,u]) S).aR=S.aR:=by
      unfold eL;split
      · split
        ·exact⟨Z,Z,Z⟩
        ·split<;>exact⟨Z,Z,Z⟩
      ·exact⟨Z,Z,Z⟩
     have R2:bU K C H2 a q M (eL (.tuple [.str z,u]) S):=by
      refine⟨⟨dx,mv,bv,bS,tv,?_,RD.v vZ _ (iG _ _ _ _ _) r1,?_,?_,?_⟩,ys,b2 _ _ eq (by rw[cW];exact aq.symm),?_⟩
      ·rw[dn',fx.2.1];exact e2
      ·rw[YX];exact RD.v vZ _ (mj _) r2
      ·rw[fx.1];exact r3.v vZ
      ·rw[fx.2.2];exact r4.v vZ
      ·rw[Jp];exact aL.v vZ _ ok.row.no rq
     refine⟨_,Z,a,dx,_,Z,e2,Z,a,q,M,D,_,Z,R2,OG,aG,by rw[Aw];exact cI,λq' H3 R3 nq b3=>?_⟩;have JJ:=b2.trans b3;have VR:cT H H3:=JJ.v λx hx o' fq=>by rw[cW]at hx;rw[hx,e]at fq;cases fq;trivial
     have nq0:H q'=none:=by cases e':H q' with |none=>rfl |some o'=>
        by_cases ha:q'=a
        ·rw[ha,e2]at nq;cases nq
        · have:=b2 _ _ e' (by rw[cW];exact ha)
          rw[nq]at this;cases this
     refine⟨_,Z,ck Z,λl H4 n4=>?_⟩;have nl:H l=none:=by cases e':H l with |none=>rfl |some o'=>
        by_cases ha:l=a
        · obtain⟨dx3,_,_,_,_,e3,_⟩:=R3.ob
          have:=n4.no;rw[ha,e3]at this;cases this
        · have:=JJ _ _ e' (by rw[cW];exact ha)
          rw[n4.no]at this;cases this
     have okS:cA M D (mX (eL (.tuple [.str z,u]) S)):=OG.end (by rw[Aw];exact cI);refine k l [.ref ya] [.tuple [.str z,u]] _ q' H4 nl n4.at' (cF (RD.v (VR.trans n4.same.v) _ (fN.mp ok.row.no _ (fc ed)) ry) dy) (.cons (.gL eo ed nh) (.nil _)) (by simp) (by simpa using m1) (R3.same okS.row.no n4.same) ⟨λb o' eb hb=>n4.same _ _ (JJ _ _ eb (by rw[cW];intro h;exact hb (by rw[h];simp))),.inr nq0⟩ ?_;intro h;have:=n4.no;obtain⟨yq,eq3,_⟩:=R3.qu;rw[h,eq3]at this;cases this
inductive ab7(K:aa)(C:Addr)(vs:List V)(H:Hp)(Q:VK):Prop |mk (a:_)(q:_)(M:_)(D:_)(S:_)(n:_)(h0:vs=[.ref a,.int n])(h1:bU K C H a q M S)(h2:cA M D S)(h3:M.Ok)(h4:0<=n)(h5:n<=1000)(h6:∀l ys es S' q' H',H l=none->H' l=some (.lst ys)->aL K H' ys es->Run M S es S'->(es.length:Int)<=n->((es.length:Int)=n\/S'.os=[]\/Halt S'.pc S'.aR)->bU K C H' a q' M S'->Mv a q H q' H'->l≠q'->Q (.ref l) H')
def Dg(K:aa)(C:Addr):Sp:=λvs H Q _=>ab7 K C vs H Q
abbrev En:Stmt:=inClass (top 74) 12
theorem MT:aW ["self","n","told"] ["self","n"] (aM En):=bh aF
theorem a0r{C:Addr}(F:MA K C "entries" "Runner.entries" En)(TC:cX K C)(B:bB mg)(xX:bQ P w K mg ao C "is_halted" 2 (cP K C λ_ S H Q=>Q (.bl (S.aR.isSome&&decide (S.pc=0))) H))(a6j:bQ P w K mg ao C "entries_of_first" 11 (LQ K C)):bQ P w K mg ao C "entries" 12 (Dg K C):=by
 refine F.has MT (λvs H Q E h=>?_) (λ_ _ _ _ _ _=>dN λ_ _=>rfl) (λf aH A outer s H vs Q E hr h=>?_)
 ·obtain⟨a,q,M,D,S,n,rfl,_⟩:=h
  rfl
 ·obtain⟨a,q,M,D,S,n,rfl,R0,ok,aG,n0,n1,k⟩:=h
  have nd:=MT.nd;refine⟨_,(aB (pS 2 nd (da aw)) (aB (iX (rL gT (PW.pt (rJ (bX kX (fH K B (ak (pv 2) aw)) (pv 1) (bL _)) (rJ (wX K Z (cC TC.cl TC.iq (pv 0))) (wW (dB (cH (cZ xX TC.cl (hr.mono ay) (pv 0)))))))) (aJ (ku (Zk K Z (pv 2) (ak (mq a6j TC.cl (hr.mono ay) (pv 0) (ak (aQ jr (pv 1) (fH K B (ak (pv 2) aw))) aw)) aw)))))) (aJ (aP (pv 2))))),?_⟩;refine⟨ck Z,λl H1 nw=>?_⟩;obtain⟨dx,mv,bv,bS,tv,e,r1,r2,r3,r4⟩:=R0.ob;obtain⟨ys,eq,rq⟩:=R0.qu;have al:a≠l:=λz=>by have:=nw.no;rw[<-z,e]at this;cases this
  have ql:q≠l:=λz=>by have:=nw.no;rw[<-z,eq]at this;cases this
  have hq0:H q≠none:=by rw[eq];simp
  have ha0:H a≠none:=by rw[e];simp
  refine⟨λO H2=>∃es S' q' us,O=[some (.ref a),some (.int n),some (.ref l)]/\bU K C H2 a q' M S'/\H2 l=some (.lst us)/\aL K H2 us es/\Run M S es S'/\(es.length:Int)<=n/\((es.length:Int)=n\/S'.os=[]\/Halt S'.pc S'.aR)/\Mv a q H q' H2/\l≠q',?_,?_⟩
  ·refine qQ (λO H2=>∃es S' q' us,O=[some (.ref a),some (.int n),some (.ref l)]/\bU K C H2 a q' M S'/\H2 l=some (.lst us)/\aL K H2 us es/\Run M S es S'/\(es.length:Int)<=n/\Mv a q H q' H2/\l≠q') (λ_ H2=>match H2 l with|some (.lst us)=>2000-us.length|_=>0) ?_ ?_ ?_
   ·exact⟨[],S,q,[],Z,R0.same ok.row.no nw.same,nw.at',dy,.nil _,by simpa using n0,⟨.of nw.same,.inl rfl⟩,ql.symm⟩
   ·rintro O H2 ⟨es,S',q',us,rfl,R2,dl,rd,run,oF,uK,lq⟩
    have rW:=run.ok ok aG;have kE:=run.no ok aG;have lu:=rd.length;obtain⟨jW,mC,bv2,Zo,W4,e2,t1,t2,t3,t4⟩:=R2.ob;obtain⟨yq,eq2,Yc⟩:=R2.qu;have GW:=Yc.length;have Qq:=rW.row.len;refine⟨_,Z,l,us,Z,.inl (aI.of dl),_,Z,_,_,Z,Z,_,Z,?_⟩;show if decide ((us.length:Int)<n)=true then _ else _;by_cases c1:(us.length:Int)<n
    ·rw[cf c1]
     refine bG ?_;refine⟨_,Z,a,jW,_,_,Z,e2,Z,_,.inl ⟨_,aI.of eq2,Z⟩,?_⟩;cases mR:S'.os with |nil=>have:yq=[]:=V9.mp (by rw[GW,Qq,mR];rfl);subst this;refine aV ?_;exact⟨es,S',q',us,Z,R2,dl,rd,run,oF,.inr (.inl mR),uK,lq⟩ |cons o os=>
      have cI:S'.os≠[]:=by rw[mR];simp
      have:∃y yr,yq=y::yr:=by cases yq with |nil=>rw[Qq,mR]at GW;simp at GW |cons y yr=>exact⟨y,yr,Z⟩
      obtain⟨y,yr,rfl⟩:=this;refine bG ?_;refine⟨_,Z,a,jW,_,Z,e2,Z,a,q',M,D,S',Z,R2,rW,aG,_,Z,?_⟩;by_cases c3:Halt S'.pc S'.aR
      ·have hb:(S'.aR.isSome&&decide (S'.pc=0))=true:=by obtain⟨h1,h2⟩:=c3;rw[cf h2,zf];cases hs:S'.aR with |none=>exact(h1 hs).elim |some _=>rfl
       rw[hb];exact aV ⟨es,S',q',us,Z,R2,dl,rd,run,oF,.inr (.inr c3),uK,lq⟩
      ·have hb:(S'.aR.isSome&&decide (S'.pc=0))=false:=by cases hs:S'.aR with |none=>rfl |some _=>show decide (S'.pc=0)=false;exact dE λh2=>c3 ⟨by rw[hs];simp,h2⟩
       rw[hb];refine bG ?_;refine⟨_,Z,.inl ⟨Z,_,aI.of dl⟩,?_⟩;refine⟨_,Z,a,jW,_,Z,e2,Z,_,Z,_,Z,l,us,Z,.inl (aI.of dl),_,_,Z,Z,?_⟩;refine⟨a,q',M,D,S',_,Z,R2,rW,aG,cI,c3,au,au,λl2 y2 fs S2 q2 H3 GF dl2 mi FL f1 f2 R3 AK lq2=>?_⟩;have VP:=R2.v AK.but;have SU:=AK.but _ _ dl (by simp;exact⟨al.symm,lq⟩);have Ys:=aL.v VP _ kE rd;have ly2:=mi.length;have iJ:sizeLine=16777216:=by decide
       refine⟨l,l2,us,y2,Z,Z,SU,dl2,au,?_⟩;have vu:cT H3 (_L.upd H3 l (.lst (us++y2))):=.upd SU trivial;have a4L:=FL.no rW aG;have fW:=FL.ok rW aG;have Qh:l≠q2:=λz=>by
        rcases AK.nq with h|h
        ·exact lq (z.trans h)
        ·rw[<-z,dl]at h;cases h
       refine⟨⟨es++fs,S2,q2,us++y2,Z,R3.go fW.row.no vu (λo' fq=>by rw[aU al];exact fq) (λo' fq=>by rw[aU Qh.symm];exact fq),bW,(aL.v vu _ kE Ys).append (aL.v vu _ a4L mi),run.trans FL,by rw[fe];lia,?_,Qh⟩,?_⟩
       ·have m:=uK.trans AK (by rw[e2];simp)
        exact⟨λb o' eb hb=>by
         have fT:b≠l:=λz=>by have:=nw.no;rw[<-z,eb]at this;cases this
         rw[aU fT];exact m.but _ _ eb hb,m.nq⟩
       ·show(match(_L.upd H3 l (.lst (us++y2))) l with|some (.lst us)=>2000-us.length|_=>0)<(match H2 l with|some (.lst us)=>2000-us.length|_=>0)
        rw[bW,dl];show 2000-(us++y2).length<2000-us.length;rw[fe]
        lia
    ·rw[dE c1]
     refine aV ?_;exact⟨es,S',q',us,Z,R2,dl,rd,run,oF,.inl au,uK,lq⟩
   ·rintro O H6 Q1 Q2 hq ⟨v1,f1,l',kK,f2,f3,v2,f4,i1,i2,f5,f6,b1,f7,h⟩
    refine⟨v1,f1,l',kK,f2,f3,v2,f4,i1,i2,f5,f6,b1,f7,AZ ?_ (hq _ _) h⟩;rintro⟨v3,f8,a',qv,lK,u',f9,Jc,Jb,b2,Ja,h⟩;refine⟨v3,f8,a',qv,lK,u',f9,Jc,Jb,b2,Ja,AZ ?_ (hq _ _) h⟩;rintro⟨v5,J9,a2,jW,IT,J8,J6,J5,a3,q3,M3,D3,S3,J4,J3,J2,J1,b3,J0,h⟩;exact⟨v5,J9,a2,jW,IT,J8,J6,J5,a3,q3,M3,D3,S3,J4,J3,J2,J1,b3,J0,hq _ _ h⟩
  ·rintro O H2 ⟨es,S',q',us,rfl,R2,dl,rd,run,oF,lG,uK,lq⟩
   exact⟨_,Z,k l us es S' q' H2 nw.no dl rd run oF lG R2 uK lq⟩
end
end _b
set_option maxHeartbeats 4000000
namespace _b
open PySem PySem.Spec PyProof.Rows _L _r _l _C _P _W _R
open _O (topR cornO mnO betR atO ownF leadF ownL OkI OkIs)
section
variable {P:af}{w:World}{K:aa}{mg:bD}{ao:Heap}
theorem bU.G5{C:Addr}{H:Hp}{a q dx:Addr}{M:bE}{S S':ba}{mv bv bS tv:V}(R:bU K C H a q M S)(e:H a=some (.ins C dx (eV mv bv (.int S.dn) (.ref q) bS (.int S.az) (.str S.side) (.str S.mark) tv))){yz wZ we:V}(hn:cx S.ds=true)(hd:S'.ds=S.ds) (r1:RD K H mv M.D)(r2:RD K H yz (fG S'.pl))(r3:bV K H wZ S'.pc)(r4:vy K H we S'.aR):bU K C (_L.upd H a (.ins C dx (eV mv yz (.int S'.dn) (.ref q) wZ (.int S'.az) (.str S'.side) (.str S'.mark) we))) a q M S':=by
 have v:cT H (_L.upd H a (.ins C dx (eV mv yz (.int S'.dn) (.ref q) wZ (.int S'.az) (.str S'.side) (.str S'.mark) we))):=.upd e trivial;obtain⟨ys,eq,rq⟩:=R.qu;refine⟨⟨dx,mv,yz,wZ,we,bW,RD.v v _ (iG _ _ _ _ _) r1,RD.v v _ (mj _) r2,r3.v v,r4.v v⟩,ys,?_,?_⟩
 ·rw[aU R.ne.symm];exact eq
 ·rw[hd];exact aL.v v _ hn rq
def gr(f:Int)(pc:Rat):Int:=(pc.num+2*f*(pc.den:Int)-1)/(2*f*(pc.den:Int))
theorem Lp{f:Int}(hf:1<=f){pc:Rat}(h:0<=pc):(0<=gr f pc)/\(gr f pc=0->pc=0)/\pc<=((2*f*gr f pc:Int):Rat)/\(pc<=1600->gr f pc<=1000):=by
 have hn:=Kc.mpr h;have hd:0<2*f*(pc.den:Int):=jH au (den_pos pc);have hd1:2*(pc.den:Int)<=2*f*(pc.den:Int):=by
  have:2*1*(pc.den:Int)<=2*f*(pc.den:Int):=Ct au au
  lia
 unfold gr;generalize hD:2*f*(pc.den:Int)=dd at hd hd1;have q1:=Int.mul_ediv_add_emod (pc.num+dd-1) dd;have q2:=qP (pc.num+dd-1) (show dd≠0 by lia);have q3:=tS (pc.num+dd-1) hd;have q0:0<=(pc.num+dd-1)/dd:=Int.ediv_nonneg au au;generalize hQ:(pc.num+dd-1)/dd=Q at q0 q1;generalize(pc.num+dd-1)%dd=R at q1 q2 q3;have hle:pc.num<=dd*Q:=by lia
 refine⟨q0,λe=>?_,?_,λhm=>?_⟩
 ·rw[e,Int.mul_zero]at hle
  have:pc.num=0:=by lia
  exact Rat.num_eq_zero.mp this
 ·refine Cf.mp λcn=>?_
  rw[Rat.lt_iff,Rat.num_intCast,Rat.den_intCast]at cn;have e1:2*f*Q*(pc.den:Int)=dd*Q:=by rw[<-hD,Int.mul_right_comm]
  rw[e1]at cn
  lia
 ·have sP:¬((1600:Rat)<pc):=Cf.mpr hm
  rw[Rat.lt_iff]at sP;have e1:(1600:Rat).num=1600:=rfl;have e2:(1600:Rat).den=1:=rfl;rw[e1,e2]at sP;have h3:pc.num<=1600*(pc.den:Int):=by lia
  refine Int.not_lt.mp λcn=>?_;have h4:dd*1001<=dd*Q:=Kz au au
  lia
abbrev E8:Stmt:=inClass (top 74) 17
theorem MM:aW ["self","p","q","in_one"] ["self"] (aM E8):=bh aF
theorem a0b{C:Addr}(F:MA K C "stops_in" "Runner.stops_in" E8)(TC:cX K C):bQ P w K mg ao C "stops_in" 1 (cP K C λM S H Q=>Q (.int (gr M.f S.pc)) H):=by
 refine F.has MM (λvs H Q E h=>?_) (λ_ _ _ _ _ _=>cu λ_=>rfl) (λf aH A outer s H vs Q E hr h=>?_)
 ·obtain⟨a,q,M,D,S,rfl,_⟩:=h
  rfl
 ·obtain⟨a,q,M,D,S,rfl,R,ok,aG,k⟩:=h
  obtain⟨dx,mv,bv,bS,tv,e,r1,r2,⟨pa,rfl,xH⟩,r4⟩:=R.ob;have nd:=MM.nd;have qj:=aG.f1;obtain⟨ma,mb,rfl,gQ,j6⟩:=mF r1;have bd:Bd 1600 S.pc:=(ok.pd.bd (eH ok.pm aF)).mono (by have:=ok.D2;lia);have hd:0<2*M.f*(S.pc.den:Int):=jH au (den_pos S.pc);have wd:Wd (2*M.f*(S.pc.den:Int)):=by
   refine jI (n:=1700) ?_ ay;rw[gU];have h1:(2*M.f).natAbs<2^7:=by lia
   have:=oj h1 bd.den;exact fD this (qJ ay ay)
  refine⟨_,(aB (eM (cC TC.cl TC.pR (pv 0)) (eX K rfl (n:=2) rfl (bZ (bj 1 nd) (bZ (bj 2 nd) eW)))) (aB (pS 3 nd (aQ cD (aQ cD aE (px K (cC TC.cl TC.ky (pv 0)) aE)) (pv 2))) (aJ (aP (aQ uz (aQ jr (aQ dI (pv 1) (pv 3)) aE) (pv 3)))))),?_⟩;refine⟨_,Z,a,dx,_,_,Z,e,Z,pa,_,Z,xH,Z,_,_,Z,_,_,Z,Z,?_⟩;refine⟨_,Z,a,dx,_,_,Z,e,Z,.inr ⟨ma,_,2,.int M.f,Z,Z,gQ,Z,_,_,Z,Z,.of_left (dv ay ay),?_⟩⟩;refine⟨_,Z,_,_,Z,Z,.of_left (dv au au),?_⟩;refine⟨_,Z,_,Z,_,_,Z,Z,_,_,Z,Z,_,Z,_,_,Z,Z,⟨hd,wd⟩,?_⟩;exact k
abbrev Eh:Stmt:=inClass (top 74) 18
theorem MQ:aW ["self","steps"] ["self"] (aM Eh):=bh aF
def jS(M:bE)(S:ba):ba:=match S.aR with |none=>{S with aR:=some (S.pc,gr M.f S.pc,0)} |some _=>S
inductive ab3(K:aa)(C:Addr)(vs:List V)(H:Hp)(Q:VK):Prop |mk (a:_)(q:_)(M:_)(D:_)(S:_)(h0:vs=[.ref a])(h1:bU K C H a q M S)(h2:cA M D S)(h3:M.Ok)(h4:∀H',bU K C H' a q M (jS M S)->cB [a] H H'->Q (.int (gr M.f S.pc)) H')
def D9(K:aa)(C:Addr):Sp:=λvs H Q _=>ab3 K C vs H Q
theorem cA.hold{M:bE}{D:Nat}{S:ba}(h:cA M D S)(aG:M.Ok)(hD:D<=1490):cA M (D+10) (jS M S):=by have D1:=h.D1;unfold jS;cases hs:S.aR with |some z=>show cA M (D+10) S;have st:=h.aR;refine⟨h.row,h.rw,h.len,h.cL,h.cV,h.dn,h.pl,h.pd.mono au,h.pm,?_,au,au⟩;rw[hs]at st⊢;obtain⟨sq,gs,gn⟩:=z;obtain⟨a1,a2,a3,a4,a5⟩:=st;exact⟨a1,a2,a3,a4.mono au,a5⟩ |none=>obtain⟨z1,z2,z3,z4⟩:=Lp aG.f1.1 h.pd.nn;refine⟨h.row,h.rw,h.len,h.cL,h.cV,h.dn,h.pl,h.pd.mono au,h.pm,?_,au,au⟩;refine⟨dY _,z1,z4 h.pm,h.pd,eH h.pm aF,z2,?_⟩;show S.pc*(gr M.f S.pc:Rat)<=S.pc*((gr M.f S.pc-0:Int):Rat);rw[Int.sub_zero];exact tO
theorem a0l{C:Addr}(F:MA K C "hold" "Runner.hold" Eh)(TC:cX K C)(xV:bQ P w K mg ao C "stops_in" 1 (cP K C λM S H Q=>Q (.int (gr M.f S.pc)) H))(oJ:bQ P w K mg ao C "is_held" 1 (cP K C λ_ S H Q=>Q (.bl S.aR.isSome) H)):bQ P w K mg ao C "hold" 2 (D9 K C):=by
 refine F.has MQ (λvs H Q E h=>?_) (λ_ _ _ _ _ _=>cu λ_=>rfl) (λf aH A outer s H vs Q E hr h=>?_)
 ·obtain⟨a,q,M,D,S,rfl,_⟩:=h
  rfl
 ·obtain⟨a,q,M,D,S,rfl,R,ok,aG,k⟩:=h
  obtain⟨dx,mv,bv,bS,tv,e,r1,r2,r3,r4⟩:=R.ob;have nd:=MQ.nd;refine⟨_,(aB (pS 1 nd (cZ xV TC.cl (hr.mono ay) (pv 0))) (aB (iX (bJ (dB (cH (cZ oJ TC.cl (hr.mono ay) (pv 0)))) (aJ (fF TC.cl TC.uJ (pv 0) (gJ (ak (cC TC.cl TC.pR (pv 0)) (ak (pv 1) (ak aE aw)))))) bK)) (aJ (aP (pv 1))))),?_⟩;refine⟨_,Z,a,dx,_,Z,e,Z,a,q,M,D,S,Z,R,ok,aG,?_⟩;refine⟨λO H1=>O=[some (.ref a),some (.int (gr M.f S.pc))]/\bU K C H1 a q M (jS M S)/\cB [a] H H1,?_,?_⟩
  ·refine⟨_,Z,a,dx,_,Z,e,Z,a,q,M,D,S,Z,R,ok,aG,_,Z,?_⟩
   cases hs:S.aR with |some z=>refine aV ⟨Z,?_,cB.refl _ _⟩;unfold jS;rw[hs];exact R |none=>
    refine bG ?_;refine⟨_,Z,a,dx,_,_,Z,e,Z,_,Z,ck Z,λt H1 n1=>?_⟩;have e1:=n1.same _ _ e;refine⟨_,Z,a,dx,_,Z,e1,by show 9<1000;decide,?_⟩;have eh:jS M S={S with aR:=some (S.pc,gr M.f S.pc,0)}:=by unfold jS;rw[hs]
    refine⟨Z,?_,λb o' eb hb=>?_⟩
    ·rw[eh]
     exact(R.same ok.row.no n1.same).G5 (S':={S with aR:=some (S.pc,gr M.f S.pc,0)}) e1 ok.row.no rfl (RD.mono n1.same _ r1) (RD.mono n1.same _ r2) (r3.go n1.same) ⟨t,bS,Z,aY.of n1.at',r3.go n1.same⟩
    ·have ha:b≠a:=λz=>hb (by rw[z];simp)
     rw[aU ha];exact n1.same _ _ eb
  ·rintro O H1 ⟨rfl,R1,b1⟩
   exact⟨_,Z,k H1 R1 b1⟩
abbrev Ek:Stmt:=inClass (top 74) 19
theorem XE:aW ["self"] ["self"] (aM Ek):=bh aF
inductive ab4(K:aa)(C:Addr)(vs:List V)(H:Hp)(Q:VK):Prop |mk (a:_)(q:_)(M:_)(D:_)(S:_)(h0:vs=[.ref a])(h1:bU K C H a q M S)(h2:cA M D S)(h3:∀H',bU K C H' a q M {S with aR:=none}->cB [a] H H'->Q (.int (S.ds.length:Nat)) H')
def De(K:aa)(C:Addr):Sp:=λvs H Q _=>ab4 K C vs H Q
theorem a0o{C:Addr}(F:MA K C "go" "Runner.go" Ek)(TC:cX K C)(B:bB mg):bQ P w K mg ao C "go" 1 (De K C):=by
 refine F.has XE (λvs H Q E h=>?_) (λ_ _ _ _ _ _=>cu λ_=>rfl) (λf aH A outer s H vs Q E hr h=>?_)
 ·obtain⟨a,q,M,D,S,rfl,_⟩:=h
  rfl
 ·obtain⟨a,q,M,D,S,rfl,R,ok,k⟩:=h
  obtain⟨dx,mv,bv,bS,tv,e,r1,r2,r3,r4⟩:=R.ob;obtain⟨ys,eq,rq⟩:=R.qu;refine⟨_,(aB (fF TC.cl TC.uJ (pv 0) jo) (aJ (aP (fH K B (ak (cC TC.cl TC.iq (pv 0)) aw))))),?_⟩;refine⟨_,Z,a,dx,_,Z,e,by show 9<1000;decide,?_⟩;have sY:(_L.upd H a (.ins C dx (eV mv bv (.int S.dn) (.ref q) bS (.int S.az) (.str S.side) (.str S.mark) .bw))) q=some (.lst ys):=by rw[aU R.ne.symm];exact eq
  refine⟨_,Z,a,dx,_,_,Z,bW,Z,q,_,Z,.inl (aI.of sY),?_⟩;rw[rq.length];exact k _ (R.G5 (S':={S with aR:=none}) e ok.row.no rfl r1 r2 r3 rfl) (BS (by simp))
theorem G9{M:bE}{D:Nat}{S:ba}(ok:cA M D S):(gI S).length=M.rs.length:=by
 unfold gI;split
 ·exact ok.pl
 ·split
  ·next ns sp eo=>rw[oY (by rw[ok.pl];simp[pC];exact(ok.row.ok 0 ns sp eo).1.len)];exact ok.pl
  ·exact ok.pl
def t7(S:ba):ba:={S with pl:=gI S,dn:=0,ds:=[],os:=[]}
theorem cA.drop{M:bE}{D:Nat}{S:ba}(h:cA M D S):cA M D (t7 S):=⟨.nil,λi d e=>by simp[t7]at e,by simp[t7],h.cL,h.cV,.inl rfl,G9 h,h.pd,h.pm,h.aR,h.D1,h.D2⟩
theorem RQ{pc:Rat}{t:_R.lS}:(t.isSome&&decide (pc=0))=true↔Halt pc t:=by unfold Halt;cases t with |none=>simp |some z=>simp
abbrev Ep:Stmt:=inClass (top 74) 20
theorem MV:aW ["self","dropped"] ["self"] (aM Ep):=bh aF
inductive ab9(K:aa)(C:Addr)(cM:Addr)(vs:List V)(H:Hp)(Q:VK)(E:XK):Prop |mk (a:_)(q:_)(M:_)(D:_)(S:_)(h0:vs=[.ref a])(h1:bU K C H a q M S)(h2:cA M D S)(h3:M.Ok)(h4:(¬Halt S.pc S.aR->∀H',aD H H'->E (.ref cM) none H'))(h5:(Halt S.pc S.aR->∀q' H',bU K C H' a q' M (t7 S)->H q'=none->cB [a] H H'->Q (.int (S.ds.length:Nat)) H'))
def Di(K:aa)(C cM:Addr):Sp:=λvs H Q E=>ab9 K C cM vs H Q E
theorem a0t{C cM:Addr}(F:MA K C "drop" "Runner.drop" Ep)(TC:cX K C)(B:bB mg)(IG:Exc K mg "Moving" cM lP o9)(xX:bQ P w K mg ao C "is_halted" 2 (cP K C λ_ S H Q=>Q (.bl (S.aR.isSome&&decide (S.pc=0))) H))(xW:bQ P w K mg ao C "place" 3 (cP K C λ_ S H Q=>∀v H',RD K H' v (fG (gI S))->aD H H'->Q v H')):jd P w K mg ao C "drop" 5 (Di K C cM):=by
 refine F.uX MV (λvs H Q E h=>?_) (λ_ _ _ _ _ _=>cu λ_=>rfl) (λf aH A outer s H vs Q E hr h=>?_)
 ·obtain⟨a,q,M,D,S,rfl,_⟩:=h
  rfl
 ·obtain⟨a,q,M,D,S,rfl,Ra,ok,aG,k1,k2⟩:=h
  obtain⟨dx,mv,bv,bS,tv,e,r1,r2,r3,r4⟩:=Ra.ob;obtain⟨ys,eq,rq⟩:=Ra.qu;have aq:=Ra.ne;have nd:=MV.nd;have ly:=rq.length;refine⟨_,(aB (bJ (dB (cH (cZ xX TC.cl (hr.mono ay) (pv 0)))) (aJ (G7 (λ_ _ _ _ _ _ _ I m q=>CD I m q) IG UU hr.hd Z (ak bo aw))) bK) (aB (pS 1 nd (fH K B (ak (cC TC.cl TC.iq (pv 0)) aw))) (aB (fF TC.cl TC.rZ (pv 0) (cZ xW TC.cl (hr.mono ay) (pv 0))) (aB (fF TC.cl TC.mz (pv 0) aE) (aB (fF TC.cl TC.iq (pv 0) (da aw)) (aJ (aP (pv 1)))))))),?_⟩;refine⟨_,Z,a,dx,_,Z,e,Z,a,q,M,D,S,Z,Ra,ok,aG,_,Z,?_⟩;cases hh:(S.aR.isSome&&decide (S.pc=0))with |false=>exact bG ⟨ck Z,k1 (λz=>by rw[RQ.mpr z]at hh;cases hh) _ (aD.refl _)⟩ |true=>
   refine aV ?_;have hH:=RQ.mp hh;refine⟨_,Z,a,dx,_,_,Z,e,Z,q,_,Z,.inl (aI.of eq),?_⟩;refine⟨_,Z,a,dx,_,Z,e,Z,a,q,M,D,S,Z,Ra,ok,aG,λu H1 ru s1=>?_⟩;have e1:=s1 _ _ e;refine⟨_,Z,a,dx,_,Z,e1,by show 9<1000;decide,?_⟩;refine⟨_,Z,a,dx,_,Z,bW,by show 9<1000;decide,?_⟩;refine⟨ck Z,λq' H2 n2=>?_⟩;have e2:=n2.same _ _ (bW (a:=a));refine⟨_,Z,a,dx,_,Z,e2,by show 9<1000;decide,?_⟩;have qB:a≠q':=λz=>by have:=n2.no;rw[<-z,bW]at this;cases this
   have key:∀X:Hp,(∀b,b≠a->X b=H2 b)->Q (.int (S.ds.length:Nat)) (_L.upd X a (.ins C dx (eV mv u (.int 0) (.ref q') bS (.int S.az) (.str S.side) (.str S.mark) tv))):=by
    intro X hX;have sQ:∀b o',b≠a->H1 b=some o'->H2 b=some o':=λb o' ha eb=>n2.same _ _ (by rw[aU ha,aU ha];exact eb);have bt:cB [a] H (_L.upd X a (.ins C dx (eV mv u (.int 0) (.ref q') bS (.int S.az) (.str S.side) (.str S.mark) tv))):=λb o' eb hb=>by have ha:b≠a:=λz=>hb (by rw[z];exact .head _);rw[aU ha,hX b ha];exact sQ _ _ ha (s1 _ _ eb)
    have sv:=bt.v λx hx o' eo=>by rw[cW]at hx;rw[hx,e]at eo;cases eo;trivial
    have CU:cT H1 (_L.upd X a (.ins C dx (eV mv u (.int 0) (.ref q') bS (.int S.az) (.str S.side) (.str S.mark) tv))):=λb o' nb eb=>by
     have ha:b≠a:=λz=>by rw[z,e1]at eb;cases eb;exact nb trivial
     rw[aU ha,hX b ha];exact sQ _ _ ha eb
    refine k2 hH q' _ ⟨⟨dx,mv,u,bS,tv,bW,RD.v sv _ (iG _ _ _ _ _) r1,RD.v CU _ (mj _) ru,r3.v sv,r4.v sv⟩,[],?_,dy⟩ ?_ bt
    ·rw[aU qB.symm,hX q' qB.symm];exact n2.at'
    ·cases e':H q' with |none=>rfl |some o'=>have h1:=s1 _ _ e';have h2:=n2.no;rw[aU qB.symm,aU qB.symm,h1]at h2;cases h2
   refine⟨_,Z,?_⟩;rw[ly];exact key _ (λb hb=>rfl)
theorem Yu{d:ah}(h:kP d=true):∃az:Int,d= .int az/\10<=az/\az<=200:=by cases d with |int i=>have h:(decide (10<=i)&&decide (i<=200))=true:=h;rw[eK,K6,K6]at h;exact⟨i,Z,h⟩ |_=>cases h
inductive aaZ(K:aa)(C:Addr)(cR:Addr)(cM:Addr)(vs:List V)(H:Hp)(Q:VK)(E:XK):Prop |mk (a:_)(q:_)(M:_)(D:_)(S:_)(v:_)(d:_)(h0:vs=[.ref a,v])(h1:bU K C H a q M S)(h2:cA M D S)(h3:M.Ok)(h4:RD K H v d)(h5:(kP d=false->∀H',aD H H'->E (.ref cR) none H'))(h6:(kP d=true->S.pc≠0->∀H',aD H H'->E (.ref cM) none H'))(h7:(∀az,d= .int az->10<=az->az<=200->S.pc=0->∀H',bU K C H' a q M {S with az:=az}->cB [a] H H'->Q (.int az) H'))
def D6(K:aa)(C cR cM:Addr):Sp:=λvs H Q E=>aaZ K C cR cM vs H Q E
abbrev E5:Stmt:=inClass (top 74) 21
theorem Xu:aW ["self","rate"] ["self","rate"] (aM E5):=bh aF
theorem a09{C cR cM:Addr}(F:MA K C "turn_rate" "Runner.turn_rate" E5)(TC:cX K C)(a6y:Exc K mg "NoRate" cR lP o9)(IG:Exc K mg "Moving" cM lP o9)(Ia:aA P w K mg ao "is_rate" 3 (zQ K))(sO:bQ P w K mg ao C "stands" 1 (cP K C λ_ S H Q=>Q (.bl (decide (S.pc=0))) H)):jd P w K mg ao C "turn_rate" 5 (D6 K C cR cM):=by
 refine F.uX Xu (λvs H Q E h=>?_) (λ_ _ _ _ _ _=>dN λ_ _=>rfl) (λf aH A outer s H vs Q E hr h=>?_)
 ·obtain⟨a,q,M,D,S,v,d,rfl,_⟩:=h
  rfl
 ·obtain⟨a,q,M,D,S,v,d,rfl,Ra,ok,aG,rd,k1,k2,k3⟩:=h
  obtain⟨dx,mv,bv,bS,tv,e,r1,r2,r3,r4⟩:=Ra.ob;refine⟨_,(aB (bJ (dB (cH (pf Ia hr (ak (pv 1) aw)))) (aJ (G7 (λ_ _ _ _ _ _ _ I m q=>CD I m q) a6y UU hr.hd Z (ak bo aw))) bK) (aB (bJ (dB (cH (cZ sO TC.cl (hr.mono ay) (pv 0)))) (aJ (G7 (λ_ _ _ _ _ _ _ I m q=>CD I m q) IG UU hr.hd Z (ak bo aw))) bK) (aB (fF TC.cl TC.xn (pv 0) (pv 1)) (aJ (aP (pv 1)))))),?_⟩;refine⟨_,Z,v,d,Z,rd,_,Z,?_⟩;cases hd:kP d with |false=>exact bG ⟨ck Z,k1 hd _ (aD.refl _)⟩ |true=>
   refine aV ?_;refine⟨_,Z,a,dx,_,Z,e,Z,a,q,M,D,S,Z,Ra,ok,aG,_,Z,?_⟩;by_cases hp:S.pc=0
   ·rw[cf hp]
    refine aV ?_;obtain⟨az,rfl,h1,h2⟩:=Yu hd;cases rd.int_inv;refine⟨_,Z,_,Z,a,dx,_,Z,e,by show 9<1000;decide,?_⟩;exact⟨_,Z,k3 az Z h1 h2 hp _ (Ra.G5 (S':={S with az:=az}) e ok.row.no rfl r1 r2 r3 r4) (BS (by simp))⟩
   ·rw[dE hp]
    exact bG ⟨ck Z,k2 hd hp _ (aD.refl _)⟩
theorem One.det{M:bE}{S S1 S2:ba}{e f:ah}(h:One M S e S1)(g:One M S f S2):e=f/\S1=S2:=by cases h with
 |line h1 _=>cases g with |line g1 _=>rw[h1]at g1;cases g1;exact⟨rfl,rfl⟩ |gL g1 _ _=>rw[h1]at g1;cases g1
 |gL h1 h2 _=>cases g with |line g1 _=>rw[h1]at g1;cases g1 |gL g1 g2 _=>rw[h2]at g2;cases g2;exact⟨rfl,rfl⟩
theorem One.go{M:bE}{S S1:ba}{e:ah}(h:One M S e S1):¬(S.os=[]\/Halt S.pc S.aR):=by
 rintro(z|z)
 ·cases h with |line h1 _=>rw[z]at h1;simp at h1 |gL h1 _ _=>rw[z]at h1;simp at h1
 ·cases h with |line _ nh=>exact nh z |gL _ _ nh=>exact nh z
theorem Run.a9a{M:bE}{S S1 S2:ba}{es fs:List ah}(h:Run M S es S1){n:Int}(l1:(es.length:Int)<=n)(c1:(es.length:Int)=n\/S1.os=[]\/Halt S1.pc S1.aR)(g:Run M S fs S2)(l2:(fs.length:Int)<=n)(c2:(fs.length:Int)=n\/S2.os=[]\/Halt S2.pc S2.aR):es=fs/\S1=S2:=by induction h generalizing fs n with
 |nil=>cases g with |nil=>exact⟨Z,Z⟩ |cons o r=>
  rcases c1 with z|z
  ·simp only[gp,List.length_nil]at z l2;lia
  ·exact(o.go z).elim
 |cons o r ih=>cases g with
  |nil=>
   rcases c2 with z|z
   ·simp only[gp,List.length_nil]at z l1;lia
   ·exact(o.go z).elim |cons o2 r2=>obtain⟨e,z⟩:=o.det o2;subst e z;simp only[gp]at l1 c1 l2 c2;obtain⟨e1,e2⟩:=ih (n:=n-1) au (c1.imp (λh=>by lia) id) r2 au (c2.imp (λh=>by lia) id);exact⟨by rw[e1],e2⟩
theorem AH{z q k:Int}(hq:0<q)(hk:0<=k)(oB:k<=q)(hz:0<=z):0<=fX (k*z) q/\fX (k*z) q<=z:=by
 have hp:0<=k*z:=kj hk hz;refine⟨a2i hq hp,?_⟩;have h1:k*z<=q*z:=Ct oB hz;unfold fX;rw[bc hp];obtain⟨a,_⟩:=Mf (p:=k*z) hq;have e:(((k*z).natAbs:Nat):Int)=k*z:=Int.natAbs_of_nonneg hp;rw[e]at a;by_cases hh:iC (k*z) q<=z
 ·exact hh
 ·exfalso
  have h2:z+1<=iC (k*z) q:=by lia
  have h3:q*(z+1)<=q*iC (k*z) q:=Kz h2 (KA hq);have h4:q*(z+1)=q*z+q:=by rw[Int.mul_add,zb]
  have h5:2*q*iC (k*z) q=2*(q*iC (k*z) q):=by rw[Cv]
  rw[h5]at a
  lia
theorem a2k{z q k a r:Int}(hq:0<q)(hk:0<=k)(oB:k<=q)(a0:0<=a)(a1:a<=r)(b0:0<=a+z)(b1:a+z<=r):0<=a+fX (k*z) q/\a+fX (k*z) q<=r:=by
 by_cases hz:0<=z
 ·have:=AH hq hk oB hz
  lia
 ·have h:=AH (z:=-z) hq hk oB au
  rw[show k*-z=-(k*z) by rw[Int.mul_neg],PN hq]at h
  lia
theorem ZK{rs pl ns:List Int}{k:Int}(hn:ns.length=pl.length)(hq:0<(aO ns:Int))(hk:0<=k)(oB:k<=aO ns)(h0:fQ rs pl)(h1:fQ rs (jc pl ns)):fQ rs (jc pl (pC ns k)):=by
 have ls:(pC ns k).length=pl.length:=by unfold pC;rw[bM];exact hn
 refine⟨by rw[oY ls];exact h0.len,λi x r e1 e2=>?_⟩;have hi:i<rs.length:=(dw.mp e2).1;have hip:i<pl.length:=by rw[h0.len];exact hi
 obtain⟨a,ea⟩:∃a,pl[i]? =some a:=⟨_,cy hip⟩;obtain⟨z,ez⟩:∃z,ns[i]? =some z:=⟨_,cy (show i<ns.length by lia)⟩;have es:(pC ns k)[i]? =some (fX (k*z) (aO ns)):=by unfold pC;rw[bR,ez];rfl
 rw[yD ea es]at e1;cases e1;have p0:=h0.at' i a r ea e2;have p1:=h1.at' i (a+z) r (yD ea ez) e2;exact a2k hq hk oB p0.1 p0.2 p1.1 p1.2
def fk(M:bE)(S:ba):Prop:=∀i,i<=S.os.length->fQ M.rs ((S.os.take i).foldl iy S.pl)
theorem fk.goal{M:bE}{S:ba}(h:fk M S):fQ M.rs (jx S):=by have:=h S.os.length (bI _);rw[vQ]at this;exact this
theorem fk.pl{M:bE}{S:ba}(h:fk M S):fQ M.rs S.pl:=h 0 (fC _)
theorem fk.eq{M:bE}{S S':ba}(h:fk M S)(e1:S'.os=S.os)(e2:S'.pl=S.pl):fk M S':=by unfold fk;rw[e1,e2];exact h
theorem fk.sT{M:bE}{S:ba}{d:ah}{o:Itm}(h:fk M S)(ho:fQ M.rs (iy (jx S) o)):fk M (vf S d o):=λi hi=>by
 show fQ M.rs (((S.os++[o]).take i).foldl iy S.pl);have pZ:i<=S.os.length+1:=by
  have:(vf S d o).os.length=S.os.length+1:=by show(S.os++[o]).length=_;rw[fe];rfl
  lia
 by_cases hl:i<=S.os.length
 ·rw[List.take_append_of_le_length hl]
  exact h i hl
 ·rw[yX (by rw[fe];show S.os.length+1<=i;lia),Ve]
  exact ho
theorem fk.end{M:bE}{S:ba}(h:fk M S):fk M (mX S):=by unfold mX;cases e:S.os with |nil=>exact h |cons o os=>intro i hi;have:=h (i+1) (by rw[e];exact Nat.succ_le_succ hi);rw[e]at this;exact this
theorem fk.place{M:bE}{D:Nat}{S:ba}(ok:cA M D S)(h:fk M S):fQ M.rs (gI S):=by
 by_cases h0:S.dn=0
 ·unfold gI
  rw[bc h0];exact h.pl
 ·obtain⟨ns,sp,eo,hd⟩:=ok.first h0
  have du:=(ok.row.ok 0 ns sp eo).1;unfold gI;rw[bf h0,eo];have lp:=du.lead.1;have h1:=h 1 (by have:=(dw.mp eo).1;lia);have e1:(S.os.take 1).foldl iy S.pl=jc S.pl ns:=by cases e:S.os with |nil=>rw[e]at eo;simp at eo |cons o os=>rw[e]at eo;cases(dG eo);rfl
  rw[e1]at h1;exact ZK (by rw[du.len];exact h.pl.len.symm) au au au h.pl h1
theorem fk.drop{M:bE}{D:Nat}{S:ba}(ok:cA M D S)(h:fk M S):fk M (t7 S):=λi hi=>by have:i=0:=Nat.le_zero.mp hi;rw[this];exact h.place ok
theorem One.Gj{M:bE}{D:Nat}{S S1:ba}{e:ah}(ok:cA M D S)(o:One M S e S1)(h:fk M S):fk M S1:=by cases o with
 |@line ns sp eo nh=>
  have h1:fk M (mH M S ns sp):=h.eq Z rfl;unfold iE;split
  ·exact h1.end
  ·exact h1 |gL eo ed nh=>obtain⟨_,e1,_,_,e2⟩:=DF ok.raw e;exact(h.eq e1 e2).end
theorem Run.Gj{M:bE}{D:Nat}{S S1:ba}{es:List ah}(ok:cA M D S)(aG:M.Ok)(r:Run M S es S1)(h:fk M S):fk M S1:=by induction r with |nil=>exact h |cons o _ ih=>exact ih (One.ok ok aG o) (o.Gj ok h)
theorem a4D{M:bE}{S:ba}(h:fk M S):fk M (jS M S):=by
 unfold jS;split
 ·exact h
 ·exact h
end
end _b
set_option maxHeartbeats 1000000
namespace _b
open PySem PySem.Spec PyProof.Rows _L
open _T (numS)
section
variable {P:af}{w:World}{K:aa}{mg:bD}{ao:Heap}
def C2 (i:Int):Prop:=i.natAbs<10^540
inductive abk(vs:List V)(H:Hp)(Q:VK):Prop |mk (i:_)(h0:vs=[.int i])(h1:C2 i)(h2:∀H',aD H H'->Q (.str (numS i)) H')
def kn:Sp:=λvs H Q _=>abk vs H Q
theorem a27{ds:List ah}{d:ah}(h:cx ds=true)(i:ek d=true):cx (ds++[d])=true:=fN.mpr λx hx=>(ki.mp hx).elim (fN.mp h x) λz=>by rw[cW.mp z];exact i
abbrev DV:Stmt:=top 80
theorem ME:aW ["number","rest","parts","low","written"] ["number"] (aM DV):=bh aF
theorem a01(F:FA K mg "show_number" DV)(B:bB mg)(RS:GV mg "PART" (.int 10000000000000000000000000000000000000000000000000000000000000000))(a5P:GV mg "PART_FIGURES" (.int 64)):aA P w K mg ao "show_number" 1 kn:=by
 refine F.has ME (λvs H Q E h=>?_) (λ_ _ _ _ _ _=>cu λ_=>rfl) (λf aH A outer s H vs Q E hr h=>?_)
 · obtain⟨i,rfl,_⟩:=h
   rfl
 · obtain⟨i,rfl,hn,k⟩:=h
   have nd:=ME.nd;refine⟨_,(aB (pS 1 nd (dg (x:="abs") tf Z (B.at "abs") vN (ak (pv 0) aw))) (aB (pS 2 nd (da aw)) (aB (rL gT (bX Az (pv 1) (cQ (x:="PART") Z RS) (bL _)) (aB (eM (dg (x:="divmod") a9H Z (B.at "divmod") PyProof.Rows.boot_divmod (ak (pv 1) (ak (cQ (x:="PART") rfl RS) aw))) (eX K rfl (n:=2) rfl (bZ (bj 1 nd) (bZ (bj 3 nd) eW)))) (aJ (ku (nY K Z (pv 2) (ak (Zf K Z (cS (x:="str") gD Z (B.at "str") gm (ak (pv 3) aw)) (ak (cQ (x:="PART_FIGURES") rfl a5P) aw)) aw)))))) (aB (ku (nY K Z (pv 2) (ak (cS (x:="str") gD Z (B.at "str") gm (ak (pv 1) aw)) aw))) (aB (pS 4 nd (Zi K Z Z (B.at "reversed") bo (ak (pv 2) aw))) (aJ (aP (gZ (bX kX (pv 0) aE (bL _)) (pL (fg bo (fg (iD (pv 4)) pI))) (pv 4))))))))),?_⟩;refine⟨_,Z,i,Z,?_⟩;rw[show(if i<0 then-i else i)=((i.natAbs:Nat):Int) by split<;>omega];refine⟨ck Z,λl H1 n1=>?_⟩;refine qQ (λO H2=>aD H H2/\∃(r:Nat)(zs:List Str)(v3 v4:Option V),O=[some (.int i),some (.int r),some (.ref l),v3,v4]/\H2 l=some (.lst (zs.map V.str))/\_N.Wr i.natAbs r zs) (λO _=>match O with|[_,some (.int y),_,_,_]=>y.natAbs|_=>0) ?_ ?_ ?_
   ·exact⟨n1.same,_,[],_,_,Z,n1.at',_N.Wr.nil _⟩
   · rintro O H2 ⟨s2,r,zs,v3,v4,rfl,dl,wr⟩
     refine⟨_,Z,_,_,Z,Z,_,Z,?_⟩;have eB:(10000000000000000000000000000000000000000000000000000000000000000:Int)=((10^64:Nat):Int):=by decide+kernel
     rw[eB];have len:=wr.len hn
     have ll : (zs.map V.str).length < sizeLine := by rw[bM];have:(8:Nat)<sizeLine:=by decide
                                                      omega
     have nl:H l=none:=n1.no;have put:∀(H3:Hp)(z:Str),aD H2 H3->aD H (upd H3 l (.lst (zs.map V.str++[.str z]))):=λH3 z s3 b o e=>by
      have hb:b≠l:=λy=>by rw[y,nl]at e;cases e
      rw[aU hb];exact s3 _ _ (s2 _ _ e)
     refine eP (λhc=>?_) (λhc=>?_)
     · have hr:10^64<=r:=by have:=kg hc;omega
       have hm:r%10^64<10^64:=Nat.mod_lt _ (Nat.pow_pos ay);refine⟨_,Z,_,_,Z,aF,by show(10^64:Nat)<2^5000;decide+kernel,λt H3 n3=>?_⟩;refine⟨_,_,Z,aY.of n3.at',Z,_,_,Z,_,_,Z,Z,?_⟩;have em:(((r:Nat):Int)%((10^64:Nat):Int))=((r%10^64:Nat):Int):=rfl;have ed:(((r:Nat):Int)/((10^64:Nat):Int))=((r/10^64:Nat):Int):=rfl;have lg:=_N.Qt (p8 hm (by decide+kernel:10^64<10^540));refine⟨_,Z,.inl ⟨Z,_,aI.of (n3.same _ _ dl)⟩,_,Z,.inl ⟨_,Z,lg,Z,⟨_,_,Z,Z,aF,⟨l,_,_,Z,Z,n3.same _ _ dl,ll,?_⟩⟩⟩⟩;refine⟨⟨put H3 _ n3.same,r/10^64,zs++[Txt.zfill (numS ((r%10^64:Nat):Int)) 64],_,_,Z,?_,wr.step hr⟩,?_⟩
       ·rw[bW,jG];rfl
       · show((r/10^64:Nat):Int).natAbs<((r:Nat):Int).natAbs
         have:r/10^64<r:=Nat.div_lt_self bC ay;omega
     · have hr:r<10^64:=by have:=(mt cf) hc;omega
       have lg:=_N.Qt (p8 hr (by decide+kernel:10^64<10^540));have lr:(numS (r:Int)).length<=64:=by show(numS (r:Int)).cps.size<=64;rw[<-kJ,_T.oT,bM];exact(Nat.length_toDigits_le_iff ay ay).mpr hr
       refine⟨_,Z,.inl ⟨Z,_,aI.of dl⟩,_,Z,.inl ⟨_,Z,lg,⟨l,_,_,Z,Z,dl,ll,?_⟩⟩⟩;refine⟨Z,_,Z,⟨"",l,zs++[numS (r:Int)],Z,Z,aI.of (by rw[bW,jG];rfl),λz hz=>?_,aF,by rw[fe,Cp];omega,?_⟩⟩
       · rcases ki.mp hz with hz|hz
         ·have:=wr.l z hz;omega
         ·rw[cW.mp hz];omega
       have ew:Txt.join "" (zs++[numS (r:Int)]).reverse=numS (i.natAbs:Int):=by rw[List.reverse_append,List.reverse_cons,List.reverse_nil,List.nil_append,List.singleton_append];exact(_N.TH _ _).trans wr.e.symm
       rw[ew];have iJ:sizeLine=16777216:=by decide
       have l0:(numS (i.natAbs:Int)).length<=541:=_N.a3q (by rw[Vj];exact hn);have e0:Str.empty.length=0:=by decide+kernel
       have e1:Str.length "-"=1:=by decide+kernel
       refine⟨_,Z,_,_,Z,Z,_,Z,?_⟩;have fin:=k _ (put H2 (numS (r:Int)) (aD.refl _));refine eP (λhi=>?_) (λhi=>?_)
       · have hi:=kg hi
         refine⟨_,Z,by simp only[cK];omega,_,Z,.inr ⟨_,Z,bC,_,Z,by simp only[cK];omega,by simp only[cK];omega,?_⟩⟩;rw[Ce,_N.abs_neg hi,<-_N.a1R hi];exact fin
       · have hi:=(mt cf) hi
         rw[_N.aab hi];exact⟨_,Z,fin⟩
   · rintro O H2 Q1 Q2 hq h
     obtain⟨v1,e1,i1,j1,e2,e3,kk,e4,q⟩:=h;exact⟨v1,e1,i1,j1,e2,e3,kk,e4,hq _ _ q⟩
end
end _b
namespace _b
open PySem PySem.Spec PyProof.Rows _L _l _W
open _T (numS numIn? figs isFig Free)
section
variable {P:af}{w:World}{K:aa}{mg:bD}{ao:Heap}
def oV:Option Int->V |some i=>.int i |none=>.bw
def oD:Option Int->ah |some i=>.int i |none=>.none
def vd:Str:="0123456789"
theorem a7j:∀c<128,decide (c∈vd.cps.toList)=isFig c:=by decide+kernel
theorem a7l:∀c∈vd.cps.toList,c<128:=by decide+kernel
theorem a7k(c:Nat):decide (c∈vd.cps.toList)=isFig c:=by
 by_cases h:c<128
 ·exact a7j c h
 ·rw[dE (λhc=>h (a7l c hc)),isFig,dE (show¬c<=57 by omega),Cy]
inductive aaQ(vs:List V)(H:Hp)(Q:VK):Prop |mk (y:Str)(h0:vs=[.str y])(h1:PySem.NumText.AllDigits y.cps.toList)(h2:y.length<=640)(h3:Q (.int ((PySem.NumText.digitsVal y.cps.toList:Nat):Int)) H)
def LJ:Sp:=λvs H Q _=>aaQ vs H Q
abbrev DP:Stmt:=top 89
theorem Mx:aW ["figures","size","figure"] ["figures"] (aM DP):=bh aF
theorem ZW(F:FA K mg "size_of" DP)(B:bB mg):aA P w K mg ao "size_of" 1 LJ:=by
 refine F.has Mx (λvs H Q E h=>?_) (λ_ _ _ _ _ _=>cu λ_=>rfl) (λf aH A outer s H vs Q E hr h=>?_)
 ·obtain⟨y,rfl,_⟩:=h
  rfl
 ·obtain⟨y,rfl,hd,hl,k⟩:=h
  have nd:=Mx.nd;refine⟨_,(aB (pS 1 nd aE) (aB (jN gT Z (Gb (pv 0)) (bj 2 nd) (aJ (pS 1 nd (aQ dI (aQ cD aE (pv 1)) (cS (x:="int") Jz Z (B.at "int") vM (ak (pv 2) aw)))))) (aJ (aP (pv 1))))),?_⟩;have hsz:y.cps.size=y.cps.toList.length:=kJ.symm;have pk:Wd (10:Int):=by show(10:Nat)<2^5000;decide+kernel
  refine⟨_,Z,y,Z,?_⟩;refine a76 (Pv:=λi O H'=>H'=H/\∃v2,O=[some (.str y),some (.int ((PySem.NumText.digitsVal (y.cps.toList.take i):Nat):Int)),v2]) ?_ ?_ ?_
  ·exact⟨Z,_,Z⟩
  ·rintro i c O H2 hc ⟨rfl,v2,rfl⟩
   obtain⟨c1,c2⟩:=hd c (fc hc);have hi:i<640:=by have:=(dw.mp hc).1;have e:y.length=y.cps.size:=rfl;omega
   have wv:Wd ((PySem.NumText.digitsVal (y.cps.toList.take i):Nat):Int):=by show Int.natAbs _<2^5000;rw[Vj];exact p8 (fD (_N.SQ hd i) (qJ ay (Cm hi))) aF
   have ei:=_N.W2 c1 c2;refine⟨_,Z,_,_,Z,Z,nK pk.bits wv.bits,_,Z,⟨_,_,Z,ei,by show 1<=640;decide,_,_,Z,Z,?_⟩⟩;refine⟨Z,some (.str ⟨#[c]⟩),?_⟩;rw[_N.SO hc];show[some (.str y),some (V.int (10*_+_)),_]=_;rw[Int.natCast_add,Int.natCast_mul,Cu];rfl
  ·rintro O H2 ⟨rfl,v2,rfl⟩
   refine⟨_,Z,?_⟩;rw[hsz,vQ];exact k
inductive abl(vs:List V)(H:Hp)(Q:VK):Prop |mk (z:Str)(h0:vs=[.str z])(h1:z.length<=640)(h2:∀H',aD H H'->Q (oV (numIn? z)) H')
def wz:Sp:=λvs H Q _=>abl vs H Q
abbrev EA:Stmt:=top 88
theorem N3:aW ["word","figures","size"] ["word"] (aM EA):=bh aF
theorem a0C(F:FA K mg "number_in" EA)(B:bB mg)(a6c:GV mg "FIGURES" (.str vd))(a4r:aA P w K mg ao "size_of" 1 LJ):aA P w K mg ao "number_in" 2 wz:=by
 refine F.has N3 (λvs H Q E h=>?_) (λ_ _ _ _ _ _=>cu λ_=>rfl) (λf aH A outer s H vs Q E hr h=>?_)
 ·obtain⟨z,rfl,_⟩:=h
  rfl
 ·obtain⟨z,rfl,hl,k⟩:=h
  have nd:=N3.nd;have iJ:sizeLine=16777216:=by decide
  refine⟨_,(aB (pS 1 nd (Zh K Z (pv 0) (ak bo aw))) (aB (bJ (PW.pt (kR (bX x6 (pv 1) bo (bL _)) (kQ (dB (cH (dg (x:="all") (vt K Z Z) Z (B.at "all") yV (ak (eY (N:=["sign"]) (js:=[none]) rfl rfl rfl (Gb (pv 1)) (λ_ _ _ _ _=>(bj 0 (hJ _))) (λ_ _ _ _ _=>dS) (λ_ _ _ _ _=>(jq Pj (pv 0) (cQ (x:="FIGURES") rfl a6c) (by with_unfolding_all rfl)))) aw))))))) (aJ (aP jo)) bK) (aB (bJ (PW.pt (rJ (bX x6 (Gf QG (pv 1) aE (λ_ _=>rfl)) bo (bL _)) (wW (bX uy (pv 0) bo (bL _))))) (aJ (aP jo)) bK) (aB (pS 2 nd (pf a4r hr (ak (pv 1) aw))) (aJ (aP (gZ (cH (Zg K Z (pv 0) (ak bo aw))) (ml lZ (pv 2)) (pv 2)))))))),?_⟩;refine⟨_,Z,Z,z,"-",Z,Z,bC,?_⟩;have ef:=_T.Yi z;generalize hz:Txt.removeprefix z "-"=y at ef;unfold numIn? at k;rw[<-ef]at k;have hly:y.length<=z.length:=by
   have e1:y.cps.toList.length=(figs z).length:=by rw[ef]
   have e2:(figs z).length<=z.cps.toList.length:=by
    unfold figs;split
    ·rename_i h;rw[h];simp
    ·rename_i h _;exact bI _
   simpa[Str.length]using gH (Nat.le_of_eq e1) e2
  refine⟨_,Z,Z,_,Z,?_⟩;refine eP (λh0=>?_) (λh0=>?_)
  ·have hy:y="":=by simpa using h0
   rw[hy]at k;exact bG (k H (aD.refl _))
  ·have hy:y≠"":=by simpa using h0
   have cI:y.cps.toList≠[]:=λe=>hy (_T.yx (by rw[e];rfl));have he:y.cps.toList.isEmpty=false:=by cases h:y.cps.toList with|nil=>exact(cI h).elim|cons=>rfl
   rw[he,Bool.false_or]at k;refine⟨_,Z,y,Z,λD H0 nw=>?_⟩;refine Tr (f:=isFig) [] nw bC (λc H2 Q' hc s2 hq=>?_) (λH2 s2 d2=>?_)
   ·refine⟨_,Z,c,vd,Z,Z,?_⟩
    rw[a7k];exact hq _ (aD.refl _)
   ·refine⟨D,_,Z,aI.of d2,?_⟩
    rw[Ug];refine⟨_,Z,?_⟩;cases hf:y.cps.toList.all isFig with |false=>rw[hf]at k;exact bG (k H2 s2) |true=>rw[hf]at k;refine aV ?_;obtain⟨n,hn⟩:=_T.a3X (z:=z) (by rw[<-ef];exact cI) (by rw[<-ef];exact hf) bC;rw[hn]at k;have nv:=_N.a1Q ef (by rw[<-ef];exact cI) (by rw[<-ef];exact hf) bC hn;cases hc:y.cps.toList with |nil=>exact(cI hc).elim |cons c r=>
     refine⟨_,Z,y,0,c,Z,Z,bC,cE (dY 0) (by rw[hc];rfl),Z,_,Z,?_⟩;have e0:decide (y.cps.toList[0]? =some 48)=decide (V.str ⟨#[c]⟩=V.str "0"):=by
      rw[hc,jg];simp only[Cc];refine⟨λh=>?_,λh=>?_⟩
      ·have h:c=48:=by simpa using h
       rw[h];decide+kernel
      ·have h:(⟨#[c]⟩:Str)="0":=by simpa using h
       have h2:[c]=[48]:=(lW (λz:Str=>z.cps.toList) h).trans aF;simpa using h2
     rw[e0]at k;have e1:(!decide (z="0"))= !decide (V.str z=V.str "0"):=by simp
     rw[e1]at k;cases h1:decide (V.str ⟨#[c]⟩=V.str "0")with
     |true=>rw[h1,iA]at k;refine bG ⟨_,Z,Z,_,Z,?_⟩;cases h2: !decide (V.str z=V.str "0")with |true=>rw[h2]at k;exact bG (k H2 s2) |false=>rw[h2]at k;refine aV ⟨_,Z,y,Z,_T.vc hf,bC,?_⟩;have fin:=k H2 s2;refine⟨_,Z,Z,z,"-",Z,Z,?_⟩;refine⟨_,Z,?_⟩;cases hs:Txt.startswith z "-" with |true=>rw[nv,bc hs]at fin;exact bG ⟨_,Z,_,Z,fin⟩ |false=>rw[nv,bf (by rw[hs];decide)]at fin;exact aV ⟨_,Z,fin⟩
     |false=>rw[h1,iB]at k;refine aV ⟨_,Z,y,Z,_T.vc hf,bC,?_⟩;have fin:=k H2 s2;refine⟨_,Z,Z,z,"-",Z,Z,?_⟩;refine⟨_,Z,?_⟩;cases hs:Txt.startswith z "-" with |true=>rw[nv,bc hs]at fin;exact bG ⟨_,Z,_,Z,fin⟩ |false=>rw[nv,bf (by rw[hs];decide)]at fin;exact aV ⟨_,Z,fin⟩
inductive abi(K:aa)(vs:List V)(H:Hp)(Q:VK):Prop |mk (l:Addr)(zs:List Str)(h0:vs=[.ref l])(h1:aI K H l (zs.map V.str))(h2:zs.length<=1000)(h3:(∀z∈zs,z.length<=640))(h4:∀p H',aD H H'->H p=none->H' p=some (.lst (zs.map λz=>oV (numIn? z)))->Q (.ref p) H')
def Dl(K:aa):Sp:=λvs H Q _=>abi K vs H Q
theorem AD{H:Hp}(o:Option Int):RD K H (oV o) (oD o):=by cases o with |none=>exact uh |some i=>exact fE _
theorem a1L{H:Hp}{v:V}{o:Option Int}(h:RD K H v (oD o)):v=oV o:=by cases o with |none=>exact h.Gz |some i=>exact h.int_inv
theorem Pu{H:Hp}:∀{xs:List V}{zs:List Str},aL K H xs (zs.map λz=>oD (numIn? z))->xs=zs.map λz=>oV (numIn? z) |xs,[],h=>h.nil_inv |xs,n::ns,h=>by obtain⟨y,ys,rfl,h1,h2⟩:=h.cons_inv;rw[a1L h1,Pu h2];rfl
theorem a1M(zs:List Str):cx (zs.map λz=>oD (numIn? z))=true:=fN.mpr λd hd=>by obtain⟨z,_,rfl⟩:=cY.mp hd;cases numIn? z<;>rfl
abbrev Ew:Stmt:=top 87
theorem N0:aW ["words"] ["words"] (aM Ew):=bh aF
theorem a0B(F:FA K mg "numbers_in" Ew)(B:bB mg)(xI:aA P w K mg ao "number_in" 2 wz):aA P w K mg ao "numbers_in" 3 (Dl K):=by
 refine F.has N0 (λvs H Q E h=>?_) (λ_ _ _ _ _ _=>cu λ_=>rfl) (λf aH A outer s H vs Q E hr h=>?_)
 ·obtain⟨l,zs,rfl,_⟩:=h
  rfl
 ·obtain⟨l,zs,rfl,hl,hn,hz,k⟩:=h
  have nd:=N0.nd;refine⟨_,(aJ (aP (eY (N:=["word"]) (js:=[none]) Z Z Z (kT K Z (pv 0)) (λ_ _ _ _ _=>(bj 0 (hJ _))) (λ_ _ _ _ _=>dS) (λ_ _ _ _ _=>(pf xI hr (ak (pv 0) aw)))))),?_⟩;refine⟨_,Z,l,Z,⟨_,hl⟩,λD H1 n1=>?_⟩;refine qx (K:=K) (ds:=zs.map λz=>oD (numIn? z)) _ hl n1 (by simp) (by simp;omega) (a1M _) ?_ ?_
  ·intro i x d H2 Q' ex ed s2 hq
   rw[bR]at ex ed;obtain⟨z,ez,rfl⟩:=yW.mp ex;rw[ez]at ed;cases ed;exact⟨_,Z,z,Z,hz z (fc ez),λH3 s3=>hq _ _ s3 (AD _)⟩
  ·intro H2 ys s2 d2 r2
   rw[Pu r2]at d2;exact k D H2 s2 n1.no d2
def tF(z:Str):Prop:=∀c∈z.cps.toList,c<0x110000
theorem Gp{n:Nat}{z:Str}(h:tF z):dh n (.str z):=⟨by show PyData.strOk z=true;unfold PyData.strOk;rw[KI];exact λc hc=>cf (h c (by simpa using hc)),fC _⟩
theorem S4{c x:Nat}:∀{as:List (List Nat)}{a:List Nat},a∈as->x∈a->x∈_T.gl c as
 |[],a,h,_=>nomatch h |[b],a,h,hx=>by rw[cW.mp h]at hx;exact hx |b::d::r,a,h,hx=>by
  show x∈b++c::_T.gl c (d::r);rcases cg.mp h with rfl|h
  ·exact Kq _ hx
  ·exact jF _ (.tail _ (S4 h hx))
theorem S5{c:Nat}:∀{as:List (List Nat)}{a:List Nat},a∈as->a.length<=(_T.gl c as).length
 |[],a,h=>nomatch h |[b],a,h=>by rw[cW.mp h];exact bI _ |b::d::r,a,h=>by
  show a.length<=(b++c::_T.gl c (d::r)).length;rw[fe,gp];rcases cg.mp h with rfl|h
  ·omega
  ·have:=S5 (c:=c) h;omega
theorem LB(z:Str)(c:Nat):_T.gl c ((Txt.split z ⟨#[c]⟩).map λy=>y.cps.toList)=z.cps.toList:=by rw[<-_T.IK,StrLaws.join_split]
theorem Xd{z y:Str}{c:Nat}(h:tF z)(hy:y∈Txt.split z ⟨#[c]⟩):tF y:=λx hx=>h x (by rw[<-LB z c];exact S4 (cY.mpr ⟨y,hy,Z⟩) hx)
theorem split_le{z y:Str}{c:Nat}(hy:y∈Txt.split z ⟨#[c]⟩):y.length<=z.length:=by have:=S5 (c:=c) (cY.mpr ⟨y,hy,Z⟩:y.cps.toList∈(Txt.split z ⟨#[c]⟩).map λy=>y.cps.toList);rw[LB]at this;simpa[Str.length]using this
theorem pE:(" ":Str)=⟨#[32]⟩:=by decide+kernel
def nI (z:Str):ah:=oD (numIn? z)
def fV:List Str->ah |[]=>.none |w::rest=>if w="line" then(match rest with |[]=>.none |r::rs=>.tuple [.str w,.tuple (((r::rs).map nI).take rs.length),((r::rs).map nI).getLastD .none]) else match rest with |[r]=>.tuple [.str w,if w="wait" then nI r else .str r] |_=>.none
def sA(n:Nat)(z:Str):ah:=bif lA n (fV (Txt.split z " "))then fV (Txt.split z " ")else .none
theorem Pt{H:Hp}:∀(zs:List Str),aL K H (zs.map λz=>oV (numIn? z)) (zs.map nI) |[]=>by simp[aL] |z::zs=>by rw[qM,qM,aL];exact⟨_,_,Z,AD _,Pt zs⟩
theorem rB{H:Hp}{x:V}{xs:List V}{d:ah}{ds:List ah}(h:RD K H x d)(r:aL K H xs ds):aL K H (x::xs) (d::ds):=by rw[aL];exact⟨_,_,Z,h,r⟩
theorem FU{H:Hp}:aL K H [] []:=by simp[aL]
theorem GK{n:Nat}(z:Str):dh n (nI z):=by unfold nI;cases numIn? z with |none=>exact .bw |some i=>exact .int i
theorem PZ(z:Str):jl (nI z)=true:=by unfold nI;cases numIn? z<;>rfl
theorem L5:fV ["line"]= .none:=by unfold fV;dsimp only;rw[bc rfl]
theorem CM{r:Str}{rs:List Str}:fV ("line"::r::rs)= .tuple [.str "line",.tuple (((r::rs).map nI).take rs.length),((r::rs).map nI).getLastD .none]:=by unfold fV;dsimp only;rw[bc rfl]
theorem zC{w r:Str}(h:w≠"line"):fV [w,r]= .tuple [.str w,if w="wait" then nI r else .str r]:=by unfold fV;dsimp only;rw[bf h]
theorem CL{w:Str}{ws:List Str}(h:w≠"line")(hl:ws.length≠1):fV (w::ws)= .none:=by
 unfold fV;dsimp only;rw[bf h];split
 ·exact(hl Z).elim
 ·rfl
theorem Wj{ws:List Str}(h:∀w∈ws,tF w/\w.length<=640):dh 8 (fV ws)/\A2 (fV ws)=true:=by cases ws with |nil=>exact⟨.bw,Z⟩ |cons w rest=>
 obtain⟨hw,hl⟩:=h w (.head _);have sw:jl (.str w)=true:=cf bC;by_cases hx:w="line"
 ·subst hx
  cases rest with |nil=>rw[L5];exact⟨.bw,Z⟩ |cons r rs=>
   rw[CM];have hm:∀d∈(r::rs).map nI,dh 0 d:=λd hd=>by obtain⟨z,_,rfl⟩:=cY.mp hd;exact GK z
   have Ro:dh 0 (((r::rs).map nI).getLastD .none)/\jl (((r::rs).map nI).getLastD .none)=true:=by rw[Va];cases e:((r::rs).map nI).getLast? with |none=>exact⟨.bw,Z⟩ |some d=>obtain⟨z,_,rfl⟩:=cY.mp (List.mem_of_getLast? e);exact⟨GK z,PZ z⟩
   have hs:gF 2 [.str "line",.tuple (((r::rs).map nI).take rs.length),((r::rs).map nI).getLastD .none]:=λd hd=>by
    simp only[cg,eT,iT]at hd;rcases hd with rfl|rfl|rfl
    ·exact Gp hw
    ·exact(gF.tup (n:=0) λd hd=>hm d (yY hd)).le ay
    ·exact Ro.1.le ay
   refine⟨hs.tup.le ay,?_⟩;show[_,_,_].all jl=true;simp only[vX,Kx,zf,sw,Ro.2];rfl
 ·match rest,h with
  |[],_=>rw[CL hx (by simp)];exact⟨.bw,Z⟩ |[r],h=>
   rw[zC hx];obtain⟨hr,hlr⟩:=h r (.tail _ (.head _));have hv:dh 0 (if w="wait" then nI r else .str r)/\jl (if w="wait" then nI r else .str r)=true:=by
    split
    ·exact⟨GK r,PZ r⟩
    ·exact⟨Gp hr,cf bC⟩
   have hs:gF 1 [.str w,if w="wait" then nI r else .str r]:=λd hd=>by
    simp only[cg,eT,iT]at hd;rcases hd with rfl|rfl
    ·exact Gp hw
    ·exact hv.1.le ay
   refine⟨hs.tup.le ay,?_⟩;show[_,_].all jl=true;simp only[vX,Kx,zf,sw,hv.2] |_::_::_,_=>rw[CL hx (by simp)];exact⟨.bw,Z⟩
inductive aby(K:aa)(vs:List V)(H:Hp)(Q:VK):Prop |mk (m:V)(rs:List Int)(es:List ah)(z:Str)(h0:vs=[m,.str z])(h1:RD K H m (.tuple (.tuple (rs.map PyData.int)::es)))(h2:cx es=true)(h3:rs.length<=3)(h4:z.length<=600)(h5:tF z)(h6:∀v H',aD H H'->RD K H' v (sA rs.length z)->Q v H')
def Dn(K:aa):Sp:=λvs H Q _=>aby K vs H Q
abbrev EN:Stmt:=top 86
theorem Nh:aW ["machine","row","word","rest","thing","numbers"] ["machine","row"] (aM EN):=bh aF
theorem a0R(F:FA K mg "item_in" EN)(B:bB mg)(xI:aA P w K mg ao "number_in" 2 wz)(a4K:aA P w K mg ao "numbers_in" 3 (Dl K))(Ie:aA P w K mg ao "is_item" 4 (zV K)):aA P w K mg ao "item_in" 5 (Dn K):=by
 refine F.has Nh (λvs H Q E h=>?_) (λ_ _ _ _ _ _=>dN λ_ _=>rfl) (λf aH A outer s H vs Q E hr h=>?_)
 ·obtain⟨m,rs,es,z,rfl,_⟩:=h
  rfl
 ·obtain⟨m,rs,es,z,rfl,rm,ne,l3,hz,tz,k⟩:=h
  have nd:=Nh.nd;have iJ:sizeLine=16777216:=by decide
  have sH:∀y∈Txt.split z " ",tF y/\y.length<=640:=λy hy=>by rw[pE]at hy;have:=split_le hy;exact⟨Xd tz hy,bC⟩
  have Be:=split_len z " ";refine⟨_,(aB (eM (Gg K Z (pv 1) (ak bo aw)) (OY K Z Z (bj 2 nd) (bj 3 nd))) (aB (pS 4 nd jo) (aB (iX (bJ (bX x6 (pv 2) bo (bL _)) (aB (pS 5 nd (pf a4K hr (ak (pv 3) aw))) (aJ (pS 4 nd (gZ (wX K Z (pv 5)) (gJ (ak (pv 2) (ak (cS (x:="tuple") (kl K Z) Z (B.at "tuple") iU (ak (Ao (A1 K rfl) (pv 5) Ak (Aj (ml lZ aE))) aw)) (ak (px K (pv 5) (ml lZ aE)) aw)))) jo)))) (aJ (bJ (bX x6 (fH K B (ak (pv 3) aw)) aE (bL _)) (aJ (pS 4 nd (gJ (ak (pv 2) (ak (gZ (bX x6 (pv 2) bo (bL _)) (pf xI hr (ak (px K (pv 3) aE) aw)) (px K (pv 3) aE)) aw))))) bK)))) (aJ (aP (gZ (cH (pf Ie hr (ak (pv 0) (ak (pv 4) aw)))) (pv 4) jo)))))),?_⟩;refine⟨_,Z,Z,z," ",Z,Z,aF,bC,λl H1 n1=>?_⟩;obtain⟨x,ws,ew⟩:∃x ws,Txt.split z " "=x::ws:=by cases e:Txt.split z " " with |nil=>exact(_T.Lz _ _ e).elim |cons x ws=>exact⟨x,ws,Z⟩
  unfold sA at k;rw[ew]at n1 sH Be k;rw[gp]at Be;refine⟨l,.str x,ws.map V.str,Z,aI.of n1.at',by rw[bM];omega,λp H2 n2=>?_⟩;have s2:=n1.same.trans n2.same;have B9:∀y∈ws,y.length<=640:=λy hy=>(sH y (.tail _ hy)).2;refine⟨λO H3=>∃t w5,O=[some m,some (.str z),some (.str x),some (.ref p),some t,w5]/\aD H H3/\RD K H3 t (fV (x::ws)),?_,?_⟩
  ·refine⟨_,Z,Z,_,Z,?_⟩
   refine eP (λh0=>?_) (λh0=>?_)
   ·have hx:x="line":=by simpa using h0
    subst hx;refine⟨_,Z,p,ws,Z,aI.of n2.at',bC,B9,λq H3 s3 nq e3=>?_⟩;refine⟨_,Z,!(ws.map λz=>oV (numIn? z)).isEmpty,.inl ⟨_,aI.of e3,Z⟩,?_⟩;cases ws with |nil=>refine aV ⟨.bw,_,Z,s2.trans s3,?_⟩;rw[L5];exact uh |cons r rk=>
     refine bG ⟨_,Z,?_⟩;refine⟨_,Z,1,Z,_,Z,q,_,Z,.inl ⟨aI.of e3,λq2 H4 n4=>?_⟩⟩;rw[a9e]at n4;have n4':=n4.at';refine⟨q2,_,Z,.inl ⟨aI.of n4',λq3 H5 n5=>?_⟩⟩;obtain⟨v,ev⟩:∃v,((r::rk).map λz=>oV (numIn? z)).getLast? =some v:=⟨_,Vb (by simp)⟩;have e5:=n5.same _ _ (n4.same _ _ e3);refine⟨_,Z,1,Z,.inl ⟨q,_,-1,v,Z,Z,aI.of e5,a9Z ev,?_⟩⟩;refine⟨by show 3<=sizeLine;omega,λq6 H6 n6=>?_⟩;have s6:=(((s2.trans s3).trans n4.same).trans n5.same).trans n6.same;refine⟨_,_,Z,s6,?_⟩;rw[CM];have el:((r::rk).map nI).getLastD .none=oD (numIn? ((r::rk).getLast (by simp))):=by rw[Va,List.getLast?_map,Vb (by simp)];rfl
     have evv:v=oV (numIn? ((r::rk).getLast (by simp))):=by rw[List.getLast?_map,Vb (by simp)]at ev;exact(dG ev).symm
     refine fR (aY.of n6.at') (rB (bu _) (rB ?_ (rB ?_ FU)))
     ·refine fR (aY.of (n6.same _ _ n5.at')) ?_
      rw[bM,gp,Nat.add_sub_cancel];exact(Pt (r::rk)).take _
     ·rw[el,evv];exact AD _
   ·have hx:x≠"line":=by simpa using h0
    refine⟨_,Z,p,_,Z,.inl (aI.of n2.at'),Z,_,Z,?_⟩;refine eP (λh1=>?_) (λh1=>?_)
    ·have lC:ws.length=1:=by have h1:=kg h1;rw[bM]at h1;injection h1 with h1;omega
     match ws,lC,n2,B9,k with
     |[r],_,n2,B9,k=>
      refine⟨_,Z,_,Z,Z,_,Z,?_⟩;refine eP (λh2=>?_) (λh2=>?_)
      ·have Ht:x="wait":=by simpa using h2
       refine⟨_,Z,.inl ⟨p,_,0,.str r,Z,Z,aI.of n2.at',Z,?_⟩⟩;refine⟨r,Z,B9 r (.head _),λH3 s3=>?_⟩;refine⟨by show 2<=sizeLine;omega,λq6 H6 n6=>?_⟩;refine⟨_,_,Z,(s2.trans s3).trans n6.same,?_⟩;rw[zC hx,bc Ht];exact fR (aY.of n6.at') (rB (bu _) (rB (AD _) FU))
      ·have Ht:x≠"wait":=by simpa using h2
       refine⟨_,Z,.inl ⟨p,_,0,.str r,Z,Z,aI.of n2.at',Z,?_⟩⟩;refine⟨by show 2<=sizeLine;omega,λq6 H6 n6=>?_⟩;refine⟨_,_,Z,s2.trans n6.same,?_⟩;rw[zC hx,bf Ht];exact fR (aY.of n6.at') (rB (bu _) (rB (bu _) FU))
    ·have lC:ws.length≠1:=λe=>h1 (cf (by rw[bM,e];rfl))
     refine⟨.bw,_,Z,s2,?_⟩;rw[CL hx lC];exact uh
  ·rintro O H3 ⟨t,w5,rfl,s3,rt⟩
   have ok:=Wj (ws:=x::ws) sH;refine⟨_,Z,_,Z,m,t,rs,es,fV (x::ws),Z,RD.mono s3 _ rm,rt,l3,ok.1,ok.2,λH4 s4=>⟨_,Z,?_⟩⟩;cases hi:lA rs.length (fV (x::ws))with |true=>rw[hi]at k;exact bG ⟨_,Z,k _ _ (s3.trans s4) (RD.mono s4 _ rt)⟩ |false=>rw[hi]at k;exact aV (k _ _ (s3.trans s4) uh)
end
end _b
set_option maxHeartbeats 2000000
namespace _b
open PySem PySem.Spec PyProof.Rows _L _l _W
open _T (numS numIn? figs isFig Free)
section
variable {P:af}{w:World}{K:aa}{mg:bD}{ao:Heap}
def qR:ah->Str | .int i=>numS i | .str z=>z |_=>Str.empty
def gO(ns:List Int):Str:=Txt.join " " (ns.map numS)
def hU(a b:Int):Str:=if b=1 then numS a else numS a++"/"++numS b
def dU:ah->Str | .tuple [.str _,.tuple xs,.int sp]=>"line "++Txt.join " " (xs.map qR)++" "++numS sp | .tuple [.str w,u]=>w++" "++qR u |_=>Str.empty
def lN:ah->Str | .tuple [.str _,.tuple xs,.int t,.tuple [.int a,.int b]]=>"step "++Txt.join " " (xs.map qR)++" "++numS t++" "++hU a b |d=>dU d
def Nm (i:Int):Prop:=i.natAbs<10^40
def oZ(w:Str):Prop:=w="wait"\/w="tool"\/w="mark"
def yE(w:Str):Prop:=w="tool"\/w="mark"
theorem yE.ok{w:Str}(h:yE w):oZ w:=.inr h
theorem yE.ne{w:Str}(h:yE w):decide (w="wait")=false:=by rcases h with rfl|rfl<;>decide+kernel
def TI(d:ah):Prop:=(∃ns sp,d=eO ns sp/\ns.length<=3/\(∀n∈ns,Nm n)/\Nm sp)\/(∃w i,d= .tuple [.str w,.int i]/\oZ w/\Nm i)\/∃w z,d= .tuple [.str w,.str z]/\yE w/\z.length<=100
theorem Qd(ns:List Int):(ns.map PyData.int).map qR=ns.map numS:=by rw[Kr];rfl
theorem AY(ns:List Int)(sp:Int):dU (eO ns sp)="line "++gO ns++" "++numS sp:=by show Str.ofString "line "++Txt.join " " ((ns.map PyData.int).map qR)++" "++numS sp=_;rw[Qd];rfl
theorem fM{i:Int}(h:Nm i):(numS i).length<=41:=KW h
theorem uG{ns:List Int}(h:∀n∈ns,Nm n)(hl:ns.length<=3):(gO ns).length<=126:=by
 have:=Hj " " (B:=41) (ns.map numS) (λz hz=>by obtain⟨n,hn,rfl⟩:=cY.mp hz;exact fM (h n hn));rw[bM]at this;have e:Str.length " "=1:=by decide+kernel
 rw[e]at this;unfold gO
 lia
theorem zp{w:Str}(h:oZ w):w.length=4:=by rcases h with rfl|rfl|rfl<;>decide+kernel
theorem uQ{d:ah}(h:TI d):(dU d).length<=400:=by
 have e1:Str.length " "=1:=by decide+kernel
 have e2:Str.length "line "=5:=by decide+kernel
 rcases h with⟨ns,sp,rfl,hl,hb,hs⟩|⟨w,i,rfl,hw,hi⟩|⟨w,z,rfl,hw,hz⟩
 ·rw[AY]
  have h1:=uG hb hl;have h2:=fM hs;simp only[cK]
  lia
 ·show(w++" "++numS i).length<=400
  have h2:=fM hi;have h3:=zp hw;simp only[cK]
  lia
 ·show(w++" "++z).length<=400
  have h3:=zp hw.ok;simp only[cK]
  lia
theorem TI.nw{w z:Str}(h:TI (.tuple [.str w,.str z])):decide (w="wait")=false:=by
 rcases h with⟨ns,sp,e,_⟩|⟨w',i,e,_⟩|⟨w',z',e,hw,_⟩
 ·unfold eO at e;cases e
 ·cases e
 ·cases e;exact hw.ne
theorem Nm.l{i:Int}(h:Nm i):C2 i:=p8 h aF
theorem VL:SeqAt.shaped (.str "wait")=true:=by decide+kernel
theorem pU:SeqAt.shaped (.str "line")=true:=by decide+kernel
theorem ua:SeqAt.shaped (.str "step")=true:=by decide+kernel
theorem mW(x y:Str):PyData.eqv (.str x) (.str y)=decide (x=y):=by show(x==y)=decide (x=y);rw[jg];simp
theorem wm{H:Hp}{v:V}{d:ah}(h:RD K H v d)(i:TI d):(∃ns sp a b,d=eO ns sp/\v= .ref a/\aY K H a [.str "line",.ref b,.int sp]/\RD K H (.ref b) (.tuple (ns.map PyData.int))/\ns.length<=3/\(∀n∈ns,Nm n)/\Nm sp)\/∃w u a y,d= .tuple [.str w,u]/\oZ w/\v= .ref a/\aY K H a [.str w,y]/\RD K H y u/\((∃i,u= .int i/\y= .int i/\Nm i)\/∃z,u= .str z/\y= .str z/\z.length<=100):=by
 rcases i with⟨ns,sp,rfl,hl,hb,hs⟩|⟨w,i,rfl,hw,hi⟩|⟨w,z,rfl,hw,hz⟩
 ·obtain⟨a,xs,rfl,h1,h2⟩:=h.cJ
  obtain⟨x1,r,rfl,e1,h2⟩:=h2.cons_inv;obtain⟨x2,r,rfl,e2,h2⟩:=h2.cons_inv;obtain⟨x3,r,rfl,e3,h2⟩:=h2.cons_inv;cases h2.nil_inv;cases e1.str_inv;cases e3.int_inv;obtain⟨b,ys,rfl,_,_⟩:=id e2.cJ;exact .inl ⟨ns,sp,a,b,Z,Z,h1,e2,hl,hb,hs⟩
 ·obtain⟨a,xs,rfl,h1,h2⟩:=h.cJ
  obtain⟨x1,r,rfl,e1,h2⟩:=h2.cons_inv;obtain⟨x2,r,rfl,e2,h2⟩:=h2.cons_inv;cases h2.nil_inv;cases e1.str_inv;cases e2.int_inv;exact .inr ⟨w,_,a,_,Z,hw,Z,h1,e2,.inl ⟨i,Z,Z,hi⟩⟩
 ·obtain⟨a,xs,rfl,h1,h2⟩:=h.cJ
  obtain⟨x1,r,rfl,e1,h2⟩:=h2.cons_inv;obtain⟨x2,r,rfl,e2,h2⟩:=h2.cons_inv;cases h2.nil_inv;cases e1.str_inv;cases e2.str_inv;exact .inr ⟨w,_,a,_,Z,hw.ok,Z,h1,e2,.inr ⟨z,Z,Z,hz⟩⟩
theorem tV{w:Str}(h:oZ w):SeqAt.shaped (.str w)=true:=by rcases h with rfl|rfl|rfl<;>decide+kernel
theorem zo{w:Str}(h:oZ w):decide (w="line")=false/\decide (w="step")=false:=by rcases h with rfl|rfl|rfl<;>decide+kernel
inductive abj(K:aa)(vs:List V)(H:Hp)(Q:VK):Prop |mk (v:_)(ns:_)(h0:vs=[v])(h1:RD K H v (.tuple (ns.map PyData.int)))(h2:ns.length<=3)(h3:(∀n∈ns,Nm n))(h4:∀H',aD H H'->Q (.str (gO ns)) H')
def zS(K:aa):Sp:=λvs H Q _=>abj K vs H Q
theorem kZ(zs:List Str):cx (zs.map PyData.str)=true:=fN.mpr λd hd=>by obtain⟨z,_,rfl⟩:=cY.mp hd;rfl
abbrev DU:Stmt:=top 81
theorem MD:aW ["numbers"] ["numbers"] (aM DU):=bh aF
theorem a00(F:FA K mg "show_numbers" DU)(B:bB mg)(fS:aA P w K mg ao "show_number" 1 kn):aA P w K mg ao "show_numbers" 2 (zS K):=by
 refine F.has MD (λvs H Q E h=>?_) (λ_ _ _ _ _ _=>cu λ_=>rfl) (λf aH A outer s H vs Q E hr h=>?_)
 ·obtain⟨v,ns,rfl,_⟩:=h
  rfl
 ·obtain⟨v,ns,rfl,rv,hl,hb,k⟩:=h
  have nd:=MD.nd;refine⟨_,(aJ (aP (kU K Z bo (ak (eY (N:=["number"]) (js:=[none]) Z Z Z (kv K Z (pv 0)) (λ_ _ _ _ _=>(bj 0 (hJ _))) (λ_ _ _ _ _=>dS) (λ_ _ _ _ _=>(pf fS hr (ak (pv 0) aw)))) aw)))),?_⟩;obtain⟨a,xs,rfl,h1,h2⟩:=rv.cJ;rw[h2.gP]at h1;refine⟨Z,?_⟩;refine⟨_,Z,a,Z,⟨_,h1⟩,λD H1 n1=>?_⟩;refine t9 (K:=K) (ds:=(ns.map numS).map PyData.str) _ h1 n1 (by simp) (by simp;lia) (kZ _) ?_ ?_
  ·intro i x d H2 Q' ex ed s2 hq
   rw[bR]at ex;obtain⟨n,en,rfl⟩:=yW.mp ex;rw[bR,bR,en]at ed;cases ed;have hn:=hb n (fc en);exact⟨_,Z,n,Z,hn.l,λH3 s3=>hq _ _ s3 (bu _)⟩
  ·intro H2 zs s2 d2 r2
   rw[jK r2]at d2;refine⟨" ",D,ns.map numS,Z,Z,aI.of d2,λz hz=>?_,aF,by rw[bM];lia,k _ s2⟩;obtain⟨n,hn,rfl⟩:=cY.mp hz;have:=fM (hb n hn)
   lia
inductive abB(K:aa)(vs:List V)(H:Hp)(Q:VK):Prop |mk (v:_)(d:_)(h0:vs=[v])(h1:RD K H v d)(h2:TI d)(h3:(∀b:Bool,(b=true↔∃ns sp,d=eO ns sp)->Q (.bl b) H))
def LZ(K:aa):Sp:=λvs H Q _=>abB K vs H Q
theorem CK{w:Str}{u:ah}(h:oZ w):¬∃ns sp,PyData.tuple [.str w,u]=eO ns sp:=by rintro⟨ns,sp,e⟩;unfold eO at e;injection e with e;injection e with e1 e2;injection e2 with e2 e3;cases e3
abbrev O4:Stmt:=top 32
theorem Nk:aW ["item"] ["item"] (aM O4):=bh aF
theorem a0V(F:FA K mg "is_line" O4)(B:bB mg):aA P w K mg ao "is_line" 1 (LZ K):=by
 refine F.has Nk (λvs H Q E h=>?_) (λ_ _ _ _ _ _=>cu λ_=>rfl) (λf aH A outer s H vs Q E hr h=>?_)
 ·obtain⟨v,d,rfl,_⟩:=h
  rfl
 ·obtain⟨v,d,rfl,rv,ti,k⟩:=h
  have nd:=Nk.nd;refine⟨_,(aJ (aP (jq (dF K Z hr.units) (px K (pv 0) aE) bo (bL _)))),?_⟩;rcases wm rv ti with⟨ns,sp,a,b,rfl,rfl,h1,_⟩|⟨w,u,a,y,rfl,hw,rfl,h1,_⟩
  ·refine⟨_,Z,.inr ⟨a,_,0,.str "line",Z,Z,h1,cE (dY 0) Z,.inr ⟨_,_,bu _,bu _,pU,pU,?_⟩⟩⟩
   rw[mW,cf rfl];exact k true ⟨λ_=>⟨_,_,Z⟩,λ_=>rfl⟩
  ·refine⟨_,Z,.inr ⟨a,_,0,.str w,Z,Z,h1,cE (dY 0) Z,.inr ⟨_,_,bu _,bu _,tV hw,pU,?_⟩⟩⟩
   rw[mW,(zo hw).1];exact k false ⟨λz=>(by cases z),λz=>(CK hw z).elim⟩
inductive abx(K:aa)(vs:List V)(H:Hp)(Q:VK):Prop |mk (v:_)(d:_)(h0:vs=[v])(h1:RD K H v d)(h2:TI d)(h3:∀H',aD H H'->Q (.str (dU d)) H')
def qY(K:aa):Sp:=λvs H Q _=>abx K vs H Q
abbrev DW:Stmt:=top 83
theorem MF:aW ["item","word","steps","speed","value"] ["item"] (aM DW):=bh aF
theorem a02(F:FA K mg "show_item" DW)(B:bB mg)(jv:aA P w K mg ao "is_line" 1 (LZ K))(xC:aA P w K mg ao "show_numbers" 2 (zS K))(fS:aA P w K mg ao "show_number" 1 kn):aA P w K mg ao "show_item" 3 (qY K):=by
 refine F.has MF (λvs H Q E h=>?_) (λ_ _ _ _ _ _=>cu λ_=>rfl) (λf aH A outer s H vs Q E hr h=>?_)
 ·obtain⟨v,d,rfl,_⟩:=h
  rfl
 ·obtain⟨v,d,rfl,rv,ti,k⟩:=h
  have nd:=MF.nd;have iJ:sizeLine=16777216:=by decide
  have e1:Str.length " "=1:=by decide+kernel
  have e2:Str.length "line"=4:=by decide+kernel
  have e0:Str.empty.length=0:=by decide+kernel
  refine⟨_,(aB (bJ (cH (pf jv hr (ak (pv 0) aw))) (aB (eM (pv 0) (eX K Z (n:=3) Z (bZ (bj 1 nd) (bZ (bj 2 nd) (bZ (bj 3 nd) eW))))) (aJ (aP (pL (fg (iD (pv 1)) (fg bo (fg (iD (pf xC hr (ak (pv 2) aw))) (fg bo (fg (iD (pf fS hr (ak (pv 3) aw))) pI))))))))) bK) (aB (eM (pv 0) (eX K Z (n:=2) Z (bZ (bj 1 nd) (bZ (bj 4 nd) eW)))) (aJ (aP (gZ (bX (dF K Z hr.units) (pv 1) bo (bL _)) (pL (fg (iD (pv 1)) (fg bo (fg (iD (pf fS hr (ak (pv 4) aw))) pI)))) (pL (fg (iD (pv 1)) (fg bo (fg (iD (pv 4)) pI))))))))),?_⟩;refine⟨_,Z,v,d,Z,rv,ti,λb hb=>⟨_,Z,?_⟩⟩;rcases wm rv ti with⟨ns,sp,a,b',rfl,rfl,h1,r2,hl,hn,hs⟩|⟨w,u,a,y,rfl,hw,rfl,h1,ry,hv⟩
  ·cases(hb.mpr ⟨_,_,rfl⟩)
   refine bG ?_;have Bv:=uG hn hl;have uZ:=fM hs;refine⟨_,Z,a,_,Z,h1,Z,_,_,Z,_,_,Z,_,_,Z,Z,?_⟩;refine⟨_,Z,.inr ⟨"line",Z,au,_,Z,by simp only[cK];lia,?_⟩⟩;refine⟨_,Z,by simp only[cK];lia,?_⟩;refine⟨_,Z,.ref b',ns,Z,r2,hl,hn,λH1 s1=>.inr ⟨_,Z,au,_,Z,by simp only[cK];lia,?_⟩⟩;refine⟨_,Z,by simp only[cK];lia,?_⟩;refine⟨_,Z,sp,Z,hs.l,λH2 s2=>.inr ⟨_,Z,au,_,Z,by simp only[cK];lia,?_⟩⟩;refine⟨by simp only[cK];lia,?_⟩;have e:Str.empty++"line"++" "++gO ns++" "++numS sp=dU (eO ns sp):=by
    rw[AY,Ce];have:(Str.ofString "line"++Str.ofString " ")=Str.ofString "line ":=by decide+kernel
    rw[this]
   have:=k H2 (s1.trans s2);rw[<-e]at this;exact this
  ·have sN:b=false:=by cases b with |false=>rfl |true=>exact(CK hw (hb.mp Z)).elim
   subst sN;refine aV ?_;have w4:=zp hw;refine⟨_,Z,a,_,Z,h1,Z,_,_,Z,_,_,Z,Z,?_⟩;have eA:Str.empty++w++" "++qR u=dU (.tuple [.str w,u]):=by rw[Ce];rcases hv with⟨i,rfl,_⟩|⟨z,rfl,_⟩<;>rfl
   rw[<-eA]at k;refine⟨_,Z,.inr ⟨_,_,bu _,bu _,tV hw,VL,_,Z,?_⟩⟩;rw[mW];rcases hv with⟨i,rfl,rfl,hi⟩|⟨z,rfl,rfl,hz⟩
   ·have uZ:=fM hi
    have fin:∀H',aD H H'->Q (.str (Str.empty++w++" "++numS i)) H':=k;have l1:(Str.empty++w).length<=sizeLine:=by simp only[cK];lia
    have l2:(Str.empty++w++" ").length<=sizeLine:=by simp only[cK];lia
    have l3:(Str.empty++w++" "++numS i).length<=sizeLine:=by simp only[cK];lia
    cases hw1:decide (w="wait")with |true=>exact bG ⟨_,Z,.inr ⟨w,Z,au,_,Z,l1,⟨_,Z,l2,⟨_,Z,i,Z,hi.l,λH2 s2=>.inr ⟨_,Z,au,_,Z,l3,l3,fin H2 s2⟩⟩⟩⟩⟩ |false=>exact aV ⟨_,Z,.inr ⟨w,Z,au,_,Z,l1,⟨_,Z,l2,⟨_,Z,.inl ⟨i,Z,ju hi,_,Z,l3,l3,fin H (aD.refl _)⟩⟩⟩⟩⟩
   ·rw[ti.nw]
    refine aV ⟨_,Z,.inr ⟨w,Z,au,_,Z,by simp only[cK];lia,?_⟩⟩;refine⟨_,Z,by simp only[cK];lia,?_⟩;refine⟨_,Z,.inr ⟨z,Z,au,_,Z,by simp only[cK];lia,?_⟩⟩;exact⟨by simp only[cK];lia,k H (aD.refl _)⟩
theorem sz:sizeLine=16777216:=by decide
theorem dZ:Str.length " "=1:=by decide+kernel
theorem Mc:Str.empty.length=0:=by decide+kernel
inductive abw(K:aa)(vs:List V)(H:Hp)(Q:VK):Prop |mk (v:_)(ds:_)(h0:vs=[v])(h1:RD K H v (.list ds))(h2:(∀d∈ds,TI d))(h3:cx ds=true)(h4:ds.length<=30)(h5:∀H',aD H H'->Q (.str (Txt.join "\n" (ds.map dU))) H')
def LX(K:aa):Sp:=λvs H Q _=>abw K vs H Q
abbrev DX:Stmt:=top 84
theorem MG:aW ["items"] ["items"] (aM DX):=bh aF
theorem a03(F:FA K mg "show_items" DX)(B:bB mg)(HK:aA P w K mg ao "show_item" 3 (qY K)):aA P w K mg ao "show_items" 4 (LX K):=by
 refine F.has MG (λvs H Q E h=>?_) (λ_ _ _ _ _ _=>cu λ_=>rfl) (λf aH A outer s H vs Q E hr h=>?_)
 ·obtain⟨v,ds,rfl,_⟩:=h
  rfl
 ·obtain⟨v,ds,rfl,rv,ti,no,hl,k⟩:=h
  have nd:=MG.nd;refine⟨_,(aJ (aP (kU K Z bo (ak (eY (N:=["item"]) (js:=[none]) Z Z Z (kT K Z (pv 0)) (λ_ _ _ _ _=>(bj 0 (hJ _))) (λ_ _ _ _ _=>dS) (λ_ _ _ _ _=>(pf HK hr (ak (pv 0) aw)))) aw)))),?_⟩;obtain⟨a,xs,rfl,h1,h2⟩:=rv.lst_inv;have lx:=h2.length;refine⟨Z,?_⟩;refine⟨_,Z,a,Z,⟨_,h1⟩,λD H1 n1=>?_⟩;refine qx (K:=K) (ds:=(ds.map dU).map PyData.str) _ h1 n1 (by simp;exact lx) au (kZ _) ?_ ?_
  ·intro i x d H2 Q' ex ed s2 hq
   obtain⟨d',dD,rx⟩:=h2.get' i ex;rw[bR,bR,dD]at ed;cases ed;exact⟨_,Z,x,d',Z,RD.mono s2 _ rx,ti d' (fc dD),λH3 s3=>hq _ _ s3 (bu _)⟩
  ·intro H2 zs s2 d2 r2
   rw[jK r2]at d2;refine⟨"\n",D,ds.map dU,Z,Z,aI.of d2,λz hz=>?_,aF,by rw[bM];lia,k _ s2⟩;obtain⟨d,hd,rfl⟩:=cY.mp hz;have:=uQ (ti d hd)
   lia
def iM (i:Int):Prop:=i.natAbs<10^540
theorem oa{i:Int}(h:iM i):(numS i).length<=541:=by show(Str.ofString (toString i)).length<=541;rw[UQ];exact UL (k:=540) ay h
theorem AR{i:Int}(h:iM i):i.natAbs.log2<1920:=by
 by_cases h0:i.natAbs=0
 ·rw[h0];decide
 ·exact(Nat.log2_lt h0).mpr (p8 h aF)
inductive abF(K:aa)(vs:List V)(H:Hp)(Q:VK):Prop |mk (v:_)(a:_)(b:_)(h0:vs=[v])(h1:RD K H v (.tuple [.int a,.int b]))(h2:iM a)(h3:iM b)(h4:Q (.str (hU a b)) H)
def Dp(K:aa):Sp:=λvs H Q _=>abF K vs H Q
inductive abG(K:aa)(vs:List V)(H:Hp)(Q:VK):Prop |mk (v:_)(a:_)(b:_)(h0:vs=[v])(h1:RD K H v (.tuple [.int a,.int b]))(h2:iM a)(h3:iM b)(h4:∀H',aD H H'->Q (.str (hU a b)) H')
def zY(K:aa):Sp:=λvs H Q _=>abG K vs H Q
theorem CI{H:Hp}{v:V}{a b:Int}(h:RD K H v (.tuple [.int a,.int b])):∃p,v= .ref p/\aY K H p [.int a,.int b]:=by obtain⟨p,xs,rfl,h1,h2⟩:=h.cJ;obtain⟨x1,r,rfl,e1,h2⟩:=h2.cons_inv;obtain⟨x2,r,rfl,e2,h2⟩:=h2.cons_inv;cases h2.nil_inv;cases e1.int_inv;cases e2.int_inv;exact⟨p,Z,h1⟩
theorem Dy:Str.length "/"=1:=by decide+kernel
theorem yf{a b:Int}(ha:iM a)(hb:iM b):(hU a b).length<=1100:=by
 have h1:=oa ha;have h2:=oa hb;have h3:=Dy;unfold hU;split
 ·lia
 ·simp only[cK];lia
abbrev DY:Stmt:=top 82
theorem MH:aW ["one","p","q"] ["one"] (aM DY):=bh aF
theorem a04(F:FA K mg "show_fraction" DY)(B:bB mg)(fS:aA P w K mg ao "show_number" 1 kn):aA P w K mg ao "show_fraction" 2 (zY K):=by
 refine F.has MH (λvs H Q E h=>?_) (λ_ _ _ _ _ _=>cu λ_=>rfl) (λf aH A outer s H vs Q E hr h=>?_)
 ·obtain⟨v,a,b,rfl,_⟩:=h
  rfl
 ·obtain⟨v,a,b,rfl,rv,na,nb,k⟩:=h
  have nd:=MH.nd;refine⟨_,(aB (eM (pv 0) (eX K Z (n:=2) Z (bZ (bj 1 nd) (bZ (bj 2 nd) eW)))) (aJ (aP (gZ (bX (dF K Z hr.units) (pv 2) aE (bL _)) (pf fS hr (ak (pv 1) aw)) (pL (fg (iD (pf fS hr (ak (pv 1) aw))) (fg bo (fg (iD (pf fS hr (ak (pv 2) aw))) pI)))))))),?_⟩;obtain⟨p,rfl,h1⟩:=CI rv;have l1:=oa na;have l2:=oa nb;have PY:C2 a:=na;have nbL:C2 b:=nb;have hs:=sz;have h0:=Mc;have Be:=Dy;refine⟨_,Z,p,_,Z,h1,Z,_,_,Z,_,_,Z,Z,?_⟩;refine⟨_,Z,.inl ⟨_,_,Z,Z,_,Z,?_⟩⟩;by_cases hb:b=1
  ·rw[cf hb]
   refine bG ⟨_,Z,a,Z,PY,λH1 s1=>?_⟩;have:=k H1 s1;unfold hU at this;rw[bc hb]at this;exact this
  ·rw[dE hb]
   refine aV ⟨_,Z,a,Z,PY,λH1 s1=>.inr ⟨_,Z,au,_,Z,by simp only[cK];lia,?_⟩⟩;refine⟨_,Z,by simp only[cK];lia,?_⟩;refine⟨_,Z,b,Z,nbL,λH2 s2=>.inr ⟨_,Z,au,_,Z,by simp only[cK];lia,?_⟩⟩;refine⟨by simp only[cK];lia,?_⟩;have:=k H2 (s1.trans s2);unfold hU at this;rw[bf hb]at this;have e:Str.empty++numS a++"/"++numS b=numS a++"/"++numS b:=by rw[Ce]
   rw[<-e]at this;exact this
abbrev EK:Stmt:=top 117
theorem Nd:aW ["_law_one"] ["_law_one"] (aM EK):=bh aF
theorem a0K(F:FA K mg "_law_fraction_text" EK)(B:bB mg):aA P w K mg ao "_law_fraction_text" 1 (Dp K):=by
 refine F.has Nd (λvs H Q E h=>?_) (λ_ _ _ _ _ _=>cu λ_=>rfl) (λf aH A outer s H vs Q E hr h=>?_)
 ·obtain⟨v,a,b,rfl,_⟩:=h
  rfl
 ·obtain⟨v,a,b,rfl,rv,na,nb,k⟩:=h
  have nd:=Nd.nd;refine⟨_,(aJ (aP (gZ (bX (dF K Z hr.units) (px K (pv 0) aE) aE (bL _)) (cS (x:="str") gD Z (B.at "str") gm (ak (px K (pv 0) aE) aw)) (aQ gM (aQ gM (cS (x:="str") gD rfl (B.at "str") gm (ak (px K (pv 0) aE) aw)) bo) (cS (x:="str") gD rfl (B.at "str") gm (ak (px K (pv 0) aE) aw)))))),?_⟩;obtain⟨p,rfl,h1⟩:=CI rv;have l1:=oa na;have l2:=oa nb;have hs:=sz;have Be:=Dy;refine⟨_,Z,.inr ⟨p,_,1,.int b,Z,Z,h1,Z,.inl ⟨_,_,Z,Z,_,Z,?_⟩⟩⟩;by_cases hb:b=1
  ·rw[cf hb]
   refine bG ⟨_,Z,.inr ⟨p,_,0,.int a,Z,Z,h1,Z,.inl ⟨a,Z,AR na,?_⟩⟩⟩;unfold hU at k;rw[bc hb]at k;exact k
  ·rw[dE hb]
   refine aV ⟨_,Z,.inr ⟨p,_,0,.int a,Z,Z,h1,Z,.inl ⟨a,Z,AR na,?_⟩⟩⟩;refine⟨_,_,Z,Z,by change (numS a).length+_<=_;lia,?_⟩;refine⟨_,Z,.inr ⟨p,_,1,.int b,Z,Z,h1,Z,.inl ⟨b,Z,AR nb,?_⟩⟩⟩;refine⟨_,_,Z,Z,by simp only[cK];change (numS a).length+_+(numS b).length<=_;lia,?_⟩;unfold hU at k;rw[bf hb]at k;exact k
abbrev EJ:Stmt:=top 116
theorem Nc:aW ["_law_item_here"] ["_law_item_here"] (aM EJ):=bh aF
theorem a0J(F:FA K mg "_law_item_text" EJ)(B:bB mg):aA P w K mg ao "_law_item_text" 1 (qY K):=by
 refine F.has Nc (λvs H Q E h=>?_) (λ_ _ _ _ _ _=>cu λ_=>rfl) (λf aH A outer s H vs Q E hr h=>?_)
 ·obtain⟨v,d,rfl,_⟩:=h
  rfl
 ·obtain⟨v,d,rfl,rv,ti,k⟩:=h
  have nd:=Nc.nd;refine⟨_,(aB (bJ (bX (dF K Z hr.units) (px K (pv 0) aE) bo (bL _)) (aJ (aP (aQ gM (aQ gM (aQ gM bo (kU K Z bo (ak (eY (N:=["_law_step"]) (js:=[none]) Z Z Z (kv K Z (px K (pv 0) aE)) (λ_ _ _ _ _=>(bj 0 (hJ _))) (λ_ _ _ _ _=>dS) (λ_ _ _ _ _=>(cS (x:="str") gD Z (B.at "str") gm (ak (pv 0) aw)))) aw))) bo) (cS (x:="str") gD rfl (B.at "str") gm (ak (px K (pv 0) aE) aw))))) bK) (aJ (aP (aQ gM (aQ gM (px K (pv 0) aE) bo) (cS (x:="str") gD Z (B.at "str") gm (ak (px K (pv 0) aE) aw)))))),?_⟩;have hs:=sz;have yb:=dZ;have h5:Str.length "line "=5:=by decide+kernel
  rcases wm rv ti with⟨ns,sp,a,b,rfl,rfl,h1,r2,hl,hn,fi⟩|⟨w,u,a,y,rfl,hw,rfl,h1,ry,hv⟩
  ·refine⟨_,Z,.inr ⟨a,_,0,.str "line",Z,Z,h1,cE (dY 0) Z,.inr ⟨_,_,bu _,bu _,pU,pU,_,Z,?_⟩⟩⟩
   rw[mW,cf rfl];refine bG ?_;have Bv:=uG hn hl;have uZ:=fM fi;obtain⟨b',xs,e',g1,g2⟩:=r2.cJ;cases e';rw[g2.gP]at g1;refine⟨Z,?_⟩;refine⟨_,Z,.inr ⟨a,_,1,.ref b,Z,Z,h1,cE ay Z,b,Z,⟨_,g1⟩,λD H1 n1=>?_⟩⟩;refine t9 (K:=K) (ds:=(ns.map numS).map PyData.str) _ g1 n1 (by simp) (by simp;lia) (kZ _) ?_ ?_
   ·intro i x d H2 Q' ex ed s2 hq
    rw[bR]at ex;obtain⟨n,en,rfl⟩:=yW.mp ex;rw[bR,bR,en]at ed;cases ed;have hn:=hn n (fc en);exact⟨_,Z,.inl ⟨n,Z,ju hn,hq _ _ (aD.refl _) (bu _)⟩⟩
   ·intro H2 zs s2 d2 r2
    rw[jK r2]at d2;refine⟨" ",D,ns.map numS,Z,Z,aI.of d2,λz hz=>?_,aF,by rw[bM];lia,?_⟩
    ·obtain⟨n,sJ,rfl⟩:=cY.mp hz
     have:=fM (hn n sJ)
     lia
    refine⟨_,_,Z,Z,by change _+(gO ns).length<=_;lia,?_⟩;refine⟨_,_,Z,Z,by simp only[cK];change _+(gO ns).length+_<=_;lia,?_⟩;refine⟨_,Z,.inr ⟨a,_,2,.int sp,Z,Z,h1.go s2,cE ay Z,.inl ⟨sp,Z,ju fi,?_⟩⟩⟩;refine⟨_,_,Z,Z,by simp only[cK];change _+(gO ns).length+_+(numS sp).length<=_;lia,?_⟩;have:=k H2 s2;rw[AY]at this;exact this
  ·refine⟨_,Z,.inr ⟨a,_,0,.str w,Z,Z,h1,cE (dY 0) Z,.inr ⟨_,_,bu _,bu _,tV hw,pU,_,Z,?_⟩⟩⟩
   rw[mW,(zo hw).1];refine aV ?_;have w4:=zp hw;have fin:=k H (aD.refl _);refine⟨_,Z,.inr ⟨a,_,0,.str w,Z,Z,h1,cE (dY 0) Z,?_⟩⟩;refine⟨_,_,Z,Z,au,?_⟩;refine⟨_,Z,.inr ⟨a,_,1,y,Z,Z,h1,cE ay Z,?_⟩⟩;rcases hv with⟨i,rfl,rfl,hi⟩|⟨z,rfl,rfl,hz⟩
   ·have uZ:=fM hi
    exact .inl ⟨i,Z,ju hi,_,_,Z,Z,by simp only[cK];change _+(numS i).length<=_;lia,fin⟩
   ·exact .inr ⟨z,Z,_,_,Z,Z,by simp only[cK];lia,fin⟩
def BX(d:ah):Prop:=TI d/\(∀ns sp,d≠eO ns sp)\/∃(ns:List Int)(t a b:Int),d= .tuple [.str "step",.tuple (ns.map PyData.int),.int t,.tuple [.int a,.int b]]/\ns.length<=3/\(∀n∈ns,Nm n)/\iM t/\iM a/\iM b
inductive abL(K:aa)(vs:List V)(H:Hp)(Q:VK):Prop |mk (v:_)(d:_)(h0:vs=[v])(h1:RD K H v d)(h2:BX d)(h3:∀H',aD H H'->Q (.str (lN d)) H')
def zZ(K:aa):Sp:=λvs H Q _=>abL K vs H Q
theorem Jj{d:ah}(h:TI d)(hn:∀ns sp,d≠eO ns sp):lN d=dU d:=by
 rcases h with⟨ns,sp,rfl,_⟩|⟨w,i,rfl,_⟩|⟨w,z,rfl,_⟩
 ·exact(hn _ _ Z).elim
 ·rfl
 ·rfl
theorem Jh(ns:List Int)(t a b:Int):lN (.tuple [.str "step",.tuple (ns.map PyData.int),.int t,.tuple [.int a,.int b]])="step "++gO ns++" "++numS t++" "++hU a b:=by show Str.ofString "step "++Txt.join " " ((ns.map PyData.int).map qR)++" "++numS t++" "++hU a b=_;rw[Qd];rfl
theorem Lr{H:Hp}{v:V}{ns:List Int}{t a b:Int}(h:RD K H v (.tuple [.str "step",.tuple (ns.map PyData.int),.int t,.tuple [.int a,.int b]])):∃p r q,v= .ref p/\aY K H p [.str "step",.ref r,.int t,.ref q]/\RD K H (.ref r) (.tuple (ns.map PyData.int))/\aY K H r (ns.map V.int)/\RD K H (.ref q) (.tuple [.int a,.int b]):=by obtain⟨p,xs,rfl,h1,h2⟩:=h.cJ;obtain⟨x1,r,rfl,e1,h2⟩:=h2.cons_inv;obtain⟨x2,r,rfl,e2,h2⟩:=h2.cons_inv;obtain⟨x3,r,rfl,e3,h2⟩:=h2.cons_inv;obtain⟨x4,r,rfl,e4,h2⟩:=h2.cons_inv;cases h2.nil_inv;cases e1.str_inv;cases e3.int_inv;obtain⟨r',ys,rfl,g1,g2⟩:=id e2.cJ;rw[g2.gP]at g1;obtain⟨q,rfl,_⟩:=CI e4;exact⟨p,r',q,Z,h1,e2,g1,e4⟩
abbrev DZ:Stmt:=top 85
theorem MI:aW ["entry","word","row","t","square"] ["entry"] (aM DZ):=bh aF
theorem a05(F:FA K mg "show_entry" DZ)(B:bB mg)(HK:aA P w K mg ao "show_item" 3 (qY K))(xC:aA P w K mg ao "show_numbers" 2 (zS K))(xD:aA P w K mg ao "show_fraction" 2 (zY K))(fS:aA P w K mg ao "show_number" 1 kn):aA P w K mg ao "show_entry" 4 (zZ K):=by
 refine F.has MI (λvs H Q E h=>?_) (λ_ _ _ _ _ _=>cu λ_=>rfl) (λf aH A outer s H vs Q E hr h=>?_)
 ·obtain⟨v,d,rfl,_⟩:=h
  rfl
 ·obtain⟨v,d,rfl,rv,te,k⟩:=h
  have nd:=MI.nd;refine⟨_,(aB (bJ (bX (my K Z hr.units) (px K (pv 0) aE) bo (bL _)) (aJ (aP (pf HK hr (ak (pv 0) aw)))) bK) (aB (eM (pv 0) (eX K Z (n:=4) Z (bZ (bj 1 nd) (bZ (bj 2 nd) (bZ (bj 3 nd) (bZ (bj 4 nd) eW)))))) (aJ (aP (pL (fg (iD (pv 1)) (fg bo (fg (iD (pf xC hr (ak (pv 2) aw))) (fg bo (fg (iD (pf fS hr (ak (pv 3) aw))) (fg bo (fg (iD (pf xD hr (ak (pv 4) aw))) pI)))))))))))),?_⟩;have hs:=sz;have yb:=dZ;have h0:=Mc;have h4:Str.length "step"=4:=by decide+kernel
  rcases te with⟨ti,hn⟩|⟨ns,t,a,b,rfl,hl,hn,ht,ha,hb⟩
  ·rw[Jj ti hn]at k
   rcases wm rv ti with⟨ns,sp,a,b,rfl,_⟩|⟨w,u,a,y,rfl,hw,rfl,h1,ry,hv⟩
   ·exact(hn _ _ Z).elim
   ·refine⟨_,Z,.inr ⟨a,_,0,.str w,Z,Z,h1,cE (dY 0) Z,.inr ⟨_,_,bu _,bu _,tV hw,ua,_,Z,?_⟩⟩⟩
    rw[mW,(zo hw).2];exact bG ⟨_,Z,_,_,Z,rv,ti,k⟩
  ·obtain⟨p,r,q,rfl,h1,g2,g3,g4⟩:=Lr rv
   refine⟨_,Z,.inr ⟨p,_,0,.str "step",Z,Z,h1,cE (dY 0) Z,.inr ⟨_,_,bu _,bu _,ua,ua,_,Z,?_⟩⟩⟩;rw[mW,cf rfl];refine aV ?_;have Bv:=uG hn hl;have uZ:=oa ht;have RZ:=yf ha hb;refine⟨_,Z,p,_,Z,h1,Z,_,_,Z,_,_,Z,_,_,Z,_,_,Z,Z,?_⟩;refine⟨_,Z,.inr ⟨"step",Z,au,_,Z,by simp only[cK];lia,?_⟩⟩;refine⟨_,Z,by simp only[cK];lia,?_⟩;refine⟨_,Z,.ref r,ns,Z,g2,hl,hn,λH1 s1=>.inr ⟨_,Z,au,_,Z,by simp only[cK];lia,?_⟩⟩;refine⟨_,Z,by simp only[cK];lia,?_⟩;refine⟨_,Z,t,Z,ht,λH2 s2=>.inr ⟨_,Z,au,_,Z,by simp only[cK];lia,?_⟩⟩;refine⟨_,Z,by simp only[cK];lia,?_⟩;refine⟨_,Z,.ref q,a,b,Z,RD.mono (s1.trans s2) _ g4,ha,hb,λH3 s3=>.inr ⟨_,Z,au,_,Z,by simp only[cK];lia,?_⟩⟩;refine⟨by simp only[cK];lia,?_⟩;rw[Jh]at k;have fin:=k H3 (s1.trans (s2.trans s3));have e:Str.empty++"step"++" "++gO ns++" "++numS t++" "++hU a b="step "++gO ns++" "++numS t++" "++hU a b:=by
    rw[Ce];have:(Str.ofString "step"++Str.ofString " ")=Str.ofString "step ":=by decide+kernel
    rw[this]
   rw[<-e]at fin;exact fin
abbrev EL:Stmt:=top 118
theorem Nf:aW ["_law_entry","_law_told_here"] ["_law_entry"] (aM EL):=bh aF
theorem a0M(F:FA K mg "_law_entry_text" EL)(B:bB mg)(xY:aA P w K mg ao "_law_item_text" 1 (qY K))(Bt:aA P w K mg ao "_law_fraction_text" 1 (Dp K)):aA P w K mg ao "_law_entry_text" 2 (zZ K):=by
 refine F.has Nf (λvs H Q E h=>?_) (λ_ _ _ _ _ _=>cu λ_=>rfl) (λf aH A outer s H vs Q E hr h=>?_)
 ·obtain⟨v,d,rfl,_⟩:=h
  rfl
 ·obtain⟨v,d,rfl,rv,te,k⟩:=h
  have nd:=Nf.nd;refine⟨_,(aB (bJ (bX (my K Z hr.units) (px K (pv 0) aE) bo (bL _)) (aJ (aP (pf xY hr (ak (pv 0) aw)))) bK) (aB (pS 1 nd (kU K Z bo (ak (eY (N:=["_law_step"]) (js:=[none]) Z Z Z (kv K Z (px K (pv 0) aE)) (λ_ _ _ _ _=>(bj 0 (hJ _))) (λ_ _ _ _ _=>dS) (λ_ _ _ _ _=>(cS (x:="str") gD Z (B.at "str") gm (ak (pv 0) aw)))) aw))) (aJ (aP (aQ gM (aQ gM (aQ gM (aQ gM (aQ gM bo (pv 1)) bo) (cS (x:="str") gD Z (B.at "str") gm (ak (px K (pv 0) aE) aw))) bo) (pf Bt hr (ak (px K (pv 0) aE) aw))))))),?_⟩;have hs:=sz;have yb:=dZ;have h5:Str.length "step "=5:=by decide+kernel
  rcases te with⟨ti,hn⟩|⟨ns,t,a,b,rfl,hl,hn,ht,ha,hb⟩
  ·rw[Jj ti hn]at k
   rcases wm rv ti with⟨ns,sp,a,b,rfl,_⟩|⟨w,u,a,y,rfl,hw,rfl,h1,ry,hv⟩
   ·exact(hn _ _ Z).elim
   ·refine⟨_,Z,.inr ⟨a,_,0,.str w,Z,Z,h1,cE (dY 0) Z,.inr ⟨_,_,bu _,bu _,tV hw,ua,_,Z,?_⟩⟩⟩
    rw[mW,(zo hw).2];exact bG ⟨_,Z,_,_,Z,rv,ti,k⟩
  ·obtain⟨p,r,q,rfl,h1,g2,g3,g4⟩:=Lr rv
   refine⟨_,Z,.inr ⟨p,_,0,.str "step",Z,Z,h1,cE (dY 0) Z,.inr ⟨_,_,bu _,bu _,ua,ua,_,Z,?_⟩⟩⟩;rw[mW,cf rfl];refine aV ?_;have Bv:=uG hn hl;have uZ:=oa ht;have RZ:=yf ha hb;refine⟨Z,?_⟩;refine⟨_,Z,.inr ⟨p,_,1,.ref r,Z,Z,h1,cE ay Z,r,Z,⟨_,g3⟩,λD H1 n1=>?_⟩⟩;refine t9 (K:=K) (ds:=(ns.map numS).map PyData.str) _ g3 n1 (by simp) (by simp;lia) (kZ _) ?_ ?_
   ·intro i x d H2 Q' ex ed s2 hq
    rw[bR]at ex;obtain⟨n,en,rfl⟩:=yW.mp ex;rw[bR,bR,en]at ed;cases ed;have hn:=hn n (fc en);exact⟨_,Z,.inl ⟨n,Z,ju hn,hq _ _ (aD.refl _) (bu _)⟩⟩
   ·intro H2 zs s2 d2 r2
    rw[jK r2]at d2;refine⟨" ",D,ns.map numS,Z,Z,aI.of d2,λz hz=>?_,aF,by rw[bM];lia,?_⟩
    ·obtain⟨n,sJ,rfl⟩:=cY.mp hz
     have:=fM (hn n sJ)
     lia
    have sQ:=h1.go s2;refine⟨_,Z,?_⟩;refine⟨_,_,Z,Z,by change _+(gO ns).length<=_;lia,?_⟩;refine⟨_,_,Z,Z,by simp only[cK];change _+(gO ns).length+_<=_;lia,?_⟩;refine⟨_,Z,.inr ⟨p,_,2,.int t,Z,Z,sQ,cE ay Z,.inl ⟨t,Z,AR ht,?_⟩⟩⟩;refine⟨_,_,Z,Z,by simp only[cK];change _+(gO ns).length+_+(numS t).length<=_;lia,?_⟩;refine⟨_,_,Z,Z,by simp only[cK];change _+(gO ns).length+_+(numS t).length+_<=_;lia,?_⟩;refine⟨_,Z,.inr ⟨p,_,3,.ref q,Z,Z,sQ,cE ay Z,.ref q,a,b,Z,RD.mono s2 _ g4,ha,hb,?_⟩⟩;refine⟨_,_,Z,Z,by simp only[cK];change _+(gO ns).length+_+(numS t).length+_+_<=_;lia,?_⟩;have:=k H2 s2;rw[Jh]at this;exact this
end
end _b
set_option maxHeartbeats 1000000
namespace _b
open PySem PySem.Spec PyProof.Rows _L _r _l _W
open _O (Itm)
section
variable {P:af}{w:World}{K:aa}{mg:bD}{ao:Heap}
abbrev EE:Stmt:=top 110
theorem N6:aW ["_law_bag_here","_law_axes","_law_far","_law_rails","_law_bounds"] ["_law_bag_here"] (aM EE):=bh aF
theorem a0H(F:FA K mg "_law_machine" EE)(B:bB mg)(dM:aA P w K mg ao "_law_take" 1 m9):aA P w K mg ao "_law_machine" 2 (LV K):=by
 refine F.has N6 (λvs H Q E h=>?_) (λ_ _ _ _ _ _=>cu λ_=>rfl) (λf aH A outer s H vs Q E hr h=>?_)
 ·obtain⟨p,rfl,_⟩:=h
  rfl
 ·obtain⟨p,rfl,bg,k⟩:=h
  have nd:=N6.nd;refine⟨_,(aB (pS 1 nd (aQ dI aE (pf dM hr (ak (pv 0) (ak aE aw))))) (aB (pS 2 nd (px K (da (ak aE (ak aE aw))) (pf dM hr (ak (pv 0) (ak aE aw))))) (aB (pS 3 nd (cS (x:="tuple") (kl K Z) Z (B.at "tuple") iU (ak (eY (N:=["_law_axis","_law_bag_here","_law_far"]) (js:=[none,some 0,some 2]) rfl rfl rfl (pJ rfl (B.at "range") (ak (pv 1) aw)) (λ_ _ _ _ _=>(bj 0 (show List.Nodup (["_law_axis","_law_bag_here","_law_far"]:List Str) by decide+kernel))) (λ_ _ _ _ _=>dS) (λ_ _ _ _ _=>(aQ dI aE (pf dM hr (ak (pv 1) (ak (pv 2) aw)))))) aw))) (aB (pS 4 nd (cS (x:="tuple") (kl K Z) Z (B.at "tuple") iU (ak (eY (N:=["_law_k","_law_bag_here"]) (js:=[none,some 0]) rfl rfl rfl (pJ rfl (B.at "range") (ak aE aw)) (λ_ _ _ _ _=>(bj 0 (kx ay))) (λ_ _ _ _ _=>dS) (λ_ _ _ _ _=>(aQ dI aE (pf dM hr (ak (pv 1) (ak aE aw)))))) aw))) (aJ (aP (aQ (TK K Z) (aQ (TK K Z) (gJ (ak (pv 3) aw)) (pv 4)) (gJ (ak (aQ dI aE (pf dM hr (ak (pv 0) (ak aE aw)))) aw))))))))),?_⟩;refine⟨_,Z,p,2,Z,bg,ay,ay,λt0 H1 Lj Li b1=>?_⟩;refine⟨_,_,Z,Z,?_⟩;refine⟨ck Z,λl H2 nw=>?_⟩;have b2:bP p H1 H2:=.eg b1.bO nw.same;have xq:l≠p:=λe=>b1.bO.ne (e▸nw.no);refine⟨_,Z,p,2,Z,b2.bO,ay,ay,λi H3 i0 i1 b3=>?_⟩;obtain⟨sW,mf,ef⟩:=B0 [100,20] i0 i1;have f1:1<=sW/\sW<=100:=by
   rcases cg.mp mf with rfl|mf
   ·exact⟨ay,ay⟩
   rcases cg.mp mf with rfl|mf
   ·exact⟨ay,ay⟩
   ·exact(eT mf).elim
  refine .inl ⟨l,_,_,_,Z,Z,aI.of (b3.same _ _ xq nw.at'),ef,?_⟩;refine⟨_,Z,_,Z,au,au,λD H4 n4=>?_⟩;have hN:(2+t0).toNat<=1000:=by lia
  refine Ju (2+t0).toNat [some (.ref p),some (.int sW)] n4 b3.bO hN (λi=>.int (0+(i:Int))) (λi H5 hi b5=>⟨hi,λy H6 ⟨e1,e2⟩=>⟨e1,e2⟩⟩) (λH5 b5=>bI _) (λz=>1<=z/\z<=100) ?_ ?_
  ·intro i H5 Q' hi b5 hq
   refine⟨_,Z,_,Z,p,sW,Z,b5.bO,f1.1,au,λz H6 z0 z1 b6=>?_⟩;exact⟨_,_,Z,Z,hq _ _ ⟨au,au⟩ b6⟩
  intro H5 rs b5 d5 lr pr;refine⟨D,_,Z,.inl ⟨aI.of d5,λq H6 n6=>?_⟩⟩;have b6:bP p H5 H6:=.eg b5.bO n6.same;refine⟨3,Z,ay,ay,λD2 H7 n7=>?_⟩;refine Ju 3 [some (.ref p)] n7 b6.bO ay (λi=>.int (0+(i:Int))) (λi H8 hi b8=>⟨hi,λy H9 ⟨e1,e2⟩=>⟨e1,e2⟩⟩) (λH8 b8=>bI _) (λz=>1<=z/\z<=50) ?_ ?_
  ·intro i H8 Q' hi b8 hq
   refine⟨_,Z,p,50,Z,b8.bO,ay,ay,λz H9 z0 z1 b9=>?_⟩;exact⟨_,_,Z,Z,hq _ _ ⟨au,au⟩ b9⟩
  intro H8 bs b8 d8 lb pb;refine⟨D2,_,Z,.inl ⟨aI.of d8,λq2 H9 n9=>?_⟩⟩;have b9:bP p H8 H9:=.eg b8.bO n9.same;refine⟨_,Z,ck Z,λt1 nk GO=>?_⟩;have gE:bP p H9 nk:=.eg b9.bO GO.same
  match bs,lb,pb,n9 with |[x1,x2,x3],_,pb,n9=>have p1:=pb x1 (.head _);have p2:=pb x2 (.tail _ (.head _));have p3:=pb x3 (.tail _ (.tail _ (.head _)));refine⟨_,Z,t1,q2,_,_,Z,Z,aY.of GO.at',aY.of (GO.same _ _ n9.at'),ck Z,λv1 kH FH a11=>?_⟩;have BV:bP p nk kH:=.eg gE.bO FH;refine⟨_,Z,p,100,Z,BV.bO,ay,ay,λz H12 z0 z1 tq=>?_⟩;refine⟨_,_,Z,Z,ck Z,λt2 UD GN=>?_⟩;have JI:bP p H12 UD:=.eg tq.bO GN.same;refine⟨v1,t2,_,_,Z,Z,(aY.t (bP.t BV.bO tq) a11).go GN.same,aY.of GN.at',ck Z,λv2 K2 jm a14=>?_⟩;have tm:bP p UD K2:=.eg JI.bO jm;have sq:aY K K2 q (rs.map V.int):=aY.t (bP.t b6.bO (b8.trans (b9.trans (gE.trans (BV.trans (tq.trans (JI.trans tm))))))) (aY.of n6.at');refine k (.ref v2) rs x1 x2 x3 (1+z) K2 (fR a14 (cF (fR sq (wR rs)) (cF (fE _) (cF (fE _) (cF (fE _) (cF (fE _) dy)))))) ⟨au,pr,p1,p2,p3,au⟩ (b1.trans (b2.trans (b3.trans (b5.trans (b6.trans (b8.trans (b9.trans (gE.trans (BV.trans (tq.trans (JI.trans tm)))))))))))
inductive abn(vs:List V)(H:Hp)(Q:VK):Prop |mk (p:_)(h0:vs=[.ref p])(h1:fu H p)(h2:∀z H',dh 0 (.str z)->oh z=true->bP p H H'->Q (.str z) H')
def LU(K:aa):Sp:=λvs H Q _=>abn vs H Q
abbrev Ez:Stmt:=top 112
theorem N2:aW ["_law_bag_here"] ["_law_bag_here"] (aM Ez):=bh aF
theorem a0E(F:FA K mg "_law_name" Ez)(B:bB mg)(dM:aA P w K mg ao "_law_take" 1 m9):aA P w K mg ao "_law_name" 2 (LU K):=by
 refine F.has N2 (λvs H Q E h=>?_) (λ_ _ _ _ _ _=>cu λ_=>rfl) (λf aH A outer s H vs Q E hr h=>?_)
 ·obtain⟨p,rfl,_⟩:=h
  rfl
 ·obtain⟨p,rfl,bg,k⟩:=h
  have nd:=N2.nd;refine⟨_,(aJ (aP (kU K Z bo (ak (eY (N:=["_law_k","_law_bag_here"]) (js:=[none,some 0]) Z Z Z (pJ Z (B.at "range") (ak (aQ dI aE (pf dM hr (ak (pv 0) (ak aE aw)))) aw)) (λ_ _ _ _ _=>(bj 0 (kx ay))) (λ_ _ _ _ _=>dS) (λ_ _ _ _ _=>(Gf QG bo (pf dM hr (ak (pv 1) (ak aE aw))) (λ_ _=>rfl)))) aw)))),?_⟩;refine⟨Z,?_⟩;refine⟨_,Z,p,8,Z,bg,ay,ay,λn H1 n0 n1 b1=>?_⟩;refine⟨_,_,Z,Z,_,Z,bC,bC,λD H2 nD=>?_⟩;refine Jt (K:=K) (J:=nj 0 (1+n).toNat) (p:=p) (H:=H1) (1+n).toNat _ nD b1.bO bC (λi=>.int (0+(i:Int))) (λi H3 hi _=>⟨hi,λy H4 ⟨e,q⟩=>⟨e,q⟩⟩) (λH3 _=>bI _) (λ_ d=>∃z:Str,d= .str z/\z.length=1/\cU z/\z.cps.toList.all (λc=>decide (97<=c)&&decide (c<=122))=true) ?_ ?_
  ·intro i H3 Q' hi b3 hq
   refine⟨_,Z,p,26,Z,b3.bO,ay,ay,λd H4 d0 d1 b4=>?_⟩;have hd:d.toNat<iL.cps.toList.length:=by rw[aai];omega
   refine⟨iL,d,iL.cps.toList[d.toNat],Z,Z,aF,cE d0 (cy hd),?_⟩;have iZ:cU ⟨#[iL.cps.toList[d.toNat]]⟩:=λc hc=>by have jU:c=iL.cps.toList[d.toNat]:=cW.mp hc;rw[jU];exact aag _ (vU hd)
   have fW:(⟨#[iL.cps.toList[d.toNat]]⟩:Str).cps.toList.all (λc=>decide (97<=c)&&decide (c<=122))=true:=by have:=fU.mp (show iL.cps.toList.all (λc=>decide (97<=c)&&decide (c<=122))=true by decide+kernel) _ (vU hd);show([iL.cps.toList[d.toNat]]:List Nat).all _=true;rw[vX,Kx,zf];exact this
   exact hq _ _ _ ⟨_,Z,Z,iZ,fW⟩ Z (bu _) b4
  ·intro H3 ys ds b3 d3 r3 l3 nl pd
   obtain⟨zs,rfl,hz⟩:=Lm ds λd hd=>by obtain⟨i,hi⟩:=p9.mp hd;exact pd i d hi
   rw[jK r3]at d3;rw[bM]at l3;refine⟨"",D,zs,Z,Z,aI.of d3,λz kC=>by rw[(hz z kC).1];decide,ay,bC,?_⟩;exact k _ _ (ZN (cU.join (iY aF) λa ha=>(hz a ha).2.1)) (a2p bC bC λz kC=>⟨(hz z kC).1,(hz z kC).2.2⟩) (b1.trans b3)
inductive abA(K:aa)(vs:List V)(H:Hp)(Q:VK):Prop |mk (p:Addr)(ax:Nat)(h0:vs=[.ref p,.int ax])(h1:fu H p)(h2:1<=ax)(h3:ax<=3)(h4:∀v d o H',RD K H' v d->iO ax d o->bP p H H'->Q v H')
def LY(K:aa):Sp:=λvs H Q _=>abA K vs H Q
theorem iO.gL{n:Nat}{d:ah}(h:vA d):iO n d none:=⟨h.it,(λ_ _ z=>nomatch z),λ_=>h⟩
abbrev EM:Stmt:=top 113
theorem Ng:aW ["_law_bag_here","_law_axes","_law_sort","_law_speed","_law_most","_law_steps"] ["_law_bag_here","_law_axes"] (aM EM):=bh aF
theorem a0S(F:FA K mg "_law_item" EM)(B:bB mg)(dM:aA P w K mg ao "_law_take" 1 m9)(a6o:aA P w K mg ao "_law_name" 2 (LU K)):aA P w K mg ao "_law_item" 3 (LY K):=by
 refine F.has Ng (λvs H Q E h=>?_) (λ_ _ _ _ _ _=>dN λ_ _=>rfl) (λf aH A outer s H vs Q E hr h=>?_)
 ·obtain⟨p,ax,rfl,_⟩:=h
  rfl
 ·obtain⟨p,ax,rfl,bg,ax1,ax2,k⟩:=h
  have nd:=Ng.nd;refine⟨_,(aB (pS 2 nd (pf dM hr (ak (pv 0) (ak aE aw)))) (aB (bJ (bX (dF K Z hr.units) (pv 2) aE (bL _)) (aJ (aP (gJ (ak bo (ak (aQ dI aE (pf dM hr (ak (pv 0) (ak aE aw)))) aw))))) bK) (aB (bJ (bX (dF K Z hr.units) (pv 2) aE (bL _)) (aJ (aP (gJ (ak bo (ak (px K (da (ak bo (ak bo aw))) (pf dM hr (ak (pv 0) (ak aE aw)))) aw))))) bK) (aB (bJ (bX (dF K Z hr.units) (pv 2) aE (bL _)) (aJ (aP (gJ (ak bo (ak (pf a6o hr (ak (pv 0) aw)) aw))))) bK) (aB (pS 3 nd (aQ dI aE (pf dM hr (ak (pv 0) (ak aE aw))))) (aB (pS 4 nd (px K (da (ak aE (ak aE (ak aE aw)))) (pf dM hr (ak (pv 0) (ak aE aw))))) (aB (Ai (i0:=5) nd Z (Or.inl Z) (N:=["_law_axis","_law_most","_law_bag_here"]) (js:=[none,some 4,some 0]) Z Z Z (pJ Z (B.at "range") (ak (pv 1) aw)) (λ_ _ _ _ _=>(bj 0 (show List.Nodup (["_law_axis","_law_most","_law_bag_here"]:List Str) by decide+kernel))) (λ_ _ _ _ _=>dS) (λ_ _ _ _ _=>(aQ jr (pf dM hr (ak (pv 2) (ak (aQ dI (aQ cD aE (pv 1)) aE) aw))) (pv 1)))) (aB (iX (bJ (dB (cH (dg (x:="any") (Ud K Z Z) Z (B.at "any") V2 (ak (pv 5) aw)))) (aJ (eM aE (rP (pv 5) (pf dM hr (ak (pv 0) (ak (pv 1) aw))) set_list))) bK)) (aJ (aP (gJ (ak bo (ak (cS (x:="tuple") (kl K Z) Z (B.at "tuple") iU (ak (pv 5) aw)) (ak (pv 3) aw)))))))))))))),?_⟩;refine⟨_,Z,p,6,Z,bg,ay,ay,λso H1 s0 s1 b1=>?_⟩;refine⟨_,Z,.inl ⟨_,_,Z,Z,_,Z,?_⟩⟩;refine eP (λhc=>?_) (λhc=>?_)
  ·refine⟨_,Z,p,1000,Z,b1.bO,ay,ay,λn H2 n0 n1 b2=>?_⟩
   refine⟨_,_,Z,Z,ck Z,λt H3 n3=>?_⟩;exact k (.ref t) _ none H3 (fR (aY.of n3.at') (cF (bu _) (cF (fE _) dy))) (.gL (.inl ⟨_,Z,bC,bC⟩)) (b1.trans (b2.trans (.eg b2.bO n3.same)))
  refine⟨_,Z,.inl ⟨_,_,Z,Z,_,Z,?_⟩⟩;refine eP (λhc=>?_) (λhc=>?_)
  ·refine⟨ck Z,λc H2 n2=>?_⟩
   have b2:bP p H1 H2:=.eg b1.bO n2.same;have cp:c≠p:=λz=>b1.bO.ne (z▸n2.no);refine⟨_,Z,p,2,Z,b2.bO,ay,ay,λi H3 i0 i1 b3=>?_⟩;have hi:∃z:Str,fb ([.str "up",.str "down"]:List V) i=some (.str z)/\dh 0 (.str z)/\Gh "tool" z:=by
    rcases(show i=0\/i=1 by omega)with rfl|rfl
    ·exact⟨"up",Z,⟨aF,aF⟩,.inl ⟨Z,.inl Z⟩⟩
    ·exact⟨"down",Z,⟨aF,aF⟩,.inl ⟨Z,.inr Z⟩⟩
   obtain⟨z,ez,Gk,ZI⟩:=hi;refine .inl ⟨c,_,_,_,Z,Z,aI.of (b3.same _ _ cp n2.at'),ez,ck Z,λt H4 n4=>?_⟩;exact k (.ref t) _ none H4 (fR (aY.of n4.at') (cF (bu _) (cF (bu _) dy))) (.gL (.inr ⟨_,_,Z,.inl Z,Gk,ZI⟩)) (b1.trans (b2.trans (b3.trans (.eg b3.bO n4.same))))
  refine⟨_,Z,.inl ⟨_,_,Z,Z,_,Z,?_⟩⟩;refine eP (λhc=>?_) (λhc=>?_)
  ·refine⟨_,Z,p,Z,b1.bO,λz H2 Gk nz b2=>⟨ck Z,λt H3 n3=>?_⟩⟩
   exact k (.ref t) _ none H3 (fR (aY.of n3.at') (cF (bu _) (cF (bu _) dy))) (.gL (.inr ⟨_,_,Z,.inr Z,Gk,.inr ⟨Z,nz⟩⟩)) (b1.trans (b2.trans (.eg b2.bO n3.same)))
  refine⟨_,Z,p,20,Z,b1.bO,ay,ay,λsp H2 p0 p1 b2=>?_⟩;refine⟨_,_,Z,Z,?_⟩;refine⟨ck Z,λc H3 n3=>?_⟩;have b3:bP p H2 H3:=.eg b2.bO n3.same;have cp:c≠p:=λz=>b2.bO.ne (z▸n3.no);refine⟨_,Z,p,3,Z,b3.bO,ay,ay,λi H4 i0 i1 b4=>?_⟩;have hm:∃m:Int,fb ([.int 3,.int 20,.int 100]:List V) i=some (.int m)/\1<=m/\m<=100:=by
   rcases(show i=0\/i=1\/i=2 by omega)with rfl|rfl|rfl
   ·exact⟨3,Z,ay,ay⟩
   ·exact⟨20,Z,ay,ay⟩
   ·exact⟨100,Z,ay,ay⟩
  obtain⟨m,em,m1,m2⟩:=hm;refine .inl ⟨c,_,_,_,Z,Z,aI.of (b4.same _ _ cp n3.at'),em,?_⟩;have tm:=b1.trans (b2.trans (b3.trans b4));refine⟨_,Z,_,Z,bC,bC,λD H5 nD=>?_⟩;refine Ju (J:=nj 0 ax) (p:=p) (H:=H4) ax _ nD tm.bO bC (λi=>.int (0+(i:Int))) (λi H3 hi _=>⟨hi,λy H4 ⟨e,q⟩=>⟨e,q⟩⟩) (λH3 _=>bI _) (λz=>(z.natAbs:Int)<=m) ?_ ?_
  ·intro i H6 Q' hi b6 hq
   refine⟨_,Z,_,Z,_,_,Z,Z,.of_left (dv ay ay),_,_,Z,Z,p,2*m+1,Z,b6.bO,bC,bC,λd H7 d0 d1 b7=>?_⟩;exact⟨_,Z,_,_,Z,Z,hq _ _ bC b7⟩
  intro H6 is b6 d6 l6 U7;have JH:=tm.trans b6;have lp:D≠p:=λz=>tm.bO.ne (z▸nD.no);have nl:H D=none:=by cases e:H D with |none=>rfl |some o=>have:=tm.same _ _ lp e;rw[nD.no]at this;cases this
  refine⟨λO H7=>bP p H H7/\∃(is:List Int),H7 D=some (.lst (is.map V.int))/\eQ ax 100 is/\O=[some (.ref p),some (.int ax),some (.int so),some (.int (1+sp)),some (.int m),some (.ref D)],?_,?_⟩
  ·refine⟨_,Z,D,is,Z,.inl (aI.of d6),_,Z,?_⟩
   cases ha:is.any (· !=0)with |false=>
    refine bG ?_;refine⟨_,Z,_,Z,_,Z,p,(ax:Int),Z,JH.bO,bC,bC,λix H7 i0 i1 b7=>?_⟩;have d7:=b7.same _ _ lp d6;refine⟨D,_,ix,ix.toNat,Z,Z,d7,?_,?_⟩
    ·unfold ir;rw[bc i0,bc (by rw[bM,l6];exact i1)]
    refine⟨?_,is.set ix.toNat 1,?_,⟨?_,?_,?_⟩,Z⟩
    ·have Ua:=JH.trans b7
     refine⟨?_,λb o n e=>?_⟩
     ·obtain⟨c',m',e,ok⟩:=Ua.bO
      exact⟨c',m',by rw[aU lp.symm];exact e,ok⟩
     ·rw[aU (fY e nl)];exact Ua.same b o n e
    ·rw[bW,Co]
    ·rw[vT];exact l6
    ·intro z hz
     rcases List.mem_or_eq_of_mem_set hz with h|h
     ·have:=U7 z h;omega
     ·rw[h];decide
    ·exact⟨1,V7.mpr ⟨ix.toNat,by rw[vT];omega,by rw[Vc]⟩,ay⟩ |true=>refine aV ?_;refine⟨JH,is,d6,⟨l6,λz hz=>by have:=U7 z hz;omega,?_⟩,Z⟩;obtain⟨z,hz,h0⟩:=Vh.mp ha;exact⟨z,hz,by simpa using h0⟩
  rintro O H7 ⟨b7,is,d7,ok,rfl⟩;refine⟨_,Z,D,_,Z,.inl ⟨aI.of d7,λq H8 n8=>?_⟩⟩;refine⟨_,Z,ck Z,λt H9 n9=>?_⟩;refine k (.ref t) (eO is (1+sp)) (some (is,1+sp)) H9 (fR (aY.of n9.at') (cF (bu _) (cF (fR (aY.of (n9.same _ _ n8.at')) (wR is)) (cF (fE _) dy)))) ⟨.inl ⟨is,_,Z,Z⟩,λns sp e=>by cases e;exact⟨ok,bC,bC⟩,λz=>nomatch z⟩ (b7.trans (.eg b7.bO (n8.same.trans n9.same)))
end
end _b
set_option maxHeartbeats 2000000
namespace _b
open PySem PySem.Spec PyProof.Rows _L _l _W
open _T (numS numIn? figs isFig Free)
open _O (Itm)
section
variable {P:af}{w:World}{K:aa}{mg:bD}{ao:Heap}
theorem AW(sep a:Str)(as:List Str)(h:as≠[]):Txt.join sep (a::as)=a++sep++Txt.join sep as:=by show Builtin.Str.glued sep (a::as)=a++sep++Builtin.Str.glued sep as;rw[qH,qH];cases as with |nil=>exact(h Z).elim |cons b r=>rfl
theorem join_snoc(sep b:Str):∀(as:List Str),as≠[]->Txt.join sep (as++[b])=Txt.join sep as++sep++b |[],h=>(h Z).elim |[a],_=>rfl |a::c::r,_=>by have e:=join_snoc sep b (c::r) (by simp);rw[List.cons_append,AW sep a (c::r++[b]) (by simp),e,AW sep a (c::r) (by simp)];simp only[PySem.Str.append_assoc]
theorem Hc(ns:List Int)(sp:Int)(h:ns≠[]):dU (eO ns sp)=Txt.join ⟨#[32]⟩ ("line"::(ns.map numS++[numS sp])):=by
 have hn:ns.map numS≠[]:=by simpa using h
 rw[AY,<-pE,AW _ _ _ (by simp),join_snoc _ _ _ hn];have e:("line ":Str)="line"++" ":=by decide+kernel
 rw[e];unfold gO;simp only[PySem.Str.append_assoc]
theorem Bx{c:Nat}{a b:Str}(ha:Free c a)(hb:Free c b):Free c (a++b):=λh=>by rw[qI,nO,ki]at h;exact h.elim ha hb
theorem Sg{c:Nat}{sep:Str}(hs:Free c sep):∀l:List Str,(∀a∈l,Free c a)->Free c (Txt.join sep l) |[],_=>λh=>by have e:(Txt.join sep []).cps.toList=[]:=rfl;rw[e]at h;cases h |[x],h=>h x (.head _) |x::y::r,h=>by rw[AW _ _ _ (by simp)];exact Bx (Bx (h x (.head _)) hs) (Sg hs (y::r) λa ha=>h a (.tail _ ha))
theorem pN(i:Int):cU (numS i):=λc hc=>by cases i with |ofNat m=>rw[show(numS (Int.ofNat m)).cps.toList=_ from _T.oT m]at hc;have:=_T.mY m c hc;omega |negSucc m=>
 rw[_T.yw]at hc;rcases cg.mp hc with e|hc
 ·omega
 ·have:=_T.mY (m+1) c hc
  omega
structure p5(n:Nat)(d:ah):Prop where
 rt:sA n (dU d)=d
 len:(dU d).length<=400
 ok:tF (dU d)
 fr:Free 10 (dU d)
 ti:TI d
 uD:dh 8 d
theorem j8{c:Nat}{z:Str}(h:(z.cps.toList.all λx=>x !=c)=true):Free c z:=λhc=>by have:=fU.mp h c hc;simp at this
theorem a2q{c:Nat}{z:Str}(h:oh z=true)(hc:c<97):Free c z:=λh'=>by unfold oh at h;rw[eK]at h;have:=fU.mp h.2 c h';unfold AO at this;simp at this;omega
theorem Pf{c:Nat}{w s:Str}(h:Gh w s)(hc:c=10\/c=32):Free c s:=by
 rcases h with⟨_,rfl|rfl⟩|⟨_,hn⟩
 ·rcases hc with rfl|rfl<;>exact j8 aF
 ·rcases hc with rfl|rfl<;>exact j8 aF
 ·exact a2q hn bC
theorem GL{i:Int}(h:i.natAbs<10^40):nI (numS i)= .int i:=by unfold nI;have:(numS i).length<=41:=KW h;rw[_T.Gw bC];rfl
theorem a2r{ns:List Int}(h:∀z∈ns,z.natAbs<10^40):(ns.map numS).map nI=ns.map PyData.int:=by rw[Kr];exact List.map_congr_left λz hz=>GL (h z hz)
theorem QJ{n:Nat}{d:ah}{ws:List Str}(e:dU d=Txt.join ⟨#[32]⟩ ws)(hn:ws≠[])(hf:∀z∈ws,Free 32 z)(ht:fV ws=d)(hi:lA n d=true):sA n (dU d)=d:=by unfold sA;rw[e,pE,_T.LA hn hf,ht,hi];rfl
theorem iO.tx{n:Nat}{d:ah}{o:Itm}(h:iO n d o)(n1:1<=n)(n3:n<=3):p5 n d:=by have hi:=h.is.1;have dZ:cU (" ":Str):=iY aF;have Sb:Free 10 (" ":Str):=j8 aF;cases o with
 |some q=>
  obtain⟨ns,sp⟩:=q;have ed:=mK h.it;subst ed;obtain⟨du,s1,s2⟩:=h.ln ns sp rfl;have hb:∀z∈ns,z.natAbs<10^40:=λz hz=>by have:=du.bd z hz;omega
  have hs:sp.natAbs<10^40:=by omega
  have cI:ns≠[]:=λe=>by rw[e]at du;have:=du.len;simp at this;omega
  have ti:TI (eO ns sp):=.inl ⟨ns,sp,Z,by rw[du.len];exact n3,hb,hs⟩;refine⟨QJ (Hc ns sp cI) (by simp) (λz hz=>?_) ?_ hi,uQ ti,?_,?_,ti,h.is.2.1⟩
  ·rcases cg.mp hz with rfl|hz
   ·exact j8 aF
   ·rcases ki.mp hz with hz|hz
    ·obtain⟨i,_,rfl⟩:=cY.mp hz
     exact _T.rX ay ay
    ·rw[cW.mp hz];exact _T.rX ay ay
  ·obtain⟨x,xs,rfl⟩:∃x xs,ns=x::xs:=by cases ns with|nil=>exact(cI rfl).elim|cons x xs=>exact⟨x,xs,rfl⟩
   have e1:(x::xs).map numS++[numS sp]=numS x::(xs.map numS++[numS sp]):=rfl;have e2:(numS x::(xs.map numS++[numS sp])).map nI=(x::xs).map PyData.int++[.int sp]:=by rw[<-e1,jG,a2r hb];show _++[nI (numS sp)]=_;rw[GL hs]
   rw[e1,CM,e2,fe,bM,Cp,List.take_left' (by simp),Va,List.getLast?_append,List.getLast?_singleton];rfl
  ·rw[Hc ns sp cI,<-pE]
   refine cU.join dZ λa ha=>?_;rcases cg.mp ha with rfl|ha
   ·exact iY aF
   ·rcases ki.mp ha with ha|ha
    ·obtain⟨i,_,rfl⟩:=cY.mp ha
     exact pN i
    ·rw[cW.mp ha];exact pN sp
  ·rw[Hc ns sp cI,<-pE]
   refine Sg Sb _ λa ha=>?_;rcases cg.mp ha with rfl|ha
   ·exact j8 aF
   ·rcases ki.mp ha with ha|ha
    ·obtain⟨i,_,rfl⟩:=cY.mp ha
     exact _T.rX ay ay
    ·rw[cW.mp ha];exact _T.rX ay ay |none=>
  have key:∀(w y:Str)(u:ah),d= .tuple [.str w,u]->dU d=w++" "++y->w≠"line"->(if w="wait" then nI y else .str y)=u->Free 32 w->Free 32 y->Free 10 w->Free 10 y->cU w->cU y->TI d->p5 n d:=λw y u e1 e2 hw hu f1 f2 f3 f4 o1 o2 ti=>by
   have ej:dU d=Txt.join ⟨#[32]⟩ [w,y]:=by rw[e2,<-pE];rfl
   refine⟨QJ ej (by simp) (λz hz=>?_) ?_ hi,uQ ti,?_,?_,ti,h.is.2.1⟩
   ·simp only[cg,eT,iT]at hz
    rcases hz with rfl|rfl
    ·exact f1
    ·exact f2
   ·rw[zC hw,hu,e1]
   ·rw[e2];exact(o1.app dZ).app o2
   ·rw[e2];exact Bx (Bx f3 Sb) f4
  rcases h.ot rfl with⟨z,rfl,z1,z2⟩|⟨w,s,rfl,hw,rS,on⟩
  ·have hb:z.natAbs<10^40:=by omega
   exact key "wait" (numS z) (.int z) Z Z aF (by rw[bc Z,GL hb]) (j8 aF) (_T.rX ay ay) (j8 aF) (_T.rX ay ay) (iY aF) (pN z) (.inr (.inl ⟨_,_,Z,.inl Z,hb⟩))
  ·have hl:s.length<=100:=by
    rcases on with⟨_,rfl|rfl⟩|⟨_,hn⟩
    ·decide+kernel
    ·decide+kernel
    ·unfold oh at hn
     simp only[eK,Cc]at hn;omega
   have cI:w≠"line"/\w≠"wait"/\Free 32 w/\Free 10 w/\cU w:=by
    rcases hw with rfl|rfl
    ·exact⟨aF,aF,j8 aF,j8 aF,iY aF⟩
    ·exact⟨aF,aF,j8 aF,j8 aF,iY aF⟩
   exact key w s (.str s) Z Z cI.1 (by rw[bf cI.2.1]) cI.2.2.1 (Pf on (.inr Z)) cI.2.2.2.1 (Pf on (.inl Z)) cI.2.2.2.2 (Pp rS) (.inr (.inr ⟨_,_,Z,hw,hl⟩))
theorem p5.no{n:Nat}{d:ah}(h:p5 n d):ek d=true:=by
 rcases h.ti with⟨ns,sp,rfl,_⟩|⟨w,i,rfl,_⟩|⟨w,z,rfl,_⟩
 ·exact Qs _ _
 ·rfl
 ·rfl
theorem p5.ne{n:Nat}{d:ah}(h:p5 n d):d≠ .none:=by rcases h.ti with⟨ns,sp,rfl,_⟩|⟨w,i,rfl,_⟩|⟨w,z,rfl,_⟩<;>exact λz=>nomatch z
open _r _C _P _R
open _O (topR cornO mnO betR atO ownF leadF ownL OkI OkIs)
open _T (numS)
theorem cA.item{M:bE}{D:Nat}{S:ba}(ok:cA M D S){i:Nat}{d:ah}(ed:S.ds[i]? =some d):∃o,S.os[i]? =some o/\iO M.rs.length d o:=by obtain⟨o,eo,it⟩:=ok.row.get ed;exact⟨o,eo,it,λns sp e=>ok.row.ok i ns sp (by rw[eo,e]),λe=>ok.rw i d (by rw[eo,e]) ed⟩
theorem bE.Ok.n3{M:bE}(aG:M.Ok):1<=M.rs.length/\M.rs.length<=3:=by
 have:=aG.len
 lia
theorem cA.tx{M:bE}{D:Nat}{S:ba}(ok:cA M D S)(aG:M.Ok):∀d∈S.ds,p5 M.rs.length d:=λd hd=>by obtain⟨i,hi⟩:=p9.mp hd;obtain⟨o,_,h⟩:=ok.item hi;exact h.tx aG.n3.1 aG.n3.2
structure lT(S:ba):Prop where
 s1:S.side.length<=100
 m1:S.mark.length<=100
 s2:cU S.side
 m2:cU S.mark
theorem lT.eq{S S':ba}(h:lT S)(a:S'.side=S.side)(b:S'.mark=S.mark):lT S':=⟨by rw[a];exact h.s1,by rw[b];exact h.m1,by rw[a];exact h.s2,by rw[b];exact h.m2⟩
theorem P9:2^1700<10^540:=by decide+kernel
theorem vp{q:Rat}(h:Bd 1700 q):iM q.num/\iM q.den:=⟨p8 h.num P9,p8 (show(q.den:Int).natAbs<2^1700 from h.den) P9⟩
theorem PQ{z q k:Int}(hq:0<q)(hk:0<=k)(oB:k<=q):(fX (k*z) q).natAbs<=z.natAbs:=by
 by_cases hz:0<=z
 ·have:=AH hq hk oB hz
  omega
 ·have h:=AH (z:=-z) hq hk oB bC
  rw[show k*-z=-(k*z) by rw[Int.mul_neg],PN hq]at h;omega
theorem Wf{ti:Int}{q:Rat}(h1:1<=ti)(h2:ti<=100)(hq:0<q.num)(hd:q.den<2^1600):iM (wk ti q):=by
 unfold wk;split
 ·next hx=>
  obtain⟨a,b,c⟩:=hx.choose_spec;generalize hx.choose=T at a b c;have hm:ti*ti<=10000:=by
   have:=zc h2 h2 au ay
   lia
  have xM:ti*ti*(q.den:Int)<=10000*(q.den:Int):=Ct hm au;have cn:T-1<ti*ti*(q.den:Int):=Int.not_le.mp λh=>by rw[SG hq au h]at c;cases c
  have hp:10001*2^1600<10^540:=by decide+kernel
  show T.natAbs<10^540;generalize(10:Nat)^540=X at hp⊢;generalize(2:Nat)^1600=Y at hp hd
  lia
 ·show(0:Int).natAbs<10^540
  decide+kernel
theorem One.zD{M:bE}{D:Nat}{S S1:ba}{e:ah}(h:cA M D S)(aG:M.Ok)(hD:D<=1000)(o:One M S e S1):BX e:=by cases o with
 |@line ns sp eo nh=>
  obtain⟨du,s1,s2⟩:=h.row.ok 0 ns sp eo;have hd:S.dn<aO ns:=by
   rcases h.dn with e|⟨Gx,Dw,e1,e2⟩
   ·rw[e];exact du.lead.1
   ·rw[eo]at e1;cases e1;exact e2
  have hn:S.os≠[]:=λe=>by rw[e]at eo;simp at eo
  obtain⟨R1,R2⟩:=FV h.raw aG hn;have D1:=h.D1;have uk:=aG.r1;have qj:=aG.f1;have mD:=Qc (r:=M.r) (f:=M.f) (left:=(aO ns:Int)-S.dn) au au au h.pd ((CJ S.az sp).mono au) (R1.mono au) h.aR nh;have mL:xt M S ns sp<=1600:=eH Qa (zy s1 s2 h.cL h.cV);have tp:0<topR S.az sp:=KZ s1 h.cL;have mP:0<xt M S ns sp:=Qb uk.1 qj.1 au h.pd.nn tp R1.nn h.aR nh;have bd:Bd 1700 (xt M S ns sp):=(mD.bd (eH mL aF)).mono au;obtain⟨b1,b2⟩:=vp bd;have Lh:=aG.t1;have n3:=aG.n3;refine .inr ⟨mh ns S.dn,_,_,_,Z,?_,λz hz=>?_,Wf Lh.1 Lh.2 (Pw mP) (fD mD.den (qJ ay au)),b1,b2⟩
  ·show(ns.map _).length<=3
   rw[bM,du.len];exact n3.2
  ·obtain⟨y,hy,rfl⟩:=cY.mp hz
   have hy2:=du.bd y hy;have c1:=PQ (z:=y) (q:=(aO ns:Int)) (k:=(S.dn:Int)+1) au au au;have c2:=PQ (z:=y) (q:=(aO ns:Int)) (k:=(S.dn:Int)) au au au;show Int.natAbs _<10^40
   lia |gL eo ed nh=>
  obtain⟨o,fq,it⟩:=h.item ed;rw[eo]at fq;cases fq;refine .inl ⟨(it.tx aG.n3.1 aG.n3.2).ti,λns sp e=>?_⟩;rcases it.it with⟨_,_,_,z⟩|⟨w,x,e2,hw,_⟩
  ·cases z
  ·rw[e2]at e
   exact CK (show oZ w from hw) ⟨ns,sp,e⟩
theorem Run.zD{M:bE}{D:Nat}{S S1:ba}{es:List ah}(h:cA M D S)(aG:M.Ok)(hD:D<=1000)(r:Run M S es S1):∀e∈es,BX e:=by induction r with |nil=>exact λe he=>nomatch he |cons o _ ih=>
 intro e he;rcases cg.mp he with rfl|he
 ·exact o.zD h aG hD
 ·exact ih (o.ok h aG) e he
theorem SE(S:ba):(mX S).side=S.side/\(mX S).mark=S.mark:=by unfold mX;split<;>exact⟨Z,Z⟩
theorem One.sd{M:bE}{D:Nat}{S S1:ba}{e:ah}(h:cA M D S)(aG:M.Ok)(o:One M S e S1)(hs:lT S):lT S1:=by cases o with
 |@line ns sp eo nh=>
  have h1:lT (mH M S ns sp):=hs.eq Z rfl;unfold iE;split
  ·obtain⟨a,b⟩:=SE (mH M S ns sp)
   exact h1.eq a b
  ·exact h1 |gL eo ed nh=>
  have tx:=h.tx aG e (fc ed);obtain⟨a,b⟩:=SE (eL e S);refine lT.eq ?_ a b;rcases tx.ti with⟨ns,sp,rfl,_⟩|⟨w,i,rfl,_⟩|⟨w,y,rfl,_,hy⟩
  ·exact hs
  ·exact hs
  ·have oy:cU y:=λc hc=>tx.ok c (by rw[show dU (.tuple [.str w,.str y])=w++" "++y from Z,qI,nO,ki];exact .inr hc);show lT (eL (.tuple [.str w,.str y]) S);unfold eL;dsimp only;split
   ·exact⟨hy,hs.m1,oy,hs.m2⟩
   ·split
    ·exact⟨hs.s1,hy,hs.s2,oy⟩
    ·exact hs
theorem Run.sd{M:bE}{D:Nat}{S S1:ba}{es:List ah}(h:cA M D S)(aG:M.Ok)(r:Run M S es S1)(hs:lT S):lT S1:=by induction r with |nil=>exact hs |cons o _ ih=>exact ih (o.ok h aG) (o.sd h aG hs)
theorem ZJ{rs pl:List Int}(h:fQ rs pl)(hr:∀z∈rs,1<=z/\z<=100):∀n∈pl,0<=n/\n<=100:=λn hn=>by
 obtain⟨i,hi⟩:=p9.mp hn;have hl:i<rs.length:=by rw[<-h.len];exact(dw.mp hi).1
 have e:=cy hl;have:=h.at' i n _ hi e;have:=hr _ (vU hl)
 lia
structure RG(M:bE)(D:Nat)(S:ba):Prop where
 ok:cA M D S
 aG:M.Ok
 sd:lT S
 on:fk M S
 hD:D<=1000
theorem RG.place{M:bE}{D:Nat}{S:ba}(g:RG M D S):∀n∈gI S,Nm n:=λn hn=>by
 have:=ZJ (g.on.place g.ok) g.aG.rl n hn;show n.natAbs<10^40
 lia
theorem RG.pc{M:bE}{D:Nat}{S:ba}(g:RG M D S):iM S.pc.num/\iM S.pc.den:=by have:=g.hD;exact vp ((g.ok.pd.bd (eH g.ok.pm aF)).mono au)
theorem RG.zJ{M:bE}{D:Nat}{S:ba}(g:RG M D S):Nm (gr M.f S.pc):=by
 obtain⟨z1,_,_,z4⟩:=Lp g.aG.f1.1 g.ok.pd.nn;have:=z4 g.ok.pm;show Int.natAbs _<10^40
 lia
theorem RG.len{M:bE}{D:Nat}{S:ba}(g:RG M D S):Nm (S.ds.length:Int):=by have:=g.ok.len;show Int.natAbs _<10^40;omega
def jP(z:Str):Str:=if z="" then "none" else z
def Ah (q:Rat):Str:=hU q.num q.den
def YU(r f j az:Int)(os:List Itm):Str:=Txt.join " " ((kS r f j az os).map Ah)
def qX(S:ba):Str:=match S.aR.isSome,decide (S.pc=0)with |true,true=>"held stands" |true,false=>"held goes" |false,true=>"free stands" |false,false=>"free goes"
inductive Wd |place |square |stop |vY |rM |qU |mark |state |hold |go |drop
def Wd.txt:Wd->Str | .place=>"place" | .square=>"square" | .stop=>"stop" | .vY=>"waits" | .rM=>"plan" | .qU=>"tool" | .mark=>"mark" | .state=>"state" | .hold=>"hold" | .go=>"go" | .drop=>"drop"
def JL(M:bE)(S:ba):Wd->Str | .place=>gO (gI S) | .square=>Ah S.pc | .stop=>numS (gr M.f S.pc) | .vY=>jP (Txt.join "\n" (S.ds.map dU)) | .rM=>YU M.r M.f M.j S.az S.os | .qU=>S.side | .mark=>jP S.mark | .state=>qX S |_=>""
def Wd.Ok(K:aa)(C cM:Addr)(a q:Addr)(M:bE)(S:ba)(H:Hp)(Q:VK)(E:XK):Wd->Prop | .hold=>∀H',bU K C H' a q M (jS M S)->cB [a] H H'->Q (.str (numS (gr M.f S.pc))) H' | .go=>∀H',bU K C H' a q M {S with aR:=none}->cB [a] H H'->Q (.str (numS (S.ds.length:Nat))) H' | .drop=>(¬Halt S.pc S.aR->∀H',aD H H'->E (.ref cM) none H')/\(Halt S.pc S.aR->∀q' H',bU K C H' a q' M (t7 S)->H q'=none->cB [a] H H'->Q (.str (numS (S.ds.length:Nat))) H') |w=>∀H',aD H H'->Q (.str (JL M S w)) H'
inductive aaG(K:aa)(C:Addr)(cM:Addr)(w:Wd)(vs:List V)(H:Hp)(Q:VK)(E:XK):Prop |mk (a:_)(q:_)(M:_)(D:_)(S:_)(h0:vs=[.ref a])(h1:bU K C H a q M S)(h2:RG M D S)(h3:w.Ok K C cM a q M S H Q E)
def jL(K:aa)(C cM:Addr)(w:Wd):Sp:=λvs H Q E=>aaG K C cM w vs H Q E
abbrev Fz:Stmt:=top 93
theorem NZ:aW ["runner"] ["runner"] (aM Fz):=bh aF
theorem a1D{C cM:Addr}(F:FA K mg "answer_hold" Fz)(B:bB mg)(fS:aA P w K mg ao "show_number" 1 kn)(TC:cX K C)(Iy:bQ P w K mg ao C "hold" 2 (D9 K C)):aA P w K mg ao "answer_hold" 3 (jL K C cM .hold):=by
 refine F.has NZ (λvs H Q E h=>?_) (λ_ _ _ _ _ _=>cu λ_=>rfl) (λf aH A outer s H vs Q E hr h=>?_)
 ·obtain⟨a,q,M,D,S,rfl,_⟩:=h
  rfl
 ·obtain⟨a,q,M,D,S,rfl,R,g,k⟩:=h
  obtain⟨dx,mv,bv,bS,tv,e,r1,r2,r3,r4⟩:=R.ob;have nd:=NZ.nd;refine⟨_,(aJ (aP (pf fS hr (ak (cZ Iy TC.cl (hr.mono ay) (pv 0)) aw)))),?_⟩;exact⟨_,Z,a,dx,_,Z,e,Z,a,q,M,D,S,Z,R,g.ok,g.aG,λH' R' b'=>⟨_,Z,Nm.l g.zJ,λH2 s2=>k H2 (R'.same (by unfold jS;split<;>exact g.ok.row.no) s2) (b'.trans (.of s2))⟩⟩
abbrev FC:Stmt:=top 94
theorem O0:aW ["runner"] ["runner"] (aM FC):=bh aF
theorem a1E{C cM:Addr}(F:FA K mg "answer_go" FC)(B:bB mg)(fS:aA P w K mg ao "show_number" 1 kn)(TC:cX K C)(Iz:bQ P w K mg ao C "go" 1 (De K C)):aA P w K mg ao "answer_go" 2 (jL K C cM .go):=by
 refine F.has O0 (λvs H Q E h=>?_) (λ_ _ _ _ _ _=>cu λ_=>rfl) (λf aH A outer s H vs Q E hr h=>?_)
 ·obtain⟨a,q,M,D,S,rfl,_⟩:=h
  rfl
 ·obtain⟨a,q,M,D,S,rfl,R,g,k⟩:=h
  obtain⟨dx,mv,bv,bS,tv,e,r1,r2,r3,r4⟩:=R.ob;have nd:=O0.nd;refine⟨_,(aJ (aP (pf fS hr (ak (cZ Iz TC.cl (hr.mono ay) (pv 0)) aw)))),?_⟩;exact⟨_,Z,a,dx,_,Z,e,Z,a,q,M,D,S,Z,R,g.ok,λH' R' b'=>⟨_,Z,Nm.l g.len,λH2 s2=>k H2 (R'.same g.ok.row.no s2) (b'.trans (.of s2))⟩⟩
abbrev ud:Stmt:=top 95
theorem O1:aW ["runner"] ["runner"] (aM ud):=bh aF
theorem a1F{C cM:Addr}(F:FA K mg "answer_drop" ud)(B:bB mg)(fS:aA P w K mg ao "show_number" 1 kn)(TC:cX K C)(ID:jd P w K mg ao C "drop" 5 (Di K C cM)):qG P w K mg ao "answer_drop" 6 (jL K C cM .drop):=by
 refine F.uX O1 (λvs H Q E h=>?_) (λ_ _ _ _ _ _=>cu λ_=>rfl) (λf aH A outer s H vs Q E hr h=>?_)
 ·obtain⟨a,q,M,D,S,rfl,_⟩:=h
  rfl
 ·obtain⟨a,q,M,D,S,rfl,R,g,k⟩:=h
  obtain⟨dx,mv,bv,bS,tv,e,r1,r2,r3,r4⟩:=R.ob;have nd:=O1.nd;refine⟨_,(aJ (aP (pf fS hr (ak (P0 ID (As λ_ _ _ z=>z) TC.cl (hr.mono ay) (pv 0)) aw)))),?_⟩;exact⟨_,Z,a,dx,_,Z,e,Z,a,q,M,D,S,Z,R,g.ok,g.aG,k.1,λhH q' H' R' nq b'=>⟨_,Z,Nm.l g.len,λH2 s2=>k.2 hH q' H2 (R'.same Z s2) nq (b'.trans (.of s2))⟩⟩
abbrev Fx:Stmt:=top 96
theorem NX:aW ["runner"] ["runner"] (aM Fx):=bh aF
theorem a1B{C cM:Addr}(F:FA K mg "answer_place" Fx)(B:bB mg)(TC:cX K C)(xC:aA P w K mg ao "show_numbers" 2 (zS K))(xW:bQ P w K mg ao C "place" 3 (cP K C λ_ S H Q=>∀v H',RD K H' v (fG (gI S))->aD H H'->Q v H')):aA P w K mg ao "answer_place" 4 (jL K C cM .place):=by
 refine F.has NX (λvs H Q E h=>?_) (λ_ _ _ _ _ _=>cu λ_=>rfl) (λf aH A outer s H vs Q E hr h=>?_)
 ·obtain⟨a,q,M,D,S,rfl,_⟩:=h
  rfl
 ·obtain⟨a,q,M,D,S,rfl,R,g,k⟩:=h
  obtain⟨dx,mv,bv,bS,tv,e,r1,r2,r3,r4⟩:=R.ob;have nd:=NX.nd;have lr:=g.aG.n3;have lp:=G9 g.ok;refine⟨_,(aJ (aP (pf xC hr (ak (cZ xW TC.cl (hr.mono ay) (pv 0)) aw)))),?_⟩;exact⟨_,Z,a,dx,_,Z,e,Z,a,q,M,D,S,Z,R,g.ok,g.aG,λv H1 rv s1=>⟨v,gI S,Z,rv,au,g.place,λH2 s2=>k _ (s1.trans s2)⟩⟩
abbrev Fv:Stmt:=top 97
theorem NV:aW ["runner"] ["runner"] (aM Fv):=bh aF
theorem a1z{C cM:Addr}(F:FA K mg "answer_square" Fv)(B:bB mg)(TC:cX K C)(xD:aA P w K mg ao "show_fraction" 2 (zY K))(Iu:bQ P w K mg ao C "square" 1 (cP K C (IP K))):aA P w K mg ao "answer_square" 3 (jL K C cM .square):=by
 refine F.has NV (λvs H Q E h=>?_) (λ_ _ _ _ _ _=>cu λ_=>rfl) (λf aH A outer s H vs Q E hr h=>?_)
 ·obtain⟨a,q,M,D,S,rfl,_⟩:=h
  rfl
 ·obtain⟨a,q,M,D,S,rfl,R,g,k⟩:=h
  obtain⟨dx,mv,bv,bS,tv,e,r1,r2,r3,r4⟩:=R.ob;have nd:=NV.nd;refine⟨_,(aJ (aP (pf xD hr (ak (cZ Iu TC.cl (hr.mono ay) (pv 0)) aw)))),?_⟩;exact⟨_,Z,a,dx,_,Z,e,Z,a,q,M,D,S,Z,R,g.ok,g.aG,λv rv=>⟨v,_,_,Z,rv.rd,g.pc.1,g.pc.2,λH2 s2=>k H2 s2⟩⟩
abbrev Fs:Stmt:=top 98
theorem NS:aW ["runner"] ["runner"] (aM Fs):=bh aF
theorem a1v{C cM:Addr}(F:FA K mg "answer_stop" Fs)(B:bB mg)(fS:aA P w K mg ao "show_number" 1 kn)(TC:cX K C)(xV:bQ P w K mg ao C "stops_in" 1 (cP K C λM S H Q=>Q (.int (gr M.f S.pc)) H)):aA P w K mg ao "answer_stop" 2 (jL K C cM .stop):=by
 refine F.has NS (λvs H Q E h=>?_) (λ_ _ _ _ _ _=>cu λ_=>rfl) (λf aH A outer s H vs Q E hr h=>?_)
 ·obtain⟨a,q,M,D,S,rfl,_⟩:=h
  rfl
 ·obtain⟨a,q,M,D,S,rfl,R,g,k⟩:=h
  obtain⟨dx,mv,bv,bS,tv,e,r1,r2,r3,r4⟩:=R.ob;have nd:=NS.nd;refine⟨_,(aJ (aP (pf fS hr (ak (cZ xV TC.cl (hr.mono ay) (pv 0)) aw)))),?_⟩;exact⟨_,Z,a,dx,_,Z,e,Z,a,q,M,D,S,Z,R,g.ok,g.aG,⟨_,Z,Nm.l g.zJ,λH2 s2=>k H2 s2⟩⟩
abbrev Fq:Stmt:=top 101
theorem NR:aW ["runner"] ["runner"] (aM Fq):=bh aF
theorem a1u{C cM:Addr}(F:FA K mg "answer_tool" Fq)(B:bB mg)(TC:cX K C)(Ir:bQ P w K mg ao C "tool" 1 (cP K C λ_ S H Q=>Q (.str S.side) H)):aA P w K mg ao "answer_tool" 2 (jL K C cM .qU):=by
 refine F.has NR (λvs H Q E h=>?_) (λ_ _ _ _ _ _=>cu λ_=>rfl) (λf aH A outer s H vs Q E hr h=>?_)
 ·obtain⟨a,q,M,D,S,rfl,_⟩:=h
  rfl
 ·obtain⟨a,q,M,D,S,rfl,R,g,k⟩:=h
  obtain⟨dx,mv,bv,bS,tv,e,r1,r2,r3,r4⟩:=R.ob;have nd:=NR.nd;refine⟨_,(aJ (aP (cZ Ir TC.cl (hr.mono ay) (pv 0)))),?_⟩;exact⟨_,Z,a,dx,_,Z,e,Z,a,q,M,D,S,Z,R,g.ok,g.aG,k H (aD.refl _)⟩
abbrev Fy:Stmt:=top 102
theorem NY:aW ["runner"] ["runner"] (aM Fy):=bh aF
theorem a1C{C cM:Addr}(F:FA K mg "answer_mark" Fy)(B:bB mg)(TC:cX K C)(xU:GV mg "NOTHING" (.str "none"))(Bs:bQ P w K mg ao C "last_mark" 1 (cP K C λ_ S H Q=>Q (.str S.mark) H)):aA P w K mg ao "answer_mark" 2 (jL K C cM .mark):=by
 refine F.has NY (λvs H Q E h=>?_) (λ_ _ _ _ _ _=>cu λ_=>rfl) (λf aH A outer s H vs Q E hr h=>?_)
 ·obtain⟨a,q,M,D,S,rfl,_⟩:=h
  rfl
 ·obtain⟨a,q,M,D,S,rfl,R,g,k⟩:=h
  obtain⟨dx,mv,bv,bS,tv,e,r1,r2,r3,r4⟩:=R.ob;have nd:=NY.nd;have sd:=g.sd.m1;refine⟨_,(aJ (aP (Gd (cZ Bs TC.cl (hr.mono ay) (pv 0)) (pK (cQ (x:="NOTHING") Z xU))))),?_⟩;have k2:Q (.str (jP S.mark)) H:=k H (aD.refl _);unfold jP at k2;refine⟨_,Z,a,dx,_,Z,e,Z,a,q,M,D,S,Z,R,g.ok,g.aG,?_⟩;refine⟨_,Z,au,?_⟩;split
  ·next e0=>rw[bc e0]at k2;exact k2
  ·next e0=>rw[bf e0]at k2;exact k2
abbrev Fm:Stmt:=top 103
theorem NP:aW ["runner","held"] ["runner"] (aM Fm):=bh aF
theorem a1s{C cM:Addr}(F:FA K mg "answer_state" Fm)(B:bB mg)(TC:cX K C)(oJ:bQ P w K mg ao C "is_held" 1 (cP K C λ_ S H Q=>Q (.bl S.aR.isSome) H))(sO:bQ P w K mg ao C "stands" 1 (cP K C λ_ S H Q=>Q (.bl (decide (S.pc=0))) H)):aA P w K mg ao "answer_state" 2 (jL K C cM .state):=by
 refine F.has NP (λvs H Q E h=>?_) (λ_ _ _ _ _ _=>cu λ_=>rfl) (λf aH A outer s H vs Q E hr h=>?_)
 ·obtain⟨a,q,M,D,S,rfl,_⟩:=h
  rfl
 ·obtain⟨a,q,M,D,S,rfl,R,g,k⟩:=h
  obtain⟨dx,mv,bv,bS,tv,e,r1,r2,r3,r4⟩:=R.ob;have nd:=NP.nd;have iJ:sizeLine=16777216:=by decide
  refine⟨_,(aB (pS 1 nd (gZ (cH (cZ oJ TC.cl (hr.mono ay) (pv 0))) bo bo)) (aJ (aP (gZ (cH (cZ sO TC.cl (hr.mono ay) (pv 0))) (pL (fg (iD (pv 1)) (fg bo pI))) (pL (fg (iD (pv 1)) (fg bo pI))))))),?_⟩;have k2:Q (.str (qX S)) H:=k H (aD.refl _);unfold qX at k2;refine⟨_,Z,a,dx,_,Z,e,Z,a,q,M,D,S,Z,R,g.ok,g.aG,_,Z,?_⟩;cases h1:S.aR.isSome with
  |false=>refine aV ?_;refine⟨_,Z,a,dx,_,Z,e,Z,a,q,M,D,S,Z,R,g.ok,g.aG,_,Z,?_⟩;cases h2:decide (S.pc=0)with |false=>rw[h1,h2]at k2;refine aV ⟨_,Z,.inr ⟨"free",Z,aF,_,Z,aF,?_⟩⟩;refine⟨_,Z,aF,aF,?_⟩;rw[show Str.empty++Str.ofString "free"++Str.ofString " goes"=Str.ofString "free goes" by decide+kernel];exact k2 |true=>rw[h1,h2]at k2;refine bG ⟨_,Z,.inr ⟨"free",Z,aF,_,Z,aF,?_⟩⟩;refine⟨_,Z,aF,aF,?_⟩;rw[show Str.empty++Str.ofString "free"++Str.ofString " stands"=Str.ofString "free stands" by decide+kernel];exact k2
  |true=>refine bG ?_;refine⟨_,Z,a,dx,_,Z,e,Z,a,q,M,D,S,Z,R,g.ok,g.aG,_,Z,?_⟩;cases h2:decide (S.pc=0)with |false=>rw[h1,h2]at k2;refine aV ⟨_,Z,.inr ⟨"held",Z,aF,_,Z,aF,?_⟩⟩;refine⟨_,Z,aF,aF,?_⟩;rw[show Str.empty++Str.ofString "held"++Str.ofString " goes"=Str.ofString "held goes" by decide+kernel];exact k2 |true=>rw[h1,h2]at k2;refine bG ⟨_,Z,.inr ⟨"held",Z,aF,_,Z,aF,?_⟩⟩;refine⟨_,Z,aF,aF,?_⟩;rw[show Str.empty++Str.ofString "held"++Str.ofString " stands"=Str.ofString "held stands" by decide+kernel];exact k2
abbrev Fp:Stmt:=top 99
theorem NQ:aW ["runner"] ["runner"] (aM Fp):=bh aF
theorem a1t{C cM:Addr}(F:FA K mg "answer_waits" Fp)(B:bB mg)(TC:cX K C)(xU:GV mg "NOTHING" (.str "none"))(a4s:aA P w K mg ao "show_items" 4 (LX K))(qh:bQ P w K mg ao C "waiting" 1 (cP K C λ_ S H Q=>∀l ys H',H l=none->H' l=some (.lst ys)->aL K H' ys S.ds->aD H H'->Q (.ref l) H')):aA P w K mg ao "answer_waits" 5 (jL K C cM .vY):=by
 refine F.has NQ (λvs H Q E h=>?_) (λ_ _ _ _ _ _=>cu λ_=>rfl) (λf aH A outer s H vs Q E hr h=>?_)
 ·obtain⟨a,q,M,D,S,rfl,_⟩:=h
  rfl
 ·obtain⟨a,q,M,D,S,rfl,R,g,k⟩:=h
  obtain⟨dx,mv,bv,bS,tv,e,r1,r2,r3,r4⟩:=R.ob;have nd:=NQ.nd;have hl:=g.ok.len;have hn:∀d∈S.ds,TI d:=λd hd=>(g.ok.tx g.aG d hd).ti;refine⟨_,(aJ (aP (Gd (pf a4s hr (ak (cZ qh TC.cl (hr.mono ay) (pv 0)) aw)) (pK (cQ (x:="NOTHING") Z xU))))),?_⟩;refine⟨_,Z,a,dx,_,Z,e,Z,a,q,M,D,S,Z,R,g.ok,g.aG,λl ys H1 nl el rl s1=>?_⟩;refine⟨.ref l,S.ds,Z,wV (aI.of el) rl,hn,g.ok.row.no,au,λH2 s2=>?_⟩;have hj:=Hj "\n" (B:=400) (S.ds.map dU) (λz hz=>by obtain⟨d,hd,rfl⟩:=cY.mp hz;exact uQ (hn d hd));have n1:Str.length "\n"=1:=by decide+kernel
  rw[n1,bM]at hj;have lF:S.ds.length*(400+1)<=20*401:=Nat.mul_le_mul_right _ hl;have k2:Q (.str (jP (Txt.join "\n" (S.ds.map dU)))) H2:=k H2 (s1.trans s2);unfold jP at k2;refine⟨_,Z,au,?_⟩;split
  ·next e0=>rw[bc e0]at k2;exact k2
  ·next e0=>rw[bf e0]at k2;exact k2
theorem Al{r f j az:Int}{os:List Itm}{i:Nat}{q:Rat}(h:(kS r f j az os)[i]? =some q):i<=os.length/\q=An r f j az os i:=by
 have hl:i<(kS r f j az os).length:=(dw.mp h).1;have e:(kS r f j az os).length=os.length+1:=kz _ _;have h2:i<=os.length:=by lia
 refine⟨h2,?_⟩;have:=kA (An r f j az os) h2;exact dG (h.symm.trans this)
abbrev Fw:Stmt:=top 100
theorem NW:aW ["runner","plan"] ["runner"] (aM Fw):=bh aF
theorem a1A{C cM:Addr}(F:FA K mg "answer_plan" Fw)(B:bB mg)(TC:cX K C)(HP:aA P w K mg ao "plan_of" 9 (zR K))(xD:aA P w K mg ao "show_fraction" 2 (zY K))(qh:bQ P w K mg ao C "waiting" 1 (cP K C λ_ S H Q=>∀l ys H',H l=none->H' l=some (.lst ys)->aL K H' ys S.ds->aD H H'->Q (.ref l) H'))(Iv:bQ P w K mg ao C "rate" 1 (cP K C λ_ S H Q=>Q (.int S.az) H)):aA P w K mg ao "answer_plan" 10 (jL K C cM .rM):=by
 refine F.has NW (λvs H Q E h=>?_) (λ_ _ _ _ _ _=>cu λ_=>rfl) (λf aH A outer s H vs Q E hr h=>?_)
 ·obtain⟨a,q,M,D,S,rfl,_⟩:=h
  rfl
 ·obtain⟨a,q,M,D,S,rfl,R,g,k⟩:=h
  obtain⟨dx,mv,bv,bS,tv,e,r1,r2,r3,r4⟩:=R.ob;have nd:=NW.nd;have ok:=g.ok;have aG:=g.aG;have hl:=ok.len;refine⟨_,(aB (pS 1 nd (pf HP hr (ak (cC TC.cl TC.ky (pv 0)) (ak (cS (x:="tuple") (kl K rfl) rfl (B.at "tuple") iU (ak (cZ qh TC.cl (hr.mono ay) (pv 0)) aw)) (ak (cZ Iv TC.cl (hr.mono ay) (pv 0)) aw))))) (aJ (aP (kU K Z bo (ak (eY (N:=["square"]) (js:=[none]) Z Z Z (kT K Z (pv 1)) (λ_ _ _ _ _=>(bj 0 (hJ _))) (λ_ _ _ _ _=>dS) (λ_ _ _ _ _=>(pf xD hr (ak (pv 0) aw)))) aw))))),?_⟩;refine⟨_,Z,a,dx,_,_,Z,e,Z,?_⟩;refine⟨_,Z,a,dx,_,Z,e,Z,a,q,M,D,S,Z,R,ok,aG,λl ys H1 nl el rl s1=>?_⟩;refine⟨l,ys,Z,.inl ⟨aI.of el,λt H2 n2=>?_⟩⟩;have s2:=s1.trans n2.same;have e2:=s2 _ _ e;refine⟨_,Z,a,dx,_,Z,e2,Z,a,q,M,D,S,Z,R.same ok.row.no s2,ok,aG,?_⟩;refine⟨mv,.ref t,S.az,M.rs,M.r,M.f,M.j,M.t,S.ds,S.os,Z,RD.mono s2 _ r1,aG,fR (aY.of n2.at') (aL.mono n2.same _ rl),ok.row,au,ok.cL,ok.cV,λp zs H3 np ep rp s3=>?_⟩;refine⟨Z,?_⟩;have lz:=rp.length;have lp:(kS M.r M.f M.j S.az S.os).length=S.os.length+1:=kz _ _;have ll:=ok.row.len;rw[bM,lp]at lz;refine⟨_,Z,p,Z,⟨_,aI.of ep⟩,λD2 H4 n4=>?_⟩;refine qx (K:=K) (ds:=((kS M.r M.f M.j S.az S.os).map Ah).map PyData.str) _ (aI.of ep) n4 (by rw[bM,bM,lp];exact lz) au (kZ _) ?_ ?_
  ·intro i x d H5 Q' ex ed s5 hq
   obtain⟨d',dD,rx⟩:=rp.get' i ex;rw[bR]at dD;rw[bR,bR]at ed;cases eq:(kS M.r M.f M.j S.az S.os)[i]? with |none=>rw[eq]at dD;cases dD |some qq=>rw[eq]at dD ed;cases dD;cases ed;obtain⟨hi,rfl⟩:=Al eq;obtain⟨n1,n2⟩:=vp (Am aG ok.row au ok.cL ok.cV i hi);exact⟨_,Z,x,_,_,Z,RD.mono s5 _ rx,n1,n2,λH6 s6=>hq _ _ s6 (bu _)⟩
  ·intro H5 ws s5 d5 r5
   rw[jK r5]at d5;refine⟨" ",D2,_,Z,Z,aI.of d5,λz hz=>?_,aF,by rw[bM,lp];lia,k _ (s2.trans (s3.trans s5))⟩;obtain⟨qq,hq,rfl⟩:=cY.mp hz;obtain⟨i,hi⟩:=p9.mp hq;obtain⟨pZ,rfl⟩:=Al hi;obtain⟨n1,n2⟩:=vp (Am aG ok.row au ok.cL ok.cV i pZ);have:=yf n1 n2;show(hU _ _).length<=_
   lia
end
end _b
set_option maxHeartbeats 1000000
namespace _b
open PySem PySem.Spec PyProof.Rows _L _r _l _C _P _W
open _O (topR cornO mnO betR atO ownF leadF ownL OkI OkIs)
open _T (numS)
section
variable {P:af}{w:World}{K:aa}{mg:bD}{ao:Heap}
def pW:ah->Bool | .tuple ds=>(ds.length==2||ds.length==3)&&ds.all (df 1 100) |_=>false
def kB:ah->Bool | .tuple [r,a,b,c,t]=>pW r&&df 1 100 t&&[a,b,c].all (df 1 50) |_=>false
theorem a42(n:Nat):B6 (.int n) [.int 2,.int 3]=(n==2||n==3):=by
 show((2:Int)==n||((3:Int)==n||false))=_;rw[Bool.or_false];congr 1
 ·rw[jg];simp;lia
 ·rw[jg];simp;lia
inductive abS(f:ah->Bool)(K:aa)(vs:List V)(H:Hp)(Q:VK):Prop |mk (v:_)(d:_)(h0:vs=[v])(h1:RD K H v d)(h2:∀H',aD H H'->Q (.bl (f d)) H')
def wB(f:ah->Bool)(K:aa):Sp:=λvs H Q _=>abS f K vs H Q
abbrev Fu:Stmt:=top 23
theorem NU:aW ["thing"] ["thing"] (aM Fu):=bh aF
theorem a1y(F:FA K mg "are_rails" Fu)(B:bB mg)(g1:GT K mg "AXES" [.int 2,.int 3])(a63:GV mg "LONGEST_RAIL" (.int 100))(iI:aA P w K mg ao "is_whole_within" 2 (m8 K)):aA P w K mg ao "are_rails" 3 (wB pW K):=by
 refine F.has NU (λvs H Q E h=>?_) (λ_ _ _ _ _ _=>cu λ_=>rfl) (λf aH A outer s H vs Q E hr h=>?_)
 ·obtain⟨v,d,rfl,_⟩:=h
  rfl
 ·obtain⟨v,d,rfl,rd,k⟩:=h
  have nd:=NU.nd;obtain⟨aX,a6d,X9⟩:=g1;refine⟨_,(aB (bJ (PW.pt (kR (dB (cH (nZ K B (ak (pv 0) (ak (mr (x:="tuple") (v:=.ty "tuple") Z (B.at "tuple") iU rfl) aw))))) (kQ (bX (a22 K rfl) (fH K B (ak (pv 0) aw)) (cQ (x:="AXES") rfl a6d) (by with_unfolding_all rfl))))) (aJ (aP gK)) bK) (aJ (aP (dg (x:="all") (vt K Z Z) Z (B.at "all") yV (ak (eY (N:=["rail"]) (js:=[none]) rfl rfl rfl (kv K rfl (pv 0)) (λ_ _ _ _ _=>(bj 0 (hJ _))) (λ_ _ _ _ _=>dS) (λ_ _ _ _ _=>(pf iI hr (ak (pv 0) (ak aE (ak (cQ (x:="LONGEST_RAIL") rfl a63) aw)))))) aw))))),?_⟩;rcases wj d with⟨ds,rfl⟩|⟨ht,hn⟩
  ·refine⟨_,Z,.inl ⟨_,_,"tuple",true,Z,rd.ty,ay,pA,_,Z,aV ?_⟩⟩
   obtain⟨p,xs,rfl,hx,hd⟩:=rd.cJ;have hl:=hd.length;refine⟨_,Z,p,_,Z,.inr hx,aX,_,Z,.inr (X9 H),Z,Z,_,Z,?_⟩;have k:∀H',aD H H'->Q (.bl ((ds.length==2||ds.length==3)&&ds.all (df 1 100))) H':=k;show if(!B6 (.int xs.length) [.int 2,.int 3])=true then _ else _;rw[a42,hl];cases Jn:(ds.length==2||ds.length==3)with |false=>rw[Jn,iB]at k;exact bG (k H (aD.refl _)) |true=>
    rw[Jn,iA]at k;refine aV ?_;have l3:ds.length<=3:=by rw[Bool.or_eq_true,fm,fm]at Jn;lia
    refine⟨_,Z,p,Z,⟨_,hx⟩,λD H0 nw=>?_⟩;refine BN (xs:=xs) (bs:=ds.map (df 1 100)) [] hx nw (by rw[bM,hl]) au ?_ ?_
    ·intro i x b H2 Q' ex eb s2 hq
     obtain⟨d,ed,rfl⟩:=AN eb;obtain⟨x',ja,rx⟩:=hd.get i ed;rw[ex]at ja;cases ja;exact⟨_,Z,_,d,1,100,Z,RD.mono s2 _ rx,hq _ (aD.refl _)⟩
    ·intro H2 s2 d2
     refine⟨D,_,Z,aI.of d2,?_⟩;rw[all_map];exact k H2 s2
  ·have e:pW d=false:=by cases d<;>first|rfl|exact absurd rfl (hn _)
   rw[e]at k;refine⟨_,Z,.inl ⟨_,_,"tuple",false,Z,rd.ty,ay,ht,_,Z,bG ?_⟩⟩;exact k H (aD.refl _)
theorem a2Q(d:ah):(∃r a b c t,d= .tuple [r,a,b,c,t])\/(∃ds,d= .tuple ds/\ds.length≠5/\kB d=false)\/(iW (kL d) "tuple"=false/\kB d=false):=by
 rcases wj d with⟨ds,rfl⟩|⟨ht,hn⟩
 ·match ds with |[r,a,b,c,t]=>exact .inl ⟨r,a,b,c,t,Z⟩ |[]=>exact .inr (.inl ⟨_,Z,by simp,by simp[kB]⟩) |[_]=>exact .inr (.inl ⟨_,Z,by simp,by simp[kB]⟩) |[_,_]=>exact .inr (.inl ⟨_,Z,by simp,by simp[kB]⟩) |[_,_,_]=>exact .inr (.inl ⟨_,Z,by simp,by simp[kB]⟩) |[_,_,_,_]=>exact .inr (.inl ⟨_,Z,by simp,by simp[kB]⟩) |_::_::_::_::_::_::_=>exact .inr (.inl ⟨_,Z,by simp,by simp[kB]⟩)
 ·exact .inr (.inr ⟨ht,by cases d<;>first|rfl|exact absurd rfl (hn _)⟩)
abbrev EW:Stmt:=top 21
theorem Nt:aW ["thing","rails","rise","fall","jump","ticks"] ["thing"] (aM EW):=bh aF
theorem a0Z(F:FA K mg "is_machine" EW)(B:bB mg)(a60:GV mg "MOST_TICKS" (.int 100))(a69:GV mg "GREATEST_CHANGE" (.int 50))(iI:aA P w K mg ao "is_whole_within" 2 (m8 K))(a5J:aA P w K mg ao "are_rails" 3 (wB pW K)):aA P w K mg ao "is_machine" 4 (wB kB K):=by
 refine F.has Nt (λvs H Q E h=>?_) (λ_ _ _ _ _ _=>cu λ_=>rfl) (λf aH A outer s H vs Q E hr h=>?_)
 ·obtain⟨v,d,rfl,_⟩:=h
  rfl
 ·obtain⟨v,d,rfl,rd,k⟩:=h
  have nd:=Nt.nd;refine⟨_,(aB (bJ (PW.pt (kR (dB (cH (nZ K B (ak (pv 0) (ak (mr (x:="tuple") (v:=.ty "tuple") Z (B.at "tuple") iU rfl) aw))))) (kQ (bX (my K rfl hr.units) (fH K B (ak (pv 0) aw)) aE (bL _))))) (aJ (aP gK)) bK) (aB (eM (pv 0) (eX K Z (n:=5) Z (bZ (bj 1 nd) (bZ (bj 2 nd) (bZ (bj 3 nd) (bZ (bj 4 nd) (bZ (bj 5 nd) eW))))))) (aB (bJ (PW.pt (kR (dB (cH (pf a5J hr (ak (pv 1) aw)))) (kQ (dB (cH (pf iI hr (ak (pv 5) (ak aE (ak (cQ (x:="MOST_TICKS") Z a60) aw))))))))) (aJ (aP gK)) bK) (aJ (aP (dg (x:="all") (vt K Z Z) Z (B.at "all") yV (ak (eY (N:=["change"]) (js:=[none]) rfl rfl rfl (kv K rfl (gJ (ak (pv 2) (ak (pv 3) (ak (pv 4) aw))))) (λ_ _ _ _ _=>(bj 0 (hJ _))) (λ_ _ _ _ _=>dS) (λ_ _ _ _ _=>(pf iI hr (ak (pv 0) (ak aE (ak (cQ (x:="GREATEST_CHANGE") rfl a69) aw)))))) aw))))))),?_⟩;rcases a2Q d with⟨r,a,b,c,t,rfl⟩|⟨ds,rfl,hl,hf⟩|⟨ht,hf⟩
  ·refine⟨_,Z,.inl ⟨_,_,"tuple",true,Z,rd.ty,ay,pA,_,Z,aV ?_⟩⟩
   obtain⟨p,xs,rfl,hx,hd⟩:=rd.cJ;obtain⟨u1,ys,rfl,r1,hd⟩:=hd.cons_inv;obtain⟨u2,ys,rfl,r2,hd⟩:=hd.cons_inv;obtain⟨u3,ys,rfl,r3,hd⟩:=hd.cons_inv;obtain⟨u4,ys,rfl,r4,hd⟩:=hd.cons_inv;obtain⟨u5,ys,rfl,r5,hd⟩:=hd.cons_inv;cases hd.nil_inv;have k:∀H',aD H H'->Q (.bl (pW r&&df 1 100 t&&[a,b,c].all (df 1 50))) H':=k;refine⟨_,Z,p,_,Z,.inr hx,.inl ⟨_,_,Z,Z,_,Z,aV ?_⟩⟩;refine⟨_,Z,p,_,Z,hx,Z,_,_,Z,_,_,Z,_,_,Z,_,_,Z,_,_,Z,Z,?_⟩;refine⟨_,Z,_,r,Z,r1,λH1 s1=>⟨_,Z,?_⟩⟩;cases e1:pW r with |false=>rw[e1,iB,iB]at k;exact bG (k H1 s1) |true=>rw[e1,iA]at k;refine aV ?_;refine⟨_,Z,_,t,1,100,Z,RD.mono s1 _ r5,_,Z,?_⟩;cases e2:df 1 100 t with |false=>rw[e2,iB]at k;exact bG (k H1 s1) |true=>
    rw[e2,iA]at k;refine aV ?_;refine⟨_,Z,_,Z,_,Z,ck Z,λq H2 nq=>?_⟩;have s2:=s1.trans nq.same;refine⟨q,Z,⟨_,aY.of nq.at'⟩,λD H0 nw=>?_⟩;have hd3:aL K H2 [u2,u3,u4] [a,b,c]:=cF (RD.mono s2 _ r2) (cF (RD.mono s2 _ r3) (cF (RD.mono s2 _ r4) dy));refine BN (xs:=[u2,u3,u4]) (bs:=[a,b,c].map (df 1 50)) [] (aY.of nq.at') nw Z (V6 Z) ?_ ?_
    ·intro i x b' H3 Q' ex eb s3 hq
     obtain⟨d,ed,rfl⟩:=AN eb;obtain⟨x',ja,rx⟩:=hd3.get i ed;rw[ex]at ja;cases ja;exact⟨_,Z,_,d,1,50,Z,RD.mono s3 _ rx,hq _ (aD.refl _)⟩
    ·intro H3 s3 d3
     refine⟨D,_,Z,aI.of d3,?_⟩;rw[all_map];exact k H3 (s2.trans s3)
  ·rw[hf]at k
   refine⟨_,Z,.inl ⟨_,_,"tuple",true,Z,rd.ty,ay,pA,_,Z,aV ?_⟩⟩;obtain⟨p,xs,rfl,hx,hd⟩:=rd.cJ;refine⟨_,Z,p,_,Z,.inr hx,.inl ⟨_,_,Z,Z,_,Z,?_⟩⟩;have e:(!decide ((xs.length:Int)=5))=true:=by rw[hd.length];simp;lia
   rw[e];exact bG (k H (aD.refl _))
  ·rw[hf]at k
   refine⟨_,Z,.inl ⟨_,_,"tuple",false,Z,rd.ty,ay,ht,_,Z,bG ?_⟩⟩;exact k H (aD.refl _)
end
end _b
set_option maxHeartbeats 2000000
namespace _b
open PySem PySem.Spec PyProof.Rows _L _r _l _C _P _W _R
open _O (topR cornO mnO betR atO ownF leadF ownL OkI OkIs)
open _T (numS numIn? Free)
section
variable {P:af}{w:World}{K:aa}{mg:bD}{ao:Heap}
structure nu(K:aa)(D:Addr):Prop where
 cl:hZ K D
 ky:gR K D "machine"
 xl:gR K D "runner"
def lV(K:aa)(D:Addr)(H:Hp)(a r:Addr)(M:bE):Prop:=∃dx mv,H a=some (.ins D dx [("machine",mv),("runner",.ref r)])/\RD K H mv M.D
theorem a2O{rs:List Int}{r f j t:Int}(h:jC rs r f j t):kB (gw rs r f j t)=true:=by
 show(pW (.tuple (rs.map PyData.int))&&df 1 100 (.int t)&&[PyData.int r,.int f,.int j].all (df 1 50))=true;have h1:pW (.tuple (rs.map PyData.int))=true:=by show(((rs.map PyData.int).length==2||(rs.map PyData.int).length==3)&&(rs.map PyData.int).all (df 1 100))=true;rw[bM,eK,Bool.or_eq_true,fm,fm];refine⟨h.len,fU.mpr λd hd=>?_⟩;obtain⟨z,hz,rfl⟩:=cY.mp hd;have:=h.rl z hz;show(decide (1<=z)&&decide (z<=100))=true;rw[cf this.1,cf this.2];rfl
 have q:∀{lo hi z:Int},lo<=z/\z<=hi->df lo hi (.int z)=true:=λ{lo hi z} h=>by show(decide (lo<=z)&&decide (z<=hi))=true;rw[cf h.1,cf h.2];rfl
 rw[h1,q h.t1];show(df 1 50 (.int r)&&(df 1 50 (.int f)&&(df 1 50 (.int j)&&true)))=true;rw[q h.r1,q h.f1,q h.j1];rfl
abbrev Fc:Stmt:=inClass (top 105) 0
theorem NG:aW ["self","machine","place"] ["self","machine","place"] (aM Fc):=bh aF
inductive abR(K:aa)(C:Addr)(D:Addr)(vs:List V)(H:Hp)(Q:VK):Prop |mk (a:_)(dx:_)(mv:_)(gY:_)(M:_)(pl:_)(h0:vs=[.ref a,mv,gY])(h1:H a=some (.ins D dx []))(h2:RD K H mv (bE.D M))(h3:RD K H gY (fG pl))(h4:M.Ok)(h5:fQ M.rs pl)(h6:∀r q H',lV K D H' a r M->bU K C H' r q M (nT pl)->H r=none->H q=none->cB [a] H H'->Q .bw H')
def M8(K:aa)(C D:Addr):Sp:=λvs H Q _=>abR K C D vs H Q
theorem a1j{C D:Addr}(F:CA K mg D "Desk" "Desk.__init__" Fc)(TC:nu K D)(a5a:aA P w K mg ao "is_machine" 4 (wB kB K))(Ib:aA P w K mg ao "is_place" 3 (zX K))(Ip:tH P w K mg ao C "Runner" 1 (D7 K C)):tH P w K mg ao D "Desk" 5 (M8 K C D):=by
 refine F.has NG (λvs H Q E h=>?_) (λ_ _ _ _ _ _=>jZ λ_ _ _=>rfl) (λf aH A outer s H vs Q E hr h=>?_)
 ·obtain⟨a,dx,mv,gY,M,pl,rfl,_⟩:=h
  rfl
 ·obtain⟨a,dx,mv,gY,M,pl,rfl,e,rm,rp,aG,jO,k⟩:=h
  have nd:=NG.nd;have lr:=aG.len;refine⟨_,(aB (bJ (dB (cH (pf a5a hr (ak (pv 1) aw)))) rK bK) (aB (bJ (dB (cH (pf Ib hr (ak (pv 1) (ak (pv 2) aw))))) rK bK) (aB (fF TC.cl TC.ky (pv 0) (pv 1)) (aJ (fF TC.cl TC.xl (pv 0) (Ge Ip (hr.mono ay) rfl (ak (pv 1) (ak (pv 2) aw)))))))),?_⟩;refine⟨_,Z,mv,_,Z,rm,λH1 s1=>⟨_,Z,?_⟩⟩;rw[a2O aG];refine aV ?_;refine⟨_,Z,_,Z,mv,gY,M.rs,_,_,Z,RD.mono s1 _ rm,RD.mono s1 _ rp,au,λH2 s2=>⟨_,Z,?_⟩⟩;rw[Po jO];refine aV ?_;have ij:=s1.trans s2;have e2:=ij _ _ e;refine⟨_,Z,_,Z,a,dx,_,Z,e2,ay,?_⟩;have v2:cT H (_L.upd H2 a (.ins D dx [("machine",mv)])):=ij.v.trans (.upd e2 trivial);refine⟨_,Z,_,Z,λr rx mM HN ne=>?_⟩;have ar:a≠r:=λz=>by rw[<-z,bW]at mM;cases mM
  have Uc:a≠rx:=λz=>by rw[<-z,bW]at HN;cases HN
  have s3:aD (_L.upd H2 a (.ins D dx [("machine",mv)])) (_L.upd (_L.upd (_L.upd H2 a (.ins D dx [("machine",mv)])) rx (.own r)) r (.ins C rx [])):=(aD.new HN).trans (aD.new (by rw[aU ne.symm];exact mM));have v3:=v2.trans s3.v;refine⟨r,rx,mv,gY,M,pl,Z,bW,RD.v v3 _ (iG _ _ _ _ _) rm,RD.v v3 _ (mj _) rp,λq H3 R3 nq bt=>⟨Z,?_⟩⟩;have nr:H r=none:=by cases e':H r with |none=>rfl |some o=>rw[aU ar.symm,ij _ _ e']at mM;cases mM
  have Py:q≠a:=λz=>by rw[z,aU ar,aU Uc,bW]at nq;cases nq
  have nqH:H q=none:=by cases e':H q with |none=>rfl |some o=>
   have h1:(_L.upd H2 a (.ins D dx [("machine",mv)])) q=some o:=by rw[aU Py];exact ij _ _ e'
   cases(s3 _ _ h1).symm.trans nq
  have e3:=bt a _ (by rw[aU ar,aU Uc];exact bW) (λz=>ar (cW.mp z));refine⟨_,Z,a,dx,_,Z,e3,by show 1<1000;decide,?_⟩;have v4:cT H3 (_L.upd H3 a (.ins D dx [("machine",mv),("runner",.ref r)])):=.upd e3 trivial;have bH:cB [a] H (_L.upd H3 a (.ins D dx [("machine",mv),("runner",.ref r)])):=λb o eb hb=>by
   have ha:b≠a:=λz=>hb (by rw[z];exact .head _);have hbr:b≠r:=λz=>by rw[z,nr]at eb;cases eb
   rw[aU ha];refine bt b o (s3 _ _ (by rw[aU ha];exact ij _ _ eb)) (λz=>hbr (cW.mp z))
  have vH:=bH.v λx hx o eo=>by rw[cW]at hx;rw[hx,e]at eo;cases eo;trivial
  refine k r q _ ⟨dx,mv,bW,RD.v vH _ (iG _ _ _ _ _) rm⟩ ?_ nr nqH bH;exact R3.go Z v4 (λo eo=>by rw[aU ar.symm];exact eo) (λo eo=>by rw[aU Py];exact eo)
inductive abh(K:aa)(vs:List V)(H:Hp)(Q:VK):Prop |mk (l:Addr)(z:Str)(h0:vs=[.ref l])(h1:aI K H l [.str z])(h2:z.length<=640)(h3:∀H',aD H H'->Q (oV (numIn? z)) H')
def Dk(K:aa):Sp:=λvs H Q _=>abh K vs H Q
abbrev Eu:Stmt:=top 106
theorem MZ:aW ["words"] ["words"] (aM Eu):=bh aF
theorem a0A(F:FA K mg "only_number" Eu)(B:bB mg)(xI:aA P w K mg ao "number_in" 2 wz):aA P w K mg ao "only_number" 4 (Dk K):=by
 refine F.has MZ (λvs H Q E h=>?_) (λ_ _ _ _ _ _=>cu λ_=>rfl) (λf aH A outer s H vs Q E hr h=>?_)
 ·obtain⟨l,z,rfl,_⟩:=h
  rfl
 ·obtain⟨l,z,rfl,hl,zl,k⟩:=h
  have nd:=MZ.nd;refine⟨_,(aJ (aP (gZ (bX (dF K Z hr.units) (fH K B (ak (pv 0) aw)) aE (bL _)) (pf xI hr (ak (px K (pv 0) aE) aw)) jo))),?_⟩;refine⟨_,Z,l,_,Z,.inl hl,.inl ⟨_,_,Z,Z,_,Z,bG ?_⟩⟩;exact⟨_,Z,.inl ⟨l,_,0,.str z,Z,Z,hl,Z,z,Z,zl,k⟩⟩
theorem Mv.same{a q q':Addr}{H H' H2:Hp}(m:Mv a q H q' H')(s:aD H' H2):Mv a q H q' H2:=⟨λb o e hb=>s _ _ (m.but b o e hb),m.nq⟩
theorem Mv.ahead{a q q':Addr}{H H' H2:Hp}(s:aD H H')(m:Mv a q H' q' H2):Mv a q H q' H2:=⟨λb o e hb=>m.but b o (s _ _ e) hb,m.nq.imp id λe=>by cases h:H q' with |none=>rfl |some o=>rw[s _ _ h]at e;cases e⟩
theorem Ji{d:ah}(h:BX d):(lN d).length<=2000:=by
 rcases h with⟨ti,hn⟩|⟨ns,t,a,b,rfl,hl,hn,ht,ha,hb⟩
 ·rw[Jj ti hn]
  have:=uQ ti
  lia
 ·rw[Jh]
  have Bv:=uG hn hl;have uZ:=oa ht;have RZ:=yf ha hb;have yb:=dZ;have h5:Str.length "step "=5:=by decide+kernel
  simp only[cK]
  lia
def BD(es:List ah):Str:=jP (Txt.join "\n" (es.map lN))
theorem Px{n:Int}(h:Nm n):oV (numIn? (numS n))=V.int n:=by rw[_T.Gw (by have:=fM h;lia)];rfl
def Ul(K:aa)(C r q:Addr)(M:bE)(S:ba)(n:Int)(H:Hp)(Q:VK):Prop:=∀es S' q' H',Run M S es S'->(es.length:Int)<=n->((es.length:Int)=n\/S'.os=[]\/Halt S'.pc S'.aR)->bU K C H' r q' M S'->Mv r q H q' H'->Q (.str (BD es)) H'
abbrev DS:Stmt:=inClass (top 105) 3
theorem MB:aW ["self","words","number"] ["self","words"] (aM DS):=bh aF
inductive aaT(K:aa)(C:Addr)(D:Addr)(vs:List V)(H:Hp)(Q:VK):Prop |mk (a:_)(r:_)(q:_)(M:_)(D':_)(S:_)(l:_)(n:_)(h0:vs=[.ref a,.ref l])(h1:lV K D H a r M)(h2:bU K C H r q M S)(h3:RG M D' S)(h4:aI K H l [.str (numS n)])(h5:0<=n)(h6:n<=100)(h7:Ul K C r q M S n H Q)
def LL(K:aa)(C D:Addr):Sp:=λvs H Q _=>aaT K C D vs H Q
theorem ZY{C D:Addr}(F:MA K D "say_steps" "Desk.say_steps" DS)(TC:nu K D)(RC:cX K C)(B:bB mg)(a61:GV mg "MOST_ENTRIES" (.int 100))(xU:GV mg "NOTHING" (.str "none"))(HS:aA P w K mg ao "only_number" 4 (Dk K))(iI:aA P w K mg ao "is_whole_within" 2 (m8 K))(a4t:aA P w K mg ao "show_entry" 4 (zZ K))(IB:bQ P w K mg ao C "entries" 12 (Dg K C)):bQ P w K mg ao D "say_steps" 13 (LL K C D):=by
 refine F.has MB (λvs H Q E h=>?_) (λ_ _ _ _ _ _=>dN λ_ _=>rfl) (λf0 aH A outer s H vs Q E hr h=>?_)
 ·obtain⟨a,r,q,M,D',S,l,n,rfl,_⟩:=h
  rfl
 ·obtain⟨a,r,q,M,D',S,l,n,rfl,⟨dx,mv,ea,rm⟩,Ra,g,hl,n0,n1,k⟩:=h
  have nd:=MB.nd;have nm:Nm n:=by show n.natAbs<10^40;lia
  refine⟨_,(aB (pS 2 nd (pf HS hr (ak (pv 1) aw))) (aB (bJ (dB (cH (pf iI hr (ak (pv 2) (ak aE (ak (cQ (x:="MOST_ENTRIES") Z a61) aw)))))) rK bK) (aJ (aP (Gd (kU K Z bo (ak (eY (N:=["entry"]) (js:=[none]) Z Z Z (kT K Z (mq IB RC.cl (hr.mono ay) (cC TC.cl TC.xl (pv 0)) (ak (pv 2) aw))) (λ_ _ _ _ _=>(bj 0 (hJ _))) (λ_ _ _ _ _=>dS) (λ_ _ _ _ _=>(pf a4t hr (ak (pv 0) aw)))) aw)) (pK (cQ (x:="NOTHING") rfl xU))))))),?_⟩;refine⟨_,Z,l,_,Z,hl,by have:=fM nm;lia,λH1 s1=>?_⟩;rw[Px nm];refine⟨_,Z,.int n,.int n,0,100,Z,fE _,_,Z,?_⟩;rw[show df 0 100 (.int n)=true by show(decide (0<=n)&&decide (n<=100))=true;rw[cf n0,cf n1];rfl];refine aV ?_;obtain⟨rx,Oo,OF,Ol,Of,er,_⟩:=Ra.ob;refine⟨Z,?_⟩;refine⟨_,Z,a,dx,_,_,Z,s1 _ _ ea,Z,r,rx,_,Z,s1 _ _ er,Z,_,Z,r,q,M,D',S,n,Z,Ra.same g.ok.row.no s1,g.ok,g.aG,n0,au,λle ys es S' q' H2 nl dl rd run he lG R2 mC lq=>?_⟩;have ly:=rd.length;have te:=run.zD g.ok g.aG g.hD;refine⟨le,Z,⟨_,aI.of dl⟩,λD2 H4 n4=>?_⟩;refine qx (K:=K) (ds:=(es.map lN).map PyData.str) _ (aI.of dl) n4 (by simp;exact ly) au (kZ _) ?_ ?_
  ·intro i x d H5 Q' ex ed s5 hq
   obtain⟨d',dD,rx⟩:=rd.get' i ex;rw[bR,bR,dD]at ed;cases ed;exact⟨_,Z,x,d',Z,RD.mono s5 _ rx,te d' (fc dD),λH6 s6=>hq _ _ s6 (bu _)⟩
  ·intro H5 ws s5 d5 r5
   rw[jK r5]at d5;refine⟨"\n",D2,es.map lN,Z,Z,aI.of d5,λz hz=>?_,aF,by rw[bM];lia,?_⟩
   ·obtain⟨d,hd,rfl⟩:=cY.mp hz
    have:=Ji (te d hd)
    lia
   have hj:=Hj "\n" (B:=2000) (es.map lN) (λz hz=>by obtain⟨d,hd,rfl⟩:=cY.mp hz;exact Ji (te d hd));have n1:Str.length "\n"=1:=by decide+kernel
   rw[n1,bM]at hj;have lF:es.length*(2000+1)<=100*2001:=Nat.mul_le_mul_right _ au;have k2:=k es S' q' H5 run he lG (R2.same (run.ok g.ok g.aG).row.no s5) (Mv.ahead s1 (mC.same s5));unfold BD jP at k2;refine⟨_,Z,au,?_⟩;split
   ·next e0=>rw[bc e0]at k2;exact k2
   ·next e0=>rw[bf e0]at k2;exact k2
def Uq(K:aa)(C cR cM r q:Addr)(M:bE)(S:ba)(n:Int)(H:Hp)(Q:VK)(E:XK):Prop:=(kP (.int n)=false->∀H',aD H H'->E (.ref cR) none H')/\(kP (.int n)=true->S.pc≠0->∀H',aD H H'->E (.ref cM) none H')/\(10<=n->n<=200->S.pc=0->∀H',bU K C H' r q M {S with az:=n}->cB [r] H H'->Q (.str (numS n)) H')
abbrev DT:Stmt:=inClass (top 105) 4
theorem MC:aW ["self","words","number"] ["self","words"] (aM DT):=bh aF
inductive aaU(K:aa)(C:Addr)(D:Addr)(cR:Addr)(cM:Addr)(vs:List V)(H:Hp)(Q:VK)(E:XK):Prop |mk (a:_)(r:_)(q:_)(M:_)(D':_)(S:_)(l:_)(n:_)(h0:vs=[.ref a,.ref l])(h1:lV K D H a r M)(h2:bU K C H r q M S)(h3:RG M D' S)(h4:aI K H l [.str (numS n)])(h5:Nm n)(h6:Uq K C cR cM r q M S n H Q E)
def LM(K:aa)(C D cR cM:Addr):Sp:=λvs H Q E=>aaU K C D cR cM vs H Q E
theorem ZZ{C D cR cM:Addr}(F:MA K D "say_rate" "Desk.say_rate" DT)(TC:nu K D)(RC:cX K C)(B:bB mg)(fS:aA P w K mg ao "show_number" 1 kn)(HS:aA P w K mg ao "only_number" 4 (Dk K))(Iq:jd P w K mg ao C "turn_rate" 5 (D6 K C cR cM)):jd P w K mg ao D "say_rate" 6 (LM K C D cR cM):=by
 refine F.uX MC (λvs H Q E h=>?_) (λ_ _ _ _ _ _=>dN λ_ _=>rfl) (λf0 aH A outer s H vs Q E hr h=>?_)
 ·obtain⟨a,r,q,M,D',S,l,n,rfl,_⟩:=h
  rfl
 ·obtain⟨a,r,q,M,D',S,l,n,rfl,⟨dx,mv,ea,rm⟩,Ra,g,hl,nm,k1,k2,k3⟩:=h
  have nd:=MC.nd;refine⟨_,(aB (pS 2 nd (pf HS hr (ak (pv 1) aw))) (aB (bJ (bX Ph (pv 2) jo (bL _)) rK bK) (aJ (aP (pf fS hr (ak (Ap Iq (As λ_ _ _ z=>z) RC.cl (hr.mono ay) (cC TC.cl TC.xl (pv 0)) (ak (pv 2) aw)) aw)))))),?_⟩;refine⟨_,Z,l,_,Z,hl,by have:=fM nm;lia,λH1 s1=>?_⟩;rw[Px nm];refine⟨_,Z,Z,_,Z,aV ?_⟩;obtain⟨rx,Oo,OF,Ol,Of,er,_⟩:=Ra.ob;refine⟨_,Z,a,dx,_,_,Z,s1 _ _ ea,Z,r,rx,_,Z,s1 _ _ er,Z,_,Z,r,q,M,D',S,.int n,.int n,Z,Ra.same g.ok.row.no s1,g.ok,g.aG,fE _,λh H' s'=>k1 h H' (s1.trans s'),λh hp H' s'=>k2 h hp H' (s1.trans s'),λaz e h1 h2 hp H' R' b'=>?_⟩;cases e;exact⟨n,Z,nm.l,λH2 s2=>k3 h1 h2 hp H2 (R'.same g.ok.row.no s2) λb o eb hb=>s2 _ _ (b' b o (s1 _ _ eb) hb)⟩
inductive dW |wd (w:Wd) |steps (n:Int) |az (n:Int) |item (d:ah)(o:Itm)
def dW.txt:dW->Str | .wd w=>w.txt | .steps n=>"steps"++" "++numS n | .az n=>"rate"++" "++numS n | .item d _=>dU d
def dW.Ok(K:aa)(C cR cM:Addr)(r q:Addr)(M:bE)(S:ba)(H:Hp)(Q:VK)(E:XK):dW->Prop | .wd w=>w.Ok K C cM r q M S H Q E | .steps n=>0<=n/\n<=100/\Ul K C r q M S n H Q | .az n=>Nm n/\Uq K C cR cM r q M S n H Q E | .item d o=>iO M.rs.length d o/\fQ M.rs (iy (jx S) o)/\S.ds.length<20/\∀H',bU K C H' r q M (vf S d o)->cB [r,q] H H'->Q (.str (numS (S.ds.length+1:Nat))) H'
theorem Wd.Ok.go{C cM r q:Addr}{M:bE}{S:ba}{H H1:Hp}{Q:VK}{E:XK}{w:Wd}(h:w.Ok K C cM r q M S H Q E)(s:aD H H1):w.Ok K C cM r q M S H1 Q E:=by cases w with |hold=>exact λH' R b=>h H' R λx o e hx=>b x o (s _ _ e) hx |go=>exact λH' R b=>h H' R λx o e hx=>b x o (s _ _ e) hx |drop=>exact⟨λz H' s'=>h.1 z H' (s.trans s'),λz q' H' R nq b=>h.2 z q' H' R (by cases e:H q' with |none=>rfl |some o=>rw[s _ _ e]at nq;cases nq) λx o e hx=>b x o (s _ _ e) hx⟩ |_=>exact λH' s'=>h H' (s.trans s')
theorem Wi{ws:List Str}{d:ah}(h:fV ws=d)(hd:d≠ .none):∃z y rest ds,ws=z::y::rest/\d= .tuple (.str z::ds):=by
 subst h
 match ws with
 |[]=>exact(hd Z).elim |[z]=>exact(hd (by unfold fV;dsimp only;split<;>rfl)).elim |z::y::rest=>
  refine⟨z,y,rest,?_⟩;unfold fV at hd⊢;dsimp only at hd⊢;split
  ·exact⟨_,Z,Z⟩
  ·next hz=>
   rw[bf hz]at hd
   match rest,hd with |[],_=>exact⟨_,Z,Z⟩ |_::_,hd=>exact(hd Z).elim
def JT (z:Str):Prop:=z = "line" \/ oZ z
theorem p5.word{n:Nat}{d:ah}(h:p5 n d):∃z y rest,Txt.split (dU d) " "=z::y::rest/\JT z:=by
 have e:=h.rt;unfold sA at e;have e2:fV (Txt.split (dU d) " ")=d:=by cases hc:lA n (fV (Txt.split (dU d) " "))with |true=>rw[hc]at e;exact e |false=>rw[hc]at e;exact(h.ne e.symm).elim
 obtain⟨z,y,rest,ds,hw,hd⟩:=Wi e2 h.ne;refine⟨z,y,rest,hw,?_⟩;rcases h.ti with⟨ns,sp,rfl,_⟩|⟨w,i,rfl,hw,_⟩|⟨w,y,rfl,hw,_⟩
 ·cases hd;exact .inl rfl
 ·cases hd;exact .inr hw
 ·cases hd;exact .inr hw.ok
structure JY(K:aa)(gA:Addr):Prop where
 line:PySem.W.nsIn K gA "line"=some none
 wait:PySem.W.nsIn K gA "wait"=some none
 qU:∃v,PySem.W.nsIn K gA "tool"=some (some v)
 mark:∃v,PySem.W.nsIn K gA "mark"=some (some v)
 steps:PySem.W.nsIn K gA "steps"=some none
 az:PySem.W.nsIn K gA "rate"=some none
theorem aa5{ta tb:TT}{O:_L.St}{H:Hp}{Q:Bool->Hp->Prop}(h1:∀Q':Bool->Hp->Prop,(∀c,Q' c H)->ta O H Q')(h2:∀Q':Bool->Hp->Prop,Q' false H->tb O H Q')(k:Q false H):Lf ta tb O H Q:=h1 _ λc=>by cases c with |true=>exact h2 _ k |false=>exact k
structure RwW(y:Str):Prop where
 sh:SeqAt.shaped (.str y)=true
 n1:PyData.eqv (.str y) (.str "to")=false
 n2:PyData.eqv (.str y) (.str "steps")=false
 n3:PyData.eqv (.str y) (.str "rate")=false
theorem XS{y:Str}(h:JT y):RwW y:=by rcases h with rfl|rfl|rfl|rfl<;>exact⟨aF,aF,aF,aF⟩
theorem fw:SeqAt.shaped (.str "to")=true/\SeqAt.shaped (.str "steps")=true/\SeqAt.shaped (.str "rate")=true/\PyData.eqv (.str "to") (.str "to")=true:=by decide+kernel
theorem JY.row{gA:Addr}(h:JY K gA){y:Str}(hy:JT y):∃ov,PySem.W.nsIn K gA y=some ov:=by
 rcases hy with rfl|rfl|rfl|rfl
 ·exact⟨_,h.line⟩
 ·exact⟨_,h.wait⟩
 ·exact⟨_,h.qU.choose_spec⟩
 ·exact⟨_,h.mark.choose_spec⟩
theorem zq(w:Wd):Txt.split w.txt " "=[w.txt]/\w.txt.length<=100:=by cases w<;>exact⟨aF,aF⟩
theorem zM{z:Str}(hz:Free 32 z)(n:Int):Txt.split (z++" "++numS n) " "=[z,numS n]:=by
 have ej:z++" "++numS n=Txt.join ⟨#[32]⟩ [z,numS n]:=by rw[<-pE];rfl
 rw[ej,pE];refine _T.LA (by simp) λy hy=>?_;simp only[cg,eT,iT]at hy;rcases hy with rfl|rfl
 ·exact hz
 ·exact _T.rX ay ay
theorem pG:PyData.eqv (.str "steps") (.str "to")=false/\PyData.eqv (.str "steps") (.str "steps")=true/\PyData.eqv (.str "rate") (.str "to")=false/\PyData.eqv (.str "rate") (.str "steps")=false/\PyData.eqv (.str "rate") (.str "rate")=true:=by decide+kernel
inductive aaS(K:aa)(C:Addr)(D:Addr)(cR:Addr)(cM:Addr)(vs:List V)(H:Hp)(Q:VK)(E:XK):Prop |mk (a:_)(r:_)(q:_)(M:_)(D':_)(S:_)(c:_)(h0:vs=[.ref a,.str (dW.txt c)])(h1:lV K D H a r M)(h2:bU K C H r q M S)(h3:RG M D' S)(h4:c.Ok K C cR cM r q M S H Q E)
def zP(K:aa)(C D cR cM:Addr):Sp:=λvs H Q E=>aaS K C D cR cM vs H Q E
abbrev DR:Stmt:=inClass (top 105) 1
theorem Mz:aW ["self","text","word","rest","answer","item"] ["self","text"] (aM DR):=bh aF
theorem a06{C D gA cR cM:Addr}(F:MA K D "say" "Desk.say" DR)(TC:nu K D)(RC:cX K C)(B:bB mg)(fS:aA P w K mg ao "show_number" 1 kn)(GA:GD w K mg "ANSWERS" gA)(NA:JY K gA)(hW:∀v:Wd,∃fn,PySem.W.nsIn K gA v.txt=some (mg fn)/\qG P w K mg ao fn 10 (jL K C cM v))(a56:aA P w K mg ao "item_in" 5 (Dn K))(a6A:bQ P w K mg ao D "say_steps" 13 (LL K C D))(a6B:jd P w K mg ao D "say_rate" 6 (LM K C D cR cM))(IA:bQ P w K mg ao C "feed" 5 (Df K C)):jd P w K mg ao D "say" 14 (zP K C D cR cM):=by
 refine F.uX Mz (λvs H Q E h=>?_) (λ_ _ _ _ _ _=>dN λ_ _=>rfl) (λf0 aH A outer s H vs Q E hr h=>?_)
 ·obtain⟨a,r,q,M,D',S,c,rfl,_⟩:=h
  rfl
 ·obtain⟨a,r,q,M,D',S,c,rfl,⟨dx,mv,ea,rm⟩,Ra,g,k⟩:=h
  have nd:=Mz.nd;have lr:=g.aG.n3;have iJ:sizeLine=16777216:=by decide
  refine⟨_,(aB (bJ (dB (cH (nZ K B (ak (pv 1) (ak (mr (x:="str") (v:=.ty "str") Z (B.at "str") gm rfl) aw))))) rK bK) (aB (eM (Gg K Z (pv 1) (ak bo aw)) (OY K Z Z (bj 2 nd) (bj 3 nd))) (aB (bJ (PW.pt (rJ (YO (Zq GA Z (pv 2)) (by with_unfolding_all rfl)) (wW (dB (wX K Z (pv 3)))))) (aB (pS 4 nd (Za GA Z (pv 2) (λ_ _=>rfl))) (aJ (aP (Zd 4 (As λ_ _ _ z=>z) (ha:=(ak (cC TC.cl TC.xl (pv 0)) aw)))))) bK) (aB (bJ (bX (dF K Z hr.units) (pv 2) bo (bL _)) rK bK) (aB (bJ (bX (dF K Z hr.units) (pv 2) bo (bL _)) (aJ (aP (mq a6A TC.cl (hr.mono ay) (pv 0) (ak (pv 3) aw)))) bK) (aB (bJ (bX (dF K Z hr.units) (pv 2) bo (bL _)) (aJ (aP (Ap a6B (As λ_ _ _ z=>z) TC.cl (hr.mono ay) (pv 0) (ak (pv 3) aw)))) bK) (aB (pS 5 nd (pf a56 hr (ak (cC TC.cl TC.ky (pv 0)) (ak (pv 1) aw)))) (aB (bJ (bX Ph (pv 5) jo (bL _)) rK bK) (aJ (aP (pf fS hr (ak (mq IA RC.cl (hr.mono ay) (cC TC.cl TC.xl (pv 0)) (ak (pv 5) aw)) aw)))))))))))),?_⟩;refine⟨_,Z,.inl ⟨_,"str","str",true,Z,Z,ay,ay,_,Z,aV ?_⟩⟩;cases c with
  |wd v=>obtain⟨hz,hl⟩:=zq v;obtain⟨fn,hG,f,fd,ps,Fo,hm,hk,hb⟩:=hW v;rw[hm]at hG;refine⟨_,Z,Z,v.txt," ",Z,Z,aF,au,λl H1 n1=>?_⟩;rw[hz]at n1;refine⟨l,.str v.txt,[],Z,aI.of n1.at',ay,λp H2 n2=>?_⟩;have s2:=n1.same.trans n2.same;refine⟨_,Z,v.txt,_,Z,hG,true,Z,bG ?_⟩;refine⟨_,Z,false,.inl ⟨_,aI.of n2.at',Z⟩,bG ?_⟩;refine⟨_,Z,v.txt,_,.ref f,Z,hG,Z,?_⟩;exact⟨f,fd,ps,10,_,Z,Fo,hk,hb,hr.mono ay,_,Z,a,dx,_,_,Z,s2 _ _ ea,Z,r,q,M,D',S,Z,Ra.same g.ok.row.no s2,g,Wd.Ok.go k s2⟩ |steps n=>
   obtain⟨n0,AJ,k⟩:=k;have nm:Nm n:=by show n.natAbs<10^40;lia
   have hl:=fM nm;have e5:Str.length "steps"=5:=by decide+kernel
   have h1:=dZ;refine⟨_,Z,Z,_," ",Z,Z,aF,by simp only[dW.txt,cK];lia,λl H1 n1=>?_⟩;rw[show Txt.split (dW.txt (.steps n)) " "=[Str.ofString "steps",numS n]from zM (j8 aF) n]at n1;refine⟨l,.str "steps",[.str (numS n)],Z,aI.of n1.at',by show 1<=16000;decide,λp H2 n2=>?_⟩;have s2:=n1.same.trans n2.same;refine⟨_,Z,"steps",_,Z,NA.steps,false,Z,aV ?_⟩;refine⟨_,Z,.inr ⟨_,_,bu _,bu _,fw.2.1,fw.1,_,Z,?_⟩⟩;rw[pG.1];refine aV ⟨_,Z,.inr ⟨_,_,bu _,bu _,fw.2.1,fw.2.1,_,Z,?_⟩⟩;rw[pG.2.1];refine bG ?_;exact⟨_,Z,a,dx,_,Z,s2 _ _ ea,Z,_,Z,a,r,q,M,D',S,p,n,Z,⟨dx,mv,s2 _ _ ea,RD.mono s2 _ rm⟩,Ra.same g.ok.row.no s2,g,aI.of n2.at',n0,AJ,λes S' q' H' h1 h2 h3 h4 h5=>k es S' q' H' h1 h2 h3 h4 (Mv.ahead s2 h5)⟩ |az n=>
   obtain⟨nm,k1,k2,k3⟩:=k;have hl:=fM nm;have e5:Str.length "rate"=4:=by decide+kernel
   have h1:=dZ;refine⟨_,Z,Z,_," ",Z,Z,aF,by simp only[dW.txt,cK];lia,λl H1 n1=>?_⟩;rw[show Txt.split (dW.txt (.az n)) " "=[Str.ofString "rate",numS n]from zM (j8 aF) n]at n1;refine⟨l,.str "rate",[.str (numS n)],Z,aI.of n1.at',by show 1<=16000;decide,λp H2 n2=>?_⟩;have s2:=n1.same.trans n2.same;refine⟨_,Z,"rate",_,Z,NA.az,false,Z,aV ?_⟩;refine⟨_,Z,.inr ⟨_,_,bu _,bu _,fw.2.2.1,fw.1,_,Z,?_⟩⟩;rw[pG.2.2.1];refine aV ⟨_,Z,.inr ⟨_,_,bu _,bu _,fw.2.2.1,fw.2.1,_,Z,?_⟩⟩;rw[pG.2.2.2.1];refine aV ⟨_,Z,.inr ⟨_,_,bu _,bu _,fw.2.2.1,fw.2.2.1,_,Z,?_⟩⟩;rw[pG.2.2.2.2];refine bG ?_;exact⟨_,Z,a,dx,_,Z,s2 _ _ ea,Z,_,Z,a,r,q,M,D',S,p,n,Z,⟨dx,mv,s2 _ _ ea,RD.mono s2 _ rm⟩,Ra.same g.ok.row.no s2,g,aI.of n2.at',nm,λz H' s'=>k1 z H' (s2.trans s'),λz1 z2 H' s'=>k2 z1 z2 H' (s2.trans s'),λz1 z2 z3 H' R' b'=>k3 z1 z2 z3 H' R' λx o e hx=>b' x o (s2 _ _ e) hx⟩ |item d o=>
   obtain⟨it,jO,l20,k⟩:=k;have tx:=it.tx lr.1 lr.2;have ok:=g.ok;have aG:=g.aG;obtain⟨y,y2,CB,hs,hy⟩:=tx.word;obtain⟨ov,hov⟩:=NA.row hy;generalize eys:y2::CB=ys at hs;have W:=XS hy;have hl:(dW.txt (.item d o)).length<=400:=tx.len;have xO:=tx.len;have B7:ys.length<=1000:=by
    have:=split_len (dU d) " ";rw[hs,gp]at this
    lia
   refine⟨_,Z,Z,_," ",Z,Z,aF,au,λl H1 n1=>?_⟩;change Nw H H1 l (.lst ((Txt.split (dU d) " ").map V.str))at n1;rw[hs]at n1;refine⟨l,.str y,ys.map V.str,Z,aI.of n1.at',by rw[bM];lia,λp H2 n2=>?_⟩;have s2:=n1.same.trans n2.same;unfold gB;dsimp only;unfold L7 zF;dsimp only;refine aa5 (λQ' hq=>⟨_,Z,y,ov,Z,hov,_,Z,hq _⟩) (λQ' hq=>⟨_,Z,true,.inl ⟨_,aI.of n2.at',by rw[<-eys];rfl⟩,hq⟩) ?_;refine aV ?_;refine⟨_,Z,.inr ⟨_,_,bu _,bu _,W.sh,fw.1,_,Z,?_⟩⟩;rw[W.n1];refine aV ⟨_,Z,.inr ⟨_,_,bu _,bu _,W.sh,fw.2.1,_,Z,?_⟩⟩;rw[W.n2];refine aV ⟨_,Z,.inr ⟨_,_,bu _,bu _,W.sh,fw.2.2.1,_,Z,?_⟩⟩;rw[W.n3];refine aV ?_;refine⟨_,Z,a,dx,_,_,Z,s2 _ _ ea,Z,_,Z,mv,M.rs,_,_,Z,RD.mono s2 _ rm,Z,au,au,tx.ok,λv H3 s3 rv=>?_⟩;change RD K H3 v (sA M.rs.length (dU d))at rv;rw[tx.rt]at rv;have A8:=s2.trans s3;have nv:v≠ .bw:=λe=>by rw[e]at rv;rcases tx.ti with⟨ns,sp,rfl,_⟩|⟨w,i,rfl,_⟩|⟨w,z,rfl,_⟩<;>(obtain⟨p,xs,e,_⟩:=rv.cJ;cases e)
   refine⟨_,Z,Z,_,Z,?_⟩;rw[dE nv];refine aV ?_;obtain⟨rx,Oo,OF,Ol,Of,er,_⟩:=Ra.ob;refine⟨_,Z,a,dx,_,_,Z,A8 _ _ ea,Z,r,rx,_,Z,A8 _ _ er,Z,_,Z,?_⟩;refine⟨r,q,M,D',S,v,d,o,Z,Ra.same ok.row.no A8,ok,aG,rv,it,jO,l20,λH' R' b'=>⟨_,Z,?_,λH2 t2=>k H2 (R'.same ?_ t2) λx o e hx=>t2 _ _ (b' x o (A8 _ _ e) hx)⟩⟩
   ·exact Nm.l (show((S.ds.length+1:Nat):Int).natAbs<10^40 by lia)
   ·exact a27 ok.row.no it.it.no
end
end _b
set_option maxHeartbeats 1000000
namespace _b
open PySem PySem.Spec PyProof.Rows _L _r _l _C _P _W _R
open _O (topR cornO mnO betR atO ownF leadF ownL OkI OkIs)
open _T (numS numIn? Free)
section
variable {P:af}{w:World}{K:aa}{mg:bD}{ao:Heap}
structure CC where
 g:Addr
 c0:Addr
 c1:Addr
 c2:Addr
 c3:Addr
 c4:Addr
 c5:Addr
 c6:Addr
 c7:Addr
 c8:Addr
 c9:Addr
 c10:Addr
structure KC(K:aa)(X:CC)(C:Addr)(b0 b1 b2 b3 b4 b5 b6 b7 b8 b9 gE:Bool):Prop where
 tk:takes K C X.g
 k:kf K C
 i0:PySem.W.kitOne K (.ref C) (.ref X.c0)=some b0
 i1:PySem.W.kitOne K (.ref C) (.ref X.c1)=some b1
 i2:PySem.W.kitOne K (.ref C) (.ref X.c2)=some b2
 i3:PySem.W.kitOne K (.ref C) (.ref X.c3)=some b3
 i4:PySem.W.kitOne K (.ref C) (.ref X.c4)=some b4
 i5:PySem.W.kitOne K (.ref C) (.ref X.c5)=some b5
 i6:PySem.W.kitOne K (.ref C) (.ref X.c6)=some b6
 i7:PySem.W.kitOne K (.ref C) (.ref X.c7)=some b7
 i8:PySem.W.kitOne K (.ref C) (.ref X.c8)=some b8
 i9:PySem.W.kitOne K (.ref C) (.ref X.c9)=some b9
 i10:PySem.W.kitOne K (.ref C) (.ref X.c10)=some gE
 ve:PySem.W.kitOne K (.ref C) (.type "ValueError")=some true
structure K4(mg:bD)(X:CC):Prop where
 h0:GV mg "NoFraction" (.ref X.c0)
 h1:GV mg "NoRate" (.ref X.c1)
 h2:GV mg "NoItem" (.ref X.c2)
 h3:GV mg "OffRails" (.ref X.c3)
 h4:GV mg "Full" (.ref X.c4)
 h5:GV mg "Moving" (.ref X.c5)
 h6:GV mg "NoTape" (.ref X.c6)
 h7:GV mg "NoText" (.ref X.c7)
 h8:GV mg "NoMachine" (.ref X.c8)
 h9:GV mg "NoPlace" (.ref X.c9)
 h10:GV mg "NoLine" (.ref X.c10)
 v:mg "ValueError"=none
def oU:List Str:=["fraction","rate","item","off","full","moving","tape","text","machine","place","line"]
inductive abU(K:aa)(X:CC)(vs:List V)(H:Hp)(Q:VK):Prop |mk (ex:Addr)(C:Addr)(dx:Option Addr)(b0:Bool)(b1:Bool)(b2:Bool)(b3:Bool)(b4:Bool)(b5:Bool)(b6:Bool)(b7:Bool)(b8:Bool)(b9:Bool)(gE:Bool)(j:Nat)(z:Str)(h0:vs=[.ref ex])(h1:H ex=some (.ext (iP ex (.ref C) dx)))(h2:KC K X C b0 b1 b2 b3 b4 b5 b6 b7 b8 b9 gE)(h3:[b0,b1,b2,b3,b4,b5,b6,b7,b8,b9,gE].count true=1)(h4:[b0,b1,b2,b3,b4,b5,b6,b7,b8,b9,gE][j]? =some true)(h5:(∀m:Nat,m<j->[b0,b1,b2,b3,b4,b5,b6,b7,b8,b9,gE][m]? =some false))(h6:oU[j]? =some z)(h7:∀H',aD H H'->Q (.str ("refused "++z)) H')
def Dv(K:aa)(X:CC):Sp:=λvs H Q _=>abU K X vs H Q
abbrev me:Stmt:=top 121
theorem NI:aW ["_law_e","_law_some","_law_names"] ["_law_e"] (aM me):=bh aF
theorem a9r{j:Nat}{z:Str}(h:oU[j]? =some z):j<1000/\z.length<=100:=by
 have hm:=fc h;refine⟨by have:=(dw.mp h).1;have e:oU.length=11:=rfl;lia,?_⟩;have:∀y∈oU,y.length<=100:=by decide+kernel
 exact this z hm
def BO:Expr:=match fj me with|_::_::_:: .Assign _ e _::_=>e|_=>.Constant .none 0 ⟨0,0,0,0⟩
theorem a9v:lit 4 BO=some (.list (oU.map PyData.str)):=by kernel_rfl
def Q9(e:Expr):List Stmt:=match fj me with|a::b::c:: .Assign ts _ p::r=>a::b::c:: .Assign ts e p::r|r=>r
theorem a2F:Q9 BO=fj me:=by kernel_rfl
theorem a9s{X:CC}{f:Addr}{aH:Value}{A:ai}{outer:List Env}{s:ae}{H:Hp}{Q:VK}(e:Expr)(hr:jA 0 (A.deeper (envOfC "_law_class" (aM me) s.heap.objs.size f aH))) (he:Uu (vm P w K mg ao ["_law_e","_law_some","_law_names"] "_law_class" (aM me) f aH A outer s H) e (zE K (.list (oU.map PyData.str)))) (kD:∀x l,swapsWith e (some x) l (vm P w K mg ao ["_law_e","_law_some","_law_names"] "_law_class" (aM me) f aH A outer s H).env=pure false)(B:bB mg)(N:K4 mg X) {ex C:Addr}{dx:Option Addr}{b0 b1 b2 b3 b4 b5 b6 b7 b8 b9 gE:Bool}{j:Nat}{z:Str}(e1:H ex=some (.ext (iP ex (.ref C) dx)))(kc:KC K X C b0 b1 b2 b3 b4 b5 b6 b7 b8 b9 gE)(cnt:[b0,b1,b2,b3,b4,b5,b6,b7,b8,b9,gE].count true=1)(o2:[b0,b1,b2,b3,b4,b5,b6,b7,b8,b9,gE][j]? =some true)(o3:∀m:Nat,m<j->[b0,b1,b2,b3,b4,b5,b6,b7,b8,b9,gE][m]? =some false)(o5:oU[j]? =some z)(k:∀H',aD H H'->Q (.str ("refused "++z)) H'): ∃t,fA (vm P w K mg ao ["_law_e","_law_some","_law_names"] "_law_class" (aM me) f aH A outer s H) (Q9 e) t/\t {nx:=λ_ H'=>Q .bw H',rt:=Q} (start ["_law_e","_law_some","_law_names"] [.ref ex]) H:=by
 have nd:=NI.nd;have a5X:=N.h0;have a5S:=N.h1;have a5W:=N.h2;have Io:=N.h3;have a6a:=N.h4;have a5Y:=N.h5;have a5R:=N.h6;have a5Q:=N.h7;have a5U:=N.h8;have a5T:=N.h9;have a5V:=N.h10;have a5N:=N.v;have iJ:sizeLine=16777216:=by decide
 refine⟨_,(aB (pS 1 nd (da (ak (dg (x:="isinstance") (jR K Z) Z (B.at "isinstance") kh (ak (pv 0) (ak (cQ (x:="NoFraction") rfl a5X) aw))) (ak (dg (x:="isinstance") (jR K rfl) rfl (B.at "isinstance") kh (ak (pv 0) (ak (cQ (x:="NoRate") rfl a5S) aw))) (ak (dg (x:="isinstance") (jR K rfl) rfl (B.at "isinstance") kh (ak (pv 0) (ak (cQ (x:="NoItem") rfl a5W) aw))) (ak (dg (x:="isinstance") (jR K rfl) rfl (B.at "isinstance") kh (ak (pv 0) (ak (cQ (x:="OffRails") rfl Io) aw))) aw)))))) (aB (pS 1 nd (aQ (oW K Z) (pv 1) (da (ak (dg (x:="isinstance") (jR K Z) Z (B.at "isinstance") kh (ak (pv 0) (ak (cQ (x:="Full") rfl a6a) aw))) (ak (dg (x:="isinstance") (jR K rfl) rfl (B.at "isinstance") kh (ak (pv 0) (ak (cQ (x:="Moving") rfl a5Y) aw))) (ak (dg (x:="isinstance") (jR K rfl) rfl (B.at "isinstance") kh (ak (pv 0) (ak (cQ (x:="NoTape") rfl a5R) aw))) (ak (dg (x:="isinstance") (jR K rfl) rfl (B.at "isinstance") kh (ak (pv 0) (ak (cQ (x:="NoText") rfl a5Q) aw))) aw))))))) (aB (pS 1 nd (aQ (oW K Z) (pv 1) (da (ak (dg (x:="isinstance") (jR K Z) Z (B.at "isinstance") kh (ak (pv 0) (ak (cQ (x:="NoMachine") rfl a5U) aw))) (ak (dg (x:="isinstance") (jR K rfl) rfl (B.at "isinstance") kh (ak (pv 0) (ak (cQ (x:="NoPlace") rfl a5T) aw))) (ak (dg (x:="isinstance") (jR K rfl) rfl (B.at "isinstance") kh (ak (pv 0) (ak (cQ (x:="NoLine") rfl a5V) aw))) aw)))))) (aB (OU (i:=2) nd Z (Or.inl Z) he.out (kD _ _)) (aB (bJ (PW.pt (kR (bX (my K Z hr.units) (Zl K Z (pv 1) (ak gK aw)) aE (bL _)) (kQ (dB (cH (dg (x:="isinstance") (jR K Z) Z (B.at "isinstance") kh (ak (pv 0) (ak (mr (x:="ValueError") (v:=.ty "ValueError") rfl a5N a9Q rfl) aw)))))))) (aJ (aP bo)) bK) (aJ (aP (aQ gM bo (px K (pv 2) (Zj K Z (pv 1) (ak gK aw))))))))))),?_⟩;refine⟨_,Z,.inl ⟨ex,C,dx,.ref X.c0,.ref X.c0,b0,Z,e1,kc.k,Z,kc.i0,?_⟩⟩;refine⟨_,Z,.inl ⟨ex,C,dx,.ref X.c1,.ref X.c1,b1,Z,e1,kc.k,Z,kc.i1,?_⟩⟩;refine⟨_,Z,.inl ⟨ex,C,dx,.ref X.c2,.ref X.c2,b2,Z,e1,kc.k,Z,kc.i2,?_⟩⟩;refine⟨_,Z,.inl ⟨ex,C,dx,.ref X.c3,.ref X.c3,b3,Z,e1,kc.k,Z,kc.i3,?_⟩⟩;refine⟨ck Z,λl1 H1 n1=>?_⟩;have e2:=n1.same _ _ e1;refine⟨_,Z,?_⟩;refine⟨_,Z,.inl ⟨ex,C,dx,.ref X.c4,.ref X.c4,b4,Z,e2,kc.k,Z,kc.i4,?_⟩⟩;refine⟨_,Z,.inl ⟨ex,C,dx,.ref X.c5,.ref X.c5,b5,Z,e2,kc.k,Z,kc.i5,?_⟩⟩;refine⟨_,Z,.inl ⟨ex,C,dx,.ref X.c6,.ref X.c6,b6,Z,e2,kc.k,Z,kc.i6,?_⟩⟩;refine⟨_,Z,.inl ⟨ex,C,dx,.ref X.c7,.ref X.c7,b7,Z,e2,kc.k,Z,kc.i7,?_⟩⟩;refine⟨ck Z,λl2 H2 n2=>?_⟩;refine⟨l1,l2,_,_,Z,Z,aI.of (n2.same _ _ n1.at'),aI.of n2.at',by show 8<=_;lia,λl3 H3 n3=>?_⟩;have s3:=n1.same.trans (n2.same.trans n3.same);have e3:=s3 _ _ e1;refine⟨_,Z,?_⟩;refine⟨_,Z,.inl ⟨ex,C,dx,.ref X.c8,.ref X.c8,b8,Z,e3,kc.k,Z,kc.i8,?_⟩⟩;refine⟨_,Z,.inl ⟨ex,C,dx,.ref X.c9,.ref X.c9,b9,Z,e3,kc.k,Z,kc.i9,?_⟩⟩;refine⟨_,Z,.inl ⟨ex,C,dx,.ref X.c10,.ref X.c10,gE,Z,e3,kc.k,Z,kc.i10,?_⟩⟩;refine⟨ck Z,λl4 H4 n4=>?_⟩;refine⟨l3,l4,_,_,Z,Z,aI.of (n4.same _ _ n3.at'),aI.of n4.at',by show 11<=_;lia,λl5 H5 n5=>?_⟩;have hl5:aI K H5 l5 ([b0,b1,b2,b3,b4,b5,b6,b7,b8,b9,gE].map V.bl):=aI.of n5.at';have s5:=s3.trans (n4.same.trans n5.same);intro l6v H6 Q0 r6;obtain⟨l6,xs6,rfl,hx6,hd6⟩:=(RD.mono a74 _ r6).lst_inv;cases jK hd6;have s6:=s5.trans Q0;have Bl:=hl5.go Q0;have e6:=s6 _ _ e1;refine⟨_,Z,.inl ⟨Z,_,Bl⟩,l5,_,Z,Z,Bl,.inl ⟨_,_,Z,Z,_,Z,?_⟩⟩;rw[show(!decide (((([b0,b1,b2,b3,b4,b5,b6,b7,b8,b9,gE].count true:Nat)):Int)=1))=false by rw[cnt];rfl];refine aV ?_;refine⟨_,Z,.inl ⟨ex,C,dx,.ty "ValueError",.type "ValueError",true,Z,e6,kc.k,Z,kc.ve,_,Z,aV ?_⟩⟩;obtain⟨j1,z1⟩:=a9r o5;have o6:(oU.map V.str)[j]? =some (.str z):=by rw[bR,o5];rfl
 refine⟨_,Z,_,Z,.inl ⟨Z,_,Bl⟩,l5,_,j,Z,Z,Bl,o2,o3,j1,?_⟩;refine .inl ⟨l6,oU.map V.str,_,_,Z,Z,hx6,cE au o6,?_⟩;refine⟨_,_,Z,Z,?_,k _ s6⟩;have e8:Str.length "refused "=8:=by decide+kernel
 lia
theorem a1m{X:CC}(F:FA K mg "_law_class" me)(B:bB mg)(N:K4 mg X):yM P w K mg ao "_law_class" 1 (Dv K X):=by
 refine F.a5H NI (λvs H Q E h=>?_) (λ_ _ _ _ _ _=>cu λ_=>rfl) (λf aH A outer s H vs Q hr h=>?_)
 ·obtain⟨ex,C,dx,b0,b1,b2,b3,b4,b5,b6,b7,b8,b9,gE,j,z,rfl,_⟩:=h
  rfl
 ·obtain⟨ex,C,dx,b0,b1,b2,b3,b4,b5,b6,b7,b8,b9,gE,j,z,rfl,e1,kc,cnt,o2,o3,o5,k⟩:=h
  rw[<-a2F];exact a9s BO hr (Z8 K Z 4 BO _ a9v) (λ_ _=>rfl) B N e1 kc cnt o2 o3 o5 k
end
end _b
set_option maxHeartbeats 2000000
namespace _b
open PySem PySem.Spec PyProof.Rows _L _r _l _C _P _W _R
open _O (topR cornO mnO betR atO ownF leadF ownL OkI OkIs)
open _T (numS numIn? Free)
section
variable {P:af}{w:World}{K:aa}{mg:bD}{ao:Heap}
structure yG(K:aa)(mg:bD)(X:CC):Prop where
 g:Exc K mg "GlideError" X.g lP o9
 n:K4 mg X
 r:Exc K mg "NoRate" X.c1 lP o9
 m:Exc K mg "Moving" X.c5 lP o9
 k1:KC K X X.c1 false true false false false false false false false false false
 k5:KC K X X.c5 false false false false false true false false false false false
inductive Out(M:bE)(S:ba):dW->ba->Str->Prop |hold:Out M S (.wd .hold) (jS M S) (numS (gr M.f S.pc)) |go:Out M S (.wd .go) {S with aR:=none} (numS (S.ds.length:Nat)) |yo:¬Halt S.pc S.aR->Out M S (.wd .drop) S "refused moving" |drop:Halt S.pc S.aR->Out M S (.wd .drop) (t7 S) (numS (S.ds.length:Nat)) |steps {n:Int}{es:List ah}{S':ba}:Run M S es S'->(es.length:Int)<=n->((es.length:Int)=n\/S'.os=[]\/Halt S'.pc S'.aR)->Out M S (.steps n) S' (BD es) |uj {n:Int}:kP (.int n)=false->Out M S (.az n) S "refused rate" |ui {n:Int}:kP (.int n)=true->S.pc≠0->Out M S (.az n) S "refused moving" |az {n:Int}:10<=n->n<=200->S.pc=0->Out M S (.az n) {S with az:=n} (numS n)
theorem OH{n:Int}(h1:10<=n)(h2:n<=200):kP (.int n)=true:=by show(decide (10<=n)&&decide (n<=200))=true;rw[cf h1,cf h2];rfl
theorem Out.det{M:bE}{S S1 S2:ba}{c:dW}{z1 z2:Str}(h:Out M S c S1 z1)(g:Out M S c S2 z2):S1=S2/\z1=z2:=by cases h with
 |hold=>cases g;exact⟨rfl,rfl⟩ |go=>cases g;exact⟨rfl,rfl⟩ |yo n=>cases g with |yo=>exact⟨Z,Z⟩ |drop m=>exact(n m).elim
 |drop n=>cases g with |yo m=>exact(m n).elim |drop m=>exact⟨Z,Z⟩
 |steps r l c=>cases g with |steps r2 l2 c2=>obtain⟨e1,e2⟩:=r.a9a l c r2 l2 c2;rw[e1,e2];exact⟨Z,Z⟩
 |uj a=>cases g with |uj=>exact⟨Z,Z⟩ |ui b=>rw[a]at b;cases b |az b1 b2=>rw[OH b1 b2]at a;cases a
 |ui a p=>cases g with |uj b=>rw[a]at b;cases b |ui b=>exact⟨Z,Z⟩ |az b1 b2 b3=>exact(p b3).elim
 |az a1 a2 a3=>cases g with |uj b=>rw[OH a1 a2]at b;cases b |ui b b2=>exact(b2 a3).elim |az b1 b2 b3=>exact⟨Z,Z⟩
def vF:dW->Prop | .wd .hold| .wd .go| .wd .drop=>True | .steps n=>0<=n/\n<=100 | .az n=>Nm n |_=>False
theorem Mv.Gr{a q:Addr}{H H':Hp}(b:cB [a] H H'):Mv a q H q H':=⟨b.mono λx hx=>by rw[cW.mp hx];exact .head _,.inl Z⟩
theorem Mv.a2e{a q q':Addr}{H H':Hp}(b:cB [a] H H')(nq:H q'=none):Mv a q H q' H':=⟨b.mono λx hx=>by rw[cW.mp hx];exact .head _,.inr nq⟩
theorem Mv.eg{a q:Addr}{H H':Hp}(s:aD H H'):Mv a q H q H':=⟨λb o e _=>s _ _ e,.inl Z⟩
def After(K:aa)(C r q:Addr)(M:bE)(S:ba)(c:dW)(H:Hp)(Q:VK):Prop:=∀S' z q' H',Out M S c S' z->bU K C H' r q' M S'->Mv r q H q' H'->Q (.str z) H'
def JU(X:CC)(H:Hp)(Q:VK):XK:=λcls _ H'=>aD H H'/\((cls= .ref X.c1/\∀lU,aD H lU->Q (.str "refused rate") lU)\/(cls= .ref X.c5/\∀lU,aD H lU->Q (.str "refused moving") lU))
theorem After.cmd{C r q:Addr}{X:CC}{M:bE}{D:Nat}{S:ba}{c:dW}{H:Hp}{Q:VK}(R:bU K C H r q M S)(g:RG M D S)(d:vF c)(k:After K C r q M S c H Q):c.Ok K C X.c1 X.c5 r q M S H Q (JU X H Q):=by
 have no:=g.ok.row.no
 match c,d,k with | .wd .hold,_,k=>exact λH' R' b=>k _ _ q H' .hold R' (.Gr b) | .wd .go,_,k=>exact λH' R' b=>k _ _ q H' .go R' (.Gr b) | .wd .drop,_,k=>exact⟨λh H' s'=>⟨s',.inr ⟨Z,λlU ko=>k _ _ q lU (.yo h) (R.same no ko) (.eg ko)⟩⟩,λh q' H' R' nq b=>k _ _ q' H' (.drop h) R' (.a2e b nq)⟩ | .steps n,d,k=>exact⟨d.1,d.2,λes S' q' H' h1 h2 h3 R' m'=>k _ _ q' H' (.steps h1 h2 h3) R' m'⟩ | .az n,d,k=>exact⟨d,λh H' s'=>⟨s',.inl ⟨Z,λlU ko=>k _ _ q lU (.uj h) (R.same no ko) (.eg ko)⟩⟩,λh hp H' s'=>⟨s',.inr ⟨Z,λlU ko=>k _ _ q lU (.ui h hp) (R.same no ko) (.eg ko)⟩⟩,λh1 h2 h3 H' R' b=>k _ _ q H' (.az h1 h2 h3) R' (.Gr b)⟩
theorem OC{X:CC}{H:Hp}{Q:VK}(EX:yG K mg X):∀C',(C'=X.c1\/C'=X.c5)->ClsAt K C'/\takes K C' X.g:=λC' e=>by
 rcases e with rfl|rfl
 ·exact⟨EX.r.cls,EX.k1.tk⟩
 ·exact⟨EX.m.cls,EX.k5.tk⟩
theorem Sn:∀m:Nat,m<1->[false,true,false,false,false,false,false,false,false,false,false][m]? =some false:=by decide
theorem Sm:∀m:Nat,m<5->[false,false,false,false,false,true,false,false,false,false,false][m]? =some false:=by decide
inductive aaK(K:aa)(C:Addr)(D:Addr)(vs:List V)(H:Hp)(Q:VK):Prop |mk (a:_)(r:_)(q:_)(M:_)(D':_)(S:_)(c:_)(h0:vs=[.ref a,.str (dW.txt c)])(h1:lV K D H a r M)(h2:bU K C H r q M S)(h3:RG M D' S)(h4:vF c)(h5:After K C r q M S c H Q)
def LG(K:aa)(C D:Addr):Sp:=λvs H Q _=>aaK K C D vs H Q
abbrev DK:Stmt:=top 122
theorem Ms:aW ["_law_desk","_law_text","_law_e"] ["_law_desk","_law_text"] (aM DK):=bh aF
theorem ZS{C D:Addr}{X:CC}(F:FA K mg "_law_told" DK)(B:bB mg)(DC:nu K D)(EX:yG K mg X)(y8:jd P w K mg ao D "say" 14 (zP K C D X.c1 X.c5))(IE:yM P w K mg ao "_law_class" 1 (Dv K X)):aA P w K mg ao "_law_told" 15 (LG K C D):=by
 refine F.RO Ms (λvs H Q E h=>?_) (λ_ _ _ _ _ _=>dN λ_ _=>rfl) (λf aH A outer s H vs Q E hr h=>?_)
 ·obtain⟨a,r,q,M,D',S,c,rfl,_⟩:=h
  rfl
 ·obtain⟨a,r,q,M,D',S,c,rfl,dk,Ra,g,hd,k⟩:=h
  have nd:=Ms.nd;have hy:=EX.g;have Io:=EX.n.h3;have xT:(lP).contains (.type "BaseException")=true:=by decide
  have y9:=OC (H:=H) (Q:=Q) EX;refine⟨_,(vz.one (OT (i:=2) Z Z nd Z Z Z (λE xe hp=>(aJ (aP (Ap y8 hp DC.cl (hr.mono ay) (pv 0) (ak (pv 1) aw))))) Z hy xT y9 (λex=>(aJ (aP (aQ gM (P4 IE ((hr.mark _).mono ay) Z (ak (pv 2) aw)) (gZ (cH (dg (x:="isinstance") (jR K Z) Z (B.at "isinstance") kh (ak (pv 2) (ak (cQ (x:="OffRails") rfl Io) aw)))) (aQ gM bo (cS (x:="str") gD rfl (B.at "str") gm (ak (Z5 K rfl (pv 2)) aw))) bo))))))),?_⟩;obtain⟨dx0,mv,ea,rm⟩:=id dk;refine⟨JU X H Q,?_,λcls dx H' h=>?_,?_⟩
  ·exact⟨_,Z,a,dx0,_,Z,ea,Z,_,Z,a,r,q,M,D',S,c,Z,dk,Ra,g,After.cmd Ra g hd k⟩
  ·rcases h.2 with⟨e,_⟩|⟨e,_⟩
   ·exact⟨_,e,.inl Z⟩
   ·exact⟨_,e,.inr Z⟩
  ·rintro C' ex dx σ' H' hl ⟨sm,hE⟩ hex
   have hl3:σ'.length=3:=hl
   match σ',hl3 with
   |[u1,u2,u3],_=>
    have e1:(_L.upd H' ex (.ext (iP ex (.ref C') dx))) ex=some (.ext (iP ex (.ref C') dx)):=bW;have sn:=sm.trans (aD.new (o:=.ext (iP ex (.ref C') dx)) hex);rcases hE with⟨eC,kk⟩|⟨eC,kk⟩
    ·cases eC
     refine⟨_,Z,ex,X.c1,dx,_,_,_,_,_,_,_,_,_,_,_,1,"rate",Z,e1,EX.k1,ay,Z,Sn,Z,λH2 s2=>?_⟩;refine⟨_,Z,.inl ⟨ex,X.c1,dx,.ref X.c3,.ref X.c3,false,Z,s2 _ _ e1,EX.k1.k,Z,EX.k1.i3,_,Z,aV ?_⟩⟩;refine⟨_,_,Z,Z,aF,?_⟩;have:=kk H2 (sn.trans s2);rw[show(Str.ofString "refused rate")=Str.ofString "refused "++Str.ofString "rate"++Str.ofString "" by decide+kernel]at this;exact this
    ·cases eC
     refine⟨_,Z,ex,X.c5,dx,_,_,_,_,_,_,_,_,_,_,_,5,"moving",Z,e1,EX.k5,ay,Z,Sm,Z,λH2 s2=>?_⟩;refine⟨_,Z,.inl ⟨ex,X.c5,dx,.ref X.c3,.ref X.c3,false,Z,s2 _ _ e1,EX.k5.k,Z,EX.k5.i3,_,Z,aV ?_⟩⟩;refine⟨_,_,Z,Z,aF,?_⟩;have:=kk H2 (sn.trans s2);rw[show(Str.ofString "refused moving")=Str.ofString "refused "++Str.ofString "moving"++Str.ofString "" by decide+kernel]at this;exact this
theorem QQ{n:Int}(h:Nm n):intText? (numS n)=some n:=by
 have h1:=_T.Gw (i:=n) (by have:=fM h;lia);unfold _T.numIn? at h1;simp only[cond_eq_ite]at h1;split at h1
 ·cases h1
 ·split at h1
  ·cases h1
  ·exact h1
inductive abV(K:aa)(C:Addr)(vs:List V)(H:Hp)(Q:VK):Prop |mk (r:_)(q:_)(M:_)(D':_)(S:_)(c:_)(l:_)(h0:vs=[.ref r,.ref l])(h1:aI K H l ((Txt.split (dW.txt c) " ").map V.str))(h2:bU K C H r q M S)(h3:RG M D' S)(h4:vF c)(h5:After K C r q M S c H Q)
def M9(K:aa)(C:Addr):Sp:=λvs H Q _=>abV K C vs H Q
abbrev Ff:Stmt:=top 124
theorem NK:aW ["_law_runner","_law_words","_law_told_here","_law_e"] ["_law_runner","_law_words"] (aM Ff):=bh aF
theorem a1o{C:Addr}{X:CC}(F:FA K mg "_law_by_runner" Ff)(B:bB mg)(TC:cX K C)(EX:yG K mg X)(a6t:aA P w K mg ao "_law_entry_text" 2 (zZ K))(IB:bQ P w K mg ao C "entries" 12 (Dg K C))(Iq:jd P w K mg ao C "turn_rate" 5 (D6 K C X.c1 X.c5))(Iy:bQ P w K mg ao C "hold" 2 (D9 K C))(Iz:bQ P w K mg ao C "go" 1 (De K C))(ID:jd P w K mg ao C "drop" 5 (Di K C X.c5))(IE:yM P w K mg ao "_law_class" 1 (Dv K X)):aA P w K mg ao "_law_by_runner" 13 (M9 K C):=by
 refine F.RO NK (λvs H Q E h=>?_) (λ_ _ _ _ _ _=>dN λ_ _=>rfl) (λf aH A outer s H vs Q E hr h=>?_)
 ·obtain⟨r,q,M,D',S,c,l,rfl,_⟩:=h
  rfl
 ·obtain⟨r,q,M,D',S,c,l,rfl,hl,Ra,g,hd,k⟩:=h
  have nd:=NK.nd;have hy:=EX.g;have xT:(lP).contains (.type "BaseException")=true:=by decide
  have y9:=OC (H:=H) (Q:=Q) EX;obtain⟨dx,mv,bv,bS,tv,e,r1,r2,r3,r4⟩:=Ra.ob;refine⟨_,(vz.one (OT (i:=3) Z Z nd Z Z Z (λE xe hp=>(aB (bJ (bX (dF K Z hr.units) (px K (pv 1) aE) bo (bL _)) (aB (pS 2 nd (kU K Z bo (ak (eY (N:=["_law_entry"]) (js:=[none]) Z Z Z (kT K Z (mq IB TC.cl (hr.mono ay) (pv 0) (ak (cS (x:="int") Jz Z (B.at "int") vM (ak (px K (pv 1) aE) aw)) aw))) (λ_ _ _ _ _=>(bj 0 (hJ _))) (λ_ _ _ _ _=>dS) (λ_ _ _ _ _=>(pf a6t hr (ak (pv 0) aw)))) aw))) (aJ (aP (gZ (bX uy (pv 2) bo (bL _)) (pv 2) bo)))) bK) (aB (bJ (bX (dF K Z hr.units) (px K (pv 1) aE) bo (bL _)) (aJ (aP (cS (x:="str") gD Z (B.at "str") gm (ak (Ap Iq hp TC.cl (hr.mono ay) (pv 0) (ak (cS (x:="int") Jz rfl (B.at "int") vM (ak (px K (pv 1) aE) aw)) aw)) aw)))) bK) (aB (bJ (bX (dF K Z hr.units) (px K (pv 1) aE) bo (bL _)) (aJ (aP (cS (x:="str") gD Z (B.at "str") gm (ak (cZ Iy TC.cl (hr.mono ay) (pv 0)) aw)))) bK) (aJ (aP (gZ (bX (dF K Z hr.units) (px K (pv 1) aE) bo (bL _)) (cS (x:="str") gD Z (B.at "str") gm (ak (cZ Iz TC.cl (hr.mono ay) (pv 0)) aw)) (cS (x:="str") gD rfl (B.at "str") gm (ak (P0 ID hp TC.cl (hr.mono ay) (pv 0)) aw))))))))) rfl hy xT y9 (λex=>(aJ (aP (P4 IE ((hr.mark _).mono ay) rfl (ak (pv 3) aw))))))),?_⟩;refine⟨JU X H Q,?_,λcls dx H' h=>?_,?_⟩
  ·have co:=After.cmd (X:=X) Ra g hd k
   have w0:∀(z:Str)(zs:List Str),Txt.split (dW.txt c) " "=z::zs->fb ((Txt.split (dW.txt c) " ").map V.str) 0=some (.str z):=λz zs e=>by rw[e];exact cE (dY 0) rfl
   have w1:∀(z y:Str),Txt.split (dW.txt c) " "=[z,y]->fb ((Txt.split (dW.txt c) " ").map V.str) 1=some (.str y):=λz y e=>by rw[e];exact cE ay rfl
   match c,hd,k,co,hl,w0,w1 with
   | .steps n,hd,k,co,hl,w0,w1=>
    have sp:Txt.split (dW.txt (.steps n)) " "=[Str.ofString "steps",numS n]:=zM (j8 aF) n;have AJ:=hd.2;have n0:=hd.1;have nm:Nm n:=by show n.natAbs<10^40;lia
    refine⟨_,Z,.inl ⟨l,_,0,.str "steps",Z,Z,hl,w0 _ _ sp,.inr ⟨_,_,bu _,bu _,fw.2.1,fw.2.1,_,Z,?_⟩⟩⟩;rw[pG.2.1];refine bG ?_;refine⟨Z,?_⟩;refine⟨_,Z,r,dx,_,Z,e,Z,_,Z,.inl ⟨l,_,1,.str (numS n),Z,Z,hl,w1 _ _ sp,numS n,n,Z,QQ nm,by have:=fM nm;lia,r,q,M,D',S,n,Z,Ra,g.ok,g.aG,n0,au,λle ys es S' q' H2 nl dl rd run he lG R2 mC lq=>?_⟩⟩;have ly:=rd.length;have te:=run.zD g.ok g.aG g.hD;refine⟨le,Z,⟨_,aI.of dl⟩,λD2 H4 n4=>?_⟩;refine qx (K:=K) (ds:=(es.map lN).map PyData.str) _ (aI.of dl) n4 (by simp;exact ly) au (kZ _) ?_ ?_
    ·intro i x d H5 Q' ex ed s5 hq
     obtain⟨d',dD,rx⟩:=rd.get' i ex;rw[bR,bR,dD]at ed;cases ed;exact⟨_,Z,x,d',Z,RD.mono s5 _ rx,te d' (fc dD),λH6 s6=>hq _ _ s6 (bu _)⟩
    ·intro H5 ws s5 d5 r5
     rw[jK r5]at d5;refine⟨"\n",D2,es.map lN,Z,Z,aI.of d5,λz hz=>?_,aF,by rw[bM];lia,?_⟩
     ·obtain⟨d,hd,rfl⟩:=cY.mp hz
      have:=Ji (te d hd)
      lia
     have k2:=k S' _ q' H5 (.steps run he lG) (R2.same (run.ok g.ok g.aG).row.no s5) (mC.same s5);unfold BD jP at k2;refine⟨_,Z,Z,_,Z,?_⟩;by_cases e0:Txt.join "\n" (es.map lN)=""
     ·rw[bc e0]at k2
      rw[e0,cf rfl];exact aV k2
     ·rw[bf e0]at k2
      rw[dE (λz=>e0 (V.str.inj z))];exact bG ⟨_,Z,k2⟩ | .az n,hd,k,co,hl,w0,w1=>have sp:Txt.split (dW.txt (.az n)) " "=[Str.ofString "rate",numS n]:=zM (j8 aF) n;refine⟨_,Z,.inl ⟨l,_,0,.str "rate",Z,Z,hl,w0 _ _ sp,.inr ⟨_,_,bu _,bu _,fw.2.2.1,fw.2.1,_,Z,?_⟩⟩⟩;rw[pG.2.2.2.1];refine aV ?_;refine⟨_,Z,.inl ⟨l,_,0,.str "rate",Z,Z,hl,w0 _ _ sp,.inr ⟨_,_,bu _,bu _,fw.2.2.1,fw.2.2.1,_,Z,?_⟩⟩⟩;rw[pG.2.2.2.2];refine bG ?_;obtain⟨nm,k1,k2,k3⟩:=co;refine⟨_,Z,r,dx,_,Z,e,Z,_,Z,.inl ⟨l,_,1,.str (numS n),Z,Z,hl,w1 _ _ sp,numS n,n,Z,QQ nm,by have:=fM nm;lia,r,q,M,D',S,.int n,.int n,Z,Ra,g.ok,g.aG,fE _,k1,k2,λaz e h1 h2 hp H' R' b'=>?_⟩⟩;cases e;exact .inl ⟨n,Z,ju nm,k3 h1 h2 hp H' R' b'⟩ | .wd .hold,hd,k,co,hl,w0,w1=>
    have sp:Txt.split (dW.txt (.wd .hold)) " "=[Str.ofString "hold"]:=(zq .hold).1;have sh:SeqAt.shaped (.str "hold")=true:=by decide+kernel
    refine⟨_,Z,.inl ⟨l,_,0,.str "hold",Z,Z,hl,w0 _ _ sp,.inr ⟨_,_,bu _,bu _,sh,fw.2.1,_,Z,?_⟩⟩⟩;rw[show PyData.eqv (.str "hold") (.str "steps")=false by decide+kernel];refine aV ?_;refine⟨_,Z,.inl ⟨l,_,0,.str "hold",Z,Z,hl,w0 _ _ sp,.inr ⟨_,_,bu _,bu _,sh,fw.2.2.1,_,Z,?_⟩⟩⟩;rw[show PyData.eqv (.str "hold") (.str "rate")=false by decide+kernel];refine aV ?_;refine⟨_,Z,.inl ⟨l,_,0,.str "hold",Z,Z,hl,w0 _ _ sp,.inr ⟨_,_,bu _,bu _,sh,sh,_,Z,?_⟩⟩⟩;rw[show PyData.eqv (.str "hold") (.str "hold")=true by decide+kernel];exact bG ⟨_,Z,r,dx,_,Z,e,Z,r,q,M,D',S,Z,Ra,g.ok,g.aG,λH' R' b'=>.inl ⟨_,Z,ju g.zJ,co H' R' b'⟩⟩ | .wd .go,hd,k,co,hl,w0,w1=>
    have sp:Txt.split (dW.txt (.wd .go)) " "=[Str.ofString "go"]:=(zq .go).1;have sh:SeqAt.shaped (.str "go")=true:=by decide+kernel
    have DA:SeqAt.shaped (.str "hold")=true:=by decide+kernel
    refine⟨_,Z,.inl ⟨l,_,0,.str "go",Z,Z,hl,w0 _ _ sp,.inr ⟨_,_,bu _,bu _,sh,fw.2.1,_,Z,?_⟩⟩⟩;rw[show PyData.eqv (.str "go") (.str "steps")=false by decide+kernel];refine aV ?_;refine⟨_,Z,.inl ⟨l,_,0,.str "go",Z,Z,hl,w0 _ _ sp,.inr ⟨_,_,bu _,bu _,sh,fw.2.2.1,_,Z,?_⟩⟩⟩;rw[show PyData.eqv (.str "go") (.str "rate")=false by decide+kernel];refine aV ?_;refine⟨_,Z,.inl ⟨l,_,0,.str "go",Z,Z,hl,w0 _ _ sp,.inr ⟨_,_,bu _,bu _,sh,DA,_,Z,?_⟩⟩⟩;rw[show PyData.eqv (.str "go") (.str "hold")=false by decide+kernel];refine aV ?_;refine⟨_,Z,.inl ⟨l,_,0,.str "go",Z,Z,hl,w0 _ _ sp,.inr ⟨_,_,bu _,bu _,sh,sh,_,Z,?_⟩⟩⟩;rw[show PyData.eqv (.str "go") (.str "go")=true by decide+kernel];exact bG ⟨_,Z,r,dx,_,Z,e,Z,r,q,M,D',S,Z,Ra,g.ok,λH' R' b'=>.inl ⟨_,Z,ju g.len,co H' R' b'⟩⟩ | .wd .drop,hd,k,co,hl,w0,w1=>
    have sp:Txt.split (dW.txt (.wd .drop)) " "=[Str.ofString "drop"]:=(zq .drop).1;have sh:SeqAt.shaped (.str "drop")=true:=by decide+kernel
    have DA:SeqAt.shaped (.str "hold")=true:=by decide+kernel
    have Xm:SeqAt.shaped (.str "go")=true:=by decide+kernel
    refine⟨_,Z,.inl ⟨l,_,0,.str "drop",Z,Z,hl,w0 _ _ sp,.inr ⟨_,_,bu _,bu _,sh,fw.2.1,_,Z,?_⟩⟩⟩;rw[show PyData.eqv (.str "drop") (.str "steps")=false by decide+kernel];refine aV ?_;refine⟨_,Z,.inl ⟨l,_,0,.str "drop",Z,Z,hl,w0 _ _ sp,.inr ⟨_,_,bu _,bu _,sh,fw.2.2.1,_,Z,?_⟩⟩⟩;rw[show PyData.eqv (.str "drop") (.str "rate")=false by decide+kernel];refine aV ?_;refine⟨_,Z,.inl ⟨l,_,0,.str "drop",Z,Z,hl,w0 _ _ sp,.inr ⟨_,_,bu _,bu _,sh,DA,_,Z,?_⟩⟩⟩;rw[show PyData.eqv (.str "drop") (.str "hold")=false by decide+kernel];refine aV ?_;refine⟨_,Z,.inl ⟨l,_,0,.str "drop",Z,Z,hl,w0 _ _ sp,.inr ⟨_,_,bu _,bu _,sh,Xm,_,Z,?_⟩⟩⟩;rw[show PyData.eqv (.str "drop") (.str "go")=false by decide+kernel];exact aV ⟨_,Z,r,dx,_,Z,e,Z,r,q,M,D',S,Z,Ra,g.ok,g.aG,co.1,λhH q' H' R' nq b'=>.inl ⟨_,Z,ju g.len,co.2 hH q' H' R' nq b'⟩⟩
  ·rcases h.2 with⟨e,_⟩|⟨e,_⟩
   ·exact⟨_,e,.inl Z⟩
   ·exact⟨_,e,.inr Z⟩
  ·rintro C' ex dx σ' H' hl ⟨sm,hE⟩ hex
   have hl4:σ'.length=4:=hl
   match σ',hl4 with
   |[u1,u2,u3,u4],_=>
    have e1:(_L.upd H' ex (.ext (iP ex (.ref C') dx))) ex=some (.ext (iP ex (.ref C') dx)):=bW;have sn:=sm.trans (aD.new (o:=.ext (iP ex (.ref C') dx)) hex);rcases hE with⟨eC,kk⟩|⟨eC,kk⟩
    ·cases eC
     refine⟨_,Z,ex,X.c1,dx,_,_,_,_,_,_,_,_,_,_,_,1,"rate",Z,e1,EX.k1,ay,Z,Sn,Z,λH2 s2=>?_⟩;have:=kk H2 (sn.trans s2);rw[show(Str.ofString "refused rate")=Str.ofString "refused "++Str.ofString "rate" by decide+kernel]at this;exact this
    ·cases eC
     refine⟨_,Z,ex,X.c5,dx,_,_,_,_,_,_,_,_,_,_,_,5,"moving",Z,e1,EX.k5,ay,Z,Sm,Z,λH2 s2=>?_⟩;have:=kk H2 (sn.trans s2);rw[show(Str.ofString "refused moving")=Str.ofString "refused "++Str.ofString "moving" by decide+kernel]at this;exact this
end
end _b
set_option maxHeartbeats 1000000
namespace _b
open PySem PySem.Spec PyProof.Rows _L _l _W
section
variable {P:af}{w:World}{K:aa}{mg:bD}{ao:Heap}
inductive abH(K:aa)(vs:List V)(H:Hp)(Q:VK):Prop |mk (p:_)(m:_)(rs:_)(r:_)(f:_)(j:_)(t:_)(x:_)(pl:_)(mo:_)(h0:vs=[.ref p,m,x,.int mo])(h1:fu H p)(h2:RD K H m (gw rs r f j t))(h3:jC rs r f j t)(h4:RD K H x (fG pl))(h5:fQ rs pl)(h6:1<=mo)(h7:mo<=100)(h8:∀v ns sp H',RD K H' v (eO ns sp)->eQ rs.length 100 ns->fQ rs (jc pl ns)->1<=sp->sp<=20->bP p H H'->Q v H')
def Dq(K:aa):Sp:=λvs H Q _=>abH K vs H Q
abbrev EZ:Stmt:=top 114
theorem Nx:aW ["_law_bag_here","_law_machine_here","_law_here","_law_most","_law_speed","_law_steps","_law_at","_law_rail","_law_low"] ["_law_bag_here","_law_machine_here","_law_here","_law_most"] (aM EZ):=bh aF
theorem a1b(F:FA K mg "_law_line_from" EZ)(B:bB mg)(dM:aA P w K mg ao "_law_take" 1 m9):aA P w K mg ao "_law_line_from" 2 (Dq K):=by
 refine F.has Nx (λvs H Q E h=>?_) (λ_ _ _ _ _ _=>JO λ_ _ _ _=>rfl) (λf aH A outer s H vs Q E hr h=>?_)
 ·obtain⟨p,m,rs,r0,f0,j0,t0,x,pl,mo,rfl,_⟩:=h
  rfl
 ·obtain⟨p,m,rs,r0,f0,j0,t0,x,pl,mo,rfl,bg,rm,uB,rx,on,Q8,Q7,k⟩:=h
  have nd:=Nx.nd;refine⟨_,(aB (pS 4 nd (aQ dI aE (pf dM hr (ak (pv 0) (ak aE aw))))) (aB (pS 5 nd (da aw)) (aB (jN gT Z (rO K Z false false Z (B.at "zip") (ak (pv 2) (ak (px K (pv 1) aE) aw))) (eX K rfl (n:=2) rfl (bZ (bj 6 nd) (bZ (bj 7 nd) eW))) (aB (pS 8 nd (dg (x:="max") (TN Z) Z (B.at "max") V1 (ak (ml lZ (pv 6)) (ak (ml lZ (pv 3)) aw)))) (aJ (ku (nY K Z (pv 5) (ak (aQ dI (pv 8) (pf dM hr (ak (pv 0) (ak (aQ dI (aQ jr (dg (x:="min") (Jy Z) Z (B.at "min") V0 (ak (aQ jr (pv 7) (pv 6)) (ak (pv 3) aw))) (pv 8)) aE) aw)))) aw)))))) (aB (iX (bJ (dB (cH (dg (x:="any") (Ud K Z Z) Z (B.at "any") V2 (ak (pv 5) aw)))) (aJ (eM (px K (da (ak aE (ak (ml lZ aE) aw))) (cS (x:="int") JA Z (B.at "int") vM (ak (jq (dF K rfl hr.units) (px K (pv 2) aE) (px K (px K (pv 1) aE) aE) (bL _)) aw))) (rP (pv 5) aE set_list))) bK)) (aJ (aP (gJ (ak bo (ak (cS (x:="tuple") (kl K Z) Z (B.at "tuple") iU (ak (pv 5) aw)) (ak (pv 4) aw)))))))))),?_⟩;have lr:=uB.len;have lp:=on.len;obtain⟨ma,mb,rfl,gQ,j6⟩:=mF rm;obtain⟨xa,xx,rfl,B8,hxx⟩:=rx.cJ;rw[hxx.gP]at B8;refine⟨_,Z,p,20,Z,bg,ay,ay,λsp H1 p0 p1 b1=>?_⟩;refine⟨_,_,Z,Z,?_⟩;refine⟨ck Z,λl H2 n2=>?_⟩;have b2:bP p H1 H2:=.eg b1.bO n2.same;have tq:=b1.trans b2;have AS:l≠p:=λz=>b1.bO.ne (z▸n2.no);have nl:H l=none:=by cases e:H l with |none=>rfl |some o=>have:=b1.same _ _ AS e;rw[n2.no]at this;cases this
  have CQ:=bP.t bg tq;refine⟨_,Z,_,Z,.inr ⟨ma,_,0,.ref mb,Z,Z,gQ.t CQ,cE (dY 0) Z,xa,mb,Z,⟨_,B8.t CQ⟩,⟨_,j6.t CQ⟩,?_⟩⟩;refine Sj (K:=K) (b1:=false) (b2:=false) (xs:=pl.map V.int) (ys:=rs.map V.int) rs.length (by simp[lp]) (λi O H3=>bP p H H3/\∃(is:List Int)(v1 v2 v3:Option V),H3 l=some (.lst (is.map V.int))/\is.length=i/\(∀(j:Nat)(z a r:Int),is[j]? =some z->pl[j]? =some a->rs[j]? =some r->0<=a+z/\a+z<=r/\(z.natAbs:Int)<=mo)/\O=[some (.ref p),some (.ref ma),some (.ref xa),some (.int mo),some (.int (1+sp)),some (.ref l),v1,v2,v3]) ?_ (λi O H3 _ h=>⟨B8.t (bP.t bg h.1),j6.t (bP.t bg h.1)⟩) ?_ ?_
  ·exact⟨tq,[],none,none,none,n2.at',Z,λj z a r e=>by simp at e,Z⟩
  ·rintro i x y O H3 ex ey ⟨b3,is,v1,v2,v3,dl,li,hz,rfl⟩ T H4 n4
   have b4:bP p H3 H4:=.eg b3.bO n4.same;have hx:∃a r,pl[i]? =some a/\rs[i]? =some r/\x= .int a/\y= .int r:=by rw[bR]at ex ey;cases e1:pl[i]? with |none=>rw[e1]at ex;cases ex |some u=>cases e2:rs[i]? with |none=>rw[e2]at ey;cases ey |some v=>rw[e1]at ex;rw[e2]at ey;exact⟨u,v,Z,Z,(dG ex).symm,(dG ey).symm⟩
   obtain⟨a,r,ea,er,rfl,rfl⟩:=hx;obtain⟨a0,a1⟩:=on.at' i a r ea er;obtain⟨r0,r1⟩:=uB.rl r (fc er);refine⟨T,_,Z,aY.of n4.at',Z,_,_,Z,_,_,Z,Z,?_⟩;refine⟨_,Z,_,Z,_,Z,_,Z,_,_,Z,?_⟩;have qw:=n4.same _ _ dl;have a4T:∃low:Int,(if(-mo:Int)>-a then-mo else-a)=low/\low<=0/\-mo<=low/\-a<=low:=⟨_,Z,by split<;>lia,by split<;>lia,by split<;>lia⟩;obtain⟨low,a8R,lo0,lo1,lo2⟩:=a4T;rw[a8R];have hhi:∃hi:Int,(if mo<r-a then mo else r-a)=hi/\0<=hi/\hi<=mo/\hi<=r-a:=⟨_,Z,by split<;>lia,by split<;>lia,by split<;>lia⟩;obtain⟨hi,BE,hi0,hi1,Rx⟩:=hhi;refine⟨_,Z,.inl ⟨Z,_,aI.of qw⟩,?_⟩;refine⟨_,Z,_,Z,_,Z,_,Z,_,_,Z,Z,_,Z,_,_,Z,?_⟩;rw[BE];refine⟨_,Z,_,_,Z,Z,_,_,Z,Z,p,hi-low+1,Z,b4.bO,au,au,λd H5 d0 d1 b5=>?_⟩;have dl5:=b5.same _ _ AS qw;refine⟨_,_,Z,Z,l,_,_,Z,Z,dl5,?_,?_⟩
   ·rw[bM,li]
    have:(1000:Nat)<sizeLine:=by decide
    have:=(dw.mp er).1
    lia
   have qA:=b3.trans (b4.trans b5);refine⟨?_,is++[low+d],_,_,_,?_,?_,?_,Z⟩
   ·refine⟨?_,λb o n e=>?_⟩
    ·obtain⟨c',m',e,ok⟩:=qA.bO
     exact⟨c',m',by rw[aU AS.symm];exact e,ok⟩
    ·rw[aU (fY e nl)];exact qA.same b o n e
   ·rw[bW,jG];rfl
   ·rw[fe,li];rfl
   ·intro j z a' r' ej vh mV
    by_cases hj:j<is.length
    ·rw[vV hj]at ej
     exact hz j z a' r' ej vh mV
    ·have lF:j=is.length:=by
      have:=(dw.mp ej).1;rw[fe]at this;have:j<is.length+1:=this
      lia
     rw[lF,z9 (bI _),Kl]at ej;cases ej;rw[lF,li]at vh mV;rw[ea]at vh;rw[er]at mV;cases vh;cases mV
     lia
  ·rintro O H3 ⟨b3,is,v1,v2,v3,dl,li,hz,rfl⟩
   have l0:0<is.length:=by lia
   have lp0:0<pl.length:=by lia
   have lr0:0<rs.length:=by lia
   have ea:=cy lp0;have er:=cy lr0;have a3:=B8.t (bP.t bg b3);have m3:=gQ.t (bP.t bg b3);have mb3:=j6.t (bP.t bg b3);refine⟨λO H4=>bP p H H4/\∃(is:List Int),H4 l=some (.lst (is.map V.int))/\eQ rs.length 100 is/\fQ rs (jc pl is)/\O=[some (.ref p),some (.ref ma),some (.ref xa),some (.int mo),some (.int (1+sp)),some (.ref l),v1,v2,v3],?_,?_⟩
   ·refine⟨_,Z,l,is,Z,.inl (aI.of dl),_,Z,?_⟩
    cases ha:is.any (· !=0)with
    |false=>
     refine bG ?_;have z0:∀z∈is,z=0:=λz kC=>by have:=List.any_eq_false.mp ha z kC;simpa using this
     refine⟨_,Z,ck Z,λc H4 n4=>?_⟩;have s4:=n4.same;refine⟨_,Z,.inr ⟨xa,_,0,.int pl[0],Z,Z,a3.go s4,cE (dY 0) (by rw[bR];show Option.map _ pl[0]? =_;rw[ea];rfl),?_⟩⟩;refine⟨_,Z,.inr ⟨ma,_,0,.ref mb,Z,Z,m3.go s4,cE (dY 0) Z,?_⟩⟩;refine .inr ⟨mb,_,0,.int rs[0],Z,Z,mb3.go s4,cE (dY 0) (by rw[bR];show Option.map _ rs[0]? =_;rw[er];rfl),?_⟩;refine .inl ⟨_,_,Z,Z,.inr ⟨_,Z,?_⟩⟩;obtain⟨a0,a1⟩:=on.at' 0 _ _ ea er;obtain⟨r0,r1⟩:=uB.rl _ (fc er);have hy:∃y:Int,fb ([.int 1,.int (-1)]:List V) (if decide (pl[0]=rs[0])=true then 1 else 0)=some (.int y)/\y.natAbs=1/\0<=pl[0]+y/\pl[0]+y<=rs[0]:=by
      by_cases h:pl[0]=rs[0]
      ·rw[cf h];exact⟨-1,Z,Z,au,au⟩
      ·rw[dE h];exact⟨1,Z,Z,au,au⟩
     obtain⟨y,ey,y1,y2,y3⟩:=hy;refine .inl ⟨c,_,_,_,Z,Z,aI.of n4.at',ey,?_⟩;have qw:=s4 _ _ dl;refine⟨_,Z,l,_,0,0,Z,Z,qw,?_,?_⟩
     ·unfold ir;rw[bc (dY 0),bc (by rw[bM];lia)];rfl
     have b4:bP p H3 H4:=.eg b3.bO s4;have U9:=b3.trans b4;have ls:(is.set 0 y).length=pl.length:=by rw[vT];lia
     refine⟨?_,is.set 0 y,?_,⟨?_,?_,?_⟩,⟨?_,?_⟩,Z⟩
     ·refine⟨?_,λb o n e=>?_⟩
      ·obtain⟨c',m',e,ok⟩:=U9.bO
       exact⟨c',m',by rw[aU AS.symm];exact e,ok⟩
      ·rw[aU (fY e nl)];exact U9.same b o n e
     ·rw[bW,Co]
     ·rw[vT];exact li
     ·intro z kC
      rcases List.mem_or_eq_of_mem_set kC with h|h
      ·rw[z0 z h];decide
      ·rw[h];lia
     ·exact⟨y,V7.mpr ⟨0,by rw[vT];lia,by rw[Vc]⟩,au⟩
     ·rw[oY ls];exact lp
     ·intro j x r ej mV
      have hj:j<pl.length:=by have:=(dw.mp ej).1;rw[oY ls]at this;exact this
      have yn:=yD (cy hj) (cy (show j<(is.set 0 y).length by lia));rw[ej]at yn;have Jl:=dG yn;by_cases h0:j=0
      ·subst h0
       rw[Vc]at Jl;rw[er]at mV;cases mV
       lia
      ·rw[List.getElem_set_ne (iV h0)]at Jl
       have QW:=z0 _ (vU (show j<is.length by lia));have:=on.at' j _ r (cy hj) mV
       lia |true=>
     refine aV ?_;have ls:is.length=pl.length:=by lia
     refine⟨b3,is,dl,⟨li,λz kC=>?_,?_⟩,⟨?_,?_⟩,Z⟩
     ·obtain⟨j,hj⟩:=p9.mp kC
      have Rp:=(dw.mp hj).1;have:=hz j z _ _ hj (cy (show j<pl.length by lia)) (cy (show j<rs.length by lia))
      lia
     ·obtain⟨z,kC,h0⟩:=Vh.mp ha
      exact⟨z,kC,by simpa using h0⟩
     ·rw[oY ls];exact lp
     ·intro j x r ej mV
      have hj:j<pl.length:=by have:=(dw.mp ej).1;rw[oY ls]at this;exact this
      have yn:=yD (cy hj) (cy (show j<is.length by lia));rw[ej]at yn;have Jl:=dG yn;have:=hz j _ _ r (cy (show j<is.length by lia)) (cy hj) mV
      lia
   rintro O H4 ⟨b4,is,dl,ok,ZL,rfl⟩;refine⟨_,Z,l,_,Z,.inl ⟨aI.of dl,λq H5 n5=>?_⟩⟩;refine⟨_,Z,ck Z,λt H6 n6=>?_⟩;exact k (.ref t) is (1+sp) H6 (fR (aY.of n6.at') (cF (bu _) (cF (fR (aY.of (n6.same _ _ n5.at')) (wR is)) (cF (fE _) dy)))) ok ZL au au (b4.trans (.eg b4.bO (n5.same.trans n6.same)))
end
end _b
set_option maxHeartbeats 4000000
namespace _b
open PySem PySem.Spec PyProof.Rows _L _r _l _C _P _W _R
open _O (topR cornO mnO betR atO ownF leadF ownL OkI OkIs)
open _T (numS numIn? Free)
section
variable {P:af}{w:World}{K:aa}{mg:bD}{ao:Heap}
def pj:List Wd:=[.place,.square,.stop,.vY,.rM,.qU,.mark,.state]
def oX(M:bE)(S:ba):List Str:=pj.map (JL M S)
theorem VG{C cM a q:Addr}{M:bE}{S:ba}{H:Hp}{Q:VK}{E:XK}{v:Wd}(hv:v∈pj)(k:∀H',aD H H'->Q (.str (JL M S v)) H'):v.Ok K C cM a q M S H Q E:=by cases v with |hold=>simp[pj]at hv |go=>simp[pj]at hv |drop=>simp[pj]at hv |_=>exact k
inductive abZ(K:aa)(C:Addr)(D:Addr)(vs:List V)(H:Hp)(Q:VK):Prop |mk (a:_)(r:_)(q:_)(M:_)(D':_)(S:_)(h0:vs=[.ref a])(h1:lV K D H a r M)(h2:bU K C H r q M S)(h3:RG M D' S)(h4:∀v H',RD K H' v (.list ((oX M S).map PyData.str))->aD H H'->Q v H')
def Mb(K:aa)(C D:Addr):Sp:=λvs H Q _=>abZ K C D vs H Q
abbrev Fj:Stmt:=top 119
theorem NO:aW ["_law_desk"] ["_law_desk"] (aM Fj):=bh aF
theorem a1w{C D cR cM:Addr}(F:FA K mg "_law_asked" Fj)(B:bB mg)(DC:nu K D)(y8:bQ P w K mg ao D "say" 14 (λvs H Q _=>zP K C D cR cM vs H Q E0)):aA P w K mg ao "_law_asked" 15 (Mb K C D):=by
 refine F.has NO (λvs H Q E h=>?_) (λ_ _ _ _ _ _=>cu λ_=>rfl) (λf aH A outer s H vs Q E hr h=>?_)
 ·obtain⟨a,r,q,M,D',S,rfl,_⟩:=h
  rfl
 ·obtain⟨a,r,q,M,D',S,rfl,⟨dx,mv,ea,rm⟩,Ra,g,k⟩:=h
  have nd:=NO.nd;refine⟨_,(aJ (aP (eY (N:=["_law_word","_law_desk"]) (js:=[none,some 0]) Z Z Z (kT K Z (da (ak bo (ak bo (ak bo (ak bo (ak bo (ak bo (ak bo (ak bo aw)))))))))) (λ_ _ _ _ _=>(bj 0 (kx ay))) (λ_ _ _ _ _=>dS) (λ_ _ _ _ _=>(mq y8 DC.cl (hr.mono ay) (pv 1) (ak (pv 0) aw)))))),?_⟩;refine⟨ck Z,λl H1 n1=>?_⟩;have hl:aI K H1 l (pj.map λv=>V.str v.txt):=aI.of n1.at';refine⟨l,Z,⟨_,hl⟩,λD2 H2 n2=>?_⟩;refine qx (K:=K) (ds:=(oX M S).map PyData.str) _ hl n2 (by rfl) ay (kZ _) ?_ ?_
  ·intro i x d H3 Q' ex ed s3 hq
   rw[bR]at ex;obtain⟨v,ev,rfl⟩:=yW.mp ex;unfold oX at ed;rw[bR,bR,ev]at ed;cases ed;have eU:=n1.same.trans s3;exact⟨_,Z,a,dx,_,Z,eU _ _ ea,Z,_,Z,a,r,q,M,D',S,.wd v,Z,⟨dx,mv,eU _ _ ea,RD.mono eU _ rm⟩,Ra.same g.ok.row.no eU,g,VG (fc ev) λH4 s4=>hq _ _ s4 (bu _)⟩
  ·intro H3 zs s3 d3 r3
   exact k _ _ (wV (aI.of d3) r3) (n1.same.trans s3)
theorem QS{t:TE}{z:Str}{O:_L.St}{H:Hp}{Q:VK}(ht:∀Q':VK,Q' (.str z) H->t O H Q')(k:Q (.str (jP z)) H):Lc (CN (u6 ON t (tC (.str "")))) t (tC (.str "none")) O H Q:=by
 refine ht _ ⟨Z,_,Z,?_⟩;unfold jP at k;by_cases e0:z=""
 ·rw[bc e0]at k
  rw[e0,cf rfl];exact aV k
 ·rw[bf e0]at k
  rw[dE (λz=>e0 (V.str.inj z))];exact bG (ht _ k)
theorem Ll{H:Hp}:∀zs:List Str,aL K H (zs.map V.str) (zs.map PyData.str) |[]=>dy |z::zs=>cF (bu z) (Ll zs)
def sL(S:ba):Str:=if S.aR.isSome=true then "held" else "free"
def yd(S:ba):Str:=if decide (S.pc=0)=true then "stands" else "goes"
theorem X4(S:ba):sL S++" "++yd S=qX S/\(sL S).length<=10/\(yd S).length<=10:=by unfold sL yd qX;cases S.aR.isSome<;>cases decide (S.pc=0)<;>decide+kernel
theorem a5p(S:ba):fb ([.str "free",.str "held"]:List V) (if S.aR.isSome=true then 1 else 0)=some (.str (sL S))/\fb ([.str "goes",.str "stands"]:List V) (if decide (S.pc=0)=true then 1 else 0)=some (.str (yd S)):=by unfold sL yd;cases S.aR.isSome<;>cases decide (S.pc=0)<;>exact⟨rfl,rfl⟩
inductive abO(K:aa)(C:Addr)(vs:List V)(H:Hp)(Q:VK):Prop |mk (m:_)(r:_)(q:_)(M:_)(D':_)(S:_)(h0:vs=[m,.ref r])(h1:RD K H m (bE.D M))(h2:bU K C H r q M S)(h3:RG M D' S)(h4:∀v H',RD K H' v (.list ((oX M S).map PyData.str))->aD H H'->Q v H')
def M6(K:aa)(C:Addr):Sp:=λvs H Q _=>abO K C vs H Q
abbrev F9:Stmt:=top 120
theorem ND:aW ["_law_machine_here","_law_runner","_law_waits","_law_squares","_law_due","_law_held"] ["_law_machine_here","_law_runner"] (aM F9):=bh aF
theorem a1i{C:Addr}(F:FA K mg "_law_state_due" F9)(B:bB mg)(TC:cX K C)(xY:aA P w K mg ao "_law_item_text" 1 (qY K))(Bt:aA P w K mg ao "_law_fraction_text" 1 (Dp K))(HP:aA P w K mg ao "plan_of" 9 (zR K))(qh:bQ P w K mg ao C "waiting" 1 (cP K C λ_ S H Q=>∀l ys H',H l=none->H' l=some (.lst ys)->aL K H' ys S.ds->aD H H'->Q (.ref l) H'))(Iv:bQ P w K mg ao C "rate" 1 (cP K C λ_ S H Q=>Q (.int S.az) H))(xW:bQ P w K mg ao C "place" 3 (cP K C λ_ S H Q=>∀v H',RD K H' v (fG (gI S))->aD H H'->Q v H'))(Iu:bQ P w K mg ao C "square" 1 (cP K C (IP K)))(xV:bQ P w K mg ao C "stops_in" 1 (cP K C λM S H Q=>Q (.int (gr M.f S.pc)) H))(Ir:bQ P w K mg ao C "tool" 1 (cP K C λ_ S H Q=>Q (.str S.side) H))(Bs:bQ P w K mg ao C "last_mark" 1 (cP K C λ_ S H Q=>Q (.str S.mark) H))(oJ:bQ P w K mg ao C "is_held" 1 (cP K C λ_ S H Q=>Q (.bl S.aR.isSome) H))(sO:bQ P w K mg ao C "stands" 1 (cP K C λ_ S H Q=>Q (.bl (decide (S.pc=0))) H)):aA P w K mg ao "_law_state_due" 10 (M6 K C):=by
 refine F.has ND (λvs H Q E h=>?_) (λ_ _ _ _ _ _=>dN λ_ _=>rfl) (λf aH A outer s H vs Q E hr h=>?_)
 ·obtain⟨m,r,q,M,D',S,rfl,_⟩:=h
  rfl
 ·obtain⟨m,r,q,M,D',S,rfl,rm,R,g,k⟩:=h
  have nd:=ND.nd;have ok:=g.ok;have aG:=g.aG;have hl:=ok.len;have ll:=ok.row.len;have ti:∀d∈S.ds,TI d:=λd hd=>(ok.tx aG d hd).ti;have iJ:sizeLine=16777216:=by decide
  obtain⟨dx,mv,bv,bS,tv,e,r1,r2,r3,r4⟩:=R.ob;have RR:∀{H':Hp},aD H H'->bU K C H' r q M S/\H' r=some (.ins C dx (eV mv bv (.int S.dn) (.ref q) bS (.int S.az) (.str S.side) (.str S.mark) tv)):=λs=>⟨R.same ok.row.no s,s _ _ e⟩;refine⟨_,(aB (pS 2 nd (kU K Z bo (ak (eY (N:=["_law_item_here"]) (js:=[none]) Z Z Z (kT K Z (cZ qh TC.cl (hr.mono ay) (pv 1))) (λ_ _ _ _ _=>(bj 0 (hJ _))) (λ_ _ _ _ _=>dS) (λ_ _ _ _ _=>(pf xY hr (ak (pv 0) aw)))) aw))) (aB (pS 3 nd (pf HP hr (ak (pv 0) (ak (cS (x:="tuple") (kl K Z) Z (B.at "tuple") iU (ak (cZ qh TC.cl (hr.mono ay) (pv 1)) aw)) (ak (cZ Iv TC.cl (hr.mono ay) (pv 1)) aw))))) (aB (pS 4 nd (da (ak (kU K Z bo (ak (eY (N:=["_law_at"]) (js:=[none]) Z Z Z (kv K Z (cZ xW TC.cl (hr.mono ay) (pv 1))) (λ_ _ _ _ _=>(bj 0 (hJ _))) (λ_ _ _ _ _=>dS) (λ_ _ _ _ _=>(cS (x:="str") gD Z (B.at "str") gm (ak (pv 0) aw)))) aw)) (ak (pf Bt hr (ak (cZ Iu TC.cl (hr.mono ay) (pv 1)) aw)) (ak (cS (x:="str") gD rfl (B.at "str") gm (ak (cZ xV TC.cl (hr.mono ay) (pv 1)) aw)) aw))))) (aB (pS 4 nd (aQ (oW K Z) (pv 4) (da (ak (gZ (bX uy (pv 2) bo (bL _)) (pv 2) bo) (ak (kU K Z bo (ak (eY (N:=["_law_one"]) (js:=[none]) Z Z Z (kT K Z (pv 3)) (λ_ _ _ _ _=>(bj 0 (hJ _))) (λ_ _ _ _ _=>dS) (λ_ _ _ _ _=>(pf Bt hr (ak (pv 0) aw)))) aw)) aw))))) (aB (pS 4 nd (aQ (oW K Z) (pv 4) (da (ak (cZ Ir TC.cl (hr.mono ay) (pv 1)) (ak (gZ (bX uy (cZ Bs TC.cl (hr.mono ay) (pv 1)) bo (bL _)) (cZ Bs TC.cl (hr.mono ay) (pv 1)) bo) aw))))) (aB (pS 5 nd (px K (da (ak bo (ak bo aw))) (cS (x:="int") JA Z (B.at "int") vM (ak (cZ oJ TC.cl (hr.mono ay) (pv 1)) aw)))) (aJ (aP (aQ (oW K Z) (pv 4) (da (ak (aQ gM (aQ gM (pv 5) bo) (px K (da (ak bo (ak bo aw))) (cS (x:="int") JA Z (B.at "int") vM (ak (cZ sO TC.cl (hr.mono ay) (pv 1)) aw)))) aw))))))))))),?_⟩;refine⟨Z,?_⟩;refine⟨_,Z,r,dx,_,Z,e,Z,r,q,M,D',S,Z,R,ok,aG,λl ys H1 nl el rl s1=>?_⟩;have ly:=rl.length;refine⟨l,Z,⟨_,aI.of el⟩,λD1 H2 n2=>?_⟩;refine qx (K:=K) (ds:=(S.ds.map dU).map PyData.str) _ (aI.of el) n2 (by simp;exact ly) au (kZ _) ?_ ?_
  ·intro i x d H3 Q' ex ed s3 hq
   obtain⟨d',dD,rx⟩:=rl.get' i ex;rw[bR,bR,dD]at ed;cases ed;exact⟨_,Z,x,d',Z,RD.mono s3 _ rx,ti d' (fc dD),λH4 s4=>hq _ _ s4 (bu _)⟩
  intro H3 ws s3 d3 YL;rw[jK YL]at d3;refine⟨"\n",D1,S.ds.map dU,Z,Z,aI.of d3,λz hz=>?_,aF,by rw[bM];lia,?_⟩
  ·obtain⟨d,hd,rfl⟩:=cY.mp hz
   have:=uQ (ti d hd)
   lia
  have eU:=s1.trans s3;obtain⟨R3,e3⟩:=RR eU;refine⟨_,Z,_,Z,r,dx,_,Z,e3,Z,r,q,M,D',S,Z,R3,ok,aG,λl2 CB H4 GF el2 Yl s4=>?_⟩;refine⟨l2,CB,Z,.inl ⟨aI.of el2,λt H5 n5=>?_⟩⟩;have XM:=s4.trans n5.same;have pH:=eU.trans XM;obtain⟨R5,e5⟩:=RR pH;refine⟨_,Z,r,dx,_,Z,e5,Z,r,q,M,D',S,Z,R5,ok,aG,?_⟩;refine⟨m,.ref t,S.az,M.rs,M.r,M.f,M.j,M.t,S.ds,S.os,Z,RD.mono pH _ rm,aG,fR (aY.of n5.at') (aL.mono n5.same _ Yl),ok.row,au,ok.cL,ok.cV,λp zs H6 np ep rp s6=>?_⟩;have nV:=pH.trans s6;obtain⟨R6,e6⟩:=RR nV;refine⟨Z,?_⟩;refine⟨_,Z,r,dx,_,Z,e6,Z,r,q,M,D',S,Z,R6,ok,aG,λpv7 H7 Yf s7=>?_⟩;obtain⟨pa,px7,rfl,xH,hpx⟩:=Yf.cJ;rw[hpx.gP]at xH;have lpz:=G9 ok;have n3:=aG.n3;have XO:=nV.trans s7;refine⟨pa,Z,⟨_,xH⟩,λD8 H8 n8=>?_⟩;refine t9 (K:=K) (ds:=((gI S).map numS).map PyData.str) _ xH n8 (by simp) (by simp;lia) (kZ _) ?_ ?_
  ·intro i x d H9 Q' ex ed s9 hq
   rw[bR]at ex;obtain⟨n,en,rfl⟩:=yW.mp ex;rw[bR,bR,en]at ed;cases ed;exact⟨_,Z,.inl ⟨n,Z,ju (g.place n (fc en)),hq _ _ (aD.refl _) (bu _)⟩⟩
  intro H9 zs9 s9 d9 r9;rw[jK r9]at d9;refine⟨" ",D8,(gI S).map numS,Z,Z,aI.of d9,λz hz=>?_,aF,by rw[bM];lia,?_⟩
  ·obtain⟨n,hn,rfl⟩:=cY.mp hz
   have:=fM (g.place n hn)
   lia
  have Ob:=XO.trans s9;obtain⟨R9,e9⟩:=RR Ob;refine⟨_,Z,r,dx,_,Z,e9,Z,r,q,M,D',S,Z,R9,ok,aG,λv9 Y0=>⟨v9,_,_,Z,Y0.rd,g.pc.1,g.pc.2,?_⟩⟩;refine⟨_,Z,r,dx,_,Z,e9,Z,r,q,M,D',S,Z,R9,ok,aG,.inl ⟨_,Z,ju g.zJ,?_⟩⟩;refine⟨ck Z,λla HA nA=>?_⟩;have Oa:=Ob.trans nA.same;obtain⟨RA,eA⟩:=RR Oa;have O5:=s7.trans (s9.trans nA.same);refine⟨_,Z,?_⟩;refine QS (λQ' hq=>⟨_,Z,hq⟩) ?_;refine⟨Z,?_⟩;have lz:=rp.length;have lp:(kS M.r M.f M.j S.az S.os).length=S.os.length+1:=kz _ _;rw[bM,lp]at lz;have SA:=O5 _ _ ep;have Ye:=aL.mono O5 _ rp;refine⟨_,Z,p,Z,⟨_,aI.of SA⟩,λDB HB nB=>?_⟩;refine qx (K:=K) (ds:=((kS M.r M.f M.j S.az S.os).map Ah).map PyData.str) _ (aI.of SA) nB (by rw[bM,bM,lp];exact lz) au (kZ _) ?_ ?_
  ·intro i x d H5 Q' ex ed s5 hq
   obtain⟨d',dD,rx⟩:=Ye.get' i ex;rw[bR]at dD;rw[bR,bR]at ed;cases eq:(kS M.r M.f M.j S.az S.os)[i]? with |none=>rw[eq]at dD;cases dD |some qq=>rw[eq]at dD ed;cases dD;cases ed;obtain⟨hi,rfl⟩:=Al eq;obtain⟨n1,n2⟩:=vp (Am aG ok.row au ok.cL ok.cV i hi);exact⟨_,Z,x,_,_,Z,RD.mono s5 _ rx,n1,n2,hq _ _ (aD.refl _) (bu _)⟩
  intro HC ws sC dC rC;rw[jK rC]at dC;refine⟨" ",DB,_,Z,Z,aI.of dC,λz hz=>?_,aF,by rw[bM,lp];lia,?_⟩
  ·obtain⟨qq,hq,rfl⟩:=cY.mp hz
   obtain⟨i,hi⟩:=p9.mp hq;obtain⟨pZ,rfl⟩:=Al hi;obtain⟨n1,n2⟩:=vp (Am aG ok.row au ok.cL ok.cV i pZ);have:=yf n1 n2;show(hU _ _).length<=_
   lia
  refine⟨ck Z,λlb HD nD=>?_⟩;have ud:=sC.trans nD.same;refine⟨la,lb,_,_,Z,Z,aI.of (ud _ _ nA.at'),aI.of nD.at',by show 5<=_;lia,λlc HE nE=>?_⟩;have O9:=Oa.trans (ud.trans nE.same);obtain⟨RE,eE⟩:=RR O9;refine⟨_,Z,?_⟩;refine⟨_,Z,r,dx,_,Z,eE,Z,r,q,M,D',S,Z,RE,ok,aG,?_⟩;refine QS (z:=S.mark) (λQ' hq=>⟨_,Z,r,dx,_,Z,eE,Z,r,q,M,D',S,Z,RE,ok,aG,hq⟩) ?_;refine⟨ck Z,λld HF nF=>?_⟩;refine⟨lc,ld,_,_,Z,Z,aI.of (nF.same _ _ nE.at'),aI.of nF.at',by show 7<=_;lia,λlE HG nG=>?_⟩;have XN:=O9.trans (nF.same.trans nG.same);refine⟨ck Z,λlf HI nI=>?_⟩;have O8:=XN.trans nI.same;obtain⟨RI,eI⟩:=RR O8;obtain⟨hh1,hh2⟩:=a5p S;obtain⟨st,zL,pD⟩:=X4 S;have ad3:=dZ;refine⟨_,Z,r,dx,_,Z,eI,Z,r,q,M,D',S,Z,RI,ok,aG,.inr ⟨_,Z,.inl ⟨lf,_,_,_,Z,Z,aI.of nI.at',hh1,?_⟩⟩⟩;refine⟨_,Z,_,Z,_,_,Z,Z,by show(sL S).length+Str.length " "<=_;lia,?_⟩;refine⟨ck Z,λlg HJ nJ=>?_⟩;have O7:=O8.trans nJ.same;obtain⟨RJ,eJ⟩:=RR O7;refine⟨_,Z,r,dx,_,Z,eJ,Z,r,q,M,D',S,Z,RJ,ok,aG,.inr ⟨_,Z,.inl ⟨lg,_,_,_,Z,Z,aI.of nJ.at',hh2,?_⟩⟩⟩;refine⟨_,_,Z,Z,by simp only[cK];change (sL S).length+Str.length " "+_<=_;lia,?_⟩;refine⟨ck Z,λlh HL nL=>?_⟩;refine⟨lE,lh,_,_,Z,Z,aI.of (nL.same _ _ (nJ.same _ _ (nI.same _ _ nG.at'))),aI.of nL.at',by show 8<=_;lia,λli HM nM=>?_⟩;refine k _ _ (wV (aI.of nM.at') ?_) (O7.trans (nL.same.trans nM.same));have fin:aL K HM ((oX M S).map V.str) ((oX M S).map PyData.str):=Ll _;unfold oX pj at fin;show aL K HM _ _;rw[st];exact fin
end
open _T (numS numIn? Free)
section
variable {P:af}{w:World}{K:aa}{mg:bD}{ao:Heap}
theorem a9n(n:Int):("steps ":Str)++numS n=dW.txt (.steps n):=by show _=("steps":Str)++" "++numS n;rw[show("steps ":Str)="steps"++" " by decide+kernel]
theorem a9o(n:Int):("rate ":Str)++numS n=dW.txt (.az n):=by show _=("rate":Str)++" "++numS n;rw[show("rate ":Str)="rate"++" " by decide+kernel]
inductive abQ(vs:List V)(H:Hp)(Q:VK):Prop |mk (p:_)(h0:vs=[.ref p])(h1:fu H p)(h2:∀c H',vF c->bP p H H'->Q (.str (dW.txt c)) H')
def M7(K:aa):Sp:=λvs H Q _=>abQ vs H Q
abbrev Fb:Stmt:=top 123
theorem NF:aW ["_law_bag_here","_law_how"] ["_law_bag_here"] (aM Fb):=bh aF
theorem a1k(F:FA K mg "_law_deed" Fb)(B:bB mg)(dM:aA P w K mg ao "_law_take" 1 m9):aA P w K mg ao "_law_deed" 2 (M7 K):=by
 refine F.has NF (λvs H Q E h=>?_) (λ_ _ _ _ _ _=>cu λ_=>rfl) (λf aH A outer s H vs Q E hr h=>?_)
 ·obtain⟨p,rfl,_⟩:=h
  rfl
 ·obtain⟨p,rfl,bg,k⟩:=h
  have nd:=NF.nd;have iJ:sizeLine=16777216:=by decide
  refine⟨_,(aB (pS 1 nd (pf dM hr (ak (pv 0) (ak aE aw)))) (aB (bJ (bX kX (pv 1) aE (bL _)) (aJ (aP (aQ gM bo (cS (x:="str") gD Z (B.at "str") gm (ak (px K (da (ak (pf dM hr (ak (pv 0) (ak aE aw))) (ak (pf dM hr (ak (pv 0) (ak aE aw))) aw))) (aQ pM (pv 1) aE)) aw))))) bK) (aB (bJ (bX (dF K Z hr.units) (pv 1) aE (bL _)) (aJ (aP (aQ gM bo (cS (x:="str") gD Z (B.at "str") gm (ak (px K (da (ak (aQ dI aE (pf dM hr (ak (pv 0) (ak aE aw)))) (ak aE (ak aE (ak aE aw))))) (pf dM hr (ak (pv 0) (ak aE aw)))) aw))))) bK) (aJ (aP (px K (da (ak bo (ak bo (ak bo aw)))) (aQ jr (pv 1) aE))))))),?_⟩;refine⟨_,Z,p,8,Z,bg,ay,ay,λhow H1 h0 h1 b1=>?_⟩;refine⟨_,Z,_,_,Z,Z,_,Z,?_⟩;refine eP (λ_=>?_) (λh4=>?_)
  ·refine⟨_,Z,p,41,Z,b1.bO,ay,ay,λt1 H2 CT CS b2=>?_⟩
   refine⟨_,Z,p,5,Z,b2.bO,ay,ay,λt2 H3 t20 t21 b3=>?_⟩;refine⟨ck Z,λl H4 n4=>?_⟩;have b4:bP p H3 H4:=.eg b3.bO n4.same;refine⟨_,Z,_,_,Z,Z,(by decide:(0:Int)<2),?_⟩;obtain⟨n,mn,en⟩:=B0 [t1,t2] (i:=how%2) au (show how%2<2 by lia);have n40:0<=n/\n<=40:=by
    rcases cg.mp mn with rfl|mn
    ·lia
    rcases cg.mp mn with rfl|mn
    ·lia
    ·exact(eT mn).elim
   have nm:Nm n:=by show n.natAbs<10^40;lia
   have nl:=fM nm;have l6:Str.length "steps "=6:=by decide+kernel
   refine .inl ⟨l,_,_,_,Z,Z,aI.of n4.at',en,.inl ⟨n,Z,ju nm,_,_,Z,Z,by rw[l6];change _+(numS n).length<=_;lia,?_⟩⟩;have:=k (.steps n) H4 ⟨n40.1,au⟩ (b1.trans (b2.trans (b3.trans b4)));rw[<-a9n]at this;exact this
  ·refine⟨_,Z,.inl ⟨_,_,Z,Z,_,Z,?_⟩⟩
   refine eP (λ_=>?_) (λh5=>?_)
   ·refine⟨_,Z,p,191,Z,b1.bO,ay,ay,λt1 H2 CT CS b2=>?_⟩
    refine⟨_,_,Z,Z,?_⟩;refine⟨ck Z,λl H3 n3=>?_⟩;have b3:bP p H2 H3:=.eg b2.bO n3.same;have xq:l≠p:=λe=>b2.bO.ne (e▸n3.no);refine⟨_,Z,p,4,Z,b3.bO,ay,ay,λix H4 i0 i1 b4=>?_⟩;obtain⟨n,mn,en⟩:=B0 [10+t1,9,201,100] i0 i1;have adg:0<=n/\n<=300:=by
     rcases cg.mp mn with rfl|mn
     ·lia
     rcases cg.mp mn with rfl|mn
     ·lia
     rcases cg.mp mn with rfl|mn
     ·lia
     rcases cg.mp mn with rfl|mn
     ·lia
     ·exact(eT mn).elim
    have nm:Nm n:=by show n.natAbs<10^40;lia
    have nl:=fM nm;have l6:Str.length "rate "=5:=by decide+kernel
    refine .inl ⟨l,_,_,_,Z,Z,aI.of (b4.same _ _ xq n3.at'),en,.inl ⟨n,Z,ju nm,_,_,Z,Z,by rw[l6];change _+(numS n).length<=_;lia,?_⟩⟩;have:=k (.az n) H4 nm (b1.trans (b2.trans (b3.trans b4)));rw[<-a9o]at this;exact this
   ·refine⟨ck Z,λl H2 n2=>?_⟩
    have b2:bP p H1 H2:=.eg b1.bO n2.same;refine⟨_,Z,_,_,Z,Z,?_⟩;have g4:¬(how<4):=λz=>h4 (cf z);have g5:¬(how=4):=λz=>h5 (cf z);rcases(show how-5=0\/how-5=1\/how-5=2 by lia)with e|e|e
    ·rw[e]
     exact .inl ⟨l,_,_,_,Z,Z,aI.of n2.at',Z,k (.wd .hold) H2 trivial (b1.trans b2)⟩
    ·rw[e]
     exact .inl ⟨l,_,_,_,Z,Z,aI.of n2.at',Z,k (.wd .go) H2 trivial (b1.trans b2)⟩
    ·rw[e]
     exact .inl ⟨l,_,_,_,Z,Z,aI.of n2.at',Z,k (.wd .drop) H2 trivial (b1.trans b2)⟩
theorem fu.but{H H':Hp}{p:Addr}{S':List Addr}(h:fu H p)(b:cB S' H H')(hp:p∉S'):fu H' p:=by obtain⟨c,m,e,k⟩:=h;exact⟨c,m,b _ _ e hp,k⟩
theorem a3Q{M:bE}{ms:List Int}{sp:Int}(Gn:eQ M.rs.length 100 ms)(dZ:1<=sp)(ie:sp<=20):iO M.rs.length (eO ms sp) (some (ms,sp)):=⟨.inl ⟨ms,sp,Z,Z⟩,λn' s' e=>by cases e;exact⟨Gn,dZ,ie⟩,λe=>by cases e⟩
structure TW(K:aa)(C D:Addr)(H0:Hp)(M:bE)(p a r1 r2:Addr)(m:V)(H:Hp)(q1 q2:Addr)(S1 S2:ba):Prop where
 bg:fu H p
 dk:lV K D H a r1 M
 x1:bU K C H r1 q1 M S1
 x2:bU K C H r2 q2 M S2
 ms:RD K H m M.D
 hp:H0 p≠none
 fr:∀x o,H0 x=some o->x≠p->H x=some o
 za:H0 a=none
 z1:H0 r1=none
 z2:H0 r2=none
 y1:H0 q1=none
 y2:H0 q2=none
 rr:r1≠r2
 qq:q1≠q2
section
variable {C D:Addr}{H0:Hp}{M:bE}{p a r1 r2 q1 q2 q':Addr}{m:V}{H H':Hp}{S1 S2 S':ba}
theorem B5{H:Hp}{x y C dx:Addr}{fs:List (Str×V)}{ys:List V}(h1:H x=some (.ins C dx fs))(h2:H y=some (.lst ys)):x≠y:=xj h1 h2 (by intro z;cases z)
theorem Ac(x:bU K C H r1 q1 M S1)(bg:fu H p):p≠r1:=by obtain⟨c,m',ep,_⟩:=bg;obtain⟨rx,mv,bv,bS,tv,er,_⟩:=x.ob;exact(B5 er ep).symm
theorem Oe(x:bU K C H r1 q1 M S1){r:Addr}(dk:lV K D H a r M):a≠r1/\a≠q1:=by obtain⟨dx,mv,ea,_⟩:=dk;obtain⟨rx,Q4,bv,bS,tv,er,_⟩:=x.ob;obtain⟨ys,eq,_⟩:=x.qu;exact⟨xj ea er (by intro z;injection z with _ _ z;cases z),B5 ea eq⟩
theorem Aa(x:bU K C H r1 q1 M S1)(y:bU K C H r2 q2 M S2):r1≠q2:=by obtain⟨rx,Q4,bv,bS,tv,er,_⟩:=x.ob;obtain⟨ys,eq,_⟩:=y.qu;exact B5 er eq
theorem lV.v{r:Addr}(dk:lV K D H a r M)(v:cT H H')(ea:∀o,H a=some o->H' a=some o):lV K D H' a r M:=by obtain⟨dx,mv,e,rm⟩:=dk;exact⟨dx,mv,ea _ e,RD.v v _ (iG _ _ _ _ _) rm⟩
theorem TW.pq(h:TW K C D H0 M p a r1 r2 m H q1 q2 S1 S2):p≠q1/\p≠q2:=⟨λz=>h.hp (by rw[z];exact h.y1),λz=>h.hp (by rw[z];exact h.y2)⟩
theorem TW.same(h:TW K C D H0 M p a r1 r2 m H q1 q2 S1 S2)(n1:cx S1.ds=true)(n2:cx S2.ds=true)(s:aD H H'):TW K C D H0 M p a r1 r2 m H' q1 q2 S1 S2:=⟨(bP.eg h.bg s).bO,h.dk.v s.v (λo e=>s _ _ e),h.x1.same n1 s,h.x2.same n2 s,RD.mono s _ h.ms,h.hp,λx o e n=>s _ _ (h.fr x o e n),h.za,h.z1,h.z2,h.y1,h.y2,h.rr,h.qq⟩
theorem TW.draw(h:TW K C D H0 M p a r1 r2 m H q1 q2 S1 S2)(n1:cx S1.ds=true)(n2:cx S2.ds=true)(b:bP p H H'):TW K C D H0 M p a r1 r2 m H' q1 q2 S1 S2:=by
 have v:=(bP.t h.bg b).v;have ap:a≠p:=by obtain⟨dx,mv,ea,_⟩:=h.dk;obtain⟨c,m',ep,_⟩:=h.bg;exact B5 ea ep
 exact⟨b.bO,h.dk.v v (λo e=>b.same _ _ ap e),h.x1.go n1 v (λo e=>b.same _ _ (Ac h.x1 h.bg).symm e) (λo e=>b.same _ _ h.pq.1.symm e),h.x2.go n2 v (λo e=>b.same _ _ (Ac h.x2 h.bg).symm e) (λo e=>b.same _ _ h.pq.2.symm e),RD.v v _ (iG _ _ _ _ _) h.ms,h.hp,λx o e n=>b.same _ _ n (h.fr x o e n),h.za,h.z1,h.z2,h.y1,h.y2,h.rr,h.qq⟩
theorem mx{x r q:Addr}(h1:x≠r)(h2:x≠q):x∉[r,q]:=λz=>by simp only[cg,eT,iT]at z;exact z.elim h1 h2
theorem Sf(hp:H0 p≠none)(fr:∀x o,H0 x=some o->x≠p->H x=some o)(bg:fu H p)(nq:H q'=none):H0 q'=none:=by cases e:H0 q' with |none=>rfl |some o=>
 by_cases z:q'=p
 ·exact absurd nq (by rw[z];exact bg.ne)
 ·rw[fr _ _ e z]at nq;cases nq
theorem TW.AL(h:TW K C D H0 M p a r1 r2 m H q1 q2 S1 S2)(n2:cx S2.ds=true)(mv:Mv r1 q1 H q' H')(R:bU K C H' r1 q' M S'):TW K C D H0 M p a r1 r2 m H' q' q2 S' S2:=by
 have v:=h.x1.v mv.but;obtain⟨d1,d2⟩:=Oe h.x1 h.dk;have y':H0 q'=none:=mv.nq.elim (λe=>by rw[e];exact h.y1) λe=>Sf h.hp h.fr h.bg e;refine⟨fu.but h.bg mv.but (mx (Ac h.x1 h.bg) h.pq.1),h.dk.v v (λo e=>mv.but _ _ e (mx d1 d2)),R,h.x2.go n2 v (λo e=>mv.but _ _ e (mx h.rr.symm (Aa h.x2 h.x1))) (λo e=>mv.but _ _ e (mx (Aa h.x1 h.x2).symm h.qq.symm)),RD.v v _ (iG _ _ _ _ _) h.ms,h.hp,λx o e n=>mv.but _ _ (h.fr x o e n) (mx (λz=>by rw[z,h.z1]at e;cases e) (λz=>by rw[z,h.y1]at e;cases e)),h.za,h.z1,h.z2,y',h.y2,h.rr,λz=>?_⟩;rcases mv.nq with e|e
 ·exact h.qq (by rw[<-e,z])
 ·obtain⟨ys,eq,_⟩:=h.x2.qu
  rw[z,eq]at e;cases e
theorem TW.mC(h:TW K C D H0 M p a r1 r2 m H q1 q2 S1 S2)(n1:cx S1.ds=true)(mv:Mv r2 q2 H q' H')(R:bU K C H' r2 q' M S'):TW K C D H0 M p a r1 r2 m H' q1 q' S1 S':=by
 have v:=h.x2.v mv.but;obtain⟨d1,d2⟩:=Oe h.x2 h.dk;have y':H0 q'=none:=mv.nq.elim (λe=>by rw[e];exact h.y2) λe=>Sf h.hp h.fr h.bg e;refine⟨fu.but h.bg mv.but (mx (Ac h.x2 h.bg) h.pq.2),h.dk.v v (λo e=>mv.but _ _ e (mx d1 d2)),h.x1.go n1 v (λo e=>mv.but _ _ e (mx h.rr (Aa h.x1 h.x2))) (λo e=>mv.but _ _ e (mx (Aa h.x2 h.x1).symm h.qq)),R,RD.v v _ (iG _ _ _ _ _) h.ms,h.hp,λx o e n=>mv.but _ _ (h.fr x o e n) (mx (λz=>by rw[z,h.z2]at e;cases e) (λz=>by rw[z,h.y2]at e;cases e)),h.za,h.z1,h.z2,h.y1,y',h.rr,λz=>?_⟩;rcases mv.nq with e|e
 ·exact h.qq (by rw[<-e,z])
 ·obtain⟨ys,eq,_⟩:=h.x1.qu
  rw[<-z,eq]at e;cases e
end
theorem RG.sT{M:bE}{D:Nat}{S:ba}{d:ah}{o:Itm}(g:RG M D S)(it:iO M.rs.length d o)(hl:S.ds.length<20)(jO:fQ M.rs (iy (jx S) o)):RG M D (vf S d o):=⟨g.ok.sT it hl,g.aG,g.sd.eq Z Z,g.on.sT jO,g.hD⟩
theorem a7f{n:Nat}{d:ah}{o:Itm}{H:Hp}{v:V}(it:iO n d o)(r:RD K H v d):∃a y xs,v= .ref a/\aY K H a (.str y::xs)/\SeqAt.shaped (.str y)=true/\(PyData.eqv (.str y) (.str "line")=false->o=none):=by
 rcases it.it with⟨ns,sp,rfl,_⟩|⟨z,x,rfl,hw,_,rfl⟩
 ·obtain⟨a,xs,rfl,h1,h2⟩:=r.cJ
  obtain⟨x1,rr,rfl,e1,h2⟩:=h2.cons_inv;cases e1.str_inv;exact⟨a,"line",rr,Z,h1,pU,λz=>by rw[mW,cf rfl]at z;cases z⟩
 ·obtain⟨a,xs,rfl,h1,h2⟩:=r.cJ
  obtain⟨x1,rr,rfl,e1,h2⟩:=h2.cons_inv;cases e1.str_inv;exact⟨a,z,rr,Z,h1,tV hw,λ_=>rfl⟩
inductive abI(K:aa)(C:Addr)(D:Addr)(vs:List V)(H:Hp)(Q:VK):Prop |mk (H0:_)(p:_)(a:_)(r1:_)(r2:_)(m:_)(q1:_)(q2:_)(M:_)(D':_)(S:_)(most:_)(h0:vs=[.ref p,.ref a,.ref r2,m,.int most])(h1:TW K C D H0 M p a r1 r2 m H q1 q2 S S)(h2:RG M D' S)(h3:1<=most)(h4:most<=100)(h5:∀uq uo S' H',TW K C D H0 M p a r1 r2 m H' uq uo S' S'->RG M D' S'->Q (.bl true) H')
def M0(K:aa)(C D:Addr):Sp:=λvs H Q _=>abI K C D vs H Q
abbrev F3:Stmt:=top 125
theorem Nz:aW ["_law_bag_here","_law_desk","_law_runner","_law_machine_here","_law_most","_law_k","_law_plain","_law_item_here"] ["_law_bag_here","_law_desk","_law_runner","_law_machine_here","_law_most"] (aM F3):=bh aF
theorem a1d{C D cR cM:Addr}(F:FA K mg "_law_fed" F3)(B:bB mg)(DC:nu K D)(TC:cX K C)(dM:aA P w K mg ao "_law_take" 1 m9)(a6r:aA P w K mg ao "_law_item" 3 (LY K))(a6q:aA P w K mg ao "_law_line_from" 2 (Dq K))(xY:aA P w K mg ao "_law_item_text" 1 (qY K))(Iw:bQ P w K mg ao C "leads_to" 3 (cP K C λ_ S H Q=>∀v H',RD K H' v (fG (jx S))->aD H H'->Q v H'))(qh:bQ P w K mg ao C "waiting" 1 (cP K C λ_ S H Q=>∀l ys H',H l=none->H' l=some (.lst ys)->aL K H' ys S.ds->aD H H'->Q (.ref l) H'))(IA:bQ P w K mg ao C "feed" 5 (Df K C))(y8:bQ P w K mg ao D "say" 14 (λvs H Q _=>zP K C D cR cM vs H Q E0)):aA P w K mg ao "_law_fed" 15 (M0 K C D):=by
 refine F.has Nz (λvs H Q E h=>?_) (λ_ _ _ _ _ _=>al5 λ_ _ _ _ _=>rfl) (λf aH A outer s H vs Q E hr h=>?_)
 ·obtain⟨H0,p,a,r1,r2,m,q1,q2,M,D',S,most,rfl,_⟩:=h
  rfl
 ·obtain⟨H0,p,a,r1,r2,m,q1,q2,M,D',S,most,rfl,T,g,Q8,Q7,k⟩:=h
  have nd:=Nz.nd;have aG:=g.aG;have n3:=aG.n3;refine⟨_,(aB (jN gT Z (pJ Z (B.at "range") (ak (aQ dI aE (pf dM hr (ak (pv 0) (ak aE aw)))) aw)) (bj 5 nd) (aB (pS 6 nd (jq (dF K Z hr.units) (pf dM hr (ak (pv 0) (ak aE aw))) aE (bL _))) (aB (pS 7 nd (pf a6r hr (ak (pv 0) (ak (fH K B (ak (px K (pv 3) aE) aw)) aw)))) (aB (iX (bJ (PW.pt (kR (dB (cH (pv 6))) (kQ (bX (dF K Z hr.units) (px K (pv 7) aE) bo (bL _))))) (aJ (pS 7 nd (pf a6q hr (ak (pv 0) (ak (pv 3) (ak (cZ Iw TC.cl (hr.mono ay) (pv 2)) (ak (pv 4) aw))))))) bK)) (aJ (bJ (bX kX (fH K B (ak (cZ qh TC.cl (hr.mono ay) (pv 2)) aw)) aE (bL _)) (aJ (bJ (bX uy (mq y8 DC.cl (hr.mono ay) (pv 1) (ak (pf xY hr (ak (pv 7) aw)) aw)) (cS (x:="str") gD Z (B.at "str") gm (ak (mq IA TC.cl (hr.mono ay) (pv 2) (ak (pv 7) aw)) aw)) (bL _)) (aJ (aP gK)) bK)) bK)))))) (aJ (aP gK))),?_⟩;refine⟨_,Z,p,3,Z,T.bg,ay,ay,λt0 H1 Lj Li b1=>?_⟩;refine⟨_,_,Z,Z,_,Z,?_,?_,?_⟩
  ·lia
  ·lia
  refine Bz (Pv:=λi O H2=>∃q1 q2 S v5 v6 v7,O=[some (.ref p),some (.ref a),some (.ref r2),some m,some (.int most),v5,v6,v7]/\TW K C D H0 M p a r1 r2 m H2 q1 q2 S S/\RG M D' S) ?_ ?_ ?_
  ·exact⟨q1,q2,S,none,none,none,Z,T.draw g.ok.row.no g.ok.row.no b1,g⟩
  ·rintro i O H2 hi ⟨q1,q2,S,v5,v6,v7,rfl,T2,g⟩
   have no:=g.ok.row.no;refine⟨_,Z,p,3,Z,T2.bg,ay,ay,λt1 H3 CT CS b3=>.inl ⟨_,_,Z,Z,?_⟩⟩;have T3:=T2.draw no no b3;obtain⟨ma,mb,hm,gQ,j6⟩:=mF T3.ms;refine⟨_,Z,_,Z,.inr ⟨ma,_,0,.ref mb,hm,Z,gQ,cE (dY 0) Z,mb,_,Z,.inr j6,?_⟩⟩;rw[bM];refine⟨p,M.rs.length,Z,T3.bg,n3.1,n3.2,λiv d o H4 ri it b4=>?_⟩;have T4:=T3.draw no no b4;refine⟨λO H5=>∃iv d o v6,O=[some (.ref p),some (.ref a),some (.ref r2),some m,some (.int most),some (.int (0+(i:Int))),v6,some iv]/\TW K C D H0 M p a r1 r2 m H5 q1 q2 S S/\RD K H5 iv d/\iO M.rs.length d o/\fQ M.rs (iy (jx S) o),?_,?_⟩
   ·have line:∀(v6:Option V)(iv:Option V),∀H4,TW K C D H0 M p a r1 r2 m H4 q1 q2 S S->wq (CP (Dq K) (wo (tZ 0) (wo (tZ 3) (wo (CO C "leads_to" (cP K C λ_ S H Q=>∀v H',RD K H' v (fG (jx S))->aD H H'->Q v H') (tZ 2) m4) (wo (tZ 4) m4))))) (gB 7) {nx:=λO H5=>∃iv d o v6,O=[some (.ref p),some (.ref a),some (.ref r2),some m,some (.int most),some (.int (0+(i:Int))),v6,some iv]/\TW K C D H0 M p a r1 r2 m H5 q1 q2 S S/\RD K H5 iv d/\iO M.rs.length d o/\fQ M.rs (iy (jx S) o),rt:=Q} [some (.ref p),some (.ref a),some (.ref r2),some m,some (.int most),some (.int (0+(i:Int))),v6,iv] H4:=λv6 iv H4 T4=>by obtain⟨dx,mv,bv,bS,tv,e,_⟩:=T4.x2.ob;refine⟨_,Z,_,Z,_,Z,r2,dx,_,Z,e,Z,r2,q2,M,D',S,Z,T4.x2,g.ok,aG,λgv H5 rg s5=>?_⟩;have T5:=T4.same no no s5;refine⟨_,Z,p,m,M.rs,M.r,M.f,M.j,M.t,gv,jx S,most,Z,T5.bg,T5.ms,aG,rg,g.on.goal,Q8,Q7,λiv' ns sp H6 rl Gn AA dZ ie b6=>?_⟩;exact⟨iv',_,some (ns,sp),v6,Z,T5.draw no no b6,rl,a3Q Gn dZ ie,AA⟩
    obtain⟨wa,y,xs,rfl,hwa,Xl,kE⟩:=a7f it ri;by_cases hb:t1=0
    ·refine⟨_,Z,_,Z,?_⟩
     rw[cf hb];refine aV ⟨_,Z,.inr ⟨wa,_,0,.str y,Z,Z,hwa,cE (dY 0) Z,.inr ⟨_,_,bu _,bu _,Xl,pU,_,Z,?_⟩⟩⟩;cases hc:PyData.eqv (.str y) (.str "line")with |true=>exact bG (line _ _ H4 T4) |false=>refine aV ⟨_,d,o,_,Z,T4,ri,it,?_⟩;rw[kE hc];exact g.on.goal
    ·refine⟨_,Z,_,Z,?_⟩
     rw[dE hb];exact bG (line _ _ H4 T4)
   ·rintro O H5 ⟨iv,d,o,v6,rfl,T5,ri,it,jO⟩
    obtain⟨dx,mv,bv,bS,tv,e,_⟩:=T5.x2.ob;refine⟨_,Z,r2,dx,_,Z,e,Z,r2,q2,M,D',S,Z,T5.x2,g.ok,aG,λl ys H6 nl el rl s6=>?_⟩;have T6:=T5.same no no s6;have Ov:=RD.mono s6 _ ri;refine⟨l,_,Z,.inl (aI.of el),_,_,Z,Z,_,Z,?_⟩;have ly:=rl.length;refine eP (λhl=>?_) (λhl=>?_)
    ·have l10:S.ds.length<10:=by
      have:=kg hl
      lia
     have tx:=it.tx n3.1 n3.2;obtain⟨dxa,mva,ea,_⟩:=T6.dk;refine⟨_,Z,a,dxa,_,Z,ea,Z,_,Z,iv,d,Z,Ov,tx.ti,λH7 s7=>?_⟩;have T7:=T6.same no no s7;refine⟨a,r1,q1,M,D',S,.item d o,Z,T7.dk,T7.x1,g,it,jO,au,λH8 R8 b8=>?_⟩;have T8:=T7.AL no ⟨b8,.inl Z⟩ R8;have v8:=T7.x1.v b8;have Ym:=RD.v v8 _ tx.no (RD.mono s7 _ Ov);obtain⟨jW,mC,bv2,Zo,W4,e2,_⟩:=T8.x2.ob;refine⟨_,Z,r2,jW,_,Z,e2,Z,_,Z,r2,q2,M,D',S,iv,d,o,Z,T8.x2,g.ok,aG,Ym,it,jO,au,λH9 R9 b9=>.inl ⟨_,Z,ju (show((S.ds.length+1:Nat):Int).natAbs<10^40 by lia),Z,_,Z,?_⟩⟩;have g':=g.sT it au jO;have T9:=T8.mC g'.ok.row.no ⟨b9,.inl Z⟩ R9;rw[cf (show V.str (numS ((S.ds.length+1:Nat):Int))=V.str (Str.ofString (toString ((S.ds.length+1:Nat):Int)))from Z)];exact aV ⟨q1,q2,_,_,_,_,Z,T9,g'⟩
    ·exact⟨q1,q2,S,_,_,_,Z,T6,g⟩
  ·rintro O H2 ⟨q1,q2,S,v5,v6,v7,rfl,T2,g⟩
   exact k q1 q2 S H2 T2 g
end
open _T (numS numIn? Free)
section
variable {P:af}{w:World}{K:aa}{mg:bD}{ao:Heap}
theorem RG.out{M:bE}{D:Nat}{S S':ba}{c:dW}{z:Str}(g:RG M D S)(h:Out M S c S' z)(hD:D<=900):RG M (D+10) S':=by
 have o:=g.ok;have D1:=o.D1;have up:∀{S1:ba},cA M D S1->cA M (D+10) S1:=λ{S1} o=>by refine⟨o.row,o.rw,o.len,o.cL,o.cV,o.dn,o.pl,o.pd.mono au,o.pm,?_,au,au⟩;have st:=o.aR;cases hs:S1.aR with |none=>trivial |some z=>rw[hs]at st;obtain⟨sq,gs,gn⟩:=z;obtain⟨a1,a2,a3,a4,a5⟩:=st;exact⟨a1,a2,a3,a4.mono au,a5⟩
 cases h with |hold=>exact⟨o.hold g.aG au,g.aG,by unfold jS;split<;>exact g.sd.eq Z Z,a4D g.on,au⟩ |go=>exact⟨up ⟨o.row,o.rw,o.len,o.cL,o.cV,o.dn,o.pl,o.pd,o.pm,trivial,o.D1,o.D2⟩,g.aG,g.sd.eq Z Z,g.on.eq Z Z,au⟩ |yo=>exact⟨up o,g.aG,g.sd,g.on,au⟩ |drop=>exact⟨up o.drop,g.aG,g.sd.eq Z Z,g.on.drop o,au⟩ |steps r=>exact⟨up (r.ok o g.aG),g.aG,r.sd o g.aG g.sd,r.Gj o g.aG g.on,au⟩ |uj=>exact⟨up o,g.aG,g.sd,g.on,au⟩ |ui=>exact⟨up o,g.aG,g.sd,g.on,au⟩ |az h1 h2=>exact⟨up ⟨o.row,o.rw,o.len,h1,h2,o.dn,o.pl,o.pd,o.pm,o.aR,o.D1,o.D2⟩,g.aG,g.sd.eq Z Z,g.on.eq Z Z,au⟩
theorem a1P(ns:List Int):cU (gO ns):=cU.join (iY aF) λa ha=>by obtain⟨i,_,rfl⟩:=cY.mp ha;exact pN i
theorem Sh(a b:Int):cU (hU a b):=by
 unfold hU;split
 ·exact pN a
 ·exact((pN a).app (iY aF)).app (pN b)
theorem PF{z:Str}(h:cU z):cU (jP z):=by
 unfold jP;split
 ·exact iY aF
 ·exact h
theorem vw{M:bE}{D:Nat}{S:ba}(g:RG M D S):dh 1 (.list ((oX M S).map PyData.str)):=by
 refine gF.lst (n:=0) λd hd=>?_;obtain⟨z,hz,rfl⟩:=cY.mp hd;refine⟨?_,fC _⟩;have key:cU z:=by
  unfold oX pj at hz;simp only[qM,List.map_nil,cg,eT,iT]at hz;rcases hz with rfl|rfl|rfl|rfl|rfl|rfl|rfl|rfl
  ·exact a1P _
  ·exact Sh _ _
  ·exact pN _
  ·refine PF (cU.join (iY aF) λa ha=>?_)
   obtain⟨d,hd,rfl⟩:=cY.mp ha;exact(g.ok.tx g.aG d hd).ok
  ·refine cU.join (iY aF) λa ha=>?_
   obtain⟨q,_,rfl⟩:=cY.mp ha;exact Sh _ _
  ·exact g.sd.s2
  ·exact PF g.sd.m2
  ·show cU (qX S)
   unfold qX;split<;>exact iY aF
 show z.cps.all (·<0x110000)=true;rw[KI];exact λc hc=>cf (key c (Array.mem_toList_iff.mpr hc))
theorem a9p{c:dW}(h:vF c):c.txt.length<=100:=by
 have h1:=dZ
 match c,h with
 | .wd .hold,_=>decide+kernel | .wd .go,_=>decide+kernel | .wd .drop,_=>decide+kernel | .steps n,h=>
  have:=fM (show Nm n by show n.natAbs<10^40;have:=h.1;have:=h.2;lia);have e5:Str.length "steps"=5:=by decide+kernel
  show(("steps":Str)++" "++numS n).length<=100;simp only[cK]
  lia | .az n,h=>
  have:=fM (show Nm n from h);have e5:Str.length "rate"=4:=by decide+kernel
  show(("rate":Str)++" "++numS n).length<=100;simp only[cK]
  lia
theorem a44{c:TT}{ta tb:TS}{D:Ends}{O:_L.St}{H:Hp}(Pz:Hp->Prop)(hr:∀H',Pz H'->tb D O H')(h:(∀H',Pz H'->tb D O H')->zF c ta tb D O H):zF c ta tb D O H:=h hr
def LW(K:aa):Sp:=λvs H Q _=>∃(a:Addr)(ns:List Int),vs=[.ref a]/\aI K H a (ns.map V.int)/\ns.length<=63/\∀H',Q (.bl true) H'
abbrev wH:Stmt:=top 126
theorem Na:aW ["_law_script","_law_at","_law_bag_here","_law_most","_law_deeds","_law_machine_here","_law_place_here","_law_desk","_law_runner","_law_deed_here"] ["_law_script"] (aM wH):=bh aF
theorem a0P{C D:Addr}{f:Addr}{fd:FuncData}(F:ka K "law" "law" wH f fd)(B:bB mg)(DC:nu K D)(TC:cX K C)(a6w:aA P w K mg ao "_law_bag" 1 (Ma K))(dM:aA P w K mg ao "_law_take" 1 m9)(a6p:aA P w K mg ao "_law_machine" 2 (LV K))(a6n:aA P w K mg ao "_law_place" 2 (LR K))(a6u:aA P w K mg ao "_law_deed" 2 (M7 K))(a6z:tH P w K mg ao D "Desk" 5 (M8 K C D))(Ip:tH P w K mg ao C "Runner" 1 (D7 K C))(RX:aA P w K mg ao "_law_asked" 15 (Mb K C D))(RW:aA P w K mg ao "_law_state_due" 10 (M6 K C))(a6s:aA P w K mg ao "_law_fed" 15 (M0 K C D))(a6m:aA P w K mg ao "_law_told" 15 (LG K C D))(a6v:aA P w K mg ao "_law_by_runner" 13 (M9 K C)):eG P w K mg ao ib 16 f fd ["_law_script"] (LW K):=by
 refine F.ok Na (λvs H Q E h=>?_) (λaH A outer s H vs Q E hr h=>?_)
 ·obtain⟨a,ns,rfl,_⟩:=h
  rfl
 ·obtain⟨a,ns,rfl,hS,hlen,k⟩:=h
  have nd:=Na.nd;have iJ:sizeLine=16777216:=by decide
  refine⟨_,(aB (jN gT Z (pJ Z (B.at "range") (ak (dg (x:="max") (TN rfl) rfl (B.at "max") V1 (ak aE (ak (dg (x:="min") (Jy rfl) rfl (B.at "min") V0 (ak aE (ak (fH K B (ak (pv 0) aw)) aw))) aw))) aw)) (bj 1 nd) (aB (pS 2 nd (pf a6w hr (ak (pv 0) (ak (pv 1) aw)))) (aB (pS 3 nd (px K (da (ak aE (ak aE (ak aE aw)))) (pf dM hr (ak (pv 2) (ak aE aw))))) (aB (Ai (i0:=4) nd Z (Or.inl Z) (N:=["_law_k","_law_bag_here"]) (js:=[none,some 2]) Z Z Z (pJ Z (B.at "range") (ak (aQ dI aE (pf dM hr (ak (pv 2) (ak aE aw)))) aw)) (λ_ _ _ _ _=>(bj 0 (kx ay))) (λ_ _ _ _ _=>dS) (λ_ _ _ _ _=>(pf a6u hr (ak (pv 1) aw)))) (aB (pS 5 nd (pf a6p hr (ak (pv 2) aw))) (aB (pS 6 nd (pf a6n hr (ak (pv 2) (ak (pv 5) aw)))) (aB (pS 7 nd (Ge a6z (hr.mono ay) Z (ak (pv 5) (ak (pv 6) aw)))) (aB (pS 8 nd (Ge Ip (hr.mono ay) Z (ak (pv 5) (ak (pv 6) aw)))) (aB (bJ (bX (my K Z hr.units) (pf RX hr (ak (pv 7) aw)) (pf RW hr (ak (pv 5) (ak (pv 8) aw))) (bL _)) (aJ (aP gK)) bK) (aJ (jN gT Z (kT K Z (pv 4)) (bj 9 nd) (aB (bJ (PW.pt (rJ (bX (dF K Z hr.units) (pf dM hr (ak (pv 2) (ak aE aw))) aE (bL _)) (wW (dB (cH (pf a6s hr (ak (pv 2) (ak (pv 7) (ak (pv 8) (ak (pv 5) (ak (pv 3) aw))))))))))) (aJ (aP gK)) bK) (aB (bJ (bX uy (pf a6m hr (ak (pv 7) (ak (pv 9) aw))) (pf a6v hr (ak (pv 8) (ak (Gg K Z (pv 9) (ak bo aw)) aw))) (bL _)) (aJ (aP gK)) bK) (aJ (bJ (bX (my K Z hr.units) (pf RX hr (ak (pv 7) aw)) (pf RW hr (ak (pv 5) (ak (pv 8) aw))) (bL _)) (aJ (aP gK)) bK))))))))))))))) (aJ (aP gK))),?_⟩;refine⟨_,Z,a,_,Z,.inl hS,_,_,Z,_,_,Z,_,Z,?_,?_,?_⟩
  ·split<;>(try split)<;>lia
  ·split<;>(try split)<;>(try rw[bM])<;>lia
  have hN:(if(if((ns.map V.int).length:Int)<3 then((ns.map V.int).length:Int)else 3)>1 then(if((ns.map V.int).length:Int)<3 then((ns.map V.int).length:Int)else 3)else 1).toNat<=4:=by split<;>(try split)<;>lia
  refine Bz (Pv:=λi O H2=>aD H H2/\∃v1 v2 v3 v4 v5 v6 v7 v8 v9,O=[some (.ref a),v1,v2,v3,v4,v5,v6,v7,v8,v9]) ?_ ?_ ?_
  ·exact⟨aD.refl _,none,none,none,none,none,none,none,none,none,Z⟩
  ·rintro i O H2 hi ⟨s2,v1,v2,v3,v4,v5,v6,v7,v8,v9,rfl⟩
   have hi8:i<4:=fD hi hN;refine⟨_,Z,_,Z,a,ns,_,Z,s2.seq hS,hlen,au,au,λp H3 np TZ s3=>?_⟩;refine⟨ck Z,λl H4 n4=>?_⟩;have b4:bP p H3 H4:=.eg TZ n4.same;have xq:l≠p:=λe=>TZ.ne (e▸n4.no);refine⟨_,Z,p,3,Z,b4.bO,ay,ay,λix H5 i0 i1 b5=>?_⟩;obtain⟨most,mm,em⟩:=B0 [3,12,30] i0 i1;have Qf:1<=most/\most<=100:=by
    rcases cg.mp mm with rfl|mm
    ·lia
    rcases cg.mp mm with rfl|mm
    ·lia
    rcases cg.mp mm with rfl|mm
    ·lia
    ·exact(eT mm).elim
   refine .inl ⟨l,_,_,_,Z,Z,aI.of (b5.same _ _ xq n4.at'),em,?_⟩;refine⟨_,Z,p,10,Z,b5.bO,ay,ay,λt0 H6 Lj Li b6=>?_⟩;refine⟨_,_,Z,Z,_,Z,au,au,λld H7 n7=>?_⟩;refine Jt (K:=K) (J:=nj 0 (3+t0).toNat) (p:=p) (H:=H6) (3+t0).toNat _ n7 b6.bO au (λi=>.int (0+(i:Int))) (λi H3 hi _=>⟨hi,λy H4 ⟨e,q⟩=>⟨e,q⟩⟩) (λH3 _=>bI _) (λ_ d=>∃c,vF c/\d= .str (dW.txt c)) ?_ ?_
   ·intro i H8 Q' hi b8 hq
    exact⟨_,Z,p,Z,b8.bO,λc H9 dc b9=>hq _ (.str c.txt) _ ⟨c,dc,Z⟩ Z (bu _) b9⟩
   intro H8 ys ds b8 d8 r8 l8 nl8 Zm;refine⟨_,Z,p,Z,b8.bO,λm rs r f' j t H9 rm aG b9=>?_⟩;refine⟨_,Z,_,Z,p,m,rs,r,f',j,t,Z,b9.bO,rm,aG,λgY pl HA rp jO bA=>?_⟩;have Bi:H p=none:=by cases e:H p with |none=>rfl |some o=>exact absurd (s2 _ _ e) (by rw[np];exact λz=>nomatch z)
   have XJ:aD H HA:=bP.XH (s2.trans s3) Bi (b4.trans (b5.trans (b6.trans (b8.trans (b9.trans bA)))));have Ae:RD K HA m (bE.D ⟨rs,r,f',j,t⟩):=RD.v (bP.t b9.bO bA).v _ (iG _ _ _ _ _) rm;generalize hM:(⟨rs,r,f',j,t⟩:bE)=M at Ae;have AB:M.Ok:=by rw[<-hM];exact aG
   have Gi:fQ M.rs pl:=by rw[<-hM];exact jO
   have AV:ld≠p:=λe=>b6.bO.ne (e▸n7.no);have dA:HA ld=some (.lst ys):=bA.same _ _ AV (b9.same _ _ AV d8);have rA:aL K HA ys ds:=aL.v ((bP.t b8.bO (b9.trans bA)).v) _ nl8 r8;have ly:=r8.length;refine⟨_,Z,_,Z,λx dx hx hdx ne=>?_⟩;have wJ:aD HA (_L.upd (_L.upd HA dx (.own x)) x (.ins D dx [])):=(aD.new hdx).trans (aD.new (by rw[aU ne.symm];exact hx));refine⟨x,dx,m,gY,M,pl,Z,bW,RD.mono wJ _ Ae,RD.mono wJ _ rp,AB,Gi,λr1 q1 HB dk R1 nr nq bt=>⟨Z,?_⟩⟩;have wK:aD HA HB:=λb o eb=>bt b o (wJ b o eb) λz=>by rw[cW.mp z,hx]at eb;cases eb
   have nA:∀{Hz:Hp}{b:Addr},aD HA Hz->Hz b=none->HA b=none:=λ{Hz b} s h=>by cases e:HA b with |none=>rfl |some o=>rw[s _ _ e]at h;cases h
   refine⟨_,Z,_,Z,λr2 jW pX a5q ne2=>?_⟩;have wI:aD HB (_L.upd (_L.upd HB jW (.own r2)) r2 (.ins C jW [])):=(aD.new a5q).trans (aD.new (by rw[aU ne2.symm];exact pX));refine⟨r2,jW,m,gY,M,pl,Z,bW,RD.mono wI _ (RD.mono wK _ Ae),RD.mono wI _ (RD.mono wK _ rp),λq2 HC R2 Gy bt2=>⟨Z,?_⟩⟩;have A7:aD HB HC:=λb o eb=>bt2 b o (wI b o eb) λz=>by rw[cW.mp z,pX]at eb;cases eb
   have FD:=wK.trans A7;have xh:cx (nT pl).ds=true:=rfl;have T:TW K C D HA M p x r1 r2 m HC q1 q2 (nT pl) (nT pl):=by
    refine⟨(bP.eg bA.bO FD).bO,dk.v A7.v (λo e=>A7 _ _ e),R1.same xh A7,R2,RD.mono FD _ Ae,bA.bO.ne,λb o e _=>FD _ _ e,hx,nA wJ nr,nA wK pX,nA wJ nq,nA (wK.trans wI) Gy,λz=>?_,λz=>?_⟩
    ·obtain⟨qv,Q4,yz,wZ,we,e',_⟩:=R1.ob
     rw[z,pX]at e';cases e'
    ·obtain⟨ys',e',_⟩:=R1.qu
     rw[z]at e';rw[wI _ _ e']at Gy;cases Gy
   have g:RG M 64 (nT pl):=⟨Yg Gi.len,AB,⟨show Str.length "up"<=100 by decide+kernel,show Str.length ""<=100 by decide+kernel,show cU "up" from iY aF,show cU "" from iY aF⟩,λi hi=>by have:i=0:=Nat.le_zero.mp hi;rw[this];exact Gi,ay⟩;refine⟨_,Z,x,r1,q1,M,64,_,Z,T.dk,T.x1,g,λv1 HD rE sD=>?_⟩;have TD:=T.same xh xh sD;refine⟨_,Z,_,Z,m,r2,q2,M,64,_,Z,TD.ms,TD.x2,g,λv2 HE mi sE=>.inr ⟨_,_,RD.mono sE _ rE,mi,(vw g).shaped ay,(vw g).shaped ay,_,Z,?_⟩⟩;have TE:=TD.same xh xh sE;rw[(vw g).refl];refine aV ?_;refine⟨_,Z,ld,Z,⟨_,aI.of (TE.fr _ _ dA AV)⟩,?_⟩;refine IW (K:=K) (a:=ld) (xs:=ys) (λn O Hx=>∃q1 q2 S v9,O=[some (.ref a),some (.int (0+(i:Int))),some (.ref p),some (.int most),some (.ref ld),some m,some gY,some (.ref x),some (.ref r2),v9]/\TW K C D HA M p x r1 r2 m Hx q1 q2 S S/\RG M (64+10*n) S) ⟨q1,q2,_,_,Z,TE,g⟩ (λn O Hx _ h=>by obtain⟨_,_,_,_,_,T,_⟩:=h;exact aI.of (T.fr _ _ dA AV)) ?_ ?_
   ·rintro n y O Hx hy ⟨q1,q2,S,v9,rfl,T,g⟩
    obtain⟨d,ed,rd⟩:=rA.get' n hy;obtain⟨c,dc,rfl⟩:=Zm n d ed;cases rd.str_inv;have n12:n<12:=by
     have:=(dw.mp hy).1
     lia
    have no:=g.ok.row.no;refine a44 (λH'=>∃q1 q2 S,TW K C D HA M p x r1 r2 m H' q1 q2 S S/\RG M (64+10*n) S) (λHF hF=>?_) (λRf=>?_)
    ·obtain⟨q1,q2,S,T,g⟩:=hF
     have no:=g.ok.row.no;refine⟨_,Z,_,Z,x,r1,q1,M,_,S,c,Z,T.dk,T.x1,g,dc,λS1 z1 uq HG Pe RG1 AL=>?_⟩;have T1:=T.AL no AL RG1;have g1:=g.out Pe au;have cl:=a9p dc;refine⟨_,Z,_,Z,Z,c.txt," ",Z,Z,aF,au,λlw HI nI=>?_⟩;have T2:=T1.same g1.ok.row.no no nI.same;refine⟨r2,q2,M,_,S,c,lw,Z,aI.of nI.at',T2.x2,g,dc,λS2 z2 uo HJ Zy RG2 mC=>⟨Z,_,Z,?_⟩⟩;obtain⟨e1,e2⟩:=Pe.det Zy;subst e1 e2;have T3:=T2.mC g1.ok.row.no mC RG2;rw[cf rfl];refine aV ?_;have AG:=g1.ok.row.no;refine⟨_,Z,x,r1,uq,M,_,_,Z,T3.dk,T3.x1,g1,λv1 HD rE sD=>?_⟩;have TD:=T3.same AG AG sD;refine⟨_,Z,_,Z,m,r2,uo,M,_,_,Z,TD.ms,TD.x2,g1,λv2 HE mi sE=>.inr ⟨_,_,RD.mono sE _ rE,mi,(vw g1).shaped ay,(vw g1).shaped ay,_,Z,?_⟩⟩;have TE:=TD.same AG AG sE;rw[(vw g1).refl];exact aV ⟨uq,uo,_,_,Z,TE,g1⟩
    ·refine⟨_,Z,p,2,Z,T.bg,ay,ay,λt1 HF CT CS bF=>.inl ⟨_,_,Z,Z,_,Z,?_⟩⟩
     have TF:=T.draw no no bF;refine eP (λ_=>?_) (λ_=>?_)
     ·exact⟨_,Z,_,Z,_,Z,_,Z,_,Z,HA,p,x,r1,r2,m,q1,q2,M,_,S,most,Z,TF,g,Qf.1,Qf.2,λuq uo S' HG TG gG=>⟨_,Z,aV (Rf _ ⟨uq,uo,S',TG,gG⟩)⟩⟩
     ·exact aV (Rf _ ⟨q1,q2,S,TF,g⟩)
   ·rintro O Hx ⟨q1,q2,S,v9,rfl,T,g⟩
    exact⟨λb o e=>T.fr b o (XJ _ _ e) (λz=>by rw[z,Bi]at e;cases e),_,_,_,_,_,_,_,_,_,rfl⟩
  ·rintro O H2 ⟨s2,v1,v2,v3,v4,v5,v6,v7,v8,v9,rfl⟩
   exact k H2
end
end _b
set_option maxHeartbeats 1000000
namespace _b
open PySem PySem.Spec PyProof.Rows _L
theorem lJ{K:aa}{mg:bD}{h:Heap}{x:Str}{c:Addr}(X:K.In h)(G:h.Ns mainGlobals mg)(a:PySem.W.nsIn K mainGlobals x=some (some (.ref c))):GV mg x (.ref c):=⟨_,tP X G a,Z⟩
theorem Jd{K:aa}{mg:bD}{h:Heap}{x:Str}{c:Addr}{bm:List Value}{nw:String}(X:K.In h)(G:h.Ns mainGlobals mg)(a:PySem.W.nsIn K mainGlobals x=some (some (.ref c)))(q:PySem.W.excIn K c bm nw=true):Exc K mg x c bm nw:=⟨tP X G a,q⟩
theorem lR{K:aa}{mg:bD}{h:Heap}{a:Addr}{v:Value}{fn z:Str}(X:K.In h)(G:h.Ns mainGlobals mg)(e1:PySem.W.nsIn K mainGlobals fn=some (some v))(e2:PySem.W.nsIn K a z=some (some v)):PySem.W.nsIn K a z=some (mg fn)/\∃v,PySem.W.nsIn K a z=some (some v):=by rw[e2,tP X G e1];exact⟨Z,v,Z⟩
theorem a9q{K:aa}{mg:bD}{h:Heap}{cG c0 c1 c2 c3 c4 c5 c6 c7 c8 c9 c10:Addr}(X:K.In h)(G:h.Ns mainGlobals mg)(ag:PySem.W.nsIn K mainGlobals "GlideError"=some (some (.ref cG)))(qg:PySem.W.excIn K cG lP o9=true) (h0:PySem.W.nsIn K mainGlobals "NoFraction"=some (some (.ref c0)))(h1:PySem.W.nsIn K mainGlobals "NoRate"=some (some (.ref c1)))(h2:PySem.W.nsIn K mainGlobals "NoItem"=some (some (.ref c2)))(h3:PySem.W.nsIn K mainGlobals "OffRails"=some (some (.ref c3)))(h4:PySem.W.nsIn K mainGlobals "Full"=some (some (.ref c4)))(h5:PySem.W.nsIn K mainGlobals "Moving"=some (some (.ref c5)))(h6:PySem.W.nsIn K mainGlobals "NoTape"=some (some (.ref c6)))(h7:PySem.W.nsIn K mainGlobals "NoText"=some (some (.ref c7)))(h8:PySem.W.nsIn K mainGlobals "NoMachine"=some (some (.ref c8)))(h9:PySem.W.nsIn K mainGlobals "NoPlace"=some (some (.ref c9)))(h10:PySem.W.nsIn K mainGlobals "NoLine"=some (some (.ref c10)))(v:PySem.W.nsIn K mainGlobals "ValueError"=some none) (q1:PySem.W.excIn K c1 lP o9=true)(q5:PySem.W.excIn K c5 lP o9=true) (kat:takes K c1 cG)(kax:kf K c1)(kai0:PySem.W.kitOne K (.ref c1) (.ref c0)=some false)(kai1:PySem.W.kitOne K (.ref c1) (.ref c1)=some true)(kai2:PySem.W.kitOne K (.ref c1) (.ref c2)=some false)(kai3:PySem.W.kitOne K (.ref c1) (.ref c3)=some false)(kai4:PySem.W.kitOne K (.ref c1) (.ref c4)=some false)(kai5:PySem.W.kitOne K (.ref c1) (.ref c5)=some false)(kai6:PySem.W.kitOne K (.ref c1) (.ref c6)=some false)(kai7:PySem.W.kitOne K (.ref c1) (.ref c7)=some false)(kai8:PySem.W.kitOne K (.ref c1) (.ref c8)=some false)(kai9:PySem.W.kitOne K (.ref c1) (.ref c9)=some false)(kai10:PySem.W.kitOne K (.ref c1) (.ref c10)=some false)(kav:PySem.W.kitOne K (.ref c1) (.type "ValueError")=some true) (kbt:takes K c5 cG)(kbx:kf K c5)(kbi0:PySem.W.kitOne K (.ref c5) (.ref c0)=some false)(kbi1:PySem.W.kitOne K (.ref c5) (.ref c1)=some false)(kbi2:PySem.W.kitOne K (.ref c5) (.ref c2)=some false)(kbi3:PySem.W.kitOne K (.ref c5) (.ref c3)=some false)(kbi4:PySem.W.kitOne K (.ref c5) (.ref c4)=some false)(kbi5:PySem.W.kitOne K (.ref c5) (.ref c5)=some true)(kbi6:PySem.W.kitOne K (.ref c5) (.ref c6)=some false)(kbi7:PySem.W.kitOne K (.ref c5) (.ref c7)=some false)(kbi8:PySem.W.kitOne K (.ref c5) (.ref c8)=some false)(kbi9:PySem.W.kitOne K (.ref c5) (.ref c9)=some false)(kbi10:PySem.W.kitOne K (.ref c5) (.ref c10)=some false)(kbv:PySem.W.kitOne K (.ref c5) (.type "ValueError")=some true) :∃X,yG K mg X:=⟨⟨cG,c0,c1,c2,c3,c4,c5,c6,c7,c8,c9,c10⟩,⟨Jd X G ag qg,⟨lJ X G h0,lJ X G h1,lJ X G h2,lJ X G h3,lJ X G h4,lJ X G h5,lJ X G h6,lJ X G h7,lJ X G h8,lJ X G h9,lJ X G h10,PySem.W.mg_none_of X G v⟩,Jd X G h1 q1,Jd X G h5 q5,⟨kat,kax,kai0,kai1,kai2,kai3,kai4,kai5,kai6,kai7,kai8,kai9,kai10,kav⟩,⟨kbt,kbx,kbi0,kbi1,kbi2,kbi3,kbi4,kbi5,kbi6,kbi7,kbi8,kbi9,kbi10,kbv⟩⟩⟩
structure UG(K:aa)(mg:bD)(C D:Addr):Prop where
 tc:cX K C
 init:CA K mg C "Runner" "Runner.__init__" Eg
 a2Z:MA K C "place" "Runner.place" Ec
 a31:MA K C "leads_to" "Runner.leads_to" Ef
 a2X:MA K C "square" "Runner.square" E7
 a2Y:MA K C "rate" "Runner.rate" Eb
 a2T:MA K C "tool" "Runner.tool" E6
 a32:MA K C "last_mark" "Runner.last_mark" Ee
 a2R:MA K C "waiting" "Runner.waiting" E4
 a33:MA K C "is_held" "Runner.is_held" Ej
 a2W:MA K C "stands" "Runner.stands" Ea
 a34:MA K C "is_halted" "Runner.is_halted" Ei
 a37:MA K C "feed" "Runner.feed" El
 a39:MA K C "entries" "Runner.entries" En
 a38:MA K C "entries_of_first" "Runner.entries_of_first" Em
 a2V:MA K C "steps_of_first" "Runner.steps_of_first" E9
 a30:MA K C "next_square" "Runner.next_square" Ed
 a3a:MA K C "end_first" "Runner.end_first" Eo
 a2U:MA K C "stops_in" "Runner.stops_in" E8
 a35:MA K C "hold" "Runner.hold" Eh
 a36:MA K C "go" "Runner.go" Ek
 a3b:MA K C "drop" "Runner.drop" Ep
 a2S:MA K C "turn_rate" "Runner.turn_rate" E5
 td:nu K D
 a97:CA K mg D "Desk" "Desk.__init__" Fc
 say:MA K D "say" "Desk.say" DR
 XF:MA K D "say_steps" "Desk.say_steps" DS
 XG:MA K D "say_rate" "Desk.say_rate" DT
structure All(w:World)(K:aa)(mg:bD):Prop where
 B:bB mg
 vb:GT K mg "NOUGHT" [.int 0,.int 1]
 a6L:GT K mg "SIDES" [.str "up",.str "down"]
 a71:GT K mg "AXES" [.int 2,.int 3]
 a6N:GV mg "PART" (.int 10000000000000000000000000000000000000000000000000000000000000000)
 a6M:GV mg "PART_FIGURES" (.int 64)
 a6T:GV mg "LONGEST_RAIL" (.int 100)
 a6Z:GV mg "GREATEST_CHANGE" (.int 50)
 a6P:GV mg "MOST_TICKS" (.int 100)
 a6Q:GV mg "MOST_STEPS" (.int 100)
 a6X:GV mg "GREATEST_SPEED" (.int 20)
 a6S:GV mg "LONGEST_WAIT" (.int 1000)
 a6U:GV mg "LONGEST_NAME" (.int 8)
 a6W:GV mg "LEAST_RATE" (.int 10)
 a6Y:GV mg "GREATEST_RATE" (.int 200)
 Sa:GV mg "FIRST_RATE" (.int 100)
 a6O:GV mg "MOST_WAITING" (.int 20)
 a6R:GV mg "MOST_ENTRIES" (.int 100)
 a6V:GV mg "LETTERS" (.str iL)
 a70:GV mg "FIGURES" (.str vd)
 IM:GV mg "NOTHING" (.str "none")
 ans:∃a,GD w K mg "ANSWERS" a/\(PySem.W.nsIn K a "place"=some (mg "answer_place")/\∃v,PySem.W.nsIn K a "place"=some (some v))/\(PySem.W.nsIn K a "square"=some (mg "answer_square")/\∃v,PySem.W.nsIn K a "square"=some (some v))/\(PySem.W.nsIn K a "stop"=some (mg "answer_stop")/\∃v,PySem.W.nsIn K a "stop"=some (some v))/\(PySem.W.nsIn K a "waits"=some (mg "answer_waits")/\∃v,PySem.W.nsIn K a "waits"=some (some v))/\(PySem.W.nsIn K a "plan"=some (mg "answer_plan")/\∃v,PySem.W.nsIn K a "plan"=some (some v))/\(PySem.W.nsIn K a "tool"=some (mg "answer_tool")/\∃v,PySem.W.nsIn K a "tool"=some (some v))/\(PySem.W.nsIn K a "mark"=some (mg "answer_mark")/\∃v,PySem.W.nsIn K a "mark"=some (some v))/\(PySem.W.nsIn K a "state"=some (mg "answer_state")/\∃v,PySem.W.nsIn K a "state"=some (some v))/\(PySem.W.nsIn K a "hold"=some (mg "answer_hold")/\∃v,PySem.W.nsIn K a "hold"=some (some v))/\(PySem.W.nsIn K a "go"=some (mg "answer_go")/\∃v,PySem.W.nsIn K a "go"=some (some v))/\(PySem.W.nsIn K a "drop"=some (mg "answer_drop")/\∃v,PySem.W.nsIn K a "drop"=some (some v))/\PySem.W.nsIn K a "line"=some none/\PySem.W.nsIn K a "wait"=some none/\PySem.W.nsIn K a "steps"=some none/\PySem.W.nsIn K a "rate"=some none
 cls:∃X,yG K mg X
 dk:∃C D,UG K mg C D
 law:FA K mg "law" wH
 a7R:FA K mg "is_whole" ES
 a7Q:FA K mg "is_whole_within" DH
 a7W:FA K mg "is_machine" EW
 a7U:FA K mg "is_place" EU
 a85:FA K mg "are_rails" Fu
 a7Y:FA K mg "is_item" EY
 Sr:FA K mg "is_line" ER
 a7E:FA K mg "place_behind" Fh
 a7J:FA K mg "moved" EB
 a84:FA K mg "are_steps" Ft
 a7S:FA K mg "is_short_item" ET
 a7V:FA K mg "is_name" EV
 a80:FA K mg "fraction" F1
 a7C:FA K mg "plus_whole" Et
 a7K:FA K mg "minus" ED
 a7p:FA K mg "times" DL
 a7X:FA K mg "is_less" EF
 a7M:FA K mg "least" EG
 a7L:FA K mg "lowest_terms" EI
 a82:FA K mg "common_divisor" Fe
 a7N:FA K mg "lead_of" EH
 a7n:FA K mg "ways_of" DG
 a7t:FA K mg "stand_at" DQ
 a7r:FA K mg "step_rows" E1
 a7I:FA K mg "nearest" Ey
 a81:FA K mg "corner_square" Fd
 a7o:FA K mg "top_square" DJ
 a7T:FA K mg "is_rate" EO
 a7Z:FA K mg "greatest_turn" DI
 So:FA K mg "own_bounds" A5
 a83:FA K mg "bound_between" Fg
 a7D:FA K mg "plan_of" Er
 a7O:FA K mg "kept_by_rise" E2
 Sq:FA K mg "kept_by_fall" A6
 a7q:FA K mg "ticks_of" DM
 a86:FA K mg "are_enough" F8
 a7s:FA K mg "step_entry" F7
 a7B:FA K mg "reach_behind_first" E3
 a7z:FA K mg "show_fraction" DY
 a7w:FA K mg "show_number" DV
 a7v:FA K mg "show_numbers" DU
 a7y:FA K mg "show_item" DW
 a7x:FA K mg "show_items" DX
 a7A:FA K mg "show_entry" DZ
 a7P:FA K mg "item_in" EN
 a7G:FA K mg "numbers_in" Ew
 a7u:FA K mg "size_of" DP
 a7H:FA K mg "number_in" EA
 a8f:FA K mg "answer_hold" Fz
 a8g:FA K mg "answer_go" FC
 a8h:FA K mg "answer_drop" ud
 a8d:FA K mg "answer_place" Fx
 a8b:FA K mg "answer_square" Fv
 a89:FA K mg "answer_stop" Fs
 a87:FA K mg "answer_waits" Fp
 a8c:FA K mg "answer_plan" Fw
 a88:FA K mg "answer_tool" Fq
 a8e:FA K mg "answer_mark" Fy
 a8a:FA K mg "answer_state" Fm
 a7F:FA K mg "only_number" Eu
 a8x:FA K mg "_law_bag" Fi
 a8j:FA K mg "_law_take" DN
 a8n:FA K mg "_law_machine" EE
 a8l:FA K mg "_law_place" Es
 a8m:FA K mg "_law_name" Ez
 a8q:FA K mg "_law_item" EM
 a8o:FA K mg "_law_line_from" EZ
 a8p:FA K mg "_law_item_text" EJ
 a8r:FA K mg "_law_fraction_text" EK
 a8t:FA K mg "_law_entry_text" EL
 a8y:FA K mg "_law_asked" Fj
 a8k:FA K mg "_law_state_due" F9
 a8v:FA K mg "_law_class" me
 a8i:FA K mg "_law_told" DK
 a8u:FA K mg "_law_deed" Fb
 a8w:FA K mg "_law_by_runner" Ff
 a8s:FA K mg "_law_fed" F3
theorem aa6{P:af}{w:World}{K:aa}{mg:bD}{ao:Heap}{f:Addr}{fd:FuncData}(A:All w K mg)(F:ka K "law" "law" wH f fd):eG P w K mg ao ib 16 f fd ["_law_script"] (LW K):=by
 obtain⟨gA,GA,a0,a1,a2,a3,a4,a5,a6,a7,a8,a9,a10,b1,b2,b3,b4⟩:=A.ans;obtain⟨X,EX⟩:=A.cls;obtain⟨C,D,R⟩:=A.dk;have TC:=R.tc;have tk:aA P w K mg ao "_law_take" 1 m9:=ZV A.a8j A.B;have cd:aA P w K mg ao "common_divisor" 1 Dt:=a1n A.a82 A.B;have lt:aA P w K mg ao "lowest_terms" 2 wA:=a0I A.a7L A.B cd;have iw:aA P w K mg ao "is_whole" 1 (zW K):=a0Q A.a7R A.B;have ww:aA P w K mg ao "is_whole_within" 2 (m8 K):=ZO A.a7Q A.B iw;have fn:aA P w K mg ao "fraction" 3 (uc K):=a1c A.a80 A.B iw lt;have ld:aA P w K mg ao "lead_of" 1 (nU K):=a0O A.a7N A.B;have ls:aA P w K mg ao "is_less" 1 (zU K):=a0L A.a7X A.B;have cp:aA P w K mg ao "corner_square" 6 (Du K):=a1l A.a81 A.B (ZQ A.a7Z A.B (ZP A.a7n A.B ld fn) (a0G A.a7K A.B lt) ls) fn;have QM:aA P w K mg ao "is_rate" 3 (zQ K):=a0T A.a7T A.B A.a6W A.a6Y ww;have tp:aA P w K mg ao "top_square" 4 (zN K):=ZR A.a7o A.B QM fn;have uR:aA P w K mg ao "is_line" 1 (pF K):=a0U A.Sr A.B;have lst:aA P w K mg ao "least" 2 (kN K):=a0N A.a7M A.B ls;have U5:aA P w K mg ao "bound_between" 7 (A0 K):=a1p A.a83 A.B A.vb uR tp cp lst;have own:aA P w K mg ao "own_bounds" 8 (Dj K):=a0z A.So A.B A.vb U5;have pw:aA P w K mg ao "plus_whole" 4 (ub K):=a0v A.a7C A.B;have pl:aA P w K mg ao "plan_of" 9 (zR K):=a0w A.a7D A.B own (a0k A.a7O A.B uR ld pw lst) (a1f A.Sq A.B uR ld pw lst);have nr:aA P w K mg ao "nearest" 1 Dm:=a0D A.a7I A.B;have Lq:aA P w K mg ao "stand_at" 2 (zO K):=ZX A.a7t A.B ld nr;have sr:aA P w K mg ao "step_rows" 3 (D4 K):=a0g A.a7r A.B ld Lq;have ent:aA P w K mg ao "step_entry" 3 (Dr K):=a1g A.a7s A.B (ZU A.a7q A.B (a1h A.a86 A.B));have QI:aA P w K mg ao "is_item" 4 (zV K):=a1a A.a7Y A.B A.a6X ww (a1x A.a84 A.B A.a6Q ww) (a0W A.a7S A.B A.a6S A.a6L ww (a0Y A.a7V A.B A.a6U A.a6V));have QK:aA P w K mg ao "is_place" 3 (zX K):=a0X A.a7U A.B ww;have Q3:aA P w K mg ao "moved" 1 (zT K):=a0F A.a7J A.B;have JF:aA P w K mg ao "place_behind" 2 (wC K):=a1q A.a7E A.B uR Q3;have We:aA P w K mg ao "times" 3 (wy (·*·) K):=ZT A.a7p A.B lt;have Yt:aA P w K mg ao "reach_behind_first" 9 (D5 K):=a0u A.a7B A.B (a0y A.So A.B A.vb U5) (a1e A.Sq A.B uR ld pw lst);have wQ:=a0n (P:=P) (w:=w) (mg:=mg) (ao:=ao) R.a33 TC;have Ad:=a0d (P:=P) (w:=w) (ao:=ao) R.a2W TC A.vb;have FT:=a0m R.a34 TC wQ Ad;have Ot:=a0j R.a31 TC JF;have Oz:=a0p R.a37 TC A.B A.a6O QI QK JF Ot;have Yh:=a0h R.a30 TC pw We fn lst wQ;have ref:=a0s R.a3a TC JF;have Y8:=a0c R.a2V TC A.B ld sr tp Yt ent FT Yh ref;have Yo:=a0q R.a38 TC uR Y8 ref;have OA:=a0r R.a39 TC A.B FT Yo;have FN:=a0b (P:=P) (w:=w) (mg:=mg) (ao:=ao) R.a2U TC;have Ox:=a0l R.a35 TC FN wQ;have Oy:=a0o (P:=P) (w:=w) (ao:=ao) R.a36 TC A.B;have FO:=a0f R.a2Z TC Q3 Lq;have A9:=a07 (P:=P) (w:=w) (ao:=ao) R.a2R TC A.B;have Oi:=a0a (P:=P) (w:=w) (mg:=mg) (ao:=ao) R.a2X TC;have Oj:=a0e (P:=P) (w:=w) (mg:=mg) (ao:=ao) R.a2Y TC;have Og:=a08 (P:=P) (w:=w) (mg:=mg) (ao:=ao) R.a2T TC;have Oq:=a0i (P:=P) (w:=w) (mg:=mg) (ao:=ao) R.a32 TC;have im:aA P w K mg ao "is_machine" 4 (wB kB K):=a0Z A.a7W A.B A.a6P A.a6Z ww (a1y A.a85 A.B A.a71 A.a6T ww);have Af:=a0t R.a3b TC A.B EX.m FT FO;have Oh:=a09 R.a2S TC EX.r EX.m QM Ad;have GG:aA P w K mg ao "number_in" 2 wz:=a0C A.a7H A.B A.a70 (ZW A.a7u A.B);have nsi:aA P w K mg ao "numbers_in" 3 (Dl K):=a0B A.a7G A.B GG;have iti:aA P w K mg ao "item_in" 5 (Dn K):=a0R A.a7P A.B GG nsi QI;have md:aA P w K mg ao "show_number" 1 kn:=a01 A.a7w A.B A.a6N A.a6M;have Dx:=a00 (P:=P) (w:=w) (ao:=ao) A.a7v A.B md;have Mh:=a02 A.a7y A.B (a0V A.Sr A.B) Dx md;have Xk:=a03 (P:=P) (w:=w) (ao:=ao) A.a7x A.B Mh;have DD:=a04 (P:=P) (w:=w) (ao:=ao) A.a7z A.B md;have lit:=a0J (P:=P) (w:=w) (ao:=ao) A.a8p A.B;have Qu:=a0K (P:=P) (w:=w) (ao:=ao) A.a8r A.B;have len:=a0M A.a8t A.B lit Qu;have AA:=a0A A.a7F A.B GG;have X6:=ZY R.XF R.td TC A.B A.a6R A.IM AA ww (a05 A.a7A A.B Mh Dx DD md) OA;have X7:=ZZ R.XG R.td TC A.B md AA Oh;have hW:∀v:Wd,∃fn,PySem.W.nsIn K gA v.txt=some (mg fn)/\qG P w K mg ao fn 10 (jL K C X.c5 v):=λv=>by cases v with |place=>exact⟨_,a0.1,(a1B A.a8d A.B TC Dx FO).d.le ay⟩ |square=>exact⟨_,a1.1,(a1z A.a8b A.B TC DD Oi).d.le ay⟩ |stop=>exact⟨_,a2.1,(a1v A.a89 A.B md TC FN).d.le ay⟩ |vY=>exact⟨_,a3.1,(a1t A.a87 A.B TC A.IM Xk A9).d.le ay⟩ |rM=>exact⟨_,a4.1,(a1A A.a8c A.B TC pl DD A9 Oj).d.le ay⟩ |qU=>exact⟨_,a5.1,(a1u A.a88 A.B TC Og).d.le ay⟩ |mark=>exact⟨_,a6.1,(a1C A.a8e A.B TC A.IM Oq).d.le ay⟩ |state=>exact⟨_,a7.1,(a1s A.a8a A.B TC wQ Ad).d.le ay⟩ |hold=>exact⟨_,a8.1,(a1D A.a8f A.B md TC Ox).d.le ay⟩ |go=>exact⟨_,a9.1,(a1E A.a8g A.B md TC Oy).d.le ay⟩ |drop=>exact⟨_,a10.1,(a1F A.a8h A.B md TC Af).le ay⟩
 have say:=a06 R.say R.td TC A.B md GA ⟨b1,b2,a5.2,a6.2,b3,b4⟩ hW iti X6 X7 Oz;have cls:=a1m (P:=P) (w:=w) (ao:=ao) A.a8v A.B EX.n;have ask:=a1w A.a8y A.B R.td say.n;have due:=a1i A.a8k A.B TC lit Qu pl A9 Oj FO Oi FN Og Oq wQ Ad;have told:=ZS A.a8i A.B R.td EX say cls;have byr:=a1o A.a8w A.B TC EX len OA Oh Ox Oy Af cls;have itl:=a0S A.a8q A.B tk (a0E A.a8m A.B tk);have sT:=a1d A.a8s A.B R.td TC tk itl (a1b A.a8o A.B tk) lit Ot A9 Oz say.n;exact a0P F A.B R.td TC (a1r A.a8x A.B) tk (a0H A.a8n A.B tk) (a0x A.a8l A.B tk) (a1k A.a8u A.B tk) (a1j R.a97 R.td im QK (Pq R.init TC A.vb A.Sa)) (Pq R.init TC A.vb A.Sa) ask due sT told byr
end _b
end
set_option maxHeartbeats 1000000
set_option exponentiation.threshold 6000
def PySem.W.Fast.tw9336767466919772064:PySem.Program:=PySem.Challenge.pw_glidequeue_k56_asked_at_a_desk
theorem PySem.W.Fast.te9336767466919772064:PySem.Challenge.pw_glidequeue_k56_asked_at_a_desk=PySem.W.Fast.tw9336767466919772064:=rfl
local macro_rules|`(command|universe $x:ident)=>return Lean.mkNullNode (<-((x.getId.toString.splitOn "_").drop 1).toArray.mapM fun i=>`(command|theorem $(Lean.mkIdent (`_root_.PySem.W.Fast++Lean.Name.mkSimple s!"tw{(`PySem.Challenge.cw_glidequeue_k56_asked_at_a_desk_holds++Lean.Name.mkSimple ((match i.front with|'h'=>"heap"|'t'=>"tree"|'v'=>"view"|'s'=>"sts"|'e'=>"env"|_=>"o")++"_"++(i.drop 1).toString)).hash}")):ident:True:=True.intro))
universe t_h1078_t904_v39_h39_t753_t962_t497_t488_t411_t340_t1077_o1045_s963_o963_s498_o909_t234_o905_t827_o828_t219_t906_o757_s909_t204_s757_s1045_s412_t182_o489_o412_s275_t160_o341_t667_s341_t1044_t145_o275_o1077_o1075_o1037_s828_o1035_s235_o996_o1044_o1042_o618_t108_o611_o498_o931_o609_o616_o1065_o936_o929_o1063_o934_o1072_o998_o1070_o1005_o235_o1003_t130_o662_o269_t93_o590_o267_o439_o502_o941_o588_o474_o404_o810_o939_o402_o772_o770_o289_o808_o472_o287_o467_o983_o465_o981_o441_o513_o820_o313_o325_o274_o818_o311_o220_o680_o272_o453_o205_o1053_t78_o451_o1027_o791_o446_o803_o1051_o349_o883_o183_o1025_o971_s905_o1032_o924_o789_o801_o444_o161_o1030_o922_o969_o604_o1060_o146_o1015_o281_o602_o399_o279_o881_o1058_o653_o1013_o131_o660_o323_o1010_o696_o948_o597_o651_o595_o320_o397_s489_o993_t274_o946_o481_o420_o1008_o109_o991_o318_o94_o356_o671_o658_o479_o418_o308_o460_o394_o306_o354_o79_o333_o988_o427_o49_o347_o392_o458_o689_o331_o978_o986_o64_o363_o488_o518_o796_o904_o425_o976_o906_o632_o777_o639_o637_o625_o384_o630_o902_o486_o765_o784_o775_o361_o525_o794_o389_o497_o950_o614_o382_t63_o763_o387_o782_o623_o432_o340_o913_o370_o411_o495_o377_o710_o646_o815_o607_o263_o256_o303_o878_o827_o375_o177_s161_o338_o143_o644_o368_o409_o261_o813_o301_o240_o752_o434_o254_o437_o825_o1022_o1001_o661_o876_o175_o1068_o834_o562_o576_o750_o843_o1020_s109_o836_o857_o850_o864_o897_o960_o76_o125_o247_o871_o743_o166_o569_o729_o111_o199_s183_o114_o463_o188_o127_o724_o962_o548_o201_o484_o895_o416_o703_o180_o158_o217_o91_o232_o128_o202_o106_o848_o890_o855_o869_o841_o862_o345_o197_o285_o715_o722_o84_o123_o179_o225_o59_o210_o99_o151_o927_o352_o470_o359_o806_o136_o69_o826_o736_o449_o296_o53_o90_o237_o539_o532_o96_o930_o133_o81_o974_o207_o66_o603_o477_o652_o730_o185_o596_o617_o60_o148_o163_o589_o1036_o246_o142_o216_o610_o105_o768_o967_o787_o799_o157_o231_o222_o888_o540_o294_o695_o977_o336_o849_o889_o1026_o1031_o1052_o952_o992_o1059_o628_o456_o380_o1064_o744_o154_o802_o663_o823_o124_h46_o198_o935_o348_o523_o951_o445_o45_o920_o547_o324_o480_o459_s49_o307_o631_o940_o582_o659_o638_o624_o519_o702_o645_o681_o723_o947_o568_o176_o75_o255_o169_o678_o373_o923_o214_o780_o1049_o593_o407_o259_o600_o173_o493_o1040_o761_o944_o366_o1071_o961_o1076_o496_o243_o87_o487_o273_o664_o295_o117_o982_o505_o388_o819_o410_o302_o403_o280_o355_o262_o842_o896_o863_o970_o771_o433_o369_o139_o987_o376_o332_o440_o312_o398_o783_o56_o790_o835_o228_o268_o776_o288_o72_o795_o997_o1021_o102_o191_o393_o362_o213_o877_o426_o870_o903_o466_o856_o1043_o1009_o764_o1014_o419_o916_o339_o809_o814_o473_o1004_o383_o423_o319_o882_o452_o299_o61_o135
open PySem PySem.W PyProof.Rows
set_option maxRecDepth 100000 in
set_option maxHeartbeats 0 in
theorem PySem.Challenge.cw_glidequeue_k56_asked_at_a_desk_holds : PySem.Challenge.rw_glidequeue_k56_asked_at_a_desk.Holds := by
 w_on; o_law; k_head; (case hw=>w_witness2)
 k_fill
 refine _L.a3y (l:=PySem.Challenge.rw_glidequeue_k56_asked_at_a_desk) (k:=16) (x:="_law_script") (st:=_b.wH) rfl rfl ⟨rfl,by decide,by decide⟩ (fun w h Y=>PySem.W.kIn_of Y) _b.All ?F (fun _ _ _ A=>A.law) (fun _ _ _ _ _ _ _=>rfl) (fun _ _ _ _ _ _ _ A F=>_b.aa6 A F)
 case F=>
  intro w mg h KX G
  refine⟨_L.a9R KX G ?b,?t1,?t2,?t3,?gp0,?gp1,?gi0,?gi1,?gi2,?gi3,?gi4,?gi5,?gi6,?gi7,?gi8,?gi9,?gi10,?gi11,?gs0,?gs1,?gs2,?an,?cl,?dk,?fl,?ff0,?ff1,?ff2,?ff3,?ff4,?ff5,?ff6,?ff7,?ff8,?ff9,?ff10,?ff11,?ff12,?ff13,?ff14,?ff15,?ff16,?ff17,?ff18,?ff19,?ff20,?ff21,?ff22,?ff23,?ff24,?ff25,?ff26,?ff27,?ff28,?ff29,?ff30,?ff31,?ff32,?ff33,?ff34,?ff35,?ff36,?ff37,?ff38,?ff39,?ff40,?ff41,?ff42,?ff43,?ff44,?ff45,?ff46,?ff47,?ff48,?ff49,?ff50,?ff51,?ff52,?ff53,?ff54,?ff55,?ff56,?ff57,?ff58,?ff59,?ff60,?ff61,?ff62,?ff63,?ff64,?ff65,?ff66,?ff67,?ff68,?ff69,?ff70,?ff71,?ff72,?ff73,?ff74,?ff75,?fz0⟩
  case b=>(unfold _L.BU; repeat (refine _L.qE.cons ?z ?_; (case z=>k_is))); exact _L.qE.nil
  case t1=>refine' _L.IJ KX G ?a ?l ?z ?r; (case a=>k_is); (case l=>k_is); (case z=>decide); (case r=>exact .cons ⟨_,rfl⟩ (.cons ⟨_,rfl⟩ .nil))
  case t2=>refine' _L.IJ KX G ?a ?l ?z ?r; (case a=>k_is); (case l=>k_is); (case z=>decide); (case r=>exact .cons ⟨_,rfl⟩ (.cons ⟨_,rfl⟩ .nil))
  case t3=>refine' _L.IJ KX G ?a ?l ?z ?r; (case a=>k_is); (case l=>k_is); (case z=>decide); (case r=>exact .cons ⟨_,rfl⟩ (.cons ⟨_,rfl⟩ .nil))
  case gp0=>(refine' _L.jw KX G ?z; (case z=>k_is))
  case gp1=>(refine' _L.jw KX G ?z; (case z=>k_is))
  case gi0=>(refine' _L.jw KX G ?z; (case z=>k_is))
  case gi1=>(refine' _L.jw KX G ?z; (case z=>k_is))
  case gi2=>(refine' _L.jw KX G ?z; (case z=>k_is))
  case gi3=>(refine' _L.jw KX G ?z; (case z=>k_is))
  case gi4=>(refine' _L.jw KX G ?z; (case z=>k_is))
  case gi5=>(refine' _L.jw KX G ?z; (case z=>k_is))
  case gi6=>(refine' _L.jw KX G ?z; (case z=>k_is))
  case gi7=>(refine' _L.jw KX G ?z; (case z=>k_is))
  case gi8=>(refine' _L.jw KX G ?z; (case z=>k_is))
  case gi9=>(refine' _L.jw KX G ?z; (case z=>k_is))
  case gi10=>(refine' _L.jw KX G ?z; (case z=>k_is))
  case gi11=>(refine' _L.jw KX G ?z; (case z=>k_is))
  case gs0=>(refine' _L.II KX G ?z; (case z=>k_is))
  case gs1=>(refine' _L.II KX G ?z; (case z=>k_is))
  case gs2=>(refine' _L.II KX G ?z; (case z=>k_is))
  case an=>
   refine' ⟨_,_L.a6H KX G ?ga ?gl ?gk ?go,_b.lR KX G ?e1x0 ?e2x0,_b.lR KX G ?e1x1 ?e2x1,_b.lR KX G ?e1x2 ?e2x2,_b.lR KX G ?e1x3 ?e2x3,_b.lR KX G ?e1x4 ?e2x4,_b.lR KX G ?e1x5 ?e2x5,_b.lR KX G ?e1x6 ?e2x6,_b.lR KX G ?e1x7 ?e2x7,_b.lR KX G ?e1x8 ?e2x8,_b.lR KX G ?e1x9 ?e2x9,_b.lR KX G ?e1x10 ?e2x10,?na0,?na1,?na2,?na3⟩
   case ga=>k_is
   case gl=>k_is
   case go=>decide
   case e1x0=>k_is
   case e2x0=>k_is
   case e1x1=>k_is
   case e2x1=>k_is
   case e1x2=>k_is
   case e2x2=>k_is
   case e1x3=>k_is
   case e2x3=>k_is
   case e1x4=>k_is
   case e2x4=>k_is
   case e1x5=>k_is
   case e2x5=>k_is
   case e1x6=>k_is
   case e2x6=>k_is
   case e1x7=>k_is
   case e2x7=>k_is
   case e1x8=>k_is
   case e2x8=>k_is
   case e1x9=>k_is
   case e2x9=>k_is
   case e1x10=>k_is
   case e2x10=>k_is
   case gk=>
    show KeysLit _ (_::_)
    repeat (first | exact trivial | refine And.intro ⟨_,_,rfl,rfl⟩ ?_)
   case na0 | na1 | na2 | na3=>k_is
  case cl=>
   refine' _b.a9q KX G ?ag ?qg ?h0 ?h1 ?h2 ?h3 ?h4 ?h5 ?h6 ?h7 ?h8 ?h9 ?h10 ?vv ?q1 ?q5 ?kat ⟨?kak1,?kak2,?kak3,?kak4,?kak5,?kak6,?kak7,?kak8⟩ ?kai0 ?kai1 ?kai2 ?kai3 ?kai4 ?kai5 ?kai6 ?kai7 ?kai8 ?kai9 ?kai10 ?kav ?kbt ⟨?kbk1,?kbk2,?kbk3,?kbk4,?kbk5,?kbk6,?kbk7,?kbk8⟩ ?kbi0 ?kbi1 ?kbi2 ?kbi3 ?kbi4 ?kbi5 ?kbi6 ?kbi7 ?kbi8 ?kbi9 ?kbi10 ?kbv
   case ag | h0 | h1 | h2 | h3 | h4 | h5 | h6 | h7 | h8 | h9 | h10 | vv=>k_is
   case qg | q1 | q5=>k_exc
   case kat=>(show PySem.W.mroIn _ _ _=_; k_is)
   case kbt=>(show PySem.W.mroIn _ _ _=_; k_is)
   case kak1 | kak2 | kak3 | kak4 | kak5 | kak6 | kak7 | kak8 | kbk1 | kbk2 | kbk3 | kbk4 | kbk5 | kbk6 | kbk7 | kbk8=>k_is
   case kai0 | kai1 | kai2 | kai3 | kai4 | kai5 | kai6 | kai7 | kai8 | kai9 | kai10 | kbi0 | kbi1 | kbi2 | kbi3 | kbi4 | kbi5 | kbi6 | kbi7 | kbi8 | kbi9 | kbi10 | kav | kbv=>kit_is
  case dk=>
   refine' ⟨_,_,_b.UG.mk (_b.cX.mk (_L.hZ.mk ?pg ?hd ?po ?sa) ?n1 ?n2 ?n3 ?n4 ?n5 ?n6 ?n7 ?n8 ?n9) (_L.TQ KX G ?aC ?mk ?kc ?ia ?iii ?il ?ic ?ik) (_L.fJ ?a0 ?i0 ?l0 ?c0 ?k0) (_L.fJ ?a1 ?i1 ?l1 ?c1 ?k1) (_L.fJ ?a2 ?i2 ?l2 ?c2 ?k2) (_L.fJ ?a3 ?i3 ?l3 ?c3 ?k3) (_L.fJ ?a4 ?i4 ?l4 ?c4 ?k4) (_L.fJ ?a5 ?i5 ?l5 ?c5 ?k5) (_L.fJ ?a6 ?i6 ?l6 ?c6 ?k6) (_L.fJ ?a7 ?i7 ?l7 ?c7 ?k7) (_L.fJ ?a8 ?i8 ?l8 ?c8 ?k8) (_L.fJ ?a9 ?i9 ?l9 ?c9 ?k9) (_L.fJ ?a10 ?i10 ?l10 ?c10 ?k10) (_L.fJ ?a11 ?i11 ?l11 ?c11 ?k11) (_L.fJ ?a12 ?i12 ?l12 ?c12 ?k12) (_L.fJ ?a13 ?i13 ?l13 ?c13 ?k13) (_L.fJ ?a14 ?i14 ?l14 ?c14 ?k14) (_L.fJ ?a15 ?i15 ?l15 ?c15 ?k15) (_L.fJ ?a16 ?i16 ?l16 ?c16 ?k16) (_L.fJ ?a17 ?i17 ?l17 ?c17 ?k17) (_L.fJ ?a18 ?i18 ?l18 ?c18 ?k18) (_L.fJ ?a19 ?i19 ?l19 ?c19 ?k19) (_L.fJ ?a20 ?i20 ?l20 ?c20 ?k20) (_b.nu.mk (_L.hZ.mk ?dpg ?dhd ?dpo ?dsa) ?d1 ?d2) (_L.TQ KX G ?daC ?dmk ?dkc ?dia ?dii ?dil ?dic ?dik) (_L.fJ ?sa0 ?si0 ?sl0 ?sc0 ?sk0) (_L.fJ ?sa1 ?si1 ?sl1 ?sc1 ?sk1) (_L.fJ ?sa2 ?si2 ?sl2 ?sc2 ?sk2)⟩
   (case aC=>k_is)
   (case daC=>k_is)
   case n1 | n2 | n3 | n4 | n5 | n6 | n7 | n8 | n9 | d1 | d2=>(unfold _L.gR; k_is)
   case pg | hd | po | sa | mk | kc | ia | iii | il | ic | ik | dpg | dhd | dpo | dsa | dmk | dkc | dia | dii | dil | dic | dik | sa0 | si0 | sl0 | sc0 | sk0 | sa1 | si1 | sl1 | sc1 | sk1 | sa2 | si2 | sl2 | sc2 | sk2 | a0 | i0 | l0 | c0 | k0 | a1 | i1 | l1 | c1 | k1 | a2 | i2 | l2 | c2 | k2 | a3 | i3 | l3 | c3 | k3 | a4 | i4 | l4 | c4 | k4 | a5 | i5 | l5 | c5 | k5 | a6 | i6 | l6 | c6 | k6 | a7 | i7 | l7 | c7 | k7 | a8 | i8 | l8 | c8 | k8 | a9 | i9 | l9 | c9 | k9 | a10 | i10 | l10 | c10 | k10 | a11 | i11 | l11 | c11 | k11 | a12 | i12 | l12 | c12 | k12 | a13 | i13 | l13 | c13 | k13 | a14 | i14 | l14 | c14 | k14 | a15 | i15 | l15 | c15 | k15 | a16 | i16 | l16 | c16 | k16 | a17 | i17 | l17 | c17 | k17 | a18 | i18 | l18 | c18 | k18 | a19 | i19 | l19 | c19 | k19 | a20 | i20 | l20 | c20 | k20=>k_is
  all_goals (refine' _L.a7m KX G ?a ?l ?c ?k; (case a=>k_is); (case l=>k_is); (case c=>k_is); (case k=>k_is))
#print axioms PySem.Challenge.cw_glidequeue_k56_asked_at_a_desk_holds
